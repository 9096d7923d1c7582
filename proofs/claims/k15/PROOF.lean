import PyProof.Rows.All
import Wide.All
import OpenK.AllK
import Wide.FinOn
import Lean
import PyProof.EqAt
import PyProof.EqKinds
import PyProof.TupleCall
import PySem.Challenge.RW_nofall_k15_whole_one_sort_alone
set_option genSizeOf false
set_option genSizeOfSpec false
set_option Elab.async false
set_option linter.all false
set_option maxRecDepth 100000
open PySem.PyData renaming int→Â,eqv→å,list→ē,canLayAll0→ħ,depthAll→Ķ,tuple→Ŏ
open List renaming length_map→Ä,getElem?_eq_some_iff→Æ,mem_singleton→É,mem_of_getElem?→Ê,getElem?_eq_getElem→Ë,mem_cons_of_mem→Í,length_append→Ð,mem_cons_self→Ó,size_toArray→Ù,replicate→Ú,mem_cons→Û,not_mem_nil→Ý,range→Þ,getElem?_map→à,mem_append_right→ã,mem_filter→æ,mem_append_left→è,mem_append→ë,map_append→ì,length_singleton→í,getElem?_append_left→ñ,map_cons→ò,getElem?_append_right→õ,getD_eq_getElem?_getD→ö,mem_zipIdx_iff_getElem?→û,length_cons→ÿ,length_filter_le→ā,getElem?_set_self→ă,mem_map→Ć,length_take→ć,length_range→č,mem_range→Ď,append_nil→Ĕ,take_add_one→ĕ,map_map→Ė,getElem?_of_mem→ė,take_length→ğ,all_eq_true→Ħ,append_assoc→ĩ,find?_cons→Ĭ,getElem_mem→į,getElem?_set_ne→Ļ,lookup_cons→Ŀ,mem_of_mem_take→Ń,replicate_succ→ŏ,take_of_length_le→ő,any_eq_true→ŕ,filter_append→ŗ,nodup_cons→ŝ,toArray→ş,nodup_append→Š,mem_iff_getElem→š,length_drop→ť,getElem?_replicate→Ŧ,head?_eq_getElem?→Ū,length_replicate→ų,reverse_cons→Ÿ,flatten_cons→Ź
open PySem renaming wpAny_bind→Å,wpAny_pure→Ø,sizeLine_eq→ü,wpAny_holding→Ē,wpAny_call_entry→ĳ,wpAny_truthy_bool→ĸ,wpAny_callSpecial?_slot→ļ,wpAny_mono→ń,mem_of_lookup→ŋ,wpAny_newObj_type→Ő,wpAny_pyIter_tuple→ś,wpAny_Call_Name_kw→Ŝ,wpAny_field→Ť,wpAny_passesOwn→ż
open Bool renaming and_eq_true→Ì,false_ne_true→Î,eq_false_iff→Ę,true_and→ě,eq_iff_iff→ĥ,false_eq_true→ī,not_eq_true'→Ŋ,or_eq_true→Ş
open PySem.Heap renaming lt_size→Ï,get?_push_of_some→Ò,get?_push_size→â,get?_update_other→Į,size_push→ķ,get?_update_self→Ľ,size_update→œ,get?_push_ne→Ŷ
open Option.some renaming inj→Ô
open Nat renaming le_refl→Õ,ne_of_lt→é,lt_of_lt_of_le→î,lt_irrefl→Ą,le_trans→ą,lt_succ_of_lt→Ĉ,zero_le→Ğ,ne_of_gt→Ĺ,lt_succ_self→ŀ,le_succ→Ņ
open PySem.W renaming Frag→á,mg_none_of→ę,boot_heap→ţ
open PySem.PassesOwn renaming never→ð
open PySem.Obj renaming mapSeq→ó
open PySem.Challenge renaming pw_nofall_k15_whole_one_sort_alone→ô
open Sum renaming inl→ú,inr→Ś
open PySem.NameKind renaming free→þ,cell→ď
open PyProof.Rows renaming callWith_type1→Ā,slot_tupleiter_next→Ŕ
open PySem.Value renaming type→Ă,ref→Ě,none→İ,int→Ň,bool→Ž
open Array renaming length_toList→đ
open PySem.Builtin.SmallTypes renaming nextOf→Ĝ,ownedTupleIsFree→ľ
open Ne renaming symm→ĝ
open PySem.Builtin.List renaming listExtendWith→Ĥ,listTooLong→ź,listSameRef→Ż
open ForInStep renaming yield→Ī
open Int renaming toNat_natCast→Ĵ,le_refl→ņ,emod_lt_of_pos→Ř,emod_nonneg→Ų
open PySem.F renaming slot_enumerate_next→ĺ,plainAttrs_list→ł,slot_enumerate_iter→Ű
open False renaming elim→Ţ
open True renaming intro→ũ
open PySem.Str renaming ofString→ū
open PySem.Builtin.Slice renaming slicePlaces→ű
open PySem.Builtin.Tuple renaming tupleExact→ŷ
open PySem renaming Program → Za,World → Zb,Params → Zd,DictEntry → Ze,Heap → Zg,OsState → Zh,treeTable → Zk,importedModules → Zl,wpAny_eqBool_int → Zm,sysModules → Zn,tupleKind → Zo,builtinsNs → Zp,bootBuiltins → Zq,Around → Zr,Scope → Zs,Expr → Zt,starEach → Zu,eval → Zv,backTo → Zw,foldedSetIterable → Zx,backToKw → Zy,keywordEach → Zz,Keyword → ZA,GenState → ZC,Model → ZD,isTrue → ZE,Stmt → ZF,wpAny_Name → ZG,CmpOp → ZH,compareOp → ZI,behindInMarks → ZJ,wpAny_Compare1 → ZK,wpAny_isTrue_Compare1 → ZL,truthy → ZM,wpAny_execs_nil → ZN,swapsWith → ZO,assign → ZP,assignInOrder → ZQ,assignEach → ZR,wpAny_assign_Name → ZT,wpAny_standAt → ZU,swapsWithSole → ZV,swappedStores → ZW,PassesOwn → ZX,pyNext → ZY,letOwnedTupleGo → ZZ,wpAny_load → Z0,rawInt → Z2,wpAny_pyNext_list_item → Z3,wpAny_pyNext_list_end → Z4,call → Z6,binaryOp → Z7,intBits_le_64 → Z8,recursionLimit → Z9,cLine → Yb,FuncData → Yc,BindsTo → Yd,codeAny → Ye,codeAny_mono → Yg,bindL → Yh,bindC → Yi,Arguments → Yk,noFill_tuple_add → Yl,seq_tuple_add → Ym,IsPart → Yn,getItem → Yp,wpAny_typeOf → Yq,evalPart_none → Yr,typeLookup → Ys,seqIndex_of → Yv,seqIndex_neg → Yw,subscripted → Yx,sliceBounds → Yz,typeIs_int → YA,attributeBase → YB,call_meets → YC,cellOf → YD,closureFor → YE,pushCells → YF,newFunctionEnv → YG,relabel → YH,newList → YI,wpAny_comprehension_free → YJ,wpAny_pyIter_list → YK,intItems → YN,numAt → YO,intItems_at → YQ,argBest → YR,wpAny_newTuple → Y4,wpAny_newList → Y5,collect → Y7,wpAny_runValue → Y8,codeAny_builtin → Y9,PyData → XN,wpAny_loadPart' → XO,field → XT,wpAny_seqItems → XU,wpAny_setField → XV,firstArgMember → XW,wpAny_pyNext_enum_itemD → XX,wpAny_letOwnedTupleGo_enum → XY,wpAny_attempt → XZ,wpAny_isInstance → X0,isSubtype_stop → X1,wpAny_pyIter_slot → X2,valueAt → X3,atKey → X4,tupleKind_room_in1 → X5,wpAny_specialOf → X6,ItemsOf → X7,plainId_quiet → X8,wpAny_setField_rec → X9,wpAny_nextOf_list_item → We,wpAny_nextOf_list_end → Wl,ZipApart → Wp,wpAny_pyNext_zip_end → WA,updateSeq → WB,wpAny_updateSeq → WE,typeLookup_type → WF,builtinLookup_eq_fast → WG,callType_codes → WH,code_list_new → WJ,wpAny_pyIter_zip → WN,ReadsAll → WU,call_sum_walk → WZ,Const → W2,nums_intItems → VA,numAt_eq → VC,wpAny_ite_split → VE,revObj → VM,SetTable → VO
open PySem.W renaming SharedT → Zc,boot_o_0 → Zf,boot_drawn → Zi,boot_toks → Zj,kas_rev → YL,kas_count → YM,kas_st → YT,kasC_bind → YU,kasC_get → YV,kasC_cons → YW,kasC_pure → YY
open PyProof.Rows renaming AllBare → ZB,Call_ → Z5,envOfC → Yj,slicePart_none → Yo,Subscript_ → Yt,subscriptTail → Yu,subscriptTail_builtinR → Yy,tuples' → YS,pendingOf → YX,seqObj → YZ,listItems_at → Y0,listUpdate_at → Y1,get?_update_seq → Y2,seqEpoch_at → Y3,size_push' → Y6,entry_proto_collect' → Xs,entry_list_iadd' → XA,slot_list_sort → XB,entry_list_sort → XE,args_list_sort → XG,sortedAll_old → XI,boot_list → WO,boot_tuple → WP,boot_sorted → WS,step_dedup → W1,boot_int → VQ
noncomputable section
local macro_rules|`(())=>`(by lia)
local macro_rules|`(∅)=>`(by decide)
local macro_rules|`(⋯)=>`(by decide +kernel)
local macro_rules|`(⇑$x)=>`(($x).length)
local macro_rules|`(↥$x)=>`(($x).heap.objs.size)
local macro_rules|`(tactic|let $p:term:=$e)=>do
 let rec go(n:Nat)(p:Lean.Syntax):Lean.MacroM (Lean.TSyntax `rcasesPat):=match n with
  |0=>Lean.Macro.throwUnsupported
  |n+1=>match p with
   |`(⟨$xs,*⟩)=>do
    let ys<-xs.getElems.mapM λx=>do let y<-go n x;`(Lean.Parser.Tactic.rcasesPatLo|$y:rcasesPat)
    `(rcasesPat|⟨$ys,*⟩)
   |`(_)=>`(rcasesPat|_)
   |`($x:ident)=>`(rcasesPat|$x:ident)
   |_=>Lean.Macro.throwUnsupported
 let q<-go 50 p
 `(tactic|obtain $q:rcasesPat:=$e)
abbrev ZS:=PySem.Str
abbrev aa:ZS:="web"
abbrev ac:ZS:="thing"
abbrev ad:ZS:="_law_web_here"
abbrev ae:ZS:="_law_pen"
abbrev af:ZS:="place"
abbrev ag:ZS:="_law_some_here"
abbrev ah:ZS:="apart"
abbrev ai:ZS:="ways"
abbrev ak:ZS:="_law_a"
abbrev al:ZS:="_law_b"
abbrev am:ZS:="tie"
abbrev ar:ZS:="_law_script"
abbrev av:ZS:="_law_told"
abbrev ax:ZS:="count"
abbrev ay:ZS:="arcs"
abbrev az:ZS:="used"
abbrev aE:ZS:="_law_other"
abbrev aI:ZS:="a"
abbrev aS:ZS:="_law_turn"
abbrev aT:ZS:="_law_found"
abbrev a6:ZS:="b"
abbrev a7:ZS:="indexes"
abbrev a8:ZS:="_law_n"
abbrev a9:ZS:="_law_one"
abbrev ba:ZS:="_law_k"
abbrev bb:ZS:="places"
abbrev bc:ZS:="start"
abbrev bd:ZS:="index"
abbrev bg:ZS:="number"
abbrev bh:ZS:="check_two_places"
abbrev bi:ZS:="is_row_of_places"
abbrev bo:ZS:="is_parting_place"
abbrev bp:ZS:="_law_ties"
abbrev bq:ZS:="_law_great"
abbrev bu:ZS:="has_form_of_way"
abbrev bv:ZS:="shows_by_places"
abbrev bz:ZS:="goal"
abbrev bE:ZS:="arcs_of_places"
abbrev bP:ZS:="is_parting_tie"
abbrev bS:ZS:="other"
abbrev bX:ZS:="_law_number"
abbrev ca:ZS:="is_tie_number"
abbrev cb:ZS:="parts_without"
abbrev cc:ZS:="parting_place"
abbrev cf:ZS:="two_by_places"
abbrev ci:ZS:="shows_by_ties"
abbrev ck:ZS:="steps"
abbrev cn:ZS:="_law_few"
abbrev cq:ZS:="steps_of_web"
abbrev cr:ZS:="side_without"
abbrev cv:ZS:="without_ties"
abbrev cw:ZS:="joined_again"
abbrev cx:ZS:="arcs_of_ties"
abbrev cy:ZS:="meet_nowhere"
abbrev cz:ZS:="enumerate"
abbrev cE:ZS:="_law_back"
abbrev cK:ZS:="_law_both"
abbrev c5:ZS:="_law_fallen"
abbrev da:ZS:="_law_barred"
abbrev db:ZS:="check_place"
abbrev di:ZS:="steps_along"
abbrev dl:ZS:="arcs_of_two"
abbrev dm:ZS:="parting_tie"
abbrev dn:ZS:="two_by_ties"
abbrev dq:ZS:="is_same_set"
abbrev dr:ZS:="is_two_ways"
abbrev dt:ZS:="_law_stroll"
abbrev du:ZS:="_law_start"
abbrev dy:ZS:="is_whole"
abbrev dA:ZS:="steps_left"
abbrev dC:ZS:="nodes"
abbrev dE:ZS:="_law_agree"
abbrev dL:ZS:="_law_right"
abbrev dP:ZS:="_law_take"
abbrev dQ:ZS:="_law_more"
abbrev dS:ZS:="two_along"
abbrev dV:ZS:="by_places"
abbrev d4:ZS:="_law_pair"
abbrev d5:ZS:="_law_some"
abbrev d6:ZS:="numbers"
abbrev ef:ZS:="one"
def eg:=@decide_eq_false
def eh:=@of_decide_eq_true
def ei:=@decide_eq_true_eq
def el:=@if_pos
def em:=@if_neg
def er:=@absurd
def et:=@congrArg
def ew:=@beq_self_eq_true
def ez:=@beq_iff_eq
def eA:=@eq_of_beq
abbrev eB:=PySem.Value->PySem.Shared->Prop
namespace Nf
open PySem PySem.W PyProof.Rows
def qH(b:String->Option Builtin)(p:Za)(w:Zb)(m:Nat)(a:Option Value):Nat->Zc->Thread->Option Zc
 |0,_,_=>none
 |n+1,s,t=>match through t with
  |true=>some s
  |false=>match stepOk m a t with
   |false=>none
   |true=>match stepT (denote b) p w s t with
    |none=>none
    |some r=>qH b p w m a n r.1 r.2
theorem uR{c:String->Option Builtin}{p:Za}{w:Zb}{m:Nat}{a:Option Value}:∀{n:Nat}{s b:Zc}{t:Thread},qH c p w m a n s t=some b->topRun c p w m a n s.abs t=some b.abs
 |0,_,_,_,h=>by cases h
 |n+1,s,b,t,h=>by
  unfold qH at h;unfold topRun;cases he:through t with
  |true=>rw[he]at h;cases h;rfl
  |false =>
   rw[he]at h;cases hk:stepOk m a t with
   |false=>rw[hk]at h;cases h
   |true =>
    rw[hk]at h;cases hs:stepT (denote c) p w s t with
    |none=>rw[hs]at h;cases h
    |some r=>let⟨d,t2⟩:=r;rw[hs]at h;rw[stepT_spec hs];exact uR h
def uc(P:Zd):List Ze:=match(Zf P).data with|.dict a _=>a.toList|_=>[]
def gK(P:Zd)(i:Nat):List Ze:=((uc P).drop i).take 16
def b0(P:Zd):List Ze:=by
 refine(?f:(l:List Ze)->l=gK P 0->List Ze) ?l ?h
 case f=>exact λl _=>l
 case h=>unfold gK uc Zf;dsimp only[List.drop,List.take];exact rfl
def b1(P:Zd):List Ze:=by
 refine(?f:(l:List Ze)->l=gK P 16->List Ze) ?l ?h
 case f=>exact λl _=>l
 case h=>unfold gK uc Zf;dsimp only[List.drop,List.take];exact rfl
def b2(P:Zd):List Ze:=by
 refine(?f:(l:List Ze)->l=gK P 32->List Ze) ?l ?h
 case f=>exact λl _=>l
 case h=>unfold gK uc Zf;dsimp only[List.drop,List.take];exact rfl
def b3(P:Zd):List Ze:=by
 refine(?f:(l:List Ze)->l=gK P 48->List Ze) ?l ?h
 case f=>exact λl _=>l
 case h=>unfold gK uc Zf;dsimp only[List.drop,List.take];exact rfl
def b4(P:Zd):List Ze:=by
 refine(?f:(l:List Ze)->l=gK P 64->List Ze) ?l ?h
 case f=>exact λl _=>l
 case h=>unfold gK uc Zf;dsimp only[List.drop,List.take];exact rfl
def b5(P:Zd):List Ze:=by
 refine(?f:(l:List Ze)->l=gK P 80->List Ze) ?l ?h
 case f=>exact λl _=>l
 case h=>unfold gK uc Zf;dsimp only[List.drop,List.take];exact rfl
def b6(P:Zd):List Ze:=by
 refine(?f:(l:List Ze)->l=gK P 96->List Ze) ?l ?h
 case f=>exact λl _=>l
 case h=>unfold gK uc Zf;dsimp only[List.drop,List.take];exact rfl
def b7(P:Zd):List Ze:=by
 refine(?f:(l:List Ze)->l=gK P 112->List Ze) ?l ?h
 case f=>exact λl _=>l
 case h=>unfold gK uc Zf;dsimp only[List.drop,List.take];exact rfl
def b8(P:Zd):List Ze:=by
 refine(?f:(l:List Ze)->l=gK P 128->List Ze) ?l ?h
 case f=>exact λl _=>l
 case h=>unfold gK uc Zf;dsimp only[List.drop,List.take];exact rfl
def b9(P:Zd):List Ze:=by
 refine(?f:(l:List Ze)->l=gK P 144->List Ze) ?l ?h
 case f=>exact λl _=>l
 case h=>unfold gK uc Zf;dsimp only[List.drop,List.take];exact rfl
def bo0(P:Zd):Obj:={ cls:=.type "dict",data:=.dict ⟨b0 P++(b1 P++(b2 P++(b3 P++(b4 P++(b5 P++(b6 P++(b7 P++(b8 P++(b9 P)))))))))⟩ 159 }
def Uk:Zf=bo0:=by funext P;kernel_rfl
def MJ(P:Zd):Zg:={ objs:=⟨[bo0 P,boot_o_1 P,boot_o_2 P,boot_o_3 P,boot_o_4 P,boot_o_5 P,boot_o_6 P,boot_o_7 P,boot_o_8 P,boot_o_9 P,boot_o_10 P]⟩}
def Bj:ţ=MJ:=by
 funext P;show Heap.mk ⟨Zf P::_⟩ _=_;rw[Uk];rfl
def Bh(P:Zd):BT:=((((((((((BT.nil.ins 0 (bo0 P)).ins 1 (boot_o_1 P)).ins 2 (boot_o_2 P)).ins 3 (boot_o_3 P)).ins 4 (boot_o_4 P)).ins 5 (boot_o_5 P)).ins 6 (boot_o_6 P)).ins 7 (boot_o_7 P)).ins 8 (boot_o_8 P)).ins 9 (boot_o_9 P)).ins 10 (boot_o_10 P)
def QM:Life:={}
def Ir(P:Zd):absHeap (Bh P) 11 QM=ţ P:=by rw[Bj];kernel_rfl
def BP(w:Zb)(a:Zh):Zc:=⟨Bh w.params,11,QM,#[],Zi,Zj,a⟩
def GZ(w:Zb)(a:Zh):(BP w a).abs=⟨ţ w.params,#[],Zi,Zj,a⟩:=by
 unfold BP SharedT.abs;dsimp only;rw[Ir]
def Fl(P:Zd):=((ţ P).isNs mainGlobals,(ţ P).objs.size,(ţ P).nsMap mainGlobals "__annotations__")
def Ca:Fl=Fl:=rfl
end Nf
name_quick sizeQ for Nf.Fl by Nf.Ca
namespace Nf
open PySem PySem.W PyProof.Rows
def Iu(w:Zb):((ţ w.params).isNs mainGlobals,(ţ w.params).objs.size,(ţ w.params).nsMap mainGlobals "__annotations__")=(true,11,some (.ref 6)):=by
 show Fl w.params=_;rw[W.Fast.sizeQ_eq]
 kernel_rfl
def G7(p:Za)(N:Nat)(w:Zb)(a:Zh):=qH Zk p w 11 (some (.ref 6)) N (BP w a) (topStub p)
def Jv(p q:Za)(Xt:Shared->Bool)(w:Zb)(s:Shared) :=
 (staticsOk (Zl p.main.body) (MJ w.params) s.heap&&namesBound p s.heap&&gensDone s&&laidKept (MJ w.params) s.heap,openSeen q [] (Zl p.main.body) Xt true s)
def O6{p q:Za}{Xt:Shared->Bool}{β:Type}{Yf:Shared->List β}{Ya:Zb->List β}{N:Nat}(k:Nat)(c:∀w:Zb,(fencedOpening Zk p w N).map (λs=>(s.heap,s.gens,s.drawn,s.toks))=some (ţ w.params,Array.mk [],Zi,Zj))(g:∀(w:Zb)(a:Zh),(G7 p N w a).map (λs=>Jv p q Xt w s.abs)=some (true,openGood q []))(b:∀(w:Zb)(a:Zh),(G7 p N w a).map (λs=>(Yf s.abs).take k)=some ((Ya w).take k))(f:∀(w:Zb)(a:Zh),(G7 p N w a).map (λs=>(Yf s.abs).drop k)=some ((Ya w).drop k)):LeftO p q [] Xt Yf Ya N:=λw=>by
 let⟨⟨h,m,d,j,a⟩,e,i⟩:=Option.map_eq_some_iff.mp (c w);obtain⟨rfl,rfl,rfl,rfl⟩:h=ţ w.params/\m=#[]/\d=Zi/\j=Zj:=by simpa using i
 obtain⟨y,z,A⟩:_/\_/\_:=by simpa only[Prod.mk.injEq]using Iu w
 let⟨s,hs,l⟩:=Option.map_eq_some_iff.mp (g w a);have v:(Yf s.abs).take k=(Ya w).take k:=by
  have:=b w a;rw[hs]at this;exact Ô this
 have x:(Yf s.abs).drop k=(Ya w).drop k:=by
  have:=f w a;rw[hs]at this;exact Ô this
 have u:Yf s.abs=Ya w:=by rw[←List.take_append_drop k (Yf s.abs),v,x,List.take_append_drop]
 unfold Jv at l;rw[←Bj]at l;let⟨n,o⟩:=Prod.mk.inj l;have r:=uR hs;rw[GZ]at r;have t:topFrom Zk p w N ⟨ţ w.params,#[],Zi,Zj,a⟩=some s.abs:=by
  unfold topFrom;dsimp only;rw[y,z,A,r];show(match staticsOk (Zl p.main.body) (ţ w.params) s.abs.heap&&namesBound p s.abs.heap&&gensDone s.abs&&laidKept (ţ w.params) s.abs.heap with|true=>_|false=>_)=_;rw[n]
 unfold openEnds;rw[e];show(topFrom Zk p w N _).map _=_;rw[t];exact et some (Prod.ext o u)
end Nf
namespace Nf
open PySem PySem.W PyProof.Rows
def vm:List Nat:=[1,2,4,5,6,7,8,9,11,12,13,14,15,16,17,18,19,20,22,23,25,26,27,28,30,31,32,33,35,36,37,38,39,40,42,43,44,45,46,47,48,49,50,51,53,54,55,56,57,58,59,60,61,62]
def Aa(p:Za)(w:Zb)(a:Zh):=(G7 p 4164 w a).map (λs=>Jv p (view p vm) (λs=>xlAt (view p vm) [] s&&recOk [] s) w s.abs)
def goodW(p:Za):=some (true,openGood (view p vm) [])
def frF(a:Frag)(k:Nat):=some ((a.map λp=>some p.2).take k)
def frB(a:Frag)(k:Nat):=some ((a.map λp=>some p.2).drop k)
def tY(p:Za)(w:Zb)(b:Zh)(a:List Addr)(k:Nat):=(G7 p 4164 w b).map (λs=>(a.map s.abs.heap.get?).take k)
def Bl(p:Za)(w:Zb)(b:Zh)(a:List Addr)(k:Nat):=(G7 p 4164 w b).map (λs=>(a.map s.abs.heap.get?).drop k)
def Dr:Aa=Aa:=rfl
def Du:goodW=goodW:=rfl
def Ai:tY=tY:=rfl
def En:Bl=Bl:=rfl
end Nf
lay_quick Nf.Aa Nf.goodW Nf.tY Nf.Bl
name_quick lookQ for Nf.Aa by Nf.Dr
name_quick goodQ for Nf.goodW by Nf.Du
name_quick frontQ for Nf.tY by Nf.Ai
name_quick backQ for Nf.Bl by Nf.En
set_option maxHeartbeats 0 in
def Nf.O1(w:PySem.World)(a:PySem.OsState):Nf.Aa ô w a=Nf.goodW ô:=by
 rw[PySem.W.Fast.lookQ_eq,PySem.W.Fast.goodQ_eq]
 kernel_rfl
def Nf.well:PySem.Challenge.rw_nofall_k15_whole_one_sort_alone.wellSaid=true:=by kernel_rfl
namespace L2
open PySem PySem.Spec PyProof.Rows
def zK{n:Nat}(h:Nat.ble n 1000=true:=by rfl):n<=1000:=Nat.le_of_ble_eq_true h
abbrev Key:=Sum Int Str
def tM:Key->Value->Bool
 |.inl k,v=>Value.isInt k v
 |.inr x,v=>Value.isStrOf x v
def Xq(w:Zb):Key->Int
 |.inl k=>hashInt k
 |.inr x=>hashStr w x
theorem aZ:∀{k:Key}{v:Value},tM k v=true->(∃i t,k=ú i/\v=Ň i t)\/(∃x t,k=Ś x/\v=Value.str x t)
 |.inl i,v,h=>by
  let⟨t,e⟩:=Value.isInt_shape (k:=i) (v:=v) h;exact .inl ⟨i,t,rfl,e⟩
 |.inr x,v,h=>by
  let⟨t,e⟩:=Value.isStrOf_shape (x:=x) (v:=v) h;exact .inr ⟨x,t,rfl,e⟩
def Hy(i:Int)(t:Tok):tM (.inl i) (.int i t)=true:=by simp[tM,Value.isInt]
def Hx(x:Str)(t:Tok):tM (.inr x) (.str x t)=true:=by simp[tM,Value.isStrOf]
def TJ(a b:Int):decide ((ú a:Key)=ú b)=(a==b):=by
 by_cases e:a=b
 ·subst e;simp
 ·have h:¬(ú a:Key)=ú b:=λq=>e (Sum.inl.inj q);rw[eg h];exact(beq_eq_false_iff_ne.mpr e).symm
def Tw(a b:Str):decide ((Ś a:Key)=Ś b)=decide (a=b):=by
 by_cases e:a=b
 ·subst e;simp
 ·have h:¬(Ś a:Key)=Ś b:=λq=>e (Sum.inr.inj q);rw[eg h,eg e]
def TF(a:Int)(b:Str):decide ((ú a:Key)=Ś b)=false:=eg (λq=>nomatch q)
def Tz(a:Str)(b:Int):decide ((Ś a:Key)=ú b)=false:=eg (λq=>nomatch q)
def bA(prog:Za)(w:Zb):PySem.KeyKind prog w Key where
 is:=tM
 hash:=Xq w
 inj:=λv a b ha hb=>by
  rcases aZ ha with⟨i,t,rfl,rfl⟩|⟨x,t,rfl,rfl⟩
  ·rcases aZ hb with⟨j,u,rfl,e⟩|⟨y,u,rfl,e⟩
   ·injection e with e1 _;rw[e1]
   ·exact nomatch e
  ·rcases aZ hb with⟨j,u,rfl,e⟩|⟨y,u,rfl,e⟩
   ·exact nomatch e
   ·injection e with e1 _;rw[e1]
 byValue:=λk v h=>by
  rcases aZ h with⟨i,t,rfl,rfl⟩|⟨x,t,rfl,rfl⟩ <;> rfl
 pyHash:=λhv h=>by
  rcases aZ hv with⟨i,t,rfl,rfl⟩|⟨x,t,rfl,rfl⟩
  ·exact wpAny_pyHash_int h
  ·exact wpAny_pyHash_str h
 eqBool:=λhu hv h=>by
  rcases aZ hu with⟨i,t,rfl,rfl⟩|⟨x,t,rfl,rfl⟩
  ·rcases aZ hv with⟨j,u,rfl,rfl⟩|⟨y,u,rfl,rfl⟩
   ·rw[TJ]at h;exact Zm h
   ·rw[TF]at h;exact SeqAt.EqAt.int_str i t y u _ _ _ _ h
  ·rcases aZ hv with⟨j,u,rfl,rfl⟩|⟨y,u,rfl,rfl⟩
   ·rw[Tz]at h;exact SeqAt.EqAt.str_int x t j u _ _ _ _ h
   ·rw[Tw]at h;exact wpAny_eqBool_str h
 «strs»:=λk x t v h=>by
  rcases aZ h with⟨i,u,rfl,e⟩|⟨y,u,rfl,e⟩
  ·exact nomatch e
  ·injection e with e1 _;subst e1;cases v <;> rfl
def zY(prog:Za)(w:Zb)(i:Int)(t:Tok):(bA prog w).is (.inl i) (.int i t)=true:=Hy i t
def zX(prog:Za)(w:Zb)(x:Str)(t:Tok):(bA prog w).is (.inr x) (.str x t)=true:=Hx x t
inductive V where
 |non|bl (b:Bool)|int (i:Int)|str (x:Str)|byt (b:Array UInt8)|flt (b:UInt64)|ref (a:Addr)|ty (n:String)
 deriving DecidableEq
def RelV:V->Value->Prop
 |.non,u=>u=İ
 |.bl b,u=>u=Ž b
 |.int i,u=>∃t,u=Ň i t
 |.str x,u=>∃t,u=Value.str x t
 |.byt b,u=>∃t,u=Value.bytes b t
 |.flt b,u=>∃t,u=Value.float b t
 |.ref a,u=>u=Ě a
 |.ty n,u=>u=Ă n
abbrev Vals:List V->List Value->Prop:=Paired RelV
def Vals.length{xs:List V}{us:List Value}(r:Vals xs us):⇑xs=⇑us:=Paired.length r
theorem Vals.get:∀{xs:List V}{us:List Value}{i:Nat}{x:V},Vals xs us->xs[i]?=some x->∃u,us[i]?=some u/\RelV x u
 |_,_,_,_,.nil,e=>by simp at e
 |_,_,0,_,.cons r _,e=>by simp at e;subst e;exact⟨_,rfl,r⟩
 |_,_,i+1,x,.cons _ t,e=>by
  let⟨u,h1,h2⟩:=Vals.get (i:=i) (x:=x) t (by simpa using e);exact⟨u,by simpa using h1,h2⟩
theorem Vals.set{x:V}{u:Value}(r:RelV x u):∀{xs:List V}{us:List Value} (i:Nat),Vals xs us->Vals (xs.set i x) (us.set i u)
 |_,_,_,.nil=>.nil
 |_,_,0,.cons _ t=>.cons r t
 |_,_,i+1,.cons q t=>.cons q (Vals.set r i t)
theorem Vals.append:∀{xs ys:List V}{us a:List Value},Vals xs us->Vals ys a->Vals (xs++ys) (us++a)
 |_,_,_,_,.nil,s=>s
 |_,_,_,_,.cons r t,s=>.cons r (Vals.append t s)
theorem Vals.take:∀{xs:List V}{us:List Value} (n:Nat),Vals xs us->Vals (xs.take n) (us.take n)
 |_,_,0,_=>.nil
 |_,_,_+1,.nil=>.nil
 |_,_,n+1,.cons r t=>.cons r (Vals.take n t)
theorem Vals.drop:∀{xs:List V}{us:List Value} (n:Nat),Vals xs us->Vals (xs.drop n) (us.drop n)
 |_,_,0,r=>r
 |_,_,_+1,.nil=>.nil
 |_,_,n+1,.cons _ t=>Vals.drop n t
def uG:Option V->Option Value->Prop
 |some v,some u=>RelV v u
 |none,none=>True
 |_,_=>False
def KV{κ:Type}:List (κ×V)->List (κ×Value)->Prop:=Paired λ(p:κ×V) (q:κ×Value)=>p.1=q.1/\RelV p.2 q.2
def kV:Key->V
 |.inl i=>.int i
 |.inr x=>.str x
inductive HO where
 |lst (xs:List V)
 |tup (xs:List V)
 |dK (kvs:List (Key×V))|dT (kvs:List (List Key×V))
 |set (S:Int->Bool) (n:Nat)
 |ins (C dx:Addr) (fs:List (Str×V))
 |own (x:Addr)
 |xd (fs:List (Str×V))
 |met (f x:Addr)
 |rng (lo hi:Int)
 |frz (o:Obj) (u:HO)
 |tbl (ps:Array Value)
 |ext (φ:Zg->Prop)
abbrev Hp:=Addr->Option HO
def upd(H:Hp)(a:Addr)(o:HO):Hp:=λb=>if b=a then some o else H b
def aq{H:Hp}{a:Addr}{o:HO}:upd H a o a=some o:=by unfold upd;rw[el rfl]
def aj{H:Hp}{a b:Addr}{o:HO}(h:b≠a):upd H a o b=H b:=by unfold upd;rw[em h]
def VD{H:Hp}{a b:Addr}{o u:HO}(h:H a=some o)(h':H b=some u)(d:o≠u):a≠b:=by
 intro e;subst e;rw[h]at h';exact d (Ô h')
def ao{H:Hp}{a b:Addr}{o:HO}(h:H a=some o)(h':H b=none):a≠b:=by
 intro e;subst e;rw[h]at h';cases h'
section
variable(P:Za) (w:Zb)
def bx(H:Hp)(h:Zg)(a:Addr):HO->Prop
 |.lst xs=>⇑xs<=sizeLine/\∃(its:List Value)(n:Nat),Vals xs its/\h.get? a=some { cls:=.type "list",data:=.seq its.toArray n }
 |.tup xs=>⇑xs<=sizeLine/\∃its:List Value,Vals xs its/\IsTup h a its.toArray
 |.dK b=>⇑b<=sizeLine/\(a==Zn)=false/\∃vs,KV b vs/\h.DictOf (bA P w) a vs
 |.dT b=>⇑b<=sizeLine/\(a==Zn)=false/\∃xs:List (List Key×Addr×Value),
   Paired (λ(p:List Key×V) (q:List Key×Addr×Value)=>p.1=q.1/\H q.2.1=some (.tup (p.1.map kV))/\RelV p.2 q.2.2) b xs /\
   ∃o es ep,h.get? a=some o/\o.ExactDict/\o.data=.dict es ep/\es.toList=xs.map (entryOfKey (Zo (bA P w)))/\(xs.map (·.1)).Nodup
 |.set S n=>h.SetOf (intKind P w) a S n
 |.ins C d c=>H d=some (.own a)/\⇑c<=1000/\d≠a/\h.get? a=some (W.instObj C d) /\
   ∃mA,h.Ns1 d mA/\(∀f,uG (c.lookup f) (mA f))/\PySem.Within mA (c.map (·.1))
 |.own _=>∃o,h.get? a=some o
 |.xd c=>∃mA,h.Ns1 a mA/\∀f,uG (c.lookup f) (mA f)
 |.rng e hi=>∃t u v,h.get? a=some { cls:=.type "range",data:=.fields #[.int e t,.int hi u,.int 1 v]}
 |.frz o u=>h.get? a=some o/\bx H h a u
 |.tbl ps=>h.get? a=some { cls:=.none,data:=.fields ps }
 |.met f x=>h.get? a=some (W.methodObj (.ref f) (.ref x))
 |.ext φ=>φ h/\(∃o,h.get? a=some o)/\∀h1 h2:Zg,φ h1->(∀o,h1.get? a=some o->h2.get? a=some o)->φ h2
def HOk(H:Hp)(h:Zg):Prop:=∀a o,H a=some o->bx P w H h a o
end
section
variable{P:Za}{w:Zb}{H H':Hp}{h h':Zg}{a:Addr}{o:HO}
def bx.lt(x:bx P w H h a o):a<h.objs.size:=by
 cases o with
 |lst xs=>let⟨_,_,_,_,e⟩:=x;exact Ï e
 |tup xs=>let⟨_,_,_,p⟩:=x;exact p.lt
 |dK b=>let⟨_,_,_,_,o,_,_,e,_⟩:=x;exact Ï e
 |dT b=>let⟨_,_,_,_,o,_,_,e,_⟩:=x;exact Ï e
 |set S n=>let⟨o,_,_,_,e,_⟩:=x;exact Ï e
 |ins C d c=>let⟨_,_,_,e,_⟩:=x;exact Ï e
 |own y=>let⟨_,e⟩:=x;exact Ï e
 |xd c=>let⟨_,⟨_,_,_,e,_⟩,_⟩:=x;exact Ï e
 |rng g hi=>let⟨_,_,_,e⟩:=x;exact Ï e
 |frz i u=>let⟨e,_⟩:=x;exact Ï e
 |tbl ps=>exact Ï (show h.get? a=some _ from x)
 |met f y=>exact Ï (show h.get? a=some _ from x)
 |ext φ=>let⟨_,⟨_,e⟩,_⟩:=x;exact Ï e
theorem Paired.Hr{α β:Type}{F G:α->β->Prop}:∀{l₁:List α}{l₂:List β},Paired F l₁ l₂->(∀a b,F a b->G a b)->Paired G l₁ l₂
 |_,_,.nil,_=>.nil
 |_,_,.cons r t,f=>.cons (f _ _ r) (Paired.Hr t f)
def bx.stay(x:bx P w H h a o)(k:∀b u,(b=a\/H b=some (.own a))->h.get? b=some u->h'.get? b=some u)(B:∀b,H b=some (.own a)->H' b=some (.own a))(ht:∀b xs,H b=some (.tup xs)->H' b=some (.tup xs)):bx P w H' h' a o:=by
 induction o with
 |lst xs=>let⟨z,its,n,r,e⟩:=x;exact⟨z,its,n,r,k _ _ (.inl rfl) e⟩
 |tup xs=>let⟨z,its,r,g,e,c⟩:=x;exact⟨z,its,r,g,k _ _ (.inl rfl) e,c⟩
 |dK j=>let⟨z,y,vs,r,g,i,ep,e,c⟩:=x;exact⟨z,y,vs,r,g,i,ep,k _ _ (.inl rfl) e,c⟩
 |dT j =>
  let⟨z,y,xs,r,g,i,ep,e,c⟩:=x;exact⟨z,y,xs,Paired.Hr r λp q z=>⟨z.1,ht _ _ z.2.1,z.2.2⟩,g,i,ep,k _ _ (.inl rfl) e,c⟩
 |set S n=>let⟨g,i,ep,t,e,c⟩:=x;exact⟨g,i,ep,t,k _ _ (.inl rfl) e,c⟩
 |ins C dx A =>
  let⟨d,z,E,e,l,⟨m,i,ep,s,c⟩,r⟩:=x;exact⟨B _ d,z,E,k _ _ (.inl rfl) e,l,⟨m,i,ep,k _ _ (.inr d) s,c⟩,r⟩
 |own y=>let⟨g,e⟩:=x;exact⟨g,k _ _ (.inl rfl) e⟩
 |xd A=>let⟨l,⟨m,i,ep,e,c⟩,r⟩:=x;exact⟨l,⟨m,i,ep,k _ _ (.inl rfl) e,c⟩,r⟩
 |rng F hi=>let⟨t,u,v,e⟩:=x;exact⟨t,u,v,k _ _ (.inl rfl) e⟩
 |frz g u D=>let⟨e,q⟩:=x;exact⟨k _ _ (.inl rfl) e,D q⟩
 |tbl ps =>
  have e:h.get? a=some { cls:=.none,data:=.fields ps }:=x;show h'.get? a=some { cls:=.none,data:=.fields ps };exact k a _ (.inl rfl) e
 |met f y =>
  have e:h.get? a=some (W.methodObj (.ref f) (.ref y)):=x;show h'.get? a=some (W.methodObj (.ref f) (.ref y));exact k a _ (.inl rfl) e
 |ext φ=>let⟨p,⟨o,e⟩,st⟩:=x;exact⟨st _ _ p λo q=>k _ _ (.inl rfl) q,⟨o,k _ _ (.inl rfl) e⟩,st⟩
def HOk.lt(x:HOk P w H h)(e:H a=some o):a<h.objs.size:=(x a o e).lt
def HOk.fresh(x:HOk P w H h)(e:h.objs.size<=a):H a=none:=by
 cases q:H a with
 |none=>rfl
 |some u=>exact er (î (x.lt q) e) (Ą _)
def HOk.kept(x:HOk P w H h)(k:∀b u,h.get? b=some u->h'.get? b=some u):HOk P w H h':=λa o e =>
 (x a o e).stay (λb u _ q=>k b u q) (λ_ q=>q) λ_ _ q=>q
def HOk.laid(x:HOk P w H h)(k:∀b u,h.get? b=some u->h'.get? b=some u)(hp:h.objs.size<=a)(new:bx P w (upd H a o) h' a o):HOk P w (upd H a o) h':=λb u e=>by
 have hn:=x.fresh hp;by_cases hb:b=a
 ·subst hb;rw[aq]at e;cases e;exact new
 ·rw[aj hb]at e;exact(x b u e).stay (λc v _ q=>k c v q) (λc q=>by rw[aj (ao q hn)];exact q) λc xs q=>by rw[aj (ao q hn)];exact q
end
def Rd(H:Hp)(a:Addr)(u:HO):Prop:=H a=some u\/∃o,H a=some (.frz o u)
def Rd.ok{P:Za}{w:Zb}{H:Hp}{h:Zg}{a:Addr}{u:HO}(r:Rd H a u)(x:HOk P w H h):bx P w H h a u:=by
 rcases r with r|⟨o,r⟩
 ·exact x a u r
 ·let⟨_,q⟩:=x a _ r;exact q
def Mut:Option HO->Prop
 |some (.lst _)=>True
 |some (.dK _)=>True
 |some (.dT _)=>True
 |some (.set _ _)=>True
 |some (.ins _ _ _)=>True
 |some (.ext _)=>True
 |_=>False
section
variable{P:Za}{w:Zb}{H:Hp}{h h':Zg}{x e:Addr}{o':HO}
def HOk.write(ok:HOk P w H h)(g:Mut (H x))(he:e=x\/H e=some (.own x))(k:∀b u,b≠e->h.get? b=some u->h'.get? b=some u)(i:∃u,h'.get? e=some u)(new:bx P w (upd H x o') h' x o'):HOk P w (upd H x o') h':=λb u q=>by
 have d:∀c y,H c=some (.own y)->c≠x:=λc y r z=>by subst z;rw[r]at g;exact g
 have f:∀c xs,H c=some (.tup xs)->c≠x:=λc xs r z=>by subst z;rw[r]at g;exact g
 by_cases hb:b=x
 ·subst hb;rw[aq]at q;cases q;exact new
 ·rw[aj hb]at q;by_cases a:b=e
  ·have j:H b=some (.own x):=by
    rcases he with z|z
    ·exact er (a.trans z) hb
    ·rw[a];exact z
   rw[q]at j;cases j;let⟨v,hv⟩:=i;exact⟨v,by rw[a];exact hv⟩
  ·refine(ok b u q).stay (λc v hc r=>k c v ?_ r) (λc r=>by rw[aj (d c b r)];exact r) λc xs r=>by rw[aj (f c xs r)];exact r
   rcases hc with rfl|hc
   ·exact a
   ·rintro rfl;rcases he with z|z
    ·exact d c b hc z
    ·rw[hc]at z;cases z;exact hb rfl
end
structure Un(fs ex:List Addr)(H H':Hp)(h h':Zg):Prop where
 keep:∀b o,h.get? b=some o->H b=none->b∉fs->b∉ex->h'.get? b=some o
 slot:∀b o,h.get? b=some o->H b=none->b∈fs->b∉ex->∃sl,h'.get? b=some { o with slots:=sl }
 free:∀b o,h.get? b=some o->H b=none->b∉ex->H' b=none
 there:∀b o,h.get? b=some o->b∉ex->∃o',h'.get? b=some o'
 tups:∀b xs,H b=some (.tup xs)->H' b=some (.tup xs)
 frzs:∀b o u,H b=some (.frz o u)->H' b=some (.frz o u)
 tbls:∀b ps,H b=some (.tbl ps)->∃more,H' b=some (.tbl (ps++more))
section
variable{fs fs' ex ex':List Addr}{H H1 H2:Hp}{h h1 h2 h':Zg}{a x e:Addr}{o:HO}
def Un.any(u:Un fs ex H H1 h h1){b:Addr}{c:Obj}(q:h.get? b=some c)(n:H b=none)(d:b∉ex):∃sl,h1.get? b=some { c with slots:=sl }:=by
 by_cases hb:b∈fs
 ·exact u.slot b c q n hb d
 ·exact⟨c.slots,u.keep b c q n hb d⟩
def Un.kept(k:∀b u,h.get? b=some u->h'.get? b=some u):Un fs ex H H h h' :=
 ⟨λb ob q _ _ _=>k b ob q,λb ob q _ _ _=>⟨ob.slots,k b ob q⟩,λ_ _ _ n _=>n,λb ob q _=>⟨ob,k b ob q⟩,λ_ _ q=>q,λ_ _ _ q=>q,λ_ ps q=>⟨#[],by rw[q];simp⟩⟩
def Un.refl:Un fs ex H H h h:=Un.kept λ_ _ q=>q
def Un.laid(k:∀b u,h.get? b=some u->h'.get? b=some u)(hp:h.objs.size<=a)(hn:H a=none):Un fs ex H (upd H a o) h h' where
 keep:=λb u q _ _ _=>k b u q
 slot:=λb u q _ _ _=>⟨u.slots,k b u q⟩
 free:=λb u q n _=>by rw[aj (é (î (Ï q) hp))];exact n
 there:=λb u q _=>⟨u,k b u q⟩
 tups:=λb xs q=>by rw[aj (ao q hn)];exact q
 frzs:=λb u xs q=>by rw[aj (ao q hn)];exact q
 tbls:=λb ps q=>⟨#[],by rw[aj (ao q hn),q];simp⟩
def Un.write(d:Mut (H x))(he:e=x\/H e=some (.own x))(k:∀b u,b≠e->h.get? b=some u->h'.get? b=some u)(f:∃u,h'.get? e=some u):Un fs ex H (upd H x o) h h':=by
 have g:∀b,H b=none->b≠x:=λb n z=>by subst z;rw[n]at d;exact d
 have hb:∀b,H b=none->b≠e:=λb n z=>by
  subst z;rcases he with r|r
  ·exact g b n r
  ·rw[n]at r;cases r
 have hm:∀b u,H b=some u->¬Mut (some u)->b≠x:=λb u q nm z=>by subst z;rw[q]at d;exact nm d
 refine⟨λb u q n _ _=>k b u (hb b n) q,λb u q n _ _=>⟨u.slots,k b u (hb b n) q⟩,λb u q n _=>by rw[aj (g b n)];exact n,λb u q _=>?_,
  λb xs q=>by rw[aj (hm b _ q λz=>z)];exact q,λb u xs q=>by rw[aj (hm b _ q λz=>z)];exact q,λb ps q=>⟨#[],by rw[aj (hm b _ q λz=>z),q];simp⟩⟩
 by_cases c:b=e
 ·subst c;exact f
 ·exact⟨u,k b u c q⟩
end
def trk(h:Zg)(H:Hp):List Addr:=(Þ h.objs.size).filter λa=>(H a).isSome
def xU(h:Zg)(H:Hp):Zg:=W.hideAll h (trk h H)
def HF(h:Zg)(H:Hp):(xU h H).objs.size=h.objs.size:=W.hideAll_size _ _
def Lb{h:Zg}{H:Hp}{b:Addr}{o:Obj}(e:h.get? b=some o)(n:H b=none):(xU h H).get? b=some o :=
 W.hideAll_get _ e λhm=>by
  have q:(H b).isSome=true:=(æ.mp hm).2;rw[n]at q;simp at q
def Ow{h:Zg}{H:Hp}{b:Addr}{o:Obj}(e:(xU h H).get? b=some o):h.get? b=some o/\H b=none:=by
 have a:h.get? b=some o:=W.of_hideAll (trk h H) e;refine⟨a,?_⟩;cases q:H b with
 |none=>rfl
 |some x =>
  have hm:b∈trk h H:=æ.mpr ⟨Ď.mpr (Ï a),by simp[q]⟩;have z:(xU h H).get? b=none:=W.hideAll_none (trk h H) hm;rw[z]at e;cases e
def yC(g h:Zg)(L:Addr):List (Addr×Obj):=(Þ h.objs.size).filterMap λa=>if a=L\/(g.get? a).isSome=true then none else(h.get? a).map λo=>(a,o)
def sZ{g h:Zg}{L:Addr}{p:Addr×Obj}(hp:p∈yC g h L):p.1≠L/\g.get? p.1=none/\h.get? p.1=some p.2:=by
 let⟨b,_,e⟩:=List.mem_filterMap.mp hp;split at e
 ·cases e
 ·rename_i hn;cases q:h.get? b with
  |none=>rw[q]at e;simp at e
  |some u =>
   rw[q]at e;simp only[Option.map_some,Option.some.injEq]at e;subst e;refine⟨λz=>hn (.inl z),?_,q⟩;show g.get? b=none;cases r:g.get? b with
   |none=>rfl
   |some v=>exact(hn (.inr (by simp[r]))).elim
def rest(g h:Zg)(L d:Addr):List (Addr×Obj):=(yC g h L).filter λp=>decide (p.1≠d)
def KD{g h:Zg}{L:Addr}:News g L h (yC g h L):=λp hp=>let⟨a,b,c⟩:=sZ hp;⟨c,a,b⟩
structure Mod(K:á)(mg:Str->Option Value)(base:Zg):Prop where
 kin:K.In base
 glob:base.Ns mainGlobals mg
 blt:∃mb,base.Ns Zp mb/\∀x:Str,x≠"__name__"->mb x=Zq x
 nolimit:base.NoLimit
structure Cx where
 prog:Za
 w:Zb
 K:á
 mg:Str->Option Value
 base:Zg
 A:Zr
 N:List Str
 s₀:Shared
 H₀:Hp
 env:Env
 outer:List Env
 stack:List Env
 ex:List Addr
 fn:Str->Bool
 calm:Bool
 pn:List (Addr×Obj)
 xe:eB
 sf:List (Addr×Obj×HO):=[]
def frs(l:List Env):List Addr:=l.filterMap (·.frame)
abbrev Cx.fs(X:Cx):List Addr:=frs X.outer
def Vis(sc:Zs)(x:Str):Prop:=sc.names.lookup x=some .local\/sc.names.lookup x=some .cell\/sc.names.lookup x=some .free
def Loc(sc:Zs)(x:Str):Prop:=sc.names.lookup x=some .local\/sc.names.lookup x=some .cell
def Look(env:Env)(h:Zg)(m:Str->Option Value)(x:Str)(u:Value):Prop :=
 (env.kindOf x=some .local/\m x=some u)\/((env.kindOf x=some .cell\/env.kindOf x=some .free)/\∃c,env.cells.lookup x=some c/\h.IsCell c (some u))
abbrev zS(X:Cx)(e:Zt)(es:List Zt):Prop:=Zu (e::es) X.env=(false,Zv e X.env)::Zu es X.env
abbrev zP(X:Cx)(p:Pos)(es:List Zt):Prop:=(Zw p (Zu es X.env)).any (·.1)=false
abbrev zB(x:Str):Prop:=(x==("__debug__":Str))=false
abbrev zF(X:Cx)(e:Zt):Prop:=∀x,Zx e X.env x=pure x
abbrev zL(X:Cx)(x:Str):Prop:=X.fn x=true\/X.env.scope.names.lookup x=some .local
abbrev zW(X:Cx)(p:Pos)(es:List Zt):Prop:=((Zw p (Zu es X.env)).all (λx=>!x.1)&&(Zy p (Zz [] X.env)).all (λx=>x.1.isSome)&&decide (⇑es+⇑([]:List ZA)+(if([]:List ZA).isEmpty then 0 else 1)<30))=true
def zQ{sc:Zs}{x:Str}(h:(sc.names.lookup x==some .local||sc.names.lookup x==some .cell)=true:=by rfl):Loc sc x:=(Bool.or_eq_true_iff.mp h).imp (λz=>eA z) λz=>eA z
structure Cx.Ok(X:Cx):Prop where
 mod:Mod X.K X.mg X.base
 kind:X.env.scope.kind=.function
 glob:X.env.globals=mainGlobals
 blt:X.env.builtins=Zp
 above:X.s₀.heap.objs.size<=X.env.locals
 inj:∀x y c,X.env.cells.lookup x=some c->X.env.cells.lookup y=some c->x=y
 has:∀x,(X.env.kindOf x=some .cell\/X.env.kindOf x=some .free)->∃c,X.env.cells.lookup x=some c
 cab:∀x c,X.fn x=true->X.env.cells.lookup x=some c->X.s₀.heap.objs.size<=c
 hd:X.calm=true->X.A.handled=none
 frames:X.A.frames=some X.stack
 stk:X.stack=X.outer\/(X.stack=X.env::X.outer/\X.env.frame=some X.env.locals)
 exf:∀b∈X.ex,b≠X.env.locals/\∀x c,X.env.cells.lookup x=some c->c≠b
 bs:∀b o,X.base.get? b=some o->X.s₀.heap.get? b=some o/\X.H₀ b=none
 bsz:X.base.objs.size<=X.s₀.heap.objs.size
 noex:∀b o,X.base.get? b=some o->b∉X.ex
 exfs:∀b∈X.ex,b∉X.fs
 tX:X.s₀.heap.FunFrames X.base X.outer
 frf:∀b∈X.fs,X.H₀ b=none
 sof:∀q∈X.sf,X.A.handled=some (.ref q.1)/\X.H₀ q.1=some (.frz q.2.1 q.2.2)/\∃ws,q.2.1.data=.fields ws/\ws[2]?=some .none
structure Inv(X:Cx)(pins:List (Addr×Obj))(σ:List (Option V))(H:Hp)(s:Shared):Prop where
 ok:X.Ok
 os:s.os=X.s₀.os
 bare:ZB s.gens
 base:Un X.fs X.ex X.H₀ H X.s₀.heap s.heap
 loc:∃m,s.heap.Ns X.env.locals m/\∀(i:Nat)(x:Str)(v:V),X.N[i]?=some x->σ[i]?=some (some v)->Vis X.env.scope x->∃u,RelV v u/\Look X.env s.heap m x u
 cell:∀x c,X.env.cells.lookup x=some c->∃v,s.heap.IsCell c v
 free:H X.env.locals=none
 freeC:∀x c,X.env.cells.lookup x=some c->H c=none
 pin:∀p∈X.pn++pins,s.heap.get? p.1=some p.2/\H p.1=none/\p.1≠X.env.locals/\p.1∉X.fs/\∀v,p.2.data≠.cell v
 hok:HOk X.prog X.w H s.heap
 len:⇑σ=⇑X.N
section
variable{X:Cx}{pins:List (Addr×Obj)}{σ:List (Option V)}{H H':Hp}{s:Shared}{h':Zg}
def Cx.Ok.Xo(ok:X.Ok){b:Addr}{o:Obj}(e:X.base.get? b=some o):b∉X.fs:=λhb=>by
 have:=(ok.tX.mem hb).1;rw[e]at this;cases this
def Inv.bs(I:Inv X pins σ H s):∀b o,X.base.get? b=some o->s.heap.get? b=some o/\H b=none:=λb o e =>
 ⟨I.base.keep b o (I.ok.bs b o e).1 (I.ok.bs b o e).2 (I.ok.Xo e) (I.ok.noex b o e),I.base.free b o (I.ok.bs b o e).1 (I.ok.bs b o e).2 (I.ok.noex b o e)⟩
def Inv.bk(I:Inv X pins σ H s):∀b o,X.base.get? b=some o->s.heap.get? b=some o:=λb o e=>(I.bs b o e).1
def Inv.mod(I:Inv X pins σ H s):Mod X.K X.mg X.base:=I.ok.mod
def Inv.kIn(I:Inv X pins σ H s):X.K.In s.heap:=I.ok.mod.kin.keeps I.bk
def Inv.fr(I:Inv X pins σ H s):∃m,Fr X.base X.env.locals s.heap m :=
 let⟨m,hn,_⟩:=I.loc
 ⟨m,hn,I.bk,ą I.ok.bsz I.ok.above⟩
def Inv.lt(I:Inv X pins σ H s):X.env.locals<↥s:=let⟨_,hn,_⟩:=I.loc;hn.lt
def Inv.sz(I:Inv X pins σ H s):X.s₀.heap.objs.size<=↥s:=ą I.ok.above (Nat.le_of_lt I.lt)
def Inv.Xn(I:Inv X pins σ H s){a:Addr}(h:↥s<=a):a∉X.fs:=λhb=>by
 let⟨_,o,b,_⟩:=I.ok.tX.mem hb;exact er (î (Ï b) (ą I.sz h)) (Ą _)
def Inv.cne(I:Inv X pins σ H s):∀x c,X.env.cells.lookup x=some c->c≠X.env.locals:=λx c e z=>by
 let⟨v,o,d,hd⟩:=I.cell x c e;let⟨m,⟨o',f,ep,b,a,_⟩,_⟩:=I.loc;rw[z,b]at d;cases d;rw[a]at hd;cases hd
def Inv.tX(I:Inv X pins σ H s):s.heap.FunFrames X.base X.outer:=by
 have a:∀(l:List Env),(∀b∈frs l,b∈X.fs)->X.s₀.heap.FunFrames X.base l->s.heap.FunFrames X.base l:=by
  intro l;induction l with
  |nil=>intro _ _;trivial
  |cons env r ih =>
   intro hs hl;let⟨hk,⟨L,o,d,hn,f,hd⟩,hr⟩:=hl;have c:L∈X.fs:=hs L (by unfold frs;rw[List.filterMap_cons,d];exact Ó);let⟨g,e⟩:=I.base.slot L o f (I.ok.frf L c) c λz=>I.ok.exfs L z c;exact⟨hk,⟨L,_,d,hn,e,hd⟩,ih (λb hb=>hs b (by unfold frs;rw[List.filterMap_cons,d];exact Í _ hb)) hr⟩
 exact a X.outer (λ_ hb=>hb) I.ok.tX
def Inv.stack(I:Inv X pins σ H s):s.heap.FunFrames X.base X.stack:=by
 rcases I.ok.stk with e|⟨e,a⟩
 ·rw[e];exact I.tX
 ·rw[e];let⟨m,hn,_⟩:=I.loc;refine .cons (by rw[I.ok.kind];decide) a hn ?_ I.tX;exact Heap.get?_none_of_le (ą I.ok.bsz I.ok.above)
def Inv.BK(I:Inv X pins σ H s):∀b∈frs X.stack,b∈X.env.locals::X.fs:=λb hb=>by
 rcases I.ok.stk with e|⟨e,a⟩
 ·rw[e]at hb;exact Í _ hb
 ·rw[e]at hb;unfold frs at hb;rw[List.filterMap_cons,a]at hb;exact hb
def Inv.Fe(I:Inv X pins σ H s):∀b∈frs X.stack,H b=none:=λb hb=>by
 rcases Û.mp (I.BK b hb)with e|hb
 ·rw[e];exact I.free
 ·let⟨_,o,a,_⟩:=I.ok.tX.mem hb;exact I.base.free b o a (I.ok.frf b hb) λz=>I.ok.exfs b z hb
def Inv.step{g':Array ZC}{t':Nat}{d':Drawn}{ch:List Addr}(I:Inv X pins σ H s)(g:∀b∈ch,(b∈X.ex\/X.s₀.heap.objs.size<=b)/\b≠X.env.locals/\(∀x c,X.env.cells.lookup x=some c->c≠b)/\∀p∈X.pn++pins,p.1≠b)(h:∀b o,b≠X.env.locals->b∉X.fs->b∉ch->s.heap.get? b=some o->H b=none->h'.get? b=some o)(A:∀b o,b≠X.env.locals->b∈X.fs->b∉ch->s.heap.get? b=some o->H b=none->∃sl,h'.get? b=some { o with slots:=sl })(a:∀b o,b∉ch->s.heap.get? b=some o->H b=none->H' b=none)(B:∀b o,b∉ch->s.heap.get? b=some o->∃o',h'.get? b=some o')(J:∀b xs,H b=some (.tup xs)->H' b=some (.tup xs))(E:∀b o u,H b=some (.frz o u)->H' b=some (.frz o u))(G:∀b ps,H b=some (.tbl ps)->∃more,H' b=some (.tbl (ps++more)))(ns:∀m,s.heap.Ns X.env.locals m->h'.Ns X.env.locals m)(K:HOk X.prog X.w H' h')(hg:ZB g') :
  Inv X pins σ H' { s with heap:=h',gens:=g',drawn:=d',toks:=t' }:=by
 have F:∀b o,X.s₀.heap.get? b=some o->b≠X.env.locals:=λb o e=>é (î (Ï e) I.ok.above);have y:∀b o,X.s₀.heap.get? b=some o->b∉X.ex->b∉ch:=λb o e hx hb=>by
  rcases(g b hb).1 with z|z
  ·exact hx z
  ·exact er (î (Ï e) z) (Ą _)
 have f:∀x c,X.env.cells.lookup x=some c->∀v,s.heap.IsCell c v->h'.IsCell c v:=λx c e v ⟨o,C,hd⟩=>by
  have j:c∉ch:=λz=>(g c z).2.2.1 x c e rfl;by_cases hc:c∈X.fs
  ·let⟨sl,q⟩:=A c o (I.cne x c e) hc j C (I.freeC x c e);exact⟨_,q,hd⟩
  ·exact⟨o,h c o (I.cne x c e) hc j C (I.freeC x c e),hd⟩
 refine⟨I.ok,I.os,hg,⟨λb o e n hb hx=>?_,λb o e n hb hx=>?_,λb o e n hx=>?_,λb o e hx=>?_,λb xs e=>J b xs (I.base.tups b xs e),λb o xs e=>E b o xs (I.base.frzs b o xs e),λb ps e=>?_⟩,?_,λx c e=>?_,?_,λx c e=>?_,λp hp=>?_,K,I.len⟩
 ·exact h b o (F b o e) hb (y b o e hx) (I.base.keep b o e n hb hx) (I.base.free b o e n hx)
 ·let⟨sl,t⟩:=I.base.slot b o e n hb hx;let⟨L,D⟩:=A b _ (F b o e) hb (y b o e hx) t (I.base.free b o e n hx);exact⟨L,D⟩
 ·let⟨o',t⟩:=I.base.there b o e hx;exact a b o' (y b o e hx) t (I.base.free b o e n hx)
 ·let⟨o',t⟩:=I.base.there b o e hx;exact B b o' (y b o e hx) t
 ·let⟨O,t⟩:=I.base.tbls b ps e;let⟨P,D⟩:=G b _ t;exact⟨O++P,by rw[D,Array.append_assoc]⟩
 ·let⟨m,hn,hl⟩:=I.loc;refine⟨m,ns m hn,λi x v t D e3=>?_⟩;let⟨u,r,l⟩:=hl i x v t D e3;refine⟨u,r,?_⟩;rcases l with l|⟨k,c,e,z⟩
  ·exact .inl l
  ·exact .inr ⟨k,c,e,f x c e _ z⟩
 ·let⟨v,z⟩:=I.cell x c e;exact⟨v,f x c e v z⟩
 ·let⟨m,⟨o,_,_,C,_⟩,_⟩:=I.loc;exact a _ o (λz=>(g _ z).2.1 rfl) C I.free
 ·let⟨v,o,C,hd⟩:=I.cell x c e;exact a c o (λz=>(g c z).2.2.1 x c e rfl) C (I.freeC x c e)
 ·let⟨e,n,M,N,d⟩:=I.pin p hp;have j:p.1∉ch:=λz=>(g p.1 z).2.2.2 p hp rfl;exact⟨h p.1 p.2 M N j e n,a p.1 p.2 j e n,M,N,d⟩
def Inv.un{t':Nat}(I:Inv X pins σ H s)(u:Un X.fs [] H H' s.heap h')(f:HOk X.prog X.w H' h'):Inv X pins σ H' { s with heap:=h',toks:=t' }:=by
 let⟨m,⟨o,j,ep,g,r⟩,_⟩:=id I.loc;let⟨k,h⟩:=u.any g I.free (by simp);exact I.step (g':=s.gens) (d':=s.drawn) (ch:=[]) (λ_ z=>nomatch z) (λb o _ hb _ e n=>u.keep b o e n hb (by simp)) (λb o _ hb _ e n=>u.slot b o e n hb (by simp)) (λb o _ e n=>u.free b o e n (by simp)) (λb o _ e=>u.there b o e (by simp)) u.tups u.frzs u.tbls (λm' hm=>by
  let⟨o',d,c,a,i⟩:=hm;rw[g]at a;cases a;exact⟨_,d,c,h,i⟩) f I.bare
def Inv.call{g':Array ZC}{t':Nat}{d':Drawn}{ch:List Addr}(I:Inv X pins σ H s)(u:Un (frs X.stack) ch H H' s.heap h')(i:HOk X.prog X.w H' h')(hg:ZB g')(a:∀b∈ch,(b∈X.ex\/X.s₀.heap.objs.size<=b)/\b≠X.env.locals/\(∀x c,X.env.cells.lookup x=some c->c≠b)/\∀p∈X.pn++pins,p.1≠b) :
  Inv X pins σ H' { s with heap:=h',gens:=g',drawn:=d',toks:=t' }:=by
 let⟨m,⟨o,l,ep,j,r⟩,_⟩:=id I.loc;let⟨q,h⟩:=u.any j I.free λz=>(a _ z).2.1 rfl;exact I.step (ch:=ch) a (λb o h hb hc e n=>u.keep b o e n (λz=>(Û.mp (I.BK b z)).elim h hb) hc) (λb o _ _ hc e n=>u.any e n hc) (λb o hc e n=>u.free b o e n hc) (λb o hc e=>u.there b o e hc) u.tups u.frzs u.tbls (λm' hm=>by
  let⟨o',g,f,d,k⟩:=hm;rw[j]at d;cases d;exact⟨_,g,f,h,k⟩) i hg
def Inv.turned{t':Nat}{it:Addr}(I:Inv X pins σ H s)(k:∀b o,b≠it->s.heap.get? b=some o->h'.get? b=some o)(hn:H it=none)(d:it≠X.env.locals)(h1:it∈X.ex\/X.s₀.heap.objs.size<=it)(h2:∀x c,X.env.cells.lookup x=some c->c≠it)(g:∀p∈X.pn++pins,p.1≠it):Inv X pins σ H { s with heap:=h',toks:=t' }:=by
 have a:∀b u,H b=some u->b≠it:=λb u e z=>by rw[z,hn]at e;cases e
 refine I.step (g':=s.gens) (d':=s.drawn) (ch:=[it]) (λb hb=>?_) (λb o _ _ hc e _=>k b o (λz=>hc (by simp[z])) e) (λb o _ _ hc e _=>⟨o.slots,k b o (λz=>hc (by simp[z])) e⟩) (λ_ _ _ _ n=>n)
  (λb o hc e=>⟨o,k b o (λz=>hc (by simp[z])) e⟩) (λ_ _ e=>e) (λ_ _ _ e=>e) (λb ps e=>⟨#[],by rw[e];simp⟩) (λm hm=>?_) (λb u e=>?_) I.bare
 ·have e:b=it:=by simpa using hb
  subst e;exact⟨h1,d,h2,g⟩
 ·let⟨o,f,ep,h,r⟩:=hm;exact⟨o,f,ep,k _ o (ĝ d) h,r⟩
 ·refine(I.hok b u e).stay (λc v hc q=>k c v ?_ q) (λ_ q=>q) λ_ _ q=>q;rcases hc with z|z
  ·rw[z];exact a b u e
  ·exact a c _ z
def Inv.tok(I:Inv X pins σ H s)(t:Nat):Inv X pins σ H { s with toks:=t }:=I.un (h':=s.heap) (t':=t) Un.refl I.hok
def Inv.kept{t':Nat}(I:Inv X pins σ H s)(k:∀b u,s.heap.get? b=some u->h'.get? b=some u):Inv X pins σ H { s with heap:=h',toks:=t' }:=I.un (Un.kept k) (I.hok.kept k)
def Inv.laid{a:Addr}{o:HO}{t':Nat}(I:Inv X pins σ H s)(k:∀b u,s.heap.get? b=some u->h'.get? b=some u)(hp:↥s<=a)(new:bx X.prog X.w (upd H a o) h' a o) :
  Inv X pins σ (upd H a o) { s with heap:=h',toks:=t' }:=I.un (Un.laid k hp (I.hok.fresh hp)) (I.hok.laid k hp new)
def Inv.write{x e:Addr}{o:HO}{t':Nat}(I:Inv X pins σ H s)(c:Mut (H x))(he:e=x\/H e=some (.own x))(k:∀b u,b≠e->s.heap.get? b=some u->h'.get? b=some u)(a:∃u,h'.get? e=some u)(new:bx X.prog X.w (upd H x o) h' x o):Inv X pins σ (upd H x o) { s with heap:=h',toks:=t' }:=I.un (Un.write c he k a) (I.hok.write c he k a new)
def Inv.qL{a:List (Addr×Obj)}(I:Inv X pins σ H s)(h:∀p∈a,s.heap.get? p.1=some p.2/\H p.1=none/\p.1≠X.env.locals/\p.1∉X.fs/\∀v,p.2.data≠.cell v):Inv X a σ H s :=
 ⟨I.ok,I.os,I.bare,I.base,I.loc,I.cell,I.free,I.freeC,λp hp=>(ë.mp hp).elim (λz=>I.pin p (è _ z)) (h p),I.hok,I.len⟩
def zU{N:List Str}(hN:N.Nodup){i j:Nat}{x:Str}(a:N[i]?=some x)(b:N[j]?=some x):i=j:=by
 let⟨h1,c⟩:=Æ.mp a;let⟨h2,d⟩:=Æ.mp b;exact(List.getElem_inj hN).mp (c.trans d.symm)
def uV{M:ZD}{A:Zr}{E:eB}{i:Nat}{x:Str}{v:V}{u:Value}{Q:Unit->Shared->Prop}(I:Inv X pins σ H s)(Z:∀j,X.N[j]?=some x->j=i)(hi:X.N[i]?=some x)(l:Loc X.env.scope x)(r:RelV v u)(h:∀s',Inv X pins (σ.set i (some v)) H s'->(∃a,Heap.SameBut a s.heap s'.heap/\(a=X.env.locals\/X.env.cells.lookup x=some a))->Q .unit s')(hf:X.fn x=true\/X.env.scope.names.lookup x=some .local:=by first|exact .inl rfl|exact .inr rfl|assumption):wpAny M A (storeName X.env x u) Q E s:=by
 let⟨m,hn,hl⟩:=id I.loc;have J:(X.env.scope.kind==.class || (X.env.scope.kind==.module&&X.env.locals != X.env.globals))=false:=by rw[I.ok.kind];rfl
 have B:i<⇑σ:=by rw[I.len];exact(Æ.mp hi).1
 have C:=I.cne;have g:∀{a:Addr}{h':Zg},(∃o,s.heap.get? a=some o/\H a=none)->Heap.SameBut a s.heap h'->HOk X.prog X.w H h':=λ{a h'} ha hs b ob e=>by
  let⟨_,_,t⟩:=ha;refine(I.hok b ob e).stay (λc R hc q=>(hs.2 c ?_).trans q) (λ_ q=>q) λ_ _ q=>q;rintro rfl;rcases hc with rfl|hc
  ·rw[t]at e;cases e
  ·rw[t]at hc;cases hc
 rcases l with hk|hk
 ·refine wpAny_storeName_local hk hn (λh' hn' hs=>?_) J;let⟨oL,_,_,S,_⟩:=id hn;refine h _ ⟨I.ok,I.os,I.bare,⟨λb o e n hb l=>?_,λb o e n hb l=>?_,I.base.free,λb o e l=>?_,I.base.tups,I.base.frzs,I.base.tbls⟩,⟨_,hn',λj y v' f e2 e3=>?_⟩,λy c e=>?_,I.free,I.freeC,λp hp=>?_,g ⟨oL,S,I.free⟩ hs,by simpa using I.len⟩ ⟨_,hs,.inl rfl⟩
  ·exact(hs.2 b (é (î (Ï e) I.ok.above))).trans (I.base.keep b o e n hb l)
  ·let⟨W,f⟩:=I.base.slot b o e n hb l;exact⟨W,(hs.2 b (é (î (Ï e) I.ok.above))).trans f⟩
  ·let⟨o',f⟩:=I.base.there b o e l;exact⟨o',(hs.2 b (é (î (Ï e) I.ok.above))).trans f⟩
  ·by_cases F:j=i
   ·subst F;rw[hi]at f;cases f;rw[ă B]at e2;cases e2;exact⟨u,r,.inl ⟨hk,by simp⟩⟩
   ·rw[Ļ (ĝ F)]at e2;let⟨Y,U,q⟩:=hl j y v' f e2 e3;refine⟨Y,U,?_⟩;rcases q with⟨k,e⟩|⟨k,c,e,z⟩
    ·refine .inl ⟨k,?_⟩;have:y≠x:=λe=>F (Z _ (e ▸ f));simp[this,e]
    ·exact .inr ⟨k,c,e,z.sameBut hs (C y c e)⟩
  ·let⟨R,z⟩:=I.cell y c e;exact⟨R,z.sameBut hs (C y c e)⟩
  ·let⟨e,n,P,T,d⟩:=I.pin p hp;exact⟨(hs.2 p.1 P).trans e,n,P,T,d⟩
 ·have D:X.fn x=true:=by
   rcases hf with z|z
   ·exact z
   ·rw[z]at hk;cases hk
  let⟨c,hc⟩:=I.ok.has x (.inl hk);let⟨R,z⟩:=I.cell x c hc;refine wpAny_storeName_cell I.ok.kind hk hc z (λh' hc' hs=>?_);let⟨oc,K,L⟩:=id z;refine h { s with heap:=h' } ⟨I.ok,I.os,I.bare,⟨λb o e n hb l=>?_,λb o e n hb l=>?_,I.base.free,λb o e l=>?_,I.base.tups,I.base.frzs,I.base.tbls⟩,⟨m,hn.sameBut hs (ĝ (C x c hc)),λj y v' f e2 e3=>?_⟩,λy O e=>?_,I.free,I.freeC,λp hp=>?_,g ⟨oc,K,I.freeC x c hc⟩ hs,by simpa using I.len⟩ ⟨c,hs,.inr hc⟩
  ·exact(hs.2 b (é (î (Ï e) (I.ok.cab x c D hc)))).trans (I.base.keep b o e n hb l)
  ·let⟨W,f⟩:=I.base.slot b o e n hb l;exact⟨W,(hs.2 b (é (î (Ï e) (I.ok.cab x c D hc)))).trans f⟩
  ·let⟨o',f⟩:=I.base.there b o e l;exact⟨o',(hs.2 b (é (î (Ï e) (I.ok.cab x c D hc)))).trans f⟩
  ·by_cases F:j=i
   ·subst F;rw[hi]at f;cases f;rw[ă B]at e2;cases e2;exact⟨u,r,.inr ⟨.inl hk,c,hc,hc'⟩⟩
   ·rw[Ļ (ĝ F)]at e2;let⟨Y,U,q⟩:=hl j y v' f e2 e3;refine⟨Y,U,?_⟩;rcases q with q|⟨k,O,e,z'⟩
    ·exact .inl q
    ·refine .inr ⟨k,O,e,z'.sameBut hs ?_⟩;rintro rfl;exact F (Z _ (I.ok.inj _ _ _ e hc ▸ f))
  ·by_cases G:O=c
   ·subst G;exact⟨_,hc'⟩
   ·let⟨w2,z2⟩:=I.cell y O e;exact⟨w2,z2.sameBut hs G⟩
  ·let⟨e,n,P,T,d⟩:=I.pin p hp;refine⟨(hs.2 p.1 ?_).trans e,n,P,T,d⟩;intro q;rw[q,K]at e;have q':oc=p.2:=Ô e;exact d R (by rw[←q'];exact L)
def yQ{M:ZD}{A:Zr}{E:eB}{i:Nat}{x:Str}{v:V}{u:Value}{Q:Unit->Shared->Prop}(I:Inv X pins σ H s)(hN:X.N.Nodup)(hi:X.N[i]?=some x)(b:Loc X.env.scope x)(r:RelV v u)(h:∀s',Inv X pins (σ.set i (some v)) H s'->Q .unit s')(a:X.fn x=true\/X.env.scope.names.lookup x=some .local:=by first|exact .inl rfl|exact .inr rfl|assumption):wpAny M A (storeName X.env x u) Q E s :=
 uV I (λj h=>zU hN h hi) hi b r (λs' I' _=>h s' I') a
def Inv.call'{a:Shared}{ch:List Addr}(I:Inv X pins σ H s)(g:a.os=s.os)(u:Un (frs X.stack) ch H H' s.heap a.heap)(f:HOk X.prog X.w H' a.heap)(hg:ZB a.gens)(d:∀b∈ch,(b∈X.ex\/X.s₀.heap.objs.size<=b)/\b≠X.env.locals/\(∀x c,X.env.cells.lookup x=some c->c≠b)/\∀p∈X.pn++pins,p.1≠b):Inv X pins σ H' a:=by
 let⟨h',g',d',t',o'⟩:=a;have e:o'=s.os:=g;subst e;exact I.call (g':=g') (t':=t') (d':=d') u f hg d
end
abbrev XK:=Value->Option Addr->Hp->Prop
abbrev St:=List (Option V)
abbrev VK:=V->Hp->Prop
abbrev TE:=St->Hp->VK->Prop
abbrev TT:=St->Hp->(Bool->Hp->Prop)->Prop
abbrev TA:=St->Hp->(List V->Hp->Prop)->Prop
structure Ends where
 nx:St->Hp->Prop
 rt:VK
 bk:St->Hp->Prop:=λ_ _=>False
 ct:St->Hp->Prop:=λ_ _=>False
abbrev TS:=Ends->St->Hp->Prop
def EP(X:Cx)(a:List (Addr×Obj))(σ:St)(Q:VK)(u:Value)(b:Shared):Prop:=∃v H',Inv X a σ H' b/\RelV v u/\Q v H'
def TP(X:Cx)(a:List (Addr×Obj))(σ:St)(Q:Bool->Hp->Prop)(b:Bool)(c:Shared):Prop:=∃H',Inv X a σ H' c/\Q b H'
def AP(X:Cx)(a:List (Addr×Obj))(σ:St)(Q:List V->Hp->Prop)(us:List Value)(b:Shared):Prop:=∃vs H',Inv X a σ H' b/\Vals vs us/\Q vs H'
def SP(X:Cx)(a:List (Addr×Obj))(D:Ends)(f:Flow)(b:Shared):Prop :=
 match f with
 |.next=>∃σ' H',Inv X a σ' H' b/\D.nx σ' H'
 |.brk=>∃σ' H',Inv X a σ' H' b/\D.bk σ' H'
 |.cont=>∃σ' H',Inv X a σ' H' b/\D.ct σ' H'
 |.ret u=>∃v σ' H',Inv X a σ' H' b/\RelV v u/\D.rt v H'
def PE(X:Cx)(e:Zt)(t:TE):Prop :=
 ∀(pins:List (Addr×Obj))(s:Shared)(σ:St)(H:Hp)(Q:VK),Inv X pins σ H s->t σ H Q->wpAny (model X.prog X.w) X.A (Zv e X.env) (EP X pins σ Q) X.xe s
def PT(X:Cx)(e:Zt)(t:TT):Prop :=
 ∀(pins:List (Addr×Obj))(s:Shared)(σ:St)(H:Hp)(Q:Bool->Hp->Prop),Inv X pins σ H s->t σ H Q->wpAny (model X.prog X.w) X.A (ZE e X.env (Zv e X.env)) (TP X pins σ Q) X.xe s
def PW(X:Cx)(e:Zt)(t:TT):Prop :=
 ∀(whole:Sem Value)(pins:List (Addr×Obj))(s:Shared)(σ:St)(H:Hp)(Q:Bool->Hp->Prop),Inv X pins σ H s->t σ H Q->wpAny (model X.prog X.w) X.A (ZE e X.env whole) (TP X pins σ Q) X.xe s
def PW.pt{X:Cx}{e:Zt}{t:TT}(h:PW X e t):PT X e t:=h _
def PA(X:Cx)(a:List Zt)(t:TA):Prop :=
 ∀(pos:Pos)(pins:List (Addr×Obj))(s:Shared)(σ:St)(H:Hp)(Q:List V->Hp->Prop),Inv X pins σ H s->t σ H Q->wpAny (model X.prog X.w) X.A (spliced (Zw pos (Zu a X.env))) (AP X pins σ Q) X.xe s
def PS(X:Cx)(st:ZF)(t:TS):Prop :=
 ∀(pins:List (Addr×Obj))(s:Shared)(σ:St)(H:Hp)(D:Ends),Inv X pins σ H s->t D σ H->wpAny (model X.prog X.w) X.A (exec st X.env) (SP X pins D) X.xe s
def PSs(X:Cx)(st:List ZF)(t:TS):Prop :=
 ∀(pins:List (Addr×Obj))(s:Shared)(σ:St)(H:Hp)(D:Ends),Inv X pins σ H s->t D σ H->wpAny (model X.prog X.w) X.A (execs st X.env) (SP X pins D) X.xe s
def thn{α:Type}{t:Sem α}{Q b:α->Shared->Prop}{M:ZD}{A:Zr}{E:eB}{s:Shared}(h:wpAny M A t Q E s)(c:∀a s,Q a s->b a s):wpAny M A t b E s:=ń h c λ_ _ x=>x
section
variable{X:Cx}
def bin{a b:Zt}{d e:TE}(ha:PE X a d)(hb:PE X b e){c:List (Addr×Obj)}{s:Shared}{σ:St}{H:Hp}{R:V->V->Hp->Prop}(I:Inv X c σ H s)(h:d σ H λx H1=>e σ H1 λy H2=>R x y H2){α:Type}{Q:α->Shared->Prop}{f:Value->Value->Sem α}(g:∀v u s2 x y H2,Inv X c σ H2 s2->RelV x v->RelV y u->R x y H2->wpAny (model X.prog X.w) X.A (f v u) Q X.xe s2) :
  wpAny (model X.prog X.w) X.A (Zv a X.env) (λv s₁=>wpAny (model X.prog X.w) X.A (Zv b X.env) (λu s₂=>wpAny (model X.prog X.w) X.A (f v u) Q X.xe s₂) X.xe s₁) X.xe s:=by
 refine thn (ha c s σ H _ I h) λv s1 ⟨x,H1,I1,r1,q1⟩=>?_;refine thn (hb c s1 σ H1 _ I1 q1) λu s2 ⟨y,H2,I2,r2,q2⟩=>?_;exact g v u s2 x y H2 I2 r1 r2 q2
def nU(i:Nat):TE:=λσ H Q=>∃v,σ[i]?=some (some v)/\Q v H
def tC(v:V):TE:=λ_ H Q=>Q v H
def Sh{i:Nat}{x:Str}{pos:Pos}(hN:X.N[i]?=some x)(hv:Vis X.env.scope x)(hd:(x==("__debug__":Str))=false:=by decide)(hcd:(x==("__classdict__":Str))=false:=by decide):PE X (.Name x pos) (nU i):=by
 intro d s σ H Q I h;let⟨v,e,h⟩:=h;let⟨m,hn,hl⟩:=I.loc;let⟨u,r,l⟩:=hl i x v hN e hv;have b:EP X d σ Q u s:=⟨v,H,I,r,h⟩
 rcases l with⟨hk,hm⟩|⟨hk,c,hc,a⟩
 ·exact ZG (wpAny_loadName_local I.ok.kind hk hn hm b) hd
 ·rcases hk with hk|hk
  ·exact ZG (wpAny_loadName_cell I.ok.kind hk hc a b) hd
  ·exact ZG (wpAny_loadName_free I.ok.kind hk hc a b hcd) hd
def J3{i j pos}:PE X (.Constant (.int i) j pos) (tC (.int i)):=λ_ _ _ H _ I h=>wpAny_Constant_int ⟨.int i,H,I.tok _,⟨_,rfl⟩,h⟩
def Vp{b j pos}:PE X (.Constant (.bool b) j pos) (tC (.bl b)):=λ_ _ _ H _ I h=>Constant_bool ⟨.bl b,H,I,rfl,h⟩
def Sx{j pos}:PE X (.Constant .none j pos) (tC .non):=λ_ _ _ H _ I h=>Constant_none ⟨.non,H,I,rfl,h⟩
def Ss{x j pos}:PE X (.Constant (.str x) j pos) (tC (.str x)):=λ_ _ _ H _ I h=>Calls.Constant_str ⟨.str x,H,I.tok _,⟨_,rfl⟩,h⟩
def Gl(X:Cx)(x:Str):Prop:=X.env.kindOf x=some .globalImplicit
def O7{E:eB}{a:List (Addr×Obj)}{s:Shared}{σ:St}{H:Hp}{x:Str}{u:Value}{pos:Pos}{Q:eB}(I:Inv X a σ H s)(hg:Gl X x)(hm:X.mg x=some u)(h:Q u s)(hd:(x==("__debug__":Str))=false:=by decide):wpAny (model X.prog X.w) X.A (Zv (.Name x pos) X.env) Q E s :=
 Calls.Name_function_global I.ok.kind hg (Calls.loadGlobal_global (by rw[I.ok.glob];exact I.mod.glob.keeps I.bk) hm h) hd
def dU{E:eB}{a:List (Addr×Obj)}{s:Shared}{σ:St}{H:Hp}{x:Str}{u:Value}{pos:Pos}{Q:eB}(I:Inv X a σ H s)(hg:Gl X x)(hm:X.mg x=none)(hv:Zq x=some u)(h:Q u s)(hn:x≠"__name__":=by decide)(hd:(x==("__debug__":Str))=false:=by decide):wpAny (model X.prog X.w) X.A (Zv (.Name x pos) X.env) Q E s:=by
 let⟨b,h1,h2⟩:=I.mod.blt;exact Calls.Name_function_global I.ok.kind hg (Calls.loadGlobal_builtin (by rw[I.ok.glob];exact I.mod.glob.keeps I.bk) hm (by rw[I.ok.blt];exact h1.keeps I.bk) ((h2 x hn).trans hv) h) hd
def wN{x:Str}{v:V}{u:Value}{pos:Pos}(hg:Gl X x)(hm:X.mg x=none)(hv:Zq x=some u)(r:RelV v u)(hn:x≠"__name__":=by decide)(hd:(x==("__debug__":Str))=false:=by decide):PE X (.Name x pos) (tC v) :=
 λ_ _ _ H _ I h=>dU I hg hm hv ⟨v,H,I,r,h⟩ hn hd
variable{a b:Zt}{ta tb:TE}{pos:Pos}
def PC(X:Cx)(c:ZH)(a b:Zt)(t:TE):Prop :=
 ∀(pins:List (Addr×Obj))(s:Shared)(σ:St)(H:Hp)(Q:VK),Inv X pins σ H s->t σ H Q ->
  wpAny (model X.prog X.w) X.A (Zv a X.env) (λv s₁=>wpAny (model X.prog X.w) X.A (Zv b X.env) (λu s₂=>wpAny (model X.prog X.w) X.A (ZI c v u) (EP X pins σ Q) X.xe s₂) X.xe s₁) X.xe s
def tB(t:TE):TT:=λσ H Q=>t σ H λx H1=>∃c,x=.bl c/\Q c H1
def Sy{c:ZH}{t:TE}(h:PC X c a b t)(h1:ZJ c b=false:=by first|exact nobehind _ ∅ ∅|rfl):PE X (.Compare a [c] [b] pos) t:=λpins s σ H Q I hw=>ZK (h pins s σ H Q I hw) h1
def RX{f:ZH}{t:TE}(h:PC X f a b t)(h1:ZJ f b=false:=by first|exact nobehind _ ∅ ∅|rfl):PT X (.Compare a [f] [b] pos) (tB t):=by
 intro e s σ H Q I g;refine ZL (thn (h e s σ H _ I g) λv s1 h1=>thn h1 λu s2 h2=>thn h2 λc s3 ⟨x,H1,I1,r1,q1⟩=>?_) h1;let⟨d,rfl,q⟩:=q1;cases r1;exact ĸ ⟨H1,I1,q⟩
def RT{e:Zt}{t:TE}(h:PE X e t)(he:∀whole,ZE e X.env whole=(do let v ←whole;standAt e.pos;holding [v] (ZM v)):=by intro _;rfl):PT X e (tB t):=by
 intro c s σ H Q I f;refine isTrue_plain (thn (h c s σ H _ I f) λv s1 ⟨x,H1,I1,r1,q1⟩=>?_) (he _);let⟨d,rfl,q⟩:=q1;cases r1;exact ĸ ⟨H1,I1,q⟩
variable{tA tB':TT}{rest:List Zt}
def U9(t u:TT):TT:=λσ H Q=>t σ H λc H1=>if c=true then u σ H1 Q else Q false H1
def tOr(t u:TT):TT:=λσ H Q=>t σ H λc H1=>if c=true then Q true H1 else u σ H1 Q
def Xf(t:TT):TT:=λσ H Q=>t σ H λc H1=>Q (!c) H1
def Fy(ha:PT X a tA):PW X (.BoolOp .And [a] pos) tA:=by
 intro f d s σ H Q I h;refine isTrue_and (thn (ha d s σ H Q I h) λc s1 e=>?_);cases c with
 |true=>exact isTrue_and_nil e
 |false=>exact e
def RN(ha:PT X a tA):PW X (.BoolOp .Or [a] pos) tA:=by
 intro f d s σ H Q I h;refine isTrue_or (thn (ha d s σ H Q I h) λc s1 e=>?_);cases c with
 |false=>exact isTrue_or_nil e
 |true=>exact e
def JL(ha:PT X a tA)(hb:PW X (.BoolOp .And (b::rest) pos) tB'):PW X (.BoolOp .And (a::b::rest) pos) (U9 tA tB'):=by
 intro e d s σ H Q I h;refine isTrue_and (thn (ha d s σ H _ I h) λc s1 ⟨H1,I1,q1⟩=>?_);cases c with
 |true=>exact hb e d s1 σ H1 Q I1 q1
 |false=>exact⟨H1,I1,q1⟩
def Vh(ha:PT X a tA)(hb:PW X (.BoolOp .Or (b::rest) pos) tB'):PW X (.BoolOp .Or (a::b::rest) pos) (tOr tA tB'):=by
 intro e d s σ H Q I h;refine isTrue_or (thn (ha d s σ H _ I h) λc s1 ⟨H1,I1,q1⟩=>?_);cases c with
 |true=>exact⟨H1,I1,q1⟩
 |false=>exact hb e d s1 σ H1 Q I1 q1
def RW(ha:PT X a tA):PT X (.UnaryOp .Not a pos) (Xf tA):=by
 intro d s σ H Q I h;exact isTrue_not (ha d s σ H (λc H1=>Q (!c) H1) I h)
def U8(ta tb:TE):TE:=λσ H Q=>ta σ H λx H1=>∃c,x=.bl c/\if c=true then tb σ H1 Q else Q (.bl false) H1
def Xe(ta tb:TE):TE:=λσ H Q=>ta σ H λx H1=>∃c,x=.bl c/\if c=true then Q (.bl true) H1 else tb σ H1 Q
def UW(ta:TE):TE:=λσ H Q=>ta σ H λx H1=>∃c,x=.bl c/\Q (.bl (!c)) H1
def Sv{op}{t:TE}(h:PE X a t):PE X (.BoolOp op [a] pos) t:=λpins s σ H Q I hw=>BoolOp_one (h pins s σ H Q I hw)
def SJ(ha:PE X a ta)(hb:PE X (.BoolOp .And (b::rest) pos) tb):PE X (.BoolOp .And (a::b::rest) pos) (U8 ta tb):=by
 intro d s σ H Q I h;refine BoolOp_and (thn (ha d s σ H _ I h) λv s1 ⟨x,H1,I1,r1,e⟩=>?_);let⟨c,rfl,e⟩:=e;cases r1;refine ĸ ?_;cases c with
 |true=>exact hb d s1 σ H1 Q I1 e
 |false=>exact⟨.bl false,H1,I1,rfl,e⟩
def Vn(ha:PE X a ta)(hb:PE X (.BoolOp .Or (b::rest) pos) tb):PE X (.BoolOp .Or (a::b::rest) pos) (Xe ta tb):=by
 intro d s σ H Q I h;refine BoolOp_or (thn (ha d s σ H _ I h) λv s1 ⟨x,H1,I1,r1,e⟩=>?_);let⟨c,rfl,e⟩:=e;cases r1;refine ĸ ?_;cases c with
 |false=>exact hb d s1 σ H1 Q I1 e
 |true=>exact⟨.bl true,H1,I1,rfl,e⟩
def Sw(ha:PE X a ta):PE X (.UnaryOp .Not a pos) (UW ta):=by
 intro d s σ H Q I h;refine UnaryOp_ (thn (ha d s σ H _ I h) λv s1 ⟨x,H1,I1,r1,e⟩=>?_);let⟨c,rfl,e⟩:=e;cases r1;exact not_of (ĸ ⟨.bl (!c),H1,I1,rfl,e⟩)
def tIf(t:TT)(ta tb:TE):TE:=λσ H Q=>t σ H λc H1=>if c=true then ta σ H1 Q else tb σ H1 Q
def J5{c:Zt}(hc:PT X c tA)(ha:PE X a ta)(hb:PE X b tb):PE X (.IfExp c a b pos) (tIf tA ta tb):=by
 intro e s σ H Q I h;refine wpAny_IfExp (thn (hc e s σ H _ I h) λd s1 ⟨H1,I1,q1⟩=>?_);cases d with
 |true=>exact ha e s1 σ H1 Q I1 q1
 |false=>exact hb e s1 σ H1 Q I1 q1
end
def SqL(K:á)(H:Hp)(a:Addr)(xs:List V):Prop :=
 Rd H a (.lst xs)∨
  ∃(o:Obj)(its:Array Value)(n:Nat),K.lookup a=some o/\o.cls=.type "list"/\o.dict=none/\o.data=.seq its n/\its.size<=sizeLine/\Vals xs its.toList
def SqT(K:á)(H:Hp)(a:Addr)(xs:List V):Prop :=
 Rd H a (.tup xs)∨
  ∃(o:Obj)(its:Array Value)(n:Nat),K.lookup a=some o/\o.cls=.type "tuple"/\o.data=.seq its n/\its.size<=sizeLine/\Vals xs its.toList
def XD:Value->Option V
 |.none=>some .non
 |.bool b=>some (.bl b)
 |.int i _=>some (.int i)
 |.str x _=>some (.str x)
 |.bytes b _=>some (.byt b)
 |.float b _=>some (.flt b)
 |.ref a=>some (.ref a)
 |.type n=>some (.ty n)
 |_=>none
def RelV.abs{x:V}{u:Value}(r:RelV x u):XD u=some x:=by
 cases x with
 |non=>cases r;rfl
 |bl _=>cases r;rfl
 |int _=>let⟨t,rfl⟩:=r;rfl
 |str _=>let⟨t,rfl⟩:=r;rfl
 |byt _=>let⟨t,rfl⟩:=r;rfl
 |flt _=>let⟨t,rfl⟩:=r;rfl
 |ref _=>cases r;rfl
 |ty _=>cases r;rfl
def RelV.inj{x y:V}{u:Value}(r:RelV x u)(q:RelV y u):x=y:=Ô (r.abs.symm.trans q.abs)
theorem Vals.inj:∀{xs ys:List V}{us:List Value},Vals xs us->Vals ys us->xs=ys
 |_,_,_,.nil,.nil=>rfl
 |_,_,_,.cons r t,.cons r' t'=>by rw[r.inj r',Vals.inj t t']
section
variable{X:Cx}{pins:List (Addr×Obj)}{σ:St}{H:Hp}{s:Shared}{a:Addr}{xs ys:List V}
def SqL.of{K:á}(h:H a=some (.lst xs)):SqL K H a xs:=.inl (.inl h)
def SqT.of{K:á}(h:H a=some (.tup xs)):SqT K H a xs:=.inl (.inl h)
def Inv.list(I:Inv X pins σ H s)(h:SqL X.K H a xs):∃its:List Value,Vals xs its/\PlainL s.heap a its.toArray/\⇑xs<=sizeLine:=by
 rcases h with h|⟨o,its,n,hk,hc,hd,hs,b,r⟩
 ·let⟨z,its,n,r,e⟩:=h.ok I.hok;exact⟨its,r,⟨_,n,e,rfl,rfl,rfl⟩,z⟩
 ·refine⟨its.toList,r,⟨o,n,I.kIn a o hk,hc,hd,by simpa using hs⟩,?_⟩;have e:=⇑r;simp only[đ]at e;lia
def Inv.tuple(I:Inv X pins σ H s)(h:SqT X.K H a xs):∃its:List Value,Vals xs its/\IsTup s.heap a its.toArray/\⇑xs<=sizeLine:=by
 rcases h with h|⟨o,its,n,hk,hc,hs,b,r⟩
 ·let⟨z,its,r,p⟩:=h.ok I.hok;exact⟨its,r,p,z⟩
 ·refine⟨its.toList,r,⟨o,I.kIn a o hk,hc,n,by simpa using hs⟩,?_⟩;have e:=⇑r;simp only[đ]at e;lia
def Inv.mL(I:Inv X pins σ H s)(h:SqL X.K H a xs)(h':SqL X.K H a ys):xs=ys:=by
 let⟨its,r,⟨o,n,e,_,_,d⟩,_⟩:=I.list h;let⟨its',c,⟨o',f,b,_,_,d'⟩,_⟩:=I.list h';rw[e]at b;cases b;rw[d]at d';injection d' with d1 _;have:its=its':=by simpa using et Array.toList d1
 subst this;exact r.inj c
def Inv.uQ(I:Inv X pins σ H s)(h:SqT X.K H a xs)(h':SqT X.K H a ys):xs=ys:=by
 let⟨its,r,⟨o,e,_,n,d⟩,_⟩:=I.tuple h;let⟨its',c,⟨o',b,_,f,d'⟩,_⟩:=I.tuple h';rw[e]at b;cases b;rw[d]at d';injection d' with d1 _;have:its=its':=by simpa using et Array.toList d1
 subst this;exact r.inj c
end
abbrev Cx.wish(X:Cx)(E:eB):Cx:={ X with xe:=E }
abbrev Cx.nox(X:Cx):Cx:=X.wish λ_ _=>False
def Cx.Ok.wish{X:Cx}(ok:X.Ok)(E:eB):(X.wish E).Ok :=
 ⟨ok.mod,ok.kind,ok.glob,ok.blt,ok.above,ok.inj,ok.has,ok.cab,ok.hd,ok.frames,ok.stk,ok.exf,ok.bs,ok.bsz,ok.noex,ok.exfs,ok.tX,ok.frf,ok.sof⟩
def Cx.Ok.iT{X:Cx}{E:eB}(ok:(X.wish E).Ok):X.Ok :=
 ⟨ok.mod,ok.kind,ok.glob,ok.blt,ok.above,ok.inj,ok.has,ok.cab,ok.hd,ok.frames,ok.stk,ok.exf,ok.bs,ok.bsz,ok.noex,ok.exfs,ok.tX,ok.frf,ok.sof⟩
section
variable{X:Cx}{pins:List (Addr×Obj)}{σ:St}{H:Hp}{s:Shared}{E:eB}
def Inv.wish(I:Inv X pins σ H s)(E:eB):Inv (X.wish E) pins σ H s:=⟨I.ok.wish E,I.os,I.bare,I.base,I.loc,I.cell,I.free,I.freeC,I.pin,I.hok,I.len⟩
def Inv.iT(I:Inv (X.wish E) pins σ H s):Inv X pins σ H s:=⟨I.ok.iT,I.os,I.bare,I.base,I.loc,I.cell,I.free,I.freeC,I.pin,I.hok,I.len⟩
def SP.iT{D:Ends}{f:Flow}{c:Shared}(h:SP (X.wish E) pins D f c):SP X pins D f c:=by
 cases f with
 |next=>let⟨a,b,I,q⟩:=h;exact⟨a,b,I.iT,q⟩
 |brk=>let⟨a,b,I,q⟩:=h;exact⟨a,b,I.iT,q⟩
 |cont=>let⟨a,b,I,q⟩:=h;exact⟨a,b,I.iT,q⟩
 |ret u=>let⟨v,a,b,I,r,q⟩:=h;exact⟨v,a,b,I.iT,r,q⟩
def PSs.nox{st:List ZF}{t:TS}(h:PSs X.nox st t):PSs X st t:=λpins s σ H D I hw =>
 ń (h pins s σ H D (I.wish _) hw) (λ_ _ q=>q.iT) λ_ _ z=>Ţ z
end
section
variable{X:Cx}{st:ZF}{rest:List ZF}{t u:TS}{e:Zt}{te:TE}{pos:Pos}
def U0:TS:=λD σ H=>D.nx σ H
def UG(t u:TS):TS:=λD σ H=>t { D with nx:=u D } σ H
def qK:PSs X [] U0:=λ_ _ σ H _ I h=>ZN ⟨σ,H,I,h⟩
def bG(h1:PS X st t)(h2:PSs X rest u):PSs X (st::rest) (UG t u):=by
 intro a s σ H D I h;refine wpAny_execs_cons (thn (h1 a s σ H { D with nx:=u D } I h) λf s1 q=>?_);cases f with
 |next =>
  let⟨b,c,d,q⟩:=q;exact h2 a s1 b c D d q
 |ret v=>exact q
 |brk=>exact q
 |cont=>exact q
def lN(h1:PS X st t):PSs X [st] t:=by
 intro a s σ H D I h;refine wpAny_execs_cons (thn (h1 a s σ H D I h) λf s1 q=>?_);cases f with
 |next=>exact ZN q
 |ret v=>exact q
 |brk=>exact q
 |cont=>exact q
def Inv.quiet{a:List (Addr×Obj)}{σ:St}{H:Hp}{s:Shared}(I:Inv X a σ H s):interactive X.env=false:=by simp[interactive,I.ok.kind]
def uT(te:TE):TS:=λD σ H=>te σ H λ_ H1=>D.nx σ H1
def jK(he:PE X e te)(hs:ZO e none pos.line X.env=pure false:=by rfl):PS X (.Expr e pos) (uT te):=by
 intro a s σ H D I h;exact wpAny_Expr_any (thn (he a s σ H _ I h) λv s1 ⟨x,H1,I1,r1,q1⟩=>⟨σ,H1,I1,q1⟩) I.quiet hs
def Xd(te:TE):TS:=λD σ H=>te σ H D.rt
def wI(he:PE X e te):PS X (.Return (some e) pos) (Xd te):=by
 intro a s σ H D I h;exact wpAny_Return_some (thn (he a s σ H _ I h) λv s1 ⟨x,H1,I1,r1,q1⟩=>⟨x,σ,H1,I1,r1,q1⟩)
def Xg(c:TT)(t u:TS):TS:=λD σ H=>c σ H λb H1=>if b=true then t D σ H1 else u D σ H1
def Fz{c:Zt}{a b:List ZF}{g:TT}(hc:PT X c g)(ha:PSs X a t)(hb:PSs X b u):PS X (.If c a b pos) (Xg g t u):=by
 intro f s σ H D I h;refine wpAny_If (thn (hc f s σ H _ I h) λd s1 ⟨H1,I1,q1⟩=>?_);cases d with
 |true=>exact ha f s1 σ H1 D I1 q1
 |false=>exact hb f s1 σ H1 D I1 q1
def Rv:TS:=λ_ _ _=>False
def JR:PS X st Rv:=λ_ _ _ _ _ _ h=>h.elim
end
abbrev TG:=V->St->Hp->(St->Hp->Prop)->Prop
abbrev TGs:=List V->St->Hp->(St->Hp->Prop)->Prop
def PG(X:Cx)(a:Zt)(t:TG):Prop :=
 ∀(pins:List (Addr×Obj))(s:Shared)(σ:St)(H:Hp)(v:V)(u:Value)(Q:St->Hp->Prop),Inv X pins σ H s->RelV v u->t v σ H Q ->
  wpAny (model X.prog X.w) X.A (ZP a X.env u) (λ_ s'=>∃σ' H',Inv X pins σ' H' s'/\Q σ' H') X.xe s
def PGs(X:Cx)(a:List Zt)(t:TGs):Prop :=
 ∀(pins:List (Addr×Obj))(s:Shared)(σ:St)(H:Hp)(vs:List V)(us:List Value)(Q:St->Hp->Prop),Inv X pins σ H s->Vals vs us->t vs σ H Q ->
  wpAny (model X.prog X.w) X.A (ZQ ((ZR a X.env).map (·.2)) us) (λ_ s'=>∃σ' H',Inv X pins σ' H' s'/\Q σ' H') X.xe s
abbrev Um:=V->V->V->Hp->(Hp->Prop)->Prop
def W7(X:Cx)(t:Um):Prop :=
 ∀(pins:List (Addr×Obj))(s:Shared)(σ:St)(H:Hp)(o i v:V)(ov iv u:Value)(Q:Hp->Prop),Inv X pins σ H s->RelV o ov->RelV i iv->RelV v u->t o i v H Q ->
  wpAny (model X.prog X.w) X.A (setItem ov iv u) (λ_ s'=>∃H',Inv X pins σ H' s'/\Q H') X.xe s
section
variable{X:Cx}{pos:Pos}
def gG(i:Nat):TG:=λv σ H Q=>Q (σ.set i (some v)) H
def Od{i:Nat}{x:Str}(hN:X.N.Nodup)(hi:X.N[i]?=some x)(c:Loc X.env.scope x)(b:X.fn x=true\/X.env.scope.names.lookup x=some .local:=by first|exact .inl rfl|exact .inr rfl|assumption):PG X (.Name x pos) (gG i):=by
 intro a s σ H v u Q I r h;exact ZT (yQ I hN hi c r (λs' I'=>⟨_,H,I',h⟩) b)
def Xx:TGs:=λvs σ H Q=>vs=[]/\Q σ H
def Wk(t:TG)(u:TGs):TGs:=λvs σ H Q=>∃v r,vs=v::r/\t v σ H λσ' H'=>u r σ' H' Q
def Oc:PGs X [] Xx:=by
 intro a s σ H vs us Q I r h;let⟨e,h⟩:=h;subst e;cases r;exact assignInOrder_nil ⟨σ,H,I,h⟩
def J0{e:Zt}{b:List Zt}{t:TG}{u:TGs}(h1:PG X e t)(h2:PGs X b u)(hs:(ZR (e::b) X.env).map (·.2)=ZP e X.env::(ZR b X.env).map (·.2):=by rfl):PGs X (e::b) (Wk t u):=by
 intro a s σ H vs us Q I r h;let⟨v,d,c,h⟩:=h;subst c;cases r with
 |cons r rr =>
  rw[hs];refine assignInOrder_cons (thn (h1 a s σ H _ _ _ I r h) λ_ s1 ⟨σ1,H1,I1,q1⟩=>?_);exact h2 a s1 σ1 H1 _ _ Q I1 rr q1
def Xv(K:á)(n:Nat)(t:TGs):TG:=λv σ H Q=>∃a xs,v=.ref a/\SqT K H a xs/\⇑xs=n/\t xs σ H Q
def R9{d:List Zt}{k:Nat}{t:TGs}{n:Nat}(hc:X.calm=true)(h:PGs X d t)(hn:⇑(ZR d X.env)=n:=by rfl)(hst:(ZR d X.env).findIdx? (·.1)=none:=by rfl):PG X (.Tuple d k pos) (Xv X.K n t):=by
 intro c s σ H v u Q I r f;let⟨a,xs,j,l,hl,f⟩:=f;subst j;cases r;let⟨its,g,ht,m⟩:=I.tuple l;refine assign_Tuple_tuple (I.ok.hd hc) ht (by simp[hn,←hl,⇑g]) hst λh' hx=>?_;have i:Inv X c σ H { s with heap:=h' }:=I.kept (t':=s.toks) λb o e=>hx b o (é (Ï e)) e;exact h c _ σ H xs _ Q i (by simpa using g) f
def Xw(b a:TE)(t:Um):TG:=λv σ H Q=>b σ H λo H1=>a σ H1 λi H2=>t o i v H2 λH3=>Q σ H3
def Cp{o i:Zt}{c b:TE}{t:Um}(d:PE X o c)(hi:PE X i b)(hs:W7 X t)(ha:∀v,ZP (.Subscript o i pos) X.env v=(do
   let ov ←holding [v] (Zv o X.env)
   let iv ←holding [v,ov] (Zv i X.env)
   standAt pos
   holding [v,ov,iv] (setItem ov iv v)
   release [v,ov,iv] []):=by intro _;rfl):PG X (.Subscript o i pos) (Xw c b t):=by
 intro a s σ H v u Q I r h;rw[ha];refine Å (Ē (thn (d a s σ H _ I h) λov s1 ⟨x,H1,I1,r1,q1⟩=>?_));refine Å (Ē (thn (hi a s1 σ H1 _ I1 q1) λiv s2 ⟨y,H2,I2,r2,q2⟩=>?_));refine Å (ZU (Å (Ē (thn (hs a s2 σ H2 x y v ov iv u _ I2 r1 r2 r q2) λ_ s3 ⟨H3,I3,q3⟩=>?_))));exact wpAny_release ⟨σ,H3,I3,q3⟩
def ql(a:TE)(g:TG):TS:=λD σ H=>a σ H λx H1=>g x σ H1 D.nx
def wJ{b e:Zt}{c:TE}{g:TG}(he:PE X e c)(hg:PG X b g)(hs:ZV [b] e pos.line X.env=pure false:=by rfl)(d:ZW [b] e X.env=pure none:=by rfl)(h1:(ZR [b] X.env).map (·.2)=[ZP b X.env]:=by rfl):PS X (.Assign [b] e pos) (ql c g):=by
 intro a s σ H D I h;refine wpAny_Assign_stores (thn (he a s σ H _ I h) λv s1 ⟨x,H1,I1,r1,q1⟩=>?_) hs d;rw[h1];exact thn (hg a s1 σ H1 x v _ I1 r1 q1) λ_ s2 q=>q
def fM{i:Nat}{x:Str}{e:Zt}{c:TE}{a:Pos}(hN:X.N.Nodup)(hi:X.N[i]?=some x)(f:Loc X.env.scope x)(he:PE X e c)(hs:ZO e (some (.Name x a)) pos.line X.env=pure false:=by rfl)(d:X.fn x=true\/X.env.scope.names.lookup x=some .local:=by first|exact .inl rfl|exact .inr rfl|assumption) :
  PS X (.Assign [.Name x a] e pos) (ql c (gG i)):=by
 intro b s σ H D I h;refine wpAny_Assign_Name (thn (he b s σ H _ I h) λv s1 ⟨y,H1,I1,r1,q1⟩=>?_) hs;exact yQ I1 hN hi f r1 (λs2 I2=>⟨_,H1,I2,q1⟩) d
def Rr(c:TT)(a:TS):TS:=λD σ H=>∃W:Nat->St->Hp->Prop,(∃m,W m σ H)/\∀m σ H,W m σ H ->
 c σ H λb H1=>if b=true then ∃N:St->Hp->Prop,(∀σ' H',N σ' H'->∃m',m'<m/\W m' σ' H')/\a { D with nx:=N,ct:=N,bk:=D.nx } σ H1 else D.nx σ H1
def JQ{c:Zt}{g:List ZF}{t:TT}{r:TS}(hp:ZX (model X.prog X.w) X.A X.env X.xe)(hc:PT X c t)(hb:PSs X g r):PS X (.While c g [] pos) (Rr t r):=by
 intro a s σ H D I h;let⟨W,⟨x,z⟩,j⟩:=h;refine wpAny_While (codeAny_whileLoop (λn s'=>∃σ' H',Inv X a σ' H' s'/\W n σ' H') ?_ x ⟨σ,H,I,z⟩);rintro n y ⟨e,q,u,B⟩;refine ż hp (thn (hc a y e q _ u (j n e q B)) λb s2 ⟨H2,I2,k⟩=>?_);cases b with
 |true =>
  let⟨N,hN,k⟩:=k;rw[el rfl];refine ż hp (thn (hb a s2 e H2 _ I2 k) λf s3 q3=>?_);cases f with
  |next =>
   let⟨d,i,l,o⟩:=q3;let⟨m,hm,p⟩:=hN d i o;exact⟨m,hm,d,i,l,p⟩
  |cont =>
   let⟨d,i,l,o⟩:=q3;let⟨m,hm,p⟩:=hN d i o;exact⟨m,hm,d,i,l,p⟩
  |brk=>exact q3
  |ret v=>exact q3
 |false =>
  rw[em Î];exact ZN ⟨e,H2,I2,k⟩
end
structure It where
 go:Nat->Hp->Prop
 yld:Nat->Hp->V->Hp->Prop
 stop:Nat->Hp->Prop
def nQ(X:Cx)(a:List (Addr×Obj))(H:Hp)(b:Addr):Prop :=
 H b=none/\b≠X.env.locals/\b∉X.fs/\(b∈X.ex\/X.s₀.heap.objs.size<=b)/\(∀x c,X.env.cells.lookup x=some c->c≠b)/\∀p∈X.pn++a,p.1≠b
def Inv.Ak{X:Cx}{a:List (Addr×Obj)}{σ:St}{H d:Hp}{s:Shared}{b:Addr}(I:Inv X a σ H s)(hb:↥s<=b)(hn:d b=none):nQ X a d b:=by
 refine⟨hn,Ĺ (î I.lt hb),I.Xn hb,.inr (ą I.sz hb),λx c e z=>?_,λp hp z=>?_⟩
 ·let⟨v,q⟩:=I.cell x c e;exact er (î q.lt (by rw[z];exact hb)) (Ą _)
 ·exact er (î (Ï (I.pin p hp).1) (by rw[z];exact hb)) (Ą _)
structure TurnG(Cm:Cx->Prop)(P:Za)(w:Zb)(K:á)(tg:Zt)(J:It)(fp:List Addr)(it:Addr)(tn:Nat->Zg->Prop):Prop where
 mem:it∈fp
 obj:∀i h,tn i h->∀b∈fp,∃o,h.get? b=some o/\∀v,o.data≠.cell v
 keep:∀i h h',tn i h->(∀b∈fp,∀o,h.get? b=some o->h'.get? b=some o)->tn i h'
 item:∀(X:Cx),X.prog=P->X.w=w->X.K=K->Cm X->∀(i:Nat)(pins:List (Addr×Obj))(s:Shared)(σ:St)(H:Hp)(E:eB),Inv X pins σ H s->(∀b∈fp,nQ X pins H b)->tn i s.heap->J.go i H ->
  wpAny (model P w) X.A (ZY (.ref it)) (λr s1=>∃u,r=some u /\
   wpAny (model P w) X.A (ZZ tg (.ref it) u) (λ_ s2=>∃x H',Inv X pins σ H' s2/\RelV x u/\J.yld i H x H'/\tn (i+1) s2.heap/\∀b∈fp,H' b=none) E s1) E s
 done:∀(X:Cx),X.prog=P->X.w=w->X.K=K->Cm X->∀(i:Nat)(pins:List (Addr×Obj))(s:Shared)(σ:St)(H:Hp)(E:eB),Inv X pins σ H s->(∀b∈fp,nQ X pins H b)->tn i s.heap->J.stop i H ->
  wpAny (model P w) X.A (ZY (.ref it)) (λr s1=>r=none/\Inv X pins σ H s1) E s
 self:∀(A:Zr)(i:Nat)(s:Shared)(Q:eB)(E:eB),tn i s.heap->Q (.ref it) s->wpAny (model P w) A (pyIter (.ref it)) Q E s
abbrev Turn(P:Za)(w:Zb)(K:á)(tg:Zt)(J:It)(fp:List Addr)(it:Addr)(tn:Nat->Zg->Prop):Prop:=TurnG (λX=>X.calm=true) P w K tg J fp it tn
abbrev TI:=St->Hp->(It->Hp->Prop)->Prop
def W8(Cm:Cx->Prop)(X:Cx)(a:List (Addr×Obj))(σ:St)(e:Zt)(R:It->Hp->Prop)(c:Value)(d:Shared):Prop :=
 ∃(it:Addr)(fp:List Addr)(tn:Nat->Zg->Prop)(J:It)(H':Hp),c=.ref it/\Inv X a σ H' d/\TurnG Cm X.prog X.w X.K e J fp it tn/\tn 0 d.heap/\(∀b∈fp,nQ X a H' b)/\R J H'
def PIG(Cm:Cx->Prop)(X:Cx)(b a:Zt)(c:TI):Prop :=
 ∀(pins:List (Addr×Obj))(s:Shared)(σ:St)(H:Hp)(R:It->Hp->Prop),Inv X pins σ H s->c σ H R ->
  wpAny (model X.prog X.w) X.A (Zv a X.env) (λv s1=>wpAny (model X.prog X.w) X.A (pyIter v) (W8 Cm X pins σ b R) X.xe s1) X.xe s
abbrev PIE(X:Cx):=W8 (λX=>X.calm=true) X
abbrev PI(X:Cx):=PIG (λX=>X.calm=true) X
def Lg{M:ZD}{A:Zr}{E:eB}{s:Shared}{b:Zt}{it:Addr}{u:Value}{o:Obj}{n:String}{vs:Array Value}{Q:Unit->Shared->Prop}(c:s.heap.get? it=some o)(hc:o.cls=.type n)(hd:o.data=.fields vs)(hn:["enumerate","zip","dict_itemiterator","dict_reverseitemiterator","odict_iterator","itertools.zip_longest","itertools.pairwise"].contains n=false)(a:Q .unit s):wpAny M A (ZZ b (.ref it) u) Q E s:=by
 unfold ZZ;cases b <;> first
  |exact Ø a
  | (cases u <;> first
    |exact Ø a
    | (refine Å (Z0 c ?_)
       rw[hc,hd];show wpAny M A (if(["enumerate","zip","dict_itemiterator","dict_reverseitemiterator","odict_iterator","itertools.zip_longest","itertools.pairwise"].contains n&&vs[0]?==some (Z2 _))=true then _ else _) Q E s;rw[em (by intro h;rw[hn,Bool.false_and]at h;cases h)];exact Ø a))
def Itl(K:á)(a:Addr):It :=
 ⟨λi H=>∃xs x,SqL K H a xs/\xs[i]?=some x,λi H x H'=>H'=H/\∀xs,SqL K H a xs->xs[i]?=some x,λi H=>∃xs,SqL K H a xs/\⇑xs<=i⟩
def Itt(K:á)(a:Addr):It :=
 ⟨λi H=>∃xs x,SqT K H a xs/\xs[i]?=some x,λi H x H'=>H'=H/\∀xs,SqT K H a xs->xs[i]?=some x,λi H=>∃xs,SqT K H a xs/\⇑xs<=i⟩
def Itr(a:Int)(n:Nat):It:=⟨λi _=>i<n,λi H x H'=>H'=H/\x=.int (a+i),λi _=>n<=i⟩
def GQ{P:Za}{w:Zb}{K:á}{tg:Zt}(a it:Addr):Turn P w K tg (Itl K a) [it] it (λi h=>h.IsListIter it a i) where
 mem:=by simp
 obj:=λi h st b hb=>by
  have e:b=it:=by simpa using hb
  subst e;let⟨o,e,c,d⟩:=st;exact⟨o,e,λv z=>by rw[d]at z;cases z⟩
 keep:=λi h h' st k=>st.at λo e=>k it (by simp) o e
 item:=by
  intro X hP hw hK hc i pins s σ H E I hf st hg;subst hP hw hK;let⟨xs,x,hq,hx⟩:=hg;let⟨its,rv,p,hz⟩:=I.list hq;let⟨u,hu,ru⟩:=rv.get hx;let⟨f0,f1,f2,f3,f4,f5⟩:=hf it (by simp);refine Z3 st p.isList (x:=u) (by simpa using hu) λh' st' sb=>?_;have I1:Inv X pins σ H { s with heap:=h' }:=I.turned (t':=s.toks) (λb o hb e=>(sb.2 b hb).trans e) f0 f1 f3 f4 f5;let⟨o,e,c,d⟩:=id st';exact⟨u,rfl,Lg (s:={ s with heap:=h' }) e c d ∅ ⟨x,H,I1,ru,⟨rfl,λys hy=>by rw[I.mL hy hq];exact hx⟩,st',λb hb=>(hf b hb).1⟩⟩
 done:=by
  intro X hP hw hK hc i pins s σ H E I hf st hg;subst hP hw hK;let⟨xs,hq,hx⟩:=hg;let⟨its,rv,p,hz⟩:=I.list hq;let⟨f0,f1,f2,f3,f4,f5⟩:=hf it (by simp);have hl:=⇑rv;exact Z4 (I.ok.hd hc) st p.isList (by simp;lia) λh' eb=>⟨rfl,I.turned (t':=s.toks) (λb o hb e=>eb b o hb e) f0 f1 f3 f4 f5⟩
 self:=λ_ _ _ _ _ st h=>wpAny_pyIter_listiter st h
def Bv{P:Za}{w:Zb}{K:á}{tg:Zt}(a it:Addr):Turn P w K tg (Itt K a) [it] it (λi h=>h.IsTupleIter it a i) where
 mem:=by simp
 obj:=λi h st b hb=>by
  have e:b=it:=by simpa using hb
  subst e;let⟨o,e,c,d⟩:=st;exact⟨o,e,λv z=>by rw[d]at z;cases z⟩
 keep:=λi h h' st k=>st.at λo e=>k it (by simp) o e
 item:=by
  intro X hP hw hK hc i pins s σ H E I hf st hg;subst hP hw hK;let⟨xs,x,hq,hx⟩:=hg;let⟨its,rv,p,hz⟩:=I.tuple hq;let⟨u,hu,ru⟩:=rv.get hx;let⟨f0,f1,f2,f3,f4,f5⟩:=hf it (by simp);refine wpAny_pyNext_tuple_item st (show s.heap.IsTuple a its.toArray from p) (x:=u) (by simpa using hu) λh' st' sb=>?_;have I1:Inv X pins σ H { s with heap:=h' }:=I.turned (t':=s.toks) (λb o hb e=>(sb.2 b hb).trans e) f0 f1 f3 f4 f5;let⟨o,e,c,d⟩:=id st';exact⟨u,rfl,Lg (s:={ s with heap:=h' }) e c d ∅ ⟨x,H,I1,ru,⟨rfl,λys hy=>by rw[I.uQ hy hq];exact hx⟩,st',λb hb=>(hf b hb).1⟩⟩
 done:=by
  intro X hP hw hK hc i pins s σ H E I hf st hg;subst hP hw hK;let⟨xs,hq,hx⟩:=hg;let⟨its,rv,p,hz⟩:=I.tuple hq;let⟨f0,f1,f2,f3,f4,f5⟩:=hf it (by simp);have hl:=⇑rv;exact wpAny_pyNext_tuple_end (I.ok.hd hc) st (show s.heap.IsTuple a its.toArray from p) (by simp;lia) λh' eb=>⟨rfl,I.turned (t':=s.toks) (λb o hb e=>eb b o hb e) f0 f1 f3 f4 f5⟩
 self:=λ_ _ _ _ _ st h=>wpAny_pyIter_tupleiter st h
def Bw{P:Za}{w:Zb}{K:á}{tg:Zt}(it:Addr)(lo:Int)(n:Nat):Turn P w K tg (Itr lo n) [it] it (λi h=>IsRangeIter h it (lo+(i:Nat) * 1) ((n:Int) - (i:Nat)) 1) where
 mem:=by simp
 obj:=λi h st b hb=>by
  have e:b=it:=by simpa using hb
  subst e;exact⟨_,st,λv z=>by
   have z':Data.fields _=Data.cell v:=z;cases z'⟩
 keep:=λi h h' st k=>k it (by simp) _ st
 item:=by
  intro X hP hw hK hc i pins s σ H E I hf st hg;subst hP hw hK;let⟨f0,f1,f2,f3,f4,f5⟩:=hf it (by simp);have W:=Walks.range (prog:=X.prog) (w:=X.w) (I.ok.hd hc) it lo 1 n;refine W.item i s _ _ hg st λv h' tk hv st' kk=>?_;let⟨t,rfl⟩:=hv;have I1:Inv X pins σ H { s with heap:=h',toks:=tk }:=I.turned (λb o hb e=>kk b o (by simpa using hb) e) f0 f1 f3 f4 f5;refine⟨_,rfl,Lg (s:={ s with heap:=h',toks:=tk }) (n:="range_iterator") st' rfl rfl ∅ ⟨.int (lo+i),H,I1,⟨t,?_⟩,⟨rfl,rfl⟩,st',λb hb=>(hf b hb).1⟩⟩;rw[Int.mul_one]
 done:=by
  intro X hP hw hK hc i pins s σ H E I hf st hg;subst hP hw hK;let⟨f0,f1,f2,f3,f4,f5⟩:=hf it (by simp);exact wpAny_pyNext_range_end (I.ok.hd hc) st (by have:n<=i:=hg;lia) λh' eb=>⟨rfl,I.turned (t':=s.toks) (λb o hb e=>eb b o hb e) f0 f1 f3 f4 f5⟩
 self:=λ_ _ _ _ _ st h=>wpAny_pyIter_rangeiter st h
section
variable{X:Cx}{tg:Zt}
def zj{c:List (Addr×Obj)}{σ:St}{H:Hp}{s:Shared}{R:It->Hp->Prop}{E:eB}{a hi:Int}{t u v:Tok}{tk:Nat}(I:Inv X c σ H s)(h1:-(2 ^ 62)<=a)(h2:a<2 ^ 62)(h:-(2 ^ 62)<=hi)(i:hi<2 ^ 62)(q:R (Itr a (hi - a).toNat) H):wpAny (model X.prog X.w) X.A (pyIter (.ref ↥s)) (PIE X c σ tg R) E { s with heap:=s.heap.push { cls:=.type "range",data:=.fields #[.int a t,.int hi u,.int 1 v]},toks:=tk }:=by
 refine wpAny_pyIter_range (IsRange.new ..) (small_one h1 h2 h i) ?_;have d:Inv X c σ H { s with heap:=s.heap.push { cls:=.type "range",data:=.fields #[.int a t,.int hi u,.int 1 v]},toks:=tk }:=I.kept λb o e=>Ò _ e;refine⟨(s.heap.push { cls:=.type "range",data:=.fields #[.int a t,.int hi u,.int 1 v]}).objs.size,[(s.heap.push { cls:=.type "range",data:=.fields #[.int a t,.int hi u,.int 1 v]}).objs.size],_,_,H,rfl,
  d.kept (t':=tk) λb o e=>Ò _ e,Bw _ a (hi - a).toNat,?_,λb hb=>?_,q⟩
 ·have f:a+((0:Nat):Int) * 1=a:=by simp
  have g:(((hi - a).toNat:Nat):Int) - ((0:Nat):Int)=Builtin.Range.rangeSize a hi 1:=by rw[rangeSize_one];split <;> lia
  show IsRangeIter _ _ (a+((0:Nat):Int) * 1) ((((hi - a).toNat:Nat):Int) - ((0:Nat):Int)) 1;rw[f,g];exact â _ rfl
 ·have e:b=(s.heap.push { cls:=.type "range",data:=.fields #[.int a t,.int hi u,.int 1 v]}).objs.size:=by simpa using hb
  subst e;exact d.Ak (Õ _) (d.hok.fresh (Õ _))
def Wf(a:TA):TI:=λσ H R=>a σ H λvs H1=>∃j:Int,vs=[.int j]/\-(2 ^ 62)<=j/\j<2 ^ 62/\R (Itr 0 j.toNat) H1
def Wd(a:TA):TI:=λσ H R=>a σ H λvs H1=>∃i j:Int,vs=[.int i,.int j]/\(-(2 ^ 62)<=i/\i<2 ^ 62/\-(2 ^ 62)<=j/\j<2 ^ 62)/\R (Itr i (j - i).toNat) H1
def Hf{a:Zt}{d:TA}{p pos:Pos}(hg:Gl X "range")(hm:X.mg "range"=none)(ha:PA X [a] d)(hs:Zu [a] X.env=[(false,Zv a X.env)]:=by rfl):PI X tg (.Call (.Name "range" p) [a] [] pos) (Wf d):=by
 intro b s σ H R I h;refine Z5 (dU I hg hm boot_range (Ā (thn (ha pos b s σ H _ I h) λus s1 ⟨vs,H1,I1,r1,c⟩=>?_) hs rfl));let⟨j,e,c,f,q⟩:=c;subst e;cases r1 with
 |cons r rr =>
  cases rr;let⟨t,rfl⟩:=r;exact call_range_1 (zj I1 () () c f (by simpa using q))
def G9{a b:Zt}{f:TA}{p pos:Pos}(hg:Gl X "range")(hm:X.mg "range"=none)(ha:PA X [a,b] f)(hs:Zu [a,b] X.env=[(false,Zv a X.env),(false,Zv b X.env)]:=by rfl)(hs2:Zu [b] X.env=[(false,Zv b X.env)]:=by rfl) :
  PI X tg (.Call (.Name "range" p) [a,b] [] pos) (Wd f):=by
 intro c s σ H R I h;refine Z5 (dU I hg hm boot_range (Ā (thn (ha pos c s σ H _ I h) λus s1 ⟨vs,H1,I1,r1,d⟩=>?_) (by rw[hs,hs2]) (by rw[hs2];rfl)));let⟨i,j,e,⟨d,g,k,l⟩,q⟩:=d;subst e;cases r1 with
 |cons r rr =>
  cases rr with
  |cons r' rr =>
   cases rr;let⟨t,rfl⟩:=r;let⟨t',rfl⟩:=r';exact call_range_2 (zj I1 d g k l q)
def Xh(b:TI)(g:TG)(a:TS):TS:=λD σ H=>b σ H λJ H1=>∃W:Nat->Nat->St->Hp->Prop,(∃m,W 0 m σ H1)/\∀i m σ H,W i m σ H ->
 (J.stop i H/\D.nx σ H)\/(J.go i H/\∃N:St->Hp->Prop,(∀σ' H',N σ' H'->∃m',m'<m/\W (i+1) m' σ' H')/\∀x H',J.yld i H x H'->g x σ H' λσ2 H2=>a { D with nx:=N,ct:=N,bk:=D.nx } σ2 H2)
def iZ(a:List Addr)(h:Zg):List (Addr×Obj):=a.filterMap λb=>(h.get? b).map λo=>(b,o)
def iw{a:List Addr}{h:Zg}{b:Addr}{o:Obj}(hb:b∈a)(e:h.get? b=some o):(b,o)∈iZ a h:=List.mem_filterMap.mpr ⟨b,hb,by rw[e];rfl⟩
def vf{a:List Addr}{h:Zg}{p:Addr×Obj}(hp:p∈iZ a h):p.1∈a/\h.get? p.1=some p.2:=by
 let⟨b,hb,e⟩:=List.mem_filterMap.mp hp;cases q:h.get? b with
 |none=>rw[q]at e;cases e
 |some o =>
  rw[q]at e;have c:(b,o)=p:=Ô e;subst c;exact⟨hb,q⟩
def Inv.pinned{a:List (Addr×Obj)}{σ:St}{H:Hp}{s:Shared}{c:List Addr}(I:Inv X a σ H s)(j:∀b∈c,nQ X a H b)(k:∀b∈c,∃o,s.heap.get? b=some o/\∀v,o.data≠.cell v):Inv X (a++iZ c s.heap) σ H s :=
 I.qL λp hp=>(ë.mp hp).elim (λz=>I.pin p (ã _ z)) λz=>by
  let⟨hb,e⟩:=vf z;let⟨g,h,i,_⟩:=j p.1 hb;let⟨o,f,d⟩:=k p.1 hb;rw[e]at f;cases f;exact⟨e,g,h,i,d⟩
def Inv.lB{a b:List (Addr×Obj)}{σ:St}{H:Hp}{s:Shared}(I:Inv X (a++b) σ H s):Inv X a σ H s:=I.qL λp hp=>I.pin p (ã _ (è _ hp))
def R4{p:Zt}{y:List ZF}{V:TI}{g:TG}{S:TS}{pos:Pos}(hp:ZX (model X.prog X.w) X.A X.env X.xe)(hc:X.calm=true)(hi:PI X tg p V)(hg:PG X tg g)(hb:PSs X y S)(hs:∀x,Zx p X.env x=pure x:=by intro _;rfl):PS X (.For tg p y [] pos) (Xh V g S):=by
 intro a s σ H D I h;refine wpAny_For (thn (hi a s σ H _ I h) λv s1 h1=>thn h1 λitv s2 h2=>?_) hs;let⟨it,B,U,J,Y,e,Z,T,O,Q,W,⟨m0,w0⟩,K⟩:=h2;subst e
 -- what stays true of the iterator's objects through the loop
 have q:∀{H':Hp},(∀b∈B,H' b=none)->∀b∈B,nQ X a H' b:=λhn b hb=>⟨hn b hb,(Q b hb).2⟩
 refine codeAny_forLoop_any (λn s'=>∃i σ' H',Inv X a σ' H' s'/\U i s'.heap/\(∀b∈B,H' b=none)/\W i n σ' H') ?_ m0 ⟨0,σ,Y,Z,O,λb hb=>(Q b hb).1,w0⟩;rintro n R ⟨i,t,L,P,F,C,w3⟩;rcases K i n t L w3 with⟨G,qn⟩|⟨go,N,hN,step⟩
 ·refine ż hp (thn (T.done X rfl rfl rfl hc i a R t L X.xe P (q C) F G) λr s4 ⟨hr,I4⟩=>?_);subst hr;exact ZN ⟨t,L,I4,qn⟩
 ·refine ż hp (thn (T.item X rfl rfl rfl hc i a R t L X.xe P (q C) F go) λr s4 ⟨u,hr,h4⟩=>?_);subst hr;refine ż hp (thn h4 λ_ s5 ⟨x,H5,I5,r5,y5,st5,fr5⟩=>?_);have M:=I5.pinned (q fr5) (T.obj _ _ st5);refine ż hp (thn (hg _ s5 t H5 x u _ M r5 (step x H5 y5)) λ_ s6 ⟨σ6,H6,I6,q6⟩=>?_);refine ż hp (thn (hb _ s6 σ6 H6 _ I6 q6) λf s7 z=>?_);have l:∀{c:St}{j:Hp},Inv X (a++iZ B s5.heap) c j s7->N c j->∃m,m<n/\∃i σ' H',Inv X a σ' H' s7/\U i s7.heap/\(∀b∈B,H' b=none)/\W i m σ' H':=λ{c j} k E=>by
   let⟨m',hm,w7⟩:=hN c j E;refine⟨m',hm,i+1,c,j,k.lB,T.keep _ _ _ st5 λb hb o e=>(k.pin (b,o) (ã _ (ã _ (iw hb e)))).1,λb hb=>?_,w7⟩;let⟨o,e,d⟩:=T.obj _ _ st5 b hb;exact(k.pin (b,o) (ã _ (ã _ (iw hb e)))).2.1
  cases f with
  |next=>let⟨c,j,k,E⟩:=z;exact l k E
  |cont=>let⟨c,j,k,E⟩:=z;exact l k E
  |brk=>let⟨c,j,k,z⟩:=z;exact⟨c,j,k.lB,z⟩
  |ret v=>let⟨x7,c,j,k,r7,z⟩:=z;exact⟨x7,c,j,k.lB,r7,z⟩
end
abbrev R2:=V->V->Hp->VK->Prop
def OpR(X:Cx)(f:Value->Value->Sem Value)(r:R2):Prop :=
 ∀(pins:List (Addr×Obj))(s:Shared)(σ:St)(H:Hp)(x y:V)(v u:Value)(Q:VK),Inv X pins σ H s->RelV x v->RelV y u->r x y H Q ->
  wpAny (model X.prog X.w) X.A (f v u) (EP X pins σ Q) X.xe s
def UnR(X:Cx)(f:Value->Sem Value)(r:V->Hp->VK->Prop):Prop :=
 ∀(pins:List (Addr×Obj))(s:Shared)(σ:St)(H:Hp)(x:V)(v:Value)(Q:VK),Inv X pins σ H s->RelV x v->r x H Q ->
  wpAny (model X.prog X.w) X.A (f v) (EP X pins σ Q) X.xe s
def bC(X:Cx)(f:Value)(r:List V->Hp->VK->Prop):Prop :=
 ∀(pins:List (Addr×Obj))(s:Shared)(σ:St)(H:Hp)(xs:List V)(us:List Value)(Q:VK),Inv X pins σ H s->Vals xs us->r xs H Q ->
  wpAny (model X.prog X.w) X.A (Z6 f us) (EP X pins σ Q) X.xe s
def XH(X:Cx)(r:V->Hp->(Bool->Hp->Prop)->Prop):Prop :=
 ∀(pins:List (Addr×Obj))(s:Shared)(σ:St)(H:Hp)(x:V)(v:Value)(Q:Bool->Hp->Prop),Inv X pins σ H s->RelV x v->r x H Q ->
  wpAny (model X.prog X.w) X.A (ZM v) (TP X pins σ Q) X.xe s
def tOp(r:R2)(a b:TE):TE:=λσ H Q=>a σ H λx H1=>b σ H1 λy H2=>r x y H2 Q
def tUn(r:V->Hp->VK->Prop)(a:TE):TE:=λσ H Q=>a σ H λx H1=>r x H1 Q
def rI(C:Int->Int->Prop)(g:Int->Int->V):R2:=λx y H Q=>∃i j,x=.int i/\y=.int j/\C i j/\Q (g i j) H
def rI0(g:Int->Int->V):R2:=λx y H Q=>∃i j,x=.int i/\y=.int j/\Q (g i j) H
def rU(g:Int->V):V->Hp->VK->Prop:=λx H Q=>∃i,x=.int i/\Q (g i) H
section
variable{X:Cx}{a b c:Zt}{ta tb tc:TE}{pos:Pos}
def Ul(ha:PE X a ta)(hb:PE X b tb){d:List (Addr×Obj)}{s:Shared}{σ:St}{H:Hp}{R:V->V->Hp->Prop}(I:Inv X d σ H s)(h:ta σ H λx H1=>tb σ H1 λy H2=>R x y H2){Q:eB}{f:Value->Value->Sem Value}(e:∀v u s2 x y H2,Inv X d σ H2 s2->RelV x v->RelV y u->R x y H2->wpAny (model X.prog X.w) X.A (f v u) Q X.xe s2) :
  wpAny (model X.prog X.w) X.A (Zv a X.env) (λv s₁=>wpAny (model X.prog X.w) X.A (Zv b X.env) (λu s₂=>wpAny (model X.prog X.w) X.A (f v u) Q X.xe s₂) X.xe s₁) X.xe s:=by
 refine thn (ha d s σ H _ I h) λv s1 ⟨x,H1,I1,r1,q1⟩=>?_;refine thn (hb d s1 σ H1 _ I1 q1) λu s2 ⟨y,H2,I2,r2,q2⟩=>?_;exact e v u s2 x y H2 I2 r1 r2 q2
def bU{e:Operator}{r:R2}(f:OpR X (Z7 e) r)(ha:PE X a ta)(hb:PE X b tb):PE X (.BinOp a e b pos) (tOp r ta tb):=by
 intro d s σ H Q I h;exact wpAny_BinOp (Ul ha hb I h λv u s2 x y H2 I2 rx ry q=>f d s2 σ H2 x y v u Q I2 rx ry q)
def Vm{e:UnaryOp}{r:V->Hp->VK->Prop}(f:UnR X (unaryOp e) r)(ha:PE X a ta):PE X (.UnaryOp e a pos) (tUn r ta):=by
 intro d s σ H Q I h;exact UnaryOp_ (thn (ha d s σ H _ I h) λv s1 ⟨x,H1,I1,r1,q1⟩=>f d s1 σ H1 x v Q I1 r1 q1)
def opI{f:Value->Value->Sem Value}{C:Int->Int->Prop}{g:Int->Int->Int}(d:∀(i j:Int)(t u:Tok)(s:Shared)(Q:eB)(E:eB),C i j->Q (.int (g i j) s.toks) { s with toks:=s.toks+1 }->wpAny (model X.prog X.w) X.A (f (.int i t) (.int j u)) Q E s) :
  OpR X f (rI C λi j=>.int (g i j)):=by
 intro e s σ H x y v u Q I k l h;let⟨i,j,rfl,rfl,hc,q⟩:=h;let⟨t,rfl⟩:=k;let⟨t',rfl⟩:=l;exact d i j t t' s _ _ hc ⟨.int (g i j),H,I.tok _,⟨_,rfl⟩,q⟩
def Tc{f:Value->Value->Sem Value}{g:Int->Int->Int}(d:∀(i j:Int)(t u:Tok)(s:Shared)(Q:eB)(E:eB),Q (.int (g i j) s.toks) { s with toks:=s.toks+1 }->wpAny (model X.prog X.w) X.A (f (.int i t) (.int j u)) Q E s) :
  OpR X f (rI0 λi j=>.int (g i j)):=by
 intro e s σ H x y v u Q I k l h;let⟨i,j,rfl,rfl,q⟩:=h;let⟨t,rfl⟩:=k;let⟨t',rfl⟩:=l;exact d i j t t' s _ _ ⟨.int (g i j),H,I.tok _,⟨_,rfl⟩,q⟩
def Oq{f:Value->Value->Sem Value}{g:Int->Int->Bool}(d:∀(i j:Int)(t u:Tok)(s:Shared)(Q:eB)(E:eB),Q (.bool (g i j)) s->wpAny (model X.prog X.w) X.A (f (.int i t) (.int j u)) Q E s) :
  OpR X f (rI0 λi j=>.bl (g i j)):=by
 intro e s σ H x y v u Q I k l h;let⟨i,j,rfl,rfl,q⟩:=h;let⟨t,rfl⟩:=k;let⟨t',rfl⟩:=l;exact d i j t t' s _ _ ⟨.bl (g i j),H,I,rfl,q⟩
def Ur(i j:Int):Prop:=0<j/\j<1073741824
def XQ(i j:Int):Prop:=0<=j/\j<=1000000/\i.natAbs<2 ^ 64
def M9(i j:Int):Prop:=(-(2 ^ 64)<i/\i<2 ^ 64)\/(-(2 ^ 64)<j/\j<2 ^ 64)
def M9.ok{i j:Int}(h:M9 i j):IntMulOk i j:=by
 rcases h with⟨h1,h2⟩|⟨h1,h2⟩
 ·exact .of_left (Z8 h1 h2)
 ·exact .of_right (Z8 h1 h2)
def jf:OpR X (Z7 .Add) (rI0 λi j=>.int (i+j)):=Tc λ_ _ _ _ _ _ _ q=>add_int q
def S5:OpR X (Z7 .Sub) (rI0 λi j=>.int (i - j)):=Tc λ_ _ _ _ _ _ _ q=>sub_int q
def kI:OpR X (Z7 .Mult) (rI M9 λi j=>.int (i * j)):=opI λ_ _ _ _ _ _ _ hc q=>mul_int q hc.ok
def qT:OpR X (Z7 .FloorDiv) (rI Ur λi j=>.int (i / j)):=opI λi j _ _ _ _ _ hc q=>by
 have h1:(0:Int)<j:=hc.1;have h2:j<1073741824:=hc.2;exact floordiv_int () (by rw[Int.fdiv_eq_ediv_of_nonneg i ()];exact q) (.inl (PyProof.noPylong_small ()))
def iu:OpR X (Z7 .Mod) (rI (λ_ j=>0<j) λi j=>.int (i % j)):=opI λi j _ _ _ _ _ hc q=>by
 have h1:(0:Int)<j:=hc;exact mod_int' () (by rw[Int.fmod_eq_emod_of_nonneg i ()];exact q)
def S7:OpR X (Z7 .Pow) (rI XQ λi j=>.int (i ^ j.toNat)):=opI λ_ _ _ _ _ _ _ hc q=>pow_int_small hc.1 hc.2.1 hc.2.2 q
def SX:OpR X (Z7 .BitXor) (rI0 λi j=>.int (Builtin.bitXor i j)):=Tc λ_ _ _ _ _ _ _ q=>xor_int q
def unI{f:Value->Sem Value}{g:Int->Int}(d:∀(i:Int)(t:Tok)(s:Shared)(Q:eB)(E:eB),Q (.int (g i) s.toks) { s with toks:=s.toks+1 }->wpAny (model X.prog X.w) X.A (f (.int i t)) Q E s) :
  UnR X f (rU λi=>.int (g i)):=by
 intro e s σ H x v Q I j h;let⟨i,rfl,q⟩:=h;let⟨t,rfl⟩:=j;exact d i t s _ _ ⟨.int (g i),H,I.tok _,⟨_,rfl⟩,q⟩
def Rj:UnR X (unaryOp .USub) (rU λi=>.int (-i)):=unI λ_ _ _ _ _ q=>neg_int q
def Vb:V->V->Bool
 |.non,.non=>true|.non,.int _=>true|.int _,.non=>true|.non,.bl _=>true|.bl _,.non=>true|.non,.str _=>true|.str _,.non=>true
 |.int _,.int _=>true|.bl _,.bl _=>true|.str _,.str _=>true|.byt _,.byt _=>true
 |.int _,.str _=>true|.str _,.int _=>true|.bl _,.str _=>true|.str _,.bl _=>true
 |_,_=>false
def rEq:R2:=λx y H Q=>Vb x y=true/\Q (.bl (decide (x=y))) H
def rNe:R2:=λx y H Q=>Vb x y=true/\Q (.bl (!decide (x=y))) H
def Gw{i j:Int}:decide (V.int i=V.int j)=(i==j):=by
 rw[ĥ];simp
def Ml{i j:Bool}:decide (V.bl i=V.bl j)=(i==j):=by
 rw[ĥ];simp
def Gv{i j:Str}:decide (V.str i=V.str j)=(i==j):=by
 rw[ĥ];simp
def Gx{i j:Array UInt8}:decide (V.byt i=V.byt j)=(i.toList==j.toList):=by
 rw[ĥ];cases i;cases j;simp
def aJ{d:List (Addr×Obj)}{σ:St}{H:Hp}{s:Shared}{Q:VK}{k f:Bool}(I:Inv X d σ H s)(q:Q (.bl k) H)(e:k=f):EP X d σ Q (.bool f) s:=by
 subst e;exact⟨.bl k,H,I,rfl,q⟩
def QB:OpR X (ZI .Eq) rEq:=by
 intro f s σ H x y v u Q I e d h;let⟨hs,q⟩:=h;cases x with
 |non =>
  cases e;cases y with
  |non=>cases d;exact PySem.EqNone.eq_none_none (aJ I q (by simp))
  |bl j=>cases d;exact PySem.EqNone.eq_none_bool (aJ I q (by simp))
  |int j=>let⟨t',rfl⟩:=d;exact PySem.EqNone.eq_none_int (aJ I q (by simp))
  |str j=>let⟨t',rfl⟩:=d;exact PySem.EqNone.eq_none_str (aJ I q (by simp))
  |_=>exact er (show false=true from hs) Î
 |bl i =>
  cases e;cases y with
  |non=>cases d;exact PySem.EqNone.eq_bool_none (aJ I q (by simp))
  |bl j=>cases d;exact eq_bool (aJ I q Ml)
  |str j=>let⟨t',rfl⟩:=d;exact PySem.EqMixed.eq_bool_str (aJ I q (by simp))
  |_=>exact er (show false=true from hs) Î
 |int i =>
  let⟨t,rfl⟩:=e;cases y with
  |non=>cases d;exact PySem.EqNone.eq_int_none (aJ I q (by simp))
  |int j=>let⟨t',rfl⟩:=d;exact eq_int (aJ I q Gw)
  |str j=>let⟨t',rfl⟩:=d;exact PySem.EqMixed.eq_int_str (aJ I q (by simp))
  |_=>exact er (show false=true from hs) Î
 |str i =>
  let⟨t,rfl⟩:=e;cases y with
  |non=>cases d;exact PySem.EqNone.eq_str_none (aJ I q (by simp))
  |bl j=>cases d;exact PySem.EqMixed.eq_str_bool (aJ I q (by simp))
  |int j=>let⟨t',rfl⟩:=d;exact PySem.EqMixed.eq_str_int (aJ I q (by simp))
  |str j=>let⟨t',rfl⟩:=d;exact eq_str (aJ I q Gv)
  |_=>exact er (show false=true from hs) Î
 |byt i =>
  let⟨t,rfl⟩:=e;cases y with
  |byt j=>let⟨t',rfl⟩:=d;exact W.eq_bytes (aJ I q Gx)
  |_=>exact er (show false=true from hs) Î
 |_=>cases y <;> exact er (show false=true from hs) Î
def Vr:OpR X (ZI .NotEq) rNe:=by
 intro f s σ H x y v u Q I e d h;let⟨hs,q⟩:=h;cases x with
 |non =>
  cases e;cases y with
  |non=>cases d;exact PySem.EqNone.ne_none_none (aJ I q (by simp))
  |bl j=>cases d;exact PySem.EqNone.ne_none_bool (aJ I q (by simp))
  |int j=>let⟨t',rfl⟩:=d;exact PySem.EqNone.ne_none_int (aJ I q (by simp))
  |str j=>let⟨t',rfl⟩:=d;exact PySem.EqNone.ne_none_str (aJ I q (by simp))
  |_=>exact er (show false=true from hs) Î
 |bl i =>
  cases e;cases y with
  |non=>cases d;exact PySem.EqNone.ne_bool_none (aJ I q (by simp))
  |bl j=>cases d;exact ne_bool (aJ I q (et not Ml))
  |str j=>let⟨t',rfl⟩:=d;exact PySem.EqMixed.ne_bool_str (aJ I q (by simp))
  |_=>exact er (show false=true from hs) Î
 |int i =>
  let⟨t,rfl⟩:=e;cases y with
  |non=>cases d;exact PySem.EqNone.ne_int_none (aJ I q (by simp))
  |int j=>let⟨t',rfl⟩:=d;exact ne_int (aJ I q (et not Gw))
  |str j=>let⟨t',rfl⟩:=d;exact PySem.EqMixed.ne_int_str (aJ I q (by simp))
  |_=>exact er (show false=true from hs) Î
 |str i =>
  let⟨t,rfl⟩:=e;cases y with
  |non=>cases d;exact PySem.EqNone.ne_str_none (aJ I q (by simp))
  |bl j=>cases d;exact PySem.EqMixed.ne_str_bool (aJ I q (by simp))
  |int j=>let⟨t',rfl⟩:=d;exact PySem.EqMixed.ne_str_int (aJ I q (by simp))
  |str j=>let⟨t',rfl⟩:=d;exact ne_str (aJ I q (et not Gv))
  |_=>exact er (show false=true from hs) Î
 |byt i =>
  let⟨t,rfl⟩:=e;cases y with
  |byt j=>let⟨t',rfl⟩:=d;exact W.ne_bytes (aJ I q (et not Gx))
  |_=>exact er (show false=true from hs) Î
 |_=>cases y <;> exact er (show false=true from hs) Î
def Kh:OpR X (ZI .Lt) (rI0 λi j=>.bl (decide (i<j))):=Oq λ_ _ _ _ _ _ _ q=>lt_int q
def Vs:OpR X (ZI .LtE) (rI0 λi j=>.bl (decide (i<=j))):=Oq λ_ _ _ _ _ _ _ q=>le_int q
def FT:OpR X (ZI .Gt) (rI0 λi j=>.bl (decide (j<i))):=Oq λ_ _ _ _ _ _ _ q=>gt_int q
def Qz:OpR X (ZI .GtE) (rI0 λi j=>.bl (decide (j<=i))):=Oq λ_ _ _ _ _ _ _ q=>ge_int q
def Kl:OpR X (ZI .Is) (λx y H Q=>y=.non/\Q (.bl (decide (x=.non))) H):=by
 intro d s σ H x y v u Q I e f h;let⟨rfl,q⟩:=h;cases f;refine is_none_gen (aJ I q ?_);cases x <;> first
  |(cases e;rfl)
  |(let⟨t,rfl⟩:=e;rfl)
def Ol:OpR X (ZI .IsNot) (λx y H Q=>y=.non/\Q (.bl (!decide (x=.non))) H):=by
 intro d s σ H x y v u Q I e f h;let⟨rfl,q⟩:=h;cases f;refine isnot_none_gen (aJ I q ?_);cases x <;> first
  |(cases e;rfl)
  |(let⟨t,rfl⟩:=e;rfl)
def cL(b:Zt){d:ZH}(h:d≠.In:=by decide)(h2:d≠.NotIn:=by decide):ZJ d b=false:=by
 have e:(d==CmpOp.In)=false:=by cases d <;> first|rfl|exact er rfl h
 have f:(d==CmpOp.NotIn)=false:=by cases d <;> first|rfl|exact er rfl h2
 cases b <;> simp[ZJ,e,f]
def Oe{e:ZH}{r:R2}(f:OpR X (ZI e) r)(ha:PE X a ta)(hb:PE X b tb)(hm:ZJ e b=false):PE X (.Compare a [e] [b] pos) (tOp r ta tb):=by
 intro d s σ H Q I h;exact ZK (Ul ha hb I h λv u s2 x y H2 I2 rx ry q=>f d s2 σ H2 x y v u Q I2 rx ry q) hm
def Uy(t:TE):TT:=λσ H Q=>t σ H λx H'=>∃k,x=.bl k/\Q k H'
def lM{f:ZH}{r:R2}(g:OpR X (ZI f) r)(ha:PE X a ta)(hb:PE X b tb)(hm:ZJ f b=false):PT X (.Compare a [f] [b] pos) (Uy (tOp r ta tb)):=by
 intro d s σ H Q I h;refine ZL (thn (ha d s σ H _ I h) λv s1 ⟨x,H1,I1,r1,q1⟩=>thn (hb d s1 σ H1 _ I1 q1) λu s2 ⟨y,H2,I2,r2,q2⟩ =>
  thn (g d s2 σ H2 x y v u _ I2 r1 r2 q2) λc s3 ⟨z,H3,I3,r3,k,e,q3⟩=>?_) hm
 subst e;cases r3;exact ĸ ⟨H3,I3,q3⟩
def Jq(r d:R2)(ta tb tc:TE):TE:=λσ H Q=>ta σ H λx H1=>tb σ H1 λy H2=>r x y H2 λz H3=>∃k,z=.bl k /\
 (if k=true then tc σ H3 λw' H4=>d y w' H4 Q else Q (.bl false) H3)
def J7{j g:ZH}{r l:R2}(m:OpR X (ZI j) r)(i:OpR X (ZI g) l)(ha:PE X a ta)(hb:PE X b tb)(hc:PE X c tc)(hm:lastMarks [j,g] [b,c]=false:=by with_unfolding_all rfl):PE X (.Compare a [j,g] [b,c] pos) (Jq r l ta tb tc):=by
 intro f s σ H Q I h;refine Compare_chain (thn (ha f s σ H _ I h) λv s1 ⟨x,H1,I1,r1,q1⟩=>chain_link (thn (hb f s1 σ H1 _ I1 q1) λu s2 ⟨y,H2,I2,r2,q2⟩ =>
  thn (m f s2 σ H2 x y v u _ I2 r1 r2 q2) λd s3 ⟨z,H3,I3,r3,k,e,q3⟩=>?_)) hm
 subst e;cases r3;refine ĸ ?_;cases k with
 |false=>exact ite_ff ⟨.bl false,H3,I3,rfl,q3⟩
 |true=>exact ite_tt (chain_last (thn (hc f s3 σ H3 _ I3 q3) λw' s4 ⟨z',H4,I4,r4,q4⟩=>i f s4 σ H4 y z' u w' Q I4 r2 r4 q4))
def W6(K:á)(x:V)(H:Hp)(k:Bool):Prop :=
 match x with
 |.non=>k=false
 |.bl b=>k=b
 |.int i=>k=(i != 0)
 |.str y=>⇑y<=sizeLine/\k=((⇑y:Int) != 0)
 |.byt y=>y.size<=sizeLine/\k=((y.size:Int) != 0)
 |.ref p=>(∃xs,SqL K H p xs/\k=!xs.isEmpty)\/(∃xs,SqT K H p xs/\k=!xs.isEmpty)\/∃kvs,H p=some (.dK kvs)/\k=!kvs.isEmpty
 |_=>False
def Ds{κ:Type}{d:List (κ×V)}{vs:List (κ×Value)}(r:KV d vs):(!vs.isEmpty)=!d.isEmpty:=by
 cases r <;> rfl
def tO{xs:List V}{its:List Value}(r:Vals xs its):(!its.toArray.isEmpty)=!xs.isEmpty:=by
 cases r <;> simp
def tD:(sizeLine:Nat)<2 ^ 63:=by rw[ü];decide
def Ro:XH X (λx H Q=>∃k,W6 X.K x H k/\Q k H):=by
 intro u s σ H x v Q I j h;let⟨k,e,q⟩:=h;have hl:=tD;have hs:sizeLine=16777216:=ü;cases x with
 |non =>
  cases j;have d:k=false:=e;subst d;exact truthy_none ⟨H,I,q⟩
 |bl b =>
  cases j;have d:k=b:=e;subst d;exact ĸ ⟨H,I,q⟩
 |int i =>
  let⟨t,rfl⟩:=j;have d:k=(i != 0):=e;subst d;exact PySem.P.truthy_int ⟨H,I,q⟩
 |str y =>
  let⟨t,rfl⟩:=j;obtain⟨A,d⟩:⇑y<=sizeLine/\k=((⇑y:Int) != 0):=e;subst d;exact PySem.P.truthy_str () ⟨H,I.tok _,q⟩
 |byt y =>
  let⟨t,rfl⟩:=j;obtain⟨A,d⟩:y.size<=sizeLine/\k=((y.size:Int) != 0):=e;subst d;exact W.truthy_bytes () ⟨H,I.tok _,q⟩
 |ref p =>
  cases j;have d:(∃xs,SqL X.K H p xs/\k=!xs.isEmpty)\/(∃xs,SqT X.K H p xs/\k=!xs.isEmpty)\/∃f,H p=some (.dK f)/\k=!f.isEmpty:=e;rcases d with⟨xs,l,d⟩|⟨xs,l,d⟩|⟨f,l,d⟩
  ·subst d;let⟨its,r,n,o⟩:=I.list l;have g:=⇑r;exact wpAny_truthy_list n.isList (by simp only[Ù];lia) ⟨H,I.tok _,by rw[tO r];exact q⟩
  ·subst d;let⟨its,r,n,o⟩:=I.tuple l;have g:=⇑r;exact truthy_tuple n (by simp only[Ù];lia) ⟨H,I.tok _,by rw[tO r];exact q⟩
  ·subst d;obtain⟨o,z,vs,r,m⟩:⇑f<=sizeLine/\(p==Zn)=false/\∃vs,KV f vs/\s.heap.DictOf (bA X.prog X.w) p vs:=I.hok p _ l;have g:⇑f=⇑vs:=Paired.length r;exact wpAny_truthy_dict z m () ⟨H,I.tok _,by rw[Ds r];exact q⟩
 |_=>exact(show False from e).elim
def JN(ha:PE X a ta)(he:∀whole,ZE a X.env whole=(do let v ←whole;standAt a.pos;holding [v] (ZM v))) :
  PT X a (λσ H Q=>ta σ H λx H'=>∃k,W6 X.K x H' k/\Q k H'):=by
 intro d s σ H Q I h;exact isTrue_plain (thn (ha d s σ H _ I h) λv s1 ⟨x,H1,I1,r1,q1⟩=>Ro d s1 σ H1 x v Q I1 r1 q1) (he _)
def vals1{x:V}{us:List Value}(r:Vals [x] us):∃u,us=[u]/\RelV x u:=by
 cases r with
 |cons d e=>cases e;exact⟨_,rfl,d⟩
def vals2{x y:V}{us:List Value}(r:Vals [x,y] us):∃u w',us=[u,w']/\RelV x u/\RelV y w':=by
 cases r with
 |cons r1 r2 =>
  cases r2 with
  |cons d e=>cases e;exact⟨_,_,rfl,r1,d⟩
def uE:bC X (.builtin "abs") (λxs H Q=>∃i,xs=[.int i]/\Q (.int (if i<0 then -i else i)) H):=by
 intro d s σ H xs us Q I r h;let⟨i,rfl,q⟩:=h;let⟨u,rfl,t,rfl⟩:=vals1 r;exact call_abs_int λu tk=>⟨.int (if i<0 then -i else i),H,I.tok _,⟨_,rfl⟩,q⟩
def Il(hc:X.calm=true):bC X (.builtin "max") (λxs H Q=>∃i j,xs=[.int i,.int j]/\Q (.int (if j > i then j else i)) H):=by
 intro e s σ H xs us Q I r h;let⟨i,j,rfl,q⟩:=h;let⟨u,f,rfl,⟨t,rfl⟩,⟨t',rfl⟩⟩:=vals2 r;refine max_two_ints (I.ok.hd hc) λh' tk k=>⟨_,H,I.kept k,?_,q⟩
 by_cases d:j > i
 ·rw[el d,el d];exact⟨_,rfl⟩
 ·rw[em d,em d];exact⟨_,rfl⟩
def Im:bC X (.type "int") (λxs H Q=>(∃i,xs=[.int i]/\Q (.int i) H)\/∃k,xs=[.bl k]/\Q (.int (if k then 1 else 0)) H):=by
 intro d s σ H xs us Q I r h;rcases h with⟨i,rfl,q⟩|⟨k,rfl,q⟩
 ·let⟨u,rfl,t,rfl⟩:=vals1 r;exact call_int_int ⟨.int i,H,I,⟨_,rfl⟩,q⟩
 ·let⟨u,rfl,e⟩:=vals1 r;cases e;exact call_int_bool ⟨.int (if k then 1 else 0),H,I.tok _,⟨_,rfl⟩,q⟩
end
structure ObjM(h:Zg)(x dx C:Addr)(mA:Str->Option Value):Prop where
 obj:h.get? x=some (W.instObj C dx)
 ns:h.Ns1 dx mA
 ne:dx≠x
def Hs{h:Zg}{c:Addr}{f:Str->Option Value}(n:h.Ns1 c f):∃od,h.get? c=some od/\∀name,W.lookIn name od=some (f name):=by
 let⟨o,d,ep,i,hd,hk,_,hm⟩:=n;refine⟨o,i,λname=>?_⟩;have e:=hm name;unfold nsFind findBy at e;rw[←Array.find?_toList]at e;unfold W.lookIn;rw[hd];dsimp only;split
 ·rename_i y q;rw[q]at e;exact et some e
 ·rename_i q;rw[q]at e;have a:d.toList.any (·.refKey)=false:=by
   rw[List.any_eq_false];intro y j;let⟨z,t,b⟩:=hk y (Array.mem_toList_iff.mp j);simp[DictEntry.refKey,b]
  have g:¬d.toList.any (·.refKey)=true:=by rw[a];exact Î
  rw[em g];exact et some e
def ObjM.look{h:Zg}{x a C:Addr}{b:Str->Option Value}(I:ObjM h x a C b):∃od,W.InstAt h x (W.instObj C a) C (some od)/\∀name,W.lookIn name od=some (b name) :=
 let⟨od,ho,hl⟩:=Hs I.ns
 ⟨od,⟨I.obj,rfl,rfl,ho⟩,hl⟩
section
variable{prog:Za}{w:Zb}{A:Zr}{E:eB}{s:Shared}{K:á}{x dx C f:Addr}{mA:Str->Option Value}{name:Str}{v:Value}
end
def uG.some_of{v:V}{o:Option Value}(r:uG (some v) o):∃u,o=some u/\RelV v u:=by
 cases o with
 |none=>exact(show False from r).elim
 |some u=>exact⟨u,rfl,r⟩
section
variable{P:Za}{w:Zb}{H H':Hp}{h h':Zg}{a C dx:Addr}{fs fs':List (Str×V)}
def PJ(b:HOk P w H h)(e:H a=some (.ins C dx fs)):∃mA,ObjM h a dx C mA/\(∀f,uG (fs.lookup f) (mA f))/\PySem.Within mA (fs.map (·.1))/\⇑fs<=1000/\H dx=some (.own a):=by
 let⟨d,z,c,g,mA,n,r,q⟩:=(show bx P w H h a (.ins C dx fs)from b a _ e)
 exact⟨mA,⟨g,n,c⟩,r,q,z,d⟩
end
structure Cls(K:á)(C:Addr):Prop where
 pg:W.plainGet K C Str.empty=true
 hd:W.hasDictIn K C=true
 po:W.plainOver K C=true
 sa:W.findIn K (.ref C) "__setattr__"=some (some (.builtin "object.__setattr__"))
def Cls.get{K:á}{C:Addr}(c:Cls K C)(f:Str):W.plainGet K C f=true:=c.pg
structure Con(K:á)(C:Addr)(f:Str)(v:V)(u:Value):Prop where
 at_:W.findIn K (.ref C) f=some (some u)
 rel:RelV v u
 get:W.specialIn K u "__get__"=some none
 cp:W.copiedNames.contains f=false
structure Meth(K:á)(C:Addr)(m:Str)(f:Addr):Prop where
 at_:W.findIn K (.ref C) m=some (some (.ref f))
 fn:W.isFn K (.ref f)=true
 kp:W.keepIn K (.ref f)=true
section
variable{X:Cx}{pins:List (Addr×Obj)}{σ:St}{H:Hp}{s:Shared}{a C dx:Addr}{fs:List (Str×V)}{f:Str}{v:V}{A:Zr}{E:eB}
end
section
variable{X:Cx}{o e value:Zt}{f:Str}{pos pos' tpos:Pos}{ta tv:TE}
end
section
variable{X:Cx}{pins:List (Addr×Obj)}{σ:St}{H:Hp}{s:Shared}{A:Zr}{E:eB}{Q:eB}{c:Value}{b:Bool}
inductive TyOf(K:á)(H:Hp):V->Value->Prop where
 |non:TyOf K H .non (.type "NoneType")
 |bl (x:Bool):TyOf K H (.bl x) (.type "bool")
 |int (i:Int):TyOf K H (.int i) (.type "int")
 |str (x:Str):TyOf K H (.str x) (.type "str")
 |flt (x:UInt64):TyOf K H (.flt x) (.type "float")
 |lst {a:Addr}{xs:List V} (e:H a=some (.lst xs)):TyOf K H (.ref a) (.type "list")
 |frz {a:Addr}{o:Obj}{xs:List V} (e:H a=some (.frz o (.lst xs))):TyOf K H (.ref a) (.type "list")
 |tup {a:Addr}{xs:List V} (e:H a=some (.tup xs)):TyOf K H (.ref a) (.type "tuple")
 |dK {a:Addr}{kvs:List (Key×V)} (e:H a=some (.dK kvs)):TyOf K H (.ref a) (.type "dict")
 |dT {a:Addr}{kvs:List (List Key×V)} (e:H a=some (.dT kvs)):TyOf K H (.ref a) (.type "dict")
 |ins {a C dx:Addr}{fs:List (Str×V)} (e:H a=some (.ins C dx fs)) (cl:Cls K C) (ha:W.findIn K (.ref C) "__class__"=some (some (.builtin "object.__class__")))
   (hn:W.specialIn K (.builtin "object.__class__") "__get__"=some (some (.builtin "getset_descriptor.__get__"))) (htk:W.takesIn K (.builtin "object.__class__")=some true)
   (hm:W.mroIn K C (.type "object")=some true):TyOf K H (.ref a) (.ref C)
def HB{x:V}{u t:Value}(I:Inv X pins σ H s)(d:RelV x u)(ty:TyOf X.K H x t)(e:W.kitOne X.K t c=some b)(h:∀tk,Q (.bool b) { s with toks:=tk }) :
  wpAny (model X.prog X.w) A (Z6 (.builtin "isinstance") [u,c]) Q E s:=by
 cases ty with
 |non=>cases (show u=İ from d);exact W.kia_one W.kitx_none I.kIn ũ e (λz=>nomatch z) h
 |bl y=>cases (show u=Ž y from d);exact W.kia_one W.kitx_bool I.kIn ũ e (λz=>nomatch z) h
 |int i=>let⟨t,q⟩:=(show ∃t,u=Ň i t from d);cases q;exact W.kia_one W.kitx_int I.kIn ũ e (λz=>nomatch z) h
 |str y=>let⟨t,q⟩:=(show ∃t,u=Value.str y t from d);cases q;exact W.kia_one W.kitx_str I.kIn ũ e (λz=>nomatch z) h
 |flt y=>let⟨t,q⟩:=(show ∃t,u=Value.float y t from d);cases q;exact W.kia_one W.kitx_float I.kIn ũ e (λz=>nomatch z) h
 |@lst a xs ea =>
  cases (show u=Ě a from d);let⟨_,_,n,_,h1⟩:=(show bx X.prog X.w H s.heap a (.lst xs)from I.hok a _ ea)
  exact W.kia_one W.kitx_list I.kIn ⟨_,h1,rfl⟩ e (λz=>nomatch z) h
 |@frz a ob xs ea =>
  cases (show u=Ě a from d);let⟨_,_,_,n,_,h1⟩:=(show bx X.prog X.w H s.heap a (.frz ob (.lst xs))from I.hok a _ ea)
  exact W.kia_one W.kitx_list I.kIn ⟨_,h1,rfl⟩ e (λz=>nomatch z) h
 |@tup a xs ea =>
  cases (show u=Ě a from d);let⟨_,_,_,p⟩:=(show bx X.prog X.w H s.heap a (.tup xs)from I.hok a _ ea)
  let⟨o,h1,h2,_⟩:=p;exact W.kia_one W.kitx_tuple I.kIn ⟨o,h1,h2⟩ e (λz=>nomatch z) h
 |@dK a kvs ea =>
  cases (show u=Ě a from d);let⟨_,_,vs,_,p⟩:=(show bx X.prog X.w H s.heap a (.dK kvs)from I.hok a _ ea)
  let⟨o,f,ep,h1,h2,_⟩:=p;exact W.kia_one W.kitx_dict I.kIn ⟨o,h1,h2.1⟩ e (λz=>nomatch z) h
 |@dT a kvs ea =>
  cases (show u=Ě a from d);let⟨_,_,xs,_,o,f,ep,h1,h2,_⟩:=(show bx X.prog X.w H s.heap a (.dT kvs)from I.hok a _ ea)
  exact W.kia_one W.kitx_dict I.kIn ⟨o,h1,h2.1⟩ e (λz=>nomatch z) h
 |@ins a C dx fs ea cl ha hn htk hm =>
  cases (show u=Ě a from d);let⟨g,O,_⟩:=PJ I.hok ea;let⟨j,J,_⟩:=O.look;exact W.kia_one (W.kitx_own (cl.get _) cl.hd ha hn htk hm) I.kIn J e (λz=>nomatch z) h
end
structure Room(k:Nat)(A:Zr):Prop where
 hd:A.handled=none
 dp:A.depth+3 * k+5<Z9
 un:A.units+16 * k+200<Yb
 gd:A.guards=some []
def Room.mono{j k:Nat}{A:Zr}(r:Room k A)(h:j<=k):Room j A:=⟨r.hd,by have:=r.dp;lia,by have:=r.un;lia,r.gd⟩
def Room.deeper{k:Nat}{A:Zr}(r:Room (k+1) A)(env:Env):Room k (A.deeper env) :=
 ⟨r.hd,by have:=r.dp;show A.depth+1+3 * k+5<_;lia,by have:=r.un;show A.units+3+16 * k+200<_;lia,r.gd⟩
def Room.depth{k:Nat}{A:Zr}(r:Room k A):A.depth<Z9:=by have:=r.dp;lia
def Room.units{k:Nat}{A:Zr}(r:Room k A):A.units+64<Yb:=by have:=r.un;lia
def Ru:TA:=λ_ H Q=>Q [] H
def yO(a:TE)(b:TA):TA:=λσ H Q=>a σ H λx H1=>b σ H1 λxs H2=>Q (x::xs) H2
section
variable{X:Cx}{e:Zt}{es:List Zt}{te:TE}{t:TA}{pos:Pos}
def eZ:PA X [] Ru:=λ_ _ _ _ H Q I h=>Calls.spliced_nil ⟨[],H,I,.nil,h⟩
def bZ(ha:PE X e te)(hr:PA X es t)(hs:Zu (e::es) X.env=(false,Zv e X.env)::Zu es X.env:=by rfl):PA X (e::es) (yO te t):=by
 intro pos a s σ H Q I h;rw[hs];show wpAny _ _ (spliced ((false,Zv e X.env)::Zw pos (Zu es X.env))) _ _ s;refine Calls.spliced_cons (thn (ha a s σ H _ I h) λu s1 ⟨x,H1,I1,r1,q1⟩=>?_);exact thn (hr pos a s1 σ H1 _ I1 q1) λus s2 ⟨xs,H2,I2,r2,q2⟩=>⟨x::xs,H2,I2,.cons r1 r2,q2⟩
def Xb(t:TA):TE:=λσ H Q=>t σ H λxs H1=>⇑xs<=sizeLine/\∀p,H1 p=none->Q (.ref p) (upd H1 p (.tup xs))
def Nr(t:TA):TE:=λσ H Q=>t σ H λxs H1=>⇑xs<=sizeLine/\∀p,H1 p=none->Q (.ref p) (upd H1 p (.lst xs))
def Sq{x1}(h:PA X es t):PE X (.Tuple es x1 pos) (Xb t):=by
 intro a s σ H Q I d;refine wpAny_Tuple_spliced (thn (h pos a s σ H _ I d) λus s1 ⟨xs,H1,I1,r,z,q⟩=>⟨by rw[←⇑r];exact z,?_⟩);have c:H1 ↥s1=none:=I1.hok.fresh (Õ _);refine⟨.ref ↥s1,upd H1 ↥s1 (.tup xs),I1.laid (t':=s1.toks) (λb u e=>Ò _ e) (Õ _) ?_,rfl,q _ c⟩;exact⟨z,us,r,⟨_,â _ rfl,rfl,_,rfl⟩⟩
def wM(h:PA X es t):PE X (.List es pos) (Nr t):=by
 intro a s σ H Q I d;refine wpAny_List_spliced (thn (h pos a s σ H _ I d) λus s1 ⟨xs,H1,I1,r,z,q⟩=>⟨by rw[←⇑r];exact z,?_⟩);have c:H1 ↥s1=none:=I1.hok.fresh (Õ _);refine⟨.ref ↥s1,upd H1 ↥s1 (.lst xs),I1.laid (t':=s1.toks) (λb u e=>Ò _ e) (Õ _) ?_,rfl,q _ c⟩;exact⟨z,us,0,r,â _ rfl⟩
end
abbrev Sp:=List V->Hp->VK->XK->Prop
abbrev CXT:=List Env->Hp->Shared->XK->eB
structure Env0(P:Za)(w:Zb)(K:á)(mg:Str->Option Value)(base:Zg)(A:Zr)(outer:List Env)(s:Shared)(H:Hp):Prop where
 frames:A.frames=some outer
 mod:Mod K mg base
 bs:∀b o,base.get? b=some o->s.heap.get? b=some o/\H b=none
 bsz:base.objs.size<=↥s
 tX:s.heap.FunFrames base outer
 frf:∀b∈frs outer,H b=none
 hok:HOk P w H s.heap
 bare:ZB s.gens
def CE(a:List Env)(P:Za)(w:Zb)(H:Hp)(s:Shared)(Q:VK)(u:Value)(b:Shared):Prop :=
 ∃v H',b.os=s.os/\ZB b.gens/\Un (frs a) [] H H' s.heap b.heap/\HOk P w H' b.heap/\RelV v u/\Q v H'
def CR(CX:CXT)(a:List Env)(P:Za)(w:Zb)(H:Hp)(s:Shared)(Q:VK)(E:XK)(r:Result)(b:Shared):Prop :=
 match r with
 |.ok (.ret u)=>CE a P w H s Q u b
 |.ok _=>False
 |.error e=>CX a H s E e b
structure FnOk(P:Za)(w:Zb)(K:á)(mg:Str->Option Value)(base:Zg)(CX:CXT)(k:Nat)(f:Addr)(fd:Yc)(ps:List Str)(sp:Sp):Prop where
 len:∀vs H Q E,sp vs H Q E->⇑vs=⇑ps
 run:∀(A:Zr)(outer:List Env)(s:Shared)(H:Hp)(args:Args)(us:List Value)(vs:List V)(Q:VK)(E:XK),Room k A->Env0 P w K mg base A outer s H->Yd s fd args (ps.zip us)->Vals vs us->sp vs H Q E ->
  Ye (model P w) A (.call (.ref f) args) (CR CX outer P w H s Q E) s
section
variable{X:Cx}{pins:List (Addr×Obj)}{σ:St}{H:Hp}{s s':Shared}
def Inv.env0(I:Inv X pins σ H s):Env0 X.prog X.w X.K X.mg X.base X.A X.stack s H :=
 ⟨I.ok.frames,I.ok.mod,I.bs,ą I.ok.bsz I.sz,I.stack,I.Fe,I.hok,I.bare⟩
def Inv.after{Q:VK}{u:Value}(I:Inv X pins σ H s)(h:CE X.stack X.prog X.w H s Q u s'):EP X pins σ Q u s':=by
 let⟨v,f,i,a,j,c,r,q⟩:=h;let⟨hh,g,d,t,e⟩:=s';obtain rfl:e=s.os:=i;exact⟨v,f,I.call (h':=hh) (g':=g) (d':=d) (t':=t) (ch:=[]) j c a (λb z=>er z (by simp)),r,q⟩
end
def Ez(sp:Sp)(a:List V)(E:XK)(t:TA):TE:=λσ H Q=>t σ H λvs H1=>sp (vs++a) H1 Q E
def Binds(K:á)(a:Yc)(ps:List Str)(ds:List Value):Prop :=
 ∀(s:Shared)(us:List Value),K.In s.heap->⇑(us++ds)=⇑ps->Yd s a ⟨us,[]⟩ (ps.zip (us++ds))
def Binds.all{K:á}{a:Yc}{ps:List Str}(h:∀us:List Value,⇑us=⇑ps->bindArgs a ⟨us,[]⟩=pure (ps.zip us)):Binds K a ps []:=λs us _ hl=>by
 rw[Ĕ]at hl ⊢;exact .of_eq (h us hl)
def Passes(CX:CXT)(X:Cx)(E:XK):Prop:=∀(pins:List (Addr×Obj))(σ:St)(H:Hp)(s:Shared)(e:Value)(s':Shared),Inv X pins σ H s->CX X.stack H s E e s'->X.xe e s'
section
variable{X:Cx}{CX:CXT}{k:Nat}{f C:Addr}{fd:Yc}{ps:List Str}{sp:Sp}{dvs:List V}{ds:List Value}{E:XK}{x m:Str}{p pos apos:Pos}{e o:Zt}{es:List Zt}{ta:TE}{t:TA}
def RJ{a:List (Addr×Obj)}{σ:St}{H:Hp}{s:Shared}{Q:VK}{us:List Value}{vs:List V}(F:FnOk X.prog X.w X.K X.mg X.base CX k f fd ps sp)(hr:Room k X.A)(hb:Binds X.K fd ps ds)(hd:Vals dvs ds)(c:Passes CX X E)(I:Inv X a σ H s)(r:Vals vs us)(h:sp (vs++dvs) H Q E):wpAny (model X.prog X.w) X.A (Z6 (.ref f) us) (EP X a σ Q) X.xe s:=by
 have b:Vals (vs++dvs) (us++ds):=r.append hd;have hl:⇑(us++ds)=⇑ps:=by rw[←⇑b];exact F.len _ _ _ _ h
 refine wpAny_call (Yg (F.run X.A X.stack s H ⟨us,[]⟩ (us++ds) (vs++dvs) Q E hr I.env0 (hb s us I.kIn hl) b h) λr s' hq=>?_);cases r with
 |error e=>exact c a σ H s e s' I hq
 |ok fl =>
  cases fl with
  |ret u=>exact I.after hq
  |next=>exact Ţ hq
  |brk=>exact Ţ hq
  |cont=>exact Ţ hq
def Og(F:FnOk X.prog X.w X.K X.mg X.base CX k f fd ps sp)(hr:Room k X.A)(hg:Gl X x)(hm:X.mg x=some (.ref f))(hk:W.keepIn X.K (.ref f)=true)(hb:Binds X.K fd ps ds)(hd:Vals dvs ds)(b:Passes CX X E)(ha:PA X (e::es) t)(hdb:(x==("__debug__":Str))=false:=by decide)(he:Zu (e::es) X.env=(false,Zv e X.env)::Zu es X.env:=by rfl)(hpl:(Zw pos (Zu es X.env)).any (·.1)=false:=by rfl) :
  PE X (.Call (.Name x p) (e::es) [] pos) (Ez sp dvs E t):=by
 intro a s σ H Q I h;refine Ŝ (O7 I hg hm ?_ hdb);refine W.callWith_K (h₀:=X.base) I.ok.mod.kin hk (thn (ha pos a s σ H _ I h) λus s1 ⟨vs,H1,I1,r,q⟩=>⟨I1.kIn,?_⟩) he hpl;exact RJ F hr hb hd b I1 r q
structure Mk(K:á)(C f:Addr):Prop where
 makes:W.makesIn K C=true
 init:W.findIn K (.ref C) "__init__"=some (some (.ref f))
 fn:W.isFn K (.ref f)=true
 kp:W.keepIn K (.ref C)=true
end
section
variable{X:Cx}{CX:CXT}{k:Nat}{f C:Addr}{fd:Yc}{ps ks:List Str}{sp:Sp}{E:XK}{x m:Str}{p pos apos kpos:Pos}{e o:Zt}{es:List Zt}{kws:List ZA}{te ta:TE}{t tk:TA}{nm:Option Str}
structure KBinds(K:á)(fd:Yc)(ps ks:List Str)(g:List Value->List Value->List Value)(gV:List V->List V->List V):Prop where
 to:∀(s:Shared)(us ws:List Value),K.In s.heap->⇑(g us ws)=⇑ps->Yd s fd ⟨us,ks.zip ws⟩ (ps.zip (g us ws))
 rel:∀{vs:List V}{us:List Value}{zs:List V}{ws:List Value},Vals vs us->Vals zs ws->Vals (gV vs zs) (g us ws)
variable{g:List Value->List Value->List Value}{gV:List V->List V->List V}
end
structure FnScope(N P:List Str)(sc:Zs):Prop where
 kind:sc.kind=.function
 co:sc.isCoroutine=false
 gen:sc.isGenerator=false
 nd:N.Nodup
 pre:N.take ⇑P=P
 par:∀x∈P,sc.names.lookup x=some .local\/sc.names.lookup x=some .cell
 nofree:∀y∈sc.names,y.2≠.free
def zC{N P:List Str}{sc:Zs}(a:sc.kind=.function:=by rfl)(b:sc.isCoroutine=false:=by rfl)(c:sc.isGenerator=false:=by rfl)(d:N.Nodup:=by decide +kernel)(e:N.take ⇑P=P:=by rfl)(f:∀x∈P,sc.names.lookup x=some .local\/sc.names.lookup x=some .cell:=by decide +kernel)(g:∀y∈sc.names,y.2≠.free:=by decide +kernel):FnScope N P sc:=⟨a,b,c,d,e,f,g⟩
theorem vN{b:Str->Option NameKind}{x:Str}:∀{a:List (Str×Value)}{m:Str->Option Value},(∀v,(x,v)∉a)->Yh b a m x=m x
 |[],_,_=>rfl
 |(n,v)::r,m,h=>by
  unfold Yh;rw[vN λw hw=>h w (Í _ hw)];split
  ·have:x≠n:=by rintro rfl;exact h v Ó
   simp[this]
  ·rfl
theorem vP{b:Str->Option NameKind}{x:Str}:∀{a:List (Str×Value)}{m:Str->Option Value},(∀v,(x,v)∉a)->Yi b a m x=m x
 |[],_,_=>rfl
 |(n,v)::r,m,h=>by
  unfold Yi;rw[vP λw hw=>h w (Í _ hw)];split
  ·rfl
  ·have:x≠n:=by rintro rfl;exact h v Ó
   simp[this]
theorem vO{a:Str->Option NameKind}{x:Str}{v:Value}:∀{P:List Str}{vs:List Value}{i:Nat}{m:Str->Option Value},P.Nodup->P[i]?=some x->vs[i]?=some v->a x=some .local ->
  Yh a (P.zip vs) m x=some v
 |[],_,_,_,_,h,_,_=>by simp at h
 |_::_,[],_,_,_,_,h,_=>by simp at h
 |p::P,w::vs,0,m,nd,h1,h2,hk=>by
  simp at h1 h2;subst h1;subst h2;show Yh a ((p,w)::P.zip vs) m p=_;unfold Yh;rw[vN λv hv=>(ŝ.mp nd).1 (List.of_mem_zip hv).1,el hk];simp
 |p::P,w::vs,i+1,m,nd,h1,h2,hk=>by
  show Yh a ((p,w)::P.zip vs) m x=_;unfold Yh;exact vO (i:=i) (ŝ.mp nd).2 (by simpa using h1) (by simpa using h2) hk
theorem vQ{a:Str->Option NameKind}{x:Str}{v:Value}:∀{P:List Str}{vs:List Value}{i:Nat}{m:Str->Option Value},P.Nodup->P[i]?=some x->vs[i]?=some v->a x≠some .local ->
  Yi a (P.zip vs) m x=some v
 |[],_,_,_,_,h,_,_=>by simp at h
 |_::_,[],_,_,_,_,h,_=>by simp at h
 |p::P,w::vs,0,m,nd,h1,h2,hk=>by
  simp at h1 h2;subst h1;subst h2;show Yi a ((p,w)::P.zip vs) m p=_;unfold Yi;rw[vP λv hv=>(ŝ.mp nd).1 (List.of_mem_zip hv).1,em hk];simp
 |p::P,w::vs,i+1,m,nd,h1,h2,hk=>by
  show Yi a ((p,w)::P.zip vs) m x=_;unfold Yi;exact vQ (i:=i) (ŝ.mp nd).2 (by simpa using h1) (by simpa using h2) hk
def start(N:List Str)(vs:List V):St:=vs.map some++Ú (⇑N - ⇑vs) none
def Ei(CX:CXT)(P:Za)(w:Zb)(K:á)(mg:Str->Option Value)(base:Zg)(N:List Str)(qual:Str)(scope:Zs)(f:Addr)(cd:Value)(A:Zr)(outer:List Env)(s:Shared)(H:Hp)(E:XK):Cx where
 prog:=P
 w:=w
 K:=K
 mg:=mg
 base:=base
 A:=A.deeper (Yj qual scope ↥s f cd)
 N:=N
 s₀:=s
 H₀:=H
 env:=Yj qual scope ↥s f cd
 outer:=outer
 stack:=Yj qual scope ↥s f cd::outer
 ex:=[]
 calm:=true
 fn:=λ_=>true
 pn:=[]
 xe:=λe s'=>wpAny (model P w) (A.deeper (Yj qual scope ↥s f cd)) (leaving (Yj qual scope ↥s f cd) e) (λ_ s''=>CX outer H s E e s'') (λe' s''=>CX outer H s E e' s'') s'
def Bc{sc:Zs}{n:Nat}{x:Str}(h:sc.names.lookup x=some .cell):∃c,(cellsFrom n sc.names []).lookup x=some c:=by
 have q:=W.cellsFrom_some sc.names n [] (.inl h);exact Option.isSome_iff_exists.mp q
def HD{CX:CXT}{P:Za}{w:Zb}{K:á}{C:Str->Option Value}{base:Zg}{N ps:List Str}{j:Str}{d:Zs}{f:Addr}{B:Value}{A:Zr}{g:List Env}{s D:Shared}{H:Hp}{E:XK}{us:List Value}{vs:List V}(S:FnScope N ps d)(hd:A.handled=none)(l:Env0 P w K C base A g s H)(hl:⇑vs=⇑ps)(r:Vals vs us)(x:InCallC s ↥s (Yh (Yj j d ↥s f B).kindOf (ps.zip us) λ_=>none) (cellsFrom (↥s+1) d.names []) (Yi (Yj j d ↥s f B).kindOf (ps.zip us) λ_=>none) D) :
  Inv (Ei CX P w K C base N j d f B A g s H E) [] (start N vs) H D:=by
 have hpl:⇑ps<=⇑N:=by have:=et List.length S.pre;rw[ć]at this;lia
 let⟨h1,tk,rfl,hk⟩:=x.done;have o:∀b:Addr,b∉(Ei CX P w K C base N j d f B A g s H E).ex:=λb z=>er (show b∈([]:List Addr)from z) (by simp);refine⟨⟨l.mod,S.kind,rfl,rfl,Õ _,λy z c h1 h2=>?_,λy m=>?_,λy c _ h=>?_,λ_=>hd,Around.frames_deeper l.frames,.inr ⟨rfl,rfl⟩,λb z=>er z (o b),l.bs,l.bsz,λb _ _=>o b,λb z=>er z (o b),l.tX,l.frf,λq z=>nomatch (show q∈([]:List (Addr×Obj×HO))from z)⟩,
  rfl,l.bare,Un.kept hk,⟨_,x.toInCall.ns,λi y v h1 h2 h3=>?_⟩,λy c h=>⟨_,x.cell y c h⟩,l.hok.fresh (Õ _),λy c h=>?_,λp hp=>er (show p∈([]:List (Addr×Obj))from hp) (by simp),l.hok.kept hk,?_⟩
 ·exact name_of_addr x.apart (ŋ h1) (ŋ h2)
 ·have m:d.names.lookup y=some .cell\/d.names.lookup y=some .free:=m;rcases m with m|m
  ·exact Bc m
  ·exact er rfl (S.nofree _ (ŋ m))
 ·exact Nat.le_of_lt (x.above y c (ŋ h))
 ·have hi:i<⇑vs:=by
   unfold start at h2;by_cases hi:i<⇑vs
   ·exact hi
   ·rw[õ (by simpa using hi)]at h2;rw[Ŧ]at h2;split at h2 <;> cases h2
  have ha:vs[i]?=some v:=by
   unfold start at h2;rw[ñ (by simpa using hi),à]at h2;cases e:vs[i]? with
   |none=>rw[e]at h2;cases h2
   |some a=>rw[e]at h2;cases h2;rfl
  let⟨u,hu,F⟩:=r.get ha;have hp:ps[i]?=some y:=by
   rw[←S.pre,List.getElem?_take_of_lt ()];exact h1
  have t:ps.Nodup:=by rw[←S.pre];exact S.nd.sublist (List.take_sublist _ _)
  refine⟨u,F,?_⟩;rcases S.par y (Ê hp)with k|k
  ·exact .inl ⟨k,vO t hp hu k⟩
  ·let⟨c,e⟩:=Bc (n:=↥s+1) k;refine .inr ⟨.inl k,c,e,?_⟩;have q:=x.cell y c e;rw[vQ t hp hu (by show d.names.lookup y≠_;rw[k];decide)]at q;exact q
 ·exact l.hok.fresh (Nat.le_of_lt (x.above y c (ŋ h)))
 ·unfold start;show _=⇑N;rw[Ð,Ä,ų];lia
def Wm{CX:CXT}{P:Za}{w:Zb}{K:á}{C:Str->Option Value}{base:Zg}{k:Nat}{f:Addr}{name d:Str}{h:Yk}{i:List ZF}{a:Zs}{R kV p T g O Y:Value}{M Z:Option Addr}{F:Array (Option Value)}{N ps:List Str}{sp:Sp}(X:K.lookup f=some ⟨Y,Z,.func (W.fnOf name d h i a R kV p T M g O),F⟩)(hcd:W.codeIn K g d=true)(S:FnScope N ps a)(B:∀vs H Q E,sp vs H Q E->⇑vs=⇑ps)(l:∀(A:Zr)(c:List Env)(s:Shared)(H:Hp)(vs:List V)(Q:VK)(E:XK),Room k (A.deeper (Yj d a ↥s f g))->sp vs H Q E ->
   ∃t,PSs (Ei CX P w K C base N d a f g A c s H E) i t/\t { nx:=λ_ H'=>Q .non H',rt:=Q } (start N vs) H) :
  FnOk P w K C base CX (k+1) f (W.fnOf name d h i a R kV p T M g O) ps sp:=by
 refine⟨B,λA c s H args us vs Q E hr e0 hb r hsp=>?_⟩;have hl:=B _ _ _ _ hsp;have L:K.In s.heap:=e0.mod.kin.keeps λb o e=>(e0.bs b o e).1;have D:s.heap.NoLimit:=e0.mod.nolimit.keeps λb o e=>(e0.bs b o e).1;have m:∀y∈ps.zip us,a.names.lookup y.1=some .local\/(a.names.lookup y.1=some .cell/\((cellsFrom (↥s+1) a.names []).lookup y.1).isSome=true):=λ⟨n,v⟩ hy=>by
  rcases S.par n (List.of_mem_zip hy).1 with q|q
  ·exact .inl q
  ·exact .inr ⟨q,W.cellsFrom_some _ _ _ (.inl q)⟩
 refine codeAny_call_function hr.depth (L _ _ X) rfl S.co S.gen rfl (W.codeRec_of L hcd) (hb _ _ _ _ ?_);refine wpAny_newFunctionEnv_cells S.kind m λenv he s1 x=>?_;subst he;refine⟨D.keeps x.toInCall.keep,codeAny_func ?_⟩;let⟨t,ht,U⟩:=l A c s H vs Q E (hr.deeper _) hsp;have I:Inv (Ei CX P w K C base N d a f g A c s H E) [] (start N vs) H s1:=HD S hr.hd e0 hl r x;refine ń (ht [] s1 (start N vs) H _ I U) (λfl s' hs=>?_) λe s' hs=>hs;have z:∀{j:St}{H':Hp}{v:V}{u:Value},Inv (Ei CX P w K C base N d a f g A c s H E) [] j H' s'->RelV v u->Q v H'->CE c P w H s Q u s' :=
  λ{j H' v u} J G q=>⟨v,H',J.os,J.bare,J.base,J.hok,G,q⟩
 cases fl with
 |ret u =>
  let⟨v,j,H',J,G,q⟩:=hs;exact z J G q
 |next =>
  let⟨j,H',J,q⟩:=hs;exact z (v:=V.non) (u:=İ) J rfl q
 |brk =>
  let⟨_,_,_,q⟩:=hs;exact Ţ q
 |cont =>
  let⟨_,_,_,q⟩:=hs;exact Ţ q
section
variable{X:Cx}{x:Str}{p pos:Pos}{e:Zt}{es:List Zt}{t:TA}{id T:String}{r:List V->Hp->VK->Prop}
def tCB(r:List V->Hp->VK->Prop)(t:TA):TE:=λσ H Q=>t σ H λvs H1=>r vs H1 Q
def cV(hc:bC X (.builtin id) r)(hg:Gl X x)(hm:X.mg x=none)(hv:Zq x=some (.builtin id))(ha:PA X (e::es) t)(hn:x≠"__name__":=by decide)(hdb:(x==("__debug__":Str))=false:=by decide)(he:Zu (e::es) X.env=(false,Zv e X.env)::Zu es X.env:=by rfl)(hpl:(Zw pos (Zu es X.env)).any (·.1)=false:=by rfl):PE X (.Call (.Name x p) (e::es) [] pos) (tCB r t):=by
 intro a s σ H Q I h;refine Ŝ (dU I hg hm hv ?_ hn hdb);exact PyProof.Rows.callWith_builtin1 (thn (ha pos a s σ H _ I h) λus s1 ⟨vs,H1,I1,r1,q1⟩=>hc a s1 σ H1 vs us Q I1 r1 q1) he hpl
def uY(hc:bC X (.type T) r)(hg:Gl X x)(hm:X.mg x=none)(hv:Zq x=some (.type T))(ha:PA X (e::es) t)(hn:x≠"__name__":=by decide)(hdb:(x==("__debug__":Str))=false:=by decide)(he:Zu (e::es) X.env=(false,Zv e X.env)::Zu es X.env:=by rfl)(hpl:(Zw pos (Zu es X.env)).any (·.1)=false:=by rfl):PE X (.Call (.Name x p) (e::es) [] pos) (tCB r t):=by
 intro a s σ H Q I h;refine Ŝ (dU I hg hm hv ?_ hn hdb);exact Ā (thn (ha pos a s σ H _ I h) λus s1 ⟨vs,H1,I1,r1,q1⟩=>hc a s1 σ H1 vs us Q I1 r1 q1) he hpl
end
end L2
namespace HT
open PySem PyProof.Rows
section
open PySem.SeqAt
open PySem.AutoSeq1 (wpAny_loadPart')
open PySem.MeetsSeq PySem.MeetsSeq2 PySem.MeetsSeq3
end
section
variable{prog:Za}{w:Zb}{A:Zr}{E:eB}{s:Shared}
def Qj{t b:Addr}{vs a:List Value}{Q:eB}(ht:IsTup s.heap t vs.toArray)(hb:IsTup s.heap b a.toArray)(hv:vs≠[])(h1:a=[]->Q (.ref t) s)(h2:a≠[]->Q (.ref ↥s) { s with heap:=s.heap.push { cls:=.type "tuple",data:=.seq (vs++a).toArray }})(hsz:⇑vs+⇑a<=sizeLine):wpAny (model prog w) A (Z7 .Add (.ref t) (.ref b)) Q E s:=by
 let⟨⟨cls,m,data,p⟩,i,hc,n,hd⟩:=id ht;let⟨⟨l,d,k,h⟩,c,f,o,g⟩:=id hb;simp only at hc hd f g;subst hc hd f g;have e:vs.toArray++a.toArray=(vs++a).toArray:=by simp
 by_cases j:a=[]
 ·exact concat_meets ⟨_,i,rfl⟩ ⟨_,c,rfl⟩ Yl Ym PySem.F.slot_tuple_add PySem.F.entry_tuple_add (PySem.F.args_tuple_add_2 _ _)
   (tuple_addW1 t b vs.toArray a.toArray n o m d p h (by simpa using hv) (by simp[j])) ⟨i,c,h1 j⟩
 ·refine concat_meets ⟨_,i,rfl⟩ ⟨_,c,rfl⟩ Yl Ym PySem.F.slot_tuple_add PySem.F.entry_tuple_add (PySem.F.args_tuple_add_2 _ _)
   (tuple_addW2 t b vs.toArray a.toArray n o m d p h (by simpa using hv) (by simpa using j) (by rw[Ù,Ù];exact hsz)) ⟨i,c,?_⟩
  rw[e];exact h2 j
def sIx(n d:Nat):Option Int->Nat
 |none=>d
 |some v=>if v<0 then(v+(n:Int)).toNat else min v.toNat n
def wB(n d k:Nat):sIx n d (some (k:Int))=min k n:=by
 show(if(k:Int)<0 then((k:Int)+(n:Int)).toNat else min (k:Int).toNat n)=min k n;rw[em (),Ĵ]
def RG(n d:Nat)(hd:d<=n)(o:Option Int):sIx n d o<=n:=by
 cases o with
 |none=>exact hd
 |some v =>
  show(if v<0 then(v+(n:Int)).toNat else min v.toNat n)<=n;by_cases hv:v<0
  ·rw[el hv];lia
  ·rw[em hv];exact Nat.min_le_right _ _
def Gz(v:Int)(n d:Nat):(if v<0 then max (v+(n:Int)) 0 else min v (n:Int))=((sIx n d (some v):Nat):Int):=by
 show(if v<0 then max (v+(n:Int)) 0 else min v (n:Int))=(((if v<0 then(v+(n:Int)).toNat else min v.toNat n):Nat):Int)
 by_cases hv:v<0
 ·simp only[el hv];lia
 ·simp only[em hv];lia
def Ep(a hi:Option Int)(n:Nat):Builtin.Slice.sliceAdjust a hi 1 (n:Int)=(((sIx n 0 a:Nat):Int),((sIx n n hi:Nat):Int)):=by
 have h1:¬((1:Int)<0):=()
 unfold Builtin.Slice.sliceAdjust;simp only[h1,if_false];refine Prod.ext ?_ ?_
 ·cases a with
  |none=>rfl
  |some v=>exact Gz v n 0
 ·cases hi with
  |none=>rfl
  |some v=>exact Gz v n n
def Ck(i j:Nat):ű (i:Int) (j:Int) 1=j - i:=by
 unfold ű;have h1:(1:Int) > 0:=()
 simp only[h1,if_true,Int.ediv_one];split <;> lia
def rJ{v:Value}{o:Option Int}{Q:Option Int->Shared->Prop}(p:Yn v o)(h:Q o s):wpAny (model prog w) A (Builtin.Slice.slicePartIndex v) Q E s:=by
 cases p with
 |none=>exact Yo h
 |int i t=>exact slicePart_int h
def nZ{f:Addr}{d e:Value}{a hi:Option Int}{n:Nat}{Q:Int×Int×Nat->Shared->Prop}(hs:s.heap.IsSliceOf f d e .none)(i:Yn d a)(j:Yn e hi)(h:Q (((sIx n 0 a:Nat):Int),1,sIx n n hi - sIx n 0 a) s):wpAny (model prog w) A (Builtin.Slice.sliceApplied (.ref f) (pure (n:Int))) Q E s:=by
 let⟨k,c,g,b⟩:=id hs;unfold Builtin.Slice.sliceApplied Builtin.Slice.sliceFields;refine Å (Å (Ť c b (x:=d) rfl (Å (Ť c b (x:=e) rfl (Å (Ť c b (x:=.none) rfl (Ø ?_)))))));refine Å (Yo ?_);show wpAny _ _ (if((1:Int)==0)=true then _ else _) _ _ s;rw[em ∅];refine Å (rJ i (Å (rJ j (Å (Ø ?_)))));show wpAny _ _ (match Builtin.Slice.sliceAdjust a hi 1 (n:Int)with|(a,hi)=>pure (a,(1:Int),ű a hi 1)) _ _ s;rw[Ep a hi n];show wpAny _ _ (pure (((sIx n 0 a:Nat):Int),(1:Int),ű ((sIx n 0 a:Nat):Int) ((sIx n n hi:Nat):Int) 1)) _ _ s;rw[Ck];exact Ø h
def JX(xs:Array Value)(i k:Nat):((Þ k).filterMap λ(m:Nat)=>xs[((i:Int)+(m:Int) * 1).toNat]?).toArray=((xs.toList.drop i).take k).toArray:=by
 have e:(λ(m:Nat)=>xs[((i:Int)+(m:Int) * 1).toNat]?)=λm=>xs[i+m]?:=by
  funext m;have:((i:Int)+(m:Int) * 1).toNat=i+m:=()
  rw[this]
 rw[e];have:=pick_run xs i k;rw[List.filterMap_map]at this;have a:((λx=>xs[x]?) ∘ λx=>i+x)=λm=>xs[i+m]?:=rfl;rw[a]at this;rw[this]
def mW{t g:Addr}{items:Array Value}{i j:Value}{b hi:Option Int}{Q:eB}(ht:IsTup s.heap t items)(hs:s.heap.IsSliceOf g i j .none)(o:Yn i b)(p:Yn j hi)(l:¬(sIx items.size 0 b=0/\sIx items.size items.size hi=items.size))(h:Q (.ref ↥s) { s with heap:=s.heap.push { cls:=.type "tuple",data:=.seq ((items.toList.drop (sIx items.size 0 b)).take (sIx items.size items.size hi - sIx items.size 0 b)).toArray }})(hsz:items.size<=sizeLine):wpAny (model prog w) A (Yp (.ref t) (.ref g)) Q E s:=by
 have a:sizeOk (.seq ((items.toList.drop (sIx items.size 0 b)).take (sIx items.size items.size hi - sIx items.size 0 b)).toArray):=by
  show((items.toList.drop (sIx items.size 0 b)).take (sIx items.size items.size hi - sIx items.size 0 b)).toArray.size<=sizeLine;rw[Ù,ć,ť,đ];lia
 have r:sIx items.size items.size hi<=items.size:=RG _ _ (Õ _) hi;let⟨n,f,d,k⟩:=id hs;have c:s.TypeIs (.ref g) "slice":=⟨n,f,d⟩
 unfold Yp
 try with_reducible refine Ē ?_
 first|refine Å (Ø ?_)|skip
 refine Å (wpAny_sequenceKey ht.typeIs ∅ ?_);refine Å (ļ (name:=ū "__getitem__") ht.typeIs PyProof.Rows.slot_tuple_getitem
  (ĳ PyProof.Rows.slot_tuple_getitem ht.typeIs entry_tuple_getitem ?_ (args_tuple_getitem _ _)))
 show wpAny _ _ (Builtin.Tuple.tupleItemsOf (.ref t) >>=_) _ _ s;refine Å (tupleItemsOf_ ht ?_);refine Å (Yq c ?_);rw[el ∅];refine Å (nZ hs o p ?_);have e:¬((((sIx items.size 0 b:Nat):Int)==0&&(1:Int)==1&&(sIx items.size items.size hi - sIx items.size 0 b)==items.size)=true):=by
  intro q;rw[Ì,Ì]at q;have u:((sIx items.size 0 b:Nat):Int)=0:=eA q.1.1;have v:sIx items.size items.size hi - sIx items.size 0 b=items.size:=eA q.2;exact l ⟨(),()⟩
 show wpAny _ _ (if(((sIx items.size 0 b:Nat):Int)==0&&(1:Int)==1&&(sIx items.size items.size hi - sIx items.size 0 b)==items.size)=true then _ else _) _ _ s;rw[em e,JX]
 first
  |exact Å (m:=ŷ _) (Ő (Ø ⟨_,rfl,Ø h⟩) a)
  |exact Å (m:=ŷ _) (Ő (Å (Ø (Ø ⟨_,rfl,Ø h⟩))) a)
  |exact Å (Å (m:=ŷ _) (Ő (Ø (Ø ⟨_,rfl,Ø h⟩)) a))
  |exact Å (Å (m:=ŷ _) (Ő (Ø ⟨_,rfl,Ø h⟩) a))
end
end HT
namespace L2
open PySem PySem.Spec PyProof.Rows
abbrev TO:=St->Hp->(Option Int->Hp->Prop)->Prop
def PO(X:Cx)(e:Option Zt)(t:TO):Prop :=
 ∀(pins:List (Addr×Obj))(s:Shared)(σ:St)(H:Hp)(Q:Option Int->Hp->Prop),Inv X pins σ H s->t σ H Q ->
  wpAny (model X.prog X.w) X.A (evalPart e X.env) (λu s'=>∃o H',Inv X pins σ H' s'/\Yn u o/\Q o H') X.xe s
def Nq:TO:=λ_ H Q=>Q none H
def UJ(t:TE):TO:=λσ H Q=>t σ H λx H1=>∃i,x=.int i/\Q (some i) H1
def intsAre_of{ns:List Int}:∀{us:List Value},Vals (ns.map V.int) us->IntsAre us ns:=by
 induction ns with
 |nil=>intro us r;rw[List.map_nil]at r;cases r;exact .nil
 |cons n ns ih =>
  intro us r;rw[ò]at r;cases r with
  |cons r1 r2 =>
   let⟨t,e⟩:=r1;subst e;exact .cons n t (ih r2)
section
variable{X:Cx}{e:Zt}{te:TE}{lo hi:Option Zt}{tl th:TO}{pos p2:Pos}
def Oa:PO X none Nq:=by
 intro a s σ H Q I h;rw[Yr];exact Ø ⟨none,H,I,.none,h⟩
def N8(h:PE X e te):PO X (some e) (UJ te):=by
 intro a s σ H Q I b;rw[evalPart_some];refine thn (h a s σ H _ I b) λu s1 ⟨x,H1,I1,r1,q1⟩=>?_;let⟨i,rfl,q⟩:=q1;let⟨t,rfl⟩:=r1;exact⟨some i,H1,I1,.int i t,q⟩
def SlR(X:Cx)(r:V->Option Int->Option Int->Hp->VK->Prop):Prop :=
 ∀(pins:List (Addr×Obj))(s:Shared)(σ:St)(H:Hp)(x:V)(v vl vu:Value)(lo hi:Option Int)(sl:Addr)(Q:VK),Inv X pins σ H s->RelV x v->s.heap.IsSliceOf sl vl vu .none->Yn vl lo->Yn vu hi->r x lo hi H Q ->
  ∃T id,Ys (.type T) "__getitem__"=pure (some (.builtin id))/\s.TypeIs v T/\wpAny (model X.prog X.w) X.A (Yp v (.ref sl)) (EP X pins σ Q) X.xe s
def SlR.or{r d:V->Option Int->Option Int->Hp->VK->Prop}(h:SlR X r)(h':SlR X d):SlR X (λx lo hi H Q=>r x lo hi H Q\/d x lo hi H Q):=by
 intro a s σ H x v i j lo hi g Q I f hs b c q;rcases q with q|q
 ·exact h a s σ H x v i j lo hi g Q I f hs b c q
 ·exact h' a s σ H x v i j lo hi g Q I f hs b c q
def tSl(r:V->Option Int->Option Int->Hp->VK->Prop)(te:TE)(tl th:TO):TE:=λσ H Q=>te σ H λx H1=>tl σ H1 λl H2=>th σ H2 λu H3=>r x l u H3 Q
def zq{r:V->Option Int->Option Int->Hp->VK->Prop}(hr:SlR X r)(he:PE X e te)(hl:PO X lo tl)(hu:PO X hi th):PE X (.Subscript e (.Slice lo hi none p2) pos) (tSl r te tl th):=by
 intro a s σ H Q I h;refine Yt (thn (he a s σ H _ I h) λv s1 ⟨x,H1,I1,r1,q1⟩=>?_);refine wpAny_Slice (thn (hl a s1 σ H1 _ I1 q1) λvl s2 ⟨l,H2,I2,pl,q2⟩=>thn (hu a s2 σ H2 _ I2 q2) λvu s3 ⟨u,H3,I3,pu,q3⟩=>?_);rw[Yr];refine Ø ?_;have c:Inv X a σ H3 { s3 with heap:=s3.heap.push { cls:=.type "slice",data:=.fields #[vl,vu,.none]}}:=I3.kept (t':=s3.toks) λb ob q=>Ò _ q;let⟨T,id,d,ht,hg⟩:=hr a { s3 with heap:=s3.heap.push { cls:=.type "slice",data:=.fields #[vl,vu,.none]}} σ H3 x v vl vu l u ↥s3 Q c r1 (Heap.IsSliceOf.new ..) pl pu q3;show wpAny (model X.prog X.w) X.A (Yu e (.Slice lo hi none p2) v (.ref ↥s3)) (EP X a σ Q) X.xe { s3 with heap:=s3.heap.push { cls:=.type "slice",data:=.fields #[vl,vu,.none]}};exact tail_any (ops:=[.ref ↥s3,v]) ht d hg (by with_unfolding_all rfl)
def ur(xs:List V)(lo hi:Option Int):List V:=(xs.drop (HT.sIx ⇑xs 0 lo)).take (HT.sIx ⇑xs ⇑xs hi - HT.sIx ⇑xs 0 lo)
def qe(xs:List V)(lo hi:Option Int):⇑(ur xs lo hi)<=⇑xs:=by
 unfold ur;rw[ć,ť];lia
def Xi(K:á):V->Option Int->Option Int->Hp->VK->Prop:=λx lo hi H Q=>∃a xs,x=.ref a/\SqT K H a xs /\
 ¬(HT.sIx ⇑xs 0 lo=0/\HT.sIx ⇑xs ⇑xs hi=⇑xs)/\∀p,H p=none->Q (.ref p) (upd H p (.tup (ur xs lo hi)))
def Rz:SlR X (Xi X.K):=by
 intro f s σ H x v n p lo hi m Q I l hs j k h;let⟨a,xs,rfl,i,g,q⟩:=h;cases l;let⟨its,r,ht,d⟩:=I.tuple i;have c:its.toArray.size=⇑xs:=by rw[Ù];exact r.length.symm
 refine⟨"tuple",_,PyProof.Rows.slot_tuple_getitem.lookup,ht.typeIs,?_⟩;refine HT.mW ht hs j k (by rw[c];exact g) ?_ (by rw[c];exact d);rw[c];refine⟨.ref ↥s,_,I.laid (t':=s.toks) (o:=.tup (ur xs lo hi)) (λb ob q=>Ò _ q) (Õ _) ?_,rfl,q _ (I.hok.fresh (Õ _))⟩;exact⟨ą (qe xs lo hi) d,_,(r.drop (HT.sIx ⇑xs 0 lo)).take (HT.sIx ⇑xs ⇑xs hi - HT.sIx ⇑xs 0 lo),IsTup.new _ _⟩
def Vf(K:á):R2:=λx y H Q=>∃a b xs ys,x=.ref a/\y=.ref b/\SqT K H a xs/\SqT K H b ys/\xs≠[]/\⇑xs+⇑ys<=sizeLine /\
 (ys=[]->Q (.ref a) H)/\(ys≠[]->∀p,H p=none->Q (.ref p) (upd H p (.tup (xs++ys))))
def Vals.xJ{xs:List V}{us:List Value}(r:Vals xs us):us=[]↔xs=[]:=by
 cases r with
 |nil=>simp
 |cons _ _=>simp
def Om:OpR X (Z7 .Add) (Vf X.K):=by
 intro i s σ H x y v u Q I n p h;let⟨a,b,xs,ys,rfl,rfl,ha,hb,j,f,l,m⟩:=h;cases n;cases p;let⟨its,d,k,_⟩:=I.tuple ha;let⟨g,c,p2,_⟩:=I.tuple hb;refine HT.Qj k p2 (λz=>j (d.xJ.mp z)) (λz=>⟨.ref a,H,I,rfl,l (c.xJ.mp z)⟩) (λz=>?_) (by rw[←⇑d,←⇑c];exact f);refine⟨.ref ↥s,_,I.laid (t':=s.toks) (o:=.tup (xs++ys)) (λb ob q=>Ò _ q) (Õ _) ?_,rfl,m (λw=>z (c.xJ.mpr w)) _ (I.hok.fresh (Õ _))⟩;exact⟨by rw[Ð];exact f,_,d.append c,IsTup.new _ _⟩
end
def ixN(n:Nat)(i:Int):Option Nat:=if 0<=i then(if i<n then some i.toNat else none)else if -(n:Int)<=i then some (i+n).toNat else none
def atI{α:Type}(xs:List α)(i:Int):Option α:=(ixN ⇑xs i).bind λj=>xs[j]?
def Gi{n:Nat}{i:Int}{j:Nat}(h:ixN n i=some j):seqIndex? i n=some j/\j<n/\-(n:Int)<=i/\i<n:=by
 unfold ixN at h;by_cases a:0<=i
 ·rw[el a]at h;by_cases h1:i<n
  ·rw[el h1]at h;have e:i.toNat=j:=Ô h;exact⟨by rw[Yv a h1,e],(),(),h1⟩
  ·rw[em h1]at h;cases h
 ·rw[em a]at h;by_cases h1:-(n:Int)<=i
  ·rw[el h1]at h;have e:(i+n).toNat=j:=Ô h;exact⟨by rw[Yw () h1,e],(),h1,()⟩
  ·rw[em h1]at h;cases h
def GF{α:Type}{xs:List α}{i:Int}{v:α}(h:atI xs i=some v):∃j,seqIndex? i ⇑xs=some j/\xs[j]?=some v/\j<⇑xs/\-(⇑xs:Int)<=i/\i<⇑xs:=by
 unfold atI at h;cases e:ixN ⇑xs i with
 |none=>rw[e]at h;cases h
 |some j =>
  rw[e]at h;let⟨h1,h2,a,b⟩:=Gi e;exact⟨j,h1,h,h2,a,b⟩
def bJ{α:Type}{xs:List α}{j:Nat}{v:α}(h:xs[j]?=some v):atI xs (j:Int)=some v:=by
 have a:j<⇑xs:=(Æ.mp h).1;have e:ixN ⇑xs (j:Int)=some j:=by
  unfold ixN;rw[el (),el ()];simp
 unfold atI;rw[e];exact h
def MN{α:Type}(xs:List α)(v:α):atI (xs++[v]) (-1)=some v:=by
 have hl:⇑(xs++[v])=⇑xs+1:=by simp
 have e:ixN ⇑(xs++[v]) (-1)=some ⇑xs:=by
  unfold ixN;rw[hl,em ∅,el ()];congr 1;lia
 unfold atI;rw[e];show(xs++[v])[⇑xs]?=some v;simp
def rm(b:Zt):Prop:=∀o i,Yx b false o i=operate [o,i] (Yp o i)
def IxR(X:Cx)(r:R2):Prop :=
 ∀(value slice:Zt)(pins:List (Addr×Obj))(s:Shared)(σ:St)(H:Hp)(x y:V)(v u:Value)(Q:VK),Inv X pins σ H s->RelV x v->RelV y u->r x y H Q ->
  Yx slice false v u=operate [v,u] (Yp v u)->wpAny (model X.prog X.w) X.A (Yu value slice v u) (EP X pins σ Q) X.xe s
def MtR(X:Cx)(id:String)(r:V->List V->Hp->VK->Prop):Prop :=
 ∀(pins:List (Addr×Obj))(s:Shared)(σ:St)(H:Hp)(x:V)(xs:List V)(v:Value)(us:List Value)(Q:VK),Inv X pins σ H s->RelV x v->Vals xs us->r x xs H Q ->
  wpAny (model X.prog X.w) X.A (Z6 (.builtin id) (v::us)) (EP X pins σ Q) X.xe s
section
variable{X:Cx}{a b:Zt}{ta tb:TE}{pos:Pos}
def IxR.or{r f:R2}(h:IxR X r)(h':IxR X f):IxR X (λx y H Q=>r x y H Q\/f x y H Q):=by
 intro d c e s σ H x y v u Q I g i q hs;rcases q with q|q
 ·exact h d c e s σ H x y v u Q I g i q hs
 ·exact h' d c e s σ H x y v u Q I g i q hs
def jc{r:R2}(hr:IxR X r)(ha:PE X a ta)(hb:PE X b tb)(hs:rm b):PE X (.Subscript a b pos) (tOp r ta tb):=by
 intro c s σ H Q I h;exact Yt (Ul ha hb I h λv u s2 x y H2 I2 rx ry q=>hr a b c s2 σ H2 x y v u Q I2 rx ry q (hs _ _))
def Ve(K:á):R2:=λx y H Q=>∃p xs i v,x=.ref p/\y=.int i/\SqL K H p xs/\atI xs i=some v/\Q v H
def Xk(K:á):R2:=λx y H Q=>∃p xs i v,x=.ref p/\y=.int i/\SqT K H p xs/\atI xs i=some v/\Q v H
def c7:IxR X (Ve X.K):=by
 intro l k c s σ H x y v u Q I C D h hs;let⟨p,xs,i,z,rfl,rfl,B,he,q⟩:=h;cases C;let⟨t,rfl⟩:=D;let⟨its,r,f,F⟩:=I.list B;let⟨j,h1,h2,E,o,A⟩:=GF he;let⟨w,m,g⟩:=r.get h2;have hl:=⇑r;have hn:=tD;have d:EP X c σ Q w s:=⟨z,H,I,g,q⟩
 by_cases n:0<=i
 ·have e:i.toNat=j:=by
   rw[Yv n A]at h1;exact Ô h1
  exact item_listR f.isList n () (by rw[e];simpa using m) d hs
 ·have e:(i+(its.toArray.size:Int)).toNat=j:=by
   rw[Yw () o]at h1;rw[Ù,←hl];exact Ô h1
  exact Yy (x:=w) f.isList.typeIs slot_list_getitem.lookup
   (wpAny_getItem_list_neg (Q:=λr s'=>r=w/\EP X c σ Q r s') f.isList () (by rw[Ù] <;> lia) () (by rw[e];simpa using m) ⟨rfl,d⟩) hs
def TV:IxR X (Xk X.K):=by
 intro g f c s σ H x y v u Q I n o h hs;let⟨p,xs,i,z,rfl,rfl,m,he,q⟩:=h;cases n;let⟨t,rfl⟩:=o;let⟨its,r,k,D⟩:=I.tuple m;let⟨j,h1,h2,A,B,C⟩:=GF he;let⟨w,l,e⟩:=r.get h2;have hl:=⇑r;have hn:=tD;have d:EP X c σ Q w s:=⟨z,H,I,e,q⟩
 exact Yy (x:=w) k.typeIs slot_tuple_getitem.lookup
  (getItem_tuple (j:=j) (Q:=λr s'=>r=w/\EP X c σ Q r s') k () () (by rw[Ù,←hl];exact h1) (by simpa using l) ⟨rfl,d⟩) hs
def Dp(its:List Value)(n j:Nat)(u:Value):ó (·.setIfInBounds j u) { cls:=.type "list",data:=.seq its.toArray n }={ cls:=.type "list",data:=.seq (its.set j u).toArray n }:=by
 simp[ó]
def Inv.lst{c:List (Addr×Obj)}{σ:St}{H:Hp}{s:Shared}{p:Addr}{xs:List V}(I:Inv X c σ H s)(h:H p=some (.lst xs)) :
  ∃(its:List Value)(n:Nat),Vals xs its/\s.heap.get? p=some { cls:=.type "list",data:=.seq its.toArray n }/\⇑xs<=sizeLine:=by
 let⟨z,its,n,r,e⟩:=I.hok p _ h;exact⟨its,n,r,e,z⟩
def Inv.Tq{c:List (Addr×Obj)}{σ:St}{H:Hp}{s:Shared}{p:Addr}{xs ys:List V}{its its':List Value}{n d:Nat}{f:Obj->Obj}(I:Inv X c σ H s)(h:H p=some (.lst xs))(i:s.heap.get? p=some { cls:=.type "list",data:=.seq its.toArray n })(g:f { cls:=.type "list",data:=.seq its.toArray n }={ cls:=.type "list",data:=.seq its'.toArray d })(r:Vals ys its')(j:⇑ys<=sizeLine)(t:Nat) :
  Inv X c σ (upd H p (.lst ys)) { s with heap:=s.heap.update p f,toks:=t }:=by
 have e:(s.heap.update p f).get? p=some { cls:=.type "list",data:=.seq its'.toArray d }:=by
  rw[Ľ f i (by rw[g] <;> rfl),g]
 refine I.write (x:=p) (e:=p) (by rw[h];trivial) (.inl rfl) (λb u hb q=>(Į _ _ (ĝ hb)).trans q) ⟨_,e⟩ ?_;exact⟨j,its',d,r,e⟩
def Vc:V->V->V->Hp->(Hp->Prop)->Prop:=λo i v H Q=>∃p xs k j,o=.ref p/\i=.int k/\H p=some (.lst xs)/\ixN ⇑xs k=some j/\Q (upd H p (.lst (xs.set j v)))
def set_list:W7 X Vc:=by
 intro c s σ H o i v B A u Q I y x z h;let⟨p,xs,k,j,rfl,rfl,hp,m,q⟩:=h;cases y;let⟨t,rfl⟩:=x;let⟨its,n,r,d,w⟩:=I.lst hp;let⟨h1,h2,g,l⟩:=Gi m;have hl:=⇑r;have hn:=tD;have e:Inv X c σ (upd H p (.lst (xs.set j v))) { s with heap:=s.heap.update p (ó (·.setIfInBounds j u))} :=
  I.Tq hp d (Dp its n j u) (r.set z j) (by rw[List.length_set];exact w) s.toks
 by_cases f:0<=k
 ·have hk:k.toNat=j:=by
   rw[Yv f l]at h1;exact Ô h1
  exact W.ki_setAt d f () (by rw[Ù,←hl];exact l) (by rw[hk];exact⟨_,e,q⟩)
 ·have hk:(k+(its.toArray.size:Int)).toNat=j:=by
   rw[Yw () g]at h1;rw[Ù,←hl];exact Ô h1
  exact W.ki_setBack d () (by rw[Ù,←hl];exact g) () (by rw[hk];exact⟨_,e,q⟩)
def wA(c hi:Option Int)(n:Nat):(Yz c hi none n).1=((HT.sIx n 0 c:Nat):Int)/\(Yz c hi none n).2.1=((HT.sIx n n hi:Nat):Int)/\(Yz c hi none n).2.2=1:=by
 refine⟨?_,?_,rfl⟩
 ·cases c with
  |none=>simp[Yz,HT.sIx]
  |some i =>
   simp only[Yz,HT.sIx,Option.getD_none,show(1:Int) > 0 by decide,if_true];by_cases h:i<0
   ·simp only[h,if_true] <;> lia
   ·simp only[h,if_false] <;> lia
 ·cases hi with
  |none=>simp[Yz,HT.sIx]
  |some i =>
   simp only[Yz,HT.sIx,Option.getD_none,show(1:Int) > 0 by decide,if_true];by_cases h:i<0
   ·simp only[h,if_true] <;> lia
   ·simp only[h,if_false] <;> lia
def uH(its:List Value)(c hi:Option Int):slicePick its.toArray c hi none=((its.drop (HT.sIx ⇑its 0 c)).take (HT.sIx ⇑its ⇑its hi - HT.sIx ⇑its 0 c)).toArray:=by
 let⟨h1,h2,d⟩:=wA c hi its.toArray.size;unfold slicePick;rw[h1,h2,d];simp only[sliceRange_one,pick_run,Ù] <;> rfl
def Xj(K:á):V->Option Int->Option Int->Hp->VK->Prop:=λx lo hi H Q=>∃a xs,x=.ref a/\SqL K H a xs/\∀p,H p=none->Q (.ref p) (upd H p (.lst (ur xs lo hi)))
def Fj:SlR X (Xj X.K):=by
 intro e s σ H x v m n d hi l Q I k hs i j h;let⟨a,xs,rfl,f,q⟩:=h;cases k;let⟨its,r,ht,g⟩:=I.list f;have c:=⇑r;refine⟨"list",_,slot_list_getitem.lookup,ht.isList.typeIs,?_⟩;refine wpAny_getItem_list_slice ht.isList hs i j .none (by simp) ?_ (by rw[Ù] <;> lia);rw[uH,←c];refine⟨.ref ↥s,_,I.laid (t':=s.toks) (o:=.lst (ur xs d hi)) (λb ob q=>Ò _ q) (Õ _) ?_,rfl,q _ (I.hok.fresh (Õ _))⟩;exact⟨ą (qe xs d hi) g,_,0,(r.drop (HT.sIx ⇑xs 0 d)).take (HT.sIx ⇑xs ⇑xs hi - HT.sIx ⇑xs 0 d),â _ rfl⟩
def eF:bC X (.builtin "len") (λxs H Q=>∃p ys,xs=[.ref p]/\(SqL X.K H p ys\/SqT X.K H p ys)/\Q (.int ⇑ys) H):=by
 intro g s σ H xs us Q I r h;let⟨p,ys,rfl,d,q⟩:=h;let⟨u,rfl,j⟩:=vals1 r;cases j;have hn:=tD;rcases d with d|d
 ·let⟨its,f,e,i⟩:=I.list d;have c:=⇑f;exact Calls.call_len_list e.isList (by simp only[Ù] <;> lia) ⟨.int ⇑ys,H,I.tok _,⟨s.toks+1,by rw[Ù,c]⟩,q⟩
 ·let⟨its,f,e,i⟩:=I.tuple d;have c:=⇑f;exact len_tuple e (by simp only[Ù] <;> lia) ⟨.int ⇑ys,H,I.tok _,⟨s.toks+1,by rw[Ù,c]⟩,q⟩
def uM:bC X (.type "tuple") (λxs H Q=>∃p ys,xs=[.ref p]/\((SqL X.K H p ys/\∀l,H l=none->Q (.ref l) (upd H l (.tup ys)))\/(SqT X.K H p ys/\Q (.ref p) H))):=by
 intro c s σ H xs us Q I r h;let⟨p,ys,rfl,h⟩:=h;let⟨u,rfl,n⟩:=vals1 r;cases n;rcases h with⟨d,q⟩|⟨d,q⟩
 ·let⟨its,g,f,k⟩:=I.list d;have j:=⇑g;refine call_tuple_list f.isList (λh' kp=>?_) (by simp only[Ù] <;> lia);have i:Inv X c σ H { s with heap:=h' }:=I.kept (t':=s.toks) kp;have m:Inv X c σ (upd H h'.objs.size (.tup ys)) { s with heap:=h'.push { cls:=.type "tuple",data:=.seq its.toArray }} :=
   i.laid (t':=s.toks) (λb o e=>Ò _ e) (Õ _) (show bx X.prog X.w _ _ _ (.tup ys)from⟨k,its,g,IsTup.new _ _⟩)
  exact⟨.ref h'.objs.size,_,m,rfl,q _ (i.hok.fresh (Õ _))⟩
 ·let⟨its,g,f,k⟩:=I.tuple d;exact call_tuple_same f ⟨.ref p,H,I,rfl,q⟩
def tyV(K:á)(T:String)(x:V)(H:Hp):Prop:=match x with
 |.str _=>T="str"
 |.int _=>T="int"
 |.ref p=>(T="list"/\∃xs,SqL K H p xs)\/(T="tuple"/\∃o,K.lookup p=some o/\o.cls=.type "tuple"/\o.dict=none)∨
   (T="dict"/\((∃kvs,H p=some (.dK kvs))\/∃kvs,H p=some (.dT kvs)))\/(T="set"/\∃S n,H p=some (.set S n))
 |_=>False
def Rk{f:List (Addr×Obj)}{σ:St}{H:Hp}{s:Shared}{T:String}{x:V}{v:Value}(I:Inv X f σ H s)(r:RelV x v)(ty:tyV X.K T x H) :
  s.TypeIs v T/\∀a,v=.ref a->∃ob,s.heap.get? a=some ob/\ob.dict=none:=by
 cases x with
 |str z =>
  let⟨t,rfl⟩:=r;cases (show T="str" from ty);exact⟨typeIs_str s z t,λ_ e=>nomatch e⟩
 |int i =>
  let⟨t,rfl⟩:=r;cases (show T="int" from ty);exact⟨YA s i t,λ_ e=>nomatch e⟩
 |ref p =>
  cases r;rcases ty with⟨rfl,xs,j⟩|⟨rfl,o,hk,hc,hd⟩|⟨rfl,hk⟩|⟨rfl,S,n,hk⟩
  ·let⟨its,_,h,_⟩:=I.list j;refine⟨h.isList.typeIs,λa e=>?_⟩;cases e;let⟨o,n,e,c,hd,_⟩:=h;exact⟨o,e,hd⟩
  ·refine⟨⟨o,I.kIn p o hk,hc⟩,λa e=>?_⟩;cases e;exact⟨o,I.kIn _ o hk,hd⟩
  ·have z:∃o,s.heap.get? p=some o/\o.ExactDict:=by
    rcases hk with⟨g,hk⟩|⟨g,hk⟩
    ·let⟨_,_,_,_,o,_,_,e,d,_⟩:=I.hok p _ hk;exact⟨o,e,d⟩
    ·let⟨_,_,_,_,o,_,_,e,d,_⟩:=I.hok p _ hk;exact⟨o,e,d⟩
   let⟨o,e,d⟩:=z;refine⟨⟨o,e,d.1⟩,λa e2=>?_⟩;cases e2;exact⟨o,e,d.2.1⟩
  ·let⟨o,_,_,_,e,d,_⟩:=I.hok p _ hk;refine⟨⟨o,e,d.1⟩,λa e2=>?_⟩;cases e2;exact⟨o,e,d.2.1⟩
 |_=>exact Ţ ty
def tBM(K:á)(T:String)(r:V->List V->Hp->VK->Prop)(c:TE)(t:TA):TE:=λσ H Q=>c σ H λx H1=>tyV K T x H1/\t σ H1 λxs H2=>r x xs H2 Q
variable{o e:Zt}{es:List Zt}{to:TE}{t:TA}{name:Str}{apos cpos:Pos}{T id:String}{r:V->List V->Hp->VK->Prop}
def uZ(n:PlainAttrs T)(j:Slot T name id)(k:typeOf (.builtin id)=pure (.type "method_descriptor"))(hm:MtR X id r)(m:PE X o to)(ha:PA X (e::es) t)(f:YB o name X.env (Zv o X.env)=Zv o X.env:=by rfl)(i:((Zw cpos (Zu (e::es) X.env)).all (λx=>!x.1)&&(Zy cpos (Zz [] X.env)).all (λx=>x.1.isSome)
  &&decide (⇑(e::es)+⇑([]:List ZA)+(if([]:List ZA).isEmpty then 0 else 1)<30))=true:=by rfl)(g:(apos.endLine==cpos.line)=true:=by rfl)(hs:Zu (e::es) X.env=(false,Zv e X.env)::Zu es X.env:=by rfl)(d:(Zw cpos (Zu es X.env)).any (·.1)=false:=by rfl) :
  PE X (.Call (.Attribute o name apos) (e::es) [] cpos) (tBM X.K T r to t):=by
 intro c s σ H Q I h;refine wpAny_Call_method_late f i g rfl (thn (m c s σ H _ I h) λv s1 ⟨x,H1,I1,r1,ty,q1⟩=>?_);let⟨h1,h2⟩:=Rk I1 r1 ty;refine⟨T,id,n,j,k,h1,h2,?_⟩;have l:=ha cpos c s1 σ H1 _ I1 q1;rw[hs]at l ⊢;refine Calls.callWith_builtin (by show(false || (Zw cpos (Zu es X.env)).any (·.1))=false;rw[d] <;> rfl) (Calls.evalArgs_plain ?_);exact thn l λus s2 ⟨vs,H2,I2,r2,q2⟩=>hm c s2 σ H2 x vs v us Q I2 r1 r2 q2
/- xs.append(e),list.index on a module's tuple .. are MtR facts of 06m -/
end
def MtM(X:Cx)(id:String)(r:V->List V->Hp->VK->Prop):Prop :=
 ∀(pins:List (Addr×Obj))(s:Shared)(σ:St)(H:Hp)(x:V)(xs:List V)(v:Value)(us:List Value)(Q:VK),Inv X pins σ H s->RelV x v->Vals xs us->r x xs H Q ->
  wpAny (model X.prog X.w) X.A (Z6 (.builtin id) (v::us)) (EP X pins σ Q) X.xe s
theorem Vals.one:∀{x:V}{us:List Value},Vals [x] us->∃u,us=[u]/\RelV x u
 |_,_,.cons r .nil=>⟨_,rfl,r⟩
theorem Vals.two:∀{x y:V}{us:List Value},Vals [x,y] us->∃u v,us=[u,v]/\RelV x u/\RelV y v
 |_,_,_,.cons r (.cons q .nil)=>⟨_,_,rfl,r,q⟩
def Vals.reverse{xs:List V}{us:List Value}(h:Vals xs us):Vals xs.reverse us.reverse:=by
 induction h with
 |nil=>exact .nil
 |cons r t a=>rw[Ÿ,Ÿ];exact Vals.append a (.cons r .nil)
theorem Vals.rep{xs:List V}{us:List Value}(h:Vals xs us):∀k:Nat,Vals (Ú k xs).flatten (Ú k us).flatten
 |0=>.nil
 |k+1=>by
  rw[ŏ,ŏ,Ź,Ź];exact Vals.append h (Vals.rep h k)
theorem foldl_rep(its:List Value):∀(k:Nat)(acc:List Value),
  List.foldl (λx1 x2=>x1++x2) acc.toArray (Ú k its.toArray)=(acc++(Ú k its).flatten).toArray
 |0,acc=>by simp
 |k+1,acc=>by
  have e:acc.toArray++its.toArray=(acc++its).toArray:=by simp
  have a:(acc++its)++(Ú k its).flatten=acc++(Ú (k+1) its).flatten:=by
   rw[ŏ,Ź,ĩ]
  rw[←a,←foldl_rep its k (acc++its),←e,ŏ,List.foldl_cons]
section
variable{X:Cx}{pins:List (Addr×Obj)}{σ:St}{H:Hp}{s:Shared}{l b:Addr}{xs ys zs:List V}
def Inv.Tr{its its':List Value}{n:Nat}{f:Array Value->Array Value}{t':Nat}(I:Inv X pins σ H s)(a:H l=some (.lst xs))(e:s.heap.get? l=some { cls:=.type "list",data:=.seq its.toArray n })(c:f its.toArray=its'.toArray)(hv:Vals ys its')(d:⇑ys<=sizeLine) :
  Inv X pins σ (upd H l (.lst ys)) { s with heap:=s.heap.update l (ó f),toks:=t' }:=by
 have q:=PySem.IsL.update e f;rw[c]at q;refine I.write (x:=l) (e:=l) (by rw[a];exact trivial) (.inl rfl) (λb' u hb hu=>(Į s.heap (ó f) (ĝ hb)).trans hu) ⟨_,q⟩ ?_;exact⟨d,its',_,hv,q⟩
def Inv.VG{its:List Value}{t':Nat}(I:Inv X pins σ H s)(hv:Vals ys its)(a:⇑ys<=sizeLine) :
  Inv X pins σ (upd H ↥s (.lst ys)) { s with heap:=s.heap.push { cls:=.type "list",data:=.seq its.toArray },toks:=t' } :=
 I.laid (λ_ _ q=>Ò _ q) (Õ _) ⟨a,its,0,hv,â _ rfl⟩
def Inv.fresh(I:Inv X pins σ H s):H ↥s=none:=I.hok.fresh (Õ _)
def Inv.Dq(I:Inv X pins σ H s)(a:H l=some (.lst xs)):⇑xs<=sizeLine/\∃(its:List Value)(n:Nat),Vals xs its/\⇑xs=⇑its/\s.heap.get? l=some { cls:=.type "list",data:=.seq its.toArray n }:=by
 let⟨z,its,n,r,e⟩:=I.hok l _ a;exact⟨z,its,n,r,⇑r,e⟩
def zT{n:Nat}(h:n<=sizeLine):ź n=false:=by
 unfold ź;exact eg ()
end
section
variable{X:Cx}
def qJ:V->List V->Hp->VK->Prop:=λx vs H Q=>∃l xs y,x=.ref l/\vs=[y]/\H l=some (.lst xs)/\⇑xs<sizeLine/\Q .non (upd H l (.lst (xs++[y])))
def oW:MtM X "list.append" qJ:=by
 intro b s σ H x vs v us Q I f d h;let⟨l,xs,y,rfl,rfl,a,g,q⟩:=h;cases f;let⟨u,rfl,c⟩:=d.one;let⟨z,its,n,r,hl,e⟩:=I.Dq a;refine YC F.slot_list_append ⟨_,e,rfl⟩ F.entry_list_append (F.args_list_append_2 _ _) (PySem.list_append l its.toArray n u (by rw[Ù];lia)) ⟨e,?_⟩;refine⟨.non,_,I.Tr (its':=its++[u]) a e (by simp) (r.append (.cons c .nil)) ?_,rfl,q⟩;rw[Ð,í];lia
def Fx:V->List V->Hp->VK->Prop:=λx vs H Q=>∃l b xs zs,x=.ref l/\vs=[.ref b]/\H l=some (.lst xs)/\H b=some (.lst zs)/\⇑xs+⇑zs<=sizeLine/\Q .non (upd H l (.lst (xs++zs)))
def Hq:MtM X "list.extend" Fx:=by
 intro f s σ H x vs v us Q I t p h;let⟨l,b,xs,A,rfl,rfl,d,i,w,q⟩:=h;cases t;let⟨u,rfl,o⟩:=p.one;cases o;let⟨z,its,n,r,hl,e⟩:=I.Dq d;let⟨y,a,k,m,j,g⟩:=I.Dq i;have hsz:its.toArray.size+a.toArray.size<=sizeLine:=by rw[Ù,Ù];lia
 have c:¬(!its.toArray.isEmpty&&ź (its.toArray.size+a.toArray.size))=true:=by
  rw[zT hsz,Bool.and_false];exact Î
 refine YC F.slot_list_extend ⟨_,e,rfl⟩ F.entry_list_extend (F.args_list_extend_2 _ _)
  (AutoSeq1.list_extend_list_list_0 l its.toArray n b a.toArray k c (by rw[Ù];lia) ()) ⟨e,g,?_⟩
 refine⟨.non,_,I.Tr (its':=its++a) d e (by simp) (r.append m) ?_,rfl,q⟩;rw[Ð];lia
def Vg:R2:=λx y H Q=>∃l b xs zs,x=.ref l/\y=.ref b/\H l=some (.lst xs)/\H b=some (.lst zs)/\⇑xs+⇑zs<=sizeLine/\∀p,H p=none->Q (.ref p) (upd H p (.lst (xs++zs)))
def S9:OpR X (Z7 .Add) Vg:=by
 intro c s σ H x y v u Q I m o h;let⟨l,b,xs,A,rfl,rfl,i,g,p,q⟩:=h;cases m;cases o;let⟨z,its,n,r,hl,e⟩:=I.Dq i;let⟨w,a,t,k,j,d⟩:=I.Dq g;refine PySem.P.add_list e d ?_ (by rw[Ù,Ù];lia);have f:its.toArray++a.toArray=(its++a).toArray:=by simp
 rw[f];exact⟨.ref _,_,I.VG (t':=s.toks) (r.append k) (by rw[Ð];lia),rfl,q _ I.fresh⟩
def Vd:R2:=λx y H Q=>∃l k xs,x=.ref l/\y=.int k/\H l=some (.lst xs)/\-(2 ^ 63)<=k/\k<2 ^ 63/\⇑xs * k.toNat<=sizeLine /\
 ∀p,H p=none->Q (.ref p) (upd H p (.lst (Ú k.toNat xs).flatten))
def len_rep{α:Type}(xs:List α)(k:Nat):(Ú k xs).flatten.length=k * ⇑xs:=by
 induction k with
 |zero=>simp
 |succ k a=>rw[ŏ,Ź,Ð,a,Nat.succ_mul,Nat.add_comm]
def S6:OpR X (Z7 .Mult) Vd:=by
 intro j s σ H x y v u Q I w A h;let⟨l,k,xs,rfl,rfl,p,h1,h2,i,q⟩:=h;cases w;let⟨t,rfl⟩:=A;let⟨z,its,n,r,hl,e⟩:=I.Dq p;have f:its.toArray.size * k.toNat<=sizeLine:=by rw[Ù,←hl];exact i
 have c:¬its.toArray.size * k.toNat > (2 ^ 63 - 1) / 8:=by
  have:(sizeLine:Nat)<=(2 ^ 63 - 1) / 8:=∅
  lia
 have d:¬(!Builtin.List.listFitsIndex k)=true:=by
  rw[fitsIndex_both h1 h2];exact Î
 have b:¬ź (its.toArray.size * k.toNat)=true:=by
  rw[zT f];exact Î
 have g:List.foldl (λx1 x2=>x1++x2) #[] (Ú (if its.toArray.isEmpty=true then 0 else k.toNat) its.toArray)=(Ú k.toNat its).flatten.toArray:=by
  have o:∀m:Nat,List.foldl (λx1 x2=>x1++x2) #[] (Ú m its.toArray)=(Ú m its).flatten.toArray:=λm=>by
   have:=foldl_rep its m [];rw[List.nil_append]at this;exact this
  rw[o];cases its with
  |nil=>simp
  |cons a B=>rw[em (by simp)]
 refine wpAny_binaryOp_repeat_ref (T:="list") (U:="int") ∅ ⟨_,e,rfl⟩ (λs'=>YA s' k t) noFill_list_mul F.fills_int_mul F.slot_int_rmul repeat_list F.slot_int_index.lookup
  (YC F.slot_int_rmul (YA s k t) F.entry_int_rmul (F.args_int_rmul_2 _ _) (int___rmul___int_list k t l its.toArray n)
   ⟨e,rfl,⟨_,e,rfl⟩,YC F.slot_list_mul ⟨_,e,rfl⟩ F.entry_list_mul (F.args_list_mul_2 _ _) (AutoListH.list___mul___list_int_3 l its.toArray n k t d c b) ⟨e,?_⟩⟩)
 rw[g];exact⟨.ref _,_,I.VG (t':=s.toks) (r.rep k.toNat) (by rw[len_rep,Nat.mul_comm];exact i),rfl,q _ I.fresh⟩
section
variable{prog:Za}{w:Zb}{A:Zr}{E:eB}{s:Shared}
end
end
end L2
namespace Att
open PySem PySem.W PySem.Calls PyProof.Rows
def qD{P:Zd}{h:Zg}:∀(ns:List Int)(vs:List Value),WellAll P h vs (ns.map WData.int)->IntsAre vs ns:=by
 intro ns;induction ns with
 |nil =>
  intro vs w;rw[List.map_nil]at w;cases w;exact .nil
 |cons n ns ih =>
  intro vs w;rw[ò]at w;cases w with
  |cons a b =>
   cases a;exact .cons _ _ (ih _ b)
def G5{l:OpenLaw}{n:Nat}(hn:l.most=some n){P:Zd}{h:Zg}{b:List WData}{e:List Value}(c:l.row.toRowW.claim.pre b=true)(m:WellAll P h e b) :
  ∃a vs ns,e=[Ě a]/\b=[WData.list (ns.map WData.int)]/\h.get? a=some { cls:=.type "list",data:=.seq vs.toArray }/\IntsAre vs ns/\⇑ns<=n:=by
 have k:WShape.hasAll [] b [.list .int]=true:=(pre_splitW c).1;have hc:l.pre.holds [] { args:=b }=true:=(pre_splitW c).2;let⟨d,r,rfl,h1,h2⟩:=hasAllW_cons k;obtain rfl:=hasAllW_nil h2;let⟨xs,rfl,o⟩:=hasW_list h1;let⟨ns,rfl⟩:=items_int o;have g:⇑ns<=n:=by
  unfold OpenLaw.pre at hc;have i:(WTm.not (.lt (.lit (.int (n:Int))) (.len (.arg 0)))).holds [] { args:=[.list (ns.map .int)]}=true:=by
   have i:=(holds_andW hc).1;rw[hn]at i;exact i
  have j:=condW_of i (w_not (w_lt w_lit (w_len_list (w_arg rfl))));rw[Ä]at j;refine Nat.le_of_not_lt λq=>?_;have s:(n:Int)<(⇑ns:Int):=()
  first
   |(rw[decide_eq_true s]at j;exact er j ∅)
   |(simp at j;lia)
 cases m with
 |cons w1 w2 =>
  cases w2;cases w1 with
  |list p f=>exact⟨_,_,ns,rfl,rfl,p,qD ns _ f,g⟩
def G8(l:OpenLaw)(a:List WData):l.row.toRowW.claim.post a (.bool true) a=true :=
 postW_of (r:=l.row.toRowW) (X:=(true==true))
  (show WShape.has [] (.bool true) .bool=true by first|rfl|decide|simp[WShape.has,WShape.arms,WShape.armsAll])
  (show(WTm.eq .res (.lit (.bool true))).value [] { args:=a,res:=some (.bool true),after:=a }=some (.bool (true==true))from w_eq_bool (w_res rfl) w_lit) rfl
def Bm{l:OpenLaw}{n:Nat}{q:Za}{loose:List Str}{XP:(Str->Option Value)->Zg->Prop}{YP:Zb->Zg->Prop}{d:DefRec}(hn:l.most=some n)(t:d.params.defaults=[])(h:∀(w:Zb)(c b:Shared)(s x:Str->Option Value)(i:Addr)(o:Obj)(y p e:Value)(a:Addr)(vs:List Value)(ns:List Int),
   Ground q loose [] XP w c s x b.heap->YP w b.heap ->
   b.heap.get? i=some o->o.data=.func (docDef d.name d.params d.body d.scope y p e)->b.heap.CodeRec p d.name->s d.name=some (.ref i) ->
   b.heap.get? a=some { cls:=.type "list",data:=.seq vs.toArray }->IntsAre vs ns->⇑ns<=n->b.gens=#[] ->
   Ye (model l.prog w) callerA (.call (.ref i) ⟨[.ref a],[]⟩) (λr s'=>r=.ok (.ret (.bool true))/\OldK b.heap s'.heap/\s'.os=b.os/\ZB s'.gens) b) :
  WalkO q loose XP YP l.row.toRowW d [] (λf vs=>PySem.call f vs):=by
 intro w c b s x G Y i o y p e D kV I hd hcd A u hg z C K m B J v H;obtain rfl:D=.none:=Dflts.none A t;obtain rfl:kV=.none:=Dflts.noKw A;let⟨a,vs,ns,rfl,rfl,k,g,j⟩:=G5 hn m v;refine enter_call (Yg (h w c b s x i o y p e a vs ns G Y I (fd_plain hd) hcd u k g j hg) λr s' hq=>?_);let⟨rfl,h2,E,F⟩:=hq;exact⟨.inl ⟨.bool true,.bool true,[],rfl,λ_=>rfl,.bool true,G8 l _,λ_=>⟨List.Pairwise.nil,λ_ hm=>(nomatch hm)⟩⟩,h2,E,F⟩
section
variable{prog:Za}{w:Zb}{A:Zr}{E:eB}{s:Shared}{K:Frag}
def ledger(h:Zg)(L d:Addr):List (Addr×Obj):=(Þ h.objs.size).filterMap λa=>if a=L\/a=d then none else(h.get? a).map λo=>(a,o)
end
end Att
namespace L2
open PySem PySem.Spec PyProof.Rows
theorem jF:∀{vs:List Value}{ns:List Int},IntsAre vs ns->Vals (ns.map V.int) vs
 |_,_,.nil=>.nil
 |_,_,.cons n t h=>.cons ⟨t,rfl⟩ (jF h)
def Only(H:Hp):Prop:=∀b,H b=none\/∃o xs,H b=some (.frz o (.lst xs))
def K5{P:Za}{w:Zb}{K:á}{D N:Str->Option Value}{CX:CXT}{k:Nat}{I a:Addr}{S:Yc}{x:Str}{sp:Sp}{c:Shared}{vs:List Value}{ns:List Int}(Q:K.In c.heap)(y:c.heap.Ns mainGlobals D)(hb:c.heap.Ns Zp N)(L:∀x:Str,x≠"__name__"->N x=Zq x)(t:c.heap.NoLimit)(hg:c.gens=#[])(ha:c.heap.get? a=some { cls:=.type "list",data:=.seq vs.toArray })(hi:IntsAre vs ns)(hl:⇑ns<=sizeLine)(hr:Room k callerA)(F:∀base:Zg,K.In base->base.Ns mainGlobals D->FnOk P w K D base CX k I S [x] sp)(j:∀(s:Shared)(u:Value),Yd s S ⟨[u],[]⟩ [(x,u)])(M:∀H:Hp,Only H->SqL K H a (ns.map V.int)->sp [.ref a] H (λv _=>v=.bl true) λ_ _ _=>False)(J:∀H e s',CX [] H c (λ_ _ _=>False) e s'->False) :
  Ye (model P w) callerA (.call (.ref I) ⟨[.ref a],[]⟩) (λr s'=>r=.ok (.ret (.bool true))/\OldK c.heap s'.heap/\s'.os=c.os/\ZB s'.gens) c:=by
 have W:=jF hi;have C:=⇑hi
 -- from an abstract heap in which nothing but the script may be tracked
 have i:∀H:Hp,Only H->SqL K H a (ns.map V.int)->HOk P w H c.heap->(∀b,H b≠none->b=a)->(H a≠none->K.lookup a=none) ->
   Ye (model P w) callerA (.call (.ref I) ⟨[.ref a],[]⟩) (λr s'=>r=.ok (.ret (.bool true))/\OldK c.heap s'.heap/\s'.os=c.os/\ZB s'.gens) c:=by
  intro H U hS A T hK;have f:∀{b:Addr}{o:Obj},c.heap.get? b=some o->H b=none->(xU c.heap H).get? b=some o:=λe n=>Lb e n;have O:∀{b:Addr}{o:Obj}{es:Array Ze}{ep:Nat},c.heap.get? b=some o->o.data=.dict es ep->H b=none:=λ{b o es ep} e d=>by
   cases q:H b with
   |none=>rfl
   |some u =>
    have G:b=a:=T b (by rw[q];simp);subst G;rw[ha]at e;cases e;have d':Data.seq vs.toArray _=Data.dict es ep:=d;cases d'
  have g:∀{b:Addr}{m:Str->Option Value},c.heap.Ns b m->(xU c.heap H).Ns b m:=λ{b m} ⟨o,es,ep,e,d,r⟩=>⟨o,es,ep,f e (O e d),d,r⟩
  have p:K.In (xU c.heap H):=λb o e=>f (Q b o e) (by
   cases q:H b with
   |none=>rfl
   |some u =>
    have G:b=a:=T b (by rw[q];simp);subst G;rw[hK (by rw[q];simp)]at e;cases e)
  have hM:Mod K D (xU c.heap H):=⟨p,g y,⟨N,g hb,L⟩,let⟨mc,h1,h2⟩:=t;⟨mc,g h1,h2⟩⟩
  have Y:Env0 P w K D (xU c.heap H) callerA [] c H:=⟨rfl,hM,λb o e=>Ow e,Nat.le_of_eq (HF _ _),trivial,λb hb=>er (show b∈([]:List Addr)from hb) (by simp),A,.of_eq hg⟩
  refine Yg ((F _ p (g y)).run callerA [] c H ⟨[.ref a],[]⟩ [.ref a] [.ref a] _ _ hr Y (j c (.ref a)) (.cons rfl .nil) (M H U hS)) λr s' h=>?_;cases r with
  |error e=>exact(J H e s' h).elim
  |ok fl =>
   cases fl with
   |next=>exact Ţ h
   |brk=>exact Ţ h
   |cont=>exact Ţ h
   |ret u =>
    let⟨v,H',os,l,X,B,r',q⟩:=h;have q':v=.bl true:=q;subst q';obtain rfl:u=Ž true:=r';refine⟨rfl,OldK.of_keep λb o e=>?_,os,l⟩;cases q:H b with
    |none=>exact X.keep b o e q (by intro z;exact er (show b∈([]:List Addr)from z) (by simp)) (by simp)
    |some u =>
     rcases U b with z|⟨ob,xs,z⟩
     ·rw[q]at z;cases z
     ·have z2:=X.frzs b ob _ z;let⟨R,_⟩:=A b _ z;let⟨Z,_⟩:=B b _ z2;rw[e]at R;cases R;exact Z
 cases hk:K.lookup a with
 |some o =>
  -- the script is one of the module's own objects
  have e:=Q a o hk;rw[ha]at e;cases e;refine i (λ_=>none) (λ_=>.inl rfl) (.inr ⟨_,vs.toArray,_,hk,rfl,rfl,rfl,by rw[Ù,C];exact hl,by simpa using W⟩) (λb u z=>by have E:(none:Option HO)=some u:=z;cases E) (λb z=>er rfl z) λz=>er rfl z
 |none =>
  refine i (λb=>if b=a then some (.frz { cls:=.type "list",data:=.seq vs.toArray } (.lst (ns.map V.int)))else none) (λb=>?_) (.inl (.inr ⟨{ cls:=.type "list",data:=.seq vs.toArray },el rfl⟩)) (λb u z=>?_) (λb z=>?_) λ_=>hk
  ·by_cases hb:b=a
   ·exact .inr ⟨_,_,el hb⟩
   ·exact .inl (em hb)
  ·by_cases hb:b=a
   ·have E:=(el hb).symm.trans z;cases E;subst hb;exact⟨ha,by rw[Ä];exact hl,vs,_,W,ha⟩
   ·have E:=(em hb).symm.trans z;cases E
  ·by_cases hb:b=a
   ·exact hb
   ·exact er (em hb) z
def Nk{l:W.OpenLaw}{n k:Nat}{q:Za}{loose:List Str}{XP:(Str->Option Value)->Zg->Prop}{YP:Zb->Zg->Prop}{d:DefRec}{K:Zd->á}{CX:Zb->CXT}{sp:Zb->Sp}{x:Str}(hn:l.most=some n)(p:n<=sizeLine)(m:d.params.defaults=[])(hr:Room k callerA)(A:∀(w:Zb)(h:Zg),YP w h->(K w.params).In h)(F:∀(w:Zb)(c:Str->Option Value)(i:Addr)(h:Zg),(K w.params).In h->h.Ns mainGlobals c->c d.name=some (.ref i) ->
   ∃fd:Yc,(∀(s:Shared)(u:Value),Yd s fd ⟨[u],[]⟩ [(x,u)]) /\
    ∀base:Zg,(K w.params).In base->base.Ns mainGlobals c->FnOk l.prog w (K w.params) c base (CX w) k i fd [x] (sp w))(r:∀(w:Zb)(H:Hp)(a:Addr)(ns:List Int),⇑ns<=n->Only H->SqL (K w.params) H a (ns.map V.int)->sp w [.ref a] H (λv _=>v=.bl true) λ_ _ _=>False)(j:∀(w:Zb)(H:Hp)(s:Shared)(e:Value)(t:Shared),CX w [] H s (λ_ _ _=>False) e t->False) :
  W.WalkO q loose XP YP l.row.toRowW d [] (λf vs=>PySem.call f vs):=by
 refine Att.Bm hn m λw s₀ s₁ c mb i o pm cd doc a vs ns G Y ho hd hcd hmg hobj hints hlen hg=>?_;have y:=A w _ Y;let⟨fd,hb,z⟩:=F w c i _ y G.T.g hmg;exact K5 y G.T.g G.T.b G.T.builtins G.T.nolimit hg hobj hints (ą hlen p) hr z hb (λH hO hS=>r w H a ns hlen hO hS) λH e t=>j w H s₁ e t
def jR(s:ZF):Yk:=match s with
 |.FunctionDef _ a _ _ _ _ _ _ _ _=>a
 |_=>{ posonlyargs:=[],args:=[],vararg:=none,kwonlyargs:=[],kw_defaults:=[],kwarg:=none,defaults:=[]}
def fK(s:ZF):List ZF:=match s with
 |.FunctionDef _ _ b _ _ _ _ _ _ _=>b
 |_=>[]
def aH(s:ZF):Zs:=match s with
 |.FunctionDef _ _ _ _ _ _ sc _ _ _=>sc
 |_=>{ kind:=.function,names:=[],isGenerator:=false,isCoroutine:=false }
abbrev CX0:CXT:=λ_ _ _ _ _ _=>False
abbrev E0:XK:=λ_ _ _=>False
def Vq{X:Cx}:Passes CX0 X E0:=λ_ _ _ _ _ _ _ h=>h.elim
structure Fun(K:á)(x qual:Str)(st:ZF)(f:Addr)(fd:Yc):Prop where
 ex:∃(oc:Value)(od:Option Addr)(kV doc pm:Value)(an:Option Addr)(cdv ct:Value)(osl:Array (Option Value)),
  fd=W.fnOf x qual (jR st) (fK st) (aH st) .none kV doc pm an cdv ct/\K.lookup f=some ⟨oc,od,.func fd,osl⟩/\W.codeIn K cdv qual=true
 kp:W.keepIn K (.ref f)=true
section
variable{P:Za}{w:Zb}{K:á}{mg:Str->Option Value}{base:Zg}
def Fun.ok{x b:Str}{st:ZF}{f:Addr}{g:Yc}{N ps:List Str}{k:Nat}{sp:Sp}(F:Fun K x b st f g)(S:FnScope N ps (aH st))(e:∀vs H Q E,sp vs H Q E->⇑vs=⇑ps)(d:∀(c:Value)(A:Zr)(a:List Env)(s:Shared)(H:Hp)(vs:List V)(Q:VK)(E:XK),Room k (A.deeper (Yj b (aH st) ↥s f c))->sp vs H Q E ->
   ∃t,PSs (Ei CX0 P w K mg base N b (aH st) f c A a s H E).nox (fK st) t/\t { nx:=λ_ H'=>Q .non H',rt:=Q } (start N vs) H):FnOk P w K mg base CX0 (k+1) f g ps sp:=by
 let⟨o,p,kV,i,r,m,c,n,l,rfl,j,hcd⟩:=F.ex;refine Wm j hcd S e λA a s H vs Q E hr hsp=>?_;let⟨t,h,q⟩:=d c A a s H vs Q E hr hsp;exact⟨t,h.nox,q⟩
def Fun.binds{x a:Str}{st:ZF}{f:Addr}{i:Yc}{ps:List Str}(F:Fun K x a st f i)(h:∀(kV c g:Value)(d:Option Addr)(b e:Value)(us:List Value),⇑us=⇑ps->bindArgs (W.fnOf x a (jR st) (fK st) (aH st) .none kV c g d b e) ⟨us,[]⟩=pure (ps.zip us):=by intro _ _ _ _ _ _ us hl;first|(let⟨_,rfl⟩:=Nf.len1 us hl;rfl)|(let⟨_,_,rfl⟩:=Nf.len2 us hl;rfl)|(let⟨_,_,_,rfl⟩:=Nf.Xp us hl;rfl)):Binds K i ps []:=by
 let⟨l,m,kV,c,g,d,b,e,j,rfl,k,hcd⟩:=F.ex;exact .all (h kV c g d b e)
def Lq{x a:Str}{st:ZF}{f:Addr}{j:Value}{m g:Option Addr}{e:Array (Option Value)}{kV d i b h:Value}(l:K.lookup f=some ⟨j,m,.func (W.fnOf x a (jR st) (fK st) (aH st) .none kV d i g b h),e⟩)(c:W.codeIn K b a=true)(k:W.keepIn K (.ref f)=true):Fun K x a st f (W.fnOf x a (jR st) (fK st) (aH st) .none kV d i g b h):=⟨⟨j,m,kV,d,i,g,b,h,e,rfl,l,c⟩,k⟩
end
section
variable{X:Cx}
def pv(i:Nat){x:Str}{pos:Pos}(hN:X.N[i]?=some x:=by rfl)(hv:Vis X.env.scope x:=by first|exact Or.inl rfl|exact Or.inr (Or.inl rfl)|exact Or.inr (Or.inr rfl))(hd:(x==("__debug__":Str))=false:=by decide)(hcd:(x==("__classdict__":Str))=false:=by decide):PE X (.Name x pos) (nU i):=Sh hN hv hd hcd
end
def aD{A B:Prop}(h:B):if false=true then A else B:=by
 rw[em Î];exact h
def aB{A B:Prop}(h:A):if true=true then A else B:=by
 rw[el rfl];exact h
def d8{c A B:Prop}[Decidable c](h1:c->A)(h2:¬c->B):if c then A else B:=by
 by_cases h:c
 ·rw[el h];exact h1 h
 ·rw[em h];exact h2 h
def Same(H a:Hp):Prop:=∀b o,H b=some o->a b=some o
def Same.refl(H:Hp):Same H H:=λ_ _ h=>h
def Same.trans{H d e:Hp}(a:Same H d)(b:Same d e):Same H e:=λc o h=>b c o (a c o h)
structure CB where
 cl:List (Str×Addr)
 C:Addr
 s:Shared
 H:Hp
 ex:List Addr
abbrev Cx.aO(X:Cx)(own M:List Str)(scope:Zs)(c:CB):Cx where
 prog:=X.prog
 w:=X.w
 K:=X.K
 mg:=X.mg
 base:=X.base
 A:=X.A
 N:=own++M
 s₀:=c.s
 H₀:=c.H
 env:=compEnvC scope c.cl c.C X.env
 outer:=X.stack
 stack:=X.stack
 ex:=c.ex
 fn:=λx=>scope.names.lookup x==some .cell
 calm:=X.calm
 pn:=[]
 sf:=X.sf
 xe:=λ_ _=>False
abbrev Cx.comp(X:Cx)(own:List Str)(scope:Zs)(c:CB):Cx:=X.aO own X.N scope c
def cR(cells:List (Str×Addr)):List (Str×NameKind)->List (Str×Addr)->List (Str×Addr)
 |[],acc=>acc
 |(n,k)::r,acc=>if k==.free then cR cells r ((n,(cells.lookup n).getD 0)::acc)else cR cells r acc
theorem iC{env:Env}:∀(names:List (Str×NameKind))(acc:List (Str×Addr)),(∀x∈names,x.2=.free->∃c,env.cells.lookup x.1=some c) ->
  (forIn names acc λ(p:Str×NameKind) (r:List (Str×Addr))=>match p with
   |(name,kind)=>if(kind==þ)=true then do let a ←YD env name;pure (Ī ((name,a)::r))else pure (Ī r):Sem (List (Str×Addr)))=pure (cR env.cells names acc)
 |[],acc,_=>by simp[cR]
 |(n,k)::r,acc,h=>by
  rw[List.forIn_cons];by_cases hk:(k==þ)=true
  ·let⟨c,hc⟩:=h (n,k) Ó (by simpa using hk);have e:YD env n=pure c:=by unfold YD;rw[hc]
   have b:=iC (env:=env) r ((n,c)::acc) λx hx=>h x (Í _ hx);show((if(k==þ)=true then do let a ←YD env n;pure (Ī ((n,a)::acc))else pure (Ī acc)) >>=_:Sem _)=_;rw[el hk,e];unfold cR;rw[el hk,hc];exact b
  ·have b:=iC (env:=env) r acc λx hx=>h x (Í _ hx);show((if(k==þ)=true then do let a ←YD env n;pure (Ī ((n,a)::acc))else pure (Ī acc)) >>=_:Sem _)=_;rw[em hk];unfold cR;rw[em hk];exact b
def El{b:Zs}{env:Env}(h:∀x∈b.names,x.2=.free->∃c,env.cells.lookup x.1=some c):YE b env=pure (cR env.cells b.names []):=by
 have e:=iC (env:=env) b.names [] h;unfold YE;show(forIn b.names [] _ >>=λcs=>pure cs:Sem _)=_;have d:(forIn b.names ([]:List (Str×Addr)) λ(p:Str×NameKind) (r:List (Str×Addr))=>match p with
   |(name,kind)=>if(kind==þ)=true then do let a ←YD env name;pure (Ī ((name,a)::r))else pure (Ī r):Sem (List (Str×Addr)))=pure (cR env.cells b.names []):=e
 rw[d];rfl
theorem nH{cells:List (Str×Addr)}{x:Str}{c:Addr}:∀{names:List (Str×NameKind)}{acc:List (Str×Addr)},(cR cells names acc).lookup x=some c->acc.lookup x=some c\/((x,þ)∈names/\c=(cells.lookup x).getD 0)
 |[],acc,h=>.inl h
 |(n,k)::r,acc,h=>by
  unfold cR at h;by_cases hk:(k==þ)=true
  ·rw[el hk]at h;have a:k=.free:=by simpa using hk
   rcases nH h with q|⟨d,f⟩
   ·rw[Ŀ]at q;cases b:x==n with
    |true =>
     rw[b]at q;have e:x=n:=by simpa using b
     subst e a;exact .inr ⟨Ó,(Ô q).symm⟩
    |false=>rw[b]at q;exact .inl q
   ·exact .inr ⟨Í _ d,f⟩
  ·rw[em hk]at h;rcases nH h with q|⟨d,f⟩
   ·exact .inl q
   ·exact .inr ⟨Í _ d,f⟩
theorem uz{cells:List (Str×Addr)}{x:Str}:∀{names:List (Str×NameKind)}{acc:List (Str×Addr)},(acc.lookup x).isSome=true->((cR cells names acc).lookup x).isSome=true
 |[],_,h=>h
 |(n,k)::r,acc,h=>by
  unfold cR;split
  ·refine uz ?_;rw[Ŀ];cases a:x==n <;> simp[h]
  ·exact uz h
theorem jy{cells:List (Str×Addr)}{x:Str}:∀{names:List (Str×NameKind)}{acc:List (Str×Addr)},(x,þ)∈names->((cR cells names acc).lookup x).isSome=true
 |(n,k)::r,acc,h=>by
  unfold cR;rcases Û.mp h with e|h
  ·cases e;rw[el (by rfl)];exact uz (by simp[Ŀ])
  ·split
   ·exact jy h
   ·exact jy h
def fB(env:Env)(a:Zs)(N:List Str):Bool :=
 (a.kind==.function)&&a.names.all λy=>match y.2 with
  |.local=>!(N.contains y.1)&&(a.names.lookup y.1==some .local)
  |.cell=>!(N.contains y.1)&&(a.names.lookup y.1==some .cell)
  |.free=>(a.names.lookup y.1==some .free)&&(env.kindOf y.1==some .cell || env.kindOf y.1==some .free)
  |_=>true
theorem cP{env:Env}:∀{names:List (Str×NameKind)}{x:Str}{q:NameKind},(names.map λ(n,k)=>if(k==þ&&env.scope.kind==.function&&env.kindOf n==some .cell)then(n,ď)else(n,k)).lookup x=some q ->
  ∃k,(x,k)∈names/\names.lookup x=some k/\(q=k\/(q=.cell/\k=.free))
 |[],_,_,h=>by simp at h
 |(n,k)::r,x,q,h=>by
  have d:=@cP env r x q;have h':List.lookup x ((if(k==þ&&env.scope.kind==.function&&env.kindOf n==some .cell)=true then(n,ď)else(n,k))::(r.map λ(n,k)=>if(k==þ&&env.scope.kind==.function&&env.kindOf n==some .cell)then(n,ď)else(n,k)))=some q:=h;by_cases hc:(k==þ&&env.scope.kind==.function&&env.kindOf n==some .cell)=true
  ·rw[el hc,Ŀ]at h';cases a:x==n with
   |true =>
    rw[a]at h';have e:x=n:=by simpa using a
    subst e;have hk:k=.free:=by simp at hc;exact hc.1.1
    exact⟨k,Ó,by simp[Ŀ],.inr ⟨(Ô h').symm,hk⟩⟩
   |false =>
    rw[a]at h';let⟨c,h1,h2,b⟩:=d h';exact⟨c,Í _ h1,by rw[Ŀ,a];exact h2,b⟩
  ·rw[em hc,Ŀ]at h';cases a:x==n with
   |true =>
    rw[a]at h';have e:x=n:=by simpa using a
    subst e;exact⟨k,Ó,by simp[Ŀ],.inl (Ô h').symm⟩
   |false =>
    rw[a]at h';let⟨c,h1,h2,b⟩:=d h';exact⟨c,Í _ h1,by rw[Ŀ,a];exact h2,b⟩
def HOk.track{P:Za}{w:Zb}{H:Hp}{h:Zg}{a:Addr}{o:HO}(x:HOk P w H h)(hn:H a=none)(new:bx P w (upd H a o) h a o):HOk P w (upd H a o) h:=λb u e=>by
 by_cases hb:b=a
 ·subst hb;rw[aq]at e;cases e;exact new
 ·rw[aj hb]at e;exact(x b u e).stay (λc v _ q=>q) (λc q=>by rw[aj (ao q hn)];exact q) λc xs q=>by rw[aj (ao q hn)];exact q
def Ib{prog:Za}{w:Zb}{A:Zr}{s:Shared}{e a d:Zt}{f:List Zt}{b:Zs}{pos:Pos}{it acc:Value}{env:Env}{R:Result->Shared->Prop}(I:Nat->Shared->Prop)(g:∀n s,I n s->wpAny (model prog w) A (ZY it) (λr s₁=>match r with
   |none=>R (.ok .next) s₁
   |some v=>wpAny (model prog w) A (ZZ a it v) (λ_ s₀=>wpAny (model prog w) A (ZP a env v) (λ_ s₂ =>
     wpAny (model prog w) A (forIn f true λc r=>if r=true then do let ok ←ZE c env (Zv c env);pure (Ī ok)else pure (Ī r)) (λok s₃ =>
      if ok=true then wpAny (model prog w) A (Zv e env) (λx s₄ =>
       wpAny (model prog w) A (Z6 (.builtin "list.append") [acc,x]) (λ_ s₅=>∃m,m<n/\I m s₅) (λ_ _=>False) s₄) (λ_ _=>False) s₃
      else ∃m,m<n/\I m s₃) (λ_ _=>False) s₂) (λ_ _=>False) s₀) (λ_ _=>False) s₁) (λ_ _=>False) s)(n:Nat)(h:I n s):Ye (model prog w) A (.compLoop (.ListComp e [⟨a,d,f,0⟩] b pos) 0 it acc env) R s:=by
 refine codeAny_loop rfl I (λn s hI=>?_) n h;show wpAny _ A ((compTurn (.ListComp e [⟨a,d,f,0⟩] b pos) 0 it acc env).onRaise (λx=>do noteFrame x env;theTreesLotGoes x)) _ _ s;refine wpAny_noted ?_;rw[compTurn_list];refine Å (ZU (Å (ń (g n s hI) (λr s₁ h₁=>?_) λ_ _ h'=>h'.elim)));cases r with
 |none=>exact Ø h₁
 |some v =>
  refine Å (ń h₁ (λ_ s₀ h₀'=>?_) λ_ _ h'=>h'.elim);refine Å (ń h₀' (λ_ s₂ h₂=>Å (ń h₂ (λok s₃ h₃=>?_) λ_ _ h'=>h'.elim)) λ_ _ h'=>h'.elim);cases ok with
  |false=>exact Ø ⟨rfl,h₃⟩
  |true =>
   exact Å (Å (ń h₃ (λx s₄ h₄=>Å (ń h₄ (λ_ s₅ h₅=>Ø (Ø ⟨rfl,h₅⟩)) λ_ _ h'=>h'.elim)) λ_ _ h'=>h'.elim))
def PTs(X:Cx)(a:List Zt)(t:TT):Prop :=
 ∀(pins:List (Addr×Obj))(s:Shared)(σ:St)(H:Hp)(Q:Bool->Hp->Prop),Inv X pins σ H s->t σ H Q ->
  wpAny (model X.prog X.w) X.A (forIn a true λc r=>if r=true then do let ok ←ZE c X.env (Zv c X.env);pure (Ī ok)else pure (Ī r)) (TP X pins σ Q) X.xe s
def NZ{X:Cx}:PTs X [] (λ_ H Q=>Q true H):=λ_ _ _ H _ I h=>wpAny_tests_nil ⟨H,I,h⟩
def NT{X:Cx}{c:Zt}{t:TT}(hc:PT X c t):PTs X [c] t:=λpins s σ H Q I h=>wpAny_tests_one (hc pins s σ H Q I h)
def W9(J:It)(n:Nat)(g:CB->TG)(d:CB->TT)(a:CB->TE)(σ:St)(Q:VK)(H:Hp):Prop:=∃W:Nat->Nat->List V->Hp->Prop,(∃m,W 0 m [] H)/\∀(c:CB) i m ys H,W i m ys H ->
 (J.stop i H/\∀p,H p=none->Q (.ref p) (upd H p (.lst ys)))∨
 (J.go i H/\⇑ys<sizeLine/\∃N:List V->Hp->Prop,(∀ys' H',N ys' H'->∃m',m'<m/\W (i+1) m' ys' H')/\∀x H',J.yld i H x H'->g c x (Ú n none++σ) H' λσ2 H2=>d c σ2 H2 λb H3 =>
  if b=true then a c σ2 H3 λv H4=>N (ys++[v]) H4 else N ys H3)
def tLC(n:Nat)(c:TI)(g:CB->TG)(b:CB->TT)(a:CB->TE):TE:=λσ H Q=>c σ H λJ H1=>W9 J n g b a σ Q H1
section
variable{X:Cx}{own:List Str}{scope:Zs}{tg iter elt:Zt}{ifs:List Zt}{pos:Pos}{wi:TI}{g:CB->TG}{tt:CB->TT}{te:CB->TE}
def aR(env:Env)(scope:Zs)(N M:List Str):Bool :=
 fB env scope M&&((⇑N==⇑M)&&(N.zip M).all λy=>y.1==y.2 || ((y.2==("":Str))&&scope.names.all λz=>!(z.1==("":Str))))
def Ba{env:Env}{N:List Str}(h:fB env scope N=true):aR env scope N N=true:=by
 unfold aR;rw[h,ě,ew,ě,Ħ];rintro⟨a,b⟩ c;let⟨i,hi,e⟩:=š.mp c;rw[List.getElem_zip]at e;cases e;simp
variable{M:List Str}
def eE(h:aR X.env scope X.N M=true):scope.kind=.function:=by
 unfold aR fB at h;simp only[Ì,ez]at h;exact h.1.1
def bV(h:aR X.env scope X.N M=true):∀y∈scope.names,(y.2=.local->y.1∉M/\scope.names.lookup y.1=some .local)/\(y.2=.cell->y.1∉M/\scope.names.lookup y.1=some .cell)/\(y.2=.free->scope.names.lookup y.1=some .free/\(X.env.kindOf y.1=some .cell\/X.env.kindOf y.1=some .free)):=by
 unfold aR at h;rw[Ì]at h;have h:=h.1;unfold fB at h;rw[Ì,Ħ]at h;intro y a;have q:=h.2 y a;let⟨n,k⟩:=y;cases k with
 |«local»=>simp at q ⊢;exact q
 |cell=>simp at q ⊢;exact q
 |free=>simp at q ⊢;exact q
 |globalExplicit=>simp
 |globalImplicit=>simp
theorem bf:∀(names:List (Str×NameKind))(n:Nat)(acc:List (Str×Addr)),cellsFrom n names acc=cellsFrom n names []++acc
 |[],_,_=>rfl
 |(nm,k)::r,n,acc=>by
  show(if(k==ď)=true then cellsFrom (n+1) r ((nm,n)::acc)else cellsFrom n r acc)=(if(k==ď)=true then cellsFrom (n+1) r [(nm,n)]else cellsFrom n r [])++acc;split
  ·rw[bf r (n+1) ((nm,n)::acc),bf r (n+1) [(nm,n)],ĩ];rfl
  ·exact bf r n acc
theorem eO:∀(names:List (Str×NameKind))(n:Nat)(x:Str)(c:Addr),(x,c)∈cellsFrom n names []->(x,ď)∈names/\n<=c
 |[],_,_,_,h=>nomatch h
 |(nm,k)::r,n,x,c,h=>by
  have h:(x,c)∈(if(k==ď)=true then cellsFrom (n+1) r [(nm,n)]else cellsFrom n r []):=h;split at h
  ·rename_i hk;rw[bf]at h;rcases ë.mp h with z|z
   ·let⟨h1,h2⟩:=eO r (n+1) x c z;exact⟨Í _ h1,()⟩
   ·have z:(x,c)=(nm,n):=by simpa using z
    cases z;have hk:k=.cell:=by simpa using hk
    subst hk;exact⟨Ó,Õ _⟩
  ·let⟨h1,h2⟩:=eO r n x c h;exact⟨Í _ h1,h2⟩
theorem pK:∀(names:List (Str×NameKind))(n:Nat)(x y:Str)(c:Addr),(x,c)∈cellsFrom n names []->(y,c)∈cellsFrom n names []->x=y
 |[],_,_,_,_,h,_=>nomatch h
 |(nm,k)::r,n,x,y,c,h,h'=>by
  have h:(x,c)∈(if(k==ď)=true then cellsFrom (n+1) r [(nm,n)]else cellsFrom n r []):=h;have h':(y,c)∈(if(k==ď)=true then cellsFrom (n+1) r [(nm,n)]else cellsFrom n r []):=h';by_cases hk:(k==ď)=true
  ·rw[el hk,bf]at h h';rcases ë.mp h with z|z <;> rcases ë.mp h' with a|a
   ·exact pK r (n+1) x y c z a
   ·have:=(eO r (n+1) x c z).2;have a:(y,c)=(nm,n):=by simpa using a
    cases a;exact er this (Nat.not_succ_le_self _)
   ·have:=(eO r (n+1) y c a).2;have z:(x,c)=(nm,n):=by simpa using z
    cases z;exact er this (Nat.not_succ_le_self _)
   ·have z:(x,c)=(nm,n):=by simpa using z
    have a:(y,c)=(nm,n):=by simpa using a
    cases z;cases a;rfl
  ·rw[em hk]at h h';exact pK r n x y c h h'
theorem jJ:∀(names:List (Str×NameKind))(h:Zg)(b:Addr)(o:Obj),h.get? b=some o->(YF h names).get? b=some o
 |[],_,_,_,e=>e
 |(nm,k)::r,h,b,o,e=>by
  show(if(k==ď)=true then YF (h.push { cls:=Ă "cell",data:=Data.cell none }) r else YF h r).get? b=some o;split
  ·exact jJ r _ b o (Ò _ e)
  ·exact jJ r h b o e
theorem n8:∀(names:List (Str×NameKind))(h:Zg)(x:Str)(c:Addr),(x,c)∈cellsFrom h.objs.size names []->(YF h names).IsCell c none
 |[],_,_,_,e=>nomatch e
 |(nm,k)::r,h,x,c,e=>by
  have e:(x,c)∈(if(k==ď)=true then cellsFrom (h.objs.size+1) r [(nm,h.objs.size)]else cellsFrom h.objs.size r []):=e;show(if(k==ď)=true then YF (h.push { cls:=Ă "cell",data:=Data.cell none }) r else YF h r).IsCell c none;by_cases hk:(k==ď)=true
  ·rw[el hk,bf]at e;rw[el hk];rcases ë.mp e with z|z
   ·exact n8 r _ x c (by rw[ķ];exact z)
   ·have z:(x,c)=(nm,h.objs.size):=by simpa using z
    cases z;exact⟨_,jJ r _ _ _ (â _ rfl),rfl⟩
  ·rw[em hk]at e ⊢;exact n8 r h x c e
def Di{M:ZD}{A:Zr}{E:eB}{s:Shared}{scope:Zs}{d:Addr}{c:List (Str×Addr)}{i:Str}{f:Option Addr}{e:Value}{b:Option Env}{a:Addr}{Q:Env->Shared->Prop}(h:Q (newEnv scope ↥s d (cellsFrom (↥s+1) scope.names c) i f e b a) { s with heap:=YF (s.heap.push { cls:=Ă (if b.isSome=true then "dict" else "frame"),data:=Data.dict #[]}) scope.names }) :
  wpAny M A (YG scope d c [] i f e b a) Q E s:=by
 unfold YG;refine Å (wpAny_alloc ?_);refine Å (wpAny_layCells _ (λ_ _ _=>rfl) _ _ _ _ ?_);rw[ķ];exact Å (Ø (Ø h))
def Ui{n:Nat}{names:List (Str×NameKind)}{a:List (Str×Addr)}{x:Str}{c:Addr}(h:(cellsFrom n names a).lookup x=some c):(x,c)∈cellsFrom n names []\/a.lookup x=some c:=by
 rw[bf,List.lookup_append]at h;cases e:(cellsFrom n names []).lookup x with
 |none=>rw[e]at h;exact .inr h
 |some d =>
  rw[e]at h;cases h;exact .inl (ŋ e)
def Mz{n:Nat}{names:List (Str×NameKind)}{a:List (Str×Addr)}{x:Str}(h:∀c,(x,c)∈cellsFrom n names []->False):(cellsFrom n names a).lookup x=a.lookup x:=by
 rw[bf,List.lookup_append];cases e:(cellsFrom n names []).lookup x with
 |none=>rfl
 |some d=>exact(h d (ŋ e)).elim
def Aj(h:aR X.env scope X.N M=true){n:Nat}{x:Str}(a:(x,þ)∈scope.names):∀c,(x,c)∈cellsFrom n scope.names []->False:=λc z=>by
 have h1:=((bV h _ a).2.2 rfl).1;have h2:=((bV h _ (eO _ _ _ _ z).1).2.1 rfl).2;rw[h1]at h2;cases h2
def jx(h:aR X.env scope X.N M=true):⇑X.N=⇑M:=by
 unfold aR at h;rw[Ì,Ì]at h;exact eA h.2.1
def vK{i:Nat}{x:Str}{k:NameKind}(h:aR X.env scope X.N M=true)(c:M[i]?=some x)(_:x∈M)(hn:(x,k)∈scope.names):X.N[i]?=some x:=by
 have hl:=jx h;unfold aR at h;rw[Ì,Ì,Ħ]at h;have hi:i<⇑M:=(Æ.mp c).1;have a:M[i]=x:=(Æ.mp c).2;have b:i<⇑X.N:=()
 have q:=h.2.2 (X.N[i],M[i]) (by
  refine List.mem_iff_getElem.mpr ⟨i,by rw[List.length_zip];lia,?_⟩;rw[List.getElem_zip])
 rw[Ş]at q;rcases q with q|q
 ·have q:X.N[i]=M[i]:=eA q;rw[Ë b,q,a]
 ·rw[Ì,Ħ]at q;have e:M[i]=("":Str):=eA q.1;have z:=q.2 (x,k) hn;rw[←a,e]at z;simp at z
def Ek{w:List (Addr×Obj)}{σ:St}{H:Hp}{s:Shared}{G:List Addr}{h₁:Zg}{tk:Nat}(hk:aR X.env scope X.N M=true)(I:Inv X w σ H s)(R:∀b∈G,nQ X w H b)(L:∀b∈G,∃o,s.heap.get? b=some o)(Y:h₁.Ns (↥s+1) λ_=>none)(r:∀b o,s.heap.get? b=some o->h₁.get? b=some o)(hD:h₁.get? ↥s=some { cls:=.type "list",data:=.seq #[] 0 })(V:∀x c,(x,c)∈cellsFrom (↥s+2) scope.names []->h₁.IsCell c none) :
  Inv (X.aO own M scope ⟨cellsFrom (↥s+2) scope.names (cR X.env.cells scope.names []),↥s+1,s,H,G⟩) [(↥s,{ cls:=.type "list",data:=.seq #[] 0 })] (Ú ⇑own none++σ) H { s with heap:=h₁,toks:=tk }:=by
 have U:=eE hk;have a:=bV hk;have O:∀x,(x,þ)∈scope.names->∃c,X.env.cells.lookup x=some c:=λx n=>I.ok.has x ((a _ n).2.2 rfl).2;have K:∀x c,(cR X.env.cells scope.names []).lookup x=some c->X.env.cells.lookup x=some c/\(x,þ)∈scope.names:=λx c e=>by
  rcases nH e with q|⟨E,S⟩
  ·simp at q
  ·let⟨c',F⟩:=O x E;rw[F]at S;exact⟨by rw[F,S];rfl,E⟩
 have d:∀x c,(cellsFrom (↥s+2) scope.names (cR X.env.cells scope.names [])).lookup x=some c->(X.env.cells.lookup x=some c/\(x,þ)∈scope.names/\c<↥s)\/((x,c)∈cellsFrom (↥s+2) scope.names []/\(x,ď)∈scope.names/\↥s+2<=c):=λx c e=>by
  rcases Ui e with z|z
  ·exact .inr ⟨z,eO _ _ _ _ z⟩
  ·let⟨h1,h2⟩:=K x c z;let⟨v,o,D,_⟩:=I.cell x c h1;exact .inl ⟨h1,h2,Ï D⟩
 have t:∀x,(YH scope X.env).names.lookup x=some .cell\/(YH scope X.env).names.lookup x=some .free->(x,þ)∈scope.names\/(x,ď)∈scope.names:=λx n=>by
  have key:∀q,(YH scope X.env).names.lookup x=some q->q=.cell\/q=.free->(x,þ)∈scope.names\/(x,ď)∈scope.names:=λq hq hq'=>by
   let⟨k,h1,h2,C⟩:=cP (env:=X.env) (names:=scope.names) hq;rcases C with C|⟨_,C⟩
   ·subst C;rcases hq' with z|z
    ·rw[z]at h1;exact .inr h1
    ·rw[z]at h1;exact .inl h1
   ·rw[C]at h1;exact .inl h1
  rcases n with n|n
  ·exact key _ n (.inl rfl)
  ·exact key _ n (.inr rfl)
 have Q:∀b o,s.heap.get? b=some o->b<↥s:=λb o e=>Ï e;refine⟨⟨I.ok.mod,U,I.ok.glob,I.ok.blt,Ņ _,λx y c h1 h2=>?inj,λx n=>?_,λx c z e=>?cab,I.ok.hd,I.ok.frames,.inl rfl,λb hb=>⟨?_,λx c e=>?exf⟩,I.bs,
   ą I.ok.bsz I.sz,λb o e hb=>?_,λb hb hs=>?_,I.stack,I.Fe,λq hq=>⟨(I.ok.sof q hq).1,I.base.frzs _ _ _ (I.ok.sof q hq).2.1,(I.ok.sof q hq).2.2⟩⟩,rfl,I.bare,Un.kept r,⟨_,Y,λi x v h1 h2 C=>?_⟩,λx c e=>?_,?_,λx c e=>?frc,λp hp=>?_,I.hok.kept r,?_⟩
 case inj =>
  rcases d x c h1 with⟨A,_,B⟩|⟨A,_,B⟩ <;> rcases d y c h2 with⟨b1,_,b3⟩|⟨b1,_,b3⟩
  ·exact I.ok.inj x y c A b1
  ·exact er (î B (ą (Nat.le_add_right _ 2) b3)) (Ą _)
  ·exact er (î b3 (ą (Nat.le_add_right _ 2) B)) (Ą _)
  ·exact pK _ _ _ _ _ A b1
 case cab =>
  show ↥s<=c;rcases d x c e with⟨_,a2,_⟩|⟨_,_,B⟩
  ·have h1:=((a _ a2).2.2 rfl).1;have z:(scope.names.lookup x==some ď)=true:=z;rw[h1]at z;exact er z ∅
  ·lia
 case exf =>
  rcases d x c e with⟨A,_,_⟩|⟨_,_,B⟩
  ·exact(R b hb).2.2.2.2.1 x c A
  ·let⟨o,e⟩:=L b hb;have:=Q b o e;intro z;subst z;exact er (î this (ą (Nat.le_add_right _ 2) B)) (Ą _)
 case frc =>
  rcases d x c e with⟨A,_,_⟩|⟨_,_,B⟩
  ·exact I.freeC x c A
  ·exact I.hok.fresh ()
 ·have hx':(YH scope X.env).names.lookup x=some .cell\/(YH scope X.env).names.lookup x=some .free:=n;refine Option.isSome_iff_exists.mp (W.cellsFrom_some _ _ _ ?_);rcases t x hx' with z|z
  ·exact .inr (jy z)
  ·exact .inl ((a _ z).2.1 rfl).2
 ·let⟨o,e⟩:=L b hb;exact é (Ĉ (Q b o e))
 ·have j:b∈G:=hb;rcases(R b j).2.2.2.1 with z|z
  ·exact I.ok.noex b o e z
  ·exact er (î (Ï (I.ok.bs b o e).1) z) (Ą _)
 ·have j:b∈G:=hb;rcases Û.mp (I.BK b hs)with z|z
  ·exact(R b j).2.1 z
  ·exact(R b j).2.2.1 z
 ·have hi:⇑own<=i:=by
   by_cases hi:i<⇑own
   ·rw[ñ (by simpa using hi),Ŧ]at h2;split at h2 <;> cases h2
   ·lia
  have f:M[i - ⇑own]?=some x:=by
   have q:(own++M)[i]?=some x:=h1
   rwa [õ hi]at q
  have T:σ[i - ⇑own]?=some (some v):=by
   rw[õ (by simpa using hi)]at h2;simpa using h2
  have J:Vis (YH scope X.env) x:=C;have l:(x,þ)∈scope.names:=by
   rcases J with z|z
   ·let⟨k,E,S,h⟩:=cP (env:=X.env) (names:=scope.names) z;rcases h with h|⟨h,_⟩
    ·subst h;exact er (Ê f) ((a _ E).1 rfl).1
    ·cases h
   ·rcases t x z with y|y
    ·exact y
    ·exact er (Ê f) ((a _ y).2.1 rfl).1
  have P:=((a _ l).2.2 rfl).2;let⟨m,hm,hl⟩:=I.loc;let⟨u,ru,lu⟩:=hl _ x v (vK hk f (Ê f) l) T (by rcases P with z|z;exact .inr (.inl z);exact .inr (.inr z));refine⟨u,ru,.inr ⟨?_,?_⟩⟩
  ·rcases J with z|z|z
   ·let⟨k,E,S,h⟩:=cP (env:=X.env) (names:=scope.names) z;rcases h with h|⟨h,_⟩
    ·subst h;exact er (Ê f) ((a _ E).1 rfl).1
    ·cases h
   ·exact .inl z
   ·exact .inr z
  ·rcases lu with⟨z,_⟩|⟨_,c,e,ic⟩
   ·rcases P with q|q
    ·rw[q]at z;cases z
    ·rw[q]at z;cases z
   ·let⟨c',F⟩:=Option.isSome_iff_exists.mp (jy (cells:=X.env.cells) (acc:=[]) l);have e2:=(K x c' F).1;rw[e]at e2;cases e2;let⟨o,D,hd⟩:=ic;exact⟨c,(Mz (Aj hk l)).trans F,o,r _ _ D,hd⟩
 ·rcases d x c e with⟨z,_,_⟩|⟨z,_,_⟩
  ·let⟨v,o,D,hd⟩:=I.cell x c z;exact⟨v,o,r _ _ D,hd⟩
  ·exact⟨none,V x c z⟩
 ·exact I.hok.fresh (Ņ _)
 ·have Z:p=(↥s,{ cls:=.type "list",data:=.seq #[] 0 }):=by simpa using hp
  subst Z;refine⟨hD,I.hok.fresh (Õ _),é (ŀ _),λz=>?_,λv z=>nomatch z⟩;let⟨_,o,D,_⟩:=I.stack.mem z;exact er (Ï D) (Ą _)
 ·show(Ú ⇑own none++σ).length=⇑(own++M);rw[Ð,Ð,ų,I.len,jx hk]
def Ej{c k:List (Addr×Obj)}{σ i:St}{H h:Hp}{s l:Shared}{j:List Addr}{m:List (Str×Addr)}{ys:List V}{us:List Value}{n:Nat}(I:Inv X c σ H s)(f:∀b∈j,nQ X c H b)(J:Inv (X.aO own M scope ⟨m,↥s+1,s,H,j⟩) k i h l)(hp:(↥s,({ cls:=.type "list",data:=.seq us.toArray n }:Obj))∈k)(hv:Vals ys us)(r:⇑ys<=sizeLine) :
  Inv X c σ (upd h ↥s (.lst ys)) l/\h ↥s=none:=by
 let⟨p,a,_⟩:=J.pin _ (ã _ hp);refine⟨I.call' J.os ⟨λb o e n hb hx=>J.base.keep b o e n hb hx,λb o e n hb hx=>J.base.slot b o e n hb hx,λb o e n hx=>?_,λb o e hx=>J.base.there b o e hx,λb xs e=>?_,λb o u e=>?_,λb ps e=>?_⟩ ?_ J.bare ?_,a⟩
 ·rw[aj (é (Ï e))];exact J.base.free b o e n hx
 ·have q:=J.base.tups b xs e;rw[aj (ao q a)];exact q
 ·have q:=J.base.frzs b o u e;rw[aj (ao q a)];exact q
 ·let⟨d,q⟩:=J.base.tbls b ps e;exact⟨d,by rw[aj (ao q a)];exact q⟩
 ·exact J.hok.track a ⟨r,us,n,hv,p⟩
 ·intro b hb;exact⟨(f b hb).2.2.2.1,(f b hb).2.1,(f b hb).2.2.2.2.1,(f b hb).2.2.2.2.2⟩
def uw{d K:List (Addr×Obj)}{σ E:St}{H F:Hp}{s L:Shared}{w:List Addr}{t:List (Str×Addr)}(hk:aR X.env scope X.N M=true)(I:Inv X d σ H s)(P:∀b∈w,nQ X d H b)(B:∀x,(x,þ)∈scope.names->∃c,t.lookup x=some c/\X.env.cells.lookup x=some c)(J:Inv (X.aO own M scope ⟨t,↥s+1,s,H,w⟩) K E F L):Inv (X.aO own M scope ⟨t,↥s+1,s,H,w⟩) K (Ú ⇑own none++σ) F L:=by
 have j:=bV hk;refine⟨J.ok,J.os,J.bare,J.base,?_,J.cell,J.free,J.freeC,J.pin,J.hok,?_⟩
 ·let⟨T,C,_⟩:=J.loc;refine⟨T,C,λi x v h1 h2 f=>?_⟩;have hi:⇑own<=i:=by
   by_cases hi:i<⇑own
   ·rw[ñ (by simpa using hi),Ŧ]at h2;split at h2 <;> cases h2
   ·lia
  have a:M[i - ⇑own]?=some x:=by
   have q:(own++M)[i]?=some x:=h1
   rwa [õ hi]at q
  have y:σ[i - ⇑own]?=some (some v):=by
   rw[õ (by simpa using hi)]at h2;simpa using h2
  have A:Vis (YH scope X.env) x:=f;have p:¬(YH scope X.env).names.lookup x=some .local:=λz=>by
   let⟨k,U,Y,r⟩:=cP (env:=X.env) (names:=scope.names) z;rcases r with r|⟨r,_⟩
   ·subst r;exact er (Ê a) ((j _ U).1 rfl).1
   ·cases r
  have l:(YH scope X.env).names.lookup x=some .cell\/(YH scope X.env).names.lookup x=some .free:=by
   rcases A with z|z
   ·exact er z p
   ·exact z
  have h:(x,þ)∈scope.names:=by
   have key:∀q,(YH scope X.env).names.lookup x=some q->q=.cell\/q=.free->(x,þ)∈scope.names:=λq hq hq'=>by
    let⟨k,h1,h2,f⟩:=cP (env:=X.env) (names:=scope.names) hq;rcases f with f|⟨_,f⟩
    ·subst f;rcases hq' with z|z
     ·rw[z]at h1;exact er (Ê a) ((j _ h1).2.1 rfl).1
     ·rw[z]at h1;exact h1
    ·rw[f]at h1;exact h1
   rcases l with D|D
   ·exact key _ D (.inl rfl)
   ·exact key _ D (.inr rfl)
  have n:=((j _ h).2.2 rfl).2;let⟨m,hm,hl⟩:=I.loc;let⟨u,V,S⟩:=hl _ x v (vK hk a (Ê a) h) y (by rcases n with z|z;exact .inr (.inl z);exact .inr (.inr z));refine⟨u,V,.inr ⟨l,?_⟩⟩;rcases S with⟨z,_⟩|⟨_,c,e,R⟩
  ·rcases n with q|q
   ·rw[q]at z;cases z
   ·rw[q]at z;cases z
  ·let⟨W,O,G⟩:=B x h;rw[e]at G;cases G;let⟨o,Q,hd⟩:=R;let⟨Z,q⟩:=J.base.any Q (I.freeC x c e) λz=>(P c z).2.2.2.2.1 x c e rfl;exact⟨c,O,_,q,hd⟩
 ·show(Ú ⇑own none++σ).length=⇑(own++M);rw[Ð,Ð,ų,I.len,jx hk]
def vH{t:List (Addr×Obj)}{σ:St}{H:Hp}{s:Shared}{it:Addr}{a:List Addr}{tn:Nat->Zg->Prop}{J:It}{W:Nat->Nat->List V->Hp->Prop}{E:eB}{RR:Value->Addr->Result->Shared->Prop}{Cm:Cx->Prop}(hc:∀c,Cm (X.aO own M scope c))(hk:aR X.env scope X.N M=true)(hg:∀c,PG (X.aO own M scope c) tg (g c))(ht:∀c,PTs (X.aO own M scope c) ifs (tt c))(he:∀c,PE (X.aO own M scope c) elt (te c))(I:Inv X t σ H s)(T:TurnG Cm X.prog X.w X.K tg J a it tn)(st:tn 0 s.heap)(U:∀b∈a,nQ X t H b){m0:Nat}(w0:W 0 m0 [] H){D:List V->Hp->Prop}(turn:∀(c:CB) i m ys H,W i m ys H->(J.stop i H/\D ys H)∨
   (J.go i H/\⇑ys<sizeLine/\∃N:List V->Hp->Prop,(∀ys' H',N ys' H'->∃m',m'<m/\W (i+1) m' ys' H')/\∀x H',J.yld i H x H'->g c x (Ú ⇑own none++σ) H' λσ2 H2=>tt c σ2 H2 λb H3 =>
    if b=true then te c σ2 H3 λv H4=>N (ys++[v]) H4 else N ys H3))(fin:∀s' m' ys H',(s'.heap.Ns (↥s+1) m')->H' (↥s+1)=none->H' ↥s=none->Inv X t σ (upd H' ↥s (.lst ys)) s'->D ys H'->RR (.ref ↥s) (↥s+1) (.ok .next) s') :
  wpAny (model X.prog X.w) X.A (YI []) (λacc s₃=>wpAny (model X.prog X.w) X.A (YG scope X.env.globals (cR X.env.cells scope.names []) [] X.env.qual none .none (some X.env)) (λcenv s₄ =>
   Ye (model X.prog X.w) X.A (.compStart (.ListComp elt [⟨tg,iter,ifs,0⟩] scope pos) 0 (.ref it) acc { cenv with scope:=YH scope X.env }) (RR acc cenv.locals) s₄) E s₃) E s:=by
 have hkk:=eE hk;have hka:=bV hk;refine Ő (Di ?_);dsimp only;have hC:(s.heap.push { cls:=.type "list",dict:=none,data:=.seq ([]:List Value).toArray }).objs.size=↥s+1:=ķ ..;rw[hC];generalize R:s.heap.push { cls:=.type "list",dict:=none,data:=.seq ([]:List Value).toArray }=H2 at hC ⊢;generalize L:H2.push { cls:=Ă (if(some X.env:Option Env).isSome=true then "dict" else "frame"),data:=Data.dict #[]}=H3;generalize Z:YF H3 scope.names=h₁;have hC3:H3.objs.size=↥s+2:=by rw[←L,ķ,hC]
 have G:∀b o,H3.get? b=some o->h₁.get? b=some o:=λb o e=>Z ▸ jJ _ _ _ _ e;have F:∀b o,H2.get? b=some o->h₁.get? b=some o:=λb o e=>G b o (L ▸ Ò _ e);have old:∀b o,s.heap.get? b=some o->h₁.get? b=some o:=λb o e=>F b o (R ▸ Ò _ e);have S:h₁.get? ↥s=some { cls:=.type "list",data:=.seq #[] 0 }:=F _ _ (R ▸ â _ rfl);have hns:h₁.Ns (↥s+1) λ_=>none:=by
  have z:=Heap.Ns.new H2 (Ă (if(some X.env:Option Env).isSome=true then "dict" else "frame"));rw[hC,L]at z;exact z.keeps G
 have hnc:∀x c,(x,c)∈cellsFrom (↥s+2) scope.names []->h₁.IsCell c none:=λx c e=>by
  rw[←hC3]at e;exact Z ▸ n8 _ _ _ _ e
 have Y:∀b∈a,∃o,s.heap.get? b=some o:=λb hb=>let⟨o,e,_⟩:=T.obj 0 _ st b hb;⟨o,e⟩
 have B:tn 0 h₁:=T.keep 0 _ _ st λb _ o e=>old b o e;have h:=Ek (own:=own) (tk:=s.toks) hk I U Y hns old S hnc;have C:∀s₃:Shared,s₃={ s with heap:=h₁,toks:=s.toks } ->
   Ye (model X.prog X.w) X.A (.compLoop (.ListComp elt [⟨tg,iter,ifs,0⟩] scope pos) 0 (.ref it) (.ref ↥s) (compEnvC scope (cellsFrom (↥s+2) scope.names (cR X.env.cells scope.names [])) (↥s+1) X.env))
    (RR (.ref ↥s) (↥s+1)) s₃:=by
  rintro s₃ rfl;have neD:∀b∈a,b≠↥s:=λb hb=>by
   let⟨o,e⟩:=Y b hb;exact é (Ï e)
  have y:∀{H':Hp}{o:Obj},(∀b∈a,H' b=none)->∀b∈a,nQ (X.aO own M scope ⟨cellsFrom (↥s+2) scope.names (cR X.env.cells scope.names []),↥s+1,s,H,a⟩) [(↥s,o)] H' b:=λ{H' o} hn b hb =>
   ⟨hn b hb,(h.ok.exf b hb).1,h.ok.exfs b hb,.inl hb,(h.ok.exf b hb).2,λp hp=>by
    have l:p=(↥s,o):=by simpa using hp
    subst l;exact ĝ (neD b hb)⟩
  refine Ib (λk s'=>∃i ys us n H',Inv (X.aO own M scope ⟨cellsFrom (↥s+2) scope.names (cR X.env.cells scope.names []),↥s+1,s,H,a⟩) [(↥s,{ cls:=.type "list",data:=.seq (us:List Value).toArray n })] (Ú ⇑own none++σ) H' s' /\
    Vals ys us/\⇑ys<=sizeLine/\tn i s'.heap/\(∀b∈a,H' b=none)/\W i k ys H') ?_ m0 ⟨0,[],[],0,H,h,.nil,Ğ _,B,λb hb=>(U b hb).1,w0⟩
  rintro k s3 ⟨i,ys,us,n,H3,I3,hv,hz,st3,P,w3⟩;rcases turn ⟨cellsFrom (↥s+2) scope.names (cR X.env.cells scope.names []),↥s+1,s,H,a⟩ i k ys H3 w3 with⟨stop,d⟩|⟨go,hlt,N,hN,step⟩
  ·refine thn (T.done (X.aO own M scope ⟨cellsFrom (↥s+2) scope.names (cR X.env.cells scope.names []),↥s+1,s,H,a⟩) rfl rfl rfl (hc _) i _ s3 _ H3 _ I3 (y P) st3 stop) λr s4 ⟨hr,I4⟩=>?_;subst hr;let⟨m',j,_⟩:=I4.loc;let⟨J4,hDn⟩:=Ej I U I4 (É.mpr rfl) hv hz;exact fin s4 m' ys H3 j I4.free hDn J4 d
  ·refine thn (T.item (X.aO own M scope ⟨cellsFrom (↥s+2) scope.names (cR X.env.cells scope.names []),↥s+1,s,H,a⟩) rfl rfl rfl (hc _) i _ s3 _ H3 _ I3 (y P) st3 go) λr s4 ⟨u,hr,h4⟩=>?_;subst hr;refine thn h4 λ_ s5 ⟨x,H5,I5,r5,y5,st5,fr5⟩=>?_;have I5':=I5.pinned (y fr5) (T.obj _ _ st5);refine thn (hg _ _ s5 _ H5 x u _ I5' r5 (step x H5 y5)) λ_ s6 ⟨σ6,H6,I6,q6⟩=>?_;refine thn (ht _ _ s6 σ6 H6 _ I6 q6) λb s7 ⟨H7,I7,q7⟩=>?_
   -- the turn's end: the iterator's records stand,the names are forgotten
   have O:∀x,(x,þ)∈scope.names->∃c,(cellsFrom (↥s+2) scope.names (cR X.env.cells scope.names [])).lookup x=some c/\X.env.cells.lookup x=some c:=λx hx=>by
    let⟨c,e⟩:=I.ok.has x ((hka _ hx).2.2 rfl).2;let⟨c',e'⟩:=Option.isSome_iff_exists.mp (jy (cells:=X.env.cells) (acc:=[]) hx);rcases nH e' with q|⟨_,q⟩
    ·simp at q
    ·rw[e]at q;exact⟨c',(Mz (Aj hk hx)).trans e',by rw[e,q];rfl⟩
   have f:∀{H':Hp}{σ':St}{s':Shared}{pn:List (Addr×Obj)},(∀p∈iZ a s5.heap,p∈pn)->Inv (X.aO own M scope ⟨cellsFrom (↥s+2) scope.names (cR X.env.cells scope.names []),↥s+1,s,H,a⟩) pn σ' H' s'->tn (i+1) s'.heap/\∀b∈a,H' b=none:=λ{H' σ' s' pn} hs I' =>
    ⟨T.keep _ _ _ st5 λb hb o e=>(I'.pin (b,o) (ã _ (hs _ (iw hb e)))).1,λb hb=>by
     let⟨o,e,_⟩:=T.obj _ _ st5 b hb;exact(I'.pin (b,o) (ã _ (hs _ (iw hb e)))).2.1⟩
   cases b with
   |false =>
    rw[em Î];rw[em Î]at q7;let⟨m',j,w7⟩:=hN _ _ q7;let⟨t7,f7⟩:=f (λp hp=>ã _ hp) I7;exact⟨m',j,i+1,ys,us,n,H7,uw hk I U O I7.lB,hv,hz,t7,f7,w7⟩
   |true =>
    rw[el rfl];rw[el rfl]at q7;refine thn (he _ _ s7 σ6 H7 _ I7 q7) λu8 s8 ⟨v8,H8,I8,r8,q8⟩=>?_;let⟨m',j,w8⟩:=hN _ _ q8;let⟨t8,f8⟩:=f (λp hp=>ã _ hp) I8;let⟨Q,nD8,lD8,fD8,_⟩:=I8.pin (↥s,{ cls:=.type "list",data:=.seq us.toArray n }) (ã _ (è _ (É.mpr rfl)));refine append_at (hsz:=by rw[Ù,←⇑hv];exact Nat.le_of_lt hlt) Q λh9 hs9 hD9=>?_;have J8:Inv (X.aO own M scope ⟨cellsFrom (↥s+2) scope.names (cR X.env.cells scope.names []),↥s+1,s,H,a⟩) (iZ a s5.heap) σ6 H8 s8:=I8.qL λp hp=>I8.pin p (ã _ (ã _ hp));have J9:Inv (X.aO own M scope ⟨cellsFrom (↥s+2) scope.names (cR X.env.cells scope.names []),↥s+1,s,H,a⟩) (iZ a s5.heap) σ6 H8 { s8 with heap:=h9 }:=J8.turned (t':=s8.toks) (it:=↥s) (λb o hb e=>(hs9.2 b hb).trans e) nD8 lD8 (.inr (Õ _))
     (λx c e z=>by
      let⟨v,o,ho,hd⟩:=J8.cell x c e;rw[z,Q]at ho;cases ho;cases hd)
     (λp hp=>by
      have l:p∈iZ a s5.heap:=by simpa using hp
      exact neD _ (vf l).1)
    let⟨t9,f9⟩:=f (λp hp=>hp) J9;have e9:h9.get? ↥s=some { cls:=.type "list",data:=.seq (us++[u8]).toArray (n+1)}:=by
     rw[hD9,List.push_toArray]
    have J9':Inv (X.aO own M scope ⟨cellsFrom (↥s+2) scope.names (cR X.env.cells scope.names []),↥s+1,s,H,a⟩) [(↥s,{ cls:=.type "list",data:=.seq (us++[u8]).toArray (n+1)})] σ6 H8 { s8 with heap:=h9 }:=J9.qL λp hp=>by
     have l:p=(↥s,{ cls:=.type "list",data:=.seq (us++[u8]).toArray (n+1)}):=by simpa using hp
     subst l;exact⟨e9,nD8,lD8,fD8,λv z=>nomatch z⟩
    exact⟨m',j,i+1,ys++[v8],us++[u8],n+1,H8,uw hk I U O J9',hv.append (.cons r8 .nil),by rw[Ð,í];exact hlt,t9,f9,w8⟩
 exact codeAny_compStart_list (C _ rfl) (T.self _ 0 _ _ _ B (C _ rfl))
def vJ{a:List (Addr×Obj)}{σ:St}{H:Hp}{s:Shared}(hk:aR X.env scope X.N M=true)(I:Inv X a σ H s):YE scope X.env=pure (cR X.env.cells scope.names []) :=
 El λx hx hf=>I.ok.has x.1 ((bV hk x hx).2.2 hf).2
def vI{a:List (Addr×Obj)}{σ:St}{H:Hp}{s d:Shared}{C:Addr}{h':Zg}{m:Str->Option Value}(I:Inv X a σ H d)(hs:X.s₀.heap.objs.size<=C)(h:C≠X.env.locals)(f:∀x c,X.env.cells.lookup x=some c->c≠C)(hp:∀p∈X.pn++a,p.1≠C)(hn:H C=none)(hb:Heap.SameBut C d.heap h'):Inv X a σ H { d with heap:=h' }:=I.turned (t':=d.toks) (λb o hb' e=>(hb.2 b hb').trans e) hn h (.inr hs) f hp
def J2(own M:List Str)(hc:X.calm=true)(hi:PI X tg iter wi)(hg:∀c,PG (X.aO own M scope c) tg (g c))(ht:∀c,PTs (X.aO own M scope c) ifs (tt c))(he:∀c,PE (X.aO own M scope c) elt (te c))(hk:aR X.env scope X.N M=true:=by rfl)(hs:∀x,Zx iter X.env x=pure x:=by intro _;rfl) :
  PE X (.ListComp elt [⟨tg,iter,ifs,0⟩] scope pos) (tLC ⇑own wi g tt te):=by
 intro a s σ H Q I h;rw[eval_ListComp];have n:=bV hk;refine YJ (use:=none) rfl hs (vJ hk I) (eE hk) (λx hx hl=>((n x hx).1 hl).2) (thn (hi a s σ H _ I h) λv s1 h1=>thn h1 λitv s2 h2=>?_);let⟨it,G,O,J,F,e,f,T,r,y,W,⟨K,B⟩,j⟩:=h2;subst e;refine vH (RR:=λacc C=>compPost (model X.prog X.w) X.A X.xe none (EP X a σ Q) acc C) (D:=λys H=>∀p,H p=none->Q (.ref p) (upd H p (.lst ys))) (λ_=>hc) hk hg ht he f T r y B j ?_;intro L t ys E q k l u d;have i:∀{b:Addr}{o:Obj},s2.heap.get? b=some o->b≠↥s2+1:=λe=>é (Ĉ (Ï e));refine⟨t,q,λh' hb=>⟨.ref ↥s2,_,vI (m:=t) (s:=s2) u (ą f.sz (Ņ _)) (ĝ (é (Ĉ f.lt))) (λx c e=>?_) (λp hp=>?_) ?_ hb,rfl,d _ l⟩⟩
 ·let⟨v,o,z,_⟩:=f.cell x c e;exact i z
 ·exact i (f.pin p hp).1
 ·rw[aj (Ĺ (ŀ _))];exact k
def N5{Cm:Cx->Prop}(own M:List Str){i:Nat}{y:Str}{r l:Pos}(hc:∀c,Cm (X.aO own M scope c))(hN:X.N.Nodup)(t:X.N[i]?=some y)(P:Loc X.env.scope y)(hi:PIG Cm X tg iter wi)(hg:∀c,PG (X.aO own M scope c) tg (g c))(ht:∀c,PTs (X.aO own M scope c) ifs (tt c))(he:∀c,PE (X.aO own M scope c) elt (te c))(O:ZO (.ListComp elt [⟨tg,iter,ifs,0⟩] scope pos) (some (.Name y r)) l.line X.env=pure true:=by rfl)(hk:aR X.env scope X.N M=true:=by rfl)(hs:∀x,Zx iter X.env x=pure x:=by intro _;rfl)(Y:X.fn y=true\/X.env.scope.names.lookup y=some .local:=by first|exact .inl rfl|exact .inr rfl|assumption) :
  PS X (.Assign [.Name y r] (.ListComp elt [⟨tg,iter,ifs,0⟩] scope pos) l) (ql (tLC ⇑own wi g tt te) (gG i)):=by
 intro f s σ H D I h;rw[exec_Assign_Name_used _ _ _ _ O];have G:=bV hk;refine Å (ZU (Å ?_));show wpAny _ X.A (do let _ ←comprehension (.ListComp elt [⟨tg,iter,ifs,0⟩] scope pos) scope X.env _ (YI []) false (Zv iter X.env) (some (ZP (.Name y r) X.env))) _ _ s;refine Å (ń (YJ (use:=some (ZP (.Name y r) X.env)) (Q:=λ_ u=>SP X f D .next u) rfl hs (vJ hk I) (eE hk) (λx P hl=>((G x P).1 hl).2)
  (thn (hi f s σ H _ I h) λv s1 h1=>thn h1 λitv s2 h2=>?_)) (λ_ u hq=>Ø (Ø hq)) λ_ _ e=>e)
 let⟨it,fp,tn,J,H2,e,q,T,R,V,W,⟨m0,Z⟩,z⟩:=h2;subst e;refine vH (RR:=λacc C=>compPost (model X.prog X.w) X.A X.xe (some (ZP (.Name y r) X.env)) (λ_ u=>SP X f D .next u) acc C) (D:=λys H=>∀p,H p=none->gG i (.ref p) σ (upd H p (.lst ys)) D.nx) hc hk hg ht he q T R V Z z ?_;intro u S ys H' K E F U d;have n:∀{b:Addr}{o:Obj},s2.heap.get? b=some o->b≠↥s2+1:=λe=>é (Ĉ (Ï e));show wpAny _ X.A (ZP (.Name y r) X.env (.ref ↥s2)) _ _ _;refine ZT (uV (v:=.ref ↥s2) U (λj h=>zU hN h t) t P rfl (λs'' J'' ⟨a,hsb,ha⟩=>?_) Y);have k:X.env.locals≠↥s2+1:=é (Ĉ q.lt);have B:↥s2+1≠a:=by
  rcases ha with ha|ha
  ·rw[ha];exact ĝ k
  ·let⟨v,o,L,_⟩:=q.cell _ _ ha;exact ĝ (n L)
 refine⟨S,K.sameBut hsb B,λh' hb=>⟨_,_,vI (m:=S) (s:=s2) J'' (ą q.sz (Ņ _)) (ĝ k) (λx c e=>?_) (λp hp=>?_) ?_ hb,d _ F⟩⟩
 ·let⟨v,o,L,_⟩:=q.cell x c e;exact n L
 ·exact n (q.pin p hp).1
 ·rw[aj (Ĺ (ŀ _))];exact E
def JT(own M:List Str){i:Nat}{y:Str}{e a:Pos}(hc:X.calm=true)(hN:X.N.Nodup)(b:X.N[i]?=some y)(h:Loc X.env.scope y)(hi:PI X tg iter wi)(hg:∀c,PG (X.aO own M scope c) tg (g c))(ht:∀c,PTs (X.aO own M scope c) ifs (tt c))(he:∀c,PE (X.aO own M scope c) elt (te c))(d:ZO (.ListComp elt [⟨tg,iter,ifs,0⟩] scope pos) (some (.Name y e)) a.line X.env=pure true:=by rfl)(hk:aR X.env scope X.N M=true:=by rfl)(hs:∀x,Zx iter X.env x=pure x:=by intro _;rfl)(f:X.fn y=true\/X.env.scope.names.lookup y=some .local:=by first|exact .inl rfl|exact .inr rfl|assumption) :
  PS X (.Assign [.Name y e] (.ListComp elt [⟨tg,iter,ifs,0⟩] scope pos) a) (ql (tLC ⇑own wi g tt te) (gG i)):=N5 own M (λ_=>hc) hN b h hi hg ht he d hk hs f
def Vo(own:List Str)(hc:X.calm=true)(hi:PI X tg iter wi)(hg:∀c,PG (X.comp own scope c) tg (g c))(ht:∀c,PTs (X.comp own scope c) ifs (tt c))(he:∀c,PE (X.comp own scope c) elt (te c))(hk:fB X.env scope X.N=true:=by rfl)(hs:∀x,Zx iter X.env x=pure x:=by intro _;rfl) :
  PE X (.ListComp elt [⟨tg,iter,ifs,0⟩] scope pos) (tLC ⇑own wi g tt te):=J2 own X.N hc hi hg ht he (Ba hk) hs
def Qy(own:List Str){i:Nat}{y:Str}{e a:Pos}(hc:X.calm=true)(hN:X.N.Nodup)(b:X.N[i]?=some y)(h:Loc X.env.scope y)(hi:PI X tg iter wi)(hg:∀c,PG (X.comp own scope c) tg (g c))(ht:∀c,PTs (X.comp own scope c) ifs (tt c))(he:∀c,PE (X.comp own scope c) elt (te c))(d:ZO (.ListComp elt [⟨tg,iter,ifs,0⟩] scope pos) (some (.Name y e)) a.line X.env=pure true:=by rfl)(hk:fB X.env scope X.N=true:=by rfl)(hs:∀x,Zx iter X.env x=pure x:=by intro _;rfl)(f:X.fn y=true\/X.env.scope.names.lookup y=some .local:=by first|exact .inl rfl|exact .inr rfl|assumption) :
  PS X (.Assign [.Name y e] (.ListComp elt [⟨tg,iter,ifs,0⟩] scope pos) a) (ql (tLC ⇑own wi g tt te) (gG i)):=JT own X.N hc hN b h hi hg ht he d (Ba hk) hs f
end
section
variable{X:Cx}{tg:Zt}{K:á}{g:CB->TG}{tt:CB->TT}{te:CB->TE}{σ:St}{H:Hp}{Q:VK}{n:Nat}
def Xu(K:á)(b:TE):TI:=λσ H R=>b σ H λx H1=>∃a,x=.ref a/\(((∃xs,SqL K H1 a xs)/\R (Itl K a) H1)\/((∃xs,SqT K H1 a xs)/\R (Itt K a) H1))
def R8{l:Zt}{i:TE}(hl:PE X l i):PI X tg l (Xu X.K i):=by
 intro c s σ H R I h;refine thn (hl c s σ H _ I h) λv s1 ⟨x,H1,I1,r1,f⟩=>?_;let⟨a,e,f⟩:=f;subst e;cases r1;rcases f with⟨⟨xs,d⟩,q⟩|⟨⟨xs,d⟩,q⟩
 ·let⟨its,k,p,j⟩:=I1.list d;refine YK p.isList ?_;refine⟨↥s1,[↥s1],_,_,H1,rfl,I1.kept (t':=s1.toks) λb o e=>Ò _ e,GQ a _,⟨_,â _ rfl,rfl,rfl⟩,λb hb=>?_,q⟩;have e:b=↥s1:=by simpa using hb
  subst e;exact I1.Ak (Õ _) (I1.hok.fresh (Õ _))
 ·let⟨its,k,p,j⟩:=I1.tuple d;refine ś (show s1.heap.IsTuple a its.toArray from p) ?_;refine⟨↥s1,[↥s1],_,_,H1,rfl,I1.kept (t':=s1.toks) λb o e=>Ò _ e,Bv a _,⟨_,â _ rfl,rfl,rfl⟩,λb hb=>?_,q⟩;have e:b=↥s1:=by simpa using hb
  subst e;exact I1.Ak (Õ _) (I1.hok.fresh (Õ _))
end
end L2
namespace NfSort
open PySem PySem.W PyProof.Rows
def kwp{α:Type}(n:Nat)(key:Nat->Int):KasT α->(α->Prop)->Prop
 |.ret a,Q=>Q a
 |.ask i j k,Q=>i<n/\j<n/\kwp n key (k (decide (key i<key j))) Q
theorem bQ{α:Type}{n:Nat}{key:Nat->Int}{Q b:α->Prop}(h:∀a,Q a->b a):∀{t:KasT α},kwp n key t Q->kwp n key t b
 |.ret a,q=>h a q
 |.ask _ _ k,q=>⟨q.1,q.2.1,bQ h q.2.2⟩
theorem fu{α β:Type}{n:Nat}{key:Nat->Int}{f:α->KasT β}{Q:β->Prop}:∀{t:KasT α},kwp n key t (λa=>kwp n key (f a) Q)->kwp n key (t.bind f) Q
 |.ret a,q=>q
 |.ask _ _ k,q=>⟨q.1,q.2.1,fu q.2.2⟩
theorem xP{α:Type}{n:Nat}{key:Nat->Int}{b:Nat->Nat->(Bool->Shared->Prop)->Shared->Prop}{s:Shared}{G:α->Shared->Prop}(hc:∀i j C,i<n->j<n->C (decide (key i<key j)) s->b i j C s) :
  ∀{t:KasT α},kwp n key t (λa=>G a s)->t.kasWp b G s
 |.ret _,q=>q
 |.ask i j k,q=>hc i j _ q.1 q.2.1 (xP hc q.2.2)
section
variable{n:Nat}{key:Nat->Int}{p:Array Nat}
def Pm(n:Nat)(p:Array Nat):Prop:=p.Perm (Þ n).toArray
def kk(key:Nat->Int)(p:Array Nat)(i:Nat):Int:=key (p.getD i 0)
def Pm.size(h:Pm n p):p.size=n:=by
 have:=Array.Perm.size_eq h;simpa using this
def getD_eq(p:Array Nat)(i:Nat):p.getD i 0=(p[i]?).getD 0:=by
 by_cases h:i<p.size <;> simp[Array.getD,h]
def Pm.lt(h:Pm n p){i:Nat}(hi:i<n):p.getD i 0<n:=by
 have hs:=h.size;have a:i<p.size:=()
 have hm:p[i]∈p.toList:=by
  have:=Array.getElem_mem a;simpa using this
 have hp:p.toList.Perm (Þ n):=by
  have:=Array.perm_iff_toList_perm.mp h;simpa using this
 have e:p.getD i 0=p[i]:=by simp[Array.getD,a]
 rw[e];exact Ď.mp (hp.mem_iff.mp hm)
def Pm.rev(h:Pm n p)(i j:Nat):Pm n (YL p i j):=Array.Perm.trans (mirror_perm _ _ _ _) h
def Pm.bub(h:Pm n p)(i j:Nat):Pm n (bubble p i j):=Array.Perm.trans (bubble_perm _ _ _) h
def xR(h:Pm n p){i j:Nat}(a:j<=n)(t:Nat):kk key (YL p i j) t=if i<=t/\t<j then kk key p (i+j - 1 - t)else kk key p t:=by
 unfold kk YL;rw[getD_eq,getElem?_mirror_all (by rw[h.size];exact a)];split
 ·rw[getD_eq]
 ·rw[getD_eq]
def Tv(h:Pm n p){k l:Nat}(hk:k<n)(hl:l<=k)(t:Nat):kk key (bubble p k (k - l)) t=if t=l then kk key p k else if l<t/\t<=k then kk key p (t - 1)else kk key p t:=by
 unfold kk;rw[getD_eq,getElem?_bubble (by rw[h.size];exact hk) _ ()];have e:k - (k - l)=l:=()
 rw[e];split
 ·rw[getD_eq]
 ·split
  ·rw[getD_eq]
  ·rw[getD_eq]
def Up(key:Nat->Int)(p:Array Nat)(m:Nat):Prop:=∀i j,i<=j->j<m->kk key p i<=kk key p j
def Dn(key:Nat->Int)(p:Array Nat)(m:Nat):Prop:=∀i j,i<=j->j<m->kk key p j<=kk key p i
def Rn(key:Nat->Int)(p:Array Nat)(m q:Nat):Prop:=q+1<=m/\∀t,m<=t+q+1->t<m->kk key p t=kk key p (m - 1)
def Up.more{a:Nat}(h:Up key p a)(h1:1<=a)(c:kk key p (a - 1)<=kk key p a):Up key p (a+1):=λi j hij hj=>by
 by_cases b:j<a
 ·exact h i j hij b
 ·obtain rfl:j=a:=()
  by_cases hi:i=j
  ·subst hi;exact ņ _
  ·exact Int.le_trans (h i (j - 1) () ()) c
def Dn.more{a:Nat}(h:Dn key p a)(h1:1<=a)(c:kk key p a<=kk key p (a - 1)):Dn key p (a+1):=λi j hij hj=>by
 by_cases b:j<a
 ·exact h i j hij b
 ·obtain rfl:j=a:=()
  by_cases hi:i=j
  ·subst hi;exact ņ _
  ·exact Int.le_trans c (h i (j - 1) () ())
theorem Eo(hp:Pm n p):∀(f a:Nat),1<=a->a+f<=n->Up key p a->kwp n key (kas_asc p f a) (λm=>a<=m/\m<=a+f/\Up key p m/\(m<a+f->kk key p m<kk key p (m - 1)))
 |0,a,h1,hf,hu=>⟨Õ _,Õ _,hu,λh=>er h ()⟩
 |f+1,a,h1,hf,hu=>by
  refine⟨hp.lt (),hp.lt (),?_⟩;by_cases hc:key (p.getD a 0)<key (p.getD (a - 1) 0)
  ·(rw[decide_eq_true hc];dsimp only;rw[el rfl])
   exact⟨Õ _,(),hu,λ_=>hc⟩
  ·(rw[eg hc];dsimp only;rw[em Î])
   refine bQ (λm ⟨a1,a2,a3,a4⟩=>⟨(),(),a3,λh=>a4 ()⟩) (Eo hp f (a+1) () () (hu.more h1 (Int.not_lt.mp hc)))
def Ft(hp:Pm n p){a q:Nat}(ha:a<=n)(hr:Rn key p a q)(t:Nat):kk key (YL p (a - (q+1)) a) t=kk key p t:=by
 rw[xR hp ha];split
 ·rename_i h;rw[hr.2 t () h.2];exact hr.2 _ (by have:=hr.1;lia) ()
 ·rfl
def Dn.eq{c:Array Nat}{m:Nat}(h:Dn key p m)(e:∀t,kk key c t=kk key p t):Dn key c m:=λi j a b=>by rw[e,e];exact h i j a b
theorem Gu:∀(f:Nat)(p:Array Nat)(a q:Nat),Pm n p->1<=a->a+f<=n->Dn key p a->Rn key p a q ->
  kwp n key (kas_desc f p a q) (λr=>Pm n r.1/\a<=r.2.1/\r.2.1<=a+f/\Dn key r.1 r.2.1/\Rn key r.1 r.2.1 r.2.2)
 |0,p,a,q,hp,h1,hf,hd,hr=>⟨hp,Õ _,Õ _,hd,hr⟩
 |f+1,p,a,q,hp,h1,hf,hd,hr=>by
  refine⟨hp.lt (),hp.lt (),?_⟩;have b:∀{p':Array Nat}{q':Nat},Pm n p'->Dn key p' (a+1)->Rn key p' (a+1) q'->kwp n key (kas_desc f p' (a+1) q') (λr=>Pm n r.1/\a<=r.2.1/\r.2.1<=a+(f+1)/\Dn key r.1 r.2.1/\Rn key r.1 r.2.1 r.2.2):=λx y z =>
   bQ (λr ⟨a1,a2,a3,a4,a5⟩=>⟨a1,(),(),a4,a5⟩) (Gu f _ (a+1) _ x () () y z)
  have g:∀p':Array Nat,Rn key p' (a+1) 0:=λp'=>⟨(),λt h1 h2=>by
   have e:t=a+1 - 1:=()
   rw[e]⟩
  by_cases hc:key (p.getD a 0)<key (p.getD (a - 1) 0)
  ·(rw[decide_eq_true hc];dsimp only;rw[el rfl])
   have d:kk key p a<kk key p (a - 1):=hc;by_cases h:q > 0
   ·rw[el h];have e:=Ft (key:=key) hp () hr;exact b (hp.rev _ _) ((hd.more h1 (Int.le_of_lt d)).eq e) (g _)
   ·rw[em h];exact b hp (hd.more h1 (Int.le_of_lt d)) (g _)
  ·(rw[eg hc];dsimp only;rw[em Î])
   refine⟨hp.lt (),hp.lt (),?_⟩;by_cases c:key (p.getD (a - 1) 0)<key (p.getD a 0)
   ·(rw[decide_eq_true c];dsimp only;rw[el rfl])
    exact⟨hp,Õ _,(by show a<=a+(f+1);lia),hd,hr⟩
   ·(rw[eg c];dsimp only;rw[em Î])
    have e:kk key p a=kk key p (a - 1):=Int.le_antisymm (Int.not_lt.mp c) (Int.not_lt.mp hc);refine b hp (hd.more h1 (Int.le_of_eq e)) ⟨by have:=hr.1;lia,λt t1 t2=>?_⟩;show _=kk key p a;by_cases ht:t=a
    ·rw[ht]
    ·rw[e];exact hr.2 t () ()
def yN{a:Nat}(hp:Pm n p)(h1:1<=a)(ha:a<=n)(hd:Dn key p a):kwp n key (kas_tail3 a n p) (λr=>Pm n r.2/\1<=r.1/\r.1<=n/\Up key r.2 r.1):=by
 unfold kas_tail3;have hu:Up key (YL p 0 a) a:=λi j hij hj=>by
  rw[xR hp ha,xR hp ha,el ⟨(),()⟩,el ⟨(),hj⟩];exact hd _ _ () ()
 refine fu (bQ (λm ⟨a1,a2,a3,_⟩=>?_) (Eo (hp.rev 0 a) (n - a) a h1 () hu));exact⟨hp.rev 0 a,(),(),a3⟩
def qd{a:Nat}(hp:Pm n p)(ha:a+1<=n)(hd:Dn key p (a+1)):kwp n key (kas_descPart a n p) (λr=>Pm n r.2/\1<=r.1/\r.1<=n/\Up key r.2 r.1):=by
 unfold kas_descPart;refine fu (bQ (λr ⟨a1,a2,a3,a4,a5⟩=>?_) (Gu (n - (a+1)) p (a+1) 0 hp () () hd ⟨(),λt h1 h2=>by
  have e:t=a+1 - 1:=()
  rw[e]⟩))
 split
 ·exact yN (a1.rev _ _) () () (a4.eq (Ft a1 () a5))
 ·exact yN a1 () () a4
def Mw(hp:Pm n p)(h1:1<=n):kwp n key (YM n p) (λr=>Pm n r.2/\1<=r.1/\r.1<=n/\Up key r.2 r.1):=by
 unfold YM;have d:Up key p 1:=λi j hij hj=>by
  have e:i=j:=()
  rw[e];exact ņ _
 refine fu (bQ (λm ⟨a1,a2,a3,a4⟩=>?_) (Eo hp (n - 1) 1 (Õ _) () d));by_cases hm:m=n
 ·rw[el (by simpa using hm)];exact⟨hp,(),(),a3⟩
 ·rw[em (by simpa using hm)];have b:=a4 ();by_cases c:m > 1
  ·rw[el c];refine⟨hp.lt (),hp.lt (),?_⟩;by_cases hc:key (p.getD 0 0)<key (p.getD (m - 1) 0)
   ·(rw[decide_eq_true hc];dsimp only;rw[el rfl])
    exact⟨hp,(),(),a3⟩
   ·(rw[eg hc];dsimp only;rw[em Î])
    have a:∀t,t<m->kk key p t=kk key p 0:=λt ht=>by
     have f:=a3 0 t () ht;have g:=a3 t (m - 1) () ();have k:kk key p (m - 1)<=kk key p 0:=Int.not_lt.mp hc;lia
    have e:∀t,kk key (YL p 0 m) t=kk key p t:=λt=>by
     rw[xR hp ()];split
     ·rename_i h;rw[a t h.2,a _ ()]
     ·rfl
    refine qd (hp.rev 0 m) () (Dn.eq (p:=p) (Dn.more (λi j hij hj=>?_) () (Int.le_of_lt b)) e);rw[a i (),a j hj];exact ņ _
  ·rw[em c];obtain rfl:m=1:=()
   refine qd hp () (Dn.more (λi j hij hj=>?_) () (Int.le_of_lt b));have e:i=j:=()
   rw[e];exact ņ _
theorem rQ{k:Nat}(hp:Pm n p)(hk:k<n)(hu:Up key p k):∀(f l r:Nat),l<=r->r<=k->r<=l+f->(∀t,t<l->kk key p t<=kk key p k)->(∀t,r<=t->t<k->kk key p k<kk key p t) ->
  kwp n key (kas_place p k f l r) (λl'=>l'<=k/\(∀t,t<l'->kk key p t<=kk key p k)/\(∀t,l'<=t->t<k->kk key p k<kk key p t))
 |0,l,r,h1,h2,h3,h4,h5=>⟨(),h4,λt a b=>h5 t () b⟩
 |f+1,l,r,h1,h2,h3,h4,h5=>by
  unfold kas_place;by_cases d:l≥r
  ·rw[el d];exact⟨(),h4,λt a b=>h5 t () b⟩
  ·rw[em d];have hm:(l+r) / 2<r:=()
   refine⟨hp.lt hk,hp.lt (),?_⟩;by_cases hc:key (p.getD k 0)<key (p.getD ((l+r) / 2) 0)
   ·(rw[decide_eq_true hc];dsimp only;rw[el rfl])
    have c:kk key p k<kk key p ((l+r) / 2):=hc;exact rQ hp hk hu f l _ () () () h4 λt a b=>Int.lt_of_lt_of_le c (hu _ t a b)
   ·(rw[eg hc];dsimp only;rw[em Î])
    have c:kk key p ((l+r) / 2)<=kk key p k:=Int.not_lt.mp hc;exact rQ hp hk hu f _ r () () () (λt a=>Int.le_trans (hu t _ () ()) c) h5
theorem MK:∀(f:Nat)(p:Array Nat)(k:Nat),Pm n p->k+f<=n->Up key p k->kwp n key (kas_bin f p k) (λp'=>Pm n p'/\Up key p' (k+f))
 |0,p,k,hp,hk,hu=>⟨hp,hu⟩
 |f+1,p,k,hp,hk,hu=>by
  unfold kas_bin;refine fu (bQ (λl ⟨a1,a2,a3⟩=>?_) (rQ hp () hu k 0 k (Ğ _) (Õ _) () (λt h=>er h ()) (λt h1 h2=>er h1 ())));have e:=Tv (key:=key) hp (k:=k) () a1;have d:Up key (bubble p k (k - l)) (k+1):=λi j hij hj=>by
   rw[e,e];by_cases hi:i=l
   ·rw[el hi];by_cases a:j=l
    ·rw[el a];exact ņ _
    ·rw[em a,el ⟨(),()⟩];exact Int.le_of_lt (a3 _ () ())
   ·rw[em hi];by_cases b:l<i/\i<=k
    ·rw[el b,em (),el ⟨(),()⟩];exact hu _ _ () ()
    ·rw[em b];by_cases a:j=l
     ·rw[el a];exact a2 i ()
     ·rw[em a];by_cases c:l<j/\j<=k
      ·rw[el c];exact hu _ _ () ()
      ·rw[em c];exact hu _ _ hij ()
  refine bQ (λp' ⟨b1,b2⟩=>⟨b1,?_⟩) (MK f _ (k+1) (hp.bub _ _) () d);have g:k+(f+1)=k+1+f:=()
  rw[g];exact b2
def Ny(h1:1<=n):kwp n key (kas_sort n) (λp=>Pm n p/\Up key p n):=by
 unfold kas_sort;refine fu (bQ (λr ⟨a1,a2,a3,a4⟩=>?_) (Mw (p:=(Þ n).toArray) (Array.Perm.refl _) h1));have e:max r.1 1=r.1:=()
 rw[e];split
 ·refine bQ (λp' ⟨b1,b2⟩=>⟨b1,?_⟩) (MK (n - r.1) r.2 r.1 a1 () a4);have a:r.1+(n - r.1)=n:=()
  rw[a]at b2;exact b2
 ·have a:r.1=n:=()
  rw[a]at a4;exact⟨a1,a4⟩
end
end NfSort
namespace L2
open PySem PySem.Spec PyProof.Rows
section
variable{prog:Za}{w:Zb}{A:Zr}{E:eB}{s:Shared}
section
variable{X:Cx}{pos:Pos}
def Xy(K:á)(n:Nat)(t:TGs):TG:=λv σ H Q=>∃a xs,v=.ref a/\SqL K H a xs/\⇑xs=n/\t xs σ H Q
end
section
variable{X:Cx}
def yx:bC X (.builtin "isinstance") (λxs H Q=>∃x c t b,xs=[x,.ty c]/\TyOf X.K H x t/\W.kitOne X.K t (.type c)=some b/\Q (.bl b) H):=by
 intro a s σ H xs us Q I r h;let⟨x,c,t,b,rfl,ty,e,q⟩:=h;let⟨u,g,rfl,f,d⟩:=vals2 r;cases d;exact HB I f ty e λtk=>⟨.bl b,H,I.tok _,rfl,q⟩
def zA:OpR X (ZI .IsNot) (λx y H Q=>∃a b,x=.bl a/\y=.bl b/\Q (.bl (!decide (a=b))) H):=by
 intro c s σ H x y v u Q I d e h;let⟨a,b,rfl,rfl,q⟩:=h;cases d;cases e;refine Ø ?_;refine⟨.bl (!decide (a=b)),H,I,?_,q⟩;cases a <;> cases b <;> rfl
theorem v9:∀{a:List Bool}{us:List Value},Vals (a.map V.bl) us->us=a.map Ž
 |[],_,h=>by cases h;rfl
 |b::a,_,h=>by
  cases h with
  |cons r t =>
   cases r;rw[v9 t];rfl
def all_range(a:List Bool):(Þ ⇑a).all (λi=>a.getD i true)=a.all id:=by
 rw[ĥ];simp only[Ħ,Ď];constructor
 ·intro h x b;let⟨i,hi,e⟩:=š.mp b;have q:=h i hi;simp[hi]at q;rw[←e];exact q
 ·intro h i hi;have q:=h a[i] (į hi);simpa[hi]using q
def Ip(hc:X.calm=true):bC X (.builtin "all") (λxs H Q=>∃(p:Addr)(a:List Bool),xs=[.ref p]/\SqL X.K H p (a.map V.bl)/\Q (.bl (a.all id)) H):=by
 intro j s σ H xs us Q I r h;let⟨p,a,rfl,hp,q⟩:=h;let⟨u,rfl,t⟩:=vals1 r;cases t;let⟨its,n,g,w⟩:=I.list hp;have e:=v9 n;subst e;have f:p≠↥s:=by let⟨o,m,_⟩:=g.isList;exact é (Ï m)
 refine call_all_walk (YK g.isList ?_);refine⟨_,_,_,_,_,_,λi=>a.getD i true,rfl,Walks.list (A:=X.A.in1) (I.ok.hd hc) _ p f _,⟨⟨_,â _ rfl,rfl,rfl⟩,g.isList.push _⟩,?_,λh' tk hk=>?_⟩
 ·intro i v s Q E k l;have c:(a.map Ž)[i]?=some v:=by simpa using k
  rw[à]at c;cases hb:a[i]? with
  |none=>rw[hb]at c;cases c
  |some b =>
   rw[hb]at c;cases c;refine ĸ ?_;have e:a.getD i true=b:=by rw[ö,hb];rfl
   have d:Q (a.getD i true) s:=l;rw[e]at d;exact d
 ·have e:(Þ (a.map Ž).toArray.size).all (λi=>a.getD i true)=a.all id:=by
   rw[Ù,Ä];exact all_range a
  rw[e];refine⟨.bl (a.all id),H,I.kept λb o eb=>hk b o ?_ (Ò _ eb),rfl,q⟩;intro hm;have:b=↥s:=by simpa using hm
  exact er (Ï eb) (by rw[this];exact Ą _)
def Ih(hc:X.calm=true):bC X (.builtin "min") (λxs H Q=>∃p a b,xs=[.ref p]/\SqT X.K H p [.int a,.int b]/\Q (.int (if b<a then b else a)) H):=by
 intro n s σ H xs us Q I r h;let⟨p,a,b,rfl,hp,q⟩:=h;let⟨u,rfl,y⟩:=vals1 r;cases y;let⟨its,x,t,B⟩:=I.tuple hp;let⟨C,D,rfl,⟨f,rfl⟩,⟨t2,rfl⟩⟩:=vals2 x;have m:s.heap.IsTuple p (YN #[(a,f),(b,t2)]):=by
  have z:s.heap.IsTuple p #[Ň a f,Ň b t2]:=t;simpa[YN]using z
 have k:p<↥s:=by let⟨o,w,_⟩:=t;exact Ï w
 refine call_min_walk (ś m ?_);refine⟨_,[↥s,p],[↥s],_,_,_,_,rfl,Walks.tuple (A:=X.A.in1) (I.ok.hd hc) _ p (é k) (YN #[(a,f),(b,t2)]),⟨⟨_,â _ rfl,rfl,rfl⟩,m.push _⟩,λc hc=>?_,by simp[YN],
  CmpOf.ints_lt (YO #[(a,f),(b,t2)]) (λ_ _=>YQ),λv h' tk hP hk=>?_⟩
 ·show c<(s.heap.push _).objs.size;rw[ķ];rcases Û.mp hc with rfl|hc
  ·exact ŀ _
  ·have:c=p:=by simpa using hc
   rw[this];exact Ĉ k
 ·have hv:v=if b<a then Ň b t2 else Ň a f:=by
   have g:(YN #[(a,f),(b,t2)])[YR (λi j=>decide (YO #[(a,f),(b,t2)] i<YO #[(a,f),(b,t2)] j)) 1]?=some v:=by
    have l:(YN #[(a,f),(b,t2)]).size - 1=1:=by simp[YN]
    rw[←l];exact hP
   by_cases d:b<a
   ·have e:YR (λi j=>decide (YO #[(a,f),(b,t2)] i<YO #[(a,f),(b,t2)] j)) 1=1:=by simp[YR,YO,d]
    rw[e]at g;simpa[YN,d]using g.symm
   ·have e:YR (λi j=>decide (YO #[(a,f),(b,t2)] i<YO #[(a,f),(b,t2)] j)) 1=0:=by simp[YR,YO,d]
    rw[e]at g;simpa[YN,d]using g.symm
  subst hv;refine⟨.int (if b<a then b else a),H,I.kept λb o eb=>hk b o ?_ (Ò _ eb),?_,q⟩
  ·intro hm;have:b=↥s:=by simpa using hm
   exact er (Ï eb) (by rw[this];exact Ą _)
  ·by_cases d:b<a
   ·rw[el d,el d];exact⟨_,rfl⟩
   ·rw[em d,em d];exact⟨_,rfl⟩
def Ij(hc:X.calm=true):bC X (.builtin "max") (λxs H Q=>∃p a b,xs=[.ref p]/\SqT X.K H p [.int a,.int b]/\Q (.int (if b > a then b else a)) H):=by
 intro n s σ H xs us Q I r h;let⟨p,a,b,rfl,hp,q⟩:=h;let⟨u,rfl,y⟩:=vals1 r;cases y;let⟨its,x,t,B⟩:=I.tuple hp;let⟨C,D,rfl,⟨f,rfl⟩,⟨t2,rfl⟩⟩:=vals2 x;have m:s.heap.IsTuple p (YN #[(a,f),(b,t2)]):=by
  have z:s.heap.IsTuple p #[Ň a f,Ň b t2]:=t;simpa[YN]using z
 have k:p<↥s:=by let⟨o,w,_⟩:=t;exact Ï w
 refine call_max_walk (ś m ?_);refine⟨_,[↥s,p],[↥s],_,_,_,_,rfl,Walks.tuple (A:=X.A.in1) (I.ok.hd hc) _ p (é k) (YN #[(a,f),(b,t2)]),⟨⟨_,â _ rfl,rfl,rfl⟩,m.push _⟩,λc hc=>?_,by simp[YN],
  CmpOf.ints_gt (YO #[(a,f),(b,t2)]) (λ_ _=>YQ),λv h' tk hP hk=>?_⟩
 ·show c<(s.heap.push _).objs.size;rw[ķ];rcases Û.mp hc with rfl|hc
  ·exact ŀ _
  ·have:c=p:=by simpa using hc
   rw[this];exact Ĉ k
 ·have hv:v=if b > a then Ň b t2 else Ň a f:=by
   have g:(YN #[(a,f),(b,t2)])[YR (λi j=>decide (YO #[(a,f),(b,t2)] i > YO #[(a,f),(b,t2)] j)) 1]?=some v:=by
    have l:(YN #[(a,f),(b,t2)]).size - 1=1:=by simp[YN]
    rw[←l];exact hP
   by_cases d:b > a
   ·have e:YR (λi j=>decide (YO #[(a,f),(b,t2)] i > YO #[(a,f),(b,t2)] j)) 1=1:=by simp[YR,YO,d]
    rw[e]at g;simpa[YN,d]using g.symm
   ·have e:YR (λi j=>decide (YO #[(a,f),(b,t2)] i > YO #[(a,f),(b,t2)] j)) 1=0:=by simp[YR,YO,d]
    rw[e]at g;simpa[YN,d]using g.symm
  subst hv;refine⟨.int (if b > a then b else a),H,I.kept λb o eb=>hk b o ?_ (Ò _ eb),?_,q⟩
  ·intro hm;have:b=↥s:=by simpa using hm
   exact er (Ï eb) (by rw[this];exact Ą _)
  ·by_cases d:b > a
   ·rw[el d,el d];exact⟨_,rfl⟩
   ·rw[em d,em d];exact⟨_,rfl⟩
def TY{prog:Za}{w:Zb}{A:Zr}{E:eB}{s:Shared}{l:Addr}{n:Nat}{x:Int}{t:Tok}{u:Value}{Q:eB}{its:List Value}(b:s.heap.get? l=some { cls:=.type "list",data:=.seq its.toArray n })(a:¬(!Builtin.List.listFitsIndex x)=true)(hsz:its.toArray.size<=sizeLine)(h:Q .none { s with heap:=s.heap.update l (ó λxs=>(xs.extract 0 (if x<0 then(x+(xs.size:Int)).toNat else min x.toNat xs.size)).push u++xs.extract (if x<0 then(x+(xs.size:Int)).toNat else min x.toNat xs.size)),toks:=s.toks }) :
  wpAny (model prog w) A (Z6 (.builtin "list.insert") [.ref l,.int x t,u]) Q E s:=by
 generalize its.toArray=c at b hsz;exact YC PySem.F.slot_list_insert ⟨_,b,rfl⟩ PySem.F.entry_list_insert (PySem.F.args_list_insert_3 _ _ _) (PySem.AutoSeq1.list_insert_list_int_val_1 l c n x t u a hsz) ⟨b,h⟩
def Fw:V->List V->Hp->VK->Prop:=λx vs H Q=>∃l xs k y,x=.ref l/\vs=[.int (k:Nat),y]/\H l=some (.lst xs)/\k<=⇑xs/\⇑xs<sizeLine/\Q .non (upd H l (.lst (xs.take k++y::xs.drop k)))
def Ho:MtM X "list.insert" Fw:=by
 intro f s σ H x vs v us Q I A w h;let⟨l,xs,k,y,rfl,rfl,d,hk,C,q⟩:=h;cases A;let⟨D,u,rfl,⟨t,rfl⟩,p⟩:=w.two;let⟨z,its,n,r,hl,e⟩:=I.Dq d;have j:(sizeLine:Nat)=16777216:=ü;have a:¬(!Builtin.List.listFitsIndex (k:Int))=true:=by
  have m:decide (-(2 ^ 63:Int)<=(k:Int))=true:=decide_eq_true ();have o:decide ((k:Int)<2 ^ 63)=true:=decide_eq_true ();unfold Builtin.List.listFitsIndex;rw[m,o];exact Î
 have hsz:its.toArray.size<=sizeLine:=by
  have g:its.toArray.size=⇑xs:=(Ù ..).trans hl.symm;rw[g];exact z
 have b:¬((k:Int)<0):=()
 have c:(k:Int).toNat=k:=Ĵ k;generalize B:(k:Int)=x at a b c;refine TY (its:=its) e a hsz ?_;refine⟨.non,_,I.Tr (its':=its.take k++u::its.drop k) d e ?_ ?_ ?_,rfl,q⟩
 ·have hm:min k ⇑its=k:=()
  have i:=W.kl_ins_eq its k u;simp only[b,if_false,c,Ù,hm];exact i
 ·exact(r.take k).append (.cons p (r.drop k))
 ·rw[Ð,ÿ,ć,ť];lia
end
abbrev Tie:=Int×Int
def Pr(H:Hp)(v:V)(t:Tie):Prop:=∃p,v=.ref p/\H p=some (.tup [.int t.1,.int t.2])
abbrev Prs(H:Hp):List V->List Tie->Prop:=Paired (Pr H)
def aV(t:Tie):Int:=64 * t.1+t.2
def Bq(t:Tie):Prop:=0<=t.2/\t.2<64
def jD(h:Zg)(u:Value)(t:Tie):Prop:=∃a o t1 t2 n,u=.ref a/\h.get? a=some o/\o.cls=.type "tuple"/\o.data=.seq #[.int t.1 t1,.int t.2 t2] n
def jD.keep{h h':Zg}{u:Value}{t:Tie}(x:jD h u t)(k:∀a o,h.get? a=some o->o.cls=.type "tuple"->h'.get? a=some o):jD h' u t:=by
 let⟨a,o,c,t2,n,e,b,hc,hd⟩:=x;exact⟨a,o,c,t2,n,e,k a o b hc,hc,hd⟩
def Vl{α β:Type}{F:α->β->Prop}{l₁:List α}{l₂:List β}(h:Paired F l₁ l₂):∀{i:Nat}{b:β},l₂[i]?=some b->∃a,l₁[i]?=some a/\F a b:=by
 induction h with
 |nil=>intro i x e;simp at e
 |cons r t ih =>
  intro i x e;cases i with
  |zero=>simp at e;subst e;exact⟨_,rfl,r⟩
  |succ i =>
   let⟨c,d,f⟩:=ih (by simpa using e);exact⟨c,by simpa using d,f⟩
theorem JV{α β:Type}{F:α->β->Prop}{l₁:List α}{l₂:List β}(h:Paired F l₁ l₂)(c:α)(d:β):∀(p:List Nat),(∀i∈p,i<⇑l₂)->Paired F (p.map λi=>l₁.getD i c) (p.map λi=>l₂.getD i d)
 |[],_=>.nil
 |i::p,hp=>by
  have hi:i<⇑l₂:=hp i Ó;let⟨a,e,f⟩:=Vl h (i:=i) (b:=l₂[i]) (by simp[hi]);refine .cons ?_ (JV h c d p λj hj=>hp j (Í _ hj));have g:l₁.getD i c=a:=by rw[ö,e];rfl
  have k:l₂.getD i d=l₂[i]:=by simp[hi]
  show F (l₁.getD i c) (l₂.getD i d);rw[g,k];exact f
theorem Va{α:Type}:∀us:List α,List.map (λx=>x.snd) (us.zip us)=us
 |[]=>rfl
 |u::us=>by rw[List.zip_cons_cons,ò,Va us]
def jm{α:Type}(l:List α)(d:α):(Þ ⇑l).map (λi=>l.getD i d)=l:=by
 apply List.ext_getElem
 ·simp
 ·intro i h1 h2;simp at h1 ⊢;simp[h1]
section
variable{X:Cx}{pins:List (Addr×Obj)}{σ:St}{H:Hp}{s:Shared}
theorem Inv.pairs(I:Inv X pins σ H s):∀{vs:List V}{b:List Tie}{us:List Value},Prs H vs b->Vals vs us->Paired (jD s.heap) us b
 |_,_,_,.nil,r=>by cases r;exact .nil
 |_,_,_,.cons p q,r=>by
  cases r with
  |cons r rr =>
   refine .cons ?_ (I.pairs q rr);let⟨a,rfl,e⟩:=p;cases r;let⟨_,its,d,⟨o,c,hc,n,hd⟩⟩:=I.hok a _ e;let⟨g,h,rfl,⟨f,rfl⟩,⟨t2,rfl⟩⟩:=vals2 d;exact⟨a,o,f,t2,n,rfl,c,hc,hd⟩
end
def KN{x y:Value}{a b:Tie}{Q:Bool->Shared->Prop}(r:jD s.heap x a)(t:jD s.heap y b)(k:Bq a)(l:Bq b)(h:Q (decide (aV a<aV b)) s):wpAny (model prog w) A (keyLt' (YS true) x y) Q E s:=by
 let⟨p,o,C,t2,n,rfl,q,hc,hd⟩:=r;let⟨B,o',u,v,z,rfl,g,m,f⟩:=t;let⟨c,d⟩:=a;let⟨b1,b2⟩:=b;unfold Bq at k l;simp only at k l;refine W.kat_lt q hd g f ?_;refine W.kat_cons (Zm ?_);by_cases i:c=b1
 ·subst i;rw[ew];refine W.kat_yes (W.kat_cons (Zm ?_));by_cases j:d=b2
  ·subst j;rw[ew];refine W.kat_yes (W.kat_nil ?_);have e:decide (aV (c,d)<aV (c,d))=false:=eg (Int.lt_irrefl _);rw[e]at h;exact h
  ·rw[beq_eq_false_iff_ne.mpr j];refine W.kat_no (W.kat_one _ _ (lt_int ?_));have e:decide (aV (c,d)<aV (c,b2))=decide (d<b2):=by
    apply decide_eq_decide.mpr;unfold aV;lia
   rw[e]at h;exact h
 ·rw[beq_eq_false_iff_ne.mpr i];refine W.kat_no (oneLt_int ?_);have e:decide (aV (c,d)<aV (b1,b2))=decide (c<b1):=by
   apply decide_eq_decide.mpr;unfold aV;simp only;constructor
   ·intro h;lia
   ·intro h;lia
  rw[e]at h;exact h
theorem K7:∀{us:List Value}{d:List Tie},Paired (jD s.heap) us d->∃fs,W.KatTups s.heap us fs/\⇑fs=⇑us/\∀v∈fs,∃i t,v=Ň i t
 |_,_,.nil=>⟨[],.nil,rfl,λ_ h=>nomatch h⟩
 |_,_,.cons p q=>by
  let⟨a,o,c,t2,n,rfl,b,hc,hd⟩:=p;let⟨fs,k,hl,hv⟩:=K7 q;refine⟨_::fs,.cons b hc hd (f:=Ň _ c) rfl k,by simp[hl],λv hv'=>?_⟩;rcases Û.mp hv' with rfl|h
  ·exact⟨_,_,rfl⟩
  ·exact hv v h
def Uv{n:Nat}{key:Nat->Int}{p:Array Nat}(hp:NfSort.Pm n p)(h1:1<=n)(hs:NfSort.Up key p n):NfSort.kwp n key (W.kas_count n p) (λr=>r.1=n/\r.2=p):=by
 unfold W.kas_count;have b:∀(f a:Nat),1<=a->a+f=n->NfSort.kwp n key (W.kas_asc p f a) (λm=>m=n):=by
  intro f;induction f with
  |zero=>intro a _ h;exact h
  |succ f ih =>
   intro a ha h;refine⟨hp.lt (),hp.lt (),?_⟩;have hc:¬key (p.getD a 0)<key (p.getD (a - 1) 0):=Int.not_lt.mpr (hs (a - 1) a () ());rw[eg hc];exact ih (a+1) () ()
 refine NfSort.fu (NfSort.bQ (λm e=>?_) (b (n - 1) 1 (Õ _) ()));rw[el (by simpa using e)];exact⟨e,rfl⟩
open PySem.W in
def NK{prog:Za}{w:Zb}{A:Zr}{E:eB}{κ:SortKind}{it:Array Keyed}{n:Nat}{Q:Unit->SortSt->Shared->Prop}{G:Array Nat->Shared->Prop}{s:Shared}(h2:2<=n)(f:minRun' n n 0<=n)(d:∀p' st' s',p'.size=n->arrOf st'=p'.map (kas_item it)->failedOf st'=none->G p' s'->Q .unit st' s')(h:(YM n (ş (Þ n))).kasWp (kas_cmp prog w A κ it) (λr s'=>r.1=n/\G r.2 s') s) :
  kasC (model prog w) A E sortRuns' Q (YT κ it (ş (Þ n))) s:=by
 obtain⟨r,rfl⟩:∃r,n=r+2:=⟨n - 2,()⟩
 have a:(ş (Þ (r+2))).size=r+2:=by simp
 rw[sortRuns'_eq];refine YU (YV ?_);dsimp only;have hsz:(arrOf (YT κ it (ş (Þ (r+2))))).size=r+2:=by
  show((ş (Þ (r+2))).map (kas_item it)).size=_;rw[Array.size_map,a]
 simp only[hsz];refine YU (kasC_range ?_);show kasC _ _ _ (forIn (0::1::List.range' 2 r) _ _) _ _ _;refine YW ?_;dsimp only;rw[em ()];simp only[Nat.sub_zero,Nat.zero_add];refine YU (kas_count_ () (by rw[a];exact Õ _) (λm p' s' hm1 hm2 hp hg=>?_) h);have b:p'.size=r+2:=hp.trans a;let⟨e,hg⟩:=hg;have c:m=r+2:=e;subst c;dsimp only;rw[em ()];refine YU (YV ?_);rw[show(YX (YT κ it p')).back?=none from rfl];dsimp only;refine YU (kasC_modify (YY ?_));show kasC _ _ _ (forIn (1::List.range' 2 r) _ _) _ _ _;refine YW ?_;dsimp only;rw[el (Õ _)];refine YY ?_;dsimp only;refine YU (kasC_range ?_);show kasC _ _ _ (forIn (0::1::List.range' 2 r) _ _) _ _ _;refine YW ?_;refine YU (YV ?_);rw[el (show(YX (setPending (YT κ it p') ((YX (YT κ it p')).push (0,r+2,0)))).size<=1 from Õ 1)];refine YY ?_;dsimp only;exact YY (d p' _ _ b rfl rfl hg)
def Srt(a:List Tie):Prop:=⇑a<64\/⇑a=300/\∀i j,i<=j->j<⇑a->aV (a.getD i (0,0))<=aV (a.getD j (0,0))
theorem Srt.lt{a:List Tie}:Srt a->⇑a<512
 |.inl h=>()
 |.inr h=>()
def G4{a:Addr}{us:List Value}{c:List Tie}{n:Nat}{P:PySem.Fin->Shared->Prop}(K:s.heap.get? a=some (YZ "list" us.toArray n))(hp:Paired (jD s.heap) us c)(hn:∀t∈c,Bq t)(d:Srt c)(h:∀p:List Nat,p.Perm (Þ ⇑us)->(∀i j,i<=j->j<⇑us->aV (c.getD (p.getD i 0) (0,0))<=aV (c.getD (p.getD j 0) (0,0))) ->
   P (.done (.ret .none)) { s with heap:=sortedHeap s.heap a us (p.map λi=>us.getD i İ).toArray }) :
  wpAny (model prog w) A (Builtin.«list.sort» ⟨[.ref a],[]⟩) P E s:=by
 have I:=⇑hp;have hbig:=d.lt;have h24:=ü;rw[list_sort_plain];have ha:a<↥s:=Ï K;refine Å (Y0 K rfl ?_);refine Å (Y1 K rfl ?_ (by rw[Ù,ü];lia) (Ğ _));obtain⟨B,L⟩:∃B,(s.heap.update a (ó λ_=>(#[]:Array Value))).get? a=some (YZ "list" #[] B):=⟨_,Y2 K (λ_=>#[])⟩
 refine Å (Y3 L rfl ?_);refine Å (Y4 ?_ (by show ⇑us<=_;rw[ü];lia));refine Å (Y5 ?_ (Ğ _));refine Ē ?_;have l:(((s.heap.update a (ó λ_=>(#[]:Array Value))).push (YZ "tuple" us.toArray 0)).push (YZ "list" #[] 0)).get? a=some (YZ "list" #[] B):=by
  rw[Ŷ _ _ _ (by rw[Y6,œ];exact é (Ĉ ha)),Ŷ _ _ _ (by rw[œ];exact é ha)];exact L
 have R:∀b o,s.heap.get? b=some o->o.cls=.type "tuple"->(((s.heap.update a (ó λ_=>(#[]:Array Value))).push (YZ "tuple" us.toArray 0)).push (YZ "list" #[] 0)).get? b=some o:=λb o q hc=>by
  have J:b<↥s:=Ï q;have Y:b≠a:=λz=>by
   rw[z,K]at q;cases q;have z2:(Ă "list")=Ă "tuple":=hc;injection z2 with z3
   exact er z3 ∅
  rw[Ŷ _ _ _ (by rw[Y6,œ];exact é (Ĉ J)),Ŷ _ _ _ (by rw[œ];exact é J),Heap.get?_update_ne _ _ _ _ Y];exact q
 show wpAny (model prog w) A _ P E { s with heap:=((s.heap.update a (ó λ_=>(#[]:Array Value))).push (YZ "tuple" us.toArray 0)).push (YZ "list" #[] 0)};dsimp only;have hsz:us.toArray.size=⇑us:=by simp
 have N:Paired (jD (((s.heap.update a (ó λ_=>(#[]:Array Value))).push (YZ "tuple" us.toArray 0)).push (YZ "list" #[] 0))) us c:=Paired.Hr hp λu t x=>x.keep R;by_cases h2:us.toArray.size<2
 ·rw[el h2,el h2];refine Å (Ø ?_);rw[StateT.run_pure];refine Å (Ø ?_);dsimp only;have F:(arrOf (SortSt.mk' general' (us.toArray.zip us.toArray) #[] 7 none)).map (·.2)=((Þ ⇑us).map λi=>us.getD i İ).toArray:=by
   rw[jm];show(us.toArray.zip us.toArray).map (·.2)=us.toArray;apply Array.toList_inj.mp;simp;exact Va us
  rw[F];refine Å (Y3 l rfl ?_);refine Å (Y1 l rfl ?_ (Ğ _) (by rw[Ù,Ä,č,ü];lia));simp only[bne_self_eq_false,ī,if_false];refine Ø (h _ (List.Perm.refl _) λi j hij hj=>?_);have:i=j:=()
  subst this;exact ņ _
 ·rw[em h2,em h2];have H:2<=⇑us:=()
  let⟨fs,hk,hfl,X⟩:=K7 (s:={ s with heap:=((s.heap.update a (ó λ_=>(#[]:Array Value))).push (YZ "tuple" us.toArray 0)).push (YZ "list" #[] 0)}) N;refine Å (W.kat_kind (T:=.type "int") hk () (λv hv=>by let⟨i,t,rfl⟩:=X v hv;exact W.Looks.of_pure rfl) rfl ?_);have m:∀i j C,i<⇑us->j<⇑us->C (decide (aV (c.getD i (0,0))<aV (c.getD j (0,0)))) { s with heap:=((s.heap.update a (ó λ_=>(#[]:Array Value))).push (YZ "tuple" us.toArray 0)).push (YZ "list" #[] 0)} ->
    W.kas_cmp prog w A (YS true) (us.toArray.zip us.toArray) i j C { s with heap:=((s.heap.update a (ó λ_=>(#[]:Array Value))).push (YZ "tuple" us.toArray 0)).push (YZ "list" #[] 0)}:=λi j C hi hj hC=>by
   unfold W.kas_cmp;rw[W.kat_item rfl,W.kat_item rfl];have key:∀k,k<⇑us->jD (((s.heap.update a (ó λ_=>(#[]:Array Value))).push (YZ "tuple" us.toArray 0)).push (YZ "list" #[] 0)) (us.getD k İ) (c.getD k (0,0))/\Bq (c.getD k (0,0)):=λk hk=>by
    have y:k<⇑c:=()
    have ek:c.getD k (0,0)=c[k]:=by simp[y]
    let⟨u,eu,pu⟩:=Vl N (i:=k) (b:=c[k]) (by simp[y]);have U:us.getD k İ=u:=by rw[ö,eu];rfl
    rw[ek,U];exact⟨pu,hn _ (į y)⟩
   exact KN (key i hi).1 (key j hj).1 (key i hi).2 (key j hj).2 hC
  have G:W.kasC (model prog w) A E sortRuns' (λ_ f g=>∃p:Array Nat,g={ s with heap:=((s.heap.update a (ó λ_=>(#[]:Array Value))).push (YZ "tuple" us.toArray 0)).push (YZ "list" #[] 0)}/\arrOf f=p.map (W.kas_item (us.toArray.zip us.toArray))/\failedOf f=none/\NfSort.Pm ⇑us p/\NfSort.Up (λi=>aV (c.getD i (0,0))) p ⇑us) (W.kas_st (YS true) (us.toArray.zip us.toArray) (ş (Þ ⇑us))) { s with heap:=((s.heap.update a (ó λ_=>(#[]:Array Value))).push (YZ "tuple" us.toArray 0)).push (YZ "list" #[] 0)}:=by
   rcases d with d|⟨d,hs⟩
   ·exact W.kas_runs (G:=λp g=>g={ s with heap:=((s.heap.update a (ó λ_=>(#[]:Array Value))).push (YZ "tuple" us.toArray 0)).push (YZ "list" #[] 0)}/\NfSort.Pm ⇑us p/\NfSort.Up (λi=>aV (c.getD i (0,0))) p ⇑us) H () (λp' f g a1 a2 a3 a4=>⟨p',a4.1,a2,a3,a4.2⟩)
     (NfSort.xP m (NfSort.bQ (λp hp=>⟨rfl,hp⟩) (NfSort.Ny ())))
   ·have hu:NfSort.Up (λi=>aV (c.getD i (0,0))) (ş (Þ ⇑us)) ⇑us:=λi j hij hj=>by
     unfold NfSort.kk;have D:∀k,k<⇑us->(ş (Þ ⇑us)).getD k 0=k:=λk hk=>by simp[Array.getD,hk]
     rw[D i (),D j hj];exact hs i j hij ()
    exact NK (G:=λp g=>g={ s with heap:=((s.heap.update a (ó λ_=>(#[]:Array Value))).push (YZ "tuple" us.toArray 0)).push (YZ "list" #[] 0)}/\NfSort.Pm ⇑us p/\NfSort.Up (λi=>aV (c.getD i (0,0))) p ⇑us) H (by rw[I,d];decide +kernel) (λp' f g a1 a2 a3 a4=>⟨p',a4.1,a2,a3,a4.2⟩)
     (NfSort.xP (G:=λr g=>r.1=⇑us/\g={ s with heap:=((s.heap.update a (ó λ_=>(#[]:Array Value))).push (YZ "tuple" us.toArray 0)).push (YZ "list" #[] 0)}/\NfSort.Pm ⇑us r.2/\NfSort.Up (λi=>aV (c.getD i (0,0))) r.2 ⇑us) m (NfSort.bQ (λr ⟨B,e2⟩=>⟨B,rfl,by rw[e2];exact⟨Array.Perm.refl _,hu⟩⟩) (Uv (Array.Perm.refl _) () hu)))
  have S:SortSt.mk' (YS true) (us.toArray.zip us.toArray) #[] 7 none=W.kas_st (YS true) (us.toArray.zip us.toArray) (ş (Þ ⇑us)):=by
   have e:=W.kas_range (us.toArray.zip us.toArray);rw[show(us.toArray.zip us.toArray).size=⇑us by simp]at e;show SortSt.mk' (YS true) (us.toArray.zip us.toArray) #[] 7 none=SortSt.mk' (YS true) ((ş (Þ ⇑us)).map (W.kas_item (us.toArray.zip us.toArray))) #[] 7 none;rw[e]
  have eT:YS (Ă "int" != Ă "tuple")=YS true:=rfl;rw[eT,S];refine Å (ń G ?_ λ_ _ e=>e);rintro⟨⟨⟩,f⟩ g ⟨p,rfl,V,hf,O,Z⟩;dsimp only;have M:=W.kat_snds (ks:=us) (vs:=us) rfl V;rw[M];have Q:p.size=⇑us:=O.size;refine Å (Y3 l rfl ?_);refine Å (Y1 l rfl ?_ (Ğ _) (by rw[Ù,Ä,đ,Q,ü];lia));rw[hf];simp only[bne_self_eq_false,ī,if_false];refine Ø (h p.toList ?_ λi j hij hj=>?_)
  ·have:=Array.perm_iff_toList_perm.mp O;simpa using this
  ·have q:=Z i j hij hj;unfold NfSort.kk at q;have D:∀k,p.toList.getD k 0=p.getD k 0:=λk=>by
    rw[NfSort.getD_eq,ö];simp
   rw[D,D];exact q
def ux{l:Addr}{vs:List Value}{Q:List Value->Shared->Prop}(hl:IsTup s.heap l vs.toArray)(h:Q vs { s with heap:=(s.heap.push (YZ "list" #[] 0)).update ↥s (ó (·++vs.toArray))})(hsz:⇑vs<=sizeLine) :
  wpAny (model prog w) A (Y7 (.ref l)) Q E s:=by
 let⟨o,b,hc,n,hd⟩:=id hl;unfold Y7;refine Å (Y8 (Y9 Xs ?_));show wpAny _ _ (do again (.builtin "list.__iadd__" ⟨[←YI [],.ref l],[]⟩)) _ _ s;refine Å (Y5 (Ø ⟨Code.quiet_builtin _ ⋯,Y9 XA ?_⟩));show wpAny _ _ (Ĥ (.ref ↥s) (.ref l) (.ref ↥s)) _ _ { s with heap:=s.heap.push (YZ "list" #[] 0)};unfold Ĥ;have a:(s.heap.push (YZ "list" #[] 0)).get? l=some o:=Ò _ b;refine Å (Yq (T:="tuple") ⟨o,a,hc⟩ ?_);have ht:(Ă "tuple"==Ă "tuple")=true:=by rfl
 rw[el (by rw[ht];simp)];refine Å (Y0 a hd ?_);refine Å (Y0 (xs:=#[]) (n:=0) (â _ rfl) rfl ?_);rw[em (by simp)];refine Å (Y1 (xs:=#[]) (n:=0) (â _ rfl) rfl ?_ (Ğ _) (by show(#[]++vs.toArray).size<=sizeLine+1;simp only[Array.size_append,Ù,List.length_nil];lia));refine Ø ?_;show wpAny (model prog w) A (do
   let o ←load ↥s
   match o.data with
   |.seq xs _=>pure xs.toList
   |_=>unsupported "internal:collect") Q E { s with heap:=(s.heap.push (YZ "list" #[] 0)).update ↥s (ó (·++vs.toArray))}
 refine Å (Z0 (Y2 (â _ rfl) _) ?_);show wpAny _ _ (pure ((#[]:Array Value)++vs.toArray).toList) Q E _;rw[show((#[]:Array Value)++vs.toArray).toList=vs by simp];exact Ø h
def wz{l:Addr}{us:List Value}{k:List Tie}{Q:eB}(hl:s.heap.IsList l us.toArray\/IsTup s.heap l us.toArray)(hp:Paired (jD s.heap) us k)(hn:∀t∈k,Bq t)(d:Srt k)(h:∀p:List Nat,p.Perm (Þ ⇑us)->(∀i j,i<=j->j<⇑us->aV (k.getD (p.getD i 0) (0,0))<=aV (k.getD (p.getD j 0) (0,0))) ->
   Q (.ref (↥s+1)) { s with heap:=sortedAll s.heap us (p.map λi=>us.getD i İ).toArray }) :
  wpAny (model prog w) A (Z6 (.builtin "sorted") [.ref l]) Q E s:=by
 have y:=ü;have r:=⇑hp;have n:=d.lt;refine Calls.call_function_entry kind_sorted plain_sorted entry_sorted (args_sorted1 _) ?_;unfold Builtin.«sorted»;refine Å (m:=checkCount "sorted" 1 1 _) (Ø ?_);have hsz:((s.heap.push (YZ "list" #[] 0)).update ↥s (ó (·++us.toArray))).objs.size=↥s+1:=by
  rw[œ,Y6]
 have f:(((s.heap.push (YZ "list" #[] 0)).update ↥s (ó (·++us.toArray))).push (YZ "list" us.toArray 0)).get? (↥s+1)=some (YZ "list" us.toArray 0):=by
  rw[←hsz];exact â _ rfl
 have g:∀b o,s.heap.get? b=some o->(((s.heap.push (YZ "list" #[] 0)).update ↥s (ó (·++us.toArray))).push (YZ "list" us.toArray 0)).get? b=some o:=λb o q=>by
  have c:b<↥s:=Ï q;rw[Ŷ _ _ _ (by rw[hsz];exact é (Ĉ c)),Heap.get?_update_ne _ _ _ _ (é c),Ŷ _ _ _ (é c)];exact q
 have v:∀{Q':List Value->Shared->Prop},Q' us { s with heap:=(s.heap.push (YZ "list" #[] 0)).update ↥s (ó (·++us.toArray))}->wpAny (model prog w) A.in1 (Y7 (.ref l)) Q' (λe s'=>E e s') s:=λ{Q'} hq=>by
  rcases hl with hl|hl
  ·exact collect_list hl hq ()
  ·exact ux hl hq ()
 refine Å (v ?_);refine Å (Y5 ?_ ());show wpAny _ _ _ _ _ { s with heap:=((s.heap.push (YZ "list" #[] 0)).update ↥s (ó (·++us.toArray))).push (YZ "list" us.toArray 0)};rw[hsz];refine Å (Ē (ĳ XB ⟨_,f,rfl⟩ XE (G4 f (Paired.Hr hp λu t x=>x.keep λa o e _=>g a o e) hn d λp a1 a2=>⟨_,rfl,?_⟩) (XG _)));exact Ø ⟨_,rfl,h p a1 a2⟩
end
section
variable{X:Cx}
def yU{c:List Tie}{p:List Nat}(hp:p.Perm (Þ ⇑c))(h:∀i j,i<=j->j<⇑c->aV (c.getD (p.getD i 0) (0,0))<=aV (c.getD (p.getD j 0) (0,0))) :
  (p.map λi=>c.getD i (0,0)).Perm c/\(p.map λi=>c.getD i (0,0)).Pairwise (λa b=>aV a<=aV b):=by
 refine⟨?_,?_⟩
 ·have q:=hp.map λi=>c.getD i (0,0);rw[jm]at q;exact q
 ·have hl:⇑p=⇑c:=by simpa using hp.length_eq
  rw[List.pairwise_iff_getElem];intro i j hi d g;rw[Ä]at hi d;have q:=h i j () ();have e:p.getD i 0=p[i]:=by simp[hi]
  have f:p.getD j 0=p[j]:=by simp[d]
  rw[e,f]at q;simpa using q
def yt:bC X (.builtin "sorted") (λxs H Q=>∃(p:Addr)(vs:List V)(c:List Tie),xs=[.ref p]/\(SqL X.K H p vs\/SqT X.K H p vs)/\Prs H vs c/\(∀t∈c,Bq t)/\Srt c /\
  ∀l ws us,H l=none->Prs H ws us->us.Perm c->us.Pairwise (λa b=>aV a<=aV b)->Q (.ref l) (upd H l (.lst ws))):=by
 intro v s σ H xs us Q I r h;let⟨p,vs,c,rfl,hp,f,hn,m,q⟩:=h;let⟨u,rfl,M⟩:=vals1 r;cases M;have F:=ü;have k:∀its:List Value,Vals vs its->(s.heap.IsList p its.toArray\/IsTup s.heap p its.toArray)->wpAny (model X.prog X.w) X.A (Z6 (.builtin "sorted") [.ref p]) (EP X v σ Q) X.xe s:=λits g hl=>by
  have y:=I.pairs f g;have E:=⇑f;have x:=⇑g;have D:=m.lt;refine wz hl y hn m λpp hpp hord=>?_;have j:⇑its=⇑c:=()
  rw[j]at hpp hord;let⟨d,z⟩:=yU hpp hord;have n:∀i∈pp,i<⇑c:=λi hi=>Ď.mp (hpp.mem_iff.mp hi);have J:=JV f V.non (0,0) pp n;have B:Vals (pp.map λi=>vs.getD i V.non) (pp.map λi=>its.getD i İ):=JV g V.non İ pp λi hi=>by have:=n i hi;lia
  let⟨e,he⟩:=sortedAll_at s.heap its (pp.map λi=>its.getD i İ).toArray;refine⟨.ref (↥s+1),upd H (↥s+1) (.lst (pp.map λi=>vs.getD i V.non)),I.laid (t':=s.toks) (λb o eb=>XI eb) (Ņ _) ?_,rfl,q _ _ _ (I.hok.fresh (Ņ _)) J d z⟩;refine⟨?_,_,e,B,he⟩;have G:⇑pp=⇑c:=by simpa using hpp.length_eq
  rw[Ä];lia
 rcases hp with hp|hp
 ·let⟨its,g,C,L⟩:=I.list hp;exact k its g (.inl C.isList)
 ·let⟨its,g,C,L⟩:=I.tuple hp;exact k its g (.inr C)
def pD(t:Tie):XN:=.tuple [.int t.1,.int t.2]
inductive DatV(K:á)(H:Hp):V->XN->Prop
 |lst {a:Addr}{vs:List V}{ts:List Tie}:SqL K H a vs->Prs H vs ts->DatV K H (.ref a) (.list (ts.map pD))
 |tup {a:Addr}{vs:List V}{ts:List Tie}:SqT K H a vs->Prs H vs ts->DatV K H (.ref a) (.tuple (ts.map pD))
 |web {a b:Addr}{n:Int}{vs:List V}{ts:List Tie}:SqT K H a [.int n,.ref b]->SqT K H b vs->Prs H vs ts->DatV K H (.ref a) (.tuple [.int n,.tuple (ts.map pD)])
end
end L2
namespace L2
open PySem PySem.Spec PyProof.Rows HT
section
variable{prog:Za}{w:Zb}{A:Zr}{E:eB}{s:Shared}
end
section
variable{X:Cx}{e:Zt}{te:TE}{p1 p2 p3 pos:Pos}
end
end L2
namespace PySem
open Sem (wp)
open AutoSeq1 (wpAny_loadPart')
def jj(l:Addr)(items:Array Value)(n:Nat)(dct:Option Addr)(f:Array (Option Value)) :
  Meets (Builtin.«enumerate.__new__» ⟨[.type "enumerate",.ref l],[]⟩) (λ_ R s=>s.heap.get? l=some { cls:=.type "tuple",dict:=dct,data:=.seq items n,slots:=f } /\
   R (.ok (.ret (.ref (s.heap.push { cls:=.type "tuple_iterator",data:=.fields #[.ref l,.int 0 0]}).objs.size)))
    { s with heap:=(s.heap.push { cls:=.type "tuple_iterator",data:=.fields #[.ref l,.int 0 0]}).push { cls:=.type "enumerate",data:=.fields #[.none,.bool false,.ref ↥s,Z2 0,.none,.none]}}) :=
 .of_wp λprog w A R s h=>by
  let⟨hp,g,d,tk,e⟩:=s;let⟨hl,h⟩:=h;have b:=sub_enumerate;have a:Heap.IsTuple (Shared.heap ⟨hp,g,d,tk,e⟩) l items:=⟨_,hl,rfl,n,rfl⟩
  wp_walk using XO hl
  refine wpAny_stack_any λst=>Ø ?_;split
  ·rename_i c _ _ _ _ _;cases (c==Ă "enumerate")
   ·wp_walk using XO hl,ś a
    exact⟨_,rfl,h⟩
   ·wp_walk using XO hl,ś a
    exact⟨_,rfl,h⟩
  ·wp_walk using XO hl,ś a
   exact⟨_,rfl,h⟩
section
variable{prog:Za}{w:Zb}{A:Zr}{E:eB}{s:Shared}
def jA{l:Addr}{items:Array Value}{Q:eB}(e:s.heap.IsTuple l items)(h:∀h',IsEnum h' (↥s+1) ↥s 0 .none->h'.IsTupleIter ↥s l 0->h'.objs.size=↥s+2 ->
   (∀b o,s.heap.get? b=some o->h'.get? b=some o)->Q (.ref (↥s+1)) { s with heap:=h' }) :
  wpAny (model prog w) A (Z6 (.type "enumerate") [.ref l]) Q E s:=by
 let⟨⟨c,dct,d,f⟩,hl,hc,n,hd⟩:=e;replace hc:c=.type "tuple":=hc;replace hd:d=.seq items n:=hd;subst hc hd;refine callType_new F.called_enumerate ∅ (F.typeCall_enumerate_1 _) (F.newCall_enumerate_1 _) (λobj=>F.args_object_init_2 obj _) F.entry_enumerate_new
  (jj l items n dct f) ⟨hl,?_⟩
 have a:(s.heap.push { cls:=.type "tuple_iterator",data:=.fields #[.ref l,.int 0 0]}).objs.size=↥s+1:=ķ ..;show _/\_;rw[a];have he:IsEnum ((s.heap.push { cls:=.type "tuple_iterator",data:=.fields #[.ref l,.int 0 0]}).push
   { cls:=.type "enumerate",data:=.fields #[.none,.bool false,.ref ↥s,Z2 0,.none,.none]}) (↥s+1) ↥s 0 .none:=by
  have:=â (s.heap.push { cls:=.type "tuple_iterator",data:=.fields #[.ref l,.int 0 0]})
   (o:={ cls:=.type "enumerate",data:=.fields #[.none,.bool false,.ref ↥s,Z2 0,.none,.none]}) rfl
  rw[a]at this;exact this
 refine⟨⟨_,he,rfl⟩,h _ he ⟨_,Ò _ (â _ rfl),rfl,rfl⟩ (by rw[ķ,a]) λb o x=>Ò _ (Ò _ x)⟩
def mD{it l:Addr}{i:Nat}{items}{x:Value}{Q:eB}(a:s.heap.IsTupleIter it l i)(hl:s.heap.IsTuple l items)(f:items[i]?=some x)(e:∀h',h'.IsTupleIter it l (i+1)->Heap.SameBut it s.heap h'->Q x { s with heap:=h' }) :
  wpAny (model prog w) A (Ĝ (.ref it)) Q E s:=by
 let⟨o,b,hc,hd⟩:=id a;let⟨h,d,_,g,c⟩:=hl;unfold Ĝ;refine Å (ļ (name:=ū "__next__") a.typeIs Ŕ
  (ĳ Ŕ a.typeIs PyProof.Rows.entry_tupleiter_next ?_ (PyProof.Rows.args_tupleiter_next _)))
 show wpAny _ _ (XT (.ref it) 0 >>=_) _ _ s;refine Å (Ť b hd (x:=.ref l) rfl ?_);show wpAny _ _ (if(Ě l==İ)=true then _ else _) _ _ s;rw[em (show ¬((Ě l==İ)=true)from Î)];show wpAny _ _ (XT (.ref it) 1 >>=_) _ _ s;refine Å (Ť b hd (x:=.int i 0) rfl ?_);show wpAny _ _ (seqItems? (.ref l) >>=_) _ _ s;refine Å (XU d c ?_);simp only[Ĵ,f];refine Å (XV b hd (by simp) (Ø ⟨x,rfl,Ø (e _ ?_ (Heap.SameBut.update ..))⟩));exact⟨_,Ľ _ b (Obj.isFreed_of_fields (Obj.data_mapFields hd _)),(Obj.cls_mapFields ..).trans hc,by
  rw[Obj.data_mapFields hd];simp[Z2]⟩
def gb{it l:Addr}{i:Nat}{items}{Q:eB}(hh:A.handled=none)(b:s.heap.IsTupleIter it l i)(hl:s.heap.IsTuple l items)(h:items[i]?=none)(g:∀h' e,Heap.ExtBut it s.heap h'->(∃o,h'.get? e=some o/\o.cls=.type "StopIteration")->E (.ref e) { s with heap:=h' }) :
  wpAny (model prog w) A (Ĝ (.ref it)) Q E s:=by
 let⟨o,d,hc,hd⟩:=id b;let⟨k,f,_,j,c⟩:=hl;unfold Ĝ;refine Å (ļ (name:=ū "__next__") b.typeIs Ŕ
  (ĳ Ŕ b.typeIs PyProof.Rows.entry_tupleiter_next ?_ (PyProof.Rows.args_tupleiter_next _)))
 show wpAny _ _ (XT (.ref it) 0 >>=_) _ _ s;refine Å (Ť d hd (x:=.ref l) rfl ?_);show wpAny _ _ (if(Ě l==İ)=true then _ else _) _ _ s;rw[em (show ¬((Ě l==İ)=true)from Î)];show wpAny _ _ (XT (.ref it) 1 >>=_) _ _ s;refine Å (Ť d hd (x:=.int i 0) rfl ?_);show wpAny _ _ (seqItems? (.ref l) >>=_) _ _ s;refine Å (XU f c ?_);simp only[Ĵ,h];refine Å (wpAny_rule (Å (XV d hd (by simp) ?_)));show wpAny _ _ (newExc (.type "StopIteration") [] >>=_) _ _ _;refine Å ?_;simp only[newExc,newTuple];refine Å (Ő ?_ (by size_fits));refine Å (m:=XW _ _) (wpAny_of_eq (a:=İ) (by first|rfl|(simp only[XW];rfl)) ?_);refine Ő ?_ (by size_fits);simp only[raiseNew];refine Å (wpAny_handled ?_)
 first|rw[show A.in1.handled=none from hh]|rw[hh]
 refine Å (Ø (wpAny_throw ?_));exact g _ _ (((Heap.SameBut.update ..).extBut.push _).push _) ⟨_,â _ rfl,rfl⟩
end
def Draws.tuple{prog:Za}{w:Zb}{A:Zr}(hh:A.handled=none)(it l:Addr)(hne:l≠it)(items:Array Value) :
  Draws prog w A it [it,l] items.size (λi v=>items[i]?=some v) (λi h=>h.IsTupleIter it l i/\h.IsTuple l items) where
 live:=λ_ _ st=>let⟨o,ho,_⟩:=st.1;⟨o,ho⟩
 frame:=λ_ _ _ st hk=>⟨let⟨o,ho,r⟩:=st.1;⟨o,hk it (by simp) o ho,r⟩,let⟨o,ho,r⟩:=st.2;⟨o,hk l (by simp) o ho,r⟩⟩
 item:=λi s Q E hi st hQ=>by
  refine mD st.1 st.2 (x:=items[i]) (by simp[hi]) λh' hit' hs'=>?_;exact hQ _ h' s.toks (by simp[hi]) ⟨hit',st.2.extBut hs'.extBut hne⟩ hs'
 done:=λs Q E st hE=>gb hh st.1 st.2 (by simp) hE
end PySem
namespace L2
open PySem PySem.Spec PyProof.Rows
def Ite(K:á)(a:Addr):It :=
 ⟨λi H=>∃xs x,SqT K H a xs/\xs[i]?=some x,λi H x H'=>∃t v,x=.ref t/\H t=none/\H'=upd H t (.tup [.int i,v])/\∀xs,SqT K H a xs->xs[i]?=some v,λi H=>∃xs,SqT K H a xs/\⇑xs<=i⟩
def GR{P:Za}{w:Zb}{K:á}{elts:List Zt}{kk:Nat}{pos:Pos}(a e it:Addr)(hei:e≠it) :
  Turn P w K (.Tuple elts kk pos) (Ite K a) [e,it] e (λi h=>(∃old,IsEnum h e it i old)/\h.IsTupleIter it a i) where
 mem:=by simp
 obj:=λi h st b hb=>by
  let⟨⟨old,he⟩,o,ho,hc,hd⟩:=st;rcases Û.mp hb with rfl|hb
  ·exact⟨_,he,λv z=>nomatch z⟩
  ·have e1:b=it:=by simpa using hb
   subst e1;exact⟨o,ho,λv z=>by rw[hd]at z;cases z⟩
 keep:=λi h h' st k=>by
  let⟨⟨old,he⟩,o,ho,r⟩:=st;exact⟨⟨old,k e (by simp) _ he⟩,o,k it (by simp) _ ho,r⟩
 item:=by
  intro X hP hw hK hc i pins s σ H E I hf st hg;subst hP hw hK;let⟨xs,x,hq,hx⟩:=hg;let⟨its,rv,p,hz⟩:=I.tuple hq;let⟨u,hu,ru⟩:=rv.get hx;let⟨⟨old,he⟩,hit⟩:=st;have hai:a≠it:=λz=>by
   let⟨o,ho,hc1,_⟩:=p;let⟨o',ho',hc2,_⟩:=hit;rw[z,ho']at ho;cases ho;rw[hc2]at hc1;injection hc1 with z2;exact er z2 ∅
  have hae:e≠a:=λz=>by
   let⟨o,ho,hc1,_⟩:=p;have he':s.heap.get? e=some _:=he;rw[z,ho]at he';cases he';have z1:Ă "enumerate"=Ă "tuple":=hc1;injection z1 with z2;exact er z2 ∅
  have hlt:i<its.toArray.size:=by have:=(Æ.mp hu).1;simpa using this
  let⟨e0,e1,e2,e3,e4,e5⟩:=hf e (by simp);let⟨f0,f1,f2,f3,f4,f5⟩:=hf it (by simp);have D:=Draws.tuple (prog:=X.prog) (w:=X.w) (A:=X.A.in1) (I.ok.hd hc) it a hai its.toArray;refine XX D he ⟨hit,show s.heap.IsTuple a its.toArray from p⟩ hlt hei (by simp[hei,hae]) λx' h' tk hP ho hs' hT hsz hk=>⟨_,rfl,?_⟩
  have ex:x'=u:=by
   have hP':its[i]?=some x':=by simpa using hP
   rw[hu]at hP';exact(Ô hP').symm
  subst ex;refine XY ho λh2 he2 hs2=>?_;have hTn:H ↥s=none:=I.hok.fresh (Õ _);have keep2:∀b o,b≠e->b≠it->s.heap.get? b=some o->h2.get? b=some o:=λb o hb1 hb2 q=>(hs2.2 b hb1).trans (hk b o hb1 hb2 q);have hTe:↥s≠e:=Ĺ (Ï he);have hTup:h2.get? ↥s=some { cls:=.type "tuple",data:=.seq #[.int i tk,x']}:=(hs2.2 _ hTe).trans hT;have J:Inv X pins σ (upd H ↥s (.tup [.int i,x])) { s with heap:=h2,toks:=tk+1 }:=by
   refine I.step (g':=s.gens) (d':=s.drawn) (t':=tk+1) (ch:=[e,it]) (λb hb=>?_) (λb o _ _ hcb q _=>keep2 b o (λz=>hcb (by simp[z])) (λz=>hcb (by simp[z])) q)
    (λb o _ _ hcb q _=>⟨o.slots,keep2 b o (λz=>hcb (by simp[z])) (λz=>hcb (by simp[z])) q⟩) (λb o _ q n=>by rw[aj (é (Ï q))];exact n)
    (λb o hcb q=>⟨o,keep2 b o (λz=>hcb (by simp[z])) (λz=>hcb (by simp[z])) q⟩) (λb ys q=>by rw[aj (ao q hTn)];exact q) (λb o y q=>by rw[aj (ao q hTn)];exact q)
    (λb ps q=>⟨#[],by rw[aj (ao q hTn),q];simp⟩) (λm hm=>?_) ?_ I.bare
   ·rcases Û.mp hb with rfl|hb
    ·exact⟨e3,e1,e4,e5⟩
    ·have z:b=it:=by simpa using hb
     subst z;exact⟨f3,f1,f4,f5⟩
   ·let⟨o,es,ep,ho',r⟩:=hm;exact⟨o,es,ep,keep2 _ o (ĝ e1) (ĝ f1) ho',r⟩
   ·intro b u' q;have nT:∀{c y},H c=some y->c≠e/\c≠it:=λ{c y} z=>⟨λv=>(by rw[v,e0]at z;exact nomatch z),λv=>(by rw[v,f0]at z;exact nomatch z)⟩
    by_cases hb:b=↥s
    ·subst hb;rw[aq]at q;cases q;exact⟨(by show 2<=sizeLine;decide),[.int i tk,x'],.cons ⟨_,rfl⟩ (.cons ru .nil),_,hTup,rfl,_,rfl⟩
    ·rw[aj hb]at q;refine(I.hok b u' q).stay (λc v hcv y=>keep2 c v ?_ ?_ y) (λc y=>by rw[aj (ao y hTn)];exact y) λc ys y=>by rw[aj (ao y hTn)];exact y
     ·rcases hcv with rfl|z
      ·exact(nT q).1
      ·exact(nT z).1
     ·rcases hcv with rfl|z
      ·exact(nT q).2
      ·exact(nT z).2
  refine⟨.ref ↥s,_,J,rfl,⟨_,x,rfl,hTn,rfl,λys hy=>by rw[I.uQ hy hq];exact hx⟩,⟨⟨x',?_⟩,?_⟩,λb hb=>?_⟩
  ·have he3:IsEnum h2 e it ((i:Int)+1) x':=by simpa using he2
   have ec:((i+1:Nat):Int)=(i:Int)+1:=()
   rw[ec];exact he3
  ·let⟨o,ho2,r⟩:=hs'.1;exact⟨o,(hs2.2 it (ĝ hei)).trans ho2,r⟩
  ·rw[aj]
   ·exact(hf b hb).1
   ·rcases Û.mp hb with rfl|hb
    ·exact ĝ hTe
    ·have z:b=it:=by simpa using hb
     subst z;let⟨o,ho2,_⟩:=hit;exact é (Ï ho2)
 done:=by
  intro X hP hw hK hc i pins s σ H E I hf st hg;subst hP hw hK;let⟨xs,hq,hx⟩:=hg;let⟨its,rv,p,hz⟩:=I.tuple hq;let⟨⟨old,he⟩,hit⟩:=st;let⟨f0,f1,f2,f3,f4,f5⟩:=hf it (by simp);have hl:=⇑rv;have hT:s.TypeIs (.ref e) "enumerate":=⟨_,he,rfl⟩
  unfold ZY;refine Å (XZ (ļ (name:=ū "__next__") hT ĺ
   (ĳ ĺ hT PySem.F.entry_enumerate_next ?_ (PySem.F.args_enumerate_next_1 _))))
  show wpAny _ _ (XT (.ref e) 2 >>=_) _ _ _;refine Å (Ť he rfl (x:=.ref it) rfl ?_);refine Å (gb (I.ok.hd hc) hit (show s.heap.IsTuple a its.toArray from p) (by simp;lia) λh' x he' hx'=>?_);let⟨o,ho,hc'⟩:=hx';refine Å (X0 (T:="StopIteration") (b:=true) ⟨o,ho,hc'⟩ X1 ?_);exact Ø ⟨rfl,I.turned (t':=s.toks) (λb o hb e=>he' b o hb e) f0 f1 f3 f4 f5⟩
 self:=λA i s Q E st h=>by
  let⟨⟨old,he⟩,_⟩:=st;have hT:s.TypeIs (.ref e) "enumerate":=⟨_,he,rfl⟩
  refine X2 hT Ű (ĳ Ű hT PySem.F.entry_enumerate_iter ?_ (PySem.F.args_enumerate_iter_1 _));show wpAny _ _ (ret (.ref e)) _ _ s;exact Ø ⟨_,rfl,"enumerate",_,hT,ĺ.lookup,h⟩
def boot_enumerate:Zq "enumerate"=some (.type "enumerate"):=⋯
def Wg(K:á)(b:TA):TI:=λσ H R=>b σ H λvs H1=>∃a,vs=[.ref a]/\(∃xs,SqT K H1 a xs)/\R (Ite K a) H1
def Ob{X:Cx}{elts:List Zt}{kk:Nat}{f:Pos}{a:Zt}{g:TA}{p pos:Pos}(hg:Gl X "enumerate")(hm:X.mg "enumerate"=none)(ha:PA X [a] g)(hs:Zu [a] X.env=[(false,Zv a X.env)]:=by rfl):PI X (.Tuple elts kk f) (.Call (.Name "enumerate" p) [a] [] pos) (Wg X.K g):=by
 intro d s σ H R I h;refine Z5 (dU I hg hm boot_enumerate (Ā (thn (ha pos d s σ H _ I h) λus s1 ⟨vs,H1,I1,r1,q1⟩=>?_) hs rfl));let⟨b,e,⟨xs,k⟩,q⟩:=q1;subst e;let⟨u,rfl,m⟩:=vals1 r1;cases m;let⟨its,o,l,n⟩:=I1.tuple k;refine jA (show s1.heap.IsTuple b its.toArray from l) λh' he hit hsz hk=>?_;have j:Inv X d σ H1 { s1 with heap:=h' }:=I1.kept (t':=s1.toks) hk;have T:Turn X.prog X.w X.K (.Tuple elts kk f) (Ite X.K b) [↥s1+1,↥s1] (↥s1+1) (λi h=>(∃old,IsEnum h (↥s1+1) ↥s1 i old)/\h.IsTupleIter ↥s1 b i):=GR b _ _ (Ĺ (ŀ _));refine T.self _ 0 _ _ _ ⟨⟨_,he⟩,hit⟩ ⟨_,_,_,_,H1,rfl,j,T,⟨⟨_,he⟩,hit⟩,λc hc=>?_,q⟩;rcases Û.mp hc with rfl|hc
 ·exact I1.Ak (Ņ _) (I1.hok.fresh (Ņ _))
 ·have z:c=↥s1:=by simpa using hc
  subst z;exact I1.Ak (Õ _) (I1.hok.fresh (Õ _))
section
variable{κ:Type} [DecidableEq κ]
def fC(a:List (κ×V))(k:κ):Option V:=(a.find? λkv=>decide (kv.1=k)).map (·.2)
def putK(a:List (κ×V))(k:κ)(v:V):List (κ×V) :=
 if(a.any λkv=>decide (kv.1=k))=true then a.map (λkv=>if kv.1=k then(kv.1,v)else kv)else a++[(k,v)]
def fW{p:κ×V}{r:List (κ×V)}{k:κ}(e:p.1=k):fC (p::r) k=some p.2:=by simp[fC,Ĭ,e]
def rC{p:κ×V}{r:List (κ×V)}{k:κ}(e:¬p.1=k):fC (p::r) k=fC r k:=by simp[fC,Ĭ,e]
theorem yL(k:κ):∀kvs:List (κ×V),(kvs.any λkv=>decide (kv.1=k))=(fC kvs k).isSome
 |[]=>rfl
 |p::r=>by
  rw[List.any_cons];by_cases e:p.1=k
  ·simp only[fW e,decide_eq_true e,Bool.true_or,Option.isSome_some]
  ·rw[rC e,eg e,Bool.false_or];exact yL k r
def jq(a:List (κ×V))(k:κ)(v:V):⇑(putK a k v)<=⇑a+1:=by
 unfold putK;split
 ·rw[Ä];lia
 ·rw[Ð,ÿ,List.length_nil];lia
def uG.gC{o:Option V}{u:Option Value}(r:uG o u):o.isSome=u.isSome:=by
 cases o with
 |none=>cases u with
  |none=>rfl
  |some _=>exact(show False from r).elim
 |some _=>cases u with
  |none=>exact(show False from r).elim
  |some _=>rfl
def KV.val{a:List (κ×V)}{vs:List (κ×Value)}(r:KV a vs)(k:κ):uG (fC a k) (X3 vs k):=by
 unfold KV at r;induction r with
 |nil=>exact ũ
 |@cons p q ps qs h t ih =>
  let⟨h1,h2⟩:=h;by_cases e:p.1=k
  ·have c:q.1=k:=h1.symm.trans e;have b:X3 (q::qs) k=some q.2:=by simp[X3,Ĭ,c]
   rw[fW e,b];exact h2
  ·have c:¬q.1=k:=λz=>e (h1.trans z);have b:X3 (q::qs) k=X3 qs k:=by simp[X3,Ĭ,c]
   rw[rC e,b];exact ih
def KV.any{a:List (κ×V)}{vs:List (κ×Value)}(r:KV a vs)(k:κ):(a.any λkv=>decide (kv.1=k))=vs.any λkv=>decide (kv.1=k):=by
 unfold KV at r;induction r with
 |nil=>rfl
 |cons h t b=>rw[List.any_cons,List.any_cons,b,h.1]
def KV.repl{a:List (κ×V)}{vs:List (κ×Value)}(r:KV a vs)(k:κ){y:V}{u:Value}(b:RelV y u) :
  KV (a.map λkv=>if kv.1=k then(kv.1,y)else kv) (vs.map λkv=>if kv.1=k then(kv.1,u)else kv):=by
 unfold KV at r ⊢;induction r with
 |nil=>exact .nil
 |@cons p q ps qs h t ih =>
  rw[ò,ò];refine .cons ?_ ih;let⟨h1,h2⟩:=h;by_cases e:p.1=k
  ·rw[el e,el (h1.symm.trans e)];exact⟨h1,b⟩
  ·rw[em e,em (λz=>e (h1.trans z))];exact⟨h1,h2⟩
def KV.put{a:List (κ×V)}{vs:List (κ×Value)}(r:KV a vs)(k:κ){y:V}{u:Value}(b:RelV y u):KV (putK a k y) (stored vs k u):=by
 unfold putK stored;rw[r.any k];by_cases e:(vs.any λkv=>decide (kv.1=k))=true
 ·rw[el e,el e];exact r.repl k b
 ·rw[em e,em e];exact Paired.snoc r ⟨rfl,b⟩
def KV.keys{a:List (κ×V)}{vs:List (κ×Value)}(r:KV a vs):a.map (·.1)=vs.map (·.1):=by
 unfold KV at r;induction r with
 |nil=>rfl
 |cons h t b=>rw[ò,ò,b,h.1]
def KV.length{a:List (κ×V)}{vs:List (κ×Value)}(r:KV a vs):⇑a=⇑vs:=Paired.length r
end
def vo{P:Za}{w:Zb}{k:Key}{u:Value}(r:RelV (kV k) u):(bA P w).is k u=true:=by
 cases k with
 |inl i=>let⟨t,e⟩:=(show ∃t,u=Ň i t from r);subst e;exact zY P w i t
 |inr x=>let⟨t,e⟩:=(show ∃t,u=Value.str x t from r);subst e;exact zX P w x t
theorem vp{P:Za}{w:Zb}:∀{ks:List Key}{us:List Value},Vals (ks.map kV) us->ItemsAre (bA P w) ks us
 |[],_,r=>by rw[List.map_nil]at r;cases r;exact .nil
 |k::ks,_,r=>by
  rw[ò]at r;cases r with
  |cons h t=>exact .cons (vo h) (vp t)
abbrev KT(H:Hp):List (List Key×V)->List (List Key×Addr×Value)->Prop:=Paired λp q=>p.1=q.1/\H q.2.1=some (.tup (p.1.map kV))/\RelV p.2 q.2.2
def KT.val{H:Hp}{a:List (List Key×V)}{xs:List (List Key×Addr×Value)}(r:KT H a xs)(k:List Key):uG (fC a k) ((X4 xs k).map (·.2)):=by
 induction r with
 |nil=>exact ũ
 |@cons p q ps qs h t ih =>
  let⟨h1,_,h2⟩:=h;by_cases e:p.1=k
  ·have c:q.1=k:=h1.symm.trans e;have b:X4 (q::qs) k=some q.2:=by simp[X4,Ĭ,c]
   rw[fW e,b];exact h2
  ·have c:¬q.1=k:=λz=>e (h1.trans z);have b:X4 (q::qs) k=X4 qs k:=by simp[X4,Ĭ,c]
   rw[rC e,b];exact ih
def KT.repl{H:Hp}{a:List (List Key×V)}{xs:List (List Key×Addr×Value)}(r:KT H a xs)(k:List Key){y:V}{u:Value}(c:RelV y u) :
  KT H (a.map λkv=>if kv.1=k then(kv.1,y)else kv) (xs.map (putAt k u)):=by
 induction r with
 |nil=>exact .nil
 |@cons p q ps qs h t ih =>
  rw[ò,ò];refine .cons ?_ ih;let⟨h1,h2,b⟩:=h;unfold putAt;by_cases e:p.1=k
  ·rw[el e,el (h1.symm.trans e)];exact⟨h1,h2,c⟩
  ·rw[em e,em (λz=>e (h1.trans z))];exact⟨h1,h2,b⟩
def KT.put{H:Hp}{a:List (List Key×V)}{xs:List (List Key×Addr×Value)}(r:KT H a xs)(k:List Key){b:Addr}{y:V}{u:Value}(hb:H b=some (.tup (k.map kV)))(c:RelV y u) :
  KT H (putK a k y) (storedH xs k b u):=by
 have e:(a.any λkv=>decide (kv.1=k))=(X4 xs k).isSome:=by
  rw[yL,(r.val k).gC,Option.isSome_map]
 unfold putK storedH;rw[e];by_cases q:(X4 xs k).isSome=true
 ·rw[el q,el q];exact r.repl k c
 ·rw[em q,em q];exact Paired.snoc r ⟨rfl,hb,c⟩
def KT.keeps{H c:Hp}{a:List (List Key×V)}{xs:List (List Key×Addr×Value)}(r:KT H a xs)(ht:∀b ys,H b=some (.tup ys)->c b=some (.tup ys)):KT c a xs :=
 Paired.Hr r λ_ _ z=>⟨z.1,ht _ _ z.2.1,z.2.2⟩
section
variable{P:Za}{w:Zb}{H:Hp}{h:Zg}{a:Addr}
def Qw{u:HO}(ok:HOk P w H h)(e:Rd H a u):bx P w H h a u:=e.ok ok
def Ar{b:List (Key×V)}(ok:HOk P w H h)(e:Rd H a (.dK b)):⇑b<=sizeLine/\(a==Zn)=false/\∃vs,KV b vs/\h.DictOf (bA P w) a vs :=
 show bx P w H h a (.dK b)from Qw ok e
def Mi{b:List (Key×V)}(ok:HOk P w H h)(e:H a=some (.dK b)):⇑b<=sizeLine/\(a==Zn)=false/\∃vs,KV b vs/\h.DictOf (bA P w) a vs:=Ar ok (.inl e)
def tL{ks:List Key}(ok:HOk P w H h)(e:H a=some (.tup (ks.map kV))):(Zo (bA P w)).is h ks a:=by
 let⟨_,its,r,o,h1,h2,n,b⟩:=(show bx P w H h a (.tup (ks.map kV))from ok a _ e)
 exact⟨o,its.toArray,n,h1,h2,b,by simpa using vp r⟩
def Ao{b:List (List Key×V)}(ok:HOk P w H h)(e:Rd H a (.dT b)):⇑b<=sizeLine/\(a==Zn)=false /\
  ∃xs,KT H b xs/\h.DictOfH (Zo (bA P w)) a xs:=by
 let⟨z,y,xs,r,o,f,ep,h1,h2,g,i,j⟩:=(show bx P w H h a (.dT b)from Qw ok e)
 refine⟨z,y,xs,r,o,f,ep,h1,h2,g,i,λx c=>?_,j⟩;have d:∀{l:List (List Key×V)}{m:List (List Key×Addr×Value)},KT H l m->∀x∈m,(Zo (bA P w)).is h x.1 x.2.1:=by
  intro l m q;induction q with
  |nil=>intro x c;exact nomatch c
  |@cons p q ps qs hq t ih =>
   intro x c;rcases Û.mp c with e|c
   ·subst e;exact tL ok (by rw[←hq.1];exact hq.2.1)
   ·exact ih x c
 exact d r x c
def WY{b:List (List Key×V)}(ok:HOk P w H h)(e:H a=some (.dT b)):⇑b<=sizeLine/\(a==Zn)=false /\
  ∃xs,KT H b xs/\h.DictOfH (Zo (bA P w)) a xs:=Ao ok (.inl e)
end
def pR(H:Hp)(a:Addr)(y:V)(r:Option V):Prop :=
 (∃kvs k,Rd H a (.dK kvs)/\y=kV k/\r=fC kvs k)\/∃kvs k b,Rd H a (.dT kvs)/\y=.ref b/\H b=some (.tup (k.map kV))/\r=fC kvs k
def M8(H:Hp)(a:Addr)(y v:V)(c:Hp):Prop :=
 (∃kvs k,H a=some (.dK kvs)/\y=kV k/\⇑kvs<sizeLine/\c=upd H a (.dK (putK kvs k v)))∨
 ∃kvs k b,H a=some (.dT kvs)/\y=.ref b/\H b=some (.tup (k.map kV))/\⇑kvs<sizeLine/\c=upd H a (.dT (putK kvs k v))
def pR.k{H:Hp}{a:Addr}{b:List (Key×V)}{k:Key}(e:H a=some (.dK b)):pR H a (kV k) (fC b k):=.inl ⟨b,k,.inl e,rfl,rfl⟩
def M8.k{H:Hp}{a:Addr}{b:List (Key×V)}{k:Key}{v:V}(e:H a=some (.dK b))(hl:⇑b<sizeLine):M8 H a (kV k) v (upd H a (.dK (putK b k v))):=.inl ⟨b,k,e,rfl,hl,rfl⟩
section
variable{X:Cx}{pins:List (Addr×Obj)}{σ:St}{H:Hp}{s:Shared}{a:Addr}{y v:V}{u r:Value}{o:Option V}{A:Zr}{E:eB}
def Inv.big(I:Inv X pins σ H s):Zn<↥s:=by
 have h:mainGlobals<↥s:=(I.mod.glob.keeps I.bk).lt;exact Nat.lt_trans ∅ h
def Ia{Q:eB}(hu:A.units+1<Yb)(I:Inv X pins σ H s)(g:pR H a y (some v))(q:RelV y u)(h:∀w' s',Inv X pins σ H s'->RelV v w'->Q w' s') :
  wpAny (model X.prog X.w) A (Yp (.ref a) u) Q E s:=by
 rcases g with⟨n,k,e,i,l⟩|⟨n,k,b,e,i,t,l⟩
 ·subst i;let⟨z,hd,vs,c,f⟩:=Ar I.hok e;let⟨w',m,d⟩:=uG.some_of (v:=v) (o:=X3 vs k) (by rw[l];exact c.val k);exact wpAny_getItem_of (vo q) f.mapOf m (h w' _ (I.tok _) d)
 ·subst i;cases (show u=Ě b from q);let⟨z,hd,xs,c,f⟩:=Ao I.hok e;let⟨w',m,d⟩:=uG.some_of (v:=v) (o:=(X4 xs k).map (·.2)) (by rw[l];exact c.val k);let⟨p,hp,j⟩:=Option.map_eq_some_iff.mp m;refine wpAny_getItem_heap (X5 hu) (tL I.hok t) f hp ?_;rw[j];exact h w' _ (I.tok _) d
def XC{Q:eB}(hu:A.units+1<Yb)(I:Inv X pins σ H s)(g:pR H a y o)(j:RelV y u)(h:∀s',Inv X pins σ H s'->Q (.bool o.isSome) s') :
  wpAny (model X.prog X.w) A (ZI .In u (.ref a)) Q E s:=by
 rcases g with⟨i,k,e,f,l⟩|⟨i,k,b,e,f,m,l⟩
 ·subst f;let⟨z,hd,vs,c,d⟩:=Ar I.hok e;refine wpAny_in_of (vo j) hd d.mapOf ?_;rw[←(c.val k).gC,←l];exact h _ (I.tok _)
 ·subst f;cases (show u=Ě b from j);let⟨z,hd,xs,c,d⟩:=Ao I.hok e;refine wpAny_in_heap (X5 hu) (tL I.hok m) hd d ?_;have q:=(c.val k).gC;rw[Option.isSome_map]at q;rw[←q,←l];exact h _ (I.tok _)
def Qe{Q:eB}(hu:A.units+1<Yb)(I:Inv X pins σ H s)(g:pR H a y o)(j:RelV y u)(h:∀s',Inv X pins σ H s'->Q (.bool (!o.isSome)) s') :
  wpAny (model X.prog X.w) A (ZI .NotIn u (.ref a)) Q E s:=by
 rcases g with⟨i,k,e,f,l⟩|⟨i,k,b,e,f,m,l⟩
 ·subst f;let⟨z,hd,vs,c,d⟩:=Ar I.hok e;refine wpAny_notIn_of (vo j) hd d.mapOf ?_;rw[←(c.val k).gC,←l];exact h _ (I.tok _)
 ·subst f;cases (show u=Ě b from j);let⟨z,hd,xs,c,d⟩:=Ao I.hok e;refine wpAny_notIn_heap (X5 hu) (tL I.hok m) hd d ?_;have q:=(c.val k).gC;rw[Option.isSome_map]at q;rw[←q,←l];exact h _ (I.tok _)
def yj{h':Zg}{t':Nat}{c:HO}(I:Inv X pins σ H s)(d:Mut (H a))(hs:Heap.SameBut a s.heap h')(he:∃q,h'.get? a=some q)(new:bx X.prog X.w (upd H a c) h' a c) :
  Inv X pins σ (upd H a c) { s with heap:=h',toks:=t' } :=
 I.write (x:=a) (e:=a) d (.inl rfl) (λb q hb z=>(hs.2 b hb).trans z) he new
def Mj{P:Za}{w:Zb}{d:Hp}{h':Zg}{b:List (Key×V)}{vs:List (Key×Value)}(z:⇑b<=sizeLine)(hd:(a==Zn)=false)(c:KV b vs)(e:h'.DictOf (bA P w) a vs) :
  bx P w d h' a (.dK b):=⟨z,hd,vs,c,e⟩
def H9{t:Hp}{Q:Unit->Shared->Prop}(hu:A.units+1<Yb)(I:Inv X pins σ H s)(g:M8 H a y v t)(C:RelV y u)(B:RelV v r)(h:∀s',Inv X pins σ t s'->Q .unit s') :
  wpAny (model X.prog X.w) A (setItem (.ref a) u r) Q E s:=by
 rcases g with⟨d,k,e,n,l,m⟩|⟨d,k,b,e,n,x,l,m⟩
 ·subst n m;let⟨z,hd,vs,f,j⟩:=Mi I.hok e;have p:⇑vs<=sizeLine:=by rw[←⇑f];exact z
  have hl:⇑(putK d k v)<=sizeLine:=by have:=jq d k v;lia
  refine wpAny_setItem_pairs (hsz:=p) (vo C) j λh' dd' hs=>h _ ?_;have he:∃q,h'.get? a=some q:=let⟨q,_,_,i,_⟩:=dd';⟨q,i⟩
  exact yj I (by rw[e];exact ũ) hs he (Mj hl hd (f.put k B) dd')
 ·subst n m;cases (show u=Ě b from C);let⟨z,hd,xs,f,j⟩:=WY I.hok e;have p:⇑xs<=sizeLine:=by rw[←Paired.length f];exact z
  have hl:⇑(putK d k v)<=sizeLine:=by have:=jq d k v;lia
  refine wpAny_setItem_heap (hsz:=p) (X5 hu) (tL I.hok x) j λh' dd' hs=>h _ ?_;let⟨q,D,ep,i,h2,F,G,_,J⟩:=dd';refine yj I (by rw[e];exact ũ) hs ⟨q,i⟩ ⟨hl,hd,_,(f.put k x B).keeps λc ys ec=>?_,q,D,ep,i,h2,F,G,J⟩;rw[aj (VD ec e (λz=>nomatch z))];exact ec
end
section
variable{X:Cx}{pins:List (Addr×Obj)}{σ:St}{H:Hp}{s:Shared}{a:Addr}{kvs:List (Key×V)}{k:Key}{u:Value}{A:Zr}{E:eB}
end
def Iz(i:Zt):Prop:=∀ov iv,Yx i false ov iv=operate [ov,iv] (Yp ov iv)
def Nu{prog:Za}{w:Zb}{A:Zr}{E:eB}{s:Shared}{env:Env}{b a:Zt}{pos:Pos}{T id:String}{Q:eB}(hl:Ys (.type T) "__getitem__"=pure (some (.builtin id)))(hs:Iz a)(h:wpAny (model prog w) A (Zv b env) (λo s₁=>wpAny (model prog w) A (Zv a env) (λi s₂=>s₂.TypeIs o T/\wpAny (model prog w) A (Yp o i) Q E s₂) E s₁) E s) :
  wpAny (model prog w) A (Zv (.Subscript b a pos) env) Q E s:=by
 refine Yt (ń h (λo s₁ h₁=>ń h₁ (λi s₂ c=>?_) λ_ _ x=>x) λ_ _ x=>x);let⟨e,c⟩:=c;unfold Yu;refine Å ?_;rw[getitemInPython_of_ne e.not_modules];refine Å (X6 e hl ?_);have d:wpAny (model prog w) A (Yx a false o i) (λr s₃=>wpAny (model prog w) A (letTemporaryGo b o r >>=λ_=>pure r) Q E s₃) E s₂:=by
  rw[hs o i];exact wpAny_operating (ń c (λr s₃ h₃=>Å (wpAny_letTemporaryGo (Ø h₃))) λ_ _ x=>x)
 first
  |exact Ø (Å d)
  |exact Å (Ø (Å d))
  |exact Å d
def Aw{X:Cx}{c:List (Addr×Obj)}{σ:St}{H:Hp}{s:Shared}{a:Addr}{y:V}{o:Option V}(I:Inv X c σ H s)(g:pR H a y o):s.TypeIs (.ref a) "dict":=by
 rcases g with⟨f,k,e,_,_⟩|⟨f,k,b,e,_,_,_⟩
 ·let⟨_,_,vs,_,d⟩:=Ar I.hok e;exact d.typeIs
 ·let⟨_,_,xs,_,d⟩:=Ao I.hok e;exact d.typeIs
def U7(b ty:TE):TE:=λσ H Q=>b σ H λx H1=>ty σ H1 λy H2=>∃a v,x=.ref a/\pR H2 a y (some v)/\Q v H2
def U6(ty b:TE):TE:=λσ H Q=>ty σ H λy H1=>b σ H1 λx H2=>∃a o,x=.ref a/\pR H2 a y o/\Q (.bl o.isSome) H2
def Ey(ty b:TE):TE:=λσ H Q=>ty σ H λy H1=>b σ H1 λx H2=>∃a o,x=.ref a/\pR H2 a y o/\Q (.bl (!o.isSome)) H2
def Qt(b ty c:TE):TS:=λD σ H=>c σ H λv H1=>b σ H1 λx H2=>ty σ H2 λy H3=>∃a H4,x=.ref a/\M8 H3 a y v H4/\D.nx σ H4
section
variable{X:Cx}{o i e value:Zt}{pos pos' tpos:Pos}{td ty tv:TE}
def FP(hu:X.A.units+1<Yb)(c:PE X o td)(hi:PE X i ty)(hs:Iz i):PE X (.Subscript o i pos) (U7 td ty):=by
 intro b s σ H Q I h;refine Nu PySem.F.slot_dict_getitem.lookup hs (thn (c b s σ H _ I h) λu s1 ⟨x,H1,I1,rx,q1⟩=>thn (hi b s1 σ H1 _ I1 q1) λiv s2 ⟨y,H2,I2,ry,a,v,ex,g,q2⟩=>?_);subst ex;obtain rfl:u=Ě a:=rx;exact⟨Aw I2 g,Ia hu I2 g ry λw' s3 I3 rw'=>⟨v,H2,I3,rw',q2⟩⟩
def SQ(hu:X.A.units+1<Yb)(hi:PE X i ty)(c:PE X o td):PC X .In i o (U6 ty td):=by
 intro b s σ H Q I h;refine thn (hi b s σ H _ I h) λiv s1 ⟨y,H1,I1,ry,q1⟩=>thn (c b s1 σ H1 _ I1 q1) λu s2 ⟨x,H2,I2,rx,a,ov,ex,g,q2⟩=>?_;subst ex;obtain rfl:u=Ě a:=rx;exact XC hu I2 g ry λs3 I3=>⟨.bl ov.isSome,H2,I3,rfl,q2⟩
def Hg(hu:X.A.units+1<Yb)(hi:PE X i ty)(c:PE X o td):PC X .NotIn i o (Ey ty td):=by
 intro b s σ H Q I h;refine thn (hi b s σ H _ I h) λiv s1 ⟨y,H1,I1,ry,q1⟩=>thn (c b s1 σ H1 _ I1 q1) λu s2 ⟨x,H2,I2,rx,a,ov,ex,g,q2⟩=>?_;subst ex;obtain rfl:u=Ě a:=rx;exact Qe hu I2 g ry λs3 I3=>⟨.bl (!ov.isSome),H2,I3,rfl,q2⟩
def N7(hu:X.A.units+1<Yb)(c:PE X o td)(hi:PE X i ty)(hv:PE X value tv)(hs:ZO value (some (.Subscript o i pos')) pos.line X.env=pure false) :
  PS X (.Assign [.Subscript o i pos'] value pos) (Qt td ty tv):=by
 intro b s σ H D I h;refine wpAny_Assign_Subscript (thn (hv b s σ H _ I h) λr s1 ⟨v,H1,I1,rv,q1⟩=>thn (c b s1 σ H1 _ I1 q1) λu s2 ⟨x,H2,I2,rx,q2⟩=>thn (hi b s2 σ H2 _ I2 q2) λiv s3 ⟨y,H3,I3,ry,a,H4,ex,g,q3⟩=>?_) hs;subst ex;obtain rfl:u=Ě a:=rx;exact H9 hu I3 g ry rv λs4 I4=>⟨σ,H4,I4,q3⟩
end
def Av{P:Za}{w:Zb}{H:Hp}(h:Zg)(hb:Zn<h.objs.size):bx P w H (h.push { cls:=.type "dict",data:=.dict #[]}) h.objs.size (.dK []) :=
 ⟨Ğ _,beq_eq_false_iff_ne.mpr (ĝ (é hb)),[],.nil,Heap.DictOf.new h⟩
def Ry:TE:=λ_ H Q=>∀p,H p=none->Q (.ref p) (upd H p (.dK []))
section
variable{X:Cx}{pos:Pos}
def J6:PE X (.Dict [] [] pos) Ry:=λpins s σ H Q I h =>
 wpAny_Dict_empty ⟨.ref ↥s,_,I.laid (a:=↥s) (o:=.dK []) (t':=s.toks) (λ_ _ q=>Ò _ q) (Õ _) (Av s.heap I.big),rfl,h _ (I.hok.fresh (Õ _))⟩
end
def wg:List (TE×TE)->St->Hp->(List (V×V)->Hp->Prop)->Prop
 |[],_,H,Q=>Q [] H
 |(tk,tv)::r,σ,H,Q=>tk σ H λx H1=>tv σ H1 λy H2=>wg r σ H2 λps H3=>Q ((x,y)::ps) H3
abbrev VV:List (V×V)->List (Value×Value)->Prop:=Paired λp q=>RelV p.1 q.1/\RelV p.2 q.2
def PPs(X:Cx)(pos:Pos)(b:List (Option Zt))(a:List Zt)(c:List (TE×TE)):Prop :=
 ∀(pins:List (Addr×Obj))(s:Shared)(σ:St)(H:Hp)(Q:List (V×V)->Hp->Prop),Inv X pins σ H s->wg c σ H Q ->
  wpAny (model X.prog X.w) X.A (evalPairs (pairTrees b a X.env pos)) (λvs s'=>∃ps H',Inv X pins σ H' s'/\VV ps vs/\Q ps H') X.xe s
def FJ{X:Cx}{pos:Pos}:PPs X pos [] [] []:=λpins s σ H Q I h=>pairTrees_nil_walk ⟨[],H,I,.nil,h⟩
def zm{X:Cx}{pos:Pos}{k v:Zt}{ks:List (Option Zt)}{vs:List Zt}{tk b:TE}{a:List (TE×TE)}(hk:PE X k tk)(hv:PE X v b)(hr:PPs X pos ks vs a) :
  PPs X pos (some k::ks) (v::vs) ((tk,b)::a):=λpins s σ H Q I h =>
 pairTrees_cons_walk (thn (hk pins s σ H _ I h) λu s1 ⟨x,H1,I1,rx,q1⟩=>thn (hv pins s1 σ H1 _ I1 q1) λw2 s2 ⟨y,H2,I2,ry,q2⟩ =>
  thn (hr pins s2 σ H2 _ I2 q2) λws s3 ⟨ps,H3,I3,rel,q3⟩=>⟨(x,y)::ps,H3,I3,.cons ⟨rx,ry⟩ rel,q3⟩)
def ji(b a:List (Key×V)):List (Key×V):=a.foldl (λacc kv=>putK acc kv.1 kv.2) b
def KV.merge:∀{b:List (Key×V)}{c:List (Key×Value)}{a:List (Key×V)}{vs:List (Key×Value)},KV b c->KV a vs->KV (ji a b) (merged vs c):=by
 intro b c a vs r;unfold KV at r;induction r generalizing a vs with
 |nil=>intro q;exact q
 |@cons p q ps qs h t ih =>
  intro d;have e:KV (putK a p.1 p.2) (stored vs q.1 q.2):=by
   have:=d.put p.1 h.2;rw[←h.1];exact this
  exact ih e
theorem j6:∀(b a:List (Key×V)),⇑(ji a b)<=⇑a+⇑b
 |[],a=>by show ⇑a<=⇑a+0;lia
 |p::r,a=>by
  have h1:=j6 r (putK a p.1 p.2);have h2:=jq a p.1 p.2;show(ji (putK a p.1 p.2) r).length<=_;rw[ÿ];lia
theorem uD{P:Za}{w:Zb}:∀{d:List (Key×V)}{e:List (Value×Value)},VV (d.map λkv=>(kV kv.1,kv.2)) e->∃rs,Carries (bA P w) e rs/\KV d rs
 |[],_,r=>by rw[List.map_nil]at r;cases r;exact⟨[],ũ,.nil⟩
 |p::d,_,r=>by
  rw[ò]at r;cases r with
  |@cons a b as bs h t =>
   let⟨rs,c,q⟩:=uD (P:=P) (w:=w) t;let⟨b1,b2⟩:=b;exact⟨(p.1,b2)::rs,⟨vo h.1,rfl,c⟩,.cons ⟨rfl,h.2⟩ q⟩
def U5(a:List (TE×TE)):TE:=λσ H Q=>∀p,H p=none->wg a σ (upd H p (.dK [])) λps H2=>H2 p=some (.dK [])/\∃kvs:List (Key×V),ps=kvs.map (λkv=>(kV kv.1,kv.2))/\⇑kvs<=15/\Q (.ref p) (upd H2 p (.dK (ji [] kvs)))
def FN{X:Cx}{pos:Pos}{b:List (Option Zt)}{d:List Zt}{i:List (TE×TE)}(h:PPs X pos b d i)(f:b.all (·.isSome)=true)(hl:⇑b=⇑d)(m:b≠[])(j:⇑b<=15):PE X (.Dict b d pos) (U5 i):=by
 intro g s σ H Q I q;have hn:=I.hok.fresh (Õ ↥s);have k:=I.laid (a:=↥s) (o:=.dK []) (h':=s.heap.push { cls:=.type "dict",data:=.dict #[]}) (t':=s.toks) (λ_ _ q=>Ò _ q) (Õ _) (Av s.heap I.big);refine wpAny_Dict_walk (knd:=bA X.prog X.w) f hl m j (thn (h g _ σ _ _ k (q _ hn)) λws s2 ⟨ps,H2,I2,rel,e,kvs,ep,lk,q2⟩=>?_);subst ep;let⟨t,c,r⟩:=uD (P:=X.prog) (w:=X.w) rel;let⟨z,hd,u,p,l⟩:=Mi I2.hok e;cases p;refine⟨t,c,l,λh' dd' hs=>⟨.ref ↥s,_,?_,rfl,q2⟩⟩;have n:⇑(ji [] kvs)<=sizeLine:=by
  have h1:=j6 kvs [];rw[List.length_nil]at h1;rw[ü];lia
 have he:∃q,h'.get? ↥s=some q:=let⟨q,_,_,hq,_⟩:=dd';⟨q,hq⟩
 exact yj I2 (by rw[e];exact ũ) hs he (Mj n hd (r.merge .nil) dd')
structure M1(X:Cx)(o:Zt)(m:Str)(apos:Pos)(e:Zt)(cpos:Pos):Prop where
 base:YB o m X.env (Zv o X.env)=Zv o X.env
 few:((Zw cpos (Zu [e] X.env)).all (λx=>!x.1)&&(Zy cpos (Zz [] X.env)).all (λx=>x.1.isSome)
 &&decide (⇑([e]:List Zt)+⇑([]:List ZA)+(if([]:List ZA).isEmpty then 0 else 1)<30))=true
 line:(apos.endLine==cpos.line)=true
 trees:Zw cpos (Zu [e] X.env)=[(false,Zv e X.env)]
structure M2(X:Cx)(o:Zt)(m:Str)(apos:Pos)(e f:Zt)(cpos:Pos):Prop where
 base:YB o m X.env (Zv o X.env)=Zv o X.env
 few:((Zw cpos (Zu [e,f] X.env)).all (λx=>!x.1)&&(Zy cpos (Zz [] X.env)).all (λx=>x.1.isSome)
 &&decide (⇑([e,f]:List Zt)+⇑([]:List ZA)+(if([]:List ZA).isEmpty then 0 else 1)<30))=true
 line:(apos.endLine==cpos.line)=true
 trees:Zw cpos (Zu [e,f] X.env)=[(false,Zv e X.env),(false,Zv f X.env)]
section
variable{X:Cx}{pins:List (Addr×Obj)}{σ:St}{H:Hp}{s:Shared}{a:Addr}{y d:V}{u r:Value}{o:Option V}{A:Zr}{E:eB}
end
section
variable{X:Cx}{o e f:Zt}{apos cpos:Pos}{td ty tx:TE}
end
section
variable{X:Cx}{pins:List (Addr×Obj)}{σ:St}{H:Hp}{s:Shared}{a:Addr}{kvs:List (Key×V)}{A:Zr}{E:eB}
end
section
variable{X:Cx}{pins:List (Addr×Obj)}{σ:St}{H:Hp}{s:Shared}{a:Addr}{y:V}{u:Value}{A:Zr}{E:eB}
end
section
variable{prog:Za}{w:Zb}{A:Zr}{E:eB}{s:Shared}
def Bb{T:String}{r d:Addr}{n:Nat}{P:Nat->Value->Prop}{p:Zg->Prop}{R:List Value->Shared->Prop}(K:W.KdlSrc prog w T r d n P p)(hh:A.handled=none)(m:p s.heap)(hn:n<=sizeLine)(h:∀(h':Zg)(tk:Nat)(acc:Array Value),↥s<h'.objs.size->(∀b o,s.heap.get? b=some o->h'.get? b=some o)->X7 P acc n->R acc.toList { s with heap:=h',toks:=tk }) :
  wpAny (model prog w) A (Y7 (.ref r)) R E s:=by
 have k:=K.there _ m;unfold Y7;refine Å (Y8 (Y9 Xs ?_));rw[Around.under_plainId PySem.F.plain_proto_collect _];show wpAny _ A.in1 (YI [] >>=λl=>again (.builtin "list.__iadd__" ⟨[l,.ref r],[]⟩)) _ _ s;refine Å (Ő ?_);refine Ø ⟨X8 PySem.F.plain_list_iadd _,Y9 XA ?_⟩;rw[Around.under_plainId PySem.F.plain_list_iadd _];have i:(s.heap.push { cls:=.type "list",data:=.seq ([]:List Value).toArray }).get? ↥s=some { cls:=.type "list",data:=.seq #[]}:=â _ rfl;show wpAny _ A.in1 (Ĥ (.ref ↥s) (.ref r) (.ref ↥s)) _ _ _;have key:=W.kdl_extend (A:=A) (s:={ s with heap:=s.heap.push { cls:=.type "list",data:=.seq ([]:List Value).toArray }}) K
  (R:=λ(q:Result) (s':Shared)=>∃(h':Zg)(tk:Nat)(a:Array Value)(j:Nat),q=.ok (.ret (.ref ↥s))/\s'={ s with heap:=h',toks:=tk } /\
   (∀b o,s.heap.get? b=some o->h'.get? b=some o)/\h'.get? ↥s=some { cls:=.type "list",dict:=none,data:=.seq a j,slots:=#[]}/\X7 P a n)
  hh (K.keep _ _ m λb _ o e=>Ò _ e) ↥s (Ĺ k.1) (Ĺ k.2) (.ref ↥s) 0 i
  (λh' tk a j hk g c=>⟨h',tk,a,j,rfl,rfl,λb o e=>hk b o (é (Ï e)) (Ò _ e),g,c⟩) hn
 refine ń key (λfin s' x=>?_) λe s' x=>?_
 ·cases fin with
  |done f =>
   let⟨h',tk,a,j,e,rfl,hk,g,c⟩:=x;cases e;show wpAny _ A (load ↥s >>=_) _ _ _;refine Å (Z0 g ?_);exact Ø (h h' tk a (Ï g) hk c)
  |again c₁ =>
   refine⟨x.1,Yg x.2 λq s₂ y=>?_⟩;let⟨h',tk,a,j,rfl,rfl,hk,g,c⟩:=y;show wpAny _ A (load ↥s >>=_) _ _ _;refine Å (Z0 g ?_);exact Ø (h h' tk a (Ï g) hk c)
 ·let⟨_,_,_,_,t,_⟩:=x;cases t
def BX{T:String}{r d:Addr}{n:Nat}{P:Nat->Value->Prop}{k:Zg->Prop}{Q:eB}{ns:List Int}(K:W.KdlSrc prog w T r d n P k)(hh:A.handled=none)(i:k s.heap)(hn:n<64)(u:∀us:List Value,⇑us=n->(∀j v,us[j]?=some v->P j v)->IntsAre us ns)(h:∀(h':Zg)(tk:Nat)(D:Addr)(e:Nat)(out:Array Value)(a:List Int),↥s<=D->(∀b o,s.heap.get? b=some o->h'.get? b=some o)->h'.get? D=some { cls:=.type "list",data:=.seq out e }->IntsAre out.toList a->a.Perm ns->a.Pairwise (·<=·)->Q (.ref D) { s with heap:=h',toks:=tk }) :
  wpAny (model prog w) A (Z6 (.builtin "sorted") [.ref r]) Q E s:=by
 have p:=ü;refine Calls.call_function_entry kind_sorted plain_sorted entry_sorted (args_sorted1 _) ?_;unfold Builtin.«sorted»;refine Å (m:=checkCount "sorted" 1 1 _) (Ø ?_);refine Å (Bb (A:=A.in1) K hh i () λh1 tk acc hsz hk hacc=>?_);have f:⇑acc.toList=n:=by rw[đ];exact hacc.1
 have t:IntsAre acc.toList ns:=u acc.toList f λj v e=>hacc.2 j v (by rw[←Array.getElem?_toList];exact e);have x:↥s<=h1.objs.size:=Nat.le_of_lt hsz;refine Å (Y5 ?_ ());have c:(h1.push (YZ "list" acc.toList.toArray 0)).get? h1.objs.size=some (YZ "list" acc.toList.toArray 0):=â _ rfl;refine Å (Ē (ĳ XB ⟨_,c,rfl⟩ XE (list_sort_tree c t () λout a a1 a2 a3=>⟨_,rfl,?_⟩) (XG _)));let⟨e,he⟩:=sortedHeap_at (out:=out) c;refine Ø ⟨_,rfl,h _ tk h1.objs.size e out a x (λb o q=>?_) he a1 a2 a3⟩;have l:=hk b o q;have g:b<h1.objs.size:=Ï l;rw[sortedHeap_old (é g) (by rw[Y6];exact Ĉ g)];exact Ò _ l
end
section
variable{X:Cx}
def yu:bC X (.builtin "sorted") (λxs H Q=>∃(p:Addr)(ns:List Int),xs=[.ref p]/\SqL X.K H p (ns.map V.int)/\⇑ns<64 /\
  ∀(l:Addr)(out:List Int),H l=none->out.Perm ns->out.Pairwise (·<=·)->Q (.ref l) (upd H l (.lst (out.map V.int)))):=by
 intro c s σ H xs us Q I r h;let⟨p,ns,rfl,hp,g,q⟩:=h;let⟨u,rfl,k⟩:=vals1 r;cases k;let⟨its,d,j,m⟩:=I.list hp;have i:IntsAre its ns:=intsAre_of d;have hl:=⇑d;rw[Ä]at hl;refine sorted_ints (vs:=its) (ns:=ns) j.isList i () λout ns' a1 a2 a3=>?_;let⟨e,he⟩:=sortedAll_at s.heap its out;have hv:=jF a1;have a:=⇑hv;rw[Ä]at a;have hpl:=a2.length_eq;have f:=ü;refine⟨.ref (↥s+1),upd H (↥s+1) (.lst (ns'.map V.int)),I.laid (t':=s.toks) (λb o eb=>XI eb) (Ņ _) ⟨?_,out.toList,e,hv,by simpa using he⟩,rfl,q _ _ (I.hok.fresh (Ņ _)) a2 a3⟩;rw[Ä];lia
def Hw{P:Za}{w:Zb}{vs:List (Key×Value)}{ks:List Int}(hk:vs.map (·.1)=ks.map ú):∀us:List Value,⇑us=⇑vs->(∀(j:Nat)(v:Value),us[j]?=some v->∃k x,vs[j]?=some (k,x)/\(bA P w).is k v=true)->IntsAre us ks:=by
 intro us;induction us generalizing vs ks with
 |nil =>
  intro hl _;have e:vs=[]:=List.eq_nil_of_length_eq_zero (by simpa using hl.symm);subst e;cases ks with
  |nil=>exact .nil
  |cons k ks=>simp at hk
 |cons u us ih =>
  intro hl h;cases vs with
  |nil=>simp at hl
  |cons v vs =>
   cases ks with
   |nil=>simp at hk
   |cons k ks =>
    rw[ò,ò]at hk;injection hk with hk1 hk2
    let⟨f,x,e,d⟩:=h 0 u (by simp);simp at e;subst e;simp only at hk1;subst hk1;have b:tM (ú k) u=true:=d;rcases aZ b with⟨i,t,a,c⟩|⟨y,t,a,c⟩
    ·injection a with a;subst a c;exact .cons _ t (ih hk2 (by simpa using hl) λj v hj=>by simpa using h (j+1) v (by simpa using hj))
    ·cases a
def yw(hc:X.calm=true):bC X (.builtin "sorted") (λxs H Q=>∃(d:Addr)(c:List (Key×V))(ks:List Int),xs=[.ref d]/\H d=some (.dK c)/\c.map (·.1)=ks.map ú/\⇑ks<64 /\
  ∀(l:Addr)(out:List Int),H l=none->out.Perm ks->out.Pairwise (·<=·)->Q (.ref l) (upd H l (.lst (out.map V.int)))):=by
 intro m s σ H xs us Q I r h;let⟨d,c,ks,rfl,hd,k,t,q⟩:=h;let⟨u,rfl,B⟩:=vals1 r;cases B;let⟨C,A,vs,z,o,n,ep,x,y,f,g,i,j⟩:=Mi I.hok hd;have hm:s.heap.DictAt (bA X.prog X.w) d vs ep:=⟨o,n,x,y,f,g,i,j⟩
 have a:vs.map (·.1)=ks.map ú:=by rw[←KV.keys z];exact k
 have v:⇑vs=⇑ks:=by have:=et List.length a;simpa using this
 refine BX (ns:=ks) (W.kdl_dict (ep:=ep) A) (I.ok.hd hc) hm () (λus hl h=>Hw a us hl h) λh' tk D e out ns' hD hk he a1 a2 a3=>?_;have hv:=jF a1;have hpl:=a2.length_eq;have p:=ü;refine⟨.ref D,upd H D (.lst (ns'.map V.int)),I.laid (λb o eb=>hk b o eb) hD ⟨?_,out.toList,e,hv,by simpa using he⟩,rfl,q _ _ (I.hok.fresh hD) a2 a3⟩;rw[Ä];lia
def iD(l:List Int):XN:=.list (l.map Â)
theorem K4:∀l:List Int,ħ (l.map Â)=true
 |[]=>rfl
 |t::ts=>by
  show(PyData.canLay0 (Â t)&&ħ (ts.map Â))=true;rw[K4 ts];rfl
theorem Ax:∀l:List Int,Ķ (l.map Â)=0
 |[]=>rfl
 |t::ts=>by
  show max (PyData.depth (Â t)) (Ķ (ts.map Â))=0;rw[Ax ts];rfl
inductive DatL(K:á)(H:Hp):V->XN->Prop
 |flt {a:Addr}{l:List Int}:SqL K H a (l.map V.int)->DatL K H (.ref a) (iD l)
 |lists {a:Addr}{as:List Addr}{ls:List (List Int)}:SqL K H a (as.map V.ref)->Paired (λ(a:Addr) (l:List Int)=>SqL K H a (l.map V.int)) as ls->DatL K H (.ref a) (.list (ls.map iD))
end
end L2
namespace PySem
open PyProof.Rows
def XJ(h:Zg)(e:Addr):Prop:=∃oe vs,h.get? e=some oe/\oe.data=.fields vs/\vs[2]?=some .none
section
variable{M:ZD}{A:Zr}{E:eB}{s:Shared}{base:Zg}{env:Env}{outer:List Env}{L e:Addr}{Q:Unit->Shared->Prop}
end
end PySem
namespace L2
open PySem PySem.Spec PyProof.Rows
def XM(base:Zg)(l:List Env)(e:Addr)(a b:Value)(h:Zg):Prop:=base.StaysIn h/\base.get? e=none/\h.FunFrames base l/\h.TracedW base e a b/\XJ h e
def CX1(P:Za)(w:Zb):CXT:=λouter H s E e s'=>∃(a:Addr)(cls a0:Value)(H1:Hp)(hb:Zg),e=.ref a/\s'.os=s.os/\ZB s'.gens/\Un (frs outer) [] H H1 s.heap s'.heap/\HOk P w H1 hb/\XM hb outer a cls a0 s'.heap /\
 (∀b o,s.heap.get? b=some o->H b=none->b∉frs outer->hb.get? b=some o)/\(∀b o,s.heap.get? b=some o->b∉frs outer->∃o',hb.get? b=some o')/\E cls none H1
structure Lets(X:Cx)(E:XK):Prop where
 xe:∀e s',wpAny (model X.prog X.w) X.A (leaving X.env e) (λ_ s''=>CX1 X.prog X.w X.outer X.H₀ X.s₀ E e s'') (λe' s''=>CX1 X.prog X.w X.outer X.H₀ X.s₀ E e' s'') s'->X.xe e s'
 stk:X.stack=X.env::X.outer
 fr:X.env.frame=some X.env.locals
 ex:X.ex=[]
section
variable{X:Cx}{pins:List (Addr×Obj)}{σ:St}{H H1:Hp}{s:Shared}{E:XK}
end
structure ExcCls(K:á)(C:Addr)(newId:String)(bmB:List Value):Prop where
 ex:∃(nm q:Str)(N:Addr)(bs bm:List Value)(hdct:Bool)(sn:List Str)(sub:List Value)(ab:Bool)(col:Option Bool)(dd:Option Addr)(k0 k1 k2 k3 k5:Option Value),
  K.lookup C=some (excClassObj nm q C N bs bm hdct sn sub ab col dd k0 k1 k2 k3 k5 newId)/\W.tailIn K bmB bm=true/\W.nsOkIn K N=true/\W.nsIn K N "__init__"=some none/\bm.contains (.type "BaseException")=true
section
variable{X:Cx}{E:XK}{x:Str}{C:Addr}{newId Bn initId:String}{bmB:List Value}{e:Zt}{es:List Zt}{t:TA}{np cpos pos:Pos}
end
section
variable{X:Cx}{pins:List (Addr×Obj)}{σ:St}{H:Hp}{s:Shared}{ev:Value}
def Inv.track{a:Addr}{o:HO}(I:Inv X pins σ H s)(hn:H a=none)(d:∀ob,X.s₀.heap.get? a≠some ob)(g:a≠X.env.locals)(f:∀x c,X.env.cells.lookup x=some c->c≠a)(hp:∀p∈X.pn++pins,p.1≠a)(new:bx X.prog X.w (upd H a o) s.heap a o):Inv X pins σ (upd H a o) s:=by
 refine⟨I.ok,I.os,I.bare,⟨I.base.keep,I.base.slot,λb ob e n hx=>?_,I.base.there,λb xs e=>?_,λb ob u e=>?_,λb ps e=>?_⟩,I.loc,I.cell,?_,λx c e=>?_,λp q=>?_,I.hok.track hn new,I.len⟩
 ·rw[aj (show b≠a from λz=>d ob (by rw[←z];exact e))];exact I.base.free b ob e n hx
 ·have q:=I.base.tups b xs e;rw[aj (ao q hn)];exact q
 ·have q:=I.base.frzs b ob u e;rw[aj (ao q hn)];exact q
 ·let⟨m,q⟩:=I.base.tbls b ps e;exact⟨m,by rw[aj (ao q hn)];exact q⟩
 ·rw[aj (ĝ g)];exact I.free
 ·rw[aj (f x c e)];exact I.freeC x c e
 ·let⟨h,i,j⟩:=I.pin p q;exact⟨h,by rw[aj (hp p q)];exact i,j⟩
end
section
variable{X:Cx}{k:Nat}{f CF:Addr}{fd:Yc}{ps:List Str}{sp:Sp}{E:XK}{x hx n:Str}{p np cpos epos hpos pos:Pos}{e:Zt}{es:List Zt}{t:TA}{b₀:ZF}{suite:List ZF}{ts:TS}{j:Nat}
end
end L2
namespace L2
open PySem PySem.W PySem.Spec PyProof.Rows
structure ExcK(K:á)(C:Addr):Prop where
 ex:∃(nm q:Str)(N AF:Addr)(bs bmB:List Value)(hdct:Bool)(sn:List Str)(sub:List Value)(ab:Bool)(col:Option Bool)(dd ddF:Option Addr)(k0 k1 k2 k3 k5:Option Value)(newId B:String)(c0:Value)(cd:ClassData)(slF:Array (Option Value)),
  K.lookup C=some (excClassObj nm q C N bs (.ref AF::bmB) hdct sn sub ab col dd k0 k1 k2 k3 k5 newId)/\K.lookup AF=some ⟨c0,ddF,.cls cd,slF⟩/\nsOkIn K cd.ns=true/\(∀n∈quietNames,nsIn K cd.ns n=some none)/\ExcAttrBase B bmB
 ga:findIn K (.ref C) "__getattribute__"=some (some (.builtin "BaseException.__getattribute__"))
 hook:findIn K (.ref C) "__getattr__"=some none
 cls:findIn K (.ref C) "__class__"=some (some (.builtin "object.__class__"))
 mro:mroIn K C (.type "object")=some true
section
variable{prog:Za}{w:Zb}{K:á}{a C:Addr}{A:Zr}{E:eB}{s:Shared}
end
section
variable{X:Cx}
def Qx:R2:=λx y H Q=>∃a b xs ys,x=.ref a/\y=.ref b/\H a=some (.tup xs)/\H b=some (.tup ys)/\⇑xs+⇑ys<=sizeLine/\∀c H',(∀d u,H d=some u->H' d=some u)->H' c=some (.tup (xs++ys))->Q (.ref c) H'
def Oo:OpR X (Z7 .Add) Qx:=by
 intro c s σ H x y v u Q I o r h;let⟨a,b,xs,ys,rfl,rfl,ha,hb,g,q⟩:=h;cases o;cases r;let⟨its,l,j,_⟩:=I.tuple (SqT.of ha);let⟨i,n,k,_⟩:=I.tuple (SqT.of hb);by_cases f:xs=[]
 ·subst f;cases l;let⟨m,F⟩:=I.fr;refine add_tuples (vs:=[]) F KD j k (λ_=>⟨.ref b,H,I,rfl,q b H (λ_ _ z=>z) (by simpa using hb)⟩) (λz=>er rfl z) (λz=>er rfl z) (by rw[←⇑n];simpa using g)
 ·refine Om c s σ H (.ref a) (.ref b) (.ref a) (.ref b) Q I rfl rfl ⟨a,b,xs,ys,rfl,rfl,SqT.of ha,SqT.of hb,f,g,λe=>?_,λ_ p hp=>?_⟩
  ·subst e;exact q a H (λ_ _ z=>z) (by rw[Ĕ];exact ha)
  ·exact q p _ (λd u z=>by rw[aj (ao z hp)];exact z) aq
end
section
variable{K:á}{C c:Addr}{dd:Option Addr}{cd:ClassData}{sl:Array (Option Value)}
end
end L2
namespace Dl
open PySem L2 PyProof.Rows
abbrev D:=XN
def kD:Key->D
 |.inl i=>.int i
 |.inr x=>.str x
mutual
inductive Rp(ok:Addr->Prop)(H:Hp):V->D->Prop
 |non:Rp ok H .non .none
 |bl (b:Bool):Rp ok H (.bl b) (.bool b)
 |int (i:Int):Rp ok H (.int i) (.int i)
 |str (x:Str):Rp ok H (.str x) (.str x)
 |lst {a:Addr}{vs:List V}{ds:List D} (o:ok a) (h:H a=some (.lst vs)) (r:Rps ok H vs ds):Rp ok H (.ref a) (.list ds)
 |tup {a:Addr}{vs:List V}{ds:List D} (h:H a=some (.tup vs)) (r:Rps ok H vs ds):Rp ok H (.ref a) (.tuple ds)
 |dct {a:Addr}{kvs:List (Key×V)}{ds:List (D×D)} (o:ok a) (h:H a=some (.dK kvs)) (r:Rkv ok H kvs ds):Rp ok H (.ref a) (.dict ds)
inductive Rps(ok:Addr->Prop)(H:Hp):List V->List D->Prop
 |nil:Rps ok H [] []
 |cons {v:V}{d:D}{vs:List V}{ds:List D} (h:Rp ok H v d) (t:Rps ok H vs ds):Rps ok H (v::vs) (d::ds)
inductive Rkv(ok:Addr->Prop)(H:Hp):List (Key×V)->List (D×D)->Prop
 |nil:Rkv ok H [] []
 |cons {k:Key}{v:V}{d:D}{vs:List (Key×V)}{ds:List (D×D)} (h:Rp ok H v d) (t:Rkv ok H vs ds):Rkv ok H ((k,v)::vs) ((kD k,d)::ds)
end
section
variable{ok ok':Addr->Prop}{H H':Hp}
mutual
theorem Rp.mono(f:∀a,ok a->ok' a)(g:∀a o,ok a->H a=some o->H' a=some o)(t:∀a xs,H a=some (.tup xs)->H' a=some (.tup xs)):∀{v:V}{d:D},Rp ok H v d->Rp ok' H' v d
 |_,_,.non=>.non
 |_,_,.bl b=>.bl b
 |_,_,.int i=>.int i
 |_,_,.str x=>.str x
 |_,_,.lst o h r=>.lst (f _ o) (g _ _ o h) (Rps.mono f g t r)
 |_,_,.tup h r=>.tup (t _ _ h) (Rps.mono f g t r)
 |_,_,.dct o h r=>.dct (f _ o) (g _ _ o h) (Rkv.mono f g t r)
theorem Rps.mono(f:∀a,ok a->ok' a)(g:∀a o,ok a->H a=some o->H' a=some o)(t:∀a xs,H a=some (.tup xs)->H' a=some (.tup xs)):∀{v:List V}{d:List D},Rps ok H v d->Rps ok' H' v d
 |_,_,.nil=>.nil
 |_,_,.cons h r=>.cons (Rp.mono f g t h) (Rps.mono f g t r)
theorem Rkv.mono(f:∀a,ok a->ok' a)(g:∀a o,ok a->H a=some o->H' a=some o)(t:∀a xs,H a=some (.tup xs)->H' a=some (.tup xs)):∀{v:List (Key×V)}{d:List (D×D)},Rkv ok H v d->Rkv ok' H' v d
 |_,_,.nil=>.nil
 |_,_,.cons h r=>.cons (Rp.mono f g t h) (Rkv.mono f g t r)
end
theorem Rps.length:∀{vs:List V}{ds:List D},Rps ok H vs ds->⇑vs=⇑ds
 |_,_,.nil=>rfl
 |_,_,.cons _ t=>by rw[ÿ,ÿ,Rps.length t]
theorem Rps.getD:∀{vs:List V}{ds:List D}{i:Nat}{d:D},Rps ok H vs ds->ds[i]?=some d->∃v,vs[i]?=some v/\Rp ok H v d
 |_,_,i,v,.nil,e=>by simp at e
 |_,_,0,v,.cons h t,e=>by simp at e;subst e;exact⟨_,rfl,h⟩
 |_,_,i+1,v,.cons h t,e=>by
  let⟨d,a,b⟩:=Rps.getD (i:=i) (d:=v) t (by simpa using e);exact⟨d,by simpa using a,b⟩
theorem Rps.app:∀{vs b:List V}{ds a:List D},Rps ok H vs ds->Rps ok H b a->Rps ok H (vs++b) (ds++a)
 |_,_,_,_,.nil,s=>s
 |_,_,_,_,.cons h t,s=>.cons h (Rps.app t s)
def Rps.snoc{vs:List V}{ds:List D}{v:V}{d:D}(h:Rps ok H vs ds)(r:Rp ok H v d):Rps ok H (vs++[v]) (ds++[d]):=h.app (.cons r .nil)
theorem Rps.take:∀{vs:List V}{ds:List D} (n:Nat),Rps ok H vs ds->Rps ok H (vs.take n) (ds.take n)
 |_,_,0,_=>by simp;exact .nil
 |_,_,_+1,.nil=>by simp;exact .nil
 |_,_,n+1,.cons r t=>.cons r (Rps.take n t)
theorem Rps.drop:∀{vs:List V}{ds:List D} (n:Nat),Rps ok H vs ds->Rps ok H (vs.drop n) (ds.drop n)
 |_,_,0,r=>r
 |_,_,_+1,.nil=>by simp;exact .nil
 |_,_,n+1,.cons _ t=>Rps.drop n t
theorem Rps.ofMap{α:Type}{f:α->V}{g:α->D}(h:∀x,Rp ok H (f x) (g x)):∀l:List α,Rps ok H (l.map f) (l.map g)
 |[]=>.nil
 |x::l=>.cons (h x) (Rps.ofMap h l)
def Rp.int'{v:V}{i:Int}(r:Rp ok H v (.int i)):v=.int i:=by cases r;rfl
def Rp.bl'{v:V}{i:Bool}(r:Rp ok H v (.bool i)):v=.bl i:=by cases r;rfl
def Rp.str'{v:V}{i:Str}(r:Rp ok H v (.str i)):v=.str i:=by cases r;rfl
def Rp.bD{v:V}{ds:List D}(r:Rp ok H v (.list ds)):∃a vs,v=.ref a/\ok a/\H a=some (.lst vs)/\Rps ok H vs ds:=by
 cases r with
 |lst o h r=>exact⟨_,_,rfl,o,h,r⟩
def Rp.eV{v:V}{ds:List D}(r:Rp ok H v (.tuple ds)):∃a vs,v=.ref a/\H a=some (.tup vs)/\Rps ok H vs ds:=by
 cases r with
 |tup h r=>exact⟨_,_,rfl,h,r⟩
theorem Rps.ints:∀{vs:List V}{ns:List Int},Rps ok H vs (ns.map Â)->vs=ns.map V.int
 |[],[],_=>rfl
 |_,n::ns,.cons h t=>by
  have e:=h.int';subst e;rw[Rps.ints t];rfl
def Rps.two{vs:List V}{d e:D}(r:Rps ok H vs [d,e]):∃v w,vs=[v,w]/\Rp ok H v d/\Rp ok H w e:=by
 cases r with
 |cons h t =>
  cases t with
  |cons h2 t2 =>
   cases t2;exact⟨_,_,rfl,h,h2⟩
end
mutual
def cM:D->Bool
 |.none=>true
 |.bool _=>true
 |.int _=>true
 |.str _=>true
 |.list _=>false
 |.tuple ds=>cC ds
 |.dict _=>false
def cC:List D->Bool
 |[]=>true
 |d::ds=>cM d&&cC ds
end
section
variable{ok:Addr->Prop}{H:Hp}
mutual
theorem Rp.imm:∀{v:V}{d:D},Rp ok H v d->cM d=true->Rp (λ_=>False) H v d
 |_,_,.non,_=>.non
 |_,_,.bl b,_=>.bl b
 |_,_,.int i,_=>.int i
 |_,_,.str x,_=>.str x
 |_,_,.tup h r,e=>.tup h (Rps.imm r e)
theorem Rps.imm:∀{v:List V}{d:List D},Rps ok H v d->cC d=true->Rps (λ_=>False) H v d
 |_,_,.nil,_=>.nil
 |_,_,.cons h r,e=>.cons (Rp.imm h (by simp only[cC,Ì]at e;exact e.1)) (Rps.imm r (by simp only[cC,Ì]at e;exact e.2))
end
end
def Fxd(o:HO):Prop:=∃x φ,o=.frz x (.ext φ)
structure Pn where
 fp:Addr->Prop
 PI:Hp->Prop
 pv:V
 mono:∀H H',PI H->(∀b o,(fp b\/Fxd o)->H b=some o->H' b=some o)->PI H'
 is:∀H b,PI H->fp b->∃o,H b=some o/\(∀xs,o≠.tup xs)/\¬Fxd o
class Gr where
 G:Pn->Hp->Prop
instance (priority:=low) grT:Gr:=⟨λ_ _=>True⟩
def pZ:Pn:=⟨λ_=>False,λ_=>True,.non,λ_ _ _ _=>trivial,λ_ _ _ h=>h.elim⟩
def Kp(p:Pn)(H a:Hp):Prop:=∀b o,H b=some o->¬p.fp b->a b=some o
def Kp.refl{p:Pn}{H:Hp}:Kp p H H:=λ_ _ h _=>h
def Kp.trans{p:Pn}{H d e:Hp}(a:Kp p H d)(b:Kp p d e):Kp p H e:=λc o h n=>b c o (a c o h n) n
def Kp.of{p:Pn}{H a:Hp}(s:Same H a):Kp p H a:=λb o h _=>s b o h
inductive Sl where
 |any
 |im (d:D)
 |sh (d:D)
 |sn (d:D)
 |dw (r:Nat) (d:D)
 |pen (C:Pn->Prop)
 |rw (r:Nat) (L:List (List D))
 |tw (r:Nat) (L:List (List D))
 |scr (v:V) (b:Bool)
 |sp (r:Nat) (b:Bool) (ds:List D)
inductive Kd where
 |imm|new|reg (r:Nat)|n0|snw|shr|wk
 deriving DecidableEq
def Kd.le:Kd->Kd->Bool
 |.imm,_=>true
 |.new,.new=>true
 |.new,.n0=>true
 |.new,.snw=>true
 |.new,.shr=>true
 |.new,.wk=>true
 |.reg r,.reg q=>r==q
 |.reg _,.n0=>true
 |.reg _,.wk=>true
 |.snw,.snw=>true
 |.snw,.n0=>true
 |.snw,.shr=>true
 |.snw,.wk=>true
 |.n0,.n0=>true
 |.n0,.wk=>true
 |.shr,.shr=>true
 |.shr,.wk=>true
 |.wk,.wk=>true
 |_,_=>false
def Kd.join(a b:Kd):Kd:=if a.le b then b else if b.le a then a else if a.le .n0&&b.le .n0 then .n0 else if a.le .shr&&b.le .shr then .shr else .wk
def norm(k:Kd)(d:D):Kd:=match k with
 |.imm=>.imm
 |k=>if cM d then .imm else k
def bL{k:Kd}{d:D}(h:cM d=true):norm k d=.imm:=by
 cases k <;> first
  |rfl
  |exact el h
def bM{k:Kd}{d:D}(h:¬cM d=true):norm k d=k:=by
 cases k <;> first
  |rfl
  |exact em h
def okK(p:Pn)(b:Hp)(own:Addr->Option Nat)(c:Hp):Kd->Addr->Prop
 |.imm=>λ_=>False
 |.new=>λa=>c a=none
 |.reg r=>λa=>own a=some r
 |.n0=>λa=>b a=none/\¬p.fp a
 |.snw=>λa=>b a=none/\¬p.fp a/\own a=none
 |.shr=>λa=>¬p.fp a/\own a=none
 |.wk=>λa=>¬p.fp a
structure At(p:Pn)(H0:Hp)(own:Addr->Option Nat)(Hb H:Hp):Prop where
 k0:∀b o,H0 b=some o->¬p.fp b->Hb b=some o
 kp:Kp p Hb H
 penb:p.PI Hb
 pen:p.PI H
 ow:∀a r,own a=some r->H0 a=none/\¬p.fp a/\Hb a≠none
section
variable{p:Pn}{H0 Hb H H':Hp}{own:Addr->Option Nat}
def At.nfp(A:At p H0 own Hb H){a:Addr}(h:H a=none):¬p.fp a:=λz=>by
 let⟨o,e,_⟩:=p.is H a A.pen z;rw[h]at e;cases e
def At.free(A:At p H0 own Hb H){a:Addr}(h:H a=none):Hb a=none:=by
 have hn:=A.nfp h;cases e:Hb a with
 |none=>rfl
 |some o=>rw[A.kp a o e hn]at h;cases h
def At.nfb(A:At p H0 own Hb H){a:Addr}(h:Hb a=none):¬p.fp a:=λz=>by
 let⟨o,e,_⟩:=p.is Hb a A.penb z;rw[h]at e;cases e
def At.Oj(A:At p H0 own Hb H){a:Addr}(h:Hb a=none):own a=none:=by
 cases e:own a with
 |none=>rfl
 |some r=>exact er h (A.ow a r e).2.2
def At.h0(A:At p H0 own Hb H){a:Addr}(h:Hb a=none):H0 a=none:=by
 cases e:H0 a with
 |none=>rfl
 |some o=>rw[A.k0 a o e (A.nfb h)]at h;cases h
def cY(A:At p H0 own Hb H){j k:Kd}(h:j.le k=true){a:Addr}(o:okK p H0 own Hb j a):okK p H0 own Hb k a:=by
 cases j with
 |imm=>exact Ţ o
 |new =>
  cases k with
  |imm=>cases h
  |new=>exact o
  |reg r=>cases h
  |n0=>exact⟨A.h0 o,A.nfb o⟩
  |snw=>exact⟨A.h0 o,A.nfb o,A.Oj o⟩
  |shr=>exact⟨A.nfb o,A.Oj o⟩
  |wk=>exact A.nfb o
 |reg r =>
  cases k with
  |reg q =>
   have e:r=q:=by simpa[Kd.le]using h
   subst e;exact o
  |n0=>exact⟨(A.ow a r o).1,(A.ow a r o).2.1⟩
  |wk=>exact(A.ow a r o).2.1
  |_=>cases h
 |n0 =>
  cases k with
  |n0=>exact o
  |wk=>exact o.2
  |_=>cases h
 |snw =>
  cases k with
  |snw=>exact o
  |n0=>exact⟨o.1,o.2.1⟩
  |shr=>exact o.2
  |wk=>exact o.2.1
  |_=>cases h
 |shr =>
  cases k with
  |shr=>exact o
  |wk=>exact o.1
  |_=>cases h
 |wk =>
  cases k with
  |wk=>exact o
  |_=>cases h
def mq(A:At p H0 own Hb H){k:Kd}{a:Addr}(o:okK p H0 own Hb k a):¬p.fp a:=by
 have:k.le .wk=true:=by cases k <;> rfl
 exact cY A this o
def iJ(A:At p H0 own Hb H){j k:Kd}(h:j.le k=true){v:V}{d:D}{b:Hp}(r:Rp (okK p H0 own Hb j) b v d):Rp (okK p H0 own Hb k) b v d :=
 r.mono (λa o=>cY A h o) (λ_ _ _ e=>e) λ_ _ e=>e
def dI(a b:Kd):a.le (a.join b)=true/\b.le (a.join b)=true:=by
 unfold Kd.join;by_cases h:a.le b=true
 ·rw[el h];exact⟨h,by cases b <;> simp[Kd.le]⟩
 ·rw[em h];by_cases h2:b.le a=true
  ·rw[el h2];exact⟨by cases a <;> simp[Kd.le],h2⟩
  ·rw[em h2];by_cases c:(a.le .n0&&b.le .n0)=true
   ·rw[el c];exact Ì _ _ ▸ c
   ·rw[em c];by_cases d:(a.le .shr&&b.le .shr)=true
    ·rw[el d];exact Ì _ _ ▸ d
    ·rw[em d];exact⟨by cases a <;> rfl,by cases b <;> rfl⟩
def aX{k:Kd}{v:V}{d:D}{a:Hp}(r:Rp (okK p H0 own Hb k) a v d):Rp (okK p H0 own Hb (norm k d)) a v d:=by
 by_cases h:cM d=true
 ·rw[bL h];exact r.imm h
 ·rw[bM h];exact r
def iy(A:At p H0 own Hb H)(k:Kp p H H'):∀a xs,H a=some (.tup xs)->H' a=some (.tup xs):=λa xs h=>k a _ h λz=>by
 let⟨o,e,n⟩:=p.is H a A.pen z;rw[h]at e;exact n.1 xs (Ô e).symm
def iK(A:At p H0 own Hb H)(k:Kp p H H'){j:Kd}{v:V}{d:D}(r:Rp (okK p H0 own Hb j) H v d):Rp (okK p H0 own Hb j) H' v d :=
 r.mono (λ_ o=>o) (λa o h e=>k a o e (mq A h)) (iy A k)
def cJ(A:At p H0 own Hb H)(k:Kp p H H'){j:Kd}{v:List V}{d:List D}(r:Rps (okK p H0 own Hb j) H v d):Rps (okK p H0 own Hb j) H' v d :=
 r.mono (λ_ o=>o) (λa o h e=>k a o e (mq A h)) (iy A k)
def At.go(A:At p H0 own Hb H)(k:Kp p H H')(i:p.PI H'):At p H0 own Hb H':=⟨A.k0,A.kp.trans k,A.penb,i,A.ow⟩
def At.base{a:Hp}(A:At p H0 own Hb H)(B:At p H0 own H a):At p H0 own Hb a:=⟨A.k0,A.kp.trans B.kp,A.penb,B.pen,A.ow⟩
def Ky(A:At p H0 own Hb H){k:Kd}{a:Addr}(o:okK p H0 own H k a):okK p H0 own Hb k a:=by
 cases k <;> first
  |exact o
  |exact A.free o
def jH(A:At p H0 own Hb H){k:Kd}{v:V}{d:D}{b:Hp}(r:Rp (okK p H0 own H k) b v d):Rp (okK p H0 own Hb k) b v d :=
 r.mono (λa o=>Ky A o) (λ_ _ _ e=>e) λ_ _ e=>e
def At.new(A:At p H0 own Hb H){a:Addr}(h:H a=none)(o:HO):Kp p H (upd H a o)/\p.PI (upd H a o)/\okK p H0 own Hb .new a :=
 have s:Same H (upd H a o):=λb u q=>by rw[aj (ao q h)];exact q
 ⟨Kp.of s,p.mono H _ A.pen λb u _ q=>s b u q,A.free h⟩
end
structure RowsH(own:Addr->Option Nat)(r:Nat)(H:Hp)(st:Addr)(as:List Addr)(L:List (List D)):Prop where
 top:H st=some (.lst (as.map V.ref))
 nd:(st::as).Nodup
 ow:∀a∈st::as,own a=some r
 len:⇑as=⇑L
 row:∀(j:Nat)(a:Addr)(ds:List D),as[j]?=some a->L[j]?=some ds->∃vs,H a=some (.lst vs)/\Rps (λ_=>False) H vs ds
def RowsH.mono{own b:Addr->Option Nat}{r:Nat}{H d:Hp}{st:Addr}{f:List Addr}{L:List (List D)}(h:RowsH own r H st f L)(g:∀a o,own a=some r->H a=some o->b a=some r/\d a=some o)(t:∀a xs,H a=some (.tup xs)->d a=some (.tup xs)):RowsH b r d st f L:=by
 have c:∀a∈st::f,∃o,H a=some o:=λa ha=>by
  rcases Û.mp ha with rfl|ha
  ·exact⟨_,h.top⟩
  ·let⟨j,i⟩:=ė ha;have hl:=(Æ.mp i).1;let⟨vs,e,_⟩:=h.row j a _ i (Ë (by rw[←h.len];exact hl));exact⟨_,e⟩
 refine⟨(g st _ (h.ow st Ó) h.top).2,h.nd,λa ha=>?_,h.len,λj a ds e1 e2=>?_⟩
 ·let⟨o,e⟩:=c a ha;exact(g a o (h.ow a ha) e).1
 ·let⟨vs,e,k⟩:=h.row j a ds e1 e2;exact⟨vs,(g a _ (h.ow a (Í _ (Ê e1))) e).2,k.mono (λ_ o=>o) (λ_ _ o=>o.elim) t⟩
theorem n6{ok:Addr->Prop}{H:Hp}:∀(c:List Addr)(L:List (List D)),⇑c=⇑L->(∀a∈c,ok a)->(∀(j:Nat)(a:Addr)(ds:List D),c[j]?=some a->L[j]?=some ds->∃vs,H a=some (.lst vs)/\Rps (λ_=>False) H vs ds)->Rps ok H (c.map V.ref) (L.map ē)
 |[],[],_,_,_=>.nil
 |a::c,d::L,hl,h,r=>by
  let⟨vs,e,f⟩:=r 0 a d rfl rfl;exact .cons (.lst (h a Ó) e (f.mono (λ_ o=>o.elim) (λ_ _ o=>o.elim) λ_ _ e=>e)) (n6 c L (by simpa using hl) (λb hb=>h b (Í _ hb)) λj b ds e1 e2=>r (j+1) b ds e1 e2)
 |[],_::_,hl,_,_=>by cases hl
 |_::_,[],hl,_,_=>by cases hl
def RowsH.rp{own:Addr->Option Nat}{r:Nat}{H:Hp}{st:Addr}{b:List Addr}{L:List (List D)}(h:RowsH own r H st b L):Rp (λa=>own a=some r) H (.ref st) (.list (L.map ē)) :=
 .lst (h.ow st Ó) h.top (n6 b L h.len (λa ha=>h.ow a (Í _ ha)) h.row)
structure RowsT(own:Addr->Option Nat)(r:Nat)(H:Hp)(st:Addr)(as:List Addr)(L:List (List D)):Prop where
 top:H st=some (.tup (as.map V.ref))
 nd:as.Nodup
 ow:∀a∈as,own a=some r
 len:⇑as=⇑L
 row:∀(j:Nat)(a:Addr)(ds:List D),as[j]?=some a->L[j]?=some ds->∃vs,H a=some (.lst vs)/\Rps (λ_=>False) H vs ds
def RowsT.mono{own b:Addr->Option Nat}{r:Nat}{H c:Hp}{st:Addr}{d:List Addr}{L:List (List D)}(h:RowsT own r H st d L)(g:∀a o,own a=some r->H a=some o->b a=some r/\c a=some o)(t:∀a xs,H a=some (.tup xs)->c a=some (.tup xs)):RowsT b r c st d L:=by
 refine⟨t st _ h.top,h.nd,λa ha=>?_,h.len,λj a ds e1 e2=>?_⟩
 ·let⟨j,f⟩:=ė ha;have hl:=(Æ.mp f).1;let⟨vs,e,_⟩:=h.row j a _ f (Ë (by rw[←h.len];exact hl));exact(g a _ (h.ow a ha) e).1
 ·let⟨vs,e,i⟩:=h.row j a ds e1 e2;exact⟨vs,(g a _ (h.ow a (Ê e1)) e).2,i.mono (λ_ o=>o) (λ_ _ o=>o.elim) t⟩
def RowsT.rp{own:Addr->Option Nat}{r:Nat}{H:Hp}{st:Addr}{b:List Addr}{L:List (List D)}(h:RowsT own r H st b L):Rp (λa=>own a=some r) H (.ref st) (.tuple (L.map ē)) :=
 .tup h.top (n6 b L h.len h.ow h.row)
def okS(p:Pn)(c:Hp)(own:Addr->Option Nat)(b:Bool)(a:Addr):Prop:=(b=true->c a=none)/\¬p.fp a/\own a=none
def jC(p:Pn)(c:Hp)(own:Addr->Option Nat)(σ:L2.St)(H:Hp)(i:Nat):Sl->Prop
 |.any=>True
 |.im d=>∃v,σ[i]?=some (some v)/\Rp (λ_=>False) H v d
 |.sh d=>∃v,σ[i]?=some (some v)/\Rp (λa=>¬p.fp a/\own a=none) H v d
 |.sn d=>∃v,σ[i]?=some (some v)/\Rp (λa=>c a=none/\¬p.fp a/\own a=none) H v d
 |.dw r d=>∃v,σ[i]?=some (some v)/\Rp (λa=>own a=some r) H v d
 |.pen C=>σ[i]?=some (some p.pv)/\C p
 |.rw r L=>∃st as,σ[i]?=some (some (.ref st))/\RowsH own r H st as L
 |.tw r L=>∃st as,σ[i]?=some (some (.ref st))/\RowsT own r H st as L
 |.scr v b=>σ[i]?=some (some v)/\(b=true->p=pZ)
 |.sp r b ds=>∃l vs,σ[i]?=some (some (.ref l))/\own l=some r/\H l=some (.lst vs)/\Rps (okS p c own b) H vs ds
structure EnvD[Gr](p:Pn)(H0:Hp)(own:Addr->Option Nat)(σ:L2.St)(H:Hp)(ρ:List Sl):Prop where
 k0:∀b o,H0 b=some o->¬p.fp b->H b=some o
 pen:p.PI H
 ow:∀a r,own a=some r->H0 a=none/\¬p.fp a/\H a≠none
 slot:∀i s,ρ[i]?=some s->jC p H0 own σ H i s
 len:⇑ρ=⇑σ
 gr:Gr.G p H0
variable [Gr]
section
variable{p:Pn}{H0 H H':Hp}{own:Addr->Option Nat}{σ:L2.St}{ρ:List Sl}
def EnvD.at(E:EnvD p H0 own σ H ρ):At p H0 own H H:=⟨E.k0,Kp.refl,E.pen,E.pen,E.ow⟩
def EnvD.go(E:EnvD p H0 own σ H ρ)(k:Kp p H H')(i:p.PI H'):EnvD p H0 own σ H' ρ:=by
 have A:=E.at;have f:=iy A k;refine⟨λb o e n=>k b o (E.k0 b o e n) n,i,λa r e=>?_,λj s e=>?_,E.len,E.gr⟩
 ·let⟨h1,h2,g⟩:=E.ow a r e;refine⟨h1,h2,λz=>?_⟩;cases q:H a with
  |none=>exact g q
  |some o=>rw[k a o q h2]at z;cases z
 ·have q:=E.slot j s e;cases s with
  |any=>trivial
  |im d=>exact let⟨v,a,b⟩:=q;⟨v,a,b.mono (λ_ o=>o) (λ_ _ o=>o.elim) f⟩
  |sh d=>exact let⟨v,a,b⟩:=q;⟨v,a,b.mono (λ_ o=>o) (λc u o e=>k c u e o.1) f⟩
  |sn d=>exact let⟨v,a,b⟩:=q;⟨v,a,b.mono (λ_ o=>o) (λc u o e=>k c u e o.2.1) f⟩
  |dw r d=>exact let⟨v,a,b⟩:=q;⟨v,a,b.mono (λ_ o=>o) (λc u o e=>k c u e (E.ow c r o).2.1) f⟩
  |pen C=>exact q
  |rw r L=>exact let⟨st,as,a,b⟩:=q;⟨st,as,a,b.mono (λc u o e=>⟨o,k c u e (E.ow c r o).2.1⟩) f⟩
  |tw r L=>exact let⟨st,as,a,b⟩:=q;⟨st,as,a,b.mono (λc u o e=>⟨o,k c u e (E.ow c r o).2.1⟩) f⟩
  |scr v b=>exact q
  |sp r b ds=>exact let⟨l,vs,a,o,h,z⟩:=q;⟨l,vs,a,o,k l _ h (E.ow l r o).2.1,z.mono (λ_ o=>o) (λc u o e=>k c u e o.2.1) f⟩
end
abbrev DK:=Kd->D->Prop
abbrev DE:=List Sl->DK->Prop
def aU(t:DE):TE:=λσ H Q=>∃p H0 own ρ P,EnvD p H0 own σ H ρ/\t ρ P/\∀k d v H',P k d->At p H0 own H H'->Rp (okK p H0 own H k) H' v d->Q v H'
abbrev PD(X:Cx)(e:Zt)(t:DE):Prop:=PE X e (aU t)
abbrev DA:=List Sl->(List (Kd×D)->Prop)->Prop
inductive RpK(p:Pn)(H0:Hp)(own:Addr->Option Nat)(Hb H:Hp):List V->List (Kd×D)->Prop
 |nil:RpK p H0 own Hb H [] []
 |cons {v:V}{kd:Kd×D}{vs:List V}{ks:List (Kd×D)} (h:Rp (okK p H0 own Hb kd.1) H v kd.2) (t:RpK p H0 own Hb H vs ks):RpK p H0 own Hb H (v::vs) (kd::ks)
def jo(t:DA):TA:=λσ H Q=>∃p H0 own ρ P,EnvD p H0 own σ H ρ/\t ρ P/\∀ks vs H',P ks->At p H0 own H H'->RpK p H0 own H H' vs ks->Q vs H'
abbrev PDA(X:Cx)(es:List Zt)(t:DA):Prop:=PA X es (jo t)
abbrev DT:=List Sl->(Bool->Prop)->Prop
def liftT(t:DT):TT:=λσ H Q=>∃p H0 own ρ P,EnvD p H0 own σ H ρ/\t ρ P/\∀b H',P b->At p H0 own H H'->Q b H'
abbrev PDT(X:Cx)(e:Zt)(t:DT):Prop:=PT X e (liftT t)
def PE.wk{X:Cx}{e:Zt}{t t':TE}(h:PE X e t)(w:∀σ H Q,t' σ H Q->t σ H Q):PE X e t':=λpins s σ H Q I q=>h pins s σ H Q I (w σ H Q q)
def PT.wk{X:Cx}{e:Zt}{t t':TT}(h:PT X e t)(w:∀σ H Q,t' σ H Q->t σ H Q):PT X e t':=λpins s σ H Q I q=>h pins s σ H Q I (w σ H Q q)
def PA.wk{X:Cx}{e:List Zt}{t t':TA}(h:PA X e t)(w:∀σ H Q,t' σ H Q->t σ H Q):PA X e t':=λpos pins s σ H Q I q=>h pos pins s σ H Q I (w σ H Q q)
section
variable{X:Cx}{pos:Pos}{a b:Zt}{ta tb:DE}
theorem RpK.go{p:Pn}{c d H e:Hp}{own:Addr->Option Nat}(A:At p c own d H)(k:Kp p H e):∀{vs:List V}{ks:List (Kd×D)},RpK p c own d H vs ks->RpK p c own d e vs ks
 |_,_,.nil=>.nil
 |_,_,.cons h t=>.cons (iK A k h) (RpK.go A k t)
theorem RpK.base{p:Pn}{c e H d:Hp}{own:Addr->Option Nat}(A:At p c own e H):∀{vs:List V}{ks:List (Kd×D)},RpK p c own H d vs ks->RpK p c own e d vs ks
 |_,_,.nil=>.nil
 |_,_,.cons h t=>.cons (jH A h) (RpK.base A t)
def tV(i:Nat):DE:=λρ P=>match ρ[i]? with
 |some (.im d)=>P .imm d
 |some (.sh d)=>P .shr d
 |some (.sn d)=>P .snw d
 |some (.dw r d)=>P (.reg r) d
 |some (.rw r L)=>P (.reg r) (.list (L.map ē))
 |some (.tw r L)=>P (.reg r) (.tuple (L.map ē))
 |some (.sp r b ds)=>P (if b=true then .n0 else .wk) (.list ds)
 |_=>False
def SN{i:Nat}{x:Str}{ps:Pos}(h:PE X (.Name x ps) (nU i)):PD X (.Name x ps) (tV i):=PE.wk h (by
 rintro σ H Q ⟨p,j,own,ρ,P,E,t,q⟩;unfold tV at t;split at t
 ·rename_i d e;let⟨v,f,r⟩:=E.slot i _ e;exact⟨v,f,q _ _ _ _ t E.at r⟩
 ·rename_i d e;let⟨v,f,r⟩:=E.slot i _ e;exact⟨v,f,q _ _ _ _ t E.at r⟩
 ·rename_i d e;let⟨v,f,r⟩:=E.slot i _ e;exact⟨v,f,q _ _ _ _ t E.at r⟩
 ·rename_i d e;let⟨v,f,r⟩:=E.slot i _ e;exact⟨v,f,q _ _ _ _ t E.at r⟩
 ·rename_i r L e;let⟨st,g,f,h⟩:=E.slot i _ e;exact⟨_,f,q _ _ _ _ t E.at h.rp⟩
 ·rename_i r L e;let⟨st,g,f,h⟩:=E.slot i _ e;exact⟨_,f,q _ _ _ _ t E.at h.rp⟩
 ·rename_i r b ds e;let⟨l,vs,f,o,h,z⟩:=E.slot i _ e;refine⟨_,f,q _ _ _ _ t E.at ?_⟩;cases b with
  |true=>exact .lst ⟨(E.ow l r o).1,(E.ow l r o).2.1⟩ h (z.mono (λc n=>⟨n.1 rfl,n.2.1⟩) (λ_ _ _ e=>e) λ_ _ e=>e)
  |false=>exact .lst (E.ow l r o).2.1 h (z.mono (λc n=>n.2.1) (λ_ _ _ e=>e) λ_ _ e=>e)
 ·exact t.elim)
def tK(d:D):DE:=λ_ P=>P .imm d
def lY{e:Zt}{v:V}{d:D}(h:PE X e (tC v))(r:∀H,Rp (λ_=>False) H v d):PD X e (tK d):=PE.wk h (by
 rintro σ H Q ⟨p,c,own,ρ,P,E,t,q⟩;exact q _ _ _ _ t E.at (r H))
def je{i:Int}{j:Nat}:PD X (.Constant (.int i) j pos) (tK (.int i)):=lY J3 λ_=>.int i
def FQ{i:Bool}{j:Nat}:PD X (.Constant (.bool i) j pos) (tK (.bool i)):=lY Vp λ_=>.bl i
def wW{j:Nat}:PD X (.Constant .none j pos) (tK .none):=lY Sx λ_=>.non
def wU{x:Str}{j:Nat}:PD X (.Constant (.str x) j pos) (tK (.str x)):=lY Ss λ_=>.str x
abbrev G2:=Kd->D->Kd->D->DK->Prop
def t2(g:G2)(ta tb:DE):DE:=λρ P=>ta ρ λk1 d1=>tb ρ λk2 d2=>g k1 d1 k2 d2 P
def Ok2(g:G2)(r:R2):Prop:=∀p H0 own Hb H x y k1 d1 k2 d2 P Q,At p H0 own Hb H->Rp (okK p H0 own Hb k1) H x d1->Rp (okK p H0 own Hb k2) H y d2->g k1 d1 k2 d2 P ->
 (∀k d v H',P k d->Kp p H H'->p.PI H'->Rp (okK p H0 own Hb k) H' v d->Q v H')->r x y H Q
def Ge{g:G2}{r:R2}(ok:Ok2 g r):∀σ H Q,aU (t2 g ta tb) σ H Q->tOp r (aU ta) (aU tb) σ H Q:=by
 rintro σ H Q ⟨p,c,own,ρ,P,E,t,q⟩;refine⟨p,c,own,ρ,_,E,t,λk1 d1 v1 H1 t1 A1 r1=>?_⟩;have e:=E.go A1.kp A1.pen;refine⟨p,c,own,ρ,_,e,t1,λk2 d2 v2 H2 t2 A2 r2=>?_⟩;have A:At p c own H H2:=A1.base A2;exact ok p c own H H2 v1 v2 k1 d1 k2 d2 P Q A (iK A1 A2.kp r1) (jH A1 r2) t2 λk d v H' h k3 i3 r3=>q k d v H' h (A.go k3 i3) r3
def u6{c:Operator}{r:R2}{g:G2}(d:OpR X (Z7 c) r)(ok:Ok2 g r)(ha:PD X a ta)(hb:PD X b tb):PD X (.BinOp a c b pos) (t2 g ta tb):=PE.wk (bU d ha hb) (Ge ok)
def sI{c:ZH}{r:R2}{g:G2}(d:OpR X (ZI c) r)(ok:Ok2 g r)(ha:PD X a ta)(hb:PD X b tb)(hm:ZJ c b=false):PD X (.Compare a [c] [b] pos) (t2 g ta tb):=PE.wk (Oe d ha hb hm) (Ge ok)
def cH(t:DE):DT:=λρ P=>t ρ λ_ d=>match d with
 |.bool b=>P b
 |_=>False
def Ab{t:DE}:∀σ H Q,liftT (cH t) σ H Q->(aU t) σ H (λx H'=>∃k,x=.bl k/\Q k H'):=by
 rintro σ H Q ⟨p,c,own,ρ,P,E,t,q⟩;refine⟨p,c,own,ρ,_,E,t,λk d v H' h A r=>?_⟩;cases d with
 |bool b=>exact⟨b,r.bl',q b H' h A⟩
 |_=>exact h.elim
def dH{c:ZH}{r:R2}{g:G2}(d:OpR X (ZI c) r)(ok:Ok2 g r)(ha:PD X a ta)(hb:PD X b tb)(hm:ZJ c b=false):PDT X (.Compare a [c] [b] pos) (cH (t2 g ta tb)) :=
 PT.wk (lM d ha hb hm) λσ H Q h=>Ge ok σ H _ (Ab σ H Q h)
def wQ{e:Zt}{t:DE}(h:PD X e t)(he:∀whole,ZE e X.env whole=(do let v ←whole;standAt e.pos;holding [v] (ZM v)):=by intro _;rfl):PDT X e (cH t) :=
 PT.wk (RT h he) λσ H Q q=>Ab σ H Q q
def W0(t:DT):DT:=λρ P=>t ρ λb=>P (!b)
def wR{t:DT}(ha:PDT X a t):PDT X (.UnaryOp .Not a pos) (W0 t):=PT.wk (RW ha) (by
 rintro σ H Q ⟨p,c,own,ρ,P,E,t,q⟩;exact⟨p,c,own,ρ,_,E,t,λb H' h A=>q _ H' h A⟩)
abbrev PDW(X:Cx)(e:Zt)(t:DT):Prop:=PW X e (liftT t)
def PW.wk{X:Cx}{e:Zt}{t t':TT}(h:PW X e t)(w:∀σ H Q,t' σ H Q->t σ H Q):PW X e t':=λwh pins s σ H Q I q=>h wh pins s σ H Q I (w σ H Q q)
def Qf(t u:DT):DT:=λρ P=>t ρ λb=>if b=true then u ρ P else P false
def dOr(t u:DT):DT:=λρ P=>t ρ λb=>if b=true then P true else u ρ P
section
variable{rest:List Zt}{t u:DT}
def cW(ha:PDT X a t):PDW X (.BoolOp .And [a] pos) t:=Fy ha
def wO(ha:PDT X a t):PDW X (.BoolOp .Or [a] pos) t:=RN ha
def KY:∀σ H Q,liftT (Qf t u) σ H Q->U9 (liftT t) (liftT u) σ H Q:=by
 rintro σ H Q ⟨p,d,own,ρ,P,E,t,q⟩;refine⟨p,d,own,ρ,_,E,t,λb H' h A=>?_⟩;cases b with
 |true=>exact aB ⟨p,d,own,ρ,P,E.go A.kp A.pen,by simpa using h,λc H2 h2 A2=>q c H2 h2 (A.base A2)⟩
 |false=>exact aD (q false H' (by simpa using h) A)
def O2:∀σ H Q,liftT (dOr t u) σ H Q->tOr (liftT t) (liftT u) σ H Q:=by
 rintro σ H Q ⟨p,d,own,ρ,P,E,t,q⟩;refine⟨p,d,own,ρ,_,E,t,λb H' h A=>?_⟩;cases b with
 |true=>exact aB (q true H' (by simpa using h) A)
 |false=>exact aD ⟨p,d,own,ρ,P,E.go A.kp A.pen,by simpa using h,λc H2 h2 A2=>q c H2 h2 (A.base A2)⟩
def cD(ha:PDT X a t)(hb:PDW X (.BoolOp .And (b::rest) pos) u):PDW X (.BoolOp .And (a::b::rest) pos) (Qf t u):=PW.wk (JL ha hb) KY
def Cu(ha:PDT X a t)(hb:PDW X (.BoolOp .Or (b::rest) pos) u):PDW X (.BoolOp .Or (a::b::rest) pos) (dOr t u):=PW.wk (Vh ha hb) O2
def PDW.pt{e:Zt}{t:DT}(h:PDW X e t):PDT X e t:=PW.pt h
end
end
variable [Gr]
section
variable{X:Cx}{pos:Pos}{a b e:Zt}{es:List Zt}{ta tb te:DE}{t:DA}
def dX:DA:=λ_ P=>P []
def aQ(te:DE)(t:DA):DA:=λρ P=>te ρ λk d=>t ρ λks=>P ((k,d)::ks)
def jL:PDA X [] dX:=PA.wk eZ (by
 rintro σ H Q ⟨p,c,own,ρ,P,E,t,q⟩;exact q [] [] H t E.at .nil)
def eY(ha:PD X e te)(hr:PDA X es t)(hs:zS X e es:=by rfl):PDA X (e::es) (aQ te t):=PA.wk (bZ ha hr hs) (by
 rintro σ H Q ⟨p,c,own,ρ,P,E,t,q⟩;refine⟨p,c,own,ρ,_,E,t,λk d v H1 h A r=>?_⟩;refine⟨p,c,own,ρ,_,E.go A.kp A.pen,h,λks vs H2 h2 A2 r2=>?_⟩;exact q _ _ H2 h2 (A.base A2) (.cons (iK A A2.kp r) (RpK.base A r2)))
def joins:List (Kd×D)->Kd
 |[]=>.imm
 |kd::ks=>kd.1.join (joins ks)
theorem RpK.all{p:Pn}{c d H f:Hp}{own:Addr->Option Nat}(A:At p c own d H):∀{vs:List V}{ks:List (Kd×D)}{k:Kd},(joins ks).le k=true->RpK p c own d f vs ks->Rps (okK p c own d (joins ks)) f vs (ks.map (·.2))
 |_,_,_,_,.nil=>.nil
 |_,kd::ks,k,e,.cons h t=>by
  have j:=dI kd.1 (joins ks);exact .cons (iJ A j.1 h) ((RpK.all A (k:=joins ks) (by cases joins ks <;> simp[Kd.le]) t).mono (λa o=>cY A j.2 o) (λ_ _ _ e=>e) λ_ _ e=>e)
def Kd.le_refl(k:Kd):k.le k=true:=by cases k <;> simp[Kd.le]
theorem RpK.length{p:Pn}{c f d:Hp}{own:Addr->Option Nat}:∀{vs:List V}{ks:List (Kd×D)},RpK p c own f d vs ks->⇑vs=⇑ks
 |_,_,.nil=>rfl
 |_,_,.cons _ t=>by rw[ÿ,ÿ,RpK.length t]
def Qq(t:DA):DE:=λρ P=>t ρ λks=>⇑ks<=1000/\P ((joins ks).join .new) (.list (ks.map (·.2)))
def kh(t:DA):DE:=λρ P=>t ρ λks=>⇑ks<=1000/\P (norm (joins ks) (.tuple (ks.map (·.2)))) (.tuple (ks.map (·.2)))
def qO(h:PDA X es t):PD X (.List es pos) (Qq t):=PE.wk (wM h) (by
 rintro σ H Q ⟨p,d,own,ρ,P,E,t,q⟩;refine⟨p,d,own,ρ,_,E,t,λks vs H1 h A r=>?_⟩;have f:=ü;have hl:=⇑r;refine⟨by have:=h.1;lia,λl hl=>?_⟩;let⟨c,g,i⟩:=A.new hl (.lst vs);have j:=dI (joins ks) .new;refine q _ _ _ _ h.2 (A.go c g) (.lst (cY A j.2 i) aq ?_);exact(cJ A c (RpK.all A (Kd.le_refl _) r)).mono (λa o=>cY A j.1 o) (λ_ _ _ e=>e) λ_ _ e=>e)
def lU{x1}(h:PDA X es t):PD X (.Tuple es x1 pos) (kh t):=PE.wk (Sq h) (by
 rintro σ H Q ⟨p,d,own,ρ,P,E,t,q⟩;refine⟨p,d,own,ρ,_,E,t,λks vs H1 h A r=>?_⟩;have f:=ü;have hl:=⇑r;refine⟨by have:=h.1;lia,λl hl=>?_⟩;let⟨c,g,i⟩:=A.new hl (.tup vs);exact q _ _ _ _ h.2 (A.go c g) (aX (.tup aq (cJ A c (RpK.all A (Kd.le_refl _) r)))))
abbrev GC:=List (Kd×D)->DK->Prop
def tCl(g:GC)(t:DA):DE:=λρ P=>t ρ λks=>g ks P
def OkC(g:GC)(r:List V->Hp->VK->Prop):Prop:=∀p H0 own Hb H vs ks P Q,At p H0 own Hb H->RpK p H0 own Hb H vs ks->g ks P ->
 (∀k d v H',P k d->Kp p H H'->p.PI H'->Rp (okK p H0 own Hb k) H' v d->Q v H')->r vs H Q
def QL{g:GC}{r:List V->Hp->VK->Prop}(ok:OkC g r):∀σ H Q,aU (tCl g t) σ H Q->tCB r (jo t) σ H Q:=by
 rintro σ H Q ⟨p,c,own,ρ,P,E,t,q⟩;refine⟨p,c,own,ρ,_,E,t,λks vs H1 h A r=>?_⟩;exact ok p c own H H1 vs ks P Q A r h λk d v H' h2 k2 i2 r2=>q k d v H' h2 (A.go k2 i2) r2
def cA{r:List V->Hp->VK->Prop}{id:String}{x:Str}{ps:Pos}{g:GC}(hc:bC X (.builtin id) r)(ok:OkC g r)(hg:Gl X x)(hm:X.mg x=none)(hv:Zq x=some (.builtin id))(ha:PDA X (e::es) t)(hn:x≠"__name__":=by decide)(hdb:zB x:=by decide)(he:zS X e es:=by rfl)(hpl:zP X pos es:=by rfl):PD X (.Call (.Name x ps) (e::es) [] pos) (tCl g t):=PE.wk (cV hc hg hm hv ha hn hdb he hpl) (QL ok)
def zx{r:List V->Hp->VK->Prop}{id:String}{x:Str}{ps:Pos}{g:GC}(hc:bC X (.type id) r)(ok:OkC g r)(hg:Gl X x)(hm:X.mg x=none)(hv:Zq x=some (.type id))(ha:PDA X (e::es) t)(hn:x≠"__name__":=by decide)(hdb:zB x:=by decide)(he:zS X e es:=by rfl)(hpl:zP X pos es:=by rfl):PD X (.Call (.Name x ps) (e::es) [] pos) (tCl g t):=PE.wk (uY hc hg hm hv ha hn hdb he hpl) (QL ok)
def spD(t:List D->(D->Prop)->Prop):Sp:=λvs H Q _=>∃ds P,Rps (λ_=>True) H vs ds/\t ds P/\∀d v H',P d->Same H H'->Rp (λa=>H a=none) H' v d->Q v H'
def spP(C:Pn->Prop)(t:List D->(D->Prop)->Prop):Sp:=λvs H Q _=>∃p vs' ds P,C p/\vs=p.pv::vs'/\p.PI H/\Rps (λa=>¬p.fp a) H vs' ds/\t ds P/\∀d v H',P d->Kp p H H'->p.PI H'->Rp (λa=>H a=none) H' v d->Q v H'
def tFn(f:List D->(D->Prop)->Prop)(t:DA):DE:=λρ P=>t ρ λks=>f (ks.map (·.2)) λd=>P (norm .new d) d
theorem RpK.rps{p:Pn}{c f H d:Hp}{own:Addr->Option Nat}(A:At p c own f H):∀{vs:List V}{ks:List (Kd×D)},RpK p c own f d vs ks->Rps (λa=>¬p.fp a) d vs (ks.map (·.2))
 |_,_,.nil=>.nil
 |_,_,.cons h t=>.cons (h.mono (λa o=>mq A o) (λ_ _ _ e=>e) λ_ _ e=>e) (RpK.rps A t)
def O4{f:List D->(D->Prop)->Prop}:∀σ H Q,aU (tFn f t) σ H Q->Ez (spD f) [] E0 (jo t) σ H Q:=by
 rintro σ H Q ⟨p,c,own,ρ,P,E,t,q⟩;refine⟨p,c,own,ρ,_,E,t,λks vs H1 h A r=>?_⟩;show spD f (vs++[]) H1 Q E0;rw[Ĕ];refine⟨ks.map (·.2),_,(RpK.rps A r).mono (λ_ _=>trivial) (λ_ _ _ e=>e) λ_ _ e=>e,h,λd v H' h2 s r2=>?_⟩;have g:Kp p H1 H':=Kp.of s;refine q _ d v H' h2 (A.go g (p.mono H1 H' A.pen λb o _ e=>s b o e)) (aX ?_);exact r2.mono (λa o=>A.free o) (λ_ _ _ e=>e) λ_ _ e=>e
def GX(C:Pn->Prop)(f:List D->(D->Prop)->Prop)(i:Nat)(t:DA):DE:=λρ P=>ρ[i]?=some (.pen C)/\tFn f t ρ P
def KR{C:Pn->Prop}{f:List D->(D->Prop)->Prop}{i:Nat}:∀σ H Q,aU (GX C f i t) σ H Q->Ez (spP C f) [] E0 (yO (nU i) (jo t)) σ H Q:=by
 rintro σ H Q ⟨p,g,own,ρ,P,E,⟨hp,t⟩,q⟩;let⟨hs,c⟩:=E.slot i _ hp;refine⟨p.pv,hs,p,g,own,ρ,_,E,t,λks vs H1 h A r=>?_⟩;show spP C f ((p.pv::vs)++[]) H1 Q E0;rw[Ĕ];refine⟨p,vs,ks.map (·.2),_,c,rfl,A.pen,RpK.rps A r,h,λd v H' h2 k2 i2 r2=>?_⟩;exact q _ d v H' h2 (A.go k2 i2) (aX (r2.mono (λa o=>A.free o) (λ_ _ _ e=>e) λ_ _ e=>e))
def gI(C:Int->Int->Prop)(f:Int->Int->D):G2:=λ_ d1 _ d2 P=>match d1,d2 with
 |.int i,.int j=>C i j/\P .imm (f i j)
 |_,_=>False
def gI0(f:Int->Int->D):G2:=λ_ d1 _ d2 P=>match d1,d2 with
 |.int i,.int j=>P .imm (f i j)
 |_,_=>False
def okI{C:Int->Int->Prop}{f:Int->Int->D}{g:Int->Int->V}(h:∀i j H,Rp (λ_=>False) H (g i j) (f i j)):Ok2 (gI C f) (rI C g):=by
 intro p k own l H x y o m r n P Q A c d t q;unfold gI at t;split at t
 ·rename_i i j;exact⟨i,j,c.int',d.int',t.1,q _ _ _ _ t.2 Kp.refl A.pen (h i j H)⟩
 ·exact t.elim
def Hl{f:Int->Int->D}{g:Int->Int->V}(h:∀i j H,Rp (λ_=>False) H (g i j) (f i j)):Ok2 (gI0 f) (rI0 g):=by
 intro p k own l H x y o m r n P Q A c d t q;unfold gI0 at t;split at t
 ·rename_i i j;exact⟨i,j,c.int',d.int',q _ _ _ _ t Kp.refl A.pen (h i j H)⟩
 ·exact t.elim
def fO(ha:PD X a ta)(hb:PD X b tb):PD X (.BinOp a .Sub b pos) (t2 (gI0 λi j=>.int (i - j)) ta tb):=u6 S5 (Hl λi j _=>.int _) ha hb
def qP(ha:PD X a ta)(hb:PD X b tb):PD X (.BinOp a .FloorDiv b pos) (t2 (gI Ur λi j=>.int (i / j)) ta tb):=u6 qT (okI λi j _=>.int _) ha hb
def rZ(ha:PD X a ta)(hb:PD X b tb):PD X (.BinOp a .Mod b pos) (t2 (gI (λ_ j=>0<j) λi j=>.int (i % j)) ta tb):=u6 iu (okI λi j _=>.int _) ha hb
def zu(ha:PD X a ta)(hb:PD X b tb):PD X (.Compare a [.Gt] [b] pos) (t2 (gI0 λi j=>.bool (decide (j<i))) ta tb):=sI FT (Hl λi j _=>.bl _) ha hb (cL _)
def rR(ha:PD X a ta)(hb:PD X b tb):PDT X (.Compare a [.Lt] [b] pos) (cH (t2 (gI0 λi j=>.bool (decide (i<j))) ta tb)):=dH Kh (Hl λi j _=>.bl _) ha hb (cL _)
def Cv(ha:PD X a ta)(hb:PD X b tb):PDT X (.Compare a [.Gt] [b] pos) (cH (t2 (gI0 λi j=>.bool (decide (j<i))) ta tb)):=dH FT (Hl λi j _=>.bl _) ha hb (cL _)
def Cw(ha:PD X a ta)(hb:PD X b tb):PDT X (.Compare a [.GtE] [b] pos) (cH (t2 (gI0 λi j=>.bool (decide (j<=i))) ta tb)):=dH Qz (Hl λi j _=>.bl _) ha hb (cL _)
def scD:D->D->Option Bool
 |.int i,.int j=>some (decide (i=j))
 |.bool i,.bool j=>some (decide (i=j))
 |.str i,.str j=>some (decide (i=j))
 |_,_=>none
def gEq(neg:Bool):G2:=λ_ d1 _ d2 P=>match scD d1 d2 with
 |some b=>P .imm (.bool (if neg then !b else b))
 |none=>False
def Xm:Ok2 (gEq false) rEq:=by
 intro p g own h H x y m k n l P Q A d f t q;unfold gEq scD at t;split at t
 ·rename_i b e;split at e <;> first|cases e|skip
  ·rw[d.int',f.int'];refine⟨rfl,?_⟩;have c:∀i j:Int,decide (V.int i=V.int j)=decide (i=j):=λi j=>by simp
   rw[c];exact q _ _ _ _ t Kp.refl A.pen (.bl _)
  ·rw[d.bl',f.bl'];refine⟨rfl,?_⟩;have c:∀i j:Bool,decide (V.bl i=V.bl j)=decide (i=j):=λi j=>by simp
   rw[c];exact q _ _ _ _ t Kp.refl A.pen (.bl _)
  ·rw[d.str',f.str'];refine⟨rfl,?_⟩;have c:∀i j:Str,decide (V.str i=V.str j)=decide (i=j):=λi j=>by simp
   rw[c];exact q _ _ _ _ t Kp.refl A.pen (.bl _)
 ·exact t.elim
def Xl:Ok2 (gEq true) rNe:=by
 intro p g own h H x y m k n l P Q A d f t q;unfold gEq scD at t;split at t
 ·rename_i b e;split at e <;> first|cases e|skip
  ·rw[d.int',f.int'];refine⟨rfl,?_⟩;have c:∀i j:Int,decide (V.int i=V.int j)=decide (i=j):=λi j=>by simp
   rw[c];exact q _ _ _ _ t Kp.refl A.pen (.bl _)
  ·rw[d.bl',f.bl'];refine⟨rfl,?_⟩;have c:∀i j:Bool,decide (V.bl i=V.bl j)=decide (i=j):=λi j=>by simp
   rw[c];exact q _ _ _ _ t Kp.refl A.pen (.bl _)
  ·rw[d.str',f.str'];refine⟨rfl,?_⟩;have c:∀i j:Str,decide (V.str i=V.str j)=decide (i=j):=λi j=>by simp
   rw[c];exact q _ _ _ _ t Kp.refl A.pen (.bl _)
 ·exact t.elim
def gIx:G2:=λk1 d1 _ d2 P=>match d1,d2 with
 |.list ds,.int i=>∃d,atI ds i=some d/\P (norm k1 d) d
 |.tuple ds,.int i=>∃d,atI ds i=some d/\P (norm k1 d) d
 |_,_=>False
def Rps.atI{ok:Addr->Prop}{H:Hp}{vs:List V}{ds:List D}{i:Int}{d:D}(r:Rps ok H vs ds)(h:L2.atI ds i=some d):∃v,L2.atI vs i=some v/\Rp ok H v d:=by
 unfold L2.atI at h ⊢;rw[⇑r];cases e:ixN ⇑ds i with
 |none=>rw[e]at h;cases h
 |some j =>
  rw[e]at h;let⟨v,h1,h2⟩:=r.getD (i:=j) (d:=d) h;exact⟨v,h1,h2⟩
def dh{p:Pn}{d f H:Hp}{own:Addr->Option Nat}{vs:List V}{c:Kd×D}(r:RpK p d own f H vs [c]):∃v,vs=[v]/\Rp (okK p d own f c.1) H v c.2:=by
 cases r with
 |cons h t=>cases t;exact⟨_,rfl,h⟩
def JB{p:Pn}{c d H:Hp}{own:Addr->Option Nat}{vs:List V}{f g:Kd×D}(r:RpK p c own d H vs [f,g]):∃v w,vs=[v,w]/\Rp (okK p c own d f.1) H v f.2/\Rp (okK p c own d g.1) H w g.2:=by
 cases r with
 |cons h t =>
  cases t with
  |cons h2 t2=>cases t2;exact⟨_,_,rfl,h,h2⟩
def PX:GC:=λks P=>match ks with
 |[(_,.list ds)]=>P .imm (.int ⇑ds)
 |[(_,.tuple ds)]=>P .imm (.int ⇑ds)
 |_=>False
def Vv{K:á}:OkC PX (λxs H Q=>∃p ys,xs=[.ref p]/\(SqL K H p ys\/SqT K H p ys)/\Q (.int ⇑ys) H):=by
 intro p g own h H vs ks P Q A r t q;unfold PX at t;split at t
 ·let⟨v,rfl,d⟩:=dh r;let⟨c,vs,rfl,o,hc,f⟩:=d.bD;exact⟨c,vs,rfl,.inl (SqL.of hc),by rw[⇑f];exact q _ _ _ _ t Kp.refl A.pen (.int _)⟩
 ·let⟨v,rfl,d⟩:=dh r;let⟨c,vs,rfl,hc,f⟩:=d.eV;exact⟨c,vs,rfl,.inr (SqT.of hc),by rw[⇑f];exact q _ _ _ _ t Kp.refl A.pen (.int _)⟩
 ·exact t.elim
def CG{ps:Pos}(hm:X.mg "len"=none)(ha:PDA X [a] t)(hg:Gl X "len":=by rfl)(he:zS X a []:=by rfl)(hpl:zP X pos []:=by rfl):PD X (.Call (.Name "len" ps) [a] [] pos) (tCl PX t) :=
 cA eF Vv hg hm PySem.boot_len ha ∅ ∅ he hpl
def T9:GC:=λks P=>match ks with
 |[(_,.int i)]=>P .imm (.int i)
 |[(_,.bool b)]=>P .imm (.int (if b then 1 else 0))
 |_=>False
def jM{ps:Pos}(hm:X.mg "int"=none)(hv:Zq "int"=some (.type "int"))(ha:PDA X [a] t)(hg:Gl X "int":=by rfl)(he:zS X a []:=by rfl)(hpl:zP X pos []:=by rfl):PD X (.Call (.Name "int" ps) [a] [] pos) (tCl T9 t) :=
 zx Im (by
  intro p d own f H vs ks P Q A r t q;unfold T9 at t;split at t
  ·rename_i k i;let⟨v,rfl,c⟩:=dh r;rw[c.int'];exact .inl ⟨i,rfl,q _ _ _ _ t Kp.refl A.pen (.int _)⟩
  ·rename_i k i;let⟨v,rfl,c⟩:=dh r;rw[c.bl'];exact .inr ⟨i,rfl,q _ _ _ _ t Kp.refl A.pen (.int _)⟩
  ·exact t.elim) hg hm hv ha ∅ ∅ he hpl
end
variable [Gr]
section
variable{ok ok':Addr->Prop}{H H':Hp}
mutual
theorem Rp.bN(f:∀a o,ok a->H a=some o->ok' a/\H' a=some o)(t:∀a xs,H a=some (.tup xs)->H' a=some (.tup xs)):∀{v:V}{d:D},Rp ok H v d->Rp ok' H' v d
 |_,_,.non=>.non
 |_,_,.bl b=>.bl b
 |_,_,.int i=>.int i
 |_,_,.str x=>.str x
 |_,_,.lst o h r=>.lst (f _ _ o h).1 (f _ _ o h).2 (Rps.bN f t r)
 |_,_,.tup h r=>.tup (t _ _ h) (Rps.bN f t r)
 |_,_,.dct o h r=>.dct (f _ _ o h).1 (f _ _ o h).2 (Rkv.bN f t r)
theorem Rps.bN(f:∀a o,ok a->H a=some o->ok' a/\H' a=some o)(t:∀a xs,H a=some (.tup xs)->H' a=some (.tup xs)):∀{v:List V}{d:List D},Rps ok H v d->Rps ok' H' v d
 |_,_,.nil=>.nil
 |_,_,.cons h r=>.cons (Rp.bN f t h) (Rps.bN f t r)
theorem Rkv.bN(f:∀a o,ok a->H a=some o->ok' a/\H' a=some o)(t:∀a xs,H a=some (.tup xs)->H' a=some (.tup xs)):∀{v:List (Key×V)}{d:List (D×D)},Rkv ok H v d->Rkv ok' H' v d
 |_,_,.nil=>.nil
 |_,_,.cons h r=>.cons (Rp.bN f t h) (Rkv.bN f t r)
end
end
structure DEnds where
 nx:List Sl->Prop
 rt:D->Prop
 bk:List Sl->Prop:=λ_=>False
 ct:List Sl->Prop:=λ_=>False
abbrev DS:=DEnds->List Sl->Prop
structure FrS(p:Pn)(own:Addr->Option Nat)(H:Hp)(own':Addr->Option Nat)(H':Hp):Prop where
 keep:∀b o,H b=some o->¬p.fp b->own b=none->H' b=some o/\own' b=none
 tup:∀a xs,H a=some (.tup xs)->H' a=some (.tup xs)
def FrS.trans{p:Pn}{i j k:Addr->Option Nat}{d f g:Hp}(a:FrS p i d j f)(b:FrS p j f k g):FrS p i d k g:=⟨λc o h n e=>let⟨x,y⟩:=a.keep c o h n e;b.keep c o x n y,λc xs e=>b.tup c xs (a.tup c xs e)⟩
def FrS.refl{p:Pn}{b:Addr->Option Nat}{a:Hp}:FrS p b a b a:=⟨λ_ _ h _ e=>⟨h,e⟩,λ_ _ e=>e⟩
def At.tups{p:Pn}{c H b:Hp}{own:Addr->Option Nat}(A:At p c own H b):∀a xs,H a=some (.tup xs)->b a=some (.tup xs):=iy (⟨A.k0,Kp.refl,A.penb,A.penb,A.ow⟩:At p c own H H) A.kp
structure RPost(p:Pn)(H0 H':Hp)(v:V)(d:D):Prop where
 k0:∀b o,H0 b=some o->¬p.fp b->H' b=some o
 pen:p.PI H'
 rp:Rp (λa=>H0 a=none/\¬p.fp a) H' v d
structure Wish(p:Pn)(H0:Hp)(own:Addr->Option Nat)(H:Hp)(P:DEnds)(Q:Ends):Prop where
 nx:∀own' σ' H' ρ',EnvD p H0 own' σ' H' ρ'->FrS p own H own' H'->P.nx ρ'->Q.nx σ' H'
 rt:∀d v H',P.rt d->RPost p H0 H' v d->Q.rt v H'
 bk:∀own' σ' H' ρ',EnvD p H0 own' σ' H' ρ'->FrS p own H own' H'->P.bk ρ'->Q.bk σ' H'
 ct:∀own' σ' H' ρ',EnvD p H0 own' σ' H' ρ'->FrS p own H own' H'->P.ct ρ'->Q.ct σ' H'
def Wish.go{p:Pn}{c H b:Hp}{own a:Addr->Option Nat}{P:DEnds}{Q:Ends}(w:Wish p c own H P Q)(f:FrS p own H a b):Wish p c a b P Q :=
 ⟨λo s h r e g n=>w.nx o s h r e (f.trans g) n,w.rt,λo s h r e g n=>w.bk o s h r e (f.trans g) n,λo s h r e g n=>w.ct o s h r e (f.trans g) n⟩
def mO(t:DS):TS:=λQ σ H=>∃p H0 own ρ P,EnvD p H0 own σ H ρ/\t P ρ/\Wish p H0 own H P Q
abbrev PDS(X:Cx)(st:ZF)(t:DS):Prop:=PS X st (mO t)
abbrev lg(X:Cx)(st:List ZF)(t:DS):Prop:=PSs X st (mO t)
def PSs.wk'{X:Cx}{a:List ZF}{t t':TS}(h:PSs X a t)(w:∀D σ H,t' D σ H->t D σ H):PSs X a t':=λpins s σ H D I q=>h pins s σ H D I (w D σ H q)
def PS.wk'{X:Cx}{a:ZF}{t t':TS}(h:PS X a t)(w:∀D σ H,t' D σ H->t D σ H):PS X a t':=λpins s σ H D I q=>h pins s σ H D I (w D σ H q)
def At.frs{p:Pn}{c H a:Hp}{own:Addr->Option Nat}(A:At p c own H a):FrS p own H own a:=⟨λb o h n e=>⟨A.kp b o h n,e⟩,A.tups⟩
section
variable{X:Cx}{pos:Pos}{st:ZF}{rest:List ZF}{e:Zt}{te:DE}{t u:DS}
def nG:DS:=λP ρ=>P.nx ρ
def iR(t u:DS):DS:=λP ρ=>t { P with nx:=u P } ρ
def DY:lg X [] nG:=PSs.wk' qK (by
 rintro Q σ H ⟨p,a,own,ρ,P,E,t,w⟩;exact w.nx own σ H ρ E FrS.refl t)
def yd(h1:PDS X st t)(h2:lg X rest u):lg X (st::rest) (iR t u):=PSs.wk' (bG h1 h2) (by
 rintro Q σ H ⟨p,a,own,ρ,P,E,t,w⟩;exact⟨p,a,own,ρ,_,E,t,⟨λo s h r e g n=>⟨p,a,o,r,P,e,n,w.go g⟩,w.rt,w.bk,w.ct⟩⟩)
def pC(h1:PDS X st t):lg X [st] t:=lN h1
def nD:PDS X st (λ_ _=>False):=PS.wk' JR (by
 rintro Q σ H ⟨p,a,own,ρ,P,E,t,w⟩;exact t)
def yq(te:DE):DS:=λP ρ=>te ρ λk d=>k.le .n0=true/\P.rt d
def pB(he:PD X e te):PDS X (.Return (some e) pos) (yq te):=PS.wk' (wI he) (by
 rintro Q σ H ⟨p,a,own,ρ,P,E,t,w⟩;refine⟨p,a,own,ρ,_,E,t,λk d v H' h A r=>w.rt d v H' h.2 ⟨λb o e n=>A.kp b o (A.k0 b o e n) n,A.pen,?_⟩⟩;exact iJ A h.1 r)
def dIf(c:DT)(t u:DS):DS:=λP ρ=>c ρ λb=>if b=true then t P ρ else u P ρ
theorem Mh{c:Zt}{a b:List ZF}{f:DT}(hc:PDT X c f)(ha:lg X a t)(hb:lg X b u):PDS X (.If c a b pos) (dIf f t u):=PS.wk' (Fz hc ha hb) (by
 rintro Q σ H ⟨p,d,own,ρ,P,E,t,w⟩;refine⟨p,d,own,ρ,_,E,t,λb H' h A=>?_⟩;cases b with
 |true=>exact aB ⟨p,d,own,ρ,P,E.go A.kp A.pen,by simpa using h,w.go A.frs⟩
 |false=>exact aD ⟨p,d,own,ρ,P,E.go A.kp A.pen,by simpa using h,w.go A.frs⟩)
def Rf(te:DE):DS:=λP ρ=>te ρ λ_ _=>P.nx ρ
def yc(he:PD X e te)(hs:ZO e none pos.line X.env=pure false:=by rfl):PDS X (.Expr e pos) (Rf te):=PS.wk' (jK he hs) (by
 rintro Q σ H ⟨p,a,own,ρ,P,E,t,w⟩;exact⟨p,a,own,ρ,_,E,t,λk d v H' h A r=>w.nx own σ H' ρ (E.go A.kp A.pen) A.frs h⟩)
def Sl.region:Sl->Option Nat
 |.dw r _=>some r
 |.rw r _=>some r
 |.tw r _=>some r
 |.sp r _ _=>some r
 |_=>none
def mY(r:Nat)(ρ:List Sl)(i:Nat):Bool:=(ρ.set i .any).all λs=>s.region != some r
def stK(a:Option Nat)(ρ:List Sl)(i:Nat)(k:Kd)(d:D):Option Sl:=match k with
 |.imm=>some (.im d)
 |.new=>match a with
  |some r=>if mY r ρ i=true then some (.dw r d)else none
  |none=>some (.sn d)
 |.reg r=>some (.dw r d)
 |.snw=>some (.sn d)
 |.shr=>some (.sh d)
 |_=>none
def Az(i:Nat)(a:Option Nat)(te:DE):DS:=λP ρ=>te ρ λk d=>match stK a ρ i (norm k d) d with
 |some s=>P.nx (ρ.set i s)
 |none=>False
section
variable{p:Pn}{H0 H H1:Hp}{own:Addr->Option Nat}{σ:L2.St}{ρ:List Sl}{i:Nat}
def EnvD.set{v:V}{s:Sl}(E:EnvD p H0 own σ H ρ)(hs:i<⇑σ->jC p H0 own (σ.set i (some v)) H i s):EnvD p H0 own (σ.set i (some v)) H (ρ.set i s):=by
 refine⟨E.k0,E.pen,E.ow,λj s' e=>?_,by simpa using E.len,E.gr⟩;by_cases a:j=i
 ·subst a;have hl:j<⇑ρ:=by
   have:=(Æ.mp e).1;simpa using this
  rw[ă hl]at e;cases e;exact hs (by rw[←E.len];exact hl)
 ·rw[Ļ (ĝ a)]at e;have q:=E.slot j s' e;have b:(σ.set i (some v))[j]?=σ[j]?:=Ļ (ĝ a);cases s' <;> simp only[jC,b]at q ⊢ <;> exact q
def cO(r:Nat)(H H1:Hp)(own:Addr->Option Nat):Addr->Option Nat:=λa=>match H a,H1 a with
 |none,some _=>some r
 |_,_=>own a
def bF{r:Nat}{a:Addr}{o:HO}(h:H a=some o):cO r H H1 own a=own a:=by unfold cO;rw[h]
def gP{r:Nat}{a:Addr}{o:HO}(h:H a=none)(h1:H1 a=some o):cO r H H1 own a=some r:=by unfold cO;rw[h,h1]
def EnvD.adopt(r:Nat)(E:EnvD p H0 own σ H ρ)(A:At p H0 own H H1):EnvD p H0 (cO r H H1 own) σ H1 ρ:=by
 have g:=iy E.at A.kp;refine⟨λb o e n=>A.kp b o (E.k0 b o e n) n,A.pen,λa q e=>?_,λj s e=>?_,E.len,E.gr⟩
 ·cases h:H a with
  |some o =>
   rw[bF h]at e;let⟨x,y,z⟩:=E.ow a q e;refine⟨x,y,by rw[A.kp a o h y];exact λz=>nomatch z⟩
  |none =>
   cases h1:H1 a with
   |none =>
    have k:own a=some q:=by rw[←e];unfold cO;rw[h,h1]
    exact er h (E.ow a q k).2.2
   |some o=>exact⟨E.at.h0 h,E.at.nfb h,λz=>nomatch z⟩
 ·have q:=E.slot j s e;cases s with
  |any=>trivial
  |im d=>exact let⟨v,a,b⟩:=q;⟨v,a,b.mono (λ_ o=>o) (λ_ _ o=>o.elim) g⟩
  |sh d=>exact let⟨v,a,b⟩:=q;⟨v,a,b.bN (λc o n h=>⟨⟨n.1,by rw[bF h];exact n.2⟩,A.kp c o h n.1⟩) g⟩
  |sn d=>exact let⟨v,a,b⟩:=q;⟨v,a,b.bN (λc o n h=>⟨⟨n.1,n.2.1,by rw[bF h];exact n.2.2⟩,A.kp c o h n.2.1⟩) g⟩
  |dw f d=>exact let⟨v,a,b⟩:=q;⟨v,a,b.bN (λc o n h=>⟨by rw[bF h];exact n,A.kp c o h (E.ow c f n).2.1⟩) g⟩
  |pen C=>exact q
  |rw f L=>exact let⟨st,as,a,b⟩:=q;⟨st,as,a,b.mono (λc o n h=>⟨by rw[bF h];exact n,A.kp c o h (E.ow c f n).2.1⟩) g⟩
  |tw f L=>exact let⟨st,as,a,b⟩:=q;⟨st,as,a,b.mono (λc o n h=>⟨by rw[bF h];exact n,A.kp c o h (E.ow c f n).2.1⟩) g⟩
  |scr v b=>exact q
  |sp f b ds=>exact let⟨l,vs,a,o,h,z⟩:=q;⟨l,vs,a,by rw[bF h];exact o,A.kp l _ h (E.ow l f o).2.1,z.bN (λc u n e=>⟨⟨n.1,n.2.1,by rw[bF e];exact n.2.2⟩,A.kp c u e n.2.1⟩) g⟩
def M6{r:Nat}{k:Kd}{v:V}{d:D}(h:k.le .new=true)(A:At p H0 own H H1)(x:Rp (okK p H0 own H k) H1 v d):Rp (λa=>cO r H H1 own a=some r) H1 v d :=
 (iJ A h x).bN (λa o n e=>⟨gP n e,e⟩) λ_ _ e=>e
def jU{r:Nat}(A:At p H0 own H H1):FrS p own H (cO r H H1 own) H1:=⟨λb o h n e=>⟨A.kp b o h n,by rw[bF h];exact e⟩,A.tups⟩
def EnvD.drop(E:EnvD p H0 own σ H ρ):EnvD p H0 own σ H (ρ.set i .any):=by
 refine⟨E.k0,E.pen,E.ow,λj s' e=>?_,by simpa using E.len,E.gr⟩;by_cases a:j=i
 ·subst a;have hl:j<⇑ρ:=by
   have:=(Æ.mp e).1;simpa using this
  rw[ă hl]at e;cases e;trivial
 ·rw[Ļ (ĝ a)]at e;exact E.slot j s' e
def aP(r:Nat)(own:Addr->Option Nat):Addr->Option Nat:=λa=>if own a=some r then none else own a
def EnvD.clear{r:Nat}(E:EnvD p H0 own σ H ρ)(h:ρ.all (λs=>s.region != some r)=true):EnvD p H0 (aP r own) σ H ρ:=by
 refine⟨E.k0,E.pen,λa q e=>?_,λj s e=>?_,E.len,E.gr⟩
 ·unfold aP at e;split at e
  ·cases e
  ·exact E.ow a q e
 ·have q:=E.slot j s e;have z:=Ħ.mp h s (Ê e);have g:∀a,own a=none->aP r own a=none:=λa n=>by unfold aP;rw[n];simp
  cases s with
  |any=>trivial
  |im d=>exact q
  |sh d=>exact let⟨v,a,b⟩:=q;⟨v,a,b.mono (λc n=>⟨n.1,g c n.2⟩) (λ_ _ _ e=>e) λ_ _ e=>e⟩
  |sn d=>exact let⟨v,a,b⟩:=q;⟨v,a,b.mono (λc n=>⟨n.1,n.2.1,g c n.2.2⟩) (λ_ _ _ e=>e) λ_ _ e=>e⟩
  |dw r' d =>
   have f:r'≠r:=by simpa[Sl.region]using z
   exact let⟨v,a,b⟩:=q;⟨v,a,b.mono (λc n=>by unfold aP;rw[n,em (by simpa using f)]) (λ_ _ _ e=>e) λ_ _ e=>e⟩
  |pen C=>exact q
  |rw r' L =>
   have f:r'≠r:=by simpa[Sl.region]using z
   exact let⟨st,as,a,b⟩:=q;⟨st,as,a,b.mono (λc o n e=>⟨by unfold aP;rw[n,em (by simpa using f)],e⟩) λ_ _ e=>e⟩
  |tw r' L =>
   have f:r'≠r:=by simpa[Sl.region]using z
   exact let⟨st,as,a,b⟩:=q;⟨st,as,a,b.mono (λc o n e=>⟨by unfold aP;rw[n,em (by simpa using f)],e⟩) λ_ _ e=>e⟩
  |scr v b=>exact q
  |sp r' b ds =>
   have f:r'≠r:=by simpa[Sl.region]using z
   exact let⟨l,vs,a,o,h,y⟩:=q;⟨l,vs,a,by unfold aP;rw[o,em (by simpa using f)],h,y.mono (λc n=>⟨n.1,n.2.1,g c n.2.2⟩) (λ_ _ _ e=>e) λ_ _ e=>e⟩
def eN{r:Nat}:FrS p own H (aP r own) H:=⟨λb o h n e=>⟨h,by unfold aP;rw[e];simp⟩,λ_ _ e=>e⟩
end
def ud{i:Nat}(j:Option Nat)(h:PS X st (ql (aU te) (gG i))):PDS X st (Az i j te):=PS.wk' h (by
 rintro Q σ H ⟨p,c,own,ρ,P,E,t,w⟩;refine⟨p,c,own,ρ,_,E,t,λk d v H1 h A r=>?_⟩;have r:=aX r;generalize norm k d=n at h r;show Q.nx (σ.set i (some v)) H1;have o:=E.go A.kp A.pen;have b:∀s,jC p c own (σ.set i (some v)) H1 i s\/¬i<⇑σ->P.nx (ρ.set i s)->Q.nx (σ.set i (some v)) H1:=λs hs hn =>
  w.nx own _ H1 _ (o.set λhl=>hs.elim id λz=>er hl z) A.frs hn
 have a:i<⇑σ->(σ.set i (some v))[i]?=some (some v):=λhl=>ă hl;by_cases hl:i<⇑σ
 ·cases n with
  |imm=>exact b (.im d) (.inl ⟨v,a hl,r⟩) h
  |new =>
   cases j with
   |none=>exact b (.sn d) (.inl ⟨v,a hl,iJ A (k:=.snw) rfl r⟩) h
   |some q =>
    simp only[stK]at h;by_cases g:mY q ρ i=true
    ·rw[el g]at h;have l:EnvD p c (aP q own) σ H (ρ.set i .any):=(E.drop (i:=i)).clear g;have f:At p c (aP q own) H H1:=⟨A.k0,A.kp,A.penb,A.pen,l.ow⟩
     have x:=l.adopt q f;have y:Rp (okK p c (aP q own) H .new) H1 v d:=r;have m:EnvD p c (cO q H H1 (aP q own)) (σ.set i (some v)) H1 ((ρ.set i .any).set i (.dw q d)):=x.set λ_=>⟨v,a hl,M6 (k:=.new) rfl f y⟩
     rw[List.set_set]at m;exact w.nx _ _ H1 _ m (eN.trans (jU f)) h
    ·rw[em g]at h;exact h.elim
  |reg q=>exact b (.dw q d) (.inl ⟨v,a hl,r⟩) h
  |n0=>exact h.elim
  |snw=>exact b (.sn d) (.inl ⟨v,a hl,r⟩) h
  |shr=>exact b (.sh d) (.inl ⟨v,a hl,r⟩) h
  |wk=>exact h.elim
 ·cases hs:stK j ρ i n d with
  |none=>rw[hs]at h;exact h.elim
  |some s=>rw[hs]at h;exact b s (.inr hl) h)
end
variable [Gr]
section
variable{ok ok':Addr->Prop}{H:Hp}
mutual
theorem Rp.inj:∀{v:V}{d d':D},Rp ok H v d->Rp ok' H v d'->d=d'
 |_,_,_,.non,.non=>rfl
 |_,_,_,.bl b,.bl _=>rfl
 |_,_,_,.int i,.int _=>rfl
 |_,_,_,.str x,.str _=>rfl
 |_,_,_,.lst o h r,.lst o' h' r'=>by
  rw[h]at h';cases h';rw[Rps.inj r r']
 |_,_,_,.lst o h r,.tup h' r'=>by rw[h]at h';cases h'
 |_,_,_,.lst o h r,.dct o' h' r'=>by rw[h]at h';cases h'
 |_,_,_,.tup h r,.lst o' h' r'=>by rw[h]at h';cases h'
 |_,_,_,.tup h r,.tup h' r'=>by
  rw[h]at h';cases h';rw[Rps.inj r r']
 |_,_,_,.tup h r,.dct o' h' r'=>by rw[h]at h';cases h'
 |_,_,_,.dct o h r,.lst o' h' r'=>by rw[h]at h';cases h'
 |_,_,_,.dct o h r,.tup h' r'=>by rw[h]at h';cases h'
 |_,_,_,.dct o h r,.dct o' h' r'=>by
  rw[h]at h';cases h';rw[Rkv.inj r r']
theorem Rps.inj:∀{v:List V}{d d':List D},Rps ok H v d->Rps ok' H v d'->d=d'
 |_,_,_,.nil,.nil=>rfl
 |_,_,_,.cons h t,.cons h' t'=>by rw[Rp.inj h h',Rps.inj t t']
theorem Rkv.inj:∀{v:List (Key×V)}{d d':List (D×D)},Rkv ok H v d->Rkv ok' H v d'->d=d'
 |_,_,_,.nil,.nil=>rfl
 |_,_,_,.cons h t,.cons h' t'=>by rw[Rp.inj h h',Rkv.inj t t']
end
variable{l:Addr}{T:D}
mutual
theorem Rp.avoid(c:Rp ok' H (.ref l) T):∀{v:V}{d:D},Rp ok H v d->sizeOf d<sizeOf T->Rp (λa=>ok a/\a≠l) H v d
 |_,_,.non,_=>.non
 |_,_,.bl b,_=>.bl b
 |_,_,.int i,_=>.int i
 |_,_,.str x,_=>.str x
 |_,_,.lst (ds:=ds) o h r,s=>.lst ⟨o,λz=>by
   subst z;have e:=Rp.inj (Rp.lst o h r) c;rw[e]at s;exact er s (Ą _)⟩ h (Rps.avoid c r (by simp only[PyData.list.sizeOf_spec]at s;lia))
 |_,_,.tup (ds:=ds) h r,s=>.tup h (Rps.avoid c r (by simp only[PyData.tuple.sizeOf_spec]at s;lia))
 |_,_,.dct (ds:=ds) o h r,s=>.dct ⟨o,λz=>by
   subst z;have e:=Rp.inj (Rp.dct o h r) c;rw[e]at s;exact er s (Ą _)⟩ h (Rkv.avoid c r (by simp only[PyData.dict.sizeOf_spec]at s;lia))
theorem Rps.avoid(b:Rp ok' H (.ref l) T):∀{v:List V}{d:List D},Rps ok H v d->sizeOf d<sizeOf T->Rps (λa=>ok a/\a≠l) H v d
 |_,_,.nil,_=>.nil
 |_,_,.cons h t,s=>.cons (Rp.avoid b h (by simp only[List.cons.sizeOf_spec]at s;lia)) (Rps.avoid b t (by simp only[List.cons.sizeOf_spec]at s;lia))
theorem Rkv.avoid(b:Rp ok' H (.ref l) T):∀{v:List (Key×V)}{d:List (D×D)},Rkv ok H v d->sizeOf d<sizeOf T->Rkv (λa=>ok a/\a≠l) H v d
 |_,_,.nil,_=>.nil
 |_,_,.cons h t,s=>.cons (Rp.avoid b h (by simp only[List.cons.sizeOf_spec,Prod.mk.sizeOf_spec]at s;lia)) (Rkv.avoid b t (by simp only[List.cons.sizeOf_spec]at s;lia))
end
end
def forget(r:Nat)(ρ:List Sl):List Sl:=ρ.map λs=>if s.region=some r then .any else s
section
variable{p:Pn}{H0 H H1:Hp}{own:Addr->Option Nat}{σ:L2.St}{ρ:List Sl}{i:Nat}
def EnvD.write{r:Nat}{l:Addr}{u o':HO}(E:EnvD p H0 own σ H ρ)(hl:own l=some r)(w:H l=some u)(hu:∀xs,u≠.tup xs)(hc:¬Fxd u:=by rintro⟨_,_,z⟩;cases z):EnvD p H0 own σ (upd H l o') (forget r ρ):=by
 have t:=E.ow l r hl;have m:∀a xs,H a=some (.tup xs)->upd H l o' a=some (.tup xs):=λa xs e=>by
  rw[aj];exact e;intro z;subst z;rw[w]at e;exact hu xs (Ô e)
 refine⟨λb o e n=>?_,p.mono H _ E.pen λb o f e=>?_,λa q e=>?_,λj s e=>?_,by unfold forget;rw[Ä];exact E.len,E.gr⟩
 ·rw[aj];exact E.k0 b o e n;intro z;subst z;rw[t.1]at e;cases e
 ·rw[aj];exact e;intro z;subst z;exact f.elim t.2.1 λc=>hc (by rw[w]at e;cases e;exact c)
 ·let⟨x,y,z⟩:=E.ow a q e;refine⟨x,y,?_⟩;by_cases hh:a=l
  ·subst hh;rw[aq];exact λz=>nomatch z
  ·rw[aj hh];exact z
 ·unfold forget at e;rw[à]at e;cases hr:ρ[j]? with
  |none=>rw[hr]at e;cases e
  |some s0 =>
   rw[hr]at e;have e:=Ô e;have q:=E.slot j s0 hr;have k:∀c,own c≠some r->c≠l:=λc n z=>by subst z;exact n hl
   cases s0 with
   |any=>simp only[Sl.region]at e;subst e;trivial
   |im d =>
    have e:Sl.im d=s:=e;subst e;exact let⟨v,a,b⟩:=q;⟨v,a,b.mono (λ_ o=>o) (λ_ _ o=>o.elim) m⟩
   |sh d =>
    have e:Sl.sh d=s:=e;subst e;exact let⟨v,a,b⟩:=q;⟨v,a,b.mono (λ_ o=>o) (λc o n e=>by rw[aj (k c (by rw[n.2];exact λz=>nomatch z))];exact e) m⟩
   |sn d =>
    have e:Sl.sn d=s:=e;subst e;exact let⟨v,a,b⟩:=q;⟨v,a,b.mono (λ_ o=>o) (λc o n e=>by rw[aj (k c (by rw[n.2.2];exact λz=>nomatch z))];exact e) m⟩
   |dw r' d =>
    by_cases g:r'=r
    ·subst g;have e:(if(some r':Option Nat)=some r' then Sl.any else Sl.dw r' d)=s:=e;rw[el rfl]at e;subst e;trivial
    ·have e:(if(some r':Option Nat)=some r then Sl.any else Sl.dw r' d)=s:=e;rw[em (by simpa using g)]at e;subst e;exact let⟨v,a,b⟩:=q;⟨v,a,b.mono (λ_ o=>o) (λc o n e=>by rw[aj (k c (by rw[n];simpa using g))];exact e) m⟩
   |pen C =>
    have e:Sl.pen C=s:=e;subst e;exact q
   |scr v b =>
    have e:Sl.scr v b=s:=e;subst e;exact q
   |sp r' b ds =>
    by_cases g:r'=r
    ·subst g;have e:(if(some r':Option Nat)=some r' then Sl.any else Sl.sp r' b ds)=s:=e;rw[el rfl]at e;subst e;trivial
    ·have e:(if(some r':Option Nat)=some r then Sl.any else Sl.sp r' b ds)=s:=e;rw[em (by simpa using g)]at e;subst e;exact let⟨l',vs,a,o,h,y⟩:=q;⟨l',vs,a,o,by rw[aj (k l' (by rw[o];simpa using g))];exact h,y.mono (λ_ o=>o) (λc o n e=>by rw[aj (k c (by rw[n.2.2];exact λz=>nomatch z))];exact e) m⟩
   |rw r' L =>
    by_cases g:r'=r
    ·subst g;have e:(if(some r':Option Nat)=some r' then Sl.any else Sl.rw r' L)=s:=e;rw[el rfl]at e;subst e;trivial
    ·have e:(if(some r':Option Nat)=some r then Sl.any else Sl.rw r' L)=s:=e;rw[em (by simpa using g)]at e;subst e;exact let⟨st,as,a,b⟩:=q;⟨st,as,a,b.mono (λc o n e=>⟨n,by rw[aj (k c (by rw[n];simpa using g))];exact e⟩) m⟩
   |tw r' L =>
    by_cases g:r'=r
    ·subst g;have e:(if(some r':Option Nat)=some r' then Sl.any else Sl.tw r' L)=s:=e;rw[el rfl]at e;subst e;trivial
    ·have e:(if(some r':Option Nat)=some r then Sl.any else Sl.tw r' L)=s:=e;rw[em (by simpa using g)]at e;subst e;exact let⟨st,as,a,b⟩:=q;⟨st,as,a,b.mono (λc o n e=>⟨n,by rw[aj (k c (by rw[n];simpa using g))];exact e⟩) m⟩
def jE{r:Nat}{l:Addr}{u o':HO}(hl:own l=some r)(c:H l=some u)(hu:∀xs,u≠.tup xs):FrS p own H own (upd H l o'):=by
 refine⟨λb o h n e=>⟨?_,e⟩,λa xs e=>?_⟩
 ·rw[aj];exact h;intro z;subst z;rw[hl]at e;cases e
 ·rw[aj];exact e;intro z;subst z;rw[c]at e;exact hu xs (Ô e)
def EnvD.put{v:V}{s:Sl}(E:EnvD p H0 own σ H ρ)(hs:jC p H0 own σ H i s):EnvD p H0 own σ H (ρ.set i s):=by
 refine⟨E.k0,E.pen,E.ow,λj s' e=>?_,by simpa using E.len,E.gr⟩;by_cases a:j=i
 ·subst a;have hl:j<⇑ρ:=by
   have:=(Æ.mp e).1;simpa using this
  rw[ă hl]at e;cases e;exact hs
 ·rw[Ļ (ĝ a)]at e;exact E.slot j s' e
def EnvD.JF{r:Nat}{l:Addr}{vs vs':List V}{ds ds':List D}(E:EnvD p H0 own σ H ρ)(A:At p H0 own H H1)(hv:σ[i]?=some (some (.ref l)))(hl:own l=some r)(c:H l=some (.lst vs))(h:Rps (λa=>own a=some r) H vs ds)(hs:∀H2,(∀{w:V}{d:D},Rp (λa=>own a=some r) H w d->sizeOf d<sizeOf (ē ds)->Rp (λa=>cO r H H1 own a=some r) H2 w d)->(∀{w:V}{d:D},Rp (okK p H0 own H .new) H1 w d->Rp (λa=>cO r H H1 own a=some r) H2 w d)->Rps (λa=>cO r H H1 own a=some r) H2 vs' ds') :
  EnvD p H0 (cO r H H1 own) σ (upd H1 l (.lst vs')) ((forget r ρ).set i (.dw r (.list ds')))/\FrS p own H (cO r H H1 own) (upd H1 l (.lst vs')):=by
 have h1:H1 l=some (.lst vs):=A.kp l _ c (E.ow l r hl).2.1;have b:cO r H H1 own l=some r:=by rw[bF c];exact hl
 have g:=(E.adopt r A).write (o':=.lst vs') b h1 (λxs z=>nomatch z);have f:∀a xs,H1 a=some (.tup xs)->upd H1 l (.lst vs') a=some (.tup xs):=λa xs e=>by
  rw[aj];exact e;intro z;subst z;rw[h1]at e;cases e
 refine⟨g.put (v:=.ref l) ⟨.ref l,hv,.lst b aq (hs _ ?_ ?_)⟩,(jU A).trans (jE b h1 λxs z=>nomatch z)⟩
 ·intro w d x j;have k:=Rp.avoid (Rp.lst (ok:=λa=>own a=some r) hl c h) x j;exact k.bN (λa o n e=>⟨by rw[bF e];exact n.1,by rw[aj n.2];exact A.kp a o e (E.ow a r n.1).2.1⟩) λa xs e=>f a xs (iy E.at A.kp a xs e)
 ·intro w d x;exact x.bN (λa o n e=>⟨gP n e,by rw[aj (λz=>by subst z;rw[c]at n;cases n)];exact e⟩) f
end
section
variable{X:Cx}{pos:Pos}{st:ZF}{e:Zt}{te:DE}{i:Nat}{ta:DA}
def uU{d:D}{ds:List D}(h:d∈ds):sizeOf d<sizeOf (ē ds):=by
 have:=List.sizeOf_lt_of_mem h;simp only[PyData.list.sizeOf_spec];lia
theorem wD{ok ok':Addr->Prop}{H a:Hp}{T:D}(f:∀{w:V}{d:D},Rp ok H w d->sizeOf d<sizeOf T->Rp ok' a w d):∀{vs:List V}{ds:List D},Rps ok H vs ds->(∀d∈ds,sizeOf d<sizeOf T)->Rps ok' a vs ds
 |_,_,.nil,_=>.nil
 |_,_,.cons h t,s=>.cons (f h (s _ Ó)) (wD f t λd hd=>s d (Í _ hd))
def Eh(i:Nat)(te:DE):DS:=λP ρ=>match ρ[i]? with
 |some (.dw r (.list ds))=>te ρ λk d=>(norm k d).le .new=true/\⇑ds<1000/\P.nx ((forget r ρ).set i (.dw r (.list (ds++[d]))))
 |_=>False
def pG(h:PS X st (uT (tBM X.K "list" qJ (nU i) (jo (aQ te dX))))):PDS X st (Eh i te):=PS.wk' h (by
 rintro Q σ H ⟨p,q,own,ρ,P,E,t,w⟩;unfold Eh at t;split at t
 ·rename_i r ds hr;let⟨v,hv,x⟩:=E.slot i _ hr;let⟨l,vs,rfl,hl,b,c⟩:=x.bD;refine⟨.ref l,hv,.inl ⟨rfl,vs,SqL.of b⟩,p,q,own,ρ,λks=>∃k d,ks=[(k,d)]/\(norm k d).le .new=true/\⇑ds<1000/\P.nx ((forget r ρ).set i (.dw r (.list (ds++[d])))),E,?_,?_⟩
  ·show te ρ λk d=>∃a d',[(k,d)]=[(a,d')]/\_;have e:(λk d=>∃a d',[((k,d):Kd×D)]=[(a,d')]/\(norm a d').le .new=true/\⇑ds<1000/\P.nx ((forget r ρ).set i (.dw r (.list (ds++[d'])))))=λk d=>(norm k d).le .new=true/\⇑ds<1000/\P.nx ((forget r ρ).set i (.dw r (.list (ds++[d])))):=by
    funext k d;apply propext;constructor
    ·rintro⟨a,d',e,h⟩;cases e;exact h
    ·exact λh=>⟨k,d,rfl,h⟩
   rw[e];exact t
  ·rintro ks C s ⟨k,d,rfl,hk,m,hn⟩ A B;let⟨y,rfl,j⟩:=dh B;have j:=iJ A hk (aX j);have h1:s l=some (.lst vs):=A.kp l _ b (E.ow l r hl).2.1;have u:=ü;have z:=⇑c;refine⟨l,vs,y,rfl,rfl,h1,(),?_⟩;let⟨n,o⟩:=E.JF (vs':=vs++[y]) (ds':=ds++[d]) A hv hl b c λH2 f g=>(wD f c λd hd=>uU hd).snoc (g j);exact w.nx _ σ _ _ n o hn
 ·exact t.elim)
end
variable [Gr]
abbrev DG:=Kd->D->List Sl->(List Sl->Prop)->Prop
abbrev DGs:=Kd->List D->List Sl->(List Sl->Prop)->Prop
def rH(k:Kd)(d:D):Sl:=match k with
 |.imm=>.im d
 |.new=>.sn d
 |.reg r=>.dw r d
 |.snw=>.sn d
 |.shr=>.sh d
 |_=>.any
def okB(p:Pn)(b:Hp)(own:Addr->Option Nat):Kd->Addr->Prop
 |.imm=>λ_=>False
 |.new=>λa=>b a=none/\¬p.fp a/\own a=none
 |.reg r=>λa=>own a=some r
 |.snw=>λa=>b a=none/\¬p.fp a/\own a=none
 |.shr=>λa=>¬p.fp a/\own a=none
 |.n0=>λ_=>True
 |.wk=>λ_=>True
def Gd(g:DG):TG:=λv σ H Q=>∃p H0 own ρ k d P,EnvD p H0 own σ H ρ/\Rp (okB p H0 own k) H v d/\g k d ρ P/\∀σ' ρ',EnvD p H0 own σ' H ρ'->P ρ'->Q σ' H
def oX(g:DGs):TGs:=λvs σ H Q=>∃p H0 own ρ k ds P,EnvD p H0 own σ H ρ/\Rps (okB p H0 own k) H vs ds/\g k ds ρ P/\∀σ' ρ',EnvD p H0 own σ' H ρ'->P ρ'->Q σ' H
abbrev PDG(X:Cx)(e:Zt)(g:DG):Prop:=PG X e (Gd g)
def PG.wk{X:Cx}{e:Zt}{t t':TG}(h:PG X e t)(w:∀v σ H Q,t' v σ H Q->t v σ H Q):PG X e t':=λpins s σ H v u Q I r q=>h pins s σ H v u Q I r (w v σ H Q q)
def PGs.wk{X:Cx}{e:List Zt}{t t':TGs}(h:PGs X e t)(w:∀v σ H Q,t' v σ H Q->t v σ H Q):PGs X e t':=λpins s σ H v u Q I r q=>h pins s σ H v u Q I r (w v σ H Q q)
def fX{p:Pn}{a H:Hp}{own:Addr->Option Nat}{k:Kd}{v:V}{d:D}(r:Rp (okB p a own k) H v d):Rp (okB p a own (norm k d)) H v d:=by
 by_cases h:cM d=true
 ·rw[bL h];exact r.imm h
 ·rw[bM h];exact r
section
variable{X:Cx}{pos:Pos}{e:Zt}{es:List Zt}
def gNm(i:Nat):DG:=λk d ρ P=>P (ρ.set i (rH (norm k d) d))
def Jt{p:Pn}{a H:Hp}{own:Addr->Option Nat}{σ:L2.St}{i:Nat}{k:Kd}{v:V}{d:D}(r:Rp (okB p a own k) H v d)(h:σ[i]?=some (some v)):jC p a own σ H i (rH k d):=by
 cases k with
 |imm=>exact⟨v,h,r⟩
 |new=>exact⟨v,h,r⟩
 |reg q=>exact⟨v,h,r⟩
 |n0=>trivial
 |snw=>exact⟨v,h,r⟩
 |shr=>exact⟨v,h,r⟩
 |wk=>trivial
def yh{i:Nat}{x:Str}(h:PG X (.Name x pos) (gG i)):PDG X (.Name x pos) (gNm i):=PG.wk h (by
 rintro v σ H Q ⟨p,a,own,ρ,k,d,P,E,r,t,q⟩;exact q _ _ (E.set λhl=>Jt (fX r) (ă hl)) t)
def Lf:DGs:=λ_ ds ρ P=>match ds with
 |[]=>P ρ
 |_=>False
def tW(g:DG)(a:DGs):DGs:=λk ds ρ P=>match ds with
 |d::r=>g (norm k d) d ρ λρ'=>a k r ρ' P
 |[]=>False
theorem yg:PGs X [] (oX Lf):=PGs.wk Oc (by
 rintro v σ H Q ⟨p,a,own,ρ,k,ds,P,E,r,t,q⟩;cases ds with
 |nil=>cases r;exact⟨rfl,q _ _ E t⟩
 |cons d ds=>exact t.elim)
def uh{g:DG}{b:DGs}(h1:PDG X e g)(h2:PGs X es (oX b))(hs:(ZR (e::es) X.env).map (·.2)=ZP e X.env::(ZR es X.env).map (·.2):=by rfl):PGs X (e::es) (oX (tW g b)):=PGs.wk (J0 h1 h2 hs) (by
 rintro v σ H Q ⟨p,a,own,ρ,k,ds,P,E,r,t,q⟩;cases r with
 |nil=>exact t.elim
 |cons r rs =>
  exact⟨_,_,rfl,p,a,own,ρ,_,_,_,E,fX r,t,λσ' ρ' E' t'=>⟨p,a,own,ρ',k,_,P,E',rs,t',q⟩⟩)
def gTp(n:Nat)(a:DGs):DG:=λk d ρ P=>match d with
 |.tuple ds=>⇑ds=n/\a k ds ρ P
 |_=>False
def dW{b:DGs}{k n:Nat}(hc:X.calm=true)(h:PGs X es (oX b))(hn:⇑(ZR es X.env)=n:=by rfl)(hst:(ZR es X.env).findIdx? (·.1)=none:=by rfl):PDG X (.Tuple es k pos) (gTp n b):=PG.wk (R9 hc h hn hst) (by
 rintro v σ H Q ⟨p,f,own,ρ,k,d,P,E,r,t,q⟩;cases d with
 |tuple ds =>
  let⟨a,vs,rfl,ha,c⟩:=r.eV;exact⟨a,vs,rfl,SqT.of ha,by rw[⇑c];exact t.1,p,f,own,ρ,k,ds,P,E,c,t.2,q⟩
 |_=>exact t.elim)
end
structure Wlk(Ok:Hp->Prop)(J:It)(ds:List D)(ok:Addr->Prop):Prop where
 go:∀i H,Ok H->i<⇑ds->J.go i H
 stop:∀H,Ok H->J.stop ⇑ds H
 yld:∀i H x H',Ok H->J.yld i H x H'->Same H H'/\∀d,ds[i]?=some d->Rp ok H' x d
 stab:∀H H',Ok H->(∀b o,ok b->H b=some o->H' b=some o)->(∀a xs,H a=some (.tup xs)->H' a=some (.tup xs))->Ok H'
abbrev DI:=List Sl->(Kd->List D->Prop)->Prop
def okA(p:Pn)(b:Hp)(own:Addr->Option Nat)(c:Hp)(k:Kd)(H:Hp)(a:Addr):Prop:=okK p b own c k a/\∃o,H a=some o
def KZ(t:DI):TI:=λσ H R=>∃p H0 own ρ P,EnvD p H0 own σ H ρ/\t ρ P/\∀k ds J H1 Ok,P k ds->At p H0 own H H1->Wlk Ok J ds (okA p H0 own H k H1)->Ok H1->R J H1
abbrev PDI(X:Cx)(tg e:Zt)(t:DI):Prop:=PI X tg e (KZ t)
def PI.wk{X:Cx}{a e:Zt}{t t':TI}(h:PI X a e t)(w:∀σ H R,t' σ H R->t σ H R):PI X a e t':=λpins s σ H R I q=>h pins s σ H R I (w σ H R q)
section
variable{X:Cx}{tg l:Zt}{tl:DE}{pos:Pos}{ta:DA}
def Ji{K:á}{ok:Addr->Prop}{a:Addr}{ds:List D}:Wlk (λH=>Rp ok H (.ref a) (.list ds)) (Itl K a) ds ok where
 go:=λi H r hi=>by
  let⟨b,vs,e,o,h,rs⟩:=r.bD;cases e;have:i<⇑vs:=by rw[⇑rs];exact hi
  exact⟨vs,vs[i],SqL.of h,by simp[this]⟩
 stop:=λH r=>by
  let⟨b,vs,e,o,h,rs⟩:=r.bD;cases e;exact⟨vs,SqL.of h,by rw[⇑rs];exact Õ _⟩
 yld:=λi H x H' r y=>by
  let⟨rfl,y⟩:=y;let⟨b,vs,e,o,h,rs⟩:=r.bD;cases e;refine⟨Same.refl _,λd hd=>?_⟩;let⟨v,hv,rv⟩:=rs.getD hd;have:=y vs (SqL.of h);rw[hv]at this;cases this;exact rv
 stab:=λH H' r f t=>r.bN (λa o n e=>⟨n,f a o n e⟩) t
def Jh{K:á}{ok:Addr->Prop}{a:Addr}{ds:List D}:Wlk (λH=>Rp ok H (.ref a) (.tuple ds)) (Itt K a) ds ok where
 go:=λi H r hi=>by
  let⟨b,vs,e,h,rs⟩:=r.eV;cases e;have:i<⇑vs:=by rw[⇑rs];exact hi
  exact⟨vs,vs[i],SqT.of h,by simp[this]⟩
 stop:=λH r=>by
  let⟨b,vs,e,h,rs⟩:=r.eV;cases e;exact⟨vs,SqT.of h,by rw[⇑rs];exact Õ _⟩
 yld:=λi H x H' r y=>by
  let⟨rfl,y⟩:=y;let⟨b,vs,e,h,rs⟩:=r.eV;cases e;refine⟨Same.refl _,λd hd=>?_⟩;let⟨v,hv,rv⟩:=rs.getD hd;have:=y vs (SqT.of h);rw[hv]at this;cases this;exact rv
 stab:=λH H' r f t=>r.bN (λa o n e=>⟨n,f a o n e⟩) t
def yJ{ok:Addr->Prop}{lo:Int}{n:Nat}:Wlk (λ_=>True) (Itr lo n) ((Þ n).map λi=>Â (lo+((i:Nat):Int))) ok where
 go:=λi H r hi=>by
  have h:i<n:=by simpa using hi
  exact h
 stop:=λH r=>by show n<=_;simp
 yld:=λi H x H' r y=>by
  let⟨rfl,rfl⟩:=y;refine⟨Same.refl _,λd hd=>?_⟩;rw[à]at hd;cases h:(Þ n)[i]? with
  |none=>rw[h]at hd;cases hd
  |some j =>
   rw[h]at hd;have e:=Ô hd;have hj:j=i:=by
    have:=Æ.mp h;let⟨h1,h2⟩:=this;simpa using h2.symm
   subst e hj;exact .int _
 stab:=λ_ _ _ _ _=>trivial
def rpA{p:Pn}{b c H:Hp}{own:Addr->Option Nat}{k:Kd}{v:V}{d:D}(r:Rp (okK p b own c k) H v d):Rp (okA p b own c k H) H v d:=r.bN (λa o n e=>⟨⟨n,o,e⟩,e⟩) λ_ _ e=>e
def iSq(tl:DE):DI:=λρ P=>tl ρ λk d=>match d with
 |.list ds=>P k ds
 |.tuple ds=>P k ds
 |_=>False
theorem Ed(hl:PD X l tl):PDI X tg l (iSq tl):=PI.wk (R8 hl) (by
 rintro σ H R ⟨p,b,own,ρ,P,E,t,q⟩;refine⟨p,b,own,ρ,_,E,t,λk d v H1 h A r=>?_⟩;cases d with
 |list ds =>
  let⟨a,vs,rfl,o,ha,c⟩:=r.bD;exact⟨a,rfl,.inl ⟨⟨vs,SqL.of ha⟩,q k ds _ H1 _ h A Ji (rpA r)⟩⟩
 |tuple ds =>
  let⟨a,vs,rfl,ha,c⟩:=r.eV;exact⟨a,rfl,.inr ⟨⟨vs,SqT.of ha⟩,q k ds _ H1 _ h A Jh (rpA r)⟩⟩
 |_=>exact h.elim)
def vA(a:Int)(n:Nat):List D:=(Þ n).map λi=>Â (a+((i:Nat):Int))
def iR1(ta:DA):DI:=λρ P=>ta ρ λks=>match ks with
 |[(_,.int j)]=>(-(2 ^ 62)<=j/\j<2 ^ 62)/\P .imm (vA 0 j.toNat)
 |_=>False
def pI{a:Zt}{ps:Pos}(hm:X.mg "range"=none)(ha:PDA X [a] ta)(hg:Gl X "range":=by rfl)(hs:Zu [a] X.env=[(false,Zv a X.env)]:=by rfl):PDI X tg (.Call (.Name "range" ps) [a] [] pos) (iR1 ta):=PI.wk (Hf hg hm ha hs) (by
 rintro σ H R ⟨p,b,own,ρ,P,E,t,q⟩;refine⟨p,b,own,ρ,_,E,t,λks vs H1 h A r=>?_⟩;split at h
 ·rename_i k j;let⟨v,rfl,c⟩:=dh r;exact⟨j,by rw[c.int'],h.1.1,h.1.2,q _ _ _ H1 _ h.2 A yJ trivial⟩
 ·exact h.elim)
def iR2(ta:DA):DI:=λρ P=>ta ρ λks=>match ks with
 |[(_,.int i),(_,.int j)]=>(-(2 ^ 62)<=i/\i<2 ^ 62/\-(2 ^ 62)<=j/\j<2 ^ 62)/\P .imm (vA i (j - i).toNat)
 |_=>False
def pH{a b:Zt}{ps:Pos}(hm:X.mg "range"=none)(ha:PDA X [a,b] ta)(hg:Gl X "range":=by rfl)(hs:Zu [a,b] X.env=[(false,Zv a X.env),(false,Zv b X.env)]:=by rfl)(hs2:Zu [b] X.env=[(false,Zv b X.env)]:=by rfl):PDI X tg (.Call (.Name "range" ps) [a,b] [] pos) (iR2 ta):=PI.wk (G9 hg hm ha hs hs2) (by
 rintro σ H R ⟨p,c,own,ρ,P,E,t,q⟩;refine⟨p,c,own,ρ,_,E,t,λks vs H1 h A r=>?_⟩;split at h
 ·rename_i k i f j;let⟨v,w,rfl,d,e⟩:=JB r;exact⟨i,j,by rw[d.int',e.int'],h.1,q _ _ _ H1 _ h.2 A yJ trivial⟩
 ·exact h.elim)
def nC(ds:List D):List D:=ds.zipIdx.map λx=>Ŏ [.int ((x.2:Nat):Int),x.1]
def eG{ds:List D}{i:Nat}:(nC ds)[i]?=(ds[i]?).map λd=>Ŏ [.int ((i:Nat):Int),d]:=by
 unfold nC;rw[à,List.getElem?_zipIdx];cases ds[i]? with
 |none=>rfl
 |some d=>simp
def dz{ds:List D}:⇑(nC ds)=⇑ds:=by unfold nC;simp
def GP{K:á}{ok:Addr->Prop}{a:Addr}{ds:List D}:Wlk (λH=>Rp ok H (.ref a) (.tuple ds)) (Ite K a) (nC ds) ok where
 go:=λi H r hi=>by
  let⟨b,vs,e,h,rs⟩:=r.eV;cases e;have:i<⇑vs:=by rw[⇑rs];rw[dz]at hi;exact hi
  exact⟨vs,vs[i],SqT.of h,by simp[this]⟩
 stop:=λH r=>by
  let⟨b,vs,e,h,rs⟩:=r.eV;cases e;exact⟨vs,SqT.of h,by rw[⇑rs,dz];exact Õ _⟩
 yld:=λi H x H' r y=>by
  let⟨t,v,rfl,ht,rfl,y⟩:=y;have sm:Same H (upd H t (.tup [.int i,v])):=λb u q=>by rw[aj (ao q ht)];exact q
  refine⟨sm,λd hd=>?_⟩;let⟨b,vs,e,h,rs⟩:=r.eV;cases e;rw[eG]at hd;cases he:ds[i]? with
  |none=>rw[he]at hd;cases hd
  |some d0 =>
   rw[he]at hd;have e:=Ô hd;subst e;let⟨v',hv,rv⟩:=rs.getD he;have:=y vs (SqT.of h);rw[hv]at this;cases this;exact .tup aq (.cons (.int _) (.cons (rv.mono (λ_ o=>o) (λa o _ e=>sm a o e) λa xs e=>sm a _ e) .nil))
 stab:=λH H' r f t=>r.bN (λa o n e=>⟨n,f a o n e⟩) t
def iEn(ta:DA):DI:=λρ P=>ta ρ λks=>match ks with
 |[(k,.tuple ds)]=>P k (nC ds)
 |_=>False
def nF{elts:List Zt}{kk:Nat}{b:Pos}{a:Zt}{ps:Pos}(hm:X.mg "enumerate"=none)(ha:PDA X [a] ta)(hg:Gl X "enumerate":=by rfl)(hs:Zu [a] X.env=[(false,Zv a X.env)]:=by rfl):PDI X (.Tuple elts kk b) (.Call (.Name "enumerate" ps) [a] [] pos) (iEn ta):=PI.wk (Ob hg hm ha hs) (by
 rintro σ H R ⟨p,d,own,ρ,P,E,t,q⟩;refine⟨p,d,own,ρ,_,E,t,λks vs H1 h A r=>?_⟩;split at h
 ·rename_i k ds;let⟨v,rfl,c⟩:=dh r;let⟨a,vs,e,ha,f⟩:=Rp.eV c;subst e;exact⟨a,rfl,⟨vs,SqT.of ha⟩,q k _ _ H1 _ h A GP (rpA c)⟩
 ·exact h.elim)
end
variable [Gr]
def elK:Kd->Kd
 |.new=>.snw
 |k=>k
section
variable{X:Cx}{tg iter:Zt}{pos:Pos}{body:List ZF}{ti:DI}{g:DG}{tb:DS}
def W3(ti:DI)(g:DG)(tb:DS):DS:=λP ρ=>ti ρ λk ds=>k.le .shr=true/\∃Iv:Nat->List Sl->Prop,Iv 0 ρ /\
 (∀i d ρ',ds[i]?=some d->Iv i ρ'->g (norm (elK k) d) d ρ' λρ2=>tb { nx:=Iv (i+1),ct:=Iv (i+1),bk:=P.nx,rt:=P.rt } ρ2)/\∀ρ',Iv ⇑ds ρ'->P.nx ρ'
def Vy{p:Pn}{h l i m:Hp}{own b:Addr->Option Nat}{k:Kd}(hk:k.le .shr=true)(A:At p h own l i)(F:FrS p own i b m){v:V}{d:D}{j:Hp}(r:Rp (okA p h own l k i) j v d):Rp (okB p h b (elK k)) j v d:=by
 refine r.mono (λa n=>?_) (λ_ _ _ e=>e) λ_ _ e=>e;let⟨o,u,hu⟩:=n;have c:¬p.fp a/\own a=none:=cY A (k:=.shr) hk o;have f:=(F.keep a u hu c.1 c.2).2;cases k with
 |imm=>exact o
 |new=>exact⟨A.h0 o,c.1,f⟩
 |reg q=>cases hk
 |n0=>cases hk
 |snw=>exact⟨o.1,c.1,f⟩
 |shr=>exact⟨c.1,f⟩
 |wk=>cases hk
def Ea(hp:ZX (model X.prog X.w) X.A X.env X.xe)(hc:X.calm=true)(hi:PDI X tg iter ti)(hg:PDG X tg g)(hb:lg X body tb)(hs:zF X iter:=by intro _;rfl):PDS X (.For tg iter body [] pos) (W3 ti g tb):=PS.wk' (R4 hp hc hi hg hb hs) (by
 rintro Q σ H ⟨p,u,own,ρ,P,E,t,w⟩;refine⟨p,u,own,ρ,_,E,t,λk ds J H1 Ok h A W o1=>?_⟩;let⟨hk,D,T,step,v⟩:=h;have R:=w.go A.frs;have okS:∀c j,FrS p own H1 c j->Ok j:=λc j F=>W.stab H1 j o1 (λb o n e=>by
  have O:¬p.fp b/\own b=none:=cY A (k:=.shr) hk n.1;exact(F.keep b o e O.1 O.2).1) F.tup
 refine⟨λi m q j=>m=⇑ds - i/\i<=⇑ds/\∃c d,EnvD p u c q j d/\FrS p own H1 c j/\D i d,⟨_,rfl,Ğ _,own,ρ,E.go A.kp A.pen,FrS.refl,T⟩,?_⟩;rintro i m q j ⟨rfl,hi,c,d,I,C,N⟩;have L:=okS c j C;by_cases l:i<⇑ds
 ·refine .inr ⟨W.go i j L l,λσ2 H2=>∃c d,EnvD p u c σ2 H2 d/\FrS p own H1 c H2/\D (i+1) d,λσ2 H2 h=>⟨_,(),rfl,l,h⟩,λx H2 y=>?_⟩;let⟨G,M⟩:=W.yld i j x H2 L y;have M:=M ds[i] (Ë l);have S:EnvD p u c q H2 d:=I.go (Kp.of G) (p.mono j H2 I.pen λb o _ e=>G b o e);have K:FrS p own H1 c H2:=⟨λb o e n z=>let⟨x,y⟩:=C.keep b o e n z;⟨G b o x,y⟩,λa xs e=>G a _ (C.tup a xs e)⟩
  refine⟨p,u,c,d,_,_,_,S,fX (Vy hk A K M),step i ds[i] d (Ë l) N,λσ3 ρ3 E3 t3=>?_⟩;have B:∀own4 σ4 H4 ρ4,EnvD p u own4 σ4 H4 ρ4->FrS p c H2 own4 H4->D (i+1) ρ4->∃c d,EnvD p u c σ4 H4 d/\FrS p own H1 c H4/\D (i+1) d:=λown4 σ4 H4 ρ4 E4 F4 v4=>⟨own4,ρ4,E4,K.trans F4,v4⟩
  exact⟨p,u,c,ρ3,_,E3,t3,⟨B,w.rt,λo s h r e f n=>R.nx o s h r e (K.trans f) n,B⟩⟩
 ·have e:i=⇑ds:=()
  subst e;exact .inl ⟨W.stop j L,R.nx c q j d I C (v d N)⟩)
def Mp(a:DT)(tb:DS):DS:=λP ρ=>∃Iv:Nat->List Sl->Prop,(∃m,Iv m ρ)/\∀m ρ',Iv m ρ'->a ρ' λb =>
 if b=true then tb { nx:=λρ2=>∃m',m'<m/\Iv m' ρ2,ct:=λρ2=>∃m',m'<m/\Iv m' ρ2,bk:=P.nx,rt:=P.rt } ρ' else P.nx ρ'
theorem ju{c:Zt}{u:DT}(hp:ZX (model X.prog X.w) X.A X.env X.xe)(hc:PDT X c u)(hb:lg X body tb):PDS X (.While c body [] pos) (Mp u tb):=PS.wk' (JQ hp hc hb) (by
 rintro Q σ H ⟨p,i,own,ρ,P,E,⟨j,⟨m,x⟩,step⟩,w⟩;refine⟨λm σ' H'=>∃own' ρ',EnvD p i own' σ' H' ρ'/\FrS p own H own' H'/\j m ρ',⟨m,own,ρ,E,FrS.refl,x⟩,?_⟩;rintro m t z ⟨a,d,l,v,y⟩;refine⟨p,i,a,d,_,l,step m d y,λb H2 h A=>?_⟩;have q:=v.trans A.frs;cases b with
 |true =>
  refine aB ⟨λσ' H'=>∃m',m'<m/\∃own' ρ',EnvD p i own' σ' H' ρ'/\FrS p own H own' H'/\j m' ρ',λσ' H' h=>h,?_⟩;have k:∀own4 σ4 H4 ρ4,EnvD p i own4 σ4 H4 ρ4->FrS p a H2 own4 H4->(∃m',m'<m/\j m' ρ4)->∃m',m'<m/\∃own' ρ',EnvD p i own' σ4 H4 ρ'/\FrS p own H own' H4/\j m' ρ':=λown4 σ4 H4 ρ4 E4 F4 ⟨m',hm,v4⟩=>⟨m',hm,own4,ρ4,E4,q.trans F4,v4⟩
  exact⟨p,i,a,d,{ nx:=λρ2=>∃m',m'<m/\j m' ρ2,ct:=λρ2=>∃m',m'<m/\j m' ρ2,bk:=P.nx,rt:=P.rt },l.go A.kp A.pen,by simpa using h,⟨k,w.rt,λo s h r e f n=>w.nx o s h r e (q.trans f) n,k⟩⟩
 |false=>exact aD (w.nx a t H2 d (l.go A.kp A.pen) q (by simpa using h)))
end
def EnvD.comp{p:Pn}{b H:Hp}{own:Addr->Option Nat}{σ:L2.St}{ρ:List Sl}(n:Nat)(E:EnvD p b own σ H ρ):EnvD p b own (Ú n none++σ) H (Ú n .any++ρ):=by
 refine⟨E.k0,E.pen,E.ow,λj s e=>?_,by simp[E.len],E.gr⟩;by_cases a:j<n
 ·rw[ñ (by simpa using a)]at e;have:s=.any:=by
   rw[Ŧ]at e;rw[el a]at e;exact(Ô e).symm
  subst this;trivial
 ·have c:(Ú n Sl.any++ρ)[j]?=ρ[j - n]?:=by rw[õ (by simpa using a)];simp
  have d:(Ú n (none:Option V)++σ)[j]?=σ[j - n]?:=by rw[õ (by simpa using a)];simp
  rw[c]at e;have q:=E.slot _ s e;cases s <;> simp only[jC,d]at q ⊢ <;> exact q
abbrev Er(X:Cx)(es:List Zt)(t:DT):Prop:=PTs X es (liftT t)
def qY{X:Cx}:Er X [] (λ_ P=>P true):=λpins s σ H Q I h=>by
 let⟨p,a,own,ρ,P,E,t,q⟩:=h;exact NZ pins s σ H Q I (q true H t E.at)
def xW{X:Cx}{c:Zt}{t:DT}(hc:PDT X c t):Er X [c] t:=NT hc
def elC(k:Kd):Kd:=elK k
def dLC(n:Nat)(c:DI)(g:DG)(e:DT)(a:DE):DE:=λρ P=>c ρ λk ds=>⇑ds<=1000/\∃(ke:Kd)(Iv:Nat->List D->Prop),Iv 0 [] /\
 (∀i d ys,ds[i]?=some d->Iv i ys->g (norm (elC k) d) d (Ú n .any++ρ) λρ'=>e ρ' λb=>if b=true then a ρ' λk' d'=>(norm k' d').le ke=true/\Iv (i+1) (ys++[d'])else Iv (i+1) ys) /\
 ∀ys,Iv ⇑ds ys->P (ke.join .new) (.list ys)
def QG{p:Pn}{b g c:Hp}{own:Addr->Option Nat}{k:Kd}(A:At p b own g c){v:V}{d:D}{f:Hp}(r:Rp (okA p b own g k c) f v d):Rp (okB p b own (elC k)) f v d:=by
 refine r.mono (λa n=>?_) (λ_ _ _ e=>e) λ_ _ e=>e;let⟨o,u,hu⟩:=n;cases k with
 |imm=>exact o
 |new=>exact⟨A.h0 o,A.nfb o,A.Oj o⟩
 |reg q=>exact o
 |n0=>trivial
 |snw=>exact o
 |shr=>exact o
 |wk=>trivial
section
variable{X:Cx}{own:List Str}{scope:Zs}{tg iter elt:Zt}{ifs:List Zt}{pos:Pos}{ti:DI}{g:DG}{tt:DT}{te:DE}
def qX{n:Nat}:∀σ H Q,aU (dLC n ti g tt te) σ H Q->tLC n (KZ ti) (λ_=>Gd g) (λ_=>liftT tt) (λ_=>aU te) σ H Q:=by
 rintro σ H Q ⟨p,s,own,ρ,P,E,t,q⟩;refine⟨p,s,own,ρ,_,E,t,λk ds J H1 Ok h A W o1=>?_⟩;let⟨T,I,S,i0,step,w⟩:=h;have okS:∀d,Kp p H1 d->p.PI d->Ok d:=λd K i=>W.stab H1 d o1 (λb o n e=>K b o e (mq A n.1)) (iy A K);refine⟨λi m ys d=>m=⇑ds - i/\i<=⇑ds/\Kp p H1 d/\p.PI d/\∃f,Rps (okK p s own H I) d ys f/\⇑f<=i/\S i f,⟨_,rfl,Ğ _,Kp.refl,A.pen,[],.nil,Õ _,i0⟩,?_⟩;rintro c i m ys d ⟨rfl,hi,F,D,f,M,hl,U⟩;have L:=okS d F D;have u:=A.go F D;have h24:=ü;by_cases r:i<⇑ds
 ·refine .inr ⟨W.go i d L r,by have:=⇑M;lia,λys' H2=>Kp p H1 H2/\p.PI H2/\∃f,Rps (okK p s own H I) H2 ys' f/\⇑f<=i+1/\S (i+1) f,λys' H2 h=>⟨_,(),rfl,r,h⟩,λx H2 y=>?_⟩;let⟨R,O⟩:=W.yld i d x H2 L y;have O:=O ds[i] (Ë r);have Z:p.PI H2:=p.mono d H2 D λb o _ e=>R b o e;have G:Kp p H1 H2:=F.trans (Kp.of R);have B:=A.go G Z;have Y:EnvD p s own σ H2 ρ:=E.go B.kp B.pen;have N:=cJ u (Kp.of R) M;refine⟨p,s,own,_,_,_,_,Y.comp n,fX (QG A O),step i ds[i] f (Ë r) U,λσ3 ρ3 E3 t3=>?_⟩;refine⟨p,s,own,ρ3,_,E3,t3,λb H4 h4 A4=>?_⟩;have C:At p s own H H4:=B.base A4;have z:=cJ B A4.kp N;cases b with
  |true =>
   refine aB ⟨p,s,own,ρ3,_,E3.go A4.kp A4.pen,by simpa using h4,λk' d' v H6 h6 A6 r6=>?_⟩;refine⟨(G.trans A4.kp).trans A6.kp,A6.pen,f++[d'],(cJ C A6.kp z).snoc (iJ (C.base A6) h6.1 (aX (jH C r6))),by simp;lia,h6.2⟩
  |false=>exact aD ⟨G.trans A4.kp,A4.pen,f,z,(),by simpa using h4⟩
 ·have e:i=⇑ds:=()
  subst e;refine .inl ⟨W.stop d L,λl hl'=>?_⟩;let⟨V,i7,nw⟩:=u.new hl' (.lst ys);have j:=dI I .new;refine q _ _ _ _ (w f U) (u.go V i7) (.lst (cY u j.2 nw) aq ?_);exact(cJ u V M).mono (λa o=>cY u j.1 o) (λ_ _ _ e=>e) λ_ _ e=>e
def Ke(own:List Str)(hc:X.calm=true)(hi:PDI X tg iter ti)(hg:∀c,PDG (X.comp own scope c) tg g)(ht:∀c,Er (X.comp own scope c) ifs tt)(he:∀c,PD (X.comp own scope c) elt te)(hk:fB X.env scope X.N=true:=by rfl)(hs:zF X iter:=by intro _;rfl) :
  PD X (.ListComp elt [⟨tg,iter,ifs,0⟩] scope pos) (dLC ⇑own ti g tt te):=PE.wk (Vo own hc hi hg ht he hk hs) qX
def CJ(own M:List Str)(hc:X.calm=true)(hi:PDI X tg iter ti)(hg:∀c,PDG (X.aO own M scope c) tg g)(ht:∀c,Er (X.aO own M scope c) ifs tt)(he:∀c,PD (X.aO own M scope c) elt te)(hk:aR X.env scope X.N M=true:=by decide +kernel)(hs:zF X iter:=by intro _;rfl) :
  PD X (.ListComp elt [⟨tg,iter,ifs,0⟩] scope pos) (dLC ⇑own ti g tt te):=PE.wk (J2 own M hc hi hg ht he hk hs) qX
end
def cg(d:D):Sl:=if cM d then .im d else .sh d
def vD{p:Pn}{H:Hp}{N:List Str}{vs:List V}{ds:List D}(g:Gr.G p H)(hp:p.PI H)(r:Rps (λa=>¬p.fp a) H vs ds):EnvD p H (λ_=>none) (L2.start N vs) H (ds.map cg++Ú (⇑N - ⇑vs) .any):=by
 refine⟨λ_ _ e _=>e,hp,(λ_ _ e=>nomatch e),λj s e=>?_,by unfold L2.start;simp[⇑r],g⟩;by_cases b:j<⇑ds
 ·rw[ñ (by simpa using b),à]at e;let⟨v,hv,c⟩:=r.getD (Ë b);rw[Ë b]at e;have e:=Ô e;have hs:(L2.start N vs)[j]?=some (some v):=by
   unfold L2.start;rw[ñ (by rw[Ä,⇑r];exact b),à,hv];rfl
  subst e;unfold cg;by_cases hi:cM ds[j]=true
  ·rw[el hi];exact⟨v,hs,c.imm hi⟩
  ·rw[em hi];exact⟨v,hs,c.mono (λ_ o=>⟨o,rfl⟩) (λ_ _ _ e=>e) λ_ _ e=>e⟩
 ·rw[õ (by simpa using b),Ŧ]at e;split at e
  ·cases e;trivial
  ·cases e
def xV{f:List D->(D->Prop)->Prop}{T:DS}{N:List Str}{vs:List V}{H:Hp}{Q:VK}{E:XK}(h:spD f vs H Q E)(c:∀ds P,f ds P->T { nx:=λ_=>P .none,rt:=P } (ds.map cg++Ú (⇑N - ⇑ds) .any))(g:Gr.G pZ H:=by trivial):mO T { nx:=λ_ H'=>Q .non H',rt:=Q } (L2.start N vs) H:=by
 let⟨ds,P,r,t,q⟩:=h;have E:=vD (p:=pZ) (N:=N) g trivial (r.mono (ok':=λa=>¬pZ.fp a) (λ_ _ z=>z) (λ_ _ _ e=>e) λ_ _ e=>e);rw[⇑r]at E;have i:∀H',(∀b o,H b=some o->¬pZ.fp b->H' b=some o)->Same H H':=λH' k b o e=>k b o e λz=>z;refine⟨pZ,H,λ_=>none,_,_,E,c ds P t,⟨λo s h' r' e' _ n=>q _ _ h' n (i h' e'.k0) .non,λd v h' n w=>q d v h' n (i h' w.k0) (w.rp.mono (λ_ o=>o.1) (λ_ _ _ e=>e) λ_ _ e=>e),λ_ _ _ _ _ _ n=>n.elim,λ_ _ _ _ _ _ n=>n.elim⟩⟩
def Ud{C:Pn->Prop}{f:List D->(D->Prop)->Prop}{T:DS}{N:List Str}{vs:List V}{H:Hp}{Q:VK}{E:XK}(h:spP C f vs H Q E)(b:∀ds P,f ds P->T { nx:=λ_=>P .none,rt:=P } (.pen C::(ds.map cg++Ú (⇑N - (⇑ds+1)) .any)))(g:∀p,Gr.G p H:=by intro _;trivial):mO T { nx:=λ_ H'=>Q .non H',rt:=Q } (L2.start N vs) H:=by
 let⟨p,vs',ds,P,c,rfl,i,r,t,q⟩:=h;have E0:=vD (p:=p) (N:=N.drop 1) (g p) i r;have E:EnvD p H (λ_=>none) (L2.start N (p.pv::vs')) H (.pen C::(ds.map cg++Ú (⇑N - (⇑ds+1)) .any)):=by
  refine⟨λ_ _ e _=>e,i,(λ_ _ e=>nomatch e),λj s e=>?_,by unfold L2.start;simp[⇑r],g p⟩;cases j with
  |zero =>
   have e:=Ô e;subst e;exact⟨rfl,c⟩
  |succ j =>
   rw[List.getElem?_cons_succ]at e;have hl:⇑N - (⇑ds+1)=⇑(N.drop 1) - ⇑vs':=by rw[⇑r,ť];lia
   rw[hl]at e;have q:=E0.slot j s e;have k:(L2.start N (p.pv::vs'))[j+1]?=(L2.start (N.drop 1) vs')[j]?:=by
    unfold L2.start;have:⇑N - ⇑(p.pv::vs')=⇑(N.drop 1) - ⇑vs':=by rw[ť,ÿ];lia
    rw[this];simp
   cases s <;> simp only[jC,k]at q ⊢ <;> exact q
 have l:∀{H' v d},RPost p H H' v d->Rp (λa=>H a=none) H' v d:=λw=>w.rp.mono (λ_ o=>o.1) (λ_ _ _ e=>e) λ_ _ e=>e;exact⟨p,H,λ_=>none,_,_,E,b ds P t,⟨λo s h' r' e' _ n=>q _ _ h' n e'.k0 e'.pen .non,λd v h' n w=>q d v h' n w.k0 w.pen (l w),λ_ _ _ _ _ _ n=>n.elim,λ_ _ _ _ _ _ n=>n.elim⟩⟩
end Dl
namespace PySem
open PyProof.Rows
abbrev nR(f0:Value)(q:Bool)(TI TO:Addr):Obj:={ cls:=.type "zip",data:=.fields #[f0,.bool q,.bool false,.ref TI,.ref TO]}
section
variable{prog:Za}{w:Zb}{A:Zr}{E:eB}{s:Shared}
def vU{z TI TO f g m l T:Addr}{q:Bool}{k:Nat}{xs ys:Array Value}{x y:Value}{oT:Obj}{Q:eB}(H:f≠z)(I:g≠z)(t:f≠g)(Z:m≠z)(m2:l≠z)(m3:l≠f)(D:s.heap.get? z=some (nR (Z2 T) q TI TO))(O:s.heap.get? TI=some { cls:=.type "tuple",data:=.seq #[.ref f,.ref g]})(S:s.heap.get? T=some oT)(X:s.heap.IsListIter f m k)(Y:s.heap.IsListIter g l k)(K:s.heap.IsList m xs)(L:s.heap.IsList l ys)(U:xs[k]?=some x)(V:ys[k]?=some y)(P:∀h',h'.get? z=some (nR (Z2 T) true TI TO)->h'.IsListIter f m (k+1)->h'.IsListIter g l (k+1)->h'.get? ↥s=some { cls:=.type "tuple",data:=.seq #[x,y]} ->
   (∀c o,c≠z->c≠f->c≠g->s.heap.get? c=some o->h'.get? c=some o)->Q (.ref ↥s) { s with heap:=h' }) :
  wpAny (model prog w) A (Builtin.«zip.__next__» ⟨[.ref z],[]⟩) (λfin s'=>∃v,fin=.done (.ret v)/\Q v s') E s:=by
 have j:∀{i:Nat}{v:Value}{R:eB},(#[Z2 T,Ž q,.bool false,.ref TI,.ref TO]:Array Value)[i]?=some v->R v s->wpAny (model prog w) A (XT (.ref z) i) R E s:=λh r=>Ť D rfl h r;show wpAny _ _ (XT (.ref z) 2 >>=_) _ _ _;refine Å (j (v:=.bool false) rfl ?_);show wpAny _ _ (XT (.ref z) 3 >>=_) _ _ _;refine Å (j (v:=.ref TI) rfl ?_);refine Å (XU O rfl ?_);show wpAny _ _ (ľ (.ref z) >>=_) _ _ _;refine Å ?_;unfold ľ;refine Å (j (v:=Z2 T) rfl ?_);show wpAny _ _ (loadIfAlive ((T:Int).toNat) >>=_) _ _ _;rw[Ĵ];refine Å (W.kdx_alive S ?_);simp only[Option.isNone_some,ī,if_false];refine Å (j (v:=.bool q) rfl ?_);refine L2.thn (Q:=λa s'=>a=false/\∃h1,s'={ s with heap:=h1 }/\h1.get? z=some (nR (Z2 T) true TI TO)/\h1.objs.size=↥s/\∀c o,c≠z->s.heap.get? c=some o->h1.get? c=some o) ?_ ?_
 ·cases q with
  |true=>exact Ø ⟨rfl,s.heap,rfl,D,rfl,λc o _ e=>e⟩
  |false =>
   rw[el ∅];refine Å (X9 D (by simp) λh1 G b1=>Ø ⟨rfl,h1,rfl,G,b1.1,λc o n e=>b1.extBut _ _ n e⟩)
 rintro a s' ⟨rfl,h1,rfl,G,F,p⟩;simp only[ī,if_false];refine Å ?_;simp only[←Array.forIn_toList,List.forIn_cons,List.forIn_nil];have B:h1.IsListIter f m k:=X.at λo e=>p f o H e;have C:h1.IsListIter g l k:=Y.at λo e=>p g o I e;have M:h1.IsList m xs:=K.at λo e=>p m o Z e;have N:h1.IsList l ys:=L.at λo e=>p l o m2 e;refine Å (Å (Ē ?_));show wpAny _ _ (Ĝ (.ref f) >>=_) _ _ _;refine Å (We B M U λh2 c1 b2=>Ø (Ø ?_));refine Å (Å (Ē ?_));show wpAny _ _ (Ĝ (.ref g) >>=_) _ _ _;refine Å (We (C.extBut b2.extBut t.symm) (N.extBut b2.extBut m3) V λh3 c2 b3=>Ø (Ø (Ø ?_)));have u:h3.objs.size=↥s:=by rw[b3.1,b2.1,F]
 show wpAny _ _ (newTuple [x,y] >>=_) _ _ _;refine Å (Y4 (Ø ⟨_,rfl,?_⟩));show Q (.ref h3.objs.size) _;rw[u];have J:∀c o,c≠f->c≠g->h1.get? c=some o->(h3.push { cls:=.type "tuple",data:=.seq #[x,y]}).get? c=some o:=λc o a b e=>Ò _ (b3.extBut _ _ b (b2.extBut _ _ a e));refine P _ (J z _ H.symm I.symm G) ((c1.extBut b3.extBut t).at λo e=>Ò _ e) (c2.at λo e=>Ò _ e) ?_ λc o a b d e=>J c o b d (p c o a e);rw[←u];exact â _ rfl
def yG{z TI TO g j p l T:Addr}{q:Bool}{k:Nat}{xs ys:Array Value}{oT:Obj}{Q:Fin->Shared->Prop}(hh:A.handled=none)(Y:g≠z)(Z:j≠z)(D:g≠j)(U:p≠z)(V:l≠z)(X:l≠g)(B:s.heap.get? z=some (nR (Z2 T) q TI TO))(M:s.heap.get? TI=some { cls:=.type "tuple",data:=.seq #[.ref g,.ref j]})(N:s.heap.get? T=some oT)(P:s.heap.IsListIter g p k)(S:s.heap.IsListIter j l k)(J:s.heap.IsList p xs)(K:s.heap.IsList l ys)(u:xs[k]?=none\/ys[k]?=none)(G:∀h' e,(∀c o,c≠z->c≠g->c≠j->s.heap.get? c=some o->h'.get? c=some o)->(∃o,h'.get? e=some o/\o.cls=.type "StopIteration")->E (.ref e) { s with heap:=h' }) :
  wpAny (model prog w) A (Builtin.«zip.__next__» ⟨[.ref z],[]⟩) Q E s:=by
 have f:∀{i:Nat}{v:Value}{R:eB},(#[Z2 T,Ž q,.bool false,.ref TI,.ref TO]:Array Value)[i]?=some v->R v s->wpAny (model prog w) A (XT (.ref z) i) R E s:=λh r=>Ť B rfl h r;show wpAny _ _ (XT (.ref z) 2 >>=_) _ _ _;refine Å (f (v:=.bool false) rfl ?_);show wpAny _ _ (XT (.ref z) 3 >>=_) _ _ _;refine Å (f (v:=.ref TI) rfl ?_);refine Å (XU M rfl ?_);show wpAny _ _ (ľ (.ref z) >>=_) _ _ _;refine Å ?_;unfold ľ;refine Å (f (v:=Z2 T) rfl ?_);show wpAny _ _ (loadIfAlive ((T:Int).toNat) >>=_) _ _ _;rw[Ĵ];refine Å (W.kdx_alive N ?_);simp only[Option.isNone_some,ī,if_false];refine Å (f (v:=.bool q) rfl ?_);refine L2.thn (Q:=λa H=>a=false/\∃h1,H={ s with heap:=h1 }/\h1.get? z=some (nR (Z2 T) true TI TO)/\h1.objs.size=↥s/\∀c o,c≠z->s.heap.get? c=some o->h1.get? c=some o) ?_ ?_
 ·cases q with
  |true=>exact Ø ⟨rfl,s.heap,rfl,B,rfl,λc o _ e=>e⟩
  |false =>
   rw[el ∅];refine Å (X9 B (by simp) λh1 I b1=>Ø ⟨rfl,h1,rfl,I,b1.1,λc o n e=>b1.extBut _ _ n e⟩)
 rintro a H ⟨rfl,h1,rfl,I,sz1,m⟩;simp only[ī,if_false];refine Å ?_;simp only[←Array.forIn_toList,List.forIn_cons,List.forIn_nil];have t:h1.IsListIter g p k:=P.at λo e=>m g o Y e;have y:h1.IsListIter j l k:=S.at λo e=>m j o Z e;have F:h1.IsList p xs:=J.at λo e=>m p o U e;have L:h1.IsList l ys:=K.at λo e=>m l o V e;refine Å (Å (Ē ?_));show wpAny _ _ (Ĝ (.ref g) >>=_) _ _ _;cases C:xs[k]? with
 |none=>exact Å (Wl hh t F C λh2 e b2 he=>G h2 e (λc o a b _ x=>b2 c o b (m c o a x)) he)
 |some x =>
  have O:ys[k]?=none:=u.elim (λz=>by rw[C]at z;cases z) id;refine Å (We t F C λh2 c1 b2=>Ø (Ø ?_));refine Å (Å (Ē ?_));show wpAny _ _ (Ĝ (.ref j) >>=_) _ _ _;exact Å (Wl hh (y.extBut b2.extBut D.symm) (L.extBut b2.extBut X) O λh3 e b3 he=>G h3 e (λc o a b d x=>b3 c o d (b2.extBut _ _ b (m c o a x))) he)
structure ZSt(z TI TO i1 i2 l1 l2:Addr)(xs ys:Array Value)(i:Nat)(h:Zg):Prop where
 zip:(i=0/\h.get? z=some (nR .none false TI TO))\/∃(T:Addr)(q:Bool)(oT:Obj),h.get? z=some (nR (Z2 T) q TI TO)/\h.get? T=some oT/\T≠z/\T≠i1/\T≠i2
 ti:h.get? TI=some { cls:=.type "tuple",data:=.seq #[.ref i1,.ref i2]}
 to:∃a b,h.get? TO=some { cls:=.type "tuple",data:=.seq #[a,b]}
 j1:h.IsListIter i1 l1 i
 j2:h.IsListIter i2 l2 i
 e1:h.IsList l1 xs
 e2:h.IsList l2 ys
variable{z TI TO i1 i2 l1 l2:Addr}{xs ys:Array Value}
def ZSt.keeps{i:Nat}{h h':Zg}(Z:ZSt z TI TO i1 i2 l1 l2 xs ys i h){S:Addr}{u:Obj}(B:h.get? S=some u)(hc:u.cls=.type "list")(G:S≠l1)(H:S≠l2)(I:∀(T:Addr)(q:Bool),h.get? z=some (nR (Z2 T) q TI TO)->S≠T)(k:∀b o,b≠S->h.get? b=some o->h'.get? b=some o):ZSt z TI TO i1 i2 l1 l2 xs ys i h':=by
 have d:∀{b:Addr}{o:Obj},h.get? b=some o->o.cls≠.type "list"->b≠S:=λe n z=>by subst z;rw[B]at e;cases e;exact n hc
 let⟨p,f,l,v⟩:=Z.j1;let⟨t,g,m,x⟩:=Z.j2;let⟨a,b,j⟩:=Z.to;have D:=k i1 p (d f (by rw[l];decide)) f;have F:=k i2 t (d g (by rw[m];decide)) g;refine⟨?_,k _ _ (d Z.ti (show Ă "tuple"≠_ by decide)) Z.ti,⟨a,b,k _ _ (d j (show Ă "tuple"≠_ by decide)) j⟩,⟨p,D,l,v⟩,⟨t,F,m,x⟩,Z.e1.at λo e=>k _ o G.symm e,Z.e2.at λo e=>k _ o H.symm e⟩;rcases Z.zip with⟨y,c⟩|⟨T,q,J,c,C,r⟩
 ·exact .inl ⟨y,k _ _ (d c (show Ă "zip"≠_ by decide)) c⟩
 ·exact .inr ⟨T,q,J,k _ _ (d c (show Ă "zip"≠_ by decide)) c,k _ _ (I T q c).symm C,r⟩
def IW{i:Nat}{x y:Value}{Q:Option Value->Shared->Prop}(D:Wp z TI TO i1 i2 l1 l2)(Z:ZSt z TI TO i1 i2 l1 l2 xs ys i s.heap)(k:xs[i]?=some x)(l:ys[i]?=some y)(h:∀h',ZSt z TI TO i1 i2 l1 l2 xs ys (i+1) h'->h'.get? ↥s=some { cls:=.type "tuple",data:=.seq #[x,y]}->(∀(T:Addr)(q:Bool),h'.get? z=some (nR (Z2 T) q TI TO)->T=↥s\/∃q',s.heap.get? z=some (nR (Z2 T) q' TI TO)) ->
   (∀c o,c≠z->c≠TO->c≠i1->c≠i2->s.heap.get? c=some o->h'.get? c=some o)->Q (some (.ref ↥s)) { s with heap:=h' }):wpAny (model prog w) A (ZY (.ref z)) Q E s:=by
 let⟨a,b,g⟩:=Z.to;have lt:∀{c:Addr}{o:Obj},s.heap.get? c=some o->↥s≠c:=λe=>Ĺ (Ï e);let⟨u,p,_⟩:=id Z.j1;let⟨v,r,_⟩:=id Z.j2;rcases Z.zip with⟨rfl,d⟩|⟨T,q,t,d,j,m,t2,n⟩
 ·refine wpAny_pyNext_zip_item D d Z.ti g Z.j1 Z.j2 Z.e1 Z.e2 k l λh' b1 b2 b3 b4 b5 b6 b7=>h h' ⟨.inr ⟨_,false,_,b1,b5,lt d,lt p,lt r⟩,b7 _ _ D.TIz D.TITO D.TIi1 D.TIi2 Z.ti,⟨_,_,b2⟩,b3,b4,Z.e1.at λo e=>b7 _ o D.l1z D.l1TO D.l1i1 D.l1i2 e,Z.e2.at λo e=>b7 _ o D.l2z D.l2TO D.l2i1 D.l2i2 e⟩ b5 (λT q e=>?_) b7;rw[b1]at e;cases e;exact .inl rfl
 ·have f:s.TypeIs (.ref z) "zip":=⟨_,d,rfl⟩
  unfold ZY;refine Å (XZ (ļ (name:=ū "__next__") f F.slot_zip_next (ĳ F.slot_zip_next f F.entry_zip_next ?_ (F.args_zip_next_1 _))));refine vU D.i1z D.i2z D.i12 D.l1z D.l2z D.l2i1 d Z.ti j Z.j1 Z.j2 Z.e1 Z.e2 k l λh' b1 b3 b4 b5 b7=>Ø (h h' ⟨.inr ⟨T,true,t,b1,b7 _ _ m t2 n j,m,t2,n⟩,b7 _ _ D.TIz D.TIi1 D.TIi2 Z.ti,⟨a,b,b7 _ _ D.TOz D.TOi1 D.TOi2 g⟩,b3,b4,Z.e1.at λo e=>b7 _ o D.l1z D.l1i1 D.l1i2 e,Z.e2.at λo e=>b7 _ o D.l2z D.l2i1 D.l2i2 e⟩ b5 (λT' q' e=>?_) λc o n1 _ n3 n4 e=>b7 c o n1 n3 n4 e);rw[b1]at e;cases e;exact .inr ⟨_,d⟩
def Ng{i:Nat}{Q:Option Value->Shared->Prop}(hh:A.handled=none)(D:Wp z TI TO i1 i2 l1 l2)(Z:ZSt z TI TO i1 i2 l1 l2 xs ys i s.heap)(d:xs[i]?=none\/ys[i]?=none)(h:∀h',(∀c o,c≠z->c≠TO->c≠i1->c≠i2->s.heap.get? c=some o->h'.get? c=some o)->Q none { s with heap:=h' }):wpAny (model prog w) A (ZY (.ref z)) Q E s:=by
 let⟨a,b,j⟩:=Z.to;rcases Z.zip with⟨rfl,g⟩|⟨T,q,m,g,k,n,t2,p⟩
 ·exact WA hh D g Z.ti j Z.j1 Z.j2 Z.e1 Z.e2 d h
 ·have f:s.TypeIs (.ref z) "zip":=⟨_,g,rfl⟩
  unfold ZY;refine Å (XZ (ļ (name:=ū "__next__") f F.slot_zip_next (ĳ F.slot_zip_next f F.entry_zip_next ?_ (F.args_zip_next_1 _))));refine yG hh D.i1z D.i2z D.i12 D.l1z D.l2z D.l2i1 g Z.ti k Z.j1 Z.j2 Z.e1 Z.e2 d λh' e k2 he=>?_;let⟨o,l,hc⟩:=he;refine Å (X0 (T:="StopIteration") (b:=true) ⟨o,l,hc⟩ X1 ?_);exact Ø (h _ λc o n1 _ n3 n4 e=>k2 c o n1 n3 n4 e)
def ItP(h:Zg):List Value->List (Value×Value)->Prop:=Paired λv p=>∃T,v=.ref T/\h.get? T=some { cls:=.type "tuple",data:=.seq #[p.1,p.2]}
theorem ItP.snoc{h:Zg}:∀{vs:List Value}{ps:List (Value×Value)}{v:Value}{p:Value×Value},ItP h vs ps->(∃T,v=.ref T/\h.get? T=some { cls:=.type "tuple",data:=.seq #[p.1,p.2]})->ItP h (vs++[v]) (ps++[p])
 |_,_,_,_,.nil,r=>.cons r .nil
 |_,_,_,_,.cons a t,r=>.cons a (ItP.snoc t r)
def ItP.keeps{h h':Zg}{vs:List Value}{ps:List (Value×Value)}(H:ItP h vs ps)(k:∀T o,h.get? T=some o->o.cls=.type "tuple"->(∃v∈vs,v=.ref T)->h'.get? T=some o):ItP h' vs ps:=by
 induction H with
 |nil=>exact .nil
 |cons a t ih =>
  let⟨T,e,b⟩:=a;exact .cons ⟨T,e,k T _ b rfl ⟨_,Ó,e⟩⟩ (ih λT o h c ⟨v,hv,e⟩=>k T o h c ⟨v,Í _ hv,e⟩)
end
section
variable{prog:Za}{w:Zb}{A:Zr}{z TI TO i1 i2 l1 l2:Addr}{xs ys:Array Value}{R:Result->Shared->Prop}
abbrev OJ(acc:Array Value)(c:Nat):Obj:={ cls:=.type "list",dict:=none,data:=.seq acc c,slots:=#[]}
def IK(hh:A.in1.handled=none)(D:Wp z TI TO i1 i2 l1 l2)(hn:min xs.size ys.size<=1000)(S:Addr)(nS:S≠z/\S≠TO/\S≠i1/\S≠i2/\S≠l1/\S≠l2)(u:Value):∀(m i:Nat)(s:Shared)(acc:Array Value)(c:Nat),min xs.size ys.size - i=m->i<=min xs.size ys.size ->
  ZSt z TI TO i1 i2 l1 l2 xs ys i s.heap->(∀(T:Addr)(q:Bool),s.heap.get? z=some (nR (Z2 T) q TI TO)->S≠T)->s.heap.get? S=some (OJ acc c)->ItP s.heap acc.toList ((xs.toList.zip ys.toList).take i)->(∀v∈acc.toList,∀T,v=.ref T->T≠z/\T≠TO/\T≠i1/\T≠i2/\T≠S) ->
  (∀h' acc' c',(∀b o,b≠S->b≠z->b≠TO->b≠i1->b≠i2->s.heap.get? b=some o->h'.get? b=some o)->h'.get? S=some (OJ acc' c')->ItP h' acc'.toList (xs.toList.zip ys.toList)->(∀v∈acc'.toList,v∈acc.toList\/∃T,v=.ref T/\↥s<=T)->R (.ok (.ret u)) { s with heap:=h' }) ->
  Ye (model prog w) A (.builtin "list.extend.loop" ⟨[.ref S,.ref z,u],[]⟩) R s:=by
 let⟨N,U,V,W,s5,s6⟩:=nS;intro m;induction m with
 |zero =>
  intro i s acc c hm hi Z Q p l hv H;have e:i=min xs.size ys.size:=()
  refine Y9 F.entry_extend_loop ?_;rw[Around.under_plainId F.plain_extend_loop _];show wpAny _ A.in1 (ZY (.ref z) >>=_) _ _ s;refine Å (Ng hh D Z ?_ λh' k=>?_)
  ·rcases Nat.le_total xs.size ys.size with h|h
   ·exact .inl (Array.getElem?_eq_none ())
   ·exact .inr (Array.getElem?_eq_none ())
  ·have Y:(xs.toList.zip ys.toList).take i=xs.toList.zip ys.toList:=ő (by simp;lia);rw[Y]at l;exact Ø (H h' acc c (λb o n1 n2 n3 n4 n5 e=>k b o n2 n3 n4 n5 e) (k S _ N U V W p) (l.keeps λT o h _ ⟨v,a,e⟩=>let⟨x,y,a3,a4,_⟩:=hv v a T e;k T o x y a3 a4 h) λv hv=>.inl hv)
 |succ m ih =>
  intro i s acc c hm hi Z Q p l hv H;have O:i<xs.size:=()
  have P:i<ys.size:=()
  refine Y9 F.entry_extend_loop ?_;rw[Around.under_plainId F.plain_extend_loop _];show wpAny _ A.in1 (ZY (.ref z) >>=_) _ _ s;refine Å (IW D Z (Array.getElem?_eq_getElem O) (Array.getElem?_eq_getElem P) λh1 Z1 hT hz1 k1=>?_);have j:=k1 S _ N U V W p;have lt:∀{b:Addr}{o:Obj},s.heap.get? b=some o->↥s≠b:=λe=>Ĺ (Ï e);have hsz:=⇑l;have g:acc.size=i:=by
   have:⇑acc.toList=i:=by rw[hsz,ć,List.length_zip];simp;lia
   simpa using this
  show wpAny _ A.in1 (WB S (·.push (.ref ↥s)) >>=_) _ _ _;refine Å ?_;have h24:=ü;have r:∀(T:Addr)(q:Bool),h1.get? z=some (nR (Z2 T) q TI TO)->S≠T:=λT q e=>by
   rcases hz1 T q e with z'|⟨t,X⟩
   ·rw[z'];exact(lt p).symm
   ·exact Q T t X
  have f:∀b o,b≠S->h1.get? b=some o->(h1.update S (ó (·.push (Ě ↥s)))).get? b=some o:=λb o n e=>(Į _ _ (ĝ n)).trans e;let⟨o1,x,_⟩:=Z.j1;let⟨o2,y,_⟩:=Z.j2;have C:∃o,s.heap.get? z=some o:=by
   rcases Z.zip with⟨_,M⟩|⟨_,_,_,M,_⟩
   ·exact⟨_,M⟩
   ·exact⟨_,M⟩
  let⟨oz,C⟩:=C;let⟨ta,tb,B⟩:=Z.to;have d:↥s≠z/\↥s≠TO/\↥s≠i1/\↥s≠i2/\↥s≠S:=⟨lt C,lt B,lt x,lt y,lt p⟩
  obtain⟨E,J⟩:∃E,(h1.update S (ó (·.push (Ě ↥s)))).get? S=some (OJ (acc.push (.ref ↥s)) E):=⟨_,Ľ _ j rfl⟩
  have tk:(xs.toList.zip ys.toList).take (i+1)=(xs.toList.zip ys.toList).take i++[(xs[i],ys[i])]:=by
   rw[ĕ];congr 1;have:(xs.toList.zip ys.toList)[i]?=some (xs[i],ys[i]):=by
    rw[List.getElem?_zip_eq_some];simp[O,P]
   rw[this];rfl
  refine WE j rfl (Ø ⟨X8 F.plain_extend_loop _,ih (i+1) { s with heap:=h1.update S (ó (·.push (Ě ↥s)))} (acc.push (.ref ↥s)) E () () (Z1.keeps j rfl s5 s6 r f) (λT q e=>r T q ?_) J ?_ ?_ ?_⟩) (by rw[g];lia) (by show(acc.push _).size<=sizeLine+1;rw[Array.size_push,g];lia)
  ·have zz:z≠S:=ĝ N;rw[show(h1.update S (ó (·.push (Ě ↥s)))).get? z=h1.get? z from Į _ _ (ĝ zz)]at e;exact e
  ·rw[tk,Array.toList_push];refine ItP.snoc (l.keeps λT o h _ ⟨v,a,e⟩=>?_) ⟨_,rfl,f _ _ d.2.2.2.2 hT⟩;let⟨b1,b2,b3,b4,b5⟩:=hv v a T e;exact f _ _ b5 (k1 T o b1 b2 b3 b4 h)
  ·intro v a T e;rw[Array.toList_push]at a;rcases ë.mp a with q|q
   ·exact hv v q T e
   ·have t:v=.ref ↥s:=by simpa using q
    rw[t]at e;cases e;exact d
  ·intro h' acc' c' kk I G L;refine H h' acc' c' (λb o n1 n2 n3 n4 n5 e=>kk b o n1 n2 n3 n4 n5 (f b o n1 (k1 b o n2 n3 n4 n5 e))) I G λv a=>?_;rcases L v a with q|⟨T,e,K⟩
   ·rw[Array.toList_push]at q;rcases ë.mp q with q|q
    ·exact .inl q
    ·have t:v=.ref ↥s:=by simpa using q
     exact .inr ⟨_,t,Õ _⟩
   ·exact .inr ⟨T,e,ą (Nat.le_of_lt (Ï (f _ _ d.2.2.2.2 hT))) K⟩
def Br:Ys (.type "zip") "__len__"=pure none:=by rw[WF,WG];kernel_rfl
def yE:Ys (.type "zip") "__length_hint__"=pure none:=by rw[WF,WG];kernel_rfl
def IV{s:Shared}{E:eB}{Q:eB}(hh:A.handled=none)(D:Wp z TI TO i1 i2 l1 l2)(hn:min xs.size ys.size<=1000)(f:s.heap.get? z=some (nR .none false TI TO))(Z:ZSt z TI TO i1 i2 l1 l2 xs ys 0 s.heap)(G:∀h' acc' c',(∀b o,b≠z->b≠TO->b≠i1->b≠i2->s.heap.get? b=some o->h'.get? b=some o)->h'.get? ↥s=some (OJ acc' c')->ItP h' acc'.toList (xs.toList.zip ys.toList)->(∀v∈acc'.toList,∃T,v=.ref T/\↥s<T)->Q (.ref ↥s) { s with heap:=h' }) :
  wpAny (model prog w) A (Z6 (.type "list") [.ref z]) Q E s:=by
 have lt:∀{b:Addr}{o:Obj},s.heap.get? b=some o->↥s≠b:=λe=>Ĺ (Ï e);let⟨N,B,_⟩:=id Z.j1;let⟨O,C,_⟩:=id Z.j2;let⟨P,b1,_⟩:=id Z.e1;let⟨S,b2,_⟩:=id Z.e2;let⟨L,M,i⟩:=id Z.to;refine WH (Q₁:=λobj s₁=>obj=.ref ↥s/\s₁={ s with heap:=s.heap.push { cls:=.type "list",data:=.seq #[]}}) F.called_list (F.typeCall_list_1 _) F.entry_list_init (WJ _ ⟨rfl,rfl⟩) λobj sx hx=>?_;let⟨rfl,rfl⟩:=hx;have r:(s.heap.push { cls:=.type "list",data:=.seq #[]}).get? ↥s=some { cls:=.type "list",data:=.seq #[]}:=â _ rfl;refine⟨⟨_,r,rfl⟩,F.args_list_init_2 _ _,?_⟩;show wpAny _ _ (Builtin.List.listItems (.ref ↥s) >>=λd=>Builtin.List.listUpdate (.ref ↥s) (λ_=>#[]) >>=λ_=>letGo d.toList.reverse >>=λ_=>Ĥ (.ref ↥s) (.ref z) .none) _ _ _;have d:∀b o,s.heap.get? b=some o->(s.heap.push { cls:=.type "list",data:=.seq #[]}).get? b=some o:=λb o e=>Ò _ e;refine Å ?_;unfold Builtin.List.listItems;refine Å (XU r rfl (Ø ?_));refine Å (m:=WB ↥s (λ_=>#[])) (WE r rfl ?_);have a:=Ľ (ó (λ_=>(#[]:Array Value))) r rfl;refine Å (wpAny_letGo ?_);generalize hg:(s.heap.push { cls:=.type "list",data:=.seq #[]}).update ↥s (ó λ_=>(#[]:Array Value))=g at a;have p:∀b o,s.heap.get? b=some o->g.get? b=some o:=λb o e=>by rw[←hg];exact(Į _ _ (lt e)).trans (d b o e)
 have K:g.objs.size=↥s+1:=by rw[←hg,œ,ķ]
 have y:∀{h:Zg},(∀b o,s.heap.get? b=some o->h.get? b=some o)->ZSt z TI TO i1 i2 l1 l2 xs ys 0 h:=λ{h} k=>⟨.inl ⟨rfl,k _ _ f⟩,k _ _ Z.ti,⟨L,M,k _ _ i⟩,Z.j1.at λo e=>k _ o e,Z.j2.at λo e=>k _ o e,Z.e1.at λo e=>k _ o e,Z.e2.at λo e=>k _ o e⟩
 have t:∀{h:Zg},(∀b o,s.heap.get? b=some o->h.get? b=some o)->({ s with heap:=h }:Shared).TypeIs (.ref z) "zip":=λk=>⟨_,k _ _ f,rfl⟩
 unfold Ĥ;refine Å (Yq (t p) ?_);have H:Ż (.ref ↥s) (.ref z)=false:=by simp[Ż,lt f]
 have I:(Ă "zip"==Ă "list")=false:=∅
 have J:(Ă "zip"==Ă "tuple")=false:=∅
 simp only[H,I,J,Bool.or_false,ī,if_false];refine Å (WN (p _ _ f) ?_);refine Å (Ē ?_);unfold Builtin.List.listLengthHint;refine Å (X6 (t p) Br ?_);show wpAny _ _ (specialOf (Ě z) (ū "__length_hint__") >>=_) _ _ _;refine Å (X6 (t p) yE ?_);refine Ø ?_;show wpAny _ _ (rule "list.extend.makes-room" >>=λ_=>Builtin.List.listTouch (.ref ↥s) >>=λ_=>again (.builtin "list.extend.loop" ⟨[.ref ↥s,.ref z,.none],[]⟩)) _ _ _;refine Å (wpAny_rule (Å ?_));show wpAny _ _ (WB ↥s (·.push .none) >>=λ_=>WB ↥s (·.pop)) _ _ _;refine Å (WE a rfl ?_);have j:=Ľ (ó (·.push İ)) a rfl;refine WE j rfl ?_;have l:=Ľ (ó (·.pop)) j rfl;generalize hk:(g.update ↥s (ó (·.push İ))).update ↥s (ó (·.pop))=g' at l;have kk:∀b o,b≠↥s->g.get? b=some o->g'.get? b=some o:=λb o n e=>by rw[←hk];exact(Į _ _ (ĝ n)).trans ((Į _ _ (ĝ n)).trans e)
 have c:∀b o,s.heap.get? b=some o->g'.get? b=some o:=λb o e=>kk b o (ĝ (lt e)) (p b o e);have U:g'.objs.size=↥s+1:=by rw[←hk,œ,œ,K]
 refine Ø ⟨X8 F.plain_extend_loop _,IK (A:=A.in1) (xs:=xs) (ys:=ys) hh D hn ↥s ⟨lt f,lt i,lt B,lt C,lt b1,lt b2⟩ _ _ 0 { s with heap:=g' } #[] _ rfl (Ğ _) (y c) (λT q e=>?_) l .nil (λv hv=>nomatch hv) λh' acc' c' k' hS' hP' hn'=>?_⟩
 ·have x:=c _ _ f;rw[e]at x;cases x
 ·refine⟨rfl,G h' acc' c' (λb o n1 n2 n3 n4 e=>k' b o (ĝ (lt e)) n1 n2 n3 n4 (c b o e)) hS' hP' λv hv=>?_⟩;rcases hn' v hv with q|⟨T,e,u⟩
  ·exact nomatch q
  ·refine⟨T,e,?_⟩;have:g'.objs.size<=T:=u;lia
end
end PySem
namespace L2
open PySem PySem.Spec PyProof.Rows
section
variable{X:Cx}{pins:List (Addr×Obj)}{σ:L2.St}{H:Hp}{s:Shared}
def Inv.Jo{a:Addr}{o:HO}{i:Hp}{g:Shared}{h:L2.St}(I:Inv X pins σ H s)(f:Inv X pins h i g)(d:↥g<=a)(hn:H a=none)(new:bx X.prog X.w (upd H a o) s.heap a o):Inv X pins σ (upd H a o) s:=by
 have lt:∀{b:Addr}{u:Obj},g.heap.get? b=some u->b≠a:=λe z=>er (î (Ï e) d) (by rw[z];exact Ą _);refine I.track hn (λob e=>?_) (ĝ (é (î f.lt d))) (λx c e=>?_) (λp hp=>lt (f.pin p hp).1) new
 ·exact er (î (Ï e) (ą f.sz d)) (Ą _)
 ·let⟨v,u,hu,_⟩:=f.cell x c e;exact lt hu
theorem Inv.tuples{C:Hp}{g:Shared}{k:L2.St}(l:Inv X pins k C g):∀(vs:List Value)(ps:List (Value×Value))(i:List (V×V))(H:Hp),Inv X pins σ H s->ItP s.heap vs ps->Paired (λ(q:V×V) (p:Value×Value)=>RelV q.1 p.1/\RelV q.2 p.2) i ps->(∀v∈vs,∃T,v=.ref T/\↥g<=T)->(∀T,↥g<=T->H T=none\/∃xs,H T=some (.tup xs)) ->
  ∃(d:Hp)(j:List V),Inv X pins σ d s/\Same H d/\Vals j vs/\Paired (λw (q:V×V)=>∃t,w=.ref t/\d t=some (.tup [q.1,q.2])) j i/\(∀T,↥g<=T->d T=none\/∃xs,d T=some (.tup xs))/\(∀T,(∀v∈vs,v≠.ref T)->d T=H T)
 |_,_,_,H,I,.nil,.nil,_,hN=>⟨H,[],I,Same.refl _,.nil,.nil,hN,λ_ _=>rfl⟩
 |_,_,_,H,I,.cons (a:=v) (l₁:=vs) (b:=p) (l₂:=ps) r t,.cons (a:=q) (l₁:=i) rq tq,hv,hN=>by
  let⟨T,e,m⟩:=r;subst e;let⟨Q,J,f⟩:=hv _ Ó;cases J;have B:Vals [q.1,q.2] [p.1,p.2]:=.cons rq.1 (.cons rq.2 .nil);have okT:∀h:Hp,bx X.prog X.w h s.heap T (.tup [q.1,q.2]):=λh=>⟨by show 2<=sizeLine;decide,[p.1,p.2],B,⟨_,m,rfl,0,rfl⟩⟩
  have key:∃c,Inv X pins σ c s/\Same H c/\c T=some (.tup [q.1,q.2])/\(∀U,↥g<=U->c U=none\/∃xs,c U=some (.tup xs))/\∀U,U≠T->c U=H U:=by
   rcases hN T f with hn|⟨xs,y⟩
   ·refine⟨upd H T (.tup [q.1,q.2]),I.Jo l f hn (okT _),λb u e=>by rw[aj (ao e hn)];exact e,aq,λU hU=>?_,λU hU=>aj hU⟩;by_cases z:U=T
    ·subst z;exact .inr ⟨_,aq⟩
    ·rw[aj z];exact hN U hU
   ·refine⟨H,I,Same.refl _,?_,hN,λ_ _=>rfl⟩;let⟨_,its,L,o,x,hc,n,hd⟩:=I.hok T _ y;rw[m]at x;cases x;cases hd;have:xs=[q.1,q.2]:=Vals.inj (by simpa using L) B;rw[y,this]
  let⟨c,D,M,h1,F,N⟩:=key;let⟨h,j,E,A,P,K,G,O⟩:=Inv.tuples l vs ps i c D t tq (λv hv'=>hv v (Í _ hv')) F;refine⟨h,.ref T::j,E,M.trans A,.cons rfl P,.cons ⟨T,rfl,A _ _ h1⟩ K,G,λU hU=>?_⟩;rw[O U λv hv'=>hU v (Í _ hv'),N U λz=>hU _ Ó (by rw[z])]
def tLZ(K:á)(a:TA):TE:=λσ H Q=>a σ H λvs H1=>∃p q xs ys,vs=[.ref p,.ref q]/\SqL K H1 p xs/\SqL K H1 q ys/\⇑xs<=1000 /\
 ∀l ws H',Same H1 H'->H1 l=none->H' l=some (.lst ws)->Paired (λw (q:V×V)=>∃t,w=.ref t/\H' t=some (.tup [q.1,q.2])) ws (xs.zip ys)->Q (.ref l) H'
theorem yK:∀{xs ys:List V}{us vs:List Value},Vals xs us->Vals ys vs->Paired (λ(q:V×V) (p:Value×Value)=>RelV q.1 p.1/\RelV q.2 p.2) (xs.zip ys) (us.zip vs)
 |_,_,_,_,.nil,_=>.nil
 |_,_,_,_,.cons _ _,.nil=>.nil
 |_,_,_,_,.cons a b,.cons c d=>.cons ⟨a,c⟩ (yK b d)
def Cq{a b:Zt}{R:TA}{p1 B m c:Pos}(hc:X.calm=true)(hgl:Gl X "list")(x:X.mg "list"=none)(r:Gl X "zip")(y:X.mg "zip"=none)(ha:PA X [a,b] R)(J:Zu [.Call (.Name "zip" B) [a,b] [] c] X.env=[(false,Zv (.Call (.Name "zip" B) [a,b] [] c) X.env)]:=by rfl)(Y:Zu [a,b] X.env=(false,Zv a X.env)::Zu [b] X.env:=by rfl)(e3:(Zw c (Zu [b] X.env)).any (·.1)=false:=by rfl) :
  PE X (.Call (.Name "list" p1) [.Call (.Name "zip" B) [a,b] [] c] [] m) (tLZ X.K R):=by
 intro pins s σ H Q I h;refine Ŝ (dU I hgl x WO ?_);refine Ā ?_ J rfl;rw[J];refine Calls.spliced_cons ?_;refine Ŝ (dU I r y PyProof.Rows.boot_zip ?_);refine Ā (thn (ha c pins s σ H _ I h) λus s1 ⟨vs,H1,I1,r1,q1⟩=>?_) Y e3;let⟨p,q,xs,ys,rfl,hp,hq,M,k⟩:=q1;let⟨u,u2,rfl,rx,ry⟩:=vals2 r1;cases rx;cases ry;let⟨its,P,C,_⟩:=I1.list hp;let⟨i,E,g,_⟩:=I1.list hq;refine call_zip_2 C.isList g.isList λh' hz hTI hTO hi1 hi2 hsz hk=>?_;refine Calls.spliced_nil ?_;have lp:p<↥s1:=by let⟨o,e,_⟩:=C.isList;exact Ï e
 have lq:q<↥s1:=by let⟨o,e,_⟩:=g.isList;exact Ï e
 have D:=zipApart_new lp lq;have Z:ZSt (↥s1+4) (↥s1+2) (↥s1+3) ↥s1 (↥s1+1) p q its.toArray i.toArray 0 h' :=
  ⟨.inl ⟨rfl,hz⟩,hTI,⟨_,_,hTO⟩,hi1,hi2,C.isList.at λo e=>hk _ o e,g.isList.at λo e=>hk _ o e⟩
 have hl1:=⇑P;refine IV (s:={ s1 with heap:=h' }) (I1.ok.hd hc) D (by simp;lia) hz Z λh2 acc c2 k2 hS hP hT=>?_;have lt:∀{b:Addr}{o:Obj},s1.heap.get? b=some o->b<↥s1:=λe=>Ï e;have l:∀b o,s1.heap.get? b=some o->h2.get? b=some o:=λb o e=>by
  have l0:=lt e;have n:∀j,b≠↥s1+j:=λj=>é (î l0 (Nat.le_add_right _ _));exact k2 b o (n 4) (n 3) (n 0) (n 1) (hk b o e)
 have U:Inv X pins σ H1 { s1 with heap:=h2 }:=I1.kept (t':=s1.toks) l;have N:h'.objs.size=↥s1+5:=hsz;let⟨G,F,V,s3,S,O,N3,u3⟩:=Inv.tuples I1 acc.toList _ _ H1 U hP (yK P E) (λv hv=>by
  let⟨T,e,f⟩:=hT v hv;have L:h'.objs.size<T:=f;exact⟨T,e,()⟩) λT hT=>.inl (I1.hok.fresh hT)
 have d:G h'.objs.size=none:=by
  rw[u3 _ λv hv z=>?_]
  ·exact I1.hok.fresh ()
  ·let⟨T,e,f⟩:=hT v hv;rw[z]at e;cases e;exact er f (Ą _)
 have A:⇑F<=sizeLine:=by
  have:=⇑S;have h24:=ü;have l3:=⇑O;rw[l3,List.length_zip];lia
 have W:Inv X pins σ (upd G h'.objs.size (.lst F)) { s1 with heap:=h2 }:=V.Jo I1 () d ⟨A,acc.toList,c2,S,hS⟩;refine⟨.ref h'.objs.size,_,W,rfl,k h'.objs.size F _ (s3.trans λb u e=>by rw[aj (ao e d)];exact e) (I1.hok.fresh ()) aq (Paired.Hr O λw q ⟨t,e,ht⟩=>⟨t,e,by rw[aj (ao ht d)];exact ht⟩)⟩
end
end L2
namespace Dl
open PySem L2 PyProof.Rows
variable [Gr]
section
variable{X:Cx}{pos:Pos}{a b c e:Zt}{es:List Zt}{ta tb tc te:DE}{t:DA}
def newP(k:Kd)(ds:List D)(P:Kd->Prop):Prop:=(cC ds=true/\P .new)\/P (k.join .new)
def jN{p:Pn}{d f H g:Hp}{own:Addr->Option Nat}(A:At p d own f H){k:Kd}{vs:List V}{ds:List D}{P:Kd->Prop}{l:Addr}(r:Rps (okK p d own f k) g vs ds)(j:okK p d own f .new l)(hl:g l=some (.lst vs))(h:newP k ds P):∃k',P k'/\Rp (okK p d own f k') g (.ref l) (.list ds):=by
 rcases h with⟨i,h⟩|h
 ·exact⟨_,h,.lst j hl ((Rps.imm r i).mono (λ_ o=>o.elim) (λ_ _ _ e=>e) λ_ _ e=>e)⟩
 ·exact⟨_,h,.lst (cY A (dI k .new).2 j) hl (r.mono (λa o=>cY A (dI k .new).1 o) (λ_ _ _ e=>e) λ_ _ e=>e)⟩
theorem dg:∀l:List Int,cC (l.map Â)=true
 |[]=>rfl
 |x::l=>by
  show(cM (.int x)&&cC (l.map Â))=true;rw[dg l];rfl
theorem oZ:∀l:List Tie,cC (l.map pD)=true
 |[]=>rfl
 |x::l=>by
  show(cM (pD x)&&cC (l.map pD))=true;rw[oZ l];rfl
def prD(p:D×D):D:=.tuple [p.1,p.2]
def Wi:GC:=λks P=>match ks with
 |[(k1,.list ds),(k2,.list es)]=>⇑ds<=1000/\newP (k1.join k2) ((ds.zip es).map prD) λk=>P k (.list ((ds.zip es).map prD))
 |_=>False
theorem Rps.zip{ok:Addr->Prop}{H f:Hp}(m:∀{v:V}{d:D},Rp ok H v d->Rp ok f v d):∀{xs ys:List V}{ds es:List D}{g:List V},Rps ok H xs ds->Rps ok H ys es->Paired (λw (q:V×V)=>∃t,w=.ref t/\f t=some (.tup [q.1,q.2])) g (xs.zip ys)->Rps ok f g ((ds.zip es).map prD)
 |_,_,_,_,_,.nil,_,p=>by cases p;exact .nil
 |_,_,_,_,_,.cons _ _,.nil,p=>by cases p;exact .nil
 |_,_,_,_,_,.cons h t,.cons h2 t2,p=>by
  cases p with
  |cons r q =>
   let⟨t',rfl,ht⟩:=r;exact .cons (.tup ht (.cons (m h) (.cons (m h2) .nil))) (Rps.zip m t t2 q)
def Cz{R F f d:Pos}(hc:X.calm=true)(u:X.mg "list"=none)(B:X.mg "zip"=none)(ha:PDA X [a,b] t)(hgl:Gl X "list":=by rfl)(n:Gl X "zip":=by rfl)(j:Zu [.Call (.Name "zip" F) [a,b] [] d] X.env=[(false,Zv (.Call (.Name "zip" F) [a,b] [] d) X.env)]:=by rfl)(m:Zu [a,b] X.env=(false,Zv a X.env)::Zu [b] X.env:=by rfl)(M:(Zw d (Zu [b] X.env)).any (·.1)=false:=by rfl) :
  PD X (.Call (.Name "list" R) [.Call (.Name "zip" F) [a,b] [] d] [] f) (tCl Wi t):=PE.wk (Cq hc hgl u n B ha j m M) (by
 rintro σ H Q ⟨p,i,own,ρ,P,E,t,q⟩;refine⟨p,i,own,ρ,_,E,t,λks vs H1 h A r=>?_⟩;unfold Wi at h;split at h
 ·rename_i C ds D N;let⟨v,w,rfl,S,T⟩:=JB r;let⟨x,xs,j,V,h1,g⟩:=Rp.bD S;let⟨y,ys,m,W,h2,I⟩:=Rp.bD T;subst j m;refine⟨x,y,xs,ys,rfl,SqL.of h1,SqL.of h2,by rw[⇑g];exact h.1,λl ws H' sm hl hl' hp=>?_⟩;have K:Kp p H1 H':=Kp.of sm;have O:p.PI H':=p.mono H1 H' A.pen λb o _ e=>sm b o e;have J:=dI C D;have L:∀{k:Kd},k.le (C.join D)=true->∀{vs ds},Rps (okK p i own H k) H1 vs ds->Rps (okK p i own H (C.join D)) H1 vs ds:=λhk _ _ z=>z.mono (λa o=>cY A hk o) (λ_ _ _ e=>e) λ_ _ e=>e;let⟨U,s,G⟩:=jN A (Rps.zip (λz=>iK A K z) (L J.1 g) (L J.2 I) hp) (A.free hl) hl' h.2;exact q _ _ _ _ s (A.go K O) G
 ·exact h.elim)
def tCh(f g:Int->Int->Bool)(ta tb tc:DE):DE:=λρ P=>ta ρ λ_ d1=>tb ρ λ_ d2=>match d1,d2 with
 |.int i,.int j=>if f i j=true then tc ρ λ_ d3=>(match d3 with
   |.int l=>P .imm (.bool (g j l))
   |_=>False)else P .imm (.bool false)
 |_,_=>False
def O5{f g:Int->Int->Bool}:∀σ H Q,aU (tCh f g ta tb tc) σ H Q->Jq (rI0 λi j=>.bl (f i j)) (rI0 λi j=>.bl (g i j)) (aU ta) (aU tb) (aU tc) σ H Q:=by
 rintro σ H Q ⟨p,d,own,ρ,P,E,t,q⟩;refine⟨p,d,own,ρ,_,E,t,λk1 d1 v1 H1 t1 A1 r1=>?_⟩;refine⟨p,d,own,ρ,_,E.go A1.kp A1.pen,t1,λk2 d2 v2 H2 t2 A2 r2=>?_⟩;have A:=A1.base A2;split at t2
 ·rename_i i j;refine⟨i,j,r1.int',r2.int',_,rfl,?_⟩;cases h:f i j with
  |true =>
   rw[h,el rfl]at t2;refine aB ⟨p,d,own,ρ,_,(E.go A1.kp A1.pen).go A2.kp A2.pen,t2,λk3 d3 v3 H3 t3 A3 r3=>?_⟩;cases d3 with
   |int l=>exact⟨j,l,r2.int',r3.int',q _ _ _ _ t3 (A.base A3) (.bl _)⟩
   |_=>exact t3.elim
  |false =>
   rw[h,em Î]at t2;exact aD (q _ _ _ _ t2 A (.bl _))
 ·exact t2.elim
def Oh(ha:PD X a ta)(hb:PD X b tb)(hc:PD X c tc)(hm:lastMarks [.LtE,.Lt] [b,c]=false:=by with_unfolding_all rfl):PD X (.Compare a [.LtE,.Lt] [b,c] pos) (tCh (λi j=>decide (i<=j)) (λi j=>decide (i<j)) ta tb tc):=PE.wk (J7 Vs Kh ha hb hc hm) O5
def Qp(ta:DE):DE:=λρ P=>ta ρ λ_ d=>match d with
 |.bool b=>P .imm (.bool (!b))
 |_=>False
theorem rY(ha:PD X a ta):PD X (.UnaryOp .Not a pos) (Qp ta):=PE.wk (Sw ha) (by
 rintro σ H Q ⟨p,f,own,ρ,P,E,t,q⟩;refine⟨p,f,own,ρ,_,E,t,λk d v H' h A r=>?_⟩;cases d with
 |bool b=>exact⟨b,r.bl',q _ _ _ _ h A (.bl _)⟩
 |_=>exact h.elim)
def EY(ta tb:DE):DE:=λρ P=>ta ρ λ_ d=>match d with
 |.bool b=>if b=true then tb ρ P else P .imm (.bool false)
 |_=>False
def UL(ta tb:DE):DE:=λρ P=>ta ρ λ_ d=>match d with
 |.bool b=>if b=true then P .imm (.bool true)else tb ρ P
 |_=>False
def cX{op}(h:PD X a ta):PD X (.BoolOp op [a] pos) ta:=Sv h
theorem sJ{rest:List Zt}(ha:PD X a ta)(hb:PD X (.BoolOp .And (b::rest) pos) tb):PD X (.BoolOp .And (a::b::rest) pos) (EY ta tb):=PE.wk (SJ ha hb) (by
 rintro σ H Q ⟨p,f,own,ρ,P,E,t,q⟩;refine⟨p,f,own,ρ,_,E,t,λk d v H' h A r=>?_⟩;cases d with
 |bool b =>
  refine⟨b,r.bl',?_⟩;cases b with
  |true=>exact aB ⟨p,f,own,ρ,P,E.go A.kp A.pen,by simpa using h,λk d v H2 h2 A2 r2=>q k d v H2 h2 (A.base A2) (jH A r2)⟩
  |false=>exact aD (q _ _ _ _ (by simpa using h) A (.bl _))
 |_=>exact h.elim)
theorem Kc{rest:List Zt}(ha:PD X a ta)(hb:PD X (.BoolOp .Or (b::rest) pos) tb):PD X (.BoolOp .Or (a::b::rest) pos) (UL ta tb):=PE.wk (Vn ha hb) (by
 rintro σ H Q ⟨p,f,own,ρ,P,E,t,q⟩;refine⟨p,f,own,ρ,_,E,t,λk d v H' h A r=>?_⟩;cases d with
 |bool b =>
  refine⟨b,r.bl',?_⟩;cases b with
  |true=>exact aB (q _ _ _ _ (by simpa using h) A (.bl _))
  |false=>exact aD ⟨p,f,own,ρ,P,E.go A.kp A.pen,by simpa using h,λk d v H2 h2 A2 r2=>q k d v H2 h2 (A.base A2) (jH A r2)⟩
 |_=>exact h.elim)
def Rx(tc:DT)(ta tb:DE):DE:=λρ P=>tc ρ λb=>if b=true then ta ρ P else tb ρ P
theorem lX{u:DT}(hc:PDT X c u)(ha:PD X a ta)(hb:PD X b tb):PD X (.IfExp c a b pos) (Rx u ta tb):=PE.wk (J5 hc ha hb) (by
 rintro σ H Q ⟨p,f,own,ρ,P,E,t,q⟩;refine⟨p,f,own,ρ,_,E,t,λb H' h A=>?_⟩;have g:∀k d v H2,P k d->At p f own H' H2->Rp (okK p f own H' k) H2 v d->Q v H2:=λk d v H2 h2 A2 r2=>q k d v H2 h2 (A.base A2) (jH A r2);cases b with
 |true=>exact aB ⟨p,f,own,ρ,P,E.go A.kp A.pen,by simpa using h,g⟩
 |false=>exact aD ⟨p,f,own,ρ,P,E.go A.kp A.pen,by simpa using h,g⟩)
def tyD:D->String
 |.none=>"NoneType"
 |.bool _=>"bool"
 |.int _=>"int"
 |.str _=>"str"
 |.list _=>"list"
 |.tuple _=>"tuple"
 |.dict _=>"dict"
def isT(c:String)(d:D):Bool:=tyD d==c || (c=="int"&&tyD d=="bool")
def tIs(c:String)(te:DE):DE:=λρ P=>te ρ λ_ d=>P .imm (.bool (isT c d))
def bY{T:String}{x:Str}{ps g:Pos}(hk:∀t:Value,(t=.type "NoneType"\/t=.type "bool"\/t=.type "int"\/t=.type "str"\/t=.type "list"\/t=.type "tuple"\/t=.type "dict")->∃n,t=.type n/\W.kitOne X.K t (.type T)=some (n==T || (T=="int"&&n=="bool")))(hm:X.mg "isinstance"=none)(he:PD X e te)(s:PE X (.Name x g) (tC (.ty T)))(hg:Gl X "isinstance":=by rfl)(h1:Zu [e,.Name x g] X.env=(false,Zv e X.env)::Zu [.Name x g] X.env:=by rfl)(h2:Zu [.Name x g] X.env=(false,Zv (.Name x g) X.env)::Zu [] X.env:=by rfl)(hpl:(Zw pos (Zu [.Name x g] X.env)).any (·.1)=false:=by rfl) :
  PD X (.Call (.Name "isinstance" ps) [e,.Name x g] [] pos) (tIs T te):=PE.wk (cV yx hg hm boot_isinstance (bZ he (bZ s eZ h2) h1) ∅ ∅ h1 hpl) (by
 rintro σ H Q ⟨p,m,own,ρ,P,E,t,q⟩;refine⟨p,m,own,ρ,_,E,t,λk d v H' h A r=>?_⟩;have f:∀n,TyOf X.K H' v (.type n)->n=tyD d->∃x' c' t' b,[v,V.ty T]=[x',.ty c']/\TyOf X.K H' x' t'/\W.kitOne X.K t' (.type c')=some b/\Q (.bl b) H':=λn ty en=>by
  let⟨u,e,j⟩:=hk (.type n) (by rw[en];cases d <;> simp[tyD]);cases e;refine⟨v,T,.type n,_,rfl,ty,j,?_⟩;rw[en];exact q _ _ _ _ h A (.bl _)
 show ∃x' c' t' b,_/\_;cases r with
 |non=>exact f _ .non rfl
 |bl b=>exact f _ (.bl b) rfl
 |int i=>exact f _ (.int i) rfl
 |str x=>exact f _ (.str x) rfl
 |lst o hh l=>exact f _ (.lst hh) rfl
 |tup hh l=>exact f _ (.tup hh) rfl
 |dct o hh l=>exact f _ (.dK hh) rfl)
def Pa{K:á}:∀t:Value,(t=.type "NoneType"\/t=.type "bool"\/t=.type "int"\/t=.type "str"\/t=.type "list"\/t=.type "tuple"\/t=.type "dict")->∃n,t=.type n/\W.kitOne K t (.type "int")=some (n=="int" || ("int"=="int"&&n=="bool")):=by
 rintro t (rfl|rfl|rfl|rfl|rfl|rfl|rfl) <;> exact⟨_,rfl,rfl⟩
def K6{K:á}:∀t:Value,(t=.type "NoneType"\/t=.type "bool"\/t=.type "int"\/t=.type "str"\/t=.type "list"\/t=.type "tuple"\/t=.type "dict")->∃n,t=.type n/\W.kitOne K t (.type "bool")=some (n=="bool" || ("bool"=="int"&&n=="bool")):=by
 rintro t (rfl|rfl|rfl|rfl|rfl|rfl|rfl) <;> exact⟨_,rfl,rfl⟩
def tH{K:á}:∀t:Value,(t=.type "NoneType"\/t=.type "bool"\/t=.type "int"\/t=.type "str"\/t=.type "list"\/t=.type "tuple"\/t=.type "dict")->∃n,t=.type n/\W.kitOne K t (.type "list")=some (n=="list" || ("list"=="int"&&n=="bool")):=by
 rintro t (rfl|rfl|rfl|rfl|rfl|rfl|rfl) <;> exact⟨_,rfl,rfl⟩
def kit_tuple{K:á}:∀t:Value,(t=.type "NoneType"\/t=.type "bool"\/t=.type "int"\/t=.type "str"\/t=.type "list"\/t=.type "tuple"\/t=.type "dict")->∃n,t=.type n/\W.kitOne K t (.type "tuple")=some (n=="tuple" || ("tuple"=="int"&&n=="bool")):=by
 rintro t (rfl|rfl|rfl|rfl|rfl|rfl|rfl) <;> exact⟨_,rfl,rfl⟩
def O9{K:á}:∀t:Value,(t=.type "NoneType"\/t=.type "bool"\/t=.type "int"\/t=.type "str"\/t=.type "list"\/t=.type "tuple"\/t=.type "dict")->∃n,t=.type n/\W.kitOne K t (.type "str")=some (n=="str" || ("str"=="int"&&n=="bool")):=by
 rintro t (rfl|rfl|rfl|rfl|rfl|rfl|rfl) <;> exact⟨_,rfl,rfl⟩
def Uc:GC:=λks P=>match ks with
 |[(_,.list ds)]=>∃bs:List Bool,ds=bs.map PyData.bool/\P .imm (.bool (bs.all id))
 |_=>False
theorem Rps.bools{ok:Addr->Prop}{H:Hp}:∀{vs:List V}{d:List Bool},Rps ok H vs (d.map PyData.bool)->vs=d.map V.bl
 |[],[],_=>rfl
 |_,b::d,.cons h t=>by
  have e:=h.bl';subst e;rw[Rps.bools t];rfl
def oA{ps:Pos}(hc:X.calm=true)(hm:X.mg "all"=none)(hv:Zq "all"=some (.builtin "all"))(ha:PDA X [a] t)(hg:Gl X "all":=by rfl)(he:zS X a []:=by rfl)(hpl:zP X pos []:=by rfl):PD X (.Call (.Name "all" ps) [a] [] pos) (tCl Uc t) :=
 cA (Ip hc) (by
  intro p j own k H vs ks P Q A r t q;unfold Uc at t;split at t
  ·let⟨f,rfl,t⟩:=t;let⟨v,rfl,i⟩:=dh r;let⟨x,xs,g,l,h1,d⟩:=Rp.bD i;subst g;have h:=Rps.bools d;subst h;exact⟨x,f,rfl,SqL.of h1,q _ _ _ _ t Kp.refl A.pen (.bl _)⟩
  ·exact t.elim) hg hm hv ha ∅ ∅ he hpl
def gMM(f:Int->Int->Int):GC:=λks P=>match ks with
 |[(_,.int i),(_,.int j)]=>P .imm (.int (f i j))
 |_=>False
def wZ{ps:Pos}(hc:X.calm=true)(hm:X.mg "max"=none)(ha:PDA X [a,b] t)(hg:Gl X "max":=by rfl)(he:Zu [a,b] X.env=(false,Zv a X.env)::Zu [b] X.env:=by rfl)(hpl:(Zw pos (Zu [b] X.env)).any (·.1)=false:=by rfl):PD X (.Call (.Name "max" ps) [a,b] [] pos) (tCl (gMM λi j=>if j > i then j else i) t) :=
 cA (Il hc) (by
  intro p g own h H vs ks P Q A r t q;unfold gMM at t;split at t
  ·rename_i k i l j;let⟨v,w,rfl,d,f⟩:=JB r;rw[Rp.int' d,Rp.int' f];exact⟨i,j,rfl,q _ _ _ _ t Kp.refl A.pen (.int _)⟩
  ·exact t.elim) hg hm boot_max ha ∅ ∅ he hpl
def Xy:GC:=λks P=>match ks with
 |[(k,.list ds)]=>newP k ds λk'=>P k' (.list ds)
 |[(k,.tuple ds)]=>newP k ds λk'=>P k' (.list ds)
 |_=>False
def Li:GC:=λks P=>match ks with
 |[(k,.list ds)]=>P (norm k (.tuple ds)) (.tuple ds)
 |[(k,.tuple ds)]=>P (norm k (.tuple ds)) (.tuple ds)
 |_=>False
def lV{ps:Pos}(hm:X.mg "tuple"=none)(ha:PDA X [a] t)(hg:Gl X "tuple":=by rfl)(he:zS X a []:=by rfl)(hpl:zP X pos []:=by rfl):PD X (.Call (.Name "tuple" ps) [a] [] pos) (tCl Li t) :=
 zx uM (by
  intro p j own m H vs ks P Q A r t q;unfold Li at t;split at t
  ·rename_i k ds;let⟨v,rfl,f⟩:=dh r;let⟨x,xs,g,o,h1,d⟩:=Rp.bD f;subst g;refine⟨x,xs,rfl,.inl ⟨SqL.of h1,λl hl=>?_⟩⟩;let⟨h,i,n⟩:=A.new hl (.tup xs);exact q _ _ _ _ t h i (aX (.tup aq (cJ A h d)))
  ·rename_i k ds;let⟨v,rfl,f⟩:=dh r;let⟨x,xs,g,h1,d⟩:=Rp.eV f;subst g;exact⟨x,xs,rfl,.inr ⟨SqT.of h1,q _ _ _ _ t Kp.refl A.pen (aX f)⟩⟩
  ·exact t.elim) hg hm WP ha ∅ ∅ he hpl
def Dw:GC:=λks P=>match ks with
 |[(_,.list ds)]=>∃ns:List Int,ds=ns.map Â/\⇑ns<64/\∀out:List Int,out.Perm ns->out.Pairwise (·<=·)->P .new (.list (out.map Â))
 |_=>False
def lW{ps:Pos}(hm:X.mg "sorted"=none)(ha:PDA X [a] t)(hg:Gl X "sorted":=by rfl)(he:zS X a []:=by rfl)(hpl:zP X pos []:=by rfl):PD X (.Call (.Name "sorted" ps) [a] [] pos) (tCl Dw t) :=
 cA yu (by
  intro p n own o H vs ks P Q A r t q;unfold Dw at t;split at t
  ·let⟨ns,rfl,hl,t⟩:=t;let⟨v,rfl,m⟩:=dh r;let⟨x,xs,f,s,h1,d⟩:=Rp.bD m;subst f;have g:=Rps.ints d;subst g;refine⟨x,ns,rfl,SqL.of h1,hl,λl out hl' hp hs=>?_⟩;let⟨j,h,k⟩:=A.new hl' (.lst (out.map V.int));exact q _ _ _ _ (t out hp hs) j h (.lst k aq (Rps.ofMap (λi=>.int i) out))
  ·exact t.elim) hg hm WS ha ∅ ∅ he hpl
def Dv:GC:=λks P=>match ks with
 |[(_,d)]=>∃ts:List Tie,(d=.list (ts.map pD)\/d=.tuple (ts.map pD))/\⇑ts<64/\(∀t∈ts,Bq t)/\∀us:List Tie,us.Perm ts->us.Pairwise (λa b=>aV a<=aV b)->P .new (.list (us.map pD))
 |_=>False
theorem Rps.prs{ok:Addr->Prop}{H:Hp}:∀{vs:List V}{d:List Tie},Rps ok H vs (d.map pD)->Prs H vs d
 |[],[],_=>.nil
 |_,t::d,.cons h r=>by
  let⟨x,xs,e,f,k⟩:=Rp.eV h;let⟨l,m,g,i,j⟩:=Rps.two k;subst e g;rw[i.int',j.int']at f;exact .cons ⟨x,rfl,f⟩ (Rps.prs r)
theorem Prs.rps{ok:Addr->Prop}{H:Hp}:∀{vs:List V}{d:List Tie},Prs H vs d->Rps ok H vs (d.map pD)
 |_,_,.nil=>.nil
 |_,_,.cons r t=>by
  let⟨x,e,f⟩:=r;subst e;exact .cons (.tup f (.cons (.int _) (.cons (.int _) .nil))) (Prs.rps t)
def rT{ps:Pos}(hm:X.mg "sorted"=none)(ha:PDA X [a] t)(hg:Gl X "sorted":=by rfl)(he:zS X a []:=by rfl)(hpl:zP X pos []:=by rfl):PD X (.Call (.Name "sorted" ps) [a] [] pos) (tCl Dv t) :=
 cA yt (by
  intro p n own o H vs ks P Q A r t q;unfold Dv at t;split at t
  ·let⟨h,hd,hl,hn,t⟩:=t;let⟨v,rfl,j⟩:=dh r;have f:∀l ws us,H l=none->Prs H ws us->us.Perm h->us.Pairwise (λa b=>aV a<=aV b)->Q (.ref l) (upd H l (.lst ws)):=λl ws us hl' pr hp hs=>by
    let⟨i,k,m⟩:=A.new hl' (.lst ws);exact q _ _ _ _ (t us hp hs) i k (.lst m aq (cJ A i (Prs.rps pr)))
   rcases hd with rfl|rfl
   ·let⟨x,xs,g,s,h1,d⟩:=Rp.bD j;subst g;exact⟨x,xs,h,rfl,.inl (SqL.of h1),Rps.prs d,hn,.inl hl,f⟩
   ·let⟨x,xs,g,h1,d⟩:=Rp.eV j;subst g;exact⟨x,xs,h,rfl,.inr (SqT.of h1),Rps.prs d,hn,.inl hl,f⟩
  ·exact t.elim) hg hm WS ha ∅ ∅ he hpl
end
variable [Gr]
section
variable{X:Cx}{pins:List (Addr×Obj)}{σ:L2.St}{H:Hp}{s:Shared}{ok:Addr->Prop}
mutual
theorem Rp.reads(I:Inv X pins σ H s):∀{v:V}{d:D}{u:Value},Rp ok H v d->RelV v u->d.canLay0=true->∃as,Reads s.heap u d as
 |_,_,_,.non,r,_=>by cases r;exact⟨_,.none⟩
 |_,_,_,.bl b,r,_=>by cases r;exact⟨_,.bool b⟩
 |_,_,_,.int i,r,_=>by let⟨t,rfl⟩:=r;exact⟨_,.int i t⟩
 |_,_,_,.str x,r,_=>by let⟨t,rfl⟩:=r;exact⟨_,.str x t⟩
 |_,_,_,.lst o h rs,r,c=>by
  cases r;let⟨its,g,e,_⟩:=I.list (SqL.of h);let⟨as,f⟩:=Rps.reads I rs g (by simpa[PyData.canLay0]using c);let⟨j,a,hc,n,hd⟩:=e.isList;exact⟨_,.list a hc hd (by simpa using f)⟩
 |_,_,_,.tup h rs,r,c=>by
  cases r;let⟨its,g,e,_⟩:=I.tuple (SqT.of h);let⟨as,f⟩:=Rps.reads I rs g (by simpa[PyData.canLay0]using c);let⟨j,a,hc,n,hd⟩:=e;exact⟨_,.tuple a hc hd (by simpa using f)⟩
 |_,_,_,.dct o h rs,r,c=>by simp[PyData.canLay0]at c
theorem Rps.reads(I:Inv X pins σ H s):∀{v:List V}{d:List D}{u:List Value},Rps ok H v d->Vals v u->ħ d=true->∃as,WU s.heap u d as
 |_,_,_,.nil,r,_=>by cases r;exact⟨[],.nil⟩
 |_,_,_,.cons h t,r,c=>by
  cases r with
  |cons a b =>
   simp only[ħ,Ì]at c;let⟨as,e⟩:=Rp.reads I h a c.1;let⟨g,f⟩:=Rps.reads I t b c.2;exact⟨_,.cons e f⟩
end
end
def okD(d:D):Bool:=d.canLay0&&decide (d.depth<=60)
section
variable{X:Cx}{pos:Pos}{a b e:Zt}{ta tb te:DE}
def JK(K:á)(neg:Bool):R2:=λx y H Q=>∃ok ok' d e,Rp ok H x d/\Rp ok' H y e/\okD d=true/\okD e=true/\Q (.bl (if neg then !(å d e)else å d e)) H
def Ko(hu:X.A.units+64<Yb):OpR X (ZI .Eq) (JK X.K false):=by
 intro g s σ H x y v u Q I k l h;let⟨ok,ok',d,e,hd,he,c,f,q⟩:=h;simp only[okD,Ì,ei]at c f;let⟨m,i⟩:=hd.reads I k c.1;let⟨n,j⟩:=he.reads I l f.1;exact SeqAt.compareEq_reads i j c.1 f.1 () ⟨.bl _,H,I,rfl,q⟩
def S8(hu:X.A.units+64<Yb):OpR X (ZI .NotEq) (JK X.K true):=by
 intro g s σ H x y v u Q I k l h;let⟨ok,ok',d,e,hd,he,c,f,q⟩:=h;simp only[okD,Ì,ei]at c f;let⟨m,i⟩:=hd.reads I k c.1;let⟨n,j⟩:=he.reads I l f.1;exact SeqAt.compareNe_reads i j c.1 f.1 () ⟨.bl _,H,I,rfl,q⟩
def Wj(neg:Bool):G2:=λ_ d1 _ d2 P=>okD d1=true/\okD d2=true/\P .imm (.bool (if neg then !(å d1 d2)else å d1 d2))
def QD{K:á}(neg:Bool):Ok2 (Wj neg) (JK K neg):=by
 intro p h own i H x y j c k d P Q A f g t q;exact⟨_,_,c,d,f,g,t.1,t.2.1,q _ _ _ _ t.2.2 Kp.refl A.pen (.bl _)⟩
def eqP(x:D)(h:Zg)(u:Value):Bool:=by
 classical
 exact decide (∃d as,Reads h u d as/\å d x=true)
def RM(neg:Bool):R2:=λx y H Q=>∃ok ok' d es,Rp ok H x d/\(Rp ok' H y (.list es)\/Rp ok' H y (.tuple es))/\okD d=true/\(es.all okD)=true/\Q (.bl (if neg then !(es.any λe=>å e d)else es.any λe=>å e d)) H
def LR{x:D}{h:Zg}{u:Value}{d:D}{f:List Addr}(r:Reads h u d f):eqP x h u=å d x:=by
 classical
 unfold eqP;rw[ĥ,ei];constructor
 ·rintro⟨d',c,g,e⟩;rw[(r.unique d' c g).1];exact e
 ·exact λe=>⟨d,f,r,e⟩
theorem nP{x:D}{h:Zg}:∀{us:List Value}{ds:List D}{c:List Addr},WU h us ds c->us.any (eqP x h)=ds.any λe=>å e x
 |_,_,_,.nil=>rfl
 |_,_,_,.cons a b=>by
  rw[List.any_cons,List.any_cons,LR a,nP b]
theorem mK{A:Zr}{s:Shared}{x:D}{v:Value}{k:List Addr}(i:Reads s.heap v x k)(g:okD x=true)(hu:A.units+60<Yb):∀{us:List Value}{ds:List D}{j:List Addr},WU s.heap us ds j->ds.all okD=true->∀u∈us,SeqAt.EqAt A s u v (eqP x s.heap u)
 |_,_,_,.nil,_,u,f=>nomatch f
 |_,d::ds,_,.cons a b,c,u,f=>by
  simp only[List.all_cons,Ì]at c;rcases Û.mp f with rfl|f
  ·rw[LR a];have h:=c.1;simp only[okD,Ì,ei]at h g;exact SeqAt.eqAt_reads _ _ A s _ _ _ _ a i h.1 g.1 ()
  ·exact mK i g hu b c.2 u f
def mU{A:Zr}(hu:A.units+64<Yb):A.in1.units+60<Yb:=by
 have:A.in1.units<=A.units+1:=by first|exact Õ _|exact Ņ _|(unfold Around.in1;simp)
 lia
theorem mR:∀{c:List D},c.all okD=true->ħ c=true
 |[],_=>rfl
 |e::c,h=>by
  simp only[List.all_cons,Ì,okD]at h;simp only[ħ,Ì];exact⟨h.1.1,mR h.2⟩
def Km(hu:X.A.units+64<Yb):OpR X (ZI .In) (RM false):=by
 intro m s σ H x y v u Q I B p h;let⟨ok,ok',d,D,hd,hs,j,i,q⟩:=h;have f:=j;simp only[okD,Ì,ei]at f;let⟨C,n⟩:=hd.reads I B f.1;rcases hs with hs|hs
 ·let⟨c,vs,rfl,o,hc,l⟩:=hs.bD;cases p;let⟨its,r,k,z⟩:=I.list (SqL.of hc);let⟨t,g⟩:=l.reads I r (mR i);refine SeqAt.in_listAt (eqP d s.heap) k.isList (λw hw=>mK n j (mU hu) g i w (by simpa using hw)) ⟨.bl _,H,I,rfl,?_⟩;rw[show its.toArray.any (eqP d s.heap)=its.any (eqP d s.heap) by simp,nP g];exact q
 ·let⟨c,vs,rfl,hc,l⟩:=hs.eV;cases p;let⟨its,r,k,z⟩:=I.tuple (SqT.of hc);let⟨t,g⟩:=l.reads I r (mR i);refine SeqAt.in_tupleAt (eqP d s.heap) k (λw hw=>mK n j (mU hu) g i w (by simpa using hw)) ⟨.bl _,H,I,rfl,?_⟩;rw[show its.toArray.any (eqP d s.heap)=its.any (eqP d s.heap) by simp,nP g];exact q
def vd(hu:X.A.units+64<Yb):OpR X (ZI .NotIn) (RM true):=by
 intro m s σ H x y v u Q I B p h;let⟨ok,ok',d,D,hd,hs,j,i,q⟩:=h;have f:=j;simp only[okD,Ì,ei]at f;let⟨C,n⟩:=hd.reads I B f.1;rcases hs with hs|hs
 ·let⟨c,vs,rfl,o,hc,l⟩:=hs.bD;cases p;let⟨its,r,k,z⟩:=I.list (SqL.of hc);let⟨t,g⟩:=l.reads I r (mR i);refine SeqAt.notIn_listAt (eqP d s.heap) k.isList (λw hw=>mK n j (mU hu) g i w (by simpa using hw)) ⟨.bl _,H,I,rfl,?_⟩;rw[show its.toArray.any (eqP d s.heap)=its.any (eqP d s.heap) by simp,nP g];exact q
 ·let⟨c,vs,rfl,hc,l⟩:=hs.eV;cases p;let⟨its,r,k,z⟩:=I.tuple (SqT.of hc);let⟨t,g⟩:=l.reads I r (mR i);refine SeqAt.notIn_tupleAt (eqP d s.heap) k (λw hw=>mK n j (mU hu) g i w (by simpa using hw)) ⟨.bl _,H,I,rfl,?_⟩;rw[show its.toArray.any (eqP d s.heap)=its.any (eqP d s.heap) by simp,nP g];exact q
def gIn(neg:Bool):G2:=λ_ d1 _ d2 P=>match d2 with
 |.list c=>okD d1=true/\c.all okD=true/\P .imm (.bool (if neg then !(c.any λe=>å e d1)else c.any λe=>å e d1))
 |.tuple c=>okD d1=true/\c.all okD=true/\P .imm (.bool (if neg then !(c.any λe=>å e d1)else c.any λe=>å e d1))
 |_=>False
def okIn(neg:Bool):Ok2 (gIn neg) (RM neg):=by
 intro p i own j H x y k d l h P Q A f g t q;cases h with
 |list c=>exact⟨_,_,d,c,f,.inl g,t.1,t.2.1,q _ _ _ _ t.2.2 Kp.refl A.pen (.bl _)⟩
 |tuple c=>exact⟨_,_,d,c,f,.inr g,t.1,t.2.1,q _ _ _ _ t.2.2 Kp.refl A.pen (.bl _)⟩
 |_=>exact t.elim
def u9(hu:X.A.units+64<Yb)(ha:PD X a ta)(hb:PD X b tb)(hm:ZJ .In b=false:=by rfl):PD X (.Compare a [.In] [b] pos) (t2 (gIn false) ta tb):=sI (Km hu) (okIn false) ha hb hm
def jd(hu:X.A.units+64<Yb)(ha:PD X a ta)(hb:PD X b tb)(hm:ZJ .NotIn b=false:=by rfl):PD X (.Compare a [.NotIn] [b] pos) (t2 (gIn true) ta tb):=sI (vd hu) (okIn true) ha hb hm
def gZ(hu:X.A.units+64<Yb)(ha:PD X a ta)(hb:PD X b tb)(hm:ZJ .In b=false:=by rfl):PDT X (.Compare a [.In] [b] pos) (cH (t2 (gIn false) ta tb)):=dH (Km hu) (okIn false) ha hb hm
def oh(hu:X.A.units+64<Yb)(ha:PD X a ta)(hb:PD X b tb)(hm:ZJ .NotIn b=false:=by rfl):PDT X (.Compare a [.NotIn] [b] pos) (cH (t2 (gIn true) ta tb)):=dH (vd hu) (okIn true) ha hb hm
variable [Gr]
section
variable{X:Cx}{pos p2:Pos}{a b c e:Zt}{es:List Zt}{ta tb tc te:DE}{t:DA}{st:ZF}
abbrev DO:=List Sl->(Option Int->Prop)->Prop
def tE(t:DO):TO:=λσ H Q=>∃p H0 own ρ P,EnvD p H0 own σ H ρ/\t ρ P/\∀o H',P o->At p H0 own H H'->Q o H'
def PO.wk{e:Option Zt}{t t':TO}(h:PO X e t)(w:∀σ H Q,t' σ H Q->t σ H Q):PO X e t':=λpins s σ H Q I q=>h pins s σ H Q I (w σ H Q q)
def QK:DO:=λ_ P=>P none
def QJ(te:DE):DO:=λρ P=>te ρ λ_ d=>match d with
 |.int i=>P (some i)
 |_=>False
def jQ:PO X none (tE QK):=PO.wk Oa (by
 rintro σ H Q ⟨p,d,own,ρ,P,E,t,q⟩;exact q _ _ t E.at)
theorem dM(h:PD X e te):PO X (some e) (tE (QJ te)):=PO.wk (N8 h) (by
 rintro σ H Q ⟨p,f,own,ρ,P,E,t,q⟩;refine⟨p,f,own,ρ,_,E,t,λk d v H' h A r=>?_⟩;cases d with
 |int i=>exact⟨i,r.int',q _ _ h A⟩
 |_=>exact h.elim)
def dO{α:Type}(ds:List α)(d hi:Option Int):List α:=(ds.drop (HT.sIx ⇑ds 0 d)).take (HT.sIx ⇑ds ⇑ds hi - HT.sIx ⇑ds 0 d)
def Rps.cut{ok:Addr->Prop}{H:Hp}{vs:List V}{ds:List D}(r:Rps ok H vs ds)(d hi:Option Int):Rps ok H (ur vs d hi) (dO ds d hi):=by
 unfold ur dO;rw[⇑r];exact(r.drop _).take _
def Xc(te:DE)(g f:DO):DE:=λρ P=>te ρ λk d=>g ρ λlo=>f ρ λhi=>match d with
 |.list ds=>newP k (dO ds lo hi) λk'=>P k' (.list (dO ds lo hi))
 |_=>False
theorem Ka{n hi:Option Zt}{u s:DO}(he:PD X e te)(hl:PO X n (tE u))(hh:PO X hi (tE s)):PD X (.Subscript e (.Slice n hi none p2) pos) (Xc te u s):=PE.wk (zq Fj he hl hh) (by
 rintro σ H Q ⟨p,g,own,ρ,P,E,t,q⟩;refine⟨p,g,own,ρ,_,E,t,λk d v H1 h A r=>?_⟩;refine⟨p,g,own,ρ,_,E.go A.kp A.pen,h,λo1 H2 h2 A2=>?_⟩;refine⟨p,g,own,ρ,_,(E.go A.kp A.pen).go A2.kp A2.pen,h2,λo2 H3 h3 A3=>?_⟩;have f:=(A.base A2).base A3;have B:=iK (A.base A2) A3.kp (iK A A2.kp r);cases d with
 |list ds =>
  let⟨x,xs,w,o,h1,C⟩:=Rp.bD B;subst w;refine⟨x,xs,rfl,SqL.of h1,λl hl=>?_⟩;let⟨m,y,z⟩:=f.new hl (.lst (ur xs o1 o2));let⟨D,i,j⟩:=jN f (cJ f m (C.cut o1 o2)) z aq h3;exact q _ _ _ _ i (f.go m y) j
 |_=>exact h3.elim)
def Ua:G2:=λk1 d1 k2 d2 P=>match d1,d2 with
 |.list ds,.list es=>⇑ds+⇑es<=1000/\newP (k1.join k2) (ds++es) λk=>P k (.list (ds++es))
 |_,_=>False
def Vx:Ok2 Ua Vg:=by
 intro p r own s H x y h J i K P Q A G I t q;unfold Ua at t;split at t
 ·let⟨v,xs,B,M,h1,d⟩:=G.bD;let⟨w,ys,C,N,h2,f⟩:=I.bD;subst B C;have D:=ü;refine⟨v,w,xs,ys,rfl,rfl,h1,h2,by rw[⇑d,⇑f];lia,λl hl=>?_⟩;let⟨u,E,F⟩:=A.new hl (.lst (xs++ys));have j:=dI h i;have m:∀{k vs ds},k.le (h.join i)=true->Rps (okK p r own s k) H vs ds->Rps (okK p r own s (h.join i)) H vs ds:=λhk z=>z.mono (λa o=>cY A hk o) (λ_ _ _ e=>e) λ_ _ e=>e;let⟨L,g,n⟩:=jN A (cJ A u ((m j.1 d).app (m j.2 f))) F aq t.2;exact q _ _ _ _ g u E n
 ·exact t.elim
def Lp:G2:=λk1 d1 k2 d2 P=>match d1,d2 with
 |.tuple ds,.tuple es=>⇑ds+⇑es<=1000/\P (norm (k1.join k2) (.tuple (ds++es))) (.tuple (ds++es))
 |_,_=>False
def Ti:Ok2 Lp Qx:=by
 intro p i own n H x y g D h E P Q A B C t q;unfold Lp at t;split at t
 ·let⟨r,xs,u,h1,d⟩:=B.eV;let⟨s,ys,v,h2,f⟩:=C.eV;subst u v;have w:=ü;refine⟨r,s,xs,ys,rfl,rfl,h1,h2,by rw[⇑d,⇑f];lia,λl H' sm hl=>?_⟩;have K:Kp p H H':=Kp.of sm;have j:=dI g h;have m:∀{k vs ds},k.le (g.join h)=true->Rps (okK p i own n k) H vs ds->Rps (okK p i own n (g.join h)) H vs ds:=λhk z=>z.mono (λa o=>cY A hk o) (λ_ _ _ e=>e) λ_ _ e=>e;exact q _ _ _ _ t.2 K (p.mono H H' A.pen λb o _ e=>sm b o e) (aX (.tup hl (cJ A K ((m j.1 d).app (m j.2 f)))))
 ·exact t.elim
def U3(ta:DE):DE:=λρ P=>ta ρ λ_ d=>match d with
 |.int i=>P .imm (.int (-i))
 |_=>False
theorem fP(ha:PD X a ta):PD X (.UnaryOp .USub a pos) (U3 ta):=PE.wk (Vm Rj ha) (by
 rintro σ H Q ⟨p,f,own,ρ,P,E,t,q⟩;refine⟨p,f,own,ρ,_,E,t,λk d v H' h A r=>?_⟩;cases d with
 |int i=>exact⟨i,r.int',q _ _ _ _ h A (.int _)⟩
 |_=>exact h.elim)
def W4(te:DE)(g:DG):DS:=λP ρ=>te ρ λk d=>g (norm (elK k) d) d ρ P.nx
def Vw{p:Pn}{f g H:Hp}{own:Addr->Option Nat}(A:At p f own g H){k:Kd}{v:V}{d:D}(r:Rp (okK p f own g k) H v d):Rp (okB p f own (norm (elK k) d)) H v d:=by
 refine fX (r.mono (λa o=>?_) (λ_ _ _ e=>e) λ_ _ e=>e);cases k with
 |imm=>exact o
 |new=>exact⟨A.h0 o,A.nfb o,A.Oj o⟩
 |reg q=>exact o
 |n0=>trivial
 |snw=>exact o
 |shr=>exact o
 |wk=>trivial
def Eb{g:DG}(h:PS X st (ql (aU te) (Gd g))):PDS X st (W4 te g):=PS.wk' h (by
 rintro Q σ H ⟨p,f,own,ρ,P,E,t,w⟩;refine⟨p,f,own,ρ,_,E,t,λk d v H1 h A r=>?_⟩;exact⟨p,f,own,ρ,_,d,P.nx,E.go A.kp A.pen,Vw A r,h,λσ' ρ' E' n=>w.nx own σ' H1 ρ' E' A.frs n⟩)
def XS(i:Nat)(te:DE):DS:=λP ρ=>match ρ[i]? with
 |some (.dw r (.list ds))=>te ρ λk d=>match d with
  |.list es=>(k.le .new || cC es)=true/\⇑ds+⇑es<=1000/\P.nx ((forget r ρ).set i (.dw r (.list (ds++es))))
  |_=>False
 |_=>False
def qU{te:DE}{ρ:List Sl}{R:Kd->D->Prop}(t:te ρ R):aQ te dX ρ (λks=>∃k d,ks=[(k,d)]/\R k d):=by
 show te ρ λk d=>∃f d',[((k,d):Kd×D)]=[(f,d')]/\R f d';have e:(λk d=>∃f d',[((k,d):Kd×D)]=[(f,d')]/\R f d')=R:=by
  funext k d;apply propext;constructor
  ·rintro⟨f,d',e,h⟩;cases e;exact h
  ·exact λh=>⟨k,d,rfl,h⟩
 rw[e];exact t
def Ug(i:Nat)(f te:DE):DS:=λP ρ=>match ρ[i]? with
 |some (.dw r (.list ds))=>f ρ λ_ dj=>te ρ λk d=>match dj with
  |.int j=>(norm k d).le .new=true/\0<=j/\j.toNat<=⇑ds/\⇑ds<1000/\P.nx ((forget r ρ).set i (.dw r (.list (ds.take j.toNat++d::ds.drop j.toNat))))
  |_=>False
 |_=>False
def pF{i:Nat}{G:DE}(h:PS X st (uT (tBM X.K "list" Fw (nU i) (jo (aQ G (aQ te dX)))))):PDS X st (Ug i G te):=PS.wk' h (by
 rintro Q σ H ⟨p,M,own,ρ,P,E,t,w⟩;unfold Ug at t;split at t
 ·rename_i r ds hr;let⟨v,hv,x⟩:=E.slot i _ hr;let⟨l,vs,rfl,hl,z,B⟩:=x.bD;refine⟨.ref l,hv,.inl ⟨rfl,vs,SqL.of z⟩,p,M,own,ρ,λks=>∃s n k d,ks=[(s,n),(k,d)]/\(match n with
   |.int j=>(norm k d).le .new=true/\0<=j/\j.toNat<=⇑ds/\⇑ds<1000/\P.nx ((forget r ρ).set i (.dw r (.list (ds.take j.toNat++d::ds.drop j.toNat))))
   |_=>False),E,?_,?_⟩
  ·show G ρ λs n=>te ρ λk d=>∃q o u d',[((s,n):Kd×D),(k,d)]=[(q,o),(u,d')]/\_;have e:∀(s:Kd)(n:D),(λk d=>∃q o u d',[((s,n):Kd×D),(k,d)]=[(q,o),(u,d')]/\(match o with
    |.int j=>(norm u d').le .new=true/\0<=j/\j.toNat<=⇑ds/\⇑ds<1000/\P.nx ((forget r ρ).set i (.dw r (.list (ds.take j.toNat++d'::ds.drop j.toNat))))
    |_=>False))=λk d=>(match n with
    |.int j=>(norm k d).le .new=true/\0<=j/\j.toNat<=⇑ds/\⇑ds<1000/\P.nx ((forget r ρ).set i (.dw r (.list (ds.take j.toNat++d::ds.drop j.toNat))))
    |_=>False):=λs n=>by
    funext k d;apply propext;constructor
    ·rintro⟨q,o,u,d',e,h⟩;cases e;exact h
    ·exact λh=>⟨s,n,k,d,rfl,h⟩
   simp only[e];exact t
  ·rintro ks W N ⟨s,n,k,d,rfl,hh⟩ A S;cases n with
   |int j =>
    let⟨hk,T,U,I,hn⟩:=hh;let⟨Y,y,rfl,F,C⟩:=JB S;have C:=iJ A hk (aX C);have O:=Rp.int' F;have h1:N l=some (.lst vs):=A.kp l _ z (E.ow l r hl).2.1;have R:=ü;have V:=⇑B;refine⟨l,vs,j.toNat,y,rfl,?_,h1,(),(),?_⟩
    ·rw[O];have:((j.toNat:Nat):Int)=j:=()
     rw[this]
    let⟨J,L⟩:=E.JF (vs':=vs.take j.toNat++y::vs.drop j.toNat) (ds':=ds.take j.toNat++d::ds.drop j.toNat) A hv hl z B λH2 f g=>by
     have m:=wD f B λd hd=>uU hd;exact(m.take _).app (.cons (g C) (m.drop _))
    exact w.nx _ σ _ _ J L hn
   |_=>exact hh.elim
 ·exact t.elim)
end
variable [Gr]
structure Cal(P:Za)(w:Zb)(K:á)(mg:Str->Option Value)(base:Zg)(k:Nat)(x:Str)(ps:List Str)(sp:Sp):Prop where
 ex:∃f fd,FnOk P w K mg base CX0 k f fd ps sp/\Binds K fd ps []/\W.keepIn K (.ref f)=true/\mg x=some (.ref f)
section
variable{X:Cx}{k j:Nat}{x:Str}{ps:List Str}{e:Zt}{es:List Zt}{t:DA}{p pos pq:Pos}
def pcS{sp:Sp}{a:TA}(C:Cal X.prog X.w X.K X.mg X.base k x ps sp)(hr:Room j X.A)(ha:PA X (e::es) a)(hk:k<=j)(hg:Gl X x)(hdb:zB x)(he:zS X e es)(hpl:zP X pos es) :
  PE X (.Call (.Name x p) (e::es) [] pos) (Ez sp [] E0 a):=by
 let⟨f,d,F,b,c,m⟩:=C.ex;exact Og F (hr.mono hk) hg m c b .nil Vq ha hdb he hpl
def dc{f:List D->(D->Prop)->Prop}(C:Cal X.prog X.w X.K X.mg X.base k x ps (spD f))(hr:Room j X.A)(ha:PDA X (e::es) t)(hk:k<=j:=by decide)(hg:Gl X x:=by rfl)(hdb:zB x:=by decide)(he:zS X e es:=by rfl)(hpl:zP X pos es:=by rfl) :
  PD X (.Call (.Name x p) (e::es) [] pos) (tFn f t):=PE.wk (pcS C hr ha hk hg hdb he hpl) O4
def dcP{C:Pn->Prop}{i:Nat}{f:List D->(D->Prop)->Prop}{y:Str}{a:Pos}(CC:Cal X.prog X.w X.K X.mg X.base k x ps (spP C f))(hr:Room j X.A)(hi:PE X (.Name y a) (nU i))(ha:PDA X es t)(hk:k<=j:=by decide)(hg:Gl X x:=by rfl)(hdb:zB x:=by decide)(he:Zu (.Name y a::es) X.env=(false,Zv (.Name y a) X.env)::Zu es X.env:=by rfl)(hpl:zP X pos es:=by rfl) :
  PD X (.Call (.Name x p) (.Name y a::es) [] pos) (GX C f i t):=PE.wk (pcS CC hr (bZ hi ha) hk hg hdb he hpl) KR
def dv(i:Nat){x:Str}{pos:Pos}(hN:X.N[i]?=some x:=by rfl)(hv:Vis X.env.scope x:=by first|exact Or.inl rfl|exact Or.inr (Or.inl rfl)|exact Or.inr (Or.inr rfl))(hd:zB x:=by decide)(hcd:(x==("__classdict__":Str))=false:=by decide):PD X (.Name x pos) (tV i):=SN (pv i hN hv hd hcd)
end
structure Bn(mg:Str->Option Value):Prop where
 isinstance:mg "isinstance"=none
 int:mg "int"=none
 bool:mg "bool"=none
 tuple:mg "tuple"=none
 list:mg "list"=none
 len:mg "len"=none
 all:mg "all"=none
 min:mg "min"=none
 max:mg "max"=none
 sorted:mg "sorted"=none
 range:mg "range"=none
 abs:mg "abs"=none
def boot_all:Zq "all"=some (.builtin "all"):=⋯
def boot_abs:Zq "abs"=some (.builtin "abs"):=⋯
def BJ{i:Nat}{ρ:List Sl}{d:D}{P:DK}(h:ρ[i]?=some (cg d))(q:∀k,P k d):tV i ρ P:=by
 unfold tV;rw[h];unfold cg;by_cases hi:cM d=true
 ·rw[el hi];exact q _
 ·rw[em hi];exact q _
abbrev FF:=List D->(D->Prop)->Prop
def mQ{f:List D->(D->Prop)->Prop}{n:Nat}(hn:∀ds P,f ds P->⇑ds=n:=by intro _ _ h;repeat (first|(let⟨rfl,_⟩:=h;rfl)|let⟨_,h⟩:=h)):∀vs H Q E,spD f vs H Q E->⇑vs=n:=λvs H Q E h=>by
 let⟨ds,P,r,t,_⟩:=h;rw[⇑r];exact hn ds P t
def Ma{f:List D->(D->Prop)->Prop}{T:DS}{N:List Str}{vs:List V}{H:Hp}{Q:VK}{E:XK}(h:spD f vs H Q E)(a:∀ds P,f ds P->∃ρ,ds.map cg++Ú (⇑N - ⇑ds) .any=ρ/\T { nx:=λ_=>P .none,rt:=P } ρ)(g:Gr.G pZ H:=by trivial):mO T { nx:=λ_ H'=>Q .non H',rt:=Q } (L2.start N vs) H :=
 xV h (λds P t=>by
  let⟨ρ,e,q⟩:=a ds P t;rw[e];exact q) g
def au(n:Int)(us:List Tie):D:=.tuple [.int n,.tuple (us.map pD)]
def mV(n:Int)(us:List Tie):cM (au n us)=true:=by
 show(cM (.int n)&&(cC (us.map pD)&&true))=true;rw[oZ];rfl
def iG(n:Int)(us:List Tie):cg (au n us)=.im (au n us):=el (mV n us)
def dD{n:Int}{us:List Tie}{l a:List Sl}(h:l=a):cg (au n us)::l=.im (au n us)::a:=by rw[iG,h]
def isW:D->Bool
 |.int _=>true
 |_=>false
def DQ:FF:=λds P=>∃d,ds=[d]/\P (.bool (isW d))
def aK(m:Int):D->Bool
 |.int i=>decide (0<=i/\i<m)
 |_=>false
def LK:FF:=λds P=>∃m d,ds=[.int m,d]/\P (.bool (aK m d))
def enterQ{C:Pn->Prop}{f:List D->(D->Prop)->Prop}{T:DS}{N:List Str}{vs:List V}{H:Hp}{Q:VK}{E:XK}(h:spP C f vs H Q E)(a:∀ds P,f ds P->∃ρ,ds.map cg++Ú (⇑N - (⇑ds+1)) .any=ρ/\T { nx:=λ_=>P .none,rt:=P } (.pen C::ρ))(g:∀p,Gr.G p H:=by intro _;trivial):mO T { nx:=λ_ H'=>Q .non H',rt:=Q } (L2.start N vs) H :=
 Ud h (λds P t=>by
  let⟨ρ,e,q⟩:=a ds P t;rw[e];exact q) g
variable [Gr]
def d7{α β:Type}{l:List α}{g:α->β}{i:Nat}{d:β}(h:(l.map g)[i]?=some d):∃x,l[i]?=some x/\g x=d:=by
 rw[à]at h;cases e:l[i]? with
 |none=>rw[e]at h;cases h
 |some x=>rw[e]at h;exact⟨x,rfl,Ô h⟩
theorem FW:∀l:List Int,(l.map Â).all okD=true
 |[]=>rfl
 |x::l=>by
  rw[ò,List.all_cons,FW l];rfl
theorem any_ints(x:Int):∀l:List Int,((l.map Â).any λe=>å e (.int x))=decide (x∈l)
 |[]=>rfl
 |y::l=>by
  rw[ò,List.any_cons,any_ints x l];have e:å (.int y) (.int x)=(y==x):=rfl;rw[e,ĥ,Ş,ez,ei,ei,Û];constructor
  ·rintro(h|h)
   ·exact .inl h.symm
   ·exact .inr h
  ·rintro(h|h)
   ·exact .inl h.symm
   ·exact .inr h
def Kv(l:List Int):okD (.list (l.map Â))=true:=by
 unfold okD;rw[Ì,ei];refine⟨K4 l,?_⟩;show Ķ (l.map Â)+1<=60;rw[Ax];lia
def Hu(a:Int)(n:Nat):⇑(vA a n)=n:=by unfold vA;simp
def bR{a:Int}{n i:Nat}{d:D}(h:(vA a n)[i]?=some d):i<n/\d=.int (a+((i:Nat):Int)):=by
 unfold vA at h;let⟨x,f,e⟩:=d7 h;let⟨h1,h2⟩:=Æ.mp f;have b:i<n:=by simpa using h1
 have c:x=i:=by simpa using h2.symm
 subst c;exact⟨b,e.symm⟩
variable [Gr]
section
variable{X:Cx}{pos p2:Pos}{a b e:Zt}{ta tb te:DE}
theorem Rps.rep{ok:Addr->Prop}{H:Hp}{vs:List V}{ds:List D}(r:Rps ok H vs ds):∀k:Nat,Rps ok H (Ú k vs).flatten (Ú k ds).flatten
 |0=>.nil
 |k+1=>by
  rw[ŏ,ŏ,Ź,Ź];exact r.app (Rps.rep r k)
def T8:G2:=λk1 d1 _ d2 P=>match d1,d2 with
 |.list ds,.int k=>0<=k/\k<1000/\⇑ds * k.toNat<=1000/\newP k1 (Ú k.toNat ds).flatten λk'=>P k' (.list (Ú k.toNat ds).flatten)
 |_,_=>False
def Vt:Ok2 T8 Vd:=by
 intro p s own u H x y B v C w P Q A o r t q;unfold T8 at t;split at t
 ·rename_i ds k;let⟨h,xs,i,D,h1,c⟩:=o.bD;subst i;have j:=ü;refine⟨h,k,xs,rfl,r.int',h1,(),(),by rw[⇑c];lia,λl hl=>?_⟩;let⟨g,m,n⟩:=A.new hl (.lst (Ú k.toNat xs).flatten);let⟨z,d,f⟩:=jN A (cJ A g (c.rep k.toNat)) n aq t.2.2.2;exact q _ _ _ _ d g m f
 ·exact t.elim
end
theorem lO(ns:List Int):∀k,k<=⇑ns->PySem.preSum (λi=>ns.getD i 0) k=(ns.take k).sum
 |0,_=>rfl
 |k+1,h=>by
  show PySem.preSum _ k+ns.getD k 0=_;have hk:k<⇑ns:=()
  have e:ns.take (k+1)=ns.take k++[ns[k]]:=by rw[ĕ,Ë hk];rfl
  have a:ns.getD k 0=ns[k]:=by rw[ö,Ë hk];rfl
  rw[lO ns k (),e,a,List.sum_append,List.sum_cons,List.sum_nil,Int.add_zero]
theorem nW:∀(ns:List Int)(b:Int),(∀x∈ns,-b<=x/\x<=b)->-(b * ⇑ns)<=ns.sum/\ns.sum<=b * ⇑ns
 |[],b,_=>by simp
 |x::ns,b,h=>by
  let⟨h1,h2⟩:=nW ns b λy hy=>h y (Í _ hy);have a:=h x Ó;have e:b * (⇑(x::ns):Int)=b * ⇑ns+b:=by
   rw[ÿ];have:(((⇑ns+1:Nat)):Int)=(⇑ns:Int)+1:=()
   rw[this,Int.mul_add,Int.mul_one]
  rw[e,List.sum_cons];lia
section
variable{X:Cx}{pos:Pos}{a:Zt}{t:DA}
def Ig(hc:X.calm=true):bC X (.builtin "sum") (λxs H Q=>∃(p:Addr)(ns:List Int),xs=[.ref p]/\SqL X.K H p (ns.map V.int)/\⇑ns<=1000/\(∀x∈ns,-1000000<=x/\x<=1000000)/\Q (.int ns.sum) H):=by
 intro w s σ H xs us Q I r h;let⟨p,ns,rfl,hp,hl,hs,q⟩:=h;let⟨u,rfl,B⟩:=vals1 r;cases B;let⟨its,y,g,C⟩:=I.list hp;have c:⇑its=⇑ns:=by have:=⇑y;rw[Ä]at this;exact this.symm
 have l:p≠↥s:=by let⟨o,m,_⟩:=g.isList;exact é (Ï m)
 have f:p<↥s:=by let⟨o,m,_⟩:=g.isList;exact Ï m
 have k:∀i v,its[i]?=some v->∃t,v=Ň (ns.getD i 0) t:=λi v e=>by
  have hi:i<⇑its:=(Æ.mp e).1;have hv:(ns.map V.int)[i]?=some (V.int ns[i]):=by rw[à,Ë (show i<⇑ns by lia)];rfl
  let⟨u,n,z⟩:=y.get hv;rw[e]at n;cases n;let⟨t,rfl⟩:=z;exact⟨t,by rw[ö,Ë (show i<⇑ns by lia)];rfl⟩
 refine WZ (YK g.isList ?_);refine⟨_,_,_,_,_,_,λi=>ns.getD i 0,rfl,Walks.list (A:=X.A.in1) (I.ok.hd hc) _ p l _,⟨⟨_,â _ rfl,rfl,rfl⟩,g.isList.push _⟩,?_,λi v e=>k i v (by simpa using e),λj d=>?_,λh' tk t' hk=>?_⟩
 ·intro b hb;show b<(s.heap.push _).objs.size;rw[ķ];simp at hb;rcases hb with rfl|rfl
  ·exact ŀ _
  ·exact Ĉ f
 ·have d:j<⇑ns:=by simpa[c]using d
  have e:ns.getD j 0=ns[j]:=by rw[ö,Ë d];rfl
  have b1:=hs _ (į d);have b2:=nW (ns.take (j+1)) 1000000 λx hx=>hs x (Ń hx);have b3:⇑(ns.take (j+1))<=1000:=by rw[ć];lia
  rw[lO ns (j+1) d];refine⟨?_,?_⟩
  ·show -(2 ^ 63)<=ns.getD j 0/\ns.getD j 0<2 ^ 63;rw[e];lia
  ·show -(2 ^ 63)<=(ns.take (j+1)).sum/\(ns.take (j+1)).sum<2 ^ 63;lia
 ·have e:PySem.preSum (λi=>ns.getD i 0) its.toArray.size=ns.sum:=by
   rw[Ù,c,lO ns ⇑ns (Õ _),ğ]
  rw[e];refine⟨.int ns.sum,H,I.kept λb o eb=>hk b o ?_ (Ò _ eb),⟨_,rfl⟩,q⟩;intro hm;have:b=↥s:=by simpa using hm
  exact er (this ▸ Ï eb) (Ą _)
variable [Gr]
def boot_sum:Zq "sum"=some (.builtin "sum"):=⋯
end
variable [Gr]
def vB:G2:=λ_ d1 _ d2 P=>match d1,d2 with
 |.bool i,.bool j=>P .imm (.bool (!decide (i=j)))
 |_,_=>False
def Tg:Ok2 vB (λx y H Q=>∃a b,x=.bl a/\y=.bl b/\Q (.bl (!decide (a=b))) H):=by
 intro p f own g H x y j h k i P Q A c d t q;unfold vB at t;split at t
 ·cases c;cases d;exact⟨_,_,rfl,rfl,q _ _ _ _ t Kp.refl A.pen (.bl _)⟩
 ·exact t.elim
def gW(ha:PD X a ta)(hb:PD X b tb):PDT X (.Compare a [.IsNot] [b] pos) (cH (t2 vB ta tb)):=dH zA Tg ha hb (cL _)
variable [Gr]
def Kz:D->Bool
 |.none=>true
 |_=>false
def HS:G2:=λ_ d1 _ d2 P=>match d2 with
 |.none=>P .imm (.bool (Kz d1))
 |_=>False
def Fq{ok:Addr->Prop}{H:Hp}{v:V}{d:D}(r:Rp ok H v d):decide (v=.non)=Kz d:=by
 cases r <;> simp[Kz]
def QC:Ok2 HS (λx y H Q=>y=.non/\Q (.bl (decide (x=.non))) H):=by
 intro p f own g H x y j h k i P Q A c d t q;unfold HS at t;split at t
 ·cases d;rw[Fq c];exact⟨rfl,q _ _ _ _ t Kp.refl A.pen (.bl _)⟩
 ·exact t.elim
def CK(ha:PD X a ta)(hb:PD X b tb):PD X (.Compare a [.Is] [b] pos) (t2 HS ta tb):=sI Kl QC ha hb (cL _)
def gY(ha:PD X a ta)(hb:PD X b tb):PDT X (.Compare a [.Is] [b] pos) (cH (t2 HS ta tb)):=dH Kl QC ha hb (cL _)
end
variable [Gr]
section
variable{X:Cx}{pos:Pos}{st:ZF}
end
@[reducible] def grX(H:Hp):Gr:=⟨λp H0=>p=pZ/\H0=H⟩
structure Cal1(P:Za)(w:Zb)(K:á)(mg:Str->Option Value)(base:Zg)(k:Nat)(x:Str)(ps:List Str)(sp:Sp):Prop where
 ex:∃f fd,FnOk P w K mg base (CX1 P w) k f fd ps sp/\Binds K fd ps []/\W.keepIn K (.ref f)=true/\mg x=some (.ref f)
section
variable{X:Cx}{E:XK}{k j:Nat}{x:Str}{ps:List Str}{e:Zt}{es:List Zt}{p pos:Pos}
end
variable [Gr]
section
variable{X:Cx}{pos:Pos}{a b e:Zt}{ta tb te:DE}{t:DA}
end
end Dl
namespace L2
open PySem PyProof.Rows
theorem Ad:∀{ns:List Int}{us:List Value},Vals (ns.map V.int) us->IntsAre us ns
 |[],_,.nil=>.nil
 |n::ns,_,.cons r t=>by
  let⟨k,rfl⟩:=r;exact .cons n k (Ad t)
def once(ns:List Int):List Int:=ns.foldl W1 []
def DP(ns:List Int){m:Nat}(hm:m=⇑ns):firstMet (λi=>ns.getD i 0) m=once ns:=by
 subst hm;unfold firstMet once;congr 1;refine List.ext_getElem (by simp) λi h1 h2=>?_;simp at h1;simp[ö,h1]
section
variable{X:Cx}
def Bd(hc:X.calm=true):bC X (.type "set") (λxs H Q=>∃p ns,xs=[.ref p]/\SqL X.K H p (ns.map V.int)/\⇑ns<=1000/\∀l S,H l=none->Q (.ref l) (upd H l (.set S ⇑(once ns)))):=by
 intro c s σ H xs us Q I r h;let⟨p,ns,rfl,f,hl,q⟩:=h;let⟨u,rfl,i⟩:=vals1 r;cases i;let⟨its,d,g,j⟩:=I.list f;have a:=⇑d;rw[Ä]at a;refine call_set_list (items:=its.toArray) (ns:=ns) (I.ok.hd hc) g.isList (by simpa using Ad d) ?_ λh' tk st k=>?_
 ·show its.toArray.size+1<scanBound;rw[Ù,←a];exact Nat.lt_of_le_of_lt (Nat.add_le_add_right hl 1) ∅
 ·rw[DP ns (by rw[Ù,←a])]at st;refine⟨.ref ↥s,_,I.laid (t':=tk) (λb o e=>k b o (Ï e) e) (Õ _) (show bx X.prog X.w _ h' _ (.set _ ⇑(once ns))from st),rfl,q _ _ (I.hok.fresh (Õ _))⟩
def uN:bC X (.builtin "len") (λxs H Q=>∃p S n,xs=[.ref p]/\H p=some (.set S n)/\n<=1000/\Q (.int (n:Int)) H):=by
 intro b s σ H xs us Q I r h;let⟨p,S,n,rfl,g,hl,q⟩:=h;let⟨u,rfl,i⟩:=vals1 r;cases i;let⟨o,j,ep,t,c,d,e,_,_,_,f,a⟩:=I.hok p _ g;refine call_len_set c d e f (by rw[a];lia) ?_;rw[a];exact⟨.int n,H,I.tok _,⟨_,rfl⟩,q⟩
end
theorem jg:∀(ns acc:List Int),⇑(ns.foldl W1 acc)<=⇑acc+⇑ns
 |[],acc=>Õ _
 |n::ns,acc=>by
  rw[List.foldl_cons];have h:=jg ns (W1 acc n);have:⇑(W1 acc n)<=⇑acc+1:=by
   unfold W1;split
   ·lia
   ·rw[Ð];exact Õ _
  rw[ÿ];lia
theorem zG:∀(ns acc:List Int),(⇑(ns.foldl W1 acc)=⇑acc+⇑ns)↔(ns.Nodup/\∀x∈ns,x∉acc)
 |[],acc=>by simp
 |n::ns,acc=>by
  rw[List.foldl_cons,ÿ,List.nodup_cons];by_cases hn:n∈acc
  ·have e:W1 acc n=acc:=by
    unfold W1;rw[el (ŕ.mpr ⟨n,hn,by simp⟩)]
   rw[e];have:=jg ns acc;constructor
   ·intro h;lia
   ·rintro⟨_,h⟩;exact er hn (h n Ó)
  ·have e:W1 acc n=acc++[n]:=by
    unfold W1;rw[em (λz=>by
     let⟨x,d,g⟩:=ŕ.mp z;have:x=n:=by simpa using g
     exact hn (this ▸ d))]
   rw[e];have f:=zG ns (acc++[n]);rw[Ð,í]at f;constructor
   ·intro h;let⟨a,b⟩:=f.mp ();refine⟨⟨λz=>b n z (ã _ (É.mpr rfl)),a⟩,λx d=>?_⟩;rcases Û.mp d with z|z
    ·rw[z];exact hn
    ·exact λy=>b x z (è _ y)
   ·rintro⟨⟨a,b⟩,c⟩;have:=f.mpr ⟨b,λx d z=>by
     rcases ë.mp z with y|y
     ·exact c x (Í _ d) y
     ·rw[É.mp y]at d;exact a d⟩
    lia
def CV(ns:List Int):⇑(once ns)=⇑ns↔ns.Nodup:=by
 have:=zG ns [];simp at this;exact this
end L2
namespace Dl
open PySem L2 PyProof.Rows
variable [Gr]
section
variable{X:Cx}{pos pos':Pos}{a:Zt}{t:DA}
def boot_set:Zq "set"=some (.type "set"):=⋯
def Gm:GC:=λks P=>∃k ns,ks=[(k,.list (ns.map Â))]/\⇑ns<=1000/\P .imm (.int (⇑(once ns):Nat))
def ou{ps d:Pos}(hc:X.calm=true)(hs:X.mg "set"=none)(hl:X.mg "len"=none)(ha:PDA X [a] t)(hgs:Gl X "set":=by rfl)(hgl:Gl X "len":=by rfl)(he:zS X a []:=by rfl)(hpl:zP X pos []:=by rfl)(he':Zu [Expr.Call (.Name "set" ps) [a] [] pos] X.env=(false,Zv (Expr.Call (.Name "set" ps) [a] [] pos) X.env)::Zu [] X.env:=by rfl)(hpl':(Zw pos' (Zu [] X.env)).any (·.1)=false:=by rfl) :
  PD X (.Call (.Name "len" d) [.Call (.Name "set" ps) [a] [] pos] [] pos') (tCl Gm t) :=
 PE.wk (cV uN hgl hl PySem.boot_len (bZ (uY (Bd hc) hgs hs boot_set ha ∅ ∅ he hpl) eZ he') ∅ ∅ he' hpl') (by
  rintro σ H Q ⟨p,e,own,ρ,P,E,t,q⟩;refine⟨p,e,own,ρ,_,E,t,λks vs H1 h A r=>?_⟩;let⟨k,ns,rfl,hn,h⟩:=h;let⟨v,rfl,j⟩:=dh r;let⟨c,s,rfl,o,b,m⟩:=j.bD;have f:=m.ints;subst f;refine⟨c,ns,rfl,SqL.of b,hn,λl S hl'=>?_⟩;let⟨i,g,n⟩:=A.new hl' (.set S ⇑(once ns));have h1:=jg ns [];exact⟨l,S,_,rfl,aq,by unfold once;simp at h1;lia,q _ _ _ _ h (A.go i g) (.int _)⟩)
end
variable [Gr]
section
variable{X:Cx}{pos p2:Pos}{a b c e:Zt}{es:List Zt}{ta tb tc te:DE}{t:DA}{st:ZF}
def OpR.or{f:Value->Value->Sem Value}{r g:R2}(h:OpR X f r)(h':OpR X f g):OpR X f (λx y H Q=>r x y H Q\/g x y H Q):=by
 intro d s σ H x y v u Q I i j q;rcases q with q|q
 ·exact h d s σ H x y v u Q I i j q
 ·exact h' d s σ H x y v u Q I i j q
def bC.or{f:Value}{r g:List V->Hp->VK->Prop}(h:bC X f r)(h':bC X f g):bC X f (λx H Q=>r x H Q\/g x H Q):=by
 intro d s σ H x v Q I i q;rcases q with q|q
 ·exact h d s σ H x v Q I i q
 ·exact h' d s σ H x v Q I i q
def Kf(ha:PD X a ta)(hb:PD X b tb)(hs:rm b:=by exact λ_ _=>rfl):PD X (.Subscript a b pos) (t2 gIx ta tb):=PE.wk (jc (IxR.or c7 TV) ha hb hs) (Ge (by
 intro p k own l H x y r m s n P Q A h j t q;unfold gIx at t;split at t
 ·rename_i ds i;let⟨d,hd,t⟩:=t;let⟨c,vs,rfl,o,hc,f⟩:=h.bD;let⟨v,hv,g⟩:=f.atI hd;exact .inl ⟨c,vs,i,v,rfl,j.int',SqL.of hc,hv,q _ _ _ _ t Kp.refl A.pen (aX g)⟩
 ·rename_i ds i;let⟨d,hd,t⟩:=t;let⟨c,vs,rfl,hc,f⟩:=h.eV;let⟨v,hv,g⟩:=f.atI hd;exact .inr ⟨c,vs,i,v,rfl,j.int',SqT.of hc,hv,q _ _ _ _ t Kp.refl A.pen (aX g)⟩
 ·exact t.elim))
def p8:G2:=λk1 d1 k2 d2 P=>match d1 with
 |.int i=>(match d2 with
  |.int j=>P .imm (.int (i+j))
  |_=>False)
 |.list ds=>Ua k1 (.list ds) k2 d2 P
 |.tuple ds=>Lp k1 (.tuple ds) k2 d2 P
 |_=>False
theorem wV(ha:PD X a ta)(hb:PD X b tb):PD X (.BinOp a .Add b pos) (t2 p8 ta tb):=u6 (OpR.or jf (OpR.or S9 Oo)) (by
 intro p h own k H x y l n m d P Q A f g t q;cases n with
 |int i =>
  cases d with
  |int j=>exact .inl ⟨i,j,f.int',g.int',q _ _ _ _ t Kp.refl A.pen (.int _)⟩
  |_=>exact t.elim
 |list ds=>exact .inr (.inl (Vx p h own k H x y l _ m d P Q A f g t q))
 |tuple ds=>exact .inr (.inr (Ti p h own k H x y l _ m d P Q A f g t q))
 |_=>exact t.elim) ha hb
def Lj:G2:=λk1 d1 k2 d2 P=>match d1 with
 |.int i=>(match d2 with
  |.int j=>M9 i j/\P .imm (.int (i * j))
  |_=>False)
 |.list ds=>T8 k1 (.list ds) k2 d2 P
 |_=>False
theorem fY(ha:PD X a ta)(hb:PD X b tb):PD X (.BinOp a .Mult b pos) (t2 Lj ta tb):=u6 (OpR.or kI S6) (by
 intro p h own k H x y m l n d P Q A f g t q;cases l with
 |int i =>
  cases d with
  |int j=>exact .inl ⟨i,j,f.int',g.int',t.1,q _ _ _ _ t.2 Kp.refl A.pen (.int _)⟩
  |_=>exact t.elim
 |list ds=>exact .inr (Vt p h own k H x y m _ n d P Q A f g t q)
 |_=>exact t.elim) ha hb
def o8(neg:Bool):G2:=λk1 d1 k2 d2 P=>match scD d1 d2 with
 |some b=>P .imm (.bool (if neg then !b else b))
 |none=>Wj neg k1 d1 k2 d2 P
def QF{K:á}:Ok2 (o8 false) (λx y H Q=>rEq x y H Q\/JK K false x y H Q):=by
 intro p i own j H x y g d h f P Q A k l t q;cases e:scD d f with
 |some b =>
  have t':gEq false g d h f P:=by
   unfold o8 at t;unfold gEq;rw[e]at t ⊢;exact t
  exact .inl (Xm p i own j H x y g d h f P Q A k l t' q)
 |none =>
  unfold o8 at t;rw[e]at t;exact .inr (QD false p i own j H x y g d h f P Q A k l t q)
def Vu{K:á}:Ok2 (o8 true) (λx y H Q=>rNe x y H Q\/JK K true x y H Q):=by
 intro p i own j H x y g d h f P Q A k l t q;cases e:scD d f with
 |some b =>
  have t':gEq true g d h f P:=by
   unfold o8 at t;unfold gEq;rw[e]at t ⊢;exact t
  exact .inl (Xl p i own j H x y g d h f P Q A k l t' q)
 |none =>
  unfold o8 at t;rw[e]at t;exact .inr (QD true p i own j H x y g d h f P Q A k l t q)
def fQ(hu:X.A.units+64<Yb)(ha:PD X a ta)(hb:PD X b tb):PD X (.Compare a [.Eq] [b] pos) (t2 (o8 false) ta tb):=sI (OpR.or QB (Ko hu)) QF ha hb (cL _)
def lR(hu:X.A.units+64<Yb)(ha:PD X a ta)(hb:PD X b tb):PDT X (.Compare a [.Eq] [b] pos) (cH (t2 (o8 false) ta tb)):=dH (OpR.or QB (Ko hu)) QF ha hb (cL _)
def cF(hu:X.A.units+64<Yb)(ha:PD X a ta)(hb:PD X b tb):PDT X (.Compare a [.NotEq] [b] pos) (cH (t2 (o8 true) ta tb)):=dH (OpR.or Vr (S8 hu)) Vu ha hb (cL _)
end
section
variable{n:Nat}{g:DG}{tt:DT}{te:DE}{ρ:List Sl}{k:Kd}{ds:List D}{R:Kd->List D->Prop}
def Oz{α β:Type}(f:α->β){l:List α}{i:Nat}{x:α}(h:l[i]?=some x):(l.take (i+1)).map f=(l.take i).map f++[f x]:=by
 rw[ĕ,h];simp
def tG{α:Type}(xs:List α)(e f:α->D)(a:Kd)(hd:ds=xs.map e)(hl:⇑xs<=1000)(step:∀x∈xs,∀(A:D->Prop)(B:Prop),A (f x)->g (norm (elC k) (e x)) (e x) (Ú n .any++ρ) λρ'=>if true=true then te ρ' λk' d'=>(norm k' d').le a=true/\A d' else B)(q:R a (xs.map f)) :
  ⇑ds<=1000/\∃(a:Kd)(b:Nat->List D->Prop),b 0 [] /\
   (∀i d ys,ds[i]?=some d->b i ys->g (norm (elC k) d) d (Ú n .any++ρ) λρ'=>if true=true then te ρ' λk' d'=>(norm k' d').le a=true/\b (i+1) (ys++[d'])else b (i+1) ys) /\
   ∀ys,b ⇑ds ys->R a ys:=by
 subst hd;refine⟨by rw[Ä];exact hl,a,λi ys=>ys=(xs.take i).map f,rfl,?_,?_⟩
 ·rintro i d ys hd rfl;rw[à]at hd;cases c:xs[i]? with
  |none=>rw[c]at hd;cases hd
  |some x =>
   rw[c]at hd;have hd:=Ô hd;subst hd;exact step x (Ê c) (λd'=>(xs.take i).map f++[d']=(xs.take (i+1)).map f) _ (Oz f c).symm
 ·rintro ys rfl;rw[Ä,ğ];exact q
def jr{α:Type}(xs:List α)(e:α->D)(p:α->Bool)(f:α->D)(a:Kd)(hd:ds=xs.map e)(hl:⇑xs<=1000)(step:∀x∈xs,∀(A:D->Prop)(B:Prop),(p x=true->A (f x))->(p x=false->B)->g (norm (elC k) (e x)) (e x) (Ú n .any++ρ) λρ'=>tt ρ' λb=>if b=true then te ρ' λk' d'=>(norm k' d').le a=true/\A d' else B)(q:R a ((xs.filter p).map f)) :
  ⇑ds<=1000/\∃(a:Kd)(c:Nat->List D->Prop),c 0 [] /\
   (∀i d ys,ds[i]?=some d->c i ys->g (norm (elC k) d) d (Ú n .any++ρ) λρ'=>tt ρ' λb=>if b=true then te ρ' λk' d'=>(norm k' d').le a=true/\c (i+1) (ys++[d'])else c (i+1) ys) /\
   ∀ys,c ⇑ds ys->R a ys:=by
 subst hd;refine⟨by rw[Ä];exact hl,a,λi ys=>ys=((xs.take i).filter p).map f,rfl,?_,?_⟩
 ·rintro i d ys hd rfl;rw[à]at hd;cases j:xs[i]? with
  |none=>rw[j]at hd;cases hd
  |some x =>
   rw[j]at hd;have hd:=Ô hd;subst hd;have sn:((xs.take (i+1)).filter p).map f=((xs.take i).filter p).map f++if p x=true then [f x]else []:=by
    rw[ĕ,j,ŗ,ì];cases hp:p x <;> simp[hp]
   refine step x (Ê j) (λd'=>((xs.take i).filter p).map f++[d']=((xs.take (i+1)).filter p).map f) _ (λh=>?_) (λh=>?_)
   ·rw[sn,el h]
   ·show _=_;rw[sn,h,em Î,Ĕ]
 ·rintro ys rfl;rw[Ä,ğ];exact q
section
variable{g:DG}{tb:DS}{k:Kd}{ds:List D}{ρ:List Sl}{P:DEnds}
end
variable [Gr]
section
variable{X:Cx}{scope:Zs}{tg iter elt:Zt}{ifs:List Zt}{pos:Pos}{ti:DI}{g:DG}{tt:DT}{te:DE}
def R3(own:List Str){i:Nat}{y:Str}{e a:Pos}(hc:X.calm=true)(hN:X.N.Nodup)(b:X.N[i]?=some y)(h:Loc X.env.scope y)(hi:PDI X tg iter ti)(hg:∀c,PDG (X.comp own scope c) tg g)(ht:∀c,Er (X.comp own scope c) ifs tt)(he:∀c,PD (X.comp own scope c) elt te)(d:ZO (.ListComp elt [⟨tg,iter,ifs,0⟩] scope pos) (some (.Name y e)) a.line X.env=pure true:=by rfl)(hk:fB X.env scope X.N=true:=by rfl)(hs:zF X iter:=by intro _;rfl)(f:zL X y:=by first|exact .inl rfl|exact .inr rfl|assumption) :
  PS X (.Assign [.Name y e] (.ListComp elt [⟨tg,iter,ifs,0⟩] scope pos) a) (ql (aU (dLC ⇑own ti g tt te)) (gG i)):=PS.wk' (Qy own hc hN b h hi hg ht he d hk hs f) λD σ H q=>qX σ H _ q
def N6(own M:List Str){i:Nat}{y:Str}{e a:Pos}(hc:X.calm=true)(hN:X.N.Nodup)(b:X.N[i]?=some y)(h:Loc X.env.scope y)(hi:PDI X tg iter ti)(hg:∀c,PDG (X.aO own M scope c) tg g)(ht:∀c,Er (X.aO own M scope c) ifs tt)(he:∀c,PD (X.aO own M scope c) elt te)(d:ZO (.ListComp elt [⟨tg,iter,ifs,0⟩] scope pos) (some (.Name y e)) a.line X.env=pure true:=by rfl)(hk:aR X.env scope X.N M=true:=by rfl)(hs:zF X iter:=by intro _;rfl)(f:zL X y:=by first|exact .inl rfl|exact .inr rfl|assumption) :
  PS X (.Assign [.Name y e] (.ListComp elt [⟨tg,iter,ifs,0⟩] scope pos) a) (ql (aU (dLC ⇑own ti g tt te)) (gG i)):=PS.wk' (JT own M hc hN b h hi hg ht he d hk hs f) λD σ H q=>qX σ H _ q
end
end
variable [Gr]
section
variable{X:Cx}{pos:Pos}{st:ZF}{rest:List ZF}{te tj:DE}{ti:DI}{t:DS}
def Uh(i:Nat)(t:DS):DS:=λP ρ=>match ρ[i]? with
 |some (.dw r d)=>mY r ρ i=true/\t P (ρ.set i (.sn d))
 |some (.rw r L)=>mY r ρ i=true/\t P (ρ.set i (.sn (.list (L.map ē))))
 |some (.sp r b ds)=>mY r ρ i=true/\t P (ρ.set i (if b=true then .sn (.list ds)else .sh (.list ds)))
 |_=>False
def EnvD.freeze{p:Pn}{b H:Hp}{own:Addr->Option Nat}{σ:L2.St}{ρ:List Sl}{i r:Nat}{d:D}{v:V}(E:EnvD p b own σ H ρ)(g:mY r ρ i=true)(hv:σ[i]?=some (some v))(x:Rp (λa=>own a=some r) H v d) :
  EnvD p b (aP r own) σ H (ρ.set i (.sn d)):=by
 have f:EnvD p b (aP r own) σ H (ρ.set i .any):=(E.drop (i:=i)).clear g;have c:=f.put (v:=v) (i:=i) (s:=.sn d) ⟨v,hv,x.mono (λa o=>⟨(E.ow a r o).1,(E.ow a r o).2.1,by unfold aP;rw[el o]⟩) (λ_ _ _ e=>e) λ_ _ e=>e⟩;rw[List.set_set]at c;exact c
def xY(i:Nat)(h:lg X rest t):lg X rest (Uh i t):=PSs.wk' h (by
 rintro Q σ H ⟨p,f,own,ρ,P,E,q,w⟩;unfold Uh at q;split at q
 ·rename_i r d e;let⟨v,hv,x⟩:=E.slot i _ e;exact⟨p,f,_,_,P,E.freeze q.1 hv x,q.2,w.go eN⟩
 ·rename_i r L e;let⟨st,s,hv,x⟩:=E.slot i _ e;exact⟨p,f,_,_,P,E.freeze q.1 hv x.rp,q.2,w.go eN⟩
 ·rename_i r b ds e;let⟨l,vs,hv,o,h,z⟩:=E.slot i _ e;have m:EnvD p f (aP r own) σ H (ρ.set i .any):=(E.drop (i:=i)).clear q.1;have j:∀a,own a=none->aP r own a=none:=λa n=>by unfold aP;rw[n];simp
  have k:aP r own l=none:=by unfold aP;rw[el o]
  have g:EnvD p f (aP r own) σ H ((ρ.set i .any).set i (if b=true then .sn (.list ds)else .sh (.list ds))):=m.put (v:=.ref l) (by
   cases b with
   |true=>exact⟨_,hv,.lst ⟨(E.ow l r o).1,(E.ow l r o).2.1,k⟩ h (z.mono (λc n=>⟨n.1 rfl,n.2.1,j c n.2.2⟩) (λ_ _ _ e=>e) λ_ _ e=>e)⟩
   |false=>exact⟨_,hv,.lst ⟨(E.ow l r o).2.1,k⟩ h (z.mono (λc n=>⟨n.2.1,j c n.2.2⟩) (λ_ _ _ e=>e) λ_ _ e=>e)⟩)
  rw[List.set_set]at g;exact⟨p,f,_,_,P,g,q.2,w.go eN⟩
 ·exact q.elim)
def dSp(i:Nat)(b:Bool)(t:DS):DS:=λP ρ=>match ρ[i]? with
 |some (.dw r (.list ds))=>cC ds=true/\t P (ρ.set i (.sp r b ds))
 |_=>False
def Mg(i:Nat)(b:Bool)(h:lg X rest t):lg X rest (dSp i b t):=PSs.wk' h (by
 rintro Q σ H ⟨p,a,own,ρ,P,E,q,w⟩;unfold dSp at q;split at q
 ·rename_i r ds e;let⟨v,hv,x⟩:=E.slot i _ e;let⟨l,vs,rfl,o,h,z⟩:=x.bD;exact⟨p,a,own,_,P,E.put (v:=.ref l) (i:=i) (s:=.sp r b ds) ⟨l,vs,hv,o,h,(z.imm q.1).mono (λ_ o=>o.elim) (λ_ _ o=>o.elim) λ_ _ e=>e⟩,q.2,w⟩
 ·exact q.elim)
def spK(b:Bool):Kd:=if b=true then .snw else .shr
def Dg{p:Pn}{c g H:Hp}{own:Addr->Option Nat}{b:Bool}(A:At p c own g H){k:Kd}(hk:k.le (spK b)=true){v:V}{d:D}{f:Hp}(r:Rp (okK p c own g k) f v d):Rp (okS p c own b) f v d:=by
 have h:=iJ A hk r;cases b with
 |true=>exact h.mono (λa o=>⟨λ_=>o.1,o.2.1,o.2.2⟩) (λ_ _ _ e=>e) λ_ _ e=>e
 |false=>exact h.mono (λa o=>⟨λz=>(nomatch z),o.1,o.2⟩) (λ_ _ _ e=>e) λ_ _ e=>e
def EnvD.Fv{p:Pn}{d H:Hp}{own:Addr->Option Nat}{σ:L2.St}{ρ:List Sl}{i r:Nat}{b:Bool}{l:Addr}{vs vs':List V}{ds':List D}(E:EnvD p d own σ H ρ)(hv:σ[i]?=some (some (.ref l)))(o:own l=some r)(h:H l=some (.lst vs))(z:Rps (okS p d own b) H vs' ds') :
  EnvD p d own σ (upd H l (.lst vs')) ((forget r ρ).set i (.sp r b ds'))/\FrS p own H own (upd H l (.lst vs')):=by
 refine⟨(E.write (o':=.lst vs') o h λxs z=>nomatch z).put (v:=.ref l) ⟨l,vs',hv,o,aq,z.mono (λ_ o=>o) (λc u n e=>?_) λa xs e=>?_⟩,jE o h λxs z=>nomatch z⟩
 ·rw[aj];exact e;intro y;subst y;rw[n.2.2]at o;cases o
 ·rw[aj];exact e;intro y;subst y;rw[h]at e;cases e
def Mt(i:Nat)(te:DE):DS:=λP ρ=>match ρ[i]? with
 |some (.sp r b ds)=>te ρ λk d=>(norm k d).le (spK b)=true/\⇑ds<1000/\P.nx ((forget r ρ).set i (.sp r b (ds++[d])))
 |_=>False
def jP{i:Nat}(h:PS X st (uT (tBM X.K "list" qJ (nU i) (jo (aQ te dX))))):PDS X st (Mt i te):=PS.wk' h (by
 rintro Q σ H ⟨p,f,own,ρ,P,E,t,w⟩;unfold Mt at t;split at t
 ·rename_i r b ds hr;let⟨l,vs,hv,o,m,q⟩:=E.slot i _ hr;refine⟨.ref l,hv,.inl ⟨rfl,vs,SqL.of m⟩,p,f,own,ρ,_,E,qU t,?_⟩;rintro ks F g ⟨k,d,rfl,hk,j,hn⟩ A C;let⟨y,rfl,D⟩:=dh C;have s:=E.go A.kp A.pen;have h1:g l=some (.lst vs):=A.kp l _ m (E.ow l r o).2.1;have a:Rps (okS p f own b) g vs ds:=q.mono (λ_ o=>o) (λc u n e=>A.kp c u e n.2.1) A.tups;have z:=ü;have B:=⇑q;refine⟨l,vs,y,rfl,rfl,h1,(),?_⟩;let⟨v,x⟩:=s.Fv (b:=b) hv o h1 (a.snoc (Dg A hk (aX D)));exact w.nx _ σ _ _ v (A.frs.trans x) hn
 ·exact t.elim)
def XR(i:Nat)(tj te:DE):DS:=λP ρ=>match ρ[i]? with
 |some (.sp r b ds)=>tj ρ λ_ dj=>te ρ λk d=>match dj with
  |.int j=>(norm k d).le (spK b)=true/\0<=j/\j.toNat<=⇑ds/\⇑ds<1000/\P.nx ((forget r ρ).set i (.sp r b (ds.take j.toNat++d::ds.drop j.toNat)))
  |_=>False
 |_=>False
theorem yZ:∀{c d:List Addr},c.map V.ref=d.map V.ref->c=d
 |[],[],_=>rfl
 |a::c,b::d,e=>by
  rw[ò,ò]at e;injection e with e1 e2
  rw[V.ref.inj e1,yZ e2]
 |[],_::_,e=>by cases e
 |_::_,[],e=>by cases e
def EnvD.spine{p:Pn}{f H d:Hp}{own:Addr->Option Nat}{σ:L2.St}{ρ:List Sl}{i r:Nat}{b:Bool}{l:Addr}{vs:List V}{ds:List D}(E:EnvD p f own σ H ρ)(A:At p f own H d)(x:mY r ρ i=true)(hl:d l=none)(z:Rps (okS p f own b) d vs ds) :
  ∃own',EnvD p f own' (σ.set i (some (.ref l))) (upd d l (.lst vs)) (ρ.set i (.sp r b ds))/\FrS p own H own' (upd d l (.lst vs)):=by
 have m:EnvD p f (aP r own) σ H (ρ.set i .any):=(E.drop (i:=i)).clear x;have g:=m.go A.kp A.pen;have h:Same d (upd d l (.lst vs)):=λb u q=>by rw[aj (ao q hl)];exact q
 have j:At p f (aP r own) d (upd d l (.lst vs)):=⟨g.k0,Kp.of h,g.pen,p.mono d _ g.pen λb u _ q=>h b u q,g.ow⟩
 have o:=g.adopt r j;have w:∀a,own a=none->aP r own a=none:=λa n=>by unfold aP;rw[n];simp
 have k:=o.set (i:=i) (v:=.ref l) (s:=.sp r b ds) λhli=>⟨l,vs,ă hli,gP hl aq,aq,z.bN (λc u n e=>⟨⟨n.1,n.2.1,by rw[bF e];exact w c n.2.2⟩,h c u e⟩) λa xs e=>h a _ e⟩
 rw[List.set_set]at k;exact⟨_,k,(A.frs.trans eN).trans (jU j)⟩
theorem RpK.okS{p:Pn}{a c H:Hp}{own:Addr->Option Nat}{b:Bool}(A:At p a own c H):∀{vs:List V}{ks:List (Kd×D)},RpK p a own c H vs ks->(ks.all λkd=>(norm kd.1 kd.2).le (spK b))=true->Rps (okS p a own b) H vs (ks.map (·.2))
 |_,_,.nil,_=>.nil
 |_,kd::ks,.cons h t,e=>by
  rw[List.all_cons,Ì]at e;exact .cons (Dg A e.1 (aX h)) (RpK.okS A t e.2)
def Rb(i r:Nat)(b:Bool)(t:DA):DS:=λP ρ=>t ρ λks=>⇑ks<=1000/\(ks.all λkd=>(norm kd.1 kd.2).le (spK b))=true/\mY r ρ i=true/\P.nx (ρ.set i (.sp r b (ks.map (·.2))))
def xX{i:Nat}{t:DA}(r:Nat)(b:Bool)(h:PS X st (ql (Nr (jo t)) (gG i))):PDS X st (Rb i r b t):=PS.wk' h (by
 rintro Q σ H ⟨p,e,own,ρ,P,E,q,w⟩;refine⟨p,e,own,ρ,_,E,q,λks vs H1 h A rk=>?_⟩;have f:=ü;have g:=⇑rk;refine⟨by have:=h.1;lia,λl hl=>?_⟩;let⟨a,c,d⟩:=E.spine A h.2.2.1 hl (RpK.okS A rk h.2.1);exact w.nx _ _ _ _ c d h.2.2.2)
theorem FZ{p:Pn}{a d H:Hp}{own:Addr->Option Nat}{b:Bool}(A:At p a own d H){k:Kd}(hk:k.le (spK b)=true){c:Hp}:∀{vs:List V}{ds:List D},Rps (okK p a own d k) c vs ds->Rps (okS p a own b) c vs ds
 |_,_,.nil=>.nil
 |_,_,.cons h t=>.cons (Dg A hk h) (FZ A hk t)
def pJ(js:List Nat)(t:DS):DS:=λP ρ=>t P (js.foldl (λρ j=>ρ.set j .any) ρ)
theorem EnvD.drops{p:Pn}{a H:Hp}{own:Addr->Option Nat}{σ:L2.St}:∀(js:List Nat) {ρ:List Sl},EnvD p a own σ H ρ->EnvD p a own σ H (js.foldl (λρ j=>ρ.set j .any) ρ)
 |[],_,E=>E
 |_::js,_,E=>EnvD.drops js E.drop
def uf(js:List Nat)(h:lg X rest t):lg X rest (pJ js t):=PSs.wk' h (by
 rintro Q σ H ⟨p,a,own,ρ,P,E,q,w⟩;exact⟨p,a,own,_,P,E.drops js,q,w⟩)
def yp(i:Nat)(tj te:DE):DS:=λP ρ=>match ρ[i]? with
 |some (.rw r L)=>tj ρ λ_ dj=>match dj with
  |.int j=>∃n l,ixN ⇑L j=some n/\L[n]?=some l/\te ρ λ_ d=>cM d=true/\⇑l<1000/\P.nx ((forget r ρ).set i (.rw r (L.set n (l++[d]))))
  |_=>False
 |_=>False
def dB{i:Nat}(h:PS X st (uT (tBM X.K "list" qJ (tOp (Ve X.K) (nU i) (aU tj)) (jo (aQ te dX))))):PDS X st (yp i tj te):=PS.wk' h (by
 rintro Q σ H ⟨p,H0,own,ρ,P,E,q,w⟩;unfold yp at q;split at q
 ·rename_i r L hr;let⟨st,as,hv,R0⟩:=E.slot i _ hr;refine⟨.ref st,hv,p,H0,own,ρ,_,E,q,λkj dj vj H1 M A1 rj=>?_⟩;cases dj with
  |int j =>
   have J:=E.go A1.kp A1.pen;let⟨W,c,x,C⟩:=J.slot i _ hr;rw[hv]at x;cases x;have ej:=Rp.int' rj;subst ej;let⟨n,l,hn,hl,M⟩:=M;have u:=(Æ.mp hl).1;rw[Ë u]at hl;cases hl;have g:n<⇑c:=by rw[C.len];exact u
   have R:atI (c.map V.ref) j=some (.ref c[n]):=by
    unfold L2.atI;rw[Ä,C.len,hn];show(c.map V.ref)[n]?=_;rw[à,Ë g];rfl
   let⟨vs,T,rv⟩:=C.row n c[n] L[n] (Ë g) (Ë u);refine⟨st,_,j,.ref c[n],rfl,rfl,SqL.of C.top,R,.inl ⟨rfl,vs,SqL.of T⟩,p,H0,own,ρ,_,J,qU M,?_⟩;rintro ks ws N ⟨k,d,rfl,im,len,nx⟩ I rk;let⟨y,rfl,U⟩:=dh rk;have U:Rp (λ_=>False) N y d:=Rp.imm U im;have E2:=J.go I.kp I.pen;let⟨W,b,x,R2⟩:=E2.slot i _ hr;rw[hv]at x;cases x
   -- the rows are those of before
   have O:b=c:=by
    have A:=I.kp st _ C.top (J.ow st r (C.ow st Ó)).2.1;rw[R2.top]at A;have D:=(HO.lst.inj (Ô A))
    exact yZ D
   subst O;let⟨B,f,G⟩:=R2.row n b[n] L[n] (Ë g) (Ë u);have oa:=R2.ow b[n] (Í _ (į g));have h24:=ü;have ln:=⇑G;refine⟨b[n],B,y,rfl,rfl,f,(),?_⟩;have Y:∀a xs,N a=some (.tup xs)->upd N b[n] (.lst (B++[y])) a=some (.tup xs):=λa xs e=>by
    rw[aj];exact e;intro z;subst z;rw[f]at e;cases e
   have E3:=E2.write (o':=.lst (B++[y])) oa f (λxs z=>nomatch z);have F:=ŝ.mp R2.nd;have E4:=E3.put (v:=.ref st) (i:=i) (s:=.rw r (L.set n (L[n]++[d]))) ⟨st,b,hv,⟨?_,R2.nd,R2.ow,by rw[List.length_set];exact R2.len,λm a ds A D=>?_⟩⟩
   ·exact w.nx _ σ _ _ E4 ((A1.frs.trans I.frs).trans (jE oa f λxs z=>nomatch z)) nx
   ·rw[aj];exact R2.top;intro z;exact F.1 (by rw[z];exact į g)
   ·by_cases S:m=n
    ·subst S;rw[ă u]at D;rw[Ë g]at A;cases A;cases D;exact⟨_,aq,(G.mono (λ_ o=>o) (λ_ _ o=>o.elim) Y).snoc (U.mono (λ_ o=>o) (λ_ _ o=>o.elim) Y)⟩
    ·rw[Ļ (ĝ S)]at D;let⟨Z,h3,r3⟩:=R2.row m a ds A D;refine⟨Z,?_,r3.mono (λ_ o=>o) (λ_ _ o=>o.elim) Y⟩;rw[aj];exact h3;intro z;have hm:=(Æ.mp A).1;have hz:b[m]=b[n]:=by rw[(Æ.mp A).2];exact z
     exact S ((List.getElem_inj F.2).mp hz)
  |_=>exact M.elim
 ·exact q.elim)
def Mq(i r:Nat)(ti:DI):DS:=λP ρ=>ti ρ λk ds=>⇑ds<=1000/\mY r ρ i=true/\P.nx (ρ.set i (.rw r (Ú ⇑ds [])))
def jw{i n j:Nat}(r:Nat)(h:PS X st (ql (tLC n (KZ ti) (λ_=>Gd (gNm j)) (λ_=>liftT λ_ P=>P true) (λ_=>Nr Ru)) (gG i))):PDS X st (Mq i r ti):=PS.wk' h (by
 rintro Q σ H ⟨p,g,own,ρ,P,E,q,w⟩;refine⟨p,g,own,ρ,_,E,q,λk ds J H1 Ok h A W o1=>?_⟩;let⟨hlen,hf,nx⟩:=h;have okS:∀d,Kp p H1 d->p.PI d->Ok d:=λd K i=>W.stab H1 d o1 (λb o n e=>K b o e (mq A n.1)) (iy A K);refine⟨λi m ys d=>m=⇑ds - i/\i<=⇑ds/\Kp p H1 d/\p.PI d/\∃f:List Addr,ys=f.map V.ref/\f.Nodup/\⇑f=i/\∀a∈f,H a=none/\d a=some (.lst []),⟨_,rfl,Ğ _,Kp.refl,A.pen,[],rfl,.nil,rfl,λa ha=>nomatch ha⟩,?_⟩;rintro c C m ys d ⟨rfl,hi,O,N,f,rfl,nd,la,hn⟩;have U:=okS d O N;have Z:=A.go O N;have h24:=ü;by_cases u:C<⇑ds
 ·refine .inr ⟨W.go C d U u,by rw[Ä];lia,λys' H2=>Kp p H1 H2/\p.PI H2/\∃f:List Addr,ys'=f.map V.ref/\f.Nodup/\⇑f=C+1/\∀a∈f,H a=none/\H2 a=some (.lst []),λys' H2 h=>⟨_,(),rfl,u,h⟩,λx H2 y=>?_⟩;let⟨I,Y⟩:=W.yld C d x H2 U y;have Y:=Y ds[C] (Ë u);have I2:p.PI H2:=p.mono d H2 N λb o _ e=>I b o e;have K2:Kp p H1 H2:=O.trans (Kp.of I);have L:=A.go K2 I2;have F:EnvD p g own σ H2 ρ:=E.go L.kp L.pen;refine⟨p,g,own,_,_,_,λ_=>True,F.comp n,fX (QG A Y),trivial,λσ3 ρ3 M t3=>?_⟩;refine⟨p,g,own,ρ3,λb=>b=true,M,rfl,λb H4 h4 A4=>?_⟩;subst h4;refine aB ⟨(by show 0<=sizeLine;lia),λl hl=>?_⟩;have A5:At p g own H H4:=L.base A4;let⟨G,S,T⟩:=A5.new hl (.lst []);refine⟨(K2.trans A4.kp).trans G,S,f++[l],by rw[ì];rfl,?_,by rw[Ð,la];rfl,λa ha=>?_⟩
  ·refine Š.mpr ⟨nd,by simp,λa ha b hb=>?_⟩;rw[É.mp hb];intro z;subst z;have e:=A4.kp a _ (I a _ (hn a ha).2) (A.nfb (hn a ha).1);rw[hl]at e;cases e
  ·rcases ë.mp ha with z|z
   ·refine⟨(hn a z).1,?_⟩;have e:=A4.kp a _ (I a _ (hn a z).2) (A.nfb (hn a z).1);exact G a _ e (A.nfb (hn a z).1)
   ·rw[É.mp z];exact⟨T,aq⟩
 ·have e:C=⇑ds:=()
  subst e;refine .inl ⟨W.stop d U,λl hl=>?_⟩;let⟨G,S,T⟩:=Z.new hl (.lst (f.map V.ref));have D:=Z.go G S;show Q.nx (σ.set i (some (.ref l))) (upd d l (.lst (f.map V.ref)));have F:EnvD p g (aP r own) σ H (ρ.set i .any):=(E.drop (i:=i)).clear hf;have A8:At p g (aP r own) H (upd d l (.lst (f.map V.ref))):=⟨D.k0,D.kp,D.penb,D.pen,F.ow⟩
  have M:=F.adopt r A8;have B:l∉f:=λz=>by rw[(hn l z).2]at hl;cases hl
  have E4:=M.set (i:=i) (v:=.ref l) (s:=.rw r (Ú ⇑ds [])) λhli=>⟨l,f,ă hli,⟨aq,ŝ.mpr ⟨B,nd⟩,λa ha=>?_,by rw[la,ų],λm a es e1 e2=>?_⟩⟩
  ·rw[List.set_set]at E4;exact w.nx _ _ _ _ E4 (eN.trans (jU A8)) nx
  ·rcases Û.mp ha with rfl|ha
   ·exact gP T aq
   ·exact gP (hn a ha).1 (by rw[aj (λz:a=l=>B (by rw[←z];exact ha))];exact(hn a ha).2)
  ·have ha:=Ê e1;have R:es=[]:=by
    have:=Ê e2;exact(List.mem_replicate.mp this).2
   subst R;exact⟨[],by rw[aj (λz:a=l=>B (by rw[←z];exact ha))];exact(hn a ha).2,.nil⟩)
def qQ:PD X (.Dict [] [] pos) (λ_ P=>P .new (.dict [])):=PE.wk J6 (by
 rintro σ H Q ⟨p,a,own,ρ,P,E,t,q⟩;have A:=E.at;exact λd hd=>let⟨k2,i2,nw⟩:=A.new hd (.dK []);q _ _ _ _ t (A.go k2 i2) (.dct nw aq .nil))
end
@[reducible] def grL(K:á)(sc:Addr)(ns:List Int):Gr:=⟨λp H0=>SqL K H0 sc (ns.map V.int)/\∀b,p.fp b->H0 b=none⟩
def Fi(K:á):Sp:=λvs H Q _=>∃(a:Addr)(ns:List Int),vs=[.ref a]/\SqL K H a (ns.map V.int)/\∀H',Q (.bl true) H'
section
variable{X:Cx}{k1 k2 j:Nat}{x y z:Str}{ps1 ps2:List Str}{e:Zt}{es1 es2:List Zt}{p1 p2 p3 pos pos1:Pos}{K:á}{sc:Addr}{ns:List Int}{C:Pn->Prop}{pre:List D->Prop}{g:List D->(D->Prop)->Prop}{i:Nat}
end
variable [Gr]
section
variable{X:Cx}{pos pos':Pos}{a b:Zt}{t:DA}
end
variable [Gr]
mutual
inductive Tm where
 |int (i:Int)
 |neg (i:Int)
 |bl (b:Bool)
 |non
 |str (s:Str)
 |var (i:Nat)
 |lst (ts:Tms)
 |tup (ts:Tms)
 |dct
inductive Tms where
 |nil
 |cons (t:Tm) (ts:Tms)
end
def Np(sc:Zs)(x:Str):Bool:=sc.names.lookup x==some .local || sc.names.lookup x==some .cell || sc.names.lookup x==some .free
def Nm{sc:Zs}{x:Str}(h:Np sc x=true):Vis sc x:=by
 unfold Np at h;rw[Ş,Ş,ez,ez,ez]at h;rcases h with(h|h)|h
 ·exact .inl h
 ·exact .inr (.inl h)
 ·exact .inr (.inr h)
def cI(i:Int):W2->Bool
 |.int j=>i==j
 |_=>false
def cB(b:Bool):W2->Bool
 |.bool c=>b==c
 |_=>false
def cS(s:Str):W2->Bool
 |.str u=>s==u
 |_=>false
def cN:W2->Bool
 |.none=>true
 |_=>false
def Wb:UnaryOp->Bool
 |.USub=>true
 |_=>false
def isC(f:W2->Bool):Zt->Bool
 |.Constant c _ _=>f c
 |_=>false
def isN(i:Int):Zt->Bool
 |.UnaryOp o e _=>Wb o&&isC (cI i) e
 |_=>false
def isV(N:List Str)(sc:Zs)(i:Nat):Zt->Bool
 |.Name x _=>N[i]?==some x&&(Np sc x&&(!(x==("__debug__":Str))&&!(x==("__classdict__":Str))))
 |_=>false
def isD:Zt->Bool
 |.Dict ks vs _=>ks.isEmpty&&vs.isEmpty
 |_=>false
mutual
def okT(N:List Str)(sc:Zs):Tm->Zt->Bool
 |.int i=>isC (cI i)
 |.neg i=>isN i
 |.bl b=>isC (cB b)
 |.non=>isC cN
 |.str s=>isC (cS s)
 |.var i=>isV N sc i
 |.lst c=>λe=>match e with
  |.List a _=>Df N sc c a
  |_=>false
 |.tup c=>λe=>match e with
  |.Tuple a _ _=>Df N sc c a
  |_=>false
 |.dct=>isD
def Df(N:List Str)(sc:Zs):Tms->List Zt->Bool
 |.nil=>λes=>es.isEmpty
 |.cons t a=>λes=>match es with
  |[]=>false
  |e::es=>okT N sc t e&&Df N sc a es
end
mutual
def evT(ρ:List Sl):Tm->Option (Kd×D)
 |.int i=>some (.imm,.int i)
 |.neg i=>some (.imm,.int (-i))
 |.bl b=>some (.imm,.bool b)
 |.non=>some (.imm,.none)
 |.str s=>some (.imm,.str s)
 |.var i=>match ρ[i]? with
  |some (.im d)=>some (.imm,d)
  |some (.sh d)=>some (.shr,d)
  |some (.sn d)=>some (.snw,d)
  |some (.dw r d)=>some (.reg r,d)
  |_=>none
 |.lst a=>match pA ρ a with
  |some ks=>some ((joins ks).join .new,.list (ks.map (·.2)))
  |none=>none
 |.tup a=>match pA ρ a with
  |some ks=>some (norm (joins ks) (.tuple (ks.map (·.2))),.tuple (ks.map (·.2)))
  |none=>none
 |.dct=>some (.new,.dict [])
def pA(ρ:List Sl):Tms->Option (List (Kd×D))
 |.nil=>some []
 |.cons t a=>match evT ρ t,pA ρ a with
  |some k,some ks=>some (k::ks)
  |_,_=>none
end
mutual
def smT:Tm->Bool
 |.lst a=>rG 1000 a
 |.tup a=>rG 1000 a
 |_=>true
def rG:Nat->Tms->Bool
 |_,.nil=>true
 |n+1,.cons t ts=>smT t&&rG n ts
 |0,.cons _ _=>false
end
def Rw(tm:Tm):DE:=λρ P=>∃k d,evT ρ tm=some (k,d)/\P k d
def XF(a:Tms):DA:=λρ P=>∃ks,pA ρ a=some ks/\P ks
section
variable{X:Cx}{e:Zt}{es:List Zt}
def PD.wk{t t':DE}(h:PD X e t)(w:∀ρ P,t' ρ P->t ρ P):PD X e t':=PE.wk h (by
 rintro σ H Q ⟨p,a,own,ρ,P,E,t,q⟩;exact⟨p,a,own,ρ,P,E,w _ _ t,q⟩)
def PDA.wk{t t':DA}(h:PDA X es t)(w:∀ρ P,t' ρ P->t ρ P):PDA X es t':=PA.wk h (by
 rintro σ H Q ⟨p,a,own,ρ,P,E,t,q⟩;exact⟨p,a,own,ρ,P,E,w _ _ t,q⟩)
theorem DX{ρ:List Sl}:∀{a:Tms}{ks:List (Kd×D)}{n:Nat},rG n a=true->pA ρ a=some ks->⇑ks<=n
 |.nil,ks,n,_,e=>by
  simp only[pA]at e;cases e;exact Ğ _
 |.cons t a,ks,0,h,e=>by simp[rG]at h
 |.cons t a,ks,n+1,h,e=>by
  simp only[rG,Ì]at h;simp only[pA]at e;cases b:evT ρ t with
  |none=>rw[b]at e;cases e
  |some k =>
   cases c:pA ρ a with
   |none=>rw[b,c]at e;cases e
   |some ks' =>
    rw[b,c]at e;cases e;have:=DX h.2 c;rw[ÿ];lia
def Nv{N:List Str}{sc:Zs}{t:Tm}(h:okT N sc t e=true):zS X e es:=by
 cases e <;> first
  |rfl
  |(cases t <;> exact er h Î)
def tQ{f:W2->Bool}(h:isC f e=true):∃c k p,e=.Constant c k p/\f c=true:=by
 cases e with
 |Constant c k p=>exact⟨c,k,p,rfl,h⟩
 |_=>exact er h Î
def Rg{i:Int}{c:W2}(h:cI i c=true):c=.int i:=by
 cases c with
 |int j=>exact et Const.int (beq_iff_eq.mp h).symm
 |_=>exact er h Î
section
variable{N:List Str}{sc:Zs}
def Pz{i:Int}(h:okT N sc (Tm.int i) e=true):∃k p,e=.Constant (.int i) k p:=by
 let⟨c,k,p,rfl,h⟩:=tQ h;rw[Rg h];exact⟨_,_,rfl⟩
def TX{i:Bool}(h:okT N sc (Tm.bl i) e=true):∃k p,e=.Constant (.bool i) k p:=by
 let⟨c,k,p,rfl,h⟩:=tQ h;cases c with
 |bool c=>exact⟨k,p,by rw[show i=c from beq_iff_eq.mp h]⟩
 |_=>exact er h Î
def Px(h:okT N sc Tm.non e=true):∃k p,e=.Constant .none k p:=by
 let⟨c,k,p,rfl,h⟩:=tQ h;cases c with
 |none=>exact⟨k,p,rfl⟩
 |_=>exact er h Î
def Pq{i:Str}(h:okT N sc (Tm.str i) e=true):∃k p,e=.Constant (.str i) k p:=by
 let⟨c,k,p,rfl,h⟩:=tQ h;cases c with
 |str c=>exact⟨k,p,by rw[show i=c from beq_iff_eq.mp h]⟩
 |_=>exact er h Î
def inv_neg{i:Int}(h:okT N sc (Tm.neg i) e=true):∃k p q,e=.UnaryOp .USub (.Constant (.int i) k p) q:=by
 cases e with
 |UnaryOp o e q =>
  have h:=Ì _ _ ▸ (show(Wb o&&isC (cI i) e)=true from h);let⟨c,k,p,rfl,h2⟩:=tQ h.2;rw[Rg h2];cases o with
  |USub=>exact⟨k,p,q,rfl⟩
  |_=>exact er h.1 Î
 |_=>exact er h Î
def Pj{i:Nat}(h:okT N sc (Tm.var i) e=true):∃x p,e=.Name x p/\N[i]?=some x/\Vis sc x/\zB x/\(x==("__classdict__":Str))=false:=by
 cases e with
 |Name x p =>
  have h:(N[i]?==some x&&(Np sc x&&(!(x==("__debug__":Str))&&!(x==("__classdict__":Str)))))=true:=h;rw[Ì,Ì,Ì,ez,Ŋ,Ŋ]at h;exact⟨_,_,rfl,h.1,Nm h.2.1,h.2.2.1,h.2.2.2⟩
 |_=>exact er h Î
def Py{a:Tms}(h:okT N sc (Tm.lst a) e=true):∃es p,e=.List es p/\Df N sc a es=true:=by
 cases e with
 |List es p=>exact⟨es,p,rfl,h⟩
 |_=>exact er h Î
def Pk{a:Tms}(h:okT N sc (Tm.tup a) e=true):∃es k p,e=.Tuple es k p/\Df N sc a es=true:=by
 cases e with
 |Tuple es k p=>exact⟨es,k,p,rfl,h⟩
 |_=>exact er h Î
def PB(h:okT N sc Tm.dct e=true):∃p,e=.Dict [] [] p:=by
 cases e with
 |Dict ks vs p =>
  have h:=Ì _ _ ▸ (show(ks.isEmpty&&vs.isEmpty)=true from h);exact⟨p,by rw[List.isEmpty_iff.mp h.1,List.isEmpty_iff.mp h.2]⟩
 |_=>exact er h Î
end
mutual
theorem KQ{N:List Str}{sc:Zs}(hN:X.N=N)(hs:X.env.scope=sc):∀(t:Tm)(e:Zt),okT N sc t e=true->smT t=true->PD X e (Rw t)
 |.int i,e,h,_=>by
  let⟨k,p,rfl⟩:=Pz h;exact PD.wk je λρ P ⟨k,d,e,q⟩=>by simp only[evT]at e;cases e;exact q
 |.neg i,e,h,_=>by
  let⟨k,p,q,rfl⟩:=inv_neg h;exact PD.wk (fP je) λρ P ⟨k,d,e,q⟩=>by simp only[evT]at e;cases e;exact q
 |.bl b,e,h,_=>by
  let⟨k,p,rfl⟩:=TX h;exact PD.wk FQ λρ P ⟨k,d,e,q⟩=>by simp only[evT]at e;cases e;exact q
 |.non,e,h,_=>by
  let⟨k,p,rfl⟩:=Px h;exact PD.wk wW λρ P ⟨k,d,e,q⟩=>by simp only[evT]at e;cases e;exact q
 |.str s,e,h,_=>by
  let⟨k,p,rfl⟩:=Pq h;exact PD.wk wU λρ P ⟨k,d,e,q⟩=>by simp only[evT]at e;cases e;exact q
 |.var i,e,h,_=>by
  let⟨x,p,rfl,h1,h2,f,g⟩:=Pj h;refine PD.wk (dv i (by rw[hN];exact h1) (by rw[hs];exact h2) f g) λρ P ⟨k,d,e,q⟩=>?_;simp only[evT]at e;unfold tV;split at e <;> first
   |(cases e;rename_i z;rw[z];exact q)
   |cases e
 |.lst ts,e,h,s=>by
  let⟨es,p,rfl,h1⟩:=Py h;have c:rG 1000 ts=true:=by simpa only[smT]using s
  refine PD.wk (qO (xO hN hs ts es 1000 h1 c)) λρ P ⟨k,d,e,q⟩=>?_;simp only[evT]at e;cases a:pA ρ ts with
  |none=>rw[a]at e;cases e
  |some ks =>
   rw[a]at e;cases e;exact⟨ks,a,DX c a,q⟩
 |.tup ts,e,h,s=>by
  let⟨es,k,p,rfl,h1⟩:=Pk h;have c:rG 1000 ts=true:=by simpa only[smT]using s
  refine PD.wk (lU (xO hN hs ts es 1000 h1 c)) λρ P ⟨k,d,e,q⟩=>?_;simp only[evT]at e;cases a:pA ρ ts with
  |none=>rw[a]at e;cases e
  |some ks =>
   rw[a]at e;cases e;exact⟨ks,a,DX c a,q⟩
 |.dct,e,h,_=>by
  let⟨p,rfl⟩:=PB h;exact PD.wk qQ λρ P ⟨k,d,e,q⟩=>by simp only[evT]at e;cases e;exact q
theorem xO{N:List Str}{sc:Zs}(hN:X.N=N)(hs:X.env.scope=sc):∀(a:Tms)(es:List Zt)(n:Nat),Df N sc a es=true->rG n a=true->PDA X es (XF a)
 |.nil,es,n,h,_=>by
  cases es with
  |nil=>exact PDA.wk jL λρ P ⟨ks,e,q⟩=>by simp only[pA]at e;cases e;exact q
  |cons e es=>exact er h Î
 |.cons t a,es,n,h,s=>by
  cases es with
  |nil=>exact er h Î
  |cons e es =>
   have h:=Ì _ _ ▸ (show(okT N sc t e&&Df N sc a es)=true from h);cases n with
   |zero=>simp[rG]at s
   |succ n =>
    simp only[rG,Ì]at s;refine PDA.wk (eY (KQ hN hs t e h.1 s.1) (xO hN hs a es n h.2 s.2) (Nv h.1)) λρ P ⟨ks,e,q⟩=>?_;simp only[pA]at e;cases b:evT ρ t with
    |none=>rw[b]at e;cases e
    |some k =>
     cases c:pA ρ a with
     |none=>rw[b,c]at e;cases e
     |some ks' =>
      rw[b,c]at e;cases e;exact⟨k.1,k.2,b,ks',c,q⟩
end
def Cy(N:List Str)(sc:Zs)(tm:Tm)(h:okT N sc tm e=true)(hN:X.N=N:=by rfl)(hs:X.env.scope=sc:=by rfl)(s:smT tm=true:=by decide +kernel):PD X e (Rw tm):=KQ hN hs tm e h s
end
end Dl
namespace L2
open PySem PySem.Spec PyProof.Rows HT
section
variable{X:Cx}{e:Zt}{te:TE}{p1 p2 p3 pos:Pos}
end
end L2
namespace Dl
open PySem L2 PyProof.Rows
variable [Gr]
section
variable{X:Cx}{pos p1 p2 p3:Pos}{a b e:Zt}{es:List Zt}{ta tb te:DE}{t:DA}
theorem Rps.rev{ok:Addr->Prop}{H:Hp}:∀{vs:List V}{ds:List D},Rps ok H vs ds->Rps ok H vs.reverse ds.reverse
 |_,_,.nil=>.nil
 |_,_,.cons h t=>by
  rw[Ÿ,Ÿ];exact(Rps.rev t).snoc h
def Uz(te:DE)(f c:DO):DE:=λρ P=>te ρ λk d=>f ρ λlo=>c ρ λhi=>match d with
 |.list ds=>newP k (dO ds lo hi) λk'=>P k' (.list (dO ds lo hi))
 |.tuple ds=>¬(HT.sIx ⇑ds 0 lo=0/\HT.sIx ⇑ds ⇑ds hi=⇑ds)/\P (norm k (.tuple (dO ds lo hi))) (.tuple (dO ds lo hi))
 |_=>False
theorem u5{u hi:Option Zt}{B z:DO}(he:PD X e te)(hl:PO X u (tE B))(hh:PO X hi (tE z)):PD X (.Subscript e (.Slice u hi none p2) pos) (Uz te B z):=PE.wk (zq (SlR.or Fj Rz) he hl hh) (by
 rintro σ H Q ⟨p,i,own,ρ,P,E,t,q⟩;refine⟨p,i,own,ρ,_,E,t,λk d v H1 h A r=>?_⟩;refine⟨p,i,own,ρ,_,E.go A.kp A.pen,h,λo1 H2 h2 A2=>?_⟩;refine⟨p,i,own,ρ,_,(E.go A.kp A.pen).go A2.kp A2.pen,h2,λo2 H3 h3 A3=>?_⟩;have c:=(A.base A2).base A3;have y:=iK (A.base A2) A3.kp (iK A A2.kp r);cases d with
 |list ds =>
  let⟨x,xs,j,o,h1,g⟩:=Rp.bD y;subst j;refine .inl ⟨x,xs,rfl,SqL.of h1,λl hl=>?_⟩;let⟨f,n,w⟩:=c.new hl (.lst (ur xs o1 o2));let⟨C,m,s⟩:=jN c (cJ c f (g.cut o1 o2)) w aq h3;exact q _ _ _ _ m (c.go f n) s
 |tuple ds =>
  let⟨x,xs,j,h1,g⟩:=Rp.eV y;subst j;refine .inr ⟨x,xs,rfl,SqT.of h1,by rw[⇑g];exact h3.1,λl hl=>?_⟩;let⟨f,n,w⟩:=c.new hl (.tup (ur xs o1 o2));exact q _ _ _ _ h3.2 (c.go f n) (aX (.tup aq (cJ c f (g.cut o1 o2))))
 |_=>exact h3.elim)
end
variable [Gr]
abbrev IM:=List (Int×D)
def kvD(m:IM):List (D×D):=m.map λp=>(Â p.1,p.2)
def d9(m:IM)(k:Int):Bool:=m.any λp=>decide (p.1=k)
def mX(m:IM)(k:Int):Option D:=(m.find? λp=>decide (p.1=k)).map (·.2)
def iM(m:IM)(k:Int)(d:D):IM:=if d9 m k=true then m.map (λp=>if p.1=k then(p.1,d)else p)else m++[(k,d)]
def tR(m:IM):Bool:=m.all λp=>cM p.2
def K8{k:Key}{i:Int}(h:kD k=.int i):k=.inl i:=by
 cases k with
 |inl j=>cases h;rfl
 |inr x=>cases h
theorem Rkv.kv:∀{ok:Addr->Prop}{H:Hp}{a:List (Key×V)}{m:IM},Rkv ok H a (kvD m)->∃vs:List V,a=(m.map (·.1)).zipWith (λi v=>(ú i,v)) vs/\Rps ok H vs (m.map (·.2))
 |_,_,_,[],h=>by cases h;exact⟨[],rfl,.nil⟩
 |_,_,_,p::m,h=>by
  unfold kvD at h;rw[ò]at h;generalize hk:Â p.1=kk at h;cases h with
  |cons h t =>
   rename_i k v b;let⟨vs,rfl,r⟩:=Rkv.kv (m:=m) t;have e:=K8 hk.symm;subst e;exact⟨v::vs,rfl,.cons h r⟩
theorem xQ:∀{m:IM}{vs:List V} (k:Int),⇑vs=⇑m->(((m.map (·.1)).zipWith (λi v=>((ú i:Key),v)) vs).any λkv=>decide (kv.1=ú k))=d9 m k
 |[],[],_,_=>rfl
 |p::m,v::vs,k,h=>by
  have a:=xQ (m:=m) (vs:=vs) k (by simpa using h);have e:decide ((ú p.1:Key)=ú k)=decide (p.1=k):=by
   by_cases c:p.1=k <;> simp[c]
  show(decide ((ú p.1:Key)=ú k) || _)=(decide (p.1=k) || _)
  rw[e];exact et _ a
 |[],_::_,_,h=>by cases h
 |_::_,[],_,h=>by cases h
def Jj{a:List (Key×V)}{k:Key}:(fC a k).isSome=a.any λkv=>decide (kv.1=k):=by
 induction a with
 |nil=>rfl
 |cons p r ih =>
  unfold fC at ih ⊢;rw[Ĭ,List.any_cons];cases h:decide (p.1=k)with
  |true=>rfl
  |false=>exact ih
theorem Gg:∀{ok:Addr->Prop}{H:Hp}{m:IM}{vs:List V}{k:Int}{d:D},Rps ok H vs (m.map (·.2))->mX m k=some d->∃v,fC ((m.map (·.1)).zipWith (λi v=>((ú i:Key),v)) vs) (ú k)=some v/\Rp ok H v d
 |_,_,[],_,_,_,_,h=>by cases h
 |_,_,p::m,_,k,d,.cons r t,h=>by
  unfold mX at h;rw[Ĭ]at h;by_cases c:p.1=k
  ·rw[decide_eq_true c]at h;cases h;refine⟨_,?_,r⟩;show fC ((ú p.1,_)::_) (ú k)=_;rw[fW (by rw[c])]
  ·rw[eg c]at h;let⟨v,e,a⟩:=Gg (m:=m) (k:=k) (d:=d) t h;refine⟨v,?_,a⟩;show fC ((ú p.1,_)::_) (ú k)=_;unfold fC at e ⊢;rw[Ĭ,eg (λz=>c (Sum.inl.inj z))];exact e
def O8:∀{m:IM}{vs:List V}{k:Int}{v:V}{ok:Addr->Prop}{H:Hp}{d:D},Rps ok H vs (m.map (·.2))->Rp ok H v d->Rkv ok H (putK ((m.map (·.1)).zipWith (λi v=>((ú i:Key),v)) vs) (ú k) v) (kvD (iM m k d)):=by
 intro m vs k v ok H d g o;have hl:⇑vs=⇑m:=by rw[⇑g,Ä]
 have j:∀{m:IM}{vs:List V},Rps ok H vs (m.map (·.2))->Rkv ok H ((m.map (·.1)).zipWith (λi v=>((ú i:Key),v)) vs) (kvD m):=by
  intro m;induction m with
  |nil=>intro vs r;cases r;exact .nil
  |cons p m e =>
   intro vs r;cases r with
   |cons h t=>exact .cons (k:=ú p.1) h (e t)
 unfold putK iM;rw[xQ k hl];by_cases c:d9 m k=true
 ·rw[el c,el c];clear c hl;induction m generalizing vs with
  |nil=>cases g;exact .nil
  |cons p m e =>
   cases g with
   |cons h t =>
    have:=e t;by_cases f:p.1=k
    ·have n:(ú p.1:Key)=ú k:=by rw[f]
     show Rkv ok H ((if(ú p.1:Key)=ú k then((ú p.1:Key),v)else(ú p.1,_))::_) (kvD ((if p.1=k then(p.1,d)else p)::_));rw[el n,el f];exact .cons (k:=ú p.1) o this
    ·have n:¬((ú p.1:Key)=ú k):=λz=>f (Sum.inl.inj z);show Rkv ok H ((if(ú p.1:Key)=ú k then((ú p.1:Key),v)else(ú p.1,_))::_) (kvD ((if p.1=k then(p.1,d)else p)::_));rw[em n,em f];exact .cons (k:=ú p.1) h this
 ·rw[em c,em c];have l:∀{a b:List (Key×V)}{x y:List (D×D)},Rkv ok H a x->Rkv ok H b y->Rkv ok H (a++b) (x++y):=by
   intro a b x y h1 h2;induction a generalizing x with
   |nil=>cases h1;exact h2
   |cons p a e=>cases h1 with|cons h t=>exact .cons h (e t)
  unfold kvD;rw[ì];exact l (j g) (.cons (k:=ú k) o .nil)
section
variable{X:Cx}{pos pos' p2:Pos}{a b e:Zt}{ta tb te tj tm:DE}{st st2:ZF}{rest:List ZF}{ti:DI}{g:DG}{t:DS}
def tD1(ta tb:DE):DE:=λρ P=>ta ρ λ_ d1=>tb ρ λk2 d2=>match d1 with
 |.int i=>(norm k2 d2).le .new=true/\P .new (.dict (kvD [(i,d2)]))
 |_=>False
theorem sG(ha:PD X a ta)(hb:PD X b tb):PD X (.Dict [some a] [b] pos) (tD1 ta tb):=PE.wk (FN (zm ha hb FJ) rfl rfl (by intro z;cases z) (by show 1<=15;decide)) (by
 rintro σ H Q ⟨p,f,own,ρ,P,E,t,q⟩;intro c hc;have d:=E.at;let⟨r,m,v⟩:=d.new hc (.dK []);have l:=d.nfb hc;refine⟨p,f,own,ρ,_,E.go r m,t,λk1 d1 v1 H1 t1 A1 r1=>?_⟩;refine⟨p,f,own,ρ,_,(E.go r m).go A1.kp A1.pen,t1,λk2 d2 v2 H2 t2 A2 r2=>?_⟩;have h1:H1 c=some (.dK []):=A1.kp c _ aq l;have h2:H2 c=some (.dK []):=A2.kp c _ h1 l;refine⟨h2,?_⟩;cases d1 with
 |int i =>
  have s:=Rp.int' r1;subst s;refine⟨[(ú i,v2)],rfl,(by show 1<=15;decide),?_⟩;show Q (.ref c) (upd H2 c (.dK [(ú i,v2)]));have K:Kp p H (upd H2 c (.dK [(ú i,v2)])):=λx o ex nx=>by
   rw[aj (ao ex hc)];exact A2.kp x o (A1.kp x o (by rw[aj (ao ex hc)];exact ex) nx) nx
  have h:p.PI (upd H2 c (.dK [(ú i,v2)])):=p.mono H2 _ A2.pen λx o fx ex=>by
   rw[aj (λz:x=c=>fx.elim (λfx=>l (by rw[←z];exact fx)) λ⟨_,_,y⟩=>by rw[z,h2,y]at ex;cases ex)];exact ex
  refine q _ _ _ _ t2.2 ⟨d.k0,K,d.penb,h,d.ow⟩ (.dct v aq (.cons (k:=ú i) ?_ .nil));have w:Rp (okK p f own H1 .new) H2 v2 d2:=iJ A2 t2.1 (aX r2);refine w.bN (λx o n ex=>⟨?_,?_⟩) λx xs ex=>?_
  ·have n:H1 x=none:=n;cases j:H x with
   |none=>exact j
   |some u =>
    have:=A1.kp x u (by rw[aj (ao j hc)];exact j) (A2.nfb n);rw[n]at this;cases this
  ·have n:H1 x=none:=n;rw[aj (λz=>by rw[z,h1]at n;cases n)];exact ex
  ·rw[aj (λz=>by rw[z,h2]at ex;cases ex)];exact ex
 |_=>exact t2.elim)
def P0(neg:Bool):G2:=λ_ d1 _ d2 P=>match d1,d2 with
 |.int k,.dict ds=>∃m:IM,ds=kvD m/\P .imm (.bool (if neg then !(d9 m k)else d9 m k))
 |_,_=>False
def Rp.HY{ok:Addr->Prop}{H:Hp}{v:V}{ds:List (D×D)}(r:Rp ok H v (.dict ds)):∃a kvs,v=.ref a/\ok a/\H a=some (.dK kvs)/\Rkv ok H kvs ds:=by
 cases r with
 |dct o h r=>exact⟨_,_,rfl,o,h,r⟩
def Ac:∀σ H Q,aU (t2 (P0 true) ta tb) σ H Q->Ey (aU ta) (aU tb) σ H Q:=by
 rintro σ H Q ⟨p,d,own,ρ,P,E,t,q⟩;refine⟨p,d,own,ρ,_,E,t,λk1 d1 v1 H1 t1 A1 r1=>?_⟩;refine⟨p,d,own,ρ,_,E.go A1.kp A1.pen,t1,λk2 d2 v2 H2 t2 A2 r2=>?_⟩;have A:=A1.base A2;unfold P0 at t2;split at t2
 ·rename_i k ds;let⟨m,rfl,t2⟩:=t2;have f:=Rp.int' r1;subst f;let⟨c,h,rfl,o,hc,i⟩:=Rp.HY r2;let⟨vs,rfl,j⟩:=i.kv;refine⟨c,_,rfl,pR.k (k:=ú k) hc,?_⟩;rw[Jj,xQ k (by rw[⇑j,Ä])];exact q _ _ _ _ t2 A (.bl _)
 ·exact t2.elim
def hu1(hu:X.A.units+64<Yb):X.A.units+1<Yb:=()
def eX(hu:X.A.units+64<Yb)(ha:PD X a ta)(hb:PD X b tb)(hm:ZJ .NotIn b=false:=by rfl):PDT X (.Compare a [.NotIn] [b] pos) (cH (t2 (P0 true) ta tb)):=PT.wk (RX (Hg (hu1 hu) ha hb) hm) λσ H Q q=>Ac σ H _ (by
 let⟨p,c,own,ρ,P,E,t,q⟩:=q;refine⟨p,c,own,ρ,_,E,t,λk d v H' h A r=>?_⟩;cases d with
 |bool b=>exact⟨b,Rp.bl' r,q b H' h A⟩
 |_=>exact h.elim)
def Ln:G2:=λk1 d1 _ d2 P=>match d1,d2 with
 |.dict ds,.int k=>∃(m:IM)(d:D),ds=kvD m/\mX m k=some d/\P (norm k1 d) d
 |_,_=>False
def qR(hu:X.A.units+64<Yb)(ha:PD X a ta)(hb:PD X b tb)(hs:Iz b:=by exact λ_ _=>rfl):PD X (.Subscript a b pos) (t2 Ln ta tb):=PE.wk (FP (hu1 hu) ha hb hs) (by
 rintro σ H Q ⟨p,f,own,ρ,P,E,t,q⟩;refine⟨p,f,own,ρ,_,E,t,λk1 d1 v1 H1 t1 A1 r1=>?_⟩;refine⟨p,f,own,ρ,_,E.go A1.kp A1.pen,t1,λk2 d2 v2 H2 t2 A2 r2=>?_⟩;have A:=A1.base A2;unfold Ln at t2;split at t2
 ·rename_i ds k;let⟨m,d,rfl,hg,t2⟩:=t2;have h:=Rp.int' r2;subst h;let⟨c,j,rfl,o,hc,l⟩:=Rp.HY (iK A1 A2.kp r1);let⟨vs,rfl,n⟩:=l.kv;let⟨v,i,r⟩:=Gg n hg;refine⟨c,v,rfl,?_,q _ _ _ _ t2 A (aX r)⟩;rw[←i];exact pR.k (k:=ú k) hc
 ·exact t2.elim)
def Mr(i:Nat)(tk c:DE):DS:=λP ρ=>match ρ[i]? with
 |some (.dw r (.dict ds))=>c ρ λ_ dv=>tk ρ λ_ dk=>match dk with
  |.int k=>∃m:IM,ds=kvD m/\cM dv=true/\tR m=true/\⇑m<1000/\P.nx ((forget r ρ).set i (.dw r (.dict (kvD (iM m k dv)))))
  |_=>False
 |_=>False
theorem Ae{ok:Addr->Prop}{H:Hp}:∀{m:IM}{vs:List V},tR m=true->Rps ok H vs (m.map (·.2))->Rps (λ_=>False) H vs (m.map (·.2))
 |[],_,_,.nil=>.nil
 |p::m,_,h,.cons r t=>by
  unfold tR at h;rw[List.all_cons,Ì]at h;exact .cons (r.imm h.1) (Ae (m:=m) h.2 t)
def qZ{i:Nat}{tk C:DE}(h:PS X st (Qt (nU i) (aU tk) (aU C))):PDS X st (Mr i tk C):=PS.wk' h (by
 rintro Q σ H ⟨p,u,own,ρ,P,E,t,w⟩;unfold Mr at t;split at t
 ·rename_i r ds hr;let⟨v,hv,_⟩:=E.slot i _ hr;refine⟨p,u,own,ρ,_,E,t,λkv dv vv H1 t1 A1 r1=>?_⟩;have n:=E.go A1.kp A1.pen;refine⟨v,hv,p,u,own,ρ,_,n,t1,λkk dk vk H2 t2 A2 r2=>?_⟩;have q:=n.go A2.kp A2.pen;cases dk with
  |int k =>
   let⟨m,rfl,im,imm,y,K⟩:=t2;let⟨N,d,x⟩:=q.slot i _ hr;rw[hv]at d;cases d;let⟨l,I,rfl,o,hl,L⟩:=Rp.HY x;let⟨vs,rfl,B⟩:=L.kv;have F:=Rp.int' r2;subst F;have G:=ü;have f:=Ae imm B;have j:Rp (λ_=>False) H2 vv dv:=(iK A1 A2.kp r1).imm im;have J:⇑((m.map (·.1)).zipWith (λi v=>((ú i:Key),v)) vs)=⇑m:=by
    rw[List.length_zipWith,Ä,⇑B,Ä,Nat.min_self]
   refine⟨l,_,rfl,M8.k (k:=ú k) hl (by rw[J];lia),?_⟩;have A:=O8 (k:=k) f j;generalize putK ((m.map (·.1)).zipWith (λi v=>((ú i:Key),v)) vs) (ú k) vv=c at A;have M:∀a xs,H2 a=some (.tup xs)->upd H2 l (.dK c) a=some (.tup xs):=λa xs e=>by
    rw[aj (λz=>by rw[z,hl]at e;cases e)];exact e
   have D:=(q.write (o':=.dK c) o hl λxs z=>nomatch z).put (v:=.ref l) (i:=i) (s:=.dw r (.dict (kvD (iM m k dv)))) ⟨_,hv,.dct o aq (A.mono (λ_ o=>o.elim) (λ_ _ o=>o.elim) M)⟩;exact w.nx _ σ _ _ D ((A1.frs.trans A2.frs).trans (jE o hl λxs z=>nomatch z)) K
  |_=>exact t2.elim
 ·exact t.elim)
def Ux(te:DE):DT:=λρ P=>te ρ λ_ d=>match d with
 |.list ds=>P (!ds.isEmpty)
 |.tuple ds=>P (!ds.isEmpty)
 |.bool b=>P b
 |_=>False
def Mf{ok:Addr->Prop}{H:Hp}{vs:List V}{ds:List D}(r:Rps ok H vs ds):(!vs.isEmpty)=!ds.isEmpty:=by
 cases r <;> rfl
def qM(h:PD X e te)(he:∀whole,ZE e X.env whole=(do let v ←whole;standAt e.pos;holding [v] (ZM v)):=by intro _;rfl):PDT X e (Ux te):=PT.wk (JN h he) (by
 rintro σ H Q ⟨p,i,own,ρ,P,E,t,q⟩;refine⟨p,i,own,ρ,_,E,t,λk d v H' h A r=>?_⟩;cases d with
 |list ds =>
  let⟨c,vs,rfl,o,hc,f⟩:=Rp.bD r;exact⟨_,.inl ⟨vs,SqL.of hc,rfl⟩,by rw[Mf f];exact q _ _ h A⟩
 |tuple ds =>
  let⟨c,vs,rfl,hc,f⟩:=Rp.eV r;exact⟨_,.inr (.inl ⟨vs,SqT.of hc,rfl⟩),by rw[Mf f];exact q _ _ h A⟩
 |bool b =>
  have e:=Rp.bl' r;subst e;exact⟨b,rfl,q _ _ h A⟩
 |_=>exact h.elim)
end
variable [Gr]
section
variable{X:Cx}{te te1 te2 tj tm:DE}{st st2:ZF}{rest:List ZF}{t:DS}
end
variable [Gr]
section
variable{X:Cx}{te tj:DE}{st:ZF}{t:DS}
end
end Dl
namespace L2
open PySem PySem.Spec PyProof.Rows
def Ql(K:á)(a:Addr):It :=
 ⟨λi H=>∃xs x,SqL K H a xs/\xs[i]?=some x,λi H x H'=>∃t v,x=.ref t/\H t=none/\H'=upd H t (.tup [.int i,v])/\∀xs,SqL K H a xs->xs[i]?=some v,λi H=>∃xs,SqL K H a xs/\⇑xs<=i⟩
def Bx{P:Za}{w:Zb}{K:á}{elts:List Zt}{kk:Nat}{pos:Pos}(a e it:Addr)(hei:e≠it) :
  Turn P w K (.Tuple elts kk pos) (Ql K a) [e,it] e (λi h=>(∃old,IsEnum h e it i old)/\h.IsListIter it a i) where
 mem:=by simp
 obj:=λi h st b hb=>by
  let⟨⟨old,he⟩,o,ho,hc,hd⟩:=st;rcases Û.mp hb with rfl|hb
  ·exact⟨_,he,λv z=>nomatch z⟩
  ·have e1:b=it:=by simpa using hb
   subst e1;exact⟨o,ho,λv z=>by rw[hd]at z;cases z⟩
 keep:=λi h h' st k=>by
  let⟨⟨old,he⟩,o,ho,r⟩:=st;exact⟨⟨old,k e (by simp) _ he⟩,o,k it (by simp) _ ho,r⟩
 item:=by
  intro X hP hw hK hc i pins s σ H E I hf st hg;subst hP hw hK;let⟨xs,x,hq,hx⟩:=hg;let⟨its,rv,p,hz⟩:=I.list hq;let⟨u,hu,ru⟩:=rv.get hx;let⟨⟨old,he⟩,hit⟩:=st;have hai:a≠it:=λz=>by
   let⟨o,_,ho,hc1,_⟩:=p;let⟨o',ho',hc2,_⟩:=hit;rw[z,ho']at ho;cases ho;rw[hc2]at hc1;injection hc1 with z2;exact er z2 ∅
  have hae:e≠a:=λz=>by
   let⟨o,_,ho,hc1,_⟩:=p;have he':s.heap.get? e=some _:=he;rw[z,ho]at he';cases he';have z1:Ă "enumerate"=Ă "list":=hc1;injection z1 with z2;exact er z2 ∅
  have hlt:i<its.toArray.size:=by have:=(Æ.mp hu).1;simpa using this
  let⟨e0,e1,e2,e3,e4,e5⟩:=hf e (by simp);let⟨f0,f1,f2,f3,f4,f5⟩:=hf it (by simp);have D:=Draws.list (prog:=X.prog) (w:=X.w) (A:=X.A.in1) (I.ok.hd hc) it a hai its.toArray;refine XX D he ⟨hit,p.isList⟩ hlt hei (by simp[hei,hae]) λx' h' tk hP ho hs' hT hsz hk=>⟨_,rfl,?_⟩
  have ex:x'=u:=by
   have hP':its[i]?=some x':=by simpa using hP
   rw[hu]at hP';exact(Ô hP').symm
  subst ex;refine XY ho λh2 he2 hs2=>?_;have hTn:H ↥s=none:=I.hok.fresh (Õ _);have keep2:∀b o,b≠e->b≠it->s.heap.get? b=some o->h2.get? b=some o:=λb o hb1 hb2 q=>(hs2.2 b hb1).trans (hk b o hb1 hb2 q);have hTe:↥s≠e:=Ĺ (Ï he);have hTup:h2.get? ↥s=some { cls:=.type "tuple",data:=.seq #[.int i tk,x']}:=(hs2.2 _ hTe).trans hT;have J:Inv X pins σ (upd H ↥s (.tup [.int i,x])) { s with heap:=h2,toks:=tk+1 }:=by
   refine I.step (g':=s.gens) (d':=s.drawn) (t':=tk+1) (ch:=[e,it]) (λb hb=>?_) (λb o _ _ hcb q _=>keep2 b o (λz=>hcb (by simp[z])) (λz=>hcb (by simp[z])) q)
    (λb o _ _ hcb q _=>⟨o.slots,keep2 b o (λz=>hcb (by simp[z])) (λz=>hcb (by simp[z])) q⟩) (λb o _ q n=>by rw[aj (é (Ï q))];exact n)
    (λb o hcb q=>⟨o,keep2 b o (λz=>hcb (by simp[z])) (λz=>hcb (by simp[z])) q⟩) (λb ys q=>by rw[aj (ao q hTn)];exact q) (λb o y q=>by rw[aj (ao q hTn)];exact q)
    (λb ps q=>⟨#[],by rw[aj (ao q hTn),q];simp⟩) (λm hm=>?_) ?_ I.bare
   ·rcases Û.mp hb with rfl|hb
    ·exact⟨e3,e1,e4,e5⟩
    ·have z:b=it:=by simpa using hb
     subst z;exact⟨f3,f1,f4,f5⟩
   ·let⟨o,es,ep,ho',r⟩:=hm;exact⟨o,es,ep,keep2 _ o (ĝ e1) (ĝ f1) ho',r⟩
   ·intro b u' q;have nT:∀{c y},H c=some y->c≠e/\c≠it:=λ{c y} z=>⟨λv=>(by rw[v,e0]at z;exact nomatch z),λv=>(by rw[v,f0]at z;exact nomatch z)⟩
    by_cases hb:b=↥s
    ·subst hb;rw[aq]at q;cases q;exact⟨(by show 2<=sizeLine;decide),[.int i tk,x'],.cons ⟨_,rfl⟩ (.cons ru .nil),_,hTup,rfl,_,rfl⟩
    ·rw[aj hb]at q;refine(I.hok b u' q).stay (λc v hcv y=>keep2 c v ?_ ?_ y) (λc y=>by rw[aj (ao y hTn)];exact y) λc ys y=>by rw[aj (ao y hTn)];exact y
     ·rcases hcv with rfl|z
      ·exact(nT q).1
      ·exact(nT z).1
     ·rcases hcv with rfl|z
      ·exact(nT q).2
      ·exact(nT z).2
  refine⟨.ref ↥s,_,J,rfl,⟨_,x,rfl,hTn,rfl,λys hy=>by rw[I.mL hy hq];exact hx⟩,⟨⟨x',?_⟩,?_⟩,λb hb=>?_⟩
  ·have he3:IsEnum h2 e it ((i:Int)+1) x':=by simpa using he2
   have ec:((i+1:Nat):Int)=(i:Int)+1:=()
   rw[ec];exact he3
  ·let⟨o,ho2,r⟩:=hs'.1;exact⟨o,(hs2.2 it (ĝ hei)).trans ho2,r⟩
  ·rw[aj]
   ·exact(hf b hb).1
   ·rcases Û.mp hb with rfl|hb
    ·exact ĝ hTe
    ·have z:b=it:=by simpa using hb
     subst z;let⟨o,ho2,_⟩:=hit;exact é (Ï ho2)
 done:=by
  intro X hP hw hK hc i pins s σ H E I hf st hg;subst hP hw hK;let⟨xs,hq,hx⟩:=hg;let⟨its,rv,p,hz⟩:=I.list hq;let⟨⟨old,he⟩,hit⟩:=st;let⟨f0,f1,f2,f3,f4,f5⟩:=hf it (by simp);have hl:=⇑rv;have hT:s.TypeIs (.ref e) "enumerate":=⟨_,he,rfl⟩
  unfold ZY;refine Å (XZ (ļ (name:=ū "__next__") hT ĺ
   (ĳ ĺ hT PySem.F.entry_enumerate_next ?_ (PySem.F.args_enumerate_next_1 _))))
  show wpAny _ _ (XT (.ref e) 2 >>=_) _ _ _;refine Å (Ť he rfl (x:=.ref it) rfl ?_);refine Å (Wl (I.ok.hd hc) hit p.isList (by simp;lia) λh' x he' hx'=>?_);let⟨o,ho,hc'⟩:=hx';refine Å (X0 (T:="StopIteration") (b:=true) ⟨o,ho,hc'⟩ X1 ?_);exact Ø ⟨rfl,I.turned (t':=s.toks) (λb o hb e=>he' b o hb e) f0 f1 f3 f4 f5⟩
 self:=λA i s Q E st h=>by
  let⟨⟨old,he⟩,_⟩:=st;have hT:s.TypeIs (.ref e) "enumerate":=⟨_,he,rfl⟩
  refine X2 hT Ű (ĳ Ű hT PySem.F.entry_enumerate_iter ?_ (PySem.F.args_enumerate_iter_1 _));show wpAny _ _ (ret (.ref e)) _ _ s;exact Ø ⟨_,rfl,"enumerate",_,hT,ĺ.lookup,h⟩
def T4(K:á)(b:TA):TI:=λσ H R=>b σ H λvs H1=>∃a,vs=[.ref a]/\(∃xs,SqL K H1 a xs)/\R (Ql K a) H1
def JZ{X:Cx}{elts:List Zt}{kk:Nat}{f:Pos}{a:Zt}{g:TA}{p pos:Pos}(hg:Gl X "enumerate")(hm:X.mg "enumerate"=none)(ha:PA X [a] g)(hs:Zu [a] X.env=[(false,Zv a X.env)]:=by rfl):PI X (.Tuple elts kk f) (.Call (.Name "enumerate" p) [a] [] pos) (T4 X.K g):=by
 intro d s σ H R I h;refine Z5 (dU I hg hm boot_enumerate (Ā (thn (ha pos d s σ H _ I h) λus s1 ⟨vs,H1,I1,r1,q1⟩=>?_) hs rfl));let⟨b,e,⟨xs,k⟩,q⟩:=q1;subst e;let⟨u,rfl,m⟩:=vals1 r1;cases m;let⟨its,o,l,n⟩:=I1.list k;refine call_enumerate_list l.isList λh' he hit hsz hk=>?_;have j:Inv X d σ H1 { s1 with heap:=h' }:=I1.kept (t':=s1.toks) hk;have T:Turn X.prog X.w X.K (.Tuple elts kk f) (Ql X.K b) [↥s1+1,↥s1] (↥s1+1) (λi h=>(∃old,IsEnum h (↥s1+1) ↥s1 i old)/\h.IsListIter ↥s1 b i):=Bx b _ _ (Ĺ (ŀ _));refine T.self _ 0 _ _ _ ⟨⟨_,he⟩,hit⟩ ⟨_,_,_,_,H1,rfl,j,T,⟨⟨_,he⟩,hit⟩,λc hc=>?_,q⟩;rcases Û.mp hc with rfl|hc
 ·exact I1.Ak (Ņ _) (I1.hok.fresh (Ņ _))
 ·have z:c=↥s1:=by simpa using hc
  subst z;exact I1.Ak (Õ _) (I1.hok.fresh (Õ _))
end L2
namespace Dl
open PySem L2 PyProof.Rows
variable [Gr]
section
variable{X:Cx}{tg:Zt}{pos:Pos}{ta:DA}
def Bs{K:á}{ok:Addr->Prop}{a:Addr}{ds:List D}:Wlk (λH=>Rp ok H (.ref a) (.list ds)) (Ql K a) (nC ds) ok where
 go:=λi H r hi=>by
  let⟨b,vs,e,_,h,rs⟩:=r.bD;cases e;have:i<⇑vs:=by rw[⇑rs];rw[dz]at hi;exact hi
  exact⟨vs,vs[i],SqL.of h,by simp[this]⟩
 stop:=λH r=>by
  let⟨b,vs,e,_,h,rs⟩:=r.bD;cases e;exact⟨vs,SqL.of h,by rw[⇑rs,dz];exact Õ _⟩
 yld:=λi H x H' r y=>by
  let⟨t,v,rfl,ht,rfl,y⟩:=y;have sm:Same H (upd H t (.tup [.int i,v])):=λb u q=>by rw[aj (ao q ht)];exact q
  refine⟨sm,λd hd=>?_⟩;let⟨b,vs,e,_,h,rs⟩:=r.bD;cases e;rw[eG]at hd;cases he:ds[i]? with
  |none=>rw[he]at hd;cases hd
  |some d0 =>
   rw[he]at hd;have e:=Ô hd;subst e;let⟨v',hv,rv⟩:=rs.getD he;have:=y vs (SqL.of h);rw[hv]at this;cases this;exact .tup aq (.cons (.int _) (.cons (rv.mono (λ_ o=>o) (λa o _ e=>sm a o e) λa xs e=>sm a _ e) .nil))
 stab:=λH H' r f t=>r.bN (λa o n e=>⟨n,f a o n e⟩) t
def Wh(ta:DA):DI:=λρ P=>ta ρ λks=>match ks with
 |[(k,.list ds)]=>P k (nC ds)
 |_=>False
def ug{elts:List Zt}{kk:Nat}{b:Pos}{a:Zt}{ps:Pos}(hm:X.mg "enumerate"=none)(ha:PDA X [a] ta)(hg:Gl X "enumerate":=by rfl)(hs:Zu [a] X.env=[(false,Zv a X.env)]:=by rfl):PDI X (.Tuple elts kk b) (.Call (.Name "enumerate" ps) [a] [] pos) (Wh ta):=PI.wk (JZ hg hm ha hs) (by
 rintro σ H R ⟨p,d,own,ρ,P,E,t,q⟩;refine⟨p,d,own,ρ,_,E,t,λks vs H1 h A r=>?_⟩;split at h
 ·rename_i k ds;let⟨v,rfl,c⟩:=dh r;let⟨a,vs,e,_,ha,f⟩:=Rp.bD c;subst e;exact⟨a,rfl,⟨vs,SqL.of ha⟩,q k _ _ H1 _ h A Bs (rpA c)⟩
 ·exact h.elim)
end
section
variable{X:Cx}
def Ii(hc:X.calm=true):bC X (.builtin "min") (λxs H Q=>∃(p:Addr)(ns:List Int),xs=[.ref p]/\SqL X.K H p (ns.map V.int)/\ns≠[]/\∀M,M∈ns->(∀a∈ns,M<=a)->Q (.int M) H):=by
 intro i s σ H xs us Q I r h;let⟨p,ns,rfl,hp,g,q⟩:=h;let⟨u,rfl,n⟩:=vals1 r;cases n;let⟨its,m,l,w⟩:=I.list hp;have hi:IntsAre its ns:=intsAre_of m;let⟨f,e⟩:=hi.allInts.items;have c:ns=f.toList.map (·.1):=by rw[←hi.numsOf,←VA,←e]
 have hsz:0<f.size:=by
  have d:=List.length_pos_iff.mpr g;rw[c,Ä,đ]at d;exact d
 have hl:=l.isList;rw[e]at hl;refine min_intList (I.ok.hd hc) hl hsz λv h' tk hv hk=>?_;let⟨t,rfl⟩:=YQ hv;let⟨h1,h2⟩:=argBest_lt (YO f) (f.size - 1);refine⟨.int _,H,I.kept λb o eb=>hk b o eb,⟨_,rfl⟩,q _ ?_ λa ha=>?_⟩
 ·rw[c,VC];refine getD_mem ?_;rw[Ä,đ];lia
 ·rw[c]at ha;let⟨j,k,rfl⟩:=mem_getD ha;rw[Ä,đ]at k;have d:=h2 j ();rw[←VC];exact d
def Ik(hc:X.calm=true):bC X (.builtin "max") (λxs H Q=>∃(p:Addr)(ns:List Int),xs=[.ref p]/\SqL X.K H p (ns.map V.int)/\ns≠[]/\∀M,M∈ns->(∀a∈ns,a<=M)->Q (.int M) H):=by
 intro i s σ H xs us Q I r h;let⟨p,ns,rfl,hp,g,q⟩:=h;let⟨u,rfl,n⟩:=vals1 r;cases n;let⟨its,m,l,w⟩:=I.list hp;have hi:IntsAre its ns:=intsAre_of m;let⟨f,e⟩:=hi.allInts.items;have c:ns=f.toList.map (·.1):=by rw[←hi.numsOf,←VA,←e]
 have hsz:0<f.size:=by
  have d:=List.length_pos_iff.mpr g;rw[c,Ä,đ]at d;exact d
 have hl:=l.isList;rw[e]at hl;refine max_intList (I.ok.hd hc) hl hsz λv h' tk hv hk=>?_;let⟨t,rfl⟩:=YQ hv;let⟨h1,h2⟩:=argBest_gt (YO f) (f.size - 1);refine⟨.int _,H,I.kept λb o eb=>hk b o eb,⟨_,rfl⟩,q _ ?_ λa ha=>?_⟩
 ·rw[c,VC];refine getD_mem ?_;rw[Ä,đ];lia
 ·rw[c]at ha;let⟨j,k,rfl⟩:=mem_getD ha;rw[Ä,đ]at k;have d:=h2 j ();rw[←VC];exact d
def Ie(hc:X.calm=true):bC X (.builtin "sum") (λxs H Q=>∃(p:Addr)(ns:List Int),xs=[.ref p]/\SqT X.K H p (ns.map V.int)/\⇑ns<=1000/\(∀x∈ns,-1000000<=x/\x<=1000000)/\Q (.int ns.sum) H):=by
 intro l s σ H xs us Q I r h;let⟨p,ns,rfl,hp,hl,hs,q⟩:=h;let⟨u,rfl,y⟩:=vals1 r;cases y;let⟨its,m,g,z⟩:=I.tuple hp;have a:⇑its=⇑ns:=by have:=⇑m;rw[Ä]at this;exact this.symm
 have c:p<↥s:=by let⟨o,n,_⟩:=g;exact Ï n
 have f:∀i v,its[i]?=some v->∃t,v=Ň (ns.getD i 0) t:=λi v e=>by
  have hi:i<⇑its:=(Æ.mp e).1;have hv:(ns.map V.int)[i]?=some (V.int ns[i]):=by rw[à,Ë (show i<⇑ns by lia)];rfl
  let⟨u,k,w⟩:=m.get hv;rw[e]at k;cases k;let⟨t,rfl⟩:=w;exact⟨t,by rw[ö,Ë (show i<⇑ns by lia)];rfl⟩
 refine WZ (ś g ?_);refine⟨_,_,_,_,_,_,λi=>ns.getD i 0,rfl,Walks.tuple (A:=X.A.in1) (I.ok.hd hc) _ p (é c) _,⟨⟨_,â _ rfl,rfl,rfl⟩,g.push _⟩,?_,λi v e=>f i v (by simpa using e),λj d=>?_,λh' tk t' hk=>?_⟩
 ·intro b hb;show b<(s.heap.push _).objs.size;rw[ķ];simp at hb;rcases hb with rfl|rfl
  ·exact ŀ _
  ·exact Ĉ c
 ·have d:j<⇑ns:=by simpa[a]using d
  have e:ns.getD j 0=ns[j]:=by rw[ö,Ë d];rfl
  have b1:=hs _ (į d);have b2:=nW (ns.take (j+1)) 1000000 λx hx=>hs x (Ń hx);have b3:⇑(ns.take (j+1))<=1000:=by rw[ć];lia
  rw[lO ns (j+1) d];refine⟨?_,?_⟩
  ·show -(2 ^ 63)<=ns.getD j 0/\ns.getD j 0<2 ^ 63;rw[e];lia
  ·show -(2 ^ 63)<=(ns.take (j+1)).sum/\(ns.take (j+1)).sum<2 ^ 63;lia
 ·have e:PySem.preSum (λi=>ns.getD i 0) its.toArray.size=ns.sum:=by
   rw[Ù,a,lO ns ⇑ns (Õ _),ğ]
  rw[e];refine⟨.int ns.sum,H,I.kept λb o eb=>hk b o ?_ (Ò _ eb),⟨_,rfl⟩,q⟩;intro hm;have:b=↥s:=by simpa using hm
  exact er (this ▸ Ï eb) (Ą _)
section
variable{prog:Za}{w:Zb}{A:Zr}{E:eB}
theorem Aq{it l:Addr}{items:Array Value}(b:l≠it):∀(n i:Nat)(s:Shared)(Q:List Value->Shared->Prop),s.heap.IsListIter it l i->s.heap.IsList l items->i+n<=items.size ->
  (∀h',h'.IsListIter it l (i+n)->Heap.SameBut it s.heap h'->Q ((items.toList.drop i).take n) { s with heap:=h' })->wpAny (model prog w) A (draw (.ref it) n) Q E s
 |0,i,s,Q,hit,_,_,hQ=>by
  show wpAny _ _ (pure []) Q E s;exact Ø (by simpa using hQ s.heap hit (Heap.SameBut.refl ..))
 |n+1,i,s,Q,hit,hl,hle,hQ=>by
  have a:i<items.size:=()
  show wpAny _ _ (ZY (.ref it) >>=_) Q E s;refine Å (Z3 hit hl (x:=items[i]) (by simp[a]) λh₁ hit₁ hs₁=>?_);refine Å (Ē (Aq b n (i+1) _ _ hit₁ (hl.extBut hs₁.extBut b) () λh₂ hit₂ hs₂=>Ø ?_));have hd:items.toList.drop i=items[i]::items.toList.drop (i+1):=by simp[List.drop_eq_getElem_cons,a]
  have z:=hQ h₂ (by rw[show i+(n+1)=i+1+n by lia];exact hit₂) (hs₁.trans hs₂);rw[hd,List.take_succ_cons]at z;exact z
def qj{s:Shared}{l:Addr}{items:Array Value}{Q:List Value->Shared->Prop}(hh:A.handled=none)(hl:s.heap.IsList l items)(f:∀h',Heap.ExtBut ↥s s.heap h'->Q items.toList { s with heap:=h' }):wpAny (model prog w) A (unpackItems (.ref l) items.size none) Q E s:=by
 have d:l≠↥s:=by let⟨o,g,_⟩:=hl;exact é (Ï g)
 unfold unpackItems;refine Å ?_;unfold notIterableAtAll;refine Å (X6 hl.typeIs slot_list_iter.lookup ?_);refine Ø ?_;simp only[if_false,ī];refine Å (Ē (YK hl ?_));refine Å (Ē (Aq d items.size 0 _ _ ⟨_,â _ rfl,rfl,rfl⟩ (hl.push _) () λh₁ hit₁ hs₁=>?_));have c:List.take items.size (List.drop 0 items.toList)=items.toList:=by rw[List.drop_zero];refine ő ?_;simp
 rw[c,em (by simp)];have a:h₁.IsList l items:=(hl.push _).extBut hs₁.extBut d;refine Å (Ē (Z4 hh hit₁ a (by simp) λh₂ he₂=>?_));simp only[if_false,Option.isSome_none,ī];exact Ø (f h₂ λb o hb e=>he₂ b o hb (hs₁.extBut b o hb (Ò _ e)))
def pL{s:Shared}{env:Env}{elts:List Zt}{x1}{pos:Pos}{l:Addr}{items:Array Value}{Q:Unit->Shared->Prop}(hh:A.handled=none)(hl:s.heap.IsList l items)(hn:⇑(ZR elts env)=items.size)(a:(ZR elts env).findIdx? (·.1)=none)(h:∀h',Heap.ExtBut ↥s s.heap h'->wpAny (model prog w) A (ZQ ((ZR elts env).map (·.2)) items.toList) Q E { s with heap:=h' }) :
  wpAny (model prog w) A (ZP (.Tuple elts x1 pos) env (.ref l)) Q E s:=by
 rw[assign_Tuple];refine Å (ZU ?_);unfold unpack;rw[hn,a];exact Å (Ē (qj hh hl h))
end
section
variable{X:Cx}{pos:Pos}
def Xz(K:á)(n:Nat)(t:TGs):TG:=λv σ H Q=>∃a xs,v=.ref a/\SqL K H a xs/\⇑xs=n/\t xs σ H Q
def Sd{d:List Zt}{k:Nat}{t:TGs}{n:Nat}(hc:X.calm=true)(h:PGs X d t)(hn:⇑(ZR d X.env)=n:=by rfl)(hst:(ZR d X.env).findIdx? (·.1)=none:=by rfl):PG X (.Tuple d k pos) (Xz X.K n t):=by
 intro c s σ H v u Q I r f;let⟨a,xs,j,l,hl,f⟩:=f;subst j;cases r;let⟨its,g,m,p⟩:=I.list l;refine pL (I.ok.hd hc) m.isList (by simp[hn,←hl,⇑g]) hst λh' hx=>?_;have i:Inv X c σ H { s with heap:=h' }:=I.kept (t':=s.toks) λb o e=>hx b o (é (Ï e)) e;exact h c _ σ H xs _ Q i (by simpa using g) f
variable [Gr]
def gTL(n:Nat)(a:DGs):DG:=λk d ρ P=>match d with
 |.list ds=>⇑ds=n/\a k ds ρ P
 |_=>False
def Ef{b:List Zt}{c:DGs}{k n:Nat}(hc:X.calm=true)(h:PGs X b (oX c))(hn:⇑(ZR b X.env)=n:=by rfl)(hst:(ZR b X.env).findIdx? (·.1)=none:=by rfl):PDG X (.Tuple b k pos) (gTL n c):=PG.wk (Sd hc h hn hst) (by
 rintro v σ H Q ⟨p,f,own,ρ,k,d,P,E,r,t,q⟩;cases d with
 |list ds =>
  let⟨a,vs,rfl,_,ha,e⟩:=r.bD;exact⟨a,vs,rfl,SqL.of ha,by rw[⇑e];exact t.1,p,f,own,ρ,k,ds,P,E,e,t.2,q⟩
 |_=>exact t.elim)
end
section
variable{X:Cx}{pos:Pos}{a:Zt}{t:DA} [Gr]
def HN(f:Int->Int->Int)(le:Int->Int->Prop):GC:=λks P=>match ks with
 |[(_,.tuple [.int i,.int j])]=>P .imm (.int (f i j))
 |[(_,.list ds)]=>∃ns:List Int,ds=ns.map Â/\ns≠[]/\∀M,M∈ns->(∀a∈ns,le M a)->P .imm (.int M)
 |_=>False
def wX{ps:Pos}(hc:X.calm=true)(hm:X.mg "min"=none)(ha:PDA X [a] t)(hg:Gl X "min":=by rfl)(he:zS X a []:=by rfl)(hpl:zP X pos []:=by rfl):PD X (.Call (.Name "min" ps) [a] [] pos) (tCl (HN (λi j=>if j<i then j else i) (λM a=>M<=a)) t) :=
 cA (bC.or (Ih hc) (Ii hc)) (by
  intro p l own m H vs ks P Q A r t q;unfold HN at t;split at t
  ·rename_i k i j;let⟨v,rfl,f⟩:=dh r;let⟨x,xs,c,h1,b⟩:=Rp.eV f;let⟨o,s,d,g,h⟩:=Rps.two b;subst c d;rw[g.int',h.int']at h1;exact .inl ⟨x,i,j,rfl,SqT.of h1,q _ _ _ _ t Kp.refl A.pen (.int _)⟩
  ·let⟨ns,rfl,e,t⟩:=t;let⟨v,rfl,f⟩:=dh r;let⟨x,xs,c,n,h1,b⟩:=Rp.bD f;subst c;have d:=Rps.ints b;subst d;exact .inr ⟨x,ns,rfl,SqL.of h1,e,λM h1 h2=>q _ _ _ _ (t M h1 h2) Kp.refl A.pen (.int _)⟩
  ·exact t.elim) hg hm boot_min ha ∅ ∅ he hpl
def wY{ps:Pos}(hc:X.calm=true)(hm:X.mg "max"=none)(ha:PDA X [a] t)(hg:Gl X "max":=by rfl)(he:zS X a []:=by rfl)(hpl:zP X pos []:=by rfl):PD X (.Call (.Name "max" ps) [a] [] pos) (tCl (HN (λi j=>if j > i then j else i) (λM a=>a<=M)) t) :=
 cA (bC.or (Ij hc) (Ik hc)) (by
  intro p l own m H vs ks P Q A r t q;unfold HN at t;split at t
  ·rename_i k i j;let⟨v,rfl,f⟩:=dh r;let⟨x,xs,c,h1,b⟩:=Rp.eV f;let⟨o,s,d,g,h⟩:=Rps.two b;subst c d;rw[g.int',h.int']at h1;exact .inl ⟨x,i,j,rfl,SqT.of h1,q _ _ _ _ t Kp.refl A.pen (.int _)⟩
  ·let⟨ns,rfl,e,t⟩:=t;let⟨v,rfl,f⟩:=dh r;let⟨x,xs,c,n,h1,b⟩:=Rp.bD f;subst c;have d:=Rps.ints b;subst d;exact .inr ⟨x,ns,rfl,SqL.of h1,e,λM h1 h2=>q _ _ _ _ (t M h1 h2) Kp.refl A.pen (.int _)⟩
  ·exact t.elim) hg hm boot_max ha ∅ ∅ he hpl
def Lk:GC:=λks P=>match ks with
 |[(_,.list ds)]=>∃ns:List Int,ds=ns.map Â/\⇑ns<=1000/\(∀x∈ns,-1000000<=x/\x<=1000000)/\P .imm (.int ns.sum)
 |[(_,.tuple ds)]=>∃ns:List Int,ds=ns.map Â/\⇑ns<=1000/\(∀x∈ns,-1000000<=x/\x<=1000000)/\P .imm (.int ns.sum)
 |_=>False
def qN{ps:Pos}(hc:X.calm=true)(hm:X.mg "sum"=none)(ha:PDA X [a] t)(hg:Gl X "sum":=by rfl)(he:zS X a []:=by rfl)(hpl:zP X pos []:=by rfl):PD X (.Call (.Name "sum" ps) [a] [] pos) (tCl Lk t) :=
 cA (bC.or (Ig hc) (Ie hc)) (by
  intro p f own g H vs ks P Q A r t q;unfold Lk at t;split at t
  ·let⟨ns,rfl,hl,hb,t⟩:=t;let⟨v,rfl,e⟩:=dh r;let⟨x,xs,c,h,h1,b⟩:=Rp.bD e;subst c;have d:=Rps.ints b;subst d;exact .inl ⟨x,ns,rfl,SqL.of h1,hl,hb,q _ _ _ _ t Kp.refl A.pen (.int _)⟩
  ·let⟨ns,rfl,hl,hb,t⟩:=t;let⟨v,rfl,e⟩:=dh r;let⟨x,xs,c,h1,b⟩:=Rp.eV e;subst c;have d:=Rps.ints b;subst d;exact .inr ⟨x,ns,rfl,SqT.of h1,hl,hb,q _ _ _ _ t Kp.refl A.pen (.int _)⟩
  ·exact t.elim) hg hm boot_sum ha ∅ ∅ he hpl
def Dy:GC:=λks P=>match ks with
 |[(_,.dict ds)]=>∃m:IM,ds=kvD m/\⇑m<64/\∀out:List Int,out.Perm (m.map (·.1))->out.Pairwise (·<=·)->P .new (.list (out.map Â))
 |_=>False
theorem yX{ok:Addr->Prop}{H:Hp}:∀{b:List (Key×V)}{ds:List (D×D)}{m:IM},Rkv ok H b ds->ds=kvD m->b.map (·.1)=(m.map (·.1)).map ú
 |_,_,[],.nil,_=>rfl
 |_,_,p::m,.cons h t,e=>by
  have c:kD _=Â p.1:=et Prod.fst (List.cons.inj e).1;have d:=K8 c;rw[ò,ò,ò,yX (m:=m) t (List.cons.inj e).2,←d]
 |_,_,[],.cons _ _,e=>nomatch e
 |_,_,_::_,.nil,e=>nomatch e
def rW{ps:Pos}(hc:X.calm=true)(hm:X.mg "sorted"=none)(ha:PDA X [a] t)(hg:Gl X "sorted":=by rfl)(he:zS X a []:=by rfl)(hpl:zP X pos []:=by rfl):PD X (.Call (.Name "sorted" ps) [a] [] pos) (tCl Dy t) :=
 cA (yw hc) (by
  intro p j own k H vs ks P Q A r t q;unfold Dy at t;split at t
  ·let⟨m,rfl,hl,t⟩:=t;let⟨v,rfl,h⟩:=dh r;let⟨x,b,d,n,h1,c⟩:=Rp.HY h;subst d;refine⟨x,b,m.map (·.1),rfl,h1,yX c rfl,by rw[Ä];exact hl,λl out hl' hp hs=>?_⟩;let⟨f,e,g⟩:=A.new hl' (.lst (out.map V.int));exact q _ _ _ _ (t out hp hs) f e (.lst g aq (Rps.ofMap (λi=>.int i) out))
  ·exact t.elim) hg hm WS ha ∅ ∅ he hpl
def Gk:G2:=λ_ d1 _ d2 P=>match d2 with
 |.none=>P .imm (.bool (!Kz d1))
 |_=>False
def Tf:Ok2 Gk (λx y H Q=>y=.non/\Q (.bl (!decide (x=.non))) H):=by
 intro p d own e H x y h f i g P Q A b c t q;unfold Gk at t;split at t
 ·cases c;rw[Fq b];exact⟨rfl,q _ _ _ _ t Kp.refl A.pen (.bl _)⟩
 ·exact t.elim
variable{b:Zt}{ta tb:DE}
def gU(ha:PD X a ta)(hb:PD X b tb):PDT X (.Compare a [.IsNot] [b] pos) (cH (t2 Gk ta tb)):=dH Ol Tf ha hb (cL _)
end
def Io(hc:X.calm=true):bC X (.builtin "any") (λxs H Q=>∃(p:Addr)(a:List Bool),xs=[.ref p]/\SqL X.K H p (a.map V.bl)/\Q (.bl (a.any id)) H):=by
 intro j s σ H xs us Q I r h;let⟨p,a,rfl,hp,q⟩:=h;let⟨u,rfl,w⟩:=vals1 r;cases w;let⟨its,t,g,y⟩:=I.list hp;have e:=v9 t;subst e;have f:p≠↥s:=by let⟨o,m,_⟩:=g.isList;exact é (Ï m)
 refine call_any_walk (YK g.isList ?_);refine⟨_,_,_,_,_,_,λi=>a.getD i false,rfl,Walks.list (A:=X.A.in1) (I.ok.hd hc) _ p f _,⟨⟨_,â _ rfl,rfl,rfl⟩,g.isList.push _⟩,?_,λh' tk hk=>?_⟩
 ·intro i v s Q E k l;have c:(a.map Ž)[i]?=some v:=by simpa using k
  rw[à]at c;cases hb:a[i]? with
  |none=>rw[hb]at c;cases c
  |some b =>
   rw[hb]at c;cases c;refine ĸ ?_;have e:a.getD i false=b:=by rw[ö,hb];rfl
   have d:Q (a.getD i false) s:=l;rw[e]at d;exact d
 ·have e:(Þ (a.map Ž).toArray.size).any (λi=>a.getD i false)=a.any id:=by
   rw[Ù,Ä,ĥ];simp only[ŕ,Ď];constructor
   ·rintro⟨i,hi,h⟩;simp[hi]at h;exact⟨a[i],į hi,h⟩
   ·rintro⟨x,n,h⟩;let⟨i,hi,e⟩:=š.mp n;exact⟨i,hi,by simp[hi,e];exact h⟩
  rw[e];refine⟨.bl (a.any id),H,I.kept λb o eb=>hk b o ?_ (Ò _ eb),rfl,q⟩;intro hm;have:b=↥s:=by simpa using hm
  exact er (Ï eb) (by rw[this];exact Ą _)
end
section
variable{X:Cx}{pos:Pos}{a e:Zt}{te ta:DE}{t:DA}{st st2:ZF}{rest:List ZF} [Gr]
def boot_any:Zq "any"=some (.builtin "any"):=⋯
def Ub:GC:=λks P=>match ks with
 |[(_,.list ds)]=>∃bs:List Bool,ds=bs.map PyData.bool/\P .imm (.bool (bs.any id))
 |_=>False
def CT{ps:Pos}(hc:X.calm=true)(hm:X.mg "any"=none)(ha:PDA X [a] t)(hg:Gl X "any":=by rfl)(he:zS X a []:=by rfl)(hpl:zP X pos []:=by rfl):PD X (.Call (.Name "any" ps) [a] [] pos) (tCl Ub t) :=
 cA (Io hc) (by
  intro p h own i H vs ks P Q A r t q;unfold Ub at t;split at t
  ·let⟨c,rfl,t⟩:=t;let⟨v,rfl,g⟩:=dh r;let⟨x,xs,d,j,h1,b⟩:=Rp.bD g;subst d;have f:=Rps.bools b;subst f;exact⟨x,c,rfl,SqL.of h1,q _ _ _ _ t Kp.refl A.pen (.bl _)⟩
  ·exact t.elim) hg hm boot_any ha ∅ ∅ he hpl
end
section
variable{X:Cx}{tg iter c:Zt}{pos pos1:Pos}{ret:ZF}{ti:DI}{g:DG}{tc:DT} [Gr]
end
end Dl
set_option autoImplicit true
set_option relaxedAutoImplicit true
namespace Wr
open PySem L2 PyProof.Rows Dl
structure WD[Gr](X:Cx)(e:Zt)(t:DE):Prop where
 h:PD X e t
structure WDT[Gr](X:Cx)(e:Zt)(t:DT):Prop where
 h:PDT X e t
structure WDW[Gr](X:Cx)(e:Zt)(t:DT):Prop where
 h:PDW X e t
structure WDA[Gr](X:Cx)(e:List Zt)(t:DA):Prop where
 h:PDA X e t
structure WDS[Gr](X:Cx)(e:ZF)(t:DS):Prop where
 h:PDS X e t
structure WDSs[Gr](X:Cx)(e:List ZF)(t:DS):Prop where
 h:lg X e t
structure WDI[Gr](X:Cx)(tg e:Zt)(t:DI):Prop where
 h:PDI X tg e t
structure WDG[Gr](X:Cx)(e:Zt)(t:DG):Prop where
 h:PDG X e t
structure WDGs[Gr](X:Cx)(e:List Zt)(t:DGs):Prop where
 h:PGs X e (oX t)
structure WDTs[Gr](X:Cx)(e:List Zt)(t:DT):Prop where
 h:Er X e t
structure WDO[Gr](X:Cx)(e:Option Zt)(t:DO):Prop where
 h:PO X e (tE t)
structure WV(X:Cx)(e:Zt)(i:Nat):Prop where
 h:PE X e (nU i)
structure WC(X:Cx)(e:Zt)(v:V):Prop where
 h:PE X e (tC v)
section
variable [Gr]
def wv(i:Nat){x:Str}{pos:Pos}(hN:X.N[i]?=some x:=by rfl)(hv:Vis X.env.scope x:=by first|exact Or.inl rfl|exact Or.inr (Or.inl rfl)|exact Or.inr (Or.inr rfl))(hd:zB x:=by decide)(hcd:(x==("__classdict__":Str))=false:=by decide):WV X (.Name x pos) i:=⟨pv i hN hv hd hcd⟩
def wpt{t:DT}(h:WDW X e t):WDT X e t:=⟨PDW.pt h.h⟩
def wty{x:Str}{T:String}(hg:Gl X x)(hm:X.mg x=none)(hv:Zq x=some (.type T))(hn:x≠"__name__":=by decide)(hd:zB x:=by decide):WC X (.Name x ps) (.ty T):=⟨wN hg hm hv rfl hn hd⟩
def ud{i:Nat}{x:Str}{e:Zt}{c:DE}{a pos:Pos}(b:Option Nat)(hN:X.N.Nodup)(hi:X.N[i]?=some x)(f:Loc X.env.scope x)(he:WD X e c)(hs:ZO e (some (.Name x a)) pos.line X.env=pure false:=by rfl)(d:zL X x:=by first|exact .inl rfl|exact .inr rfl|assumption) :
  WDS X (.Assign [.Name x a] e pos) (Az i b c):=⟨Dl.ud b (fM hN hi f he.h hs d)⟩
def gJ(f:Option Nat)(own:List Str){i:Nat}{y:Str}{e a:Pos}(hc:X.calm=true)(hN:X.N.Nodup)(b:X.N[i]?=some y)(k:Loc X.env.scope y)(hi:WDI X tg iter ti)(hg:∀c,WDG (X.comp own scope c) tg g)(ht:∀c,WDTs (X.comp own scope c) ifs tt)(he:∀c,WD (X.comp own scope c) elt te)(d:ZO (.ListComp elt [⟨tg,iter,ifs,0⟩] scope pos) (some (.Name y e)) a.line X.env=pure true:=by rfl)(hk:fB X.env scope X.N=true:=by rfl)(hs:zF X iter:=by intro _;rfl)(j:zL X y:=by first|exact .inl rfl|exact .inr rfl|assumption) :
  WDS X (.Assign [.Name y e] (.ListComp elt [⟨tg,iter,ifs,0⟩] scope pos) a) (Az i f (dLC ⇑own ti g tt te)):=⟨Dl.ud f (R3 own hc hN b k hi.h (λc=>(hg c).h) (λc=>(ht c).h) (λc=>(he c).h) d hk hs j)⟩
def HX(f:Option Nat)(own M:List Str){i:Nat}{y:Str}{e a:Pos}(hc:X.calm=true)(hN:X.N.Nodup)(b:X.N[i]?=some y)(k:Loc X.env.scope y)(hi:WDI X tg iter ti)(hg:∀c,WDG (X.aO own M scope c) tg g)(ht:∀c,WDTs (X.aO own M scope c) ifs tt)(he:∀c,WD (X.aO own M scope c) elt te)(d:ZO (.ListComp elt [⟨tg,iter,ifs,0⟩] scope pos) (some (.Name y e)) a.line X.env=pure true:=by rfl)(hk:aR X.env scope X.N M=true:=by rfl)(hs:zF X iter:=by intro _;rfl)(j:zL X y:=by first|exact .inl rfl|exact .inr rfl|assumption) :
  WDS X (.Assign [.Name y e] (.ListComp elt [⟨tg,iter,ifs,0⟩] scope pos) a) (Az i f (dLC ⇑own ti g tt te)):=⟨Dl.ud f (N6 own M hc hN b k hi.h (λc=>(hg c).h) (λc=>(ht c).h) (λc=>(he c).h) d hk hs j)⟩
def jw(r:Nat)(own:List Str){i j:Nat}{y z:Str}{g a b f:Pos}(hc:X.calm=true)(hN:X.N.Nodup)(d:X.N[i]?=some y)(l:Loc X.env.scope y)(hi:WDI X (.Name z b) iter ti)(hg:∀c,WDG (X.comp own scope c) (.Name z b) (gNm j))(e:ZO (.ListComp (.List [] f) [⟨.Name z b,iter,[],0⟩] scope pos) (some (.Name y g)) a.line X.env=pure true:=by rfl)(hk:fB X.env scope X.N=true:=by rfl)(hs:zF X iter:=by intro _;rfl)(k:zL X y:=by first|exact .inl rfl|exact .inr rfl|assumption) :
  WDS X (.Assign [.Name y g] (.ListComp (.List [] f) [⟨.Name z b,iter,[],0⟩] scope pos) a) (Mq i r ti):=⟨Dl.jw r (Qy own hc hN d l hi.h (λc=>(hg c).h) (λc=>qY) (λc=>wM eZ) e hk hs k)⟩
def xX{i:Nat}{x:Str}{c:List Zt}{t:DA}{a pos d:Pos}(r:Nat)(b:Bool)(hN:X.N.Nodup)(hi:X.N[i]?=some x)(f:Loc X.env.scope x)(he:WDA X c t)(hs:ZO (.List c d) (some (.Name x a)) pos.line X.env=pure false:=by rfl)(e:zL X x:=by first|exact .inl rfl|exact .inr rfl|assumption) :
  WDS X (.Assign [.Name x a] (.List c d) pos) (Rb i r b t):=⟨Dl.xX r b (fM hN hi f (wM he.h) hs e)⟩
def Eb{a e:Zt}{b:DE}{g:DG}(he:WD X e b)(hg:WDG X a g)(hs:ZV [a] e pos.line X.env=pure false:=by rfl)(c:ZW [a] e X.env=pure none:=by rfl)(h1:(ZR [a] X.env).map (·.2)=[ZP a X.env]:=by rfl):WDS X (.Assign [a] e pos) (W4 b g):=⟨Dl.Eb (wJ he.h hg.h hs c h1)⟩
def pG{i:Nat}{x:Str}{e:Zt}{f:List Zt}{a cpos g pos:Pos}(hv:WV X (.Name x g) i)(ha:WDA X (e::f) (aQ te dX))(c:YB (.Name x g) "append" X.env (Zv (.Name x g) X.env)=Zv (.Name x g) X.env:=by rfl)(j:zW X cpos (e::f):=by rfl)(d:(a.endLine==cpos.line)=true:=by rfl)(hst:zS X e f:=by rfl)(b:zP X cpos f:=by rfl)(hs:ZO (.Call (.Attribute (.Name x g) "append" a) (e::f) [] cpos) none pos.line X.env=pure false:=by rfl) :
  WDS X (.Expr (.Call (.Attribute (.Name x g) "append" a) (e::f) [] cpos) pos) (Eh i te):=⟨Dl.pG (jK (uZ ł PySem.F.slot_list_append PySem.F.type_list_append oW hv.h ha.h c j d hst b) hs)⟩
def pF{i:Nat}{x:Str}{e:Zt}{f:List Zt}{a cpos g pos:Pos}(hv:WV X (.Name x g) i)(ha:WDA X (e::f) (aQ tj (aQ te dX)))(c:YB (.Name x g) "insert" X.env (Zv (.Name x g) X.env)=Zv (.Name x g) X.env:=by rfl)(j:zW X cpos (e::f):=by rfl)(d:(a.endLine==cpos.line)=true:=by rfl)(hst:zS X e f:=by rfl)(b:zP X cpos f:=by rfl)(hs:ZO (.Call (.Attribute (.Name x g) "insert" a) (e::f) [] cpos) none pos.line X.env=pure false:=by rfl) :
  WDS X (.Expr (.Call (.Attribute (.Name x g) "insert" a) (e::f) [] cpos) pos) (Ug i tj te):=⟨Dl.pF (jK (uZ ł PySem.F.slot_list_insert PySem.F.type_list_insert Ho hv.h ha.h c j d hst b) hs)⟩
def jP{i:Nat}{x:Str}{e:Zt}{f:List Zt}{a cpos g pos:Pos}(hv:WV X (.Name x g) i)(ha:WDA X (e::f) (aQ te dX))(c:YB (.Name x g) "append" X.env (Zv (.Name x g) X.env)=Zv (.Name x g) X.env:=by rfl)(j:zW X cpos (e::f):=by rfl)(d:(a.endLine==cpos.line)=true:=by rfl)(hst:zS X e f:=by rfl)(b:zP X cpos f:=by rfl)(hs:ZO (.Call (.Attribute (.Name x g) "append" a) (e::f) [] cpos) none pos.line X.env=pure false:=by rfl) :
  WDS X (.Expr (.Call (.Attribute (.Name x g) "append" a) (e::f) [] cpos) pos) (Mt i te):=⟨Dl.jP (jK (uZ ł PySem.F.slot_list_append PySem.F.type_list_append oW hv.h ha.h c j d hst b) hs)⟩
def dB{i:Nat}{x:Str}{e c:Zt}{g:List Zt}{a cpos j sp pos:Pos}(hv:WV X (.Name x j) i)(m:WD X c tj)(ha:WDA X (e::g) (aQ te dX))(l:rm c:=by exact λ_ _=>rfl)(d:YB (.Subscript (.Name x j) c sp) "append" X.env (Zv (.Subscript (.Name x j) c sp) X.env)=Zv (.Subscript (.Name x j) c sp) X.env:=by rfl)(k:zW X cpos (e::g):=by rfl)(f:(a.endLine==cpos.line)=true:=by rfl)(hst:zS X e g:=by rfl)(b:zP X cpos g:=by rfl)(hs:ZO (.Call (.Attribute (.Subscript (.Name x j) c sp) "append" a) (e::g) [] cpos) none pos.line X.env=pure false:=by rfl) :
  WDS X (.Expr (.Call (.Attribute (.Subscript (.Name x j) c sp) "append" a) (e::g) [] cpos) pos) (yp i tj te):=⟨Dl.dB (jK (uZ ł PySem.F.slot_list_append PySem.F.type_list_append oW (jc c7 hv.h m.h l) ha.h d k f hst b) hs)⟩
def qZ{i:Nat}{x:Str}{b e:Zt}{c a pos:Pos}(hu:X.A.units+64<Yb)(hv:WV X (.Name x c) i)(hk:WD X b tk)(he:WD X e tv)(hs:ZO e (some (.Subscript (.Name x c) b a)) pos.line X.env=pure false:=by rfl) :
  WDS X (.Assign [.Subscript (.Name x c) b a] e pos) (Mr i tk tv):=⟨Dl.qZ (N7 (hu1 hu) hv.h hk.h he.h hs)⟩
def yh{i:Nat}{x:Str}(hN:X.N.Nodup)(hi:X.N[i]?=some x)(b:Loc X.env.scope x)(a:zL X x:=by first|exact .inl rfl|exact .inr rfl|assumption):WDG X (.Name x pos) (gNm i):=⟨Dl.yh (Od hN hi b a)⟩
def je{i:Int}{j:Nat}:WD X (.Constant (.int i) j pos) (tK (.int i)):=⟨Dl.je ⟩
def FQ{i:Bool}{j:Nat}:WD X (.Constant (.bool i) j pos) (tK (.bool i)):=⟨Dl.FQ ⟩
def wW{j:Nat}:WD X (.Constant .none j pos) (tK .none):=⟨Dl.wW ⟩
def wU{x:Str}{j:Nat}:WD X (.Constant (.str x) j pos) (tK (.str x)):=⟨Dl.wU ⟩
def wQ{e:Zt}{t:DE}(h:WD X e t)(he:∀whole,ZE e X.env whole=(do let v ←whole;standAt e.pos;holding [v] (ZM v)):=by intro _;rfl):WDT X e (cH t):=⟨Dl.wQ (h:=h.h) (he:=he)⟩
def wR{t:DT}(ha:WDT X a t):WDT X (.UnaryOp .Not a pos) (W0 t):=⟨Dl.wR (ha:=ha.h)⟩
def cW(ha:WDT X a t):WDW X (.BoolOp .And [a] pos) t:=⟨Dl.cW (ha:=ha.h)⟩
def wO(ha:WDT X a t):WDW X (.BoolOp .Or [a] pos) t:=⟨Dl.wO (ha:=ha.h)⟩
def cD{rest:List Zt}(ha:WDT X a t)(hb:WDW X (.BoolOp .And (b::rest) pos) u):WDW X (.BoolOp .And (a::b::rest) pos) (Qf t u):=⟨Dl.cD (ha:=ha.h) (hb:=hb.h)⟩
def Cu{rest:List Zt}(ha:WDT X a t)(hb:WDW X (.BoolOp .Or (b::rest) pos) u):WDW X (.BoolOp .Or (a::b::rest) pos) (dOr t u):=⟨Dl.Cu (ha:=ha.h) (hb:=hb.h)⟩
def jL :WDA X [] dX:=⟨Dl.jL ⟩
def eY(ha:WD X e te)(hr:WDA X es t)(hs:zS X e es:=by rfl):WDA X (e::es) (aQ te t):=⟨Dl.eY (ha:=ha.h) (hr:=hr.h) (hs:=hs)⟩
def qO(h:WDA X es t):WD X (.List es pos) (Qq t):=⟨Dl.qO (h:=h.h)⟩
def lU{x1}(h:WDA X es t):WD X (.Tuple es x1 pos) (kh t):=⟨Dl.lU (h:=h.h)⟩
def fO(ha:WD X a ta)(hb:WD X b tb):WD X (.BinOp a .Sub b pos) (t2 (gI0 λi j=>.int (i - j)) ta tb):=⟨Dl.fO (ha:=ha.h) (hb:=hb.h)⟩
def qP(ha:WD X a ta)(hb:WD X b tb):WD X (.BinOp a .FloorDiv b pos) (t2 (gI Ur λi j=>.int (i / j)) ta tb):=⟨Dl.qP (ha:=ha.h) (hb:=hb.h)⟩
def rZ(ha:WD X a ta)(hb:WD X b tb):WD X (.BinOp a .Mod b pos) (t2 (gI (λ_ j=>0<j) λi j=>.int (i % j)) ta tb):=⟨Dl.rZ (ha:=ha.h) (hb:=hb.h)⟩
def zu(ha:WD X a ta)(hb:WD X b tb):WD X (.Compare a [.Gt] [b] pos) (t2 (gI0 λi j=>.bool (decide (j<i))) ta tb):=⟨Dl.zu (ha:=ha.h) (hb:=hb.h)⟩
def rR(ha:WD X a ta)(hb:WD X b tb):WDT X (.Compare a [.Lt] [b] pos) (cH (t2 (gI0 λi j=>.bool (decide (i<j))) ta tb)):=⟨Dl.rR (ha:=ha.h) (hb:=hb.h)⟩
def Cv(ha:WD X a ta)(hb:WD X b tb):WDT X (.Compare a [.Gt] [b] pos) (cH (t2 (gI0 λi j=>.bool (decide (j<i))) ta tb)):=⟨Dl.Cv (ha:=ha.h) (hb:=hb.h)⟩
def Cw(ha:WD X a ta)(hb:WD X b tb):WDT X (.Compare a [.GtE] [b] pos) (cH (t2 (gI0 λi j=>.bool (decide (j<=i))) ta tb)):=⟨Dl.Cw (ha:=ha.h) (hb:=hb.h)⟩
def CG{ps:Pos}(hm:X.mg "len"=none)(ha:WDA X [a] t)(hg:Gl X "len":=by rfl)(he:zS X a []:=by rfl)(hpl:zP X pos []:=by rfl):WD X (.Call (.Name "len" ps) [a] [] pos) (tCl PX t):=⟨Dl.CG (hm:=hm) (ha:=ha.h) (hg:=hg) (he:=he) (hpl:=hpl)⟩
def jM{ps:Pos}(hm:X.mg "int"=none)(hv:Zq "int"=some (.type "int"))(ha:WDA X [a] t)(hg:Gl X "int":=by rfl)(he:zS X a []:=by rfl)(hpl:zP X pos []:=by rfl):WD X (.Call (.Name "int" ps) [a] [] pos) (tCl T9 t):=⟨Dl.jM (hm:=hm) (hv:=hv) (ha:=ha.h) (hg:=hg) (he:=he) (hpl:=hpl)⟩
def DY :WDSs X [] nG:=⟨Dl.DY ⟩
def yd{st:ZF}{rest:List ZF}(h1:WDS X st t)(h2:WDSs X rest u):WDSs X (st::rest) (iR t u):=⟨Dl.yd (h1:=h1.h) (h2:=h2.h)⟩
def pC{st:ZF}(h1:WDS X st t):WDSs X [st] t:=⟨Dl.pC (h1:=h1.h)⟩
def nD{st:ZF}:WDS X st (λ_ _=>False):=⟨Dl.nD ⟩
def pB(he:WD X e te):WDS X (.Return (some e) pos) (yq te):=⟨Dl.pB (he:=he.h)⟩
def Mh{c:Zt}{a b:List ZF}{d:DT}(hc:WDT X c d)(ha:WDSs X a t)(hb:WDSs X b u):WDS X (.If c a b pos) (dIf d t u):=⟨Dl.Mh (hc:=hc.h) (ha:=ha.h) (hb:=hb.h)⟩
def yc(he:WD X e te)(hs:ZO e none pos.line X.env=pure false:=by rfl):WDS X (.Expr e pos) (Rf te):=⟨Dl.yc (he:=he.h) (hs:=hs)⟩
def yg :WDGs X [] Lf:=⟨Dl.yg ⟩
def uh{g:DG}{a:DGs}(h1:WDG X e g)(h2:WDGs X es a)(hs:(ZR (e::es) X.env).map (·.2)=ZP e X.env::(ZR es X.env).map (·.2):=by rfl):WDGs X (e::es) (tW g a):=⟨Dl.uh (h1:=h1.h) (h2:=h2.h) (hs:=hs)⟩
def dW{a:DGs}{k n:Nat}(hc:X.calm=true)(h:WDGs X es a)(hn:⇑(ZR es X.env)=n:=by rfl)(hst:(ZR es X.env).findIdx? (·.1)=none:=by rfl):WDG X (.Tuple es k pos) (gTp n a):=⟨Dl.dW (hc:=hc) (h:=h.h) (hn:=hn) (hst:=hst)⟩
def Ed(hl:WD X l tl):WDI X tg l (iSq tl):=⟨Dl.Ed (hl:=hl.h)⟩
def pI{a:Zt}{ps:Pos}(hm:X.mg "range"=none)(ha:WDA X [a] ta)(hg:Gl X "range":=by rfl)(hs:Zu [a] X.env=[(false,Zv a X.env)]:=by rfl):WDI X tg (.Call (.Name "range" ps) [a] [] pos) (iR1 ta):=⟨Dl.pI (hm:=hm) (ha:=ha.h) (hg:=hg) (hs:=hs)⟩
def pH{a b:Zt}{ps:Pos}(hm:X.mg "range"=none)(ha:WDA X [a,b] ta)(hg:Gl X "range":=by rfl)(hs:Zu [a,b] X.env=[(false,Zv a X.env),(false,Zv b X.env)]:=by rfl)(hs2:Zu [b] X.env=[(false,Zv b X.env)]:=by rfl):WDI X tg (.Call (.Name "range" ps) [a,b] [] pos) (iR2 ta):=⟨Dl.pH (hm:=hm) (ha:=ha.h) (hg:=hg) (hs:=hs) (hs2:=hs2)⟩
def nF{elts:List Zt}{kk:Nat}{b:Pos}{a:Zt}{ps:Pos}(hm:X.mg "enumerate"=none)(ha:WDA X [a] ta)(hg:Gl X "enumerate":=by rfl)(hs:Zu [a] X.env=[(false,Zv a X.env)]:=by rfl):WDI X (.Tuple elts kk b) (.Call (.Name "enumerate" ps) [a] [] pos) (iEn ta):=⟨Dl.nF (hm:=hm) (ha:=ha.h) (hg:=hg) (hs:=hs)⟩
def Ea{a:List ZF}(hp:ZX (model X.prog X.w) X.A X.env X.xe)(hc:X.calm=true)(hi:WDI X tg iter ti)(hg:WDG X tg g)(hb:WDSs X a tb)(hs:zF X iter:=by intro _;rfl):WDS X (.For tg iter a [] pos) (W3 ti g tb):=⟨Dl.Ea (hp:=hp) (hc:=hc) (hi:=hi.h) (hg:=hg.h) (hb:=hb.h) (hs:=hs)⟩
def ju{a:List ZF}{c:Zt}{b:DT}(hp:ZX (model X.prog X.w) X.A X.env X.xe)(hc:WDT X c b)(hb:WDSs X a tb):WDS X (.While c a [] pos) (Mp b tb):=⟨Dl.ju (hp:=hp) (hc:=hc.h) (hb:=hb.h)⟩
def qY{X:Cx}:WDTs X [] (λ_ P=>P true):=⟨Dl.qY ⟩
def xW{X:Cx}{c:Zt}{t:DT}(hc:WDT X c t):WDTs X [c] t:=⟨Dl.xW (hc:=hc.h)⟩
def Ke(own:List Str)(hc:X.calm=true)(hi:WDI X tg iter ti)(hg:∀c,WDG (X.comp own scope c) tg g)(ht:∀c,WDTs (X.comp own scope c) ifs tt)(he:∀c,WD (X.comp own scope c) elt te)(hk:fB X.env scope X.N=true:=by rfl)(hs:zF X iter:=by intro _;rfl):WD X (.ListComp elt [⟨tg,iter,ifs,0⟩] scope pos) (dLC ⇑own ti g tt te):=⟨Dl.Ke (own:=own) (hc:=hc) (hi:=hi.h) (hg:=λc=>(hg c).h) (ht:=λc=>(ht c).h) (he:=λc=>(he c).h) (hk:=hk) (hs:=hs)⟩
def CJ(own M:List Str)(hc:X.calm=true)(hi:WDI X tg iter ti)(hg:∀c,WDG (X.aO own M scope c) tg g)(ht:∀c,WDTs (X.aO own M scope c) ifs tt)(he:∀c,WD (X.aO own M scope c) elt te)(hk:aR X.env scope X.N M=true:=by decide +kernel)(hs:zF X iter:=by intro _;rfl):WD X (.ListComp elt [⟨tg,iter,ifs,0⟩] scope pos) (dLC ⇑own ti g tt te):=⟨Dl.CJ (own:=own) (M:=M) (hc:=hc) (hi:=hi.h) (hg:=λc=>(hg c).h) (ht:=λc=>(ht c).h) (he:=λc=>(he c).h) (hk:=hk) (hs:=hs)⟩
def rY(ha:WD X a ta):WD X (.UnaryOp .Not a pos) (Qp ta):=⟨Dl.rY (ha:=ha.h)⟩
def cX{op}(h:WD X a ta):WD X (.BoolOp op [a] pos) ta:=⟨Dl.cX (h:=h.h)⟩
def sJ{rest:List Zt}(ha:WD X a ta)(hb:WD X (.BoolOp .And (b::rest) pos) tb):WD X (.BoolOp .And (a::b::rest) pos) (EY ta tb):=⟨Dl.sJ (ha:=ha.h) (hb:=hb.h)⟩
def Kc{rest:List Zt}(ha:WD X a ta)(hb:WD X (.BoolOp .Or (b::rest) pos) tb):WD X (.BoolOp .Or (a::b::rest) pos) (UL ta tb):=⟨Dl.Kc (ha:=ha.h) (hb:=hb.h)⟩
def lX{u:DT}(hc:WDT X c u)(ha:WD X a ta)(hb:WD X b tb):WD X (.IfExp c a b pos) (Rx u ta tb):=⟨Dl.lX (hc:=hc.h) (ha:=ha.h) (hb:=hb.h)⟩
def oA{ps:Pos}(hc:X.calm=true)(hm:X.mg "all"=none)(hv:Zq "all"=some (.builtin "all"))(ha:WDA X [a] t)(hg:Gl X "all":=by rfl)(he:zS X a []:=by rfl)(hpl:zP X pos []:=by rfl):WD X (.Call (.Name "all" ps) [a] [] pos) (tCl Uc t):=⟨Dl.oA (hc:=hc) (hm:=hm) (hv:=hv) (ha:=ha.h) (hg:=hg) (he:=he) (hpl:=hpl)⟩
def wZ{ps:Pos}(hc:X.calm=true)(hm:X.mg "max"=none)(ha:WDA X [a,b] t)(hg:Gl X "max":=by rfl)(he:Zu [a,b] X.env=(false,Zv a X.env)::Zu [b] X.env:=by rfl)(hpl:(Zw pos (Zu [b] X.env)).any (·.1)=false:=by rfl):WD X (.Call (.Name "max" ps) [a,b] [] pos) (tCl (gMM λi j=>if j > i then j else i) t):=⟨Dl.wZ (hc:=hc) (hm:=hm) (ha:=ha.h) (hg:=hg) (he:=he) (hpl:=hpl)⟩
def lV{ps:Pos}(hm:X.mg "tuple"=none)(ha:WDA X [a] t)(hg:Gl X "tuple":=by rfl)(he:zS X a []:=by rfl)(hpl:zP X pos []:=by rfl):WD X (.Call (.Name "tuple" ps) [a] [] pos) (tCl Li t):=⟨Dl.lV (hm:=hm) (ha:=ha.h) (hg:=hg) (he:=he) (hpl:=hpl)⟩
def lW{ps:Pos}(hm:X.mg "sorted"=none)(ha:WDA X [a] t)(hg:Gl X "sorted":=by rfl)(he:zS X a []:=by rfl)(hpl:zP X pos []:=by rfl):WD X (.Call (.Name "sorted" ps) [a] [] pos) (tCl Dw t):=⟨Dl.lW (hm:=hm) (ha:=ha.h) (hg:=hg) (he:=he) (hpl:=hpl)⟩
def rT{ps:Pos}(hm:X.mg "sorted"=none)(ha:WDA X [a] t)(hg:Gl X "sorted":=by rfl)(he:zS X a []:=by rfl)(hpl:zP X pos []:=by rfl):WD X (.Call (.Name "sorted" ps) [a] [] pos) (tCl Dv t):=⟨Dl.rT (hm:=hm) (ha:=ha.h) (hg:=hg) (he:=he) (hpl:=hpl)⟩
def u9(hu:X.A.units+64<Yb)(ha:WD X a ta)(hb:WD X b tb)(hm:ZJ .In b=false:=by rfl):WD X (.Compare a [.In] [b] pos) (t2 (gIn false) ta tb):=⟨Dl.u9 (hu:=hu) (ha:=ha.h) (hb:=hb.h) (hm:=hm)⟩
def jd(hu:X.A.units+64<Yb)(ha:WD X a ta)(hb:WD X b tb)(hm:ZJ .NotIn b=false:=by rfl):WD X (.Compare a [.NotIn] [b] pos) (t2 (gIn true) ta tb):=⟨Dl.jd (hu:=hu) (ha:=ha.h) (hb:=hb.h) (hm:=hm)⟩
def gZ(hu:X.A.units+64<Yb)(ha:WD X a ta)(hb:WD X b tb)(hm:ZJ .In b=false:=by rfl):WDT X (.Compare a [.In] [b] pos) (cH (t2 (gIn false) ta tb)):=⟨Dl.gZ (hu:=hu) (ha:=ha.h) (hb:=hb.h) (hm:=hm)⟩
def oh(hu:X.A.units+64<Yb)(ha:WD X a ta)(hb:WD X b tb)(hm:ZJ .NotIn b=false:=by rfl):WDT X (.Compare a [.NotIn] [b] pos) (cH (t2 (gIn true) ta tb)):=⟨Dl.oh (hu:=hu) (ha:=ha.h) (hb:=hb.h) (hm:=hm)⟩
def jQ :WDO X none QK:=⟨Dl.jQ ⟩
def dM(h:WD X e te):WDO X (some e) (QJ te):=⟨Dl.dM (h:=h.h)⟩
def fP(ha:WD X a ta):WD X (.UnaryOp .USub a pos) (U3 ta):=⟨Dl.fP (ha:=ha.h)⟩
def dc{f:List D->(D->Prop)->Prop}(C:Cal X.prog X.w X.K X.mg X.base k x ps (spD f))(hr:Room j X.A)(ha:WDA X (e::es) t)(hk:k<=j:=by decide)(hg:Gl X x:=by rfl)(hdb:zB x:=by decide)(he:zS X e es:=by rfl)(hpl:zP X pos es:=by rfl):WD X (.Call (.Name x p) (e::es) [] pos) (tFn f t):=⟨Dl.dc (C:=C) (hr:=hr) (ha:=ha.h) (hk:=hk) (hg:=hg) (hdb:=hdb) (he:=he) (hpl:=hpl)⟩
def dcP{C:Pn->Prop}{i:Nat}{f:List D->(D->Prop)->Prop}{y:Str}{a:Pos}(CC:Cal X.prog X.w X.K X.mg X.base k x ps (spP C f))(hr:Room j X.A)(hi:WV X (.Name y a) i)(ha:WDA X es t)(hk:k<=j:=by decide)(hg:Gl X x:=by rfl)(hdb:zB x:=by decide)(he:Zu (.Name y a::es) X.env=(false,Zv (.Name y a) X.env)::Zu es X.env:=by rfl)(hpl:zP X pos es:=by rfl):WD X (.Call (.Name x p) (.Name y a::es) [] pos) (GX C f i t):=⟨Dl.dcP (CC:=CC) (hr:=hr) (hi:=hi.h) (ha:=ha.h) (hk:=hk) (hg:=hg) (hdb:=hdb) (he:=he) (hpl:=hpl)⟩
def dv(i:Nat){x:Str}{pos:Pos}(hN:X.N[i]?=some x:=by rfl)(hv:Vis X.env.scope x:=by first|exact Or.inl rfl|exact Or.inr (Or.inl rfl)|exact Or.inr (Or.inr rfl))(hd:zB x:=by decide)(hcd:(x==("__classdict__":Str))=false:=by decide):WD X (.Name x pos) (tV i):=⟨Dl.dv (i:=i) (hN:=hN) (hv:=hv) (hd:=hd) (hcd:=hcd)⟩
def gW(ha:WD X a ta)(hb:WD X b tb):WDT X (.Compare a [.IsNot] [b] pos) (cH (t2 vB ta tb)):=⟨Dl.gW (ha:=ha.h) (hb:=hb.h)⟩
def CK(ha:WD X a ta)(hb:WD X b tb):WD X (.Compare a [.Is] [b] pos) (t2 HS ta tb):=⟨Dl.CK (ha:=ha.h) (hb:=hb.h)⟩
def gY(ha:WD X a ta)(hb:WD X b tb):WDT X (.Compare a [.Is] [b] pos) (cH (t2 HS ta tb)):=⟨Dl.gY (ha:=ha.h) (hb:=hb.h)⟩
def ou{ps b:Pos}(hc:X.calm=true)(hs:X.mg "set"=none)(hl:X.mg "len"=none)(ha:WDA X [a] t)(hgs:Gl X "set":=by rfl)(hgl:Gl X "len":=by rfl)(he:zS X a []:=by rfl)(hpl:zP X pos []:=by rfl)(he':Zu [Expr.Call (.Name "set" ps) [a] [] pos] X.env=(false,Zv (Expr.Call (.Name "set" ps) [a] [] pos) X.env)::Zu [] X.env:=by rfl)(hpl':(Zw pos' (Zu [] X.env)).any (·.1)=false:=by rfl):WD X (.Call (.Name "len" b) [.Call (.Name "set" ps) [a] [] pos] [] pos') (tCl Gm t):=⟨Dl.ou (hc:=hc) (hs:=hs) (hl:=hl) (ha:=ha.h) (hgs:=hgs) (hgl:=hgl) (he:=he) (hpl:=hpl) (he':=he') (hpl':=hpl')⟩
def Kf(ha:WD X a ta)(hb:WD X b tb)(hs:rm b:=by exact λ_ _=>rfl):WD X (.Subscript a b pos) (t2 gIx ta tb):=⟨Dl.Kf (ha:=ha.h) (hb:=hb.h) (hs:=hs)⟩
def wV(ha:WD X a ta)(hb:WD X b tb):WD X (.BinOp a .Add b pos) (t2 p8 ta tb):=⟨Dl.wV (ha:=ha.h) (hb:=hb.h)⟩
def fY(ha:WD X a ta)(hb:WD X b tb):WD X (.BinOp a .Mult b pos) (t2 Lj ta tb):=⟨Dl.fY (ha:=ha.h) (hb:=hb.h)⟩
def fQ(hu:X.A.units+64<Yb)(ha:WD X a ta)(hb:WD X b tb):WD X (.Compare a [.Eq] [b] pos) (t2 (o8 false) ta tb):=⟨Dl.fQ (hu:=hu) (ha:=ha.h) (hb:=hb.h)⟩
def lR(hu:X.A.units+64<Yb)(ha:WD X a ta)(hb:WD X b tb):WDT X (.Compare a [.Eq] [b] pos) (cH (t2 (o8 false) ta tb)):=⟨Dl.lR (hu:=hu) (ha:=ha.h) (hb:=hb.h)⟩
def cF(hu:X.A.units+64<Yb)(ha:WD X a ta)(hb:WD X b tb):WDT X (.Compare a [.NotEq] [b] pos) (cH (t2 (o8 true) ta tb)):=⟨Dl.cF (hu:=hu) (ha:=ha.h) (hb:=hb.h)⟩
def xY{rest:List ZF}(i:Nat)(h:WDSs X rest t):WDSs X rest (Uh i t):=⟨Dl.xY (i:=i) (h:=h.h)⟩
def Mg{rest:List ZF}(i:Nat)(b:Bool)(h:WDSs X rest t):WDSs X rest (dSp i b t):=⟨Dl.Mg (i:=i) (b:=b) (h:=h.h)⟩
def uf{rest:List ZF}(js:List Nat)(h:WDSs X rest t):WDSs X rest (pJ js t):=⟨Dl.uf (js:=js) (h:=h.h)⟩
def qQ :WD X (.Dict [] [] pos) (λ_ P=>P .new (.dict [])):=⟨Dl.qQ ⟩
def Cy(N:List Str)(sc:Zs)(tm:Tm)(h:okT N sc tm e=true)(hN:X.N=N:=by rfl)(hs:X.env.scope=sc:=by rfl)(s:smT tm=true:=by decide +kernel):WD X e (Rw tm):=⟨Dl.Cy (N:=N) (sc:=sc) (tm:=tm) (h:=h) (hN:=hN) (hs:=hs) (s:=s)⟩
def u5{a hi:Option Zt}{c b:DO}(he:WD X e te)(hl:WDO X a c)(hh:WDO X hi b):WD X (.Subscript e (.Slice a hi none p2) pos) (Uz te c b):=⟨Dl.u5 (he:=he.h) (hl:=hl.h) (hh:=hh.h)⟩
def sG(ha:WD X a ta)(hb:WD X b tb):WD X (.Dict [some a] [b] pos) (tD1 ta tb):=⟨Dl.sG (ha:=ha.h) (hb:=hb.h)⟩
def eX(hu:X.A.units+64<Yb)(ha:WD X a ta)(hb:WD X b tb)(hm:ZJ .NotIn b=false:=by rfl):WDT X (.Compare a [.NotIn] [b] pos) (cH (t2 (P0 true) ta tb)):=⟨Dl.eX (hu:=hu) (ha:=ha.h) (hb:=hb.h) (hm:=hm)⟩
def qR(hu:X.A.units+64<Yb)(ha:WD X a ta)(hb:WD X b tb)(hs:Iz b:=by exact λ_ _=>rfl):WD X (.Subscript a b pos) (t2 Ln ta tb):=⟨Dl.qR (hu:=hu) (ha:=ha.h) (hb:=hb.h) (hs:=hs)⟩
def qM(h:WD X e te)(he:∀whole,ZE e X.env whole=(do let v ←whole;standAt e.pos;holding [v] (ZM v)):=by intro _;rfl):WDT X e (Ux te):=⟨Dl.qM (h:=h.h) (he:=he)⟩
def Ef{a:List Zt}{b:DGs}{k n:Nat}(hc:X.calm=true)(h:WDGs X a b)(hn:⇑(ZR a X.env)=n:=by rfl)(hst:(ZR a X.env).findIdx? (·.1)=none:=by rfl):WDG X (.Tuple a k pos) (gTL n b):=⟨Dl.Ef (hc:=hc) (h:=h.h) (hn:=hn) (hst:=hst)⟩
def wX{ps:Pos}(hc:X.calm=true)(hm:X.mg "min"=none)(ha:WDA X [a] t)(hg:Gl X "min":=by rfl)(he:zS X a []:=by rfl)(hpl:zP X pos []:=by rfl):WD X (.Call (.Name "min" ps) [a] [] pos) (tCl (HN (λi j=>if j<i then j else i) (λM a=>M<=a)) t):=⟨Dl.wX (hc:=hc) (hm:=hm) (ha:=ha.h) (hg:=hg) (he:=he) (hpl:=hpl)⟩
def wY{ps:Pos}(hc:X.calm=true)(hm:X.mg "max"=none)(ha:WDA X [a] t)(hg:Gl X "max":=by rfl)(he:zS X a []:=by rfl)(hpl:zP X pos []:=by rfl):WD X (.Call (.Name "max" ps) [a] [] pos) (tCl (HN (λi j=>if j > i then j else i) (λM a=>a<=M)) t):=⟨Dl.wY (hc:=hc) (hm:=hm) (ha:=ha.h) (hg:=hg) (he:=he) (hpl:=hpl)⟩
def qN{ps:Pos}(hc:X.calm=true)(hm:X.mg "sum"=none)(ha:WDA X [a] t)(hg:Gl X "sum":=by rfl)(he:zS X a []:=by rfl)(hpl:zP X pos []:=by rfl):WD X (.Call (.Name "sum" ps) [a] [] pos) (tCl Lk t):=⟨Dl.qN (hc:=hc) (hm:=hm) (ha:=ha.h) (hg:=hg) (he:=he) (hpl:=hpl)⟩
def rW{ps:Pos}(hc:X.calm=true)(hm:X.mg "sorted"=none)(ha:WDA X [a] t)(hg:Gl X "sorted":=by rfl)(he:zS X a []:=by rfl)(hpl:zP X pos []:=by rfl):WD X (.Call (.Name "sorted" ps) [a] [] pos) (tCl Dy t):=⟨Dl.rW (hc:=hc) (hm:=hm) (ha:=ha.h) (hg:=hg) (he:=he) (hpl:=hpl)⟩
def gU(ha:WD X a ta)(hb:WD X b tb):WDT X (.Compare a [.IsNot] [b] pos) (cH (t2 Gk ta tb)):=⟨Dl.gU (ha:=ha.h) (hb:=hb.h)⟩
def CT{ps:Pos}(hc:X.calm=true)(hm:X.mg "any"=none)(ha:WDA X [a] t)(hg:Gl X "any":=by rfl)(he:zS X a []:=by rfl)(hpl:zP X pos []:=by rfl):WD X (.Call (.Name "any" ps) [a] [] pos) (tCl Ub t):=⟨Dl.CT (hc:=hc) (hm:=hm) (ha:=ha.h) (hg:=hg) (he:=he) (hpl:=hpl)⟩
end
section
def bY[Gr]{T:String}{x:Str}{e:Zt}{b:DE}{ps a pos:Pos}(hk:∀t:Value,(t=.type "NoneType"\/t=.type "bool"\/t=.type "int"\/t=.type "str"\/t=.type "list"\/t=.type "tuple"\/t=.type "dict")->∃n,t=.type n/\W.kitOne X.K t (.type T)=some (n==T || (T=="int"&&n=="bool")))(hm:X.mg "isinstance"=none)(he:WD X e b)(c:WC X (.Name x a) (.ty T))(hg:Gl X "isinstance":=by rfl)(h1:Zu [e,.Name x a] X.env=(false,Zv e X.env)::Zu [.Name x a] X.env:=by rfl)(h2:Zu [.Name x a] X.env=(false,Zv (.Name x a) X.env)::Zu [] X.env:=by rfl)(hpl:(Zw pos (Zu [.Name x a] X.env)).any (·.1)=false:=by rfl) :
  WD X (.Call (.Name "isinstance" ps) [e,.Name x a] [] pos) (tIs T b):=⟨Dl.bY hk hm he.h c.h hg h1 h2 hpl⟩
end
end Wr
set_option autoImplicit false
set_option autoImplicit true
namespace Wr
open PySem L2 PyProof.Rows Dl
section
variable [Gr] {X:Cx}{tj te:DE}
def ug{elts:List Zt}{kk:Nat}{b pos:Pos}{a:Zt}{ps:Pos}(hm:X.mg "enumerate"=none)(ha:WDA X [a] ta)(hg:Gl X "enumerate":=by rfl)(hs:Zu [a] X.env=[(false,Zv a X.env)]:=by rfl):WDI X (.Tuple elts kk b) (.Call (.Name "enumerate" ps) [a] [] pos) (Wh ta):=⟨Dl.ug hm ha.h hg hs⟩
end
section
variable [Gr] {X:Cx}{tj te te1 te2 ta:DE}{t:DS}
end
end Wr
namespace Dl
open PySem L2 PyProof.Rows
section
variable{X:Cx}{pins:List (Addr×Obj)}{σ:L2.St}{H:Hp}{s:Shared}{ok ok':Addr->Prop}
end
section
variable{X:Cx}{pos:Pos}{a e:Zt}{te:DE}{t:DA} [Gr]
end
section
variable [Gr]
abbrev DR:=(D->Prop)->List Sl->Prop
structure WishR(p:Pn)(own:Addr->Option Nat)(H:Hp)(P:D->Prop)(Q:Ends):Prop where
 rt:∀d v H',P d->p.PI H'->(∀b o,H b=some o->¬p.fp b->own b=none->H' b=some o)->Rp (λa=>¬p.fp a) H' v d->Q.rt v H'
def VH(t:DR):TS:=λQ σ H=>∃p H0 own ρ P,EnvD p H0 own σ H ρ/\t P ρ/\WishR p own H P Q
structure WR(X:Cx)(ss:List ZF)(t:DR):Prop where
 h:PSs X ss (VH t)
variable{X:Cx}{pos:Pos}{e:Zt}{te:DE}{st:ZF}{rest:List ZF}{t:DS}{u:DR}
variable{k j:Nat}{x:Str}{ps:List Str}{es:List Zt}{ta:DA}{p:Pos}
end
end Dl
namespace Wr
open PySem L2 PyProof.Rows Dl
variable [Gr] {X:Cx}{pos:Pos}{a:Zt}{t:DA}
end Wr
namespace Dl
open PySem L2 PyProof.Rows
variable [Gr]
section
variable{X:Cx}{pos:Pos}{st:ZF}{rest:List ZF}{t u:DS}{te tj t1 t2:DE}
end
end Dl
namespace Wr
open PySem L2 PyProof.Rows Dl
section
variable [Gr] {X:Cx}{tj te t1 t2:DE}{t u:DS}
end
end Wr
set_option autoImplicit false
namespace L2
open PySem PySem.Spec PyProof.Rows
section
variable{X:Cx}{k:Nat}{f CF:Addr}{fd:Yc}{ps:List Str}{sp:Sp}{E:XK}{x hx n:Str}{p np cpos epos hpos pos:Pos}{e:Zt}{es:List Zt}{t:TA}{b₀:ZF}{suite:List ZF}{ts:TS}{j:Nat}
end
end L2
namespace Dl
open PySem L2 PyProof.Rows
section
variable [Gr] {X:Cx}{pos:Pos}{a:Zt}{t:DA}
def boot_str:Zq "str"=some (.type "str"):=⋯
end
end Dl
namespace Wr
open PySem L2 PyProof.Rows Dl
section
variable [Gr] {X:Cx}{pos:Pos}{a:Zt}{t:DA}
end
end Wr
namespace Dl
open PySem L2 PyProof.Rows
structure Ext(p q:Pn):Prop where
 pv:q.pv=p.pv
 fp:∀a,p.fp a->q.fp a
 pi:∀H,q.PI H->p.PI H
 go:∀H H',q.PI H->Kp p H H'->p.PI H'->q.PI H'
def CE(C:Pn->Prop)(q:Pn):Prop:=∃p,C p/\Ext p q
section
variable [Gr]
variable{X:Cx}{pos:Pos}{c:Zt}{a rest:List ZF}{tc:DT}{t u:DR}
variable{k j i:Nat}{x y:Str}{ps:List Str}{es:List Zt}{ta:DA}{pp py:Pos}
end
end Dl
namespace L2
open PySem PySem.Spec PyProof.Rows Builtin
section
variable{X:Cx}
end
end L2
namespace Dl
open PySem L2 PyProof.Rows
section
variable [Gr]
variable{X:Cx}{pos:Pos}{a b e:Zt}{ta tb te:DE}{p1 p2 p3:Pos}
end
end Dl
namespace Wr
open PySem L2 PyProof.Rows Dl
section
variable [Gr] {X:Cx}{pos:Pos}{a b e:Zt}{ta tb te:DE}{p1 p2 p3:Pos}
end
end Wr
namespace L2
open PySem PySem.Spec PyProof.Rows Builtin
section
variable{X:Cx}
end
end L2
namespace Dl
open PySem L2 PyProof.Rows
section
variable [Gr] {X:Cx}{pos p2:Pos}{a b e:Zt}{t:DA}{ta tb te:DE}
end
end Dl
namespace Wr
open PySem L2 PyProof.Rows Dl
section
variable [Gr] {X:Cx}{pos p2:Pos}{a b e:Zt}{t:DA}{ta tb te:DE}
end
end Wr
namespace Dl
open PySem L2 PyProof.Rows
variable [Gr]
section
variable{X:Cx}{st st2:ZF}{rest:List ZF}{te1 te2:DE}{tt:DT}{tr:TS}{t:DS}
end
section
variable{X:Cx}{own:List Str}{scope:Zs}{tg iter elt:Zt}{ifs:List Zt}{pos:Pos}{g:DG}{tt:DT}{te:DE}
end
end Dl
namespace Wr
open PySem L2 PyProof.Rows Dl
variable [Gr]
section
variable{X:Cx}{te1 te2:DE}{tt:DT}{tr:TS}{t:DS}
end
end Wr
namespace PySem
open PySem.W PyProof.Rows PySem.Spec
def Cg:Ys (.type "list_reverseiterator") "__len__"=pure none:=by rw[WF,WG];kernel_rfl
def Jy:Ys (.type "list_reverseiterator") "__length_hint__"=pure (some (.builtin "list_reverseiterator.__length_hint__")):=by rw[WF,WG];kernel_rfl
section
variable{prog:Za}{w:Zb}{A:Zr}{E:eB}{s:Shared}{it l:Addr}{items:Array Value}
def G6{Q:Bool->Shared->Prop}(c:s.TypeIs (.ref it) "list_reverseiterator")(h:Q false s):wpAny (model prog w) A (Builtin.List.listLengthHint (.ref it)) Q E s:=by
 unfold Builtin.List.listLengthHint;refine Å (X6 c Cg ?_);show wpAny _ _ (specialOf (Ě it) (ū "__length_hint__") >>=_) _ _ _;refine Å (X6 c Jy ?_);generalize a:("list_reverseiterator.__length_hint__":String)=d
 wp_delta
 rw[show splitId d=some ("list_reverseiterator","__length_hint__")from by subst a;decide +kernel];subst a;refine Å (X0 (T:="list_reverseiterator") (b:=true) c (by rw[isSubtype_type];kernel_rfl) ?_);refine VE (λz=>er z ∅) (λ_=>?_);refine VE (λ_=>?_) (λz=>er ⋯ z);refine VE (λz=>er z ⋯) (λ_=>?_);exact Ø h
def Jx{Q:eB}(hh:A.handled=none)(r:l≠it)(d:s.heap.IsRevIter it l ((items.size:Int) - 1))(hl:s.heap.IsList l items)(hn:items.size<=sizeLine)(y:∀h' tk acc c,(∀b o,b≠it->s.heap.get? b=some o->h'.get? b=some o)->h'.get? ↥s=some { cls:=.type "list",dict:=none,data:=.seq acc c,slots:=#[]}->X7 (λi v=>items[items.size - 1 - i]?=some v) acc items.size->Q (.ref ↥s) { s with heap:=h',toks:=tk }) :
  wpAny (model prog w) A (Z6 (.type "list") [.ref it]) Q E s:=by
 let⟨B,j,_⟩:=id d;let⟨H,u,_⟩:=id hl;have lt:∀{b:Addr}{o:Obj},s.heap.get? b=some o->↥s≠b:=λe=>Ĺ (Ï e);refine WH (Q₁:=λobj s₁=>obj=.ref ↥s/\s₁={ s with heap:=s.heap.push { cls:=.type "list",data:=.seq #[]}}) F.called_list (F.typeCall_list_1 _) F.entry_list_init (WJ _ ⟨rfl,rfl⟩) λobj s₁ hx=>?_;let⟨rfl,rfl⟩:=hx;have k:(s.heap.push { cls:=.type "list",data:=.seq #[]}).get? ↥s=some { cls:=.type "list",data:=.seq #[]}:=â _ rfl;refine⟨⟨_,k,rfl⟩,F.args_list_init_2 _ _,?_⟩;show wpAny _ _ (Builtin.List.listItems (.ref ↥s) >>=λf=>Builtin.List.listUpdate (.ref ↥s) (λ_=>#[]) >>=λ_=>letGo f.toList.reverse >>=λ_=>Ĥ (.ref ↥s) (.ref it) .none) _ _ _;have f:∀b o,s.heap.get? b=some o->(s.heap.push { cls:=.type "list",data:=.seq #[]}).get? b=some o:=λb o e=>Ò _ e;refine Å ?_;unfold Builtin.List.listItems;refine Å (XU k rfl (Ø ?_));refine Å (m:=WB ↥s (λ_=>#[])) (WE k rfl ?_);have h:=Ľ (ó (λ_=>(#[]:Array Value))) k rfl;refine Å (wpAny_letGo ?_);generalize hg:(s.heap.push { cls:=.type "list",data:=.seq #[]}).update ↥s (ó λ_=>(#[]:Array Value))=g at h;have n:∀b o,s.heap.get? b=some o->g.get? b=some o:=λb o e=>by rw[←hg];exact(Į _ _ (lt e)).trans (f b o e)
 have a:g.IsRevIter it l ((items.size:Int) - 1):=d.at λo e=>n _ o e;have q:g.IsList l items:=hl.at λo e=>n _ o e;have t:({ s with heap:=g }:Shared).TypeIs (.ref it) "list_reverseiterator":=⟨B,n _ _ j,(id d:_).elim λo x=>by rw[j]at x;cases x.1;exact x.2.1⟩
 unfold Ĥ;refine Å (Yq t ?_);have C:Ż (.ref ↥s) (.ref it)=false:=by simp[Ż,lt j]
 have D:(Ă "list_reverseiterator"==Ă "list")=false:=∅
 have G:(Ă "list_reverseiterator"==Ă "tuple")=false:=∅
 simp only[C,D,G,Bool.or_false,ī,if_false];refine Å (wpAny_pyIter_revIter a ?_);refine Å (Ē (G6 t ?_));refine VE (λz=>er z ∅) (λ_=>?_);have W:=Walks.listRev (prog:=prog) (w:=w) (A:=A.in1.in1) hh it l r items;have p:↥s∉[it,l]:=by simp only[Û,Ý,or_false,not_or];exact⟨lt j,lt u⟩
 refine Ø ⟨X8 F.plain_extend_loop _,codeAny_extend_loopS (A:=A.in1) W.toS hn ↥s p .none items.size 0 _ #[] _ rfl (Ğ _) ⟨Ğ _,by simpa using a,q⟩ h (ItemsOf.nil _) λs' acc c hm hS' hacc=>?_⟩;rw[Moved.eq_with hm];refine⟨rfl,y s'.heap s'.toks acc c (λb o hb e=>hm.heap b o (λz=>?_) (n b o e)) hS' hacc⟩;rcases Û.mp z with z|z
 ·exact lt e z.symm
 ·exact hb (É.mp z)
end
end PySem
namespace L2
open PySem PySem.Spec PyProof.Rows
section
variable{X:Cx}
def tLR(K:á)(a:TA):TE:=λσ H Q=>a σ H λvs H1=>∃p xs,vs=[.ref p]/\SqL K H1 p xs/\∀l,H1 l=none->Q (.ref l) (upd H1 l (.lst xs.reverse))
def Hz{its:List Value}{acc:Array Value}(h:X7 (λi v=>its.toArray[its.toArray.size - 1 - i]?=some v) acc its.toArray.size):acc.toList=its.reverse:=by
 have hs:acc.size=⇑its:=by have:=h.1;simpa using this
 refine List.ext_getElem? λi=>?_;by_cases hi:i<acc.size
 ·have e:acc.toList[i]?=some acc[i]:=by rw[Array.getElem?_toList];exact Array.getElem?_eq_getElem hi
  have q:=h.2 i acc[i] (Array.getElem?_eq_getElem hi);rw[e,List.getElem?_reverse ()];simpa using q.symm
 ·rw[List.getElem?_eq_none (by rw[đ];lia),List.getElem?_eq_none (by rw[List.length_reverse];lia)]
def Cr{a:Zt}{x:TA}{D r j d:Pos}(hc:X.calm=true)(hgl:Gl X "list")(n:X.mg "list"=none)(m:Gl X "reversed")(q:X.mg "reversed"=none)(ha:PA X [a] x)(v:Zu [.Call (.Name "reversed" r) [a] [] d] X.env=[(false,Zv (.Call (.Name "reversed" r) [a] [] d) X.env)]:=by rfl)(y:zS X a []:=by rfl)(z:zP X d []:=by rfl) :
  PE X (.Call (.Name "list" D) [.Call (.Name "reversed" r) [a] [] d] [] j) (tLR X.K x):=by
 intro i s σ H Q I h;refine Ŝ (dU I hgl n WO ?_);refine Ā ?_ v rfl;rw[v];refine Calls.spliced_cons ?_;refine Ŝ (dU I m q PyProof.Rows.boot_reversed ?_);refine Ā (thn (ha d i s σ H _ I h) λus s1 ⟨vs,H1,I1,r1,q1⟩=>?_) y z;let⟨p,xs,rfl,hp,k⟩:=q1;let⟨u,rfl,E⟩:=vals1 r1;cases E;let⟨its,w,t,F⟩:=I1.list hp;refine call_reversed_list t.isList ?_;refine Calls.spliced_nil ?_;have B:=⇑w;have C:p<↥s1:=by let⟨o,e,_⟩:=t.isList;exact Ï e
 refine Jx (items:=its.toArray) (l:=p) (it:=↥s1) (s:={ s1 with heap:=s1.heap.push (VM p ((its.toArray.size:Int) - 1))}) (I1.ok.hd hc) (é C) ⟨_,â _ rfl,rfl,rfl⟩ (t.isList.at λo e=>Ò _ e) (by rw[Ù];lia) λh' tk acc c hk hS hacc=>?_;have g:∀b o,s1.heap.get? b=some o->h'.get? b=some o:=λb o e=>hk b o (é (Ï e)) (Ò _ e);have A:=Hz hacc;have G:(s1.heap.push (VM p ((its.toArray.size:Int) - 1))).objs.size=↥s1+1:=ķ ..;have f:↥s1<=(s1.heap.push (VM p ((its.toArray.size:Int) - 1))).objs.size:=()
 refine⟨.ref (s1.heap.push (VM p ((its.toArray.size:Int) - 1))).objs.size,_,I1.laid (t':=tk) (o:=.lst xs.reverse) g f ⟨by rw[List.length_reverse];lia,its.reverse,c,w.reverse,?_⟩,rfl,k _ (I1.hok.fresh f)⟩;rw[←A,Array.toArray_toList];exact hS
end
end L2
namespace Dl
open PySem L2 PyProof.Rows
section
variable [Gr] {X:Cx}{a:Zt}{t:DA}
def T7:GC:=λks P=>match ks with
 |[(k,.list ds)]=>newP k ds.reverse λk'=>P k' (.list ds.reverse)
 |_=>False
def g8{B i c b:Pos}(hc:X.calm=true)(f:X.mg "list"=none)(g:X.mg "reversed"=none)(ha:PDA X [a] t)(hgl:Gl X "list":=by rfl)(d:Gl X "reversed":=by rfl)(s:Zu [.Call (.Name "reversed" i) [a] [] b] X.env=[(false,Zv (.Call (.Name "reversed" i) [a] [] b) X.env)]:=by rfl)(u:zS X a []:=by rfl)(w:zP X b []:=by rfl) :
  PD X (.Call (.Name "list" B) [.Call (.Name "reversed" i) [a] [] b] [] c) (tCl T7 t):=PE.wk (Cr hc hgl f d g ha s u w) (by
 rintro σ H Q ⟨p,n,own,ρ,P,E,t,q⟩;refine⟨p,n,own,ρ,_,E,t,λks vs H1 h A r=>?_⟩;unfold T7 at h;split at h
 ·rename_i k ds;let⟨v,rfl,C⟩:=dh r;let⟨x,xs,rfl,o,h1,D⟩:=C.bD;refine⟨x,xs,rfl,SqL.of h1,λl hl=>?_⟩;let⟨m,y,z⟩:=A.new hl (.lst xs.reverse);let⟨F,e,j⟩:=jN A (cJ A m D.rev) z aq h;exact q _ _ _ _ e (A.go m y) j
 ·exact h.elim)
end
end Dl
namespace Wr
open PySem L2 PyProof.Rows Dl
section
variable [Gr] {X:Cx}{a:Zt}{t:DA}
def g8{l g c b:Pos}(hc:X.calm=true)(e:X.mg "list"=none)(f:X.mg "reversed"=none)(ha:WDA X [a] t)(hgl:Gl X "list":=by rfl)(d:Gl X "reversed":=by rfl)(i:Zu [.Call (.Name "reversed" g) [a] [] b] X.env=[(false,Zv (.Call (.Name "reversed" g) [a] [] b) X.env)]:=by rfl)(j:zS X a []:=by rfl)(k:zP X b []:=by rfl) :
  WD X (.Call (.Name "list" l) [.Call (.Name "reversed" g) [a] [] b] [] c) (tCl T7 t):=⟨Dl.g8 hc e f ha.h hgl d i j k⟩
end
end Wr
set_option autoImplicit true
namespace Wr
open PySem L2 PyProof.Rows Dl
variable [Gr] {X:Cx}{pos:Pos}{a b:Zt}{ta tb:DE}
def Oi(ha:WD X a ta)(hb:WD X b tb):WD X (.BinOp a .BitXor b pos) (t2 (gI0 λi j=>.int (Builtin.bitXor i j)) ta tb):=⟨Dl.u6 SX (Hl λi j _=>.int _) ha.h hb.h⟩
end Wr
namespace L2
open PySem PySem.Spec PyProof.Rows
def Uo(K:á)(a b:Addr):It :=
 ⟨λi H=>∃xs ys x y,SqL K H a xs/\SqL K H b ys/\xs[i]?=some x/\ys[i]?=some y,λi H v H'=>∃t x y,v=.ref t/\H t=none/\H'=upd H t (.tup [x,y])/\(∀xs,SqL K H a xs->xs[i]?=some x)/\∀ys,SqL K H b ys->ys[i]?=some y,λi H=>∃xs ys,SqL K H a xs/\SqL K H b ys/\(⇑xs<=i\/⇑ys<=i)⟩
def Jm{P:Za}{w:Zb}{K:á}{elts:List Zt}{kk:Nat}{pos:Pos}{a b z TI TO i1 i2:Addr}(D:Wp z TI TO i1 i2 a b) :
  Turn P w K (.Tuple elts kk pos) (Uo K a b) [z,TI,TO,i1,i2] z (λi h=>IsZip h z TI TO .none/\IsPair h TI (.ref i1) (.ref i2)/\(∃u v,IsPair h TO u v)/\h.IsListIter i1 a i/\h.IsListIter i2 b i) where
 mem:=by simp
 obj:=λi h st c hc=>by
  let⟨hz,hTI,⟨u,v,hTO⟩,⟨o1,j1,c1,d1⟩,⟨o2,j2,c2,d2⟩⟩:=st;simp only[Û,Ý,or_false]at hc;rcases hc with rfl|rfl|rfl|rfl|rfl
  ·exact⟨_,hz,λv z=>nomatch z⟩
  ·exact⟨_,hTI,λv z=>nomatch z⟩
  ·exact⟨_,hTO,λv z=>nomatch z⟩
  ·exact⟨o1,j1,λv z=>by rw[d1]at z;cases z⟩
  ·exact⟨o2,j2,λv z=>by rw[d2]at z;cases z⟩
 keep:=λi h h' st k=>by
  let⟨hz,hTI,⟨u,v,hTO⟩,⟨o1,j1,r1⟩,⟨o2,j2,r2⟩⟩:=st;exact⟨k z (by simp) _ hz,k TI (by simp) _ hTI,⟨u,v,k TO (by simp) _ hTO⟩,⟨o1,k i1 (by simp) _ j1,r1⟩,⟨o2,k i2 (by simp) _ j2,r2⟩⟩
 item:=by
  intro X hP hw hK hc i pins s σ H E I hf st hg;subst hP hw hK;let⟨xs,ys,x,y,hq,hq2,hx,hy⟩:=hg;let⟨its,rv,pl,hz1⟩:=I.list hq;let⟨its2,rv2,pl2,hz2⟩:=I.list hq2;let⟨u,hu,ru⟩:=rv.get hx;let⟨u2,hu2,ru2⟩:=rv2.get hy;let⟨hz,hTI,hTO,h1,h2⟩:=st;have W:=WalksT.zip2 (prog:=X.prog) (w:=X.w) (A:=X.A) (I.ok.hd hc) z TI TO i1 i2 a b D its.toArray its2.toArray;have l1:=(Æ.mp hu).1;have l2:=(Æ.mp hu2).1;refine W.item i s _ _ (by simp;lia) ⟨hz,hTI,hTO,h1,h2,pl.isList,pl2.isList⟩ λT vals h' tk hP hTs hTup hMid hk=>⟨_,rfl,?_⟩
  let⟨x',y',e1,e2,rfl⟩:=hP;have ex:x'=u:=by
   have:its[i]?=some x':=by simpa using e1
   rw[hu]at this;exact(Ô this).symm
  have ey:y'=u2:=by
   have:its2[i]?=some y':=by simpa using e2
   rw[hu2]at this;exact(Ô this).symm
  subst ex ey;have ap:=W.apart i T h' hMid;refine W.go elts kk pos i T _ _ _ hMid λh3 hst3 hk3=>?_;have hTn:H T=none:=I.hok.fresh hTs;have keep2:∀c o,c∉[z,TO,i1,i2]->s.heap.get? c=some o->h3.get? c=some o:=λc o hc q=>hk3 c o hc (hk c o hc q);have fz:∀c∈[z,TO,i1,i2],nQ X pins H c:=λc hc=>hf c (by
   simp only[Û,Ý,or_false]at hc ⊢;rcases hc with h|h|h|h <;> simp[h])
  have nT:∀{c:Addr}{y:HO},H c=some y->c∉[z,TO,i1,i2]:=λ{c y} q hc=>by
   have:=(fz c hc).1;rw[this]at q;cases q
  let⟨oT,hT1,hT2,nn,hT3⟩:=hTup;have hTup3:IsTup h3 T #[x',y']:=⟨oT,hk3 T oT ap hT1,hT2,nn,hT3⟩
  have J:Inv X pins σ (upd H T (.tup [x,y])) { s with heap:=h3,toks:=tk }:=by
   refine I.step (g':=s.gens) (d':=s.drawn) (t':=tk) (ch:=[z,TO,i1,i2]) (λc hc=>?_) (λc o _ _ hcb q _=>keep2 c o hcb q)
    (λc o _ _ hcb q _=>⟨o.slots,keep2 c o hcb q⟩) (λc o _ q n=>by rw[aj (é (î (Ï q) hTs))];exact n)
    (λc o hcb q=>⟨o,keep2 c o hcb q⟩) (λc ys q=>by rw[aj (ao q hTn)];exact q) (λc o y q=>by rw[aj (ao q hTn)];exact q)
    (λc ps q=>⟨#[],by rw[aj (ao q hTn),q];simp⟩) (λm hm=>?_) ?_ I.bare
   ·let⟨e0,e1,e2,e3,e4,e5⟩:=fz c hc;exact⟨e3,e1,e4,e5⟩
   ·let⟨o,es,ep,ho',r⟩:=hm;refine⟨o,es,ep,keep2 _ o (λhc=>?_) ho',r⟩;exact(fz _ hc).2.1 rfl
   ·intro c u' q;by_cases hb:c=T
    ·subst hb;rw[aq]at q;cases q;exact⟨(by show 2<=sizeLine;decide),[x',y'],.cons ru (.cons ru2 .nil),hTup3⟩
    ·rw[aj hb]at q;refine(I.hok c u' q).stay (λd v hcv y=>keep2 d v ?_ y) (λd y=>by rw[aj (ao y hTn)];exact y) λd ys y=>by rw[aj (ao y hTn)];exact y
     rcases hcv with rfl|z
     ·exact nT q
     ·exact nT z
  let⟨a1,a2,a3,a4,a5,_,_⟩:=hst3;refine⟨.ref T,_,J,rfl,⟨T,x,y,rfl,hTn,rfl,λxs' hy'=>by rw[I.mL hy' hq];exact hx,λys' hy'=>by rw[I.mL hy' hq2];exact hy⟩,⟨a1,a2,a3,a4,a5⟩,λc hc=>?_⟩;rw[aj]
  ·exact(hf c hc).1
  ·rintro rfl;simp only[Û,Ý,or_false]at hc;have lt:∀{d:Addr}{o:Obj},s.heap.get? d=some o->c≠d:=λe=>Ĺ (î (Ï e) hTs);let⟨w1,w2,hTO'⟩:=hTO;let⟨o1,j1,_⟩:=h1;let⟨o2,j2,_⟩:=h2;rcases hc with h|h|h|h|h
   ·exact lt hz h
   ·exact lt hTI h
   ·exact lt hTO' h
   ·exact lt j1 h
   ·exact lt j2 h
 done:=by
  intro X hP hw hK hc i pins s σ H E I hf st hg;subst hP hw hK;let⟨xs,ys,hq,hq2,he⟩:=hg;let⟨its,rv,pl,hz1⟩:=I.list hq;let⟨its2,rv2,pl2,hz2⟩:=I.list hq2;let⟨hz,hTI,⟨u,v,hTO⟩,h1,h2⟩:=st;have r1:=⇑rv;have r2:=⇑rv2;refine WA (I.ok.hd hc) D hz hTI hTO h1 h2 pl.isList pl2.isList (xs:=its.toArray) (ys:=its2.toArray) ?_ λh' hk=>⟨rfl,?_⟩
  ·rcases he with he|he
   ·left;simp;lia
   ·right;simp;lia
  have fz:∀c∈[z,TO,i1,i2],nQ X pins H c:=λc hc=>hf c (by
   simp only[Û,Ý,or_false]at hc ⊢;rcases hc with h|h|h|h <;> simp[h])
  have keep2:∀c o,c∉[z,TO,i1,i2]->s.heap.get? c=some o->h'.get? c=some o:=λc o hc q=>hk c o (λe=>hc (by simp[e])) (λe=>hc (by simp[e])) (λe=>hc (by simp[e])) (λe=>hc (by simp[e])) q;have nT:∀{c:Addr}{y:HO},H c=some y->c∉[z,TO,i1,i2]:=λ{c y} q hc=>by
   have:=(fz c hc).1;rw[this]at q;cases q
  refine I.step (g':=s.gens) (d':=s.drawn) (t':=s.toks) (ch:=[z,TO,i1,i2]) (λc hc=>?_) (λc o _ _ hcb q _=>keep2 c o hcb q)
    (λc o _ _ hcb q _=>⟨o.slots,keep2 c o hcb q⟩) (λc o _ q n=>n)
    (λc o hcb q=>⟨o,keep2 c o hcb q⟩) (λc ys q=>q) (λc o y q=>q)
    (λc ps q=>⟨#[],by rw[q];simp⟩) (λm hm=>?_) ?_ I.bare
  ·let⟨e0,e1,e2,e3,e4,e5⟩:=fz c hc;exact⟨e3,e1,e4,e5⟩
  ·let⟨o,es,ep,ho',r⟩:=hm;refine⟨o,es,ep,keep2 _ o (λhc=>?_) ho',r⟩;exact(fz _ hc).2.1 rfl
  ·intro c u' q;refine(I.hok c u' q).stay (λd v hcv y=>keep2 d v ?_ y) (λd y=>y) λd ys y=>y;rcases hcv with rfl|z
   ·exact nT q
   ·exact nT z
 self:=λA i s Q E st h=>by
  let⟨hz,_⟩:=st;exact WN hz h
def Wc(K:á)(c:TA):TI:=λσ H R=>c σ H λvs H1=>∃a b xs ys,vs=[.ref a,.ref b]/\SqL K H1 a xs/\SqL K H1 b ys/\R (Uo K a b) H1
def R7{X:Cx}{elts:List Zt}{kk:Nat}{f:Pos}{a b:Zt}{n:TA}{p pos:Pos}(hg:Gl X "zip")(hm:X.mg "zip"=none)(ha:PA X [a,b] n)(r:Zu [a,b] X.env=(false,Zv a X.env)::Zu [b] X.env:=by rfl)(t:(Zw pos (Zu [b] X.env)).any (·.1)=false:=by rfl):PI X (.Tuple elts kk f) (.Call (.Name "zip" p) [a,b] [] pos) (Wc X.K n):=by
 intro d s σ H R I h;refine Z5 (dU I hg hm PyProof.Rows.boot_zip (Ā (thn (ha pos d s σ H _ I h) λus s1 ⟨vs,H1,I1,r1,q1⟩=>?_) r t));let⟨a,b,xs,ys,rfl,hp,v,k⟩:=q1;let⟨u,E,rfl,A,B⟩:=vals2 r1;cases A;cases B;let⟨its,C,m,_⟩:=I1.list hp;let⟨l,z,i,_⟩:=I1.list v;refine call_zip_2 m.isList i.isList λh' hz hTI hTO hi1 hi2 hsz hk=>?_;have x:a<↥s1:=by let⟨o,e,_⟩:=m.isList;exact Ï e
 have y:b<↥s1:=by let⟨o,e,_⟩:=i.isList;exact Ï e
 have D:=zipApart_new x y;have q:Inv X d σ H1 { s1 with heap:=h' }:=I1.kept (t':=s1.toks) hk;have T:=Jm (P:=X.prog) (w:=X.w) (K:=X.K) (elts:=elts) (kk:=kk) (pos:=f) D;refine T.self _ 0 _ _ _ ⟨hz,hTI,⟨_,_,hTO⟩,hi1,hi2⟩ ⟨_,_,_,_,H1,rfl,q,T,⟨hz,hTI,⟨_,_,hTO⟩,hi1,hi2⟩,λc hc=>?_,k⟩;have g:∀j,nQ X d H1 (↥s1+j):=λj=>I1.Ak (Nat.le_add_right _ _) (I1.hok.fresh (Nat.le_add_right _ _));simp only[Û,Ý,or_false]at hc;rcases hc with h|h|h|h|h
 ·rw[h];exact g 4
 ·rw[h];exact g 2
 ·rw[h];exact g 3
 ·rw[h];exact g 0
 ·rw[h];exact g 1
end L2
namespace Dl
open PySem L2 PyProof.Rows
variable [Gr]
section
variable{X:Cx}{tg:Zt}{pos:Pos}{ta:DA}
def Jg{K:á}{ok:Addr->Prop}{a b:Addr}{ds es:List D}:Wlk (λH=>Rp ok H (.ref a) (.list ds)/\Rp ok H (.ref b) (.list es)) (Uo K a b) ((ds.zip es).map prD) ok where
 go:=λi H r hi=>by
  let⟨b,vs,e,_,h,rs⟩:=r.1.bD;cases e;let⟨b2,vs2,e,_,h2,rs2⟩:=r.2.bD;cases e;rw[Ä,List.length_zip]at hi;have l1:i<⇑vs:=by rw[⇑rs];lia
  have l2:i<⇑vs2:=by rw[⇑rs2];lia
  exact⟨vs,vs2,vs[i],vs2[i],SqL.of h,SqL.of h2,by simp[l1],by simp[l2]⟩
 stop:=λH r=>by
  let⟨b,vs,e,_,h,rs⟩:=r.1.bD;cases e;let⟨b2,vs2,e,_,h2,rs2⟩:=r.2.bD;cases e;refine⟨vs,vs2,SqL.of h,SqL.of h2,?_⟩;rw[Ä,List.length_zip,⇑rs,⇑rs2];lia
 yld:=λi H x H' r y=>by
  let⟨t,v,v2,rfl,ht,rfl,y1,y2⟩:=y;have sm:Same H (upd H t (.tup [v,v2])):=λb u q=>by rw[aj (ao q ht)];exact q
  refine⟨sm,λd hd=>?_⟩;let⟨b,vs,e,_,h,rs⟩:=r.1.bD;cases e;let⟨b2,vs2,e,_,h2,rs2⟩:=r.2.bD;cases e;rw[à]at hd;cases he:(ds.zip es)[i]? with
  |none=>rw[he]at hd;cases hd
  |some pq =>
   rw[he]at hd;have e:=Ô hd;subst e;let⟨g1,g2⟩:=List.getElem?_zip_eq_some.mp he;let⟨w1,hw1,rw1⟩:=rs.getD g1;let⟨w2,hw2,rw2⟩:=rs2.getD g2;have z1:=y1 vs (SqL.of h);rw[hw1]at z1;cases z1;have z2:=y2 vs2 (SqL.of h2);rw[hw2]at z2;cases z2;exact .tup aq (.cons (rw1.mono (λ_ o=>o) (λa o _ e=>sm a o e) λa xs e=>sm a _ e) (.cons (rw2.mono (λ_ o=>o) (λa o _ e=>sm a o e) λa xs e=>sm a _ e) .nil))
 stab:=λH H' r f t=>⟨r.1.bN (λa o n e=>⟨n,f a o n e⟩) t,r.2.bN (λa o n e=>⟨n,f a o n e⟩) t⟩
def iZp(ta:DA):DI:=λρ P=>ta ρ λks=>match ks with
 |[(k1,.list ds),(k2,.list es)]=>P (k1.join k2) ((ds.zip es).map prD)
 |_=>False
def Ec{elts:List Zt}{kk:Nat}{c:Pos}{a b:Zt}{ps:Pos}(hm:X.mg "zip"=none)(ha:PDA X [a,b] ta)(hg:Gl X "zip":=by rfl)(l:Zu [a,b] X.env=(false,Zv a X.env)::Zu [b] X.env:=by rfl)(m:(Zw pos (Zu [b] X.env)).any (·.1)=false:=by rfl):PDI X (.Tuple elts kk c) (.Call (.Name "zip" ps) [a,b] [] pos) (iZp ta):=PI.wk (R7 hg hm ha l m) (by
 rintro σ H R ⟨p,k,own,ρ,P,E,t,q⟩;refine⟨p,k,own,ρ,_,E,t,λks vs H1 h A r=>?_⟩;split at h
 ·rename_i g ds i o;let⟨u,v,rfl,d,f⟩:=JB r;have d:=iJ A (dI g i).1 d;have f:=iJ A (dI g i).2 f;let⟨a,vs,e,_,ha,s⟩:=Rp.bD (id d);subst e;let⟨b,j,e,_,hb,n⟩:=Rp.bD (id f);subst e;exact⟨a,b,vs,j,rfl,SqL.of ha,SqL.of hb,q (g.join i) _ _ H1 _ h A Jg ⟨rpA d,rpA f⟩⟩
 ·exact h.elim)
end
end Dl
namespace Wr
open PySem L2 PyProof.Rows Dl
variable [Gr] {X:Cx}{pos:Pos}{ta:DA}
def Ec{elts:List Zt}{kk:Nat}{c:Pos}{a b:Zt}{ps:Pos}(hm:X.mg "zip"=none)(ha:WDA X [a,b] ta)(hg:Gl X "zip":=by rfl)(d:Zu [a,b] X.env=(false,Zv a X.env)::Zu [b] X.env:=by rfl)(e:(Zw pos (Zu [b] X.env)).any (·.1)=false:=by rfl):WDI X (.Tuple elts kk c) (.Call (.Name "zip" ps) [a,b] [] pos) (iZp ta):=⟨Dl.Ec hm ha.h hg d e⟩
end Wr
namespace L2
open PySem PyProof.Rows
def Asc(xs:Array Nat):Prop:=xs.toList.Pairwise (·<·)
structure Good(w:Zb)(t:VO):Prop where
 asc:Asc t.place
 dum:t.dummies=#[]
 led:t.led=!w.params.followText "set-order"
section
variable{w:Zb}{t:VO}
end
section
variable{P:Za}{w:Zb}{A:Zr}{E:eB}{s:Shared}
section
variable{P:Za}{w:Zb}{A:Zr}{R:Result->Shared->Prop}{I:Addr}{fp wr:List Addr}{G:Array ZC->Array ZC->Prop}{n:Nat}{W:Nat->Value->Prop}{St:Nat->Shared->Prop}
end
end
section
variable{P:Za}{w:Zb}{A:Zr}{E:eB}{s:Shared}{I a:Addr}{f:Value}{i n ep:Nat}{o:Obj}{es:Array (Int×Value)}{t:VO}
end
section
variable{P:Za}{w:Zb}{A:Zr}{E:eB}{s:Shared}
variable{a:Addr}{i ep:Nat}{o:Obj}{es:Array (Int×Value)}{t:VO}
end
section
variable{P:Za}{w:Zb}{A:Zr}{E:eB}{s:Shared}{I a:Addr}{ep:Nat}{o:Obj}{es:Array (Int×Value)}{t:VO}
end
end L2
namespace L2
open PySem PySem.Spec PyProof.Rows
section
variable{P:Za}{w:Zb}{A:Zr}{E:eB}{s:Shared}{a:Addr}{S:Int->Bool}{n:Nat}
end
end L2
namespace L2
open PySem PyProof.Rows
section
variable{X:Cx}{pins:List (Addr×Obj)}{σ:List (Option V)}{H:Hp}{s:Shared}
end
end L2
namespace Dl
open PySem L2 PyProof.Rows
variable [Gr]
section
variable{X:Cx}{pos pos':Pos}{a:Zt}{t:DA}
end
end Dl
namespace Wr
open PySem L2 PyProof.Rows Dl
section
variable [Gr] {X:Cx}{pos pos':Pos}{a:Zt}{t:DA}
end
end Wr
namespace L2
open PySem PySem.Spec PyProof.Rows
open PySem.AutoSeq1 (wpAny_loadPart')
open PySem.MeetsSeq PySem.MeetsSeq3
section
variable{prog:Za}{w:Zb}{A:Zr}{E:eB}{s:Shared}
end
section
variable{X:Cx}
end
end L2
namespace Dl
open PySem L2 PyProof.Rows
section
variable{X:Cx}{pos:Pos}{a:Zt}{t:DA} [Gr]
end
end Dl
namespace L2
open PySem PySem.Spec PyProof.Rows
section
variable{prog:Za}{w:Zb}{A:Zr}{E:eB}{s:Shared}
end
section
variable{X:Cx}
end
end L2
namespace Dl
open PySem L2 PyProof.Rows
section
variable{X:Cx}{pos:Pos}{a e:Zt}{t:DA} [Gr]
end
end Dl
namespace L2
open PySem PySem.Spec PyProof.Rows
open AutoSeq1 in
section
variable{X:Cx}
end
end L2
namespace Dl
open PySem L2 PyProof.Rows
variable [Gr]
section
variable{X:Cx}{st:ZF}{te:DE}{pos:Pos}{ta:DA}
end
end Dl
namespace Wr
open PySem L2 PyProof.Rows Dl
section
variable [Gr] {X:Cx}{pos:Pos}{a:Zt}{ta t:DA}{te:DE}
end
end Wr
namespace Dl
open PySem L2 PyProof.Rows
variable [Gr]
section
variable{X:Cx}{st st2:ZF}{rest:List ZF}{tj te1 te2:DE}{tt:DT}{t:DS}{K:á}
end
end Dl
namespace Wr
open PySem L2 PyProof.Rows Dl
section
variable [Gr] {X:Cx}{tj te1 te2:DE}
end
end Wr
namespace L2
open PySem PySem.Spec PyProof.Rows
structure LamScope(ps ys:List Str)(sc:Zs)(cl:List (Str×Addr)):Prop where
 kind:sc.kind=.function
 co:sc.isCoroutine=false
 gen:sc.isGenerator=false
 nd:(ps++ys).Nodup
 par:∀x∈ps,sc.names.lookup x=some .local
 fre:∀y∈ys,sc.names.lookup y=some .free
 nocell:∀x∈sc.names,x.2≠.cell
 all:∀x,sc.names.lookup x=some .free->∃c,cl.lookup x=some c
 inj:∀x y c,cl.lookup x=some c->cl.lookup y=some c->x=y
structure Caps(base:Zg)(cl:List (Str×Addr))(ys:List Str)(cvs:List V):Prop where
 len:⇑cvs=⇑ys
 cells:∀x c,cl.lookup x=some c->∃v,base.IsCell c v
 val:∀(j:Nat)(y:Str)(v:V),ys[j]?=some y->cvs[j]?=some v->∃c u,cl.lookup y=some c/\base.IsCell c (some u)/\RelV v u
def W5(x:Obj)(a:Str):Prop:=∃vs t,x.data=.fields vs/\vs[1]?=some (.str a t)
def Xa(H:Hp)(b:Addr)(a:Str):Prop:=∃x φ,H b=some (.frz x (.ext φ))/\W5 x a
section
variable{X:Cx}{CX:CXT}{k i:Nat}{f:Addr}{fd:Yc}{ps:List Str}{sp:Sp}{E:XK}{x:Str}{p pos:Pos}{e:Zt}{es:List Zt}{t:TA}
end
section
variable{X:Cx}{pins:List (Addr×Obj)}{σ:St}{H:Hp}{s:Shared}{c P:Addr}{pos:Pos}{qual:Str}{params:Yk}{body:Zt}{scope:Zs}{cl:List (Str×Addr)}{Q:eB}{E:eB}
end
structure LamAt(base:Zg)(f c':Addr)(qual:Str)(params:Yk)(body:Zt)(scope:Zs)(cl:List (Str×Addr))(ys:List Str)(cvs:List V)(H:Hp):Prop where
 fn:∃pm ctv,base.get? f=some (W.kla_obj "<lambda>" qual params body scope cl pm c' ctv)
 caps:Caps base cl ys cvs
 kn:Xa H c' qual
section
variable{X:Cx}{k:Nat}{fh c P:Addr}{fdh:Yc}{ps ys:List Str}{sp:Zg->Sp}{x:Str}{p pos lpos:Pos}{e:Zt}{te:TE}{qual:Str}{params:Yk}{body:Zt}{scope:Zs}{cl:List (Str×Addr)}
end
end L2
namespace Dl
open PySem L2 PyProof.Rows
section
variable [Gr] {X:Cx}{k j:Nat}{x:Str}{ps:List Str}{e:Zt}{es:List Zt}{t:DA}{p pos:Pos}{C:Pn->Prop}{T:Pn}{i:Nat}{f:List D->(D->Prop)->Prop}
end
section
variable{X:Cx}{k j:Nat}{x:Str}{ps:List Str}{e:Zt}{es:List Zt}{t:DA}{p pos:Pos}{Z:Hp->Prop}{i:Nat}{f:Addr}{fd:Yc}{g:List D->(D->Prop)->Prop}
end
end Dl
namespace Wr
open PySem L2 PyProof.Rows Dl
variable{X:Cx}{k j:Nat}{x:Str}{ps:List Str}{e:Zt}{es:List Zt}{t:DA}{p pos:Pos}{Z:Hp->Prop}{i:Nat}{f:Addr}{fd:Yc}{g:List D->(D->Prop)->Prop}
end Wr
namespace Dl
open PySem L2 PyProof.Rows
section
variable{X:Cx}{k j:Nat}{x:Str}{ps:List Str}{e:Zt}{es:List Zt}{t:DA}{p pos:Pos}{T:Pn}{f:List D->(D->Prop)->Prop}
end
end Dl
namespace Wr
open PySem L2 PyProof.Rows Dl
variable{X:Cx}{k j:Nat}{x:Str}{ps:List Str}{e:Zt}{es:List Zt}{t:DA}{p pos:Pos}{T:Pn}{f:List D->(D->Prop)->Prop}
end Wr
namespace L2
open PySem PySem.Spec PyProof.Rows
section
variable{X:Cx}{k i:Nat}{f CF:Addr}{fd:Yc}{sp:Sp}{E:XK}{x hx n:Str}{p np cpos epos hpos pos:Pos}{b₀:ZF}{suite:List ZF}{ts:TS}{j:Nat}
end
section
variable{X:Cx}{k:Nat}{fh c P:Addr}{fdh:Yc}{ps ys:List Str}{sp:Zg->Sp}{x:Str}{p pos lpos:Pos}{qual:Str}{params:Yk}{body:Zt}{scope:Zs}{cl:List (Str×Addr)}
end
end L2
namespace Dl
open PySem L2 PyProof.Rows
section
variable{X:Cx}
def JH(K:á):V->List V->Hp->VK->Prop:=λx vs H Q=>∃(l:Addr)(ns:List Int)(k:Int),x=.ref l/\vs=[.int k]/\SqL K H l (ns.map V.int)/\(ē (ns.map Â)).layable0=true/\k∈ns/\Q (.int ((ns.idxOf k:Nat):Int)) H
def KH:MtM X "list.index" (JH X.K):=by
 intro b s σ H x vs v us Q I f a h;let⟨l,ns,k,rfl,rfl,hl,c,hk,q⟩:=h;cases f;let⟨u,rfl,e⟩:=a.one;let⟨t,rfl⟩:=e;let⟨its,a,d,g⟩:=I.list hl;exact index_list_ints d.isList (intsAre_of a) c hk ⟨.int _,H,I.tok _,⟨_,rfl⟩,q⟩
end
section
variable [Gr] {X:Cx}{e:Zt}{te ta:DE}
def U4(te:DE)(ta:DE):DE:=λρ P=>te ρ λ_ d=>∃ns:List Int,d=.list (ns.map Â)/\ta ρ λ_ d2=>match d2 with
 |.int k=>(ē (ns.map Â)).layable0=true/\k∈ns/\P .imm (.int ((ns.idxOf k:Nat):Int))
 |_=>False
theorem su{o:Zt}{cpos:Pos}(h:PE X e (tBM X.K "list" (JH X.K) (aU te) (jo (aQ ta dX)))):PD X e (U4 te ta):=PE.wk h (by
 rintro σ H Q ⟨p,g,own,ρ,P,E,t,q⟩;refine⟨p,g,own,ρ,_,E,t,λk d v H1 h A r=>?_⟩;let⟨ns,rfl,h⟩:=h;let⟨l,vs,rfl,J,hl,B⟩:=Rp.bD r;have n:=Rps.ints B;subst n;refine⟨.inl ⟨rfl,_,SqL.of hl⟩,p,g,own,ρ,_,E.go A.kp A.pen,qU h,?_⟩;rintro ks us F ⟨G,m,rfl,a⟩ f z;let⟨y,rfl,C⟩:=dh z;have j:=A.base f;cases m with
 |int i =>
  have w:=Rp.int' C;subst w;have x:=iK A f.kp r;let⟨I,D,u,L,b,c⟩:=Rp.bD x;cases u;have s:=Rps.ints c;subst s;exact⟨l,ns,i,rfl,rfl,SqL.of b,a.1,a.2.1,q _ _ _ _ a.2.2 j (.int _)⟩
 |_=>exact a.elim)
end
end Dl
namespace Wr
open PySem L2 PyProof.Rows Dl
section
variable [Gr] {X:Cx}{te ta:DE}
def su{o e:Zt}{f:List Zt}{b cpos:Pos}(hv:WD X o te)(ha:WDA X (e::f) (aQ ta dX))(c:YB o "index" X.env (Zv o X.env)=Zv o X.env:=by rfl)(g:zW X cpos (e::f):=by rfl)(d:(b.endLine==cpos.line)=true:=by rfl)(hst:zS X e f:=by rfl)(a:zP X cpos f:=by rfl)
 :WD X (.Call (.Attribute o "index" b) (e::f) [] cpos) (U4 te ta):=⟨Dl.su (o:=o) (cpos:=cpos) (uZ ł PySem.F.slot_list_index PySem.F.type_list_index KH hv.h ha.h c g d hst a)⟩
end
end Wr
set_option maxHeartbeats 4000000
namespace Dl
open PySem L2 PyProof.Rows
variable [Gr]
def Ms(i:Nat)(c:DE):DS:=λP ρ=>match ρ[i]? with
 |some (.sp r b ds)=>c ρ λk d=>match d with
  |.list a=>k.le (spK b)=true/\⇑ds+⇑a<=1000/\P.nx ((forget r ρ).set i (.sp r b (ds++a)))
  |_=>False
 |_=>False
section
variable{X:Cx}{st:ZF}{te:DE}
def xZ{i:Nat}(h:PS X st (uT (tBM X.K "list" Fx (nU i) (jo (aQ te dX))))):PDS X st (Ms i te):=PS.wk' h (by
 rintro Q σ H ⟨p,f,own,ρ,P,E,t,w⟩;unfold Ms at t;split at t
 ·rename_i r b ds hr;let⟨l,vs,hv,o,m,q⟩:=E.slot i _ hr;refine⟨.ref l,hv,.inl ⟨rfl,vs,SqL.of m⟩,p,f,own,ρ,_,E,qU t,?_⟩;rintro ks M g ⟨k,d,rfl,hh⟩ A D;cases d with
  |list es =>
   let⟨hk,j,hn⟩:=hh;let⟨y,rfl,F⟩:=dh D;let⟨b2,G,B,L,hb,s⟩:=Rp.bD F;subst B;have v:=E.go A.kp A.pen;have h1:g l=some (.lst vs):=A.kp l _ m (E.ow l r o).2.1;have a:Rps (okS p f own b) g vs ds:=q.mono (λ_ o=>o) (λc u n e=>A.kp c u e n.2.1) A.tups;have C:=ü;have I:=⇑q;have J:=⇑s;refine⟨l,b2,vs,G,rfl,rfl,h1,hb,(),?_⟩;let⟨x,z⟩:=v.Fv (b:=b) hv o h1 (a.app (FZ A hk s));exact w.nx _ σ _ _ x (A.frs.trans z) hn
  |_=>exact hh.elim
 ·exact t.elim)
end
end Dl
namespace Wr
open PySem L2 PyProof.Rows Dl
section
variable [Gr]
variable{X:Cx}{te:DE}
def xZ{i:Nat}{x:Str}{e:Zt}{f:List Zt}{a cpos g pos:Pos}(hv:WV X (.Name x g) i)(ha:WDA X (e::f) (aQ te dX))(c:YB (.Name x g) "extend" X.env (Zv (.Name x g) X.env)=Zv (.Name x g) X.env:=by rfl)(j:zW X cpos (e::f):=by rfl)(d:(a.endLine==cpos.line)=true:=by rfl)(hst:zS X e f:=by rfl)(b:zP X cpos f:=by rfl)(hs:ZO (.Call (.Attribute (.Name x g) "extend" a) (e::f) [] cpos) none pos.line X.env=pure false:=by rfl) :
  WDS X (.Expr (.Call (.Attribute (.Name x g) "extend" a) (e::f) [] cpos) pos) (Ms i te):=⟨Dl.xZ (jK (uZ ł PySem.F.slot_list_extend PySem.F.type_list_extend Hq hv.h ha.h c j d hst b) hs)⟩
end
end Wr
namespace Dl
open PySem L2 PyProof.Rows
variable [Gr]
abbrev SM:=List (Str×D)
def skD(m:SM):List (D×D):=m.map λp=>(.str p.1,p.2)
def PL(m:SM)(k:Str):Bool:=m.any λp=>decide (p.1=k)
def HJ(m:SM)(k:Str):Option D:=(m.find? λp=>decide (p.1=k)).map (·.2)
def tPS:List (DE×DE)->List Sl->(SM->Prop)->Prop
 |[],_,P=>P []
 |(tk,tv)::r,ρ,P=>tk ρ λ_ d1=>tv ρ λk2 d2=>match d1 with
  |.str x=>(norm k2 d2).le .new=true/\tPS r ρ λl=>P ((x,d2)::l)
  |_=>False
def tDS(a:List (DE×DE)):DE:=λρ P=>tPS a ρ λl=>(l.map (·.1)).Nodup/\⇑l<=15/\P .new (.dict (skD l))
def lK{a:List (Key×V)}{k:Key}{v:V}(h:k∉a.map (·.1)):putK a k v=a++[(k,v)]:=by
 unfold putK;rw[em];intro z;let⟨p,hp,e⟩:=ŕ.mp z;exact h (Ć.mpr ⟨p,hp,eh e⟩)
theorem zZ:∀(a acc:List (Key×V)),(acc.map (·.1)++a.map (·.1)).Nodup->ji acc a=acc++a
 |[],acc,_=>(Ĕ acc).symm
 |p::r,acc,h=>by
  show ji (putK acc p.1 p.2) r=_;rw[ò]at h;have h2:=(Š.mp h)
  rw[lK λz=>h2.2.2 _ z _ Ó rfl,zZ r _ (by rw[ì,ĩ];exact h),ĩ];rfl
theorem zy:∀(m:List (DE×DE)) {p:Pn}{g:Hp}{own:Addr->Option Nat}{ρ:List Sl}{c:Addr}{σ:L2.St}{b:Hp}{P:SM->Prop}{Q:List (V×V)->Hp->Prop},EnvD p g own σ b ρ->b c=some (.dK [])->¬p.fp c->tPS m ρ P ->
  (∀(f:Hp)(d:List (Key×V))(l:SM),Kp p b f->p.PI f->f c=some (.dK [])->Rkv (λa=>b a=none) f d (skD l)->d.map (·.1)=l.map (λx=>Ś x.1)->P l->Q (d.map λkv=>(kV kv.1,kv.2)) f) ->
  wg (m.map λt=>(aU t.1,aU t.2)) σ b Q
 |[],p,g,own,ρ,c,σ,b,P,Q,E,hc,_,t,q=>q b [] [] Kp.refl E.pen hc .nil rfl t
 |(tk,tv)::r,p,g,own,ρ,c,σ,b,P,Q,E,hc,nf,t,q=>by
  refine⟨p,g,own,ρ,_,E,t,λk1 d1 v1 f t1 A1 r1=>?_⟩;have i:=E.go A1.kp A1.pen;refine⟨p,g,own,ρ,_,i,t1,λk2 d2 v2 H3 t2 A2 r2=>?_⟩;have s:=i.go A2.kp A2.pen;have h2:=A1.kp c _ hc nf;have v:=A2.kp c _ h2 nf;cases d1 with
  |str x =>
   have u:=Rp.str' r1;subst u;refine zy r s v nf t2.2 λH4 d l k4 p4 h4 rk ek hp=>?_;refine q H4 ((Ś x,v2)::d) ((x,d2)::l) ((A1.kp.trans A2.kp).trans k4) p4 h4 ?_ (by rw[ò,ò,ek]) hp;have w:∀a,f a=none->b a=none:=λa n=>by
    cases e:b a with
    |none=>rfl
    |some o=>rw[A1.kp a o e (A2.nfb n)]at n;cases n
   have y:Rp (okK p g own f .new) H3 v2 d2:=iJ A2 t2.1 (aX r2);refine .cons (k:=Ś x) (y.bN (λa o n e=>⟨w a n,k4 a o e (A2.nfb n)⟩) λa xs e=>iy A2 k4 a xs e) ?_;refine rk.mono (λa n=>?_) (λ_ _ _ e=>e) λ_ _ e=>e;cases e:b a with
   |none=>rfl
   |some o =>
    have h:¬p.fp a:=λz=>by
     let⟨A,j,_⟩:=p.is H3 a A2.pen z;rw[n]at j;cases j
    rw[A2.kp a o (A1.kp a o e h) h]at n;cases n
  |_=>exact t2.elim
section
variable{X:Cx}{pos:Pos}{a b:Zt}{ta tb:DE}{keys:List (Option Zt)}{values:List Zt}{tt:List (DE×DE)}
def Kg(h:PPs X pos keys values (tt.map λt=>(aU t.1,aU t.2)))(e:keys.all (·.isSome)=true)(hl:⇑keys=⇑values)(j:keys≠[])(g:⇑keys<=15):PD X (.Dict keys values pos) (tDS tt):=PE.wk (FN h e hl j g) (by
 rintro σ H Q ⟨p,u,own,ρ,P,E,t,q⟩;intro c hc;have d:=E.at;let⟨m,k,s⟩:=d.new hc (.dK []);have i:=d.nfb hc;refine zy tt (E.go m k) aq i t λH2 kvs l k2 p2 h2 rk ek ⟨nd,ll,hp⟩=>?_;have v:⇑kvs=⇑l:=by have:=et List.length ek;rwa [Ä,Ä]at this
 have r:ji [] kvs=kvs:=by
  rw[zZ kvs [] (by
   show(kvs.map (·.1)).Nodup;rw[ek];have:l.map (λx=>(Ś x.1:Key))=(l.map (·.1)).map Ś:=by rw[Ė];rfl
   rw[this];exact List.Pairwise.map _ (λ_ _ n z=>n (Sum.inr.inj z)) nd)]
  rfl
 refine⟨h2,kvs,rfl,(),?_⟩;rw[r];have K:Kp p H (upd H2 c (.dK kvs)):=λx o ex nx=>by
  rw[aj (ao ex hc)];exact k2 x o (by rw[aj (ao ex hc)];exact ex) nx
 have f:p.PI (upd H2 c (.dK kvs)):=p.mono H2 _ p2 λx o fx ex=>by
  rw[aj (λz:x=c=>fx.elim (λfx=>i (by rw[←z];exact fx)) λ⟨_,_,y⟩=>by rw[z,h2,y]at ex;cases ex)];exact ex
 refine q _ _ _ _ hp ⟨d.k0,K,d.penb,f,d.ow⟩ (.dct s aq ?_);refine rk.bN (λx o n ex=>⟨?_,?_⟩) λx xs ex=>?_
 ·by_cases z:x=c
  ·rw[z];exact hc
  ·rwa [aj z]at n
 ·rw[aj (λz=>by rw[z,aq]at n;cases n)];exact ex
 ·rw[aj (λz=>by rw[z,h2]at ex;cases ex)];exact ex)
theorem Rkv.get:∀{ok:Addr->Prop}{H:Hp}{f:List (Key×V)}{m:SM} (k:Str),Rkv ok H f (skD m)->(fC f (Ś k)).isSome=PL m k/\∀d,HJ m k=some d->∃v,fC f (Ś k)=some v/\Rp ok H v d
 |_,_,_,[],k,h=>by cases h;exact⟨rfl,λd e=>nomatch e⟩
 |ok,H,_,p::m,k,h=>by
  unfold skD at h;rw[ò]at h;generalize hk:PyData.str p.1=kk at h;cases h with
  |@cons k1 v _ vs _ h t =>
   let⟨g,i⟩:=Rkv.get (m:=m) k t;obtain rfl:k1=Ś p.1:=by
    cases k1 with
    |inl j=>cases hk
    |inr x=>cases hk;rfl
   by_cases c:p.1=k
   ·refine⟨?_,λd e=>?_⟩
    ·rw[fW (by rw[c])];show true=(decide (p.1=k) || _)
     rw[decide_eq_true c];rfl
    ·unfold HJ at e;rw[Ĭ,decide_eq_true c]at e;cases e;exact⟨v,fW (by rw[c]),h⟩
   ·have e:fC ((Ś p.1,v)::vs) (Ś k)=fC vs (Ś k):=by
     unfold fC;rw[Ĭ,eg (λz=>c (Sum.inr.inj z))]
    refine⟨?_,λd ed=>?_⟩
    ·rw[e,g];show _=(decide (p.1=k) || _)
     rw[eg c];rfl
    ·unfold HJ at ed;rw[Ĭ,eg c]at ed;rw[e];exact i d ed
def Gn:G2:=λ_ d1 _ d2 P=>match d1,d2 with
 |.str k,.dict ds=>∃m:SM,ds=skD m/\P .imm (.bool (PL m k))
 |_,_=>False
def DN:G2:=λk1 d1 _ d2 P=>match d1,d2 with
 |.dict ds,.str k=>∃(m:SM)(d:D),ds=skD m/\HJ m k=some d/\P (norm k1 d) d
 |_,_=>False
def Ht:∀σ H Q,aU (t2 Gn ta tb) σ H Q->U6 (aU ta) (aU tb) σ H Q:=by
 rintro σ H Q ⟨p,d,own,ρ,P,E,t,q⟩;refine⟨p,d,own,ρ,_,E,t,λk1 d1 v1 H1 t1 A1 r1=>?_⟩;refine⟨p,d,own,ρ,_,E.go A1.kp A1.pen,t1,λk2 d2 v2 H2 t2 A2 r2=>?_⟩;have A:=A1.base A2;unfold Gn at t2;split at t2
 ·rename_i k ds;let⟨m,rfl,t2⟩:=t2;have e:=Rp.str' r1;subst e;let⟨c,f,rfl,o,hc,g⟩:=Rp.HY r2;refine⟨c,_,rfl,pR.k (k:=Ś k) hc,?_⟩;rw[(Rkv.get k g).1];exact q _ _ _ _ t2 A (.bl _)
 ·exact t2.elim
def CQ(hu:X.A.units+64<Yb)(ha:PD X a ta)(hb:PD X b tb)(hm:ZJ .In b=false:=by rfl):PD X (.Compare a [.In] [b] pos) (t2 Gn ta tb):=PE.wk (Sy (SQ (hu1 hu) ha hb) hm) Ht
def sH(hu:X.A.units+64<Yb)(ha:PD X a ta)(hb:PD X b tb)(hs:Iz b:=by exact λ_ _=>rfl):PD X (.Subscript a b pos) (t2 DN ta tb):=PE.wk (FP (hu1 hu) ha hb hs) (by
 rintro σ H Q ⟨p,e,own,ρ,P,E,t,q⟩;refine⟨p,e,own,ρ,_,E,t,λk1 d1 v1 H1 t1 A1 r1=>?_⟩;refine⟨p,e,own,ρ,_,E.go A1.kp A1.pen,t1,λk2 d2 v2 H2 t2 A2 r2=>?_⟩;have A:=A1.base A2;unfold DN at t2;split at t2
 ·rename_i ds k;let⟨m,d,rfl,hg,t2⟩:=t2;have f:=Rp.str' r2;subst f;let⟨c,h,rfl,o,hc,i⟩:=Rp.HY (iK A1 A2.kp r1);let⟨v,g,j⟩:=(Rkv.get k i).2 d hg;refine⟨c,v,rfl,?_,q _ _ _ _ t2 A (aX j)⟩;rw[←g];exact pR.k (k:=Ś k) hc
 ·exact t2.elim)
end
end Dl
namespace Wr
open PySem L2 PyProof.Rows Dl
variable [Gr] {X:Cx}{pos:Pos}{a b:Zt}{ta tb:DE}
structure WPP(X:Cx)(pos:Pos)(keys:List (Option Zt))(values:List Zt)(tt:List (DE×DE)):Prop where
 h:PPs X pos keys values (tt.map λt=>(aU t.1,aU t.2))
def R5:WPP X pos [] [] []:=⟨FJ⟩
def wK{k v:Zt}{ks:List (Option Zt)}{vs:List Zt}{tk d:DE}{c:List (DE×DE)}(hk:WD X k tk)(hv:WD X v d)(hr:WPP X pos ks vs c):WPP X pos (some k::ks) (v::vs) ((tk,d)::c):=⟨zm hk.h hv.h hr.h⟩
def Kg{c:List (Option Zt)}{d:List Zt}{g:List (DE×DE)}(h:WPP X pos c d g)(e:c.all (·.isSome)=true:=by rfl)(hl:⇑c=⇑d:=by rfl)(i:c≠[]:=by exact λz=>nomatch z)(f:⇑c<=15:=by decide):WD X (.Dict c d pos) (tDS g):=⟨Dl.Kg h.h e hl i f⟩
def CQ(hu:X.A.units+64<Yb)(ha:WD X a ta)(hb:WD X b tb)(hm:ZJ .In b=false:=by rfl):WD X (.Compare a [.In] [b] pos) (t2 Gn ta tb):=⟨Dl.CQ hu ha.h hb.h hm⟩
def sH(hu:X.A.units+64<Yb)(ha:WD X a ta)(hb:WD X b tb)(hs:Iz b:=by exact λ_ _=>rfl):WD X (.Subscript a b pos) (t2 DN ta tb):=⟨Dl.sH hu ha.h hb.h hs⟩
end Wr
open Wr renaming eY→À,jL→Á,dv→Ã,yd→Ç,je→È,Kf→Ñ,pC→Ö,pB→Ü,yh→ß,DY→ä,uf→ç,ud→ê,lU→ï,qO→ø,dc→ù,Mh→ý,Ed→Ċ,uh→ċ,wQ→Đ,Ea→Ġ,wU→ġ,oh→Ģ,pI→ģ,wR→ĭ,FQ→Ĳ,wv→ĵ,wV→Ō,qY→ō,pG→Œ,wW→Ŗ,Ke→ř,CG→ŧ,dcP→Ũ,xW→ŭ,yc→Ů,yg→ů,Cu→Ŵ,sJ→ŵ,wO→ž
open Dl renaming Cal→ĉ,any_ints→Č,Bn→Ĩ,FW→ň,Hu→Ŭ
open L2 renaming J3→Ł
namespace Nf
open PySem L2 PyProof.Rows Dl
def okT{P:Za}{w:Zb}{K:PySem.W.Frag}{c:Str->Option Value}{base:Zg}{x q:Str}{st:ZF}{f:Addr}{b:Yc}{N ps:List Str}{k:Nat}{g:List D->(D->Prop)->Prop}{T:DS}(F:Fun K x q st f b)(S:FnScope N ps (aH st))(B:∀{cdv A outer s H E},Room k (A.deeper (Yj q (aH st) ↥s f cdv))->N.Nodup->Wr.WDSs (Ei CX0 P w K c base N q (aH st) f cdv A outer s H E).nox (fK st) T)(R:∀ds P,g ds P->∃ρ,ds.map cg++Ú (⇑N - ⇑ds) .any=ρ/\T { nx:=λ_=>P .none,rt:=P } ρ)(a:∀vs H Q E,spD g vs H Q E->⇑vs=⇑ps:=by exact mQ):FnOk P w K c base CX0 (k+1) f b ps (spD g):=F.ok S a λcdv A outer s H vs Q E hr h=>⟨_,(B hr S.nd).h,Ma h R⟩
def top(i:Nat):ZF:=PySem.Challenge.pw_nofall_k15_whole_one_sort_alone.main.body.getD i (.Pass ⟨0,0,0,0⟩)
def cj(d:D):cg d=.im d\/cg d=.sh d:=by
 unfold cg;by_cases h:cM d=true
 ·rw[el h];exact .inl rfl
 ·rw[em h];exact .inr rfl
def PSs.wk{X:Cx}{a:List ZF}{t t':TS}(h:PSs X a t)(w:∀D σ H,t' D σ H->t D σ H):PSs X a t':=λpins s σ H D I q=>h pins s σ H D I (w D σ H q)
def Sg(p sc:Addr)(ns:List Int)(b:Bool):Pn where
 fp:=λa=>a=p\/(b=true/\a=sc)
 PI:=λH=>(∃x y:Int,H p=some (.lst [.ref sc,.int x,.int y]))/\(b=true->Rd H sc (.lst (ns.map V.int)))
 pv:=.ref p
 mono:=λH H' ⟨⟨x,y,h⟩,r⟩ k=>⟨⟨x,y,k _ _ (.inl (.inl rfl)) h⟩,λe=>(r e).elim (λz=>.inl (k _ _ (.inl (.inr ⟨e,rfl⟩)) z)) λ⟨o,z⟩=>.inr ⟨o,k _ _ (.inl (.inr ⟨e,rfl⟩)) z⟩⟩
 is:=λH a ⟨⟨x,y,h⟩,r⟩ hb=>by
  rcases hb with rfl|⟨e,rfl⟩
  ·exact⟨_,h,(λxs z=>(nomatch z)),λ⟨_,_,z⟩=>(nomatch z)⟩
  ·rcases r e with z|⟨o,z⟩
   ·exact⟨_,z,(λxs z=>(nomatch z)),λ⟨_,_,z⟩=>(nomatch z)⟩
   ·exact⟨_,z,(λxs z=>(nomatch z)),λ⟨_,_,z⟩=>(nomatch z)⟩
def CP(K:á)(q:Pn):Prop:=∃p sc ns b,(b=true->p≠sc)/\(b=false->∀H,SqL K H sc (ns.map V.int))/\q=Sg p sc ns b
def J1{K:á}{H:Hp}{sc:Addr}{ns:List Int}{b:Bool}(r:b=true->Rd H sc (.lst (ns.map V.int)))(hb:b=false->∀H,SqL K H sc (ns.map V.int)):SqL K H sc (ns.map V.int):=by
 cases b with
 |true=>exact .inl (r rfl)
 |false=>exact hb rfl H
def JG{H:Hp}{sc p:Addr}{u o:HO}(h:Rd H sc u)(n:p≠sc):Rd (upd H p o) sc u:=by
 rcases h with z|⟨o',z⟩
 ·exact .inl (by rw[aj (ĝ n)];exact z)
 ·exact .inr ⟨o',by rw[aj (ĝ n)];exact z⟩
def Al:FF:=λds P=>∃m:Int,ds=[.int m]/\0<m/\m<1073741824/\∀r:Int,0<=r->r<m->P (.int r)
def jO{C:Pn->Prop}{f:List D->(D->Prop)->Prop}{n:Nat}(hn:∀ds P,f ds P->⇑ds=n:=by intro _ _ h;repeat (first|(let⟨rfl,_⟩:=h;rfl)|let⟨_,h⟩:=h)):∀vs H Q E,spP C f vs H Q E->⇑vs=n+1:=λvs H Q E h=>by
 let⟨p,vs',ds,P,_,rfl,_,r,t,_⟩:=h;rw[ÿ,⇑r,hn ds P t]
def KJ{x m:Int}(hm:0<m)(hb:m<=2 ^ 32):-(2 ^ 64)<x % m/\x % m<2 ^ 64:=by
 have h1:=Ų x (b:=m) ();have h2:=Ř x hm;lia
def Qd{i:Int}{ns:List Int}(h:(0:Int)<(⇑(ns.map V.int):Nat)):∃v:Int,atI (ns.map V.int) (i % (⇑(ns.map V.int):Int))=some (.int v):=by
 rw[Ä]at h ⊢;have h1:=Ų i (b:=(⇑ns:Int)) ();have h2:=Ř i h;have hk:(i % (⇑ns:Int)).toNat<⇑ns:=()
 have a:i % (⇑ns:Int)=(((i % (⇑ns:Int)).toNat:Nat):Int):=()
 have q:atI (ns.map V.int) (((i % (⇑ns:Int)).toNat:Nat):Int)=some (.int ns[(i % (⇑ns:Int)).toNat]):=bJ (by rw[à,Ë hk];rfl);rw[←a]at q;exact⟨_,q⟩
def tTk:TS:=λD σ H=>∃(a0 a2 a5:Option V)(m a cell:Int),σ=[a0,some (.int m),a2,some (.int a),some (.int cell),a5]/\0<m/\m<1073741824/\∀r:Int,0<=r->r<m->D.rt (.int r) H
def tCe(K:á)(p sc:Addr)(ns:List Int):TS:=λD σ H=>∃(a2 a5:Option V)(m a cell x y:Int),σ=[some (.ref p),some (.int m),a2,some (.int a),some (.int cell),a5]/\0<m/\m<1073741824/\H p=some (.lst [.ref sc,.int x,.int y])/\SqL K H sc (ns.map V.int) /\
 (∀r:Int,0<=r->r<m->D.rt (.int r) H)/\∀r z:Int,0<=r->r<m->D.rt (.int r) (upd H p (.lst [.ref sc,.int x,.int z]))
def Ue{K:á}{T:DS}{N:List Str}{H:Hp}{Q:VK}{sc:Addr}{ns:List Int}(k:SqL K H sc (ns.map V.int))(q:∀H',Q (.bl true) H')(hN:2<=⇑N)(f:T { nx:=λ_=>False,rt:=λd=>d=.bool true } (.any::.pen (CP K)::Ú (⇑N - 2) .any)) :
  UG (ql (Nr (yO (nU 0) (yO (tC (.int 0)) (yO (tC (.int 0)) Ru)))) (gG 1)) (mO T) { nx:=λ_ H'=>Q .non H',rt:=Q } (L2.start N [.ref sc]) H:=by
 refine⟨_,rfl,by show 3<=sizeLine;decide,λp hp=>?_⟩;show mO T _ ((L2.start N [.ref sc]).set 1 (some (.ref p))) _;have c:∀b,(b=true->p≠sc)->(b=false->∀H,SqL K H sc (ns.map V.int))->(b=true->Rd (upd H p (.lst [.ref sc,.int 0,.int 0])) sc (.lst (ns.map V.int)))->mO T { nx:=λ_ H'=>Q .non H',rt:=Q } ((L2.start N [.ref sc]).set 1 (some (.ref p))) (upd H p (.lst [.ref sc,.int 0,.int 0])):=by
  intro b h1 h2 i;refine⟨Sg p sc ns b,upd H p (.lst [.ref sc,.int 0,.int 0]),λ_=>none,_,_,?_,f,⟨λ_ _ _ _ _ _ n=>n.elim,λd v H' n w=>?_,λ_ _ _ _ _ _ n=>n.elim,λ_ _ _ _ _ _ n=>n.elim⟩⟩
  ·have hl:⇑(L2.start N [.ref sc])=⇑N:=by unfold L2.start;simp;lia
   refine⟨λb o e _=>e,⟨⟨0,0,aq⟩,i⟩,λa r e=>(nomatch e),λj s e=>?_,by rw[List.length_set,hl,ÿ,ÿ,ų];lia,trivial⟩;rcases j with _|_|j
   ·cases e;trivial
   ·cases e;exact⟨ă (by rw[hl];lia),p,sc,ns,b,h1,h2,rfl⟩
   ·rw[List.getElem?_cons_succ,List.getElem?_cons_succ]at e;have g:=(List.mem_replicate.mp (Ê e)).2;subst g;trivial
  ·have n:d=.bool true:=n;subst n;have r:=w.rp;cases r;exact q H'
 rcases k with h|h
 ·have hn:p≠sc:=by
   rintro rfl;rcases h with z|⟨o,z⟩ <;> rw[hp]at z <;> cases z
  exact c true (λ_=>hn) (λz=>nomatch z) λ_=>JG h hn
 ·exact c false (λz=>nomatch z) (λ_ H=>.inr h) λz=>nomatch z
section
variable{P:Za}{w:Zb}{K:á}{mg:Str->Option Value}{base:Zg}{f:Addr}{fd:Yc}
def Fo:FnScope ["_law_pen","_law_many","_law_digit","_law_at","_law_cell","_law_number"] ["_law_pen","_law_many"] (aH (top 53)):=zC
def Ot(F:Fun K dP dP (top 53) f fd)(B:Ĩ mg):FnOk P w K mg base CX0 1 f fd [ae,"_law_many"] (spP (CP K) Al):=by
 refine F.ok Fo jO (λcdv A outer s H vs Q E hr h=>?_);let⟨_,vs',ds,P,⟨p,sc,ns,b,T,S,rfl⟩,rfl,⟨⟨x,y,hp⟩,L⟩,rp,⟨m,rfl,j,g,hP⟩,q⟩:=h;obtain rfl:vs'=[.int m]:=by
  cases rp with
  |cons h1 t=>cases h1;cases t;rfl
 have M:=Fo.nd;have hS:=J1 L S;refine⟨_,bG (Fz (lM FT (jc c7 (pv 0) Ł (λ_ _=>rfl)) Ł (cL _))
   (bG (fM (i:=2) M rfl (Or.inl rfl) (bU iu (jc c7 (pv 0) Ł (λ_ _=>rfl)) (pv 1)))
   (bG (wJ (bU qT (jc c7 (pv 0) Ł (λ_ _=>rfl)) (pv 1)) (Cp (pv 0) Ł set_list))
   (lN (wI (pv 2))))) qK)
  (bG (fM (i:=3) M rfl (Or.inl rfl) (jc c7 (pv 0) Ł (λ_ _=>rfl)))
  (bG (wJ (bU jf (pv 3) Ł) (Cp (pv 0) Ł set_list))
  (bG (fM (i:=4) M rfl (Or.inl rfl) Ł)
  (bG (Fz (lM FT (cV eF rfl B.len PySem.boot_len (bZ (jc c7 (pv 0) Ł (λ_ _=>rfl)) eZ)) Ł (cL _))
   (lN (fM (i:=4) M rfl (Or.inl rfl) (jc c7 (jc c7 (pv 0) Ł (λ_ _=>rfl)) (bU iu (pv 3) (cV eF rfl B.len PySem.boot_len (bZ (jc c7 (pv 0) Ł (λ_ _=>rfl)) eZ))) (λ_ _=>rfl)))) qK)
  (PSs.wk (t':=tCe K p sc ns) (bG (Fz (PW.pt (JL (lM Kh (pv 3) (cV eF rfl B.len PySem.boot_len (bZ (jc c7 (pv 0) Ł (λ_ _=>rfl)) eZ)) (cL _)) (Fy (lM Qz (cV uE rfl B.abs Dl.boot_abs (bZ (pv 4) eZ)) (bU S7 Ł Ł) (cL _)))))
   (bG (wJ (bU qT (cV uE rfl B.abs Dl.boot_abs (bZ (pv 4) eZ)) (pv 1)) (Cp (pv 0) Ł set_list))
   (lN (wI (bU iu (cV uE rfl B.abs Dl.boot_abs (bZ (pv 4) eZ)) (pv 1))))) qK)
  (PSs.wk (t':=tTk) (bG (fM (i:=5) M rfl (Or.inl rfl) (bU iu (bU kI (bU jf (bU jf (bU iu (pv 4) Ł) (bU kI Ł (pv 3))) Ł) Ł) Ł))
  (bG (fM (i:=5) M rfl (Or.inl rfl) (bU iu (bU jf (bU jf (bU kI (pv 5) (pv 5)) (bU kI Ł (pv 5))) (pv 3)) Ł))
  (bG (fM (i:=5) M rfl (Or.inl rfl) (bU iu (bU jf (bU jf (bU kI (pv 5) (pv 5)) (bU kI Ł (pv 5))) Ł) Ł))
  (lN (wI (bU iu (bU qT (pv 5) Ł) (pv 1))))))) ?tk)) ?ce))))),?_⟩
 case tk =>
  rintro D σ d ⟨a0,O,R,m,a,c,rfl,j,g,U⟩;have G:∀x:Int,0<=x % m/\x % m<m:=λx=>⟨Ų _ (),Ř _ j⟩
  refine⟨_,rfl,_,_,rfl,rfl,(by show(0:Int)<2147483629;decide),_,rfl,_,_,rfl,rfl,.inl ⟨∅,∅⟩,_,_,rfl,rfl,_,_,rfl,rfl,_,_,rfl,rfl,.inr ⟨∅,∅⟩,_,_,rfl,rfl,(by show(0:Int)<2147483647;decide),?_⟩;refine⟨_,rfl,_,rfl,_,_,rfl,rfl,.inl (KJ ∅ ∅),_,rfl,_,_,rfl,rfl,.inl ⟨∅,∅⟩,_,_,rfl,rfl,_,rfl,_,_,rfl,rfl,_,_,rfl,rfl,(by show(0:Int)<2147483587;decide),?_⟩;refine⟨_,rfl,_,rfl,_,_,rfl,rfl,.inl (KJ ∅ ∅),_,rfl,_,_,rfl,rfl,.inl ⟨∅,∅⟩,_,_,rfl,rfl,_,_,rfl,rfl,_,_,rfl,rfl,(by show(0:Int)<2147483563;decide),?_⟩;exact⟨_,rfl,_,_,rfl,rfl,⟨∅,∅⟩,_,rfl,_,_,rfl,rfl,j,U _ (G _).1 (G _).2⟩
 case ce =>
  rintro D σ d ⟨O,R,m,a,c,x,y,rfl,j,g,hp,hS,U,W⟩;have G:∀x:Int,0<=x % m/\x % m<m:=λx=>⟨Ų _ (),Ř _ j⟩
  have Z:tTk D [some (.ref p),some (.int m),O,some (.int a),some (.int c),R] d:=⟨_,_,_,m,a,c,rfl,j,g,U⟩
  refine⟨_,rfl,_,rfl,p,_,_,_,rfl,rfl,SqL.of hp,rfl,sc,_,rfl,.inl hS,_,_,rfl,rfl,_,rfl,d8 (λc1=>?_) (λc1=>aD Z)⟩;refine⟨_,rfl,c,rfl,_,_,rfl,rfl,⟨∅,∅,∅⟩,_,_,rfl,rfl,_,rfl,d8 (λI=>?_) (λI=>Z)⟩;exact⟨_,rfl,c,rfl,_,rfl,_,_,rfl,rfl,⟨j,g⟩,_,rfl,p,_,_,_,rfl,rfl,hp,rfl,_,rfl,c,rfl,_,rfl,_,_,rfl,rfl,j,W _ _ (G _).1 (G _).2⟩
 have G:∀x:Int,0<=x % m/\x % m<m:=λx=>⟨Ų _ (),Ř _ j⟩
 have N:∀(d:Hp)(o:HO),(b=true->Rd d sc (.lst (ns.map V.int)))->b=true->Rd (upd d p o) sc (.lst (ns.map V.int)):=λd o r e=>JG (r e) (T e);have J:∀(d:Hp)(r:Int),0<=r->r<m->(∀a o,H a=some o->a≠p->d a=some o)->(Sg p sc ns b).PI d->Q (.int r) d:=λd r h1 h2 k e =>
  q _ _ _ (hP r h1 h2) (λa o e n=>k a o e λz=>n (.inl z)) e (.int r)
 have X:∀(H1:Hp)(o:HO),(∀a o,H a=some o->a≠p->H1 a=some o)->∀a u,H a=some u->a≠p->upd H1 p o a=some u:=λH1 o k a u e n=>by rw[aj n];exact k a u e n
 refine⟨_,rfl,p,_,_,_,rfl,rfl,SqL.of hp,rfl,_,_,rfl,rfl,_,rfl,d8 (λc1=>?_) (λc1=>?_)⟩
 ·exact⟨_,rfl,p,_,_,_,rfl,rfl,SqL.of hp,rfl,_,rfl,_,_,rfl,rfl,j,_,rfl,p,_,_,_,rfl,rfl,SqL.of hp,rfl,_,rfl,_,_,rfl,rfl,⟨j,g⟩,_,rfl,p,_,_,_,rfl,rfl,hp,rfl,_,rfl,J _ _ (G _).1 (G _).2 (X _ _ λb o e _=>e) ⟨⟨_,_,aq⟩,N _ _ L⟩⟩
 ·have l:upd H p (.lst [.ref sc,.int (x+1),.int y]) p=some (.lst [.ref sc,.int (x+1),.int y]):=aq;have Y:=N H (.lst [.ref sc,.int (x+1),.int y]) L;have k1:=X H (.lst [.ref sc,.int (x+1),.int y]) λb o e _=>e;have C:=J1 Y S;have en:∀(a4:Int)(O R:Option V),tCe K p sc ns { nx:=λ_ d=>Q .non d,rt:=Q } [some (.ref p),some (.int m),O,some (.int x),some (.int a4),R] (upd H p (.lst [.ref sc,.int (x+1),.int y])):=λa4 O R =>
   ⟨O,R,m,x,a4,x+1,y,rfl,j,g,l,C,λr r0 r1'=>J _ r r0 r1' k1 ⟨⟨_,_,l⟩,Y⟩,λr z r0 r1'=>J _ r r0 r1' (X _ _ k1) ⟨⟨_,_,aq⟩,N _ _ Y⟩⟩
  refine⟨_,rfl,p,_,_,_,rfl,rfl,SqL.of hp,rfl,?_⟩;refine⟨_,rfl,_,_,rfl,rfl,_,rfl,p,_,_,_,rfl,rfl,hp,rfl,?_⟩;refine⟨_,rfl,p,_,_,_,rfl,rfl,SqL.of l,rfl,sc,_,rfl,.inl C,_,_,rfl,rfl,_,rfl,d8 (λI=>?_) (λI=>en _ _ _)⟩;have I:=eh I;let⟨v,hv⟩:=Qd (i:=x) I;exact⟨_,rfl,p,_,_,_,rfl,rfl,SqL.of l,rfl,_,rfl,_,rfl,p,_,_,_,rfl,rfl,SqL.of l,rfl,sc,_,rfl,.inl C,_,_,rfl,rfl,I,sc,_,_,_,rfl,rfl,C,hv,en _ _ _⟩
structure IsOrd(n:Int)(l:List Int):Prop where
 len:(⇑l:Int)=n
 rng:∀x∈l,0<=x/\x<n
 nd:l.Nodup
def IsOrd.ins{k:Nat}{l:List Int}(h:IsOrd k l)(j:Nat):IsOrd ((k+1:Nat):Int) (l.take j++((k:Nat):Int)::l.drop j):=by
 have p:(l.take j++((k:Nat):Int)::l.drop j).Perm (((k:Nat):Int)::l):=by
  refine List.perm_middle.trans ?_;rw[List.take_append_drop]
 refine⟨?_,λx hx=>?_,?_⟩
 ·rw[p.length_eq,ÿ];have:=h.len;lia
 ·rcases Û.mp (p.mem_iff.mp hx)with z|z
  ·lia
  ·have:=h.rng x z;lia
 ·refine p.symm.nodup ?_;refine ŝ.mpr ⟨λz=>?_,h.nd⟩;have:=h.rng _ z;lia
def IsOrd.at{n:Int}{l:List Int}(h:IsOrd n l){a:Int}(c:0<=a)(h1:a<n):∃x:Int,atI (l.map Â) a=some (.int x)/\(0<=x/\x<n)/\l[a.toNat]?=some x:=by
 have hl:=h.len;have hk:a.toNat<⇑l:=()
 have b:a=((a.toNat:Nat):Int):=()
 have z:atI (l.map Â) ((a.toNat:Nat):Int)=some (.int l[a.toNat]):=bJ (by rw[à,Ë hk];rfl);rw[←b]at z;exact⟨_,z,h.rng _ (į hk),Ë hk⟩
def OkT(n:Int)(t:Tie):Prop:=(0<=t.1/\t.1<n)/\(0<=t.2/\t.2<n)/\t.1≠t.2
def OkN(n:Int)(us:List Tie):Prop:=∀t∈us,OkT n t
def OkN.snoc{n:Int}{us:List Tie}{t:Tie}(h:OkN n us)(h':OkT n t):OkN n (us++[t]):=λu hu=>(ë.mp hu).elim (h u) λz=>by rw[É.mp z];exact h'
def OkW(n:Int)(us:List Tie):Prop:=∀t∈us,0<=t.1/\t.1<t.2/\t.2<n
def app1(c:List Tie)(a b:Int):c.map pD++[Ŏ [.int a,.int b]]=(c++[((a,b):Tie)]).map pD:=by
 rw[ì];rfl
def Ov(us:List Tie):okD (.list (us.map pD))=true/\okD (.tuple (us.map pD))=true:=by
 have h1:∀us:List Tie,ħ (us.map pD)=true:=λus=>by
  induction us with
  |nil=>rfl
  |cons t us b=>exact b
 have h2:∀us:List Tie,Ķ (us.map pD)<=1:=λus=>by
  induction us with
  |nil=>exact Ğ _
  |cons t us b =>
   show max (max 0 (max 0 0)+1) (Ķ (us.map pD))<=1;lia
 have a:Ķ (us.map pD)+1<=60:=by have:=h2 us;lia
 constructor
 ·show(ħ (us.map pD)&&decide (Ķ (us.map pD)+1<=60))=true;rw[h1,decide_eq_true a];rfl
 ·show(ħ (us.map pD)&&decide (Ķ (us.map pD)+1<=60))=true;rw[h1,decide_eq_true a];rfl
def Rm{x y:Int}{out:List Int}(p:out.Perm [x,y])(s:out.Pairwise (·<=·))(n:x≠y):∃u v,out=[u,v]/\u<v/\(u=x\/u=y)/\(v=x\/v=y):=by
 have hl:=p.length_eq;match out,hl with
 |[u,v],_ =>
  have hu:u∈[x,y]:=p.mem_iff.mp (by simp);have hv:v∈[x,y]:=p.mem_iff.mp (by simp);have a:x∈[u,v]:=p.mem_iff.mpr (by simp);have b:y∈[u,v]:=p.mem_iff.mpr (by simp);simp at hu hv a b s;exact⟨u,v,rfl,(),hu,hv⟩
def BZ{x:Int}(f:0<=x)(h1:x<4)(a b c d:D):∃e,atI [a,b,c,d] x=some e/\(e=a\/e=b\/e=c\/e=d):=by
 rcases(():x=0\/x=1\/x=2\/x=3)with rfl|rfl|rfl|rfl
 ·exact⟨a,rfl,.inl rfl⟩
 ·exact⟨b,rfl,.inr (.inl rfl)⟩
 ·exact⟨c,rfl,.inr (.inr (.inl rfl))⟩
 ·exact⟨d,rfl,.inr (.inr (.inr rfl))⟩
def lD2(t:Tie):D:=.list [.int t.1,.int t.2]
def QZ:FF:=λds P=>∃(n:Int)(ts:List Tie),ds=[.int n,.list (ts.map pD)]/\2<=n/\n<=16/\⇑ts<=60/\OkN n ts/\∀t,OkT n t->P (pD t)
def Wn:FF:=λds P=>∃a b:Int,ds=[.int a,.int b]/\1<=a/\a<=16/\1<=b/\b<=16/\∀(n:Int)(us:List Tie),1<=n->(n<=a\/n<=b)->⇑us<=39->OkW n us->P (au n us)
def pX:FnScope [ae,a8,bp,"_law_sort",a9] [ae,a8,bp] (aH (top 54)):=zC
abbrev kA0(P w K mg base):=ĉ P w K mg base 1 dP [ae,"_law_many"] (spP (CP K) Al)
def zM(F:Fun K dQ dQ (top 54) f fd)(B:Ĩ mg)(g:kA0 P w K mg base):FnOk P w K mg base CX0 2 f fd [ae,a8,bp] (spP (CP K) QZ):=by
 refine F.ok pX jO (λcdv A outer s H vs Q E hr h=>?_);have l:=pX.nd;refine⟨_,Wr.WDSs.h (Ç (ê none (i:=3) l rfl zQ (Ũ g hr (ĵ 0) (À È Á)))
  (Ç (ý (Wr.wpt (Wr.cD (Wr.lR hr.units (Ã 3) È) (Wr.cW (Wr.cF hr.units (Ã 2) (ø Á))))) (Ö (Ü (Ñ (Ã 2) (Ũ g hr (ĵ 0) (À (ŧ B.len (À (Ã 2) Á)) Á))))) ä)
  (Ç (ê none (i:=4) l rfl zQ (Ũ g hr (ĵ 0) (À (Ã 1) Á)))
  (Ç (ý (Wr.wpt (Wr.cD (Wr.lR hr.units (Ã 3) È) (Wr.cW (Wr.Cv (Ã 1) È)))) (Ö (Ü (ï (À (Ã 4) (À (Wr.rZ (Ō (Ã 4) È) (Ã 1)) Á))))) ä)
  (Ö (Ü (ï (À (Ã 4) (À (Wr.rZ (Ō (Ō (Ã 4) È) (Ũ g hr (ĵ 0) (À (Wr.fO (Ã 1) È) Á))) (Ã 1)) Á))))))))),enterQ h ?_⟩
 rintro ds P ⟨n,a,rfl,C,y,lt,ok,q⟩;refine⟨[.im (.int n),.sh (.list (a.map pD)),.any,.any],rfl,?_⟩;refine⟨rfl,4,rfl,∅,∅,λr r0 r1=>?_⟩;have rest:∀s:Int,iR (Az 4 none (GX (CP K) Al 0 (aQ (tV 1) dX)))
   (iR (dIf (Qf (cH (t2 (o8 false) (tV 3) (tK (Â 1)))) (cH (t2 (gI0 λi j=>PyData.bool (decide (j<i))) (tV 1) (tK (Â 2)))))
    (yq (kh (aQ (tV 4) (aQ (t2 (gI (λx j=>0<j) λi j=>Â (i % j)) (t2 p8 (tV 4) (tK (Â 2))) (tV 1)) dX)))) nG)
   (yq (kh (aQ (tV 4) (aQ (t2 (gI (λx j=>0<j) λi j=>Â (i % j)) (t2 p8 (t2 p8 (tV 4) (tK (Â 1))) (GX (CP K) Al 0 (aQ (t2 (gI0 λi j=>Â (i - j)) (tV 1) (tK (Â 1))) dX))) (tV 1)) dX)))))
   { nx:=λx=>P PyData.none,rt:=P } [.pen (CP K),.im (.int n),.sh (.list (a.map pD)),.im (.int s),.any]:=by
  intro s;refine⟨rfl,n,rfl,(),(),λo o0 o1=>?_⟩;have e:∀d:Int,0<=d->d<n - 1->OkT n (o,(o+1+d) % n):=λd d0 d1=>by
   have m:=Ų (o+1+d) (b:=n) ();have p:=Ř (o+1+d) (b:=n) ();refine⟨⟨o0,o1⟩,⟨m,p⟩,λz=>?_⟩;have z:o=(o+1+d) % n:=z;by_cases hh:o+1+d<n
   ·rw[Int.emod_eq_of_lt () hh]at z;lia
   ·have:(o+1+d) % n=o+1+d - n:=by
     have h2:(o+1+d)=(o+1+d - n)+n:=()
     rw[h2,Int.add_emod_right,Int.emod_eq_of_lt () ()];lia
    lia
  have k:yq (kh (aQ (tV 4) (aQ (t2 (gI (λx j=>0<j) λi j=>Â (i % j)) (t2 p8 (t2 p8 (tV 4) (tK (Â 1))) (GX (CP K) Al 0 (aQ (t2 (gI0 λi j=>Â (i - j)) (tV 1) (tK (Â 1))) dX))) (tV 1)) dX))) { nx:=λx=>P PyData.none,rt:=P } [.pen (CP K),.im (.int n),.sh (.list (a.map pD)),.im (.int s),.im (.int o)] :=
   ⟨rfl,n - 1,rfl,(),(),λd d0 d1=>⟨(),zK,rfl,q (o,(o+1+d) % n) (e d d0 d1)⟩⟩
  show if decide (s=1)=true then _ else _
  refine d8 (λc=>?_) (λc=>aD (A:=True) k);show if decide (2<n)=true then _ else _
  refine d8 (λc=>?_) (λc=>k);have c:=eh c;have v:=e 1 () ();exact⟨(),zK,rfl,q (o,(o+2) % n) (by rw[show o+2=o+1+1 by lia];exact v)⟩
 show if decide (r=0)=true then _ else _
 refine d8 (λc=>?_) (λc=>aD (A:=True) (rest r));refine⟨zK,(Ov a).1,rfl,?_⟩;show if(!(å (.list (a.map pD)) (.list [])))=true then _ else _
 cases a with
 |nil=>exact aD (A:=True) (rest r)
 |cons t a =>
  refine aB (B:=True) ⟨rfl,_,rfl,?_,?_,λd d0 d1=>?_⟩
  ·show(0:Int)<(⇑((t::a).map pD):Nat);rw[Ä,ÿ];lia
  ·show(⇑((t::a).map pD):Int)<1073741824;rw[Ä];lia
  ·rw[Ä]at d1;have hk:d.toNat<⇑(t::a):=()
   have u:d=((d.toNat:Nat):Int):=()
   have z:atI ((t::a).map pD) ((d.toNat:Nat):Int)=some (pD (t::a)[d.toNat]):=bJ (by rw[à,Ë hk];rfl);rw[←u]at z;exact⟨_,z,rfl,q _ (ok _ (į hk))⟩
def rK:FnScope [ae,cn,bq,a8,"_law_turned",ba,"_law_shape","_law_spared",bp,aE,aS,aT] [ae,cn,bq] (aH (top 55)):=zC
def dY:([ak,al,ae,cn,bq,a8,"_law_turned",ba,"_law_shape","_law_spared",bp,aE,aS,aT]:List Str).Nodup:=⋯
def CZ(F:Fun K "_law_web" "_law_web" (top 55) f fd)(B:Ĩ mg)(C:kA0 P w K mg base)(W:ĉ P w K mg base 2 dQ [ae,a8,bp] (spP (CP K) QZ)):FnOk P w K mg base CX0 3 f fd [ae,cn,bq] (spP (CP K) Wn):=by
 refine F.ok rK jO (λcdv A outer s H vs Q E hr h=>?_);have D:=rK.nd;refine⟨_,Wr.WDSs.h (Ç (ê none (i:=3) D rfl zQ (Ō È (Ũ C hr (ĵ 0) (À (Ñ (ø (À (Ã 1) (À (Ã 2) Á))) (Wr.jM B.int VQ (À (Wr.fQ hr.units (Ũ C hr (ĵ 0) (À È Á)) È) Á))) Á))))
  (Ç (ê (some 0) (i:=4) D rfl zQ (ø Á))
  (Ç (Ġ ð rfl (ģ B.range (À (Ã 3) Á)) (ß (i:=5) D rfl zQ) (Ç (Wr.pF (ĵ 4) (À (Ũ C hr (ĵ 0) (À (Ō (Ã 5) È) Á)) (À (Ã 5) Á))) (ç [5] ä)))
  (ç [5] (Ç (ê none (i:=6) D rfl zQ (Ũ C hr (ĵ 0) (À È Á)))
  (Ç (ê none (i:=7) D rfl zQ (Ñ (ø (À È (À È (À È (À È Á))))) (Ũ C hr (ĵ 0) (À È Á))))
  (Ç (ê (some 1) (i:=8) D rfl zQ (ø Á))
  (Ç (Ġ ð rfl (Wr.pH B.range (À È (À (Ã 3) Á))) (ß (i:=5) D rfl zQ) (Ç (ê none (i:=9) D rfl zQ (Ñ (ø (À (Wr.fO (Ã 5) È) (À (Ũ C hr (ĵ 0) (À (Ã 5) Á)) (À (Wr.wZ rfl B.max (À È (À (Wr.fO (Wr.fO (Ã 5) È) (Ũ C hr (ĵ 0) (À È Á))) Á))) (À È Á))))) (Ã 6)))
  (Ç (ý (Wr.Cw (Ũ C hr (ĵ 0) (À È Á)) (Ã 7)) (Ö (Œ (ĵ 8) (À (ï (À (Ã 9) (À (Ã 5) Á))) Á))) ä) (ç [5,9] ä))))
  (ç [5,9] (Ç (Ġ ð rfl (ģ B.range (À (Wr.fY (Ũ C hr (ĵ 0) (À (Ñ (ø (À È (À È (À È (À È Á))))) (Ũ C hr (ĵ 0) (À È Á))) Á)) (Wr.jM B.int VQ (À (Wr.zu (Ã 3) È) Á))) Á)) (ß (i:=10) D rfl zQ) (Ç (Œ (ĵ 8) (À (Ũ W hr (ĵ 0) (À (Ã 3) (À (Ã 8) Á))) Á)) (ç [10] ä)))
  (ç [10] (Ç (Wr.gJ none [ak,al] (i:=11) rfl D rfl zQ (Ċ (Ã 8)) (λc=>(Wr.dW (n:=2) rfl (ċ (ß (i:=0) dY rfl zQ) (ċ (ß (i:=1) dY rfl zQ) ů)))) (λc=>ō) (λc=>(Wr.lW B.sorted (À (ø (À (Ñ (Ã 6) (Ã 0)) (À (Ñ (Ã 6) (Ã 1)) Á))) Á))))
  (Ö (Ü (ï (À (Ã 3) (À (Wr.lV B.tuple (À (Wr.rT B.sorted (À (ř [ak,al] rfl (Ċ (Ã 11)) (λc=>(Wr.Ef (n:=2) rfl (ċ (ß (i:=0) dY rfl zQ) (ċ (ß (i:=1) dY rfl zQ) ů)))) (λc=>ō) (λc=>(ï (À (Ã 0) (À (Ã 1) Á))))) Á)) Á)) Á))))))))))))))))),enterQ h ?_⟩
 rintro ds P ⟨a,b,rfl,I,J,b1,L,q⟩;refine⟨[.im (.int a),.im (.int b),.any,.any,.any,.any,.any,.any,.any,.any,.any],rfl,?_⟩;refine⟨rfl,zK,rfl,12,rfl,∅,∅,λr r0 r1=>?_⟩;obtain⟨m,m1,m16,M,hm⟩:∃m:Int,1<=m/\m<=16/\(m=a\/m=b)/\atI [Â a,Â b] (if decide (r=11)=true then 1 else 0)=some (.int m):=by
  cases decide (r=11)
  ·exact⟨a,I,J,.inl rfl,rfl⟩
  ·exact⟨b,b1,L,.inr rfl,rfl⟩
 refine⟨.int m,hm,m,rfl,(),(),λx x0 x1=>?_⟩;have T:1<=1+x:=()
 have N:1+x<=m:=()
 show Az 3 none (λ_ P=>P .imm (.int (1+x))) _ _;generalize 1+x=n at T N;clear hm x0 x1;refine⟨zK,⟨(),()⟩,rfl,λ(i:Nat) ρ=>∃(l:List Int),ρ=[.pen (CP K),.im (.int a),.im (.int b),.im (.int n),.dw 0 (.list (l.map Â)),.any,.any,.any,.any,.any,.any,.any]/\IsOrd i l,⟨[],rfl,rfl,λx hx=>(nomatch hx),.nil⟩,?_,?_⟩
 ·rintro i d ρ hd ⟨l,rfl,hl⟩;let⟨hi,rfl⟩:=bR hd;have R:=hl.len;refine⟨rfl,_,rfl,(),(),λr r0 r1=>⟨rfl,r0,?_,?_,?_⟩⟩
  ·rw[Ä];lia
  ·rw[Ä];lia
  ·refine⟨l.take r.toNat++((i:Nat):Int)::l.drop r.toNat,?_,hl.ins r.toNat⟩;show [Sl.pen (CP K),_,_,_,Sl.dw 0 (.list ((l.map Â).take r.toNat++Â (0+((i:Nat):Int))::(l.map Â).drop r.toNat)),_,_,_,_,_,_,_]=_;rw[ì,ò,List.map_take,List.map_drop,Int.zero_add];rfl
 rintro ρ ⟨l,rfl,hl⟩;rw[Ŭ]at hl;rw[show((n.toNat:Nat):Int)=n by lia]at hl;refine⟨rfl,4,rfl,∅,∅,λsh s0 s1=>?_⟩;refine⟨zK,rfl,4,rfl,∅,∅,λp p0 p1=>?_⟩;obtain⟨v,hv⟩:∃v:Int,atI [Â 0,.int 0,.int 1,.int 4] p=some (.int v):=by
  let⟨e,he,z⟩:=BZ p0 p1 (.int 0) (.int 0) (.int 1) (.int 4);rcases z with rfl|rfl|rfl|rfl <;> exact⟨_,he⟩
 refine⟨.int v,hv,zK,?_⟩;refine⟨⟨(),(),(),()⟩,rfl,λ(i:Nat) ρ=>∃(j:List Tie),ρ=[.pen (CP K),.im (.int a),.im (.int b),.im (.int n),.dw 0 (.list (l.map Â)),.any,.im (.int sh),.im (.int v),.dw 1 (.list (j.map pD)),.any,.any,.any]/\⇑j<=i/\OkN n j,⟨[],rfl,Õ _,λt ht=>nomatch ht⟩,?_,?_⟩
 ·rintro i d ρ hd ⟨j,rfl,lt,ok⟩;let⟨hi,rfl⟩:=bR hd;have S:⇑(j.map pD)=⇑j:=Ä ..;refine⟨rfl,1+((i:Nat):Int),rfl,(),(),λx x0 x1=>⟨rfl,2,rfl,∅,∅,λy y0 y1=>⟨zK,?_⟩⟩⟩;obtain⟨o,ho,o0,o1⟩:∃o:Int,atI [Â (1+((i:Nat):Int) - 1),.int x,.int (if 1+((i:Nat):Int) - 1 - y > 0 then 1+((i:Nat):Int) - 1 - y else 0),.int 0] sh=some (.int o)/\0<=o/\o<1+((i:Nat):Int):=by
   let⟨e,he,z⟩:=BZ s0 s1 (.int (1+((i:Nat):Int) - 1)) (.int x) (.int (if 1+((i:Nat):Int) - 1 - y > 0 then 1+((i:Nat):Int) - 1 - y else 0)) (.int 0);rcases z with rfl|rfl|rfl|rfl
   ·exact⟨_,he,(),()⟩
   ·exact⟨_,he,(),()⟩
   ·refine⟨_,he,?_,?_⟩ <;> split <;> lia
   ·exact⟨_,he,(),()⟩
  refine⟨.int o,ho,rfl,12,rfl,∅,∅,λz z0 z1=>?_⟩;show if decide (v<=z)=true then _ else _
  refine d8 (λc=>⟨zK,rfl,(),j++[(o,1+((i:Nat):Int))],?_,by rw[Ð,í];lia,ok.snoc ⟨⟨o0,()⟩,⟨(),()⟩,λe=>?_⟩⟩) (λc=>⟨j,rfl,(),ok⟩)
  ·rw[←app1];rfl
  ·have e:o=1+((i:Nat):Int):=e;lia
 rintro ρ ⟨j,rfl,lt,ok⟩;rw[Ŭ]at lt;have lt:⇑j<=15:=()
 refine⟨rfl,zK,rfl,4,rfl,∅,∅,λp p0 p1=>?_⟩;obtain⟨c,hc,c0,c1⟩:∃c:Int,atI [Â 1,.int 3,.int 6,.int 25] p=some (.int c)/\1<=c/\c<=25:=by
  let⟨e,he,z⟩:=BZ p0 p1 (.int 1) (.int 3) (.int 6) (.int 25);rcases z with rfl|rfl|rfl|rfl
  ·exact⟨1,he,∅,∅⟩
  ·exact⟨3,he,∅,∅⟩
  ·exact⟨6,he,∅,∅⟩
  ·exact⟨25,he,∅,∅⟩
 refine⟨.int c,hc,c,rfl,(),(),λz z0 z1=>?_⟩;obtain⟨g,hg,G,g1⟩:∃g:Int,(if decide (1<n)=true then(1:Int)else 0)=g/\(g=0\/g=1)/\(g=1->2<=n):=by
  by_cases h:1<n
  ·exact⟨1,el (decide_eq_true h),.inr rfl,λ_=>()⟩
  ·exact⟨0,em (by rw[eg h];exact Î),.inl rfl,λz=>()⟩
 have U:0<=z * g/\z * g<=24/\(0<z * g->2<=n):=by
  rcases G with rfl|rfl
  ·rw[Int.mul_zero];lia
  ·rw[Int.mul_one];lia
 show M9 z (if decide (1<n)=true then(1:Int)else 0)/\_;rw[hg];refine⟨.inr (by rcases G with rfl|rfl <;> exact⟨∅,∅⟩),?_⟩;show(-(2 ^ 62)<=z * g/\z * g<2 ^ 62)/\_;generalize z * g=w0 at U;refine⟨⟨(),()⟩,rfl,λ(i:Nat) ρ=>∃(j:List Tie),ρ=[.pen (CP K),.im (.int a),.im (.int b),.im (.int n),.dw 0 (.list (l.map Â)),.any,.im (.int sh),.im (.int v),.dw 1 (.list (j.map pD)),.any,.any,.any]/\⇑j<=15+i/\OkN n j,⟨j,rfl,lt,ok⟩,?_,?_⟩
 ·rintro i d ρ hd ⟨j,rfl,lt,ok⟩;let⟨hi,rfl⟩:=bR hd;have S:⇑(j.map pD)=⇑j:=Ä ..;refine⟨rfl,n,j,rfl,U.2.2 (),(),(),ok,λt ht=>⟨rfl,(),j++[t],?_,by rw[Ð,í];lia,ok.snoc ht⟩⟩;rw[ì];rfl
 rintro ρ ⟨j,rfl,lt,ok⟩;rw[Ŭ]at lt;have lt:⇑j<=39:=()
 have S:⇑(j.map pD)=⇑j:=Ä ..;refine⟨(),.new,λi ys=>∃us:List Tie,ys=us.map lD2/\⇑us=i/\OkW n us,⟨[],rfl,rfl,λt ht=>nomatch ht⟩,?_,?_⟩
 ·rintro i d ys hd ⟨us,rfl,hu,k⟩;let⟨t,ht,rfl⟩:=d7 hd;let⟨⟨V,I⟩,⟨b0,b1⟩,nab⟩:=ok t (Ê ht);let⟨x,Z,xr,xl⟩:=hl.at V I;let⟨y,ey,yr,yl⟩:=hl.at b0 b1;have O:x≠y:=λe=>by
   subst e;have h1:=Æ.mp xl;have h2:=Æ.mp yl;have:=(List.getElem_inj hl.nd (h₀:=h1.1) (h₁:=h2.1)).mp (h1.2.trans h2.2.symm);lia
  refine⟨rfl,aB (B:=True) ⟨.int x,Z,.int y,ey,zK,[x,y],rfl,(show 2<64 by decide),λout hp hs=>?_⟩⟩;let⟨u,v,rfl,uv,X,Y⟩:=Rm hp hs O;refine⟨rfl,us++[(u,v)],by rw[ì];rfl,by rw[Ð,í,hu],λw hw=>?_⟩;rcases ë.mp hw with z|z
  ·exact k w z
  ·rw[É.mp z];exact⟨by rcases X with rfl|rfl <;> lia,uv,by rcases Y with rfl|rfl <;> lia⟩
 rintro ys ⟨us,rfl,hu,k⟩;have lu:⇑(us.map lD2)=⇑us:=Ä ..;have hu:⇑us<=39:=()
 refine tG us lD2 pD .imm rfl () (λt ht A B hA=>⟨rfl,aB (B:=B) ⟨zK,rfl,hA⟩⟩) ?_;refine⟨us,.inl rfl,(),λt ht=>⟨by have:=k t ht;lia,by have:=k t ht;lia⟩,λus' hp _=>⟨zK,?_,q n us' T ?_ (by rw[hp.length_eq];lia) λt ht=>k t (hp.mem_iff.mp ht)⟩⟩
 ·have e:=mV n us';show(norm _ (au n us')).le .n0=true;rw[bL e];rfl
 ·rcases M with rfl|rfl
  ·exact .inl N
  ·exact .inr N
end
inductive Rt(us:List Tie):Int->Int->Prop
 |refl (a:Int):Rt us a a
 |step {a b c:Int} (h:Rt us a b) (t:(b,c)∈us):Rt us a c
def Rt.trans{us:List Tie}{a b c:Int}(h:Rt us a b)(k:Rt us b c):Rt us a c:=by
 induction k with
 |refl=>exact h
 |step _ t d=>exact .step d t
def NP{us vs:List Tie}(h:∀a b,(a,b)∈us->(b,a)∈vs){a b:Int}(r:Rt us a b):Rt vs b a:=by
 induction r with
 |refl=>exact .refl _
 |step _ t c=>exact(Rt.step (.refl _) (h _ _ t)).trans c
def Rt.mono{us vs:List Tie}(h:∀t∈us,t∈vs){a b:Int}(r:Rt us a b):Rt vs a b:=by
 induction r with
 |refl=>exact .refl _
 |step _ t c=>exact .step c (h _ t)
def Rt.sym{us:List Tie}(h:∀a b,(a,b)∈us->(b,a)∈us){a b:Int}(r:Rt us a b):Rt us b a:=NP h r
def Rt.rng{us:List Tie}{n:Nat}(ok:∀t∈us,0<=t.2/\t.2<n){a b:Int}(h:0<=a/\a<n)(r:Rt us a b):0<=b/\b<n:=by
 cases r with
 |refl=>exact h
 |step _ t=>exact ok _ t
open Classical in
def RZ(us:List Tie)(a b:Int):Bool:=decide (Rt us a b)
def aL{us:List Tie}{a b:Int}:RZ us a b=true↔Rt us a b:=by
 classical
 unfold RZ;exact decide_eq_true_iff
def RB(us:List Tie)(a b:Nat):Bool:=RZ us ((a:Nat):Int) ((b:Nat):Int)
def iH{us:List Tie}{a b:Nat}:RB us a b=true↔Rt us ((a:Nat):Int) ((b:Nat):Int):=aL
def q9(us:List Tie)(a:Nat):RB us a a=true:=iH.mpr (.refl _)
def fH(R:Nat->Nat->Bool)(n a:Nat):List Nat:=(Þ n).filter λb=>R a b&&R b a
def jt(R:Nat->Nat->Bool)(n a:Nat):Bool:=decide ((fH R n a).head?=some a)
def zI(l:List Nat):List Int:=l.map λi:Nat=>0+((i:Nat):Int)
def uy(R:Nat->Nat->Bool)(n k:Nat):List (List Int):=(((Þ n).take k).filter (jt R n)).map λa=>zI (fH R n a)
def Gy(R:Nat->Nat->Bool)(n k:Nat):⇑(uy R n k)<=n:=by
 unfold uy;rw[Ä];have h1:=ā (jt R n) ((Þ n).take k);rw[ć,č]at h1;lia
def Mx(R:Nat->Nat->Bool){n k:Nat}(h:k<n):uy R n (k+1)=uy R n k++if jt R n k=true then [zI (fH R n k)]else []:=by
 unfold uy;have e:(Þ n).take (k+1)=(Þ n).take k++[k]:=by
  rw[ĕ,List.getElem?_range h];rfl
 rw[e,ŗ,ì];cases a:jt R n k <;> simp[a]
def Dk{l:List Nat}{x:Int}:x∈zI l↔0<=x/\x.toNat∈l:=by
 unfold zI;rw[Ć];constructor
 ·rintro⟨i,hi,rfl⟩;rw[show((0+((i:Nat):Int)).toNat)=i by lia];exact⟨(),hi⟩
 ·intro h;exact⟨x.toNat,h.2,()⟩
def xM{n:Nat}{x:Int}:x∈zI (Þ n)↔0<=x/\x<n:=by
 rw[Dk,Ď];lia
def vV{l:List Nat}(h:l.Pairwise (·<·)):(zI l).Pairwise (·<·):=by
 unfold zI;rw[List.pairwise_map];exact h.imp λh=>()
def rsI(vs:List Tie)(n:Nat)(a:Int):List Int:=(zI (Þ n)).filter (RZ vs a)
def cu{vs:List Tie}{n:Nat}{a x:Int}:x∈rsI vs n a↔(0<=x/\x<n)/\Rt vs a x:=by
 unfold rsI;rw[æ,xM,aL]
def jG{vs:List Tie}{n:Nat}{a:Int}:(rsI vs n a).Pairwise (·<·):=(vV List.pairwise_lt_range).filter _
def wC(vs:List Tie)(n:Nat)(a:Int):⇑(rsI vs n a)<=n:=by
 unfold rsI;have:=ā (RZ vs a) (zI (Þ n));unfold zI at this;rw[Ä,č]at this;exact this
def wF{l:List Int}(h:l.Pairwise (·<·)):l.Nodup:=h.imp λh=>()
def uW{out ks l:List Int}(hp:out.Perm ks)(hs:out.Pairwise (·<=·))(hn:ks.Nodup)(hl:l.Pairwise (·<·))(hk:∀q,q∈ks↔q∈l):out=l :=
 W.ksm_same (hp.trans ((List.perm_ext_iff_of_nodup hn (wF hl)).mpr hk)) hs (hl.imp λh=>())
def rN{l k:List Int}(hl:l.Pairwise (·<·))(hk:k.Pairwise (·<·))(h:∀q,q∈l↔q∈k):l=k:=uW (List.Perm.refl _) (hl.imp λh=>()) (wF hl) hk h
def Qv{vs:List Tie}{n:Nat}{a:Int}{out ks:List Int}(hp:out.Perm ks)(hs:out.Pairwise (·<=·))(hn:ks.Nodup)(hk:∀q,q∈ks↔Rt vs a q)(hr:∀q,Rt vs a q->0<=q/\q<n):out=rsI vs n a :=
 uW hp hs hn jG λq=>by
  rw[cu,hk];exact⟨λh=>⟨hr q h,h⟩,λh=>h.2⟩
def Fp{vs us:List Tie}{n:Nat}{a:Int}(h:∀x,Rt vs a x↔Rt us a x):rsI vs n a=rsI us n a:=rN jG jG λq=>by rw[cu,cu,h]
def adj(us:List Tie)(F B:List Int):List Tie:=us.zipIdx.flatMap λp=>if((p.2:Nat):Int)∈F then []else [p.1,(p.1.2,p.1.1)].filter λt=>decide (t.2∉B)
def aN{us:List Tie}{F B:List Int}{x y:Int}:(x,y)∈adj us F B↔∃k:Nat,(us[k]?=some (x,y)\/us[k]?=some (y,x))/\((k:Nat):Int)∉F/\y∉B:=by
 unfold adj;rw[List.mem_flatMap];constructor
 ·rintro⟨⟨t,k⟩,hk,h⟩;have hk:=û.mp hk;by_cases a:((k:Nat):Int)∈F
  ·rw[el a]at h;cases h
  ·rw[em a,æ]at h;let⟨h,b⟩:=h;refine⟨k,?_,a,eh b⟩;rcases Û.mp h with e|e
   ·left;rw[e];exact hk
   ·right;have e:=É.mp e;have c:x=t.2:=et Prod.fst e;have d:y=t.1:=et Prod.snd e;rw[c,d];exact hk
 ·rintro⟨k,h,a,b⟩;rcases h with h|h
  ·refine⟨((x,y),k),û.mpr h,?_⟩;rw[em a,æ];exact⟨Ó,decide_eq_true b⟩
  ·refine⟨((y,x),k),û.mpr h,?_⟩;rw[em a,æ];exact⟨Í _ (É.mpr rfl),decide_eq_true b⟩
def yD{us:List Tie}{F B:List Int}{n:Int}(ok:OkN n us)(n0:0<=n):∀t∈adj us F B,(0<=t.1/\t.1<(n.toNat:Nat))/\0<=t.2/\t.2<(n.toNat:Nat):=by
 rintro⟨x,y⟩ h;let⟨k,e,_⟩:=aN.mp h;have a:((n.toNat:Nat):Int)=n:=()
 rcases e with e|e
 ·have o:=ok _ (Ê e);exact⟨by rw[a];exact o.1,by rw[a];exact o.2.1⟩
 ·have o:=ok _ (Ê e);exact⟨by rw[a];exact o.2.1,by rw[a];exact o.1⟩
def GJ{us:List Tie}{F:List Int}:∀a b,(a,b)∈adj us F []->(b,a)∈adj us F []:=λa b h=>by
 let⟨k,e,c,_⟩:=aN.mp h;exact aN.mpr ⟨k,e.symm,c,λz=>nomatch z⟩
def OkW.okN{n:Int}{us:List Tie}(h:OkW n us):OkN n us:=λt ht=>by
 have:=h t ht;exact⟨⟨(),()⟩,⟨(),()⟩,()⟩
def gO(x a b:Int):([Â a,.int b].any λe=>å e (.int x))=decide (x=a\/x=b):=by
 show(a==x || (b==x || false))=_;rw[ĥ];simp;lia
def fZ{n:Nat}{l:List Int}(a:l.Nodup)(h:∀x∈l,0<=x/\x<n):⇑l<=n:=by
 induction n generalizing l with
 |zero=>cases l with
  |nil=>exact Õ _
  |cons x l=>have:=h x (Ó ..);lia
 |succ n ih =>
  by_cases e:((n:Nat):Int)∈l
  ·have z:=ih (a.erase ((n:Nat):Int)) λx hx=>by
    have:=h x (List.mem_of_mem_erase hx);have:x≠((n:Nat):Int):=(a.mem_erase_iff.mp hx).1;lia
   rw[List.length_erase_of_mem e]at z;lia
  ·have z:=ih a λx hx=>by
    have:=h x hx;have:x≠((n:Nat):Int):=λw=>e (w ▸ hx);lia
   lia
structure Fd(n:Nat)(es:List Tie)(a:Int)(l:List Int)(at':Nat):Prop where
 nd:l.Nodup
 rng:∀x∈l,0<=x/\x<n
 st:a∈l
 rt:∀x∈l,Rt es a x
 cl:∀(j:Nat)(x:Int),j<at'->l[j]?=some x->∀y,(x,y)∈es->y∈l
def Fd.add{n:Nat}{b:List Tie}{a:Int}{l:List Int}{i:Nat}(h:Fd n b a l i)(hi:i<=⇑l){x y:Int}(c:x∈l)(t:(x,y)∈b)(d:0<=y/\y<n)(e:y∉l):Fd n b a (l++[y]) i:=by
 refine⟨Š.mpr ⟨h.nd,by simp,λz hz w hw=>by rw[É.mp hw];rintro rfl;exact e hz⟩,λz hz=>?_,è _ h.st,λz hz=>?_,λj z hj hz w hw=>?_⟩
 ·rcases ë.mp hz with z|z
  ·exact h.rng _ z
  ·rw[É.mp z];exact d
 ·rcases ë.mp hz with z|z
  ·exact h.rt _ z
  ·rw[É.mp z];exact .step (h.rt x c) t
 ·rw[ñ ()]at hz;exact è _ (h.cl j z hj hz w hw)
theorem Fd.all{n:Nat}{b:List Tie}{a:Int}{l:List Int}{i:Nat}(h:Fd n b a l i)(hi:⇑l<=i):∀x,x∈l↔Rt b a x:=λx=>by
 refine⟨h.rt x,λr=>?_⟩;induction r with
 |refl=>exact h.st
 |step r t ih =>
  let⟨j,c⟩:=ė ih;have:=(Æ.mp c).1;exact h.cl j _ () c _ t
def Wx:FF:=λds P=>∃n us a F B,ds=[au n us,.int a,iD F,iD B]/\1<=n/\n<=16/\⇑us<=60/\OkN n us/\0<=a/\a<n/\P (iD (rsI (adj us F B) n.toNat a))
section
variable{P:Za}{w:Zb}{K:á}{mg:Str->Option Value}{base:Zg}{f:Addr}{fd:Yc}
def Dc(F:Fun K "_law_met" "_law_met" (top 56) f fd)(B:Ĩ mg)(T:mg cz=none)(S:mg "sum"=none):FnOk P w K mg base CX0 1 f fd [ad,du,c5,da] (spD Wx):=by
 refine okT F (N:=[ad,du,c5,da,aT,"_law_at",ba,"_law_tie","_law_there"]) zC (λhr nd=>Ç (ê (some 0) (i:=4) nd rfl zQ (ø (À (Ã 1) Á)))
  (Ç (ê none (i:=5) nd rfl zQ È)
  (Ç (Wr.ju ð (Wr.rR (Ã 5) (ŧ B.len (À (Ã 4) Á))) (Ç (Ġ ð rfl (Wr.nF T (À (Ñ (Ã 0) È) Á)) (Wr.dW (n:=2) rfl (ċ (ß (i:=6) nd rfl zQ) (ċ (ß (i:=7) nd rfl zQ) ů))) (Ç (ê none (i:=8) nd rfl zQ (Wr.fO (Wr.qN rfl S (À (Ã 7) Á)) (Ñ (Ã 4) (Ã 5))))
  (Ç (ý (Wr.wpt (Wr.cD (Wr.gZ hr.units (Ñ (Ã 4) (Ã 5)) (Ã 7)) (Wr.cD (Ģ hr.units (Ã 6) (Ã 2)) (Wr.cD (Ģ hr.units (Ã 8) (Ã 4)) (Wr.cW (Ģ hr.units (Ã 8) (Ã 3))))))) (Ö (Œ (ĵ 4) (À (Ã 8) Á))) ä) (ç [6,7,8] ä))))
  (ç [6,7,8] (Ç (ê none (i:=5) nd rfl zQ (Ō (Ã 5) È)) (ç [6,7,8] ä)))))
  (ç [5,6,7,8] (Ö (Ü (Wr.lW B.sorted (À (Ã 4) Á)))))))) ?_
 rintro ds P ⟨n,us,a,F,B,rfl,n1,W,lu,ok,R,a1,q⟩;refine⟨[.im (au n us),.im (.int a),.sh (iD F),.sh (iD B),.any,.any,.any,.any,.any],?_,?_⟩
 ·show [cg (au n us),.im (.int a),.sh (iD F),.sh (iD B),.any,.any,.any,.any,.any]=_;rw[iG]
 have M:=yD (F:=F) (B:=B) ok ();refine⟨zK,λQ ρ=>∃(l:List Int)(i:Nat),ρ=[.im (au n us),.im (.int a),.sh (iD F),.sh (iD B),.dw 0 (iD l),.im (.int ((i:Nat):Int)),.any,.any,.any]/\Fd n.toNat (adj us F B) a l i/\i<=⇑l/\Q=17 - i,⟨_,[a],0,rfl,?_,Ğ _,rfl⟩,?_⟩
 ·exact⟨by simp,λx D=>by rw[É.mp D];lia,by simp,λx D=>by rw[É.mp D];exact .refl _,λj x hj=>er hj (Nat.not_lt_zero _)⟩
 rintro Q ρ ⟨l,i,rfl,h,hi,rfl⟩;have ll:⇑(l.map Â)=⇑l:=Ä ..;have U:=fZ h.nd h.rng;show if decide (((i:Nat):Int)<(⇑(l.map Â):Nat))=true then _ else _
 refine d8 (λc=>?_) (λc=>?_)
 ·have c:=eh c;have J:i<⇑l:=()
  have D:=Ë J;generalize l[i]=x at D;refine⟨.tuple (us.map pD),rfl,rfl,λ(j:Nat) ρ=>∃g:List Int,ρ=[.im (au n us),.im (.int a),.sh (iD F),.sh (iD B),.dw 0 (iD g),.im (.int ((i:Nat):Int)),.any,.any,.any]/\Fd n.toNat (adj us F B) a g i/\i<⇑g/\g[i]?=some x/\∀k:Nat,k<j->∀y,(us[k]?=some (x,y)\/us[k]?=some (y,x))->((k:Nat):Int)∉F->y∉B->y∈g,⟨l,rfl,h,J,D,λk hk=>er hk (Nat.not_lt_zero _)⟩,?_,?_⟩
  ·rintro j d ρ hd ⟨g,rfl,h',v,o,p⟩;rw[eG,à]at hd;obtain⟨t,ht,rfl⟩:∃t,us[j]?=some t/\Ŏ [.int ((j:Nat):Int),pD t]=d:=by
    cases e:us[j]? with
    |none=>rw[e]at hd;cases hd
    |some t=>rw[e]at hd;exact⟨t,rfl,Ô hd⟩
   let⟨⟨o1,o2⟩,⟨o3,o4⟩,o5⟩:=ok t (Ê ht);have E:atI (g.map Â) ((i:Nat):Int)=some (.int x):=bJ (by rw[à,o];rfl);have L:=Ê o;have V:⇑(g.map Â)=⇑g:=Ä ..;have I:=fZ h'.nd h'.rng;refine⟨rfl,[t.1,t.2],rfl,zK,λy b=>?_,.int x,E,?_⟩
   ·rcases Û.mp b with rfl|b
    ·lia
    ·rw[É.mp b];lia
   rw[show [t.1,t.2].sum=t.1+t.2 by simp];have m:(∀y,(t=(x,y)\/t=(y,x))->((j:Nat):Int)∉F->y∉B->y∈g)->∃l'':List Int,([.im (au n us),.im (.int a),.sh (iD F),.sh (iD B),.dw 0 (iD g),.im (.int ((i:Nat):Int)),.any,.any,.any]:List Sl)=[.im (au n us),.im (.int a),.sh (iD F),.sh (iD B),.dw 0 (iD l''),.im (.int ((i:Nat):Int)),.any,.any,.any]/\Fd n.toNat (adj us F B) a l'' i/\i<⇑l''/\l''[i]?=some x/\∀k:Nat,k<j+1->∀y,(us[k]?=some (x,y)\/us[k]?=some (y,x))->((k:Nat):Int)∉F->y∉B->y∈l'':=λz=>by
    refine⟨g,rfl,h',v,o,λk hk y b u s=>?_⟩;by_cases e:k=j
    ·subst e;rw[ht]at b;exact z y (b.imp Ô Ô) u s
    ·exact p k () y b u s
   refine⟨.int x,E,rfl,rfl,?_⟩;show if([Â t.1,.int t.2].any λe=>å e (.int x))=true then _ else _
   rw[gO];refine d8 (λG=>?_) (λG=>aD (A:=True) (m λy b _ _=>?_))
   ·refine⟨rfl,ň F,?_⟩;show if(!((F.map Â).any λe=>å e (.int ((j:Nat):Int))))=true then _ else _
    rw[Č];refine d8 (λc2=>?_) (λc2=>aD (A:=True) (m λy _ u _=>?_))
    ·refine⟨rfl,ň g,?_⟩;show if(!((g.map Â).any λe=>å e (.int (t.1+t.2 - x))))=true then _ else _
     rw[Č];have G:=eh G;have C:∀y,(t=(x,y)\/t=(y,x))->y=t.1+t.2 - x:=λy b=>by
      rcases b with rfl|rfl
      ·show y=x+y - x;lia
      ·show y=y+x - x;lia
     refine d8 (λc3=>?_) (λc3=>aD (A:=True) (m λy b _ _=>?_))
     ·refine⟨rfl,ň B,?_⟩;show if(!((B.map Â).any λe=>å e (.int (t.1+t.2 - x))))=true then _ else _
      rw[Č];refine d8 (λc4=>?_) (λc4=>m λy b _ s=>?_)
      ·have X:((j:Nat):Int)∉F:=by simpa using c2
       have Y:t.1+t.2 - x∉g:=by simpa using c3
       have Z:t.1+t.2 - x∉B:=by simpa using c4
       have O:(x,t.1+t.2 - x)∈adj us F B:=aN.mpr ⟨j,by
        rw[ht];rcases G with rfl|rfl
        ·left;rw[show t.1+t.2 - t.1=t.2 by lia]
        ·right;rw[show t.1+t.2 - t.2=t.1 by lia],X,Z⟩
       refine⟨rfl,(),g++[t.1+t.2 - x],?_,h'.add () L O (M _ O).2 Y,by rw[Ð];lia,by rw[ñ v];exact o,λk hk y b u s=>?_⟩
       ·unfold iD;rw[ì];rfl
       ·by_cases e:k=j
        ·subst e;rw[ht]at b;rw[C y (b.imp Ô Ô)];exact ã _ (É.mpr rfl)
        ·exact è _ (p k () y b u s)
      ·rw[C y b]at s;exact er (by simpa using c4) s
     ·rw[C y b];simpa using c3
    ·exact er (by simpa using c2) u
   ·refine er (decide_eq_true ?_) G;rcases b with rfl|rfl
    ·exact .inl rfl
    ·exact .inr rfl
  ·rintro ρ ⟨g,rfl,h',v,o,p⟩;rw[dz,Ä]at p;have I:=fZ h'.nd h'.rng;refine⟨17 - (i+1),(),g,i+1,rfl,⟨h'.nd,h'.rng,h'.st,h'.rt,λk z hk hz y b=>?_⟩,(),rfl⟩;by_cases e:k=i
   ·subst e;rw[o]at hz;cases hz;let⟨k,e,u,s⟩:=aN.mp b;have:k<⇑us:=by rcases e with e|e <;> exact(Æ.mp e).1
    exact p k this y e u s
   ·exact h'.cl k z () hz y b
 ·have c:¬((i:Nat):Int)<(⇑(l.map Â):Nat):=λz=>c (decide_eq_true z);have H:=h.all ();refine⟨l,rfl,(),λout hp hs=>⟨rfl,?_⟩⟩;rw[Qv hp hs h.nd H (λx r=>r.rng (λt ht=>(M t ht).2) ⟨R,()⟩)];exact q
abbrev Put:=Int×Tie
def rowOf(ps:List Put)(p:Nat):List Tie:=(ps.filter λq=>decide (q.1=((p:Nat):Int))).map (·.2)
def stOf(n:Nat)(ps:List Put):List (List Tie):=(Þ n).map (rowOf ps)
def edg(ps:List Put):List Tie:=ps.map λq=>(q.1,q.2.1)
structure PutsOk(n:Nat)(ps:List Put):Prop where
 few:⇑ps<=200
 rng:∀q∈ps,(0<=q.1/\q.1<n)/\0<=q.2.1/\q.2.1<n
def gQ(n:Nat)(ps:List Put):⇑(stOf n ps)=n:=by
 unfold stOf;rw[Ä,č]
def wu{n p:Nat}(ps:List Put)(h:p<n):(stOf n ps)[p]?=some (rowOf ps p):=by
 unfold stOf;rw[à,List.getElem?_range h];rfl
def Ga{ps:List Put}{p:Nat}{t:Tie}:t∈rowOf ps p↔(((p:Nat):Int),t)∈ps:=by
 unfold rowOf;rw[Ć];constructor
 ·rintro⟨q,a,rfl⟩;let⟨h1,h2⟩:=æ.mp a;have h2:q.1=((p:Nat):Int):=eh h2;rw[←h2];exact h1
 ·intro h;exact⟨_,æ.mpr ⟨h,decide_eq_true rfl⟩,rfl⟩
def lH(ps:List Put)(p:Nat):⇑(rowOf ps p)<=⇑ps:=by
 unfold rowOf;rw[Ä];exact ā _ _
def JC(ps:List Put)(q:Put)(p:Nat):rowOf (ps++[q]) p=if q.1=((p:Nat):Int)then rowOf ps p++[q.2]else rowOf ps p:=by
 unfold rowOf;rw[ŗ,ì];by_cases h:q.1=((p:Nat):Int)
 ·rw[el h,List.filter_cons_of_pos (by exact decide_eq_true h)];rfl
 ·rw[em h,List.filter_cons_of_neg (by rw[eg h];exact Î)];exact Ĕ _
def Nx{n:Nat}{ps:List Put}{q:Put}(h:0<=q.1/\q.1<n):(stOf n ps).set q.1.toNat (rowOf ps q.1.toNat++[q.2])=stOf n (ps++[q]):=by
 refine List.ext_getElem? λi=>?_;by_cases hi:i<n
 ·rw[wu _ hi,JC];by_cases e:q.1.toNat=i
  ·rw[e,ă (by rw[gQ];exact hi),el ()]
  ·rw[Ļ e,wu _ hi,em ()]
 ·rw[List.getElem?_eq_none (by rw[List.length_set,gQ];lia),List.getElem?_eq_none (by rw[gQ];lia)]
def BR(n:Nat):stOf n []=Ú n []:=by
 refine List.eq_replicate_iff.mpr ⟨gQ _ _,λb hb=>?_⟩;let⟨p,_,rfl⟩:=Ć.mp hb;rfl
def stD(S:List (List Tie)):D:=.list (S.map λts=>.list (ts.map pD))
def rP(S:List (List Tie)):List (List D):=S.map λts=>ts.map pD
def BW(S:List (List Tie)):ē ((rP S).map ē)=stD S:=by
 unfold rP stD;rw[Ė];rfl
def RL(S:List (List Tie))(k:Nat)(l:List Tie)(u:Tie):(rP S).set k (l.map pD++[pD u])=rP (S.set k (l++[u])):=by
 unfold rP;rw[List.map_set,ì];rfl
def rO{n p:Nat}(ps:List Put)(h:p<n):(rP (stOf n ps))[p]?=some ((rowOf ps p).map pD):=by
 unfold rP;rw[à,wu ps h];rfl
def lJ{n:Nat}{ps:List Put}{q:Put}(h:0<=q.1/\q.1<n):(rP (stOf n ps)).set q.1.toNat ((rowOf ps q.1.toNat).map pD++[pD q.2])=rP (stOf n (ps++[q])):=by
 rw[RL,Nx h]
def GK{us:List Tie}{x y:Int}:(x,y)∈adj us [] []↔((x,y)∈us\/(y,x)∈us):=by
 rw[aN];constructor
 ·rintro⟨k,e|e,_⟩
  ·exact .inl (Ê e)
  ·exact .inr (Ê e)
 ·rintro(e|e)
  ·let⟨k,hk⟩:=ė e;exact⟨k,.inl hk,Ý,Ý⟩
  ·let⟨k,hk⟩:=ė e;exact⟨k,.inr hk,Ý,Ý⟩
def fJ{ps:List Put}{x y:Int}:(x,y)∈edg ps↔∃k,(x,(y,k))∈ps:=by
 unfold edg;rw[Ć];constructor
 ·rintro⟨⟨p,b,k⟩,a,e⟩;cases e;exact⟨k,a⟩
 ·rintro⟨k,h⟩;exact⟨_,h,rfl⟩
def aA(m:IM):List Int:=m.map (·.1)
def dJ{m:IM}{k:Int}:d9 m k=true↔k∈aA m:=by
 unfold d9 aA;rw[ŕ,Ć];constructor
 ·rintro⟨p,hp,e⟩;exact⟨p,hp,eh e⟩
 ·rintro⟨p,hp,e⟩;exact⟨p,hp,decide_eq_true e⟩
def Le{m:IM}{k:Int}(h:d9 m k=false):k∉aA m:=λz=>by rw[dJ.mpr z]at h;cases h
def lK{m:IM}{k:Int}{d:D}(h:d9 m k=false):iM m k d=m++[(k,d)]:=by
 unfold iM;rw[h];rfl
inductive Cm(ps:List Put)(a:Int):IM->Prop
 |base:Cm ps a [(a,.none)]
 |snoc {m:IM}{x p k:Int} (h:Cm ps a m) (hp:p∈aA m) (hx:x∉aA m) (j:(p,(x,k))∈ps):Cm ps a (m++[(x,.tuple [.int p,.int k])])
structure Sr(n:Nat)(ps:List Put)(a:Int)(m:IM)(open':Int->Prop):Prop where
 im:tR m=true
 nd:(aA m).Nodup
 rng:∀x∈aA m,0<=x/\x<n
 st:a∈aA m
 rt:∀x∈aA m,Rt (edg ps) a x
 cl:∀x∈aA m,open' x\/∀b,(x,b)∈edg ps->b∈aA m
 cm:Cm ps a m
def Sr.few{n:Nat}{ps:List Put}{a:Int}{m:IM}{o:Int->Prop}(h:Sr n ps a m o):⇑m<=n:=by
 have:=fZ h.nd h.rng;unfold aA at this
 rwa [Ä]at this
theorem Sr.all{n:Nat}{ps:List Put}{a:Int}{m:IM}(h:Sr n ps a m λ_=>False):∀x,d9 m x=true↔Rt (edg ps) a x:=λx=>by
 rw[dJ];refine⟨h.rt x,λr=>?_⟩;induction r with
 |refl=>exact h.st
 |step r t b=>exact(h.cl _ b).elim Ţ λz=>z _ t
def Sr.add{n:Nat}{ps:List Put}{a x c k:Int}{m:IM}{o o':Int->Prop}(h:Sr n ps a m o)(jn:(x,(c,k))∈ps)(i:x∈aA m)(hc:0<=c/\c<n)(g:d9 m c=false)(l:∀y,o y->o' y)(j:o' c):Sr n ps a (iM m c (.tuple [.int x,.int k])) o':=by
 have t:(x,c)∈edg ps:=fJ.mpr ⟨k,jn⟩;generalize f:Ŏ [.int x,.int k]=d;have hd:cM d=true:=by rw[←f];rfl
 have kk:aA (m++[(c,d)])=aA m++[c]:=by unfold aA;rw[ì];rfl
 rw[lK g];refine⟨?_,?_,?_,?_,?_,?_,by rw[←f];exact .snoc h.cm i (Le g) jn⟩
 ·have:=h.im;unfold tR at this ⊢;rw[List.all_append,this];show(true&&(cM d&&true))=true;rw[hd];rfl
 ·rw[kk];exact Š.mpr ⟨h.nd,by simp,λy e z hz=>by rw[É.mp hz];rintro rfl;exact Le g e⟩
 ·rw[kk];intro y e;rcases ë.mp e with z|z
  ·exact h.rng y z
  ·rw[É.mp z];exact hc
 ·rw[kk];exact è _ h.st
 ·rw[kk];intro y e;rcases ë.mp e with z|z
  ·exact h.rt y z
  ·rw[É.mp z];exact .step (h.rt x i) t
 ·rw[kk];intro y e;rcases ë.mp e with z|z
  ·exact(h.cl y z).imp (l y) λq b hb=>è _ (q b hb)
  ·rw[É.mp z];exact .inl j
def Sr.wk{n:Nat}{ps:List Put}{a:Int}{m:IM}{o o':Int->Prop}(h:Sr n ps a m o)(f:∀x∈aA m,o x->o' x\/∀b,(x,b)∈edg ps->b∈aA m):Sr n ps a m o' :=
 ⟨h.im,h.nd,h.rng,h.st,h.rt,λx hx=>(h.cl x hx).elim (f x hx) .inr,h.cm⟩
def visit(y:Int)(st:IM×List Int)(t:Tie):IM×List Int:=if d9 st.1 t.1=true then st else(iM st.1 t.1 (.tuple [.int y,.int t.2]),st.2++[t.1])
def visits(ps:List Put)(st:IM×List Int)(y:Int):IM×List Int:=(rowOf ps y.toNat).foldl (visit y) st
def G3(ps:List Put):Nat->IM->List Int->IM
 |0,m,_=>m
 |_+1,m,[]=>m
 |k+1,m,x::r=>G3 ps k ((x::r).foldl (visits ps) (m,[])).1 ((x::r).foldl (visits ps) (m,[])).2
def srM(n:Nat)(ps:List Put)(a:Int):IM:=G3 ps (2 * n+2) [(a,.none)] [a]
structure VI(n:Nat)(ps:List Put)(a:Int)(k:Nat)(R rest:List Int)(y:Int)(st:IM×List Int):Prop where
 sr:Sr n ps a st.1 (λz=>(z∈st.2\/z∈rest)\/z=y)
 row:∀z∈R,z∈aA st.1
 la:∀z∈st.2,z∈aA st.1
 len:⇑st.1=k+⇑st.2
 me:y∈aA st.1
def VI.one{n:Nat}{ps:List Put}{a:Int}{k:Nat}{R rest:List Int}{y:Int}{st:IM×List Int}(ok:PutsOk n ps)(h:VI n ps a k R rest y st){t:Tie}(ht:(y,t)∈ps):VI n ps a k R rest y (visit y st t)/\t.1∈aA (visit y st t).1/\∀z∈aA st.1,z∈aA (visit y st t).1:=by
 unfold visit;cases hb:d9 st.1 t.1 with
 |true =>
  rw[el rfl];exact⟨h,dJ.mp hb,λz hz=>hz⟩
 |false =>
  rw[em Î];have kk:aA (iM st.1 t.1 (.tuple [.int y,.int t.2]))=aA st.1++[t.1]:=by
   rw[lK hb];unfold aA;rw[ì];rfl
  have b:∀z∈aA st.1,z∈aA (iM st.1 t.1 (.tuple [.int y,.int t.2])):=λz hz=>by rw[kk];exact è _ hz
  have own:t.1∈aA (iM st.1 t.1 (.tuple [.int y,.int t.2])):=by rw[kk];exact ã _ (É.mpr rfl)
  refine⟨⟨h.sr.add (x:=y) ht h.me (ok.rng _ ht).2 hb (λz hz=>?_) (.inl (.inl (ã _ (É.mpr rfl)))),λz hz=>b z (h.row z hz),λz hz=>?_,?_,b y h.me⟩,own,b⟩
  ·rcases hz with(z|z)|z
   ·exact .inl (.inl (è _ z))
   ·exact .inl (.inr z)
   ·exact .inr z
  ·rcases ë.mp hz with z|z
   ·exact b _ (h.la _ z)
   ·rw[É.mp z];exact own
  ·have:=h.len;rw[lK hb,Ð,Ð];show ⇑st.1+1=k+(⇑st.2+1)
   lia
theorem VI.many{n:Nat}{ps:List Put}{a:Int}{k:Nat}{R rest:List Int}{y:Int}(ok:PutsOk n ps):∀(b:List Tie) {st:IM×List Int},(∀t∈b,(y,t)∈ps)->VI n ps a k R rest y st->VI n ps a k R rest y (b.foldl (visit y) st)/\(∀t∈b,t.1∈aA (b.foldl (visit y) st).1)/\∀z∈aA st.1,z∈aA (b.foldl (visit y) st).1
 |[],st,_,h=>⟨h,(λt ht=>nomatch ht),λz hz=>hz⟩
 |t::b,st,hp,h=>by
  let⟨h1,h2,f⟩:=h.one ok (hp t Ó);let⟨d,e,c⟩:=VI.many ok b (λu hu=>hp u (Í _ hu)) h1;refine⟨d,λu hu=>?_,λz hz=>c z (f z hz)⟩;rcases Û.mp hu with rfl|hu
  ·exact c _ h2
  ·exact e u hu
structure WI(n:Nat)(ps:List Put)(a:Int)(k:Nat)(R rest:List Int)(st:IM×List Int):Prop where
 sr:Sr n ps a st.1 (λz=>z∈st.2\/z∈rest)
 row:∀z∈R,z∈aA st.1
 la:∀z∈st.2,z∈aA st.1
 len:⇑st.1=k+⇑st.2
def WI.into{n:Nat}{ps:List Put}{a:Int}{k:Nat}{R rest:List Int}{y:Int}{st:IM×List Int}(h:WI n ps a k R (y::rest) st)(c:y∈R):VI n ps a k R rest y st:=⟨h.sr.wk λz _ b=>.inl (by
 rcases b with b|b
 ·exact .inl (.inl b)
 ·rcases Û.mp b with e|e
  ·exact .inr e
  ·exact .inl (.inr e)),h.row,h.la,h.len,h.row y c⟩
def JD{ps:List Put}{y:Int}(a:0<=y):∀t∈rowOf ps y.toNat,(y,t)∈ps:=λt ht=>by
 have:=Ga.mp ht
 rwa [show((y.toNat:Nat):Int)=y by lia]at this
def WI.next{n:Nat}{ps:List Put}{a:Int}{k:Nat}{R rest:List Int}{y:Int}{st:IM×List Int}(ok:PutsOk n ps)(h:WI n ps a k R (y::rest) st)(e:y∈R):WI n ps a k R rest (visits ps st y):=by
 have g:=h.sr.rng y (h.row y e);let⟨c,f,i⟩:=(h.into e).many ok (rowOf ps y.toNat) (JD g.1);unfold visits;refine⟨c.sr.wk λz hz hz'=>?_,c.row,c.la,c.len⟩;rcases hz' with d|d
 ·exact .inl d
 ·right;intro b hb;rw[d]at hb;let⟨k,hk⟩:=fJ.mp hb;refine f (b,k) (Ga.mpr ?_)
  rwa [show((y.toNat:Nat):Int)=y by lia]
theorem WI.many{n:Nat}{ps:List Put}{a:Int}{k:Nat}{R:List Int}(ok:PutsOk n ps):∀(l rest:List Int) {st:IM×List Int},(∀y∈l,y∈R)->WI n ps a k R (l++rest) st->WI n ps a k R rest (l.foldl (visits ps) st)
 |[],rest,st,_,h=>h
 |y::l,rest,st,hl,h=>WI.many ok l rest (λz hz=>hl z (Í _ hz)) (h.next ok (hl y Ó))
def WI.start{n:Nat}{ps:List Put}{a:Int}{m:IM}{R:List Int}(h:Sr n ps a m (·∈R))(hr:∀x∈R,x∈aA m):WI n ps a ⇑m R R (m,[]):=⟨h.wk λx _ hx=>.inl (.inr hx),hr,(λy hy=>nomatch hy),rfl⟩
def WI.at{n:Nat}{ps:List Put}{a:Int}{m:IM}{R:List Int}(ok:PutsOk n ps)(h:Sr n ps a m (·∈R))(hr:∀x∈R,x∈aA m)(i:Nat):WI n ps a ⇑m R (R.drop i) ((R.take i).foldl (visits ps) (m,[])) :=
 WI.many ok (R.take i) (R.drop i) (λy hy=>Ń hy) (by rw[List.take_append_drop];exact WI.start h hr)
def mes(n:Nat)(m:IM)(R:List Int):Nat:=2 * (n - ⇑m)+(if R=[]then 0 else 1)
def WI.less{n:Nat}{ps:List Put}{a:Int}{m:IM}{R:List Int}{st:IM×List Int}(h:WI n ps a ⇑m R [] st)(d:R≠[]):mes n st.1 st.2<mes n m R:=by
 have c:=h.sr.few;have b:=h.len;unfold mes;rw[em d];by_cases e:st.2=[]
 ·rw[e]at b;rw[el e];have b:⇑st.1=⇑m+0:=b;lia
 ·rw[em e];have:=List.length_pos_iff.mpr e;lia
def WI.done{n:Nat}{ps:List Put}{a:Int}{m:IM}{R:List Int}{st:IM×List Int}(h:WI n ps a ⇑m R [] st):Sr n ps a st.1 (·∈st.2):=h.sr.wk λz _ hz=>.inl (hz.elim id λq=>nomatch q)
theorem Fg{n:Nat}{ps:List Put}{a:Int}(ok:PutsOk n ps):∀(k:Nat)(m:IM)(R:List Int),mes n m R<=k->Sr n ps a m (·∈R)->(∀x∈R,x∈aA m)->Sr n ps a (G3 ps k m R) λ_=>False
 |k,m,[],_,h,_=>by
  have e:G3 ps k m []=m:=by cases k <;> rfl
  rw[e];exact h.wk λz _ hz=>nomatch hz
 |0,m,x::r,hk,_,_=>by
  unfold mes at hk;rw[em (λz=>nomatch z)]at hk;lia
 |k+1,m,x::r,hk,h,hr=>by
  have W:=WI.at ok h hr ⇑(x::r);rw[List.drop_length,ğ]at W;have l:=W.less (λz=>nomatch z);exact Fg ok k _ _ () W.done W.la
def yR{n:Nat}{ps:List Put}{a:Int}(b:0<=a)(c:a<n):Sr n ps a [(a,.none)] (·∈[a]):=by
 refine⟨rfl,by simp[aA],λx hx=>?_,by simp[aA],λx hx=>?_,λx hx=>.inl ?_,.base⟩
 ·have e:x=a:=by simpa[aA]using hx
  lia
 ·have e:x=a:=by simpa[aA]using hx
  rw[e];exact .refl _
 ·have e:x=a:=by simpa[aA]using hx
  rw[e];exact É.mpr rfl
def vh(a:Int):∀x∈[a],x∈aA [(a,PyData.none)]:=λx hx=>by
 rw[É.mp hx];simp[aA]
def kE{n:Nat}{ps:List Put}{a:Int}(ok:PutsOk n ps)(b:0<=a)(c:a<n):Sr n ps a (srM n ps a) λ_=>False:=Fg ok _ _ _ (by
 unfold mes;rw[em (λz=>nomatch z)];show 2 * (n - 1)+1<=2 * n+2;lia) (yR b c) (vh a)
def Gs:FF:=λds P=>∃n ps a,ds=[stD (stOf n ps),.int a]/\n<=100/\PutsOk n ps/\0<=a/\a<n/\P (.dict (kvD (srM n ps a)))
def Hi(F:Fun K "search" "search" (top 12) f fd)(B:Ĩ mg):FnOk P w K mg base CX0 1 f fd [ck,bc] (spD Gs):=by
 refine okT F (N:=[ck,bc,"came","row","later",af,"step"]) zC (λhr nd=>Ç (ê (some 0) (i:=2) nd rfl zQ (Wr.sG (Ã 1) Ŗ))
  (Ç (ê none (i:=3) nd rfl zQ (ø (À (Ã 1) Á)))
  (Ç (Wr.ju ð (Wr.qM (Ã 3)) (Ç (ê (some 1) (i:=4) nd rfl zQ (ø Á))
  (Ç (Ġ ð rfl (Ċ (Ã 3)) (ß (i:=5) nd rfl zQ) (Ç (Ġ ð rfl (Ċ (Ñ (Ã 0) (Ã 5))) (ß (i:=6) nd rfl zQ) (Ç (ý (Wr.eX hr.units (Ñ (Ã 6) È) (Ã 2)) (Ç (Wr.qZ hr.units (ĵ 2) (Ñ (Ã 6) È) (ï (À (Ã 5) (À (Ñ (Ã 6) È) Á))))
  (Ö (Œ (ĵ 4) (À (Ñ (Ã 6) È) Á)))) ä) (ç [6] ä))) (ç [5,6] ä)))
  (ç [5,6] (Wr.xY 4 (Ç (ê none (i:=3) nd rfl zQ (Ã 4)) (ç [4,5,6] ä)))))))
  (ç [3,4,5,6] (Ö (Ü (Ã 2))))))) ?_
 rintro ds P ⟨n,ps,a,rfl,O,ok,H,I,q⟩;refine⟨[.sh (stD (stOf n ps)),.im (.int a),.any,.any,.any,.any,.any],rfl,?_⟩;refine⟨rfl,zK,?_⟩;refine⟨λD ρ=>∃(m:IM)(row:List Int)(b:Nat),ρ=[.sh (stD (stOf n ps)),.im (.int a),.dw 0 (.dict (kvD m)),.sn (iD row),.any,.any,.any]/\Sr n ps a m (·∈row)/\(∀x∈row,x∈aA m)/\D=mes n m row/\D<=b/\G3 ps b m row=srM n ps a,⟨_,[(a,.none)],[a],2 * n+2,rfl,yR H I,vh a,rfl,?_,rfl⟩,?_⟩
 ·unfold mes;rw[em (λz=>nomatch z)];show 2 * (n - 1)+1<=2 * n+2;lia
 rintro D ρ ⟨m,R,b,rfl,h,hr,rfl,U,e⟩;show if(!(R.map Â).isEmpty)=true then _ else _
 cases p:R with
 |nil =>
  subst p;refine aD (A:=True) ⟨rfl,?_⟩;have L:G3 ps b m []=m:=by cases b <;> rfl
  rw[L]at e;rw[e];exact q
 |cons x0 R0 =>
  refine aB (B:=True) ?_;rw[←p];have C:R≠[]:=by rw[p];exact λz=>nomatch z
  refine⟨∅,rfl,λ(i:Nat) ρ=>∃st:IM×List Int,st=(R.take i).foldl (visits ps) (m,[])/\ρ=[.sh (stD (stOf n ps)),.im (.int a),.dw 0 (.dict (kvD st.1)),.sn (iD R),.dw 1 (iD st.2),.any,.any],⟨(m,[]),rfl,rfl⟩,?_,?_⟩
  ·rintro i d ρ hd ⟨st,hst,rfl⟩;let⟨y,r,rfl⟩:=d7 hd;have G:=Ê r;have W:=WI.at ok h hr i;rw[←hst]at W;have J:R.drop i=y::R.drop (i+1):=by
    have hi:=(Æ.mp r).1;rw[List.drop_eq_getElem_cons hi,(Æ.mp r).2]
   rw[J]at W;have V:=W.into G;have S:=W.sr.rng y (W.row y G);have T:=lH ps y.toNat;have M:=ok.few;have s:atI ((stOf n ps).map λts=>ē (ts.map pD)) y=some (.list ((rowOf ps y.toNat).map pD)):=by
    have:=bJ (xs:=(stOf n ps).map λts=>ē (ts.map pD)) (j:=y.toNat) (v:=.list ((rowOf ps y.toNat).map pD)) (by rw[à,wu ps ()];rfl)
    rwa [show((y.toNat:Nat):Int)=y by lia]at this
   have tk:R.take (i+1)=R.take i++[y]:=by rw[ĕ,r];rfl
   refine⟨.list ((rowOf ps y.toNat).map pD),s,rfl,λ(j:Nat) ρ=>∃c:IM×List Int,c=((rowOf ps y.toNat).take j).foldl (visit y) st/\ρ=[.sh (stD (stOf n ps)),.im (.int a),.dw 0 (.dict (kvD c.1)),.sn (iD R),.dw 1 (iD c.2),.im (.int y),.any],⟨st,rfl,rfl⟩,?_,?_⟩
   ·rintro j d ρ hd ⟨c,hs2,rfl⟩;let⟨t,ht,rfl⟩:=d7 hd;have Q:(rowOf ps y.toNat).take (j+1)=(rowOf ps y.toNat).take j++[t]:=by rw[ĕ,ht];rfl
    have o:=(V.many ok ((rowOf ps y.toNat).take j) λu hu=>JD S.1 u (Ń hu)).1;rw[←hs2]at o;have E:=o.sr.few;have len2:=o.len;have l:visit y c t=((rowOf ps y.toNat).take (j+1)).foldl (visit y) st:=by rw[Q,List.foldl_append,←hs2];rfl
    refine⟨.int t.1,rfl,c.1,rfl,?_⟩;show if(!d9 c.1 t.1)=true then _ else _
    unfold visit at l;cases hb:d9 c.1 t.1 with
    |true =>
     rw[hb,el rfl]at l;exact aD (A:=True) ⟨c,l,rfl⟩
    |false =>
     rw[hb,em Î]at l;have X:⇑(c.2.map Â)=⇑c.2:=Ä ..;refine aB (B:=True) ⟨.int t.2,rfl,zK,.int t.1,rfl,c.1,rfl,rfl,o.sr.im,(),.int t.1,rfl,rfl,(),_,l,?_⟩;unfold iD;rw[ì];rfl
   ·rintro ρ ⟨c,hs2,rfl⟩;rw[Ä,ğ]at hs2;refine⟨c,?_,rfl⟩;rw[tk,List.foldl_append,←hst,hs2];rfl
  ·rintro ρ ⟨st,hst,rfl⟩;rw[Ä]at hst;have W:=WI.at ok h hr ⇑R;rw[←hst,List.drop_length]at W;have g:=W.less C;rw[ğ]at hst;refine⟨rfl,mes n st.1 st.2,g,st.1,st.2,b - 1,rfl,W.done,W.la,rfl,(),?_⟩;cases b with
   |zero=>lia
   |succ k =>
    rw[hst,←e,p];rfl
end
inductive Wy(ws:List Put)(a:Int):List Int->List Int->Int->Prop
 |one:Wy ws a [a] [] a
 |step {ps ks:List Int}{p x k:Int} (h:Wy ws a ps ks p) (hx:x∉ps) (j:(p,(x,k))∈ws):Wy ws a (ps++[x]) (ks++[k]) x
inductive TR(m:IM):List Int->List Int->Int->Prop
 |one {a:Int} (h:mX m a=some .none):TR m [a] [] a
 |step {ps ks:List Int}{p x k:Int} (h:TR m ps ks p) (g:mX m x=some (.tuple [.int p,.int k])):TR m (ps++[x]) (ks++[k]) x
def Ah{m:IM}{x:Int}{e:D}{q:Int×D}(h:mX m x=some e):mX (m++[q]) x=some e:=by
 unfold mX at h ⊢;rw[List.find?_append];cases a:m.find? λp=>decide (p.1=x)with
 |none=>rw[a]at h;cases h
 |some z=>rw[a]at h;exact h
def PN{m:IM}{y:Int}{d:D}(b:y∉aA m):mX (m++[(y,d)]) y=some d:=by
 unfold mX;have a:(m.find? λp=>decide (p.1=y))=none:=List.find?_eq_none.mpr λp hp z=>b (Ć.mpr ⟨p,hp,eh z⟩);rw[List.find?_append,a];show((List.find? (λp=>decide (p.1=y)) [(y,d)])).map (·.2)=some d;rw[List.find?_cons_of_pos (by exact decide_eq_true rfl)];rfl
def TR.snoc{m:IM}{q:Int×D}{ps ks:List Int}{x:Int}(h:TR m ps ks x):TR (m++[q]) ps ks x:=by
 induction h with
 |one h=>exact .one (Ah h)
 |step _ g a=>exact .step a (Ah g)
def Cm.tr{g:List Put}{a:Int}{m:IM}(h:Cm g a m):∀x∈aA m,∃ps ks,Wy g a ps ks x/\TR m ps ks x/\(∀y∈ps,y∈aA m)/\⇑ps<=⇑m/\⇑ks<=⇑m:=by
 induction h with
 |base =>
  intro x c;have e:x=a:=by simpa[aA]using c
  subst e;exact⟨[x],[],.one,.one (by unfold mX;rw[List.find?_cons_of_pos (by exact decide_eq_true rfl)];rfl),λy hy=>by rw[É.mp hy];simp[aA],Õ _,Ğ _⟩
 |@snoc m x0 p k h hp c j ih =>
  have kk:aA (m++[(x0,.tuple [.int p,.int k])])=aA m++[x0]:=by unfold aA;rw[ì];rfl
  intro x b;rw[kk]at b;rcases ë.mp b with z|z
  ·let⟨ps,ks,w,t,hs,d,f⟩:=ih x z;exact⟨ps,ks,w,t.snoc,λy hy=>by rw[kk];exact è _ (hs y hy),by rw[Ð];lia,by rw[Ð];lia⟩
  ·rw[É.mp z];let⟨ps,ks,w,t,hs,d,f⟩:=ih p hp;refine⟨ps++[x0],ks++[k],.step w (λq=>c (hs _ q)) j,.step t.snoc (PN c),λy hy=>?_,by rw[Ð,Ð];simpa using d,by rw[Ð,Ð];simpa using f⟩;rw[kk];rcases ë.mp hy with q|q
   ·exact è _ (hs y q)
   ·exact ã _ q
def TR.val{m:IM}{ps ks:List Int}{x:Int}(h:TR m ps ks x):∃d,mX m x=some d/\((d=.none/\ps=[x]/\ks=[])\/∃ps' ks' p k,d=.tuple [.int p,.int k]/\ps=ps'++[x]/\ks=ks'++[k]/\TR m ps' ks' p):=by
 cases h with
 |one h=>exact⟨_,h,.inl ⟨rfl,rfl,rfl⟩⟩
 |step h g=>exact⟨_,g,.inr ⟨_,_,_,_,rfl,rfl,rfl,h⟩⟩
def TR.uniq{m:IM}{ps ks:List Int}{x:Int}(h:TR m ps ks x):∀{b a:List Int},TR m b a x->ps=b/\ks=a:=by
 induction h with
 |one h =>
  intro b a h';cases h' with
  |one _=>exact⟨rfl,rfl⟩
  |step _ g=>rw[h]at g;cases g
 |step _ g ih =>
  intro b a h';cases h' with
  |one h=>rw[g]at h;cases h
  |step h2 g2 =>
   rw[g]at g2;cases g2;let⟨rfl,rfl⟩:=ih h2;exact⟨rfl,rfl⟩
open Classical in
def trO(m:IM)(g:Int):Option (List Int×List Int):=if h:∃r:List Int×List Int,TR m r.1 r.2 g then some h.choose else none
def Eu{m:IM}{g:Int}{ps ks:List Int}(h:TR m ps ks g):trO m g=some (ps,ks):=by
 have e:∃r:List Int×List Int,TR m r.1 r.2 g:=⟨(ps,ks),h⟩
 unfold trO;rw[dif_pos e];let⟨h1,h2⟩:=h.uniq e.choose_spec;exact et some (Prod.ext h1.symm h2.symm)
def Ew{m:IM}{g:Int}(h:d9 m g=false):trO m g=none:=by
 unfold trO;refine dif_neg λ⟨r,hr⟩=>?_;let⟨d,hd,_⟩:=hr.val;unfold mX at hd;cases a:m.find? λp=>decide (p.1=g)with
 |none=>rw[a]at hd;cases hd
 |some z =>
  have h1:=List.mem_of_find?_eq_some a;have h2:=List.find?_some a;have:d9 m g=true:=ŕ.mpr ⟨z,h1,h2⟩;rw[this]at h;cases h
def bK:Option (List Int×List Int)->D
 |none=>.none
 |some r=>.tuple [iD r.1,iD r.2]
def bI(n:Nat)(ps:List Put)(a g:Int):Option (List Int×List Int):=trO (srM n ps a) g
def bw{n:Nat}{ps:List Put}{a g:Int}(ok:PutsOk n ps)(b:0<=a)(c:a<n)(r:Rt (edg ps) a g):∃P K,bI n ps a g=some (P,K)/\Wy ps a P K g/\⇑P<=n/\⇑K<=n:=by
 have S:=kE ok b c;let⟨P,K,W,T,_,e,f⟩:=S.cm.tr g (dJ.mp ((S.all g).mpr r));have d:=S.few;exact⟨P,K,Eu T,W,(),()⟩
def Hh{n:Nat}{ps:List Put}{a g:Int}(ok:PutsOk n ps)(b:0<=a)(c:a<n)(r:¬Rt (edg ps) a g):bI n ps a g=none:=Ew (by
 have S:=kE ok b c;rw[Ę];exact λz=>r ((S.all g).mp z))
def aF(us:List Tie):List Put:=us.zipIdx.flatMap λp=>[(p.1.1,(p.1.2,((p.2:Nat):Int))),(p.1.2,(p.1.1,((p.2:Nat):Int)))]
def Cj{us:List Tie}{i:Nat}{t:Tie}(h:us[i]?=some t):aF (us.take (i+1))=aF (us.take i)++[(t.1,(t.2,((i:Nat):Int)))]++[(t.2,(t.1,((i:Nat):Int)))]:=by
 have hi:=(Æ.mp h).1;have tk:us.take (i+1)=us.take i++[t]:=by rw[ĕ,h];rfl
 unfold aF;rw[tk,List.zipIdx_append,List.flatMap_append,ć,Nat.min_eq_left (),ĩ,Nat.zero_add];rfl
def bO{us:List Tie}{p x k:Int}:(p,(x,k))∈aF us↔∃j:Nat,k=((j:Nat):Int)/\(us[j]?=some (p,x)\/us[j]?=some (x,p)):=by
 unfold aF;rw[List.mem_flatMap];constructor
 ·rintro⟨⟨t,j⟩,ht,hm⟩;have ht:us[j]?=some t:=û.mp ht;simp only[Û,Ý,or_false,Prod.mk.injEq]at hm;rcases hm with⟨rfl,rfl,rfl⟩|⟨rfl,rfl,rfl⟩
  ·exact⟨j,rfl,.inl ht⟩
  ·exact⟨j,rfl,.inr ht⟩
 ·rintro⟨j,rfl,e|e⟩
  ·exact⟨((p,x),j),û.mpr e,by simp⟩
  ·exact⟨((x,p),j),û.mpr e,by simp⟩
theorem qG{α β:Type}(f g:α->β):∀l:List α,⇑(l.flatMap λp=>[f p,g p])=2 * ⇑l
 |[]=>rfl
 |x::l=>by
  rw[List.flatMap_cons,Ð,qG f g l];show 2+2 * ⇑l=2 * (⇑l+1);lia
def uX(us:List Tie):⇑(aF us)=2 * ⇑us:=by
 unfold aF;rw[qG,List.length_zipIdx]
def dN{n:Int}{us:List Tie}(n0:0<=n)(c:⇑us<=100)(ok:OkN n us):PutsOk n.toNat (aF us):=by
 refine⟨by rw[uX];lia,λq hq=>?_⟩;let⟨p,x,k⟩:=q;obtain⟨j,_,e|e⟩:=bO.mp hq
 ·let⟨⟨h1,h2⟩,⟨a,b⟩,_⟩:=ok _ (Ê e);dsimp only at *;lia
 ·let⟨⟨h1,h2⟩,⟨a,b⟩,_⟩:=ok _ (Ê e);dsimp only at *;lia
def vG{us:List Tie}{x y:Int}:(x,y)∈edg (aF us)↔(x,y)∈adj us [] []:=by
 rw[fJ,GK];constructor
 ·rintro⟨k,h⟩;obtain⟨j,_,e|e⟩:=bO.mp h
  ·exact .inl (Ê e)
  ·exact .inr (Ê e)
 ·rintro(e|e)
  ·let⟨j,a⟩:=ė e;exact⟨_,bO.mpr ⟨j,rfl,.inl a⟩⟩
  ·let⟨j,a⟩:=ė e;exact⟨_,bO.mpr ⟨j,rfl,.inr a⟩⟩
def iY{us:List Tie}{x y:Int}:Rt (edg (aF us)) x y↔Rt (adj us [] []) x y:=⟨Rt.mono λ⟨_,_⟩ h=>vG.mp h,Rt.mono λ⟨_,_⟩ h=>vG.mpr h⟩
def Ls:FF:=λds P=>∃(ws:List Put)(a:Int)(m:IM)(g:Int),ds=[.dict (kvD m),.int g]/\Cm ws a m/\⇑m<=100/\P (bK (trO m g))
def Lw:FF:=λds P=>∃n us,ds=[au n us]/\0<=n/\n<=100/\⇑us<=100/\OkN n us/\P (stD (stOf n.toNat (aF us)))
def QV:FF:=λds P=>∃n us a,ds=[au n us,.int a]/\0<=n/\n<=60/\⇑us<=100/\OkN n us/\0<=a/\a<n/\P (iD (rsI (adj us [] []) n.toNat a))
def Wo:FF:=λds P=>∃n us a b,ds=[au n us,.int a,.int b]/\0<=n/\n<=60/\⇑us<=100/\OkN n us/\0<=a/\a<n/\0<=b/\b<n/\P (bK (bI n.toNat (aF us) a b))
def Q7:FF:=λds P=>∃n us d,ds=[au n us,d]/\P (.bool (aK n d))
def Q6:FF:=λds P=>∃n us d,ds=[au n us,d]/\P (.bool (aK (⇑us:Nat) d))
def WL:FF:=λds P=>∃n us i,ds=[au n us,.int i]/\0<=i/\i<n/\P .none
def WM:FF:=λds P=>∃n us i j,ds=[au n us,.int i,.int j]/\0<=i/\i<n/\0<=j/\j<n/\i≠j/\P .none
section
variable{P:Za}{w:Zb}{K:á}{mg:Str->Option Value}{base:Zg}{f:Addr}{fd:Yc}{CN:Addr}
def Kr(F:Fun K "trace" "trace" (top 13) f fd)(B:Ĩ mg)(I:mg "reversed"=none):FnOk P w K mg base CX0 1 f fd ["came",bz] (spD Ls):=by
 refine okT F (N:=["came",bz,bb,"ties","step"]) zC (λhr nd=>Ç (ý (Wr.eX hr.units (Ã 1) (Ã 0)) (Ö (Ü Ŗ)) ä)
  (Ç (ê (some 0) (i:=2) nd rfl zQ (ø (À (Ã 1) Á)))
  (Ç (ê (some 1) (i:=3) nd rfl zQ (ø Á))
  (Ç (ê none (i:=4) nd rfl zQ (Wr.qR hr.units (Ã 0) (Ã 1)))
  (Ç (Wr.ju ð (Wr.gU (Ã 4) Ŗ) (Ç (Œ (ĵ 2) (À (Ñ (Ã 4) È) Á))
  (Ç (Œ (ĵ 3) (À (Ñ (Ã 4) È) Á))
  (Ö (ê none (i:=4) nd rfl zQ (Wr.qR hr.units (Ã 0) (Ñ (Ã 4) È)))))))
  (ç [4] (Ö (Ü (ï (À (Wr.g8 rfl B.list I (À (Ã 2) Á)) (À (Wr.g8 rfl B.list I (À (Ã 3) Á)) Á))))))))))) ?_
 rintro ds P ⟨Z,a,m,g,rfl,C,Y,o⟩;refine⟨[.sh (.dict (kvD m)),.im (.int g),.any,.any,.any],rfl,m,rfl,?_⟩;show if(!d9 m g)=true then _ else _
 cases hb:d9 m g with
 |false=>exact aB (B:=True) ⟨rfl,by rw[Ew hb]at o;exact o⟩
 |true =>
  let⟨ps,ks,W,T,_,V,X⟩:=C.tr g (dJ.mp hb);have q:P (.tuple [iD ps,iD ks]):=by rw[Eu T]at o;exact o
  let⟨e,h,y⟩:=T.val;have E:∀k,norm k e=.imm:=λk=>by
   rcases y with⟨rfl,_⟩|⟨_,_,p,U,rfl,_⟩
   ·exact bL rfl
   ·exact bL rfl
  refine aD (A:=True) ⟨zK,zK,m,e,rfl,h,?_⟩;show Az 4 none (λ_ P=>P (norm .shr e) e) _ _;unfold Az;simp only[E];show iR _ _ _ [.sh (.dict (kvD m)),.im (.int g),.dw 0 (iD [g]),.dw 1 (iD []),.im e];refine⟨λJ ρ=>∃(c:Int)(n H S T:List Int)(d:D),ρ=[.sh (.dict (kvD m)),.im (.int g),.dw 0 (iD (S.reverse++[c])),.dw 1 (iD T.reverse),.im d]/\TR m n H c/\mX m c=some d/\n++S=ps/\H++T=ks/\J=⇑n,⟨_,g,ps,ks,[],[],e,rfl,T,h,Ĕ _,Ĕ _,rfl⟩,?_⟩;rintro J ρ ⟨c,n,H,S,b,d,rfl,t,hg,v,x,rfl⟩;have O:⇑(S.reverse++[c])<=101:=by
   have h1:=et List.length v;rw[Ð]at h1;rw[Ð,List.length_reverse,í];lia
  have Q:⇑b.reverse<=100:=by
   have h1:=et List.length x;rw[Ð]at h1;rw[List.length_reverse];lia
  let⟨R,j,hv⟩:=t.val;rw[hg]at j;cases j;rcases hv with⟨rfl,rfl,rfl⟩|⟨L,M,p,k,rfl,rfl,rfl,t'⟩
  ·have r:((S.reverse++[c]).map Â).reverse=ps.map Â:=by
    rw[←List.map_reverse,List.reverse_append,List.reverse_reverse,←v];rfl
   have s:(b.reverse.map Â).reverse=ks.map Â:=by
    rw[←List.map_reverse,List.reverse_reverse,←x];rfl
   refine aD (A:=True) (.inl ⟨by rw[r];exact dg _,.inl ⟨by rw[s];exact dg _,zK,rfl,?_⟩⟩);show P (.tuple [.list ((S.reverse++[c]).map Â).reverse,.list (b.reverse.map Â).reverse]);rw[r,s];exact q
  ·let⟨u,l,z⟩:=t'.val;have G:∀k,norm k u=.imm:=λk=>by
    rcases z with⟨rfl,_⟩|⟨_,_,_,_,rfl,_⟩
    ·exact bL rfl
    ·exact bL rfl
   refine aB (B:=True) ⟨.int p,rfl,rfl,by rw[Ä];lia,.int k,rfl,rfl,by rw[Ä];lia,.int p,rfl,m,u,rfl,l,?_⟩;simp only[G];refine⟨⇑L,by rw[Ð,í];lia,p,L,M,c::S,k::b,u,?_,t',l,by rw[←v,ĩ];rfl,by rw[←x,ĩ];rfl,rfl⟩;have r:(S.reverse++[c]).map Â++[Â p]=((c::S).reverse++[p]).map Â:=by
    rw[Ÿ,ì (l₂:=[p])];rfl
   have s:b.reverse.map Â++[Â k]=(k::b).reverse.map Â:=by
    rw[Ÿ,ì];rfl
   show([_,_,Sl.dw 0 (.list ((S.reverse++[c]).map Â++[Â p])),Sl.dw 1 (.list (b.reverse.map Â++[Â k])),_]:List Sl)=[_,_,Sl.dw 0 (.list (((c::S).reverse++[p]).map Â)),Sl.dw 1 (.list ((k::b).reverse.map Â)),_]
   rw[r,s];rfl
def sc4:FnScope [ac] [ac] (aH (top 4)):=zC
def Kq(F:Fun K dy dy (top 4) f fd)(B:Ĩ mg):FnOk P w K mg base CX0 1 f fd [ac] (spD DQ):=by
 refine F.ok sc4 mQ (λcdv A outer s H vs Q E hr h=>?_);refine⟨_,pC (pB (sJ (bY Pa B.isinstance (dv 0) (wN (v:=.ty "int") rfl B.int VQ rfl)) (cX (rY (bY K6 B.isinstance (dv 0) (wN (v:=.ty "bool") rfl B.bool boot_bool rfl)))))),xV h ?_⟩;rintro ds P ⟨d,rfl,q⟩;unfold yq EY tIs;refine BJ (d:=d) rfl λk=>?_;cases d <;> exact⟨rfl,q⟩
def sc5:FnScope ["limit",ac] ["limit",ac] (aH (top 5)):=zC
def Kw(F:Fun K "is_below" "is_below" (top 5) f fd)(W:ĉ P w K mg base 1 dy [ac] (spD DQ)):FnOk P w K mg base CX0 2 f fd ["limit",ac] (spD LK):=by
 refine F.ok sc5 mQ (λcdv A outer s H vs Q E hr h=>?_);refine⟨_,pC (pB (sJ (dc W hr (eY (dv 1) jL)) (cX (Oh je (dv 1) (dv 0))))),xV h ?_⟩;rintro ds P ⟨m,d,rfl,q⟩;unfold yq EY tFn aQ;refine BJ (d:=d) rfl λk=>⟨d,rfl,?_⟩
 cases d with
 |int i =>
  have e:P (.bool (decide (0<=i/\i<m))):=q;by_cases a:(0:Int)<=i
  ·show if decide ((0:Int)<=i)=true then _ else _
   rw[decide_eq_true a];refine aB (B:=True) ⟨rfl,?_⟩;have b:decide (0<=i/\i<m)=decide (i<m):=by simp[a]
   rw[b]at e;exact e
  ·show if decide ((0:Int)<=i)=true then _ else _
   rw[eg a];refine aD (A:=True) ⟨rfl,?_⟩;have b:decide (0<=i/\i<m)=false:=by simp[a]
   rw[b]at e;exact e
 |_=>exact⟨rfl,q⟩
abbrev kA1(P w K mg base):=ĉ P w K mg base 2 "is_below" ["limit",ac] (spD LK)
def zN(F:Fun K "is_place" "is_place" (top 6) f fd)(B:Ĩ mg)(a:kA1 P w K mg base):FnOk P w K mg base CX0 3 f fd [aa,ac] (spD Q7):=by
 refine okT F (N:=[aa,ac]) zC (λhr nd=>Ö (Ü (ù a hr (À (Ñ (Ã 0) È) (À (Ã 1) Á))))) ?_;rintro ds P ⟨n,us,d,rfl,q⟩;refine⟨[.im (au n us),cg d],dD rfl,?_⟩;refine⟨.int n,rfl,?_⟩;refine BJ rfl λk=>⟨n,d,rfl,?_⟩
 exact⟨rfl,q⟩
def oK(F:Fun K ca ca (top 7) f fd)(B:Ĩ mg)(a:kA1 P w K mg base):FnOk P w K mg base CX0 3 f fd [aa,ac] (spD Q6):=by
 refine okT F (N:=[aa,ac]) zC (λhr nd=>Ö (Ü (ù a hr (À (ŧ B.len (À (Ñ (Ã 0) È) Á)) (À (Ã 1) Á))))) ?_;rintro ds P ⟨n,us,d,rfl,q⟩;refine⟨[.im (au n us),cg d],dD rfl,?_⟩;rcases cj d with e|e
 all_goals
  rw[e];refine⟨.tuple (us.map pD),rfl,_,d,rfl,?_⟩;rw[Ä];exact⟨rfl,q⟩
abbrev kA2(P w K mg base):=ĉ P w K mg base 3 "is_place" [aa,ac] (spD Q7)
def sX(F:Fun K db db (top 8) f fd)(B:Ĩ mg)(a:kA2 P w K mg base):FnOk P w K mg base CX0 4 f fd [aa,ac] (spD WL):=by
 refine okT F (N:=[aa,ac]) zC (λhr nd=>Ö (ý (ĭ (Đ (ù a hr (À (Ã 0) (À (Ã 1) Á))))) (Ö Wr.nD) ä)) ?_;rintro ds P ⟨n,us,i,rfl,b,h1,q⟩;refine⟨[.im (au n us),.im (.int i)],dD rfl,?_⟩;refine⟨n,us,.int i,rfl,?_⟩;show if(!aK n (.int i))=true then _ else _
 rw[show aK n (.int i)=true from decide_eq_true ⟨b,h1⟩];exact aD (A:=True) q
abbrev kA3(P w K mg base):=ĉ P w K mg base 4 db [aa,ac] (spD WL)
def jZ(F:Fun K bh bh (top 9) f fd)(B:Ĩ mg)(a:kA3 P w K mg base):FnOk P w K mg base CX0 5 f fd [aa,aI,a6] (spD WM):=by
 refine okT F (N:=[aa,aI,a6]) zC (λhr nd=>Ç (Ů (ù a hr (À (Ã 0) (À (Ã 1) Á))))
  (Ç (Ů (ù a hr (À (Ã 0) (À (Ã 2) Á))))
  (Ö (ý (Wr.lR hr.units (Ã 1) (Ã 2)) (Ö Wr.nD) ä)))) ?_
 rintro ds P ⟨n,us,i,j,rfl,b,h1,h2,c,d,q⟩;refine⟨[.im (au n us),.im (.int i),.im (.int j)],dD rfl,?_⟩;refine⟨n,us,i,rfl,b,h1,n,us,j,rfl,h2,c,?_⟩;show if decide (i=j)=true then _ else _
 rw[eg d];exact aD (A:=True) q
def mF:([af,aa,ck,bg,am]:List Str).Nodup:=⋯
def qt(F:Fun K cq cq (top 11) f fd)(B:Ĩ mg)(j:mg cz=none):FnOk P w K mg base CX0 1 f fd [aa] (spD Lw):=by
 refine okT F (N:=[aa,ck,bg,am]) zC (λhr nd=>Ç (Wr.jw 0 [af] (i:=1) rfl nd rfl zQ (ģ B.range (À (Ñ (Ã 0) È) Á)) (λc=>(ß (i:=0) mF rfl zQ)))
  (Ç (Ġ ð rfl (Wr.nF j (À (Ñ (Ã 0) È) Á)) (Wr.dW (n:=2) rfl (ċ (ß (i:=2) nd rfl zQ) (ċ (ß (i:=3) nd rfl zQ) ů))) (Ç (Wr.dB (ĵ 1) (Ñ (Ã 3) È) (À (ï (À (Ñ (Ã 3) È) (À (Ã 2) Á))) Á))
  (Ç (Wr.dB (ĵ 1) (Ñ (Ã 3) È) (À (ï (À (Ñ (Ã 3) È) (À (Ã 2) Á))) Á)) (ç [2,3] ä))))
  (ç [2,3] (Ö (Ü (Ã 1)))))) ?_
 rintro ds P ⟨n,us,rfl,r,k,o,ok,q⟩;refine⟨[.im (au n us),.any,.any,.any],?_,?_⟩
 ·show [cg (au n us),.any,.any,.any]=_;rw[iG]
 refine⟨.int n,rfl,⟨(),()⟩,by rw[Ŭ];lia,rfl,?_⟩;rw[Ŭ];refine⟨.tuple (us.map pD),rfl,rfl,λ(i:Nat) ρ=>ρ=[.im (au n us),.rw 0 (rP (stOf n.toNat (aF (us.take i)))),.any,.any],?_,?_,?_⟩
 ·show [_,Sl.rw 0 (Ú n.toNat []),_,_]=[_,Sl.rw 0 (rP (stOf n.toNat [])),_,_]
  rw[BR];unfold rP;rw[List.map_replicate];rfl
 ·rintro i d ρ hd rfl;rw[eG,à]at hd;obtain⟨t,ht,rfl⟩:∃t,us[i]?=some t/\Ŏ [.int ((i:Nat):Int),pD t]=d:=by
   cases e:us[i]? with
   |none=>rw[e]at hd;cases hd
   |some t=>rw[e]at hd;exact⟨t,rfl,Ô hd⟩
  let⟨⟨a,s⟩,⟨b,u⟩,v⟩:=ok t (Ê ht);have hi:=(Æ.mp ht).1;have m:⇑(aF (us.take i))<=200:=by rw[uX,ć];lia
  have x:=lH (aF (us.take i)) t.1.toNat;have l:=lH (aF (us.take i)++[(t.1,(t.2,((i:Nat):Int)))]) t.2.toNat;rw[Ð,í]at l;have g:=lJ (n:=n.toNat) (ps:=aF (us.take i)) (q:=(t.1,(t.2,((i:Nat):Int)))) ⟨a,by show t.1<_;lia⟩;have h:=lJ (n:=n.toNat) (ps:=aF (us.take i)++[(t.1,(t.2,((i:Nat):Int)))]) (q:=(t.2,(t.1,((i:Nat):Int)))) ⟨b,by show t.2<_;lia⟩;rw[←g]at h;refine⟨rfl,.int t.1,rfl,t.1.toNat,(rowOf (aF (us.take i)) t.1.toNat).map pD,?_,rO _ (),.int t.2,rfl,zK,rfl,by rw[Ä];lia,.int t.2,rfl,?_⟩
  ·unfold ixN rP;rw[el a,el (by rw[Ä,gQ];lia)]
  refine⟨t.2.toNat,(rowOf (aF (us.take i)++[(t.1,(t.2,((i:Nat):Int)))]) t.2.toNat).map pD,?_,?_,.int t.1,rfl,zK,rfl,by rw[Ä];lia,?_⟩
  ·unfold ixN rP;rw[el b,el (by rw[List.length_set,Ä,gQ];lia)]
  ·have:=rO (n:=n.toNat) (aF (us.take i)++[(t.1,(t.2,((i:Nat):Int)))]) (p:=t.2.toNat) ();rw[←g]at this;exact this
  ·show [Sl.im (au n us),Sl.rw 0 (((rP (stOf n.toNat (aF (us.take i)))).set t.1.toNat ((rowOf (aF (us.take i)) t.1.toNat).map pD++[pD (t.2,((i:Nat):Int))])).set t.2.toNat ((rowOf (aF (us.take i)++[(t.1,(t.2,((i:Nat):Int)))]) t.2.toNat).map pD++[pD (t.1,((i:Nat):Int))])),Sl.any,Sl.any]=[_,Sl.rw 0 (rP (stOf n.toNat (aF (us.take (i+1))))),_,_]
   rw[Cj ht,←h]
 ·rintro ρ rfl;rw[dz,Ä,ğ];refine⟨rfl,?_⟩;show P (.list ((rP (stOf n.toNat (aF us))).map ē));rw[BW];exact q
abbrev kA4(P w K mg base):=ĉ P w K mg base 1 "search" [ck,bc] (spD Gs)
abbrev kA5(P w K mg base):=ĉ P w K mg base 1 cq [aa] (spD Lw)
def CW(F:Fun K "part_of" "part_of" (top 14) f fd)(B:Ĩ mg)(h:kA4 P w K mg base)(g:kA5 P w K mg base):FnOk P w K mg base CX0 2 f fd [aa,af] (spD QV):=by
 refine okT F (N:=[aa,af]) zC (λhr nd=>Ö (Ü (Wr.rW rfl B.sorted (À (ù h hr (À (ù g hr (À (Ã 0) Á)) (À (Ã 1) Á))) Á)))) ?_;rintro ds P ⟨n,us,a,rfl,m,k,c,ok,b,l,q⟩;refine⟨[.im (au n us),.im (.int a)],?_,?_⟩
 ·show [cg (au n us),.im (.int a)]=_;rw[iG]
 have i:=yD (F:=[]) (B:=[]) ok ();have d:=dN () c ok;have S:=kE (n:=n.toNat) d b ();have j:=S.few;refine⟨n,us,rfl,(),(),c,ok,n.toNat,aF us,a,rfl,(),d,b,(),srM n.toNat (aF us) a,rfl,(),λout hp hs=>⟨rfl,?_⟩⟩;have e:=Qv (vs:=adj us [] []) (n:=n.toNat) (a:=a) hp hs S.nd (λx=>by rw[←iY,←S.all,dJ];rfl) λx r=>r.rng (λt ht=>(i t ht).2) ⟨b,()⟩;rw[e];exact q
abbrev kA6(P w K mg base):=ĉ P w K mg base 1 "trace" ["came",bz] (spD Ls)
def Td(F:Fun K "way" "way" (top 16) f fd)(B:Ĩ mg)(d:kA3 P w K mg base)(k:kA6 P w K mg base)(j:kA4 P w K mg base)(i:kA5 P w K mg base):FnOk P w K mg base CX0 5 f fd [aa,aI,a6] (spD Wo):=by
 refine okT F (N:=[aa,aI,a6]) zC (λhr nd=>Ç (Ů (ù d hr (À (Ã 0) (À (Ã 1) Á))))
  (Ç (Ů (ù d hr (À (Ã 0) (À (Ã 2) Á))))
  (Ö (Ü (ù k hr (À (ù j hr (À (ù i hr (À (Ã 0) Á)) (À (Ã 1) Á))) (À (Ã 2) Á))))))) ?_
 rintro ds P ⟨n,us,a,b,rfl,n0,m,e,ok,c,h,b0,b1,q⟩;refine⟨[.im (au n us),.im (.int a),.im (.int b)],dD rfl,?_⟩;have g:=dN () e ok;have S:=kE (n:=n.toNat) g c ();have l:=S.few;refine⟨n,us,a,rfl,c,h,n,us,b,rfl,b0,b1,n,us,rfl,n0,(),e,ok,n.toNat,aF us,a,rfl,(),g,c,(),aF us,a,srM n.toNat (aF us) a,b,rfl,S.cm,(),?_⟩;show _/\P (bK (bI n.toNat (aF us) a b));refine⟨?_,q⟩;show(norm .new (bK (trO (srM n.toNat (aF us) a) b))).le .n0=true;cases trO (srM n.toNat (aF us) a) b with
 |none=>rfl
 |some r=>rfl
end
def aY(arcs:List Tie)(i:Int):Tie:=arcs.getD i.toNat (0,0)
def lft(arcs:List Tie)(U:List Int):List Put:=arcs.zipIdx.map λp=>if((p.2:Nat):Int)∈U then(p.1.2,(p.1.1,((p.2:Nat):Int)))else(p.1.1,(p.1.2,((p.2:Nat):Int)))
def alg(arcs:List Tie)(U:List Int):List Put:=U.map λi=>((aY arcs i).1,((aY arcs i).2,i))
def OkA(n:Int)(arcs:List Tie):Prop:=∀e∈arcs,(0<=e.1/\e.1<n)/\0<=e.2/\e.2<n
def InL(arcs:List Tie)(U:List Int):Prop:=⇑U<=200/\∀i∈U,0<=i/\i<(⇑arcs:Int)
def sd(L:Nat)(U K:List Int):List Int:=(zI (Þ L)).filter λi=>decide (i∈U) != decide (i∈K)
def aug(n:Nat)(arcs:List Tie)(a b:Int):Nat->List Int->Option (List Int)
 |0,U=>some U
 |k+1,U=>match bI n (lft arcs U) a b with
  |none=>none
  |some r=>aug n arcs a b k (sd ⇑arcs U r.2)
def Uu:Option (List Int)->D
 |none=>.none
 |some U=>iD U
def nO{arcs:List Tie}{i:Int}(a:0<=i)(h1:i<(⇑arcs:Int)):arcs[i.toNat]?=some (aY arcs i):=by
 unfold aY;rw[ö,Ë ()];rfl
def M4{arcs:List Tie}{i:Int}(a:0<=i)(h1:i<(⇑arcs:Int)):atI (arcs.map pD) i=some (pD (aY arcs i)):=by
 have q:atI (arcs.map pD) ((i.toNat:Nat):Int)=some (pD (aY arcs i)):=bJ (by rw[à,nO a h1];rfl)
 rwa [show((i.toNat:Nat):Int)=i by lia]at q
def K3{arcs:List Tie}{U:List Int}{i:Nat}{t:Tie}(h:arcs[i]?=some t):lft (arcs.take (i+1)) U=lft (arcs.take i) U++[if((i:Nat):Int)∈U then(t.2,(t.1,((i:Nat):Int)))else(t.1,(t.2,((i:Nat):Int)))]:=by
 have hi:=(Æ.mp h).1;have tk:arcs.take (i+1)=arcs.take i++[t]:=by rw[ĕ,h];rfl
 unfold lft;rw[tk,List.zipIdx_append,ì,ć,Nat.min_eq_left (),Nat.zero_add];rfl
def cZ{arcs:List Tie}{U:List Int}{p x k:Int}:(p,(x,k))∈lft arcs U↔∃j:Nat,k=((j:Nat):Int)/\((k∈U/\arcs[j]?=some (x,p))\/(k∉U/\arcs[j]?=some (p,x))):=by
 unfold lft;rw[Ć];constructor
 ·rintro⟨⟨t,j⟩,ht,hm⟩;have ht:arcs[j]?=some t:=û.mp ht;dsimp only at hm;by_cases a:((j:Nat):Int)∈U
  ·rw[el a]at hm;cases hm;exact⟨j,rfl,.inl ⟨a,ht⟩⟩
  ·rw[em a]at hm;cases hm;exact⟨j,rfl,.inr ⟨a,ht⟩⟩
 ·rintro⟨j,rfl,⟨a,e⟩|⟨a,e⟩⟩
  ·exact⟨((x,p),j),û.mpr e,el a⟩
  ·exact⟨((p,x),j),û.mpr e,em a⟩
def Gf(arcs:List Tie)(U:List Int):⇑(lft arcs U)=⇑arcs:=by
 unfold lft;rw[Ä,List.length_zipIdx]
def kZ{n:Int}{arcs:List Tie}{U:List Int}(n0:0<=n)(c:⇑arcs<=200)(ok:OkA n arcs):PutsOk n.toNat (lft arcs U):=by
 refine⟨by rw[Gf];exact c,λq hq=>?_⟩;let⟨p,x,k⟩:=q;obtain⟨j,_,⟨_,e⟩|⟨_,e⟩⟩:=cZ.mp hq
 ·let⟨⟨h1,h2⟩,a,b⟩:=ok _ (Ê e);dsimp only at *;lia
 ·let⟨⟨h1,h2⟩,a,b⟩:=ok _ (Ê e);dsimp only at *;lia
def MP{n:Int}{arcs:List Tie}{i:Int}(ok:OkA n arcs)(a:0<=i)(h1:i<(⇑arcs:Int)):(0<=(aY arcs i).1/\(aY arcs i).1<n)/\0<=(aY arcs i).2/\(aY arcs i).2<n:=ok _ (Ê (nO a h1))
def dZ{arcs:List Tie}{U:List Int}{p x k:Int}:(p,(x,k))∈alg arcs U↔k∈U/\aY arcs k=(p,x):=by
 unfold alg;rw[Ć];constructor
 ·rintro⟨i,hi,e⟩;cases e;exact⟨hi,rfl⟩
 ·rintro⟨hk,e⟩;exact⟨k,hk,by rw[e]⟩
def pQ{n:Int}{arcs:List Tie}{U:List Int}(n0:0<=n)(ok:OkA n arcs)(a:InL arcs U):PutsOk n.toNat (alg arcs U):=by
 refine⟨by unfold alg;rw[Ä];exact a.1,λq hq=>?_⟩;let⟨p,x,k⟩:=q;let⟨h1,h2⟩:=dZ.mp hq;let⟨b,c⟩:=a.2 k h1;have:=MP ok b c;rw[h2]at this;dsimp only at *;lia
def Qs{arcs:List Tie}{U K:List Int}(a:⇑arcs<=200):InL arcs (sd ⇑arcs U K):=by
 refine⟨?_,λi hi=>?_⟩
 ·unfold sd zI;refine ą (ā _ _) ?_;rw[Ä,č];exact a
 ·exact xM.mp (æ.mp hi).1
def RD(L:Nat)(U K:List Int):((Þ L).filter λv=>decide ((0+((v:Nat):Int))∈U) != decide ((0+((v:Nat):Int))∈K)).map (λv=>Â (0+((v:Nat):Int)))=(sd L U K).map Â:=by
 unfold sd zI;rw[List.filter_map,Ė];rfl
def LQ:FF:=λds P=>∃n arcs U,ds=[.int n,.list (arcs.map pD),iD U]/\0<=n/\n<=100/\⇑arcs<=200/\OkA n arcs/\InL arcs U/\P (stD (stOf n.toNat (alg arcs U)))
def Q5:FF:=λds P=>∃n arcs U,ds=[.int n,.list (arcs.map pD),iD U]/\0<=n/\n<=100/\⇑arcs<=200/\OkA n arcs/\InL arcs U/\P (stD (stOf n.toNat (lft arcs U)))
def Wq:FF:=λds P=>∃n arcs a b,ds=[.int n,.list (arcs.map pD),.int a,.int b]/\0<=n/\n<=100/\⇑arcs<=200/\OkA n arcs/\0<=a/\a<n/\P (Uu (aug n.toNat arcs a b 2 []))
def WW:FF:=λds P=>∃n arcs U a b r1 r2,ds=[.int n,.list (arcs.map pD),iD U,.int a,.int b]/\0<=n/\n<=100/\⇑arcs<=200/\OkA n arcs/\InL arcs U/\0<=a/\a<n/\bI n.toNat (alg arcs U) a b=some r1/\bI n.toNat (alg arcs (U.filter λi=>!decide (i∈r1.2))) a b=some r2/\P (.list [bK (some r1),bK (some r2)])
section
variable{P:Za}{w:Zb}{K:á}{mg:Str->Option Value}{base:Zg}{f:Addr}{fd:Yc}
def oR:(["node",ax,ay,az,ck,bd]:List Str).Nodup:=⋯
def sS(F:Fun K di di (top 25) f fd)(B:Ĩ mg):FnOk P w K mg base CX0 1 f fd [ax,ay,az] (spD LQ):=by
 refine okT F (N:=[ax,ay,az,ck,bd]) zC (λhr nd=>Ç (Wr.jw 0 ["node"] (i:=3) rfl nd rfl zQ (ģ B.range (À (Ã 0) Á)) (λc=>(ß (i:=0) oR rfl zQ)))
  (Ç (Ġ ð rfl (Ċ (Ã 2)) (ß (i:=4) nd rfl zQ) (Ç (Wr.dB (ĵ 3) (Ñ (Ñ (Ã 1) (Ã 4)) È) (À (ï (À (Ñ (Ñ (Ã 1) (Ã 4)) È) (À (Ã 4) Á))) Á)) (ç [4] ä)))
  (ç [4] (Ö (Ü (Ã 3)))))) ?_
 rintro ds P ⟨n,arcs,U,rfl,n0,o,m,ok,e,q⟩;refine⟨[.im (.int n),.sh (.list (arcs.map pD)),.sh (iD U),.any,.any],rfl,?_⟩;refine⟨⟨(),()⟩,by rw[Ŭ];lia,rfl,?_⟩;rw[Ŭ];refine⟨rfl,λ(i:Nat) ρ=>ρ=[.im (.int n),.sh (.list (arcs.map pD)),.sh (iD U),.rw 0 (rP (stOf n.toNat (alg arcs (U.take i)))),.any],?_,?_,?_⟩
 ·show [_,_,_,Sl.rw 0 (Ú n.toNat []),_]=[_,_,_,Sl.rw 0 (rP (stOf n.toNat [])),_]
  rw[BR];unfold rP;rw[List.map_replicate];rfl
 ·rintro i d ρ hd rfl;let⟨k,hk,rfl⟩:=d7 hd;have hi:=(Æ.mp hk).1;let⟨a,b⟩:=e.2 k (Ê hk);let⟨⟨g,p⟩,r,s⟩:=MP ok a b;have tk:U.take (i+1)=U.take i++[k]:=by rw[ĕ,hk];rfl
  have l:⇑(alg arcs (U.take i))<=200:=by unfold alg;rw[Ä,ć];have:=e.1;lia
  have t:=lH (alg arcs (U.take i)) (aY arcs k).1.toNat;have j:=lJ (n:=n.toNat) (ps:=alg arcs (U.take i)) (q:=((aY arcs k).1,((aY arcs k).2,k))) ⟨g,by show(aY arcs k).1<_;lia⟩;refine⟨_,M4 a b,.int (aY arcs k).1,rfl,(aY arcs k).1.toNat,(rowOf (alg arcs (U.take i)) (aY arcs k).1.toNat).map pD,?_,rO _ (),_,M4 a b,.int (aY arcs k).2,rfl,zK,rfl,by rw[Ä];lia,?_⟩
  ·unfold ixN rP;rw[el g,el (by rw[Ä,gQ];lia)]
  ·show [_,_,_,Sl.rw 0 ((rP (stOf n.toNat (alg arcs (U.take i)))).set (aY arcs k).1.toNat ((rowOf (alg arcs (U.take i)) (aY arcs k).1.toNat).map pD++[pD ((aY arcs k).2,k)])),_]=[_,_,_,Sl.rw 0 (rP (stOf n.toNat (alg arcs (U.take (i+1))))),_]
   have h:alg arcs (U.take (i+1))=alg arcs (U.take i)++[((aY arcs k).1,((aY arcs k).2,k))]:=by
    unfold alg;rw[tk,ì];rfl
   rw[h,←j];rfl
 ·rintro ρ rfl;rw[Ä,ğ];refine⟨rfl,?_⟩;show P (.list ((rP (stOf n.toNat (alg arcs U))).map ē));rw[BW];exact q
def qz:(["node",ax,ay,az,ck,bd,"arc"]:List Str).Nodup:=⋯
def uI(F:Fun K dA dA (top 26) f fd)(B:Ĩ mg)(l:mg cz=none):FnOk P w K mg base CX0 1 f fd [ax,ay,az] (spD Q5):=by
 refine okT F (N:=[ax,ay,az,ck,bd,"arc"]) zC (λhr nd=>Ç (Wr.jw 0 ["node"] (i:=3) rfl nd rfl zQ (ģ B.range (À (Ã 0) Á)) (λc=>(ß (i:=0) qz rfl zQ)))
  (Ç (Ġ ð rfl (Wr.ug l (À (Ã 1) Á)) (Wr.dW (n:=2) rfl (ċ (ß (i:=4) nd rfl zQ) (ċ (ß (i:=5) nd rfl zQ) ů))) (Ç (ý (Wr.gZ hr.units (Ã 4) (Ã 2)) (Ö (Wr.dB (ĵ 3) (Ñ (Ã 5) È) (À (ï (À (Ñ (Ã 5) È) (À (Ã 4) Á))) Á))) (Ö (Wr.dB (ĵ 3) (Ñ (Ã 5) È) (À (ï (À (Ñ (Ã 5) È) (À (Ã 4) Á))) Á)))) (ç [4,5] ä)))
  (ç [4,5] (Ö (Ü (Ã 3)))))) ?_
 rintro ds P ⟨n,arcs,U,rfl,n0,r,p,ok,m,q⟩;refine⟨[.im (.int n),.sh (.list (arcs.map pD)),.sh (iD U),.any,.any,.any],rfl,?_⟩;refine⟨⟨(),()⟩,by rw[Ŭ];lia,rfl,?_⟩;rw[Ŭ];refine⟨rfl,λ(i:Nat) ρ=>ρ=[.im (.int n),.sh (.list (arcs.map pD)),.sh (iD U),.rw 0 (rP (stOf n.toNat (lft (arcs.take i) U))),.any,.any],?_,?_,?_⟩
 ·show [_,_,_,Sl.rw 0 (Ú n.toNat []),_,_]=[_,_,_,Sl.rw 0 (rP (stOf n.toNat [])),_,_]
  rw[BR];unfold rP;rw[List.map_replicate];rfl
 ·rintro i d ρ hd rfl;rw[eG,à]at hd;obtain⟨t,ht,rfl⟩:∃t,arcs[i]?=some t/\Ŏ [.int ((i:Nat):Int),pD t]=d:=by
   cases e:arcs[i]? with
   |none=>rw[e]at hd;cases hd
   |some t=>rw[e]at hd;exact⟨t,rfl,Ô hd⟩
  let⟨⟨j,s⟩,k,u⟩:=ok t (Ê ht);have hi:=(Æ.mp ht).1;have o:⇑(lft (arcs.take i) U)<=200:=by rw[Gf,ć];lia
  have a:=K3 (U:=U) ht;have g:=lH (lft (arcs.take i) U);refine⟨rfl,rfl,ň U,?_⟩;show if((U.map Â).any λe=>å e (.int ((i:Nat):Int)))=true then _ else _
  rw[Č];by_cases b:((i:Nat):Int)∈U
  ·rw[decide_eq_true b];rw[el b]at a;have h:=lJ (n:=n.toNat) (ps:=lft (arcs.take i) U) (q:=(t.2,(t.1,((i:Nat):Int)))) ⟨k,by show t.2<_;lia⟩;have g:=g t.2.toNat;refine aB (B:=True) ⟨.int t.2,rfl,t.2.toNat,(rowOf (lft (arcs.take i) U) t.2.toNat).map pD,?_,rO _ (),.int t.1,rfl,zK,rfl,by rw[Ä];lia,?_⟩
   ·unfold ixN rP;rw[el k,el (by rw[Ä,gQ];lia)]
   ·show [_,_,_,Sl.rw 0 ((rP (stOf n.toNat (lft (arcs.take i) U))).set t.2.toNat ((rowOf (lft (arcs.take i) U) t.2.toNat).map pD++[pD (t.1,((i:Nat):Int))])),_,_]=[_,_,_,Sl.rw 0 (rP (stOf n.toNat (lft (arcs.take (i+1)) U))),_,_]
    rw[a,←h];rfl
  ·rw[eg b];rw[em b]at a;have h:=lJ (n:=n.toNat) (ps:=lft (arcs.take i) U) (q:=(t.1,(t.2,((i:Nat):Int)))) ⟨j,by show t.1<_;lia⟩;have g:=g t.1.toNat;refine aD (A:=True) ⟨.int t.1,rfl,t.1.toNat,(rowOf (lft (arcs.take i) U) t.1.toNat).map pD,?_,rO _ (),.int t.2,rfl,zK,rfl,by rw[Ä];lia,?_⟩
   ·unfold ixN rP;rw[el j,el (by rw[Ä,gQ];lia)]
   ·show [_,_,_,Sl.rw 0 ((rP (stOf n.toNat (lft (arcs.take i) U))).set t.1.toNat ((rowOf (lft (arcs.take i) U) t.1.toNat).map pD++[pD (t.2,((i:Nat):Int))])),_,_]=[_,_,_,Sl.rw 0 (rP (stOf n.toNat (lft (arcs.take (i+1)) U))),_,_]
    rw[a,←h];rfl
 ·rintro ρ rfl;rw[dz,Ä,ğ];refine⟨rfl,?_⟩;show P (.list ((rP (stOf n.toNat (lft arcs U))).map ē));rw[BW];exact q
def oV:([bd,ax,ay,bc,bz,az,"turn","found"]:List Str).Nodup:=⋯
def sY(F:Fun K dl dl (top 27) f fd)(B:Ĩ mg)(o:kA6 P w K mg base)(m:kA4 P w K mg base)(p:ĉ P w K mg base 1 dA [ax,ay,az] (spD Q5)):FnOk P w K mg base CX0 2 f fd [ax,ay,bc,bz] (spD Wq):=by
 refine okT F (N:=[ax,ay,bc,bz,az,"turn","found"]) zC (λhr nd=>Ç (ê none (i:=4) nd rfl zQ (ø Á))
  (Ç (Ġ ð rfl (ģ B.range (À È Á)) (ß (i:=5) nd rfl zQ) (Ç (ê none (i:=6) nd rfl zQ (ù o hr (À (ù m hr (À (ù p hr (À (Ã 0) (À (Ã 1) (À (Ã 4) Á)))) (À (Ã 2) Á))) (À (Ã 3) Á))))
  (Ç (ý (Wr.gY (Ã 6) Ŗ) (Ö (Ü Ŗ)) ä)
  (Ç (ê none (i:=4) nd rfl zQ (ř [bd] rfl (ģ B.range (À (ŧ B.len (À (Ã 1) Á)) Á)) (λc=>(ß (i:=0) oV rfl zQ)) (λc=>(ŭ (Wr.cF hr.units (Wr.u9 hr.units (Ã 0) (Ã 5)) (Wr.u9 hr.units (Ã 0) (Ñ (Ã 7) È))))) (λc=>(Ã 0)))) (ç [5,6] ä)))))
  (ç [5,6] (Ö (Ü (Ã 4)))))) ?_
 rintro ds P ⟨n,arcs,a,b,rfl,n0,E,h,ok,j,H,q⟩;refine⟨[.im (.int n),.sh (.list (arcs.map pD)),.im (.int a),.im (.int b),.any,.any,.any],rfl,?_⟩;generalize z:aug n.toNat arcs a b 2 []=G at q;refine⟨zK,⟨∅,∅⟩,rfl,λ(i:Nat) ρ=>∃U,InL arcs U/\aug n.toNat arcs a b (2 - i) U=G/\ρ=[.im (.int n),.sh (.list (arcs.map pD)),.im (.int a),.im (.int b),.sn (iD U),.any,.any],⟨[],⟨Ğ _,(λi hi=>nomatch hi)⟩,z,rfl⟩,?_,?_⟩
 ·rintro i d ρ hd ⟨U,k,e,rfl⟩;let⟨hi,rfl⟩:=bR hd;have l:=kZ (U:=U) () h ok;have S:=kE (n:=n.toNat) l j ();have u:=S.few;refine⟨n,arcs,U,rfl,n0,E,h,ok,k,n.toNat,lft arcs U,a,rfl,(),l,j,(),lft arcs U,a,srM n.toNat (lft arcs U) a,b,rfl,S.cm,(),?_⟩;have t:2 - i=(1 - i)+1:=()
  rw[t]at e;unfold aug at e;show(match Dl.stK none _ 6 (norm (norm .new (bK (bI n.toNat (lft arcs U) a b))) (bK (bI n.toNat (lft arcs U) a b))) (bK (bI n.toNat (lft arcs U) a b))with
   |some s=>_
   |none=>False)
  cases hp:bI n.toNat (lft arcs U) a b with
  |none =>
   rw[hp]at e;refine aB (B:=True) ⟨rfl,?_⟩;rw[←e]at q;exact q
  |some r =>
   rw[hp]at e;let⟨I,g⟩:=r;have D:⇑(arcs.map pD)=⇑arcs:=Ä ..;have C:∀x y:Bool,(!decide (x=y))=(x != y):=λx y=>by cases x <;> cases y <;> rfl
   refine aD (A:=True) ⟨⟨(),()⟩,?_⟩;refine jr (Þ ⇑arcs) (λv=>Â (0+((v:Nat):Int))) (λv=>decide ((0+((v:Nat):Int))∈U) != decide ((0+((v:Nat):Int))∈g)) (λv=>Â (0+((v:Nat):Int))) .imm ?_ (by rw[č];lia) (λv hv A B hA hB=>?_) ?_
   ·rw[D,Ĵ];rfl
   ·refine⟨rfl,ň U,_,rfl,rfl,ň g,?_⟩;show if(!decide (((U.map Â).any λe=>å e (.int (0+((v:Nat):Int))))=((g.map Â).any λe=>å e (.int (0+((v:Nat):Int))))))=true then _ else _
    rw[Č,Č,C];exact d8 (λc=>⟨rfl,hA c⟩) (λc=>hB (Ę.mpr c))
   show ∃U',InL arcs U'/\aug n.toNat arcs a b (2 - (i+1)) U'=G/\[Sl.im (.int n),.sh (.list (arcs.map pD)),.im (.int a),.im (.int b),.sn (.list (((Þ ⇑arcs).filter λv=>decide ((0+((v:Nat):Int))∈U) != decide ((0+((v:Nat):Int))∈g)).map λv=>Â (0+((v:Nat):Int)))),.any,.any]=[Sl.im (.int n),.sh (.list (arcs.map pD)),.im (.int a),.im (.int b),.sn (iD U'),.any,.any]
   refine⟨sd ⇑arcs U g,Qs h,by rw[show 2 - (i+1)=1 - i by lia];exact e,?_⟩;rw[RD];rfl
 ·rintro ρ ⟨U,k,e,rfl⟩;have e:some U=G:=e;rw[←e]at q;exact⟨rfl,q⟩
def tu:([bd,ax,ay,az,bc,bz,ef,"rest",bS]:List Str).Nodup:=⋯
def w5(F:Fun K dS dS (top 28) f fd)(B:Ĩ mg)(o:kA6 P w K mg base)(m:kA4 P w K mg base)(p:ĉ P w K mg base 1 di [ax,ay,az] (spD LQ)):FnOk P w K mg base CX0 2 f fd [ax,ay,az,bc,bz] (spD WW):=by
 refine okT F (N:=[ax,ay,az,bc,bz,ef,"rest",bS]) zC (λhr nd=>Ç (ê none (i:=5) nd rfl zQ (ù o hr (À (ù m hr (À (ù p hr (À (Ã 0) (À (Ã 1) (À (Ã 2) Á)))) (À (Ã 3) Á))) (À (Ã 4) Á))))
  (Ç (Wr.gJ none [bd] (i:=6) rfl nd rfl zQ (Ċ (Ã 2)) (λc=>(ß (i:=0) tu rfl zQ)) (λc=>(ŭ (Ģ hr.units (Ã 0) (Ñ (Ã 6) È)))) (λc=>(Ã 0)))
  (Ç (ê none (i:=7) nd rfl zQ (ù o hr (À (ù m hr (À (ù p hr (À (Ã 0) (À (Ã 1) (À (Ã 6) Á)))) (À (Ã 3) Á))) (À (Ã 4) Á))))
  (Ö (Ü (ø (À (Ã 5) (À (Ã 7) Á)))))))) ?_
 rintro ds P ⟨n,arcs,U,a,b,d,D,rfl,n0,u,t,ok,g,k,C,y,z,q⟩;refine⟨[.im (.int n),.sh (.list (arcs.map pD)),.sh (iD U),.im (.int a),.im (.int b),.any,.any,.any],rfl,?_⟩;have v:=pQ () ok g;have S:=kE (n:=n.toNat) v k ();have x:=S.few;refine⟨n,arcs,U,rfl,n0,u,t,ok,g,n.toNat,alg arcs U,a,rfl,(),v,k,(),alg arcs U,a,srM n.toNat (alg arcs U) a,b,rfl,S.cm,(),?_⟩;show(match Dl.stK none _ 5 (norm (norm .new (bK (bI n.toNat (alg arcs U) a b))) (bK (bI n.toNat (alg arcs U) a b))) (bK (bI n.toNat (alg arcs U) a b))with
  |some s=>_
  |none=>False)
 rw[y];refine jr U Â (λi=>!decide (i∈d.2)) Â .imm rfl (by have:=g.1;lia) (λi hi A B hA hB=>?_) ?_
 ·refine⟨_,rfl,rfl,ň d.2,?_⟩;show if(!((d.2.map Â).any λe=>å e (.int i)))=true then _ else _
  rw[Č];exact d8 (λc=>⟨rfl,hA c⟩) (λc=>hB (Ę.mpr c))
 have h:InL arcs (U.filter λi=>!decide (i∈d.2)):=⟨ą (ā _ _) g.1,λi hi=>g.2 i (æ.mp hi).1⟩
 have j:=pQ () ok h;have l:=kE (n:=n.toNat) j k ();have r:=l.few;refine⟨n,arcs,_,rfl,n0,u,t,ok,h,n.toNat,alg arcs (U.filter λi=>!decide (i∈d.2)),a,rfl,(),j,k,(),alg arcs (U.filter λi=>!decide (i∈d.2)),a,srM n.toNat (alg arcs (U.filter λi=>!decide (i∈d.2))) a,b,rfl,l.cm,(),?_⟩;show(match Dl.stK none _ 7 (norm (norm .new (bK (bI n.toNat (alg arcs (U.filter λi=>!decide (i∈d.2))) a b))) (bK (bI n.toNat (alg arcs (U.filter λi=>!decide (i∈d.2))) a b))) (bK (bI n.toNat (alg arcs (U.filter λi=>!decide (i∈d.2))) a b))with
  |some s=>_
  |none=>False)
 rw[z];exact⟨zK,rfl,q⟩
end
def bT:Nat->(Nat->Int)->Int
 |0,_=>0
 |k+1,g=>bT k g+g k
theorem cT{g h:Nat->Int}:∀{L:Nat},(∀i,i<L->g i=h i)->bT L g=bT L h
 |0,_=>rfl
 |L+1,e=>by
  show bT L g+g L=bT L h+h L;rw[cT λi hi=>e i (),e L ()]
theorem sum_add{g h:Nat->Int}:∀L:Nat,bT L (λi=>g i+h i)=bT L g+bT L h
 |0=>rfl
 |L+1=>by
  show bT L (λi=>g i+h i)+(g L+h L)=bT L g+g L+(bT L h+h L)
  rw[sum_add L];lia
theorem lD:∀L:Nat,bT L (λ_=>0)=0
 |0=>rfl
 |L+1=>by
  show bT L (λ_=>0)+0=0;rw[lD L];rfl
theorem qI{g:Nat->Int}{j:Nat}:∀{L:Nat},j<L->bT L (λi=>if i=j then g i else 0)=g j
 |L+1,h=>by
  show bT L (λi=>if i=j then g i else 0)+(if L=j then g L else 0)=g j;by_cases e:L=j
  ·subst e;rw[el rfl,cT (h:=λ_=>0) λi hi=>em (),lD];lia
  ·rw[em e,qI ()];lia
theorem Jr{g:Nat->Int}:∀{L:Nat},(∀i,i<L->g i<=0)->bT L g<=0
 |0,_=>ņ _
 |L+1,h=>by
  have h1:=Jr (L:=L) (g:=g) λi hi=>h i (Ĉ hi);have h2:=h L ();show bT L g+g L<=0;lia
theorem Js{g:Nat->Int}:∀{L:Nat},(∀i,i<L->0<=g i)->0<=bT L g
 |0,_=>ņ _
 |L+1,h=>by
  have h1:=Js (L:=L) (g:=g) λi hi=>h i (Ĉ hi);have h2:=h L ();show 0<=bT L g+g L;lia
def Fb{g:Nat->Int}{i j L:Nat}(hi:i<L)(c:j<L)(d:i≠j)(h:∀k,k<L->0<=g k):g i+g j<=bT L g:=by
 have e:bT L g=bT L (λk=>if k=i then g k else 0)+(bT L (λk=>if k=j then g k else 0)+bT L (λk=>if k=i\/k=j then 0 else g k)):=by
  rw[←sum_add,←sum_add];refine cT λk hk=>?_;by_cases a:k=i
  ·subst a;rw[el rfl,em d,el (.inl rfl)];lia
  ·by_cases b:k=j
   ·subst b;rw[em a,el rfl,el (.inr rfl)];lia
   ·rw[em a,em b,em (λz=>z.elim a b)];lia
 have r:0<=bT L (λk=>if k=i\/k=j then 0 else g k):=Js λk hk=>by
  by_cases z:k=i\/k=j
  ·rw[el z];exact ņ _
  ·rw[em z];exact h k hk
 rw[qI hi,qI c]at e;lia
theorem wj{g:Nat->Int}:∀{L:Nat},0<bT L g->∃i,i<L/\0<g i
 |0,h=>er (show(0:Int)<0 from h) ∅
 |L+1,h=>by
  have h:0<bT L g+g L:=h;by_cases e:0<g L
  ·exact⟨L,(),e⟩
  ·let⟨i,hi,hg⟩:=wj (L:=L) (g:=g) ();exact⟨i,(),hg⟩
theorem nY{g:Nat->Int}:∀T:Nat,bT (2 * T) g=bT T λk=>g (2 * k)+g (2 * k+1)
 |0=>rfl
 |T+1=>by
  show bT (2 * T) g+g (2 * T)+g (2 * T+1)=bT T (λk=>g (2 * k)+g (2 * k+1))+(g (2 * T)+g (2 * T+1))
  rw[nY T];lia
def chi(S:Int->Bool)(x:Int):Int:=if S x=true then 1 else 0
def flo(arcs:List Tie)(S:Int->Bool)(i:Nat):Int:=chi S (aY arcs i).1 - chi S (aY arcs i).2
def net(arcs:List Tie)(U:List Int)(S:Int->Bool):Int:=bT ⇑arcs λi=>if((i:Nat):Int)∈U then flo arcs S i else 0
def Flow(arcs:List Tie)(a b c:Int)(U:List Int):Prop:=∀S,net arcs U S=c * (chi S a - chi S b)
def Em(S:Int->Bool)(x:Int):0<=chi S x/\chi S x<=1:=by
 unfold chi;cases S x
 ·exact⟨∅,∅⟩
 ·exact⟨∅,∅⟩
def jz{S:Int->Bool}{x:Int}(h:S x=true):chi S x=1:=el h
def qg{S:Int->Bool}{x:Int}(h:S x=false):chi S x=0:=by
 unfold chi;rw[h];rfl
def Wy.hop{b:List Put}{a:Int}{P K:List Int}{x:Int}(h:Wy b a P K x):∀k∈K,∃p y,(p,(y,k))∈b/\y∈P:=by
 induction h with
 |one=>exact λk hk=>nomatch hk
 |step h hx j ih =>
  intro k hk;rcases ë.mp hk with z|z
  ·let⟨p,y,h1,h2⟩:=ih k z;exact⟨p,y,h1,è _ h2⟩
  ·rw[É.mp z];exact⟨_,_,j,ã _ (É.mpr rfl)⟩
def I9{c:List Put}{L:Nat}{g:Nat->Int}{S:Int->Bool}{a:Int}{P K:List Int}{x:Int}(hg:∀p y k,(p,(y,k))∈c->∃j:Nat,k=((j:Nat):Int)/\j<L/\g j=chi S p - chi S y)(n:∀p y p' y' k,(p,(y,k))∈c->(p',(y',k))∈c->y=y')(h:Wy c a P K x):bT L (λi=>if((i:Nat):Int)∈K then g i else 0)=chi S a - chi S x:=by
 induction h with
 |one =>
  rw[cT (h:=λ_=>0) λi _=>em (λz=>nomatch z),lD];lia
 |@step P K p y k h hx j ih =>
  let⟨q,rfl,l,f⟩:=hg _ _ _ j;have m:((q:Nat):Int)∉K:=λz=>by
   let⟨p',y',h1,h2⟩:=h.hop _ z;rw[n _ _ _ _ _ j h1]at hx;exact hx h2
  have e:bT L (λi=>if((i:Nat):Int)∈K++[((q:Nat):Int)]then g i else 0)=bT L (λi=>if((i:Nat):Int)∈K then g i else 0)+bT L (λi=>if i=q then g i else 0):=by
   rw[←sum_add];refine cT λi _=>?_;by_cases d:i=q
   ·subst d;rw[el (ã _ (É.mpr rfl)),em m,el rfl];lia
   ·rw[em d];by_cases b:((i:Nat):Int)∈K
    ·rw[el (è _ b),el b];lia
    ·rw[em (λz=>(ë.mp z).elim b λz=>d (by have:=É.mp z;lia)),em b];lia
  rw[e,ih,qI l,f];lia
def cG{arcs:List Tie}{j:Nat}{t:Tie}(h:arcs[j]?=some t):aY arcs ((j:Nat):Int)=t:=by
 unfold aY;rw[Ĵ,ö,h];rfl
def gH(arcs:List Tie)(a b:Int):Flow arcs a b 0 []:=λS=>by
 unfold net;rw[cT (h:=λ_=>0) λi _=>em (λz=>nomatch z),lD,Int.zero_mul]
def Tn{L:Nat}{U K:List Int}{i:Nat}(hi:i<L):((i:Nat):Int)∈sd L U K↔¬(((i:Nat):Int)∈U↔((i:Nat):Int)∈K):=by
 unfold sd;rw[æ];have h1:((i:Nat):Int)∈zI (Þ L):=xM.mpr ⟨(),()⟩;by_cases a:((i:Nat):Int)∈U <;> by_cases b:((i:Nat):Int)∈K <;> simp[a,b,h1]
def tZ{arcs:List Tie}{a b c:Int}{U P K:List Int}(h:Flow arcs a b c U)(w:Wy (lft arcs U) a P K b):Flow arcs a b (c+1) (sd ⇑arcs U K):=λS=>by
 have s:=I9 (L:=⇑arcs) (g:=λi=>if((i:Nat):Int)∈U then - flo arcs S i else flo arcs S i) (S:=S) (λp y k hk=>?_) (λp y p' y' k h1 h2=>?_) w
 ·have e:net arcs (sd ⇑arcs U K) S=net arcs U S+bT ⇑arcs (λi=>if((i:Nat):Int)∈K then(if((i:Nat):Int)∈U then - flo arcs S i else flo arcs S i)else 0):=by
   unfold net;rw[←sum_add];refine cT λi hi=>?_;have m:=Tn (U:=U) (K:=K) hi;by_cases u:((i:Nat):Int)∈U <;> by_cases k:((i:Nat):Int)∈K
   ·rw[em (λz=>m.mp z ⟨λ_=>k,λ_=>u⟩),el u,el k,el u];lia
   ·rw[el (m.mpr λz=>k (z.mp u)),el u,em k];lia
   ·rw[el (m.mpr λz=>u (z.mpr k)),em u,el k,em u];lia
   ·rw[em (λz=>m.mp z ⟨λq=>er q u,λq=>er q k⟩),em u,em k];lia
  rw[e,s,h S,Int.add_mul,Int.one_mul]
 ·obtain⟨j,rfl,⟨hu,e⟩|⟨hu,e⟩⟩:=cZ.mp hk
  ·refine⟨j,rfl,(Æ.mp e).1,?_⟩;show(if((j:Nat):Int)∈U then - flo arcs S j else flo arcs S j)=_;rw[el hu];unfold flo;rw[cG e];show -(chi S y - chi S p)=chi S p - chi S y;lia
  ·refine⟨j,rfl,(Æ.mp e).1,?_⟩;show(if((j:Nat):Int)∈U then - flo arcs S j else flo arcs S j)=_;rw[em hu];unfold flo;rw[cG e]
 ·let⟨j,rfl,t⟩:=cZ.mp h1;let⟨r,x,v⟩:=cZ.mp h2;have o:j=r:=()
  subst o;rcases t with⟨l,f⟩|⟨l,f⟩ <;> rcases v with⟨n,d⟩|⟨n,d⟩
  ·rw[f]at d;cases d;rfl
  ·exact er l n
  ·exact er n l
  ·rw[f]at d;cases d;rfl
def Qk{arcs:List Tie}{U:List Int}(a:InL arcs U){S:Int->Bool}{p y k:Int}(hk:(p,(y,k))∈alg arcs U):∃j:Nat,k=((j:Nat):Int)/\j<⇑arcs/\flo arcs S j=chi S p - chi S y:=by
 let⟨h1,h2⟩:=dZ.mp hk;let⟨b,c⟩:=a.2 k h1;refine⟨k.toNat,(),(),?_⟩;unfold flo;rw[show((k.toNat:Nat):Int)=k by lia,h2]
def vC{arcs:List Tie}{a b c:Int}{U P K:List Int}(j:InL arcs U)(h:Flow arcs a b c U)(w:Wy (alg arcs U) a P K b):Flow arcs a b (c - 1) (U.filter λi=>!decide (i∈K)):=λS=>by
 have s:=I9 (L:=⇑arcs) (g:=flo arcs S) (S:=S) (λp y k hk=>Qk j hk) (λp y p' y' k h1 h2=>?_) w
 ·have e:net arcs U S=net arcs (U.filter λi=>!decide (i∈K)) S+bT ⇑arcs (λi=>if((i:Nat):Int)∈K then flo arcs S i else 0):=by
   unfold net;rw[←sum_add];refine cT λi hi=>?_;have m:((i:Nat):Int)∈(U.filter λi=>!decide (i∈K))↔((i:Nat):Int)∈U/\((i:Nat):Int)∉K:=by
    rw[æ,Ŋ,decide_eq_false_iff_not]
   by_cases k:((i:Nat):Int)∈K
   ·have u:((i:Nat):Int)∈U:=by
     let⟨p,y,h1,_⟩:=w.hop _ k;exact(dZ.mp h1).1
    rw[el u,em (λz=>(m.mp z).2 k),el k];lia
   ·by_cases u:((i:Nat):Int)∈U
    ·rw[el u,el (m.mpr ⟨u,k⟩),em k];lia
    ·rw[em u,em (λz=>u (m.mp z).1),em k];lia
  have f:=h S;rw[e,s]at f;rw[Int.sub_mul,Int.one_mul];lia
 ·have d:=(dZ.mp h1).2;rw[(dZ.mp h2).2]at d;cases d;rfl
def nA{arcs:List Tie}{a b c:Int}{U:List Int}(hc:0<c)(h:Flow arcs a b c U):Rt (edg (alg arcs U)) a b:=by
 by_cases r:Rt (edg (alg arcs U)) a b
 ·exact r
 ·exfalso;have d:=h (RZ (edg (alg arcs U)) a);rw[jz (aL.mpr (.refl _)),qg (Ę.mpr λz=>r (aL.mp z))]at d;have le:net arcs U (RZ (edg (alg arcs U)) a)<=0:=Jr λi hi=>by
   by_cases u:((i:Nat):Int)∈U
   ·rw[el u];unfold flo;cases e:RZ (edg (alg arcs U)) a (aY arcs ((i:Nat):Int)).1 with
    |false =>
     rw[qg e];have:=Em (RZ (edg (alg arcs U)) a) (aY arcs ((i:Nat):Int)).2;lia
    |true =>
     have f:Rt (edg (alg arcs U)) a (aY arcs ((i:Nat):Int)).2:=.step (aL.mp e) (fJ.mpr ⟨_,dZ.mpr ⟨u,rfl⟩⟩);rw[jz e,jz (aL.mpr f)];lia
   ·rw[em u];exact ņ _
  lia
def aC(us:List Tie):List Tie:=us.flatMap λt=>[t,(t.2,t.1)]
def eU(us:List Tie):⇑(aC us)=2 * ⇑us:=qG id (λt:Tie=>(t.2,t.1)) us
theorem dF:∀(us:List Tie) (k:Nat) {t:Tie},us[k]?=some t->(aC us)[2 * k]?=some t/\(aC us)[2 * k+1]?=some (t.2,t.1)
 |u::us,0,t,h=>by
  cases h;exact⟨rfl,rfl⟩
 |u::us,k+1,t,h=>by
  have:=dF us k (t:=t) h;exact this
def nJ{n:Int}{us:List Tie}(ok:OkN n us):OkA n (aC us):=λe he=>by
 let⟨t,ht,hm⟩:=List.mem_flatMap.mp he;let⟨⟨h1,h2⟩,⟨a,b⟩,_⟩:=ok t ht;simp only[Û,Ý,or_false]at hm;rcases hm with rfl|rfl
 ·exact⟨⟨h1,h2⟩,a,b⟩
 ·exact⟨⟨a,b⟩,h1,h2⟩
def prt(i:Int):Int:=if i % 2=0 then i+1 else i - 1
def gn(U:List Int):List Int:=U.filter λi=>!decide (prt i∈U)
def HW{us:List Tie}{a b c:Int}{U:List Int}(h:Flow (aC us) a b c U):Flow (aC us) a b c (gn U):=λS=>by
 rw[←h S];unfold net;rw[eU,nY,nY];refine cT λk hk=>?_;obtain⟨t,ht⟩:∃t,us[k]?=some t:=⟨_,Ë hk⟩
 let⟨j,l⟩:=dF us k ht;have f:flo (aC us) S (2 * k)=chi S t.1 - chi S t.2:=by unfold flo;rw[cG j]
 have g:flo (aC us) S (2 * k+1)=chi S t.2 - chi S t.1:=by unfold flo;rw[cG l]
 have n:prt ((2 * k:Nat):Int)=((2 * k+1:Nat):Int):=by
  unfold prt;rw[el ()];lia
 have o:prt ((2 * k+1:Nat):Int)=((2 * k:Nat):Int):=by
  unfold prt;rw[em ()];lia
 have m:∀i:Int,i∈gn U↔i∈U/\prt i∉U:=λi=>by
  unfold gn;rw[æ,Ŋ,decide_eq_false_iff_not]
 have d:=m ((2 * k:Nat):Int);have e:=m ((2 * k+1:Nat):Int);rw[n]at d;rw[o]at e;rw[f,g];by_cases x:((2 * k:Nat):Int)∈U <;> by_cases y:((2 * k+1:Nat):Int)∈U
 ·rw[em (λz=>(d.mp z).2 y),em (λz=>(e.mp z).2 x),el x,el y];lia
 ·rw[el (d.mpr ⟨x,y⟩),em (λz=>y (e.mp z).1),el x,em y]
 ·rw[em (λz=>x (d.mp z).1),el (e.mpr ⟨y,x⟩),em x,el y]
 ·rw[em (λz=>x (d.mp z).1),em (λz=>y (e.mp z).1),em x,em y]
def Qg{us:List Tie}{a b:Int}{U:List Int}(h:Flow (aC us) a b 1 U)(hr:¬Rt (edg (lft (aC us) U)) a b):∃k:Nat,k<⇑us/\¬Rt (adj us [((k:Nat):Int)] []) a b:=by
 let S:=RZ (edg (lft (aC us) U)) a
 have d:=h S;have w:chi S a=1:=jz (aL.mpr (.refl _));have A:chi S b=0:=qg (Ę.mpr λz=>hr (aL.mp z));rw[w,A]at d;have st:∀(j:Nat)(p x:Int),(p,(x,((j:Nat):Int)))∈lft (aC us) U->S p=true->S x=true:=λj p x hm hp=>aL.mpr (.step (aL.mp hp) (fJ.mpr ⟨_,hm⟩));have n:∀i,i<⇑(aC us)->(aC us)[i]?=some (aY (aC us) ((i:Nat):Int)):=λi hi=>nO (arcs:=aC us) (i:=((i:Nat):Int)) () ();have ge:∀i,i<⇑(aC us)->0<=(if((i:Nat):Int)∈U then flo (aC us) S i else 0):=λi hi=>by
  by_cases u:((i:Nat):Int)∈U
  ·rw[el u];unfold flo;cases e:S (aY (aC us) ((i:Nat):Int)).2 with
   |false =>
    rw[qg e];have:=Em S (aY (aC us) ((i:Nat):Int)).1;lia
   |true =>
    have:S (aY (aC us) ((i:Nat):Int)).1=true:=st i _ _ (cZ.mpr ⟨i,rfl,.inl ⟨u,n i hi⟩⟩) e;rw[jz e,jz this];lia
  ·rw[em u];exact ņ _
 have d:bT ⇑(aC us) (λi=>if((i:Nat):Int)∈U then flo (aC us) S i else 0)=1:=d;let⟨c,o,m⟩:=wj (by rw[d];decide);have m:0<(if((c:Nat):Int)∈U then flo (aC us) S c else 0):=m;have only:∀j,j<⇑(aC us)->((j:Nat):Int)∈U->S (aY (aC us) ((j:Nat):Int)).1=true->S (aY (aC us) ((j:Nat):Int)).2=false->j=c:=λj s u h1 h2=>by
  by_cases e:j=c
  ·exact e
  ·have:=Fb s o e ge;have this:(if((j:Nat):Int)∈U then flo (aC us) S j else 0)+(if((c:Nat):Int)∈U then flo (aC us) S c else 0)<=_:=this;rw[d,el u]at this;unfold flo at this;rw[jz h1,qg h2]at this;unfold flo at m;lia
 have D:=eU us;refine⟨c / 2,(),λr=>?_⟩;have f:∀x,Rt (adj us [((c / 2:Nat):Int)] []) a x->S x=true:=λx r=>by
  induction r with
  |refl=>exact aL.mpr (.refl _)
  |@step y z _ t ih =>
   let⟨k,e,v,_⟩:=aN.mp t;have v:k≠c / 2:=λq=>v (by rw[q];exact É.mpr rfl);have l:∃j,j<⇑(aC us)/\j / 2=k/\(aC us)[j]?=some (y,z):=by
    rcases e with e|e
    ·have g:=(dF us k e).1;exact⟨2 * k,(Æ.mp g).1,(),g⟩
    ·have g:=(dF us k e).2;exact⟨2 * k+1,(Æ.mp g).1,(),g⟩
   let⟨j,s,C,g⟩:=l;by_cases u:((j:Nat):Int)∈U
   ·cases B:S z with
    |true=>rfl
    |false =>
     have:=only j s u (by rw[cG g];exact ih) (by rw[cG g];exact B);lia
   ·exact st j _ _ (cZ.mpr ⟨j,rfl,.inr ⟨u,g⟩⟩) ih
 have:=f b r;rw[show S b=RZ (edg (lft (aC us) U)) a b from rfl,aL]at this;exact hr this
def oN(n a b v:Int):Int:=if v=a\/v=b then v else v+n
def inn(n a b:Int):List Int:=(zI (Þ n.toNat)).filter λv=>!decide (v=a\/v=b)
def bW(n a b:Int)(us:List Tie):List Tie:=us.flatMap λt=>[(oN n a b t.1,t.2),(oN n a b t.2,t.1)]
def aG(n a b:Int)(us:List Tie):List Tie:=bW n a b us++(inn n a b).map λv=>(v,v+n)
def dG(n a b:Int)(us:List Tie):⇑(bW n a b us)=2 * ⇑us:=qG (λt:Tie=>(oN n a b t.1,t.2)) (λt:Tie=>(oN n a b t.2,t.1)) us
theorem vR(n a b:Int):∀(us:List Tie) (k:Nat) {t:Tie},us[k]?=some t->(bW n a b us)[2 * k]?=some (oN n a b t.1,t.2)/\(bW n a b us)[2 * k+1]?=some (oN n a b t.2,t.1)
 |u::us,0,t,h=>by
  cases h;exact⟨rfl,rfl⟩
 |u::us,k+1,t,h=>by
  have:=vR n a b us k (t:=t) h;exact this
def bB{n a b v:Int}:v∈inn n a b↔(0<=v/\v<n)/\v≠a/\v≠b:=by
 unfold inn;rw[æ,xM,Ŋ,decide_eq_false_iff_not];constructor
 ·rintro⟨⟨c,h1⟩,h2⟩;exact⟨⟨c,()⟩,λz=>h2 (.inl z),λz=>h2 (.inr z)⟩
 ·rintro⟨⟨c,h1⟩,h2,d⟩;exact⟨⟨c,()⟩,λz=>z.elim h2 d⟩
def T3(n a b:Int):(inn n a b).Nodup:=wF ((vV List.pairwise_lt_range).filter _)
def xT(n a b:Int):⇑(inn n a b)<=n.toNat:=by
 unfold inn zI;refine ą (ā _ _) ?_;rw[Ä,č];exact Õ _
def pN(n a b:Int)(us:List Tie):⇑(aG n a b us)=2 * ⇑us+⇑(inn n a b):=by
 unfold aG;rw[Ð,dG,Ä]
def pO{n a b:Int}{us:List Tie}{k:Nat}{t:Tie}(h:us[k]?=some t):(aG n a b us)[2 * k]?=some (oN n a b t.1,t.2)/\(aG n a b us)[2 * k+1]?=some (oN n a b t.2,t.1):=by
 let⟨c,d⟩:=vR n a b us k h;unfold aG;rw[ñ (Æ.mp c).1,ñ (Æ.mp d).1];exact⟨c,d⟩
def Bo{n a b v:Int}{us:List Tie}(h:v∈inn n a b):∃j:Nat,2 * ⇑us<=j/\(inn n a b)[j - 2 * ⇑us]?=some v/\(aG n a b us)[j]?=some (v,v+n):=by
 let⟨i,hi⟩:=ė h;refine⟨2 * ⇑us+i,(),by rw[show 2 * ⇑us+i - 2 * ⇑us=i by lia];exact hi,?_⟩;unfold aG;rw[õ (by rw[dG];lia),dG,show 2 * ⇑us+i - 2 * ⇑us=i by lia,à,hi];rfl
def gM{n a b:Int}{us:List Tie}{j:Nat}{e:Tie}(h:(aG n a b us)[j]?=some e):(∃t,j<2 * ⇑us/\us[j / 2]?=some t/\((j=2 * (j / 2)/\e=(oN n a b t.1,t.2))\/(j=2 * (j / 2)+1/\e=(oN n a b t.2,t.1))))\/(2 * ⇑us<=j/\∃v,(inn n a b)[j - 2 * ⇑us]?=some v/\e=(v,v+n)):=by
 by_cases g:j<2 * ⇑us
 ·left;have hk:j / 2<⇑us:=()
  have ht:=Ë hk;let⟨d,f⟩:=pO (n:=n) (a:=a) (b:=b) ht;refine⟨_,g,ht,?_⟩;rcases Nat.mod_two_eq_zero_or_one j with m|m
  ·left;have c:2 * (j / 2)=j:=()
   rw[c,h]at d;exact⟨c.symm,Ô d⟩
  ·right;have c:2 * (j / 2)+1=j:=()
   rw[c,h]at f;exact⟨c.symm,Ô f⟩
 ·right;refine⟨(),?_⟩;unfold aG at h;rw[õ (by rw[dG];lia),dG,à]at h;cases hv:(inn n a b)[j - 2 * ⇑us]? with
  |none=>rw[hv]at h;cases h
  |some v =>
   rw[hv]at h;exact⟨v,rfl,(Ô h).symm⟩
def xu{n a b v:Int}(c:0<=v)(h1:v<n):0<=oN n a b v/\oN n a b v<2 * n:=by
 unfold oN;split <;> lia
def nM{n a b:Int}{us:List Tie}(ok:OkN n us):OkA (2 * n) (aG n a b us):=λe he=>by
 let⟨j,g⟩:=ė he;rcases gM g with⟨t,_,ht,h⟩|⟨_,v,hv,rfl⟩
 ·let⟨⟨h1,h2⟩,⟨d,f⟩,_⟩:=ok t (Ê ht);have i:=xu (a:=a) (b:=b) h1 h2;have k:=xu (a:=a) (b:=b) d f;rcases h with⟨_,rfl⟩|⟨_,rfl⟩
  ·exact⟨i,by show 0<=t.2;lia,by show t.2<2 * n;lia⟩
  ·exact⟨k,by show 0<=t.1;lia,by show t.1<2 * n;lia⟩
 ·let⟨⟨c,h1⟩,_⟩:=bB.mp (Ê hv);exact⟨⟨c,by show v<2 * n;lia⟩,by show 0<=v+n;lia,by show v+n<2 * n;lia⟩
def Qh{arcs:List Tie}{a b:Int}{U:List Int}(h:Flow arcs a b 1 U)(hr:¬Rt (edg (lft arcs U)) a b):∃i0,i0<⇑arcs/\∀j,j<⇑arcs->RZ (edg (lft arcs U)) a (aY arcs ((j:Nat):Int)).1=true->RZ (edg (lft arcs U)) a (aY arcs ((j:Nat):Int)).2=false->j=i0:=by
 let S:=RZ (edg (lft arcs U)) a
 have d:=h S;have k:chi S a=1:=jz (aL.mpr (.refl _));have l:chi S b=0:=qg (Ę.mpr λz=>hr (aL.mp z));rw[k,l]at d;have st:∀(j:Nat)(p x:Int),(p,(x,((j:Nat):Int)))∈lft arcs U->S p=true->S x=true:=λj p x hm hp=>aL.mpr (.step (aL.mp hp) (fJ.mpr ⟨_,hm⟩));have c:∀i,i<⇑arcs->arcs[i]?=some (aY arcs ((i:Nat):Int)):=λi hi=>nO (arcs:=arcs) (i:=((i:Nat):Int)) () ();have ge:∀i,i<⇑arcs->0<=(if((i:Nat):Int)∈U then flo arcs S i else 0):=λi hi=>by
  by_cases u:((i:Nat):Int)∈U
  ·rw[el u];unfold flo;cases e:S (aY arcs ((i:Nat):Int)).2 with
   |false =>
    rw[qg e];have:=Em S (aY arcs ((i:Nat):Int)).1;lia
   |true =>
    have:S (aY arcs ((i:Nat):Int)).1=true:=st i _ _ (cZ.mpr ⟨i,rfl,.inl ⟨u,c i hi⟩⟩) e;rw[jz e,jz this];lia
  ·rw[em u];exact ņ _
 have d:bT ⇑arcs (λi=>if((i:Nat):Int)∈U then flo arcs S i else 0)=1:=d;let⟨i0,f,g⟩:=wj (by rw[d];decide);have g:0<(if((i0:Nat):Int)∈U then flo arcs S i0 else 0):=g;refine⟨i0,f,λj hj h1 h2=>?_⟩;have h1:S (aY arcs ((j:Nat):Int)).1=true:=h1;have h2:S (aY arcs ((j:Nat):Int)).2=false:=h2;by_cases u:((j:Nat):Int)∈U
 ·by_cases e:j=i0
  ·exact e
  ·have:=Fb hj f e ge;have this:(if((j:Nat):Int)∈U then flo arcs S j else 0)+(if((i0:Nat):Int)∈U then flo arcs S i0 else 0)<=_:=this;rw[d,el u]at this;unfold flo at this;rw[jz h1,qg h2]at this;unfold flo at g;lia
 ·have:S (aY arcs ((j:Nat):Int)).2=true:=st j _ _ (cZ.mpr ⟨j,rfl,.inr ⟨u,c j hj⟩⟩) h1;rw[h2]at this;cases this
def VB(n a b:Int):oN n a b a=a:=el (.inl rfl)
def Vz(n a b:Int):oN n a b b=b:=el (.inr rfl)
def Bp{n a b:Int}{us:List Tie}{x y:Int}{k:Nat}(e:us[k]?=some (x,y)\/us[k]?=some (y,x)):∃j,j<⇑(aG n a b us)/\j / 2=k/\j<2 * ⇑us/\aY (aG n a b us) ((j:Nat):Int)=(oN n a b x,y)/\(aG n a b us)[j]?=some (oN n a b x,y):=by
 rcases e with e|e
 ·have g:=(pO (n:=n) (a:=a) (b:=b) e).1;have hk:=(Æ.mp e).1;exact⟨2 * k,(Æ.mp g).1,(),(),cG g,g⟩
 ·have g:=(pO (n:=n) (a:=a) (b:=b) e).2;have hk:=(Æ.mp e).1;exact⟨2 * k+1,(Æ.mp g).1,(),(),cG g,g⟩
def Mv{n a b:Int}{us:List Tie}{U:List Int}(ok:OkN n us)(h:Flow (aG n a b us) a b 1 U)(hr:¬Rt (edg (lft (aG n a b us) U)) a b):(∃v,v∈inn n a b/\¬Rt (adj us [] [v]) a b)\/∃k:Nat,k<⇑us/\¬Rt (adj us [((k:Nat):Int)] []) a b:=by
 let⟨d,m,only⟩:=Qh h hr;rw[pN]at m;generalize p:RZ (edg (lft (aG n a b us) U)) a=S at only;have u:S a=true:=by rw[←p];exact aL.mpr (.refl _)
 have A:S b=false:=by rw[←p];exact Ę.mpr λz=>hr (aL.mp z)
 have step:∀(F B:List Int),(∀k:Nat,k=d / 2->d<2 * ⇑us->((k:Nat):Int)∈F)->(∀v,(inn n a b)[d - 2 * ⇑us]?=some v->2 * ⇑us<=d->v∈B)->¬Rt (adj us F B) a b:=λF B hF hB r=>by
  have i:∀x,Rt (adj us F B) a x->S (oN n a b x)=true:=λx r=>by
   induction r with
   |refl=>rw[VB];exact u
   |@step y z _ t ih =>
    let⟨k,e,L,M⟩:=aN.mp t;let⟨j,E,I,J,s,_⟩:=Bp (n:=n) (a:=a) (b:=b) e;have o:S z=true:=by
     cases f:S z with
     |true=>rfl
     |false =>
      have:=only j E (by rw[s];exact ih) (by rw[s];exact f);subst this;exact er (hF k I.symm J) L
    by_cases g:z=a\/z=b
    ·unfold oN;rw[el g];exact o
    ·have O:0<=z/\z<n:=by
      rcases e with e|e
      ·exact(ok _ (Ê e)).2.1
      ·exact(ok _ (Ê e)).1
     have N:z∈inn n a b:=bB.mpr ⟨O,λq=>g (.inl q),λq=>g (.inr q)⟩;let⟨H,K,D,f⟩:=Bo (us:=us) N;have G:oN n a b z=z+n:=em g;rw[G];cases C:S (z+n)with
     |true=>rfl
     |false =>
      have:=only H (Æ.mp f).1 (by rw[cG f];exact o) (by rw[cG f];exact C);subst this;exact er (hB z D K) M
  have:=i b r;rw[Vz,A]at this;cases this
 by_cases c:d<2 * ⇑us
 ·right;refine⟨d / 2,(),step [((d / 2:Nat):Int)] [] (λk hk _=>by rw[hk];exact É.mpr rfl) (λv _ l=>())⟩
 ·cases hv:(inn n a b)[d - 2 * ⇑us]? with
  |some v =>
   left;refine⟨v,Ê hv,step [] [v] (λk _ l=>()) (λw hw _=>by rw[hv]at hw;cases hw;exact É.mpr rfl)⟩
  |none =>
   exfalso;have:=List.getElem?_eq_none_iff.mp hv;lia
def Jz{n a b:Int}{us:List Tie}(ok:OkN n us){x:Int}(r:Rt (adj us [] []) a x):Rt (edg (lft (aG n a b us) [])) a (oN n a b x):=by
 have st:∀(j:Nat)(e:Tie),(aG n a b us)[j]?=some e->e∈edg (lft (aG n a b us) []):=λj e he=>fJ.mpr ⟨_,cZ.mpr ⟨j,rfl,.inr ⟨Ý,he⟩⟩⟩;induction r with
 |refl=>rw[VB];exact .refl _
 |@step y z _ t ih =>
  let⟨k,e,_,_⟩:=aN.mp t;let⟨j,p,u,v,s,g⟩:=Bp (n:=n) (a:=a) (b:=b) e;have d:=Rt.step ih (st j _ g);by_cases c:z=a\/z=b
  ·unfold oN;rw[el c];exact d
  ·have m:0<=z/\z<n:=by
    rcases e with e|e
    ·exact(ok _ (Ê e)).2.1
    ·exact(ok _ (Ê e)).1
   have l:z∈inn n a b:=bB.mpr ⟨m,λq=>c (.inl q),λq=>c (.inr q)⟩;let⟨i,w,o,f⟩:=Bo (us:=us) l;have h:oN n a b z=z+n:=em c;rw[h];exact .step d (st i _ f)
def piN(n x:Int):Int:=if x<n then x else x - n
def Vk{n a b v:Int}(d:0<=v)(h1:v<n):piN n (oN n a b v)=v:=by
 unfold piN oN;by_cases c:v=a\/v=b
 ·rw[el c,el h1]
 ·rw[em c,em ()];lia
def gA(n:Int)(P:List Int):List Int:=P.filter λx=>decide (x<n)
def gB(T:Nat)(K:List Int):List Int:=(K.filter λi=>decide (i<2 * ((T:Nat):Int))).map λi=>i / 2
def uF{arcs:List Tie}{N:List Int}(hN:InL arcs N){p y k:Int}(j:(p,(y,k))∈alg arcs N):∃i:Nat,k=((i:Nat):Int)/\k∈N/\arcs[i]?=some (p,y):=by
 let⟨h1,h2⟩:=dZ.mp j;let⟨a,b⟩:=hN.2 k h1;refine⟨k.toNat,(),h1,?_⟩;rw[nO a b,h2]
def qF{n a b:Int}{us:List Tie}{N P K:List Int}{x:Int}(ok:OkN n us)(ha:0<=a/\a<n)(hN:InL (aG n a b us) N)(h:Wy (alg (aG n a b us) N) a P K x):Wy (aF us) a (gA n P) (gB ⇑us K) (piN n x):=by
 induction h with
 |one =>
  have c:gA n [a]=[a]:=by unfold gA;rw[List.filter_cons_of_pos (by exact decide_eq_true ha.2)];rfl
  have d:piN n a=a:=el ha.2;rw[c,d];exact .one
 |@step P K p y k h hx j ih =>
  let⟨i,rfl,_,hi⟩:=uF hN j;rcases gM hi with⟨t,hl,ht,e⟩|⟨hl,v,hv,e⟩
  ·let⟨⟨h1,h2⟩,⟨m,o⟩,_⟩:=ok t (Ê ht);obtain⟨u,z,s,hp,g,A,B,C,r⟩:∃u z,(us[i / 2]?=some (u,z)\/us[i / 2]?=some (z,u))/\p=oN n a b u/\y=z/\0<=u/\u<n/\0<=z/\z<n:=by
    rcases e with⟨_,e⟩|⟨_,e⟩
    ·exact⟨t.1,t.2,.inl ht,et Prod.fst e,et Prod.snd e,h1,h2,m,o⟩
    ·exact⟨t.2,t.1,.inr ht,et Prod.fst e,et Prod.snd e,m,o,h1,h2⟩
   subst hp g;rw[Vk A B]at ih;have c:gA n (P++[y])=gA n P++[y]:=by
    unfold gA;rw[ŗ,List.filter_cons_of_pos (l:=[]) (by exact decide_eq_true r)];rfl
   have d:gB ⇑us (K++[((i:Nat):Int)])=gB ⇑us K++[((i / 2:Nat):Int)]:=by
    unfold gB;rw[ŗ,List.filter_cons_of_pos (l:=[]) (by exact decide_eq_true ()),ì];show _++[((i:Nat):Int) / 2]=_;congr 1
   have f:piN n y=y:=el r;rw[c,d,f];refine .step ih (λq=>hx (æ.mp q).1) (bO.mpr ⟨i / 2,rfl,s⟩)
  ·have w:=bB.mp (Ê hv);have hp:p=v:=et Prod.fst e;have g:y=v+n:=et Prod.snd e;subst hp g;have c:gA n (P++[p+n])=gA n P:=by
    unfold gA;rw[ŗ,List.filter_cons_of_neg (l:=[]) (by rw[eg ()];exact Î)];exact Ĕ _
   have d:gB ⇑us (K++[((i:Nat):Int)])=gB ⇑us K:=by
    unfold gB;rw[ŗ,List.filter_cons_of_neg (l:=[]) (by rw[eg ()];exact Î)];rw[List.filter_nil,Ĕ]
   have f:piN n (p+n)=piN n p:=by
    unfold piN;rw[em (),el w.1.2];lia
   rw[c,d,f];exact ih
def yH{c:List Put}{a:Int}{P K:List Int}{x:Int}(h:Wy c a P K x):∀v∈P,v≠x->∃y k,k∈K/\(v,(y,k))∈c:=by
 induction h with
 |one=>exact λv hv b=>er (É.mp hv) b
 |@step P K p y k h hx j ih =>
  intro v hv b;rcases ë.mp hv with z|z
  ·by_cases e:v=p
   ·subst e;exact⟨y,k,ã _ (É.mpr rfl),j⟩
   ·let⟨f,d,h1,h2⟩:=ih v z e;exact⟨f,d,è _ h1,h2⟩
  ·exact er (É.mp z) b
def Ut{c:List Put}{a:Int}{P K:List Int}{x:Int}(h:Wy c a P K x):a∈P/\x∈P:=by
 induction h with
 |one=>exact⟨É.mpr rfl,É.mpr rfl⟩
 |step _ _ _ b=>exact⟨è _ b.1,ã _ (É.mpr rfl)⟩
def vY{c:List Put}{a:Int}{P K:List Int}{x:Int}(h:Wy c a P K x):∀k∈K,∃p y,(p,(y,k))∈c/\y≠a/\p∈P/\y∈P:=by
 induction h with
 |one=>exact λk hk=>nomatch hk
 |@step P K p y k h hx j ih =>
  let⟨b,l⟩:=Ut h;intro g hk;rcases ë.mp hk with z|z
  ·let⟨i,m,h1,h2,d,f⟩:=ih g z;exact⟨i,m,h1,h2,è _ d,è _ f⟩
  ·rw[É.mp z];exact⟨p,y,j,(λe=>hx (e ▸ b)),è _ l,ã _ (É.mpr rfl)⟩
def gR{arcs:List Tie}{U K:List Int}(h:InL arcs U):InL arcs (U.filter λi=>!decide (i∈K)):=⟨ą (ā _ _) h.1,λi hi=>h.2 i (æ.mp hi).1⟩
def VF{l:List Int}{i j:Nat}{v:Int}(d:l.Nodup)(h1:l[i]?=some v)(h2:l[j]?=some v):i=j:=by
 let⟨a,b1⟩:=Æ.mp h1;let⟨b,b2⟩:=Æ.mp h2;have c:=List.pairwise_iff_getElem.mp d;rcases Nat.lt_trichotomy i j with z|z|z
 ·exact er (b1.trans b2.symm) (c _ _ a b z)
 ·exact z
 ·exact er (b2.trans b1.symm) (c _ _ b a z)
section
variable{n a b:Int}{us:List Tie}{U:List Int}{P1 K1 P2 K2:List Int}
def Hv{v y q:Int}{i j:Nat}(hv:v∈inn n a b)(hi:(aG n a b us)[i]?=some (v,y))(m:(aG n a b us)[j]?=some (v,q))(ok:OkN n us):i=j:=by
 have d:=bB.mp hv;have one:∀{i:Nat}{y:Int},(aG n a b us)[i]?=some (v,y)->2 * ⇑us<=i/\(inn n a b)[i - 2 * ⇑us]?=some v:=λ{i y} h=>by
  rcases gM h with⟨t,_,ht,e⟩|⟨hl,w,o,e⟩
  ·exfalso;let⟨⟨h1,h2⟩,⟨l,r⟩,_⟩:=ok t (Ê ht);have f:∀u,0<=u->v≠oN n a b u:=λu u0 z=>by
    unfold oN at z;by_cases c:u=a\/u=b
    ·rw[el c]at z;rcases c with c|c
     ·exact d.2.1 (z.trans c)
     ·exact d.2.2 (z.trans c)
    ·rw[em c]at z;lia
   rcases e with⟨_,e⟩|⟨_,e⟩
   ·exact f t.1 h1 (et Prod.fst e)
   ·exact f t.2 l (et Prod.fst e)
  ·have:v=w:=et Prod.fst e;subst this;exact⟨hl,o⟩
 let⟨s,g⟩:=one hi;let⟨x,k⟩:=one m;have p:=T3 n a b;have:=VF p g k;lia
def rB(ok:OkN n us)(j:InL (aG n a b us) U)(k:Wy (alg (aG n a b us) U) a P1 K1 b)(l:Wy (alg (aG n a b us) (U.filter λi=>!decide (i∈K1))) a P2 K2 b):∀v∈gA n P1,v∈gA n P2->v=a\/v=b:=λv h1 h2=>by
 refine Classical.byContradiction λc=>?_;have m:v≠a:=λz=>c (.inl z);have f:v≠b:=λz=>c (.inr z);let⟨x,g⟩:=æ.mp h1;let⟨y,_⟩:=æ.mp h2;have g:v<n:=eh g;let⟨H,E,A,s⟩:=yH k v x f;let⟨I,F,G,u⟩:=yH l v y f;let⟨C,rfl,_,h⟩:=uF j s;let⟨D,rfl,d,o⟩:=uF (gR j) u;have B:0<=v:=by
  rcases gM h with⟨t,_,ht,e⟩|⟨_,w,r,e⟩
  ·let⟨⟨h1,h2⟩,⟨p,q⟩,_⟩:=ok t (Ê ht);rcases e with⟨_,e⟩|⟨_,e⟩
   ·have:v=oN n a b t.1:=et Prod.fst e;have:=xu (a:=a) (b:=b) h1 h2;lia
   ·have:v=oN n a b t.2:=et Prod.fst e;have:=xu (a:=a) (b:=b) p q;lia
  ·have:=(bB.mp (Ê r)).1.1;have:v=w:=et Prod.fst e;lia
 have e:=Hv (bB.mpr ⟨⟨B,g⟩,m,f⟩) h o ok;subst e;have d:=(æ.mp d).2;rw[decide_eq_true A]at d;cases d
def Jf(ok:OkN n us)(ha:0<=a/\a<n)(d:InL (aG n a b us) U)(r:Wy (alg (aG n a b us) U) a P1 K1 b)(s:Wy (alg (aG n a b us) (U.filter λi=>!decide (i∈K1))) a P2 K2 b):∀k∈gB ⇑us K1,k∉gB ⇑us K2:=λk h1 h2=>by
 let⟨i,hi,rfl⟩:=Ć.mp h1;let⟨j,hj,X⟩:=Ć.mp h2;let⟨E,w⟩:=æ.mp hi;let⟨j1,B⟩:=æ.mp hj;have w:=eh w;have B:=eh B;have M:=qF ok ha d r;have N:=qF ok ha (gR d) s;have I:=rB ok d r s;let⟨p1,y1,Y,F,_,_⟩:=vY r i E;let⟨p2,y2,Z,G,_,_⟩:=vY s j j1;let⟨g,rfl,_,T⟩:=uF d Y;let⟨A,rfl,o,V⟩:=uF (gR d) Z;have ne:g≠A:=λz=>by
  subst z;have o:=(æ.mp o).2;rw[decide_eq_true E]at o;cases o
 have v:g / 2=A / 2:=by
  have:((A:Nat):Int) / 2=((g:Nat):Int) / 2:=X;lia
 have c:∀{q:Nat}{p y:Int},((q:Nat):Int)<2 * (⇑us:Int)->(aG n a b us)[q]?=some (p,y)->∃t,us[q / 2]?=some t/\((q=2 * (q / 2)/\y=t.2)\/(q=2 * (q / 2)+1/\y=t.1)):=λ{q p y} hl h=>by
  rcases gM h with⟨t,_,ht,e⟩|⟨hl',_⟩
  ·refine⟨t,ht,?_⟩;rcases e with⟨u,e⟩|⟨u,e⟩
   ·exact .inl ⟨u,et Prod.snd e⟩
   ·exact .inr ⟨u,et Prod.snd e⟩
  ·lia
 let⟨t,ht,R⟩:=c w T;let⟨t',f,S⟩:=c B V;rw[←v,ht]at f;cases f
 -- both places of the c are C both ways
 have C:∀{P K:List Int}{x:Int},Wy (aF us) a P K x->((g:Nat):Int) / 2∈K->t.1∈P/\t.2∈P:=λ{P K x} W hk=>by
  let⟨p,y,hp,_,J,L⟩:=vY W _ hk;let⟨q,D,h⟩:=bO.mp hp;have D:g / 2=q:=()
  subst D;rw[ht]at h;rcases h with h|h
  ·cases h;exact⟨J,L⟩
  ·cases h;exact⟨L,J⟩
 let⟨O,Q⟩:=C M h1;let⟨b1,b2⟩:=C N h2;have l:=I _ O b1;have m:=I _ Q b2;have nt:=(ok t (Ê ht)).2.2;have H:t.1≠a/\t.2≠a:=by
  rcases R with⟨x1,rfl⟩|⟨x1,rfl⟩ <;> rcases S with⟨x2,rfl⟩|⟨x2,rfl⟩
  ·lia
  ·exact⟨G,F⟩
  ·exact⟨F,G⟩
  ·lia
 rcases l with l|l
 ·exact H.1 l
 ·rcases m with m|m
  ·exact H.2 m
  ·exact nt (l.trans m.symm)
end
def Gp{R:Nat->Nat->Bool}{n i:Nat}(hi:i<n)(hs:R i i=true):jt R n i=true↔∀b,b<i->(R i b&&R b i)=false:=by
 unfold jt fH;rw[decide_eq_true_iff,List.head?_filter,List.find?_range_eq_some];constructor
 ·intro h b hb;have:=h.2.2 b hb
  rwa [Ŋ]at this
 ·intro h;refine⟨by rw[hs];rfl,Ď.mpr hi,λj hj=>?_⟩;rw[h j hj];rfl
def xK{d:List Tie}(e:∀a b,(a,b)∈d->(b,a)∈d)(n i:Nat):rsI d n ((i:Nat):Int)=zI (fH (RB d) n i):=by
 refine rN jG (vV (List.pairwise_lt_range.filter _)) λq=>?_;rw[cu,Dk];unfold fH;rw[æ,Ď,Ì,iH,iH];constructor
 ·rintro⟨⟨c,h1⟩,r⟩;rw[Int.toNat_of_nonneg c];exact⟨c,(),r,r.sym e⟩
 ·rintro⟨c,h1,r,_⟩;rw[Int.toNat_of_nonneg c]at r;exact⟨⟨c,()⟩,r⟩
structure Seen(n:Nat)(es:List Tie)(i:Nat)(m:IM):Prop where
 im:tR m=true
 nd:(aA m).Nodup
 rng:∀x∈aA m,0<=x/\x<n
 is:∀x,x∈aA m↔∃p:Nat,p<i/\Rt es ((p:Nat):Int) x
def JM{m:IM}(k:Int)(d:D):∀x,x∈aA (iM m k d)↔x∈aA m\/x=k:=λx=>by
 unfold iM;by_cases h:d9 m k=true
 ·rw[el h];have e:aA (m.map λp=>if p.1=k then(p.1,d)else p)=aA m:=by
   unfold aA;rw[Ė];refine List.map_congr_left λp _=>?_;show(if p.1=k then(p.1,d)else p).1=p.1;split <;> rfl
  rw[e];exact⟨.inl,λz=>z.elim id λz=>z ▸ dJ.mp h⟩
 ·rw[em h];unfold aA;rw[ì,ë];exact Iff.rfl.trans ⟨λz=>z.imp id É.mp,λz=>z.imp id λz=>É.mpr z⟩
def NQ{m:IM}(k:Int)(d:D)(h:tR m=true)(hd:cM d=true):tR (iM m k d)=true:=by
 unfold iM;split
 ·unfold tR at *;rw[List.all_map,Ħ];intro p hp;show cM (if p.1=k then(p.1,d)else p).2=true;split
  ·exact hd
  ·exact Ħ.mp h p hp
 ·unfold tR at *;rw[List.all_append,h];show(true&&(cM d&&true))=true;rw[hd];rfl
def RQ{m:IM}(k:Int)(d:D)(h:(aA m).Nodup):(aA (iM m k d)).Nodup:=by
 unfold iM;by_cases hh:d9 m k=true
 ·rw[el hh];have e:aA (m.map λp=>if p.1=k then(p.1,d)else p)=aA m:=by
   unfold aA;rw[Ė];refine List.map_congr_left λp _=>?_;show(if p.1=k then(p.1,d)else p).1=p.1;split <;> rfl
  rw[e];exact h
 ·rw[em hh];unfold aA at *;rw[ì];refine Š.mpr ⟨h,by simp,λy hy z a=>?_⟩;have a:=É.mp a;rw[a];rintro rfl;exact hh (dJ.mpr hy)
theorem iB{P:DEnds}{ρ:List Sl}{a:Option Nat}{i:Nat}{k:Kd}{d:D}{s:Sl}(e:stK a ρ i (norm k d) d=some s)(h:P.nx (ρ.set i s)):(match stK a ρ i (norm k d) d with
 |some s=>P.nx (ρ.set i s)
 |none=>False):=by
 rw[e];exact h
def noV(us:List Tie)(v:Int):List Tie:=us.filter λt=>!decide (v=t.1\/v=t.2)
def RV(us:List Tie)(v:Nat):Nat->Nat->Bool:=RB (adj (noV us ((v:Nat):Int)) [] [])
def pwI(n:Nat)(us:List Tie)(v:Nat):List (List Int):=(((Þ n).filter (jt (RV us v) n)).filter λa=>decide (a≠v)).map λa=>zI (fH (RV us v) n a)
def Tj{n:Int}{us:List Tie}(ok:OkN n us)(v:Int):OkN n (noV us v):=λt ht=>ok t ((æ.mp ht).1)
def Ox(us:List Tie)(v:Int):⇑(noV us v)<=⇑us:=ā _ _
def xH{us:List Tie}{v x y:Int}:(x,y)∈adj (noV us v) [] []↔(x,y)∈adj us [] []/\x≠v/\y≠v:=by
 have key:∀(ws:List Tie),(x,y)∈adj ws [] []↔(x,y)∈ws\/(y,x)∈ws:=λws=>by
  rw[aN];constructor
  ·rintro⟨k,e|e,_⟩
   ·exact .inl (Ê e)
   ·exact .inr (Ê e)
  ·rintro(e|e)
   ·let⟨k,hk⟩:=ė e;exact⟨k,.inl hk,Ý,Ý⟩
   ·let⟨k,hk⟩:=ė e;exact⟨k,.inr hk,Ý,Ý⟩
 have c:∀a b:Int,((a,b):Tie)∈noV us v↔(a,b)∈us/\a≠v/\b≠v:=λa b=>by
  unfold noV;rw[æ];simp only[Ŋ,decide_eq_false_iff_not,not_or];constructor
  ·rintro⟨h,h1,h2⟩;exact⟨h,λz=>h1 z.symm,λz=>h2 z.symm⟩
  ·rintro⟨h,h1,h2⟩;exact⟨h,λz=>h1 z.symm,λz=>h2 z.symm⟩
 rw[key,key,c,c];constructor
 ·rintro(⟨h,a,b⟩|⟨h,a,b⟩)
  ·exact⟨.inl h,a,b⟩
  ·exact⟨.inr h,b,a⟩
 ·rintro⟨h|h,a,b⟩
  ·exact .inl ⟨h,a,b⟩
  ·exact .inr ⟨h,b,a⟩
def vg{us:List Tie}{v a:Int}(r:Rt (adj (noV us v) [] []) a v):a=v:=by
 cases r with
 |refl=>rfl
 |step r t=>exact er rfl (xH.mp t).2.2
def Vi{n:Nat}{us:List Tie}{v:Nat}(hv:v<n):(uy (RV us v) n n).filter (λl=>!decide (((v:Nat):Int)∈l))=pwI n us v:=by
 unfold uy pwI;rw[ő (by rw[č];exact Õ _),List.filter_map];congr 1;refine List.filter_congr λa ha=>?_;show(!decide (((v:Nat):Int)∈zI (fH (RV us v) n a)))=decide (a≠v);have h:((v:Nat):Int)∈zI (fH (RV us v) n a)↔a=v:=by
  rw[Dk];unfold fH;rw[æ,Ì];show 0<=((v:Nat):Int)/\v∈Þ n/\RV us v a v=true/\RV us v v a=true↔_;constructor
  ·rintro⟨_,_,h,_⟩;have:=vg (iH.mp h);lia
  ·rintro rfl;exact⟨(),Ď.mpr hv,q9 _ _,q9 _ _⟩
 by_cases e:a=v
 ·rw[decide_eq_true (h.mpr e),eg (λz=>z e)];rfl
 ·rw[eg (λz=>e (h.mp z)),decide_eq_true e];rfl
def RP(n:Nat)(us:List Tie)(v:Nat):⇑(pwI n us v)<=n:=by
 unfold pwI;rw[Ä];have h1:=ā (λa=>decide (a≠v)) ((Þ n).filter (jt (RV us v) n));have h2:=ā (jt (RV us v) n) (Þ n);rw[č]at h2;lia
def Lz:FF:=λds P=>∃n us,ds=[au n us]/\0<=n/\n<=60/\⇑us<=100/\OkN n us/\P (.list ((uy (RB (adj us [] [])) n.toNat n.toNat).map iD))
def fPW:FF:=λds P=>∃(n:Int)(us:List Tie)(v:Nat),ds=[au n us,.int ((v:Nat):Int)]/\1<=n/\n<=60/\⇑us<=100/\OkN n us/\v<n.toNat/\P (.list ((pwI n.toNat us v).map iD))
def Tt{Q:Nat->Prop}:∀k,Q k->∃m,m<=k/\Q m/\∀b,b<m->¬Q b:=by
 intro k;induction k using Nat.strongRecOn with
 |ind k ih =>
  intro h;by_cases c:∃b,b<k/\Q b
  ·let⟨b,hb,a⟩:=c;let⟨m,hm,d,hl⟩:=ih b hb a;exact⟨m,(),d,hl⟩
  ·exact⟨k,Õ _,h,λb hb a=>c ⟨b,hb,a⟩⟩
def RK{us:List Tie}{v a y:Int}(f:a≠v):Rt (adj (noV us v) [] []) a y↔Rt (adj us [] [v]) a y:=by
 constructor
 ·exact Rt.mono λ⟨p,q⟩ h=>by
   let⟨h1,_,c⟩:=xH.mp h;let⟨k,e,hk,_⟩:=aN.mp h1;exact aN.mpr ⟨k,e,hk,λz=>c (É.mp z)⟩
 ·intro r;have:Rt (adj (noV us v) [] []) a y/\y≠v:=by
   induction r with
   |refl=>exact⟨.refl _,f⟩
   |@step p q _ t ih =>
    let⟨k,e,hk,d⟩:=aN.mp t;have b:q≠v:=λz=>d (É.mpr z);exact⟨.step ih.1 (xH.mpr ⟨aN.mpr ⟨k,e,hk,Ý⟩,ih.2,b⟩),b⟩
  exact this.1
def Nt{n:Nat}{us:List Tie}{v:Nat}{a:Int}(j:0<=a)(o:a<n)(i:a≠((v:Nat):Int)):∃r,(pwI n us v).filter (λl=>decide (a∈l))=rsI (adj us [] [((v:Nat):Int)]) n a::r:=by
 have d:∀x y,(x,y)∈adj (noV us ((v:Nat):Int)) [] []->(y,x)∈adj (noV us ((v:Nat):Int)) [] []:=GJ;have c:∀l∈pwI n us v,a∈l->l=rsI (adj us [] [((v:Nat):Int)]) n a:=λl hl ha=>by
  let⟨x,t,rfl⟩:=Ć.mp hl;have e:=xK d n x;have e:zI (fH (RV us v) n x)=rsI (adj (noV us ((v:Nat):Int)) [] []) n ((x:Nat):Int):=e.symm;rw[e]at ha ⊢;have r:=(cu.mp ha).2;refine rN jG jG λy=>?_;rw[cu,cu,←RK i];exact⟨λz=>⟨z.1,(r.sym d).trans z.2⟩,λz=>⟨z.1,r.trans z.2⟩⟩
 let⟨m,q,hm,hl⟩:=Tt (Q:=λk=>Rt (adj (noV us ((v:Nat):Int)) [] []) a ((k:Nat):Int)) a.toNat (by rw[show((a.toNat:Nat):Int)=a by lia];exact .refl _);have h:m<n:=()
 have s:m≠v:=λz=>by
  subst z;exact i (vg hm)
 have f:zI (fH (RV us v) n m)∈pwI n us v:=by
  refine Ć.mpr ⟨m,æ.mpr ⟨æ.mpr ⟨Ď.mpr h,?_⟩,decide_eq_true s⟩,rfl⟩;show jt (RB (adj (noV us ((v:Nat):Int)) [] [])) n m=true;rw[Gp h (q9 _ m)];intro b hb;rw[Ę];intro z;rw[Ì]at z;exact hl b hb (hm.trans (iH.mp z.1))
 have p:a∈zI (fH (RV us v) n m):=by
  have e:zI (fH (RV us v) n m)=rsI (adj (noV us ((v:Nat):Int)) [] []) n ((m:Nat):Int):=(xK d n m).symm;rw[e,cu];exact⟨⟨j,o⟩,hm.sym d⟩
 cases g:(pwI n us v).filter (λl=>decide (a∈l))with
 |nil=>exact er (decide_eq_true p) (List.filter_eq_nil_iff.mp g _ f)
 |cons l r =>
  have:=æ.mp (show l∈(pwI n us v).filter (λl=>decide (a∈l)) by rw[g];exact Ó);exact⟨r,by rw[c l this.1 (eh this.2)]⟩
def fSW:FF:=λds P=>∃(n:Int)(us:List Tie)(v:Nat)(a:Int),ds=[au n us,.int ((v:Nat):Int),.int a]/\1<=n/\n<=60/\⇑us<=100/\OkN n us/\v<n.toNat/\0<=a/\a<n/\a≠((v:Nat):Int)/\P (iD (rsI (adj us [] [((v:Nat):Int)]) n.toNat a))
open Classical in
def ppF(n:Nat)(us:List Tie)(a b:Int):List Nat->D
 |[]=>.none
 |v::r=>if(((v:Nat):Int)=a\/((v:Nat):Int)=b)\/Rt (adj us [] [((v:Nat):Int)]) a b then ppF n us a b r else .tuple [.str af,.int ((v:Nat):Int),iD (rsI (adj us [] [((v:Nat):Int)]) n a)]
def Ww:FF:=λds P=>∃(n:Int)(us:List Tie)(a b:Int),ds=[au n us,.int a,.int b]/\1<=n/\n<=60/\⇑us<=100/\OkN n us/\0<=a/\a<n/\0<=b/\b<n/\P (ppF n.toNat us a b (Þ n.toNat))
section
variable{P:Za}{w:Zb}{K:á}{mg:Str->Option Value}{base:Zg}{f:Addr}{fd:Yc}{CN:Addr}
abbrev kA7(P w K mg base):=ĉ P w K mg base 2 "part_of" [aa,af] (spD QV)
def Ku(F:Fun K "parts" "parts" (top 15) f fd)(B:Ĩ mg)(J:kA7 P w K mg base):FnOk P w K mg base CX0 3 f fd [aa] (spD Lz):=by
 refine okT F (N:=[aa,"told","seen",af,"part","member"]) zC (λhr nd=>Ç (ê (some 0) (i:=1) nd rfl zQ (ø Á))
  (Wr.Mg 1 true (Ç (ê (some 1) (i:=2) nd rfl zQ Wr.qQ)
  (Ç (Ġ ð rfl (ģ B.range (À (Ñ (Ã 0) È) Á)) (ß (i:=3) nd rfl zQ) (Ç (ý (Wr.eX hr.units (Ã 3) (Ã 2)) (Ç (ê none (i:=4) nd rfl zQ (ù J hr (À (Ã 0) (À (Ã 3) Á))))
  (Ç (Wr.jP (ĵ 1) (À (Ã 4) Á))
  (Ç (Ġ ð rfl (Ċ (Ã 4)) (ß (i:=5) nd rfl zQ) (Ç (Wr.qZ hr.units (ĵ 2) (Ã 5) Ĳ) (ç [5] ä))) (ç [5] ä)))) ä) (ç [3,4,5] ä)))
  (ç [3,4,5] (Ö (Ü (Ã 1)))))))) ?_
 rintro ds P ⟨n,us,rfl,S,M,L,ok,q⟩;refine⟨[.im (au n us),.any,.any,.any,.any,.any],?_,?_⟩
 ·show [cg (au n us),.any,.any,.any,.any,.any]=_;rw[iG]
 have u:=yD (F:=[]) (B:=[]) ok ();have G:=GJ (us:=us) (F:=[]);generalize D:adj us [] []=c at u G q;refine⟨zK,rfl,.int n,rfl,⟨(),()⟩,rfl,λ(i:Nat) ρ=>∃m,ρ=[.im (au n us),.sp 0 true ((uy (RB c) n.toNat i).map iD),.dw 1 (.dict (kvD m)),.any,.any,.any]/\Seen n.toNat c i m,⟨[],rfl,rfl,by simp[aA],λx v=>(nomatch v),λx=>⟨λz=>(nomatch z),λ⟨p,hp,_⟩=>er hp (Nat.not_lt_zero _)⟩⟩,?_,?_⟩
 ·rintro i d ρ hd ⟨m,rfl,h⟩;let⟨hi,rfl⟩:=bR hd;have o:=Mx (RB c) hi;have hl:=Gy (RB c) n.toNat i;refine⟨m,rfl,?_⟩;show if(!d9 m (0+((i:Nat):Int)))=true then _ else _
  rw[Int.zero_add];have H:jt (RB c) n.toNat i=!d9 m ((i:Nat):Int):=by
   rw[ĥ,Gp hi (q9 c i),Ŋ,←Bool.not_eq_true,dJ,h.is];constructor
   ·rintro z ⟨p,hp,r⟩;have:=z p hp;rw[iH.mpr r,iH.mpr (r.sym G)]at this;cases this
   ·intro z b hb;rw[Bool.and_eq_false_iff,←Bool.not_eq_true,←Bool.not_eq_true,iH,iH];exact .inr λr=>z ⟨b,hb,r⟩
  cases hb:d9 m ((i:Nat):Int)with
  |true =>
   rw[H,hb,em ∅,Ĕ]at o;refine aD (A:=True) ⟨m,?_,h.im,h.nd,h.rng,λx=>?_⟩
   ·rw[o];rfl
   ·rw[h.is];constructor
    ·rintro⟨p,hp,r⟩;exact⟨p,(),r⟩
    ·rintro⟨p,hp,r⟩;by_cases e:p=i
     ·subst e;let⟨O,E,R⟩:=(h.is _).mp (dJ.mp hb);exact⟨O,E,R.trans r⟩
     ·exact⟨p,(),r⟩
  |false =>
   rw[H,hb,el ∅]at o;refine aB (B:=True) ⟨n,us,_,rfl,(),(),L,ok,(),(),?_⟩;rw[D];have s:∀x,x∈rsI c n.toNat ((i:Nat):Int)↔Rt c ((i:Nat):Int) x:=λx=>by
    rw[cu];exact⟨λz=>z.2,λr=>⟨r.rng (λt ht=>(u t ht).2) ⟨(),()⟩,r⟩⟩
   rw[←xK G]at o;have Q:=wC c n.toNat ((i:Nat):Int);generalize rsI c n.toNat ((i:Nat):Int)=C at o s Q;refine⟨rfl,by rw[Ä];lia,?_⟩;refine⟨rfl,λ(j:Nat) ρ=>∃k,ρ=[.im (au n us),.sp 0 true ((uy (RB c) n.toNat (i+1)).map iD),.dw 1 (.dict (kvD k)),.im (.int ((i:Nat):Int)),.sn (iD C),.any]/\tR k=true/\(aA k).Nodup/\∀x,x∈aA k↔x∈aA m\/x∈C.take j,⟨m,?_,h.im,h.nd,λx=>⟨.inl,λz=>z.elim id λz=>nomatch z⟩⟩,?_,?_⟩
   ·rw[o,ì];rfl
   ·rintro j d ρ hd ⟨k,rfl,g,l,a⟩;let⟨x,v,rfl⟩:=d7 hd;have T:=(s x).mp (Ê v);have tk:C.take (j+1)=C.take j++[x]:=by rw[ĕ,v];rfl
    have I:=fZ l λy hy=>show 0<=y/\y<n.toNat from by
     rcases(a y).mp hy with z|z
     ·exact h.rng y z
     ·exact((s y).mp (Ń z)).rng (λt ht=>(u t ht).2) ⟨(),()⟩
    unfold aA at I;rw[Ä]at I;refine⟨k,rfl,rfl,g,(),iM k x (.bool true),rfl,NQ _ _ g rfl,RQ _ _ l,λy=>?_⟩;rw[JM,a,tk,ë,É,or_assoc]
   ·rintro ρ ⟨k,rfl,g,l,a⟩;rw[Ä,ğ]at a;refine⟨k,rfl,g,l,λy hy=>?_,λx=>?_⟩
    ·rcases(a y).mp hy with z|z
     ·exact h.rng y z
     ·exact((s y).mp z).rng (λt ht=>(u t ht).2) ⟨(),()⟩
    ·rw[a,h.is,s];constructor
     ·rintro(⟨p,hp,r⟩|r)
      ·exact⟨p,(),r⟩
      ·exact⟨i,(),r⟩
     ·rintro⟨p,hp,r⟩;by_cases e:p=i
      ·subst e;exact .inr r
      ·exact .inl ⟨p,(),r⟩
 ·rintro ρ ⟨m,rfl,h⟩;rw[Ŭ];exact⟨rfl,q⟩
def kY:([am,aa,"v","left"]:List Str).Nodup:=⋯
def kW:(["part",aa,"v","left"]:List Str).Nodup:=⋯
def oG(F:Fun K cb cb (top 23) f fd)(B:Ĩ mg)(b:kA3 P w K mg base)(d:ĉ P w K mg base 3 "parts" [aa] (spD Lz)):FnOk P w K mg base CX0 5 f fd [aa,"v"] (spD fPW):=by
 refine okT F (N:=[aa,"v","left"]) zC (λhr nd=>Ç (Ů (ù b hr (À (Ã 0) (À (Ã 1) Á))))
  (Ç (ê none (i:=2) nd rfl zQ (ï (À (Ñ (Ã 0) È) (À (Wr.lV B.tuple (À (ř [am] rfl (Ċ (Ñ (Ã 0) È)) (λc=>(ß (i:=0) kY rfl zQ)) (λc=>(ŭ (Ģ hr.units (Ã 2) (Ã 0)))) (λc=>(Ã 0))) Á)) Á))))
  (Ö (Ü (ř ["part"] rfl (Ċ (ù d hr (À (Ã 2) Á))) (λc=>(ß (i:=0) kW rfl zQ)) (λc=>(ŭ (Ģ hr.units (Ã 2) (Ã 0)))) (λc=>(Ã 0))))))) ?_
 rintro ds P ⟨n,us,v,rfl,j,a,h,ok,hv,q⟩;refine⟨[.im (au n us),.im (.int ((v:Nat):Int)),.any],?_,?_⟩
 ·show [cg (au n us),.im (.int ((v:Nat):Int)),.any]=_;rw[iG]
 refine⟨n,us,_,rfl,(),(),?_⟩;refine⟨.int n,rfl,.tuple (us.map pD),rfl,jr us pD (λt=>!decide (((v:Nat):Int)=t.1\/((v:Nat):Int)=t.2)) pD .imm rfl () (λt ht A B hA hB=>?_) ?_⟩
 ·refine⟨rfl,rfl,?_⟩;show if(!([Â t.1,.int t.2].any λe=>å e (.int ((v:Nat):Int))))=true then _ else _
  rw[gO];cases h1:decide (((v:Nat):Int)=t.1\/((v:Nat):Int)=t.2)with
  |true=>exact aD (A:=True) (hB (by rw[h1];rfl))
  |false=>exact aB (B:=True) ⟨rfl,hA (by rw[h1];rfl)⟩
 refine⟨zK,iB (s:=.im (au n (noV us ((v:Nat):Int)))) (by
  show stK none _ 2 (norm _ (au n (noV us ((v:Nat):Int)))) (au n (noV us ((v:Nat):Int)))=some (.im (au n (noV us ((v:Nat):Int))));rw[bL (mV n _)];rfl) ?_⟩
 have g:=Gy (RV us v) n.toNat n.toNat;refine⟨n,noV us ((v:Nat):Int),rfl,(),a,by have:=Ox us ((v:Nat):Int);lia,Tj ok _,jr (uy (RV us v) n.toNat n.toNat) iD (λl=>!decide (((v:Nat):Int)∈l)) iD .snw rfl () (λl hl A B hA hB=>?_) ?_⟩
 ·refine⟨rfl,ň l,?_⟩;show if(!((l.map Â).any λe=>å e (.int ((v:Nat):Int))))=true then _ else _
  rw[Č];cases h1:decide (((v:Nat):Int)∈l)with
  |true=>exact aD (A:=True) (hB (by rw[h1];rfl))
  |false=>exact aB (B:=True) ⟨rfl,hA (by rw[h1];rfl)⟩
 ·rw[Vi hv];exact⟨rfl,q⟩
def mG:(["part",aa,"v",aI]:List Str).Nodup:=⋯
def qu(F:Fun K cr cr (top 38) f fd)(B:Ĩ mg)(h:ĉ P w K mg base 5 cb [aa,"v"] (spD fPW)):FnOk P w K mg base CX0 6 f fd [aa,"v",aI] (spD fSW):=by
 refine okT F (N:=[aa,"v",aI]) zC (λhr nd=>Ö (Ü (Ñ (ř ["part"] rfl (Ċ (ù h hr (À (Ã 0) (À (Ã 1) Á)))) (λc=>(ß (i:=0) mG rfl zQ)) (λc=>(ŭ (Wr.gZ hr.units (Ã 3) (Ã 0)))) (λc=>(Ã 0))) È))) ?_;rintro ds P ⟨n,us,v,a,rfl,m,d,k,ok,hv,g,p,o,q⟩;refine⟨[.im (au n us),.im (.int ((v:Nat):Int)),.im (.int a)],dD rfl,?_⟩;let⟨r,b⟩:=Nt (n:=n.toNat) (us:=us) g () o;have s:=RP n.toNat us v;refine⟨n,us,v,rfl,m,d,k,ok,hv,jr (pwI n.toNat us v) iD (λl=>decide (a∈l)) iD .snw rfl () (λl hl A B hA hB=>?_) ?_⟩
 ·refine⟨rfl,ň l,?_⟩;show if((l.map Â).any λe=>å e (.int a))=true then _ else _
  rw[Č];exact d8 (λc=>⟨rfl,hA c⟩) (λc=>hB (Ę.mpr c))
 rw[b];exact⟨_,bJ (j:=0) rfl,rfl,q⟩
abbrev kA8(P w K mg base):=ĉ P w K mg base 6 cr [aa,"v",aI] (spD fSW)
def oJ(F:Fun K cc cc (top 39) f fd)(B:Ĩ mg)(l:kA8 P w K mg base):FnOk P w K mg base CX0 7 f fd [aa,aI,a6] (spD Ww):=by
 refine okT F (N:=[aa,aI,a6,"v","side"]) zC (λhr nd=>Ç (Ġ ð rfl (ģ B.range (À (Ñ (Ã 0) È) Á)) (ß (i:=3) nd rfl zQ) (Ç (ý (Ģ hr.units (Ã 3) (ï (À (Ã 1) (À (Ã 2) Á)))) (Ç (ê none (i:=4) nd rfl zQ (ù l hr (À (Ã 0) (À (Ã 3) (À (Ã 1) Á)))))
  (Ö (ý (Ģ hr.units (Ã 2) (Ã 4)) (Ö (Ü (ï (À ġ (À (Ã 3) (À (Ã 4) Á)))))) ä))) ä) (ç [3,4] ä)))
  (ç [3,4] (Ö (Ü Ŗ)))) ?_
 rintro ds P ⟨n,us,a,b,rfl,s,g,p,ok,j,k,b0,b1,q⟩;refine⟨[.im (au n us),.im (.int a),.im (.int b),.any,.any],dD rfl,?_⟩;generalize o:ppF n.toNat us a b (Þ n.toNat)=G at q;refine⟨.int n,rfl,⟨(),()⟩,rfl,λ(i:Nat) ρ=>ρ=[.im (au n us),.im (.int a),.im (.int b),.any,.any]/\ppF n.toNat us a b ((Þ n.toNat).drop i)=G,⟨rfl,o⟩,?_,?_⟩
 ·rintro i d ρ hd ⟨rfl,e⟩;let⟨hi,rfl⟩:=bR hd;have m:(Þ n.toNat).drop i=i::(Þ n.toNat).drop (i+1):=by
   rw[List.drop_eq_getElem_cons (by rw[č];lia),List.getElem_range]
  rw[m]at e;unfold ppF at e;have h:b∈rsI (adj us [] [((i:Nat):Int)]) n.toNat a↔Rt (adj us [] [((i:Nat):Int)]) a b:=by
   rw[cu];exact⟨λz=>z.2,λz=>⟨⟨b0,()⟩,z⟩⟩
  refine⟨zK,rfl,rfl,?_⟩;show if(!([Â a,.int b].any λe=>å e (.int (0+((i:Nat):Int)))))=true then _ else _
  rw[gO,Int.zero_add];by_cases c:((i:Nat):Int)=a\/((i:Nat):Int)=b
  ·rw[el (.inl c)]at e;rw[decide_eq_true c];exact aD (A:=True) ⟨rfl,e⟩
  ·rw[eg c];refine aB (B:=True) ⟨n,us,i,a,rfl,s,g,p,ok,hi,j,k,λz=>c (.inl z.symm),?_⟩;refine⟨rfl,ň _,?_⟩;show if(!(((rsI (adj us [] [((i:Nat):Int)]) n.toNat a).map Â).any λe=>å e (.int b)))=true then _ else _
   rw[Č];by_cases r:Rt (adj us [] [((i:Nat):Int)]) a b
   ·rw[el (.inr r)]at e;rw[decide_eq_true (h.mpr r)];exact aD (A:=True) ⟨rfl,e⟩
   ·rw[em (λz=>z.elim c r)]at e;rw[eg λz=>r (h.mp z)];rw[←e]at q;exact aB (B:=True) ⟨zK,rfl,q⟩
 ·rintro ρ ⟨rfl,e⟩;rw[Ŭ,List.drop_eq_nil_of_le (by rw[č];lia)]at e;have e:PyData.none=G:=e;rw[←e]at q;exact⟨rfl,q⟩
end
def enum_zip(us:List Tie):nC (us.map pD)=us.zipIdx.map λp=>Ŏ [.int ((p.2:Nat):Int),pD p.1]:=by
 refine List.ext_getElem? λi=>?_;rw[eG,à,à,List.getElem?_zipIdx];cases us[i]? with
 |none=>rfl
 |some t=>simp
def wo(us:List Tie)(F:List Int):List Tie:=(us.zipIdx.filter λp=>decide (((p.2:Nat):Int)∉F)).map (·.1)
def Dm{us:List Tie}{F:List Int}{t:Tie}:t∈wo us F↔∃k:Nat,us[k]?=some t/\((k:Nat):Int)∉F:=by
 unfold wo;rw[Ć];constructor
 ·rintro⟨⟨u,k⟩,h,rfl⟩;rw[æ]at h;exact⟨k,û.mp h.1,eh h.2⟩
 ·rintro⟨k,h,a⟩;exact⟨(t,k),æ.mpr ⟨û.mpr h,decide_eq_true a⟩,rfl⟩
def Jd(us:List Tie)(F:List Int):⇑(wo us F)<=⇑us:=by
 unfold wo;rw[Ä];have:=ā (λp:Tie×Nat=>decide (((p.2:Nat):Int)∉F)) us.zipIdx;rw[List.length_zipIdx]at this;exact this
def Qo{n:Int}{us:List Tie}{F:List Int}(h:OkN n us):OkN n (wo us F):=λt ht=>by
 let⟨k,e,_⟩:=Dm.mp ht;exact h t (Ê e)
def Je{us:List Tie}{F:List Int}{x y:Int}:(x,y)∈adj (wo us F) [] []↔(x,y)∈adj us F []:=by
 rw[GK,Dm,Dm,aN];constructor
 ·rintro(⟨k,e,h⟩|⟨k,e,h⟩)
  ·exact⟨k,.inl e,h,Ý⟩
  ·exact⟨k,.inr e,h,Ý⟩
 ·rintro⟨k,e|e,h,_⟩
  ·exact .inl ⟨k,e,h⟩
  ·exact .inr ⟨k,e,h⟩
def Qu{us:List Tie}{F:List Int}{a b:Int}:Rt (adj (wo us F) [] []) a b↔Rt (adj us F []) a b:=⟨Rt.mono λ⟨_,_⟩ h=>Je.mp h,Rt.mono λ⟨_,_⟩ h=>Je.mpr h⟩
def Uw:Option ((List Int×List Int)×(List Int×List Int))->D
 |none=>.none
 |some r=>.list [bK (some r.1),bK (some r.2)]
def ptF(n:Nat)(us:List Tie)(a b:Int):List Int->D
 |[]=>.none
 |k::r=>if RZ (adj us [k] []) a b=true then ptF n us a b r else .tuple [.str am,.int k,iD (rsI (adj us [k] []) n a)]
def InL.nil(arcs:List Tie):InL arcs []:=⟨Ğ _,(λi hi=>nomatch hi)⟩
theorem jB{n:Int}{arcs:List Tie}{a b:Int}(n0:0<=n)(d:⇑arcs<=200)(ok:OkA n arcs)(f:0<=a)(g:a<n):∀(k:Nat) {c:Int}{U V:List Int},InL arcs U->Flow arcs a b c U->aug n.toNat arcs a b k U=some V->InL arcs V/\Flow arcs a b (c+k) V
 |0,c,U,V,hU,h,e=>by
  cases e;exact⟨hU,by rw[show c+((0:Nat):Int)=c by lia];exact h⟩
 |k+1,c,U,V,hU,h,e=>by
  unfold aug at e;by_cases r:Rt (edg (lft arcs U)) a b
  ·let⟨P,K,hp,W,_,_⟩:=bw (kZ n0 d ok) f () r;rw[hp]at e;have:=jB n0 d ok f g k (Qs d) (tZ h W) e
   rwa [show c+1+((k:Nat):Int)=c+((k+1:Nat):Int) by lia]at this
  ·rw[Hh (kZ n0 d ok) f () r]at e;cases e
def fV{us:List Tie}{a:Int}{P K:List Int}{x:Int}{k:Int}(h:Wy (aF us) a P K x):k∉K->Rt (adj us [k] []) a x:=by
 induction h with
 |one=>exact λ_=>.refl _
 |@step P K p y j h hx hj ih =>
  intro hk;refine .step (ih λz=>hk (è _ z)) (aN.mpr ?_);let⟨i,e,ht⟩:=bO.mp hj;refine⟨i,ht,λz=>hk (ã _ ?_),Ý⟩;rw[É.mp z]at e;rw[←e];exact É.mpr rfl
def Ja{us:List Tie}{a:Int}{P K:List Int}{x:Int}(h:Wy (aF us) a P K x):∀k∈K,0<=k/\k<(⇑us:Int):=λk hk=>by
 let⟨p,y,h1,_⟩:=h.hop k hk;obtain⟨j,rfl,e|e⟩:=bO.mp h1
 ·have:=(Æ.mp e).1;lia
 ·have:=(Æ.mp e).1;lia
theorem wH{n:Nat}{us:List Tie}{a b:Int}:∀{K:List Int},(∀k∈K,0<=k/\k<(⇑us:Int))->(∃k∈K,¬Rt (adj us [k] []) a b)->∃k:Nat,k<⇑us/\¬Rt (adj us [((k:Nat):Int)] []) a b/\ptF n us a b K=.tuple [.str am,.int ((k:Nat):Int),iD (rsI (adj us [((k:Nat):Int)] []) n a)]
 |[],_,⟨k,hk,_⟩=>nomatch hk
 |k::r,hr,h=>by
  unfold ptF;by_cases e:Rt (adj us [k] []) a b
  ·rw[el (aL.mpr e)];refine wH (λj c=>hr j (Í _ c)) ?_;let⟨j,c,d⟩:=h;rcases Û.mp c with rfl|c
   ·exact er e d
   ·exact⟨j,c,d⟩
  ·rw[em λz=>e (aL.mp z)];have:=hr k Ó;refine⟨k.toNat,(),?_,?_⟩
   ·rw[show((k.toNat:Nat):Int)=k by lia];exact e
   ·rw[show((k.toNat:Nat):Int)=k by lia]
theorem wG{n:Nat}{us:List Tie}{a b:Int}:∀K:List Int,(norm .new (ptF n us a b K)).le .n0=true
 |[]=>rfl
 |k::r=>by
  unfold ptF;by_cases e:RZ (adj us [k] []) a b=true
  ·rw[el e];exact wG r
  ·rw[em e];rfl
def uO{us:List Tie}{a:Int}{P K:List Int}{x:Int}{v:Int}(h:Wy (aF us) a P K x):v∉P->Rt (adj us [] [v]) a x:=by
 induction h with
 |one=>exact λ_=>.refl _
 |@step P K p y j h hx hj ih =>
  intro hv;refine .step (ih λz=>hv (è _ z)) (aN.mpr ?_);let⟨i,e,ht⟩:=bO.mp hj;refine⟨i,ht,Ý,λz=>hv (ã _ ?_)⟩;rw[É.mp z];exact É.mpr rfl
def jn(n:Int)(T:Nat)(r:List Int×List Int):List Int×List Int:=(gA n r.1,gB T r.2)
def rE(n:Int)(us:List Tie)(a b:Int):Option ((List Int×List Int)×(List Int×List Int)):=match aug (2 * n).toNat (aG n a b us) a b 2 []with
 |none=>none
 |some U=>match bI (2 * n).toNat (alg (aG n a b us) U) a b with
  |none=>none
  |some c=>match bI (2 * n).toNat (alg (aG n a b us) (U.filter λi=>!decide (i∈c.2))) a b with
   |none=>none
   |some d=>some (jn n ⇑us c,jn n ⇑us d)
open Classical in
def byP(n:Int)(us:List Tie)(a b:Int):D:=if RZ (adj us [] []) a b=true then(match rE n us a b with
  |some r=>.tuple [.str ai,bK (some r.1),bK (some r.2)]
  |none=>if ppF n.toNat us a b (Þ n.toNat)=.none then(match bI n.toNat (aF us) a b with
    |some w=>ptF n.toNat us a b w.2
    |none=>.none)
   else ppF n.toNat us a b (Þ n.toNat))
 else .tuple [.str ah,iD (rsI (adj us [] []) n.toNat a)]
def uP{n:Int}{us:List Tie}{a b:Int}{U:List Int}(n0:0<=n)(ok:OkN n us)(f:0<=a)(u:a<n)(c:InL (aG n a b us) U)(h:Flow (aG n a b us) a b 2 U):∃r1 r2,bI (2 * n).toNat (alg (aG n a b us) U) a b=some r1/\bI (2 * n).toNat (alg (aG n a b us) (U.filter λi=>!decide (i∈r1.2))) a b=some r2/\Wy (alg (aG n a b us) U) a r1.1 r1.2 b/\Wy (alg (aG n a b us) (U.filter λi=>!decide (i∈r1.2))) a r2.1 r2.2 b/\(⇑r1.1<=(2 * n).toNat/\⇑r1.2<=(2 * n).toNat)/\⇑r2.1<=(2 * n).toNat/\⇑r2.2<=(2 * n).toNat:=by
 let⟨j,d,s,e,q,o⟩:=bw (pQ (n:=2 * n) () (nM ok) c) f () (nA ∅ h);have m:=vC c h e;let⟨k,g,t,l,r,p⟩:=bw (pQ (n:=2 * n) () (nM ok) (gR (K:=d) c)) f () (nA ∅ m);exact⟨(j,d),(k,g),s,t,e,l,⟨q,o⟩,r,p⟩
def Nb(n:Int)(us:List Tie)(a b:Int)(d:D):Prop :=
 (¬Rt (adj us [] []) a b/\d=.tuple [.str ah,iD (rsI (adj us [] []) n.toNat a)])∨
 (Rt (adj us [] []) a b/\∃v:Nat,((v:Nat):Int)∈inn n a b/\¬Rt (adj us [] [((v:Nat):Int)]) a b/\d=.tuple [.str af,.int ((v:Nat):Int),iD (rsI (adj us [] [((v:Nat):Int)]) n.toNat a)])∨
 (Rt (adj us [] []) a b/\(∀v∈inn n a b,Rt (adj us [] [v]) a b)/\∃k:Nat,k<⇑us/\¬Rt (adj us [((k:Nat):Int)] []) a b/\d=.tuple [.str am,.int ((k:Nat):Int),iD (rsI (adj us [((k:Nat):Int)] []) n.toNat a)])∨
 (Rt (adj us [] []) a b/\(∀v∈inn n a b,Rt (adj us [] [v]) a b)/\(∀k:Nat,Rt (adj us [((k:Nat):Int)] []) a b)/\∃w1 w2:List Int×List Int,Wy (aF us) a w1.1 w1.2 b/\Wy (aF us) a w2.1 w2.2 b/\(∀k∈w1.2,k∉w2.2)/\(∀v∈w1.1,v∈w2.1->v=a\/v=b)/\d=.tuple [.str ai,bK (some w1),bK (some w2)])
theorem lQ{n:Nat}{us:List Tie}{a b:Int}:∀l:List Nat,(ppF n us a b l=.none/\∀v∈l,(((v:Nat):Int)=a\/((v:Nat):Int)=b)\/Rt (adj us [] [((v:Nat):Int)]) a b)\/∃v∈l,¬(((v:Nat):Int)=a\/((v:Nat):Int)=b)/\¬Rt (adj us [] [((v:Nat):Int)]) a b/\ppF n us a b l=.tuple [.str af,.int ((v:Nat):Int),iD (rsI (adj us [] [((v:Nat):Int)]) n a)]
 |[]=>.inl ⟨rfl,(λv hv=>nomatch hv)⟩
 |v::r=>by
  by_cases c:(((v:Nat):Int)=a\/((v:Nat):Int)=b)\/Rt (adj us [] [((v:Nat):Int)]) a b
  ·have e:ppF n us a b (v::r)=ppF n us a b r:=by
    conv=>lhs;unfold ppF
    exact el c
   rw[e];rcases lQ r with⟨h1,h2⟩|⟨u,hu,h⟩
   ·refine .inl ⟨h1,λu hu=>?_⟩;rcases Û.mp hu with rfl|hu
    ·exact c
    ·exact h2 u hu
   ·exact .inr ⟨u,Í _ hu,h⟩
  ·refine .inr ⟨v,Ó,λz=>c (.inl z),λz=>c (.inr z),?_⟩;unfold ppF;exact em c
def MF{n:Int}{us:List Tie}{a b:Int}(n0:0<=n)(I:n<=50)(R:⇑us<=60)(ok:OkN n us)(d:0<=a)(j:a<n)(b1:b<n):Nb n us a b (byP n us a b):=by
 unfold byP;have Q:=xT n a b;have s:⇑(aG n a b us)<=200:=by rw[pN];lia
 have f:=nM (a:=a) (b:=b) ok;by_cases r:Rt (adj us [] []) a b
 ·rw[el (aL.mpr r)];let⟨PW,N,H,W,_,_⟩:=bw (dN n0 (():⇑us<=100) ok) d () (iY.mpr r);cases c:aug (2 * n).toNat (aG n a b us) a b 2 []with
  |none =>
   have e:rE n us a b=none:=by unfold rE;rw[c]
   rw[e,H];let⟨O,C,t,g,_⟩:=bw (kZ (n:=2 * n) (U:=[]) () s f) d () (by have:=Jz (b:=b) ok r;rwa [Vz]at this);have E:=tZ (gH (aG n a b us) a b) g;have J:¬Rt (edg (lft (aG n a b us) (sd ⇑(aG n a b us) [] C))) a b:=λm=>by
    let⟨P,M,u,_⟩:=bw (kZ (n:=2 * n) () s f) d () m;unfold aug at c;rw[t]at c;dsimp only at c;unfold aug at c;rw[u]at c;cases c
   have D:=Mv ok (by simpa using E) J;rcases lQ (n:=n.toNat) (us:=us) (a:=a) (b:=b) (Þ n.toNat)with⟨h1,h2⟩|⟨v,hv,h1,h2,G⟩
   ·have h:∀v∈inn n a b,Rt (adj us [] [v]) a b:=λv hv=>by
     let⟨⟨S,T⟩,w,x⟩:=bB.mp hv;have:=h2 v.toNat (Ď.mpr ());rw[show((v.toNat:Nat):Int)=v by lia]at this;exact this.elim (λz=>(z.elim w x).elim) id
    refine .inr (.inr (.inl ⟨r,h,?_⟩));rw[el h1];rcases D with⟨v,hv,K⟩|⟨k,hk,y⟩
    ·exact er (h v hv) K
    ·refine wH (Ja W) ⟨_,?_,y⟩;exact Classical.byContradiction λz=>y (fV W z)
   ·refine .inr (.inl ⟨r,v,bB.mpr ⟨⟨(),by have:=Ď.mp hv;lia⟩,λz=>h1 (.inl z),λz=>h1 (.inr z)⟩,h2,?_⟩);rw[G];exact em (λz=>nomatch z)
  |some U =>
   let⟨i,F⟩:=jB (n:=2 * n) () s f d () 2 (InL.nil _) (gH _ a b) c;let⟨l,m,t,u,g,q,_⟩:=uP n0 ok d j i (by simpa using F);have e:rE n us a b=some (jn n ⇑us l,jn n ⇑us m):=by
    unfold rE;rw[c];dsimp only;rw[t];dsimp only;rw[u]
   rw[e];have L:piN n b=b:=el b1;have o:=qF ok ⟨d,j⟩ i g;have p:=qF ok ⟨d,j⟩ (gR i) q;rw[L]at o p;have A:=rB ok i g q;have B:=Jf ok ⟨d,j⟩ i g q;refine .inr (.inr (.inr ⟨r,λv hv=>?_,λk=>?_,jn n ⇑us l,jn n ⇑us m,o,p,B,A,rfl⟩))
   ·let⟨_,w,x⟩:=bB.mp hv;by_cases h1:v∈gA n l.1
    ·exact uO p λh2=>(A v h1 h2).elim w x
    ·exact uO o h1
   ·by_cases h1:((k:Nat):Int)∈gB ⇑us l.2
    ·exact fV p (B _ h1)
    ·exact fV o h1
 ·rw[em λz=>r (aL.mp z)];exact .inl ⟨r,rfl⟩
def fWo:FF:=λds P=>∃n us F,ds=[au n us,iD F]/\⇑us<=100/\P (au n (wo us F))
def QX:FF:=λds P=>∃n us a b w,ds=[au n us,.int a,.int b]/\1<=n/\n<=60/\⇑us<=100/\OkN n us/\0<=a/\a<n/\0<=b/\b<n/\bI n.toNat (aF us) a b=some w/\P (ptF n.toNat us a b w.2)
def WT:FF:=λds P=>∃n us a b,ds=[au n us,.int a,.int b]/\0<=n/\n<=50/\⇑us<=60/\P (.list ((aG n a b us).map pD))
def fJA:FF:=λds P=>∃n us l k,ds=[au n us,iD l,iD k]/\⇑us<=60/\⇑l<=200/\⇑k<=200/\P (bK (some (jn n ⇑us (l,k))))
def Wt:FF:=λds P=>∃n us a b,ds=[au n us,.int a,.int b]/\0<=n/\n<=50/\⇑us<=60/\OkN n us/\0<=a/\a<n/\P (Uw (rE n us a b))
def WQ:FF:=λds P=>∃n us a b,ds=[au n us,.int a,.int b]/\1<=n/\n<=50/\⇑us<=60/\OkN n us/\0<=a/\a<n/\0<=b/\b<n/\a≠b/\P (byP n us a b)
def M5{i r:Nat}{a:DE}{P:DEnds}{ρ:List Sl}{ds:List D}(hs:ρ[i]?=some (.dw r (.list ds)))(h:a ρ λk d=>(norm k d).le .new=true/\⇑ds<1000/\P.nx ((forget r ρ).set i (.dw r (.list (ds++[d]))))):Eh i a P ρ:=by
 unfold Eh;rw[hs];exact h
def T5:DE:=kh (aQ (Rx (cH (t2 (gIn false) (t2 gIx (tV 6) (tK (Â 0))) (kh (aQ (tV 1) (aQ (tV 2) dX))))) (t2 gIx (tV 6) (tK (Â 0))) (t2 p8 (t2 gIx (tV 6) (tK (Â 0))) (tV 3))) (aQ (t2 gIx (tV 6) (tK (Â 1))) dX))
def La{n a b:Int}{us:List Tie}(L:List D)(t h:Tie)(R:DK)(q:R .imm (pD (oN n a b h.1,h.2))):T5 [.im (au n us),.im (.int a),.im (.int b),.im (.int n),.dw 0 (.list L),.im (pD t),.im (pD h)] R:=by
 refine⟨.int h.1,rfl,zK,rfl,rfl,?_⟩;show if([Â a,.int b].any λe=>å e (.int h.1))=true then _ else _
 rw[gO];unfold oN at q;by_cases c:h.1=a\/h.1=b
 ·rw[el c]at q;rw[decide_eq_true c];exact aB (B:=True) ⟨.int h.1,rfl,.int h.2,rfl,zK,q⟩
 ·rw[em c]at q;rw[eg c];exact aD (A:=True) ⟨.int h.1,rfl,.int h.2,rfl,zK,q⟩
theorem Gj:∀us:List Tie,cC (us.map pD)=true
 |[]=>rfl
 |_::us=>Gj us
section
variable{P:Za}{w:Zb}{K:á}{mg:Str->Option Value}{base:Zg}{f:Addr}{fd:Yc}
def fG:([bg,am,aa,d6]:List Str).Nodup:=⋯
def qp(F:Fun K cv cv (top 22) f fd)(B:Ĩ mg)(b:mg cz=none):FnOk P w K mg base CX0 1 f fd [aa,d6] (spD fWo):=by
 refine okT F (N:=[aa,d6]) zC (λhr nd=>Ö (Ü (ï (À (Ñ (Ã 0) È) (À (Wr.lV B.tuple (À (ř [bg,am] rfl (Wr.nF b (À (Ñ (Ã 0) È) Á)) (λc=>(Wr.dW (n:=2) rfl (ċ (ß (i:=0) fG rfl zQ) (ċ (ß (i:=1) fG rfl zQ) ů)))) (λc=>(ŭ (Ģ hr.units (Ã 0) (Ã 3)))) (λc=>(Ã 1))) Á)) Á))))) ?_;rintro ds P ⟨n,us,F,rfl,d,q⟩;refine⟨[.im (au n us),.sh (iD F)],dD rfl,?_⟩;refine⟨.int n,rfl,.tuple (us.map pD),rfl,?_⟩;refine jr us.zipIdx (λp=>Ŏ [.int ((p.2:Nat):Int),pD p.1]) (λp=>decide (((p.2:Nat):Int)∉F)) (λp=>pD p.1) .imm (enum_zip us) (by rw[List.length_zipIdx];lia) ?_ ?_
 ·rintro⟨t,k⟩ hk A B h1 h2;refine⟨rfl,rfl,ň F,?_⟩;show if(!((F.map Â).any λe=>å e (.int ((k:Nat):Int))))=true then _ else _
  rw[Č];by_cases a:((k:Nat):Int)∈F
  ·rw[decide_eq_true a];exact aD (A:=True) (h2 (eg λz=>z a))
  ·rw[eg a];exact aB (B:=True) ⟨rfl,h1 (decide_eq_true a)⟩
 ·have e:((us.zipIdx.filter λp=>decide (((p.2:Nat):Int)∉F)).map λp=>pD p.1)=(wo us F).map pD:=by
   unfold wo;rw[Ė];rfl
  show _/\_/\P (.tuple [.int n,.tuple ((us.zipIdx.filter λp=>decide (((p.2:Nat):Int)∉F)).map λp=>pD p.1)]);rw[e];refine⟨zK,?_,q⟩;show(norm _ (au n (wo us F))).le .n0=true;rw[bL (mV _ _)];rfl
abbrev kA9(P w K mg base):=ĉ P w K mg base 1 cv [aa,d6] (spD fWo)
def sU(F:Fun K dm dm (top 32) f fd)(B:Ĩ mg)(p:ĉ P w K mg base 5 "way" [aa,aI,a6] (spD Wo))(o:kA7 P w K mg base)(m:kA9 P w K mg base):FnOk P w K mg base CX0 6 f fd [aa,aI,a6] (spD QX):=by
 refine okT F (N:=[aa,aI,a6,bg,"side"]) zC (λhr nd=>Ç (Ġ ð rfl (Ċ (Ñ (ù p hr (À (Ã 0) (À (Ã 1) (À (Ã 2) Á)))) È)) (ß (i:=3) nd rfl zQ) (Ç (ê none (i:=4) nd rfl zQ (ù o hr (À (ù m hr (À (Ã 0) (À (ø (À (Ã 3) Á)) Á))) (À (Ã 1) Á))))
  (Ç (ý (Ģ hr.units (Ã 2) (Ã 4)) (Ö (Ü (ï (À ġ (À (Ã 3) (À (Ã 4) Á)))))) ä) (ç [3,4] ä))))
  (ç [3,4] (Ö (Ü Ŗ)))) ?_
 rintro ds P ⟨n,us,a,b,w,rfl,n0,c,j,ok,g,h,b0,b1,v,q⟩;refine⟨[.im (au n us),.im (.int a),.im (.int b),.any,.any],dD rfl,?_⟩;generalize u:ptF n.toNat us a b w.2=G at q;refine⟨n,us,a,b,rfl,(),c,j,ok,g,h,b0,b1,?_⟩;rw[v];refine⟨iD w.2,rfl,rfl,λ(i:Nat) ρ=>ρ=[.im (au n us),.im (.int a),.im (.int b),.any,.any]/\ptF n.toNat us a b (w.2.drop i)=G,⟨rfl,u⟩,?_,?_⟩
 ·rintro i d ρ hd ⟨rfl,e⟩;let⟨k,hk,rfl⟩:=d7 hd;have s:w.2.drop i=k::w.2.drop (i+1):=by
   have hi:=(Æ.mp hk).1;rw[List.drop_eq_getElem_cons hi,(Æ.mp hk).2]
  rw[s]at e;unfold ptF at e;have y:=Jd us [k];have t:rsI (adj (wo us [k]) [] []) n.toNat a=rsI (adj us [k] []) n.toNat a:=Fp λx=>Qu;refine⟨zK,n,us,[k],rfl,j,n,wo us [k],a,rfl,(),c,(),Qo ok,g,h,?_⟩;rw[t];refine⟨rfl,ň _,?_⟩;show if(!(((rsI (adj us [k] []) n.toNat a).map Â).any λe=>å e (.int b)))=true then _ else _
  rw[Č];have l:b∈rsI (adj us [k] []) n.toNat a↔Rt (adj us [k] []) a b:=by
   rw[cu];exact⟨λz=>z.2,λz=>⟨⟨b0,()⟩,z⟩⟩
  by_cases r:Rt (adj us [k] []) a b
  ·rw[decide_eq_true (l.mpr r)];rw[el (aL.mpr r)]at e;exact aD (A:=True) ⟨rfl,e⟩
  ·rw[eg λz=>r (l.mp z)];rw[em λz=>r (aL.mp z)]at e;rw[←e]at q;exact aB (B:=True) ⟨zK,rfl,q⟩
 ·rintro ρ ⟨rfl,e⟩;rw[Ä,List.drop_length]at e;have e:PyData.none=G:=e;rw[←e]at q;exact⟨rfl,q⟩
def j4:(["v",aa,aI,a6,"n",ay,am,"hop"]:List Str).Nodup:=⋯
def mj(F:Fun K bE bE (top 35) f fd)(B:Ĩ mg):FnOk P w K mg base CX0 1 f fd [aa,aI,a6] (spD WT):=by
 refine okT F (N:=[aa,aI,a6,"n",ay,am,"hop"]) zC (λhr nd=>Ç (ê none (i:=3) nd rfl zQ (Ñ (Ã 0) È))
  (Ç (ê (some 0) (i:=4) nd rfl zQ (ø Á))
  (Ç (Ġ ð rfl (Ċ (Ñ (Ã 0) È)) (ß (i:=5) nd rfl zQ) (Ç (Ġ ð rfl (Ċ (ï (À (Ã 5) (À (ï (À (Ñ (Ã 5) È) (À (Ñ (Ã 5) È) Á))) Á)))) (ß (i:=6) nd rfl zQ) (Ç (Œ (ĵ 4) (À (ï (À (Wr.lX (Wr.gZ hr.units (Ñ (Ã 6) È) (ï (À (Ã 1) (À (Ã 2) Á)))) (Ñ (Ã 6) È) (Ō (Ñ (Ã 6) È) (Ã 3))) (À (Ñ (Ã 6) È) Á))) Á)) (ç [6] ä))) (ç [5,6] ä)))
  (ç [5,6] (Ö (Ü (Ō (Ã 4) (ř ["v"] rfl (ģ B.range (À (Ã 3) Á)) (λc=>(ß (i:=0) j4 rfl zQ)) (λc=>(ŭ (Ģ hr.units (Ã 0) (ï (À (Ã 2) (À (Ã 3) Á)))))) (λc=>(ï (À (Ã 0) (À (Ō (Ã 0) (Ã 4)) Á)))))))))))) ?_
 rintro ds P ⟨n,us,a,b,rfl,n0,p,o,q⟩;refine⟨[.im (au n us),.im (.int a),.im (.int b),.any,.any,.any,.any],dD rfl,?_⟩;refine⟨.int n,rfl,zK,.tuple (us.map pD),rfl,rfl,λ(i:Nat) ρ=>ρ=[.im (au n us),.im (.int a),.im (.int b),.im (.int n),.dw 0 (.list ((bW n a b (us.take i)).map pD)),.any,.any],rfl,?_,?_⟩
 ·rintro i d ρ hd rfl;let⟨t,ht,rfl⟩:=d7 hd;have hi:=(Æ.mp ht).1;have tk:us.take (i+1)=us.take i++[t]:=by rw[ĕ,ht];rfl
  have l:=dG n a b (us.take i);rw[ć]at l;have g:(bW n a b (us.take (i+1))).map pD=(bW n a b (us.take i)).map pD++[pD (oN n a b t.1,t.2)]++[pD (oN n a b t.2,t.1)]:=by
   unfold bW;rw[tk,List.flatMap_append,ì,ĩ];rfl
  refine⟨.int t.2,rfl,.int t.1,rfl,zK,zK,rfl,λ(j:Nat) ρ=>ρ=[.im (au n us),.im (.int a),.im (.int b),.im (.int n),.dw 0 (.list ((bW n a b (us.take i)).map pD++([(oN n a b t.1,t.2),(oN n a b t.2,t.1)].take j).map pD)),.im (pD t),.any],?_,?_,?_⟩
  ·show [_,_,_,_,Sl.dw 0 (.list ((bW n a b (us.take i)).map pD)),_,_]=[_,_,_,_,Sl.dw 0 (.list ((bW n a b (us.take i)).map pD++[])),_,_]
   rw[Ĕ];rfl
  ·rintro j d ρ hd rfl;have h:⇑((bW n a b (us.take i)).map pD)=⇑(bW n a b (us.take i)):=Ä ..;match j,hd with
   |0,hd =>
    have hd:pD t=d:=Ô hd;subst hd;show Dl.iR (Eh 4 T5) (pJ [6] nG) _ [.im (au n us),.im (.int a),.im (.int b),.im (.int n),.dw 0 (.list ((bW n a b (us.take i)).map pD++[])),.im (pD t),.im (pD t)];refine M5 rfl (La _ t t _ ?_);refine⟨rfl,?_,?_⟩
    ·show((bW n a b (us.take i)).map pD++[]).length<1000;rw[Ĕ];lia
    ·show [_,_,_,_,Sl.dw 0 (.list ((bW n a b (us.take i)).map pD++[]++[pD (oN n a b t.1,t.2)])),_,_]=[_,_,_,_,Sl.dw 0 (.list ((bW n a b (us.take i)).map pD++[pD (oN n a b t.1,t.2)])),_,_]
     rw[Ĕ];rfl
   |1,hd =>
    have hd:pD (t.2,t.1)=d:=Ô hd;subst hd;show Dl.iR (Eh 4 T5) (pJ [6] nG) _ [.im (au n us),.im (.int a),.im (.int b),.im (.int n),.dw 0 (.list ((bW n a b (us.take i)).map pD++[pD (oN n a b t.1,t.2)])),.im (pD t),.im (pD (t.2,t.1))];refine M5 rfl (La _ t (t.2,t.1) _ ?_);refine⟨rfl,?_,?_⟩
    ·show((bW n a b (us.take i)).map pD++[pD (oN n a b t.1,t.2)]).length<1000;rw[Ð,í];lia
    ·show [_,_,_,_,Sl.dw 0 (.list ((bW n a b (us.take i)).map pD++[pD (oN n a b t.1,t.2)]++[pD (oN n a b t.2,t.1)])),_,_]=[_,_,_,_,Sl.dw 0 (.list ((bW n a b (us.take i)).map pD++[pD (oN n a b t.1,t.2),pD (oN n a b t.2,t.1)])),_,_]
     rw[ĩ];rfl
   |j+2,hd=>cases hd
  ·rintro ρ rfl;show [_,_,_,_,Sl.dw 0 (.list ((bW n a b (us.take i)).map pD++[pD (oN n a b t.1,t.2),pD (oN n a b t.2,t.1)])),_,_]=[_,_,_,_,Sl.dw 0 (.list ((bW n a b (us.take (i+1))).map pD)),_,_]
   rw[g,ĩ];rfl
 ·rintro ρ rfl;rw[Ä,ğ];have l:=dG n a b us;have h:⇑((bW n a b us).map pD)=⇑(bW n a b us):=Ä ..;refine⟨⟨(),()⟩,jr (Þ n.toNat) (λv=>Â (0+((v:Nat):Int))) (λv=>!decide (0+((v:Nat):Int)=a\/0+((v:Nat):Int)=b)) (λv=>pD (0+((v:Nat):Int),0+((v:Nat):Int)+n)) .imm rfl (by rw[č];lia) (λv hv A B hA hB=>?_) ?_⟩
  ·refine⟨zK,rfl,rfl,?_⟩;show if(!([Â a,.int b].any λe=>å e (.int (0+((v:Nat):Int)))))=true then _ else _
   rw[gO];exact d8 (λc=>⟨zK,rfl,hA c⟩) (λc=>hB (Ę.mpr c))
  have e:((Þ n.toNat).filter λv=>!decide (0+((v:Nat):Int)=a\/0+((v:Nat):Int)=b)).map (λv=>pD (0+((v:Nat):Int),0+((v:Nat):Int)+n))=((inn n a b).map λv=>(v,v+n)).map pD:=by
   unfold inn zI;rw[List.filter_map,Ė,Ė];rfl
  rw[e];have m:=xT n a b;refine⟨?_,?_⟩
  ·show((bW n a b us).map pD).length+⇑(((inn n a b).map λv=>(v,v+n)).map pD)<=1000;have k:⇑(((inn n a b).map λv=>(v,v+n)).map pD)=⇑(inn n a b):=by rw[Ä,Ä]
   lia
  ·rw[←ì];exact .inl ⟨Gj _,rfl,q⟩
def mJ:(["node",aa,dC,a7,bb]:List Str).Nodup:=⋯
def mH:([bd,aa,dC,a7,bb]:List Str).Nodup:=⋯
def qx(F:Fun K cw cw (top 36) f fd)(B:Ĩ mg):FnOk P w K mg base CX0 1 f fd [aa,dC,a7] (spD fJA):=by
 refine okT F (N:=[aa,dC,a7,bb]) zC (λhr nd=>Ç (Wr.gJ none ["node"] (i:=3) rfl nd rfl zQ (Ċ (Ã 1)) (λc=>(ß (i:=0) mJ rfl zQ)) (λc=>(ŭ (Wr.rR (Ã 0) (Ñ (Ã 1) È)))) (λc=>(Ã 0)))
  (Ö (Ü (ï (À (Ã 3) (À (ř [bd] rfl (Ċ (Ã 2)) (λc=>(ß (i:=0) mH rfl zQ)) (λc=>(ŭ (Wr.rR (Ã 0) (Wr.fY È (ŧ B.len (À (Ñ (Ã 1) È) Á)))))) (λc=>(Wr.qP (Ã 0) È))) Á)))))) ?_
 rintro ds P ⟨n,us,l,k,rfl,g,d,b,q⟩;refine⟨[.im (au n us),.sh (iD l),.sh (iD k),.any],dD rfl,?_⟩;have a:⇑(us.map pD)=⇑us:=Ä ..;refine jr l Â (λx=>decide (x<n)) Â .imm rfl () (λx hx A B hA hB=>⟨.int n,rfl,d8 (λc=>⟨rfl,hA c⟩) (λc=>hB (Ę.mpr c))⟩) ?_;refine jr k Â (λi=>decide (i<2 * (⇑us:Int))) (λi=>Â (i / 2)) .imm rfl () (λi hi A B hA hB=>?_) ?_
 ·refine⟨.tuple (us.map pD),rfl,.inl ⟨∅,∅⟩,?_⟩;show if decide (i<2 * (⇑(us.map pD):Int))=true then _ else _
  rw[a];exact d8 (λc=>⟨⟨∅,∅⟩,rfl,hA c⟩) (λc=>hB (Ę.mpr c))
 have e:(k.filter λi=>decide (i<2 * (⇑us:Int))).map (λi=>Â (i / 2))=(gB ⇑us k).map Â:=by
  unfold gB;rw[Ė];rfl
 rw[e];exact⟨zK,rfl,q⟩
def fj:([dC,a7,aa,aI,a6,ay,az]:List Str).Nodup:=⋯
abbrev V9(P w K mg base):=ĉ P w K mg base 2 dl [ax,ay,bc,bz] (spD Wq)
abbrev V8(P w K mg base):=ĉ P w K mg base 2 dS [ax,ay,az,bc,bz] (spD WW)
def oE(F:Fun K cf cf (top 37) f fd)(B:Ĩ mg)(C:ĉ P w K mg base 1 bE [aa,aI,a6] (spD WT))(y:V9 P w K mg base)(z:V8 P w K mg base)(D:ĉ P w K mg base 1 cw [aa,dC,a7] (spD fJA)):FnOk P w K mg base CX0 3 f fd [aa,aI,a6] (spD Wt):=by
 refine okT F (N:=[aa,aI,a6,ay,az]) zC (λhr nd=>Ç (ê none (i:=3) nd rfl zQ (ù C hr (À (Ã 0) (À (Ã 1) (À (Ã 2) Á)))))
  (Ç (ê none (i:=4) nd rfl zQ (ù y hr (À (Wr.fY È (Ñ (Ã 0) È)) (À (Ã 3) (À (Ã 1) (À (Ã 2) Á))))))
  (Ç (ý (Wr.gY (Ã 4) Ŗ) (Ö (Ü Ŗ)) ä)
  (Ö (Ü (ř [dC,a7] rfl (Ċ (ù z hr (À (Wr.fY È (Ñ (Ã 0) È)) (À (Ã 3) (À (Ã 4) (À (Ã 1) (À (Ã 2) Á))))))) (λc=>(Wr.dW (n:=2) rfl (ċ (ß (i:=0) fj rfl zQ) (ċ (ß (i:=1) fj rfl zQ) ů)))) (λc=>ō) (λc=>(ù D hr (À (Ã 2) (À (Ã 0) (À (Ã 1) Á))))))))))) ?_
 rintro ds P ⟨n,us,a,b,rfl,n0,l,t,ok,g,x,q⟩;refine⟨[.im (au n us),.im (.int a),.im (.int b),.any,.any],dD rfl,?_⟩;have I:=xT n a b;have k:⇑(aG n a b us)<=200:=by rw[pN];lia
 have d:=nM (a:=a) (b:=b) ok;refine⟨n,us,a,b,rfl,n0,l,t,.int n,rfl,.inl ⟨∅,∅⟩,2 * n,aG n a b us,a,b,rfl,(),(),k,d,g,(),?_⟩;cases j:aug (2 * n).toNat (aG n a b us) a b 2 []with
 |none =>
  have e:rE n us a b=none:=by unfold rE;rw[j]
  rw[e]at q;exact aB (B:=True) ⟨rfl,q⟩
 |some U =>
  let⟨p,E⟩:=jB (n:=2 * n) () k d g () 2 (InL.nil _) (gH _ a b) j;let⟨m,o,u,v,G,H,⟨M,J⟩,O,L⟩:=uP n0 ok g x p (by simpa using E);have e:rE n us a b=some (jn n ⇑us m,jn n ⇑us o):=by
   unfold rE;rw[j];dsimp only;rw[u];dsimp only;rw[v]
  rw[e]at q;refine aD (A:=True) ⟨.int n,rfl,.inl ⟨∅,∅⟩,2 * n,aG n a b us,U,a,b,m,o,rfl,(),(),k,d,p,g,(),u,v,?_⟩;refine tG [m,o] (λr=>bK (some r)) (λr=>bK (some (jn n ⇑us r))) .new rfl (by show 2<=1000;decide) (λr hr A B h=>aB (B:=True) ?_) ?_
  ·have s:⇑r.1<=200/\⇑r.2<=200:=by
    simp only[Û,Ý,or_false]at hr;rcases hr with rfl|rfl <;> lia
   exact⟨rfl,n,us,r.1,r.2,rfl,t,s.1,s.2,rfl,h⟩
  exact⟨rfl,q⟩
abbrev Pg(P w K mg base):=ĉ P w K mg base 5 bh [aa,aI,a6] (spD WM)
abbrev V7(P w K mg base):=ĉ P w K mg base 7 cc [aa,aI,a6] (spD Ww)
abbrev V6(P w K mg base):=ĉ P w K mg base 6 dm [aa,aI,a6] (spD QX)
def xq(F:Fun K dV dV (top 40) f fd)(B:Ĩ mg)(o:Pg P w K mg base)(m:kA7 P w K mg base)(t:ĉ P w K mg base 3 cf [aa,aI,a6] (spD Wt))(p:V7 P w K mg base)(s:V6 P w K mg base):FnOk P w K mg base CX0 8 f fd [aa,aI,a6] (spD WQ):=by
 refine okT F (N:=[aa,aI,a6,"side","found","shown"]) zC (λhr nd=>Ç (Ů (ù o hr (À (Ã 0) (À (Ã 1) (À (Ã 2) Á)))))
  (Ç (ê none (i:=3) nd rfl zQ (ù m hr (À (Ã 0) (À (Ã 1) Á))))
  (Ç (ý (Ģ hr.units (Ã 2) (Ã 3)) (Ö (Ü (ï (À ġ (À (Ã 3) Á))))) ä)
  (Ç (ê none (i:=4) nd rfl zQ (ù t hr (À (Ã 0) (À (Ã 1) (À (Ã 2) Á)))))
  (Ç (ý (Wr.gU (Ã 4) Ŗ) (Ö (Ü (ï (À ġ (À (Ñ (Ã 4) È) (À (Ñ (Ã 4) È) Á)))))) ä)
  (Ç (ê none (i:=5) nd rfl zQ (ù p hr (À (Ã 0) (À (Ã 1) (À (Ã 2) Á)))))
  (Ö (Ü (Wr.lX (Wr.gY (Ã 5) Ŗ) (ù s hr (À (Ã 0) (À (Ã 1) (À (Ã 2) Á)))) (Ã 5)))))))))) ?_
 rintro ds P ⟨n,us,a,b,rfl,n0,g,x,ok,c,d,b0,b1,y,q⟩;refine⟨[.im (au n us),.im (.int a),.im (.int b),.any,.any,.any],dD rfl,?_⟩;refine⟨n,us,a,b,rfl,c,d,b0,b1,y,n,us,a,rfl,(),(),(),ok,c,d,rfl,ň _,?_⟩;show if(!(((rsI (adj us [] []) n.toNat a).map Â).any λe=>å e (.int b)))=true then _ else _
 rw[Č];have l:b∈rsI (adj us [] []) n.toNat a↔Rt (adj us [] []) a b:=by
  rw[cu];exact⟨λz=>z.2,λz=>⟨⟨b0,()⟩,z⟩⟩
 unfold byP at q;by_cases r:Rt (adj us [] []) a b
 ·rw[decide_eq_true (l.mpr r)];rw[el (aL.mpr r)]at q;let⟨PW,h,k,W,_,_⟩:=bw (dN () (():⇑us<=100) ok) c () (iY.mpr r);refine aD (A:=True) ⟨n,us,a,b,rfl,(),g,x,ok,c,d,?_⟩;cases j:rE n us a b with
  |none =>
   rw[j,k]at q;refine aD (A:=True) ⟨n,us,a,b,rfl,n0,(),(),ok,c,d,b0,b1,?_⟩;rcases lQ (n:=n.toNat) (us:=us) (a:=a) (b:=b) (Þ n.toNat)with⟨h1,_⟩|⟨v,_,_,_,u⟩
   ·rw[h1]at q ⊢;rw[el rfl]at q;exact aB (B:=True) ⟨n,us,a,b,(PW,h),rfl,n0,(),(),ok,c,d,b0,b1,k,wG h,q⟩
   ·rw[u]at q ⊢;rw[em (λz=>nomatch z)]at q;exact aD (A:=True) ⟨rfl,q⟩
  |some R =>
   rw[j]at q;exact aB (B:=True) ⟨_,rfl,_,rfl,zK,rfl,q⟩
 ·rw[eg λz=>r (l.mp z)];rw[em λz=>r (aL.mp z)]at q;exact aB (B:=True) ⟨zK,rfl,q⟩
def Ni:((Þ 200).all λi=>decide (Builtin.bitXor ((i:Nat):Int) 1=prt ((i:Nat):Int)))=true:=⋯
def Nh{i:Int}(a:0<=i)(h1:i<200):Builtin.bitXor i 1=prt i:=by
 have:=Ħ.mp Ni i.toNat (Ď.mpr ());rw[show((i.toNat:Nat):Int)=i by lia]at this;exact eh this
def hlf(r:List Int×List Int):List Int×List Int:=(r.1,r.2.map λi=>i / 2)
def rD(n:Nat)(us:List Tie)(a b:Int):Option ((List Int×List Int)×(List Int×List Int)):=match aug n (aC us) a b 2 []with
 |none=>none
 |some U=>match bI n (alg (aC us) (gn U)) a b with
  |none=>none
  |some c=>match bI n (alg (aC us) ((gn U).filter λi=>!decide (i∈c.2))) a b with
   |none=>none
   |some d=>some (hlf c,hlf d)
def byD(n:Nat)(us:List Tie)(a b:Int):D:=if RZ (adj us [] []) a b=true then(match rD n us a b with
  |some r=>.tuple [.str ai,bK (some r.1),bK (some r.2)]
  |none=>match bI n (aF us) a b with
   |some w=>ptF n us a b w.2
   |none=>.none)
 else .tuple [.str ah,iD (rsI (adj us [] []) n a)]
def qW{arcs:List Tie}{U:List Int}(h:InL arcs U):InL arcs (gn U):=⟨ą (ā _ _) h.1,λi hi=>h.2 i (æ.mp hi).1⟩
def yM{n:Int}{us:List Tie}{a b:Int}{U:List Int}(n0:0<=n)(u:⇑us<=100)(ok:OkN n us)(e:0<=a)(t:a<n)(o:InL (aC us) U)(h:Flow (aC us) a b 2 U):∃r1 r2,bI n.toNat (alg (aC us) (gn U)) a b=some r1/\bI n.toNat (alg (aC us) ((gn U).filter λi=>!decide (i∈r1.2))) a b=some r2/\Wy (alg (aC us) (gn U)) a r1.1 r1.2 b/\Wy (alg (aC us) ((gn U).filter λi=>!decide (i∈r1.2))) a r2.1 r2.2 b/\⇑r1.2<=n.toNat/\⇑r2.2<=n.toNat:=by
 have f:=HW h;have h1:=qW o;let⟨j,c,r,d,_,p⟩:=bw (pQ n0 (nJ ok) h1) e () (nA ∅ f);have m:=vC h1 f d;let⟨k,g,s,l,_,q⟩:=bw (pQ n0 (nJ ok) (gR (K:=c) h1)) e () (nA ∅ m);exact⟨(j,c),(k,g),r,s,d,l,p,q⟩
def Iw{us:List Tie}{i:Int}(c:0<=i)(h1:i<(⇑(aC us):Int)):∃t,us[(i / 2).toNat]?=some t/\(aY (aC us) i=t\/aY (aC us) i=(t.2,t.1)):=by
 have l:=eU us;have hk:(i / 2).toNat<⇑us:=()
 have ht:=Ë hk;let⟨a,b⟩:=dF us _ ht;refine⟨_,ht,?_⟩;rcases Int.emod_two_eq i with e|e
 ·left;have:=cG a
  rwa [show((2 * (i / 2).toNat:Nat):Int)=i by lia]at this
 ·right;have:=cG b
  rwa [show((2 * (i / 2).toNat+1:Nat):Int)=i by lia]at this
def Et{us:List Tie}{a:Int}{N P K:List Int}{x:Int}(hN:InL (aC us) N)(h:Wy (alg (aC us) N) a P K x):Wy (aF us) a P (K.map λi=>i / 2) x:=by
 induction h with
 |one=>exact .one
 |@step P K p y k h hx j ih =>
  rw[ì];refine .step ih hx (bO.mpr ?_);let⟨h1,h2⟩:=dZ.mp j;let⟨d,f⟩:=hN.2 k h1;obtain⟨t,ht,e|e⟩:=Iw d f
  ·rw[h2]at e;refine⟨(k / 2).toNat,by show k / 2=_;lia,.inl ?_⟩;rw[ht,←e]
  ·rw[h2]at e;refine⟨(k / 2).toNat,by show k / 2=_;lia,.inr ?_⟩;have b:p=t.2:=et Prod.fst e;have c:y=t.1:=et Prod.snd e;rw[ht,b,c]
def Dt{arcs:List Tie}{U a f:List Int}(g:InL arcs U)(h1:∀i∈a,i∈gn U)(h2:∀i∈f,i∈(gn U).filter λi=>!decide (i∈a)):∀k∈a.map (λi=>i / 2),k∉f.map (λi=>i / 2):=λk hk hk2=>by
 let⟨i,hi,rfl⟩:=Ć.mp hk;let⟨j,m,e⟩:=Ć.mp hk2;let⟨l,d⟩:=æ.mp (h2 j m);have d:j∉a:=by simpa using d
 let⟨n,b⟩:=æ.mp (h1 i hi);have b:prt i∉U:=by simpa using b
 have h:=(æ.mp l).1;have o:i≠j:=λz=>d (z ▸ hi);have p:=g.2 i n;have q:=g.2 j h;have:prt i=j:=by
  unfold prt;by_cases c:i % 2=0
  ·rw[el c];lia
  ·rw[em c];lia
 rw[this]at b;exact b h
def Qn{arcs:List Tie}{N P K:List Int}{a x:Int}(h:Wy (alg arcs N) a P K x):∀i∈K,i∈N:=λi hi=>by
 let⟨p,y,h1,_⟩:=h.hop i hi;exact(dZ.mp h1).1
def Us(n:Nat)(us:List Tie)(a b:Int)(d:D):Prop :=
 (¬Rt (adj us [] []) a b/\d=.tuple [.str ah,iD (rsI (adj us [] []) n a)])∨
 (Rt (adj us [] []) a b/\∃k:Nat,k<⇑us/\¬Rt (adj us [((k:Nat):Int)] []) a b/\d=.tuple [.str am,.int ((k:Nat):Int),iD (rsI (adj us [((k:Nat):Int)] []) n a)])∨
 (Rt (adj us [] []) a b/\(∀k:Nat,Rt (adj us [((k:Nat):Int)] []) a b)/\∃w1 w2:List Int×List Int,Wy (aF us) a w1.1 w1.2 b/\Wy (aF us) a w2.1 w2.2 b/\(∀k∈w1.2,k∉w2.2)/\d=.tuple [.str ai,bK (some w1),bK (some w2)])
def Ci{us:List Tie}{a b:Int}(r:Rt (adj us [] []) a b):Rt (edg (lft (aC us) [])) a b:=Rt.mono (λ⟨x,y⟩ h=>by
 let⟨k,e,_⟩:=aN.mp h;rw[fJ];rcases e with e|e
 ·exact⟨_,cZ.mpr ⟨2 * k,rfl,.inr ⟨Ý,(dF us k e).1⟩⟩⟩
 ·exact⟨_,cZ.mpr ⟨2 * k+1,rfl,.inr ⟨Ý,(dF us k e).2⟩⟩⟩) r
def Rh{n:Int}{us:List Tie}{a b:Int}(n0:0<=n)(u:⇑us<=100)(ok:OkN n us)(f:0<=a)(s:a<n):Us n.toNat us a b (byD n.toNat us a b):=by
 unfold byD;have l:⇑(aC us)<=200:=by rw[eU];lia
 have d:=nJ ok;by_cases r:Rt (adj us [] []) a b
 ·rw[el (aL.mpr r)];refine .inr ?_;let⟨PW,F,C,W,_,_⟩:=bw (dN n0 u ok) f () (iY.mpr r);cases c:aug n.toNat (aC us) a b 2 []with
  |none =>
   left;have e:rD n.toNat us a b=none:=by unfold rD;rw[c]
   rw[e,C];refine⟨r,?_⟩;let⟨G,y,m,g,_⟩:=bw (kZ (U:=[]) n0 l d) f () (Ci r);have A:=tZ (gH (aC us) a b) g;have D:¬Rt (edg (lft (aC us) (sd ⇑(aC us) [] y))) a b:=λj=>by
    let⟨H,E,o,_⟩:=bw (kZ n0 l d) f () j;unfold aug at c;rw[m]at c;dsimp only at c;unfold aug at c;rw[o]at c;cases c
   let⟨k,hk,v⟩:=Qg (by simpa using A) D;refine wH (Ja W) ⟨_,?_,v⟩;exact Classical.byContradiction λz=>v (fV W z)
  |some U =>
   right;let⟨h,B⟩:=jB n0 l d f s 2 (InL.nil _) (gH _ a b) c;let⟨p,j,m,o,g,q,_⟩:=yM n0 u ok f s h (by simpa using B);have e:rD n.toNat us a b=some (hlf p,hlf j):=by
    unfold rD;rw[c];dsimp only;rw[m];dsimp only;rw[o]
   rw[e];have w:=Et (qW h) g;have x:=Et (gR (qW h)) q;have t:=Dt h (Qn g) (Qn q);refine⟨r,λk=>?_,hlf p,hlf j,w,x,t,rfl⟩;by_cases h1:((k:Nat):Int)∈p.2.map λi=>i / 2
   ·exact fV x (t _ h1)
   ·exact fV w h1
 ·rw[em λz=>r (aL.mp z)];exact .inl ⟨r,rfl⟩
def Ra:FF:=λds P=>∃n us,ds=[au n us]/\⇑us<=100/\P (.list ((aC us).map pD))
def Ws:FF:=λds P=>∃n us a b,ds=[au n us,.int a,.int b]/\0<=n/\n<=60/\⇑us<=100/\OkN n us/\0<=a/\a<n/\P (Uw (rD n.toNat us a b))
def fBy:FF:=λds P=>∃n us a b,ds=[au n us,.int a,.int b]/\1<=n/\n<=60/\⇑us<=100/\OkN n us/\0<=a/\a<n/\0<=b/\b<n/\a≠b/\P (byD n.toNat us a b)
def qy(F:Fun K cx cx (top 30) f fd)(B:Ĩ mg):FnOk P w K mg base CX0 1 f fd [aa] (spD Ra):=by
 refine okT F (N:=[aa,ay,am]) zC (λhr nd=>Ç (ê (some 0) (i:=1) nd rfl zQ (ø Á))
  (Ç (Ġ ð rfl (Ċ (Ñ (Ã 0) È)) (ß (i:=2) nd rfl zQ) (Ç (Œ (ĵ 1) (À (ï (À (Ñ (Ã 2) È) (À (Ñ (Ã 2) È) Á))) Á))
  (Ç (Œ (ĵ 1) (À (ï (À (Ñ (Ã 2) È) (À (Ñ (Ã 2) È) Á))) Á)) (ç [2] ä))))
  (ç [2] (Ö (Ü (Ã 1)))))) ?_
 rintro ds P ⟨n,us,rfl,b,q⟩;refine⟨[.im (au n us),.any,.any],dD rfl,?_⟩;refine⟨zK,.tuple (us.map pD),rfl,rfl,λ(i:Nat) ρ=>ρ=[.im (au n us),.dw 0 (.list ((aC (us.take i)).map pD)),.any],rfl,?_,?_⟩
 ·rintro i d ρ hd rfl;let⟨t,ht,rfl⟩:=d7 hd;have hi:=(Æ.mp ht).1;have tk:us.take (i+1)=us.take i++[t]:=by rw[ĕ,ht];rfl
  have l:=eU (us.take i);rw[ć]at l;have a:(aC (us.take (i+1))).map pD=(aC (us.take i)).map pD++[pD t]++[pD (t.2,t.1)]:=by
   unfold aC;rw[tk,List.flatMap_append,ì,ĩ];rfl
  refine⟨.int t.1,rfl,.int t.2,rfl,zK,rfl,by rw[Ä];lia,.int t.2,rfl,.int t.1,rfl,zK,rfl,by rw[Ð,Ä];show _+1<1000;lia,?_⟩;show [_,Sl.dw 0 (.list ((aC (us.take i)).map pD++[pD t]++[pD (t.2,t.1)])),_]=[_,Sl.dw 0 (.list ((aC (us.take (i+1))).map pD)),_]
  rw[a];rfl
 ·rintro ρ rfl;rw[Ä,ğ];exact⟨rfl,q⟩
def oO:([bd,aa,aI,a6,ay,az,"needed"]:List Str).Nodup:=⋯
def gw:([bb,a7,aa,aI,a6,ay,az,"needed"]:List Str).Nodup:=⋯
def oM:([bd,bb,a7,aa,aI,a6,ay,az,"needed"]:List Str).Nodup:=⋯
def sO(F:Fun K dn dn (top 31) f fd)(B:Ĩ mg)(y:ĉ P w K mg base 1 cx [aa] (spD Ra))(v:V9 P w K mg base)(x:V8 P w K mg base):FnOk P w K mg base CX0 3 f fd [aa,aI,a6] (spD Ws):=by
 refine okT F (N:=[aa,aI,a6,ay,az,"needed"]) zC (λhr nd=>Ç (ê none (i:=3) nd rfl zQ (ù y hr (À (Ã 0) Á)))
  (Ç (ê none (i:=4) nd rfl zQ (ù v hr (À (Ñ (Ã 0) È) (À (Ã 3) (À (Ã 1) (À (Ã 2) Á))))))
  (Ç (ý (Wr.gY (Ã 4) Ŗ) (Ö (Ü Ŗ)) ä)
  (Ç (Wr.gJ none [bd] (i:=5) rfl nd rfl zQ (Ċ (Ã 4)) (λc=>(ß (i:=0) oO rfl zQ)) (λc=>(ŭ (Ģ hr.units (Wr.Oi (Ã 0) È) (Ã 5)))) (λc=>(Ã 0)))
  (Ö (Ü (ř [bb,a7] rfl (Ċ (ù x hr (À (Ñ (Ã 0) È) (À (Ã 3) (À (Ã 5) (À (Ã 1) (À (Ã 2) Á))))))) (λc=>(Wr.dW (n:=2) rfl (ċ (ß (i:=0) gw rfl zQ) (ċ (ß (i:=1) gw rfl zQ) ů)))) (λc=>ō) (λc=>(ï (À (Ã 0) (À (ř [bd] rfl (Ċ (Ã 1)) (λc=>(ß (i:=0) oM rfl zQ)) (λc=>ō) (λc=>(Wr.qP (Ã 0) È))) Á))))))))))) ?_
 rintro ds P ⟨n,us,a,b,rfl,n0,E,s,ok,g,j,q⟩;refine⟨[.im (au n us),.im (.int a),.im (.int b),.any,.any,.any],dD rfl,?_⟩;have m:⇑(aC us)<=200:=by rw[eU];lia
 have d:=nJ ok;refine⟨n,us,rfl,s,.int n,rfl,n,aC us,a,b,rfl,n0,(),m,d,g,j,?_⟩;cases l:aug n.toNat (aC us) a b 2 []with
 |none =>
  have e:rD n.toNat us a b=none:=by unfold rD;rw[l]
  rw[e]at q;exact aB (B:=True) ⟨rfl,q⟩
 |some U =>
  let⟨k,C⟩:=jB n0 m d g j 2 (InL.nil _) (gH _ a b) l;let⟨o,p,t,u,G,H,I,J⟩:=yM n0 s ok g j k (by simpa using C);have e:rD n.toNat us a b=some (hlf o,hlf p):=by
   unfold rD;rw[l];dsimp only;rw[t];dsimp only;rw[u]
  rw[e]at q;refine aD (A:=True) ?_;refine jr U Â (λi=>!decide (prt i∈U)) Â .imm rfl (by have:=k.1;lia) (λi hi A B hA hB=>?_) ?_
  ·refine⟨rfl,ň U,?_⟩;show if(!((U.map Â).any λe=>å e (.int (Builtin.bitXor i 1))))=true then _ else _
   have:=k.2 i hi;rw[Č,Nh this.1 ()];exact d8 (λc=>⟨rfl,hA c⟩) (λc=>hB (Ę.mpr c))
  refine⟨.int n,rfl,n,aC us,gn U,a,b,o,p,rfl,n0,(),m,d,qW k,g,j,t,u,?_⟩;refine tG [o,p] (λr=>bK (some r)) (λr=>bK (some (hlf r))) .snw rfl (by show 2<=1000;decide) (λr hr A B h=>aB (B:=True) ?_) ?_
  ·have D:⇑r.2<=1000:=by
    simp only[Û,Ý,or_false]at hr;rcases hr with rfl|rfl <;> lia
   refine⟨rfl,tG r.2 Â (λi=>Â (i / 2)) .imm rfl D (λi hi A B h=>aB (B:=True) ⟨?_,rfl,h⟩) ⟨zK,?_,?_⟩⟩
   ·exact⟨∅,∅⟩
   ·rfl
   ·have z:(r.2.map λi=>Â (i / 2))=(r.2.map λi=>i / 2).map Â:=by
     rw[Ė];rfl
    show A (.tuple [iD r.1,.list (r.2.map λi=>Â (i / 2))]);rw[z];exact h
  exact⟨rfl,q⟩
def Dd(F:Fun K "by_ties" "by_ties" (top 33) f fd)(B:Ĩ mg)(p:Pg P w K mg base)(o:kA7 P w K mg base)(t:ĉ P w K mg base 3 dn [aa,aI,a6] (spD Ws))(s:V6 P w K mg base):FnOk P w K mg base CX0 7 f fd [aa,aI,a6] (spD fBy):=by
 refine okT F (N:=[aa,aI,a6,"side","found"]) zC (λhr nd=>Ç (Ů (ù p hr (À (Ã 0) (À (Ã 1) (À (Ã 2) Á)))))
  (Ç (ê none (i:=3) nd rfl zQ (ù o hr (À (Ã 0) (À (Ã 1) Á))))
  (Ç (ý (Ģ hr.units (Ã 2) (Ã 3)) (Ö (Ü (ï (À ġ (À (Ã 3) Á))))) ä)
  (Ç (ê none (i:=4) nd rfl zQ (ù t hr (À (Ã 0) (À (Ã 1) (À (Ã 2) Á)))))
  (Ç (ý (Wr.gY (Ã 4) Ŗ) (Ö (Ü (ù s hr (À (Ã 0) (À (Ã 1) (À (Ã 2) Á)))))) ä)
  (Ö (Ü (ï (À ġ (À (Ñ (Ã 4) È) (À (Ñ (Ã 4) È) Á))))))))))) ?_
 rintro ds P ⟨n,us,a,b,rfl,n0,c,h,ok,d,g,b0,b1,u,q⟩;refine⟨[.im (au n us),.im (.int a),.im (.int b),.any,.any],dD rfl,?_⟩;refine⟨n,us,a,b,rfl,d,g,b0,b1,u,n,us,a,rfl,(),c,h,ok,d,g,rfl,ň _,?_⟩;show if(!(((rsI (adj us [] []) n.toNat a).map Â).any λe=>å e (.int b)))=true then _ else _
 rw[Č];have m:b∈rsI (adj us [] []) n.toNat a↔Rt (adj us [] []) a b:=by
  rw[cu];exact⟨λz=>z.2,λz=>⟨⟨b0,()⟩,z⟩⟩
 unfold byD at q;by_cases r:Rt (adj us [] []) a b
 ·rw[decide_eq_true (m.mpr r)];rw[el (aL.mpr r)]at q;let⟨PW,j,l,W,_,_⟩:=bw (dN () h ok) d () (iY.mpr r);refine aD (A:=True) ⟨n,us,a,b,rfl,(),c,h,ok,d,g,?_⟩;cases k:rD n.toNat us a b with
  |none =>
   rw[k,l]at q;refine aB (B:=True) ⟨n,us,a,b,(PW,j),rfl,n0,c,h,ok,d,g,b0,b1,l,?_,q⟩;show(norm .new (ptF n.toNat us a b j)).le .n0=true;exact wG j
  |some R =>
   rw[k]at q;refine aD (A:=True) ⟨_,rfl,_,rfl,zK,rfl,q⟩
 ·rw[eg λz=>r (m.mp z)];rw[em λz=>r (aL.mp z)]at q;exact aB (B:=True) ⟨zK,rfl,q⟩
def toI:D->Int
 |.int i=>i
 |_=>0
def jT{n:Int}{d:D}(h:aK n d=true):∃i:Int,d=.int i:=by
 cases d with
 |int i=>exact⟨i,rfl⟩
 |_=>cases h
theorem ints_of{n:Int}:∀{a:List D},a.all (aK n)=true->a=(a.map toI).map Â
 |[],_=>rfl
 |d::a,h=>by
  rw[List.all_cons,Ì]at h;let⟨i,rfl⟩:=jT h.1;have:=ints_of h.2;rw[ò,ò,←this];rfl
def aW(l:List Int):(l.map Â).map toI=l:=by rw[Ė];exact List.map_id' l
def fL{α:Type}(l:List α):dO l none (some (-1))=l.dropLast:=by
 unfold dO;have a:HT.sIx ⇑l 0 none=0:=rfl;have b:HT.sIx ⇑l ⇑l (some (-1))=⇑l - 1:=by
  have e:HT.sIx ⇑l ⇑l (some (-1))=((-1:Int)+(⇑l:Int)).toNat:=rfl;rw[e];lia
 rw[a,b,List.drop_zero,Nat.sub_zero,List.dropLast_eq_take]
def uo{α:Type}(l:List α):dO l (some 1) none=l.drop 1:=by
 unfold dO;have a:HT.sIx ⇑l ⇑l none=⇑l:=rfl;have b:HT.sIx ⇑l 0 (some 1)=min 1 ⇑l:=HT.wB ⇑l 0 1;rw[a,b];rw[ő (by rw[ť];lia)];by_cases h:1<=⇑l
 ·rw[Nat.min_eq_left h]
 ·have:l=[]:=List.length_eq_zero_iff.mp ();subst this;rfl
def yF(a b:List Int):((a.map Â).zip (b.map Â)).map prD=(a.zip b).map pD:=by
 rw[List.zip_map,Ė];rfl
def mmT(t:Tie):Tie:=(if t.2<t.1 then t.2 else t.1,if t.2 > t.1 then t.2 else t.1)
def xG(l:List Int):Bool:=decide (⇑(once l)=⇑l)
def yW(n a b:Int):D->Bool
 |.list c=>!c.isEmpty&&c.all (aK n)&&decide ((c.map toI).head?=some a)&&decide ((c.map toI).getLast?=some b)&&xG (c.map toI)
 |_=>false
def Q8:FF:=λds P=>∃l:List Int,ds=[.list (l.map Â)]/\⇑l<=400/\P (.list ((l.dropLast.zip (l.drop 1)).map pD))
def sc7:FnScope [bb] [bb] (aH (top 19)):=zC
def Ou(F:Fun K "hops" "hops" (top 19) f fd)(B:Ĩ mg)(a:mg "zip"=none):FnOk P w K mg base CX0 1 f fd [bb] (spD Q8):=by
 refine F.ok sc7 mQ (λcdv A outer s H vs Q E hr h=>?_);refine⟨_,pC (pB (Cz rfl B.list a (eY (Ka (dv 0) jQ (dM (fP je))) (eY (Ka (dv 0) (dM je) jQ) jL)))),xV h ?_⟩;rintro ds P ⟨l,rfl,hl,q⟩;refine .inl ⟨?_,.inl ⟨?_,?_,.inl ⟨?_,rfl,?_⟩⟩⟩
 ·show cC (dO (l.map Â) none (some (-1)))=true;rw[fL,←List.map_dropLast];exact dg _
 ·show cC (dO (l.map Â) (some 1) none)=true;rw[uo,←List.map_drop];exact dg _
 ·show(dO (l.map Â) none (some (-1))).length<=1000;rw[fL,List.length_dropLast,Ä];lia
 ·show cC _=true;rw[fL,uo,←List.map_dropLast,←List.map_drop,yF];exact oZ _
 ·show P _;rw[fL,uo,←List.map_dropLast,←List.map_drop,yF];exact q
def GD{l:List Int}{y:Int}(h:l.getLast?=some y):atI (l.map Â) (-1)=some (.int y):=by
 let⟨a,rfl⟩:=List.getLast?_eq_some_iff.mp h;rw[ì];exact MN _ _
def Uq(d:D):Prop:=∀es,d=.list es->⇑es<=400
def Wu:FF:=λds P=>∃n us a b d,ds=[au n us,.int a,.int b,d]/\Uq d/\P (.bool (yW n a b d))
def iQ:([af,aa,aI,a6,ac]:List Str).Nodup:=⋯
def jX(F:Fun K bi bi (top 17) f fd)(B:Ĩ mg)(E:mg "set"=none)(v:kA2 P w K mg base):FnOk P w K mg base CX0 4 f fd [aa,aI,a6,ac] (spD Wu):=by
 refine okT F (N:=[aa,aI,a6,ac]) zC (λhr nd=>Ç (ý (Wr.wpt (Ŵ (ĭ (Đ (Wr.bY tH B.isinstance (Ã 3) (Wr.wty rfl B.list WO)))) (ž (ĭ (Wr.qM (Ã 3)))))) (Ö (Ü Ĳ)) ä)
  (Ç (ý (ĭ (Đ (Wr.oA rfl B.all Dl.boot_all (À (ř [af] rfl (Ċ (Ã 3)) (λc=>(ß (i:=0) iQ rfl zQ)) (λc=>ō) (λc=>(ù v hr (À (Ã 1) (À (Ã 0) Á))))) Á)))) (Ö (Ü Ĳ)) ä)
  (Ö (Ü (ŵ (Wr.fQ hr.units (Ñ (Ã 3) È) (Ã 1)) (ŵ (Wr.fQ hr.units (Ñ (Ã 3) (Wr.fP È)) (Ã 2)) (Wr.cX (Wr.fQ hr.units (Wr.ou rfl E B.len (À (Ã 3) Á)) (ŧ B.len (À (Ã 3) Á)))))))))) ?_
 rintro ds P ⟨n,us,a,b,d,rfl,I,q⟩;refine⟨[.im (au n us),.im (.int a),.im (.int b),cg d],dD rfl,?_⟩;cases d with
 |list h =>
  have hl:=I h rfl;cases m:h with
  |nil =>
   subst m;exact aD (A:=True) (aB (B:=True) ⟨rfl,q⟩)
  |cons e0 es0 =>
   rw[←m];refine aD (A:=True) ?_;have u:h.isEmpty=false:=by rw[m];rfl
   show if(!(!h.isEmpty))=true then _ else _
   rw[u];refine aD (A:=True) (tG h (λd=>d) (λd=>.bool (aK n d)) .imm (List.map_id' h).symm () (λd hd A B hA=>?_) ?_)
   ·by_cases hi:cM d=true
    ·have o:∀k,norm k d=.imm:=λk=>bL hi;unfold gNm;simp only[o];exact aB (B:=True) ⟨n,us,d,rfl,rfl,hA⟩
    ·have o:∀k,norm k d=k:=λk=>bM hi;unfold gNm;simp only[o];exact aB (B:=True) ⟨n,us,d,rfl,rfl,hA⟩
   refine⟨h.map (aK n),by rw[Ė];rfl,?_⟩;rw[List.all_map];have g:P (.bool ((((!h.isEmpty&&h.all (aK n))&&decide ((h.map toI).head?=some a))&&decide ((h.map toI).getLast?=some b))&&xG (h.map toI))):=q;rw[u]at g;show if(!h.all (aK n))=true then _ else _
   cases ha:h.all (aK n)with
   |false =>
    rw[ha]at g;exact aB (B:=True) ⟨rfl,g⟩
   |true =>
    rw[ha]at g;have r:=ints_of ha;generalize h.map toI=l at r g;subst r;have g:P (.bool ((decide (l.head?=some a)&&decide (l.getLast?=some b))&&xG l)):=g;have p:l≠[]:=λz=>by rw[z]at m;cases m
    have J:⇑(l.map Â)=⇑l:=Ä ..;have L:=List.length_pos_iff.mpr p;obtain⟨x,s⟩:∃x,l.head?=some x:=by
     cases l with
     |nil=>exact er rfl p
     |cons x l=>exact⟨x,rfl⟩
    obtain⟨y,t⟩:∃y,l.getLast?=some y:=⟨_,List.getLast?_eq_some_getLast p⟩
    have C:atI (l.map Â) 0=some (.int x):=bJ (j:=0) (by rw[à,←Ū,s];rfl);have D:atI (l.map Â) (-1)=some (.int y):=GD t;refine aD (A:=True) ⟨.int x,C,?_⟩;rw[s,t]at g;have G:decide (some x=some a)=decide (x=a):=by simp
    have H:decide (some y=some b)=decide (y=b):=by simp
    rw[G,H]at g;show if decide (x=a)=true then _ else _
    refine d8 (λc=>?_) (λc=>⟨rfl,?_⟩)
    ·rw[c]at g;refine⟨.int y,D,?_⟩;show if decide (y=b)=true then _ else _
     refine d8 (λc=>?_) (λc=>⟨rfl,?_⟩)
     ·rw[c]at g;refine⟨_,l,rfl,(),rfl,?_⟩;have g:P (.bool (xG l)):=g;show P (.bool (decide ((⇑(once l):Int)=(⇑(l.map Â):Int))));have e:decide ((⇑(once l):Int)=(⇑(l.map Â):Int))=xG l:=by
       unfold xG;rw[Ä,ĥ,ei,ei];lia
      rw[e];exact g
     ·have c:decide (y=b)=false:=by simpa using c
      rw[c]at g;exact g
    ·have c:decide (x=a)=false:=by simpa using c
     rw[c]at g;exact g
 |tuple h=>rcases cj (.tuple h)with e|e <;> rw[e] <;> exact aB (B:=True) ⟨rfl,q⟩
 |_=>exact aB (B:=True) ⟨rfl,q⟩
def VJ:D->Nat
 |.list a=>⇑a
 |_=>0
def mZ(n m a b:Int):D->Bool
 |.tuple [d1,.list ns]=>yW n a b d1&&(decide ((⇑ns:Int)=((VJ d1:Nat):Int) - 1)&&ns.all (aK m))
 |_=>false
def Qm(d:D):Prop:=∀es,d=.tuple es->∀e∈es,Uq e
def Q9:FF:=λds P=>∃n us a b d,ds=[au n us,.int a,.int b,d]/\Qm d/\P (.bool (mZ n (⇑us:Nat) a b d))
def yV{n a b:Int}{d:D}(h:yW n a b d=true):∃es,d=.list es:=by
 cases d with
 |list es=>exact⟨es,rfl⟩
 |_=>cases h
def Lr{n m a b:Int}{c:List D}(h:⇑c≠2):mZ n m a b (.tuple c)=false:=by
 match c,h with
 |[],_=>rfl
 |[_],_=>rfl
 |[_,_],h=>exact er rfl h
 |_::x::_::_,_=>cases x <;> rfl
def jh:([bg,aa,aI,a6,ac]:List Str).Nodup:=⋯
abbrev V5(P w K mg base):=ĉ P w K mg base 3 ca [aa,ac] (spD Q6)
def kO(F:Fun K bu bu (top 18) f fd)(B:Ĩ mg)(s:ĉ P w K mg base 4 bi [aa,aI,a6,ac] (spD Wu))(r:V5 P w K mg base):FnOk P w K mg base CX0 5 f fd [aa,aI,a6,ac] (spD Q9):=by
 refine okT F (N:=[aa,aI,a6,ac]) zC (λhr nd=>Ç (ý (Wr.wpt (Ŵ (ĭ (Đ (Wr.bY kit_tuple B.isinstance (Ã 3) (Wr.wty rfl B.tuple WP)))) (ž (Wr.cF hr.units (ŧ B.len (À (Ã 3) Á)) È)))) (Ö (Ü Ĳ)) ä)
  (Ç (ý (Wr.wpt (Ŵ (ĭ (Đ (ù s hr (À (Ã 0) (À (Ã 1) (À (Ã 2) (À (Ñ (Ã 3) È) Á))))))) (ž (ĭ (Đ (Wr.bY tH B.isinstance (Ñ (Ã 3) È) (Wr.wty rfl B.list WO))))))) (Ö (Ü Ĳ)) ä)
  (Ö (Ü (ŵ (Wr.fQ hr.units (ŧ B.len (À (Ñ (Ã 3) È) Á)) (Wr.fO (ŧ B.len (À (Ñ (Ã 3) È) Á)) È)) (Wr.cX (Wr.oA rfl B.all Dl.boot_all (À (ř [bg] rfl (Ċ (Ñ (Ã 3) È)) (λc=>(ß (i:=0) jh rfl zQ)) (λc=>ō) (λc=>(ù r hr (À (Ã 1) (À (Ã 0) Á))))) Á)))))))) ?_
 rintro ds P ⟨n,us,a,b,d,rfl,p,q⟩;refine⟨[.im (au n us),.im (.int a),.im (.int b),cg d],dD rfl,?_⟩;cases d with
 |tuple l =>
  by_cases h2:⇑l=2
  ·obtain⟨h,j,rfl⟩:∃h j,l=[h,j]:=by
    match l,h2 with
    |[x,y],_=>exact⟨x,y,rfl⟩
   have u:=p _ rfl h Ó;have v:=p _ rfl j (Í _ Ó);rcases cj (.tuple [h,j])with e|e
   all_goals
    rw[e];refine aD (A:=True) (aD (A:=True) ⟨h,rfl,n,us,a,b,h,rfl,u,?_⟩);show if(!yW n a b h)=true then _ else _
    cases hr:yW n a b h with
    |false =>
     have t:mZ n (⇑us:Int) a b (.tuple [h,j])=false:=by
      cases j with
      |list ns=>show(yW n a b h&&_)=false;rw[hr];rfl
      |_=>rfl
     rw[t]at q;exact aB (B:=True) ⟨rfl,q⟩
    |true =>
     refine aD (A:=True) ⟨j,rfl,?_⟩;cases j with
     |list ns =>
      let⟨g,rfl⟩:=yV hr;have hn:=v ns rfl;have m:P (.bool (yW n a b (.list g)&&(decide ((⇑ns:Int)=(⇑g:Int) - 1)&&ns.all (aK (⇑us:Int))))):=q;rw[hr,ě]at m;refine aD (A:=True) ⟨.list ns,rfl,.list g,rfl,?_⟩;show if decide ((⇑ns:Int)=(⇑g:Int) - 1)=true then _ else _
      refine d8 (λc=>?_) (λc=>⟨rfl,?_⟩)
      ·rw[c,ě]at m;refine⟨.list ns,rfl,tG ns (λd=>d) (λd=>.bool (aK (⇑us:Int) d)) .imm (List.map_id' ns).symm () (λd hd A B hA=>?_) ?_⟩
       ·by_cases hi:cM d=true
        ·have o:∀k,norm k d=.imm:=λk=>bL hi;unfold gNm;simp only[o];exact aB (B:=True) ⟨n,us,d,rfl,rfl,hA⟩
        ·have o:∀k,norm k d=k:=λk=>bM hi;unfold gNm;simp only[o];exact aB (B:=True) ⟨n,us,d,rfl,rfl,hA⟩
       ·refine⟨ns.map (aK (⇑us:Int)),by rw[Ė];rfl,rfl,?_⟩;rw[List.all_map];exact m
      ·have c:decide ((⇑ns:Int)=(⇑g:Int) - 1)=false:=by simpa using c
       rw[c]at m;exact m
     |_=>exact aB (B:=True) ⟨rfl,q⟩
  ·rw[Lr h2]at q;have c:decide ((⇑l:Int)=2)=false:=eg λz=>h2 ();rcases cj (.tuple l)with e|e
   all_goals
    rw[e];refine aD (A:=True) ?_;show if(!decide ((⇑l:Int)=2))=true then _ else _
    rw[c];exact aB (B:=True) ⟨rfl,q⟩
 |list l=>exact aB (B:=True) ⟨rfl,q⟩
 |_=>exact aB (B:=True) ⟨rfl,q⟩
def Qa(t u:Tie):å (pD t) (pD u)=decide (t=u):=by
 show(t.1==u.1&&(t.2==u.2&&true))=_;rw[ĥ];simp[Prod.ext_iff]
def rF(a:Bool)(us:List Tie)(h:Tie)(k:Int):Bool:=decide (us[k.toNat]?=some (if a=true then mmT h else h))
def j7(l:List Int):List Tie:=l.dropLast.zip (l.drop 1)
def BL(a:Bool)(us:List Tie):D->Bool
 |.tuple [.list es,.list ns]=>((j7 (es.map toI)).zip (ns.map toI)).all λp=>rF a us p.1 p.2
 |_=>false
def cQ(c:Bool)(n:Int)(us:List Tie)(a b:Int)(d:D):Bool:=mZ n (⇑us:Nat) a b d&&BL c us d
def LC(c:Bool)(ds:List D)(P:D->Prop):Prop:=∃n us a b d,ds=[au n us,.int a,.int b,d]/\0<=a/\a<n/\0<=b/\b<n/\Qm d/\P (.bool (cQ c n us a b d))
def iz{n m a b:Int}{d:D}(h:mZ n m a b d=true):∃ps ks:List Int,d=.tuple [iD ps,iD ks]/\∀k∈ks,0<=k/\k<m:=by
 match d,h with
 |.tuple [d1,.list ns],h =>
  have h:(yW n a b d1&&(decide ((⇑ns:Int)=((VJ d1:Nat):Int) - 1)&&ns.all (aK m)))=true:=h;rw[Ì,Ì]at h;let⟨c,rfl⟩:=yV h.1;have h1:((((!c.isEmpty&&c.all (aK n))&&decide ((c.map toI).head?=some a))&&decide ((c.map toI).getLast?=some b))&&xG (c.map toI))=true:=h.1;simp only[Ì]at h1;have f:=ints_of h1.1.1.1.2;have g:=ints_of h.2.2;refine⟨c.map toI,ns.map toI,?_,λk hk=>?_⟩
  ·unfold iD;rw[←f,←g]
  ·let⟨e,he,rfl⟩:=Ć.mp hk;have hb:=Ħ.mp h.2.2 e he;let⟨i,rfl⟩:=jT hb;exact eh hb
def p7:(["hop",bg,aa,aI,a6,ac]:List Str).Nodup:=⋯
def Hj(F:Fun K "is_way" "is_way" (top 20) f fd)(B:Ĩ mg)(x:mg "zip"=none)(r:kA3 P w K mg base)(y:ĉ P w K mg base 5 bu [aa,aI,a6,ac] (spD Q9))(z:ĉ P w K mg base 1 "hops" [bb] (spD Q8)):FnOk P w K mg base CX0 6 f fd [aa,aI,a6,ac] (spD (LC true)):=by
 refine okT F (N:=[aa,aI,a6,ac]) zC (λhr nd=>Ç (Ů (ù r hr (À (Ã 0) (À (Ã 1) Á))))
  (Ç (Ů (ù r hr (À (Ã 0) (À (Ã 2) Á))))
  (Ç (ý (ĭ (Đ (ù y hr (À (Ã 0) (À (Ã 1) (À (Ã 2) (À (Ã 3) Á))))))) (Ö (Ü Ĳ)) ä)
  (Ö (Ü (Wr.oA rfl B.all Dl.boot_all (À (ř ["hop",bg] rfl (Wr.Ec x (À (ù z hr (À (Ñ (Ã 3) È) Á)) (À (Ñ (Ã 3) È) Á))) (λc=>(Wr.dW (n:=2) rfl (ċ (ß (i:=0) p7 rfl zQ) (ċ (ß (i:=1) p7 rfl zQ) ů)))) (λc=>ō) (λc=>(Wr.fQ hr.units (Ñ (Ñ (Ã 2) È) (Ã 1)) (ï (À (Wr.wX rfl B.min (À (Ã 0) Á)) (À (Wr.wY rfl B.max (À (Ã 0) Á)) Á)))))) Á))))))) ?_
 rintro ds P ⟨n,us,a,b,d,rfl,s,u,b0,b1,m,q⟩;refine⟨[.im (au n us),.im (.int a),.im (.int b),cg d],dD rfl,?_⟩;rcases cj d with e|e
 all_goals
  rw[e];refine⟨n,us,a,rfl,s,u,n,us,b,rfl,b0,b1,n,us,a,b,d,rfl,m,?_⟩;show if(!mZ n (⇑us:Int) a b d)=true then _ else _
  cases hr:mZ n (⇑us:Int) a b d with
  |false =>
   have g:P (.bool (mZ n (⇑us:Int) a b d&&BL true us d)):=q;rw[hr]at g;exact aB (B:=True) ⟨rfl,g⟩
  |true =>
   let⟨ps,ks,rfl,hk⟩:=iz hr;have g:P (.bool (mZ n (⇑us:Int) a b (.tuple [iD ps,iD ks])&&BL true us (.tuple [iD ps,iD ks]))):=q;rw[hr,ě]at g;have g:P (.bool (((j7 ((ps.map Â).map toI)).zip ((ks.map Â).map toI)).all λp=>rF true us p.1 p.2)):=g;rw[aW,aW]at g;refine aD (A:=True) ⟨iD ps,rfl,ps,rfl,?_,?_⟩
   ·have:=m _ rfl (iD ps) Ó _ rfl;rw[Ä]at this;exact this
   refine⟨iD ks,rfl,tG ((j7 ps).zip ks) (λp=>prD (pD p.1,.int p.2)) (λp=>.bool (rF true us p.1 p.2)) .imm ?_ ?_ (λp hp A B hA=>?_) ?_⟩
   ·show(((j7 ps).map pD).zip (ks.map Â)).map prD=_;rw[List.zip_map,Ė];rfl
   ·have:=m _ rfl (iD ks) (Í _ Ó) _ rfl;rw[Ä]at this;rw[List.length_zip];lia
   ·let⟨h,k⟩:=p;have C:=hk k (List.of_mem_zip hp).2;have o:k.toNat<⇑us:=()
    have ht:=Ë o;generalize us[k.toNat]=t at ht;have l:atI (us.map pD) k=some (pD t):=by
     have:=bJ (xs:=us.map pD) (j:=k.toNat) (v:=pD t) (by rw[à,ht];rfl)
     rwa [show((k.toNat:Nat):Int)=k by lia]at this
    refine⟨rfl,aB (B:=True) ⟨.tuple (us.map pD),rfl,pD t,l,zK,rfl,rfl,rfl,?_⟩⟩;show A (.bool (å (pD t) (pD (mmT h))));rw[Qa];have e:rF true us h k=decide (t=mmT h):=by
     unfold rF;rw[ht];simp
    rw[←e];exact hA
   ·refine⟨((j7 ps).zip ks).map λp=>rF true us p.1 p.2,by rw[Ė];rfl,rfl,?_⟩;rw[List.all_map];exact g
def bH(w:Str):D->Bool
 |.str x=>decide (x=w)
 |_=>false
def hasB(w:Str)(c:Int):D->Bool
 |.tuple (e::es)=>decide ((⇑(e::es):Int)=c)&&bH w e
 |_=>false
def Wz:FF:=λds P=>∃d w c,ds=[d,.str w,.int c]/\1<=c/\P (.bool (hasB w c d))
def at0{x:D}{r:List D}:atI (x::r) 0=some x:=by
 have:atI (x::r) ((0:Nat):Int)=some x:=bJ rfl;exact this
def jW(l:List Int):D->Bool
 |.list a=>a.all isW&&decide (a.map toI=l)
 |_=>false
structure ThD(d:D):Prop where
 few:Qm d
 row:∀es,d=.tuple es->∀e∈es,Qm e
def QT:FF:=λds P=>∃d l,ds=[d,iD l]/\Uq d/\P (.bool (jW l d))
def fD(p q:List Int):Bool:=p.any λx=>decide (x∈q)
def Ly:FF:=λds P=>∃p q:List Int,ds=[iD p,iD q]/\⇑p<=400/\P (.bool (fD p q))
def pY:D->List Int
 |.tuple [_,.list ns]=>ns.map toI
 |_=>[]
def jV(n:Int)(us:List Tie)(a b:Int):D->Bool
 |.tuple [e,x,y]=>bH ai e&&(cQ true n us a b x&&(cQ true n us a b y&&!fD (pY x) (pY y)))
 |_=>false
def f2W:FF:=λds P=>∃n us a b d,ds=[au n us,.int a,.int b,d]/\0<=a/\a<n/\0<=b/\b<n/\ThD d/\P (.bool (jV n us a b d))
def Ph{d:D}(h:isW d=true):∃i:Int,d=.int i:=by
 cases d with
 |int i=>exact⟨i,rfl⟩
 |_=>cases h
theorem K9:∀{a:List D},a.all isW=true->a=(a.map toI).map Â
 |[],_=>rfl
 |d::a,h=>by
  rw[List.all_cons,Ì]at h;let⟨i,rfl⟩:=Ph h.1;have:=K9 h.2;rw[ò,ò,←this];rfl
def gF{w:Str}{d:D}(h:hasB w 3 d=true):∃e x y,d=.tuple [e,x,y]/\bH w e=true:=by
 match d,h with
 |.tuple (e::es),h =>
  have h:(decide ((⇑(e::es):Int)=3)&&bH w e)=true:=h;rw[Ì,ei]at h;match es,h with
  |[x,y],h=>exact⟨e,x,y,rfl,h.2⟩
  |[],h=>exact er h.1 (by show ¬(((1:Nat):Int)=3);decide)
  |[_],h=>exact er h.1 (by show ¬(((2:Nat):Int)=3);decide)
  |_::_::_::r,h=>exact er h.1 (by show ¬(((⇑r+4:Nat):Int)=3);lia)
def PK{w:Str}{d:D}(h:hasB w 2 d=true):∃e x,d=.tuple [e,x]/\bH w e=true:=by
 match d,h with
 |.tuple (e::es),h =>
  have h:(decide ((⇑(e::es):Int)=2)&&bH w e)=true:=h;rw[Ì,ei]at h;match es,h with
  |[x],h=>exact⟨e,x,rfl,h.2⟩
  |[],h=>exact er h.1 (by show ¬(((1:Nat):Int)=2);decide)
  |_::_::r,h=>exact er h.1 (by show ¬(((⇑r+3:Nat):Int)=2);lia)
def tU{w:Str}{e x y:D}(h:hasB w 3 (.tuple [e,x,y])=false):bH w e=false:=by
 have h:(decide (((3:Nat):Int)=3)&&bH w e)=false:=h;simpa using h
def Ld{w:Str}{e x:D}(h:hasB w 2 (.tuple [e,x])=false):bH w e=false:=by
 have h:(decide (((2:Nat):Int)=2)&&bH w e)=false:=h;simpa using h
def Bt{n:Int}{us:List Tie}{a b:Int}{d:D}(h:hasB ai 3 d=false):jV n us a b d=false:=by
 match d,h with
 |.tuple [e,x,y],h=>show(bH ai e&&_)=false;rw[tU h];rfl
 |.tuple [],_=>rfl
 |.tuple [_],_=>rfl
 |.tuple [_,_],_=>rfl
 |.tuple (_::_::_::_::_),_=>rfl
 |.none,_=>rfl
 |.bool _,_=>rfl
 |.int _,_=>rfl
 |.str _,_=>rfl
 |.list _,_=>rfl
 |.dict _,_=>rfl
section
variable{P:Za}{w:Zb}{K:á}{mg:Str->Option Value}{base:Zg}{f:Addr}{fd:Yc}{CN:Addr}
def zR(F:Fun K "has_form" "has_form" (top 42) f fd)(B:Ĩ mg)(b:mg "str"=none):FnOk P w K mg base CX0 1 f fd [ac,"word",ax] (spD Wz):=by
 refine okT F (N:=[ac,"word",ax]) zC (λhr nd=>Ç (ý (Wr.wpt (Ŵ (ĭ (Đ (Wr.bY kit_tuple B.isinstance (Ã 0) (Wr.wty rfl B.tuple WP)))) (ž (Wr.cF hr.units (ŧ B.len (À (Ã 0) Á)) (Ã 2))))) (Ö (Ü Ĳ)) ä)
  (Ö (Ü (ŵ (Wr.bY O9 B.isinstance (Ñ (Ã 0) È) (Wr.wty rfl b Dl.boot_str)) (Wr.cX (Wr.fQ hr.units (Ñ (Ã 0) È) (Ã 1))))))) ?_
 rintro ds P ⟨d,w,c,rfl,g,q⟩;refine⟨[cg d,.im (.str w),.im (.int c)],rfl,?_⟩;cases d with
 |tuple es =>
  rcases cj (.tuple es)with e|e
  all_goals
   rw[e];show if(!decide ((⇑es:Int)=c))=true then _ else _
   by_cases h:(⇑es:Int)=c
   ·rw[decide_eq_true h];refine aD ?_;match es,h,q with
    |[],h,q=>exact er h (by show ¬(0:Int)=c;lia)
    |x::r,h,q =>
     have a:=at0 (x:=x) (r:=r);have q:P (.bool (decide ((⇑(x::r):Int)=c)&&bH w x)):=q;rw[decide_eq_true h,ě]at q;refine⟨x,a,?_⟩;cases x with
     |str s=>exact aB (B:=True) ⟨.str s,a,rfl,q⟩
     |_=>exact aD (A:=True) ⟨rfl,q⟩
   ·rw[eg h];refine aB ⟨rfl,?_⟩;match es,h,q with
    |[],h,q=>exact q
    |x::r,h,q =>
     have q:P (.bool (decide ((⇑(x::r):Int)=c)&&bH w x)):=q;rw[eg h,Bool.false_and]at q;exact q
 |_=>exact aB (B:=True) ⟨rfl,q⟩
def oU:([af,ac,"some"]:List Str).Nodup:=⋯
def sW(F:Fun K dq dq (top 43) f fd)(B:Ĩ mg)(j:ĉ P w K mg base 1 dy [ac] (spD DQ)):FnOk P w K mg base CX0 2 f fd [ac,"some"] (spD QT):=by
 refine okT F (N:=[ac,"some"]) zC (λhr nd=>Ö (Ü (ŵ (Wr.bY tH B.isinstance (Ã 0) (Wr.wty rfl B.list WO)) (ŵ (Wr.oA rfl B.all Dl.boot_all (À (ř [af] rfl (Ċ (Ã 0)) (λc=>(ß (i:=0) oU rfl zQ)) (λc=>ō) (λc=>(ù j hr (À (Ã 0) Á)))) Á)) (Wr.cX (Wr.fQ hr.units (Ã 0) (Ã 1))))))) ?_;rintro ds P ⟨d,l,rfl,fd,q⟩;refine⟨[cg d,.sh (iD l)],rfl,?_⟩;cases d with
 |list a =>
  have hl:=fd a rfl;refine aB (B:=True) (tG a (λd=>d) (λd=>.bool (isW d)) .imm (List.map_id' a).symm () (λd hd A B hA=>?_) ?_)
  ·by_cases hi:cM d=true
   ·have g:∀k,norm k d=.imm:=λk=>bL hi;unfold gNm;simp only[g];exact aB (B:=True) ⟨d,rfl,rfl,hA⟩
   ·have g:∀k,norm k d=k:=λk=>bM hi;unfold gNm;simp only[g];exact aB (B:=True) ⟨d,rfl,rfl,hA⟩
  refine⟨a.map isW,by rw[Ė];rfl,?_⟩;rw[List.all_map];have b:P (.bool (a.all isW&&decide (a.map toI=l))):=q;show if a.all isW=true then _ else _
  cases ha:a.all isW with
  |false =>
   rw[ha]at b;exact aD (A:=True) ⟨rfl,b⟩
  |true =>
   rw[ha]at b;have h:=K9 ha;generalize a.map toI=k at h b;subst h;refine aB (B:=True) ⟨Kv _,Kv _,rfl,?_⟩;show P (.bool (å (iD k) (iD l)));have e:å (iD k) (iD l)=decide (k=l):=by
    clear b q ha hl fd;induction k generalizing l with
    |nil=>cases l <;> simp[iD,å,PyData.eqvAll]
    |cons x k ih =>
     cases l with
     |nil=>rfl
     |cons y l =>
      have:=ih (l:=l);show(x==y&&å (iD k) (iD l))=_;rw[this,ĥ];simp
   rw[e];exact b
 |tuple a=>rcases cj (.tuple a)with e|e <;> rw[e] <;> exact aD (A:=True) ⟨rfl,q⟩
 |_=>exact aD (A:=True) ⟨rfl,q⟩
def Dj:([bg,ef,bS]:List Str).Nodup:=⋯
def Ks(F:Fun K "share" "share" (top 44) f fd)(B:Ĩ mg)(b:mg "any"=none):FnOk P w K mg base CX0 1 f fd [ef,bS] (spD Ly):=by
 refine okT F (N:=[ef,bS]) zC (λhr nd=>Ö (Ü (Wr.CT rfl b (À (ř [bg] rfl (Ċ (Ã 0)) (λc=>(ß (i:=0) Dj rfl zQ)) (λc=>ō) (λc=>(Wr.u9 hr.units (Ã 0) (Ã 2)))) Á)))) ?_;rintro ds P ⟨p,a,rfl,d,q⟩;refine⟨[.sh (iD p),.sh (iD a)],rfl,?_⟩;refine tG p Â (λx=>.bool (decide (x∈a))) .imm rfl () (λx hx A B hA=>aB (B:=B) ⟨rfl,ň a,rfl,?_⟩) ?_
 ·show A (.bool ((a.map Â).any λe=>å e (.int x)));rw[Č];exact hA
 ·refine⟨p.map λx=>decide (x∈a),by rw[Ė];rfl,rfl,?_⟩;rw[List.any_map];exact q
abbrev Pb(P w K mg base):=ĉ P w K mg base 1 "has_form" [ac,"word",ax] (spD Wz)
abbrev V4(P w K mg base):=ĉ P w K mg base 1 "share" [ef,bS] (spD Ly)
def sV(F:Fun K dr dr (top 45) f fd)(B:Ĩ mg)(s:Pb P w K mg base)(m:ĉ P w K mg base 6 "is_way" [aa,aI,a6,ac] (spD (LC true)))(t:V4 P w K mg base):FnOk P w K mg base CX0 7 f fd [aa,aI,a6,ac] (spD f2W):=by
 refine okT F (N:=[aa,aI,a6,ac]) zC (λhr nd=>Ç (ý (ĭ (Đ (ù s hr (À (Ã 3) (À ġ (À È Á)))))) (Ö (Ü Ĳ)) ä)
  (Ç (ý (Wr.wpt (Ŵ (ĭ (Đ (ù m hr (À (Ã 0) (À (Ã 1) (À (Ã 2) (À (Ñ (Ã 3) È) Á))))))) (ž (ĭ (Đ (ù m hr (À (Ã 0) (À (Ã 1) (À (Ã 2) (À (Ñ (Ã 3) È) Á)))))))))) (Ö (Ü Ĳ)) ä)
  (Ö (Ü (Wr.rY (ù t hr (À (Ñ (Ñ (Ã 3) È) È) (À (Ñ (Ñ (Ã 3) È) È) Á)))))))) ?_
 rintro ds P ⟨n,us,a,b,d,rfl,k,l,b0,b1,r,q⟩;refine⟨[.im (au n us),.im (.int a),.im (.int b),cg d],dD rfl,?_⟩;rcases cj d with z|z
 all_goals
  rw[z];refine⟨d,ai,3,rfl,∅,?_⟩;show if(!hasB ai 3 d)=true then _ else _
  cases hh:hasB ai 3 d with
  |false =>
   rw[Bt hh]at q;exact aB (B:=True) ⟨rfl,q⟩
  |true =>
   let⟨e,x,y,rfl,D⟩:=gF hh;have c:P (.bool (bH ai e&&(cQ true n us a b x&&(cQ true n us a b y&&!fD (pY x) (pY y))))):=q;rw[D,ě]at c;have o:=r.row _ rfl x (Í _ Ó);have u:=r.row _ rfl y (Í _ (Í _ Ó));refine aD (A:=True) ⟨x,rfl,n,us,a,b,x,rfl,k,l,b0,b1,o,?_⟩;show if(!cQ true n us a b x)=true then _ else _
   cases g:cQ true n us a b x with
   |false =>
    rw[g]at c;exact aB (B:=True) (aB (B:=True) ⟨rfl,c⟩)
   |true =>
    rw[g,ě]at c;refine aD (A:=True) ⟨y,rfl,n,us,a,b,y,rfl,k,l,b0,b1,u,?_⟩;show if(!cQ true n us a b y)=true then _ else _
    cases h:cQ true n us a b y with
    |false =>
     rw[h]at c;exact aB (B:=True) (aB (B:=True) ⟨rfl,c⟩)
    |true =>
     rw[h,ě]at c;let⟨v,i,rfl,_⟩:=iz (by unfold cQ at g;rw[Ì]at g;exact g.1);let⟨C,j,rfl,_⟩:=iz (by unfold cQ at h;rw[Ì]at h;exact h.1);have c:P (.bool (!fD ((i.map Â).map toI) ((j.map Â).map toI))):=c;rw[aW,aW]at c;have p:=o _ rfl (iD i) (Í _ Ó) _ rfl;rw[Ä]at p;refine aD (A:=True) (aD (A:=True) ?_);refine⟨.tuple [iD v,iD i],rfl,iD i,rfl,.tuple [iD C,iD j],rfl,iD j,rfl,i,j,rfl,p,rfl,c⟩
abbrev aM(n:Int)(us:List Tie)(F:List Int)(a:Int):List Int:=rsI (adj us F []) n.toNat a
def o7(n:Int)(us:List Tie)(a b:Int):D->Bool
 |.tuple [e,x]=>bH ah e&&(!decide (b∈aM n us [] a)&&jW (aM n us [] a) x)
 |_=>false
def lC(n:Int)(us:List Tie)(a b:Int):D->Bool
 |.tuple [e,k,x]=>bH am e&&(aK (⇑us:Nat) k&&(decide (b∈aM n us [] a)&&(!decide (b∈aM n us [toI k] a)&&jW (aM n us [toI k] a) x)))
 |_=>false
def wL(n:Int)(us:List Tie)(a b:Int):D->Bool
 |.tuple [e,v,x]=>bH af e&&(aK n v&&(decide (b∈aM n us [] a)&&(!decide (toI v=a\/toI v=b)&&(!decide (b∈rsI (adj us [] [toI v]) n.toNat a)&&jW (rsI (adj us [] [toI v]) n.toNat a) x))))
 |_=>false
def Vj:D->List Int
 |.tuple [.list ps,_]=>ps.map toI
 |_=>[]
def dR(l:List Int):List Int:=l.dropLast.drop 1
def Gb:D->Bool
 |.tuple [_,x,y]=>!fD (dR (Vj x)) (dR (Vj y))
 |_=>false
def Dh(n:Int)(us:List Tie)(a b:Int):Bool:=Kz (ppF n.toNat us a b (Þ n.toNat))
def iV(n:Int)(us:List Tie)(a b:Int)(d:D):Bool:=if jV n us a b d then Gb d else wL n us a b d || (o7 n us a b d || (lC n us a b d&&Dh n us a b))
structure Pl(n:Int)(us:List Tie)(a b:Int):Prop where
 n1:1<=n
 n30:n<=30
 lu:⇑us<=50
 ok:OkN n us
 a0:0<=a
 a1:a<n
 b0:0<=b
 b1:b<n
def WK:FF:=λds P=>∃n us a b d,ds=[au n us,.int a,.int b,d]/\Pl n us a b/\ThD d/\P (.bool (o7 n us a b d))
def fPT:FF:=λds P=>∃n us a b d,ds=[au n us,.int a,.int b,d]/\Pl n us a b/\ThD d/\P (.bool (lC n us a b d))
def DW:FF:=λds P=>∃n us a b d,ds=[au n us,.int a,.int b,d]/\Pl n us a b/\a≠b/\ThD d/\P (.bool (iV n us a b d))
def fPP:FF:=λds P=>∃n us a b d,ds=[au n us,.int a,.int b,d]/\Pl n us a b/\ThD d/\P (.bool (wL n us a b d))
def Q0:FF:=λds P=>∃p k p' k':List Int,ds=[.tuple [iD p,iD k],.tuple [iD p',iD k']]/\⇑p<=400/\⇑p'<=400/\P (.bool (!fD (dR p) (dR p')))
def T6{n:Int}{us:List Tie}{a b:Int}{d:D}(h:hasB ah 2 d=false):o7 n us a b d=false:=by
 match d,h with
 |.tuple [e,x],h=>show(bH ah e&&_)=false;rw[Ld h];rfl
 |.tuple [],_=>rfl
 |.tuple [_],_=>rfl
 |.tuple (_::_::_::_),_=>rfl
 |.none,_=>rfl
 |.bool _,_=>rfl
 |.int _,_=>rfl
 |.str _,_=>rfl
 |.list _,_=>rfl
 |.dict _,_=>rfl
def Rq{n:Int}{us:List Tie}{a b:Int}{d:D}(h:hasB am 3 d=false):lC n us a b d=false:=by
 match d,h with
 |.tuple [e,x,y],h=>show(bH am e&&_)=false;rw[tU h];rfl
 |.tuple [],_=>rfl
 |.tuple [_],_=>rfl
 |.tuple [_,_],_=>rfl
 |.tuple (_::_::_::_::_),_=>rfl
 |.none,_=>rfl
 |.bool _,_=>rfl
 |.int _,_=>rfl
 |.str _,_=>rfl
 |.list _,_=>rfl
 |.dict _,_=>rfl
def Qi(l:List Int):dO (l.map Â) (some 1) (some (-1))=(dR l).map Â:=by
 unfold dO dR;have a:HT.sIx ⇑(l.map Â) 0 (some 1)=min 1 ⇑(l.map Â):=HT.wB _ 0 1;have b:HT.sIx ⇑(l.map Â) ⇑(l.map Â) (some (-1))=⇑(l.map Â) - 1:=by
  have e:HT.sIx ⇑(l.map Â) ⇑(l.map Â) (some (-1))=((-1:Int)+(⇑(l.map Â):Int)).toNat:=rfl;rw[e];lia
 rw[a,b,List.map_drop,List.map_dropLast,List.dropLast_eq_take,List.drop_take];by_cases h:1<=⇑(l.map Â)
 ·rw[Nat.min_eq_left h]
 ·have:l.map Â=[]:=List.length_eq_zero_iff.mp ();rw[this];rfl
def R6{n:Int}{us:List Tie}{a b:Int}{d:D}(h:hasB af 3 d=false):wL n us a b d=false:=by
 match d,h with
 |.tuple [e,x,y],h=>show(bH af e&&_)=false;rw[tU h];rfl
 |.tuple [],_=>rfl
 |.tuple [_],_=>rfl
 |.tuple [_,_],_=>rfl
 |.tuple (_::_::_::_::_),_=>rfl
 |.none,_=>rfl
 |.bool _,_=>rfl
 |.int _,_=>rfl
 |.str _,_=>rfl
 |.list _,_=>rfl
 |.dict _,_=>rfl
abbrev TQ(P w K mg base):=ĉ P w K mg base 2 dq [ac,"some"] (spD QT)
def zO(F:Fun K "is_apart" "is_apart" (top 47) f fd)(B:Ĩ mg)(j:kA7 P w K mg base)(l:TQ P w K mg base)(k:Pb P w K mg base):FnOk P w K mg base CX0 3 f fd [aa,aI,a6,ac] (spD WK):=by
 refine okT F (N:=[aa,aI,a6,ac,"side"]) zC (λhr nd=>Ç (ê none (i:=4) nd rfl zQ (ù j hr (À (Ã 0) (À (Ã 1) Á))))
  (Ö (Ü (ŵ (ù k hr (À (Ã 3) (À ġ (À È Á)))) (ŵ (Wr.jd hr.units (Ã 2) (Ã 4)) (Wr.cX (ù l hr (À (Ñ (Ã 3) È) (À (Ã 4) Á))))))))) ?_
 rintro ds P ⟨n,us,a,b,d,rfl,L,p,q⟩;refine⟨[.im (au n us),.im (.int a),.im (.int b),cg d,.any],dD rfl,?_⟩;let⟨s,m,r,ok,g,h,b0,b1⟩:=L;refine⟨n,us,a,rfl,(),(),(),ok,g,h,?_⟩;rcases cj d with z|z
 all_goals
  rw[z];refine⟨d,ah,2,rfl,∅,?_⟩;show if hasB ah 2 d=true then _ else _
  cases hh:hasB ah 2 d with
  |false =>
   rw[T6 hh]at q;exact aD (A:=True) ⟨rfl,q⟩
  |true =>
   let⟨e,x,rfl,o⟩:=PK hh;have c:P (.bool (bH ah e&&(!decide (b∈aM n us [] a)&&jW (aM n us [] a) x))):=q;rw[o,ě]at c;refine aB (B:=True) ⟨rfl,ň _,?_⟩;show if(!(((rsI (adj us [] []) n.toNat a).map Â).any λe=>å e (.int b)))=true then _ else _
   rw[Č];cases hb:decide (b∈rsI (adj us [] []) n.toNat a)with
   |true =>
    rw[show decide (b∈aM n us [] a)=true from hb]at c;exact aD (A:=True) ⟨rfl,c⟩
   |false =>
    rw[show decide (b∈aM n us [] a)=false from hb]at c;exact aB (B:=True) ⟨x,rfl,x,_,rfl,p.few _ rfl x (Í _ Ó),rfl,c⟩
def lZ(F:Fun K bP bP (top 48) f fd)(B:Ĩ mg)(l:kA7 P w K mg base)(r:V5 P w K mg base)(o:Pb P w K mg base)(m:kA9 P w K mg base)(p:TQ P w K mg base):FnOk P w K mg base CX0 4 f fd [aa,aI,a6,ac] (spD fPT):=by
 refine okT F (N:=[aa,aI,a6,ac,"side"]) zC (λhr nd=>Ç (ý (Wr.wpt (Ŵ (ĭ (Đ (ù o hr (À (Ã 3) (À ġ (À È Á)))))) (Ŵ (ĭ (Đ (ù r hr (À (Ã 0) (À (Ñ (Ã 3) È) Á))))) (ž (Ģ hr.units (Ã 2) (ù l hr (À (Ã 0) (À (Ã 1) Á)))))))) (Ö (Ü Ĳ)) ä)
  (Ç (ê none (i:=4) nd rfl zQ (ù l hr (À (ù m hr (À (Ã 0) (À (ø (À (Ñ (Ã 3) È) Á)) Á))) (À (Ã 1) Á))))
  (Ö (Ü (ŵ (Wr.jd hr.units (Ã 2) (Ã 4)) (Wr.cX (ù p hr (À (Ñ (Ã 3) È) (À (Ã 4) Á))))))))) ?_
 rintro ds P ⟨n,us,a,b,d,rfl,L,u,q⟩;refine⟨[.im (au n us),.im (.int a),.im (.int b),cg d,.any],dD rfl,?_⟩;let⟨C,s,v,ok,h,j,b0,b1⟩:=L;rcases cj d with z|z
 all_goals
  rw[z];refine⟨d,am,3,rfl,∅,?_⟩;show if(!hasB am 3 d)=true then _ else _
  cases hh:hasB am 3 d with
  |false =>
   rw[Rq hh]at q;exact aB (B:=True) (aB (B:=True) ⟨rfl,q⟩)
  |true =>
   let⟨e,k,x,rfl,t⟩:=gF hh;have c:P (.bool (bH am e&&(aK (⇑us:Nat) k&&(decide (b∈aM n us [] a)&&(!decide (b∈aM n us [toI k] a)&&jW (aM n us [toI k] a) x))))):=q;rw[t,ě]at c;refine aD (A:=True) ⟨k,rfl,n,us,k,rfl,?_⟩;show if(!aK (⇑us:Int) k)=true then _ else _
   cases hk:aK (⇑us:Int) k with
   |false =>
    rw[hk]at c;exact aB (B:=True) (aB (B:=True) ⟨rfl,c⟩)
   |true =>
    rw[hk,ě]at c;let⟨i,rfl⟩:=jT hk;refine aD (A:=True) ⟨n,us,a,rfl,(),(),(),ok,h,j,rfl,ň _,?_⟩;show if(!(((rsI (adj us [] []) n.toNat a).map Â).any λe=>å e (.int b)))=true then _ else _
    rw[Č];cases hb:decide (b∈rsI (adj us [] []) n.toNat a)with
    |false =>
     rw[show decide (b∈aM n us [] a)=false from hb]at c;exact aB (B:=True) ⟨rfl,c⟩
    |true =>
     rw[show decide (b∈aM n us [] a)=true from hb,ě]at c;have y:=Jd us [i];refine aD (A:=True) ⟨.int i,rfl,zK,n,us,[i],rfl,(),n,wo us [i],a,rfl,(),(),(),Qo ok,h,j,rfl,ň _,?_⟩;show if(!(((rsI (adj (wo us [i]) [] []) n.toNat a).map Â).any λe=>å e (.int b)))=true then _ else _
     rw[Č,show rsI (adj (wo us [i]) [] []) n.toNat a=aM n us [i] a from Fp λx=>Qu];have c:P (.bool (!decide (b∈aM n us [i] a)&&jW (aM n us [i] a) x)):=c;cases g:decide (b∈aM n us [i] a)with
     |true =>
      rw[g]at c;exact aD (A:=True) ⟨rfl,c⟩
     |false =>
      rw[g]at c;exact aB (B:=True) ⟨x,rfl,x,_,rfl,u.few _ rfl x (Í _ (Í _ Ó)),rfl,c⟩
def qw(F:Fun K cy cy (top 46) f fd)(B:Ĩ mg)(b:V4 P w K mg base):FnOk P w K mg base CX0 2 f fd [ef,bS] (spD Q0):=by
 refine okT F (N:=[ef,bS]) zC (λhr nd=>Ö (Ü (Wr.rY (ù b hr (À (Wr.u5 (Ñ (Ã 0) È) (Wr.dM È) (Wr.dM (Wr.fP È))) (À (Wr.u5 (Ñ (Ã 1) È) (Wr.dM È) (Wr.dM (Wr.fP È))) Á)))))) ?_;rintro ds P ⟨p,k,a,c,rfl,g,e,q⟩;refine⟨[.sh (.tuple [iD p,iD k]),.sh (.tuple [iD a,iD c])],rfl,?_⟩;have im:∀l:List Int,dO (l.map Â) (some 1) (some (-1))=(dR l).map Â:=Qi;have d:∀l:List Int,⇑(dR l)<=⇑l:=λl=>by
  unfold dR;rw[ť,List.length_dropLast];lia
 refine⟨iD p,rfl,.inl ⟨by show cC (dO (p.map Â) (some 1) (some (-1)))=true;rw[im];exact dg _,iD a,rfl,.inl ⟨by show cC (dO (a.map Â) (some 1) (some (-1)))=true;rw[im];exact dg _,dR p,dR a,by show [ē (dO (p.map Â) (some 1) (some (-1))),.list (dO (a.map Â) (some 1) (some (-1)))]=_;rw[im,im];rfl,by have:=d p;lia,rfl,q⟩⟩⟩
def jY(F:Fun K bo bo (top 49) f fd)(B:Ĩ mg)(o:kA7 P w K mg base)(r:kA2 P w K mg base)(p:Pb P w K mg base)(l:kA8 P w K mg base)(s:TQ P w K mg base):FnOk P w K mg base CX0 7 f fd [aa,aI,a6,ac] (spD fPP):=by
 refine okT F (N:=[aa,aI,a6,ac,"side"]) zC (λhr nd=>Ç (ý (Wr.wpt (Ŵ (ĭ (Đ (ù p hr (À (Ã 3) (À ġ (À È Á)))))) (Ŵ (ĭ (Đ (ù r hr (À (Ã 0) (À (Ñ (Ã 3) È) Á))))) (ž (Ģ hr.units (Ã 2) (ù o hr (À (Ã 0) (À (Ã 1) Á)))))))) (Ö (Ü Ĳ)) ä)
  (Ç (ý (Wr.gZ hr.units (Ñ (Ã 3) È) (ï (À (Ã 1) (À (Ã 2) Á)))) (Ö (Ü Ĳ)) ä)
  (Ç (ê none (i:=4) nd rfl zQ (ù l hr (À (Ã 0) (À (Ñ (Ã 3) È) (À (Ã 1) Á)))))
  (Ö (Ü (ŵ (Wr.jd hr.units (Ã 2) (Ã 4)) (Wr.cX (ù s hr (À (Ñ (Ã 3) È) (À (Ã 4) Á)))))))))) ?_
 rintro ds P ⟨n,us,a,b,d,rfl,L,C,q⟩;refine⟨[.im (au n us),.im (.int a),.im (.int b),cg d,.any],dD rfl,?_⟩;let⟨t,u,D,ok,j,k,b0,b1⟩:=L;rcases cj d with z|z
 all_goals
  rw[z];refine⟨d,af,3,rfl,∅,?_⟩;show if(!hasB af 3 d)=true then _ else _
  cases hh:hasB af 3 d with
  |false =>
   rw[R6 hh]at q;exact aB (B:=True) (aB (B:=True) ⟨rfl,q⟩)
  |true =>
   let⟨e,v,x,rfl,y⟩:=gF hh;have g:P (.bool (bH af e&&(aK n v&&(decide (b∈aM n us [] a)&&(!decide (toI v=a\/toI v=b)&&(!decide (b∈rsI (adj us [] [toI v]) n.toNat a)&&jW (rsI (adj us [] [toI v]) n.toNat a) x)))))):=q;rw[y,ě]at g;refine aD (A:=True) ⟨v,rfl,n,us,v,rfl,?_⟩;show if(!aK n v)=true then _ else _
   cases hk:aK n v with
   |false =>
    rw[hk]at g;exact aB (B:=True) (aB (B:=True) ⟨rfl,g⟩)
   |true =>
    rw[hk,ě]at g;let⟨i,rfl⟩:=jT hk;have hi:0<=i/\i<n:=eh hk;refine aD (A:=True) ⟨n,us,a,rfl,(),(),(),ok,j,k,rfl,ň _,?_⟩;show if(!(((rsI (adj us [] []) n.toNat a).map Â).any λe=>å e (.int b)))=true then _ else _
    rw[Č];cases hb:decide (b∈rsI (adj us [] []) n.toNat a)with
    |false =>
     rw[show decide (b∈aM n us [] a)=false from hb]at g;exact aB (B:=True) ⟨rfl,g⟩
    |true =>
     rw[show decide (b∈aM n us [] a)=true from hb,ě]at g;let⟨m,rfl⟩:=Int.eq_ofNat_of_zero_le hi.1;have g:P (.bool (!decide (((m:Nat):Int)=a\/((m:Nat):Int)=b)&&(!decide (b∈rsI (adj us [] [((m:Nat):Int)]) n.toNat a)&&jW (rsI (adj us [] [((m:Nat):Int)]) n.toNat a) x))):=g;refine aD (A:=True) ?_;refine⟨.int ((m:Nat):Int),rfl,zK,rfl,rfl,?_⟩;show if([Â a,.int b].any λe=>å e (.int ((m:Nat):Int)))=true then _ else _
     rw[gO];by_cases c:((m:Nat):Int)=a\/((m:Nat):Int)=b
     ·rw[decide_eq_true c]at g ⊢;exact aB (B:=True) ⟨rfl,g⟩
     rw[eg c]at g ⊢;have g:P (.bool (!decide (b∈rsI (adj us [] [((m:Nat):Int)]) n.toNat a)&&jW (rsI (adj us [] [((m:Nat):Int)]) n.toNat a) x)):=g;refine aD (A:=True) ⟨.int ((m:Nat):Int),rfl,n,us,m,a,rfl,t,(),(),ok,(),j,k,λz=>c (.inl z.symm),rfl,ň _,?_⟩;show if(!(((rsI (adj us [] [((m:Nat):Int)]) n.toNat a).map Â).any λe=>å e (.int b)))=true then _ else _
     rw[Č];cases h:decide (b∈rsI (adj us [] [((m:Nat):Int)]) n.toNat a)with
     |true =>
      rw[h]at g;exact aD (A:=True) ⟨rfl,g⟩
     |false =>
      rw[h]at g;exact aB (B:=True) ⟨x,rfl,x,_,rfl,C.few _ rfl x (Í _ (Í _ Ó)),rfl,g⟩
abbrev V3(P w K mg base):=ĉ P w K mg base 7 dr [aa,aI,a6,ac] (spD f2W)
abbrev V1(P w K mg base):=ĉ P w K mg base 3 "is_apart" [aa,aI,a6,ac] (spD WK)
abbrev V0(P w K mg base):=ĉ P w K mg base 4 bP [aa,aI,a6,ac] (spD fPT)
def kJ(F:Fun K bv bv (top 51) f fd)(B:Ĩ mg)(r:Pg P w K mg base)(t:V3 P w K mg base)(C:ĉ P w K mg base 2 cy [ef,bS] (spD Q0))(u:V1 P w K mg base)(D:ĉ P w K mg base 7 bo [aa,aI,a6,ac] (spD fPP))(s:V7 P w K mg base)(v:V0 P w K mg base):FnOk P w K mg base CX0 8 f fd [aa,aI,a6,ac] (spD DW):=by
 refine okT F (N:=[aa,aI,a6,ac]) zC (λhr nd=>Ç (Ů (ù r hr (À (Ã 0) (À (Ã 1) (À (Ã 2) Á)))))
  (Ç (ý (Đ (ù t hr (À (Ã 0) (À (Ã 1) (À (Ã 2) (À (Ã 3) Á)))))) (Ö (Ü (ù C hr (À (Ñ (Ã 3) È) (À (Ñ (Ã 3) È) Á))))) ä)
  (Ç (ý (Wr.wpt (Ŵ (Đ (ù D hr (À (Ã 0) (À (Ã 1) (À (Ã 2) (À (Ã 3) Á)))))) (ž (Đ (ù u hr (À (Ã 0) (À (Ã 1) (À (Ã 2) (À (Ã 3) Á))))))))) (Ö (Ü Ĳ)) ä)
  (Ö (Ü (ŵ (ù v hr (À (Ã 0) (À (Ã 1) (À (Ã 2) (À (Ã 3) Á))))) (Wr.cX (Wr.CK (ù s hr (À (Ã 0) (À (Ã 1) (À (Ã 2) Á)))) Ŗ)))))))) ?_
 rintro ds P ⟨n,us,a,b,d,rfl,L,O,c,q⟩;refine⟨[.im (au n us),.im (.int a),.im (.int b),cg d],dD rfl,?_⟩;have p:=L;let⟨J,M,Q,ok,g,h,b0,b1⟩:=p;refine⟨n,us,a,b,rfl,g,h,b0,b1,O,?_⟩;have q:P (.bool (if jV n us a b d then Gb d else wL n us a b d || (o7 n us a b d || (lC n us a b d&&Dh n us a b)))):=q;rcases cj d with z|z
 all_goals
  rw[z];refine⟨n,us,a,b,d,rfl,g,h,b0,b1,c,?_⟩;show if jV n us a b d=true then _ else _
  cases h1:jV n us a b d with
  |true =>
   rw[h1]at q;have q:P (.bool (Gb d)):=q;cases hh:hasB ai 3 d with
   |false=>exact er ((Bt hh).symm.trans h1) ∅
   |true =>
    let⟨e,x,y,rfl,R⟩:=gF hh;have h1:(bH ai e&&(cQ true n us a b x&&(cQ true n us a b y&&!fD (pY x) (pY y))))=true:=h1;rw[Ì,Ì,Ì]at h1;have E:=c.row _ rfl x (Í _ Ó);have G:=c.row _ rfl y (Í _ (Í _ Ó));have i:=h1.2.1;have j:=h1.2.2.1;let⟨k,H,rfl,_⟩:=iz (by unfold cQ at i;rw[Ì]at i;exact i.1);let⟨l,I,rfl,_⟩:=iz (by unfold cQ at j;rw[Ì]at j;exact j.1);have q:P (.bool (!fD (dR ((k.map Â).map toI)) (dR ((l.map Â).map toI)))):=q;rw[aW,aW]at q;exact aB (B:=True) ⟨_,rfl,_,rfl,k,H,l,I,rfl,by have:=E _ rfl (iD k) Ó _ rfl;rwa [Ä]at this,by have:=G _ rfl (iD l) Ó _ rfl;rwa [Ä]at this,rfl,q⟩
  |false =>
   rw[h1]at q;have q:P (.bool (wL n us a b d || (o7 n us a b d || (lC n us a b d&&Dh n us a b)))):=q;refine aD (A:=True) ⟨n,us,a,b,d,rfl,L,c,?_⟩;cases h2:wL n us a b d with
   |true =>
    rw[h2]at q;exact aB (B:=True) (aB (B:=True) ⟨rfl,q⟩)
   |false =>
    rw[h2,Bool.false_or]at q;refine aD (A:=True) ⟨n,us,a,b,d,rfl,L,c,?_⟩;show if o7 n us a b d=true then _ else _
    cases m:o7 n us a b d with
    |true =>
     rw[m]at q;exact aB (B:=True) ⟨rfl,q⟩
    |false =>
     rw[m,Bool.false_or]at q;refine aD (A:=True) ⟨n,us,a,b,d,rfl,L,c,?_⟩;cases o:lC n us a b d with
     |false =>
      rw[o]at q;exact aD (A:=True) ⟨rfl,q⟩
     |true =>
      rw[o,ě]at q;refine aB (B:=True) ⟨n,us,a,b,rfl,J,(),(),ok,g,h,b0,b1,?_⟩;exact⟨rfl,q⟩
def iI(n:Int)(us:List Tie)(a b:Int)(d:D):Bool:=jV n us a b d || (lC n us a b d || o7 n us a b d)
def Lx:FF:=λds P=>∃n us a b d,ds=[au n us,.int a,.int b,d]/\Pl n us a b/\a≠b/\ThD d/\P (.bool (iI n us a b d))
def oF(F:Fun K ci ci (top 50) f fd)(B:Ĩ mg)(i:Pg P w K mg base)(j:V3 P w K mg base)(k:V1 P w K mg base)(l:V0 P w K mg base):FnOk P w K mg base CX0 8 f fd [aa,aI,a6,ac] (spD Lx):=by
 refine okT F (N:=[aa,aI,a6,ac]) zC (λhr nd=>Ç (Ů (ù i hr (À (Ã 0) (À (Ã 1) (À (Ã 2) Á)))))
  (Ç (ý (Đ (ù j hr (À (Ã 0) (À (Ã 1) (À (Ã 2) (À (Ã 3) Á)))))) (Ö (Ü Ĳ)) ä)
  (Ö (Ü (Wr.Kc (ù l hr (À (Ã 0) (À (Ã 1) (À (Ã 2) (À (Ã 3) Á))))) (Wr.cX (ù k hr (À (Ã 0) (À (Ã 1) (À (Ã 2) (À (Ã 3) Á))))))))))) ?_
 rintro ds P ⟨n,us,a,b,d,rfl,L,o,c,q⟩;refine⟨[.im (au n us),.im (.int a),.im (.int b),cg d],dD rfl,?_⟩;have h:=L;let⟨r,m,p,ok,e,g,b0,b1⟩:=h;refine⟨n,us,a,b,rfl,e,g,b0,b1,o,?_⟩;have q:P (.bool (jV n us a b d || (lC n us a b d || o7 n us a b d))):=q;rcases cj d with z|z
 all_goals
  rw[z];refine⟨n,us,a,b,d,rfl,e,g,b0,b1,c,?_⟩;show if jV n us a b d=true then _ else _
  cases h1:jV n us a b d with
  |true =>
   rw[h1]at q;exact aB (B:=True) ⟨rfl,q⟩
  |false =>
   rw[h1,Bool.false_or]at q;refine aD (A:=True) ⟨n,us,a,b,d,rfl,L,c,?_⟩;show if lC n us a b d=true then _ else _
   cases h2:lC n us a b d with
   |true =>
    rw[h2]at q;exact aB (B:=True) ⟨rfl,q⟩
   |false =>
    rw[h2,Bool.false_or]at q;exact aD (A:=True) ⟨n,us,a,b,d,rfl,L,c,rfl,q⟩
end
def Qc(xs:List D):å (.list xs) (.list [])=xs.isEmpty:=by cases xs <;> rfl
def StO(us:List Tie)(ps ks:List Int)(i:Nat):Prop:=∀k,ks[i]?=some k->(0<=k/\k<(⇑us:Nat))/\∃p q,ps[i]?=some p/\ps[i+1]?=some q/\us[k.toNat]?=some (mmT (p,q))
def Af{ps:List Int}{i:Nat}{p q:Int}(h1:ps[i]?=some p)(h2:ps[i+1]?=some q):(j7 ps)[i]?=some (p,q):=by
 unfold j7;have hi:=(Æ.mp h2).1;rw[List.getElem?_zip_eq_some];refine⟨?_,?_⟩
 ·rw[List.dropLast_eq_take,List.getElem?_take_of_lt ()];exact h1
 ·rw[List.getElem?_drop,Nat.add_comm];exact h2
def v7{n:Int}{us:List Tie}{a b:Int}{ps ks:List Int}(ok:OkN n us)(D:0<=a)(E:a<n):cQ true n us a b (.tuple [iD ps,iD ks])=true↔(⇑ps=⇑ks+1/\ps.head?=some a/\ps.getLast?=some b/\xG ps=true/\∀i,i<⇑ks->StO us ps ks i):=by
 have e:cQ true n us a b (.tuple [iD ps,iD ks])=(((((!(ps.map Â).isEmpty&&(ps.map Â).all (aK n)&&decide (((ps.map Â).map toI).head?=some a))&&decide (((ps.map Â).map toI).getLast?=some b))&&xG ((ps.map Â).map toI))&&(decide ((⇑(ks.map Â):Int)=(⇑(ps.map Â):Int) - 1)&&(ks.map Â).all (aK (⇑us:Int))))&&(((j7 ((ps.map Â).map toI)).zip ((ks.map Â).map toI)).all λp=>rF true us p.1 p.2)):=rfl;rw[e,aW,aW];simp only[Ì,ei,Ä,Ħ];constructor
 ·rintro⟨⟨⟨⟨⟨⟨h1,h2⟩,l⟩,v⟩,w⟩,L,M⟩,y⟩;have C:⇑ps=⇑ks+1:=by
   cases ps with
   |nil=>cases l
   |cons x r=>rw[ÿ]at L ⊢;lia
  refine⟨C,l,v,w,λi hi k hk=>?_⟩;have hb:=M (.int k) (Ć.mpr ⟨k,Ê hk,rfl⟩);have hb:0<=k/\k<(⇑us:Nat):=eh hb;have h:=Ë (show i<⇑ps by lia);have f:=Ë (show i+1<⇑ps by lia);refine⟨hb,_,_,h,f,?_⟩;have B:((j7 ps).zip ks)[i]?=some ((ps[i],ps[i+1]),k):=List.getElem?_zip_eq_some.mpr ⟨Af h f,hk⟩;have:=y _ (Ê B);exact eh this
 ·rintro⟨C,l,v,w,y⟩;have step:∀i,i<⇑ks->∃k p q,ks[i]?=some k/\ps[i]?=some p/\ps[i+1]?=some q/\(0<=k/\k<(⇑us:Nat))/\us[k.toNat]?=some (mmT (p,q)):=λi hi=>by
   have hk:=Ë hi;let⟨hb,p,q,h,f,m⟩:=y i hi _ hk;exact⟨_,p,q,hk,h,f,hb,m⟩
  have rng:∀x∈ps,0<=x/\x<n:=λx A=>by
   let⟨j,g,e⟩:=š.mp A;have u:ps[j]?=some x:=by rw[Ë g,e]
   cases j with
   |zero =>
    rw[←Ū,l]at u;cases u;exact⟨D,E⟩
   |succ i =>
    let⟨k,p,q,_,_,f,_,m⟩:=step i ();rw[u]at f;cases f;have t:=ok _ (Ê m);have s:0<=(if x<p then x else p)/\(if x<p then x else p)<n:=t.1;have t2:0<=(if x > p then x else p)/\(if x > p then x else p)<n:=t.2.1;by_cases c:x<p
    ·rw[el c]at s;exact s
    ·by_cases F:x > p
     ·rw[el F]at t2;exact t2
     ·have:x=p:=()
      subst this;rw[em c]at s;exact s
  refine⟨⟨⟨⟨⟨⟨?_,λd hd=>?_⟩,l⟩,v⟩,w⟩,(),λd hd=>?_⟩,λz B=>?_⟩
  ·cases ps with
   |nil=>cases l
   |cons x r=>rfl
  ·let⟨x,A,rfl⟩:=Ć.mp hd;exact decide_eq_true (rng x A)
  ·let⟨k,hk,rfl⟩:=Ć.mp hd;let⟨j,g,e⟩:=š.mp hk;let⟨N,_,_,o,_,_,hb,_⟩:=step j g;rw[Ë g,e]at o;cases o;exact decide_eq_true hb
  ·let⟨j,g,e⟩:=š.mp B;have K:((j7 ps).zip ks)[j]?=some z:=by rw[Ë g,e]
   let⟨h,f⟩:=List.getElem?_zip_eq_some.mp K;have g:=(Æ.mp f).1;let⟨k,p,q,o,I,J,hb,m⟩:=step j g;rw[Af I J]at h;rw[o]at f;have G:=Ô h;have H:=Ô f;show decide (us[z.2.toNat]?=some (mmT z.1))=true;rw[←G,←H];exact decide_eq_true m
def Wa{c:Bool}{A B:Prop}(h:c=true)(a:A):if c=true then A else B:=by rw[el h];exact a
def Xr{c:Bool}{A B:Prop}(h:c=false)(b:B):if c=true then A else B:=by rw[h,em Î];exact b
def QW:FF:=λds P=>∃n:Int,ds=[.int n]/\2<=n/\n<=16/\∀x y:Int,0<=x->x<n->0<=y->y<n->x≠y->P (.tuple [.int x,.int y])
def Gq:FF:=λds P=>∃n us a b,ds=[au n us,.int a,.int b]/\1<=n/\n<=16/\⇑us<=40/\OkN n us/\0<=a/\a<n/\0<=b/\b<n/\∀ps ks:List Int,⇑ps<=31->⇑ks<=31->(∀x∈ps,0<=x/\x<n)->(∀k∈ks,0<=k/\k<(⇑us:Nat))->ps≠[]->P (.tuple [iD ps,iD ks])
def onT(us:List Tie)(x:Int)(v:Nat):Bool:=match us[v]? with
 |some t=>decide (x∈[t.1,t.2])
 |none=>false
def Mu{α:Type}(l:List α)(j:Nat):dO l none (some ((j:Nat):Int))=l.take j:=by
 unfold dO;have a:HT.sIx ⇑l 0 none=0:=rfl;have b:HT.sIx ⇑l ⇑l (some ((j:Nat):Int))=min j ⇑l:=HT.wB ⇑l ⇑l j;rw[a,b,List.drop_zero,Nat.sub_zero];by_cases h:j<=⇑l
 ·rw[Nat.min_eq_left h]
 ·rw[Nat.min_eq_right (),ő (Õ _),ő ()]
theorem lay_ints:∀ns:List Int,ħ (ns.map Â)=true
 |[]=>rfl
 |n::ns=>lay_ints ns
theorem Ay:∀ns:List Int,Ķ (ns.map Â)<=0
 |[]=>Õ _
 |n::ns=>by
  show max 0 (Ķ (ns.map Â))<=0;have:=Ay ns;lia
def VN{o:List Int}(a:⇑o<=64)(hr:∀x∈o,0<=x/\x<16):(ē (o.map Â)).layable0=true:=by
 have w:∀l:List Int,(∀x∈l,0<=x/\x<16)->PyData.weightAll (l.map Â)<=6 * ⇑l:=λl=>by
  induction l with
  |nil=>exact λ_=>Õ _
  |cons x l ih =>
   intro hl;have c:=hl x Ó;have:=ih λy hy=>hl y (Í _ hy);have e:(if(x==0)=true then 0 else x.natAbs.log2+1)<=5:=by
    by_cases z:x.natAbs=0
    ·rw[show x=0 by lia];decide
    ·have:=(Nat.log2_lt (k:=4) z).mpr ();split <;> lia
   show(if(x==0)=true then 0 else x.natAbs.log2+1)+1+PyData.weightAll (l.map Â)<=6 * (⇑l+1);lia
 have h1:=lay_ints o;have h2:=Ay o;have b:=w o hr;show(ħ (o.map Â)&&decide (Ķ (o.map Â)+1<=64)&&decide (PyData.weightAll (o.map Â)<=2 ^ 20))=true;rw[h1,decide_eq_true (),decide_eq_true ()];rfl
structure Stl(n:Int)(m:Nat)(i:Nat)(ps ks:List Int):Prop where
 lp:⇑ps<=i+1
 lk:⇑ks<=i
 rp:∀x∈ps,0<=x/\x<n
 rk:∀k∈ks,0<=k/\k<(m:Nat)
 ne:ps≠[]
def Stl.up{n:Int}{m i:Nat}{ps ks:List Int}(h:Stl n m i ps ks):Stl n m (i+1) ps ks:=⟨by have:=h.lp;lia,by have:=h.lk;lia,h.rp,h.rk,h.ne⟩
abbrev RSt(K:á)(n:Int)(us:List Tie)(a b:Int)(ps ks:List Int):List Sl:=[.pen (CP K),.im (au n us),.im (.int a),.im (.int b),.dw 0 (iD ps),.dw 1 (iD ks),.any,.any,.any,.any,.any]
def pW:FnScope [ae,a8,ak] [ae,a8] (aH (top 57)):=zC
def zJ(F:Fun K d4 d4 (top 57) f fd)(B:Ĩ mg)(c:kA0 P w K mg base):FnOk P w K mg base CX0 2 f fd [ae,a8] (spP (CP K) QW):=by
 refine F.ok pW jO (λcdv A outer s H vs Q E hr h=>?_);have e:=pW.nd;refine⟨_,Wr.WDSs.h (Ç (ê none (i:=2) e rfl zQ (Ũ c hr (ĵ 0) (À (Ã 1) Á)))
  (Ö (Ü (ï (À (Ã 2) (À (Wr.rZ (Ō (Ō (Ã 2) È) (Ũ c hr (ĵ 0) (À (Wr.fO (Ã 1) È) Á))) (Ã 1)) Á)))))),enterQ h ?_⟩
 rintro ds P ⟨n,rfl,g,d,q⟩;refine⟨[.im (.int n),.any],rfl,?_⟩;refine⟨rfl,n,rfl,(),(),λa a0 a1=>⟨rfl,n - 1,rfl,(),(),λb b0 b1=>⟨(show(0:Int)<n by lia),zK,rfl,?_⟩⟩⟩;have h1:=Ų (a+1+b) (b:=n) ();have h2:=Ř (a+1+b) (b:=n) ();refine q a _ a0 a1 h1 h2 ?_;by_cases h:a+1+b<n
 ·rw[Int.emod_eq_of_lt () h];lia
 ·rw[←Int.sub_emod_right,Int.emod_eq_of_lt () ()];lia
def j5:FnScope [ae,ad,ak,al,"_law_places","_law_row",aS,ag,bX,"_law_there","_law_at"] [ae,ad,ak,al] (aH (top 58)):=zC
def qC:([ba,ae,ad,ak,al,"_law_places","_law_row",aS,ag,bX,"_law_there","_law_at"]:List Str).Nodup:=⋯
def uJ(F:Fun K dt dt (top 58) f fd)(B:Ĩ mg)(Y:mg "sum"=none)(Z:kA0 P w K mg base):FnOk P w K mg base CX0 2 f fd [ae,ad,ak,al] (spP (CP K) Gq):=by
 refine F.ok j5 jO (λcdv A outer s H vs Q E hr h=>?_);have l:=j5.nd;refine⟨_,Wr.WDSs.h (Ç (ê (some 0) (i:=4) l rfl zQ (ø (À (Ã 2) Á)))
  (Ç (ê (some 1) (i:=5) l rfl zQ (ø Á))
  (Ç (Ġ ð rfl (ģ B.range (À È Á)) (ß (i:=6) l rfl zQ) (Ç (Wr.gJ none [ba] (i:=7) rfl l rfl zQ (ģ B.range (À (ŧ B.len (À (Ñ (Ã 1) È) Á)) Á)) (λc=>(ß (i:=0) qC rfl zQ)) (λc=>(ŭ (Wr.gZ hr.units (Ñ (Ã 5) (Wr.fP È)) (Ñ (Ñ (Ã 2) È) (Ã 0))))) (λc=>(Ã 0)))
  (Ç (ý (Wr.wpt (Wr.cD (Wr.cF hr.units (Ñ (Ã 4) (Wr.fP È)) (Ã 3)) (Wr.cW (Wr.cF hr.units (Ã 7) (ø Á))))) (Ç (ê none (i:=8) l rfl zQ (Ñ (Ã 7) (Ũ Z hr (ĵ 0) (À (ŧ B.len (À (Ã 7) Á)) Á))))
  (Ç (ê none (i:=9) l rfl zQ (Wr.fO (Wr.qN rfl Y (À (Ñ (Ñ (Ã 1) È) (Ã 8)) Á)) (Ñ (Ã 4) (Wr.fP È))))
  (Ö (ý (Wr.gZ hr.units (Ã 9) (Ã 4)) (Ç (ê none (i:=10) l rfl zQ (Wr.su (Ã 4) (À (Ã 9) Á)))
  (Ç (ê (some 0) (i:=4) l rfl zQ (Wr.u5 (Ã 4) Wr.jQ (Wr.dM (Ō (Ã 10) È))))
  (Ö (ê (some 1) (i:=5) l rfl zQ (Wr.u5 (Ã 5) Wr.jQ (Wr.dM (Ã 10))))))) (Ç (Œ (ĵ 4) (À (Ã 9) Á))
  (Ö (Œ (ĵ 5) (À (Ã 8) Á)))))))) ä) (ç [6,7,8,9,10] ä))))
  (ç [6,7,8,9,10] (Ö (Ü (ï (À (Ã 4) (À (Ã 5) Á))))))))),enterQ h ?_⟩
 rintro ds P ⟨n,us,a,b,rfl,n1,n16,lu,ok,W,X,b0,b1,q⟩;refine⟨[.im (au n us),.im (.int a),.im (.int b),.any,.any,.any,.any,.any,.any,.any],dD rfl,?_⟩;have J:⇑(us.map pD)=⇑us:=Ä ..;refine⟨zK,zK,⟨∅,∅⟩,rfl,λi ρ=>∃ps ks,ρ=RSt K n us a b ps ks/\Stl n ⇑us i ps ks,⟨[a],[],rfl,⟨Õ _,Õ _,λx C=>by rw[É.mp C];exact⟨W,X⟩,λk hk=>(nomatch hk),by simp⟩⟩,?_,?_⟩
 ·rintro i d ρ hd ⟨ps,ks,rfl,S⟩;let⟨hi,rfl⟩:=bR hd;obtain⟨x,C⟩:∃x,ps.getLast?=some x:=⟨_,List.getLast?_eq_some_getLast S.ne⟩
  have D:atI (ps.map Â) (-1)=some (.int x):=GD C;have mx:=List.mem_of_getLast? C;have rx:=S.rp x mx;have lps:⇑(ps.map Â)=⇑ps:=Ä ..;have o:∀(k:Int)(t:Tie),0<=k->us[k.toNat]?=some t->atI (us.map pD) k=some (pD t):=λk t k0 ht=>by
   have:=bJ (xs:=us.map pD) (j:=k.toNat) (v:=pD t) (by rw[à,ht];rfl)
   rwa [show((k.toNat:Nat):Int)=k by lia]at this
  refine⟨.tuple (us.map pD),rfl,⟨(),()⟩,jr (Þ ⇑us) (λv=>Â (0+((v:Nat):Int))) (onT us x) (λv=>Â (0+((v:Nat):Int))) .imm (by rw[J,Ĵ];rfl) (by rw[č];lia) (λv hv A B h1 h2=>?_) ?_⟩
  ·have hv:=Ď.mp hv;have ht:=Ë hv;generalize us[v]=t at ht;have eo:onT us x v=decide (x∈[t.1,t.2]):=by unfold onT;rw[ht]
   rw[eo]at h1 h2;refine⟨.int x,D,.tuple (us.map pD),rfl,pD t,o _ t () (by rw[show(0+((v:Nat):Int)).toNat=v by lia];exact ht),rfl,ň [t.1,t.2],?_⟩;show if(([t.1,t.2].map Â).any λe=>å e (.int x))=true then _ else _
   rw[Č];cases hc:decide (x∈[t.1,t.2])with
   |true=>exact aB (B:=True) ⟨rfl,h1 hc⟩
   |false=>exact aD (A:=True) (h2 hc)
  obtain⟨L,eL,hL,lL⟩:∃L:List Int,((Þ ⇑us).filter (onT us x)).map (λv=>Â (0+((v:Nat):Int)))=L.map Â/\(∀k∈L,0<=k/\∃t,us[k.toNat]?=some t/\x∈[t.1,t.2])/\⇑L<=40:=by
   refine⟨((Þ ⇑us).filter (onT us x)).map λv=>0+((v:Nat):Int),by rw[Ė];rfl,λk hk=>?_,?_⟩
   ·let⟨v,hv,rfl⟩:=Ć.mp hk;let⟨h1,h2⟩:=æ.mp hv;have ht:=Ë (Ď.mp h1);refine⟨(),_,by rw[show(0+((v:Nat):Int)).toNat=v by lia];exact ht,?_⟩;unfold onT at h2;rw[ht]at h2;exact eh h2
   ·have:=ā (onT us x) (Þ ⇑us);rw[č]at this;rw[Ä];lia
  rw[eL];show iR _ _ _ [.pen (CP K),.im (au n us),.im (.int a),.im (.int b),.dw 0 (iD ps),.dw 1 (iD ks),.im (.int (0+((i:Nat):Int))),.sn (iD L),.any,.any,.any];have V:∀s8 s9 s10:Sl,pJ [6,7,8,9,10] nG { nx:=λρ=>∃ps ks,ρ=RSt K n us a b ps ks/\Stl n ⇑us (i+1) ps ks,rt:=P } [.pen (CP K),.im (au n us),.im (.int a),.im (.int b),.dw 0 (iD ps),.dw 1 (iD ks),.im (.int (0+((i:Nat):Int))),.sn (iD L),s8,s9,s10]:=λ_ _ _=>⟨ps,ks,rfl,S.up⟩
  refine⟨.int x,D,?_⟩;by_cases N:x=b
  ·exact Xr (c:=!decide (x=b)) (by rw[decide_eq_true N];rfl) ⟨ps,ks,rfl,S.up⟩
  refine Wa (c:=!decide (x=b)) (by rw[eg N];rfl) ⟨zK,Kv L,rfl,?_⟩;show if(!(å (.list (L.map Â)) (.list [])))=true then _ else _
  rw[Qc];cases m:L with
  |nil=>exact aD (A:=True) ⟨ps,ks,rfl,S.up⟩
  |cons k0 L0 =>
  rw[←m];refine Wa (by rw[m];rfl) ?_;have lm:⇑(L.map Â)=⇑L:=Ä ..;have l0:1<=⇑L:=by rw[m];simp
  refine⟨rfl,_,rfl,(),(),λr r0 T=>?_⟩;have T:r<(⇑(L.map Â):Int):=T;obtain⟨k,hk,mk⟩:∃k,atI (L.map Â) r=some (.int k)/\k∈L:=by
   have u:r.toNat<⇑L:=()
   have:=bJ (xs:=L.map Â) (j:=r.toNat) (v:=.int L[r.toNat]) (by rw[à,Ë u];rfl);rw[show((r.toNat:Nat):Int)=r by lia]at this;exact⟨_,this,į u⟩
  let⟨I,t,ht,G⟩:=hL k mk;have klt:=(Æ.mp ht).1;have aw:=o k t I ht;let⟨⟨o1,o2⟩,⟨o3,o4⟩,o5⟩:=ok t (Ê ht);refine⟨.int k,hk,?_⟩;have Si:=S.lp;have R:⇑ps<=31:=by have z:i<30:=hi;lia
  refine⟨.tuple (us.map pD),rfl,pD t,aw,[t.1,t.2],rfl,zK,λy g=>?_,.int x,D,?_⟩
  ·rcases Û.mp g with rfl|g
   ·lia
   ·rw[É.mp g];lia
  rw[show [t.1,t.2].sum=t.1+t.2 by simp];have U:0<=t.1+t.2 - x/\t.1+t.2 - x<n:=by
   rcases Û.mp G with rfl|h
   ·lia
   ·rw[É.mp h];lia
  refine⟨rfl,ň ps,?_⟩;show if((ps.map Â).any λe=>å e (.int (t.1+t.2 - x)))=true then iR _ _ _ [.pen (CP K),.im (au n us),.im (.int a),.im (.int b),.dw 0 (iD ps),.dw 1 (iD ks),.im (.int (0+((i:Nat):Int))),.sn (iD L),.im (.int k),.im (.int (t.1+t.2 - x)),.any]else iR _ _ _ [.pen (CP K),.im (au n us),.im (.int a),.im (.int b),.dw 0 (iD ps),.dw 1 (iD ks),.im (.int (0+((i:Nat):Int))),.sn (iD L),.im (.int k),.im (.int (t.1+t.2 - x)),.any]
  generalize t.1+t.2 - x=z at U;rw[Č];cases hz:decide (z∈ps)with
  |true =>
   refine aB (B:=True) ⟨ps,rfl,VN () (λy g=>by have:=S.rp y g;lia),eh hz,?_⟩;have O:dO (ps.map Â) none (some (((ps.idxOf z:Nat):Int)+1))=(ps.take (ps.idxOf z+1)).map Â:=by
    rw[show((ps.idxOf z:Nat):Int)+1=((ps.idxOf z+1:Nat):Int) by lia,Mu,List.map_take]
   have p:dO (ks.map Â) none (some ((ps.idxOf z:Nat):Int))=(ks.take (ps.idxOf z)).map Â:=by
    rw[Mu,List.map_take]
   refine .inl ⟨by rw[O];exact dg _,?_⟩;rw[O];refine .inl ⟨by rw[p];exact dg _,?_⟩;rw[p];have M:=S.up;refine⟨ps.take (ps.idxOf z+1),ks.take (ps.idxOf z),rfl,⟨?_,?_,λy g=>S.rp y (Ń g),λy g=>S.rk y (Ń g),λh=>?_⟩⟩
   ·have:=List.length_take_le (ps.idxOf z+1) ps;have:=List.length_take_le' (ps.idxOf z+1) ps;have:=M.lp;lia
   ·have:=List.length_take_le' (ps.idxOf z) ks;have:=M.lk;lia
   ·have:=List.length_pos_iff.mpr S.ne;have z0:=et List.length h;rw[ć,List.length_nil]at z0;lia
  |false =>
   have lks:⇑(ks.map Â)=⇑ks:=Ä ..;have Sk:=S.lk;have e1:ē (ps.map Â++[.int z])=iD (ps++[z]):=by unfold iD;rw[ì];rfl
   have e2:ē (ks.map Â++[.int k])=iD (ks++[k]):=by unfold iD;rw[ì];rfl
   refine aD (A:=True) ⟨rfl,(),rfl,by have z:i<30:=hi;lia,ps++[z],ks++[k],?_,⟨?_,?_,λy g=>?_,λy g=>?_,by simp⟩⟩
   ·show([.pen (CP K),.im (au n us),.im (.int a),.im (.int b),.dw 0 (.list (ps.map Â++[.int z])),.dw 1 (.list (ks.map Â++[.int k])),.any,.any,.any,.any,.any]:List Sl)=_;rw[e1,e2]
   ·rw[Ð,í];lia
   ·rw[Ð,í];lia
   ·rcases ë.mp g with h|h
    ·exact S.rp y h
    ·rw[É.mp h];exact U
   ·rcases ë.mp g with h|h
    ·exact S.rk y h
    ·rw[É.mp h];lia
 ·rintro ρ ⟨ps,ks,rfl,S⟩;have lp:=S.lp;have lk:=S.lk;refine⟨zK,rfl,q ps ks ?_ ?_ S.rp S.rk S.ne⟩
  ·have z:⇑ps<=30+1:=lp;lia
  ·have z:⇑ks<=30:=lk;lia
def TG(d:D):Prop :=
 (∃p q r s:List Int,d=.tuple [.str ai,.tuple [iD p,iD q],.tuple [iD r,iD s]]/\⇑p<=60/\⇑q<=60/\⇑r<=60/\⇑s<=60)∨
 (∃(w:Str)(k:Int)(l:List Int),d=.tuple [.str w,.int k,iD l]/\(w=am\/w=af)/\⇑l<=60)∨
 (∃l:List Int,d=.tuple [.str ah,iD l]/\⇑l<=60)
def TGs(m:Nat)(L:List D):Prop:=(∀d∈L,TG d)/\⇑L<=m
def TGs.app{m k:Nat}{L M:List D}(h:TGs m L)(g:TGs k M):TGs (m+k) (L++M) :=
 ⟨λx hx=>(ë.mp hx).elim (h.1 x) (g.1 x),by rw[Ð];have:=h.2;have:=g.2;lia⟩
def TGs.one{d:D}(h:TG d):TGs 1 [d]:=⟨λx hx=>by rw[É.mp hx];exact h,Õ _⟩
def TGs.mono{m k:Nat}{L:List D}(h:TGs m L)(g:m<=k):TGs k L:=⟨h.1,ą h.2 g⟩
def QS:FF:=λds P=>∃n us a b,ds=[au n us,.int a,.int b]/\1<=n/\n<=16/\⇑us<=40/\OkN n us/\0<=a/\a<n/\0<=b/\b<n/\∀L:List D,TGs 200 L->P (.list L)
abbrev RSo(K:á)(n:Int)(us:List Tie)(a b:Int)(L:List D)(t:List Sl):List Sl:=.pen (CP K)::.im (au n us)::.im (.int a)::.im (.int b)::.sp 0 true L::t
theorem Nz{P:DEnds}{ρ:List Sl}{i:Nat}{k:Kd}{d:D}(hk:norm k d=.snw)(h:P.nx (ρ.set i (.sn d))):(match stK none ρ i (norm k d) d with
 |some s=>P.nx (ρ.set i s)
 |none=>False):=by
 rw[hk];exact h
def StW(d:D):Prop:=∃ps ks:List Int,d=.tuple [iD ps,iD ks]/\⇑ps<=31/\⇑ks<=31
def pU:FnScope [ae,ad,ak,al,ag,bX,"_law_v","_law_strolls",a9] [ae,ad,ak,al] (aH (top 59)):=zC
def uL:([ba,ae,ad,ak,al,ag,bX,"_law_v","_law_strolls",a9]:List Str).Nodup:=⋯
def uK:([aE,ae,ad,ak,al,ag,bX,"_law_v","_law_strolls",a9]:List Str).Nodup:=⋯
def zH(F:Fun K d5 d5 (top 59) f fd)(B:Ĩ mg)(u:ĉ P w K mg base 1 "_law_met" [ad,du,c5,da] (spD Wx))(N:ĉ P w K mg base 2 dt [ae,ad,ak,al] (spP (CP K) Gq)):FnOk P w K mg base CX0 3 f fd [ae,ad,ak,al] (spP (CP K) QS):=by
 refine F.ok pU jO (λcdv A outer s H vs Q E hr h=>?_);have t:=pU.nd;refine⟨_,Wr.WDSs.h (Ç (Wr.xX 0 true (i:=4) t rfl zQ (À (ï (À ġ (À (ù u hr (À (Ã 1) (À (Ã 2) (À (ø Á) (À (ø Á) Á))))) Á))) Á))
  (Ç (Ġ ð rfl (ģ B.range (À (ŧ B.len (À (Ñ (Ã 1) È) Á)) Á)) (ß (i:=5) t rfl zQ) (Ç (Wr.jP (ĵ 4) (À (ï (À ġ (À (Ã 5) (À (ù u hr (À (Ã 1) (À (Ã 2) (À (ø (À (Ã 5) Á)) (À (ø Á) Á))))) Á)))) Á)) (ç [5] ä)))
  (ç [5] (Ç (Ġ ð rfl (ģ B.range (À (Ñ (Ã 1) È) Á)) (ß (i:=6) t rfl zQ) (Ç (ý (Ģ hr.units (Ã 6) (ï (À (Ã 2) (À (Ã 3) Á)))) (Ç (Wr.jP (ĵ 4) (À (ï (À ġ (À (Ã 6) (À (ù u hr (À (Ã 1) (À (Ã 2) (À (ø Á) (À (ø (À (Ã 6) Á)) Á))))) Á)))) Á))
  (Ö (Wr.jP (ĵ 4) (À (ï (À ġ (À (ù u hr (À (Ã 1) (À (Ã 2) (À (ø Á) (À (ø (À (Ã 6) Á)) Á))))) Á))) Á)))) ä) (ç [6] ä)))
  (ç [6] (Ç (Wr.gJ none [ba] (i:=7) rfl t rfl zQ (ģ B.range (À È Á)) (λc=>(ß (i:=0) uL rfl zQ)) (λc=>ō) (λc=>(Ũ N hr (ĵ 1) (À (Ã 2) (À (Ã 3) (À (Ã 4) Á))))))
  (Ç (Ġ ð rfl (Ċ (Ã 7)) (ß (i:=8) t rfl zQ) (Ç (Wr.xZ (ĵ 4) (À (ř [aE] rfl (Ċ (Ã 7)) (λc=>(ß (i:=0) uK rfl zQ)) (λc=>ō) (λc=>(ï (À ġ (À (Ã 9) (À (Ã 0) Á)))))) Á)) (ç [8] ä)))
  (ç [8] (Wr.xY 4 (Ö (Ü (Ã 4)))))))))))),enterQ h ?_⟩
 rintro ds P ⟨n,us,a,b,rfl,r,m,S,ok,o,p,b0,b1,q⟩;refine⟨[.im (au n us),.im (.int a),.im (.int b),.any,.any,.any,.any,.any],dD rfl,?_⟩;have T:⇑(us.map pD)=⇑us:=Ä ..;have y:∀us':List Tie,⇑(rsI us' n.toNat a)<=60:=λus'=>by have:=wC us' n.toNat a;lia
 refine⟨zK,zK,n,us,a,[],[],rfl,r,m,(),ok,o,p,zK,zK,?_⟩;refine⟨rfl,rfl,.tuple (us.map pD),rfl,⟨(),()⟩,rfl,λ(i:Nat) ρ=>∃L,ρ=RSo K n us a b L [.any,.any,.any,.any]/\TGs (1+i) L,⟨_,rfl,TGs.one (.inr (.inr ⟨_,rfl,y _⟩))⟩,?_,?_⟩
 ·rintro i d ρ hd ⟨L,rfl,g⟩;let⟨hi,rfl⟩:=bR hd;have hi:i<(⇑(us.map pD):Int).toNat:=hi;have l:=g.2;refine⟨zK,zK,n,us,a,[0+((i:Nat):Int)],[],rfl,r,m,(),ok,o,p,zK,rfl,(),_,rfl,g.app (TGs.one (.inr (.inl ⟨am,_,_,rfl,.inl rfl,y _⟩)))⟩
 rintro ρ ⟨L,rfl,g⟩;have g:=g.mono (k:=41) (by rw[Ŭ];lia);refine⟨.int n,rfl,⟨(),()⟩,rfl,λ(i:Nat) ρ=>∃L,ρ=RSo K n us a b L [.any,.any,.any,.any]/\TGs (41+2 * i) L,⟨L,rfl,g⟩,?_,?_⟩
 ·rintro i d ρ hd ⟨L,rfl,g⟩;let⟨hi,rfl⟩:=bR hd;have l:=g.2;have U:TG (.tuple [.str af,.int (0+((i:Nat):Int)),iD (rsI (adj us [] [0+((i:Nat):Int)]) n.toNat a)]):=.inr (.inl ⟨af,_,_,rfl,.inr rfl,y _⟩);have M:TG (.tuple [.str ah,iD (rsI (adj us [] [0+((i:Nat):Int)]) n.toNat a)]):=.inr (.inr ⟨_,rfl,y _⟩);refine⟨zK,rfl,rfl,?_⟩;show if(!([Â a,.int b].any λe=>å e (.int (0+((i:Nat):Int)))))=true then _ else _
  refine d8 (λc=>?_) (λc=>⟨L,rfl,g.mono ()⟩);refine⟨zK,zK,n,us,a,[],[0+((i:Nat):Int)],rfl,r,m,(),ok,o,p,zK,rfl,(),?_⟩;refine⟨zK,zK,n,us,a,[],[0+((i:Nat):Int)],rfl,r,m,(),ok,o,p,zK,rfl,by rw[Ð,í];lia,_,rfl,((g.app (TGs.one U)).app (TGs.one M)).mono ()⟩
 rintro ρ ⟨L,rfl,g⟩;have g:=g.mono (k:=73) (by rw[Ŭ];lia);refine⟨⟨∅,∅⟩,zK,.snw,λi ys=>(∀d∈ys,StW d)/\⇑ys=i,⟨λd hd=>(nomatch hd),rfl⟩,?_,?_⟩
 ·rintro i d ys hd ⟨h1,h2⟩;refine aB (B:=True) ⟨rfl,n,us,a,b,rfl,r,m,S,ok,o,p,b0,b1,λps ks J I hp hk _=>⟨rfl,λx hx=>?_,by rw[Ð,í,h2]⟩⟩;rcases ë.mp hx with z|z
  ·exact h1 x z
  ·rw[É.mp z];exact⟨ps,ks,rfl,J,I⟩
 rintro ys ⟨hs,hl⟩;have hl:⇑ys=8:=hl;refine Nz (ρ:=RSo K n us a b L [.any,.any,.any,.any]) (i:=7) (k:=.snw) (d:=.list ys) rfl ?_;refine⟨rfl,λ(i:Nat) ρ=>∃L,ρ=RSo K n us a b L [.any,.any,.sn (.list ys),.any]/\TGs (73+8 * i) L,⟨L,rfl,g⟩,?_,?_⟩
 ·rintro i d ρ hd ⟨L,rfl,g⟩;have l:=g.2;have hi:=(Æ.mp hd).1;let⟨ps,ks,rfl,J,I⟩:=hs d (Ê hd);show iR _ _ _ (RSo K n us a b L [.any,.any,.sn (.list ys),.sn (.tuple [iD ps,iD ks])]);refine⟨(),.snw,λj G=>TGs j G,⟨λd hd=>(nomatch hd),Õ _⟩,?_,?_⟩
  ·rintro j e G he v;let⟨D,C,rfl,R,O⟩:=hs e (Ê he);refine aB (B:=True) ⟨zK,rfl,v.app (TGs.one (.inl ⟨ps,ks,D,C,rfl,(),(),(),()⟩))⟩
  ·rintro G v;have V:=v.2;exact⟨rfl,(),_,rfl,(g.app v).mono ()⟩
 rintro ρ ⟨L,rfl,g⟩;exact⟨rfl,rfl,q L (g.mono (by rw[hl];lia))⟩
def o9:SM:=[(ah,.list [.str ah]),(am,.list [.str af,.str am]),(ai,.list [.str af,.str ai])]
def WX:FF:=λds P=>∃s t:Str,ds=[.list [.str s,.str t]]/\((s=ah/\t=ah)\/(s=am/\(t=af\/t=am))\/(s=ai/\(t=af\/t=ai)))/\P (.bool true)
def wdS:D->Str
 |.tuple (.str w::_)=>w
 |_=>""
def TG.form{d:D}(h:TG d):∃(w:Str)(c:List D),d=.tuple (.str w::c)/\cC c=false/\(∀e∈c,(∀xs,e=.list xs->⇑xs<=400)/\∀xs,e=.tuple xs->∀x∈xs,∀ys,x=.list ys->⇑ys<=400):=by
 have b:∀l:List Int,⇑l<=60->(∀xs,iD l=.list xs->⇑xs<=400)/\∀xs,iD l=.tuple xs->∀x∈xs,∀ys,x=.list ys->⇑ys<=400:=λl hl=>⟨λxs e=>by
  cases e;rw[Ä];lia,λxs e=>nomatch e⟩
 have a:∀l m:List Int,⇑l<=60->⇑m<=60->(∀xs,Ŏ [iD l,iD m]=.list xs->⇑xs<=400)/\∀xs,Ŏ [iD l,iD m]=.tuple xs->∀x∈xs,∀ys,x=.list ys->⇑ys<=400:=λl m hl hm=>⟨λxs e=>(nomatch e),λxs e=>by
  cases e;exact λx hx ys e=>by
   simp only[Û,Ý,or_false]at hx;rcases hx with rfl|rfl
   ·exact(b l hl).1 ys e
   ·exact(b m hm).1 ys e⟩
 rcases h with⟨p,q,r,s,rfl,g,i,j,n⟩|⟨w,k,l,rfl,_,f⟩|⟨l,rfl,f⟩
 ·refine⟨_,_,rfl,rfl,λe he=>?_⟩;simp only[Û,Ý,or_false]at he;rcases he with rfl|rfl
  ·exact a p q g i
  ·exact a r s j n
 ·refine⟨_,_,rfl,rfl,λe he=>?_⟩;simp only[Û,Ý,or_false]at he;rcases he with rfl|rfl
  ·exact⟨λxs e=>(nomatch e),λxs e=>nomatch e⟩
  ·exact b l f
 ·refine⟨_,_,rfl,rfl,λe he=>?_⟩;simp only[Û,Ý,or_false]at he;rw[he];exact b l f
def TG.th{d:D}(h:TG d):ThD d:=by
 let⟨w,b,rfl,_,he⟩:=h.form;refine⟨λes' e x a xs ex=>?_,λes' e x a xs ex y hy ys ey=>?_⟩
 ·cases e;rcases Û.mp a with rfl|a
  ·cases ex
  ·exact(he x a).1 xs ex
 ·cases e;rcases Û.mp a with rfl|a
  ·cases ex
  ·exact(he x a).2 xs ex y hy ys ey
def TG.im{d:D}(h:TG d):¬cM d=true:=by
 let⟨w,a,rfl,im,_⟩:=h.form;show ¬(true&&cC a)=true;rw[im];decide
structure Fit(n:Int)(us:List Tie)(a b:Int)(s t:Str)(d:D):Prop where
 ft:iI n us a b d=true->wdS d=s
 fp:iV n us a b d=true->wdS d=t
 pl:iV n us a b d=true->iI n us a b d=false->wdS d=af
def Dz{i:Nat}{k:Kd}{d:D}{ρ:List Sl}{P:List Sl->Prop}(h:¬cM d=true)(q:P (ρ.set i (rH k d))):gNm i (norm k d) d ρ P:=by
 show P (ρ.set i (rH (norm (norm k d) d) d));rw[bM h,bM h];exact q
def Wv:FF:=λds P=>∃n us a b L s t,ds=[au n us,.int a,.int b,.list L,.list [.str s,.str t]]/\Pl n us a b/\a≠b/\⇑L<=300/\(∀d∈L,TG d)/\(∀d∈L,Fit n us a b s t d)/\P (.bool true)
def lG:FnScope [av,"_law_fit"] [av] (aH (top 61)):=zC
def xg(F:Fun K dE dE (top 61) f fd)(B:Ĩ mg):FnOk P w K mg base CX0 1 f fd [av] (spD WX):=by
 refine F.ok lG mQ (λcdv A outer s H vs Q E hr h=>?_);have j:=lG.nd;refine⟨_,@Wr.WDSs.h _ _ _ _ (Ç (ê none (i:=1) j rfl zQ (Wr.Kg (Wr.wK ġ (ø (À ġ Á)) (Wr.wK ġ (ø (À ġ (À ġ Á))) (Wr.wK ġ (ø (À ġ (À ġ Á))) Wr.R5)))))
  (Ö (Ü (ŵ (Wr.CQ hr.units (Ñ (Ã 0) È) (Ã 1)) (Wr.cX (Wr.u9 hr.units (Ñ (Ã 0) È) (Wr.sH hr.units (Ã 1) (Ñ (Ã 0) È)))))))),Ma h ?_⟩
 rintro ds P ⟨s,t,rfl,h,q⟩;refine⟨[.sh (.list [.str s,.str t]),.any],rfl,?_⟩;refine⟨zK,rfl,zK,rfl,zK,rfl,⋯,(show 3<=15 by decide),?_⟩;have m:¬cM (.dict (skD o9))=true:=λz=>nomatch z;have g:Dl.stK none [Sl.sh (.list [.str s,.str t]),Sl.any] 1 (norm .new (.dict (skD o9))) (.dict (skD o9))=some (.sn (.dict (skD o9))):=by
  rw[bM m];rfl
 refine iB (k:=.new) (d:=.dict (skD o9)) g ?_;have c:PL o9 s=true:=by rcases h with⟨rfl,_⟩|⟨rfl,_⟩|⟨rfl,_⟩ <;> decide +kernel
 refine⟨.str s,rfl,o9,rfl,?_⟩;show if PL o9 s=true then _ else _
 rw[c];refine aB (B:=True) ⟨.str t,rfl,.str s,rfl,o9,?_⟩;have b:∀l:List D,HJ o9 s=some (.list l)->okD (.str t)=true->l.all okD=true->(l.any λe=>å e (.str t))=true->∃d,skD o9=skD o9/\HJ o9 s=some d/\(λk2 d2=>gIn false (norm Kd.shr (PyData.str t)) (PyData.str t) k2 d2 λk d=>k.le Kd.n0=true/\P d) (norm Kd.snw d) d:=λl e o1 o a =>
  ⟨_,rfl,e,o1,o,rfl,by
   show P (.bool (l.any λe=>å e (.str t)));rw[a];exact q⟩
 clear c;rcases h with⟨rfl,rfl⟩|⟨rfl,rfl|rfl⟩|⟨rfl,rfl|rfl⟩
 ·exact b [.str ah] rfl ⋯ ⋯ ⋯
 ·exact b [.str af,.str am] rfl ⋯ ⋯ ⋯
 ·exact b [.str af,.str am] rfl ⋯ ⋯ ⋯
 ·exact b [.str af,.str ai] rfl ⋯ ⋯ ⋯
 ·exact b [.str af,.str ai] rfl ⋯ ⋯ ⋯
abbrev VR(P w K mg base):=ĉ P w K mg base 8 ci [aa,aI,a6,ac] (spD Lx)
abbrev VP(P w K mg base):=ĉ P w K mg base 8 bv [aa,aI,a6,ac] (spD DW)
def w6(F:Fun K dL dL (top 60) f fd)(B:Ĩ mg)(r:VR P w K mg base)(u:VP P w K mg base):FnOk P w K mg base CX0 9 f fd [ad,ak,al,ag,av] (spD Wv):=by
 refine okT F (N:=[ad,ak,al,ag,av,"_law_thing","_law_by_tie","_law_by_place"]) zC (λhr nd=>Ç (Ġ ð rfl (Ċ (Ã 3)) (ß (i:=5) nd rfl zQ) (Ç (ê none (i:=6) nd rfl zQ (ù r hr (À (Ã 0) (À (Ã 1) (À (Ã 2) (À (Ã 5) Á))))))
  (Ç (ê none (i:=7) nd rfl zQ (ù u hr (À (Ã 0) (À (Ã 1) (À (Ã 2) (À (Ã 5) Á))))))
  (Ç (ý (Wr.wpt (Ŵ (Wr.wpt (Wr.cD (Đ (Ã 6)) (Wr.cW (Wr.cF hr.units (Ñ (Ã 5) È) (Ñ (Ã 4) È))))) (ž (Wr.wpt (Wr.cD (Đ (Ã 7)) (Wr.cW (Wr.cF hr.units (Ñ (Ã 5) È) (Ñ (Ã 4) È)))))))) (Ö (Ü Ĳ)) ä)
  (Ç (ý (Wr.wpt (Wr.cD (Đ (Ã 7)) (Wr.cD (ĭ (Đ (Ã 6))) (Wr.cW (Wr.cF hr.units (Ñ (Ã 5) È) ġ))))) (Ö (Ü Ĳ)) ä) (ç [5,6,7] ä))))))
  (ç [5,6,7] (Ö (Ü Ĳ)))) ?_
 rintro ds P ⟨n,us,a,b,L,s,t,rfl,p,o,D,A,j,q⟩;refine⟨[.im (au n us),.im (.int a),.im (.int b),.sh (.list L),.sh (.list [.str s,.str t]),.any,.any,.any],by show [cg (au n us),_,_,cg (.list L),cg (.list [.str s,.str t]),.any,.any,.any]=_;rw[iG];rfl,?_⟩;refine⟨rfl,λ(i:Nat) ρ=>∃x y z,ρ=[.im (au n us),.im (.int a),.im (.int b),.sh (.list L),.sh (.list [.str s,.str t]),x,y,z],⟨_,_,_,rfl⟩,?_,?_⟩
 ·rintro i d ρ hd ⟨x,y,z,rfl⟩;have h:=A d (Ê hd);have v:=j d (Ê hd);refine Dz h.im ?_;show iR _ _ _ [.im (au n us),.im (.int a),.im (.int b),.sh (.list L),.sh (.list [.str s,.str t]),.sh d,y,z];refine⟨n,us,a,b,d,rfl,p,o,h.th,?_⟩;show iR _ _ _ [.im (au n us),.im (.int a),.im (.int b),.sh (.list L),.sh (.list [.str s,.str t]),.sh d,.im (.bool (iI n us a b d)),z];refine⟨n,us,a,b,d,rfl,p,o,h.th,?_⟩;show iR _ _ _ [.im (au n us),.im (.int a),.im (.int b),.sh (.list L),.sh (.list [.str s,.str t]),.sh d,.im (.bool (iI n us a b d)),.im (.bool (iV n us a b d))];let⟨w,m,rfl,im,_⟩:=h.form;let⟨e,c,g⟩:=v;clear h hd;generalize iI n us a b (.tuple (.str w::m))=B at e c g ⊢;generalize iV n us a b (.tuple (.str w::m))=C at e c g ⊢;have e:B=true->w=s:=e;have c:C=true->w=t:=c;have g:C=true->B=false->w=af:=g;cases B with
  |false =>
   cases C with
   |false=>exact⟨_,_,_,rfl⟩
   |true =>
    have k:=c rfl;have l:=g rfl rfl;refine⟨.str w,at0,.str t,rfl,?_⟩;show if(!decide (w=t))=true then _ else _
    rw[decide_eq_true k];refine⟨.str w,at0,?_⟩;show if(!decide (w=af))=true then _ else _
    rw[decide_eq_true l];exact⟨_,_,_,rfl⟩
  |true =>
   have k:=e rfl;refine⟨.str w,at0,.str s,rfl,?_⟩;show if(!decide (w=s))=true then _ else _
   rw[decide_eq_true k];cases C with
   |false=>exact⟨_,_,_,rfl⟩
   |true =>
    have l:=c rfl;refine⟨.str w,at0,.str t,rfl,?_⟩;show if(!decide (w=t))=true then _ else _
    rw[decide_eq_true l];exact⟨_,_,_,rfl⟩
 rintro ρ ⟨x,y,z,rfl⟩;exact⟨rfl,q⟩
def M7{us:List Tie}{F:List Int}{x y:Int}(h:(x,y)∈adj us F []):(y,x)∈adj us F []:=by
 let⟨k,e,f,_⟩:=aN.mp h;exact aN.mpr ⟨k,e.symm,f,Ý⟩
def cU{us:List Tie}{F:List Int}{a b:Int}(h:Rt (adj us F []) a b):Rt (adj us F []) b a:=by
 induction h with
 |refl=>exact .refl _
 |step _ t c=>exact(Rt.step (.refl _) (M7 t)).trans c
def rM{us:List Tie}{v a b:Int}(d:a≠v)(h:Rt (adj us [] [v]) a b):Rt (adj us [] [v]) b a/\b≠v:=by
 induction h with
 |refl=>exact⟨.refl _,d⟩
 |@step b c _ t ih =>
  let⟨k,e,f,g⟩:=aN.mp t;refine⟨(Rt.step (.refl _) (aN.mpr ⟨k,e.symm,f,by simp only[É];exact ih.2⟩)).trans ih.1,by simpa using g⟩
def rA{n:Int}{us:List Tie}{a b:Int}{ps ks:List Int}(ok:OkN n us)(j:0<=a)(m:a<n)(h:cQ true n us a b (.tuple [iD ps,iD ks])=true){F B:List Int}(u:∀k∈ks,k∉F)(t:∀v∈ps,v∉B):Rt (adj us F B) a b:=by
 let⟨l,hh,ht,_,st⟩:=(v7 ok j m).mp h;have s:∀i,i<=⇑ks->∃x,ps[i]?=some x/\Rt (adj us F B) a x:=by
  intro i;induction i with
  |zero=>intro _;exact⟨a,by rw[←Ū];exact hh,.refl _⟩
  |succ i ih =>
   intro hi;let⟨x,d,r⟩:=ih ();have hk:=Ë (show i<⇑ks by lia);let⟨⟨w,y⟩,p,q,f,g,o⟩:=st i () _ hk;rw[d]at f;cases f;refine⟨q,g,r.step (aN.mpr ⟨(ks[i]'()).toNat,?_,?_,t q (Ê g)⟩)⟩
   ·rw[o];unfold mmT;dsimp only;by_cases c:q<x
    ·rw[el c,em ()];exact .inr rfl
    ·rw[em c];by_cases e:q > x
     ·rw[el e];exact .inl rfl
     ·obtain rfl:q=x:=()
      rw[em e];exact .inl rfl
   ·rw[show(((ks[i]'()).toNat:Nat):Int)=ks[i]'() by lia];exact u _ (į _)
 let⟨x,d,r⟩:=s ⇑ks (Õ _);have:x=b:=by
  rw[List.getLast?_eq_getElem?,show ⇑ps - 1=⇑ks by lia,d]at ht;exact Ô ht
 rwa [this]at r
def j8(us:List Tie)(a b:Int)(w:Str):Prop :=
 (w=ah/\¬Rt (adj us [] []) a b)\/(w=am/\Rt (adj us [] []) a b/\∃k:Nat,¬Rt (adj us [((k:Nat):Int)] []) a b)∨
 (w=ai/\Rt (adj us [] []) a b/\∀k:Nat,Rt (adj us [((k:Nat):Int)] []) a b)
def j9(n:Int)(us:List Tie)(a b:Int)(w:Str):Prop :=
 (w=ah/\¬Rt (adj us [] []) a b)\/(w=af/\Rt (adj us [] []) a b/\∃v∈inn n a b,¬Rt (adj us [] [v]) a b)∨
 (w=am/\Rt (adj us [] []) a b/\(∀v∈inn n a b,Rt (adj us [] [v]) a b)/\∃k:Nat,¬Rt (adj us [((k:Nat):Int)] []) a b)∨
 (w=ai/\Rt (adj us [] []) a b/\(∀v∈inn n a b,Rt (adj us [] [v]) a b)/\∀k:Nat,Rt (adj us [((k:Nat):Int)] []) a b)
def j8.uniq{us:List Tie}{a b:Int}{v w:Str}(h:j8 us a b v)(g:j8 us a b w):v=w:=by
 rcases h with⟨rfl,h⟩|⟨rfl,h,k,hk⟩|⟨rfl,h,hk⟩ <;> rcases g with⟨rfl,g⟩|⟨rfl,g,j,c⟩|⟨rfl,g,c⟩ <;> first
  |rfl
  |contradiction
  |exact er (c k) hk
  |exact er (hk j) c
def j9.uniq{n:Int}{us:List Tie}{a b:Int}{v w:Str}(h:j9 n us a b v)(g:j9 n us a b w):v=w:=by
 rcases h with⟨rfl,h⟩|⟨rfl,h,x,e,i⟩|⟨rfl,h,d,k,hk⟩|⟨rfl,h,d,hk⟩ <;> rcases g with⟨rfl,g⟩|⟨rfl,g,y,f,l⟩|⟨rfl,g,bl,j,c⟩|⟨rfl,g,bl,c⟩ <;> first
  |rfl
  |contradiction
  |exact er (c k) hk
  |exact er (hk j) c
  |exact er (bl x e) i
  |exact er (d y f) l
def j8.back{us:List Tie}{a b:Int}{w:Str}(h:j8 us a b w):j8 us b a w:=by
 rcases h with⟨e,h⟩|⟨e,h,k,hk⟩|⟨e,h,hk⟩
 ·exact .inl ⟨e,λz=>h (cU z)⟩
 ·exact .inr (.inl ⟨e,cU h,k,λz=>hk (cU z)⟩)
 ·exact .inr (.inr ⟨e,cU h,λk=>cU (hk k)⟩)
def j9.back{n:Int}{us:List Tie}{a b:Int}{w:Str}(h:j9 n us a b w):j9 n us b a w:=by
 have c:∀v,v∈inn n b a↔v∈inn n a b:=λv=>by rw[bB,bB];exact⟨λ⟨h,x,y⟩=>⟨h,y,x⟩,λ⟨h,x,y⟩=>⟨h,y,x⟩⟩
 have f:∀v∈inn n a b,a≠v/\b≠v:=λv hv=>by have:=bB.mp hv;exact⟨λz=>this.2.1 z.symm,λz=>this.2.2 z.symm⟩
 rcases h with⟨e,h⟩|⟨e,h,v,hv,g⟩|⟨e,h,d,k,hk⟩|⟨e,h,d,hk⟩
 ·exact .inl ⟨e,λz=>h (cU z)⟩
 ·exact .inr (.inl ⟨e,cU h,v,(c v).mpr hv,λz=>g (rM (f v hv).2 z).1⟩)
 ·exact .inr (.inr (.inl ⟨e,cU h,λv hv=>(rM (f v ((c v).mp hv)).1 (d v ((c v).mp hv))).1,k,λz=>hk (cU z)⟩))
 ·exact .inr (.inr (.inr ⟨e,cU h,λv hv=>(rM (f v ((c v).mp hv)).1 (d v ((c v).mp hv))).1,λk=>cU (hk k)⟩))
def yS{n:Int}{us:List Tie}{a b:Int}{s t:Str}(h:j8 us a b s)(g:j9 n us a b t):(s=ah/\t=ah)\/(s=am/\(t=af\/t=am))\/(s=ai/\(t=af\/t=ai)):=by
 rcases h with⟨rfl,h⟩|⟨rfl,h,k,hk⟩|⟨rfl,h,hk⟩ <;> rcases g with⟨rfl,g⟩|⟨rfl,g,y,d,e⟩|⟨rfl,g,bl,j,c⟩|⟨rfl,g,bl,c⟩ <;> first
  |contradiction
  |exact er (c k) hk
  |exact er (hk j) c
  |exact .inl ⟨rfl,rfl⟩
  |exact .inr (.inl ⟨rfl,.inl rfl⟩)
  |exact .inr (.inl ⟨rfl,.inr rfl⟩)
  |exact .inr (.inr ⟨rfl,.inl rfl⟩)
  |exact .inr (.inr ⟨rfl,.inr rfl⟩)
def vW{c:List Put}{a:Int}{P K:List Int}{x:Int}(h:Wy c a P K x):⇑P=⇑K+1:=by
 induction h with
 |one=>rfl
 |step _ _ _ b=>rw[Ð,Ð,í,í,b]
def Jb{d:List Put}{a:Int}{P K:List Int}{x:Int}(h:Wy d a P K x):P.Nodup:=by
 induction h with
 |one=>simp
 |step _ b _ c=>exact Š.mpr ⟨c,by simp,λy hy z hz=>by rw[É.mp hz];rintro rfl;exact b hy⟩
def Es{c:List Put}{a:Int}{P K:List Int}{x:Int}(h:Wy c a P K x):P[0]?=some a:=by
 induction h with
 |one=>rfl
 |step h _ _ b=>rw[ñ (Æ.mp b).1];exact b
def vX{b:List Put}{a:Int}{P K:List Int}{x:Int}(h:Wy b a P K x):∃Q,P=Q++[x]:=by
 cases h with
 |one=>exact⟨[],rfl⟩
 |step _ _ _=>exact⟨_,rfl⟩
def Ri{c:List Put}{a:Int}{P K:List Int}{x:Int}(h:Wy c a P K x):∀(i:Nat)(k:Int),K[i]?=some k->∃p y,P[i]?=some p/\P[i+1]?=some y/\(p,(y,k))∈c:=by
 induction h with
 |one=>exact λi k e=>by cases e
 |@step P K p y k h hx j ih =>
  intro i b e;have l:=vW h;by_cases hi:i<⇑K
  ·rw[ñ hi]at e;let⟨f,g,h1,h2,d⟩:=ih i b e;exact⟨f,g,by rw[ñ ()];exact h1,by rw[ñ ()];exact h2,d⟩
  ·rw[õ ()]at e;have hi:i=⇑K:=by
    have:=(Æ.mp e).1;rw[í]at this;lia
   subst hi;rw[Nat.sub_self]at e;have e:k=b:=Ô e;subst e;let⟨Q,rfl⟩:=vX h;rw[Ð,í]at l;refine⟨p,y,?_,?_,j⟩
   ·rw[ñ (by rw[Ð,í];lia),õ (),show ⇑K - ⇑Q=0 by lia];rfl
   ·rw[õ (by rw[Ð,í];lia),Ð,í,show ⇑K+1 - (⇑Q+1)=0 by lia];rfl
def Nj{n:Nat}{c:List Put}{a:Int}{P K:List Int}{x:Int}(ok:PutsOk n c)(ha:0<=a/\a<n)(h:Wy c a P K x):∀y∈P,0<=y/\y<n:=by
 induction h with
 |one=>exact λy b=>by rw[É.mp b];exact ha
 |step _ _ j ih =>
  intro y b;rcases ë.mp b with z|z
  ·exact ih y z
  ·rw[É.mp z];exact(ok.rng _ j).2
def Jc{n:Nat}{b:List Put}{a:Int}{P K:List Int}{x:Int}(ok:PutsOk n b)(ha:0<=a/\a<n)(h:Wy b a P K x):⇑P<=n:=fZ (Jb h) (Nj ok ha h)
def iW(l:List Int):jW l (iD l)=true:=by
 show((l.map Â).all isW&&decide ((l.map Â).map toI=l))=true;rw[aW,decide_eq_true rfl,Bool.and_true,Ħ];intro x a;let⟨i,_,rfl⟩:=Ć.mp a;rfl
def lE(s:Str):bH s (.str s)=true:=by
 show decide (s=s)=true;exact decide_eq_true rfl
def vZ{n:Int}{us:List Tie}{a b:Int}{w:List Int×List Int}(c:OkW n us)(ok:OkN n us)(d:0<=a)(f:a<n)(W:Wy (aF us) a w.1 w.2 b):cQ true n us a b (bK (some w))=true:=by
 let⟨ps,ks⟩:=w;refine(v7 ok d f).mpr ⟨vW W,by rw[Ū];exact Es W,?_,decide_eq_true ((CV ps).mpr (Jb W)),λi hi k hk=>?_⟩
 ·let⟨Q,e⟩:=vX W;have e:ps=Q++[b]:=e;rw[e];exact List.getLast?_concat ..
 ·let⟨p,y,h1,h2,g⟩:=Ri W i k hk;let⟨j,rfl,e⟩:=bO.mp g;have h:j<⇑us:=e.elim (λe=>(Æ.mp e).1) λe=>(Æ.mp e).1;refine⟨⟨(),()⟩,p,y,h1,h2,?_⟩;rw[Ĵ];rcases e with e|e
  ·have:=c _ (Ê e);rw[e];unfold mmT;dsimp only at this ⊢;rw[em (),el ()]
  ·have:=c _ (Ê e);rw[e];unfold mmT;dsimp only at this ⊢;rw[el (),em ()]
def vL{n:Int}{us:List Tie}{a b:Int}{d:D}(n0:0<=n)(c:OkW n us)(ok:OkN n us)(l:0<=a)(m:a<n)(b0:0<=b)(b1:b<n)(h:Us n.toNat us a b d):iI n us a b d=true:=by
 have sd:∀F:List Int,b∈aM n us F a↔Rt (adj us F []) a b:=λF=>by
  rw[cu];exact⟨λz=>z.2,λz=>⟨⟨b0,()⟩,z⟩⟩
 unfold iI;rcases h with⟨r,rfl⟩|⟨r,k,hk,s,rfl⟩|⟨_,_,i,j,o,p,q,rfl⟩
 ·have e:o7 n us a b (.tuple [.str ah,iD (rsI (adj us [] []) n.toNat a)])=(bH ah (.str ah)&&(!decide (b∈aM n us [] a)&&jW (aM n us [] a) (iD (aM n us [] a)))):=rfl;rw[e,iW,eg λz=>r ((sd _).mp z)];have f:bH ah (.str ah)=true:=lE _;rw[f];show(_ || (_ || true))=true;rw[Bool.or_true,Bool.or_true]
 ·have e:lC n us a b (.tuple [.str am,.int ((k:Nat):Int),iD (rsI (adj us [((k:Nat):Int)] []) n.toNat a)])=(bH am (.str am)&&(decide (0<=((k:Nat):Int)/\((k:Nat):Int)<(⇑us:Nat))&&(decide (b∈aM n us [] a)&&(!decide (b∈aM n us [((k:Nat):Int)] a)&&jW (aM n us [((k:Nat):Int)] a) (iD (aM n us [((k:Nat):Int)] a)))))):=rfl;rw[e,iW,decide_eq_true ((sd _).mpr r),eg λz=>s ((sd _).mp z),decide_eq_true ⟨(),()⟩];have f:bH am (.str am)=true:=lE _;rw[f];show(_ || (true || _))=true;rw[Bool.true_or,Bool.or_true]
 ·have e:jV n us a b (.tuple [.str ai,bK (some i),bK (some j)])=(bH ai (.str ai)&&(cQ true n us a b (bK (some i))&&(cQ true n us a b (bK (some j))&&!fD ((i.2.map Â).map toI) ((j.2.map Â).map toI)))):=rfl;have f:bH ai (.str ai)=true:=lE _;have g:fD i.2 j.2=false:=by
   unfold fD;rw[List.any_eq_false];exact λx hx z=>q x hx (eh z)
  rw[e,f,vZ c ok l m o,vZ c ok l m p,aW,aW,g];rfl
def Am{ps:List Int}{a b:Int}(h1:ps.head?=some a)(h2:ps.getLast?=some b)(c:a≠b):ps=a::(dR ps++[b]):=by
 cases ps with
 |nil=>cases h1
 |cons x r =>
  obtain rfl:x=a:=Ô h1;cases r with
  |nil=>exact er (Ô h2) c
  |cons y r =>
   have e:dR (x::y::r)=(y::r).dropLast:=rfl;have g:(y::r).getLast (List.cons_ne_nil _ _)=b:=by
    rw[List.getLast?_eq_some_getLast (List.cons_ne_nil _ _),List.getLast_cons (List.cons_ne_nil _ _)]at h2;exact Ô h2
   rw[e,←g,List.dropLast_concat_getLast]
def vM{n:Int}{us:List Tie}{a b:Int}{d:D}(n0:0<=n)(p:OkW n us)(ok:OkN n us)(u:0<=a)(A:a<n)(b0:0<=b)(b1:b<n)(K:a≠b)(h:Nb n us a b d):iV n us a b d=true:=by
 have sd:∀F B:List Int,b∈rsI (adj us F B) n.toNat a↔Rt (adj us F B) a b:=λF B=>by
  rw[cu];exact⟨λz=>z.2,λz=>⟨⟨b0,()⟩,z⟩⟩
 have st:∀s:Str,bH s (.str s)=true:=lE;have o:∀x y z:D,bH ai x=false->jV n us a b (.tuple [x,y,z])=false:=λx y z e=>by
  show(bH ai x&&_)=false;rw[e];rfl
 unfold iV;rcases h with⟨r,rfl⟩|⟨r,v,hv,O,rfl⟩|⟨r,H,k,hk,L,rfl⟩|⟨_,_,_,i,j,q,t,I,P,rfl⟩
 ·have e:o7 n us a b (.tuple [.str ah,iD (rsI (adj us [] []) n.toNat a)])=(bH ah (.str ah)&&(!decide (b∈aM n us [] a)&&jW (aM n us [] a) (iD (aM n us [] a)))):=rfl;have f:jV n us a b (.tuple [.str ah,iD (rsI (adj us [] []) n.toNat a)])=false:=rfl;rw[f,e,iW,eg λz=>r ((sd _ _).mp z),st,em Î];show(_ || (true || _))=true;rw[Bool.true_or,Bool.or_true]
 ·have e:wL n us a b (.tuple [.str af,.int ((v:Nat):Int),iD (rsI (adj us [] [((v:Nat):Int)]) n.toNat a)])=(bH af (.str af)&&(decide (0<=((v:Nat):Int)/\((v:Nat):Int)<n)&&(decide (b∈aM n us [] a)&&(!decide (((v:Nat):Int)=a\/((v:Nat):Int)=b)&&(!decide (b∈rsI (adj us [] [((v:Nat):Int)]) n.toNat a)&&jW (rsI (adj us [] [((v:Nat):Int)]) n.toNat a) (iD (rsI (adj us [] [((v:Nat):Int)]) n.toNat a))))))):=rfl;have hi:=bB.mp hv;rw[o _ _ _ (show bH ai (.str af)=false by decide),em Î,e,iW,decide_eq_true ((sd _ _).mpr r),eg λz=>O ((sd _ _).mp z),decide_eq_true hi.1,eg λz=>z.elim hi.2.1 hi.2.2,st];rfl
 ·have e:lC n us a b (.tuple [.str am,.int ((k:Nat):Int),iD (rsI (adj us [((k:Nat):Int)] []) n.toNat a)])=(bH am (.str am)&&(decide (0<=((k:Nat):Int)/\((k:Nat):Int)<(⇑us:Nat))&&(decide (b∈aM n us [] a)&&(!decide (b∈aM n us [((k:Nat):Int)] a)&&jW (aM n us [((k:Nat):Int)] a) (iD (aM n us [((k:Nat):Int)] a)))))):=rfl;have M:Dh n us a b=true:=by
   unfold Dh;rcases lQ (n:=n.toNat) (us:=us) (a:=a) (b:=b) (Þ n.toNat)with⟨e,_⟩|⟨v,hv,c,N,_⟩
   ·rw[e];rfl
   ·have:=Ď.mp hv;exact er (H _ (bB.mpr ⟨⟨(),()⟩,λz=>c (.inl z),λz=>c (.inr z)⟩)) N
  rw[o _ _ _ (show bH ai (.str am)=false by decide),em Î,e,M,iW,decide_eq_true ((sd _ _).mpr r),eg λz=>L ((sd _ _).mp z),decide_eq_true ⟨(),()⟩,st];show(_ || (_ || true))=true;rw[Bool.or_true,Bool.or_true]
 ·have e:jV n us a b (.tuple [.str ai,bK (some i),bK (some j)])=(bH ai (.str ai)&&(cQ true n us a b (bK (some i))&&(cQ true n us a b (bK (some j))&&!fD ((i.2.map Â).map toI) ((j.2.map Â).map toI)))):=rfl;have g:fD i.2 j.2=false:=by
   unfold fD;rw[List.any_eq_false];exact λx l z=>I x l (eh z)
  have m:Gb (.tuple [.str ai,bK (some i),bK (some j)])=!fD (dR ((i.1.map Â).map toI)) (dR ((j.1.map Â).map toI)):=rfl;have hd:∀w:List Int×List Int,Wy (aF us) a w.1 w.2 b->w.1=a::(dR w.1++[b])/\w.1.Nodup:=λw W=>by
   let⟨Q,e⟩:=vX W;exact⟨Am (by rw[Ū];exact Es W) (by rw[e];exact List.getLast?_concat ..) K,Jb W⟩
  rw[e,st,vZ p ok u A q,vZ p ok u A t,m,aW,aW,aW,aW,g];let⟨C,E⟩:=hd i q;let⟨J,_⟩:=hd j t;have s:fD (dR i.1) (dR j.1)=false:=by
   unfold fD;rw[List.any_eq_false];intro x l z;have z:=eh z;have h1:x∈i.1:=by rw[C];exact Í _ (è _ l)
   have h2:x∈j.1:=by rw[J];exact Í _ (è _ z)
   rw[C]at E;have G:=ŝ.mp E;rcases P x h1 h2 with rfl|rfl
   ·exact G.1 (è _ l)
   ·exact(Š.mp G.2).2.2 x l x Ó rfl
  rw[s];rfl
def yP{x:Str}{e:D}{a:List D}(h:bH x e=true):wdS (.tuple (e::a))=x:=by
 cases e with
 |str y=>exact eh h
 |_=>cases h
def Bu{n:Int}{us:List Tie}{a b:Int}{d:D}(h:jV n us a b d=true):∃e ps ks qs ls,d=.tuple [e,.tuple [iD ps,iD ks],.tuple [iD qs,iD ls]]/\bH ai e=true/\cQ true n us a b (.tuple [iD ps,iD ks])=true/\cQ true n us a b (.tuple [iD qs,iD ls])=true/\∀k∈ks,k∉ls:=by
 cases hh:hasB ai 3 d with
 |false=>exact er ((Bt hh).symm.trans h) ∅
 |true =>
  let⟨e,x,y,rfl,m⟩:=gF hh;have h1:(bH ai e&&(cQ true n us a b x&&(cQ true n us a b y&&!fD (pY x) (pY y))))=true:=h;rw[Ì,Ì,Ì]at h1;let⟨_,c,f,hs⟩:=h1;let⟨j,g,rfl,_⟩:=iz (by unfold cQ at c;rw[Ì]at c;exact c.1);let⟨l,i,rfl,_⟩:=iz (by unfold cQ at f;rw[Ì]at f;exact f.1);have hs:(!fD ((g.map Â).map toI) ((i.map Â).map toI))=true:=hs;rw[aW,aW]at hs;refine⟨e,j,g,l,i,rfl,m,c,f,λk hk hk2=>?_⟩;have:fD g i=true:=ŕ.mpr ⟨k,hk,decide_eq_true hk2⟩;rw[this]at hs;cases hs
section
variable{n:Int}{us:List Tie}{a b:Int}
def Jl(ok:OkN n us)(f:0<=a)(g:a<n){d:D}(h:jV n us a b d=true):Rt (adj us [] []) a b/\∀k:Nat,Rt (adj us [((k:Nat):Int)] []) a b:=by
 let⟨e,ps,ks,p,o,rfl,_,i,m,l⟩:=Bu h;refine⟨rA ok f g i (λ_ _=>Ý) λ_ _=>Ý,λk=>?_⟩;by_cases c:((k:Nat):Int)∈ks
 ·exact rA ok f g m (λj hj z=>l _ c (by rw[←É.mp z];exact hj)) λ_ _=>Ý
 ·exact rA ok f g i (λj hj z=>c (by rw[←É.mp z];exact hj)) λ_ _=>Ý
def lF(b0:0<=b)(b1:b<n){F B:List Int}:b∈rsI (adj us F B) n.toNat a↔Rt (adj us F B) a b:=by
 rw[cu];exact⟨λz=>z.2,λz=>⟨⟨b0,()⟩,z⟩⟩
def Lh(b0:0<=b)(b1:b<n){d:D}(h:o7 n us a b d=true):wdS d=ah/\¬Rt (adj us [] []) a b:=by
 unfold o7 at h;split at h
 ·rw[Ì,Ì]at h;exact⟨yP h.1,λz=>by
   have:=h.2.1;rw[decide_eq_true ((lF b0 b1).mpr z)]at this;cases this⟩
 ·cases h
def Bk{m:Int}{d:D}(h:aK m d=true):∃i:Int,d=.int i/\0<=i/\i<m:=by
 cases d with
 |int i=>exact⟨i,rfl,eh h⟩
 |_=>cases h
def Jp(b0:0<=b)(b1:b<n){d:D}(h:lC n us a b d=true):wdS d=am/\Rt (adj us [] []) a b/\∃k:Nat,¬Rt (adj us [((k:Nat):Int)] []) a b:=by
 unfold lC at h;split at h
 ·rename_i e k x;rw[Ì,Ì,Ì,Ì]at h;let⟨h1,h2,f,c,_⟩:=h;let⟨i,rfl,g,_⟩:=Bk h2;refine⟨yP h1,(lF b0 b1).mp (eh f),i.toNat,λz=>?_⟩;rw[show((i.toNat:Nat):Int)=i by lia]at z;have c:(!decide (b∈aM n us [i] a))=true:=c;rw[decide_eq_true ((lF b0 b1).mpr z)]at c;cases c
 ·cases h
def JW(b0:0<=b)(b1:b<n){d:D}(h:wL n us a b d=true):wdS d=af/\Rt (adj us [] []) a b/\∃v∈inn n a b,¬Rt (adj us [] [v]) a b:=by
 unfold wL at h;split at h
 ·rename_i e k x;rw[Ì,Ì,Ì,Ì,Ì]at h;let⟨h1,h2,g,c,f,_⟩:=h;let⟨i,rfl,j,l⟩:=Bk h2;have c:(!decide (i=a\/i=b))=true:=c;have f:(!decide (b∈rsI (adj us [] [i]) n.toNat a))=true:=f;have c:¬(i=a\/i=b):=by simpa using c
  refine⟨yP h1,(lF b0 b1).mp (eh g),i,bB.mpr ⟨⟨j,l⟩,λz=>c (.inl z),λz=>c (.inr z)⟩,λz=>?_⟩;rw[decide_eq_true ((lF b0 b1).mpr z)]at f;cases f
 ·cases h
def KC(h:Dh n us a b=true):∀v∈inn n a b,Rt (adj us [] [v]) a b:=by
 intro v hv;let⟨⟨g,i⟩,d,f⟩:=bB.mp hv;unfold Dh at h;rcases lQ (n:=n.toNat) (us:=us) (a:=a) (b:=b) (Þ n.toNat)with⟨_,c⟩|⟨u,_,_,_,e⟩
 ·have:=c v.toNat (Ď.mpr ());rw[show((v.toNat:Nat):Int)=v by lia]at this;exact this.resolve_left λz=>z.elim d f
 ·rw[e]at h;cases h
def Cd(L:Pl n us a b){d:D}(h:iI n us a b d=true):j8 us a b (wdS d):=by
 unfold iI at h;rw[Ş,Ş]at h;rcases h with h|h|h
 ·have r:=Jl L.ok L.a0 L.a1 h;let⟨e,ps,ks,g,f,rfl,c,_⟩:=Bu h;exact .inr (.inr ⟨yP c,r⟩)
 ·exact .inr (.inl (Jp L.b0 L.b1 h))
 ·exact .inl (Lh L.b0 L.b1 h)
def Ce(L:Pl n us a b)(o:a≠b){d:D}(h:iV n us a b d=true):j9 n us a b (wdS d):=by
 unfold iV at h;split at h
 ·rename_i h2;have r:=Jl L.ok L.a0 L.a1 h2;let⟨e,ps,ks,g,k,rfl,q,f,i,_⟩:=Bu h2;have h:(!fD (dR ((ps.map Â).map toI)) (dR ((g.map Â).map toI)))=true:=h;rw[aW,aW]at h;refine .inr (.inr (.inr ⟨yP q,r.1,λv hv=>?_,r.2⟩));let⟨_,l,m⟩:=bB.mp hv;have j:∀ps ks:List Int,cQ true n us a b (.tuple [iD ps,iD ks])=true->v∈ps->v∈dR ps:=λps ks f hv=>by
   let⟨_,hh,ht,_⟩:=(v7 L.ok L.a0 L.a1).mp f;rw[Am hh ht o]at hv;rcases Û.mp hv with z|z
   ·exact er z l
   ·rcases ë.mp z with z|z
    ·exact z
    ·exact er (É.mp z) m
  by_cases c:v∈ps
  ·refine rA L.ok L.a0 L.a1 i (λ_ _=>Ý) λu hu z=>?_;rw[É.mp z]at hu;have:fD (dR ps) (dR g)=true:=ŕ.mpr ⟨v,j ps ks f c,decide_eq_true (j g k i hu)⟩;rw[this]at h;cases h
  ·exact rA L.ok L.a0 L.a1 f (λ_ _=>Ý) λu hu z=>c (by rw[←É.mp z];exact hu)
 ·rw[Ş,Ş,Ì]at h;rcases h with h|h|⟨h,p⟩
  ·exact .inr (.inl (JW L.b0 L.b1 h))
  ·exact .inl (Lh L.b0 L.b1 h)
  ·have:=Jp L.b0 L.b1 h;exact .inr (.inr (.inl ⟨this.1,this.2.1,KC p,this.2.2⟩))
def Ju(L:Pl n us a b)(c:a≠b){s t:Str}(hs:j8 us a b s)(ht:j9 n us a b t)(d:D):Fit n us a b s t d:=by
 refine⟨λh=>(Cd L h).uniq hs,λh=>(Ce L c h).uniq ht,λh g=>?_⟩;unfold iI at g;rw[Bool.or_eq_false_iff,Bool.or_eq_false_iff]at g;unfold iV at h;rw[g.1,em Î,g.2.1,g.2.2,Bool.false_and,Bool.or_false,Bool.or_false]at h;exact(JW L.b0 L.b1 h).1
end
def Bf{n:Int}{us:List Tie}{a b:Int}{d:D}(n0:0<=n)(o:n<=16)(v:⇑us<=39)(ok:OkN n us)(l:0<=a)(s:a<n)(h:Us n.toNat us a b d):TG d/\j8 us a b (wdS d):=by
 have q:=dN n0 (():⇑us<=100) ok;have c:∀w:List Int×List Int,Wy (aF us) a w.1 w.2 b->⇑w.1<=60/\⇑w.2<=60:=λw W=>by
  have t:=Jc q ⟨l,()⟩ W;have u:=vW W;lia
 have g:∀us':List Tie,⇑(rsI us' n.toNat a)<=60:=λus'=>by have:=wC us' n.toNat a;lia
 rcases h with⟨r,rfl⟩|⟨r,k,hk,p,rfl⟩|⟨r,m,i,j,e,f,_,rfl⟩
 ·exact⟨.inr (.inr ⟨_,rfl,g _⟩),.inl ⟨rfl,r⟩⟩
 ·exact⟨.inr (.inl ⟨am,_,_,rfl,.inl rfl,g _⟩),.inr (.inl ⟨rfl,r,k,p⟩)⟩
 ·exact⟨.inl ⟨_,_,_,_,rfl,(c i e).1,(c i e).2,(c j f).1,(c j f).2⟩,.inr (.inr ⟨rfl,r,m⟩)⟩
def Bg{n:Int}{us:List Tie}{a b:Int}{d:D}(n0:0<=n)(p:n<=16)(z:⇑us<=39)(ok:OkN n us)(m:0<=a)(u:a<n)(h:Nb n us a b d):TG d/\j9 n us a b (wdS d):=by
 have t:=dN n0 (():⇑us<=100) ok;have c:∀w:List Int×List Int,Wy (aF us) a w.1 w.2 b->⇑w.1<=60/\⇑w.2<=60:=λw W=>by
  have x:=Jc t ⟨m,()⟩ W;have y:=vW W;lia
 have f:∀us':List Tie,⇑(rsI us' n.toNat a)<=60:=λus'=>by have:=wC us' n.toNat a;lia
 rcases h with⟨r,rfl⟩|⟨r,v,hv,s,rfl⟩|⟨r,e,k,hk,q,rfl⟩|⟨r,e,o,j,l,g,i,_,_,rfl⟩
 ·exact⟨.inr (.inr ⟨_,rfl,f _⟩),.inl ⟨rfl,r⟩⟩
 ·exact⟨.inr (.inl ⟨af,_,_,rfl,.inr rfl,f _⟩),.inr (.inl ⟨rfl,r,_,hv,s⟩)⟩
 ·exact⟨.inr (.inl ⟨am,_,_,rfl,.inl rfl,f _⟩),.inr (.inr (.inl ⟨rfl,r,e,k,q⟩))⟩
 ·exact⟨.inl ⟨_,_,_,_,rfl,(c j g).1,(c j g).2,(c l i).1,(c l i).2⟩,.inr (.inr (.inr ⟨rfl,r,e,o⟩))⟩
def Tp{l:List D}{ρ:List Sl}{i:Nat}:Dl.stK none ρ i (norm (Kd.join .imm .new) (.list l)) (.list l)=some (.sn (.list l)):=by
 rw[bM (d:=.list l) (λz=>nomatch z)];rfl
def OD{l:List D}{ρ:List Sl}{i:Nat}:Dl.stK none ρ i (norm .snw (.list l)) (.list l)=some (.sn (.list l)):=by
 rw[bM (d:=.list l) (λz=>nomatch z)];rfl
def Jk{a b:D}{ρ:List Sl}{i:Nat}(h1:¬cM a=true)(h2:¬cM b=true):Dl.stK none ρ i (norm ((joins [(norm .new a,a),(norm .new b,b)]).join .new) (.list [a,b])) (.list [a,b])=some (.sn (.list [a,b])):=by
 rw[bM (d:=.list [a,b]) (λz=>nomatch z)];unfold joins;rw[bM h1,bM h2];rfl
def TG.word{d:D}(h:TG d):wdS d∈([(ai:Str),am,af,ah]:List Str):=by
 rcases h with⟨p,q,r,s,rfl,_⟩|⟨w,k,l,rfl,rfl|rfl,_⟩|⟨l,rfl,_⟩
 ·exact Ó
 ·exact Í _ Ó
 ·exact Í _ (Í _ Ó)
 ·exact Í _ (Í _ (Í _ Ó))
def yI{d e:D}(h:TG d)(g:TG e):okD (.list [.str (wdS d),.str (wdS e)])=true:=by
 have a:∀v∈([(ai:Str),am,af,ah]:List Str),∀w∈([(ai:Str),am,af,ah]:List Str),okD (.list [.str v,.str w])=true:=⋯
 exact a _ h.word _ g.word
def Ag{k:Kd}{a b c:D}{ρ:List Sl}{Q:List Sl->Prop}{i j l:Nat}(h:Q (((ρ.set i (rH (norm (norm k a) a) a)).set j (rH (norm (norm k b) b) b)).set l (rH (norm (norm k c) c) c))):tW (gNm i) (tW (gNm j) (tW (gNm l) Lf)) k [a,b,c] ρ Q:=h
def Jw:FnScope [ar,ae,aS,ad,ba,ak,al,aT,av,ag,cE,a9,aE,cK] [ar] (aH (top 62)):=zC
def zV:([a9,ar,ae,aS,ad,ba,ak,al,aT,av,ag,cE,"",aE,cK]:List Str).Nodup:=⋯
def Te(F:Fun K "law" "law" (top 62) f fd)(B:Ĩ mg)(c6:ĉ P w K mg base 3 "_law_web" [ae,cn,bq] (spP (CP K) Wn))(c8:ĉ P w K mg base 2 d4 [ae,a8] (spP (CP K) QW))(br:ĉ P w K mg base 7 "by_ties" [aa,aI,a6] (spD fBy))(bt:ĉ P w K mg base 8 dV [aa,aI,a6] (spD WQ))(c9:ĉ P w K mg base 3 d5 [ae,ad,ak,al] (spP (CP K) QS))(de:ĉ P w K mg base 9 dL [ad,ak,al,ag,av] (spD Wv))(df:ĉ P w K mg base 1 dE [av] (spD WX))(bj:VR P w K mg base)(bn:VP P w K mg base):FnOk P w K mg base CX0 10 f fd [ar] (Fi K):=by
 refine F.ok Jw (λvs H Q E h=>by let⟨a,ns,rfl,_⟩:=h;rfl) (λcdv A outer s H vs Q E hr h=>?_);let⟨sc,ns,rfl,Y,q⟩:=h;have r:=Jw.nd;refine⟨_,(bG (fM (i:=1) r rfl zQ (wM (bZ (pv 0) (bZ Ł (bZ Ł eZ))))) (Wr.WDSs.h (Ç (Ġ ð rfl (ģ B.range (À È Á)) (ß (i:=2) r rfl zQ) (Ç (ê none (i:=3) r rfl zQ (Ũ c6 hr (ĵ 1) (À È (À È Á))))
  (Ç (Ġ ð rfl (ģ B.range (À (Ñ (ø (À È (À È (À È Á)))) (Ō (Wr.jM B.int VQ (À (Wr.zu (Ñ (Ã 3) È) È) Á)) (Wr.jM B.int VQ (À (Wr.zu (Ñ (Ã 3) È) È) Á)))) Á)) (ß (i:=4) r rfl zQ) (Ç (Wr.Eb (Ũ c8 hr (ĵ 1) (À (Ñ (Ã 3) È) Á)) (Wr.dW (n:=2) rfl (ċ (ß (i:=5) r rfl zQ) (ċ (ß (i:=6) r rfl zQ) ů))))
  (Ç (ê none (i:=7) r rfl zQ (ø (À (ù br hr (À (Ã 3) (À (Ã 5) (À (Ã 6) Á)))) (À (ù bt hr (À (Ã 3) (À (Ã 5) (À (Ã 6) Á)))) Á))))
  (Ç (Wr.HX none [a9] [ar,ae,aS,ad,ba,ak,al,aT,av,ag,cE,"",aE,cK] (i:=8) rfl r rfl zQ (Ċ (Ã 7)) (λc=>(ß (i:=0) zV rfl zQ)) (λc=>ō) (λc=>(Ñ (Ã 0) È)))
  (Ç (ê none (i:=9) r rfl zQ (Ō (Ũ c9 hr (ĵ 1) (À (Ã 3) (À (Ã 5) (À (Ã 6) Á)))) (Ã 7)))
  (Ç (ý (Wr.wpt (Ŵ (ĭ (Đ (ù df hr (À (Ã 8) Á)))) (ž (ĭ (Đ (ù de hr (À (Ã 3) (À (Ã 5) (À (Ã 6) (À (Ã 9) (À (Ã 8) Á))))))))))) (Ö (Ü Ĳ)) ä)
  (Ç (ê none (i:=10) r rfl zQ (ø (À (ù br hr (À (Ã 3) (À (Ã 6) (À (Ã 5) Á)))) (À (ù bt hr (À (Ã 3) (À (Ã 6) (À (Ã 5) Á)))) Á))))
  (Ç (ý (Wr.cF hr.units (Wr.CJ [a9] [ar,ae,aS,ad,ba,ak,al,aT,av,ag,cE,"",aE,cK] rfl (Ċ (Ã 10)) (λc=>(ß (i:=0) zV rfl zQ)) (λc=>ō) (λc=>(Ñ (Ã 0) È)) (hk:=rfl)) (Ã 8)) (Ö (Ü Ĳ)) ä)
  (Ç (Ġ ð rfl (Ċ (Wr.Cy [ar,ae,aS,ad,ba,ak,al,aT,av,ag,cE,a9,aE,cK] (aH (top 62)) (.lst (.cons (.tup (.cons (.var 5) (.cons (.var 6) (.cons (.var 7) .nil)))) (.cons (.tup (.cons (.var 6) (.cons (.var 5) (.cons (.var 10) .nil)))) .nil))) ⋯)) (Wr.dW (n:=3) rfl (ċ (ß (i:=11) r rfl zQ) (ċ (ß (i:=12) r rfl zQ) (ċ (ß (i:=13) r rfl zQ) ů)))) (Ç (ý (Wr.gW (ù bj hr (À (Ã 3) (À (Ã 11) (À (Ã 12) (À (Ñ (Ã 13) È) Á))))) Ĳ) (Ö (Ü Ĳ)) ä)
  (Ç (ý (Wr.gW (ù bn hr (À (Ã 3) (À (Ã 11) (À (Ã 12) (À (Ñ (Ã 13) È) Á))))) Ĳ) (Ö (Ü Ĳ)) ä) (ç [11,12,13] ä)))) (ç [4,5,6,7,8,9,10,11,12,13] ä)))))))))) (ç [2,3,4,5,6,7,8,9,10,11,12,13] ä))))
  (ç [2,3,4,5,6,7,8,9,10,11,12,13] (Ö (Ü Ĳ)))))),Ue Y q ∅ ?_⟩
 refine⟨⟨∅,∅⟩,rfl,λ(i:Nat) ρ=>ρ=[.any,.pen (CP K),.any,.any,.any,.any,.any,.any,.any,.any,.any,.any,.any,.any],rfl,?_,?_⟩
 rotate_left
 ·rintro ρ rfl;exact⟨rfl,rfl⟩
 rintro i d ρ hd rfl;let⟨hi,rfl⟩:=bR hd;refine⟨rfl,5,8,rfl,∅,∅,∅,∅,λn us n1 nm lu okw=>?_⟩;have e:=okw.okN;have p:n<=16:=()
 refine iB (s:=.im (au n us)) (by
  show Dl.stK none _ 3 (norm _ (au n us)) (au n us)=some (.im (au n us));rw[bL (mV n us)];rfl) ?_
 refine⟨zK,.int n,rfl,.int n,rfl,?_⟩;have hc:∃c:Int,atI [Â 0,.int 3,.int 1] ((if decide (1<n)=true then 1 else 0)+(if decide (5<n)=true then 1 else 0))=some (.int c)/\0<=c/\c<=3/\(0<c->1<n):=by
  by_cases G:1<n
  ·by_cases n5:5<n
   ·exact⟨1,by rw[decide_eq_true G,decide_eq_true n5];exact bJ (j:=2) rfl,∅,∅,λ_=>G⟩
   ·exact⟨3,by rw[decide_eq_true G,eg n5];exact bJ (j:=1) rfl,∅,∅,λ_=>G⟩
  ·exact⟨0,by rw[eg G,eg ()];exact bJ (j:=0) rfl,∅,∅,λz=>er z ∅⟩
 let⟨c,hc,c0,c3,c1⟩:=hc;refine⟨.int c,hc,⟨(),()⟩,rfl,λ(j:Nat) ρ=>ρ=[.any,.pen (CP K),.im (.int (0+((i:Nat):Int))),.im (au n us),.any,.any,.any,.any,.any,.any,.any,.any,.any,.any],rfl,?_,?_⟩
 rotate_left
 ·rintro ρ rfl;rfl
 rintro j d ρ hd rfl;let⟨hj,rfl⟩:=bR hd;have G:2<=n:=by have:=c1 ();lia
 refine⟨rfl,.int n,rfl,n,rfl,G,p,λx y x0 x1 y0 y1 ne=>⟨rfl,n,us,x,y,rfl,n1,(),(),e,x0,x1,y0,y1,ne,?_⟩⟩;have B1:=Rh (b:=y) () (():⇑us<=100) e x0 x1;have B2:=Rh (b:=x) () (():⇑us<=100) e y0 y1;have C1:=MF (b:=y) () (():n<=50) (():⇑us<=60) e x0 x1 y1;have C2:=MF (b:=x) () (():n<=50) (():⇑us<=60) e y0 y1 x1;have L:Pl n us x y:=⟨n1,(),(),e,x0,x1,y0,y1⟩
 have M:Pl n us y x:=⟨n1,(),(),e,y0,y1,x0,x1⟩
 have R:=vL () okw e x0 x1 y0 y1 B1;have U:=vL () okw e y0 y1 x0 x1 B2;have N:=vM () okw e x0 x1 y0 y1 ne C1;have O:=vM () okw e y0 y1 x0 x1 (λz=>ne z.symm) C2;let⟨I,t1⟩:=Bf () p lu e x0 x1 B1;let⟨J,t2⟩:=Bf () p lu e y0 y1 B2;let⟨h1,Z⟩:=Bg () p lu e x0 x1 C1;let⟨h2,p2⟩:=Bg () p lu e y0 y1 C2;clear B1 B2 C1 C2;generalize byD n.toNat us x y=g at R I t1 ⊢;refine⟨n,us,x,y,rfl,n1,(),(),e,x0,x1,y0,y1,ne,zK,?_⟩;generalize byP n us x y=l at N h1 Z ⊢;refine iB (k:=(joins [(norm .new g,g),(norm .new l,l)]).join .new) (d:=.list [g,l]) (s:=.sn (.list [g,l])) (Jk I.im h1.im) ?_;show iR _ _ _ [.any,.pen (CP K),.im (.int (0+((i:Nat):Int))),.im (au n us),.im (.int (0+((j:Nat):Int))),.im (.int x),.im (.int y),.sn (.list [g,l]),.any,.any,.any,.any,.any,.any];have W:∀d∈[g,l],TG d:=λd hd=>by
  simp only[Û,Ý,or_false]at hd;rcases hd with rfl|rfl
  ·exact I
  ·exact h1
 refine tG [g,l] (λd=>d) (λd=>.str (wdS d)) .imm rfl zK (λd hd A B hA=>?_) ?_
 ·have V:=W d hd;refine Dz V.im ?_;let⟨w,es,rfl,_,_⟩:=V.form;exact aB (B:=B) ⟨.str w,at0,rfl,hA⟩
 refine iB (k:=Kd.join .imm .new) (d:=.list [.str (wdS g),.str (wdS l)]) (s:=.sn (.list [.str (wdS g),.str (wdS l)])) Tp ?_;refine⟨rfl,n,us,x,y,rfl,n1,p,(),e,x0,x1,y0,y1,λS Y=>?_⟩;have lS:=Y.2;have X:∀d∈S++[g,l],TG d:=λd hd=>(ë.mp hd).elim (Y.1 d) (W d);have C:∀d∈S++[g,l],Fit n us x y (wdS g) (wdS l) d:=λd _=>Ju L ne t1 Z d;have lA:⇑(S++[g,l])<=300:=by rw[Ð];show ⇑S+2<=300;lia
 refine⟨(show ⇑S+2<=1000 by lia),.inr ?_⟩;refine iB (k:=.snw) (d:=.list (S++[g,l])) (s:=.sn (.list (S++[g,l]))) OD ?_;generalize S++[g,l]=T at X C lA ⊢;refine⟨wdS g,wdS l,rfl,yS t1 Z,?_⟩;refine aD (A:=True) ⟨n,us,x,y,T,wdS g,wdS l,rfl,L,ne,lA,X,C,?_⟩;refine aD (A:=True) ⟨n,us,y,x,rfl,n1,(),(),e,y0,y1,x0,x1,λz=>ne z.symm,?_⟩;generalize byD n.toNat us y x=m at U J t2 ⊢;refine⟨n,us,y,x,rfl,n1,(),(),e,y0,y1,x0,x1,λz=>ne z.symm,zK,?_⟩;generalize byP n us y x=o at O h2 p2 ⊢;refine iB (k:=(joins [(norm .new m,m),(norm .new o,o)]).join .new) (d:=.list [m,o]) (s:=.sn (.list [m,o])) (Jk J.im h2.im) ?_;show iR _ _ _ [.any,.pen (CP K),.im (.int (0+((i:Nat):Int))),.im (au n us),.im (.int (0+((j:Nat):Int))),.im (.int x),.im (.int y),.sn (.list [g,l]),.sn (.list [.str (wdS g),.str (wdS l)]),.sn (.list T),.sn (.list [m,o]),.any,.any,.any];have tg2:∀d∈[m,o],TG d:=λd hd=>by
  simp only[Û,Ý,or_false]at hd;rcases hd with rfl|rfl
  ·exact J
  ·exact h2
 refine tG [m,o] (λd=>d) (λd=>.str (wdS d)) .imm rfl zK (λd hd A B hA=>?_) ?_
 ·have V:=tg2 d hd;refine Dz V.im ?_;let⟨w,es,rfl,_,_⟩:=V.form;exact aB (B:=B) ⟨.str w,at0,rfl,hA⟩
 have e1:wdS m=wdS g:=t2.back.uniq t1;have e2:wdS o=wdS l:=p2.back.uniq Z;have o1:=yI I h1;have o2:=yI J h2;have q1:å (.list [.str (wdS m),.str (wdS o)]) (.list [.str (wdS g),.str (wdS l)])=true:=by
  rw[e1,e2];show(decide (wdS g=wdS g)&&(decide (wdS l=wdS l)&&true))=true;rw[decide_eq_true rfl,decide_eq_true rfl];rfl
 refine⟨o2,o1,?_⟩;show if(!PyData.eqv (.list [.str (wdS m),.str (wdS o)]) (.list [.str (wdS g),.str (wdS l)]))=true then _ else _
 rw[q1];refine aD (A:=True) ⟨_,_,rfl,?_⟩;have one:∀(u v:Int)(dd ee:D)(Q:DEnds),Pl n us u v->u≠v->TG dd->TG ee->iI n us u v dd=true->iV n us u v ee=true->Q.nx [.any,.pen (CP K),.im (.int (0+((i:Nat):Int))),.im (au n us),.im (.int (0+((j:Nat):Int))),.im (.int x),.im (.int y),.sn (.list [g,l]),.sn (.list [.str (wdS g),.str (wdS l)]),.sn (.list T),.sn (.list [m,o]),.any,.any,.any] ->
   iR (dIf (cH (Dl.t2 vB (tFn Lx (aQ (tV 3) (aQ (tV 11) (aQ (tV 12) (aQ (Dl.t2 gIx (tV 13) (tK (.int 0))) dX))))) (tK (.bool true)))) (yq (tK (.bool false))) nG)
    (iR (dIf (cH (Dl.t2 vB (tFn DW (aQ (tV 3) (aQ (tV 11) (aQ (tV 12) (aQ (Dl.t2 gIx (tV 13) (tK (.int 1))) dX))))) (tK (.bool true)))) (yq (tK (.bool false))) nG) (pJ [11,12,13] nG)) Q [.any,.pen (CP K),.im (.int (0+((i:Nat):Int))),.im (au n us),.im (.int (0+((j:Nat):Int))),.im (.int x),.im (.int y),.sn (.list [g,l]),.sn (.list [.str (wdS g),.str (wdS l)]),.sn (.list T),.sn (.list [m,o]),.im (.int u),.im (.int v),.sn (.list [dd,ee])]:=λu v dd ee Q Pu nu gD gE sD sE h=>by
  refine⟨dd,at0,n,us,u,v,dd,rfl,Pu,nu,gD.th,?_⟩;rw[sD];refine⟨ee,bJ (xs:=[dd,ee]) (j:=1) rfl,n,us,u,v,ee,rfl,Pu,nu,gE.th,?_⟩;rw[sE];exact h
 refine⟨rfl,λ(t:Nat) ρ=>ρ=[.any,.pen (CP K),.im (.int (0+((i:Nat):Int))),.im (au n us),.im (.int (0+((j:Nat):Int))),.im (.int x),.im (.int y),.sn (.list [g,l]),.sn (.list [.str (wdS g),.str (wdS l)]),.sn (.list T),.sn (.list [m,o]),.any,.any,.any],rfl,?_,?_⟩
 rotate_left
 ·rintro ρ rfl;rfl
 rintro t d ρ hd rfl;match t,hd with
 |0,hd =>
  cases hd;refine⟨rfl,Ag (k:=.snw) ?_⟩;refine one x y g l _ L ne I h1 R N ?_;rfl
 |1,hd =>
  cases hd;refine⟨rfl,Ag (k:=.snw) ?_⟩;refine one y x m o _ M (λz=>ne z.symm) J h2 U O ?_;rfl
 |t+2,hd=>cases hd
end
theorem len1{α:Type}:∀us:List α,⇑us=1->∃a,us=[a]
 |[a],_=>⟨a,rfl⟩
theorem len2{α:Type}:∀us:List α,⇑us=2->∃a b,us=[a,b]
 |[a,b],_=>⟨a,b,rfl⟩
theorem Xp{α:Type}:∀us:List α,⇑us=3->∃a b c,us=[a,b,c]
 |[a,b,c],_=>⟨a,b,c,rfl⟩
theorem oY{α:Type}:∀us:List α,⇑us=4->∃a b c d,us=[a,b,c,d]
 |[a,b,c,d],_=>⟨a,b,c,d,rfl⟩
theorem VL{α:Type}:∀us:List α,⇑us=5->∃a b c d e,us=[a,b,c,d,e]
 |[a,b,c,d,e],_=>⟨a,b,c,d,e,rfl⟩
def Gh{K:á}{f:Addr}{b:Value}{c:Option Addr}{a:Yc}{d:Array (Option Value)}(l:K.lookup f=some ⟨b,c,.func a,d⟩):W.keepIn K (.ref f)=true:=by
 unfold W.keepIn;simp only[l]
def Uj{P:Za}{w:Zb}{K:á}{c:Str->Option Value}{base:Zg}{k:Nat}{x:Str}{st:ZF}{f:Addr}{a:Yc}{ps:List Str}{sp:Sp}(F:Fun K x x st f a)(b:Binds K a ps [])(m:c x=some (.ref f))(h:FnOk P w K c base CX0 k f a ps sp) :
  ĉ P w K c base k x ps sp:=⟨f,a,h,b,F.kp,m⟩
abbrev zl(K:á)(f:Addr)(x:Str)(st:ZF)(oc:Value)(od:Option Addr)(kV dc pm:Value)(an:Option Addr)(cd ct:Value)(sl:Array (Option Value)):Prop:=K.lookup f=some ⟨oc,od,.func (W.fnOf x x (jR st) (fK st) (aH st) .none kV dc pm an cd ct),sl⟩
abbrev za(K:á)(x:Str)(f:Addr):Prop:=W.nsIn K mainGlobals x=some (some (.ref f))
abbrev zc(K:á)(x:Str)(cd:Value):Prop:=W.codeIn K cd x=true
abbrev zn(K:á)(x:Str):Prop:=W.nsIn K mainGlobals x=some none
abbrev zf(K:á)(f:Addr)(x:Str)(st:ZF):Prop:=∃oc od kV dc pm an cd ct sl,za K x f/\zl K f x st oc od kV dc pm an cd ct sl/\zc K x cd
def zE{K:á}{f:Addr}{x:Str}{st:ZF}{g:Value}{h:Option Addr}{kV dc i:Value}{d:Option Addr}{b e:Value}{j:Array (Option Value)}(a:za K x f)(l:zl K f x st g h kV dc i d b e j)(c:zc K x b):zf K f x st:=⟨_,_,_,_,_,_,_,_,_,a,l,c⟩
def zF{K:á}{h:Zg}{b:Str->Option Value}{f:Addr}{x:Str}{st:ZF}(X:K.In h)(G:h.Ns mainGlobals b)(z:zf K f x st):∃fd,Fun K x x st f fd/\b x=some (.ref f):=by
 let⟨_,_,_,_,_,_,_,_,_,a,l,c⟩:=z;exact⟨_,Lq (st:=st) l c (Gh l),W.mg_of X G a⟩
def all_mk{l:W.OpenLaw}{w:Zb}{K:á}{h:Zg}{mg:Str->Option Value}{fa f0 f1 f2 f3 f4 f5 f6 f7 f8 f9 f10 f11 f12 f13 f14 f15 f16 f17 f18 f19 f20 f21 f22 f23 f24 f25 f26 f27 f28 f29 f30 f31 f32 f33 f34 f35 f36 f37 f38 f39 f40 f41 f42 f43 f44 f45 f46 f47 f48 f49 f50 f51:Addr}(X:K.In h)(G:h.Ns mainGlobals mg)(hfa:mg "law"=some (.ref fa)){od51 f:Option Addr}{sl51:Array (Option Value)}{oc51 j i k a g:Value}(h0:zf K f0 dy (top 4))(h1:zf K f1 "is_below" (top 5))(h2:zf K f2 "is_place" (top 6))(h3:zf K f3 ca (top 7))(h4:zf K f4 db (top 8))(h5:zf K f5 bh (top 9))(h6:zf K f6 cq (top 11))(h7:zf K f7 "search" (top 12))(h8:zf K f8 "trace" (top 13))(h9:zf K f9 "part_of" (top 14))(h10:zf K f10 "parts" (top 15))(h11:zf K f11 "way" (top 16))(h12:zf K f12 bi (top 17))(h13:zf K f13 bu (top 18))(h14:zf K f14 "hops" (top 19))(h15:zf K f15 "is_way" (top 20))(h16:zf K f16 cv (top 22))(h17:zf K f17 cb (top 23))(h18:zf K f18 di (top 25))(h19:zf K f19 dA (top 26))(h20:zf K f20 dl (top 27))(h21:zf K f21 dS (top 28))(h22:zf K f22 cx (top 30))(h23:zf K f23 dn (top 31))(h24:zf K f24 dm (top 32))(h25:zf K f25 "by_ties" (top 33))(h26:zf K f26 bE (top 35))(h27:zf K f27 cw (top 36))(h28:zf K f28 cf (top 37))(h29:zf K f29 cr (top 38))(h30:zf K f30 cc (top 39))(h31:zf K f31 dV (top 40))(h32:zf K f32 "has_form" (top 42))(h33:zf K f33 dq (top 43))(h34:zf K f34 "share" (top 44))(h35:zf K f35 dr (top 45))(h36:zf K f36 cy (top 46))(h37:zf K f37 "is_apart" (top 47))(h38:zf K f38 bP (top 48))(h39:zf K f39 bo (top 49))(h40:zf K f40 ci (top 50))(h41:zf K f41 bv (top 51))(h42:zf K f42 dP (top 53))(h43:zf K f43 dQ (top 54))(h44:zf K f44 "_law_web" (top 55))(h45:zf K f45 "_law_met" (top 56))(h46:zf K f46 d4 (top 57))(h47:zf K f47 dt (top 58))(h48:zf K f48 d5 (top 59))(h49:zf K f49 dL (top 60))(h50:zf K f50 dE (top 61))(a51:za K "law" f51)(l51:zl K f51 "law" (top 62) oc51 od51 j i k f a g sl51)(c51:zc K "law" a)(z0:zn K "isinstance")(z1:zn K "int")(z2:zn K "bool")(z3:zn K "tuple")(z4:zn K "list")(z5:zn K "len")(z6:zn K "all")(z7:zn K "min")(z8:zn K "max")(z9:zn K "sorted")(z10:zn K "range")(z11:zn K "abs")(z12:zn K cz)(z13:zn K "reversed")(z14:zn K "set")(z15:zn K "zip")(z16:zn K "str")(z17:zn K "any")(z18:zn K "sum")
  :
  ∃fd:Yc,(∀(s:Shared)(v:Value),Yd s fd ⟨[v],[]⟩ [(ar,v)])/\∀base:Zg,K.In base->base.Ns mainGlobals mg->FnOk l.prog w K mg base CX0 10 fa fd [ar] (Fi K):=by
 have e:=hfa.symm.trans (W.mg_of X G a51);cases e;let⟨_,F0,m0⟩:=zF X G h0;have b0:=F0.binds (ps:=[ac]);let⟨_,F1,m1⟩:=zF X G h1;have b1:=F1.binds (ps:=["limit",ac]);let⟨_,F2,m2⟩:=zF X G h2;have b2:=F2.binds (ps:=[aa,ac]);let⟨_,F3,m3⟩:=zF X G h3;have b3:=F3.binds (ps:=[aa,ac]);let⟨_,F4,m4⟩:=zF X G h4;have b4:=F4.binds (ps:=[aa,ac]);let⟨_,F5,m5⟩:=zF X G h5;have b5:=F5.binds (ps:=[aa,aI,a6]);let⟨_,F6,m6⟩:=zF X G h6;have b6:=F6.binds (ps:=[aa]);let⟨_,F7,m7⟩:=zF X G h7;have b7:=F7.binds (ps:=[ck,bc]);let⟨_,F8,m8⟩:=zF X G h8;have b8:=F8.binds (ps:=["came",bz]);let⟨_,F9,m9⟩:=zF X G h9;have b9:=F9.binds (ps:=[aa,af]);let⟨_,o,m10⟩:=zF X G h10;have b10:=o.binds (ps:=[aa]);let⟨_,p,m11⟩:=zF X G h11;have b11:=p.binds (ps:=[aa,aI,a6]);let⟨_,q,m12⟩:=zF X G h12;have b12:=q.binds (ps:=[aa,aI,a6,ac]) λ_ _ _ _ _ _ us hl=>by let⟨_,_,_,_,rfl⟩:=oY us hl;rfl
 let⟨_,r,m13⟩:=zF X G h13;have b13:=r.binds (ps:=[aa,aI,a6,ac]) λ_ _ _ _ _ _ us hl=>by let⟨_,_,_,_,rfl⟩:=oY us hl;rfl
 let⟨_,t,m14⟩:=zF X G h14;have b14:=t.binds (ps:=[bb]);let⟨_,u,m15⟩:=zF X G h15;have b15:=u.binds (ps:=[aa,aI,a6,ac]) λ_ _ _ _ _ _ us hl=>by let⟨_,_,_,_,rfl⟩:=oY us hl;rfl
 let⟨_,x,m16⟩:=zF X G h16;have b16:=x.binds (ps:=[aa,d6]);let⟨_,y,m17⟩:=zF X G h17;have b17:=y.binds (ps:=[aa,"v"]);let⟨_,z,m18⟩:=zF X G h18;have b18:=z.binds (ps:=[ax,ay,az]);let⟨_,A,m19⟩:=zF X G h19;have b19:=A.binds (ps:=[ax,ay,az]);let⟨_,C,m20⟩:=zF X G h20;have b20:=C.binds (ps:=[ax,ay,bc,bz]) λ_ _ _ _ _ _ us hl=>by let⟨_,_,_,_,rfl⟩:=oY us hl;rfl
 let⟨_,D,m21⟩:=zF X G h21;have b21:=D.binds (ps:=[ax,ay,az,bc,bz]) λ_ _ _ _ _ _ us hl=>by let⟨_,_,_,_,_,rfl⟩:=VL us hl;rfl
 let⟨_,E,m22⟩:=zF X G h22;have b22:=E.binds (ps:=[aa]);let⟨_,F,m23⟩:=zF X G h23;have b23:=F.binds (ps:=[aa,aI,a6]);let⟨_,H,m24⟩:=zF X G h24;have b24:=H.binds (ps:=[aa,aI,a6]);let⟨_,I,m25⟩:=zF X G h25;have b25:=I.binds (ps:=[aa,aI,a6]);let⟨_,J,m26⟩:=zF X G h26;have b26:=J.binds (ps:=[aa,aI,a6]);let⟨_,L,m27⟩:=zF X G h27;have b27:=L.binds (ps:=[aa,dC,a7]);let⟨_,M,m28⟩:=zF X G h28;have b28:=M.binds (ps:=[aa,aI,a6]);let⟨_,N,m29⟩:=zF X G h29;have b29:=N.binds (ps:=[aa,"v",aI]);let⟨_,O,m30⟩:=zF X G h30;have b30:=O.binds (ps:=[aa,aI,a6]);let⟨_,P,m31⟩:=zF X G h31;have b31:=P.binds (ps:=[aa,aI,a6]);let⟨_,Q,m32⟩:=zF X G h32;have b32:=Q.binds (ps:=[ac,"word",ax]);let⟨_,R,m33⟩:=zF X G h33;have b33:=R.binds (ps:=[ac,"some"]);let⟨_,S,m34⟩:=zF X G h34;have b34:=S.binds (ps:=[ef,bS]);let⟨_,T,m35⟩:=zF X G h35;have b35:=T.binds (ps:=[aa,aI,a6,ac]) λ_ _ _ _ _ _ us hl=>by let⟨_,_,_,_,rfl⟩:=oY us hl;rfl
 let⟨_,U,m36⟩:=zF X G h36;have b36:=U.binds (ps:=[ef,bS]);let⟨_,V,m37⟩:=zF X G h37;have b37:=V.binds (ps:=[aa,aI,a6,ac]) λ_ _ _ _ _ _ us hl=>by let⟨_,_,_,_,rfl⟩:=oY us hl;rfl
 let⟨_,Y,m38⟩:=zF X G h38;have b38:=Y.binds (ps:=[aa,aI,a6,ac]) λ_ _ _ _ _ _ us hl=>by let⟨_,_,_,_,rfl⟩:=oY us hl;rfl
 let⟨_,Z,m39⟩:=zF X G h39;have b39:=Z.binds (ps:=[aa,aI,a6,ac]) λ_ _ _ _ _ _ us hl=>by let⟨_,_,_,_,rfl⟩:=oY us hl;rfl
 let⟨_,F40,m40⟩:=zF X G h40;have b40:=F40.binds (ps:=[aa,aI,a6,ac]) λ_ _ _ _ _ _ us hl=>by let⟨_,_,_,_,rfl⟩:=oY us hl;rfl
 let⟨_,F41,m41⟩:=zF X G h41;have b41:=F41.binds (ps:=[aa,aI,a6,ac]) λ_ _ _ _ _ _ us hl=>by let⟨_,_,_,_,rfl⟩:=oY us hl;rfl
 let⟨_,F42,m42⟩:=zF X G h42;have b42:=F42.binds (ps:=[ae,"_law_many"]);let⟨_,F43,m43⟩:=zF X G h43;have b43:=F43.binds (ps:=[ae,a8,bp]);let⟨_,F44,m44⟩:=zF X G h44;have b44:=F44.binds (ps:=[ae,cn,bq]);let⟨_,F45,m45⟩:=zF X G h45;have b45:=F45.binds (ps:=[ad,du,c5,da]) λ_ _ _ _ _ _ us hl=>by let⟨_,_,_,_,rfl⟩:=oY us hl;rfl
 let⟨_,F46,m46⟩:=zF X G h46;have b46:=F46.binds (ps:=[ae,a8]);let⟨_,F47,m47⟩:=zF X G h47;have b47:=F47.binds (ps:=[ae,ad,ak,al]) λ_ _ _ _ _ _ us hl=>by let⟨_,_,_,_,rfl⟩:=oY us hl;rfl
 let⟨_,F48,m48⟩:=zF X G h48;have b48:=F48.binds (ps:=[ae,ad,ak,al]) λ_ _ _ _ _ _ us hl=>by let⟨_,_,_,_,rfl⟩:=oY us hl;rfl
 let⟨_,F49,m49⟩:=zF X G h49;have b49:=F49.binds (ps:=[ad,ak,al,ag,av]) λ_ _ _ _ _ _ us hl=>by let⟨_,_,_,_,_,rfl⟩:=VL us hl;rfl
 let⟨_,F50,m50⟩:=zF X G h50;have b50:=F50.binds (ps:=[av]);have F51:=Lq (st:=top 62) l51 c51 (Gh l51);have B:Ĩ mg:=⟨ę X G z0,ę X G z1,ę X G z2,ę X G z3,ę X G z4,ę X G z5,ę X G z6,ę X G z7,ę X G z8,ę X G z9,ę X G z10,ę X G z11⟩
 have d:=ę X G z12;have N13:=ę X G z13;have N14:=ę X G z14;have N15:=ę X G z15;have N16:=ę X G z16;have N17:=ę X G z17;have N18:=ę X G z18;refine⟨W.fnOf "law" "law" (jR (top 62)) (fK (top 62)) (aH (top 62)) .none j i k f a g,λs v=>.of_eq rfl,λbase _ _=>?_⟩;have zc:=@Uj l.prog w K mg base;have C0:=zc F0 b0 m0 (Kq F0 B);have C1:=zc F1 b1 m1 (Kw F1 C0);have C2:=zc F2 b2 m2 (zN F2 B C1);have C3:=zc F3 b3 m3 (oK F3 B C1);have C4:=zc F4 b4 m4 (sX F4 B C2);have C5:=zc F5 b5 m5 (jZ F5 B C4);have C6:=zc F6 b6 m6 (qt F6 B d);have C7:=zc F7 b7 m7 (Hi F7 B);have C8:=zc F8 b8 m8 (Kr F8 B N13);have n:=zc F9 b9 m9 (CW F9 B C7 C6);have C10:=zc o b10 m10 (Ku o B n);have C11:=zc p b11 m11 (Td p B C4 C8 C7 C6);have C12:=zc q b12 m12 (jX q B N14 C2);have C13:=zc r b13 m13 (kO r B C12 C3);have C14:=zc t b14 m14 (Ou t B N15);have C15:=zc u b15 m15 (Hj u B N15 C4 C13 C14);have C16:=zc x b16 m16 (qp x B d);have C17:=zc y b17 m17 (oG y B C4 C10);have C18:=zc z b18 m18 (sS z B);have C19:=zc A b19 m19 (uI A B d);have C20:=zc C b20 m20 (sY C B C8 C7 C19);have C21:=zc D b21 m21 (w5 D B C8 C7 C18);have C22:=zc E b22 m22 (qy E B);have C23:=zc F b23 m23 (sO F B C22 C20 C21);have C24:=zc H b24 m24 (sU H B C11 n C16);have C25:=zc I b25 m25 (Dd I B C5 n C23 C24);have C26:=zc J b26 m26 (mj J B);have C27:=zc L b27 m27 (qx L B);have C28:=zc M b28 m28 (oE M B C26 C20 C21 C27);have C29:=zc N b29 m29 (qu N B C17);have C30:=zc O b30 m30 (oJ O B C29);have C31:=zc P b31 m31 (xq P B C5 n C28 C30 C24);have b:=zc Q b32 m32 (zR Q B N16);have m:=zc R b33 m33 (sW R B C0);have C34:=zc S b34 m34 (Ks S B N17);have C35:=zc T b35 m35 (sV T B b C15 C34);have C36:=zc U b36 m36 (qw U B C34);have C37:=zc V b37 m37 (zO V B n m b);have C38:=zc Y b38 m38 (lZ Y B n C3 b C16 m);have C39:=zc Z b39 m39 (jY Z B n C2 b C29 m);have C40:=zc F40 b40 m40 (oF F40 B C5 C35 C37 C38);have C41:=zc F41 b41 m41 (kJ F41 B C5 C35 C36 C37 C39 C30 C38);have c:=zc F42 b42 m42 (Ot F42 B);have C43:=zc F43 b43 m43 (zM F43 B c);have C44:=zc F44 b44 m44 (CZ F44 B c C43);have C45:=zc F45 b45 m45 (Dc F45 B d N18);have C46:=zc F46 b46 m46 (zJ F46 B c);have C47:=zc F47 b47 m47 (uJ F47 B N18 c);have C48:=zc F48 b48 m48 (zH F48 B C45 C47);have C49:=zc F49 b49 m49 (w6 F49 B C40 C41);have C50:=zc F50 b50 m50 (xg F50 B);exact Te F51 B C44 C46 C25 C31 C48 C49 C50 C40 C41
def walk{l:W.OpenLaw}{q:Za}{loose:List Str}{XP:(Str->Option Value)->Zg->Prop}{YP:Zb->Zg->Prop}{d:DefRec}{K:Zd->á}(hn:l.most=some 63)(c:d.params.defaults=[])(g:∀(w:Zb)(h:Zg),YP w h->(K w.params).In h)(F:∀(w:Zb)(b:Str->Option Value)(e:Addr)(h:Zg),(K w.params).In h->h.Ns mainGlobals b->b d.name=some (.ref e) ->
   ∃fd:Yc,(∀(s:Shared)(u:Value),Yd s fd ⟨[u],[]⟩ [(ar,u)])/\∀base:Zg,(K w.params).In base->base.Ns mainGlobals b->FnOk l.prog w (K w.params) b base CX0 10 e fd [ar] (Fi (K w.params))) :
  W.WalkO q loose XP YP l.row.toRowW d [] (λf vs=>PySem.call f vs) :=
 L2.Nk (n:=63) (k:=10) (x:=ar) (CX:=λ_=>CX0) (sp:=λw=>Fi (K w.params)) hn ∅ c ⟨rfl,∅,∅,rfl⟩ g F (λ_ _ a ns hl hO hS=>⟨a,ns,rfl,hS,λ_=>rfl⟩) λ_ _ _ _ _ z=>z
end Nf
open PySem PySem.W PyProof.Rows
local macro_rules
 |`(tactic| k_qdec)=>`(tactic| fail)
local macro_rules
 |`(tactic| o_head (kmHook $k $a $e $t))=>`(tactic| o_head (kHook (λP=>List.append (List.map (λa=>(a,PySem.W.tabObj #[])) $t) ($k P)) (List.append $t $a) (λ_=>by kernel_rfl)))
local macro_rules
 |`(tactic| o_head (kHook $k $a $e))=>`(tactic| (
  refine holds_open (q:=view ô Nf.vm) (loose:=[]) (Xt:=λs=>xlAt (view ô Nf.vm) [] s&&recOk [] s) (XP:=XL (view ô Nf.vm) []) (Yf:=Hook.obs (kHook $k $a $e)) (Ya:=Hook.val (kHook $k $a $e)) (YP:=Hook.says (kHook $k $a $e)) (N:=4164) ?hl (Hook.of (kHook $k $a $e)) (Hook.keeps (kHook $k $a $e)) (λs e=>xl_of s (Bool.and_eq_true_iff.mp e).1) XL.keeps (by rfl) (by rfl) (by rfl) (λs e=>recFacts_of (Bool.and_eq_true_iff.mp e).2) (by rfl) (by first|assumption|decide +kernel) ⋯ ⟨rfl,rfl,rfl,rfl,rfl,⋯⟩ ?hw ?hc))
set_option maxRecDepth 100000 in
set_option maxHeartbeats 0 in
theorem PySem.Challenge.cw_nofall_k15_whole_one_sort_alone_holds : PySem.Challenge.rw_nofall_k15_whole_one_sort_alone.Holds := by
 w_on;refine PySem.W.holds_law Nf.well λsaid=>?_;k_head
 ·refine Nf.O6 90 (boot_open (by kernel_rfl) rfl (λs=>by kernel_rfl)) Nf.O1 (λw os=>?_) (λw os=>?_)
  ·show Nf.tY ô w os _ 90=Nf.frF _ 90;rw[PySem.W.Fast.frontQ_eq]
   kernel_rfl
  ·show Nf.Bl ô w os _ 90=Nf.frB _ 90;rw[PySem.W.Fast.backQ_eq]
   kernel_rfl
 ·w_witness2
 k_fill
 refine Nf.walk (l:=PySem.Challenge.rw_nofall_k15_whole_one_sort_alone) rfl rfl (λw h Y=>PySem.W.kIn_of Y) ?F
 case F =>
  intro w mg fa h KX G hmg
  refine' Nf.all_mk KX G hmg ?h0 ?h1 ?h2 ?h3 ?h4 ?h5 ?h6 ?h7 ?h8 ?h9 ?h10 ?h11 ?h12 ?h13 ?h14 ?h15 ?h16 ?h17 ?h18 ?h19 ?h20 ?h21 ?h22 ?h23 ?h24 ?h25 ?h26 ?h27 ?h28 ?h29 ?h30 ?h31 ?h32 ?h33 ?h34 ?h35 ?h36 ?h37 ?h38 ?h39 ?h40 ?h41 ?h42 ?h43 ?h44 ?h45 ?h46 ?h47 ?h48 ?h49 ?h50 ?a51 ?l51 ?c51 ?z0 ?z1 ?z2 ?z3 ?z4 ?z5 ?z6 ?z7 ?z8 ?z9 ?z10 ?z11 ?z12 ?z13 ?z14 ?z15 ?z16 ?z17 ?z18
  any_goals first|refine' Nf.zE ?_ ?_ ?_|skip
  any_goals (show _=_;k_is)
  all_goals rfl
end
