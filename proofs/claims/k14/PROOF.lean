import PyProof.Rows.All
import Wide.All
import OpenK.AllK
import Wide.FinOn
import Lean
import PyProof.EqAt
import PyProof.EqKinds
import PyProof.TupleCall
import PySem.Challenge.RW_nofall_k14_what_shows_by_places
set_option genSizeOf false
set_option genSizeOfSpec false
set_option Elab.async false
set_option linter.all false
set_option maxRecDepth 100000
open PySem.PyData renaming int→Â,eqv→Ü,list→ĉ,canLayAll0→Ď,str→ē,depthAll→ę,tuple→ő
open List renaming length_map→Ä,getElem?_eq_some_iff→Ç,mem_cons_of_mem→É,mem_singleton→Ê,getElem?_eq_getElem→Ë,mem_of_getElem?→Ì,mem_cons_self→Í,length_append→Ñ,size_toArray→Ø,replicate→Ú,getElem?_map→Ý,mem_cons→Þ,range→ß,mem_filter→á,mem_append→â,mem_append_right→ç,mem_append_left→é,length_singleton→ì,map_append→î,length_cons→ñ,not_mem_nil→ò,mem_range→ó,mem_map→õ,map_cons→ö,getElem?_append_left→ù,getElem?_append_right→Ā,getD_eq_getElem?_getD→ā,mem_zipIdx_iff_getElem?→Ą,length_filter_le→ć,length_range→Ċ,getElem?_set_self→đ,all_eq_true→Ĕ,length_take→Ě,append_nil→ě,getElem?_of_mem→ģ,map_map→Ī,filter_cons_of_pos→ī,take_add_one→Ĭ,take_length→Ĳ,getElem_mem→ĳ,filter_append→Ļ,length_reverse→Ŀ,length_pos_iff→ŀ,mem_of_mem_take→ň,getElem?_set_ne→Ŋ,drop_eq_getElem_cons→Ŏ,lookup_cons→Œ,length_drop→œ,any_eq_true→Ŕ,filter_cons_of_neg→ŝ,append_assoc→Ş,nodup_cons→Š,find?_cons→š,replicate_succ→Ŧ,take_of_length_le→Ũ,toArray→Ŵ,nodup_append→ŵ,mem_iff_getElem→Ŷ,any_cons→ź,all_cons→Ż
open PySem renaming wpAny_bind→Æ,wpAny_pure→Ù,sizeLine_eq→ą,wpAny_holding→ġ,wpAny_truthy_bool→ĺ,wpAny_call_entry→Ł,wpAny_callSpecial?_slot→ŋ,wpAny_mono→ř,mem_of_lookup→ţ,wpAny_newObj_type→ŧ,wpAny_pyIter_tuple→Ų,wpAny_Call_Name_kw→ų,wpAny_field→ž
open Bool renaming and_eq_true→Ï,false_ne_true→Ð,true_and→ÿ,eq_iff_iff→Ė,eq_false_iff→Ĝ,false_eq_true→ļ,not_eq_true'→ş,false_and→ŭ
open PySem.Heap renaming get?_push_of_some→Ò,lt_size→Ó,get?_push_size→è,get?_update_other→Ľ,size_push→Ń,get?_update_self→ŏ,size_update→Ū
open Nat renaming le_refl→Õ,ne_of_lt→ë,le_of_ble_eq_true→ï,lt_of_lt_of_le→ð,le_trans→þ,zero_le→Ă,lt_irrefl→Ē,lt_succ_of_lt→ĕ,ne_of_gt→ņ,le_succ→ō,lt_succ_self→ŕ
open Option.some renaming inj→Ö
open PySem.W renaming Frag→ã,mg_none_of→Ġ,boot_heap→Ž
open PySem.PassesOwn renaming never→ô
open PySem.Obj renaming mapSeq→û
open Sum renaming inl→ü
open PySem.Challenge renaming pw_nofall_k14_what_shows_by_places→ý
open PySem.NameKind renaming free→Ĉ,cell→Ğ
open PyProof.Rows renaming callWith_type1→Č,slot_tupleiter_next→ū
open PySem.Value renaming type→ď,ref→ĥ,none→ľ,int→ś
open Array renaming length_toList→ğ
open PySem.Builtin.SmallTypes renaming nextOf→Ħ,ownedTupleIsFree→Ő
open Ne renaming symm→Ĩ
open PySem.Builtin.List renaming listExtendWith→į
open Int renaming toNat_natCast→ķ,le_refl→Ŭ,emod_lt_of_pos→Ů
open ForInStep renaming yield→ĸ
open PySem.F renaming plainAttrs_list→Ņ,slot_enumerate_next→Ň
open PySem.Str renaming ofString→ũ
open False renaming elim→Ÿ
open PySem renaming Program → Zc,World → Zd,Params → Zf,DictEntry → Zg,Heap → Zi,OsState → Zj,treeTable → Zm,importedModules → Zn,wpAny_eqBool_int → Zo,sysModules → Zp,tupleKind → Zq,builtinsNs → Zr,bootBuiltins → Zs,Around → Zt,Scope → Zu,Expr → Zv,starEach → Zw,eval → Zx,backTo → Zy,foldedSetIterable → Zz,backToKw → ZA,keywordEach → ZB,Keyword → ZC,GenState → ZE,Model → ZF,isTrue → ZG,Stmt → ZH,wpAny_Name → ZI,wpAny_Constant_int → ZJ,CmpOp → ZK,compareOp → ZL,behindInMarks → ZM,wpAny_Compare1 → ZN,wpAny_isTrue_Compare1 → ZO,truthy → ZP,wpAny_execs_nil → ZR,swapsWith → ZT,assign → ZU,assignInOrder → ZV,assignEach → ZW,setItem → ZX,wpAny_assign_Name → ZY,wpAny_standAt → ZZ,swapsWithSole → Z0,swappedStores → Z2,PassesOwn → Z3,wpAny_passesOwn → Z4,pyNext → Z5,letOwnedTupleGo → Z6,wpAny_load → Z7,rawInt → Z8,wpAny_pyNext_list_item → Z9,wpAny_pyNext_list_end → YA,call → YI,binaryOp → YN,intBits_le_64 → YO,lastMarks → YR,recursionLimit → YU,cLine → YV,FuncData → YY,BindsTo → Y1,codeAny → Y2,codeAny_mono → Y3,bindL → Xs,bindC → XA,Arguments → XE,noFill_tuple_add → XG,seq_tuple_add → XI,IsPart → XN,getItem → XT,wpAny_typeOf → XU,evalPart_none → XV,evalPart_some → XW,typeLookup → XX,seqIndex? → X0,seqIndex_of → X1,seqIndex_neg → X2,subscripted → X9,sliceBounds → Wl,wpAny_getItem_list_slice → Wp,call_list_seq → WA,typeIs_int → WB,attributeBase → WE,call_meets → WF,fitsIndex_both → WG,cellOf → WH,closureFor → WJ,pushCells → WN,newFunctionEnv → WO,relabel → WP,newList → WS,wpAny_comprehension_free → WU,wpAny_pyIter_list → WZ,intItems → VA,numAt → VC,intItems_at → VE,argBest → VM,wpAny_newTuple → UB,wpAny_newList → UC,collect → UE,wpAny_runValue → UF,codeAny_builtin → UH,PyData → UQ,wpAny_loadPart' → UR,field → US,wpAny_seqItems → UT,wpAny_setField → UU,firstArgMember → UV,wpAny_pyNext_enum_itemD → UX,wpAny_letOwnedTupleGo_enum → UY,wpAny_attempt → UZ,wpAny_isInstance → U1,isSubtype_stop → U2,wpAny_pyIter_slot → Ta,valueAt → Tb,atKey → Th,tupleKind_room_in1 → Tk,wpAny_specialOf → Tl,ItemsOf → To,plainId_quiet → Ts,wpAny_setField_rec → Tu,wpAny_nextOf_list_item → Tx,wpAny_nextOf_list_end → Ty,ZipApart → TB,wpAny_pyNext_zip_end → TC,updateSeq → TD,wpAny_updateSeq → TH,typeLookup_type → TK,builtinLookup_eq_fast → TL,callType_codes → TM,code_list_new → TN,wpAny_pyIter_zip → TU,Reads → T1,ReadsAll → T2,call_sum_walk → Sa,Const → Sc,nums_intItems → Se,numAt_eq → Sf,wpAny_ite_split → Sj,revObj → Sm,SetTable → Sn,textFrom → Sz
open PySem.W renaming SharedT → Ze,boot_o_0 → Zh,boot_drawn → Zk,boot_toks → Zl,kas_rev → W1,kas_count → W2,kas_st → VQ,kasC_bind → VS,kasC_get → VT,kasC_cons → VU,kasC_pure → VX
open PyProof.Rows renaming AllBare → ZD,UnaryOp_ → ZQ,Call_ → YE,envOfC → XB,slicePart_none → XO,Subscript_ → XY,subscriptTail → XZ,subscriptTail_builtinR → We,tuples' → VO,pendingOf → VW,seqObj → VY,listItems_at → VZ,listUpdate_at → V2,get?_update_seq → Uf,seqEpoch_at → UA,size_push' → UD,entry_proto_collect' → UI,entry_list_iadd' → UK,slot_list_sort → UM,entry_list_sort → UN,args_list_sort → UO,sortedAll_old → UP,boot_list → TW,boot_tuple → TZ,boot_sorted → T0,step_dedup → Sb,boot_int → So,boot_bool → Su
noncomputable section
local macro_rules|`(())=>`(by lia)
local macro_rules|`(∅)=>`(by decide)
local macro_rules|`(⋯)=>`(by decide +kernel)
local macro_rules|`(⇑$x)=>`(($x).length)
local macro_rules|`(↥$x)=>`(($x).heap.objs.size)
local macro_rules|`(tactic|let $p:term:=$e)=>do
 let rec go(n:Nat)(p:Lean.Syntax):Lean.MacroM (Lean.TSyntax `rcasesPat):=match n with
  |0=>Lean.Macro.throwUnsupported
  |n+1=>match p with
   |`(⟨$xs,*⟩)=>do
    let ys<-xs.getElems.mapM λx=>do let y<-go n x;`(Lean.Parser.Tactic.rcasesPatLo|$y:rcasesPat)
    `(rcasesPat|⟨$ys,*⟩)
   |`(_)=>`(rcasesPat|_)
   |`($x:ident)=>`(rcasesPat|$x:ident)
   |_=>Lean.Macro.throwUnsupported
 let q<-go 50 p
 `(tactic|obtain $q:rcasesPat:=$e)
abbrev ZS:=PySem.Str
abbrev aa:ZS:="_law_web_here"
abbrev ac:ZS:="_law_thing"
abbrev ad:ZS:="_law_pen"
abbrev ae:ZS:="web"
abbrev af:ZS:="thing"
abbrev ag:ZS:="_law_a"
abbrev ah:ZS:="_law_b"
abbrev am:ZS:="place"
abbrev ar:ZS:="ways"
abbrev av:ZS:="apart"
abbrev ax:ZS:="_law_number"
abbrev az:ZS:="tie"
abbrev aE:ZS:="count"
abbrev aI:ZS:="_law_n"
abbrev aS:ZS:="_law_sort"
abbrev aT:ZS:="_law_some"
abbrev a7:ZS:="_law_one"
abbrev a8:ZS:="arcs"
abbrev a9:ZS:="_law_places"
abbrev ba:ZS:="_law_script"
abbrev bb:ZS:="used"
abbrev bc:ZS:="_law_found"
abbrev bd:ZS:="start"
abbrev bi:ZS:="a"
abbrev bj:ZS:="number"
abbrev bn:ZS:="b"
abbrev bo:ZS:="_law_due_here"
abbrev bp:ZS:="check_two_places"
abbrev bq:ZS:="is_row_of_places"
abbrev br:ZS:="is_parting_place"
abbrev bt:ZS:="_law_row"
abbrev bv:ZS:="_law_many"
abbrev bz:ZS:="_law_ties"
abbrev bE:ZS:="_law_great"
abbrev bP:ZS:="has_form_of_way"
abbrev bS:ZS:="shows_by_places"
abbrev bX:ZS:="goal"
abbrev ca:ZS:="arcs_of_places"
abbrev cc:ZS:="indexes"
abbrev cf:ZS:="is_parting_tie"
abbrev ci:ZS:="_law_bent_list"
abbrev ck:ZS:="other"
abbrev cn:ZS:="_law_k"
abbrev cq:ZS:="enumerate"
abbrev cv:ZS:="places"
abbrev cw:ZS:="is_tie_number"
abbrev cx:ZS:="parts_without"
abbrev cy:ZS:="parting_place"
abbrev cz:ZS:="two_by_places"
abbrev cE:ZS:="_law_bent_way"
abbrev cK:ZS:="steps"
abbrev c6:ZS:="index"
abbrev c8:ZS:="_law_alike"
abbrev c9:ZS:="_law_few"
abbrev da:ZS:="steps_of_web"
abbrev db:ZS:="side_without"
abbrev de:ZS:="without_ties"
abbrev df:ZS:="joined_again"
abbrev di:ZS:="meet_nowhere"
abbrev dl:ZS:="_law_numbers"
abbrev dm:ZS:="_law_middles"
abbrev dn:ZS:="_law_turn"
abbrev dq:ZS:="_law_fallen"
abbrev dr:ZS:="_law_barred"
abbrev dt:ZS:="check_place"
abbrev du:ZS:="steps_along"
abbrev dy:ZS:="arcs_of_two"
abbrev dA:ZS:="parting_tie"
abbrev dC:ZS:="is_same_set"
abbrev dE:ZS:="is_two_ways"
abbrev dL:ZS:="_law_stroll"
abbrev dP:ZS:="_law_start"
abbrev dQ:ZS:="is_whole"
abbrev dS:ZS:="steps_left"
abbrev dV:ZS:="nodes"
abbrev d4:ZS:="_law_leads"
abbrev d5:ZS:="_law_begun"
abbrev d6:ZS:="_law_right"
abbrev ee:ZS:="_law_take"
abbrev ef:ZS:="_law_more"
abbrev eg:ZS:="two_along"
abbrev eh:ZS:="by_places"
abbrev ei:ZS:="_law_word"
abbrev em:ZS:="_law_just"
abbrev er:ZS:="_law_pair"
abbrev et:ZS:="_law_bent"
abbrev ew:ZS:="numbers"
abbrev ez:ZS:="one"
def eA:=@decide_eq_false
def eB:=@of_decide_eq_true
def eC:=@decide_eq_true_eq
def eD:=@if_pos
def eH:=@if_neg
def eI:=@absurd
def eJ:=@congrArg
def eK:=@beq_self_eq_true
def eM:=@beq_iff_eq
def eP:=@eq_of_beq
abbrev eQ:=PySem.Value->PySem.Shared->Prop
namespace Nf
open PySem PySem.W PyProof.Rows
def qF(b:String->Option Builtin)(p:Zc)(w:Zd)(m:Nat)(a:Option Value):Nat->Ze->Thread->Option Ze
 |0,_,_=>none
 |n+1,s,t=>match through t with
  |true=>some s
  |false=>match stepOk m a t with
   |false=>none
   |true=>match stepT (denote b) p w s t with
    |none=>none
    |some r=>qF b p w m a n r.1 r.2
theorem vo{c:String->Option Builtin}{p:Zc}{w:Zd}{m:Nat}{a:Option Value}:∀{n:Nat}{s b:Ze}{t:Thread},qF c p w m a n s t=some b->topRun c p w m a n s.abs t=some b.abs
 |0,_,_,_,h=>by cases h
 |n+1,s,b,t,h=>by
  unfold qF at h;unfold topRun;cases he:through t with
  |true=>rw[he]at h;cases h;rfl
  |false =>
   rw[he]at h;cases hk:stepOk m a t with
   |false=>rw[hk]at h;cases h
   |true =>
    rw[hk]at h;cases hs:stepT (denote c) p w s t with
    |none=>rw[hs]at h;cases h
    |some r=>let⟨d,t2⟩:=r;rw[hs]at h;rw[stepT_spec hs];exact vo h
def uz(P:Zf):List Zg:=match(Zh P).data with|.dict es _=>es.toList|_=>[]
def gH(P:Zf)(i:Nat):List Zg:=((uz P).drop i).take 16
def b0(P:Zf):List Zg:=by
 refine(?f:(l:List Zg)->l=gH P 0->List Zg) ?l ?h
 case f=>exact λl _=>l
 case h=>unfold gH uz Zh;dsimp only[List.drop,List.take];exact rfl
def b1(P:Zf):List Zg:=by
 refine(?f:(l:List Zg)->l=gH P 16->List Zg) ?l ?h
 case f=>exact λl _=>l
 case h=>unfold gH uz Zh;dsimp only[List.drop,List.take];exact rfl
def b2(P:Zf):List Zg:=by
 refine(?f:(l:List Zg)->l=gH P 32->List Zg) ?l ?h
 case f=>exact λl _=>l
 case h=>unfold gH uz Zh;dsimp only[List.drop,List.take];exact rfl
def b3(P:Zf):List Zg:=by
 refine(?f:(l:List Zg)->l=gH P 48->List Zg) ?l ?h
 case f=>exact λl _=>l
 case h=>unfold gH uz Zh;dsimp only[List.drop,List.take];exact rfl
def b4(P:Zf):List Zg:=by
 refine(?f:(l:List Zg)->l=gH P 64->List Zg) ?l ?h
 case f=>exact λl _=>l
 case h=>unfold gH uz Zh;dsimp only[List.drop,List.take];exact rfl
def b5(P:Zf):List Zg:=by
 refine(?f:(l:List Zg)->l=gH P 80->List Zg) ?l ?h
 case f=>exact λl _=>l
 case h=>unfold gH uz Zh;dsimp only[List.drop,List.take];exact rfl
def b6(P:Zf):List Zg:=by
 refine(?f:(l:List Zg)->l=gH P 96->List Zg) ?l ?h
 case f=>exact λl _=>l
 case h=>unfold gH uz Zh;dsimp only[List.drop,List.take];exact rfl
def b7(P:Zf):List Zg:=by
 refine(?f:(l:List Zg)->l=gH P 112->List Zg) ?l ?h
 case f=>exact λl _=>l
 case h=>unfold gH uz Zh;dsimp only[List.drop,List.take];exact rfl
def b8(P:Zf):List Zg:=by
 refine(?f:(l:List Zg)->l=gH P 128->List Zg) ?l ?h
 case f=>exact λl _=>l
 case h=>unfold gH uz Zh;dsimp only[List.drop,List.take];exact rfl
def b9(P:Zf):List Zg:=by
 refine(?f:(l:List Zg)->l=gH P 144->List Zg) ?l ?h
 case f=>exact λl _=>l
 case h=>unfold gH uz Zh;dsimp only[List.drop,List.take];exact rfl
def bo0(P:Zf):Obj:={ cls:=.type "dict",data:=.dict ⟨b0 P++(b1 P++(b2 P++(b3 P++(b4 P++(b5 P++(b6 P++(b7 P++(b8 P++(b9 P)))))))))⟩ 159 }
def VF:Zh=bo0:=by funext P;kernel_rfl
def N5(P:Zf):Zi:={ objs:=⟨[bo0 P,boot_o_1 P,boot_o_2 P,boot_o_3 P,boot_o_4 P,boot_o_5 P,boot_o_6 P,boot_o_7 P,boot_o_8 P,boot_o_9 P,boot_o_10 P]⟩}
def BP:Ž=N5:=by
 funext P;show Heap.mk ⟨Zh P::_⟩ _=_;rw[VF];rfl
def BL(P:Zf):BT:=((((((((((BT.nil.ins 0 (bo0 P)).ins 1 (boot_o_1 P)).ins 2 (boot_o_2 P)).ins 3 (boot_o_3 P)).ins 4 (boot_o_4 P)).ins 5 (boot_o_5 P)).ins 6 (boot_o_6 P)).ins 7 (boot_o_7 P)).ins 8 (boot_o_8 P)).ins 9 (boot_o_9 P)).ins 10 (boot_o_10 P)
def RN:Life:={}
def Jq(P:Zf):absHeap (BL P) 11 RN=Ž P:=by rw[BP];kernel_rfl
def Cy(w:Zd)(a:Zj):Ze:=⟨BL w.params,11,RN,#[],Zk,Zl,a⟩
def HD(w:Zd)(a:Zj):(Cy w a).abs=⟨Ž w.params,#[],Zk,Zl,a⟩:=by
 unfold Cy SharedT.abs;dsimp only;rw[Jq]
def Gb(P:Zf):=((Ž P).isNs mainGlobals,(Ž P).objs.size,(Ž P).nsMap mainGlobals "__annotations__")
def CQ:Gb=Gb:=rfl
end Nf
name_quick sizeQ for Nf.Gb by Nf.CQ
namespace Nf
open PySem PySem.W PyProof.Rows
def Jr(w:Zd):((Ž w.params).isNs mainGlobals,(Ž w.params).objs.size,(Ž w.params).nsMap mainGlobals "__annotations__")=(true,11,some (.ref 6)):=by
 show Gb w.params=_;rw[W.Fast.sizeQ_eq]
 kernel_rfl
def HW(p:Zc)(N:Nat)(w:Zd)(a:Zj):=qF Zm p w 11 (some (.ref 6)) N (Cy w a) (topStub p)
def J3(p q:Zc)(Xt:Shared->Bool)(w:Zd)(s:Shared) :=
 (staticsOk (Zn p.main.body) (N5 w.params) s.heap&&namesBound p s.heap&&gensDone s&&laidKept (N5 w.params) s.heap,openSeen q [] (Zn p.main.body) Xt true s)
def Qp{p q:Zc}{Xt:Shared->Bool}{β:Type}{Yf:Shared->List β}{Ya:Zd->List β}{N:Nat}(k:Nat)(c:∀w:Zd,(fencedOpening Zm p w N).map (λs=>(s.heap,s.gens,s.drawn,s.toks))=some (Ž w.params,Array.mk [],Zk,Zl))(g:∀(w:Zd)(a:Zj),(HW p N w a).map (λs=>J3 p q Xt w s.abs)=some (true,openGood q []))(b:∀(w:Zd)(a:Zj),(HW p N w a).map (λs=>(Yf s.abs).take k)=some ((Ya w).take k))(f:∀(w:Zd)(a:Zj),(HW p N w a).map (λs=>(Yf s.abs).drop k)=some ((Ya w).drop k)):LeftO p q [] Xt Yf Ya N:=λw=>by
 let⟨⟨h,m,d,j,a⟩,e,i⟩:=Option.map_eq_some_iff.mp (c w);obtain⟨rfl,rfl,rfl,rfl⟩:h=Ž w.params/\m=#[]/\d=Zk/\j=Zl:=by simpa using i
 obtain⟨y,z,A⟩:_/\_/\_:=by simpa only[Prod.mk.injEq]using Jr w
 let⟨s,hs,l⟩:=Option.map_eq_some_iff.mp (g w a);have v:(Yf s.abs).take k=(Ya w).take k:=by
  have:=b w a;rw[hs]at this;exact Ö this
 have x:(Yf s.abs).drop k=(Ya w).drop k:=by
  have:=f w a;rw[hs]at this;exact Ö this
 have u:Yf s.abs=Ya w:=by rw[←List.take_append_drop k (Yf s.abs),v,x,List.take_append_drop]
 unfold J3 at l;rw[←BP]at l;let⟨n,o⟩:=Prod.mk.inj l;have r:=vo hs;rw[HD]at r;have t:topFrom Zm p w N ⟨Ž w.params,#[],Zk,Zl,a⟩=some s.abs:=by
  unfold topFrom;dsimp only;rw[y,z,A,r];show(match staticsOk (Zn p.main.body) (Ž w.params) s.abs.heap&&namesBound p s.abs.heap&&gensDone s.abs&&laidKept (Ž w.params) s.abs.heap with|true=>_|false=>_)=_;rw[n]
 unfold openEnds;rw[e];show(topFrom Zm p w N _).map _=_;rw[t];exact eJ some (Prod.ext o u)
end Nf
namespace Nf
open PySem PySem.W PyProof.Rows
def vN:List Nat:=[1,2,4,5,6,7,8,9,11,12,13,14,15,16,17,18,19,20,22,23,25,26,27,28,30,32,33,34,35,36,37,39,40,41,42,43,44,45,46,47,49,50,51,52,53,54,55,56,57,58,59,60,61,62,63,64,65,66,67,68,69]
def Aw(p:Zc)(w:Zd)(a:Zj):=(HW p 4642 w a).map (λs=>J3 p (view p vN) (λs=>xlAt (view p vN) [] s&&recOk [] s) w s.abs)
def goodW(p:Zc):=some (true,openGood (view p vN) [])
def frF(a:Frag)(k:Nat):=some ((a.map λp=>some p.2).take k)
def frB(a:Frag)(k:Nat):=some ((a.map λp=>some p.2).drop k)
def uw(p:Zc)(w:Zd)(a:Zj)(as:List Addr)(k:Nat):=(HW p 4642 w a).map (λs=>(as.map s.abs.heap.get?).take k)
def BR(p:Zc)(w:Zd)(a:Zj)(as:List Addr)(k:Nat):=(HW p 4642 w a).map (λs=>(as.map s.abs.heap.get?).drop k)
def DY:Aw=Aw:=rfl
def Ed:goodW=goodW:=rfl
def Bf:uw=uw:=rfl
def Fo:BR=BR:=rfl
end Nf
lay_quick Nf.Aw Nf.goodW Nf.uw Nf.BR
name_quick lookQ for Nf.Aw by Nf.DY
name_quick goodQ for Nf.goodW by Nf.Ed
name_quick frontQ for Nf.uw by Nf.Bf
name_quick backQ for Nf.BR by Nf.Fo
set_option maxHeartbeats 0 in
def Nf.Qm(w:PySem.World)(a:PySem.OsState):Nf.Aw ý w a=Nf.goodW ý:=by
 rw[PySem.W.Fast.lookQ_eq,PySem.W.Fast.goodQ_eq]
 kernel_rfl
def Nf.well:PySem.Challenge.rw_nofall_k14_what_shows_by_places.wellSaid=true:=by kernel_rfl
namespace L2
open PySem PySem.Spec PyProof.Rows
def zK{n:Nat}(h:Nat.ble n 1000=true:=by rfl):n<=1000:=ï h
abbrev Key:=Sum Int Str
def pR:Key->Value->Bool
 |.inl k,v=>Value.isInt k v
 |.inr x,v=>Value.isStrOf x v
def YS(w:Zd):Key->Int
 |.inl k=>hashInt k
 |.inr x=>hashStr w x
theorem aO:∀{k:Key}{v:Value},pR k v=true->(∃i t,k=ü i/\v=ś i t)\/(∃x t,k=Sum.inr x/\v=Value.str x t)
 |.inl i,v,h=>by
  let⟨t,e⟩:=Value.isInt_shape (k:=i) (v:=v) h;exact .inl ⟨i,t,rfl,e⟩
 |.inr x,v,h=>by
  let⟨t,e⟩:=Value.isStrOf_shape (x:=x) (v:=v) h;exact .inr ⟨x,t,rfl,e⟩
def Iu(i:Int)(t:Tok):pR (.inl i) (.int i t)=true:=by simp[pR,Value.isInt]
def Ir(x:Str)(t:Tok):pR (.inr x) (.str x t)=true:=by simp[pR,Value.isStrOf]
def Va(a b:Int):decide ((ü a:Key)=ü b)=(a==b):=by
 by_cases e:a=b
 ·subst e;simp
 ·have h:¬(ü a:Key)=ü b:=λq=>e (Sum.inl.inj q);rw[eA h];exact(beq_eq_false_iff_ne.mpr e).symm
def U7(a b:Str):decide ((Sum.inr a:Key)=Sum.inr b)=decide (a=b):=by
 by_cases e:a=b
 ·subst e;simp
 ·have h:¬(Sum.inr a:Key)=Sum.inr b:=λq=>e (Sum.inr.inj q);rw[eA h,eA e]
def U9(a:Int)(b:Str):decide ((ü a:Key)=Sum.inr b)=false:=eA (λq=>nomatch q)
def U8(a:Str)(b:Int):decide ((Sum.inr a:Key)=ü b)=false:=eA (λq=>nomatch q)
def aY(prog:Zc)(w:Zd):PySem.KeyKind prog w Key where
 is:=pR
 hash:=YS w
 inj:=λv a b ha hb=>by
  rcases aO ha with⟨i,t,rfl,rfl⟩|⟨x,t,rfl,rfl⟩
  ·rcases aO hb with⟨j,u,rfl,e⟩|⟨y,u,rfl,e⟩
   ·injection e with e1 _;rw[e1]
   ·exact nomatch e
  ·rcases aO hb with⟨j,u,rfl,e⟩|⟨y,u,rfl,e⟩
   ·exact nomatch e
   ·injection e with e1 _;rw[e1]
 byValue:=λk v h=>by
  rcases aO h with⟨i,t,rfl,rfl⟩|⟨x,t,rfl,rfl⟩ <;> rfl
 pyHash:=λhv h=>by
  rcases aO hv with⟨i,t,rfl,rfl⟩|⟨x,t,rfl,rfl⟩
  ·exact wpAny_pyHash_int h
  ·exact wpAny_pyHash_str h
 eqBool:=λhu hv h=>by
  rcases aO hu with⟨i,t,rfl,rfl⟩|⟨x,t,rfl,rfl⟩
  ·rcases aO hv with⟨j,u,rfl,rfl⟩|⟨y,u,rfl,rfl⟩
   ·rw[Va]at h;exact Zo h
   ·rw[U9]at h;exact SeqAt.EqAt.int_str i t y u _ _ _ _ h
  ·rcases aO hv with⟨j,u,rfl,rfl⟩|⟨y,u,rfl,rfl⟩
   ·rw[U8]at h;exact SeqAt.EqAt.str_int x t j u _ _ _ _ h
   ·rw[U7]at h;exact wpAny_eqBool_str h
 «strs»:=λk x t v h=>by
  rcases aO h with⟨i,u,rfl,e⟩|⟨y,u,rfl,e⟩
  ·exact nomatch e
  ·injection e with e1 _;subst e1;cases v <;> rfl
def Av(prog:Zc)(w:Zd)(i:Int)(t:Tok):(aY prog w).is (.inl i) (.int i t)=true:=Iu i t
def Ar(prog:Zc)(w:Zd)(x:Str)(t:Tok):(aY prog w).is (.inr x) (.str x t)=true:=Ir x t
inductive V where
 |non|bl (b:Bool)|int (i:Int)|str (x:Str)|byt (b:Array UInt8)|flt (b:UInt64)|ref (a:Addr)|ty (n:String)
 deriving DecidableEq
def RelV:V->Value->Prop
 |.non,u=>u=ľ
 |.bl b,u=>u=Value.bool b
 |.int i,u=>∃t,u=ś i t
 |.str x,u=>∃t,u=Value.str x t
 |.byt b,u=>∃t,u=Value.bytes b t
 |.flt b,u=>∃t,u=Value.float b t
 |.ref a,u=>u=ĥ a
 |.ty n,u=>u=ď n
abbrev Vals:List V->List Value->Prop:=Paired RelV
def Vals.length{xs:List V}{us:List Value}(r:Vals xs us):⇑xs=⇑us:=Paired.length r
theorem Vals.get:∀{xs:List V}{us:List Value}{i:Nat}{x:V},Vals xs us->xs[i]?=some x->∃u,us[i]?=some u/\RelV x u
 |_,_,_,_,.nil,e=>by simp at e
 |_,_,0,_,.cons r _,e=>by simp at e;subst e;exact⟨_,rfl,r⟩
 |_,_,i+1,x,.cons _ t,e=>by
  let⟨u,h1,h2⟩:=Vals.get (i:=i) (x:=x) t (by simpa using e);exact⟨u,by simpa using h1,h2⟩
theorem Vals.set{x:V}{u:Value}(r:RelV x u):∀{xs:List V}{us:List Value} (i:Nat),Vals xs us->Vals (xs.set i x) (us.set i u)
 |_,_,_,.nil=>.nil
 |_,_,0,.cons _ t=>.cons r t
 |_,_,i+1,.cons q t=>.cons q (Vals.set r i t)
theorem Vals.append:∀{xs ys:List V}{us a:List Value},Vals xs us->Vals ys a->Vals (xs++ys) (us++a)
 |_,_,_,_,.nil,s=>s
 |_,_,_,_,.cons r t,s=>.cons r (Vals.append t s)
theorem Vals.take:∀{xs:List V}{us:List Value} (n:Nat),Vals xs us->Vals (xs.take n) (us.take n)
 |_,_,0,_=>.nil
 |_,_,_+1,.nil=>.nil
 |_,_,n+1,.cons r t=>.cons r (Vals.take n t)
theorem Vals.drop:∀{xs:List V}{us:List Value} (n:Nat),Vals xs us->Vals (xs.drop n) (us.drop n)
 |_,_,0,r=>r
 |_,_,_+1,.nil=>.nil
 |_,_,n+1,.cons _ t=>Vals.drop n t
def uW:Option V->Option Value->Prop
 |some v,some u=>RelV v u
 |none,none=>True
 |_,_=>False
def KV{κ:Type}:List (κ×V)->List (κ×Value)->Prop:=Paired λ(p:κ×V) (q:κ×Value)=>p.1=q.1/\RelV p.2 q.2
def kV:Key->V
 |.inl i=>.int i
 |.inr x=>.str x
inductive HO where
 |lst (xs:List V)
 |tup (xs:List V)
 |dK (kvs:List (Key×V))|dT (kvs:List (List Key×V))
 |set (S:Int->Bool) (n:Nat)
 |ins (C dx:Addr) (fs:List (Str×V))
 |own (x:Addr)
 |xd (fs:List (Str×V))
 |met (f x:Addr)
 |rng (lo hi:Int)
 |frz (o:Obj) (u:HO)
 |tbl (ps:Array Value)
 |ext (φ:Zi->Prop)
abbrev Hp:=Addr->Option HO
def upd(H:Hp)(a:Addr)(o:HO):Hp:=λb=>if b=a then some o else H b
def ao{H:Hp}{a:Addr}{o:HO}:upd H a o a=some o:=by unfold upd;rw[eD rfl]
def aj{H:Hp}{a b:Addr}{o:HO}(h:b≠a):upd H a o b=H b:=by unfold upd;rw[eH h]
def Xb{H:Hp}{a b:Addr}{o u:HO}(h:H a=some o)(h':H b=some u)(d:o≠u):a≠b:=by
 intro e;subst e;rw[h]at h';exact d (Ö h')
def ak{H:Hp}{a b:Addr}{o:HO}(h:H a=some o)(h':H b=none):a≠b:=by
 intro e;subst e;rw[h]at h';cases h'
section
variable(P:Zc) (w:Zd)
def bf(H:Hp)(h:Zi)(a:Addr):HO->Prop
 |.lst xs=>⇑xs<=sizeLine/\∃(its:List Value)(n:Nat),Vals xs its/\h.get? a=some { cls:=.type "list",data:=.seq its.toArray n }
 |.tup xs=>⇑xs<=sizeLine/\∃its:List Value,Vals xs its/\IsTup h a its.toArray
 |.dK kvs=>⇑kvs<=sizeLine/\(a==Zp)=false/\∃vs,KV kvs vs/\h.DictOf (aY P w) a vs
 |.dT kvs=>⇑kvs<=sizeLine/\(a==Zp)=false/\∃xs:List (List Key×Addr×Value),
   Paired (λ(p:List Key×V) (q:List Key×Addr×Value)=>p.1=q.1/\H q.2.1=some (.tup (p.1.map kV))/\RelV p.2 q.2.2) kvs xs /\
   ∃o es ep,h.get? a=some o/\o.ExactDict/\o.data=.dict es ep/\es.toList=xs.map (entryOfKey (Zq (aY P w)))/\(xs.map (·.1)).Nodup
 |.set S n=>h.SetOf (intKind P w) a S n
 |.ins C c b=>H c=some (.own a)/\⇑b<=1000/\c≠a/\h.get? a=some (W.instObj C c) /\
   ∃mA,h.Ns1 c mA/\(∀f,uW (b.lookup f) (mA f))/\PySem.Within mA (b.map (·.1))
 |.own _=>∃o,h.get? a=some o
 |.xd b=>∃mA,h.Ns1 a mA/\∀f,uW (b.lookup f) (mA f)
 |.rng d hi=>∃t u v,h.get? a=some { cls:=.type "range",data:=.fields #[.int d t,.int hi u,.int 1 v]}
 |.frz o u=>h.get? a=some o/\bf H h a u
 |.tbl ps=>h.get? a=some { cls:=.none,data:=.fields ps }
 |.met f x=>h.get? a=some (W.methodObj (.ref f) (.ref x))
 |.ext φ=>φ h/\(∃o,h.get? a=some o)/\∀h1 h2:Zi,φ h1->(∀o,h1.get? a=some o->h2.get? a=some o)->φ h2
def HOk(H:Hp)(h:Zi):Prop:=∀a o,H a=some o->bf P w H h a o
end
section
variable{P:Zc}{w:Zd}{H H':Hp}{h h':Zi}{a:Addr}{o:HO}
def bf.lt(x:bf P w H h a o):a<h.objs.size:=by
 cases o with
 |lst xs=>let⟨_,_,_,_,e⟩:=x;exact Ó e
 |tup xs=>let⟨_,_,_,p⟩:=x;exact p.lt
 |dK kvs=>let⟨_,_,_,_,o,_,_,e,_⟩:=x;exact Ó e
 |dT kvs=>let⟨_,_,_,_,o,_,_,e,_⟩:=x;exact Ó e
 |set S n=>let⟨o,_,_,_,e,_⟩:=x;exact Ó e
 |ins C c b=>let⟨_,_,_,e,_⟩:=x;exact Ó e
 |own y=>let⟨_,e⟩:=x;exact Ó e
 |xd b=>let⟨_,⟨_,_,_,e,_⟩,_⟩:=x;exact Ó e
 |rng d hi=>let⟨_,_,_,e⟩:=x;exact Ó e
 |frz g u=>let⟨e,_⟩:=x;exact Ó e
 |tbl ps=>exact Ó (show h.get? a=some _ from x)
 |met f y=>exact Ó (show h.get? a=some _ from x)
 |ext φ=>let⟨_,⟨_,e⟩,_⟩:=x;exact Ó e
theorem Paired.Ij{α β:Type}{F G:α->β->Prop}:∀{l₁:List α}{l₂:List β},Paired F l₁ l₂->(∀a b,F a b->G a b)->Paired G l₁ l₂
 |_,_,.nil,_=>.nil
 |_,_,.cons r t,f=>.cons (f _ _ r) (Paired.Ij t f)
def bf.stay(x:bf P w H h a o)(k:∀b u,(b=a\/H b=some (.own a))->h.get? b=some u->h'.get? b=some u)(s:∀b,H b=some (.own a)->H' b=some (.own a))(ht:∀b xs,H b=some (.tup xs)->H' b=some (.tup xs)):bf P w H' h' a o:=by
 induction o with
 |lst xs=>let⟨z,its,n,r,e⟩:=x;exact⟨z,its,n,r,k _ _ (.inl rfl) e⟩
 |tup xs=>let⟨z,its,r,g,e,c⟩:=x;exact⟨z,its,r,g,k _ _ (.inl rfl) e,c⟩
 |dK kvs=>let⟨z,y,vs,r,g,es,ep,e,c⟩:=x;exact⟨z,y,vs,r,g,es,ep,k _ _ (.inl rfl) e,c⟩
 |dT kvs =>
  let⟨z,y,xs,r,g,es,ep,e,c⟩:=x;exact⟨z,y,xs,Paired.Ij r λp q z=>⟨z.1,ht _ _ z.2.1,z.2.2⟩,g,es,ep,k _ _ (.inl rfl) e,c⟩
 |set S n=>let⟨g,es,ep,t,e,c⟩:=x;exact⟨g,es,ep,t,k _ _ (.inl rfl) e,c⟩
 |ins C dx m =>
  let⟨d,z,B,e,i,⟨j,es,ep,l,c⟩,r⟩:=x;exact⟨s _ d,z,B,k _ _ (.inl rfl) e,i,⟨j,es,ep,k _ _ (.inr d) l,c⟩,r⟩
 |own y=>let⟨g,e⟩:=x;exact⟨g,k _ _ (.inl rfl) e⟩
 |xd m=>let⟨i,⟨j,es,ep,e,c⟩,r⟩:=x;exact⟨i,⟨j,es,ep,k _ _ (.inl rfl) e,c⟩,r⟩
 |rng D hi=>let⟨t,u,v,e⟩:=x;exact⟨t,u,v,k _ _ (.inl rfl) e⟩
 |frz g u A=>let⟨e,q⟩:=x;exact⟨k _ _ (.inl rfl) e,A q⟩
 |tbl ps =>
  have e:h.get? a=some { cls:=.none,data:=.fields ps }:=x;show h'.get? a=some { cls:=.none,data:=.fields ps };exact k a _ (.inl rfl) e
 |met f y =>
  have e:h.get? a=some (W.methodObj (.ref f) (.ref y)):=x;show h'.get? a=some (W.methodObj (.ref f) (.ref y));exact k a _ (.inl rfl) e
 |ext φ=>let⟨p,⟨o,e⟩,st⟩:=x;exact⟨st _ _ p λo q=>k _ _ (.inl rfl) q,⟨o,k _ _ (.inl rfl) e⟩,st⟩
def HOk.lt(x:HOk P w H h)(e:H a=some o):a<h.objs.size:=(x a o e).lt
def HOk.fresh(x:HOk P w H h)(e:h.objs.size<=a):H a=none:=by
 cases q:H a with
 |none=>rfl
 |some u=>exact eI (ð (x.lt q) e) (Ē _)
def HOk.kept(x:HOk P w H h)(k:∀b u,h.get? b=some u->h'.get? b=some u):HOk P w H h':=λa o e =>
 (x a o e).stay (λb u _ q=>k b u q) (λ_ q=>q) λ_ _ q=>q
def HOk.laid(x:HOk P w H h)(k:∀b u,h.get? b=some u->h'.get? b=some u)(hp:h.objs.size<=a)(new:bf P w (upd H a o) h' a o):HOk P w (upd H a o) h':=λb u e=>by
 have hn:=x.fresh hp;by_cases hb:b=a
 ·subst hb;rw[ao]at e;cases e;exact new
 ·rw[aj hb]at e;exact(x b u e).stay (λc v _ q=>k c v q) (λc q=>by rw[aj (ak q hn)];exact q) λc xs q=>by rw[aj (ak q hn)];exact q
end
def Rd(H:Hp)(a:Addr)(u:HO):Prop:=H a=some u\/∃o,H a=some (.frz o u)
def Rd.ok{P:Zc}{w:Zd}{H:Hp}{h:Zi}{a:Addr}{u:HO}(r:Rd H a u)(x:HOk P w H h):bf P w H h a u:=by
 rcases r with r|⟨o,r⟩
 ·exact x a u r
 ·let⟨_,q⟩:=x a _ r;exact q
def Mut:Option HO->Prop
 |some (.lst _)=>True
 |some (.dK _)=>True
 |some (.dT _)=>True
 |some (.set _ _)=>True
 |some (.ins _ _ _)=>True
 |some (.ext _)=>True
 |_=>False
section
variable{P:Zc}{w:Zd}{H:Hp}{h h':Zi}{x e:Addr}{o':HO}
def HOk.write(ok:HOk P w H h)(g:Mut (H x))(he:e=x\/H e=some (.own x))(k:∀b u,b≠e->h.get? b=some u->h'.get? b=some u)(i:∃u,h'.get? e=some u)(new:bf P w (upd H x o') h' x o'):HOk P w (upd H x o') h':=λb u q=>by
 have d:∀c y,H c=some (.own y)->c≠x:=λc y r z=>by subst z;rw[r]at g;exact g
 have f:∀c xs,H c=some (.tup xs)->c≠x:=λc xs r z=>by subst z;rw[r]at g;exact g
 by_cases hb:b=x
 ·subst hb;rw[ao]at q;cases q;exact new
 ·rw[aj hb]at q;by_cases a:b=e
  ·have j:H b=some (.own x):=by
    rcases he with z|z
    ·exact eI (a.trans z) hb
    ·rw[a];exact z
   rw[q]at j;cases j;let⟨v,hv⟩:=i;exact⟨v,by rw[a];exact hv⟩
  ·refine(ok b u q).stay (λc v hc r=>k c v ?_ r) (λc r=>by rw[aj (d c b r)];exact r) λc xs r=>by rw[aj (f c xs r)];exact r
   rcases hc with rfl|hc
   ·exact a
   ·rintro rfl;rcases he with z|z
    ·exact d c b hc z
    ·rw[hc]at z;cases z;exact hb rfl
end
structure Un(fs ex:List Addr)(H H':Hp)(h h':Zi):Prop where
 keep:∀b o,h.get? b=some o->H b=none->b∉fs->b∉ex->h'.get? b=some o
 slot:∀b o,h.get? b=some o->H b=none->b∈fs->b∉ex->∃sl,h'.get? b=some { o with slots:=sl }
 free:∀b o,h.get? b=some o->H b=none->b∉ex->H' b=none
 there:∀b o,h.get? b=some o->b∉ex->∃o',h'.get? b=some o'
 tups:∀b xs,H b=some (.tup xs)->H' b=some (.tup xs)
 frzs:∀b o u,H b=some (.frz o u)->H' b=some (.frz o u)
 tbls:∀b ps,H b=some (.tbl ps)->∃more,H' b=some (.tbl (ps++more))
section
variable{fs fs' ex ex':List Addr}{H H1 H2:Hp}{h h1 h2 h':Zi}{a x e:Addr}{o:HO}
def Un.any(u:Un fs ex H H1 h h1){b:Addr}{c:Obj}(q:h.get? b=some c)(n:H b=none)(d:b∉ex):∃sl,h1.get? b=some { c with slots:=sl }:=by
 by_cases hb:b∈fs
 ·exact u.slot b c q n hb d
 ·exact⟨c.slots,u.keep b c q n hb d⟩
def Un.kept(k:∀b u,h.get? b=some u->h'.get? b=some u):Un fs ex H H h h' :=
 ⟨λb ob q _ _ _=>k b ob q,λb ob q _ _ _=>⟨ob.slots,k b ob q⟩,λ_ _ _ n _=>n,λb ob q _=>⟨ob,k b ob q⟩,λ_ _ q=>q,λ_ _ _ q=>q,λ_ ps q=>⟨#[],by rw[q];simp⟩⟩
def Un.refl:Un fs ex H H h h:=Un.kept λ_ _ q=>q
def Un.laid(k:∀b u,h.get? b=some u->h'.get? b=some u)(hp:h.objs.size<=a)(hn:H a=none):Un fs ex H (upd H a o) h h' where
 keep:=λb u q _ _ _=>k b u q
 slot:=λb u q _ _ _=>⟨u.slots,k b u q⟩
 free:=λb u q n _=>by rw[aj (ë (ð (Ó q) hp))];exact n
 there:=λb u q _=>⟨u,k b u q⟩
 tups:=λb xs q=>by rw[aj (ak q hn)];exact q
 frzs:=λb u xs q=>by rw[aj (ak q hn)];exact q
 tbls:=λb ps q=>⟨#[],by rw[aj (ak q hn),q];simp⟩
def Un.write(d:Mut (H x))(he:e=x\/H e=some (.own x))(k:∀b u,b≠e->h.get? b=some u->h'.get? b=some u)(f:∃u,h'.get? e=some u):Un fs ex H (upd H x o) h h':=by
 have g:∀b,H b=none->b≠x:=λb n z=>by subst z;rw[n]at d;exact d
 have hb:∀b,H b=none->b≠e:=λb n z=>by
  subst z;rcases he with r|r
  ·exact g b n r
  ·rw[n]at r;cases r
 have hm:∀b u,H b=some u->¬Mut (some u)->b≠x:=λb u q nm z=>by subst z;rw[q]at d;exact nm d
 refine⟨λb u q n _ _=>k b u (hb b n) q,λb u q n _ _=>⟨u.slots,k b u (hb b n) q⟩,λb u q n _=>by rw[aj (g b n)];exact n,λb u q _=>?_,
  λb xs q=>by rw[aj (hm b _ q λz=>z)];exact q,λb u xs q=>by rw[aj (hm b _ q λz=>z)];exact q,λb ps q=>⟨#[],by rw[aj (hm b _ q λz=>z),q];simp⟩⟩
 by_cases c:b=e
 ·subst c;exact f
 ·exact⟨u,k b u c q⟩
end
def trk(h:Zi)(H:Hp):List Addr:=(ß h.objs.size).filter λa=>(H a).isSome
def yu(h:Zi)(H:Hp):Zi:=W.hideAll h (trk h H)
def IV(h:Zi)(H:Hp):(yu h H).objs.size=h.objs.size:=W.hideAll_size _ _
def Mp{h:Zi}{H:Hp}{b:Addr}{o:Obj}(e:h.get? b=some o)(n:H b=none):(yu h H).get? b=some o :=
 W.hideAll_get _ e λhm=>by
  have q:(H b).isSome=true:=(á.mp hm).2;rw[n]at q;simp at q
def Qg{h:Zi}{H:Hp}{b:Addr}{o:Obj}(e:(yu h H).get? b=some o):h.get? b=some o/\H b=none:=by
 have a:h.get? b=some o:=W.of_hideAll (trk h H) e;refine⟨a,?_⟩;cases q:H b with
 |none=>rfl
 |some x =>
  have hm:b∈trk h H:=á.mpr ⟨ó.mpr (Ó a),by simp[q]⟩;have z:(yu h H).get? b=none:=W.hideAll_none (trk h H) hm;rw[z]at e;cases e
def yU(g h:Zi)(L:Addr):List (Addr×Obj):=(ß h.objs.size).filterMap λa=>if a=L\/(g.get? a).isSome=true then none else(h.get? a).map λo=>(a,o)
def tQ{g h:Zi}{L:Addr}{p:Addr×Obj}(hp:p∈yU g h L):p.1≠L/\g.get? p.1=none/\h.get? p.1=some p.2:=by
 let⟨b,_,e⟩:=List.mem_filterMap.mp hp;split at e
 ·cases e
 ·rename_i hn;cases q:h.get? b with
  |none=>rw[q]at e;simp at e
  |some u =>
   rw[q]at e;simp only[Option.map_some,Option.some.injEq]at e;subst e;refine⟨λz=>hn (.inl z),?_,q⟩;show g.get? b=none;cases r:g.get? b with
   |none=>rfl
   |some v=>exact(hn (.inr (by simp[r]))).elim
def rest(g h:Zi)(L d:Addr):List (Addr×Obj):=(yU g h L).filter λp=>decide (p.1≠d)
def Lr{g h:Zi}{L:Addr}:News g L h (yU g h L):=λp hp=>let⟨a,b,c⟩:=tQ hp;⟨c,a,b⟩
structure Mod(K:ã)(mg:Str->Option Value)(base:Zi):Prop where
 kin:K.In base
 glob:base.Ns mainGlobals mg
 blt:∃mb,base.Ns Zr mb/\∀x:Str,x≠"__name__"->mb x=Zs x
 nolimit:base.NoLimit
structure Cx where
 prog:Zc
 w:Zd
 K:ã
 mg:Str->Option Value
 base:Zi
 A:Zt
 N:List Str
 s₀:Shared
 H₀:Hp
 env:Env
 outer:List Env
 stack:List Env
 ex:List Addr
 fn:Str->Bool
 calm:Bool
 pn:List (Addr×Obj)
 xe:eQ
 sf:List (Addr×Obj×HO):=[]
def frs(l:List Env):List Addr:=l.filterMap (·.frame)
abbrev Cx.fs(X:Cx):List Addr:=frs X.outer
def Vis(sc:Zu)(x:Str):Prop:=sc.names.lookup x=some .local\/sc.names.lookup x=some .cell\/sc.names.lookup x=some .free
def Loc(sc:Zu)(x:Str):Prop:=sc.names.lookup x=some .local\/sc.names.lookup x=some .cell
def Look(env:Env)(h:Zi)(m:Str->Option Value)(x:Str)(u:Value):Prop :=
 (env.kindOf x=some .local/\m x=some u)\/((env.kindOf x=some .cell\/env.kindOf x=some .free)/\∃c,env.cells.lookup x=some c/\h.IsCell c (some u))
abbrev zS(X:Cx)(e:Zv)(es:List Zv):Prop:=Zw (e::es) X.env=(false,Zx e X.env)::Zw es X.env
abbrev zP(X:Cx)(p:Pos)(es:List Zv):Prop:=(Zy p (Zw es X.env)).any (·.1)=false
abbrev zB(x:Str):Prop:=(x==("__debug__":Str))=false
abbrev zF(X:Cx)(e:Zv):Prop:=∀x,Zz e X.env x=pure x
abbrev zL(X:Cx)(x:Str):Prop:=X.fn x=true\/X.env.scope.names.lookup x=some .local
abbrev zW(X:Cx)(p:Pos)(es:List Zv):Prop:=((Zy p (Zw es X.env)).all (λx=>!x.1)&&(ZA p (ZB [] X.env)).all (λx=>x.1.isSome)&&decide (⇑es+⇑([]:List ZC)+(if([]:List ZC).isEmpty then 0 else 1)<30))=true
def zQ{sc:Zu}{x:Str}(h:(sc.names.lookup x==some .local||sc.names.lookup x==some .cell)=true:=by rfl):Loc sc x:=(Bool.or_eq_true_iff.mp h).imp (λz=>eP z) λz=>eP z
structure Cx.Ok(X:Cx):Prop where
 mod:Mod X.K X.mg X.base
 kind:X.env.scope.kind=.function
 glob:X.env.globals=mainGlobals
 blt:X.env.builtins=Zr
 above:X.s₀.heap.objs.size<=X.env.locals
 inj:∀x y c,X.env.cells.lookup x=some c->X.env.cells.lookup y=some c->x=y
 has:∀x,(X.env.kindOf x=some .cell\/X.env.kindOf x=some .free)->∃c,X.env.cells.lookup x=some c
 cab:∀x c,X.fn x=true->X.env.cells.lookup x=some c->X.s₀.heap.objs.size<=c
 hd:X.calm=true->X.A.handled=none
 frames:X.A.frames=some X.stack
 stk:X.stack=X.outer\/(X.stack=X.env::X.outer/\X.env.frame=some X.env.locals)
 exf:∀b∈X.ex,b≠X.env.locals/\∀x c,X.env.cells.lookup x=some c->c≠b
 bs:∀b o,X.base.get? b=some o->X.s₀.heap.get? b=some o/\X.H₀ b=none
 bsz:X.base.objs.size<=X.s₀.heap.objs.size
 noex:∀b o,X.base.get? b=some o->b∉X.ex
 exfs:∀b∈X.ex,b∉X.fs
 ur:X.s₀.heap.FunFrames X.base X.outer
 frf:∀b∈X.fs,X.H₀ b=none
 sof:∀q∈X.sf,X.A.handled=some (.ref q.1)/\X.H₀ q.1=some (.frz q.2.1 q.2.2)/\∃ws,q.2.1.data=.fields ws/\ws[2]?=some .none
structure Inv(X:Cx)(pins:List (Addr×Obj))(σ:List (Option V))(H:Hp)(s:Shared):Prop where
 ok:X.Ok
 os:s.os=X.s₀.os
 bare:ZD s.gens
 base:Un X.fs X.ex X.H₀ H X.s₀.heap s.heap
 loc:∃m,s.heap.Ns X.env.locals m/\∀(i:Nat)(x:Str)(v:V),X.N[i]?=some x->σ[i]?=some (some v)->Vis X.env.scope x->∃u,RelV v u/\Look X.env s.heap m x u
 cell:∀x c,X.env.cells.lookup x=some c->∃v,s.heap.IsCell c v
 free:H X.env.locals=none
 freeC:∀x c,X.env.cells.lookup x=some c->H c=none
 pin:∀p∈X.pn++pins,s.heap.get? p.1=some p.2/\H p.1=none/\p.1≠X.env.locals/\p.1∉X.fs/\∀v,p.2.data≠.cell v
 hok:HOk X.prog X.w H s.heap
 len:⇑σ=⇑X.N
section
variable{X:Cx}{pins:List (Addr×Obj)}{σ:List (Option V)}{H H':Hp}{s:Shared}{h':Zi}
def Cx.Ok.YK(ok:X.Ok){b:Addr}{o:Obj}(e:X.base.get? b=some o):b∉X.fs:=λhb=>by
 have:=(ok.ur.mem hb).1;rw[e]at this;cases this
def Inv.bs(I:Inv X pins σ H s):∀b o,X.base.get? b=some o->s.heap.get? b=some o/\H b=none:=λb o e =>
 ⟨I.base.keep b o (I.ok.bs b o e).1 (I.ok.bs b o e).2 (I.ok.YK e) (I.ok.noex b o e),I.base.free b o (I.ok.bs b o e).1 (I.ok.bs b o e).2 (I.ok.noex b o e)⟩
def Inv.bk(I:Inv X pins σ H s):∀b o,X.base.get? b=some o->s.heap.get? b=some o:=λb o e=>(I.bs b o e).1
def Inv.mod(I:Inv X pins σ H s):Mod X.K X.mg X.base:=I.ok.mod
def Inv.kIn(I:Inv X pins σ H s):X.K.In s.heap:=I.ok.mod.kin.keeps I.bk
def Inv.fr(I:Inv X pins σ H s):∃m,Fr X.base X.env.locals s.heap m :=
 let⟨m,hn,_⟩:=I.loc
 ⟨m,hn,I.bk,þ I.ok.bsz I.ok.above⟩
def Inv.lt(I:Inv X pins σ H s):X.env.locals<↥s:=let⟨_,hn,_⟩:=I.loc;hn.lt
def Inv.sz(I:Inv X pins σ H s):X.s₀.heap.objs.size<=↥s:=þ I.ok.above (Nat.le_of_lt I.lt)
def Inv.YJ(I:Inv X pins σ H s){a:Addr}(h:↥s<=a):a∉X.fs:=λhb=>by
 let⟨_,o,b,_⟩:=I.ok.ur.mem hb;exact eI (ð (Ó b) (þ I.sz h)) (Ē _)
def Inv.cne(I:Inv X pins σ H s):∀x c,X.env.cells.lookup x=some c->c≠X.env.locals:=λx c e z=>by
 let⟨v,o,d,hd⟩:=I.cell x c e;let⟨m,⟨o',es,ep,b,a,_⟩,_⟩:=I.loc;rw[z,b]at d;cases d;rw[a]at hd;cases hd
def Inv.ur(I:Inv X pins σ H s):s.heap.FunFrames X.base X.outer:=by
 have a:∀(l:List Env),(∀b∈frs l,b∈X.fs)->X.s₀.heap.FunFrames X.base l->s.heap.FunFrames X.base l:=by
  intro l;induction l with
  |nil=>intro _ _;trivial
  |cons env r ih =>
   intro hs hl;let⟨hk,⟨L,o,d,hn,f,hd⟩,hr⟩:=hl;have c:L∈X.fs:=hs L (by unfold frs;rw[List.filterMap_cons,d];exact Í);let⟨g,e⟩:=I.base.slot L o f (I.ok.frf L c) c λz=>I.ok.exfs L z c;exact⟨hk,⟨L,_,d,hn,e,hd⟩,ih (λb hb=>hs b (by unfold frs;rw[List.filterMap_cons,d];exact É _ hb)) hr⟩
 exact a X.outer (λ_ hb=>hb) I.ok.ur
def Inv.stack(I:Inv X pins σ H s):s.heap.FunFrames X.base X.stack:=by
 rcases I.ok.stk with e|⟨e,a⟩
 ·rw[e];exact I.ur
 ·rw[e];let⟨m,hn,_⟩:=I.loc;refine .cons (by rw[I.ok.kind];decide) a hn ?_ I.ur;exact Heap.get?_none_of_le (þ I.ok.bsz I.ok.above)
def Inv.Cv(I:Inv X pins σ H s):∀b∈frs X.stack,b∈X.env.locals::X.fs:=λb hb=>by
 rcases I.ok.stk with e|⟨e,a⟩
 ·rw[e]at hb;exact É _ hb
 ·rw[e]at hb;unfold frs at hb;rw[List.filterMap_cons,a]at hb;exact hb
def Inv.FP(I:Inv X pins σ H s):∀b∈frs X.stack,H b=none:=λb hb=>by
 rcases Þ.mp (I.Cv b hb)with e|hb
 ·rw[e];exact I.free
 ·let⟨_,o,a,_⟩:=I.ok.ur.mem hb;exact I.base.free b o a (I.ok.frf b hb) λz=>I.ok.exfs b z hb
def Inv.step{g':Array ZE}{t':Nat}{d':Drawn}{ch:List Addr}(I:Inv X pins σ H s)(g:∀b∈ch,(b∈X.ex\/X.s₀.heap.objs.size<=b)/\b≠X.env.locals/\(∀x c,X.env.cells.lookup x=some c->c≠b)/\∀p∈X.pn++pins,p.1≠b)(h:∀b o,b≠X.env.locals->b∉X.fs->b∉ch->s.heap.get? b=some o->H b=none->h'.get? b=some o)(A:∀b o,b≠X.env.locals->b∈X.fs->b∉ch->s.heap.get? b=some o->H b=none->∃sl,h'.get? b=some { o with slots:=sl })(a:∀b o,b∉ch->s.heap.get? b=some o->H b=none->H' b=none)(B:∀b o,b∉ch->s.heap.get? b=some o->∃o',h'.get? b=some o')(J:∀b xs,H b=some (.tup xs)->H' b=some (.tup xs))(E:∀b o u,H b=some (.frz o u)->H' b=some (.frz o u))(G:∀b ps,H b=some (.tbl ps)->∃more,H' b=some (.tbl (ps++more)))(ns:∀m,s.heap.Ns X.env.locals m->h'.Ns X.env.locals m)(K:HOk X.prog X.w H' h')(hg:ZD g') :
  Inv X pins σ H' { s with heap:=h',gens:=g',drawn:=d',toks:=t' }:=by
 have F:∀b o,X.s₀.heap.get? b=some o->b≠X.env.locals:=λb o e=>ë (ð (Ó e) I.ok.above);have y:∀b o,X.s₀.heap.get? b=some o->b∉X.ex->b∉ch:=λb o e hx hb=>by
  rcases(g b hb).1 with z|z
  ·exact hx z
  ·exact eI (ð (Ó e) z) (Ē _)
 have f:∀x c,X.env.cells.lookup x=some c->∀v,s.heap.IsCell c v->h'.IsCell c v:=λx c e v ⟨o,C,hd⟩=>by
  have j:c∉ch:=λz=>(g c z).2.2.1 x c e rfl;by_cases hc:c∈X.fs
  ·let⟨sl,q⟩:=A c o (I.cne x c e) hc j C (I.freeC x c e);exact⟨_,q,hd⟩
  ·exact⟨o,h c o (I.cne x c e) hc j C (I.freeC x c e),hd⟩
 refine⟨I.ok,I.os,hg,⟨λb o e n hb hx=>?_,λb o e n hb hx=>?_,λb o e n hx=>?_,λb o e hx=>?_,λb xs e=>J b xs (I.base.tups b xs e),λb o xs e=>E b o xs (I.base.frzs b o xs e),λb ps e=>?_⟩,?_,λx c e=>?_,?_,λx c e=>?_,λp hp=>?_,K,I.len⟩
 ·exact h b o (F b o e) hb (y b o e hx) (I.base.keep b o e n hb hx) (I.base.free b o e n hx)
 ·let⟨sl,t⟩:=I.base.slot b o e n hb hx;let⟨L,D⟩:=A b _ (F b o e) hb (y b o e hx) t (I.base.free b o e n hx);exact⟨L,D⟩
 ·let⟨o',t⟩:=I.base.there b o e hx;exact a b o' (y b o e hx) t (I.base.free b o e n hx)
 ·let⟨o',t⟩:=I.base.there b o e hx;exact B b o' (y b o e hx) t
 ·let⟨O,t⟩:=I.base.tbls b ps e;let⟨P,D⟩:=G b _ t;exact⟨O++P,by rw[D,Array.append_assoc]⟩
 ·let⟨m,hn,hl⟩:=I.loc;refine⟨m,ns m hn,λi x v t D e3=>?_⟩;let⟨u,r,l⟩:=hl i x v t D e3;refine⟨u,r,?_⟩;rcases l with l|⟨k,c,e,z⟩
  ·exact .inl l
  ·exact .inr ⟨k,c,e,f x c e _ z⟩
 ·let⟨v,z⟩:=I.cell x c e;exact⟨v,f x c e v z⟩
 ·let⟨m,⟨o,_,_,C,_⟩,_⟩:=I.loc;exact a _ o (λz=>(g _ z).2.1 rfl) C I.free
 ·let⟨v,o,C,hd⟩:=I.cell x c e;exact a c o (λz=>(g c z).2.2.1 x c e rfl) C (I.freeC x c e)
 ·let⟨e,n,M,N,d⟩:=I.pin p hp;have j:p.1∉ch:=λz=>(g p.1 z).2.2.2 p hp rfl;exact⟨h p.1 p.2 M N j e n,a p.1 p.2 j e n,M,N,d⟩
def Inv.un{t':Nat}(I:Inv X pins σ H s)(u:Un X.fs [] H H' s.heap h')(f:HOk X.prog X.w H' h'):Inv X pins σ H' { s with heap:=h',toks:=t' }:=by
 let⟨m,⟨o,es,ep,g,r⟩,_⟩:=id I.loc;let⟨j,h⟩:=u.any g I.free (by simp);exact I.step (g':=s.gens) (d':=s.drawn) (ch:=[]) (λ_ z=>nomatch z) (λb o _ hb _ e n=>u.keep b o e n hb (by simp)) (λb o _ hb _ e n=>u.slot b o e n hb (by simp)) (λb o _ e n=>u.free b o e n (by simp)) (λb o _ e=>u.there b o e (by simp)) u.tups u.frzs u.tbls (λm' hm=>by
  let⟨o',d,c,a,i⟩:=hm;rw[g]at a;cases a;exact⟨_,d,c,h,i⟩) f I.bare
def Inv.call{g':Array ZE}{t':Nat}{d':Drawn}{ch:List Addr}(I:Inv X pins σ H s)(u:Un (frs X.stack) ch H H' s.heap h')(i:HOk X.prog X.w H' h')(hg:ZD g')(a:∀b∈ch,(b∈X.ex\/X.s₀.heap.objs.size<=b)/\b≠X.env.locals/\(∀x c,X.env.cells.lookup x=some c->c≠b)/\∀p∈X.pn++pins,p.1≠b) :
  Inv X pins σ H' { s with heap:=h',gens:=g',drawn:=d',toks:=t' }:=by
 let⟨m,⟨o,es,ep,j,r⟩,_⟩:=id I.loc;let⟨l,h⟩:=u.any j I.free λz=>(a _ z).2.1 rfl;exact I.step (ch:=ch) a (λb o h hb hc e n=>u.keep b o e n (λz=>(Þ.mp (I.Cv b z)).elim h hb) hc) (λb o _ _ hc e n=>u.any e n hc) (λb o hc e n=>u.free b o e n hc) (λb o hc e=>u.there b o e hc) u.tups u.frzs u.tbls (λm' hm=>by
  let⟨o',g,f,d,k⟩:=hm;rw[j]at d;cases d;exact⟨_,g,f,h,k⟩) i hg
def Inv.turned{t':Nat}{it:Addr}(I:Inv X pins σ H s)(k:∀b o,b≠it->s.heap.get? b=some o->h'.get? b=some o)(hn:H it=none)(d:it≠X.env.locals)(h1:it∈X.ex\/X.s₀.heap.objs.size<=it)(h2:∀x c,X.env.cells.lookup x=some c->c≠it)(f:∀p∈X.pn++pins,p.1≠it):Inv X pins σ H { s with heap:=h',toks:=t' }:=by
 have a:∀b u,H b=some u->b≠it:=λb u e z=>by rw[z,hn]at e;cases e
 refine I.step (g':=s.gens) (d':=s.drawn) (ch:=[it]) (λb hb=>?_) (λb o _ _ hc e _=>k b o (λz=>hc (by simp[z])) e) (λb o _ _ hc e _=>⟨o.slots,k b o (λz=>hc (by simp[z])) e⟩) (λ_ _ _ _ n=>n)
  (λb o hc e=>⟨o,k b o (λz=>hc (by simp[z])) e⟩) (λ_ _ e=>e) (λ_ _ _ e=>e) (λb ps e=>⟨#[],by rw[e];simp⟩) (λm hm=>?_) (λb u e=>?_) I.bare
 ·have e:b=it:=by simpa using hb
  subst e;exact⟨h1,d,h2,f⟩
 ·let⟨o,es,ep,g,r⟩:=hm;exact⟨o,es,ep,k _ o (Ĩ d) g,r⟩
 ·refine(I.hok b u e).stay (λc v hc q=>k c v ?_ q) (λ_ q=>q) λ_ _ q=>q;rcases hc with z|z
  ·rw[z];exact a b u e
  ·exact a c _ z
def Inv.tok(I:Inv X pins σ H s)(t:Nat):Inv X pins σ H { s with toks:=t }:=I.un (h':=s.heap) (t':=t) Un.refl I.hok
def Inv.kept{t':Nat}(I:Inv X pins σ H s)(k:∀b u,s.heap.get? b=some u->h'.get? b=some u):Inv X pins σ H { s with heap:=h',toks:=t' }:=I.un (Un.kept k) (I.hok.kept k)
def Inv.laid{a:Addr}{o:HO}{t':Nat}(I:Inv X pins σ H s)(k:∀b u,s.heap.get? b=some u->h'.get? b=some u)(hp:↥s<=a)(new:bf X.prog X.w (upd H a o) h' a o) :
  Inv X pins σ (upd H a o) { s with heap:=h',toks:=t' }:=I.un (Un.laid k hp (I.hok.fresh hp)) (I.hok.laid k hp new)
def Inv.write{x e:Addr}{o:HO}{t':Nat}(I:Inv X pins σ H s)(c:Mut (H x))(he:e=x\/H e=some (.own x))(k:∀b u,b≠e->s.heap.get? b=some u->h'.get? b=some u)(a:∃u,h'.get? e=some u)(new:bf X.prog X.w (upd H x o) h' x o):Inv X pins σ (upd H x o) { s with heap:=h',toks:=t' }:=I.un (Un.write c he k a) (I.hok.write c he k a new)
def Inv.qJ{a:List (Addr×Obj)}(I:Inv X pins σ H s)(h:∀p∈a,s.heap.get? p.1=some p.2/\H p.1=none/\p.1≠X.env.locals/\p.1∉X.fs/\∀v,p.2.data≠.cell v):Inv X a σ H s :=
 ⟨I.ok,I.os,I.bare,I.base,I.loc,I.cell,I.free,I.freeC,λp hp=>(â.mp hp).elim (λz=>I.pin p (é _ z)) (h p),I.hok,I.len⟩
def Ao{N:List Str}(hN:N.Nodup){i j:Nat}{x:Str}(a:N[i]?=some x)(b:N[j]?=some x):i=j:=by
 let⟨h1,c⟩:=Ç.mp a;let⟨h2,d⟩:=Ç.mp b;exact(List.getElem_inj hN).mp (c.trans d.symm)
def vp{M:ZF}{A:Zt}{E:eQ}{i:Nat}{x:Str}{v:V}{u:Value}{Q:Unit->Shared->Prop}(I:Inv X pins σ H s)(Z:∀j,X.N[j]?=some x->j=i)(hi:X.N[i]?=some x)(l:Loc X.env.scope x)(r:RelV v u)(h:∀s',Inv X pins (σ.set i (some v)) H s'->(∃a,Heap.SameBut a s.heap s'.heap/\(a=X.env.locals\/X.env.cells.lookup x=some a))->Q .unit s')(hf:X.fn x=true\/X.env.scope.names.lookup x=some .local:=by first|exact .inl rfl|exact .inr rfl|assumption):wpAny M A (storeName X.env x u) Q E s:=by
 let⟨m,hn,hl⟩:=id I.loc;have J:(X.env.scope.kind==.class || (X.env.scope.kind==.module&&X.env.locals != X.env.globals))=false:=by rw[I.ok.kind];rfl
 have B:i<⇑σ:=by rw[I.len];exact(Ç.mp hi).1
 have C:=I.cne;have g:∀{a:Addr}{h':Zi},(∃o,s.heap.get? a=some o/\H a=none)->Heap.SameBut a s.heap h'->HOk X.prog X.w H h':=λ{a h'} ha hs b ob e=>by
  let⟨_,_,t⟩:=ha;refine(I.hok b ob e).stay (λc R hc q=>(hs.2 c ?_).trans q) (λ_ q=>q) λ_ _ q=>q;rintro rfl;rcases hc with rfl|hc
  ·rw[t]at e;cases e
  ·rw[t]at hc;cases hc
 rcases l with hk|hk
 ·refine wpAny_storeName_local hk hn (λh' hn' hs=>?_) J;let⟨oL,_,_,S,_⟩:=id hn;refine h _ ⟨I.ok,I.os,I.bare,⟨λb o e n hb l=>?_,λb o e n hb l=>?_,I.base.free,λb o e l=>?_,I.base.tups,I.base.frzs,I.base.tbls⟩,⟨_,hn',λj y v' f e2 e3=>?_⟩,λy c e=>?_,I.free,I.freeC,λp hp=>?_,g ⟨oL,S,I.free⟩ hs,by simpa using I.len⟩ ⟨_,hs,.inl rfl⟩
  ·exact(hs.2 b (ë (ð (Ó e) I.ok.above))).trans (I.base.keep b o e n hb l)
  ·let⟨W,f⟩:=I.base.slot b o e n hb l;exact⟨W,(hs.2 b (ë (ð (Ó e) I.ok.above))).trans f⟩
  ·let⟨o',f⟩:=I.base.there b o e l;exact⟨o',(hs.2 b (ë (ð (Ó e) I.ok.above))).trans f⟩
  ·by_cases F:j=i
   ·subst F;rw[hi]at f;cases f;rw[đ B]at e2;cases e2;exact⟨u,r,.inl ⟨hk,by simp⟩⟩
   ·rw[Ŋ (Ĩ F)]at e2;let⟨Y,U,q⟩:=hl j y v' f e2 e3;refine⟨Y,U,?_⟩;rcases q with⟨k,e⟩|⟨k,c,e,z⟩
    ·refine .inl ⟨k,?_⟩;have:y≠x:=λe=>F (Z _ (e ▸ f));simp[this,e]
    ·exact .inr ⟨k,c,e,z.sameBut hs (C y c e)⟩
  ·let⟨R,z⟩:=I.cell y c e;exact⟨R,z.sameBut hs (C y c e)⟩
  ·let⟨e,n,P,T,d⟩:=I.pin p hp;exact⟨(hs.2 p.1 P).trans e,n,P,T,d⟩
 ·have D:X.fn x=true:=by
   rcases hf with z|z
   ·exact z
   ·rw[z]at hk;cases hk
  let⟨c,hc⟩:=I.ok.has x (.inl hk);let⟨R,z⟩:=I.cell x c hc;refine wpAny_storeName_cell I.ok.kind hk hc z (λh' hc' hs=>?_);let⟨oc,K,L⟩:=id z;refine h { s with heap:=h' } ⟨I.ok,I.os,I.bare,⟨λb o e n hb l=>?_,λb o e n hb l=>?_,I.base.free,λb o e l=>?_,I.base.tups,I.base.frzs,I.base.tbls⟩,⟨m,hn.sameBut hs (Ĩ (C x c hc)),λj y v' f e2 e3=>?_⟩,λy O e=>?_,I.free,I.freeC,λp hp=>?_,g ⟨oc,K,I.freeC x c hc⟩ hs,by simpa using I.len⟩ ⟨c,hs,.inr hc⟩
  ·exact(hs.2 b (ë (ð (Ó e) (I.ok.cab x c D hc)))).trans (I.base.keep b o e n hb l)
  ·let⟨W,f⟩:=I.base.slot b o e n hb l;exact⟨W,(hs.2 b (ë (ð (Ó e) (I.ok.cab x c D hc)))).trans f⟩
  ·let⟨o',f⟩:=I.base.there b o e l;exact⟨o',(hs.2 b (ë (ð (Ó e) (I.ok.cab x c D hc)))).trans f⟩
  ·by_cases F:j=i
   ·subst F;rw[hi]at f;cases f;rw[đ B]at e2;cases e2;exact⟨u,r,.inr ⟨.inl hk,c,hc,hc'⟩⟩
   ·rw[Ŋ (Ĩ F)]at e2;let⟨Y,U,q⟩:=hl j y v' f e2 e3;refine⟨Y,U,?_⟩;rcases q with q|⟨k,O,e,z'⟩
    ·exact .inl q
    ·refine .inr ⟨k,O,e,z'.sameBut hs ?_⟩;rintro rfl;exact F (Z _ (I.ok.inj _ _ _ e hc ▸ f))
  ·by_cases G:O=c
   ·subst G;exact⟨_,hc'⟩
   ·let⟨w2,z2⟩:=I.cell y O e;exact⟨w2,z2.sameBut hs G⟩
  ·let⟨e,n,P,T,d⟩:=I.pin p hp;refine⟨(hs.2 p.1 ?_).trans e,n,P,T,d⟩;intro q;rw[q,K]at e;have q':oc=p.2:=Ö e;exact d R (by rw[←q'];exact L)
def zH{M:ZF}{A:Zt}{E:eQ}{i:Nat}{x:Str}{v:V}{u:Value}{Q:Unit->Shared->Prop}(I:Inv X pins σ H s)(hN:X.N.Nodup)(hi:X.N[i]?=some x)(b:Loc X.env.scope x)(r:RelV v u)(h:∀s',Inv X pins (σ.set i (some v)) H s'->Q .unit s')(a:X.fn x=true\/X.env.scope.names.lookup x=some .local:=by first|exact .inl rfl|exact .inr rfl|assumption):wpAny M A (storeName X.env x u) Q E s :=
 vp I (λj h=>Ao hN h hi) hi b r (λs' I' _=>h s' I') a
def Inv.call'{a:Shared}{ch:List Addr}(I:Inv X pins σ H s)(g:a.os=s.os)(u:Un (frs X.stack) ch H H' s.heap a.heap)(f:HOk X.prog X.w H' a.heap)(hg:ZD a.gens)(d:∀b∈ch,(b∈X.ex\/X.s₀.heap.objs.size<=b)/\b≠X.env.locals/\(∀x c,X.env.cells.lookup x=some c->c≠b)/\∀p∈X.pn++pins,p.1≠b):Inv X pins σ H' a:=by
 let⟨h',g',d',t',o'⟩:=a;have e:o'=s.os:=g;subst e;exact I.call (g':=g') (t':=t') (d':=d') u f hg d
end
abbrev XK:=Value->Option Addr->Hp->Prop
abbrev St:=List (Option V)
abbrev VK:=V->Hp->Prop
abbrev TE:=St->Hp->VK->Prop
abbrev TT:=St->Hp->(Bool->Hp->Prop)->Prop
abbrev TA:=St->Hp->(List V->Hp->Prop)->Prop
structure Ends where
 nx:St->Hp->Prop
 rt:VK
 bk:St->Hp->Prop:=λ_ _=>False
 ct:St->Hp->Prop:=λ_ _=>False
abbrev TS:=Ends->St->Hp->Prop
def EP(X:Cx)(a:List (Addr×Obj))(σ:St)(Q:VK)(u:Value)(b:Shared):Prop:=∃v H',Inv X a σ H' b/\RelV v u/\Q v H'
def TP(X:Cx)(a:List (Addr×Obj))(σ:St)(Q:Bool->Hp->Prop)(b:Bool)(c:Shared):Prop:=∃H',Inv X a σ H' c/\Q b H'
def AP(X:Cx)(a:List (Addr×Obj))(σ:St)(Q:List V->Hp->Prop)(us:List Value)(b:Shared):Prop:=∃vs H',Inv X a σ H' b/\Vals vs us/\Q vs H'
def SP(X:Cx)(a:List (Addr×Obj))(D:Ends)(f:Flow)(b:Shared):Prop :=
 match f with
 |.next=>∃σ' H',Inv X a σ' H' b/\D.nx σ' H'
 |.brk=>∃σ' H',Inv X a σ' H' b/\D.bk σ' H'
 |.cont=>∃σ' H',Inv X a σ' H' b/\D.ct σ' H'
 |.ret u=>∃v σ' H',Inv X a σ' H' b/\RelV v u/\D.rt v H'
def PE(X:Cx)(e:Zv)(t:TE):Prop :=
 ∀(pins:List (Addr×Obj))(s:Shared)(σ:St)(H:Hp)(Q:VK),Inv X pins σ H s->t σ H Q->wpAny (model X.prog X.w) X.A (Zx e X.env) (EP X pins σ Q) X.xe s
def PT(X:Cx)(e:Zv)(t:TT):Prop :=
 ∀(pins:List (Addr×Obj))(s:Shared)(σ:St)(H:Hp)(Q:Bool->Hp->Prop),Inv X pins σ H s->t σ H Q->wpAny (model X.prog X.w) X.A (ZG e X.env (Zx e X.env)) (TP X pins σ Q) X.xe s
def PW(X:Cx)(e:Zv)(t:TT):Prop :=
 ∀(whole:Sem Value)(pins:List (Addr×Obj))(s:Shared)(σ:St)(H:Hp)(Q:Bool->Hp->Prop),Inv X pins σ H s->t σ H Q->wpAny (model X.prog X.w) X.A (ZG e X.env whole) (TP X pins σ Q) X.xe s
def PW.pt{X:Cx}{e:Zv}{t:TT}(h:PW X e t):PT X e t:=h _
def PA(X:Cx)(es:List Zv)(t:TA):Prop :=
 ∀(pos:Pos)(pins:List (Addr×Obj))(s:Shared)(σ:St)(H:Hp)(Q:List V->Hp->Prop),Inv X pins σ H s->t σ H Q->wpAny (model X.prog X.w) X.A (spliced (Zy pos (Zw es X.env))) (AP X pins σ Q) X.xe s
def PS(X:Cx)(st:ZH)(t:TS):Prop :=
 ∀(pins:List (Addr×Obj))(s:Shared)(σ:St)(H:Hp)(D:Ends),Inv X pins σ H s->t D σ H->wpAny (model X.prog X.w) X.A (exec st X.env) (SP X pins D) X.xe s
def PSs(X:Cx)(st:List ZH)(t:TS):Prop :=
 ∀(pins:List (Addr×Obj))(s:Shared)(σ:St)(H:Hp)(D:Ends),Inv X pins σ H s->t D σ H->wpAny (model X.prog X.w) X.A (execs st X.env) (SP X pins D) X.xe s
def thn{α:Type}{t:Sem α}{Q b:α->Shared->Prop}{M:ZF}{A:Zt}{E:eQ}{s:Shared}(h:wpAny M A t Q E s)(c:∀a s,Q a s->b a s):wpAny M A t b E s:=ř h c λ_ _ x=>x
section
variable{X:Cx}
def bin{a b:Zv}{d e:TE}(ha:PE X a d)(hb:PE X b e){c:List (Addr×Obj)}{s:Shared}{σ:St}{H:Hp}{R:V->V->Hp->Prop}(I:Inv X c σ H s)(h:d σ H λx H1=>e σ H1 λy H2=>R x y H2){α:Type}{Q:α->Shared->Prop}{f:Value->Value->Sem α}(g:∀v u s2 x y H2,Inv X c σ H2 s2->RelV x v->RelV y u->R x y H2->wpAny (model X.prog X.w) X.A (f v u) Q X.xe s2) :
  wpAny (model X.prog X.w) X.A (Zx a X.env) (λv s₁=>wpAny (model X.prog X.w) X.A (Zx b X.env) (λu s₂=>wpAny (model X.prog X.w) X.A (f v u) Q X.xe s₂) X.xe s₁) X.xe s:=by
 refine thn (ha c s σ H _ I h) λv s1 ⟨x,H1,I1,r1,q1⟩=>?_;refine thn (hb c s1 σ H1 _ I1 q1) λu s2 ⟨y,H2,I2,r2,q2⟩=>?_;exact g v u s2 x y H2 I2 r1 r2 q2
def jX(i:Nat):TE:=λσ H Q=>∃v,σ[i]?=some (some v)/\Q v H
def tC(v:V):TE:=λ_ H Q=>Q v H
def Uc{i:Nat}{x:Str}{pos:Pos}(hN:X.N[i]?=some x)(hv:Vis X.env.scope x)(hd:(x==("__debug__":Str))=false:=by decide)(hcd:(x==("__classdict__":Str))=false:=by decide):PE X (.Name x pos) (jX i):=by
 intro d s σ H Q I h;let⟨v,e,h⟩:=h;let⟨m,hn,hl⟩:=I.loc;let⟨u,r,l⟩:=hl i x v hN e hv;have b:EP X d σ Q u s:=⟨v,H,I,r,h⟩
 rcases l with⟨hk,hm⟩|⟨hk,c,hc,a⟩
 ·exact ZI (wpAny_loadName_local I.ok.kind hk hn hm b) hd
 ·rcases hk with hk|hk
  ·exact ZI (wpAny_loadName_cell I.ok.kind hk hc a b) hd
  ·exact ZI (wpAny_loadName_free I.ok.kind hk hc a b hcd) hd
def KZ{i j pos}:PE X (.Constant (.int i) j pos) (tC (.int i)):=λ_ _ _ H _ I h=>ZJ ⟨.int i,H,I.tok _,⟨_,rfl⟩,h⟩
def WT{b j pos}:PE X (.Constant (.bool b) j pos) (tC (.bl b)):=λ_ _ _ H _ I h=>Constant_bool ⟨.bl b,H,I,rfl,h⟩
def Ui{j pos}:PE X (.Constant .none j pos) (tC .non):=λ_ _ _ H _ I h=>Constant_none ⟨.non,H,I,rfl,h⟩
def Ue{x j pos}:PE X (.Constant (.str x) j pos) (tC (.str x)):=λ_ _ _ H _ I h=>Calls.Constant_str ⟨.str x,H,I.tok _,⟨_,rfl⟩,h⟩
def Gl(X:Cx)(x:Str):Prop:=X.env.kindOf x=some .globalImplicit
def Qq{E:eQ}{a:List (Addr×Obj)}{s:Shared}{σ:St}{H:Hp}{x:Str}{u:Value}{pos:Pos}{Q:eQ}(I:Inv X a σ H s)(hg:Gl X x)(hm:X.mg x=some u)(h:Q u s)(hd:(x==("__debug__":Str))=false:=by decide):wpAny (model X.prog X.w) X.A (Zx (.Name x pos) X.env) Q E s :=
 Calls.Name_function_global I.ok.kind hg (Calls.loadGlobal_global (by rw[I.ok.glob];exact I.mod.glob.keeps I.bk) hm h) hd
def d7{E:eQ}{a:List (Addr×Obj)}{s:Shared}{σ:St}{H:Hp}{x:Str}{u:Value}{pos:Pos}{Q:eQ}(I:Inv X a σ H s)(hg:Gl X x)(hm:X.mg x=none)(hv:Zs x=some u)(h:Q u s)(hn:x≠"__name__":=by decide)(hd:(x==("__debug__":Str))=false:=by decide):wpAny (model X.prog X.w) X.A (Zx (.Name x pos) X.env) Q E s:=by
 let⟨b,h1,h2⟩:=I.mod.blt;exact Calls.Name_function_global I.ok.kind hg (Calls.loadGlobal_builtin (by rw[I.ok.glob];exact I.mod.glob.keeps I.bk) hm (by rw[I.ok.blt];exact h1.keeps I.bk) ((h2 x hn).trans hv) h) hd
def wQ{x:Str}{v:V}{u:Value}{pos:Pos}(hg:Gl X x)(hm:X.mg x=none)(hv:Zs x=some u)(r:RelV v u)(hn:x≠"__name__":=by decide)(hd:(x==("__debug__":Str))=false:=by decide):PE X (.Name x pos) (tC v) :=
 λ_ _ _ H _ I h=>d7 I hg hm hv ⟨v,H,I,r,h⟩ hn hd
variable{a b:Zv}{ta tb:TE}{pos:Pos}
def PC(X:Cx)(c:ZK)(a b:Zv)(t:TE):Prop :=
 ∀(pins:List (Addr×Obj))(s:Shared)(σ:St)(H:Hp)(Q:VK),Inv X pins σ H s->t σ H Q ->
  wpAny (model X.prog X.w) X.A (Zx a X.env) (λv s₁=>wpAny (model X.prog X.w) X.A (Zx b X.env) (λu s₂=>wpAny (model X.prog X.w) X.A (ZL c v u) (EP X pins σ Q) X.xe s₂) X.xe s₁) X.xe s
def tB(t:TE):TT:=λσ H Q=>t σ H λx H1=>∃c,x=.bl c/\Q c H1
def Uk{c:ZK}{t:TE}(h:PC X c a b t)(h1:ZM c b=false:=by first|exact nobehind _ ∅ ∅|rfl):PE X (.Compare a [c] [b] pos) t:=λpins s σ H Q I hw=>ZN (h pins s σ H Q I hw) h1
def T3{f:ZK}{t:TE}(h:PC X f a b t)(h1:ZM f b=false:=by first|exact nobehind _ ∅ ∅|rfl):PT X (.Compare a [f] [b] pos) (tB t):=by
 intro e s σ H Q I g;refine ZO (thn (h e s σ H _ I g) λv s1 h1=>thn h1 λu s2 h2=>thn h2 λc s3 ⟨x,H1,I1,r1,q1⟩=>?_) h1;let⟨d,rfl,q⟩:=q1;cases r1;exact ĺ ⟨H1,I1,q⟩
def TX{e:Zv}{t:TE}(h:PE X e t)(he:∀whole,ZG e X.env whole=(do let v ←whole;standAt e.pos;holding [v] (ZP v)):=by intro _;rfl):PT X e (tB t):=by
 intro c s σ H Q I f;refine isTrue_plain (thn (h c s σ H _ I f) λv s1 ⟨x,H1,I1,r1,q1⟩=>?_) (he _);let⟨d,rfl,q⟩:=q1;cases r1;exact ĺ ⟨H1,I1,q⟩
variable{tA tB':TT}{rest:List Zv}
def Wk(t u:TT):TT:=λσ H Q=>t σ H λc H1=>if c=true then u σ H1 Q else Q false H1
def tOr(t u:TT):TT:=λσ H Q=>t σ H λc H1=>if c=true then Q true H1 else u σ H1 Q
def Yw(t:TT):TT:=λσ H Q=>t σ H λc H1=>Q (!c) H1
def Gk(ha:PT X a tA):PW X (.BoolOp .And [a] pos) tA:=by
 intro f d s σ H Q I h;refine isTrue_and (thn (ha d s σ H Q I h) λc s1 e=>?_);cases c with
 |true=>exact isTrue_and_nil e
 |false=>exact e
def TJ(ha:PT X a tA):PW X (.BoolOp .Or [a] pos) tA:=by
 intro f d s σ H Q I h;refine isTrue_or (thn (ha d s σ H Q I h) λc s1 e=>?_);cases c with
 |false=>exact isTrue_or_nil e
 |true=>exact e
def Ks(ha:PT X a tA)(hb:PW X (.BoolOp .And (b::rest) pos) tB'):PW X (.BoolOp .And (a::b::rest) pos) (Wk tA tB'):=by
 intro e d s σ H Q I h;refine isTrue_and (thn (ha d s σ H _ I h) λc s1 ⟨H1,I1,q1⟩=>?_);cases c with
 |true=>exact hb e d s1 σ H1 Q I1 q1
 |false=>exact⟨H1,I1,q1⟩
def Ww(ha:PT X a tA)(hb:PW X (.BoolOp .Or (b::rest) pos) tB'):PW X (.BoolOp .Or (a::b::rest) pos) (tOr tA tB'):=by
 intro e d s σ H Q I h;refine isTrue_or (thn (ha d s σ H _ I h) λc s1 ⟨H1,I1,q1⟩=>?_);cases c with
 |true=>exact⟨H1,I1,q1⟩
 |false=>exact hb e d s1 σ H1 Q I1 q1
def TY(ha:PT X a tA):PT X (.UnaryOp .Not a pos) (Yw tA):=by
 intro d s σ H Q I h;exact isTrue_not (ha d s σ H (λc H1=>Q (!c) H1) I h)
def Wj(ta tb:TE):TE:=λσ H Q=>ta σ H λx H1=>∃c,x=.bl c/\if c=true then tb σ H1 Q else Q (.bl false) H1
def V9(ta:TE):TE:=λσ H Q=>ta σ H λx H1=>∃c,x=.bl c/\Q (.bl (!c)) H1
def Ug{op}{t:TE}(h:PE X a t):PE X (.BoolOp op [a] pos) t:=λpins s σ H Q I hw=>BoolOp_one (h pins s σ H Q I hw)
def Um(ha:PE X a ta)(hb:PE X (.BoolOp .And (b::rest) pos) tb):PE X (.BoolOp .And (a::b::rest) pos) (Wj ta tb):=by
 intro d s σ H Q I h;refine BoolOp_and (thn (ha d s σ H _ I h) λv s1 ⟨x,H1,I1,r1,e⟩=>?_);let⟨c,rfl,e⟩:=e;cases r1;refine ĺ ?_;cases c with
 |true=>exact hb d s1 σ H1 Q I1 e
 |false=>exact⟨.bl false,H1,I1,rfl,e⟩
def Uh(ha:PE X a ta):PE X (.UnaryOp .Not a pos) (V9 ta):=by
 intro d s σ H Q I h;refine ZQ (thn (ha d s σ H _ I h) λv s1 ⟨x,H1,I1,r1,e⟩=>?_);let⟨c,rfl,e⟩:=e;cases r1;exact not_of (ĺ ⟨.bl (!c),H1,I1,rfl,e⟩)
def tIf(t:TT)(ta tb:TE):TE:=λσ H Q=>t σ H λc H1=>if c=true then ta σ H1 Q else tb σ H1 Q
def K3{c:Zv}(hc:PT X c tA)(ha:PE X a ta)(hb:PE X b tb):PE X (.IfExp c a b pos) (tIf tA ta tb):=by
 intro e s σ H Q I h;refine wpAny_IfExp (thn (hc e s σ H _ I h) λd s1 ⟨H1,I1,q1⟩=>?_);cases d with
 |true=>exact ha e s1 σ H1 Q I1 q1
 |false=>exact hb e s1 σ H1 Q I1 q1
end
def SqL(K:ã)(H:Hp)(a:Addr)(xs:List V):Prop :=
 Rd H a (.lst xs)∨
  ∃(o:Obj)(its:Array Value)(n:Nat),K.lookup a=some o/\o.cls=.type "list"/\o.dict=none/\o.data=.seq its n/\its.size<=sizeLine/\Vals xs its.toList
def SqT(K:ã)(H:Hp)(a:Addr)(xs:List V):Prop :=
 Rd H a (.tup xs)∨
  ∃(o:Obj)(its:Array Value)(n:Nat),K.lookup a=some o/\o.cls=.type "tuple"/\o.data=.seq its n/\its.size<=sizeLine/\Vals xs its.toList
def Y4:Value->Option V
 |.none=>some .non
 |.bool b=>some (.bl b)
 |.int i _=>some (.int i)
 |.str x _=>some (.str x)
 |.bytes b _=>some (.byt b)
 |.float b _=>some (.flt b)
 |.ref a=>some (.ref a)
 |.type n=>some (.ty n)
 |_=>none
def RelV.abs{x:V}{u:Value}(r:RelV x u):Y4 u=some x:=by
 cases x with
 |non=>cases r;rfl
 |bl _=>cases r;rfl
 |int _=>let⟨t,rfl⟩:=r;rfl
 |str _=>let⟨t,rfl⟩:=r;rfl
 |byt _=>let⟨t,rfl⟩:=r;rfl
 |flt _=>let⟨t,rfl⟩:=r;rfl
 |ref _=>cases r;rfl
 |ty _=>cases r;rfl
def RelV.inj{x y:V}{u:Value}(r:RelV x u)(q:RelV y u):x=y:=Ö (r.abs.symm.trans q.abs)
theorem Vals.inj:∀{xs ys:List V}{us:List Value},Vals xs us->Vals ys us->xs=ys
 |_,_,_,.nil,.nil=>rfl
 |_,_,_,.cons r t,.cons r' t'=>by rw[r.inj r',Vals.inj t t']
section
variable{X:Cx}{pins:List (Addr×Obj)}{σ:St}{H:Hp}{s:Shared}{a:Addr}{xs ys:List V}
def SqL.of{K:ã}(h:H a=some (.lst xs)):SqL K H a xs:=.inl (.inl h)
def SqT.of{K:ã}(h:H a=some (.tup xs)):SqT K H a xs:=.inl (.inl h)
def Inv.list(I:Inv X pins σ H s)(h:SqL X.K H a xs):∃its:List Value,Vals xs its/\PlainL s.heap a its.toArray/\⇑xs<=sizeLine:=by
 rcases h with h|⟨o,its,n,hk,hc,hd,hs,b,r⟩
 ·let⟨z,its,n,r,e⟩:=h.ok I.hok;exact⟨its,r,⟨_,n,e,rfl,rfl,rfl⟩,z⟩
 ·refine⟨its.toList,r,⟨o,n,I.kIn a o hk,hc,hd,by simpa using hs⟩,?_⟩;have e:=⇑r;simp only[ğ]at e;lia
def Inv.tuple(I:Inv X pins σ H s)(h:SqT X.K H a xs):∃its:List Value,Vals xs its/\IsTup s.heap a its.toArray/\⇑xs<=sizeLine:=by
 rcases h with h|⟨o,its,n,hk,hc,hs,b,r⟩
 ·let⟨z,its,r,p⟩:=h.ok I.hok;exact⟨its,r,p,z⟩
 ·refine⟨its.toList,r,⟨o,I.kIn a o hk,hc,n,by simpa using hs⟩,?_⟩;have e:=⇑r;simp only[ğ]at e;lia
def Inv.mW(I:Inv X pins σ H s)(h:SqL X.K H a xs)(h':SqL X.K H a ys):xs=ys:=by
 let⟨its,r,⟨o,n,e,_,_,d⟩,_⟩:=I.list h;let⟨its',c,⟨o',f,b,_,_,d'⟩,_⟩:=I.list h';rw[e]at b;cases b;rw[d]at d';injection d' with d1 _;have:its=its':=by simpa using eJ Array.toList d1
 subst this;exact r.inj c
def Inv.vm(I:Inv X pins σ H s)(h:SqT X.K H a xs)(h':SqT X.K H a ys):xs=ys:=by
 let⟨its,r,⟨o,e,_,n,d⟩,_⟩:=I.tuple h;let⟨its',c,⟨o',b,_,f,d'⟩,_⟩:=I.tuple h';rw[e]at b;cases b;rw[d]at d';injection d' with d1 _;have:its=its':=by simpa using eJ Array.toList d1
 subst this;exact r.inj c
end
abbrev Cx.wish(X:Cx)(E:eQ):Cx:={ X with xe:=E }
abbrev Cx.nox(X:Cx):Cx:=X.wish λ_ _=>False
def Cx.Ok.wish{X:Cx}(ok:X.Ok)(E:eQ):(X.wish E).Ok :=
 ⟨ok.mod,ok.kind,ok.glob,ok.blt,ok.above,ok.inj,ok.has,ok.cab,ok.hd,ok.frames,ok.stk,ok.exf,ok.bs,ok.bsz,ok.noex,ok.exfs,ok.ur,ok.frf,ok.sof⟩
def Cx.Ok.iZ{X:Cx}{E:eQ}(ok:(X.wish E).Ok):X.Ok :=
 ⟨ok.mod,ok.kind,ok.glob,ok.blt,ok.above,ok.inj,ok.has,ok.cab,ok.hd,ok.frames,ok.stk,ok.exf,ok.bs,ok.bsz,ok.noex,ok.exfs,ok.ur,ok.frf,ok.sof⟩
section
variable{X:Cx}{pins:List (Addr×Obj)}{σ:St}{H:Hp}{s:Shared}{E:eQ}
def Inv.wish(I:Inv X pins σ H s)(E:eQ):Inv (X.wish E) pins σ H s:=⟨I.ok.wish E,I.os,I.bare,I.base,I.loc,I.cell,I.free,I.freeC,I.pin,I.hok,I.len⟩
def Inv.iZ(I:Inv (X.wish E) pins σ H s):Inv X pins σ H s:=⟨I.ok.iZ,I.os,I.bare,I.base,I.loc,I.cell,I.free,I.freeC,I.pin,I.hok,I.len⟩
def SP.iZ{D:Ends}{f:Flow}{c:Shared}(h:SP (X.wish E) pins D f c):SP X pins D f c:=by
 cases f with
 |next=>let⟨a,b,I,q⟩:=h;exact⟨a,b,I.iZ,q⟩
 |brk=>let⟨a,b,I,q⟩:=h;exact⟨a,b,I.iZ,q⟩
 |cont=>let⟨a,b,I,q⟩:=h;exact⟨a,b,I.iZ,q⟩
 |ret u=>let⟨v,a,b,I,r,q⟩:=h;exact⟨v,a,b,I.iZ,r,q⟩
def PSs.nox{st:List ZH}{t:TS}(h:PSs X.nox st t):PSs X st t:=λpins s σ H D I hw =>
 ř (h pins s σ H D (I.wish _) hw) (λ_ _ q=>q.iZ) λ_ _ z=>Ÿ z
end
section
variable{X:Cx}{st:ZH}{rest:List ZH}{t u:TS}{e:Zv}{te:TE}{pos:Pos}
def Wa:TS:=λD σ H=>D.nx σ H
def V5(t u:TS):TS:=λD σ H=>t { D with nx:=u D } σ H
def lR:PSs X [] Wa:=λ_ _ σ H _ I h=>ZR ⟨σ,H,I,h⟩
def aM(h1:PS X st t)(h2:PSs X rest u):PSs X (st::rest) (V5 t u):=by
 intro a s σ H D I h;refine wpAny_execs_cons (thn (h1 a s σ H { D with nx:=u D } I h) λf s1 q=>?_);cases f with
 |next =>
  let⟨b,c,d,q⟩:=q;exact h2 a s1 b c D d q
 |ret v=>exact q
 |brk=>exact q
 |cont=>exact q
def jM(h1:PS X st t):PSs X [st] t:=by
 intro a s σ H D I h;refine wpAny_execs_cons (thn (h1 a s σ H D I h) λf s1 q=>?_);cases f with
 |next=>exact ZR q
 |ret v=>exact q
 |brk=>exact q
 |cont=>exact q
def Inv.quiet{a:List (Addr×Obj)}{σ:St}{H:Hp}{s:Shared}(I:Inv X a σ H s):interactive X.env=false:=by simp[interactive,I.ok.kind]
def rJ(te:TE):TS:=λD σ H=>te σ H λ_ H1=>D.nx σ H1
def gQ(he:PE X e te)(hs:ZT e none pos.line X.env=pure false:=by rfl):PS X (.Expr e pos) (rJ te):=by
 intro a s σ H D I h;exact wpAny_Expr_any (thn (he a s σ H _ I h) λv s1 ⟨x,H1,I1,r1,q1⟩=>⟨σ,H1,I1,q1⟩) I.quiet hs
def Yv(te:TE):TS:=λD σ H=>te σ H D.rt
def su(he:PE X e te):PS X (.Return (some e) pos) (Yv te):=by
 intro a s σ H D I h;exact wpAny_Return_some (thn (he a s σ H _ I h) λv s1 ⟨x,H1,I1,r1,q1⟩=>⟨x,σ,H1,I1,r1,q1⟩)
def Yx(c:TT)(t u:TS):TS:=λD σ H=>c σ H λb H1=>if b=true then t D σ H1 else u D σ H1
def zY{c:Zv}{a b:List ZH}{g:TT}(hc:PT X c g)(ha:PSs X a t)(hb:PSs X b u):PS X (.If c a b pos) (Yx g t u):=by
 intro f s σ H D I h;refine wpAny_If (thn (hc f s σ H _ I h) λd s1 ⟨H1,I1,q1⟩=>?_);cases d with
 |true=>exact ha f s1 σ H1 D I1 q1
 |false=>exact hb f s1 σ H1 D I1 q1
def Te:TS:=λ_ _ _=>False
def KC:PS X st Te:=λ_ _ _ _ _ _ h=>h.elim
end
abbrev TG:=V->St->Hp->(St->Hp->Prop)->Prop
abbrev TGs:=List V->St->Hp->(St->Hp->Prop)->Prop
def PG(X:Cx)(a:Zv)(t:TG):Prop :=
 ∀(pins:List (Addr×Obj))(s:Shared)(σ:St)(H:Hp)(v:V)(u:Value)(Q:St->Hp->Prop),Inv X pins σ H s->RelV v u->t v σ H Q ->
  wpAny (model X.prog X.w) X.A (ZU a X.env u) (λ_ s'=>∃σ' H',Inv X pins σ' H' s'/\Q σ' H') X.xe s
def PGs(X:Cx)(ts:List Zv)(t:TGs):Prop :=
 ∀(pins:List (Addr×Obj))(s:Shared)(σ:St)(H:Hp)(vs:List V)(us:List Value)(Q:St->Hp->Prop),Inv X pins σ H s->Vals vs us->t vs σ H Q ->
  wpAny (model X.prog X.w) X.A (ZV ((ZW ts X.env).map (·.2)) us) (λ_ s'=>∃σ' H',Inv X pins σ' H' s'/\Q σ' H') X.xe s
abbrev VJ:=V->V->V->Hp->(Hp->Prop)->Prop
def Yo(X:Cx)(t:VJ):Prop :=
 ∀(pins:List (Addr×Obj))(s:Shared)(σ:St)(H:Hp)(o i v:V)(ov iv u:Value)(Q:Hp->Prop),Inv X pins σ H s->RelV o ov->RelV i iv->RelV v u->t o i v H Q ->
  wpAny (model X.prog X.w) X.A (ZX ov iv u) (λ_ s'=>∃H',Inv X pins σ H' s'/\Q H') X.xe s
section
variable{X:Cx}{pos:Pos}
def iR(i:Nat):TG:=λv σ H Q=>Q (σ.set i (some v)) H
def Pu{i:Nat}{x:Str}(hN:X.N.Nodup)(hi:X.N[i]?=some x)(c:Loc X.env.scope x)(b:X.fn x=true\/X.env.scope.names.lookup x=some .local:=by first|exact .inl rfl|exact .inr rfl|assumption):PG X (.Name x pos) (iR i):=by
 intro a s σ H v u Q I r h;exact ZY (zH I hN hi c r (λs' I'=>⟨_,H,I',h⟩) b)
def YX:TGs:=λvs σ H Q=>vs=[]/\Q σ H
def Xy(t:TG)(u:TGs):TGs:=λvs σ H Q=>∃v r,vs=v::r/\t v σ H λσ' H'=>u r σ' H' Q
def Pq:PGs X [] YX:=by
 intro a s σ H vs us Q I r h;let⟨e,h⟩:=h;subst e;cases r;exact assignInOrder_nil ⟨σ,H,I,h⟩
def KR{e:Zv}{es:List Zv}{t:TG}{u:TGs}(h1:PG X e t)(h2:PGs X es u)(hs:(ZW (e::es) X.env).map (·.2)=ZU e X.env::(ZW es X.env).map (·.2):=by rfl):PGs X (e::es) (Xy t u):=by
 intro a s σ H vs us Q I r h;let⟨v,c,b,h⟩:=h;subst b;cases r with
 |cons r rr =>
  rw[hs];refine assignInOrder_cons (thn (h1 a s σ H _ _ _ I r h) λ_ s1 ⟨σ1,H1,I1,q1⟩=>?_);exact h2 a s1 σ1 H1 _ _ Q I1 rr q1
def YW(K:ã)(n:Nat)(t:TGs):TG:=λv σ H Q=>∃a xs,v=.ref a/\SqT K H a xs/\⇑xs=n/\t xs σ H Q
def T9{es:List Zv}{k:Nat}{t:TGs}{n:Nat}(hc:X.calm=true)(h:PGs X es t)(hn:⇑(ZW es X.env)=n:=by rfl)(hst:(ZW es X.env).findIdx? (·.1)=none:=by rfl):PG X (.Tuple es k pos) (YW X.K n t):=by
 intro c s σ H v u Q I r d;let⟨a,xs,i,j,hl,d⟩:=d;subst i;cases r;let⟨its,f,ht,l⟩:=I.tuple j;refine assign_Tuple_tuple (I.ok.hd hc) ht (by simp[hn,←hl,⇑f]) hst λh' hx=>?_;have g:Inv X c σ H { s with heap:=h' }:=I.kept (t':=s.toks) λb o e=>hx b o (ë (Ó e)) e;exact h c _ σ H xs _ Q g (by simpa using f) d
def Xv(b a:TE)(t:VJ):TG:=λv σ H Q=>b σ H λo H1=>a σ H1 λi H2=>t o i v H2 λH3=>Q σ H3
def wO{o i:Zv}{c b:TE}{t:VJ}(d:PE X o c)(hi:PE X i b)(hs:Yo X t)(ha:∀v,ZU (.Subscript o i pos) X.env v=(do
   let ov ←holding [v] (Zx o X.env)
   let iv ←holding [v,ov] (Zx i X.env)
   standAt pos
   holding [v,ov,iv] (ZX ov iv v)
   release [v,ov,iv] []):=by intro _;rfl):PG X (.Subscript o i pos) (Xv c b t):=by
 intro a s σ H v u Q I r h;rw[ha];refine Æ (ġ (thn (d a s σ H _ I h) λov s1 ⟨x,H1,I1,r1,q1⟩=>?_));refine Æ (ġ (thn (hi a s1 σ H1 _ I1 q1) λiv s2 ⟨y,H2,I2,r2,q2⟩=>?_));refine Æ (ZZ (Æ (ġ (thn (hs a s2 σ H2 x y v ov iv u _ I2 r1 r2 r q2) λ_ s3 ⟨H3,I3,q3⟩=>?_))));exact wpAny_release ⟨σ,H3,I3,q3⟩
def pZ(a:TE)(g:TG):TS:=λD σ H=>a σ H λx H1=>g x σ H1 D.nx
def sE{b e:Zv}{c:TE}{g:TG}(he:PE X e c)(hg:PG X b g)(hs:Z0 [b] e pos.line X.env=pure false:=by rfl)(d:Z2 [b] e X.env=pure none:=by rfl)(h1:(ZW [b] X.env).map (·.2)=[ZU b X.env]:=by rfl):PS X (.Assign [b] e pos) (pZ c g):=by
 intro a s σ H D I h;refine wpAny_Assign_stores (thn (he a s σ H _ I h) λv s1 ⟨x,H1,I1,r1,q1⟩=>?_) hs d;rw[h1];exact thn (hg a s1 σ H1 x v _ I1 r1 q1) λ_ s2 q=>q
def fV{i:Nat}{x:Str}{e:Zv}{c:TE}{a:Pos}(hN:X.N.Nodup)(hi:X.N[i]?=some x)(f:Loc X.env.scope x)(he:PE X e c)(hs:ZT e (some (.Name x a)) pos.line X.env=pure false:=by rfl)(d:X.fn x=true\/X.env.scope.names.lookup x=some .local:=by first|exact .inl rfl|exact .inr rfl|assumption) :
  PS X (.Assign [.Name x a] e pos) (pZ c (iR i)):=by
 intro b s σ H D I h;refine wpAny_Assign_Name (thn (he b s σ H _ I h) λv s1 ⟨y,H1,I1,r1,q1⟩=>?_) hs;exact zH I1 hN hi f r1 (λs2 I2=>⟨_,H1,I2,q1⟩) d
def Tc(c:TT)(a:TS):TS:=λD σ H=>∃W:Nat->St->Hp->Prop,(∃m,W m σ H)/\∀m σ H,W m σ H ->
 c σ H λb H1=>if b=true then ∃N:St->Hp->Prop,(∀σ' H',N σ' H'->∃m',m'<m/\W m' σ' H')/\a { D with nx:=N,ct:=N,bk:=D.nx } σ H1 else D.nx σ H1
def Kz{c:Zv}{g:List ZH}{t:TT}{r:TS}(hp:Z3 (model X.prog X.w) X.A X.env X.xe)(hc:PT X c t)(hb:PSs X g r):PS X (.While c g [] pos) (Tc t r):=by
 intro a s σ H D I h;let⟨W,⟨x,z⟩,j⟩:=h;refine wpAny_While (codeAny_whileLoop (λn s'=>∃σ' H',Inv X a σ' H' s'/\W n σ' H') ?_ x ⟨σ,H,I,z⟩);rintro n y ⟨e,q,u,B⟩;refine Z4 hp (thn (hc a y e q _ u (j n e q B)) λb s2 ⟨H2,I2,k⟩=>?_);cases b with
 |true =>
  let⟨N,hN,k⟩:=k;rw[eD rfl];refine Z4 hp (thn (hb a s2 e H2 _ I2 k) λf s3 q3=>?_);cases f with
  |next =>
   let⟨d,i,l,o⟩:=q3;let⟨m,hm,p⟩:=hN d i o;exact⟨m,hm,d,i,l,p⟩
  |cont =>
   let⟨d,i,l,o⟩:=q3;let⟨m,hm,p⟩:=hN d i o;exact⟨m,hm,d,i,l,p⟩
  |brk=>exact q3
  |ret v=>exact q3
 |false =>
  rw[eH Ð];exact ZR ⟨e,H2,I2,k⟩
end
structure It where
 go:Nat->Hp->Prop
 yld:Nat->Hp->V->Hp->Prop
 stop:Nat->Hp->Prop
def nQ(X:Cx)(a:List (Addr×Obj))(H:Hp)(b:Addr):Prop :=
 H b=none/\b≠X.env.locals/\b∉X.fs/\(b∈X.ex\/X.s₀.heap.objs.size<=b)/\(∀x c,X.env.cells.lookup x=some c->c≠b)/\∀p∈X.pn++a,p.1≠b
def Inv.Bh{X:Cx}{a:List (Addr×Obj)}{σ:St}{H d:Hp}{s:Shared}{b:Addr}(I:Inv X a σ H s)(hb:↥s<=b)(hn:d b=none):nQ X a d b:=by
 refine⟨hn,ņ (ð I.lt hb),I.YJ hb,.inr (þ I.sz hb),λx c e z=>?_,λp hp z=>?_⟩
 ·let⟨v,q⟩:=I.cell x c e;exact eI (ð q.lt (by rw[z];exact hb)) (Ē _)
 ·exact eI (ð (Ó (I.pin p hp).1) (by rw[z];exact hb)) (Ē _)
structure TurnG(Cm:Cx->Prop)(P:Zc)(w:Zd)(K:ã)(tg:Zv)(J:It)(fp:List Addr)(it:Addr)(tn:Nat->Zi->Prop):Prop where
 mem:it∈fp
 obj:∀i h,tn i h->∀b∈fp,∃o,h.get? b=some o/\∀v,o.data≠.cell v
 keep:∀i h h',tn i h->(∀b∈fp,∀o,h.get? b=some o->h'.get? b=some o)->tn i h'
 item:∀(X:Cx),X.prog=P->X.w=w->X.K=K->Cm X->∀(i:Nat)(pins:List (Addr×Obj))(s:Shared)(σ:St)(H:Hp)(E:eQ),Inv X pins σ H s->(∀b∈fp,nQ X pins H b)->tn i s.heap->J.go i H ->
  wpAny (model P w) X.A (Z5 (.ref it)) (λr s1=>∃u,r=some u /\
   wpAny (model P w) X.A (Z6 tg (.ref it) u) (λ_ s2=>∃x H',Inv X pins σ H' s2/\RelV x u/\J.yld i H x H'/\tn (i+1) s2.heap/\∀b∈fp,H' b=none) E s1) E s
 done:∀(X:Cx),X.prog=P->X.w=w->X.K=K->Cm X->∀(i:Nat)(pins:List (Addr×Obj))(s:Shared)(σ:St)(H:Hp)(E:eQ),Inv X pins σ H s->(∀b∈fp,nQ X pins H b)->tn i s.heap->J.stop i H ->
  wpAny (model P w) X.A (Z5 (.ref it)) (λr s1=>r=none/\Inv X pins σ H s1) E s
 self:∀(A:Zt)(i:Nat)(s:Shared)(Q:eQ)(E:eQ),tn i s.heap->Q (.ref it) s->wpAny (model P w) A (pyIter (.ref it)) Q E s
abbrev Turn(P:Zc)(w:Zd)(K:ã)(tg:Zv)(J:It)(fp:List Addr)(it:Addr)(tn:Nat->Zi->Prop):Prop:=TurnG (λX=>X.calm=true) P w K tg J fp it tn
abbrev TI:=St->Hp->(It->Hp->Prop)->Prop
def Yp(Cm:Cx->Prop)(X:Cx)(a:List (Addr×Obj))(σ:St)(e:Zv)(R:It->Hp->Prop)(c:Value)(d:Shared):Prop :=
 ∃(it:Addr)(fp:List Addr)(tn:Nat->Zi->Prop)(J:It)(H':Hp),c=.ref it/\Inv X a σ H' d/\TurnG Cm X.prog X.w X.K e J fp it tn/\tn 0 d.heap/\(∀b∈fp,nQ X a H' b)/\R J H'
def PIG(Cm:Cx->Prop)(X:Cx)(b a:Zv)(c:TI):Prop :=
 ∀(pins:List (Addr×Obj))(s:Shared)(σ:St)(H:Hp)(R:It->Hp->Prop),Inv X pins σ H s->c σ H R ->
  wpAny (model X.prog X.w) X.A (Zx a X.env) (λv s1=>wpAny (model X.prog X.w) X.A (pyIter v) (Yp Cm X pins σ b R) X.xe s1) X.xe s
abbrev PIE(X:Cx):=Yp (λX=>X.calm=true) X
abbrev PI(X:Cx):=PIG (λX=>X.calm=true) X
def Mt{M:ZF}{A:Zt}{E:eQ}{s:Shared}{b:Zv}{it:Addr}{u:Value}{o:Obj}{n:String}{vs:Array Value}{Q:Unit->Shared->Prop}(c:s.heap.get? it=some o)(hc:o.cls=.type n)(hd:o.data=.fields vs)(hn:["enumerate","zip","dict_itemiterator","dict_reverseitemiterator","odict_iterator","itertools.zip_longest","itertools.pairwise"].contains n=false)(a:Q .unit s):wpAny M A (Z6 b (.ref it) u) Q E s:=by
 unfold Z6;cases b <;> first
  |exact Ù a
  | (cases u <;> first
    |exact Ù a
    | (refine Æ (Z7 c ?_)
       rw[hc,hd];show wpAny M A (if(["enumerate","zip","dict_itemiterator","dict_reverseitemiterator","odict_iterator","itertools.zip_longest","itertools.pairwise"].contains n&&vs[0]?==some (Z8 _))=true then _ else _) Q E s;rw[eH (by intro h;rw[hn,ŭ]at h;cases h)];exact Ù a))
def Itl(K:ã)(a:Addr):It :=
 ⟨λi H=>∃xs x,SqL K H a xs/\xs[i]?=some x,λi H x H'=>H'=H/\∀xs,SqL K H a xs->xs[i]?=some x,λi H=>∃xs,SqL K H a xs/\⇑xs<=i⟩
def Itt(K:ã)(a:Addr):It :=
 ⟨λi H=>∃xs x,SqT K H a xs/\xs[i]?=some x,λi H x H'=>H'=H/\∀xs,SqT K H a xs->xs[i]?=some x,λi H=>∃xs,SqT K H a xs/\⇑xs<=i⟩
def Itr(a:Int)(n:Nat):It:=⟨λi _=>i<n,λi H x H'=>H'=H/\x=.int (a+i),λi _=>n<=i⟩
def Hx{P:Zc}{w:Zd}{K:ã}{tg:Zv}(a it:Addr):Turn P w K tg (Itl K a) [it] it (λi h=>h.IsListIter it a i) where
 mem:=by simp
 obj:=λi h st b hb=>by
  have e:b=it:=by simpa using hb
  subst e;let⟨o,e,c,d⟩:=st;exact⟨o,e,λv z=>by rw[d]at z;cases z⟩
 keep:=λi h h' st k=>st.at λo e=>k it (by simp) o e
 item:=by
  intro X hP hw hK hc i pins s σ H E I hf st hg;subst hP hw hK;let⟨xs,x,hq,hx⟩:=hg;let⟨its,rv,p,hz⟩:=I.list hq;let⟨u,hu,ru⟩:=rv.get hx;let⟨f0,f1,f2,f3,f4,f5⟩:=hf it (by simp);refine Z9 st p.isList (x:=u) (by simpa using hu) λh' st' sb=>?_;have I1:Inv X pins σ H { s with heap:=h' }:=I.turned (t':=s.toks) (λb o hb e=>(sb.2 b hb).trans e) f0 f1 f3 f4 f5;let⟨o,e,c,d⟩:=id st';exact⟨u,rfl,Mt (s:={ s with heap:=h' }) e c d ∅ ⟨x,H,I1,ru,⟨rfl,λys hy=>by rw[I.mW hy hq];exact hx⟩,st',λb hb=>(hf b hb).1⟩⟩
 done:=by
  intro X hP hw hK hc i pins s σ H E I hf st hg;subst hP hw hK;let⟨xs,hq,hx⟩:=hg;let⟨its,rv,p,hz⟩:=I.list hq;let⟨f0,f1,f2,f3,f4,f5⟩:=hf it (by simp);have hl:=⇑rv;exact YA (I.ok.hd hc) st p.isList (by simp;lia) λh' eb=>⟨rfl,I.turned (t':=s.toks) (λb o hb e=>eb b o hb e) f0 f1 f3 f4 f5⟩
 self:=λ_ _ _ _ _ st h=>wpAny_pyIter_listiter st h
def Cj{P:Zc}{w:Zd}{K:ã}{tg:Zv}(a it:Addr):Turn P w K tg (Itt K a) [it] it (λi h=>h.IsTupleIter it a i) where
 mem:=by simp
 obj:=λi h st b hb=>by
  have e:b=it:=by simpa using hb
  subst e;let⟨o,e,c,d⟩:=st;exact⟨o,e,λv z=>by rw[d]at z;cases z⟩
 keep:=λi h h' st k=>st.at λo e=>k it (by simp) o e
 item:=by
  intro X hP hw hK hc i pins s σ H E I hf st hg;subst hP hw hK;let⟨xs,x,hq,hx⟩:=hg;let⟨its,rv,p,hz⟩:=I.tuple hq;let⟨u,hu,ru⟩:=rv.get hx;let⟨f0,f1,f2,f3,f4,f5⟩:=hf it (by simp);refine wpAny_pyNext_tuple_item st (show s.heap.IsTuple a its.toArray from p) (x:=u) (by simpa using hu) λh' st' sb=>?_;have I1:Inv X pins σ H { s with heap:=h' }:=I.turned (t':=s.toks) (λb o hb e=>(sb.2 b hb).trans e) f0 f1 f3 f4 f5;let⟨o,e,c,d⟩:=id st';exact⟨u,rfl,Mt (s:={ s with heap:=h' }) e c d ∅ ⟨x,H,I1,ru,⟨rfl,λys hy=>by rw[I.vm hy hq];exact hx⟩,st',λb hb=>(hf b hb).1⟩⟩
 done:=by
  intro X hP hw hK hc i pins s σ H E I hf st hg;subst hP hw hK;let⟨xs,hq,hx⟩:=hg;let⟨its,rv,p,hz⟩:=I.tuple hq;let⟨f0,f1,f2,f3,f4,f5⟩:=hf it (by simp);have hl:=⇑rv;exact wpAny_pyNext_tuple_end (I.ok.hd hc) st (show s.heap.IsTuple a its.toArray from p) (by simp;lia) λh' eb=>⟨rfl,I.turned (t':=s.toks) (λb o hb e=>eb b o hb e) f0 f1 f3 f4 f5⟩
 self:=λ_ _ _ _ _ st h=>wpAny_pyIter_tupleiter st h
def Ck{P:Zc}{w:Zd}{K:ã}{tg:Zv}(it:Addr)(lo:Int)(n:Nat):Turn P w K tg (Itr lo n) [it] it (λi h=>IsRangeIter h it (lo+(i:Nat) * 1) ((n:Int) - (i:Nat)) 1) where
 mem:=by simp
 obj:=λi h st b hb=>by
  have e:b=it:=by simpa using hb
  subst e;exact⟨_,st,λv z=>by
   have z':Data.fields _=Data.cell v:=z;cases z'⟩
 keep:=λi h h' st k=>k it (by simp) _ st
 item:=by
  intro X hP hw hK hc i pins s σ H E I hf st hg;subst hP hw hK;let⟨f0,f1,f2,f3,f4,f5⟩:=hf it (by simp);have W:=Walks.range (prog:=X.prog) (w:=X.w) (I.ok.hd hc) it lo 1 n;refine W.item i s _ _ hg st λv h' tk hv st' kk=>?_;let⟨t,rfl⟩:=hv;have I1:Inv X pins σ H { s with heap:=h',toks:=tk }:=I.turned (λb o hb e=>kk b o (by simpa using hb) e) f0 f1 f3 f4 f5;refine⟨_,rfl,Mt (s:={ s with heap:=h',toks:=tk }) (n:="range_iterator") st' rfl rfl ∅ ⟨.int (lo+i),H,I1,⟨t,?_⟩,⟨rfl,rfl⟩,st',λb hb=>(hf b hb).1⟩⟩;rw[Int.mul_one]
 done:=by
  intro X hP hw hK hc i pins s σ H E I hf st hg;subst hP hw hK;let⟨f0,f1,f2,f3,f4,f5⟩:=hf it (by simp);exact wpAny_pyNext_range_end (I.ok.hd hc) st (by have:n<=i:=hg;lia) λh' eb=>⟨rfl,I.turned (t':=s.toks) (λb o hb e=>eb b o hb e) f0 f1 f3 f4 f5⟩
 self:=λ_ _ _ _ _ st h=>wpAny_pyIter_rangeiter st h
section
variable{X:Cx}{tg:Zv}
def zV{c:List (Addr×Obj)}{σ:St}{H:Hp}{s:Shared}{R:It->Hp->Prop}{E:eQ}{a hi:Int}{t u v:Tok}{tk:Nat}(I:Inv X c σ H s)(h1:-(2 ^ 62)<=a)(h2:a<2 ^ 62)(h:-(2 ^ 62)<=hi)(i:hi<2 ^ 62)(q:R (Itr a (hi - a).toNat) H):wpAny (model X.prog X.w) X.A (pyIter (.ref ↥s)) (PIE X c σ tg R) E { s with heap:=s.heap.push { cls:=.type "range",data:=.fields #[.int a t,.int hi u,.int 1 v]},toks:=tk }:=by
 refine wpAny_pyIter_range (IsRange.new ..) (small_one h1 h2 h i) ?_;have d:Inv X c σ H { s with heap:=s.heap.push { cls:=.type "range",data:=.fields #[.int a t,.int hi u,.int 1 v]},toks:=tk }:=I.kept λb o e=>Ò _ e;refine⟨(s.heap.push { cls:=.type "range",data:=.fields #[.int a t,.int hi u,.int 1 v]}).objs.size,[(s.heap.push { cls:=.type "range",data:=.fields #[.int a t,.int hi u,.int 1 v]}).objs.size],_,_,H,rfl,
  d.kept (t':=tk) λb o e=>Ò _ e,Ck _ a (hi - a).toNat,?_,λb hb=>?_,q⟩
 ·have f:a+((0:Nat):Int) * 1=a:=by simp
  have g:(((hi - a).toNat:Nat):Int) - ((0:Nat):Int)=Builtin.Range.rangeSize a hi 1:=by rw[rangeSize_one];split <;> lia
  show IsRangeIter _ _ (a+((0:Nat):Int) * 1) ((((hi - a).toNat:Nat):Int) - ((0:Nat):Int)) 1;rw[f,g];exact è _ rfl
 ·have e:b=(s.heap.push { cls:=.type "range",data:=.fields #[.int a t,.int hi u,.int 1 v]}).objs.size:=by simpa using hb
  subst e;exact d.Bh (Õ _) (d.hok.fresh (Õ _))
def Xp(a:TA):TI:=λσ H R=>a σ H λvs H1=>∃j:Int,vs=[.int j]/\-(2 ^ 62)<=j/\j<2 ^ 62/\R (Itr 0 j.toNat) H1
def Xo(a:TA):TI:=λσ H R=>a σ H λvs H1=>∃i j:Int,vs=[.int i,.int j]/\(-(2 ^ 62)<=i/\i<2 ^ 62/\-(2 ^ 62)<=j/\j<2 ^ 62)/\R (Itr i (j - i).toNat) H1
def H9{a:Zv}{d:TA}{p pos:Pos}(hg:Gl X "range")(hm:X.mg "range"=none)(ha:PA X [a] d)(hs:Zw [a] X.env=[(false,Zx a X.env)]:=by rfl):PI X tg (.Call (.Name "range" p) [a] [] pos) (Xp d):=by
 intro b s σ H R I h;refine YE (d7 I hg hm boot_range (Č (thn (ha pos b s σ H _ I h) λus s1 ⟨vs,H1,I1,r1,c⟩=>?_) hs rfl));let⟨j,e,c,f,q⟩:=c;subst e;cases r1 with
 |cons r rr =>
  cases rr;let⟨t,rfl⟩:=r;exact call_range_1 (zV I1 () () c f (by simpa using q))
def HY{a b:Zv}{f:TA}{p pos:Pos}(hg:Gl X "range")(hm:X.mg "range"=none)(ha:PA X [a,b] f)(hs:Zw [a,b] X.env=[(false,Zx a X.env),(false,Zx b X.env)]:=by rfl)(hs2:Zw [b] X.env=[(false,Zx b X.env)]:=by rfl) :
  PI X tg (.Call (.Name "range" p) [a,b] [] pos) (Xo f):=by
 intro c s σ H R I h;refine YE (d7 I hg hm boot_range (Č (thn (ha pos c s σ H _ I h) λus s1 ⟨vs,H1,I1,r1,d⟩=>?_) (by rw[hs,hs2]) (by rw[hs2];rfl)));let⟨i,j,e,⟨d,g,k,l⟩,q⟩:=d;subst e;cases r1 with
 |cons r rr =>
  cases rr with
  |cons r' rr =>
   cases rr;let⟨t,rfl⟩:=r;let⟨t',rfl⟩:=r';exact call_range_2 (zV I1 d g k l q)
def Yy(b:TI)(g:TG)(a:TS):TS:=λD σ H=>b σ H λJ H1=>∃W:Nat->Nat->St->Hp->Prop,(∃m,W 0 m σ H1)/\∀i m σ H,W i m σ H ->
 (J.stop i H/\D.nx σ H)\/(J.go i H/\∃N:St->Hp->Prop,(∀σ' H',N σ' H'->∃m',m'<m/\W (i+1) m' σ' H')/\∀x H',J.yld i H x H'->g x σ H' λσ2 H2=>a { D with nx:=N,ct:=N,bk:=D.nx } σ2 H2)
def jd(a:List Addr)(h:Zi):List (Addr×Obj):=a.filterMap λb=>(h.get? b).map λo=>(b,o)
def iy{a:List Addr}{h:Zi}{b:Addr}{o:Obj}(hb:b∈a)(e:h.get? b=some o):(b,o)∈jd a h:=List.mem_filterMap.mpr ⟨b,hb,by rw[e];rfl⟩
def vI{a:List Addr}{h:Zi}{p:Addr×Obj}(hp:p∈jd a h):p.1∈a/\h.get? p.1=some p.2:=by
 let⟨b,hb,e⟩:=List.mem_filterMap.mp hp;cases q:h.get? b with
 |none=>rw[q]at e;cases e
 |some o =>
  rw[q]at e;have c:(b,o)=p:=Ö e;subst c;exact⟨hb,q⟩
def Inv.pinned{a:List (Addr×Obj)}{σ:St}{H:Hp}{s:Shared}{c:List Addr}(I:Inv X a σ H s)(j:∀b∈c,nQ X a H b)(k:∀b∈c,∃o,s.heap.get? b=some o/\∀v,o.data≠.cell v):Inv X (a++jd c s.heap) σ H s :=
 I.qJ λp hp=>(â.mp hp).elim (λz=>I.pin p (ç _ z)) λz=>by
  let⟨hb,e⟩:=vI z;let⟨g,h,i,_⟩:=j p.1 hb;let⟨o,f,d⟩:=k p.1 hb;rw[e]at f;cases f;exact⟨e,g,h,i,d⟩
def Inv.lG{a b:List (Addr×Obj)}{σ:St}{H:Hp}{s:Shared}(I:Inv X (a++b) σ H s):Inv X a σ H s:=I.qJ λp hp=>I.pin p (ç _ (é _ hp))
def T6{p:Zv}{y:List ZH}{V:TI}{g:TG}{S:TS}{pos:Pos}(hp:Z3 (model X.prog X.w) X.A X.env X.xe)(hc:X.calm=true)(hi:PI X tg p V)(hg:PG X tg g)(hb:PSs X y S)(hs:∀x,Zz p X.env x=pure x:=by intro _;rfl):PS X (.For tg p y [] pos) (Yy V g S):=by
 intro a s σ H D I h;refine wpAny_For (thn (hi a s σ H _ I h) λv s1 h1=>thn h1 λitv s2 h2=>?_) hs;let⟨it,B,U,J,Y,e,Z,T,O,Q,W,⟨m0,w0⟩,K⟩:=h2;subst e
 -- what stays true of the iterator's objects through the loop
 have q:∀{H':Hp},(∀b∈B,H' b=none)->∀b∈B,nQ X a H' b:=λhn b hb=>⟨hn b hb,(Q b hb).2⟩
 refine codeAny_forLoop_any (λn s'=>∃i σ' H',Inv X a σ' H' s'/\U i s'.heap/\(∀b∈B,H' b=none)/\W i n σ' H') ?_ m0 ⟨0,σ,Y,Z,O,λb hb=>(Q b hb).1,w0⟩;rintro n R ⟨i,t,L,P,F,C,w3⟩;rcases K i n t L w3 with⟨G,qn⟩|⟨go,N,hN,step⟩
 ·refine Z4 hp (thn (T.done X rfl rfl rfl hc i a R t L X.xe P (q C) F G) λr s4 ⟨hr,I4⟩=>?_);subst hr;exact ZR ⟨t,L,I4,qn⟩
 ·refine Z4 hp (thn (T.item X rfl rfl rfl hc i a R t L X.xe P (q C) F go) λr s4 ⟨u,hr,h4⟩=>?_);subst hr;refine Z4 hp (thn h4 λ_ s5 ⟨x,H5,I5,r5,y5,st5,fr5⟩=>?_);have M:=I5.pinned (q fr5) (T.obj _ _ st5);refine Z4 hp (thn (hg _ s5 t H5 x u _ M r5 (step x H5 y5)) λ_ s6 ⟨σ6,H6,I6,q6⟩=>?_);refine Z4 hp (thn (hb _ s6 σ6 H6 _ I6 q6) λf s7 z=>?_);have l:∀{c:St}{j:Hp},Inv X (a++jd B s5.heap) c j s7->N c j->∃m,m<n/\∃i σ' H',Inv X a σ' H' s7/\U i s7.heap/\(∀b∈B,H' b=none)/\W i m σ' H':=λ{c j} k E=>by
   let⟨m',hm,w7⟩:=hN c j E;refine⟨m',hm,i+1,c,j,k.lG,T.keep _ _ _ st5 λb hb o e=>(k.pin (b,o) (ç _ (ç _ (iy hb e)))).1,λb hb=>?_,w7⟩;let⟨o,e,d⟩:=T.obj _ _ st5 b hb;exact(k.pin (b,o) (ç _ (ç _ (iy hb e)))).2.1
  cases f with
  |next=>let⟨c,j,k,E⟩:=z;exact l k E
  |cont=>let⟨c,j,k,E⟩:=z;exact l k E
  |brk=>let⟨c,j,k,z⟩:=z;exact⟨c,j,k.lG,z⟩
  |ret v=>let⟨x7,c,j,k,r7,z⟩:=z;exact⟨x7,c,j,k.lG,r7,z⟩
end
abbrev R2:=V->V->Hp->VK->Prop
def OpR(X:Cx)(f:Value->Value->Sem Value)(r:R2):Prop :=
 ∀(pins:List (Addr×Obj))(s:Shared)(σ:St)(H:Hp)(x y:V)(v u:Value)(Q:VK),Inv X pins σ H s->RelV x v->RelV y u->r x y H Q ->
  wpAny (model X.prog X.w) X.A (f v u) (EP X pins σ Q) X.xe s
def UnR(X:Cx)(f:Value->Sem Value)(r:V->Hp->VK->Prop):Prop :=
 ∀(pins:List (Addr×Obj))(s:Shared)(σ:St)(H:Hp)(x:V)(v:Value)(Q:VK),Inv X pins σ H s->RelV x v->r x H Q ->
  wpAny (model X.prog X.w) X.A (f v) (EP X pins σ Q) X.xe s
def aQ(X:Cx)(f:Value)(r:List V->Hp->VK->Prop):Prop :=
 ∀(pins:List (Addr×Obj))(s:Shared)(σ:St)(H:Hp)(xs:List V)(us:List Value)(Q:VK),Inv X pins σ H s->Vals xs us->r xs H Q ->
  wpAny (model X.prog X.w) X.A (YI f us) (EP X pins σ Q) X.xe s
def Y6(X:Cx)(r:V->Hp->(Bool->Hp->Prop)->Prop):Prop :=
 ∀(pins:List (Addr×Obj))(s:Shared)(σ:St)(H:Hp)(x:V)(v:Value)(Q:Bool->Hp->Prop),Inv X pins σ H s->RelV x v->r x H Q ->
  wpAny (model X.prog X.w) X.A (ZP v) (TP X pins σ Q) X.xe s
def tOp(r:R2)(a b:TE):TE:=λσ H Q=>a σ H λx H1=>b σ H1 λy H2=>r x y H2 Q
def tUn(r:V->Hp->VK->Prop)(a:TE):TE:=λσ H Q=>a σ H λx H1=>r x H1 Q
def rI(C:Int->Int->Prop)(g:Int->Int->V):R2:=λx y H Q=>∃i j,x=.int i/\y=.int j/\C i j/\Q (g i j) H
def rI0(g:Int->Int->V):R2:=λx y H Q=>∃i j,x=.int i/\y=.int j/\Q (g i j) H
def rU(g:Int->V):V->Hp->VK->Prop:=λx H Q=>∃i,x=.int i/\Q (g i) H
section
variable{X:Cx}{a b c:Zv}{ta tb tc:TE}{pos:Pos}
def VG(ha:PE X a ta)(hb:PE X b tb){d:List (Addr×Obj)}{s:Shared}{σ:St}{H:Hp}{R:V->V->Hp->Prop}(I:Inv X d σ H s)(h:ta σ H λx H1=>tb σ H1 λy H2=>R x y H2){Q:eQ}{f:Value->Value->Sem Value}(e:∀v u s2 x y H2,Inv X d σ H2 s2->RelV x v->RelV y u->R x y H2->wpAny (model X.prog X.w) X.A (f v u) Q X.xe s2) :
  wpAny (model X.prog X.w) X.A (Zx a X.env) (λv s₁=>wpAny (model X.prog X.w) X.A (Zx b X.env) (λu s₂=>wpAny (model X.prog X.w) X.A (f v u) Q X.xe s₂) X.xe s₁) X.xe s:=by
 refine thn (ha d s σ H _ I h) λv s1 ⟨x,H1,I1,r1,q1⟩=>?_;refine thn (hb d s1 σ H1 _ I1 q1) λu s2 ⟨y,H2,I2,r2,q2⟩=>?_;exact e v u s2 x y H2 I2 r1 r2 q2
def bO{e:Operator}{r:R2}(f:OpR X (YN e) r)(ha:PE X a ta)(hb:PE X b tb):PE X (.BinOp a e b pos) (tOp r ta tb):=by
 intro d s σ H Q I h;exact wpAny_BinOp (VG ha hb I h λv u s2 x y H2 I2 rx ry q=>f d s2 σ H2 x y v u Q I2 rx ry q)
def WM{e:UnaryOp}{r:V->Hp->VK->Prop}(f:UnR X (unaryOp e) r)(ha:PE X a ta):PE X (.UnaryOp e a pos) (tUn r ta):=by
 intro d s σ H Q I h;exact ZQ (thn (ha d s σ H _ I h) λv s1 ⟨x,H1,I1,r1,q1⟩=>f d s1 σ H1 x v Q I1 r1 q1)
def opI{f:Value->Value->Sem Value}{C:Int->Int->Prop}{g:Int->Int->Int}(d:∀(i j:Int)(t u:Tok)(s:Shared)(Q:eQ)(E:eQ),C i j->Q (.int (g i j) s.toks) { s with toks:=s.toks+1 }->wpAny (model X.prog X.w) X.A (f (.int i t) (.int j u)) Q E s) :
  OpR X f (rI C λi j=>.int (g i j)):=by
 intro e s σ H x y v u Q I k l h;let⟨i,j,rfl,rfl,hc,q⟩:=h;let⟨t,rfl⟩:=k;let⟨t',rfl⟩:=l;exact d i j t t' s _ _ hc ⟨.int (g i j),H,I.tok _,⟨_,rfl⟩,q⟩
def WY{f:Value->Value->Sem Value}{g:Int->Int->Int}(d:∀(i j:Int)(t u:Tok)(s:Shared)(Q:eQ)(E:eQ),Q (.int (g i j) s.toks) { s with toks:=s.toks+1 }->wpAny (model X.prog X.w) X.A (f (.int i t) (.int j u)) Q E s) :
  OpR X f (rI0 λi j=>.int (g i j)):=by
 intro e s σ H x y v u Q I k l h;let⟨i,j,rfl,rfl,q⟩:=h;let⟨t,rfl⟩:=k;let⟨t',rfl⟩:=l;exact d i j t t' s _ _ ⟨.int (g i j),H,I.tok _,⟨_,rfl⟩,q⟩
def Qa{f:Value->Value->Sem Value}{g:Int->Int->Bool}(d:∀(i j:Int)(t u:Tok)(s:Shared)(Q:eQ)(E:eQ),Q (.bool (g i j)) s->wpAny (model X.prog X.w) X.A (f (.int i t) (.int j u)) Q E s) :
  OpR X f (rI0 λi j=>.bl (g i j)):=by
 intro e s σ H x y v u Q I k l h;let⟨i,j,rfl,rfl,q⟩:=h;let⟨t,rfl⟩:=k;let⟨t',rfl⟩:=l;exact d i j t t' s _ _ ⟨.bl (g i j),H,I,rfl,q⟩
def VN(i j:Int):Prop:=0<j/\j<1073741824
def Y9(i j:Int):Prop:=0<=j/\j<=1000000/\i.natAbs<2 ^ 64
def Oe(i j:Int):Prop:=(-(2 ^ 64)<i/\i<2 ^ 64)\/(-(2 ^ 64)<j/\j<2 ^ 64)
def Oe.ok{i j:Int}(h:Oe i j):IntMulOk i j:=by
 rcases h with⟨h1,h2⟩|⟨h1,h2⟩
 ·exact .of_left (YO h1 h2)
 ·exact .of_right (YO h1 h2)
def jh:OpR X (YN .Add) (rI0 λi j=>.int (i+j)):=WY λ_ _ _ _ _ _ _ q=>add_int q
def Us:OpR X (YN .Sub) (rI0 λi j=>.int (i - j)):=WY λ_ _ _ _ _ _ _ q=>sub_int q
def kZ:OpR X (YN .Mult) (rI Oe λi j=>.int (i * j)):=opI λ_ _ _ _ _ _ _ hc q=>mul_int q hc.ok
def qR:OpR X (YN .FloorDiv) (rI VN λi j=>.int (i / j)):=opI λi j _ _ _ _ _ hc q=>by
 have h1:(0:Int)<j:=hc.1;have h2:j<1073741824:=hc.2;exact floordiv_int () (by rw[Int.fdiv_eq_ediv_of_nonneg i ()];exact q) (.inl (PyProof.noPylong_small ()))
def iu:OpR X (YN .Mod) (rI (λ_ j=>0<j) λi j=>.int (i % j)):=opI λi j _ _ _ _ _ hc q=>by
 have h1:(0:Int)<j:=hc;exact mod_int' () (by rw[Int.fmod_eq_emod_of_nonneg i ()];exact q)
def Uu:OpR X (YN .Pow) (rI Y9 λi j=>.int (i ^ j.toNat)):=opI λ_ _ _ _ _ _ _ hc q=>pow_int_small hc.1 hc.2.1 hc.2.2 q
def unI{f:Value->Sem Value}{g:Int->Int}(d:∀(i:Int)(t:Tok)(s:Shared)(Q:eQ)(E:eQ),Q (.int (g i) s.toks) { s with toks:=s.toks+1 }->wpAny (model X.prog X.w) X.A (f (.int i t)) Q E s) :
  UnR X f (rU λi=>.int (g i)):=by
 intro e s σ H x v Q I j h;let⟨i,rfl,q⟩:=h;let⟨t,rfl⟩:=j;exact d i t s _ _ ⟨.int (g i),H,I.tok _,⟨_,rfl⟩,q⟩
def S7:UnR X (unaryOp .USub) (rU λi=>.int (-i)):=unI λ_ _ _ _ _ q=>neg_int q
def Wn:V->V->Bool
 |.non,.non=>true|.non,.int _=>true|.int _,.non=>true|.non,.bl _=>true|.bl _,.non=>true|.non,.str _=>true|.str _,.non=>true
 |.int _,.int _=>true|.bl _,.bl _=>true|.str _,.str _=>true|.byt _,.byt _=>true
 |.int _,.str _=>true|.str _,.int _=>true|.bl _,.str _=>true|.str _,.bl _=>true
 |_,_=>false
def rEq:R2:=λx y H Q=>Wn x y=true/\Q (.bl (decide (x=y))) H
def rNe:R2:=λx y H Q=>Wn x y=true/\Q (.bl (!decide (x=y))) H
def Hl{i j:Int}:decide (V.int i=V.int j)=(i==j):=by
 rw[Ė];simp
def Nq{i j:Bool}:decide (V.bl i=V.bl j)=(i==j):=by
 rw[Ė];simp
def Hj{i j:Str}:decide (V.str i=V.str j)=(i==j):=by
 rw[Ė];simp
def Ho{i j:Array UInt8}:decide (V.byt i=V.byt j)=(i.toList==j.toList):=by
 rw[Ė];cases i;cases j;simp
def aJ{d:List (Addr×Obj)}{σ:St}{H:Hp}{s:Shared}{Q:VK}{k f:Bool}(I:Inv X d σ H s)(q:Q (.bl k) H)(e:k=f):EP X d σ Q (.bool f) s:=by
 subst e;exact⟨.bl k,H,I,rfl,q⟩
def Rx:OpR X (ZL .Eq) rEq:=by
 intro f s σ H x y v u Q I e d h;let⟨hs,q⟩:=h;cases x with
 |non =>
  cases e;cases y with
  |non=>cases d;exact PySem.EqNone.eq_none_none (aJ I q (by simp))
  |bl j=>cases d;exact PySem.EqNone.eq_none_bool (aJ I q (by simp))
  |int j=>let⟨t',rfl⟩:=d;exact PySem.EqNone.eq_none_int (aJ I q (by simp))
  |str j=>let⟨t',rfl⟩:=d;exact PySem.EqNone.eq_none_str (aJ I q (by simp))
  |_=>exact eI (show false=true from hs) Ð
 |bl i =>
  cases e;cases y with
  |non=>cases d;exact PySem.EqNone.eq_bool_none (aJ I q (by simp))
  |bl j=>cases d;exact eq_bool (aJ I q Nq)
  |str j=>let⟨t',rfl⟩:=d;exact PySem.EqMixed.eq_bool_str (aJ I q (by simp))
  |_=>exact eI (show false=true from hs) Ð
 |int i =>
  let⟨t,rfl⟩:=e;cases y with
  |non=>cases d;exact PySem.EqNone.eq_int_none (aJ I q (by simp))
  |int j=>let⟨t',rfl⟩:=d;exact eq_int (aJ I q Hl)
  |str j=>let⟨t',rfl⟩:=d;exact PySem.EqMixed.eq_int_str (aJ I q (by simp))
  |_=>exact eI (show false=true from hs) Ð
 |str i =>
  let⟨t,rfl⟩:=e;cases y with
  |non=>cases d;exact PySem.EqNone.eq_str_none (aJ I q (by simp))
  |bl j=>cases d;exact PySem.EqMixed.eq_str_bool (aJ I q (by simp))
  |int j=>let⟨t',rfl⟩:=d;exact PySem.EqMixed.eq_str_int (aJ I q (by simp))
  |str j=>let⟨t',rfl⟩:=d;exact eq_str (aJ I q Hj)
  |_=>exact eI (show false=true from hs) Ð
 |byt i =>
  let⟨t,rfl⟩:=e;cases y with
  |byt j=>let⟨t',rfl⟩:=d;exact W.eq_bytes (aJ I q Ho)
  |_=>exact eI (show false=true from hs) Ð
 |_=>cases y <;> exact eI (show false=true from hs) Ð
def WX:OpR X (ZL .NotEq) rNe:=by
 intro f s σ H x y v u Q I e d h;let⟨hs,q⟩:=h;cases x with
 |non =>
  cases e;cases y with
  |non=>cases d;exact PySem.EqNone.ne_none_none (aJ I q (by simp))
  |bl j=>cases d;exact PySem.EqNone.ne_none_bool (aJ I q (by simp))
  |int j=>let⟨t',rfl⟩:=d;exact PySem.EqNone.ne_none_int (aJ I q (by simp))
  |str j=>let⟨t',rfl⟩:=d;exact PySem.EqNone.ne_none_str (aJ I q (by simp))
  |_=>exact eI (show false=true from hs) Ð
 |bl i =>
  cases e;cases y with
  |non=>cases d;exact PySem.EqNone.ne_bool_none (aJ I q (by simp))
  |bl j=>cases d;exact ne_bool (aJ I q (eJ not Nq))
  |str j=>let⟨t',rfl⟩:=d;exact PySem.EqMixed.ne_bool_str (aJ I q (by simp))
  |_=>exact eI (show false=true from hs) Ð
 |int i =>
  let⟨t,rfl⟩:=e;cases y with
  |non=>cases d;exact PySem.EqNone.ne_int_none (aJ I q (by simp))
  |int j=>let⟨t',rfl⟩:=d;exact ne_int (aJ I q (eJ not Hl))
  |str j=>let⟨t',rfl⟩:=d;exact PySem.EqMixed.ne_int_str (aJ I q (by simp))
  |_=>exact eI (show false=true from hs) Ð
 |str i =>
  let⟨t,rfl⟩:=e;cases y with
  |non=>cases d;exact PySem.EqNone.ne_str_none (aJ I q (by simp))
  |bl j=>cases d;exact PySem.EqMixed.ne_str_bool (aJ I q (by simp))
  |int j=>let⟨t',rfl⟩:=d;exact PySem.EqMixed.ne_str_int (aJ I q (by simp))
  |str j=>let⟨t',rfl⟩:=d;exact ne_str (aJ I q (eJ not Hj))
  |_=>exact eI (show false=true from hs) Ð
 |byt i =>
  let⟨t,rfl⟩:=e;cases y with
  |byt j=>let⟨t',rfl⟩:=d;exact W.ne_bytes (aJ I q (eJ not Ho))
  |_=>exact eI (show false=true from hs) Ð
 |_=>cases y <;> exact eI (show false=true from hs) Ð
def Ab:OpR X (ZL .Lt) (rI0 λi j=>.bl (decide (i<j))):=Qa λ_ _ _ _ _ _ _ q=>lt_int q
def K9:OpR X (ZL .LtE) (rI0 λi j=>.bl (decide (i<=j))):=Qa λ_ _ _ _ _ _ _ q=>le_int q
def Gu:OpR X (ZL .Gt) (rI0 λi j=>.bl (decide (j<i))):=Qa λ_ _ _ _ _ _ _ q=>gt_int q
def Rw:OpR X (ZL .GtE) (rI0 λi j=>.bl (decide (j<=i))):=Qa λ_ _ _ _ _ _ _ q=>ge_int q
def La:OpR X (ZL .Is) (λx y H Q=>y=.non/\Q (.bl (decide (x=.non))) H):=by
 intro d s σ H x y v u Q I e f h;let⟨rfl,q⟩:=h;cases f;refine is_none_gen (aJ I q ?_);cases x <;> first
  |(cases e;rfl)
  |(let⟨t,rfl⟩:=e;rfl)
def PN:OpR X (ZL .IsNot) (λx y H Q=>y=.non/\Q (.bl (!decide (x=.non))) H):=by
 intro d s σ H x y v u Q I e f h;let⟨rfl,q⟩:=h;cases f;refine isnot_none_gen (aJ I q ?_);cases x <;> first
  |(cases e;rfl)
  |(let⟨t,rfl⟩:=e;rfl)
def cL(b:Zv){d:ZK}(h:d≠.In:=by decide)(h2:d≠.NotIn:=by decide):ZM d b=false:=by
 have e:(d==CmpOp.In)=false:=by cases d <;> first|rfl|exact eI rfl h
 have f:(d==CmpOp.NotIn)=false:=by cases d <;> first|rfl|exact eI rfl h2
 cases b <;> simp[ZM,e,f]
def PB{e:ZK}{r:R2}(f:OpR X (ZL e) r)(ha:PE X a ta)(hb:PE X b tb)(hm:ZM e b=false):PE X (.Compare a [e] [b] pos) (tOp r ta tb):=by
 intro d s σ H Q I h;exact ZN (VG ha hb I h λv u s2 x y H2 I2 rx ry q=>f d s2 σ H2 x y v u Q I2 rx ry q) hm
def JV(t:TE):TT:=λσ H Q=>t σ H λx H'=>∃k,x=.bl k/\Q k H'
def lQ{f:ZK}{r:R2}(g:OpR X (ZL f) r)(ha:PE X a ta)(hb:PE X b tb)(hm:ZM f b=false):PT X (.Compare a [f] [b] pos) (JV (tOp r ta tb)):=by
 intro d s σ H Q I h;refine ZO (thn (ha d s σ H _ I h) λv s1 ⟨x,H1,I1,r1,q1⟩=>thn (hb d s1 σ H1 _ I1 q1) λu s2 ⟨y,H2,I2,r2,q2⟩ =>
  thn (g d s2 σ H2 x y v u _ I2 r1 r2 q2) λc s3 ⟨z,H3,I3,r3,k,e,q3⟩=>?_) hm
 subst e;cases r3;exact ĺ ⟨H3,I3,q3⟩
def rK(r d:R2)(ta tb tc:TE):TE:=λσ H Q=>ta σ H λx H1=>tb σ H1 λy H2=>r x y H2 λz H3=>∃k,z=.bl k /\
 (if k=true then tc σ H3 λw' H4=>d y w' H4 Q else Q (.bl false) H3)
def K5{j g:ZK}{r l:R2}(m:OpR X (ZL j) r)(i:OpR X (ZL g) l)(ha:PE X a ta)(hb:PE X b tb)(hc:PE X c tc)(hm:YR [j,g] [b,c]=false:=by with_unfolding_all rfl):PE X (.Compare a [j,g] [b,c] pos) (rK r l ta tb tc):=by
 intro f s σ H Q I h;refine Compare_chain (thn (ha f s σ H _ I h) λv s1 ⟨x,H1,I1,r1,q1⟩=>chain_link (thn (hb f s1 σ H1 _ I1 q1) λu s2 ⟨y,H2,I2,r2,q2⟩ =>
  thn (m f s2 σ H2 x y v u _ I2 r1 r2 q2) λd s3 ⟨z,H3,I3,r3,k,e,q3⟩=>?_)) hm
 subst e;cases r3;refine ĺ ?_;cases k with
 |false=>exact ite_ff ⟨.bl false,H3,I3,rfl,q3⟩
 |true=>exact ite_tt (chain_last (thn (hc f s3 σ H3 _ I3 q3) λw' s4 ⟨z',H4,I4,r4,q4⟩=>i f s4 σ H4 y z' u w' Q I4 r2 r4 q4))
def Ky{j g:ZK}{r l:R2}(n:OpR X (ZL j) r)(i:OpR X (ZL g) l)(ha:PE X a ta)(hb:PE X b tb)(hc:PE X c tc)(hm:YR [j,g] [b,c]=false:=by with_unfolding_all rfl):PT X (.Compare a [j,g] [b,c] pos) (JV (rK r l ta tb tc)):=by
 intro f s σ H Q I h;refine isTrue_chain (thn (ha f s σ H _ I h) λv s1 ⟨x,H1,I1,r1,q1⟩=>test_link (thn (hb f s1 σ H1 _ I1 q1) λu s2 ⟨y,H2,I2,r2,q2⟩ =>
  thn (n f s2 σ H2 x y v u _ I2 r1 r2 q2) λd s3 ⟨z,H3,I3,r3,k,e,q3⟩=>?_)) hm
 subst e;cases r3;refine ĺ ?_;cases k with
 |false =>
  let⟨p,m,o⟩:=q3;cases m;exact ite_ff ⟨H3,I3,o⟩
 |true =>
  refine ite_tt (test_last (thn (hc f s3 σ H3 _ I3 q3) λw' s4 ⟨z',H4,I4,r4,q4⟩=>thn (i f s4 σ H4 y z' u w' _ I4 r2 r4 q4) λd' s5 ⟨z2,H5,I5,r5,k2,e2,q5⟩=>?_));subst e2;cases r5;exact ĺ ⟨H5,I5,q5⟩
def Yn(K:ã)(x:V)(H:Hp)(k:Bool):Prop :=
 match x with
 |.non=>k=false
 |.bl b=>k=b
 |.int i=>k=(i != 0)
 |.str y=>⇑y<=sizeLine/\k=((⇑y:Int) != 0)
 |.byt y=>y.size<=sizeLine/\k=((y.size:Int) != 0)
 |.ref p=>(∃xs,SqL K H p xs/\k=!xs.isEmpty)\/(∃xs,SqT K H p xs/\k=!xs.isEmpty)\/∃kvs,H p=some (.dK kvs)/\k=!kvs.isEmpty
 |_=>False
def Ec{κ:Type}{kvs:List (κ×V)}{vs:List (κ×Value)}(r:KV kvs vs):(!vs.isEmpty)=!kvs.isEmpty:=by
 cases r <;> rfl
def uf{xs:List V}{its:List Value}(r:Vals xs its):(!its.toArray.isEmpty)=!xs.isEmpty:=by
 cases r <;> simp
def tW:(sizeLine:Nat)<2 ^ 63:=by rw[ą];decide
def S9:Y6 X (λx H Q=>∃k,Yn X.K x H k/\Q k H):=by
 intro o s σ H x v Q I g h;let⟨k,e,q⟩:=h;have hl:=tW;have hs:sizeLine=16777216:=ą;cases x with
 |non =>
  cases g;have d:k=false:=e;subst d;exact truthy_none ⟨H,I,q⟩
 |bl b =>
  cases g;have d:k=b:=e;subst d;exact ĺ ⟨H,I,q⟩
 |int i =>
  let⟨t,rfl⟩:=g;have d:k=(i != 0):=e;subst d;exact PySem.P.truthy_int ⟨H,I,q⟩
 |str y =>
  let⟨t,rfl⟩:=g;obtain⟨z,d⟩:⇑y<=sizeLine/\k=((⇑y:Int) != 0):=e;subst d;exact PySem.P.truthy_str () ⟨H,I.tok _,q⟩
 |byt y =>
  let⟨t,rfl⟩:=g;obtain⟨z,d⟩:y.size<=sizeLine/\k=((y.size:Int) != 0):=e;subst d;exact W.truthy_bytes () ⟨H,I.tok _,q⟩
 |ref p =>
  cases g;have d:(∃xs,SqL X.K H p xs/\k=!xs.isEmpty)\/(∃xs,SqT X.K H p xs/\k=!xs.isEmpty)\/∃kvs,H p=some (.dK kvs)/\k=!kvs.isEmpty:=e;rcases d with⟨xs,j,d⟩|⟨xs,j,d⟩|⟨kvs,j,d⟩
  ·subst d;let⟨its,r,l,n⟩:=I.list j;have f:=⇑r;exact wpAny_truthy_list l.isList (by simp only[Ø];lia) ⟨H,I.tok _,by rw[uf r];exact q⟩
  ·subst d;let⟨its,r,l,n⟩:=I.tuple j;have f:=⇑r;exact truthy_tuple l (by simp only[Ø];lia) ⟨H,I.tok _,by rw[uf r];exact q⟩
  ·subst d;obtain⟨n,u,vs,r,m⟩:⇑kvs<=sizeLine/\(p==Zp)=false/\∃vs,KV kvs vs/\s.heap.DictOf (aY X.prog X.w) p vs:=I.hok p _ j;have f:⇑kvs=⇑vs:=Paired.length r;exact wpAny_truthy_dict u m () ⟨H,I.tok _,by rw[Ec r];exact q⟩
 |_=>exact(show False from e).elim
def Kw(ha:PE X a ta)(he:∀whole,ZG a X.env whole=(do let v ←whole;standAt a.pos;holding [v] (ZP v))) :
  PT X a (λσ H Q=>ta σ H λx H'=>∃k,Yn X.K x H' k/\Q k H'):=by
 intro d s σ H Q I h;exact isTrue_plain (thn (ha d s σ H _ I h) λv s1 ⟨x,H1,I1,r1,q1⟩=>S9 d s1 σ H1 x v Q I1 r1 q1) (he _)
def vals1{x:V}{us:List Value}(r:Vals [x] us):∃u,us=[u]/\RelV x u:=by
 cases r with
 |cons d e=>cases e;exact⟨_,rfl,d⟩
def vals2{x y:V}{us:List Value}(r:Vals [x,y] us):∃u w',us=[u,w']/\RelV x u/\RelV y w':=by
 cases r with
 |cons r1 r2 =>
  cases r2 with
  |cons d e=>cases e;exact⟨_,_,rfl,r1,d⟩
def uR:aQ X (.builtin "abs") (λxs H Q=>∃i,xs=[.int i]/\Q (.int (if i<0 then -i else i)) H):=by
 intro d s σ H xs us Q I r h;let⟨i,rfl,q⟩:=h;let⟨u,rfl,t,rfl⟩:=vals1 r;exact call_abs_int λu tk=>⟨.int (if i<0 then -i else i),H,I.tok _,⟨_,rfl⟩,q⟩
def Jl(hc:X.calm=true):aQ X (.builtin "max") (λxs H Q=>∃i j,xs=[.int i,.int j]/\Q (.int (if j > i then j else i)) H):=by
 intro e s σ H xs us Q I r h;let⟨i,j,rfl,q⟩:=h;let⟨u,f,rfl,⟨t,rfl⟩,⟨t',rfl⟩⟩:=vals2 r;refine max_two_ints (I.ok.hd hc) λh' tk k=>⟨_,H,I.kept k,?_,q⟩
 by_cases d:j > i
 ·rw[eD d,eD d];exact⟨_,rfl⟩
 ·rw[eH d,eH d];exact⟨_,rfl⟩
def Jm:aQ X (.type "int") (λxs H Q=>(∃i,xs=[.int i]/\Q (.int i) H)\/∃k,xs=[.bl k]/\Q (.int (if k then 1 else 0)) H):=by
 intro d s σ H xs us Q I r h;rcases h with⟨i,rfl,q⟩|⟨k,rfl,q⟩
 ·let⟨u,rfl,t,rfl⟩:=vals1 r;exact call_int_int ⟨.int i,H,I,⟨_,rfl⟩,q⟩
 ·let⟨u,rfl,e⟩:=vals1 r;cases e;exact call_int_bool ⟨.int (if k then 1 else 0),H,I.tok _,⟨_,rfl⟩,q⟩
def yL:aQ X (.type "str") (λxs H Q=>∃i,xs=[.int i]/\i.natAbs.log2<1920/\Q (.str (toString i)) H):=by
 intro d s σ H xs us Q I r h;let⟨i,rfl,e,q⟩:=h;let⟨u,rfl,t,rfl⟩:=vals1 r;exact PySem.P.str_of_int e ⟨.str _,H,I.tok _,⟨_,rfl⟩,q⟩
end
structure ObjM(h:Zi)(x dx C:Addr)(mA:Str->Option Value):Prop where
 obj:h.get? x=some (W.instObj C dx)
 ns:h.Ns1 dx mA
 ne:dx≠x
def Il{h:Zi}{c:Addr}{d:Str->Option Value}(n:h.Ns1 c d):∃od,h.get? c=some od/\∀name,W.lookIn name od=some (d name):=by
 let⟨o,es,ep,g,hd,hk,_,hm⟩:=n;refine⟨o,g,λname=>?_⟩;have e:=hm name;unfold nsFind findBy at e;rw[←Array.find?_toList]at e;unfold W.lookIn;rw[hd];dsimp only;split
 ·rename_i y q;rw[q]at e;exact eJ some e
 ·rename_i q;rw[q]at e;have a:es.toList.any (·.refKey)=false:=by
   rw[List.any_eq_false];intro y i;let⟨z,t,b⟩:=hk y (Array.mem_toList_iff.mp i);simp[DictEntry.refKey,b]
  have f:¬es.toList.any (·.refKey)=true:=by rw[a];exact Ð
  rw[eH f];exact eJ some e
def ObjM.look{h:Zi}{x a C:Addr}{b:Str->Option Value}(I:ObjM h x a C b):∃od,W.InstAt h x (W.instObj C a) C (some od)/\∀name,W.lookIn name od=some (b name) :=
 let⟨od,ho,hl⟩:=Il I.ns
 ⟨od,⟨I.obj,rfl,rfl,ho⟩,hl⟩
section
variable{prog:Zc}{w:Zd}{A:Zt}{E:eQ}{s:Shared}{K:ã}{x dx C f:Addr}{mA:Str->Option Value}{name:Str}{v:Value}
end
def uW.some_of{v:V}{o:Option Value}(r:uW (some v) o):∃u,o=some u/\RelV v u:=by
 cases o with
 |none=>exact(show False from r).elim
 |some u=>exact⟨u,rfl,r⟩
section
variable{P:Zc}{w:Zd}{H H':Hp}{h h':Zi}{a C dx:Addr}{fs fs':List (Str×V)}
def QG(b:HOk P w H h)(e:H a=some (.ins C dx fs)):∃mA,ObjM h a dx C mA/\(∀f,uW (fs.lookup f) (mA f))/\PySem.Within mA (fs.map (·.1))/\⇑fs<=1000/\H dx=some (.own a):=by
 let⟨d,z,c,g,mA,n,r,q⟩:=(show bf P w H h a (.ins C dx fs)from b a _ e)
 exact⟨mA,⟨g,n,c⟩,r,q,z,d⟩
end
structure Cls(K:ã)(C:Addr):Prop where
 pg:W.plainGet K C Str.empty=true
 hd:W.hasDictIn K C=true
 po:W.plainOver K C=true
 sa:W.findIn K (.ref C) "__setattr__"=some (some (.builtin "object.__setattr__"))
def Cls.get{K:ã}{C:Addr}(c:Cls K C)(f:Str):W.plainGet K C f=true:=c.pg
structure Con(K:ã)(C:Addr)(f:Str)(v:V)(u:Value):Prop where
 at_:W.findIn K (.ref C) f=some (some u)
 rel:RelV v u
 get:W.specialIn K u "__get__"=some none
 cp:W.copiedNames.contains f=false
structure Meth(K:ã)(C:Addr)(m:Str)(f:Addr):Prop where
 at_:W.findIn K (.ref C) m=some (some (.ref f))
 fn:W.isFn K (.ref f)=true
 kp:W.keepIn K (.ref f)=true
section
variable{X:Cx}{pins:List (Addr×Obj)}{σ:St}{H:Hp}{s:Shared}{a C dx:Addr}{fs:List (Str×V)}{f:Str}{v:V}{A:Zt}{E:eQ}
end
section
variable{X:Cx}{o e value:Zv}{f:Str}{pos pos' tpos:Pos}{ta tv:TE}
end
section
variable{X:Cx}{pins:List (Addr×Obj)}{σ:St}{H:Hp}{s:Shared}{A:Zt}{E:eQ}{Q:eQ}{c:Value}{b:Bool}
inductive TyOf(K:ã)(H:Hp):V->Value->Prop where
 |non:TyOf K H .non (.type "NoneType")
 |bl (x:Bool):TyOf K H (.bl x) (.type "bool")
 |int (i:Int):TyOf K H (.int i) (.type "int")
 |str (x:Str):TyOf K H (.str x) (.type "str")
 |flt (x:UInt64):TyOf K H (.flt x) (.type "float")
 |lst {a:Addr}{xs:List V} (e:H a=some (.lst xs)):TyOf K H (.ref a) (.type "list")
 |frz {a:Addr}{o:Obj}{xs:List V} (e:H a=some (.frz o (.lst xs))):TyOf K H (.ref a) (.type "list")
 |tup {a:Addr}{xs:List V} (e:H a=some (.tup xs)):TyOf K H (.ref a) (.type "tuple")
 |dK {a:Addr}{kvs:List (Key×V)} (e:H a=some (.dK kvs)):TyOf K H (.ref a) (.type "dict")
 |dT {a:Addr}{kvs:List (List Key×V)} (e:H a=some (.dT kvs)):TyOf K H (.ref a) (.type "dict")
 |ins {a C dx:Addr}{fs:List (Str×V)} (e:H a=some (.ins C dx fs)) (cl:Cls K C) (ha:W.findIn K (.ref C) "__class__"=some (some (.builtin "object.__class__")))
   (hn:W.specialIn K (.builtin "object.__class__") "__get__"=some (some (.builtin "getset_descriptor.__get__"))) (htk:W.takesIn K (.builtin "object.__class__")=some true)
   (hm:W.mroIn K C (.type "object")=some true):TyOf K H (.ref a) (.ref C)
def Iz{x:V}{u t:Value}(I:Inv X pins σ H s)(d:RelV x u)(ty:TyOf X.K H x t)(e:W.kitOne X.K t c=some b)(h:∀tk,Q (.bool b) { s with toks:=tk }) :
  wpAny (model X.prog X.w) A (YI (.builtin "isinstance") [u,c]) Q E s:=by
 cases ty with
 |non=>cases (show u=ľ from d);exact W.kia_one W.kitx_none I.kIn True.intro e (λz=>nomatch z) h
 |bl y=>cases (show u=Value.bool y from d);exact W.kia_one W.kitx_bool I.kIn True.intro e (λz=>nomatch z) h
 |int i=>let⟨t,q⟩:=(show ∃t,u=ś i t from d);cases q;exact W.kia_one W.kitx_int I.kIn True.intro e (λz=>nomatch z) h
 |str y=>let⟨t,q⟩:=(show ∃t,u=Value.str y t from d);cases q;exact W.kia_one W.kitx_str I.kIn True.intro e (λz=>nomatch z) h
 |flt y=>let⟨t,q⟩:=(show ∃t,u=Value.float y t from d);cases q;exact W.kia_one W.kitx_float I.kIn True.intro e (λz=>nomatch z) h
 |@lst a xs ea =>
  cases (show u=ĥ a from d);let⟨_,_,n,_,h1⟩:=(show bf X.prog X.w H s.heap a (.lst xs)from I.hok a _ ea)
  exact W.kia_one W.kitx_list I.kIn ⟨_,h1,rfl⟩ e (λz=>nomatch z) h
 |@frz a ob xs ea =>
  cases (show u=ĥ a from d);let⟨_,_,_,n,_,h1⟩:=(show bf X.prog X.w H s.heap a (.frz ob (.lst xs))from I.hok a _ ea)
  exact W.kia_one W.kitx_list I.kIn ⟨_,h1,rfl⟩ e (λz=>nomatch z) h
 |@tup a xs ea =>
  cases (show u=ĥ a from d);let⟨_,_,_,p⟩:=(show bf X.prog X.w H s.heap a (.tup xs)from I.hok a _ ea)
  let⟨o,h1,h2,_⟩:=p;exact W.kia_one W.kitx_tuple I.kIn ⟨o,h1,h2⟩ e (λz=>nomatch z) h
 |@dK a kvs ea =>
  cases (show u=ĥ a from d);let⟨_,_,vs,_,p⟩:=(show bf X.prog X.w H s.heap a (.dK kvs)from I.hok a _ ea)
  let⟨o,es,ep,h1,h2,_⟩:=p;exact W.kia_one W.kitx_dict I.kIn ⟨o,h1,h2.1⟩ e (λz=>nomatch z) h
 |@dT a kvs ea =>
  cases (show u=ĥ a from d);let⟨_,_,xs,_,o,es,ep,h1,h2,_⟩:=(show bf X.prog X.w H s.heap a (.dT kvs)from I.hok a _ ea)
  exact W.kia_one W.kitx_dict I.kIn ⟨o,h1,h2.1⟩ e (λz=>nomatch z) h
 |@ins a C dx fs ea cl ha hn htk hm =>
  cases (show u=ĥ a from d);let⟨f,O,_⟩:=QG I.hok ea;let⟨g,J,_⟩:=O.look;exact W.kia_one (W.kitx_own (cl.get _) cl.hd ha hn htk hm) I.kIn J e (λz=>nomatch z) h
end
structure Room(k:Nat)(A:Zt):Prop where
 hd:A.handled=none
 dp:A.depth+3 * k+5<YU
 un:A.units+16 * k+200<YV
 gd:A.guards=some []
def Room.mono{j k:Nat}{A:Zt}(r:Room k A)(h:j<=k):Room j A:=⟨r.hd,by have:=r.dp;lia,by have:=r.un;lia,r.gd⟩
def Room.deeper{k:Nat}{A:Zt}(r:Room (k+1) A)(env:Env):Room k (A.deeper env) :=
 ⟨r.hd,by have:=r.dp;show A.depth+1+3 * k+5<_;lia,by have:=r.un;show A.units+3+16 * k+200<_;lia,r.gd⟩
def Room.depth{k:Nat}{A:Zt}(r:Room k A):A.depth<YU:=by have:=r.dp;lia
def Room.units{k:Nat}{A:Zt}(r:Room k A):A.units+64<YV:=by have:=r.un;lia
def Td:TA:=λ_ H Q=>Q [] H
def zG(a:TE)(b:TA):TA:=λσ H Q=>a σ H λx H1=>b σ H1 λxs H2=>Q (x::xs) H2
section
variable{X:Cx}{e:Zv}{es:List Zv}{te:TE}{t:TA}{pos:Pos}
def eY:PA X [] Td:=λ_ _ _ _ H Q I h=>Calls.spliced_nil ⟨[],H,I,.nil,h⟩
def bU(ha:PE X e te)(hr:PA X es t)(hs:Zw (e::es) X.env=(false,Zx e X.env)::Zw es X.env:=by rfl):PA X (e::es) (zG te t):=by
 intro pos a s σ H Q I h;rw[hs];show wpAny _ _ (spliced ((false,Zx e X.env)::Zy pos (Zw es X.env))) _ _ s;refine Calls.spliced_cons (thn (ha a s σ H _ I h) λu s1 ⟨x,H1,I1,r1,q1⟩=>?_);exact thn (hr pos a s1 σ H1 _ I1 q1) λus s2 ⟨xs,H2,I2,r2,q2⟩=>⟨x::xs,H2,I2,.cons r1 r2,q2⟩
def Yt(t:TA):TE:=λσ H Q=>t σ H λxs H1=>⇑xs<=sizeLine/\∀p,H1 p=none->Q (.ref p) (upd H1 p (.tup xs))
def Tf(t:TA):TE:=λσ H Q=>t σ H λxs H1=>⇑xs<=sizeLine/\∀p,H1 p=none->Q (.ref p) (upd H1 p (.lst xs))
def Ud{x1}(h:PA X es t):PE X (.Tuple es x1 pos) (Yt t):=by
 intro a s σ H Q I d;refine wpAny_Tuple_spliced (thn (h pos a s σ H _ I d) λus s1 ⟨xs,H1,I1,r,z,q⟩=>⟨by rw[←⇑r];exact z,?_⟩);have c:H1 ↥s1=none:=I1.hok.fresh (Õ _);refine⟨.ref ↥s1,upd H1 ↥s1 (.tup xs),I1.laid (t':=s1.toks) (λb u e=>Ò _ e) (Õ _) ?_,rfl,q _ c⟩;exact⟨z,us,r,⟨_,è _ rfl,rfl,_,rfl⟩⟩
def Dc(h:PA X es t):PE X (.List es pos) (Tf t):=by
 intro a s σ H Q I d;refine wpAny_List_spliced (thn (h pos a s σ H _ I d) λus s1 ⟨xs,H1,I1,r,z,q⟩=>⟨by rw[←⇑r];exact z,?_⟩);have c:H1 ↥s1=none:=I1.hok.fresh (Õ _);refine⟨.ref ↥s1,upd H1 ↥s1 (.lst xs),I1.laid (t':=s1.toks) (λb u e=>Ò _ e) (Õ _) ?_,rfl,q _ c⟩;exact⟨z,us,0,r,è _ rfl⟩
end
abbrev Sp:=List V->Hp->VK->XK->Prop
abbrev CXT:=List Env->Hp->Shared->XK->eQ
structure Env0(P:Zc)(w:Zd)(K:ã)(mg:Str->Option Value)(base:Zi)(A:Zt)(outer:List Env)(s:Shared)(H:Hp):Prop where
 frames:A.frames=some outer
 mod:Mod K mg base
 bs:∀b o,base.get? b=some o->s.heap.get? b=some o/\H b=none
 bsz:base.objs.size<=↥s
 ur:s.heap.FunFrames base outer
 frf:∀b∈frs outer,H b=none
 hok:HOk P w H s.heap
 bare:ZD s.gens
def CE(a:List Env)(P:Zc)(w:Zd)(H:Hp)(s:Shared)(Q:VK)(u:Value)(b:Shared):Prop :=
 ∃v H',b.os=s.os/\ZD b.gens/\Un (frs a) [] H H' s.heap b.heap/\HOk P w H' b.heap/\RelV v u/\Q v H'
def CR(CX:CXT)(a:List Env)(P:Zc)(w:Zd)(H:Hp)(s:Shared)(Q:VK)(E:XK)(r:Result)(b:Shared):Prop :=
 match r with
 |.ok (.ret u)=>CE a P w H s Q u b
 |.ok _=>False
 |.error e=>CX a H s E e b
structure FnOk(P:Zc)(w:Zd)(K:ã)(mg:Str->Option Value)(base:Zi)(CX:CXT)(k:Nat)(f:Addr)(fd:YY)(ps:List Str)(sp:Sp):Prop where
 len:∀vs H Q E,sp vs H Q E->⇑vs=⇑ps
 run:∀(A:Zt)(outer:List Env)(s:Shared)(H:Hp)(args:Args)(us:List Value)(vs:List V)(Q:VK)(E:XK),Room k A->Env0 P w K mg base A outer s H->Y1 s fd args (ps.zip us)->Vals vs us->sp vs H Q E ->
  Y2 (model P w) A (.call (.ref f) args) (CR CX outer P w H s Q E) s
def FnOk.imp{P:Zc}{w:Zd}{K:ã}{c:Str->Option Value}{base:Zi}{CX:CXT}{k:Nat}{f:Addr}{b:YY}{ps:List Str}{sp a:Sp}(F:FnOk P w K c base CX k f b ps sp)(h:∀vs H Q E,a vs H Q E->sp vs H Q E):FnOk P w K c base CX k f b ps a :=
 ⟨λvs H Q E q=>F.len vs H Q E (h _ _ _ _ q),λA outer s H args us vs Q E hr he hb hv hs=>F.run A outer s H args us vs Q E hr he hb hv (h _ _ _ _ hs)⟩
section
variable{X:Cx}{pins:List (Addr×Obj)}{σ:St}{H:Hp}{s s':Shared}
def Inv.env0(I:Inv X pins σ H s):Env0 X.prog X.w X.K X.mg X.base X.A X.stack s H :=
 ⟨I.ok.frames,I.ok.mod,I.bs,þ I.ok.bsz I.sz,I.stack,I.FP,I.hok,I.bare⟩
def Inv.after{Q:VK}{u:Value}(I:Inv X pins σ H s)(h:CE X.stack X.prog X.w H s Q u s'):EP X pins σ Q u s':=by
 let⟨v,f,i,a,j,c,r,q⟩:=h;let⟨hh,g,d,t,e⟩:=s';obtain rfl:e=s.os:=i;exact⟨v,f,I.call (h':=hh) (g':=g) (d':=d) (t':=t) (ch:=[]) j c a (λb z=>eI z (by simp)),r,q⟩
end
def Fz(sp:Sp)(a:List V)(E:XK)(t:TA):TE:=λσ H Q=>t σ H λvs H1=>sp (vs++a) H1 Q E
def Binds(K:ã)(a:YY)(ps:List Str)(ds:List Value):Prop :=
 ∀(s:Shared)(us:List Value),K.In s.heap->⇑(us++ds)=⇑ps->Y1 s a ⟨us,[]⟩ (ps.zip (us++ds))
def Binds.all{K:ã}{a:YY}{ps:List Str}(h:∀us:List Value,⇑us=⇑ps->bindArgs a ⟨us,[]⟩=pure (ps.zip us)):Binds K a ps []:=λs us _ hl=>by
 rw[ě]at hl ⊢;exact .of_eq (h us hl)
def Passes(CX:CXT)(X:Cx)(E:XK):Prop:=∀(pins:List (Addr×Obj))(σ:St)(H:Hp)(s:Shared)(e:Value)(s':Shared),Inv X pins σ H s->CX X.stack H s E e s'->X.xe e s'
section
variable{X:Cx}{CX:CXT}{k:Nat}{f C:Addr}{fd:YY}{ps:List Str}{sp:Sp}{dvs:List V}{ds:List Value}{E:XK}{x m:Str}{p pos apos:Pos}{e o:Zv}{es:List Zv}{ta:TE}{t:TA}
def Tr{a:List (Addr×Obj)}{σ:St}{H:Hp}{s:Shared}{Q:VK}{us:List Value}{vs:List V}(F:FnOk X.prog X.w X.K X.mg X.base CX k f fd ps sp)(hr:Room k X.A)(hb:Binds X.K fd ps ds)(hd:Vals dvs ds)(c:Passes CX X E)(I:Inv X a σ H s)(r:Vals vs us)(h:sp (vs++dvs) H Q E):wpAny (model X.prog X.w) X.A (YI (.ref f) us) (EP X a σ Q) X.xe s:=by
 have b:Vals (vs++dvs) (us++ds):=r.append hd;have hl:⇑(us++ds)=⇑ps:=by rw[←⇑b];exact F.len _ _ _ _ h
 refine wpAny_call (Y3 (F.run X.A X.stack s H ⟨us,[]⟩ (us++ds) (vs++dvs) Q E hr I.env0 (hb s us I.kIn hl) b h) λr s' hq=>?_);cases r with
 |error e=>exact c a σ H s e s' I hq
 |ok fl =>
  cases fl with
  |ret u=>exact I.after hq
  |next=>exact Ÿ hq
  |brk=>exact Ÿ hq
  |cont=>exact Ÿ hq
def PJ(F:FnOk X.prog X.w X.K X.mg X.base CX k f fd ps sp)(hr:Room k X.A)(hg:Gl X x)(hm:X.mg x=some (.ref f))(hk:W.keepIn X.K (.ref f)=true)(hb:Binds X.K fd ps ds)(hd:Vals dvs ds)(b:Passes CX X E)(ha:PA X (e::es) t)(hdb:(x==("__debug__":Str))=false:=by decide)(he:Zw (e::es) X.env=(false,Zx e X.env)::Zw es X.env:=by rfl)(hpl:(Zy pos (Zw es X.env)).any (·.1)=false:=by rfl) :
  PE X (.Call (.Name x p) (e::es) [] pos) (Fz sp dvs E t):=by
 intro a s σ H Q I h;refine ų (Qq I hg hm ?_ hdb);refine W.callWith_K (h₀:=X.base) I.ok.mod.kin hk (thn (ha pos a s σ H _ I h) λus s1 ⟨vs,H1,I1,r,q⟩=>⟨I1.kIn,?_⟩) he hpl;exact Tr F hr hb hd b I1 r q
structure Mk(K:ã)(C f:Addr):Prop where
 makes:W.makesIn K C=true
 init:W.findIn K (.ref C) "__init__"=some (some (.ref f))
 fn:W.isFn K (.ref f)=true
 kp:W.keepIn K (.ref C)=true
end
section
variable{X:Cx}{CX:CXT}{k:Nat}{f C:Addr}{fd:YY}{ps ks:List Str}{sp:Sp}{E:XK}{x m:Str}{p pos apos kpos:Pos}{e o:Zv}{es:List Zv}{kws:List ZC}{te ta:TE}{t tk:TA}{nm:Option Str}
structure KBinds(K:ã)(fd:YY)(ps ks:List Str)(g:List Value->List Value->List Value)(gV:List V->List V->List V):Prop where
 to:∀(s:Shared)(us ws:List Value),K.In s.heap->⇑(g us ws)=⇑ps->Y1 s fd ⟨us,ks.zip ws⟩ (ps.zip (g us ws))
 rel:∀{vs:List V}{us:List Value}{zs:List V}{ws:List Value},Vals vs us->Vals zs ws->Vals (gV vs zs) (g us ws)
variable{g:List Value->List Value->List Value}{gV:List V->List V->List V}
end
structure FnScope(N P:List Str)(sc:Zu):Prop where
 kind:sc.kind=.function
 co:sc.isCoroutine=false
 gen:sc.isGenerator=false
 nd:N.Nodup
 pre:N.take ⇑P=P
 par:∀x∈P,sc.names.lookup x=some .local\/sc.names.lookup x=some .cell
 nofree:∀y∈sc.names,y.2≠.free
def zC{N P:List Str}{sc:Zu}(a:sc.kind=.function:=by rfl)(b:sc.isCoroutine=false:=by rfl)(c:sc.isGenerator=false:=by rfl)(d:N.Nodup:=by decide +kernel)(e:N.take ⇑P=P:=by rfl)(f:∀x∈P,sc.names.lookup x=some .local\/sc.names.lookup x=some .cell:=by decide +kernel)(g:∀y∈sc.names,y.2≠.free:=by decide +kernel):FnScope N P sc:=⟨a,b,c,d,e,f,g⟩
theorem v7{b:Str->Option NameKind}{x:Str}:∀{a:List (Str×Value)}{m:Str->Option Value},(∀v,(x,v)∉a)->Xs b a m x=m x
 |[],_,_=>rfl
 |(n,v)::r,m,h=>by
  unfold Xs;rw[v7 λw hw=>h w (É _ hw)];split
  ·have:x≠n:=by rintro rfl;exact h v Í
   simp[this]
  ·rfl
theorem wg{b:Str->Option NameKind}{x:Str}:∀{a:List (Str×Value)}{m:Str->Option Value},(∀v,(x,v)∉a)->XA b a m x=m x
 |[],_,_=>rfl
 |(n,v)::r,m,h=>by
  unfold XA;rw[wg λw hw=>h w (É _ hw)];split
  ·rfl
  ·have:x≠n:=by rintro rfl;exact h v Í
   simp[this]
theorem v9{a:Str->Option NameKind}{x:Str}{v:Value}:∀{P:List Str}{vs:List Value}{i:Nat}{m:Str->Option Value},P.Nodup->P[i]?=some x->vs[i]?=some v->a x=some .local ->
  Xs a (P.zip vs) m x=some v
 |[],_,_,_,_,h,_,_=>by simp at h
 |_::_,[],_,_,_,_,h,_=>by simp at h
 |p::P,w::vs,0,m,nd,h1,h2,hk=>by
  simp at h1 h2;subst h1;subst h2;show Xs a ((p,w)::P.zip vs) m p=_;unfold Xs;rw[v7 λv hv=>(Š.mp nd).1 (List.of_mem_zip hv).1,eD hk];simp
 |p::P,w::vs,i+1,m,nd,h1,h2,hk=>by
  show Xs a ((p,w)::P.zip vs) m x=_;unfold Xs;exact v9 (i:=i) (Š.mp nd).2 (by simpa using h1) (by simpa using h2) hk
theorem wj{a:Str->Option NameKind}{x:Str}{v:Value}:∀{P:List Str}{vs:List Value}{i:Nat}{m:Str->Option Value},P.Nodup->P[i]?=some x->vs[i]?=some v->a x≠some .local ->
  XA a (P.zip vs) m x=some v
 |[],_,_,_,_,h,_,_=>by simp at h
 |_::_,[],_,_,_,_,h,_=>by simp at h
 |p::P,w::vs,0,m,nd,h1,h2,hk=>by
  simp at h1 h2;subst h1;subst h2;show XA a ((p,w)::P.zip vs) m p=_;unfold XA;rw[wg λv hv=>(Š.mp nd).1 (List.of_mem_zip hv).1,eH hk];simp
 |p::P,w::vs,i+1,m,nd,h1,h2,hk=>by
  show XA a ((p,w)::P.zip vs) m x=_;unfold XA;exact wj (i:=i) (Š.mp nd).2 (by simpa using h1) (by simpa using h2) hk
def start(N:List Str)(vs:List V):St:=vs.map some++Ú (⇑N - ⇑vs) none
def Fb(CX:CXT)(P:Zc)(w:Zd)(K:ã)(mg:Str->Option Value)(base:Zi)(N:List Str)(qual:Str)(scope:Zu)(f:Addr)(cd:Value)(A:Zt)(outer:List Env)(s:Shared)(H:Hp)(E:XK):Cx where
 prog:=P
 w:=w
 K:=K
 mg:=mg
 base:=base
 A:=A.deeper (XB qual scope ↥s f cd)
 N:=N
 s₀:=s
 H₀:=H
 env:=XB qual scope ↥s f cd
 outer:=outer
 stack:=XB qual scope ↥s f cd::outer
 ex:=[]
 calm:=true
 fn:=λ_=>true
 pn:=[]
 xe:=λe s'=>wpAny (model P w) (A.deeper (XB qual scope ↥s f cd)) (leaving (XB qual scope ↥s f cd) e) (λ_ s''=>CX outer H s E e s'') (λe' s''=>CX outer H s E e' s'') s'
def BJ{sc:Zu}{n:Nat}{x:Str}(h:sc.names.lookup x=some .cell):∃c,(cellsFrom n sc.names []).lookup x=some c:=by
 have q:=W.cellsFrom_some sc.names n [] (.inl h);exact Option.isSome_iff_exists.mp q
def IK{CX:CXT}{P:Zc}{w:Zd}{K:ã}{C:Str->Option Value}{base:Zi}{N ps:List Str}{j:Str}{d:Zu}{f:Addr}{B:Value}{A:Zt}{g:List Env}{s D:Shared}{H:Hp}{E:XK}{us:List Value}{vs:List V}(S:FnScope N ps d)(hd:A.handled=none)(l:Env0 P w K C base A g s H)(hl:⇑vs=⇑ps)(r:Vals vs us)(x:InCallC s ↥s (Xs (XB j d ↥s f B).kindOf (ps.zip us) λ_=>none) (cellsFrom (↥s+1) d.names []) (XA (XB j d ↥s f B).kindOf (ps.zip us) λ_=>none) D) :
  Inv (Fb CX P w K C base N j d f B A g s H E) [] (start N vs) H D:=by
 have hpl:⇑ps<=⇑N:=by have:=eJ List.length S.pre;rw[Ě]at this;lia
 let⟨h1,tk,rfl,hk⟩:=x.done;have o:∀b:Addr,b∉(Fb CX P w K C base N j d f B A g s H E).ex:=λb z=>eI (show b∈([]:List Addr)from z) (by simp);refine⟨⟨l.mod,S.kind,rfl,rfl,Õ _,λy z c h1 h2=>?_,λy m=>?_,λy c _ h=>?_,λ_=>hd,Around.frames_deeper l.frames,.inr ⟨rfl,rfl⟩,λb z=>eI z (o b),l.bs,l.bsz,λb _ _=>o b,λb z=>eI z (o b),l.ur,l.frf,λq z=>nomatch (show q∈([]:List (Addr×Obj×HO))from z)⟩,
  rfl,l.bare,Un.kept hk,⟨_,x.toInCall.ns,λi y v h1 h2 h3=>?_⟩,λy c h=>⟨_,x.cell y c h⟩,l.hok.fresh (Õ _),λy c h=>?_,λp hp=>eI (show p∈([]:List (Addr×Obj))from hp) (by simp),l.hok.kept hk,?_⟩
 ·exact name_of_addr x.apart (ţ h1) (ţ h2)
 ·have m:d.names.lookup y=some .cell\/d.names.lookup y=some .free:=m;rcases m with m|m
  ·exact BJ m
  ·exact eI rfl (S.nofree _ (ţ m))
 ·exact Nat.le_of_lt (x.above y c (ţ h))
 ·have hi:i<⇑vs:=by
   unfold start at h2;by_cases hi:i<⇑vs
   ·exact hi
   ·rw[Ā (by simpa using hi)]at h2;rw[List.getElem?_replicate]at h2;split at h2 <;> cases h2
  have ha:vs[i]?=some v:=by
   unfold start at h2;rw[ù (by simpa using hi),Ý]at h2;cases e:vs[i]? with
   |none=>rw[e]at h2;cases h2
   |some a=>rw[e]at h2;cases h2;rfl
  let⟨u,hu,F⟩:=r.get ha;have hp:ps[i]?=some y:=by
   rw[←S.pre,List.getElem?_take_of_lt ()];exact h1
  have t:ps.Nodup:=by rw[←S.pre];exact S.nd.sublist (List.take_sublist _ _)
  refine⟨u,F,?_⟩;rcases S.par y (Ì hp)with k|k
  ·exact .inl ⟨k,v9 t hp hu k⟩
  ·let⟨c,e⟩:=BJ (n:=↥s+1) k;refine .inr ⟨.inl k,c,e,?_⟩;have q:=x.cell y c e;rw[wj t hp hu (by show d.names.lookup y≠_;rw[k];decide)]at q;exact q
 ·exact l.hok.fresh (Nat.le_of_lt (x.above y c (ţ h)))
 ·unfold start;show _=⇑N;rw[Ñ,Ä,List.length_replicate];lia
def Xz{CX:CXT}{P:Zc}{w:Zd}{K:ã}{C:Str->Option Value}{base:Zi}{k:Nat}{f:Addr}{name d:Str}{h:XE}{i:List ZH}{a:Zu}{R kV p T g O Y:Value}{M Z:Option Addr}{F:Array (Option Value)}{N ps:List Str}{sp:Sp}(X:K.lookup f=some ⟨Y,Z,.func (W.fnOf name d h i a R kV p T M g O),F⟩)(hcd:W.codeIn K g d=true)(S:FnScope N ps a)(B:∀vs H Q E,sp vs H Q E->⇑vs=⇑ps)(l:∀(A:Zt)(c:List Env)(s:Shared)(H:Hp)(vs:List V)(Q:VK)(E:XK),Room k (A.deeper (XB d a ↥s f g))->sp vs H Q E ->
   ∃t,PSs (Fb CX P w K C base N d a f g A c s H E) i t/\t { nx:=λ_ H'=>Q .non H',rt:=Q } (start N vs) H) :
  FnOk P w K C base CX (k+1) f (W.fnOf name d h i a R kV p T M g O) ps sp:=by
 refine⟨B,λA c s H args us vs Q E hr e0 hb r hsp=>?_⟩;have hl:=B _ _ _ _ hsp;have L:K.In s.heap:=e0.mod.kin.keeps λb o e=>(e0.bs b o e).1;have D:s.heap.NoLimit:=e0.mod.nolimit.keeps λb o e=>(e0.bs b o e).1;have m:∀y∈ps.zip us,a.names.lookup y.1=some .local\/(a.names.lookup y.1=some .cell/\((cellsFrom (↥s+1) a.names []).lookup y.1).isSome=true):=λ⟨n,v⟩ hy=>by
  rcases S.par n (List.of_mem_zip hy).1 with q|q
  ·exact .inl q
  ·exact .inr ⟨q,W.cellsFrom_some _ _ _ (.inl q)⟩
 refine codeAny_call_function hr.depth (L _ _ X) rfl S.co S.gen rfl (W.codeRec_of L hcd) (hb _ _ _ _ ?_);refine wpAny_newFunctionEnv_cells S.kind m λenv he s1 x=>?_;subst he;refine⟨D.keeps x.toInCall.keep,codeAny_func ?_⟩;let⟨t,ht,U⟩:=l A c s H vs Q E (hr.deeper _) hsp;have I:Inv (Fb CX P w K C base N d a f g A c s H E) [] (start N vs) H s1:=IK S hr.hd e0 hl r x;refine ř (ht [] s1 (start N vs) H _ I U) (λfl s' hs=>?_) λe s' hs=>hs;have z:∀{j:St}{H':Hp}{v:V}{u:Value},Inv (Fb CX P w K C base N d a f g A c s H E) [] j H' s'->RelV v u->Q v H'->CE c P w H s Q u s' :=
  λ{j H' v u} J G q=>⟨v,H',J.os,J.bare,J.base,J.hok,G,q⟩
 cases fl with
 |ret u =>
  let⟨v,j,H',J,G,q⟩:=hs;exact z J G q
 |next =>
  let⟨j,H',J,q⟩:=hs;exact z (v:=V.non) (u:=ľ) J rfl q
 |brk =>
  let⟨_,_,_,q⟩:=hs;exact Ÿ q
 |cont =>
  let⟨_,_,_,q⟩:=hs;exact Ÿ q
section
variable{X:Cx}{x:Str}{p pos:Pos}{e:Zv}{es:List Zv}{t:TA}{id T:String}{r:List V->Hp->VK->Prop}
def tCB(r:List V->Hp->VK->Prop)(t:TA):TE:=λσ H Q=>t σ H λvs H1=>r vs H1 Q
def dg(hc:aQ X (.builtin id) r)(hg:Gl X x)(hm:X.mg x=none)(hv:Zs x=some (.builtin id))(ha:PA X (e::es) t)(hn:x≠"__name__":=by decide)(hdb:(x==("__debug__":Str))=false:=by decide)(he:Zw (e::es) X.env=(false,Zx e X.env)::Zw es X.env:=by rfl)(hpl:(Zy pos (Zw es X.env)).any (·.1)=false:=by rfl):PE X (.Call (.Name x p) (e::es) [] pos) (tCB r t):=by
 intro a s σ H Q I h;refine ų (d7 I hg hm hv ?_ hn hdb);exact PyProof.Rows.callWith_builtin1 (thn (ha pos a s σ H _ I h) λus s1 ⟨vs,H1,I1,r1,q1⟩=>hc a s1 σ H1 vs us Q I1 r1 q1) he hpl
def vC(hc:aQ X (.type T) r)(hg:Gl X x)(hm:X.mg x=none)(hv:Zs x=some (.type T))(ha:PA X (e::es) t)(hn:x≠"__name__":=by decide)(hdb:(x==("__debug__":Str))=false:=by decide)(he:Zw (e::es) X.env=(false,Zx e X.env)::Zw es X.env:=by rfl)(hpl:(Zy pos (Zw es X.env)).any (·.1)=false:=by rfl):PE X (.Call (.Name x p) (e::es) [] pos) (tCB r t):=by
 intro a s σ H Q I h;refine ų (d7 I hg hm hv ?_ hn hdb);exact Č (thn (ha pos a s σ H _ I h) λus s1 ⟨vs,H1,I1,r1,q1⟩=>hc a s1 σ H1 vs us Q I1 r1 q1) he hpl
end
end L2
namespace HT
open PySem PyProof.Rows
section
open PySem.SeqAt
open PySem.AutoSeq1 (wpAny_loadPart')
open PySem.MeetsSeq PySem.MeetsSeq2 PySem.MeetsSeq3
end
section
variable{prog:Zc}{w:Zd}{A:Zt}{E:eQ}{s:Shared}
def Q8{t b:Addr}{vs a:List Value}{Q:eQ}(ht:IsTup s.heap t vs.toArray)(hb:IsTup s.heap b a.toArray)(hv:vs≠[])(h1:a=[]->Q (.ref t) s)(h2:a≠[]->Q (.ref ↥s) { s with heap:=s.heap.push { cls:=.type "tuple",data:=.seq (vs++a).toArray }})(hsz:⇑vs+⇑a<=sizeLine):wpAny (model prog w) A (YN .Add (.ref t) (.ref b)) Q E s:=by
 let⟨⟨cls,m,data,p⟩,i,hc,n,hd⟩:=id ht;let⟨⟨l,d,k,h⟩,c,f,o,g⟩:=id hb;simp only at hc hd f g;subst hc hd f g;have e:vs.toArray++a.toArray=(vs++a).toArray:=by simp
 by_cases j:a=[]
 ·exact concat_meets ⟨_,i,rfl⟩ ⟨_,c,rfl⟩ XG XI PySem.F.slot_tuple_add PySem.F.entry_tuple_add (PySem.F.args_tuple_add_2 _ _)
   (tuple_addW1 t b vs.toArray a.toArray n o m d p h (by simpa using hv) (by simp[j])) ⟨i,c,h1 j⟩
 ·refine concat_meets ⟨_,i,rfl⟩ ⟨_,c,rfl⟩ XG XI PySem.F.slot_tuple_add PySem.F.entry_tuple_add (PySem.F.args_tuple_add_2 _ _)
   (tuple_addW2 t b vs.toArray a.toArray n o m d p h (by simpa using hv) (by simpa using j) (by rw[Ø,Ø];exact hsz)) ⟨i,c,?_⟩
  rw[e];exact h2 j
def sIx(n d:Nat):Option Int->Nat
 |none=>d
 |some v=>if v<0 then(v+(n:Int)).toNat else min v.toNat n
def jH(n d k:Nat):sIx n d (some (k:Int))=min k n:=by
 show(if(k:Int)<0 then((k:Int)+(n:Int)).toNat else min (k:Int).toNat n)=min k n;rw[eH (),ķ]
def Tq(n d:Nat)(hd:d<=n)(o:Option Int):sIx n d o<=n:=by
 cases o with
 |none=>exact hd
 |some v =>
  show(if v<0 then(v+(n:Int)).toNat else min v.toNat n)<=n;by_cases hv:v<0
  ·rw[eD hv];lia
  ·rw[eH hv];exact Nat.min_le_right _ _
def Hr(v:Int)(n d:Nat):(if v<0 then max (v+(n:Int)) 0 else min v (n:Int))=((sIx n d (some v):Nat):Int):=by
 show(if v<0 then max (v+(n:Int)) 0 else min v (n:Int))=(((if v<0 then(v+(n:Int)).toNat else min v.toNat n):Nat):Int)
 by_cases hv:v<0
 ·simp only[eD hv];lia
 ·simp only[eH hv];lia
def Fq(a hi:Option Int)(n:Nat):Builtin.Slice.sliceAdjust a hi 1 (n:Int)=(((sIx n 0 a:Nat):Int),((sIx n n hi:Nat):Int)):=by
 have h1:¬((1:Int)<0):=()
 unfold Builtin.Slice.sliceAdjust;simp only[h1,if_false];refine Prod.ext ?_ ?_
 ·cases a with
  |none=>rfl
  |some v=>exact Hr v n 0
 ·cases hi with
  |none=>rfl
  |some v=>exact Hr v n n
def CZ(i j:Nat):Builtin.Slice.slicePlaces (i:Int) (j:Int) 1=j - i:=by
 unfold Builtin.Slice.slicePlaces;have h1:(1:Int) > 0:=()
 simp only[h1,if_true,Int.ediv_one];split <;> lia
def rN{v:Value}{o:Option Int}{Q:Option Int->Shared->Prop}(p:XN v o)(h:Q o s):wpAny (model prog w) A (Builtin.Slice.slicePartIndex v) Q E s:=by
 cases p with
 |none=>exact XO h
 |int i t=>exact slicePart_int h
def nZ{f:Addr}{d e:Value}{a hi:Option Int}{n:Nat}{Q:Int×Int×Nat->Shared->Prop}(hs:s.heap.IsSliceOf f d e .none)(i:XN d a)(j:XN e hi)(h:Q (((sIx n 0 a:Nat):Int),1,sIx n n hi - sIx n 0 a) s):wpAny (model prog w) A (Builtin.Slice.sliceApplied (.ref f) (pure (n:Int))) Q E s:=by
 let⟨k,c,g,b⟩:=id hs;unfold Builtin.Slice.sliceApplied Builtin.Slice.sliceFields;refine Æ (Æ (ž c b (x:=d) rfl (Æ (ž c b (x:=e) rfl (Æ (ž c b (x:=.none) rfl (Ù ?_)))))));refine Æ (XO ?_);show wpAny _ _ (if((1:Int)==0)=true then _ else _) _ _ s;rw[eH ∅];refine Æ (rN i (Æ (rN j (Æ (Ù ?_)))));show wpAny _ _ (match Builtin.Slice.sliceAdjust a hi 1 (n:Int)with|(a,hi)=>pure (a,(1:Int),Builtin.Slice.slicePlaces a hi 1)) _ _ s;rw[Fq a hi n];show wpAny _ _ (pure (((sIx n 0 a:Nat):Int),(1:Int),Builtin.Slice.slicePlaces ((sIx n 0 a:Nat):Int) ((sIx n n hi:Nat):Int) 1)) _ _ s;rw[CZ];exact Ù h
def KN(xs:Array Value)(i k:Nat):((ß k).filterMap λ(m:Nat)=>xs[((i:Int)+(m:Int) * 1).toNat]?).toArray=((xs.toList.drop i).take k).toArray:=by
 have e:(λ(m:Nat)=>xs[((i:Int)+(m:Int) * 1).toNat]?)=λm=>xs[i+m]?:=by
  funext m;have:((i:Int)+(m:Int) * 1).toNat=i+m:=()
  rw[this]
 rw[e];have:=pick_run xs i k;rw[List.filterMap_map]at this;have a:((λx=>xs[x]?) ∘ λx=>i+x)=λm=>xs[i+m]?:=rfl;rw[a]at this;rw[this]
def nu{t g:Addr}{items:Array Value}{i j:Value}{b hi:Option Int}{Q:eQ}(ht:IsTup s.heap t items)(hs:s.heap.IsSliceOf g i j .none)(o:XN i b)(p:XN j hi)(l:¬(sIx items.size 0 b=0/\sIx items.size items.size hi=items.size))(h:Q (.ref ↥s) { s with heap:=s.heap.push { cls:=.type "tuple",data:=.seq ((items.toList.drop (sIx items.size 0 b)).take (sIx items.size items.size hi - sIx items.size 0 b)).toArray }})(hsz:items.size<=sizeLine):wpAny (model prog w) A (XT (.ref t) (.ref g)) Q E s:=by
 have a:sizeOk (.seq ((items.toList.drop (sIx items.size 0 b)).take (sIx items.size items.size hi - sIx items.size 0 b)).toArray):=by
  show((items.toList.drop (sIx items.size 0 b)).take (sIx items.size items.size hi - sIx items.size 0 b)).toArray.size<=sizeLine;rw[Ø,Ě,œ,ğ];lia
 have r:sIx items.size items.size hi<=items.size:=Tq _ _ (Õ _) hi;let⟨n,f,d,k⟩:=id hs;have c:s.TypeIs (.ref g) "slice":=⟨n,f,d⟩
 unfold XT
 try with_reducible refine ġ ?_
 first|refine Æ (Ù ?_)|skip
 refine Æ (wpAny_sequenceKey ht.typeIs ∅ ?_);refine Æ (ŋ (name:=ũ "__getitem__") ht.typeIs PyProof.Rows.slot_tuple_getitem
  (Ł PyProof.Rows.slot_tuple_getitem ht.typeIs entry_tuple_getitem ?_ (args_tuple_getitem _ _)))
 show wpAny _ _ (Builtin.Tuple.tupleItemsOf (.ref t) >>=_) _ _ s;refine Æ (tupleItemsOf_ ht ?_);refine Æ (XU c ?_);rw[eD ∅];refine Æ (nZ hs o p ?_);have e:¬((((sIx items.size 0 b:Nat):Int)==0&&(1:Int)==1&&(sIx items.size items.size hi - sIx items.size 0 b)==items.size)=true):=by
  intro q;rw[Ï,Ï]at q;have u:((sIx items.size 0 b:Nat):Int)=0:=eP q.1.1;have v:sIx items.size items.size hi - sIx items.size 0 b=items.size:=eP q.2;exact l ⟨(),()⟩
 show wpAny _ _ (if(((sIx items.size 0 b:Nat):Int)==0&&(1:Int)==1&&(sIx items.size items.size hi - sIx items.size 0 b)==items.size)=true then _ else _) _ _ s;rw[eH e,KN]
 first
  |exact Æ (m:=Builtin.Tuple.tupleExact _) (ŧ (Ù ⟨_,rfl,Ù h⟩) a)
  |exact Æ (m:=Builtin.Tuple.tupleExact _) (ŧ (Æ (Ù (Ù ⟨_,rfl,Ù h⟩))) a)
  |exact Æ (Æ (m:=Builtin.Tuple.tupleExact _) (ŧ (Ù (Ù ⟨_,rfl,Ù h⟩)) a))
  |exact Æ (Æ (m:=Builtin.Tuple.tupleExact _) (ŧ (Ù ⟨_,rfl,Ù h⟩) a))
end
end HT
namespace L2
open PySem PySem.Spec PyProof.Rows
abbrev TO:=St->Hp->(Option Int->Hp->Prop)->Prop
def PO(X:Cx)(e:Option Zv)(t:TO):Prop :=
 ∀(pins:List (Addr×Obj))(s:Shared)(σ:St)(H:Hp)(Q:Option Int->Hp->Prop),Inv X pins σ H s->t σ H Q ->
  wpAny (model X.prog X.w) X.A (evalPart e X.env) (λu s'=>∃o H',Inv X pins σ H' s'/\XN u o/\Q o H') X.xe s
def Ot:TO:=λ_ H Q=>Q none H
def V8(t:TE):TO:=λσ H Q=>t σ H λx H1=>∃i,x=.int i/\Q (some i) H1
def intsAre_of{ns:List Int}:∀{us:List Value},Vals (ns.map V.int) us->IntsAre us ns:=by
 induction ns with
 |nil=>intro us r;rw[List.map_nil]at r;cases r;exact .nil
 |cons n ns ih =>
  intro us r;rw[ö]at r;cases r with
  |cons r1 r2 =>
   let⟨t,e⟩:=r1;subst e;exact .cons n t (ih r2)
section
variable{X:Cx}{e:Zv}{te:TE}{lo hi:Option Zv}{tl th:TO}{pos p2:Pos}
def Ph:PO X none Ot:=by
 intro a s σ H Q I h;rw[XV];exact Ù ⟨none,H,I,.none,h⟩
def Pg(h:PE X e te):PO X (some e) (V8 te):=by
 intro a s σ H Q I b;rw[XW];refine thn (h a s σ H _ I b) λu s1 ⟨x,H1,I1,r1,q1⟩=>?_;let⟨i,rfl,q⟩:=q1;let⟨t,rfl⟩:=r1;exact⟨some i,H1,I1,.int i t,q⟩
def SlR(X:Cx)(r:V->Option Int->Option Int->Hp->VK->Prop):Prop :=
 ∀(pins:List (Addr×Obj))(s:Shared)(σ:St)(H:Hp)(x:V)(v vl vu:Value)(lo hi:Option Int)(sl:Addr)(Q:VK),Inv X pins σ H s->RelV x v->s.heap.IsSliceOf sl vl vu .none->XN vl lo->XN vu hi->r x lo hi H Q ->
  ∃T id,XX (.type T) "__getitem__"=pure (some (.builtin id))/\s.TypeIs v T/\wpAny (model X.prog X.w) X.A (XT v (.ref sl)) (EP X pins σ Q) X.xe s
def SlR.or{r d:V->Option Int->Option Int->Hp->VK->Prop}(h:SlR X r)(h':SlR X d):SlR X (λx lo hi H Q=>r x lo hi H Q\/d x lo hi H Q):=by
 intro a s σ H x v i j lo hi g Q I f hs b c q;rcases q with q|q
 ·exact h a s σ H x v i j lo hi g Q I f hs b c q
 ·exact h' a s σ H x v i j lo hi g Q I f hs b c q
def tSl(r:V->Option Int->Option Int->Hp->VK->Prop)(te:TE)(tl th:TO):TE:=λσ H Q=>te σ H λx H1=>tl σ H1 λl H2=>th σ H2 λu H3=>r x l u H3 Q
def zZ{r:V->Option Int->Option Int->Hp->VK->Prop}(hr:SlR X r)(he:PE X e te)(hl:PO X lo tl)(hu:PO X hi th):PE X (.Subscript e (.Slice lo hi none p2) pos) (tSl r te tl th):=by
 intro a s σ H Q I h;refine XY (thn (he a s σ H _ I h) λv s1 ⟨x,H1,I1,r1,q1⟩=>?_);refine wpAny_Slice (thn (hl a s1 σ H1 _ I1 q1) λvl s2 ⟨l,H2,I2,pl,q2⟩=>thn (hu a s2 σ H2 _ I2 q2) λvu s3 ⟨u,H3,I3,pu,q3⟩=>?_);rw[XV];refine Ù ?_;have c:Inv X a σ H3 { s3 with heap:=s3.heap.push { cls:=.type "slice",data:=.fields #[vl,vu,.none]}}:=I3.kept (t':=s3.toks) λb ob q=>Ò _ q;let⟨T,id,d,ht,hg⟩:=hr a { s3 with heap:=s3.heap.push { cls:=.type "slice",data:=.fields #[vl,vu,.none]}} σ H3 x v vl vu l u ↥s3 Q c r1 (Heap.IsSliceOf.new ..) pl pu q3;show wpAny (model X.prog X.w) X.A (XZ e (.Slice lo hi none p2) v (.ref ↥s3)) (EP X a σ Q) X.xe { s3 with heap:=s3.heap.push { cls:=.type "slice",data:=.fields #[vl,vu,.none]}};exact tail_any (ops:=[.ref ↥s3,v]) ht d hg (by with_unfolding_all rfl)
def uK(xs:List V)(lo hi:Option Int):List V:=(xs.drop (HT.sIx ⇑xs 0 lo)).take (HT.sIx ⇑xs ⇑xs hi - HT.sIx ⇑xs 0 lo)
def pX(xs:List V)(lo hi:Option Int):⇑(uK xs lo hi)<=⇑xs:=by
 unfold uK;rw[Ě,œ];lia
def YB(K:ã):V->Option Int->Option Int->Hp->VK->Prop:=λx lo hi H Q=>∃a xs,x=.ref a/\SqT K H a xs /\
 ¬(HT.sIx ⇑xs 0 lo=0/\HT.sIx ⇑xs ⇑xs hi=⇑xs)/\∀p,H p=none->Q (.ref p) (upd H p (.tup (uK xs lo hi)))
def Tn:SlR X (YB X.K):=by
 intro f s σ H x v n p lo hi m Q I l hs j k h;let⟨a,xs,rfl,i,g,q⟩:=h;cases l;let⟨its,r,ht,d⟩:=I.tuple i;have c:its.toArray.size=⇑xs:=by rw[Ø];exact r.length.symm
 refine⟨"tuple",_,PyProof.Rows.slot_tuple_getitem.lookup,ht.typeIs,?_⟩;refine HT.nu ht hs j k (by rw[c];exact g) ?_ (by rw[c];exact d);rw[c];refine⟨.ref ↥s,_,I.laid (t':=s.toks) (o:=.tup (uK xs lo hi)) (λb ob q=>Ò _ q) (Õ _) ?_,rfl,q _ (I.hok.fresh (Õ _))⟩;exact⟨þ (pX xs lo hi) d,_,(r.drop (HT.sIx ⇑xs 0 lo)).take (HT.sIx ⇑xs ⇑xs hi - HT.sIx ⇑xs 0 lo),IsTup.new _ _⟩
def Wu(K:ã):R2:=λx y H Q=>∃a b xs ys,x=.ref a/\y=.ref b/\SqT K H a xs/\SqT K H b ys/\xs≠[]/\⇑xs+⇑ys<=sizeLine /\
 (ys=[]->Q (.ref a) H)/\(ys≠[]->∀p,H p=none->Q (.ref p) (upd H p (.tup (xs++ys))))
def Vals.xU{xs:List V}{us:List Value}(r:Vals xs us):us=[]↔xs=[]:=by
 cases r with
 |nil=>simp
 |cons _ _=>simp
def PX:OpR X (YN .Add) (Wu X.K):=by
 intro i s σ H x y v u Q I n p h;let⟨a,b,xs,ys,rfl,rfl,ha,hb,j,f,l,m⟩:=h;cases n;cases p;let⟨its,d,k,_⟩:=I.tuple ha;let⟨g,c,p2,_⟩:=I.tuple hb;refine HT.Q8 k p2 (λz=>j (d.xU.mp z)) (λz=>⟨.ref a,H,I,rfl,l (c.xU.mp z)⟩) (λz=>?_) (by rw[←⇑d,←⇑c];exact f);refine⟨.ref ↥s,_,I.laid (t':=s.toks) (o:=.tup (xs++ys)) (λb ob q=>Ò _ q) (Õ _) ?_,rfl,m (λw=>z (c.xU.mpr w)) _ (I.hok.fresh (Õ _))⟩;exact⟨by rw[Ñ];exact f,_,d.append c,IsTup.new _ _⟩
end
def ixN(n:Nat)(i:Int):Option Nat:=if 0<=i then(if i<n then some i.toNat else none)else if -(n:Int)<=i then some (i+n).toNat else none
def atI{α:Type}(xs:List α)(i:Int):Option α:=(ixN ⇑xs i).bind λj=>xs[j]?
def yh{n:Nat}{i:Int}{j:Nat}(h:ixN n i=some j):X0 i n=some j/\j<n/\-(n:Int)<=i/\i<n:=by
 unfold ixN at h;by_cases a:0<=i
 ·rw[eD a]at h;by_cases h1:i<n
  ·rw[eD h1]at h;have e:i.toNat=j:=Ö h;exact⟨by rw[X1 a h1,e],(),(),h1⟩
  ·rw[eH h1]at h;cases h
 ·rw[eH a]at h;by_cases h1:-(n:Int)<=i
  ·rw[eD h1]at h;have e:(i+n).toNat=j:=Ö h;exact⟨by rw[X2 () h1,e],(),h1,()⟩
  ·rw[eH h1]at h;cases h
def Hs{α:Type}{xs:List α}{i:Int}{v:α}(h:atI xs i=some v):∃j,X0 i ⇑xs=some j/\xs[j]?=some v/\j<⇑xs/\-(⇑xs:Int)<=i/\i<⇑xs:=by
 unfold atI at h;cases e:ixN ⇑xs i with
 |none=>rw[e]at h;cases h
 |some j =>
  rw[e]at h;let⟨h1,h2,a,b⟩:=yh e;exact⟨j,h1,h,h2,a,b⟩
def bF{α:Type}{xs:List α}{j:Nat}{v:α}(h:xs[j]?=some v):atI xs (j:Int)=some v:=by
 have a:j<⇑xs:=(Ç.mp h).1;have e:ixN ⇑xs (j:Int)=some j:=by
  unfold ixN;rw[eD (),eD ()];simp
 unfold atI;rw[e];exact h
def N7{α:Type}(xs:List α)(v:α):atI (xs++[v]) (-1)=some v:=by
 have hl:⇑(xs++[v])=⇑xs+1:=by simp
 have e:ixN ⇑(xs++[v]) (-1)=some ⇑xs:=by
  unfold ixN;rw[hl,eH ∅,eD ()];congr 1;lia
 unfold atI;rw[e];show(xs++[v])[⇑xs]?=some v;simp
def rB(b:Zv):Prop:=∀o i,X9 b false o i=operate [o,i] (XT o i)
def IxR(X:Cx)(r:R2):Prop :=
 ∀(value slice:Zv)(pins:List (Addr×Obj))(s:Shared)(σ:St)(H:Hp)(x y:V)(v u:Value)(Q:VK),Inv X pins σ H s->RelV x v->RelV y u->r x y H Q ->
  X9 slice false v u=operate [v,u] (XT v u)->wpAny (model X.prog X.w) X.A (XZ value slice v u) (EP X pins σ Q) X.xe s
def MtR(X:Cx)(id:String)(r:V->List V->Hp->VK->Prop):Prop :=
 ∀(pins:List (Addr×Obj))(s:Shared)(σ:St)(H:Hp)(x:V)(xs:List V)(v:Value)(us:List Value)(Q:VK),Inv X pins σ H s->RelV x v->Vals xs us->r x xs H Q ->
  wpAny (model X.prog X.w) X.A (YI (.builtin id) (v::us)) (EP X pins σ Q) X.xe s
section
variable{X:Cx}{a b:Zv}{ta tb:TE}{pos:Pos}
def IxR.or{r f:R2}(h:IxR X r)(h':IxR X f):IxR X (λx y H Q=>r x y H Q\/f x y H Q):=by
 intro d c e s σ H x y v u Q I g i q hs;rcases q with q|q
 ·exact h d c e s σ H x y v u Q I g i q hs
 ·exact h' d c e s σ H x y v u Q I g i q hs
def je{r:R2}(hr:IxR X r)(ha:PE X a ta)(hb:PE X b tb)(hs:rB b):PE X (.Subscript a b pos) (tOp r ta tb):=by
 intro c s σ H Q I h;exact XY (VG ha hb I h λv u s2 x y H2 I2 rx ry q=>hr a b c s2 σ H2 x y v u Q I2 rx ry q (hs _ _))
def Wt(K:ã):R2:=λx y H Q=>∃p xs i v,x=.ref p/\y=.int i/\SqL K H p xs/\atI xs i=some v/\Q v H
def YF(K:ã):R2:=λx y H Q=>∃p xs i v,x=.ref p/\y=.int i/\SqT K H p xs/\atI xs i=some v/\Q v H
def dh:IxR X (Wt X.K):=by
 intro l k c s σ H x y v u Q I C D h hs;let⟨p,xs,i,z,rfl,rfl,B,he,q⟩:=h;cases C;let⟨t,rfl⟩:=D;let⟨its,r,f,F⟩:=I.list B;let⟨j,h1,h2,E,o,A⟩:=Hs he;let⟨w,m,g⟩:=r.get h2;have hl:=⇑r;have hn:=tW;have d:EP X c σ Q w s:=⟨z,H,I,g,q⟩
 by_cases n:0<=i
 ·have e:i.toNat=j:=by
   rw[X1 n A]at h1;exact Ö h1
  exact item_listR f.isList n () (by rw[e];simpa using m) d hs
 ·have e:(i+(its.toArray.size:Int)).toNat=j:=by
   rw[X2 () o]at h1;rw[Ø,←hl];exact Ö h1
  exact We (x:=w) f.isList.typeIs slot_list_getitem.lookup
   (wpAny_getItem_list_neg (Q:=λr s'=>r=w/\EP X c σ Q r s') f.isList () (by rw[Ø] <;> lia) () (by rw[e];simpa using m) ⟨rfl,d⟩) hs
def Vd:IxR X (YF X.K):=by
 intro g f c s σ H x y v u Q I n o h hs;let⟨p,xs,i,z,rfl,rfl,m,he,q⟩:=h;cases n;let⟨t,rfl⟩:=o;let⟨its,r,k,D⟩:=I.tuple m;let⟨j,h1,h2,A,B,C⟩:=Hs he;let⟨w,l,e⟩:=r.get h2;have hl:=⇑r;have hn:=tW;have d:EP X c σ Q w s:=⟨z,H,I,e,q⟩
 exact We (x:=w) k.typeIs slot_tuple_getitem.lookup
  (getItem_tuple (j:=j) (Q:=λr s'=>r=w/\EP X c σ Q r s') k () () (by rw[Ø,←hl];exact h1) (by simpa using l) ⟨rfl,d⟩) hs
def DX(its:List Value)(n j:Nat)(u:Value):û (·.setIfInBounds j u) { cls:=.type "list",data:=.seq its.toArray n }={ cls:=.type "list",data:=.seq (its.set j u).toArray n }:=by
 simp[û]
def Inv.lst{c:List (Addr×Obj)}{σ:St}{H:Hp}{s:Shared}{p:Addr}{xs:List V}(I:Inv X c σ H s)(h:H p=some (.lst xs)) :
  ∃(its:List Value)(n:Nat),Vals xs its/\s.heap.get? p=some { cls:=.type "list",data:=.seq its.toArray n }/\⇑xs<=sizeLine:=by
 let⟨z,its,n,r,e⟩:=I.hok p _ h;exact⟨its,n,r,e,z⟩
def Inv.U4{c:List (Addr×Obj)}{σ:St}{H:Hp}{s:Shared}{p:Addr}{xs ys:List V}{its its':List Value}{n d:Nat}{f:Obj->Obj}(I:Inv X c σ H s)(h:H p=some (.lst xs))(i:s.heap.get? p=some { cls:=.type "list",data:=.seq its.toArray n })(g:f { cls:=.type "list",data:=.seq its.toArray n }={ cls:=.type "list",data:=.seq its'.toArray d })(r:Vals ys its')(j:⇑ys<=sizeLine)(t:Nat) :
  Inv X c σ (upd H p (.lst ys)) { s with heap:=s.heap.update p f,toks:=t }:=by
 have e:(s.heap.update p f).get? p=some { cls:=.type "list",data:=.seq its'.toArray d }:=by
  rw[ŏ f i (by rw[g] <;> rfl),g]
 refine I.write (x:=p) (e:=p) (by rw[h];trivial) (.inl rfl) (λb u hb q=>(Ľ _ _ (Ĩ hb)).trans q) ⟨_,e⟩ ?_;exact⟨j,its',d,r,e⟩
def Rr:V->V->V->Hp->(Hp->Prop)->Prop:=λo i v H Q=>∃p xs k j,o=.ref p/\i=.int k/\H p=some (.lst xs)/\ixN ⇑xs k=some j/\Q (upd H p (.lst (xs.set j v)))
def set_list:Yo X Rr:=by
 intro c s σ H o i v B A u Q I y x z h;let⟨p,xs,k,j,rfl,rfl,hp,m,q⟩:=h;cases y;let⟨t,rfl⟩:=x;let⟨its,n,r,d,w⟩:=I.lst hp;let⟨h1,h2,g,l⟩:=yh m;have hl:=⇑r;have hn:=tW;have e:Inv X c σ (upd H p (.lst (xs.set j v))) { s with heap:=s.heap.update p (û (·.setIfInBounds j u))} :=
  I.U4 hp d (DX its n j u) (r.set z j) (by rw[List.length_set];exact w) s.toks
 by_cases f:0<=k
 ·have hk:k.toNat=j:=by
   rw[X1 f l]at h1;exact Ö h1
  exact W.ki_setAt d f () (by rw[Ø,←hl];exact l) (by rw[hk];exact⟨_,e,q⟩)
 ·have hk:(k+(its.toArray.size:Int)).toNat=j:=by
   rw[X2 () g]at h1;rw[Ø,←hl];exact Ö h1
  exact W.ki_setBack d () (by rw[Ø,←hl];exact g) () (by rw[hk];exact⟨_,e,q⟩)
def wJ(c hi:Option Int)(n:Nat):(Wl c hi none n).1=((HT.sIx n 0 c:Nat):Int)/\(Wl c hi none n).2.1=((HT.sIx n n hi:Nat):Int)/\(Wl c hi none n).2.2=1:=by
 refine⟨?_,?_,rfl⟩
 ·cases c with
  |none=>simp[Wl,HT.sIx]
  |some i =>
   simp only[Wl,HT.sIx,Option.getD_none,show(1:Int) > 0 by decide,if_true];by_cases h:i<0
   ·simp only[h,if_true] <;> lia
   ·simp only[h,if_false] <;> lia
 ·cases hi with
  |none=>simp[Wl,HT.sIx]
  |some i =>
   simp only[Wl,HT.sIx,Option.getD_none,show(1:Int) > 0 by decide,if_true];by_cases h:i<0
   ·simp only[h,if_true] <;> lia
   ·simp only[h,if_false] <;> lia
def uX(its:List Value)(c hi:Option Int):slicePick its.toArray c hi none=((its.drop (HT.sIx ⇑its 0 c)).take (HT.sIx ⇑its ⇑its hi - HT.sIx ⇑its 0 c)).toArray:=by
 let⟨h1,h2,d⟩:=wJ c hi its.toArray.size;unfold slicePick;rw[h1,h2,d];simp only[sliceRange_one,pick_run,Ø] <;> rfl
def YC(K:ã):V->Option Int->Option Int->Hp->VK->Prop:=λx lo hi H Q=>∃a xs,x=.ref a/\SqL K H a xs/\∀p,H p=none->Q (.ref p) (upd H p (.lst (uK xs lo hi)))
def Ga:SlR X (YC X.K):=by
 intro e s σ H x v m n d hi l Q I k hs i j h;let⟨a,xs,rfl,f,q⟩:=h;cases k;let⟨its,r,ht,g⟩:=I.list f;have c:=⇑r;refine⟨"list",_,slot_list_getitem.lookup,ht.isList.typeIs,?_⟩;refine Wp ht.isList hs i j .none (by simp) ?_ (by rw[Ø] <;> lia);rw[uX,←c];refine⟨.ref ↥s,_,I.laid (t':=s.toks) (o:=.lst (uK xs d hi)) (λb ob q=>Ò _ q) (Õ _) ?_,rfl,q _ (I.hok.fresh (Õ _))⟩;exact⟨þ (pX xs d hi) g,_,0,(r.drop (HT.sIx ⇑xs 0 d)).take (HT.sIx ⇑xs ⇑xs hi - HT.sIx ⇑xs 0 d),è _ rfl⟩
def eF:aQ X (.builtin "len") (λxs H Q=>∃p ys,xs=[.ref p]/\(SqL X.K H p ys\/SqT X.K H p ys)/\Q (.int ⇑ys) H):=by
 intro g s σ H xs us Q I r h;let⟨p,ys,rfl,d,q⟩:=h;let⟨u,rfl,j⟩:=vals1 r;cases j;have hn:=tW;rcases d with d|d
 ·let⟨its,f,e,i⟩:=I.list d;have c:=⇑f;exact Calls.call_len_list e.isList (by simp only[Ø] <;> lia) ⟨.int ⇑ys,H,I.tok _,⟨s.toks+1,by rw[Ø,c]⟩,q⟩
 ·let⟨its,f,e,i⟩:=I.tuple d;have c:=⇑f;exact len_tuple e (by simp only[Ø] <;> lia) ⟨.int ⇑ys,H,I.tok _,⟨s.toks+1,by rw[Ø,c]⟩,q⟩
def yP:aQ X (.type "list") (λxs H Q=>∃p ys,xs=[.ref p]/\(SqL X.K H p ys\/SqT X.K H p ys)/\∀l,H l=none->Q (.ref l) (upd H l (.lst ys))):=by
 intro j s σ H xs us Q I r h;let⟨p,ys,rfl,g,q⟩:=h;let⟨u,rfl,t⟩:=vals1 r;cases t;have d:∀(its:List Value),Vals ys its->⇑ys<=sizeLine->∀(h':Zi)(c':Nat),(∀b o',s.heap.get? b=some o'->h'.get? b=some o') ->
   h'.get? ↥s=some { cls:=.type "list",dict:=none,data:=.seq its.toArray c',slots:=#[]}->EP X j σ Q (.ref ↥s) { s with heap:=h' }:=λits c i h' c' kp e =>
  ⟨.ref ↥s,_,I.laid (t':=s.toks) kp (Õ _) (show bf X.prog X.w _ h' _ (.lst ys)from⟨i,its,c',c,e⟩),rfl,q _ (I.hok.fresh (Õ _))⟩
 rcases g with g|g
 ·let⟨its,c,m,i⟩:=I.list g;have f:=⇑c;let⟨o,k,hc,n,hd⟩:=m.isList;exact WA p (.inl rfl) k hc hd (λh' c' kp e=>d its c i h' c' kp e) (by simp only[Ø] <;> lia)
 ·let⟨its,c,m,i⟩:=I.tuple g;have f:=⇑c;let⟨o,k,hc,n,hd⟩:=m;exact WA p (.inr rfl) k hc hd (λh' c' kp e=>d its c i h' c' kp e) (by simp only[Ø] <;> lia)
def u9:aQ X (.type "tuple") (λxs H Q=>∃p ys,xs=[.ref p]/\((SqL X.K H p ys/\∀l,H l=none->Q (.ref l) (upd H l (.tup ys)))\/(SqT X.K H p ys/\Q (.ref p) H))):=by
 intro c s σ H xs us Q I r h;let⟨p,ys,rfl,h⟩:=h;let⟨u,rfl,n⟩:=vals1 r;cases n;rcases h with⟨d,q⟩|⟨d,q⟩
 ·let⟨its,g,f,k⟩:=I.list d;have j:=⇑g;refine call_tuple_list f.isList (λh' kp=>?_) (by simp only[Ø] <;> lia);have i:Inv X c σ H { s with heap:=h' }:=I.kept (t':=s.toks) kp;have m:Inv X c σ (upd H h'.objs.size (.tup ys)) { s with heap:=h'.push { cls:=.type "tuple",data:=.seq its.toArray }} :=
   i.laid (t':=s.toks) (λb o e=>Ò _ e) (Õ _) (show bf X.prog X.w _ _ _ (.tup ys)from⟨k,its,g,IsTup.new _ _⟩)
  exact⟨.ref h'.objs.size,_,m,rfl,q _ (i.hok.fresh (Õ _))⟩
 ·let⟨its,g,f,k⟩:=I.tuple d;exact call_tuple_same f ⟨.ref p,H,I,rfl,q⟩
def tyV(K:ã)(T:String)(x:V)(H:Hp):Prop:=match x with
 |.str _=>T="str"
 |.int _=>T="int"
 |.ref p=>(T="list"/\∃xs,SqL K H p xs)\/(T="tuple"/\∃o,K.lookup p=some o/\o.cls=.type "tuple"/\o.dict=none)∨
   (T="dict"/\((∃kvs,H p=some (.dK kvs))\/∃kvs,H p=some (.dT kvs)))\/(T="set"/\∃S n,H p=some (.set S n))
 |_=>False
def JM{f:List (Addr×Obj)}{σ:St}{H:Hp}{s:Shared}{T:String}{x:V}{v:Value}(I:Inv X f σ H s)(r:RelV x v)(ty:tyV X.K T x H) :
  s.TypeIs v T/\∀a,v=.ref a->∃ob,s.heap.get? a=some ob/\ob.dict=none:=by
 cases x with
 |str z =>
  let⟨t,rfl⟩:=r;cases (show T="str" from ty);exact⟨typeIs_str s z t,λ_ e=>nomatch e⟩
 |int i =>
  let⟨t,rfl⟩:=r;cases (show T="int" from ty);exact⟨WB s i t,λ_ e=>nomatch e⟩
 |ref p =>
  cases r;rcases ty with⟨rfl,xs,h⟩|⟨rfl,o,hk,hc,hd⟩|⟨rfl,hk⟩|⟨rfl,S,n,hk⟩
  ·let⟨its,_,g,_⟩:=I.list h;refine⟨g.isList.typeIs,λa e=>?_⟩;cases e;let⟨o,n,e,c,hd,_⟩:=g;exact⟨o,e,hd⟩
  ·refine⟨⟨o,I.kIn p o hk,hc⟩,λa e=>?_⟩;cases e;exact⟨o,I.kIn _ o hk,hd⟩
  ·have z:∃o,s.heap.get? p=some o/\o.ExactDict:=by
    rcases hk with⟨kvs,hk⟩|⟨kvs,hk⟩
    ·let⟨_,_,_,_,o,_,_,e,d,_⟩:=I.hok p _ hk;exact⟨o,e,d⟩
    ·let⟨_,_,_,_,o,_,_,e,d,_⟩:=I.hok p _ hk;exact⟨o,e,d⟩
   let⟨o,e,d⟩:=z;refine⟨⟨o,e,d.1⟩,λa e2=>?_⟩;cases e2;exact⟨o,e,d.2.1⟩
  ·let⟨o,_,_,_,e,d,_⟩:=I.hok p _ hk;refine⟨⟨o,e,d.1⟩,λa e2=>?_⟩;cases e2;exact⟨o,e,d.2.1⟩
 |_=>exact Ÿ ty
def Wi(K:ã)(T:String)(r:V->List V->Hp->VK->Prop)(c:TE):TE:=λσ H Q=>c σ H λx H1=>tyV K T x H1/\r x [] H1 Q
def tBM(K:ã)(T:String)(r:V->List V->Hp->VK->Prop)(c:TE)(t:TA):TE:=λσ H Q=>c σ H λx H1=>tyV K T x H1/\t σ H1 λxs H2=>r x xs H2 Q
variable{o e:Zv}{es:List Zv}{to:TE}{t:TA}{name:Str}{apos cpos:Pos}{T id:String}{r:V->List V->Hp->VK->Prop}
def Ul(k:PlainAttrs T)(g:Slot T name id)(i:typeOf (.builtin id)=pure (.type "method_descriptor"))(hm:MtR X id r)(j:PE X o to)(d:WE o name X.env (Zx o X.env)=Zx o X.env:=by rfl)(f:(apos.endLine==cpos.line)=true:=by rfl):PE X (.Call (.Attribute o name apos) [] [] cpos) (Wi X.K T r to):=by
 intro c s σ H Q I h;refine wpAny_Call_method0_late d f (thn (j c s σ H _ I h) λv s1 ⟨x,H1,I1,r1,ty,q1⟩=>?_);let⟨h1,h2⟩:=JM I1 r1 ty;exact⟨T,id,k,g,i,h1,h2,Calls.callWith_builtin rfl (PySem.evalArgs_none (hm c s1 σ H1 x [] v [] Q I1 r1 .nil q1))⟩
def vD(n:PlainAttrs T)(j:Slot T name id)(k:typeOf (.builtin id)=pure (.type "method_descriptor"))(hm:MtR X id r)(m:PE X o to)(ha:PA X (e::es) t)(f:WE o name X.env (Zx o X.env)=Zx o X.env:=by rfl)(i:((Zy cpos (Zw (e::es) X.env)).all (λx=>!x.1)&&(ZA cpos (ZB [] X.env)).all (λx=>x.1.isSome)
  &&decide (⇑(e::es)+⇑([]:List ZC)+(if([]:List ZC).isEmpty then 0 else 1)<30))=true:=by rfl)(g:(apos.endLine==cpos.line)=true:=by rfl)(hs:Zw (e::es) X.env=(false,Zx e X.env)::Zw es X.env:=by rfl)(d:(Zy cpos (Zw es X.env)).any (·.1)=false:=by rfl) :
  PE X (.Call (.Attribute o name apos) (e::es) [] cpos) (tBM X.K T r to t):=by
 intro c s σ H Q I h;refine wpAny_Call_method_late f i g rfl (thn (m c s σ H _ I h) λv s1 ⟨x,H1,I1,r1,ty,q1⟩=>?_);let⟨h1,h2⟩:=JM I1 r1 ty;refine⟨T,id,n,j,k,h1,h2,?_⟩;have l:=ha cpos c s1 σ H1 _ I1 q1;rw[hs]at l ⊢;refine Calls.callWith_builtin (by show(false || (Zy cpos (Zw es X.env)).any (·.1))=false;rw[d] <;> rfl) (Calls.evalArgs_plain ?_);exact thn l λus s2 ⟨vs,H2,I2,r2,q2⟩=>hm c s2 σ H2 x vs v us Q I2 r1 r2 q2
/- xs.append(e),list.index on a module's tuple .. are MtR facts of 06m -/
end
def MtM(X:Cx)(id:String)(r:V->List V->Hp->VK->Prop):Prop :=
 ∀(pins:List (Addr×Obj))(s:Shared)(σ:St)(H:Hp)(x:V)(xs:List V)(v:Value)(us:List Value)(Q:VK),Inv X pins σ H s->RelV x v->Vals xs us->r x xs H Q ->
  wpAny (model X.prog X.w) X.A (YI (.builtin id) (v::us)) (EP X pins σ Q) X.xe s
theorem Vals.one:∀{x:V}{us:List Value},Vals [x] us->∃u,us=[u]/\RelV x u
 |_,_,.cons r .nil=>⟨_,rfl,r⟩
theorem Vals.two:∀{x y:V}{us:List Value},Vals [x,y] us->∃u v,us=[u,v]/\RelV x u/\RelV y v
 |_,_,_,.cons r (.cons q .nil)=>⟨_,_,rfl,r,q⟩
theorem Vals.zero:∀{us:List Value},Vals [] us->us=[]
 |_,.nil=>rfl
def Vals.dropLast{xs:List V}{us:List Value}(h:Vals xs us):Vals xs.dropLast us.dropLast:=by
 induction h with
 |nil=>exact .nil
 |cons r t ih =>
  cases t with
  |nil=>exact .nil
  |cons q t'=>exact .cons r ih
theorem Vals.eraseIdx:∀{xs:List V}{us:List Value} (i:Nat),Vals xs us->Vals (xs.eraseIdx i) (us.eraseIdx i)
 |_,_,_,.nil=>.nil
 |_,_,0,.cons _ t=>t
 |_,_,i+1,.cons r t=>.cons r (Vals.eraseIdx i t)
def Vals.reverse{xs:List V}{us:List Value}(h:Vals xs us):Vals xs.reverse us.reverse:=by
 induction h with
 |nil=>exact .nil
 |cons r t a=>rw[List.reverse_cons,List.reverse_cons];exact Vals.append a (.cons r .nil)
theorem Vals.rep{xs:List V}{us:List Value}(h:Vals xs us):∀k:Nat,Vals (Ú k xs).flatten (Ú k us).flatten
 |0=>.nil
 |k+1=>by
  rw[Ŧ,Ŧ,List.flatten_cons,List.flatten_cons];exact Vals.append h (Vals.rep h k)
def En{α:Type}(l:List α):l.eraseIdx (⇑l - 1)=l.dropLast:=by
 induction l with
 |nil=>rfl
 |cons a r ih =>
  cases r with
  |nil=>rfl
  |cons b r =>
   have e:⇑(a::b::r) - 1=(⇑(b::r) - 1)+1:=by
    have h1:⇑(a::b::r)=⇑r+2:=rfl;have h2:⇑(b::r)=⇑r+1:=rfl;lia
   rw[e,List.eraseIdx_cons_succ,ih]
   all_goals rfl
theorem vL{α:Type}:∀(l:List α)(i:Nat),⇑(l.eraseIdx i)<=⇑l
 |[],_=>Õ _
 |_::_,0=>ō _
 |_::r,i+1=>Nat.succ_le_succ (vL r i)
theorem foldl_rep(its:List Value):∀(k:Nat)(acc:List Value),
  List.foldl (λx1 x2=>x1++x2) acc.toArray (Ú k its.toArray)=(acc++(Ú k its).flatten).toArray
 |0,acc=>by simp
 |k+1,acc=>by
  have e:acc.toArray++its.toArray=(acc++its).toArray:=by simp
  have a:(acc++its)++(Ú k its).flatten=acc++(Ú (k+1) its).flatten:=by
   rw[Ŧ,List.flatten_cons,Ş]
  rw[←a,←foldl_rep its k (acc++its),←e,Ŧ,List.foldl_cons]
section
variable{X:Cx}{pins:List (Addr×Obj)}{σ:St}{H:Hp}{s:Shared}{l b:Addr}{xs ys zs:List V}
def Inv.Ik{its its':List Value}{n:Nat}{f:Array Value->Array Value}{t':Nat}(I:Inv X pins σ H s)(a:H l=some (.lst xs))(e:s.heap.get? l=some { cls:=.type "list",data:=.seq its.toArray n })(c:f its.toArray=its'.toArray)(hv:Vals ys its')(d:⇑ys<=sizeLine) :
  Inv X pins σ (upd H l (.lst ys)) { s with heap:=s.heap.update l (û f),toks:=t' }:=by
 have q:=PySem.IsL.update e f;rw[c]at q;refine I.write (x:=l) (e:=l) (by rw[a];exact trivial) (.inl rfl) (λb' u hb hu=>(Ľ s.heap (û f) (Ĩ hb)).trans hu) ⟨_,q⟩ ?_;exact⟨d,its',_,hv,q⟩
def Inv.Xd{its:List Value}{t':Nat}(I:Inv X pins σ H s)(hv:Vals ys its)(a:⇑ys<=sizeLine) :
  Inv X pins σ (upd H ↥s (.lst ys)) { s with heap:=s.heap.push { cls:=.type "list",data:=.seq its.toArray },toks:=t' } :=
 I.laid (λ_ _ q=>Ò _ q) (Õ _) ⟨a,its,0,hv,è _ rfl⟩
def Inv.fresh(I:Inv X pins σ H s):H ↥s=none:=I.hok.fresh (Õ _)
def Inv.u5(I:Inv X pins σ H s)(a:H l=some (.lst xs)):⇑xs<=sizeLine/\∃(its:List Value)(n:Nat),Vals xs its/\⇑xs=⇑its/\s.heap.get? l=some { cls:=.type "list",data:=.seq its.toArray n }:=by
 let⟨z,its,n,r,e⟩:=I.hok l _ a;exact⟨z,its,n,r,⇑r,e⟩
def Am{n:Nat}(h:n<=sizeLine):Builtin.List.listTooLong n=false:=by
 unfold Builtin.List.listTooLong;exact eA ()
end
section
variable{X:Cx}
def qH:V->List V->Hp->VK->Prop:=λx vs H Q=>∃l xs y,x=.ref l/\vs=[y]/\H l=some (.lst xs)/\⇑xs<sizeLine/\Q .non (upd H l (.lst (xs++[y])))
def oV:MtM X "list.append" qH:=by
 intro b s σ H x vs v us Q I f d h;let⟨l,xs,y,rfl,rfl,a,g,q⟩:=h;cases f;let⟨u,rfl,c⟩:=d.one;let⟨z,its,n,r,hl,e⟩:=I.u5 a;refine WF F.slot_list_append ⟨_,e,rfl⟩ F.entry_list_append (F.args_list_append_2 _ _) (PySem.list_append l its.toArray n u (by rw[Ø];lia)) ⟨e,?_⟩;refine⟨.non,_,I.Ik (its':=its++[u]) a e (by simp) (r.append (.cons c .nil)) ?_,rfl,q⟩;rw[Ñ,ì];lia
def O6:V->List V->Hp->VK->Prop:=λx vs H Q=>∃l b xs zs,x=.ref l/\vs=[.ref b]/\H l=some (.lst xs)/\H b=some (.lst zs)/\⇑xs+⇑zs<=sizeLine/\Q .non (upd H l (.lst (xs++zs)))
def VP:MtM X "list.extend" O6:=by
 intro f s σ H x vs v us Q I t p h;let⟨l,b,xs,A,rfl,rfl,d,i,w,q⟩:=h;cases t;let⟨u,rfl,o⟩:=p.one;cases o;let⟨z,its,n,r,hl,e⟩:=I.u5 d;let⟨y,a,k,m,j,g⟩:=I.u5 i;have hsz:its.toArray.size+a.toArray.size<=sizeLine:=by rw[Ø,Ø];lia
 have c:¬(!its.toArray.isEmpty&&Builtin.List.listTooLong (its.toArray.size+a.toArray.size))=true:=by
  rw[Am hsz,Bool.and_false];exact Ð
 refine WF F.slot_list_extend ⟨_,e,rfl⟩ F.entry_list_extend (F.args_list_extend_2 _ _)
  (AutoSeq1.list_extend_list_list_0 l its.toArray n b a.toArray k c (by rw[Ø];lia) ()) ⟨e,g,?_⟩
 refine⟨.non,_,I.Ik (its':=its++a) d e (by simp) (r.append m) ?_,rfl,q⟩;rw[Ñ];lia
def YD:V->List V->Hp->VK->Prop:=λx vs H Q=>∃l xs y,x=.ref l/\vs=[]/\H l=some (.lst xs)/\xs[⇑xs - 1]?=some y/\Q y (upd H l (.lst xs.dropLast))
def YL:MtM X "list.pop" YD:=by
 intro d s σ H x vs v us Q I j i h;let⟨l,xs,y,rfl,rfl,c,f,q⟩:=h;cases j;have a:=i.zero;subst a;let⟨z,its,n,r,hl,e⟩:=I.u5 c;let⟨u,hu,g⟩:=r.get f;have b:its.toArray[its.toArray.size - 1]?=some u:=by
  show its.toArray[⇑its - 1]?=some u;rw[←Array.getElem?_toList,←hl];exact hu
 refine WF F.slot_list_pop ⟨_,e,rfl⟩ F.entry_list_pop (F.args_list_pop_1 _) (MeetsSeq.list_pop_last l its.toArray n u b (by rw[Ø];lia)) ⟨e,?_⟩;refine⟨y,_,I.Ik (its':=its.dropLast) c e ?_ r.dropLast ?_,g,q⟩
 ·show its.toArray.eraseIdxIfInBounds (its.toArray.size - 1)=its.dropLast.toArray;rw[Ø,List.eraseIdxIfInBounds_toArray,En]
 ·rw[List.length_dropLast];lia
def Ko:V->List V->Hp->VK->Prop:=λx vs H Q=>∃l xs i k y,x=.ref l/\vs=[.int i]/\H l=some (.lst xs)/\-(2 ^ 63)<=i/\i<2 ^ 63/\X0 i ⇑xs=some k/\xs[k]?=some y/\Q y (upd H l (.lst (xs.eraseIdx k)))
def Lw:MtM X "list.pop" Ko:=by
 intro c s σ H x vs v us Q I m j h;let⟨l,xs,i,k,y,rfl,rfl,b,h1,h2,hk,f,q⟩:=h;cases m;let⟨u,rfl,g⟩:=j.one;let⟨t,rfl⟩:=g;let⟨z,its,n,r,hl,e⟩:=I.u5 b;let⟨w,d,a⟩:=r.get f;refine WF F.slot_list_pop ⟨_,e,rfl⟩ F.entry_list_pop (F.args_list_pop_2 _ _)
  (MeetsSeq.list_pop_at l its.toArray n i t k w (WG h1 h2) (by rw[Ø,←hl];exact hk) (by rw[←Array.getElem?_toList];exact d) (by rw[Ø];lia)) ⟨e,?_⟩
 refine⟨y,_,I.Ik (its':=its.eraseIdx k) b e ?_ (r.eraseIdx k) ?_,a,q⟩
 ·show its.toArray.eraseIdxIfInBounds k=(its.eraseIdx k).toArray;rw[List.eraseIdxIfInBounds_toArray]
 ·have:=vL xs k;lia
def zX:V->List V->Hp->VK->Prop:=λx vs H Q=>∃l xs,x=.ref l/\vs=[]/\H l=some (.lst xs)/\Q .non (upd H l (.lst xs.reverse))
def DQ:MtM X "list.reverse" zX:=by
 intro c s σ H x vs v us Q I f d h;let⟨l,xs,rfl,rfl,b,q⟩:=h;cases f;have a:=d.zero;subst a;let⟨z,its,n,r,hl,e⟩:=I.u5 b;refine WF F.slot_list_reverse ⟨_,e,rfl⟩ F.entry_list_reverse (F.args_list_reverse_1 _) (AutoSeq1.list_reverse_list_0 l its.toArray n (by rw[Ø];lia)) ⟨e,?_⟩;refine⟨.non,_,I.Ik (its':=its.reverse) b e (by simp) r.reverse ?_,rfl,q⟩;rw[Ŀ];lia
def Wv:R2:=λx y H Q=>∃l b xs zs,x=.ref l/\y=.ref b/\H l=some (.lst xs)/\H b=some (.lst zs)/\⇑xs+⇑zs<=sizeLine/\∀p,H p=none->Q (.ref p) (upd H p (.lst (xs++zs)))
def Ux:OpR X (YN .Add) Wv:=by
 intro c s σ H x y v u Q I m o h;let⟨l,b,xs,A,rfl,rfl,i,g,p,q⟩:=h;cases m;cases o;let⟨z,its,n,r,hl,e⟩:=I.u5 i;let⟨w,a,t,k,j,d⟩:=I.u5 g;refine PySem.P.add_list e d ?_ (by rw[Ø,Ø];lia);have f:its.toArray++a.toArray=(its++a).toArray:=by simp
 rw[f];exact⟨.ref _,_,I.Xd (t':=s.toks) (r.append k) (by rw[Ñ];lia),rfl,q _ I.fresh⟩
def Ws:R2:=λx y H Q=>∃l k xs,x=.ref l/\y=.int k/\H l=some (.lst xs)/\-(2 ^ 63)<=k/\k<2 ^ 63/\⇑xs * k.toNat<=sizeLine /\
 ∀p,H p=none->Q (.ref p) (upd H p (.lst (Ú k.toNat xs).flatten))
def len_rep{α:Type}(xs:List α)(k:Nat):(Ú k xs).flatten.length=k * ⇑xs:=by
 induction k with
 |zero=>simp
 |succ k a=>rw[Ŧ,List.flatten_cons,Ñ,a,Nat.succ_mul,Nat.add_comm]
def Ut:OpR X (YN .Mult) Ws:=by
 intro j s σ H x y v u Q I w A h;let⟨l,k,xs,rfl,rfl,p,h1,h2,i,q⟩:=h;cases w;let⟨t,rfl⟩:=A;let⟨z,its,n,r,hl,e⟩:=I.u5 p;have f:its.toArray.size * k.toNat<=sizeLine:=by rw[Ø,←hl];exact i
 have c:¬its.toArray.size * k.toNat > (2 ^ 63 - 1) / 8:=by
  have:(sizeLine:Nat)<=(2 ^ 63 - 1) / 8:=∅
  lia
 have d:¬(!Builtin.List.listFitsIndex k)=true:=by
  rw[WG h1 h2];exact Ð
 have b:¬Builtin.List.listTooLong (its.toArray.size * k.toNat)=true:=by
  rw[Am f];exact Ð
 have g:List.foldl (λx1 x2=>x1++x2) #[] (Ú (if its.toArray.isEmpty=true then 0 else k.toNat) its.toArray)=(Ú k.toNat its).flatten.toArray:=by
  have o:∀m:Nat,List.foldl (λx1 x2=>x1++x2) #[] (Ú m its.toArray)=(Ú m its).flatten.toArray:=λm=>by
   have:=foldl_rep its m [];rw[List.nil_append]at this;exact this
  rw[o];cases its with
  |nil=>simp
  |cons a B=>rw[eH (by simp)]
 refine wpAny_binaryOp_repeat_ref (T:="list") (U:="int") ∅ ⟨_,e,rfl⟩ (λs'=>WB s' k t) noFill_list_mul F.fills_int_mul F.slot_int_rmul repeat_list F.slot_int_index.lookup
  (WF F.slot_int_rmul (WB s k t) F.entry_int_rmul (F.args_int_rmul_2 _ _) (int___rmul___int_list k t l its.toArray n)
   ⟨e,rfl,⟨_,e,rfl⟩,WF F.slot_list_mul ⟨_,e,rfl⟩ F.entry_list_mul (F.args_list_mul_2 _ _) (AutoListH.list___mul___list_int_3 l its.toArray n k t d c b) ⟨e,?_⟩⟩)
 rw[g];exact⟨.ref _,_,I.Xd (t':=s.toks) (r.rep k.toNat) (by rw[len_rep,Nat.mul_comm];exact i),rfl,q _ I.fresh⟩
section
variable{prog:Zc}{w:Zd}{A:Zt}{E:eQ}{s:Shared}
end
end
end L2
namespace Att
open PySem PySem.W PySem.Calls PyProof.Rows
def qw{P:Zf}{h:Zi}:∀(ns:List Int)(vs:List Value),WellAll P h vs (ns.map WData.int)->IntsAre vs ns:=by
 intro ns;induction ns with
 |nil =>
  intro vs w;rw[List.map_nil]at w;cases w;exact .nil
 |cons n ns ih =>
  intro vs w;rw[ö]at w;cases w with
  |cons a b =>
   cases a;exact .cons _ _ (ih _ b)
def HN{l:OpenLaw}{n:Nat}(hn:l.most=some n){P:Zf}{h:Zi}{b:List WData}{e:List Value}(c:l.row.toRowW.claim.pre b=true)(m:WellAll P h e b) :
  ∃a vs ns,e=[ĥ a]/\b=[WData.list (ns.map WData.int)]/\h.get? a=some { cls:=.type "list",data:=.seq vs.toArray }/\IntsAre vs ns/\⇑ns<=n:=by
 have k:WShape.hasAll [] b [.list .int]=true:=(pre_splitW c).1;have hc:l.pre.holds [] { args:=b }=true:=(pre_splitW c).2;let⟨d,r,rfl,h1,h2⟩:=hasAllW_cons k;obtain rfl:=hasAllW_nil h2;let⟨xs,rfl,o⟩:=hasW_list h1;let⟨ns,rfl⟩:=items_int o;have g:⇑ns<=n:=by
  unfold OpenLaw.pre at hc;have i:(WTm.not (.lt (.lit (.int (n:Int))) (.len (.arg 0)))).holds [] { args:=[.list (ns.map .int)]}=true:=by
   have i:=(holds_andW hc).1;rw[hn]at i;exact i
  have j:=condW_of i (w_not (w_lt w_lit (w_len_list (w_arg rfl))));rw[Ä]at j;refine Nat.le_of_not_lt λq=>?_;have s:(n:Int)<(⇑ns:Int):=()
  first
   |(rw[decide_eq_true s]at j;exact eI j ∅)
   |(simp at j;lia)
 cases m with
 |cons w1 w2 =>
  cases w2;cases w1 with
  |list p f=>exact⟨_,_,ns,rfl,rfl,p,qw ns _ f,g⟩
def HX(l:OpenLaw)(a:List WData):l.row.toRowW.claim.post a (.bool true) a=true :=
 postW_of (r:=l.row.toRowW) (X:=(true==true))
  (show WShape.has [] (.bool true) .bool=true by first|rfl|decide|simp[WShape.has,WShape.arms,WShape.armsAll])
  (show(WTm.eq .res (.lit (.bool true))).value [] { args:=a,res:=some (.bool true),after:=a }=some (.bool (true==true))from w_eq_bool (w_res rfl) w_lit) rfl
def BW{l:OpenLaw}{n:Nat}{q:Zc}{loose:List Str}{XP:(Str->Option Value)->Zi->Prop}{YP:Zd->Zi->Prop}{d:DefRec}(hn:l.most=some n)(t:d.params.defaults=[])(h:∀(w:Zd)(c b:Shared)(s x:Str->Option Value)(i:Addr)(o:Obj)(y p e:Value)(a:Addr)(vs:List Value)(ns:List Int),
   Ground q loose [] XP w c s x b.heap->YP w b.heap ->
   b.heap.get? i=some o->o.data=.func (docDef d.name d.params d.body d.scope y p e)->b.heap.CodeRec p d.name->s d.name=some (.ref i) ->
   b.heap.get? a=some { cls:=.type "list",data:=.seq vs.toArray }->IntsAre vs ns->⇑ns<=n->b.gens=#[] ->
   Y2 (model l.prog w) callerA (.call (.ref i) ⟨[.ref a],[]⟩) (λr s'=>r=.ok (.ret (.bool true))/\OldK b.heap s'.heap/\s'.os=b.os/\ZD s'.gens) b) :
  WalkO q loose XP YP l.row.toRowW d [] (λf vs=>PySem.call f vs):=by
 intro w c b s x G Y i o y p e D kV I hd hcd A u hg z C as m B J v H;obtain rfl:D=.none:=Dflts.none A t;obtain rfl:kV=.none:=Dflts.noKw A;let⟨a,vs,ns,rfl,rfl,k,g,j⟩:=HN hn m v;refine enter_call (Y3 (h w c b s x i o y p e a vs ns G Y I (fd_plain hd) hcd u k g j hg) λr s' hq=>?_);let⟨rfl,h2,E,F⟩:=hq;exact⟨.inl ⟨.bool true,.bool true,[],rfl,λ_=>rfl,.bool true,HX l _,λ_=>⟨List.Pairwise.nil,λ_ hm=>(nomatch hm)⟩⟩,h2,E,F⟩
section
variable{prog:Zc}{w:Zd}{A:Zt}{E:eQ}{s:Shared}{K:Frag}
def ledger(h:Zi)(L d:Addr):List (Addr×Obj):=(ß h.objs.size).filterMap λa=>if a=L\/a=d then none else(h.get? a).map λo=>(a,o)
end
end Att
namespace L2
open PySem PySem.Spec PyProof.Rows
theorem jG:∀{vs:List Value}{ns:List Int},IntsAre vs ns->Vals (ns.map V.int) vs
 |_,_,.nil=>.nil
 |_,_,.cons n t h=>.cons ⟨t,rfl⟩ (jG h)
def Only(H:Hp):Prop:=∀b,H b=none\/∃o xs,H b=some (.frz o (.lst xs))
def jR(s:ZH):XE:=match s with
 |.FunctionDef _ a _ _ _ _ _ _ _ _=>a
 |_=>{ posonlyargs:=[],args:=[],vararg:=none,kwonlyargs:=[],kw_defaults:=[],kwarg:=none,defaults:=[]}
def fM(s:ZH):List ZH:=match s with
 |.FunctionDef _ _ b _ _ _ _ _ _ _=>b
 |_=>[]
def aC(s:ZH):Zu:=match s with
 |.FunctionDef _ _ _ _ _ _ sc _ _ _=>sc
 |_=>{ kind:=.function,names:=[],isGenerator:=false,isCoroutine:=false }
abbrev CX0:CXT:=λ_ _ _ _ _ _=>False
abbrev E0:XK:=λ_ _ _=>False
def WW{X:Cx}:Passes CX0 X E0:=λ_ _ _ _ _ _ _ h=>h.elim
structure Fun(K:ã)(x qual:Str)(st:ZH)(f:Addr)(fd:YY):Prop where
 ex:∃(oc:Value)(od:Option Addr)(kV doc pm:Value)(an:Option Addr)(cdv ct:Value)(osl:Array (Option Value)),
  fd=W.fnOf x qual (jR st) (fM st) (aC st) .none kV doc pm an cdv ct/\K.lookup f=some ⟨oc,od,.func fd,osl⟩/\W.codeIn K cdv qual=true
 kp:W.keepIn K (.ref f)=true
section
variable{P:Zc}{w:Zd}{K:ã}{mg:Str->Option Value}{base:Zi}
def Fun.ok{x b:Str}{st:ZH}{f:Addr}{g:YY}{N ps:List Str}{k:Nat}{sp:Sp}(F:Fun K x b st f g)(S:FnScope N ps (aC st))(e:∀vs H Q E,sp vs H Q E->⇑vs=⇑ps)(d:∀(c:Value)(A:Zt)(a:List Env)(s:Shared)(H:Hp)(vs:List V)(Q:VK)(E:XK),Room k (A.deeper (XB b (aC st) ↥s f c))->sp vs H Q E ->
   ∃t,PSs (Fb CX0 P w K mg base N b (aC st) f c A a s H E).nox (fM st) t/\t { nx:=λ_ H'=>Q .non H',rt:=Q } (start N vs) H):FnOk P w K mg base CX0 (k+1) f g ps sp:=by
 let⟨o,p,kV,i,r,m,c,n,l,rfl,j,hcd⟩:=F.ex;refine Xz j hcd S e λA a s H vs Q E hr hsp=>?_;let⟨t,h,q⟩:=d c A a s H vs Q E hr hsp;exact⟨t,h.nox,q⟩
def Fun.binds{x a:Str}{st:ZH}{f:Addr}{i:YY}{ps:List Str}(F:Fun K x a st f i)(h:∀(kV c g:Value)(d:Option Addr)(b e:Value)(us:List Value),⇑us=⇑ps->bindArgs (W.fnOf x a (jR st) (fM st) (aC st) .none kV c g d b e) ⟨us,[]⟩=pure (ps.zip us):=by intro _ _ _ _ _ _ us hl;first|(let⟨_,rfl⟩:=Nf.len1 us hl;rfl)|(let⟨_,_,rfl⟩:=Nf.len2 us hl;rfl)|(let⟨_,_,_,rfl⟩:=Nf.YQ us hl;rfl)):Binds K i ps []:=by
 let⟨l,m,kV,c,g,d,b,e,j,rfl,k,hcd⟩:=F.ex;exact .all (h kV c g d b e)
def MP{x a:Str}{st:ZH}{f:Addr}{j:Value}{m g:Option Addr}{e:Array (Option Value)}{kV d i b h:Value}(l:K.lookup f=some ⟨j,m,.func (W.fnOf x a (jR st) (fM st) (aC st) .none kV d i g b h),e⟩)(c:W.codeIn K b a=true)(k:W.keepIn K (.ref f)=true):Fun K x a st f (W.fnOf x a (jR st) (fM st) (aC st) .none kV d i g b h):=⟨⟨j,m,kV,d,i,g,b,h,e,rfl,l,c⟩,k⟩
end
section
variable{X:Cx}
def pv(i:Nat){x:Str}{pos:Pos}(hN:X.N[i]?=some x:=by rfl)(hv:Vis X.env.scope x:=by first|exact Or.inl rfl|exact Or.inr (Or.inl rfl)|exact Or.inr (Or.inr rfl))(hd:(x==("__debug__":Str))=false:=by decide)(hcd:(x==("__classdict__":Str))=false:=by decide):PE X (.Name x pos) (jX i):=Uc hN hv hd hcd
end
def aA{A B:Prop}(h:B):if false=true then A else B:=by
 rw[eH Ð];exact h
def au{A B:Prop}(h:A):if true=true then A else B:=by
 rw[eD rfl];exact h
def bC{c A B:Prop}[Decidable c](h1:c->A)(h2:¬c->B):if c then A else B:=by
 by_cases h:c
 ·rw[eD h];exact h1 h
 ·rw[eH h];exact h2 h
def Same(H a:Hp):Prop:=∀b o,H b=some o->a b=some o
def Same.refl(H:Hp):Same H H:=λ_ _ h=>h
def Same.trans{H d e:Hp}(a:Same H d)(b:Same d e):Same H e:=λc o h=>b c o (a c o h)
structure CB where
 cl:List (Str×Addr)
 C:Addr
 s:Shared
 H:Hp
 ex:List Addr
abbrev Cx.bJ(X:Cx)(own M:List Str)(scope:Zu)(c:CB):Cx where
 prog:=X.prog
 w:=X.w
 K:=X.K
 mg:=X.mg
 base:=X.base
 A:=X.A
 N:=own++M
 s₀:=c.s
 H₀:=c.H
 env:=compEnvC scope c.cl c.C X.env
 outer:=X.stack
 stack:=X.stack
 ex:=c.ex
 fn:=λx=>scope.names.lookup x==some .cell
 calm:=X.calm
 pn:=[]
 sf:=X.sf
 xe:=λ_ _=>False
abbrev Cx.comp(X:Cx)(own:List Str)(scope:Zu)(c:CB):Cx:=X.bJ own X.N scope c
def cZ(cells:List (Str×Addr)):List (Str×NameKind)->List (Str×Addr)->List (Str×Addr)
 |[],acc=>acc
 |(n,k)::r,acc=>if k==.free then cZ cells r ((n,(cells.lookup n).getD 0)::acc)else cZ cells r acc
theorem iI{env:Env}:∀(names:List (Str×NameKind))(acc:List (Str×Addr)),(∀x∈names,x.2=.free->∃c,env.cells.lookup x.1=some c) ->
  (forIn names acc λ(p:Str×NameKind) (r:List (Str×Addr))=>match p with
   |(name,kind)=>if(kind==Ĉ)=true then do let a ←WH env name;pure (ĸ ((name,a)::r))else pure (ĸ r):Sem (List (Str×Addr)))=pure (cZ env.cells names acc)
 |[],acc,_=>by simp[cZ]
 |(n,k)::r,acc,h=>by
  rw[List.forIn_cons];by_cases hk:(k==Ĉ)=true
  ·let⟨c,hc⟩:=h (n,k) Í (by simpa using hk);have e:WH env n=pure c:=by unfold WH;rw[hc]
   have b:=iI (env:=env) r ((n,c)::acc) λx hx=>h x (É _ hx);show((if(k==Ĉ)=true then do let a ←WH env n;pure (ĸ ((n,a)::acc))else pure (ĸ acc)) >>=_:Sem _)=_;rw[eD hk,e];unfold cZ;rw[eD hk,hc];exact b
  ·have b:=iI (env:=env) r acc λx hx=>h x (É _ hx);show((if(k==Ĉ)=true then do let a ←WH env n;pure (ĸ ((n,a)::acc))else pure (ĸ acc)) >>=_:Sem _)=_;rw[eH hk];unfold cZ;rw[eH hk];exact b
def Fj{b:Zu}{env:Env}(h:∀x∈b.names,x.2=.free->∃c,env.cells.lookup x.1=some c):WJ b env=pure (cZ env.cells b.names []):=by
 have e:=iI (env:=env) b.names [] h;unfold WJ;show(forIn b.names [] _ >>=λcs=>pure cs:Sem _)=_;have d:(forIn b.names ([]:List (Str×Addr)) λ(p:Str×NameKind) (r:List (Str×Addr))=>match p with
   |(name,kind)=>if(kind==Ĉ)=true then do let a ←WH env name;pure (ĸ ((name,a)::r))else pure (ĸ r):Sem (List (Str×Addr)))=pure (cZ env.cells b.names []):=e
 rw[d];rfl
theorem nM{cells:List (Str×Addr)}{x:Str}{c:Addr}:∀{names:List (Str×NameKind)}{acc:List (Str×Addr)},(cZ cells names acc).lookup x=some c->acc.lookup x=some c\/((x,Ĉ)∈names/\c=(cells.lookup x).getD 0)
 |[],acc,h=>.inl h
 |(n,k)::r,acc,h=>by
  unfold cZ at h;by_cases hk:(k==Ĉ)=true
  ·rw[eD hk]at h;have a:k=.free:=by simpa using hk
   rcases nM h with q|⟨d,f⟩
   ·rw[Œ]at q;cases b:x==n with
    |true =>
     rw[b]at q;have e:x=n:=by simpa using b
     subst e a;exact .inr ⟨Í,(Ö q).symm⟩
    |false=>rw[b]at q;exact .inl q
   ·exact .inr ⟨É _ d,f⟩
  ·rw[eH hk]at h;rcases nM h with q|⟨d,f⟩
   ·exact .inl q
   ·exact .inr ⟨É _ d,f⟩
theorem uO{cells:List (Str×Addr)}{x:Str}:∀{names:List (Str×NameKind)}{acc:List (Str×Addr)},(acc.lookup x).isSome=true->((cZ cells names acc).lookup x).isSome=true
 |[],_,h=>h
 |(n,k)::r,acc,h=>by
  unfold cZ;split
  ·refine uO ?_;rw[Œ];cases a:x==n <;> simp[h]
  ·exact uO h
theorem jB{cells:List (Str×Addr)}{x:Str}:∀{names:List (Str×NameKind)}{acc:List (Str×Addr)},(x,Ĉ)∈names->((cZ cells names acc).lookup x).isSome=true
 |(n,k)::r,acc,h=>by
  unfold cZ;rcases Þ.mp h with e|h
  ·cases e;rw[eD (by rfl)];exact uO (by simp[Œ])
  ·split
   ·exact jB h
   ·exact jB h
def fu(env:Env)(a:Zu)(N:List Str):Bool :=
 (a.kind==.function)&&a.names.all λy=>match y.2 with
  |.local=>!(N.contains y.1)&&(a.names.lookup y.1==some .local)
  |.cell=>!(N.contains y.1)&&(a.names.lookup y.1==some .cell)
  |.free=>(a.names.lookup y.1==some .free)&&(env.kindOf y.1==some .cell || env.kindOf y.1==some .free)
  |_=>true
theorem cX{env:Env}:∀{names:List (Str×NameKind)}{x:Str}{q:NameKind},(names.map λ(n,k)=>if(k==Ĉ&&env.scope.kind==.function&&env.kindOf n==some .cell)then(n,Ğ)else(n,k)).lookup x=some q ->
  ∃k,(x,k)∈names/\names.lookup x=some k/\(q=k\/(q=.cell/\k=.free))
 |[],_,_,h=>by simp at h
 |(n,k)::r,x,q,h=>by
  have d:=@cX env r x q;have h':List.lookup x ((if(k==Ĉ&&env.scope.kind==.function&&env.kindOf n==some .cell)=true then(n,Ğ)else(n,k))::(r.map λ(n,k)=>if(k==Ĉ&&env.scope.kind==.function&&env.kindOf n==some .cell)then(n,Ğ)else(n,k)))=some q:=h;by_cases hc:(k==Ĉ&&env.scope.kind==.function&&env.kindOf n==some .cell)=true
  ·rw[eD hc,Œ]at h';cases a:x==n with
   |true =>
    rw[a]at h';have e:x=n:=by simpa using a
    subst e;have hk:k=.free:=by simp at hc;exact hc.1.1
    exact⟨k,Í,by simp[Œ],.inr ⟨(Ö h').symm,hk⟩⟩
   |false =>
    rw[a]at h';let⟨c,h1,h2,b⟩:=d h';exact⟨c,É _ h1,by rw[Œ,a];exact h2,b⟩
  ·rw[eH hc,Œ]at h';cases a:x==n with
   |true =>
    rw[a]at h';have e:x=n:=by simpa using a
    subst e;exact⟨k,Í,by simp[Œ],.inl (Ö h').symm⟩
   |false =>
    rw[a]at h';let⟨c,h1,h2,b⟩:=d h';exact⟨c,É _ h1,by rw[Œ,a];exact h2,b⟩
def HOk.track{P:Zc}{w:Zd}{H:Hp}{h:Zi}{a:Addr}{o:HO}(x:HOk P w H h)(hn:H a=none)(new:bf P w (upd H a o) h a o):HOk P w (upd H a o) h:=λb u e=>by
 by_cases hb:b=a
 ·subst hb;rw[ao]at e;cases e;exact new
 ·rw[aj hb]at e;exact(x b u e).stay (λc v _ q=>q) (λc q=>by rw[aj (ak q hn)];exact q) λc xs q=>by rw[aj (ak q hn)];exact q
def Jd{prog:Zc}{w:Zd}{A:Zt}{s:Shared}{e a d:Zv}{f:List Zv}{b:Zu}{pos:Pos}{it acc:Value}{env:Env}{R:Result->Shared->Prop}(I:Nat->Shared->Prop)(g:∀n s,I n s->wpAny (model prog w) A (Z5 it) (λr s₁=>match r with
   |none=>R (.ok .next) s₁
   |some v=>wpAny (model prog w) A (Z6 a it v) (λ_ s₀=>wpAny (model prog w) A (ZU a env v) (λ_ s₂ =>
     wpAny (model prog w) A (forIn f true λc r=>if r=true then do let ok ←ZG c env (Zx c env);pure (ĸ ok)else pure (ĸ r)) (λok s₃ =>
      if ok=true then wpAny (model prog w) A (Zx e env) (λx s₄ =>
       wpAny (model prog w) A (YI (.builtin "list.append") [acc,x]) (λ_ s₅=>∃m,m<n/\I m s₅) (λ_ _=>False) s₄) (λ_ _=>False) s₃
      else ∃m,m<n/\I m s₃) (λ_ _=>False) s₂) (λ_ _=>False) s₀) (λ_ _=>False) s₁) (λ_ _=>False) s)(n:Nat)(h:I n s):Y2 (model prog w) A (.compLoop (.ListComp e [⟨a,d,f,0⟩] b pos) 0 it acc env) R s:=by
 refine codeAny_loop rfl I (λn s hI=>?_) n h;show wpAny _ A ((compTurn (.ListComp e [⟨a,d,f,0⟩] b pos) 0 it acc env).onRaise (λx=>do noteFrame x env;theTreesLotGoes x)) _ _ s;refine wpAny_noted ?_;rw[compTurn_list];refine Æ (ZZ (Æ (ř (g n s hI) (λr s₁ h₁=>?_) λ_ _ h'=>h'.elim)));cases r with
 |none=>exact Ù h₁
 |some v =>
  refine Æ (ř h₁ (λ_ s₀ h₀'=>?_) λ_ _ h'=>h'.elim);refine Æ (ř h₀' (λ_ s₂ h₂=>Æ (ř h₂ (λok s₃ h₃=>?_) λ_ _ h'=>h'.elim)) λ_ _ h'=>h'.elim);cases ok with
  |false=>exact Ù ⟨rfl,h₃⟩
  |true =>
   exact Æ (Æ (ř h₃ (λx s₄ h₄=>Æ (ř h₄ (λ_ s₅ h₅=>Ù (Ù ⟨rfl,h₅⟩)) λ_ _ h'=>h'.elim)) λ_ _ h'=>h'.elim))
def PTs(X:Cx)(a:List Zv)(t:TT):Prop :=
 ∀(pins:List (Addr×Obj))(s:Shared)(σ:St)(H:Hp)(Q:Bool->Hp->Prop),Inv X pins σ H s->t σ H Q ->
  wpAny (model X.prog X.w) X.A (forIn a true λc r=>if r=true then do let ok ←ZG c X.env (Zx c X.env);pure (ĸ ok)else pure (ĸ r)) (TP X pins σ Q) X.xe s
def O9{X:Cx}:PTs X [] (λ_ H Q=>Q true H):=λ_ _ _ H _ I h=>wpAny_tests_nil ⟨H,I,h⟩
def O8{X:Cx}{c:Zv}{t:TT}(hc:PT X c t):PTs X [c] t:=λpins s σ H Q I h=>wpAny_tests_one (hc pins s σ H Q I h)
def Yq(J:It)(n:Nat)(g:CB->TG)(d:CB->TT)(a:CB->TE)(σ:St)(Q:VK)(H:Hp):Prop:=∃W:Nat->Nat->List V->Hp->Prop,(∃m,W 0 m [] H)/\∀(c:CB) i m ys H,W i m ys H ->
 (J.stop i H/\∀p,H p=none->Q (.ref p) (upd H p (.lst ys)))∨
 (J.go i H/\⇑ys<sizeLine/\∃N:List V->Hp->Prop,(∀ys' H',N ys' H'->∃m',m'<m/\W (i+1) m' ys' H')/\∀x H',J.yld i H x H'->g c x (Ú n none++σ) H' λσ2 H2=>d c σ2 H2 λb H3 =>
  if b=true then a c σ2 H3 λv H4=>N (ys++[v]) H4 else N ys H3)
def tLC(n:Nat)(c:TI)(g:CB->TG)(b:CB->TT)(a:CB->TE):TE:=λσ H Q=>c σ H λJ H1=>Yq J n g b a σ Q H1
section
variable{X:Cx}{own:List Str}{scope:Zu}{tg iter elt:Zv}{ifs:List Zv}{pos:Pos}{wi:TI}{g:CB->TG}{tt:CB->TT}{te:CB->TE}
def bA(env:Env)(scope:Zu)(N M:List Str):Bool :=
 fu env scope M&&((⇑N==⇑M)&&(N.zip M).all λy=>y.1==y.2 || ((y.2==("":Str))&&scope.names.all λz=>!(z.1==("":Str))))
def Bv{env:Env}{N:List Str}(h:fu env scope N=true):bA env scope N N=true:=by
 unfold bA;rw[h,ÿ,eK,ÿ,Ĕ];rintro⟨a,b⟩ c;let⟨i,hi,e⟩:=Ŷ.mp c;rw[List.getElem_zip]at e;cases e;simp
variable{M:List Str}
def eE(h:bA X.env scope X.N M=true):scope.kind=.function:=by
 unfold bA fu at h;simp only[Ï,eM]at h;exact h.1.1
def bR(h:bA X.env scope X.N M=true):∀y∈scope.names,(y.2=.local->y.1∉M/\scope.names.lookup y.1=some .local)/\(y.2=.cell->y.1∉M/\scope.names.lookup y.1=some .cell)/\(y.2=.free->scope.names.lookup y.1=some .free/\(X.env.kindOf y.1=some .cell\/X.env.kindOf y.1=some .free)):=by
 unfold bA at h;rw[Ï]at h;have h:=h.1;unfold fu at h;rw[Ï,Ĕ]at h;intro y a;have q:=h.2 y a;let⟨n,k⟩:=y;cases k with
 |«local»=>simp at q ⊢;exact q
 |cell=>simp at q ⊢;exact q
 |free=>simp at q ⊢;exact q
 |globalExplicit=>simp
 |globalImplicit=>simp
theorem aZ:∀(names:List (Str×NameKind))(n:Nat)(acc:List (Str×Addr)),cellsFrom n names acc=cellsFrom n names []++acc
 |[],_,_=>rfl
 |(nm,k)::r,n,acc=>by
  show(if(k==Ğ)=true then cellsFrom (n+1) r ((nm,n)::acc)else cellsFrom n r acc)=(if(k==Ğ)=true then cellsFrom (n+1) r [(nm,n)]else cellsFrom n r [])++acc;split
  ·rw[aZ r (n+1) ((nm,n)::acc),aZ r (n+1) [(nm,n)],Ş];rfl
  ·exact aZ r n acc
theorem eN:∀(names:List (Str×NameKind))(n:Nat)(x:Str)(c:Addr),(x,c)∈cellsFrom n names []->(x,Ğ)∈names/\n<=c
 |[],_,_,_,h=>nomatch h
 |(nm,k)::r,n,x,c,h=>by
  have h:(x,c)∈(if(k==Ğ)=true then cellsFrom (n+1) r [(nm,n)]else cellsFrom n r []):=h;split at h
  ·rename_i hk;rw[aZ]at h;rcases â.mp h with z|z
   ·let⟨h1,h2⟩:=eN r (n+1) x c z;exact⟨É _ h1,()⟩
   ·have z:(x,c)=(nm,n):=by simpa using z
    cases z;have hk:k=.cell:=by simpa using hk
    subst hk;exact⟨Í,Õ _⟩
  ·let⟨h1,h2⟩:=eN r n x c h;exact⟨É _ h1,h2⟩
theorem pG:∀(names:List (Str×NameKind))(n:Nat)(x y:Str)(c:Addr),(x,c)∈cellsFrom n names []->(y,c)∈cellsFrom n names []->x=y
 |[],_,_,_,_,h,_=>nomatch h
 |(nm,k)::r,n,x,y,c,h,h'=>by
  have h:(x,c)∈(if(k==Ğ)=true then cellsFrom (n+1) r [(nm,n)]else cellsFrom n r []):=h;have h':(y,c)∈(if(k==Ğ)=true then cellsFrom (n+1) r [(nm,n)]else cellsFrom n r []):=h';by_cases hk:(k==Ğ)=true
  ·rw[eD hk,aZ]at h h';rcases â.mp h with z|z <;> rcases â.mp h' with a|a
   ·exact pG r (n+1) x y c z a
   ·have:=(eN r (n+1) x c z).2;have a:(y,c)=(nm,n):=by simpa using a
    cases a;exact eI this (Nat.not_succ_le_self _)
   ·have:=(eN r (n+1) y c a).2;have z:(x,c)=(nm,n):=by simpa using z
    cases z;exact eI this (Nat.not_succ_le_self _)
   ·have z:(x,c)=(nm,n):=by simpa using z
    have a:(y,c)=(nm,n):=by simpa using a
    cases z;cases a;rfl
  ·rw[eH hk]at h h';exact pG r n x y c h h'
theorem jL:∀(names:List (Str×NameKind))(h:Zi)(b:Addr)(o:Obj),h.get? b=some o->(WN h names).get? b=some o
 |[],_,_,_,e=>e
 |(nm,k)::r,h,b,o,e=>by
  show(if(k==Ğ)=true then WN (h.push { cls:=ď "cell",data:=Data.cell none }) r else WN h r).get? b=some o;split
  ·exact jL r _ b o (Ò _ e)
  ·exact jL r h b o e
theorem n8:∀(names:List (Str×NameKind))(h:Zi)(x:Str)(c:Addr),(x,c)∈cellsFrom h.objs.size names []->(WN h names).IsCell c none
 |[],_,_,_,e=>nomatch e
 |(nm,k)::r,h,x,c,e=>by
  have e:(x,c)∈(if(k==Ğ)=true then cellsFrom (h.objs.size+1) r [(nm,h.objs.size)]else cellsFrom h.objs.size r []):=e;show(if(k==Ğ)=true then WN (h.push { cls:=ď "cell",data:=Data.cell none }) r else WN h r).IsCell c none;by_cases hk:(k==Ğ)=true
  ·rw[eD hk,aZ]at e;rw[eD hk];rcases â.mp e with z|z
   ·exact n8 r _ x c (by rw[Ń];exact z)
   ·have z:(x,c)=(nm,h.objs.size):=by simpa using z
    cases z;exact⟨_,jL r _ _ _ (è _ rfl),rfl⟩
  ·rw[eH hk]at e ⊢;exact n8 r h x c e
def DN{M:ZF}{A:Zt}{E:eQ}{s:Shared}{scope:Zu}{d:Addr}{c:List (Str×Addr)}{i:Str}{f:Option Addr}{e:Value}{b:Option Env}{a:Addr}{Q:Env->Shared->Prop}(h:Q (newEnv scope ↥s d (cellsFrom (↥s+1) scope.names c) i f e b a) { s with heap:=WN (s.heap.push { cls:=ď (if b.isSome=true then "dict" else "frame"),data:=Data.dict #[]}) scope.names }) :
  wpAny M A (WO scope d c [] i f e b a) Q E s:=by
 unfold WO;refine Æ (wpAny_alloc ?_);refine Æ (wpAny_layCells _ (λ_ _ _=>rfl) _ _ _ _ ?_);rw[Ń];exact Æ (Ù (Ù h))
def Vy{n:Nat}{names:List (Str×NameKind)}{a:List (Str×Addr)}{x:Str}{c:Addr}(h:(cellsFrom n names a).lookup x=some c):(x,c)∈cellsFrom n names []\/a.lookup x=some c:=by
 rw[aZ,List.lookup_append]at h;cases e:(cellsFrom n names []).lookup x with
 |none=>rw[e]at h;exact .inr h
 |some d =>
  rw[e]at h;cases h;exact .inl (ţ e)
def NQ{n:Nat}{names:List (Str×NameKind)}{a:List (Str×Addr)}{x:Str}(h:∀c,(x,c)∈cellsFrom n names []->False):(cellsFrom n names a).lookup x=a.lookup x:=by
 rw[aZ,List.lookup_append];cases e:(cellsFrom n names []).lookup x with
 |none=>rfl
 |some d=>exact(h d (ţ e)).elim
def Bg(h:bA X.env scope X.N M=true){n:Nat}{x:Str}(a:(x,Ĉ)∈scope.names):∀c,(x,c)∈cellsFrom n scope.names []->False:=λc z=>by
 have h1:=((bR h _ a).2.2 rfl).1;have h2:=((bR h _ (eN _ _ _ _ z).1).2.1 rfl).2;rw[h1]at h2;cases h2
def jA(h:bA X.env scope X.N M=true):⇑X.N=⇑M:=by
 unfold bA at h;rw[Ï,Ï]at h;exact eP h.2.1
def vZ{i:Nat}{x:Str}{k:NameKind}(h:bA X.env scope X.N M=true)(c:M[i]?=some x)(_:x∈M)(hn:(x,k)∈scope.names):X.N[i]?=some x:=by
 have hl:=jA h;unfold bA at h;rw[Ï,Ï,Ĕ]at h;have hi:i<⇑M:=(Ç.mp c).1;have a:M[i]=x:=(Ç.mp c).2;have b:i<⇑X.N:=()
 have q:=h.2.2 (X.N[i],M[i]) (by
  refine List.mem_iff_getElem.mpr ⟨i,by rw[List.length_zip];lia,?_⟩;rw[List.getElem_zip])
 rw[Bool.or_eq_true]at q;rcases q with q|q
 ·have q:X.N[i]=M[i]:=eP q;rw[Ë b,q,a]
 ·rw[Ï,Ĕ]at q;have e:M[i]=("":Str):=eP q.1;have z:=q.2 (x,k) hn;rw[←a,e]at z;simp at z
def Fi{w:List (Addr×Obj)}{σ:St}{H:Hp}{s:Shared}{G:List Addr}{h₁:Zi}{tk:Nat}(hk:bA X.env scope X.N M=true)(I:Inv X w σ H s)(R:∀b∈G,nQ X w H b)(L:∀b∈G,∃o,s.heap.get? b=some o)(Y:h₁.Ns (↥s+1) λ_=>none)(r:∀b o,s.heap.get? b=some o->h₁.get? b=some o)(hD:h₁.get? ↥s=some { cls:=.type "list",data:=.seq #[] 0 })(V:∀x c,(x,c)∈cellsFrom (↥s+2) scope.names []->h₁.IsCell c none) :
  Inv (X.bJ own M scope ⟨cellsFrom (↥s+2) scope.names (cZ X.env.cells scope.names []),↥s+1,s,H,G⟩) [(↥s,{ cls:=.type "list",data:=.seq #[] 0 })] (Ú ⇑own none++σ) H { s with heap:=h₁,toks:=tk }:=by
 have U:=eE hk;have a:=bR hk;have O:∀x,(x,Ĉ)∈scope.names->∃c,X.env.cells.lookup x=some c:=λx n=>I.ok.has x ((a _ n).2.2 rfl).2;have K:∀x c,(cZ X.env.cells scope.names []).lookup x=some c->X.env.cells.lookup x=some c/\(x,Ĉ)∈scope.names:=λx c e=>by
  rcases nM e with q|⟨E,S⟩
  ·simp at q
  ·let⟨c',F⟩:=O x E;rw[F]at S;exact⟨by rw[F,S];rfl,E⟩
 have d:∀x c,(cellsFrom (↥s+2) scope.names (cZ X.env.cells scope.names [])).lookup x=some c->(X.env.cells.lookup x=some c/\(x,Ĉ)∈scope.names/\c<↥s)\/((x,c)∈cellsFrom (↥s+2) scope.names []/\(x,Ğ)∈scope.names/\↥s+2<=c):=λx c e=>by
  rcases Vy e with z|z
  ·exact .inr ⟨z,eN _ _ _ _ z⟩
  ·let⟨h1,h2⟩:=K x c z;let⟨v,o,D,_⟩:=I.cell x c h1;exact .inl ⟨h1,h2,Ó D⟩
 have t:∀x,(WP scope X.env).names.lookup x=some .cell\/(WP scope X.env).names.lookup x=some .free->(x,Ĉ)∈scope.names\/(x,Ğ)∈scope.names:=λx n=>by
  have key:∀q,(WP scope X.env).names.lookup x=some q->q=.cell\/q=.free->(x,Ĉ)∈scope.names\/(x,Ğ)∈scope.names:=λq hq hq'=>by
   let⟨k,h1,h2,C⟩:=cX (env:=X.env) (names:=scope.names) hq;rcases C with C|⟨_,C⟩
   ·subst C;rcases hq' with z|z
    ·rw[z]at h1;exact .inr h1
    ·rw[z]at h1;exact .inl h1
   ·rw[C]at h1;exact .inl h1
  rcases n with n|n
  ·exact key _ n (.inl rfl)
  ·exact key _ n (.inr rfl)
 have Q:∀b o,s.heap.get? b=some o->b<↥s:=λb o e=>Ó e;refine⟨⟨I.ok.mod,U,I.ok.glob,I.ok.blt,ō _,λx y c h1 h2=>?inj,λx n=>?_,λx c z e=>?cab,I.ok.hd,I.ok.frames,.inl rfl,λb hb=>⟨?_,λx c e=>?exf⟩,I.bs,
   þ I.ok.bsz I.sz,λb o e hb=>?_,λb hb hs=>?_,I.stack,I.FP,λq hq=>⟨(I.ok.sof q hq).1,I.base.frzs _ _ _ (I.ok.sof q hq).2.1,(I.ok.sof q hq).2.2⟩⟩,rfl,I.bare,Un.kept r,⟨_,Y,λi x v h1 h2 C=>?_⟩,λx c e=>?_,?_,λx c e=>?frc,λp hp=>?_,I.hok.kept r,?_⟩
 case inj =>
  rcases d x c h1 with⟨A,_,B⟩|⟨A,_,B⟩ <;> rcases d y c h2 with⟨b1,_,b3⟩|⟨b1,_,b3⟩
  ·exact I.ok.inj x y c A b1
  ·exact eI (ð B (þ (Nat.le_add_right _ 2) b3)) (Ē _)
  ·exact eI (ð b3 (þ (Nat.le_add_right _ 2) B)) (Ē _)
  ·exact pG _ _ _ _ _ A b1
 case cab =>
  show ↥s<=c;rcases d x c e with⟨_,a2,_⟩|⟨_,_,B⟩
  ·have h1:=((a _ a2).2.2 rfl).1;have z:(scope.names.lookup x==some Ğ)=true:=z;rw[h1]at z;exact eI z ∅
  ·lia
 case exf =>
  rcases d x c e with⟨A,_,_⟩|⟨_,_,B⟩
  ·exact(R b hb).2.2.2.2.1 x c A
  ·let⟨o,e⟩:=L b hb;have:=Q b o e;intro z;subst z;exact eI (ð this (þ (Nat.le_add_right _ 2) B)) (Ē _)
 case frc =>
  rcases d x c e with⟨A,_,_⟩|⟨_,_,B⟩
  ·exact I.freeC x c A
  ·exact I.hok.fresh ()
 ·have hx':(WP scope X.env).names.lookup x=some .cell\/(WP scope X.env).names.lookup x=some .free:=n;refine Option.isSome_iff_exists.mp (W.cellsFrom_some _ _ _ ?_);rcases t x hx' with z|z
  ·exact .inr (jB z)
  ·exact .inl ((a _ z).2.1 rfl).2
 ·let⟨o,e⟩:=L b hb;exact ë (ĕ (Q b o e))
 ·have j:b∈G:=hb;rcases(R b j).2.2.2.1 with z|z
  ·exact I.ok.noex b o e z
  ·exact eI (ð (Ó (I.ok.bs b o e).1) z) (Ē _)
 ·have j:b∈G:=hb;rcases Þ.mp (I.Cv b hs)with z|z
  ·exact(R b j).2.1 z
  ·exact(R b j).2.2.1 z
 ·have hi:⇑own<=i:=by
   by_cases hi:i<⇑own
   ·rw[ù (by simpa using hi),List.getElem?_replicate]at h2;split at h2 <;> cases h2
   ·lia
  have f:M[i - ⇑own]?=some x:=by
   have q:(own++M)[i]?=some x:=h1
   rwa [Ā hi]at q
  have T:σ[i - ⇑own]?=some (some v):=by
   rw[Ā (by simpa using hi)]at h2;simpa using h2
  have J:Vis (WP scope X.env) x:=C;have l:(x,Ĉ)∈scope.names:=by
   rcases J with z|z
   ·let⟨k,E,S,h⟩:=cX (env:=X.env) (names:=scope.names) z;rcases h with h|⟨h,_⟩
    ·subst h;exact eI (Ì f) ((a _ E).1 rfl).1
    ·cases h
   ·rcases t x z with y|y
    ·exact y
    ·exact eI (Ì f) ((a _ y).2.1 rfl).1
  have P:=((a _ l).2.2 rfl).2;let⟨m,hm,hl⟩:=I.loc;let⟨u,ru,lu⟩:=hl _ x v (vZ hk f (Ì f) l) T (by rcases P with z|z;exact .inr (.inl z);exact .inr (.inr z));refine⟨u,ru,.inr ⟨?_,?_⟩⟩
  ·rcases J with z|z|z
   ·let⟨k,E,S,h⟩:=cX (env:=X.env) (names:=scope.names) z;rcases h with h|⟨h,_⟩
    ·subst h;exact eI (Ì f) ((a _ E).1 rfl).1
    ·cases h
   ·exact .inl z
   ·exact .inr z
  ·rcases lu with⟨z,_⟩|⟨_,c,e,ic⟩
   ·rcases P with q|q
    ·rw[q]at z;cases z
    ·rw[q]at z;cases z
   ·let⟨c',F⟩:=Option.isSome_iff_exists.mp (jB (cells:=X.env.cells) (acc:=[]) l);have e2:=(K x c' F).1;rw[e]at e2;cases e2;let⟨o,D,hd⟩:=ic;exact⟨c,(NQ (Bg hk l)).trans F,o,r _ _ D,hd⟩
 ·rcases d x c e with⟨z,_,_⟩|⟨z,_,_⟩
  ·let⟨v,o,D,hd⟩:=I.cell x c z;exact⟨v,o,r _ _ D,hd⟩
  ·exact⟨none,V x c z⟩
 ·exact I.hok.fresh (ō _)
 ·have Z:p=(↥s,{ cls:=.type "list",data:=.seq #[] 0 }):=by simpa using hp
  subst Z;refine⟨hD,I.hok.fresh (Õ _),ë (ŕ _),λz=>?_,λv z=>nomatch z⟩;let⟨_,o,D,_⟩:=I.stack.mem z;exact eI (Ó D) (Ē _)
 ·show(Ú ⇑own none++σ).length=⇑(own++M);rw[Ñ,Ñ,List.length_replicate,I.len,jA hk]
def Fg{c k:List (Addr×Obj)}{σ i:St}{H h:Hp}{s l:Shared}{j:List Addr}{m:List (Str×Addr)}{ys:List V}{us:List Value}{n:Nat}(I:Inv X c σ H s)(f:∀b∈j,nQ X c H b)(J:Inv (X.bJ own M scope ⟨m,↥s+1,s,H,j⟩) k i h l)(hp:(↥s,({ cls:=.type "list",data:=.seq us.toArray n }:Obj))∈k)(hv:Vals ys us)(r:⇑ys<=sizeLine) :
  Inv X c σ (upd h ↥s (.lst ys)) l/\h ↥s=none:=by
 let⟨p,a,_⟩:=J.pin _ (ç _ hp);refine⟨I.call' J.os ⟨λb o e n hb hx=>J.base.keep b o e n hb hx,λb o e n hb hx=>J.base.slot b o e n hb hx,λb o e n hx=>?_,λb o e hx=>J.base.there b o e hx,λb xs e=>?_,λb o u e=>?_,λb ps e=>?_⟩ ?_ J.bare ?_,a⟩
 ·rw[aj (ë (Ó e))];exact J.base.free b o e n hx
 ·have q:=J.base.tups b xs e;rw[aj (ak q a)];exact q
 ·have q:=J.base.frzs b o u e;rw[aj (ak q a)];exact q
 ·let⟨d,q⟩:=J.base.tbls b ps e;exact⟨d,by rw[aj (ak q a)];exact q⟩
 ·exact J.hok.track a ⟨r,us,n,hv,p⟩
 ·intro b hb;exact⟨(f b hb).2.2.2.1,(f b hb).2.1,(f b hb).2.2.2.2.1,(f b hb).2.2.2.2.2⟩
def uL{d K:List (Addr×Obj)}{σ E:St}{H F:Hp}{s L:Shared}{w:List Addr}{t:List (Str×Addr)}(hk:bA X.env scope X.N M=true)(I:Inv X d σ H s)(P:∀b∈w,nQ X d H b)(B:∀x,(x,Ĉ)∈scope.names->∃c,t.lookup x=some c/\X.env.cells.lookup x=some c)(J:Inv (X.bJ own M scope ⟨t,↥s+1,s,H,w⟩) K E F L):Inv (X.bJ own M scope ⟨t,↥s+1,s,H,w⟩) K (Ú ⇑own none++σ) F L:=by
 have j:=bR hk;refine⟨J.ok,J.os,J.bare,J.base,?_,J.cell,J.free,J.freeC,J.pin,J.hok,?_⟩
 ·let⟨T,C,_⟩:=J.loc;refine⟨T,C,λi x v h1 h2 f=>?_⟩;have hi:⇑own<=i:=by
   by_cases hi:i<⇑own
   ·rw[ù (by simpa using hi),List.getElem?_replicate]at h2;split at h2 <;> cases h2
   ·lia
  have a:M[i - ⇑own]?=some x:=by
   have q:(own++M)[i]?=some x:=h1
   rwa [Ā hi]at q
  have y:σ[i - ⇑own]?=some (some v):=by
   rw[Ā (by simpa using hi)]at h2;simpa using h2
  have A:Vis (WP scope X.env) x:=f;have p:¬(WP scope X.env).names.lookup x=some .local:=λz=>by
   let⟨k,U,Y,r⟩:=cX (env:=X.env) (names:=scope.names) z;rcases r with r|⟨r,_⟩
   ·subst r;exact eI (Ì a) ((j _ U).1 rfl).1
   ·cases r
  have l:(WP scope X.env).names.lookup x=some .cell\/(WP scope X.env).names.lookup x=some .free:=by
   rcases A with z|z
   ·exact eI z p
   ·exact z
  have h:(x,Ĉ)∈scope.names:=by
   have key:∀q,(WP scope X.env).names.lookup x=some q->q=.cell\/q=.free->(x,Ĉ)∈scope.names:=λq hq hq'=>by
    let⟨k,h1,h2,f⟩:=cX (env:=X.env) (names:=scope.names) hq;rcases f with f|⟨_,f⟩
    ·subst f;rcases hq' with z|z
     ·rw[z]at h1;exact eI (Ì a) ((j _ h1).2.1 rfl).1
     ·rw[z]at h1;exact h1
    ·rw[f]at h1;exact h1
   rcases l with D|D
   ·exact key _ D (.inl rfl)
   ·exact key _ D (.inr rfl)
  have n:=((j _ h).2.2 rfl).2;let⟨m,hm,hl⟩:=I.loc;let⟨u,V,S⟩:=hl _ x v (vZ hk a (Ì a) h) y (by rcases n with z|z;exact .inr (.inl z);exact .inr (.inr z));refine⟨u,V,.inr ⟨l,?_⟩⟩;rcases S with⟨z,_⟩|⟨_,c,e,R⟩
  ·rcases n with q|q
   ·rw[q]at z;cases z
   ·rw[q]at z;cases z
  ·let⟨W,O,G⟩:=B x h;rw[e]at G;cases G;let⟨o,Q,hd⟩:=R;let⟨Z,q⟩:=J.base.any Q (I.freeC x c e) λz=>(P c z).2.2.2.2.1 x c e rfl;exact⟨c,O,_,q,hd⟩
 ·show(Ú ⇑own none++σ).length=⇑(own++M);rw[Ñ,Ñ,List.length_replicate,I.len,jA hk]
def vW{t:List (Addr×Obj)}{σ:St}{H:Hp}{s:Shared}{it:Addr}{a:List Addr}{tn:Nat->Zi->Prop}{J:It}{W:Nat->Nat->List V->Hp->Prop}{E:eQ}{RR:Value->Addr->Result->Shared->Prop}{Cm:Cx->Prop}(hc:∀c,Cm (X.bJ own M scope c))(hk:bA X.env scope X.N M=true)(hg:∀c,PG (X.bJ own M scope c) tg (g c))(ht:∀c,PTs (X.bJ own M scope c) ifs (tt c))(he:∀c,PE (X.bJ own M scope c) elt (te c))(I:Inv X t σ H s)(T:TurnG Cm X.prog X.w X.K tg J a it tn)(st:tn 0 s.heap)(U:∀b∈a,nQ X t H b){m0:Nat}(w0:W 0 m0 [] H){D:List V->Hp->Prop}(turn:∀(c:CB) i m ys H,W i m ys H->(J.stop i H/\D ys H)∨
   (J.go i H/\⇑ys<sizeLine/\∃N:List V->Hp->Prop,(∀ys' H',N ys' H'->∃m',m'<m/\W (i+1) m' ys' H')/\∀x H',J.yld i H x H'->g c x (Ú ⇑own none++σ) H' λσ2 H2=>tt c σ2 H2 λb H3 =>
    if b=true then te c σ2 H3 λv H4=>N (ys++[v]) H4 else N ys H3))(fin:∀s' m' ys H',(s'.heap.Ns (↥s+1) m')->H' (↥s+1)=none->H' ↥s=none->Inv X t σ (upd H' ↥s (.lst ys)) s'->D ys H'->RR (.ref ↥s) (↥s+1) (.ok .next) s') :
  wpAny (model X.prog X.w) X.A (WS []) (λacc s₃=>wpAny (model X.prog X.w) X.A (WO scope X.env.globals (cZ X.env.cells scope.names []) [] X.env.qual none .none (some X.env)) (λcenv s₄ =>
   Y2 (model X.prog X.w) X.A (.compStart (.ListComp elt [⟨tg,iter,ifs,0⟩] scope pos) 0 (.ref it) acc { cenv with scope:=WP scope X.env }) (RR acc cenv.locals) s₄) E s₃) E s:=by
 have hkk:=eE hk;have hka:=bR hk;refine ŧ (DN ?_);dsimp only;have hC:(s.heap.push { cls:=.type "list",dict:=none,data:=.seq ([]:List Value).toArray }).objs.size=↥s+1:=Ń ..;rw[hC];generalize R:s.heap.push { cls:=.type "list",dict:=none,data:=.seq ([]:List Value).toArray }=H2 at hC ⊢;generalize L:H2.push { cls:=ď (if(some X.env:Option Env).isSome=true then "dict" else "frame"),data:=Data.dict #[]}=H3;generalize Z:WN H3 scope.names=h₁;have hC3:H3.objs.size=↥s+2:=by rw[←L,Ń,hC]
 have G:∀b o,H3.get? b=some o->h₁.get? b=some o:=λb o e=>Z ▸ jL _ _ _ _ e;have F:∀b o,H2.get? b=some o->h₁.get? b=some o:=λb o e=>G b o (L ▸ Ò _ e);have old:∀b o,s.heap.get? b=some o->h₁.get? b=some o:=λb o e=>F b o (R ▸ Ò _ e);have S:h₁.get? ↥s=some { cls:=.type "list",data:=.seq #[] 0 }:=F _ _ (R ▸ è _ rfl);have hns:h₁.Ns (↥s+1) λ_=>none:=by
  have z:=Heap.Ns.new H2 (ď (if(some X.env:Option Env).isSome=true then "dict" else "frame"));rw[hC,L]at z;exact z.keeps G
 have hnc:∀x c,(x,c)∈cellsFrom (↥s+2) scope.names []->h₁.IsCell c none:=λx c e=>by
  rw[←hC3]at e;exact Z ▸ n8 _ _ _ _ e
 have Y:∀b∈a,∃o,s.heap.get? b=some o:=λb hb=>let⟨o,e,_⟩:=T.obj 0 _ st b hb;⟨o,e⟩
 have B:tn 0 h₁:=T.keep 0 _ _ st λb _ o e=>old b o e;have h:=Fi (own:=own) (tk:=s.toks) hk I U Y hns old S hnc;have C:∀s₃:Shared,s₃={ s with heap:=h₁,toks:=s.toks } ->
   Y2 (model X.prog X.w) X.A (.compLoop (.ListComp elt [⟨tg,iter,ifs,0⟩] scope pos) 0 (.ref it) (.ref ↥s) (compEnvC scope (cellsFrom (↥s+2) scope.names (cZ X.env.cells scope.names [])) (↥s+1) X.env))
    (RR (.ref ↥s) (↥s+1)) s₃:=by
  rintro s₃ rfl;have neD:∀b∈a,b≠↥s:=λb hb=>by
   let⟨o,e⟩:=Y b hb;exact ë (Ó e)
  have y:∀{H':Hp}{o:Obj},(∀b∈a,H' b=none)->∀b∈a,nQ (X.bJ own M scope ⟨cellsFrom (↥s+2) scope.names (cZ X.env.cells scope.names []),↥s+1,s,H,a⟩) [(↥s,o)] H' b:=λ{H' o} hn b hb =>
   ⟨hn b hb,(h.ok.exf b hb).1,h.ok.exfs b hb,.inl hb,(h.ok.exf b hb).2,λp hp=>by
    have l:p=(↥s,o):=by simpa using hp
    subst l;exact Ĩ (neD b hb)⟩
  refine Jd (λk s'=>∃i ys us n H',Inv (X.bJ own M scope ⟨cellsFrom (↥s+2) scope.names (cZ X.env.cells scope.names []),↥s+1,s,H,a⟩) [(↥s,{ cls:=.type "list",data:=.seq (us:List Value).toArray n })] (Ú ⇑own none++σ) H' s' /\
    Vals ys us/\⇑ys<=sizeLine/\tn i s'.heap/\(∀b∈a,H' b=none)/\W i k ys H') ?_ m0 ⟨0,[],[],0,H,h,.nil,Ă _,B,λb hb=>(U b hb).1,w0⟩
  rintro k s3 ⟨i,ys,us,n,H3,I3,hv,hz,st3,P,w3⟩;rcases turn ⟨cellsFrom (↥s+2) scope.names (cZ X.env.cells scope.names []),↥s+1,s,H,a⟩ i k ys H3 w3 with⟨stop,d⟩|⟨go,hlt,N,hN,step⟩
  ·refine thn (T.done (X.bJ own M scope ⟨cellsFrom (↥s+2) scope.names (cZ X.env.cells scope.names []),↥s+1,s,H,a⟩) rfl rfl rfl (hc _) i _ s3 _ H3 _ I3 (y P) st3 stop) λr s4 ⟨hr,I4⟩=>?_;subst hr;let⟨m',j,_⟩:=I4.loc;let⟨J4,hDn⟩:=Fg I U I4 (Ê.mpr rfl) hv hz;exact fin s4 m' ys H3 j I4.free hDn J4 d
  ·refine thn (T.item (X.bJ own M scope ⟨cellsFrom (↥s+2) scope.names (cZ X.env.cells scope.names []),↥s+1,s,H,a⟩) rfl rfl rfl (hc _) i _ s3 _ H3 _ I3 (y P) st3 go) λr s4 ⟨u,hr,h4⟩=>?_;subst hr;refine thn h4 λ_ s5 ⟨x,H5,I5,r5,y5,st5,fr5⟩=>?_;have I5':=I5.pinned (y fr5) (T.obj _ _ st5);refine thn (hg _ _ s5 _ H5 x u _ I5' r5 (step x H5 y5)) λ_ s6 ⟨σ6,H6,I6,q6⟩=>?_;refine thn (ht _ _ s6 σ6 H6 _ I6 q6) λb s7 ⟨H7,I7,q7⟩=>?_
   -- the turn's end: the iterator's records stand,the names are forgotten
   have O:∀x,(x,Ĉ)∈scope.names->∃c,(cellsFrom (↥s+2) scope.names (cZ X.env.cells scope.names [])).lookup x=some c/\X.env.cells.lookup x=some c:=λx hx=>by
    let⟨c,e⟩:=I.ok.has x ((hka _ hx).2.2 rfl).2;let⟨c',e'⟩:=Option.isSome_iff_exists.mp (jB (cells:=X.env.cells) (acc:=[]) hx);rcases nM e' with q|⟨_,q⟩
    ·simp at q
    ·rw[e]at q;exact⟨c',(NQ (Bg hk hx)).trans e',by rw[e,q];rfl⟩
   have f:∀{H':Hp}{σ':St}{s':Shared}{pn:List (Addr×Obj)},(∀p∈jd a s5.heap,p∈pn)->Inv (X.bJ own M scope ⟨cellsFrom (↥s+2) scope.names (cZ X.env.cells scope.names []),↥s+1,s,H,a⟩) pn σ' H' s'->tn (i+1) s'.heap/\∀b∈a,H' b=none:=λ{H' σ' s' pn} hs I' =>
    ⟨T.keep _ _ _ st5 λb hb o e=>(I'.pin (b,o) (ç _ (hs _ (iy hb e)))).1,λb hb=>by
     let⟨o,e,_⟩:=T.obj _ _ st5 b hb;exact(I'.pin (b,o) (ç _ (hs _ (iy hb e)))).2.1⟩
   cases b with
   |false =>
    rw[eH Ð];rw[eH Ð]at q7;let⟨m',j,w7⟩:=hN _ _ q7;let⟨t7,f7⟩:=f (λp hp=>ç _ hp) I7;exact⟨m',j,i+1,ys,us,n,H7,uL hk I U O I7.lG,hv,hz,t7,f7,w7⟩
   |true =>
    rw[eD rfl];rw[eD rfl]at q7;refine thn (he _ _ s7 σ6 H7 _ I7 q7) λu8 s8 ⟨v8,H8,I8,r8,q8⟩=>?_;let⟨m',j,w8⟩:=hN _ _ q8;let⟨t8,f8⟩:=f (λp hp=>ç _ hp) I8;let⟨Q,nD8,lD8,fD8,_⟩:=I8.pin (↥s,{ cls:=.type "list",data:=.seq us.toArray n }) (ç _ (é _ (Ê.mpr rfl)));refine append_at (hsz:=by rw[Ø,←⇑hv];exact Nat.le_of_lt hlt) Q λh9 hs9 hD9=>?_;have J8:Inv (X.bJ own M scope ⟨cellsFrom (↥s+2) scope.names (cZ X.env.cells scope.names []),↥s+1,s,H,a⟩) (jd a s5.heap) σ6 H8 s8:=I8.qJ λp hp=>I8.pin p (ç _ (ç _ hp));have J9:Inv (X.bJ own M scope ⟨cellsFrom (↥s+2) scope.names (cZ X.env.cells scope.names []),↥s+1,s,H,a⟩) (jd a s5.heap) σ6 H8 { s8 with heap:=h9 }:=J8.turned (t':=s8.toks) (it:=↥s) (λb o hb e=>(hs9.2 b hb).trans e) nD8 lD8 (.inr (Õ _))
     (λx c e z=>by
      let⟨v,o,ho,hd⟩:=J8.cell x c e;rw[z,Q]at ho;cases ho;cases hd)
     (λp hp=>by
      have l:p∈jd a s5.heap:=by simpa using hp
      exact neD _ (vI l).1)
    let⟨t9,f9⟩:=f (λp hp=>hp) J9;have e9:h9.get? ↥s=some { cls:=.type "list",data:=.seq (us++[u8]).toArray (n+1)}:=by
     rw[hD9,List.push_toArray]
    have J9':Inv (X.bJ own M scope ⟨cellsFrom (↥s+2) scope.names (cZ X.env.cells scope.names []),↥s+1,s,H,a⟩) [(↥s,{ cls:=.type "list",data:=.seq (us++[u8]).toArray (n+1)})] σ6 H8 { s8 with heap:=h9 }:=J9.qJ λp hp=>by
     have l:p=(↥s,{ cls:=.type "list",data:=.seq (us++[u8]).toArray (n+1)}):=by simpa using hp
     subst l;exact⟨e9,nD8,lD8,fD8,λv z=>nomatch z⟩
    exact⟨m',j,i+1,ys++[v8],us++[u8],n+1,H8,uL hk I U O J9',hv.append (.cons r8 .nil),by rw[Ñ,ì];exact hlt,t9,f9,w8⟩
 exact codeAny_compStart_list (C _ rfl) (T.self _ 0 _ _ _ B (C _ rfl))
def vY{a:List (Addr×Obj)}{σ:St}{H:Hp}{s:Shared}(hk:bA X.env scope X.N M=true)(I:Inv X a σ H s):WJ scope X.env=pure (cZ X.env.cells scope.names []) :=
 Fj λx hx hf=>I.ok.has x.1 ((bR hk x hx).2.2 hf).2
def vX{a:List (Addr×Obj)}{σ:St}{H:Hp}{s d:Shared}{C:Addr}{h':Zi}{m:Str->Option Value}(I:Inv X a σ H d)(hs:X.s₀.heap.objs.size<=C)(h:C≠X.env.locals)(f:∀x c,X.env.cells.lookup x=some c->c≠C)(hp:∀p∈X.pn++a,p.1≠C)(hn:H C=none)(hb:Heap.SameBut C d.heap h'):Inv X a σ H { d with heap:=h' }:=I.turned (t':=d.toks) (λb o hb' e=>(hb.2 b hb').trans e) hn h (.inr hs) f hp
def Uj(own M:List Str)(hc:X.calm=true)(hi:PI X tg iter wi)(hg:∀c,PG (X.bJ own M scope c) tg (g c))(ht:∀c,PTs (X.bJ own M scope c) ifs (tt c))(he:∀c,PE (X.bJ own M scope c) elt (te c))(hk:bA X.env scope X.N M=true:=by rfl)(hs:∀x,Zz iter X.env x=pure x:=by intro _;rfl) :
  PE X (.ListComp elt [⟨tg,iter,ifs,0⟩] scope pos) (tLC ⇑own wi g tt te):=by
 intro a s σ H Q I h;rw[eval_ListComp];have n:=bR hk;refine WU (use:=none) rfl hs (vY hk I) (eE hk) (λx hx hl=>((n x hx).1 hl).2) (thn (hi a s σ H _ I h) λv s1 h1=>thn h1 λitv s2 h2=>?_);let⟨it,G,O,J,F,e,f,T,r,y,W,⟨K,B⟩,j⟩:=h2;subst e;refine vW (RR:=λacc C=>compPost (model X.prog X.w) X.A X.xe none (EP X a σ Q) acc C) (D:=λys H=>∀p,H p=none->Q (.ref p) (upd H p (.lst ys))) (λ_=>hc) hk hg ht he f T r y B j ?_;intro L t ys E q k l u d;have i:∀{b:Addr}{o:Obj},s2.heap.get? b=some o->b≠↥s2+1:=λe=>ë (ĕ (Ó e));refine⟨t,q,λh' hb=>⟨.ref ↥s2,_,vX (m:=t) (s:=s2) u (þ f.sz (ō _)) (Ĩ (ë (ĕ f.lt))) (λx c e=>?_) (λp hp=>?_) ?_ hb,rfl,d _ l⟩⟩
 ·let⟨v,o,z,_⟩:=f.cell x c e;exact i z
 ·exact i (f.pin p hp).1
 ·rw[aj (ņ (ŕ _))];exact k
def Pa{Cm:Cx->Prop}(own M:List Str){i:Nat}{y:Str}{r l:Pos}(hc:∀c,Cm (X.bJ own M scope c))(hN:X.N.Nodup)(t:X.N[i]?=some y)(P:Loc X.env.scope y)(hi:PIG Cm X tg iter wi)(hg:∀c,PG (X.bJ own M scope c) tg (g c))(ht:∀c,PTs (X.bJ own M scope c) ifs (tt c))(he:∀c,PE (X.bJ own M scope c) elt (te c))(O:ZT (.ListComp elt [⟨tg,iter,ifs,0⟩] scope pos) (some (.Name y r)) l.line X.env=pure true:=by rfl)(hk:bA X.env scope X.N M=true:=by rfl)(hs:∀x,Zz iter X.env x=pure x:=by intro _;rfl)(Y:X.fn y=true\/X.env.scope.names.lookup y=some .local:=by first|exact .inl rfl|exact .inr rfl|assumption) :
  PS X (.Assign [.Name y r] (.ListComp elt [⟨tg,iter,ifs,0⟩] scope pos) l) (pZ (tLC ⇑own wi g tt te) (iR i)):=by
 intro f s σ H D I h;rw[exec_Assign_Name_used _ _ _ _ O];have G:=bR hk;refine Æ (ZZ (Æ ?_));show wpAny _ X.A (do let _ ←comprehension (.ListComp elt [⟨tg,iter,ifs,0⟩] scope pos) scope X.env _ (WS []) false (Zx iter X.env) (some (ZU (.Name y r) X.env))) _ _ s;refine Æ (ř (WU (use:=some (ZU (.Name y r) X.env)) (Q:=λ_ u=>SP X f D .next u) rfl hs (vY hk I) (eE hk) (λx P hl=>((G x P).1 hl).2)
  (thn (hi f s σ H _ I h) λv s1 h1=>thn h1 λitv s2 h2=>?_)) (λ_ u hq=>Ù (Ù hq)) λ_ _ e=>e)
 let⟨it,fp,tn,J,H2,e,q,T,R,V,W,⟨m0,Z⟩,z⟩:=h2;subst e;refine vW (RR:=λacc C=>compPost (model X.prog X.w) X.A X.xe (some (ZU (.Name y r) X.env)) (λ_ u=>SP X f D .next u) acc C) (D:=λys H=>∀p,H p=none->iR i (.ref p) σ (upd H p (.lst ys)) D.nx) hc hk hg ht he q T R V Z z ?_;intro u S ys H' K E F U d;have n:∀{b:Addr}{o:Obj},s2.heap.get? b=some o->b≠↥s2+1:=λe=>ë (ĕ (Ó e));show wpAny _ X.A (ZU (.Name y r) X.env (.ref ↥s2)) _ _ _;refine ZY (vp (v:=.ref ↥s2) U (λj h=>Ao hN h t) t P rfl (λs'' J'' ⟨a,hsb,ha⟩=>?_) Y);have k:X.env.locals≠↥s2+1:=ë (ĕ q.lt);have B:↥s2+1≠a:=by
  rcases ha with ha|ha
  ·rw[ha];exact Ĩ k
  ·let⟨v,o,L,_⟩:=q.cell _ _ ha;exact Ĩ (n L)
 refine⟨S,K.sameBut hsb B,λh' hb=>⟨_,_,vX (m:=S) (s:=s2) J'' (þ q.sz (ō _)) (Ĩ k) (λx c e=>?_) (λp hp=>?_) ?_ hb,d _ F⟩⟩
 ·let⟨v,o,L,_⟩:=q.cell x c e;exact n L
 ·exact n (q.pin p hp).1
 ·rw[aj (ņ (ŕ _))];exact E
def T4(own M:List Str){i:Nat}{y:Str}{e a:Pos}(hc:X.calm=true)(hN:X.N.Nodup)(b:X.N[i]?=some y)(h:Loc X.env.scope y)(hi:PI X tg iter wi)(hg:∀c,PG (X.bJ own M scope c) tg (g c))(ht:∀c,PTs (X.bJ own M scope c) ifs (tt c))(he:∀c,PE (X.bJ own M scope c) elt (te c))(d:ZT (.ListComp elt [⟨tg,iter,ifs,0⟩] scope pos) (some (.Name y e)) a.line X.env=pure true:=by rfl)(hk:bA X.env scope X.N M=true:=by rfl)(hs:∀x,Zz iter X.env x=pure x:=by intro _;rfl)(f:X.fn y=true\/X.env.scope.names.lookup y=some .local:=by first|exact .inl rfl|exact .inr rfl|assumption) :
  PS X (.Assign [.Name y e] (.ListComp elt [⟨tg,iter,ifs,0⟩] scope pos) a) (pZ (tLC ⇑own wi g tt te) (iR i)):=Pa own M (λ_=>hc) hN b h hi hg ht he d hk hs f
def WQ(own:List Str)(hc:X.calm=true)(hi:PI X tg iter wi)(hg:∀c,PG (X.comp own scope c) tg (g c))(ht:∀c,PTs (X.comp own scope c) ifs (tt c))(he:∀c,PE (X.comp own scope c) elt (te c))(hk:fu X.env scope X.N=true:=by rfl)(hs:∀x,Zz iter X.env x=pure x:=by intro _;rfl) :
  PE X (.ListComp elt [⟨tg,iter,ifs,0⟩] scope pos) (tLC ⇑own wi g tt te):=Uj own X.N hc hi hg ht he (Bv hk) hs
def Rv(own:List Str){i:Nat}{y:Str}{e a:Pos}(hc:X.calm=true)(hN:X.N.Nodup)(b:X.N[i]?=some y)(h:Loc X.env.scope y)(hi:PI X tg iter wi)(hg:∀c,PG (X.comp own scope c) tg (g c))(ht:∀c,PTs (X.comp own scope c) ifs (tt c))(he:∀c,PE (X.comp own scope c) elt (te c))(d:ZT (.ListComp elt [⟨tg,iter,ifs,0⟩] scope pos) (some (.Name y e)) a.line X.env=pure true:=by rfl)(hk:fu X.env scope X.N=true:=by rfl)(hs:∀x,Zz iter X.env x=pure x:=by intro _;rfl)(f:X.fn y=true\/X.env.scope.names.lookup y=some .local:=by first|exact .inl rfl|exact .inr rfl|assumption) :
  PS X (.Assign [.Name y e] (.ListComp elt [⟨tg,iter,ifs,0⟩] scope pos) a) (pZ (tLC ⇑own wi g tt te) (iR i)):=T4 own X.N hc hN b h hi hg ht he d (Bv hk) hs f
end
section
variable{X:Cx}{tg:Zv}{K:ã}{g:CB->TG}{tt:CB->TT}{te:CB->TE}{σ:St}{H:Hp}{Q:VK}{n:Nat}
def YT(K:ã)(b:TE):TI:=λσ H R=>b σ H λx H1=>∃a,x=.ref a/\(((∃xs,SqL K H1 a xs)/\R (Itl K a) H1)\/((∃xs,SqT K H1 a xs)/\R (Itt K a) H1))
def T8{l:Zv}{i:TE}(hl:PE X l i):PI X tg l (YT X.K i):=by
 intro c s σ H R I h;refine thn (hl c s σ H _ I h) λv s1 ⟨x,H1,I1,r1,f⟩=>?_;let⟨a,e,f⟩:=f;subst e;cases r1;rcases f with⟨⟨xs,d⟩,q⟩|⟨⟨xs,d⟩,q⟩
 ·let⟨its,k,p,j⟩:=I1.list d;refine WZ p.isList ?_;refine⟨↥s1,[↥s1],_,_,H1,rfl,I1.kept (t':=s1.toks) λb o e=>Ò _ e,Hx a _,⟨_,è _ rfl,rfl,rfl⟩,λb hb=>?_,q⟩;have e:b=↥s1:=by simpa using hb
  subst e;exact I1.Bh (Õ _) (I1.hok.fresh (Õ _))
 ·let⟨its,k,p,j⟩:=I1.tuple d;refine Ų (show s1.heap.IsTuple a its.toArray from p) ?_;refine⟨↥s1,[↥s1],_,_,H1,rfl,I1.kept (t':=s1.toks) λb o e=>Ò _ e,Cj a _,⟨_,è _ rfl,rfl,rfl⟩,λb hb=>?_,q⟩;have e:b=↥s1:=by simpa using hb
  subst e;exact I1.Bh (Õ _) (I1.hok.fresh (Õ _))
end
end L2
namespace NfSort
open PySem PySem.W PyProof.Rows
def kwp{α:Type}(n:Nat)(key:Nat->Int):KasT α->(α->Prop)->Prop
 |.ret a,Q=>Q a
 |.ask i j k,Q=>i<n/\j<n/\kwp n key (k (decide (key i<key j))) Q
theorem bH{α:Type}{n:Nat}{key:Nat->Int}{Q b:α->Prop}(h:∀a,Q a->b a):∀{t:KasT α},kwp n key t Q->kwp n key t b
 |.ret a,q=>h a q
 |.ask _ _ k,q=>⟨q.1,q.2.1,bH h q.2.2⟩
theorem fj{α β:Type}{n:Nat}{key:Nat->Int}{f:α->KasT β}{Q:β->Prop}:∀{t:KasT α},kwp n key t (λa=>kwp n key (f a) Q)->kwp n key (t.bind f) Q
 |.ret a,q=>q
 |.ask _ _ k,q=>⟨q.1,q.2.1,fj q.2.2⟩
theorem yd{α:Type}{n:Nat}{key:Nat->Int}{b:Nat->Nat->(Bool->Shared->Prop)->Shared->Prop}{s:Shared}{G:α->Shared->Prop}(hc:∀i j C,i<n->j<n->C (decide (key i<key j)) s->b i j C s) :
  ∀{t:KasT α},kwp n key t (λa=>G a s)->t.kasWp b G s
 |.ret _,q=>q
 |.ask i j k,q=>hc i j _ q.1 q.2.1 (yd hc q.2.2)
section
variable{n:Nat}{key:Nat->Int}{p:Array Nat}
def Pm(n:Nat)(p:Array Nat):Prop:=p.Perm (ß n).toArray
def kk(key:Nat->Int)(p:Array Nat)(i:Nat):Int:=key (p.getD i 0)
def Pm.size(h:Pm n p):p.size=n:=by
 have:=Array.Perm.size_eq h;simpa using this
def getD_eq(p:Array Nat)(i:Nat):p.getD i 0=(p[i]?).getD 0:=by
 by_cases h:i<p.size <;> simp[Array.getD,h]
def Pm.lt(h:Pm n p){i:Nat}(hi:i<n):p.getD i 0<n:=by
 have hs:=h.size;have a:i<p.size:=()
 have hm:p[i]∈p.toList:=by
  have:=Array.getElem_mem a;simpa using this
 have hp:p.toList.Perm (ß n):=by
  have:=Array.perm_iff_toList_perm.mp h;simpa using this
 have e:p.getD i 0=p[i]:=by simp[Array.getD,a]
 rw[e];exact ó.mp (hp.mem_iff.mp hm)
def Pm.rev(h:Pm n p)(i j:Nat):Pm n (W1 p i j):=Array.Perm.trans (mirror_perm _ _ _ _) h
def Pm.bub(h:Pm n p)(i j:Nat):Pm n (bubble p i j):=Array.Perm.trans (bubble_perm _ _ _) h
def yg(h:Pm n p){i j:Nat}(a:j<=n)(t:Nat):kk key (W1 p i j) t=if i<=t/\t<j then kk key p (i+j - 1 - t)else kk key p t:=by
 unfold kk W1;rw[getD_eq,getElem?_mirror_all (by rw[h.size];exact a)];split
 ·rw[getD_eq]
 ·rw[getD_eq]
def U6(h:Pm n p){k l:Nat}(hk:k<n)(hl:l<=k)(t:Nat):kk key (bubble p k (k - l)) t=if t=l then kk key p k else if l<t/\t<=k then kk key p (t - 1)else kk key p t:=by
 unfold kk;rw[getD_eq,getElem?_bubble (by rw[h.size];exact hk) _ ()];have e:k - (k - l)=l:=()
 rw[e];split
 ·rw[getD_eq]
 ·split
  ·rw[getD_eq]
  ·rw[getD_eq]
def Up(key:Nat->Int)(p:Array Nat)(m:Nat):Prop:=∀i j,i<=j->j<m->kk key p i<=kk key p j
def Dn(key:Nat->Int)(p:Array Nat)(m:Nat):Prop:=∀i j,i<=j->j<m->kk key p j<=kk key p i
def Rn(key:Nat->Int)(p:Array Nat)(m q:Nat):Prop:=q+1<=m/\∀t,m<=t+q+1->t<m->kk key p t=kk key p (m - 1)
def Up.more{a:Nat}(h:Up key p a)(h1:1<=a)(c:kk key p (a - 1)<=kk key p a):Up key p (a+1):=λi j hij hj=>by
 by_cases b:j<a
 ·exact h i j hij b
 ·obtain rfl:j=a:=()
  by_cases hi:i=j
  ·subst hi;exact Ŭ _
  ·exact Int.le_trans (h i (j - 1) () ()) c
def Dn.more{a:Nat}(h:Dn key p a)(h1:1<=a)(c:kk key p a<=kk key p (a - 1)):Dn key p (a+1):=λi j hij hj=>by
 by_cases b:j<a
 ·exact h i j hij b
 ·obtain rfl:j=a:=()
  by_cases hi:i=j
  ·subst hi;exact Ŭ _
  ·exact Int.le_trans c (h i (j - 1) () ())
theorem Fp(hp:Pm n p):∀(f a:Nat),1<=a->a+f<=n->Up key p a->kwp n key (kas_asc p f a) (λm=>a<=m/\m<=a+f/\Up key p m/\(m<a+f->kk key p m<kk key p (m - 1)))
 |0,a,h1,hf,hu=>⟨Õ _,Õ _,hu,λh=>eI h ()⟩
 |f+1,a,h1,hf,hu=>by
  refine⟨hp.lt (),hp.lt (),?_⟩;by_cases hc:key (p.getD a 0)<key (p.getD (a - 1) 0)
  ·(rw[decide_eq_true hc];dsimp only;rw[eD rfl])
   exact⟨Õ _,(),hu,λ_=>hc⟩
  ·(rw[eA hc];dsimp only;rw[eH Ð])
   refine bH (λm ⟨a1,a2,a3,a4⟩=>⟨(),(),a3,λh=>a4 ()⟩) (Fp hp f (a+1) () () (hu.more h1 (Int.not_lt.mp hc)))
def Gi(hp:Pm n p){a q:Nat}(ha:a<=n)(hr:Rn key p a q)(t:Nat):kk key (W1 p (a - (q+1)) a) t=kk key p t:=by
 rw[yg hp ha];split
 ·rename_i h;rw[hr.2 t () h.2];exact hr.2 _ (by have:=hr.1;lia) ()
 ·rfl
def Dn.eq{c:Array Nat}{m:Nat}(h:Dn key p m)(e:∀t,kk key c t=kk key p t):Dn key c m:=λi j a b=>by rw[e,e];exact h i j a b
theorem Hi:∀(f:Nat)(p:Array Nat)(a q:Nat),Pm n p->1<=a->a+f<=n->Dn key p a->Rn key p a q ->
  kwp n key (kas_desc f p a q) (λr=>Pm n r.1/\a<=r.2.1/\r.2.1<=a+f/\Dn key r.1 r.2.1/\Rn key r.1 r.2.1 r.2.2)
 |0,p,a,q,hp,h1,hf,hd,hr=>⟨hp,Õ _,Õ _,hd,hr⟩
 |f+1,p,a,q,hp,h1,hf,hd,hr=>by
  refine⟨hp.lt (),hp.lt (),?_⟩;have b:∀{p':Array Nat}{q':Nat},Pm n p'->Dn key p' (a+1)->Rn key p' (a+1) q'->kwp n key (kas_desc f p' (a+1) q') (λr=>Pm n r.1/\a<=r.2.1/\r.2.1<=a+(f+1)/\Dn key r.1 r.2.1/\Rn key r.1 r.2.1 r.2.2):=λx y z =>
   bH (λr ⟨a1,a2,a3,a4,a5⟩=>⟨a1,(),(),a4,a5⟩) (Hi f _ (a+1) _ x () () y z)
  have g:∀p':Array Nat,Rn key p' (a+1) 0:=λp'=>⟨(),λt h1 h2=>by
   have e:t=a+1 - 1:=()
   rw[e]⟩
  by_cases hc:key (p.getD a 0)<key (p.getD (a - 1) 0)
  ·(rw[decide_eq_true hc];dsimp only;rw[eD rfl])
   have d:kk key p a<kk key p (a - 1):=hc;by_cases h:q > 0
   ·rw[eD h];have e:=Gi (key:=key) hp () hr;exact b (hp.rev _ _) ((hd.more h1 (Int.le_of_lt d)).eq e) (g _)
   ·rw[eH h];exact b hp (hd.more h1 (Int.le_of_lt d)) (g _)
  ·(rw[eA hc];dsimp only;rw[eH Ð])
   refine⟨hp.lt (),hp.lt (),?_⟩;by_cases c:key (p.getD (a - 1) 0)<key (p.getD a 0)
   ·(rw[decide_eq_true c];dsimp only;rw[eD rfl])
    exact⟨hp,Õ _,(by show a<=a+(f+1);lia),hd,hr⟩
   ·(rw[eA c];dsimp only;rw[eH Ð])
    have e:kk key p a=kk key p (a - 1):=Int.le_antisymm (Int.not_lt.mp c) (Int.not_lt.mp hc);refine b hp (hd.more h1 (Int.le_of_eq e)) ⟨by have:=hr.1;lia,λt t1 t2=>?_⟩;show _=kk key p a;by_cases ht:t=a
    ·rw[ht]
    ·rw[e];exact hr.2 t () ()
def zA{a:Nat}(hp:Pm n p)(h1:1<=a)(ha:a<=n)(hd:Dn key p a):kwp n key (kas_tail3 a n p) (λr=>Pm n r.2/\1<=r.1/\r.1<=n/\Up key r.2 r.1):=by
 unfold kas_tail3;have hu:Up key (W1 p 0 a) a:=λi j hij hj=>by
  rw[yg hp ha,yg hp ha,eD ⟨(),()⟩,eD ⟨(),hj⟩];exact hd _ _ () ()
 refine fj (bH (λm ⟨a1,a2,a3,_⟩=>?_) (Fp (hp.rev 0 a) (n - a) a h1 () hu));exact⟨hp.rev 0 a,(),(),a3⟩
def pW{a:Nat}(hp:Pm n p)(ha:a+1<=n)(hd:Dn key p (a+1)):kwp n key (kas_descPart a n p) (λr=>Pm n r.2/\1<=r.1/\r.1<=n/\Up key r.2 r.1):=by
 unfold kas_descPart;refine fj (bH (λr ⟨a1,a2,a3,a4,a5⟩=>?_) (Hi (n - (a+1)) p (a+1) 0 hp () () hd ⟨(),λt h1 h2=>by
  have e:t=a+1 - 1:=()
  rw[e]⟩))
 split
 ·exact zA (a1.rev _ _) () () (a4.eq (Gi a1 () a5))
 ·exact zA a1 () () a4
def NK(hp:Pm n p)(h1:1<=n):kwp n key (W2 n p) (λr=>Pm n r.2/\1<=r.1/\r.1<=n/\Up key r.2 r.1):=by
 unfold W2;have d:Up key p 1:=λi j hij hj=>by
  have e:i=j:=()
  rw[e];exact Ŭ _
 refine fj (bH (λm ⟨a1,a2,a3,a4⟩=>?_) (Fp hp (n - 1) 1 (Õ _) () d));by_cases hm:m=n
 ·rw[eD (by simpa using hm)];exact⟨hp,(),(),a3⟩
 ·rw[eH (by simpa using hm)];have b:=a4 ();by_cases c:m > 1
  ·rw[eD c];refine⟨hp.lt (),hp.lt (),?_⟩;by_cases hc:key (p.getD 0 0)<key (p.getD (m - 1) 0)
   ·(rw[decide_eq_true hc];dsimp only;rw[eD rfl])
    exact⟨hp,(),(),a3⟩
   ·(rw[eA hc];dsimp only;rw[eH Ð])
    have a:∀t,t<m->kk key p t=kk key p 0:=λt ht=>by
     have f:=a3 0 t () ht;have g:=a3 t (m - 1) () ();have k:kk key p (m - 1)<=kk key p 0:=Int.not_lt.mp hc;lia
    have e:∀t,kk key (W1 p 0 m) t=kk key p t:=λt=>by
     rw[yg hp ()];split
     ·rename_i h;rw[a t h.2,a _ ()]
     ·rfl
    refine pW (hp.rev 0 m) () (Dn.eq (p:=p) (Dn.more (λi j hij hj=>?_) () (Int.le_of_lt b)) e);rw[a i (),a j hj];exact Ŭ _
  ·rw[eH c];obtain rfl:m=1:=()
   refine pW hp () (Dn.more (λi j hij hj=>?_) () (Int.le_of_lt b));have e:i=j:=()
   rw[e];exact Ŭ _
theorem sG{k:Nat}(hp:Pm n p)(hk:k<n)(hu:Up key p k):∀(f l r:Nat),l<=r->r<=k->r<=l+f->(∀t,t<l->kk key p t<=kk key p k)->(∀t,r<=t->t<k->kk key p k<kk key p t) ->
  kwp n key (kas_place p k f l r) (λl'=>l'<=k/\(∀t,t<l'->kk key p t<=kk key p k)/\(∀t,l'<=t->t<k->kk key p k<kk key p t))
 |0,l,r,h1,h2,h3,h4,h5=>⟨(),h4,λt a b=>h5 t () b⟩
 |f+1,l,r,h1,h2,h3,h4,h5=>by
  unfold kas_place;by_cases d:l≥r
  ·rw[eD d];exact⟨(),h4,λt a b=>h5 t () b⟩
  ·rw[eH d];have hm:(l+r) / 2<r:=()
   refine⟨hp.lt hk,hp.lt (),?_⟩;by_cases hc:key (p.getD k 0)<key (p.getD ((l+r) / 2) 0)
   ·(rw[decide_eq_true hc];dsimp only;rw[eD rfl])
    have c:kk key p k<kk key p ((l+r) / 2):=hc;exact sG hp hk hu f l _ () () () h4 λt a b=>Int.lt_of_lt_of_le c (hu _ t a b)
   ·(rw[eA hc];dsimp only;rw[eH Ð])
    have c:kk key p ((l+r) / 2)<=kk key p k:=Int.not_lt.mp hc;exact sG hp hk hu f _ r () () () (λt a=>Int.le_trans (hu t _ () ()) c) h5
theorem N6:∀(f:Nat)(p:Array Nat)(k:Nat),Pm n p->k+f<=n->Up key p k->kwp n key (kas_bin f p k) (λp'=>Pm n p'/\Up key p' (k+f))
 |0,p,k,hp,hk,hu=>⟨hp,hu⟩
 |f+1,p,k,hp,hk,hu=>by
  unfold kas_bin;refine fj (bH (λl ⟨a1,a2,a3⟩=>?_) (sG hp () hu k 0 k (Ă _) (Õ _) () (λt h=>eI h ()) (λt h1 h2=>eI h1 ())));have e:=U6 (key:=key) hp (k:=k) () a1;have d:Up key (bubble p k (k - l)) (k+1):=λi j hij hj=>by
   rw[e,e];by_cases hi:i=l
   ·rw[eD hi];by_cases a:j=l
    ·rw[eD a];exact Ŭ _
    ·rw[eH a,eD ⟨(),()⟩];exact Int.le_of_lt (a3 _ () ())
   ·rw[eH hi];by_cases b:l<i/\i<=k
    ·rw[eD b,eH (),eD ⟨(),()⟩];exact hu _ _ () ()
    ·rw[eH b];by_cases a:j=l
     ·rw[eD a];exact a2 i ()
     ·rw[eH a];by_cases c:l<j/\j<=k
      ·rw[eD c];exact hu _ _ () ()
      ·rw[eH c];exact hu _ _ hij ()
  refine bH (λp' ⟨b1,b2⟩=>⟨b1,?_⟩) (N6 f _ (k+1) (hp.bub _ _) () d);have g:k+(f+1)=k+1+f:=()
  rw[g];exact b2
def OJ(h1:1<=n):kwp n key (kas_sort n) (λp=>Pm n p/\Up key p n):=by
 unfold kas_sort;refine fj (bH (λr ⟨a1,a2,a3,a4⟩=>?_) (NK (p:=(ß n).toArray) (Array.Perm.refl _) h1));have e:max r.1 1=r.1:=()
 rw[e];split
 ·refine bH (λp' ⟨b1,b2⟩=>⟨b1,?_⟩) (N6 (n - r.1) r.2 r.1 a1 () a4);have a:r.1+(n - r.1)=n:=()
  rw[a]at b2;exact b2
 ·have a:r.1=n:=()
  rw[a]at a4;exact⟨a1,a4⟩
end
end NfSort
namespace L2
open PySem PySem.Spec PyProof.Rows
section
variable{prog:Zc}{w:Zd}{A:Zt}{E:eQ}{s:Shared}
section
variable{X:Cx}{pos:Pos}
def QM(K:ã)(n:Nat)(t:TGs):TG:=λv σ H Q=>∃a xs,v=.ref a/\SqL K H a xs/\⇑xs=n/\t xs σ H Q
end
section
variable{X:Cx}
def yQ:aQ X (.builtin "isinstance") (λxs H Q=>∃x c t b,xs=[x,.ty c]/\TyOf X.K H x t/\W.kitOne X.K t (.type c)=some b/\Q (.bl b) H):=by
 intro a s σ H xs us Q I r h;let⟨x,c,t,b,rfl,ty,e,q⟩:=h;let⟨u,g,rfl,f,d⟩:=vals2 r;cases d;exact Iz I f ty e λtk=>⟨.bl b,H,I.tok _,rfl,q⟩
def Ac:OpR X (ZL .IsNot) (λx y H Q=>∃a b,x=.bl a/\y=.bl b/\Q (.bl (!decide (a=b))) H):=by
 intro c s σ H x y v u Q I d e h;let⟨a,b,rfl,rfl,q⟩:=h;cases d;cases e;refine Ù ?_;refine⟨.bl (!decide (a=b)),H,I,?_,q⟩;cases a <;> cases b <;> rfl
theorem wD:∀{a:List Bool}{us:List Value},Vals (a.map V.bl) us->us=a.map Value.bool
 |[],_,h=>by cases h;rfl
 |b::a,_,h=>by
  cases h with
  |cons r t =>
   cases r;rw[wD t];rfl
def all_range(a:List Bool):(ß ⇑a).all (λi=>a.getD i true)=a.all id:=by
 rw[Ė];simp only[Ĕ,ó];constructor
 ·intro h x b;let⟨i,hi,e⟩:=Ŷ.mp b;have q:=h i hi;simp[hi]at q;rw[←e];exact q
 ·intro h i hi;have q:=h a[i] (ĳ hi);simpa[hi]using q
def Jp(hc:X.calm=true):aQ X (.builtin "all") (λxs H Q=>∃(p:Addr)(a:List Bool),xs=[.ref p]/\SqL X.K H p (a.map V.bl)/\Q (.bl (a.all id)) H):=by
 intro j s σ H xs us Q I r h;let⟨p,a,rfl,hp,q⟩:=h;let⟨u,rfl,t⟩:=vals1 r;cases t;let⟨its,n,g,w⟩:=I.list hp;have e:=wD n;subst e;have f:p≠↥s:=by let⟨o,m,_⟩:=g.isList;exact ë (Ó m)
 refine call_all_walk (WZ g.isList ?_);refine⟨_,_,_,_,_,_,λi=>a.getD i true,rfl,Walks.list (A:=X.A.in1) (I.ok.hd hc) _ p f _,⟨⟨_,è _ rfl,rfl,rfl⟩,g.isList.push _⟩,?_,λh' tk hk=>?_⟩
 ·intro i v s Q E k l;have c:(a.map Value.bool)[i]?=some v:=by simpa using k
  rw[Ý]at c;cases hb:a[i]? with
  |none=>rw[hb]at c;cases c
  |some b =>
   rw[hb]at c;cases c;refine ĺ ?_;have e:a.getD i true=b:=by rw[ā,hb];rfl
   have d:Q (a.getD i true) s:=l;rw[e]at d;exact d
 ·have e:(ß (a.map Value.bool).toArray.size).all (λi=>a.getD i true)=a.all id:=by
   rw[Ø,Ä];exact all_range a
  rw[e];refine⟨.bl (a.all id),H,I.kept λb o eb=>hk b o ?_ (Ò _ eb),rfl,q⟩;intro hm;have:b=↥s:=by simpa using hm
  exact eI (Ó eb) (by rw[this];exact Ē _)
def Jh(hc:X.calm=true):aQ X (.builtin "min") (λxs H Q=>∃p a b,xs=[.ref p]/\SqT X.K H p [.int a,.int b]/\Q (.int (if b<a then b else a)) H):=by
 intro n s σ H xs us Q I r h;let⟨p,a,b,rfl,hp,q⟩:=h;let⟨u,rfl,y⟩:=vals1 r;cases y;let⟨its,x,t,B⟩:=I.tuple hp;let⟨C,D,rfl,⟨f,rfl⟩,⟨t2,rfl⟩⟩:=vals2 x;have m:s.heap.IsTuple p (VA #[(a,f),(b,t2)]):=by
  have z:s.heap.IsTuple p #[ś a f,ś b t2]:=t;simpa[VA]using z
 have k:p<↥s:=by let⟨o,w,_⟩:=t;exact Ó w
 refine call_min_walk (Ų m ?_);refine⟨_,[↥s,p],[↥s],_,_,_,_,rfl,Walks.tuple (A:=X.A.in1) (I.ok.hd hc) _ p (ë k) (VA #[(a,f),(b,t2)]),⟨⟨_,è _ rfl,rfl,rfl⟩,m.push _⟩,λc hc=>?_,by simp[VA],
  CmpOf.ints_lt (VC #[(a,f),(b,t2)]) (λ_ _=>VE),λv h' tk hP hk=>?_⟩
 ·show c<(s.heap.push _).objs.size;rw[Ń];rcases Þ.mp hc with rfl|hc
  ·exact ŕ _
  ·have:c=p:=by simpa using hc
   rw[this];exact ĕ k
 ·have hv:v=if b<a then ś b t2 else ś a f:=by
   have g:(VA #[(a,f),(b,t2)])[VM (λi j=>decide (VC #[(a,f),(b,t2)] i<VC #[(a,f),(b,t2)] j)) 1]?=some v:=by
    have l:(VA #[(a,f),(b,t2)]).size - 1=1:=by simp[VA]
    rw[←l];exact hP
   by_cases d:b<a
   ·have e:VM (λi j=>decide (VC #[(a,f),(b,t2)] i<VC #[(a,f),(b,t2)] j)) 1=1:=by simp[VM,VC,d]
    rw[e]at g;simpa[VA,d]using g.symm
   ·have e:VM (λi j=>decide (VC #[(a,f),(b,t2)] i<VC #[(a,f),(b,t2)] j)) 1=0:=by simp[VM,VC,d]
    rw[e]at g;simpa[VA,d]using g.symm
  subst hv;refine⟨.int (if b<a then b else a),H,I.kept λb o eb=>hk b o ?_ (Ò _ eb),?_,q⟩
  ·intro hm;have:b=↥s:=by simpa using hm
   exact eI (Ó eb) (by rw[this];exact Ē _)
  ·by_cases d:b<a
   ·rw[eD d,eD d];exact⟨_,rfl⟩
   ·rw[eH d,eH d];exact⟨_,rfl⟩
def Jj(hc:X.calm=true):aQ X (.builtin "max") (λxs H Q=>∃p a b,xs=[.ref p]/\SqT X.K H p [.int a,.int b]/\Q (.int (if b > a then b else a)) H):=by
 intro n s σ H xs us Q I r h;let⟨p,a,b,rfl,hp,q⟩:=h;let⟨u,rfl,y⟩:=vals1 r;cases y;let⟨its,x,t,B⟩:=I.tuple hp;let⟨C,D,rfl,⟨f,rfl⟩,⟨t2,rfl⟩⟩:=vals2 x;have m:s.heap.IsTuple p (VA #[(a,f),(b,t2)]):=by
  have z:s.heap.IsTuple p #[ś a f,ś b t2]:=t;simpa[VA]using z
 have k:p<↥s:=by let⟨o,w,_⟩:=t;exact Ó w
 refine call_max_walk (Ų m ?_);refine⟨_,[↥s,p],[↥s],_,_,_,_,rfl,Walks.tuple (A:=X.A.in1) (I.ok.hd hc) _ p (ë k) (VA #[(a,f),(b,t2)]),⟨⟨_,è _ rfl,rfl,rfl⟩,m.push _⟩,λc hc=>?_,by simp[VA],
  CmpOf.ints_gt (VC #[(a,f),(b,t2)]) (λ_ _=>VE),λv h' tk hP hk=>?_⟩
 ·show c<(s.heap.push _).objs.size;rw[Ń];rcases Þ.mp hc with rfl|hc
  ·exact ŕ _
  ·have:c=p:=by simpa using hc
   rw[this];exact ĕ k
 ·have hv:v=if b > a then ś b t2 else ś a f:=by
   have g:(VA #[(a,f),(b,t2)])[VM (λi j=>decide (VC #[(a,f),(b,t2)] i > VC #[(a,f),(b,t2)] j)) 1]?=some v:=by
    have l:(VA #[(a,f),(b,t2)]).size - 1=1:=by simp[VA]
    rw[←l];exact hP
   by_cases d:b > a
   ·have e:VM (λi j=>decide (VC #[(a,f),(b,t2)] i > VC #[(a,f),(b,t2)] j)) 1=1:=by simp[VM,VC,d]
    rw[e]at g;simpa[VA,d]using g.symm
   ·have e:VM (λi j=>decide (VC #[(a,f),(b,t2)] i > VC #[(a,f),(b,t2)] j)) 1=0:=by simp[VM,VC,d]
    rw[e]at g;simpa[VA,d]using g.symm
  subst hv;refine⟨.int (if b > a then b else a),H,I.kept λb o eb=>hk b o ?_ (Ò _ eb),?_,q⟩
  ·intro hm;have:b=↥s:=by simpa using hm
   exact eI (Ó eb) (by rw[this];exact Ē _)
  ·by_cases d:b > a
   ·rw[eD d,eD d];exact⟨_,rfl⟩
   ·rw[eH d,eH d];exact⟨_,rfl⟩
def Vf{prog:Zc}{w:Zd}{A:Zt}{E:eQ}{s:Shared}{l:Addr}{n:Nat}{x:Int}{t:Tok}{u:Value}{Q:eQ}{its:List Value}(b:s.heap.get? l=some { cls:=.type "list",data:=.seq its.toArray n })(a:¬(!Builtin.List.listFitsIndex x)=true)(hsz:its.toArray.size<=sizeLine)(h:Q .none { s with heap:=s.heap.update l (û λxs=>(xs.extract 0 (if x<0 then(x+(xs.size:Int)).toNat else min x.toNat xs.size)).push u++xs.extract (if x<0 then(x+(xs.size:Int)).toNat else min x.toNat xs.size)),toks:=s.toks }) :
  wpAny (model prog w) A (YI (.builtin "list.insert") [.ref l,.int x t,u]) Q E s:=by
 generalize its.toArray=c at b hsz;exact WF PySem.F.slot_list_insert ⟨_,b,rfl⟩ PySem.F.entry_list_insert (PySem.F.args_list_insert_3 _ _ _) (PySem.AutoSeq1.list_insert_list_int_val_1 l c n x t u a hsz) ⟨b,h⟩
def Gj:V->List V->Hp->VK->Prop:=λx vs H Q=>∃l xs k y,x=.ref l/\vs=[.int (k:Nat),y]/\H l=some (.lst xs)/\k<=⇑xs/\⇑xs<sizeLine/\Q .non (upd H l (.lst (xs.take k++y::xs.drop k)))
def Ii:MtM X "list.insert" Gj:=by
 intro f s σ H x vs v us Q I A w h;let⟨l,xs,k,y,rfl,rfl,d,hk,C,q⟩:=h;cases A;let⟨D,u,rfl,⟨t,rfl⟩,p⟩:=w.two;let⟨z,its,n,r,hl,e⟩:=I.u5 d;have j:(sizeLine:Nat)=16777216:=ą;have a:¬(!Builtin.List.listFitsIndex (k:Int))=true:=by
  have m:decide (-(2 ^ 63:Int)<=(k:Int))=true:=decide_eq_true ();have o:decide ((k:Int)<2 ^ 63)=true:=decide_eq_true ();unfold Builtin.List.listFitsIndex;rw[m,o];exact Ð
 have hsz:its.toArray.size<=sizeLine:=by
  have g:its.toArray.size=⇑xs:=(Ø ..).trans hl.symm;rw[g];exact z
 have b:¬((k:Int)<0):=()
 have c:(k:Int).toNat=k:=ķ k;generalize B:(k:Int)=x at a b c;refine Vf (its:=its) e a hsz ?_;refine⟨.non,_,I.Ik (its':=its.take k++u::its.drop k) d e ?_ ?_ ?_,rfl,q⟩
 ·have hm:min k ⇑its=k:=()
  have i:=W.kl_ins_eq its k u;simp only[b,if_false,c,Ø,hm];exact i
 ·exact(r.take k).append (.cons p (r.drop k))
 ·rw[Ñ,ñ,Ě,œ];lia
end
abbrev Tie:=Int×Int
def Pr(H:Hp)(v:V)(t:Tie):Prop:=∃p,v=.ref p/\H p=some (.tup [.int t.1,.int t.2])
abbrev Prs(H:Hp):List V->List Tie->Prop:=Paired (Pr H)
def aW(t:Tie):Int:=64 * t.1+t.2
def Cd(t:Tie):Prop:=0<=t.2/\t.2<64
def jD(h:Zi)(u:Value)(t:Tie):Prop:=∃a o t1 t2 n,u=.ref a/\h.get? a=some o/\o.cls=.type "tuple"/\o.data=.seq #[.int t.1 t1,.int t.2 t2] n
def jD.keep{h h':Zi}{u:Value}{t:Tie}(x:jD h u t)(k:∀a o,h.get? a=some o->o.cls=.type "tuple"->h'.get? a=some o):jD h' u t:=by
 let⟨a,o,c,t2,n,e,b,hc,hd⟩:=x;exact⟨a,o,c,t2,n,e,k a o b hc,hc,hd⟩
def WL{α β:Type}{F:α->β->Prop}{l₁:List α}{l₂:List β}(h:Paired F l₁ l₂):∀{i:Nat}{b:β},l₂[i]?=some b->∃a,l₁[i]?=some a/\F a b:=by
 induction h with
 |nil=>intro i x e;simp at e
 |cons r t ih =>
  intro i x e;cases i with
  |zero=>simp at e;subst e;exact⟨_,rfl,r⟩
  |succ i =>
   let⟨c,d,f⟩:=ih (by simpa using e);exact⟨c,by simpa using d,f⟩
theorem KH{α β:Type}{F:α->β->Prop}{l₁:List α}{l₂:List β}(h:Paired F l₁ l₂)(c:α)(d:β):∀(p:List Nat),(∀i∈p,i<⇑l₂)->Paired F (p.map λi=>l₁.getD i c) (p.map λi=>l₂.getD i d)
 |[],_=>.nil
 |i::p,hp=>by
  have hi:i<⇑l₂:=hp i Í;let⟨a,e,f⟩:=WL h (i:=i) (b:=l₂[i]) (by simp[hi]);refine .cons ?_ (KH h c d p λj hj=>hp j (É _ hj));have g:l₁.getD i c=a:=by rw[ā,e];rfl
  have k:l₂.getD i d=l₂[i]:=by simp[hi]
  show F (l₁.getD i c) (l₂.getD i d);rw[g,k];exact f
theorem Wm{α:Type}:∀us:List α,List.map (λx=>x.snd) (us.zip us)=us
 |[]=>rfl
 |u::us=>by rw[List.zip_cons_cons,ö,Wm us]
def jq{α:Type}(l:List α)(d:α):(ß ⇑l).map (λi=>l.getD i d)=l:=by
 apply List.ext_getElem
 ·simp
 ·intro i h1 h2;simp at h1 ⊢;simp[h1]
section
variable{X:Cx}{pins:List (Addr×Obj)}{σ:St}{H:Hp}{s:Shared}
theorem Inv.pairs(I:Inv X pins σ H s):∀{vs:List V}{ts:List Tie}{us:List Value},Prs H vs ts->Vals vs us->Paired (jD s.heap) us ts
 |_,_,_,.nil,r=>by cases r;exact .nil
 |_,_,_,.cons p q,r=>by
  cases r with
  |cons r rr =>
   refine .cons ?_ (I.pairs q rr);let⟨a,rfl,e⟩:=p;cases r;let⟨_,its,c,⟨o,b,hc,n,hd⟩⟩:=I.hok a _ e;let⟨f,g,rfl,⟨d,rfl⟩,⟨t2,rfl⟩⟩:=vals2 c;exact⟨a,o,d,t2,n,rfl,b,hc,hd⟩
end
def Lz{x y:Value}{a b:Tie}{Q:Bool->Shared->Prop}(r:jD s.heap x a)(t:jD s.heap y b)(k:Cd a)(l:Cd b)(h:Q (decide (aW a<aW b)) s):wpAny (model prog w) A (keyLt' (VO true) x y) Q E s:=by
 let⟨p,o,C,t2,n,rfl,q,hc,hd⟩:=r;let⟨B,o',u,v,z,rfl,g,m,f⟩:=t;let⟨c,d⟩:=a;let⟨b1,b2⟩:=b;unfold Cd at k l;simp only at k l;refine W.kat_lt q hd g f ?_;refine W.kat_cons (Zo ?_);by_cases i:c=b1
 ·subst i;rw[eK];refine W.kat_yes (W.kat_cons (Zo ?_));by_cases j:d=b2
  ·subst j;rw[eK];refine W.kat_yes (W.kat_nil ?_);have e:decide (aW (c,d)<aW (c,d))=false:=eA (Int.lt_irrefl _);rw[e]at h;exact h
  ·rw[beq_eq_false_iff_ne.mpr j];refine W.kat_no (W.kat_one _ _ (lt_int ?_));have e:decide (aW (c,d)<aW (c,b2))=decide (d<b2):=by
    apply decide_eq_decide.mpr;unfold aW;lia
   rw[e]at h;exact h
 ·rw[beq_eq_false_iff_ne.mpr i];refine W.kat_no (oneLt_int ?_);have e:decide (aW (c,d)<aW (b1,b2))=decide (c<b1):=by
   apply decide_eq_decide.mpr;unfold aW;simp only;constructor
   ·intro h;lia
   ·intro h;lia
  rw[e]at h;exact h
theorem Mh:∀{us:List Value}{ts:List Tie},Paired (jD s.heap) us ts->∃fs,W.KatTups s.heap us fs/\⇑fs=⇑us/\∀v∈fs,∃i t,v=ś i t
 |_,_,.nil=>⟨[],.nil,rfl,λ_ h=>nomatch h⟩
 |_,_,.cons p q=>by
  let⟨a,o,c,t2,n,rfl,b,hc,hd⟩:=p;let⟨fs,k,hl,hv⟩:=Mh q;refine⟨_::fs,.cons b hc hd (f:=ś _ c) rfl k,by simp[hl],λv hv'=>?_⟩;rcases Þ.mp hv' with rfl|h
  ·exact⟨_,_,rfl⟩
  ·exact hv v h
def V1{n:Nat}{key:Nat->Int}{p:Array Nat}(hp:NfSort.Pm n p)(h1:1<=n)(hs:NfSort.Up key p n):NfSort.kwp n key (W.kas_count n p) (λr=>r.1=n/\r.2=p):=by
 unfold W.kas_count;have b:∀(f a:Nat),1<=a->a+f=n->NfSort.kwp n key (W.kas_asc p f a) (λm=>m=n):=by
  intro f;induction f with
  |zero=>intro a _ h;exact h
  |succ f ih =>
   intro a ha h;refine⟨hp.lt (),hp.lt (),?_⟩;have hc:¬key (p.getD a 0)<key (p.getD (a - 1) 0):=Int.not_lt.mpr (hs (a - 1) a () ());rw[eA hc];exact ih (a+1) () ()
 refine NfSort.fj (NfSort.bH (λm e=>?_) (b (n - 1) 1 (Õ _) ()));rw[eD (by simpa using e)];exact⟨e,rfl⟩
open PySem.W in
def O2{prog:Zc}{w:Zd}{A:Zt}{E:eQ}{κ:SortKind}{it:Array Keyed}{n:Nat}{Q:Unit->SortSt->Shared->Prop}{G:Array Nat->Shared->Prop}{s:Shared}(h2:2<=n)(f:minRun' n n 0<=n)(d:∀p' st' s',p'.size=n->arrOf st'=p'.map (kas_item it)->failedOf st'=none->G p' s'->Q .unit st' s')(h:(W2 n (Ŵ (ß n))).kasWp (kas_cmp prog w A κ it) (λr s'=>r.1=n/\G r.2 s') s) :
  kasC (model prog w) A E sortRuns' Q (VQ κ it (Ŵ (ß n))) s:=by
 obtain⟨r,rfl⟩:∃r,n=r+2:=⟨n - 2,()⟩
 have a:(Ŵ (ß (r+2))).size=r+2:=by simp
 rw[sortRuns'_eq];refine VS (VT ?_);dsimp only;have hsz:(arrOf (VQ κ it (Ŵ (ß (r+2))))).size=r+2:=by
  show((Ŵ (ß (r+2))).map (kas_item it)).size=_;rw[Array.size_map,a]
 simp only[hsz];refine VS (kasC_range ?_);show kasC _ _ _ (forIn (0::1::List.range' 2 r) _ _) _ _ _;refine VU ?_;dsimp only;rw[eH ()];simp only[Nat.sub_zero,Nat.zero_add];refine VS (kas_count_ () (by rw[a];exact Õ _) (λm p' s' hm1 hm2 hp hg=>?_) h);have b:p'.size=r+2:=hp.trans a;let⟨e,hg⟩:=hg;have c:m=r+2:=e;subst c;dsimp only;rw[eH ()];refine VS (VT ?_);rw[show(VW (VQ κ it p')).back?=none from rfl];dsimp only;refine VS (kasC_modify (VX ?_));show kasC _ _ _ (forIn (1::List.range' 2 r) _ _) _ _ _;refine VU ?_;dsimp only;rw[eD (Õ _)];refine VX ?_;dsimp only;refine VS (kasC_range ?_);show kasC _ _ _ (forIn (0::1::List.range' 2 r) _ _) _ _ _;refine VU ?_;refine VS (VT ?_);rw[eD (show(VW (setPending (VQ κ it p') ((VW (VQ κ it p')).push (0,r+2,0)))).size<=1 from Õ 1)];refine VX ?_;dsimp only;exact VX (d p' _ _ b rfl rfl hg)
def Srt(ts:List Tie):Prop:=⇑ts<64\/⇑ts=300/\∀i j,i<=j->j<⇑ts->aW (ts.getD i (0,0))<=aW (ts.getD j (0,0))
theorem Srt.lt{ts:List Tie}:Srt ts->⇑ts<512
 |.inl h=>()
 |.inr h=>()
def HJ{a:Addr}{us:List Value}{ts:List Tie}{n:Nat}{P:PySem.Fin->Shared->Prop}(J:s.heap.get? a=some (VY "list" us.toArray n))(hp:Paired (jD s.heap) us ts)(hn:∀t∈ts,Cd t)(c:Srt ts)(h:∀p:List Nat,p.Perm (ß ⇑us)->(∀i j,i<=j->j<⇑us->aW (ts.getD (p.getD i 0) (0,0))<=aW (ts.getD (p.getD j 0) (0,0))) ->
   P (.done (.ret .none)) { s with heap:=sortedHeap s.heap a us (p.map λi=>us.getD i ľ).toArray }) :
  wpAny (model prog w) A (Builtin.«list.sort» ⟨[.ref a],[]⟩) P E s:=by
 have H:=⇑hp;have Y:=c.lt;have h24:=ą;rw[list_sort_plain];have ha:a<↥s:=Ó J;refine Æ (VZ J rfl ?_);refine Æ (V2 J rfl ?_ (by rw[Ø,ą];lia) (Ă _));obtain⟨y,K⟩:∃y,(s.heap.update a (û λ_=>(#[]:Array Value))).get? a=some (VY "list" #[] y):=⟨_,Uf J (λ_=>#[])⟩
 refine Æ (UA K rfl ?_);refine Æ (UB ?_ (by show ⇑us<=_;rw[ą];lia));refine Æ (UC ?_ (Ă _));refine ġ ?_;have g:(((s.heap.update a (û λ_=>(#[]:Array Value))).push (VY "tuple" us.toArray 0)).push (VY "list" #[] 0)).get? a=some (VY "list" #[] y):=by
  rw[Heap.get?_push_ne _ _ _ (by rw[UD,Ū];exact ë (ĕ ha)),Heap.get?_push_ne _ _ _ (by rw[Ū];exact ë ha)];exact K
 have kept:∀b o,s.heap.get? b=some o->o.cls=.type "tuple"->(((s.heap.update a (û λ_=>(#[]:Array Value))).push (VY "tuple" us.toArray 0)).push (VY "list" #[] 0)).get? b=some o:=λb o q hc=>by
  have I:b<↥s:=Ó q;have V:b≠a:=λz=>by
   rw[z,J]at q;cases q;have z2:(ď "list")=ď "tuple":=hc;injection z2 with z3
   exact eI z3 ∅
  rw[Heap.get?_push_ne _ _ _ (by rw[UD,Ū];exact ë (ĕ I)),Heap.get?_push_ne _ _ _ (by rw[Ū];exact ë I),Heap.get?_update_ne _ _ _ _ V];exact q
 show wpAny (model prog w) A _ P E { s with heap:=((s.heap.update a (û λ_=>(#[]:Array Value))).push (VY "tuple" us.toArray 0)).push (VY "list" #[] 0)};dsimp only;have hsz:us.toArray.size=⇑us:=by simp
 have M:Paired (jD (((s.heap.update a (û λ_=>(#[]:Array Value))).push (VY "tuple" us.toArray 0)).push (VY "list" #[] 0))) us ts:=Paired.Ij hp λu t x=>x.keep kept;by_cases h2:us.toArray.size<2
 ·rw[eD h2,eD h2];refine Æ (Ù ?_);rw[StateT.run_pure];refine Æ (Ù ?_);dsimp only;have D:(arrOf (SortSt.mk' general' (us.toArray.zip us.toArray) #[] 7 none)).map (·.2)=((ß ⇑us).map λi=>us.getD i ľ).toArray:=by
   rw[jq];show(us.toArray.zip us.toArray).map (·.2)=us.toArray;apply Array.toList_inj.mp;simp;exact Wm us
  rw[D];refine Æ (UA g rfl ?_);refine Æ (V2 g rfl ?_ (Ă _) (by rw[Ø,Ä,Ċ,ą];lia));simp only[bne_self_eq_false,ļ,if_false];refine Ù (h _ (List.Perm.refl _) λi j hij hj=>?_);have:i=j:=()
  subst this;exact Ŭ _
 ·rw[eH h2,eH h2];have F:2<=⇑us:=()
  let⟨fs,hk,hfl,U⟩:=Mh (s:={ s with heap:=((s.heap.update a (û λ_=>(#[]:Array Value))).push (VY "tuple" us.toArray 0)).push (VY "list" #[] 0)}) M;refine Æ (W.kat_kind (T:=.type "int") hk () (λv hv=>by let⟨i,t,rfl⟩:=U v hv;exact W.Looks.of_pure rfl) rfl ?_);have l:∀i j C,i<⇑us->j<⇑us->C (decide (aW (ts.getD i (0,0))<aW (ts.getD j (0,0)))) { s with heap:=((s.heap.update a (û λ_=>(#[]:Array Value))).push (VY "tuple" us.toArray 0)).push (VY "list" #[] 0)} ->
    W.kas_cmp prog w A (VO true) (us.toArray.zip us.toArray) i j C { s with heap:=((s.heap.update a (û λ_=>(#[]:Array Value))).push (VY "tuple" us.toArray 0)).push (VY "list" #[] 0)}:=λi j C hi hj hC=>by
   unfold W.kas_cmp;rw[W.kat_item rfl,W.kat_item rfl];have key:∀k,k<⇑us->jD (((s.heap.update a (û λ_=>(#[]:Array Value))).push (VY "tuple" us.toArray 0)).push (VY "list" #[] 0)) (us.getD k ľ) (ts.getD k (0,0))/\Cd (ts.getD k (0,0)):=λk hk=>by
    have m:k<⇑ts:=()
    have ek:ts.getD k (0,0)=ts[k]:=by simp[m]
    let⟨u,eu,pu⟩:=WL M (i:=k) (b:=ts[k]) (by simp[m]);have R:us.getD k ľ=u:=by rw[ā,eu];rfl
    rw[ek,R];exact⟨pu,hn _ (ĳ m)⟩
   exact Lz (key i hi).1 (key j hj).1 (key i hi).2 (key j hj).2 hC
  have G:W.kasC (model prog w) A E sortRuns' (λ_ d f=>∃p:Array Nat,f={ s with heap:=((s.heap.update a (û λ_=>(#[]:Array Value))).push (VY "tuple" us.toArray 0)).push (VY "list" #[] 0)}/\arrOf d=p.map (W.kas_item (us.toArray.zip us.toArray))/\failedOf d=none/\NfSort.Pm ⇑us p/\NfSort.Up (λi=>aW (ts.getD i (0,0))) p ⇑us) (W.kas_st (VO true) (us.toArray.zip us.toArray) (Ŵ (ß ⇑us))) { s with heap:=((s.heap.update a (û λ_=>(#[]:Array Value))).push (VY "tuple" us.toArray 0)).push (VY "list" #[] 0)}:=by
   rcases c with c|⟨c,hs⟩
   ·exact W.kas_runs (G:=λp f=>f={ s with heap:=((s.heap.update a (û λ_=>(#[]:Array Value))).push (VY "tuple" us.toArray 0)).push (VY "list" #[] 0)}/\NfSort.Pm ⇑us p/\NfSort.Up (λi=>aW (ts.getD i (0,0))) p ⇑us) F () (λp' d f a1 a2 a3 a4=>⟨p',a4.1,a2,a3,a4.2⟩)
     (NfSort.yd l (NfSort.bH (λp hp=>⟨rfl,hp⟩) (NfSort.OJ ())))
   ·have hu:NfSort.Up (λi=>aW (ts.getD i (0,0))) (Ŵ (ß ⇑us)) ⇑us:=λi j hij hj=>by
     unfold NfSort.kk;have B:∀k,k<⇑us->(Ŵ (ß ⇑us)).getD k 0=k:=λk hk=>by simp[Array.getD,hk]
     rw[B i (),B j hj];exact hs i j hij ()
    exact O2 (G:=λp f=>f={ s with heap:=((s.heap.update a (û λ_=>(#[]:Array Value))).push (VY "tuple" us.toArray 0)).push (VY "list" #[] 0)}/\NfSort.Pm ⇑us p/\NfSort.Up (λi=>aW (ts.getD i (0,0))) p ⇑us) F (by rw[H,c];decide +kernel) (λp' d f a1 a2 a3 a4=>⟨p',a4.1,a2,a3,a4.2⟩)
     (NfSort.yd (G:=λr f=>r.1=⇑us/\f={ s with heap:=((s.heap.update a (û λ_=>(#[]:Array Value))).push (VY "tuple" us.toArray 0)).push (VY "list" #[] 0)}/\NfSort.Pm ⇑us r.2/\NfSort.Up (λi=>aW (ts.getD i (0,0))) r.2 ⇑us) l (NfSort.bH (λr ⟨y,e2⟩=>⟨y,rfl,by rw[e2];exact⟨Array.Perm.refl _,hu⟩⟩) (V1 (Array.Perm.refl _) () hu)))
  have Q:SortSt.mk' (VO true) (us.toArray.zip us.toArray) #[] 7 none=W.kas_st (VO true) (us.toArray.zip us.toArray) (Ŵ (ß ⇑us)):=by
   have e:=W.kas_range (us.toArray.zip us.toArray);rw[show(us.toArray.zip us.toArray).size=⇑us by simp]at e;show SortSt.mk' (VO true) (us.toArray.zip us.toArray) #[] 7 none=SortSt.mk' (VO true) ((Ŵ (ß ⇑us)).map (W.kas_item (us.toArray.zip us.toArray))) #[] 7 none;rw[e]
  have Z:VO (ď "int" != ď "tuple")=VO true:=rfl;rw[Z,Q];refine Æ (ř G ?_ λ_ _ e=>e);rintro⟨⟨⟩,d⟩ f ⟨p,rfl,S,hf,N,X⟩;dsimp only;have L:=W.kat_snds (ks:=us) (vs:=us) rfl S;rw[L];have O:p.size=⇑us:=N.size;refine Æ (UA g rfl ?_);refine Æ (V2 g rfl ?_ (Ă _) (by rw[Ø,Ä,ğ,O,ą];lia));rw[hf];simp only[bne_self_eq_false,ļ,if_false];refine Ù (h p.toList ?_ λi j hij hj=>?_)
  ·have:=Array.perm_iff_toList_perm.mp N;simpa using this
  ·have q:=X i j hij hj;unfold NfSort.kk at q;have B:∀k,p.toList.getD k 0=p.getD k 0:=λk=>by
    rw[NfSort.getD_eq,ā];simp
   rw[B,B];exact q
def uM{l:Addr}{vs:List Value}{Q:List Value->Shared->Prop}(hl:IsTup s.heap l vs.toArray)(h:Q vs { s with heap:=(s.heap.push (VY "list" #[] 0)).update ↥s (û (·++vs.toArray))})(hsz:⇑vs<=sizeLine) :
  wpAny (model prog w) A (UE (.ref l)) Q E s:=by
 let⟨o,b,hc,n,hd⟩:=id hl;unfold UE;refine Æ (UF (UH UI ?_));show wpAny _ _ (do again (.builtin "list.__iadd__" ⟨[←WS [],.ref l],[]⟩)) _ _ s;refine Æ (UC (Ù ⟨Code.quiet_builtin _ ⋯,UH UK ?_⟩));show wpAny _ _ (į (.ref ↥s) (.ref l) (.ref ↥s)) _ _ { s with heap:=s.heap.push (VY "list" #[] 0)};unfold į;have a:(s.heap.push (VY "list" #[] 0)).get? l=some o:=Ò _ b;refine Æ (XU (T:="tuple") ⟨o,a,hc⟩ ?_);have ht:(ď "tuple"==ď "tuple")=true:=by rfl
 rw[eD (by rw[ht];simp)];refine Æ (VZ a hd ?_);refine Æ (VZ (xs:=#[]) (n:=0) (è _ rfl) rfl ?_);rw[eH (by simp)];refine Æ (V2 (xs:=#[]) (n:=0) (è _ rfl) rfl ?_ (Ă _) (by show(#[]++vs.toArray).size<=sizeLine+1;simp only[Array.size_append,Ø,List.length_nil];lia));refine Ù ?_;show wpAny (model prog w) A (do
   let o ←load ↥s
   match o.data with
   |.seq xs _=>pure xs.toList
   |_=>unsupported "internal:collect") Q E { s with heap:=(s.heap.push (VY "list" #[] 0)).update ↥s (û (·++vs.toArray))}
 refine Æ (Z7 (Uf (è _ rfl) _) ?_);show wpAny _ _ (pure ((#[]:Array Value)++vs.toArray).toList) Q E _;rw[show((#[]:Array Value)++vs.toArray).toList=vs by simp];exact Ù h
def wI{l:Addr}{us:List Value}{ts:List Tie}{Q:eQ}(hl:s.heap.IsList l us.toArray\/IsTup s.heap l us.toArray)(hp:Paired (jD s.heap) us ts)(hn:∀t∈ts,Cd t)(d:Srt ts)(h:∀p:List Nat,p.Perm (ß ⇑us)->(∀i j,i<=j->j<⇑us->aW (ts.getD (p.getD i 0) (0,0))<=aW (ts.getD (p.getD j 0) (0,0))) ->
   Q (.ref (↥s+1)) { s with heap:=sortedAll s.heap us (p.map λi=>us.getD i ľ).toArray }) :
  wpAny (model prog w) A (YI (.builtin "sorted") [.ref l]) Q E s:=by
 have v:=ą;have n:=⇑hp;have k:=d.lt;refine Calls.call_function_entry kind_sorted plain_sorted entry_sorted (args_sorted1 _) ?_;unfold Builtin.«sorted»;refine Æ (m:=checkCount "sorted" 1 1 _) (Ù ?_);have hsz:((s.heap.push (VY "list" #[] 0)).update ↥s (û (·++us.toArray))).objs.size=↥s+1:=by
  rw[Ū,UD]
 have f:(((s.heap.push (VY "list" #[] 0)).update ↥s (û (·++us.toArray))).push (VY "list" us.toArray 0)).get? (↥s+1)=some (VY "list" us.toArray 0):=by
  rw[←hsz];exact è _ rfl
 have g:∀b o,s.heap.get? b=some o->(((s.heap.push (VY "list" #[] 0)).update ↥s (û (·++us.toArray))).push (VY "list" us.toArray 0)).get? b=some o:=λb o q=>by
  have c:b<↥s:=Ó q;rw[Heap.get?_push_ne _ _ _ (by rw[hsz];exact ë (ĕ c)),Heap.get?_update_ne _ _ _ _ (ë c),Heap.get?_push_ne _ _ _ (ë c)];exact q
 have r:∀{Q':List Value->Shared->Prop},Q' us { s with heap:=(s.heap.push (VY "list" #[] 0)).update ↥s (û (·++us.toArray))}->wpAny (model prog w) A.in1 (UE (.ref l)) Q' (λe s'=>E e s') s:=λ{Q'} hq=>by
  rcases hl with hl|hl
  ·exact collect_list hl hq ()
  ·exact uM hl hq ()
 refine Æ (r ?_);refine Æ (UC ?_ ());show wpAny _ _ _ _ _ { s with heap:=((s.heap.push (VY "list" #[] 0)).update ↥s (û (·++us.toArray))).push (VY "list" us.toArray 0)};rw[hsz];refine Æ (ġ (Ł UM ⟨_,f,rfl⟩ UN (HJ f (Paired.Ij hp λu t x=>x.keep λa o e _=>g a o e) hn d λp a1 a2=>⟨_,rfl,?_⟩) (UO _)));exact Ù ⟨_,rfl,h p a1 a2⟩
end
section
variable{X:Cx}
def zM{ts:List Tie}{p:List Nat}(hp:p.Perm (ß ⇑ts))(h:∀i j,i<=j->j<⇑ts->aW (ts.getD (p.getD i 0) (0,0))<=aW (ts.getD (p.getD j 0) (0,0))) :
  (p.map λi=>ts.getD i (0,0)).Perm ts/\(p.map λi=>ts.getD i (0,0)).Pairwise (λa b=>aW a<=aW b):=by
 refine⟨?_,?_⟩
 ·have q:=hp.map λi=>ts.getD i (0,0);rw[jq]at q;exact q
 ·have hl:⇑p=⇑ts:=by simpa using hp.length_eq
  rw[List.pairwise_iff_getElem];intro i j hi c f;rw[Ä]at hi c;have q:=h i j () ();have d:p.getD i 0=p[i]:=by simp[hi]
  have e:p.getD j 0=p[j]:=by simp[c]
  rw[d,e]at q;simpa using q
def yM:aQ X (.builtin "sorted") (λxs H Q=>∃(p:Addr)(vs:List V)(ts:List Tie),xs=[.ref p]/\(SqL X.K H p vs\/SqT X.K H p vs)/\Prs H vs ts/\(∀t∈ts,Cd t)/\Srt ts /\
  ∀l ws us,H l=none->Prs H ws us->us.Perm ts->us.Pairwise (λa b=>aW a<=aW b)->Q (.ref l) (upd H l (.lst ws))):=by
 intro n s σ H xs us Q I r h;let⟨p,vs,ts,rfl,hp,d,hn,k,q⟩:=h;let⟨u,rfl,L⟩:=vals1 r;cases L;have E:=ą;have j:∀its:List Value,Vals vs its->(s.heap.IsList p its.toArray\/IsTup s.heap p its.toArray)->wpAny (model X.prog X.w) X.A (YI (.builtin "sorted") [.ref p]) (EP X n σ Q) X.xe s:=λits f hl=>by
  have x:=I.pairs d f;have D:=⇑d;have v:=⇑f;have C:=k.lt;refine wI hl x hn k λpp hpp hord=>?_;have g:⇑its=⇑ts:=()
  rw[g]at hpp hord;let⟨c,y⟩:=zM hpp hord;have m:∀i∈pp,i<⇑ts:=λi hi=>ó.mp (hpp.mem_iff.mp hi);have G:=KH d V.non (0,0) pp m;have z:Vals (pp.map λi=>vs.getD i V.non) (pp.map λi=>its.getD i ľ):=KH f V.non ľ pp λi hi=>by have:=m i hi;lia
  let⟨e,he⟩:=sortedAll_at s.heap its (pp.map λi=>its.getD i ľ).toArray;refine⟨.ref (↥s+1),upd H (↥s+1) (.lst (pp.map λi=>vs.getD i V.non)),I.laid (t':=s.toks) (λb o eb=>UP eb) (ō _) ?_,rfl,q _ _ _ (I.hok.fresh (ō _)) G c y⟩;refine⟨?_,_,e,z,he⟩;have F:⇑pp=⇑ts:=by simpa using hpp.length_eq
  rw[Ä];lia
 rcases hp with hp|hp
 ·let⟨its,f,B,J⟩:=I.list hp;exact j its f (.inl B.isList)
 ·let⟨its,f,B,J⟩:=I.tuple hp;exact j its f (.inr B)
def pD(t:Tie):UQ:=.tuple [.int t.1,.int t.2]
inductive DatV(K:ã)(H:Hp):V->UQ->Prop
 |lst {a:Addr}{vs:List V}{ts:List Tie}:SqL K H a vs->Prs H vs ts->DatV K H (.ref a) (.list (ts.map pD))
 |tup {a:Addr}{vs:List V}{ts:List Tie}:SqT K H a vs->Prs H vs ts->DatV K H (.ref a) (.tuple (ts.map pD))
 |web {a b:Addr}{n:Int}{vs:List V}{ts:List Tie}:SqT K H a [.int n,.ref b]->SqT K H b vs->Prs H vs ts->DatV K H (.ref a) (.tuple [.int n,.tuple (ts.map pD)])
def TF(K:ã)(neg:Bool):R2:=λx y H Q=>∃d e b,DatV K H x d/\DatV K H y e/\Ü d e=b/\Q (.bl (if neg then !b else b)) H
end
end L2
namespace L2
open PySem PySem.Spec PyProof.Rows HT
section
variable{prog:Zc}{w:Zd}{A:Zt}{E:eQ}{s:Shared}
end
section
variable{X:Cx}{e:Zv}{te:TE}{p1 p2 p3 pos:Pos}
end
end L2
namespace PySem
open Sem (wp)
open AutoSeq1 (wpAny_loadPart')
def jo(l:Addr)(items:Array Value)(n:Nat)(dct:Option Addr)(f:Array (Option Value)) :
  Meets (Builtin.«enumerate.__new__» ⟨[.type "enumerate",.ref l],[]⟩) (λ_ R s=>s.heap.get? l=some { cls:=.type "tuple",dict:=dct,data:=.seq items n,slots:=f } /\
   R (.ok (.ret (.ref (s.heap.push { cls:=.type "tuple_iterator",data:=.fields #[.ref l,.int 0 0]}).objs.size)))
    { s with heap:=(s.heap.push { cls:=.type "tuple_iterator",data:=.fields #[.ref l,.int 0 0]}).push { cls:=.type "enumerate",data:=.fields #[.none,.bool false,.ref ↥s,Z8 0,.none,.none]}}) :=
 .of_wp λprog w A R s h=>by
  let⟨hp,g,d,tk,e⟩:=s;let⟨hl,h⟩:=h;have b:=sub_enumerate;have a:Heap.IsTuple (Shared.heap ⟨hp,g,d,tk,e⟩) l items:=⟨_,hl,rfl,n,rfl⟩
  wp_walk using UR hl
  refine wpAny_stack_any λst=>Ù ?_;split
  ·rename_i c _ _ _ _ _;cases (c==ď "enumerate")
   ·wp_walk using UR hl,Ų a
    exact⟨_,rfl,h⟩
   ·wp_walk using UR hl,Ų a
    exact⟨_,rfl,h⟩
  ·wp_walk using UR hl,Ų a
   exact⟨_,rfl,h⟩
section
variable{prog:Zc}{w:Zd}{A:Zt}{E:eQ}{s:Shared}
def jC{l:Addr}{items:Array Value}{Q:eQ}(e:s.heap.IsTuple l items)(h:∀h',IsEnum h' (↥s+1) ↥s 0 .none->h'.IsTupleIter ↥s l 0->h'.objs.size=↥s+2 ->
   (∀b o,s.heap.get? b=some o->h'.get? b=some o)->Q (.ref (↥s+1)) { s with heap:=h' }) :
  wpAny (model prog w) A (YI (.type "enumerate") [.ref l]) Q E s:=by
 let⟨⟨c,dct,d,f⟩,hl,hc,n,hd⟩:=e;replace hc:c=.type "tuple":=hc;replace hd:d=.seq items n:=hd;subst hc hd;refine callType_new F.called_enumerate ∅ (F.typeCall_enumerate_1 _) (F.newCall_enumerate_1 _) (λobj=>F.args_object_init_2 obj _) F.entry_enumerate_new
  (jo l items n dct f) ⟨hl,?_⟩
 have a:(s.heap.push { cls:=.type "tuple_iterator",data:=.fields #[.ref l,.int 0 0]}).objs.size=↥s+1:=Ń ..;show _/\_;rw[a];have he:IsEnum ((s.heap.push { cls:=.type "tuple_iterator",data:=.fields #[.ref l,.int 0 0]}).push
   { cls:=.type "enumerate",data:=.fields #[.none,.bool false,.ref ↥s,Z8 0,.none,.none]}) (↥s+1) ↥s 0 .none:=by
  have:=è (s.heap.push { cls:=.type "tuple_iterator",data:=.fields #[.ref l,.int 0 0]})
   (o:={ cls:=.type "enumerate",data:=.fields #[.none,.bool false,.ref ↥s,Z8 0,.none,.none]}) rfl
  rw[a]at this;exact this
 refine⟨⟨_,he,rfl⟩,h _ he ⟨_,Ò _ (è _ rfl),rfl,rfl⟩ (by rw[Ń,a]) λb o x=>Ò _ (Ò _ x)⟩
def mH{it l:Addr}{i:Nat}{items}{x:Value}{Q:eQ}(a:s.heap.IsTupleIter it l i)(hl:s.heap.IsTuple l items)(f:items[i]?=some x)(e:∀h',h'.IsTupleIter it l (i+1)->Heap.SameBut it s.heap h'->Q x { s with heap:=h' }) :
  wpAny (model prog w) A (Ħ (.ref it)) Q E s:=by
 let⟨o,b,hc,hd⟩:=id a;let⟨h,d,_,g,c⟩:=hl;unfold Ħ;refine Æ (ŋ (name:=ũ "__next__") a.typeIs ū
  (Ł ū a.typeIs PyProof.Rows.entry_tupleiter_next ?_ (PyProof.Rows.args_tupleiter_next _)))
 show wpAny _ _ (US (.ref it) 0 >>=_) _ _ s;refine Æ (ž b hd (x:=.ref l) rfl ?_);show wpAny _ _ (if(ĥ l==ľ)=true then _ else _) _ _ s;rw[eH (show ¬((ĥ l==ľ)=true)from Ð)];show wpAny _ _ (US (.ref it) 1 >>=_) _ _ s;refine Æ (ž b hd (x:=.int i 0) rfl ?_);show wpAny _ _ (seqItems? (.ref l) >>=_) _ _ s;refine Æ (UT d c ?_);simp only[ķ,f];refine Æ (UU b hd (by simp) (Ù ⟨x,rfl,Ù (e _ ?_ (Heap.SameBut.update ..))⟩));exact⟨_,ŏ _ b (Obj.isFreed_of_fields (Obj.data_mapFields hd _)),(Obj.cls_mapFields ..).trans hc,by
  rw[Obj.data_mapFields hd];simp[Z8]⟩
def gC{it l:Addr}{i:Nat}{items}{Q:eQ}(hh:A.handled=none)(b:s.heap.IsTupleIter it l i)(hl:s.heap.IsTuple l items)(h:items[i]?=none)(g:∀h' e,Heap.ExtBut it s.heap h'->(∃o,h'.get? e=some o/\o.cls=.type "StopIteration")->E (.ref e) { s with heap:=h' }) :
  wpAny (model prog w) A (Ħ (.ref it)) Q E s:=by
 let⟨o,d,hc,hd⟩:=id b;let⟨k,f,_,j,c⟩:=hl;unfold Ħ;refine Æ (ŋ (name:=ũ "__next__") b.typeIs ū
  (Ł ū b.typeIs PyProof.Rows.entry_tupleiter_next ?_ (PyProof.Rows.args_tupleiter_next _)))
 show wpAny _ _ (US (.ref it) 0 >>=_) _ _ s;refine Æ (ž d hd (x:=.ref l) rfl ?_);show wpAny _ _ (if(ĥ l==ľ)=true then _ else _) _ _ s;rw[eH (show ¬((ĥ l==ľ)=true)from Ð)];show wpAny _ _ (US (.ref it) 1 >>=_) _ _ s;refine Æ (ž d hd (x:=.int i 0) rfl ?_);show wpAny _ _ (seqItems? (.ref l) >>=_) _ _ s;refine Æ (UT f c ?_);simp only[ķ,h];refine Æ (wpAny_rule (Æ (UU d hd (by simp) ?_)));show wpAny _ _ (newExc (.type "StopIteration") [] >>=_) _ _ _;refine Æ ?_;simp only[newExc,newTuple];refine Æ (ŧ ?_ (by size_fits));refine Æ (m:=UV _ _) (wpAny_of_eq (a:=ľ) (by first|rfl|(simp only[UV];rfl)) ?_);refine ŧ ?_ (by size_fits);simp only[raiseNew];refine Æ (wpAny_handled ?_)
 first|rw[show A.in1.handled=none from hh]|rw[hh]
 refine Æ (Ù (wpAny_throw ?_));exact g _ _ (((Heap.SameBut.update ..).extBut.push _).push _) ⟨_,è _ rfl,rfl⟩
end
def Draws.tuple{prog:Zc}{w:Zd}{A:Zt}(hh:A.handled=none)(it l:Addr)(hne:l≠it)(items:Array Value) :
  Draws prog w A it [it,l] items.size (λi v=>items[i]?=some v) (λi h=>h.IsTupleIter it l i/\h.IsTuple l items) where
 live:=λ_ _ st=>let⟨o,ho,_⟩:=st.1;⟨o,ho⟩
 frame:=λ_ _ _ st hk=>⟨let⟨o,ho,r⟩:=st.1;⟨o,hk it (by simp) o ho,r⟩,let⟨o,ho,r⟩:=st.2;⟨o,hk l (by simp) o ho,r⟩⟩
 item:=λi s Q E hi st hQ=>by
  refine mH st.1 st.2 (x:=items[i]) (by simp[hi]) λh' hit' hs'=>?_;exact hQ _ h' s.toks (by simp[hi]) ⟨hit',st.2.extBut hs'.extBut hne⟩ hs'
 done:=λs Q E st hE=>gC hh st.1 st.2 (by simp) hE
end PySem
namespace L2
open PySem PySem.Spec PyProof.Rows
def Ite(K:ã)(a:Addr):It :=
 ⟨λi H=>∃xs x,SqT K H a xs/\xs[i]?=some x,λi H x H'=>∃t v,x=.ref t/\H t=none/\H'=upd H t (.tup [.int i,v])/\∀xs,SqT K H a xs->xs[i]?=some v,λi H=>∃xs,SqT K H a xs/\⇑xs<=i⟩
def Hy{P:Zc}{w:Zd}{K:ã}{elts:List Zv}{kk:Nat}{pos:Pos}(a e it:Addr)(hei:e≠it) :
  Turn P w K (.Tuple elts kk pos) (Ite K a) [e,it] e (λi h=>(∃old,IsEnum h e it i old)/\h.IsTupleIter it a i) where
 mem:=by simp
 obj:=λi h st b hb=>by
  let⟨⟨old,he⟩,o,ho,hc,hd⟩:=st;rcases Þ.mp hb with rfl|hb
  ·exact⟨_,he,λv z=>nomatch z⟩
  ·have e1:b=it:=by simpa using hb
   subst e1;exact⟨o,ho,λv z=>by rw[hd]at z;cases z⟩
 keep:=λi h h' st k=>by
  let⟨⟨old,he⟩,o,ho,r⟩:=st;exact⟨⟨old,k e (by simp) _ he⟩,o,k it (by simp) _ ho,r⟩
 item:=by
  intro X hP hw hK hc i pins s σ H E I hf st hg;subst hP hw hK;let⟨xs,x,hq,hx⟩:=hg;let⟨its,rv,p,hz⟩:=I.tuple hq;let⟨u,hu,ru⟩:=rv.get hx;let⟨⟨old,he⟩,hit⟩:=st;have hai:a≠it:=λz=>by
   let⟨o,ho,hc1,_⟩:=p;let⟨o',ho',hc2,_⟩:=hit;rw[z,ho']at ho;cases ho;rw[hc2]at hc1;injection hc1 with z2;exact eI z2 ∅
  have hae:e≠a:=λz=>by
   let⟨o,ho,hc1,_⟩:=p;have he':s.heap.get? e=some _:=he;rw[z,ho]at he';cases he';have z1:ď "enumerate"=ď "tuple":=hc1;injection z1 with z2;exact eI z2 ∅
  have hlt:i<its.toArray.size:=by have:=(Ç.mp hu).1;simpa using this
  let⟨e0,e1,e2,e3,e4,e5⟩:=hf e (by simp);let⟨f0,f1,f2,f3,f4,f5⟩:=hf it (by simp);have D:=Draws.tuple (prog:=X.prog) (w:=X.w) (A:=X.A.in1) (I.ok.hd hc) it a hai its.toArray;refine UX D he ⟨hit,show s.heap.IsTuple a its.toArray from p⟩ hlt hei (by simp[hei,hae]) λx' h' tk hP ho hs' hT hsz hk=>⟨_,rfl,?_⟩
  have ex:x'=u:=by
   have hP':its[i]?=some x':=by simpa using hP
   rw[hu]at hP';exact(Ö hP').symm
  subst ex;refine UY ho λh2 he2 hs2=>?_;have hTn:H ↥s=none:=I.hok.fresh (Õ _);have keep2:∀b o,b≠e->b≠it->s.heap.get? b=some o->h2.get? b=some o:=λb o hb1 hb2 q=>(hs2.2 b hb1).trans (hk b o hb1 hb2 q);have hTe:↥s≠e:=ņ (Ó he);have hTup:h2.get? ↥s=some { cls:=.type "tuple",data:=.seq #[.int i tk,x']}:=(hs2.2 _ hTe).trans hT;have J:Inv X pins σ (upd H ↥s (.tup [.int i,x])) { s with heap:=h2,toks:=tk+1 }:=by
   refine I.step (g':=s.gens) (d':=s.drawn) (t':=tk+1) (ch:=[e,it]) (λb hb=>?_) (λb o _ _ hcb q _=>keep2 b o (λz=>hcb (by simp[z])) (λz=>hcb (by simp[z])) q)
    (λb o _ _ hcb q _=>⟨o.slots,keep2 b o (λz=>hcb (by simp[z])) (λz=>hcb (by simp[z])) q⟩) (λb o _ q n=>by rw[aj (ë (Ó q))];exact n)
    (λb o hcb q=>⟨o,keep2 b o (λz=>hcb (by simp[z])) (λz=>hcb (by simp[z])) q⟩) (λb ys q=>by rw[aj (ak q hTn)];exact q) (λb o y q=>by rw[aj (ak q hTn)];exact q)
    (λb ps q=>⟨#[],by rw[aj (ak q hTn),q];simp⟩) (λm hm=>?_) ?_ I.bare
   ·rcases Þ.mp hb with rfl|hb
    ·exact⟨e3,e1,e4,e5⟩
    ·have z:b=it:=by simpa using hb
     subst z;exact⟨f3,f1,f4,f5⟩
   ·let⟨o,es,ep,ho',r⟩:=hm;exact⟨o,es,ep,keep2 _ o (Ĩ e1) (Ĩ f1) ho',r⟩
   ·intro b u' q;have nT:∀{c y},H c=some y->c≠e/\c≠it:=λ{c y} z=>⟨λv=>(by rw[v,e0]at z;exact nomatch z),λv=>(by rw[v,f0]at z;exact nomatch z)⟩
    by_cases hb:b=↥s
    ·subst hb;rw[ao]at q;cases q;exact⟨(by show 2<=sizeLine;decide),[.int i tk,x'],.cons ⟨_,rfl⟩ (.cons ru .nil),_,hTup,rfl,_,rfl⟩
    ·rw[aj hb]at q;refine(I.hok b u' q).stay (λc v hcv y=>keep2 c v ?_ ?_ y) (λc y=>by rw[aj (ak y hTn)];exact y) λc ys y=>by rw[aj (ak y hTn)];exact y
     ·rcases hcv with rfl|z
      ·exact(nT q).1
      ·exact(nT z).1
     ·rcases hcv with rfl|z
      ·exact(nT q).2
      ·exact(nT z).2
  refine⟨.ref ↥s,_,J,rfl,⟨_,x,rfl,hTn,rfl,λys hy=>by rw[I.vm hy hq];exact hx⟩,⟨⟨x',?_⟩,?_⟩,λb hb=>?_⟩
  ·have he3:IsEnum h2 e it ((i:Int)+1) x':=by simpa using he2
   have ec:((i+1:Nat):Int)=(i:Int)+1:=()
   rw[ec];exact he3
  ·let⟨o,ho2,r⟩:=hs'.1;exact⟨o,(hs2.2 it (Ĩ hei)).trans ho2,r⟩
  ·rw[aj]
   ·exact(hf b hb).1
   ·rcases Þ.mp hb with rfl|hb
    ·exact Ĩ hTe
    ·have z:b=it:=by simpa using hb
     subst z;let⟨o,ho2,_⟩:=hit;exact ë (Ó ho2)
 done:=by
  intro X hP hw hK hc i pins s σ H E I hf st hg;subst hP hw hK;let⟨xs,hq,hx⟩:=hg;let⟨its,rv,p,hz⟩:=I.tuple hq;let⟨⟨old,he⟩,hit⟩:=st;let⟨f0,f1,f2,f3,f4,f5⟩:=hf it (by simp);have hl:=⇑rv;have hT:s.TypeIs (.ref e) "enumerate":=⟨_,he,rfl⟩
  unfold Z5;refine Æ (UZ (ŋ (name:=ũ "__next__") hT Ň
   (Ł Ň hT PySem.F.entry_enumerate_next ?_ (PySem.F.args_enumerate_next_1 _))))
  show wpAny _ _ (US (.ref e) 2 >>=_) _ _ _;refine Æ (ž he rfl (x:=.ref it) rfl ?_);refine Æ (gC (I.ok.hd hc) hit (show s.heap.IsTuple a its.toArray from p) (by simp;lia) λh' x he' hx'=>?_);let⟨o,ho,hc'⟩:=hx';refine Æ (U1 (T:="StopIteration") (b:=true) ⟨o,ho,hc'⟩ U2 ?_);exact Ù ⟨rfl,I.turned (t':=s.toks) (λb o hb e=>he' b o hb e) f0 f1 f3 f4 f5⟩
 self:=λA i s Q E st h=>by
  let⟨⟨old,he⟩,_⟩:=st;have hT:s.TypeIs (.ref e) "enumerate":=⟨_,he,rfl⟩
  refine Ta hT PySem.F.slot_enumerate_iter (Ł PySem.F.slot_enumerate_iter hT PySem.F.entry_enumerate_iter ?_ (PySem.F.args_enumerate_iter_1 _));show wpAny _ _ (ret (.ref e)) _ _ s;exact Ù ⟨_,rfl,"enumerate",_,hT,Ň.lookup,h⟩
def boot_enumerate:Zs "enumerate"=some (.type "enumerate"):=⋯
def Xq(K:ã)(b:TA):TI:=λσ H R=>b σ H λvs H1=>∃a,vs=[.ref a]/\(∃xs,SqT K H1 a xs)/\R (Ite K a) H1
def Pk{X:Cx}{elts:List Zv}{kk:Nat}{f:Pos}{a:Zv}{g:TA}{p pos:Pos}(hg:Gl X "enumerate")(hm:X.mg "enumerate"=none)(ha:PA X [a] g)(hs:Zw [a] X.env=[(false,Zx a X.env)]:=by rfl):PI X (.Tuple elts kk f) (.Call (.Name "enumerate" p) [a] [] pos) (Xq X.K g):=by
 intro d s σ H R I h;refine YE (d7 I hg hm boot_enumerate (Č (thn (ha pos d s σ H _ I h) λus s1 ⟨vs,H1,I1,r1,q1⟩=>?_) hs rfl));let⟨b,e,⟨xs,k⟩,q⟩:=q1;subst e;let⟨u,rfl,m⟩:=vals1 r1;cases m;let⟨its,o,l,n⟩:=I1.tuple k;refine jC (show s1.heap.IsTuple b its.toArray from l) λh' he hit hsz hk=>?_;have j:Inv X d σ H1 { s1 with heap:=h' }:=I1.kept (t':=s1.toks) hk;have T:Turn X.prog X.w X.K (.Tuple elts kk f) (Ite X.K b) [↥s1+1,↥s1] (↥s1+1) (λi h=>(∃old,IsEnum h (↥s1+1) ↥s1 i old)/\h.IsTupleIter ↥s1 b i):=Hy b _ _ (ņ (ŕ _));refine T.self _ 0 _ _ _ ⟨⟨_,he⟩,hit⟩ ⟨_,_,_,_,H1,rfl,j,T,⟨⟨_,he⟩,hit⟩,λc hc=>?_,q⟩;rcases Þ.mp hc with rfl|hc
 ·exact I1.Bh (ō _) (I1.hok.fresh (ō _))
 ·have z:c=↥s1:=by simpa using hc
  subst z;exact I1.Bh (Õ _) (I1.hok.fresh (Õ _))
section
variable{κ:Type} [DecidableEq κ]
def iY(kvs:List (κ×V))(k:κ):Option V:=(kvs.find? λkv=>decide (kv.1=k)).map (·.2)
def putK(kvs:List (κ×V))(k:κ)(v:V):List (κ×V) :=
 if(kvs.any λkv=>decide (kv.1=k))=true then kvs.map (λkv=>if kv.1=k then(kv.1,v)else kv)else kvs++[(k,v)]
def lF{p:κ×V}{r:List (κ×V)}{k:κ}(e:p.1=k):iY (p::r) k=some p.2:=by simp[iY,š,e]
def rF{p:κ×V}{r:List (κ×V)}{k:κ}(e:¬p.1=k):iY (p::r) k=iY r k:=by simp[iY,š,e]
theorem zy(k:κ):∀kvs:List (κ×V),(kvs.any λkv=>decide (kv.1=k))=(iY kvs k).isSome
 |[]=>rfl
 |p::r=>by
  rw[ź];by_cases e:p.1=k
  ·simp only[lF e,decide_eq_true e,Bool.true_or,Option.isSome_some]
  ·rw[rF e,eA e,Bool.false_or];exact zy k r
def jr(kvs:List (κ×V))(k:κ)(v:V):⇑(putK kvs k v)<=⇑kvs+1:=by
 unfold putK;split
 ·rw[Ä];lia
 ·rw[Ñ,ñ,List.length_nil];lia
def uW.gG{o:Option V}{u:Option Value}(r:uW o u):o.isSome=u.isSome:=by
 cases o with
 |none=>cases u with
  |none=>rfl
  |some _=>exact(show False from r).elim
 |some _=>cases u with
  |none=>exact(show False from r).elim
  |some _=>rfl
def KV.val{kvs:List (κ×V)}{vs:List (κ×Value)}(r:KV kvs vs)(k:κ):uW (iY kvs k) (Tb vs k):=by
 unfold KV at r;induction r with
 |nil=>exact True.intro
 |@cons p q ps qs h t ih =>
  let⟨h1,h2⟩:=h;by_cases e:p.1=k
  ·have a:q.1=k:=h1.symm.trans e;have b:Tb (q::qs) k=some q.2:=by simp[Tb,š,a]
   rw[lF e,b];exact h2
  ·have a:¬q.1=k:=λz=>e (h1.trans z);have b:Tb (q::qs) k=Tb qs k:=by simp[Tb,š,a]
   rw[rF e,b];exact ih
def KV.any{kvs:List (κ×V)}{vs:List (κ×Value)}(r:KV kvs vs)(k:κ):(kvs.any λkv=>decide (kv.1=k))=vs.any λkv=>decide (kv.1=k):=by
 unfold KV at r;induction r with
 |nil=>rfl
 |cons h t a=>rw[ź,ź,a,h.1]
def KV.repl{kvs:List (κ×V)}{vs:List (κ×Value)}(r:KV kvs vs)(k:κ){y:V}{u:Value}(a:RelV y u) :
  KV (kvs.map λkv=>if kv.1=k then(kv.1,y)else kv) (vs.map λkv=>if kv.1=k then(kv.1,u)else kv):=by
 unfold KV at r ⊢;induction r with
 |nil=>exact .nil
 |@cons p q ps qs h t ih =>
  rw[ö,ö];refine .cons ?_ ih;let⟨h1,h2⟩:=h;by_cases e:p.1=k
  ·rw[eD e,eD (h1.symm.trans e)];exact⟨h1,a⟩
  ·rw[eH e,eH (λz=>e (h1.trans z))];exact⟨h1,h2⟩
def KV.put{kvs:List (κ×V)}{vs:List (κ×Value)}(r:KV kvs vs)(k:κ){y:V}{u:Value}(a:RelV y u):KV (putK kvs k y) (stored vs k u):=by
 unfold putK stored;rw[r.any k];by_cases e:(vs.any λkv=>decide (kv.1=k))=true
 ·rw[eD e,eD e];exact r.repl k a
 ·rw[eH e,eH e];exact Paired.snoc r ⟨rfl,a⟩
def KV.keys{kvs:List (κ×V)}{vs:List (κ×Value)}(r:KV kvs vs):kvs.map (·.1)=vs.map (·.1):=by
 unfold KV at r;induction r with
 |nil=>rfl
 |cons h t a=>rw[ö,ö,a,h.1]
def KV.length{kvs:List (κ×V)}{vs:List (κ×Value)}(r:KV kvs vs):⇑kvs=⇑vs:=Paired.length r
end
def vO{P:Zc}{w:Zd}{k:Key}{u:Value}(r:RelV (kV k) u):(aY P w).is k u=true:=by
 cases k with
 |inl i=>let⟨t,e⟩:=(show ∃t,u=ś i t from r);subst e;exact Av P w i t
 |inr x=>let⟨t,e⟩:=(show ∃t,u=Value.str x t from r);subst e;exact Ar P w x t
theorem vP{P:Zc}{w:Zd}:∀{ks:List Key}{us:List Value},Vals (ks.map kV) us->ItemsAre (aY P w) ks us
 |[],_,r=>by rw[List.map_nil]at r;cases r;exact .nil
 |k::ks,_,r=>by
  rw[ö]at r;cases r with
  |cons h t=>exact .cons (vO h) (vP t)
abbrev KT(H:Hp):List (List Key×V)->List (List Key×Addr×Value)->Prop:=Paired λp q=>p.1=q.1/\H q.2.1=some (.tup (p.1.map kV))/\RelV p.2 q.2.2
def KT.val{H:Hp}{kvs:List (List Key×V)}{xs:List (List Key×Addr×Value)}(r:KT H kvs xs)(k:List Key):uW (iY kvs k) ((Th xs k).map (·.2)):=by
 induction r with
 |nil=>exact True.intro
 |@cons p q ps qs h t ih =>
  let⟨h1,_,h2⟩:=h;by_cases e:p.1=k
  ·have a:q.1=k:=h1.symm.trans e;have b:Th (q::qs) k=some q.2:=by simp[Th,š,a]
   rw[lF e,b];exact h2
  ·have a:¬q.1=k:=λz=>e (h1.trans z);have b:Th (q::qs) k=Th qs k:=by simp[Th,š,a]
   rw[rF e,b];exact ih
def KT.repl{H:Hp}{kvs:List (List Key×V)}{xs:List (List Key×Addr×Value)}(r:KT H kvs xs)(k:List Key){y:V}{u:Value}(b:RelV y u) :
  KT H (kvs.map λkv=>if kv.1=k then(kv.1,y)else kv) (xs.map (putAt k u)):=by
 induction r with
 |nil=>exact .nil
 |@cons p q ps qs h t ih =>
  rw[ö,ö];refine .cons ?_ ih;let⟨h1,h2,a⟩:=h;unfold putAt;by_cases e:p.1=k
  ·rw[eD e,eD (h1.symm.trans e)];exact⟨h1,h2,b⟩
  ·rw[eH e,eH (λz=>e (h1.trans z))];exact⟨h1,h2,a⟩
def KT.put{H:Hp}{kvs:List (List Key×V)}{xs:List (List Key×Addr×Value)}(r:KT H kvs xs)(k:List Key){b:Addr}{y:V}{u:Value}(hb:H b=some (.tup (k.map kV)))(a:RelV y u) :
  KT H (putK kvs k y) (storedH xs k b u):=by
 have e:(kvs.any λkv=>decide (kv.1=k))=(Th xs k).isSome:=by
  rw[zy,(r.val k).gG,Option.isSome_map]
 unfold putK storedH;rw[e];by_cases q:(Th xs k).isSome=true
 ·rw[eD q,eD q];exact r.repl k a
 ·rw[eH q,eH q];exact Paired.snoc r ⟨rfl,hb,a⟩
def KT.keeps{H a:Hp}{kvs:List (List Key×V)}{xs:List (List Key×Addr×Value)}(r:KT H kvs xs)(ht:∀b ys,H b=some (.tup ys)->a b=some (.tup ys)):KT a kvs xs :=
 Paired.Ij r λ_ _ z=>⟨z.1,ht _ _ z.2.1,z.2.2⟩
section
variable{P:Zc}{w:Zd}{H:Hp}{h:Zi}{a:Addr}
def Rq{u:HO}(ok:HOk P w H h)(e:Rd H a u):bf P w H h a u:=e.ok ok
def uH{kvs:List (Key×V)}(ok:HOk P w H h)(e:Rd H a (.dK kvs)):⇑kvs<=sizeLine/\(a==Zp)=false/\∃vs,KV kvs vs/\h.DictOf (aY P w) a vs :=
 show bf P w H h a (.dK kvs)from Rq ok e
def Hh{kvs:List (Key×V)}(ok:HOk P w H h)(e:H a=some (.dK kvs)):⇑kvs<=sizeLine/\(a==Zp)=false/\∃vs,KV kvs vs/\h.DictOf (aY P w) a vs:=uH ok (.inl e)
def ud{ks:List Key}(ok:HOk P w H h)(e:H a=some (.tup (ks.map kV))):(Zq (aY P w)).is h ks a:=by
 let⟨_,its,r,o,h1,h2,n,b⟩:=(show bf P w H h a (.tup (ks.map kV))from ok a _ e)
 exact⟨o,its.toArray,n,h1,h2,b,by simpa using vP r⟩
def Bo{kvs:List (List Key×V)}(ok:HOk P w H h)(e:Rd H a (.dT kvs)):⇑kvs<=sizeLine/\(a==Zp)=false /\
  ∃xs,KT H kvs xs/\h.DictOfH (Zq (aY P w)) a xs:=by
 let⟨z,y,xs,r,o,es,ep,h1,h2,d,f,g⟩:=(show bf P w H h a (.dT kvs)from Rq ok e)
 refine⟨z,y,xs,r,o,es,ep,h1,h2,d,f,λx b=>?_,g⟩;have c:∀{l:List (List Key×V)}{m:List (List Key×Addr×Value)},KT H l m->∀x∈m,(Zq (aY P w)).is h x.1 x.2.1:=by
  intro l m q;induction q with
  |nil=>intro x b;exact nomatch b
  |@cons p q ps qs hq t ih =>
   intro x b;rcases Þ.mp b with e|b
   ·subst e;exact ud ok (by rw[←hq.1];exact hq.2.1)
   ·exact ih x b
 exact c r x b
def Yg{kvs:List (List Key×V)}(ok:HOk P w H h)(e:H a=some (.dT kvs)):⇑kvs<=sizeLine/\(a==Zp)=false /\
  ∃xs,KT H kvs xs/\h.DictOfH (Zq (aY P w)) a xs:=Bo ok (.inl e)
end
def qz(H:Hp)(a:Addr)(y:V)(r:Option V):Prop :=
 (∃kvs k,Rd H a (.dK kvs)/\y=kV k/\r=iY kvs k)\/∃kvs k b,Rd H a (.dT kvs)/\y=.ref b/\H b=some (.tup (k.map kV))/\r=iY kvs k
def Jt(H:Hp)(a:Addr)(y v:V)(c:Hp):Prop :=
 (∃kvs k,H a=some (.dK kvs)/\y=kV k/\⇑kvs<sizeLine/\c=upd H a (.dK (putK kvs k v)))∨
 ∃kvs k b,H a=some (.dT kvs)/\y=.ref b/\H b=some (.tup (k.map kV))/\⇑kvs<sizeLine/\c=upd H a (.dT (putK kvs k v))
def qz.k{H:Hp}{a:Addr}{kvs:List (Key×V)}{k:Key}(e:H a=some (.dK kvs)):qz H a (kV k) (iY kvs k):=.inl ⟨kvs,k,.inl e,rfl,rfl⟩
def Jt.k{H:Hp}{a:Addr}{kvs:List (Key×V)}{k:Key}{v:V}(e:H a=some (.dK kvs))(hl:⇑kvs<sizeLine):Jt H a (kV k) v (upd H a (.dK (putK kvs k v))):=.inl ⟨kvs,k,e,rfl,hl,rfl⟩
section
variable{X:Cx}{pins:List (Addr×Obj)}{σ:St}{H:Hp}{s:Shared}{a:Addr}{y v:V}{u r:Value}{o:Option V}{A:Zt}{E:eQ}
def Inv.big(I:Inv X pins σ H s):Zp<↥s:=by
 have h:mainGlobals<↥s:=(I.mod.glob.keeps I.bk).lt;exact Nat.lt_trans ∅ h
def Jc{Q:eQ}(hu:A.units+1<YV)(I:Inv X pins σ H s)(g:qz H a y (some v))(n:RelV y u)(h:∀w' s',Inv X pins σ H s'->RelV v w'->Q w' s') :
  wpAny (model X.prog X.w) A (XT (.ref a) u) Q E s:=by
 rcases g with⟨kvs,k,e,i,l⟩|⟨kvs,k,b,e,i,q,l⟩
 ·subst i;let⟨z,hd,vs,c,f⟩:=uH I.hok e;let⟨w',m,d⟩:=uW.some_of (v:=v) (o:=Tb vs k) (by rw[l];exact c.val k);exact wpAny_getItem_of (vO n) f.mapOf m (h w' _ (I.tok _) d)
 ·subst i;cases (show u=ĥ b from n);let⟨z,hd,xs,c,f⟩:=Bo I.hok e;let⟨w',m,d⟩:=uW.some_of (v:=v) (o:=(Th xs k).map (·.2)) (by rw[l];exact c.val k);let⟨p,hp,j⟩:=Option.map_eq_some_iff.mp m;refine wpAny_getItem_heap (Tk hu) (ud I.hok q) f hp ?_;rw[j];exact h w' _ (I.tok _) d
def Y0{Q:eQ}(hu:A.units+1<YV)(I:Inv X pins σ H s)(g:qz H a y o)(i:RelV y u)(h:∀s',Inv X pins σ H s'->Q (.bool o.isSome) s') :
  wpAny (model X.prog X.w) A (ZL .In u (.ref a)) Q E s:=by
 rcases g with⟨kvs,k,e,f,l⟩|⟨kvs,k,b,e,f,j,l⟩
 ·subst f;let⟨z,hd,vs,c,d⟩:=uH I.hok e;refine wpAny_in_of (vO i) hd d.mapOf ?_;rw[←(c.val k).gG,←l];exact h _ (I.tok _)
 ·subst f;cases (show u=ĥ b from i);let⟨z,hd,xs,c,d⟩:=Bo I.hok e;refine wpAny_in_heap (Tk hu) (ud I.hok j) hd d ?_;have q:=(c.val k).gG;rw[Option.isSome_map]at q;rw[←q,←l];exact h _ (I.tok _)
def QX{Q:eQ}(hu:A.units+1<YV)(I:Inv X pins σ H s)(g:qz H a y o)(i:RelV y u)(h:∀s',Inv X pins σ H s'->Q (.bool (!o.isSome)) s') :
  wpAny (model X.prog X.w) A (ZL .NotIn u (.ref a)) Q E s:=by
 rcases g with⟨kvs,k,e,f,l⟩|⟨kvs,k,b,e,f,j,l⟩
 ·subst f;let⟨z,hd,vs,c,d⟩:=uH I.hok e;refine wpAny_notIn_of (vO i) hd d.mapOf ?_;rw[←(c.val k).gG,←l];exact h _ (I.tok _)
 ·subst f;cases (show u=ĥ b from i);let⟨z,hd,xs,c,d⟩:=Bo I.hok e;refine wpAny_notIn_heap (Tk hu) (ud I.hok j) hd d ?_;have q:=(c.val k).gG;rw[Option.isSome_map]at q;rw[←q,←l];exact h _ (I.tok _)
def yJ{h':Zi}{t':Nat}{c:HO}(I:Inv X pins σ H s)(d:Mut (H a))(hs:Heap.SameBut a s.heap h')(he:∃q,h'.get? a=some q)(new:bf X.prog X.w (upd H a c) h' a c) :
  Inv X pins σ (upd H a c) { s with heap:=h',toks:=t' } :=
 I.write (x:=a) (e:=a) d (.inl rfl) (λb q hb z=>(hs.2 b hb).trans z) he new
def Np{P:Zc}{w:Zd}{c:Hp}{h':Zi}{kvs:List (Key×V)}{vs:List (Key×Value)}(z:⇑kvs<=sizeLine)(hd:(a==Zp)=false)(b:KV kvs vs)(d:h'.DictOf (aY P w) a vs) :
  bf P w c h' a (.dK kvs):=⟨z,hd,vs,b,d⟩
def Jb{t:Hp}{Q:Unit->Shared->Prop}(hu:A.units+1<YV)(I:Inv X pins σ H s)(g:Jt H a y v t)(D:RelV y u)(C:RelV v r)(h:∀s',Inv X pins σ t s'->Q .unit s') :
  wpAny (model X.prog X.w) A (ZX (.ref a) u r) Q E s:=by
 rcases g with⟨kvs,k,e,n,l,m⟩|⟨kvs,k,b,e,n,x,l,m⟩
 ·subst n m;let⟨z,hd,vs,d,j⟩:=Hh I.hok e;have p:⇑vs<=sizeLine:=by rw[←⇑d];exact z
  have hl:⇑(putK kvs k v)<=sizeLine:=by have:=jr kvs k v;lia
  refine wpAny_setItem_pairs (hsz:=p) (vO D) j λh' f hs=>h _ ?_;have he:∃q,h'.get? a=some q:=let⟨q,_,_,i,_⟩:=f;⟨q,i⟩
  exact yJ I (by rw[e];exact True.intro) hs he (Np hl hd (d.put k C) f)
 ·subst n m;cases (show u=ĥ b from D);let⟨z,hd,xs,d,j⟩:=Yg I.hok e;have p:⇑xs<=sizeLine:=by rw[←Paired.length d];exact z
  have hl:⇑(putK kvs k v)<=sizeLine:=by have:=jr kvs k v;lia
  refine wpAny_setItem_heap (hsz:=p) (Tk hu) (ud I.hok x) j λh' f hs=>h _ ?_;let⟨q,es,ep,i,h2,F,G,_,J⟩:=f;refine yJ I (by rw[e];exact True.intro) hs ⟨q,i⟩ ⟨hl,hd,_,(d.put k x C).keeps λc ys B=>?_,q,es,ep,i,h2,F,G,J⟩;rw[aj (Xb B e (λz=>nomatch z))];exact B
end
section
variable{X:Cx}{pins:List (Addr×Obj)}{σ:St}{H:Hp}{s:Shared}{a:Addr}{kvs:List (Key×V)}{k:Key}{u:Value}{A:Zt}{E:eQ}
end
def Ra(i:Zv):Prop:=∀ov iv,X9 i false ov iv=operate [ov,iv] (XT ov iv)
def Ow{prog:Zc}{w:Zd}{A:Zt}{E:eQ}{s:Shared}{env:Env}{b a:Zv}{pos:Pos}{T id:String}{Q:eQ}(hl:XX (.type T) "__getitem__"=pure (some (.builtin id)))(hs:Ra a)(h:wpAny (model prog w) A (Zx b env) (λo s₁=>wpAny (model prog w) A (Zx a env) (λi s₂=>s₂.TypeIs o T/\wpAny (model prog w) A (XT o i) Q E s₂) E s₁) E s) :
  wpAny (model prog w) A (Zx (.Subscript b a pos) env) Q E s:=by
 refine XY (ř h (λo s₁ h₁=>ř h₁ (λi s₂ c=>?_) λ_ _ x=>x) λ_ _ x=>x);let⟨e,c⟩:=c;unfold XZ;refine Æ ?_;rw[getitemInPython_of_ne e.not_modules];refine Æ (Tl e hl ?_);have d:wpAny (model prog w) A (X9 a false o i) (λr s₃=>wpAny (model prog w) A (letTemporaryGo b o r >>=λ_=>pure r) Q E s₃) E s₂:=by
  rw[hs o i];exact wpAny_operating (ř c (λr s₃ h₃=>Æ (wpAny_letTemporaryGo (Ù h₃))) λ_ _ x=>x)
 first
  |exact Ù (Æ d)
  |exact Æ (Ù (Æ d))
  |exact Æ d
def Br{X:Cx}{c:List (Addr×Obj)}{σ:St}{H:Hp}{s:Shared}{a:Addr}{y:V}{o:Option V}(I:Inv X c σ H s)(g:qz H a y o):s.TypeIs (.ref a) "dict":=by
 rcases g with⟨kvs,k,e,_,_⟩|⟨kvs,k,b,e,_,_,_⟩
 ·let⟨_,_,vs,_,d⟩:=uH I.hok e;exact d.typeIs
 ·let⟨_,_,xs,_,d⟩:=Bo I.hok e;exact d.typeIs
def Wh(b ty:TE):TE:=λσ H Q=>b σ H λx H1=>ty σ H1 λy H2=>∃a v,x=.ref a/\qz H2 a y (some v)/\Q v H2
def Wg(ty b:TE):TE:=λσ H Q=>ty σ H λy H1=>b σ H1 λx H2=>∃a o,x=.ref a/\qz H2 a y o/\Q (.bl o.isSome) H2
def Fy(ty b:TE):TE:=λσ H Q=>ty σ H λy H1=>b σ H1 λx H2=>∃a o,x=.ref a/\qz H2 a y o/\Q (.bl (!o.isSome)) H2
def J6(b ty c:TE):TS:=λD σ H=>c σ H λv H1=>b σ H1 λx H2=>ty σ H2 λy H3=>∃a H4,x=.ref a/\Jt H3 a y v H4/\D.nx σ H4
section
variable{X:Cx}{o i e value:Zv}{pos pos' tpos:Pos}{td ty tv:TE}
def Pz(hu:X.A.units+1<YV)(c:PE X o td)(hi:PE X i ty)(hs:Ra i):PE X (.Subscript o i pos) (Wh td ty):=by
 intro b s σ H Q I h;refine Ow PySem.F.slot_dict_getitem.lookup hs (thn (c b s σ H _ I h) λu s1 ⟨x,H1,I1,rx,q1⟩=>thn (hi b s1 σ H1 _ I1 q1) λiv s2 ⟨y,H2,I2,ry,a,v,ex,g,q2⟩=>?_);subst ex;obtain rfl:u=ĥ a:=rx;exact⟨Br I2 g,Jc hu I2 g ry λw' s3 I3 rw'=>⟨v,H2,I3,rw',q2⟩⟩
def Ur(hu:X.A.units+1<YV)(hi:PE X i ty)(c:PE X o td):PC X .In i o (Wg ty td):=by
 intro b s σ H Q I h;refine thn (hi b s σ H _ I h) λiv s1 ⟨y,H1,I1,ry,q1⟩=>thn (c b s1 σ H1 _ I1 q1) λu s2 ⟨x,H2,I2,rx,a,ov,ex,g,q2⟩=>?_;subst ex;obtain rfl:u=ĥ a:=rx;exact Y0 hu I2 g ry λs3 I3=>⟨.bl ov.isSome,H2,I3,rfl,q2⟩
def Ia(hu:X.A.units+1<YV)(hi:PE X i ty)(c:PE X o td):PC X .NotIn i o (Fy ty td):=by
 intro b s σ H Q I h;refine thn (hi b s σ H _ I h) λiv s1 ⟨y,H1,I1,ry,q1⟩=>thn (c b s1 σ H1 _ I1 q1) λu s2 ⟨x,H2,I2,rx,a,ov,ex,g,q2⟩=>?_;subst ex;obtain rfl:u=ĥ a:=rx;exact QX hu I2 g ry λs3 I3=>⟨.bl (!ov.isSome),H2,I3,rfl,q2⟩
def Gp(hu:X.A.units+1<YV)(c:PE X o td)(hi:PE X i ty)(hv:PE X value tv)(hs:ZT value (some (.Subscript o i pos')) pos.line X.env=pure false) :
  PS X (.Assign [.Subscript o i pos'] value pos) (J6 td ty tv):=by
 intro b s σ H D I h;refine wpAny_Assign_Subscript (thn (hv b s σ H _ I h) λr s1 ⟨v,H1,I1,rv,q1⟩=>thn (c b s1 σ H1 _ I1 q1) λu s2 ⟨x,H2,I2,rx,q2⟩=>thn (hi b s2 σ H2 _ I2 q2) λiv s3 ⟨y,H3,I3,ry,a,H4,ex,g,q3⟩=>?_) hs;subst ex;obtain rfl:u=ĥ a:=rx;exact Jb hu I3 g ry rv λs4 I4=>⟨σ,H4,I4,q3⟩
end
def Bq{P:Zc}{w:Zd}{H:Hp}(h:Zi)(hb:Zp<h.objs.size):bf P w H (h.push { cls:=.type "dict",data:=.dict #[]}) h.objs.size (.dK []) :=
 ⟨Ă _,beq_eq_false_iff_ne.mpr (Ĩ (ë hb)),[],.nil,Heap.DictOf.new h⟩
def Tj:TE:=λ_ H Q=>∀p,H p=none->Q (.ref p) (upd H p (.dK []))
section
variable{X:Cx}{pos:Pos}
def K4:PE X (.Dict [] [] pos) Tj:=λpins s σ H Q I h =>
 wpAny_Dict_empty ⟨.ref ↥s,_,I.laid (a:=↥s) (o:=.dK []) (t':=s.toks) (λ_ _ q=>Ò _ q) (Õ _) (Bq s.heap I.big),rfl,h _ (I.hok.fresh (Õ _))⟩
end
def Cu:List (TE×TE)->St->Hp->(List (V×V)->Hp->Prop)->Prop
 |[],_,H,Q=>Q [] H
 |(tk,tv)::r,σ,H,Q=>tk σ H λx H1=>tv σ H1 λy H2=>Cu r σ H2 λps H3=>Q ((x,y)::ps) H3
abbrev VV:List (V×V)->List (Value×Value)->Prop:=Paired λp q=>RelV p.1 q.1/\RelV p.2 q.2
def PPs(X:Cx)(pos:Pos)(b:List (Option Zv))(a:List Zv)(c:List (TE×TE)):Prop :=
 ∀(pins:List (Addr×Obj))(s:Shared)(σ:St)(H:Hp)(Q:List (V×V)->Hp->Prop),Inv X pins σ H s->Cu c σ H Q ->
  wpAny (model X.prog X.w) X.A (evalPairs (pairTrees b a X.env pos)) (λvs s'=>∃ps H',Inv X pins σ H' s'/\VV ps vs/\Q ps H') X.xe s
def Pb{X:Cx}{pos:Pos}:PPs X pos [] [] []:=λpins s σ H Q I h=>pairTrees_nil_walk ⟨[],H,I,.nil,h⟩
def KD{X:Cx}{pos:Pos}{k v:Zv}{ks:List (Option Zv)}{vs:List Zv}{tk b:TE}{a:List (TE×TE)}(hk:PE X k tk)(hv:PE X v b)(hr:PPs X pos ks vs a) :
  PPs X pos (some k::ks) (v::vs) ((tk,b)::a):=λpins s σ H Q I h =>
 pairTrees_cons_walk (thn (hk pins s σ H _ I h) λu s1 ⟨x,H1,I1,rx,q1⟩=>thn (hv pins s1 σ H1 _ I1 q1) λw2 s2 ⟨y,H2,I2,ry,q2⟩ =>
  thn (hr pins s2 σ H2 _ I2 q2) λws s3 ⟨ps,H3,I3,rel,q3⟩=>⟨(x,y)::ps,H3,I3,.cons ⟨rx,ry⟩ rel,q3⟩)
def tU(kvs a:List (Key×V)):List (Key×V):=a.foldl (λacc kv=>putK acc kv.1 kv.2) kvs
def KV.merge:∀{a:List (Key×V)}{b:List (Key×Value)}{kvs:List (Key×V)}{vs:List (Key×Value)},KV a b->KV kvs vs->KV (tU kvs a) (merged vs b):=by
 intro a b kvs vs r;unfold KV at r;induction r generalizing kvs vs with
 |nil=>intro q;exact q
 |@cons p q ps qs h t ih =>
  intro c;have e:KV (putK kvs p.1 p.2) (stored vs q.1 q.2):=by
   have:=c.put p.1 h.2;rw[←h.1];exact this
  exact ih e
theorem kI:∀(a kvs:List (Key×V)),⇑(tU kvs a)<=⇑kvs+⇑a
 |[],kvs=>by show ⇑kvs<=⇑kvs+0;lia
 |p::r,kvs=>by
  have h1:=kI r (putK kvs p.1 p.2);have h2:=jr kvs p.1 p.2;show(tU (putK kvs p.1 p.2) r).length<=_;rw[ñ];lia
theorem uQ{P:Zc}{w:Zd}:∀{kvs:List (Key×V)}{d:List (Value×Value)},VV (kvs.map λkv=>(kV kv.1,kv.2)) d->∃rs,Carries (aY P w) d rs/\KV kvs rs
 |[],_,r=>by rw[List.map_nil]at r;cases r;exact⟨[],True.intro,.nil⟩
 |p::kvs,_,r=>by
  rw[ö]at r;cases r with
  |@cons a b as bs h t =>
   let⟨rs,c,q⟩:=uQ (P:=P) (w:=w) t;let⟨b1,b2⟩:=b;exact⟨(p.1,b2)::rs,⟨vO h.1,rfl,c⟩,.cons ⟨rfl,h.2⟩ q⟩
def Wf(a:List (TE×TE)):TE:=λσ H Q=>∀p,H p=none->Cu a σ (upd H p (.dK [])) λps H2=>H2 p=some (.dK [])/\∃kvs:List (Key×V),ps=kvs.map (λkv=>(kV kv.1,kv.2))/\⇑kvs<=15/\Q (.ref p) (upd H2 p (.dK (tU [] kvs)))
def Py{X:Cx}{pos:Pos}{b:List (Option Zv)}{d:List Zv}{j:List (TE×TE)}(h:PPs X pos b d j)(g:b.all (·.isSome)=true)(hl:⇑b=⇑d)(n:b≠[])(k:⇑b<=15):PE X (.Dict b d pos) (Wf j):=by
 intro i s σ H Q I q;have hn:=I.hok.fresh (Õ ↥s);have l:=I.laid (a:=↥s) (o:=.dK []) (h':=s.heap.push { cls:=.type "dict",data:=.dict #[]}) (t':=s.toks) (λ_ _ q=>Ò _ q) (Õ _) (Bq s.heap I.big);refine wpAny_Dict_walk (knd:=aY X.prog X.w) g hl n k (thn (h i _ σ _ _ l (q _ hn)) λws s2 ⟨ps,H2,I2,rel,e,kvs,ep,lk,q2⟩=>?_);subst ep;let⟨u,c,t⟩:=uQ (P:=X.prog) (w:=X.w) rel;let⟨z,hd,v,r,m⟩:=Hh I2.hok e;cases r;refine⟨u,c,m,λh' f hs=>⟨.ref ↥s,_,?_,rfl,q2⟩⟩;have p:⇑(tU [] kvs)<=sizeLine:=by
  have h1:=kI kvs [];rw[List.length_nil]at h1;rw[ą];lia
 have he:∃q,h'.get? ↥s=some q:=let⟨q,_,_,hq,_⟩:=f;⟨q,hq⟩
 exact yJ I2 (by rw[e];exact True.intro) hs he (Np p hd (t.merge .nil) f)
structure M1(X:Cx)(o:Zv)(m:Str)(apos:Pos)(e:Zv)(cpos:Pos):Prop where
 base:WE o m X.env (Zx o X.env)=Zx o X.env
 few:((Zy cpos (Zw [e] X.env)).all (λx=>!x.1)&&(ZA cpos (ZB [] X.env)).all (λx=>x.1.isSome)
 &&decide (⇑([e]:List Zv)+⇑([]:List ZC)+(if([]:List ZC).isEmpty then 0 else 1)<30))=true
 line:(apos.endLine==cpos.line)=true
 trees:Zy cpos (Zw [e] X.env)=[(false,Zx e X.env)]
structure M2(X:Cx)(o:Zv)(m:Str)(apos:Pos)(e f:Zv)(cpos:Pos):Prop where
 base:WE o m X.env (Zx o X.env)=Zx o X.env
 few:((Zy cpos (Zw [e,f] X.env)).all (λx=>!x.1)&&(ZA cpos (ZB [] X.env)).all (λx=>x.1.isSome)
 &&decide (⇑([e,f]:List Zv)+⇑([]:List ZC)+(if([]:List ZC).isEmpty then 0 else 1)<30))=true
 line:(apos.endLine==cpos.line)=true
 trees:Zy cpos (Zw [e,f] X.env)=[(false,Zx e X.env),(false,Zx f X.env)]
section
variable{X:Cx}{pins:List (Addr×Obj)}{σ:St}{H:Hp}{s:Shared}{a:Addr}{y d:V}{u r:Value}{o:Option V}{A:Zt}{E:eQ}
end
section
variable{X:Cx}{o e f:Zv}{apos cpos:Pos}{td ty tx:TE}
end
section
variable{X:Cx}{pins:List (Addr×Obj)}{σ:St}{H:Hp}{s:Shared}{a:Addr}{kvs:List (Key×V)}{A:Zt}{E:eQ}
end
section
variable{X:Cx}{pins:List (Addr×Obj)}{σ:St}{H:Hp}{s:Shared}{a:Addr}{y:V}{u:Value}{A:Zt}{E:eQ}
end
section
variable{prog:Zc}{w:Zd}{A:Zt}{E:eQ}{s:Shared}
def Bw{T:String}{r d:Addr}{n:Nat}{P:Nat->Value->Prop}{p:Zi->Prop}{R:List Value->Shared->Prop}(K:W.KdlSrc prog w T r d n P p)(hh:A.handled=none)(m:p s.heap)(hn:n<=sizeLine)(h:∀(h':Zi)(tk:Nat)(acc:Array Value),↥s<h'.objs.size->(∀b o,s.heap.get? b=some o->h'.get? b=some o)->To P acc n->R acc.toList { s with heap:=h',toks:=tk }) :
  wpAny (model prog w) A (UE (.ref r)) R E s:=by
 have k:=K.there _ m;unfold UE;refine Æ (UF (UH UI ?_));rw[Around.under_plainId PySem.F.plain_proto_collect _];show wpAny _ A.in1 (WS [] >>=λl=>again (.builtin "list.__iadd__" ⟨[l,.ref r],[]⟩)) _ _ s;refine Æ (ŧ ?_);refine Ù ⟨Ts PySem.F.plain_list_iadd _,UH UK ?_⟩;rw[Around.under_plainId PySem.F.plain_list_iadd _];have i:(s.heap.push { cls:=.type "list",data:=.seq ([]:List Value).toArray }).get? ↥s=some { cls:=.type "list",data:=.seq #[]}:=è _ rfl;show wpAny _ A.in1 (į (.ref ↥s) (.ref r) (.ref ↥s)) _ _ _;have key:=W.kdl_extend (A:=A) (s:={ s with heap:=s.heap.push { cls:=.type "list",data:=.seq ([]:List Value).toArray }}) K
  (R:=λ(q:Result) (s':Shared)=>∃(h':Zi)(tk:Nat)(a:Array Value)(j:Nat),q=.ok (.ret (.ref ↥s))/\s'={ s with heap:=h',toks:=tk } /\
   (∀b o,s.heap.get? b=some o->h'.get? b=some o)/\h'.get? ↥s=some { cls:=.type "list",dict:=none,data:=.seq a j,slots:=#[]}/\To P a n)
  hh (K.keep _ _ m λb _ o e=>Ò _ e) ↥s (ņ k.1) (ņ k.2) (.ref ↥s) 0 i
  (λh' tk a j hk g c=>⟨h',tk,a,j,rfl,rfl,λb o e=>hk b o (ë (Ó e)) (Ò _ e),g,c⟩) hn
 refine ř key (λfin s' x=>?_) λe s' x=>?_
 ·cases fin with
  |done f =>
   let⟨h',tk,a,j,e,rfl,hk,g,c⟩:=x;cases e;show wpAny _ A (load ↥s >>=_) _ _ _;refine Æ (Z7 g ?_);exact Ù (h h' tk a (Ó g) hk c)
  |again c₁ =>
   refine⟨x.1,Y3 x.2 λq s₂ y=>?_⟩;let⟨h',tk,a,j,rfl,rfl,hk,g,c⟩:=y;show wpAny _ A (load ↥s >>=_) _ _ _;refine Æ (Z7 g ?_);exact Ù (h h' tk a (Ó g) hk c)
 ·let⟨_,_,_,_,t,_⟩:=x;cases t
def CJ{T:String}{r d:Addr}{n:Nat}{P:Nat->Value->Prop}{k:Zi->Prop}{Q:eQ}{ns:List Int}(K:W.KdlSrc prog w T r d n P k)(hh:A.handled=none)(i:k s.heap)(hn:n<64)(u:∀us:List Value,⇑us=n->(∀j v,us[j]?=some v->P j v)->IntsAre us ns)(h:∀(h':Zi)(tk:Nat)(D:Addr)(e:Nat)(out:Array Value)(a:List Int),↥s<=D->(∀b o,s.heap.get? b=some o->h'.get? b=some o)->h'.get? D=some { cls:=.type "list",data:=.seq out e }->IntsAre out.toList a->a.Perm ns->a.Pairwise (·<=·)->Q (.ref D) { s with heap:=h',toks:=tk }) :
  wpAny (model prog w) A (YI (.builtin "sorted") [.ref r]) Q E s:=by
 have p:=ą;refine Calls.call_function_entry kind_sorted plain_sorted entry_sorted (args_sorted1 _) ?_;unfold Builtin.«sorted»;refine Æ (m:=checkCount "sorted" 1 1 _) (Ù ?_);refine Æ (Bw (A:=A.in1) K hh i () λh1 tk acc hsz hk hacc=>?_);have f:⇑acc.toList=n:=by rw[ğ];exact hacc.1
 have t:IntsAre acc.toList ns:=u acc.toList f λj v e=>hacc.2 j v (by rw[←Array.getElem?_toList];exact e);have x:↥s<=h1.objs.size:=Nat.le_of_lt hsz;refine Æ (UC ?_ ());have c:(h1.push (VY "list" acc.toList.toArray 0)).get? h1.objs.size=some (VY "list" acc.toList.toArray 0):=è _ rfl;refine Æ (ġ (Ł UM ⟨_,c,rfl⟩ UN (list_sort_tree c t () λout a a1 a2 a3=>⟨_,rfl,?_⟩) (UO _)));let⟨e,he⟩:=sortedHeap_at (out:=out) c;refine Ù ⟨_,rfl,h _ tk h1.objs.size e out a x (λb o q=>?_) he a1 a2 a3⟩;have l:=hk b o q;have g:b<h1.objs.size:=Ó l;rw[sortedHeap_old (ë g) (by rw[UD];exact ĕ g)];exact Ò _ l
end
section
variable{X:Cx}
def yN:aQ X (.builtin "sorted") (λxs H Q=>∃(p:Addr)(ns:List Int),xs=[.ref p]/\SqL X.K H p (ns.map V.int)/\⇑ns<64 /\
  ∀(l:Addr)(out:List Int),H l=none->out.Perm ns->out.Pairwise (·<=·)->Q (.ref l) (upd H l (.lst (out.map V.int)))):=by
 intro c s σ H xs us Q I r h;let⟨p,ns,rfl,hp,g,q⟩:=h;let⟨u,rfl,k⟩:=vals1 r;cases k;let⟨its,d,j,m⟩:=I.list hp;have i:IntsAre its ns:=intsAre_of d;have hl:=⇑d;rw[Ä]at hl;refine sorted_ints (vs:=its) (ns:=ns) j.isList i () λout ns' a1 a2 a3=>?_;let⟨e,he⟩:=sortedAll_at s.heap its out;have hv:=jG a1;have a:=⇑hv;rw[Ä]at a;have hpl:=a2.length_eq;have f:=ą;refine⟨.ref (↥s+1),upd H (↥s+1) (.lst (ns'.map V.int)),I.laid (t':=s.toks) (λb o eb=>UP eb) (ō _) ⟨?_,out.toList,e,hv,by simpa using he⟩,rfl,q _ _ (I.hok.fresh (ō _)) a2 a3⟩;rw[Ä];lia
def Ip{P:Zc}{w:Zd}{vs:List (Key×Value)}{ks:List Int}(hk:vs.map (·.1)=ks.map ü):∀us:List Value,⇑us=⇑vs->(∀(j:Nat)(v:Value),us[j]?=some v->∃k x,vs[j]?=some (k,x)/\(aY P w).is k v=true)->IntsAre us ks:=by
 intro us;induction us generalizing vs ks with
 |nil =>
  intro hl _;have e:vs=[]:=List.eq_nil_of_length_eq_zero (by simpa using hl.symm);subst e;cases ks with
  |nil=>exact .nil
  |cons k ks=>simp at hk
 |cons u us ih =>
  intro hl h;cases vs with
  |nil=>simp at hl
  |cons v vs =>
   cases ks with
   |nil=>simp at hk
   |cons k ks =>
    rw[ö,ö]at hk;injection hk with hk1 hk2
    let⟨f,x,e,d⟩:=h 0 u (by simp);simp at e;subst e;simp only at hk1;subst hk1;have b:pR (ü k) u=true:=d;rcases aO b with⟨i,t,a,c⟩|⟨y,t,a,c⟩
    ·injection a with a;subst a c;exact .cons _ t (ih hk2 (by simpa using hl) λj v hj=>by simpa using h (j+1) v (by simpa using hj))
    ·cases a
def yO(hc:X.calm=true):aQ X (.builtin "sorted") (λxs H Q=>∃(d:Addr)(kvs:List (Key×V))(ks:List Int),xs=[.ref d]/\H d=some (.dK kvs)/\kvs.map (·.1)=ks.map ü/\⇑ks<64 /\
  ∀(l:Addr)(out:List Int),H l=none->out.Perm ks->out.Pairwise (·<=·)->Q (.ref l) (upd H l (.lst (out.map V.int)))):=by
 intro k s σ H xs us Q I r h;let⟨d,kvs,ks,rfl,hd,j,n,q⟩:=h;let⟨u,rfl,z⟩:=vals1 r;cases z;let⟨A,y,vs,x,o,es,ep,t,v,c,f,g,i⟩:=Hh I.hok hd;have hm:s.heap.DictAt (aY X.prog X.w) d vs ep:=⟨o,es,t,v,c,f,g,i⟩
 have a:vs.map (·.1)=ks.map ü:=by rw[←KV.keys x];exact j
 have p:⇑vs=⇑ks:=by have:=eJ List.length a;simpa using this
 refine CJ (ns:=ks) (W.kdl_dict (ep:=ep) y) (I.ok.hd hc) hm () (λus hl h=>Ip a us hl h) λh' tk D e out ns' hD hk he a1 a2 a3=>?_;have hv:=jG a1;have hpl:=a2.length_eq;have m:=ą;refine⟨.ref D,upd H D (.lst (ns'.map V.int)),I.laid (λb o eb=>hk b o eb) hD ⟨?_,out.toList,e,hv,by simpa using he⟩,rfl,q _ _ (I.hok.fresh hD) a2 a3⟩;rw[Ä];lia
def iD(l:List Int):UQ:=.list (l.map Â)
theorem Mg:∀l:List Int,Ď (l.map Â)=true
 |[]=>rfl
 |t::ts=>by
  show(PyData.canLay0 (Â t)&&Ď (ts.map Â))=true;rw[Mg ts];rfl
theorem Bs:∀l:List Int,ę (l.map Â)=0
 |[]=>rfl
 |t::ts=>by
  show max (PyData.depth (Â t)) (ę (ts.map Â))=0;rw[Bs ts];rfl
inductive DatL(K:ã)(H:Hp):V->UQ->Prop
 |flt {a:Addr}{l:List Int}:SqL K H a (l.map V.int)->DatL K H (.ref a) (iD l)
 |lists {a:Addr}{as:List Addr}{ls:List (List Int)}:SqL K H a (as.map V.ref)->Paired (λ(a:Addr) (l:List Int)=>SqL K H a (l.map V.int)) as ls->DatL K H (.ref a) (.list (ls.map iD))
end
end L2
namespace PySem
open PyProof.Rows
def Y7(h:Zi)(e:Addr):Prop:=∃oe vs,h.get? e=some oe/\oe.data=.fields vs/\vs[2]?=some .none
section
variable{M:ZF}{A:Zt}{E:eQ}{s:Shared}{base:Zi}{env:Env}{outer:List Env}{L e:Addr}{Q:Unit->Shared->Prop}
end
end PySem
namespace L2
open PySem PySem.Spec PyProof.Rows
def Y8(base:Zi)(l:List Env)(e:Addr)(a b:Value)(h:Zi):Prop:=base.StaysIn h/\base.get? e=none/\h.FunFrames base l/\h.TracedW base e a b/\Y7 h e
def CX1(P:Zc)(w:Zd):CXT:=λouter H s E e s'=>∃(a:Addr)(cls a0:Value)(H1:Hp)(hb:Zi),e=.ref a/\s'.os=s.os/\ZD s'.gens/\Un (frs outer) [] H H1 s.heap s'.heap/\HOk P w H1 hb/\Y8 hb outer a cls a0 s'.heap /\
 (∀b o,s.heap.get? b=some o->H b=none->b∉frs outer->hb.get? b=some o)/\(∀b o,s.heap.get? b=some o->b∉frs outer->∃o',hb.get? b=some o')/\E cls none H1
structure Lets(X:Cx)(E:XK):Prop where
 xe:∀e s',wpAny (model X.prog X.w) X.A (leaving X.env e) (λ_ s''=>CX1 X.prog X.w X.outer X.H₀ X.s₀ E e s'') (λe' s''=>CX1 X.prog X.w X.outer X.H₀ X.s₀ E e' s'') s'->X.xe e s'
 stk:X.stack=X.env::X.outer
 fr:X.env.frame=some X.env.locals
 ex:X.ex=[]
section
variable{X:Cx}{pins:List (Addr×Obj)}{σ:St}{H H1:Hp}{s:Shared}{E:XK}
end
structure ExcCls(K:ã)(C:Addr)(newId:String)(bmB:List Value):Prop where
 ex:∃(nm q:Str)(N:Addr)(bs bm:List Value)(hdct:Bool)(sn:List Str)(sub:List Value)(ab:Bool)(col:Option Bool)(dd:Option Addr)(k0 k1 k2 k3 k5:Option Value),
  K.lookup C=some (excClassObj nm q C N bs bm hdct sn sub ab col dd k0 k1 k2 k3 k5 newId)/\W.tailIn K bmB bm=true/\W.nsOkIn K N=true/\W.nsIn K N "__init__"=some none/\bm.contains (.type "BaseException")=true
section
variable{X:Cx}{E:XK}{x:Str}{C:Addr}{newId Bn initId:String}{bmB:List Value}{e:Zv}{es:List Zv}{t:TA}{np cpos pos:Pos}
end
section
variable{X:Cx}{pins:List (Addr×Obj)}{σ:St}{H:Hp}{s:Shared}{ev:Value}
def Inv.track{a:Addr}{o:HO}(I:Inv X pins σ H s)(hn:H a=none)(d:∀ob,X.s₀.heap.get? a≠some ob)(g:a≠X.env.locals)(f:∀x c,X.env.cells.lookup x=some c->c≠a)(hp:∀p∈X.pn++pins,p.1≠a)(new:bf X.prog X.w (upd H a o) s.heap a o):Inv X pins σ (upd H a o) s:=by
 refine⟨I.ok,I.os,I.bare,⟨I.base.keep,I.base.slot,λb ob e n hx=>?_,I.base.there,λb xs e=>?_,λb ob u e=>?_,λb ps e=>?_⟩,I.loc,I.cell,?_,λx c e=>?_,λp q=>?_,I.hok.track hn new,I.len⟩
 ·rw[aj (show b≠a from λz=>d ob (by rw[←z];exact e))];exact I.base.free b ob e n hx
 ·have q:=I.base.tups b xs e;rw[aj (ak q hn)];exact q
 ·have q:=I.base.frzs b ob u e;rw[aj (ak q hn)];exact q
 ·let⟨m,q⟩:=I.base.tbls b ps e;exact⟨m,by rw[aj (ak q hn)];exact q⟩
 ·rw[aj (Ĩ g)];exact I.free
 ·rw[aj (f x c e)];exact I.freeC x c e
 ·let⟨h,i,j⟩:=I.pin p q;exact⟨h,by rw[aj (hp p q)];exact i,j⟩
end
section
variable{X:Cx}{k:Nat}{f CF:Addr}{fd:YY}{ps:List Str}{sp:Sp}{E:XK}{x hx n:Str}{p np cpos epos hpos pos:Pos}{e:Zv}{es:List Zv}{t:TA}{b₀:ZH}{suite:List ZH}{ts:TS}{j:Nat}
end
end L2
namespace L2
open PySem PySem.W PySem.Spec PyProof.Rows
structure ExcK(K:ã)(C:Addr):Prop where
 ex:∃(nm q:Str)(N AF:Addr)(bs bmB:List Value)(hdct:Bool)(sn:List Str)(sub:List Value)(ab:Bool)(col:Option Bool)(dd ddF:Option Addr)(k0 k1 k2 k3 k5:Option Value)(newId B:String)(c0:Value)(cd:ClassData)(slF:Array (Option Value)),
  K.lookup C=some (excClassObj nm q C N bs (.ref AF::bmB) hdct sn sub ab col dd k0 k1 k2 k3 k5 newId)/\K.lookup AF=some ⟨c0,ddF,.cls cd,slF⟩/\nsOkIn K cd.ns=true/\(∀n∈quietNames,nsIn K cd.ns n=some none)/\ExcAttrBase B bmB
 ga:findIn K (.ref C) "__getattribute__"=some (some (.builtin "BaseException.__getattribute__"))
 hook:findIn K (.ref C) "__getattr__"=some none
 cls:findIn K (.ref C) "__class__"=some (some (.builtin "object.__class__"))
 mro:mroIn K C (.type "object")=some true
section
variable{prog:Zc}{w:Zd}{K:ã}{a C:Addr}{A:Zt}{E:eQ}{s:Shared}
end
section
variable{X:Cx}
def Ru:R2:=λx y H Q=>∃a b xs ys,x=.ref a/\y=.ref b/\H a=some (.tup xs)/\H b=some (.tup ys)/\⇑xs+⇑ys<=sizeLine/\∀c H',(∀d u,H d=some u->H' d=some u)->H' c=some (.tup (xs++ys))->Q (.ref c) H'
def P0:OpR X (YN .Add) Ru:=by
 intro c s σ H x y v u Q I o r h;let⟨a,b,xs,ys,rfl,rfl,ha,hb,g,q⟩:=h;cases o;cases r;let⟨its,l,j,_⟩:=I.tuple (SqT.of ha);let⟨i,n,k,_⟩:=I.tuple (SqT.of hb);by_cases f:xs=[]
 ·subst f;cases l;let⟨m,F⟩:=I.fr;refine add_tuples (vs:=[]) F Lr j k (λ_=>⟨.ref b,H,I,rfl,q b H (λ_ _ z=>z) (by simpa using hb)⟩) (λz=>eI rfl z) (λz=>eI rfl z) (by rw[←⇑n];simpa using g)
 ·refine PX c s σ H (.ref a) (.ref b) (.ref a) (.ref b) Q I rfl rfl ⟨a,b,xs,ys,rfl,rfl,SqT.of ha,SqT.of hb,f,g,λe=>?_,λ_ p hp=>?_⟩
  ·subst e;exact q a H (λ_ _ z=>z) (by rw[ě];exact ha)
  ·exact q p _ (λd u z=>by rw[aj (ak z hp)];exact z) ao
end
section
variable{K:ã}{C c:Addr}{dd:Option Addr}{cd:ClassData}{sl:Array (Option Value)}
end
end L2
namespace Dl
open PySem L2 PyProof.Rows
abbrev D:=UQ
def kD:Key->D
 |.inl i=>.int i
 |.inr x=>.str x
mutual
inductive Rp(ok:Addr->Prop)(H:Hp):V->D->Prop
 |non:Rp ok H .non .none
 |bl (b:Bool):Rp ok H (.bl b) (.bool b)
 |int (i:Int):Rp ok H (.int i) (.int i)
 |str (x:Str):Rp ok H (.str x) (.str x)
 |lst {a:Addr}{vs:List V}{ds:List D} (o:ok a) (h:H a=some (.lst vs)) (r:Rps ok H vs ds):Rp ok H (.ref a) (.list ds)
 |tup {a:Addr}{vs:List V}{ds:List D} (h:H a=some (.tup vs)) (r:Rps ok H vs ds):Rp ok H (.ref a) (.tuple ds)
 |dct {a:Addr}{kvs:List (Key×V)}{ds:List (D×D)} (o:ok a) (h:H a=some (.dK kvs)) (r:Rkv ok H kvs ds):Rp ok H (.ref a) (.dict ds)
inductive Rps(ok:Addr->Prop)(H:Hp):List V->List D->Prop
 |nil:Rps ok H [] []
 |cons {v:V}{d:D}{vs:List V}{ds:List D} (h:Rp ok H v d) (t:Rps ok H vs ds):Rps ok H (v::vs) (d::ds)
inductive Rkv(ok:Addr->Prop)(H:Hp):List (Key×V)->List (D×D)->Prop
 |nil:Rkv ok H [] []
 |cons {k:Key}{v:V}{d:D}{vs:List (Key×V)}{ds:List (D×D)} (h:Rp ok H v d) (t:Rkv ok H vs ds):Rkv ok H ((k,v)::vs) ((kD k,d)::ds)
end
section
variable{ok ok':Addr->Prop}{H H':Hp}
mutual
theorem Rp.mono(f:∀a,ok a->ok' a)(g:∀a o,ok a->H a=some o->H' a=some o)(t:∀a xs,H a=some (.tup xs)->H' a=some (.tup xs)):∀{v:V}{d:D},Rp ok H v d->Rp ok' H' v d
 |_,_,.non=>.non
 |_,_,.bl b=>.bl b
 |_,_,.int i=>.int i
 |_,_,.str x=>.str x
 |_,_,.lst o h r=>.lst (f _ o) (g _ _ o h) (Rps.mono f g t r)
 |_,_,.tup h r=>.tup (t _ _ h) (Rps.mono f g t r)
 |_,_,.dct o h r=>.dct (f _ o) (g _ _ o h) (Rkv.mono f g t r)
theorem Rps.mono(f:∀a,ok a->ok' a)(g:∀a o,ok a->H a=some o->H' a=some o)(t:∀a xs,H a=some (.tup xs)->H' a=some (.tup xs)):∀{v:List V}{d:List D},Rps ok H v d->Rps ok' H' v d
 |_,_,.nil=>.nil
 |_,_,.cons h r=>.cons (Rp.mono f g t h) (Rps.mono f g t r)
theorem Rkv.mono(f:∀a,ok a->ok' a)(g:∀a o,ok a->H a=some o->H' a=some o)(t:∀a xs,H a=some (.tup xs)->H' a=some (.tup xs)):∀{v:List (Key×V)}{d:List (D×D)},Rkv ok H v d->Rkv ok' H' v d
 |_,_,.nil=>.nil
 |_,_,.cons h r=>.cons (Rp.mono f g t h) (Rkv.mono f g t r)
end
theorem Rps.length:∀{vs:List V}{ds:List D},Rps ok H vs ds->⇑vs=⇑ds
 |_,_,.nil=>rfl
 |_,_,.cons _ t=>by rw[ñ,ñ,Rps.length t]
theorem Rps.getD:∀{vs:List V}{ds:List D}{i:Nat}{d:D},Rps ok H vs ds->ds[i]?=some d->∃v,vs[i]?=some v/\Rp ok H v d
 |_,_,i,v,.nil,e=>by simp at e
 |_,_,0,v,.cons h t,e=>by simp at e;subst e;exact⟨_,rfl,h⟩
 |_,_,i+1,v,.cons h t,e=>by
  let⟨d,a,b⟩:=Rps.getD (i:=i) (d:=v) t (by simpa using e);exact⟨d,by simpa using a,b⟩
theorem Rps.app:∀{vs a:List V}{ds es:List D},Rps ok H vs ds->Rps ok H a es->Rps ok H (vs++a) (ds++es)
 |_,_,_,_,.nil,s=>s
 |_,_,_,_,.cons h t,s=>.cons h (Rps.app t s)
def Rps.snoc{vs:List V}{ds:List D}{v:V}{d:D}(h:Rps ok H vs ds)(r:Rp ok H v d):Rps ok H (vs++[v]) (ds++[d]):=h.app (.cons r .nil)
theorem Rps.set{v:V}{d:D}(r:Rp ok H v d):∀{vs:List V}{ds:List D} (i:Nat),Rps ok H vs ds->Rps ok H (vs.set i v) (ds.set i d)
 |_,_,_,.nil=>.nil
 |_,_,0,.cons _ t=>.cons r t
 |_,_,i+1,.cons q t=>.cons q (Rps.set r i t)
theorem Rps.take:∀{vs:List V}{ds:List D} (n:Nat),Rps ok H vs ds->Rps ok H (vs.take n) (ds.take n)
 |_,_,0,_=>by simp;exact .nil
 |_,_,_+1,.nil=>by simp;exact .nil
 |_,_,n+1,.cons r t=>.cons r (Rps.take n t)
theorem Rps.drop:∀{vs:List V}{ds:List D} (n:Nat),Rps ok H vs ds->Rps ok H (vs.drop n) (ds.drop n)
 |_,_,0,r=>r
 |_,_,_+1,.nil=>by simp;exact .nil
 |_,_,n+1,.cons _ t=>Rps.drop n t
theorem Rps.ofMap{α:Type}{f:α->V}{g:α->D}(h:∀x,Rp ok H (f x) (g x)):∀l:List α,Rps ok H (l.map f) (l.map g)
 |[]=>.nil
 |x::l=>.cons (h x) (Rps.ofMap h l)
def Rp.int'{v:V}{i:Int}(r:Rp ok H v (.int i)):v=.int i:=by cases r;rfl
def Rp.bl'{v:V}{i:Bool}(r:Rp ok H v (.bool i)):v=.bl i:=by cases r;rfl
def Rp.str'{v:V}{i:Str}(r:Rp ok H v (.str i)):v=.str i:=by cases r;rfl
def Rp.aR{v:V}{ds:List D}(r:Rp ok H v (.list ds)):∃a vs,v=.ref a/\ok a/\H a=some (.lst vs)/\Rps ok H vs ds:=by
 cases r with
 |lst o h r=>exact⟨_,_,rfl,o,h,r⟩
def Rp.dX{v:V}{ds:List D}(r:Rp ok H v (.tuple ds)):∃a vs,v=.ref a/\H a=some (.tup vs)/\Rps ok H vs ds:=by
 cases r with
 |tup h r=>exact⟨_,_,rfl,h,r⟩
theorem Rps.ints:∀{vs:List V}{ns:List Int},Rps ok H vs (ns.map Â)->vs=ns.map V.int
 |[],[],_=>rfl
 |_,n::ns,.cons h t=>by
  have e:=h.int';subst e;rw[Rps.ints t];rfl
def Rps.two{vs:List V}{d e:D}(r:Rps ok H vs [d,e]):∃v w,vs=[v,w]/\Rp ok H v d/\Rp ok H w e:=by
 cases r with
 |cons h t =>
  cases t with
  |cons h2 t2 =>
   cases t2;exact⟨_,_,rfl,h,h2⟩
end
mutual
def cM:D->Bool
 |.none=>true
 |.bool _=>true
 |.int _=>true
 |.str _=>true
 |.list _=>false
 |.tuple ds=>bQ ds
 |.dict _=>false
def bQ:List D->Bool
 |[]=>true
 |d::ds=>cM d&&bQ ds
end
section
variable{ok:Addr->Prop}{H:Hp}
mutual
theorem Rp.imm:∀{v:V}{d:D},Rp ok H v d->cM d=true->Rp (λ_=>False) H v d
 |_,_,.non,_=>.non
 |_,_,.bl b,_=>.bl b
 |_,_,.int i,_=>.int i
 |_,_,.str x,_=>.str x
 |_,_,.tup h r,e=>.tup h (Rps.imm r e)
theorem Rps.imm:∀{v:List V}{d:List D},Rps ok H v d->bQ d=true->Rps (λ_=>False) H v d
 |_,_,.nil,_=>.nil
 |_,_,.cons h r,e=>.cons (Rp.imm h (by simp only[bQ,Ï]at e;exact e.1)) (Rps.imm r (by simp only[bQ,Ï]at e;exact e.2))
end
end
def Fxd(o:HO):Prop:=∃x φ,o=.frz x (.ext φ)
structure Pn where
 fp:Addr->Prop
 PI:Hp->Prop
 pv:V
 mono:∀H H',PI H->(∀b o,(fp b\/Fxd o)->H b=some o->H' b=some o)->PI H'
 is:∀H b,PI H->fp b->∃o,H b=some o/\(∀xs,o≠.tup xs)/\¬Fxd o
class Gr where
 G:Pn->Hp->Prop
instance (priority:=low) grT:Gr:=⟨λ_ _=>True⟩
def pO:Pn:=⟨λ_=>False,λ_=>True,.non,λ_ _ _ _=>trivial,λ_ _ _ h=>h.elim⟩
def Kp(p:Pn)(H a:Hp):Prop:=∀b o,H b=some o->¬p.fp b->a b=some o
def Kp.refl{p:Pn}{H:Hp}:Kp p H H:=λ_ _ h _=>h
def Kp.trans{p:Pn}{H d e:Hp}(a:Kp p H d)(b:Kp p d e):Kp p H e:=λc o h n=>b c o (a c o h n) n
def Kp.of{p:Pn}{H a:Hp}(s:Same H a):Kp p H a:=λb o h _=>s b o h
inductive Sl where
 |any
 |im (d:D)
 |sh (d:D)
 |sn (d:D)
 |dw (r:Nat) (d:D)
 |pen (C:Pn->Prop)
 |rw (r:Nat) (L:List (List D))
 |tw (r:Nat) (L:List (List D))
 |scr (v:V) (b:Bool)
 |sp (r:Nat) (b:Bool) (ds:List D)
inductive Kd where
 |imm|new|reg (r:Nat)|n0|snw|shr|wk
 deriving DecidableEq
def Kd.le:Kd->Kd->Bool
 |.imm,_=>true
 |.new,.new=>true
 |.new,.n0=>true
 |.new,.snw=>true
 |.new,.shr=>true
 |.new,.wk=>true
 |.reg r,.reg q=>r==q
 |.reg _,.n0=>true
 |.reg _,.wk=>true
 |.snw,.snw=>true
 |.snw,.n0=>true
 |.snw,.shr=>true
 |.snw,.wk=>true
 |.n0,.n0=>true
 |.n0,.wk=>true
 |.shr,.shr=>true
 |.shr,.wk=>true
 |.wk,.wk=>true
 |_,_=>false
def Kd.join(a b:Kd):Kd:=if a.le b then b else if b.le a then a else if a.le .n0&&b.le .n0 then .n0 else if a.le .shr&&b.le .shr then .shr else .wk
def norm(k:Kd)(d:D):Kd:=match k with
 |.imm=>.imm
 |k=>if cM d then .imm else k
def aN{k:Kd}{d:D}(h:cM d=true):norm k d=.imm:=by
 cases k <;> first
  |rfl
  |exact eD h
def bV{k:Kd}{d:D}(h:¬cM d=true):norm k d=k:=by
 cases k <;> first
  |rfl
  |exact eH h
def okK(p:Pn)(b:Hp)(own:Addr->Option Nat)(c:Hp):Kd->Addr->Prop
 |.imm=>λ_=>False
 |.new=>λa=>c a=none
 |.reg r=>λa=>own a=some r
 |.n0=>λa=>b a=none/\¬p.fp a
 |.snw=>λa=>b a=none/\¬p.fp a/\own a=none
 |.shr=>λa=>¬p.fp a/\own a=none
 |.wk=>λa=>¬p.fp a
structure At(p:Pn)(H0:Hp)(own:Addr->Option Nat)(Hb H:Hp):Prop where
 k0:∀b o,H0 b=some o->¬p.fp b->Hb b=some o
 kp:Kp p Hb H
 penb:p.PI Hb
 pen:p.PI H
 ow:∀a r,own a=some r->H0 a=none/\¬p.fp a/\Hb a≠none
section
variable{p:Pn}{H0 Hb H H':Hp}{own:Addr->Option Nat}
def At.nfp(A:At p H0 own Hb H){a:Addr}(h:H a=none):¬p.fp a:=λz=>by
 let⟨o,e,_⟩:=p.is H a A.pen z;rw[h]at e;cases e
def At.free(A:At p H0 own Hb H){a:Addr}(h:H a=none):Hb a=none:=by
 have hn:=A.nfp h;cases e:Hb a with
 |none=>rfl
 |some o=>rw[A.kp a o e hn]at h;cases h
def At.nfb(A:At p H0 own Hb H){a:Addr}(h:Hb a=none):¬p.fp a:=λz=>by
 let⟨o,e,_⟩:=p.is Hb a A.penb z;rw[h]at e;cases e
def At.PL(A:At p H0 own Hb H){a:Addr}(h:Hb a=none):own a=none:=by
 cases e:own a with
 |none=>rfl
 |some r=>exact eI h (A.ow a r e).2.2
def At.h0(A:At p H0 own Hb H){a:Addr}(h:Hb a=none):H0 a=none:=by
 cases e:H0 a with
 |none=>rfl
 |some o=>rw[A.k0 a o e (A.nfb h)]at h;cases h
def cW(A:At p H0 own Hb H){j k:Kd}(h:j.le k=true){a:Addr}(o:okK p H0 own Hb j a):okK p H0 own Hb k a:=by
 cases j with
 |imm=>exact Ÿ o
 |new =>
  cases k with
  |imm=>cases h
  |new=>exact o
  |reg r=>cases h
  |n0=>exact⟨A.h0 o,A.nfb o⟩
  |snw=>exact⟨A.h0 o,A.nfb o,A.PL o⟩
  |shr=>exact⟨A.nfb o,A.PL o⟩
  |wk=>exact A.nfb o
 |reg r =>
  cases k with
  |reg q =>
   have e:r=q:=by simpa[Kd.le]using h
   subst e;exact o
  |n0=>exact⟨(A.ow a r o).1,(A.ow a r o).2.1⟩
  |wk=>exact(A.ow a r o).2.1
  |_=>cases h
 |n0 =>
  cases k with
  |n0=>exact o
  |wk=>exact o.2
  |_=>cases h
 |snw =>
  cases k with
  |snw=>exact o
  |n0=>exact⟨o.1,o.2.1⟩
  |shr=>exact o.2
  |wk=>exact o.2.1
  |_=>cases h
 |shr =>
  cases k with
  |shr=>exact o
  |wk=>exact o.1
  |_=>cases h
 |wk =>
  cases k with
  |wk=>exact o
  |_=>cases h
def iw(A:At p H0 own Hb H){k:Kd}{a:Addr}(o:okK p H0 own Hb k a):¬p.fp a:=by
 have:k.le .wk=true:=by cases k <;> rfl
 exact cW A this o
def fZ(A:At p H0 own Hb H){j k:Kd}(h:j.le k=true){v:V}{d:D}{b:Hp}(r:Rp (okK p H0 own Hb j) b v d):Rp (okK p H0 own Hb k) b v d :=
 r.mono (λa o=>cW A h o) (λ_ _ _ e=>e) λ_ _ e=>e
def dM(a b:Kd):a.le (a.join b)=true/\b.le (a.join b)=true:=by
 unfold Kd.join;by_cases h:a.le b=true
 ·rw[eD h];exact⟨h,by cases b <;> simp[Kd.le]⟩
 ·rw[eH h];by_cases h2:b.le a=true
  ·rw[eD h2];exact⟨by cases a <;> simp[Kd.le],h2⟩
  ·rw[eH h2];by_cases c:(a.le .n0&&b.le .n0)=true
   ·rw[eD c];exact Ï _ _ ▸ c
   ·rw[eH c];by_cases d:(a.le .shr&&b.le .shr)=true
    ·rw[eD d];exact Ï _ _ ▸ d
    ·rw[eH d];exact⟨by cases a <;> rfl,by cases b <;> rfl⟩
def aX{k:Kd}{v:V}{d:D}{a:Hp}(r:Rp (okK p H0 own Hb k) a v d):Rp (okK p H0 own Hb (norm k d)) a v d:=by
 by_cases h:cM d=true
 ·rw[aN h];exact r.imm h
 ·rw[bV h];exact r
def iG(A:At p H0 own Hb H)(k:Kp p H H'):∀a xs,H a=some (.tup xs)->H' a=some (.tup xs):=λa xs h=>k a _ h λz=>by
 let⟨o,e,n⟩:=p.is H a A.pen z;rw[h]at e;exact n.1 xs (Ö e).symm
def gb(A:At p H0 own Hb H)(k:Kp p H H'){j:Kd}{v:V}{d:D}(r:Rp (okK p H0 own Hb j) H v d):Rp (okK p H0 own Hb j) H' v d :=
 r.mono (λ_ o=>o) (λa o h e=>k a o e (iw A h)) (iG A k)
def cg(A:At p H0 own Hb H)(k:Kp p H H'){j:Kd}{v:List V}{d:List D}(r:Rps (okK p H0 own Hb j) H v d):Rps (okK p H0 own Hb j) H' v d :=
 r.mono (λ_ o=>o) (λa o h e=>k a o e (iw A h)) (iG A k)
def At.go(A:At p H0 own Hb H)(k:Kp p H H')(i:p.PI H'):At p H0 own Hb H':=⟨A.k0,A.kp.trans k,A.penb,i,A.ow⟩
def At.base{a:Hp}(A:At p H0 own Hb H)(B:At p H0 own H a):At p H0 own Hb a:=⟨A.k0,A.kp.trans B.kp,A.penb,B.pen,A.ow⟩
def Lk(A:At p H0 own Hb H){k:Kd}{a:Addr}(o:okK p H0 own H k a):okK p H0 own Hb k a:=by
 cases k <;> first
  |exact o
  |exact A.free o
def lK(A:At p H0 own Hb H){k:Kd}{v:V}{d:D}{b:Hp}(r:Rp (okK p H0 own H k) b v d):Rp (okK p H0 own Hb k) b v d :=
 r.mono (λa o=>Lk A o) (λ_ _ _ e=>e) λ_ _ e=>e
def At.new(A:At p H0 own Hb H){a:Addr}(h:H a=none)(o:HO):Kp p H (upd H a o)/\p.PI (upd H a o)/\okK p H0 own Hb .new a :=
 have s:Same H (upd H a o):=λb u q=>by rw[aj (ak q h)];exact q
 ⟨Kp.of s,p.mono H _ A.pen λb u _ q=>s b u q,A.free h⟩
end
structure RowsH(own:Addr->Option Nat)(r:Nat)(H:Hp)(st:Addr)(as:List Addr)(L:List (List D)):Prop where
 top:H st=some (.lst (as.map V.ref))
 nd:(st::as).Nodup
 ow:∀a∈st::as,own a=some r
 len:⇑as=⇑L
 row:∀(j:Nat)(a:Addr)(ds:List D),as[j]?=some a->L[j]?=some ds->∃vs,H a=some (.lst vs)/\Rps (λ_=>False) H vs ds
def RowsH.mono{own b:Addr->Option Nat}{r:Nat}{H d:Hp}{st:Addr}{as:List Addr}{L:List (List D)}(h:RowsH own r H st as L)(g:∀a o,own a=some r->H a=some o->b a=some r/\d a=some o)(t:∀a xs,H a=some (.tup xs)->d a=some (.tup xs)):RowsH b r d st as L:=by
 have c:∀a∈st::as,∃o,H a=some o:=λa ha=>by
  rcases Þ.mp ha with rfl|ha
  ·exact⟨_,h.top⟩
  ·let⟨j,f⟩:=ģ ha;have hl:=(Ç.mp f).1;let⟨vs,e,_⟩:=h.row j a _ f (Ë (by rw[←h.len];exact hl));exact⟨_,e⟩
 refine⟨(g st _ (h.ow st Í) h.top).2,h.nd,λa ha=>?_,h.len,λj a ds e1 e2=>?_⟩
 ·let⟨o,e⟩:=c a ha;exact(g a o (h.ow a ha) e).1
 ·let⟨vs,e,i⟩:=h.row j a ds e1 e2;exact⟨vs,(g a _ (h.ow a (É _ (Ì e1))) e).2,i.mono (λ_ o=>o) (λ_ _ o=>o.elim) t⟩
theorem n6{ok:Addr->Prop}{H:Hp}:∀(as:List Addr)(L:List (List D)),⇑as=⇑L->(∀a∈as,ok a)->(∀(j:Nat)(a:Addr)(ds:List D),as[j]?=some a->L[j]?=some ds->∃vs,H a=some (.lst vs)/\Rps (λ_=>False) H vs ds)->Rps ok H (as.map V.ref) (L.map ĉ)
 |[],[],_,_,_=>.nil
 |a::as,d::L,hl,h,r=>by
  let⟨vs,e,c⟩:=r 0 a d rfl rfl;exact .cons (.lst (h a Í) e (c.mono (λ_ o=>o.elim) (λ_ _ o=>o.elim) λ_ _ e=>e)) (n6 as L (by simpa using hl) (λb hb=>h b (É _ hb)) λj b ds e1 e2=>r (j+1) b ds e1 e2)
 |[],_::_,hl,_,_=>by cases hl
 |_::_,[],hl,_,_=>by cases hl
def RowsH.rp{own:Addr->Option Nat}{r:Nat}{H:Hp}{st:Addr}{as:List Addr}{L:List (List D)}(h:RowsH own r H st as L):Rp (λa=>own a=some r) H (.ref st) (.list (L.map ĉ)) :=
 .lst (h.ow st Í) h.top (n6 as L h.len (λa ha=>h.ow a (É _ ha)) h.row)
structure RowsT(own:Addr->Option Nat)(r:Nat)(H:Hp)(st:Addr)(as:List Addr)(L:List (List D)):Prop where
 top:H st=some (.tup (as.map V.ref))
 nd:as.Nodup
 ow:∀a∈as,own a=some r
 len:⇑as=⇑L
 row:∀(j:Nat)(a:Addr)(ds:List D),as[j]?=some a->L[j]?=some ds->∃vs,H a=some (.lst vs)/\Rps (λ_=>False) H vs ds
def RowsT.mono{own b:Addr->Option Nat}{r:Nat}{H c:Hp}{st:Addr}{as:List Addr}{L:List (List D)}(h:RowsT own r H st as L)(g:∀a o,own a=some r->H a=some o->b a=some r/\c a=some o)(t:∀a xs,H a=some (.tup xs)->c a=some (.tup xs)):RowsT b r c st as L:=by
 refine⟨t st _ h.top,h.nd,λa ha=>?_,h.len,λj a ds e1 e2=>?_⟩
 ·let⟨j,d⟩:=ģ ha;have hl:=(Ç.mp d).1;let⟨vs,e,_⟩:=h.row j a _ d (Ë (by rw[←h.len];exact hl));exact(g a _ (h.ow a ha) e).1
 ·let⟨vs,e,f⟩:=h.row j a ds e1 e2;exact⟨vs,(g a _ (h.ow a (Ì e1)) e).2,f.mono (λ_ o=>o) (λ_ _ o=>o.elim) t⟩
def RowsT.rp{own:Addr->Option Nat}{r:Nat}{H:Hp}{st:Addr}{as:List Addr}{L:List (List D)}(h:RowsT own r H st as L):Rp (λa=>own a=some r) H (.ref st) (.tuple (L.map ĉ)) :=
 .tup h.top (n6 as L h.len h.ow h.row)
def okS(p:Pn)(c:Hp)(own:Addr->Option Nat)(b:Bool)(a:Addr):Prop:=(b=true->c a=none)/\¬p.fp a/\own a=none
def iJ(p:Pn)(c:Hp)(own:Addr->Option Nat)(σ:L2.St)(H:Hp)(i:Nat):Sl->Prop
 |.any=>True
 |.im d=>∃v,σ[i]?=some (some v)/\Rp (λ_=>False) H v d
 |.sh d=>∃v,σ[i]?=some (some v)/\Rp (λa=>¬p.fp a/\own a=none) H v d
 |.sn d=>∃v,σ[i]?=some (some v)/\Rp (λa=>c a=none/\¬p.fp a/\own a=none) H v d
 |.dw r d=>∃v,σ[i]?=some (some v)/\Rp (λa=>own a=some r) H v d
 |.pen C=>σ[i]?=some (some p.pv)/\C p
 |.rw r L=>∃st as,σ[i]?=some (some (.ref st))/\RowsH own r H st as L
 |.tw r L=>∃st as,σ[i]?=some (some (.ref st))/\RowsT own r H st as L
 |.scr v b=>σ[i]?=some (some v)/\(b=true->p=pO)
 |.sp r b ds=>∃l vs,σ[i]?=some (some (.ref l))/\own l=some r/\H l=some (.lst vs)/\Rps (okS p c own b) H vs ds
structure EnvD[Gr](p:Pn)(H0:Hp)(own:Addr->Option Nat)(σ:L2.St)(H:Hp)(ρ:List Sl):Prop where
 k0:∀b o,H0 b=some o->¬p.fp b->H b=some o
 pen:p.PI H
 ow:∀a r,own a=some r->H0 a=none/\¬p.fp a/\H a≠none
 slot:∀i s,ρ[i]?=some s->iJ p H0 own σ H i s
 len:⇑ρ=⇑σ
 gr:Gr.G p H0
variable [Gr]
section
variable{p:Pn}{H0 H H':Hp}{own:Addr->Option Nat}{σ:L2.St}{ρ:List Sl}
def EnvD.at(E:EnvD p H0 own σ H ρ):At p H0 own H H:=⟨E.k0,Kp.refl,E.pen,E.pen,E.ow⟩
def EnvD.go(E:EnvD p H0 own σ H ρ)(k:Kp p H H')(i:p.PI H'):EnvD p H0 own σ H' ρ:=by
 have A:=E.at;have f:=iG A k;refine⟨λb o e n=>k b o (E.k0 b o e n) n,i,λa r e=>?_,λj s e=>?_,E.len,E.gr⟩
 ·let⟨h1,h2,g⟩:=E.ow a r e;refine⟨h1,h2,λz=>?_⟩;cases q:H a with
  |none=>exact g q
  |some o=>rw[k a o q h2]at z;cases z
 ·have q:=E.slot j s e;cases s with
  |any=>trivial
  |im d=>exact let⟨v,a,b⟩:=q;⟨v,a,b.mono (λ_ o=>o) (λ_ _ o=>o.elim) f⟩
  |sh d=>exact let⟨v,a,b⟩:=q;⟨v,a,b.mono (λ_ o=>o) (λc u o e=>k c u e o.1) f⟩
  |sn d=>exact let⟨v,a,b⟩:=q;⟨v,a,b.mono (λ_ o=>o) (λc u o e=>k c u e o.2.1) f⟩
  |dw r d=>exact let⟨v,a,b⟩:=q;⟨v,a,b.mono (λ_ o=>o) (λc u o e=>k c u e (E.ow c r o).2.1) f⟩
  |pen C=>exact q
  |rw r L=>exact let⟨st,as,a,b⟩:=q;⟨st,as,a,b.mono (λc u o e=>⟨o,k c u e (E.ow c r o).2.1⟩) f⟩
  |tw r L=>exact let⟨st,as,a,b⟩:=q;⟨st,as,a,b.mono (λc u o e=>⟨o,k c u e (E.ow c r o).2.1⟩) f⟩
  |scr v b=>exact q
  |sp r b ds=>exact let⟨l,vs,a,o,h,z⟩:=q;⟨l,vs,a,o,k l _ h (E.ow l r o).2.1,z.mono (λ_ o=>o) (λc u o e=>k c u e o.2.1) f⟩
end
abbrev DK:=Kd->D->Prop
abbrev DE:=List Sl->DK->Prop
def aK(t:DE):TE:=λσ H Q=>∃p H0 own ρ P,EnvD p H0 own σ H ρ/\t ρ P/\∀k d v H',P k d->At p H0 own H H'->Rp (okK p H0 own H k) H' v d->Q v H'
abbrev PD(X:Cx)(e:Zv)(t:DE):Prop:=PE X e (aK t)
abbrev DA:=List Sl->(List (Kd×D)->Prop)->Prop
inductive RpK(p:Pn)(H0:Hp)(own:Addr->Option Nat)(Hb H:Hp):List V->List (Kd×D)->Prop
 |nil:RpK p H0 own Hb H [] []
 |cons {v:V}{kd:Kd×D}{vs:List V}{ks:List (Kd×D)} (h:Rp (okK p H0 own Hb kd.1) H v kd.2) (t:RpK p H0 own Hb H vs ks):RpK p H0 own Hb H (v::vs) (kd::ks)
def kE(t:DA):TA:=λσ H Q=>∃p H0 own ρ P,EnvD p H0 own σ H ρ/\t ρ P/\∀ks vs H',P ks->At p H0 own H H'->RpK p H0 own H H' vs ks->Q vs H'
abbrev PDA(X:Cx)(es:List Zv)(t:DA):Prop:=PA X es (kE t)
abbrev DT:=List Sl->(Bool->Prop)->Prop
def liftT(t:DT):TT:=λσ H Q=>∃p H0 own ρ P,EnvD p H0 own σ H ρ/\t ρ P/\∀b H',P b->At p H0 own H H'->Q b H'
abbrev PDT(X:Cx)(e:Zv)(t:DT):Prop:=PT X e (liftT t)
def PE.wk{X:Cx}{e:Zv}{t t':TE}(h:PE X e t)(w:∀σ H Q,t' σ H Q->t σ H Q):PE X e t':=λpins s σ H Q I q=>h pins s σ H Q I (w σ H Q q)
def PT.wk{X:Cx}{e:Zv}{t t':TT}(h:PT X e t)(w:∀σ H Q,t' σ H Q->t σ H Q):PT X e t':=λpins s σ H Q I q=>h pins s σ H Q I (w σ H Q q)
def PA.wk{X:Cx}{e:List Zv}{t t':TA}(h:PA X e t)(w:∀σ H Q,t' σ H Q->t σ H Q):PA X e t':=λpos pins s σ H Q I q=>h pos pins s σ H Q I (w σ H Q q)
section
variable{X:Cx}{pos:Pos}{a b:Zv}{ta tb:DE}
theorem RpK.go{p:Pn}{c d H e:Hp}{own:Addr->Option Nat}(A:At p c own d H)(k:Kp p H e):∀{vs:List V}{ks:List (Kd×D)},RpK p c own d H vs ks->RpK p c own d e vs ks
 |_,_,.nil=>.nil
 |_,_,.cons h t=>.cons (gb A k h) (RpK.go A k t)
theorem RpK.base{p:Pn}{c e H d:Hp}{own:Addr->Option Nat}(A:At p c own e H):∀{vs:List V}{ks:List (Kd×D)},RpK p c own H d vs ks->RpK p c own e d vs ks
 |_,_,.nil=>.nil
 |_,_,.cons h t=>.cons (lK A h) (RpK.base A t)
def tV(i:Nat):DE:=λρ P=>match ρ[i]? with
 |some (.im d)=>P .imm d
 |some (.sh d)=>P .shr d
 |some (.sn d)=>P .snw d
 |some (.dw r d)=>P (.reg r) d
 |some (.rw r L)=>P (.reg r) (.list (L.map ĉ))
 |some (.tw r L)=>P (.reg r) (.tuple (L.map ĉ))
 |some (.sp r b ds)=>P (if b=true then .n0 else .wk) (.list ds)
 |_=>False
def Uo{i:Nat}{x:Str}{ps:Pos}(h:PE X (.Name x ps) (jX i)):PD X (.Name x ps) (tV i):=PE.wk h (by
 rintro σ H Q ⟨p,g,own,ρ,P,E,t,q⟩;unfold tV at t;split at t
 ·rename_i d e;let⟨v,f,r⟩:=E.slot i _ e;exact⟨v,f,q _ _ _ _ t E.at r⟩
 ·rename_i d e;let⟨v,f,r⟩:=E.slot i _ e;exact⟨v,f,q _ _ _ _ t E.at r⟩
 ·rename_i d e;let⟨v,f,r⟩:=E.slot i _ e;exact⟨v,f,q _ _ _ _ t E.at r⟩
 ·rename_i d e;let⟨v,f,r⟩:=E.slot i _ e;exact⟨v,f,q _ _ _ _ t E.at r⟩
 ·rename_i r L e;let⟨st,as,f,h⟩:=E.slot i _ e;exact⟨_,f,q _ _ _ _ t E.at h.rp⟩
 ·rename_i r L e;let⟨st,as,f,h⟩:=E.slot i _ e;exact⟨_,f,q _ _ _ _ t E.at h.rp⟩
 ·rename_i r b ds e;let⟨l,vs,f,o,h,z⟩:=E.slot i _ e;refine⟨_,f,q _ _ _ _ t E.at ?_⟩;cases b with
  |true=>exact .lst ⟨(E.ow l r o).1,(E.ow l r o).2.1⟩ h (z.mono (λc n=>⟨n.1 rfl,n.2.1⟩) (λ_ _ _ e=>e) λ_ _ e=>e)
  |false=>exact .lst (E.ow l r o).2.1 h (z.mono (λc n=>n.2.1) (λ_ _ _ e=>e) λ_ _ e=>e)
 ·exact t.elim)
def tK(d:D):DE:=λ_ P=>P .imm d
def mq{e:Zv}{v:V}{d:D}(h:PE X e (tC v))(r:∀H,Rp (λ_=>False) H v d):PD X e (tK d):=PE.wk h (by
 rintro σ H Q ⟨p,c,own,ρ,P,E,t,q⟩;exact q _ _ _ _ t E.at (r H))
def jf{i:Int}{j:Nat}:PD X (.Constant (.int i) j pos) (tK (.int i)):=mq KZ λ_=>.int i
def Gs{i:Bool}{j:Nat}:PD X (.Constant (.bool i) j pos) (tK (.bool i)):=mq WT λ_=>.bl i
def xq{j:Nat}:PD X (.Constant .none j pos) (tK .none):=mq Ui λ_=>.non
def w6{x:Str}{j:Nat}:PD X (.Constant (.str x) j pos) (tK (.str x)):=mq Ue λ_=>.str x
abbrev G2:=Kd->D->Kd->D->DK->Prop
def t2(g:G2)(ta tb:DE):DE:=λρ P=>ta ρ λk1 d1=>tb ρ λk2 d2=>g k1 d1 k2 d2 P
def Ok2(g:G2)(r:R2):Prop:=∀p H0 own Hb H x y k1 d1 k2 d2 P Q,At p H0 own Hb H->Rp (okK p H0 own Hb k1) H x d1->Rp (okK p H0 own Hb k2) H y d2->g k1 d1 k2 d2 P ->
 (∀k d v H',P k d->Kp p H H'->p.PI H'->Rp (okK p H0 own Hb k) H' v d->Q v H')->r x y H Q
def GF{g:G2}{r:R2}(ok:Ok2 g r):∀σ H Q,aK (t2 g ta tb) σ H Q->tOp r (aK ta) (aK tb) σ H Q:=by
 rintro σ H Q ⟨p,c,own,ρ,P,E,t,q⟩;refine⟨p,c,own,ρ,_,E,t,λk1 d1 v1 H1 t1 A1 r1=>?_⟩;have e:=E.go A1.kp A1.pen;refine⟨p,c,own,ρ,_,e,t1,λk2 d2 v2 H2 t2 A2 r2=>?_⟩;have A:At p c own H H2:=A1.base A2;exact ok p c own H H2 v1 v2 k1 d1 k2 d2 P Q A (gb A1 A2.kp r1) (lK A1 r2) t2 λk d v H' h k3 i3 r3=>q k d v H' h (A.go k3 i3) r3
def Aa{c:Operator}{r:R2}{g:G2}(d:OpR X (YN c) r)(ok:Ok2 g r)(ha:PD X a ta)(hb:PD X b tb):PD X (.BinOp a c b pos) (t2 g ta tb):=PE.wk (bO d ha hb) (GF ok)
def ou{c:ZK}{r:R2}{g:G2}(d:OpR X (ZL c) r)(ok:Ok2 g r)(ha:PD X a ta)(hb:PD X b tb)(hm:ZM c b=false):PD X (.Compare a [c] [b] pos) (t2 g ta tb):=PE.wk (PB d ha hb hm) (GF ok)
def cU(t:DE):DT:=λρ P=>t ρ λ_ d=>match d with
 |.bool b=>P b
 |_=>False
def tX{t:DE}:∀σ H Q,liftT (cU t) σ H Q->(aK t) σ H (λx H'=>∃k,x=.bl k/\Q k H'):=by
 rintro σ H Q ⟨p,c,own,ρ,P,E,t,q⟩;refine⟨p,c,own,ρ,_,E,t,λk d v H' h A r=>?_⟩;cases d with
 |bool b=>exact⟨b,r.bl',q b H' h A⟩
 |_=>exact h.elim
def dJ{c:ZK}{r:R2}{g:G2}(d:OpR X (ZL c) r)(ok:Ok2 g r)(ha:PD X a ta)(hb:PD X b tb)(hm:ZM c b=false):PDT X (.Compare a [c] [b] pos) (cU (t2 g ta tb)) :=
 PT.wk (lQ d ha hb hm) λσ H Q h=>GF ok σ H _ (tX σ H Q h)
def wV{e:Zv}{t:DE}(h:PD X e t)(he:∀whole,ZG e X.env whole=(do let v ←whole;standAt e.pos;holding [v] (ZP v)):=by intro _;rfl):PDT X e (cU t) :=
 PT.wk (TX h he) λσ H Q q=>tX σ H Q q
def Yh(t:DT):DT:=λρ P=>t ρ λb=>P (!b)
def wW{t:DT}(ha:PDT X a t):PDT X (.UnaryOp .Not a pos) (Yh t):=PT.wk (TY ha) (by
 rintro σ H Q ⟨p,c,own,ρ,P,E,t,q⟩;exact⟨p,c,own,ρ,_,E,t,λb H' h A=>q _ H' h A⟩)
abbrev PDW(X:Cx)(e:Zv)(t:DT):Prop:=PW X e (liftT t)
def PW.wk{X:Cx}{e:Zv}{t t':TT}(h:PW X e t)(w:∀σ H Q,t' σ H Q->t σ H Q):PW X e t':=λwh pins s σ H Q I q=>h wh pins s σ H Q I (w σ H Q q)
def Q0(t u:DT):DT:=λρ P=>t ρ λb=>if b=true then u ρ P else P false
def dOr(t u:DT):DT:=λρ P=>t ρ λb=>if b=true then P true else u ρ P
section
variable{rest:List Zv}{t u:DT}
def sH(ha:PDT X a t):PDW X (.BoolOp .And [a] pos) t:=Gk ha
def wR(ha:PDT X a t):PDW X (.BoolOp .Or [a] pos) t:=TJ ha
def LQ:∀σ H Q,liftT (Q0 t u) σ H Q->Wk (liftT t) (liftT u) σ H Q:=by
 rintro σ H Q ⟨p,d,own,ρ,P,E,t,q⟩;refine⟨p,d,own,ρ,_,E,t,λb H' h A=>?_⟩;cases b with
 |true=>exact au ⟨p,d,own,ρ,P,E.go A.kp A.pen,by simpa using h,λc H2 h2 A2=>q c H2 h2 (A.base A2)⟩
 |false=>exact aA (q false H' (by simpa using h) A)
def Qn:∀σ H Q,liftT (dOr t u) σ H Q->tOr (liftT t) (liftT u) σ H Q:=by
 rintro σ H Q ⟨p,d,own,ρ,P,E,t,q⟩;refine⟨p,d,own,ρ,_,E,t,λb H' h A=>?_⟩;cases b with
 |true=>exact au (q true H' (by simpa using h) A)
 |false=>exact aA ⟨p,d,own,ρ,P,E.go A.kp A.pen,by simpa using h,λc H2 h2 A2=>q c H2 h2 (A.base A2)⟩
def wU(ha:PDT X a t)(hb:PDW X (.BoolOp .And (b::rest) pos) u):PDW X (.BoolOp .And (a::b::rest) pos) (Q0 t u):=PW.wk (Ks ha hb) LQ
def Dg(ha:PDT X a t)(hb:PDW X (.BoolOp .Or (b::rest) pos) u):PDW X (.BoolOp .Or (a::b::rest) pos) (dOr t u):=PW.wk (Ww ha hb) Qn
def PDW.pt{e:Zv}{t:DT}(h:PDW X e t):PDT X e t:=PW.pt h
end
end
variable [Gr]
section
variable{X:Cx}{pos:Pos}{a b e:Zv}{es:List Zv}{ta tb te:DE}{t:DA}
def fB:DA:=λ_ P=>P []
def bw(te:DE)(t:DA):DA:=λρ P=>te ρ λk d=>t ρ λks=>P ((k,d)::ks)
def jO:PDA X [] fB:=PA.wk eY (by
 rintro σ H Q ⟨p,c,own,ρ,P,E,t,q⟩;exact q [] [] H t E.at .nil)
def dU(ha:PD X e te)(hr:PDA X es t)(hs:zS X e es:=by rfl):PDA X (e::es) (bw te t):=PA.wk (bU ha hr hs) (by
 rintro σ H Q ⟨p,c,own,ρ,P,E,t,q⟩;refine⟨p,c,own,ρ,_,E,t,λk d v H1 h A r=>?_⟩;refine⟨p,c,own,ρ,_,E.go A.kp A.pen,h,λks vs H2 h2 A2 r2=>?_⟩;exact q _ _ H2 h2 (A.base A2) (.cons (gb A A2.kp r) (RpK.base A r2)))
def joins:List (Kd×D)->Kd
 |[]=>.imm
 |kd::ks=>kd.1.join (joins ks)
theorem RpK.all{p:Pn}{c d H f:Hp}{own:Addr->Option Nat}(A:At p c own d H):∀{vs:List V}{ks:List (Kd×D)}{k:Kd},(joins ks).le k=true->RpK p c own d f vs ks->Rps (okK p c own d (joins ks)) f vs (ks.map (·.2))
 |_,_,_,_,.nil=>.nil
 |_,kd::ks,k,e,.cons h t=>by
  have j:=dM kd.1 (joins ks);exact .cons (fZ A j.1 h) ((RpK.all A (k:=joins ks) (by cases joins ks <;> simp[Kd.le]) t).mono (λa o=>cW A j.2 o) (λ_ _ _ e=>e) λ_ _ e=>e)
def Kd.le_refl(k:Kd):k.le k=true:=by cases k <;> simp[Kd.le]
theorem RpK.length{p:Pn}{c f d:Hp}{own:Addr->Option Nat}:∀{vs:List V}{ks:List (Kd×D)},RpK p c own f d vs ks->⇑vs=⇑ks
 |_,_,.nil=>rfl
 |_,_,.cons _ t=>by rw[ñ,ñ,RpK.length t]
def Ri(t:DA):DE:=λρ P=>t ρ λks=>⇑ks<=1000/\P ((joins ks).join .new) (.list (ks.map (·.2)))
def kO(t:DA):DE:=λρ P=>t ρ λks=>⇑ks<=1000/\P (norm (joins ks) (.tuple (ks.map (·.2)))) (.tuple (ks.map (·.2)))
def qQ(h:PDA X es t):PD X (.List es pos) (Ri t):=PE.wk (Dc h) (by
 rintro σ H Q ⟨p,d,own,ρ,P,E,t,q⟩;refine⟨p,d,own,ρ,_,E,t,λks vs H1 h A r=>?_⟩;have f:=ą;have hl:=⇑r;refine⟨by have:=h.1;lia,λl hl=>?_⟩;let⟨c,g,i⟩:=A.new hl (.lst vs);have j:=dM (joins ks) .new;refine q _ _ _ _ h.2 (A.go c g) (.lst (cW A j.2 i) ao ?_);exact(cg A c (RpK.all A (Kd.le_refl _) r)).mono (λa o=>cW A j.1 o) (λ_ _ _ e=>e) λ_ _ e=>e)
def lW{x1}(h:PDA X es t):PD X (.Tuple es x1 pos) (kO t):=PE.wk (Ud h) (by
 rintro σ H Q ⟨p,d,own,ρ,P,E,t,q⟩;refine⟨p,d,own,ρ,_,E,t,λks vs H1 h A r=>?_⟩;have f:=ą;have hl:=⇑r;refine⟨by have:=h.1;lia,λl hl=>?_⟩;let⟨c,g,i⟩:=A.new hl (.tup vs);exact q _ _ _ _ h.2 (A.go c g) (aX (.tup ao (cg A c (RpK.all A (Kd.le_refl _) r)))))
abbrev GC:=List (Kd×D)->DK->Prop
def tCl(g:GC)(t:DA):DE:=λρ P=>t ρ λks=>g ks P
def OkC(g:GC)(r:List V->Hp->VK->Prop):Prop:=∀p H0 own Hb H vs ks P Q,At p H0 own Hb H->RpK p H0 own Hb H vs ks->g ks P ->
 (∀k d v H',P k d->Kp p H H'->p.PI H'->Rp (okK p H0 own Hb k) H' v d->Q v H')->r vs H Q
def RM{g:GC}{r:List V->Hp->VK->Prop}(ok:OkC g r):∀σ H Q,aK (tCl g t) σ H Q->tCB r (kE t) σ H Q:=by
 rintro σ H Q ⟨p,c,own,ρ,P,E,t,q⟩;refine⟨p,c,own,ρ,_,E,t,λks vs H1 h A r=>?_⟩;exact ok p c own H H1 vs ks P Q A r h λk d v H' h2 k2 i2 r2=>q k d v H' h2 (A.go k2 i2) r2
def cj{r:List V->Hp->VK->Prop}{id:String}{x:Str}{ps:Pos}{g:GC}(hc:aQ X (.builtin id) r)(ok:OkC g r)(hg:Gl X x)(hm:X.mg x=none)(hv:Zs x=some (.builtin id))(ha:PDA X (e::es) t)(hn:x≠"__name__":=by decide)(hdb:zB x:=by decide)(he:zS X e es:=by rfl)(hpl:zP X pos es:=by rfl):PD X (.Call (.Name x ps) (e::es) [] pos) (tCl g t):=PE.wk (dg hc hg hm hv ha hn hdb he hpl) (RM ok)
def jg{r:List V->Hp->VK->Prop}{id:String}{x:Str}{ps:Pos}{g:GC}(hc:aQ X (.type id) r)(ok:OkC g r)(hg:Gl X x)(hm:X.mg x=none)(hv:Zs x=some (.type id))(ha:PDA X (e::es) t)(hn:x≠"__name__":=by decide)(hdb:zB x:=by decide)(he:zS X e es:=by rfl)(hpl:zP X pos es:=by rfl):PD X (.Call (.Name x ps) (e::es) [] pos) (tCl g t):=PE.wk (vC hc hg hm hv ha hn hdb he hpl) (RM ok)
def spD(t:List D->(D->Prop)->Prop):Sp:=λvs H Q _=>∃ds P,Rps (λ_=>True) H vs ds/\t ds P/\∀d v H',P d->Same H H'->Rp (λa=>H a=none) H' v d->Q v H'
def spP(C:Pn->Prop)(t:List D->(D->Prop)->Prop):Sp:=λvs H Q _=>∃p vs' ds P,C p/\vs=p.pv::vs'/\p.PI H/\Rps (λa=>¬p.fp a) H vs' ds/\t ds P/\∀d v H',P d->Kp p H H'->p.PI H'->Rp (λa=>H a=none) H' v d->Q v H'
def tFn(f:List D->(D->Prop)->Prop)(t:DA):DE:=λρ P=>t ρ λks=>f (ks.map (·.2)) λd=>P (norm .new d) d
theorem RpK.rps{p:Pn}{c f H d:Hp}{own:Addr->Option Nat}(A:At p c own f H):∀{vs:List V}{ks:List (Kd×D)},RpK p c own f d vs ks->Rps (λa=>¬p.fp a) d vs (ks.map (·.2))
 |_,_,.nil=>.nil
 |_,_,.cons h t=>.cons (h.mono (λa o=>iw A o) (λ_ _ _ e=>e) λ_ _ e=>e) (RpK.rps A t)
def Qo{f:List D->(D->Prop)->Prop}:∀σ H Q,aK (tFn f t) σ H Q->Fz (spD f) [] E0 (kE t) σ H Q:=by
 rintro σ H Q ⟨p,c,own,ρ,P,E,t,q⟩;refine⟨p,c,own,ρ,_,E,t,λks vs H1 h A r=>?_⟩;show spD f (vs++[]) H1 Q E0;rw[ě];refine⟨ks.map (·.2),_,(RpK.rps A r).mono (λ_ _=>trivial) (λ_ _ _ e=>e) λ_ _ e=>e,h,λd v H' h2 s r2=>?_⟩;have g:Kp p H1 H':=Kp.of s;refine q _ d v H' h2 (A.go g (p.mono H1 H' A.pen λb o _ e=>s b o e)) (aX ?_);exact r2.mono (λa o=>A.free o) (λ_ _ _ e=>e) λ_ _ e=>e
def Hz(C:Pn->Prop)(f:List D->(D->Prop)->Prop)(i:Nat)(t:DA):DE:=λρ P=>ρ[i]?=some (.pen C)/\tFn f t ρ P
def LC{C:Pn->Prop}{f:List D->(D->Prop)->Prop}{i:Nat}:∀σ H Q,aK (Hz C f i t) σ H Q->Fz (spP C f) [] E0 (zG (jX i) (kE t)) σ H Q:=by
 rintro σ H Q ⟨p,g,own,ρ,P,E,⟨hp,t⟩,q⟩;let⟨hs,c⟩:=E.slot i _ hp;refine⟨p.pv,hs,p,g,own,ρ,_,E,t,λks vs H1 h A r=>?_⟩;show spP C f ((p.pv::vs)++[]) H1 Q E0;rw[ě];refine⟨p,vs,ks.map (·.2),_,c,rfl,A.pen,RpK.rps A r,h,λd v H' h2 k2 i2 r2=>?_⟩;exact q _ d v H' h2 (A.go k2 i2) (aX (r2.mono (λa o=>A.free o) (λ_ _ _ e=>e) λ_ _ e=>e))
def gI(C:Int->Int->Prop)(f:Int->Int->D):G2:=λ_ d1 _ d2 P=>match d1,d2 with
 |.int i,.int j=>C i j/\P .imm (f i j)
 |_,_=>False
def gI0(f:Int->Int->D):G2:=λ_ d1 _ d2 P=>match d1,d2 with
 |.int i,.int j=>P .imm (f i j)
 |_,_=>False
def okI{C:Int->Int->Prop}{f:Int->Int->D}{g:Int->Int->V}(h:∀i j H,Rp (λ_=>False) H (g i j) (f i j)):Ok2 (gI C f) (rI C g):=by
 intro p k own l H x y o m r n P Q A c d t q;unfold gI at t;split at t
 ·rename_i i j;exact⟨i,j,c.int',d.int',t.1,q _ _ _ _ t.2 Kp.refl A.pen (h i j H)⟩
 ·exact t.elim
def Ln{f:Int->Int->D}{g:Int->Int->V}(h:∀i j H,Rp (λ_=>False) H (g i j) (f i j)):Ok2 (gI0 f) (rI0 g):=by
 intro p k own l H x y o m r n P Q A c d t q;unfold gI0 at t;split at t
 ·rename_i i j;exact⟨i,j,c.int',d.int',q _ _ _ _ t Kp.refl A.pen (h i j H)⟩
 ·exact t.elim
def dZ(ha:PD X a ta)(hb:PD X b tb):PD X (.BinOp a .Sub b pos) (t2 (gI0 λi j=>.int (i - j)) ta tb):=Aa Us (Ln λi j _=>.int _) ha hb
def xJ(ha:PD X a ta)(hb:PD X b tb):PD X (.BinOp a .FloorDiv b pos) (t2 (gI VN λi j=>.int (i / j)) ta tb):=Aa qR (okI λi j _=>.int _) ha hb
def sU(ha:PD X a ta)(hb:PD X b tb):PD X (.BinOp a .Mod b pos) (t2 (gI (λ_ j=>0<j) λi j=>.int (i % j)) ta tb):=Aa iu (okI λi j _=>.int _) ha hb
def Gq(ha:PD X a ta)(hb:PD X b tb):PD X (.Compare a [.Gt] [b] pos) (t2 (gI0 λi j=>.bool (decide (j<i))) ta tb):=ou Gu (Ln λi j _=>.bl _) ha hb (cL _)
def gR(ha:PD X a ta)(hb:PD X b tb):PDT X (.Compare a [.Lt] [b] pos) (cU (t2 (gI0 λi j=>.bool (decide (i<j))) ta tb)):=dJ Ab (Ln λi j _=>.bl _) ha hb (cL _)
def Dh(ha:PD X a ta)(hb:PD X b tb):PDT X (.Compare a [.Gt] [b] pos) (cU (t2 (gI0 λi j=>.bool (decide (j<i))) ta tb)):=dJ Gu (Ln λi j _=>.bl _) ha hb (cL _)
def Di(ha:PD X a ta)(hb:PD X b tb):PDT X (.Compare a [.GtE] [b] pos) (cU (t2 (gI0 λi j=>.bool (decide (j<=i))) ta tb)):=dJ Rw (Ln λi j _=>.bl _) ha hb (cL _)
def scD:D->D->Option Bool
 |.int i,.int j=>some (decide (i=j))
 |.bool i,.bool j=>some (decide (i=j))
 |.str i,.str j=>some (decide (i=j))
 |_,_=>none
def gEq(neg:Bool):G2:=λ_ d1 _ d2 P=>match scD d1 d2 with
 |some b=>P .imm (.bool (if neg then !b else b))
 |none=>False
def YH:Ok2 (gEq false) rEq:=by
 intro p g own h H x y m k n l P Q A d f t q;unfold gEq scD at t;split at t
 ·rename_i b e;split at e <;> first|cases e|skip
  ·rw[d.int',f.int'];refine⟨rfl,?_⟩;have c:∀i j:Int,decide (V.int i=V.int j)=decide (i=j):=λi j=>by simp
   rw[c];exact q _ _ _ _ t Kp.refl A.pen (.bl _)
  ·rw[d.bl',f.bl'];refine⟨rfl,?_⟩;have c:∀i j:Bool,decide (V.bl i=V.bl j)=decide (i=j):=λi j=>by simp
   rw[c];exact q _ _ _ _ t Kp.refl A.pen (.bl _)
  ·rw[d.str',f.str'];refine⟨rfl,?_⟩;have c:∀i j:Str,decide (V.str i=V.str j)=decide (i=j):=λi j=>by simp
   rw[c];exact q _ _ _ _ t Kp.refl A.pen (.bl _)
 ·exact t.elim
def YG:Ok2 (gEq true) rNe:=by
 intro p g own h H x y m k n l P Q A d f t q;unfold gEq scD at t;split at t
 ·rename_i b e;split at e <;> first|cases e|skip
  ·rw[d.int',f.int'];refine⟨rfl,?_⟩;have c:∀i j:Int,decide (V.int i=V.int j)=decide (i=j):=λi j=>by simp
   rw[c];exact q _ _ _ _ t Kp.refl A.pen (.bl _)
  ·rw[d.bl',f.bl'];refine⟨rfl,?_⟩;have c:∀i j:Bool,decide (V.bl i=V.bl j)=decide (i=j):=λi j=>by simp
   rw[c];exact q _ _ _ _ t Kp.refl A.pen (.bl _)
  ·rw[d.str',f.str'];refine⟨rfl,?_⟩;have c:∀i j:Str,decide (V.str i=V.str j)=decide (i=j):=λi j=>by simp
   rw[c];exact q _ _ _ _ t Kp.refl A.pen (.bl _)
 ·exact t.elim
def gIx:G2:=λk1 d1 _ d2 P=>match d1,d2 with
 |.list ds,.int i=>∃d,atI ds i=some d/\P (norm k1 d) d
 |.tuple ds,.int i=>∃d,atI ds i=some d/\P (norm k1 d) d
 |_,_=>False
def Rps.atI{ok:Addr->Prop}{H:Hp}{vs:List V}{ds:List D}{i:Int}{d:D}(r:Rps ok H vs ds)(h:L2.atI ds i=some d):∃v,L2.atI vs i=some v/\Rp ok H v d:=by
 unfold L2.atI at h ⊢;rw[⇑r];cases e:ixN ⇑ds i with
 |none=>rw[e]at h;cases h
 |some j =>
  rw[e]at h;let⟨v,h1,h2⟩:=r.getD (i:=j) (d:=d) h;exact⟨v,h1,h2⟩
def cJ{p:Pn}{d f H:Hp}{own:Addr->Option Nat}{vs:List V}{c:Kd×D}(r:RpK p d own f H vs [c]):∃v,vs=[v]/\Rp (okK p d own f c.1) H v c.2:=by
 cases r with
 |cons h t=>cases t;exact⟨_,rfl,h⟩
def Kg{p:Pn}{c d H:Hp}{own:Addr->Option Nat}{vs:List V}{f g:Kd×D}(r:RpK p c own d H vs [f,g]):∃v w,vs=[v,w]/\Rp (okK p c own d f.1) H v f.2/\Rp (okK p c own d g.1) H w g.2:=by
 cases r with
 |cons h t =>
  cases t with
  |cons h2 t2=>cases t2;exact⟨_,_,rfl,h,h2⟩
def QS:GC:=λks P=>match ks with
 |[(_,.list ds)]=>P .imm (.int ⇑ds)
 |[(_,.tuple ds)]=>P .imm (.int ⇑ds)
 |_=>False
def W4{K:ã}:OkC QS (λxs H Q=>∃p ys,xs=[.ref p]/\(SqL K H p ys\/SqT K H p ys)/\Q (.int ⇑ys) H):=by
 intro p g own h H vs ks P Q A r t q;unfold QS at t;split at t
 ·let⟨v,rfl,d⟩:=cJ r;let⟨c,vs,rfl,o,hc,f⟩:=d.aR;exact⟨c,vs,rfl,.inl (SqL.of hc),by rw[⇑f];exact q _ _ _ _ t Kp.refl A.pen (.int _)⟩
 ·let⟨v,rfl,d⟩:=cJ r;let⟨c,vs,rfl,hc,f⟩:=d.dX;exact⟨c,vs,rfl,.inr (SqT.of hc),by rw[⇑f];exact q _ _ _ _ t Kp.refl A.pen (.int _)⟩
 ·exact t.elim
def Dk{ps:Pos}(hm:X.mg "len"=none)(ha:PDA X [a] t)(hg:Gl X "len":=by rfl)(he:zS X a []:=by rfl)(hpl:zP X pos []:=by rfl):PD X (.Call (.Name "len" ps) [a] [] pos) (tCl QS t) :=
 cj eF W4 hg hm PySem.boot_len ha ∅ ∅ he hpl
def Vm:GC:=λks P=>match ks with
 |[(_,.int i)]=>P .imm (.int i)
 |[(_,.bool b)]=>P .imm (.int (if b then 1 else 0))
 |_=>False
def lY{ps:Pos}(hm:X.mg "int"=none)(hv:Zs "int"=some (.type "int"))(ha:PDA X [a] t)(hg:Gl X "int":=by rfl)(he:zS X a []:=by rfl)(hpl:zP X pos []:=by rfl):PD X (.Call (.Name "int" ps) [a] [] pos) (tCl Vm t) :=
 jg Jm (by
  intro p d own f H vs ks P Q A r t q;unfold Vm at t;split at t
  ·rename_i k i;let⟨v,rfl,c⟩:=cJ r;rw[c.int'];exact .inl ⟨i,rfl,q _ _ _ _ t Kp.refl A.pen (.int _)⟩
  ·rename_i k i;let⟨v,rfl,c⟩:=cJ r;rw[c.bl'];exact .inr ⟨i,rfl,q _ _ _ _ t Kp.refl A.pen (.int _)⟩
  ·exact t.elim) hg hm hv ha ∅ ∅ he hpl
end
variable [Gr]
section
variable{ok ok':Addr->Prop}{H H':Hp}
mutual
theorem Rp.bW(f:∀a o,ok a->H a=some o->ok' a/\H' a=some o)(t:∀a xs,H a=some (.tup xs)->H' a=some (.tup xs)):∀{v:V}{d:D},Rp ok H v d->Rp ok' H' v d
 |_,_,.non=>.non
 |_,_,.bl b=>.bl b
 |_,_,.int i=>.int i
 |_,_,.str x=>.str x
 |_,_,.lst o h r=>.lst (f _ _ o h).1 (f _ _ o h).2 (Rps.bW f t r)
 |_,_,.tup h r=>.tup (t _ _ h) (Rps.bW f t r)
 |_,_,.dct o h r=>.dct (f _ _ o h).1 (f _ _ o h).2 (Rkv.bW f t r)
theorem Rps.bW(f:∀a o,ok a->H a=some o->ok' a/\H' a=some o)(t:∀a xs,H a=some (.tup xs)->H' a=some (.tup xs)):∀{v:List V}{d:List D},Rps ok H v d->Rps ok' H' v d
 |_,_,.nil=>.nil
 |_,_,.cons h r=>.cons (Rp.bW f t h) (Rps.bW f t r)
theorem Rkv.bW(f:∀a o,ok a->H a=some o->ok' a/\H' a=some o)(t:∀a xs,H a=some (.tup xs)->H' a=some (.tup xs)):∀{v:List (Key×V)}{d:List (D×D)},Rkv ok H v d->Rkv ok' H' v d
 |_,_,.nil=>.nil
 |_,_,.cons h r=>.cons (Rp.bW f t h) (Rkv.bW f t r)
end
end
structure DEnds where
 nx:List Sl->Prop
 rt:D->Prop
 bk:List Sl->Prop:=λ_=>False
 ct:List Sl->Prop:=λ_=>False
abbrev DS:=DEnds->List Sl->Prop
structure FrS(p:Pn)(own:Addr->Option Nat)(H:Hp)(own':Addr->Option Nat)(H':Hp):Prop where
 keep:∀b o,H b=some o->¬p.fp b->own b=none->H' b=some o/\own' b=none
 tup:∀a xs,H a=some (.tup xs)->H' a=some (.tup xs)
def FrS.trans{p:Pn}{i j k:Addr->Option Nat}{d f g:Hp}(a:FrS p i d j f)(b:FrS p j f k g):FrS p i d k g:=⟨λc o h n e=>let⟨x,y⟩:=a.keep c o h n e;b.keep c o x n y,λc xs e=>b.tup c xs (a.tup c xs e)⟩
def FrS.refl{p:Pn}{b:Addr->Option Nat}{a:Hp}:FrS p b a b a:=⟨λ_ _ h _ e=>⟨h,e⟩,λ_ _ e=>e⟩
def At.tups{p:Pn}{c H b:Hp}{own:Addr->Option Nat}(A:At p c own H b):∀a xs,H a=some (.tup xs)->b a=some (.tup xs):=iG (⟨A.k0,Kp.refl,A.penb,A.penb,A.ow⟩:At p c own H H) A.kp
structure RPost(p:Pn)(H0 H':Hp)(v:V)(d:D):Prop where
 k0:∀b o,H0 b=some o->¬p.fp b->H' b=some o
 pen:p.PI H'
 rp:Rp (λa=>H0 a=none/\¬p.fp a) H' v d
structure Wish(p:Pn)(H0:Hp)(own:Addr->Option Nat)(H:Hp)(P:DEnds)(Q:Ends):Prop where
 nx:∀own' σ' H' ρ',EnvD p H0 own' σ' H' ρ'->FrS p own H own' H'->P.nx ρ'->Q.nx σ' H'
 rt:∀d v H',P.rt d->RPost p H0 H' v d->Q.rt v H'
 bk:∀own' σ' H' ρ',EnvD p H0 own' σ' H' ρ'->FrS p own H own' H'->P.bk ρ'->Q.bk σ' H'
 ct:∀own' σ' H' ρ',EnvD p H0 own' σ' H' ρ'->FrS p own H own' H'->P.ct ρ'->Q.ct σ' H'
def Wish.go{p:Pn}{c H b:Hp}{own a:Addr->Option Nat}{P:DEnds}{Q:Ends}(w:Wish p c own H P Q)(f:FrS p own H a b):Wish p c a b P Q :=
 ⟨λo s h r e g n=>w.nx o s h r e (f.trans g) n,w.rt,λo s h r e g n=>w.bk o s h r e (f.trans g) n,λo s h r e g n=>w.ct o s h r e (f.trans g) n⟩
def mX(t:DS):TS:=λQ σ H=>∃p H0 own ρ P,EnvD p H0 own σ H ρ/\t P ρ/\Wish p H0 own H P Q
abbrev PDS(X:Cx)(st:ZH)(t:DS):Prop:=PS X st (mX t)
abbrev jE(X:Cx)(st:List ZH)(t:DS):Prop:=PSs X st (mX t)
def PSs.wk'{X:Cx}{a:List ZH}{t t':TS}(h:PSs X a t)(w:∀D σ H,t' D σ H->t D σ H):PSs X a t':=λpins s σ H D I q=>h pins s σ H D I (w D σ H q)
def PS.wk'{X:Cx}{a:ZH}{t t':TS}(h:PS X a t)(w:∀D σ H,t' D σ H->t D σ H):PS X a t':=λpins s σ H D I q=>h pins s σ H D I (w D σ H q)
def At.frs{p:Pn}{c H a:Hp}{own:Addr->Option Nat}(A:At p c own H a):FrS p own H own a:=⟨λb o h n e=>⟨A.kp b o h n,e⟩,A.tups⟩
section
variable{X:Cx}{pos:Pos}{st:ZH}{rest:List ZH}{e:Zv}{te:DE}{t u:DS}
def vV:DS:=λP ρ=>P.nx ρ
def qx(t u:DS):DS:=λP ρ=>t { P with nx:=u P } ρ
def Ep:jE X [] vV:=PSs.wk' lR (by
 rintro Q σ H ⟨p,a,own,ρ,P,E,t,w⟩;exact w.nx own σ H ρ E FrS.refl t)
def yF(h1:PDS X st t)(h2:jE X rest u):jE X (st::rest) (qx t u):=PSs.wk' (aM h1 h2) (by
 rintro Q σ H ⟨p,a,own,ρ,P,E,t,w⟩;exact⟨p,a,own,ρ,_,E,t,⟨λo s h r e g n=>⟨p,a,o,r,P,e,n,w.go g⟩,w.rt,w.bk,w.ct⟩⟩)
def o9(h1:PDS X st t):jE X [st] t:=jM h1
def nD:PDS X st (λ_ _=>False):=PS.wk' KC (by
 rintro Q σ H ⟨p,a,own,ρ,P,E,t,w⟩;exact t)
def Ez(te:DE):DS:=λP ρ=>te ρ λk d=>k.le .n0=true/\P.rt d
def o8(he:PD X e te):PDS X (.Return (some e) pos) (Ez te):=PS.wk' (su he) (by
 rintro Q σ H ⟨p,a,own,ρ,P,E,t,w⟩;refine⟨p,a,own,ρ,_,E,t,λk d v H' h A r=>w.rt d v H' h.2 ⟨λb o e n=>A.kp b o (A.k0 b o e n) n,A.pen,?_⟩⟩;exact fZ A h.1 r)
def dIf(c:DT)(t u:DS):DS:=λP ρ=>c ρ λb=>if b=true then t P ρ else u P ρ
theorem Nm{c:Zv}{a b:List ZH}{f:DT}(hc:PDT X c f)(ha:jE X a t)(hb:jE X b u):PDS X (.If c a b pos) (dIf f t u):=PS.wk' (zY hc ha hb) (by
 rintro Q σ H ⟨p,d,own,ρ,P,E,t,w⟩;refine⟨p,d,own,ρ,_,E,t,λb H' h A=>?_⟩;cases b with
 |true=>exact au ⟨p,d,own,ρ,P,E.go A.kp A.pen,by simpa using h,w.go A.frs⟩
 |false=>exact aA ⟨p,d,own,ρ,P,E.go A.kp A.pen,by simpa using h,w.go A.frs⟩)
def SN(te:DE):DS:=λP ρ=>te ρ λ_ _=>P.nx ρ
def dz(he:PD X e te)(hs:ZT e none pos.line X.env=pure false:=by rfl):PDS X (.Expr e pos) (SN te):=PS.wk' (gQ he hs) (by
 rintro Q σ H ⟨p,a,own,ρ,P,E,t,w⟩;exact⟨p,a,own,ρ,_,E,t,λk d v H' h A r=>w.nx own σ H' ρ (E.go A.kp A.pen) A.frs h⟩)
def Sl.region:Sl->Option Nat
 |.dw r _=>some r
 |.rw r _=>some r
 |.tw r _=>some r
 |.sp r _ _=>some r
 |_=>none
def ux(r:Nat)(ρ:List Sl)(i:Nat):Bool:=(ρ.set i .any).all λs=>s.region != some r
def stK(a:Option Nat)(ρ:List Sl)(i:Nat)(k:Kd)(d:D):Option Sl:=match k with
 |.imm=>some (.im d)
 |.new=>match a with
  |some r=>if ux r ρ i=true then some (.dw r d)else none
  |none=>some (.sn d)
 |.reg r=>some (.dw r d)
 |.snw=>some (.sn d)
 |.shr=>some (.sh d)
 |_=>none
def Ey(i:Nat)(a:Option Nat)(te:DE):DS:=λP ρ=>te ρ λk d=>match stK a ρ i (norm k d) d with
 |some s=>P.nx (ρ.set i s)
 |none=>False
section
variable{p:Pn}{H0 H H1:Hp}{own:Addr->Option Nat}{σ:L2.St}{ρ:List Sl}{i:Nat}
def EnvD.set{v:V}{s:Sl}(E:EnvD p H0 own σ H ρ)(hs:i<⇑σ->iJ p H0 own (σ.set i (some v)) H i s):EnvD p H0 own (σ.set i (some v)) H (ρ.set i s):=by
 refine⟨E.k0,E.pen,E.ow,λj s' e=>?_,by simpa using E.len,E.gr⟩;by_cases a:j=i
 ·subst a;have hl:j<⇑ρ:=by
   have:=(Ç.mp e).1;simpa using this
  rw[đ hl]at e;cases e;exact hs (by rw[←E.len];exact hl)
 ·rw[Ŋ (Ĩ a)]at e;have q:=E.slot j s' e;have b:(σ.set i (some v))[j]?=σ[j]?:=Ŋ (Ĩ a);cases s' <;> simp only[iJ,b]at q ⊢ <;> exact q
def cO(r:Nat)(H H1:Hp)(own:Addr->Option Nat):Addr->Option Nat:=λa=>match H a,H1 a with
 |none,some _=>some r
 |_,_=>own a
def bL{r:Nat}{a:Addr}{o:HO}(h:H a=some o):cO r H H1 own a=own a:=by unfold cO;rw[h]
def jV{r:Nat}{a:Addr}{o:HO}(h:H a=none)(h1:H1 a=some o):cO r H H1 own a=some r:=by unfold cO;rw[h,h1]
def EnvD.adopt(r:Nat)(E:EnvD p H0 own σ H ρ)(A:At p H0 own H H1):EnvD p H0 (cO r H H1 own) σ H1 ρ:=by
 have g:=iG E.at A.kp;refine⟨λb o e n=>A.kp b o (E.k0 b o e n) n,A.pen,λa q e=>?_,λj s e=>?_,E.len,E.gr⟩
 ·cases h:H a with
  |some o =>
   rw[bL h]at e;let⟨x,y,z⟩:=E.ow a q e;refine⟨x,y,by rw[A.kp a o h y];exact λz=>nomatch z⟩
  |none =>
   cases h1:H1 a with
   |none =>
    have k:own a=some q:=by rw[←e];unfold cO;rw[h,h1]
    exact eI h (E.ow a q k).2.2
   |some o=>exact⟨E.at.h0 h,E.at.nfb h,λz=>nomatch z⟩
 ·have q:=E.slot j s e;cases s with
  |any=>trivial
  |im d=>exact let⟨v,a,b⟩:=q;⟨v,a,b.mono (λ_ o=>o) (λ_ _ o=>o.elim) g⟩
  |sh d=>exact let⟨v,a,b⟩:=q;⟨v,a,b.bW (λc o n h=>⟨⟨n.1,by rw[bL h];exact n.2⟩,A.kp c o h n.1⟩) g⟩
  |sn d=>exact let⟨v,a,b⟩:=q;⟨v,a,b.bW (λc o n h=>⟨⟨n.1,n.2.1,by rw[bL h];exact n.2.2⟩,A.kp c o h n.2.1⟩) g⟩
  |dw f d=>exact let⟨v,a,b⟩:=q;⟨v,a,b.bW (λc o n h=>⟨by rw[bL h];exact n,A.kp c o h (E.ow c f n).2.1⟩) g⟩
  |pen C=>exact q
  |rw f L=>exact let⟨st,as,a,b⟩:=q;⟨st,as,a,b.mono (λc o n h=>⟨by rw[bL h];exact n,A.kp c o h (E.ow c f n).2.1⟩) g⟩
  |tw f L=>exact let⟨st,as,a,b⟩:=q;⟨st,as,a,b.mono (λc o n h=>⟨by rw[bL h];exact n,A.kp c o h (E.ow c f n).2.1⟩) g⟩
  |scr v b=>exact q
  |sp f b ds=>exact let⟨l,vs,a,o,h,z⟩:=q;⟨l,vs,a,by rw[bL h];exact o,A.kp l _ h (E.ow l f o).2.1,z.bW (λc u n e=>⟨⟨n.1,n.2.1,by rw[bL e];exact n.2.2⟩,A.kp c u e n.2.1⟩) g⟩
def Ca{r:Nat}{k:Kd}{v:V}{d:D}(h:k.le .new=true)(A:At p H0 own H H1)(x:Rp (okK p H0 own H k) H1 v d):Rp (λa=>cO r H H1 own a=some r) H1 v d :=
 (fZ A h x).bW (λa o n e=>⟨jV n e,e⟩) λ_ _ e=>e
def jW{r:Nat}(A:At p H0 own H H1):FrS p own H (cO r H H1 own) H1:=⟨λb o h n e=>⟨A.kp b o h n,by rw[bL h];exact e⟩,A.tups⟩
def EnvD.drop(E:EnvD p H0 own σ H ρ):EnvD p H0 own σ H (ρ.set i .any):=by
 refine⟨E.k0,E.pen,E.ow,λj s' e=>?_,by simpa using E.len,E.gr⟩;by_cases a:j=i
 ·subst a;have hl:j<⇑ρ:=by
   have:=(Ç.mp e).1;simpa using this
  rw[đ hl]at e;cases e;trivial
 ·rw[Ŋ (Ĩ a)]at e;exact E.slot j s' e
def aU(r:Nat)(own:Addr->Option Nat):Addr->Option Nat:=λa=>if own a=some r then none else own a
def EnvD.clear{r:Nat}(E:EnvD p H0 own σ H ρ)(h:ρ.all (λs=>s.region != some r)=true):EnvD p H0 (aU r own) σ H ρ:=by
 refine⟨E.k0,E.pen,λa q e=>?_,λj s e=>?_,E.len,E.gr⟩
 ·unfold aU at e;split at e
  ·cases e
  ·exact E.ow a q e
 ·have q:=E.slot j s e;have z:=Ĕ.mp h s (Ì e);have g:∀a,own a=none->aU r own a=none:=λa n=>by unfold aU;rw[n];simp
  cases s with
  |any=>trivial
  |im d=>exact q
  |sh d=>exact let⟨v,a,b⟩:=q;⟨v,a,b.mono (λc n=>⟨n.1,g c n.2⟩) (λ_ _ _ e=>e) λ_ _ e=>e⟩
  |sn d=>exact let⟨v,a,b⟩:=q;⟨v,a,b.mono (λc n=>⟨n.1,n.2.1,g c n.2.2⟩) (λ_ _ _ e=>e) λ_ _ e=>e⟩
  |dw r' d =>
   have f:r'≠r:=by simpa[Sl.region]using z
   exact let⟨v,a,b⟩:=q;⟨v,a,b.mono (λc n=>by unfold aU;rw[n,eH (by simpa using f)]) (λ_ _ _ e=>e) λ_ _ e=>e⟩
  |pen C=>exact q
  |rw r' L =>
   have f:r'≠r:=by simpa[Sl.region]using z
   exact let⟨st,as,a,b⟩:=q;⟨st,as,a,b.mono (λc o n e=>⟨by unfold aU;rw[n,eH (by simpa using f)],e⟩) λ_ _ e=>e⟩
  |tw r' L =>
   have f:r'≠r:=by simpa[Sl.region]using z
   exact let⟨st,as,a,b⟩:=q;⟨st,as,a,b.mono (λc o n e=>⟨by unfold aU;rw[n,eH (by simpa using f)],e⟩) λ_ _ e=>e⟩
  |scr v b=>exact q
  |sp r' b ds =>
   have f:r'≠r:=by simpa[Sl.region]using z
   exact let⟨l,vs,a,o,h,y⟩:=q;⟨l,vs,a,by unfold aU;rw[o,eH (by simpa using f)],h,y.mono (λc n=>⟨n.1,n.2.1,g c n.2.2⟩) (λ_ _ _ e=>e) λ_ _ e=>e⟩
def gJ{r:Nat}:FrS p own H (aU r own) H:=⟨λb o h n e=>⟨h,by unfold aU;rw[e];simp⟩,λ_ _ e=>e⟩
end
def yD{i:Nat}(j:Option Nat)(h:PS X st (pZ (aK te) (iR i))):PDS X st (Ey i j te):=PS.wk' h (by
 rintro Q σ H ⟨p,c,own,ρ,P,E,t,w⟩;refine⟨p,c,own,ρ,_,E,t,λk d v H1 h A r=>?_⟩;have r:=aX r;generalize norm k d=n at h r;show Q.nx (σ.set i (some v)) H1;have o:=E.go A.kp A.pen;have b:∀s,iJ p c own (σ.set i (some v)) H1 i s\/¬i<⇑σ->P.nx (ρ.set i s)->Q.nx (σ.set i (some v)) H1:=λs hs hn =>
  w.nx own _ H1 _ (o.set λhl=>hs.elim id λz=>eI hl z) A.frs hn
 have a:i<⇑σ->(σ.set i (some v))[i]?=some (some v):=λhl=>đ hl;by_cases hl:i<⇑σ
 ·cases n with
  |imm=>exact b (.im d) (.inl ⟨v,a hl,r⟩) h
  |new =>
   cases j with
   |none=>exact b (.sn d) (.inl ⟨v,a hl,fZ A (k:=.snw) rfl r⟩) h
   |some q =>
    simp only[stK]at h;by_cases g:ux q ρ i=true
    ·rw[eD g]at h;have l:EnvD p c (aU q own) σ H (ρ.set i .any):=(E.drop (i:=i)).clear g;have f:At p c (aU q own) H H1:=⟨A.k0,A.kp,A.penb,A.pen,l.ow⟩
     have x:=l.adopt q f;have y:Rp (okK p c (aU q own) H .new) H1 v d:=r;have m:EnvD p c (cO q H H1 (aU q own)) (σ.set i (some v)) H1 ((ρ.set i .any).set i (.dw q d)):=x.set λ_=>⟨v,a hl,Ca (k:=.new) rfl f y⟩
     rw[List.set_set]at m;exact w.nx _ _ H1 _ m (gJ.trans (jW f)) h
    ·rw[eH g]at h;exact h.elim
  |reg q=>exact b (.dw q d) (.inl ⟨v,a hl,r⟩) h
  |n0=>exact h.elim
  |snw=>exact b (.sn d) (.inl ⟨v,a hl,r⟩) h
  |shr=>exact b (.sh d) (.inl ⟨v,a hl,r⟩) h
  |wk=>exact h.elim
 ·cases hs:stK j ρ i n d with
  |none=>rw[hs]at h;exact h.elim
  |some s=>rw[hs]at h;exact b s (.inr hl) h)
end
variable [Gr]
section
variable{ok ok':Addr->Prop}{H:Hp}
mutual
theorem Rp.inj:∀{v:V}{d d':D},Rp ok H v d->Rp ok' H v d'->d=d'
 |_,_,_,.non,.non=>rfl
 |_,_,_,.bl b,.bl _=>rfl
 |_,_,_,.int i,.int _=>rfl
 |_,_,_,.str x,.str _=>rfl
 |_,_,_,.lst o h r,.lst o' h' r'=>by
  rw[h]at h';cases h';rw[Rps.inj r r']
 |_,_,_,.lst o h r,.tup h' r'=>by rw[h]at h';cases h'
 |_,_,_,.lst o h r,.dct o' h' r'=>by rw[h]at h';cases h'
 |_,_,_,.tup h r,.lst o' h' r'=>by rw[h]at h';cases h'
 |_,_,_,.tup h r,.tup h' r'=>by
  rw[h]at h';cases h';rw[Rps.inj r r']
 |_,_,_,.tup h r,.dct o' h' r'=>by rw[h]at h';cases h'
 |_,_,_,.dct o h r,.lst o' h' r'=>by rw[h]at h';cases h'
 |_,_,_,.dct o h r,.tup h' r'=>by rw[h]at h';cases h'
 |_,_,_,.dct o h r,.dct o' h' r'=>by
  rw[h]at h';cases h';rw[Rkv.inj r r']
theorem Rps.inj:∀{v:List V}{d d':List D},Rps ok H v d->Rps ok' H v d'->d=d'
 |_,_,_,.nil,.nil=>rfl
 |_,_,_,.cons h t,.cons h' t'=>by rw[Rp.inj h h',Rps.inj t t']
theorem Rkv.inj:∀{v:List (Key×V)}{d d':List (D×D)},Rkv ok H v d->Rkv ok' H v d'->d=d'
 |_,_,_,.nil,.nil=>rfl
 |_,_,_,.cons h t,.cons h' t'=>by rw[Rp.inj h h',Rkv.inj t t']
end
variable{l:Addr}{T:D}
mutual
theorem Rp.avoid(c:Rp ok' H (.ref l) T):∀{v:V}{d:D},Rp ok H v d->sizeOf d<sizeOf T->Rp (λa=>ok a/\a≠l) H v d
 |_,_,.non,_=>.non
 |_,_,.bl b,_=>.bl b
 |_,_,.int i,_=>.int i
 |_,_,.str x,_=>.str x
 |_,_,.lst (ds:=ds) o h r,s=>.lst ⟨o,λz=>by
   subst z;have e:=Rp.inj (Rp.lst o h r) c;rw[e]at s;exact eI s (Ē _)⟩ h (Rps.avoid c r (by simp only[PyData.list.sizeOf_spec]at s;lia))
 |_,_,.tup (ds:=ds) h r,s=>.tup h (Rps.avoid c r (by simp only[PyData.tuple.sizeOf_spec]at s;lia))
 |_,_,.dct (ds:=ds) o h r,s=>.dct ⟨o,λz=>by
   subst z;have e:=Rp.inj (Rp.dct o h r) c;rw[e]at s;exact eI s (Ē _)⟩ h (Rkv.avoid c r (by simp only[PyData.dict.sizeOf_spec]at s;lia))
theorem Rps.avoid(b:Rp ok' H (.ref l) T):∀{v:List V}{d:List D},Rps ok H v d->sizeOf d<sizeOf T->Rps (λa=>ok a/\a≠l) H v d
 |_,_,.nil,_=>.nil
 |_,_,.cons h t,s=>.cons (Rp.avoid b h (by simp only[List.cons.sizeOf_spec]at s;lia)) (Rps.avoid b t (by simp only[List.cons.sizeOf_spec]at s;lia))
theorem Rkv.avoid(b:Rp ok' H (.ref l) T):∀{v:List (Key×V)}{d:List (D×D)},Rkv ok H v d->sizeOf d<sizeOf T->Rkv (λa=>ok a/\a≠l) H v d
 |_,_,.nil,_=>.nil
 |_,_,.cons h t,s=>.cons (Rp.avoid b h (by simp only[List.cons.sizeOf_spec,Prod.mk.sizeOf_spec]at s;lia)) (Rkv.avoid b t (by simp only[List.cons.sizeOf_spec]at s;lia))
end
end
def forget(r:Nat)(ρ:List Sl):List Sl:=ρ.map λs=>if s.region=some r then .any else s
section
variable{p:Pn}{H0 H H1:Hp}{own:Addr->Option Nat}{σ:L2.St}{ρ:List Sl}{i:Nat}
def EnvD.write{r:Nat}{l:Addr}{u o':HO}(E:EnvD p H0 own σ H ρ)(hl:own l=some r)(w:H l=some u)(hu:∀xs,u≠.tup xs)(hc:¬Fxd u:=by rintro⟨_,_,z⟩;cases z):EnvD p H0 own σ (upd H l o') (forget r ρ):=by
 have t:=E.ow l r hl;have m:∀a xs,H a=some (.tup xs)->upd H l o' a=some (.tup xs):=λa xs e=>by
  rw[aj];exact e;intro z;subst z;rw[w]at e;exact hu xs (Ö e)
 refine⟨λb o e n=>?_,p.mono H _ E.pen λb o f e=>?_,λa q e=>?_,λj s e=>?_,by unfold forget;rw[Ä];exact E.len,E.gr⟩
 ·rw[aj];exact E.k0 b o e n;intro z;subst z;rw[t.1]at e;cases e
 ·rw[aj];exact e;intro z;subst z;exact f.elim t.2.1 λc=>hc (by rw[w]at e;cases e;exact c)
 ·let⟨x,y,z⟩:=E.ow a q e;refine⟨x,y,?_⟩;by_cases hh:a=l
  ·subst hh;rw[ao];exact λz=>nomatch z
  ·rw[aj hh];exact z
 ·unfold forget at e;rw[Ý]at e;cases hr:ρ[j]? with
  |none=>rw[hr]at e;cases e
  |some s0 =>
   rw[hr]at e;have e:=Ö e;have q:=E.slot j s0 hr;have k:∀c,own c≠some r->c≠l:=λc n z=>by subst z;exact n hl
   cases s0 with
   |any=>simp only[Sl.region]at e;subst e;trivial
   |im d =>
    have e:Sl.im d=s:=e;subst e;exact let⟨v,a,b⟩:=q;⟨v,a,b.mono (λ_ o=>o) (λ_ _ o=>o.elim) m⟩
   |sh d =>
    have e:Sl.sh d=s:=e;subst e;exact let⟨v,a,b⟩:=q;⟨v,a,b.mono (λ_ o=>o) (λc o n e=>by rw[aj (k c (by rw[n.2];exact λz=>nomatch z))];exact e) m⟩
   |sn d =>
    have e:Sl.sn d=s:=e;subst e;exact let⟨v,a,b⟩:=q;⟨v,a,b.mono (λ_ o=>o) (λc o n e=>by rw[aj (k c (by rw[n.2.2];exact λz=>nomatch z))];exact e) m⟩
   |dw r' d =>
    by_cases g:r'=r
    ·subst g;have e:(if(some r':Option Nat)=some r' then Sl.any else Sl.dw r' d)=s:=e;rw[eD rfl]at e;subst e;trivial
    ·have e:(if(some r':Option Nat)=some r then Sl.any else Sl.dw r' d)=s:=e;rw[eH (by simpa using g)]at e;subst e;exact let⟨v,a,b⟩:=q;⟨v,a,b.mono (λ_ o=>o) (λc o n e=>by rw[aj (k c (by rw[n];simpa using g))];exact e) m⟩
   |pen C =>
    have e:Sl.pen C=s:=e;subst e;exact q
   |scr v b =>
    have e:Sl.scr v b=s:=e;subst e;exact q
   |sp r' b ds =>
    by_cases g:r'=r
    ·subst g;have e:(if(some r':Option Nat)=some r' then Sl.any else Sl.sp r' b ds)=s:=e;rw[eD rfl]at e;subst e;trivial
    ·have e:(if(some r':Option Nat)=some r then Sl.any else Sl.sp r' b ds)=s:=e;rw[eH (by simpa using g)]at e;subst e;exact let⟨l',vs,a,o,h,y⟩:=q;⟨l',vs,a,o,by rw[aj (k l' (by rw[o];simpa using g))];exact h,y.mono (λ_ o=>o) (λc o n e=>by rw[aj (k c (by rw[n.2.2];exact λz=>nomatch z))];exact e) m⟩
   |rw r' L =>
    by_cases g:r'=r
    ·subst g;have e:(if(some r':Option Nat)=some r' then Sl.any else Sl.rw r' L)=s:=e;rw[eD rfl]at e;subst e;trivial
    ·have e:(if(some r':Option Nat)=some r then Sl.any else Sl.rw r' L)=s:=e;rw[eH (by simpa using g)]at e;subst e;exact let⟨st,as,a,b⟩:=q;⟨st,as,a,b.mono (λc o n e=>⟨n,by rw[aj (k c (by rw[n];simpa using g))];exact e⟩) m⟩
   |tw r' L =>
    by_cases g:r'=r
    ·subst g;have e:(if(some r':Option Nat)=some r' then Sl.any else Sl.tw r' L)=s:=e;rw[eD rfl]at e;subst e;trivial
    ·have e:(if(some r':Option Nat)=some r then Sl.any else Sl.tw r' L)=s:=e;rw[eH (by simpa using g)]at e;subst e;exact let⟨st,as,a,b⟩:=q;⟨st,as,a,b.mono (λc o n e=>⟨n,by rw[aj (k c (by rw[n];simpa using g))];exact e⟩) m⟩
def fW{r:Nat}{l:Addr}{u o':HO}(hl:own l=some r)(c:H l=some u)(hu:∀xs,u≠.tup xs):FrS p own H own (upd H l o'):=by
 refine⟨λb o h n e=>⟨?_,e⟩,λa xs e=>?_⟩
 ·rw[aj];exact h;intro z;subst z;rw[hl]at e;cases e
 ·rw[aj];exact e;intro z;subst z;rw[c]at e;exact hu xs (Ö e)
def EnvD.put{v:V}{s:Sl}(E:EnvD p H0 own σ H ρ)(hs:iJ p H0 own σ H i s):EnvD p H0 own σ H (ρ.set i s):=by
 refine⟨E.k0,E.pen,E.ow,λj s' e=>?_,by simpa using E.len,E.gr⟩;by_cases a:j=i
 ·subst a;have hl:j<⇑ρ:=by
   have:=(Ç.mp e).1;simpa using this
  rw[đ hl]at e;cases e;exact hs
 ·rw[Ŋ (Ĩ a)]at e;exact E.slot j s' e
def EnvD.rW{r:Nat}{l:Addr}{vs vs':List V}{ds ds':List D}(E:EnvD p H0 own σ H ρ)(A:At p H0 own H H1)(hv:σ[i]?=some (some (.ref l)))(hl:own l=some r)(c:H l=some (.lst vs))(h:Rps (λa=>own a=some r) H vs ds)(hs:∀H2,(∀{w:V}{d:D},Rp (λa=>own a=some r) H w d->sizeOf d<sizeOf (ĉ ds)->Rp (λa=>cO r H H1 own a=some r) H2 w d)->(∀{w:V}{d:D},Rp (okK p H0 own H .new) H1 w d->Rp (λa=>cO r H H1 own a=some r) H2 w d)->Rps (λa=>cO r H H1 own a=some r) H2 vs' ds') :
  EnvD p H0 (cO r H H1 own) σ (upd H1 l (.lst vs')) ((forget r ρ).set i (.dw r (.list ds')))/\FrS p own H (cO r H H1 own) (upd H1 l (.lst vs')):=by
 have h1:H1 l=some (.lst vs):=A.kp l _ c (E.ow l r hl).2.1;have b:cO r H H1 own l=some r:=by rw[bL c];exact hl
 have g:=(E.adopt r A).write (o':=.lst vs') b h1 (λxs z=>nomatch z);have f:∀a xs,H1 a=some (.tup xs)->upd H1 l (.lst vs') a=some (.tup xs):=λa xs e=>by
  rw[aj];exact e;intro z;subst z;rw[h1]at e;cases e
 refine⟨g.put (v:=.ref l) ⟨.ref l,hv,.lst b ao (hs _ ?_ ?_)⟩,(jW A).trans (fW b h1 λxs z=>nomatch z)⟩
 ·intro w d x j;have k:=Rp.avoid (Rp.lst (ok:=λa=>own a=some r) hl c h) x j;exact k.bW (λa o n e=>⟨by rw[bL e];exact n.1,by rw[aj n.2];exact A.kp a o e (E.ow a r n.1).2.1⟩) λa xs e=>f a xs (iG E.at A.kp a xs e)
 ·intro w d x;exact x.bW (λa o n e=>⟨jV n e,by rw[aj (λz=>by subst z;rw[c]at n;cases n)];exact e⟩) f
end
section
variable{X:Cx}{pos:Pos}{st:ZH}{e:Zv}{te:DE}{i:Nat}{ta:DA}
def fX{d:D}{ds:List D}(h:d∈ds):sizeOf d<sizeOf (ĉ ds):=by
 have:=List.sizeOf_lt_of_mem h;simp only[PyData.list.sizeOf_spec];lia
theorem gP{ok ok':Addr->Prop}{H a:Hp}{T:D}(f:∀{w:V}{d:D},Rp ok H w d->sizeOf d<sizeOf T->Rp ok' a w d):∀{vs:List V}{ds:List D},Rps ok H vs ds->(∀d∈ds,sizeOf d<sizeOf T)->Rps ok' a vs ds
 |_,_,.nil,_=>.nil
 |_,_,.cons h t,s=>.cons (f h (s _ Í)) (gP f t λd hd=>s d (É _ hd))
def EY(i:Nat)(te:DE):DS:=λP ρ=>match ρ[i]? with
 |some (.dw r (.list ds))=>te ρ λk d=>(norm k d).le .new=true/\⇑ds<1000/\P.nx ((forget r ρ).set i (.dw r (.list (ds++[d]))))
 |_=>False
def pB(h:PS X st (rJ (tBM X.K "list" qH (jX i) (kE (bw te fB))))):PDS X st (EY i te):=PS.wk' h (by
 rintro Q σ H ⟨p,q,own,ρ,P,E,t,w⟩;unfold EY at t;split at t
 ·rename_i r ds hr;let⟨v,hv,x⟩:=E.slot i _ hr;let⟨l,vs,rfl,hl,b,c⟩:=x.aR;refine⟨.ref l,hv,.inl ⟨rfl,vs,SqL.of b⟩,p,q,own,ρ,λks=>∃k d,ks=[(k,d)]/\(norm k d).le .new=true/\⇑ds<1000/\P.nx ((forget r ρ).set i (.dw r (.list (ds++[d])))),E,?_,?_⟩
  ·show te ρ λk d=>∃a d',[(k,d)]=[(a,d')]/\_;have e:(λk d=>∃a d',[((k,d):Kd×D)]=[(a,d')]/\(norm a d').le .new=true/\⇑ds<1000/\P.nx ((forget r ρ).set i (.dw r (.list (ds++[d'])))))=λk d=>(norm k d).le .new=true/\⇑ds<1000/\P.nx ((forget r ρ).set i (.dw r (.list (ds++[d])))):=by
    funext k d;apply propext;constructor
    ·rintro⟨a,d',e,h⟩;cases e;exact h
    ·exact λh=>⟨k,d,rfl,h⟩
   rw[e];exact t
  ·rintro ks C s ⟨k,d,rfl,hk,m,hn⟩ A B;let⟨y,rfl,j⟩:=cJ B;have j:=fZ A hk (aX j);have h1:s l=some (.lst vs):=A.kp l _ b (E.ow l r hl).2.1;have u:=ą;have z:=⇑c;refine⟨l,vs,y,rfl,rfl,h1,(),?_⟩;let⟨n,o⟩:=E.rW (vs':=vs++[y]) (ds':=ds++[d]) A hv hl b c λH2 f g=>(gP f c λd hd=>fX hd).snoc (g j);exact w.nx _ σ _ _ n o hn
 ·exact t.elim)
end
variable [Gr]
abbrev DG:=Kd->D->List Sl->(List Sl->Prop)->Prop
abbrev DGs:=Kd->List D->List Sl->(List Sl->Prop)->Prop
def FZ(k:Kd)(d:D):Sl:=match k with
 |.imm=>.im d
 |.new=>.sn d
 |.reg r=>.dw r d
 |.snw=>.sn d
 |.shr=>.sh d
 |_=>.any
def okB(p:Pn)(b:Hp)(own:Addr->Option Nat):Kd->Addr->Prop
 |.imm=>λ_=>False
 |.new=>λa=>b a=none/\¬p.fp a/\own a=none
 |.reg r=>λa=>own a=some r
 |.snw=>λa=>b a=none/\¬p.fp a/\own a=none
 |.shr=>λa=>¬p.fp a/\own a=none
 |.n0=>λ_=>True
 |.wk=>λ_=>True
def GD(g:DG):TG:=λv σ H Q=>∃p H0 own ρ k d P,EnvD p H0 own σ H ρ/\Rp (okB p H0 own k) H v d/\g k d ρ P/\∀σ' ρ',EnvD p H0 own σ' H ρ'->P ρ'->Q σ' H
def oW(g:DGs):TGs:=λvs σ H Q=>∃p H0 own ρ k ds P,EnvD p H0 own σ H ρ/\Rps (okB p H0 own k) H vs ds/\g k ds ρ P/\∀σ' ρ',EnvD p H0 own σ' H ρ'->P ρ'->Q σ' H
abbrev PDG(X:Cx)(e:Zv)(g:DG):Prop:=PG X e (GD g)
def PG.wk{X:Cx}{e:Zv}{t t':TG}(h:PG X e t)(w:∀v σ H Q,t' v σ H Q->t v σ H Q):PG X e t':=λpins s σ H v u Q I r q=>h pins s σ H v u Q I r (w v σ H Q q)
def PGs.wk{X:Cx}{e:List Zv}{t t':TGs}(h:PGs X e t)(w:∀v σ H Q,t' v σ H Q->t v σ H Q):PGs X e t':=λpins s σ H v u Q I r q=>h pins s σ H v u Q I r (w v σ H Q q)
def gj{p:Pn}{a H:Hp}{own:Addr->Option Nat}{k:Kd}{v:V}{d:D}(r:Rp (okB p a own k) H v d):Rp (okB p a own (norm k d)) H v d:=by
 by_cases h:cM d=true
 ·rw[aN h];exact r.imm h
 ·rw[bV h];exact r
section
variable{X:Cx}{pos:Pos}{e:Zv}{es:List Zv}
def gNm(i:Nat):DG:=λk d ρ P=>P (ρ.set i (FZ (norm k d) d))
def J1{p:Pn}{a H:Hp}{own:Addr->Option Nat}{σ:L2.St}{i:Nat}{k:Kd}{v:V}{d:D}(r:Rp (okB p a own k) H v d)(h:σ[i]?=some (some v)):iJ p a own σ H i (FZ k d):=by
 cases k with
 |imm=>exact⟨v,h,r⟩
 |new=>exact⟨v,h,r⟩
 |reg q=>exact⟨v,h,r⟩
 |n0=>trivial
 |snw=>exact⟨v,h,r⟩
 |shr=>exact⟨v,h,r⟩
 |wk=>trivial
def yI{i:Nat}{x:Str}(h:PG X (.Name x pos) (iR i)):PDG X (.Name x pos) (gNm i):=PG.wk h (by
 rintro v σ H Q ⟨p,a,own,ρ,k,d,P,E,r,t,q⟩;exact q _ _ (E.set λhl=>J1 (gj r) (đ hl)) t)
def RQ:DGs:=λ_ ds ρ P=>match ds with
 |[]=>P ρ
 |_=>False
def Ms(g:DG)(a:DGs):DGs:=λk ds ρ P=>match ds with
 |d::r=>g (norm k d) d ρ λρ'=>a k r ρ' P
 |[]=>False
theorem yH:PGs X [] (oW RQ):=PGs.wk Pq (by
 rintro v σ H Q ⟨p,a,own,ρ,k,ds,P,E,r,t,q⟩;cases ds with
 |nil=>cases r;exact⟨rfl,q _ _ E t⟩
 |cons d ds=>exact t.elim)
def uI{g:DG}{b:DGs}(h1:PDG X e g)(h2:PGs X es (oW b))(hs:(ZW (e::es) X.env).map (·.2)=ZU e X.env::(ZW es X.env).map (·.2):=by rfl):PGs X (e::es) (oW (Ms g b)):=PGs.wk (KR h1 h2 hs) (by
 rintro v σ H Q ⟨p,a,own,ρ,k,ds,P,E,r,t,q⟩;cases r with
 |nil=>exact t.elim
 |cons r rs =>
  exact⟨_,_,rfl,p,a,own,ρ,_,_,_,E,gj r,t,λσ' ρ' E' t'=>⟨p,a,own,ρ',k,_,P,E',rs,t',q⟩⟩)
def gTp(n:Nat)(a:DGs):DG:=λk d ρ P=>match d with
 |.tuple ds=>⇑ds=n/\a k ds ρ P
 |_=>False
def dH{b:DGs}{k n:Nat}(hc:X.calm=true)(h:PGs X es (oW b))(hn:⇑(ZW es X.env)=n:=by rfl)(hst:(ZW es X.env).findIdx? (·.1)=none:=by rfl):PDG X (.Tuple es k pos) (gTp n b):=PG.wk (T9 hc h hn hst) (by
 rintro v σ H Q ⟨p,f,own,ρ,k,d,P,E,r,t,q⟩;cases d with
 |tuple ds =>
  let⟨a,vs,rfl,ha,c⟩:=r.dX;exact⟨a,vs,rfl,SqT.of ha,by rw[⇑c];exact t.1,p,f,own,ρ,k,ds,P,E,c,t.2,q⟩
 |_=>exact t.elim)
end
structure Wlk(Ok:Hp->Prop)(J:It)(ds:List D)(ok:Addr->Prop):Prop where
 go:∀i H,Ok H->i<⇑ds->J.go i H
 stop:∀H,Ok H->J.stop ⇑ds H
 yld:∀i H x H',Ok H->J.yld i H x H'->Same H H'/\∀d,ds[i]?=some d->Rp ok H' x d
 stab:∀H H',Ok H->(∀b o,ok b->H b=some o->H' b=some o)->(∀a xs,H a=some (.tup xs)->H' a=some (.tup xs))->Ok H'
abbrev DI:=List Sl->(Kd->List D->Prop)->Prop
def okA(p:Pn)(b:Hp)(own:Addr->Option Nat)(c:Hp)(k:Kd)(H:Hp)(a:Addr):Prop:=okK p b own c k a/\∃o,H a=some o
def LR(t:DI):TI:=λσ H R=>∃p H0 own ρ P,EnvD p H0 own σ H ρ/\t ρ P/\∀k ds J H1 Ok,P k ds->At p H0 own H H1->Wlk Ok J ds (okA p H0 own H k H1)->Ok H1->R J H1
abbrev PDI(X:Cx)(tg e:Zv)(t:DI):Prop:=PI X tg e (LR t)
def PI.wk{X:Cx}{a e:Zv}{t t':TI}(h:PI X a e t)(w:∀σ H R,t' σ H R->t σ H R):PI X a e t':=λpins s σ H R I q=>h pins s σ H R I (w σ H R q)
section
variable{X:Cx}{tg l:Zv}{tl:DE}{pos:Pos}{ta:DA}
def JL{K:ã}{ok:Addr->Prop}{a:Addr}{ds:List D}:Wlk (λH=>Rp ok H (.ref a) (.list ds)) (Itl K a) ds ok where
 go:=λi H r hi=>by
  let⟨b,vs,e,o,h,rs⟩:=r.aR;cases e;have:i<⇑vs:=by rw[⇑rs];exact hi
  exact⟨vs,vs[i],SqL.of h,by simp[this]⟩
 stop:=λH r=>by
  let⟨b,vs,e,o,h,rs⟩:=r.aR;cases e;exact⟨vs,SqL.of h,by rw[⇑rs];exact Õ _⟩
 yld:=λi H x H' r y=>by
  let⟨rfl,y⟩:=y;let⟨b,vs,e,o,h,rs⟩:=r.aR;cases e;refine⟨Same.refl _,λd hd=>?_⟩;let⟨v,hv,rv⟩:=rs.getD hd;have:=y vs (SqL.of h);rw[hv]at this;cases this;exact rv
 stab:=λH H' r f t=>r.bW (λa o n e=>⟨n,f a o n e⟩) t
def JH{K:ã}{ok:Addr->Prop}{a:Addr}{ds:List D}:Wlk (λH=>Rp ok H (.ref a) (.tuple ds)) (Itt K a) ds ok where
 go:=λi H r hi=>by
  let⟨b,vs,e,h,rs⟩:=r.dX;cases e;have:i<⇑vs:=by rw[⇑rs];exact hi
  exact⟨vs,vs[i],SqT.of h,by simp[this]⟩
 stop:=λH r=>by
  let⟨b,vs,e,h,rs⟩:=r.dX;cases e;exact⟨vs,SqT.of h,by rw[⇑rs];exact Õ _⟩
 yld:=λi H x H' r y=>by
  let⟨rfl,y⟩:=y;let⟨b,vs,e,h,rs⟩:=r.dX;cases e;refine⟨Same.refl _,λd hd=>?_⟩;let⟨v,hv,rv⟩:=rs.getD hd;have:=y vs (SqT.of h);rw[hv]at this;cases this;exact rv
 stab:=λH H' r f t=>r.bW (λa o n e=>⟨n,f a o n e⟩) t
def zq{ok:Addr->Prop}{lo:Int}{n:Nat}:Wlk (λ_=>True) (Itr lo n) ((ß n).map λi=>Â (lo+((i:Nat):Int))) ok where
 go:=λi H r hi=>by
  have h:i<n:=by simpa using hi
  exact h
 stop:=λH r=>by show n<=_;simp
 yld:=λi H x H' r y=>by
  let⟨rfl,rfl⟩:=y;refine⟨Same.refl _,λd hd=>?_⟩;rw[Ý]at hd;cases h:(ß n)[i]? with
  |none=>rw[h]at hd;cases hd
  |some j =>
   rw[h]at hd;have e:=Ö hd;have hj:j=i:=by
    have:=Ç.mp h;let⟨h1,h2⟩:=this;simpa using h2.symm
   subst e hj;exact .int _
 stab:=λ_ _ _ _ _=>trivial
def rpA{p:Pn}{b c H:Hp}{own:Addr->Option Nat}{k:Kd}{v:V}{d:D}(r:Rp (okK p b own c k) H v d):Rp (okA p b own c k H) H v d:=r.bW (λa o n e=>⟨⟨n,o,e⟩,e⟩) λ_ _ e=>e
def iSq(tl:DE):DI:=λρ P=>tl ρ λk d=>match d with
 |.list ds=>P k ds
 |.tuple ds=>P k ds
 |_=>False
theorem Eu(hl:PD X l tl):PDI X tg l (iSq tl):=PI.wk (T8 hl) (by
 rintro σ H R ⟨p,b,own,ρ,P,E,t,q⟩;refine⟨p,b,own,ρ,_,E,t,λk d v H1 h A r=>?_⟩;cases d with
 |list ds =>
  let⟨a,vs,rfl,o,ha,c⟩:=r.aR;exact⟨a,rfl,.inl ⟨⟨vs,SqL.of ha⟩,q k ds _ H1 _ h A JL (rpA r)⟩⟩
 |tuple ds =>
  let⟨a,vs,rfl,ha,c⟩:=r.dX;exact⟨a,rfl,.inr ⟨⟨vs,SqT.of ha⟩,q k ds _ H1 _ h A JH (rpA r)⟩⟩
 |_=>exact h.elim)
def vQ(a:Int)(n:Nat):List D:=(ß n).map λi=>Â (a+((i:Nat):Int))
def iR1(ta:DA):DI:=λρ P=>ta ρ λks=>match ks with
 |[(_,.int j)]=>(-(2 ^ 62)<=j/\j<2 ^ 62)/\P .imm (vQ 0 j.toNat)
 |_=>False
def pF{a:Zv}{ps:Pos}(hm:X.mg "range"=none)(ha:PDA X [a] ta)(hg:Gl X "range":=by rfl)(hs:Zw [a] X.env=[(false,Zx a X.env)]:=by rfl):PDI X tg (.Call (.Name "range" ps) [a] [] pos) (iR1 ta):=PI.wk (H9 hg hm ha hs) (by
 rintro σ H R ⟨p,b,own,ρ,P,E,t,q⟩;refine⟨p,b,own,ρ,_,E,t,λks vs H1 h A r=>?_⟩;split at h
 ·rename_i k j;let⟨v,rfl,c⟩:=cJ r;exact⟨j,by rw[c.int'],h.1.1,h.1.2,q _ _ _ H1 _ h.2 A zq trivial⟩
 ·exact h.elim)
def iR2(ta:DA):DI:=λρ P=>ta ρ λks=>match ks with
 |[(_,.int i),(_,.int j)]=>(-(2 ^ 62)<=i/\i<2 ^ 62/\-(2 ^ 62)<=j/\j<2 ^ 62)/\P .imm (vQ i (j - i).toNat)
 |_=>False
def pC{a b:Zv}{ps:Pos}(hm:X.mg "range"=none)(ha:PDA X [a,b] ta)(hg:Gl X "range":=by rfl)(hs:Zw [a,b] X.env=[(false,Zx a X.env),(false,Zx b X.env)]:=by rfl)(hs2:Zw [b] X.env=[(false,Zx b X.env)]:=by rfl):PDI X tg (.Call (.Name "range" ps) [a,b] [] pos) (iR2 ta):=PI.wk (HY hg hm ha hs hs2) (by
 rintro σ H R ⟨p,c,own,ρ,P,E,t,q⟩;refine⟨p,c,own,ρ,_,E,t,λks vs H1 h A r=>?_⟩;split at h
 ·rename_i k i f j;let⟨v,w,rfl,d,e⟩:=Kg r;exact⟨i,j,by rw[d.int',e.int'],h.1,q _ _ _ H1 _ h.2 A zq trivial⟩
 ·exact h.elim)
def nC(ds:List D):List D:=ds.zipIdx.map λx=>ő [.int ((x.2:Nat):Int),x.1]
def dF{ds:List D}{i:Nat}:(nC ds)[i]?=(ds[i]?).map λd=>ő [.int ((i:Nat):Int),d]:=by
 unfold nC;rw[Ý,List.getElem?_zipIdx];cases ds[i]? with
 |none=>rfl
 |some d=>simp
def cY{ds:List D}:⇑(nC ds)=⇑ds:=by unfold nC;simp
def Hw{K:ã}{ok:Addr->Prop}{a:Addr}{ds:List D}:Wlk (λH=>Rp ok H (.ref a) (.tuple ds)) (Ite K a) (nC ds) ok where
 go:=λi H r hi=>by
  let⟨b,vs,e,h,rs⟩:=r.dX;cases e;have:i<⇑vs:=by rw[⇑rs];rw[cY]at hi;exact hi
  exact⟨vs,vs[i],SqT.of h,by simp[this]⟩
 stop:=λH r=>by
  let⟨b,vs,e,h,rs⟩:=r.dX;cases e;exact⟨vs,SqT.of h,by rw[⇑rs,cY];exact Õ _⟩
 yld:=λi H x H' r y=>by
  let⟨t,v,rfl,ht,rfl,y⟩:=y;have sm:Same H (upd H t (.tup [.int i,v])):=λb u q=>by rw[aj (ak q ht)];exact q
  refine⟨sm,λd hd=>?_⟩;let⟨b,vs,e,h,rs⟩:=r.dX;cases e;rw[dF]at hd;cases he:ds[i]? with
  |none=>rw[he]at hd;cases hd
  |some d0 =>
   rw[he]at hd;have e:=Ö hd;subst e;let⟨v',hv,rv⟩:=rs.getD he;have:=y vs (SqT.of h);rw[hv]at this;cases this;exact .tup ao (.cons (.int _) (.cons (rv.mono (λ_ o=>o) (λa o _ e=>sm a o e) λa xs e=>sm a _ e) .nil))
 stab:=λH H' r f t=>r.bW (λa o n e=>⟨n,f a o n e⟩) t
def iEn(ta:DA):DI:=λρ P=>ta ρ λks=>match ks with
 |[(k,.tuple ds)]=>P k (nC ds)
 |_=>False
def nH{elts:List Zv}{kk:Nat}{b:Pos}{a:Zv}{ps:Pos}(hm:X.mg "enumerate"=none)(ha:PDA X [a] ta)(hg:Gl X "enumerate":=by rfl)(hs:Zw [a] X.env=[(false,Zx a X.env)]:=by rfl):PDI X (.Tuple elts kk b) (.Call (.Name "enumerate" ps) [a] [] pos) (iEn ta):=PI.wk (Pk hg hm ha hs) (by
 rintro σ H R ⟨p,d,own,ρ,P,E,t,q⟩;refine⟨p,d,own,ρ,_,E,t,λks vs H1 h A r=>?_⟩;split at h
 ·rename_i k ds;let⟨v,rfl,c⟩:=cJ r;let⟨a,vs,e,ha,f⟩:=Rp.dX c;subst e;exact⟨a,rfl,⟨vs,SqT.of ha⟩,q k _ _ H1 _ h A Hw (rpA c)⟩
 ·exact h.elim)
end
variable [Gr]
def elK:Kd->Kd
 |.new=>.snw
 |k=>k
section
variable{X:Cx}{tg iter:Zv}{pos:Pos}{body:List ZH}{ti:DI}{g:DG}{tb:DS}
def Yi(ti:DI)(g:DG)(tb:DS):DS:=λP ρ=>ti ρ λk ds=>k.le .shr=true/\∃Iv:Nat->List Sl->Prop,Iv 0 ρ /\
 (∀i d ρ',ds[i]?=some d->Iv i ρ'->g (norm (elK k) d) d ρ' λρ2=>tb { nx:=Iv (i+1),ct:=Iv (i+1),bk:=P.nx,rt:=P.rt } ρ2)/\∀ρ',Iv ⇑ds ρ'->P.nx ρ'
def W8{p:Pn}{h l i m:Hp}{own b:Addr->Option Nat}{k:Kd}(hk:k.le .shr=true)(A:At p h own l i)(F:FrS p own i b m){v:V}{d:D}{j:Hp}(r:Rp (okA p h own l k i) j v d):Rp (okB p h b (elK k)) j v d:=by
 refine r.mono (λa n=>?_) (λ_ _ _ e=>e) λ_ _ e=>e;let⟨o,u,hu⟩:=n;have c:¬p.fp a/\own a=none:=cW A (k:=.shr) hk o;have f:=(F.keep a u hu c.1 c.2).2;cases k with
 |imm=>exact o
 |new=>exact⟨A.h0 o,c.1,f⟩
 |reg q=>cases hk
 |n0=>cases hk
 |snw=>exact⟨o.1,c.1,f⟩
 |shr=>exact⟨c.1,f⟩
 |wk=>cases hk
def Es(hp:Z3 (model X.prog X.w) X.A X.env X.xe)(hc:X.calm=true)(hi:PDI X tg iter ti)(hg:PDG X tg g)(hb:jE X body tb)(hs:zF X iter:=by intro _;rfl):PDS X (.For tg iter body [] pos) (Yi ti g tb):=PS.wk' (T6 hp hc hi hg hb hs) (by
 rintro Q σ H ⟨p,u,own,ρ,P,E,t,w⟩;refine⟨p,u,own,ρ,_,E,t,λk ds J H1 Ok h A W o1=>?_⟩;let⟨hk,D,T,step,v⟩:=h;have R:=w.go A.frs;have okS:∀c j,FrS p own H1 c j->Ok j:=λc j F=>W.stab H1 j o1 (λb o n e=>by
  have O:¬p.fp b/\own b=none:=cW A (k:=.shr) hk n.1;exact(F.keep b o e O.1 O.2).1) F.tup
 refine⟨λi m q j=>m=⇑ds - i/\i<=⇑ds/\∃c d,EnvD p u c q j d/\FrS p own H1 c j/\D i d,⟨_,rfl,Ă _,own,ρ,E.go A.kp A.pen,FrS.refl,T⟩,?_⟩;rintro i m q j ⟨rfl,hi,c,d,I,C,N⟩;have L:=okS c j C;by_cases l:i<⇑ds
 ·refine .inr ⟨W.go i j L l,λσ2 H2=>∃c d,EnvD p u c σ2 H2 d/\FrS p own H1 c H2/\D (i+1) d,λσ2 H2 h=>⟨_,(),rfl,l,h⟩,λx H2 y=>?_⟩;let⟨G,M⟩:=W.yld i j x H2 L y;have M:=M ds[i] (Ë l);have S:EnvD p u c q H2 d:=I.go (Kp.of G) (p.mono j H2 I.pen λb o _ e=>G b o e);have K:FrS p own H1 c H2:=⟨λb o e n z=>let⟨x,y⟩:=C.keep b o e n z;⟨G b o x,y⟩,λa xs e=>G a _ (C.tup a xs e)⟩
  refine⟨p,u,c,d,_,_,_,S,gj (W8 hk A K M),step i ds[i] d (Ë l) N,λσ3 ρ3 E3 t3=>?_⟩;have B:∀own4 σ4 H4 ρ4,EnvD p u own4 σ4 H4 ρ4->FrS p c H2 own4 H4->D (i+1) ρ4->∃c d,EnvD p u c σ4 H4 d/\FrS p own H1 c H4/\D (i+1) d:=λown4 σ4 H4 ρ4 E4 F4 v4=>⟨own4,ρ4,E4,K.trans F4,v4⟩
  exact⟨p,u,c,ρ3,_,E3,t3,⟨B,w.rt,λo s h r e f n=>R.nx o s h r e (K.trans f) n,B⟩⟩
 ·have e:i=⇑ds:=()
  subst e;exact .inl ⟨W.stop j L,R.nx c q j d I C (v d N)⟩)
def Nr(a:DT)(tb:DS):DS:=λP ρ=>∃Iv:Nat->List Sl->Prop,(∃m,Iv m ρ)/\∀m ρ',Iv m ρ'->a ρ' λb =>
 if b=true then tb { nx:=λρ2=>∃m',m'<m/\Iv m' ρ2,ct:=λρ2=>∃m',m'<m/\Iv m' ρ2,bk:=P.nx,rt:=P.rt } ρ' else P.nx ρ'
theorem jx{c:Zv}{u:DT}(hp:Z3 (model X.prog X.w) X.A X.env X.xe)(hc:PDT X c u)(hb:jE X body tb):PDS X (.While c body [] pos) (Nr u tb):=PS.wk' (Kz hp hc hb) (by
 rintro Q σ H ⟨p,i,own,ρ,P,E,⟨j,⟨m,x⟩,step⟩,w⟩;refine⟨λm σ' H'=>∃own' ρ',EnvD p i own' σ' H' ρ'/\FrS p own H own' H'/\j m ρ',⟨m,own,ρ,E,FrS.refl,x⟩,?_⟩;rintro m t z ⟨a,d,l,v,y⟩;refine⟨p,i,a,d,_,l,step m d y,λb H2 h A=>?_⟩;have q:=v.trans A.frs;cases b with
 |true =>
  refine au ⟨λσ' H'=>∃m',m'<m/\∃own' ρ',EnvD p i own' σ' H' ρ'/\FrS p own H own' H'/\j m' ρ',λσ' H' h=>h,?_⟩;have k:∀own4 σ4 H4 ρ4,EnvD p i own4 σ4 H4 ρ4->FrS p a H2 own4 H4->(∃m',m'<m/\j m' ρ4)->∃m',m'<m/\∃own' ρ',EnvD p i own' σ4 H4 ρ'/\FrS p own H own' H4/\j m' ρ':=λown4 σ4 H4 ρ4 E4 F4 ⟨m',hm,v4⟩=>⟨m',hm,own4,ρ4,E4,q.trans F4,v4⟩
  exact⟨p,i,a,d,{ nx:=λρ2=>∃m',m'<m/\j m' ρ2,ct:=λρ2=>∃m',m'<m/\j m' ρ2,bk:=P.nx,rt:=P.rt },l.go A.kp A.pen,by simpa using h,⟨k,w.rt,λo s h r e f n=>w.nx o s h r e (q.trans f) n,k⟩⟩
 |false=>exact aA (w.nx a t H2 d (l.go A.kp A.pen) q (by simpa using h)))
end
def EnvD.comp{p:Pn}{b H:Hp}{own:Addr->Option Nat}{σ:L2.St}{ρ:List Sl}(n:Nat)(E:EnvD p b own σ H ρ):EnvD p b own (Ú n none++σ) H (Ú n .any++ρ):=by
 refine⟨E.k0,E.pen,E.ow,λj s e=>?_,by simp[E.len],E.gr⟩;by_cases a:j<n
 ·rw[ù (by simpa using a)]at e;have:s=.any:=by
   rw[List.getElem?_replicate]at e;rw[eD a]at e;exact(Ö e).symm
  subst this;trivial
 ·have c:(Ú n Sl.any++ρ)[j]?=ρ[j - n]?:=by rw[Ā (by simpa using a)];simp
  have d:(Ú n (none:Option V)++σ)[j]?=σ[j - n]?:=by rw[Ā (by simpa using a)];simp
  rw[c]at e;have q:=E.slot _ s e;cases s <;> simp only[iJ,d]at q ⊢ <;> exact q
abbrev Oc(X:Cx)(es:List Zv)(t:DT):Prop:=PTs X es (liftT t)
def cH{X:Cx}:Oc X [] (λ_ P=>P true):=λpins s σ H Q I h=>by
 let⟨p,a,own,ρ,P,E,t,q⟩:=h;exact O9 pins s σ H Q I (q true H t E.at)
def yx{X:Cx}{c:Zv}{t:DT}(hc:PDT X c t):Oc X [c] t:=O8 hc
def elC(k:Kd):Kd:=elK k
def dLC(n:Nat)(c:DI)(g:DG)(e:DT)(a:DE):DE:=λρ P=>c ρ λk ds=>⇑ds<=1000/\∃(ke:Kd)(Iv:Nat->List D->Prop),Iv 0 [] /\
 (∀i d ys,ds[i]?=some d->Iv i ys->g (norm (elC k) d) d (Ú n .any++ρ) λρ'=>e ρ' λb=>if b=true then a ρ' λk' d'=>(norm k' d').le ke=true/\Iv (i+1) (ys++[d'])else Iv (i+1) ys) /\
 ∀ys,Iv ⇑ds ys->P (ke.join .new) (.list ys)
def RG{p:Pn}{b g c:Hp}{own:Addr->Option Nat}{k:Kd}(A:At p b own g c){v:V}{d:D}{f:Hp}(r:Rp (okA p b own g k c) f v d):Rp (okB p b own (elC k)) f v d:=by
 refine r.mono (λa n=>?_) (λ_ _ _ e=>e) λ_ _ e=>e;let⟨o,u,hu⟩:=n;cases k with
 |imm=>exact o
 |new=>exact⟨A.h0 o,A.nfb o,A.PL o⟩
 |reg q=>exact o
 |n0=>trivial
 |snw=>exact o
 |shr=>exact o
 |wk=>trivial
section
variable{X:Cx}{own:List Str}{scope:Zu}{tg iter elt:Zv}{ifs:List Zv}{pos:Pos}{ti:DI}{g:DG}{tt:DT}{te:DE}
def Gy{n:Nat}:∀σ H Q,aK (dLC n ti g tt te) σ H Q->tLC n (LR ti) (λ_=>GD g) (λ_=>liftT tt) (λ_=>aK te) σ H Q:=by
 rintro σ H Q ⟨p,r,own,ρ,P,E,t,q⟩;refine⟨p,r,own,ρ,_,E,t,λk ds J H1 Ok h A W o1=>?_⟩;let⟨S,G,R,i0,step,u⟩:=h;have okS:∀d,Kp p H1 d->p.PI d->Ok d:=λd K i=>W.stab H1 d o1 (λb o n e=>K b o e (iw A n.1)) (iG A K);refine⟨λi m ys d=>m=⇑ds - i/\i<=⇑ds/\Kp p H1 d/\p.PI d/\∃es,Rps (okK p r own H G) d ys es/\⇑es<=i/\R i es,⟨_,rfl,Ă _,Kp.refl,A.pen,[],.nil,Õ _,i0⟩,?_⟩;rintro c i m ys d ⟨rfl,hi,D,C,es,L,hl,T⟩;have I:=okS d D C;have s:=A.go D C;have Z:=ą;by_cases f:i<⇑ds
 ·refine .inr ⟨W.go i d I f,by have:=⇑L;lia,λys' H2=>Kp p H1 H2/\p.PI H2/\∃es,Rps (okK p r own H G) H2 ys' es/\⇑es<=i+1/\R (i+1) es,λys' H2 h=>⟨_,(),rfl,f,h⟩,λx H2 y=>?_⟩;let⟨O,N⟩:=W.yld i d x H2 I y;have N:=N ds[i] (Ë f);have Y:p.PI H2:=p.mono d H2 C λb o _ e=>O b o e;have F:Kp p H1 H2:=D.trans (Kp.of O);have z:=A.go F Y;have V:EnvD p r own σ H2 ρ:=E.go z.kp z.pen;have M:=cg s (Kp.of O) L;refine⟨p,r,own,_,_,_,_,V.comp n,gj (RG A N),step i ds[i] es (Ë f) T,λσ3 ρ3 E3 t3=>?_⟩;refine⟨p,r,own,ρ3,_,E3,t3,λb H4 h4 A4=>?_⟩;have B:At p r own H H4:=z.base A4;have w:=cg z A4.kp M;cases b with
  |true =>
   refine au ⟨p,r,own,ρ3,_,E3.go A4.kp A4.pen,by simpa using h4,λk' d' v H6 h6 A6 r6=>?_⟩;refine⟨(F.trans A4.kp).trans A6.kp,A6.pen,es++[d'],(cg B A6.kp w).snoc (fZ (B.base A6) h6.1 (aX (lK B r6))),by simp;lia,h6.2⟩
  |false=>exact aA ⟨F.trans A4.kp,A4.pen,es,w,(),by simpa using h4⟩
 ·have e:i=⇑ds:=()
  subst e;refine .inl ⟨W.stop d I,λl hl'=>?_⟩;let⟨U,i7,nw⟩:=s.new hl' (.lst ys);have j:=dM G .new;refine q _ _ _ _ (u es T) (s.go U i7) (.lst (cW s j.2 nw) ao ?_);exact(cg s U L).mono (λa o=>cW s j.1 o) (λ_ _ _ e=>e) λ_ _ e=>e
def K7(own:List Str)(hc:X.calm=true)(hi:PDI X tg iter ti)(hg:∀c,PDG (X.comp own scope c) tg g)(ht:∀c,Oc (X.comp own scope c) ifs tt)(he:∀c,PD (X.comp own scope c) elt te)(hk:fu X.env scope X.N=true:=by rfl)(hs:zF X iter:=by intro _;rfl) :
  PD X (.ListComp elt [⟨tg,iter,ifs,0⟩] scope pos) (dLC ⇑own ti g tt te):=PE.wk (WQ own hc hi hg ht he hk hs) Gy
end
def aV(d:D):Sl:=if cM d then .im d else .sh d
def o7{p:Pn}{H:Hp}{N:List Str}{vs:List V}{ds:List D}(g:Gr.G p H)(hp:p.PI H)(r:Rps (λa=>¬p.fp a) H vs ds):EnvD p H (λ_=>none) (L2.start N vs) H (ds.map aV++Ú (⇑N - ⇑vs) .any):=by
 refine⟨λ_ _ e _=>e,hp,(λ_ _ e=>nomatch e),λj s e=>?_,by unfold L2.start;simp[⇑r],g⟩;by_cases b:j<⇑ds
 ·rw[ù (by simpa using b),Ý]at e;let⟨v,hv,c⟩:=r.getD (Ë b);rw[Ë b]at e;have e:=Ö e;have hs:(L2.start N vs)[j]?=some (some v):=by
   unfold L2.start;rw[ù (by rw[Ä,⇑r];exact b),Ý,hv];rfl
  subst e;unfold aV;by_cases hi:cM ds[j]=true
  ·rw[eD hi];exact⟨v,hs,c.imm hi⟩
  ·rw[eH hi];exact⟨v,hs,c.mono (λ_ o=>⟨o,rfl⟩) (λ_ _ _ e=>e) λ_ _ e=>e⟩
 ·rw[Ā (by simpa using b),List.getElem?_replicate]at e;split at e
  ·cases e;trivial
  ·cases e
def yw{f:List D->(D->Prop)->Prop}{T:DS}{N:List Str}{vs:List V}{H:Hp}{Q:VK}{E:XK}(h:spD f vs H Q E)(c:∀ds P,f ds P->T { nx:=λ_=>P .none,rt:=P } (ds.map aV++Ú (⇑N - ⇑ds) .any))(g:Gr.G pO H:=by trivial):mX T { nx:=λ_ H'=>Q .non H',rt:=Q } (L2.start N vs) H:=by
 let⟨ds,P,r,t,q⟩:=h;have E:=o7 (p:=pO) (N:=N) g trivial (r.mono (ok':=λa=>¬pO.fp a) (λ_ _ z=>z) (λ_ _ _ e=>e) λ_ _ e=>e);rw[⇑r]at E;have i:∀H',(∀b o,H b=some o->¬pO.fp b->H' b=some o)->Same H H':=λH' k b o e=>k b o e λz=>z;refine⟨pO,H,λ_=>none,_,_,E,c ds P t,⟨λo s h' r' e' _ n=>q _ _ h' n (i h' e'.k0) .non,λd v h' n w=>q d v h' n (i h' w.k0) (w.rp.mono (λ_ o=>o.1) (λ_ _ _ e=>e) λ_ _ e=>e),λ_ _ _ _ _ _ n=>n.elim,λ_ _ _ _ _ _ n=>n.elim⟩⟩
def Vr{C:Pn->Prop}{f:List D->(D->Prop)->Prop}{T:DS}{N:List Str}{vs:List V}{H:Hp}{Q:VK}{E:XK}(h:spP C f vs H Q E)(b:∀ds P,f ds P->T { nx:=λ_=>P .none,rt:=P } (.pen C::(ds.map aV++Ú (⇑N - (⇑ds+1)) .any)))(g:∀p,Gr.G p H:=by intro _;trivial):mX T { nx:=λ_ H'=>Q .non H',rt:=Q } (L2.start N vs) H:=by
 let⟨p,vs',ds,P,c,rfl,i,r,t,q⟩:=h;have E0:=o7 (p:=p) (N:=N.drop 1) (g p) i r;have E:EnvD p H (λ_=>none) (L2.start N (p.pv::vs')) H (.pen C::(ds.map aV++Ú (⇑N - (⇑ds+1)) .any)):=by
  refine⟨λ_ _ e _=>e,i,(λ_ _ e=>nomatch e),λj s e=>?_,by unfold L2.start;simp[⇑r],g p⟩;cases j with
  |zero =>
   have e:=Ö e;subst e;exact⟨rfl,c⟩
  |succ j =>
   rw[List.getElem?_cons_succ]at e;have hl:⇑N - (⇑ds+1)=⇑(N.drop 1) - ⇑vs':=by rw[⇑r,œ];lia
   rw[hl]at e;have q:=E0.slot j s e;have es:(L2.start N (p.pv::vs'))[j+1]?=(L2.start (N.drop 1) vs')[j]?:=by
    unfold L2.start;have:⇑N - ⇑(p.pv::vs')=⇑(N.drop 1) - ⇑vs':=by rw[œ,ñ];lia
    rw[this];simp
   cases s <;> simp only[iJ,es]at q ⊢ <;> exact q
 have k:∀{H' v d},RPost p H H' v d->Rp (λa=>H a=none) H' v d:=λw=>w.rp.mono (λ_ o=>o.1) (λ_ _ _ e=>e) λ_ _ e=>e;exact⟨p,H,λ_=>none,_,_,E,b ds P t,⟨λo s h' r' e' _ n=>q _ _ h' n e'.k0 e'.pen .non,λd v h' n w=>q d v h' n w.k0 w.pen (k w),λ_ _ _ _ _ _ n=>n.elim,λ_ _ _ _ _ _ n=>n.elim⟩⟩
end Dl
namespace PySem
open PyProof.Rows
abbrev nR(f0:Value)(q:Bool)(TI TO:Addr):Obj:={ cls:=.type "zip",data:=.fields #[f0,.bool q,.bool false,.ref TI,.ref TO]}
section
variable{prog:Zc}{w:Zd}{A:Zt}{E:eQ}{s:Shared}
def wz{z TI TO f g m l T:Addr}{q:Bool}{k:Nat}{xs ys:Array Value}{x y:Value}{oT:Obj}{Q:eQ}(H:f≠z)(I:g≠z)(t:f≠g)(Z:m≠z)(m2:l≠z)(m3:l≠f)(D:s.heap.get? z=some (nR (Z8 T) q TI TO))(O:s.heap.get? TI=some { cls:=.type "tuple",data:=.seq #[.ref f,.ref g]})(S:s.heap.get? T=some oT)(X:s.heap.IsListIter f m k)(Y:s.heap.IsListIter g l k)(K:s.heap.IsList m xs)(L:s.heap.IsList l ys)(U:xs[k]?=some x)(V:ys[k]?=some y)(P:∀h',h'.get? z=some (nR (Z8 T) true TI TO)->h'.IsListIter f m (k+1)->h'.IsListIter g l (k+1)->h'.get? ↥s=some { cls:=.type "tuple",data:=.seq #[x,y]} ->
   (∀c o,c≠z->c≠f->c≠g->s.heap.get? c=some o->h'.get? c=some o)->Q (.ref ↥s) { s with heap:=h' }) :
  wpAny (model prog w) A (Builtin.«zip.__next__» ⟨[.ref z],[]⟩) (λfin s'=>∃v,fin=.done (.ret v)/\Q v s') E s:=by
 have j:∀{i:Nat}{v:Value}{R:eQ},(#[Z8 T,Value.bool q,.bool false,.ref TI,.ref TO]:Array Value)[i]?=some v->R v s->wpAny (model prog w) A (US (.ref z) i) R E s:=λh r=>ž D rfl h r;show wpAny _ _ (US (.ref z) 2 >>=_) _ _ _;refine Æ (j (v:=.bool false) rfl ?_);show wpAny _ _ (US (.ref z) 3 >>=_) _ _ _;refine Æ (j (v:=.ref TI) rfl ?_);refine Æ (UT O rfl ?_);show wpAny _ _ (Ő (.ref z) >>=_) _ _ _;refine Æ ?_;unfold Ő;refine Æ (j (v:=Z8 T) rfl ?_);show wpAny _ _ (loadIfAlive ((T:Int).toNat) >>=_) _ _ _;rw[ķ];refine Æ (W.kdx_alive S ?_);simp only[Option.isNone_some,ļ,if_false];refine Æ (j (v:=.bool q) rfl ?_);refine L2.thn (Q:=λa s'=>a=false/\∃h1,s'={ s with heap:=h1 }/\h1.get? z=some (nR (Z8 T) true TI TO)/\h1.objs.size=↥s/\∀c o,c≠z->s.heap.get? c=some o->h1.get? c=some o) ?_ ?_
 ·cases q with
  |true=>exact Ù ⟨rfl,s.heap,rfl,D,rfl,λc o _ e=>e⟩
  |false =>
   rw[eD ∅];refine Æ (Tu D (by simp) λh1 G b1=>Ù ⟨rfl,h1,rfl,G,b1.1,λc o n e=>b1.extBut _ _ n e⟩)
 rintro a s' ⟨rfl,h1,rfl,G,F,p⟩;simp only[ļ,if_false];refine Æ ?_;simp only[←Array.forIn_toList,List.forIn_cons,List.forIn_nil];have B:h1.IsListIter f m k:=X.at λo e=>p f o H e;have C:h1.IsListIter g l k:=Y.at λo e=>p g o I e;have M:h1.IsList m xs:=K.at λo e=>p m o Z e;have N:h1.IsList l ys:=L.at λo e=>p l o m2 e;refine Æ (Æ (ġ ?_));show wpAny _ _ (Ħ (.ref f) >>=_) _ _ _;refine Æ (Tx B M U λh2 c1 b2=>Ù (Ù ?_));refine Æ (Æ (ġ ?_));show wpAny _ _ (Ħ (.ref g) >>=_) _ _ _;refine Æ (Tx (C.extBut b2.extBut t.symm) (N.extBut b2.extBut m3) V λh3 c2 b3=>Ù (Ù (Ù ?_)));have u:h3.objs.size=↥s:=by rw[b3.1,b2.1,F]
 show wpAny _ _ (newTuple [x,y] >>=_) _ _ _;refine Æ (UB (Ù ⟨_,rfl,?_⟩));show Q (.ref h3.objs.size) _;rw[u];have J:∀c o,c≠f->c≠g->h1.get? c=some o->(h3.push { cls:=.type "tuple",data:=.seq #[x,y]}).get? c=some o:=λc o a b e=>Ò _ (b3.extBut _ _ b (b2.extBut _ _ a e));refine P _ (J z _ H.symm I.symm G) ((c1.extBut b3.extBut t).at λo e=>Ò _ e) (c2.at λo e=>Ò _ e) ?_ λc o a b d e=>J c o b d (p c o a e);rw[←u];exact è _ rfl
def zj{z TI TO g j p l T:Addr}{q:Bool}{k:Nat}{xs ys:Array Value}{oT:Obj}{Q:Fin->Shared->Prop}(hh:A.handled=none)(Y:g≠z)(Z:j≠z)(D:g≠j)(U:p≠z)(V:l≠z)(X:l≠g)(B:s.heap.get? z=some (nR (Z8 T) q TI TO))(M:s.heap.get? TI=some { cls:=.type "tuple",data:=.seq #[.ref g,.ref j]})(N:s.heap.get? T=some oT)(P:s.heap.IsListIter g p k)(S:s.heap.IsListIter j l k)(J:s.heap.IsList p xs)(K:s.heap.IsList l ys)(u:xs[k]?=none\/ys[k]?=none)(G:∀h' e,(∀c o,c≠z->c≠g->c≠j->s.heap.get? c=some o->h'.get? c=some o)->(∃o,h'.get? e=some o/\o.cls=.type "StopIteration")->E (.ref e) { s with heap:=h' }) :
  wpAny (model prog w) A (Builtin.«zip.__next__» ⟨[.ref z],[]⟩) Q E s:=by
 have f:∀{i:Nat}{v:Value}{R:eQ},(#[Z8 T,Value.bool q,.bool false,.ref TI,.ref TO]:Array Value)[i]?=some v->R v s->wpAny (model prog w) A (US (.ref z) i) R E s:=λh r=>ž B rfl h r;show wpAny _ _ (US (.ref z) 2 >>=_) _ _ _;refine Æ (f (v:=.bool false) rfl ?_);show wpAny _ _ (US (.ref z) 3 >>=_) _ _ _;refine Æ (f (v:=.ref TI) rfl ?_);refine Æ (UT M rfl ?_);show wpAny _ _ (Ő (.ref z) >>=_) _ _ _;refine Æ ?_;unfold Ő;refine Æ (f (v:=Z8 T) rfl ?_);show wpAny _ _ (loadIfAlive ((T:Int).toNat) >>=_) _ _ _;rw[ķ];refine Æ (W.kdx_alive N ?_);simp only[Option.isNone_some,ļ,if_false];refine Æ (f (v:=.bool q) rfl ?_);refine L2.thn (Q:=λa H=>a=false/\∃h1,H={ s with heap:=h1 }/\h1.get? z=some (nR (Z8 T) true TI TO)/\h1.objs.size=↥s/\∀c o,c≠z->s.heap.get? c=some o->h1.get? c=some o) ?_ ?_
 ·cases q with
  |true=>exact Ù ⟨rfl,s.heap,rfl,B,rfl,λc o _ e=>e⟩
  |false =>
   rw[eD ∅];refine Æ (Tu B (by simp) λh1 I b1=>Ù ⟨rfl,h1,rfl,I,b1.1,λc o n e=>b1.extBut _ _ n e⟩)
 rintro a H ⟨rfl,h1,rfl,I,sz1,m⟩;simp only[ļ,if_false];refine Æ ?_;simp only[←Array.forIn_toList,List.forIn_cons,List.forIn_nil];have t:h1.IsListIter g p k:=P.at λo e=>m g o Y e;have y:h1.IsListIter j l k:=S.at λo e=>m j o Z e;have F:h1.IsList p xs:=J.at λo e=>m p o U e;have L:h1.IsList l ys:=K.at λo e=>m l o V e;refine Æ (Æ (ġ ?_));show wpAny _ _ (Ħ (.ref g) >>=_) _ _ _;cases C:xs[k]? with
 |none=>exact Æ (Ty hh t F C λh2 e b2 he=>G h2 e (λc o a b _ x=>b2 c o b (m c o a x)) he)
 |some x =>
  have O:ys[k]?=none:=u.elim (λz=>by rw[C]at z;cases z) id;refine Æ (Tx t F C λh2 c1 b2=>Ù (Ù ?_));refine Æ (Æ (ġ ?_));show wpAny _ _ (Ħ (.ref j) >>=_) _ _ _;exact Æ (Ty hh (y.extBut b2.extBut D.symm) (L.extBut b2.extBut X) O λh3 e b3 he=>G h3 e (λc o a b d x=>b3 c o d (b2.extBut _ _ b (m c o a x))) he)
structure ZSt(z TI TO i1 i2 l1 l2:Addr)(xs ys:Array Value)(i:Nat)(h:Zi):Prop where
 zip:(i=0/\h.get? z=some (nR .none false TI TO))\/∃(T:Addr)(q:Bool)(oT:Obj),h.get? z=some (nR (Z8 T) q TI TO)/\h.get? T=some oT/\T≠z/\T≠i1/\T≠i2
 ti:h.get? TI=some { cls:=.type "tuple",data:=.seq #[.ref i1,.ref i2]}
 to:∃a b,h.get? TO=some { cls:=.type "tuple",data:=.seq #[a,b]}
 j1:h.IsListIter i1 l1 i
 j2:h.IsListIter i2 l2 i
 e1:h.IsList l1 xs
 e2:h.IsList l2 ys
variable{z TI TO i1 i2 l1 l2:Addr}{xs ys:Array Value}
def ZSt.keeps{i:Nat}{h h':Zi}(Z:ZSt z TI TO i1 i2 l1 l2 xs ys i h){S:Addr}{u:Obj}(B:h.get? S=some u)(hc:u.cls=.type "list")(G:S≠l1)(H:S≠l2)(I:∀(T:Addr)(q:Bool),h.get? z=some (nR (Z8 T) q TI TO)->S≠T)(k:∀b o,b≠S->h.get? b=some o->h'.get? b=some o):ZSt z TI TO i1 i2 l1 l2 xs ys i h':=by
 have d:∀{b:Addr}{o:Obj},h.get? b=some o->o.cls≠.type "list"->b≠S:=λe n z=>by subst z;rw[B]at e;cases e;exact n hc
 let⟨p,f,l,v⟩:=Z.j1;let⟨t,g,m,x⟩:=Z.j2;let⟨a,b,j⟩:=Z.to;have D:=k i1 p (d f (by rw[l];decide)) f;have F:=k i2 t (d g (by rw[m];decide)) g;refine⟨?_,k _ _ (d Z.ti (show ď "tuple"≠_ by decide)) Z.ti,⟨a,b,k _ _ (d j (show ď "tuple"≠_ by decide)) j⟩,⟨p,D,l,v⟩,⟨t,F,m,x⟩,Z.e1.at λo e=>k _ o G.symm e,Z.e2.at λo e=>k _ o H.symm e⟩;rcases Z.zip with⟨y,c⟩|⟨T,q,J,c,C,r⟩
 ·exact .inl ⟨y,k _ _ (d c (show ď "zip"≠_ by decide)) c⟩
 ·exact .inr ⟨T,q,J,k _ _ (d c (show ď "zip"≠_ by decide)) c,k _ _ (I T q c).symm C,r⟩
def Jw{i:Nat}{x y:Value}{Q:Option Value->Shared->Prop}(D:TB z TI TO i1 i2 l1 l2)(Z:ZSt z TI TO i1 i2 l1 l2 xs ys i s.heap)(k:xs[i]?=some x)(l:ys[i]?=some y)(h:∀h',ZSt z TI TO i1 i2 l1 l2 xs ys (i+1) h'->h'.get? ↥s=some { cls:=.type "tuple",data:=.seq #[x,y]}->(∀(T:Addr)(q:Bool),h'.get? z=some (nR (Z8 T) q TI TO)->T=↥s\/∃q',s.heap.get? z=some (nR (Z8 T) q' TI TO)) ->
   (∀c o,c≠z->c≠TO->c≠i1->c≠i2->s.heap.get? c=some o->h'.get? c=some o)->Q (some (.ref ↥s)) { s with heap:=h' }):wpAny (model prog w) A (Z5 (.ref z)) Q E s:=by
 let⟨a,b,g⟩:=Z.to;have lt:∀{c:Addr}{o:Obj},s.heap.get? c=some o->↥s≠c:=λe=>ņ (Ó e);let⟨u,p,_⟩:=id Z.j1;let⟨v,r,_⟩:=id Z.j2;rcases Z.zip with⟨rfl,d⟩|⟨T,q,t,d,j,m,t2,n⟩
 ·refine wpAny_pyNext_zip_item D d Z.ti g Z.j1 Z.j2 Z.e1 Z.e2 k l λh' b1 b2 b3 b4 b5 b6 b7=>h h' ⟨.inr ⟨_,false,_,b1,b5,lt d,lt p,lt r⟩,b7 _ _ D.TIz D.TITO D.TIi1 D.TIi2 Z.ti,⟨_,_,b2⟩,b3,b4,Z.e1.at λo e=>b7 _ o D.l1z D.l1TO D.l1i1 D.l1i2 e,Z.e2.at λo e=>b7 _ o D.l2z D.l2TO D.l2i1 D.l2i2 e⟩ b5 (λT q e=>?_) b7;rw[b1]at e;cases e;exact .inl rfl
 ·have f:s.TypeIs (.ref z) "zip":=⟨_,d,rfl⟩
  unfold Z5;refine Æ (UZ (ŋ (name:=ũ "__next__") f F.slot_zip_next (Ł F.slot_zip_next f F.entry_zip_next ?_ (F.args_zip_next_1 _))));refine wz D.i1z D.i2z D.i12 D.l1z D.l2z D.l2i1 d Z.ti j Z.j1 Z.j2 Z.e1 Z.e2 k l λh' b1 b3 b4 b5 b7=>Ù (h h' ⟨.inr ⟨T,true,t,b1,b7 _ _ m t2 n j,m,t2,n⟩,b7 _ _ D.TIz D.TIi1 D.TIi2 Z.ti,⟨a,b,b7 _ _ D.TOz D.TOi1 D.TOi2 g⟩,b3,b4,Z.e1.at λo e=>b7 _ o D.l1z D.l1i1 D.l1i2 e,Z.e2.at λo e=>b7 _ o D.l2z D.l2i1 D.l2i2 e⟩ b5 (λT' q' e=>?_) λc o n1 _ n3 n4 e=>b7 c o n1 n3 n4 e);rw[b1]at e;cases e;exact .inr ⟨_,d⟩
def Oh{i:Nat}{Q:Option Value->Shared->Prop}(hh:A.handled=none)(D:TB z TI TO i1 i2 l1 l2)(Z:ZSt z TI TO i1 i2 l1 l2 xs ys i s.heap)(d:xs[i]?=none\/ys[i]?=none)(h:∀h',(∀c o,c≠z->c≠TO->c≠i1->c≠i2->s.heap.get? c=some o->h'.get? c=some o)->Q none { s with heap:=h' }):wpAny (model prog w) A (Z5 (.ref z)) Q E s:=by
 let⟨a,b,j⟩:=Z.to;rcases Z.zip with⟨rfl,g⟩|⟨T,q,m,g,k,n,t2,p⟩
 ·exact TC hh D g Z.ti j Z.j1 Z.j2 Z.e1 Z.e2 d h
 ·have f:s.TypeIs (.ref z) "zip":=⟨_,g,rfl⟩
  unfold Z5;refine Æ (UZ (ŋ (name:=ũ "__next__") f F.slot_zip_next (Ł F.slot_zip_next f F.entry_zip_next ?_ (F.args_zip_next_1 _))));refine zj hh D.i1z D.i2z D.i12 D.l1z D.l2z D.l2i1 g Z.ti k Z.j1 Z.j2 Z.e1 Z.e2 d λh' e k2 he=>?_;let⟨o,l,hc⟩:=he;refine Æ (U1 (T:="StopIteration") (b:=true) ⟨o,l,hc⟩ U2 ?_);exact Ù (h _ λc o n1 _ n3 n4 e=>k2 c o n1 n3 n4 e)
def ItP(h:Zi):List Value->List (Value×Value)->Prop:=Paired λv p=>∃T,v=.ref T/\h.get? T=some { cls:=.type "tuple",data:=.seq #[p.1,p.2]}
theorem ItP.snoc{h:Zi}:∀{vs:List Value}{ps:List (Value×Value)}{v:Value}{p:Value×Value},ItP h vs ps->(∃T,v=.ref T/\h.get? T=some { cls:=.type "tuple",data:=.seq #[p.1,p.2]})->ItP h (vs++[v]) (ps++[p])
 |_,_,_,_,.nil,r=>.cons r .nil
 |_,_,_,_,.cons a t,r=>.cons a (ItP.snoc t r)
def ItP.keeps{h h':Zi}{vs:List Value}{ps:List (Value×Value)}(H:ItP h vs ps)(k:∀T o,h.get? T=some o->o.cls=.type "tuple"->(∃v∈vs,v=.ref T)->h'.get? T=some o):ItP h' vs ps:=by
 induction H with
 |nil=>exact .nil
 |cons a t ih =>
  let⟨T,e,b⟩:=a;exact .cons ⟨T,e,k T _ b rfl ⟨_,Í,e⟩⟩ (ih λT o h c ⟨v,hv,e⟩=>k T o h c ⟨v,É _ hv,e⟩)
end
section
variable{prog:Zc}{w:Zd}{A:Zt}{z TI TO i1 i2 l1 l2:Addr}{xs ys:Array Value}{R:Result->Shared->Prop}
abbrev Ql(acc:Array Value)(c:Nat):Obj:={ cls:=.type "list",dict:=none,data:=.seq acc c,slots:=#[]}
def Ju(hh:A.in1.handled=none)(D:TB z TI TO i1 i2 l1 l2)(hn:min xs.size ys.size<=1000)(S:Addr)(nS:S≠z/\S≠TO/\S≠i1/\S≠i2/\S≠l1/\S≠l2)(u:Value):∀(m i:Nat)(s:Shared)(acc:Array Value)(c:Nat),min xs.size ys.size - i=m->i<=min xs.size ys.size ->
  ZSt z TI TO i1 i2 l1 l2 xs ys i s.heap->(∀(T:Addr)(q:Bool),s.heap.get? z=some (nR (Z8 T) q TI TO)->S≠T)->s.heap.get? S=some (Ql acc c)->ItP s.heap acc.toList ((xs.toList.zip ys.toList).take i)->(∀v∈acc.toList,∀T,v=.ref T->T≠z/\T≠TO/\T≠i1/\T≠i2/\T≠S) ->
  (∀h' acc' c',(∀b o,b≠S->b≠z->b≠TO->b≠i1->b≠i2->s.heap.get? b=some o->h'.get? b=some o)->h'.get? S=some (Ql acc' c')->ItP h' acc'.toList (xs.toList.zip ys.toList)->(∀v∈acc'.toList,v∈acc.toList\/∃T,v=.ref T/\↥s<=T)->R (.ok (.ret u)) { s with heap:=h' }) ->
  Y2 (model prog w) A (.builtin "list.extend.loop" ⟨[.ref S,.ref z,u],[]⟩) R s:=by
 let⟨N,U,V,W,s5,s6⟩:=nS;intro m;induction m with
 |zero =>
  intro i s acc c hm hi Z Q p l hv H;have e:i=min xs.size ys.size:=()
  refine UH F.entry_extend_loop ?_;rw[Around.under_plainId F.plain_extend_loop _];show wpAny _ A.in1 (Z5 (.ref z) >>=_) _ _ s;refine Æ (Oh hh D Z ?_ λh' k=>?_)
  ·rcases Nat.le_total xs.size ys.size with h|h
   ·exact .inl (Array.getElem?_eq_none ())
   ·exact .inr (Array.getElem?_eq_none ())
  ·have Y:(xs.toList.zip ys.toList).take i=xs.toList.zip ys.toList:=Ũ (by simp;lia);rw[Y]at l;exact Ù (H h' acc c (λb o n1 n2 n3 n4 n5 e=>k b o n2 n3 n4 n5 e) (k S _ N U V W p) (l.keeps λT o h _ ⟨v,a,e⟩=>let⟨x,y,a3,a4,_⟩:=hv v a T e;k T o x y a3 a4 h) λv hv=>.inl hv)
 |succ m ih =>
  intro i s acc c hm hi Z Q p l hv H;have O:i<xs.size:=()
  have P:i<ys.size:=()
  refine UH F.entry_extend_loop ?_;rw[Around.under_plainId F.plain_extend_loop _];show wpAny _ A.in1 (Z5 (.ref z) >>=_) _ _ s;refine Æ (Jw D Z (Array.getElem?_eq_getElem O) (Array.getElem?_eq_getElem P) λh1 Z1 hT hz1 k1=>?_);have j:=k1 S _ N U V W p;have lt:∀{b:Addr}{o:Obj},s.heap.get? b=some o->↥s≠b:=λe=>ņ (Ó e);have hsz:=⇑l;have g:acc.size=i:=by
   have:⇑acc.toList=i:=by rw[hsz,Ě,List.length_zip];simp;lia
   simpa using this
  show wpAny _ A.in1 (TD S (·.push (.ref ↥s)) >>=_) _ _ _;refine Æ ?_;have h24:=ą;have r:∀(T:Addr)(q:Bool),h1.get? z=some (nR (Z8 T) q TI TO)->S≠T:=λT q e=>by
   rcases hz1 T q e with z'|⟨t,X⟩
   ·rw[z'];exact(lt p).symm
   ·exact Q T t X
  have f:∀b o,b≠S->h1.get? b=some o->(h1.update S (û (·.push (ĥ ↥s)))).get? b=some o:=λb o n e=>(Ľ _ _ (Ĩ n)).trans e;let⟨o1,x,_⟩:=Z.j1;let⟨o2,y,_⟩:=Z.j2;have C:∃o,s.heap.get? z=some o:=by
   rcases Z.zip with⟨_,M⟩|⟨_,_,_,M,_⟩
   ·exact⟨_,M⟩
   ·exact⟨_,M⟩
  let⟨oz,C⟩:=C;let⟨ta,tb,B⟩:=Z.to;have d:↥s≠z/\↥s≠TO/\↥s≠i1/\↥s≠i2/\↥s≠S:=⟨lt C,lt B,lt x,lt y,lt p⟩
  obtain⟨E,J⟩:∃E,(h1.update S (û (·.push (ĥ ↥s)))).get? S=some (Ql (acc.push (.ref ↥s)) E):=⟨_,ŏ _ j rfl⟩
  have tk:(xs.toList.zip ys.toList).take (i+1)=(xs.toList.zip ys.toList).take i++[(xs[i],ys[i])]:=by
   rw[Ĭ];congr 1;have:(xs.toList.zip ys.toList)[i]?=some (xs[i],ys[i]):=by
    rw[List.getElem?_zip_eq_some];simp[O,P]
   rw[this];rfl
  refine TH j rfl (Ù ⟨Ts F.plain_extend_loop _,ih (i+1) { s with heap:=h1.update S (û (·.push (ĥ ↥s)))} (acc.push (.ref ↥s)) E () () (Z1.keeps j rfl s5 s6 r f) (λT q e=>r T q ?_) J ?_ ?_ ?_⟩) (by rw[g];lia) (by show(acc.push _).size<=sizeLine+1;rw[Array.size_push,g];lia)
  ·have zz:z≠S:=Ĩ N;rw[show(h1.update S (û (·.push (ĥ ↥s)))).get? z=h1.get? z from Ľ _ _ (Ĩ zz)]at e;exact e
  ·rw[tk,Array.toList_push];refine ItP.snoc (l.keeps λT o h _ ⟨v,a,e⟩=>?_) ⟨_,rfl,f _ _ d.2.2.2.2 hT⟩;let⟨b1,b2,b3,b4,b5⟩:=hv v a T e;exact f _ _ b5 (k1 T o b1 b2 b3 b4 h)
  ·intro v a T e;rw[Array.toList_push]at a;rcases â.mp a with q|q
   ·exact hv v q T e
   ·have t:v=.ref ↥s:=by simpa using q
    rw[t]at e;cases e;exact d
  ·intro h' acc' c' kk I G L;refine H h' acc' c' (λb o n1 n2 n3 n4 n5 e=>kk b o n1 n2 n3 n4 n5 (f b o n1 (k1 b o n2 n3 n4 n5 e))) I G λv a=>?_;rcases L v a with q|⟨T,e,K⟩
   ·rw[Array.toList_push]at q;rcases â.mp q with q|q
    ·exact .inl q
    ·have t:v=.ref ↥s:=by simpa using q
     exact .inr ⟨_,t,Õ _⟩
   ·exact .inr ⟨T,e,þ (Nat.le_of_lt (Ó (f _ _ d.2.2.2.2 hT))) K⟩
def Ce:XX (.type "zip") "__len__"=pure none:=by rw[TK,TL];kernel_rfl
def yX:XX (.type "zip") "__length_hint__"=pure none:=by rw[TK,TL];kernel_rfl
def Jv{s:Shared}{E:eQ}{Q:eQ}(hh:A.handled=none)(D:TB z TI TO i1 i2 l1 l2)(hn:min xs.size ys.size<=1000)(f:s.heap.get? z=some (nR .none false TI TO))(Z:ZSt z TI TO i1 i2 l1 l2 xs ys 0 s.heap)(G:∀h' acc' c',(∀b o,b≠z->b≠TO->b≠i1->b≠i2->s.heap.get? b=some o->h'.get? b=some o)->h'.get? ↥s=some (Ql acc' c')->ItP h' acc'.toList (xs.toList.zip ys.toList)->(∀v∈acc'.toList,∃T,v=.ref T/\↥s<T)->Q (.ref ↥s) { s with heap:=h' }) :
  wpAny (model prog w) A (YI (.type "list") [.ref z]) Q E s:=by
 have lt:∀{b:Addr}{o:Obj},s.heap.get? b=some o->↥s≠b:=λe=>ņ (Ó e);let⟨N,B,_⟩:=id Z.j1;let⟨O,C,_⟩:=id Z.j2;let⟨P,b1,_⟩:=id Z.e1;let⟨S,b2,_⟩:=id Z.e2;let⟨L,M,i⟩:=id Z.to;refine TM (Q₁:=λobj s₁=>obj=.ref ↥s/\s₁={ s with heap:=s.heap.push { cls:=.type "list",data:=.seq #[]}}) F.called_list (F.typeCall_list_1 _) F.entry_list_init (TN _ ⟨rfl,rfl⟩) λobj sx hx=>?_;let⟨rfl,rfl⟩:=hx;have r:(s.heap.push { cls:=.type "list",data:=.seq #[]}).get? ↥s=some { cls:=.type "list",data:=.seq #[]}:=è _ rfl;refine⟨⟨_,r,rfl⟩,F.args_list_init_2 _ _,?_⟩;show wpAny _ _ (Builtin.List.listItems (.ref ↥s) >>=λd=>Builtin.List.listUpdate (.ref ↥s) (λ_=>#[]) >>=λ_=>letGo d.toList.reverse >>=λ_=>į (.ref ↥s) (.ref z) .none) _ _ _;have d:∀b o,s.heap.get? b=some o->(s.heap.push { cls:=.type "list",data:=.seq #[]}).get? b=some o:=λb o e=>Ò _ e;refine Æ ?_;unfold Builtin.List.listItems;refine Æ (UT r rfl (Ù ?_));refine Æ (m:=TD ↥s (λ_=>#[])) (TH r rfl ?_);have a:=ŏ (û (λ_=>(#[]:Array Value))) r rfl;refine Æ (wpAny_letGo ?_);generalize hg:(s.heap.push { cls:=.type "list",data:=.seq #[]}).update ↥s (û λ_=>(#[]:Array Value))=g at a;have p:∀b o,s.heap.get? b=some o->g.get? b=some o:=λb o e=>by rw[←hg];exact(Ľ _ _ (lt e)).trans (d b o e)
 have K:g.objs.size=↥s+1:=by rw[←hg,Ū,Ń]
 have y:∀{h:Zi},(∀b o,s.heap.get? b=some o->h.get? b=some o)->ZSt z TI TO i1 i2 l1 l2 xs ys 0 h:=λ{h} k=>⟨.inl ⟨rfl,k _ _ f⟩,k _ _ Z.ti,⟨L,M,k _ _ i⟩,Z.j1.at λo e=>k _ o e,Z.j2.at λo e=>k _ o e,Z.e1.at λo e=>k _ o e,Z.e2.at λo e=>k _ o e⟩
 have t:∀{h:Zi},(∀b o,s.heap.get? b=some o->h.get? b=some o)->({ s with heap:=h }:Shared).TypeIs (.ref z) "zip":=λk=>⟨_,k _ _ f,rfl⟩
 unfold į;refine Æ (XU (t p) ?_);have H:Builtin.List.listSameRef (.ref ↥s) (.ref z)=false:=by simp[Builtin.List.listSameRef,lt f]
 have I:(ď "zip"==ď "list")=false:=∅
 have J:(ď "zip"==ď "tuple")=false:=∅
 simp only[H,I,J,Bool.or_false,ļ,if_false];refine Æ (TU (p _ _ f) ?_);refine Æ (ġ ?_);unfold Builtin.List.listLengthHint;refine Æ (Tl (t p) Ce ?_);show wpAny _ _ (specialOf (ĥ z) (ũ "__length_hint__") >>=_) _ _ _;refine Æ (Tl (t p) yX ?_);refine Ù ?_;show wpAny _ _ (rule "list.extend.makes-room" >>=λ_=>Builtin.List.listTouch (.ref ↥s) >>=λ_=>again (.builtin "list.extend.loop" ⟨[.ref ↥s,.ref z,.none],[]⟩)) _ _ _;refine Æ (wpAny_rule (Æ ?_));show wpAny _ _ (TD ↥s (·.push .none) >>=λ_=>TD ↥s (·.pop)) _ _ _;refine Æ (TH a rfl ?_);have j:=ŏ (û (·.push ľ)) a rfl;refine TH j rfl ?_;have l:=ŏ (û (·.pop)) j rfl;generalize hk:(g.update ↥s (û (·.push ľ))).update ↥s (û (·.pop))=g' at l;have kk:∀b o,b≠↥s->g.get? b=some o->g'.get? b=some o:=λb o n e=>by rw[←hk];exact(Ľ _ _ (Ĩ n)).trans ((Ľ _ _ (Ĩ n)).trans e)
 have c:∀b o,s.heap.get? b=some o->g'.get? b=some o:=λb o e=>kk b o (Ĩ (lt e)) (p b o e);have U:g'.objs.size=↥s+1:=by rw[←hk,Ū,Ū,K]
 refine Ù ⟨Ts F.plain_extend_loop _,Ju (A:=A.in1) (xs:=xs) (ys:=ys) hh D hn ↥s ⟨lt f,lt i,lt B,lt C,lt b1,lt b2⟩ _ _ 0 { s with heap:=g' } #[] _ rfl (Ă _) (y c) (λT q e=>?_) l .nil (λv hv=>nomatch hv) λh' acc' c' k' hS' hP' hn'=>?_⟩
 ·have x:=c _ _ f;rw[e]at x;cases x
 ·refine⟨rfl,G h' acc' c' (λb o n1 n2 n3 n4 e=>k' b o (Ĩ (lt e)) n1 n2 n3 n4 (c b o e)) hS' hP' λv hv=>?_⟩;rcases hn' v hv with q|⟨T,e,u⟩
  ·exact nomatch q
  ·refine⟨T,e,?_⟩;have:g'.objs.size<=T:=u;lia
end
end PySem
namespace L2
open PySem PySem.Spec PyProof.Rows
section
variable{X:Cx}{pins:List (Addr×Obj)}{σ:L2.St}{H:Hp}{s:Shared}
def Inv.JQ{a:Addr}{o:HO}{i:Hp}{g:Shared}{h:L2.St}(I:Inv X pins σ H s)(f:Inv X pins h i g)(d:↥g<=a)(hn:H a=none)(new:bf X.prog X.w (upd H a o) s.heap a o):Inv X pins σ (upd H a o) s:=by
 have lt:∀{b:Addr}{u:Obj},g.heap.get? b=some u->b≠a:=λe z=>eI (ð (Ó e) d) (by rw[z];exact Ē _);refine I.track hn (λob e=>?_) (Ĩ (ë (ð f.lt d))) (λx c e=>?_) (λp hp=>lt (f.pin p hp).1) new
 ·exact eI (ð (Ó e) (þ f.sz d)) (Ē _)
 ·let⟨v,u,hu,_⟩:=f.cell x c e;exact lt hu
theorem Inv.tuples{C:Hp}{g:Shared}{k:L2.St}(l:Inv X pins k C g):∀(vs:List Value)(ps:List (Value×Value))(i:List (V×V))(H:Hp),Inv X pins σ H s->ItP s.heap vs ps->Paired (λ(q:V×V) (p:Value×Value)=>RelV q.1 p.1/\RelV q.2 p.2) i ps->(∀v∈vs,∃T,v=.ref T/\↥g<=T)->(∀T,↥g<=T->H T=none\/∃xs,H T=some (.tup xs)) ->
  ∃(d:Hp)(j:List V),Inv X pins σ d s/\Same H d/\Vals j vs/\Paired (λw (q:V×V)=>∃t,w=.ref t/\d t=some (.tup [q.1,q.2])) j i/\(∀T,↥g<=T->d T=none\/∃xs,d T=some (.tup xs))/\(∀T,(∀v∈vs,v≠.ref T)->d T=H T)
 |_,_,_,H,I,.nil,.nil,_,hN=>⟨H,[],I,Same.refl _,.nil,.nil,hN,λ_ _=>rfl⟩
 |_,_,_,H,I,.cons (a:=v) (l₁:=vs) (b:=p) (l₂:=ps) r t,.cons (a:=q) (l₁:=i) rq tq,hv,hN=>by
  let⟨T,e,m⟩:=r;subst e;let⟨Q,J,f⟩:=hv _ Í;cases J;have B:Vals [q.1,q.2] [p.1,p.2]:=.cons rq.1 (.cons rq.2 .nil);have okT:∀h:Hp,bf X.prog X.w h s.heap T (.tup [q.1,q.2]):=λh=>⟨by show 2<=sizeLine;decide,[p.1,p.2],B,⟨_,m,rfl,0,rfl⟩⟩
  have key:∃c,Inv X pins σ c s/\Same H c/\c T=some (.tup [q.1,q.2])/\(∀U,↥g<=U->c U=none\/∃xs,c U=some (.tup xs))/\∀U,U≠T->c U=H U:=by
   rcases hN T f with hn|⟨xs,y⟩
   ·refine⟨upd H T (.tup [q.1,q.2]),I.JQ l f hn (okT _),λb u e=>by rw[aj (ak e hn)];exact e,ao,λU hU=>?_,λU hU=>aj hU⟩;by_cases z:U=T
    ·subst z;exact .inr ⟨_,ao⟩
    ·rw[aj z];exact hN U hU
   ·refine⟨H,I,Same.refl _,?_,hN,λ_ _=>rfl⟩;let⟨_,its,L,o,x,hc,n,hd⟩:=I.hok T _ y;rw[m]at x;cases x;cases hd;have:xs=[q.1,q.2]:=Vals.inj (by simpa using L) B;rw[y,this]
  let⟨c,D,M,h1,F,N⟩:=key;let⟨h,j,E,A,P,K,G,O⟩:=Inv.tuples l vs ps i c D t tq (λv hv'=>hv v (É _ hv')) F;refine⟨h,.ref T::j,E,M.trans A,.cons rfl P,.cons ⟨T,rfl,A _ _ h1⟩ K,G,λU hU=>?_⟩;rw[O U λv hv'=>hU v (É _ hv'),N U λz=>hU _ Í (by rw[z])]
def tLZ(K:ã)(a:TA):TE:=λσ H Q=>a σ H λvs H1=>∃p q xs ys,vs=[.ref p,.ref q]/\SqL K H1 p xs/\SqL K H1 q ys/\⇑xs<=1000 /\
 ∀l ws H',Same H1 H'->H1 l=none->H' l=some (.lst ws)->Paired (λw (q:V×V)=>∃t,w=.ref t/\H' t=some (.tup [q.1,q.2])) ws (xs.zip ys)->Q (.ref l) H'
theorem zu:∀{xs ys:List V}{us vs:List Value},Vals xs us->Vals ys vs->Paired (λ(q:V×V) (p:Value×Value)=>RelV q.1 p.1/\RelV q.2 p.2) (xs.zip ys) (us.zip vs)
 |_,_,_,_,.nil,_=>.nil
 |_,_,_,_,.cons _ _,.nil=>.nil
 |_,_,_,_,.cons a b,.cons c d=>.cons ⟨a,c⟩ (zu b d)
def Dd{a b:Zv}{P:TA}{p1 A l c:Pos}(hc:X.calm=true)(hgl:Gl X "list")(r:X.mg "list"=none)(n:Gl X "zip")(x:X.mg "zip"=none)(ha:PA X [a,b] P)(G:Zw [.Call (.Name "zip" A) [a,b] [] c] X.env=[(false,Zx (.Call (.Name "zip" A) [a,b] [] c) X.env)]:=by rfl)(W:Zw [a,b] X.env=(false,Zx a X.env)::Zw [b] X.env:=by rfl)(Y:(Zy c (Zw [b] X.env)).any (·.1)=false:=by rfl) :
  PE X (.Call (.Name "list" p1) [.Call (.Name "zip" A) [a,b] [] c] [] l) (tLZ X.K P):=by
 intro pins s σ H Q I h;refine ų (d7 I hgl r TW ?_);refine Č ?_ G rfl;rw[G];refine Calls.spliced_cons ?_;refine ų (d7 I n x PyProof.Rows.boot_zip ?_);refine Č (thn (ha c pins s σ H _ I h) λus s1 ⟨vs,H1,I1,r1,q1⟩=>?_) W Y;let⟨p,q,xs,ys,rfl,hp,hq,L,k⟩:=q1;let⟨u,u2,rfl,rx,ry⟩:=vals2 r1;cases rx;cases ry;let⟨its,O,B,_⟩:=I1.list hp;let⟨i,C,g,_⟩:=I1.list hq;refine call_zip_2 B.isList g.isList λh' hz hTI hTO hi1 hi2 hsz hk=>?_;refine Calls.spliced_nil ?_;have lp:p<↥s1:=by let⟨o,e,_⟩:=B.isList;exact Ó e
 have lq:q<↥s1:=by let⟨o,e,_⟩:=g.isList;exact Ó e
 have D:=zipApart_new lp lq;have Z:ZSt (↥s1+4) (↥s1+2) (↥s1+3) ↥s1 (↥s1+1) p q its.toArray i.toArray 0 h' :=
  ⟨.inl ⟨rfl,hz⟩,hTI,⟨_,_,hTO⟩,hi1,hi2,B.isList.at λo e=>hk _ o e,g.isList.at λo e=>hk _ o e⟩
 have hl1:=⇑O;refine Jv (s:={ s1 with heap:=h' }) (I1.ok.hd hc) D (by simp;lia) hz Z λh2 acc c2 k2 hS hP hT=>?_;have lt:∀{b:Addr}{o:Obj},s1.heap.get? b=some o->b<↥s1:=λe=>Ó e;have kept:∀b o,s1.heap.get? b=some o->h2.get? b=some o:=λb o e=>by
  have l0:=lt e;have m:∀j,b≠↥s1+j:=λj=>ë (ð l0 (Nat.le_add_right _ _));exact k2 b o (m 4) (m 3) (m 0) (m 1) (hk b o e)
 have S:Inv X pins σ H1 { s1 with heap:=h2 }:=I1.kept (t':=s1.toks) kept;have M:h'.objs.size=↥s1+5:=hsz;let⟨F,E,U,s3,R,N,N3,u3⟩:=Inv.tuples I1 acc.toList _ _ H1 S hP (zu O C) (λv hv=>by
  let⟨T,e,f⟩:=hT v hv;have J:h'.objs.size<T:=f;exact⟨T,e,()⟩) λT hT=>.inl (I1.hok.fresh hT)
 have d:F h'.objs.size=none:=by
  rw[u3 _ λv hv z=>?_]
  ·exact I1.hok.fresh ()
  ·let⟨T,e,f⟩:=hT v hv;rw[z]at e;cases e;exact eI f (Ē _)
 have y:⇑E<=sizeLine:=by
  have:=⇑R;have h24:=ą;have l3:=⇑N;rw[l3,List.length_zip];lia
 have V:Inv X pins σ (upd F h'.objs.size (.lst E)) { s1 with heap:=h2 }:=U.JQ I1 () d ⟨y,acc.toList,c2,R,hS⟩;refine⟨.ref h'.objs.size,_,V,rfl,k h'.objs.size E _ (s3.trans λb u e=>by rw[aj (ak e d)];exact e) (I1.hok.fresh ()) ao (Paired.Ij N λw q ⟨t,e,ht⟩=>⟨t,e,by rw[aj (ak ht d)];exact ht⟩)⟩
end
end L2
namespace Dl
open PySem L2 PyProof.Rows
variable [Gr]
section
variable{X:Cx}{pos:Pos}{a b c e:Zv}{es:List Zv}{ta tb tc te:DE}{t:DA}
def newP(k:Kd)(ds:List D)(P:Kd->Prop):Prop:=(bQ ds=true/\P .new)\/P (k.join .new)
def fD{p:Pn}{d f H g:Hp}{own:Addr->Option Nat}(A:At p d own f H){k:Kd}{vs:List V}{ds:List D}{P:Kd->Prop}{l:Addr}(r:Rps (okK p d own f k) g vs ds)(j:okK p d own f .new l)(hl:g l=some (.lst vs))(h:newP k ds P):∃k',P k'/\Rp (okK p d own f k') g (.ref l) (.list ds):=by
 rcases h with⟨i,h⟩|h
 ·exact⟨_,h,.lst j hl ((Rps.imm r i).mono (λ_ o=>o.elim) (λ_ _ _ e=>e) λ_ _ e=>e)⟩
 ·exact⟨_,h,.lst (cW A (dM k .new).2 j) hl (r.mono (λa o=>cW A (dM k .new).1 o) (λ_ _ _ e=>e) λ_ _ e=>e)⟩
theorem aP:∀l:List Int,bQ (l.map Â)=true
 |[]=>rfl
 |x::l=>by
  show(cM (.int x)&&bQ (l.map Â))=true;rw[aP l];rfl
theorem oX:∀l:List Tie,bQ (l.map pD)=true
 |[]=>rfl
 |x::l=>by
  show(cM (pD x)&&bQ (l.map pD))=true;rw[oX l];rfl
def prD(p:D×D):D:=.tuple [p.1,p.2]
def Xu:GC:=λks P=>match ks with
 |[(k1,.list ds),(k2,.list es)]=>⇑ds<=1000/\newP (k1.join k2) ((ds.zip es).map prD) λk=>P k (.list ((ds.zip es).map prD))
 |_=>False
theorem Rps.zip{ok:Addr->Prop}{H f:Hp}(m:∀{v:V}{d:D},Rp ok H v d->Rp ok f v d):∀{xs ys:List V}{ds es:List D}{g:List V},Rps ok H xs ds->Rps ok H ys es->Paired (λw (q:V×V)=>∃t,w=.ref t/\f t=some (.tup [q.1,q.2])) g (xs.zip ys)->Rps ok f g ((ds.zip es).map prD)
 |_,_,_,_,_,.nil,_,p=>by cases p;exact .nil
 |_,_,_,_,_,.cons _ _,.nil,p=>by cases p;exact .nil
 |_,_,_,_,_,.cons h t,.cons h2 t2,p=>by
  cases p with
  |cons r q =>
   let⟨t',rfl,ht⟩:=r;exact .cons (.tup ht (.cons (m h) (.cons (m h2) .nil))) (Rps.zip m t t2 q)
def Dj{R F f d:Pos}(hc:X.calm=true)(u:X.mg "list"=none)(B:X.mg "zip"=none)(ha:PDA X [a,b] t)(hgl:Gl X "list":=by rfl)(n:Gl X "zip":=by rfl)(j:Zw [.Call (.Name "zip" F) [a,b] [] d] X.env=[(false,Zx (.Call (.Name "zip" F) [a,b] [] d) X.env)]:=by rfl)(m:Zw [a,b] X.env=(false,Zx a X.env)::Zw [b] X.env:=by rfl)(M:(Zy d (Zw [b] X.env)).any (·.1)=false:=by rfl) :
  PD X (.Call (.Name "list" R) [.Call (.Name "zip" F) [a,b] [] d] [] f) (tCl Xu t):=PE.wk (Dd hc hgl u n B ha j m M) (by
 rintro σ H Q ⟨p,i,own,ρ,P,E,t,q⟩;refine⟨p,i,own,ρ,_,E,t,λks vs H1 h A r=>?_⟩;unfold Xu at h;split at h
 ·rename_i C ds D N;let⟨v,w,rfl,S,T⟩:=Kg r;let⟨x,xs,j,V,h1,g⟩:=Rp.aR S;let⟨y,ys,m,W,h2,I⟩:=Rp.aR T;subst j m;refine⟨x,y,xs,ys,rfl,SqL.of h1,SqL.of h2,by rw[⇑g];exact h.1,λl ws H' sm hl hl' hp=>?_⟩;have K:Kp p H1 H':=Kp.of sm;have O:p.PI H':=p.mono H1 H' A.pen λb o _ e=>sm b o e;have J:=dM C D;have L:∀{k:Kd},k.le (C.join D)=true->∀{vs ds},Rps (okK p i own H k) H1 vs ds->Rps (okK p i own H (C.join D)) H1 vs ds:=λhk _ _ z=>z.mono (λa o=>cW A hk o) (λ_ _ _ e=>e) λ_ _ e=>e;let⟨U,s,G⟩:=fD A (Rps.zip (λz=>gb A K z) (L J.1 g) (L J.2 I) hp) (A.free hl) hl' h.2;exact q _ _ _ _ s (A.go K O) G
 ·exact h.elim)
def tCh(f g:Int->Int->Bool)(ta tb tc:DE):DE:=λρ P=>ta ρ λ_ d1=>tb ρ λ_ d2=>match d1,d2 with
 |.int i,.int j=>if f i j=true then tc ρ λ_ d3=>(match d3 with
   |.int l=>P .imm (.bool (g j l))
   |_=>False)else P .imm (.bool false)
 |_,_=>False
def Gz{f g:Int->Int->Bool}:∀σ H Q,aK (tCh f g ta tb tc) σ H Q->rK (rI0 λi j=>.bl (f i j)) (rI0 λi j=>.bl (g i j)) (aK ta) (aK tb) (aK tc) σ H Q:=by
 rintro σ H Q ⟨p,d,own,ρ,P,E,t,q⟩;refine⟨p,d,own,ρ,_,E,t,λk1 d1 v1 H1 t1 A1 r1=>?_⟩;refine⟨p,d,own,ρ,_,E.go A1.kp A1.pen,t1,λk2 d2 v2 H2 t2 A2 r2=>?_⟩;have A:=A1.base A2;split at t2
 ·rename_i i j;refine⟨i,j,r1.int',r2.int',_,rfl,?_⟩;cases h:f i j with
  |true =>
   rw[h,eD rfl]at t2;refine au ⟨p,d,own,ρ,_,(E.go A1.kp A1.pen).go A2.kp A2.pen,t2,λk3 d3 v3 H3 t3 A3 r3=>?_⟩;cases d3 with
   |int l=>exact⟨j,l,r2.int',r3.int',q _ _ _ _ t3 (A.base A3) (.bl _)⟩
   |_=>exact t3.elim
  |false =>
   rw[h,eH Ð]at t2;exact aA (q _ _ _ _ t2 A (.bl _))
 ·exact t2.elim
def PK(ha:PD X a ta)(hb:PD X b tb)(hc:PD X c tc)(hm:YR [.LtE,.Lt] [b,c]=false:=by with_unfolding_all rfl):PD X (.Compare a [.LtE,.Lt] [b,c] pos) (tCh (λi j=>decide (i<=j)) (λi j=>decide (i<j)) ta tb tc):=PE.wk (K5 K9 Ab ha hb hc hm) Gz
def jN{f d:ZK}{r i:R2}{g:DE}(h:PT X (.Compare a [f,d] [b,c] pos) (JV (rK r i (aK ta) (aK tb) (aK tc))))(w:∀σ H Q,aK g σ H Q->rK r i (aK ta) (aK tb) (aK tc) σ H Q):PDT X (.Compare a [f,d] [b,c] pos) (cU g) :=
 PT.wk h λσ H Q q=>w σ H _ (tX σ H Q q)
def Rh(ta:DE):DE:=λρ P=>ta ρ λ_ d=>match d with
 |.bool b=>P .imm (.bool (!b))
 |_=>False
theorem sS(ha:PD X a ta):PD X (.UnaryOp .Not a pos) (Rh ta):=PE.wk (Uh ha) (by
 rintro σ H Q ⟨p,f,own,ρ,P,E,t,q⟩;refine⟨p,f,own,ρ,_,E,t,λk d v H' h A r=>?_⟩;cases d with
 |bool b=>exact⟨b,r.bl',q _ _ _ _ h A (.bl _)⟩
 |_=>exact h.elim)
def FJ(ta tb:DE):DE:=λρ P=>ta ρ λ_ d=>match d with
 |.bool b=>if b=true then tb ρ P else P .imm (.bool false)
 |_=>False
def sO{op}(h:PD X a ta):PD X (.BoolOp op [a] pos) ta:=Ug h
theorem sX{rest:List Zv}(ha:PD X a ta)(hb:PD X (.BoolOp .And (b::rest) pos) tb):PD X (.BoolOp .And (a::b::rest) pos) (FJ ta tb):=PE.wk (Um ha hb) (by
 rintro σ H Q ⟨p,f,own,ρ,P,E,t,q⟩;refine⟨p,f,own,ρ,_,E,t,λk d v H' h A r=>?_⟩;cases d with
 |bool b =>
  refine⟨b,r.bl',?_⟩;cases b with
  |true=>exact au ⟨p,f,own,ρ,P,E.go A.kp A.pen,by simpa using h,λk d v H2 h2 A2 r2=>q k d v H2 h2 (A.base A2) (lK A r2)⟩
  |false=>exact aA (q _ _ _ _ (by simpa using h) A (.bl _))
 |_=>exact h.elim)
def Ti(tc:DT)(ta tb:DE):DE:=λρ P=>tc ρ λb=>if b=true then ta ρ P else tb ρ P
theorem lZ{u:DT}(hc:PDT X c u)(ha:PD X a ta)(hb:PD X b tb):PD X (.IfExp c a b pos) (Ti u ta tb):=PE.wk (K3 hc ha hb) (by
 rintro σ H Q ⟨p,f,own,ρ,P,E,t,q⟩;refine⟨p,f,own,ρ,_,E,t,λb H' h A=>?_⟩;have g:∀k d v H2,P k d->At p f own H' H2->Rp (okK p f own H' k) H2 v d->Q v H2:=λk d v H2 h2 A2 r2=>q k d v H2 h2 (A.base A2) (lK A r2);cases b with
 |true=>exact au ⟨p,f,own,ρ,P,E.go A.kp A.pen,by simpa using h,g⟩
 |false=>exact aA ⟨p,f,own,ρ,P,E.go A.kp A.pen,by simpa using h,g⟩)
def tyD:D->String
 |.none=>"NoneType"
 |.bool _=>"bool"
 |.int _=>"int"
 |.str _=>"str"
 |.list _=>"list"
 |.tuple _=>"tuple"
 |.dict _=>"dict"
def isT(c:String)(d:D):Bool:=tyD d==c || (c=="int"&&tyD d=="bool")
def tIs(c:String)(te:DE):DE:=λρ P=>te ρ λ_ d=>P .imm (.bool (isT c d))
def gA{T:String}{x:Str}{ps g:Pos}(hk:∀t:Value,(t=.type "NoneType"\/t=.type "bool"\/t=.type "int"\/t=.type "str"\/t=.type "list"\/t=.type "tuple"\/t=.type "dict")->∃n,t=.type n/\W.kitOne X.K t (.type T)=some (n==T || (T=="int"&&n=="bool")))(hm:X.mg "isinstance"=none)(he:PD X e te)(s:PE X (.Name x g) (tC (.ty T)))(hg:Gl X "isinstance":=by rfl)(h1:Zw [e,.Name x g] X.env=(false,Zx e X.env)::Zw [.Name x g] X.env:=by rfl)(h2:Zw [.Name x g] X.env=(false,Zx (.Name x g) X.env)::Zw [] X.env:=by rfl)(hpl:(Zy pos (Zw [.Name x g] X.env)).any (·.1)=false:=by rfl) :
  PD X (.Call (.Name "isinstance" ps) [e,.Name x g] [] pos) (tIs T te):=PE.wk (dg yQ hg hm boot_isinstance (bU he (bU s eY h2) h1) ∅ ∅ h1 hpl) (by
 rintro σ H Q ⟨p,m,own,ρ,P,E,t,q⟩;refine⟨p,m,own,ρ,_,E,t,λk d v H' h A r=>?_⟩;have f:∀n,TyOf X.K H' v (.type n)->n=tyD d->∃x' c' t' b,[v,V.ty T]=[x',.ty c']/\TyOf X.K H' x' t'/\W.kitOne X.K t' (.type c')=some b/\Q (.bl b) H':=λn ty en=>by
  let⟨u,e,j⟩:=hk (.type n) (by rw[en];cases d <;> simp[tyD]);cases e;refine⟨v,T,.type n,_,rfl,ty,j,?_⟩;rw[en];exact q _ _ _ _ h A (.bl _)
 show ∃x' c' t' b,_/\_;cases r with
 |non=>exact f _ .non rfl
 |bl b=>exact f _ (.bl b) rfl
 |int i=>exact f _ (.int i) rfl
 |str x=>exact f _ (.str x) rfl
 |lst o hh l=>exact f _ (.lst hh) rfl
 |tup hh l=>exact f _ (.tup hh) rfl
 |dct o hh l=>exact f _ (.dK hh) rfl)
def GX{K:ã}:∀t:Value,(t=.type "NoneType"\/t=.type "bool"\/t=.type "int"\/t=.type "str"\/t=.type "list"\/t=.type "tuple"\/t=.type "dict")->∃n,t=.type n/\W.kitOne K t (.type "int")=some (n=="int" || ("int"=="int"&&n=="bool")):=by
 rintro t (rfl|rfl|rfl|rfl|rfl|rfl|rfl) <;> exact⟨_,rfl,rfl⟩
def uc{K:ã}:∀t:Value,(t=.type "NoneType"\/t=.type "bool"\/t=.type "int"\/t=.type "str"\/t=.type "list"\/t=.type "tuple"\/t=.type "dict")->∃n,t=.type n/\W.kitOne K t (.type "bool")=some (n=="bool" || ("bool"=="int"&&n=="bool")):=by
 rintro t (rfl|rfl|rfl|rfl|rfl|rfl|rfl) <;> exact⟨_,rfl,rfl⟩
def mY{K:ã}:∀t:Value,(t=.type "NoneType"\/t=.type "bool"\/t=.type "int"\/t=.type "str"\/t=.type "list"\/t=.type "tuple"\/t=.type "dict")->∃n,t=.type n/\W.kitOne K t (.type "list")=some (n=="list" || ("list"=="int"&&n=="bool")):=by
 rintro t (rfl|rfl|rfl|rfl|rfl|rfl|rfl) <;> exact⟨_,rfl,rfl⟩
def kit_tuple{K:ã}:∀t:Value,(t=.type "NoneType"\/t=.type "bool"\/t=.type "int"\/t=.type "str"\/t=.type "list"\/t=.type "tuple"\/t=.type "dict")->∃n,t=.type n/\W.kitOne K t (.type "tuple")=some (n=="tuple" || ("tuple"=="int"&&n=="bool")):=by
 rintro t (rfl|rfl|rfl|rfl|rfl|rfl|rfl) <;> exact⟨_,rfl,rfl⟩
def GR{K:ã}:∀t:Value,(t=.type "NoneType"\/t=.type "bool"\/t=.type "int"\/t=.type "str"\/t=.type "list"\/t=.type "tuple"\/t=.type "dict")->∃n,t=.type n/\W.kitOne K t (.type "str")=some (n=="str" || ("str"=="int"&&n=="bool")):=by
 rintro t (rfl|rfl|rfl|rfl|rfl|rfl|rfl) <;> exact⟨_,rfl,rfl⟩
def Vp:GC:=λks P=>match ks with
 |[(_,.list ds)]=>∃bs:List Bool,ds=bs.map PyData.bool/\P .imm (.bool (bs.all id))
 |_=>False
theorem Rps.bools{ok:Addr->Prop}{H:Hp}:∀{vs:List V}{d:List Bool},Rps ok H vs (d.map PyData.bool)->vs=d.map V.bl
 |[],[],_=>rfl
 |_,b::d,.cons h t=>by
  have e:=h.bl';subst e;rw[Rps.bools t];rfl
def oA{ps:Pos}(hc:X.calm=true)(hm:X.mg "all"=none)(hv:Zs "all"=some (.builtin "all"))(ha:PDA X [a] t)(hg:Gl X "all":=by rfl)(he:zS X a []:=by rfl)(hpl:zP X pos []:=by rfl):PD X (.Call (.Name "all" ps) [a] [] pos) (tCl Vp t) :=
 cj (Jp hc) (by
  intro p j own k H vs ks P Q A r t q;unfold Vp at t;split at t
  ·let⟨f,rfl,t⟩:=t;let⟨v,rfl,i⟩:=cJ r;let⟨x,xs,g,l,h1,d⟩:=Rp.aR i;subst g;have h:=Rps.bools d;subst h;exact⟨x,f,rfl,SqL.of h1,q _ _ _ _ t Kp.refl A.pen (.bl _)⟩
  ·exact t.elim) hg hm hv ha ∅ ∅ he hpl
def gMM(f:Int->Int->Int):GC:=λks P=>match ks with
 |[(_,.int i),(_,.int j)]=>P .imm (.int (f i j))
 |_=>False
def qO{ps:Pos}(hc:X.calm=true)(hm:X.mg "max"=none)(ha:PDA X [a,b] t)(hg:Gl X "max":=by rfl)(he:Zw [a,b] X.env=(false,Zx a X.env)::Zw [b] X.env:=by rfl)(hpl:(Zy pos (Zw [b] X.env)).any (·.1)=false:=by rfl):PD X (.Call (.Name "max" ps) [a,b] [] pos) (tCl (gMM λi j=>if j > i then j else i) t) :=
 cj (Jl hc) (by
  intro p g own h H vs ks P Q A r t q;unfold gMM at t;split at t
  ·rename_i k i l j;let⟨v,w,rfl,d,f⟩:=Kg r;rw[Rp.int' d,Rp.int' f];exact⟨i,j,rfl,q _ _ _ _ t Kp.refl A.pen (.int _)⟩
  ·exact t.elim) hg hm boot_max ha ∅ ∅ he hpl
def QM:GC:=λks P=>match ks with
 |[(k,.list ds)]=>newP k ds λk'=>P k' (.list ds)
 |[(k,.tuple ds)]=>newP k ds λk'=>P k' (.list ds)
 |_=>False
def qP{ps:Pos}(hm:X.mg "list"=none)(ha:PDA X [a] t)(hg:Gl X "list":=by rfl)(he:zS X a []:=by rfl)(hpl:zP X pos []:=by rfl):PD X (.Call (.Name "list" ps) [a] [] pos) (tCl QM t) :=
 jg yP (by
  intro p o own s H vs ks P Q A r t q;have f:∀{k ds xs},Rps (okK p o own s k) H xs ds->newP k ds (λm=>P m (.list ds))->∀l,H l=none->Q (.ref l) (upd H l (.lst xs)):=λ{k ds xs} rs t l hl=>by
   let⟨n,u,w⟩:=A.new hl (.lst xs);let⟨m,h,j⟩:=fD A (cg A n rs) w ao t;exact q _ _ _ _ h n u j
  unfold QM at t;split at t
  ·let⟨v,rfl,i⟩:=cJ r;let⟨x,xs,g,y,h1,d⟩:=Rp.aR i;subst g;exact⟨x,xs,rfl,.inl (SqL.of h1),f d t⟩
  ·let⟨v,rfl,i⟩:=cJ r;let⟨x,xs,g,h1,d⟩:=Rp.dX i;subst g;exact⟨x,xs,rfl,.inr (SqT.of h1),f d t⟩
  ·exact t.elim) hg hm TW ha ∅ ∅ he hpl
def Mv:GC:=λks P=>match ks with
 |[(k,.list ds)]=>P (norm k (.tuple ds)) (.tuple ds)
 |[(k,.tuple ds)]=>P (norm k (.tuple ds)) (.tuple ds)
 |_=>False
def gW{ps:Pos}(hm:X.mg "tuple"=none)(ha:PDA X [a] t)(hg:Gl X "tuple":=by rfl)(he:zS X a []:=by rfl)(hpl:zP X pos []:=by rfl):PD X (.Call (.Name "tuple" ps) [a] [] pos) (tCl Mv t) :=
 jg u9 (by
  intro p j own m H vs ks P Q A r t q;unfold Mv at t;split at t
  ·rename_i k ds;let⟨v,rfl,f⟩:=cJ r;let⟨x,xs,g,o,h1,d⟩:=Rp.aR f;subst g;refine⟨x,xs,rfl,.inl ⟨SqL.of h1,λl hl=>?_⟩⟩;let⟨h,i,n⟩:=A.new hl (.tup xs);exact q _ _ _ _ t h i (aX (.tup ao (cg A h d)))
  ·rename_i k ds;let⟨v,rfl,f⟩:=cJ r;let⟨x,xs,g,h1,d⟩:=Rp.dX f;subst g;exact⟨x,xs,rfl,.inr ⟨SqT.of h1,q _ _ _ _ t Kp.refl A.pen (aX f)⟩⟩
  ·exact t.elim) hg hm TZ ha ∅ ∅ he hpl
def Eh:GC:=λks P=>match ks with
 |[(_,.list ds)]=>∃ns:List Int,ds=ns.map Â/\⇑ns<64/\∀out:List Int,out.Perm ns->out.Pairwise (·<=·)->P .new (.list (out.map Â))
 |_=>False
def gn{ps:Pos}(hm:X.mg "sorted"=none)(ha:PDA X [a] t)(hg:Gl X "sorted":=by rfl)(he:zS X a []:=by rfl)(hpl:zP X pos []:=by rfl):PD X (.Call (.Name "sorted" ps) [a] [] pos) (tCl Eh t) :=
 cj yN (by
  intro p n own o H vs ks P Q A r t q;unfold Eh at t;split at t
  ·let⟨ns,rfl,hl,t⟩:=t;let⟨v,rfl,m⟩:=cJ r;let⟨x,xs,f,s,h1,d⟩:=Rp.aR m;subst f;have g:=Rps.ints d;subst g;refine⟨x,ns,rfl,SqL.of h1,hl,λl out hl' hp hs=>?_⟩;let⟨j,h,k⟩:=A.new hl' (.lst (out.map V.int));exact q _ _ _ _ (t out hp hs) j h (.lst k ao (Rps.ofMap (λi=>.int i) out))
  ·exact t.elim) hg hm T0 ha ∅ ∅ he hpl
def Ef:GC:=λks P=>match ks with
 |[(_,d)]=>∃ts:List Tie,(d=.list (ts.map pD)\/d=.tuple (ts.map pD))/\⇑ts<64/\(∀t∈ts,Cd t)/\∀us:List Tie,us.Perm ts->us.Pairwise (λa b=>aW a<=aW b)->P .new (.list (us.map pD))
 |_=>False
theorem Rps.prs{ok:Addr->Prop}{H:Hp}:∀{vs:List V}{ts:List Tie},Rps ok H vs (ts.map pD)->Prs H vs ts
 |[],[],_=>.nil
 |_,t::ts,.cons h r=>by
  let⟨x,xs,e,d,j⟩:=Rp.dX h;let⟨k,l,f,g,i⟩:=Rps.two j;subst e f;rw[g.int',i.int']at d;exact .cons ⟨x,rfl,d⟩ (Rps.prs r)
theorem Prs.rps{ok:Addr->Prop}{H:Hp}:∀{vs:List V}{ts:List Tie},Prs H vs ts->Rps ok H vs (ts.map pD)
 |_,_,.nil=>.nil
 |_,_,.cons r t=>by
  let⟨x,e,d⟩:=r;subst e;exact .cons (.tup d (.cons (.int _) (.cons (.int _) .nil))) (Prs.rps t)
def sI{ps:Pos}(hm:X.mg "sorted"=none)(ha:PDA X [a] t)(hg:Gl X "sorted":=by rfl)(he:zS X a []:=by rfl)(hpl:zP X pos []:=by rfl):PD X (.Call (.Name "sorted" ps) [a] [] pos) (tCl Ef t) :=
 cj yM (by
  intro p m own n H vs ks P Q A r t q;unfold Ef at t;split at t
  ·let⟨ts,hd,hl,hn,t⟩:=t;let⟨v,rfl,i⟩:=cJ r;have f:∀l ws us,H l=none->Prs H ws us->us.Perm ts->us.Pairwise (λa b=>aW a<=aW b)->Q (.ref l) (upd H l (.lst ws)):=λl ws us hl' pr hp hs=>by
    let⟨h,j,k⟩:=A.new hl' (.lst ws);exact q _ _ _ _ (t us hp hs) h j (.lst k ao (cg A h (Prs.rps pr)))
   rcases hd with rfl|rfl
   ·let⟨x,xs,g,o,h1,d⟩:=Rp.aR i;subst g;exact⟨x,xs,ts,rfl,.inl (SqL.of h1),Rps.prs d,hn,.inl hl,f⟩
   ·let⟨x,xs,g,h1,d⟩:=Rp.dX i;subst g;exact⟨x,xs,ts,rfl,.inr (SqT.of h1),Rps.prs d,hn,.inl hl,f⟩
  ·exact t.elim) hg hm T0 ha ∅ ∅ he hpl
end
variable [Gr]
section
variable{X:Cx}{pins:List (Addr×Obj)}{σ:L2.St}{H:Hp}{s:Shared}{ok:Addr->Prop}
mutual
theorem Rp.reads(I:Inv X pins σ H s):∀{v:V}{d:D}{u:Value},Rp ok H v d->RelV v u->d.canLay0=true->∃as,T1 s.heap u d as
 |_,_,_,.non,r,_=>by cases r;exact⟨_,.none⟩
 |_,_,_,.bl b,r,_=>by cases r;exact⟨_,.bool b⟩
 |_,_,_,.int i,r,_=>by let⟨t,rfl⟩:=r;exact⟨_,.int i t⟩
 |_,_,_,.str x,r,_=>by let⟨t,rfl⟩:=r;exact⟨_,.str x t⟩
 |_,_,_,.lst o h rs,r,c=>by
  cases r;let⟨its,g,e,_⟩:=I.list (SqL.of h);let⟨as,f⟩:=Rps.reads I rs g (by simpa[PyData.canLay0]using c);let⟨j,a,hc,n,hd⟩:=e.isList;exact⟨_,.list a hc hd (by simpa using f)⟩
 |_,_,_,.tup h rs,r,c=>by
  cases r;let⟨its,g,e,_⟩:=I.tuple (SqT.of h);let⟨as,f⟩:=Rps.reads I rs g (by simpa[PyData.canLay0]using c);let⟨j,a,hc,n,hd⟩:=e;exact⟨_,.tuple a hc hd (by simpa using f)⟩
 |_,_,_,.dct o h rs,r,c=>by simp[PyData.canLay0]at c
theorem Rps.reads(I:Inv X pins σ H s):∀{v:List V}{d:List D}{u:List Value},Rps ok H v d->Vals v u->Ď d=true->∃as,T2 s.heap u d as
 |_,_,_,.nil,r,_=>by cases r;exact⟨[],.nil⟩
 |_,_,_,.cons h t,r,c=>by
  cases r with
  |cons a b =>
   simp only[Ď,Ï]at c;let⟨as,e⟩:=Rp.reads I h a c.1;let⟨g,f⟩:=Rps.reads I t b c.2;exact⟨_,.cons e f⟩
end
end
def okD(d:D):Bool:=d.canLay0&&decide (d.depth<=60)
section
variable{X:Cx}{pos:Pos}{a b e:Zv}{ta tb te:DE}
def Kr(K:ã)(neg:Bool):R2:=λx y H Q=>∃ok ok' d e,Rp ok H x d/\Rp ok' H y e/\okD d=true/\okD e=true/\Q (.bl (if neg then !(Ü d e)else Ü d e)) H
def Ld(hu:X.A.units+64<YV):OpR X (ZL .Eq) (Kr X.K false):=by
 intro g s σ H x y v u Q I k l h;let⟨ok,ok',d,e,hd,he,c,f,q⟩:=h;simp only[okD,Ï,eC]at c f;let⟨as,i⟩:=hd.reads I k c.1;let⟨m,j⟩:=he.reads I l f.1;exact SeqAt.compareEq_reads i j c.1 f.1 () ⟨.bl _,H,I,rfl,q⟩
def Uv(hu:X.A.units+64<YV):OpR X (ZL .NotEq) (Kr X.K true):=by
 intro g s σ H x y v u Q I k l h;let⟨ok,ok',d,e,hd,he,c,f,q⟩:=h;simp only[okD,Ï,eC]at c f;let⟨as,i⟩:=hd.reads I k c.1;let⟨m,j⟩:=he.reads I l f.1;exact SeqAt.compareNe_reads i j c.1 f.1 () ⟨.bl _,H,I,rfl,q⟩
def Xw(neg:Bool):G2:=λ_ d1 _ d2 P=>okD d1=true/\okD d2=true/\P .imm (.bool (if neg then !(Ü d1 d2)else Ü d1 d2))
def Rz{K:ã}(neg:Bool):Ok2 (Xw neg) (Kr K neg):=by
 intro p h own i H x y j c k d P Q A f g t q;exact⟨_,_,c,d,f,g,t.1,t.2.1,q _ _ _ _ t.2.2 Kp.refl A.pen (.bl _)⟩
def eqP(x:D)(h:Zi)(u:Value):Bool:=by
 classical
 exact decide (∃d as,T1 h u d as/\Ü d x=true)
def Tz(neg:Bool):R2:=λx y H Q=>∃ok ok' d es,Rp ok H x d/\(Rp ok' H y (.list es)\/Rp ok' H y (.tuple es))/\okD d=true/\(es.all okD)=true/\Q (.bl (if neg then !(es.any λe=>Ü e d)else es.any λe=>Ü e d)) H
def Ni{x:D}{h:Zi}{u:Value}{d:D}{as:List Addr}(r:T1 h u d as):eqP x h u=Ü d x:=by
 classical
 unfold eqP;rw[Ė,eC];constructor
 ·rintro⟨d',c,f,e⟩;rw[(r.unique d' c f).1];exact e
 ·exact λe=>⟨d,as,r,e⟩
theorem nP{x:D}{h:Zi}:∀{us:List Value}{ds:List D}{as:List Addr},T2 h us ds as->us.any (eqP x h)=ds.any λe=>Ü e x
 |_,_,_,.nil=>rfl
 |_,_,_,.cons a b=>by
  rw[ź,ź,Ni a,nP b]
theorem mV{A:Zt}{s:Shared}{x:D}{v:Value}{j:List Addr}(i:T1 s.heap v x j)(g:okD x=true)(hu:A.units+60<YV):∀{us:List Value}{ds:List D}{as:List Addr},T2 s.heap us ds as->ds.all okD=true->∀u∈us,SeqAt.EqAt A s u v (eqP x s.heap u)
 |_,_,_,.nil,_,u,f=>nomatch f
 |_,d::ds,_,.cons a b,c,u,f=>by
  simp only[Ż,Ï]at c;rcases Þ.mp f with rfl|f
  ·rw[Ni a];have h:=c.1;simp only[okD,Ï,eC]at h g;exact SeqAt.eqAt_reads _ _ A s _ _ _ _ a i h.1 g.1 ()
  ·exact mV i g hu b c.2 u f
def mZ{A:Zt}(hu:A.units+64<YV):A.in1.units+60<YV:=by
 have:A.in1.units<=A.units+1:=by first|exact Õ _|exact ō _|(unfold Around.in1;simp)
 lia
theorem fL:∀{es:List D},es.all okD=true->Ď es=true
 |[],_=>rfl
 |e::es,h=>by
  simp only[Ż,Ï,okD]at h;simp only[Ď,Ï];exact⟨h.1.1,fL h.2⟩
def Lb(hu:X.A.units+64<YV):OpR X (ZL .In) (Tz false):=by
 intro m s σ H x y v u Q I z p h;let⟨ok,ok',d,es,hd,hs,j,i,q⟩:=h;have f:=j;simp only[okD,Ï,eC]at f;let⟨B,n⟩:=hd.reads I z f.1;rcases hs with hs|hs
 ·let⟨c,vs,rfl,o,hc,l⟩:=hs.aR;cases p;let⟨its,r,k,t⟩:=I.list (SqL.of hc);let⟨as,g⟩:=l.reads I r (fL i);refine SeqAt.in_listAt (eqP d s.heap) k.isList (λw hw=>mV n j (mZ hu) g i w (by simpa using hw)) ⟨.bl _,H,I,rfl,?_⟩;rw[show its.toArray.any (eqP d s.heap)=its.any (eqP d s.heap) by simp,nP g];exact q
 ·let⟨c,vs,rfl,hc,l⟩:=hs.dX;cases p;let⟨its,r,k,t⟩:=I.tuple (SqT.of hc);let⟨as,g⟩:=l.reads I r (fL i);refine SeqAt.in_tupleAt (eqP d s.heap) k (λw hw=>mV n j (mZ hu) g i w (by simpa using hw)) ⟨.bl _,H,I,rfl,?_⟩;rw[show its.toArray.any (eqP d s.heap)=its.any (eqP d s.heap) by simp,nP g];exact q
def vH(hu:X.A.units+64<YV):OpR X (ZL .NotIn) (Tz true):=by
 intro m s σ H x y v u Q I z p h;let⟨ok,ok',d,es,hd,hs,j,i,q⟩:=h;have f:=j;simp only[okD,Ï,eC]at f;let⟨B,n⟩:=hd.reads I z f.1;rcases hs with hs|hs
 ·let⟨c,vs,rfl,o,hc,l⟩:=hs.aR;cases p;let⟨its,r,k,t⟩:=I.list (SqL.of hc);let⟨as,g⟩:=l.reads I r (fL i);refine SeqAt.notIn_listAt (eqP d s.heap) k.isList (λw hw=>mV n j (mZ hu) g i w (by simpa using hw)) ⟨.bl _,H,I,rfl,?_⟩;rw[show its.toArray.any (eqP d s.heap)=its.any (eqP d s.heap) by simp,nP g];exact q
 ·let⟨c,vs,rfl,hc,l⟩:=hs.dX;cases p;let⟨its,r,k,t⟩:=I.tuple (SqT.of hc);let⟨as,g⟩:=l.reads I r (fL i);refine SeqAt.notIn_tupleAt (eqP d s.heap) k (λw hw=>mV n j (mZ hu) g i w (by simpa using hw)) ⟨.bl _,H,I,rfl,?_⟩;rw[show its.toArray.any (eqP d s.heap)=its.any (eqP d s.heap) by simp,nP g];exact q
def gIn(neg:Bool):G2:=λ_ d1 _ d2 P=>match d2 with
 |.list es=>okD d1=true/\es.all okD=true/\P .imm (.bool (if neg then !(es.any λe=>Ü e d1)else es.any λe=>Ü e d1))
 |.tuple es=>okD d1=true/\es.all okD=true/\P .imm (.bool (if neg then !(es.any λe=>Ü e d1)else es.any λe=>Ü e d1))
 |_=>False
def okIn(neg:Bool):Ok2 (gIn neg) (Tz neg):=by
 intro p h own i H x y j c k g P Q A d f t q;cases g with
 |list es=>exact⟨_,_,c,es,d,.inl f,t.1,t.2.1,q _ _ _ _ t.2.2 Kp.refl A.pen (.bl _)⟩
 |tuple es=>exact⟨_,_,c,es,d,.inr f,t.1,t.2.1,q _ _ _ _ t.2.2 Kp.refl A.pen (.bl _)⟩
 |_=>exact t.elim
def vG(hu:X.A.units+64<YV)(ha:PD X a ta)(hb:PD X b tb)(hm:ZM .In b=false:=by rfl):PD X (.Compare a [.In] [b] pos) (t2 (gIn false) ta tb):=ou (Lb hu) (okIn false) ha hb hm
def eX(hu:X.A.units+64<YV)(ha:PD X a ta)(hb:PD X b tb)(hm:ZM .NotIn b=false:=by rfl):PD X (.Compare a [.NotIn] [b] pos) (t2 (gIn true) ta tb):=ou (vH hu) (okIn true) ha hb hm
def eU(hu:X.A.units+64<YV)(ha:PD X a ta)(hb:PD X b tb)(hm:ZM .In b=false:=by rfl):PDT X (.Compare a [.In] [b] pos) (cU (t2 (gIn false) ta tb)):=dJ (Lb hu) (okIn false) ha hb hm
def oh(hu:X.A.units+64<YV)(ha:PD X a ta)(hb:PD X b tb)(hm:ZM .NotIn b=false:=by rfl):PDT X (.Compare a [.NotIn] [b] pos) (cU (t2 (gIn true) ta tb)):=dJ (vH hu) (okIn true) ha hb hm
variable [Gr]
section
variable{X:Cx}{pos p2:Pos}{a b c e:Zv}{es:List Zv}{ta tb tc te:DE}{t:DA}{st:ZH}
abbrev DO:=List Sl->(Option Int->Prop)->Prop
def tY(t:DO):TO:=λσ H Q=>∃p H0 own ρ P,EnvD p H0 own σ H ρ/\t ρ P/\∀o H',P o->At p H0 own H H'->Q o H'
def PO.wk{e:Option Zv}{t t':TO}(h:PO X e t)(w:∀σ H Q,t' σ H Q->t σ H Q):PO X e t':=λpins s σ H Q I q=>h pins s σ H Q I (w σ H Q q)
def RK:DO:=λ_ P=>P none
def RJ(te:DE):DO:=λρ P=>te ρ λ_ d=>match d with
 |.int i=>P (some i)
 |_=>False
def dB:PO X none (tY RK):=PO.wk Ph (by
 rintro σ H Q ⟨p,d,own,ρ,P,E,t,q⟩;exact q _ _ t E.at)
theorem nF(h:PD X e te):PO X (some e) (tY (RJ te)):=PO.wk (Pg h) (by
 rintro σ H Q ⟨p,f,own,ρ,P,E,t,q⟩;refine⟨p,f,own,ρ,_,E,t,λk d v H' h A r=>?_⟩;cases d with
 |int i=>exact⟨i,r.int',q _ _ h A⟩
 |_=>exact h.elim)
def cD{α:Type}(ds:List α)(d hi:Option Int):List α:=(ds.drop (HT.sIx ⇑ds 0 d)).take (HT.sIx ⇑ds ⇑ds hi - HT.sIx ⇑ds 0 d)
def Rps.cut{ok:Addr->Prop}{H:Hp}{vs:List V}{ds:List D}(r:Rps ok H vs ds)(d hi:Option Int):Rps ok H (uK vs d hi) (cD ds d hi):=by
 unfold uK cD;rw[⇑r];exact(r.drop _).take _
def Yu(te:DE)(g f:DO):DE:=λρ P=>te ρ λk d=>g ρ λlo=>f ρ λhi=>match d with
 |.list ds=>newP k (cD ds lo hi) λk'=>P k' (.list (cD ds lo hi))
 |_=>False
theorem K6{n hi:Option Zv}{u s:DO}(he:PD X e te)(hl:PO X n (tY u))(hh:PO X hi (tY s)):PD X (.Subscript e (.Slice n hi none p2) pos) (Yu te u s):=PE.wk (zZ Ga he hl hh) (by
 rintro σ H Q ⟨p,g,own,ρ,P,E,t,q⟩;refine⟨p,g,own,ρ,_,E,t,λk d v H1 h A r=>?_⟩;refine⟨p,g,own,ρ,_,E.go A.kp A.pen,h,λo1 H2 h2 A2=>?_⟩;refine⟨p,g,own,ρ,_,(E.go A.kp A.pen).go A2.kp A2.pen,h2,λo2 H3 h3 A3=>?_⟩;have f:=(A.base A2).base A3;have B:=gb (A.base A2) A3.kp (gb A A2.kp r);cases d with
 |list ds =>
  let⟨x,xs,w,o,h1,C⟩:=Rp.aR B;subst w;refine⟨x,xs,rfl,SqL.of h1,λl hl=>?_⟩;let⟨m,y,z⟩:=f.new hl (.lst (uK xs o1 o2));let⟨D,i,j⟩:=fD f (cg f m (C.cut o1 o2)) z ao h3;exact q _ _ _ _ i (f.go m y) j
 |_=>exact h3.elim)
def Vn:G2:=λk1 d1 k2 d2 P=>match d1,d2 with
 |.list ds,.list es=>⇑ds+⇑es<=1000/\newP (k1.join k2) (ds++es) λk=>P k (.list (ds++es))
 |_,_=>False
def W7:Ok2 Vn Wv:=by
 intro p r own s H x y h J i K P Q A G I t q;unfold Vn at t;split at t
 ·let⟨v,xs,B,M,h1,d⟩:=G.aR;let⟨w,ys,C,N,h2,f⟩:=I.aR;subst B C;have D:=ą;refine⟨v,w,xs,ys,rfl,rfl,h1,h2,by rw[⇑d,⇑f];lia,λl hl=>?_⟩;let⟨u,E,F⟩:=A.new hl (.lst (xs++ys));have j:=dM h i;have m:∀{k vs ds},k.le (h.join i)=true->Rps (okK p r own s k) H vs ds->Rps (okK p r own s (h.join i)) H vs ds:=λhk z=>z.mono (λa o=>cW A hk o) (λ_ _ _ e=>e) λ_ _ e=>e;let⟨L,g,n⟩:=fD A (cg A u ((m j.1 d).app (m j.2 f))) F ao t.2;exact q _ _ _ _ g u E n
 ·exact t.elim
def MN:G2:=λk1 d1 k2 d2 P=>match d1,d2 with
 |.tuple ds,.tuple es=>⇑ds+⇑es<=1000/\P (norm (k1.join k2) (.tuple (ds++es))) (.tuple (ds++es))
 |_,_=>False
def UW:Ok2 MN Ru:=by
 intro p i own n H x y g D h E P Q A B C t q;unfold MN at t;split at t
 ·let⟨r,xs,u,h1,d⟩:=B.dX;let⟨s,ys,v,h2,f⟩:=C.dX;subst u v;have w:=ą;refine⟨r,s,xs,ys,rfl,rfl,h1,h2,by rw[⇑d,⇑f];lia,λl H' sm hl=>?_⟩;have K:Kp p H H':=Kp.of sm;have j:=dM g h;have m:∀{k vs ds},k.le (g.join h)=true->Rps (okK p i own n k) H vs ds->Rps (okK p i own n (g.join h)) H vs ds:=λhk z=>z.mono (λa o=>cW A hk o) (λ_ _ _ e=>e) λ_ _ e=>e;exact q _ _ _ _ t.2 K (p.mono H H' A.pen λb o _ e=>sm b o e) (aX (.tup hl (cg A K ((m j.1 d).app (m j.2 f)))))
 ·exact t.elim
def Wb(ta:DE):DE:=λρ P=>ta ρ λ_ d=>match d with
 |.int i=>P .imm (.int (-i))
 |_=>False
theorem cV(ha:PD X a ta):PD X (.UnaryOp .USub a pos) (Wb ta):=PE.wk (WM S7 ha) (by
 rintro σ H Q ⟨p,f,own,ρ,P,E,t,q⟩;refine⟨p,f,own,ρ,_,E,t,λk d v H' h A r=>?_⟩;cases d with
 |int i=>exact⟨i,r.int',q _ _ _ _ h A (.int _)⟩
 |_=>exact h.elim)
def Yj(te:DE)(g:DG):DS:=λP ρ=>te ρ λk d=>g (norm (elK k) d) d ρ P.nx
def W5{p:Pn}{f g H:Hp}{own:Addr->Option Nat}(A:At p f own g H){k:Kd}{v:V}{d:D}(r:Rp (okK p f own g k) H v d):Rp (okB p f own (norm (elK k) d)) H v d:=by
 refine gj (r.mono (λa o=>?_) (λ_ _ _ e=>e) λ_ _ e=>e);cases k with
 |imm=>exact o
 |new=>exact⟨A.h0 o,A.nfb o,A.PL o⟩
 |reg q=>exact o
 |n0=>trivial
 |snw=>exact o
 |shr=>exact o
 |wk=>trivial
def uG{g:DG}(h:PS X st (pZ (aK te) (GD g))):PDS X st (Yj te g):=PS.wk' h (by
 rintro Q σ H ⟨p,f,own,ρ,P,E,t,w⟩;refine⟨p,f,own,ρ,_,E,t,λk d v H1 h A r=>?_⟩;exact⟨p,f,own,ρ,_,d,P.nx,E.go A.kp A.pen,W5 A r,h,λσ' ρ' E' n=>w.nx own σ' H1 ρ' E' A.frs n⟩)
def Zb(i:Nat)(te:DE):DS:=λP ρ=>match ρ[i]? with
 |some (.dw r (.list ds))=>te ρ λk d=>match d with
  |.list es=>(k.le .new || bQ es)=true/\⇑ds+⇑es<=1000/\P.nx ((forget r ρ).set i (.dw r (.list (ds++es))))
  |_=>False
 |_=>False
def qT{te:DE}{ρ:List Sl}{R:Kd->D->Prop}(t:te ρ R):bw te fB ρ (λks=>∃k d,ks=[(k,d)]/\R k d):=by
 show te ρ λk d=>∃f d',[((k,d):Kd×D)]=[(f,d')]/\R f d';have e:(λk d=>∃f d',[((k,d):Kd×D)]=[(f,d')]/\R f d')=R:=by
  funext k d;apply propext;constructor
  ·rintro⟨f,d',e,h⟩;cases e;exact h
  ·exact λh=>⟨k,d,rfl,h⟩
 rw[e];exact t
def Vw(i:Nat)(f te:DE):DS:=λP ρ=>match ρ[i]? with
 |some (.dw r (.list ds))=>f ρ λ_ dj=>te ρ λk d=>match dj with
  |.int j=>(norm k d).le .new=true/\0<=j/\j.toNat<=⇑ds/\⇑ds<1000/\P.nx ((forget r ρ).set i (.dw r (.list (ds.take j.toNat++d::ds.drop j.toNat))))
  |_=>False
 |_=>False
def pA{i:Nat}{G:DE}(h:PS X st (rJ (tBM X.K "list" Gj (jX i) (kE (bw G (bw te fB)))))):PDS X st (Vw i G te):=PS.wk' h (by
 rintro Q σ H ⟨p,M,own,ρ,P,E,t,w⟩;unfold Vw at t;split at t
 ·rename_i r ds hr;let⟨v,hv,x⟩:=E.slot i _ hr;let⟨l,vs,rfl,hl,z,B⟩:=x.aR;refine⟨.ref l,hv,.inl ⟨rfl,vs,SqL.of z⟩,p,M,own,ρ,λks=>∃s n k d,ks=[(s,n),(k,d)]/\(match n with
   |.int j=>(norm k d).le .new=true/\0<=j/\j.toNat<=⇑ds/\⇑ds<1000/\P.nx ((forget r ρ).set i (.dw r (.list (ds.take j.toNat++d::ds.drop j.toNat))))
   |_=>False),E,?_,?_⟩
  ·show G ρ λs n=>te ρ λk d=>∃q o u d',[((s,n):Kd×D),(k,d)]=[(q,o),(u,d')]/\_;have e:∀(s:Kd)(n:D),(λk d=>∃q o u d',[((s,n):Kd×D),(k,d)]=[(q,o),(u,d')]/\(match o with
    |.int j=>(norm u d').le .new=true/\0<=j/\j.toNat<=⇑ds/\⇑ds<1000/\P.nx ((forget r ρ).set i (.dw r (.list (ds.take j.toNat++d'::ds.drop j.toNat))))
    |_=>False))=λk d=>(match n with
    |.int j=>(norm k d).le .new=true/\0<=j/\j.toNat<=⇑ds/\⇑ds<1000/\P.nx ((forget r ρ).set i (.dw r (.list (ds.take j.toNat++d::ds.drop j.toNat))))
    |_=>False):=λs n=>by
    funext k d;apply propext;constructor
    ·rintro⟨q,o,u,d',e,h⟩;cases e;exact h
    ·exact λh=>⟨s,n,k,d,rfl,h⟩
   simp only[e];exact t
  ·rintro ks W N ⟨s,n,k,d,rfl,hh⟩ A S;cases n with
   |int j =>
    let⟨hk,T,U,I,hn⟩:=hh;let⟨Y,y,rfl,F,C⟩:=Kg S;have C:=fZ A hk (aX C);have O:=Rp.int' F;have h1:N l=some (.lst vs):=A.kp l _ z (E.ow l r hl).2.1;have R:=ą;have V:=⇑B;refine⟨l,vs,j.toNat,y,rfl,?_,h1,(),(),?_⟩
    ·rw[O];have:((j.toNat:Nat):Int)=j:=()
     rw[this]
    let⟨J,L⟩:=E.rW (vs':=vs.take j.toNat++y::vs.drop j.toNat) (ds':=ds.take j.toNat++d::ds.drop j.toNat) A hv hl z B λH2 f g=>by
     have m:=gP f B λd hd=>fX hd;exact(m.take _).app (.cons (g C) (m.drop _))
    exact w.nx _ σ _ _ J L hn
   |_=>exact hh.elim
 ·exact t.elim)
end
variable [Gr]
structure Cal(P:Zc)(w:Zd)(K:ã)(mg:Str->Option Value)(base:Zi)(k:Nat)(x:Str)(ps:List Str)(sp:Sp):Prop where
 ex:∃f fd,FnOk P w K mg base CX0 k f fd ps sp/\Binds K fd ps []/\W.keepIn K (.ref f)=true/\mg x=some (.ref f)
section
variable{X:Cx}{k j:Nat}{x:Str}{ps:List Str}{e:Zv}{es:List Zv}{t:DA}{p pos pq:Pos}
def pcS{sp:Sp}{a:TA}(C:Cal X.prog X.w X.K X.mg X.base k x ps sp)(hr:Room j X.A)(ha:PA X (e::es) a)(hk:k<=j)(hg:Gl X x)(hdb:zB x)(he:zS X e es)(hpl:zP X pos es) :
  PE X (.Call (.Name x p) (e::es) [] pos) (Fz sp [] E0 a):=by
 let⟨f,d,F,b,c,m⟩:=C.ex;exact PJ F (hr.mono hk) hg m c b .nil WW ha hdb he hpl
def dc{f:List D->(D->Prop)->Prop}(C:Cal X.prog X.w X.K X.mg X.base k x ps (spD f))(hr:Room j X.A)(ha:PDA X (e::es) t)(hk:k<=j:=by decide)(hg:Gl X x:=by rfl)(hdb:zB x:=by decide)(he:zS X e es:=by rfl)(hpl:zP X pos es:=by rfl) :
  PD X (.Call (.Name x p) (e::es) [] pos) (tFn f t):=PE.wk (pcS C hr ha hk hg hdb he hpl) Qo
def dcP{C:Pn->Prop}{i:Nat}{f:List D->(D->Prop)->Prop}{y:Str}{a:Pos}(CC:Cal X.prog X.w X.K X.mg X.base k x ps (spP C f))(hr:Room j X.A)(hi:PE X (.Name y a) (jX i))(ha:PDA X es t)(hk:k<=j:=by decide)(hg:Gl X x:=by rfl)(hdb:zB x:=by decide)(he:Zw (.Name y a::es) X.env=(false,Zx (.Name y a) X.env)::Zw es X.env:=by rfl)(hpl:zP X pos es:=by rfl) :
  PD X (.Call (.Name x p) (.Name y a::es) [] pos) (Hz C f i t):=PE.wk (pcS CC hr (bU hi ha) hk hg hdb he hpl) LC
def dv(i:Nat){x:Str}{pos:Pos}(hN:X.N[i]?=some x:=by rfl)(hv:Vis X.env.scope x:=by first|exact Or.inl rfl|exact Or.inr (Or.inl rfl)|exact Or.inr (Or.inr rfl))(hd:zB x:=by decide)(hcd:(x==("__classdict__":Str))=false:=by decide):PD X (.Name x pos) (tV i):=Uo (pv i hN hv hd hcd)
end
structure Bn(mg:Str->Option Value):Prop where
 isinstance:mg "isinstance"=none
 int:mg "int"=none
 bool:mg "bool"=none
 tuple:mg "tuple"=none
 list:mg "list"=none
 len:mg "len"=none
 all:mg "all"=none
 min:mg "min"=none
 max:mg "max"=none
 sorted:mg "sorted"=none
 range:mg "range"=none
 abs:mg "abs"=none
def boot_all:Zs "all"=some (.builtin "all"):=⋯
def boot_abs:Zs "abs"=some (.builtin "abs"):=⋯
def Cr{i:Nat}{ρ:List Sl}{d:D}{P:DK}(h:ρ[i]?=some (aV d))(q:∀k,P k d):tV i ρ P:=by
 unfold tV;rw[h];unfold aV;by_cases hi:cM d=true
 ·rw[eD hi];exact q _
 ·rw[eH hi];exact q _
abbrev FF:=List D->(D->Prop)->Prop
def qU{f:List D->(D->Prop)->Prop}{n:Nat}(hn:∀ds P,f ds P->⇑ds=n:=by intro _ _ h;repeat (first|(let⟨rfl,_⟩:=h;rfl)|let⟨_,h⟩:=h)):∀vs H Q E,spD f vs H Q E->⇑vs=n:=λvs H Q E h=>by
 let⟨ds,P,r,t,_⟩:=h;rw[⇑r];exact hn ds P t
def Vt{f:List D->(D->Prop)->Prop}{T:DS}{N:List Str}{vs:List V}{H:Hp}{Q:VK}{E:XK}(h:spD f vs H Q E)(a:∀ds P,f ds P->∃ρ,ds.map aV++Ú (⇑N - ⇑ds) .any=ρ/\T { nx:=λ_=>P .none,rt:=P } ρ)(g:Gr.G pO H:=by trivial):mX T { nx:=λ_ H'=>Q .non H',rt:=Q } (L2.start N vs) H :=
 yw h (λds P t=>by
  let⟨ρ,e,q⟩:=a ds P t;rw[e];exact q) g
def aq(n:Int)(us:List Tie):D:=.tuple [.int n,.tuple (us.map pD)]
def ni(n:Int)(us:List Tie):cM (aq n us)=true:=by
 show(cM (.int n)&&(bQ (us.map pD)&&true))=true;rw[oX];rfl
def fO(n:Int)(us:List Tie):aV (aq n us)=.im (aq n us):=eD (ni n us)
def c7{n:Int}{us:List Tie}{l a:List Sl}(h:l=a):aV (aq n us)::l=.im (aq n us)::a:=by rw[fO,h]
def isW:D->Bool
 |.int _=>true
 |_=>false
def Ek:FF:=λds P=>∃d,ds=[d]/\P (.bool (isW d))
def aH(m:Int):D->Bool
 |.int i=>decide (0<=i/\i<m)
 |_=>false
def Ng:FF:=λds P=>∃m d,ds=[.int m,d]/\P (.bool (aH m d))
def enterQ{C:Pn->Prop}{f:List D->(D->Prop)->Prop}{T:DS}{N:List Str}{vs:List V}{H:Hp}{Q:VK}{E:XK}(h:spP C f vs H Q E)(a:∀ds P,f ds P->∃ρ,ds.map aV++Ú (⇑N - (⇑ds+1)) .any=ρ/\T { nx:=λ_=>P .none,rt:=P } (.pen C::ρ))(g:∀p,Gr.G p H:=by intro _;trivial):mX T { nx:=λ_ H'=>Q .non H',rt:=Q } (L2.start N vs) H :=
 Vr h (λds P t=>by
  let⟨ρ,e,q⟩:=a ds P t;rw[e];exact q) g
variable [Gr]
def fJ{α β:Type}{l:List α}{g:α->β}{i:Nat}{d:β}(h:(l.map g)[i]?=some d):∃x,l[i]?=some x/\g x=d:=by
 rw[Ý]at h;cases e:l[i]? with
 |none=>rw[e]at h;cases h
 |some x=>rw[e]at h;exact⟨x,rfl,Ö h⟩
theorem Gv:∀l:List Int,(l.map Â).all okD=true
 |[]=>rfl
 |x::l=>by
  rw[ö,Ż,Gv l];rfl
theorem any_ints(x:Int):∀l:List Int,((l.map Â).any λe=>Ü e (.int x))=decide (x∈l)
 |[]=>rfl
 |y::l=>by
  rw[ö,ź,any_ints x l];have e:Ü (.int y) (.int x)=(y==x):=rfl;rw[e,Ė,Bool.or_eq_true,eM,eC,eC,Þ];constructor
  ·rintro(h|h)
   ·exact .inl h.symm
   ·exact .inr h
  ·rintro(h|h)
   ·exact .inl h.symm
   ·exact .inr h
def mF(l:List Int):okD (.list (l.map Â))=true:=by
 unfold okD;rw[Ï,eC];refine⟨Mg l,?_⟩;show ę (l.map Â)+1<=60;rw[Bs];lia
def bD(a:Int)(n:Nat):⇑(vQ a n)=n:=by unfold vQ;simp
def bI{a:Int}{n i:Nat}{d:D}(h:(vQ a n)[i]?=some d):i<n/\d=.int (a+((i:Nat):Int)):=by
 unfold vQ at h;let⟨x,f,e⟩:=fJ h;let⟨h1,h2⟩:=Ç.mp f;have b:i<n:=by simpa using h1
 have c:x=i:=by simpa using h2.symm
 subst c;exact⟨b,e.symm⟩
variable [Gr]
section
variable{X:Cx}{pos p2:Pos}{a b e:Zv}{ta tb te:DE}
theorem Rps.rep{ok:Addr->Prop}{H:Hp}{vs:List V}{ds:List D}(r:Rps ok H vs ds):∀k:Nat,Rps ok H (Ú k vs).flatten (Ú k ds).flatten
 |0=>.nil
 |k+1=>by
  rw[Ŧ,Ŧ,List.flatten_cons,List.flatten_cons];exact r.app (Rps.rep r k)
def Vk:G2:=λk1 d1 _ d2 P=>match d1,d2 with
 |.list ds,.int k=>0<=k/\k<1000/\⇑ds * k.toNat<=1000/\newP k1 (Ú k.toNat ds).flatten λk'=>P k' (.list (Ú k.toNat ds).flatten)
 |_,_=>False
def W0:Ok2 Vk Ws:=by
 intro p s own u H x y B v C w P Q A o r t q;unfold Vk at t;split at t
 ·rename_i ds k;let⟨h,xs,i,D,h1,c⟩:=o.aR;subst i;have j:=ą;refine⟨h,k,xs,rfl,r.int',h1,(),(),by rw[⇑c];lia,λl hl=>?_⟩;let⟨g,m,n⟩:=A.new hl (.lst (Ú k.toNat xs).flatten);let⟨z,d,f⟩:=fD A (cg A g (c.rep k.toNat)) n ao t.2.2.2;exact q _ _ _ _ d g m f
 ·exact t.elim
end
theorem lU(ns:List Int):∀k,k<=⇑ns->PySem.preSum (λi=>ns.getD i 0) k=(ns.take k).sum
 |0,_=>rfl
 |k+1,h=>by
  show PySem.preSum _ k+ns.getD k 0=_;have hk:k<⇑ns:=()
  have e:ns.take (k+1)=ns.take k++[ns[k]]:=by rw[Ĭ,Ë hk];rfl
  have a:ns.getD k 0=ns[k]:=by rw[ā,Ë hk];rfl
  rw[lU ns k (),e,a,List.sum_append,List.sum_cons,List.sum_nil,Int.add_zero]
theorem nY:∀(ns:List Int)(b:Int),(∀x∈ns,-b<=x/\x<=b)->-(b * ⇑ns)<=ns.sum/\ns.sum<=b * ⇑ns
 |[],b,_=>by simp
 |x::ns,b,h=>by
  let⟨h1,h2⟩:=nY ns b λy hy=>h y (É _ hy);have a:=h x Í;have e:b * (⇑(x::ns):Int)=b * ⇑ns+b:=by
   rw[ñ];have:(((⇑ns+1:Nat)):Int)=(⇑ns:Int)+1:=()
   rw[this,Int.mul_add,Int.mul_one]
  rw[e,List.sum_cons];lia
section
variable{X:Cx}{pos:Pos}{a:Zv}{t:DA}
def Jf(hc:X.calm=true):aQ X (.builtin "sum") (λxs H Q=>∃(p:Addr)(ns:List Int),xs=[.ref p]/\SqL X.K H p (ns.map V.int)/\⇑ns<=1000/\(∀x∈ns,-1000000<=x/\x<=1000000)/\Q (.int ns.sum) H):=by
 intro w s σ H xs us Q I r h;let⟨p,ns,rfl,hp,hl,hs,q⟩:=h;let⟨u,rfl,B⟩:=vals1 r;cases B;let⟨its,y,g,C⟩:=I.list hp;have c:⇑its=⇑ns:=by have:=⇑y;rw[Ä]at this;exact this.symm
 have l:p≠↥s:=by let⟨o,m,_⟩:=g.isList;exact ë (Ó m)
 have f:p<↥s:=by let⟨o,m,_⟩:=g.isList;exact Ó m
 have k:∀i v,its[i]?=some v->∃t,v=ś (ns.getD i 0) t:=λi v e=>by
  have hi:i<⇑its:=(Ç.mp e).1;have hv:(ns.map V.int)[i]?=some (V.int ns[i]):=by rw[Ý,Ë (show i<⇑ns by lia)];rfl
  let⟨u,n,z⟩:=y.get hv;rw[e]at n;cases n;let⟨t,rfl⟩:=z;exact⟨t,by rw[ā,Ë (show i<⇑ns by lia)];rfl⟩
 refine Sa (WZ g.isList ?_);refine⟨_,_,_,_,_,_,λi=>ns.getD i 0,rfl,Walks.list (A:=X.A.in1) (I.ok.hd hc) _ p l _,⟨⟨_,è _ rfl,rfl,rfl⟩,g.isList.push _⟩,?_,λi v e=>k i v (by simpa using e),λj d=>?_,λh' tk t' hk=>?_⟩
 ·intro b hb;show b<(s.heap.push _).objs.size;rw[Ń];simp at hb;rcases hb with rfl|rfl
  ·exact ŕ _
  ·exact ĕ f
 ·have d:j<⇑ns:=by simpa[c]using d
  have e:ns.getD j 0=ns[j]:=by rw[ā,Ë d];rfl
  have b1:=hs _ (ĳ d);have b2:=nY (ns.take (j+1)) 1000000 λx hx=>hs x (ň hx);have b3:⇑(ns.take (j+1))<=1000:=by rw[Ě];lia
  rw[lU ns (j+1) d];refine⟨?_,?_⟩
  ·show -(2 ^ 63)<=ns.getD j 0/\ns.getD j 0<2 ^ 63;rw[e];lia
  ·show -(2 ^ 63)<=(ns.take (j+1)).sum/\(ns.take (j+1)).sum<2 ^ 63;lia
 ·have e:PySem.preSum (λi=>ns.getD i 0) its.toArray.size=ns.sum:=by
   rw[Ø,c,lU ns ⇑ns (Õ _),Ĳ]
  rw[e];refine⟨.int ns.sum,H,I.kept λb o eb=>hk b o ?_ (Ò _ eb),⟨_,rfl⟩,q⟩;intro hm;have:b=↥s:=by simpa using hm
  exact eI (this ▸ Ó eb) (Ē _)
variable [Gr]
def boot_sum:Zs "sum"=some (.builtin "sum"):=⋯
end
variable [Gr]
def G6:G2:=λ_ d1 _ d2 P=>match d1,d2 with
 |.bool i,.bool j=>P .imm (.bool (!decide (i=j)))
 |_,_=>False
def UL:Ok2 G6 (λx y H Q=>∃a b,x=.bl a/\y=.bl b/\Q (.bl (!decide (a=b))) H):=by
 intro p f own g H x y j h k i P Q A c d t q;unfold G6 at t;split at t
 ·cases c;cases d;exact⟨_,_,rfl,rfl,q _ _ _ _ t Kp.refl A.pen (.bl _)⟩
 ·exact t.elim
def kY(ha:PD X a ta)(hb:PD X b tb):PDT X (.Compare a [.IsNot] [b] pos) (cU (t2 G6 ta tb)):=dJ Ac UL ha hb (cL _)
variable [Gr]
def Lq:D->Bool
 |.none=>true
 |_=>false
def I9:G2:=λ_ d1 _ d2 P=>match d2 with
 |.none=>P .imm (.bool (Lq d1))
 |_=>False
def Gh{ok:Addr->Prop}{H:Hp}{v:V}{d:D}(r:Rp ok H v d):decide (v=.non)=Lq d:=by
 cases r <;> simp[Lq]
def Ry:Ok2 I9 (λx y H Q=>y=.non/\Q (.bl (decide (x=.non))) H):=by
 intro p f own g H x y j h k i P Q A c d t q;unfold I9 at t;split at t
 ·cases d;rw[Gh c];exact⟨rfl,q _ _ _ _ t Kp.refl A.pen (.bl _)⟩
 ·exact t.elim
def Dm(ha:PD X a ta)(hb:PD X b tb):PD X (.Compare a [.Is] [b] pos) (t2 I9 ta tb):=ou La Ry ha hb (cL _)
def lV(ha:PD X a ta)(hb:PD X b tb):PDT X (.Compare a [.Is] [b] pos) (cU (t2 I9 ta tb)):=dJ La Ry ha hb (cL _)
end
variable [Gr]
section
variable{X:Cx}{pos:Pos}{st:ZH}
end
@[reducible] def grX(H:Hp):Gr:=⟨λp H0=>p=pO/\H0=H⟩
structure Cal1(P:Zc)(w:Zd)(K:ã)(mg:Str->Option Value)(base:Zi)(k:Nat)(x:Str)(ps:List Str)(sp:Sp):Prop where
 ex:∃f fd,FnOk P w K mg base (CX1 P w) k f fd ps sp/\Binds K fd ps []/\W.keepIn K (.ref f)=true/\mg x=some (.ref f)
section
variable{X:Cx}{E:XK}{k j:Nat}{x:Str}{ps:List Str}{e:Zv}{es:List Zv}{p pos:Pos}
end
variable [Gr]
def boot_repr:Zs "repr"=some (.builtin "repr"):=⋯
def okR(d:D):Prop:=okD d=true/\d.showable=true/\d.hasDict=false/\⇑d.shown<=sizeLine
section
variable{X:Cx}{pos:Pos}{a b e:Zv}{ta tb te:DE}{t:DA}
def Wq:List V->Hp->VK->Prop:=λxs H Q=>∃ok a d,xs=[.ref a]/\Rp ok H (.ref a) d/\okR d/\Q (.str d.shown) H
def MJ:GC:=λks P=>match ks with
 |[(_,.list ds)]=>okR (.list ds)/\P .imm (.str (ĉ ds).shown)
 |[(_,.tuple ds)]=>okR (.tuple ds)/\P .imm (.str (ő ds).shown)
 |_=>False
end
end Dl
namespace L2
open PySem PyProof.Rows
theorem Az:∀{ns:List Int}{us:List Value},Vals (ns.map V.int) us->IntsAre us ns
 |[],_,.nil=>.nil
 |n::ns,_,.cons r t=>by
  let⟨k,rfl⟩:=r;exact .cons n k (Az t)
def once(ns:List Int):List Int:=ns.foldl Sb []
def Ej(ns:List Int){m:Nat}(hm:m=⇑ns):firstMet (λi=>ns.getD i 0) m=once ns:=by
 subst hm;unfold firstMet once;congr 1;refine List.ext_getElem (by simp) λi h1 h2=>?_;simp at h1;simp[ā,h1]
section
variable{X:Cx}
def BK(hc:X.calm=true):aQ X (.type "set") (λxs H Q=>∃p ns,xs=[.ref p]/\SqL X.K H p (ns.map V.int)/\⇑ns<=1000/\∀l S,H l=none->Q (.ref l) (upd H l (.set S ⇑(once ns)))):=by
 intro c s σ H xs us Q I r h;let⟨p,ns,rfl,f,hl,q⟩:=h;let⟨u,rfl,i⟩:=vals1 r;cases i;let⟨its,d,g,j⟩:=I.list f;have a:=⇑d;rw[Ä]at a;refine call_set_list (items:=its.toArray) (ns:=ns) (I.ok.hd hc) g.isList (by simpa using Az d) ?_ λh' tk st k=>?_
 ·show its.toArray.size+1<scanBound;rw[Ø,←a];exact Nat.lt_of_le_of_lt (Nat.add_le_add_right hl 1) ∅
 ·rw[Ej ns (by rw[Ø,←a])]at st;refine⟨.ref ↥s,_,I.laid (t':=tk) (λb o e=>k b o (Ó e) e) (Õ _) (show bf X.prog X.w _ h' _ (.set _ ⇑(once ns))from st),rfl,q _ _ (I.hok.fresh (Õ _))⟩
def vd:aQ X (.builtin "len") (λxs H Q=>∃p S n,xs=[.ref p]/\H p=some (.set S n)/\n<=1000/\Q (.int (n:Int)) H):=by
 intro b s σ H xs us Q I r h;let⟨p,S,n,rfl,g,hl,q⟩:=h;let⟨u,rfl,i⟩:=vals1 r;cases i;let⟨o,es,ep,t,c,d,e,_,_,_,f,a⟩:=I.hok p _ g;refine call_len_set c d e f (by rw[a];lia) ?_;rw[a];exact⟨.int n,H,I.tok _,⟨_,rfl⟩,q⟩
end
theorem ji:∀(ns acc:List Int),⇑(ns.foldl Sb acc)<=⇑acc+⇑ns
 |[],acc=>Õ _
 |n::ns,acc=>by
  rw[List.foldl_cons];have h:=ji ns (Sb acc n);have:⇑(Sb acc n)<=⇑acc+1:=by
   unfold Sb;split
   ·lia
   ·rw[Ñ];exact Õ _
  rw[ñ];lia
theorem Ad:∀(ns acc:List Int),(⇑(ns.foldl Sb acc)=⇑acc+⇑ns)↔(ns.Nodup/\∀x∈ns,x∉acc)
 |[],acc=>by simp
 |n::ns,acc=>by
  rw[List.foldl_cons,ñ,List.nodup_cons];by_cases hn:n∈acc
  ·have e:Sb acc n=acc:=by
    unfold Sb;rw[eD (Ŕ.mpr ⟨n,hn,by simp⟩)]
   rw[e];have:=ji ns acc;constructor
   ·intro h;lia
   ·rintro⟨_,h⟩;exact eI hn (h n Í)
  ·have e:Sb acc n=acc++[n]:=by
    unfold Sb;rw[eH (λz=>by
     let⟨x,d,g⟩:=Ŕ.mp z;have:x=n:=by simpa using g
     exact hn (this ▸ d))]
   rw[e];have f:=Ad ns (acc++[n]);rw[Ñ,ì]at f;constructor
   ·intro h;let⟨a,b⟩:=f.mp ();refine⟨⟨λz=>b n z (ç _ (Ê.mpr rfl)),a⟩,λx d=>?_⟩;rcases Þ.mp d with z|z
    ·rw[z];exact hn
    ·exact λy=>b x z (é _ y)
   ·rintro⟨⟨a,b⟩,c⟩;have:=f.mpr ⟨b,λx d z=>by
     rcases â.mp z with y|y
     ·exact c x (É _ d) y
     ·rw[Ê.mp y]at d;exact a d⟩
    lia
def sY(ns:List Int):⇑(once ns)=⇑ns↔ns.Nodup:=by
 have:=Ad ns [];simp at this;exact this
end L2
namespace Dl
open PySem L2 PyProof.Rows
variable [Gr]
section
variable{X:Cx}{pos pos':Pos}{a:Zv}{t:DA}
def boot_set:Zs "set"=some (.type "set"):=⋯
def G7:GC:=λks P=>∃k ns,ks=[(k,.list (ns.map Â))]/\⇑ns<=1000/\P .imm (.int (⇑(once ns):Nat))
def jP{ps d:Pos}(hc:X.calm=true)(hs:X.mg "set"=none)(hl:X.mg "len"=none)(ha:PDA X [a] t)(hgs:Gl X "set":=by rfl)(hgl:Gl X "len":=by rfl)(he:zS X a []:=by rfl)(hpl:zP X pos []:=by rfl)(he':Zw [Expr.Call (.Name "set" ps) [a] [] pos] X.env=(false,Zx (Expr.Call (.Name "set" ps) [a] [] pos) X.env)::Zw [] X.env:=by rfl)(hpl':(Zy pos' (Zw [] X.env)).any (·.1)=false:=by rfl) :
  PD X (.Call (.Name "len" d) [.Call (.Name "set" ps) [a] [] pos] [] pos') (tCl G7 t) :=
 PE.wk (dg vd hgl hl PySem.boot_len (bU (vC (BK hc) hgs hs boot_set ha ∅ ∅ he hpl) eY he') ∅ ∅ he' hpl') (by
  rintro σ H Q ⟨p,e,own,ρ,P,E,t,q⟩;refine⟨p,e,own,ρ,_,E,t,λks vs H1 h A r=>?_⟩;let⟨k,ns,rfl,hn,h⟩:=h;let⟨v,rfl,j⟩:=cJ r;let⟨c,s,rfl,o,b,m⟩:=j.aR;have f:=m.ints;subst f;refine⟨c,ns,rfl,SqL.of b,hn,λl S hl'=>?_⟩;let⟨i,g,n⟩:=A.new hl' (.set S ⇑(once ns));have h1:=ji ns [];exact⟨l,S,_,rfl,ao,by unfold once;simp at h1;lia,q _ _ _ _ h (A.go i g) (.int _)⟩)
end
variable [Gr]
section
variable{X:Cx}{pos p2:Pos}{a b c e:Zv}{es:List Zv}{ta tb tc te:DE}{t:DA}{st:ZH}
def OpR.or{f:Value->Value->Sem Value}{r g:R2}(h:OpR X f r)(h':OpR X f g):OpR X f (λx y H Q=>r x y H Q\/g x y H Q):=by
 intro d s σ H x y v u Q I i j q;rcases q with q|q
 ·exact h d s σ H x y v u Q I i j q
 ·exact h' d s σ H x y v u Q I i j q
def aQ.or{f:Value}{r g:List V->Hp->VK->Prop}(h:aQ X f r)(h':aQ X f g):aQ X f (λx H Q=>r x H Q\/g x H Q):=by
 intro d s σ H x v Q I i q;rcases q with q|q
 ·exact h d s σ H x v Q I i q
 ·exact h' d s σ H x v Q I i q
def K8(ha:PD X a ta)(hb:PD X b tb)(hs:rB b:=by exact λ_ _=>rfl):PD X (.Subscript a b pos) (t2 gIx ta tb):=PE.wk (je (IxR.or dh Vd) ha hb hs) (GF (by
 intro p k own l H x y r m s n P Q A h j t q;unfold gIx at t;split at t
 ·rename_i ds i;let⟨d,hd,t⟩:=t;let⟨c,vs,rfl,o,hc,f⟩:=h.aR;let⟨v,hv,g⟩:=f.atI hd;exact .inl ⟨c,vs,i,v,rfl,j.int',SqL.of hc,hv,q _ _ _ _ t Kp.refl A.pen (aX g)⟩
 ·rename_i ds i;let⟨d,hd,t⟩:=t;let⟨c,vs,rfl,hc,f⟩:=h.dX;let⟨v,hv,g⟩:=f.atI hd;exact .inr ⟨c,vs,i,v,rfl,j.int',SqT.of hc,hv,q _ _ _ _ t Kp.refl A.pen (aX g)⟩
 ·exact t.elim))
def pU:G2:=λk1 d1 k2 d2 P=>match d1 with
 |.int i=>(match d2 with
  |.int j=>P .imm (.int (i+j))
  |_=>False)
 |.list ds=>Vn k1 (.list ds) k2 d2 P
 |.tuple ds=>MN k1 (.tuple ds) k2 d2 P
 |_=>False
theorem xg(ha:PD X a ta)(hb:PD X b tb):PD X (.BinOp a .Add b pos) (t2 pU ta tb):=Aa (OpR.or jh (OpR.or Ux P0)) (by
 intro p h own k H x y l n m d P Q A f g t q;cases n with
 |int i =>
  cases d with
  |int j=>exact .inl ⟨i,j,f.int',g.int',q _ _ _ _ t Kp.refl A.pen (.int _)⟩
  |_=>exact t.elim
 |list ds=>exact .inr (.inl (W7 p h own k H x y l _ m d P Q A f g t q))
 |tuple ds=>exact .inr (.inr (UW p h own k H x y l _ m d P Q A f g t q))
 |_=>exact t.elim) ha hb
def Mw:G2:=λk1 d1 k2 d2 P=>match d1 with
 |.int i=>(match d2 with
  |.int j=>Oe i j/\P .imm (.int (i * j))
  |_=>False)
 |.list ds=>Vk k1 (.list ds) k2 d2 P
 |_=>False
theorem eV(ha:PD X a ta)(hb:PD X b tb):PD X (.BinOp a .Mult b pos) (t2 Mw ta tb):=Aa (OpR.or kZ Ut) (by
 intro p h own k H x y m l n d P Q A f g t q;cases l with
 |int i =>
  cases d with
  |int j=>exact .inl ⟨i,j,f.int',g.int',t.1,q _ _ _ _ t.2 Kp.refl A.pen (.int _)⟩
  |_=>exact t.elim
 |list ds=>exact .inr (W0 p h own k H x y m _ n d P Q A f g t q)
 |_=>exact t.elim) ha hb
def oZ(neg:Bool):G2:=λk1 d1 k2 d2 P=>match scD d1 d2 with
 |some b=>P .imm (.bool (if neg then !b else b))
 |none=>Xw neg k1 d1 k2 d2 P
def RD{K:ã}:Ok2 (oZ false) (λx y H Q=>rEq x y H Q\/Kr K false x y H Q):=by
 intro p i own j H x y g d h f P Q A k l t q;cases e:scD d f with
 |some b =>
  have t':gEq false g d h f P:=by
   unfold oZ at t;unfold gEq;rw[e]at t ⊢;exact t
  exact .inl (YH p i own j H x y g d h f P Q A k l t' q)
 |none =>
  unfold oZ at t;rw[e]at t;exact .inr (Rz false p i own j H x y g d h f P Q A k l t q)
def W3{K:ã}:Ok2 (oZ true) (λx y H Q=>rNe x y H Q\/Kr K true x y H Q):=by
 intro p i own j H x y g d h f P Q A k l t q;cases e:scD d f with
 |some b =>
  have t':gEq true g d h f P:=by
   unfold oZ at t;unfold gEq;rw[e]at t ⊢;exact t
  exact .inl (YG p i own j H x y g d h f P Q A k l t' q)
 |none =>
  unfold oZ at t;rw[e]at t;exact .inr (Rz true p i own j H x y g d h f P Q A k l t q)
def Dq(hu:X.A.units+64<YV)(ha:PD X a ta)(hb:PD X b tb):PD X (.Compare a [.Eq] [b] pos) (t2 (oZ false) ta tb):=ou (OpR.or Rx (Ld hu)) RD ha hb (cL _)
def wY(hu:X.A.units+64<YV)(ha:PD X a ta)(hb:PD X b tb):PDT X (.Compare a [.Eq] [b] pos) (cU (t2 (oZ false) ta tb)):=dJ (OpR.or Rx (Ld hu)) RD ha hb (cL _)
def wX(hu:X.A.units+64<YV)(ha:PD X a ta)(hb:PD X b tb):PDT X (.Compare a [.NotEq] [b] pos) (cU (t2 (oZ true) ta tb)):=dJ (OpR.or WX (Uv hu)) W3 ha hb (cL _)
end
section
variable{n:Nat}{g:DG}{tt:DT}{te:DE}{ρ:List Sl}{k:Kd}{ds:List D}{R:Kd->List D->Prop}
def Qk{α β:Type}(f:α->β){l:List α}{i:Nat}{x:α}(h:l[i]?=some x):(l.take (i+1)).map f=(l.take i).map f++[f x]:=by
 rw[Ĭ,h];simp
def Eb{α:Type}(xs:List α)(e f:α->D)(a:Kd)(hd:ds=xs.map e)(hl:⇑xs<=1000)(step:∀x∈xs,∀(A:D->Prop)(B:Prop),A (f x)->g (norm (elC k) (e x)) (e x) (Ú n .any++ρ) λρ'=>if true=true then te ρ' λk' d'=>(norm k' d').le a=true/\A d' else B)(q:R a (xs.map f)) :
  ⇑ds<=1000/\∃(a:Kd)(b:Nat->List D->Prop),b 0 [] /\
   (∀i d ys,ds[i]?=some d->b i ys->g (norm (elC k) d) d (Ú n .any++ρ) λρ'=>if true=true then te ρ' λk' d'=>(norm k' d').le a=true/\b (i+1) (ys++[d'])else b (i+1) ys) /\
   ∀ys,b ⇑ds ys->R a ys:=by
 subst hd;refine⟨by rw[Ä];exact hl,a,λi ys=>ys=(xs.take i).map f,rfl,?_,?_⟩
 ·rintro i d ys hd rfl;rw[Ý]at hd;cases c:xs[i]? with
  |none=>rw[c]at hd;cases hd
  |some x =>
   rw[c]at hd;have hd:=Ö hd;subst hd;exact step x (Ì c) (λd'=>(xs.take i).map f++[d']=(xs.take (i+1)).map f) _ (Qk f c).symm
 ·rintro ys rfl;rw[Ä,Ĳ];exact q
def fK{α:Type}(xs:List α)(e:α->D)(p:α->Bool)(f:α->D)(a:Kd)(hd:ds=xs.map e)(hl:⇑xs<=1000)(step:∀x∈xs,∀(A:D->Prop)(B:Prop),(p x=true->A (f x))->(p x=false->B)->g (norm (elC k) (e x)) (e x) (Ú n .any++ρ) λρ'=>tt ρ' λb=>if b=true then te ρ' λk' d'=>(norm k' d').le a=true/\A d' else B)(q:R a ((xs.filter p).map f)) :
  ⇑ds<=1000/\∃(a:Kd)(c:Nat->List D->Prop),c 0 [] /\
   (∀i d ys,ds[i]?=some d->c i ys->g (norm (elC k) d) d (Ú n .any++ρ) λρ'=>tt ρ' λb=>if b=true then te ρ' λk' d'=>(norm k' d').le a=true/\c (i+1) (ys++[d'])else c (i+1) ys) /\
   ∀ys,c ⇑ds ys->R a ys:=by
 subst hd;refine⟨by rw[Ä];exact hl,a,λi ys=>ys=((xs.take i).filter p).map f,rfl,?_,?_⟩
 ·rintro i d ys hd rfl;rw[Ý]at hd;cases j:xs[i]? with
  |none=>rw[j]at hd;cases hd
  |some x =>
   rw[j]at hd;have hd:=Ö hd;subst hd;have sn:((xs.take (i+1)).filter p).map f=((xs.take i).filter p).map f++if p x=true then [f x]else []:=by
    rw[Ĭ,j,Ļ,î];cases hp:p x <;> simp[hp]
   refine step x (Ì j) (λd'=>((xs.take i).filter p).map f++[d']=((xs.take (i+1)).filter p).map f) _ (λh=>?_) (λh=>?_)
   ·rw[sn,eD h]
   ·show _=_;rw[sn,h,eH Ð,ě]
 ·rintro ys rfl;rw[Ä,Ĳ];exact q
section
variable{g:DG}{tb:DS}{k:Kd}{ds:List D}{ρ:List Sl}{P:DEnds}
end
variable [Gr]
section
variable{X:Cx}{scope:Zu}{tg iter elt:Zv}{ifs:List Zv}{pos:Pos}{ti:DI}{g:DG}{tt:DT}{te:DE}
def T5(own:List Str){i:Nat}{y:Str}{e a:Pos}(hc:X.calm=true)(hN:X.N.Nodup)(b:X.N[i]?=some y)(h:Loc X.env.scope y)(hi:PDI X tg iter ti)(hg:∀c,PDG (X.comp own scope c) tg g)(ht:∀c,Oc (X.comp own scope c) ifs tt)(he:∀c,PD (X.comp own scope c) elt te)(d:ZT (.ListComp elt [⟨tg,iter,ifs,0⟩] scope pos) (some (.Name y e)) a.line X.env=pure true:=by rfl)(hk:fu X.env scope X.N=true:=by rfl)(hs:zF X iter:=by intro _;rfl)(f:zL X y:=by first|exact .inl rfl|exact .inr rfl|assumption) :
  PS X (.Assign [.Name y e] (.ListComp elt [⟨tg,iter,ifs,0⟩] scope pos) a) (pZ (aK (dLC ⇑own ti g tt te)) (iR i)):=PS.wk' (Rv own hc hN b h hi hg ht he d hk hs f) λD σ H q=>Gy σ H _ q
end
def Mf(Pr:D->Prop)(a:Kd)(hl:⇑ds<=1000)(step:∀d∈ds,∀(A:D->Prop)(B:Prop),(∀d',Pr d'->A d')->g (norm (elC k) d) d (Ú n .any++ρ) λρ'=>if true=true then te ρ' λk' d'=>(norm k' d').le a=true/\A d' else B)(q:∀ys,⇑ys=⇑ds->(∀y∈ys,Pr y)->R a ys) :
  ⇑ds<=1000/\∃(a:Kd)(b:Nat->List D->Prop),b 0 [] /\
   (∀i d ys,ds[i]?=some d->b i ys->g (norm (elC k) d) d (Ú n .any++ρ) λρ'=>if true=true then te ρ' λk' d'=>(norm k' d').le a=true/\b (i+1) (ys++[d'])else b (i+1) ys) /\
   ∀ys,b ⇑ds ys->R a ys:=by
 refine⟨hl,a,λi ys=>⇑ys=i/\∀y∈ys,Pr y,⟨rfl,λy h=>nomatch h⟩,?_,λys h=>q ys h.1 h.2⟩;rintro i d ys hd ⟨c,hp⟩;refine step d (Ì hd) (λd'=>⇑(ys++[d'])=i+1/\∀y∈ys++[d'],Pr y) _ λd' h=>⟨by rw[Ñ,c];rfl,λy z=>?_⟩
 rcases â.mp z with z|z
 ·exact hp y z
 ·rw[Ê.mp z];exact h
end
variable [Gr]
section
variable{X:Cx}{pos:Pos}{st:ZH}{rest:List ZH}{te tj:DE}{ti:DI}{t:DS}
def Vx(i:Nat)(t:DS):DS:=λP ρ=>match ρ[i]? with
 |some (.dw r d)=>ux r ρ i=true/\t P (ρ.set i (.sn d))
 |some (.rw r L)=>ux r ρ i=true/\t P (ρ.set i (.sn (.list (L.map ĉ))))
 |some (.sp r b ds)=>ux r ρ i=true/\t P (ρ.set i (if b=true then .sn (.list ds)else .sh (.list ds)))
 |_=>False
def EnvD.freeze{p:Pn}{b H:Hp}{own:Addr->Option Nat}{σ:L2.St}{ρ:List Sl}{i r:Nat}{d:D}{v:V}(E:EnvD p b own σ H ρ)(g:ux r ρ i=true)(hv:σ[i]?=some (some v))(x:Rp (λa=>own a=some r) H v d) :
  EnvD p b (aU r own) σ H (ρ.set i (.sn d)):=by
 have f:EnvD p b (aU r own) σ H (ρ.set i .any):=(E.drop (i:=i)).clear g;have c:=f.put (v:=v) (i:=i) (s:=.sn d) ⟨v,hv,x.mono (λa o=>⟨(E.ow a r o).1,(E.ow a r o).2.1,by unfold aU;rw[eD o]⟩) (λ_ _ _ e=>e) λ_ _ e=>e⟩;rw[List.set_set]at c;exact c
def Er(i:Nat)(h:jE X rest t):jE X rest (Vx i t):=PSs.wk' h (by
 rintro Q σ H ⟨p,f,own,ρ,P,E,q,w⟩;unfold Vx at q;split at q
 ·rename_i r d e;let⟨v,hv,x⟩:=E.slot i _ e;exact⟨p,f,_,_,P,E.freeze q.1 hv x,q.2,w.go gJ⟩
 ·rename_i r L e;let⟨st,as,hv,x⟩:=E.slot i _ e;exact⟨p,f,_,_,P,E.freeze q.1 hv x.rp,q.2,w.go gJ⟩
 ·rename_i r b ds e;let⟨l,vs,hv,o,h,z⟩:=E.slot i _ e;have m:EnvD p f (aU r own) σ H (ρ.set i .any):=(E.drop (i:=i)).clear q.1;have j:∀a,own a=none->aU r own a=none:=λa n=>by unfold aU;rw[n];simp
  have k:aU r own l=none:=by unfold aU;rw[eD o]
  have g:EnvD p f (aU r own) σ H ((ρ.set i .any).set i (if b=true then .sn (.list ds)else .sh (.list ds))):=m.put (v:=.ref l) (by
   cases b with
   |true=>exact⟨_,hv,.lst ⟨(E.ow l r o).1,(E.ow l r o).2.1,k⟩ h (z.mono (λc n=>⟨n.1 rfl,n.2.1,j c n.2.2⟩) (λ_ _ _ e=>e) λ_ _ e=>e)⟩
   |false=>exact⟨_,hv,.lst ⟨(E.ow l r o).2.1,k⟩ h (z.mono (λc n=>⟨n.2.1,j c n.2.2⟩) (λ_ _ _ e=>e) λ_ _ e=>e)⟩)
  rw[List.set_set]at g;exact⟨p,f,_,_,P,g,q.2,w.go gJ⟩
 ·exact q.elim)
def dSp(i:Nat)(b:Bool)(t:DS):DS:=λP ρ=>match ρ[i]? with
 |some (.dw r (.list ds))=>bQ ds=true/\t P (ρ.set i (.sp r b ds))
 |_=>False
def Nk(i:Nat)(b:Bool)(h:jE X rest t):jE X rest (dSp i b t):=PSs.wk' h (by
 rintro Q σ H ⟨p,a,own,ρ,P,E,q,w⟩;unfold dSp at q;split at q
 ·rename_i r ds e;let⟨v,hv,x⟩:=E.slot i _ e;let⟨l,vs,rfl,o,h,z⟩:=x.aR;exact⟨p,a,own,_,P,E.put (v:=.ref l) (i:=i) (s:=.sp r b ds) ⟨l,vs,hv,o,h,(z.imm q.1).mono (λ_ o=>o.elim) (λ_ _ o=>o.elim) λ_ _ e=>e⟩,q.2,w⟩
 ·exact q.elim)
def spK(b:Bool):Kd:=if b=true then .snw else .shr
def UG{p:Pn}{c g H:Hp}{own:Addr->Option Nat}{b:Bool}(A:At p c own g H){k:Kd}(hk:k.le (spK b)=true){v:V}{d:D}{f:Hp}(r:Rp (okK p c own g k) f v d):Rp (okS p c own b) f v d:=by
 have h:=fZ A hk r;cases b with
 |true=>exact h.mono (λa o=>⟨λ_=>o.1,o.2.1,o.2.2⟩) (λ_ _ _ e=>e) λ_ _ e=>e
 |false=>exact h.mono (λa o=>⟨λz=>(nomatch z),o.1,o.2⟩) (λ_ _ _ e=>e) λ_ _ e=>e
def EnvD.O5{p:Pn}{d H:Hp}{own:Addr->Option Nat}{σ:L2.St}{ρ:List Sl}{i r:Nat}{b:Bool}{l:Addr}{vs vs':List V}{ds':List D}(E:EnvD p d own σ H ρ)(hv:σ[i]?=some (some (.ref l)))(o:own l=some r)(h:H l=some (.lst vs))(z:Rps (okS p d own b) H vs' ds') :
  EnvD p d own σ (upd H l (.lst vs')) ((forget r ρ).set i (.sp r b ds'))/\FrS p own H own (upd H l (.lst vs')):=by
 refine⟨(E.write (o':=.lst vs') o h λxs z=>nomatch z).put (v:=.ref l) ⟨l,vs',hv,o,ao,z.mono (λ_ o=>o) (λc u n e=>?_) λa xs e=>?_⟩,fW o h λxs z=>nomatch z⟩
 ·rw[aj];exact e;intro y;subst y;rw[n.2.2]at o;cases o
 ·rw[aj];exact e;intro y;subst y;rw[h]at e;cases e
def Ny(i:Nat)(te:DE):DS:=λP ρ=>match ρ[i]? with
 |some (.sp r b ds)=>te ρ λk d=>(norm k d).le (spK b)=true/\⇑ds<1000/\P.nx ((forget r ρ).set i (.sp r b (ds++[d])))
 |_=>False
def yG{i:Nat}(h:PS X st (rJ (tBM X.K "list" qH (jX i) (kE (bw te fB))))):PDS X st (Ny i te):=PS.wk' h (by
 rintro Q σ H ⟨p,f,own,ρ,P,E,t,w⟩;unfold Ny at t;split at t
 ·rename_i r b ds hr;let⟨l,vs,hv,o,m,q⟩:=E.slot i _ hr;refine⟨.ref l,hv,.inl ⟨rfl,vs,SqL.of m⟩,p,f,own,ρ,_,E,qT t,?_⟩;rintro ks F g ⟨k,d,rfl,hk,j,hn⟩ A C;let⟨y,rfl,D⟩:=cJ C;have s:=E.go A.kp A.pen;have h1:g l=some (.lst vs):=A.kp l _ m (E.ow l r o).2.1;have a:Rps (okS p f own b) g vs ds:=q.mono (λ_ o=>o) (λc u n e=>A.kp c u e n.2.1) A.tups;have z:=ą;have B:=⇑q;refine⟨l,vs,y,rfl,rfl,h1,(),?_⟩;let⟨v,x⟩:=s.O5 (b:=b) hv o h1 (a.snoc (UG A hk (aX D)));exact w.nx _ σ _ _ v (A.frs.trans x) hn
 ·exact t.elim)
def Za(i:Nat)(tj te:DE):DS:=λP ρ=>match ρ[i]? with
 |some (.sp r b ds)=>tj ρ λ_ dj=>te ρ λk d=>match dj with
  |.int j=>(norm k d).le (spK b)=true/\0<=j/\j.toNat<=⇑ds/\⇑ds<1000/\P.nx ((forget r ρ).set i (.sp r b (ds.take j.toNat++d::ds.drop j.toNat)))
  |_=>False
 |_=>False
theorem zU:∀{as c:List Addr},as.map V.ref=c.map V.ref->as=c
 |[],[],_=>rfl
 |a::as,b::c,e=>by
  rw[ö,ö]at e;injection e with e1 e2
  rw[V.ref.inj e1,zU e2]
 |[],_::_,e=>by cases e
 |_::_,[],e=>by cases e
def uJ(js:List Nat)(t:DS):DS:=λP ρ=>t P (js.foldl (λρ j=>ρ.set j .any) ρ)
theorem EnvD.drops{p:Pn}{a H:Hp}{own:Addr->Option Nat}{σ:L2.St}:∀(js:List Nat) {ρ:List Sl},EnvD p a own σ H ρ->EnvD p a own σ H (js.foldl (λρ j=>ρ.set j .any) ρ)
 |[],_,E=>E
 |_::js,_,E=>EnvD.drops js E.drop
def uE(js:List Nat)(h:jE X rest t):jE X rest (uJ js t):=PSs.wk' h (by
 rintro Q σ H ⟨p,a,own,ρ,P,E,q,w⟩;exact⟨p,a,own,_,P,E.drops js,q,w⟩)
def yK(i:Nat)(tj te:DE):DS:=λP ρ=>match ρ[i]? with
 |some (.rw r L)=>tj ρ λ_ dj=>match dj with
  |.int j=>∃n l,ixN ⇑L j=some n/\L[n]?=some l/\te ρ λ_ d=>cM d=true/\⇑l<1000/\P.nx ((forget r ρ).set i (.rw r (L.set n (l++[d]))))
  |_=>False
 |_=>False
def dG{i:Nat}(h:PS X st (rJ (tBM X.K "list" qH (tOp (Wt X.K) (jX i) (aK tj)) (kE (bw te fB))))):PDS X st (yK i tj te):=PS.wk' h (by
 rintro Q σ H ⟨p,H0,own,ρ,P,E,q,w⟩;unfold yK at q;split at q
 ·rename_i r L hr;let⟨st,as,hv,R0⟩:=E.slot i _ hr;refine⟨.ref st,hv,p,H0,own,ρ,_,E,q,λkj dj vj H1 M A1 rj=>?_⟩;cases dj with
  |int j =>
   have J:=E.go A1.kp A1.pen;let⟨W,c,x,C⟩:=J.slot i _ hr;rw[hv]at x;cases x;have ej:=Rp.int' rj;subst ej;let⟨n,l,hn,hl,M⟩:=M;have u:=(Ç.mp hl).1;rw[Ë u]at hl;cases hl;have g:n<⇑c:=by rw[C.len];exact u
   have R:atI (c.map V.ref) j=some (.ref c[n]):=by
    unfold L2.atI;rw[Ä,C.len,hn];show(c.map V.ref)[n]?=_;rw[Ý,Ë g];rfl
   let⟨vs,T,rv⟩:=C.row n c[n] L[n] (Ë g) (Ë u);refine⟨st,_,j,.ref c[n],rfl,rfl,SqL.of C.top,R,.inl ⟨rfl,vs,SqL.of T⟩,p,H0,own,ρ,_,J,qT M,?_⟩;rintro ks ws N ⟨k,d,rfl,im,len,nx⟩ I rk;let⟨y,rfl,U⟩:=cJ rk;have U:Rp (λ_=>False) N y d:=Rp.imm U im;have E2:=J.go I.kp I.pen;let⟨W,b,x,R2⟩:=E2.slot i _ hr;rw[hv]at x;cases x
   -- the rows are those of before
   have O:b=c:=by
    have A:=I.kp st _ C.top (J.ow st r (C.ow st Í)).2.1;rw[R2.top]at A;have D:=(HO.lst.inj (Ö A))
    exact zU D
   subst O;let⟨B,f,G⟩:=R2.row n b[n] L[n] (Ë g) (Ë u);have oa:=R2.ow b[n] (É _ (ĳ g));have h24:=ą;have ln:=⇑G;refine⟨b[n],B,y,rfl,rfl,f,(),?_⟩;have Y:∀a xs,N a=some (.tup xs)->upd N b[n] (.lst (B++[y])) a=some (.tup xs):=λa xs e=>by
    rw[aj];exact e;intro z;subst z;rw[f]at e;cases e
   have E3:=E2.write (o':=.lst (B++[y])) oa f (λxs z=>nomatch z);have F:=Š.mp R2.nd;have E4:=E3.put (v:=.ref st) (i:=i) (s:=.rw r (L.set n (L[n]++[d]))) ⟨st,b,hv,⟨?_,R2.nd,R2.ow,by rw[List.length_set];exact R2.len,λm a ds A D=>?_⟩⟩
   ·exact w.nx _ σ _ _ E4 ((A1.frs.trans I.frs).trans (fW oa f λxs z=>nomatch z)) nx
   ·rw[aj];exact R2.top;intro z;exact F.1 (by rw[z];exact ĳ g)
   ·by_cases S:m=n
    ·subst S;rw[đ u]at D;rw[Ë g]at A;cases A;cases D;exact⟨_,ao,(G.mono (λ_ o=>o) (λ_ _ o=>o.elim) Y).snoc (U.mono (λ_ o=>o) (λ_ _ o=>o.elim) Y)⟩
    ·rw[Ŋ (Ĩ S)]at D;let⟨Z,h3,r3⟩:=R2.row m a ds A D;refine⟨Z,?_,r3.mono (λ_ o=>o) (λ_ _ o=>o.elim) Y⟩;rw[aj];exact h3;intro z;have hm:=(Ç.mp A).1;have hz:b[m]=b[n]:=by rw[(Ç.mp A).2];exact z
     exact S ((List.getElem_inj F.2).mp hz)
  |_=>exact M.elim
 ·exact q.elim)
def Nt(i r:Nat)(ti:DI):DS:=λP ρ=>ti ρ λk ds=>⇑ds<=1000/\ux r ρ i=true/\P.nx (ρ.set i (.rw r (Ú ⇑ds [])))
def jz{i n j:Nat}(r:Nat)(h:PS X st (pZ (tLC n (LR ti) (λ_=>GD (gNm j)) (λ_=>liftT λ_ P=>P true) (λ_=>Tf Td)) (iR i))):PDS X st (Nt i r ti):=PS.wk' h (by
 rintro Q σ H ⟨p,f,own,ρ,P,E,q,w⟩;refine⟨p,f,own,ρ,_,E,q,λk ds J H1 Ok h A W o1=>?_⟩;let⟨hlen,hf,nx⟩:=h;have okS:∀d,Kp p H1 d->p.PI d->Ok d:=λd K i=>W.stab H1 d o1 (λb o n e=>K b o e (iw A n.1)) (iG A K);refine⟨λi m ys d=>m=⇑ds - i/\i<=⇑ds/\Kp p H1 d/\p.PI d/\∃as:List Addr,ys=as.map V.ref/\as.Nodup/\⇑as=i/\∀a∈as,H a=none/\d a=some (.lst []),⟨_,rfl,Ă _,Kp.refl,A.pen,[],rfl,.nil,rfl,λa ha=>nomatch ha⟩,?_⟩;rintro c B m ys d ⟨rfl,hi,N,M,as,rfl,nd,la,hn⟩;have T:=okS d N M;have Y:=A.go N M;have h24:=ą;by_cases g:B<⇑ds
 ·refine .inr ⟨W.go B d T g,by rw[Ä];lia,λys' H2=>Kp p H1 H2/\p.PI H2/\∃as:List Addr,ys'=as.map V.ref/\as.Nodup/\⇑as=B+1/\∀a∈as,H a=none/\H2 a=some (.lst []),λys' H2 h=>⟨_,(),rfl,g,h⟩,λx H2 y=>?_⟩;let⟨G,U⟩:=W.yld B d x H2 T y;have U:=U ds[B] (Ë g);have I2:p.PI H2:=p.mono d H2 M λb o _ e=>G b o e;have K2:Kp p H1 H2:=N.trans (Kp.of G);have I:=A.go K2 I2;have D:EnvD p f own σ H2 ρ:=E.go I.kp I.pen;refine⟨p,f,own,_,_,_,λ_=>True,D.comp n,gj (RG A U),trivial,λσ3 ρ3 L t3=>?_⟩;refine⟨p,f,own,ρ3,λb=>b=true,L,rfl,λb H4 h4 A4=>?_⟩;subst h4;refine au ⟨(by show 0<=sizeLine;lia),λl hl=>?_⟩;have A5:At p f own H H4:=I.base A4;let⟨F,R,S⟩:=A5.new hl (.lst []);refine⟨(K2.trans A4.kp).trans F,R,as++[l],by rw[î];rfl,?_,by rw[Ñ,la];rfl,λa ha=>?_⟩
  ·refine ŵ.mpr ⟨nd,by simp,λa ha b hb=>?_⟩;rw[Ê.mp hb];intro z;subst z;have e:=A4.kp a _ (G a _ (hn a ha).2) (A.nfb (hn a ha).1);rw[hl]at e;cases e
  ·rcases â.mp ha with z|z
   ·refine⟨(hn a z).1,?_⟩;have e:=A4.kp a _ (G a _ (hn a z).2) (A.nfb (hn a z).1);exact F a _ e (A.nfb (hn a z).1)
   ·rw[Ê.mp z];exact⟨S,ao⟩
 ·have e:B=⇑ds:=()
  subst e;refine .inl ⟨W.stop d T,λl hl=>?_⟩;let⟨F,R,S⟩:=Y.new hl (.lst (as.map V.ref));have C:=Y.go F R;show Q.nx (σ.set i (some (.ref l))) (upd d l (.lst (as.map V.ref)));have D:EnvD p f (aU r own) σ H (ρ.set i .any):=(E.drop (i:=i)).clear hf;have Z:At p f (aU r own) H (upd d l (.lst (as.map V.ref))):=⟨C.k0,C.kp,C.penb,C.pen,D.ow⟩
  have L:=D.adopt r Z;have u:l∉as:=λz=>by rw[(hn l z).2]at hl;cases hl
  have E4:=L.set (i:=i) (v:=.ref l) (s:=.rw r (Ú ⇑ds [])) λhli=>⟨l,as,đ hli,⟨ao,Š.mpr ⟨u,nd⟩,λa ha=>?_,by rw[la,List.length_replicate],λm a es e1 e2=>?_⟩⟩
  ·rw[List.set_set]at E4;exact w.nx _ _ _ _ E4 (gJ.trans (jW Z)) nx
  ·rcases Þ.mp ha with rfl|ha
   ·exact jV S ao
   ·exact jV (hn a ha).1 (by rw[aj (λz:a=l=>u (by rw[←z];exact ha))];exact(hn a ha).2)
  ·have ha:=Ì e1;have O:es=[]:=by
    have:=Ì e2;exact(List.mem_replicate.mp this).2
   subst O;exact⟨[],by rw[aj (λz:a=l=>u (by rw[←z];exact ha))];exact(hn a ha).2,.nil⟩)
def gZ:PD X (.Dict [] [] pos) (λ_ P=>P .new (.dict [])):=PE.wk K4 (by
 rintro σ H Q ⟨p,a,own,ρ,P,E,t,q⟩;have A:=E.at;exact λd hd=>let⟨k2,i2,nw⟩:=A.new hd (.dK []);q _ _ _ _ t (A.go k2 i2) (.dct nw ao .nil))
end
@[reducible] def grL(K:ã)(sc:Addr)(ns:List Int):Gr:=⟨λp H0=>SqL K H0 sc (ns.map V.int)/\∀b,p.fp b->H0 b=none⟩
def FW(K:ã):Sp:=λvs H Q _=>∃(a:Addr)(ns:List Int),vs=[.ref a]/\SqL K H a (ns.map V.int)/\∀H',Q (.bl true) H'
section
variable{X:Cx}{k1 k2 j:Nat}{x y z:Str}{ps1 ps2:List Str}{e:Zv}{es1 es2:List Zv}{p1 p2 p3 pos pos1:Pos}{K:ã}{sc:Addr}{ns:List Int}{C:Pn->Prop}{pre:List D->Prop}{g:List D->(D->Prop)->Prop}{i:Nat}
end
variable [Gr]
section
variable{X:Cx}{pos pos':Pos}{a b:Zv}{t:DA}
end
variable [Gr]
mutual
inductive Tm where
 |int (i:Int)
 |neg (i:Int)
 |bl (b:Bool)
 |non
 |str (s:Str)
 |var (i:Nat)
 |lst (ts:Tms)
 |tup (ts:Tms)
 |dct
inductive Tms where
 |nil
 |cons (t:Tm) (ts:Tms)
end
def Ol(sc:Zu)(x:Str):Bool:=sc.names.lookup x==some .local || sc.names.lookup x==some .cell || sc.names.lookup x==some .free
def Oj{sc:Zu}{x:Str}(h:Ol sc x=true):Vis sc x:=by
 unfold Ol at h;rw[Bool.or_eq_true,Bool.or_eq_true,eM,eM,eM]at h;rcases h with(h|h)|h
 ·exact .inl h
 ·exact .inr (.inl h)
 ·exact .inr (.inr h)
def cI(i:Int):Sc->Bool
 |.int j=>i==j
 |_=>false
def cB(b:Bool):Sc->Bool
 |.bool c=>b==c
 |_=>false
def cS(s:Str):Sc->Bool
 |.str u=>s==u
 |_=>false
def cN:Sc->Bool
 |.none=>true
 |_=>false
def Xm:UnaryOp->Bool
 |.USub=>true
 |_=>false
def isC(f:Sc->Bool):Zv->Bool
 |.Constant c _ _=>f c
 |_=>false
def isN(i:Int):Zv->Bool
 |.UnaryOp o e _=>Xm o&&isC (cI i) e
 |_=>false
def isV(N:List Str)(sc:Zu)(i:Nat):Zv->Bool
 |.Name x _=>N[i]?==some x&&(Ol sc x&&(!(x==("__debug__":Str))&&!(x==("__classdict__":Str))))
 |_=>false
def isD:Zv->Bool
 |.Dict ks vs _=>ks.isEmpty&&vs.isEmpty
 |_=>false
mutual
def okT(N:List Str)(sc:Zu):Tm->Zv->Bool
 |.int i=>isC (cI i)
 |.neg i=>isN i
 |.bl b=>isC (cB b)
 |.non=>isC cN
 |.str s=>isC (cS s)
 |.var i=>isV N sc i
 |.lst ts=>λe=>match e with
  |.List es _=>tO N sc ts es
  |_=>false
 |.tup ts=>λe=>match e with
  |.Tuple es _ _=>tO N sc ts es
  |_=>false
 |.dct=>isD
def tO(N:List Str)(sc:Zu):Tms->List Zv->Bool
 |.nil=>λes=>es.isEmpty
 |.cons t ts=>λes=>match es with
  |[]=>false
  |e::es=>okT N sc t e&&tO N sc ts es
end
mutual
def evT(ρ:List Sl):Tm->Option (Kd×D)
 |.int i=>some (.imm,.int i)
 |.neg i=>some (.imm,.int (-i))
 |.bl b=>some (.imm,.bool b)
 |.non=>some (.imm,.none)
 |.str s=>some (.imm,.str s)
 |.var i=>match ρ[i]? with
  |some (.im d)=>some (.imm,d)
  |some (.sh d)=>some (.shr,d)
  |some (.sn d)=>some (.snw,d)
  |some (.dw r d)=>some (.reg r,d)
  |_=>none
 |.lst ts=>match jw ρ ts with
  |some ks=>some ((joins ks).join .new,.list (ks.map (·.2)))
  |none=>none
 |.tup ts=>match jw ρ ts with
  |some ks=>some (norm (joins ks) (.tuple (ks.map (·.2))),.tuple (ks.map (·.2)))
  |none=>none
 |.dct=>some (.new,.dict [])
def jw(ρ:List Sl):Tms->Option (List (Kd×D))
 |.nil=>some []
 |.cons t ts=>match evT ρ t,jw ρ ts with
  |some k,some ks=>some (k::ks)
  |_,_=>none
end
mutual
def smT:Tm->Bool
 |.lst ts=>jY 1000 ts
 |.tup ts=>jY 1000 ts
 |_=>true
def jY:Nat->Tms->Bool
 |_,.nil=>true
 |n+1,.cons t ts=>smT t&&jY n ts
 |0,.cons _ _=>false
end
def Tg(tm:Tm):DE:=λρ P=>∃k d,evT ρ tm=some (k,d)/\P k d
def Y5(ts:Tms):DA:=λρ P=>∃ks,jw ρ ts=some ks/\P ks
section
variable{X:Cx}{e:Zv}{es:List Zv}
def PD.wk{t t':DE}(h:PD X e t)(w:∀ρ P,t' ρ P->t ρ P):PD X e t':=PE.wk h (by
 rintro σ H Q ⟨p,a,own,ρ,P,E,t,q⟩;exact⟨p,a,own,ρ,P,E,w _ _ t,q⟩)
def PDA.wk{t t':DA}(h:PDA X es t)(w:∀ρ P,t' ρ P->t ρ P):PDA X es t':=PA.wk h (by
 rintro σ H Q ⟨p,a,own,ρ,P,E,t,q⟩;exact⟨p,a,own,ρ,P,E,w _ _ t,q⟩)
theorem Em{ρ:List Sl}:∀{ts:Tms}{ks:List (Kd×D)}{n:Nat},jY n ts=true->jw ρ ts=some ks->⇑ks<=n
 |.nil,ks,n,_,e=>by
  simp only[jw]at e;cases e;exact Ă _
 |.cons t ts,ks,0,h,e=>by simp[jY]at h
 |.cons t ts,ks,n+1,h,e=>by
  simp only[jY,Ï]at h;simp only[jw]at e;cases a:evT ρ t with
  |none=>rw[a]at e;cases e
  |some k =>
   cases b:jw ρ ts with
   |none=>rw[a,b]at e;cases e
   |some ks' =>
    rw[a,b]at e;cases e;have:=Em h.2 b;rw[ñ];lia
def FQ{N:List Str}{sc:Zu}{t:Tm}(h:okT N sc t e=true):zS X e es:=by
 cases e <;> first
  |rfl
  |(cases t <;> exact eI h Ð)
def ug{f:Sc->Bool}(h:isC f e=true):∃c k p,e=.Constant c k p/\f c=true:=by
 cases e with
 |Constant c k p=>exact⟨c,k,p,rfl,h⟩
 |_=>exact eI h Ð
def SQ{i:Int}{c:Sc}(h:cI i c=true):c=.int i:=by
 cases c with
 |int j=>exact eJ Const.int (beq_iff_eq.mp h).symm
 |_=>exact eI h Ð
section
variable{N:List Str}{sc:Zu}
def QD{i:Int}(h:okT N sc (Tm.int i) e=true):∃k p,e=.Constant (.int i) k p:=by
 let⟨c,k,p,rfl,h⟩:=ug h;rw[SQ h];exact⟨_,_,rfl⟩
def Ve{i:Bool}(h:okT N sc (Tm.bl i) e=true):∃k p,e=.Constant (.bool i) k p:=by
 let⟨c,k,p,rfl,h⟩:=ug h;cases c with
 |bool c=>exact⟨k,p,by rw[show i=c from beq_iff_eq.mp h]⟩
 |_=>exact eI h Ð
def QB(h:okT N sc Tm.non e=true):∃k p,e=.Constant .none k p:=by
 let⟨c,k,p,rfl,h⟩:=ug h;cases c with
 |none=>exact⟨k,p,rfl⟩
 |_=>exact eI h Ð
def Qz{i:Str}(h:okT N sc (Tm.str i) e=true):∃k p,e=.Constant (.str i) k p:=by
 let⟨c,k,p,rfl,h⟩:=ug h;cases c with
 |str c=>exact⟨k,p,by rw[show i=c from beq_iff_eq.mp h]⟩
 |_=>exact eI h Ð
def inv_neg{i:Int}(h:okT N sc (Tm.neg i) e=true):∃k p q,e=.UnaryOp .USub (.Constant (.int i) k p) q:=by
 cases e with
 |UnaryOp o e q =>
  have h:=Ï _ _ ▸ (show(Xm o&&isC (cI i) e)=true from h);let⟨c,k,p,rfl,h2⟩:=ug h.2;rw[SQ h2];cases o with
  |USub=>exact⟨k,p,q,rfl⟩
  |_=>exact eI h.1 Ð
 |_=>exact eI h Ð
def Qx{i:Nat}(h:okT N sc (Tm.var i) e=true):∃x p,e=.Name x p/\N[i]?=some x/\Vis sc x/\zB x/\(x==("__classdict__":Str))=false:=by
 cases e with
 |Name x p =>
  have h:(N[i]?==some x&&(Ol sc x&&(!(x==("__debug__":Str))&&!(x==("__classdict__":Str)))))=true:=h;rw[Ï,Ï,Ï,eM,ş,ş]at h;exact⟨_,_,rfl,h.1,Oj h.2.1,h.2.2.1,h.2.2.2⟩
 |_=>exact eI h Ð
def QC{ts:Tms}(h:okT N sc (Tm.lst ts) e=true):∃es p,e=.List es p/\tO N sc ts es=true:=by
 cases e with
 |List es p=>exact⟨es,p,rfl,h⟩
 |_=>exact eI h Ð
def Qy{ts:Tms}(h:okT N sc (Tm.tup ts) e=true):∃es k p,e=.Tuple es k p/\tO N sc ts es=true:=by
 cases e with
 |Tuple es k p=>exact⟨es,k,p,rfl,h⟩
 |_=>exact eI h Ð
def QF(h:okT N sc Tm.dct e=true):∃p,e=.Dict [] [] p:=by
 cases e with
 |Dict ks vs p =>
  have h:=Ï _ _ ▸ (show(ks.isEmpty&&vs.isEmpty)=true from h);exact⟨p,by rw[List.isEmpty_iff.mp h.1,List.isEmpty_iff.mp h.2]⟩
 |_=>exact eI h Ð
end
mutual
theorem Ea{N:List Str}{sc:Zu}(hN:X.N=N)(hs:X.env.scope=sc):∀(t:Tm)(e:Zv),okT N sc t e=true->smT t=true->PD X e (Tg t)
 |.int i,e,h,_=>by
  let⟨k,p,rfl⟩:=QD h;exact PD.wk jf λρ P ⟨k,d,e,q⟩=>by simp only[evT]at e;cases e;exact q
 |.neg i,e,h,_=>by
  let⟨k,p,q,rfl⟩:=inv_neg h;exact PD.wk (cV jf) λρ P ⟨k,d,e,q⟩=>by simp only[evT]at e;cases e;exact q
 |.bl b,e,h,_=>by
  let⟨k,p,rfl⟩:=Ve h;exact PD.wk Gs λρ P ⟨k,d,e,q⟩=>by simp only[evT]at e;cases e;exact q
 |.non,e,h,_=>by
  let⟨k,p,rfl⟩:=QB h;exact PD.wk xq λρ P ⟨k,d,e,q⟩=>by simp only[evT]at e;cases e;exact q
 |.str s,e,h,_=>by
  let⟨k,p,rfl⟩:=Qz h;exact PD.wk w6 λρ P ⟨k,d,e,q⟩=>by simp only[evT]at e;cases e;exact q
 |.var i,e,h,_=>by
  let⟨x,p,rfl,h1,h2,f,g⟩:=Qx h;refine PD.wk (dv i (by rw[hN];exact h1) (by rw[hs];exact h2) f g) λρ P ⟨k,d,e,q⟩=>?_;simp only[evT]at e;unfold tV;split at e <;> first
   |(cases e;rename_i z;rw[z];exact q)
   |cases e
 |.lst ts,e,h,s=>by
  let⟨es,p,rfl,h1⟩:=QC h;have c:jY 1000 ts=true:=by simpa only[smT]using s
  refine PD.wk (qQ (yc hN hs ts es 1000 h1 c)) λρ P ⟨k,d,e,q⟩=>?_;simp only[evT]at e;cases a:jw ρ ts with
  |none=>rw[a]at e;cases e
  |some ks =>
   rw[a]at e;cases e;exact⟨ks,a,Em c a,q⟩
 |.tup ts,e,h,s=>by
  let⟨es,k,p,rfl,h1⟩:=Qy h;have c:jY 1000 ts=true:=by simpa only[smT]using s
  refine PD.wk (lW (yc hN hs ts es 1000 h1 c)) λρ P ⟨k,d,e,q⟩=>?_;simp only[evT]at e;cases a:jw ρ ts with
  |none=>rw[a]at e;cases e
  |some ks =>
   rw[a]at e;cases e;exact⟨ks,a,Em c a,q⟩
 |.dct,e,h,_=>by
  let⟨p,rfl⟩:=QF h;exact PD.wk gZ λρ P ⟨k,d,e,q⟩=>by simp only[evT]at e;cases e;exact q
theorem yc{N:List Str}{sc:Zu}(hN:X.N=N)(hs:X.env.scope=sc):∀(ts:Tms)(es:List Zv)(n:Nat),tO N sc ts es=true->jY n ts=true->PDA X es (Y5 ts)
 |.nil,es,n,h,_=>by
  cases es with
  |nil=>exact PDA.wk jO λρ P ⟨ks,e,q⟩=>by simp only[jw]at e;cases e;exact q
  |cons e es=>exact eI h Ð
 |.cons t ts,es,n,h,s=>by
  cases es with
  |nil=>exact eI h Ð
  |cons e es =>
   have h:=Ï _ _ ▸ (show(okT N sc t e&&tO N sc ts es)=true from h);cases n with
   |zero=>simp[jY]at s
   |succ n =>
    simp only[jY,Ï]at s;refine PDA.wk (dU (Ea hN hs t e h.1 s.1) (yc hN hs ts es n h.2 s.2) (FQ h.1)) λρ P ⟨ks,e,q⟩=>?_;simp only[jw]at e;cases a:evT ρ t with
    |none=>rw[a]at e;cases e
    |some k =>
     cases b:jw ρ ts with
     |none=>rw[a,b]at e;cases e
     |some ks' =>
      rw[a,b]at e;cases e;exact⟨k.1,k.2,a,ks',b,q⟩
end
def VH(ts:Tms)(t:DA):DA:=λρ P=>∃ks,jw ρ ts=some ks/\t ρ λks'=>P (ks++ks')
theorem Kc{N:List Str}{sc:Zu}(hN:X.N=N)(hs:X.env.scope=sc){t2:DA}{b:List Zv}(h2:PDA X b t2):∀(ts:Tms)(a:List Zv)(n:Nat),tO N sc ts a=true->jY n ts=true->PDA X (a++b) (VH ts t2)
 |.nil,es,n,h,_=>by
  cases es with
  |nil=>exact PDA.wk h2 λρ P ⟨ks,e,q⟩=>by simp only[jw]at e;cases e;exact q
  |cons e es=>exact eI h Ð
 |.cons t ts,es,n,h,s=>by
  cases es with
  |nil=>exact eI h Ð
  |cons e es =>
   have h:=Ï _ _ ▸ (show(okT N sc t e&&tO N sc ts es)=true from h);cases n with
   |zero=>simp[jY]at s
   |succ n =>
    simp only[jY,Ï]at s;refine PDA.wk (dU (Ea hN hs t e h.1 s.1) (Kc hN hs h2 ts es n h.2 s.2) (FQ h.1)) λρ P ⟨ks,e,q⟩=>?_;simp only[jw]at e;cases c:evT ρ t with
    |none=>rw[c]at e;cases e
    |some k =>
     cases d:jw ρ ts with
     |none=>rw[c,d]at e;cases e
     |some ks' =>
      rw[c,d]at e;cases e;exact⟨k.1,k.2,c,ks',d,q⟩
def xH(N:List Str)(sc:Zu)(tm:Tm)(h:okT N sc tm e=true)(hN:X.N=N:=by rfl)(hs:X.env.scope=sc:=by rfl)(s:smT tm=true:=by decide +kernel):PD X e (Tg tm):=Ea hN hs tm e h s
def qL(n:Nat)(N:List Str)(sc:Zu)(ts:Tms){t2:DA}(h2:PDA X (es.drop n) t2)(h:tO N sc ts (es.take n)=true)(hN:X.N=N:=by rfl)(hs:X.env.scope=sc:=by rfl)(s:jY 1000 ts=true:=by decide +kernel):PDA X es (VH ts t2):=by
 have r:=Kc hN hs h2 ts (es.take n) 1000 h s;rw[List.take_append_drop]at r;exact r
end
end Dl
namespace L2
open PySem PySem.Spec PyProof.Rows HT
section
variable{X:Cx}{e:Zv}{te:TE}{p1 p2 p3 pos:Pos}
def V7(K:ã)(te:TE):TE:=λσ H Q=>te σ H λx H1=>∃a xs,x=.ref a/\SqL K H1 a xs/\∀p,H1 p=none->Q (.ref p) (upd H1 p (.lst xs.reverse))
def Px(he:PE X e te):PE X (.Subscript e (.Slice none none (some (.UnaryOp .USub (.Constant (.int 1) 0 p1) p2)) p3) pos) (V7 X.K te):=by
 intro c s σ H Q I h;refine XY (thn (he c s σ H _ I h) λv s1 ⟨x,H1,I1,r1,a,xs,ex,hx,q⟩=>?_);subst ex;cases r1;refine wpAny_Slice ?_;rw[XV,XW];refine Ù (Ù ?_);refine ZQ (ZJ ?_);refine neg_int ?_;have i:Inv X c σ H1 { s1 with toks:=s1.toks+1+1 }:=I1.tok _;have f:Inv X c σ H1 { s1 with heap:=s1.heap.push { cls:=.type "slice",data:=.fields #[.none,.none,.int (-1) (s1.toks+1)]},toks:=s1.toks+1+1 }:=i.kept λb ob q=>Ò _ q;let⟨its,r,ht,g⟩:=f.list hx;have d:its.toArray.size=⇑xs:=by rw[Ø];exact r.length.symm
 show wpAny (model X.prog X.w) X.A (XZ e _ (.ref a) (.ref ↥s1)) (EP X c σ Q) X.xe { s1 with heap:=s1.heap.push { cls:=.type "slice",data:=.fields #[.none,.none,.int (-1) (s1.toks+1)]},toks:=s1.toks+1+1 };refine tail_any (ops:=[.ref a,.ref ↥s1]) ht.isList.typeIs slot_list_getitem.lookup ?_ (by with_unfolding_all rfl);refine Wp ht.isList (Heap.IsSliceOf.new ..) .none .none (.int (-1) _) (by simp) ?_ (by rw[d];exact g);rw[W.krv_pick];refine⟨.ref _,_,f.laid (t':=s1.toks+1+1) (o:=.lst xs.reverse) (λb ob q=>Ò _ q) (Õ _) ?_,rfl,q _ (f.hok.fresh (Õ _))⟩;refine⟨by rw[Ŀ];exact g,its.reverse,0,r.reverse,?_⟩;exact è _ rfl
end
end L2
namespace Dl
open PySem L2 PyProof.Rows
variable [Gr]
section
variable{X:Cx}{pos p1 p2 p3:Pos}{a b e:Zv}{es:List Zv}{ta tb te:DE}{t:DA}
theorem Rps.rev{ok:Addr->Prop}{H:Hp}:∀{vs:List V}{ds:List D},Rps ok H vs ds->Rps ok H vs.reverse ds.reverse
 |_,_,.nil=>.nil
 |_,_,.cons h t=>by
  rw[List.reverse_cons,List.reverse_cons];exact(Rps.rev t).snoc h
def V6(te:DE):DE:=λρ P=>te ρ λk d=>match d with
 |.list ds=>newP k ds.reverse λk'=>P k' (.list ds.reverse)
 |_=>False
theorem qN(he:PD X e te):PD X (.Subscript e (.Slice none none (some (.UnaryOp .USub (.Constant (.int 1) 0 p1) p2)) p3) pos) (V6 te):=PE.wk (Px he) (by
 rintro σ H Q ⟨p,i,own,ρ,P,E,t,q⟩;refine⟨p,i,own,ρ,_,E,t,λk d v H1 h A r=>?_⟩;cases d with
 |list ds =>
  let⟨x,xs,j,o,h1,s⟩:=Rp.aR r;subst j;refine⟨x,xs,rfl,SqL.of h1,λl hl=>?_⟩;let⟨g,m,n⟩:=A.new hl (.lst xs.reverse);let⟨u,c,f⟩:=fD A (cg A g s.rev) n ao h;exact q _ _ _ _ c (A.go g m) f
 |_=>exact h.elim)
def V4(te:DE)(f c:DO):DE:=λρ P=>te ρ λk d=>f ρ λlo=>c ρ λhi=>match d with
 |.list ds=>newP k (cD ds lo hi) λk'=>P k' (.list (cD ds lo hi))
 |.tuple ds=>¬(HT.sIx ⇑ds 0 lo=0/\HT.sIx ⇑ds ⇑ds hi=⇑ds)/\P (norm k (.tuple (cD ds lo hi))) (.tuple (cD ds lo hi))
 |_=>False
theorem iQ{u hi:Option Zv}{B z:DO}(he:PD X e te)(hl:PO X u (tY B))(hh:PO X hi (tY z)):PD X (.Subscript e (.Slice u hi none p2) pos) (V4 te B z):=PE.wk (zZ (SlR.or Ga Tn) he hl hh) (by
 rintro σ H Q ⟨p,i,own,ρ,P,E,t,q⟩;refine⟨p,i,own,ρ,_,E,t,λk d v H1 h A r=>?_⟩;refine⟨p,i,own,ρ,_,E.go A.kp A.pen,h,λo1 H2 h2 A2=>?_⟩;refine⟨p,i,own,ρ,_,(E.go A.kp A.pen).go A2.kp A2.pen,h2,λo2 H3 h3 A3=>?_⟩;have c:=(A.base A2).base A3;have y:=gb (A.base A2) A3.kp (gb A A2.kp r);cases d with
 |list ds =>
  let⟨x,xs,j,o,h1,g⟩:=Rp.aR y;subst j;refine .inl ⟨x,xs,rfl,SqL.of h1,λl hl=>?_⟩;let⟨f,n,w⟩:=c.new hl (.lst (uK xs o1 o2));let⟨C,m,s⟩:=fD c (cg c f (g.cut o1 o2)) w ao h3;exact q _ _ _ _ m (c.go f n) s
 |tuple ds =>
  let⟨x,xs,j,h1,g⟩:=Rp.dX y;subst j;refine .inr ⟨x,xs,rfl,SqT.of h1,by rw[⇑g];exact h3.1,λl hl=>?_⟩;let⟨f,n,w⟩:=c.new hl (.tup (uK xs o1 o2));exact q _ _ _ _ h3.2 (c.go f n) (aX (.tup ao (cg c f (g.cut o1 o2))))
 |_=>exact h3.elim)
end
variable [Gr]
abbrev IM:=List (Int×D)
def kvD(m:IM):List (D×D):=m.map λp=>(Â p.1,p.2)
def cC(m:IM)(k:Int):Bool:=m.any λp=>decide (p.1=k)
def ju(m:IM)(k:Int):Option D:=(m.find? λp=>decide (p.1=k)).map (·.2)
def d8(m:IM)(k:Int)(d:D):IM:=if cC m k=true then m.map (λp=>if p.1=k then(p.1,d)else p)else m++[(k,d)]
def uh(m:IM):Bool:=m.all λp=>cM p.2
def Mi{k:Key}{i:Int}(h:kD k=.int i):k=.inl i:=by
 cases k with
 |inl j=>cases h;rfl
 |inr x=>cases h
theorem Rkv.kv:∀{ok:Addr->Prop}{H:Hp}{kvs:List (Key×V)}{m:IM},Rkv ok H kvs (kvD m)->∃vs:List V,kvs=(m.map (·.1)).zipWith (λi v=>(ü i,v)) vs/\Rps ok H vs (m.map (·.2))
 |_,_,_,[],h=>by cases h;exact⟨[],rfl,.nil⟩
 |_,_,_,p::m,h=>by
  unfold kvD at h;rw[ö]at h;generalize hk:Â p.1=kk at h;cases h with
  |cons h t =>
   rename_i k v a;let⟨vs,rfl,r⟩:=Rkv.kv (m:=m) t;have e:=Mi hk.symm;subst e;exact⟨v::vs,rfl,.cons h r⟩
theorem qW:∀{m:IM}{vs:List V} (k:Int),⇑vs=⇑m->(((m.map (·.1)).zipWith (λi v=>((ü i:Key),v)) vs).any λkv=>decide (kv.1=ü k))=cC m k
 |[],[],_,_=>rfl
 |p::m,v::vs,k,h=>by
  have a:=qW (m:=m) (vs:=vs) k (by simpa using h);have e:decide ((ü p.1:Key)=ü k)=decide (p.1=k):=by
   by_cases c:p.1=k <;> simp[c]
  show(decide ((ü p.1:Key)=ü k) || _)=(decide (p.1=k) || _)
  rw[e];exact eJ _ a
 |[],_::_,_,h=>by cases h
 |_::_,[],_,h=>by cases h
def zx{kvs:List (Key×V)}{k:Key}:(iY kvs k).isSome=kvs.any λkv=>decide (kv.1=k):=by
 induction kvs with
 |nil=>rfl
 |cons p r ih =>
  unfold iY at ih ⊢;rw[š,ź];cases h:decide (p.1=k)with
  |true=>rfl
  |false=>exact ih
theorem GP:∀{ok:Addr->Prop}{H:Hp}{m:IM}{vs:List V}{k:Int}{d:D},Rps ok H vs (m.map (·.2))->ju m k=some d->∃v,iY ((m.map (·.1)).zipWith (λi v=>((ü i:Key),v)) vs) (ü k)=some v/\Rp ok H v d
 |_,_,[],_,_,_,_,h=>by cases h
 |_,_,p::m,_,k,d,.cons r t,h=>by
  unfold ju at h;rw[š]at h;by_cases c:p.1=k
  ·rw[decide_eq_true c]at h;cases h;refine⟨_,?_,r⟩;show iY ((ü p.1,_)::_) (ü k)=_;rw[lF (by rw[c])]
  ·rw[eA c]at h;let⟨v,e,a⟩:=GP (m:=m) (k:=k) (d:=d) t h;refine⟨v,?_,a⟩;show iY ((ü p.1,_)::_) (ü k)=_;unfold iY at e ⊢;rw[š,eA (λz=>c (Sum.inl.inj z))];exact e
def GK:∀{m:IM}{vs:List V}{k:Int}{v:V}{ok:Addr->Prop}{H:Hp}{d:D},Rps ok H vs (m.map (·.2))->Rp ok H v d->Rkv ok H (putK ((m.map (·.1)).zipWith (λi v=>((ü i:Key),v)) vs) (ü k) v) (kvD (d8 m k d)):=by
 intro m vs k v ok H d g o;have hl:⇑vs=⇑m:=by rw[⇑g,Ä]
 have j:∀{m:IM}{vs:List V},Rps ok H vs (m.map (·.2))->Rkv ok H ((m.map (·.1)).zipWith (λi v=>((ü i:Key),v)) vs) (kvD m):=by
  intro m;induction m with
  |nil=>intro vs r;cases r;exact .nil
  |cons p m e =>
   intro vs r;cases r with
   |cons h t=>exact .cons (k:=ü p.1) h (e t)
 unfold putK d8;rw[qW k hl];by_cases c:cC m k=true
 ·rw[eD c,eD c];clear c hl;induction m generalizing vs with
  |nil=>cases g;exact .nil
  |cons p m e =>
   cases g with
   |cons h t =>
    have:=e t;by_cases f:p.1=k
    ·have n:(ü p.1:Key)=ü k:=by rw[f]
     show Rkv ok H ((if(ü p.1:Key)=ü k then((ü p.1:Key),v)else(ü p.1,_))::_) (kvD ((if p.1=k then(p.1,d)else p)::_));rw[eD n,eD f];exact .cons (k:=ü p.1) o this
    ·have n:¬((ü p.1:Key)=ü k):=λz=>f (Sum.inl.inj z);show Rkv ok H ((if(ü p.1:Key)=ü k then((ü p.1:Key),v)else(ü p.1,_))::_) (kvD ((if p.1=k then(p.1,d)else p)::_));rw[eH n,eH f];exact .cons (k:=ü p.1) h this
 ·rw[eH c,eH c];have l:∀{a b:List (Key×V)}{x y:List (D×D)},Rkv ok H a x->Rkv ok H b y->Rkv ok H (a++b) (x++y):=by
   intro a b x y h1 h2;induction a generalizing x with
   |nil=>cases h1;exact h2
   |cons p a e=>cases h1 with|cons h t=>exact .cons h (e t)
  unfold kvD;rw[î];exact l (j g) (.cons (k:=ü k) o .nil)
section
variable{X:Cx}{pos pos' p2:Pos}{a b e:Zv}{ta tb te tj tm:DE}{st st2:ZH}{rest:List ZH}{ti:DI}{g:DG}{t:DS}
def tD1(ta tb:DE):DE:=λρ P=>ta ρ λ_ d1=>tb ρ λk2 d2=>match d1 with
 |.int i=>(norm k2 d2).le .new=true/\P .new (.dict (kvD [(i,d2)]))
 |_=>False
theorem sW(ha:PD X a ta)(hb:PD X b tb):PD X (.Dict [some a] [b] pos) (tD1 ta tb):=PE.wk (Py (KD ha hb Pb) rfl rfl (by intro z;cases z) (by show 1<=15;decide)) (by
 rintro σ H Q ⟨p,f,own,ρ,P,E,t,q⟩;intro c hc;have d:=E.at;let⟨r,m,v⟩:=d.new hc (.dK []);have l:=d.nfb hc;refine⟨p,f,own,ρ,_,E.go r m,t,λk1 d1 v1 H1 t1 A1 r1=>?_⟩;refine⟨p,f,own,ρ,_,(E.go r m).go A1.kp A1.pen,t1,λk2 d2 v2 H2 t2 A2 r2=>?_⟩;have h1:H1 c=some (.dK []):=A1.kp c _ ao l;have h2:H2 c=some (.dK []):=A2.kp c _ h1 l;refine⟨h2,?_⟩;cases d1 with
 |int i =>
  have s:=Rp.int' r1;subst s;refine⟨[(ü i,v2)],rfl,(by show 1<=15;decide),?_⟩;show Q (.ref c) (upd H2 c (.dK [(ü i,v2)]));have K:Kp p H (upd H2 c (.dK [(ü i,v2)])):=λx o ex nx=>by
   rw[aj (ak ex hc)];exact A2.kp x o (A1.kp x o (by rw[aj (ak ex hc)];exact ex) nx) nx
  have h:p.PI (upd H2 c (.dK [(ü i,v2)])):=p.mono H2 _ A2.pen λx o fx ex=>by
   rw[aj (λz:x=c=>fx.elim (λfx=>l (by rw[←z];exact fx)) λ⟨_,_,y⟩=>by rw[z,h2,y]at ex;cases ex)];exact ex
  refine q _ _ _ _ t2.2 ⟨d.k0,K,d.penb,h,d.ow⟩ (.dct v ao (.cons (k:=ü i) ?_ .nil));have w:Rp (okK p f own H1 .new) H2 v2 d2:=fZ A2 t2.1 (aX r2);refine w.bW (λx o n ex=>⟨?_,?_⟩) λx xs ex=>?_
  ·have n:H1 x=none:=n;cases j:H x with
   |none=>exact j
   |some u =>
    have:=A1.kp x u (by rw[aj (ak j hc)];exact j) (A2.nfb n);rw[n]at this;cases this
  ·have n:H1 x=none:=n;rw[aj (λz=>by rw[z,h1]at n;cases n)];exact ex
  ·rw[aj (λz=>by rw[z,h2]at ex;cases ex)];exact ex
 |_=>exact t2.elim)
def Bd(neg:Bool):G2:=λ_ d1 _ d2 P=>match d1,d2 with
 |.int k,.dict ds=>∃m:IM,ds=kvD m/\P .imm (.bool (if neg then !(cC m k)else cC m k))
 |_,_=>False
def Rp.Bu{ok:Addr->Prop}{H:Hp}{v:V}{ds:List (D×D)}(r:Rp ok H v (.dict ds)):∃a kvs,v=.ref a/\ok a/\H a=some (.dK kvs)/\Rkv ok H kvs ds:=by
 cases r with
 |dct o h r=>exact⟨_,_,rfl,o,h,r⟩
def LK:∀σ H Q,aK (t2 (Bd false) ta tb) σ H Q->Wg (aK ta) (aK tb) σ H Q:=by
 rintro σ H Q ⟨p,d,own,ρ,P,E,t,q⟩;refine⟨p,d,own,ρ,_,E,t,λk1 d1 v1 H1 t1 A1 r1=>?_⟩;refine⟨p,d,own,ρ,_,E.go A1.kp A1.pen,t1,λk2 d2 v2 H2 t2 A2 r2=>?_⟩;have A:=A1.base A2;unfold Bd at t2;split at t2
 ·rename_i k ds;let⟨m,rfl,t2⟩:=t2;have f:=Rp.int' r1;subst f;let⟨c,kvs,rfl,o,hc,h⟩:=Rp.Bu r2;let⟨vs,rfl,i⟩:=h.kv;refine⟨c,_,rfl,qz.k (k:=ü k) hc,?_⟩;rw[zx,qW k (by rw[⇑i,Ä])];exact q _ _ _ _ t2 A (.bl _)
 ·exact t2.elim
def Ax:∀σ H Q,aK (t2 (Bd true) ta tb) σ H Q->Fy (aK ta) (aK tb) σ H Q:=by
 rintro σ H Q ⟨p,d,own,ρ,P,E,t,q⟩;refine⟨p,d,own,ρ,_,E,t,λk1 d1 v1 H1 t1 A1 r1=>?_⟩;refine⟨p,d,own,ρ,_,E.go A1.kp A1.pen,t1,λk2 d2 v2 H2 t2 A2 r2=>?_⟩;have A:=A1.base A2;unfold Bd at t2;split at t2
 ·rename_i k ds;let⟨m,rfl,t2⟩:=t2;have f:=Rp.int' r1;subst f;let⟨c,kvs,rfl,o,hc,h⟩:=Rp.Bu r2;let⟨vs,rfl,i⟩:=h.kv;refine⟨c,_,rfl,qz.k (k:=ü k) hc,?_⟩;rw[zx,qW k (by rw[⇑i,Ä])];exact q _ _ _ _ t2 A (.bl _)
 ·exact t2.elim
def hu1(hu:X.A.units+64<YV):X.A.units+1<YV:=()
def Dp(hu:X.A.units+64<YV)(ha:PD X a ta)(hb:PD X b tb)(hm:ZM .In b=false:=by rfl):PD X (.Compare a [.In] [b] pos) (t2 (Bd false) ta tb):=PE.wk (Uk (Ur (hu1 hu) ha hb) hm) LK
def eO(hu:X.A.units+64<YV)(ha:PD X a ta)(hb:PD X b tb)(hm:ZM .NotIn b=false:=by rfl):PDT X (.Compare a [.NotIn] [b] pos) (cU (t2 (Bd true) ta tb)):=PT.wk (T3 (Ia (hu1 hu) ha hb) hm) λσ H Q q=>Ax σ H _ (by
 let⟨p,c,own,ρ,P,E,t,q⟩:=q;refine⟨p,c,own,ρ,_,E,t,λk d v H' h A r=>?_⟩;cases d with
 |bool b=>exact⟨b,Rp.bl' r,q b H' h A⟩
 |_=>exact h.elim)
def MK:G2:=λk1 d1 _ d2 P=>match d1,d2 with
 |.dict ds,.int k=>∃(m:IM)(d:D),ds=kvD m/\ju m k=some d/\P (norm k1 d) d
 |_,_=>False
def mj(hu:X.A.units+64<YV)(ha:PD X a ta)(hb:PD X b tb)(hs:Ra b:=by exact λ_ _=>rfl):PD X (.Subscript a b pos) (t2 MK ta tb):=PE.wk (Pz (hu1 hu) ha hb hs) (by
 rintro σ H Q ⟨p,f,own,ρ,P,E,t,q⟩;refine⟨p,f,own,ρ,_,E,t,λk1 d1 v1 H1 t1 A1 r1=>?_⟩;refine⟨p,f,own,ρ,_,E.go A1.kp A1.pen,t1,λk2 d2 v2 H2 t2 A2 r2=>?_⟩;have A:=A1.base A2;unfold MK at t2;split at t2
 ·rename_i ds k;let⟨m,d,rfl,hg,t2⟩:=t2;have h:=Rp.int' r2;subst h;let⟨c,kvs,rfl,o,hc,j⟩:=Rp.Bu (gb A1 A2.kp r1);let⟨vs,rfl,l⟩:=j.kv;let⟨v,i,n⟩:=GP l hg;refine⟨c,v,rfl,?_,q _ _ _ _ t2 A (aX n)⟩;rw[←i];exact qz.k (k:=ü k) hc
 ·exact t2.elim)
def Nv(i:Nat)(tk c:DE):DS:=λP ρ=>match ρ[i]? with
 |some (.dw r (.dict ds))=>c ρ λ_ dv=>tk ρ λ_ dk=>match dk with
  |.int k=>∃m:IM,ds=kvD m/\cM dv=true/\uh m=true/\⇑m<1000/\P.nx ((forget r ρ).set i (.dw r (.dict (kvD (d8 m k dv)))))
  |_=>False
 |_=>False
theorem Ba{ok:Addr->Prop}{H:Hp}:∀{m:IM}{vs:List V},uh m=true->Rps ok H vs (m.map (·.2))->Rps (λ_=>False) H vs (m.map (·.2))
 |[],_,_,.nil=>.nil
 |p::m,_,h,.cons r t=>by
  unfold uh at h;rw[Ż,Ï]at h;exact .cons (r.imm h.1) (Ba (m:=m) h.2 t)
def q9{i:Nat}{tk C:DE}(h:PS X st (J6 (jX i) (aK tk) (aK C))):PDS X st (Nv i tk C):=PS.wk' h (by
 rintro Q σ H ⟨p,u,own,ρ,P,E,t,w⟩;unfold Nv at t;split at t
 ·rename_i r ds hr;let⟨v,hv,_⟩:=E.slot i _ hr;refine⟨p,u,own,ρ,_,E,t,λkv dv vv H1 t1 A1 r1=>?_⟩;have n:=E.go A1.kp A1.pen;refine⟨v,hv,p,u,own,ρ,_,n,t1,λkk dk vk H2 t2 A2 r2=>?_⟩;have q:=n.go A2.kp A2.pen;cases dk with
  |int k =>
   let⟨m,rfl,im,imm,y,J⟩:=t2;let⟨M,d,x⟩:=q.slot i _ hr;rw[hv]at d;cases d;let⟨l,kvs,rfl,o,hl,K⟩:=Rp.Bu x;let⟨vs,rfl,B⟩:=K.kv;have F:=Rp.int' r2;subst F;have G:=ą;have f:=Ba imm B;have j:Rp (λ_=>False) H2 vv dv:=(gb A1 A2.kp r1).imm im;have I:⇑((m.map (·.1)).zipWith (λi v=>((ü i:Key),v)) vs)=⇑m:=by
    rw[List.length_zipWith,Ä,⇑B,Ä,Nat.min_self]
   refine⟨l,_,rfl,Jt.k (k:=ü k) hl (by rw[I];lia),?_⟩;have A:=GK (k:=k) f j;generalize putK ((m.map (·.1)).zipWith (λi v=>((ü i:Key),v)) vs) (ü k) vv=c at A;have L:∀a xs,H2 a=some (.tup xs)->upd H2 l (.dK c) a=some (.tup xs):=λa xs e=>by
    rw[aj (λz=>by rw[z,hl]at e;cases e)];exact e
   have D:=(q.write (o':=.dK c) o hl λxs z=>nomatch z).put (v:=.ref l) (i:=i) (s:=.dw r (.dict (kvD (d8 m k dv)))) ⟨_,hv,.dct o ao (A.mono (λ_ o=>o.elim) (λ_ _ o=>o.elim) L)⟩;exact w.nx _ σ _ _ D ((A1.frs.trans A2.frs).trans (fW o hl λxs z=>nomatch z)) J
  |_=>exact t2.elim
 ·exact t.elim)
def V3(te:DE):DT:=λρ P=>te ρ λ_ d=>match d with
 |.list ds=>P (!ds.isEmpty)
 |.tuple ds=>P (!ds.isEmpty)
 |.bool b=>P b
 |_=>False
def Nj{ok:Addr->Prop}{H:Hp}{vs:List V}{ds:List D}(r:Rps ok H vs ds):(!vs.isEmpty)=!ds.isEmpty:=by
 cases r <;> rfl
def qK(h:PD X e te)(he:∀whole,ZG e X.env whole=(do let v ←whole;standAt e.pos;holding [v] (ZP v)):=by intro _;rfl):PDT X e (V3 te):=PT.wk (Kw h he) (by
 rintro σ H Q ⟨p,i,own,ρ,P,E,t,q⟩;refine⟨p,i,own,ρ,_,E,t,λk d v H' h A r=>?_⟩;cases d with
 |list ds =>
  let⟨c,vs,rfl,o,hc,f⟩:=Rp.aR r;exact⟨_,.inl ⟨vs,SqL.of hc,rfl⟩,by rw[Nj f];exact q _ _ h A⟩
 |tuple ds =>
  let⟨c,vs,rfl,hc,f⟩:=Rp.dX r;exact⟨_,.inr (.inl ⟨vs,SqT.of hc,rfl⟩),by rw[Nj f];exact q _ _ h A⟩
 |bool b =>
  have e:=Rp.bl' r;subst e;exact⟨b,rfl,q _ _ h A⟩
 |_=>exact h.elim)
end
variable [Gr]
section
variable{X:Cx}{te te1 te2 tj tm:DE}{st st2:ZH}{rest:List ZH}{t:DS}
end
variable [Gr]
section
variable{X:Cx}{te tj:DE}{st:ZH}{t:DS}
end
end Dl
namespace L2
open PySem PySem.Spec PyProof.Rows
def Rb(K:ã)(a:Addr):It :=
 ⟨λi H=>∃xs x,SqL K H a xs/\xs[i]?=some x,λi H x H'=>∃t v,x=.ref t/\H t=none/\H'=upd H t (.tup [.int i,v])/\∀xs,SqL K H a xs->xs[i]?=some v,λi H=>∃xs,SqL K H a xs/\⇑xs<=i⟩
def Cp{P:Zc}{w:Zd}{K:ã}{elts:List Zv}{kk:Nat}{pos:Pos}(a e it:Addr)(hei:e≠it) :
  Turn P w K (.Tuple elts kk pos) (Rb K a) [e,it] e (λi h=>(∃old,IsEnum h e it i old)/\h.IsListIter it a i) where
 mem:=by simp
 obj:=λi h st b hb=>by
  let⟨⟨old,he⟩,o,ho,hc,hd⟩:=st;rcases Þ.mp hb with rfl|hb
  ·exact⟨_,he,λv z=>nomatch z⟩
  ·have e1:b=it:=by simpa using hb
   subst e1;exact⟨o,ho,λv z=>by rw[hd]at z;cases z⟩
 keep:=λi h h' st k=>by
  let⟨⟨old,he⟩,o,ho,r⟩:=st;exact⟨⟨old,k e (by simp) _ he⟩,o,k it (by simp) _ ho,r⟩
 item:=by
  intro X hP hw hK hc i pins s σ H E I hf st hg;subst hP hw hK;let⟨xs,x,hq,hx⟩:=hg;let⟨its,rv,p,hz⟩:=I.list hq;let⟨u,hu,ru⟩:=rv.get hx;let⟨⟨old,he⟩,hit⟩:=st;have hai:a≠it:=λz=>by
   let⟨o,_,ho,hc1,_⟩:=p;let⟨o',ho',hc2,_⟩:=hit;rw[z,ho']at ho;cases ho;rw[hc2]at hc1;injection hc1 with z2;exact eI z2 ∅
  have hae:e≠a:=λz=>by
   let⟨o,_,ho,hc1,_⟩:=p;have he':s.heap.get? e=some _:=he;rw[z,ho]at he';cases he';have z1:ď "enumerate"=ď "list":=hc1;injection z1 with z2;exact eI z2 ∅
  have hlt:i<its.toArray.size:=by have:=(Ç.mp hu).1;simpa using this
  let⟨e0,e1,e2,e3,e4,e5⟩:=hf e (by simp);let⟨f0,f1,f2,f3,f4,f5⟩:=hf it (by simp);have D:=Draws.list (prog:=X.prog) (w:=X.w) (A:=X.A.in1) (I.ok.hd hc) it a hai its.toArray;refine UX D he ⟨hit,p.isList⟩ hlt hei (by simp[hei,hae]) λx' h' tk hP ho hs' hT hsz hk=>⟨_,rfl,?_⟩
  have ex:x'=u:=by
   have hP':its[i]?=some x':=by simpa using hP
   rw[hu]at hP';exact(Ö hP').symm
  subst ex;refine UY ho λh2 he2 hs2=>?_;have hTn:H ↥s=none:=I.hok.fresh (Õ _);have keep2:∀b o,b≠e->b≠it->s.heap.get? b=some o->h2.get? b=some o:=λb o hb1 hb2 q=>(hs2.2 b hb1).trans (hk b o hb1 hb2 q);have hTe:↥s≠e:=ņ (Ó he);have hTup:h2.get? ↥s=some { cls:=.type "tuple",data:=.seq #[.int i tk,x']}:=(hs2.2 _ hTe).trans hT;have J:Inv X pins σ (upd H ↥s (.tup [.int i,x])) { s with heap:=h2,toks:=tk+1 }:=by
   refine I.step (g':=s.gens) (d':=s.drawn) (t':=tk+1) (ch:=[e,it]) (λb hb=>?_) (λb o _ _ hcb q _=>keep2 b o (λz=>hcb (by simp[z])) (λz=>hcb (by simp[z])) q)
    (λb o _ _ hcb q _=>⟨o.slots,keep2 b o (λz=>hcb (by simp[z])) (λz=>hcb (by simp[z])) q⟩) (λb o _ q n=>by rw[aj (ë (Ó q))];exact n)
    (λb o hcb q=>⟨o,keep2 b o (λz=>hcb (by simp[z])) (λz=>hcb (by simp[z])) q⟩) (λb ys q=>by rw[aj (ak q hTn)];exact q) (λb o y q=>by rw[aj (ak q hTn)];exact q)
    (λb ps q=>⟨#[],by rw[aj (ak q hTn),q];simp⟩) (λm hm=>?_) ?_ I.bare
   ·rcases Þ.mp hb with rfl|hb
    ·exact⟨e3,e1,e4,e5⟩
    ·have z:b=it:=by simpa using hb
     subst z;exact⟨f3,f1,f4,f5⟩
   ·let⟨o,es,ep,ho',r⟩:=hm;exact⟨o,es,ep,keep2 _ o (Ĩ e1) (Ĩ f1) ho',r⟩
   ·intro b u' q;have nT:∀{c y},H c=some y->c≠e/\c≠it:=λ{c y} z=>⟨λv=>(by rw[v,e0]at z;exact nomatch z),λv=>(by rw[v,f0]at z;exact nomatch z)⟩
    by_cases hb:b=↥s
    ·subst hb;rw[ao]at q;cases q;exact⟨(by show 2<=sizeLine;decide),[.int i tk,x'],.cons ⟨_,rfl⟩ (.cons ru .nil),_,hTup,rfl,_,rfl⟩
    ·rw[aj hb]at q;refine(I.hok b u' q).stay (λc v hcv y=>keep2 c v ?_ ?_ y) (λc y=>by rw[aj (ak y hTn)];exact y) λc ys y=>by rw[aj (ak y hTn)];exact y
     ·rcases hcv with rfl|z
      ·exact(nT q).1
      ·exact(nT z).1
     ·rcases hcv with rfl|z
      ·exact(nT q).2
      ·exact(nT z).2
  refine⟨.ref ↥s,_,J,rfl,⟨_,x,rfl,hTn,rfl,λys hy=>by rw[I.mW hy hq];exact hx⟩,⟨⟨x',?_⟩,?_⟩,λb hb=>?_⟩
  ·have he3:IsEnum h2 e it ((i:Int)+1) x':=by simpa using he2
   have ec:((i+1:Nat):Int)=(i:Int)+1:=()
   rw[ec];exact he3
  ·let⟨o,ho2,r⟩:=hs'.1;exact⟨o,(hs2.2 it (Ĩ hei)).trans ho2,r⟩
  ·rw[aj]
   ·exact(hf b hb).1
   ·rcases Þ.mp hb with rfl|hb
    ·exact Ĩ hTe
    ·have z:b=it:=by simpa using hb
     subst z;let⟨o,ho2,_⟩:=hit;exact ë (Ó ho2)
 done:=by
  intro X hP hw hK hc i pins s σ H E I hf st hg;subst hP hw hK;let⟨xs,hq,hx⟩:=hg;let⟨its,rv,p,hz⟩:=I.list hq;let⟨⟨old,he⟩,hit⟩:=st;let⟨f0,f1,f2,f3,f4,f5⟩:=hf it (by simp);have hl:=⇑rv;have hT:s.TypeIs (.ref e) "enumerate":=⟨_,he,rfl⟩
  unfold Z5;refine Æ (UZ (ŋ (name:=ũ "__next__") hT Ň
   (Ł Ň hT PySem.F.entry_enumerate_next ?_ (PySem.F.args_enumerate_next_1 _))))
  show wpAny _ _ (US (.ref e) 2 >>=_) _ _ _;refine Æ (ž he rfl (x:=.ref it) rfl ?_);refine Æ (Ty (I.ok.hd hc) hit p.isList (by simp;lia) λh' x he' hx'=>?_);let⟨o,ho,hc'⟩:=hx';refine Æ (U1 (T:="StopIteration") (b:=true) ⟨o,ho,hc'⟩ U2 ?_);exact Ù ⟨rfl,I.turned (t':=s.toks) (λb o hb e=>he' b o hb e) f0 f1 f3 f4 f5⟩
 self:=λA i s Q E st h=>by
  let⟨⟨old,he⟩,_⟩:=st;have hT:s.TypeIs (.ref e) "enumerate":=⟨_,he,rfl⟩
  refine Ta hT PySem.F.slot_enumerate_iter (Ł PySem.F.slot_enumerate_iter hT PySem.F.entry_enumerate_iter ?_ (PySem.F.args_enumerate_iter_1 _));show wpAny _ _ (ret (.ref e)) _ _ s;exact Ù ⟨_,rfl,"enumerate",_,hT,Ň.lookup,h⟩
def Vh(K:ã)(b:TA):TI:=λσ H R=>b σ H λvs H1=>∃a,vs=[.ref a]/\(∃xs,SqL K H1 a xs)/\R (Rb K a) H1
def KQ{X:Cx}{elts:List Zv}{kk:Nat}{f:Pos}{a:Zv}{g:TA}{p pos:Pos}(hg:Gl X "enumerate")(hm:X.mg "enumerate"=none)(ha:PA X [a] g)(hs:Zw [a] X.env=[(false,Zx a X.env)]:=by rfl):PI X (.Tuple elts kk f) (.Call (.Name "enumerate" p) [a] [] pos) (Vh X.K g):=by
 intro d s σ H R I h;refine YE (d7 I hg hm boot_enumerate (Č (thn (ha pos d s σ H _ I h) λus s1 ⟨vs,H1,I1,r1,q1⟩=>?_) hs rfl));let⟨b,e,⟨xs,k⟩,q⟩:=q1;subst e;let⟨u,rfl,m⟩:=vals1 r1;cases m;let⟨its,o,l,n⟩:=I1.list k;refine call_enumerate_list l.isList λh' he hit hsz hk=>?_;have j:Inv X d σ H1 { s1 with heap:=h' }:=I1.kept (t':=s1.toks) hk;have T:Turn X.prog X.w X.K (.Tuple elts kk f) (Rb X.K b) [↥s1+1,↥s1] (↥s1+1) (λi h=>(∃old,IsEnum h (↥s1+1) ↥s1 i old)/\h.IsListIter ↥s1 b i):=Cp b _ _ (ņ (ŕ _));refine T.self _ 0 _ _ _ ⟨⟨_,he⟩,hit⟩ ⟨_,_,_,_,H1,rfl,j,T,⟨⟨_,he⟩,hit⟩,λc hc=>?_,q⟩;rcases Þ.mp hc with rfl|hc
 ·exact I1.Bh (ō _) (I1.hok.fresh (ō _))
 ·have z:c=↥s1:=by simpa using hc
  subst z;exact I1.Bh (Õ _) (I1.hok.fresh (Õ _))
end L2
namespace Dl
open PySem L2 PyProof.Rows
variable [Gr]
section
variable{X:Cx}{tg:Zv}{pos:Pos}{ta:DA}
def Ci{K:ã}{ok:Addr->Prop}{a:Addr}{ds:List D}:Wlk (λH=>Rp ok H (.ref a) (.list ds)) (Rb K a) (nC ds) ok where
 go:=λi H r hi=>by
  let⟨b,vs,e,_,h,rs⟩:=r.aR;cases e;have:i<⇑vs:=by rw[⇑rs];rw[cY]at hi;exact hi
  exact⟨vs,vs[i],SqL.of h,by simp[this]⟩
 stop:=λH r=>by
  let⟨b,vs,e,_,h,rs⟩:=r.aR;cases e;exact⟨vs,SqL.of h,by rw[⇑rs,cY];exact Õ _⟩
 yld:=λi H x H' r y=>by
  let⟨t,v,rfl,ht,rfl,y⟩:=y;have sm:Same H (upd H t (.tup [.int i,v])):=λb u q=>by rw[aj (ak q ht)];exact q
  refine⟨sm,λd hd=>?_⟩;let⟨b,vs,e,_,h,rs⟩:=r.aR;cases e;rw[dF]at hd;cases he:ds[i]? with
  |none=>rw[he]at hd;cases hd
  |some d0 =>
   rw[he]at hd;have e:=Ö hd;subst e;let⟨v',hv,rv⟩:=rs.getD he;have:=y vs (SqL.of h);rw[hv]at this;cases this;exact .tup ao (.cons (.int _) (.cons (rv.mono (λ_ o=>o) (λa o _ e=>sm a o e) λa xs e=>sm a _ e) .nil))
 stab:=λH H' r f t=>r.bW (λa o n e=>⟨n,f a o n e⟩) t
def Xr(ta:DA):DI:=λρ P=>ta ρ λks=>match ks with
 |[(k,.list ds)]=>P k (nC ds)
 |_=>False
def nG{elts:List Zv}{kk:Nat}{b:Pos}{a:Zv}{ps:Pos}(hm:X.mg "enumerate"=none)(ha:PDA X [a] ta)(hg:Gl X "enumerate":=by rfl)(hs:Zw [a] X.env=[(false,Zx a X.env)]:=by rfl):PDI X (.Tuple elts kk b) (.Call (.Name "enumerate" ps) [a] [] pos) (Xr ta):=PI.wk (KQ hg hm ha hs) (by
 rintro σ H R ⟨p,d,own,ρ,P,E,t,q⟩;refine⟨p,d,own,ρ,_,E,t,λks vs H1 h A r=>?_⟩;split at h
 ·rename_i k ds;let⟨v,rfl,c⟩:=cJ r;let⟨a,vs,e,_,ha,f⟩:=Rp.aR c;subst e;exact⟨a,rfl,⟨vs,SqL.of ha⟩,q k _ _ H1 _ h A Ci (rpA c)⟩
 ·exact h.elim)
end
section
variable{X:Cx}
def Ji(hc:X.calm=true):aQ X (.builtin "min") (λxs H Q=>∃(p:Addr)(ns:List Int),xs=[.ref p]/\SqL X.K H p (ns.map V.int)/\ns≠[]/\∀M,M∈ns->(∀a∈ns,M<=a)->Q (.int M) H):=by
 intro i s σ H xs us Q I r h;let⟨p,ns,rfl,hp,g,q⟩:=h;let⟨u,rfl,n⟩:=vals1 r;cases n;let⟨its,m,l,w⟩:=I.list hp;have hi:IntsAre its ns:=intsAre_of m;let⟨f,e⟩:=hi.allInts.items;have c:ns=f.toList.map (·.1):=by rw[←hi.numsOf,←Se,←e]
 have hsz:0<f.size:=by
  have d:=ŀ.mpr g;rw[c,Ä,ğ]at d;exact d
 have hl:=l.isList;rw[e]at hl;refine min_intList (I.ok.hd hc) hl hsz λv h' tk hv hk=>?_;let⟨t,rfl⟩:=VE hv;let⟨h1,h2⟩:=argBest_lt (VC f) (f.size - 1);refine⟨.int _,H,I.kept λb o eb=>hk b o eb,⟨_,rfl⟩,q _ ?_ λa ha=>?_⟩
 ·rw[c,Sf];refine getD_mem ?_;rw[Ä,ğ];lia
 ·rw[c]at ha;let⟨j,k,rfl⟩:=mem_getD ha;rw[Ä,ğ]at k;have d:=h2 j ();rw[←Sf];exact d
def Jk(hc:X.calm=true):aQ X (.builtin "max") (λxs H Q=>∃(p:Addr)(ns:List Int),xs=[.ref p]/\SqL X.K H p (ns.map V.int)/\ns≠[]/\∀M,M∈ns->(∀a∈ns,a<=M)->Q (.int M) H):=by
 intro i s σ H xs us Q I r h;let⟨p,ns,rfl,hp,g,q⟩:=h;let⟨u,rfl,n⟩:=vals1 r;cases n;let⟨its,m,l,w⟩:=I.list hp;have hi:IntsAre its ns:=intsAre_of m;let⟨f,e⟩:=hi.allInts.items;have c:ns=f.toList.map (·.1):=by rw[←hi.numsOf,←Se,←e]
 have hsz:0<f.size:=by
  have d:=ŀ.mpr g;rw[c,Ä,ğ]at d;exact d
 have hl:=l.isList;rw[e]at hl;refine max_intList (I.ok.hd hc) hl hsz λv h' tk hv hk=>?_;let⟨t,rfl⟩:=VE hv;let⟨h1,h2⟩:=argBest_gt (VC f) (f.size - 1);refine⟨.int _,H,I.kept λb o eb=>hk b o eb,⟨_,rfl⟩,q _ ?_ λa ha=>?_⟩
 ·rw[c,Sf];refine getD_mem ?_;rw[Ä,ğ];lia
 ·rw[c]at ha;let⟨j,k,rfl⟩:=mem_getD ha;rw[Ä,ğ]at k;have d:=h2 j ();rw[←Sf];exact d
def Je(hc:X.calm=true):aQ X (.builtin "sum") (λxs H Q=>∃(p:Addr)(ns:List Int),xs=[.ref p]/\SqT X.K H p (ns.map V.int)/\⇑ns<=1000/\(∀x∈ns,-1000000<=x/\x<=1000000)/\Q (.int ns.sum) H):=by
 intro l s σ H xs us Q I r h;let⟨p,ns,rfl,hp,hl,hs,q⟩:=h;let⟨u,rfl,y⟩:=vals1 r;cases y;let⟨its,m,g,z⟩:=I.tuple hp;have a:⇑its=⇑ns:=by have:=⇑m;rw[Ä]at this;exact this.symm
 have c:p<↥s:=by let⟨o,n,_⟩:=g;exact Ó n
 have f:∀i v,its[i]?=some v->∃t,v=ś (ns.getD i 0) t:=λi v e=>by
  have hi:i<⇑its:=(Ç.mp e).1;have hv:(ns.map V.int)[i]?=some (V.int ns[i]):=by rw[Ý,Ë (show i<⇑ns by lia)];rfl
  let⟨u,k,w⟩:=m.get hv;rw[e]at k;cases k;let⟨t,rfl⟩:=w;exact⟨t,by rw[ā,Ë (show i<⇑ns by lia)];rfl⟩
 refine Sa (Ų g ?_);refine⟨_,_,_,_,_,_,λi=>ns.getD i 0,rfl,Walks.tuple (A:=X.A.in1) (I.ok.hd hc) _ p (ë c) _,⟨⟨_,è _ rfl,rfl,rfl⟩,g.push _⟩,?_,λi v e=>f i v (by simpa using e),λj d=>?_,λh' tk t' hk=>?_⟩
 ·intro b hb;show b<(s.heap.push _).objs.size;rw[Ń];simp at hb;rcases hb with rfl|rfl
  ·exact ŕ _
  ·exact ĕ c
 ·have d:j<⇑ns:=by simpa[a]using d
  have e:ns.getD j 0=ns[j]:=by rw[ā,Ë d];rfl
  have b1:=hs _ (ĳ d);have b2:=nY (ns.take (j+1)) 1000000 λx hx=>hs x (ň hx);have b3:⇑(ns.take (j+1))<=1000:=by rw[Ě];lia
  rw[lU ns (j+1) d];refine⟨?_,?_⟩
  ·show -(2 ^ 63)<=ns.getD j 0/\ns.getD j 0<2 ^ 63;rw[e];lia
  ·show -(2 ^ 63)<=(ns.take (j+1)).sum/\(ns.take (j+1)).sum<2 ^ 63;lia
 ·have e:PySem.preSum (λi=>ns.getD i 0) its.toArray.size=ns.sum:=by
   rw[Ø,a,lU ns ⇑ns (Õ _),Ĳ]
  rw[e];refine⟨.int ns.sum,H,I.kept λb o eb=>hk b o ?_ (Ò _ eb),⟨_,rfl⟩,q⟩;intro hm;have:b=↥s:=by simpa using hm
  exact eI (this ▸ Ó eb) (Ē _)
section
variable{prog:Zc}{w:Zd}{A:Zt}{E:eQ}
theorem Bp{it l:Addr}{items:Array Value}(b:l≠it):∀(n i:Nat)(s:Shared)(Q:List Value->Shared->Prop),s.heap.IsListIter it l i->s.heap.IsList l items->i+n<=items.size ->
  (∀h',h'.IsListIter it l (i+n)->Heap.SameBut it s.heap h'->Q ((items.toList.drop i).take n) { s with heap:=h' })->wpAny (model prog w) A (draw (.ref it) n) Q E s
 |0,i,s,Q,hit,_,_,hQ=>by
  show wpAny _ _ (pure []) Q E s;exact Ù (by simpa using hQ s.heap hit (Heap.SameBut.refl ..))
 |n+1,i,s,Q,hit,hl,hle,hQ=>by
  have a:i<items.size:=()
  show wpAny _ _ (Z5 (.ref it) >>=_) Q E s;refine Æ (Z9 hit hl (x:=items[i]) (by simp[a]) λh₁ hit₁ hs₁=>?_);refine Æ (ġ (Bp b n (i+1) _ _ hit₁ (hl.extBut hs₁.extBut b) () λh₂ hit₂ hs₂=>Ù ?_));have hd:items.toList.drop i=items[i]::items.toList.drop (i+1):=by simp[Ŏ,a]
  have z:=hQ h₂ (by rw[show i+(n+1)=i+1+n by lia];exact hit₂) (hs₁.trans hs₂);rw[hd,List.take_succ_cons]at z;exact z
def pY{s:Shared}{l:Addr}{items:Array Value}{Q:List Value->Shared->Prop}(hh:A.handled=none)(hl:s.heap.IsList l items)(f:∀h',Heap.ExtBut ↥s s.heap h'->Q items.toList { s with heap:=h' }):wpAny (model prog w) A (unpackItems (.ref l) items.size none) Q E s:=by
 have d:l≠↥s:=by let⟨o,g,_⟩:=hl;exact ë (Ó g)
 unfold unpackItems;refine Æ ?_;unfold notIterableAtAll;refine Æ (Tl hl.typeIs slot_list_iter.lookup ?_);refine Ù ?_;simp only[if_false,ļ];refine Æ (ġ (WZ hl ?_));refine Æ (ġ (Bp d items.size 0 _ _ ⟨_,è _ rfl,rfl,rfl⟩ (hl.push _) () λh₁ hit₁ hs₁=>?_));have c:List.take items.size (List.drop 0 items.toList)=items.toList:=by rw[List.drop_zero];refine Ũ ?_;simp
 rw[c,eH (by simp)];have a:h₁.IsList l items:=(hl.push _).extBut hs₁.extBut d;refine Æ (ġ (YA hh hit₁ a (by simp) λh₂ he₂=>?_));simp only[if_false,Option.isSome_none,ļ];exact Ù (f h₂ λb o hb e=>he₂ b o hb (hs₁.extBut b o hb (Ò _ e)))
def pH{s:Shared}{env:Env}{elts:List Zv}{x1}{pos:Pos}{l:Addr}{items:Array Value}{Q:Unit->Shared->Prop}(hh:A.handled=none)(hl:s.heap.IsList l items)(hn:⇑(ZW elts env)=items.size)(a:(ZW elts env).findIdx? (·.1)=none)(h:∀h',Heap.ExtBut ↥s s.heap h'->wpAny (model prog w) A (ZV ((ZW elts env).map (·.2)) items.toList) Q E { s with heap:=h' }) :
  wpAny (model prog w) A (ZU (.Tuple elts x1 pos) env (.ref l)) Q E s:=by
 rw[assign_Tuple];refine Æ (ZZ ?_);unfold unpack;rw[hn,a];exact Æ (ġ (pY hh hl h))
end
section
variable{X:Cx}{pos:Pos}
def YZ(K:ã)(n:Nat)(t:TGs):TG:=λv σ H Q=>∃a xs,v=.ref a/\SqL K H a xs/\⇑xs=n/\t xs σ H Q
def Ua{es:List Zv}{k:Nat}{t:TGs}{n:Nat}(hc:X.calm=true)(h:PGs X es t)(hn:⇑(ZW es X.env)=n:=by rfl)(hst:(ZW es X.env).findIdx? (·.1)=none:=by rfl):PG X (.Tuple es k pos) (YZ X.K n t):=by
 intro c s σ H v u Q I r d;let⟨a,xs,i,j,hl,d⟩:=d;subst i;cases r;let⟨its,f,l,m⟩:=I.list j;refine pH (I.ok.hd hc) l.isList (by simp[hn,←hl,⇑f]) hst λh' hx=>?_;have g:Inv X c σ H { s with heap:=h' }:=I.kept (t':=s.toks) λb o e=>hx b o (ë (Ó e)) e;exact h c _ σ H xs _ Q g (by simpa using f) d
variable [Gr]
def gTL(n:Nat)(a:DGs):DG:=λk d ρ P=>match d with
 |.list ds=>⇑ds=n/\a k ds ρ P
 |_=>False
def Ew{es:List Zv}{b:DGs}{k n:Nat}(hc:X.calm=true)(h:PGs X es (oW b))(hn:⇑(ZW es X.env)=n:=by rfl)(hst:(ZW es X.env).findIdx? (·.1)=none:=by rfl):PDG X (.Tuple es k pos) (gTL n b):=PG.wk (Ua hc h hn hst) (by
 rintro v σ H Q ⟨p,e,own,ρ,k,d,P,E,r,t,q⟩;cases d with
 |list ds =>
  let⟨a,vs,rfl,_,ha,c⟩:=r.aR;exact⟨a,vs,rfl,SqL.of ha,by rw[⇑c];exact t.1,p,e,own,ρ,k,ds,P,E,c,t.2,q⟩
 |_=>exact t.elim)
end
section
variable{X:Cx}{pos:Pos}{a:Zv}{t:DA} [Gr]
def IW(f:Int->Int->Int)(le:Int->Int->Prop):GC:=λks P=>match ks with
 |[(_,.tuple [.int i,.int j])]=>P .imm (.int (f i j))
 |[(_,.list ds)]=>∃ns:List Int,ds=ns.map Â/\ns≠[]/\∀M,M∈ns->(∀a∈ns,le M a)->P .imm (.int M)
 |_=>False
def xu{ps:Pos}(hc:X.calm=true)(hm:X.mg "min"=none)(ha:PDA X [a] t)(hg:Gl X "min":=by rfl)(he:zS X a []:=by rfl)(hpl:zP X pos []:=by rfl):PD X (.Call (.Name "min" ps) [a] [] pos) (tCl (IW (λi j=>if j<i then j else i) (λM a=>M<=a)) t) :=
 cj (aQ.or (Jh hc) (Ji hc)) (by
  intro p l own m H vs ks P Q A r t q;unfold IW at t;split at t
  ·rename_i k i j;let⟨v,rfl,f⟩:=cJ r;let⟨x,xs,c,h1,b⟩:=Rp.dX f;let⟨o,s,d,g,h⟩:=Rps.two b;subst c d;rw[g.int',h.int']at h1;exact .inl ⟨x,i,j,rfl,SqT.of h1,q _ _ _ _ t Kp.refl A.pen (.int _)⟩
  ·let⟨ns,rfl,e,t⟩:=t;let⟨v,rfl,f⟩:=cJ r;let⟨x,xs,c,n,h1,b⟩:=Rp.aR f;subst c;have d:=Rps.ints b;subst d;exact .inr ⟨x,ns,rfl,SqL.of h1,e,λM h1 h2=>q _ _ _ _ (t M h1 h2) Kp.refl A.pen (.int _)⟩
  ·exact t.elim) hg hm boot_min ha ∅ ∅ he hpl
def xG{ps:Pos}(hc:X.calm=true)(hm:X.mg "max"=none)(ha:PDA X [a] t)(hg:Gl X "max":=by rfl)(he:zS X a []:=by rfl)(hpl:zP X pos []:=by rfl):PD X (.Call (.Name "max" ps) [a] [] pos) (tCl (IW (λi j=>if j > i then j else i) (λM a=>a<=M)) t) :=
 cj (aQ.or (Jj hc) (Jk hc)) (by
  intro p l own m H vs ks P Q A r t q;unfold IW at t;split at t
  ·rename_i k i j;let⟨v,rfl,f⟩:=cJ r;let⟨x,xs,c,h1,b⟩:=Rp.dX f;let⟨o,s,d,g,h⟩:=Rps.two b;subst c d;rw[g.int',h.int']at h1;exact .inl ⟨x,i,j,rfl,SqT.of h1,q _ _ _ _ t Kp.refl A.pen (.int _)⟩
  ·let⟨ns,rfl,e,t⟩:=t;let⟨v,rfl,f⟩:=cJ r;let⟨x,xs,c,n,h1,b⟩:=Rp.aR f;subst c;have d:=Rps.ints b;subst d;exact .inr ⟨x,ns,rfl,SqL.of h1,e,λM h1 h2=>q _ _ _ _ (t M h1 h2) Kp.refl A.pen (.int _)⟩
  ·exact t.elim) hg hm boot_max ha ∅ ∅ he hpl
def Mx:GC:=λks P=>match ks with
 |[(_,.list ds)]=>∃ns:List Int,ds=ns.map Â/\⇑ns<=1000/\(∀x∈ns,-1000000<=x/\x<=1000000)/\P .imm (.int ns.sum)
 |[(_,.tuple ds)]=>∃ns:List Int,ds=ns.map Â/\⇑ns<=1000/\(∀x∈ns,-1000000<=x/\x<=1000000)/\P .imm (.int ns.sum)
 |_=>False
def qM{ps:Pos}(hc:X.calm=true)(hm:X.mg "sum"=none)(ha:PDA X [a] t)(hg:Gl X "sum":=by rfl)(he:zS X a []:=by rfl)(hpl:zP X pos []:=by rfl):PD X (.Call (.Name "sum" ps) [a] [] pos) (tCl Mx t) :=
 cj (aQ.or (Jf hc) (Je hc)) (by
  intro p f own g H vs ks P Q A r t q;unfold Mx at t;split at t
  ·let⟨ns,rfl,hl,hb,t⟩:=t;let⟨v,rfl,e⟩:=cJ r;let⟨x,xs,c,h,h1,b⟩:=Rp.aR e;subst c;have d:=Rps.ints b;subst d;exact .inl ⟨x,ns,rfl,SqL.of h1,hl,hb,q _ _ _ _ t Kp.refl A.pen (.int _)⟩
  ·let⟨ns,rfl,hl,hb,t⟩:=t;let⟨v,rfl,e⟩:=cJ r;let⟨x,xs,c,h1,b⟩:=Rp.dX e;subst c;have d:=Rps.ints b;subst d;exact .inr ⟨x,ns,rfl,SqT.of h1,hl,hb,q _ _ _ _ t Kp.refl A.pen (.int _)⟩
  ·exact t.elim) hg hm boot_sum ha ∅ ∅ he hpl
def Ei:GC:=λks P=>match ks with
 |[(_,.dict ds)]=>∃m:IM,ds=kvD m/\⇑m<64/\∀out:List Int,out.Perm (m.map (·.1))->out.Pairwise (·<=·)->P .new (.list (out.map Â))
 |_=>False
theorem zT{ok:Addr->Prop}{H:Hp}:∀{kvs:List (Key×V)}{ds:List (D×D)}{m:IM},Rkv ok H kvs ds->ds=kvD m->kvs.map (·.1)=(m.map (·.1)).map ü
 |_,_,[],.nil,_=>rfl
 |_,_,p::m,.cons h t,e=>by
  have b:kD _=Â p.1:=eJ Prod.fst (List.cons.inj e).1;have c:=Mi b;rw[ö,ö,ö,zT (m:=m) t (List.cons.inj e).2,←c]
 |_,_,[],.cons _ _,e=>nomatch e
 |_,_,_::_,.nil,e=>nomatch e
def sJ{ps:Pos}(hc:X.calm=true)(hm:X.mg "sorted"=none)(ha:PDA X [a] t)(hg:Gl X "sorted":=by rfl)(he:zS X a []:=by rfl)(hpl:zP X pos []:=by rfl):PD X (.Call (.Name "sorted" ps) [a] [] pos) (tCl Ei t) :=
 cj (yO hc) (by
  intro p h own j H vs ks P Q A r t q;unfold Ei at t;split at t
  ·let⟨m,rfl,hl,t⟩:=t;let⟨v,rfl,g⟩:=cJ r;let⟨x,kvs,c,k,h1,b⟩:=Rp.Bu g;subst c;refine⟨x,kvs,m.map (·.1),rfl,h1,zT b rfl,by rw[Ä];exact hl,λl out hl' hp hs=>?_⟩;let⟨e,d,f⟩:=A.new hl' (.lst (out.map V.int));exact q _ _ _ _ (t out hp hs) e d (.lst f ao (Rps.ofMap (λi=>.int i) out))
  ·exact t.elim) hg hm T0 ha ∅ ∅ he hpl
def G5:G2:=λ_ d1 _ d2 P=>match d2 with
 |.none=>P .imm (.bool (!Lq d1))
 |_=>False
def UJ:Ok2 G5 (λx y H Q=>y=.non/\Q (.bl (!decide (x=.non))) H):=by
 intro p d own e H x y h f i g P Q A b c t q;unfold G5 at t;split at t
 ·cases c;rw[Gh b];exact⟨rfl,q _ _ _ _ t Kp.refl A.pen (.bl _)⟩
 ·exact t.elim
variable{b:Zv}{ta tb:DE}
def gU(ha:PD X a ta)(hb:PD X b tb):PDT X (.Compare a [.IsNot] [b] pos) (cU (t2 G5 ta tb)):=dJ PN UJ ha hb (cL _)
end
def Jo(hc:X.calm=true):aQ X (.builtin "any") (λxs H Q=>∃(p:Addr)(a:List Bool),xs=[.ref p]/\SqL X.K H p (a.map V.bl)/\Q (.bl (a.any id)) H):=by
 intro j s σ H xs us Q I r h;let⟨p,a,rfl,hp,q⟩:=h;let⟨u,rfl,w⟩:=vals1 r;cases w;let⟨its,t,g,y⟩:=I.list hp;have e:=wD t;subst e;have f:p≠↥s:=by let⟨o,m,_⟩:=g.isList;exact ë (Ó m)
 refine call_any_walk (WZ g.isList ?_);refine⟨_,_,_,_,_,_,λi=>a.getD i false,rfl,Walks.list (A:=X.A.in1) (I.ok.hd hc) _ p f _,⟨⟨_,è _ rfl,rfl,rfl⟩,g.isList.push _⟩,?_,λh' tk hk=>?_⟩
 ·intro i v s Q E k l;have c:(a.map Value.bool)[i]?=some v:=by simpa using k
  rw[Ý]at c;cases hb:a[i]? with
  |none=>rw[hb]at c;cases c
  |some b =>
   rw[hb]at c;cases c;refine ĺ ?_;have e:a.getD i false=b:=by rw[ā,hb];rfl
   have d:Q (a.getD i false) s:=l;rw[e]at d;exact d
 ·have e:(ß (a.map Value.bool).toArray.size).any (λi=>a.getD i false)=a.any id:=by
   rw[Ø,Ä,Ė];simp only[Ŕ,ó];constructor
   ·rintro⟨i,hi,h⟩;simp[hi]at h;exact⟨a[i],ĳ hi,h⟩
   ·rintro⟨x,n,h⟩;let⟨i,hi,e⟩:=Ŷ.mp n;exact⟨i,hi,by simp[hi,e];exact h⟩
  rw[e];refine⟨.bl (a.any id),H,I.kept λb o eb=>hk b o ?_ (Ò _ eb),rfl,q⟩;intro hm;have:b=↥s:=by simpa using hm
  exact eI (Ó eb) (by rw[this];exact Ē _)
end
section
variable{X:Cx}{pos:Pos}{a e:Zv}{te ta:DE}{t:DA}{st st2:ZH}{rest:List ZH} [Gr]
def boot_any:Zs "any"=some (.builtin "any"):=⋯
def Vo:GC:=λks P=>match ks with
 |[(_,.list ds)]=>∃bs:List Bool,ds=bs.map PyData.bool/\P .imm (.bool (bs.any id))
 |_=>False
def Dr{ps:Pos}(hc:X.calm=true)(hm:X.mg "any"=none)(ha:PDA X [a] t)(hg:Gl X "any":=by rfl)(he:zS X a []:=by rfl)(hpl:zP X pos []:=by rfl):PD X (.Call (.Name "any" ps) [a] [] pos) (tCl Vo t) :=
 cj (Jo hc) (by
  intro p h own i H vs ks P Q A r t q;unfold Vo at t;split at t
  ·let⟨c,rfl,t⟩:=t;let⟨v,rfl,g⟩:=cJ r;let⟨x,xs,d,j,h1,b⟩:=Rp.aR g;subst d;have f:=Rps.bools b;subst f;exact⟨x,c,rfl,SqL.of h1,q _ _ _ _ t Kp.refl A.pen (.bl _)⟩
  ·exact t.elim) hg hm boot_any ha ∅ ∅ he hpl
end
section
variable{X:Cx}{tg iter c:Zv}{pos pos1:Pos}{ret:ZH}{ti:DI}{g:DG}{tc:DT} [Gr]
end
end Dl
namespace L2
open PySem PySem.Spec PyProof.Rows
def Io{P:Zc}{w:Zd}{K:ã}{D N:Str->Option Value}{CX:CXT}{k:Nat}{I a:Addr}{S:YY}{x:Str}{sp:Sp}{c:Shared}{vs:List Value}{ns:List Int}(Q:K.In c.heap)(y:c.heap.Ns mainGlobals D)(hb:c.heap.Ns Zr N)(L:∀x:Str,x≠"__name__"->N x=Zs x)(t:c.heap.NoLimit)(hg:c.gens=#[])(ha:c.heap.get? a=some { cls:=.type "list",data:=.seq vs.toArray })(hi:IntsAre vs ns)(hl:⇑ns<=sizeLine)(hr:Room k callerA)(F:∀base:Zi,K.In base->base.Ns mainGlobals D->(∀b m,c.heap.Ns b m->base.Ns b m)->FnOk P w K D base CX k I S [x] sp)(j:∀(s:Shared)(u:Value),Y1 s S ⟨[u],[]⟩ [(x,u)])(M:∀H:Hp,Only H->SqL K H a (ns.map V.int)->sp [.ref a] H (λv _=>v=.bl true) λ_ _ _=>False)(J:∀H e s',CX [] H c (λ_ _ _=>False) e s'->False) :
  Y2 (model P w) callerA (.call (.ref I) ⟨[.ref a],[]⟩) (λr s'=>r=.ok (.ret (.bool true))/\OldK c.heap s'.heap/\s'.os=c.os/\ZD s'.gens) c:=by
 have W:=jG hi;have C:=⇑hi
 -- from an abstract heap in which nothing but the script may be tracked
 have i:∀H:Hp,Only H->SqL K H a (ns.map V.int)->HOk P w H c.heap->(∀b,H b≠none->b=a)->(H a≠none->K.lookup a=none) ->
   Y2 (model P w) callerA (.call (.ref I) ⟨[.ref a],[]⟩) (λr s'=>r=.ok (.ret (.bool true))/\OldK c.heap s'.heap/\s'.os=c.os/\ZD s'.gens) c:=by
  intro H U hS A T hK;have f:∀{b:Addr}{o:Obj},c.heap.get? b=some o->H b=none->(yu c.heap H).get? b=some o:=λe n=>Mp e n;have O:∀{b:Addr}{o:Obj}{es:Array Zg}{ep:Nat},c.heap.get? b=some o->o.data=.dict es ep->H b=none:=λ{b o es ep} e d=>by
   cases q:H b with
   |none=>rfl
   |some u =>
    have G:b=a:=T b (by rw[q];simp);subst G;rw[ha]at e;cases e;have d':Data.seq vs.toArray _=Data.dict es ep:=d;cases d'
  have g:∀{b:Addr}{m:Str->Option Value},c.heap.Ns b m->(yu c.heap H).Ns b m:=λ{b m} ⟨o,es,ep,e,d,r⟩=>⟨o,es,ep,f e (O e d),d,r⟩
  have p:K.In (yu c.heap H):=λb o e=>f (Q b o e) (by
   cases q:H b with
   |none=>rfl
   |some u =>
    have G:b=a:=T b (by rw[q];simp);subst G;rw[hK (by rw[q];simp)]at e;cases e)
  have hM:Mod K D (yu c.heap H):=⟨p,g y,⟨N,g hb,L⟩,let⟨mc,h1,h2⟩:=t;⟨mc,g h1,h2⟩⟩
  have Y:Env0 P w K D (yu c.heap H) callerA [] c H:=⟨rfl,hM,λb o e=>Qg e,Nat.le_of_eq (IV _ _),trivial,λb hb=>eI (show b∈([]:List Addr)from hb) (by simp),A,.of_eq hg⟩
  refine Y3 ((F _ p (g y) λ_ _ h=>g h).run callerA [] c H ⟨[.ref a],[]⟩ [.ref a] [.ref a] _ _ hr Y (j c (.ref a)) (.cons rfl .nil) (M H U hS)) λr s' h=>?_;cases r with
  |error e=>exact(J H e s' h).elim
  |ok fl =>
   cases fl with
   |next=>exact Ÿ h
   |brk=>exact Ÿ h
   |cont=>exact Ÿ h
   |ret u =>
    let⟨v,H',os,l,X,B,r',q⟩:=h;have q':v=.bl true:=q;subst q';obtain rfl:u=Value.bool true:=r';refine⟨rfl,OldK.of_keep λb o e=>?_,os,l⟩;cases q:H b with
    |none=>exact X.keep b o e q (by intro z;exact eI (show b∈([]:List Addr)from z) (by simp)) (by simp)
    |some u =>
     rcases U b with z|⟨ob,xs,z⟩
     ·rw[q]at z;cases z
     ·have z2:=X.frzs b ob _ z;let⟨R,_⟩:=A b _ z;let⟨Z,_⟩:=B b _ z2;rw[e]at R;cases R;exact Z
 cases hk:K.lookup a with
 |some o =>
  -- the script is one of the module's own objects
  have e:=Q a o hk;rw[ha]at e;cases e;refine i (λ_=>none) (λ_=>.inl rfl) (.inr ⟨_,vs.toArray,_,hk,rfl,rfl,rfl,by rw[Ø,C];exact hl,by simpa using W⟩) (λb u z=>by have E:(none:Option HO)=some u:=z;cases E) (λb z=>eI rfl z) λz=>eI rfl z
 |none =>
  refine i (λb=>if b=a then some (.frz { cls:=.type "list",data:=.seq vs.toArray } (.lst (ns.map V.int)))else none) (λb=>?_) (.inl (.inr ⟨{ cls:=.type "list",data:=.seq vs.toArray },eD rfl⟩)) (λb u z=>?_) (λb z=>?_) λ_=>hk
  ·by_cases hb:b=a
   ·exact .inr ⟨_,_,eD hb⟩
   ·exact .inl (eH hb)
  ·by_cases hb:b=a
   ·have E:=(eD hb).symm.trans z;cases E;subst hb;exact⟨ha,by rw[Ä];exact hl,vs,_,W,ha⟩
   ·have E:=(eH hb).symm.trans z;cases E
  ·by_cases hb:b=a
   ·exact hb
   ·exact eI (eH hb) z
def JK{l:W.OpenLaw}{n k:Nat}{q:Zc}{loose:List Str}{XP:(Str->Option Value)->Zi->Prop}{YP:Zd->Zi->Prop}{d:DefRec}{K:Zf->ã}{CX:Zd->CXT}{sp:Zd->Sp}{x:Str}(hi:importsNone q=true)(hn:l.most=some n)(p:n<=sizeLine)(m:d.params.defaults=[])(hr:Room k callerA)(A:∀(w:Zd)(h:Zi),YP w h->(K w.params).In h)(F:∀(w:Zd)(c:Str->Option Value)(i:Addr)(h:Zi),(K w.params).In h->h.Ns mainGlobals c->c d.name=some (.ref i) ->
   ∃fd:YY,(∀(s:Shared)(u:Value),Y1 s fd ⟨[u],[]⟩ [(x,u)]) /\
    ∀base:Zi,(K w.params).In base->base.Ns mainGlobals c->(∃o,base.get? Zp=some o)->FnOk l.prog w (K w.params) c base (CX w) k i fd [x] (sp w))(r:∀(w:Zd)(H:Hp)(a:Addr)(ns:List Int),⇑ns<=n->Only H->SqL (K w.params) H a (ns.map V.int)->sp w [.ref a] H (λv _=>v=.bl true) λ_ _ _=>False)(j:∀(w:Zd)(H:Hp)(s:Shared)(e:Value)(t:Shared),CX w [] H s (λ_ _ _=>False) e t->False) :
  W.WalkO q loose XP YP l.row.toRowW d [] (λf vs=>PySem.call f vs):=by
 refine Att.BW hn m λw s₀ s₁ c mb i o pm cd doc a vs ns G Y ho hd hcd hmg hobj hints hlen hg=>?_;have y:=A w _ Y;let⟨fd,hb,z⟩:=F w c i _ y G.T.g hmg;let⟨B,hm,_⟩:=(G.T.seer hi).mods;exact Io y G.T.g G.T.b G.T.builtins G.T.nolimit hg hobj hints (þ hlen p) hr (λbase h1 h2 h3=>z base h1 h2 (let⟨o,_,_,e,_⟩:=h3 _ _ hm;⟨o,e⟩)) hb (λH hO hS=>r w H a ns hlen hO hS) λH e t=>j w H s₁ e t
end L2
set_option autoImplicit true
set_option relaxedAutoImplicit true
namespace Wr
open PySem L2 PyProof.Rows Dl
structure WD[Gr](X:Cx)(e:Zv)(t:DE):Prop where
 h:PD X e t
structure WDT[Gr](X:Cx)(e:Zv)(t:DT):Prop where
 h:PDT X e t
structure WDW[Gr](X:Cx)(e:Zv)(t:DT):Prop where
 h:PDW X e t
structure WDA[Gr](X:Cx)(e:List Zv)(t:DA):Prop where
 h:PDA X e t
structure WDS[Gr](X:Cx)(e:ZH)(t:DS):Prop where
 h:PDS X e t
structure WDSs[Gr](X:Cx)(e:List ZH)(t:DS):Prop where
 h:jE X e t
structure WDI[Gr](X:Cx)(tg e:Zv)(t:DI):Prop where
 h:PDI X tg e t
structure WDG[Gr](X:Cx)(e:Zv)(t:DG):Prop where
 h:PDG X e t
structure WDGs[Gr](X:Cx)(e:List Zv)(t:DGs):Prop where
 h:PGs X e (oW t)
structure WDTs[Gr](X:Cx)(e:List Zv)(t:DT):Prop where
 h:Oc X e t
structure WDO[Gr](X:Cx)(e:Option Zv)(t:DO):Prop where
 h:PO X e (tY t)
structure WV(X:Cx)(e:Zv)(i:Nat):Prop where
 h:PE X e (jX i)
structure WC(X:Cx)(e:Zv)(v:V):Prop where
 h:PE X e (tC v)
section
variable [Gr]
def wv(i:Nat){x:Str}{pos:Pos}(hN:X.N[i]?=some x:=by rfl)(hv:Vis X.env.scope x:=by first|exact Or.inl rfl|exact Or.inr (Or.inl rfl)|exact Or.inr (Or.inr rfl))(hd:zB x:=by decide)(hcd:(x==("__classdict__":Str))=false:=by decide):WV X (.Name x pos) i:=⟨pv i hN hv hd hcd⟩
def wpt{t:DT}(h:WDW X e t):WDT X e t:=⟨PDW.pt h.h⟩
def jN{g d:ZK}{f k:Int->Int->Bool}(l:OpR X (ZL g) (rI0 λi j=>.bl (f i j)))(e:OpR X (ZL d) (rI0 λi j=>.bl (k i j)))(ha:WD X a ta)(hb:WD X b tb)(hc:WD X c tc)(hm:YR [g,d] [b,c]=false:=by with_unfolding_all rfl):WDT X (.Compare a [g,d] [b,c] pos) (cU (tCh f k ta tb tc)):=⟨Dl.jN (Ky l e ha.h hb.h hc.h hm) Gz⟩
def wty{x:Str}{T:String}(hg:Gl X x)(hm:X.mg x=none)(hv:Zs x=some (.type T))(hn:x≠"__name__":=by decide)(hd:zB x:=by decide):WC X (.Name x ps) (.ty T):=⟨wQ hg hm hv rfl hn hd⟩
def yD{i:Nat}{x:Str}{e:Zv}{c:DE}{a pos:Pos}(b:Option Nat)(hN:X.N.Nodup)(hi:X.N[i]?=some x)(f:Loc X.env.scope x)(he:WD X e c)(hs:ZT e (some (.Name x a)) pos.line X.env=pure false:=by rfl)(d:zL X x:=by first|exact .inl rfl|exact .inr rfl|assumption) :
  WDS X (.Assign [.Name x a] e pos) (Ey i b c):=⟨Dl.yD b (fV hN hi f he.h hs d)⟩
def jy(f:Option Nat)(own:List Str){i:Nat}{y:Str}{e a:Pos}(hc:X.calm=true)(hN:X.N.Nodup)(b:X.N[i]?=some y)(k:Loc X.env.scope y)(hi:WDI X tg iter ti)(hg:∀c,WDG (X.comp own scope c) tg g)(ht:∀c,WDTs (X.comp own scope c) ifs tt)(he:∀c,WD (X.comp own scope c) elt te)(d:ZT (.ListComp elt [⟨tg,iter,ifs,0⟩] scope pos) (some (.Name y e)) a.line X.env=pure true:=by rfl)(hk:fu X.env scope X.N=true:=by rfl)(hs:zF X iter:=by intro _;rfl)(j:zL X y:=by first|exact .inl rfl|exact .inr rfl|assumption) :
  WDS X (.Assign [.Name y e] (.ListComp elt [⟨tg,iter,ifs,0⟩] scope pos) a) (Ey i f (dLC ⇑own ti g tt te)):=⟨Dl.yD f (T5 own hc hN b k hi.h (λc=>(hg c).h) (λc=>(ht c).h) (λc=>(he c).h) d hk hs j)⟩
def jz(r:Nat)(own:List Str){i j:Nat}{y z:Str}{g a b f:Pos}(hc:X.calm=true)(hN:X.N.Nodup)(d:X.N[i]?=some y)(l:Loc X.env.scope y)(hi:WDI X (.Name z b) iter ti)(hg:∀c,WDG (X.comp own scope c) (.Name z b) (gNm j))(e:ZT (.ListComp (.List [] f) [⟨.Name z b,iter,[],0⟩] scope pos) (some (.Name y g)) a.line X.env=pure true:=by rfl)(hk:fu X.env scope X.N=true:=by rfl)(hs:zF X iter:=by intro _;rfl)(k:zL X y:=by first|exact .inl rfl|exact .inr rfl|assumption) :
  WDS X (.Assign [.Name y g] (.ListComp (.List [] f) [⟨.Name z b,iter,[],0⟩] scope pos) a) (Nt i r ti):=⟨Dl.jz r (Rv own hc hN d l hi.h (λc=>(hg c).h) (λc=>cH) (λc=>Dc eY) e hk hs k)⟩
def uG{a e:Zv}{b:DE}{g:DG}(he:WD X e b)(hg:WDG X a g)(hs:Z0 [a] e pos.line X.env=pure false:=by rfl)(c:Z2 [a] e X.env=pure none:=by rfl)(h1:(ZW [a] X.env).map (·.2)=[ZU a X.env]:=by rfl):WDS X (.Assign [a] e pos) (Yj b g):=⟨Dl.uG (sE he.h hg.h hs c h1)⟩
def pB{i:Nat}{x:Str}{e:Zv}{es:List Zv}{a cpos f pos:Pos}(hv:WV X (.Name x f) i)(ha:WDA X (e::es) (bw te fB))(c:WE (.Name x f) "append" X.env (Zx (.Name x f) X.env)=Zx (.Name x f) X.env:=by rfl)(g:zW X cpos (e::es):=by rfl)(d:(a.endLine==cpos.line)=true:=by rfl)(hst:zS X e es:=by rfl)(b:zP X cpos es:=by rfl)(hs:ZT (.Call (.Attribute (.Name x f) "append" a) (e::es) [] cpos) none pos.line X.env=pure false:=by rfl) :
  WDS X (.Expr (.Call (.Attribute (.Name x f) "append" a) (e::es) [] cpos) pos) (EY i te):=⟨Dl.pB (gQ (vD Ņ PySem.F.slot_list_append PySem.F.type_list_append oV hv.h ha.h c g d hst b) hs)⟩
def pA{i:Nat}{x:Str}{e:Zv}{es:List Zv}{a cpos f pos:Pos}(hv:WV X (.Name x f) i)(ha:WDA X (e::es) (bw tj (bw te fB)))(c:WE (.Name x f) "insert" X.env (Zx (.Name x f) X.env)=Zx (.Name x f) X.env:=by rfl)(g:zW X cpos (e::es):=by rfl)(d:(a.endLine==cpos.line)=true:=by rfl)(hst:zS X e es:=by rfl)(b:zP X cpos es:=by rfl)(hs:ZT (.Call (.Attribute (.Name x f) "insert" a) (e::es) [] cpos) none pos.line X.env=pure false:=by rfl) :
  WDS X (.Expr (.Call (.Attribute (.Name x f) "insert" a) (e::es) [] cpos) pos) (Vw i tj te):=⟨Dl.pA (gQ (vD Ņ PySem.F.slot_list_insert PySem.F.type_list_insert Ii hv.h ha.h c g d hst b) hs)⟩
def yG{i:Nat}{x:Str}{e:Zv}{es:List Zv}{a cpos f pos:Pos}(hv:WV X (.Name x f) i)(ha:WDA X (e::es) (bw te fB))(c:WE (.Name x f) "append" X.env (Zx (.Name x f) X.env)=Zx (.Name x f) X.env:=by rfl)(g:zW X cpos (e::es):=by rfl)(d:(a.endLine==cpos.line)=true:=by rfl)(hst:zS X e es:=by rfl)(b:zP X cpos es:=by rfl)(hs:ZT (.Call (.Attribute (.Name x f) "append" a) (e::es) [] cpos) none pos.line X.env=pure false:=by rfl) :
  WDS X (.Expr (.Call (.Attribute (.Name x f) "append" a) (e::es) [] cpos) pos) (Ny i te):=⟨Dl.yG (gQ (vD Ņ PySem.F.slot_list_append PySem.F.type_list_append oV hv.h ha.h c g d hst b) hs)⟩
def dG{i:Nat}{x:Str}{e c:Zv}{es:List Zv}{a cpos g sp pos:Pos}(hv:WV X (.Name x g) i)(l:WD X c tj)(ha:WDA X (e::es) (bw te fB))(k:rB c:=by exact λ_ _=>rfl)(d:WE (.Subscript (.Name x g) c sp) "append" X.env (Zx (.Subscript (.Name x g) c sp) X.env)=Zx (.Subscript (.Name x g) c sp) X.env:=by rfl)(j:zW X cpos (e::es):=by rfl)(f:(a.endLine==cpos.line)=true:=by rfl)(hst:zS X e es:=by rfl)(b:zP X cpos es:=by rfl)(hs:ZT (.Call (.Attribute (.Subscript (.Name x g) c sp) "append" a) (e::es) [] cpos) none pos.line X.env=pure false:=by rfl) :
  WDS X (.Expr (.Call (.Attribute (.Subscript (.Name x g) c sp) "append" a) (e::es) [] cpos) pos) (yK i tj te):=⟨Dl.dG (gQ (vD Ņ PySem.F.slot_list_append PySem.F.type_list_append oV (je dh hv.h l.h k) ha.h d j f hst b) hs)⟩
def q9{i:Nat}{x:Str}{b e:Zv}{c a pos:Pos}(hu:X.A.units+64<YV)(hv:WV X (.Name x c) i)(hk:WD X b tk)(he:WD X e tv)(hs:ZT e (some (.Subscript (.Name x c) b a)) pos.line X.env=pure false:=by rfl) :
  WDS X (.Assign [.Subscript (.Name x c) b a] e pos) (Nv i tk tv):=⟨Dl.q9 (Gp (hu1 hu) hv.h hk.h he.h hs)⟩
def yI{i:Nat}{x:Str}(hN:X.N.Nodup)(hi:X.N[i]?=some x)(b:Loc X.env.scope x)(a:zL X x:=by first|exact .inl rfl|exact .inr rfl|assumption):WDG X (.Name x pos) (gNm i):=⟨Dl.yI (Pu hN hi b a)⟩
def jf{i:Int}{j:Nat}:WD X (.Constant (.int i) j pos) (tK (.int i)):=⟨Dl.jf ⟩
def Gs{i:Bool}{j:Nat}:WD X (.Constant (.bool i) j pos) (tK (.bool i)):=⟨Dl.Gs ⟩
def xq{j:Nat}:WD X (.Constant .none j pos) (tK .none):=⟨Dl.xq ⟩
def w6{x:Str}{j:Nat}:WD X (.Constant (.str x) j pos) (tK (.str x)):=⟨Dl.w6 ⟩
def wV{e:Zv}{t:DE}(h:WD X e t)(he:∀whole,ZG e X.env whole=(do let v ←whole;standAt e.pos;holding [v] (ZP v)):=by intro _;rfl):WDT X e (cU t):=⟨Dl.wV (h:=h.h) (he:=he)⟩
def wW{t:DT}(ha:WDT X a t):WDT X (.UnaryOp .Not a pos) (Yh t):=⟨Dl.wW (ha:=ha.h)⟩
def sH(ha:WDT X a t):WDW X (.BoolOp .And [a] pos) t:=⟨Dl.sH (ha:=ha.h)⟩
def wR(ha:WDT X a t):WDW X (.BoolOp .Or [a] pos) t:=⟨Dl.wR (ha:=ha.h)⟩
def wU{rest:List Zv}(ha:WDT X a t)(hb:WDW X (.BoolOp .And (b::rest) pos) u):WDW X (.BoolOp .And (a::b::rest) pos) (Q0 t u):=⟨Dl.wU (ha:=ha.h) (hb:=hb.h)⟩
def Dg{rest:List Zv}(ha:WDT X a t)(hb:WDW X (.BoolOp .Or (b::rest) pos) u):WDW X (.BoolOp .Or (a::b::rest) pos) (dOr t u):=⟨Dl.Dg (ha:=ha.h) (hb:=hb.h)⟩
def jO :WDA X [] fB:=⟨Dl.jO ⟩
def dU(ha:WD X e te)(hr:WDA X es t)(hs:zS X e es:=by rfl):WDA X (e::es) (bw te t):=⟨Dl.dU (ha:=ha.h) (hr:=hr.h) (hs:=hs)⟩
def qQ(h:WDA X es t):WD X (.List es pos) (Ri t):=⟨Dl.qQ (h:=h.h)⟩
def lW{x1}(h:WDA X es t):WD X (.Tuple es x1 pos) (kO t):=⟨Dl.lW (h:=h.h)⟩
def dZ(ha:WD X a ta)(hb:WD X b tb):WD X (.BinOp a .Sub b pos) (t2 (gI0 λi j=>.int (i - j)) ta tb):=⟨Dl.dZ (ha:=ha.h) (hb:=hb.h)⟩
def xJ(ha:WD X a ta)(hb:WD X b tb):WD X (.BinOp a .FloorDiv b pos) (t2 (gI VN λi j=>.int (i / j)) ta tb):=⟨Dl.xJ (ha:=ha.h) (hb:=hb.h)⟩
def sU(ha:WD X a ta)(hb:WD X b tb):WD X (.BinOp a .Mod b pos) (t2 (gI (λ_ j=>0<j) λi j=>.int (i % j)) ta tb):=⟨Dl.sU (ha:=ha.h) (hb:=hb.h)⟩
def Gq(ha:WD X a ta)(hb:WD X b tb):WD X (.Compare a [.Gt] [b] pos) (t2 (gI0 λi j=>.bool (decide (j<i))) ta tb):=⟨Dl.Gq (ha:=ha.h) (hb:=hb.h)⟩
def gR(ha:WD X a ta)(hb:WD X b tb):WDT X (.Compare a [.Lt] [b] pos) (cU (t2 (gI0 λi j=>.bool (decide (i<j))) ta tb)):=⟨Dl.gR (ha:=ha.h) (hb:=hb.h)⟩
def Dh(ha:WD X a ta)(hb:WD X b tb):WDT X (.Compare a [.Gt] [b] pos) (cU (t2 (gI0 λi j=>.bool (decide (j<i))) ta tb)):=⟨Dl.Dh (ha:=ha.h) (hb:=hb.h)⟩
def Di(ha:WD X a ta)(hb:WD X b tb):WDT X (.Compare a [.GtE] [b] pos) (cU (t2 (gI0 λi j=>.bool (decide (j<=i))) ta tb)):=⟨Dl.Di (ha:=ha.h) (hb:=hb.h)⟩
def Dk{ps:Pos}(hm:X.mg "len"=none)(ha:WDA X [a] t)(hg:Gl X "len":=by rfl)(he:zS X a []:=by rfl)(hpl:zP X pos []:=by rfl):WD X (.Call (.Name "len" ps) [a] [] pos) (tCl QS t):=⟨Dl.Dk (hm:=hm) (ha:=ha.h) (hg:=hg) (he:=he) (hpl:=hpl)⟩
def lY{ps:Pos}(hm:X.mg "int"=none)(hv:Zs "int"=some (.type "int"))(ha:WDA X [a] t)(hg:Gl X "int":=by rfl)(he:zS X a []:=by rfl)(hpl:zP X pos []:=by rfl):WD X (.Call (.Name "int" ps) [a] [] pos) (tCl Vm t):=⟨Dl.lY (hm:=hm) (hv:=hv) (ha:=ha.h) (hg:=hg) (he:=he) (hpl:=hpl)⟩
def Ep :WDSs X [] vV:=⟨Dl.Ep ⟩
def yF{st:ZH}{rest:List ZH}(h1:WDS X st t)(h2:WDSs X rest u):WDSs X (st::rest) (qx t u):=⟨Dl.yF (h1:=h1.h) (h2:=h2.h)⟩
def o9{st:ZH}(h1:WDS X st t):WDSs X [st] t:=⟨Dl.o9 (h1:=h1.h)⟩
def nD{st:ZH}:WDS X st (λ_ _=>False):=⟨Dl.nD ⟩
def o8(he:WD X e te):WDS X (.Return (some e) pos) (Ez te):=⟨Dl.o8 (he:=he.h)⟩
def Nm{c:Zv}{a b:List ZH}{d:DT}(hc:WDT X c d)(ha:WDSs X a t)(hb:WDSs X b u):WDS X (.If c a b pos) (dIf d t u):=⟨Dl.Nm (hc:=hc.h) (ha:=ha.h) (hb:=hb.h)⟩
def dz(he:WD X e te)(hs:ZT e none pos.line X.env=pure false:=by rfl):WDS X (.Expr e pos) (SN te):=⟨Dl.dz (he:=he.h) (hs:=hs)⟩
def yH :WDGs X [] RQ:=⟨Dl.yH ⟩
def uI{g:DG}{a:DGs}(h1:WDG X e g)(h2:WDGs X es a)(hs:(ZW (e::es) X.env).map (·.2)=ZU e X.env::(ZW es X.env).map (·.2):=by rfl):WDGs X (e::es) (Ms g a):=⟨Dl.uI (h1:=h1.h) (h2:=h2.h) (hs:=hs)⟩
def dH{a:DGs}{k n:Nat}(hc:X.calm=true)(h:WDGs X es a)(hn:⇑(ZW es X.env)=n:=by rfl)(hst:(ZW es X.env).findIdx? (·.1)=none:=by rfl):WDG X (.Tuple es k pos) (gTp n a):=⟨Dl.dH (hc:=hc) (h:=h.h) (hn:=hn) (hst:=hst)⟩
def Eu(hl:WD X l tl):WDI X tg l (iSq tl):=⟨Dl.Eu (hl:=hl.h)⟩
def pF{a:Zv}{ps:Pos}(hm:X.mg "range"=none)(ha:WDA X [a] ta)(hg:Gl X "range":=by rfl)(hs:Zw [a] X.env=[(false,Zx a X.env)]:=by rfl):WDI X tg (.Call (.Name "range" ps) [a] [] pos) (iR1 ta):=⟨Dl.pF (hm:=hm) (ha:=ha.h) (hg:=hg) (hs:=hs)⟩
def pC{a b:Zv}{ps:Pos}(hm:X.mg "range"=none)(ha:WDA X [a,b] ta)(hg:Gl X "range":=by rfl)(hs:Zw [a,b] X.env=[(false,Zx a X.env),(false,Zx b X.env)]:=by rfl)(hs2:Zw [b] X.env=[(false,Zx b X.env)]:=by rfl):WDI X tg (.Call (.Name "range" ps) [a,b] [] pos) (iR2 ta):=⟨Dl.pC (hm:=hm) (ha:=ha.h) (hg:=hg) (hs:=hs) (hs2:=hs2)⟩
def nH{elts:List Zv}{kk:Nat}{b:Pos}{a:Zv}{ps:Pos}(hm:X.mg "enumerate"=none)(ha:WDA X [a] ta)(hg:Gl X "enumerate":=by rfl)(hs:Zw [a] X.env=[(false,Zx a X.env)]:=by rfl):WDI X (.Tuple elts kk b) (.Call (.Name "enumerate" ps) [a] [] pos) (iEn ta):=⟨Dl.nH (hm:=hm) (ha:=ha.h) (hg:=hg) (hs:=hs)⟩
def Es{a:List ZH}(hp:Z3 (model X.prog X.w) X.A X.env X.xe)(hc:X.calm=true)(hi:WDI X tg iter ti)(hg:WDG X tg g)(hb:WDSs X a tb)(hs:zF X iter:=by intro _;rfl):WDS X (.For tg iter a [] pos) (Yi ti g tb):=⟨Dl.Es (hp:=hp) (hc:=hc) (hi:=hi.h) (hg:=hg.h) (hb:=hb.h) (hs:=hs)⟩
def jx{a:List ZH}{c:Zv}{b:DT}(hp:Z3 (model X.prog X.w) X.A X.env X.xe)(hc:WDT X c b)(hb:WDSs X a tb):WDS X (.While c a [] pos) (Nr b tb):=⟨Dl.jx (hp:=hp) (hc:=hc.h) (hb:=hb.h)⟩
def cH{X:Cx}:WDTs X [] (λ_ P=>P true):=⟨Dl.cH ⟩
def yx{X:Cx}{c:Zv}{t:DT}(hc:WDT X c t):WDTs X [c] t:=⟨Dl.yx (hc:=hc.h)⟩
def K7(own:List Str)(hc:X.calm=true)(hi:WDI X tg iter ti)(hg:∀c,WDG (X.comp own scope c) tg g)(ht:∀c,WDTs (X.comp own scope c) ifs tt)(he:∀c,WD (X.comp own scope c) elt te)(hk:fu X.env scope X.N=true:=by rfl)(hs:zF X iter:=by intro _;rfl):WD X (.ListComp elt [⟨tg,iter,ifs,0⟩] scope pos) (dLC ⇑own ti g tt te):=⟨Dl.K7 (own:=own) (hc:=hc) (hi:=hi.h) (hg:=λc=>(hg c).h) (ht:=λc=>(ht c).h) (he:=λc=>(he c).h) (hk:=hk) (hs:=hs)⟩
def sS(ha:WD X a ta):WD X (.UnaryOp .Not a pos) (Rh ta):=⟨Dl.sS (ha:=ha.h)⟩
def sO{op}(h:WD X a ta):WD X (.BoolOp op [a] pos) ta:=⟨Dl.sO (h:=h.h)⟩
def sX{rest:List Zv}(ha:WD X a ta)(hb:WD X (.BoolOp .And (b::rest) pos) tb):WD X (.BoolOp .And (a::b::rest) pos) (FJ ta tb):=⟨Dl.sX (ha:=ha.h) (hb:=hb.h)⟩
def lZ{u:DT}(hc:WDT X c u)(ha:WD X a ta)(hb:WD X b tb):WD X (.IfExp c a b pos) (Ti u ta tb):=⟨Dl.lZ (hc:=hc.h) (ha:=ha.h) (hb:=hb.h)⟩
def oA{ps:Pos}(hc:X.calm=true)(hm:X.mg "all"=none)(hv:Zs "all"=some (.builtin "all"))(ha:WDA X [a] t)(hg:Gl X "all":=by rfl)(he:zS X a []:=by rfl)(hpl:zP X pos []:=by rfl):WD X (.Call (.Name "all" ps) [a] [] pos) (tCl Vp t):=⟨Dl.oA (hc:=hc) (hm:=hm) (hv:=hv) (ha:=ha.h) (hg:=hg) (he:=he) (hpl:=hpl)⟩
def qO{ps:Pos}(hc:X.calm=true)(hm:X.mg "max"=none)(ha:WDA X [a,b] t)(hg:Gl X "max":=by rfl)(he:Zw [a,b] X.env=(false,Zx a X.env)::Zw [b] X.env:=by rfl)(hpl:(Zy pos (Zw [b] X.env)).any (·.1)=false:=by rfl):WD X (.Call (.Name "max" ps) [a,b] [] pos) (tCl (gMM λi j=>if j > i then j else i) t):=⟨Dl.qO (hc:=hc) (hm:=hm) (ha:=ha.h) (hg:=hg) (he:=he) (hpl:=hpl)⟩
def qP{ps:Pos}(hm:X.mg "list"=none)(ha:WDA X [a] t)(hg:Gl X "list":=by rfl)(he:zS X a []:=by rfl)(hpl:zP X pos []:=by rfl):WD X (.Call (.Name "list" ps) [a] [] pos) (tCl QM t):=⟨Dl.qP (hm:=hm) (ha:=ha.h) (hg:=hg) (he:=he) (hpl:=hpl)⟩
def gW{ps:Pos}(hm:X.mg "tuple"=none)(ha:WDA X [a] t)(hg:Gl X "tuple":=by rfl)(he:zS X a []:=by rfl)(hpl:zP X pos []:=by rfl):WD X (.Call (.Name "tuple" ps) [a] [] pos) (tCl Mv t):=⟨Dl.gW (hm:=hm) (ha:=ha.h) (hg:=hg) (he:=he) (hpl:=hpl)⟩
def gn{ps:Pos}(hm:X.mg "sorted"=none)(ha:WDA X [a] t)(hg:Gl X "sorted":=by rfl)(he:zS X a []:=by rfl)(hpl:zP X pos []:=by rfl):WD X (.Call (.Name "sorted" ps) [a] [] pos) (tCl Eh t):=⟨Dl.gn (hm:=hm) (ha:=ha.h) (hg:=hg) (he:=he) (hpl:=hpl)⟩
def sI{ps:Pos}(hm:X.mg "sorted"=none)(ha:WDA X [a] t)(hg:Gl X "sorted":=by rfl)(he:zS X a []:=by rfl)(hpl:zP X pos []:=by rfl):WD X (.Call (.Name "sorted" ps) [a] [] pos) (tCl Ef t):=⟨Dl.sI (hm:=hm) (ha:=ha.h) (hg:=hg) (he:=he) (hpl:=hpl)⟩
def vG(hu:X.A.units+64<YV)(ha:WD X a ta)(hb:WD X b tb)(hm:ZM .In b=false:=by rfl):WD X (.Compare a [.In] [b] pos) (t2 (gIn false) ta tb):=⟨Dl.vG (hu:=hu) (ha:=ha.h) (hb:=hb.h) (hm:=hm)⟩
def eX(hu:X.A.units+64<YV)(ha:WD X a ta)(hb:WD X b tb)(hm:ZM .NotIn b=false:=by rfl):WD X (.Compare a [.NotIn] [b] pos) (t2 (gIn true) ta tb):=⟨Dl.eX (hu:=hu) (ha:=ha.h) (hb:=hb.h) (hm:=hm)⟩
def eU(hu:X.A.units+64<YV)(ha:WD X a ta)(hb:WD X b tb)(hm:ZM .In b=false:=by rfl):WDT X (.Compare a [.In] [b] pos) (cU (t2 (gIn false) ta tb)):=⟨Dl.eU (hu:=hu) (ha:=ha.h) (hb:=hb.h) (hm:=hm)⟩
def oh(hu:X.A.units+64<YV)(ha:WD X a ta)(hb:WD X b tb)(hm:ZM .NotIn b=false:=by rfl):WDT X (.Compare a [.NotIn] [b] pos) (cU (t2 (gIn true) ta tb)):=⟨Dl.oh (hu:=hu) (ha:=ha.h) (hb:=hb.h) (hm:=hm)⟩
def dB :WDO X none RK:=⟨Dl.dB ⟩
def nF(h:WD X e te):WDO X (some e) (RJ te):=⟨Dl.nF (h:=h.h)⟩
def cV(ha:WD X a ta):WD X (.UnaryOp .USub a pos) (Wb ta):=⟨Dl.cV (ha:=ha.h)⟩
def dc{f:List D->(D->Prop)->Prop}(C:Cal X.prog X.w X.K X.mg X.base k x ps (spD f))(hr:Room j X.A)(ha:WDA X (e::es) t)(hk:k<=j:=by decide)(hg:Gl X x:=by rfl)(hdb:zB x:=by decide)(he:zS X e es:=by rfl)(hpl:zP X pos es:=by rfl):WD X (.Call (.Name x p) (e::es) [] pos) (tFn f t):=⟨Dl.dc (C:=C) (hr:=hr) (ha:=ha.h) (hk:=hk) (hg:=hg) (hdb:=hdb) (he:=he) (hpl:=hpl)⟩
def dcP{C:Pn->Prop}{i:Nat}{f:List D->(D->Prop)->Prop}{y:Str}{a:Pos}(CC:Cal X.prog X.w X.K X.mg X.base k x ps (spP C f))(hr:Room j X.A)(hi:WV X (.Name y a) i)(ha:WDA X es t)(hk:k<=j:=by decide)(hg:Gl X x:=by rfl)(hdb:zB x:=by decide)(he:Zw (.Name y a::es) X.env=(false,Zx (.Name y a) X.env)::Zw es X.env:=by rfl)(hpl:zP X pos es:=by rfl):WD X (.Call (.Name x p) (.Name y a::es) [] pos) (Hz C f i t):=⟨Dl.dcP (CC:=CC) (hr:=hr) (hi:=hi.h) (ha:=ha.h) (hk:=hk) (hg:=hg) (hdb:=hdb) (he:=he) (hpl:=hpl)⟩
def dv(i:Nat){x:Str}{pos:Pos}(hN:X.N[i]?=some x:=by rfl)(hv:Vis X.env.scope x:=by first|exact Or.inl rfl|exact Or.inr (Or.inl rfl)|exact Or.inr (Or.inr rfl))(hd:zB x:=by decide)(hcd:(x==("__classdict__":Str))=false:=by decide):WD X (.Name x pos) (tV i):=⟨Dl.dv (i:=i) (hN:=hN) (hv:=hv) (hd:=hd) (hcd:=hcd)⟩
def kY(ha:WD X a ta)(hb:WD X b tb):WDT X (.Compare a [.IsNot] [b] pos) (cU (t2 G6 ta tb)):=⟨Dl.kY (ha:=ha.h) (hb:=hb.h)⟩
def Dm(ha:WD X a ta)(hb:WD X b tb):WD X (.Compare a [.Is] [b] pos) (t2 I9 ta tb):=⟨Dl.Dm (ha:=ha.h) (hb:=hb.h)⟩
def lV(ha:WD X a ta)(hb:WD X b tb):WDT X (.Compare a [.Is] [b] pos) (cU (t2 I9 ta tb)):=⟨Dl.lV (ha:=ha.h) (hb:=hb.h)⟩
def jP{ps b:Pos}(hc:X.calm=true)(hs:X.mg "set"=none)(hl:X.mg "len"=none)(ha:WDA X [a] t)(hgs:Gl X "set":=by rfl)(hgl:Gl X "len":=by rfl)(he:zS X a []:=by rfl)(hpl:zP X pos []:=by rfl)(he':Zw [Expr.Call (.Name "set" ps) [a] [] pos] X.env=(false,Zx (Expr.Call (.Name "set" ps) [a] [] pos) X.env)::Zw [] X.env:=by rfl)(hpl':(Zy pos' (Zw [] X.env)).any (·.1)=false:=by rfl):WD X (.Call (.Name "len" b) [.Call (.Name "set" ps) [a] [] pos] [] pos') (tCl G7 t):=⟨Dl.jP (hc:=hc) (hs:=hs) (hl:=hl) (ha:=ha.h) (hgs:=hgs) (hgl:=hgl) (he:=he) (hpl:=hpl) (he':=he') (hpl':=hpl')⟩
def K8(ha:WD X a ta)(hb:WD X b tb)(hs:rB b:=by exact λ_ _=>rfl):WD X (.Subscript a b pos) (t2 gIx ta tb):=⟨Dl.K8 (ha:=ha.h) (hb:=hb.h) (hs:=hs)⟩
def xg(ha:WD X a ta)(hb:WD X b tb):WD X (.BinOp a .Add b pos) (t2 pU ta tb):=⟨Dl.xg (ha:=ha.h) (hb:=hb.h)⟩
def eV(ha:WD X a ta)(hb:WD X b tb):WD X (.BinOp a .Mult b pos) (t2 Mw ta tb):=⟨Dl.eV (ha:=ha.h) (hb:=hb.h)⟩
def Dq(hu:X.A.units+64<YV)(ha:WD X a ta)(hb:WD X b tb):WD X (.Compare a [.Eq] [b] pos) (t2 (oZ false) ta tb):=⟨Dl.Dq (hu:=hu) (ha:=ha.h) (hb:=hb.h)⟩
def wY(hu:X.A.units+64<YV)(ha:WD X a ta)(hb:WD X b tb):WDT X (.Compare a [.Eq] [b] pos) (cU (t2 (oZ false) ta tb)):=⟨Dl.wY (hu:=hu) (ha:=ha.h) (hb:=hb.h)⟩
def wX(hu:X.A.units+64<YV)(ha:WD X a ta)(hb:WD X b tb):WDT X (.Compare a [.NotEq] [b] pos) (cU (t2 (oZ true) ta tb)):=⟨Dl.wX (hu:=hu) (ha:=ha.h) (hb:=hb.h)⟩
def Er{rest:List ZH}(i:Nat)(h:WDSs X rest t):WDSs X rest (Vx i t):=⟨Dl.Er (i:=i) (h:=h.h)⟩
def Nk{rest:List ZH}(i:Nat)(b:Bool)(h:WDSs X rest t):WDSs X rest (dSp i b t):=⟨Dl.Nk (i:=i) (b:=b) (h:=h.h)⟩
def uE{rest:List ZH}(js:List Nat)(h:WDSs X rest t):WDSs X rest (uJ js t):=⟨Dl.uE (js:=js) (h:=h.h)⟩
def gZ :WD X (.Dict [] [] pos) (λ_ P=>P .new (.dict [])):=⟨Dl.gZ ⟩
def xH(N:List Str)(sc:Zu)(tm:Tm)(h:okT N sc tm e=true)(hN:X.N=N:=by rfl)(hs:X.env.scope=sc:=by rfl)(s:smT tm=true:=by decide +kernel):WD X e (Tg tm):=⟨Dl.xH (N:=N) (sc:=sc) (tm:=tm) (h:=h) (hN:=hN) (hs:=hs) (s:=s)⟩
def qL(n:Nat)(N:List Str)(sc:Zu)(ts:Tms){t2:DA}(h2:WDA X (es.drop n) t2)(h:tO N sc ts (es.take n)=true)(hN:X.N=N:=by rfl)(hs:X.env.scope=sc:=by rfl)(s:jY 1000 ts=true:=by decide +kernel):WDA X es (VH ts t2):=⟨Dl.qL (n:=n) (N:=N) (sc:=sc) (ts:=ts) (h2:=h2.h) (h:=h) (hN:=hN) (hs:=hs) (s:=s)⟩
def qN(he:WD X e te):WD X (.Subscript e (.Slice none none (some (.UnaryOp .USub (.Constant (.int 1) 0 p1) p2)) p3) pos) (V6 te):=⟨Dl.qN (he:=he.h)⟩
def iQ{a hi:Option Zv}{c b:DO}(he:WD X e te)(hl:WDO X a c)(hh:WDO X hi b):WD X (.Subscript e (.Slice a hi none p2) pos) (V4 te c b):=⟨Dl.iQ (he:=he.h) (hl:=hl.h) (hh:=hh.h)⟩
def sW(ha:WD X a ta)(hb:WD X b tb):WD X (.Dict [some a] [b] pos) (tD1 ta tb):=⟨Dl.sW (ha:=ha.h) (hb:=hb.h)⟩
def Dp(hu:X.A.units+64<YV)(ha:WD X a ta)(hb:WD X b tb)(hm:ZM .In b=false:=by rfl):WD X (.Compare a [.In] [b] pos) (t2 (Bd false) ta tb):=⟨Dl.Dp (hu:=hu) (ha:=ha.h) (hb:=hb.h) (hm:=hm)⟩
def eO(hu:X.A.units+64<YV)(ha:WD X a ta)(hb:WD X b tb)(hm:ZM .NotIn b=false:=by rfl):WDT X (.Compare a [.NotIn] [b] pos) (cU (t2 (Bd true) ta tb)):=⟨Dl.eO (hu:=hu) (ha:=ha.h) (hb:=hb.h) (hm:=hm)⟩
def mj(hu:X.A.units+64<YV)(ha:WD X a ta)(hb:WD X b tb)(hs:Ra b:=by exact λ_ _=>rfl):WD X (.Subscript a b pos) (t2 MK ta tb):=⟨Dl.mj (hu:=hu) (ha:=ha.h) (hb:=hb.h) (hs:=hs)⟩
def qK(h:WD X e te)(he:∀whole,ZG e X.env whole=(do let v ←whole;standAt e.pos;holding [v] (ZP v)):=by intro _;rfl):WDT X e (V3 te):=⟨Dl.qK (h:=h.h) (he:=he)⟩
def Ew{es:List Zv}{a:DGs}{k n:Nat}(hc:X.calm=true)(h:WDGs X es a)(hn:⇑(ZW es X.env)=n:=by rfl)(hst:(ZW es X.env).findIdx? (·.1)=none:=by rfl):WDG X (.Tuple es k pos) (gTL n a):=⟨Dl.Ew (hc:=hc) (h:=h.h) (hn:=hn) (hst:=hst)⟩
def xu{ps:Pos}(hc:X.calm=true)(hm:X.mg "min"=none)(ha:WDA X [a] t)(hg:Gl X "min":=by rfl)(he:zS X a []:=by rfl)(hpl:zP X pos []:=by rfl):WD X (.Call (.Name "min" ps) [a] [] pos) (tCl (IW (λi j=>if j<i then j else i) (λM a=>M<=a)) t):=⟨Dl.xu (hc:=hc) (hm:=hm) (ha:=ha.h) (hg:=hg) (he:=he) (hpl:=hpl)⟩
def xG{ps:Pos}(hc:X.calm=true)(hm:X.mg "max"=none)(ha:WDA X [a] t)(hg:Gl X "max":=by rfl)(he:zS X a []:=by rfl)(hpl:zP X pos []:=by rfl):WD X (.Call (.Name "max" ps) [a] [] pos) (tCl (IW (λi j=>if j > i then j else i) (λM a=>a<=M)) t):=⟨Dl.xG (hc:=hc) (hm:=hm) (ha:=ha.h) (hg:=hg) (he:=he) (hpl:=hpl)⟩
def qM{ps:Pos}(hc:X.calm=true)(hm:X.mg "sum"=none)(ha:WDA X [a] t)(hg:Gl X "sum":=by rfl)(he:zS X a []:=by rfl)(hpl:zP X pos []:=by rfl):WD X (.Call (.Name "sum" ps) [a] [] pos) (tCl Mx t):=⟨Dl.qM (hc:=hc) (hm:=hm) (ha:=ha.h) (hg:=hg) (he:=he) (hpl:=hpl)⟩
def sJ{ps:Pos}(hc:X.calm=true)(hm:X.mg "sorted"=none)(ha:WDA X [a] t)(hg:Gl X "sorted":=by rfl)(he:zS X a []:=by rfl)(hpl:zP X pos []:=by rfl):WD X (.Call (.Name "sorted" ps) [a] [] pos) (tCl Ei t):=⟨Dl.sJ (hc:=hc) (hm:=hm) (ha:=ha.h) (hg:=hg) (he:=he) (hpl:=hpl)⟩
def gU(ha:WD X a ta)(hb:WD X b tb):WDT X (.Compare a [.IsNot] [b] pos) (cU (t2 G5 ta tb)):=⟨Dl.gU (ha:=ha.h) (hb:=hb.h)⟩
def Dr{ps:Pos}(hc:X.calm=true)(hm:X.mg "any"=none)(ha:WDA X [a] t)(hg:Gl X "any":=by rfl)(he:zS X a []:=by rfl)(hpl:zP X pos []:=by rfl):WD X (.Call (.Name "any" ps) [a] [] pos) (tCl Vo t):=⟨Dl.Dr (hc:=hc) (hm:=hm) (ha:=ha.h) (hg:=hg) (he:=he) (hpl:=hpl)⟩
end
section
def gA[Gr]{T:String}{x:Str}{e:Zv}{b:DE}{ps a pos:Pos}(hk:∀t:Value,(t=.type "NoneType"\/t=.type "bool"\/t=.type "int"\/t=.type "str"\/t=.type "list"\/t=.type "tuple"\/t=.type "dict")->∃n,t=.type n/\W.kitOne X.K t (.type T)=some (n==T || (T=="int"&&n=="bool")))(hm:X.mg "isinstance"=none)(he:WD X e b)(c:WC X (.Name x a) (.ty T))(hg:Gl X "isinstance":=by rfl)(h1:Zw [e,.Name x a] X.env=(false,Zx e X.env)::Zw [.Name x a] X.env:=by rfl)(h2:Zw [.Name x a] X.env=(false,Zx (.Name x a) X.env)::Zw [] X.env:=by rfl)(hpl:(Zy pos (Zw [.Name x a] X.env)).any (·.1)=false:=by rfl) :
  WD X (.Call (.Name "isinstance" ps) [e,.Name x a] [] pos) (tIs T b):=⟨Dl.gA hk hm he.h c.h hg h1 h2 hpl⟩
end
end Wr
set_option autoImplicit false
set_option autoImplicit true
namespace Wr
open PySem L2 PyProof.Rows Dl
section
variable [Gr] {X:Cx}{tj te:DE}
def nG{elts:List Zv}{kk:Nat}{b pos:Pos}{a:Zv}{ps:Pos}(hm:X.mg "enumerate"=none)(ha:WDA X [a] ta)(hg:Gl X "enumerate":=by rfl)(hs:Zw [a] X.env=[(false,Zx a X.env)]:=by rfl):WDI X (.Tuple elts kk b) (.Call (.Name "enumerate" ps) [a] [] pos) (Xr ta):=⟨Dl.nG hm ha.h hg hs⟩
end
section
variable [Gr] {X:Cx}{tj te te1 te2 ta:DE}{t:DS}
end
end Wr
namespace Dl
open PySem L2 PyProof.Rows
section
variable{X:Cx}{pins:List (Addr×Obj)}{σ:L2.St}{H:Hp}{s:Shared}{ok ok':Addr->Prop}
mutual
theorem Rp.fQ(I:Inv X pins σ H s):∀{v:V}{d:D}{u:Value},Rp ok H v d->RelV v u->∃as,T1 s.heap u d as/\∀a∈as,H a≠none
 |_,_,_,.non,r=>by cases r;exact⟨_,.none,λ_ h=>nomatch h⟩
 |_,_,_,.bl b,r=>by cases r;exact⟨_,.bool b,λ_ h=>nomatch h⟩
 |_,_,_,.int i,r=>by let⟨t,rfl⟩:=r;exact⟨_,.int i t,λ_ h=>nomatch h⟩
 |_,_,_,.str x,r=>by let⟨t,rfl⟩:=r;exact⟨_,.str x t,λ_ h=>nomatch h⟩
 |_,_,_,.lst o h rs,r=>by
  cases r;let⟨its,k,g,_⟩:=I.list (SqL.of h);let⟨as,f,c⟩:=Rps.fQ I rs k;let⟨l,e,hc,n,hd⟩:=g.isList;refine⟨_,.list e hc hd (by simpa using f),λb hb=>?_⟩;rcases Þ.mp hb with rfl|hb
  ·rw[h];exact λz=>nomatch z
  ·exact c b hb
 |_,_,_,.tup h rs,r=>by
  cases r;let⟨its,k,g,_⟩:=I.tuple (SqT.of h);let⟨as,f,c⟩:=Rps.fQ I rs k;let⟨l,e,hc,n,hd⟩:=g;exact⟨_,.tuple e hc hd (by simpa using f),c⟩
 |_,_,_,.dct (a:=a) (kvs:=kvs) (ds:=ds) o h rs,r=>by
  cases r;let⟨_,_,vs,j,l,es,ep,e,hc,hd,_,hp,_⟩:=Hh I.hok h;let⟨as,p,f,m,c⟩:=Rkv.fQ I rs j hp;refine⟨_,.dict e hc.1 hd f m,λb hb=>?_⟩;rcases â.mp hb with hb|hb
  ·rcases Þ.mp hb with rfl|hb
   ·rw[h];exact λz=>nomatch z
   ·exact c b (.inl hb)
  ·exact c b (.inr hb)
theorem Rps.fQ(I:Inv X pins σ H s):∀{v:List V}{d:List D}{u:List Value},Rps ok H v d->Vals v u->∃as,T2 s.heap u d as/\∀a∈as,H a≠none
 |_,_,_,.nil,r=>by cases r;exact⟨[],.nil,λ_ h=>nomatch h⟩
 |_,_,_,.cons h t,r=>by
  cases r with
  |cons a b =>
   let⟨as,g,e⟩:=Rp.fQ I h a;let⟨j,i,f⟩:=Rps.fQ I t b;exact⟨_,.cons g i,λc hc=>(â.mp hc).elim (e c) (f c)⟩
theorem Rkv.fQ(I:Inv X pins σ H s):∀{kvs:List (Key×V)}{ds:List (D×D)}{vs:List (Key×Value)}{es:List Zg},Rkv ok H kvs ds->KV kvs vs->Pairs (aY X.prog X.w) es vs->∃as bs,T2 s.heap (es.map (·.key)) (ds.map (·.1)) as/\T2 s.heap (es.map (·.val)) (ds.map (·.2)) bs/\∀a,a∈as\/a∈bs->H a≠none
 |_,_,_,_,.nil,r,p=>by
  cases r;cases p;exact⟨[],[],.nil,.nil,λ_ h=>h.elim (λh=>nomatch h) λh=>nomatch h⟩
 |_,_,_,_,.cons h t,r,p=>by
  cases r with
  |cons a b =>
   cases p with
   |cons p1 p2 p3 =>
    let⟨n,o⟩:=a;let⟨as,bs,l,m,f⟩:=Rkv.fQ I t b p3;let⟨q,j,k⟩:=Rp.fQ I h o;have e:pR _ _=true:=p1;rw[←n]at e;rw[←p2]at j;rcases aO e with⟨i,tk,d,g⟩|⟨x,tk,d,g⟩
    ·refine⟨_,_,.cons (as:=[]) ?_ l,.cons j m,λc hc=>?_⟩
     ·dsimp only at d ⊢;rw[g,d];exact .int i tk
     ·rcases hc with hc|hc
      ·exact f c (.inl hc)
      ·exact(â.mp hc).elim (k c) λz=>f c (.inr z)
    ·refine⟨_,_,.cons (as:=[]) ?_ l,.cons j m,λc hc=>?_⟩
     ·dsimp only at d ⊢;rw[g,d];exact .str x tk
     ·rcases hc with hc|hc
      ·exact f c (.inl hc)
      ·exact(â.mp hc).elim (k c) λz=>f c (.inr z)
end
mutual
theorem Rp.kh(f:∀a o,ok a->((∀xs,o≠.tup xs)/\¬Fxd o)->H a=some o->ok' a):∀{v:V}{d:D},Rp ok H v d->Rp ok' H v d
 |_,_,.non=>.non
 |_,_,.bl b=>.bl b
 |_,_,.int i=>.int i
 |_,_,.str x=>.str x
 |_,_,.lst o h r=>.lst (f _ _ o ⟨(λ_ z=>by cases z),λ⟨_,_,z⟩=>by cases z⟩ h) h (Rps.kh f r)
 |_,_,.tup h r=>.tup h (Rps.kh f r)
 |_,_,.dct o h r=>.dct (f _ _ o ⟨(λ_ z=>by cases z),λ⟨_,_,z⟩=>by cases z⟩ h) h (Rkv.kh f r)
theorem Rps.kh(f:∀a o,ok a->((∀xs,o≠.tup xs)/\¬Fxd o)->H a=some o->ok' a):∀{v:List V}{d:List D},Rps ok H v d->Rps ok' H v d
 |_,_,.nil=>.nil
 |_,_,.cons h r=>.cons (Rp.kh f h) (Rps.kh f r)
theorem Rkv.kh(f:∀a o,ok a->((∀xs,o≠.tup xs)/\¬Fxd o)->H a=some o->ok' a):∀{v:List (Key×V)}{d:List (D×D)},Rkv ok H v d->Rkv ok' H v d
 |_,_,.nil=>.nil
 |_,_,.cons h r=>.cons (Rp.kh f h) (Rkv.kh f r)
end
end
def Qe(d:D):Prop:=d.showable=true/\d.depth<=50/\⇑d.shown<=sizeLine
def uV(base:Zi):Prop:=∃o,base.get? Zp=some o
section
variable{X:Cx}{pos:Pos}{a e:Zv}{te:DE}{t:DA} [Gr]
def Fl(y:uV X.base)(hg:X.A.guards=some [])(hu:X.A.units+64<YV):aQ X (.builtin "repr") (λxs H Q=>∃ok v d,xs=[v]/\Rp ok H v d/\Qe d/\Q (.str d.shown) H):=by
 intro f s σ H xs us Q I r h;let⟨ok,v,d,rfl,n,⟨l,D,m⟩,q⟩:=h;let⟨u,rfl,j⟩:=vals1 r;have c:∀(x:Str)(tk:Tok),x=d.shown->EP X f σ Q (.str x tk) { s with toks:=s.toks+1 }:=λx tk e=>by subst e;exact⟨.str d.shown,H,I.tok _,⟨tk,rfl⟩,q⟩
 have g:∀a,v=.ref a->wpAny (model X.prog X.w) X.A (YI (.builtin "repr") [u]) (EP X f σ Q) X.xe s:=λa ea=>by
  subst ea;let⟨as,C,B⟩:=n.fQ I j;cases j;let⟨o,z⟩:=y;refine repr_of_reads' (h₀:=s.heap) C l (λ_ hm=>B _ hm (I.bs _ _ z).2) hg () (λ_ _ e=>e) (λh' u tk k=>?_) m;exact⟨.str d.shown,H,I.kept k,⟨_,rfl⟩,q⟩
 cases n with
 |non=>cases j;exact PySem.P.repr_of_none (c _ _ rfl)
 |bl b=>cases j;exact PySem.P.repr_of_bool (c _ _ (by cases b <;> rfl))
 |int i =>
  let⟨t,rfl⟩:=j;exact PySem.P.repr_of_int (eB l) (c _ _ rfl)
 |str x =>
  let⟨t,rfl⟩:=j;exact PySem.P.repr_of_str (c _ _ rfl) m
 |lst o h p=>exact g _ rfl
 |tup h p=>exact g _ rfl
 |dct o h p=>exact g _ rfl
def MF:GC:=λks P=>∃k d,ks=[(k,d)]/\Qe d/\P .imm (.str d.shown)
def lX{ps:Pos}(c:uV X.base)(b:X.A.guards=some [])(hu:X.A.units+64<YV)(hm:X.mg "repr"=none)(ha:PDA X [a] t)(hg:Gl X "repr":=by rfl)(he:zS X a []:=by rfl)(hpl:zP X pos []:=by rfl):PD X (.Call (.Name "repr" ps) [a] [] pos) (tCl MF t) :=
 cj (Fl c b hu) (by
  intro p g own h H vs ks P Q A r t q;let⟨k,d,rfl,o,t⟩:=t;let⟨v,rfl,f⟩:=cJ r;exact⟨_,v,d,rfl,f,o,q _ _ _ _ t Kp.refl A.pen (.str _)⟩) hg hm boot_repr ha ∅ ∅ he hpl
end
section
variable [Gr]
abbrev DR:=(D->Prop)->List Sl->Prop
structure WishR(p:Pn)(own:Addr->Option Nat)(H:Hp)(P:D->Prop)(Q:Ends):Prop where
 rt:∀d v H',P d->p.PI H'->(∀b o,H b=some o->¬p.fp b->own b=none->H' b=some o)->Rp (λa=>¬p.fp a) H' v d->Q.rt v H'
def RL(t:DR):TS:=λQ σ H=>∃p H0 own ρ P,EnvD p H0 own σ H ρ/\t P ρ/\WishR p own H P Q
structure WR(X:Cx)(ss:List ZH)(t:DR):Prop where
 h:PSs X ss (RL t)
def Tv(a:DE):DR:=λP ρ=>a ρ λ_ d=>P d
def Wo(t:DS)(u:DR):DR:=λP ρ=>t { nx:=u P,rt:=λ_=>False } ρ
variable{X:Cx}{pos:Pos}{e:Zv}{te:DE}{st:ZH}{rest:List ZH}{t:DS}{u:DR}
def dY(he:Wr.WD X e te):WR X [.Return (some e) pos] (Tv te):=⟨PSs.wk' (jM (su he.h)) (by
 rintro Q σ H ⟨p,c,own,ρ,P,E,t,w⟩;exact⟨p,c,own,ρ,_,E,t,λk d v H' h A r=>w.rt d v H' h A.pen (λb o e n _=>A.kp b o e n) (r.mono (λa o=>iw A o) (λ_ _ _ e=>e) λ_ _ e=>e)⟩)⟩
def jK(h1:Wr.WDS X st t)(h2:WR X rest u):WR X (st::rest) (Wo t u):=⟨PSs.wk' (aM h1.h h2.h) (by
 rintro Q σ H ⟨p,a,own,ρ,P,E,t,w⟩;refine⟨p,a,own,ρ,_,E,t,⟨λo s h r e g n=>⟨p,a,o,r,P,e,n,⟨λd v H' hP hI hk rp=>w.rt d v H' hP hI (λb ob e1 n1 o1=>?_) rp⟩⟩,λ_ _ _ n=>n.elim,λ_ _ _ _ _ _ n=>n.elim,λ_ _ _ _ _ _ n=>n.elim⟩⟩;let⟨c,f⟩:=g.keep b ob e1 n1 o1;exact hk b ob c n1 f)⟩
def Yz(f:List D->(D->Prop)->Prop)(t:DA):DE:=λρ P=>t ρ λks=>(ks.all λk=>k.1.le .shr)=true/\f (ks.map (·.2)) λd=>P (norm .shr d) d
theorem Gg{p:Pn}{a b H c:Hp}{own:Addr->Option Nat}(A:At p a own b H):∀{vs:List V}{ks:List (Kd×D)},RpK p a own b c vs ks->(ks.all λk=>k.1.le .shr)=true->Rps (okK p a own b .shr) c vs (ks.map (·.2))
 |_,_,.nil,_=>.nil
 |_,_,.cons h t,q=>by
  rw[Ż,Ï]at q;exact .cons (fZ A q.1 h) (Gg A t q.2)
variable{k j:Nat}{x:Str}{ps:List Str}{es:List Zv}{ta:DA}{p:Pos}
end
end Dl
namespace Wr
open PySem L2 PyProof.Rows Dl
variable [Gr] {X:Cx}{pos:Pos}{a:Zv}{t:DA}
def lX{ps:Pos}(c:uV X.base)(b:X.A.guards=some [])(hu:X.A.units+64<YV)(hm:X.mg "repr"=none)(ha:WDA X [a] t)(hg:Gl X "repr":=by rfl)(he:zS X a []:=by rfl)(hpl:zP X pos []:=by rfl):WD X (.Call (.Name "repr" ps) [a] [] pos) (tCl MF t):=⟨Dl.lX c b hu hm ha.h hg he hpl⟩
end Wr
namespace Dl
open PySem L2 PyProof.Rows
variable [Gr]
section
variable{X:Cx}{pos:Pos}{st:ZH}{rest:List ZH}{t u:DS}{te tj t1 t2:DE}
def QZ(t u:DS):DS:=λP ρ=>∃M:List Sl->Prop,t { P with nx:=M } ρ/\∀ρ',M ρ'->u P ρ'
def cQ(h1:PDS X st t)(h2:jE X rest u):jE X (st::rest) (QZ t u):=PSs.wk' (aM h1 h2) (by
 rintro Q σ H ⟨p,a,own,ρ,P,E,⟨M,b,hu⟩,w⟩;exact⟨p,a,own,ρ,_,E,b,⟨λo s h r e g n=>⟨p,a,o,r,P,e,hu r n,w.go g⟩,w.rt,w.bk,w.ct⟩⟩)
def Rps.erase{ok:Addr->Prop}{H:Hp}{vs:List V}{ds:List D}(m:Nat)(r:Rps ok H vs ds):Rps ok H (vs.eraseIdx m) (ds.eraseIdx m):=by
 rw[List.eraseIdx_eq_take_drop_succ,List.eraseIdx_eq_take_drop_succ];exact(r.take _).app (r.drop _)
end
end Dl
namespace Wr
open PySem L2 PyProof.Rows Dl
section
variable [Gr] {X:Cx}{tj te t1 t2:DE}{t u:DS}
def cQ{st:ZH}{rest:List ZH}(h1:WDS X st t)(h2:WDSs X rest u):WDSs X (st::rest) (QZ t u):=⟨Dl.cQ h1.h h2.h⟩
end
end Wr
set_option autoImplicit false
namespace L2
open PySem PySem.Spec PyProof.Rows
section
variable{X:Cx}{k:Nat}{f CF:Addr}{fd:YY}{ps:List Str}{sp:Sp}{E:XK}{x hx n:Str}{p np cpos epos hpos pos:Pos}{e:Zv}{es:List Zv}{t:TA}{b₀:ZH}{suite:List ZH}{ts:TS}{j:Nat}
end
end L2
namespace Dl
open PySem L2 PyProof.Rows
section
variable [Gr] {X:Cx}{pos:Pos}{a:Zv}{t:DA}
def boot_str:Zs "str"=some (.type "str"):=⋯
def Mz:GC:=λks P=>match ks with
 |[(_,.int i)]=>i.natAbs.log2<1920/\P .imm (.str (toString i))
 |_=>False
def w5{ps:Pos}(hm:X.mg "str"=none)(ha:PDA X [a] t)(hg:Gl X "str":=by rfl)(he:zS X a []:=by rfl)(hpl:zP X pos []:=by rfl):PD X (.Call (.Name "str" ps) [a] [] pos) (tCl Mz t) :=
 jg yL (by
  intro p c own d H vs ks P Q A r t q;unfold Mz at t;split at t
  ·rename_i k i;let⟨v,rfl,b⟩:=cJ r;rw[b.int'];exact⟨i,rfl,t.1,q _ _ _ _ t.2 Kp.refl A.pen (.str _)⟩
  ·exact t.elim) hg hm boot_str ha ∅ ∅ he hpl
end
end Dl
namespace Wr
open PySem L2 PyProof.Rows Dl
section
variable [Gr] {X:Cx}{pos:Pos}{a:Zv}{t:DA}
def w5{ps:Pos}(hm:X.mg "str"=none)(ha:WDA X [a] t)(hg:Gl X "str":=by rfl)(he:zS X a []:=by rfl)(hpl:zP X pos []:=by rfl):WD X (.Call (.Name "str" ps) [a] [] pos) (tCl Mz t):=⟨Dl.w5 hm ha.h hg he hpl⟩
end
end Wr
namespace Dl
open PySem L2 PyProof.Rows
structure Ext(p q:Pn):Prop where
 pv:q.pv=p.pv
 fp:∀a,p.fp a->q.fp a
 pi:∀H,q.PI H->p.PI H
 go:∀H H',q.PI H->Kp p H H'->p.PI H'->q.PI H'
def CE(C:Pn->Prop)(q:Pn):Prop:=∃p,C p/\Ext p q
def OD{C:Pn->Prop}{f:List D->(D->Prop)->Prop}{vs:List V}{H:Hp}{Q:VK}{E:XK}(h:spP (CE C) f vs H Q E):spP C f vs H Q E:=by
 let⟨q,vs',ds,P,⟨p,c,x⟩,rfl,g,r,t,k⟩:=h;exact⟨p,vs',ds,P,c,by rw[x.pv],x.pi _ g,r.mono (λa n z=>n (x.fp a z)) (λ_ _ _ e=>e) (λ_ _ e=>e),t,λd v H' hP kp pi' rp=>k d v H' hP (λb o e n=>kp b o e λz=>n (x.fp b z)) (x.go H H' g kp pi') rp⟩
def Cal.ext{P:Zc}{w:Zd}{K:ã}{a:Str->Option Value}{base:Zi}{k:Nat}{x:Str}{ps:List Str}{C:Pn->Prop}{f:List D->(D->Prop)->Prop}(h:Cal P w K a base k x ps (spP C f)):Cal P w K a base k x ps (spP (CE C) f):=by
 let⟨g,b,F,r⟩:=h.ex;exact⟨g,b,F.imp λ_ _ _ _=>OD,r⟩
def p7(C:Pn->Prop)(f:List D->(D->Prop)->Prop):Sp:=λvs H Q _=>∃(p:Pn)(ok:Addr->Prop)(vs':List V)(ds:List D)(P:D->Prop),C p/\vs=p.pv::vs'/\p.PI H/\Rps (λa=>ok a/\¬p.fp a) H vs' ds/\f ds P/\∀d v H',P d->Kp p H H'->p.PI H'->Rp (λa=>(ok a/\¬p.fp a)\/H a=none) H' v d->Q v H'
def Ay{C:Pn->Prop}{f:List D->(D->Prop)->Prop}{n:Nat}(hn:∀ds P,f ds P->⇑ds=n:=by intro _ _ h;repeat (first|(let⟨rfl,_⟩:=h;rfl)|let⟨_,h⟩:=h)):∀vs H Q E,p7 C f vs H Q E->⇑vs=n+1:=λvs H Q E h=>by
 let⟨p,ok,vs',ds,P,_,rfl,_,r,t,_⟩:=h;rw[ñ,⇑r,hn ds P t]
section
variable [Gr]
def QV{C:Pn->Prop}{p:Pn}{H:Hp}{N:List Str}{vs':List V}{ds:List D}(g:Gr.G p H)(c:C p)(b:p.PI H)(r:Rps (λa=>¬p.fp a) H vs' ds):EnvD p H (λ_=>none) (L2.start N (p.pv::vs')) H (.pen C::(ds.map aV++Ú (⇑N - (⇑ds+1)) .any)):=by
 have E0:=o7 (p:=p) (N:=N.drop 1) g b r;refine⟨λ_ _ e _=>e,b,(λ_ _ e=>nomatch e),λj s e=>?_,by unfold L2.start;simp[⇑r],g⟩;cases j with
 |zero =>
  have e:=Ö e;subst e;exact⟨rfl,c⟩
 |succ j =>
  rw[List.getElem?_cons_succ]at e;have hl:⇑N - (⇑ds+1)=⇑(N.drop 1) - ⇑vs':=by rw[⇑r,œ];lia
  rw[hl]at e;have q:=E0.slot j s e;have es:(L2.start N (p.pv::vs'))[j+1]?=(L2.start (N.drop 1) vs')[j]?:=by
   unfold L2.start;have:⇑N - ⇑(p.pv::vs')=⇑(N.drop 1) - ⇑vs':=by rw[œ,ñ];lia
   rw[this];simp
  cases s <;> simp only[iJ,es]at q ⊢ <;> exact q
def Hg{C:Pn->Prop}{f:List D->(D->Prop)->Prop}{T:DR}{N:List Str}{vs:List V}{H:Hp}{Q:VK}{E:XK}(h:p7 C f vs H Q E)(l:∀ds P,f ds P->∃ρ,ds.map aV++Ú (⇑N - (⇑ds+1)) .any=ρ/\T P (.pen (CE C)::ρ))(g:∀p,Gr.G p H:=by intro _;trivial):RL T { nx:=λ_ H'=>Q .non H',rt:=Q } (L2.start N vs) H:=by
 let⟨p,ok,vs',ds,P,c,rfl,F,r,t,k⟩:=h;let⟨ρ,e,b⟩:=l ds P t
 let q:Pn:=⟨λa=>p.fp a\/(¬ok a/\¬p.fp a/\∃o,H a=some o/\(∀xs,o≠.tup xs)/\¬Fxd o),λH'=>p.PI H'/\∀b o,¬ok b->¬p.fp b->H b=some o->((∀xs,o≠.tup xs)/\¬Fxd o)->H' b=some o,p.pv,
  λH1 H2 h1 h2=>⟨p.mono H1 H2 h1.1 λb o z e=>h2 b o (z.imp .inl id) e,λb o n m j i=>h2 b o (.inl (.inr ⟨n,m,o,j,i⟩)) (h1.2 b o n m j i)⟩,
  λH1 b h1 z=>z.elim (λz=>p.is H1 b h1.1 z) λ⟨n,m,o,j,i⟩=>⟨o,h1.2 b o n m j i,i⟩⟩
 have x:Ext p q:=⟨rfl,λ_ z=>.inl z,λ_ z=>z.1,λH1 H2 h1 s h2=>⟨h2,λb o n m j i=>s b o (h1.2 b o n m j i) m⟩⟩
 have E:=QV (C:=CE C) (p:=q) (N:=N) (g q) ⟨p,c,x⟩ ⟨F,λ_ _ _ _ e _=>e⟩ (r.mono (ok':=λa=>¬q.fp a) (λa o z=>z.elim o.2 λz=>z.1 o.1) (λ_ _ _ e=>e) λ_ _ e=>e);rw[e]at E;refine⟨q,H,λ_=>none,_,_,E,b,⟨λd v H' hP hI hk rp=>?_⟩⟩;have s:Kp p H H':=λb o e n=>by
  by_cases y:q.fp b
  ·rcases y with z|⟨u,B,o',j,i⟩
   ·exact(n z).elim
   ·rw[e]at j;cases j;exact hI.2 b o u B e i
  ·exact hk b o e y rfl
 refine k d v H' hP s hI.1 (rp.kh λa o u n2 j=>?_);have w:¬p.fp a:=λz=>u (.inl z);cases A:H a with
 |none=>exact .inr rfl
 |some o' =>
  have i:=s a o' A w;rw[j]at i;cases i;exact .inl ⟨Classical.byContradiction λz=>u (.inr ⟨z,w,o,A,n2⟩),w⟩
def rIf(a:DT)(t u:DR):DR:=λP ρ=>a ρ λb=>if b=true then t P ρ else u P ρ
variable{X:Cx}{pos:Pos}{c:Zv}{a rest:List ZH}{tc:DT}{t u:DR}
theorem j8(hc:Wr.WDT X c tc)(ha:WR X a t)(hb:WR X rest u):WR X (.If c a [] pos::rest) (rIf tc t u):=⟨PSs.wk' (aM (zY hc.h ha.h lR) hb.h) (by
 rintro Q σ H ⟨p,f,own,ρ,P,E,t,w⟩;refine⟨p,f,own,ρ,_,E,t,λb H' h A=>?_⟩;have g:∀Q',Q'.rt=Q.rt->WishR p own H' P Q':=λQ' e=>⟨λd v H2 hP hI hk rp=>by
  rw[e];exact w.rt d v H2 hP hI (λb o e n1 n2=>hk b o (A.frs.keep b o e n1 n2).1 n1 n2) rp⟩
 cases b with
 |true=>exact au ⟨p,f,own,ρ,P,E.go A.kp A.pen,by simpa using h,g _ rfl⟩
 |false=>exact aA ⟨p,f,own,ρ,P,E.go A.kp A.pen,by simpa using h,g _ rfl⟩)⟩
def Wd(C:Pn->Prop)(f:List D->(D->Prop)->Prop)(i:Nat)(t:DA):DE:=λρ P=>ρ[i]?=some (.pen C)/\Yz f t ρ P
variable{k j i:Nat}{x y:Str}{ps:List Str}{es:List Zv}{ta:DA}{pp py:Pos}
def Vu{C:Pn->Prop}{f:List D->(D->Prop)->Prop}(CC:Cal X.prog X.w X.K X.mg X.base k x ps (p7 C f))(hr:Room j X.A)(hi:Wr.WV X (.Name y py) i)(ha:Wr.WDA X es ta)(hk:k<=j:=by decide)(hg:Gl X x:=by rfl)(hdb:zB x:=by decide)(he:Zw (.Name y py::es) X.env=(false,Zx (.Name y py) X.env)::Zw es X.env:=by rfl)(hpl:zP X pos es:=by rfl) :
  Wr.WD X (.Call (.Name x pp) (.Name y py::es) [] pos) (Wd C f i ta):=⟨PE.wk (pcS CC hr (bU hi.h ha.h) hk hg hdb he hpl) (by
 rintro σ H Q ⟨p,b,own,ρ,P,E,⟨hp,t⟩,q⟩;let⟨hs,c⟩:=E.slot i _ hp;refine⟨p.pv,hs,p,b,own,ρ,_,E,t,λks vs H1 h A r=>?_⟩;show p7 C f ((p.pv::vs)++[]) H1 Q E0;rw[ě];have g:=Gg A r h.1;refine⟨p,okK p b own _ .shr,vs,ks.map (·.2),_,c,rfl,A.pen,g.mono (λa o=>⟨o,iw A o⟩) (λ_ _ _ e=>e) (λ_ _ e=>e),h.2,λd v H' h2 k2 i2 r3=>?_⟩;refine q _ d v H' h2 (A.go k2 i2) (aX ?_);refine r3.mono (λa o=>?_) (λ_ _ _ e=>e) λ_ _ e=>e;rcases o with o|o
 ·exact o.1
 ·exact cW A (j:=.new) (k:=.shr) rfl (A.free o))⟩
end
end Dl
namespace L2
open PySem PySem.Spec PyProof.Rows Builtin
section
variable{X:Cx}
end
end L2
namespace Dl
open PySem L2 PyProof.Rows
section
variable [Gr]
variable{X:Cx}{pos:Pos}{a b e:Zv}{ta tb te:DE}{p1 p2 p3:Pos}
end
end Dl
namespace Wr
open PySem L2 PyProof.Rows Dl
section
variable [Gr] {X:Cx}{pos:Pos}{a b e:Zv}{ta tb te:DE}{p1 p2 p3:Pos}
end
end Wr
namespace L2
open PySem PySem.Spec PyProof.Rows Builtin
section
variable{X:Cx}
end
end L2
namespace Dl
open PySem L2 PyProof.Rows
section
variable [Gr] {X:Cx}{pos p2:Pos}{a b e:Zv}{t:DA}{ta tb te:DE}
end
end Dl
namespace Wr
open PySem L2 PyProof.Rows Dl
section
variable [Gr] {X:Cx}{pos p2:Pos}{a b e:Zv}{t:DA}{ta tb te:DE}
end
end Wr
namespace Dl
open PySem L2 PyProof.Rows
variable [Gr]
section
variable{X:Cx}{st st2:ZH}{rest:List ZH}{te1 te2:DE}{tt:DT}{tr:TS}{t:DS}
end
section
variable{X:Cx}{own:List Str}{scope:Zu}{tg iter elt:Zv}{ifs:List Zv}{pos:Pos}{g:DG}{tt:DT}{te:DE}
end
end Dl
namespace Wr
open PySem L2 PyProof.Rows Dl
variable [Gr]
section
variable{X:Cx}{te1 te2:DE}{tt:DT}{tr:TS}{t:DS}
end
end Wr
namespace PySem
open PySem.W PyProof.Rows PySem.Spec
def CV:XX (.type "list_reverseiterator") "__len__"=pure none:=by rw[TK,TL];kernel_rfl
def Ka:XX (.type "list_reverseiterator") "__length_hint__"=pure (some (.builtin "list_reverseiterator.__length_hint__")):=by rw[TK,TL];kernel_rfl
section
variable{prog:Zc}{w:Zd}{A:Zt}{E:eQ}{s:Shared}{it l:Addr}{items:Array Value}
def HS{Q:Bool->Shared->Prop}(c:s.TypeIs (.ref it) "list_reverseiterator")(h:Q false s):wpAny (model prog w) A (Builtin.List.listLengthHint (.ref it)) Q E s:=by
 unfold Builtin.List.listLengthHint;refine Æ (Tl c CV ?_);show wpAny _ _ (specialOf (ĥ it) (ũ "__length_hint__") >>=_) _ _ _;refine Æ (Tl c Ka ?_);generalize a:("list_reverseiterator.__length_hint__":String)=d
 wp_delta
 rw[show splitId d=some ("list_reverseiterator","__length_hint__")from by subst a;decide +kernel];subst a;refine Æ (U1 (T:="list_reverseiterator") (b:=true) c (by rw[isSubtype_type];kernel_rfl) ?_);refine Sj (λz=>eI z ∅) (λ_=>?_);refine Sj (λ_=>?_) (λz=>eI ⋯ z);refine Sj (λz=>eI z ⋯) (λ_=>?_);exact Ù h
def J7{Q:eQ}(hh:A.handled=none)(r:l≠it)(d:s.heap.IsRevIter it l ((items.size:Int) - 1))(hl:s.heap.IsList l items)(hn:items.size<=sizeLine)(y:∀h' tk acc c,(∀b o,b≠it->s.heap.get? b=some o->h'.get? b=some o)->h'.get? ↥s=some { cls:=.type "list",dict:=none,data:=.seq acc c,slots:=#[]}->To (λi v=>items[items.size - 1 - i]?=some v) acc items.size->Q (.ref ↥s) { s with heap:=h',toks:=tk }) :
  wpAny (model prog w) A (YI (.type "list") [.ref it]) Q E s:=by
 let⟨B,j,_⟩:=id d;let⟨H,u,_⟩:=id hl;have lt:∀{b:Addr}{o:Obj},s.heap.get? b=some o->↥s≠b:=λe=>ņ (Ó e);refine TM (Q₁:=λobj s₁=>obj=.ref ↥s/\s₁={ s with heap:=s.heap.push { cls:=.type "list",data:=.seq #[]}}) F.called_list (F.typeCall_list_1 _) F.entry_list_init (TN _ ⟨rfl,rfl⟩) λobj s₁ hx=>?_;let⟨rfl,rfl⟩:=hx;have k:(s.heap.push { cls:=.type "list",data:=.seq #[]}).get? ↥s=some { cls:=.type "list",data:=.seq #[]}:=è _ rfl;refine⟨⟨_,k,rfl⟩,F.args_list_init_2 _ _,?_⟩;show wpAny _ _ (Builtin.List.listItems (.ref ↥s) >>=λf=>Builtin.List.listUpdate (.ref ↥s) (λ_=>#[]) >>=λ_=>letGo f.toList.reverse >>=λ_=>į (.ref ↥s) (.ref it) .none) _ _ _;have f:∀b o,s.heap.get? b=some o->(s.heap.push { cls:=.type "list",data:=.seq #[]}).get? b=some o:=λb o e=>Ò _ e;refine Æ ?_;unfold Builtin.List.listItems;refine Æ (UT k rfl (Ù ?_));refine Æ (m:=TD ↥s (λ_=>#[])) (TH k rfl ?_);have h:=ŏ (û (λ_=>(#[]:Array Value))) k rfl;refine Æ (wpAny_letGo ?_);generalize hg:(s.heap.push { cls:=.type "list",data:=.seq #[]}).update ↥s (û λ_=>(#[]:Array Value))=g at h;have n:∀b o,s.heap.get? b=some o->g.get? b=some o:=λb o e=>by rw[←hg];exact(Ľ _ _ (lt e)).trans (f b o e)
 have a:g.IsRevIter it l ((items.size:Int) - 1):=d.at λo e=>n _ o e;have q:g.IsList l items:=hl.at λo e=>n _ o e;have t:({ s with heap:=g }:Shared).TypeIs (.ref it) "list_reverseiterator":=⟨B,n _ _ j,(id d:_).elim λo x=>by rw[j]at x;cases x.1;exact x.2.1⟩
 unfold į;refine Æ (XU t ?_);have C:Builtin.List.listSameRef (.ref ↥s) (.ref it)=false:=by simp[Builtin.List.listSameRef,lt j]
 have D:(ď "list_reverseiterator"==ď "list")=false:=∅
 have G:(ď "list_reverseiterator"==ď "tuple")=false:=∅
 simp only[C,D,G,Bool.or_false,ļ,if_false];refine Æ (wpAny_pyIter_revIter a ?_);refine Æ (ġ (HS t ?_));refine Sj (λz=>eI z ∅) (λ_=>?_);have W:=Walks.listRev (prog:=prog) (w:=w) (A:=A.in1.in1) hh it l r items;have p:↥s∉[it,l]:=by simp only[Þ,ò,or_false,not_or];exact⟨lt j,lt u⟩
 refine Ù ⟨Ts F.plain_extend_loop _,codeAny_extend_loopS (A:=A.in1) W.toS hn ↥s p .none items.size 0 _ #[] _ rfl (Ă _) ⟨Ă _,by simpa using a,q⟩ h (ItemsOf.nil _) λs' acc c hm hS' hacc=>?_⟩;rw[Moved.eq_with hm];refine⟨rfl,y s'.heap s'.toks acc c (λb o hb e=>hm.heap b o (λz=>?_) (n b o e)) hS' hacc⟩;rcases Þ.mp z with z|z
 ·exact lt e z.symm
 ·exact hb (Ê.mp z)
end
end PySem
namespace L2
open PySem PySem.Spec PyProof.Rows
section
variable{X:Cx}
def tLR(K:ã)(a:TA):TE:=λσ H Q=>a σ H λvs H1=>∃p xs,vs=[.ref p]/\SqL K H1 p xs/\∀l,H1 l=none->Q (.ref l) (upd H1 l (.lst xs.reverse))
def Iw{its:List Value}{acc:Array Value}(h:To (λi v=>its.toArray[its.toArray.size - 1 - i]?=some v) acc its.toArray.size):acc.toList=its.reverse:=by
 have hs:acc.size=⇑its:=by have:=h.1;simpa using this
 refine List.ext_getElem? λi=>?_;by_cases hi:i<acc.size
 ·have e:acc.toList[i]?=some acc[i]:=by rw[Array.getElem?_toList];exact Array.getElem?_eq_getElem hi
  have q:=h.2 i acc[i] (Array.getElem?_eq_getElem hi);rw[e,List.getElem?_reverse ()];simpa using q.symm
 ·rw[List.getElem?_eq_none (by rw[ğ];lia),List.getElem?_eq_none (by rw[Ŀ];lia)]
def Df{a:Zv}{w:TA}{C q i d:Pos}(hc:X.calm=true)(hgl:Gl X "list")(m:X.mg "list"=none)(j:Gl X "reversed")(n:X.mg "reversed"=none)(ha:PA X [a] w)(t:Zw [.Call (.Name "reversed" q) [a] [] d] X.env=[(false,Zx (.Call (.Name "reversed" q) [a] [] d) X.env)]:=by rfl)(x:zS X a []:=by rfl)(y:zP X d []:=by rfl) :
  PE X (.Call (.Name "list" C) [.Call (.Name "reversed" q) [a] [] d] [] i) (tLR X.K w):=by
 intro g s σ H Q I h;refine ų (d7 I hgl m TW ?_);refine Č ?_ t rfl;rw[t];refine Calls.spliced_cons ?_;refine ų (d7 I j n PyProof.Rows.boot_reversed ?_);refine Č (thn (ha d g s σ H _ I h) λus s1 ⟨vs,H1,I1,r1,q1⟩=>?_) x y;let⟨p,xs,rfl,hp,k⟩:=q1;let⟨u,rfl,D⟩:=vals1 r1;cases D;let⟨its,v,r,E⟩:=I1.list hp;refine call_reversed_list r.isList ?_;refine Calls.spliced_nil ?_;have A:=⇑v;have B:p<↥s1:=by let⟨o,e,_⟩:=r.isList;exact Ó e
 refine J7 (items:=its.toArray) (l:=p) (it:=↥s1) (s:={ s1 with heap:=s1.heap.push (Sm p ((its.toArray.size:Int) - 1))}) (I1.ok.hd hc) (ë B) ⟨_,è _ rfl,rfl,rfl⟩ (r.isList.at λo e=>Ò _ e) (by rw[Ø];lia) λh' tk acc c hk hS hacc=>?_;have kept:∀b o,s1.heap.get? b=some o->h'.get? b=some o:=λb o e=>hk b o (ë (Ó e)) (Ò _ e);have z:=Iw hacc;have F:(s1.heap.push (Sm p ((its.toArray.size:Int) - 1))).objs.size=↥s1+1:=Ń ..;have f:↥s1<=(s1.heap.push (Sm p ((its.toArray.size:Int) - 1))).objs.size:=()
 refine⟨.ref (s1.heap.push (Sm p ((its.toArray.size:Int) - 1))).objs.size,_,I1.laid (t':=tk) (o:=.lst xs.reverse) kept f ⟨by rw[Ŀ];lia,its.reverse,c,v.reverse,?_⟩,rfl,k _ (I1.hok.fresh f)⟩;rw[←z,Array.toArray_toList];exact hS
end
end L2
namespace Dl
open PySem L2 PyProof.Rows
section
variable [Gr] {X:Cx}{a:Zv}{t:DA}
def Vj:GC:=λks P=>match ks with
 |[(k,.list ds)]=>newP k ds.reverse λk'=>P k' (.list ds.reverse)
 |_=>False
def gY{B i c b:Pos}(hc:X.calm=true)(f:X.mg "list"=none)(g:X.mg "reversed"=none)(ha:PDA X [a] t)(hgl:Gl X "list":=by rfl)(d:Gl X "reversed":=by rfl)(s:Zw [.Call (.Name "reversed" i) [a] [] b] X.env=[(false,Zx (.Call (.Name "reversed" i) [a] [] b) X.env)]:=by rfl)(u:zS X a []:=by rfl)(w:zP X b []:=by rfl) :
  PD X (.Call (.Name "list" B) [.Call (.Name "reversed" i) [a] [] b] [] c) (tCl Vj t):=PE.wk (Df hc hgl f d g ha s u w) (by
 rintro σ H Q ⟨p,n,own,ρ,P,E,t,q⟩;refine⟨p,n,own,ρ,_,E,t,λks vs H1 h A r=>?_⟩;unfold Vj at h;split at h
 ·rename_i k ds;let⟨v,rfl,C⟩:=cJ r;let⟨x,xs,rfl,o,h1,D⟩:=C.aR;refine⟨x,xs,rfl,SqL.of h1,λl hl=>?_⟩;let⟨m,y,z⟩:=A.new hl (.lst xs.reverse);let⟨F,e,j⟩:=fD A (cg A m D.rev) z ao h;exact q _ _ _ _ e (A.go m y) j
 ·exact h.elim)
end
end Dl
namespace Wr
open PySem L2 PyProof.Rows Dl
section
variable [Gr] {X:Cx}{a:Zv}{t:DA}
def gY{l g c b:Pos}(hc:X.calm=true)(e:X.mg "list"=none)(f:X.mg "reversed"=none)(ha:WDA X [a] t)(hgl:Gl X "list":=by rfl)(d:Gl X "reversed":=by rfl)(i:Zw [.Call (.Name "reversed" g) [a] [] b] X.env=[(false,Zx (.Call (.Name "reversed" g) [a] [] b) X.env)]:=by rfl)(j:zS X a []:=by rfl)(k:zP X b []:=by rfl) :
  WD X (.Call (.Name "list" l) [.Call (.Name "reversed" g) [a] [] b] [] c) (tCl Vj t):=⟨Dl.gY hc e f ha.h hgl d i j k⟩
end
end Wr
namespace L2
open PySem PySem.Spec PyProof.Rows
def VL(K:ã)(a b:Addr):It :=
 ⟨λi H=>∃xs ys x y,SqL K H a xs/\SqL K H b ys/\xs[i]?=some x/\ys[i]?=some y,λi H v H'=>∃t x y,v=.ref t/\H t=none/\H'=upd H t (.tup [x,y])/\(∀xs,SqL K H a xs->xs[i]?=some x)/\∀ys,SqL K H b ys->ys[i]?=some y,λi H=>∃xs ys,SqL K H a xs/\SqL K H b ys/\(⇑xs<=i\/⇑ys<=i)⟩
def JN{P:Zc}{w:Zd}{K:ã}{elts:List Zv}{kk:Nat}{pos:Pos}{a b z TI TO i1 i2:Addr}(D:TB z TI TO i1 i2 a b) :
  Turn P w K (.Tuple elts kk pos) (VL K a b) [z,TI,TO,i1,i2] z (λi h=>IsZip h z TI TO .none/\IsPair h TI (.ref i1) (.ref i2)/\(∃u v,IsPair h TO u v)/\h.IsListIter i1 a i/\h.IsListIter i2 b i) where
 mem:=by simp
 obj:=λi h st c hc=>by
  let⟨hz,hTI,⟨u,v,hTO⟩,⟨o1,j1,c1,d1⟩,⟨o2,j2,c2,d2⟩⟩:=st;simp only[Þ,ò,or_false]at hc;rcases hc with rfl|rfl|rfl|rfl|rfl
  ·exact⟨_,hz,λv z=>nomatch z⟩
  ·exact⟨_,hTI,λv z=>nomatch z⟩
  ·exact⟨_,hTO,λv z=>nomatch z⟩
  ·exact⟨o1,j1,λv z=>by rw[d1]at z;cases z⟩
  ·exact⟨o2,j2,λv z=>by rw[d2]at z;cases z⟩
 keep:=λi h h' st k=>by
  let⟨hz,hTI,⟨u,v,hTO⟩,⟨o1,j1,r1⟩,⟨o2,j2,r2⟩⟩:=st;exact⟨k z (by simp) _ hz,k TI (by simp) _ hTI,⟨u,v,k TO (by simp) _ hTO⟩,⟨o1,k i1 (by simp) _ j1,r1⟩,⟨o2,k i2 (by simp) _ j2,r2⟩⟩
 item:=by
  intro X hP hw hK hc i pins s σ H E I hf st hg;subst hP hw hK;let⟨xs,ys,x,y,hq,hq2,hx,hy⟩:=hg;let⟨its,rv,pl,hz1⟩:=I.list hq;let⟨its2,rv2,pl2,hz2⟩:=I.list hq2;let⟨u,hu,ru⟩:=rv.get hx;let⟨u2,hu2,ru2⟩:=rv2.get hy;let⟨hz,hTI,hTO,h1,h2⟩:=st;have W:=WalksT.zip2 (prog:=X.prog) (w:=X.w) (A:=X.A) (I.ok.hd hc) z TI TO i1 i2 a b D its.toArray its2.toArray;have l1:=(Ç.mp hu).1;have l2:=(Ç.mp hu2).1;refine W.item i s _ _ (by simp;lia) ⟨hz,hTI,hTO,h1,h2,pl.isList,pl2.isList⟩ λT vals h' tk hP hTs hTup hMid hk=>⟨_,rfl,?_⟩
  let⟨x',y',e1,e2,rfl⟩:=hP;have ex:x'=u:=by
   have:its[i]?=some x':=by simpa using e1
   rw[hu]at this;exact(Ö this).symm
  have ey:y'=u2:=by
   have:its2[i]?=some y':=by simpa using e2
   rw[hu2]at this;exact(Ö this).symm
  subst ex ey;have ap:=W.apart i T h' hMid;refine W.go elts kk pos i T _ _ _ hMid λh3 hst3 hk3=>?_;have hTn:H T=none:=I.hok.fresh hTs;have keep2:∀c o,c∉[z,TO,i1,i2]->s.heap.get? c=some o->h3.get? c=some o:=λc o hc q=>hk3 c o hc (hk c o hc q);have fz:∀c∈[z,TO,i1,i2],nQ X pins H c:=λc hc=>hf c (by
   simp only[Þ,ò,or_false]at hc ⊢;rcases hc with h|h|h|h <;> simp[h])
  have nT:∀{c:Addr}{y:HO},H c=some y->c∉[z,TO,i1,i2]:=λ{c y} q hc=>by
   have:=(fz c hc).1;rw[this]at q;cases q
  let⟨oT,hT1,hT2,nn,hT3⟩:=hTup;have hTup3:IsTup h3 T #[x',y']:=⟨oT,hk3 T oT ap hT1,hT2,nn,hT3⟩
  have J:Inv X pins σ (upd H T (.tup [x,y])) { s with heap:=h3,toks:=tk }:=by
   refine I.step (g':=s.gens) (d':=s.drawn) (t':=tk) (ch:=[z,TO,i1,i2]) (λc hc=>?_) (λc o _ _ hcb q _=>keep2 c o hcb q)
    (λc o _ _ hcb q _=>⟨o.slots,keep2 c o hcb q⟩) (λc o _ q n=>by rw[aj (ë (ð (Ó q) hTs))];exact n)
    (λc o hcb q=>⟨o,keep2 c o hcb q⟩) (λc ys q=>by rw[aj (ak q hTn)];exact q) (λc o y q=>by rw[aj (ak q hTn)];exact q)
    (λc ps q=>⟨#[],by rw[aj (ak q hTn),q];simp⟩) (λm hm=>?_) ?_ I.bare
   ·let⟨e0,e1,e2,e3,e4,e5⟩:=fz c hc;exact⟨e3,e1,e4,e5⟩
   ·let⟨o,es,ep,ho',r⟩:=hm;refine⟨o,es,ep,keep2 _ o (λhc=>?_) ho',r⟩;exact(fz _ hc).2.1 rfl
   ·intro c u' q;by_cases hb:c=T
    ·subst hb;rw[ao]at q;cases q;exact⟨(by show 2<=sizeLine;decide),[x',y'],.cons ru (.cons ru2 .nil),hTup3⟩
    ·rw[aj hb]at q;refine(I.hok c u' q).stay (λd v hcv y=>keep2 d v ?_ y) (λd y=>by rw[aj (ak y hTn)];exact y) λd ys y=>by rw[aj (ak y hTn)];exact y
     rcases hcv with rfl|z
     ·exact nT q
     ·exact nT z
  let⟨a1,a2,a3,a4,a5,_,_⟩:=hst3;refine⟨.ref T,_,J,rfl,⟨T,x,y,rfl,hTn,rfl,λxs' hy'=>by rw[I.mW hy' hq];exact hx,λys' hy'=>by rw[I.mW hy' hq2];exact hy⟩,⟨a1,a2,a3,a4,a5⟩,λc hc=>?_⟩;rw[aj]
  ·exact(hf c hc).1
  ·rintro rfl;simp only[Þ,ò,or_false]at hc;have lt:∀{d:Addr}{o:Obj},s.heap.get? d=some o->c≠d:=λe=>ņ (ð (Ó e) hTs);let⟨w1,w2,hTO'⟩:=hTO;let⟨o1,j1,_⟩:=h1;let⟨o2,j2,_⟩:=h2;rcases hc with h|h|h|h|h
   ·exact lt hz h
   ·exact lt hTI h
   ·exact lt hTO' h
   ·exact lt j1 h
   ·exact lt j2 h
 done:=by
  intro X hP hw hK hc i pins s σ H E I hf st hg;subst hP hw hK;let⟨xs,ys,hq,hq2,he⟩:=hg;let⟨its,rv,pl,hz1⟩:=I.list hq;let⟨its2,rv2,pl2,hz2⟩:=I.list hq2;let⟨hz,hTI,⟨u,v,hTO⟩,h1,h2⟩:=st;have r1:=⇑rv;have r2:=⇑rv2;refine TC (I.ok.hd hc) D hz hTI hTO h1 h2 pl.isList pl2.isList (xs:=its.toArray) (ys:=its2.toArray) ?_ λh' hk=>⟨rfl,?_⟩
  ·rcases he with he|he
   ·left;simp;lia
   ·right;simp;lia
  have fz:∀c∈[z,TO,i1,i2],nQ X pins H c:=λc hc=>hf c (by
   simp only[Þ,ò,or_false]at hc ⊢;rcases hc with h|h|h|h <;> simp[h])
  have keep2:∀c o,c∉[z,TO,i1,i2]->s.heap.get? c=some o->h'.get? c=some o:=λc o hc q=>hk c o (λe=>hc (by simp[e])) (λe=>hc (by simp[e])) (λe=>hc (by simp[e])) (λe=>hc (by simp[e])) q;have nT:∀{c:Addr}{y:HO},H c=some y->c∉[z,TO,i1,i2]:=λ{c y} q hc=>by
   have:=(fz c hc).1;rw[this]at q;cases q
  refine I.step (g':=s.gens) (d':=s.drawn) (t':=s.toks) (ch:=[z,TO,i1,i2]) (λc hc=>?_) (λc o _ _ hcb q _=>keep2 c o hcb q)
    (λc o _ _ hcb q _=>⟨o.slots,keep2 c o hcb q⟩) (λc o _ q n=>n)
    (λc o hcb q=>⟨o,keep2 c o hcb q⟩) (λc ys q=>q) (λc o y q=>q)
    (λc ps q=>⟨#[],by rw[q];simp⟩) (λm hm=>?_) ?_ I.bare
  ·let⟨e0,e1,e2,e3,e4,e5⟩:=fz c hc;exact⟨e3,e1,e4,e5⟩
  ·let⟨o,es,ep,ho',r⟩:=hm;refine⟨o,es,ep,keep2 _ o (λhc=>?_) ho',r⟩;exact(fz _ hc).2.1 rfl
  ·intro c u' q;refine(I.hok c u' q).stay (λd v hcv y=>keep2 d v ?_ y) (λd y=>y) λd ys y=>y;rcases hcv with rfl|z
   ·exact nT q
   ·exact nT z
 self:=λA i s Q E st h=>by
  let⟨hz,_⟩:=st;exact TU hz h
def Xn(K:ã)(c:TA):TI:=λσ H R=>c σ H λvs H1=>∃a b xs ys,vs=[.ref a,.ref b]/\SqL K H1 a xs/\SqL K H1 b ys/\R (VL K a b) H1
def T7{X:Cx}{elts:List Zv}{kk:Nat}{f:Pos}{a b:Zv}{n:TA}{p pos:Pos}(hg:Gl X "zip")(hm:X.mg "zip"=none)(ha:PA X [a,b] n)(r:Zw [a,b] X.env=(false,Zx a X.env)::Zw [b] X.env:=by rfl)(t:(Zy pos (Zw [b] X.env)).any (·.1)=false:=by rfl):PI X (.Tuple elts kk f) (.Call (.Name "zip" p) [a,b] [] pos) (Xn X.K n):=by
 intro d s σ H R I h;refine YE (d7 I hg hm PyProof.Rows.boot_zip (Č (thn (ha pos d s σ H _ I h) λus s1 ⟨vs,H1,I1,r1,q1⟩=>?_) r t));let⟨a,b,xs,ys,rfl,hp,v,k⟩:=q1;let⟨u,E,rfl,A,B⟩:=vals2 r1;cases A;cases B;let⟨its,C,m,_⟩:=I1.list hp;let⟨l,z,i,_⟩:=I1.list v;refine call_zip_2 m.isList i.isList λh' hz hTI hTO hi1 hi2 hsz hk=>?_;have x:a<↥s1:=by let⟨o,e,_⟩:=m.isList;exact Ó e
 have y:b<↥s1:=by let⟨o,e,_⟩:=i.isList;exact Ó e
 have D:=zipApart_new x y;have q:Inv X d σ H1 { s1 with heap:=h' }:=I1.kept (t':=s1.toks) hk;have T:=JN (P:=X.prog) (w:=X.w) (K:=X.K) (elts:=elts) (kk:=kk) (pos:=f) D;refine T.self _ 0 _ _ _ ⟨hz,hTI,⟨_,_,hTO⟩,hi1,hi2⟩ ⟨_,_,_,_,H1,rfl,q,T,⟨hz,hTI,⟨_,_,hTO⟩,hi1,hi2⟩,λc hc=>?_,k⟩;have g:∀j,nQ X d H1 (↥s1+j):=λj=>I1.Bh (Nat.le_add_right _ _) (I1.hok.fresh (Nat.le_add_right _ _));simp only[Þ,ò,or_false]at hc;rcases hc with h|h|h|h|h
 ·rw[h];exact g 4
 ·rw[h];exact g 2
 ·rw[h];exact g 3
 ·rw[h];exact g 0
 ·rw[h];exact g 1
end L2
namespace Dl
open PySem L2 PyProof.Rows
variable [Gr]
section
variable{X:Cx}{tg:Zv}{pos:Pos}{ta:DA}
def JG{K:ã}{ok:Addr->Prop}{a b:Addr}{ds es:List D}:Wlk (λH=>Rp ok H (.ref a) (.list ds)/\Rp ok H (.ref b) (.list es)) (VL K a b) ((ds.zip es).map prD) ok where
 go:=λi H r hi=>by
  let⟨b,vs,e,_,h,rs⟩:=r.1.aR;cases e;let⟨b2,vs2,e,_,h2,rs2⟩:=r.2.aR;cases e;rw[Ä,List.length_zip]at hi;have l1:i<⇑vs:=by rw[⇑rs];lia
  have l2:i<⇑vs2:=by rw[⇑rs2];lia
  exact⟨vs,vs2,vs[i],vs2[i],SqL.of h,SqL.of h2,by simp[l1],by simp[l2]⟩
 stop:=λH r=>by
  let⟨b,vs,e,_,h,rs⟩:=r.1.aR;cases e;let⟨b2,vs2,e,_,h2,rs2⟩:=r.2.aR;cases e;refine⟨vs,vs2,SqL.of h,SqL.of h2,?_⟩;rw[Ä,List.length_zip,⇑rs,⇑rs2];lia
 yld:=λi H x H' r y=>by
  let⟨t,v,v2,rfl,ht,rfl,y1,y2⟩:=y;have sm:Same H (upd H t (.tup [v,v2])):=λb u q=>by rw[aj (ak q ht)];exact q
  refine⟨sm,λd hd=>?_⟩;let⟨b,vs,e,_,h,rs⟩:=r.1.aR;cases e;let⟨b2,vs2,e,_,h2,rs2⟩:=r.2.aR;cases e;rw[Ý]at hd;cases he:(ds.zip es)[i]? with
  |none=>rw[he]at hd;cases hd
  |some pq =>
   rw[he]at hd;have e:=Ö hd;subst e;let⟨g1,g2⟩:=List.getElem?_zip_eq_some.mp he;let⟨w1,hw1,rw1⟩:=rs.getD g1;let⟨w2,hw2,rw2⟩:=rs2.getD g2;have z1:=y1 vs (SqL.of h);rw[hw1]at z1;cases z1;have z2:=y2 vs2 (SqL.of h2);rw[hw2]at z2;cases z2;exact .tup ao (.cons (rw1.mono (λ_ o=>o) (λa o _ e=>sm a o e) λa xs e=>sm a _ e) (.cons (rw2.mono (λ_ o=>o) (λa o _ e=>sm a o e) λa xs e=>sm a _ e) .nil))
 stab:=λH H' r f t=>⟨r.1.bW (λa o n e=>⟨n,f a o n e⟩) t,r.2.bW (λa o n e=>⟨n,f a o n e⟩) t⟩
def iZp(ta:DA):DI:=λρ P=>ta ρ λks=>match ks with
 |[(k1,.list ds),(k2,.list es)]=>P (k1.join k2) ((ds.zip es).map prD)
 |_=>False
def Et{elts:List Zv}{kk:Nat}{c:Pos}{a b:Zv}{ps:Pos}(hm:X.mg "zip"=none)(ha:PDA X [a,b] ta)(hg:Gl X "zip":=by rfl)(l:Zw [a,b] X.env=(false,Zx a X.env)::Zw [b] X.env:=by rfl)(m:(Zy pos (Zw [b] X.env)).any (·.1)=false:=by rfl):PDI X (.Tuple elts kk c) (.Call (.Name "zip" ps) [a,b] [] pos) (iZp ta):=PI.wk (T7 hg hm ha l m) (by
 rintro σ H R ⟨p,k,own,ρ,P,E,t,q⟩;refine⟨p,k,own,ρ,_,E,t,λks vs H1 h A r=>?_⟩;split at h
 ·rename_i g ds i es;let⟨s,u,rfl,d,f⟩:=Kg r;have d:=fZ A (dM g i).1 d;have f:=fZ A (dM g i).2 f;let⟨a,vs,e,_,ha,o⟩:=Rp.aR (id d);subst e;let⟨b,j,e,_,hb,n⟩:=Rp.aR (id f);subst e;exact⟨a,b,vs,j,rfl,SqL.of ha,SqL.of hb,q (g.join i) _ _ H1 _ h A JG ⟨rpA d,rpA f⟩⟩
 ·exact h.elim)
end
end Dl
namespace Wr
open PySem L2 PyProof.Rows Dl
variable [Gr] {X:Cx}{pos:Pos}{ta:DA}
def Et{elts:List Zv}{kk:Nat}{c:Pos}{a b:Zv}{ps:Pos}(hm:X.mg "zip"=none)(ha:WDA X [a,b] ta)(hg:Gl X "zip":=by rfl)(d:Zw [a,b] X.env=(false,Zx a X.env)::Zw [b] X.env:=by rfl)(e:(Zy pos (Zw [b] X.env)).any (·.1)=false:=by rfl):WDI X (.Tuple elts kk c) (.Call (.Name "zip" ps) [a,b] [] pos) (iZp ta):=⟨Dl.Et hm ha.h hg d e⟩
end Wr
namespace L2
open PySem PyProof.Rows
def Asc(xs:Array Nat):Prop:=xs.toList.Pairwise (·<·)
structure Good(w:Zd)(t:Sn):Prop where
 asc:Asc t.place
 dum:t.dummies=#[]
 led:t.led=!w.params.followText "set-order"
section
variable{w:Zd}{t:Sn}
end
section
variable{P:Zc}{w:Zd}{A:Zt}{E:eQ}{s:Shared}
section
variable{P:Zc}{w:Zd}{A:Zt}{R:Result->Shared->Prop}{I:Addr}{fp wr:List Addr}{G:Array ZE->Array ZE->Prop}{n:Nat}{W:Nat->Value->Prop}{St:Nat->Shared->Prop}
end
end
section
variable{P:Zc}{w:Zd}{A:Zt}{E:eQ}{s:Shared}{I a:Addr}{f:Value}{i n ep:Nat}{o:Obj}{es:Array (Int×Value)}{t:Sn}
end
section
variable{P:Zc}{w:Zd}{A:Zt}{E:eQ}{s:Shared}
variable{a:Addr}{i ep:Nat}{o:Obj}{es:Array (Int×Value)}{t:Sn}
end
section
variable{P:Zc}{w:Zd}{A:Zt}{E:eQ}{s:Shared}{I a:Addr}{ep:Nat}{o:Obj}{es:Array (Int×Value)}{t:Sn}
end
end L2
namespace L2
open PySem PySem.Spec PyProof.Rows
section
variable{P:Zc}{w:Zd}{A:Zt}{E:eQ}{s:Shared}{a:Addr}{S:Int->Bool}{n:Nat}
end
end L2
namespace L2
open PySem PyProof.Rows
section
variable{X:Cx}{pins:List (Addr×Obj)}{σ:List (Option V)}{H:Hp}{s:Shared}
end
end L2
namespace Dl
open PySem L2 PyProof.Rows
variable [Gr]
section
variable{X:Cx}{pos pos':Pos}{a:Zv}{t:DA}
end
end Dl
namespace Wr
open PySem L2 PyProof.Rows Dl
section
variable [Gr] {X:Cx}{pos pos':Pos}{a:Zv}{t:DA}
end
end Wr
namespace L2
open PySem PySem.Spec PyProof.Rows
open PySem.AutoSeq1 (wpAny_loadPart')
open PySem.MeetsSeq PySem.MeetsSeq3
section
variable{prog:Zc}{w:Zd}{A:Zt}{E:eQ}{s:Shared}
end
section
variable{X:Cx}
end
end L2
namespace Dl
open PySem L2 PyProof.Rows
section
variable{X:Cx}{pos:Pos}{a:Zv}{t:DA} [Gr]
end
end Dl
namespace L2
open PySem PySem.Spec PyProof.Rows
section
variable{prog:Zc}{w:Zd}{A:Zt}{E:eQ}{s:Shared}
end
section
variable{X:Cx}
end
end L2
namespace Dl
open PySem L2 PyProof.Rows
section
variable{X:Cx}{pos:Pos}{a e:Zv}{t:DA} [Gr]
end
end Dl
namespace L2
open PySem PySem.Spec PyProof.Rows
open AutoSeq1 in
section
variable{X:Cx}
end
end L2
namespace Dl
open PySem L2 PyProof.Rows
variable [Gr]
section
variable{X:Cx}{st:ZH}{te:DE}{pos:Pos}{ta:DA}
end
end Dl
namespace Wr
open PySem L2 PyProof.Rows Dl
section
variable [Gr] {X:Cx}{pos:Pos}{a:Zv}{ta t:DA}{te:DE}
end
end Wr
namespace Dl
open PySem L2 PyProof.Rows
variable [Gr]
section
variable{X:Cx}{st st2:ZH}{rest:List ZH}{tj te1 te2:DE}{tt:DT}{t:DS}{K:ã}
end
end Dl
namespace Wr
open PySem L2 PyProof.Rows Dl
section
variable [Gr] {X:Cx}{tj te1 te2:DE}
end
end Wr
namespace L2
open PySem PySem.Spec PyProof.Rows
structure LamScope(ps ys:List Str)(sc:Zu)(cl:List (Str×Addr)):Prop where
 kind:sc.kind=.function
 co:sc.isCoroutine=false
 gen:sc.isGenerator=false
 nd:(ps++ys).Nodup
 par:∀x∈ps,sc.names.lookup x=some .local
 fre:∀y∈ys,sc.names.lookup y=some .free
 nocell:∀x∈sc.names,x.2≠.cell
 all:∀x,sc.names.lookup x=some .free->∃c,cl.lookup x=some c
 inj:∀x y c,cl.lookup x=some c->cl.lookup y=some c->x=y
structure Caps(base:Zi)(cl:List (Str×Addr))(ys:List Str)(cvs:List V):Prop where
 len:⇑cvs=⇑ys
 cells:∀x c,cl.lookup x=some c->∃v,base.IsCell c v
 val:∀(j:Nat)(y:Str)(v:V),ys[j]?=some y->cvs[j]?=some v->∃c u,cl.lookup y=some c/\base.IsCell c (some u)/\RelV v u
def Yk(x:Obj)(a:Str):Prop:=∃vs t,x.data=.fields vs/\vs[1]?=some (.str a t)
def Yr(H:Hp)(b:Addr)(a:Str):Prop:=∃x φ,H b=some (.frz x (.ext φ))/\Yk x a
section
variable{X:Cx}{CX:CXT}{k i:Nat}{f:Addr}{fd:YY}{ps:List Str}{sp:Sp}{E:XK}{x:Str}{p pos:Pos}{e:Zv}{es:List Zv}{t:TA}
end
section
variable{X:Cx}{pins:List (Addr×Obj)}{σ:St}{H:Hp}{s:Shared}{c P:Addr}{pos:Pos}{qual:Str}{params:XE}{body:Zv}{scope:Zu}{cl:List (Str×Addr)}{Q:eQ}{E:eQ}
end
structure LamAt(base:Zi)(f c':Addr)(qual:Str)(params:XE)(body:Zv)(scope:Zu)(cl:List (Str×Addr))(ys:List Str)(cvs:List V)(H:Hp):Prop where
 fn:∃pm ctv,base.get? f=some (W.kla_obj "<lambda>" qual params body scope cl pm c' ctv)
 caps:Caps base cl ys cvs
 kn:Yr H c' qual
section
variable{X:Cx}{k:Nat}{fh c P:Addr}{fdh:YY}{ps ys:List Str}{sp:Zi->Sp}{x:Str}{p pos lpos:Pos}{e:Zv}{te:TE}{qual:Str}{params:XE}{body:Zv}{scope:Zu}{cl:List (Str×Addr)}
end
end L2
namespace Dl
open PySem L2 PyProof.Rows
section
variable [Gr] {X:Cx}{k j:Nat}{x:Str}{ps:List Str}{e:Zv}{es:List Zv}{t:DA}{p pos:Pos}{C:Pn->Prop}{T:Pn}{i:Nat}{f:List D->(D->Prop)->Prop}
end
section
variable{X:Cx}{k j:Nat}{x:Str}{ps:List Str}{e:Zv}{es:List Zv}{t:DA}{p pos:Pos}{Z:Hp->Prop}{i:Nat}{f:Addr}{fd:YY}{g:List D->(D->Prop)->Prop}
end
end Dl
namespace Wr
open PySem L2 PyProof.Rows Dl
variable{X:Cx}{k j:Nat}{x:Str}{ps:List Str}{e:Zv}{es:List Zv}{t:DA}{p pos:Pos}{Z:Hp->Prop}{i:Nat}{f:Addr}{fd:YY}{g:List D->(D->Prop)->Prop}
end Wr
namespace Dl
open PySem L2 PyProof.Rows
section
variable{X:Cx}{k j:Nat}{x:Str}{ps:List Str}{e:Zv}{es:List Zv}{t:DA}{p pos:Pos}{T:Pn}{f:List D->(D->Prop)->Prop}
end
end Dl
namespace Wr
open PySem L2 PyProof.Rows Dl
variable{X:Cx}{k j:Nat}{x:Str}{ps:List Str}{e:Zv}{es:List Zv}{t:DA}{p pos:Pos}{T:Pn}{f:List D->(D->Prop)->Prop}
end Wr
namespace L2
open PySem PySem.Spec PyProof.Rows
section
variable{X:Cx}{k i:Nat}{f CF:Addr}{fd:YY}{sp:Sp}{E:XK}{x hx n:Str}{p np cpos epos hpos pos:Pos}{b₀:ZH}{suite:List ZH}{ts:TS}{j:Nat}
end
section
variable{X:Cx}{k:Nat}{fh c P:Addr}{fdh:YY}{ps ys:List Str}{sp:Zi->Sp}{x:Str}{p pos lpos:Pos}{qual:Str}{params:XE}{body:Zv}{scope:Zu}{cl:List (Str×Addr)}
end
end L2
namespace Dl
open PySem L2 PyProof.Rows
section
variable{X:Cx}
def Kq(K:ã):V->List V->Hp->VK->Prop:=λx vs H Q=>∃(l:Addr)(ns:List Int)(k:Int),x=.ref l/\vs=[.int k]/\SqL K H l (ns.map V.int)/\(ĉ (ns.map Â)).layable0=true/\k∈ns/\Q (.int ((ns.idxOf k:Nat):Int)) H
def Lx:MtM X "list.index" (Kq X.K):=by
 intro b s σ H x vs v us Q I f a h;let⟨l,ns,k,rfl,rfl,hl,c,hk,q⟩:=h;cases f;let⟨u,rfl,e⟩:=a.one;let⟨t,rfl⟩:=e;let⟨its,a,d,g⟩:=I.list hl;exact index_list_ints d.isList (intsAre_of a) c hk ⟨.int _,H,I.tok _,⟨_,rfl⟩,q⟩
end
section
variable [Gr] {X:Cx}{e:Zv}{te ta:DE}
def Wc(te:DE)(ta:DE):DE:=λρ P=>te ρ λ_ d=>∃ns:List Int,d=.list (ns.map Â)/\ta ρ λ_ d2=>match d2 with
 |.int k=>(ĉ (ns.map Â)).layable0=true/\k∈ns/\P .imm (.int ((ns.idxOf k:Nat):Int))
 |_=>False
theorem sV{o:Zv}{cpos:Pos}(h:PE X e (tBM X.K "list" (Kq X.K) (aK te) (kE (bw ta fB)))):PD X e (Wc te ta):=PE.wk h (by
 rintro σ H Q ⟨p,g,own,ρ,P,E,t,q⟩;refine⟨p,g,own,ρ,_,E,t,λk d v H1 h A r=>?_⟩;let⟨ns,rfl,h⟩:=h;let⟨l,vs,rfl,J,hl,B⟩:=Rp.aR r;have n:=Rps.ints B;subst n;refine⟨.inl ⟨rfl,_,SqL.of hl⟩,p,g,own,ρ,_,E.go A.kp A.pen,qT h,?_⟩;rintro ks us F ⟨G,m,rfl,a⟩ f z;let⟨y,rfl,C⟩:=cJ z;have j:=A.base f;cases m with
 |int i =>
  have w:=Rp.int' C;subst w;have x:=gb A f.kp r;let⟨I,D,u,L,b,c⟩:=Rp.aR x;cases u;have s:=Rps.ints c;subst s;exact⟨l,ns,i,rfl,rfl,SqL.of b,a.1,a.2.1,q _ _ _ _ a.2.2 j (.int _)⟩
 |_=>exact a.elim)
end
end Dl
namespace Wr
open PySem L2 PyProof.Rows Dl
section
variable [Gr] {X:Cx}{te ta:DE}
def sV{o e:Zv}{es:List Zv}{b cpos:Pos}(hv:WD X o te)(ha:WDA X (e::es) (bw ta fB))(c:WE o "index" X.env (Zx o X.env)=Zx o X.env:=by rfl)(f:zW X cpos (e::es):=by rfl)(d:(b.endLine==cpos.line)=true:=by rfl)(hst:zS X e es:=by rfl)(a:zP X cpos es:=by rfl)
 :WD X (.Call (.Attribute o "index" b) (e::es) [] cpos) (Wc te ta):=⟨Dl.sV (o:=o) (cpos:=cpos) (vD Ņ PySem.F.slot_list_index PySem.F.type_list_index Lx hv.h ha.h c f d hst a)⟩
end
end Wr
namespace Dl
open PySem L2 PyProof.Rows
variable [Gr]
variable{X:Cx}{st:ZH}{te tj:DE}
end Dl
namespace Wr
open PySem L2 PyProof.Rows Dl
variable [Gr] {X:Cx}
end Wr
namespace Dl
open PySem L2 PyProof.Rows
variable [Gr]
section
variable{X:Cx}{st:ZH}{te tj:DE}
def Vv(i:Nat):DS:=λP ρ=>match ρ[i]? with
 |some (.dw r (.list ds))=>P.nx ((forget r ρ).set i (.dw r (.list ds.reverse)))
 |_=>False
def Eo{i:Nat}(h:PS X st (rJ (Wi X.K "list" zX (jX i)))):PDS X st (Vv i):=PS.wk' h (by
 rintro Q σ H ⟨p,j,own,ρ,P,E,t,w⟩;unfold Vv at t;split at t
 ·rename_i r ds hr;let⟨v,hv,x⟩:=E.slot i _ hr;let⟨l,vs,rfl,hl,a,b⟩:=x.aR;refine⟨.ref l,hv,.inl ⟨rfl,vs,SqL.of a⟩,l,vs,rfl,rfl,a,?_⟩;let⟨c,e⟩:=E.rW (vs':=vs.reverse) (ds':=ds.reverse) E.at hv hl a b λH2 f g=>(gP f b λd hd=>fX hd).rev;exact w.nx _ σ _ _ c e t
 ·exact t.elim)
def SM(i:Nat)(te tj:DE):DS:=λP ρ=>te ρ λk d=>∃(r:Nat)(ds:List D),ρ[i]?=some (.dw r (.list ds))/\(norm k d).le .new=true/\tj ρ λ_ dj=>match dj with
 |.int j=>∃m,ixN ⇑ds j=some m/\P.nx ((forget r ρ).set i (.dw r (.list (ds.set m d))))
 |_=>False
theorem qZ{i:Nat}(h:PS X st (pZ (aK te) (Xv (jX i) (aK tj) Rr))):PDS X st (SM i te tj):=PS.wk' h (by
 rintro Q σ H ⟨p,e,own,ρ,P,E,t,w⟩;refine⟨p,e,own,ρ,_,E,t,λk d v H1 ⟨r,ds,hr,im,h⟩ A rv=>?_⟩;let⟨u,hv,x⟩:=E.slot i _ hr;let⟨l,vs,rfl,hl,n,b⟩:=x.aR;have o:=E.go A.kp A.pen;refine⟨.ref l,hv,p,e,own,ρ,_,o,h,λk2 dj vj H2 h2 A2 r2=>?_⟩;cases dj with
 |int j =>
  let⟨m,hm,hn⟩:=h2;have y:=Rp.int' r2;have a:=A.base A2;have h1:H2 l=some (.lst vs):=a.kp l _ n (E.ow l r hl).2.1;have c:=gb A A2.kp (fZ A im (aX rv));refine⟨l,vs,j,m,rfl,y,h1,by rw[⇑b];exact hm,?_⟩;let⟨q,s⟩:=E.rW (vs':=vs.set m v) (ds':=ds.set m d) a hv hl n b λH3 f g=>Rps.set (g c) m (gP f b λd hd=>fX hd);exact w.nx _ σ _ _ q s hn
 |_=>exact h2.elim)
def Nx(i:Nat)(tj:DE):DS:=λP ρ=>match ρ[i]? with
 |some (.dw r (.list ds))=>tj ρ λ_ dj=>match dj with
  |.int j=>-(2 ^ 63)<=j/\j<2 ^ 63/\∃m,X0 j ⇑ds=some m/\m<⇑ds/\P.nx ((forget r ρ).set i (.dw r (.list (ds.eraseIdx m))))
  |_=>False
 |_=>False
def yE{i:Nat}(h:PS X st (rJ (tBM X.K "list" Ko (jX i) (kE (bw tj fB))))):PDS X st (Nx i tj):=PS.wk' h (by
 rintro Q σ H ⟨p,o,own,ρ,P,E,t,w⟩;unfold Nx at t;split at t
 ·rename_i r ds hr;let⟨v,hv,x⟩:=E.slot i _ hr;let⟨l,vs,rfl,hl,b,c⟩:=x.aR;refine⟨.ref l,hv,.inl ⟨rfl,vs,SqL.of b⟩,p,o,own,ρ,_,E,qT t,?_⟩;rintro ks G q ⟨k,s,rfl,hh⟩ A C;let⟨y,rfl,D⟩:=cJ C;cases s with
  |int j =>
   let⟨z,B,m,hm,F,hn⟩:=hh;have u:=Rp.int' D;have h1:q l=some (.lst vs):=A.kp l _ b (E.ow l r hl).2.1;have a:=⇑c;refine⟨l,vs,j,m,vs[m]'(),rfl,by rw[u],h1,z,B,by rw[a];exact hm,Ë _,?_⟩;let⟨e,n⟩:=E.rW (vs':=vs.eraseIdx m) (ds':=ds.eraseIdx m) A hv hl b c λH2 f g=>(gP f c λd hd=>fX hd).erase m;exact w.nx _ σ _ _ e n hn
  |_=>exact hh.elim
 ·exact t.elim)
end
section
variable{X:Cx}{pos:Pos}{a:Zv}{t:DA}
def Jg(hg:X.A.guards=some [])(hu:X.A.units+64<YV):aQ X (.type "str") Wq:=by
 intro c s σ H xs us Q I r h;let⟨ok,a,d,rfl,l,⟨b,f,g,i⟩,q⟩:=h;simp only[okD,Ï,eC]at b;cases r with
 |cons r1 r2 =>
  cases r2;let⟨as,j⟩:=l.reads I r1 b.1;cases r1;refine str_of_reads (h₀:=s.heap) j f (λz=>by rw[g]at z;cases z) hg () (λ_ _ e=>e) (λh' u tk k=>?_) i;exact⟨.str d.shown,H,I.kept k,⟨_,rfl⟩,q⟩
def wZ{ps:Pos}(b:X.A.guards=some [])(hu:X.A.units+64<YV)(hm:X.mg "str"=none)(ha:PDA X [a] t)(hg:Gl X "str":=by rfl)(he:zS X a []:=by rfl)(hpl:zP X pos []:=by rfl):PD X (.Call (.Name "str" ps) [a] [] pos) (tCl MJ t) :=
 jg (Jg b hu) (by
  intro p f own g H vs ks P Q A r t q;unfold MJ at t;split at t
  ·let⟨v,rfl,d⟩:=cJ r;let⟨c,h,rfl,o,hc,e⟩:=d.aR;exact⟨_,c,_,rfl,.lst (ok:=okK p f own g _) o hc e,t.1,q _ _ _ _ t.2 Kp.refl A.pen (.str _)⟩
  ·let⟨v,rfl,d⟩:=cJ r;let⟨c,h,rfl,hc,e⟩:=d.dX;exact⟨_,c,_,rfl,.tup (ok:=okK p f own g _) hc e,t.1,q _ _ _ _ t.2 Kp.refl A.pen (.str _)⟩
  ·exact t.elim) hg hm boot_str ha ∅ ∅ he hpl
end
def J0{C:Pn->Prop}{f:List D->(D->Prop)->Prop}{vs:List V}{H:Hp}{Q:VK}{E:XK}(h:p7 (CE C) f vs H Q E):p7 C f vs H Q E:=by
 let⟨q,ok,vs',ds,P,⟨p,c,x⟩,rfl,g,r,t,k⟩:=h;exact⟨p,λa=>ok a/\¬q.fp a,vs',ds,P,c,by rw[x.pv],x.pi _ g,r.mono (λa n=>⟨n,λz=>n.2 (x.fp a z)⟩) (λ_ _ _ e=>e) (λ_ _ e=>e),t,λd v H' hP kp pi' rp=>k d v H' hP (λb o e n=>kp b o e λz=>n (x.fp b z)) (x.go H H' g kp pi') (rp.mono (λa o=>o.imp (λz=>z.1) id) (λ_ _ _ e=>e) λ_ _ e=>e)⟩
def Cal.Ye{P:Zc}{w:Zd}{K:ã}{a:Str->Option Value}{base:Zi}{k:Nat}{x:Str}{ps:List Str}{C:Pn->Prop}{f:List D->(D->Prop)->Prop}(h:Cal P w K a base k x ps (p7 C f)):Cal P w K a base k x ps (p7 (CE C) f):=by
 let⟨g,b,F,r⟩:=h.ex;exact⟨g,b,F.imp λ_ _ _ _=>J0,r⟩
end Dl
namespace Wr
open PySem L2 PyProof.Rows Dl
variable [Gr] {X:Cx}
def qZ{i:Nat}{x:Str}{d f:DE}{a e:Zv}{b c pos:Pos}(hv:WV X (.Name x b) i)(g:WD X a f)(he:WD X e d)(ha:∀v,ZU (.Subscript (.Name x b) a c) X.env v=(do
   let ov ←holding [v] (Zx (.Name x b) X.env)
   let iv ←holding [v,ov] (Zx a X.env)
   standAt c
   holding [v,ov,iv] (ZX ov iv v)
   release [v,ov,iv] []):=by intro _;rfl)(hs:Z0 [.Subscript (.Name x b) a c] e pos.line X.env=pure false:=by rfl)(j:Z2 [.Subscript (.Name x b) a c] e X.env=pure none:=by rfl)(h1:(ZW [.Subscript (.Name x b) a c] X.env).map (·.2)=[ZU (.Subscript (.Name x b) a c) X.env]:=by rfl) :
  WDS X (.Assign [.Subscript (.Name x b) a c] e pos) (SM i d f):=⟨Dl.qZ (sE he.h (wO hv.h g.h set_list ha) hs j h1)⟩
def yE{i:Nat}{j:DE}{x:Str}{e:Zv}{es:List Zv}{a cpos f pos:Pos}(hv:WV X (.Name x f) i)(ha:WDA X (e::es) (bw j fB))(c:WE (.Name x f) "pop" X.env (Zx (.Name x f) X.env)=Zx (.Name x f) X.env:=by rfl)(g:zW X cpos (e::es):=by rfl)(d:(a.endLine==cpos.line)=true:=by rfl)(hst:zS X e es:=by rfl)(b:zP X cpos es:=by rfl)(hs:ZT (.Call (.Attribute (.Name x f) "pop" a) (e::es) [] cpos) none pos.line X.env=pure false:=by rfl) :
  WDS X (.Expr (.Call (.Attribute (.Name x f) "pop" a) (e::es) [] cpos) pos) (Nx i j):=⟨Dl.yE (gQ (vD Ņ PySem.F.slot_list_pop PySem.F.type_list_pop Lw hv.h ha.h c g d hst b) hs)⟩
def Eo{i:Nat}{x:Str}{d a cpos pos:Pos}(hv:WV X (.Name x d) i)(b:WE (.Name x d) "reverse" X.env (Zx (.Name x d) X.env)=Zx (.Name x d) X.env:=by rfl)(c:(a.endLine==cpos.line)=true:=by rfl)(hs:ZT (.Call (.Attribute (.Name x d) "reverse" a) [] [] cpos) none pos.line X.env=pure false:=by rfl) :
  WDS X (.Expr (.Call (.Attribute (.Name x d) "reverse" a) [] [] cpos) pos) (Vv i):=⟨Dl.Eo (gQ (Ul Ņ PySem.F.slot_list_reverse PySem.F.type_list_reverse DQ hv.h b c) hs)⟩
def wZ{pos:Pos}{a:Zv}{t:DA}{ps:Pos}(b:X.A.guards=some [])(hu:X.A.units+64<YV)(hm:X.mg "str"=none)(ha:WDA X [a] t)(hg:Gl X "str":=by rfl)(he:zS X a []:=by rfl)(hpl:zP X pos []:=by rfl):WD X (.Call (.Name "str" ps) [a] [] pos) (tCl MJ t):=⟨Dl.wZ b hu hm ha.h hg he hpl⟩
end Wr
set_option autoImplicit true
namespace Wr
open PySem L2 PyProof.Rows Dl
variable [Gr] {X:Cx}{pos:Pos}{a b:Zv}{ta tb:DE}
end Wr
namespace Dl
open PySem L2 PyProof.Rows
structure Spo(ok:Addr->Prop)(H H':Hp):Prop where
 keep:∀b o,H b=some o->¬ok b->H' b=some o
 tup:∀b xs,H b=some (.tup xs)->H' b=some (.tup xs)
 al:∀b,H b≠none->H' b≠none
 fx:∀b o,Fxd o->H b=some o->H' b=some o
def LiI(ok:Addr->Prop)(H:Hp)(k:Nat)(a:Addr):Prop:=ok a/\∃ns:List Int,H a=some (.lst (ns.map V.int))/\⇑ns<=k
inductive Part(ok:Addr->Prop)(H:Hp)(k:Nat):V->Prop
 |int (i:Int):Part ok H k (.int i)
 |lst {a:Addr} (h:LiI ok H k a):Part ok H k (.ref a)
 |two {t a b:Addr} (h:H t=some (.tup [.ref a,.ref b])) (ha:LiI ok H k a) (hb:LiI ok H k b):Part ok H k (.ref t)
section
variable [Gr] {p:Pn}{H0 H:Hp}{own:Addr->Option Nat}{σ:L2.St}{ρ:List Sl}
end
end Dl
namespace Wr
open PySem L2 PyProof.Rows Dl
variable [Gr] {X:Cx}{pos p1 p2 p3:Pos}
end Wr
namespace Dl
open PySem L2 PyProof.Rows
section
variable [Gr] {X:Cx}{st:ZH}
theorem Rj:∀{m:IM}{d:D},d∈m.map (·.2)->sizeOf d<sizeOf (PyData.dict (kvD m))
 |p::m,d,h=>by
  unfold kvD;rw[ö];simp only[PyData.dict.sizeOf_spec,List.cons.sizeOf_spec,Prod.mk.sizeOf_spec];rw[ö]at h;rcases Þ.mp h with rfl|h
  ·lia
  ·have:=Rj (m:=m) h;unfold kvD at this;simp only[PyData.dict.sizeOf_spec]at this;lia
end
end Dl
namespace L2
open PySem PySem.Spec PyProof.Rows
section
variable{X:Cx}{pins:List (Addr×Obj)}{σ:St}{H:Hp}{s:Shared}
end
end L2
namespace Dl
open PySem L2 PyProof.Rows
def kept(m:IM)(vs:List V)(p:Int->Bool)(n:Nat):List (Int×V):=(((m.map (·.1)).zip vs).take n).filter λq=>p q.1
section
variable [Gr] {X:Cx}{st:ZH}
end
end Dl
namespace Wr
open PySem L2 PyProof.Rows Dl
variable [Gr] {X:Cx}{pos p1 p2 p3 p4 p5 p6:Pos}
end Wr
namespace Dl
open PySem L2 PyProof.Rows PySem.W
section
variable [Gr] {X:Cx}
end
end Dl
namespace Wr
open PySem L2 PyProof.Rows Dl
section
variable [Gr] {X:Cx}{pos pos':Pos}{a b:Zv}{ta tb:DE}
end
end Wr
namespace Dl
open PySem L2 PyProof.Rows
section
variable [Gr] {X:Cx}{st:ZH}
def Nu(i:Nat)(tk a:DE):DS:=λP ρ=>match ρ[i]? with
 |some (.dw r (.dict ds))=>a ρ λkv dv=>tk ρ λ_ dk=>match dk,dv with
  |.int k,.list es=>∃m:IM,ds=kvD m/\bQ es=true/\kv=.reg r/\⇑m<1000/\P.nx ((forget r ρ).set i (.dw r (.dict (kvD (d8 m k (.list es))))))
  |_,_=>False
 |_=>False
def SJ(i r:Nat)(a:DE):DS:=λP ρ=>a ρ λk d=>(norm k d).le .new=true/\P.nx (ρ.set i (.dw r d))
def qY{i:Nat}{b:DE}(q:Nat)(h:PS X st (pZ (aK b) (iR i))):PDS X st (SJ i q b):=PS.wk' h (by
 rintro Q σ H ⟨p,a,own,ρ,P,E,t,w⟩;refine⟨p,a,own,ρ,_,E,t,λk d v H1 h A r=>?_⟩;have r:=aX r;show Q.nx (σ.set i (some v)) H1;have c:=E.adopt q A;have e:EnvD p a (cO q H H1 own) (σ.set i (some v)) H1 (ρ.set i (.dw q d)):=c.set λhl=>⟨v,đ hl,Ca h.1 A r⟩
 exact w.nx _ _ H1 _ e (jW A) h.2)
def uF{i:Nat}{tk C:DE}(h:PS X st (J6 (jX i) (aK tk) (aK C))):PDS X st (Nu i tk C):=PS.wk' h (by
 rintro Q σ H ⟨p,g,own,ρ,P,E,t,w⟩;unfold Nu at t;split at t
 ·rename_i r ds hr;let⟨v,hv,x⟩:=E.slot i _ hr;refine⟨p,g,own,ρ,_,E,t,λkv dv vv H1 t1 A1 r1=>?_⟩;have f:=E.go A1.kp A1.pen;refine⟨v,hv,p,g,own,ρ,_,f,t1,λkk dk vk H2 t2 A2 r2=>?_⟩;split at t2
  ·rename_i k es;let⟨m,rfl,im,rfl,j,N⟩:=t2;let⟨l,kvs,rfl,o,hl,S⟩:=Rp.Bu x;let⟨vs,rfl,u⟩:=S.kv;have K:=Rp.int' r2;subst K;have L:=ą;have A:=A1.base A2;let⟨a,V,rfl,O,ha,R⟩:=Rp.aR (gb A1 A2.kp r1);have M:⇑((m.map (·.1)).zipWith (λi v=>((ü i:Key),v)) vs)=⇑m:=by
    rw[List.length_zipWith,Ä,⇑u,Ä,Nat.min_self]
   have h2:H2 l=some (.dK ((m.map (·.1)).zipWith (λi v=>((ü i:Key),v)) vs)):=A.kp l _ hl (E.ow l r o).2.1;refine⟨l,_,rfl,Jt.k (k:=ü k) h2 (by rw[M];lia),?_⟩;generalize c:putK ((m.map (·.1)).zipWith (λi v=>((ü i:Key),v)) vs) (ü k) (.ref a)=b;have D:=f.go A2.kp A2.pen;have F:=D.write (o':=.dK b) o h2 (λxs z=>nomatch z);have B:∀a xs,H2 a=some (.tup xs)->upd H2 l (.dK b) a=some (.tup xs):=λa xs e=>by
    rw[aj (λz=>by rw[z,h2]at e;cases e)];exact e
   have I:Rps (λa=>own a=some r) (upd H2 l (.dK b)) vs (m.map (·.2)):=gP (T:=PyData.dict (kvD m)) (λ{w d} y sz=>by
    have U:=Rp.avoid x y sz;exact U.bW (λa o n e=>⟨n.1,by rw[aj n.2];exact A.kp a o e (E.ow a r n.1).2.1⟩) λa xs e=>B a xs (iG E.at A.kp a xs e)) u λd hd=>Rj hd
   have J:Rp (λa=>own a=some r) (upd H2 l (.dK b)) (.ref a) (.list es):=.lst O (by rw[aj (λz=>by rw[z,h2]at ha;cases ha)];exact ha) ((R.imm im).mono (λ_ o=>o.elim) (λ_ _ o=>o.elim) B);have q:=GK (k:=k) I J;rw[c]at q;have G:=F.put (v:=.ref l) (i:=i) (s:=.dw r (.dict (kvD (d8 m k (.list es))))) ⟨_,hv,.dct o ao q⟩;exact w.nx _ σ _ _ G (A.frs.trans (fW o h2 λxs z=>nomatch z)) N
  ·exact t2.elim
 ·exact t.elim)
end
end Dl
namespace Wr
open PySem L2 PyProof.Rows Dl
section
variable [Gr] {X:Cx}
def qY{i:Nat}{x:Str}{e:Zv}{b:DE}{a pos:Pos}(q:Nat)(hN:X.N.Nodup)(hi:X.N[i]?=some x)(d:Loc X.env.scope x)(he:WD X e b)(hs:ZT e (some (.Name x a)) pos.line X.env=pure false:=by rfl)(c:zL X x:=by first|exact .inl rfl|exact .inr rfl|assumption) :
  WDS X (.Assign [.Name x a] e pos) (SJ i q b):=⟨Dl.qY q (fV hN hi d he.h hs c)⟩
def uF{i:Nat}{x:Str}{b e:Zv}{c a pos:Pos}{tk d:DE}(hu:X.A.units+64<YV)(hv:WV X (.Name x c) i)(hk:WD X b tk)(he:WD X e d)(hs:ZT e (some (.Subscript (.Name x c) b a)) pos.line X.env=pure false:=by rfl) :
  WDS X (.Assign [.Subscript (.Name x c) b a] e pos) (Nu i tk d):=⟨Dl.uF (Gp (hu1 hu) hv.h hk.h he.h hs)⟩
end
end Wr
namespace Dl
open PySem L2 PyProof.Rows PySem.W
section
variable [Gr] {X:Cx}
def TF:R2:=λx y H Q=>∃a b kvs,x=.ref a/\y=.ref b/\Rd H a (.dK kvs)/\Rd H b (.dK [])/\Q (.bl kvs.isEmpty) H
def Uw(hu:X.A.units+64<YV):OpR X (ZL .Eq) TF:=by
 intro d s σ H x y v u Q I j k h;let⟨a,b,kvs,rfl,rfl,ha,hb,q⟩:=h;cases j;cases k;let⟨_,f,vs,r,m⟩:=uH I.hok ha;let⟨_,c,vs',i,g⟩:=uH I.hok hb;cases i;have e:(⇑vs==⇑([]:List (Key×Value))&&true)=kvs.isEmpty:=by
  cases r <;> rfl
 refine keq_eq (r:=true) f c m g () (λz=>?_) ?_
 ·cases vs with
  |nil=>exact .nil
  |cons _ _=>cases z
 ·rw[e];exact⟨.bl _,H,I,rfl,q⟩
def Xx:G2:=λ_ d1 _ d2 P=>∃kvs,d1=.dict kvs/\d2=.dict []/\P .imm (.bool kvs.isEmpty)
def W6:Ok2 Xx TF:=by
 intro p i own j H x y m k n l P Q A f g t q;let⟨kvs,rfl,rfl,t⟩:=t;let⟨a,ks,rfl,_,ha,h⟩:=Rp.Bu f;let⟨b,d,rfl,_,hb,c⟩:=Rp.Bu g;cases c;have e:ks.isEmpty=kvs.isEmpty:=by cases h <;> rfl
 refine⟨a,b,ks,rfl,rfl,.inl ha,.inl hb,?_⟩;rw[e];exact q _ _ _ _ t Kp.refl A.pen (.bl _)
end
end Dl
namespace Wr
open PySem L2 PyProof.Rows Dl
section
variable [Gr] {X:Cx}{pos pos':Pos}{a b:Zv}{ta tb:DE}
def Uq(hu:X.A.units+64<YV)(ha:WD X a ta)(hb:WD X b tb):WD X (.Compare a [.Eq] [b] pos) (t2 Xx ta tb):=⟨Dl.ou (Uw hu) W6 ha.h hb.h (cL _)⟩
end
end Wr
open Wr renaming dU→À,jO→Á,dv→Ã,jf→Å,yF→È,K8→Î,o9→Ô,o8→Û,Ep→à,yI→ä,yD→å,qQ→æ,lW→ê,uE→í,Nm→ø,dc→ú,wV→ă,wW→č,wv→Đ,uI→ė,xg→Ę,Dk→ĝ,w6→Ģ,dcP→Ĥ,Eu→ħ,oh→ĭ,pF→Į,Gs→İ,sX→Ĵ,Es→ĵ,wY→Ķ,Dg→Ĺ,wX→ł,gA→Ō,xq→ŗ,pB→Ř,K7→Ś,Dq→Ţ,wR→Ť,yx→ť,wpt→ů,wU→Ű,nF→ű,sO→ŷ,sH→Ź,yH→ż
open Dl renaming any_ints→Ć,Cal→ċ,Bn→ĩ,Gv→ń
open L2 renaming KZ→Ŗ
open Dl.Cal renaming ext→Ŝ
namespace Nf
open PySem L2 PyProof.Rows Dl
def okT{P:Zc}{w:Zd}{K:PySem.W.Frag}{c:Str->Option Value}{base:Zi}{x q:Str}{st:ZH}{f:Addr}{b:YY}{N ps:List Str}{k:Nat}{g:List D->(D->Prop)->Prop}{T:DS}(F:Fun K x q st f b)(S:FnScope N ps (aC st))(B:∀{cdv A outer s H E},Room k (A.deeper (XB q (aC st) ↥s f cdv))->N.Nodup->Wr.WDSs (Fb CX0 P w K c base N q (aC st) f cdv A outer s H E).nox (fM st) T)(R:∀ds P,g ds P->∃ρ,ds.map aV++Ú (⇑N - ⇑ds) .any=ρ/\T { nx:=λ_=>P .none,rt:=P } ρ)(a:∀vs H Q E,spD g vs H Q E->⇑vs=⇑ps:=by exact qU):FnOk P w K c base CX0 (k+1) f b ps (spD g):=F.ok S a λcdv A outer s H vs Q E hr h=>⟨_,(B hr S.nd).h,Vt h R⟩
def top(i:Nat):ZH:=PySem.Challenge.pw_nofall_k14_what_shows_by_places.main.body.getD i (.Pass ⟨0,0,0,0⟩)
def aL(d:D):aV d=.im d\/aV d=.sh d:=by
 unfold aV;by_cases h:cM d=true
 ·rw[eD h];exact .inl rfl
 ·rw[eH h];exact .inr rfl
def PSs.wk{X:Cx}{a:List ZH}{t t':TS}(h:PSs X a t)(w:∀D σ H,t' D σ H->t D σ H):PSs X a t':=λpins s σ H D I q=>h pins s σ H D I (w D σ H q)
def Ub(p sc:Addr)(ns:List Int)(b:Bool):Pn where
 fp:=λa=>a=p\/(b=true/\a=sc)
 PI:=λH=>(∃x y:Int,H p=some (.lst [.ref sc,.int x,.int y]))/\(b=true->Rd H sc (.lst (ns.map V.int)))
 pv:=.ref p
 mono:=λH H' ⟨⟨x,y,h⟩,r⟩ k=>⟨⟨x,y,k _ _ (.inl (.inl rfl)) h⟩,λe=>(r e).elim (λz=>.inl (k _ _ (.inl (.inr ⟨e,rfl⟩)) z)) λ⟨o,z⟩=>.inr ⟨o,k _ _ (.inl (.inr ⟨e,rfl⟩)) z⟩⟩
 is:=λH a ⟨⟨x,y,h⟩,r⟩ hb=>by
  rcases hb with rfl|⟨e,rfl⟩
  ·exact⟨_,h,(λxs z=>(nomatch z)),λ⟨_,_,z⟩=>(nomatch z)⟩
  ·rcases r e with z|⟨o,z⟩
   ·exact⟨_,z,(λxs z=>(nomatch z)),λ⟨_,_,z⟩=>(nomatch z)⟩
   ·exact⟨_,z,(λxs z=>(nomatch z)),λ⟨_,_,z⟩=>(nomatch z)⟩
def CP(K:ã)(q:Pn):Prop:=∃p sc ns b,(b=true->p≠sc)/\(b=false->∀H,SqL K H sc (ns.map V.int))/\q=Ub p sc ns b
def KY{K:ã}{H:Hp}{sc:Addr}{ns:List Int}{b:Bool}(r:b=true->Rd H sc (.lst (ns.map V.int)))(hb:b=false->∀H,SqL K H sc (ns.map V.int)):SqL K H sc (ns.map V.int):=by
 cases b with
 |true=>exact .inl (r rfl)
 |false=>exact hb rfl H
def Km{H:Hp}{sc p:Addr}{u o:HO}(h:Rd H sc u)(n:p≠sc):Rd (upd H p o) sc u:=by
 rcases h with z|⟨o',z⟩
 ·exact .inl (by rw[aj (Ĩ n)];exact z)
 ·exact .inr ⟨o',by rw[aj (Ĩ n)];exact z⟩
def Bm:FF:=λds P=>∃m:Int,ds=[.int m]/\0<m/\m<1073741824/\∀r:Int,0<=r->r<m->P (.int r)
def iC{C:Pn->Prop}{f:List D->(D->Prop)->Prop}{n:Nat}(hn:∀ds P,f ds P->⇑ds=n:=by intro _ _ h;repeat (first|(let⟨rfl,_⟩:=h;rfl)|let⟨_,h⟩:=h)):∀vs H Q E,spP C f vs H Q E->⇑vs=n+1:=λvs H Q E h=>by
 let⟨p,vs',ds,P,_,rfl,_,r,t,_⟩:=h;rw[ñ,⇑r,hn ds P t]
def Ly{x m:Int}(hm:0<m)(hb:m<=2 ^ 32):-(2 ^ 64)<x % m/\x % m<2 ^ 64:=by
 have h1:=Int.emod_nonneg x (b:=m) ();have h2:=Ů x hm;lia
def QW{i:Int}{ns:List Int}(h:(0:Int)<(⇑(ns.map V.int):Nat)):∃v:Int,atI (ns.map V.int) (i % (⇑(ns.map V.int):Int))=some (.int v):=by
 rw[Ä]at h ⊢;have h1:=Int.emod_nonneg i (b:=(⇑ns:Int)) ();have h2:=Ů i h;have hk:(i % (⇑ns:Int)).toNat<⇑ns:=()
 have a:i % (⇑ns:Int)=(((i % (⇑ns:Int)).toNat:Nat):Int):=()
 have q:atI (ns.map V.int) (((i % (⇑ns:Int)).toNat:Nat):Int)=some (.int ns[(i % (⇑ns:Int)).toNat]):=bF (by rw[Ý,Ë hk];rfl);rw[←a]at q;exact⟨_,q⟩
def tTk:TS:=λD σ H=>∃(a0 a2 a5:Option V)(m a cell:Int),σ=[a0,some (.int m),a2,some (.int a),some (.int cell),a5]/\0<m/\m<1073741824/\∀r:Int,0<=r->r<m->D.rt (.int r) H
def tCe(K:ã)(p sc:Addr)(ns:List Int):TS:=λD σ H=>∃(a2 a5:Option V)(m a cell x y:Int),σ=[some (.ref p),some (.int m),a2,some (.int a),some (.int cell),a5]/\0<m/\m<1073741824/\H p=some (.lst [.ref sc,.int x,.int y])/\SqL K H sc (ns.map V.int) /\
 (∀r:Int,0<=r->r<m->D.rt (.int r) H)/\∀r z:Int,0<=r->r<m->D.rt (.int r) (upd H p (.lst [.ref sc,.int x,.int z]))
def Vs{K:ã}{T:DS}{N:List Str}{H:Hp}{Q:VK}{sc:Addr}{ns:List Int}(k:SqL K H sc (ns.map V.int))(q:∀H',Q (.bl true) H')(hN:2<=⇑N)(f:T { nx:=λ_=>False,rt:=λd=>d=.bool true } (.any::.pen (CP K)::Ú (⇑N - 2) .any)) :
  V5 (pZ (Tf (zG (jX 0) (zG (tC (.int 0)) (zG (tC (.int 0)) Td)))) (iR 1)) (mX T) { nx:=λ_ H'=>Q .non H',rt:=Q } (L2.start N [.ref sc]) H:=by
 refine⟨_,rfl,by show 3<=sizeLine;decide,λp hp=>?_⟩;show mX T _ ((L2.start N [.ref sc]).set 1 (some (.ref p))) _;have c:∀b,(b=true->p≠sc)->(b=false->∀H,SqL K H sc (ns.map V.int))->(b=true->Rd (upd H p (.lst [.ref sc,.int 0,.int 0])) sc (.lst (ns.map V.int)))->mX T { nx:=λ_ H'=>Q .non H',rt:=Q } ((L2.start N [.ref sc]).set 1 (some (.ref p))) (upd H p (.lst [.ref sc,.int 0,.int 0])):=by
  intro b h1 h2 i;refine⟨Ub p sc ns b,upd H p (.lst [.ref sc,.int 0,.int 0]),λ_=>none,_,_,?_,f,⟨λ_ _ _ _ _ _ n=>n.elim,λd v H' n w=>?_,λ_ _ _ _ _ _ n=>n.elim,λ_ _ _ _ _ _ n=>n.elim⟩⟩
  ·have hl:⇑(L2.start N [.ref sc])=⇑N:=by unfold L2.start;simp;lia
   refine⟨λb o e _=>e,⟨⟨0,0,ao⟩,i⟩,λa r e=>(nomatch e),λj s e=>?_,by rw[List.length_set,hl,ñ,ñ,List.length_replicate];lia,trivial⟩;rcases j with _|_|j
   ·cases e;trivial
   ·cases e;exact⟨đ (by rw[hl];lia),p,sc,ns,b,h1,h2,rfl⟩
   ·rw[List.getElem?_cons_succ,List.getElem?_cons_succ]at e;have g:=(List.mem_replicate.mp (Ì e)).2;subst g;trivial
  ·have n:d=.bool true:=n;subst n;have r:=w.rp;cases r;exact q H'
 rcases k with h|h
 ·have hn:p≠sc:=by
   rintro rfl;rcases h with z|⟨o,z⟩ <;> rw[hp]at z <;> cases z
  exact c true (λ_=>hn) (λz=>nomatch z) λ_=>Km h hn
 ·exact c false (λz=>nomatch z) (λ_ H=>.inr h) λz=>nomatch z
section
variable{P:Zc}{w:Zd}{K:ã}{mg:Str->Option Value}{base:Zi}{f:Addr}{fd:YY}
def Ge:FnScope ["_law_pen","_law_many","_law_digit","_law_at","_law_cell","_law_number"] ["_law_pen","_law_many"] (aC (top 49)):=zC
def Qc(F:Fun K ee ee (top 49) f fd)(B:ĩ mg):FnOk P w K mg base CX0 1 f fd [ad,bv] (spP (CP K) Bm):=by
 refine F.ok Ge iC (λcdv A outer s H vs Q E hr h=>?_);let⟨_,vs',ds,P,⟨p,sc,ns,b,T,S,rfl⟩,rfl,⟨⟨x,y,hp⟩,L⟩,rp,⟨m,rfl,j,g,hP⟩,q⟩:=h;obtain rfl:vs'=[.int m]:=by
  cases rp with
  |cons h1 t=>cases h1;cases t;rfl
 have M:=Ge.nd;have hS:=KY L S;refine⟨_,aM (zY (lQ Gu (je dh (pv 0) Ŗ (λ_ _=>rfl)) Ŗ (cL _))
   (aM (fV (i:=2) M rfl (Or.inl rfl) (bO iu (je dh (pv 0) Ŗ (λ_ _=>rfl)) (pv 1)))
   (aM (sE (bO qR (je dh (pv 0) Ŗ (λ_ _=>rfl)) (pv 1)) (wO (pv 0) Ŗ set_list))
   (jM (su (pv 2))))) lR)
  (aM (fV (i:=3) M rfl (Or.inl rfl) (je dh (pv 0) Ŗ (λ_ _=>rfl)))
  (aM (sE (bO jh (pv 3) Ŗ) (wO (pv 0) Ŗ set_list))
  (aM (fV (i:=4) M rfl (Or.inl rfl) Ŗ)
  (aM (zY (lQ Gu (dg eF rfl B.len PySem.boot_len (bU (je dh (pv 0) Ŗ (λ_ _=>rfl)) eY)) Ŗ (cL _))
   (jM (fV (i:=4) M rfl (Or.inl rfl) (je dh (je dh (pv 0) Ŗ (λ_ _=>rfl)) (bO iu (pv 3) (dg eF rfl B.len PySem.boot_len (bU (je dh (pv 0) Ŗ (λ_ _=>rfl)) eY))) (λ_ _=>rfl)))) lR)
  (PSs.wk (t':=tCe K p sc ns) (aM (zY (PW.pt (Ks (lQ Ab (pv 3) (dg eF rfl B.len PySem.boot_len (bU (je dh (pv 0) Ŗ (λ_ _=>rfl)) eY)) (cL _)) (Gk (lQ Rw (dg uR rfl B.abs Dl.boot_abs (bU (pv 4) eY)) (bO Uu Ŗ Ŗ) (cL _)))))
   (aM (sE (bO qR (dg uR rfl B.abs Dl.boot_abs (bU (pv 4) eY)) (pv 1)) (wO (pv 0) Ŗ set_list))
   (jM (su (bO iu (dg uR rfl B.abs Dl.boot_abs (bU (pv 4) eY)) (pv 1))))) lR)
  (PSs.wk (t':=tTk) (aM (fV (i:=5) M rfl (Or.inl rfl) (bO iu (bO kZ (bO jh (bO jh (bO iu (pv 4) Ŗ) (bO kZ Ŗ (pv 3))) Ŗ) Ŗ) Ŗ))
  (aM (fV (i:=5) M rfl (Or.inl rfl) (bO iu (bO jh (bO jh (bO kZ (pv 5) (pv 5)) (bO kZ Ŗ (pv 5))) (pv 3)) Ŗ))
  (aM (fV (i:=5) M rfl (Or.inl rfl) (bO iu (bO jh (bO jh (bO kZ (pv 5) (pv 5)) (bO kZ Ŗ (pv 5))) Ŗ) Ŗ))
  (jM (su (bO iu (bO qR (pv 5) Ŗ) (pv 1))))))) ?tk)) ?ce))))),?_⟩
 case tk =>
  rintro D σ d ⟨a0,O,R,m,a,c,rfl,j,g,U⟩;have G:∀x:Int,0<=x % m/\x % m<m:=λx=>⟨Int.emod_nonneg _ (),Ů _ j⟩
  refine⟨_,rfl,_,_,rfl,rfl,(by show(0:Int)<2147483629;decide),_,rfl,_,_,rfl,rfl,.inl ⟨∅,∅⟩,_,_,rfl,rfl,_,_,rfl,rfl,_,_,rfl,rfl,.inr ⟨∅,∅⟩,_,_,rfl,rfl,(by show(0:Int)<2147483647;decide),?_⟩;refine⟨_,rfl,_,rfl,_,_,rfl,rfl,.inl (Ly ∅ ∅),_,rfl,_,_,rfl,rfl,.inl ⟨∅,∅⟩,_,_,rfl,rfl,_,rfl,_,_,rfl,rfl,_,_,rfl,rfl,(by show(0:Int)<2147483587;decide),?_⟩;refine⟨_,rfl,_,rfl,_,_,rfl,rfl,.inl (Ly ∅ ∅),_,rfl,_,_,rfl,rfl,.inl ⟨∅,∅⟩,_,_,rfl,rfl,_,_,rfl,rfl,_,_,rfl,rfl,(by show(0:Int)<2147483563;decide),?_⟩;exact⟨_,rfl,_,_,rfl,rfl,⟨∅,∅⟩,_,rfl,_,_,rfl,rfl,j,U _ (G _).1 (G _).2⟩
 case ce =>
  rintro D σ d ⟨O,R,m,a,c,x,y,rfl,j,g,hp,hS,U,W⟩;have G:∀x:Int,0<=x % m/\x % m<m:=λx=>⟨Int.emod_nonneg _ (),Ů _ j⟩
  have Z:tTk D [some (.ref p),some (.int m),O,some (.int a),some (.int c),R] d:=⟨_,_,_,m,a,c,rfl,j,g,U⟩
  refine⟨_,rfl,_,rfl,p,_,_,_,rfl,rfl,SqL.of hp,rfl,sc,_,rfl,.inl hS,_,_,rfl,rfl,_,rfl,bC (λc1=>?_) (λc1=>aA Z)⟩;refine⟨_,rfl,c,rfl,_,_,rfl,rfl,⟨∅,∅,∅⟩,_,_,rfl,rfl,_,rfl,bC (λI=>?_) (λI=>Z)⟩;exact⟨_,rfl,c,rfl,_,rfl,_,_,rfl,rfl,⟨j,g⟩,_,rfl,p,_,_,_,rfl,rfl,hp,rfl,_,rfl,c,rfl,_,rfl,_,_,rfl,rfl,j,W _ _ (G _).1 (G _).2⟩
 have G:∀x:Int,0<=x % m/\x % m<m:=λx=>⟨Int.emod_nonneg _ (),Ů _ j⟩
 have N:∀(d:Hp)(o:HO),(b=true->Rd d sc (.lst (ns.map V.int)))->b=true->Rd (upd d p o) sc (.lst (ns.map V.int)):=λd o r e=>Km (r e) (T e);have J:∀(d:Hp)(r:Int),0<=r->r<m->(∀a o,H a=some o->a≠p->d a=some o)->(Ub p sc ns b).PI d->Q (.int r) d:=λd r h1 h2 k e =>
  q _ _ _ (hP r h1 h2) (λa o e n=>k a o e λz=>n (.inl z)) e (.int r)
 have X:∀(H1:Hp)(o:HO),(∀a o,H a=some o->a≠p->H1 a=some o)->∀a u,H a=some u->a≠p->upd H1 p o a=some u:=λH1 o k a u e n=>by rw[aj n];exact k a u e n
 refine⟨_,rfl,p,_,_,_,rfl,rfl,SqL.of hp,rfl,_,_,rfl,rfl,_,rfl,bC (λc1=>?_) (λc1=>?_)⟩
 ·exact⟨_,rfl,p,_,_,_,rfl,rfl,SqL.of hp,rfl,_,rfl,_,_,rfl,rfl,j,_,rfl,p,_,_,_,rfl,rfl,SqL.of hp,rfl,_,rfl,_,_,rfl,rfl,⟨j,g⟩,_,rfl,p,_,_,_,rfl,rfl,hp,rfl,_,rfl,J _ _ (G _).1 (G _).2 (X _ _ λb o e _=>e) ⟨⟨_,_,ao⟩,N _ _ L⟩⟩
 ·have l:upd H p (.lst [.ref sc,.int (x+1),.int y]) p=some (.lst [.ref sc,.int (x+1),.int y]):=ao;have Y:=N H (.lst [.ref sc,.int (x+1),.int y]) L;have k1:=X H (.lst [.ref sc,.int (x+1),.int y]) λb o e _=>e;have C:=KY Y S;have en:∀(a4:Int)(O R:Option V),tCe K p sc ns { nx:=λ_ d=>Q .non d,rt:=Q } [some (.ref p),some (.int m),O,some (.int x),some (.int a4),R] (upd H p (.lst [.ref sc,.int (x+1),.int y])):=λa4 O R =>
   ⟨O,R,m,x,a4,x+1,y,rfl,j,g,l,C,λr r0 r1'=>J _ r r0 r1' k1 ⟨⟨_,_,l⟩,Y⟩,λr z r0 r1'=>J _ r r0 r1' (X _ _ k1) ⟨⟨_,_,ao⟩,N _ _ Y⟩⟩
  refine⟨_,rfl,p,_,_,_,rfl,rfl,SqL.of hp,rfl,?_⟩;refine⟨_,rfl,_,_,rfl,rfl,_,rfl,p,_,_,_,rfl,rfl,hp,rfl,?_⟩;refine⟨_,rfl,p,_,_,_,rfl,rfl,SqL.of l,rfl,sc,_,rfl,.inl C,_,_,rfl,rfl,_,rfl,bC (λI=>?_) (λI=>en _ _ _)⟩;have I:=eB I;let⟨v,hv⟩:=QW (i:=x) I;exact⟨_,rfl,p,_,_,_,rfl,rfl,SqL.of l,rfl,_,rfl,_,rfl,p,_,_,_,rfl,rfl,SqL.of l,rfl,sc,_,rfl,.inl C,_,_,rfl,rfl,I,sc,_,_,_,rfl,rfl,C,hv,en _ _ _⟩
end
end Nf
set_option maxHeartbeats 4000000
namespace Nf
open PySem L2 PyProof.Rows Dl
structure IsOrd(n:Int)(l:List Int):Prop where
 len:(⇑l:Int)=n
 rng:∀x∈l,0<=x/\x<n
 nd:l.Nodup
def IsOrd.ins{k:Nat}{l:List Int}(h:IsOrd k l)(j:Nat):IsOrd ((k+1:Nat):Int) (l.take j++((k:Nat):Int)::l.drop j):=by
 have p:(l.take j++((k:Nat):Int)::l.drop j).Perm (((k:Nat):Int)::l):=by
  refine List.perm_middle.trans ?_;rw[List.take_append_drop]
 refine⟨?_,λx hx=>?_,?_⟩
 ·rw[p.length_eq,ñ];have:=h.len;lia
 ·rcases Þ.mp (p.mem_iff.mp hx)with z|z
  ·lia
  ·have:=h.rng x z;lia
 ·refine p.symm.nodup ?_;refine Š.mpr ⟨λz=>?_,h.nd⟩;have:=h.rng _ z;lia
def IsOrd.at{n:Int}{l:List Int}(h:IsOrd n l){a:Int}(c:0<=a)(h1:a<n):∃x:Int,atI (l.map Â) a=some (.int x)/\(0<=x/\x<n)/\l[a.toNat]?=some x:=by
 have hl:=h.len;have hk:a.toNat<⇑l:=()
 have b:a=((a.toNat:Nat):Int):=()
 have z:atI (l.map Â) ((a.toNat:Nat):Int)=some (.int l[a.toNat]):=bF (by rw[Ý,Ë hk];rfl);rw[←b]at z;exact⟨_,z,h.rng _ (ĳ hk),Ë hk⟩
def OkT(n:Int)(t:Tie):Prop:=(0<=t.1/\t.1<n)/\(0<=t.2/\t.2<n)/\t.1≠t.2
def OkN(n:Int)(us:List Tie):Prop:=∀t∈us,OkT n t
def OkN.snoc{n:Int}{us:List Tie}{t:Tie}(h:OkN n us)(h':OkT n t):OkN n (us++[t]):=λu hu=>(â.mp hu).elim (h u) λz=>by rw[Ê.mp z];exact h'
def OkW(n:Int)(us:List Tie):Prop:=∀t∈us,0<=t.1/\t.1<t.2/\t.2<n
def app1(ts:List Tie)(a b:Int):ts.map pD++[ő [.int a,.int b]]=(ts++[((a,b):Tie)]).map pD:=by
 rw[î];rfl
def Qf(us:List Tie):okD (.list (us.map pD))=true/\okD (.tuple (us.map pD))=true:=by
 have h1:∀us:List Tie,Ď (us.map pD)=true:=λus=>by
  induction us with
  |nil=>rfl
  |cons t us b=>exact b
 have h2:∀us:List Tie,ę (us.map pD)<=1:=λus=>by
  induction us with
  |nil=>exact Ă _
  |cons t us b =>
   show max (max 0 (max 0 0)+1) (ę (us.map pD))<=1;lia
 have a:ę (us.map pD)+1<=60:=by have:=h2 us;lia
 constructor
 ·show(Ď (us.map pD)&&decide (ę (us.map pD)+1<=60))=true;rw[h1,decide_eq_true a];rfl
 ·show(Ď (us.map pD)&&decide (ę (us.map pD)+1<=60))=true;rw[h1,decide_eq_true a];rfl
def S8{x y:Int}{out:List Int}(p:out.Perm [x,y])(s:out.Pairwise (·<=·))(n:x≠y):∃u v,out=[u,v]/\u<v/\(u=x\/u=y)/\(v=x\/v=y):=by
 have hl:=p.length_eq;match out,hl with
 |[u,v],_ =>
  have hu:u∈[x,y]:=p.mem_iff.mp (by simp);have hv:v∈[x,y]:=p.mem_iff.mp (by simp);have a:x∈[u,v]:=p.mem_iff.mpr (by simp);have b:y∈[u,v]:=p.mem_iff.mpr (by simp);simp at hu hv a b s;exact⟨u,v,rfl,(),hu,hv⟩
def CK{x:Int}(f:0<=x)(h1:x<4)(a b c d:D):∃e,atI [a,b,c,d] x=some e/\(e=a\/e=b\/e=c\/e=d):=by
 rcases(():x=0\/x=1\/x=2\/x=3)with rfl|rfl|rfl|rfl
 ·exact⟨a,rfl,.inl rfl⟩
 ·exact⟨b,rfl,.inr (.inl rfl)⟩
 ·exact⟨c,rfl,.inr (.inr (.inl rfl))⟩
 ·exact⟨d,rfl,.inr (.inr (.inr rfl))⟩
def lD2(t:Tie):D:=.list [.int t.1,.int t.2]
def R7:FF:=λds P=>∃(n:Int)(ts:List Tie),ds=[.int n,.list (ts.map pD)]/\2<=n/\n<=16/\⇑ts<=60/\OkN n ts/\∀t,OkT n t->P (pD t)
def XC:FF:=λds P=>∃a b:Int,ds=[.int a,.int b]/\1<=a/\a<=16/\1<=b/\b<=16/\∀(n:Int)(us:List Tie),1<=n->(n<=a\/n<=b)->⇑us<=39->OkW n us->P (aq n us)
section
variable{P:Zc}{w:Zd}{K:ã}{mg:Str->Option Value}{base:Zi}{f:Addr}{fd:YY}
def pL:FnScope [ad,aI,bz,aS,a7] [ad,aI,bz] (aC (top 50)):=zC
abbrev kA0(P w K mg base):=ċ P w K mg base 1 ee [ad,bv] (spP (CP K) Bm)
def Af(F:Fun K ef ef (top 50) f fd)(B:ĩ mg)(e:kA0 P w K mg base):FnOk P w K mg base CX0 2 f fd [ad,aI,bz] (spP (CP K) R7):=by
 refine F.ok pL iC (λcdv A outer s H vs Q E hr h=>?_);have k:=pL.nd;refine⟨_,Wr.WDSs.h (È (å none (i:=3) k rfl zQ (Ĥ e hr (Đ 0) (À Å Á)))
  (È (ø (ů (Ű (Ķ hr.units (Ã 3) Å) (Ź (ł hr.units (Ã 2) (æ Á))))) (Ô (Û (Î (Ã 2) (Ĥ e hr (Đ 0) (À (ĝ B.len (À (Ã 2) Á)) Á))))) à)
  (È (å none (i:=4) k rfl zQ (Ĥ e hr (Đ 0) (À (Ã 1) Á)))
  (È (ø (ů (Ű (Ķ hr.units (Ã 3) Å) (Ź (Wr.Dh (Ã 1) Å)))) (Ô (Û (ê (À (Ã 4) (À (Wr.sU (Ę (Ã 4) Å) (Ã 1)) Á))))) à)
  (Ô (Û (ê (À (Ã 4) (À (Wr.sU (Ę (Ę (Ã 4) Å) (Ĥ e hr (Đ 0) (À (Wr.dZ (Ã 1) Å) Á))) (Ã 1)) Á))))))))),enterQ h ?_⟩
 rintro ds P ⟨n,ts,rfl,y,v,lt,ok,q⟩;refine⟨[.im (.int n),.sh (.list (ts.map pD)),.any,.any],rfl,?_⟩;refine⟨rfl,4,rfl,∅,∅,λr r0 r1=>?_⟩;have rest:∀s:Int,qx (Ey 4 none (Hz (CP K) Bm 0 (bw (tV 1) fB)))
   (qx (dIf (Q0 (cU (t2 (oZ false) (tV 3) (tK (Â 1)))) (cU (t2 (gI0 λi j=>PyData.bool (decide (j<i))) (tV 1) (tK (Â 2)))))
    (Ez (kO (bw (tV 4) (bw (t2 (gI (λx j=>0<j) λi j=>Â (i % j)) (t2 pU (tV 4) (tK (Â 2))) (tV 1)) fB)))) vV)
   (Ez (kO (bw (tV 4) (bw (t2 (gI (λx j=>0<j) λi j=>Â (i % j)) (t2 pU (t2 pU (tV 4) (tK (Â 1))) (Hz (CP K) Bm 0 (bw (t2 (gI0 λi j=>Â (i - j)) (tV 1) (tK (Â 1))) fB))) (tV 1)) fB)))))
   { nx:=λx=>P PyData.none,rt:=P } [.pen (CP K),.im (.int n),.sh (.list (ts.map pD)),.im (.int s),.any]:=by
  intro s;refine⟨rfl,n,rfl,(),(),λo o0 o1=>?_⟩;have a:∀d:Int,0<=d->d<n - 1->OkT n (o,(o+1+d) % n):=λd d0 d1=>by
   have l:=Int.emod_nonneg (o+1+d) (b:=n) ();have m:=Ů (o+1+d) (b:=n) ();refine⟨⟨o0,o1⟩,⟨l,m⟩,λz=>?_⟩;have z:o=(o+1+d) % n:=z;by_cases hh:o+1+d<n
   ·rw[Int.emod_eq_of_lt () hh]at z;lia
   ·have:(o+1+d) % n=o+1+d - n:=by
     have h2:(o+1+d)=(o+1+d - n)+n:=()
     rw[h2,Int.add_emod_right,Int.emod_eq_of_lt () ()];lia
    lia
  have g:Ez (kO (bw (tV 4) (bw (t2 (gI (λx j=>0<j) λi j=>Â (i % j)) (t2 pU (t2 pU (tV 4) (tK (Â 1))) (Hz (CP K) Bm 0 (bw (t2 (gI0 λi j=>Â (i - j)) (tV 1) (tK (Â 1))) fB))) (tV 1)) fB))) { nx:=λx=>P PyData.none,rt:=P } [.pen (CP K),.im (.int n),.sh (.list (ts.map pD)),.im (.int s),.im (.int o)] :=
   ⟨rfl,n - 1,rfl,(),(),λd d0 d1=>⟨(),zK,rfl,q (o,(o+1+d) % n) (a d d0 d1)⟩⟩
  show if decide (s=1)=true then _ else _
  refine bC (λc=>?_) (λc=>aA (A:=True) g);show if decide (2<n)=true then _ else _
  refine bC (λc=>?_) (λc=>g);have c:=eB c;have u:=a 1 () ();exact⟨(),zK,rfl,q (o,(o+2) % n) (by rw[show o+2=o+1+1 by lia];exact u)⟩
 show if decide (r=0)=true then _ else _
 refine bC (λc=>?_) (λc=>aA (A:=True) (rest r));refine⟨zK,(Qf ts).1,rfl,?_⟩;show if(!(Ü (.list (ts.map pD)) (.list [])))=true then _ else _
 cases ts with
 |nil=>exact aA (A:=True) (rest r)
 |cons t ts =>
  refine au (B:=True) ⟨rfl,_,rfl,?_,?_,λd d0 d1=>?_⟩
  ·show(0:Int)<(⇑((t::ts).map pD):Nat);rw[Ä,ñ];lia
  ·show(⇑((t::ts).map pD):Int)<1073741824;rw[Ä];lia
  ·rw[Ä]at d1;have hk:d.toNat<⇑(t::ts):=()
   have p:d=((d.toNat:Nat):Int):=()
   have z:atI ((t::ts).map pD) ((d.toNat:Nat):Int)=some (pD (t::ts)[d.toNat]):=bF (by rw[Ý,Ë hk];rfl);rw[←p]at z;exact⟨_,z,rfl,q _ (ok _ (ĳ hk))⟩
def rO:FnScope [ad,c9,bE,aI,"_law_turned",cn,"_law_shape","_law_spared",bz,"_law_other",dn,bc] [ad,c9,bE] (aC (top 51)):=zC
def d9:([ag,ah,ad,c9,bE,aI,"_law_turned",cn,"_law_shape","_law_spared",bz,"_law_other",dn,bc]:List Str).Nodup:=⋯
def Dt(F:Fun K "_law_web" "_law_web" (top 51) f fd)(B:ĩ mg)(k:kA0 P w K mg base)(V:ċ P w K mg base 2 ef [ad,aI,bz] (spP (CP K) R7)):FnOk P w K mg base CX0 3 f fd [ad,c9,bE] (spP (CP K) XC):=by
 refine F.ok rO iC (λcdv A outer s H vs Q E hr h=>?_);have C:=rO.nd;refine⟨_,Wr.WDSs.h (È (å none (i:=3) C rfl zQ (Ę Å (Ĥ k hr (Đ 0) (À (Î (æ (À (Ã 1) (À (Ã 2) Á))) (Wr.lY B.int So (À (Ţ hr.units (Ĥ k hr (Đ 0) (À Å Á)) Å) Á))) Á))))
  (È (å (some 0) (i:=4) C rfl zQ (æ Á))
  (È (ĵ ô rfl (Į B.range (À (Ã 3) Á)) (ä (i:=5) C rfl zQ) (È (Wr.pA (Đ 4) (À (Ĥ k hr (Đ 0) (À (Ę (Ã 5) Å) Á)) (À (Ã 5) Á))) (í [5] à)))
  (í [5] (È (å none (i:=6) C rfl zQ (Ĥ k hr (Đ 0) (À Å Á)))
  (È (å none (i:=7) C rfl zQ (Î (æ (À Å (À Å (À Å (À Å Á))))) (Ĥ k hr (Đ 0) (À Å Á))))
  (È (å (some 1) (i:=8) C rfl zQ (æ Á))
  (È (ĵ ô rfl (Wr.pC B.range (À Å (À (Ã 3) Á))) (ä (i:=5) C rfl zQ) (È (å none (i:=9) C rfl zQ (Î (æ (À (Wr.dZ (Ã 5) Å) (À (Ĥ k hr (Đ 0) (À (Ã 5) Á)) (À (Wr.qO rfl B.max (À Å (À (Wr.dZ (Wr.dZ (Ã 5) Å) (Ĥ k hr (Đ 0) (À Å Á))) Á))) (À Å Á))))) (Ã 6)))
  (È (ø (Wr.Di (Ĥ k hr (Đ 0) (À Å Á)) (Ã 7)) (Ô (Ř (Đ 8) (À (ê (À (Ã 9) (À (Ã 5) Á))) Á))) à) (í [5,9] à))))
  (í [5,9] (È (ĵ ô rfl (Į B.range (À (Wr.eV (Ĥ k hr (Đ 0) (À (Î (æ (À Å (À Å (À Å (À Å Á))))) (Ĥ k hr (Đ 0) (À Å Á))) Á)) (Wr.lY B.int So (À (Wr.Gq (Ã 3) Å) Á))) Á)) (ä (i:=10) C rfl zQ) (È (Ř (Đ 8) (À (Ĥ V hr (Đ 0) (À (Ã 3) (À (Ã 8) Á))) Á)) (í [10] à)))
  (í [10] (È (Wr.jy none [ag,ah] (i:=11) rfl C rfl zQ (ħ (Ã 8)) (λc=>(Wr.dH (n:=2) rfl (ė (ä (i:=0) d9 rfl zQ) (ė (ä (i:=1) d9 rfl zQ) ż)))) (λc=>Wr.cH) (λc=>(Wr.gn B.sorted (À (æ (À (Î (Ã 6) (Ã 0)) (À (Î (Ã 6) (Ã 1)) Á))) Á))))
  (Ô (Û (ê (À (Ã 3) (À (Wr.gW B.tuple (À (Wr.sI B.sorted (À (Ś [ag,ah] rfl (ħ (Ã 11)) (λc=>(Wr.Ew (n:=2) rfl (ė (ä (i:=0) d9 rfl zQ) (ė (ä (i:=1) d9 rfl zQ) ż)))) (λc=>Wr.cH) (λc=>(ê (À (Ã 0) (À (Ã 1) Á))))) Á)) Á)) Á))))))))))))))))),enterQ h ?_⟩
 rintro ds P ⟨a,b,rfl,G,I,b1,J,q⟩;refine⟨[.im (.int a),.im (.int b),.any,.any,.any,.any,.any,.any,.any,.any,.any],rfl,?_⟩;refine⟨rfl,zK,rfl,12,rfl,∅,∅,λr r0 r1=>?_⟩;obtain⟨m,m1,m16,L,hm⟩:∃m:Int,1<=m/\m<=16/\(m=a\/m=b)/\atI [Â a,Â b] (if decide (r=11)=true then 1 else 0)=some (.int m):=by
  cases decide (r=11)
  ·exact⟨a,G,I,.inl rfl,rfl⟩
  ·exact⟨b,b1,J,.inr rfl,rfl⟩
 refine⟨.int m,hm,m,rfl,(),(),λx x0 x1=>?_⟩;have S:1<=1+x:=()
 have M:1+x<=m:=()
 show Ey 3 none (λ_ P=>P .imm (.int (1+x))) _ _;generalize 1+x=n at S M;clear hm x0 x1;refine⟨zK,⟨(),()⟩,rfl,λ(i:Nat) ρ=>∃(l:List Int),ρ=[.pen (CP K),.im (.int a),.im (.int b),.im (.int n),.dw 0 (.list (l.map Â)),.any,.any,.any,.any,.any,.any,.any]/\IsOrd i l,⟨[],rfl,rfl,λx hx=>(nomatch hx),.nil⟩,?_,?_⟩
 ·rintro i d ρ hd ⟨l,rfl,hl⟩;let⟨hi,rfl⟩:=bI hd;have O:=hl.len;refine⟨rfl,_,rfl,(),(),λr r0 r1=>⟨rfl,r0,?_,?_,?_⟩⟩
  ·rw[Ä];lia
  ·rw[Ä];lia
  ·refine⟨l.take r.toNat++((i:Nat):Int)::l.drop r.toNat,?_,hl.ins r.toNat⟩;show [Sl.pen (CP K),_,_,_,Sl.dw 0 (.list ((l.map Â).take r.toNat++Â (0+((i:Nat):Int))::(l.map Â).drop r.toNat)),_,_,_,_,_,_,_]=_;rw[î,ö,List.map_take,List.map_drop,Int.zero_add];rfl
 rintro ρ ⟨l,rfl,hl⟩;rw[bD]at hl;rw[show((n.toNat:Nat):Int)=n by lia]at hl;refine⟨rfl,4,rfl,∅,∅,λsh s0 s1=>?_⟩;refine⟨zK,rfl,4,rfl,∅,∅,λp p0 p1=>?_⟩;obtain⟨v,hv⟩:∃v:Int,atI [Â 0,.int 0,.int 1,.int 4] p=some (.int v):=by
  let⟨e,he,z⟩:=CK p0 p1 (.int 0) (.int 0) (.int 1) (.int 4);rcases z with rfl|rfl|rfl|rfl <;> exact⟨_,he⟩
 refine⟨.int v,hv,zK,?_⟩;refine⟨⟨(),(),(),()⟩,rfl,λ(i:Nat) ρ=>∃(ts:List Tie),ρ=[.pen (CP K),.im (.int a),.im (.int b),.im (.int n),.dw 0 (.list (l.map Â)),.any,.im (.int sh),.im (.int v),.dw 1 (.list (ts.map pD)),.any,.any,.any]/\⇑ts<=i/\OkN n ts,⟨[],rfl,Õ _,λt ht=>nomatch ht⟩,?_,?_⟩
 ·rintro i d ρ hd ⟨ts,rfl,lt,ok⟩;let⟨hi,rfl⟩:=bI hd;have R:⇑(ts.map pD)=⇑ts:=Ä ..;refine⟨rfl,1+((i:Nat):Int),rfl,(),(),λx x0 x1=>⟨rfl,2,rfl,∅,∅,λy y0 y1=>⟨zK,?_⟩⟩⟩;obtain⟨o,ho,o0,o1⟩:∃o:Int,atI [Â (1+((i:Nat):Int) - 1),.int x,.int (if 1+((i:Nat):Int) - 1 - y > 0 then 1+((i:Nat):Int) - 1 - y else 0),.int 0] sh=some (.int o)/\0<=o/\o<1+((i:Nat):Int):=by
   let⟨e,he,z⟩:=CK s0 s1 (.int (1+((i:Nat):Int) - 1)) (.int x) (.int (if 1+((i:Nat):Int) - 1 - y > 0 then 1+((i:Nat):Int) - 1 - y else 0)) (.int 0);rcases z with rfl|rfl|rfl|rfl
   ·exact⟨_,he,(),()⟩
   ·exact⟨_,he,(),()⟩
   ·refine⟨_,he,?_,?_⟩ <;> split <;> lia
   ·exact⟨_,he,(),()⟩
  refine⟨.int o,ho,rfl,12,rfl,∅,∅,λz z0 z1=>?_⟩;show if decide (v<=z)=true then _ else _
  refine bC (λc=>⟨zK,rfl,(),ts++[(o,1+((i:Nat):Int))],?_,by rw[Ñ,ì];lia,ok.snoc ⟨⟨o0,()⟩,⟨(),()⟩,λe=>?_⟩⟩) (λc=>⟨ts,rfl,(),ok⟩)
  ·rw[←app1];rfl
  ·have e:o=1+((i:Nat):Int):=e;lia
 rintro ρ ⟨ts,rfl,lt,ok⟩;rw[bD]at lt;have lt:⇑ts<=15:=()
 refine⟨rfl,zK,rfl,4,rfl,∅,∅,λp p0 p1=>?_⟩;obtain⟨c,hc,c0,c1⟩:∃c:Int,atI [Â 1,.int 3,.int 6,.int 25] p=some (.int c)/\1<=c/\c<=25:=by
  let⟨e,he,z⟩:=CK p0 p1 (.int 1) (.int 3) (.int 6) (.int 25);rcases z with rfl|rfl|rfl|rfl
  ·exact⟨1,he,∅,∅⟩
  ·exact⟨3,he,∅,∅⟩
  ·exact⟨6,he,∅,∅⟩
  ·exact⟨25,he,∅,∅⟩
 refine⟨.int c,hc,c,rfl,(),(),λz z0 z1=>?_⟩;obtain⟨g,hg,D,g1⟩:∃g:Int,(if decide (1<n)=true then(1:Int)else 0)=g/\(g=0\/g=1)/\(g=1->2<=n):=by
  by_cases h:1<n
  ·exact⟨1,eD (decide_eq_true h),.inr rfl,λ_=>()⟩
  ·exact⟨0,eH (by rw[eA h];exact Ð),.inl rfl,λz=>()⟩
 have T:0<=z * g/\z * g<=24/\(0<z * g->2<=n):=by
  rcases D with rfl|rfl
  ·rw[Int.mul_zero];lia
  ·rw[Int.mul_one];lia
 show Oe z (if decide (1<n)=true then(1:Int)else 0)/\_;rw[hg];refine⟨.inr (by rcases D with rfl|rfl <;> exact⟨∅,∅⟩),?_⟩;show(-(2 ^ 62)<=z * g/\z * g<2 ^ 62)/\_;generalize z * g=w0 at T;refine⟨⟨(),()⟩,rfl,λ(i:Nat) ρ=>∃(ts:List Tie),ρ=[.pen (CP K),.im (.int a),.im (.int b),.im (.int n),.dw 0 (.list (l.map Â)),.any,.im (.int sh),.im (.int v),.dw 1 (.list (ts.map pD)),.any,.any,.any]/\⇑ts<=15+i/\OkN n ts,⟨ts,rfl,lt,ok⟩,?_,?_⟩
 ·rintro i d ρ hd ⟨ts,rfl,lt,ok⟩;let⟨hi,rfl⟩:=bI hd;have R:⇑(ts.map pD)=⇑ts:=Ä ..;refine⟨rfl,n,ts,rfl,T.2.2 (),(),(),ok,λt ht=>⟨rfl,(),ts++[t],?_,by rw[Ñ,ì];lia,ok.snoc ht⟩⟩;rw[î];rfl
 rintro ρ ⟨ts,rfl,lt,ok⟩;rw[bD]at lt;have lt:⇑ts<=39:=()
 have R:⇑(ts.map pD)=⇑ts:=Ä ..;refine⟨(),.new,λi ys=>∃us:List Tie,ys=us.map lD2/\⇑us=i/\OkW n us,⟨[],rfl,rfl,λt ht=>nomatch ht⟩,?_,?_⟩
 ·rintro i d ys hd ⟨us,rfl,hu,j⟩;let⟨t,ht,rfl⟩:=fJ hd;let⟨⟨U,G⟩,⟨b0,b1⟩,nab⟩:=ok t (Ì ht);let⟨x,Y,xr,xl⟩:=hl.at U G;let⟨y,Z,yr,yl⟩:=hl.at b0 b1;have N:x≠y:=λe=>by
   subst e;have h1:=Ç.mp xl;have h2:=Ç.mp yl;have:=(List.getElem_inj hl.nd (h₀:=h1.1) (h₁:=h2.1)).mp (h1.2.trans h2.2.symm);lia
  refine⟨rfl,au (B:=True) ⟨.int x,Y,.int y,Z,zK,[x,y],rfl,(show 2<64 by decide),λout hp hs=>?_⟩⟩;let⟨u,v,rfl,uv,W,X⟩:=S8 hp hs N;refine⟨rfl,us++[(u,v)],by rw[î];rfl,by rw[Ñ,ì,hu],λw hw=>?_⟩;rcases â.mp hw with z|z
  ·exact j w z
  ·rw[Ê.mp z];exact⟨by rcases W with rfl|rfl <;> lia,uv,by rcases X with rfl|rfl <;> lia⟩
 rintro ys ⟨us,rfl,hu,j⟩;have lu:⇑(us.map lD2)=⇑us:=Ä ..;have hu:⇑us<=39:=()
 refine Eb us lD2 pD .imm rfl () (λt ht A B hA=>⟨rfl,au (B:=B) ⟨zK,rfl,hA⟩⟩) ?_;refine⟨us,.inl rfl,(),λt ht=>⟨by have:=j t ht;lia,by have:=j t ht;lia⟩,λus' hp _=>⟨zK,?_,q n us' S ?_ (by rw[hp.length_eq];lia) λt ht=>j t (hp.mem_iff.mp ht)⟩⟩
 ·have e:=ni n us';show(norm _ (aq n us')).le .n0=true;rw[aN e];rfl
 ·rcases L with rfl|rfl
  ·exact .inl M
  ·exact .inr M
end
inductive Rt(us:List Tie):Int->Int->Prop
 |refl (a:Int):Rt us a a
 |step {a b c:Int} (h:Rt us a b) (t:(b,c)∈us):Rt us a c
def Rt.trans{us:List Tie}{a b c:Int}(h:Rt us a b)(k:Rt us b c):Rt us a c:=by
 induction k with
 |refl=>exact h
 |step _ t d=>exact .step d t
def O4{us vs:List Tie}(h:∀a b,(a,b)∈us->(b,a)∈vs){a b:Int}(r:Rt us a b):Rt vs b a:=by
 induction r with
 |refl=>exact .refl _
 |step _ t c=>exact(Rt.step (.refl _) (h _ _ t)).trans c
def Rt.mono{us vs:List Tie}(h:∀t∈us,t∈vs){a b:Int}(r:Rt us a b):Rt vs a b:=by
 induction r with
 |refl=>exact .refl _
 |step _ t c=>exact .step c (h _ t)
def Rt.sym{us:List Tie}(h:∀a b,(a,b)∈us->(b,a)∈us){a b:Int}(r:Rt us a b):Rt us b a:=O4 h r
def Rt.rng{us:List Tie}{n:Nat}(ok:∀t∈us,0<=t.2/\t.2<n){a b:Int}(h:0<=a/\a<n)(r:Rt us a b):0<=b/\b<n:=by
 cases r with
 |refl=>exact h
 |step _ t=>exact ok _ t
open Classical in
def RZ(us:List Tie)(a b:Int):Bool:=decide (Rt us a b)
def bM{us:List Tie}{a b:Int}:RZ us a b=true↔Rt us a b:=by
 classical
 unfold RZ;exact decide_eq_true_iff
def RB(us:List Tie)(a b:Nat):Bool:=RZ us ((a:Nat):Int) ((b:Nat):Int)
def iK{us:List Tie}{a b:Nat}:RB us a b=true↔Rt us ((a:Nat):Int) ((b:Nat):Int):=bM
def rA(us:List Tie)(a:Nat):RB us a a=true:=iK.mpr (.refl _)
def fH(R:Nat->Nat->Bool)(n a:Nat):List Nat:=(ß n).filter λb=>R a b&&R b a
def jt(R:Nat->Nat->Bool)(n a:Nat):Bool:=decide ((fH R n a).head?=some a)
def zI(l:List Nat):List Int:=l.map λi:Nat=>0+((i:Nat):Int)
def uN(R:Nat->Nat->Bool)(n k:Nat):List (List Int):=(((ß n).take k).filter (jt R n)).map λa=>zI (fH R n a)
def Hq(R:Nat->Nat->Bool)(n k:Nat):⇑(uN R n k)<=n:=by
 unfold uN;rw[Ä];have h1:=ć (jt R n) ((ß n).take k);rw[Ě,Ċ]at h1;lia
def NP(R:Nat->Nat->Bool){n k:Nat}(h:k<n):uN R n (k+1)=uN R n k++if jt R n k=true then [zI (fH R n k)]else []:=by
 unfold uN;have e:(ß n).take (k+1)=(ß n).take k++[k]:=by
  rw[Ĭ,List.getElem?_range h];rfl
 rw[e,Ļ,î];cases a:jt R n k <;> simp[a]
def xZ{l:List Nat}{x:Int}:x∈zI l↔0<=x/\x.toNat∈l:=by
 unfold zI;rw[õ];constructor
 ·rintro⟨i,hi,rfl⟩;rw[show((0+((i:Nat):Int)).toNat)=i by lia];exact⟨(),hi⟩
 ·intro h;exact⟨x.toNat,h.2,()⟩
def xY{n:Nat}{x:Int}:x∈zI (ß n)↔0<=x/\x<n:=by
 rw[xZ,ó];lia
def wA{l:List Nat}(h:l.Pairwise (·<·)):(zI l).Pairwise (·<·):=by
 unfold zI;rw[List.pairwise_map];exact h.imp λh=>()
def rsI(vs:List Tie)(n:Nat)(a:Int):List Int:=(zI (ß n)).filter (RZ vs a)
def cA{vs:List Tie}{n:Nat}{a x:Int}:x∈rsI vs n a↔(0<=x/\x<n)/\Rt vs a x:=by
 unfold rsI;rw[á,xY,bM]
def jJ{vs:List Tie}{n:Nat}{a:Int}:(rsI vs n a).Pairwise (·<·):=(wA List.pairwise_lt_range).filter _
def Kf(vs:List Tie)(n:Nat)(a:Int):⇑(rsI vs n a)<=n:=by
 unfold rsI;have:=ć (RZ vs a) (zI (ß n));unfold zI at this;rw[Ä,Ċ]at this;exact this
def wK{l:List Int}(h:l.Pairwise (·<·)):l.Nodup:=h.imp λh=>()
def vA{out ks l:List Int}(hp:out.Perm ks)(hs:out.Pairwise (·<=·))(hn:ks.Nodup)(hl:l.Pairwise (·<·))(hk:∀q,q∈ks↔q∈l):out=l :=
 W.ksm_same (hp.trans ((List.perm_ext_iff_of_nodup hn (wK hl)).mpr hk)) hs (hl.imp λh=>())
def rT{l k:List Int}(hl:l.Pairwise (·<·))(hk:k.Pairwise (·<·))(h:∀q,q∈l↔q∈k):l=k:=vA (List.Perm.refl _) (hl.imp λh=>()) (wK hl) hk h
def Ro{vs:List Tie}{n:Nat}{a:Int}{out ks:List Int}(hp:out.Perm ks)(hs:out.Pairwise (·<=·))(hn:ks.Nodup)(hk:∀q,q∈ks↔Rt vs a q)(hr:∀q,Rt vs a q->0<=q/\q<n):out=rsI vs n a :=
 vA hp hs hn jJ λq=>by
  rw[cA,hk];exact⟨λh=>⟨hr q h,h⟩,λh=>h.2⟩
def Gf{vs us:List Tie}{n:Nat}{a:Int}(h:∀x,Rt vs a x↔Rt us a x):rsI vs n a=rsI us n a:=rT jJ jJ λq=>by rw[cA,cA,h]
def adj(us:List Tie)(F B:List Int):List Tie:=us.zipIdx.flatMap λp=>if((p.2:Nat):Int)∈F then []else [p.1,(p.1.2,p.1.1)].filter λt=>decide (t.2∉B)
def bG{us:List Tie}{F B:List Int}{x y:Int}:(x,y)∈adj us F B↔∃k:Nat,(us[k]?=some (x,y)\/us[k]?=some (y,x))/\((k:Nat):Int)∉F/\y∉B:=by
 unfold adj;rw[List.mem_flatMap];constructor
 ·rintro⟨⟨t,k⟩,hk,h⟩;have hk:=Ą.mp hk;by_cases a:((k:Nat):Int)∈F
  ·rw[eD a]at h;cases h
  ·rw[eH a,á]at h;let⟨h,b⟩:=h;refine⟨k,?_,a,eB b⟩;rcases Þ.mp h with e|e
   ·left;rw[e];exact hk
   ·right;have e:=Ê.mp e;have c:x=t.2:=eJ Prod.fst e;have d:y=t.1:=eJ Prod.snd e;rw[c,d];exact hk
 ·rintro⟨k,h,a,b⟩;rcases h with h|h
  ·refine⟨((x,y),k),Ą.mpr h,?_⟩;rw[eH a,á];exact⟨Í,decide_eq_true b⟩
  ·refine⟨((y,x),k),Ą.mpr h,?_⟩;rw[eH a,á];exact⟨É _ (Ê.mpr rfl),decide_eq_true b⟩
def yW{us:List Tie}{F B:List Int}{n:Int}(ok:OkN n us)(n0:0<=n):∀t∈adj us F B,(0<=t.1/\t.1<(n.toNat:Nat))/\0<=t.2/\t.2<(n.toNat:Nat):=by
 rintro⟨x,y⟩ h;let⟨k,e,_⟩:=bG.mp h;have a:((n.toNat:Nat):Int)=n:=()
 rcases e with e|e
 ·have o:=ok _ (Ì e);exact⟨by rw[a];exact o.1,by rw[a];exact o.2.1⟩
 ·have o:=ok _ (Ì e);exact⟨by rw[a];exact o.2.1,by rw[a];exact o.1⟩
def Ht{us:List Tie}{F:List Int}:∀a b,(a,b)∈adj us F []->(b,a)∈adj us F []:=λa b h=>by
 let⟨k,e,c,_⟩:=bG.mp h;exact bG.mpr ⟨k,e.symm,c,λz=>nomatch z⟩
def OkW.okN{n:Int}{us:List Tie}(h:OkW n us):OkN n us:=λt ht=>by
 have:=h t ht;exact⟨⟨(),()⟩,⟨(),()⟩,()⟩
def gM(x a b:Int):([Â a,.int b].any λe=>Ü e (.int x))=decide (x=a\/x=b):=by
 show(a==x || (b==x || false))=_;rw[Ė];simp;lia
def gB{n:Nat}{l:List Int}(a:l.Nodup)(h:∀x∈l,0<=x/\x<n):⇑l<=n:=by
 induction n generalizing l with
 |zero=>cases l with
  |nil=>exact Õ _
  |cons x l=>have:=h x (Í ..);lia
 |succ n ih =>
  by_cases e:((n:Nat):Int)∈l
  ·have z:=ih (a.erase ((n:Nat):Int)) λx hx=>by
    have:=h x (List.mem_of_mem_erase hx);have:x≠((n:Nat):Int):=(a.mem_erase_iff.mp hx).1;lia
   rw[List.length_erase_of_mem e]at z;lia
  ·have z:=ih a λx hx=>by
    have:=h x hx;have:x≠((n:Nat):Int):=λw=>e (w ▸ hx);lia
   lia
structure Fd(n:Nat)(es:List Tie)(a:Int)(l:List Int)(at':Nat):Prop where
 nd:l.Nodup
 rng:∀x∈l,0<=x/\x<n
 st:a∈l
 rt:∀x∈l,Rt es a x
 cl:∀(j:Nat)(x:Int),j<at'->l[j]?=some x->∀y,(x,y)∈es->y∈l
def Fd.add{n:Nat}{es:List Tie}{a:Int}{l:List Int}{i:Nat}(h:Fd n es a l i)(hi:i<=⇑l){x y:Int}(b:x∈l)(t:(x,y)∈es)(c:0<=y/\y<n)(d:y∉l):Fd n es a (l++[y]) i:=by
 refine⟨ŵ.mpr ⟨h.nd,by simp,λz hz w hw=>by rw[Ê.mp hw];rintro rfl;exact d hz⟩,λz hz=>?_,é _ h.st,λz hz=>?_,λj z hj hz w hw=>?_⟩
 ·rcases â.mp hz with z|z
  ·exact h.rng _ z
  ·rw[Ê.mp z];exact c
 ·rcases â.mp hz with z|z
  ·exact h.rt _ z
  ·rw[Ê.mp z];exact .step (h.rt x b) t
 ·rw[ù ()]at hz;exact é _ (h.cl j z hj hz w hw)
theorem Fd.all{n:Nat}{es:List Tie}{a:Int}{l:List Int}{i:Nat}(h:Fd n es a l i)(hi:⇑l<=i):∀x,x∈l↔Rt es a x:=λx=>by
 refine⟨h.rt x,λr=>?_⟩;induction r with
 |refl=>exact h.st
 |step r t ih =>
  let⟨j,b⟩:=ģ ih;have:=(Ç.mp b).1;exact h.cl j _ () b _ t
def XQ:FF:=λds P=>∃n us a F B,ds=[aq n us,.int a,iD F,iD B]/\1<=n/\n<=16/\⇑us<=60/\OkN n us/\0<=a/\a<n/\P (iD (rsI (adj us F B) n.toNat a))
section
variable{P:Zc}{w:Zd}{K:ã}{mg:Str->Option Value}{base:Zi}{f:Addr}{fd:YY}
def Dw(F:Fun K "_law_met" "_law_met" (top 52) f fd)(B:ĩ mg)(T:mg cq=none)(S:mg "sum"=none):FnOk P w K mg base CX0 1 f fd [aa,dP,dq,dr] (spD XQ):=by
 refine okT F (N:=[aa,dP,dq,dr,bc,"_law_at",cn,"_law_tie_here","_law_there"]) zC (λhr nd=>È (å (some 0) (i:=4) nd rfl zQ (æ (À (Ã 1) Á)))
  (È (å none (i:=5) nd rfl zQ Å)
  (È (Wr.jx ô (Wr.gR (Ã 5) (ĝ B.len (À (Ã 4) Á))) (È (ĵ ô rfl (Wr.nH T (À (Î (Ã 0) Å) Á)) (Wr.dH (n:=2) rfl (ė (ä (i:=6) nd rfl zQ) (ė (ä (i:=7) nd rfl zQ) ż))) (È (å none (i:=8) nd rfl zQ (Wr.dZ (Wr.qM rfl S (À (Ã 7) Á)) (Î (Ã 4) (Ã 5))))
  (È (ø (ů (Ű (Wr.eU hr.units (Î (Ã 4) (Ã 5)) (Ã 7)) (Ű (ĭ hr.units (Ã 6) (Ã 2)) (Ű (ĭ hr.units (Ã 8) (Ã 4)) (Ź (ĭ hr.units (Ã 8) (Ã 3))))))) (Ô (Ř (Đ 4) (À (Ã 8) Á))) à) (í [6,7,8] à))))
  (í [6,7,8] (È (å none (i:=5) nd rfl zQ (Ę (Ã 5) Å)) (í [6,7,8] à)))))
  (í [5,6,7,8] (Ô (Û (Wr.gn B.sorted (À (Ã 4) Á)))))))) ?_
 rintro ds P ⟨n,us,a,F,B,rfl,n1,W,lu,ok,R,a1,q⟩;refine⟨[.im (aq n us),.im (.int a),.sh (iD F),.sh (iD B),.any,.any,.any,.any,.any],?_,?_⟩
 ·show [aV (aq n us),.im (.int a),.sh (iD F),.sh (iD B),.any,.any,.any,.any,.any]=_;rw[fO]
 have M:=yW (F:=F) (B:=B) ok ();refine⟨zK,λQ ρ=>∃(l:List Int)(i:Nat),ρ=[.im (aq n us),.im (.int a),.sh (iD F),.sh (iD B),.dw 0 (iD l),.im (.int ((i:Nat):Int)),.any,.any,.any]/\Fd n.toNat (adj us F B) a l i/\i<=⇑l/\Q=17 - i,⟨_,[a],0,rfl,?_,Ă _,rfl⟩,?_⟩
 ·exact⟨by simp,λx D=>by rw[Ê.mp D];lia,by simp,λx D=>by rw[Ê.mp D];exact .refl _,λj x hj=>eI hj (Nat.not_lt_zero _)⟩
 rintro Q ρ ⟨l,i,rfl,h,hi,rfl⟩;have ll:⇑(l.map Â)=⇑l:=Ä ..;have U:=gB h.nd h.rng;show if decide (((i:Nat):Int)<(⇑(l.map Â):Nat))=true then _ else _
 refine bC (λc=>?_) (λc=>?_)
 ·have c:=eB c;have J:i<⇑l:=()
  have D:=Ë J;generalize l[i]=x at D;refine⟨.tuple (us.map pD),rfl,rfl,λ(j:Nat) ρ=>∃g:List Int,ρ=[.im (aq n us),.im (.int a),.sh (iD F),.sh (iD B),.dw 0 (iD g),.im (.int ((i:Nat):Int)),.any,.any,.any]/\Fd n.toNat (adj us F B) a g i/\i<⇑g/\g[i]?=some x/\∀k:Nat,k<j->∀y,(us[k]?=some (x,y)\/us[k]?=some (y,x))->((k:Nat):Int)∉F->y∉B->y∈g,⟨l,rfl,h,J,D,λk hk=>eI hk (Nat.not_lt_zero _)⟩,?_,?_⟩
  ·rintro j d ρ hd ⟨g,rfl,h',v,o,p⟩;rw[dF,Ý]at hd;obtain⟨t,ht,rfl⟩:∃t,us[j]?=some t/\ő [.int ((j:Nat):Int),pD t]=d:=by
    cases e:us[j]? with
    |none=>rw[e]at hd;cases hd
    |some t=>rw[e]at hd;exact⟨t,rfl,Ö hd⟩
   let⟨⟨o1,o2⟩,⟨o3,o4⟩,o5⟩:=ok t (Ì ht);have E:atI (g.map Â) ((i:Nat):Int)=some (.int x):=bF (by rw[Ý,o];rfl);have L:=Ì o;have V:⇑(g.map Â)=⇑g:=Ä ..;have I:=gB h'.nd h'.rng;refine⟨rfl,[t.1,t.2],rfl,zK,λy b=>?_,.int x,E,?_⟩
   ·rcases Þ.mp b with rfl|b
    ·lia
    ·rw[Ê.mp b];lia
   rw[show [t.1,t.2].sum=t.1+t.2 by simp];have m:(∀y,(t=(x,y)\/t=(y,x))->((j:Nat):Int)∉F->y∉B->y∈g)->∃l'':List Int,([.im (aq n us),.im (.int a),.sh (iD F),.sh (iD B),.dw 0 (iD g),.im (.int ((i:Nat):Int)),.any,.any,.any]:List Sl)=[.im (aq n us),.im (.int a),.sh (iD F),.sh (iD B),.dw 0 (iD l''),.im (.int ((i:Nat):Int)),.any,.any,.any]/\Fd n.toNat (adj us F B) a l'' i/\i<⇑l''/\l''[i]?=some x/\∀k:Nat,k<j+1->∀y,(us[k]?=some (x,y)\/us[k]?=some (y,x))->((k:Nat):Int)∉F->y∉B->y∈l'':=λz=>by
    refine⟨g,rfl,h',v,o,λk hk y b u s=>?_⟩;by_cases e:k=j
    ·subst e;rw[ht]at b;exact z y (b.imp Ö Ö) u s
    ·exact p k () y b u s
   refine⟨.int x,E,rfl,rfl,?_⟩;show if([Â t.1,.int t.2].any λe=>Ü e (.int x))=true then _ else _
   rw[gM];refine bC (λG=>?_) (λG=>aA (A:=True) (m λy b _ _=>?_))
   ·refine⟨rfl,ń F,?_⟩;show if(!((F.map Â).any λe=>Ü e (.int ((j:Nat):Int))))=true then _ else _
    rw[Ć];refine bC (λc2=>?_) (λc2=>aA (A:=True) (m λy _ u _=>?_))
    ·refine⟨rfl,ń g,?_⟩;show if(!((g.map Â).any λe=>Ü e (.int (t.1+t.2 - x))))=true then _ else _
     rw[Ć];have G:=eB G;have C:∀y,(t=(x,y)\/t=(y,x))->y=t.1+t.2 - x:=λy b=>by
      rcases b with rfl|rfl
      ·show y=x+y - x;lia
      ·show y=y+x - x;lia
     refine bC (λc3=>?_) (λc3=>aA (A:=True) (m λy b _ _=>?_))
     ·refine⟨rfl,ń B,?_⟩;show if(!((B.map Â).any λe=>Ü e (.int (t.1+t.2 - x))))=true then _ else _
      rw[Ć];refine bC (λc4=>?_) (λc4=>m λy b _ s=>?_)
      ·have X:((j:Nat):Int)∉F:=by simpa using c2
       have Y:t.1+t.2 - x∉g:=by simpa using c3
       have Z:t.1+t.2 - x∉B:=by simpa using c4
       have O:(x,t.1+t.2 - x)∈adj us F B:=bG.mpr ⟨j,by
        rw[ht];rcases G with rfl|rfl
        ·left;rw[show t.1+t.2 - t.1=t.2 by lia]
        ·right;rw[show t.1+t.2 - t.2=t.1 by lia],X,Z⟩
       refine⟨rfl,(),g++[t.1+t.2 - x],?_,h'.add () L O (M _ O).2 Y,by rw[Ñ];lia,by rw[ù v];exact o,λk hk y b u s=>?_⟩
       ·unfold iD;rw[î];rfl
       ·by_cases e:k=j
        ·subst e;rw[ht]at b;rw[C y (b.imp Ö Ö)];exact ç _ (Ê.mpr rfl)
        ·exact é _ (p k () y b u s)
      ·rw[C y b]at s;exact eI (by simpa using c4) s
     ·rw[C y b];simpa using c3
    ·exact eI (by simpa using c2) u
   ·refine eI (decide_eq_true ?_) G;rcases b with rfl|rfl
    ·exact .inl rfl
    ·exact .inr rfl
  ·rintro ρ ⟨g,rfl,h',v,o,p⟩;rw[cY,Ä]at p;have I:=gB h'.nd h'.rng;refine⟨17 - (i+1),(),g,i+1,rfl,⟨h'.nd,h'.rng,h'.st,h'.rt,λk z hk hz y b=>?_⟩,(),rfl⟩;by_cases e:k=i
   ·subst e;rw[o]at hz;cases hz;let⟨k,e,u,s⟩:=bG.mp b;have:k<⇑us:=by rcases e with e|e <;> exact(Ç.mp e).1
    exact p k this y e u s
   ·exact h'.cl k z () hz y b
 ·have c:¬((i:Nat):Int)<(⇑(l.map Â):Nat):=λz=>c (decide_eq_true z);have H:=h.all ();refine⟨l,rfl,(),λout hp hs=>⟨rfl,?_⟩⟩;rw[Ro hp hs h.nd H (λx r=>r.rng (λt ht=>(M t ht).2) ⟨R,()⟩)];exact q
abbrev Put:=Int×Tie
def rowOf(ps:List Put)(p:Nat):List Tie:=(ps.filter λq=>decide (q.1=((p:Nat):Int))).map (·.2)
def stOf(n:Nat)(ps:List Put):List (List Tie):=(ß n).map (rowOf ps)
def edg(ps:List Put):List Tie:=ps.map λq=>(q.1,q.2.1)
structure PutsOk(n:Nat)(ps:List Put):Prop where
 few:⇑ps<=200
 rng:∀q∈ps,(0<=q.1/\q.1<n)/\0<=q.2.1/\q.2.1<n
def gO(n:Nat)(ps:List Put):⇑(stOf n ps)=n:=by
 unfold stOf;rw[Ä,Ċ]
def wH{n p:Nat}(ps:List Put)(h:p<n):(stOf n ps)[p]?=some (rowOf ps p):=by
 unfold stOf;rw[Ý,List.getElem?_range h];rfl
def Gx{ps:List Put}{p:Nat}{t:Tie}:t∈rowOf ps p↔(((p:Nat):Int),t)∈ps:=by
 unfold rowOf;rw[õ];constructor
 ·rintro⟨q,a,rfl⟩;let⟨h1,h2⟩:=á.mp a;have h2:q.1=((p:Nat):Int):=eB h2;rw[←h2];exact h1
 ·intro h;exact⟨_,á.mpr ⟨h,decide_eq_true rfl⟩,rfl⟩
def lM(ps:List Put)(p:Nat):⇑(rowOf ps p)<=⇑ps:=by
 unfold rowOf;rw[Ä];exact ć _ _
def Kh(ps:List Put)(q:Put)(p:Nat):rowOf (ps++[q]) p=if q.1=((p:Nat):Int)then rowOf ps p++[q.2]else rowOf ps p:=by
 unfold rowOf;rw[Ļ,î];by_cases h:q.1=((p:Nat):Int)
 ·rw[eD h,ī (by exact decide_eq_true h)];rfl
 ·rw[eH h,ŝ (by rw[eA h];exact Ð)];exact ě _
def Oz{n:Nat}{ps:List Put}{q:Put}(h:0<=q.1/\q.1<n):(stOf n ps).set q.1.toNat (rowOf ps q.1.toNat++[q.2])=stOf n (ps++[q]):=by
 refine List.ext_getElem? λi=>?_;by_cases hi:i<n
 ·rw[wH _ hi,Kh];by_cases e:q.1.toNat=i
  ·rw[e,đ (by rw[gO];exact hi),eD ()]
  ·rw[Ŋ e,wH _ hi,eH ()]
 ·rw[List.getElem?_eq_none (by rw[List.length_set,gO];lia),List.getElem?_eq_none (by rw[gO];lia)]
def Cz(n:Nat):stOf n []=Ú n []:=by
 refine List.eq_replicate_iff.mpr ⟨gO _ _,λb hb=>?_⟩;let⟨p,_,rfl⟩:=õ.mp hb;rfl
def stD(S:List (List Tie)):D:=.list (S.map λts=>.list (ts.map pD))
def rP(S:List (List Tie)):List (List D):=S.map λts=>ts.map pD
def CG(S:List (List Tie)):ĉ ((rP S).map ĉ)=stD S:=by
 unfold rP stD;rw[Ī];rfl
def Tw(S:List (List Tie))(k:Nat)(l:List Tie)(u:Tie):(rP S).set k (l.map pD++[pD u])=rP (S.set k (l++[u])):=by
 unfold rP;rw[List.map_set,î];rfl
def rY{n p:Nat}(ps:List Put)(h:p<n):(rP (stOf n ps))[p]?=some ((rowOf ps p).map pD):=by
 unfold rP;rw[Ý,wH ps h];rfl
def lO{n:Nat}{ps:List Put}{q:Put}(h:0<=q.1/\q.1<n):(rP (stOf n ps)).set q.1.toNat ((rowOf ps q.1.toNat).map pD++[pD q.2])=rP (stOf n (ps++[q])):=by
 rw[Tw,Oz h]
def Hu{us:List Tie}{x y:Int}:(x,y)∈adj us [] []↔((x,y)∈us\/(y,x)∈us):=by
 rw[bG];constructor
 ·rintro⟨k,e|e,_⟩
  ·exact .inl (Ì e)
  ·exact .inr (Ì e)
 ·rintro(e|e)
  ·let⟨k,hk⟩:=ģ e;exact⟨k,.inl hk,ò,ò⟩
  ·let⟨k,hk⟩:=ģ e;exact⟨k,.inr hk,ò,ò⟩
def jQ{ps:List Put}{x y:Int}:(x,y)∈edg ps↔∃k,(x,(y,k))∈ps:=by
 unfold edg;rw[õ];constructor
 ·rintro⟨⟨p,b,k⟩,a,e⟩;cases e;exact⟨k,a⟩
 ·rintro⟨k,h⟩;exact⟨_,h,rfl⟩
def aB(m:IM):List Int:=m.map (·.1)
def dN{m:IM}{k:Int}:cC m k=true↔k∈aB m:=by
 unfold cC aB;rw[Ŕ,õ];constructor
 ·rintro⟨p,hp,e⟩;exact⟨p,hp,eB e⟩
 ·rintro⟨p,hp,e⟩;exact⟨p,hp,decide_eq_true e⟩
def Mr{m:IM}{k:Int}(h:cC m k=false):k∉aB m:=λz=>by rw[dN.mpr z]at h;cases h
def wL{m:IM}{k:Int}{d:D}(h:cC m k=false):d8 m k d=m++[(k,d)]:=by
 unfold d8;rw[h];rfl
inductive Cm(ps:List Put)(a:Int):IM->Prop
 |base:Cm ps a [(a,.none)]
 |snoc {m:IM}{x p k:Int} (h:Cm ps a m) (hp:p∈aB m) (hx:x∉aB m) (j:(p,(x,k))∈ps):Cm ps a (m++[(x,.tuple [.int p,.int k])])
structure Sr(n:Nat)(ps:List Put)(a:Int)(m:IM)(open':Int->Prop):Prop where
 im:uh m=true
 nd:(aB m).Nodup
 rng:∀x∈aB m,0<=x/\x<n
 st:a∈aB m
 rt:∀x∈aB m,Rt (edg ps) a x
 cl:∀x∈aB m,open' x\/∀b,(x,b)∈edg ps->b∈aB m
 cm:Cm ps a m
def Sr.few{n:Nat}{ps:List Put}{a:Int}{m:IM}{o:Int->Prop}(h:Sr n ps a m o):⇑m<=n:=by
 have:=gB h.nd h.rng;unfold aB at this
 rwa [Ä]at this
theorem Sr.all{n:Nat}{ps:List Put}{a:Int}{m:IM}(h:Sr n ps a m λ_=>False):∀x,cC m x=true↔Rt (edg ps) a x:=λx=>by
 rw[dN];refine⟨h.rt x,λr=>?_⟩;induction r with
 |refl=>exact h.st
 |step r t b=>exact(h.cl _ b).elim Ÿ λz=>z _ t
def Sr.add{n:Nat}{ps:List Put}{a x c k:Int}{m:IM}{o o':Int->Prop}(h:Sr n ps a m o)(jn:(x,(c,k))∈ps)(i:x∈aB m)(hc:0<=c/\c<n)(g:cC m c=false)(l:∀y,o y->o' y)(j:o' c):Sr n ps a (d8 m c (.tuple [.int x,.int k])) o':=by
 have t:(x,c)∈edg ps:=jQ.mpr ⟨k,jn⟩;generalize f:ő [.int x,.int k]=d;have hd:cM d=true:=by rw[←f];rfl
 have kk:aB (m++[(c,d)])=aB m++[c]:=by unfold aB;rw[î];rfl
 rw[wL g];refine⟨?_,?_,?_,?_,?_,?_,by rw[←f];exact .snoc h.cm i (Mr g) jn⟩
 ·have:=h.im;unfold uh at this ⊢;rw[List.all_append,this];show(true&&(cM d&&true))=true;rw[hd];rfl
 ·rw[kk];exact ŵ.mpr ⟨h.nd,by simp,λy e z hz=>by rw[Ê.mp hz];rintro rfl;exact Mr g e⟩
 ·rw[kk];intro y e;rcases â.mp e with z|z
  ·exact h.rng y z
  ·rw[Ê.mp z];exact hc
 ·rw[kk];exact é _ h.st
 ·rw[kk];intro y e;rcases â.mp e with z|z
  ·exact h.rt y z
  ·rw[Ê.mp z];exact .step (h.rt x i) t
 ·rw[kk];intro y e;rcases â.mp e with z|z
  ·exact(h.cl y z).imp (l y) λq b hb=>é _ (q b hb)
  ·rw[Ê.mp z];exact .inl j
def Sr.wk{n:Nat}{ps:List Put}{a:Int}{m:IM}{o o':Int->Prop}(h:Sr n ps a m o)(f:∀x∈aB m,o x->o' x\/∀b,(x,b)∈edg ps->b∈aB m):Sr n ps a m o' :=
 ⟨h.im,h.nd,h.rng,h.st,h.rt,λx hx=>(h.cl x hx).elim (f x hx) .inr,h.cm⟩
def visit(y:Int)(st:IM×List Int)(t:Tie):IM×List Int:=if cC st.1 t.1=true then st else(d8 st.1 t.1 (.tuple [.int y,.int t.2]),st.2++[t.1])
def visits(ps:List Put)(st:IM×List Int)(y:Int):IM×List Int:=(rowOf ps y.toNat).foldl (visit y) st
def HF(ps:List Put):Nat->IM->List Int->IM
 |0,m,_=>m
 |_+1,m,[]=>m
 |k+1,m,x::r=>HF ps k ((x::r).foldl (visits ps) (m,[])).1 ((x::r).foldl (visits ps) (m,[])).2
def srM(n:Nat)(ps:List Put)(a:Int):IM:=HF ps (2 * n+2) [(a,.none)] [a]
structure VI(n:Nat)(ps:List Put)(a:Int)(k:Nat)(R rest:List Int)(y:Int)(st:IM×List Int):Prop where
 sr:Sr n ps a st.1 (λz=>(z∈st.2\/z∈rest)\/z=y)
 row:∀z∈R,z∈aB st.1
 la:∀z∈st.2,z∈aB st.1
 len:⇑st.1=k+⇑st.2
 me:y∈aB st.1
def VI.one{n:Nat}{ps:List Put}{a:Int}{k:Nat}{R rest:List Int}{y:Int}{st:IM×List Int}(ok:PutsOk n ps)(h:VI n ps a k R rest y st){t:Tie}(ht:(y,t)∈ps):VI n ps a k R rest y (visit y st t)/\t.1∈aB (visit y st t).1/\∀z∈aB st.1,z∈aB (visit y st t).1:=by
 unfold visit;cases hb:cC st.1 t.1 with
 |true =>
  rw[eD rfl];exact⟨h,dN.mp hb,λz hz=>hz⟩
 |false =>
  rw[eH Ð];have kk:aB (d8 st.1 t.1 (.tuple [.int y,.int t.2]))=aB st.1++[t.1]:=by
   rw[wL hb];unfold aB;rw[î];rfl
  have b:∀z∈aB st.1,z∈aB (d8 st.1 t.1 (.tuple [.int y,.int t.2])):=λz hz=>by rw[kk];exact é _ hz
  have own:t.1∈aB (d8 st.1 t.1 (.tuple [.int y,.int t.2])):=by rw[kk];exact ç _ (Ê.mpr rfl)
  refine⟨⟨h.sr.add (x:=y) ht h.me (ok.rng _ ht).2 hb (λz hz=>?_) (.inl (.inl (ç _ (Ê.mpr rfl)))),λz hz=>b z (h.row z hz),λz hz=>?_,?_,b y h.me⟩,own,b⟩
  ·rcases hz with(z|z)|z
   ·exact .inl (.inl (é _ z))
   ·exact .inl (.inr z)
   ·exact .inr z
  ·rcases â.mp hz with z|z
   ·exact b _ (h.la _ z)
   ·rw[Ê.mp z];exact own
  ·have:=h.len;rw[wL hb,Ñ,Ñ];show ⇑st.1+1=k+(⇑st.2+1)
   lia
theorem VI.many{n:Nat}{ps:List Put}{a:Int}{k:Nat}{R rest:List Int}{y:Int}(ok:PutsOk n ps):∀(ts:List Tie) {st:IM×List Int},(∀t∈ts,(y,t)∈ps)->VI n ps a k R rest y st->VI n ps a k R rest y (ts.foldl (visit y) st)/\(∀t∈ts,t.1∈aB (ts.foldl (visit y) st).1)/\∀z∈aB st.1,z∈aB (ts.foldl (visit y) st).1
 |[],st,_,h=>⟨h,(λt ht=>nomatch ht),λz hz=>hz⟩
 |t::ts,st,hp,h=>by
  let⟨h1,h2,e⟩:=h.one ok (hp t Í);let⟨c,d,b⟩:=VI.many ok ts (λu hu=>hp u (É _ hu)) h1;refine⟨c,λu hu=>?_,λz hz=>b z (e z hz)⟩;rcases Þ.mp hu with rfl|hu
  ·exact b _ h2
  ·exact d u hu
structure WI(n:Nat)(ps:List Put)(a:Int)(k:Nat)(R rest:List Int)(st:IM×List Int):Prop where
 sr:Sr n ps a st.1 (λz=>z∈st.2\/z∈rest)
 row:∀z∈R,z∈aB st.1
 la:∀z∈st.2,z∈aB st.1
 len:⇑st.1=k+⇑st.2
def WI.into{n:Nat}{ps:List Put}{a:Int}{k:Nat}{R rest:List Int}{y:Int}{st:IM×List Int}(h:WI n ps a k R (y::rest) st)(c:y∈R):VI n ps a k R rest y st:=⟨h.sr.wk λz _ b=>.inl (by
 rcases b with b|b
 ·exact .inl (.inl b)
 ·rcases Þ.mp b with e|e
  ·exact .inr e
  ·exact .inl (.inr e)),h.row,h.la,h.len,h.row y c⟩
def Kl{ps:List Put}{y:Int}(a:0<=y):∀t∈rowOf ps y.toNat,(y,t)∈ps:=λt ht=>by
 have:=Gx.mp ht
 rwa [show((y.toNat:Nat):Int)=y by lia]at this
def WI.next{n:Nat}{ps:List Put}{a:Int}{k:Nat}{R rest:List Int}{y:Int}{st:IM×List Int}(ok:PutsOk n ps)(h:WI n ps a k R (y::rest) st)(e:y∈R):WI n ps a k R rest (visits ps st y):=by
 have g:=h.sr.rng y (h.row y e);let⟨c,f,i⟩:=(h.into e).many ok (rowOf ps y.toNat) (Kl g.1);unfold visits;refine⟨c.sr.wk λz hz hz'=>?_,c.row,c.la,c.len⟩;rcases hz' with d|d
 ·exact .inl d
 ·right;intro b hb;rw[d]at hb;let⟨k,hk⟩:=jQ.mp hb;refine f (b,k) (Gx.mpr ?_)
  rwa [show((y.toNat:Nat):Int)=y by lia]
theorem WI.many{n:Nat}{ps:List Put}{a:Int}{k:Nat}{R:List Int}(ok:PutsOk n ps):∀(l rest:List Int) {st:IM×List Int},(∀y∈l,y∈R)->WI n ps a k R (l++rest) st->WI n ps a k R rest (l.foldl (visits ps) st)
 |[],rest,st,_,h=>h
 |y::l,rest,st,hl,h=>WI.many ok l rest (λz hz=>hl z (É _ hz)) (h.next ok (hl y Í))
def WI.start{n:Nat}{ps:List Put}{a:Int}{m:IM}{R:List Int}(h:Sr n ps a m (·∈R))(hr:∀x∈R,x∈aB m):WI n ps a ⇑m R R (m,[]):=⟨h.wk λx _ hx=>.inl (.inr hx),hr,(λy hy=>nomatch hy),rfl⟩
def WI.at{n:Nat}{ps:List Put}{a:Int}{m:IM}{R:List Int}(ok:PutsOk n ps)(h:Sr n ps a m (·∈R))(hr:∀x∈R,x∈aB m)(i:Nat):WI n ps a ⇑m R (R.drop i) ((R.take i).foldl (visits ps) (m,[])) :=
 WI.many ok (R.take i) (R.drop i) (λy hy=>ň hy) (by rw[List.take_append_drop];exact WI.start h hr)
def mes(n:Nat)(m:IM)(R:List Int):Nat:=2 * (n - ⇑m)+(if R=[]then 0 else 1)
def WI.less{n:Nat}{ps:List Put}{a:Int}{m:IM}{R:List Int}{st:IM×List Int}(h:WI n ps a ⇑m R [] st)(d:R≠[]):mes n st.1 st.2<mes n m R:=by
 have c:=h.sr.few;have b:=h.len;unfold mes;rw[eH d];by_cases e:st.2=[]
 ·rw[e]at b;rw[eD e];have b:⇑st.1=⇑m+0:=b;lia
 ·rw[eH e];have:=ŀ.mpr e;lia
def WI.done{n:Nat}{ps:List Put}{a:Int}{m:IM}{R:List Int}{st:IM×List Int}(h:WI n ps a ⇑m R [] st):Sr n ps a st.1 (·∈st.2):=h.sr.wk λz _ hz=>.inl (hz.elim id λq=>nomatch q)
theorem FT{n:Nat}{ps:List Put}{a:Int}(ok:PutsOk n ps):∀(k:Nat)(m:IM)(R:List Int),mes n m R<=k->Sr n ps a m (·∈R)->(∀x∈R,x∈aB m)->Sr n ps a (HF ps k m R) λ_=>False
 |k,m,[],_,h,_=>by
  have e:HF ps k m []=m:=by cases k <;> rfl
  rw[e];exact h.wk λz _ hz=>nomatch hz
 |0,m,x::r,hk,_,_=>by
  unfold mes at hk;rw[eH (λz=>nomatch z)]at hk;lia
 |k+1,m,x::r,hk,h,hr=>by
  have W:=WI.at ok h hr ⇑(x::r);rw[List.drop_length,Ĳ]at W;have l:=W.less (λz=>nomatch z);exact FT ok k _ _ () W.done W.la
def zJ{n:Nat}{ps:List Put}{a:Int}(b:0<=a)(c:a<n):Sr n ps a [(a,.none)] (·∈[a]):=by
 refine⟨rfl,by simp[aB],λx hx=>?_,by simp[aB],λx hx=>?_,λx hx=>.inl ?_,.base⟩
 ·have e:x=a:=by simpa[aB]using hx
  lia
 ·have e:x=a:=by simpa[aB]using hx
  rw[e];exact .refl _
 ·have e:x=a:=by simpa[aB]using hx
  rw[e];exact Ê.mpr rfl
def vM(a:Int):∀x∈[a],x∈aB [(a,PyData.none)]:=λx hx=>by
 rw[Ê.mp hx];simp[aB]
def kW{n:Nat}{ps:List Put}{a:Int}(ok:PutsOk n ps)(b:0<=a)(c:a<n):Sr n ps a (srM n ps a) λ_=>False:=FT ok _ _ _ (by
 unfold mes;rw[eH (λz=>nomatch z)];show 2 * (n - 1)+1<=2 * n+2;lia) (zJ b c) (vM a)
def Hf:FF:=λds P=>∃n ps a,ds=[stD (stOf n ps),.int a]/\n<=100/\PutsOk n ps/\0<=a/\a<n/\P (.dict (kvD (srM n ps a)))
def Ie(F:Fun K "search" "search" (top 12) f fd)(B:ĩ mg):FnOk P w K mg base CX0 1 f fd [cK,bd] (spD Hf):=by
 refine okT F (N:=[cK,bd,"came","row","later",am,"step"]) zC (λhr nd=>È (å (some 0) (i:=2) nd rfl zQ (Wr.sW (Ã 1) ŗ))
  (È (å none (i:=3) nd rfl zQ (æ (À (Ã 1) Á)))
  (È (Wr.jx ô (Wr.qK (Ã 3)) (È (å (some 1) (i:=4) nd rfl zQ (æ Á))
  (È (ĵ ô rfl (ħ (Ã 3)) (ä (i:=5) nd rfl zQ) (È (ĵ ô rfl (ħ (Î (Ã 0) (Ã 5))) (ä (i:=6) nd rfl zQ) (È (ø (Wr.eO hr.units (Î (Ã 6) Å) (Ã 2)) (È (Wr.q9 hr.units (Đ 2) (Î (Ã 6) Å) (ê (À (Ã 5) (À (Î (Ã 6) Å) Á))))
  (Ô (Ř (Đ 4) (À (Î (Ã 6) Å) Á)))) à) (í [6] à))) (í [5,6] à)))
  (í [5,6] (Wr.Er 4 (È (å none (i:=3) nd rfl zQ (Ã 4)) (í [4,5,6] à)))))))
  (í [3,4,5,6] (Ô (Û (Ã 2))))))) ?_
 rintro ds P ⟨n,ps,a,rfl,O,ok,H,I,q⟩;refine⟨[.sh (stD (stOf n ps)),.im (.int a),.any,.any,.any,.any,.any],rfl,?_⟩;refine⟨rfl,zK,?_⟩;refine⟨λD ρ=>∃(m:IM)(row:List Int)(b:Nat),ρ=[.sh (stD (stOf n ps)),.im (.int a),.dw 0 (.dict (kvD m)),.sn (iD row),.any,.any,.any]/\Sr n ps a m (·∈row)/\(∀x∈row,x∈aB m)/\D=mes n m row/\D<=b/\HF ps b m row=srM n ps a,⟨_,[(a,.none)],[a],2 * n+2,rfl,zJ H I,vM a,rfl,?_,rfl⟩,?_⟩
 ·unfold mes;rw[eH (λz=>nomatch z)];show 2 * (n - 1)+1<=2 * n+2;lia
 rintro D ρ ⟨m,R,b,rfl,h,hr,rfl,U,e⟩;show if(!(R.map Â).isEmpty)=true then _ else _
 cases p:R with
 |nil =>
  subst p;refine aA (A:=True) ⟨rfl,?_⟩;have L:HF ps b m []=m:=by cases b <;> rfl
  rw[L]at e;rw[e];exact q
 |cons x0 R0 =>
  refine au (B:=True) ?_;rw[←p];have C:R≠[]:=by rw[p];exact λz=>nomatch z
  refine⟨∅,rfl,λ(i:Nat) ρ=>∃st:IM×List Int,st=(R.take i).foldl (visits ps) (m,[])/\ρ=[.sh (stD (stOf n ps)),.im (.int a),.dw 0 (.dict (kvD st.1)),.sn (iD R),.dw 1 (iD st.2),.any,.any],⟨(m,[]),rfl,rfl⟩,?_,?_⟩
  ·rintro i d ρ hd ⟨st,hst,rfl⟩;let⟨y,r,rfl⟩:=fJ hd;have G:=Ì r;have W:=WI.at ok h hr i;rw[←hst]at W;have J:R.drop i=y::R.drop (i+1):=by
    have hi:=(Ç.mp r).1;rw[Ŏ hi,(Ç.mp r).2]
   rw[J]at W;have V:=W.into G;have S:=W.sr.rng y (W.row y G);have T:=lM ps y.toNat;have M:=ok.few;have s:atI ((stOf n ps).map λts=>ĉ (ts.map pD)) y=some (.list ((rowOf ps y.toNat).map pD)):=by
    have:=bF (xs:=(stOf n ps).map λts=>ĉ (ts.map pD)) (j:=y.toNat) (v:=.list ((rowOf ps y.toNat).map pD)) (by rw[Ý,wH ps ()];rfl)
    rwa [show((y.toNat:Nat):Int)=y by lia]at this
   have tk:R.take (i+1)=R.take i++[y]:=by rw[Ĭ,r];rfl
   refine⟨.list ((rowOf ps y.toNat).map pD),s,rfl,λ(j:Nat) ρ=>∃c:IM×List Int,c=((rowOf ps y.toNat).take j).foldl (visit y) st/\ρ=[.sh (stD (stOf n ps)),.im (.int a),.dw 0 (.dict (kvD c.1)),.sn (iD R),.dw 1 (iD c.2),.im (.int y),.any],⟨st,rfl,rfl⟩,?_,?_⟩
   ·rintro j d ρ hd ⟨c,hs2,rfl⟩;let⟨t,ht,rfl⟩:=fJ hd;have Q:(rowOf ps y.toNat).take (j+1)=(rowOf ps y.toNat).take j++[t]:=by rw[Ĭ,ht];rfl
    have o:=(V.many ok ((rowOf ps y.toNat).take j) λu hu=>Kl S.1 u (ň hu)).1;rw[←hs2]at o;have E:=o.sr.few;have len2:=o.len;have l:visit y c t=((rowOf ps y.toNat).take (j+1)).foldl (visit y) st:=by rw[Q,List.foldl_append,←hs2];rfl
    refine⟨.int t.1,rfl,c.1,rfl,?_⟩;show if(!cC c.1 t.1)=true then _ else _
    unfold visit at l;cases hb:cC c.1 t.1 with
    |true =>
     rw[hb,eD rfl]at l;exact aA (A:=True) ⟨c,l,rfl⟩
    |false =>
     rw[hb,eH Ð]at l;have X:⇑(c.2.map Â)=⇑c.2:=Ä ..;refine au (B:=True) ⟨.int t.2,rfl,zK,.int t.1,rfl,c.1,rfl,rfl,o.sr.im,(),.int t.1,rfl,rfl,(),_,l,?_⟩;unfold iD;rw[î];rfl
   ·rintro ρ ⟨c,hs2,rfl⟩;rw[Ä,Ĳ]at hs2;refine⟨c,?_,rfl⟩;rw[tk,List.foldl_append,←hst,hs2];rfl
  ·rintro ρ ⟨st,hst,rfl⟩;rw[Ä]at hst;have W:=WI.at ok h hr ⇑R;rw[←hst,List.drop_length]at W;have g:=W.less C;rw[Ĳ]at hst;refine⟨rfl,mes n st.1 st.2,g,st.1,st.2,b - 1,rfl,W.done,W.la,rfl,(),?_⟩;cases b with
   |zero=>lia
   |succ k =>
    rw[hst,←e,p];rfl
end
inductive Wy(ws:List Put)(a:Int):List Int->List Int->Int->Prop
 |one:Wy ws a [a] [] a
 |step {ps ks:List Int}{p x k:Int} (h:Wy ws a ps ks p) (hx:x∉ps) (j:(p,(x,k))∈ws):Wy ws a (ps++[x]) (ks++[k]) x
inductive TR(m:IM):List Int->List Int->Int->Prop
 |one {a:Int} (h:ju m a=some .none):TR m [a] [] a
 |step {ps ks:List Int}{p x k:Int} (h:TR m ps ks p) (g:ju m x=some (.tuple [.int p,.int k])):TR m (ps++[x]) (ks++[k]) x
def Bc{m:IM}{x:Int}{e:D}{q:Int×D}(h:ju m x=some e):ju (m++[q]) x=some e:=by
 unfold ju at h ⊢;rw[List.find?_append];cases a:m.find? λp=>decide (p.1=x)with
 |none=>rw[a]at h;cases h
 |some z=>rw[a]at h;exact h
def QL{m:IM}{y:Int}{d:D}(b:y∉aB m):ju (m++[(y,d)]) y=some d:=by
 unfold ju;have a:(m.find? λp=>decide (p.1=y))=none:=List.find?_eq_none.mpr λp hp z=>b (õ.mpr ⟨p,hp,eB z⟩);rw[List.find?_append,a];show((List.find? (λp=>decide (p.1=y)) [(y,d)])).map (·.2)=some d;rw[List.find?_cons_of_pos (by exact decide_eq_true rfl)];rfl
def TR.snoc{m:IM}{q:Int×D}{ps ks:List Int}{x:Int}(h:TR m ps ks x):TR (m++[q]) ps ks x:=by
 induction h with
 |one h=>exact .one (Bc h)
 |step _ g a=>exact .step a (Bc g)
def Cm.tr{g:List Put}{a:Int}{m:IM}(h:Cm g a m):∀x∈aB m,∃ps ks,Wy g a ps ks x/\TR m ps ks x/\(∀y∈ps,y∈aB m)/\⇑ps<=⇑m/\⇑ks<=⇑m:=by
 induction h with
 |base =>
  intro x c;have e:x=a:=by simpa[aB]using c
  subst e;exact⟨[x],[],.one,.one (by unfold ju;rw[List.find?_cons_of_pos (by exact decide_eq_true rfl)];rfl),λy hy=>by rw[Ê.mp hy];simp[aB],Õ _,Ă _⟩
 |@snoc m x0 p k h hp c j ih =>
  have kk:aB (m++[(x0,.tuple [.int p,.int k])])=aB m++[x0]:=by unfold aB;rw[î];rfl
  intro x b;rw[kk]at b;rcases â.mp b with z|z
  ·let⟨ps,ks,w,t,hs,d,f⟩:=ih x z;exact⟨ps,ks,w,t.snoc,λy hy=>by rw[kk];exact é _ (hs y hy),by rw[Ñ];lia,by rw[Ñ];lia⟩
  ·rw[Ê.mp z];let⟨ps,ks,w,t,hs,d,f⟩:=ih p hp;refine⟨ps++[x0],ks++[k],.step w (λq=>c (hs _ q)) j,.step t.snoc (QL c),λy hy=>?_,by rw[Ñ,Ñ];simpa using d,by rw[Ñ,Ñ];simpa using f⟩;rw[kk];rcases â.mp hy with q|q
   ·exact é _ (hs y q)
   ·exact ç _ q
def TR.val{m:IM}{ps ks:List Int}{x:Int}(h:TR m ps ks x):∃d,ju m x=some d/\((d=.none/\ps=[x]/\ks=[])\/∃ps' ks' p k,d=.tuple [.int p,.int k]/\ps=ps'++[x]/\ks=ks'++[k]/\TR m ps' ks' p):=by
 cases h with
 |one h=>exact⟨_,h,.inl ⟨rfl,rfl,rfl⟩⟩
 |step h g=>exact⟨_,g,.inr ⟨_,_,_,_,rfl,rfl,rfl,h⟩⟩
def TR.uniq{m:IM}{ps ks:List Int}{x:Int}(h:TR m ps ks x):∀{b a:List Int},TR m b a x->ps=b/\ks=a:=by
 induction h with
 |one h =>
  intro b a h';cases h' with
  |one _=>exact⟨rfl,rfl⟩
  |step _ g=>rw[h]at g;cases g
 |step _ g ih =>
  intro b a h';cases h' with
  |one h=>rw[g]at h;cases h
  |step h2 g2 =>
   rw[g]at g2;cases g2;let⟨rfl,rfl⟩:=ih h2;exact⟨rfl,rfl⟩
open Classical in
def trO(m:IM)(g:Int):Option (List Int×List Int):=if h:∃r:List Int×List Int,TR m r.1 r.2 g then some h.choose else none
def Fw{m:IM}{g:Int}{ps ks:List Int}(h:TR m ps ks g):trO m g=some (ps,ks):=by
 have e:∃r:List Int×List Int,TR m r.1 r.2 g:=⟨(ps,ks),h⟩
 unfold trO;rw[dif_pos e];let⟨h1,h2⟩:=h.uniq e.choose_spec;exact eJ some (Prod.ext h1.symm h2.symm)
def Fx{m:IM}{g:Int}(h:cC m g=false):trO m g=none:=by
 unfold trO;refine dif_neg λ⟨r,hr⟩=>?_;let⟨d,hd,_⟩:=hr.val;unfold ju at hd;cases a:m.find? λp=>decide (p.1=g)with
 |none=>rw[a]at hd;cases hd
 |some z =>
  have h1:=List.mem_of_find?_eq_some a;have h2:=List.find?_some a;have:cC m g=true:=Ŕ.mpr ⟨z,h1,h2⟩;rw[this]at h;cases h
def cT:Option (List Int×List Int)->D
 |none=>.none
 |some r=>.tuple [iD r.1,iD r.2]
def cu(n:Nat)(ps:List Put)(a g:Int):Option (List Int×List Int):=trO (srM n ps a) g
def dD{n:Nat}{ps:List Put}{a g:Int}(ok:PutsOk n ps)(b:0<=a)(c:a<n)(r:Rt (edg ps) a g):∃P K,cu n ps a g=some (P,K)/\Wy ps a P K g/\⇑P<=n/\⇑K<=n:=by
 have S:=kW ok b c;let⟨P,K,W,T,_,e,f⟩:=S.cm.tr g (dN.mp ((S.all g).mpr r));have d:=S.few;exact⟨P,K,Fw T,W,(),()⟩
def Ib{n:Nat}{ps:List Put}{a g:Int}(ok:PutsOk n ps)(b:0<=a)(c:a<n)(r:¬Rt (edg ps) a g):cu n ps a g=none:=Fx (by
 have S:=kW ok b c;rw[Ĝ];exact λz=>r ((S.all g).mp z))
def aG(us:List Tie):List Put:=us.zipIdx.flatMap λp=>[(p.1.1,(p.1.2,((p.2:Nat):Int))),(p.1.2,(p.1.1,((p.2:Nat):Int)))]
def CW{us:List Tie}{i:Nat}{t:Tie}(h:us[i]?=some t):aG (us.take (i+1))=aG (us.take i)++[(t.1,(t.2,((i:Nat):Int)))]++[(t.2,(t.1,((i:Nat):Int)))]:=by
 have hi:=(Ç.mp h).1;have tk:us.take (i+1)=us.take i++[t]:=by rw[Ĭ,h];rfl
 unfold aG;rw[tk,List.zipIdx_append,List.flatMap_append,Ě,Nat.min_eq_left (),Ş,Nat.zero_add];rfl
def bY{us:List Tie}{p x k:Int}:(p,(x,k))∈aG us↔∃j:Nat,k=((j:Nat):Int)/\(us[j]?=some (p,x)\/us[j]?=some (x,p)):=by
 unfold aG;rw[List.mem_flatMap];constructor
 ·rintro⟨⟨t,j⟩,ht,hm⟩;have ht:us[j]?=some t:=Ą.mp ht;simp only[Þ,ò,or_false,Prod.mk.injEq]at hm;rcases hm with⟨rfl,rfl,rfl⟩|⟨rfl,rfl,rfl⟩
  ·exact⟨j,rfl,.inl ht⟩
  ·exact⟨j,rfl,.inr ht⟩
 ·rintro⟨j,rfl,e|e⟩
  ·exact⟨((p,x),j),Ą.mpr e,by simp⟩
  ·exact⟨((x,p),j),Ą.mpr e,by simp⟩
theorem wG{α β:Type}(f g:α->β):∀l:List α,⇑(l.flatMap λp=>[f p,g p])=2 * ⇑l
 |[]=>rfl
 |x::l=>by
  rw[List.flatMap_cons,Ñ,wG f g l];show 2+2 * ⇑l=2 * (⇑l+1);lia
def vB(us:List Tie):⇑(aG us)=2 * ⇑us:=by
 unfold aG;rw[wG,List.length_zipIdx]
def jc{n:Int}{us:List Tie}(n0:0<=n)(c:⇑us<=100)(ok:OkN n us):PutsOk n.toNat (aG us):=by
 refine⟨by rw[vB];lia,λq hq=>?_⟩;let⟨p,x,k⟩:=q;obtain⟨j,_,e|e⟩:=bY.mp hq
 ·let⟨⟨h1,h2⟩,⟨a,b⟩,_⟩:=ok _ (Ì e);dsimp only at *;lia
 ·let⟨⟨h1,h2⟩,⟨a,b⟩,_⟩:=ok _ (Ì e);dsimp only at *;lia
def vU{us:List Tie}{x y:Int}:(x,y)∈edg (aG us)↔(x,y)∈adj us [] []:=by
 rw[jQ,Hu];constructor
 ·rintro⟨k,h⟩;obtain⟨j,_,e|e⟩:=bY.mp h
  ·exact .inl (Ì e)
  ·exact .inr (Ì e)
 ·rintro(e|e)
  ·let⟨j,a⟩:=ģ e;exact⟨_,bY.mpr ⟨j,rfl,.inl a⟩⟩
  ·let⟨j,a⟩:=ģ e;exact⟨_,bY.mpr ⟨j,rfl,.inr a⟩⟩
def rR{us:List Tie}{x y:Int}:Rt (edg (aG us)) x y↔Rt (adj us [] []) x y:=⟨Rt.mono λ⟨_,_⟩ h=>vU.mp h,Rt.mono λ⟨_,_⟩ h=>vU.mpr h⟩
def M4:FF:=λds P=>∃(ws:List Put)(a:Int)(m:IM)(g:Int),ds=[.dict (kvD m),.int g]/\Cm ws a m/\⇑m<=100/\P (cT (trO m g))
def M5:FF:=λds P=>∃n us,ds=[aq n us]/\0<=n/\n<=100/\⇑us<=100/\OkN n us/\P (stD (stOf n.toNat (aG us)))
def R3:FF:=λds P=>∃n us a,ds=[aq n us,.int a]/\0<=n/\n<=60/\⇑us<=100/\OkN n us/\0<=a/\a<n/\P (iD (rsI (adj us [] []) n.toNat a))
def XD:FF:=λds P=>∃n us a b,ds=[aq n us,.int a,.int b]/\0<=n/\n<=60/\⇑us<=100/\OkN n us/\0<=a/\a<n/\0<=b/\b<n/\P (cT (cu n.toNat (aG us) a b))
def Ss:FF:=λds P=>∃n us d,ds=[aq n us,d]/\P (.bool (aH n d))
def Sq:FF:=λds P=>∃n us d,ds=[aq n us,d]/\P (.bool (aH (⇑us:Nat) d))
def X6:FF:=λds P=>∃n us i,ds=[aq n us,.int i]/\0<=i/\i<n/\P .none
def X7:FF:=λds P=>∃n us i j,ds=[aq n us,.int i,.int j]/\0<=i/\i<n/\0<=j/\j<n/\i≠j/\P .none
section
variable{P:Zc}{w:Zd}{K:ã}{mg:Str->Option Value}{base:Zi}{f:Addr}{fd:YY}{CN:Addr}
def Lf(F:Fun K "trace" "trace" (top 13) f fd)(B:ĩ mg)(I:mg "reversed"=none):FnOk P w K mg base CX0 1 f fd ["came",bX] (spD M4):=by
 refine okT F (N:=["came",bX,cv,"ties","step"]) zC (λhr nd=>È (ø (Wr.eO hr.units (Ã 1) (Ã 0)) (Ô (Û ŗ)) à)
  (È (å (some 0) (i:=2) nd rfl zQ (æ (À (Ã 1) Á)))
  (È (å (some 1) (i:=3) nd rfl zQ (æ Á))
  (È (å none (i:=4) nd rfl zQ (Wr.mj hr.units (Ã 0) (Ã 1)))
  (È (Wr.jx ô (Wr.gU (Ã 4) ŗ) (È (Ř (Đ 2) (À (Î (Ã 4) Å) Á))
  (È (Ř (Đ 3) (À (Î (Ã 4) Å) Á))
  (Ô (å none (i:=4) nd rfl zQ (Wr.mj hr.units (Ã 0) (Î (Ã 4) Å)))))))
  (í [4] (Ô (Û (ê (À (Wr.gY rfl B.list I (À (Ã 2) Á)) (À (Wr.gY rfl B.list I (À (Ã 3) Á)) Á))))))))))) ?_
 rintro ds P ⟨Z,a,m,g,rfl,C,Y,o⟩;refine⟨[.sh (.dict (kvD m)),.im (.int g),.any,.any,.any],rfl,m,rfl,?_⟩;show if(!cC m g)=true then _ else _
 cases hb:cC m g with
 |false=>exact au (B:=True) ⟨rfl,by rw[Fx hb]at o;exact o⟩
 |true =>
  let⟨ps,ks,W,T,_,V,X⟩:=C.tr g (dN.mp hb);have q:P (.tuple [iD ps,iD ks]):=by rw[Fw T]at o;exact o
  let⟨e,h,y⟩:=T.val;have E:∀k,norm k e=.imm:=λk=>by
   rcases y with⟨rfl,_⟩|⟨_,_,p,U,rfl,_⟩
   ·exact aN rfl
   ·exact aN rfl
  refine aA (A:=True) ⟨zK,zK,m,e,rfl,h,?_⟩;show Ey 4 none (λ_ P=>P (norm .shr e) e) _ _;unfold Ey;simp only[E];show qx _ _ _ [.sh (.dict (kvD m)),.im (.int g),.dw 0 (iD [g]),.dw 1 (iD []),.im e];refine⟨λJ ρ=>∃(c:Int)(n H S T:List Int)(d:D),ρ=[.sh (.dict (kvD m)),.im (.int g),.dw 0 (iD (S.reverse++[c])),.dw 1 (iD T.reverse),.im d]/\TR m n H c/\ju m c=some d/\n++S=ps/\H++T=ks/\J=⇑n,⟨_,g,ps,ks,[],[],e,rfl,T,h,ě _,ě _,rfl⟩,?_⟩;rintro J ρ ⟨c,n,H,S,b,d,rfl,t,hg,v,x,rfl⟩;have O:⇑(S.reverse++[c])<=101:=by
   have h1:=eJ List.length v;rw[Ñ]at h1;rw[Ñ,Ŀ,ì];lia
  have Q:⇑b.reverse<=100:=by
   have h1:=eJ List.length x;rw[Ñ]at h1;rw[Ŀ];lia
  let⟨R,j,hv⟩:=t.val;rw[hg]at j;cases j;rcases hv with⟨rfl,rfl,rfl⟩|⟨L,M,p,k,rfl,rfl,rfl,t'⟩
  ·have r:((S.reverse++[c]).map Â).reverse=ps.map Â:=by
    rw[←List.map_reverse,List.reverse_append,List.reverse_reverse,←v];rfl
   have s:(b.reverse.map Â).reverse=ks.map Â:=by
    rw[←List.map_reverse,List.reverse_reverse,←x];rfl
   refine aA (A:=True) (.inl ⟨by rw[r];exact aP _,.inl ⟨by rw[s];exact aP _,zK,rfl,?_⟩⟩);show P (.tuple [.list ((S.reverse++[c]).map Â).reverse,.list (b.reverse.map Â).reverse]);rw[r,s];exact q
  ·let⟨u,l,z⟩:=t'.val;have G:∀k,norm k u=.imm:=λk=>by
    rcases z with⟨rfl,_⟩|⟨_,_,_,_,rfl,_⟩
    ·exact aN rfl
    ·exact aN rfl
   refine au (B:=True) ⟨.int p,rfl,rfl,by rw[Ä];lia,.int k,rfl,rfl,by rw[Ä];lia,.int p,rfl,m,u,rfl,l,?_⟩;simp only[G];refine⟨⇑L,by rw[Ñ,ì];lia,p,L,M,c::S,k::b,u,?_,t',l,by rw[←v,Ş];rfl,by rw[←x,Ş];rfl,rfl⟩;have r:(S.reverse++[c]).map Â++[Â p]=((c::S).reverse++[p]).map Â:=by
    rw[List.reverse_cons,î (l₂:=[p])];rfl
   have s:b.reverse.map Â++[Â k]=(k::b).reverse.map Â:=by
    rw[List.reverse_cons,î];rfl
   show([_,_,Sl.dw 0 (.list ((S.reverse++[c]).map Â++[Â p])),Sl.dw 1 (.list (b.reverse.map Â++[Â k])),_]:List Sl)=[_,_,Sl.dw 0 (.list (((c::S).reverse++[p]).map Â)),Sl.dw 1 (.list ((k::b).reverse.map Â)),_]
   rw[r,s];rfl
def sc4:FnScope [af] [af] (aC (top 4)):=zC
def Le(F:Fun K dQ dQ (top 4) f fd)(B:ĩ mg):FnOk P w K mg base CX0 1 f fd [af] (spD Ek):=by
 refine F.ok sc4 qU (λcdv A outer s H vs Q E hr h=>?_);refine⟨_,o9 (o8 (sX (gA GX B.isinstance (dv 0) (wQ (v:=.ty "int") rfl B.int So rfl)) (sO (sS (gA uc B.isinstance (dv 0) (wQ (v:=.ty "bool") rfl B.bool Su rfl)))))),yw h ?_⟩;rintro ds P ⟨d,rfl,q⟩;unfold Ez FJ tIs;refine Cr (d:=d) rfl λk=>?_;cases d <;> exact⟨rfl,q⟩
def sc5:FnScope ["limit",af] ["limit",af] (aC (top 5)):=zC
def Li(F:Fun K "is_below" "is_below" (top 5) f fd)(W:ċ P w K mg base 1 dQ [af] (spD Ek)):FnOk P w K mg base CX0 2 f fd ["limit",af] (spD Ng):=by
 refine F.ok sc5 qU (λcdv A outer s H vs Q E hr h=>?_);refine⟨_,o9 (o8 (sX (dc W hr (dU (dv 1) jO)) (sO (PK jf (dv 1) (dv 0))))),yw h ?_⟩;rintro ds P ⟨m,d,rfl,q⟩;unfold Ez FJ tFn bw;refine Cr (d:=d) rfl λk=>⟨d,rfl,?_⟩
 cases d with
 |int i =>
  have e:P (.bool (decide (0<=i/\i<m))):=q;by_cases a:(0:Int)<=i
  ·show if decide ((0:Int)<=i)=true then _ else _
   rw[decide_eq_true a];refine au (B:=True) ⟨rfl,?_⟩;have b:decide (0<=i/\i<m)=decide (i<m):=by simp[a]
   rw[b]at e;exact e
  ·show if decide ((0:Int)<=i)=true then _ else _
   rw[eA a];refine aA (A:=True) ⟨rfl,?_⟩;have b:decide (0<=i/\i<m)=false:=by simp[a]
   rw[b]at e;exact e
 |_=>exact⟨rfl,q⟩
abbrev kA1(P w K mg base):=ċ P w K mg base 2 "is_below" ["limit",af] (spD Ng)
def Ai(F:Fun K "is_place" "is_place" (top 6) f fd)(B:ĩ mg)(a:kA1 P w K mg base):FnOk P w K mg base CX0 3 f fd [ae,af] (spD Ss):=by
 refine okT F (N:=[ae,af]) zC (λhr nd=>Ô (Û (ú a hr (À (Î (Ã 0) Å) (À (Ã 1) Á))))) ?_;rintro ds P ⟨n,us,d,rfl,q⟩;refine⟨[.im (aq n us),aV d],c7 rfl,?_⟩;refine⟨.int n,rfl,?_⟩;refine Cr rfl λk=>⟨n,d,rfl,?_⟩
 exact⟨rfl,q⟩
def oK(F:Fun K cw cw (top 7) f fd)(B:ĩ mg)(a:kA1 P w K mg base):FnOk P w K mg base CX0 3 f fd [ae,af] (spD Sq):=by
 refine okT F (N:=[ae,af]) zC (λhr nd=>Ô (Û (ú a hr (À (ĝ B.len (À (Î (Ã 0) Å) Á)) (À (Ã 1) Á))))) ?_;rintro ds P ⟨n,us,d,rfl,q⟩;refine⟨[.im (aq n us),aV d],c7 rfl,?_⟩;rcases aL d with e|e
 all_goals
  rw[e];refine⟨.tuple (us.map pD),rfl,_,d,rfl,?_⟩;rw[Ä];exact⟨rfl,q⟩
abbrev kA2(P w K mg base):=ċ P w K mg base 3 "is_place" [ae,af] (spD Ss)
def tL(F:Fun K dt dt (top 8) f fd)(B:ĩ mg)(a:kA2 P w K mg base):FnOk P w K mg base CX0 4 f fd [ae,af] (spD X6):=by
 refine okT F (N:=[ae,af]) zC (λhr nd=>Ô (ø (č (ă (ú a hr (À (Ã 0) (À (Ã 1) Á))))) (Ô Wr.nD) à)) ?_;rintro ds P ⟨n,us,i,rfl,b,h1,q⟩;refine⟨[.im (aq n us),.im (.int i)],c7 rfl,?_⟩;refine⟨n,us,.int i,rfl,?_⟩;show if(!aH n (.int i))=true then _ else _
 rw[show aH n (.int i)=true from decide_eq_true ⟨b,h1⟩];exact aA (A:=True) q
abbrev kA3(P w K mg base):=ċ P w K mg base 4 dt [ae,af] (spD X6)
def j5(F:Fun K bp bp (top 9) f fd)(B:ĩ mg)(a:kA3 P w K mg base):FnOk P w K mg base CX0 5 f fd [ae,bi,bn] (spD X7):=by
 refine okT F (N:=[ae,bi,bn]) zC (λhr nd=>È (Wr.dz (ú a hr (À (Ã 0) (À (Ã 1) Á))))
  (È (Wr.dz (ú a hr (À (Ã 0) (À (Ã 2) Á))))
  (Ô (ø (Ķ hr.units (Ã 1) (Ã 2)) (Ô Wr.nD) à)))) ?_
 rintro ds P ⟨n,us,i,j,rfl,b,h1,h2,c,d,q⟩;refine⟨[.im (aq n us),.im (.int i),.im (.int j)],c7 rfl,?_⟩;refine⟨n,us,i,rfl,b,h1,n,us,j,rfl,h2,c,?_⟩;show if decide (i=j)=true then _ else _
 rw[eA d];exact aA (A:=True) q
def mJ:([am,ae,cK,bj,az]:List Str).Nodup:=⋯
def qd(F:Fun K da da (top 11) f fd)(B:ĩ mg)(j:mg cq=none):FnOk P w K mg base CX0 1 f fd [ae] (spD M5):=by
 refine okT F (N:=[ae,cK,bj,az]) zC (λhr nd=>È (Wr.jz 0 [am] (i:=1) rfl nd rfl zQ (Į B.range (À (Î (Ã 0) Å) Á)) (λc=>(ä (i:=0) mJ rfl zQ)))
  (È (ĵ ô rfl (Wr.nH j (À (Î (Ã 0) Å) Á)) (Wr.dH (n:=2) rfl (ė (ä (i:=2) nd rfl zQ) (ė (ä (i:=3) nd rfl zQ) ż))) (È (Wr.dG (Đ 1) (Î (Ã 3) Å) (À (ê (À (Î (Ã 3) Å) (À (Ã 2) Á))) Á))
  (È (Wr.dG (Đ 1) (Î (Ã 3) Å) (À (ê (À (Î (Ã 3) Å) (À (Ã 2) Á))) Á)) (í [2,3] à))))
  (í [2,3] (Ô (Û (Ã 1)))))) ?_
 rintro ds P ⟨n,us,rfl,r,k,o,ok,q⟩;refine⟨[.im (aq n us),.any,.any,.any],?_,?_⟩
 ·show [aV (aq n us),.any,.any,.any]=_;rw[fO]
 refine⟨.int n,rfl,⟨(),()⟩,by rw[bD];lia,rfl,?_⟩;rw[bD];refine⟨.tuple (us.map pD),rfl,rfl,λ(i:Nat) ρ=>ρ=[.im (aq n us),.rw 0 (rP (stOf n.toNat (aG (us.take i)))),.any,.any],?_,?_,?_⟩
 ·show [_,Sl.rw 0 (Ú n.toNat []),_,_]=[_,Sl.rw 0 (rP (stOf n.toNat [])),_,_]
  rw[Cz];unfold rP;rw[List.map_replicate];rfl
 ·rintro i d ρ hd rfl;rw[dF,Ý]at hd;obtain⟨t,ht,rfl⟩:∃t,us[i]?=some t/\ő [.int ((i:Nat):Int),pD t]=d:=by
   cases e:us[i]? with
   |none=>rw[e]at hd;cases hd
   |some t=>rw[e]at hd;exact⟨t,rfl,Ö hd⟩
  let⟨⟨a,s⟩,⟨b,u⟩,v⟩:=ok t (Ì ht);have hi:=(Ç.mp ht).1;have m:⇑(aG (us.take i))<=200:=by rw[vB,Ě];lia
  have x:=lM (aG (us.take i)) t.1.toNat;have l:=lM (aG (us.take i)++[(t.1,(t.2,((i:Nat):Int)))]) t.2.toNat;rw[Ñ,ì]at l;have g:=lO (n:=n.toNat) (ps:=aG (us.take i)) (q:=(t.1,(t.2,((i:Nat):Int)))) ⟨a,by show t.1<_;lia⟩;have h:=lO (n:=n.toNat) (ps:=aG (us.take i)++[(t.1,(t.2,((i:Nat):Int)))]) (q:=(t.2,(t.1,((i:Nat):Int)))) ⟨b,by show t.2<_;lia⟩;rw[←g]at h;refine⟨rfl,.int t.1,rfl,t.1.toNat,(rowOf (aG (us.take i)) t.1.toNat).map pD,?_,rY _ (),.int t.2,rfl,zK,rfl,by rw[Ä];lia,.int t.2,rfl,?_⟩
  ·unfold ixN rP;rw[eD a,eD (by rw[Ä,gO];lia)]
  refine⟨t.2.toNat,(rowOf (aG (us.take i)++[(t.1,(t.2,((i:Nat):Int)))]) t.2.toNat).map pD,?_,?_,.int t.1,rfl,zK,rfl,by rw[Ä];lia,?_⟩
  ·unfold ixN rP;rw[eD b,eD (by rw[List.length_set,Ä,gO];lia)]
  ·have:=rY (n:=n.toNat) (aG (us.take i)++[(t.1,(t.2,((i:Nat):Int)))]) (p:=t.2.toNat) ();rw[←g]at this;exact this
  ·show [Sl.im (aq n us),Sl.rw 0 (((rP (stOf n.toNat (aG (us.take i)))).set t.1.toNat ((rowOf (aG (us.take i)) t.1.toNat).map pD++[pD (t.2,((i:Nat):Int))])).set t.2.toNat ((rowOf (aG (us.take i)++[(t.1,(t.2,((i:Nat):Int)))]) t.2.toNat).map pD++[pD (t.1,((i:Nat):Int))])),Sl.any,Sl.any]=[_,Sl.rw 0 (rP (stOf n.toNat (aG (us.take (i+1))))),_,_]
   rw[CW ht,←h]
 ·rintro ρ rfl;rw[cY,Ä,Ĳ];refine⟨rfl,?_⟩;show P (.list ((rP (stOf n.toNat (aG us))).map ĉ));rw[CG];exact q
abbrev kA4(P w K mg base):=ċ P w K mg base 1 "search" [cK,bd] (spD Hf)
abbrev kA5(P w K mg base):=ċ P w K mg base 1 da [ae] (spD M5)
def Ds(F:Fun K "part_of" "part_of" (top 14) f fd)(B:ĩ mg)(h:kA4 P w K mg base)(g:kA5 P w K mg base):FnOk P w K mg base CX0 2 f fd [ae,am] (spD R3):=by
 refine okT F (N:=[ae,am]) zC (λhr nd=>Ô (Û (Wr.sJ rfl B.sorted (À (ú h hr (À (ú g hr (À (Ã 0) Á)) (À (Ã 1) Á))) Á)))) ?_;rintro ds P ⟨n,us,a,rfl,m,k,c,ok,b,l,q⟩;refine⟨[.im (aq n us),.im (.int a)],?_,?_⟩
 ·show [aV (aq n us),.im (.int a)]=_;rw[fO]
 have i:=yW (F:=[]) (B:=[]) ok ();have d:=jc () c ok;have S:=kW (n:=n.toNat) d b ();have j:=S.few;refine⟨n,us,rfl,(),(),c,ok,n.toNat,aG us,a,rfl,(),d,b,(),srM n.toNat (aG us) a,rfl,(),λout hp hs=>⟨rfl,?_⟩⟩;have e:=Ro (vs:=adj us [] []) (n:=n.toNat) (a:=a) hp hs S.nd (λx=>by rw[←rR,←S.all,dN];rfl) λx r=>r.rng (λt ht=>(i t ht).2) ⟨b,()⟩;rw[e];exact q
abbrev kA6(P w K mg base):=ċ P w K mg base 1 "trace" ["came",bX] (spD M4)
def Uy(F:Fun K "way" "way" (top 16) f fd)(B:ĩ mg)(d:kA3 P w K mg base)(j:kA6 P w K mg base)(k:kA4 P w K mg base)(i:kA5 P w K mg base):FnOk P w K mg base CX0 5 f fd [ae,bi,bn] (spD XD):=by
 refine okT F (N:=[ae,bi,bn]) zC (λhr nd=>È (Wr.dz (ú d hr (À (Ã 0) (À (Ã 1) Á))))
  (È (Wr.dz (ú d hr (À (Ã 0) (À (Ã 2) Á))))
  (Ô (Û (ú j hr (À (ú k hr (À (ú i hr (À (Ã 0) Á)) (À (Ã 1) Á))) (À (Ã 2) Á))))))) ?_
 rintro ds P ⟨n,us,a,b,rfl,n0,m,e,ok,c,h,b0,b1,q⟩;refine⟨[.im (aq n us),.im (.int a),.im (.int b)],c7 rfl,?_⟩;have g:=jc () e ok;have S:=kW (n:=n.toNat) g c ();have l:=S.few;refine⟨n,us,a,rfl,c,h,n,us,b,rfl,b0,b1,n,us,rfl,n0,(),e,ok,n.toNat,aG us,a,rfl,(),g,c,(),aG us,a,srM n.toNat (aG us) a,b,rfl,S.cm,(),?_⟩;show _/\P (cT (cu n.toNat (aG us) a b));refine⟨?_,q⟩;show(norm .new (cT (trO (srM n.toNat (aG us) a) b))).le .n0=true;cases trO (srM n.toNat (aG us) a) b with
 |none=>rfl
 |some r=>rfl
end
def bK(arcs:List Tie)(i:Int):Tie:=arcs.getD i.toNat (0,0)
def lft(arcs:List Tie)(U:List Int):List Put:=arcs.zipIdx.map λp=>if((p.2:Nat):Int)∈U then(p.1.2,(p.1.1,((p.2:Nat):Int)))else(p.1.1,(p.1.2,((p.2:Nat):Int)))
def alg(arcs:List Tie)(U:List Int):List Put:=U.map λi=>((bK arcs i).1,((bK arcs i).2,i))
def OkA(n:Int)(arcs:List Tie):Prop:=∀e∈arcs,(0<=e.1/\e.1<n)/\0<=e.2/\e.2<n
def InL(arcs:List Tie)(U:List Int):Prop:=⇑U<=200/\∀i∈U,0<=i/\i<(⇑arcs:Int)
def sd(L:Nat)(U K:List Int):List Int:=(zI (ß L)).filter λi=>decide (i∈U) != decide (i∈K)
def aug(n:Nat)(arcs:List Tie)(a b:Int):Nat->List Int->Option (List Int)
 |0,U=>some U
 |k+1,U=>match cu n (lft arcs U) a b with
  |none=>none
  |some r=>aug n arcs a b k (sd ⇑arcs U r.2)
def V0:Option (List Int)->D
 |none=>.none
 |some U=>iD U
def rm{arcs:List Tie}{i:Int}(a:0<=i)(h1:i<(⇑arcs:Int)):arcs[i.toNat]?=some (bK arcs i):=by
 unfold bK;rw[ā,Ë ()];rfl
def Oa{arcs:List Tie}{i:Int}(a:0<=i)(h1:i<(⇑arcs:Int)):atI (arcs.map pD) i=some (pD (bK arcs i)):=by
 have q:atI (arcs.map pD) ((i.toNat:Nat):Int)=some (pD (bK arcs i)):=bF (by rw[Ý,rm a h1];rfl)
 rwa [show((i.toNat:Nat):Int)=i by lia]at q
def Ma{arcs:List Tie}{U:List Int}{i:Nat}{t:Tie}(h:arcs[i]?=some t):lft (arcs.take (i+1)) U=lft (arcs.take i) U++[if((i:Nat):Int)∈U then(t.2,(t.1,((i:Nat):Int)))else(t.1,(t.2,((i:Nat):Int)))]:=by
 have hi:=(Ç.mp h).1;have tk:arcs.take (i+1)=arcs.take i++[t]:=by rw[Ĭ,h];rfl
 unfold lft;rw[tk,List.zipIdx_append,î,Ě,Nat.min_eq_left (),Nat.zero_add];rfl
def iz{arcs:List Tie}{U:List Int}{p x k:Int}:(p,(x,k))∈lft arcs U↔∃j:Nat,k=((j:Nat):Int)/\((k∈U/\arcs[j]?=some (x,p))\/(k∉U/\arcs[j]?=some (p,x))):=by
 unfold lft;rw[õ];constructor
 ·rintro⟨⟨t,j⟩,ht,hm⟩;have ht:arcs[j]?=some t:=Ą.mp ht;dsimp only at hm;by_cases a:((j:Nat):Int)∈U
  ·rw[eD a]at hm;cases hm;exact⟨j,rfl,.inl ⟨a,ht⟩⟩
  ·rw[eH a]at hm;cases hm;exact⟨j,rfl,.inr ⟨a,ht⟩⟩
 ·rintro⟨j,rfl,⟨a,e⟩|⟨a,e⟩⟩
  ·exact⟨((x,p),j),Ą.mpr e,eD a⟩
  ·exact⟨((p,x),j),Ą.mpr e,eH a⟩
def GJ(arcs:List Tie)(U:List Int):⇑(lft arcs U)=⇑arcs:=by
 unfold lft;rw[Ä,List.length_zipIdx]
def tZ{n:Int}{arcs:List Tie}{U:List Int}(n0:0<=n)(c:⇑arcs<=200)(ok:OkA n arcs):PutsOk n.toNat (lft arcs U):=by
 refine⟨by rw[GJ];exact c,λq hq=>?_⟩;let⟨p,x,k⟩:=q;obtain⟨j,_,⟨_,e⟩|⟨_,e⟩⟩:=iz.mp hq
 ·let⟨⟨h1,h2⟩,a,b⟩:=ok _ (Ì e);dsimp only at *;lia
 ·let⟨⟨h1,h2⟩,a,b⟩:=ok _ (Ì e);dsimp only at *;lia
def N8{n:Int}{arcs:List Tie}{i:Int}(ok:OkA n arcs)(a:0<=i)(h1:i<(⇑arcs:Int)):(0<=(bK arcs i).1/\(bK arcs i).1<n)/\0<=(bK arcs i).2/\(bK arcs i).2<n:=ok _ (Ì (rm a h1))
def iB{arcs:List Tie}{U:List Int}{p x k:Int}:(p,(x,k))∈alg arcs U↔k∈U/\bK arcs k=(p,x):=by
 unfold alg;rw[õ];constructor
 ·rintro⟨i,hi,e⟩;cases e;exact⟨hi,rfl⟩
 ·rintro⟨hk,e⟩;exact⟨k,hk,by rw[e]⟩
def yV{n:Int}{arcs:List Tie}{U:List Int}(n0:0<=n)(ok:OkA n arcs)(a:InL arcs U):PutsOk n.toNat (alg arcs U):=by
 refine⟨by unfold alg;rw[Ä];exact a.1,λq hq=>?_⟩;let⟨p,x,k⟩:=q;let⟨h1,h2⟩:=iB.mp hq;let⟨b,c⟩:=a.2 k h1;have:=N8 ok b c;rw[h2]at this;dsimp only at *;lia
def Rk{arcs:List Tie}{U K:List Int}(a:⇑arcs<=200):InL arcs (sd ⇑arcs U K):=by
 refine⟨?_,λi hi=>?_⟩
 ·unfold sd zI;refine þ (ć _ _) ?_;rw[Ä,Ċ];exact a
 ·exact xY.mp (á.mp hi).1
def Tp(L:Nat)(U K:List Int):((ß L).filter λv=>decide ((0+((v:Nat):Int))∈U) != decide ((0+((v:Nat):Int))∈K)).map (λv=>Â (0+((v:Nat):Int)))=(sd L U K).map Â:=by
 unfold sd zI;rw[List.filter_map,Ī];rfl
def Nh:FF:=λds P=>∃n arcs U,ds=[.int n,.list (arcs.map pD),iD U]/\0<=n/\n<=100/\⇑arcs<=200/\OkA n arcs/\InL arcs U/\P (stD (stOf n.toNat (alg arcs U)))
def Sd:FF:=λds P=>∃n arcs U,ds=[.int n,.list (arcs.map pD),iD U]/\0<=n/\n<=100/\⇑arcs<=200/\OkA n arcs/\InL arcs U/\P (stD (stOf n.toNat (lft arcs U)))
def XF:FF:=λds P=>∃n arcs a b,ds=[.int n,.list (arcs.map pD),.int a,.int b]/\0<=n/\n<=100/\⇑arcs<=200/\OkA n arcs/\0<=a/\a<n/\P (V0 (aug n.toNat arcs a b 2 []))
def Yd:FF:=λds P=>∃n arcs U a b r1 r2,ds=[.int n,.list (arcs.map pD),iD U,.int a,.int b]/\0<=n/\n<=100/\⇑arcs<=200/\OkA n arcs/\InL arcs U/\0<=a/\a<n/\cu n.toNat (alg arcs U) a b=some r1/\cu n.toNat (alg arcs (U.filter λi=>!decide (i∈r1.2))) a b=some r2/\P (.list [cT (some r1),cT (some r2)])
section
variable{P:Zc}{w:Zd}{K:ã}{mg:Str->Option Value}{base:Zi}{f:Addr}{fd:YY}
def oM:(["node",aE,a8,bb,cK,c6]:List Str).Nodup:=⋯
def sZ(F:Fun K du du (top 25) f fd)(B:ĩ mg):FnOk P w K mg base CX0 1 f fd [aE,a8,bb] (spD Nh):=by
 refine okT F (N:=[aE,a8,bb,cK,c6]) zC (λhr nd=>È (Wr.jz 0 ["node"] (i:=3) rfl nd rfl zQ (Į B.range (À (Ã 0) Á)) (λc=>(ä (i:=0) oM rfl zQ)))
  (È (ĵ ô rfl (ħ (Ã 2)) (ä (i:=4) nd rfl zQ) (È (Wr.dG (Đ 3) (Î (Î (Ã 1) (Ã 4)) Å) (À (ê (À (Î (Î (Ã 1) (Ã 4)) Å) (À (Ã 4) Á))) Á)) (í [4] à)))
  (í [4] (Ô (Û (Ã 3)))))) ?_
 rintro ds P ⟨n,arcs,U,rfl,n0,o,m,ok,e,q⟩;refine⟨[.im (.int n),.sh (.list (arcs.map pD)),.sh (iD U),.any,.any],rfl,?_⟩;refine⟨⟨(),()⟩,by rw[bD];lia,rfl,?_⟩;rw[bD];refine⟨rfl,λ(i:Nat) ρ=>ρ=[.im (.int n),.sh (.list (arcs.map pD)),.sh (iD U),.rw 0 (rP (stOf n.toNat (alg arcs (U.take i)))),.any],?_,?_,?_⟩
 ·show [_,_,_,Sl.rw 0 (Ú n.toNat []),_]=[_,_,_,Sl.rw 0 (rP (stOf n.toNat [])),_]
  rw[Cz];unfold rP;rw[List.map_replicate];rfl
 ·rintro i d ρ hd rfl;let⟨k,hk,rfl⟩:=fJ hd;have hi:=(Ç.mp hk).1;let⟨a,b⟩:=e.2 k (Ì hk);let⟨⟨g,p⟩,r,s⟩:=N8 ok a b;have tk:U.take (i+1)=U.take i++[k]:=by rw[Ĭ,hk];rfl
  have l:⇑(alg arcs (U.take i))<=200:=by unfold alg;rw[Ä,Ě];have:=e.1;lia
  have t:=lM (alg arcs (U.take i)) (bK arcs k).1.toNat;have j:=lO (n:=n.toNat) (ps:=alg arcs (U.take i)) (q:=((bK arcs k).1,((bK arcs k).2,k))) ⟨g,by show(bK arcs k).1<_;lia⟩;refine⟨_,Oa a b,.int (bK arcs k).1,rfl,(bK arcs k).1.toNat,(rowOf (alg arcs (U.take i)) (bK arcs k).1.toNat).map pD,?_,rY _ (),_,Oa a b,.int (bK arcs k).2,rfl,zK,rfl,by rw[Ä];lia,?_⟩
  ·unfold ixN rP;rw[eD g,eD (by rw[Ä,gO];lia)]
  ·show [_,_,_,Sl.rw 0 ((rP (stOf n.toNat (alg arcs (U.take i)))).set (bK arcs k).1.toNat ((rowOf (alg arcs (U.take i)) (bK arcs k).1.toNat).map pD++[pD ((bK arcs k).2,k)])),_]=[_,_,_,Sl.rw 0 (rP (stOf n.toNat (alg arcs (U.take (i+1))))),_]
   have h:alg arcs (U.take (i+1))=alg arcs (U.take i)++[((bK arcs k).1,((bK arcs k).2,k))]:=by
    unfold alg;rw[tk,î];rfl
   rw[h,←j];rfl
 ·rintro ρ rfl;rw[Ä,Ĳ];refine⟨rfl,?_⟩;show P (.list ((rP (stOf n.toNat (alg arcs U))).map ĉ));rw[CG];exact q
def qt:(["node",aE,a8,bb,cK,c6,"arc"]:List Str).Nodup:=⋯
def uY(F:Fun K dS dS (top 26) f fd)(B:ĩ mg)(l:mg cq=none):FnOk P w K mg base CX0 1 f fd [aE,a8,bb] (spD Sd):=by
 refine okT F (N:=[aE,a8,bb,cK,c6,"arc"]) zC (λhr nd=>È (Wr.jz 0 ["node"] (i:=3) rfl nd rfl zQ (Į B.range (À (Ã 0) Á)) (λc=>(ä (i:=0) qt rfl zQ)))
  (È (ĵ ô rfl (Wr.nG l (À (Ã 1) Á)) (Wr.dH (n:=2) rfl (ė (ä (i:=4) nd rfl zQ) (ė (ä (i:=5) nd rfl zQ) ż))) (È (ø (Wr.eU hr.units (Ã 4) (Ã 2)) (Ô (Wr.dG (Đ 3) (Î (Ã 5) Å) (À (ê (À (Î (Ã 5) Å) (À (Ã 4) Á))) Á))) (Ô (Wr.dG (Đ 3) (Î (Ã 5) Å) (À (ê (À (Î (Ã 5) Å) (À (Ã 4) Á))) Á)))) (í [4,5] à)))
  (í [4,5] (Ô (Û (Ã 3)))))) ?_
 rintro ds P ⟨n,arcs,U,rfl,n0,r,p,ok,m,q⟩;refine⟨[.im (.int n),.sh (.list (arcs.map pD)),.sh (iD U),.any,.any,.any],rfl,?_⟩;refine⟨⟨(),()⟩,by rw[bD];lia,rfl,?_⟩;rw[bD];refine⟨rfl,λ(i:Nat) ρ=>ρ=[.im (.int n),.sh (.list (arcs.map pD)),.sh (iD U),.rw 0 (rP (stOf n.toNat (lft (arcs.take i) U))),.any,.any],?_,?_,?_⟩
 ·show [_,_,_,Sl.rw 0 (Ú n.toNat []),_,_]=[_,_,_,Sl.rw 0 (rP (stOf n.toNat [])),_,_]
  rw[Cz];unfold rP;rw[List.map_replicate];rfl
 ·rintro i d ρ hd rfl;rw[dF,Ý]at hd;obtain⟨t,ht,rfl⟩:∃t,arcs[i]?=some t/\ő [.int ((i:Nat):Int),pD t]=d:=by
   cases e:arcs[i]? with
   |none=>rw[e]at hd;cases hd
   |some t=>rw[e]at hd;exact⟨t,rfl,Ö hd⟩
  let⟨⟨j,s⟩,k,u⟩:=ok t (Ì ht);have hi:=(Ç.mp ht).1;have o:⇑(lft (arcs.take i) U)<=200:=by rw[GJ,Ě];lia
  have a:=Ma (U:=U) ht;have g:=lM (lft (arcs.take i) U);refine⟨rfl,rfl,ń U,?_⟩;show if((U.map Â).any λe=>Ü e (.int ((i:Nat):Int)))=true then _ else _
  rw[Ć];by_cases b:((i:Nat):Int)∈U
  ·rw[decide_eq_true b];rw[eD b]at a;have h:=lO (n:=n.toNat) (ps:=lft (arcs.take i) U) (q:=(t.2,(t.1,((i:Nat):Int)))) ⟨k,by show t.2<_;lia⟩;have g:=g t.2.toNat;refine au (B:=True) ⟨.int t.2,rfl,t.2.toNat,(rowOf (lft (arcs.take i) U) t.2.toNat).map pD,?_,rY _ (),.int t.1,rfl,zK,rfl,by rw[Ä];lia,?_⟩
   ·unfold ixN rP;rw[eD k,eD (by rw[Ä,gO];lia)]
   ·show [_,_,_,Sl.rw 0 ((rP (stOf n.toNat (lft (arcs.take i) U))).set t.2.toNat ((rowOf (lft (arcs.take i) U) t.2.toNat).map pD++[pD (t.1,((i:Nat):Int))])),_,_]=[_,_,_,Sl.rw 0 (rP (stOf n.toNat (lft (arcs.take (i+1)) U))),_,_]
    rw[a,←h];rfl
  ·rw[eA b];rw[eH b]at a;have h:=lO (n:=n.toNat) (ps:=lft (arcs.take i) U) (q:=(t.1,(t.2,((i:Nat):Int)))) ⟨j,by show t.1<_;lia⟩;have g:=g t.1.toNat;refine aA (A:=True) ⟨.int t.1,rfl,t.1.toNat,(rowOf (lft (arcs.take i) U) t.1.toNat).map pD,?_,rY _ (),.int t.2,rfl,zK,rfl,by rw[Ä];lia,?_⟩
   ·unfold ixN rP;rw[eD j,eD (by rw[Ä,gO];lia)]
   ·show [_,_,_,Sl.rw 0 ((rP (stOf n.toNat (lft (arcs.take i) U))).set t.1.toNat ((rowOf (lft (arcs.take i) U) t.1.toNat).map pD++[pD (t.2,((i:Nat):Int))])),_,_]=[_,_,_,Sl.rw 0 (rP (stOf n.toNat (lft (arcs.take (i+1)) U))),_,_]
    rw[a,←h];rfl
 ·rintro ρ rfl;rw[cY,Ä,Ĳ];refine⟨rfl,?_⟩;show P (.list ((rP (stOf n.toNat (lft arcs U))).map ĉ));rw[CG];exact q
def oU:([c6,aE,a8,bd,bX,bb,"turn","found"]:List Str).Nodup:=⋯
def tM(F:Fun K dy dy (top 27) f fd)(B:ĩ mg)(m:kA6 P w K mg base)(o:kA4 P w K mg base)(p:ċ P w K mg base 1 dS [aE,a8,bb] (spD Sd)):FnOk P w K mg base CX0 2 f fd [aE,a8,bd,bX] (spD XF):=by
 refine okT F (N:=[aE,a8,bd,bX,bb,"turn","found"]) zC (λhr nd=>È (å none (i:=4) nd rfl zQ (æ Á))
  (È (ĵ ô rfl (Į B.range (À Å Á)) (ä (i:=5) nd rfl zQ) (È (å none (i:=6) nd rfl zQ (ú m hr (À (ú o hr (À (ú p hr (À (Ã 0) (À (Ã 1) (À (Ã 4) Á)))) (À (Ã 2) Á))) (À (Ã 3) Á))))
  (È (ø (Wr.lV (Ã 6) ŗ) (Ô (Û ŗ)) à)
  (È (å none (i:=4) nd rfl zQ (Ś [c6] rfl (Į B.range (À (ĝ B.len (À (Ã 1) Á)) Á)) (λc=>(ä (i:=0) oU rfl zQ)) (λc=>(ť (ł hr.units (Wr.vG hr.units (Ã 0) (Ã 5)) (Wr.vG hr.units (Ã 0) (Î (Ã 7) Å))))) (λc=>(Ã 0)))) (í [5,6] à)))))
  (í [5,6] (Ô (Û (Ã 4)))))) ?_
 rintro ds P ⟨n,arcs,a,b,rfl,n0,E,h,ok,j,H,q⟩;refine⟨[.im (.int n),.sh (.list (arcs.map pD)),.im (.int a),.im (.int b),.any,.any,.any],rfl,?_⟩;generalize z:aug n.toNat arcs a b 2 []=G at q;refine⟨zK,⟨∅,∅⟩,rfl,λ(i:Nat) ρ=>∃U,InL arcs U/\aug n.toNat arcs a b (2 - i) U=G/\ρ=[.im (.int n),.sh (.list (arcs.map pD)),.im (.int a),.im (.int b),.sn (iD U),.any,.any],⟨[],⟨Ă _,(λi hi=>nomatch hi)⟩,z,rfl⟩,?_,?_⟩
 ·rintro i d ρ hd ⟨U,k,e,rfl⟩;let⟨hi,rfl⟩:=bI hd;have l:=tZ (U:=U) () h ok;have S:=kW (n:=n.toNat) l j ();have u:=S.few;refine⟨n,arcs,U,rfl,n0,E,h,ok,k,n.toNat,lft arcs U,a,rfl,(),l,j,(),lft arcs U,a,srM n.toNat (lft arcs U) a,b,rfl,S.cm,(),?_⟩;have t:2 - i=(1 - i)+1:=()
  rw[t]at e;unfold aug at e;show(match Dl.stK none _ 6 (norm (norm .new (cT (cu n.toNat (lft arcs U) a b))) (cT (cu n.toNat (lft arcs U) a b))) (cT (cu n.toNat (lft arcs U) a b))with
   |some s=>_
   |none=>False)
  cases hp:cu n.toNat (lft arcs U) a b with
  |none =>
   rw[hp]at e;refine au (B:=True) ⟨rfl,?_⟩;rw[←e]at q;exact q
  |some r =>
   rw[hp]at e;let⟨I,g⟩:=r;have D:⇑(arcs.map pD)=⇑arcs:=Ä ..;have C:∀x y:Bool,(!decide (x=y))=(x != y):=λx y=>by cases x <;> cases y <;> rfl
   refine aA (A:=True) ⟨⟨(),()⟩,?_⟩;refine fK (ß ⇑arcs) (λv=>Â (0+((v:Nat):Int))) (λv=>decide ((0+((v:Nat):Int))∈U) != decide ((0+((v:Nat):Int))∈g)) (λv=>Â (0+((v:Nat):Int))) .imm ?_ (by rw[Ċ];lia) (λv hv A B hA hB=>?_) ?_
   ·rw[D,ķ];rfl
   ·refine⟨rfl,ń U,_,rfl,rfl,ń g,?_⟩;show if(!decide (((U.map Â).any λe=>Ü e (.int (0+((v:Nat):Int))))=((g.map Â).any λe=>Ü e (.int (0+((v:Nat):Int))))))=true then _ else _
    rw[Ć,Ć,C];exact bC (λc=>⟨rfl,hA c⟩) (λc=>hB (Ĝ.mpr c))
   show ∃U',InL arcs U'/\aug n.toNat arcs a b (2 - (i+1)) U'=G/\[Sl.im (.int n),.sh (.list (arcs.map pD)),.im (.int a),.im (.int b),.sn (.list (((ß ⇑arcs).filter λv=>decide ((0+((v:Nat):Int))∈U) != decide ((0+((v:Nat):Int))∈g)).map λv=>Â (0+((v:Nat):Int)))),.any,.any]=[Sl.im (.int n),.sh (.list (arcs.map pD)),.im (.int a),.im (.int b),.sn (iD U'),.any,.any]
   refine⟨sd ⇑arcs U g,Rk h,by rw[show 2 - (i+1)=1 - i by lia];exact e,?_⟩;rw[Tp];rfl
 ·rintro ρ ⟨U,k,e,rfl⟩;have e:some U=G:=e;rw[←e]at q;exact⟨rfl,q⟩
def tR:([c6,aE,a8,bb,bd,bX,ez,"rest",ck]:List Str).Nodup:=⋯
def xK(F:Fun K eg eg (top 28) f fd)(B:ĩ mg)(m:kA6 P w K mg base)(o:kA4 P w K mg base)(p:ċ P w K mg base 1 du [aE,a8,bb] (spD Nh)):FnOk P w K mg base CX0 2 f fd [aE,a8,bb,bd,bX] (spD Yd):=by
 refine okT F (N:=[aE,a8,bb,bd,bX,ez,"rest",ck]) zC (λhr nd=>È (å none (i:=5) nd rfl zQ (ú m hr (À (ú o hr (À (ú p hr (À (Ã 0) (À (Ã 1) (À (Ã 2) Á)))) (À (Ã 3) Á))) (À (Ã 4) Á))))
  (È (Wr.jy none [c6] (i:=6) rfl nd rfl zQ (ħ (Ã 2)) (λc=>(ä (i:=0) tR rfl zQ)) (λc=>(ť (ĭ hr.units (Ã 0) (Î (Ã 6) Å)))) (λc=>(Ã 0)))
  (È (å none (i:=7) nd rfl zQ (ú m hr (À (ú o hr (À (ú p hr (À (Ã 0) (À (Ã 1) (À (Ã 6) Á)))) (À (Ã 3) Á))) (À (Ã 4) Á))))
  (Ô (Û (æ (À (Ã 5) (À (Ã 7) Á)))))))) ?_
 rintro ds P ⟨n,arcs,U,a,b,d,D,rfl,n0,u,t,ok,g,k,C,y,z,q⟩;refine⟨[.im (.int n),.sh (.list (arcs.map pD)),.sh (iD U),.im (.int a),.im (.int b),.any,.any,.any],rfl,?_⟩;have v:=yV () ok g;have S:=kW (n:=n.toNat) v k ();have x:=S.few;refine⟨n,arcs,U,rfl,n0,u,t,ok,g,n.toNat,alg arcs U,a,rfl,(),v,k,(),alg arcs U,a,srM n.toNat (alg arcs U) a,b,rfl,S.cm,(),?_⟩;show(match Dl.stK none _ 5 (norm (norm .new (cT (cu n.toNat (alg arcs U) a b))) (cT (cu n.toNat (alg arcs U) a b))) (cT (cu n.toNat (alg arcs U) a b))with
  |some s=>_
  |none=>False)
 rw[y];refine fK U Â (λi=>!decide (i∈d.2)) Â .imm rfl (by have:=g.1;lia) (λi hi A B hA hB=>?_) ?_
 ·refine⟨_,rfl,rfl,ń d.2,?_⟩;show if(!((d.2.map Â).any λe=>Ü e (.int i)))=true then _ else _
  rw[Ć];exact bC (λc=>⟨rfl,hA c⟩) (λc=>hB (Ĝ.mpr c))
 have h:InL arcs (U.filter λi=>!decide (i∈d.2)):=⟨þ (ć _ _) g.1,λi hi=>g.2 i (á.mp hi).1⟩
 have j:=yV () ok h;have l:=kW (n:=n.toNat) j k ();have r:=l.few;refine⟨n,arcs,_,rfl,n0,u,t,ok,h,n.toNat,alg arcs (U.filter λi=>!decide (i∈d.2)),a,rfl,(),j,k,(),alg arcs (U.filter λi=>!decide (i∈d.2)),a,srM n.toNat (alg arcs (U.filter λi=>!decide (i∈d.2))) a,b,rfl,l.cm,(),?_⟩;show(match Dl.stK none _ 7 (norm (norm .new (cT (cu n.toNat (alg arcs (U.filter λi=>!decide (i∈d.2))) a b))) (cT (cu n.toNat (alg arcs (U.filter λi=>!decide (i∈d.2))) a b))) (cT (cu n.toNat (alg arcs (U.filter λi=>!decide (i∈d.2))) a b))with
  |some s=>_
  |none=>False)
 rw[z];exact⟨zK,rfl,q⟩
end
def bZ:Nat->(Nat->Int)->Int
 |0,_=>0
 |k+1,g=>bZ k g+g k
theorem dR{g h:Nat->Int}:∀{L:Nat},(∀i,i<L->g i=h i)->bZ L g=bZ L h
 |0,_=>rfl
 |L+1,e=>by
  show bZ L g+g L=bZ L h+h L;rw[dR λi hi=>e i (),e L ()]
theorem sum_add{g h:Nat->Int}:∀L:Nat,bZ L (λi=>g i+h i)=bZ L g+bZ L h
 |0=>rfl
 |L+1=>by
  show bZ L (λi=>g i+h i)+(g L+h L)=bZ L g+g L+(bZ L h+h L)
  rw[sum_add L];lia
theorem lH:∀L:Nat,bZ L (λ_=>0)=0
 |0=>rfl
 |L+1=>by
  show bZ L (λ_=>0)+0=0;rw[lH L];rfl
theorem qG{g:Nat->Int}{j:Nat}:∀{L:Nat},j<L->bZ L (λi=>if i=j then g i else 0)=g j
 |L+1,h=>by
  show bZ L (λi=>if i=j then g i else 0)+(if L=j then g L else 0)=g j;by_cases e:L=j
  ·subst e;rw[eD rfl,dR (h:=λ_=>0) λi hi=>eH (),lH];lia
  ·rw[eH e,qG ()];lia
theorem JW{g:Nat->Int}:∀{L:Nat},(∀i,i<L->g i<=0)->bZ L g<=0
 |0,_=>Ŭ _
 |L+1,h=>by
  have h1:=JW (L:=L) (g:=g) λi hi=>h i (ĕ hi);have h2:=h L ();show bZ L g+g L<=0;lia
theorem JX{g:Nat->Int}:∀{L:Nat},(∀i,i<L->0<=g i)->0<=bZ L g
 |0,_=>Ŭ _
 |L+1,h=>by
  have h1:=JX (L:=L) (g:=g) λi hi=>h i (ĕ hi);have h2:=h L ();show 0<=bZ L g+g L;lia
def Ov{g:Nat->Int}{i j L:Nat}(hi:i<L)(c:j<L)(d:i≠j)(h:∀k,k<L->0<=g k):g i+g j<=bZ L g:=by
 have e:bZ L g=bZ L (λk=>if k=i then g k else 0)+(bZ L (λk=>if k=j then g k else 0)+bZ L (λk=>if k=i\/k=j then 0 else g k)):=by
  rw[←sum_add,←sum_add];refine dR λk hk=>?_;by_cases a:k=i
  ·subst a;rw[eD rfl,eH d,eD (.inl rfl)];lia
  ·by_cases b:k=j
   ·subst b;rw[eH a,eD rfl,eD (.inr rfl)];lia
   ·rw[eH a,eH b,eH (λz=>z.elim a b)];lia
 have r:0<=bZ L (λk=>if k=i\/k=j then 0 else g k):=JX λk hk=>by
  by_cases z:k=i\/k=j
  ·rw[eD z];exact Ŭ _
  ·rw[eH z];exact h k hk
 rw[qG hi,qG c]at e;lia
theorem FN{g:Nat->Int}:∀{L:Nat},0<bZ L g->∃i,i<L/\0<g i
 |0,h=>eI (show(0:Int)<0 from h) ∅
 |L+1,h=>by
  have h:0<bZ L g+g L:=h;by_cases e:0<g L
  ·exact⟨L,(),e⟩
  ·let⟨i,hi,hg⟩:=FN (L:=L) (g:=g) ();exact⟨i,(),hg⟩
def chi(S:Int->Bool)(x:Int):Int:=if S x=true then 1 else 0
def flo(arcs:List Tie)(S:Int->Bool)(i:Nat):Int:=chi S (bK arcs i).1 - chi S (bK arcs i).2
def net(arcs:List Tie)(U:List Int)(S:Int->Bool):Int:=bZ ⇑arcs λi=>if((i:Nat):Int)∈U then flo arcs S i else 0
def Flow(arcs:List Tie)(a b c:Int)(U:List Int):Prop:=∀S,net arcs U S=c * (chi S a - chi S b)
def NT(S:Int->Bool)(x:Int):0<=chi S x/\chi S x<=1:=by
 unfold chi;cases S x
 ·exact⟨∅,∅⟩
 ·exact⟨∅,∅⟩
def uP{S:Int->Bool}{x:Int}(h:S x=true):chi S x=1:=eD h
def Bx{S:Int->Bool}{x:Int}(h:S x=false):chi S x=0:=by
 unfold chi;rw[h];rfl
def Wy.hop{b:List Put}{a:Int}{P K:List Int}{x:Int}(h:Wy b a P K x):∀k∈K,∃p y,(p,(y,k))∈b/\y∈P:=by
 induction h with
 |one=>exact λk hk=>nomatch hk
 |step h hx j ih =>
  intro k hk;rcases â.mp hk with z|z
  ·let⟨p,y,h1,h2⟩:=ih k z;exact⟨p,y,h1,é _ h2⟩
  ·rw[Ê.mp z];exact⟨_,_,j,ç _ (Ê.mpr rfl)⟩
def Jx{c:List Put}{L:Nat}{g:Nat->Int}{S:Int->Bool}{a:Int}{P K:List Int}{x:Int}(hg:∀p y k,(p,(y,k))∈c->∃j:Nat,k=((j:Nat):Int)/\j<L/\g j=chi S p - chi S y)(n:∀p y p' y' k,(p,(y,k))∈c->(p',(y',k))∈c->y=y')(h:Wy c a P K x):bZ L (λi=>if((i:Nat):Int)∈K then g i else 0)=chi S a - chi S x:=by
 induction h with
 |one =>
  rw[dR (h:=λ_=>0) λi _=>eH (λz=>nomatch z),lH];lia
 |@step P K p y k h hx j ih =>
  let⟨q,rfl,l,f⟩:=hg _ _ _ j;have m:((q:Nat):Int)∉K:=λz=>by
   let⟨p',y',h1,h2⟩:=h.hop _ z;rw[n _ _ _ _ _ j h1]at hx;exact hx h2
  have e:bZ L (λi=>if((i:Nat):Int)∈K++[((q:Nat):Int)]then g i else 0)=bZ L (λi=>if((i:Nat):Int)∈K then g i else 0)+bZ L (λi=>if i=q then g i else 0):=by
   rw[←sum_add];refine dR λi _=>?_;by_cases d:i=q
   ·subst d;rw[eD (ç _ (Ê.mpr rfl)),eH m,eD rfl];lia
   ·rw[eH d];by_cases b:((i:Nat):Int)∈K
    ·rw[eD (é _ b),eD b];lia
    ·rw[eH (λz=>(â.mp z).elim b λz=>d (by have:=Ê.mp z;lia)),eH b];lia
  rw[e,ih,qG l,f];lia
def jU{arcs:List Tie}{j:Nat}{t:Tie}(h:arcs[j]?=some t):bK arcs ((j:Nat):Int)=t:=by
 unfold bK;rw[ķ,ā,h];rfl
def uy(arcs:List Tie)(a b:Int):Flow arcs a b 0 []:=λS=>by
 unfold net;rw[dR (h:=λ_=>0) λi _=>eH (λz=>nomatch z),lH,Int.zero_mul]
def U3{L:Nat}{U K:List Int}{i:Nat}(hi:i<L):((i:Nat):Int)∈sd L U K↔¬(((i:Nat):Int)∈U↔((i:Nat):Int)∈K):=by
 unfold sd;rw[á];have h1:((i:Nat):Int)∈zI (ß L):=xY.mpr ⟨(),()⟩;by_cases a:((i:Nat):Int)∈U <;> by_cases b:((i:Nat):Int)∈K <;> simp[a,b,h1]
def Bl{arcs:List Tie}{a b c:Int}{U P K:List Int}(h:Flow arcs a b c U)(w:Wy (lft arcs U) a P K b):Flow arcs a b (c+1) (sd ⇑arcs U K):=λS=>by
 have s:=Jx (L:=⇑arcs) (g:=λi=>if((i:Nat):Int)∈U then - flo arcs S i else flo arcs S i) (S:=S) (λp y k hk=>?_) (λp y p' y' k h1 h2=>?_) w
 ·have e:net arcs (sd ⇑arcs U K) S=net arcs U S+bZ ⇑arcs (λi=>if((i:Nat):Int)∈K then(if((i:Nat):Int)∈U then - flo arcs S i else flo arcs S i)else 0):=by
   unfold net;rw[←sum_add];refine dR λi hi=>?_;have m:=U3 (U:=U) (K:=K) hi;by_cases u:((i:Nat):Int)∈U <;> by_cases k:((i:Nat):Int)∈K
   ·rw[eH (λz=>m.mp z ⟨λ_=>k,λ_=>u⟩),eD u,eD k,eD u];lia
   ·rw[eD (m.mpr λz=>k (z.mp u)),eD u,eH k];lia
   ·rw[eD (m.mpr λz=>u (z.mpr k)),eH u,eD k,eH u];lia
   ·rw[eH (λz=>m.mp z ⟨λq=>eI q u,λq=>eI q k⟩),eH u,eH k];lia
  rw[e,s,h S,Int.add_mul,Int.one_mul]
 ·obtain⟨j,rfl,⟨hu,e⟩|⟨hu,e⟩⟩:=iz.mp hk
  ·refine⟨j,rfl,(Ç.mp e).1,?_⟩;show(if((j:Nat):Int)∈U then - flo arcs S j else flo arcs S j)=_;rw[eD hu];unfold flo;rw[jU e];show -(chi S y - chi S p)=chi S p - chi S y;lia
  ·refine⟨j,rfl,(Ç.mp e).1,?_⟩;show(if((j:Nat):Int)∈U then - flo arcs S j else flo arcs S j)=_;rw[eH hu];unfold flo;rw[jU e]
 ·let⟨j,rfl,t⟩:=iz.mp h1;let⟨r,x,v⟩:=iz.mp h2;have o:j=r:=()
  subst o;rcases t with⟨l,f⟩|⟨l,f⟩ <;> rcases v with⟨n,d⟩|⟨n,d⟩
  ·rw[f]at d;cases d;rfl
  ·exact eI l n
  ·exact eI n l
  ·rw[f]at d;cases d;rfl
def Q9{arcs:List Tie}{U:List Int}(a:InL arcs U){S:Int->Bool}{p y k:Int}(hk:(p,(y,k))∈alg arcs U):∃j:Nat,k=((j:Nat):Int)/\j<⇑arcs/\flo arcs S j=chi S p - chi S y:=by
 let⟨h1,h2⟩:=iB.mp hk;let⟨b,c⟩:=a.2 k h1;refine⟨k.toNat,(),(),?_⟩;unfold flo;rw[show((k.toNat:Nat):Int)=k by lia,h2]
def Ja{arcs:List Tie}{a b c:Int}{U P K:List Int}(j:InL arcs U)(h:Flow arcs a b c U)(w:Wy (alg arcs U) a P K b):Flow arcs a b (c - 1) (U.filter λi=>!decide (i∈K)):=λS=>by
 have s:=Jx (L:=⇑arcs) (g:=flo arcs S) (S:=S) (λp y k hk=>Q9 j hk) (λp y p' y' k h1 h2=>?_) w
 ·have e:net arcs U S=net arcs (U.filter λi=>!decide (i∈K)) S+bZ ⇑arcs (λi=>if((i:Nat):Int)∈K then flo arcs S i else 0):=by
   unfold net;rw[←sum_add];refine dR λi hi=>?_;have m:((i:Nat):Int)∈(U.filter λi=>!decide (i∈K))↔((i:Nat):Int)∈U/\((i:Nat):Int)∉K:=by
    rw[á,ş,decide_eq_false_iff_not]
   by_cases k:((i:Nat):Int)∈K
   ·have u:((i:Nat):Int)∈U:=by
     let⟨p,y,h1,_⟩:=w.hop _ k;exact(iB.mp h1).1
    rw[eD u,eH (λz=>(m.mp z).2 k),eD k];lia
   ·by_cases u:((i:Nat):Int)∈U
    ·rw[eD u,eD (m.mpr ⟨u,k⟩),eH k];lia
    ·rw[eH u,eH (λz=>u (m.mp z).1),eH k];lia
  have f:=h S;rw[e,s]at f;rw[Int.sub_mul,Int.one_mul];lia
 ·have d:=(iB.mp h1).2;rw[(iB.mp h2).2]at d;cases d;rfl
def Bk{arcs:List Tie}{a b c:Int}{U:List Int}(hc:0<c)(h:Flow arcs a b c U):Rt (edg (alg arcs U)) a b:=by
 by_cases r:Rt (edg (alg arcs U)) a b
 ·exact r
 ·exfalso;have d:=h (RZ (edg (alg arcs U)) a);rw[uP (bM.mpr (.refl _)),Bx (Ĝ.mpr λz=>r (bM.mp z))]at d;have le:net arcs U (RZ (edg (alg arcs U)) a)<=0:=JW λi hi=>by
   by_cases u:((i:Nat):Int)∈U
   ·rw[eD u];unfold flo;cases e:RZ (edg (alg arcs U)) a (bK arcs ((i:Nat):Int)).1 with
    |false =>
     rw[Bx e];have:=NT (RZ (edg (alg arcs U)) a) (bK arcs ((i:Nat):Int)).2;lia
    |true =>
     have f:Rt (edg (alg arcs U)) a (bK arcs ((i:Nat):Int)).2:=.step (bM.mp e) (jQ.mpr ⟨_,iB.mpr ⟨u,rfl⟩⟩);rw[uP e,uP (bM.mpr f)];lia
   ·rw[eH u];exact Ŭ _
  lia
def oN(n a b v:Int):Int:=if v=a\/v=b then v else v+n
def inn(n a b:Int):List Int:=(zI (ß n.toNat)).filter λv=>!decide (v=a\/v=b)
def bT(n a b:Int)(us:List Tie):List Tie:=us.flatMap λt=>[(oN n a b t.1,t.2),(oN n a b t.2,t.1)]
def aF(n a b:Int)(us:List Tie):List Tie:=bT n a b us++(inn n a b).map λv=>(v,v+n)
def dI(n a b:Int)(us:List Tie):⇑(bT n a b us)=2 * ⇑us:=wG (λt:Tie=>(oN n a b t.1,t.2)) (λt:Tie=>(oN n a b t.2,t.1)) us
theorem wu(n a b:Int):∀(us:List Tie) (k:Nat) {t:Tie},us[k]?=some t->(bT n a b us)[2 * k]?=some (oN n a b t.1,t.2)/\(bT n a b us)[2 * k+1]?=some (oN n a b t.2,t.1)
 |u::us,0,t,h=>by
  cases h;exact⟨rfl,rfl⟩
 |u::us,k+1,t,h=>by
  have:=wu n a b us k (t:=t) h;exact this
def cR{n a b v:Int}:v∈inn n a b↔(0<=v/\v<n)/\v≠a/\v≠b:=by
 unfold inn;rw[á,xY,ş,decide_eq_false_iff_not];constructor
 ·rintro⟨⟨c,h1⟩,h2⟩;exact⟨⟨c,()⟩,λz=>h2 (.inl z),λz=>h2 (.inr z)⟩
 ·rintro⟨⟨c,h1⟩,h2,d⟩;exact⟨⟨c,()⟩,λz=>z.elim h2 d⟩
def Vg(n a b:Int):(inn n a b).Nodup:=wK ((wA List.pairwise_lt_range).filter _)
def yt(n a b:Int):⇑(inn n a b)<=n.toNat:=by
 unfold inn zI;refine þ (ć _ _) ?_;rw[Ä,Ċ];exact Õ _
def pI(n a b:Int)(us:List Tie):⇑(aF n a b us)=2 * ⇑us+⇑(inn n a b):=by
 unfold aF;rw[Ñ,dI,Ä]
def pJ{n a b:Int}{us:List Tie}{k:Nat}{t:Tie}(h:us[k]?=some t):(aF n a b us)[2 * k]?=some (oN n a b t.1,t.2)/\(aF n a b us)[2 * k+1]?=some (oN n a b t.2,t.1):=by
 let⟨c,d⟩:=wu n a b us k h;unfold aF;rw[ù (Ç.mp c).1,ù (Ç.mp d).1];exact⟨c,d⟩
def BX{n a b v:Int}{us:List Tie}(h:v∈inn n a b):∃j:Nat,2 * ⇑us<=j/\(inn n a b)[j - 2 * ⇑us]?=some v/\(aF n a b us)[j]?=some (v,v+n):=by
 let⟨i,hi⟩:=ģ h;refine⟨2 * ⇑us+i,(),by rw[show 2 * ⇑us+i - 2 * ⇑us=i by lia];exact hi,?_⟩;unfold aF;rw[Ā (by rw[dI];lia),dI,show 2 * ⇑us+i - 2 * ⇑us=i by lia,Ý,hi];rfl
def gK{n a b:Int}{us:List Tie}{j:Nat}{e:Tie}(h:(aF n a b us)[j]?=some e):(∃t,j<2 * ⇑us/\us[j / 2]?=some t/\((j=2 * (j / 2)/\e=(oN n a b t.1,t.2))\/(j=2 * (j / 2)+1/\e=(oN n a b t.2,t.1))))\/(2 * ⇑us<=j/\∃v,(inn n a b)[j - 2 * ⇑us]?=some v/\e=(v,v+n)):=by
 by_cases g:j<2 * ⇑us
 ·left;have hk:j / 2<⇑us:=()
  have ht:=Ë hk;let⟨d,f⟩:=pJ (n:=n) (a:=a) (b:=b) ht;refine⟨_,g,ht,?_⟩;rcases Nat.mod_two_eq_zero_or_one j with m|m
  ·left;have c:2 * (j / 2)=j:=()
   rw[c,h]at d;exact⟨c.symm,Ö d⟩
  ·right;have c:2 * (j / 2)+1=j:=()
   rw[c,h]at f;exact⟨c.symm,Ö f⟩
 ·right;refine⟨(),?_⟩;unfold aF at h;rw[Ā (by rw[dI];lia),dI,Ý]at h;cases hv:(inn n a b)[j - 2 * ⇑us]? with
  |none=>rw[hv]at h;cases h
  |some v =>
   rw[hv]at h;exact⟨v,rfl,(Ö h).symm⟩
def xR{n a b v:Int}(c:0<=v)(h1:v<n):0<=oN n a b v/\oN n a b v<2 * n:=by
 unfold oN;split <;> lia
def nO{n a b:Int}{us:List Tie}(ok:OkN n us):OkA (2 * n) (aF n a b us):=λe he=>by
 let⟨j,g⟩:=ģ he;rcases gK g with⟨t,_,ht,h⟩|⟨_,v,hv,rfl⟩
 ·let⟨⟨h1,h2⟩,⟨d,f⟩,_⟩:=ok t (Ì ht);have i:=xR (a:=a) (b:=b) h1 h2;have k:=xR (a:=a) (b:=b) d f;rcases h with⟨_,rfl⟩|⟨_,rfl⟩
  ·exact⟨i,by show 0<=t.2;lia,by show t.2<2 * n;lia⟩
  ·exact⟨k,by show 0<=t.1;lia,by show t.1<2 * n;lia⟩
 ·let⟨⟨c,h1⟩,_⟩:=cR.mp (Ì hv);exact⟨⟨c,by show v<2 * n;lia⟩,by show 0<=v+n;lia,by show v+n<2 * n;lia⟩
def Q6{arcs:List Tie}{a b:Int}{U:List Int}(h:Flow arcs a b 1 U)(hr:¬Rt (edg (lft arcs U)) a b):∃i0,i0<⇑arcs/\∀j,j<⇑arcs->RZ (edg (lft arcs U)) a (bK arcs ((j:Nat):Int)).1=true->RZ (edg (lft arcs U)) a (bK arcs ((j:Nat):Int)).2=false->j=i0:=by
 let S:=RZ (edg (lft arcs U)) a
 have d:=h S;have k:chi S a=1:=uP (bM.mpr (.refl _));have l:chi S b=0:=Bx (Ĝ.mpr λz=>hr (bM.mp z));rw[k,l]at d;have st:∀(j:Nat)(p x:Int),(p,(x,((j:Nat):Int)))∈lft arcs U->S p=true->S x=true:=λj p x hm hp=>bM.mpr (.step (bM.mp hp) (jQ.mpr ⟨_,hm⟩));have c:∀i,i<⇑arcs->arcs[i]?=some (bK arcs ((i:Nat):Int)):=λi hi=>rm (arcs:=arcs) (i:=((i:Nat):Int)) () ();have ge:∀i,i<⇑arcs->0<=(if((i:Nat):Int)∈U then flo arcs S i else 0):=λi hi=>by
  by_cases u:((i:Nat):Int)∈U
  ·rw[eD u];unfold flo;cases e:S (bK arcs ((i:Nat):Int)).2 with
   |false =>
    rw[Bx e];have:=NT S (bK arcs ((i:Nat):Int)).1;lia
   |true =>
    have:S (bK arcs ((i:Nat):Int)).1=true:=st i _ _ (iz.mpr ⟨i,rfl,.inl ⟨u,c i hi⟩⟩) e;rw[uP e,uP this];lia
  ·rw[eH u];exact Ŭ _
 have d:bZ ⇑arcs (λi=>if((i:Nat):Int)∈U then flo arcs S i else 0)=1:=d;let⟨i0,f,g⟩:=FN (by rw[d];decide);have g:0<(if((i0:Nat):Int)∈U then flo arcs S i0 else 0):=g;refine⟨i0,f,λj hj h1 h2=>?_⟩;have h1:S (bK arcs ((j:Nat):Int)).1=true:=h1;have h2:S (bK arcs ((j:Nat):Int)).2=false:=h2;by_cases u:((j:Nat):Int)∈U
 ·by_cases e:j=i0
  ·exact e
  ·have:=Ov hj f e ge;have this:(if((j:Nat):Int)∈U then flo arcs S j else 0)+(if((i0:Nat):Int)∈U then flo arcs S i0 else 0)<=_:=this;rw[d,eD u]at this;unfold flo at this;rw[uP h1,Bx h2]at this;unfold flo at g;lia
 ·have:S (bK arcs ((j:Nat):Int)).2=true:=st j _ _ (iz.mpr ⟨j,rfl,.inr ⟨u,c j hj⟩⟩) h1;rw[h2]at this;cases this
def Xa(n a b:Int):oN n a b a=a:=eD (.inl rfl)
def W9(n a b:Int):oN n a b b=b:=eD (.inr rfl)
def BZ{n a b:Int}{us:List Tie}{x y:Int}{k:Nat}(e:us[k]?=some (x,y)\/us[k]?=some (y,x)):∃j,j<⇑(aF n a b us)/\j / 2=k/\j<2 * ⇑us/\bK (aF n a b us) ((j:Nat):Int)=(oN n a b x,y)/\(aF n a b us)[j]?=some (oN n a b x,y):=by
 rcases e with e|e
 ·have g:=(pJ (n:=n) (a:=a) (b:=b) e).1;have hk:=(Ç.mp e).1;exact⟨2 * k,(Ç.mp g).1,(),(),jU g,g⟩
 ·have g:=(pJ (n:=n) (a:=a) (b:=b) e).2;have hk:=(Ç.mp e).1;exact⟨2 * k+1,(Ç.mp g).1,(),(),jU g,g⟩
def Nz{n a b:Int}{us:List Tie}{U:List Int}(ok:OkN n us)(h:Flow (aF n a b us) a b 1 U)(hr:¬Rt (edg (lft (aF n a b us) U)) a b):(∃v,v∈inn n a b/\¬Rt (adj us [] [v]) a b)\/∃k:Nat,k<⇑us/\¬Rt (adj us [((k:Nat):Int)] []) a b:=by
 let⟨d,m,only⟩:=Q6 h hr;rw[pI]at m;generalize p:RZ (edg (lft (aF n a b us) U)) a=S at only;have u:S a=true:=by rw[←p];exact bM.mpr (.refl _)
 have A:S b=false:=by rw[←p];exact Ĝ.mpr λz=>hr (bM.mp z)
 have step:∀(F B:List Int),(∀k:Nat,k=d / 2->d<2 * ⇑us->((k:Nat):Int)∈F)->(∀v,(inn n a b)[d - 2 * ⇑us]?=some v->2 * ⇑us<=d->v∈B)->¬Rt (adj us F B) a b:=λF B hF hB r=>by
  have i:∀x,Rt (adj us F B) a x->S (oN n a b x)=true:=λx r=>by
   induction r with
   |refl=>rw[Xa];exact u
   |@step y z _ t ih =>
    let⟨k,e,L,M⟩:=bG.mp t;let⟨j,E,I,J,s,_⟩:=BZ (n:=n) (a:=a) (b:=b) e;have o:S z=true:=by
     cases f:S z with
     |true=>rfl
     |false =>
      have:=only j E (by rw[s];exact ih) (by rw[s];exact f);subst this;exact eI (hF k I.symm J) L
    by_cases g:z=a\/z=b
    ·unfold oN;rw[eD g];exact o
    ·have O:0<=z/\z<n:=by
      rcases e with e|e
      ·exact(ok _ (Ì e)).2.1
      ·exact(ok _ (Ì e)).1
     have N:z∈inn n a b:=cR.mpr ⟨O,λq=>g (.inl q),λq=>g (.inr q)⟩;let⟨H,K,D,f⟩:=BX (us:=us) N;have G:oN n a b z=z+n:=eH g;rw[G];cases C:S (z+n)with
     |true=>rfl
     |false =>
      have:=only H (Ç.mp f).1 (by rw[jU f];exact o) (by rw[jU f];exact C);subst this;exact eI (hB z D K) M
  have:=i b r;rw[W9,A]at this;cases this
 by_cases c:d<2 * ⇑us
 ·right;refine⟨d / 2,(),step [((d / 2:Nat):Int)] [] (λk hk _=>by rw[hk];exact Ê.mpr rfl) (λv _ l=>())⟩
 ·cases hv:(inn n a b)[d - 2 * ⇑us]? with
  |some v =>
   left;refine⟨v,Ì hv,step [] [v] (λk _ l=>()) (λw hw _=>by rw[hv]at hw;cases hw;exact Ê.mpr rfl)⟩
  |none =>
   exfalso;have:=List.getElem?_eq_none_iff.mp hv;lia
def Ke{n a b:Int}{us:List Tie}(ok:OkN n us){x:Int}(r:Rt (adj us [] []) a x):Rt (edg (lft (aF n a b us) [])) a (oN n a b x):=by
 have st:∀(j:Nat)(e:Tie),(aF n a b us)[j]?=some e->e∈edg (lft (aF n a b us) []):=λj e he=>jQ.mpr ⟨_,iz.mpr ⟨j,rfl,.inr ⟨ò,he⟩⟩⟩;induction r with
 |refl=>rw[Xa];exact .refl _
 |@step y z _ t ih =>
  let⟨k,e,_,_⟩:=bG.mp t;let⟨j,p,u,v,s,g⟩:=BZ (n:=n) (a:=a) (b:=b) e;have d:=Rt.step ih (st j _ g);by_cases c:z=a\/z=b
  ·unfold oN;rw[eD c];exact d
  ·have m:0<=z/\z<n:=by
    rcases e with e|e
    ·exact(ok _ (Ì e)).2.1
    ·exact(ok _ (Ì e)).1
   have l:z∈inn n a b:=cR.mpr ⟨m,λq=>c (.inl q),λq=>c (.inr q)⟩;let⟨i,w,o,f⟩:=BX (us:=us) l;have h:oN n a b z=z+n:=eH c;rw[h];exact .step d (st i _ f)
def piN(n x:Int):Int:=if x<n then x else x - n
def WK{n a b v:Int}(d:0<=v)(h1:v<n):piN n (oN n a b v)=v:=by
 unfold piN oN;by_cases c:v=a\/v=b
 ·rw[eD c,eD h1]
 ·rw[eH c,eH ()];lia
def gD(n:Int)(P:List Int):List Int:=P.filter λx=>decide (x<n)
def gF(T:Nat)(K:List Int):List Int:=(K.filter λi=>decide (i<2 * ((T:Nat):Int))).map λi=>i / 2
def uU{arcs:List Tie}{N:List Int}(hN:InL arcs N){p y k:Int}(j:(p,(y,k))∈alg arcs N):∃i:Nat,k=((i:Nat):Int)/\k∈N/\arcs[i]?=some (p,y):=by
 let⟨h1,h2⟩:=iB.mp j;let⟨a,b⟩:=hN.2 k h1;refine⟨k.toNat,(),h1,?_⟩;rw[rm a b,h2]
def qC{n a b:Int}{us:List Tie}{N P K:List Int}{x:Int}(ok:OkN n us)(ha:0<=a/\a<n)(hN:InL (aF n a b us) N)(h:Wy (alg (aF n a b us) N) a P K x):Wy (aG us) a (gD n P) (gF ⇑us K) (piN n x):=by
 induction h with
 |one =>
  have c:gD n [a]=[a]:=by unfold gD;rw[ī (by exact decide_eq_true ha.2)];rfl
  have d:piN n a=a:=eD ha.2;rw[c,d];exact .one
 |@step P K p y k h hx j ih =>
  let⟨i,rfl,_,hi⟩:=uU hN j;rcases gK hi with⟨t,hl,ht,e⟩|⟨hl,v,hv,e⟩
  ·let⟨⟨h1,h2⟩,⟨m,o⟩,_⟩:=ok t (Ì ht);obtain⟨u,z,s,hp,g,A,B,C,r⟩:∃u z,(us[i / 2]?=some (u,z)\/us[i / 2]?=some (z,u))/\p=oN n a b u/\y=z/\0<=u/\u<n/\0<=z/\z<n:=by
    rcases e with⟨_,e⟩|⟨_,e⟩
    ·exact⟨t.1,t.2,.inl ht,eJ Prod.fst e,eJ Prod.snd e,h1,h2,m,o⟩
    ·exact⟨t.2,t.1,.inr ht,eJ Prod.fst e,eJ Prod.snd e,m,o,h1,h2⟩
   subst hp g;rw[WK A B]at ih;have c:gD n (P++[y])=gD n P++[y]:=by
    unfold gD;rw[Ļ,ī (l:=[]) (by exact decide_eq_true r)];rfl
   have d:gF ⇑us (K++[((i:Nat):Int)])=gF ⇑us K++[((i / 2:Nat):Int)]:=by
    unfold gF;rw[Ļ,ī (l:=[]) (by exact decide_eq_true ()),î];show _++[((i:Nat):Int) / 2]=_;congr 1
   have f:piN n y=y:=eD r;rw[c,d,f];refine .step ih (λq=>hx (á.mp q).1) (bY.mpr ⟨i / 2,rfl,s⟩)
  ·have w:=cR.mp (Ì hv);have hp:p=v:=eJ Prod.fst e;have g:y=v+n:=eJ Prod.snd e;subst hp g;have c:gD n (P++[p+n])=gD n P:=by
    unfold gD;rw[Ļ,ŝ (l:=[]) (by rw[eA ()];exact Ð)];exact ě _
   have d:gF ⇑us (K++[((i:Nat):Int)])=gF ⇑us K:=by
    unfold gF;rw[Ļ,ŝ (l:=[]) (by rw[eA ()];exact Ð)];rw[List.filter_nil,ě]
   have f:piN n (p+n)=piN n p:=by
    unfold piN;rw[eH (),eD w.1.2];lia
   rw[c,d,f];exact ih
def zm{c:List Put}{a:Int}{P K:List Int}{x:Int}(h:Wy c a P K x):∀v∈P,v≠x->∃y k,k∈K/\(v,(y,k))∈c:=by
 induction h with
 |one=>exact λv hv b=>eI (Ê.mp hv) b
 |@step P K p y k h hx j ih =>
  intro v hv b;rcases â.mp hv with z|z
  ·by_cases e:v=p
   ·subst e;exact⟨y,k,ç _ (Ê.mpr rfl),j⟩
   ·let⟨f,d,h1,h2⟩:=ih v z e;exact⟨f,d,é _ h1,h2⟩
  ·exact eI (Ê.mp z) b
def VR{c:List Put}{a:Int}{P K:List Int}{x:Int}(h:Wy c a P K x):a∈P/\x∈P:=by
 induction h with
 |one=>exact⟨Ê.mpr rfl,Ê.mpr rfl⟩
 |step _ _ _ b=>exact⟨é _ b.1,ç _ (Ê.mpr rfl)⟩
def wC{c:List Put}{a:Int}{P K:List Int}{x:Int}(h:Wy c a P K x):∀k∈K,∃p y,(p,(y,k))∈c/\y≠a/\p∈P/\y∈P:=by
 induction h with
 |one=>exact λk hk=>nomatch hk
 |@step P K p y k h hx j ih =>
  let⟨b,pP⟩:=VR h;intro g hk;rcases â.mp hk with z|z
  ·let⟨i,l,h1,h2,d,f⟩:=ih g z;exact⟨i,l,h1,h2,é _ d,é _ f⟩
  ·rw[Ê.mp z];exact⟨p,y,j,(λe=>hx (e ▸ b)),é _ pP,ç _ (Ê.mpr rfl)⟩
def lN{arcs:List Tie}{U K:List Int}(h:InL arcs U):InL arcs (U.filter λi=>!decide (i∈K)):=⟨þ (ć _ _) h.1,λi hi=>h.2 i (á.mp hi).1⟩
def Xc{l:List Int}{i j:Nat}{v:Int}(d:l.Nodup)(h1:l[i]?=some v)(h2:l[j]?=some v):i=j:=by
 let⟨a,b1⟩:=Ç.mp h1;let⟨b,b2⟩:=Ç.mp h2;have c:=List.pairwise_iff_getElem.mp d;rcases Nat.lt_trichotomy i j with z|z|z
 ·exact eI (b1.trans b2.symm) (c _ _ a b z)
 ·exact z
 ·exact eI (b2.trans b1.symm) (c _ _ b a z)
section
variable{n a b:Int}{us:List Tie}{U:List Int}{P1 K1 P2 K2:List Int}
def Im{v y q:Int}{i j:Nat}(hv:v∈inn n a b)(hi:(aF n a b us)[i]?=some (v,y))(m:(aF n a b us)[j]?=some (v,q))(ok:OkN n us):i=j:=by
 have d:=cR.mp hv;have one:∀{i:Nat}{y:Int},(aF n a b us)[i]?=some (v,y)->2 * ⇑us<=i/\(inn n a b)[i - 2 * ⇑us]?=some v:=λ{i y} h=>by
  rcases gK h with⟨t,_,ht,e⟩|⟨hl,w,o,e⟩
  ·exfalso;let⟨⟨h1,h2⟩,⟨l,r⟩,_⟩:=ok t (Ì ht);have f:∀u,0<=u->v≠oN n a b u:=λu u0 z=>by
    unfold oN at z;by_cases c:u=a\/u=b
    ·rw[eD c]at z;rcases c with c|c
     ·exact d.2.1 (z.trans c)
     ·exact d.2.2 (z.trans c)
    ·rw[eH c]at z;lia
   rcases e with⟨_,e⟩|⟨_,e⟩
   ·exact f t.1 h1 (eJ Prod.fst e)
   ·exact f t.2 l (eJ Prod.fst e)
  ·have:v=w:=eJ Prod.fst e;subst this;exact⟨hl,o⟩
 let⟨s,g⟩:=one hi;let⟨x,k⟩:=one m;have p:=Vg n a b;have:=Xc p g k;lia
def rD(ok:OkN n us)(j:InL (aF n a b us) U)(k:Wy (alg (aF n a b us) U) a P1 K1 b)(l:Wy (alg (aF n a b us) (U.filter λi=>!decide (i∈K1))) a P2 K2 b):∀v∈gD n P1,v∈gD n P2->v=a\/v=b:=λv h1 h2=>by
 refine Classical.byContradiction λc=>?_;have m:v≠a:=λz=>c (.inl z);have f:v≠b:=λz=>c (.inr z);let⟨x,g⟩:=á.mp h1;let⟨y,_⟩:=á.mp h2;have g:v<n:=eB g;let⟨H,E,A,s⟩:=zm k v x f;let⟨I,F,G,u⟩:=zm l v y f;let⟨C,rfl,_,h⟩:=uU j s;let⟨D,rfl,d,o⟩:=uU (lN j) u;have B:0<=v:=by
  rcases gK h with⟨t,_,ht,e⟩|⟨_,w,r,e⟩
  ·let⟨⟨h1,h2⟩,⟨p,q⟩,_⟩:=ok t (Ì ht);rcases e with⟨_,e⟩|⟨_,e⟩
   ·have:v=oN n a b t.1:=eJ Prod.fst e;have:=xR (a:=a) (b:=b) h1 h2;lia
   ·have:v=oN n a b t.2:=eJ Prod.fst e;have:=xR (a:=a) (b:=b) p q;lia
  ·have:=(cR.mp (Ì r)).1.1;have:v=w:=eJ Prod.fst e;lia
 have e:=Im (cR.mpr ⟨⟨B,g⟩,m,f⟩) h o ok;subst e;have d:=(á.mp d).2;rw[decide_eq_true A]at d;cases d
def JF(ok:OkN n us)(ha:0<=a/\a<n)(d:InL (aF n a b us) U)(r:Wy (alg (aF n a b us) U) a P1 K1 b)(s:Wy (alg (aF n a b us) (U.filter λi=>!decide (i∈K1))) a P2 K2 b):∀k∈gF ⇑us K1,k∉gF ⇑us K2:=λk h1 h2=>by
 let⟨i,hi,rfl⟩:=õ.mp h1;let⟨j,hj,X⟩:=õ.mp h2;let⟨E,w⟩:=á.mp hi;let⟨j1,B⟩:=á.mp hj;have w:=eB w;have B:=eB B;have M:=qC ok ha d r;have N:=qC ok ha (lN d) s;have I:=rD ok d r s;let⟨p1,y1,Y,F,_,_⟩:=wC r i E;let⟨p2,y2,Z,G,_,_⟩:=wC s j j1;let⟨g,rfl,_,T⟩:=uU d Y;let⟨A,rfl,o,V⟩:=uU (lN d) Z;have ne:g≠A:=λz=>by
  subst z;have o:=(á.mp o).2;rw[decide_eq_true E]at o;cases o
 have v:g / 2=A / 2:=by
  have:((A:Nat):Int) / 2=((g:Nat):Int) / 2:=X;lia
 have c:∀{q:Nat}{p y:Int},((q:Nat):Int)<2 * (⇑us:Int)->(aF n a b us)[q]?=some (p,y)->∃t,us[q / 2]?=some t/\((q=2 * (q / 2)/\y=t.2)\/(q=2 * (q / 2)+1/\y=t.1)):=λ{q p y} hl h=>by
  rcases gK h with⟨t,_,ht,e⟩|⟨hl',_⟩
  ·refine⟨t,ht,?_⟩;rcases e with⟨u,e⟩|⟨u,e⟩
   ·exact .inl ⟨u,eJ Prod.snd e⟩
   ·exact .inr ⟨u,eJ Prod.snd e⟩
  ·lia
 let⟨t,ht,R⟩:=c w T;let⟨t',f,S⟩:=c B V;rw[←v,ht]at f;cases f
 -- both places of the c are C both ways
 have C:∀{P K:List Int}{x:Int},Wy (aG us) a P K x->((g:Nat):Int) / 2∈K->t.1∈P/\t.2∈P:=λ{P K x} W hk=>by
  let⟨p,y,hp,_,J,L⟩:=wC W _ hk;let⟨q,D,h⟩:=bY.mp hp;have D:g / 2=q:=()
  subst D;rw[ht]at h;rcases h with h|h
  ·cases h;exact⟨J,L⟩
  ·cases h;exact⟨L,J⟩
 let⟨O,Q⟩:=C M h1;let⟨b1,b2⟩:=C N h2;have l:=I _ O b1;have m:=I _ Q b2;have nt:=(ok t (Ì ht)).2.2;have H:t.1≠a/\t.2≠a:=by
  rcases R with⟨x1,rfl⟩|⟨x1,rfl⟩ <;> rcases S with⟨x2,rfl⟩|⟨x2,rfl⟩
  ·lia
  ·exact⟨G,F⟩
  ·exact⟨F,G⟩
  ·lia
 rcases l with l|l
 ·exact H.1 l
 ·rcases m with m|m
  ·exact H.2 m
  ·exact nt (l.trans m.symm)
end
def G8{R:Nat->Nat->Bool}{n i:Nat}(hi:i<n)(hs:R i i=true):jt R n i=true↔∀b,b<i->(R i b&&R b i)=false:=by
 unfold jt fH;rw[decide_eq_true_iff,List.head?_filter,List.find?_range_eq_some];constructor
 ·intro h b hb;have:=h.2.2 b hb
  rwa [ş]at this
 ·intro h;refine⟨by rw[hs];rfl,ó.mpr hi,λj hj=>?_⟩;rw[h j hj];rfl
def xX{es:List Tie}(d:∀a b,(a,b)∈es->(b,a)∈es)(n i:Nat):rsI es n ((i:Nat):Int)=zI (fH (RB es) n i):=by
 refine rT jJ (wA (List.pairwise_lt_range.filter _)) λq=>?_;rw[cA,xZ];unfold fH;rw[á,ó,Ï,iK,iK];constructor
 ·rintro⟨⟨c,h1⟩,r⟩;rw[Int.toNat_of_nonneg c];exact⟨c,(),r,r.sym d⟩
 ·rintro⟨c,h1,r,_⟩;rw[Int.toNat_of_nonneg c]at r;exact⟨⟨c,()⟩,r⟩
structure Seen(n:Nat)(es:List Tie)(i:Nat)(m:IM):Prop where
 im:uh m=true
 nd:(aB m).Nodup
 rng:∀x∈aB m,0<=x/\x<n
 is:∀x,x∈aB m↔∃p:Nat,p<i/\Rt es ((p:Nat):Int) x
def Kv{m:IM}(k:Int)(d:D):∀x,x∈aB (d8 m k d)↔x∈aB m\/x=k:=λx=>by
 unfold d8;by_cases h:cC m k=true
 ·rw[eD h];have e:aB (m.map λp=>if p.1=k then(p.1,d)else p)=aB m:=by
   unfold aB;rw[Ī];refine List.map_congr_left λp _=>?_;show(if p.1=k then(p.1,d)else p).1=p.1;split <;> rfl
  rw[e];exact⟨.inl,λz=>z.elim id λz=>z ▸ dN.mp h⟩
 ·rw[eH h];unfold aB;rw[î,â];exact Iff.rfl.trans ⟨λz=>z.imp id Ê.mp,λz=>z.imp id λz=>Ê.mpr z⟩
def O7{m:IM}(k:Int)(d:D)(h:uh m=true)(hd:cM d=true):uh (d8 m k d)=true:=by
 unfold d8;split
 ·unfold uh at *;rw[List.all_map,Ĕ];intro p hp;show cM (if p.1=k then(p.1,d)else p).2=true;split
  ·exact hd
  ·exact Ĕ.mp h p hp
 ·unfold uh at *;rw[List.all_append,h];show(true&&(cM d&&true))=true;rw[hd];rfl
def TV{m:IM}(k:Int)(d:D)(h:(aB m).Nodup):(aB (d8 m k d)).Nodup:=by
 unfold d8;by_cases hh:cC m k=true
 ·rw[eD hh];have e:aB (m.map λp=>if p.1=k then(p.1,d)else p)=aB m:=by
   unfold aB;rw[Ī];refine List.map_congr_left λp _=>?_;show(if p.1=k then(p.1,d)else p).1=p.1;split <;> rfl
  rw[e];exact h
 ·rw[eH hh];unfold aB at *;rw[î];refine ŵ.mpr ⟨h,by simp,λy hy z a=>?_⟩;have a:=Ê.mp a;rw[a];rintro rfl;exact hh (dN.mpr hy)
theorem yC{P:DEnds}{ρ:List Sl}{a:Option Nat}{i:Nat}{k:Kd}{d:D}{s:Sl}(e:stK a ρ i (norm k d) d=some s)(h:P.nx (ρ.set i s)):(match stK a ρ i (norm k d) d with
 |some s=>P.nx (ρ.set i s)
 |none=>False):=by
 rw[e];exact h
def noV(us:List Tie)(v:Int):List Tie:=us.filter λt=>!decide (v=t.1\/v=t.2)
def RV(us:List Tie)(v:Nat):Nat->Nat->Bool:=RB (adj (noV us ((v:Nat):Int)) [] [])
def pwI(n:Nat)(us:List Tie)(v:Nat):List (List Int):=(((ß n).filter (jt (RV us v) n)).filter λa=>decide (a≠v)).map λa=>zI (fH (RV us v) n a)
def U0{n:Int}{us:List Tie}(ok:OkN n us)(v:Int):OkN n (noV us v):=λt ht=>ok t ((á.mp ht).1)
def Qh(us:List Tie)(v:Int):⇑(noV us v)<=⇑us:=ć _ _
def xT{us:List Tie}{v x y:Int}:(x,y)∈adj (noV us v) [] []↔(x,y)∈adj us [] []/\x≠v/\y≠v:=by
 have key:∀(ws:List Tie),(x,y)∈adj ws [] []↔(x,y)∈ws\/(y,x)∈ws:=λws=>by
  rw[bG];constructor
  ·rintro⟨k,e|e,_⟩
   ·exact .inl (Ì e)
   ·exact .inr (Ì e)
  ·rintro(e|e)
   ·let⟨k,hk⟩:=ģ e;exact⟨k,.inl hk,ò,ò⟩
   ·let⟨k,hk⟩:=ģ e;exact⟨k,.inr hk,ò,ò⟩
 have c:∀a b:Int,((a,b):Tie)∈noV us v↔(a,b)∈us/\a≠v/\b≠v:=λa b=>by
  unfold noV;rw[á];simp only[ş,decide_eq_false_iff_not,not_or];constructor
  ·rintro⟨h,h1,h2⟩;exact⟨h,λz=>h1 z.symm,λz=>h2 z.symm⟩
  ·rintro⟨h,h1,h2⟩;exact⟨h,λz=>h1 z.symm,λz=>h2 z.symm⟩
 rw[key,key,c,c];constructor
 ·rintro(⟨h,a,b⟩|⟨h,a,b⟩)
  ·exact⟨.inl h,a,b⟩
  ·exact⟨.inr h,b,a⟩
 ·rintro⟨h|h,a,b⟩
  ·exact .inl ⟨h,a,b⟩
  ·exact .inr ⟨h,b,a⟩
def vJ{us:List Tie}{v a:Int}(r:Rt (adj (noV us v) [] []) a v):a=v:=by
 cases r with
 |refl=>rfl
 |step r t=>exact eI rfl (xT.mp t).2.2
def Wx{n:Nat}{us:List Tie}{v:Nat}(hv:v<n):(uN (RV us v) n n).filter (λl=>!decide (((v:Nat):Int)∈l))=pwI n us v:=by
 unfold uN pwI;rw[Ũ (by rw[Ċ];exact Õ _),List.filter_map];congr 1;refine List.filter_congr λa ha=>?_;show(!decide (((v:Nat):Int)∈zI (fH (RV us v) n a)))=decide (a≠v);have h:((v:Nat):Int)∈zI (fH (RV us v) n a)↔a=v:=by
  rw[xZ];unfold fH;rw[á,Ï];show 0<=((v:Nat):Int)/\v∈ß n/\RV us v a v=true/\RV us v v a=true↔_;constructor
  ·rintro⟨_,_,h,_⟩;have:=vJ (iK.mp h);lia
  ·rintro rfl;exact⟨(),ó.mpr hv,rA _ _,rA _ _⟩
 by_cases e:a=v
 ·rw[decide_eq_true (h.mpr e),eA (λz=>z e)];rfl
 ·rw[eA (λz=>e (h.mp z)),decide_eq_true e];rfl
def TQ(n:Nat)(us:List Tie)(v:Nat):⇑(pwI n us v)<=n:=by
 unfold pwI;rw[Ä];have h1:=ć (λa=>decide (a≠v)) ((ß n).filter (jt (RV us v) n));have h2:=ć (jt (RV us v) n) (ß n);rw[Ċ]at h2;lia
def M9:FF:=λds P=>∃n us,ds=[aq n us]/\0<=n/\n<=60/\⇑us<=100/\OkN n us/\P (.list ((uN (RB (adj us [] [])) n.toNat n.toNat).map iD))
def fPW:FF:=λds P=>∃(n:Int)(us:List Tie)(v:Nat),ds=[aq n us,.int ((v:Nat):Int)]/\1<=n/\n<=60/\⇑us<=100/\OkN n us/\v<n.toNat/\P (.list ((pwI n.toNat us v).map iD))
def U5{Q:Nat->Prop}:∀k,Q k->∃m,m<=k/\Q m/\∀b,b<m->¬Q b:=by
 intro k;induction k using Nat.strongRecOn with
 |ind k ih =>
  intro h;by_cases c:∃b,b<k/\Q b
  ·let⟨b,hb,a⟩:=c;let⟨m,hm,d,hl⟩:=ih b hb a;exact⟨m,(),d,hl⟩
  ·exact⟨k,Õ _,h,λb hb a=>c ⟨b,hb,a⟩⟩
def Tt{us:List Tie}{v a y:Int}(f:a≠v):Rt (adj (noV us v) [] []) a y↔Rt (adj us [] [v]) a y:=by
 constructor
 ·exact Rt.mono λ⟨p,q⟩ h=>by
   let⟨h1,_,c⟩:=xT.mp h;let⟨k,e,hk,_⟩:=bG.mp h1;exact bG.mpr ⟨k,e,hk,λz=>c (Ê.mp z)⟩
 ·intro r;have:Rt (adj (noV us v) [] []) a y/\y≠v:=by
   induction r with
   |refl=>exact⟨.refl _,f⟩
   |@step p q _ t ih =>
    let⟨k,e,hk,d⟩:=bG.mp t;have b:q≠v:=λz=>d (Ê.mpr z);exact⟨.step ih.1 (xT.mpr ⟨bG.mpr ⟨k,e,hk,ò⟩,ih.2,b⟩),b⟩
  exact this.1
def Ou{n:Nat}{us:List Tie}{v:Nat}{a:Int}(j:0<=a)(o:a<n)(i:a≠((v:Nat):Int)):∃r,(pwI n us v).filter (λl=>decide (a∈l))=rsI (adj us [] [((v:Nat):Int)]) n a::r:=by
 have d:∀x y,(x,y)∈adj (noV us ((v:Nat):Int)) [] []->(y,x)∈adj (noV us ((v:Nat):Int)) [] []:=Ht;have c:∀l∈pwI n us v,a∈l->l=rsI (adj us [] [((v:Nat):Int)]) n a:=λl hl ha=>by
  let⟨x,t,rfl⟩:=õ.mp hl;have e:=xX d n x;have e:zI (fH (RV us v) n x)=rsI (adj (noV us ((v:Nat):Int)) [] []) n ((x:Nat):Int):=e.symm;rw[e]at ha ⊢;have r:=(cA.mp ha).2;refine rT jJ jJ λy=>?_;rw[cA,cA,←Tt i];exact⟨λz=>⟨z.1,(r.sym d).trans z.2⟩,λz=>⟨z.1,r.trans z.2⟩⟩
 let⟨m,q,hm,hl⟩:=U5 (Q:=λk=>Rt (adj (noV us ((v:Nat):Int)) [] []) a ((k:Nat):Int)) a.toNat (by rw[show((a.toNat:Nat):Int)=a by lia];exact .refl _);have h:m<n:=()
 have s:m≠v:=λz=>by
  subst z;exact i (vJ hm)
 have f:zI (fH (RV us v) n m)∈pwI n us v:=by
  refine õ.mpr ⟨m,á.mpr ⟨á.mpr ⟨ó.mpr h,?_⟩,decide_eq_true s⟩,rfl⟩;show jt (RB (adj (noV us ((v:Nat):Int)) [] [])) n m=true;rw[G8 h (rA _ m)];intro b hb;rw[Ĝ];intro z;rw[Ï]at z;exact hl b hb (hm.trans (iK.mp z.1))
 have p:a∈zI (fH (RV us v) n m):=by
  have e:zI (fH (RV us v) n m)=rsI (adj (noV us ((v:Nat):Int)) [] []) n ((m:Nat):Int):=(xX d n m).symm;rw[e,cA];exact⟨⟨j,o⟩,hm.sym d⟩
 cases g:(pwI n us v).filter (λl=>decide (a∈l))with
 |nil=>exact eI (decide_eq_true p) (List.filter_eq_nil_iff.mp g _ f)
 |cons l r =>
  have:=á.mp (show l∈(pwI n us v).filter (λl=>decide (a∈l)) by rw[g];exact Í);exact⟨r,by rw[c l this.1 (eB this.2)]⟩
def fSW:FF:=λds P=>∃(n:Int)(us:List Tie)(v:Nat)(a:Int),ds=[aq n us,.int ((v:Nat):Int),.int a]/\1<=n/\n<=60/\⇑us<=100/\OkN n us/\v<n.toNat/\0<=a/\a<n/\a≠((v:Nat):Int)/\P (iD (rsI (adj us [] [((v:Nat):Int)]) n.toNat a))
open Classical in
def ppF(n:Nat)(us:List Tie)(a b:Int):List Nat->D
 |[]=>.none
 |v::r=>if(((v:Nat):Int)=a\/((v:Nat):Int)=b)\/Rt (adj us [] [((v:Nat):Int)]) a b then ppF n us a b r else .tuple [.str am,.int ((v:Nat):Int),iD (rsI (adj us [] [((v:Nat):Int)]) n a)]
def XM:FF:=λds P=>∃(n:Int)(us:List Tie)(a b:Int),ds=[aq n us,.int a,.int b]/\1<=n/\n<=60/\⇑us<=100/\OkN n us/\0<=a/\a<n/\0<=b/\b<n/\P (ppF n.toNat us a b (ß n.toNat))
section
variable{P:Zc}{w:Zd}{K:ã}{mg:Str->Option Value}{base:Zi}{f:Addr}{fd:YY}{CN:Addr}
abbrev kA7(P w K mg base):=ċ P w K mg base 2 "part_of" [ae,am] (spD R3)
def Lh(F:Fun K "parts" "parts" (top 15) f fd)(B:ĩ mg)(I:kA7 P w K mg base):FnOk P w K mg base CX0 3 f fd [ae] (spD M9):=by
 refine okT F (N:=[ae,"told","seen",am,"part","member"]) zC (λhr nd=>È (å (some 0) (i:=1) nd rfl zQ (æ Á))
  (Wr.Nk 1 true (È (å (some 1) (i:=2) nd rfl zQ Wr.gZ)
  (È (ĵ ô rfl (Į B.range (À (Î (Ã 0) Å) Á)) (ä (i:=3) nd rfl zQ) (È (ø (Wr.eO hr.units (Ã 3) (Ã 2)) (È (å none (i:=4) nd rfl zQ (ú I hr (À (Ã 0) (À (Ã 3) Á))))
  (È (Wr.yG (Đ 1) (À (Ã 4) Á))
  (È (ĵ ô rfl (ħ (Ã 4)) (ä (i:=5) nd rfl zQ) (È (Wr.q9 hr.units (Đ 2) (Ã 5) İ) (í [5] à))) (í [5] à)))) à) (í [3,4,5] à)))
  (í [3,4,5] (Ô (Û (Ã 1)))))))) ?_
 rintro ds P ⟨n,us,rfl,R,L,J,ok,q⟩;refine⟨[.im (aq n us),.any,.any,.any,.any,.any],?_,?_⟩
 ·show [aV (aq n us),.any,.any,.any,.any,.any]=_;rw[fO]
 have s:=yW (F:=[]) (B:=[]) ok ();have E:=Ht (us:=us) (F:=[]);generalize C:adj us [] []=es at s E q;refine⟨zK,rfl,.int n,rfl,⟨(),()⟩,rfl,λ(i:Nat) ρ=>∃m,ρ=[.im (aq n us),.sp 0 true ((uN (RB es) n.toNat i).map iD),.dw 1 (.dict (kvD m)),.any,.any,.any]/\Seen n.toNat es i m,⟨[],rfl,rfl,by simp[aB],λx u=>(nomatch u),λx=>⟨λz=>(nomatch z),λ⟨p,hp,_⟩=>eI hp (Nat.not_lt_zero _)⟩⟩,?_,?_⟩
 ·rintro i d ρ hd ⟨m,rfl,h⟩;let⟨hi,rfl⟩:=bI hd;have l:=NP (RB es) hi;have hl:=Hq (RB es) n.toNat i;refine⟨m,rfl,?_⟩;show if(!cC m (0+((i:Nat):Int)))=true then _ else _
  rw[Int.zero_add];have G:jt (RB es) n.toNat i=!cC m ((i:Nat):Int):=by
   rw[Ė,G8 hi (rA es i),ş,←Bool.not_eq_true,dN,h.is];constructor
   ·rintro z ⟨p,hp,r⟩;have:=z p hp;rw[iK.mpr r,iK.mpr (r.sym E)]at this;cases this
   ·intro z b hb;rw[Bool.and_eq_false_iff,←Bool.not_eq_true,←Bool.not_eq_true,iK,iK];exact .inr λr=>z ⟨b,hb,r⟩
  cases hb:cC m ((i:Nat):Int)with
  |true =>
   rw[G,hb,eH ∅,ě]at l;refine aA (A:=True) ⟨m,?_,h.im,h.nd,h.rng,λx=>?_⟩
   ·rw[l];rfl
   ·rw[h.is];constructor
    ·rintro⟨p,hp,r⟩;exact⟨p,(),r⟩
    ·rintro⟨p,hp,r⟩;by_cases e:p=i
     ·subst e;let⟨M,D,Q⟩:=(h.is _).mp (dN.mp hb);exact⟨M,D,Q.trans r⟩
     ·exact⟨p,(),r⟩
  |false =>
   rw[G,hb,eD ∅]at l;refine au (B:=True) ⟨n,us,_,rfl,(),(),J,ok,(),(),?_⟩;rw[C];have o:∀x,x∈rsI es n.toNat ((i:Nat):Int)↔Rt es ((i:Nat):Int) x:=λx=>by
    rw[cA];exact⟨λz=>z.2,λr=>⟨r.rng (λt ht=>(s t ht).2) ⟨(),()⟩,r⟩⟩
   rw[←xX E]at l;have O:=Kf es n.toNat ((i:Nat):Int);generalize rsI es n.toNat ((i:Nat):Int)=v at l o O;refine⟨rfl,by rw[Ä];lia,?_⟩;refine⟨rfl,λ(j:Nat) ρ=>∃g,ρ=[.im (aq n us),.sp 0 true ((uN (RB es) n.toNat (i+1)).map iD),.dw 1 (.dict (kvD g)),.im (.int ((i:Nat):Int)),.sn (iD v),.any]/\uh g=true/\(aB g).Nodup/\∀x,x∈aB g↔x∈aB m\/x∈v.take j,⟨m,?_,h.im,h.nd,λx=>⟨.inl,λz=>z.elim id λz=>nomatch z⟩⟩,?_,?_⟩
   ·rw[l,î];rfl
   ·rintro j d ρ hd ⟨g,rfl,c,k,a⟩;let⟨x,u,rfl⟩:=fJ hd;have S:=(o x).mp (Ì u);have tk:v.take (j+1)=v.take j++[x]:=by rw[Ĭ,u];rfl
    have H:=gB k λy hy=>show 0<=y/\y<n.toNat from by
     rcases(a y).mp hy with z|z
     ·exact h.rng y z
     ·exact((o y).mp (ň z)).rng (λt ht=>(s t ht).2) ⟨(),()⟩
    unfold aB at H;rw[Ä]at H;refine⟨g,rfl,rfl,c,(),d8 g x (.bool true),rfl,O7 _ _ c rfl,TV _ _ k,λy=>?_⟩;rw[Kv,a,tk,â,Ê,or_assoc]
   ·rintro ρ ⟨g,rfl,c,k,a⟩;rw[Ä,Ĳ]at a;refine⟨g,rfl,c,k,λy hy=>?_,λx=>?_⟩
    ·rcases(a y).mp hy with z|z
     ·exact h.rng y z
     ·exact((o y).mp z).rng (λt ht=>(s t ht).2) ⟨(),()⟩
    ·rw[a,h.is,o];constructor
     ·rintro(⟨p,hp,r⟩|r)
      ·exact⟨p,(),r⟩
      ·exact⟨i,(),r⟩
     ·rintro⟨p,hp,r⟩;by_cases e:p=i
      ·subst e;exact .inr r
      ·exact .inl ⟨p,(),r⟩
 ·rintro ρ ⟨m,rfl,h⟩;rw[bD];exact⟨rfl,q⟩
def lD:([az,ae,"v","left"]:List Str).Nodup:=⋯
def lC:(["part",ae,"v","left"]:List Str).Nodup:=⋯
def oF(F:Fun K cx cx (top 23) f fd)(B:ĩ mg)(b:kA3 P w K mg base)(d:ċ P w K mg base 3 "parts" [ae] (spD M9)):FnOk P w K mg base CX0 5 f fd [ae,"v"] (spD fPW):=by
 refine okT F (N:=[ae,"v","left"]) zC (λhr nd=>È (Wr.dz (ú b hr (À (Ã 0) (À (Ã 1) Á))))
  (È (å none (i:=2) nd rfl zQ (ê (À (Î (Ã 0) Å) (À (Wr.gW B.tuple (À (Ś [az] rfl (ħ (Î (Ã 0) Å)) (λc=>(ä (i:=0) lD rfl zQ)) (λc=>(ť (ĭ hr.units (Ã 2) (Ã 0)))) (λc=>(Ã 0))) Á)) Á))))
  (Ô (Û (Ś ["part"] rfl (ħ (ú d hr (À (Ã 2) Á))) (λc=>(ä (i:=0) lC rfl zQ)) (λc=>(ť (ĭ hr.units (Ã 2) (Ã 0)))) (λc=>(Ã 0))))))) ?_
 rintro ds P ⟨n,us,v,rfl,j,a,h,ok,hv,q⟩;refine⟨[.im (aq n us),.im (.int ((v:Nat):Int)),.any],?_,?_⟩
 ·show [aV (aq n us),.im (.int ((v:Nat):Int)),.any]=_;rw[fO]
 refine⟨n,us,_,rfl,(),(),?_⟩;refine⟨.int n,rfl,.tuple (us.map pD),rfl,fK us pD (λt=>!decide (((v:Nat):Int)=t.1\/((v:Nat):Int)=t.2)) pD .imm rfl () (λt ht A B hA hB=>?_) ?_⟩
 ·refine⟨rfl,rfl,?_⟩;show if(!([Â t.1,.int t.2].any λe=>Ü e (.int ((v:Nat):Int))))=true then _ else _
  rw[gM];cases h1:decide (((v:Nat):Int)=t.1\/((v:Nat):Int)=t.2)with
  |true=>exact aA (A:=True) (hB (by rw[h1];rfl))
  |false=>exact au (B:=True) ⟨rfl,hA (by rw[h1];rfl)⟩
 refine⟨zK,yC (s:=.im (aq n (noV us ((v:Nat):Int)))) (by
  show stK none _ 2 (norm _ (aq n (noV us ((v:Nat):Int)))) (aq n (noV us ((v:Nat):Int)))=some (.im (aq n (noV us ((v:Nat):Int))));rw[aN (ni n _)];rfl) ?_⟩
 have g:=Hq (RV us v) n.toNat n.toNat;refine⟨n,noV us ((v:Nat):Int),rfl,(),a,by have:=Qh us ((v:Nat):Int);lia,U0 ok _,fK (uN (RV us v) n.toNat n.toNat) iD (λl=>!decide (((v:Nat):Int)∈l)) iD .snw rfl () (λl hl A B hA hB=>?_) ?_⟩
 ·refine⟨rfl,ń l,?_⟩;show if(!((l.map Â).any λe=>Ü e (.int ((v:Nat):Int))))=true then _ else _
  rw[Ć];cases h1:decide (((v:Nat):Int)∈l)with
  |true=>exact aA (A:=True) (hB (by rw[h1];rfl))
  |false=>exact au (B:=True) ⟨rfl,hA (by rw[h1];rfl)⟩
 ·rw[Wx hv];exact⟨rfl,q⟩
def mK:(["part",ae,"v",bi]:List Str).Nodup:=⋯
def qe(F:Fun K db db (top 35) f fd)(B:ĩ mg)(h:ċ P w K mg base 5 cx [ae,"v"] (spD fPW)):FnOk P w K mg base CX0 6 f fd [ae,"v",bi] (spD fSW):=by
 refine okT F (N:=[ae,"v",bi]) zC (λhr nd=>Ô (Û (Î (Ś ["part"] rfl (ħ (ú h hr (À (Ã 0) (À (Ã 1) Á)))) (λc=>(ä (i:=0) mK rfl zQ)) (λc=>(ť (Wr.eU hr.units (Ã 3) (Ã 0)))) (λc=>(Ã 0))) Å))) ?_;rintro ds P ⟨n,us,v,a,rfl,m,d,k,ok,hv,g,p,o,q⟩;refine⟨[.im (aq n us),.im (.int ((v:Nat):Int)),.im (.int a)],c7 rfl,?_⟩;let⟨r,b⟩:=Ou (n:=n.toNat) (us:=us) g () o;have s:=TQ n.toNat us v;refine⟨n,us,v,rfl,m,d,k,ok,hv,fK (pwI n.toNat us v) iD (λl=>decide (a∈l)) iD .snw rfl () (λl hl A B hA hB=>?_) ?_⟩
 ·refine⟨rfl,ń l,?_⟩;show if((l.map Â).any λe=>Ü e (.int a))=true then _ else _
  rw[Ć];exact bC (λc=>⟨rfl,hA c⟩) (λc=>hB (Ĝ.mpr c))
 rw[b];exact⟨_,bF (j:=0) rfl,rfl,q⟩
abbrev kA8(P w K mg base):=ċ P w K mg base 6 db [ae,"v",bi] (spD fSW)
def oG(F:Fun K cy cy (top 36) f fd)(B:ĩ mg)(l:kA8 P w K mg base):FnOk P w K mg base CX0 7 f fd [ae,bi,bn] (spD XM):=by
 refine okT F (N:=[ae,bi,bn,"v","side"]) zC (λhr nd=>È (ĵ ô rfl (Į B.range (À (Î (Ã 0) Å) Á)) (ä (i:=3) nd rfl zQ) (È (ø (ĭ hr.units (Ã 3) (ê (À (Ã 1) (À (Ã 2) Á)))) (È (å none (i:=4) nd rfl zQ (ú l hr (À (Ã 0) (À (Ã 3) (À (Ã 1) Á)))))
  (Ô (ø (ĭ hr.units (Ã 2) (Ã 4)) (Ô (Û (ê (À Ģ (À (Ã 3) (À (Ã 4) Á)))))) à))) à) (í [3,4] à)))
  (í [3,4] (Ô (Û ŗ)))) ?_
 rintro ds P ⟨n,us,a,b,rfl,s,g,p,ok,j,k,b0,b1,q⟩;refine⟨[.im (aq n us),.im (.int a),.im (.int b),.any,.any],c7 rfl,?_⟩;generalize o:ppF n.toNat us a b (ß n.toNat)=G at q;refine⟨.int n,rfl,⟨(),()⟩,rfl,λ(i:Nat) ρ=>ρ=[.im (aq n us),.im (.int a),.im (.int b),.any,.any]/\ppF n.toNat us a b ((ß n.toNat).drop i)=G,⟨rfl,o⟩,?_,?_⟩
 ·rintro i d ρ hd ⟨rfl,e⟩;let⟨hi,rfl⟩:=bI hd;have m:(ß n.toNat).drop i=i::(ß n.toNat).drop (i+1):=by
   rw[Ŏ (by rw[Ċ];lia),List.getElem_range]
  rw[m]at e;unfold ppF at e;have h:b∈rsI (adj us [] [((i:Nat):Int)]) n.toNat a↔Rt (adj us [] [((i:Nat):Int)]) a b:=by
   rw[cA];exact⟨λz=>z.2,λz=>⟨⟨b0,()⟩,z⟩⟩
  refine⟨zK,rfl,rfl,?_⟩;show if(!([Â a,.int b].any λe=>Ü e (.int (0+((i:Nat):Int)))))=true then _ else _
  rw[gM,Int.zero_add];by_cases c:((i:Nat):Int)=a\/((i:Nat):Int)=b
  ·rw[eD (.inl c)]at e;rw[decide_eq_true c];exact aA (A:=True) ⟨rfl,e⟩
  ·rw[eA c];refine au (B:=True) ⟨n,us,i,a,rfl,s,g,p,ok,hi,j,k,λz=>c (.inl z.symm),?_⟩;refine⟨rfl,ń _,?_⟩;show if(!(((rsI (adj us [] [((i:Nat):Int)]) n.toNat a).map Â).any λe=>Ü e (.int b)))=true then _ else _
   rw[Ć];by_cases r:Rt (adj us [] [((i:Nat):Int)]) a b
   ·rw[eD (.inr r)]at e;rw[decide_eq_true (h.mpr r)];exact aA (A:=True) ⟨rfl,e⟩
   ·rw[eH (λz=>z.elim c r)]at e;rw[eA λz=>r (h.mp z)];rw[←e]at q;exact au (B:=True) ⟨zK,rfl,q⟩
 ·rintro ρ ⟨rfl,e⟩;rw[bD,List.drop_eq_nil_of_le (by rw[Ċ];lia)]at e;have e:PyData.none=G:=e;rw[←e]at q;exact⟨rfl,q⟩
end
def enum_zip(us:List Tie):nC (us.map pD)=us.zipIdx.map λp=>ő [.int ((p.2:Nat):Int),pD p.1]:=by
 refine List.ext_getElem? λi=>?_;rw[dF,Ý,Ý,List.getElem?_zipIdx];cases us[i]? with
 |none=>rfl
 |some t=>simp
def wo(us:List Tie)(F:List Int):List Tie:=(us.zipIdx.filter λp=>decide (((p.2:Nat):Int)∉F)).map (·.1)
def DW{us:List Tie}{F:List Int}{t:Tie}:t∈wo us F↔∃k:Nat,us[k]?=some t/\((k:Nat):Int)∉F:=by
 unfold wo;rw[õ];constructor
 ·rintro⟨⟨u,k⟩,h,rfl⟩;rw[á]at h;exact⟨k,Ą.mp h.1,eB h.2⟩
 ·rintro⟨k,h,a⟩;exact⟨(t,k),á.mpr ⟨Ą.mpr h,decide_eq_true a⟩,rfl⟩
def JB(us:List Tie)(F:List Int):⇑(wo us F)<=⇑us:=by
 unfold wo;rw[Ä];have:=ć (λp:Tie×Nat=>decide (((p.2:Nat):Int)∉F)) us.zipIdx;rw[List.length_zipIdx]at this;exact this
def Rg{n:Int}{us:List Tie}{F:List Int}(h:OkN n us):OkN n (wo us F):=λt ht=>by
 let⟨k,e,_⟩:=DW.mp ht;exact h t (Ì e)
def JC{us:List Tie}{F:List Int}{x y:Int}:(x,y)∈adj (wo us F) [] []↔(x,y)∈adj us F []:=by
 rw[Hu,DW,DW,bG];constructor
 ·rintro(⟨k,e,h⟩|⟨k,e,h⟩)
  ·exact⟨k,.inl e,h,ò⟩
  ·exact⟨k,.inr e,h,ò⟩
 ·rintro⟨k,e|e,h,_⟩
  ·exact .inl ⟨k,e,h⟩
  ·exact .inr ⟨k,e,h⟩
def Rm{us:List Tie}{F:List Int}{a b:Int}:Rt (adj (wo us F) [] []) a b↔Rt (adj us F []) a b:=⟨Rt.mono λ⟨_,_⟩ h=>JC.mp h,Rt.mono λ⟨_,_⟩ h=>JC.mpr h⟩
def Ys:Option ((List Int×List Int)×(List Int×List Int))->D
 |none=>.none
 |some r=>.list [cT (some r.1),cT (some r.2)]
def ptF(n:Nat)(us:List Tie)(a b:Int):List Int->D
 |[]=>.none
 |k::r=>if RZ (adj us [k] []) a b=true then ptF n us a b r else .tuple [.str az,.int k,iD (rsI (adj us [k] []) n a)]
def InL.nil(arcs:List Tie):InL arcs []:=⟨Ă _,(λi hi=>nomatch hi)⟩
theorem uT{n:Int}{arcs:List Tie}{a b:Int}(n0:0<=n)(d:⇑arcs<=200)(ok:OkA n arcs)(f:0<=a)(g:a<n):∀(k:Nat) {c:Int}{U V:List Int},InL arcs U->Flow arcs a b c U->aug n.toNat arcs a b k U=some V->InL arcs V/\Flow arcs a b (c+k) V
 |0,c,U,V,hU,h,e=>by
  cases e;exact⟨hU,by rw[show c+((0:Nat):Int)=c by lia];exact h⟩
 |k+1,c,U,V,hU,h,e=>by
  unfold aug at e;by_cases r:Rt (edg (lft arcs U)) a b
  ·let⟨P,K,hp,W,_,_⟩:=dD (tZ n0 d ok) f () r;rw[hp]at e;have:=uT n0 d ok f g k (Rk d) (Bl h W) e
   rwa [show c+1+((k:Nat):Int)=c+((k+1:Nat):Int) by lia]at this
  ·rw[Ib (tZ n0 d ok) f () r]at e;cases e
def rC{us:List Tie}{a:Int}{P K:List Int}{x:Int}{k:Int}(h:Wy (aG us) a P K x):k∉K->Rt (adj us [k] []) a x:=by
 induction h with
 |one=>exact λ_=>.refl _
 |@step P K p y j h hx hj ih =>
  intro hk;refine .step (ih λz=>hk (é _ z)) (bG.mpr ?_);let⟨i,e,ht⟩:=bY.mp hj;refine⟨i,ht,λz=>hk (ç _ ?_),ò⟩;rw[Ê.mp z]at e;rw[←e];exact Ê.mpr rfl
def Jy{us:List Tie}{a:Int}{P K:List Int}{x:Int}(h:Wy (aG us) a P K x):∀k∈K,0<=k/\k<(⇑us:Int):=λk hk=>by
 let⟨p,y,h1,_⟩:=h.hop k hk;obtain⟨j,rfl,e|e⟩:=bY.mp h1
 ·have:=(Ç.mp e).1;lia
 ·have:=(Ç.mp e).1;lia
theorem Gn{n:Nat}{us:List Tie}{a b:Int}:∀{K:List Int},(∀k∈K,0<=k/\k<(⇑us:Int))->(∃k∈K,¬Rt (adj us [k] []) a b)->∃k:Nat,k<⇑us/\¬Rt (adj us [((k:Nat):Int)] []) a b/\ptF n us a b K=.tuple [.str az,.int ((k:Nat):Int),iD (rsI (adj us [((k:Nat):Int)] []) n a)]
 |[],_,⟨k,hk,_⟩=>nomatch hk
 |k::r,hr,h=>by
  unfold ptF;by_cases e:Rt (adj us [k] []) a b
  ·rw[eD (bM.mpr e)];refine Gn (λj c=>hr j (É _ c)) ?_;let⟨j,c,d⟩:=h;rcases Þ.mp c with rfl|c
   ·exact eI e d
   ·exact⟨j,c,d⟩
  ·rw[eH λz=>e (bM.mp z)];have:=hr k Í;refine⟨k.toNat,(),?_,?_⟩
   ·rw[show((k.toNat:Nat):Int)=k by lia];exact e
   ·rw[show((k.toNat:Nat):Int)=k by lia]
theorem Gm{n:Nat}{us:List Tie}{a b:Int}:∀K:List Int,(norm .new (ptF n us a b K)).le .n0=true
 |[]=>rfl
 |k::r=>by
  unfold ptF;by_cases e:RZ (adj us [k] []) a b=true
  ·rw[eD e];exact Gm r
  ·rw[eH e];rfl
def vg{us:List Tie}{a:Int}{P K:List Int}{x:Int}{v:Int}(h:Wy (aG us) a P K x):v∉P->Rt (adj us [] [v]) a x:=by
 induction h with
 |one=>exact λ_=>.refl _
 |@step P K p y j h hx hj ih =>
  intro hv;refine .step (ih λz=>hv (é _ z)) (bG.mpr ?_);let⟨i,e,ht⟩:=bY.mp hj;refine⟨i,ht,ò,λz=>hv (ç _ ?_)⟩;rw[Ê.mp z];exact Ê.mpr rfl
def jn(n:Int)(T:Nat)(r:List Int×List Int):List Int×List Int:=(gD n r.1,gF T r.2)
def rG(n:Int)(us:List Tie)(a b:Int):Option ((List Int×List Int)×(List Int×List Int)):=match aug (2 * n).toNat (aF n a b us) a b 2 []with
 |none=>none
 |some U=>match cu (2 * n).toNat (alg (aF n a b us) U) a b with
  |none=>none
  |some c=>match cu (2 * n).toNat (alg (aF n a b us) (U.filter λi=>!decide (i∈c.2))) a b with
   |none=>none
   |some d=>some (jn n ⇑us c,jn n ⇑us d)
open Classical in
def byP(n:Int)(us:List Tie)(a b:Int):D:=if RZ (adj us [] []) a b=true then(match rG n us a b with
  |some r=>.tuple [.str ar,cT (some r.1),cT (some r.2)]
  |none=>if ppF n.toNat us a b (ß n.toNat)=.none then(match cu n.toNat (aG us) a b with
    |some w=>ptF n.toNat us a b w.2
    |none=>.none)
   else ppF n.toNat us a b (ß n.toNat))
 else .tuple [.str av,iD (rsI (adj us [] []) n.toNat a)]
def vh{n:Int}{us:List Tie}{a b:Int}{U:List Int}(n0:0<=n)(ok:OkN n us)(f:0<=a)(u:a<n)(c:InL (aF n a b us) U)(h:Flow (aF n a b us) a b 2 U):∃r1 r2,cu (2 * n).toNat (alg (aF n a b us) U) a b=some r1/\cu (2 * n).toNat (alg (aF n a b us) (U.filter λi=>!decide (i∈r1.2))) a b=some r2/\Wy (alg (aF n a b us) U) a r1.1 r1.2 b/\Wy (alg (aF n a b us) (U.filter λi=>!decide (i∈r1.2))) a r2.1 r2.2 b/\(⇑r1.1<=(2 * n).toNat/\⇑r1.2<=(2 * n).toNat)/\⇑r2.1<=(2 * n).toNat/\⇑r2.2<=(2 * n).toNat:=by
 let⟨j,d,s,e,q,o⟩:=dD (yV (n:=2 * n) () (nO ok) c) f () (Bk ∅ h);have m:=Ja c h e;let⟨k,g,t,l,r,p⟩:=dD (yV (n:=2 * n) () (nO ok) (lN (K:=d) c)) f () (Bk ∅ m);exact⟨(j,d),(k,g),s,t,e,l,⟨q,o⟩,r,p⟩
def Hv(n:Int)(us:List Tie)(a b:Int)(d:D):Prop :=
 (¬Rt (adj us [] []) a b/\d=.tuple [.str av,iD (rsI (adj us [] []) n.toNat a)])∨
 (Rt (adj us [] []) a b/\∃v:Nat,((v:Nat):Int)∈inn n a b/\¬Rt (adj us [] [((v:Nat):Int)]) a b/\d=.tuple [.str am,.int ((v:Nat):Int),iD (rsI (adj us [] [((v:Nat):Int)]) n.toNat a)])∨
 (Rt (adj us [] []) a b/\(∀v∈inn n a b,Rt (adj us [] [v]) a b)/\∃k:Nat,k<⇑us/\¬Rt (adj us [((k:Nat):Int)] []) a b/\d=.tuple [.str az,.int ((k:Nat):Int),iD (rsI (adj us [((k:Nat):Int)] []) n.toNat a)])∨
 (Rt (adj us [] []) a b/\(∀v∈inn n a b,Rt (adj us [] [v]) a b)/\(∀k:Nat,Rt (adj us [((k:Nat):Int)] []) a b)/\∃w1 w2:List Int×List Int,Wy (aG us) a w1.1 w1.2 b/\Wy (aG us) a w2.1 w2.2 b/\(∀k∈w1.2,k∉w2.2)/\(∀v∈w1.1,v∈w2.1->v=a\/v=b)/\d=.tuple [.str ar,cT (some w1),cT (some w2)])
theorem qI{n:Nat}{us:List Tie}{a b:Int}:∀l:List Nat,(ppF n us a b l=.none/\∀v∈l,(((v:Nat):Int)=a\/((v:Nat):Int)=b)\/Rt (adj us [] [((v:Nat):Int)]) a b)\/∃v∈l,¬(((v:Nat):Int)=a\/((v:Nat):Int)=b)/\¬Rt (adj us [] [((v:Nat):Int)]) a b/\ppF n us a b l=.tuple [.str am,.int ((v:Nat):Int),iD (rsI (adj us [] [((v:Nat):Int)]) n a)]
 |[]=>.inl ⟨rfl,(λv hv=>nomatch hv)⟩
 |v::r=>by
  by_cases c:(((v:Nat):Int)=a\/((v:Nat):Int)=b)\/Rt (adj us [] [((v:Nat):Int)]) a b
  ·have e:ppF n us a b (v::r)=ppF n us a b r:=by
    conv=>lhs;unfold ppF
    exact eD c
   rw[e];rcases qI r with⟨h1,h2⟩|⟨u,hu,h⟩
   ·refine .inl ⟨h1,λu hu=>?_⟩;rcases Þ.mp hu with rfl|hu
    ·exact c
    ·exact h2 u hu
   ·exact .inr ⟨u,É _ hu,h⟩
  ·refine .inr ⟨v,Í,λz=>c (.inl z),λz=>c (.inr z),?_⟩;unfold ppF;exact eH c
def VB{n:Int}{us:List Tie}{a b:Int}(n0:0<=n)(I:n<=50)(R:⇑us<=60)(ok:OkN n us)(d:0<=a)(j:a<n)(b1:b<n):Hv n us a b (byP n us a b):=by
 unfold byP;have Q:=yt n a b;have s:⇑(aF n a b us)<=200:=by rw[pI];lia
 have f:=nO (a:=a) (b:=b) ok;by_cases r:Rt (adj us [] []) a b
 ·rw[eD (bM.mpr r)];let⟨PW,N,H,W,_,_⟩:=dD (jc n0 (():⇑us<=100) ok) d () (rR.mpr r);cases c:aug (2 * n).toNat (aF n a b us) a b 2 []with
  |none =>
   have e:rG n us a b=none:=by unfold rG;rw[c]
   rw[e,H];let⟨O,C,t,g,_⟩:=dD (tZ (n:=2 * n) (U:=[]) () s f) d () (by have:=Ke (b:=b) ok r;rwa [W9]at this);have E:=Bl (uy (aF n a b us) a b) g;have J:¬Rt (edg (lft (aF n a b us) (sd ⇑(aF n a b us) [] C))) a b:=λm=>by
    let⟨P,M,u,_⟩:=dD (tZ (n:=2 * n) () s f) d () m;unfold aug at c;rw[t]at c;dsimp only at c;unfold aug at c;rw[u]at c;cases c
   have D:=Nz ok (by simpa using E) J;rcases qI (n:=n.toNat) (us:=us) (a:=a) (b:=b) (ß n.toNat)with⟨h1,h2⟩|⟨v,hv,h1,h2,G⟩
   ·have h:∀v∈inn n a b,Rt (adj us [] [v]) a b:=λv hv=>by
     let⟨⟨S,T⟩,w,x⟩:=cR.mp hv;have:=h2 v.toNat (ó.mpr ());rw[show((v.toNat:Nat):Int)=v by lia]at this;exact this.elim (λz=>(z.elim w x).elim) id
    refine .inr (.inr (.inl ⟨r,h,?_⟩));rw[eD h1];rcases D with⟨v,hv,K⟩|⟨k,hk,y⟩
    ·exact eI (h v hv) K
    ·refine Gn (Jy W) ⟨_,?_,y⟩;exact Classical.byContradiction λz=>y (rC W z)
   ·refine .inr (.inl ⟨r,v,cR.mpr ⟨⟨(),by have:=ó.mp hv;lia⟩,λz=>h1 (.inl z),λz=>h1 (.inr z)⟩,h2,?_⟩);rw[G];exact eH (λz=>nomatch z)
  |some U =>
   let⟨i,F⟩:=uT (n:=2 * n) () s f d () 2 (InL.nil _) (uy _ a b) c;let⟨l,m,t,u,g,q,_⟩:=vh n0 ok d j i (by simpa using F);have e:rG n us a b=some (jn n ⇑us l,jn n ⇑us m):=by
    unfold rG;rw[c];dsimp only;rw[t];dsimp only;rw[u]
   rw[e];have L:piN n b=b:=eD b1;have o:=qC ok ⟨d,j⟩ i g;have p:=qC ok ⟨d,j⟩ (lN i) q;rw[L]at o p;have A:=rD ok i g q;have B:=JF ok ⟨d,j⟩ i g q;refine .inr (.inr (.inr ⟨r,λv hv=>?_,λk=>?_,jn n ⇑us l,jn n ⇑us m,o,p,B,A,rfl⟩))
   ·let⟨_,w,x⟩:=cR.mp hv;by_cases h1:v∈gD n l.1
    ·exact vg p λh2=>(A v h1 h2).elim w x
    ·exact vg o h1
   ·by_cases h1:((k:Nat):Int)∈gF ⇑us l.2
    ·exact rC p (B _ h1)
    ·exact rC o h1
 ·rw[eH λz=>r (bM.mp z)];exact .inl ⟨r,rfl⟩
def fWo:FF:=λds P=>∃n us F,ds=[aq n us,iD F]/\⇑us<=100/\P (aq n (wo us F))
def R5:FF:=λds P=>∃n us a b w,ds=[aq n us,.int a,.int b]/\1<=n/\n<=60/\⇑us<=100/\OkN n us/\0<=a/\a<n/\0<=b/\b<n/\cu n.toNat (aG us) a b=some w/\P (ptF n.toNat us a b w.2)
def Yc:FF:=λds P=>∃n us a b,ds=[aq n us,.int a,.int b]/\0<=n/\n<=50/\⇑us<=60/\P (.list ((aF n a b us).map pD))
def fJA:FF:=λds P=>∃n us l k,ds=[aq n us,iD l,iD k]/\⇑us<=60/\⇑l<=200/\⇑k<=200/\P (cT (some (jn n ⇑us (l,k))))
def XH:FF:=λds P=>∃n us a b,ds=[aq n us,.int a,.int b]/\0<=n/\n<=50/\⇑us<=60/\OkN n us/\0<=a/\a<n/\P (Ys (rG n us a b))
def X8:FF:=λds P=>∃n us a b,ds=[aq n us,.int a,.int b]/\1<=n/\n<=50/\⇑us<=60/\OkN n us/\0<=a/\a<n/\0<=b/\b<n/\a≠b/\P (byP n us a b)
def Ob{i r:Nat}{a:DE}{P:DEnds}{ρ:List Sl}{ds:List D}(hs:ρ[i]?=some (.dw r (.list ds)))(h:a ρ λk d=>(norm k d).le .new=true/\⇑ds<1000/\P.nx ((forget r ρ).set i (.dw r (.list (ds++[d]))))):EY i a P ρ:=by
 unfold EY;rw[hs];exact h
def Vi:DE:=kO (bw (Ti (cU (t2 (gIn false) (t2 gIx (tV 6) (tK (Â 0))) (kO (bw (tV 1) (bw (tV 2) fB))))) (t2 gIx (tV 6) (tK (Â 0))) (t2 pU (t2 gIx (tV 6) (tK (Â 0))) (tV 3))) (bw (t2 gIx (tV 6) (tK (Â 1))) fB))
def Ml{n a b:Int}{us:List Tie}(L:List D)(t h:Tie)(R:DK)(q:R .imm (pD (oN n a b h.1,h.2))):Vi [.im (aq n us),.im (.int a),.im (.int b),.im (.int n),.dw 0 (.list L),.im (pD t),.im (pD h)] R:=by
 refine⟨.int h.1,rfl,zK,rfl,rfl,?_⟩;show if([Â a,.int b].any λe=>Ü e (.int h.1))=true then _ else _
 rw[gM];unfold oN at q;by_cases c:h.1=a\/h.1=b
 ·rw[eD c]at q;rw[decide_eq_true c];exact au (B:=True) ⟨.int h.1,rfl,.int h.2,rfl,zK,q⟩
 ·rw[eH c]at q;rw[eA c];exact aA (A:=True) ⟨.int h.1,rfl,.int h.2,rfl,zK,q⟩
theorem G3:∀us:List Tie,bQ (us.map pD)=true
 |[]=>rfl
 |_::us=>G3 us
section
variable{P:Zc}{w:Zd}{K:ã}{mg:Str->Option Value}{base:Zi}{f:Addr}{fd:YY}
def fG:([bj,az,ae,ew]:List Str).Nodup:=⋯
def p8(F:Fun K de de (top 22) f fd)(B:ĩ mg)(b:mg cq=none):FnOk P w K mg base CX0 1 f fd [ae,ew] (spD fWo):=by
 refine okT F (N:=[ae,ew]) zC (λhr nd=>Ô (Û (ê (À (Î (Ã 0) Å) (À (Wr.gW B.tuple (À (Ś [bj,az] rfl (Wr.nH b (À (Î (Ã 0) Å) Á)) (λc=>(Wr.dH (n:=2) rfl (ė (ä (i:=0) fG rfl zQ) (ė (ä (i:=1) fG rfl zQ) ż)))) (λc=>(ť (ĭ hr.units (Ã 0) (Ã 3)))) (λc=>(Ã 1))) Á)) Á))))) ?_;rintro ds P ⟨n,us,F,rfl,d,q⟩;refine⟨[.im (aq n us),.sh (iD F)],c7 rfl,?_⟩;refine⟨.int n,rfl,.tuple (us.map pD),rfl,?_⟩;refine fK us.zipIdx (λp=>ő [.int ((p.2:Nat):Int),pD p.1]) (λp=>decide (((p.2:Nat):Int)∉F)) (λp=>pD p.1) .imm (enum_zip us) (by rw[List.length_zipIdx];lia) ?_ ?_
 ·rintro⟨t,k⟩ hk A B h1 h2;refine⟨rfl,rfl,ń F,?_⟩;show if(!((F.map Â).any λe=>Ü e (.int ((k:Nat):Int))))=true then _ else _
  rw[Ć];by_cases a:((k:Nat):Int)∈F
  ·rw[decide_eq_true a];exact aA (A:=True) (h2 (eA λz=>z a))
  ·rw[eA a];exact au (B:=True) ⟨rfl,h1 (decide_eq_true a)⟩
 ·have e:((us.zipIdx.filter λp=>decide (((p.2:Nat):Int)∉F)).map λp=>pD p.1)=(wo us F).map pD:=by
   unfold wo;rw[Ī];rfl
  show _/\_/\P (.tuple [.int n,.tuple ((us.zipIdx.filter λp=>decide (((p.2:Nat):Int)∉F)).map λp=>pD p.1)]);rw[e];refine⟨zK,?_,q⟩;show(norm _ (aq n (wo us F))).le .n0=true;rw[aN (ni _ _)];rfl
abbrev kA9(P w K mg base):=ċ P w K mg base 1 de [ae,ew] (spD fWo)
def tu(F:Fun K dA dA (top 30) f fd)(B:ĩ mg)(p:ċ P w K mg base 5 "way" [ae,bi,bn] (spD XD))(m:kA7 P w K mg base)(o:kA9 P w K mg base):FnOk P w K mg base CX0 6 f fd [ae,bi,bn] (spD R5):=by
 refine okT F (N:=[ae,bi,bn,bj,"side"]) zC (λhr nd=>È (ĵ ô rfl (ħ (Î (ú p hr (À (Ã 0) (À (Ã 1) (À (Ã 2) Á)))) Å)) (ä (i:=3) nd rfl zQ) (È (å none (i:=4) nd rfl zQ (ú m hr (À (ú o hr (À (Ã 0) (À (æ (À (Ã 3) Á)) Á))) (À (Ã 1) Á))))
  (È (ø (ĭ hr.units (Ã 2) (Ã 4)) (Ô (Û (ê (À Ģ (À (Ã 3) (À (Ã 4) Á)))))) à) (í [3,4] à))))
  (í [3,4] (Ô (Û ŗ)))) ?_
 rintro ds P ⟨n,us,a,b,w,rfl,n0,c,j,ok,g,h,b0,b1,v,q⟩;refine⟨[.im (aq n us),.im (.int a),.im (.int b),.any,.any],c7 rfl,?_⟩;generalize u:ptF n.toNat us a b w.2=G at q;refine⟨n,us,a,b,rfl,(),c,j,ok,g,h,b0,b1,?_⟩;rw[v];refine⟨iD w.2,rfl,rfl,λ(i:Nat) ρ=>ρ=[.im (aq n us),.im (.int a),.im (.int b),.any,.any]/\ptF n.toNat us a b (w.2.drop i)=G,⟨rfl,u⟩,?_,?_⟩
 ·rintro i d ρ hd ⟨rfl,e⟩;let⟨k,hk,rfl⟩:=fJ hd;have s:w.2.drop i=k::w.2.drop (i+1):=by
   have hi:=(Ç.mp hk).1;rw[Ŏ hi,(Ç.mp hk).2]
  rw[s]at e;unfold ptF at e;have y:=JB us [k];have t:rsI (adj (wo us [k]) [] []) n.toNat a=rsI (adj us [k] []) n.toNat a:=Gf λx=>Rm;refine⟨zK,n,us,[k],rfl,j,n,wo us [k],a,rfl,(),c,(),Rg ok,g,h,?_⟩;rw[t];refine⟨rfl,ń _,?_⟩;show if(!(((rsI (adj us [k] []) n.toNat a).map Â).any λe=>Ü e (.int b)))=true then _ else _
  rw[Ć];have l:b∈rsI (adj us [k] []) n.toNat a↔Rt (adj us [k] []) a b:=by
   rw[cA];exact⟨λz=>z.2,λz=>⟨⟨b0,()⟩,z⟩⟩
  by_cases r:Rt (adj us [k] []) a b
  ·rw[decide_eq_true (l.mpr r)];rw[eD (bM.mpr r)]at e;exact aA (A:=True) ⟨rfl,e⟩
  ·rw[eA λz=>r (l.mp z)];rw[eH λz=>r (bM.mp z)]at e;rw[←e]at q;exact au (B:=True) ⟨zK,rfl,q⟩
 ·rintro ρ ⟨rfl,e⟩;rw[Ä,List.drop_length]at e;have e:PyData.none=G:=e;rw[←e]at q;exact⟨rfl,q⟩
def j6:(["v",ae,bi,bn,"n",a8,az,"hop"]:List Str).Nodup:=⋯
def mG(F:Fun K ca ca (top 32) f fd)(B:ĩ mg):FnOk P w K mg base CX0 1 f fd [ae,bi,bn] (spD Yc):=by
 refine okT F (N:=[ae,bi,bn,"n",a8,az,"hop"]) zC (λhr nd=>È (å none (i:=3) nd rfl zQ (Î (Ã 0) Å))
  (È (å (some 0) (i:=4) nd rfl zQ (æ Á))
  (È (ĵ ô rfl (ħ (Î (Ã 0) Å)) (ä (i:=5) nd rfl zQ) (È (ĵ ô rfl (ħ (ê (À (Ã 5) (À (ê (À (Î (Ã 5) Å) (À (Î (Ã 5) Å) Á))) Á)))) (ä (i:=6) nd rfl zQ) (È (Ř (Đ 4) (À (ê (À (Wr.lZ (Wr.eU hr.units (Î (Ã 6) Å) (ê (À (Ã 1) (À (Ã 2) Á)))) (Î (Ã 6) Å) (Ę (Î (Ã 6) Å) (Ã 3))) (À (Î (Ã 6) Å) Á))) Á)) (í [6] à))) (í [5,6] à)))
  (í [5,6] (Ô (Û (Ę (Ã 4) (Ś ["v"] rfl (Į B.range (À (Ã 3) Á)) (λc=>(ä (i:=0) j6 rfl zQ)) (λc=>(ť (ĭ hr.units (Ã 0) (ê (À (Ã 2) (À (Ã 3) Á)))))) (λc=>(ê (À (Ã 0) (À (Ę (Ã 0) (Ã 4)) Á)))))))))))) ?_
 rintro ds P ⟨n,us,a,b,rfl,n0,p,o,q⟩;refine⟨[.im (aq n us),.im (.int a),.im (.int b),.any,.any,.any,.any],c7 rfl,?_⟩;refine⟨.int n,rfl,zK,.tuple (us.map pD),rfl,rfl,λ(i:Nat) ρ=>ρ=[.im (aq n us),.im (.int a),.im (.int b),.im (.int n),.dw 0 (.list ((bT n a b (us.take i)).map pD)),.any,.any],rfl,?_,?_⟩
 ·rintro i d ρ hd rfl;let⟨t,ht,rfl⟩:=fJ hd;have hi:=(Ç.mp ht).1;have tk:us.take (i+1)=us.take i++[t]:=by rw[Ĭ,ht];rfl
  have l:=dI n a b (us.take i);rw[Ě]at l;have g:(bT n a b (us.take (i+1))).map pD=(bT n a b (us.take i)).map pD++[pD (oN n a b t.1,t.2)]++[pD (oN n a b t.2,t.1)]:=by
   unfold bT;rw[tk,List.flatMap_append,î,Ş];rfl
  refine⟨.int t.2,rfl,.int t.1,rfl,zK,zK,rfl,λ(j:Nat) ρ=>ρ=[.im (aq n us),.im (.int a),.im (.int b),.im (.int n),.dw 0 (.list ((bT n a b (us.take i)).map pD++([(oN n a b t.1,t.2),(oN n a b t.2,t.1)].take j).map pD)),.im (pD t),.any],?_,?_,?_⟩
  ·show [_,_,_,_,Sl.dw 0 (.list ((bT n a b (us.take i)).map pD)),_,_]=[_,_,_,_,Sl.dw 0 (.list ((bT n a b (us.take i)).map pD++[])),_,_]
   rw[ě];rfl
  ·rintro j d ρ hd rfl;have h:⇑((bT n a b (us.take i)).map pD)=⇑(bT n a b (us.take i)):=Ä ..;match j,hd with
   |0,hd =>
    have hd:pD t=d:=Ö hd;subst hd;show Dl.qx (EY 4 Vi) (uJ [6] vV) _ [.im (aq n us),.im (.int a),.im (.int b),.im (.int n),.dw 0 (.list ((bT n a b (us.take i)).map pD++[])),.im (pD t),.im (pD t)];refine Ob rfl (Ml _ t t _ ?_);refine⟨rfl,?_,?_⟩
    ·show((bT n a b (us.take i)).map pD++[]).length<1000;rw[ě];lia
    ·show [_,_,_,_,Sl.dw 0 (.list ((bT n a b (us.take i)).map pD++[]++[pD (oN n a b t.1,t.2)])),_,_]=[_,_,_,_,Sl.dw 0 (.list ((bT n a b (us.take i)).map pD++[pD (oN n a b t.1,t.2)])),_,_]
     rw[ě];rfl
   |1,hd =>
    have hd:pD (t.2,t.1)=d:=Ö hd;subst hd;show Dl.qx (EY 4 Vi) (uJ [6] vV) _ [.im (aq n us),.im (.int a),.im (.int b),.im (.int n),.dw 0 (.list ((bT n a b (us.take i)).map pD++[pD (oN n a b t.1,t.2)])),.im (pD t),.im (pD (t.2,t.1))];refine Ob rfl (Ml _ t (t.2,t.1) _ ?_);refine⟨rfl,?_,?_⟩
    ·show((bT n a b (us.take i)).map pD++[pD (oN n a b t.1,t.2)]).length<1000;rw[Ñ,ì];lia
    ·show [_,_,_,_,Sl.dw 0 (.list ((bT n a b (us.take i)).map pD++[pD (oN n a b t.1,t.2)]++[pD (oN n a b t.2,t.1)])),_,_]=[_,_,_,_,Sl.dw 0 (.list ((bT n a b (us.take i)).map pD++[pD (oN n a b t.1,t.2),pD (oN n a b t.2,t.1)])),_,_]
     rw[Ş];rfl
   |j+2,hd=>cases hd
  ·rintro ρ rfl;show [_,_,_,_,Sl.dw 0 (.list ((bT n a b (us.take i)).map pD++[pD (oN n a b t.1,t.2),pD (oN n a b t.2,t.1)])),_,_]=[_,_,_,_,Sl.dw 0 (.list ((bT n a b (us.take (i+1))).map pD)),_,_]
   rw[g,Ş];rfl
 ·rintro ρ rfl;rw[Ä,Ĳ];have l:=dI n a b us;have h:⇑((bT n a b us).map pD)=⇑(bT n a b us):=Ä ..;refine⟨⟨(),()⟩,fK (ß n.toNat) (λv=>Â (0+((v:Nat):Int))) (λv=>!decide (0+((v:Nat):Int)=a\/0+((v:Nat):Int)=b)) (λv=>pD (0+((v:Nat):Int),0+((v:Nat):Int)+n)) .imm rfl (by rw[Ċ];lia) (λv hv A B hA hB=>?_) ?_⟩
  ·refine⟨zK,rfl,rfl,?_⟩;show if(!([Â a,.int b].any λe=>Ü e (.int (0+((v:Nat):Int)))))=true then _ else _
   rw[gM];exact bC (λc=>⟨zK,rfl,hA c⟩) (λc=>hB (Ĝ.mpr c))
  have e:((ß n.toNat).filter λv=>!decide (0+((v:Nat):Int)=a\/0+((v:Nat):Int)=b)).map (λv=>pD (0+((v:Nat):Int),0+((v:Nat):Int)+n))=((inn n a b).map λv=>(v,v+n)).map pD:=by
   unfold inn zI;rw[List.filter_map,Ī,Ī];rfl
  rw[e];have m:=yt n a b;refine⟨?_,?_⟩
  ·show((bT n a b us).map pD).length+⇑(((inn n a b).map λv=>(v,v+n)).map pD)<=1000;have k:⇑(((inn n a b).map λv=>(v,v+n)).map pD)=⇑(inn n a b):=by rw[Ä,Ä]
   lia
  ·rw[←î];exact .inl ⟨G3 _,rfl,q⟩
def mU:(["node",ae,dV,cc,cv]:List Str).Nodup:=⋯
def mR:([c6,ae,dV,cc,cv]:List Str).Nodup:=⋯
def ql(F:Fun K df df (top 33) f fd)(B:ĩ mg):FnOk P w K mg base CX0 1 f fd [ae,dV,cc] (spD fJA):=by
 refine okT F (N:=[ae,dV,cc,cv]) zC (λhr nd=>È (Wr.jy none ["node"] (i:=3) rfl nd rfl zQ (ħ (Ã 1)) (λc=>(ä (i:=0) mU rfl zQ)) (λc=>(ť (Wr.gR (Ã 0) (Î (Ã 1) Å)))) (λc=>(Ã 0)))
  (Ô (Û (ê (À (Ã 3) (À (Ś [c6] rfl (ħ (Ã 2)) (λc=>(ä (i:=0) mR rfl zQ)) (λc=>(ť (Wr.gR (Ã 0) (Wr.eV Å (ĝ B.len (À (Î (Ã 1) Å) Á)))))) (λc=>(Wr.xJ (Ã 0) Å))) Á)))))) ?_
 rintro ds P ⟨n,us,l,k,rfl,g,d,b,q⟩;refine⟨[.im (aq n us),.sh (iD l),.sh (iD k),.any],c7 rfl,?_⟩;have a:⇑(us.map pD)=⇑us:=Ä ..;refine fK l Â (λx=>decide (x<n)) Â .imm rfl () (λx hx A B hA hB=>⟨.int n,rfl,bC (λc=>⟨rfl,hA c⟩) (λc=>hB (Ĝ.mpr c))⟩) ?_;refine fK k Â (λi=>decide (i<2 * (⇑us:Int))) (λi=>Â (i / 2)) .imm rfl () (λi hi A B hA hB=>?_) ?_
 ·refine⟨.tuple (us.map pD),rfl,.inl ⟨∅,∅⟩,?_⟩;show if decide (i<2 * (⇑(us.map pD):Int))=true then _ else _
  rw[a];exact bC (λc=>⟨⟨∅,∅⟩,rfl,hA c⟩) (λc=>hB (Ĝ.mpr c))
 have e:(k.filter λi=>decide (i<2 * (⇑us:Int))).map (λi=>Â (i / 2))=(gF ⇑us k).map Â:=by
  unfold gF;rw[Ī];rfl
 rw[e];exact⟨zK,rfl,q⟩
def eZ:([dV,cc,ae,bi,bn,a8,bb]:List Str).Nodup:=⋯
def oE(F:Fun K cz cz (top 34) f fd)(B:ĩ mg)(y:ċ P w K mg base 1 ca [ae,bi,bn] (spD Yc))(z:ċ P w K mg base 2 dy [aE,a8,bd,bX] (spD XF))(C:ċ P w K mg base 2 eg [aE,a8,bb,bd,bX] (spD Yd))(D:ċ P w K mg base 1 df [ae,dV,cc] (spD fJA)):FnOk P w K mg base CX0 3 f fd [ae,bi,bn] (spD XH):=by
 refine okT F (N:=[ae,bi,bn,a8,bb]) zC (λhr nd=>È (å none (i:=3) nd rfl zQ (ú y hr (À (Ã 0) (À (Ã 1) (À (Ã 2) Á)))))
  (È (å none (i:=4) nd rfl zQ (ú z hr (À (Wr.eV Å (Î (Ã 0) Å)) (À (Ã 3) (À (Ã 1) (À (Ã 2) Á))))))
  (È (ø (Wr.lV (Ã 4) ŗ) (Ô (Û ŗ)) à)
  (Ô (Û (Ś [dV,cc] rfl (ħ (ú C hr (À (Wr.eV Å (Î (Ã 0) Å)) (À (Ã 3) (À (Ã 4) (À (Ã 1) (À (Ã 2) Á))))))) (λc=>(Wr.dH (n:=2) rfl (ė (ä (i:=0) eZ rfl zQ) (ė (ä (i:=1) eZ rfl zQ) ż)))) (λc=>Wr.cH) (λc=>(ú D hr (À (Ã 2) (À (Ã 0) (À (Ã 1) Á))))))))))) ?_
 rintro ds P ⟨n,us,a,b,rfl,n0,l,t,ok,g,x,q⟩;refine⟨[.im (aq n us),.im (.int a),.im (.int b),.any,.any],c7 rfl,?_⟩;have I:=yt n a b;have k:⇑(aF n a b us)<=200:=by rw[pI];lia
 have d:=nO (a:=a) (b:=b) ok;refine⟨n,us,a,b,rfl,n0,l,t,.int n,rfl,.inl ⟨∅,∅⟩,2 * n,aF n a b us,a,b,rfl,(),(),k,d,g,(),?_⟩;cases j:aug (2 * n).toNat (aF n a b us) a b 2 []with
 |none =>
  have e:rG n us a b=none:=by unfold rG;rw[j]
  rw[e]at q;exact au (B:=True) ⟨rfl,q⟩
 |some U =>
  let⟨p,E⟩:=uT (n:=2 * n) () k d g () 2 (InL.nil _) (uy _ a b) j;let⟨m,o,u,v,G,H,⟨M,J⟩,O,L⟩:=vh n0 ok g x p (by simpa using E);have e:rG n us a b=some (jn n ⇑us m,jn n ⇑us o):=by
   unfold rG;rw[j];dsimp only;rw[u];dsimp only;rw[v]
  rw[e]at q;refine aA (A:=True) ⟨.int n,rfl,.inl ⟨∅,∅⟩,2 * n,aF n a b us,U,a,b,m,o,rfl,(),(),k,d,p,g,(),u,v,?_⟩;refine Eb [m,o] (λr=>cT (some r)) (λr=>cT (some (jn n ⇑us r))) .new rfl (by show 2<=1000;decide) (λr hr A B h=>au (B:=True) ?_) ?_
  ·have s:⇑r.1<=200/\⇑r.2<=200:=by
    simp only[Þ,ò,or_false]at hr;rcases hr with rfl|rfl <;> lia
   exact⟨rfl,n,us,r.1,r.2,rfl,t,s.1,s.2,rfl,h⟩
  exact⟨rfl,q⟩
abbrev Xl(P w K mg base):=ċ P w K mg base 5 bp [ae,bi,bn] (spD X7)
abbrev Xk(P w K mg base):=ċ P w K mg base 7 cy [ae,bi,bn] (spD XM)
def xQ(F:Fun K eh eh (top 37) f fd)(B:ĩ mg)(o:Xl P w K mg base)(m:kA7 P w K mg base)(s:ċ P w K mg base 3 cz [ae,bi,bn] (spD XH))(p:Xk P w K mg base)(t:ċ P w K mg base 6 dA [ae,bi,bn] (spD R5)):FnOk P w K mg base CX0 8 f fd [ae,bi,bn] (spD X8):=by
 refine okT F (N:=[ae,bi,bn,"side","found","shown"]) zC (λhr nd=>È (Wr.dz (ú o hr (À (Ã 0) (À (Ã 1) (À (Ã 2) Á)))))
  (È (å none (i:=3) nd rfl zQ (ú m hr (À (Ã 0) (À (Ã 1) Á))))
  (È (ø (ĭ hr.units (Ã 2) (Ã 3)) (Ô (Û (ê (À Ģ (À (Ã 3) Á))))) à)
  (È (å none (i:=4) nd rfl zQ (ú s hr (À (Ã 0) (À (Ã 1) (À (Ã 2) Á)))))
  (È (ø (Wr.gU (Ã 4) ŗ) (Ô (Û (ê (À Ģ (À (Î (Ã 4) Å) (À (Î (Ã 4) Å) Á)))))) à)
  (È (å none (i:=5) nd rfl zQ (ú p hr (À (Ã 0) (À (Ã 1) (À (Ã 2) Á)))))
  (Ô (Û (Wr.lZ (Wr.lV (Ã 5) ŗ) (ú t hr (À (Ã 0) (À (Ã 1) (À (Ã 2) Á)))) (Ã 5)))))))))) ?_
 rintro ds P ⟨n,us,a,b,rfl,n0,g,x,ok,c,d,b0,b1,y,q⟩;refine⟨[.im (aq n us),.im (.int a),.im (.int b),.any,.any,.any],c7 rfl,?_⟩;refine⟨n,us,a,b,rfl,c,d,b0,b1,y,n,us,a,rfl,(),(),(),ok,c,d,rfl,ń _,?_⟩;show if(!(((rsI (adj us [] []) n.toNat a).map Â).any λe=>Ü e (.int b)))=true then _ else _
 rw[Ć];have l:b∈rsI (adj us [] []) n.toNat a↔Rt (adj us [] []) a b:=by
  rw[cA];exact⟨λz=>z.2,λz=>⟨⟨b0,()⟩,z⟩⟩
 unfold byP at q;by_cases r:Rt (adj us [] []) a b
 ·rw[decide_eq_true (l.mpr r)];rw[eD (bM.mpr r)]at q;let⟨PW,h,k,W,_,_⟩:=dD (jc () (():⇑us<=100) ok) c () (rR.mpr r);refine aA (A:=True) ⟨n,us,a,b,rfl,(),g,x,ok,c,d,?_⟩;cases j:rG n us a b with
  |none =>
   rw[j,k]at q;refine aA (A:=True) ⟨n,us,a,b,rfl,n0,(),(),ok,c,d,b0,b1,?_⟩;rcases qI (n:=n.toNat) (us:=us) (a:=a) (b:=b) (ß n.toNat)with⟨h1,_⟩|⟨v,_,_,_,u⟩
   ·rw[h1]at q ⊢;rw[eD rfl]at q;exact au (B:=True) ⟨n,us,a,b,(PW,h),rfl,n0,(),(),ok,c,d,b0,b1,k,Gm h,q⟩
   ·rw[u]at q ⊢;rw[eH (λz=>nomatch z)]at q;exact aA (A:=True) ⟨rfl,q⟩
  |some R =>
   rw[j]at q;exact au (B:=True) ⟨_,rfl,_,rfl,zK,rfl,q⟩
 ·rw[eA λz=>r (l.mp z)];rw[eH λz=>r (bM.mp z)]at q;exact au (B:=True) ⟨zK,rfl,q⟩
def toI:D->Int
 |.int i=>i
 |_=>0
def jT{n:Int}{d:D}(h:aH n d=true):∃i:Int,d=.int i:=by
 cases d with
 |int i=>exact⟨i,rfl⟩
 |_=>cases h
theorem ints_of{n:Int}:∀{es:List D},es.all (aH n)=true->es=(es.map toI).map Â
 |[],_=>rfl
 |d::es,h=>by
  rw[Ż,Ï]at h;let⟨i,rfl⟩:=jT h.1;have:=ints_of h.2;rw[ö,ö,←this];rfl
def bx(l:List Int):(l.map Â).map toI=l:=by rw[Ī];exact List.map_id' l
def dW{α:Type}(l:List α):cD l none (some (-1))=l.dropLast:=by
 unfold cD;have a:HT.sIx ⇑l 0 none=0:=rfl;have b:HT.sIx ⇑l ⇑l (some (-1))=⇑l - 1:=by
  have e:HT.sIx ⇑l ⇑l (some (-1))=((-1:Int)+(⇑l:Int)).toNat:=rfl;rw[e];lia
 rw[a,b,List.drop_zero,Nat.sub_zero,List.dropLast_eq_take]
def nJ{α:Type}(l:List α):cD l (some 1) none=l.drop 1:=by
 unfold cD;have a:HT.sIx ⇑l ⇑l none=⇑l:=rfl;have b:HT.sIx ⇑l 0 (some 1)=min 1 ⇑l:=HT.jH ⇑l 0 1;rw[a,b];rw[Ũ (by rw[œ];lia)];by_cases h:1<=⇑l
 ·rw[Nat.min_eq_left h]
 ·have:l=[]:=List.length_eq_zero_iff.mp ();subst this;rfl
def yZ(a b:List Int):((a.map Â).zip (b.map Â)).map prD=(a.zip b).map pD:=by
 rw[List.zip_map,Ī];rfl
def mmT(t:Tie):Tie:=(if t.2<t.1 then t.2 else t.1,if t.2 > t.1 then t.2 else t.1)
def qp(l:List Int):Bool:=decide (⇑(once l)=⇑l)
def zR(n a b:Int):D->Bool
 |.list es=>!es.isEmpty&&es.all (aH n)&&decide ((es.map toI).head?=some a)&&decide ((es.map toI).getLast?=some b)&&qp (es.map toI)
 |_=>false
def Sv:FF:=λds P=>∃l:List Int,ds=[.list (l.map Â)]/\⇑l<=400/\P (.list ((l.dropLast.zip (l.drop 1)).map pD))
def sc7:FnScope [cv] [cv] (aC (top 19)):=zC
def Qd(F:Fun K "hops" "hops" (top 19) f fd)(B:ĩ mg)(a:mg "zip"=none):FnOk P w K mg base CX0 1 f fd [cv] (spD Sv):=by
 refine F.ok sc7 qU (λcdv A outer s H vs Q E hr h=>?_);refine⟨_,o9 (o8 (Dj rfl B.list a (dU (K6 (dv 0) dB (nF (cV jf))) (dU (K6 (dv 0) (nF jf) dB) jO)))),yw h ?_⟩;rintro ds P ⟨l,rfl,hl,q⟩;refine .inl ⟨?_,.inl ⟨?_,?_,.inl ⟨?_,rfl,?_⟩⟩⟩
 ·show bQ (cD (l.map Â) none (some (-1)))=true;rw[dW,←List.map_dropLast];exact aP _
 ·show bQ (cD (l.map Â) (some 1) none)=true;rw[nJ,←List.map_drop];exact aP _
 ·show(cD (l.map Â) none (some (-1))).length<=1000;rw[dW,List.length_dropLast,Ä];lia
 ·show bQ _=true;rw[dW,nJ,←List.map_dropLast,←List.map_drop,yZ];exact oX _
 ·show P _;rw[dW,nJ,←List.map_dropLast,←List.map_drop,yZ];exact q
def yS{l:List Int}{y:Int}(h:l.getLast?=some y):atI (l.map Â) (-1)=some (.int y):=by
 let⟨a,rfl⟩:=List.getLast?_eq_some_iff.mp h;rw[î];exact N7 _ _
def Rf(d:D):Prop:=∀es,d=.list es->⇑es<=400
def XJ:FF:=λds P=>∃n us a b d,ds=[aq n us,.int a,.int b,d]/\Rf d/\P (.bool (zR n a b d))
def iT:([am,ae,bi,bn,af]:List Str).Nodup:=⋯
def jZ(F:Fun K bq bq (top 17) f fd)(B:ĩ mg)(D:mg "set"=none)(u:kA2 P w K mg base):FnOk P w K mg base CX0 4 f fd [ae,bi,bn,af] (spD XJ):=by
 refine okT F (N:=[ae,bi,bn,af]) zC (λhr nd=>È (ø (ů (Ĺ (č (ă (Ō mY B.isinstance (Ã 3) (Wr.wty rfl B.list TW)))) (Ť (č (Wr.qK (Ã 3)))))) (Ô (Û İ)) à)
  (È (ø (č (ă (Wr.oA rfl B.all Dl.boot_all (À (Ś [am] rfl (ħ (Ã 3)) (λc=>(ä (i:=0) iT rfl zQ)) (λc=>Wr.cH) (λc=>(ú u hr (À (Ã 1) (À (Ã 0) Á))))) Á)))) (Ô (Û İ)) à)
  (Ô (Û (Ĵ (Ţ hr.units (Î (Ã 3) Å) (Ã 1)) (Ĵ (Ţ hr.units (Î (Ã 3) (Wr.cV Å)) (Ã 2)) (ŷ (Ţ hr.units (Wr.jP rfl D B.len (À (Ã 3) Á)) (ĝ B.len (À (Ã 3) Á)))))))))) ?_
 rintro ds P ⟨n,us,a,b,d,rfl,H,q⟩;refine⟨[.im (aq n us),.im (.int a),.im (.int b),aV d],c7 rfl,?_⟩;cases d with
 |list es =>
  have hl:=H es rfl;cases h:es with
  |nil =>
   subst h;exact aA (A:=True) (au (B:=True) ⟨rfl,q⟩)
  |cons e0 es0 =>
   rw[←h];refine aA (A:=True) ?_;have t:es.isEmpty=false:=by rw[h];rfl
   show if(!(!es.isEmpty))=true then _ else _
   rw[t];refine aA (A:=True) (Eb es (λd=>d) (λd=>.bool (aH n d)) .imm (List.map_id' es).symm () (λd hd A B hA=>?_) ?_)
   ·by_cases hi:cM d=true
    ·have m:∀k,norm k d=.imm:=λk=>aN hi;unfold gNm;simp only[m];exact au (B:=True) ⟨n,us,d,rfl,rfl,hA⟩
    ·have m:∀k,norm k d=k:=λk=>bV hi;unfold gNm;simp only[m];exact au (B:=True) ⟨n,us,d,rfl,rfl,hA⟩
   refine⟨es.map (aH n),by rw[Ī];rfl,?_⟩;rw[List.all_map];have g:P (.bool ((((!es.isEmpty&&es.all (aH n))&&decide ((es.map toI).head?=some a))&&decide ((es.map toI).getLast?=some b))&&qp (es.map toI))):=q;rw[t]at g;show if(!es.all (aH n))=true then _ else _
   cases ha:es.all (aH n)with
   |false =>
    rw[ha]at g;exact au (B:=True) ⟨rfl,g⟩
   |true =>
    rw[ha]at g;have p:=ints_of ha;generalize es.map toI=l at p g;subst p;have g:P (.bool ((decide (l.head?=some a)&&decide (l.getLast?=some b))&&qp l)):=g;have o:l≠[]:=λz=>by rw[z]at h;cases h
    have I:⇑(l.map Â)=⇑l:=Ä ..;have J:=ŀ.mpr o;obtain⟨x,r⟩:∃x,l.head?=some x:=by
     cases l with
     |nil=>exact eI rfl o
     |cons x l=>exact⟨x,rfl⟩
    obtain⟨y,s⟩:∃y,l.getLast?=some y:=⟨_,List.getLast?_eq_some_getLast o⟩
    have v:atI (l.map Â) 0=some (.int x):=bF (j:=0) (by rw[Ý,←List.head?_eq_getElem?,r];rfl);have C:atI (l.map Â) (-1)=some (.int y):=yS s;refine aA (A:=True) ⟨.int x,v,?_⟩;rw[r,s]at g;have E:decide (some x=some a)=decide (x=a):=by simp
    have G:decide (some y=some b)=decide (y=b):=by simp
    rw[E,G]at g;show if decide (x=a)=true then _ else _
    refine bC (λc=>?_) (λc=>⟨rfl,?_⟩)
    ·rw[c]at g;refine⟨.int y,C,?_⟩;show if decide (y=b)=true then _ else _
     refine bC (λc=>?_) (λc=>⟨rfl,?_⟩)
     ·rw[c]at g;refine⟨_,l,rfl,(),rfl,?_⟩;have g:P (.bool (qp l)):=g;show P (.bool (decide ((⇑(once l):Int)=(⇑(l.map Â):Int))));have e:decide ((⇑(once l):Int)=(⇑(l.map Â):Int))=qp l:=by
       unfold qp;rw[Ä,Ė,eC,eC];lia
      rw[e];exact g
     ·have c:decide (y=b)=false:=by simpa using c
      rw[c]at g;exact g
    ·have c:decide (x=a)=false:=by simpa using c
     rw[c]at g;exact g
 |tuple es=>rcases aL (.tuple es)with e|e <;> rw[e] <;> exact au (B:=True) ⟨rfl,q⟩
 |_=>exact au (B:=True) ⟨rfl,q⟩
def Xe:D->Nat
 |.list es=>⇑es
 |_=>0
def nA(n m a b:Int):D->Bool
 |.tuple [d1,.list ns]=>zR n a b d1&&(decide ((⇑ns:Int)=((Xe d1:Nat):Int) - 1)&&ns.all (aH m))
 |_=>false
def Od(d:D):Prop:=∀es,d=.tuple es->∀e∈es,Rf e
def Sx:FF:=λds P=>∃n us a b d,ds=[aq n us,.int a,.int b,d]/\Od d/\P (.bool (nA n (⇑us:Nat) a b d))
def zO{n a b:Int}{d:D}(h:zR n a b d=true):∃es,d=.list es:=by
 cases d with
 |list es=>exact⟨es,rfl⟩
 |_=>cases h
def Bj{n m a b:Int}{es:List D}(h:⇑es≠2):nA n m a b (.tuple es)=false:=by
 match es,h with
 |[],_=>rfl
 |[_],_=>rfl
 |[_,_],h=>exact eI rfl h
 |_::x::_::_,_=>cases x <;> rfl
def jj:([bj,ae,bi,bn,af]:List Str).Nodup:=⋯
abbrev Xj(P w K mg base):=ċ P w K mg base 3 cw [ae,af] (spD Sq)
def lA(F:Fun K bP bP (top 18) f fd)(B:ĩ mg)(r:ċ P w K mg base 4 bq [ae,bi,bn,af] (spD XJ))(p:Xj P w K mg base):FnOk P w K mg base CX0 5 f fd [ae,bi,bn,af] (spD Sx):=by
 refine okT F (N:=[ae,bi,bn,af]) zC (λhr nd=>È (ø (ů (Ĺ (č (ă (Ō kit_tuple B.isinstance (Ã 3) (Wr.wty rfl B.tuple TZ)))) (Ť (ł hr.units (ĝ B.len (À (Ã 3) Á)) Å)))) (Ô (Û İ)) à)
  (È (ø (ů (Ĺ (č (ă (ú r hr (À (Ã 0) (À (Ã 1) (À (Ã 2) (À (Î (Ã 3) Å) Á))))))) (Ť (č (ă (Ō mY B.isinstance (Î (Ã 3) Å) (Wr.wty rfl B.list TW))))))) (Ô (Û İ)) à)
  (Ô (Û (Ĵ (Ţ hr.units (ĝ B.len (À (Î (Ã 3) Å) Á)) (Wr.dZ (ĝ B.len (À (Î (Ã 3) Å) Á)) Å)) (ŷ (Wr.oA rfl B.all Dl.boot_all (À (Ś [bj] rfl (ħ (Î (Ã 3) Å)) (λc=>(ä (i:=0) jj rfl zQ)) (λc=>Wr.cH) (λc=>(ú p hr (À (Ã 1) (À (Ã 0) Á))))) Á)))))))) ?_
 rintro ds P ⟨n,us,a,b,d,rfl,o,q⟩;refine⟨[.im (aq n us),.im (.int a),.im (.int b),aV d],c7 rfl,?_⟩;cases d with
 |tuple es =>
  by_cases h2:⇑es=2
  ·obtain⟨h,j,rfl⟩:∃h j,es=[h,j]:=by
    match es,h2 with
    |[x,y],_=>exact⟨x,y,rfl⟩
   have t:=o _ rfl h Í;have u:=o _ rfl j (É _ Í);rcases aL (.tuple [h,j])with e|e
   all_goals
    rw[e];refine aA (A:=True) (aA (A:=True) ⟨h,rfl,n,us,a,b,h,rfl,t,?_⟩);show if(!zR n a b h)=true then _ else _
    cases hr:zR n a b h with
    |false =>
     have s:nA n (⇑us:Int) a b (.tuple [h,j])=false:=by
      cases j with
      |list ns=>show(zR n a b h&&_)=false;rw[hr];rfl
      |_=>rfl
     rw[s]at q;exact au (B:=True) ⟨rfl,q⟩
    |true =>
     refine aA (A:=True) ⟨j,rfl,?_⟩;cases j with
     |list ns =>
      let⟨g,rfl⟩:=zO hr;have hn:=u ns rfl;have l:P (.bool (zR n a b (.list g)&&(decide ((⇑ns:Int)=(⇑g:Int) - 1)&&ns.all (aH (⇑us:Int))))):=q;rw[hr,ÿ]at l;refine aA (A:=True) ⟨.list ns,rfl,.list g,rfl,?_⟩;show if decide ((⇑ns:Int)=(⇑g:Int) - 1)=true then _ else _
      refine bC (λc=>?_) (λc=>⟨rfl,?_⟩)
      ·rw[c,ÿ]at l;refine⟨.list ns,rfl,Eb ns (λd=>d) (λd=>.bool (aH (⇑us:Int) d)) .imm (List.map_id' ns).symm () (λd hd A B hA=>?_) ?_⟩
       ·by_cases hi:cM d=true
        ·have m:∀k,norm k d=.imm:=λk=>aN hi;unfold gNm;simp only[m];exact au (B:=True) ⟨n,us,d,rfl,rfl,hA⟩
        ·have m:∀k,norm k d=k:=λk=>bV hi;unfold gNm;simp only[m];exact au (B:=True) ⟨n,us,d,rfl,rfl,hA⟩
       ·refine⟨ns.map (aH (⇑us:Int)),by rw[Ī];rfl,rfl,?_⟩;rw[List.all_map];exact l
      ·have c:decide ((⇑ns:Int)=(⇑g:Int) - 1)=false:=by simpa using c
       rw[c]at l;exact l
     |_=>exact au (B:=True) ⟨rfl,q⟩
  ·rw[Bj h2]at q;have c:decide ((⇑es:Int)=2)=false:=eA λz=>h2 ();rcases aL (.tuple es)with e|e
   all_goals
    rw[e];refine aA (A:=True) ?_;show if(!decide ((⇑es:Int)=2))=true then _ else _
    rw[c];exact au (B:=True) ⟨rfl,q⟩
 |list es=>exact au (B:=True) ⟨rfl,q⟩
 |_=>exact au (B:=True) ⟨rfl,q⟩
def qX(t u:Tie):Ü (pD t) (pD u)=decide (t=u):=by
 show(t.1==u.1&&(t.2==u.2&&true))=_;rw[Ė];simp[Prod.ext_iff]
def rM(a:Bool)(us:List Tie)(h:Tie)(k:Int):Bool:=decide (us[k.toNat]?=some (if a=true then mmT h else h))
def kJ(l:List Int):List Tie:=l.dropLast.zip (l.drop 1)
def Cw(a:Bool)(us:List Tie):D->Bool
 |.tuple [.list es,.list ns]=>((kJ (es.map toI)).zip (ns.map toI)).all λp=>rM a us p.1 p.2
 |_=>false
def bN(c:Bool)(n:Int)(us:List Tie)(a b:Int)(d:D):Bool:=nA n (⇑us:Nat) a b d&&Cw c us d
def Nb(c:Bool)(ds:List D)(P:D->Prop):Prop:=∃n us a b d,ds=[aq n us,.int a,.int b,d]/\0<=a/\a<n/\0<=b/\b<n/\Od d/\P (.bool (bN c n us a b d))
def dO{n m a b:Int}{d:D}(h:nA n m a b d=true):∃ps ks:List Int,d=.tuple [iD ps,iD ks]/\∀k∈ks,0<=k/\k<m:=by
 match d,h with
 |.tuple [d1,.list ns],h =>
  have h:(zR n a b d1&&(decide ((⇑ns:Int)=((Xe d1:Nat):Int) - 1)&&ns.all (aH m)))=true:=h;rw[Ï,Ï]at h;let⟨es,rfl⟩:=zO h.1;have h1:((((!es.isEmpty&&es.all (aH n))&&decide ((es.map toI).head?=some a))&&decide ((es.map toI).getLast?=some b))&&qp (es.map toI))=true:=h.1;simp only[Ï]at h1;have c:=ints_of h1.1.1.1.2;have f:=ints_of h.2.2;refine⟨es.map toI,ns.map toI,?_,λk hk=>?_⟩
  ·unfold iD;rw[←c,←f]
  ·let⟨e,he,rfl⟩:=õ.mp hk;have hb:=Ĕ.mp h.2.2 e he;let⟨i,rfl⟩:=jT hb;exact eB hb
def pQ:(["hop",bj,ae,bi,bn,af]:List Str).Nodup:=⋯
def Ih(F:Fun K "is_way" "is_way" (top 20) f fd)(B:ĩ mg)(z:mg "zip"=none)(r:kA3 P w K mg base)(x:ċ P w K mg base 5 bP [ae,bi,bn,af] (spD Sx))(y:ċ P w K mg base 1 "hops" [cv] (spD Sv)):FnOk P w K mg base CX0 6 f fd [ae,bi,bn,af] (spD (Nb true)):=by
 refine okT F (N:=[ae,bi,bn,af]) zC (λhr nd=>È (Wr.dz (ú r hr (À (Ã 0) (À (Ã 1) Á))))
  (È (Wr.dz (ú r hr (À (Ã 0) (À (Ã 2) Á))))
  (È (ø (č (ă (ú x hr (À (Ã 0) (À (Ã 1) (À (Ã 2) (À (Ã 3) Á))))))) (Ô (Û İ)) à)
  (Ô (Û (Wr.oA rfl B.all Dl.boot_all (À (Ś ["hop",bj] rfl (Wr.Et z (À (ú y hr (À (Î (Ã 3) Å) Á)) (À (Î (Ã 3) Å) Á))) (λc=>(Wr.dH (n:=2) rfl (ė (ä (i:=0) pQ rfl zQ) (ė (ä (i:=1) pQ rfl zQ) ż)))) (λc=>Wr.cH) (λc=>(Ţ hr.units (Î (Î (Ã 2) Å) (Ã 1)) (ê (À (Wr.xu rfl B.min (À (Ã 0) Á)) (À (Wr.xG rfl B.max (À (Ã 0) Á)) Á)))))) Á))))))) ?_
 rintro ds P ⟨n,us,a,b,d,rfl,s,u,b0,b1,m,q⟩;refine⟨[.im (aq n us),.im (.int a),.im (.int b),aV d],c7 rfl,?_⟩;rcases aL d with e|e
 all_goals
  rw[e];refine⟨n,us,a,rfl,s,u,n,us,b,rfl,b0,b1,n,us,a,b,d,rfl,m,?_⟩;show if(!nA n (⇑us:Int) a b d)=true then _ else _
  cases hr:nA n (⇑us:Int) a b d with
  |false =>
   have g:P (.bool (nA n (⇑us:Int) a b d&&Cw true us d)):=q;rw[hr]at g;exact au (B:=True) ⟨rfl,g⟩
  |true =>
   let⟨ps,ks,rfl,hk⟩:=dO hr;have g:P (.bool (nA n (⇑us:Int) a b (.tuple [iD ps,iD ks])&&Cw true us (.tuple [iD ps,iD ks]))):=q;rw[hr,ÿ]at g;have g:P (.bool (((kJ ((ps.map Â).map toI)).zip ((ks.map Â).map toI)).all λp=>rM true us p.1 p.2)):=g;rw[bx,bx]at g;refine aA (A:=True) ⟨iD ps,rfl,ps,rfl,?_,?_⟩
   ·have:=m _ rfl (iD ps) Í _ rfl;rw[Ä]at this;exact this
   refine⟨iD ks,rfl,Eb ((kJ ps).zip ks) (λp=>prD (pD p.1,.int p.2)) (λp=>.bool (rM true us p.1 p.2)) .imm ?_ ?_ (λp hp A B hA=>?_) ?_⟩
   ·show(((kJ ps).map pD).zip (ks.map Â)).map prD=_;rw[List.zip_map,Ī];rfl
   ·have:=m _ rfl (iD ks) (É _ Í) _ rfl;rw[Ä]at this;rw[List.length_zip];lia
   ·let⟨h,k⟩:=p;have C:=hk k (List.of_mem_zip hp).2;have o:k.toNat<⇑us:=()
    have ht:=Ë o;generalize us[k.toNat]=t at ht;have l:atI (us.map pD) k=some (pD t):=by
     have:=bF (xs:=us.map pD) (j:=k.toNat) (v:=pD t) (by rw[Ý,ht];rfl)
     rwa [show((k.toNat:Nat):Int)=k by lia]at this
    refine⟨rfl,au (B:=True) ⟨.tuple (us.map pD),rfl,pD t,l,zK,rfl,rfl,rfl,?_⟩⟩;show A (.bool (Ü (pD t) (pD (mmT h))));rw[qX];have e:rM true us h k=decide (t=mmT h):=by
     unfold rM;rw[ht];simp
    rw[←e];exact hA
   ·refine⟨((kJ ps).zip ks).map λp=>rM true us p.1 p.2,by rw[Ī];rfl,rfl,?_⟩;rw[List.all_map];exact g
def bB(w:Str):D->Bool
 |.str x=>decide (x=w)
 |_=>false
def hasB(w:Str)(c:Int):D->Bool
 |.tuple (e::es)=>decide ((⇑(e::es):Int)=c)&&bB w e
 |_=>false
def X3:FF:=λds P=>∃d w c,ds=[d,.str w,.int c]/\1<=c/\P (.bool (hasB w c d))
def at0{x:D}{r:List D}:atI (x::r) 0=some x:=by
 have:atI (x::r) ((0:Nat):Int)=some x:=bF rfl;exact this
def fC(l:List Int):D->Bool
 |.list es=>es.all isW&&decide (es.map toI=l)
 |_=>false
structure ThD(d:D):Prop where
 few:Od d
 row:∀es,d=.tuple es->∀e∈es,Od e
def RX:FF:=λds P=>∃d l,ds=[d,iD l]/\Rf d/\P (.bool (fC l d))
def fP(p q:List Int):Bool:=p.any λx=>decide (x∈q)
def M7:FF:=λds P=>∃p q:List Int,ds=[iD p,iD q]/\⇑p<=400/\P (.bool (fP p q))
def j9:D->List Int
 |.tuple [_,.list ns]=>ns.map toI
 |_=>[]
def nU(n:Int)(us:List Tie)(a b:Int):D->Bool
 |.tuple [e,x,y]=>bB ar e&&(bN true n us a b x&&(bN true n us a b y&&!fP (j9 x) (j9 y)))
 |_=>false
def f2W:FF:=λds P=>∃n us a b d,ds=[aq n us,.int a,.int b,d]/\0<=a/\a<n/\0<=b/\b<n/\ThD d/\P (.bool (nU n us a b d))
def yp{d:D}(h:isW d=true):∃i:Int,d=.int i:=by
 cases d with
 |int i=>exact⟨i,rfl⟩
 |_=>cases h
theorem yq:∀{es:List D},es.all isW=true->es=(es.map toI).map Â
 |[],_=>rfl
 |d::es,h=>by
  rw[Ż,Ï]at h;let⟨i,rfl⟩:=yp h.1;have:=yq h.2;rw[ö,ö,←this];rfl
def cG{w:Str}{d:D}(h:hasB w 3 d=true):∃e x y,d=.tuple [e,x,y]/\bB w e=true:=by
 match d,h with
 |.tuple (e::es),h =>
  have h:(decide ((⇑(e::es):Int)=3)&&bB w e)=true:=h;rw[Ï,eC]at h;match es,h with
  |[x,y],h=>exact⟨e,x,y,rfl,h.2⟩
  |[],h=>exact eI h.1 (by show ¬(((1:Nat):Int)=3);decide)
  |[_],h=>exact eI h.1 (by show ¬(((2:Nat):Int)=3);decide)
  |_::_::_::r,h=>exact eI h.1 (by show ¬(((⇑r+4:Nat):Int)=3);lia)
def G4{w:Str}{d:D}(h:hasB w 2 d=true):∃e x,d=.tuple [e,x]/\bB w e=true:=by
 match d,h with
 |.tuple (e::es),h =>
  have h:(decide ((⇑(e::es):Int)=2)&&bB w e)=true:=h;rw[Ï,eC]at h;match es,h with
  |[x],h=>exact⟨e,x,rfl,h.2⟩
  |[],h=>exact eI h.1 (by show ¬(((1:Nat):Int)=2);decide)
  |_::_::r,h=>exact eI h.1 (by show ¬(((⇑r+3:Nat):Int)=2);lia)
def uo{w:Str}{e x y:D}(h:hasB w 3 (.tuple [e,x,y])=false):bB w e=false:=by
 have h:(decide (((3:Nat):Int)=3)&&bB w e)=false:=h;simpa using h
def Mq{w:Str}{e x:D}(h:hasB w 2 (.tuple [e,x])=false):bB w e=false:=by
 have h:(decide (((2:Nat):Int)=2)&&bB w e)=false:=h;simpa using h
def wF{n:Int}{us:List Tie}{a b:Int}{d:D}(h:hasB ar 3 d=false):nU n us a b d=false:=by
 match d,h with
 |.tuple [e,x,y],h=>show(bB ar e&&_)=false;rw[uo h];rfl
 |.tuple [],_=>rfl
 |.tuple [_],_=>rfl
 |.tuple [_,_],_=>rfl
 |.tuple (_::_::_::_::_),_=>rfl
 |.none,_=>rfl
 |.bool _,_=>rfl
 |.int _,_=>rfl
 |.str _,_=>rfl
 |.list _,_=>rfl
 |.dict _,_=>rfl
section
variable{P:Zc}{w:Zd}{K:ã}{mg:Str->Option Value}{base:Zi}{f:Addr}{fd:YY}{CN:Addr}
def Ak(F:Fun K "has_form" "has_form" (top 39) f fd)(B:ĩ mg)(b:mg "str"=none):FnOk P w K mg base CX0 1 f fd [af,"word",aE] (spD X3):=by
 refine okT F (N:=[af,"word",aE]) zC (λhr nd=>È (ø (ů (Ĺ (č (ă (Ō kit_tuple B.isinstance (Ã 0) (Wr.wty rfl B.tuple TZ)))) (Ť (ł hr.units (ĝ B.len (À (Ã 0) Á)) (Ã 2))))) (Ô (Û İ)) à)
  (Ô (Û (Ĵ (Ō GR B.isinstance (Î (Ã 0) Å) (Wr.wty rfl b Dl.boot_str)) (ŷ (Ţ hr.units (Î (Ã 0) Å) (Ã 1))))))) ?_
 rintro ds P ⟨d,w,c,rfl,g,q⟩;refine⟨[aV d,.im (.str w),.im (.int c)],rfl,?_⟩;cases d with
 |tuple es =>
  rcases aL (.tuple es)with e|e
  all_goals
   rw[e];show if(!decide ((⇑es:Int)=c))=true then _ else _
   by_cases h:(⇑es:Int)=c
   ·rw[decide_eq_true h];refine aA ?_;match es,h,q with
    |[],h,q=>exact eI h (by show ¬(0:Int)=c;lia)
    |x::r,h,q =>
     have a:=at0 (x:=x) (r:=r);have q:P (.bool (decide ((⇑(x::r):Int)=c)&&bB w x)):=q;rw[decide_eq_true h,ÿ]at q;refine⟨x,a,?_⟩;cases x with
     |str s=>exact au (B:=True) ⟨.str s,a,rfl,q⟩
     |_=>exact aA (A:=True) ⟨rfl,q⟩
   ·rw[eA h];refine au ⟨rfl,?_⟩;match es,h,q with
    |[],h,q=>exact q
    |x::r,h,q =>
     have q:P (.bool (decide ((⇑(x::r):Int)=c)&&bB w x)):=q;rw[eA h,ŭ]at q;exact q
 |_=>exact au (B:=True) ⟨rfl,q⟩
def oR:([am,af,"some"]:List Str).Nodup:=⋯
def tH(F:Fun K dC dC (top 40) f fd)(B:ĩ mg)(h:ċ P w K mg base 1 dQ [af] (spD Ek)):FnOk P w K mg base CX0 2 f fd [af,"some"] (spD RX):=by
 refine okT F (N:=[af,"some"]) zC (λhr nd=>Ô (Û (Ĵ (Ō mY B.isinstance (Ã 0) (Wr.wty rfl B.list TW)) (Ĵ (Wr.oA rfl B.all Dl.boot_all (À (Ś [am] rfl (ħ (Ã 0)) (λc=>(ä (i:=0) oR rfl zQ)) (λc=>Wr.cH) (λc=>(ú h hr (À (Ã 0) Á)))) Á)) (ŷ (Ţ hr.units (Ã 0) (Ã 1))))))) ?_;rintro ds P ⟨d,l,rfl,fd,q⟩;refine⟨[aV d,.sh (iD l)],rfl,?_⟩;cases d with
 |list es =>
  have hl:=fd es rfl;refine au (B:=True) (Eb es (λd=>d) (λd=>.bool (isW d)) .imm (List.map_id' es).symm () (λd hd A B hA=>?_) ?_)
  ·by_cases hi:cM d=true
   ·have b:∀k,norm k d=.imm:=λk=>aN hi;unfold gNm;simp only[b];exact au (B:=True) ⟨d,rfl,rfl,hA⟩
   ·have b:∀k,norm k d=k:=λk=>bV hi;unfold gNm;simp only[b];exact au (B:=True) ⟨d,rfl,rfl,hA⟩
  refine⟨es.map isW,by rw[Ī];rfl,?_⟩;rw[List.all_map];have a:P (.bool (es.all isW&&decide (es.map toI=l))):=q;show if es.all isW=true then _ else _
  cases ha:es.all isW with
  |false =>
   rw[ha]at a;exact aA (A:=True) ⟨rfl,a⟩
  |true =>
   rw[ha]at a;have g:=yq ha;generalize es.map toI=k at g a;subst g;refine au (B:=True) ⟨mF _,mF _,rfl,?_⟩;show P (.bool (Ü (iD k) (iD l)));have e:Ü (iD k) (iD l)=decide (k=l):=by
    clear a q ha hl fd;induction k generalizing l with
    |nil=>cases l <;> simp[iD,Ü,PyData.eqvAll]
    |cons x k ih =>
     cases l with
     |nil=>rfl
     |cons y l =>
      have:=ih (l:=l);show(x==y&&Ü (iD k) (iD l))=_;rw[this,Ė];simp
   rw[e];exact a
 |tuple es=>rcases aL (.tuple es)with e|e <;> rw[e] <;> exact aA (A:=True) ⟨rfl,q⟩
 |_=>exact aA (A:=True) ⟨rfl,q⟩
def DP:([bj,ez,ck]:List Str).Nodup:=⋯
def Lg(F:Fun K "share" "share" (top 41) f fd)(B:ĩ mg)(b:mg "any"=none):FnOk P w K mg base CX0 1 f fd [ez,ck] (spD M7):=by
 refine okT F (N:=[ez,ck]) zC (λhr nd=>Ô (Û (Wr.Dr rfl b (À (Ś [bj] rfl (ħ (Ã 0)) (λc=>(ä (i:=0) DP rfl zQ)) (λc=>Wr.cH) (λc=>(Wr.vG hr.units (Ã 0) (Ã 2)))) Á)))) ?_;rintro ds P ⟨p,a,rfl,d,q⟩;refine⟨[.sh (iD p),.sh (iD a)],rfl,?_⟩;refine Eb p Â (λx=>.bool (decide (x∈a))) .imm rfl () (λx hx A B hA=>au (B:=B) ⟨rfl,ń a,rfl,?_⟩) ?_
 ·show A (.bool ((a.map Â).any λe=>Ü e (.int x)));rw[Ć];exact hA
 ·refine⟨p.map λx=>decide (x∈a),by rw[Ī];rfl,rfl,?_⟩;rw[List.any_map];exact q
abbrev Qw(P w K mg base):=ċ P w K mg base 1 "has_form" [af,"word",aE] (spD X3)
abbrev Xi(P w K mg base):=ċ P w K mg base 1 "share" [ez,ck] (spD M7)
def tG(F:Fun K dE dE (top 42) f fd)(B:ĩ mg)(s:Qw P w K mg base)(m:ċ P w K mg base 6 "is_way" [ae,bi,bn,af] (spD (Nb true)))(t:Xi P w K mg base):FnOk P w K mg base CX0 7 f fd [ae,bi,bn,af] (spD f2W):=by
 refine okT F (N:=[ae,bi,bn,af]) zC (λhr nd=>È (ø (č (ă (ú s hr (À (Ã 3) (À Ģ (À Å Á)))))) (Ô (Û İ)) à)
  (È (ø (ů (Ĺ (č (ă (ú m hr (À (Ã 0) (À (Ã 1) (À (Ã 2) (À (Î (Ã 3) Å) Á))))))) (Ť (č (ă (ú m hr (À (Ã 0) (À (Ã 1) (À (Ã 2) (À (Î (Ã 3) Å) Á)))))))))) (Ô (Û İ)) à)
  (Ô (Û (Wr.sS (ú t hr (À (Î (Î (Ã 3) Å) Å) (À (Î (Î (Ã 3) Å) Å) Á)))))))) ?_
 rintro ds P ⟨n,us,a,b,d,rfl,k,l,b0,b1,r,q⟩;refine⟨[.im (aq n us),.im (.int a),.im (.int b),aV d],c7 rfl,?_⟩;rcases aL d with z|z
 all_goals
  rw[z];refine⟨d,ar,3,rfl,∅,?_⟩;show if(!hasB ar 3 d)=true then _ else _
  cases hh:hasB ar 3 d with
  |false =>
   rw[wF hh]at q;exact au (B:=True) ⟨rfl,q⟩
  |true =>
   let⟨e,x,y,rfl,D⟩:=cG hh;have c:P (.bool (bB ar e&&(bN true n us a b x&&(bN true n us a b y&&!fP (j9 x) (j9 y))))):=q;rw[D,ÿ]at c;have o:=r.row _ rfl x (É _ Í);have u:=r.row _ rfl y (É _ (É _ Í));refine aA (A:=True) ⟨x,rfl,n,us,a,b,x,rfl,k,l,b0,b1,o,?_⟩;show if(!bN true n us a b x)=true then _ else _
   cases g:bN true n us a b x with
   |false =>
    rw[g]at c;exact au (B:=True) (au (B:=True) ⟨rfl,c⟩)
   |true =>
    rw[g,ÿ]at c;refine aA (A:=True) ⟨y,rfl,n,us,a,b,y,rfl,k,l,b0,b1,u,?_⟩;show if(!bN true n us a b y)=true then _ else _
    cases h:bN true n us a b y with
    |false =>
     rw[h]at c;exact au (B:=True) (au (B:=True) ⟨rfl,c⟩)
    |true =>
     rw[h,ÿ]at c;let⟨v,i,rfl,_⟩:=dO (by unfold bN at g;rw[Ï]at g;exact g.1);let⟨C,j,rfl,_⟩:=dO (by unfold bN at h;rw[Ï]at h;exact h.1);have c:P (.bool (!fP ((i.map Â).map toI) ((j.map Â).map toI))):=c;rw[bx,bx]at c;have p:=o _ rfl (iD i) (É _ Í) _ rfl;rw[Ä]at p;refine aA (A:=True) (aA (A:=True) ?_);refine⟨.tuple [iD v,iD i],rfl,iD i,rfl,.tuple [iD C,iD j],rfl,iD j,rfl,i,j,rfl,p,rfl,c⟩
abbrev aD(n:Int)(us:List Tie)(F:List Int)(a:Int):List Int:=rsI (adj us F []) n.toNat a
def oY(n:Int)(us:List Tie)(a b:Int):D->Bool
 |.tuple [e,x]=>bB av e&&(!decide (b∈aD n us [] a)&&fC (aD n us [] a) x)
 |_=>false
def nW(n:Int)(us:List Tie)(a b:Int):D->Bool
 |.tuple [e,k,x]=>bB az e&&(aH (⇑us:Nat) k&&(decide (b∈aD n us [] a)&&(!decide (b∈aD n us [toI k] a)&&fC (aD n us [toI k] a) x)))
 |_=>false
def wM(n:Int)(us:List Tie)(a b:Int):D->Bool
 |.tuple [e,v,x]=>bB am e&&(aH n v&&(decide (b∈aD n us [] a)&&(!decide (toI v=a\/toI v=b)&&(!decide (b∈rsI (adj us [] [toI v]) n.toNat a)&&fC (rsI (adj us [] [toI v]) n.toNat a) x))))
 |_=>false
def Wz:D->List Int
 |.tuple [.list ps,_]=>ps.map toI
 |_=>[]
def cP(l:List Int):List Int:=l.dropLast.drop 1
def vK:D->Bool
 |.tuple [_,x,y]=>!fP (cP (Wz x)) (cP (Wz y))
 |_=>false
def Aq(n:Int)(us:List Tie)(a b:Int):Bool:=Lq (ppF n.toNat us a b (ß n.toNat))
def zN(n:Int)(us:List Tie)(a b:Int)(d:D):Bool:=if nU n us a b d then vK d else wM n us a b d || (oY n us a b d || (nW n us a b d&&Aq n us a b))
structure Pl(n:Int)(us:List Tie)(a b:Int):Prop where
 n1:1<=n
 n30:n<=30
 lu:⇑us<=50
 ok:OkN n us
 a0:0<=a
 a1:a<n
 b0:0<=b
 b1:b<n
def X4:FF:=λds P=>∃n us a b d,ds=[aq n us,.int a,.int b,d]/\Pl n us a b/\ThD d/\P (.bool (oY n us a b d))
def fPT:FF:=λds P=>∃n us a b d,ds=[aq n us,.int a,.int b,d]/\Pl n us a b/\ThD d/\P (.bool (nW n us a b d))
def M6:FF:=λds P=>∃n us a b d,ds=[aq n us,.int a,.int b,d]/\Pl n us a b/\a≠b/\ThD d/\P (.bool (zN n us a b d))
def fPP:FF:=λds P=>∃n us a b d,ds=[aq n us,.int a,.int b,d]/\Pl n us a b/\ThD d/\P (.bool (wM n us a b d))
def R9:FF:=λds P=>∃p k p' k':List Int,ds=[.tuple [iD p,iD k],.tuple [iD p',iD k']]/\⇑p<=400/\⇑p'<=400/\P (.bool (!fP (cP p) (cP p')))
def Mu{n:Int}{us:List Tie}{a b:Int}{d:D}(h:hasB av 2 d=false):oY n us a b d=false:=by
 match d,h with
 |.tuple [e,x],h=>show(bB av e&&_)=false;rw[Mq h];rfl
 |.tuple [],_=>rfl
 |.tuple [_],_=>rfl
 |.tuple (_::_::_::_),_=>rfl
 |.none,_=>rfl
 |.bool _,_=>rfl
 |.int _,_=>rfl
 |.str _,_=>rfl
 |.list _,_=>rfl
 |.dict _,_=>rfl
def Cq{n:Int}{us:List Tie}{a b:Int}{d:D}(h:hasB az 3 d=false):nW n us a b d=false:=by
 match d,h with
 |.tuple [e,x,y],h=>show(bB az e&&_)=false;rw[uo h];rfl
 |.tuple [],_=>rfl
 |.tuple [_],_=>rfl
 |.tuple [_,_],_=>rfl
 |.tuple (_::_::_::_::_),_=>rfl
 |.none,_=>rfl
 |.bool _,_=>rfl
 |.int _,_=>rfl
 |.str _,_=>rfl
 |.list _,_=>rfl
 |.dict _,_=>rfl
def Q7(l:List Int):cD (l.map Â) (some 1) (some (-1))=(cP l).map Â:=by
 unfold cD cP;have a:HT.sIx ⇑(l.map Â) 0 (some 1)=min 1 ⇑(l.map Â):=HT.jH _ 0 1;have b:HT.sIx ⇑(l.map Â) ⇑(l.map Â) (some (-1))=⇑(l.map Â) - 1:=by
  have e:HT.sIx ⇑(l.map Â) ⇑(l.map Â) (some (-1))=((-1:Int)+(⇑(l.map Â):Int)).toNat:=rfl;rw[e];lia
 rw[a,b,List.map_drop,List.map_dropLast,List.dropLast_eq_take,List.drop_take];by_cases h:1<=⇑(l.map Â)
 ·rw[Nat.min_eq_left h]
 ·have:l.map Â=[]:=List.length_eq_zero_iff.mp ();rw[this];rfl
def KJ{n:Int}{us:List Tie}{a b:Int}{d:D}(h:hasB am 3 d=false):wM n us a b d=false:=by
 match d,h with
 |.tuple [e,x,y],h=>show(bB am e&&_)=false;rw[uo h];rfl
 |.tuple [],_=>rfl
 |.tuple [_],_=>rfl
 |.tuple [_,_],_=>rfl
 |.tuple (_::_::_::_::_),_=>rfl
 |.none,_=>rfl
 |.bool _,_=>rfl
 |.int _,_=>rfl
 |.str _,_=>rfl
 |.list _,_=>rfl
 |.dict _,_=>rfl
abbrev Vc(P w K mg base):=ċ P w K mg base 2 dC [af,"some"] (spD RX)
def Aj(F:Fun K "is_apart" "is_apart" (top 44) f fd)(B:ĩ mg)(k:kA7 P w K mg base)(j:Vc P w K mg base)(l:Qw P w K mg base):FnOk P w K mg base CX0 3 f fd [ae,bi,bn,af] (spD X4):=by
 refine okT F (N:=[ae,bi,bn,af,"side"]) zC (λhr nd=>È (å none (i:=4) nd rfl zQ (ú k hr (À (Ã 0) (À (Ã 1) Á))))
  (Ô (Û (Ĵ (ú l hr (À (Ã 3) (À Ģ (À Å Á)))) (Ĵ (Wr.eX hr.units (Ã 2) (Ã 4)) (ŷ (ú j hr (À (Î (Ã 3) Å) (À (Ã 4) Á))))))))) ?_
 rintro ds P ⟨n,us,a,b,d,rfl,L,p,q⟩;refine⟨[.im (aq n us),.im (.int a),.im (.int b),aV d,.any],c7 rfl,?_⟩;let⟨s,m,r,ok,g,h,b0,b1⟩:=L;refine⟨n,us,a,rfl,(),(),(),ok,g,h,?_⟩;rcases aL d with z|z
 all_goals
  rw[z];refine⟨d,av,2,rfl,∅,?_⟩;show if hasB av 2 d=true then _ else _
  cases hh:hasB av 2 d with
  |false =>
   rw[Mu hh]at q;exact aA (A:=True) ⟨rfl,q⟩
  |true =>
   let⟨e,x,rfl,o⟩:=G4 hh;have c:P (.bool (bB av e&&(!decide (b∈aD n us [] a)&&fC (aD n us [] a) x))):=q;rw[o,ÿ]at c;refine au (B:=True) ⟨rfl,ń _,?_⟩;show if(!(((rsI (adj us [] []) n.toNat a).map Â).any λe=>Ü e (.int b)))=true then _ else _
   rw[Ć];cases hb:decide (b∈rsI (adj us [] []) n.toNat a)with
   |true =>
    rw[show decide (b∈aD n us [] a)=true from hb]at c;exact aA (A:=True) ⟨rfl,c⟩
   |false =>
    rw[show decide (b∈aD n us [] a)=false from hb]at c;exact au (B:=True) ⟨x,rfl,x,_,rfl,p.few _ rfl x (É _ Í),rfl,c⟩
def mD(F:Fun K cf cf (top 45) f fd)(B:ĩ mg)(l:kA7 P w K mg base)(r:Xj P w K mg base)(o:Qw P w K mg base)(p:kA9 P w K mg base)(m:Vc P w K mg base):FnOk P w K mg base CX0 4 f fd [ae,bi,bn,af] (spD fPT):=by
 refine okT F (N:=[ae,bi,bn,af,"side"]) zC (λhr nd=>È (ø (ů (Ĺ (č (ă (ú o hr (À (Ã 3) (À Ģ (À Å Á)))))) (Ĺ (č (ă (ú r hr (À (Ã 0) (À (Î (Ã 3) Å) Á))))) (Ť (ĭ hr.units (Ã 2) (ú l hr (À (Ã 0) (À (Ã 1) Á)))))))) (Ô (Û İ)) à)
  (È (å none (i:=4) nd rfl zQ (ú l hr (À (ú p hr (À (Ã 0) (À (æ (À (Î (Ã 3) Å) Á)) Á))) (À (Ã 1) Á))))
  (Ô (Û (Ĵ (Wr.eX hr.units (Ã 2) (Ã 4)) (ŷ (ú m hr (À (Î (Ã 3) Å) (À (Ã 4) Á))))))))) ?_
 rintro ds P ⟨n,us,a,b,d,rfl,L,u,q⟩;refine⟨[.im (aq n us),.im (.int a),.im (.int b),aV d,.any],c7 rfl,?_⟩;let⟨C,s,v,ok,h,j,b0,b1⟩:=L;rcases aL d with z|z
 all_goals
  rw[z];refine⟨d,az,3,rfl,∅,?_⟩;show if(!hasB az 3 d)=true then _ else _
  cases hh:hasB az 3 d with
  |false =>
   rw[Cq hh]at q;exact au (B:=True) (au (B:=True) ⟨rfl,q⟩)
  |true =>
   let⟨e,k,x,rfl,t⟩:=cG hh;have c:P (.bool (bB az e&&(aH (⇑us:Nat) k&&(decide (b∈aD n us [] a)&&(!decide (b∈aD n us [toI k] a)&&fC (aD n us [toI k] a) x))))):=q;rw[t,ÿ]at c;refine aA (A:=True) ⟨k,rfl,n,us,k,rfl,?_⟩;show if(!aH (⇑us:Int) k)=true then _ else _
   cases hk:aH (⇑us:Int) k with
   |false =>
    rw[hk]at c;exact au (B:=True) (au (B:=True) ⟨rfl,c⟩)
   |true =>
    rw[hk,ÿ]at c;let⟨i,rfl⟩:=jT hk;refine aA (A:=True) ⟨n,us,a,rfl,(),(),(),ok,h,j,rfl,ń _,?_⟩;show if(!(((rsI (adj us [] []) n.toNat a).map Â).any λe=>Ü e (.int b)))=true then _ else _
    rw[Ć];cases hb:decide (b∈rsI (adj us [] []) n.toNat a)with
    |false =>
     rw[show decide (b∈aD n us [] a)=false from hb]at c;exact au (B:=True) ⟨rfl,c⟩
    |true =>
     rw[show decide (b∈aD n us [] a)=true from hb,ÿ]at c;have y:=JB us [i];refine aA (A:=True) ⟨.int i,rfl,zK,n,us,[i],rfl,(),n,wo us [i],a,rfl,(),(),(),Rg ok,h,j,rfl,ń _,?_⟩;show if(!(((rsI (adj (wo us [i]) [] []) n.toNat a).map Â).any λe=>Ü e (.int b)))=true then _ else _
     rw[Ć,show rsI (adj (wo us [i]) [] []) n.toNat a=aD n us [i] a from Gf λx=>Rm];have c:P (.bool (!decide (b∈aD n us [i] a)&&fC (aD n us [i] a) x)):=c;cases g:decide (b∈aD n us [i] a)with
     |true =>
      rw[g]at c;exact aA (A:=True) ⟨rfl,c⟩
     |false =>
      rw[g]at c;exact au (B:=True) ⟨x,rfl,x,_,rfl,u.few _ rfl x (É _ (É _ Í)),rfl,c⟩
def qg(F:Fun K di di (top 43) f fd)(B:ĩ mg)(b:Xi P w K mg base):FnOk P w K mg base CX0 2 f fd [ez,ck] (spD R9):=by
 refine okT F (N:=[ez,ck]) zC (λhr nd=>Ô (Û (Wr.sS (ú b hr (À (Wr.iQ (Î (Ã 0) Å) (ű Å) (ű (Wr.cV Å))) (À (Wr.iQ (Î (Ã 1) Å) (ű Å) (ű (Wr.cV Å))) Á)))))) ?_;rintro ds P ⟨p,k,a,c,rfl,g,e,q⟩;refine⟨[.sh (.tuple [iD p,iD k]),.sh (.tuple [iD a,iD c])],rfl,?_⟩;have im:∀l:List Int,cD (l.map Â) (some 1) (some (-1))=(cP l).map Â:=Q7;have d:∀l:List Int,⇑(cP l)<=⇑l:=λl=>by
  unfold cP;rw[œ,List.length_dropLast];lia
 refine⟨iD p,rfl,.inl ⟨by show bQ (cD (p.map Â) (some 1) (some (-1)))=true;rw[im];exact aP _,iD a,rfl,.inl ⟨by show bQ (cD (a.map Â) (some 1) (some (-1)))=true;rw[im];exact aP _,cP p,cP a,by show [ĉ (cD (p.map Â) (some 1) (some (-1))),.list (cD (a.map Â) (some 1) (some (-1)))]=_;rw[im,im];rfl,by have:=d p;lia,rfl,q⟩⟩⟩
def j4(F:Fun K br br (top 46) f fd)(B:ĩ mg)(p:kA7 P w K mg base)(l:kA2 P w K mg base)(r:Qw P w K mg base)(s:kA8 P w K mg base)(o:Vc P w K mg base):FnOk P w K mg base CX0 7 f fd [ae,bi,bn,af] (spD fPP):=by
 refine okT F (N:=[ae,bi,bn,af,"side"]) zC (λhr nd=>È (ø (ů (Ĺ (č (ă (ú r hr (À (Ã 3) (À Ģ (À Å Á)))))) (Ĺ (č (ă (ú l hr (À (Ã 0) (À (Î (Ã 3) Å) Á))))) (Ť (ĭ hr.units (Ã 2) (ú p hr (À (Ã 0) (À (Ã 1) Á)))))))) (Ô (Û İ)) à)
  (È (ø (Wr.eU hr.units (Î (Ã 3) Å) (ê (À (Ã 1) (À (Ã 2) Á)))) (Ô (Û İ)) à)
  (È (å none (i:=4) nd rfl zQ (ú s hr (À (Ã 0) (À (Î (Ã 3) Å) (À (Ã 1) Á)))))
  (Ô (Û (Ĵ (Wr.eX hr.units (Ã 2) (Ã 4)) (ŷ (ú o hr (À (Î (Ã 3) Å) (À (Ã 4) Á)))))))))) ?_
 rintro ds P ⟨n,us,a,b,d,rfl,L,C,q⟩;refine⟨[.im (aq n us),.im (.int a),.im (.int b),aV d,.any],c7 rfl,?_⟩;let⟨t,u,D,ok,j,k,b0,b1⟩:=L;rcases aL d with z|z
 all_goals
  rw[z];refine⟨d,am,3,rfl,∅,?_⟩;show if(!hasB am 3 d)=true then _ else _
  cases hh:hasB am 3 d with
  |false =>
   rw[KJ hh]at q;exact au (B:=True) (au (B:=True) ⟨rfl,q⟩)
  |true =>
   let⟨e,v,x,rfl,y⟩:=cG hh;have g:P (.bool (bB am e&&(aH n v&&(decide (b∈aD n us [] a)&&(!decide (toI v=a\/toI v=b)&&(!decide (b∈rsI (adj us [] [toI v]) n.toNat a)&&fC (rsI (adj us [] [toI v]) n.toNat a) x)))))):=q;rw[y,ÿ]at g;refine aA (A:=True) ⟨v,rfl,n,us,v,rfl,?_⟩;show if(!aH n v)=true then _ else _
   cases hk:aH n v with
   |false =>
    rw[hk]at g;exact au (B:=True) (au (B:=True) ⟨rfl,g⟩)
   |true =>
    rw[hk,ÿ]at g;let⟨i,rfl⟩:=jT hk;have hi:0<=i/\i<n:=eB hk;refine aA (A:=True) ⟨n,us,a,rfl,(),(),(),ok,j,k,rfl,ń _,?_⟩;show if(!(((rsI (adj us [] []) n.toNat a).map Â).any λe=>Ü e (.int b)))=true then _ else _
    rw[Ć];cases hb:decide (b∈rsI (adj us [] []) n.toNat a)with
    |false =>
     rw[show decide (b∈aD n us [] a)=false from hb]at g;exact au (B:=True) ⟨rfl,g⟩
    |true =>
     rw[show decide (b∈aD n us [] a)=true from hb,ÿ]at g;let⟨m,rfl⟩:=Int.eq_ofNat_of_zero_le hi.1;have g:P (.bool (!decide (((m:Nat):Int)=a\/((m:Nat):Int)=b)&&(!decide (b∈rsI (adj us [] [((m:Nat):Int)]) n.toNat a)&&fC (rsI (adj us [] [((m:Nat):Int)]) n.toNat a) x))):=g;refine aA (A:=True) ?_;refine⟨.int ((m:Nat):Int),rfl,zK,rfl,rfl,?_⟩;show if([Â a,.int b].any λe=>Ü e (.int ((m:Nat):Int)))=true then _ else _
     rw[gM];by_cases c:((m:Nat):Int)=a\/((m:Nat):Int)=b
     ·rw[decide_eq_true c]at g ⊢;exact au (B:=True) ⟨rfl,g⟩
     rw[eA c]at g ⊢;have g:P (.bool (!decide (b∈rsI (adj us [] [((m:Nat):Int)]) n.toNat a)&&fC (rsI (adj us [] [((m:Nat):Int)]) n.toNat a) x)):=g;refine aA (A:=True) ⟨.int ((m:Nat):Int),rfl,n,us,m,a,rfl,t,(),(),ok,(),j,k,λz=>c (.inl z.symm),rfl,ń _,?_⟩;show if(!(((rsI (adj us [] [((m:Nat):Int)]) n.toNat a).map Â).any λe=>Ü e (.int b)))=true then _ else _
     rw[Ć];cases h:decide (b∈rsI (adj us [] [((m:Nat):Int)]) n.toNat a)with
     |true =>
      rw[h]at g;exact aA (A:=True) ⟨rfl,g⟩
     |false =>
      rw[h]at g;exact au (B:=True) ⟨x,rfl,x,_,rfl,C.few _ rfl x (É _ (É _ Í)),rfl,g⟩
def lg(F:Fun K bS bS (top 47) f fd)(B:ĩ mg)(r:Xl P w K mg base)(t:ċ P w K mg base 7 dE [ae,bi,bn,af] (spD f2W))(u:ċ P w K mg base 2 di [ez,ck] (spD R9))(v:ċ P w K mg base 3 "is_apart" [ae,bi,bn,af] (spD X4))(C:ċ P w K mg base 7 br [ae,bi,bn,af] (spD fPP))(s:Xk P w K mg base)(D:ċ P w K mg base 4 cf [ae,bi,bn,af] (spD fPT)):FnOk P w K mg base CX0 8 f fd [ae,bi,bn,af] (spD M6):=by
 refine okT F (N:=[ae,bi,bn,af]) zC (λhr nd=>È (Wr.dz (ú r hr (À (Ã 0) (À (Ã 1) (À (Ã 2) Á)))))
  (È (ø (ă (ú t hr (À (Ã 0) (À (Ã 1) (À (Ã 2) (À (Ã 3) Á)))))) (Ô (Û (ú u hr (À (Î (Ã 3) Å) (À (Î (Ã 3) Å) Á))))) à)
  (È (ø (ů (Ĺ (ă (ú C hr (À (Ã 0) (À (Ã 1) (À (Ã 2) (À (Ã 3) Á)))))) (Ť (ă (ú v hr (À (Ã 0) (À (Ã 1) (À (Ã 2) (À (Ã 3) Á))))))))) (Ô (Û İ)) à)
  (Ô (Û (Ĵ (ú D hr (À (Ã 0) (À (Ã 1) (À (Ã 2) (À (Ã 3) Á))))) (ŷ (Wr.Dm (ú s hr (À (Ã 0) (À (Ã 1) (À (Ã 2) Á)))) ŗ)))))))) ?_
 rintro ds P ⟨n,us,a,b,d,rfl,L,O,c,q⟩;refine⟨[.im (aq n us),.im (.int a),.im (.int b),aV d],c7 rfl,?_⟩;have p:=L;let⟨J,M,Q,ok,g,h,b0,b1⟩:=p;refine⟨n,us,a,b,rfl,g,h,b0,b1,O,?_⟩;have q:P (.bool (if nU n us a b d then vK d else wM n us a b d || (oY n us a b d || (nW n us a b d&&Aq n us a b)))):=q;rcases aL d with z|z
 all_goals
  rw[z];refine⟨n,us,a,b,d,rfl,g,h,b0,b1,c,?_⟩;show if nU n us a b d=true then _ else _
  cases h1:nU n us a b d with
  |true =>
   rw[h1]at q;have q:P (.bool (vK d)):=q;cases hh:hasB ar 3 d with
   |false=>exact eI ((wF hh).symm.trans h1) ∅
   |true =>
    let⟨e,x,y,rfl,R⟩:=cG hh;have h1:(bB ar e&&(bN true n us a b x&&(bN true n us a b y&&!fP (j9 x) (j9 y))))=true:=h1;rw[Ï,Ï,Ï]at h1;have E:=c.row _ rfl x (É _ Í);have G:=c.row _ rfl y (É _ (É _ Í));have i:=h1.2.1;have j:=h1.2.2.1;let⟨k,H,rfl,_⟩:=dO (by unfold bN at i;rw[Ï]at i;exact i.1);let⟨l,I,rfl,_⟩:=dO (by unfold bN at j;rw[Ï]at j;exact j.1);have q:P (.bool (!fP (cP ((k.map Â).map toI)) (cP ((l.map Â).map toI)))):=q;rw[bx,bx]at q;exact au (B:=True) ⟨_,rfl,_,rfl,k,H,l,I,rfl,by have:=E _ rfl (iD k) Í _ rfl;rwa [Ä]at this,by have:=G _ rfl (iD l) Í _ rfl;rwa [Ä]at this,rfl,q⟩
  |false =>
   rw[h1]at q;have q:P (.bool (wM n us a b d || (oY n us a b d || (nW n us a b d&&Aq n us a b)))):=q;refine aA (A:=True) ⟨n,us,a,b,d,rfl,L,c,?_⟩;cases h2:wM n us a b d with
   |true =>
    rw[h2]at q;exact au (B:=True) (au (B:=True) ⟨rfl,q⟩)
   |false =>
    rw[h2,Bool.false_or]at q;refine aA (A:=True) ⟨n,us,a,b,d,rfl,L,c,?_⟩;show if oY n us a b d=true then _ else _
    cases m:oY n us a b d with
    |true =>
     rw[m]at q;exact au (B:=True) ⟨rfl,q⟩
    |false =>
     rw[m,Bool.false_or]at q;refine aA (A:=True) ⟨n,us,a,b,d,rfl,L,c,?_⟩;cases o:nW n us a b d with
     |false =>
      rw[o]at q;exact aA (A:=True) ⟨rfl,q⟩
     |true =>
      rw[o,ÿ]at q;refine au (B:=True) ⟨n,us,a,b,rfl,J,(),(),ok,g,h,b0,b1,?_⟩;exact⟨rfl,q⟩
def eG(e:D):Prop:=∀xs,e=.list xs->⇑xs<=400/\∀x∈xs,x.canLay0=true/\x.depth<=50
def iW(e:D):Prop:=∀es,e=.tuple es->∀x∈es,eG x
def ThO(d:D):Prop:=∀es,d=.tuple es->∀e∈es,eG e/\iW e/\e.canLay0=true/\e.depth<=50
def eG.few{e:D}(h:eG e):Rf e:=λxs x=>(h xs x).1
def iW.few{e:D}(h:iW e):Od e:=λes x y hy=>(h es x y hy).few
def ThO.th{d:D}(h:ThO d):ThD d:=⟨λes e x hx=>(h es e x hx).1.few,λes e x hx=>(h es e x hx).2.1.few⟩
def iH(xs:List D):Ü (.list xs) (.list [])=xs.isEmpty:=by cases xs <;> rfl
def Al{xs:List D}(h:∀x∈xs,x.canLay0=true/\x.depth<=50):okD (.list xs)=true:=by
 have a:Ď xs=true/\ę xs<=50:=by
  induction xs with
  |nil=>exact⟨rfl,Ă _⟩
  |cons x xs ih =>
   let⟨b,d⟩:=ih λy hy=>h y (É _ hy);let⟨c,e⟩:=h x Í;refine⟨?_,?_⟩
   ·show(x.canLay0&&Ď xs)=true;rw[c,b];rfl
   ·show max x.depth (ę xs)<=50;lia
 show(Ď xs&&decide (ę xs+1<=60))=true;rw[a.1,decide_eq_true ()];rfl
def QT(p:D->Bool)(es:List D):(((es.filter λd=>!p d).map λd=>d)).isEmpty=es.all p:=by
 rw[List.map_id'];induction es with
 |nil=>rfl
 |cons e es ih =>
  cases h:p e with
  |true=>rw[ŝ (by rw[h];decide),Ż,h,ih];rfl
  |false=>rw[ī (by rw[h];rfl),Ż,h];rfl
def norm_le{k s:Kd}{d:D}(h:k.le s=true):(norm k d).le s=true:=by
 by_cases c:cM d=true
 ·rw[aN c];rfl
 ·rw[bV c];exact h
def lB:D->Bool
 |.list es=>es.all isW
 |_=>false
def R6:FF:=λds P=>∃d,ds=[d]/\eG d/\P (.bool (lB d))
def XS:FF:=λds P=>∃d w c,ds=[d,.str w,.int c]/\1<=c/\P (.bool (hasB w c d))
def Sg:FF:=λds P=>∃d l,ds=[d,iD l]/\eG d/\P (.bool (fC l d))
def XR:FF:=λds P=>∃n us a b d,ds=[aq n us,.int a,.int b,d]/\⇑us<=100/\OkN n us/\0<=a/\a<n/\iW d/\P (.bool (bN true n us a b d))
def StO(us:List Tie)(ps ks:List Int)(i:Nat):Prop:=∀k,ks[i]?=some k->(0<=k/\k<(⇑us:Nat))/\∃p q,ps[i]?=some p/\ps[i+1]?=some q/\us[k.toNat]?=some (mmT (p,q))
def Bb{ps:List Int}{i:Nat}{p q:Int}(h1:ps[i]?=some p)(h2:ps[i+1]?=some q):(kJ ps)[i]?=some (p,q):=by
 unfold kJ;have hi:=(Ç.mp h2).1;rw[List.getElem?_zip_eq_some];refine⟨?_,?_⟩
 ·rw[List.dropLast_eq_take,List.getElem?_take_of_lt ()];exact h1
 ·rw[List.getElem?_drop,Nat.add_comm];exact h2
def qD{n:Int}{us:List Tie}{a b:Int}{ps ks:List Int}(ok:OkN n us)(D:0<=a)(E:a<n):bN true n us a b (.tuple [iD ps,iD ks])=true↔(⇑ps=⇑ks+1/\ps.head?=some a/\ps.getLast?=some b/\qp ps=true/\∀i,i<⇑ks->StO us ps ks i):=by
 have e:bN true n us a b (.tuple [iD ps,iD ks])=(((((!(ps.map Â).isEmpty&&(ps.map Â).all (aH n)&&decide (((ps.map Â).map toI).head?=some a))&&decide (((ps.map Â).map toI).getLast?=some b))&&qp ((ps.map Â).map toI))&&(decide ((⇑(ks.map Â):Int)=(⇑(ps.map Â):Int) - 1)&&(ks.map Â).all (aH (⇑us:Int))))&&(((kJ ((ps.map Â).map toI)).zip ((ks.map Â).map toI)).all λp=>rM true us p.1 p.2)):=rfl;rw[e,bx,bx];simp only[Ï,eC,Ä,Ĕ];constructor
 ·rintro⟨⟨⟨⟨⟨⟨h1,h2⟩,l⟩,v⟩,w⟩,L,M⟩,y⟩;have C:⇑ps=⇑ks+1:=by
   cases ps with
   |nil=>cases l
   |cons x r=>rw[ñ]at L ⊢;lia
  refine⟨C,l,v,w,λi hi k hk=>?_⟩;have hb:=M (.int k) (õ.mpr ⟨k,Ì hk,rfl⟩);have hb:0<=k/\k<(⇑us:Nat):=eB hb;have h:=Ë (show i<⇑ps by lia);have f:=Ë (show i+1<⇑ps by lia);refine⟨hb,_,_,h,f,?_⟩;have B:((kJ ps).zip ks)[i]?=some ((ps[i],ps[i+1]),k):=List.getElem?_zip_eq_some.mpr ⟨Bb h f,hk⟩;have:=y _ (Ì B);exact eB this
 ·rintro⟨C,l,v,w,y⟩;have step:∀i,i<⇑ks->∃k p q,ks[i]?=some k/\ps[i]?=some p/\ps[i+1]?=some q/\(0<=k/\k<(⇑us:Nat))/\us[k.toNat]?=some (mmT (p,q)):=λi hi=>by
   have hk:=Ë hi;let⟨hb,p,q,h,f,m⟩:=y i hi _ hk;exact⟨_,p,q,hk,h,f,hb,m⟩
  have rng:∀x∈ps,0<=x/\x<n:=λx A=>by
   let⟨j,g,e⟩:=Ŷ.mp A;have u:ps[j]?=some x:=by rw[Ë g,e]
   cases j with
   |zero =>
    rw[←List.head?_eq_getElem?,l]at u;cases u;exact⟨D,E⟩
   |succ i =>
    let⟨k,p,q,_,_,f,_,m⟩:=step i ();rw[u]at f;cases f;have t:=ok _ (Ì m);have s:0<=(if x<p then x else p)/\(if x<p then x else p)<n:=t.1;have t2:0<=(if x > p then x else p)/\(if x > p then x else p)<n:=t.2.1;by_cases c:x<p
    ·rw[eD c]at s;exact s
    ·by_cases F:x > p
     ·rw[eD F]at t2;exact t2
     ·have:x=p:=()
      subst this;rw[eH c]at s;exact s
  refine⟨⟨⟨⟨⟨⟨?_,λd hd=>?_⟩,l⟩,v⟩,w⟩,(),λd hd=>?_⟩,λz B=>?_⟩
  ·cases ps with
   |nil=>cases l
   |cons x r=>rfl
  ·let⟨x,A,rfl⟩:=õ.mp hd;exact decide_eq_true (rng x A)
  ·let⟨k,hk,rfl⟩:=õ.mp hd;let⟨j,g,e⟩:=Ŷ.mp hk;let⟨N,_,_,o,_,_,hb,_⟩:=step j g;rw[Ë g,e]at o;cases o;exact decide_eq_true hb
  ·let⟨j,g,e⟩:=Ŷ.mp B;have K:((kJ ps).zip ks)[j]?=some z:=by rw[Ë g,e]
   let⟨h,f⟩:=List.getElem?_zip_eq_some.mp K;have g:=(Ç.mp f).1;let⟨k,p,q,o,I,J,hb,m⟩:=step j g;rw[Bb I J]at h;rw[o]at f;have G:=Ö h;have H:=Ö f;show decide (us[z.2.toNat]?=some (mmT z.1))=true;rw[←G,←H];exact decide_eq_true m
def rE{n:Int}{us:List Tie}{a b:Int}{x y:D}(h:bN true n us a b (.tuple [x,y])=true):lB x=true/\lB y=true:=by
 unfold bN at h;rw[Ï]at h;let⟨ps,ks,e,_⟩:=dO h.1;cases e;have c:∀l:List Int,(l.map Â).all isW=true:=λl=>Ĕ.mpr λd hd=>by
  let⟨i,_,rfl⟩:=õ.mp hd;rfl
 exact⟨c ps,c ks⟩
def Lp{d:D}(h:lB d=true):∃k,d=iD k:=by
 cases d with
 |list es=>exact⟨_,eJ ĉ (yq h)⟩
 |_=>cases h
def Q5{l:List Int}{i:Nat}{p y:Int}(h1:l[i]?=some p)(h2:l[i+1]?=some y):cD (l.map Â) (some ((i:Nat):Int)) (some (((i:Nat):Int)+2))=[p,y].map Â:=by
 have hi:=(Ç.mp h2).1;have c:⇑(l.map Â)=⇑l:=Ä ..;unfold cD;have a:HT.sIx ⇑(l.map Â) 0 (some ((i:Nat):Int))=i:=by
  rw[HT.jH];lia
 have b:HT.sIx ⇑(l.map Â) ⇑(l.map Â) (some (((i:Nat):Int)+2))=i+2:=by
  rw[show((i:Nat):Int)+2=((i+2:Nat):Int) by lia,HT.jH];lia
 rw[a,b,show i+2 - i=2 by lia,←List.map_drop,←List.map_take];congr 1;rw[Ŏ (),Ŏ hi,(Ç.mp h2).2];have:=(Ç.mp h1).2;rw[this];rfl
def O1{p y:Int}{out:List Int}(hp:out.Perm [p,y])(hs:out.Pairwise (·<=·)):out=[(mmT (p,y)).1,(mmT (p,y)).2]:=by
 have h2:([(mmT (p,y)).1,(mmT (p,y)).2]:List Int).Pairwise (·<=·):=by
  unfold mmT;simp;split <;> split <;> lia
 have e:out.Perm [(mmT (p,y)).1,(mmT (p,y)).2]:=by
  refine hp.trans ?_;unfold mmT;dsimp only;by_cases c:y<p
  ·rw[eD c,eH ()];exact List.Perm.swap _ _ _
  ·by_cases d:y > p
   ·rw[eH c,eD d]
   ·rw[eH c,eH d,show y=p by lia]
 exact e.eq_of_pairwise (λa b _ _ h1 h2=>()) hs h2
def yj{c:Bool}{A B:Prop}(h:c=true)(a:A):if c=true then A else B:=by rw[eD h];exact a
def u6{c:Bool}{A B:Prop}(h:c=false)(b:B):if c=true then A else B:=by rw[h,eH Ð];exact b
def Vq(k l:List Int):Ü (iD k) (iD l)=decide (k=l):=by
 induction k generalizing l with
 |nil=>cases l <;> simp[iD,Ü,PyData.eqvAll]
 |cons x k ih =>
  cases l with
  |nil=>rfl
  |cons y l =>
   have:=ih (l:=l);show(x==y&&Ü (iD k) (iD l))=_;rw[this,Ė];simp
def oO:([a7,ac]:List Str).Nodup:=⋯
def tD(F:Fun K dl dl (top 53) f fd)(B:ĩ mg):FnOk P w K mg base CX0 1 f fd [ac] (spD R6):=by
 refine okT F (N:=[ac]) zC (λhr nd=>È (ø (č (ă (Ō mY B.isinstance (Ã 0) (Wr.wty rfl B.list TW)))) (Ô (Û İ)) à)
  (Ô (Û (Ţ hr.units (Ś [a7] rfl (ħ (Ã 0)) (λc=>(ä (i:=0) oO rfl zQ)) (λc=>(ť (ů (Ĺ (č (ă (Ō GX B.isinstance (Ã 0) (Wr.wty rfl B.int So)))) (Ť (ă (Ō uc B.isinstance (Ã 0) (Wr.wty rfl B.bool Su)))))))) (λc=>(Ã 0))) (æ Á))))) ?_
 rintro ds P ⟨d,rfl,h,q⟩;refine⟨[aV d],rfl,?_⟩;cases d with
 |list es =>
  let⟨hl,g⟩:=h es rfl;refine aA (A:=True) (fK es (λd=>d) (λd=>!isW d) (λd=>d) .shr (List.map_id' es).symm () (λd hd A B h1 h2=>?_) ?_)
  ·by_cases hi:cM d=true
   ·have a:∀k,norm k d=.imm:=λk=>aN hi;unfold gNm;simp only[a];cases d with
    |int i=>exact aA (A:=True) (aA (A:=True) (h2 rfl))
    |bool b=>exact aA (A:=True) (au (B:=True) ⟨rfl,h1 rfl⟩)
    |_=>exact au (B:=True) ⟨norm_le rfl,h1 rfl⟩
   ·have a:∀k,norm k d=k:=λk=>bV hi;unfold gNm;simp only[a];cases d with
    |int i=>exact eI rfl hi
    |bool b=>exact eI rfl hi
    |_=>exact au (B:=True) ⟨norm_le rfl,h1 rfl⟩
  ·refine⟨zK,Al λx hx=>?_,rfl,rfl,?_⟩
   ·rw[List.map_id']at hx;exact g x (á.mp hx).1
   ·show P (.bool (Ü (.list ((es.filter λd=>!isW d).map λd=>d)) (.list [])));rw[iH,QT];exact q
 |tuple es=>rcases aL (.tuple es)with e|e <;> rw[e] <;> exact au (B:=True) ⟨rfl,q⟩
 |_=>exact au (B:=True) ⟨rfl,q⟩
def Ig(F:Fun K "_law_is" "_law_is" (top 60) f fd)(B:ĩ mg)(b:mg "str"=none):FnOk P w K mg base CX0 1 f fd [ac,ei,bv] (spD XS):=by
 refine okT F (N:=[ac,ei,bv]) zC (λhr nd=>Ô (Û (Ĵ (Ō kit_tuple B.isinstance (Ã 0) (Wr.wty rfl B.tuple TZ)) (Ĵ (Ţ hr.units (ĝ B.len (À (Ã 0) Á)) (Ã 2)) (Ĵ (Ō GR B.isinstance (Î (Ã 0) Å) (Wr.wty rfl b Dl.boot_str)) (ŷ (Ţ hr.units (Î (Ã 0) Å) (Ã 1)))))))) ?_;rintro ds P ⟨d,w,c,rfl,g,q⟩;refine⟨[aV d,.im (.str w),.im (.int c)],rfl,?_⟩;cases d with
 |tuple es =>
  rcases aL (.tuple es)with e|e
  all_goals
   rw[e];refine au (B:=True) ?_;show if decide ((⇑es:Int)=c)=true then _ else _
   by_cases h:(⇑es:Int)=c
   ·rw[decide_eq_true h];refine au (B:=True) ?_;match es,h,q with
    |[],h,q=>exact eI h (by show ¬(0:Int)=c;lia)
    |x::r,h,q =>
     have a:=at0 (x:=x) (r:=r);have q:P (.bool (decide ((⇑(x::r):Int)=c)&&bB w x)):=q;rw[decide_eq_true h,ÿ]at q;refine⟨x,a,?_⟩;cases x with
     |str s=>exact au (B:=True) ⟨.str s,a,rfl,q⟩
     |_=>exact aA (A:=True) ⟨rfl,q⟩
   ·rw[eA h];refine aA ⟨rfl,?_⟩;match es,h,q with
    |[],h,q=>exact q
    |x::r,h,q =>
     have q:P (.bool (decide ((⇑(x::r):Int)=c)&&bB w x)):=q;rw[eA h,ŭ]at q;exact q
 |_=>exact aA (A:=True) ⟨rfl,q⟩
abbrev Qv(P w K mg base):=ċ P w K mg base 1 dl [ac] (spD R6)
def Ag(F:Fun K em em (top 61) f fd)(B:ĩ mg)(b:Qv P w K mg base):FnOk P w K mg base CX0 2 f fd [ac,bo] (spD Sg):=by
 refine okT F (N:=[ac,bo]) zC (λhr nd=>Ô (Û (Ĵ (ú b hr (À (Ã 0) Á)) (ŷ (Ţ hr.units (Ã 0) (Ã 1)))))) ?_;rintro ds P ⟨d,l,rfl,c,q⟩;refine⟨[aV d,.sh (iD l)],rfl,?_⟩;rcases aL d with z|z
 all_goals
  rw[z];refine⟨d,rfl,c,?_⟩;show if lB d=true then _ else _
  cases hn:lB d with
  |false =>
   have e:fC l d=false:=by
    cases d with
    |list es=>show(es.all isW&&_)=false;rw[show es.all isW=false from hn];rfl
    |_=>rfl
   rw[e]at q;exact aA (A:=True) ⟨rfl,q⟩
  |true =>
   obtain⟨k,rfl⟩:∃k,d=iD k:=by
    cases d with
    |list es=>exact⟨_,eJ ĉ (yq hn)⟩
    |_=>cases hn
   have a:P (.bool ((k.map Â).all isW&&decide ((k.map Â).map toI=l))):=q;rw[bx,show(k.map Â).all isW=true from hn]at a;refine au (B:=True) ⟨mF k,mF l,rfl,?_⟩;show P (.bool (Ü (iD k) (iD l)));rw[Vq];exact a
def xO(F:Fun K d4 d4 (top 54) f fd)(B:ĩ mg)(bh:mg "set"=none)(X:mg cq=none)(O:Qv P w K mg base):FnOk P w K mg base CX0 2 f fd [aa,ag,ah,ac] (spD XR):=by
 refine okT F (N:=[aa,ag,ah,ac,a9,bt,cn,ax,"_law_two_here"]) zC (λhr nd=>È (ø (ů (Ĺ (č (ă (Ō kit_tuple B.isinstance (Ã 3) (Wr.wty rfl B.tuple TZ)))) (Ĺ (ł hr.units (ĝ B.len (À (Ã 3) Á)) Å) (Ĺ (č (ă (ú O hr (À (Î (Ã 3) Å) Á)))) (Ť (č (ă (ú O hr (À (Î (Ã 3) Å) Á))))))))) (Ô (Û İ)) à)
  (È (Wr.uG (Ã 3) (Wr.dH (n:=2) rfl (ė (ä (i:=4) nd rfl zQ) (ė (ä (i:=5) nd rfl zQ) ż))))
  (È (ø (ů (Ĺ (ł hr.units (ĝ B.len (À (Ã 4) Á)) (Ę (ĝ B.len (À (Ã 5) Á)) Å)) (Ĺ (ł hr.units (Î (Ã 4) Å) (Ã 1)) (Ĺ (ł hr.units (Î (Ã 4) (Wr.cV Å)) (Ã 2)) (Ť (ł hr.units (Wr.jP rfl bh B.len (À (Ã 4) Á)) (ĝ B.len (À (Ã 4) Á)))))))) (Ô (Û İ)) à)
  (È (ĵ ô rfl (Wr.nG X (À (Ã 5) Á)) (Wr.dH (n:=2) rfl (ė (ä (i:=6) nd rfl zQ) (ė (ä (i:=7) nd rfl zQ) ż))) (È (å none (i:=8) nd rfl zQ (Wr.gn B.sorted (À (Wr.iQ (Ã 4) (ű (Ã 6)) (ű (Ę (Ã 6) Å))) Á)))
  (È (ø (ů (Ĺ (č (Wr.jN K9 Ab Å (Ã 7) (ĝ B.len (À (Î (Ã 0) Å) Á)))) (Ť (ł hr.units (Î (Î (Ã 0) Å) (Ã 7)) (Wr.gW B.tuple (À (Ã 8) Á)))))) (Ô (Û İ)) à) (í [6,7,8] à))))
  (í [6,7,8] (Ô (Û İ))))))) ?_
 rintro ds P ⟨n,us,a,b,d,rfl,lu,ok,V,W,wo,q⟩;refine⟨[.im (aq n us),.im (.int a),.im (.int b),aV d,.any,.any,.any,.any,.any],c7 rfl,?_⟩;cases d with
 |tuple es =>
  by_cases h2:⇑es=2
  ·obtain⟨x,y,rfl⟩:∃d1 d2,es=[d1,d2]:=by
    match es,h2 with
    |[x,y],_=>exact⟨x,y,rfl⟩
   have M:=wo _ rfl x Í;have U:=wo _ rfl y (É _ Í);have m:∀{c:Bool},c=false->(c=true↔bN true n us a b (.tuple [x,y])=true)->P (.bool false):=λ{c} hc h=>by
    have e:bN true n us a b (.tuple [x,y])=false:=by
     rw[←hc,Ė];exact h.symm
    rw[←e];exact q
   by_cases im:cM (.tuple [x,y])=true
   ·rw[show aV (.tuple [x,y])=.im (.tuple [x,y])from eD im];have g:lB x=false:=by
     cases x with
     |list _=>exact eI im Ð
     |_=>rfl
    refine aA (A:=True) (aA (A:=True) ⟨x,rfl,x,rfl,M,?_⟩);show if(!lB x)=true then _ else _
    rw[g];exact au (B:=True) ⟨rfl,m (c:=false) rfl ⟨λz=>(nomatch z),λz=>by rw[(rE z).1]at g;cases g⟩⟩
   rw[show aV (.tuple [x,y])=.sh (.tuple [x,y])from eH im];refine aA (A:=True) (aA (A:=True) ⟨x,rfl,x,rfl,M,?_⟩);show if(!lB x)=true then _ else _
   cases g:lB x with
   |false=>exact au (B:=True) ⟨rfl,m (c:=false) rfl ⟨λz=>(nomatch z),λz=>by rw[(rE z).1]at g;cases g⟩⟩
   |true =>
   refine aA (A:=True) ⟨y,rfl,y,rfl,U,?_⟩;show if(!lB y)=true then _ else _
   cases l:lB y with
   |false=>exact au (B:=True) ⟨rfl,m (c:=false) rfl ⟨λz=>(nomatch z),λz=>by rw[(rE z).2]at l;cases l⟩⟩
   |true =>
   refine aA (A:=True) ?_;let⟨ps,rfl⟩:=Lp g;let⟨ks,rfl⟩:=Lp l;clear g l;have lp:=(M _ rfl).1;have lk:=(U _ rfl).1;have l1:⇑(ps.map Â)=⇑ps:=Ä ..;have l2:⇑(ks.map Â)=⇑ks:=Ä ..;have lu2:⇑(us.map pD)=⇑us:=Ä ..;have r:=qD (b:=b) (ps:=ps) (ks:=ks) ok V W;refine⟨rfl,?_⟩;show if(!decide ((⇑(ps.map Â):Int)=(⇑(ks.map Â):Int)+1))=true then _ else _
   by_cases hl:⇑ps=⇑ks+1
   ·rw[decide_eq_true (show(⇑(ps.map Â):Int)=(⇑(ks.map Â):Int)+1 by lia)];have T:ps≠[]:=λz=>by rw[z]at hl;cases hl
    obtain⟨x,g⟩:∃x,ps.head?=some x:=⟨_,List.head?_eq_some_head T⟩
    obtain⟨y,l⟩:∃y,ps.getLast?=some y:=⟨_,List.getLast?_eq_some_getLast T⟩
    have Z:atI (ps.map Â) 0=some (.int x):=bF (j:=0) (by rw[Ý,←List.head?_eq_getElem?,g];rfl);have ay:atI (ps.map Â) (-1)=some (.int y):=yS l;refine aA (A:=True) ⟨.int x,Z,?_⟩;show if(!decide (x=a))=true then _ else _
    by_cases u:x=a
    case neg =>
     rw[eA u];exact au (B:=True) ⟨rfl,m (c:=false) rfl ⟨λz=>(nomatch z),λz=>eI (Ö (g.symm.trans (r.mp z).2.1)) u⟩⟩
    rw[decide_eq_true u];refine aA (A:=True) ⟨.int y,ay,?_⟩;show if(!decide (y=b))=true then _ else _
    by_cases C:y=b
    case neg =>
     rw[eA C];exact au (B:=True) ⟨rfl,m (c:=false) rfl ⟨λz=>(nomatch z),λz=>eI (Ö (l.symm.trans (r.mp z).2.2.1)) C⟩⟩
    rw[decide_eq_true C];refine aA (A:=True) ⟨_,ps,rfl,(),?_⟩;have J:decide ((⇑(once ps):Int)=(⇑(ps.map Â):Int))=qp ps:=by
     unfold qp;rw[l1,Ė,eC,eC];lia
    show if(!decide ((⇑(once ps):Int)=(⇑(ps.map Â):Int)))=true then _ else _
    rw[J];cases hn:qp ps with
    |false=>exact au (B:=True) ⟨rfl,m (c:=false) rfl ⟨λz=>(nomatch z),λz=>by rw[(r.mp z).2.2.2.1]at hn;cases hn⟩⟩
    |true =>
    refine aA (A:=True) ?_;subst u C;refine⟨rfl,λ(i:Nat) ρ=>ρ=[.im (aq n us),.im (.int x),.im (.int y),.sh (.tuple [iD ps,iD ks]),.sh (iD ps),.sh (iD ks),.any,.any,.any]/\∀j,j<i->StO us ps ks j,⟨rfl,λj hj=>eI hj (Nat.not_lt_zero j)⟩,?_,?_⟩
    ·rintro i d ρ hd ⟨rfl,I⟩;rw[dF,Ý]at hd;obtain⟨k,hk,rfl⟩:∃k,ks[i]?=some k/\ő [.int ((i:Nat):Int),.int k]=d:=by
      cases e:ks[i]? with
      |none=>rw[e]at hd;cases hd
      |some t=>rw[e]at hd;exact⟨t,rfl,Ö hd⟩
     have hi:=(Ç.mp hk).1;have E:=Ë (show i<⇑ps by lia);have G:=Ë (show i+1<⇑ps by lia);generalize ps[i]=p at E;generalize ps[i+1]=s at G;have Q:=Q5 E G;refine⟨rfl,.inl ⟨by rw[Q];rfl,[p,s],Q,(show 2<64 by decide),λout hp hs=>?_⟩⟩;have J:=O1 hp hs;subst J;have o:¬StO us ps ks i->P (.bool false):=λz=>m (c:=false) rfl ⟨λz=>(nomatch z),λy=>eI ((r.mp y).2.2.2.2 i hi) z⟩;have L:StO us ps ks i->∀j,j<i+1->StO us ps ks j:=λz j hj=>by
      rcases Nat.lt_succ_iff_lt_or_eq.mp hj with h|rfl
      ·exact I j h
      ·exact z
     by_cases H:0<=k
     case neg =>
      have z:=o λz=>H (z k hk).1.1;refine u6 (c:=decide ((0:Int)<=k)) (eA H) ?_;exact⟨rfl,z⟩
     refine yj (c:=decide ((0:Int)<=k)) (decide_eq_true H) ⟨.tuple (us.map pD),rfl,?_⟩;by_cases S:k<(⇑us:Nat)
     case neg =>
      have z:=o λz=>S (z k hk).1.2;exact yj (c:=!decide (k<(⇑(us.map pD):Int))) (by rw[eA ()];rfl) ⟨rfl,z⟩
     have ht:=Ë (show k.toNat<⇑us by lia);generalize us[k.toNat]=t at ht;have Y:atI (us.map pD) k=some (pD t):=by
      have:=bF (xs:=us.map pD) (j:=k.toNat) (v:=pD t) (by rw[Ý,ht];rfl)
      rwa [show((k.toNat:Nat):Int)=k by lia]at this
     refine u6 (c:=!decide (k<(⇑(us.map pD):Int))) (by rw[decide_eq_true ()];rfl) ⟨.tuple (us.map pD),rfl,pD t,Y,rfl,rfl,?_⟩;by_cases D:t=mmT (p,s)
     ·exact u6 (c:=!PyData.eqv (pD t) (pD (mmT (p,s)))) (by rw[qX,decide_eq_true D];rfl) ⟨rfl,L λk' hk'=>by
       rw[hk]at hk';cases hk';exact⟨⟨H,S⟩,p,s,E,G,by rw[ht,D]⟩⟩
     ·have z:=o λz=>by
       let⟨_,p',q',h1,h2,R⟩:=z k hk;rw[E]at h1;rw[G]at h2;cases h1;cases h2;rw[ht]at R;exact D (Ö R)
      exact yj (c:=!PyData.eqv (pD t) (pD (mmT (p,s)))) (by rw[qX,eA D];rfl) ⟨rfl,z⟩
    ·rintro ρ ⟨rfl,I⟩;have e:bN true n us x y (.tuple [iD ps,iD ks])=true:=r.mpr ⟨hl,g,l,hn,λi hi=>I i (by rw[cY,Ä];exact hi)⟩;rw[e]at q;exact⟨rfl,q⟩
   ·rw[eA (show ¬(⇑(ps.map Â):Int)=(⇑(ks.map Â):Int)+1 by lia)];exact au (B:=True) ⟨rfl,m (c:=false) rfl ⟨λz=>(nomatch z),λz=>eI (r.mp z).1 hl⟩⟩
  ·have e0:bN true n us a b (.tuple es)=false:=by unfold bN;rw[Bj h2];rfl
   rw[e0]at q;have c:decide ((⇑es:Int)=2)=false:=eA λz=>h2 ();rcases aL (.tuple es)with e|e
   all_goals
    rw[e];refine aA (A:=True) ?_;show if(!decide ((⇑es:Int)=2))=true then _ else _
    rw[c];exact au (B:=True) ⟨rfl,q⟩
 |_=>exact au (B:=True) ⟨rfl,q⟩
def RT:FF:=λds P=>∃n us a b d,ds=[aq n us,.int a,.int b,d]/\Pl n us a b/\ThO d/\P (.bool (nU n us a b d))
def RW:FF:=λds P=>∃n us a b d,ds=[aq n us,.int a,.int b,d]/\Pl n us a b/\n<=16/\ThO d/\P (.bool (nW n us a b d))
def Sw:FF:=λds P=>∃n us a b d,ds=[aq n us,.int a,.int b,d]/\Pl n us a b/\n<=16/\ThO d/\P (.bool (oY n us a b d))
def Gd(p q:List Int):(((p.filter λx=>decide (x∈q)).map Â)).isEmpty=!fP p q:=by
 unfold fP;induction p with
 |nil=>rfl
 |cons x p ih =>
  cases h:decide (x∈q)with
  |true=>rw[ī (p:=λx=>decide (x∈q)) h,ź,h];rfl
  |false=>rw[ŝ (p:=λx=>decide (x∈q)) (by rw[h];exact Ð),ź,h,Bool.false_or];exact ih
def xV:([ax,aa,ag,ah,ac]:List Str).Nodup:=⋯
abbrev Qu(P w K mg base):=ċ P w K mg base 1 "_law_is" [ac,ei,bv] (spD XS)
def Du(F:Fun K "_law_two" "_law_two" (top 62) f fd)(B:ĩ mg)(p:ċ P w K mg base 2 d4 [aa,ag,ah,ac] (spD XR))(t:Qu P w K mg base):FnOk P w K mg base CX0 3 f fd [aa,ag,ah,ac] (spD RT):=by
 refine okT F (N:=[aa,ag,ah,ac]) zC (λhr nd=>È (ø (ů (Ĺ (č (ă (ú t hr (À (Ã 3) (À Ģ (À Å Á)))))) (Ĺ (č (ă (ú p hr (À (Ã 0) (À (Ã 1) (À (Ã 2) (À (Î (Ã 3) Å) Á))))))) (Ť (č (ă (ú p hr (À (Ã 0) (À (Ã 1) (À (Ã 2) (À (Î (Ã 3) Å) Á))))))))))) (Ô (Û İ)) à)
  (Ô (Û (Ţ hr.units (Ś [ax] rfl (ħ (Î (Î (Ã 3) Å) Å)) (λc=>(ä (i:=0) xV rfl zQ)) (λc=>(ť (Wr.eU hr.units (Ã 0) (Î (Î (Ã 4) Å) Å)))) (λc=>(Ã 0))) (æ Á))))) ?_
 rintro ds P ⟨n,us,a,b,d,rfl,L,s,q⟩;refine⟨[.im (aq n us),.im (.int a),.im (.int b),aV d],c7 rfl,?_⟩;let⟨I,C,H,ok,m,o,b0,b1⟩:=L;rcases aL d with z|z
 all_goals
  rw[z];refine⟨d,ar,3,rfl,∅,?_⟩;show if(!hasB ar 3 d)=true then _ else _
  cases hh:hasB ar 3 d with
  |false =>
   rw[wF hh]at q;exact au (B:=True) ⟨rfl,q⟩
  |true =>
   let⟨e,x,y,rfl,G⟩:=cG hh;have g:P (.bool (bB ar e&&(bN true n us a b x&&(bN true n us a b y&&!fP (j9 x) (j9 y))))):=q;rw[G,ÿ]at g;have r:=(s _ rfl x (É _ Í)).2.1;have u:=(s _ rfl y (É _ (É _ Í))).2.1;refine aA (A:=True) ⟨x,rfl,n,us,a,b,x,rfl,(),ok,m,o,r,?_⟩;show if(!bN true n us a b x)=true then _ else _
   cases j:bN true n us a b x with
   |false =>
    rw[j]at g;exact au (B:=True) ⟨rfl,g⟩
   |true =>
    rw[j,ÿ]at g;refine aA (A:=True) ⟨y,rfl,n,us,a,b,y,rfl,(),ok,m,o,u,?_⟩;show if(!bN true n us a b y)=true then _ else _
    cases l:bN true n us a b y with
    |false =>
     rw[l]at g;exact au (B:=True) ⟨rfl,g⟩
    |true =>
     rw[l,ÿ]at g;let⟨D,k,rfl,_⟩:=dO (by unfold bN at j;rw[Ï]at j;exact j.1);let⟨E,h,rfl,_⟩:=dO (by unfold bN at l;rw[Ï]at l;exact l.1);have g:P (.bool (!fP ((k.map Â).map toI) ((h.map Â).map toI))):=g;rw[bx,bx]at g;have v:=(r _ rfl (iD k) (É _ Í) _ rfl).1;rw[Ä]at v;refine aA (A:=True) ?_;refine⟨.tuple [iD D,iD k],rfl,iD k,rfl,fK k Â (λx=>decide (x∈h)) Â .imm rfl () (λx j A B h1 h2=>⟨.tuple [iD E,iD h],rfl,iD h,rfl,rfl,ń h,?_⟩) ?_⟩
     ·show if((h.map Â).any λe=>Ü e (.int x))=true then _ else _
      rw[Ć];cases hc:decide (x∈h)with
      |true=>exact au (B:=True) ⟨rfl,h1 hc⟩
      |false=>exact aA (A:=True) (h2 hc)
     ·refine⟨zK,mF _,rfl,rfl,?_⟩;show P (.bool (Ü (.list ((k.filter λx=>decide (x∈h)).map Â)) (.list [])));rw[iH,Gd];exact g
abbrev Qt(P w K mg base):=ċ P w K mg base 1 "_law_met" [aa,dP,dq,dr] (spD XQ)
abbrev Vb(P w K mg base):=ċ P w K mg base 2 em [ac,bo] (spD Sg)
def Dv(F:Fun K "_law_tie" "_law_tie" (top 63) f fd)(B:ĩ mg)(v:Qv P w K mg base)(C:Qu P w K mg base)(p:Qt P w K mg base)(u:Vb P w K mg base):FnOk P w K mg base CX0 3 f fd [aa,ag,ah,ac] (spD RW):=by
 refine okT F (N:=[aa,ag,ah,ac,"_law_here"]) zC (λhr nd=>È (ø (ů (Ĺ (č (ă (ú C hr (À (Ã 3) (À Ģ (À Å Á)))))) (Ĺ (č (ă (ú v hr (À (æ (À (Î (Ã 3) Å) Á)) Á)))) (Ť (č (Wr.jN K9 Ab Å (Î (Ã 3) Å) (ĝ B.len (À (Î (Ã 0) Å) Á)))))))) (Ô (Û İ)) à)
  (È (å none (i:=4) nd rfl zQ (ú p hr (À (Ã 0) (À (Ã 1) (À (æ (À (Î (Ã 3) Å) Á)) (À (æ Á) Á))))))
  (Ô (Û (Ĵ (Wr.vG hr.units (Ã 2) (ú p hr (À (Ã 0) (À (Ã 1) (À (æ Á) (À (æ Á) Á)))))) (Ĵ (Wr.eX hr.units (Ã 2) (Ã 4)) (ŷ (ú u hr (À (Î (Ã 3) Å) (À (Ã 4) Á)))))))))) ?_
 rintro ds P ⟨n,us,a,b,d,rfl,L,j,t,q⟩;refine⟨[.im (aq n us),.im (.int a),.im (.int b),aV d,.any],c7 rfl,?_⟩;let⟨s,D,J,ok,m,o,b0,b1⟩:=L;rcases aL d with z|z
 all_goals
  rw[z];refine⟨d,az,3,rfl,∅,?_⟩;show if(!hasB az 3 d)=true then _ else _
  cases hh:hasB az 3 d with
  |false =>
   rw[Cq hh]at q;exact au (B:=True) ⟨rfl,q⟩
  |true =>
   let⟨e,k,x,rfl,H⟩:=cG hh;have g:P (.bool (bB az e&&(aH (⇑us:Nat) k&&(decide (b∈aD n us [] a)&&(!decide (b∈aD n us [toI k] a)&&fC (aD n us [toI k] a) x))))):=q;rw[H,ÿ]at g;have tk:=t _ rfl k (É _ Í);have G:eG (.list [k]):=λxs e=>by
    cases e;exact⟨(show 1<=400 by decide),λy hy=>by rw[Ê.mp hy];exact tk.2.2⟩
   refine aA (A:=True) ⟨k,rfl,zK,.list [k],rfl,G,?_⟩;show if(!lB (.list [k]))=true then _ else _
   have E:lB (.list [k])=isW k:=by show(isW k&&true)=_;rw[Bool.and_true]
   rw[E];cases hk:isW k with
   |false =>
    have e:aH (⇑us:Int) k=false:=by
     cases k with
     |int i=>cases hk
     |_=>rfl
    rw[e]at g;exact au (B:=True) ⟨rfl,g⟩
   |true =>
    let⟨i,rfl⟩:=yp hk;have g:P (.bool (decide (0<=i/\i<(⇑us:Int))&&(decide (b∈aD n us [] a)&&(!decide (b∈aD n us [i] a)&&fC (aD n us [i] a) x)))):=g;refine aA (A:=True) ⟨.int i,rfl,?_⟩;by_cases l:0<=i
    case neg =>
     rw[eA λz=>l z.1]at g;exact u6 (c:=decide ((0:Int)<=i)) (eA l) ⟨rfl,g⟩
    have I:⇑(us.map pD)=⇑us:=Ä ..;refine yj (c:=decide ((0:Int)<=i)) (decide_eq_true l) ⟨.tuple (us.map pD),rfl,?_⟩;by_cases r:i<(⇑us:Nat)
    case neg =>
     rw[eA λz=>r z.2]at g;exact yj (c:=!decide (i<(⇑(us.map pD):Int))) (by rw[eA ()];rfl) ⟨rfl,g⟩
    rw[decide_eq_true ⟨l,r⟩,ÿ]at g;refine u6 (c:=!decide (i<(⇑(us.map pD):Int))) (by rw[decide_eq_true ()];rfl) ?_;refine⟨.int i,rfl,zK,zK,n,us,a,[i],[],rfl,s,j,(),ok,m,o,?_⟩;refine⟨zK,zK,n,us,a,[],[],rfl,s,j,(),ok,m,o,rfl,ń _,?_⟩;show if(((rsI (adj us [] []) n.toNat a).map Â).any λe=>Ü e (.int b))=true then _ else _
    rw[Ć];cases hb:decide (b∈rsI (adj us [] []) n.toNat a)with
    |false =>
     rw[show decide (b∈aD n us [] a)=false from hb]at g;exact aA (A:=True) ⟨rfl,g⟩
    |true =>
     rw[show decide (b∈aD n us [] a)=true from hb,ÿ]at g;refine au (B:=True) ⟨rfl,ń _,?_⟩;show if(!(((rsI (adj us [i] []) n.toNat a).map Â).any λe=>Ü e (.int b)))=true then _ else _
     rw[Ć];cases h:decide (b∈rsI (adj us [i] []) n.toNat a)with
     |true =>
      rw[show decide (b∈aD n us [i] a)=true from h]at g;exact aA (A:=True) ⟨rfl,g⟩
     |false =>
      rw[show decide (b∈aD n us [i] a)=false from h]at g;exact au (B:=True) ⟨x,rfl,x,_,rfl,(t _ rfl x (É _ (É _ Í))).1,rfl,g⟩
def Dy(F:Fun K "_law_gap" "_law_gap" (top 64) f fd)(B:ĩ mg)(l:Qt P w K mg base)(k:Vb P w K mg base)(m:Qu P w K mg base):FnOk P w K mg base CX0 3 f fd [aa,ag,ah,ac] (spD Sw):=by
 refine okT F (N:=[aa,ag,ah,ac,"_law_here"]) zC (λhr nd=>È (å none (i:=4) nd rfl zQ (ú l hr (À (Ã 0) (À (Ã 1) (À (æ Á) (À (æ Á) Á))))))
  (Ô (Û (Ĵ (ú m hr (À (Ã 3) (À Ģ (À Å Á)))) (Ĵ (Wr.eX hr.units (Ã 2) (Ã 4)) (ŷ (ú k hr (À (Î (Ã 3) Å) (À (Ã 4) Á))))))))) ?_
 rintro ds P ⟨n,us,a,b,d,rfl,L,g,s,q⟩;refine⟨[.im (aq n us),.im (.int a),.im (.int b),aV d,.any],c7 rfl,?_⟩;let⟨o,p,t,ok,h,j,b0,b1⟩:=L;refine⟨zK,zK,n,us,a,[],[],rfl,o,g,(),ok,h,j,?_⟩;rcases aL d with z|z
 all_goals
  rw[z];refine⟨d,av,2,rfl,∅,?_⟩;show if hasB av 2 d=true then _ else _
  cases hh:hasB av 2 d with
  |false =>
   rw[Mu hh]at q;exact aA (A:=True) ⟨rfl,q⟩
  |true =>
   let⟨e,x,rfl,r⟩:=G4 hh;have c:P (.bool (bB av e&&(!decide (b∈aD n us [] a)&&fC (aD n us [] a) x))):=q;rw[r,ÿ]at c;refine au (B:=True) ⟨rfl,ń _,?_⟩;show if(!(((rsI (adj us [] []) n.toNat a).map Â).any λe=>Ü e (.int b)))=true then _ else _
   rw[Ć];cases hb:decide (b∈rsI (adj us [] []) n.toNat a)with
   |true =>
    rw[show decide (b∈aD n us [] a)=true from hb]at c;exact aA (A:=True) ⟨rfl,c⟩
   |false =>
    rw[show decide (b∈aD n us [] a)=false from hb]at c;exact au (B:=True) ⟨x,rfl,x,_,rfl,(s _ rfl x (É _ Í)).1,rfl,c⟩
end
def R4:FF:=λds P=>∃n:Int,ds=[.int n]/\2<=n/\n<=16/\∀x y:Int,0<=x->x<n->0<=y->y<n->x≠y->P (.tuple [.int x,.int y])
def G9:FF:=λds P=>∃n us a b,ds=[aq n us,.int a,.int b]/\1<=n/\n<=16/\⇑us<=40/\OkN n us/\0<=a/\a<n/\0<=b/\b<n/\∀ps ks:List Int,⇑ps<=31->⇑ks<=31->(∀x∈ps,0<=x/\x<n)->(∀k∈ks,0<=k/\k<(⇑us:Nat))->ps≠[]->P (.tuple [iD ps,iD ks])
def onT(us:List Tie)(x:Int)(v:Nat):Bool:=match us[v]? with
 |some t=>decide (x∈[t.1,t.2])
 |none=>false
def Fe{α:Type}(l:List α)(j:Nat):cD l none (some ((j:Nat):Int))=l.take j:=by
 unfold cD;have a:HT.sIx ⇑l 0 none=0:=rfl;have b:HT.sIx ⇑l ⇑l (some ((j:Nat):Int))=min j ⇑l:=HT.jH ⇑l ⇑l j;rw[a,b,List.drop_zero,Nat.sub_zero];by_cases h:j<=⇑l
 ·rw[Nat.min_eq_left h]
 ·rw[Nat.min_eq_right (),Ũ (Õ _),Ũ ()]
theorem lay_ints:∀ns:List Int,Ď (ns.map Â)=true
 |[]=>rfl
 |n::ns=>lay_ints ns
theorem Bt:∀ns:List Int,ę (ns.map Â)<=0
 |[]=>Õ _
 |n::ns=>by
  show max 0 (ę (ns.map Â))<=0;have:=Bt ns;lia
def Xf{o:List Int}(a:⇑o<=64)(hr:∀x∈o,0<=x/\x<16):(ĉ (o.map Â)).layable0=true:=by
 have w:∀l:List Int,(∀x∈l,0<=x/\x<16)->PyData.weightAll (l.map Â)<=6 * ⇑l:=λl=>by
  induction l with
  |nil=>exact λ_=>Õ _
  |cons x l ih =>
   intro hl;have c:=hl x Í;have:=ih λy hy=>hl y (É _ hy);have e:(if(x==0)=true then 0 else x.natAbs.log2+1)<=5:=by
    by_cases z:x.natAbs=0
    ·rw[show x=0 by lia];decide
    ·have:=(Nat.log2_lt (k:=4) z).mpr ();split <;> lia
   show(if(x==0)=true then 0 else x.natAbs.log2+1)+1+PyData.weightAll (l.map Â)<=6 * (⇑l+1);lia
 have h1:=lay_ints o;have h2:=Bt o;have b:=w o hr;show(Ď (o.map Â)&&decide (ę (o.map Â)+1<=64)&&decide (PyData.weightAll (o.map Â)<=2 ^ 20))=true;rw[h1,decide_eq_true (),decide_eq_true ()];rfl
structure Stl(n:Int)(m:Nat)(i:Nat)(ps ks:List Int):Prop where
 lp:⇑ps<=i+1
 lk:⇑ks<=i
 rp:∀x∈ps,0<=x/\x<n
 rk:∀k∈ks,0<=k/\k<(m:Nat)
 ne:ps≠[]
def Stl.up{n:Int}{m i:Nat}{ps ks:List Int}(h:Stl n m i ps ks):Stl n m (i+1) ps ks:=⟨by have:=h.lp;lia,by have:=h.lk;lia,h.rp,h.rk,h.ne⟩
abbrev RSt(K:ã)(n:Int)(us:List Tie)(a b:Int)(ps ks:List Int):List Sl:=[.pen (CP K),.im (aq n us),.im (.int a),.im (.int b),.dw 0 (iD ps),.dw 1 (iD ks),.any,.any,.any,.any,.any]
def pK:FnScope [ad,aI,ag] [ad,aI] (aC (top 55)):=zC
def Ae(F:Fun K er er (top 55) f fd)(B:ĩ mg)(c:kA0 P w K mg base):FnOk P w K mg base CX0 2 f fd [ad,aI] (spP (CP K) R4):=by
 refine F.ok pK iC (λcdv A outer s H vs Q E hr h=>?_);have e:=pK.nd;refine⟨_,Wr.WDSs.h (È (å none (i:=2) e rfl zQ (Ĥ c hr (Đ 0) (À (Ã 1) Á)))
  (Ô (Û (ê (À (Ã 2) (À (Wr.sU (Ę (Ę (Ã 2) Å) (Ĥ c hr (Đ 0) (À (Wr.dZ (Ã 1) Å) Á))) (Ã 1)) Á)))))),enterQ h ?_⟩
 rintro ds P ⟨n,rfl,g,d,q⟩;refine⟨[.im (.int n),.any],rfl,?_⟩;refine⟨rfl,n,rfl,(),(),λa a0 a1=>⟨rfl,n - 1,rfl,(),(),λb b0 b1=>⟨(show(0:Int)<n by lia),zK,rfl,?_⟩⟩⟩;have h1:=Int.emod_nonneg (a+1+b) (b:=n) ();have h2:=Ů (a+1+b) (b:=n) ();refine q a _ a0 a1 h1 h2 ?_;by_cases h:a+1+b<n
 ·rw[Int.emod_eq_of_lt () h];lia
 ·rw[←Int.sub_emod_right,Int.emod_eq_of_lt () ()];lia
def j7:FnScope [ad,aa,ag,ah,a9,bt,dn,aT,ax,"_law_there","_law_at"] [ad,aa,ag,ah] (aC (top 56)):=zC
def qu:([cn,ad,aa,ag,ah,a9,bt,dn,aT,ax,"_law_there","_law_at"]:List Str).Nodup:=⋯
def uZ(F:Fun K dL dL (top 56) f fd)(B:ĩ mg)(Y:mg "sum"=none)(Z:kA0 P w K mg base):FnOk P w K mg base CX0 2 f fd [ad,aa,ag,ah] (spP (CP K) G9):=by
 refine F.ok j7 iC (λcdv A outer s H vs Q E hr h=>?_);have l:=j7.nd;refine⟨_,Wr.WDSs.h (È (å (some 0) (i:=4) l rfl zQ (æ (À (Ã 2) Á)))
  (È (å (some 1) (i:=5) l rfl zQ (æ Á))
  (È (ĵ ô rfl (Į B.range (À Å Á)) (ä (i:=6) l rfl zQ) (È (Wr.jy none [cn] (i:=7) rfl l rfl zQ (Į B.range (À (ĝ B.len (À (Î (Ã 1) Å) Á)) Á)) (λc=>(ä (i:=0) qu rfl zQ)) (λc=>(ť (Wr.eU hr.units (Î (Ã 5) (Wr.cV Å)) (Î (Î (Ã 2) Å) (Ã 0))))) (λc=>(Ã 0)))
  (È (ø (ů (Ű (ł hr.units (Î (Ã 4) (Wr.cV Å)) (Ã 3)) (Ź (ł hr.units (Ã 7) (æ Á))))) (È (å none (i:=8) l rfl zQ (Î (Ã 7) (Ĥ Z hr (Đ 0) (À (ĝ B.len (À (Ã 7) Á)) Á))))
  (È (å none (i:=9) l rfl zQ (Wr.dZ (Wr.qM rfl Y (À (Î (Î (Ã 1) Å) (Ã 8)) Á)) (Î (Ã 4) (Wr.cV Å))))
  (Ô (ø (Wr.eU hr.units (Ã 9) (Ã 4)) (È (å none (i:=10) l rfl zQ (Wr.sV (Ã 4) (À (Ã 9) Á)))
  (È (å (some 0) (i:=4) l rfl zQ (Wr.iQ (Ã 4) Wr.dB (ű (Ę (Ã 10) Å))))
  (Ô (å (some 1) (i:=5) l rfl zQ (Wr.iQ (Ã 5) Wr.dB (ű (Ã 10))))))) (È (Ř (Đ 4) (À (Ã 9) Á))
  (Ô (Ř (Đ 5) (À (Ã 8) Á)))))))) à) (í [6,7,8,9,10] à))))
  (í [6,7,8,9,10] (Ô (Û (ê (À (Ã 4) (À (Ã 5) Á))))))))),enterQ h ?_⟩
 rintro ds P ⟨n,us,a,b,rfl,n1,n16,lu,ok,W,X,b0,b1,q⟩;refine⟨[.im (aq n us),.im (.int a),.im (.int b),.any,.any,.any,.any,.any,.any,.any],c7 rfl,?_⟩;have J:⇑(us.map pD)=⇑us:=Ä ..;refine⟨zK,zK,⟨∅,∅⟩,rfl,λi ρ=>∃ps ks,ρ=RSt K n us a b ps ks/\Stl n ⇑us i ps ks,⟨[a],[],rfl,⟨Õ _,Õ _,λx C=>by rw[Ê.mp C];exact⟨W,X⟩,λk hk=>(nomatch hk),by simp⟩⟩,?_,?_⟩
 ·rintro i d ρ hd ⟨ps,ks,rfl,S⟩;let⟨hi,rfl⟩:=bI hd;obtain⟨x,C⟩:∃x,ps.getLast?=some x:=⟨_,List.getLast?_eq_some_getLast S.ne⟩
  have D:atI (ps.map Â) (-1)=some (.int x):=yS C;have mx:=List.mem_of_getLast? C;have rx:=S.rp x mx;have lps:⇑(ps.map Â)=⇑ps:=Ä ..;have o:∀(k:Int)(t:Tie),0<=k->us[k.toNat]?=some t->atI (us.map pD) k=some (pD t):=λk t k0 ht=>by
   have:=bF (xs:=us.map pD) (j:=k.toNat) (v:=pD t) (by rw[Ý,ht];rfl)
   rwa [show((k.toNat:Nat):Int)=k by lia]at this
  refine⟨.tuple (us.map pD),rfl,⟨(),()⟩,fK (ß ⇑us) (λv=>Â (0+((v:Nat):Int))) (onT us x) (λv=>Â (0+((v:Nat):Int))) .imm (by rw[J,ķ];rfl) (by rw[Ċ];lia) (λv hv A B h1 h2=>?_) ?_⟩
  ·have hv:=ó.mp hv;have ht:=Ë hv;generalize us[v]=t at ht;have eo:onT us x v=decide (x∈[t.1,t.2]):=by unfold onT;rw[ht]
   rw[eo]at h1 h2;refine⟨.int x,D,.tuple (us.map pD),rfl,pD t,o _ t () (by rw[show(0+((v:Nat):Int)).toNat=v by lia];exact ht),rfl,ń [t.1,t.2],?_⟩;show if(([t.1,t.2].map Â).any λe=>Ü e (.int x))=true then _ else _
   rw[Ć];cases hc:decide (x∈[t.1,t.2])with
   |true=>exact au (B:=True) ⟨rfl,h1 hc⟩
   |false=>exact aA (A:=True) (h2 hc)
  obtain⟨L,eL,hL,lL⟩:∃L:List Int,((ß ⇑us).filter (onT us x)).map (λv=>Â (0+((v:Nat):Int)))=L.map Â/\(∀k∈L,0<=k/\∃t,us[k.toNat]?=some t/\x∈[t.1,t.2])/\⇑L<=40:=by
   refine⟨((ß ⇑us).filter (onT us x)).map λv=>0+((v:Nat):Int),by rw[Ī];rfl,λk hk=>?_,?_⟩
   ·let⟨v,hv,rfl⟩:=õ.mp hk;let⟨h1,h2⟩:=á.mp hv;have ht:=Ë (ó.mp h1);refine⟨(),_,by rw[show(0+((v:Nat):Int)).toNat=v by lia];exact ht,?_⟩;unfold onT at h2;rw[ht]at h2;exact eB h2
   ·have:=ć (onT us x) (ß ⇑us);rw[Ċ]at this;rw[Ä];lia
  rw[eL];show qx _ _ _ [.pen (CP K),.im (aq n us),.im (.int a),.im (.int b),.dw 0 (iD ps),.dw 1 (iD ks),.im (.int (0+((i:Nat):Int))),.sn (iD L),.any,.any,.any];have V:∀s8 s9 s10:Sl,uJ [6,7,8,9,10] vV { nx:=λρ=>∃ps ks,ρ=RSt K n us a b ps ks/\Stl n ⇑us (i+1) ps ks,rt:=P } [.pen (CP K),.im (aq n us),.im (.int a),.im (.int b),.dw 0 (iD ps),.dw 1 (iD ks),.im (.int (0+((i:Nat):Int))),.sn (iD L),s8,s9,s10]:=λ_ _ _=>⟨ps,ks,rfl,S.up⟩
  refine⟨.int x,D,?_⟩;by_cases N:x=b
  ·exact u6 (c:=!decide (x=b)) (by rw[decide_eq_true N];rfl) ⟨ps,ks,rfl,S.up⟩
  refine yj (c:=!decide (x=b)) (by rw[eA N];rfl) ⟨zK,mF L,rfl,?_⟩;show if(!(Ü (.list (L.map Â)) (.list [])))=true then _ else _
  rw[iH];cases m:L with
  |nil=>exact aA (A:=True) ⟨ps,ks,rfl,S.up⟩
  |cons k0 L0 =>
  rw[←m];refine yj (by rw[m];rfl) ?_;have lm:⇑(L.map Â)=⇑L:=Ä ..;have l0:1<=⇑L:=by rw[m];simp
  refine⟨rfl,_,rfl,(),(),λr r0 T=>?_⟩;have T:r<(⇑(L.map Â):Int):=T;obtain⟨k,hk,mk⟩:∃k,atI (L.map Â) r=some (.int k)/\k∈L:=by
   have u:r.toNat<⇑L:=()
   have:=bF (xs:=L.map Â) (j:=r.toNat) (v:=.int L[r.toNat]) (by rw[Ý,Ë u];rfl);rw[show((r.toNat:Nat):Int)=r by lia]at this;exact⟨_,this,ĳ u⟩
  let⟨I,t,ht,G⟩:=hL k mk;have klt:=(Ç.mp ht).1;have aw:=o k t I ht;let⟨⟨o1,o2⟩,⟨o3,o4⟩,o5⟩:=ok t (Ì ht);refine⟨.int k,hk,?_⟩;have Si:=S.lp;have R:⇑ps<=31:=by have z:i<30:=hi;lia
  refine⟨.tuple (us.map pD),rfl,pD t,aw,[t.1,t.2],rfl,zK,λy g=>?_,.int x,D,?_⟩
  ·rcases Þ.mp g with rfl|g
   ·lia
   ·rw[Ê.mp g];lia
  rw[show [t.1,t.2].sum=t.1+t.2 by simp];have U:0<=t.1+t.2 - x/\t.1+t.2 - x<n:=by
   rcases Þ.mp G with rfl|h
   ·lia
   ·rw[Ê.mp h];lia
  refine⟨rfl,ń ps,?_⟩;show if((ps.map Â).any λe=>Ü e (.int (t.1+t.2 - x)))=true then qx _ _ _ [.pen (CP K),.im (aq n us),.im (.int a),.im (.int b),.dw 0 (iD ps),.dw 1 (iD ks),.im (.int (0+((i:Nat):Int))),.sn (iD L),.im (.int k),.im (.int (t.1+t.2 - x)),.any]else qx _ _ _ [.pen (CP K),.im (aq n us),.im (.int a),.im (.int b),.dw 0 (iD ps),.dw 1 (iD ks),.im (.int (0+((i:Nat):Int))),.sn (iD L),.im (.int k),.im (.int (t.1+t.2 - x)),.any]
  generalize t.1+t.2 - x=z at U;rw[Ć];cases hz:decide (z∈ps)with
  |true =>
   refine au (B:=True) ⟨ps,rfl,Xf () (λy g=>by have:=S.rp y g;lia),eB hz,?_⟩;have O:cD (ps.map Â) none (some (((ps.idxOf z:Nat):Int)+1))=(ps.take (ps.idxOf z+1)).map Â:=by
    rw[show((ps.idxOf z:Nat):Int)+1=((ps.idxOf z+1:Nat):Int) by lia,Fe,List.map_take]
   have p:cD (ks.map Â) none (some ((ps.idxOf z:Nat):Int))=(ks.take (ps.idxOf z)).map Â:=by
    rw[Fe,List.map_take]
   refine .inl ⟨by rw[O];exact aP _,?_⟩;rw[O];refine .inl ⟨by rw[p];exact aP _,?_⟩;rw[p];have M:=S.up;refine⟨ps.take (ps.idxOf z+1),ks.take (ps.idxOf z),rfl,⟨?_,?_,λy g=>S.rp y (ň g),λy g=>S.rk y (ň g),λh=>?_⟩⟩
   ·have:=List.length_take_le (ps.idxOf z+1) ps;have:=List.length_take_le' (ps.idxOf z+1) ps;have:=M.lp;lia
   ·have:=List.length_take_le' (ps.idxOf z) ks;have:=M.lk;lia
   ·have:=ŀ.mpr S.ne;have z0:=eJ List.length h;rw[Ě,List.length_nil]at z0;lia
  |false =>
   have lks:⇑(ks.map Â)=⇑ks:=Ä ..;have Sk:=S.lk;have e1:ĉ (ps.map Â++[.int z])=iD (ps++[z]):=by unfold iD;rw[î];rfl
   have e2:ĉ (ks.map Â++[.int k])=iD (ks++[k]):=by unfold iD;rw[î];rfl
   refine aA (A:=True) ⟨rfl,(),rfl,by have z:i<30:=hi;lia,ps++[z],ks++[k],?_,⟨?_,?_,λy g=>?_,λy g=>?_,by simp⟩⟩
   ·show([.pen (CP K),.im (aq n us),.im (.int a),.im (.int b),.dw 0 (.list (ps.map Â++[.int z])),.dw 1 (.list (ks.map Â++[.int k])),.any,.any,.any,.any,.any]:List Sl)=_;rw[e1,e2]
   ·rw[Ñ,ì];lia
   ·rw[Ñ,ì];lia
   ·rcases â.mp g with h|h
    ·exact S.rp y h
    ·rw[Ê.mp h];exact U
   ·rcases â.mp g with h|h
    ·exact S.rk y h
    ·rw[Ê.mp h];lia
 ·rintro ρ ⟨ps,ks,rfl,S⟩;have lp:=S.lp;have lk:=S.lk;refine⟨zK,rfl,q ps ks ?_ ?_ S.rp S.rk S.ne⟩
  ·have z:⇑ps<=30+1:=lp;lia
  ·have z:⇑ks<=30:=lk;lia
end
def Sh(k m:Nat)(d:D):Prop:=d.showable=true/\d.leavesShort 400=true/\d.depth<=k/\d.bulk<=m
instance (k m:Nat)(d:D):Decidable (Sh k m d):=by unfold Sh;exact inferInstance
def Sh.mono{k m a b:Nat}{d:D}(h:Sh k m d)(h1:k<=a)(h2:m<=b):Sh a b d:=⟨h.1,h.2.1,þ h.2.2.1 h1,þ h.2.2.2 h2⟩
def Sh.int{k m:Nat}{i:Int}(a:-1000<=i)(h1:i<=1000):Sh k m (.int i):=by
 refine⟨?_,?_,Ă _,Ă _⟩
 ·simp only[PyData.showable,eC];have:=Nat.log2_le_self i.natAbs;lia
 ·simp only[PyData.leavesShort,eC];have:=PyData.shown_int_le (i:=i) ();lia
theorem CT{k m:Nat}:∀{ds:List D},(∀d∈ds,Sh k m d)->PyData.showableAll ds=true/\PyData.leavesShortAll 400 ds=true/\ę ds<=k/\PyData.bulkAll ds<=⇑ds * (m+1)
 |[],_=>⟨rfl,rfl,Ă _,Ă _⟩
 |d::ds,h=>by
  let⟨h1,h2,g,i⟩:=CT (ds:=ds) λe he=>h e (É _ he);let⟨a,b,c,f⟩:=h d Í;refine⟨?_,?_,?_,?_⟩
  ·show(d.showable&&PyData.showableAll ds)=true;rw[a,h1];rfl
  ·show(d.leavesShort 400&&PyData.leavesShortAll 400 ds)=true;rw[b,h2];rfl
  ·show max d.depth (ę ds)<=k;lia
  ·show d.bulk+1+PyData.bulkAll ds<=(⇑ds+1) * (m+1);rw[Nat.add_mul];lia
def Sh.list{k m c:Nat}{ds:List D}(h:∀d∈ds,Sh k m d)(hc:⇑ds * (m+1)<=c):Sh (k+1) c (.list ds):=by
 let⟨h1,h2,a,b⟩:=CT h;exact⟨h1,h2,Nat.succ_le_succ a,þ b hc⟩
def Sh.tuple{k m c:Nat}{ds:List D}(h:∀d∈ds,Sh k m d)(hc:⇑ds * (m+1)<=c):Sh (k+1) c (.tuple ds):=by
 let⟨h1,h2,a,b⟩:=CT h;exact⟨h1,h2,Nat.succ_le_succ a,þ b hc⟩
def Sh.ok{k m:Nat}{d:D}(h:Sh k m d)(hk:k<=50)(hm:m<=40000):Qe d:=by
 let⟨h1,h2,c,e⟩:=h;refine⟨h1,(),?_⟩;have b:=PyData.shown_le_bulk 400 ∅ d h2;have a:=ą;have:(400+2) * d.bulk<=402 * 40000:=Nat.mul_le_mul ∅ ();lia
def qy(x:Str):Prop:=x.cps.size<=3000/\∀c∈x.cps.toList,c<128
def qy.chars{x y:Str}(h:∀c∈x.cps.toList,c<128)(h2:∀c∈y.cps.toList,c<128):∀c∈(x++y).cps.toList,c<128:=λc hc=>by
 have e:(x++y).cps.toList=x.cps.toList++y.cps.toList:=by
  show(x.cps++y.cps).toList=_;simp
 rw[e]at hc;exact(â.mp hc).elim (h c) (h2 c)
def vR:∀i:Nat,i<202->(∀c∈(Â (((i:Nat):Int) - 1)).shown.cps.toList,c<128)/\(Â (((i:Nat):Int) - 1)).shown.length<=4:=by
 have h:((ß 202).all λi=>((ũ (toString (((i:Nat):Int) - 1))).cps.toList.all λc=>decide (c<128))&&decide (⇑(ũ (toString (((i:Nat):Int) - 1)))<=4))=true:=⋯
 intro i hi;have:=Ĕ.mp h i (ó.mpr hi);rw[Ï,eC,Ĕ]at this;rw[PyData.shown_int];exact⟨λc hc=>eB (this.1 c hc),this.2⟩
theorem rH:∀(ts:List Str)(k:Nat)(acc:Str),(∀c∈acc.cps.toList,c<128)->(∀t∈ts,∀c∈t.cps.toList,c<128)->∀c∈(Sz k acc ts).cps.toList,c<128
 |[],_,_,ha,_=>ha
 |t::ts,k,acc,ha,ht=>rH ts (k+1) _ (qy.chars (qy.chars ha (by split <;> decide +kernel)) (ht t Í)) λu hu=>ht u (É _ hu)
def HB{l:List Int}(f:⇑l<=100)(h:∀x∈l,-1<=x/\x<=200):qy (ĉ (l.map Â)).shown:=by
 have a:∀x∈l,(∀c∈(Â x).shown.cps.toList,c<128)/\(Â x).shown.length<=4:=λx b=>by
  have:=h x b;have:=vR (x+1).toNat ()
  rwa [show(((x+1).toNat:Nat):Int) - 1=x by lia]at this
 have sh:PyData.shownAll (l.map Â)=l.map λx=>(Â x).shown:=by
  clear a h f;induction l with
  |nil=>rfl
  |cons x l d=>rw[ö,PyData.shownAll,d];rfl
 have e:(ĉ (l.map Â)).shown=Sz 0 "[" (l.map λx=>(Â x).shown)++"]":=by
  rw[PyData.shown,sh];rfl
 have m:((l.map λx=>(Â x).shown).map (·.length)).sum<=4 * ⇑l:=by
  clear sh e f;induction l with
  |nil=>exact Õ _
  |cons x l d =>
   have:=(a x Í).2;have:=d (λy hy=>h y (É _ hy)) λy hy=>a y (É _ hy);rw[ö,ö,List.sum_cons,ñ];lia
 rw[e];refine⟨?_,qy.chars (rH _ _ _ ⋯ λt ht=>?_) ⋯⟩
 ·have:=textFrom_len_le (l.map λx=>(Â x).shown) 0 "[";have g:⇑(("[":Str))=1:=⋯
  have i:(("]":Str)).cps.size=1:=⋯
  have j:(Sz 0 "[" (l.map λx=>(Â x).shown)++("]":Str)).cps.size=(Sz 0 "[" (l.map λx=>(Â x).shown)).cps.size+(("]":Str)).cps.size:=by
   show(_++_:Array Nat).size=_;simp
  have k:⇑(Sz 0 "[" (l.map λx=>(Â x).shown))=(Sz 0 "[" (l.map λx=>(Â x).shown)).cps.size:=rfl;rw[Ä]at this;lia
 ·let⟨x,b,rfl⟩:=õ.mp ht;exact(a x b).1
theorem no_dict:∀l:List Int,PyData.hasDictAll (l.map Â)=false
 |[]=>rfl
 |_::l=>no_dict l
def shI{l:List Int}{m:Nat}(a:⇑l<=m)(h:∀x∈l,-1000<=x/\x<=1000):Sh 1 m (.list (l.map Â)) :=
 Sh.list (m:=0) (λd hd=>by
  let⟨i,hi,rfl⟩:=õ.mp hd;exact Sh.int (h i hi).1 (h i hi).2) (by rw[Ä];lia)
def Lj{l:List Int}(b:⇑l<=100)(h:∀x∈l,-1000<=x/\x<=1000):okR (.list (l.map Â)):=by
 let⟨h1,h2,a⟩:=(shI b h).ok ∅ ∅;exact⟨mF l,h1,no_dict l,a⟩
def vf(d:D):Prop:=(∃i:Int,d=.int i/\-1000<=i/\i<=1000)\/(∃b,d=.bool b)\/d=.none\/d=.list [.int 0]\/d=.str "0"
def Og(d:D):Prop:=∃xs:List D,(∀x∈xs,vf x)/\⇑xs<=80/\(d=.list xs\/(∃l:List Int,xs=l.map Â)/\(d=.tuple xs\/d=.none\/d=.list [.list xs]\/∃s,d=.str s/\qy s))
def fBL:FF:=λds P=>∃(n:Int)(l:List Int),ds=[.int n,iD l]/\0<=n/\n<=100/\⇑l<=60/\(∀x∈l,0<=x/\x<100)/\∀d,Og d->P d
abbrev RBl(K:ã)(n:Int)(l:List Int)(xs:List D)(s z:Int):List Sl:=[.pen (CP K),.im (.int n),.sh (iD l),.dw 0 (.list xs),.im (.int s),.im (.int z)]
def jF(m:Nat)(xs:List D):Prop:=∃k:List Int,xs=k.map Â/\⇑k<=m/\∀x∈k,-1<=x/\x<=200
def jF.up{m:Nat}{xs:List D}(h:jF m xs):jF (m+1) xs:=by
 let⟨k,e,l,r⟩:=h;exact⟨k,e,(),r⟩
def jF.odd{m:Nat}{xs:List D}(h:jF m xs):∀x∈xs,vf x:=by
 let⟨k,rfl,l,r⟩:=h;intro x a;let⟨i,hi,rfl⟩:=õ.mp a;have:=r i hi;exact .inl ⟨i,rfl,(),()⟩
def Mj{n:Nat}{j:Int}(a:0<=j)(h1:j<((n:Nat):Int)):ixN n j=some j.toNat/\X0 j n=some j.toNat/\j.toNat<n:=by
 have e:ixN n j=some j.toNat:=by
  unfold ixN;rw[eD a,eD ()]
 exact⟨e,(yh e).1,()⟩
def fcs{Q:D->Prop}{a:D}{l:List D}(h:Q a)(t:∀e∈l,Q e):∀e∈a::l,Q e:=List.forall_mem_cons.mpr ⟨h,t⟩
def fnl{Q:D->Prop}:∀e∈[],Q e:=λ_ h=>(nomatch h)
def wN{L:List D}{n:Int}{Q:D->Prop}(hn:(⇑L:Int)=n)(h:∀e∈L,Q e){j:Int}(a:0<=j)(b:j<n):∃e,atI L j=some e/\Q e:=by
 have hl:j.toNat<⇑L:=()
 have h2:=bF (xs:=L) (Ë hl);rw[show((j.toNat:Nat):Int)=j by lia]at h2;exact⟨_,h2,h _ (ĳ hl)⟩
def vf.lay{d:D}(h:vf d):d.canLay0=true/\d.depth<=50:=by
 rcases h with⟨i,rfl,_⟩|⟨b,rfl⟩|rfl|rfl|rfl
 ·exact⟨rfl,Ă _⟩
 ·exact⟨rfl,Ă _⟩
 ·exact⟨rfl,Ă _⟩
 ·exact⟨⋯,∅⟩
 ·exact⟨⋯,∅⟩
section
variable{P:Zc}{w:Zd}{K:ã}{mg:Str->Option Value}{base:Zi}{f:Addr}{fd:YY}
def fY:FnScope [ad,aI,aT,bc,aS,ax] [ad,aI,aT] (aC (top 57)):=zC
def oJ(F:Fun K ci ci (top 57) f fd)(B:ĩ mg)(N:mg "str"=none)(b:kA0 P w K mg base):FnOk P w K mg base CX0 2 f fd [ad,aI,aT] (spP (CP K) fBL):=by
 refine F.ok fY iC (λcdv A outer s H vs Q E hr h=>?_);have v:=fY.nd;refine⟨_,Wr.WDSs.h (È (å (some 0) (i:=3) v rfl zQ (Wr.qP B.list (À (Ã 2) Á)))
  (È (å none (i:=4) v rfl zQ (Ĥ b hr (Đ 0) (À Å Á)))
  (È (å none (i:=5) v rfl zQ (Wr.dZ (Ĥ b hr (Đ 0) (À (Ę (Ã 1) Å) Á)) Å))
  (Wr.cQ (ø (ů (Ű (Ķ hr.units (Ã 4) Å) (Ź (ł hr.units (Ã 3) (æ Á))))) (Ô (Wr.qZ (Đ 3) (Ĥ b hr (Đ 0) (À (ĝ B.len (À (Ã 3) Á)) Á)) (Ã 5))) à)
  (Wr.cQ (ø (Ķ hr.units (Ã 4) Å) (Ô (å (some 0) (i:=3) v rfl zQ (Wr.gn B.sorted (À (Ę (Ã 3) (æ (À (Ã 5) Á))) Á)))) à)
  (Wr.cQ (ø (ů (Ű (Ķ hr.units (Ã 4) Å) (Ź (ł hr.units (Ã 3) (æ Á))))) (Ô (Wr.yE (Đ 3) (À (Ĥ b hr (Đ 0) (À (ĝ B.len (À (Ã 3) Á)) Á)) Á))) à)
  (Wr.cQ (ø (Ķ hr.units (Ã 4) Å) (Ô (Wr.Eo (Đ 3))) à)
  (Wr.cQ (ø (Ķ hr.units (Ã 4) Å) (Ô (Û (Î (æ (À (Wr.gW B.tuple (À (Ã 3) Á)) (À ŗ (À (æ (À (Ã 3) Á)) (À (Wr.wZ hr.gd hr.units N (À (Ã 3) Á)) Á))))) (Ĥ b hr (Đ 0) (À Å Á))))) à)
  (Wr.cQ (ø (ů (Ű (Ķ hr.units (Ã 4) Å) (Ź (ł hr.units (Ã 3) (æ Á))))) (Ô (Wr.qZ (Đ 3) (Ĥ b hr (Đ 0) (À (ĝ B.len (À (Ã 3) Á)) Á)) (Î (Wr.xH [ad,aI,aT,bc,aS,ax] (aC (top 57)) (.lst (.cons (.bl true) (.cons (.bl false) (.cons .non (.cons (.lst (.cons (.int 0) .nil)) (.cons (.str "0") .nil)))))) ⋯) (Ĥ b hr (Đ 0) (À Å Á))))) à)
  (È (ø (Ķ hr.units (Ã 4) Å) (Ô (å (some 0) (i:=3) v rfl zQ (Ę (Ã 3) (Wr.iQ (Ã 3) Wr.dB (ű Å))))) à)
  (Ô (Û (Ã 3))))))))))))),enterQ h ?_⟩
 rintro ds P ⟨n,l,rfl,n0,Z,T,hl,q⟩;refine⟨[.im (.int n),.sh (iD l),.any,.any,.any],rfl,?_⟩;refine .inl ⟨aP l,?_⟩;refine⟨rfl,8,rfl,∅,∅,λs s0 s1=>?_⟩;refine⟨rfl,n+2,rfl,(),(),λr r0 r1=>?_⟩;show QZ _ _ _ (RBl K n l (l.map Â) s (r - 1));have o:jF 60 (l.map Â):=⟨l,rfl,T,λx hx=>by have:=hl x hx;lia⟩
 have I:-1<=r - 1/\r - 1<=200:=()
 generalize r - 1=z at I;generalize l.map Â=xs at o;have p:∀{m:Nat}{xs:List D},jF m xs->okD (.list xs)=true:=λg=>Al λx hx=>(g.odd x hx).lay;refine⟨λρ=>∃xs,ρ=RBl K n l xs s z/\jF 60 xs,?_,?_⟩
 ·show if decide (s=0)=true then _ else _
  refine bC (λc=>⟨zK,p o,rfl,?_⟩) (λc=>aA (A:=True) ⟨_,rfl,o⟩);show if(!(Ü (.list xs) (.list [])))=true then _ else _
  rw[iH];refine bC (λc=>?_) (λc=>⟨_,rfl,o⟩);have y:xs≠[]:=λz=>by rw[z]at c;cases c
  have M:=ŀ.mpr y;have t:⇑xs<=60:=by let⟨k,rfl,h,_⟩:=o;rw[Ä];exact h
  refine⟨0,xs,rfl,rfl,rfl,_,rfl,(),(),λj j0 a=>?_⟩;let⟨h1,h2,G⟩:=Mj j0 a;refine⟨_,h1,xs.set j.toNat (.int z),rfl,?_⟩;let⟨k,rfl,hk,hr⟩:=o;refine⟨k.set j.toNat z,by rw[List.map_set],by rw[List.length_set];exact hk,λx hx=>?_⟩;rcases List.mem_or_eq_of_mem_set hx with h|rfl
  ·exact hr x h
  ·exact I
 clear o;rintro ρ ⟨xs,rfl,g⟩;refine⟨λρ=>∃xs,ρ=RBl K n l xs s z/\jF 61 xs,?_,?_⟩
 ·show if decide (s=1)=true then _ else _
  refine bC (λc=>?_) (λc=>⟨_,rfl,g.up⟩);let⟨k,rfl,hk,hr⟩:=g;have e:k.map Â++[.int z]=(k++[z]).map Â:=by rw[î];rfl
  have L:⇑(k.map Â)=⇑k:=Ä ..;have Y:⇑(k++[z])=⇑k+1:=by rw[Ñ,ì]
  refine⟨zK,(show(k.map Â).length+1<=1000 by lia),.inl ⟨by show bQ (k.map Â++[.int z])=true;rw[e];exact aP _,k++[z],e,(),λout hp hs=>⟨out.map Â,rfl,out,rfl,by rw[hp.length_eq];lia,λx hx=>?_⟩⟩⟩;rcases â.mp (hp.mem_iff.mp hx)with h|h
  ·exact hr x h
  ·rw[Ê.mp h];exact I
 clear g;rintro ρ ⟨xs,rfl,g⟩;refine⟨λρ=>∃xs,ρ=RBl K n l xs s z/\jF 61 xs,?_,?_⟩
 ·show if decide (s=2)=true then _ else _
  refine bC (λc=>⟨zK,p g,rfl,?_⟩) (λc=>aA (A:=True) ⟨_,rfl,g⟩);show if(!(Ü (.list xs) (.list [])))=true then _ else _
  rw[iH];refine bC (λc=>?_) (λc=>⟨_,rfl,g⟩);have y:xs≠[]:=λz=>by rw[z]at c;cases c
  have M:=ŀ.mpr y;have t:⇑xs<=61:=by let⟨k,rfl,h,_⟩:=g;rw[Ä];exact h
  refine⟨rfl,_,rfl,(),(),λj j0 a=>?_⟩;have a:j<(⇑xs:Int):=a;let⟨h1,h2,G⟩:=Mj j0 a;refine⟨(),(),_,h2,G,xs.eraseIdx j.toNat,rfl,?_⟩;let⟨k,rfl,hk,hr⟩:=g;have e:∀(l:List Int)(i:Nat),(l.map Â).eraseIdx i=(l.eraseIdx i).map Â:=λl=>by
   induction l with
   |nil=>exact λ_=>rfl
   |cons x l S=>intro i;cases i with|zero=>rfl|succ i=>exact eJ (Â x::·) (S i)
  exact⟨k.eraseIdx j.toNat,e k _,þ (List.length_eraseIdx_le _ _) hk,λx hx=>hr x (List.mem_of_mem_eraseIdx hx)⟩
 clear g;rintro ρ ⟨xs,rfl,g⟩;refine⟨λρ=>∃xs,ρ=RBl K n l xs s z/\jF 61 xs,?_,?_⟩
 ·show if decide (s=3)=true then _ else _
  refine bC (λc=>⟨xs.reverse,rfl,?_⟩) (λc=>⟨_,rfl,g⟩);let⟨k,rfl,hk,hr⟩:=g;exact⟨k.reverse,by rw[List.map_reverse],by rw[Ŀ];exact hk,λx hx=>hr x (List.mem_reverse.mp hx)⟩
 clear g;rintro ρ ⟨xs,rfl,g⟩;refine⟨λρ=>∃xs,ρ=RBl K n l xs s z/\jF 61 xs,?_,?_⟩
 ·show if decide (s=4)=true then _ else _
  refine bC (λc=>?_) (λc=>⟨_,rfl,g⟩);let⟨k,rfl,hk,hr⟩:=g;have L:⇑(k.map Â)=⇑k:=Ä ..;have O:norm (.reg 0) (.tuple (k.map Â))=.imm:=aN (aP k);have ok:okR (.list (k.map Â)):=Lj () λx hx=>by have:=hr x hx;lia
  have B:∀d,(d=.tuple (k.map Â)\/d=.none\/d=.list [.list (k.map Â)]\/∃s,d=.str s/\qy s)->P d:=λd h=>q d ⟨_,(show jF 61 (k.map Â)from⟨k,rfl,hk,hr⟩).odd,(),.inr ⟨⟨k,rfl⟩,h⟩⟩;refine⟨zK,ok,zK,rfl,4,rfl,∅,∅,λj j0 a=>?_⟩;have C:∀d,(norm ((joins [(norm (.reg 0) (.tuple (k.map Â)),.tuple (k.map Â)),(.imm,.none),((joins [(.reg 0,.list (k.map Â))]).join .new,.list [.list (k.map Â)]),(.imm,.str (ĉ (k.map Â)).shown)]).join .new) d).le .n0=true:=λd=>by
   rw[O];exact norm_le rfl
  rcases(():j=0\/j=1\/j=2\/j=3)with rfl|rfl|rfl|rfl
  ·exact⟨_,rfl,C _,B _ (.inl rfl)⟩
  ·exact⟨_,rfl,C _,B _ (.inr (.inl rfl))⟩
  ·exact⟨_,rfl,C _,B _ (.inr (.inr (.inl rfl)))⟩
  ·exact⟨_,rfl,C _,B _ (.inr (.inr (.inr ⟨_,rfl,HB () hr⟩)))⟩
 clear g;rintro ρ ⟨xs,rfl,g⟩;refine⟨λρ=>∃xs,ρ=RBl K n l xs s z/\(∀x∈xs,vf x)/\⇑xs<=61/\(s=6->jF 61 xs),?_,?_⟩
 ·have t:⇑xs<=61:=by let⟨k,rfl,h,_⟩:=g;rw[Ä];exact h
  show if decide (s=5)=true then _ else _
  refine bC (λc5=>⟨zK,p g,rfl,?_⟩) (λc=>aA (A:=True) ⟨_,rfl,g.odd,t,λ_=>g⟩);show if(!(Ü (.list xs) (.list [])))=true then _ else _
  rw[iH];refine bC (λc=>?_) (λc=>⟨_,rfl,g.odd,t,λ_=>g⟩);have y:xs≠[]:=λz=>by rw[z]at c;cases c
  have M:=ŀ.mpr y;refine⟨_,_,rfl,rfl,5,rfl,∅,∅,λj j0 a=>?_⟩;have u:∃e,atI [PyData.bool true,.bool false,.none,.list [.int 0],.str "0"] j=some e/\vf e:=by
   rcases(():j=0\/j=1\/j=2\/j=3\/j=4)with rfl|rfl|rfl|rfl|rfl
   ·exact⟨_,rfl,.inr (.inl ⟨_,rfl⟩)⟩
   ·exact⟨_,rfl,.inr (.inl ⟨_,rfl⟩)⟩
   ·exact⟨_,rfl,.inr (.inr (.inl rfl))⟩
   ·exact⟨_,rfl,.inr (.inr (.inr (.inl rfl)))⟩
   ·exact⟨_,rfl,.inr (.inr (.inr (.inr rfl)))⟩
  let⟨e,he,U⟩:=u;have V:s=5:=eB c5;refine⟨e,he,0,xs,rfl,norm_le (norm_le rfl),rfl,_,rfl,(),(),λj j0 a=>?_⟩;let⟨h1,h2,G⟩:=Mj j0 a;refine⟨_,h1,xs.set j.toNat e,rfl,λx hx=>?_,by rw[List.length_set];exact t,λh=>eI (h.symm.trans V) ∅⟩;rcases List.mem_or_eq_of_mem_set hx with h|rfl
  ·exact g.odd x h
  ·exact U
 clear g;rintro ρ ⟨xs,rfl,g,t,R⟩;show if decide (s=6)=true then _ else _
 refine bC (λc=>?_) (λc=>⟨rfl,q _ ⟨xs,g,(),.inl rfl⟩⟩);let⟨k,rfl,hk,hr⟩:=R (eB c);have J:cD (k.map Â) none (some 1)=(k.take 1).map Â:=by
  have:=Fe (k.map Â) 1;rw[List.map_take];exact this
 have W:⇑(k.take 1)<=1:=List.length_take_le 1 k;have L:⇑(k.map Â)=⇑k:=Ä ..;have X:⇑((k.take 1).map Â)=⇑(k.take 1):=Ä ..;have e:k.map Â++(k.take 1).map Â=(k++k.take 1).map Â:=by rw[î]
 refine .inl ⟨by rw[J];exact aP _,?_⟩;rw[J];refine⟨(show(k.map Â).length+⇑((k.take 1).map Â)<=1000 by lia),.inl ⟨by rw[e];exact aP _,?_⟩⟩;rw[e];refine⟨rfl,q _ ⟨(k++k.take 1).map Â,λx hx=>?_,?_,.inl rfl⟩⟩
 ·let⟨i,hi,rfl⟩:=õ.mp hx;have:i∈k:=(â.mp hi).elim id λh=>ň h;have:=hr i this;exact .inl ⟨i,rfl,(),()⟩
 ·rw[Ä,Ñ];lia
structure Fit(k m:Nat)(d:D):Prop where
 sh:Sh k m d
 lay:d.canLay0=true
def Fit.mono{k m a b:Nat}{d:D}(h:Fit k m d)(h1:k<=a)(h2:m<=b):Fit a b d:=⟨h.sh.mono h1 h2,h.lay⟩
def fL{ds:List D}(h:∀d∈ds,d.canLay0=true):Ď ds=true:=by
 induction ds with
 |nil=>rfl
 |cons d ds ih =>
  show(d.canLay0&&Ď ds)=true;rw[h d Í,ih λe he=>h e (É _ he)];rfl
def Fit.list{k m c:Nat}{ds:List D}(h:∀d∈ds,Fit k m d)(hc:⇑ds * (m+1)<=c):Fit (k+1) c (.list ds):=⟨Sh.list (λd hd=>(h d hd).sh) hc,fL λd hd=>(h d hd).lay⟩
def Fit.tuple{k m c:Nat}{ds:List D}(h:∀d∈ds,Fit k m d)(hc:⇑ds * (m+1)<=c):Fit (k+1) c (.tuple ds):=⟨Sh.tuple (λd hd=>(h d hd).sh) hc,fL λd hd=>(h d hd).lay⟩
def Fit.int{i:Int}(a:-1000<=i)(h1:i<=1000):Fit 0 0 (.int i):=⟨Sh.int a h1,rfl⟩
def Fit.str{s:Str}(h:qy s):Fit 0 3000 (.str s):=by
 refine⟨⟨rfl,?_,Ă _,h.1⟩,?_⟩
 ·show(s.cps.toList.all λc=>decide (c<16 ^ 8))=true;exact Ĕ.mpr λc hc=>decide_eq_true (Nat.lt_trans (h.2 c hc) ∅)
 ·show s.cps.all (·<0x110000)=true;rw[Array.all_eq_true_iff_forall_mem];exact λc hc=>decide_eq_true (Nat.lt_trans (h.2 c (Array.mem_toList_iff.mpr hc)) ∅)
def vf.fit{d:D}(h:vf d):Fit 1 10 d:=by
 rcases h with⟨i,rfl,a,h1⟩|⟨b,rfl⟩|rfl|rfl|rfl
 ·exact(Fit.int a h1).mono ∅ ∅
 ·exact⟨by cases b <;> decide +kernel,rfl⟩
 ·exact⟨⋯,rfl⟩
 ·exact⟨⋯,⋯⟩
 ·exact⟨⋯,⋯⟩
def jF.fit{l:List Int}(h:∀x∈l,-1000<=x/\x<=1000)(a:⇑l<=100):Fit 2 1100 (iD l):=Fit.list (k:=1) (m:=10) (λd hd=>by
 let⟨i,hi,rfl⟩:=õ.mp hd;exact(Fit.int (h i hi).1 (h i hi).2).mono ∅ ∅) (by rw[Ä];lia)
def eG.oth{d:D}(h:∀es,d≠.list es):eG d:=λys e=>(h ys e).elim
def iW.oth{d:D}(h:∀es,d≠.tuple es):iW d:=λys e=>(h ys e).elim
structure RowB(d:D):Prop where
 row:eG d
 way:iW d
 fit:Fit 3 3000 d
def vf.row{d:D}(h:vf d):eG d:=λxs e=>by
 rcases h with⟨i,rfl,_⟩|⟨b,rfl⟩|rfl|rfl|rfl
 ·cases e
 ·cases e
 ·cases e
 ·cases e;exact⟨∅,λx hx=>by rw[Ê.mp hx];exact⟨rfl,Ă _⟩⟩
 ·cases e
def Og.row{d:D}(h:Og d):RowB d:=by
 let⟨xs,b,i,h⟩:=h;have a:Fit 2 900 (.list xs):=Fit.list (λd hd=>(b d hd).fit) ();have f:Fit 2 900 (.tuple xs):=Fit.tuple (λd hd=>(b d hd).fit) ();rcases h with rfl|⟨_,rfl|rfl|rfl|⟨s,rfl,g⟩⟩
 ·exact⟨λys e=>by cases e;exact⟨(),λx hx=>(b x hx).lay⟩,iW.oth λ_ e=>(nomatch e),a.mono ∅ ∅⟩
 ·exact⟨eG.oth λ_ e=>(nomatch e),λys e x hx=>(by cases e;exact(b x hx).row),f.mono ∅ ∅⟩
 ·exact⟨eG.oth λ_ e=>(nomatch e),iW.oth λ_ e=>(nomatch e),⟨⋯,rfl⟩⟩
 ·refine⟨λys e=>?_,iW.oth λ_ e=>(nomatch e),(Fit.list (k:=2) (m:=900) (c:=3000) (λd hd=>by rw[Ê.mp hd];exact a) (ï rfl))⟩;cases e;refine⟨ï rfl,λx hx=>?_⟩;rw[Ê.mp hx];exact⟨a.lay,þ a.sh.2.2.1 ∅⟩
 ·exact⟨eG.oth λ_ e=>(nomatch e),iW.oth λ_ e=>(nomatch e),(Fit.str g).mono ∅ (Õ _)⟩
def RowB.ints{l:List Int}(h:∀x∈l,-1000<=x/\x<=1000)(a:⇑l<=100):RowB (iD l) :=
 ⟨λys e=>by
  cases e;refine⟨by rw[Ä];lia,λx hx=>?_⟩;let⟨i,_,rfl⟩:=õ.mp hx;exact⟨rfl,Ă _⟩,iW.oth λ_ e=>(nomatch e),(jF.fit h a).mono ∅ ∅⟩
structure WayB(d:D):Prop where
 way:iW d
 row:eG d
 fit:Fit 5 10000 d
def WayB.tup{es:List D}(h:∀e∈es,RowB e)(l:⇑es<=3):WayB (.tuple es) :=
 ⟨λys e x hx=>by cases e;exact(h x hx).row,eG.oth λ_ e=>(nomatch e),(Fit.tuple (c:=10000) (λd hd=>(h d hd).fit) ()).mono ∅ (Õ _)⟩
def WayB.lst{es:List D}(h:∀e∈es,RowB e)(l:⇑es<=3):WayB (.list es) :=
 ⟨λys e=>(nomatch e),λys e=>by
  cases e;exact⟨(),λx hx=>⟨(h x hx).fit.lay,þ (h x hx).fit.sh.2.2.1 ∅⟩⟩,(Fit.list (c:=10000) (λd hd=>(h d hd).fit) ()).mono ∅ (Õ _)⟩
def WayB.non:WayB .none:=⟨λys e=>(nomatch e),eG.oth λ_ e=>(nomatch e),⟨⋯,rfl⟩⟩
def all1{p:D->Prop}{a:D}(h1:p a):∀x∈[a],p x:=λx hx=>by rw[Ê.mp hx];exact h1
def all2{p:D->Prop}{a b:D}(h1:p a)(h2:p b):∀x∈[a,b],p x:=λx hx=>(Þ.mp hx).elim (λe=>e ▸ h1) (all1 h2 x)
def Js{p:D->Prop}{a b c:D}(h1:p a)(h2:p b)(d:p c):∀x∈[a,b,c],p x:=λx hx=>(Þ.mp hx).elim (λe=>e ▸ h1) (all2 h2 d x)
def fBW:FF:=λds P=>∃(n:Int)(us:List Tie)(ps ks:List Int),ds=[aq n us,.tuple [iD ps,iD ks]]/\1<=n/\n<=16/\⇑us<=40/\⇑ps<=60/\⇑ks<=60/\(∀x∈ps,0<=x/\x<n)/\(∀k∈ks,0<=k/\k<(⇑us:Nat))/\∀d,WayB d->P d
def iM:FnScope [ad,aa,a7,a9,bt,aS,c8] [ad,aa,a7] (aC (top 58)):=zC
def mQ:([ax,ad,aa,a7,a9,bt,aS,c8]:List Str).Nodup:=⋯
def mO:([cn,ax,ad,aa,a7,a9,bt,aS,c8]:List Str).Nodup:=⋯
def mL:([aT,ad,aa,a7,a9,bt,aS,c8]:List Str).Nodup:=⋯
abbrev Xh(P w K mg base):=ċ P w K mg base 2 ci [ad,aI,aT] (spP (CP K) fBL)
def qj(F:Fun K cE cE (top 58) f fd)(B:ĩ mg)(D:kA0 P w K mg base)(R:Xh P w K mg base):FnOk P w K mg base CX0 3 f fd [ad,aa,a7] (p7 (CP K) fBW):=by
 refine F.ok iM Ay (λcdv A outer s H vs Q E hr h=>?_);have p:=iM.nd;refine⟨_,Dl.WR.h (Dl.jK (Wr.uG (Ã 2) (Wr.dH (n:=2) rfl (ė (ä (i:=3) p rfl zQ) (ė (ä (i:=4) p rfl zQ) ż))))
  (Dl.jK (å none (i:=5) p rfl zQ (Ĥ (Ŝ D) hr (Đ 0) (À Å Á)))
  (Dl.j8 (Wr.gR (Ã 5) Å) (Dl.dY ((ê (À (Ĥ (Ŝ R) hr (Đ 0) (À (Î (Ã 1) Å) (À (Ã 3) Á))) (À (Ã 4) Á)))))
  (Dl.j8 (Wr.gR (Ã 5) Å) (Dl.dY ((ê (À (Ã 3) (À (Ĥ (Ŝ R) hr (Đ 0) (À (ĝ B.len (À (Î (Ã 1) Å) Á)) (À (Ã 4) Á))) Á)))))
  (Dl.j8 (Ķ hr.units (Ã 5) Å) (Dl.dY ((Î (æ (Wr.qL 4 [ad,aa,a7,a9,bt,aS,c8] (aC (top 58)) (.cons (.lst (.cons (.var 3) (.cons (.var 4) .nil))) (.cons (.tup (.cons (.var 3) (.cons (.var 4) (.cons (.lst .nil) .nil)))) (.cons (.tup (.cons (.var 3) .nil)) (.cons (.tup (.cons (.var 4) (.cons (.var 3) .nil))) .nil)))) (À (ê (À (Wr.qN (Ã 3)) (À (Wr.qN (Ã 4)) Á))) (À ŗ Á)) ⋯)) (Ĥ (Ŝ D) hr (Đ 0) (À Å Á)))))
  (Dl.jK (Wr.jy none [ax] (i:=6) rfl p rfl zQ (ħ (Ã 4)) (λc=>(ä (i:=0) mQ rfl zQ)) (λc=>Wr.cH) (λc=>(Ś [cn] rfl (Į B.range (À (ĝ B.len (À (Î (Ã 2) Å) Á)) Á)) (λc=>(ä (i:=0) mO rfl zQ)) (λc=>(ť (Ķ hr.units (Î (Î (Ã 3) Å) (Ã 0)) (Î (Î (Ã 3) Å) (Ã 1))))) (λc=>(Ã 0)))))
  (Dl.dY ((ê (À (Ã 3) (À (Ś [aT] rfl (ħ (Ã 6)) (λc=>(ä (i:=0) mL rfl zQ)) (λc=>Wr.cH) (λc=>(Î (Ã 0) (Ĥ (Ŝ D) hr (Đ 1) (À (ĝ B.len (À (Ã 0) Á)) Á))))) Á))))))))))),Hg h ?_⟩
 rintro ds P ⟨n,us,ps,ks,rfl,n1,n16,lu,lp,Y,O,C,q⟩;refine⟨[.im (aq n us),.sh (.tuple [iD ps,iD ks]),.any,.any,.any,.any],by show [aV (aq n us),aV (.tuple [iD ps,iD ks]),.any,.any,.any,.any]=_;rw[fO];rfl,?_⟩;refine⟨rfl,?_⟩;refine⟨rfl,6,rfl,∅,∅,λs s0 s1=>?_⟩;have a:RowB (iD ps):=RowB.ints (λx hx=>by have:=O x hx;lia) ();have o:RowB (iD ks):=RowB.ints (λx hx=>by have:=C x hx;lia) ();have M:⇑(us.map pD)=⇑us:=Ä ..;show if decide (s<2)=true then Tv _ _ [.pen (CE (CP K)),.im (aq n us),.sh (.tuple [iD ps,iD ks]),.sh (iD ps),.sh (iD ks),.im (.int s),.any]else _
 refine bC (λc=>?_) (λc=>?_)
 ·exact⟨rfl,.int n,rfl,n,ps,rfl,(),(),lp,λx hx=>by have:=O x hx;lia,λd hd=>⟨zK,q _ (WayB.tup (all2 hd.row o) (ï rfl))⟩⟩
 show if decide (s<4)=true then _ else _
 refine bC (λc=>?_) (λc=>?_)
 ·exact⟨rfl,.tuple (us.map pD),rfl,_,ks,rfl,(),(),Y,λx hx=>by have:=C x hx;lia,λd hd=>⟨zK,q _ (WayB.tup (all2 a hd.row) (ï rfl))⟩⟩
 show if decide (s=4)=true then _ else _
 refine bC (λc=>?_) (λc=>?_)
 ·have W:bQ (ps.map Â).reverse=true:=by rw[←List.map_reverse];exact aP _
  have X:bQ (ks.map Â).reverse=true:=by rw[←List.map_reverse];exact aP _
  have U:∀l:List Int,ĉ (l.map Â).reverse=iD l.reverse:=λl=>by unfold iD;rw[List.map_reverse]
  refine⟨_,rfl,.inl ⟨W,.inl ⟨X,zK,zK,rfl,6,rfl,∅,∅,λj j0 j1=>?_⟩⟩⟩;have V:RowB (.list []):=RowB.ints (l:=[]) (λx hx=>(nomatch hx)) ∅;have I:RowB (.list (ps.map Â).reverse):=by
   rw[U];exact RowB.ints (λx hx=>by have:=O x (List.mem_reverse.mp hx);lia) (by rw[Ŀ];lia)
  have G:RowB (.list (ks.map Â).reverse):=by
   rw[U];exact RowB.ints (λx hx=>by have:=C x (List.mem_reverse.mp hx);lia) (by rw[Ŀ];lia)
  let⟨e,h1,h2⟩:=wN (j:=j) rfl (fcs (WayB.lst (all2 a o) (ï rfl)) (fcs (WayB.tup (Js a o V) (ï rfl)) (fcs (WayB.tup (all1 a) (ï rfl)) (fcs (WayB.tup (all2 o a) (ï rfl)) (fcs (WayB.tup (all2 I G) (ï rfl)) (fcs WayB.non fnl)))))) j0 j1;exact⟨e,h1,q _ h2⟩
 have J:⇑(ks.map Â)=⇑ks:=Ä ..;have b:∀(k:Int)(t:Tie),0<=k->us[k.toNat]?=some t->atI (us.map pD) k=some (pD t):=λk t S ht=>by
  have:=bF (xs:=us.map pD) (j:=k.toNat) (v:=pD t) (by rw[Ý,ht];rfl)
  rwa [show((k.toNat:Nat):Int)=k by lia]at this
 refine Mf (λd=>∃L:List Int,d=iD L/\L≠[]/\⇑L<=40/\∀k∈L,0<=k/\k<(⇑us:Nat)) .new () (λd hd A B hA=>?_) (λys ly hy=>?_)
 ·let⟨k,hk,rfl⟩:=õ.mp hd;let⟨S,k1⟩:=C k hk;have ht:=Ë (show k.toNat<⇑us by lia);generalize us[k.toNat]=t at ht;refine au (B:=B) ⟨.tuple (us.map pD),rfl,⟨(),()⟩,fK (ß ⇑us) (λv=>Â (0+((v:Nat):Int))) (λv=>decide (us[v]?=some t)) (λv=>Â (0+((v:Nat):Int))) .imm (by rw[M,ķ];rfl) (by rw[Ċ];lia) (λv hv A B h1 h2=>?_) ?_⟩
  ·have hv:=ó.mp hv;have hu:=Ë hv;generalize us[v]=u at hu;refine⟨.tuple (us.map pD),rfl,pD u,b _ u () (by rw[show(0+((v:Nat):Int)).toNat=v by lia];exact hu),.tuple (us.map pD),rfl,pD t,b k t S ht,rfl,rfl,?_⟩;show if Ü (pD u) (pD t)=true then _ else _
   rw[qX];have e:decide (us[v]?=some t)=decide (u=t):=by rw[hu,Ė];simp
   rw[e]at h1 h2;cases hc:decide (u=t)with
   |true=>exact au (B:=True) ⟨rfl,h1 hc⟩
   |false=>exact aA (A:=True) (h2 hc)
  ·refine⟨rfl,hA _ ⟨((ß ⇑us).filter λv=>decide (us[v]?=some t)).map λv=>0+((v:Nat):Int),by unfold iD;rw[Ī];rfl,λh=>?_,?_,λk' hk'=>?_⟩⟩
   ·have h:=List.map_eq_nil_iff.mp h;have m:k.toNat∈(ß ⇑us).filter λv=>decide (us[v]?=some t):=á.mpr ⟨ó.mpr (),decide_eq_true ht⟩;rw[h]at m;cases m
   ·have:=ć (λv=>decide (us[v]?=some t)) (ß ⇑us);rw[Ċ]at this;rw[Ä];lia
   ·let⟨v,hv,rfl⟩:=õ.mp hk';have:=ó.mp (á.mp hv).1;lia
 have lys:⇑ys=⇑ks:=ly.trans J;refine Mf (λd=>∃k:Int,d=.int k/\0<=k/\k<(⇑us:Nat)) .imm () (λd hd A B hA=>?_) (λzs lz hz=>?_)
 ·let⟨L,rfl,ne,lL,rL⟩:=hy d hd;have lm:⇑(L.map Â)=⇑L:=Ä ..;have l0:=ŀ.mpr ne;refine au (B:=B) ⟨rfl,_,rfl,(),(),λr r0 T=>?_⟩;have T:r<(⇑(L.map Â):Int):=T;have g:r.toNat<⇑L:=()
  have:=bF (xs:=L.map Â) (j:=r.toNat) (v:=.int L[r.toNat]) (by rw[Ý,Ë g];rfl);rw[show((r.toNat:Nat):Int)=r by lia]at this;exact⟨_,this,rfl,hA _ ⟨_,rfl,rL _ (ĳ g)⟩⟩
 ·obtain⟨Z,rfl,N⟩:∃Z:List Int,zs=Z.map Â/\∀k∈Z,0<=k/\k<(⇑us:Nat):=by
   clear lz;induction zs with
   |nil=>exact⟨[],rfl,λk hk=>(nomatch hk)⟩
   |cons z zs ih =>
    let⟨Z,rfl,N⟩:=ih λy hy=>hz y (É _ hy);let⟨k,rfl,hk⟩:=hz z Í;exact⟨k::Z,rfl,λk' h=>(Þ.mp h).elim (λe=>by rw[e];exact hk) (N k')⟩
  rw[Ä]at lz;exact⟨zK,q _ (WayB.tup (all2 a (RowB.ints (λx hx=>by have:=N x hx;lia) ())) (ï rfl))⟩
structure El(k m:Nat)(d:D):Prop where
 row:eG d
 way:iW d
 fit:Fit k m d
def El.mono{k m a b:Nat}{d:D}(h:El k m d)(hk:k<=a)(hm:m<=b):El a b d:=⟨h.row,h.way,h.fit.mono hk hm⟩
def El.int{i:Int}(a:-1000<=i)(h1:i<=1000):El 0 0 (.int i):=⟨eG.oth λ_ e=>(nomatch e),iW.oth λ_ e=>(nomatch e),Fit.int a h1⟩
def El.word{s:Str}(h:qy s):El 0 3000 (.str s):=⟨eG.oth λ_ e=>(nomatch e),iW.oth λ_ e=>(nomatch e),Fit.str h⟩
def El.bool(b:Bool):El 0 0 (.bool b):=⟨eG.oth λ_ e=>(nomatch e),iW.oth λ_ e=>(nomatch e),⟨by cases b <;> decide +kernel,rfl⟩⟩
def El.non:El 0 0 .none:=⟨eG.oth λ_ e=>(nomatch e),iW.oth λ_ e=>(nomatch e),⟨⋯,rfl⟩⟩
def RowB.el{d:D}(h:RowB d):El 3 3000 d:=⟨h.row,h.way,h.fit⟩
def WayB.el{d:D}(h:WayB d):El 5 10000 d:=⟨h.row,h.way,h.fit⟩
def El.ints{l:List Int}(h:∀x∈l,-1000<=x/\x<=1000)(a:⇑l<=100):El 2 1100 (iD l) :=
 ⟨(RowB.ints h a).row,(RowB.ints h a).way,jF.fit h a⟩
def El.tup{k m c:Nat}{es:List D}(h:∀e∈es,El k m e)(hc:⇑es * (m+1)<=c):El (k+1) c (.tuple es) :=
 ⟨eG.oth λ_ e=>(nomatch e),λys e x hx=>(by cases e;exact(h x hx).row),Fit.tuple (λd hd=>(h d hd).fit) hc⟩
def El.two{p q:List Int}(h:∀x∈p,-1000<=x/\x<=1000)(h2:∀x∈q,-1000<=x/\x<=1000)(a:⇑p<=100)(b:⇑q<=100):El 3 3000 (.tuple [iD p,iD q]):=El.tup (k:=2) (m:=1100) (all2 (El.ints h a) (El.ints h2 b)) (ï rfl)
structure ThB(d:D):Prop where
 th:ThO d
 ok:Qe d
def ThB.tup{k m:Nat}{es:List D}(h:∀e∈es,El k m e)(hc:⇑es * (m+1)<=40000)(hk:k<=40:=by decide):ThB (.tuple es) :=
 ⟨λys e x hx=>by
  cases e;exact⟨(h x hx).row,(h x hx).way,(h x hx).fit.lay,þ (h x hx).fit.sh.2.2.1 ()⟩,(Sh.tuple (c:=40000) (λd hd=>(h d hd).fit.sh) hc).ok () (Õ _)⟩
def ThB.oth{k m:Nat}{d:D}(h:∀es,d≠.tuple es)(f:Sh k m d)(hk:k<=50:=by decide)(hm:m<=40000:=by decide):ThB d:=⟨λes e=>(h es e).elim,f.ok hk hm⟩
def RP{a b:Kd}(ha:a.le .shr=true)(hb:b.le .shr=true):(a.join b).le .shr=true:=by
 cases a <;> cases b <;> first|rfl|(cases ha;done)|(cases hb;done)
def lc{k:Kd}{d:D}{ks:List (Kd×D)}(h:k.le .shr=true)(t:(joins ks).le .shr=true):(joins ((k,d)::ks)).le .shr=true:=RP h t
theorem J2{P:DEnds}{ρ:List Sl}{i:Nat}{k:Kd}{d:D}(hk:k.le .shr=true)(h:∀s,s=.im d\/s=.sn d\/s=.sh d->P.nx (ρ.set i s)):(match stK none ρ i (norm k d) d with
 |some s=>P.nx (ρ.set i s)
 |none=>False):=by
 have e:norm k d=.imm\/norm k d=k:=by
  by_cases c:cM d=true
  ·exact .inl (aN c)
  ·exact .inr (bV c)
 rcases e with e|e
 ·rw[e];exact h _ (.inl rfl)
 ·rw[e];cases k with
  |imm=>exact h _ (.inl rfl)
  |new=>exact h _ (.inr (.inl rfl))
  |snw=>exact h _ (.inr (.inl rfl))
  |shr=>exact h _ (.inr (.inr rfl))
  |reg r=>cases hk
  |n0=>cases hk
  |wk=>cases hk
def InR(l:List Int):Prop:=(∀x∈l,0<=x/\x<100)/\⇑l<=60
def BG(n:Int)(us:List Tie)(d:D):Prop :=
 (∃p q r s:List Int,d=.tuple [.str ar,.tuple [iD p,iD q],.tuple [iD r,iD s]]/\(∀x∈p,0<=x/\x<n)/\(∀x∈q,0<=x/\x<(⇑us:Nat))/\(∀x∈r,0<=x/\x<n)/\(∀x∈s,0<=x/\x<(⇑us:Nat))/\⇑p<=60/\⇑q<=60/\⇑r<=60/\⇑s<=60)∨
 (∃(w:Str)(k:Int)(l:List Int),d=.tuple [.str w,.int k,iD l]/\(w=az\/w=am)/\0<=k/\k<100/\InR l)∨
 (∃l:List Int,d=.tuple [.str av,iD l]/\InR l)
def Sy:FF:=λds P=>∃(n:Int)(us:List Tie)(d:D),ds=[aq n us,d]/\1<=n/\n<=16/\⇑us<=40/\BG n us d/\∀d,ThB d->P d
def cF{s:Str}(h:(decide (s.cps.size<=3000)&&s.cps.toList.all λc=>decide (c<128))=true):qy s:=by
 rw[Ï,eC,Ĕ]at h;exact⟨h.1,λc hc=>eB (h.2 c hc)⟩
def yR{n:Int}{us:List Tie}{d:D}(g:n<=16)(v:⇑us<=40)(h:BG n us d):∃(w:Str)(es:List D),d=.tuple (.str w::es)/\qy w/\(⇑es=1\/⇑es=2)/\(∀e∈es,El 3 3000 e)/\bQ es=false:=by
 rcases h with⟨p,q,r,s,rfl,hp,b,hr,hs,m,o,t,u⟩|⟨w,k,l,rfl,c,i,j,hl,f⟩|⟨l,rfl,hl,f⟩
 ·refine⟨_,_,rfl,cF ⋯,.inr rfl,all2 (El.two ?_ ?_ () ()) (El.two ?_ ?_ () ()),rfl⟩
  ·intro x a;have:=hp x a;lia
  ·intro x a;have:=b x a;lia
  ·intro x a;have:=hr x a;lia
  ·intro x a;have:=hs x a;lia
 ·refine⟨w,_,rfl,?_,.inr rfl,all2 ((El.int () ()).mono ∅ ∅) ((El.ints (λx a=>?_) ()).mono ∅ ∅),rfl⟩
  ·rcases c with rfl|rfl
   ·exact cF ⋯
   ·exact cF ⋯
  ·have:=hl x a;lia
 ·refine⟨_,_,rfl,cF ⋯,.inl rfl,all1 ((El.ints (λx a=>?_) ()).mono ∅ ∅),rfl⟩;have:=hl x a;lia
def pN:FnScope [ad,aa,ac,aS,ax,"_law_odd"] [ad,aa,ac] (aC (top 59)):=zC
def Ah(F:Fun K et et (top 59) f fd)(B:ĩ mg)(ai:mg "str"=none)(g:kA0 P w K mg base)(bu:ċ P w K mg base 3 cE [ad,aa,a7] (p7 (CP K) fBW))(a6:Xh P w K mg base):FnOk P w K mg base CX0 4 f fd [ad,aa,ac] (p7 (CP K) Sy):=by
 refine F.ok pN Ay (λcdv A outer s H vs Q E hr h=>?_);have nd:=pN.nd;refine⟨_,Dl.WR.h (Dl.jK (å none (i:=3) nd rfl zQ (Ĥ (Ŝ g) hr (Đ 0) (À Å Á)))
  (Dl.jK (å none (i:=4) nd rfl zQ (Wr.dZ (Ĥ (Ŝ g) hr (Đ 0) (À (Ę (ĝ B.len (À (Î (Ã 1) Å) Á)) Å) Á)) Å))
  (Dl.j8 (Ķ hr.units (Ã 3) Å) (Dl.jK (å none (i:=5) nd rfl zQ (æ (À ŗ (À Å (À İ (À (Î (Ã 2) Å) (Wr.qL 4 [ad,aa,ac,aS,ax,"_law_odd"] (aC (top 59)) (.cons (.tup .nil) (.cons (.lst .nil) (.cons .dct (.cons (.tup (.cons (.var 2) .nil)) .nil)))) (À (Wr.qP B.list (À (Ã 2) Á)) (À (Ę (Ã 2) (ê (À Å Á))) (À (Wr.iQ (Ã 2) Wr.dB (ű (Wr.cV Å))) (À (ê (À (Î (Ã 2) Å) (À ŗ Á))) Á)))) ⋯)))))))
  (Dl.dY ((Î (Ã 5) (Ĥ (Ŝ g) hr (Đ 0) (À Å Á))))))
  ((Dl.j8 (Ķ hr.units (Ã 3) Å) (Dl.dY ((Ę (ê (À (Î (Wr.xH [ad,aa,ac,aS,ax,"_law_odd"] (aC (top 59)) (.lst (.cons (.str ar) (.cons (.str az) (.cons (.str av) (.cons (.str am) (.cons (.str "") (.cons .non (.cons (.tup (.cons (.str az) .nil)) (.cons (.str "Tie") .nil))))))))) ⋯) (Ĥ (Ŝ g) hr (Đ 0) (À Å Á))) Á)) (Wr.iQ (Ã 2) (ű Å) Wr.dB))))
  (Dl.j8 (ů (Ű (Ķ hr.units (Î (Ã 2) Å) Ģ) (Ź (Ķ hr.units (Ã 3) Å)))) (Dl.dY ((ê (À Ģ (À (Î (Ã 2) (Ę Å (Ĥ (Ŝ g) hr (Đ 0) (À Å Á)))) (À (Î (Ã 2) (Ę Å (Ĥ (Ŝ g) hr (Đ 0) (À Å Á)))) Á))))))
  (Dl.j8 (ů (Ű (Ķ hr.units (Î (Ã 2) Å) Ģ) (Ź (Wr.gR (Ã 3) Å)))) (Dl.dY ((ê (À Ģ (À (Dl.Vu (Dl.Cal.Ye bu) hr (Đ 0) (À (Ã 1) (À (Î (Ã 2) Å) Á))) (À (Î (Ã 2) Å) Á))))))
  (Dl.j8 (Ķ hr.units (Î (Ã 2) Å) Ģ) (Dl.dY ((ê (À Ģ (À (Î (Ã 2) Å) (À (Dl.Vu (Dl.Cal.Ye bu) hr (Đ 0) (À (Ã 1) (À (Î (Ã 2) Å) Á))) Á))))))
  (Dl.j8 (ů (Ű (Wr.gR (Ã 3) Å) (Ź (Ķ hr.units (ĝ B.len (À (Ã 2) Á)) Å)))) (Dl.dY ((ê (À (Î (Ã 2) Å) (À (Î (æ (À (Ã 4) (À (Ã 4) (À İ (À (Wr.w5 ai (À (Î (Ã 2) Å) Á)) (À ŗ Á)))))) (Ĥ (Ŝ g) hr (Đ 0) (À Å Á))) (À (Î (Ã 2) Å) Á))))))
  (Dl.j8 (Ķ hr.units (Ã 3) Å) (Dl.dY ((Ę (ê (À (Î (æ (À Ģ (À Ģ Á))) (Ĥ (Ŝ g) hr (Đ 0) (À Å Á))) (À (Ã 4) Á))) (Wr.iQ (Ã 2) (ű (Wr.cV Å)) Wr.dB))))
  (Dl.dY ((Ę (Wr.iQ (Ã 2) Wr.dB (ű (Wr.cV Å))) (ê (À (Ĥ (Ŝ a6) hr (Đ 0) (À (Î (Ã 1) Å) (À (Î (Ã 2) (Wr.cV Å)) Á))) Á))))))))))))))),Hg h ?_⟩
 rintro ds P ⟨n,us,d,rfl,n1,G,lu,bg,q⟩;have lum:⇑(us.map pD)=⇑us:=Ä ..;let⟨a,es,ed,J,les,he,im⟩:=yR G lu bg;have hd:aV d=.sh d:=by
  rw[ed];exact eH (by show ¬(true&&bQ es)=true;rw[im];decide)
 refine⟨[.im (aq n us),.sh d,.any,.any,.any],by show [aV (aq n us),aV d,.any,.any,.any]=_;rw[fO,hd],?_⟩;refine⟨rfl,8,rfl,∅,∅,λs s0 s1=>?_⟩;refine⟨rfl,.tuple (us.map pD),rfl,_,rfl,(),(),λr r0 r1=>?_⟩;have z0:-1<=r - 1/\r - 1<=200:=by have r1:r<(⇑(us.map pD):Int)+2:=r1;lia
 show if decide (s=0)=true then Wo _ _ _ [.pen (CE (CP K)),.im (aq n us),.sh d,.im (.int s),.im (.int (r - 1)),.any]else rIf _ _ _ _ [.pen (CE (CP K)),.im (aq n us),.sh d,.im (.int s),.im (.int (r - 1)),.any]
 generalize r - 1=z at z0;refine bC (λc=>?_) (λc=>?_)
 ·subst ed;have a0:atI (ē a::es) 0=some (.str a):=at0;have cb:cD (ē a::es) none (some (-1))=(ē a::es).dropLast:=dW _;have l3:⇑(ē a::es)<=3:=by rw[ñ];lia
  have X:∀e∈ē a::es,El 3 3000 e:=λe h=>(Þ.mp h).elim (λh=>by rw[h];exact(El.word J).mono ∅ ∅) (he e);refine⟨.str a,a0,_,rfl,.inr ?_⟩;have lL:⇑(ē a::es)=⇑es+1:=rfl;have sx:HT.sIx ⇑(ē a::es) ⇑(ē a::es) (some (-1))=⇑(ē a::es) - 1:=by
   have e:HT.sIx ⇑(ē a::es) ⇑(ē a::es) (some (-1))=((-1:Int)+(⇑(ē a::es):Int)).toNat:=rfl;rw[e];lia
  refine⟨zK,(show(ē a::es).length+1<=1000 by lia),λh=>?_,.str a,a0,zK,zK,?_⟩
  ·rw[sx]at h;lia
  refine J2 (RP (lc rfl (lc rfl (lc rfl (lc (norm_le rfl) (lc rfl (lc rfl (lc rfl (lc (norm_le rfl) (lc rfl (lc (norm_le rfl) (lc (norm_le rfl) (lc rfl rfl)))))))))))) rfl) λs5 h5=>?_;have T:∀e∈[PyData.none,.int 7,.bool true,.str a,.tuple [],.list [],.dict [],.tuple [.tuple (.str a::es)],.list (.str a::es),.tuple ((.str a::es)++[.int 0]),.tuple (ē a::es).dropLast,.tuple [.str a,.none]],ThB e:=by
   have o:∀{d:D}{k m:Nat},El k m d->(∀es,d≠.tuple es)->k<=50->m<=40000->ThB d:=λh o hk hm=>.oth o h.fit.sh hk hm;refine fcs (o El.non (λ_ e=>(nomatch e)) ∅ ∅) (fcs (o (El.int (i:=7) ∅ ∅) (λ_ e=>(nomatch e)) ∅ ∅) (fcs (o (El.bool true) (λ_ e=>(nomatch e)) ∅ ∅) (fcs (o (El.word J) (λ_ e=>(nomatch e)) ∅ ∅) (fcs (.tup (k:=0) (m:=0) (λe h=>(nomatch h)) ∅) (fcs (.oth (λ_ e=>(nomatch e)) (show Sh 1 0 (.list []) by decide +kernel)) (fcs (.oth (λ_ e=>(nomatch e)) (show Sh 1 0 (.dict []) by decide +kernel)) (fcs (.tup (k:=4) (m:=10000) (all1 (El.tup X ())) (ï rfl)) (fcs (.oth (λ_ e=>(nomatch e)) (Fit.list (k:=3) (m:=3000) (c:=10000) (λd hd=>(X d hd).fit) ()).sh) (fcs (.tup (k:=3) (m:=3000) (λe h=>?_) (by rw[Ñ,ì];lia)) (fcs (.tup (k:=3) (m:=3000) (λe h=>X e (List.dropLast_subset _ h)) (by rw[List.length_dropLast];lia)) (fcs (.tup (k:=0) (m:=3000) (all2 (El.word J) (El.non.mono ∅ ∅)) (ï rfl)) fnl)))))))))));rcases â.mp h with h|h
   ·exact X e h
   ·rw[Ê.mp h];exact(El.int ∅ ∅).mono ∅ ∅
  rw[←cb]at T;rcases h5 with rfl|rfl|rfl
  all_goals
   refine⟨rfl,12,rfl,∅,∅,λj j0 j1=>?_⟩;let⟨e,h1,h2⟩:=wN rfl T j0 j1;exact⟨e,h1,q e h2⟩
 show if decide (s=1)=true then Tv _ _ [.pen (CE (CP K)),.im (aq n us),.sh d,.im (.int s),.im (.int z),.any]else _
 refine bC (λc=>?_) (λc=>?_)
 ·subst ed;refine⟨_,_,rfl,rfl,8,rfl,∅,∅,λj j0 j1=>?_⟩;have wo:∀s:Str,(decide (s.cps.size<=3000)&&s.cps.toList.all λc=>decide (c<128))=true->El 3 4000 (.str s):=λs h=>(El.word (cF h)).mono ∅ ∅;have T:∀e∈[ē ar,.str az,.str av,.str am,.str "",.none,.tuple [.str az],.str "Tie"],El 3 4000 e :=
   fcs (wo _ ⋯) (fcs (wo _ ⋯) (fcs (wo _ ⋯) (fcs (wo _ ⋯) (fcs (wo _ ⋯) (fcs (El.non.mono ∅ ∅) (fcs ((El.tup (k:=0) (m:=3000) (c:=4000) (all1 (El.word (cF ⋯))) (ï rfl)).mono ∅ (Õ _)) (fcs (wo _ ⋯) fnl)))))))
  let⟨e,v,u⟩:=wN rfl T j0 j1;have cr:cD (ē a::es) (some 1) none=es:=nJ _;have lL:⇑(ē a::es)=⇑es+1:=rfl;have sx:HT.sIx ⇑(ē a::es) 0 (some 1)=min 1 ⇑(ē a::es):=HT.jH _ 0 1;refine⟨e,v,zK,λh=>?_,?_⟩
  ·rw[sx]at h;lia
  rw[cr];refine⟨(show 1+⇑es<=1000 by lia),q _ (ThB.tup (k:=3) (m:=4000) (es:=e::es) (λx b=>?_) (by rw[ñ];lia))⟩;rcases Þ.mp b with rfl|b
  ·exact u
  ·exact(he x b).mono ∅ ∅
 have w3:∀{x y:D},El 5 10000 x->El 5 10000 y->P (.tuple [.str ar,x,y]):=λb hy=>q _ (ThB.tup (k:=5) (m:=10000) (Js ((El.word (cF ⋯)).mono ∅ ∅) b hy) (ï rfl));rcases bg with⟨S,V,U,W,rfl,M,O,N,R,lp1,lq1,lp2,lq2⟩|⟨w,k,l,rfl,hw,k0,k1,hl⟩|⟨l,rfl,hl⟩
 ·have e1:El 5 10000 (.tuple [iD S,iD V]):=(El.two (λx b=>by have:=M x b;lia) (λx b=>by have:=O x b;lia) () ()).mono ∅ ∅;have e2:El 5 10000 (.tuple [iD U,iD W]):=(El.two (λx b=>by have:=N x b;lia) (λx b=>by have:=R x b;lia) () ()).mono ∅ ∅;have p:∀j:Int,0<=j->j<2->∃e,atI [ē ar,.tuple [iD S,iD V],.tuple [iD U,iD W]] (1+j)=some e/\El 5 10000 e:=λj j0 j1=>by
   rcases(():j=0\/j=1)with rfl|rfl
   ·exact⟨_,rfl,e1⟩
   ·exact⟨_,rfl,e2⟩
  refine⟨.str ar,rfl,?_⟩;show if decide (s=2)=true then _ else _
  refine bC (λc=>?_) (λc=>?_)
  ·refine⟨rfl,2,rfl,∅,∅,λj j0 j1=>?_⟩;let⟨d1,h1,g1⟩:=p j j0 j1;refine⟨d1,h1,rfl,2,rfl,∅,∅,λj j0 j1=>?_⟩;let⟨d2,h2,g2⟩:=p j j0 j1;exact⟨d2,h2,zK,w3 g1 g2⟩
  refine⟨.str ar,rfl,?_⟩;show if decide (s<5)=true then _ else _
  refine bC (λc=>?_) (λc=>?_)
  ·exact⟨rfl,.tuple [iD S,iD V],rfl,rfl,n,us,S,V,rfl,n1,G,lu,lp1,lq1,M,O,λd hd=>⟨.tuple [iD U,iD W],rfl,zK,w3 hd.el e2⟩⟩
  refine⟨.str ar,rfl,?_⟩;exact⟨.tuple [iD S,iD V],rfl,rfl,.tuple [iD U,iD W],rfl,rfl,n,us,U,W,rfl,n1,G,lu,lp2,lq2,N,R,λd hd=>⟨zK,w3 e1 hd.el⟩⟩
 ·have C:decide (w=ar)=false:=by rcases hw with rfl|rfl <;> decide +kernel
  have J:qy w:=by rcases hw with rfl|rfl <;> exact cF ⋯
  refine⟨.str w,rfl,u6 (c:=decide (w=ar)) C ?_⟩;refine⟨.str w,rfl,u6 (c:=decide (w=ar)) C ?_⟩;refine⟨.str w,rfl,u6 (c:=decide (w=ar)) C ?_⟩;have Z:El 3 3000 (.str w):=(El.word J).mono ∅ ∅;have ek:El 3 3000 (.int k):=(El.int () ()).mono ∅ ∅;have Y:El 3 3000 (iD l):=(El.ints (λx b=>by have:=hl.1 x b;lia) (by have:=hl.2;lia)).mono ∅ ∅;have I:El 3 3000 (.int z):=(El.int () ()).mono ∅ ∅;show if decide (s<4)=true then _ else _
  refine bC (λc=>?_) (λc=>?_)
  ·have L:k.natAbs.log2<1920:=by have:=Nat.log2_le_self k.natAbs;lia
   have es:El 3 3000 (.str (toString k)):=by
    have h:=vR (k+1).toNat ();rw[show(((k+1).toNat:Nat):Int) - 1=k by lia,PyData.shown_int]at h;exact(El.word ⟨þ h.2 ∅,h.1⟩).mono ∅ ∅
   refine⟨.str w,rfl,.int k,rfl,L,zK,rfl,5,rfl,∅,∅,λj j0 j1=>?_⟩;obtain⟨e,v,u⟩:∃e,atI [Â z,.int z,.bool true,.str (toString k),.none] j=some e/\El 3 3000 e:=by
    rcases(():j=0\/j=1\/j=2\/j=3\/j=4)with rfl|rfl|rfl|rfl|rfl
    ·exact⟨_,rfl,I⟩
    ·exact⟨_,rfl,I⟩
    ·exact⟨_,rfl,(El.bool true).mono ∅ ∅⟩
    ·exact⟨_,rfl,es⟩
    ·exact⟨_,rfl,El.non.mono ∅ ∅⟩
   exact⟨e,v,iD l,rfl,zK,q _ (ThB.tup (k:=3) (m:=3000) (Js Z u Y) (ï rfl))⟩
  show if decide (s=4)=true then _ else _
  refine bC (λc=>?_) (λc=>?_)
  ·refine⟨zK,rfl,2,rfl,∅,∅,λj j0 j1=>?_⟩;obtain⟨e,v,u⟩:∃e,atI [ē az,.str am] j=some e/\El 3 3000 e:=by
    rcases(():j=0\/j=1)with rfl|rfl
    ·exact⟨_,rfl,(El.word (cF ⋯)).mono ∅ ∅⟩
    ·exact⟨_,rfl,(El.word (cF ⋯)).mono ∅ ∅⟩
   have t:cD [ē w,.int k,iD l] (some (-1)) none=[iD l]:=rfl;refine⟨e,v,zK,λh=>eI h.1 (show ¬HT.sIx 3 0 (some (-1))=0 by decide),?_⟩;rw[t];exact⟨zK,q _ (ThB.tup (k:=3) (m:=3000) (Js u I Y) (ï rfl))⟩
  ·have t:cD [ē w,.int k,iD l] none (some (-1))=[ē w,.int k]:=rfl;refine⟨λh=>eI h.2 (show ¬HT.sIx 3 3 (some (-1))=3 by decide),?_⟩;rw[t];refine⟨rfl,.int n,rfl,iD l,rfl,n,l,rfl,(),(),hl.2,hl.1,λd hd=>?_⟩;exact⟨zK,zK,q (.tuple [.str w,.int k,d]) (ThB.tup (k:=3) (m:=3000) (Js Z ek hd.row.el) (ï rfl))⟩
 ·refine⟨.str av,rfl,?_⟩;refine⟨.str av,rfl,?_⟩;refine⟨.str av,rfl,?_⟩;have Z:El 3 3000 (.str av):=(El.word (cF ⋯)).mono ∅ ∅;have Y:El 3 3000 (iD l):=(El.ints (λx b=>by have:=hl.1 x b;lia) (by have:=hl.2;lia)).mono ∅ ∅;have I:El 3 3000 (.int z):=(El.int () ()).mono ∅ ∅;show if decide (s<4)=true then _ else _
  refine bC (λc=>?_) (λc=>?_)
  all_goals
   show if decide (s=4)=true then _ else _
   refine bC (λc=>?_) (λc=>?_)
   ·refine⟨zK,rfl,2,rfl,∅,∅,λj j0 j1=>?_⟩;obtain⟨e,v,u⟩:∃e,atI [ē az,.str am] j=some e/\El 3 3000 e:=by
     rcases(():j=0\/j=1)with rfl|rfl
     ·exact⟨_,rfl,(El.word (cF ⋯)).mono ∅ ∅⟩
     ·exact⟨_,rfl,(El.word (cF ⋯)).mono ∅ ∅⟩
    have t:cD [ē av,iD l] (some (-1)) none=[iD l]:=rfl;refine⟨e,v,zK,λh=>eI h.1 (show ¬HT.sIx 2 0 (some (-1))=0 by decide),?_⟩;rw[t];exact⟨zK,q _ (ThB.tup (k:=3) (m:=3000) (Js u I Y) (ï rfl))⟩
   ·have t:cD [ē av,iD l] none (some (-1))=[ē av]:=rfl;refine⟨λh=>eI h.2 (show ¬HT.sIx 2 2 (some (-1))=2 by decide),?_⟩;rw[t];refine⟨rfl,.int n,rfl,iD l,rfl,n,l,rfl,(),(),hl.2,hl.1,λd hd=>?_⟩;exact⟨zK,zK,q (.tuple [.str av,d]) (ThB.tup (k:=3) (m:=3000) (all2 Z hd.row.el) (ï rfl))⟩
def Cg{c:List Put}{a:Int}{P K:List Int}{x:Int}(h:Wy c a P K x):⇑P=⇑K+1:=by
 induction h with
 |one=>rfl
 |step _ _ _ b=>rw[Ñ,Ñ,ì,ì,b]
def Jz{d:List Put}{a:Int}{P K:List Int}{x:Int}(h:Wy d a P K x):P.Nodup:=by
 induction h with
 |one=>simp
 |step _ b _ c=>exact ŵ.mpr ⟨c,by simp,λy hy z hz=>by rw[Ê.mp hz];rintro rfl;exact b hy⟩
def Fv{c:List Put}{a:Int}{P K:List Int}{x:Int}(h:Wy c a P K x):P[0]?=some a:=by
 induction h with
 |one=>rfl
 |step h _ _ b=>rw[ù (Ç.mp b).1];exact b
def wB{b:List Put}{a:Int}{P K:List Int}{x:Int}(h:Wy b a P K x):∃Q,P=Q++[x]:=by
 cases h with
 |one=>exact⟨[],rfl⟩
 |step _ _ _=>exact⟨_,rfl⟩
def S5{c:List Put}{a:Int}{P K:List Int}{x:Int}(h:Wy c a P K x):∀(i:Nat)(k:Int),K[i]?=some k->∃p y,P[i]?=some p/\P[i+1]?=some y/\(p,(y,k))∈c:=by
 induction h with
 |one=>exact λi k e=>by cases e
 |@step P K p y k h hx j ih =>
  intro i b e;have l:=Cg h;by_cases hi:i<⇑K
  ·rw[ù hi]at e;let⟨f,g,h1,h2,d⟩:=ih i b e;exact⟨f,g,by rw[ù ()];exact h1,by rw[ù ()];exact h2,d⟩
  ·rw[Ā ()]at e;have hi:i=⇑K:=by
    have:=(Ç.mp e).1;rw[ì]at this;lia
   subst hi;rw[Nat.sub_self]at e;have e:k=b:=Ö e;subst e;let⟨Q,rfl⟩:=wB h;rw[Ñ,ì]at l;refine⟨p,y,?_,?_,j⟩
   ·rw[ù (by rw[Ñ,ì];lia),Ā (),show ⇑K - ⇑Q=0 by lia];rfl
   ·rw[Ā (by rw[Ñ,ì];lia),Ñ,ì,show ⇑K+1 - (⇑Q+1)=0 by lia];rfl
def InR.rs{us:List Tie}{n a:Int}(c:0<=n)(b:n<=16):InR (rsI us n.toNat a):=by
 refine⟨λx hx=>?_,?_⟩
 ·have h:=(á.mp hx).1;let⟨v,hv,rfl⟩:=õ.mp h;have:=ó.mp hv;lia
 ·have:=Kf us n.toNat a;lia
def Yb:FF:=λds P=>∃n us a b,ds=[aq n us,.int a,.int b]/\1<=n/\n<=16/\⇑us<=40/\OkN n us/\0<=a/\a<n/\0<=b/\b<n/\∀L:List D,(∀d∈L,BG n us d)->⇑L<=8->P (.list L)
abbrev RBg(K:ã)(n:Int)(us:List Tie)(a b k v:Int)(L:List D):List Sl:=[.pen (CP K),.im (aq n us),.im (.int a),.im (.int b),.im (.int k),.im (.int v),.dw 0 (.list L)]
def Bgs(n:Int)(us:List Tie)(m:Nat)(L:List D):Prop:=(∀d∈L,BG n us d)/\⇑L<=m
def Bgs.snoc{n:Int}{us:List Tie}{m:Nat}{L:List D}{d:D}(h:Bgs n us m L)(hd:BG n us d):Bgs n us (m+1) (L++[d]) :=
 ⟨λx hx=>(â.mp hx).elim (h.1 x) λz=>by rw[Ê.mp z];exact hd,by rw[Ñ,ì];have:=h.2;lia⟩
def lJ:FnScope [ad,aa,ag,ah,ax,"_law_v",aT] [ad,aa,ag,ah] (aC (top 67)):=zC
def xP(F:Fun K d5 d5 (top 67) f fd)(B:ĩ mg)(y:kA0 P w K mg base)(z:ċ P w K mg base 2 dL [ad,aa,ag,ah] (spP (CP K) G9))(o:Qt P w K mg base):FnOk P w K mg base CX0 3 f fd [ad,aa,ag,ah] (spP (CP K) Yb):=by
 refine F.ok lJ iC (λcdv A outer s H vs Q E hr h=>?_);have x:=lJ.nd;refine⟨_,Wr.WDSs.h (È (å none (i:=4) x rfl zQ (Ĥ y hr (Đ 0) (À (Wr.qO rfl B.max (À Å (À (ĝ B.len (À (Î (Ã 1) Å) Á)) Á))) Á)))
  (È (å none (i:=5) x rfl zQ (Ĥ y hr (Đ 0) (À (Î (Ã 1) Å) Á)))
  (È (å (some 0) (i:=6) x rfl zQ (æ (À (ê (À Ģ (À (Ĥ z hr (Đ 0) (À (Ã 1) (À (Ã 2) (À (Ã 3) Á)))) (À (Ĥ z hr (Đ 0) (À (Ã 1) (À (Ã 2) (À (Ã 3) Á)))) Á)))) (À (ê (À Ģ (À (ú o hr (À (Ã 1) (À (Ã 2) (À (æ Á) (À (æ Á) Á))))) Á))) Á))))
  (Wr.cQ (Ř (Đ 6) (À (ê (À Ģ (À (Ã 4) (À (ú o hr (À (Ã 1) (À (Ã 2) (À (æ (À (Ã 4) Á)) (À (æ Á) Á))))) Á)))) Á))
  (Wr.cQ (ø (ł hr.units (Ã 5) (Ã 2)) (Ô (Ř (Đ 6) (À (ê (À Ģ (À (Ã 5) (À (ú o hr (À (Ã 1) (À (Ã 2) (À (æ Á) (À (æ (À (Ã 5) Á)) Á))))) Á)))) Á))) à)
  (È (ø (ł hr.units (Ã 5) (Ã 3)) (Ô (Ř (Đ 6) (À (ê (À Ģ (À (Ã 5) (À (ú o hr (À (Ã 1) (À (Ã 3) (À (æ Á) (À (æ (À (Ã 5) Á)) Á))))) Á)))) Á))) à)
  (Ô (Û (Ę (Ã 6) (æ (À (ê (À Ģ (À (Ã 4) (À (ú o hr (À (Ã 1) (À (Ã 3) (À (æ (À (Ã 4) Á)) (À (æ Á) Á))))) Á)))) (À (ê (À Ģ (À (ú o hr (À (Ã 1) (À (Ã 3) (À (æ Á) (À (æ Á) Á))))) Á))) Á)))))))))))),enterQ h ?_⟩
 rintro ds P ⟨n,us,a,b,rfl,j,e,C,ok,p,r,b0,b1,q⟩;refine⟨[.im (aq n us),.im (.int a),.im (.int b),.any,.any,.any],c7 rfl,?_⟩;have I:⇑(us.map pD)=⇑us:=Ä ..;have u:∀us':List Tie,InR (rsI us' n.toNat a):=λus'=>InR.rs () e;have l:∀us':List Tie,InR (rsI us' n.toNat b):=λus'=>InR.rs () e;refine⟨rfl,.tuple (us.map pD),rfl,_,rfl,by dsimp only;split <;> lia,by dsimp only;split <;> lia,λk k0 m=>?_⟩;have m:k<100:=by
  have m:k<(if(⇑(us.map pD):Int) > 1 then(⇑(us.map pD):Int)else 1):=m;split at m <;> lia
 refine⟨rfl,.int n,rfl,n,rfl,(),(),λv v0 v1=>?_⟩;refine⟨rfl,n,us,a,b,rfl,j,e,C,ok,p,r,b0,b1,λp1 c1 lp1 lc1 rp1 rc1 _=>?_⟩;refine⟨rfl,n,us,a,b,rfl,j,e,C,ok,p,r,b0,b1,λp2 c2 lp2 lc2 rp2 rc2 _=>?_⟩;refine⟨zK,zK,zK,n,us,a,[],[],rfl,j,e,(),ok,p,r,zK,zK,?_⟩;show QZ _ _ _ (RBg K n us a b k v [.tuple [.str ar,.tuple [iD p1,iD c1],.tuple [iD p2,iD c2]],.tuple [.str av,iD (rsI (adj us [] []) n.toNat a)]]);have t:Bgs n us 2 [.tuple [.str ar,.tuple [iD p1,iD c1],.tuple [iD p2,iD c2]],.tuple [.str av,iD (rsI (adj us [] []) n.toNat a)]] :=
  ⟨all2 (.inl ⟨p1,c1,p2,c2,rfl,rp1,rc1,rp2,rc2,(),(),(),()⟩) (.inr (.inr ⟨_,rfl,u _⟩)),Õ _⟩
 generalize [ő [.str ar,.tuple [iD p1,iD c1],.tuple [iD p2,iD c2]],.tuple [.str av,iD (rsI (adj us [] []) n.toNat a)]]=L at t;refine⟨λρ=>∃L,ρ=RBg K n us a b k v L/\Bgs n us 3 L,?_,?_⟩
 ·have:=t.2;exact⟨zK,zK,n,us,a,[k],[],rfl,j,e,(),ok,p,r,zK,rfl,(),_,rfl,t.snoc (.inr (.inl ⟨az,k,_,rfl,.inl rfl,k0,m,u _⟩))⟩
 clear t;rintro ρ ⟨L,rfl,g⟩;refine⟨λρ=>∃L,ρ=RBg K n us a b k v L/\Bgs n us 4 L,?_,?_⟩
 ·have:=g.2;show if(!decide (v=a))=true then _ else _
  refine bC (λc=>?_) (λc=>⟨_,rfl,g.1,()⟩);exact⟨zK,zK,n,us,a,[],[v],rfl,j,e,(),ok,p,r,zK,rfl,(),_,rfl,g.snoc (.inr (.inl ⟨am,v,_,rfl,.inr rfl,v0,(),u _⟩))⟩
 clear g;rintro ρ ⟨L,rfl,g⟩;have J:∀L,Bgs n us 5 L->BG n us (.tuple [.str az,.int k,iD (rsI (adj us [k] []) n.toNat b)]):=λL g=>.inr (.inl ⟨az,k,_,rfl,.inl rfl,k0,m,l _⟩);have G:∀L:List D,Bgs n us 5 L->P (.list (L++[.tuple [.str az,.int k,iD (rsI (adj us [k] []) n.toNat b)],.tuple [.str av,iD (rsI (adj us [] []) n.toNat b)]])):=λL g=>q _ (λd hd=>by
  rcases â.mp hd with h|h
  ·exact g.1 d h
  ·simp only[Þ,ò,or_false]at h;rcases h with rfl|rfl
   ·exact .inr (.inl ⟨az,k,_,rfl,.inl rfl,k0,m,l _⟩)
   ·exact .inr (.inr ⟨_,rfl,l _⟩)) (by rw[Ñ];have:=g.2;show ⇑L+2<=8;lia)
 clear J;show if(!decide (v=b))=true then _ else _
 refine bC (λc=>?_) (λc=>?_)
 ·have:=g.2;refine⟨zK,zK,n,us,b,[],[v],rfl,j,e,(),ok,b0,b1,zK,rfl,(),?_⟩;refine⟨zK,zK,n,us,b,[k],[],rfl,j,e,(),ok,b0,b1,zK,zK,zK,n,us,b,[],[],rfl,j,e,(),ok,b0,b1,zK,zK,?_⟩;refine⟨?_,.inr ⟨rfl,G _ (g.snoc (.inr (.inl ⟨am,v,_,rfl,.inr rfl,v0,(),l _⟩)))⟩⟩;show(L++[_]).length+2<=1000;rw[Ñ,ì];lia
 ·have:=g.2;refine⟨zK,zK,n,us,b,[k],[],rfl,j,e,(),ok,b0,b1,zK,zK,zK,n,us,b,[],[],rfl,j,e,(),ok,b0,b1,zK,zK,?_⟩;exact⟨(show ⇑L+2<=1000 by lia),.inr ⟨rfl,G L ⟨g.1,()⟩⟩⟩
end
def Ft{n:Nat}{c:List Put}{a:Int}{P K:List Int}{x:Int}(ok:PutsOk n c)(ha:0<=a/\a<n)(h:Wy c a P K x):∀y∈P,0<=y/\y<n:=by
 induction h with
 |one=>exact λy b=>by rw[Ê.mp b];exact ha
 |step _ _ j ih =>
  intro y b;rcases â.mp b with z|z
  ·exact ih y z
  ·rw[Ê.mp z];exact(ok.rng _ j).2
def S6{n:Nat}{b:List Put}{a:Int}{P K:List Int}{x:Int}(ok:PutsOk n b)(ha:0<=a/\a<n)(h:Wy b a P K x):⇑P<=n:=gB (Jz h) (Ft ok ha h)
def Oi{l:List Nat}{p:Nat}:((p:Nat):Int)∈zI l↔p∈l:=by
 rw[xZ];exact⟨λ⟨_,z⟩=>by simpa using z,λz=>⟨(),by simpa using z⟩⟩
def Ku{m:IM}{k:Int}{d:D}(h:∀q∈m,q.1≠k):d8 m k d=m++[(k,d)]:=by
 unfold d8;rw[eH];intro z;unfold cC at z;let⟨q,a,e⟩:=Ŕ.mp z;exact h q a (eB e)
def tab(f:Int->List Int)(p:Nat->Bool)(i:Nat):IM:=((ß i).filter p).map λv=>(((v:Nat):Int),iD (f ((v:Nat):Int)))
def JT{f:Int->List Int}{p:Nat->Bool}{i:Nat}:∀q∈tab f p i,q.1<(i:Int)/\q.2=iD (f q.1):=λq hq=>by
 let⟨v,hv,rfl⟩:=õ.mp hq;have:=ó.mp (á.mp hv).1;exact⟨by show((v:Nat):Int)<_;lia,rfl⟩
def Oo{f:Int->List Int}{p:Nat->Bool}{i:Nat}(h:p i=true):d8 (tab f p i) ((i:Nat):Int) (iD (f ((i:Nat):Int)))=tab f p (i+1):=by
 rw[Ku λq hq z=>by have:=(JT q hq).1;lia];unfold tab;rw[List.range_succ,Ļ,î,ī h];rfl
def JR{f:Int->List Int}{p:Nat->Bool}{i:Nat}(h:p i=false):tab f p (i+1)=tab f p i:=by
 unfold tab;rw[List.range_succ,Ļ,î,ŝ (by rw[h];exact Ð)];exact ě _
def Oq{f:Int->List Int}{p:Nat->Bool}{i:Nat}:⇑(tab f p i)<=i:=by
 unfold tab;rw[Ä];exact þ (ć _ _) (by rw[Ċ];exact Õ _)
open Classical in
def pP(n:Int)(us:List Tie)(a b:Int)(v:Nat):Bool:=decide (((v:Nat):Int)∈inn n a b/\¬Rt (adj us [] [((v:Nat):Int)]) a b)
open Classical in
open Classical in
def g8{n:Int}{us:List Tie}{a b:Int}{v:Nat}:pP n us a b v=true↔((v:Nat):Int)∈inn n a b/\¬Rt (adj us [] [((v:Nat):Int)]) a b:=by
 unfold pP;rw[eC]
open Classical in
def jm{n a b:Int}{v:Nat}(h:v<n.toNat):((v:Nat):Int)∈inn n a b↔¬(((v:Nat):Int)=a\/((v:Nat):Int)=b):=by
 unfold inn;rw[á,Oi,ó,ş,decide_eq_false_iff_not];exact⟨λz=>z.2,λz=>⟨h,z⟩⟩
def QJ{f:Int->List Int}{p:Nat->Bool}{i v:Nat}(h:v<i)(hp:p v=true):cC (tab f p i) ((v:Nat):Int)=true:=by
 unfold cC;exact Ŕ.mpr ⟨(((v:Nat):Int),iD (f ((v:Nat):Int))),õ.mpr ⟨v,á.mpr ⟨ó.mpr h,hp⟩,rfl⟩,decide_eq_true rfl⟩
def QK{f:Int->List Int}{p:Nat->Bool}{i v:Nat}(h:v<i)(hp:p v=true):ju (tab f p i) ((v:Nat):Int)=some (iD (f ((v:Nat):Int))):=by
 unfold ju;cases e:(tab f p i).find? λq=>decide (q.1=((v:Nat):Int))with
 |none =>
  have:=List.find?_eq_none.mp e (((v:Nat):Int),iD (f ((v:Nat):Int))) (õ.mpr ⟨v,á.mpr ⟨ó.mpr h,hp⟩,rfl⟩);exact eI (decide_eq_true rfl) this
 |some q =>
  have h1:=List.find?_some e;have h2:=(JT q (List.mem_of_find?_eq_some e)).2;have a:q.1=((v:Nat):Int):=eB h1;show some q.2=_;rw[h2,a]
def Qs{f:Int->List Int}{p:Nat->Bool}{i v:Nat}(h:v<i)(hp:p v=true):(kvD (tab f p i)).isEmpty=false:=by
 unfold kvD tab;rw[List.isEmpty_map,List.isEmpty_map,List.isEmpty_eq_false_iff_exists_mem];exact⟨v,á.mpr ⟨ó.mpr h,hp⟩⟩
def GQ{f:Int->List Int}{p:Nat->Bool}{i:Nat}(h:∀v,v<i->p v=false):(kvD (tab f p i)).isEmpty=true:=by
 unfold kvD tab;rw[List.isEmpty_map,List.isEmpty_map,List.isEmpty_iff,List.filter_eq_nil_iff];exact λv hv z=>by rw[h v (ó.mp hv)]at z;cases z
open Classical in
def lE(n:Int)(us:List Tie)(a b:Int):IM:=if Rt (adj us [] []) a b then tab (λv=>rsI (adj us [] [v]) n.toNat a) (pP n us a b) n.toNat else []
def R8:FF:=λds P=>∃n us a b,ds=[aq n us,.int a,.int b]/\1<=n/\n<=16/\⇑us<=60/\OkN n us/\0<=a/\a<n/\0<=b/\b<n/\P (.dict (kvD (lE n us a b)))
section
variable{P:Zc}{w:Zd}{K:ã}{mg:Str->Option Value}{base:Zi}{f:Addr}{fd:YY}
def tE(F:Fun K dm dm (top 65) f fd)(B:ĩ mg)(t:Qt P w K mg base):FnOk P w K mg base CX0 2 f fd [aa,ag,ah] (spD R8):=by
 refine okT F (N:=[aa,ag,ah,bc,"_law_v","_law_here"]) zC (λhr nd=>È (ø (ĭ hr.units (Ã 2) (ú t hr (À (Ã 0) (À (Ã 1) (À (æ Á) (À (æ Á) Á)))))) (Ô (Û Wr.gZ)) à)
  (È (å (some 0) (i:=3) nd rfl zQ Wr.gZ)
  (È (ĵ ô rfl (Į B.range (À (Î (Ã 0) Å) Á)) (ä (i:=4) nd rfl zQ) (È (Wr.qY 0 (i:=5) nd rfl zQ (æ Á))
  (È (ø (ĭ hr.units (Ã 4) (ê (À (Ã 1) (À (Ã 2) Á)))) (Ô (Wr.qY 0 (i:=5) nd rfl zQ (ú t hr (À (Ã 0) (À (Ã 1) (À (æ Á) (À (æ (À (Ã 4) Á)) Á))))))) à)
  (È (ø (ů (Ű (ł hr.units (Ã 5) (æ Á)) (Ź (ĭ hr.units (Ã 2) (Ã 5))))) (Ô (Wr.uF hr.units (Đ 3) (Ã 4) (Ã 5))) à) (í [4,5] à)))))
  (í [4,5] (Ô (Û (Ã 3))))))) ?_
 rintro ds P ⟨n,us,a,b,rfl,u,j,x,k,o,s,b0,b1,q⟩;refine⟨[.im (aq n us),.im (.int a),.im (.int b),.any,.any,.any],c7 rfl,?_⟩;have l:∀F B:List Int,b∈rsI (adj us F B) n.toNat a↔Rt (adj us F B) a b:=λF B=>by
  rw[cA];exact⟨λz=>z.2,λz=>⟨⟨b0,()⟩,z⟩⟩
 refine⟨zK,zK,n,us,a,[],[],rfl,u,j,x,k,o,s,rfl,ń _,?_⟩;show if(!(((rsI (adj us [] []) n.toNat a).map Â).any λe=>Ü e (.int b)))=true then _ else _
 rw[Ć];unfold lE at q;by_cases r:Rt (adj us [] []) a b
 case neg =>
  rw[eH r]at q;rw[eA λz=>r ((l _ _).mp z)];exact au (B:=True) ⟨rfl,q⟩
 rw[eD r]at q;rw[decide_eq_true ((l _ _).mpr r)];refine aA (A:=True) ?_;refine⟨.int n,rfl,⟨(),()⟩,rfl,λ(i:Nat) ρ=>ρ=[.im (aq n us),.im (.int a),.im (.int b),.dw 0 (.dict (kvD (tab (λv=>rsI (adj us [] [v]) n.toNat a) (pP n us a b) i))),.any,.any],rfl,?_,?_⟩
 ·rintro i d ρ hd rfl;let⟨hi,rfl⟩:=bI hd;have e:(([a,b].map Â).any λe=>Ü e (.int (0+((i:Nat):Int))))=decide (((i:Nat):Int)=a\/((i:Nat):Int)=b):=by
   rw[Ć,Int.zero_add];simp only[Þ,ò,or_false]
  refine⟨zK,rfl,zK,rfl,rfl,?_⟩;have h:=jm (a:=a) (b:=b) hi;have g:pP n us a b i=false->([.im (aq n us),.im (.int a),.im (.int b),.dw 0 (.dict (kvD (tab (λv=>rsI (adj us [] [v]) n.toNat a) (pP n us a b) i))),.any,.any]:List Sl)=[.im (aq n us),.im (.int a),.im (.int b),.dw 0 (.dict (kvD (tab (λv=>rsI (adj us [] [v]) n.toNat a) (pP n us a b) (i+1)))),.any,.any]:=λz=>by rw[JR z]
  by_cases c:((i:Nat):Int)=a\/((i:Nat):Int)=b
  ·refine u6 (c:=!(([a,b].map Â).any λe=>Ü e (.int (0+((i:Nat):Int))))) (by rw[e,decide_eq_true c];rfl) ?_;refine⟨zK,mF [],rfl,?_⟩;exact aA (A:=True) (aA (A:=True) (g (Ĝ.mpr λz=>h.mp (g8.mp z).1 c)))
  ·refine yj (c:=!(([a,b].map Â).any λe=>Ü e (.int (0+((i:Nat):Int))))) (by rw[e,eA c];rfl) ?_;refine⟨zK,zK,n,us,a,[],[0+((i:Nat):Int)],rfl,u,j,(),k,o,s,?_⟩;rw[Int.zero_add];have hm:a∈rsI (adj us [] [((i:Nat):Int)]) n.toNat a:=cA.mpr ⟨⟨o,()⟩,.refl _⟩;refine⟨rfl,zK,mF _,rfl,?_⟩;refine yj (c:=!(Ü (iD (rsI (adj us [] [((i:Nat):Int)]) n.toNat a)) (.list []))) (by show(!(Ü (.list ((rsI (adj us [] [((i:Nat):Int)]) n.toNat a).map Â)) (.list [])))=true;rw[iH,List.isEmpty_map];cases e:rsI (adj us [] [((i:Nat):Int)]) n.toNat a with|nil=>rw[e]at hm;cases hm|cons _ _=>rfl) ?_;refine⟨rfl,ń _,?_⟩;show if(!(((rsI (adj us [] [((i:Nat):Int)]) n.toNat a).map Â).any λe=>Ü e (.int b)))=true then _ else _
   rw[Ć];by_cases m:Rt (adj us [] [((i:Nat):Int)]) a b
   ·rw[decide_eq_true ((l _ _).mpr m)];exact aA (A:=True) (g (Ĝ.mpr λz=>(g8.mp z).2 m))
   ·rw[eA λz=>m ((l _ _).mp z)];refine au (B:=True) ⟨_,rfl,aP _,rfl,by have:=Oq (f:=λv=>rsI (adj us [] [v]) n.toNat a) (p:=pP n us a b) (i:=i);lia,?_⟩;have e:=Oo (f:=λv=>rsI (adj us [] [v]) n.toNat a) (g8.mpr ⟨h.mpr c,m⟩);show([.im (aq n us),.im (.int a),.im (.int b),.dw 0 (.dict (kvD (d8 (tab (λv=>rsI (adj us [] [v]) n.toNat a) (pP n us a b) i) ((i:Nat):Int) (iD (rsI (adj us [] [((i:Nat):Int)]) n.toNat a))))),.any,.any]:List Sl)=_;rw[e]
 ·rintro ρ rfl;rw[bD];exact⟨rfl,q⟩
def uD{ps:List Int}{a b:Int}(h1:ps.head?=some a)(h2:ps.getLast?=some b)(c:a≠b):ps=a::(cP ps++[b]):=by
 cases ps with
 |nil=>cases h1
 |cons x r =>
  obtain rfl:x=a:=Ö h1;cases r with
  |nil=>exact eI (Ö h2) c
  |cons y r =>
   have e:cP (x::y::r)=(y::r).dropLast:=rfl;have g:(y::r).getLast (List.cons_ne_nil _ _)=b:=by
    rw[List.getLast?_eq_some_getLast (List.cons_ne_nil _ _),List.getLast_cons (List.cons_ne_nil _ _)]at h2;exact Ö h2
   rw[e,←g,List.dropLast_concat_getLast]
def Om{ps c:List Int}{a b:Int}(g:ps.Nodup)(h1:ps.head?=some a)(h2:ps.getLast?=some b)(j:c.head?=some a)(l:c.getLast?=some b)(i:a≠b):decide ((⇑(ps.filter λx=>decide (x∈c)):Int)=2)=!fP (cP ps) (cP c):=by
 have e:=uD h1 h2 i;have f:=uD j l i;rw[←Gd];rw[e]at g;have o:∀x∈cP ps,x≠a/\x≠b:=λx hx=>by
  have d:=Š.mp g;refine⟨λz=>d.1 (é _ (z ▸ hx)),λz=>?_⟩;exact(ŵ.mp d.2).2.2 x hx b Í z
 have h:(cP ps).filter (λx=>decide (x∈c))=(cP ps).filter λx=>decide (x∈cP c):=List.filter_congr λx hx=>by
  have:=o x hx;refine decide_eq_decide.mpr ?_
  conv=>lhs;rw[f]
  rw[Þ,â,Ê];exact⟨λz=>z.elim (λz=>eI z this.1) λz=>z.elim id λz=>eI z this.2,λz=>.inr (.inl z)⟩
 have m:decide (a∈c)=true:=decide_eq_true (by rw[f];exact Í);have n:decide (b∈c)=true:=decide_eq_true (by rw[f];exact É _ (ç _ Í));have k:(ps.filter λx=>decide (x∈c))=a::(((cP ps).filter λx=>decide (x∈cP c))++[b]):=by
  conv=>lhs;rw[e]
  rw[ī (p:=λx=>decide (x∈c)) m,Ļ,ī (p:=λx=>decide (x∈c)) n,h];rfl
 rw[k,List.isEmpty_map,ñ,Ñ];generalize (cP ps).filter (λx=>decide (x∈cP c))=F;cases F with
 |nil=>rfl
 |cons x F =>
  rw[ñ];exact eA (by have:⇑([b]:List Int)=1:=rfl;lia)
def Qi{n:Int}{us:List Tie}{a b i:Int}(b0:0<=b)(b1:b<n):cC (lE n us a b) i=true↔((0<=i/\i<n)/\b∈aD n us [] a/\¬(i=a\/i=b)/\¬b∈rsI (adj us [] [i]) n.toNat a):=by
 have d:∀F B:List Int,b∈rsI (adj us F B) n.toNat a↔Rt (adj us F B) a b:=λF B=>by
  rw[cA];exact⟨λz=>z.2,λz=>⟨⟨b0,()⟩,z⟩⟩
 rw[d,d];unfold lE;constructor
 ·intro h;split at h
  ·rename_i r;unfold cC at h;let⟨q,g,e⟩:=Ŕ.mp h;let⟨v,hv,rfl⟩:=õ.mp g;let⟨h1,h2⟩:=á.mp hv;have e:((v:Nat):Int)=i:=eB e;subst e;have f:=ó.mp h1;have c:=g8.mp h2;exact⟨⟨(),()⟩,r,(jm f).mp c.1,c.2⟩
  ·cases h
 ·rintro⟨⟨j,k⟩,r,h1,h2⟩;rw[eD r];let⟨v,rfl⟩:=Int.eq_ofNat_of_zero_le j;have hv:v<n.toNat:=()
  exact QJ hv (g8.mpr ⟨(jm hv).mpr h1,h2⟩)
def Qj{n:Int}{us:List Tie}{a b i:Int}(h:cC (lE n us a b) i=true):ju (lE n us a b) i=some (iD (rsI (adj us [] [i]) n.toNat a)):=by
 unfold lE at h ⊢;split at h
 ·rename_i r;rw[eD r];unfold cC at h;let⟨q,c,e⟩:=Ŕ.mp h;let⟨v,hv,rfl⟩:=õ.mp c;let⟨h1,h2⟩:=á.mp hv;have e:((v:Nat):Int)=i:=eB e;subst e;exact QK (ó.mp h1) h2
 ·cases h
def Gw{n:Int}{us:List Tie}{a b:Int}(b0:0<=b)(b1:b<n)(h:b∈aD n us [] a):(kvD (lE n us a b)).isEmpty=Aq n us a b:=by
 have r:Rt (adj us [] []) a b:=(cA.mp h).2;unfold lE Aq;rw[eD r];rcases qI (n:=n.toNat) (us:=us) (a:=a) (b:=b) (ß n.toNat)with⟨e,h⟩|⟨v,hv,c,d,e⟩
 ·rw[e];refine GQ λv hv=>?_;cases hp:pP n us a b v with
  |false=>rfl
  |true =>
   have:=g8.mp hp;exact((h v (ó.mpr hv)).elim (λz=>(jm hv).mp this.1 z) this.2).elim
 ·rw[e];have hv:=ó.mp hv;exact Qs hv (g8.mpr ⟨(jm hv).mpr c,d⟩)
def Pj{n:Int}{us:List Tie}{a b i:Int}(b0:0<=b)(b1:b<n){S:Bool}:(decide (0<=i/\i<n)&&(decide (b∈aD n us [] a)&&(!decide (i=a\/i=b)&&(!decide (b∈rsI (adj us [] [i]) n.toNat a)&&S))))=(cC (lE n us a b) i&&S):=by
 have h:=Qi (us:=us) (a:=a) (i:=i) b0 b1;cases c:cC (lE n us a b) i with
 |true =>
  let⟨h1,h2,d,e⟩:=h.mp c;rw[decide_eq_true h1,decide_eq_true h2,eA d,eA e];rfl
 |false =>
  rw[ŭ];by_cases h1:0<=i/\i<n
  case neg=>rw[eA h1];rfl
  by_cases h2:b∈aD n us [] a
  case neg=>rw[eA h2,ŭ,Bool.and_false]
  by_cases d:i=a\/i=b
  case pos=>rw[decide_eq_true d,Bool.not_true,ŭ,Bool.and_false,Bool.and_false]
  by_cases e:b∈rsI (adj us [] [i]) n.toNat a
  case pos=>rw[decide_eq_true e,Bool.not_true,ŭ,Bool.and_false,Bool.and_false,Bool.and_false]
  exact eI ((h.mpr ⟨h1,h2,d,e⟩).symm.trans c) ∅
def Ox{x y:Str}{e:D}(h:bB x e=true)(a:x≠y):bB y e=false:=by
 cases e with
 |str z =>
  have e:z=x:=eB h;rw[e];exact eA a
 |_=>cases h
def X5:FF:=λds P=>∃n us a b d,ds=[aq n us,.int a,.int b,d]/\Pl n us a b/\n<=16/\a≠b/\ThO d/\P (.bool (zN n us a b d))
def xW:(["_law_place",aa,ag,ah,ac,"_law_middles_here"]:List Str).Nodup:=⋯
def Dz(F:Fun K "_law_due" "_law_due" (top 66) f fd)(B:ĩ mg)(O:ċ P w K mg base 2 dm [aa,ag,ah] (spD R8))(Q:ċ P w K mg base 3 "_law_two" [aa,ag,ah,ac] (spD RT))(M:Qu P w K mg base)(I:Vb P w K mg base)(J:Qv P w K mg base)(R:ċ P w K mg base 3 "_law_tie" [aa,ag,ah,ac] (spD RW))(S:ċ P w K mg base 3 "_law_gap" [aa,ag,ah,ac] (spD Sw)):FnOk P w K mg base CX0 4 f fd [aa,ag,ah,ac] (spD X5):=by
 refine okT F (N:=[aa,ag,ah,ac,"_law_middles_here"]) zC (λhr nd=>È (å none (i:=4) nd rfl zQ (ú O hr (À (Ã 0) (À (Ã 1) (À (Ã 2) Á)))))
  (È (ø (ă (ú Q hr (À (Ã 0) (À (Ã 1) (À (Ã 2) (À (Ã 3) Á)))))) (Ô (Û (Ţ hr.units (ĝ B.len (À (Ś ["_law_place"] rfl (ħ (Î (Î (Ã 3) Å) Å)) (λc=>(ä (i:=0) xW rfl zQ)) (λc=>(ť (Wr.eU hr.units (Ã 0) (Î (Î (Ã 4) Å) Å)))) (λc=>(Ã 0))) Á)) Å))) à)
  (È (ø (ă (ú M hr (À (Ã 3) (À Ģ (À Å Á))))) (Ô (Û (Ĵ (ú J hr (À (æ (À (Î (Ã 3) Å) Á)) Á)) (Ĵ (Wr.Dp hr.units (Î (Ã 3) Å) (Ã 4)) (ŷ (ú I hr (À (Î (Ã 3) Å) (À (Wr.mj hr.units (Ã 4) (Î (Ã 3) Å)) Á)))))))) à)
  (È (ø (ă (ú R hr (À (Ã 0) (À (Ã 1) (À (Ã 2) (À (Ã 3) Á)))))) (Ô (Û (Wr.Uq hr.units (Ã 4) Wr.gZ))) à)
  (Ô (Û (ú S hr (À (Ã 0) (À (Ã 1) (À (Ã 2) (À (Ã 3) Á))))))))))) ?_
 rintro ds P ⟨n,us,a,b,d,rfl,L,j,W,o,q⟩;refine⟨[.im (aq n us),.im (.int a),.im (.int b),aV d,.any],c7 rfl,?_⟩;have H:=L;let⟨U,V,lu,ok,u,C,b0,b1⟩:=H;refine⟨n,us,a,b,rfl,U,j,(),ok,u,C,b0,b1,?_⟩;show qx _ _ _ [.im (aq n us),.im (.int a),.im (.int b),aV d,.sn (.dict (kvD (lE n us a b)))];have q:P (.bool (if nU n us a b d then vK d else wM n us a b d || (oY n us a b d || (nW n us a b d&&Aq n us a b)))):=q;rcases aL d with z|z
 all_goals
  rw[z];refine⟨n,us,a,b,d,rfl,L,o,?_⟩;show if nU n us a b d=true then _ else _
  cases h1:nU n us a b d with
  |true =>
   rw[h1]at q;have q:P (.bool (vK d)):=q;cases hh:hasB ar 3 d with
   |false=>exact eI ((wF hh).symm.trans h1) ∅
   |true =>
    let⟨e,x,y,rfl,s⟩:=cG hh;have h1:(bB ar e&&(bN true n us a b x&&(bN true n us a b y&&!fP (j9 x) (j9 y))))=true:=h1;rw[Ï,Ï,Ï]at h1;have p:=h1.2.1;have l:=h1.2.2.1;let⟨m,Z,rfl,_⟩:=dO (by unfold bN at p;rw[Ï]at p;exact p.1);let⟨k,k2,rfl,_⟩:=dO (by unfold bN at l;rw[Ï]at l;exact l.1);have q:P (.bool (!fP (cP ((m.map Â).map toI)) (cP ((k.map Â).map toI)))):=q;rw[bx,bx]at q;have T:=((o _ rfl _ (É _ Í)).2.1 _ rfl (iD m) Í _ rfl).1;rw[Ä]at T;have D:=(qD ok u C).mp p;have G:=(qD ok u C).mp l;rw[←Om ((sY m).mp (eB D.2.2.2.1)) D.2.1 D.2.2.1 G.2.1 G.2.2.1 W]at q;refine au (B:=True) ?_;refine⟨_,rfl,iD m,rfl,fK m Â (λx=>decide (x∈k)) Â .imm rfl () (λx p A B h1 h2=>⟨_,rfl,iD k,rfl,rfl,ń k,?_⟩) ?_⟩
    ·show if((k.map Â).any λe=>Ü e (.int x))=true then _ else _
     rw[Ć];cases hc:decide (x∈k)with
     |true=>exact au (B:=True) ⟨rfl,h1 hc⟩
     |false=>exact aA (A:=True) (h2 hc)
    ·refine⟨rfl,?_⟩;show P (.bool (decide ((⇑((m.filter λx=>decide (x∈k)).map Â):Int)=2)));rw[Ä];exact q
  |false =>
   rw[h1]at q;have q:P (.bool (wM n us a b d || (oY n us a b d || (nW n us a b d&&Aq n us a b)))):=q;refine aA (A:=True) ⟨d,am,3,rfl,∅,?_⟩;show if hasB am 3 d=true then _ else _
   cases hh:hasB am 3 d with
   |true =>
    let⟨e,v,x,rfl,s⟩:=cG hh;have g:oY n us a b (.tuple [e,v,x])=false:=rfl;have t:nW n us a b (.tuple [e,v,x])=false:=by
     show(bB az e&&_)=false;rw[Ox s ∅];rfl
    rw[g,t,ŭ,Bool.or_false,Bool.or_false]at q;have h:P (.bool (bB am e&&(aH n v&&(decide (b∈aD n us [] a)&&(!decide (toI v=a\/toI v=b)&&(!decide (b∈rsI (adj us [] [toI v]) n.toNat a)&&fC (rsI (adj us [] [toI v]) n.toNat a) x)))))):=q;rw[s,ÿ]at h;have tk:=o _ rfl v (É _ Í);have Y:eG (.list [v]):=λxs e=>by
     cases e;exact⟨(show 1<=400 by decide),λy l=>by rw[Ê.mp l];exact tk.2.2⟩
    refine au (B:=True) ⟨v,rfl,zK,.list [v],rfl,Y,?_⟩;have X:lB (.list [v])=isW v:=by show(isW v&&true)=_;rw[Bool.and_true]
    rw[X];cases hk:isW v with
    |false =>
     have e:aH n v=false:=by
      cases v with
      |int i=>cases hk
      |_=>rfl
     rw[e]at h;exact aA (A:=True) ⟨rfl,h⟩
    |true =>
     let⟨i,rfl⟩:=yp hk;have h:P (.bool (decide (0<=i/\i<n)&&(decide (b∈aD n us [] a)&&(!decide (i=a\/i=b)&&(!decide (b∈rsI (adj us [] [i]) n.toNat a)&&fC (rsI (adj us [] [i]) n.toNat a) x))))):=h;rw[Pj b0 b1]at h;refine au (B:=True) ⟨.int i,rfl,_,rfl,?_⟩;show if cC (lE n us a b) i=true then _ else _
     cases hm:cC (lE n us a b) i with
     |false =>
      rw[hm]at h;exact aA (A:=True) ⟨rfl,h⟩
     |true =>
      rw[hm,ÿ]at h;exact au (B:=True) ⟨x,rfl,.int i,rfl,_,_,rfl,Qj hm,x,_,rfl,(o _ rfl x (É _ (É _ Í))).1,rfl,h⟩
   |false =>
    rw[KJ hh,Bool.false_or]at q;refine aA (A:=True) ⟨n,us,a,b,d,rfl,L,j,o,?_⟩;show if nW n us a b d=true then _ else _
    cases r:nW n us a b d with
    |true =>
     cases hk:hasB az 3 d with
     |false=>exact eI ((Cq hk).symm.trans r) ∅
     |true =>
      let⟨e,v,x,rfl,s⟩:=cG hk;have g:oY n us a b (.tuple [e,v,x])=false:=rfl;have E:(bB az e&&(aH (⇑us:Nat) v&&(decide (b∈aD n us [] a)&&(!decide (b∈aD n us [toI v] a)&&fC (aD n us [toI v] a) x))))=true:=r;rw[Ï,Ï,Ï]at E;rw[r,g,ÿ,Bool.false_or]at q;exact au (B:=True) ⟨_,rfl,rfl,rfl,by rw[Gw b0 b1 (eB E.2.2.1)];exact q⟩
    |false =>
     rw[r,ŭ,Bool.or_false]at q;exact aA (A:=True) ⟨n,us,a,b,d,rfl,L,j,o,rfl,q⟩
def M8:FF:=λds P=>∃n us a b d,ds=[aq n us,.int a,.int b,d]/\Pl n us a b/\n<=16/\a≠b/\ThB d/\P (.bool true)
abbrev Xg(P w K mg base):=ċ P w K mg base 8 bS [ae,bi,bn,af] (spD M6)
def xM(F:Fun K d6 d6 (top 68) f fd)(B:ĩ mg)(k:mg "repr"=none)(j:Dl.uV base)(m:ċ P w K mg base 4 "_law_due" [aa,ag,ah,ac] (spD X5))(l:Xg P w K mg base):FnOk P w K mg base CX0 9 f fd [aa,ag,ah,ac] (spD M8):=by
 refine okT F (N:=[aa,ag,ah,ac,bo,"_law_shown",bc]) zC (λhr nd=>È (å none (i:=4) nd rfl zQ (ú m hr (À (Ã 0) (À (Ã 1) (À (Ã 2) (À (Ã 3) Á))))))
  (È (å none (i:=5) nd rfl zQ (Wr.lX j hr.gd hr.units k (À (Ã 3) Á)))
  (È (å none (i:=6) nd rfl zQ (ú l hr (À (Ã 0) (À (Ã 1) (À (Ã 2) (À (Ã 3) Á))))))
  (Ô (Û (Ĵ (Ō uc B.isinstance (Ã 6) (Wr.wty rfl B.bool Su)) (Ĵ (Ţ hr.units (Ã 6) (Ã 4)) (ŷ (Ţ hr.units (Wr.lX j hr.gd hr.units k (À (Ã 3) Á)) (Ã 5)))))))))) ?_
 rintro ds P ⟨n,us,a,b,d,rfl,L,h,g,c,q⟩;refine⟨[.im (aq n us),.im (.int a),.im (.int b),aV d,.any,.any,.any],c7 rfl,?_⟩;rcases aL d with z|z
 all_goals
  rw[z];refine⟨n,us,a,b,d,rfl,L,h,g,c.th,?_⟩;have e:P (.bool (decide (d.shown=d.shown))):=by rw[decide_eq_true rfl];exact q
  cases h2:zN n us a b d with
  |true =>
   refine⟨_,_,rfl,c.ok,n,us,a,b,d,rfl,L,g,c.th.th,?_⟩;rw[h2];exact au (B:=True) (au (B:=True) ⟨_,_,rfl,c.ok,rfl,e⟩)
  |false =>
   refine⟨_,_,rfl,c.ok,n,us,a,b,d,rfl,L,g,c.th.th,?_⟩;rw[h2];exact au (B:=True) (au (B:=True) ⟨_,_,rfl,c.ok,rfl,e⟩)
def VD{n:Int}{us:List Tie}{a b:Int}{d:D}(h:Hv n us a b d):¬cM d=true:=by
 rcases h with⟨_,rfl⟩|⟨_,v,_,_,rfl⟩|⟨_,_,k,_,_,rfl⟩|⟨_,_,_,c,e,_,_,_,_,rfl⟩ <;> exact λz=>nomatch z
def Yl{n:Int}{us:List Tie}{a b:Int}{d:D}(n0:0<=n)(c:n<=16)(C:⇑us<=39)(ok:OkN n us)(e:0<=a)(z:a<n)(h:Hv n us a b d):BG n us d:=by
 have f:=jc n0 (():⇑us<=100) ok;have g:∀w:List Int×List Int,Wy (aG us) a w.1 w.2 b->(∀x∈w.1,0<=x/\x<n)/\(∀x∈w.2,0<=x/\x<(⇑us:Nat))/\⇑w.1<=60/\⇑w.2<=60:=λw W=>by
  have A:=S6 f ⟨e,()⟩ W;have B:=Cg W;exact⟨λx hx=>by have:=Ft f ⟨e,()⟩ W x hx;lia,Jy W,(),()⟩
 rcases h with⟨_,rfl⟩|⟨_,v,hv,_,rfl⟩|⟨_,_,k,hk,_,rfl⟩|⟨_,_,_,u,y,i,j,_,_,rfl⟩
 ·exact .inr (.inr ⟨_,rfl,InR.rs n0 c⟩)
 ·have:=(cR.mp hv).1;exact .inr (.inl ⟨am,_,_,rfl,.inr rfl,(),(),InR.rs n0 c⟩)
 ·exact .inr (.inl ⟨az,_,_,rfl,.inl rfl,(),(),InR.rs n0 c⟩)
 ·let⟨l,m,o,p⟩:=g u i;let⟨q,r,s,t⟩:=g y j;exact .inl ⟨_,_,_,_,rfl,l,m,q,r,o,p,s,t⟩
def SX{n:Int}{us:List Tie}{d:D}(a:n<=16)(f:⇑us<=40)(h:BG n us d):ThB d:=by
 let⟨g,es,rfl,b,c,he,_⟩:=yR a f h;refine .tup (k:=3) (m:=3000) (λe h=>?_) (by rw[ñ];lia);rcases Þ.mp h with rfl|h
 ·exact(El.word b).mono ∅ ∅
 ·exact he e h
def Ym{n:Int}{us:List Tie}{d:D}(a:n<=16)(b:⇑us<=40)(h:BG n us d):¬cM d=true:=by
 let⟨c,es,rfl,_,_,_,im⟩:=yR a b h;show ¬(true&&bQ es)=true;rw[im];decide
def Vl{i:Nat}{k:Kd}{d:D}{ρ:List Sl}{P:List Sl->Prop}(h:¬cM d=true)(q:P (ρ.set i (FZ k d))):gNm i (norm k d) d ρ P:=by
 show P (ρ.set i (FZ (norm (norm k d) d) d));rw[bV h,bV h];exact q
def rQ(l:List Int):fC l (iD l)=true:=by
 show((l.map Â).all isW&&decide ((l.map Â).map toI=l))=true;rw[bx,decide_eq_true rfl,Bool.and_true,Ĕ];intro x a;let⟨i,_,rfl⟩:=õ.mp a;rfl
def JZ(s:Str):bB s (.str s)=true:=by
 show decide (s=s)=true;exact decide_eq_true rfl
def JD{n:Int}{us:List Tie}{a b:Int}{w:List Int×List Int}(c:OkW n us)(ok:OkN n us)(d:0<=a)(f:a<n)(W:Wy (aG us) a w.1 w.2 b):bN true n us a b (cT (some w))=true:=by
 let⟨ps,ks⟩:=w;refine(qD ok d f).mpr ⟨Cg W,by rw[List.head?_eq_getElem?];exact Fv W,?_,decide_eq_true ((sY ps).mpr (Jz W)),λi hi k hk=>?_⟩
 ·let⟨Q,e⟩:=wB W;have e:ps=Q++[b]:=e;rw[e];exact List.getLast?_concat ..
 ·let⟨p,y,h1,h2,g⟩:=S5 W i k hk;let⟨j,rfl,e⟩:=bY.mp g;have h:j<⇑us:=e.elim (λe=>(Ç.mp e).1) λe=>(Ç.mp e).1;refine⟨⟨(),()⟩,p,y,h1,h2,?_⟩;rw[ķ];rcases e with e|e
  ·have:=c _ (Ì e);rw[e];unfold mmT;dsimp only at this ⊢;rw[eH (),eD ()]
  ·have:=c _ (Ì e);rw[e];unfold mmT;dsimp only at this ⊢;rw[eD (),eH ()]
def NZ{n:Int}{us:List Tie}{a b:Int}{d:D}(n0:0<=n)(o:OkW n us)(ok:OkN n us)(t:0<=a)(u:a<n)(b0:0<=b)(b1:b<n)(J:a≠b)(h:Hv n us a b d):zN n us a b d=true:=by
 have sd:∀F B:List Int,b∈rsI (adj us F B) n.toNat a↔Rt (adj us F B) a b:=λF B=>by
  rw[cA];exact⟨λz=>z.2,λz=>⟨⟨b0,()⟩,z⟩⟩
 have st:∀s:Str,bB s (.str s)=true:=JZ;have l:∀x y z:D,bB ar x=false->nU n us a b (.tuple [x,y,z])=false:=λx y z e=>by
  show(bB ar x&&_)=false;rw[e];rfl
 unfold zN;rcases h with⟨r,rfl⟩|⟨r,v,hv,M,rfl⟩|⟨r,G,k,hk,K,rfl⟩|⟨_,_,_,c,i,p,q,H,N,rfl⟩
 ·have e:oY n us a b (.tuple [.str av,iD (rsI (adj us [] []) n.toNat a)])=(bB av (.str av)&&(!decide (b∈aD n us [] a)&&fC (aD n us [] a) (iD (aD n us [] a)))):=rfl;have f:nU n us a b (.tuple [.str av,iD (rsI (adj us [] []) n.toNat a)])=false:=rfl;rw[f,e,rQ,eA λz=>r ((sd _ _).mp z),st,eH Ð];show(_ || (true || _))=true;rw[Bool.true_or,Bool.or_true]
 ·have e:wM n us a b (.tuple [.str am,.int ((v:Nat):Int),iD (rsI (adj us [] [((v:Nat):Int)]) n.toNat a)])=(bB am (.str am)&&(decide (0<=((v:Nat):Int)/\((v:Nat):Int)<n)&&(decide (b∈aD n us [] a)&&(!decide (((v:Nat):Int)=a\/((v:Nat):Int)=b)&&(!decide (b∈rsI (adj us [] [((v:Nat):Int)]) n.toNat a)&&fC (rsI (adj us [] [((v:Nat):Int)]) n.toNat a) (iD (rsI (adj us [] [((v:Nat):Int)]) n.toNat a))))))):=rfl;have hi:=cR.mp hv;rw[l _ _ _ (show bB ar (.str am)=false by decide),eH Ð,e,rQ,decide_eq_true ((sd _ _).mpr r),eA λz=>M ((sd _ _).mp z),decide_eq_true hi.1,eA λz=>z.elim hi.2.1 hi.2.2,st];rfl
 ·have e:nW n us a b (.tuple [.str az,.int ((k:Nat):Int),iD (rsI (adj us [((k:Nat):Int)] []) n.toNat a)])=(bB az (.str az)&&(decide (0<=((k:Nat):Int)/\((k:Nat):Int)<(⇑us:Nat))&&(decide (b∈aD n us [] a)&&(!decide (b∈aD n us [((k:Nat):Int)] a)&&fC (aD n us [((k:Nat):Int)] a) (iD (aD n us [((k:Nat):Int)] a)))))):=rfl;have L:Aq n us a b=true:=by
   rw[←Gw b0 b1 ((sd _ _).mpr r)];unfold lE;rw[eD r];exact GQ λv hv=>Ĝ.mpr λz=>(g8.mp z).2 (G _ (g8.mp z).1)
  rw[l _ _ _ (show bB ar (.str az)=false by decide),eH Ð,e,L,rQ,decide_eq_true ((sd _ _).mpr r),eA λz=>K ((sd _ _).mp z),decide_eq_true ⟨(),()⟩,st];show(_ || (_ || true))=true;rw[Bool.or_true,Bool.or_true]
 ·have e:nU n us a b (.tuple [.str ar,cT (some c),cT (some i)])=(bB ar (.str ar)&&(bN true n us a b (cT (some c))&&(bN true n us a b (cT (some i))&&!fP ((c.2.map Â).map toI) ((i.2.map Â).map toI)))):=rfl;have g:fP c.2 i.2=false:=by
   unfold fP;rw[List.any_eq_false];exact λx j z=>H x j (eB z)
  have m:vK (.tuple [.str ar,cT (some c),cT (some i)])=!fP (cP ((c.1.map Â).map toI)) (cP ((i.1.map Â).map toI)):=rfl;have hd:∀w:List Int×List Int,Wy (aG us) a w.1 w.2 b->w.1=a::(cP w.1++[b])/\w.1.Nodup:=λw W=>by
   let⟨Q,e⟩:=wB W;exact⟨uD (by rw[List.head?_eq_getElem?];exact Fv W) (by rw[e];exact List.getLast?_concat ..) J,Jz W⟩
  rw[e,st,JD o ok t u p,JD o ok t u q,m,bx,bx,bx,bx,g];let⟨A,C⟩:=hd c p;let⟨I,_⟩:=hd i q;have s:fP (cP c.1) (cP i.1)=false:=by
   unfold fP;rw[List.any_eq_false];intro x j z;have z:=eB z;have h1:x∈c.1:=by rw[A];exact É _ (é _ j)
   have h2:x∈i.1:=by rw[I];exact É _ (é _ z)
   rw[A]at C;have E:=Š.mp C;rcases N x h1 h2 with rfl|rfl
   ·exact E.1 (é _ j)
   ·exact(ŵ.mp E.2).2.2 x j x Í rfl
  rw[s];rfl
abbrev R0(K:ã)(i j:Nat)(n:Int)(us:List Tie)(x y:Int)(d:D):List Sl:=[.any,.pen (CP K),.im (.int (0+((i:Nat):Int))),.im (aq n us),.im (.int (0+((j:Nat):Int))),.im (.int x),.im (.int y),.sn d,.any,.any,.any]
def J5:FnScope [ba,ad,dn,aa,cn,ag,ah,"_law_told",ac,"_law_again","_law_bent_here"] [ba] (aC (top 69)):=zC
def Uz(F:Fun K "law" "law" (top 69) f fd)(B:ĩ mg)(W:Dl.uV base)(J:ċ P w K mg base 3 "_law_web" [ad,c9,bE] (spP (CP K) XC))(M:ċ P w K mg base 2 er [ad,aI] (spP (CP K) R4))(N:ċ P w K mg base 8 eh [ae,bi,bn] (spD X8))(G:Xg P w K mg base)(O:ċ P w K mg base 3 d5 [ad,aa,ag,ah] (spP (CP K) Yb))(v:ċ P w K mg base 9 d6 [aa,ag,ah,ac] (spD M8))(R:ċ P w K mg base 4 et [ad,aa,ac] (p7 (CP K) Sy)):FnOk P w K mg base CX0 10 f fd [ba] (FW K):=by
 refine F.ok J5 (λvs H Q E h=>by let⟨a,ns,rfl,_⟩:=h;rfl) (λcdv A outer s H vs Q E hr h=>?_);let⟨sc,ns,rfl,S,q⟩:=h;have l:=J5.nd;refine⟨_,(aM (fV (i:=1) l rfl zQ (Dc (bU (pv 0) (bU Ŗ (bU Ŗ eY))))) (Wr.WDSs.h (È (ĵ ô rfl (Į B.range (À Å Á)) (ä (i:=2) l rfl zQ) (È (å none (i:=3) l rfl zQ (Ĥ J hr (Đ 1) (À Å (À Å Á))))
  (È (ĵ ô rfl (Į B.range (À (Wr.eV Å (Wr.lY B.int So (À (Wr.Gq (Î (Ã 3) Å) Å) Á))) Á)) (ä (i:=4) l rfl zQ) (È (Wr.uG (Ĥ M hr (Đ 1) (À (Î (Ã 3) Å) Á)) (Wr.dH (n:=2) rfl (ė (ä (i:=5) l rfl zQ) (ė (ä (i:=6) l rfl zQ) ż))))
  (È (å none (i:=7) l rfl zQ (ú N hr (À (Ã 3) (À (Ã 5) (À (Ã 6) Á)))))
  (È (ø (Wr.kY (ú G hr (À (Ã 3) (À (Ã 5) (À (Ã 6) (À (Ã 7) Á))))) İ) (Ô (Û İ)) à)
  (È (ĵ ô rfl (ħ (Ę (æ (À (Ã 7) (À (Ã 7) Á))) (Ĥ O hr (Đ 1) (À (Ã 3) (À (Ã 5) (À (Ã 6) Á)))))) (ä (i:=8) l rfl zQ) (È (ø (č (ă (ú v hr (À (Ã 3) (À (Ã 5) (À (Ã 6) (À (Ã 8) Á))))))) (Ô (Û İ)) à)
  (È (ĵ ô rfl (Į B.range (À Å Á)) (ä (i:=9) l rfl zQ) (È (å none (i:=10) l rfl zQ (Dl.Vu R hr (Đ 1) (À (Ã 3) (À (Ã 8) Á))))
  (È (ø (č (ă (ú v hr (À (Ã 3) (À (Ã 5) (À (Ã 6) (À (Ã 10) Á))))))) (Ô (Û İ)) à) (í [9,10] à)))) (í [8,9,10] à)))) (í [4,5,6,7,8,9,10] à)))))) (í [2,3,4,5,6,7,8,9,10] à))))
  (í [2,3,4,5,6,7,8,9,10] (Ô (Û İ)))))),Vs S q ∅ ?_⟩
 refine⟨⟨∅,∅⟩,rfl,λ(i:Nat) ρ=>ρ=[.any,.pen (CP K),.any,.any,.any,.any,.any,.any,.any,.any,.any],rfl,?_,?_⟩
 rotate_left
 ·rintro ρ rfl;exact⟨rfl,rfl⟩
 rintro i d ρ hd rfl;let⟨hi,rfl⟩:=bI hd;refine⟨rfl,6,11,rfl,∅,∅,∅,∅,λn us n1 nm lu okw=>?_⟩;have k:=okw.okN;have g:n<=16:=()
 refine yC (s:=.im (aq n us)) (by
  show Dl.stK none _ 3 (norm _ (aq n us)) (aq n us)=some (.im (aq n us));rw[aN (ni n us)];rfl) ?_
 have hc:∃c:Int,(4:Int) * (if decide (1<n)=true then 1 else 0)=c/\0<=c/\c<=4/\(0<c->1<n):=by
  by_cases o:1<n
  ·exact⟨4,by rw[decide_eq_true o];rfl,∅,∅,λ_=>o⟩
  ·exact⟨0,by rw[eA o];rfl,∅,∅,λz=>eI z ∅⟩
 let⟨c,hc,X,Y,I⟩:=hc;have r:(-(2:Int) ^ 62<=(4:Int) * (if decide (1<n)=true then 1 else 0))/\(4:Int) * (if decide (1<n)=true then 1 else 0)<2 ^ 62:=by rw[hc];exact⟨(),()⟩
 refine⟨.int n,rfl,.inl ⟨∅,∅⟩,r,rfl,λ(j:Nat) ρ=>ρ=[.any,.pen (CP K),.im (.int (0+((i:Nat):Int))),.im (aq n us),.any,.any,.any,.any,.any,.any,.any],rfl,?_,?_⟩
 rotate_left
 ·rintro ρ rfl;rfl
 rintro j d ρ hd rfl;let⟨T,rfl⟩:=bI hd;rw[hc]at T;have o:2<=n:=by have:=I ();lia
 refine⟨rfl,.int n,rfl,n,rfl,o,g,λx y x0 x1 y0 y1 ne=>⟨rfl,n,us,x,y,rfl,n1,(),(),k,x0,x1,y0,y1,ne,?_⟩⟩;have p:=VB (b:=y) () (():n<=50) (():⇑us<=60) k x0 x1 y1;generalize byP n us x y=m at p ⊢;have D:=VD p;have C:=Yl () g lu k x0 x1 p;have L:Pl n us x y:=⟨n1,(),(),k,x0,x1,y0,y1⟩
 have U:=SX g () C;refine yC (s:=.sn m) ?_ ?_
 ·show Dl.stK none _ 7 (norm _ m) m=_;rw[bV D,bV D];rfl
 refine⟨n,us,x,y,m,rfl,L,ne,U.th.th,?_⟩;rw[NZ () okw k x0 x1 y0 y1 ne p];refine⟨zK,rfl,n,us,x,y,rfl,n1,g,(),k,x0,x1,y0,y1,λLs hL lL=>?_⟩;refine⟨(show 2+⇑Ls<=1000 by lia),.inr ⟨rfl,λ(t:Nat) ρ=>ρ=R0 K i j n us x y m,rfl,?_,?_⟩⟩
 rotate_left
 ·rintro ρ rfl;rfl
 rintro t e ρ ht rfl;have hb:BG n us e:=by
  rcases â.mp (Ì ht)with h|h
  ·have h:e∈[m,m]:=h;simp only[Þ,ò,or_false,or_self]at h;rw[h];exact C
  ·exact hL e h
 have V:=SX g () hb;refine Vl (Ym g () hb) ?_;show qx _ _ _ ((R0 K i j n us x y m).set 8 (.sn e));refine⟨n,us,x,y,e,rfl,L,g,ne,V,?_⟩;refine⟨⟨∅,∅⟩,rfl,λ(t:Nat) ρ=>ρ=(R0 K i j n us x y m).set 8 (.sn e),rfl,?_,?_⟩
 rotate_left
 ·rintro ρ rfl;rfl
 rintro t' d' ρ u rfl;let⟨_,rfl⟩:=bI u;refine⟨rfl,rfl,n,us,e,rfl,n1,g,(),hb,λd2 t2=>?_⟩;refine J2 (norm_le rfl) λs hs=>?_;rcases hs with rfl|rfl|rfl
 all_goals
  exact⟨n,us,x,y,d2,rfl,L,g,ne,t2,rfl⟩
end
theorem len1{α:Type}:∀us:List α,⇑us=1->∃a,us=[a]
 |[a],_=>⟨a,rfl⟩
theorem len2{α:Type}:∀us:List α,⇑us=2->∃a b,us=[a,b]
 |[a,b],_=>⟨a,b,rfl⟩
theorem YQ{α:Type}:∀us:List α,⇑us=3->∃a b c,us=[a,b,c]
 |[a,b,c],_=>⟨a,b,c,rfl⟩
theorem iV{α:Type}:∀us:List α,⇑us=4->∃a b c d,us=[a,b,c,d]
 |[a,b,c,d],_=>⟨a,b,c,d,rfl⟩
theorem YM{α:Type}:∀us:List α,⇑us=5->∃a b c d e,us=[a,b,c,d,e]
 |[a,b,c,d,e],_=>⟨a,b,c,d,e,rfl⟩
def GZ{K:ã}{f:Addr}{b:Value}{c:Option Addr}{a:YY}{d:Array (Option Value)}(l:K.lookup f=some ⟨b,c,.func a,d⟩):W.keepIn K (.ref f)=true:=by
 unfold W.keepIn;simp only[l]
def Vz{P:Zc}{w:Zd}{K:ã}{c:Str->Option Value}{base:Zi}{k:Nat}{x:Str}{st:ZH}{f:Addr}{a:YY}{ps:List Str}{sp:Sp}(F:Fun K x x st f a)(b:Binds K a ps [])(m:c x=some (.ref f))(h:FnOk P w K c base CX0 k f a ps sp) :
  ċ P w K c base k x ps sp:=⟨f,a,h,b,F.kp,m⟩
abbrev zl(K:ã)(f:Addr)(x:Str)(st:ZH)(oc:Value)(od:Option Addr)(kV dc pm:Value)(an:Option Addr)(cd ct:Value)(sl:Array (Option Value)):Prop:=K.lookup f=some ⟨oc,od,.func (W.fnOf x x (jR st) (fM st) (aC st) .none kV dc pm an cd ct),sl⟩
abbrev za(K:ã)(x:Str)(f:Addr):Prop:=W.nsIn K mainGlobals x=some (some (.ref f))
abbrev zc(K:ã)(x:Str)(cd:Value):Prop:=W.codeIn K cd x=true
abbrev zn(K:ã)(x:Str):Prop:=W.nsIn K mainGlobals x=some none
abbrev zf(K:ã)(f:Addr)(x:Str)(st:ZH):Prop:=∃oc od kV dc pm an cd ct sl,za K x f/\zl K f x st oc od kV dc pm an cd ct sl/\zc K x cd
def zE{K:ã}{f:Addr}{x:Str}{st:ZH}{g:Value}{h:Option Addr}{kV dc i:Value}{d:Option Addr}{b e:Value}{j:Array (Option Value)}(a:za K x f)(l:zl K f x st g h kV dc i d b e j)(c:zc K x b):zf K f x st:=⟨_,_,_,_,_,_,_,_,_,a,l,c⟩
def zF{K:ã}{h:Zi}{b:Str->Option Value}{f:Addr}{x:Str}{st:ZH}(X:K.In h)(G:h.Ns mainGlobals b)(z:zf K f x st):∃fd,Fun K x x st f fd/\b x=some (.ref f):=by
 let⟨_,_,_,_,_,_,_,_,_,a,l,c⟩:=z;exact⟨_,MP (st:=st) l c (GZ l),W.mg_of X G a⟩
def all_mk{l:W.OpenLaw}{w:Zd}{K:ã}{h:Zi}{mg:Str->Option Value}{fa f0 f1 f2 f3 f4 f5 f6 f7 f8 f9 f10 f11 f12 f13 f14 f15 f16 f17 f18 f19 f20 f21 f22 f23 f24 f25 f26 f27 f28 f29 f30 f31 f32 f33 f34 f35 f36 f37 f38 f39 f40 f41 f42 f43 f44 f45 f46 f47 f48 f49 f50 f51 f52 f53 f54 f55 f56 f57 f58:Addr}(X:K.In h)(G:h.Ns mainGlobals mg)(hfa:mg "law"=some (.ref fa)){od58 k:Option Addr}{sl58:Array (Option Value)}{oc58 o n p c m:Value}(h0:zf K f0 dQ (top 4))(h1:zf K f1 "is_below" (top 5))(h2:zf K f2 "is_place" (top 6))(h3:zf K f3 cw (top 7))(h4:zf K f4 dt (top 8))(h5:zf K f5 bp (top 9))(h6:zf K f6 da (top 11))(h7:zf K f7 "search" (top 12))(h8:zf K f8 "trace" (top 13))(h9:zf K f9 "part_of" (top 14))(h10:zf K f10 "parts" (top 15))(h11:zf K f11 "way" (top 16))(h12:zf K f12 bq (top 17))(h13:zf K f13 bP (top 18))(h14:zf K f14 "hops" (top 19))(h15:zf K f15 "is_way" (top 20))(h16:zf K f16 de (top 22))(h17:zf K f17 cx (top 23))(h18:zf K f18 du (top 25))(h19:zf K f19 dS (top 26))(h20:zf K f20 dy (top 27))(h21:zf K f21 eg (top 28))(h22:zf K f22 dA (top 30))(h23:zf K f23 ca (top 32))(h24:zf K f24 df (top 33))(h25:zf K f25 cz (top 34))(h26:zf K f26 db (top 35))(h27:zf K f27 cy (top 36))(h28:zf K f28 eh (top 37))(h29:zf K f29 "has_form" (top 39))(h30:zf K f30 dC (top 40))(h31:zf K f31 "share" (top 41))(h32:zf K f32 dE (top 42))(h33:zf K f33 di (top 43))(h34:zf K f34 "is_apart" (top 44))(h35:zf K f35 cf (top 45))(h36:zf K f36 br (top 46))(h37:zf K f37 bS (top 47))(h38:zf K f38 ee (top 49))(h39:zf K f39 ef (top 50))(h40:zf K f40 "_law_web" (top 51))(h41:zf K f41 "_law_met" (top 52))(h42:zf K f42 dl (top 53))(h43:zf K f43 d4 (top 54))(h44:zf K f44 er (top 55))(h45:zf K f45 dL (top 56))(h46:zf K f46 ci (top 57))(h47:zf K f47 cE (top 58))(h48:zf K f48 et (top 59))(h49:zf K f49 "_law_is" (top 60))(h50:zf K f50 em (top 61))(h51:zf K f51 "_law_two" (top 62))(h52:zf K f52 "_law_tie" (top 63))(h53:zf K f53 "_law_gap" (top 64))(h54:zf K f54 dm (top 65))(h55:zf K f55 "_law_due" (top 66))(h56:zf K f56 d5 (top 67))(h57:zf K f57 d6 (top 68))(a58:za K "law" f58)(l58:zl K f58 "law" (top 69) oc58 od58 o n p k c m sl58)(c58:zc K "law" c)(z0:zn K "isinstance")(z1:zn K "int")(z2:zn K "bool")(z3:zn K "tuple")(z4:zn K "list")(z5:zn K "len")(z6:zn K "all")(z7:zn K "min")(z8:zn K "max")(z9:zn K "sorted")(z10:zn K "range")(z11:zn K "abs")(z12:zn K cq)(z13:zn K "reversed")(z14:zn K "set")(z15:zn K "zip")(z16:zn K "str")(z17:zn K "any")(z18:zn K "sum")(z19:zn K "repr")
  :
  ∃fd:YY,(∀(s:Shared)(v:Value),Y1 s fd ⟨[v],[]⟩ [(ba,v)])/\∀base:Zi,K.In base->base.Ns mainGlobals mg->Dl.uV base->FnOk l.prog w K mg base CX0 10 fa fd [ba] (FW K):=by
 have e:=hfa.symm.trans (W.mg_of X G a58);cases e;let⟨_,F0,m0⟩:=zF X G h0;have b0:=F0.binds (ps:=[af]);let⟨_,F1,m1⟩:=zF X G h1;have b1:=F1.binds (ps:=["limit",af]);let⟨_,F2,m2⟩:=zF X G h2;have b2:=F2.binds (ps:=[ae,af]);let⟨_,F3,m3⟩:=zF X G h3;have b3:=F3.binds (ps:=[ae,af]);let⟨_,F4,m4⟩:=zF X G h4;have b4:=F4.binds (ps:=[ae,af]);let⟨_,F5,m5⟩:=zF X G h5;have b5:=F5.binds (ps:=[ae,bi,bn]);let⟨_,F6,m6⟩:=zF X G h6;have b6:=F6.binds (ps:=[ae]);let⟨_,F7,m7⟩:=zF X G h7;have b7:=F7.binds (ps:=[cK,bd]);let⟨_,F8,m8⟩:=zF X G h8;have b8:=F8.binds (ps:=["came",bX]);let⟨_,F9,m9⟩:=zF X G h9;have b9:=F9.binds (ps:=[ae,am]);let⟨_,t,m10⟩:=zF X G h10;have b10:=t.binds (ps:=[ae]);let⟨_,u,m11⟩:=zF X G h11;have b11:=u.binds (ps:=[ae,bi,bn]);let⟨_,x,m12⟩:=zF X G h12;have b12:=x.binds (ps:=[ae,bi,bn,af]) λ_ _ _ _ _ _ us hl=>by let⟨_,_,_,_,rfl⟩:=iV us hl;rfl
 let⟨_,y,m13⟩:=zF X G h13;have b13:=y.binds (ps:=[ae,bi,bn,af]) λ_ _ _ _ _ _ us hl=>by let⟨_,_,_,_,rfl⟩:=iV us hl;rfl
 let⟨_,z,m14⟩:=zF X G h14;have b14:=z.binds (ps:=[cv]);let⟨_,A,m15⟩:=zF X G h15;have b15:=A.binds (ps:=[ae,bi,bn,af]) λ_ _ _ _ _ _ us hl=>by let⟨_,_,_,_,rfl⟩:=iV us hl;rfl
 let⟨_,C,m16⟩:=zF X G h16;have b16:=C.binds (ps:=[ae,ew]);let⟨_,D,m17⟩:=zF X G h17;have b17:=D.binds (ps:=[ae,"v"]);let⟨_,E,m18⟩:=zF X G h18;have b18:=E.binds (ps:=[aE,a8,bb]);let⟨_,F,m19⟩:=zF X G h19;have b19:=F.binds (ps:=[aE,a8,bb]);let⟨_,H,m20⟩:=zF X G h20;have b20:=H.binds (ps:=[aE,a8,bd,bX]) λ_ _ _ _ _ _ us hl=>by let⟨_,_,_,_,rfl⟩:=iV us hl;rfl
 let⟨_,I,m21⟩:=zF X G h21;have b21:=I.binds (ps:=[aE,a8,bb,bd,bX]) λ_ _ _ _ _ _ us hl=>by let⟨_,_,_,_,_,rfl⟩:=YM us hl;rfl
 let⟨_,J,m22⟩:=zF X G h22;have b22:=J.binds (ps:=[ae,bi,bn]);let⟨_,L,m23⟩:=zF X G h23;have b23:=L.binds (ps:=[ae,bi,bn]);let⟨_,M,m24⟩:=zF X G h24;have b24:=M.binds (ps:=[ae,dV,cc]);let⟨_,N,m25⟩:=zF X G h25;have b25:=N.binds (ps:=[ae,bi,bn]);let⟨_,O,m26⟩:=zF X G h26;have b26:=O.binds (ps:=[ae,"v",bi]);let⟨_,P,m27⟩:=zF X G h27;have b27:=P.binds (ps:=[ae,bi,bn]);let⟨_,Q,m28⟩:=zF X G h28;have b28:=Q.binds (ps:=[ae,bi,bn]);let⟨_,R,m29⟩:=zF X G h29;have b29:=R.binds (ps:=[af,"word",aE]);let⟨_,S,m30⟩:=zF X G h30;have b30:=S.binds (ps:=[af,"some"]);let⟨_,T,m31⟩:=zF X G h31;have b31:=T.binds (ps:=[ez,ck]);let⟨_,U,m32⟩:=zF X G h32;have b32:=U.binds (ps:=[ae,bi,bn,af]) λ_ _ _ _ _ _ us hl=>by let⟨_,_,_,_,rfl⟩:=iV us hl;rfl
 let⟨_,V,m33⟩:=zF X G h33;have b33:=V.binds (ps:=[ez,ck]);let⟨_,Y,m34⟩:=zF X G h34;have b34:=Y.binds (ps:=[ae,bi,bn,af]) λ_ _ _ _ _ _ us hl=>by let⟨_,_,_,_,rfl⟩:=iV us hl;rfl
 let⟨_,Z,m35⟩:=zF X G h35;have b35:=Z.binds (ps:=[ae,bi,bn,af]) λ_ _ _ _ _ _ us hl=>by let⟨_,_,_,_,rfl⟩:=iV us hl;rfl
 let⟨_,F36,m36⟩:=zF X G h36;have b36:=F36.binds (ps:=[ae,bi,bn,af]) λ_ _ _ _ _ _ us hl=>by let⟨_,_,_,_,rfl⟩:=iV us hl;rfl
 let⟨_,F37,m37⟩:=zF X G h37;have b37:=F37.binds (ps:=[ae,bi,bn,af]) λ_ _ _ _ _ _ us hl=>by let⟨_,_,_,_,rfl⟩:=iV us hl;rfl
 let⟨_,F38,m38⟩:=zF X G h38;have b38:=F38.binds (ps:=[ad,bv]);let⟨_,F39,m39⟩:=zF X G h39;have b39:=F39.binds (ps:=[ad,aI,bz]);let⟨_,F40,m40⟩:=zF X G h40;have b40:=F40.binds (ps:=[ad,c9,bE]);let⟨_,F41,m41⟩:=zF X G h41;have b41:=F41.binds (ps:=[aa,dP,dq,dr]) λ_ _ _ _ _ _ us hl=>by let⟨_,_,_,_,rfl⟩:=iV us hl;rfl
 let⟨_,F42,m42⟩:=zF X G h42;have b42:=F42.binds (ps:=[ac]);let⟨_,F43,m43⟩:=zF X G h43;have b43:=F43.binds (ps:=[aa,ag,ah,ac]) λ_ _ _ _ _ _ us hl=>by let⟨_,_,_,_,rfl⟩:=iV us hl;rfl
 let⟨_,F44,m44⟩:=zF X G h44;have b44:=F44.binds (ps:=[ad,aI]);let⟨_,F45,m45⟩:=zF X G h45;have b45:=F45.binds (ps:=[ad,aa,ag,ah]) λ_ _ _ _ _ _ us hl=>by let⟨_,_,_,_,rfl⟩:=iV us hl;rfl
 let⟨_,F46,m46⟩:=zF X G h46;have b46:=F46.binds (ps:=[ad,aI,aT]);let⟨_,F47,m47⟩:=zF X G h47;have b47:=F47.binds (ps:=[ad,aa,a7]);let⟨_,F48,m48⟩:=zF X G h48;have b48:=F48.binds (ps:=[ad,aa,ac]);let⟨_,F49,m49⟩:=zF X G h49;have b49:=F49.binds (ps:=[ac,ei,bv]);let⟨_,F50,m50⟩:=zF X G h50;have b50:=F50.binds (ps:=[ac,bo]);let⟨_,F51,m51⟩:=zF X G h51;have b51:=F51.binds (ps:=[aa,ag,ah,ac]) λ_ _ _ _ _ _ us hl=>by let⟨_,_,_,_,rfl⟩:=iV us hl;rfl
 let⟨_,F52,m52⟩:=zF X G h52;have b52:=F52.binds (ps:=[aa,ag,ah,ac]) λ_ _ _ _ _ _ us hl=>by let⟨_,_,_,_,rfl⟩:=iV us hl;rfl
 let⟨_,F53,m53⟩:=zF X G h53;have b53:=F53.binds (ps:=[aa,ag,ah,ac]) λ_ _ _ _ _ _ us hl=>by let⟨_,_,_,_,rfl⟩:=iV us hl;rfl
 let⟨_,F54,m54⟩:=zF X G h54;have b54:=F54.binds (ps:=[aa,ag,ah]);let⟨_,F55,m55⟩:=zF X G h55;have b55:=F55.binds (ps:=[aa,ag,ah,ac]) λ_ _ _ _ _ _ us hl=>by let⟨_,_,_,_,rfl⟩:=iV us hl;rfl
 let⟨_,F56,m56⟩:=zF X G h56;have b56:=F56.binds (ps:=[ad,aa,ag,ah]) λ_ _ _ _ _ _ us hl=>by let⟨_,_,_,_,rfl⟩:=iV us hl;rfl
 let⟨_,F57,m57⟩:=zF X G h57;have b57:=F57.binds (ps:=[aa,ag,ah,ac]) λ_ _ _ _ _ _ us hl=>by let⟨_,_,_,_,rfl⟩:=iV us hl;rfl
 have F58:=MP (st:=top 69) l58 c58 (GZ l58);have B:ĩ mg:=⟨Ġ X G z0,Ġ X G z1,Ġ X G z2,Ġ X G z3,Ġ X G z4,Ġ X G z5,Ġ X G z6,Ġ X G z7,Ġ X G z8,Ġ X G z9,Ġ X G z10,Ġ X G z11⟩
 have b:=Ġ X G z12;have N13:=Ġ X G z13;have N14:=Ġ X G z14;have N15:=Ġ X G z15;have j:=Ġ X G z16;have N17:=Ġ X G z17;have N18:=Ġ X G z18;have N19:=Ġ X G z19;refine⟨W.fnOf "law" "law" (jR (top 69)) (fM (top 69)) (aC (top 69)) .none o n p k c m,λs v=>.of_eq rfl,λbase _ _ SY=>?_⟩;have zc:=@Vz l.prog w K mg base;have C0:=zc F0 b0 m0 (Le F0 B);have C1:=zc F1 b1 m1 (Li F1 C0);have C2:=zc F2 b2 m2 (Ai F2 B C1);have C3:=zc F3 b3 m3 (oK F3 B C1);have C4:=zc F4 b4 m4 (tL F4 B C2);have C5:=zc F5 b5 m5 (j5 F5 B C4);have C6:=zc F6 b6 m6 (qd F6 B b);have C7:=zc F7 b7 m7 (Ie F7 B);have C8:=zc F8 b8 m8 (Lf F8 B N13);have C9:=zc F9 b9 m9 (Ds F9 B C7 C6);have C10:=zc t b10 m10 (Lh t B C9);have C11:=zc u b11 m11 (Uy u B C4 C8 C7 C6);have C12:=zc x b12 m12 (jZ x B N14 C2);have C13:=zc y b13 m13 (lA y B C12 C3);have C14:=zc z b14 m14 (Qd z B N15);have C15:=zc A b15 m15 (Ih A B N15 C4 C13 C14);have C16:=zc C b16 m16 (p8 C B b);have C17:=zc D b17 m17 (oF D B C4 C10);have C18:=zc E b18 m18 (sZ E B);have C19:=zc F b19 m19 (uY F B b);have C20:=zc H b20 m20 (tM H B C8 C7 C19);have C21:=zc I b21 m21 (xK I B C8 C7 C18);have C22:=zc J b22 m22 (tu J B C11 C9 C16);have C23:=zc L b23 m23 (mG L B);have C24:=zc M b24 m24 (ql M B);have C25:=zc N b25 m25 (oE N B C23 C20 C21 C24);have C26:=zc O b26 m26 (qe O B C17);have C27:=zc P b27 m27 (oG P B C26);have C28:=zc Q b28 m28 (xQ Q B C5 C9 C25 C27 C22);have d:=zc R b29 m29 (Ak R B j);have q:=zc S b30 m30 (tH S B C0);have C31:=zc T b31 m31 (Lg T B N17);have C32:=zc U b32 m32 (tG U B d C15 C31);have C33:=zc V b33 m33 (qg V B C31);have C34:=zc Y b34 m34 (Aj Y B C9 q d);have C35:=zc Z b35 m35 (mD Z B C9 C3 d C16 q);have C36:=zc F36 b36 m36 (j4 F36 B C9 C2 d C26 q);have C37:=zc F37 b37 m37 (lg F37 B C5 C32 C33 C34 C36 C27 C35);have a:=zc F38 b38 m38 (Qc F38 B);have C39:=zc F39 b39 m39 (Af F39 B a);have C40:=zc F40 b40 m40 (Dt F40 B a C39);have f:=zc F41 b41 m41 (Dw F41 B b N18);have g:=zc F42 b42 m42 (tD F42 B);have C43:=zc F43 b43 m43 (xO F43 B N14 b g);have C44:=zc F44 b44 m44 (Ae F44 B a);have C45:=zc F45 b45 m45 (uZ F45 B N18 a);have C46:=zc F46 b46 m46 (oJ F46 B j a);have C47:=zc F47 b47 m47 (qj F47 B a C46);have C48:=zc F48 b48 m48 (Ah F48 B j a C47 C46);have i:=zc F49 b49 m49 (Ig F49 B j);have r:=zc F50 b50 m50 (Ag F50 B g);have C51:=zc F51 b51 m51 (Du F51 B C43 i);have C52:=zc F52 b52 m52 (Dv F52 B g i f r);have C53:=zc F53 b53 m53 (Dy F53 B f r i);have C54:=zc F54 b54 m54 (tE F54 B f);have C55:=zc F55 b55 m55 (Dz F55 B C54 C51 i r g C52 C53);have C56:=zc F56 b56 m56 (xP F56 B a C45 f);have C57:=zc F57 b57 m57 (xM F57 B N19 SY C55 C37);exact Uz F58 B SY C40 C44 C28 C37 C56 C57 C48
def walk{l:W.OpenLaw}{q:Zc}{loose:List Str}{XP:(Str->Option Value)->Zi->Prop}{YP:Zd->Zi->Prop}{d:DefRec}{K:Zf->ã}(hi:importsNone q=true)(hn:l.most=some 63)(c:d.params.defaults=[])(g:∀(w:Zd)(h:Zi),YP w h->(K w.params).In h)(F:∀(w:Zd)(b:Str->Option Value)(e:Addr)(h:Zi),(K w.params).In h->h.Ns mainGlobals b->b d.name=some (.ref e) ->
   ∃fd:YY,(∀(s:Shared)(u:Value),Y1 s fd ⟨[u],[]⟩ [(ba,u)])/\∀base:Zi,(K w.params).In base->base.Ns mainGlobals b->Dl.uV base->FnOk l.prog w (K w.params) b base CX0 10 e fd [ba] (FW (K w.params))) :
  W.WalkO q loose XP YP l.row.toRowW d [] (λf vs=>PySem.call f vs) :=
 L2.JK (n:=63) (k:=10) (x:=ba) (CX:=λ_=>CX0) (sp:=λw=>FW (K w.params)) hi hn ∅ c ⟨rfl,∅,∅,rfl⟩ g F (λ_ _ a ns hl hO hS=>⟨a,ns,rfl,hS,λ_=>rfl⟩) λ_ _ _ _ _ z=>z
end Nf
open PySem PySem.W PyProof.Rows
local macro_rules
 |`(tactic| k_qdec)=>`(tactic| fail)
local macro_rules
 |`(tactic| o_head (kmHook $k $a $e $t))=>`(tactic| o_head (kHook (λP=>List.append (List.map (λa=>(a,PySem.W.tabObj #[])) $t) ($k P)) (List.append $t $a) (λ_=>by kernel_rfl)))
local macro_rules
 |`(tactic| o_head (kHook $k $a $e))=>`(tactic| (
  refine holds_open (q:=view ý Nf.vN) (loose:=[]) (Xt:=λs=>xlAt (view ý Nf.vN) [] s&&recOk [] s) (XP:=XL (view ý Nf.vN) []) (Yf:=Hook.obs (kHook $k $a $e)) (Ya:=Hook.val (kHook $k $a $e)) (YP:=Hook.says (kHook $k $a $e)) (N:=4642) ?hl (Hook.of (kHook $k $a $e)) (Hook.keeps (kHook $k $a $e)) (λs e=>xl_of s (Bool.and_eq_true_iff.mp e).1) XL.keeps (by rfl) (by rfl) (by rfl) (λs e=>recFacts_of (Bool.and_eq_true_iff.mp e).2) (by rfl) (by first|assumption|decide +kernel) ⋯ ⟨rfl,rfl,rfl,rfl,rfl,⋯⟩ ?hw ?hc))
set_option maxRecDepth 100000 in
set_option maxHeartbeats 0 in
theorem PySem.Challenge.cw_nofall_k14_what_shows_by_places_holds : PySem.Challenge.rw_nofall_k14_what_shows_by_places.Holds := by
 w_on;refine PySem.W.holds_law Nf.well λsaid=>?_;k_head
 ·refine Nf.Qp 90 (boot_open (by kernel_rfl) rfl (λs=>by kernel_rfl)) Nf.Qm (λw os=>?_) (λw os=>?_)
  ·show Nf.uw ý w os _ 90=Nf.frF _ 90;rw[PySem.W.Fast.frontQ_eq]
   kernel_rfl
  ·show Nf.BR ý w os _ 90=Nf.frB _ 90;rw[PySem.W.Fast.backQ_eq]
   kernel_rfl
 ·w_witness2
 k_fill
 refine Nf.walk (l:=PySem.Challenge.rw_nofall_k14_what_shows_by_places) rfl rfl rfl (λw h Y=>PySem.W.kIn_of Y) ?F
 case F =>
  intro w mg fa h KX G hmg
  refine' Nf.all_mk KX G hmg ?h0 ?h1 ?h2 ?h3 ?h4 ?h5 ?h6 ?h7 ?h8 ?h9 ?h10 ?h11 ?h12 ?h13 ?h14 ?h15 ?h16 ?h17 ?h18 ?h19 ?h20 ?h21 ?h22 ?h23 ?h24 ?h25 ?h26 ?h27 ?h28 ?h29 ?h30 ?h31 ?h32 ?h33 ?h34 ?h35 ?h36 ?h37 ?h38 ?h39 ?h40 ?h41 ?h42 ?h43 ?h44 ?h45 ?h46 ?h47 ?h48 ?h49 ?h50 ?h51 ?h52 ?h53 ?h54 ?h55 ?h56 ?h57 ?a58 ?l58 ?c58 ?z0 ?z1 ?z2 ?z3 ?z4 ?z5 ?z6 ?z7 ?z8 ?z9 ?z10 ?z11 ?z12 ?z13 ?z14 ?z15 ?z16 ?z17 ?z18 ?z19
  any_goals first|refine' Nf.zE ?_ ?_ ?_|skip
  any_goals (show _=_;k_is)
  all_goals rfl
end
