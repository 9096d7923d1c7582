import PyProof.Rows.All
import Wide.All
import OpenK.AllK
import Wide.FinOn
import Lean
import PyProof.EqAt
import PyProof.EqKinds
import PyProof.TupleCall
import PySem.Challenge.RW_nofall_k54_whole_no_fewer_ties
set_option genSizeOf false
set_option genSizeOfSpec false
set_option Elab.async false
set_option linter.all false
set_option maxRecDepth 100000
open List renaming length_map→À,getElem?_eq_getElem→Å,mem_cons_self→Æ,mem_cons_of_mem→Ç,getElem?_eq_some_iff→È,length_append→É,replicate→Ë,mem_singleton→Í,mem_of_getElem?→Î,size_toArray→Ñ,getD_eq_getElem?_getD→Ò,mem_cons→Õ,map_append→Ö,range→Ø,mem_append→Û,getElem?_map→Þ,length_cons→à,length_singleton→á,mem_filter→â,mem_map→è,map_cons→é,append_nil→í,mem_append_right→î,mem_range→ò,getElem?_append_right→ó,map_map→ô,flatten_cons→ú,take_length→þ,length_range→ā,getElem?_append_left→Ą,all_eq_true→Ċ,mem_append_left→ċ,length_drop→Ď,take_add_one→Ē,lookup_cons→ē,sum_cons→Ė,length_replicate→ė,mem_replicate→ę,replicate_succ→ě,map_congr_left→Ĝ,getElem?_set_self→ğ,getElem_mem→Ĥ,getElem?_of_mem→Ķ,length_take→Ĺ,append_assoc→ľ,nodup_cons→ŀ,map→Ņ,length_dropLast→ņ,getElem?_set_ne→Ň,find?_cons→Œ,drop_eq_getElem_cons→œ,length_filter_le→Ŕ,length_filter_lt_length_iff_exists→ŗ,toArray→ř,getElem?_replicate→ş,take_of_length_le→Ţ,mem_filterMap→Ŧ,pairwise_iff_getElem→Ū,length_pos_iff→Ŵ,length_eq_zero_iff→ŵ,any_eq_true→Ŷ
open PySem.PyData renaming int→Â,eqv→ö,list→Č,canLayAll0→ũ
open PySem renaming wpAny_bind→Ã,wpAny_pure→Ú,sizeLine_eq→õ,mem_of_lookup→ď,wpAny_loadPart'→Ģ,wpAny_holding→ħ,wpAny_truthy_bool→ĭ,wpAny_call_entry→Ļ,wpAny_mono→Ŀ,wpAny_callSpecial?_slot→ŋ,wpAny_Call_Name_kw→ŝ,wpAny_newObj_type→š,codeAny_builtin→ţ,wpAny_field→ų,wpAny_seqItems→ź
open Nat renaming le_refl→Ì,ne_of_lt→å,lt_of_lt_of_le→ì,pow_le_pow_right→Ă,zero_le→ą,le_trans→ĉ,lt_succ_of_lt→ĕ,lt_irrefl→Ę,le_succ→ĸ,lt_succ_self→ň,ne_of_gt→ś,mul_le_mul→Ş,lt_or_ge→Ű,pow_succ→Ż
open PySem.Heap renaming lt_size→Ó,get?_push_of_some→Ô,get?_push_size→ä,size_update→Ĩ,get?_push_ne→ī,get?_update_other→Ō,size_push→Ŝ,get?_update_self→ŧ
open Bool renaming false_ne_true→Ù,and_eq_true→Ü,eq_iff_iff→ă,false_eq_true→ķ,not_eq_true'→ů
open PySem.W renaming Frag→Ý,mg_of→ý,mg_none_of→Ĵ,boot_heap→Ų
open Option.some renaming inj→ß
open PySem.Obj renaming mapSeq→æ
open Int renaming toNat_natCast→ê,le_refl→Ě,zero_add→Ŏ
open PySem.Str renaming ofString→ë
open PySem.PassesOwn renaming never→ï
open Classical renaming byContradiction→ù
open PySem.F renaming plainAttrs_list→û,type_list_append→ļ,slot_list_append→Ľ,slot_enumerate_next→Ł,type_list_extend→Ŭ,slot_list_extend→ŭ,plain_max_loop→Ÿ,slot_enumerate_iter→Ž
open PySem.Challenge renaming pw_nofall_k54_whole_no_fewer_ties→ü
open Sum renaming inl→ć
open PySem.NameKind renaming free→Ĉ,cell→ġ
open PySem.Value renaming type→Đ,none→Ĕ,ref→ģ,int→Ń
open Or renaming inl→đ
open Ne renaming symm→ĝ
open PySem.Builtin.SmallTypes renaming nextOf→Ħ,ownedTupleIsFree→Ŗ
open PyProof.Rows renaming callWith_type1→ĳ,slot_tupleiter_next→Ť
open ForInStep renaming yield→ĵ
open False renaming elim→ĺ
open Array renaming length_toList→ō
open PySem.Around renaming under_plainId→Ř
open PySem.Builtin.List renaming listExtendWith→ŷ
open True renaming intro→Ź
open PySem.Builtin.Slice renaming slicePlaces→ž
open PySem renaming Program → Zg,World → Zl,Params → Zs,DictEntry → ZA,OsState → ZE,treeTable → ZN,importedModules → ZO,wpAny_eqBool_int → ZT,sysModules → ZU,tupleKind → ZY,builtinsNs → ZZ,bootBuiltins → Z3,Around → Ys,Scope → YA,Expr → YE,starEach → YI,eval → YN,backTo → YO,foldedSetIterable → YR,backToKw → YU,keywordEach → YV,Keyword → YY,GenState → Y2,Model → Y3,isTrue → Xs,spliced → XA,Stmt → XB,wpAny_Name → XE,CmpOp → XG,compareOp → XI,behindInMarks → XN,wpAny_isTrue_Compare1 → XO,truthy → XT,wpAny_execs_nil → XU,swapsWith → XV,assign → XW,assignEach → XX,wpAny_assign_Name → XY,wpAny_standAt → XZ,swapsWithSole → X0,swappedStores → X1,PassesOwn → X9,wpAny_passesOwn → We,pyNext → Wl,letOwnedTupleGo → Wp,rawInt → WA,rangeSize_one → WB,call → WF,binaryOp → WG,intBits_le_64 → WH,lastMarks → WI,recursionLimit → WJ,cLine → WN,Result → WP,FuncData → WS,BindsTo → WU,codeAny → WZ,wpAny_call → W1,codeAny_mono → VA,bindL → VC,bindC → VE,Arguments → VM,noFill_tuple_add → VO,seq_tuple_add → VQ,IsPart → VS,getItem → VU,wpAny_typeOf → VW,evalPart_none → VX,typeLookup → VY,seqIndex? → UA,seqIndex_of → UB,seqIndex_neg → UC,subscripted → UD,sliceBounds → UF,call_list_seq → UH,typeIs_int → UI,attributeBase → UK,call_meets → UM,fitsIndex_both → UN,cellOf → UO,closureFor → UP,pushCells → UQ,newFunctionEnv → UR,relabel → US,wpAny_comprehension_free → UT,wpAny_pyIter_list → UU,wpAny_pyIter_tuple → UV,intItems → UZ,numAt → U1,argBest → U2,wpAny_newTuple → TW,wpAny_newList → TZ,collect → Sb,PyData → Sj,field → Sk,seqItems? → Sm,wpAny_setField → Sn,firstArgMember → So,wpAny_pyNext_enum_itemD → Su,wpAny_letOwnedTupleGo_enum → Sz,wpAny_attempt → SA,wpAny_isInstance → SB,isSubtype_stop → SC,wpAny_pyIter_slot → SD,valueAt → SE,atKey → SF,tupleKind_room_in1 → SG,wpAny_specialOf → SH,wpAny_setField_rec → SI,wpAny_nextOf_list_item → SK,wpAny_nextOf_list_end → SL,ZipApart → SO,updateSeq → SR,wpAny_updateSeq → SS,plainId_quiet → ST,typeLookup_type → SU,builtinLookup_eq_fast → SV,wpAny_letGo → SW,ReadsAll → S1,call_sum_walk → S2,Const → S4,SetTable → Rc,defaultsOf → Rl,argsOk → Rs,wpAny_tryCatch → RA
open PySem.W renaming SharedT → Zp,boot_o_0 → ZB,boot_drawn → ZH,boot_toks → ZI,kas_rev → UX,kas_count → UY,kas_st → Tx,kasC_bind → Ty,kasC_get → TB,kasC_cons → TC,kasC_pure → TH
open PyProof.Rows renaming AllBare → Y1,boot_range → WE,envOfC → VI,slicePart_none → VT,Subscript_ → VZ,subscriptTail → Uf,subscriptTail_builtinR → UE,tuples' → Ta,SortKind → Th,Keyed → Tk,SortSt → Tl,arrOf → Ts,failedOf → Tu,pendingOf → TD,seqObj → TK,list_sort_plain → TL,listItems_at → TM,listUpdate_at → TN,get?_update_seq → TR,seqEpoch_at → TU,size_push' → Sa,slot_list_sort → Sc,entry_list_sort → Se,args_list_sort → Sf,sortedAll_old → Si,boot_list → SZ,boot_sorted → S0,step_dedup → S3,oneType' → Re
noncomputable section
local macro_rules|`(↑$x)=>`(by simpa using $x)
local macro_rules|`($a∩$b∩$c)=>let i:=Lean.mkIdent;`($(i `FnOk) $(i `P) $(i `w) $(i `K) $(i `mg) $(i `gy) $(i `CX0) $a $(i `f) $(i `fd) $b $c)
local macro_rules|`($a∪$b∪$c∪$d)=>let i:=Lean.mkIdent;`($(i `Ć) $(i `P) $(i `w) $(i `K) $(i `mg) $(i `gy) $a $b $c $d)
local macro_rules|`(~~~$x)=>`((($x :Nat):Int))
local macro_rules|`(())=>`(by lia)
local macro_rules|`(∅)=>`(by decide)
local macro_rules|`(⋯)=>`(by decide +kernel)
local macro_rules|`(⇑$x)=>`(($x).length)
local macro_rules|`(↥$x)=>`(($x).heap.objs.size)
local macro_rules|`(tactic|let $p:term:=$e)=>do
 let rec go(n:Nat)(p:Lean.Syntax):Lean.MacroM (Lean.TSyntax `rcasesPat):=match n with
  |0=>Lean.Macro.throwUnsupported
  |n+1=>match p with
   |`(⟨$xs,*⟩)=>do
    let ys<-xs.getElems.mapM λx=>do let y<-go n x;`(Lean.Parser.Tactic.rcasesPatLo|$y:rcasesPat)
    `(rcasesPat|⟨$ys,*⟩)
   |`(_)=>`(rcasesPat|_)
   |`($x:ident)=>`(rcasesPat|$x:ident)
   |_=>Lean.Macro.throwUnsupported
 let q<-go 50 p
 `(tactic|obtain $q:rcasesPat:=$e)
abbrev fE:=List PySem.PyData->(PySem.PyData->Prop)->Prop
abbrev fF:=List (PySem.Addr×PySem.Obj)
abbrev fI:=List (List Int)
abbrev fM:=List Int
abbrev fN:=List (Int×Int)
abbrev fR:=List Nat
abbrev fS:=Array PySem.Value
abbrev fT:=List PySem.Value
abbrev gc:=Option PySem.Addr
abbrev gf:=Option PySem.Value
abbrev gg:=List PySem.PyData
def gz:=@decide_eq_true
abbrev ZS:=PySem.Str
abbrev aa:ZS:="_law_pen_here"
abbrev ac:ZS:="_law_web_here"
abbrev ag:ZS:="falls"
abbrev ah:ZS:="_law_falls"
abbrev ai:ZS:="_law_n"
abbrev al:ZS:="one"
abbrev am:ZS:="some"
abbrev ap:ZS:="thing"
abbrev ar:ZS:="_law_many"
abbrev aw:ZS:="_law_some"
abbrev ax:ZS:="_law_ties_here"
abbrev az:ZS:="side"
abbrev aH:ZS:="_law_pairs"
abbrev aI:ZS:="_law_lists"
abbrev aN:ZS:="spares"
abbrev aS:ZS:="_law_whatever_right"
abbrev aT:ZS:="_law_script"
abbrev ba:ZS:="best_paper"
abbrev bb:ZS:="ties_that_leave"
abbrev bc:ZS:="heaviest_family"
abbrev bd:ZS:="_law_draw"
abbrev be:ZS:="_law_a"
abbrev bg:ZS:="out"
abbrev bh:ZS:="steps_of_one_way"
abbrev bi:ZS:="firsts_and_lasts"
abbrev bj:ZS:="_law_least_right"
abbrev bn:ZS:="is_proper_set"
abbrev bo:ZS:="_law_place"
abbrev br:ZS:="_law_k"
abbrev bt:ZS:="_law_by_classes"
abbrev bu:ZS:="count"
abbrev bN:ZS:="weights"
abbrev bP:ZS:="heaviest_apart"
abbrev bS:ZS:="in"
abbrev bX:ZS:="most"
abbrev ca:ZS:="_law_b"
abbrev cb:ZS:="best_by"
abbrev cc:ZS:="web"
abbrev ce:ZS:="_law_grouped"
abbrev cf:ZS:="check_family"
abbrev cg:ZS:="one_bound"
abbrev ci:ZS:="so_many_ends"
abbrev ck:ZS:="number"
abbrev cm:ZS:="family"
abbrev cn:ZS:="proper_sets"
abbrev cq:ZS:="with_spares"
abbrev cr:ZS:="fewest_ends"
abbrev cw:ZS:="can_be_tied"
abbrev cy:ZS:="one_lets_by"
abbrev cz:ZS:="_law_stands"
abbrev cE:ZS:="_law_family"
abbrev cK:ZS:="limit"
abbrev da:ZS:="rows"
abbrev db:ZS:="_law_pair"
abbrev de:ZS:="_law_told"
abbrev df:ZS:="_law_found"
abbrev dl:ZS:="_law_order"
abbrev dm:ZS:="sets_below"
abbrev dn:ZS:="one_stands"
abbrev dq:ZS:="_law_other"
abbrev dt:ZS:="_law_right"
abbrev du:ZS:="is_below"
abbrev dy:ZS:="one_need"
abbrev dA:ZS:="taken"
abbrev dC:ZS:="is_rising"
abbrev dL:ZS:="check_set"
abbrev dP:ZS:="is_family"
abbrev dQ:ZS:="_law_ties"
abbrev dS:ZS:="_law_most"
abbrev dV:ZS:="best_with"
abbrev d4:ZS:="tie_tails"
abbrev d5:ZS:="_law_into"
abbrev d6:ZS:="_law_side"
abbrev ee:ZS:="_law_need"
abbrev ef:ZS:="with_ties"
abbrev eg:ZS:="are_leads"
abbrev eh:ZS:="_law_sets"
abbrev ei:ZS:="place"
abbrev el:ZS:="added"
abbrev em:ZS:="steps"
abbrev et:ZS:="_law_added"
abbrev eA:ZS:="ties_by"
abbrev eB:ZS:="is_whole"
abbrev eC:ZS:="places"
abbrev eD:ZS:="tie"
abbrev eI:ZS:="_law_web"
abbrev eJ:ZS:="_law_pen"
abbrev eK:ZS:="one_puts"
abbrev eL:ZS:="homes_of"
abbrev eM:ZS:="tails"
abbrev eP:ZS:="heads"
abbrev eQ:ZS:="is_side"
abbrev eR:ZS:="classes"
abbrev eS:ZS:="ends"
abbrev eW:ZS:="paper"
abbrev e7:ZS:="n"
abbrev e8:ZS:="leaves"
abbrev fb:ZS:="sets"
abbrev fc:ZS:="is_tie"
abbrev fe:ZS:="search"
abbrev ff:ZS:="weigh"
abbrev fg:ZS:="spare"
def fi:=@decide_eq_false
def fk:=@of_decide_eq_true
def fm:=@decide_eq_true_eq
def fo:=@if_pos
def fq:=@if_neg
def ft:=@absurd
def fv:=@congrArg
def fw:=@beq_self_eq_true
def fy:=@beq_iff_eq
def fz:=@eq_of_beq
abbrev fA:=PySem.Value->PySem.Shared->Prop
open PySem PyProof.Rows
namespace Nf
open PySem.W
def sW(b:String->Option Builtin)(p:Zg)(w:Zl)(m:Nat)(a:gf):Nat->Zp->Thread->Option Zp
 |0,_,_=>none
 |n+1,s,t=>match through t with
  |true=>some s
  |false=>match stepOk m a t with
   |false=>none
   |true=>match stepT (denote b) p w s t with
    |none=>none
    |some r=>sW b p w m a n r.1 r.2
theorem wV{c:String->Option Builtin}{p:Zg}{w:Zl}{m:Nat}{a:gf}:∀{n:Nat}{s b:Zp}{t:Thread},sW c p w m a n s t=some b->topRun c p w m a n s.abs t=some b.abs
 |0,_,_,_,h=>by cases h
 |n+1,s,b,t,h=>by
  unfold sW at h;unfold topRun;cases he:through t with
  |true=>rw[he]at h;cases h;rfl
  |false =>
   rw[he]at h;cases hk:stepOk m a t with
   |false=>rw[hk]at h;cases h
   |true =>
    rw[hk]at h;cases hs:stepT (denote c) p w s t with
    |none=>rw[hs]at h;cases h
    |some r=>let⟨d,t2⟩:=r;rw[hs]at h;rw[stepT_spec hs];exact wV h
def vP(P:Zs):List ZA:=match(ZB P).data with|.dict es _=>es.toList|_=>[]
def jF(P:Zs)(i:Nat):List ZA:=((vP P).drop i).take 16
def b0(P:Zs):List ZA:=by
 refine(?f:(l:List ZA)->l=jF P 0->List ZA) ?l ?h
 case f=>exact λl _=>l
 case h=>unfold jF vP ZB;dsimp only[List.drop,List.take];exact rfl
def b1(P:Zs):List ZA:=by
 refine(?f:(l:List ZA)->l=jF P 16->List ZA) ?l ?h
 case f=>exact λl _=>l
 case h=>unfold jF vP ZB;dsimp only[List.drop,List.take];exact rfl
def b2(P:Zs):List ZA:=by
 refine(?f:(l:List ZA)->l=jF P 32->List ZA) ?l ?h
 case f=>exact λl _=>l
 case h=>unfold jF vP ZB;dsimp only[List.drop,List.take];exact rfl
def b3(P:Zs):List ZA:=by
 refine(?f:(l:List ZA)->l=jF P 48->List ZA) ?l ?h
 case f=>exact λl _=>l
 case h=>unfold jF vP ZB;dsimp only[List.drop,List.take];exact rfl
def b4(P:Zs):List ZA:=by
 refine(?f:(l:List ZA)->l=jF P 64->List ZA) ?l ?h
 case f=>exact λl _=>l
 case h=>unfold jF vP ZB;dsimp only[List.drop,List.take];exact rfl
def b5(P:Zs):List ZA:=by
 refine(?f:(l:List ZA)->l=jF P 80->List ZA) ?l ?h
 case f=>exact λl _=>l
 case h=>unfold jF vP ZB;dsimp only[List.drop,List.take];exact rfl
def b6(P:Zs):List ZA:=by
 refine(?f:(l:List ZA)->l=jF P 96->List ZA) ?l ?h
 case f=>exact λl _=>l
 case h=>unfold jF vP ZB;dsimp only[List.drop,List.take];exact rfl
def b7(P:Zs):List ZA:=by
 refine(?f:(l:List ZA)->l=jF P 112->List ZA) ?l ?h
 case f=>exact λl _=>l
 case h=>unfold jF vP ZB;dsimp only[List.drop,List.take];exact rfl
def b8(P:Zs):List ZA:=by
 refine(?f:(l:List ZA)->l=jF P 128->List ZA) ?l ?h
 case f=>exact λl _=>l
 case h=>unfold jF vP ZB;dsimp only[List.drop,List.take];exact rfl
def b9(P:Zs):List ZA:=by
 refine(?f:(l:List ZA)->l=jF P 144->List ZA) ?l ?h
 case f=>exact λl _=>l
 case h=>unfold jF vP ZB;dsimp only[List.drop,List.take];exact rfl
def bo0(P:Zs):Obj:={ cls:=.type "dict",data:=.dict ⟨b0 P++(b1 P++(b2 P++(b3 P++(b4 P++(b5 P++(b6 P++(b7 P++(b8 P++(b9 P)))))))))⟩ 159 }
def Xw:ZB=bo0:=by funext P;kernel_rfl
def Qv(P:Zs):Heap:={ objs:=⟨[bo0 P,boot_o_1 P,boot_o_2 P,boot_o_3 P,boot_o_4 P,boot_o_5 P,boot_o_6 P,boot_o_7 P,boot_o_8 P,boot_o_9 P,boot_o_10 P]⟩}
def Er:Ų=Qv:=by
 funext P;show Heap.mk ⟨ZB P::_⟩ _=_;rw[Xw];rfl
def Ep(P:Zs):BT:=((((((((((BT.nil.ins 0 (bo0 P)).ins 1 (boot_o_1 P)).ins 2 (boot_o_2 P)).ins 3 (boot_o_3 P)).ins 4 (boot_o_4 P)).ins 5 (boot_o_5 P)).ins 6 (boot_o_6 P)).ins 7 (boot_o_7 P)).ins 8 (boot_o_8 P)).ins 9 (boot_o_9 P)).ins 10 (boot_o_10 P)
def Us:Life:={}
def Kw(P:Zs):absHeap (Ep P) 11 Us=Ų P:=by rw[Er];kernel_rfl
def Fg(w:Zl)(a:ZE):Zp:=⟨Ep w.params,11,Us,#[],ZH,ZI,a⟩
def Jp(w:Zl)(a:ZE):(Fg w a).abs=⟨Ų w.params,#[],ZH,ZI,a⟩:=by
 unfold Fg SharedT.abs;dsimp only;rw[Kw]
def Hq(P:Zs):=((Ų P).isNs mainGlobals,(Ų P).objs.size,(Ų P).nsMap mainGlobals "__annotations__")
def Fj:Hq=Hq:=rfl
end Nf
name_quick sizeQ for Nf.Hq by Nf.Fj
namespace Nf
open PySem.W
def Ky(w:Zl):((Ų w.params).isNs mainGlobals,(Ų w.params).objs.size,(Ų w.params).nsMap mainGlobals "__annotations__")=(true,11,some (.ref 6)):=by
 show Hq w.params=_;rw[W.Fast.sizeQ_eq]
 kernel_rfl
def Jt(p:Zg)(N:Nat)(w:Zl)(a:ZE):=sW ZN p w 11 (some (.ref 6)) N (Fg w a) (topStub p)
def Ln(p q:Zg)(Xt:Shared->Bool)(w:Zl)(s:Shared) :=
 (staticsOk (ZO p.main.body) (Qv w.params) s.heap&&namesBound p s.heap&&gensDone s&&laidKept (Qv w.params) s.heap,openSeen q [] (ZO p.main.body) Xt true s)
def Ss{p q:Zg}{Xt:Shared->Bool}{β:Type}{Yf:Shared->List β}{Ya:Zl->List β}{N:Nat}(k:Nat)(c:∀w:Zl,(fencedOpening ZN p w N).map (λs=>(s.heap,s.gens,s.drawn,s.toks))=some (Ų w.params,Array.mk [],ZH,ZI))(g:∀(w:Zl)(a:ZE),(Jt p N w a).map (λs=>Ln p q Xt w s.abs)=some (true,openGood q []))(b:∀(w:Zl)(a:ZE),(Jt p N w a).map (λs=>(Yf s.abs).take k)=some ((Ya w).take k))(f:∀(w:Zl)(a:ZE),(Jt p N w a).map (λs=>(Yf s.abs).drop k)=some ((Ya w).drop k)):LeftO p q [] Xt Yf Ya N:=λw=>by
 let⟨⟨h,m,d,j,a⟩,e,i⟩:=Option.map_eq_some_iff.mp (c w);obtain⟨rfl,rfl,rfl,rfl⟩:h=Ų w.params/\m=#[]/\d=ZH/\j=ZI:=↑i
 obtain⟨y,z,A⟩:_/\_/\_:=by simpa only[Prod.mk.injEq]using Ky w
 let⟨s,hs,l⟩:=Option.map_eq_some_iff.mp (g w a);have v:(Yf s.abs).take k=(Ya w).take k:=by
  have:=b w a;rw[hs]at this;exact ß this
 have x:(Yf s.abs).drop k=(Ya w).drop k:=by
  have:=f w a;rw[hs]at this;exact ß this
 have u:Yf s.abs=Ya w:=by rw[←List.take_append_drop k (Yf s.abs),v,x,List.take_append_drop]
 unfold Ln at l;rw[←Er]at l;let⟨n,o⟩:=Prod.mk.inj l;have r:=wV hs;rw[Jp]at r;have t:topFrom ZN p w N ⟨Ų w.params,#[],ZH,ZI,a⟩=some s.abs:=by
  unfold topFrom;dsimp only;rw[y,z,A,r];show(match staticsOk (ZO p.main.body) (Ų w.params) s.abs.heap&&namesBound p s.abs.heap&&gensDone s.abs&&laidKept (Ų w.params) s.abs.heap with|true=>_|false=>_)=_;rw[n]
 unfold openEnds;rw[e];show(topFrom ZN p w N _).map _=_;rw[t];exact fv some (Prod.ext o u)
def xO:fR:=[1,2,4,5,6,7,9,10,11,13,14,15,16,17,18,19,21,22,23,24,25,27,28,29,30,31,33,34,35,36,38,39,40,41,42,44,46,47,49,51,52,53,55,56,57,58,59,60,61,62,63,64,65,66,67,68,69,70,71,72,73]
def Dk(p:Zg)(w:Zl)(a:ZE):=(Jt p 4542 w a).map (λs=>Ln p (view p xO) (λs=>xlAt (view p xO) [] s&&recOk [] s) w s.abs)
def goodW(p:Zg):=some (true,openGood (view p xO) [])
def frF(a:Frag)(k:Nat):=some ((a.map λp=>some p.2).take k)
def frB(a:Frag)(k:Nat):=some ((a.map λp=>some p.2).drop k)
def vN(p:Zg)(w:Zl)(a:ZE)(as:List Addr)(k:Nat):=(Jt p 4542 w a).map (λs=>(as.map s.abs.heap.get?).take k)
def Es(p:Zg)(w:Zl)(a:ZE)(as:List Addr)(k:Nat):=(Jt p 4542 w a).map (λs=>(as.map s.abs.heap.get?).drop k)
def Gi:Dk=Dk:=rfl
def Gq:goodW=goodW:=rfl
def DP:vN=vN:=rfl
def G4:Es=Es:=rfl
end Nf
lay_quick Nf.Dk Nf.goodW Nf.vN Nf.Es
name_quick lookQ for Nf.Dk by Nf.Gi
name_quick goodQ for Nf.goodW by Nf.Gq
name_quick frontQ for Nf.vN by Nf.DP
name_quick backQ for Nf.Es by Nf.G4
set_option maxHeartbeats 0 in
def Nf.R6(w:PySem.World)(a:PySem.OsState):Nf.Dk ü w a=Nf.goodW ü:=by
 rw[PySem.W.Fast.lookQ_eq,PySem.W.Fast.goodQ_eq]
 kernel_rfl
def Nf.well:PySem.Challenge.rw_nofall_k54_whole_no_fewer_ties.wellSaid=true:=by kernel_rfl
namespace L2
open PySem.Spec
def zK{n:Nat}(h:Nat.ble n 1000=true:=by rfl):n<=1000:=Nat.le_of_ble_eq_true h
abbrev Key:=Sum Int Str
def xM:Key->Value->Bool
 |.inl k,v=>Value.isInt k v
 |.inr x,v=>Value.isStrOf x v
def aaU(w:Zl):Key->Int
 |.inl k=>hashInt k
 |.inr x=>hashStr w x
theorem bR:∀{k:Key}{v:Value},xM k v=true->(∃i t,k=ć i/\v=Ń i t)\/(∃x t,k=Sum.inr x/\v=Value.str x t)
 |.inl i,v,h=>by
  let⟨t,e⟩:=Value.isInt_shape (k:=i) (v:=v) h;exact .inl ⟨i,t,rfl,e⟩
 |.inr x,v,h=>by
  let⟨t,e⟩:=Value.isStrOf_shape (x:=x) (v:=v) h;exact .inr ⟨x,t,rfl,e⟩
def J2(i:Int)(t:Tok):xM (.inl i) (.int i t)=true:=by simp[xM,Value.isInt]
def J1(x:Str)(t:Tok):xM (.inr x) (.str x t)=true:=by simp[xM,Value.isStrOf]
def WW(a b:Int):decide ((ć a:Key)=ć b)=(a==b):=by
 by_cases e:a=b
 ·subst e;simp
 ·have h:¬(ć a:Key)=ć b:=λq=>e (Sum.inl.inj q);rw[fi h];exact(beq_eq_false_iff_ne.mpr e).symm
def WM(a b:Str):decide ((Sum.inr a:Key)=Sum.inr b)=decide (a=b):=by
 by_cases e:a=b
 ·subst e;simp
 ·have h:¬(Sum.inr a:Key)=Sum.inr b:=λq=>e (Sum.inr.inj q);rw[fi h,fi e]
def WT(a:Int)(b:Str):decide ((ć a:Key)=Sum.inr b)=false:=fi (λq=>nomatch q)
def WQ(a:Str)(b:Int):decide ((Sum.inr a:Key)=ć b)=false:=fi (λq=>nomatch q)
def cj(prog:Zg)(w:Zl):PySem.KeyKind prog w Key where
 is:=xM
 hash:=aaU w
 inj:=λv a b ha hb=>by
  rcases bR ha with⟨i,t,rfl,rfl⟩|⟨x,t,rfl,rfl⟩
  ·rcases bR hb with⟨j,u,rfl,e⟩|⟨y,u,rfl,e⟩
   ·injection e with e1 _;rw[e1]
   ·exact nomatch e
  ·rcases bR hb with⟨j,u,rfl,e⟩|⟨y,u,rfl,e⟩
   ·exact nomatch e
   ·injection e with e1 _;rw[e1]
 byValue:=λk v h=>by
  rcases bR h with⟨i,t,rfl,rfl⟩|⟨x,t,rfl,rfl⟩ <;> rfl
 pyHash:=λhv h=>by
  rcases bR hv with⟨i,t,rfl,rfl⟩|⟨x,t,rfl,rfl⟩
  ·exact wpAny_pyHash_int h
  ·exact wpAny_pyHash_str h
 eqBool:=λhu hv h=>by
  rcases bR hu with⟨i,t,rfl,rfl⟩|⟨x,t,rfl,rfl⟩
  ·rcases bR hv with⟨j,u,rfl,rfl⟩|⟨y,u,rfl,rfl⟩
   ·rw[WW]at h;exact ZT h
   ·rw[WT]at h;exact SeqAt.EqAt.int_str i t y u _ _ _ _ h
  ·rcases bR hv with⟨j,u,rfl,rfl⟩|⟨y,u,rfl,rfl⟩
   ·rw[WQ]at h;exact SeqAt.EqAt.str_int x t j u _ _ _ _ h
   ·rw[WM]at h;exact wpAny_eqBool_str h
 «strs»:=λk x t v h=>by
  rcases bR h with⟨i,u,rfl,e⟩|⟨y,u,rfl,e⟩
  ·exact nomatch e
  ·injection e with e1 _;subst e1;cases v <;> rfl
def Dg(prog:Zg)(w:Zl)(i:Int)(t:Tok):(cj prog w).is (.inl i) (.int i t)=true:=J2 i t
def Df(prog:Zg)(w:Zl)(x:Str)(t:Tok):(cj prog w).is (.inr x) (.str x t)=true:=J1 x t
inductive V where
 |non|bl (b:Bool)|int (i:Int)|str (x:Str)|byt (b:Array UInt8)|flt (b:UInt64)|ref (a:Addr)|ty (n:String)
 deriving DecidableEq
def RelV:V->Value->Prop
 |.non,u=>u=Ĕ
 |.bl b,u=>u=Value.bool b
 |.int i,u=>∃t,u=Ń i t
 |.str x,u=>∃t,u=Value.str x t
 |.byt b,u=>∃t,u=Value.bytes b t
 |.flt b,u=>∃t,u=Value.float b t
 |.ref a,u=>u=ģ a
 |.ty n,u=>u=Đ n
abbrev Vals:List V->fT->Prop:=Paired RelV
def Vals.length{xs:List V}{a:fT}(r:Vals xs a):⇑xs=⇑a:=Paired.length r
theorem Vals.get:∀{xs:List V}{a:fT}{i:Nat}{x:V},Vals xs a->xs[i]?=some x->∃u,a[i]?=some u/\RelV x u
 |_,_,_,_,.nil,e=>by simp at e
 |_,_,0,_,.cons r _,e=>by simp at e;subst e;exact⟨_,rfl,r⟩
 |_,_,i+1,x,.cons _ t,e=>by
  let⟨u,h1,h2⟩:=Vals.get (i:=i) (x:=x) t ↑e;exact⟨u,↑h1,h2⟩
theorem Vals.set{x:V}{u:Value}(r:RelV x u):∀{xs:List V}{a:fT} (i:Nat),Vals xs a->Vals (xs.set i x) (a.set i u)
 |_,_,_,.nil=>.nil
 |_,_,0,.cons _ t=>.cons r t
 |_,_,i+1,.cons q t=>.cons q (Vals.set r i t)
theorem Vals.append:∀{xs ys:List V}{a ws:fT},Vals xs a->Vals ys ws->Vals (xs++ys) (a++ws)
 |_,_,_,_,.nil,s=>s
 |_,_,_,_,.cons r t,s=>.cons r (Vals.append t s)
theorem Vals.take:∀{xs:List V}{a:fT} (n:Nat),Vals xs a->Vals (xs.take n) (a.take n)
 |_,_,0,_=>.nil
 |_,_,_+1,.nil=>.nil
 |_,_,n+1,.cons r t=>.cons r (Vals.take n t)
theorem Vals.drop:∀{xs:List V}{a:fT} (n:Nat),Vals xs a->Vals (xs.drop n) (a.drop n)
 |_,_,0,r=>r
 |_,_,_+1,.nil=>.nil
 |_,_,n+1,.cons _ t=>Vals.drop n t
def wz:Option V->gf->Prop
 |some v,some u=>RelV v u
 |none,none=>True
 |_,_=>False
def KV{κ:Type}:List (κ×V)->List (κ×Value)->Prop:=Paired λ(p:κ×V) (q:κ×Value)=>p.1=q.1/\RelV p.2 q.2
def kV:Key->V
 |.inl i=>.int i
 |.inr x=>.str x
inductive HO where
 |lst (xs:List V)
 |tup (xs:List V)
 |dK (kvs:List (Key×V))|dT (kvs:List (List Key×V))
 |set (S:Int->Bool) (n:Nat)
 |ins (C dx:Addr) (fs:List (Str×V))
 |own (x:Addr)
 |xd (fs:List (Str×V))
 |met (f x:Addr)
 |rng (lo hi:Int)
 |frz (o:Obj) (u:HO)
 |tbl (ps:fS)
 |ext (φ:Heap->Prop)
abbrev Hp:=Addr->Option HO
def upd(H:Hp)(a:Addr)(o:HO):Hp:=λb=>if b=a then some o else H b
def aq{H:Hp}{a:Addr}{o:HO}:upd H a o a=some o:=by unfold upd;rw[fo rfl]
def ao{H:Hp}{a b:Addr}{o:HO}(h:b≠a):upd H a o b=H b:=by unfold upd;rw[fq h]
def Za{H:Hp}{a b:Addr}{o u:HO}(h:H a=some o)(h':H b=some u)(d:o≠u):a≠b:=by
 intro e;subst e;rw[h]at h';exact d (ß h')
def aA{H:Hp}{a b:Addr}{o:HO}(h:H a=some o)(h':H b=none):a≠b:=by
 intro e;subst e;rw[h]at h';cases h'
section
variable(P:Zg) (w:Zl)
def bA(H:Hp)(h:Heap)(a:Addr):HO->Prop
 |.lst xs=>⇑xs<=sizeLine/\∃(its:fT)(n:Nat),Vals xs its/\h.get? a=some { cls:=.type "list",data:=.seq its.toArray n }
 |.tup xs=>⇑xs<=sizeLine/\∃its:fT,Vals xs its/\IsTup h a its.toArray
 |.dK b=>⇑b<=sizeLine/\(a==ZU)=false/\∃vs,KV b vs/\h.DictOf (cj P w) a vs
 |.dT b=>⇑b<=sizeLine/\(a==ZU)=false/\∃xs:List (List Key×Addr×Value),
   Paired (λ(p:List Key×V) (q:List Key×Addr×Value)=>p.1=q.1/\H q.2.1=some (.tup (p.1.map kV))/\RelV p.2 q.2.2) b xs /\
   ∃o es ep,h.get? a=some o/\o.ExactDict/\o.data=.dict es ep/\es.toList=xs.map (entryOfKey (ZY (cj P w)))/\(xs.map (·.1)).Nodup
 |.set S n=>h.SetOf (intKind P w) a S n
 |.ins C d c=>H d=some (.own a)/\⇑c<=1000/\d≠a/\h.get? a=some (W.instObj C d) /\
   ∃mA,h.Ns1 d mA/\(∀f,wz (c.lookup f) (mA f))/\PySem.Within mA (c.map (·.1))
 |.own _=>∃o,h.get? a=some o
 |.xd c=>∃mA,h.Ns1 a mA/\∀f,wz (c.lookup f) (mA f)
 |.rng lo hi=>∃t u v,h.get? a=some { cls:=.type "range",data:=.fields #[.int lo t,.int hi u,.int 1 v]}
 |.frz o u=>h.get? a=some o/\bA H h a u
 |.tbl ps=>h.get? a=some { cls:=.none,data:=.fields ps }
 |.met f x=>h.get? a=some (W.methodObj (.ref f) (.ref x))
 |.ext φ=>φ h/\(∃o,h.get? a=some o)/\∀h1 h2:Heap,φ h1->(∀o,h1.get? a=some o->h2.get? a=some o)->φ h2
def HOk(H:Hp)(h:Heap):Prop:=∀a o,H a=some o->bA P w H h a o
end
section
variable{P:Zg}{w:Zl}{H H':Hp}{h h':Heap}{a:Addr}{o:HO}
def bA.lt(x:bA P w H h a o):a<h.objs.size:=by
 cases o with
 |lst xs=>let⟨_,_,_,_,e⟩:=x;exact Ó e
 |tup xs=>let⟨_,_,_,p⟩:=x;exact p.lt
 |dK b=>let⟨_,_,_,_,o,_,_,e,_⟩:=x;exact Ó e
 |dT b=>let⟨_,_,_,_,o,_,_,e,_⟩:=x;exact Ó e
 |set S n=>let⟨o,_,_,_,e,_⟩:=x;exact Ó e
 |ins C d c=>let⟨_,_,_,e,_⟩:=x;exact Ó e
 |own y=>let⟨_,e⟩:=x;exact Ó e
 |xd c=>let⟨_,⟨_,_,_,e,_⟩,_⟩:=x;exact Ó e
 |rng lo hi=>let⟨_,_,_,e⟩:=x;exact Ó e
 |frz g u=>let⟨e,_⟩:=x;exact Ó e
 |tbl ps=>exact Ó (show h.get? a=some _ from x)
 |met f y=>exact Ó (show h.get? a=some _ from x)
 |ext φ=>let⟨_,⟨_,e⟩,_⟩:=x;exact Ó e
theorem Paired.Gh{α β:Type}{F G:α->β->Prop}:∀{l₁:List α}{l₂:List β},Paired F l₁ l₂->(∀a b,F a b->G a b)->Paired G l₁ l₂
 |_,_,.nil,_=>.nil
 |_,_,.cons r t,f=>.cons (f _ _ r) (Paired.Gh t f)
def bA.stay(x:bA P w H h a o)(k:∀b u,(b=a\/H b=some (.own a))->h.get? b=some u->h'.get? b=some u)(B:∀b,H b=some (.own a)->H' b=some (.own a))(ht:∀b xs,H b=some (.tup xs)->H' b=some (.tup xs)):bA P w H' h' a o:=by
 induction o with
 |lst xs=>let⟨z,its,n,r,e⟩:=x;exact⟨z,its,n,r,k _ _ (.inl rfl) e⟩
 |tup xs=>let⟨z,its,r,g,e,c⟩:=x;exact⟨z,its,r,g,k _ _ (.inl rfl) e,c⟩
 |dK j=>let⟨z,y,vs,r,g,es,i,e,c⟩:=x;exact⟨z,y,vs,r,g,es,i,k _ _ (.inl rfl) e,c⟩
 |dT j =>
  let⟨z,y,xs,r,g,es,i,e,c⟩:=x;exact⟨z,y,xs,Paired.Gh r λp q z=>⟨z.1,ht _ _ z.2.1,z.2.2⟩,g,es,i,k _ _ (.inl rfl) e,c⟩
 |set S n=>let⟨g,es,i,t,e,c⟩:=x;exact⟨g,es,i,t,k _ _ (.inl rfl) e,c⟩
 |ins C dx A =>
  let⟨d,z,E,e,l,⟨m,es,i,s,c⟩,r⟩:=x;exact⟨B _ d,z,E,k _ _ (.inl rfl) e,l,⟨m,es,i,k _ _ (.inr d) s,c⟩,r⟩
 |own y=>let⟨g,e⟩:=x;exact⟨g,k _ _ (.inl rfl) e⟩
 |xd A=>let⟨l,⟨m,es,i,e,c⟩,r⟩:=x;exact⟨l,⟨m,es,i,k _ _ (.inl rfl) e,c⟩,r⟩
 |rng lo hi=>let⟨t,u,v,e⟩:=x;exact⟨t,u,v,k _ _ (.inl rfl) e⟩
 |frz g u D=>let⟨e,q⟩:=x;exact⟨k _ _ (.inl rfl) e,D q⟩
 |tbl ps =>
  have e:h.get? a=some { cls:=.none,data:=.fields ps }:=x;show h'.get? a=some { cls:=.none,data:=.fields ps };exact k a _ (.inl rfl) e
 |met f y =>
  have e:h.get? a=some (W.methodObj (.ref f) (.ref y)):=x;show h'.get? a=some (W.methodObj (.ref f) (.ref y));exact k a _ (.inl rfl) e
 |ext φ=>let⟨p,⟨o,e⟩,st⟩:=x;exact⟨st _ _ p λo q=>k _ _ (.inl rfl) q,⟨o,k _ _ (.inl rfl) e⟩,st⟩
def HOk.lt(x:HOk P w H h)(e:H a=some o):a<h.objs.size:=(x a o e).lt
def HOk.fresh(x:HOk P w H h)(e:h.objs.size<=a):H a=none:=by
 cases q:H a with
 |none=>rfl
 |some u=>exact ft (ì (x.lt q) e) (Ę _)
def HOk.kept(x:HOk P w H h)(k:∀b u,h.get? b=some u->h'.get? b=some u):HOk P w H h':=λa o e =>
 (x a o e).stay (λb u _ q=>k b u q) (λ_ q=>q) λ_ _ q=>q
def HOk.laid(x:HOk P w H h)(k:∀b u,h.get? b=some u->h'.get? b=some u)(hp:h.objs.size<=a)(new:bA P w (upd H a o) h' a o):HOk P w (upd H a o) h':=λb u e=>by
 have hn:=x.fresh hp;by_cases hb:b=a
 ·subst hb;rw[aq]at e;cases e;exact new
 ·rw[ao hb]at e;exact(x b u e).stay (λc v _ q=>k c v q) (λc q=>by rw[ao (aA q hn)];exact q) λc xs q=>by rw[ao (aA q hn)];exact q
end
def Rd(H:Hp)(a:Addr)(u:HO):Prop:=H a=some u\/∃o,H a=some (.frz o u)
def Rd.ok{P:Zg}{w:Zl}{H:Hp}{h:Heap}{a:Addr}{u:HO}(r:Rd H a u)(x:HOk P w H h):bA P w H h a u:=by
 rcases r with r|⟨o,r⟩
 ·exact x a u r
 ·let⟨_,q⟩:=x a _ r;exact q
def Mut:Option HO->Prop
 |some (.lst _)=>True
 |some (.dK _)=>True
 |some (.dT _)=>True
 |some (.set _ _)=>True
 |some (.ins _ _ _)=>True
 |some (.ext _)=>True
 |_=>False
section
variable{P:Zg}{w:Zl}{H:Hp}{h h':Heap}{x e:Addr}{o':HO}
def HOk.write(ok:HOk P w H h)(g:Mut (H x))(he:e=x\/H e=some (.own x))(k:∀b u,b≠e->h.get? b=some u->h'.get? b=some u)(i:∃u,h'.get? e=some u)(new:bA P w (upd H x o') h' x o'):HOk P w (upd H x o') h':=λb u q=>by
 have d:∀c y,H c=some (.own y)->c≠x:=λc y r z=>by subst z;rw[r]at g;exact g
 have f:∀c xs,H c=some (.tup xs)->c≠x:=λc xs r z=>by subst z;rw[r]at g;exact g
 by_cases hb:b=x
 ·subst hb;rw[aq]at q;cases q;exact new
 ·rw[ao hb]at q;by_cases a:b=e
  ·have j:H b=some (.own x):=by
    rcases he with z|z
    ·exact ft (a.trans z) hb
    ·rw[a];exact z
   rw[q]at j;cases j;let⟨v,hv⟩:=i;exact⟨v,by rw[a];exact hv⟩
  ·refine(ok b u q).stay (λc v hc r=>k c v ?_ r) (λc r=>by rw[ao (d c b r)];exact r) λc xs r=>by rw[ao (f c xs r)];exact r
   rcases hc with rfl|hc
   ·exact a
   ·rintro rfl;rcases he with z|z
    ·exact d c b hc z
    ·rw[hc]at z;cases z;exact hb rfl
end
structure Un(fs ex:List Addr)(H H':Hp)(h h':Heap):Prop where
 keep:∀b o,h.get? b=some o->H b=none->b∉fs->b∉ex->h'.get? b=some o
 slot:∀b o,h.get? b=some o->H b=none->b∈fs->b∉ex->∃sl,h'.get? b=some { o with slots:=sl }
 free:∀b o,h.get? b=some o->H b=none->b∉ex->H' b=none
 there:∀b o,h.get? b=some o->b∉ex->∃o',h'.get? b=some o'
 tups:∀b xs,H b=some (.tup xs)->H' b=some (.tup xs)
 frzs:∀b o u,H b=some (.frz o u)->H' b=some (.frz o u)
 tbls:∀b ps,H b=some (.tbl ps)->∃more,H' b=some (.tbl (ps++more))
section
variable{fs fs' ex ex':List Addr}{H H1 H2:Hp}{h h1 h2 h':Heap}{a x e:Addr}{o:HO}
def Un.any(u:Un fs ex H H1 h h1){b:Addr}{c:Obj}(q:h.get? b=some c)(n:H b=none)(d:b∉ex):∃sl,h1.get? b=some { c with slots:=sl }:=by
 by_cases hb:b∈fs
 ·exact u.slot b c q n hb d
 ·exact⟨c.slots,u.keep b c q n hb d⟩
def Un.kept(k:∀b u,h.get? b=some u->h'.get? b=some u):Un fs ex H H h h' :=
 ⟨λb ob q _ _ _=>k b ob q,λb ob q _ _ _=>⟨ob.slots,k b ob q⟩,λ_ _ _ n _=>n,λb ob q _=>⟨ob,k b ob q⟩,λ_ _ q=>q,λ_ _ _ q=>q,λ_ ps q=>⟨#[],by rw[q];simp⟩⟩
def Un.refl:Un fs ex H H h h:=Un.kept λ_ _ q=>q
def Un.laid(k:∀b u,h.get? b=some u->h'.get? b=some u)(hp:h.objs.size<=a)(hn:H a=none):Un fs ex H (upd H a o) h h' where
 keep:=λb u q _ _ _=>k b u q
 slot:=λb u q _ _ _=>⟨u.slots,k b u q⟩
 free:=λb u q n _=>by rw[ao (å (ì (Ó q) hp))];exact n
 there:=λb u q _=>⟨u,k b u q⟩
 tups:=λb xs q=>by rw[ao (aA q hn)];exact q
 frzs:=λb u xs q=>by rw[ao (aA q hn)];exact q
 tbls:=λb ps q=>⟨#[],by rw[ao (aA q hn),q];simp⟩
def Un.write(d:Mut (H x))(he:e=x\/H e=some (.own x))(k:∀b u,b≠e->h.get? b=some u->h'.get? b=some u)(f:∃u,h'.get? e=some u):Un fs ex H (upd H x o) h h':=by
 have g:∀b,H b=none->b≠x:=λb n z=>by subst z;rw[n]at d;exact d
 have hb:∀b,H b=none->b≠e:=λb n z=>by
  subst z;rcases he with r|r
  ·exact g b n r
  ·rw[n]at r;cases r
 have hm:∀b u,H b=some u->¬Mut (some u)->b≠x:=λb u q nm z=>by subst z;rw[q]at d;exact nm d
 refine⟨λb u q n _ _=>k b u (hb b n) q,λb u q n _ _=>⟨u.slots,k b u (hb b n) q⟩,λb u q n _=>by rw[ao (g b n)];exact n,λb u q _=>?_,
  λb xs q=>by rw[ao (hm b _ q λz=>z)];exact q,λb u xs q=>by rw[ao (hm b _ q λz=>z)];exact q,λb ps q=>⟨#[],by rw[ao (hm b _ q λz=>z),q];simp⟩⟩
 by_cases c:b=e
 ·subst c;exact f
 ·exact⟨u,k b u c q⟩
end
def trk(h:Heap)(H:Hp):List Addr:=(Ø h.objs.size).filter λa=>(H a).isSome
def Ah(h:Heap)(H:Hp):Heap:=W.hideAll h (trk h H)
def Kc(h:Heap)(H:Hp):(Ah h H).objs.size=h.objs.size:=W.hideAll_size _ _
def vK{h:Heap}{H:Hp}{b:Addr}{o:Obj}(e:h.get? b=some o)(n:H b=none):(Ah h H).get? b=some o :=
 W.hideAll_get _ e λhm=>by
  have q:(H b).isSome=true:=(â.mp hm).2;rw[n]at q;simp at q
def RV{h:Heap}{H:Hp}{b:Addr}{o:Obj}(e:(Ah h H).get? b=some o):h.get? b=some o/\H b=none:=by
 have a:h.get? b=some o:=W.of_hideAll (trk h H) e;refine⟨a,?_⟩;cases q:H b with
 |none=>rfl
 |some x =>
  have hm:b∈trk h H:=â.mpr ⟨ò.mpr (Ó a),by simp[q]⟩;have z:(Ah h H).get? b=none:=W.hideAll_none (trk h H) hm;rw[z]at e;cases e
def Bo(g h:Heap)(L:Addr):fF:=(Ø h.objs.size).filterMap λa=>if a=L\/(g.get? a).isSome=true then none else(h.get? a).map λo=>(a,o)
def u9{g h:Heap}{L:Addr}{p:Addr×Obj}(hp:p∈Bo g h L):p.1≠L/\g.get? p.1=none/\h.get? p.1=some p.2:=by
 let⟨b,_,e⟩:=Ŧ.mp hp;split at e
 ·cases e
 ·rename_i hn;cases q:h.get? b with
  |none=>rw[q]at e;simp at e
  |some u =>
   rw[q]at e;simp only[Option.map_some,Option.some.injEq]at e;subst e;refine⟨λz=>hn (.inl z),?_,q⟩;show g.get? b=none;cases r:g.get? b with
   |none=>rfl
   |some v=>exact(hn (.inr (by simp[r]))).elim
def rest(g h:Heap)(L d:Addr):fF:=(Bo g h L).filter λp=>decide (p.1≠d)
def N8{g h:Heap}{L:Addr}:News g L h (Bo g h L):=λp hp=>let⟨a,b,c⟩:=u9 hp;⟨c,a,b⟩
structure Mod(K:Ý)(mg:Str->gf)(gy:Heap):Prop where
 kin:K.In gy
 glob:gy.Ns mainGlobals mg
 blt:∃mb,gy.Ns ZZ mb/\∀x:Str,x≠"__name__"->mb x=Z3 x
 nolimit:gy.NoLimit
structure Cx where
 prog:Zg
 w:Zl
 K:Ý
 mg:Str->gf
 gy:Heap
 A:Ys
 N:List Str
 s₀:Shared
 H₀:Hp
 env:Env
 outer:List Env
 stack:List Env
 ex:List Addr
 fn:Str->Bool
 calm:Bool
 pn:fF
 xe:fA
 sf:List (Addr×Obj×HO):=[]
variable{X:Cx}
def frs(l:List Env):List Addr:=l.filterMap (·.frame)
abbrev Cx.fs(X:Cx):List Addr:=frs X.outer
def Vis(a:YA)(x:Str):Prop:=a.names.lookup x=some .local\/a.names.lookup x=some .cell\/a.names.lookup x=some .free
def Loc(a:YA)(x:Str):Prop:=a.names.lookup x=some .local\/a.names.lookup x=some .cell
def Look(env:Env)(h:Heap)(m:Str->gf)(x:Str)(u:Value):Prop :=
 (env.kindOf x=some .local/\m x=some u)\/((env.kindOf x=some .cell\/env.kindOf x=some .free)/\∃c,env.cells.lookup x=some c/\h.IsCell c (some u))
abbrev zS(X:Cx)(e:YE)(es:List YE):Prop:=YI (e::es) X.env=(false,YN e X.env)::YI es X.env
abbrev zP(X:Cx)(p:Pos)(es:List YE):Prop:=(YO p (YI es X.env)).any (·.1)=false
abbrev zB(x:Str):Prop:=(x==("__debug__":Str))=false
abbrev zF(X:Cx)(e:YE):Prop:=∀x,YR e X.env x=pure x
abbrev zL(X:Cx)(x:Str):Prop:=X.fn x=true\/X.env.scope.names.lookup x=some .local
abbrev zW(X:Cx)(p:Pos)(es:List YE):Prop:=((YO p (YI es X.env)).all (λx=>!x.1)&&(YU p (YV [] X.env)).all (λx=>x.1.isSome)&&decide (⇑es+⇑([]:List YY)+(if([]:List YY).isEmpty then 0 else 1)<30))=true
def zQ{a:YA}{x:Str}(h:(a.names.lookup x==some .local||a.names.lookup x==some .cell)=true:=by rfl):Loc a x:=(Bool.or_eq_true_iff.mp h).imp (λz=>fz z) λz=>fz z
structure Cx.Ok(X:Cx):Prop where
 mod:Mod X.K X.mg X.gy
 kind:X.env.scope.kind=.function
 glob:X.env.globals=mainGlobals
 blt:X.env.builtins=ZZ
 above:X.s₀.heap.objs.size<=X.env.locals
 inj:∀x y c,X.env.cells.lookup x=some c->X.env.cells.lookup y=some c->x=y
 has:∀x,(X.env.kindOf x=some .cell\/X.env.kindOf x=some .free)->∃c,X.env.cells.lookup x=some c
 cab:∀x c,X.fn x=true->X.env.cells.lookup x=some c->X.s₀.heap.objs.size<=c
 hd:X.calm=true->X.A.handled=none
 frames:X.A.frames=some X.stack
 stk:X.stack=X.outer\/(X.stack=X.env::X.outer/\X.env.frame=some X.env.locals)
 exf:∀b∈X.ex,b≠X.env.locals/\∀x c,X.env.cells.lookup x=some c->c≠b
 bs:∀b o,X.gy.get? b=some o->X.s₀.heap.get? b=some o/\X.H₀ b=none
 bsz:X.gy.objs.size<=X.s₀.heap.objs.size
 noex:∀b o,X.gy.get? b=some o->b∉X.ex
 exfs:∀b∈X.ex,b∉X.fs
 nW:X.s₀.heap.FunFrames X.gy X.outer
 frf:∀b∈X.fs,X.H₀ b=none
 sof:∀q∈X.sf,X.A.handled=some (.ref q.1)/\X.H₀ q.1=some (.frz q.2.1 q.2.2)/\∃ws,q.2.1.data=.fields ws/\ws[2]?=some .none
structure Inv(X:Cx)(pins:fF)(σ:List (Option V))(H:Hp)(s:Shared):Prop where
 ok:X.Ok
 os:s.os=X.s₀.os
 bare:Y1 s.gens
 gy:Un X.fs X.ex X.H₀ H X.s₀.heap s.heap
 loc:∃m,s.heap.Ns X.env.locals m/\∀(i:Nat)(x:Str)(v:V),X.N[i]?=some x->σ[i]?=some (some v)->Vis X.env.scope x->∃u,RelV v u/\Look X.env s.heap m x u
 cell:∀x c,X.env.cells.lookup x=some c->∃v,s.heap.IsCell c v
 free:H X.env.locals=none
 freeC:∀x c,X.env.cells.lookup x=some c->H c=none
 pin:∀p∈X.pn++pins,s.heap.get? p.1=some p.2/\H p.1=none/\p.1≠X.env.locals/\p.1∉X.fs/\∀v,p.2.data≠.cell v
 hok:HOk X.prog X.w H s.heap
 len:⇑σ=⇑X.N
section
variable{pins:fF}{σ:List (Option V)}{H H':Hp}{s:Shared}{h':Heap}
def Cx.Ok.aaM(ok:X.Ok){b:Addr}{o:Obj}(e:X.gy.get? b=some o):b∉X.fs:=λhb=>by
 have:=(ok.nW.mem hb).1;rw[e]at this;cases this
def Inv.bs(I:Inv X pins σ H s):∀b o,X.gy.get? b=some o->s.heap.get? b=some o/\H b=none:=λb o e =>
 ⟨I.gy.keep b o (I.ok.bs b o e).1 (I.ok.bs b o e).2 (I.ok.aaM e) (I.ok.noex b o e),I.gy.free b o (I.ok.bs b o e).1 (I.ok.bs b o e).2 (I.ok.noex b o e)⟩
def Inv.bk(I:Inv X pins σ H s):∀b o,X.gy.get? b=some o->s.heap.get? b=some o:=λb o e=>(I.bs b o e).1
def Inv.mod(I:Inv X pins σ H s):Mod X.K X.mg X.gy:=I.ok.mod
def Inv.kIn(I:Inv X pins σ H s):X.K.In s.heap:=I.ok.mod.kin.keeps I.bk
def Inv.fr(I:Inv X pins σ H s):∃m,Fr X.gy X.env.locals s.heap m :=
 let⟨m,hn,_⟩:=I.loc
 ⟨m,hn,I.bk,ĉ I.ok.bsz I.ok.above⟩
def Inv.lt(I:Inv X pins σ H s):X.env.locals<↥s:=let⟨_,hn,_⟩:=I.loc;hn.lt
def Inv.sz(I:Inv X pins σ H s):X.s₀.heap.objs.size<=↥s:=ĉ I.ok.above (Nat.le_of_lt I.lt)
def Inv.aaL(I:Inv X pins σ H s){a:Addr}(h:↥s<=a):a∉X.fs:=λhb=>by
 let⟨_,o,b,_⟩:=I.ok.nW.mem hb;exact ft (ì (Ó b) (ĉ I.sz h)) (Ę _)
def Inv.cne(I:Inv X pins σ H s):∀x c,X.env.cells.lookup x=some c->c≠X.env.locals:=λx c e z=>by
 let⟨v,o,d,hd⟩:=I.cell x c e;let⟨m,⟨o',es,f,b,a,_⟩,_⟩:=I.loc;rw[z,b]at d;cases d;rw[a]at hd;cases hd
def Inv.nW(I:Inv X pins σ H s):s.heap.FunFrames X.gy X.outer:=by
 have a:∀(l:List Env),(∀b∈frs l,b∈X.fs)->X.s₀.heap.FunFrames X.gy l->s.heap.FunFrames X.gy l:=by
  intro l;induction l with
  |nil=>intro _ _;trivial
  |cons env r ih =>
   intro hs hl;let⟨hk,⟨L,o,d,hn,f,hd⟩,hr⟩:=hl;have c:L∈X.fs:=hs L (by unfold frs;rw[List.filterMap_cons,d];exact Æ);let⟨g,e⟩:=I.gy.slot L o f (I.ok.frf L c) c λz=>I.ok.exfs L z c;exact⟨hk,⟨L,_,d,hn,e,hd⟩,ih (λb hb=>hs b (by unfold frs;rw[List.filterMap_cons,d];exact Ç _ hb)) hr⟩
 exact a X.outer (λ_ hb=>hb) I.ok.nW
def Inv.stack(I:Inv X pins σ H s):s.heap.FunFrames X.gy X.stack:=by
 rcases I.ok.stk with e|⟨e,a⟩
 ·rw[e];exact I.nW
 ·rw[e];let⟨m,hn,_⟩:=I.loc;refine .cons (by rw[I.ok.kind];decide) a hn ?_ I.nW;exact Heap.get?_none_of_le (ĉ I.ok.bsz I.ok.above)
def Inv.uE(I:Inv X pins σ H s):∀b∈frs X.stack,b∈X.env.locals::X.fs:=λb hb=>by
 rcases I.ok.stk with e|⟨e,a⟩
 ·rw[e]at hb;exact Ç _ hb
 ·rw[e]at hb;unfold frs at hb;rw[List.filterMap_cons,a]at hb;exact hb
def Inv.Hj(I:Inv X pins σ H s):∀b∈frs X.stack,H b=none:=λb hb=>by
 rcases Õ.mp (I.uE b hb)with e|hb
 ·rw[e];exact I.free
 ·let⟨_,o,a,_⟩:=I.ok.nW.mem hb;exact I.gy.free b o a (I.ok.frf b hb) λz=>I.ok.exfs b z hb
def Inv.step{g':Array Y2}{t':Nat}{d':Drawn}{ch:List Addr}(I:Inv X pins σ H s)(g:∀b∈ch,(b∈X.ex\/X.s₀.heap.objs.size<=b)/\b≠X.env.locals/\(∀x c,X.env.cells.lookup x=some c->c≠b)/\∀p∈X.pn++pins,p.1≠b)(h:∀b o,b≠X.env.locals->b∉X.fs->b∉ch->s.heap.get? b=some o->H b=none->h'.get? b=some o)(A:∀b o,b≠X.env.locals->b∈X.fs->b∉ch->s.heap.get? b=some o->H b=none->∃sl,h'.get? b=some { o with slots:=sl })(a:∀b o,b∉ch->s.heap.get? b=some o->H b=none->H' b=none)(B:∀b o,b∉ch->s.heap.get? b=some o->∃o',h'.get? b=some o')(J:∀b xs,H b=some (.tup xs)->H' b=some (.tup xs))(E:∀b o u,H b=some (.frz o u)->H' b=some (.frz o u))(G:∀b ps,H b=some (.tbl ps)->∃more,H' b=some (.tbl (ps++more)))(ns:∀m,s.heap.Ns X.env.locals m->h'.Ns X.env.locals m)(K:HOk X.prog X.w H' h')(hg:Y1 g') :
  Inv X pins σ H' { s with heap:=h',gens:=g',drawn:=d',toks:=t' }:=by
 have F:∀b o,X.s₀.heap.get? b=some o->b≠X.env.locals:=λb o e=>å (ì (Ó e) I.ok.above);have y:∀b o,X.s₀.heap.get? b=some o->b∉X.ex->b∉ch:=λb o e hx hb=>by
  rcases(g b hb).1 with z|z
  ·exact hx z
  ·exact ft (ì (Ó e) z) (Ę _)
 have f:∀x c,X.env.cells.lookup x=some c->∀v,s.heap.IsCell c v->h'.IsCell c v:=λx c e v ⟨o,C,hd⟩=>by
  have j:c∉ch:=λz=>(g c z).2.2.1 x c e rfl;by_cases hc:c∈X.fs
  ·let⟨sl,q⟩:=A c o (I.cne x c e) hc j C (I.freeC x c e);exact⟨_,q,hd⟩
  ·exact⟨o,h c o (I.cne x c e) hc j C (I.freeC x c e),hd⟩
 refine⟨I.ok,I.os,hg,⟨λb o e n hb hx=>?_,λb o e n hb hx=>?_,λb o e n hx=>?_,λb o e hx=>?_,λb xs e=>J b xs (I.gy.tups b xs e),λb o xs e=>E b o xs (I.gy.frzs b o xs e),λb ps e=>?_⟩,?_,λx c e=>?_,?_,λx c e=>?_,λp hp=>?_,K,I.len⟩
 ·exact h b o (F b o e) hb (y b o e hx) (I.gy.keep b o e n hb hx) (I.gy.free b o e n hx)
 ·let⟨sl,t⟩:=I.gy.slot b o e n hb hx;let⟨L,D⟩:=A b _ (F b o e) hb (y b o e hx) t (I.gy.free b o e n hx);exact⟨L,D⟩
 ·let⟨o',t⟩:=I.gy.there b o e hx;exact a b o' (y b o e hx) t (I.gy.free b o e n hx)
 ·let⟨o',t⟩:=I.gy.there b o e hx;exact B b o' (y b o e hx) t
 ·let⟨O,t⟩:=I.gy.tbls b ps e;let⟨P,D⟩:=G b _ t;exact⟨O++P,by rw[D,Array.append_assoc]⟩
 ·let⟨m,hn,hl⟩:=I.loc;refine⟨m,ns m hn,λi x v t D e3=>?_⟩;let⟨u,r,l⟩:=hl i x v t D e3;refine⟨u,r,?_⟩;rcases l with l|⟨k,c,e,z⟩
  ·exact .inl l
  ·exact .inr ⟨k,c,e,f x c e _ z⟩
 ·let⟨v,z⟩:=I.cell x c e;exact⟨v,f x c e v z⟩
 ·let⟨m,⟨o,_,_,C,_⟩,_⟩:=I.loc;exact a _ o (λz=>(g _ z).2.1 rfl) C I.free
 ·let⟨v,o,C,hd⟩:=I.cell x c e;exact a c o (λz=>(g c z).2.2.1 x c e rfl) C (I.freeC x c e)
 ·let⟨e,n,M,N,d⟩:=I.pin p hp;have j:p.1∉ch:=λz=>(g p.1 z).2.2.2 p hp rfl;exact⟨h p.1 p.2 M N j e n,a p.1 p.2 j e n,M,N,d⟩
def Inv.un{t':Nat}(I:Inv X pins σ H s)(u:Un X.fs [] H H' s.heap h')(f:HOk X.prog X.w H' h'):Inv X pins σ H' { s with heap:=h',toks:=t' }:=by
 let⟨m,⟨o,es,j,g,r⟩,_⟩:=id I.loc;let⟨k,h⟩:=u.any g I.free (by simp);exact I.step (g':=s.gens) (d':=s.drawn) (ch:=[]) (λ_ z=>nomatch z) (λb o _ hb _ e n=>u.keep b o e n hb (by simp)) (λb o _ hb _ e n=>u.slot b o e n hb (by simp)) (λb o _ e n=>u.free b o e n (by simp)) (λb o _ e=>u.there b o e (by simp)) u.tups u.frzs u.tbls (λm' hm=>by
  let⟨o',d,c,a,i⟩:=hm;rw[g]at a;cases a;exact⟨_,d,c,h,i⟩) f I.bare
def Inv.call{g':Array Y2}{t':Nat}{d':Drawn}{ch:List Addr}(I:Inv X pins σ H s)(u:Un (frs X.stack) ch H H' s.heap h')(i:HOk X.prog X.w H' h')(hg:Y1 g')(a:∀b∈ch,(b∈X.ex\/X.s₀.heap.objs.size<=b)/\b≠X.env.locals/\(∀x c,X.env.cells.lookup x=some c->c≠b)/\∀p∈X.pn++pins,p.1≠b) :
  Inv X pins σ H' { s with heap:=h',gens:=g',drawn:=d',toks:=t' }:=by
 let⟨m,⟨o,es,l,j,r⟩,_⟩:=id I.loc;let⟨q,h⟩:=u.any j I.free λz=>(a _ z).2.1 rfl;exact I.step (ch:=ch) a (λb o h hb hc e n=>u.keep b o e n (λz=>(Õ.mp (I.uE b z)).elim h hb) hc) (λb o _ _ hc e n=>u.any e n hc) (λb o hc e n=>u.free b o e n hc) (λb o hc e=>u.there b o e hc) u.tups u.frzs u.tbls (λm' hm=>by
  let⟨o',g,f,d,k⟩:=hm;rw[j]at d;cases d;exact⟨_,g,f,h,k⟩) i hg
def Inv.turned{t':Nat}{it:Addr}(I:Inv X pins σ H s)(k:∀b o,b≠it->s.heap.get? b=some o->h'.get? b=some o)(hn:H it=none)(d:it≠X.env.locals)(h1:it∈X.ex\/X.s₀.heap.objs.size<=it)(h2:∀x c,X.env.cells.lookup x=some c->c≠it)(g:∀p∈X.pn++pins,p.1≠it):Inv X pins σ H { s with heap:=h',toks:=t' }:=by
 have a:∀b u,H b=some u->b≠it:=λb u e z=>by rw[z,hn]at e;cases e
 refine I.step (g':=s.gens) (d':=s.drawn) (ch:=[it]) (λb hb=>?_) (λb o _ _ hc e _=>k b o (λz=>hc (by simp[z])) e) (λb o _ _ hc e _=>⟨o.slots,k b o (λz=>hc (by simp[z])) e⟩) (λ_ _ _ _ n=>n)
  (λb o hc e=>⟨o,k b o (λz=>hc (by simp[z])) e⟩) (λ_ _ e=>e) (λ_ _ _ e=>e) (λb ps e=>⟨#[],by rw[e];simp⟩) (λm hm=>?_) (λb u e=>?_) I.bare
 ·have e:b=it:=↑hb
  subst e;exact⟨h1,d,h2,g⟩
 ·let⟨o,es,f,h,r⟩:=hm;exact⟨o,es,f,k _ o (ĝ d) h,r⟩
 ·refine(I.hok b u e).stay (λc v hc q=>k c v ?_ q) (λ_ q=>q) λ_ _ q=>q;rcases hc with z|z
  ·rw[z];exact a b u e
  ·exact a c _ z
def Inv.tok(I:Inv X pins σ H s)(t:Nat):Inv X pins σ H { s with toks:=t }:=I.un (h':=s.heap) (t':=t) Un.refl I.hok
def Inv.kept{t':Nat}(I:Inv X pins σ H s)(k:∀b u,s.heap.get? b=some u->h'.get? b=some u):Inv X pins σ H { s with heap:=h',toks:=t' }:=I.un (Un.kept k) (I.hok.kept k)
def Inv.laid{a:Addr}{o:HO}{t':Nat}(I:Inv X pins σ H s)(k:∀b u,s.heap.get? b=some u->h'.get? b=some u)(hp:↥s<=a)(new:bA X.prog X.w (upd H a o) h' a o) :
  Inv X pins σ (upd H a o) { s with heap:=h',toks:=t' }:=I.un (Un.laid k hp (I.hok.fresh hp)) (I.hok.laid k hp new)
def Inv.write{x e:Addr}{o:HO}{t':Nat}(I:Inv X pins σ H s)(c:Mut (H x))(he:e=x\/H e=some (.own x))(k:∀b u,b≠e->s.heap.get? b=some u->h'.get? b=some u)(a:∃u,h'.get? e=some u)(new:bA X.prog X.w (upd H x o) h' x o):Inv X pins σ (upd H x o) { s with heap:=h',toks:=t' }:=I.un (Un.write c he k a) (I.hok.write c he k a new)
def Inv.sY{a:fF}(I:Inv X pins σ H s)(h:∀p∈a,s.heap.get? p.1=some p.2/\H p.1=none/\p.1≠X.env.locals/\p.1∉X.fs/\∀v,p.2.data≠.cell v):Inv X a σ H s :=
 ⟨I.ok,I.os,I.bare,I.gy,I.loc,I.cell,I.free,I.freeC,λp hp=>(Û.mp hp).elim (λz=>I.pin p (ċ _ z)) (h p),I.hok,I.len⟩
def Dc{N:List Str}(hN:N.Nodup){i j:Nat}{x:Str}(a:N[i]?=some x)(b:N[j]?=some x):i=j:=by
 let⟨h1,c⟩:=È.mp a;let⟨h2,d⟩:=È.mp b;exact(List.getElem_inj hN).mp (c.trans d.symm)
def wX{M:Y3}{A:Ys}{E:fA}{i:Nat}{x:Str}{v:V}{u:Value}{Q:Unit->Shared->Prop}(I:Inv X pins σ H s)(Z:∀j,X.N[j]?=some x->j=i)(hi:X.N[i]?=some x)(l:Loc X.env.scope x)(r:RelV v u)(h:∀s',Inv X pins (σ.set i (some v)) H s'->(∃a,Heap.SameBut a s.heap s'.heap/\(a=X.env.locals\/X.env.cells.lookup x=some a))->Q .unit s')(hf:X.fn x=true\/X.env.scope.names.lookup x=some .local:=by first|exact .inl rfl|exact .inr rfl|assumption):wpAny M A (storeName X.env x u) Q E s:=by
 let⟨m,hn,hl⟩:=id I.loc;have J:(X.env.scope.kind==.class || (X.env.scope.kind==.module&&X.env.locals != X.env.globals))=false:=by rw[I.ok.kind];rfl
 have B:i<⇑σ:=by rw[I.len];exact(È.mp hi).1
 have C:=I.cne;have g:∀{a:Addr}{h':Heap},(∃o,s.heap.get? a=some o/\H a=none)->Heap.SameBut a s.heap h'->HOk X.prog X.w H h':=λ{a h'} ha hs b ob e=>by
  let⟨_,_,t⟩:=ha;refine(I.hok b ob e).stay (λc R hc q=>(hs.2 c ?_).trans q) (λ_ q=>q) λ_ _ q=>q;rintro rfl;rcases hc with rfl|hc
  ·rw[t]at e;cases e
  ·rw[t]at hc;cases hc
 rcases l with hk|hk
 ·refine wpAny_storeName_local hk hn (λh' hn' hs=>?_) J;let⟨oL,_,_,S,_⟩:=id hn;refine h _ ⟨I.ok,I.os,I.bare,⟨λb o e n hb l=>?_,λb o e n hb l=>?_,I.gy.free,λb o e l=>?_,I.gy.tups,I.gy.frzs,I.gy.tbls⟩,⟨_,hn',λj y v' f e2 e3=>?_⟩,λy c e=>?_,I.free,I.freeC,λp hp=>?_,g ⟨oL,S,I.free⟩ hs,↑I.len⟩ ⟨_,hs,.inl rfl⟩
  ·exact(hs.2 b (å (ì (Ó e) I.ok.above))).trans (I.gy.keep b o e n hb l)
  ·let⟨W,f⟩:=I.gy.slot b o e n hb l;exact⟨W,(hs.2 b (å (ì (Ó e) I.ok.above))).trans f⟩
  ·let⟨o',f⟩:=I.gy.there b o e l;exact⟨o',(hs.2 b (å (ì (Ó e) I.ok.above))).trans f⟩
  ·by_cases F:j=i
   ·subst F;rw[hi]at f;cases f;rw[ğ B]at e2;cases e2;exact⟨u,r,.inl ⟨hk,by simp⟩⟩
   ·rw[Ň (ĝ F)]at e2;let⟨Y,U,q⟩:=hl j y v' f e2 e3;refine⟨Y,U,?_⟩;rcases q with⟨k,e⟩|⟨k,c,e,z⟩
    ·refine .inl ⟨k,?_⟩;have:y≠x:=λe=>F (Z _ (e ▸ f));simp[this,e]
    ·exact .inr ⟨k,c,e,z.sameBut hs (C y c e)⟩
  ·let⟨R,z⟩:=I.cell y c e;exact⟨R,z.sameBut hs (C y c e)⟩
  ·let⟨e,n,P,T,d⟩:=I.pin p hp;exact⟨(hs.2 p.1 P).trans e,n,P,T,d⟩
 ·have D:X.fn x=true:=by
   rcases hf with z|z
   ·exact z
   ·rw[z]at hk;cases hk
  let⟨c,hc⟩:=I.ok.has x (.inl hk);let⟨R,z⟩:=I.cell x c hc;refine wpAny_storeName_cell I.ok.kind hk hc z (λh' hc' hs=>?_);let⟨oc,K,L⟩:=id z;refine h { s with heap:=h' } ⟨I.ok,I.os,I.bare,⟨λb o e n hb l=>?_,λb o e n hb l=>?_,I.gy.free,λb o e l=>?_,I.gy.tups,I.gy.frzs,I.gy.tbls⟩,⟨m,hn.sameBut hs (ĝ (C x c hc)),λj y v' f e2 e3=>?_⟩,λy O e=>?_,I.free,I.freeC,λp hp=>?_,g ⟨oc,K,I.freeC x c hc⟩ hs,↑I.len⟩ ⟨c,hs,.inr hc⟩
  ·exact(hs.2 b (å (ì (Ó e) (I.ok.cab x c D hc)))).trans (I.gy.keep b o e n hb l)
  ·let⟨W,f⟩:=I.gy.slot b o e n hb l;exact⟨W,(hs.2 b (å (ì (Ó e) (I.ok.cab x c D hc)))).trans f⟩
  ·let⟨o',f⟩:=I.gy.there b o e l;exact⟨o',(hs.2 b (å (ì (Ó e) (I.ok.cab x c D hc)))).trans f⟩
  ·by_cases F:j=i
   ·subst F;rw[hi]at f;cases f;rw[ğ B]at e2;cases e2;exact⟨u,r,.inr ⟨.inl hk,c,hc,hc'⟩⟩
   ·rw[Ň (ĝ F)]at e2;let⟨Y,U,q⟩:=hl j y v' f e2 e3;refine⟨Y,U,?_⟩;rcases q with q|⟨k,O,e,z'⟩
    ·exact .inl q
    ·refine .inr ⟨k,O,e,z'.sameBut hs ?_⟩;rintro rfl;exact F (Z _ (I.ok.inj _ _ _ e hc ▸ f))
  ·by_cases G:O=c
   ·subst G;exact⟨_,hc'⟩
   ·let⟨w2,z2⟩:=I.cell y O e;exact⟨w2,z2.sameBut hs G⟩
  ·let⟨e,n,P,T,d⟩:=I.pin p hp;refine⟨(hs.2 p.1 ?_).trans e,n,P,T,d⟩;intro q;rw[q,K]at e;have q':oc=p.2:=ß e;exact d R (by rw[←q'];exact L)
def BK{M:Y3}{A:Ys}{E:fA}{i:Nat}{x:Str}{v:V}{u:Value}{Q:Unit->Shared->Prop}(I:Inv X pins σ H s)(hN:X.N.Nodup)(hi:X.N[i]?=some x)(b:Loc X.env.scope x)(r:RelV v u)(h:∀s',Inv X pins (σ.set i (some v)) H s'->Q .unit s')(a:X.fn x=true\/X.env.scope.names.lookup x=some .local:=by first|exact .inl rfl|exact .inr rfl|assumption):wpAny M A (storeName X.env x u) Q E s :=
 wX I (λj h=>Dc hN h hi) hi b r (λs' I' _=>h s' I') a
def Inv.call'{a:Shared}{ch:List Addr}(I:Inv X pins σ H s)(g:a.os=s.os)(u:Un (frs X.stack) ch H H' s.heap a.heap)(f:HOk X.prog X.w H' a.heap)(hg:Y1 a.gens)(d:∀b∈ch,(b∈X.ex\/X.s₀.heap.objs.size<=b)/\b≠X.env.locals/\(∀x c,X.env.cells.lookup x=some c->c≠b)/\∀p∈X.pn++pins,p.1≠b):Inv X pins σ H' a:=by
 let⟨h',g',d',t',o'⟩:=a;have e:o'=s.os:=g;subst e;exact I.call (g':=g') (t':=t') (d':=d') u f hg d
end
abbrev XK:=Value->gc->Hp->Prop
abbrev St:=List (Option V)
abbrev VK:=V->Hp->Prop
abbrev TE:=St->Hp->VK->Prop
abbrev TT:=St->Hp->(Bool->Hp->Prop)->Prop
abbrev TA:=St->Hp->(List V->Hp->Prop)->Prop
structure Ends where
 nx:St->Hp->Prop
 rt:VK
 bk:St->Hp->Prop:=λ_ _=>False
 ct:St->Hp->Prop:=λ_ _=>False
abbrev TS:=Ends->St->Hp->Prop
def EP(X:Cx)(a:fF)(σ:St)(Q:VK)(u:Value)(b:Shared):Prop:=∃v H',Inv X a σ H' b/\RelV v u/\Q v H'
def TP(X:Cx)(a:fF)(σ:St)(Q:Bool->Hp->Prop)(b:Bool)(c:Shared):Prop:=∃H',Inv X a σ H' c/\Q b H'
def AP(X:Cx)(a:fF)(σ:St)(Q:List V->Hp->Prop)(c:fT)(b:Shared):Prop:=∃vs H',Inv X a σ H' b/\Vals vs c/\Q vs H'
def SP(X:Cx)(a:fF)(D:Ends)(f:Flow)(b:Shared):Prop :=
 match f with
 |.next=>∃σ' H',Inv X a σ' H' b/\D.nx σ' H'
 |.brk=>∃σ' H',Inv X a σ' H' b/\D.bk σ' H'
 |.cont=>∃σ' H',Inv X a σ' H' b/\D.ct σ' H'
 |.ret u=>∃v σ' H',Inv X a σ' H' b/\RelV v u/\D.rt v H'
def PE(X:Cx)(e:YE)(t:TE):Prop :=
 ∀(pins:fF)(s:Shared)(σ:St)(H:Hp)(Q:VK),Inv X pins σ H s->t σ H Q->wpAny (model X.prog X.w) X.A (YN e X.env) (EP X pins σ Q) X.xe s
def PT(X:Cx)(e:YE)(t:TT):Prop :=
 ∀(pins:fF)(s:Shared)(σ:St)(H:Hp)(Q:Bool->Hp->Prop),Inv X pins σ H s->t σ H Q->wpAny (model X.prog X.w) X.A (Xs e X.env (YN e X.env)) (TP X pins σ Q) X.xe s
def PW(X:Cx)(e:YE)(t:TT):Prop :=
 ∀(whole:Sem Value)(pins:fF)(s:Shared)(σ:St)(H:Hp)(Q:Bool->Hp->Prop),Inv X pins σ H s->t σ H Q->wpAny (model X.prog X.w) X.A (Xs e X.env whole) (TP X pins σ Q) X.xe s
def PW.pt{X:Cx}{e:YE}{t:TT}(h:PW X e t):PT X e t:=h _
def PA(X:Cx)(es:List YE)(t:TA):Prop :=
 ∀(pos:Pos)(pins:fF)(s:Shared)(σ:St)(H:Hp)(Q:List V->Hp->Prop),Inv X pins σ H s->t σ H Q->wpAny (model X.prog X.w) X.A (XA (YO pos (YI es X.env))) (AP X pins σ Q) X.xe s
def PS(X:Cx)(st:XB)(t:TS):Prop :=
 ∀(pins:fF)(s:Shared)(σ:St)(H:Hp)(D:Ends),Inv X pins σ H s->t D σ H->wpAny (model X.prog X.w) X.A (exec st X.env) (SP X pins D) X.xe s
def PSs(X:Cx)(st:List XB)(t:TS):Prop :=
 ∀(pins:fF)(s:Shared)(σ:St)(H:Hp)(D:Ends),Inv X pins σ H s->t D σ H->wpAny (model X.prog X.w) X.A (execs st X.env) (SP X pins D) X.xe s
def thn{α:Type}{t:Sem α}{Q b:α->Shared->Prop}{M:Y3}{A:Ys}{E:fA}{s:Shared}(h:wpAny M A t Q E s)(c:∀a s,Q a s->b a s):wpAny M A t b E s:=Ŀ h c λ_ _ x=>x
section
def bin{a b:YE}{d e:TE}(ha:PE X a d)(hb:PE X b e){c:fF}{s:Shared}{σ:St}{H:Hp}{R:V->V->Hp->Prop}(I:Inv X c σ H s)(h:d σ H λx H1=>e σ H1 λy H2=>R x y H2){α:Type}{Q:α->Shared->Prop}{f:Value->Value->Sem α}(g:∀v u s2 x y H2,Inv X c σ H2 s2->RelV x v->RelV y u->R x y H2->wpAny (model X.prog X.w) X.A (f v u) Q X.xe s2) :
  wpAny (model X.prog X.w) X.A (YN a X.env) (λv s₁=>wpAny (model X.prog X.w) X.A (YN b X.env) (λu s₂=>wpAny (model X.prog X.w) X.A (f v u) Q X.xe s₂) X.xe s₁) X.xe s:=by
 refine thn (ha c s σ H _ I h) λv s1 ⟨x,H1,I1,r1,q1⟩=>?_;refine thn (hb c s1 σ H1 _ I1 q1) λu s2 ⟨y,H2,I2,r2,q2⟩=>?_;exact g v u s2 x y H2 I2 r1 r2 q2
def iY(i:Nat):TE:=λσ H Q=>∃v,σ[i]?=some (some v)/\Q v H
def tC(v:V):TE:=λ_ H Q=>Q v H
def VG{i:Nat}{x:Str}{pos:Pos}(hN:X.N[i]?=some x)(hv:Vis X.env.scope x)(hd:(x==("__debug__":Str))=false:=by decide)(hcd:(x==("__classdict__":Str))=false:=by decide):PE X (.Name x pos) (iY i):=by
 intro d s σ H Q I h;let⟨v,e,h⟩:=h;let⟨m,hn,hl⟩:=I.loc;let⟨u,r,l⟩:=hl i x v hN e hv;have b:EP X d σ Q u s:=⟨v,H,I,r,h⟩
 rcases l with⟨hk,hm⟩|⟨hk,c,hc,a⟩
 ·exact XE (wpAny_loadName_local I.ok.kind hk hn hm b) hd
 ·rcases hk with hk|hk
  ·exact XE (wpAny_loadName_cell I.ok.kind hk hc a b) hd
  ·exact XE (wpAny_loadName_free I.ok.kind hk hc a b hcd) hd
def Mu{i j pos}:PE X (.Constant (.int i) j pos) (tC (.int i)):=λ_ _ _ H _ I h=>wpAny_Constant_int ⟨.int i,H,I.tok _,⟨_,rfl⟩,h⟩
def MF{b j pos}:PE X (.Constant (.bool b) j pos) (tC (.bl b)):=λ_ _ _ H _ I h=>Constant_bool ⟨.bl b,H,I,rfl,h⟩
def VN{j pos}:PE X (.Constant .none j pos) (tC .non):=λ_ _ _ H _ I h=>Constant_none ⟨.non,H,I,rfl,h⟩
def VH{x j pos}:PE X (.Constant (.str x) j pos) (tC (.str x)):=λ_ _ _ H _ I h=>Calls.Constant_str ⟨.str x,H,I.tok _,⟨_,rfl⟩,h⟩
def Gl(X:Cx)(x:Str):Prop:=X.env.kindOf x=some .globalImplicit
def HY{E:fA}{a:fF}{s:Shared}{σ:St}{H:Hp}{x:Str}{u:Value}{pos:Pos}{Q:fA}(I:Inv X a σ H s)(hg:Gl X x)(hm:X.mg x=some u)(h:Q u s)(hd:(x==("__debug__":Str))=false:=by decide):wpAny (model X.prog X.w) X.A (YN (.Name x pos) X.env) Q E s :=
 Calls.Name_function_global I.ok.kind hg (Calls.loadGlobal_global (by rw[I.ok.glob];exact I.mod.glob.keeps I.bk) hm h) hd
def jf{E:fA}{a:fF}{s:Shared}{σ:St}{H:Hp}{x:Str}{u:Value}{pos:Pos}{Q:fA}(I:Inv X a σ H s)(hg:Gl X x)(hm:X.mg x=none)(hv:Z3 x=some u)(h:Q u s)(hn:x≠"__name__":=by decide)(hd:(x==("__debug__":Str))=false:=by decide):wpAny (model X.prog X.w) X.A (YN (.Name x pos) X.env) Q E s:=by
 let⟨mb,h1,h2⟩:=I.mod.blt;exact Calls.Name_function_global I.ok.kind hg (Calls.loadGlobal_builtin (by rw[I.ok.glob];exact I.mod.glob.keeps I.bk) hm (by rw[I.ok.blt];exact h1.keeps I.bk) ((h2 x hn).trans hv) h) hd
def pP{x:Str}{v:V}{u:Value}{pos:Pos}(hg:Gl X x)(hm:X.mg x=none)(hv:Z3 x=some u)(r:RelV v u)(hn:x≠"__name__":=by decide)(hd:(x==("__debug__":Str))=false:=by decide):PE X (.Name x pos) (tC v) :=
 λ_ _ _ H _ I h=>jf I hg hm hv ⟨v,H,I,r,h⟩ hn hd
variable{a b:YE}{ta tb:TE}{pos:Pos}
def PC(X:Cx)(c:XG)(a b:YE)(t:TE):Prop :=
 ∀(pins:fF)(s:Shared)(σ:St)(H:Hp)(Q:VK),Inv X pins σ H s->t σ H Q ->
  wpAny (model X.prog X.w) X.A (YN a X.env) (λv s₁=>wpAny (model X.prog X.w) X.A (YN b X.env) (λu s₂=>wpAny (model X.prog X.w) X.A (XI c v u) (EP X pins σ Q) X.xe s₂) X.xe s₁) X.xe s
def tB(t:TE):TT:=λσ H Q=>t σ H λx H1=>∃c,x=.bl c/\Q c H1
def Ma{f:XG}{t:TE}(h:PC X f a b t)(h1:XN f b=false:=by first|exact nobehind _ ∅ ∅|rfl):PT X (.Compare a [f] [b] pos) (tB t):=by
 intro e s σ H Q I g;refine XO (thn (h e s σ H _ I g) λv s1 h1=>thn h1 λu s2 h2=>thn h2 λc s3 ⟨x,H1,I1,r1,q1⟩=>?_) h1;let⟨d,rfl,q⟩:=q1;cases r1;exact ĭ ⟨H1,I1,q⟩
def Fo{e:YE}{t:TE}(h:PE X e t)(he:∀whole,Xs e X.env whole=(do let v ←whole;standAt e.pos;holding [v] (XT v)):=by intro _;rfl):PT X e (tB t):=by
 intro c s σ H Q I f;refine isTrue_plain (thn (h c s σ H _ I f) λv s1 ⟨x,H1,I1,r1,q1⟩=>?_) (he _);let⟨d,rfl,q⟩:=q1;cases r1;exact ĭ ⟨H1,I1,q⟩
variable{tA tB':TT}{rest:List YE}
def Yi(t u:TT):TT:=λσ H Q=>t σ H λc H1=>if c=true then u σ H1 Q else Q false H1
def tOr(t u:TT):TT:=λσ H Q=>t σ H λc H1=>if c=true then Q true H1 else u σ H1 Q
def aax(t:TT):TT:=λσ H Q=>t σ H λc H1=>Q (!c) H1
def Ra(ha:PT X a tA):PW X (.BoolOp .And [a] pos) tA:=by
 intro f d s σ H Q I h;refine isTrue_and (thn (ha d s σ H Q I h) λc s1 e=>?_);cases c with
 |true=>exact isTrue_and_nil e
 |false=>exact e
def LK(ha:PT X a tA):PW X (.BoolOp .Or [a] pos) tA:=by
 intro f d s σ H Q I h;refine isTrue_or (thn (ha d s σ H Q I h) λc s1 e=>?_);cases c with
 |false=>exact isTrue_or_nil e
 |true=>exact e
def Vx(ha:PT X a tA)(hb:PW X (.BoolOp .And (b::rest) pos) tB'):PW X (.BoolOp .And (a::b::rest) pos) (Yi tA tB'):=by
 intro e d s σ H Q I h;refine isTrue_and (thn (ha d s σ H _ I h) λc s1 ⟨H1,I1,q1⟩=>?_);cases c with
 |true=>exact hb e d s1 σ H1 Q I1 q1
 |false=>exact⟨H1,I1,q1⟩
def T5(ha:PT X a tA)(hb:PW X (.BoolOp .Or (b::rest) pos) tB'):PW X (.BoolOp .Or (a::b::rest) pos) (tOr tA tB'):=by
 intro e d s σ H Q I h;refine isTrue_or (thn (ha d s σ H _ I h) λc s1 ⟨H1,I1,q1⟩=>?_);cases c with
 |true=>exact⟨H1,I1,q1⟩
 |false=>exact hb e d s1 σ H1 Q I1 q1
def Fp(ha:PT X a tA):PT X (.UnaryOp .Not a pos) (aax tA):=by
 intro d s σ H Q I h;exact isTrue_not (ha d s σ H (λc H1=>Q (!c) H1) I h)
def Yh(ta tb:TE):TE:=λσ H Q=>ta σ H λx H1=>∃c,x=.bl c/\if c=true then tb σ H1 Q else Q (.bl false) H1
def X7(ta:TE):TE:=λσ H Q=>ta σ H λx H1=>∃c,x=.bl c/\Q (.bl (!c)) H1
def VJ{op}{t:TE}(h:PE X a t):PE X (.BoolOp op [a] pos) t:=λpins s σ H Q I hw=>BoolOp_one (h pins s σ H Q I hw)
def VP(ha:PE X a ta)(hb:PE X (.BoolOp .And (b::rest) pos) tb):PE X (.BoolOp .And (a::b::rest) pos) (Yh ta tb):=by
 intro d s σ H Q I h;refine BoolOp_and (thn (ha d s σ H _ I h) λv s1 ⟨x,H1,I1,r1,e⟩=>?_);let⟨c,rfl,e⟩:=e;cases r1;refine ĭ ?_;cases c with
 |true=>exact hb d s1 σ H1 Q I1 e
 |false=>exact⟨.bl false,H1,I1,rfl,e⟩
def VL(ha:PE X a ta):PE X (.UnaryOp .Not a pos) (X7 ta):=by
 intro d s σ H Q I h;refine UnaryOp_ (thn (ha d s σ H _ I h) λv s1 ⟨x,H1,I1,r1,e⟩=>?_);let⟨c,rfl,e⟩:=e;cases r1;exact not_of (ĭ ⟨.bl (!c),H1,I1,rfl,e⟩)
def tIf(t:TT)(ta tb:TE):TE:=λσ H Q=>t σ H λc H1=>if c=true then ta σ H1 Q else tb σ H1 Q
def Mv{c:YE}(hc:PT X c tA)(ha:PE X a ta)(hb:PE X b tb):PE X (.IfExp c a b pos) (tIf tA ta tb):=by
 intro e s σ H Q I h;refine wpAny_IfExp (thn (hc e s σ H _ I h) λd s1 ⟨H1,I1,q1⟩=>?_);cases d with
 |true=>exact ha e s1 σ H1 Q I1 q1
 |false=>exact hb e s1 σ H1 Q I1 q1
end
def SqL(K:Ý)(H:Hp)(a:Addr)(xs:List V):Prop :=
 Rd H a (.lst xs)∨
  ∃(o:Obj)(its:fS)(n:Nat),K.lookup a=some o/\o.cls=.type "list"/\o.dict=none/\o.data=.seq its n/\its.size<=sizeLine/\Vals xs its.toList
def SqT(K:Ý)(H:Hp)(a:Addr)(xs:List V):Prop :=
 Rd H a (.tup xs)∨
  ∃(o:Obj)(its:fS)(n:Nat),K.lookup a=some o/\o.cls=.type "tuple"/\o.data=.seq its n/\its.size<=sizeLine/\Vals xs its.toList
def aa4:Value->Option V
 |.none=>some .non
 |.bool b=>some (.bl b)
 |.int i _=>some (.int i)
 |.str x _=>some (.str x)
 |.bytes b _=>some (.byt b)
 |.float b _=>some (.flt b)
 |.ref a=>some (.ref a)
 |.type n=>some (.ty n)
 |_=>none
def RelV.abs{x:V}{u:Value}(r:RelV x u):aa4 u=some x:=by
 cases x with
 |non=>cases r;rfl
 |bl _=>cases r;rfl
 |int _=>let⟨t,rfl⟩:=r;rfl
 |str _=>let⟨t,rfl⟩:=r;rfl
 |byt _=>let⟨t,rfl⟩:=r;rfl
 |flt _=>let⟨t,rfl⟩:=r;rfl
 |ref _=>cases r;rfl
 |ty _=>cases r;rfl
def RelV.inj{x y:V}{u:Value}(r:RelV x u)(q:RelV y u):x=y:=ß (r.abs.symm.trans q.abs)
theorem Vals.inj:∀{xs ys:List V}{a:fT},Vals xs a->Vals ys a->xs=ys
 |_,_,_,.nil,.nil=>rfl
 |_,_,_,.cons r t,.cons r' t'=>by rw[r.inj r',Vals.inj t t']
section
variable{pins:fF}{σ:St}{H:Hp}{s:Shared}{a:Addr}{xs ys:List V}
def SqL.of{K:Ý}(h:H a=some (.lst xs)):SqL K H a xs:=.inl (.inl h)
def SqT.of{K:Ý}(h:H a=some (.tup xs)):SqT K H a xs:=.inl (.inl h)
def Inv.list(I:Inv X pins σ H s)(h:SqL X.K H a xs):∃its:fT,Vals xs its/\PlainL s.heap a its.toArray/\⇑xs<=sizeLine:=by
 rcases h with h|⟨o,its,n,hk,hc,hd,hs,b,r⟩
 ·let⟨z,its,n,r,e⟩:=h.ok I.hok;exact⟨its,r,⟨_,n,e,rfl,rfl,rfl⟩,z⟩
 ·refine⟨its.toList,r,⟨o,n,I.kIn a o hk,hc,hd,↑hs⟩,?_⟩;have e:=⇑r;simp only[ō]at e;lia
def Inv.tuple(I:Inv X pins σ H s)(h:SqT X.K H a xs):∃its:fT,Vals xs its/\IsTup s.heap a its.toArray/\⇑xs<=sizeLine:=by
 rcases h with h|⟨o,its,n,hk,hc,hs,b,r⟩
 ·let⟨z,its,r,p⟩:=h.ok I.hok;exact⟨its,r,p,z⟩
 ·refine⟨its.toList,r,⟨o,I.kIn a o hk,hc,n,↑hs⟩,?_⟩;have e:=⇑r;simp only[ō]at e;lia
def Inv.Dm(I:Inv X pins σ H s)(h:SqL X.K H a xs)(h':SqL X.K H a ys):xs=ys:=by
 let⟨its,r,⟨o,n,e,_,_,d⟩,_⟩:=I.list h;let⟨its',c,⟨o',f,b,_,_,d'⟩,_⟩:=I.list h';rw[e]at b;cases b;rw[d]at d';injection d' with d1 _;have:its=its':=↑(fv Array.toList d1)
 subst this;exact r.inj c
def Inv.wU(I:Inv X pins σ H s)(h:SqT X.K H a xs)(h':SqT X.K H a ys):xs=ys:=by
 let⟨its,r,⟨o,e,_,n,d⟩,_⟩:=I.tuple h;let⟨its',c,⟨o',b,_,f,d'⟩,_⟩:=I.tuple h';rw[e]at b;cases b;rw[d]at d';injection d' with d1 _;have:its=its':=↑(fv Array.toList d1)
 subst this;exact r.inj c
end
abbrev Cx.wish(X:Cx)(E:fA):Cx:={ X with xe:=E }
abbrev Cx.nox(X:Cx):Cx:=X.wish λ_ _=>False
def Cx.Ok.wish{X:Cx}(ok:X.Ok)(E:fA):(X.wish E).Ok :=
 ⟨ok.mod,ok.kind,ok.glob,ok.blt,ok.above,ok.inj,ok.has,ok.cab,ok.hd,ok.frames,ok.stk,ok.exf,ok.bs,ok.bsz,ok.noex,ok.exfs,ok.nW,ok.frf,ok.sof⟩
def Cx.Ok.j5{X:Cx}{E:fA}(ok:(X.wish E).Ok):X.Ok :=
 ⟨ok.mod,ok.kind,ok.glob,ok.blt,ok.above,ok.inj,ok.has,ok.cab,ok.hd,ok.frames,ok.stk,ok.exf,ok.bs,ok.bsz,ok.noex,ok.exfs,ok.nW,ok.frf,ok.sof⟩
section
variable{pins:fF}{σ:St}{H:Hp}{s:Shared}{E:fA}
def Inv.wish(I:Inv X pins σ H s)(E:fA):Inv (X.wish E) pins σ H s:=⟨I.ok.wish E,I.os,I.bare,I.gy,I.loc,I.cell,I.free,I.freeC,I.pin,I.hok,I.len⟩
def Inv.j5(I:Inv (X.wish E) pins σ H s):Inv X pins σ H s:=⟨I.ok.j5,I.os,I.bare,I.gy,I.loc,I.cell,I.free,I.freeC,I.pin,I.hok,I.len⟩
def SP.j5{D:Ends}{f:Flow}{c:Shared}(h:SP (X.wish E) pins D f c):SP X pins D f c:=by
 cases f with
 |next=>let⟨a,b,I,q⟩:=h;exact⟨a,b,I.j5,q⟩
 |brk=>let⟨a,b,I,q⟩:=h;exact⟨a,b,I.j5,q⟩
 |cont=>let⟨a,b,I,q⟩:=h;exact⟨a,b,I.j5,q⟩
 |ret u=>let⟨v,a,b,I,r,q⟩:=h;exact⟨v,a,b,I.j5,r,q⟩
def PSs.nox{st:List XB}{t:TS}(h:PSs X.nox st t):PSs X st t:=λpins s σ H D I hw =>
 Ŀ (h pins s σ H D (I.wish _) hw) (λ_ _ q=>q.j5) λ_ _ z=>ĺ z
end
section
variable{st:XB}{rest:List XB}{t u:TS}{e:YE}{te:TE}{pos:Pos}
def Yb:TS:=λD σ H=>D.nx σ H
def X4(t u:TS):TS:=λD σ H=>t { D with nx:=u D } σ H
def mR:PSs X [] Yb:=λ_ _ σ H _ I h=>XU ⟨σ,H,I,h⟩
def uL(h1:PS X st t)(h2:PSs X rest u):PSs X (st::rest) (X4 t u):=by
 intro a s σ H D I h;refine wpAny_execs_cons (thn (h1 a s σ H { D with nx:=u D } I h) λf s1 q=>?_);cases f with
 |next =>
  let⟨b,c,d,q⟩:=q;exact h2 a s1 b c D d q
 |ret v=>exact q
 |brk=>exact q
 |cont=>exact q
def bW(h1:PS X st t):PSs X [st] t:=by
 intro a s σ H D I h;refine wpAny_execs_cons (thn (h1 a s σ H D I h) λf s1 q=>?_);cases f with
 |next=>exact XU q
 |ret v=>exact q
 |brk=>exact q
 |cont=>exact q
def Inv.quiet{a:fF}{σ:St}{H:Hp}{s:Shared}(I:Inv X a σ H s):interactive X.env=false:=by simp[interactive,I.ok.kind]
def pB(te:TE):TS:=λD σ H=>te σ H λ_ H1=>D.nx σ H1
def bY(he:PE X e te)(hs:XV e none pos.line X.env=pure false:=by rfl):PS X (.Expr e pos) (pB te):=by
 intro a s σ H D I h;exact wpAny_Expr_any (thn (he a s σ H _ I h) λv s1 ⟨x,H1,I1,r1,q1⟩=>⟨σ,H1,I1,q1⟩) I.quiet hs
def aaw(te:TE):TS:=λD σ H=>te σ H D.rt
def iZ(he:PE X e te):PS X (.Return (some e) pos) (aaw te):=by
 intro a s σ H D I h;exact wpAny_Return_some (thn (he a s σ H _ I h) λv s1 ⟨x,H1,I1,r1,q1⟩=>⟨x,σ,H1,I1,r1,q1⟩)
def aaz(c:TT)(t u:TS):TS:=λD σ H=>c σ H λb H1=>if b=true then t D σ H1 else u D σ H1
def uM{c:YE}{a b:List XB}{g:TT}(hc:PT X c g)(ha:PSs X a t)(hb:PSs X b u):PS X (.If c a b pos) (aaz g t u):=by
 intro f s σ H D I h;refine wpAny_If (thn (hc f s σ H _ I h) λd s1 ⟨H1,I1,q1⟩=>?_);cases d with
 |true=>exact ha f s1 σ H1 D I1 q1
 |false=>exact hb f s1 σ H1 D I1 q1
def Vh:TS:=λ_ _ _=>False
def Mg:PS X st Vh:=λ_ _ _ _ _ _ h=>h.elim
end
abbrev TG:=V->St->Hp->(St->Hp->Prop)->Prop
abbrev TGs:=List V->St->Hp->(St->Hp->Prop)->Prop
def PG(X:Cx)(a:YE)(t:TG):Prop :=
 ∀(pins:fF)(s:Shared)(σ:St)(H:Hp)(v:V)(u:Value)(Q:St->Hp->Prop),Inv X pins σ H s->RelV v u->t v σ H Q ->
  wpAny (model X.prog X.w) X.A (XW a X.env u) (λ_ s'=>∃σ' H',Inv X pins σ' H' s'/\Q σ' H') X.xe s
def PGs(X:Cx)(ts:List YE)(t:TGs):Prop :=
 ∀(pins:fF)(s:Shared)(σ:St)(H:Hp)(vs:List V)(us:fT)(Q:St->Hp->Prop),Inv X pins σ H s->Vals vs us->t vs σ H Q ->
  wpAny (model X.prog X.w) X.A (assignInOrder ((XX ts X.env).map (·.2)) us) (λ_ s'=>∃σ' H',Inv X pins σ' H' s'/\Q σ' H') X.xe s
abbrev XD:=V->V->V->Hp->(Hp->Prop)->Prop
def aao(X:Cx)(t:XD):Prop :=
 ∀(pins:fF)(s:Shared)(σ:St)(H:Hp)(o i v:V)(ov iv u:Value)(Q:Hp->Prop),Inv X pins σ H s->RelV o ov->RelV i iv->RelV v u->t o i v H Q ->
  wpAny (model X.prog X.w) X.A (setItem ov iv u) (λ_ s'=>∃H',Inv X pins σ H' s'/\Q H') X.xe s
section
variable{pos:Pos}
def lV(i:Nat):TG:=λv σ H Q=>Q (σ.set i (some v)) H
def HB{i:Nat}{x:Str}(hN:X.N.Nodup)(hi:X.N[i]?=some x)(c:Loc X.env.scope x)(b:X.fn x=true\/X.env.scope.names.lookup x=some .local:=by first|exact .inl rfl|exact .inr rfl|assumption):PG X (.Name x pos) (lV i):=by
 intro a s σ H v u Q I r h;exact XY (BK I hN hi c r (λs' I'=>⟨_,H,I',h⟩) b)
def aaZ:TGs:=λvs σ H Q=>vs=[]/\Q σ H
def Zw(t:TG)(u:TGs):TGs:=λvs σ H Q=>∃v r,vs=v::r/\t v σ H λσ' H'=>u r σ' H' Q
def Rq:PGs X [] aaZ:=by
 intro a s σ H vs b Q I r h;let⟨e,h⟩:=h;subst e;cases r;exact assignInOrder_nil ⟨σ,H,I,h⟩
def Mp{e:YE}{es:List YE}{t:TG}{u:TGs}(h1:PG X e t)(h2:PGs X es u)(hs:(XX (e::es) X.env).map (·.2)=XW e X.env::(XX es X.env).map (·.2):=by rfl):PGs X (e::es) (Zw t u):=by
 intro a s σ H vs c Q I r h;let⟨v,d,b,h⟩:=h;subst b;cases r with
 |cons r rr =>
  rw[hs];refine assignInOrder_cons (thn (h1 a s σ H _ _ _ I r h) λ_ s1 ⟨σ1,H1,I1,q1⟩=>?_);exact h2 a s1 σ1 H1 _ _ Q I1 rr q1
def aaX(K:Ý)(n:Nat)(t:TGs):TG:=λv σ H Q=>∃a xs,v=.ref a/\SqT K H a xs/\⇑xs=n/\t xs σ H Q
def VF{es:List YE}{k:Nat}{t:TGs}{n:Nat}(hc:X.calm=true)(h:PGs X es t)(hn:⇑(XX es X.env)=n:=by rfl)(hst:(XX es X.env).findIdx? (·.1)=none:=by rfl):PG X (.Tuple es k pos) (aaX X.K n t):=by
 intro c s σ H v u Q I r d;let⟨a,xs,i,j,hl,d⟩:=d;subst i;cases r;let⟨its,f,ht,l⟩:=I.tuple j;refine assign_Tuple_tuple (I.ok.hd hc) ht (by simp[hn,←hl,⇑f]) hst λh' hx=>?_;have g:Inv X c σ H { s with heap:=h' }:=I.kept (t':=s.toks) λb o e=>hx b o (å (Ó e)) e;exact h c _ σ H xs _ Q g ↑f d
def aaY(b a:TE)(t:XD):TG:=λv σ H Q=>b σ H λo H1=>a σ H1 λi H2=>t o i v H2 λH3=>Q σ H3
def Fw{o i:YE}{c b:TE}{t:XD}(d:PE X o c)(hi:PE X i b)(hs:aao X t)(ha:∀v,XW (.Subscript o i pos) X.env v=(do
   let ov ←holding [v] (YN o X.env)
   let iv ←holding [v,ov] (YN i X.env)
   standAt pos
   holding [v,ov,iv] (setItem ov iv v)
   release [v,ov,iv] []):=by intro _;rfl):PG X (.Subscript o i pos) (aaY c b t):=by
 intro a s σ H v u Q I r h;rw[ha];refine Ã (ħ (thn (d a s σ H _ I h) λov s1 ⟨x,H1,I1,r1,q1⟩=>?_));refine Ã (ħ (thn (hi a s1 σ H1 _ I1 q1) λiv s2 ⟨y,H2,I2,r2,q2⟩=>?_));refine Ã (XZ (Ã (ħ (thn (hs a s2 σ H2 x y v ov iv u _ I2 r1 r2 r q2) λ_ s3 ⟨H3,I3,q3⟩=>?_))));exact wpAny_release ⟨σ,H3,I3,q3⟩
def wD(a:TE)(g:TG):TS:=λD σ H=>a σ H λx H1=>g x σ H1 D.nx
def yQ{b e:YE}{c:TE}{g:TG}(he:PE X e c)(hg:PG X b g)(hs:X0 [b] e pos.line X.env=pure false:=by rfl)(d:X1 [b] e X.env=pure none:=by rfl)(h1:(XX [b] X.env).map (·.2)=[XW b X.env]:=by rfl):PS X (.Assign [b] e pos) (wD c g):=by
 intro a s σ H D I h;refine wpAny_Assign_stores (thn (he a s σ H _ I h) λv s1 ⟨x,H1,I1,r1,q1⟩=>?_) hs d;rw[h1];exact thn (hg a s1 σ H1 x v _ I1 r1 q1) λ_ s2 q=>q
def Fq{i:Nat}{x:Str}{e:YE}{c:TE}{a:Pos}(hN:X.N.Nodup)(hi:X.N[i]?=some x)(f:Loc X.env.scope x)(he:PE X e c)(hs:XV e (some (.Name x a)) pos.line X.env=pure false:=by rfl)(d:X.fn x=true\/X.env.scope.names.lookup x=some .local:=by first|exact .inl rfl|exact .inr rfl|assumption) :
  PS X (.Assign [.Name x a] e pos) (wD c (lV i)):=by
 intro b s σ H D I h;refine wpAny_Assign_Name (thn (he b s σ H _ I h) λv s1 ⟨y,H1,I1,r1,q1⟩=>?_) hs;exact BK I1 hN hi f r1 (λs2 I2=>⟨_,H1,I2,q1⟩) d
def Vg(c:TT)(a:TS):TS:=λD σ H=>∃W:Nat->St->Hp->Prop,(∃m,W m σ H)/\∀m σ H,W m σ H ->
 c σ H λb H1=>if b=true then ∃N:St->Hp->Prop,(∀σ' H',N σ' H'->∃m',m'<m/\W m' σ' H')/\a { D with nx:=N,ct:=N,bk:=D.nx } σ H1 else D.nx σ H1
def Mf{c:YE}{g:List XB}{t:TT}{r:TS}(hp:X9 (model X.prog X.w) X.A X.env X.xe)(hc:PT X c t)(hb:PSs X g r):PS X (.While c g [] pos) (Vg t r):=by
 intro a s σ H D I h;let⟨W,⟨x,z⟩,j⟩:=h;refine wpAny_While (codeAny_whileLoop (λn s'=>∃σ' H',Inv X a σ' H' s'/\W n σ' H') ?_ x ⟨σ,H,I,z⟩);rintro n y ⟨e,q,u,B⟩;refine We hp (thn (hc a y e q _ u (j n e q B)) λb s2 ⟨H2,I2,k⟩=>?_);cases b with
 |true =>
  let⟨N,hN,k⟩:=k;rw[fo rfl];refine We hp (thn (hb a s2 e H2 _ I2 k) λf s3 q3=>?_);cases f with
  |next =>
   let⟨d,i,l,o⟩:=q3;let⟨m,hm,p⟩:=hN d i o;exact⟨m,hm,d,i,l,p⟩
  |cont =>
   let⟨d,i,l,o⟩:=q3;let⟨m,hm,p⟩:=hN d i o;exact⟨m,hm,d,i,l,p⟩
  |brk=>exact q3
  |ret v=>exact q3
 |false =>
  rw[fq Ù];exact XU ⟨e,H2,I2,k⟩
end
structure It where
 go:Nat->Hp->Prop
 yld:Nat->Hp->V->Hp->Prop
 stop:Nat->Hp->Prop
def wA(X:Cx)(a:fF)(H:Hp)(b:Addr):Prop :=
 H b=none/\b≠X.env.locals/\b∉X.fs/\(b∈X.ex\/X.s₀.heap.objs.size<=b)/\(∀x c,X.env.cells.lookup x=some c->c≠b)/\∀p∈X.pn++a,p.1≠b
def Inv.Gv{X:Cx}{a:fF}{σ:St}{H d:Hp}{s:Shared}{b:Addr}(I:Inv X a σ H s)(hb:↥s<=b)(hn:d b=none):wA X a d b:=by
 refine⟨hn,ś (ì I.lt hb),I.aaL hb,.inr (ĉ I.sz hb),λx c e z=>?_,λp hp z=>?_⟩
 ·let⟨v,q⟩:=I.cell x c e;exact ft (ì q.lt (by rw[z];exact hb)) (Ę _)
 ·exact ft (ì (Ó (I.pin p hp).1) (by rw[z];exact hb)) (Ę _)
structure TurnG(Cm:Cx->Prop)(P:Zg)(w:Zl)(K:Ý)(tg:YE)(J:It)(fp:List Addr)(it:Addr)(tn:Nat->Heap->Prop):Prop where
 mem:it∈fp
 obj:∀i h,tn i h->∀b∈fp,∃o,h.get? b=some o/\∀v,o.data≠.cell v
 keep:∀i h h',tn i h->(∀b∈fp,∀o,h.get? b=some o->h'.get? b=some o)->tn i h'
 item:∀(X:Cx),X.prog=P->X.w=w->X.K=K->Cm X->∀(i:Nat)(pins:fF)(s:Shared)(σ:St)(H:Hp)(E:fA),Inv X pins σ H s->(∀b∈fp,wA X pins H b)->tn i s.heap->J.go i H ->
  wpAny (model P w) X.A (Wl (.ref it)) (λr s1=>∃u,r=some u /\
   wpAny (model P w) X.A (Wp tg (.ref it) u) (λ_ s2=>∃x H',Inv X pins σ H' s2/\RelV x u/\J.yld i H x H'/\tn (i+1) s2.heap/\∀b∈fp,H' b=none) E s1) E s
 done:∀(X:Cx),X.prog=P->X.w=w->X.K=K->Cm X->∀(i:Nat)(pins:fF)(s:Shared)(σ:St)(H:Hp)(E:fA),Inv X pins σ H s->(∀b∈fp,wA X pins H b)->tn i s.heap->J.stop i H ->
  wpAny (model P w) X.A (Wl (.ref it)) (λr s1=>r=none/\Inv X pins σ H s1) E s
 self:∀(A:Ys)(i:Nat)(s:Shared)(Q:fA)(E:fA),tn i s.heap->Q (.ref it) s->wpAny (model P w) A (pyIter (.ref it)) Q E s
abbrev Turn(P:Zg)(w:Zl)(K:Ý)(tg:YE)(J:It)(fp:List Addr)(it:Addr)(tn:Nat->Heap->Prop):Prop:=TurnG (λX=>X.calm=true) P w K tg J fp it tn
abbrev TI:=St->Hp->(It->Hp->Prop)->Prop
def aap(e:Cx->Prop)(X:Cx)(a:fF)(σ:St)(f:YE)(R:It->Hp->Prop)(c:Value)(d:Shared):Prop :=
 ∃(it:Addr)(fp:List Addr)(tn:Nat->Heap->Prop)(J:It)(H':Hp),c=.ref it/\Inv X a σ H' d/\TurnG e X.prog X.w X.K f J fp it tn/\tn 0 d.heap/\(∀b∈fp,wA X a H' b)/\R J H'
def PIG(b:Cx->Prop)(X:Cx)(c a:YE)(d:TI):Prop :=
 ∀(pins:fF)(s:Shared)(σ:St)(H:Hp)(R:It->Hp->Prop),Inv X pins σ H s->d σ H R ->
  wpAny (model X.prog X.w) X.A (YN a X.env) (λv s1=>wpAny (model X.prog X.w) X.A (pyIter v) (aap b X pins σ c R) X.xe s1) X.xe s
abbrev PIE(X:Cx):=aap (λX=>X.calm=true) X
abbrev PI(X:Cx):=PIG (λX=>X.calm=true) X
def O7{M:Y3}{A:Ys}{E:fA}{s:Shared}{b:YE}{it:Addr}{u:Value}{o:Obj}{n:String}{vs:fS}{Q:Unit->Shared->Prop}(c:s.heap.get? it=some o)(hc:o.cls=.type n)(hd:o.data=.fields vs)(hn:["enumerate","zip","dict_itemiterator","dict_reverseitemiterator","odict_iterator","itertools.zip_longest","itertools.pairwise"].contains n=false)(a:Q .unit s):wpAny M A (Wp b (.ref it) u) Q E s:=by
 unfold Wp;cases b <;> first
  |exact Ú a
  | (cases u <;> first
    |exact Ú a
    | (refine Ã (wpAny_load c ?_)
       rw[hc,hd];show wpAny M A (if(["enumerate","zip","dict_itemiterator","dict_reverseitemiterator","odict_iterator","itertools.zip_longest","itertools.pairwise"].contains n&&vs[0]?==some (WA _))=true then _ else _) Q E s;rw[fq (by intro h;rw[hn,Bool.false_and]at h;cases h)];exact Ú a))
def Itl(K:Ý)(a:Addr):It :=
 ⟨λi H=>∃xs x,SqL K H a xs/\xs[i]?=some x,λi H x H'=>H'=H/\∀xs,SqL K H a xs->xs[i]?=some x,λi H=>∃xs,SqL K H a xs/\⇑xs<=i⟩
def Itt(K:Ý)(a:Addr):It :=
 ⟨λi H=>∃xs x,SqT K H a xs/\xs[i]?=some x,λi H x H'=>H'=H/\∀xs,SqT K H a xs->xs[i]?=some x,λi H=>∃xs,SqT K H a xs/\⇑xs<=i⟩
def Itr(lo:Int)(n:Nat):It:=⟨λi _=>i<n,λi H x H'=>H'=H/\x=.int (lo+i),λi _=>n<=i⟩
def Jm{P:Zg}{w:Zl}{K:Ý}{tg:YE}(a it:Addr):Turn P w K tg (Itl K a) [it] it (λi h=>h.IsListIter it a i) where
 mem:=by simp
 obj:=λi h st b hb=>by
  have e:b=it:=↑hb
  subst e;let⟨o,e,c,d⟩:=st;exact⟨o,e,λv z=>by rw[d]at z;cases z⟩
 keep:=λi h h' st k=>st.at λo e=>k it (by simp) o e
 item:=by
  intro X hP hw hK hc i pins s σ H E I hf st hg;subst hP hw hK;let⟨xs,x,hq,hx⟩:=hg;let⟨its,rv,p,hz⟩:=I.list hq;let⟨u,hu,ru⟩:=rv.get hx;let⟨f0,f1,f2,f3,f4,f5⟩:=hf it (by simp);refine wpAny_pyNext_list_item st p.isList (x:=u) ↑hu λh' st' sb=>?_;have I1:Inv X pins σ H { s with heap:=h' }:=I.turned (t':=s.toks) (λb o hb e=>(sb.2 b hb).trans e) f0 f1 f3 f4 f5;let⟨o,e,c,d⟩:=id st';exact⟨u,rfl,O7 (s:={ s with heap:=h' }) e c d ∅ ⟨x,H,I1,ru,⟨rfl,λys hy=>by rw[I.Dm hy hq];exact hx⟩,st',λb hb=>(hf b hb).1⟩⟩
 done:=by
  intro X hP hw hK hc i pins s σ H E I hf st hg;subst hP hw hK;let⟨xs,hq,hx⟩:=hg;let⟨its,rv,p,hz⟩:=I.list hq;let⟨f0,f1,f2,f3,f4,f5⟩:=hf it (by simp);have hl:=⇑rv;exact wpAny_pyNext_list_end (I.ok.hd hc) st p.isList (by simp;lia) λh' eb=>⟨rfl,I.turned (t':=s.toks) (λb o hb e=>eb b o hb e) f0 f1 f3 f4 f5⟩
 self:=λ_ _ _ _ _ st h=>wpAny_pyIter_listiter st h
def EY{P:Zg}{w:Zl}{K:Ý}{tg:YE}(a it:Addr):Turn P w K tg (Itt K a) [it] it (λi h=>h.IsTupleIter it a i) where
 mem:=by simp
 obj:=λi h st b hb=>by
  have e:b=it:=↑hb
  subst e;let⟨o,e,c,d⟩:=st;exact⟨o,e,λv z=>by rw[d]at z;cases z⟩
 keep:=λi h h' st k=>st.at λo e=>k it (by simp) o e
 item:=by
  intro X hP hw hK hc i pins s σ H E I hf st hg;subst hP hw hK;let⟨xs,x,hq,hx⟩:=hg;let⟨its,rv,p,hz⟩:=I.tuple hq;let⟨u,hu,ru⟩:=rv.get hx;let⟨f0,f1,f2,f3,f4,f5⟩:=hf it (by simp);refine wpAny_pyNext_tuple_item st (show s.heap.IsTuple a its.toArray from p) (x:=u) ↑hu λh' st' sb=>?_;have I1:Inv X pins σ H { s with heap:=h' }:=I.turned (t':=s.toks) (λb o hb e=>(sb.2 b hb).trans e) f0 f1 f3 f4 f5;let⟨o,e,c,d⟩:=id st';exact⟨u,rfl,O7 (s:={ s with heap:=h' }) e c d ∅ ⟨x,H,I1,ru,⟨rfl,λys hy=>by rw[I.wU hy hq];exact hx⟩,st',λb hb=>(hf b hb).1⟩⟩
 done:=by
  intro X hP hw hK hc i pins s σ H E I hf st hg;subst hP hw hK;let⟨xs,hq,hx⟩:=hg;let⟨its,rv,p,hz⟩:=I.tuple hq;let⟨f0,f1,f2,f3,f4,f5⟩:=hf it (by simp);have hl:=⇑rv;exact wpAny_pyNext_tuple_end (I.ok.hd hc) st (show s.heap.IsTuple a its.toArray from p) (by simp;lia) λh' eb=>⟨rfl,I.turned (t':=s.toks) (λb o hb e=>eb b o hb e) f0 f1 f3 f4 f5⟩
 self:=λ_ _ _ _ _ st h=>wpAny_pyIter_tupleiter st h
def Fb{P:Zg}{w:Zl}{K:Ý}{tg:YE}(it:Addr)(lo:Int)(n:Nat):Turn P w K tg (Itr lo n) [it] it (λi h=>IsRangeIter h it (lo+(i:Nat) * 1) ((n:Int) - (i:Nat)) 1) where
 mem:=by simp
 obj:=λi h st b hb=>by
  have e:b=it:=↑hb
  subst e;exact⟨_,st,λv z=>by
   have z':Data.fields _=Data.cell v:=z;cases z'⟩
 keep:=λi h h' st k=>k it (by simp) _ st
 item:=by
  intro X hP hw hK hc i pins s σ H E I hf st hg;subst hP hw hK;let⟨f0,f1,f2,f3,f4,f5⟩:=hf it (by simp);have W:=Walks.range (prog:=X.prog) (w:=X.w) (I.ok.hd hc) it lo 1 n;refine W.item i s _ _ hg st λv h' tk hv st' kk=>?_;let⟨t,rfl⟩:=hv;have I1:Inv X pins σ H { s with heap:=h',toks:=tk }:=I.turned (λb o hb e=>kk b o ↑hb e) f0 f1 f3 f4 f5;refine⟨_,rfl,O7 (s:={ s with heap:=h',toks:=tk }) (n:="range_iterator") st' rfl rfl ∅ ⟨.int (lo+i),H,I1,⟨t,?_⟩,⟨rfl,rfl⟩,st',λb hb=>(hf b hb).1⟩⟩;rw[Int.mul_one]
 done:=by
  intro X hP hw hK hc i pins s σ H E I hf st hg;subst hP hw hK;let⟨f0,f1,f2,f3,f4,f5⟩:=hf it (by simp);exact wpAny_pyNext_range_end (I.ok.hd hc) st (by have:n<=i:=hg;lia) λh' eb=>⟨rfl,I.turned (t':=s.toks) (λb o hb e=>eb b o hb e) f0 f1 f3 f4 f5⟩
 self:=λ_ _ _ _ _ st h=>wpAny_pyIter_rangeiter st h
section
variable{tg:YE}
def Cj{a:fF}{σ:St}{H:Hp}{s:Shared}{R:It->Hp->Prop}{E:fA}{lo hi:Int}{t u v:Tok}{tk:Nat}(I:Inv X a σ H s)(h1:-(2 ^ 62)<=lo)(h2:lo<2 ^ 62)(g:-(2 ^ 62)<=hi)(h:hi<2 ^ 62)(q:R (Itr lo (hi - lo).toNat) H):wpAny (model X.prog X.w) X.A (pyIter (.ref ↥s)) (PIE X a σ tg R) E { s with heap:=s.heap.push { cls:=.type "range",data:=.fields #[.int lo t,.int hi u,.int 1 v]},toks:=tk }:=by
 refine wpAny_pyIter_range (IsRange.new ..) (small_one h1 h2 g h) ?_;have c:Inv X a σ H { s with heap:=s.heap.push { cls:=.type "range",data:=.fields #[.int lo t,.int hi u,.int 1 v]},toks:=tk }:=I.kept λb o e=>Ô _ e;refine⟨(s.heap.push { cls:=.type "range",data:=.fields #[.int lo t,.int hi u,.int 1 v]}).objs.size,[(s.heap.push { cls:=.type "range",data:=.fields #[.int lo t,.int hi u,.int 1 v]}).objs.size],_,_,H,rfl,
  c.kept (t':=tk) λb o e=>Ô _ e,Fb _ lo (hi - lo).toNat,?_,λb hb=>?_,q⟩
 ·have d:lo+(~~~(0)) * 1=lo:=by simp
  have f:(~~~((hi - lo).toNat)) - (~~~(0))=Builtin.Range.rangeSize lo hi 1:=by rw[WB];split <;> lia
  show IsRangeIter _ _ (lo+(~~~(0)) * 1) ((~~~((hi - lo).toNat)) - (~~~(0))) 1;rw[d,f];exact ä _ rfl
 ·have e:b=(s.heap.push { cls:=.type "range",data:=.fields #[.int lo t,.int hi u,.int 1 v]}).objs.size:=↑hb
  subst e;exact c.Gv (Ì _) (c.hok.fresh (Ì _))
def Zn(a:TA):TI:=λσ H R=>a σ H λvs H1=>∃j:Int,vs=[.int j]/\-(2 ^ 62)<=j/\j<2 ^ 62/\R (Itr 0 j.toNat) H1
def Zm(a:TA):TI:=λσ H R=>a σ H λvs H1=>∃i j:Int,vs=[.int i,.int j]/\(-(2 ^ 62)<=i/\i<2 ^ 62/\-(2 ^ 62)<=j/\j<2 ^ 62)/\R (Itr i (j - i).toNat) H1
def xg{a:YE}{d:TA}{p pos:Pos}(hg:Gl X "range")(hm:X.mg "range"=none)(ha:PA X [a] d)(hs:YI [a] X.env=[(false,YN a X.env)]:=by rfl):PI X tg (.Call (.Name "range" p) [a] [] pos) (Zn d):=by
 intro b s σ H R I h;refine Call_ (jf I hg hm WE (ĳ (thn (ha pos b s σ H _ I h) λus s1 ⟨vs,H1,I1,r1,c⟩=>?_) hs rfl));let⟨j,e,c,f,q⟩:=c;subst e;cases r1 with
 |cons r rr =>
  cases rr;let⟨t,rfl⟩:=r;exact call_range_1 (Cj I1 () () c f ↑q)
def Jw{a b:YE}{g:TA}{p pos:Pos}(hg:Gl X "range")(hm:X.mg "range"=none)(ha:PA X [a,b] g)(hs:YI [a,b] X.env=[(false,YN a X.env),(false,YN b X.env)]:=by rfl)(c:YI [b] X.env=[(false,YN b X.env)]:=by rfl) :
  PI X tg (.Call (.Name "range" p) [a,b] [] pos) (Zm g):=by
 intro d s σ H R I h;refine Call_ (jf I hg hm WE (ĳ (thn (ha pos d s σ H _ I h) λus s1 ⟨vs,H1,I1,r1,f⟩=>?_) (by rw[hs,c]) (by rw[c];rfl)));let⟨i,j,e,⟨f,k,l,m⟩,q⟩:=f;subst e;cases r1 with
 |cons r rr =>
  cases rr with
  |cons r' rr =>
   cases rr;let⟨t,rfl⟩:=r;let⟨t',rfl⟩:=r';exact call_range_2 (Cj I1 f k l m q)
def aaA(b:TI)(g:TG)(a:TS):TS:=λD σ H=>b σ H λJ H1=>∃W:Nat->Nat->St->Hp->Prop,(∃m,W 0 m σ H1)/\∀i m σ H,W i m σ H ->
 (J.stop i H/\D.nx σ H)\/(J.go i H/\∃N:St->Hp->Prop,(∀σ' H',N σ' H'->∃m',m'<m/\W (i+1) m' σ' H')/\∀x H',J.yld i H x H'->g x σ H' λσ2 H2=>a { D with nx:=N,ct:=N,bk:=D.nx } σ2 H2)
def j9(a:List Addr)(h:Heap):fF:=a.filterMap λb=>(h.get? b).map λo=>(b,o)
def jQ{a:List Addr}{h:Heap}{b:Addr}{o:Obj}(hb:b∈a)(e:h.get? b=some o):(b,o)∈j9 a h:=Ŧ.mpr ⟨b,hb,by rw[e];rfl⟩
def xu{a:List Addr}{h:Heap}{p:Addr×Obj}(hp:p∈j9 a h):p.1∈a/\h.get? p.1=some p.2:=by
 let⟨b,hb,e⟩:=Ŧ.mp hp;cases q:h.get? b with
 |none=>rw[q]at e;cases e
 |some o =>
  rw[q]at e;have c:(b,o)=p:=ß e;subst c;exact⟨hb,q⟩
def Inv.pinned{a:fF}{σ:St}{H:Hp}{s:Shared}{c:List Addr}(I:Inv X a σ H s)(j:∀b∈c,wA X a H b)(k:∀b∈c,∃o,s.heap.get? b=some o/\∀v,o.data≠.cell v):Inv X (a++j9 c s.heap) σ H s :=
 I.sY λp hp=>(Û.mp hp).elim (λz=>I.pin p (î _ z)) λz=>by
  let⟨hb,e⟩:=xu z;let⟨g,h,i,_⟩:=j p.1 hb;let⟨o,f,d⟩:=k p.1 hb;rw[e]at f;cases f;exact⟨e,g,h,i,d⟩
def Inv.pA{a b:fF}{σ:St}{H:Hp}{s:Shared}(I:Inv X (a++b) σ H s):Inv X a σ H s:=I.sY λp hp=>I.pin p (î _ (ċ _ hp))
def Ft{p:YE}{y:List XB}{U:TI}{g:TG}{R:TS}{pos:Pos}(hp:X9 (model X.prog X.w) X.A X.env X.xe)(hc:X.calm=true)(hi:PI X tg p U)(hg:PG X tg g)(hb:PSs X y R)(hs:∀x,YR p X.env x=pure x:=by intro _;rfl):PS X (.For tg p y [] pos) (aaA U g R):=by
 intro a s σ H D I h;refine wpAny_For (thn (hi a s σ H _ I h) λv s1 h1=>thn h1 λitv s2 h2=>?_) hs;let⟨it,B,S,J,V,e,Y,T,O,Q,W,⟨m0,w0⟩,K⟩:=h2;subst e
 -- what stays true of the iterator's objects through the loop
 have q:∀{H':Hp},(∀b∈B,H' b=none)->∀b∈B,wA X a H' b:=λhn b hb=>⟨hn b hb,(Q b hb).2⟩
 refine codeAny_forLoop_any (λn s'=>∃i σ' H',Inv X a σ' H' s'/\S i s'.heap/\(∀b∈B,H' b=none)/\W i n σ' H') ?_ m0 ⟨0,σ,V,Y,O,λb hb=>(Q b hb).1,w0⟩;rintro n s3 ⟨i,t,L,P,F,C,w3⟩;rcases K i n t L w3 with⟨G,qn⟩|⟨Z,N,hN,step⟩
 ·refine We hp (thn (T.done X rfl rfl rfl hc i a s3 t L X.xe P (q C) F G) λr s4 ⟨hr,I4⟩=>?_);subst hr;exact XU ⟨t,L,I4,qn⟩
 ·refine We hp (thn (T.item X rfl rfl rfl hc i a s3 t L X.xe P (q C) F Z) λr s4 ⟨u,hr,h4⟩=>?_);subst hr;refine We hp (thn h4 λ_ s5 ⟨x,H5,I5,r5,y5,st5,fr5⟩=>?_);have M:=I5.pinned (q fr5) (T.obj _ _ st5);refine We hp (thn (hg _ s5 t H5 x u _ M r5 (step x H5 y5)) λ_ s6 ⟨σ6,H6,I6,q6⟩=>?_);refine We hp (thn (hb _ s6 σ6 H6 _ I6 q6) λf s7 z=>?_);have l:∀{c:St}{j:Hp},Inv X (a++j9 B s5.heap) c j s7->N c j->∃m,m<n/\∃i σ' H',Inv X a σ' H' s7/\S i s7.heap/\(∀b∈B,H' b=none)/\W i m σ' H':=λ{c j} k E=>by
   let⟨m',hm,w7⟩:=hN c j E;refine⟨m',hm,i+1,c,j,k.pA,T.keep _ _ _ st5 λb hb o e=>(k.pin (b,o) (î _ (î _ (jQ hb e)))).1,λb hb=>?_,w7⟩;let⟨o,e,d⟩:=T.obj _ _ st5 b hb;exact(k.pin (b,o) (î _ (î _ (jQ hb e)))).2.1
  cases f with
  |next=>let⟨c,j,k,E⟩:=z;exact l k E
  |cont=>let⟨c,j,k,E⟩:=z;exact l k E
  |brk=>let⟨c,j,k,z⟩:=z;exact⟨c,j,k.pA,z⟩
  |ret v=>let⟨x7,c,j,k,r7,z⟩:=z;exact⟨x7,c,j,k.pA,r7,z⟩
end
def xU{lo:Int}{n:Nat}{g:TG}{c:TS}{D:Ends}{σ:St}{H:Hp}(a:Nat->St->Hp->Prop)(d:a 0 σ H)(hs:∀i σ H,i<n->a i σ H->g (.int (lo+i)) σ H λσ2 H2=>c { D with nx:=a (i+1),ct:=a (i+1),bk:=D.nx } σ2 H2)(hd:∀σ H,a n σ H->D.nx σ H) :
  ∃W:Nat->Nat->St->Hp->Prop,(∃m,W 0 m σ H)/\∀i m σ H,W i m σ H ->
   ((Itr lo n).stop i H/\D.nx σ H)\/((Itr lo n).go i H/\∃N:St->Hp->Prop,(∀σ' H',N σ' H'->∃m',m'<m/\W (i+1) m' σ' H')/\∀x H',(Itr lo n).yld i H x H'->g x σ H' λσ2 H2=>c { D with nx:=N,ct:=N,bk:=D.nx } σ2 H2):=by
 refine⟨λi m σ H=>m=n - i/\i<=n/\a i σ H,⟨n,by simp,ą _,d⟩,?_⟩;rintro i m σ H ⟨rfl,hi,p⟩;by_cases b:i<n
 ·refine .inr ⟨b,a (i+1),λσ' H' p'=>⟨n - (i+1),(),rfl,b,p'⟩,λx H' y=>?_⟩;let⟨e,y⟩:=y;subst e y;exact hs i σ _ b p
 ·have e:i=n:=()
  subst e;exact .inl ⟨Ì _,hd σ H p⟩
abbrev R2:=V->V->Hp->VK->Prop
def OpR(X:Cx)(f:Value->Value->Sem Value)(r:R2):Prop :=
 ∀(pins:fF)(s:Shared)(σ:St)(H:Hp)(x y:V)(v u:Value)(Q:VK),Inv X pins σ H s->RelV x v->RelV y u->r x y H Q ->
  wpAny (model X.prog X.w) X.A (f v u) (EP X pins σ Q) X.xe s
def UnR(X:Cx)(f:Value->Sem Value)(r:V->Hp->VK->Prop):Prop :=
 ∀(pins:fF)(s:Shared)(σ:St)(H:Hp)(x:V)(v:Value)(Q:VK),Inv X pins σ H s->RelV x v->r x H Q ->
  wpAny (model X.prog X.w) X.A (f v) (EP X pins σ Q) X.xe s
def bU(X:Cx)(f:Value)(r:List V->Hp->VK->Prop):Prop :=
 ∀(pins:fF)(s:Shared)(σ:St)(H:Hp)(xs:List V)(us:fT)(Q:VK),Inv X pins σ H s->Vals xs us->r xs H Q ->
  wpAny (model X.prog X.w) X.A (WF f us) (EP X pins σ Q) X.xe s
def aa5(X:Cx)(r:V->Hp->(Bool->Hp->Prop)->Prop):Prop :=
 ∀(pins:fF)(s:Shared)(σ:St)(H:Hp)(x:V)(v:Value)(Q:Bool->Hp->Prop),Inv X pins σ H s->RelV x v->r x H Q ->
  wpAny (model X.prog X.w) X.A (XT v) (TP X pins σ Q) X.xe s
def tOp(r:R2)(a b:TE):TE:=λσ H Q=>a σ H λx H1=>b σ H1 λy H2=>r x y H2 Q
def tUn(r:V->Hp->VK->Prop)(a:TE):TE:=λσ H Q=>a σ H λx H1=>r x H1 Q
def rI(C:Int->Int->Prop)(g:Int->Int->V):R2:=λx y H Q=>∃i j,x=.int i/\y=.int j/\C i j/\Q (g i j) H
def rI0(g:Int->Int->V):R2:=λx y H Q=>∃i j,x=.int i/\y=.int j/\Q (g i j) H
def rU(g:Int->V):V->Hp->VK->Prop:=λx H Q=>∃i,x=.int i/\Q (g i) H
section
variable{a b c:YE}{ta tb tc:TE}{pos:Pos}
def Xx(ha:PE X a ta)(hb:PE X b tb){d:fF}{s:Shared}{σ:St}{H:Hp}{R:V->V->Hp->Prop}(I:Inv X d σ H s)(h:ta σ H λx H1=>tb σ H1 λy H2=>R x y H2){Q:fA}{f:Value->Value->Sem Value}(e:∀v u s2 x y H2,Inv X d σ H2 s2->RelV x v->RelV y u->R x y H2->wpAny (model X.prog X.w) X.A (f v u) Q X.xe s2) :
  wpAny (model X.prog X.w) X.A (YN a X.env) (λv s₁=>wpAny (model X.prog X.w) X.A (YN b X.env) (λu s₂=>wpAny (model X.prog X.w) X.A (f v u) Q X.xe s₂) X.xe s₁) X.xe s:=by
 refine thn (ha d s σ H _ I h) λv s1 ⟨x,H1,I1,r1,q1⟩=>?_;refine thn (hb d s1 σ H1 _ I1 q1) λu s2 ⟨y,H2,I2,r2,q2⟩=>?_;exact e v u s2 x y H2 I2 r1 r2 q2
def cL{e:Operator}{r:R2}(f:OpR X (WG e) r)(ha:PE X a ta)(hb:PE X b tb):PE X (.BinOp a e b pos) (tOp r ta tb):=by
 intro d s σ H Q I h;exact wpAny_BinOp (Xx ha hb I h λv u s2 x y H2 I2 rx ry q=>f d s2 σ H2 x y v u Q I2 rx ry q)
def T7{e:UnaryOp}{r:V->Hp->VK->Prop}(f:UnR X (unaryOp e) r)(ha:PE X a ta):PE X (.UnaryOp e a pos) (tUn r ta):=by
 intro d s σ H Q I h;exact UnaryOp_ (thn (ha d s σ H _ I h) λv s1 ⟨x,H1,I1,r1,q1⟩=>f d s1 σ H1 x v Q I1 r1 q1)
def opI{f:Value->Value->Sem Value}{C:Int->Int->Prop}{g:Int->Int->Int}(d:∀(i j:Int)(t u:Tok)(s:Shared)(Q:fA)(E:fA),C i j->Q (.int (g i j) s.toks) { s with toks:=s.toks+1 }->wpAny (model X.prog X.w) X.A (f (.int i t) (.int j u)) Q E s) :
  OpR X f (rI C λi j=>.int (g i j)):=by
 intro e s σ H x y v u Q I k l h;let⟨i,j,rfl,rfl,hc,q⟩:=h;let⟨t,rfl⟩:=k;let⟨t',rfl⟩:=l;exact d i j t t' s _ _ hc ⟨.int (g i j),H,I.tok _,⟨_,rfl⟩,q⟩
def V8{f:Value->Value->Sem Value}{g:Int->Int->Int}(d:∀(i j:Int)(t u:Tok)(s:Shared)(Q:fA)(E:fA),Q (.int (g i j) s.toks) { s with toks:=s.toks+1 }->wpAny (model X.prog X.w) X.A (f (.int i t) (.int j u)) Q E s) :
  OpR X f (rI0 λi j=>.int (g i j)):=by
 intro e s σ H x y v u Q I k l h;let⟨i,j,rfl,rfl,q⟩:=h;let⟨t,rfl⟩:=k;let⟨t',rfl⟩:=l;exact d i j t t' s _ _ ⟨.int (g i j),H,I.tok _,⟨_,rfl⟩,q⟩
def RG{f:Value->Value->Sem Value}{g:Int->Int->Bool}(d:∀(i j:Int)(t u:Tok)(s:Shared)(Q:fA)(E:fA),Q (.bool (g i j)) s->wpAny (model X.prog X.w) X.A (f (.int i t) (.int j u)) Q E s) :
  OpR X f (rI0 λi j=>.bl (g i j)):=by
 intro e s σ H x y v u Q I k l h;let⟨i,j,rfl,rfl,q⟩:=h;let⟨t,rfl⟩:=k;let⟨t',rfl⟩:=l;exact d i j t t' s _ _ ⟨.bl (g i j),H,I,rfl,q⟩
def aas(i j:Int):Prop:=0<j/\j<1073741824
def abb(i j:Int):Prop:=0<=j/\j<=1000000/\i.natAbs<2 ^ 64
def QF(i j:Int):Prop:=(-(2 ^ 64)<i/\i<2 ^ 64)\/(-(2 ^ 64)<j/\j<2 ^ 64)
def QF.ok{i j:Int}(h:QF i j):IntMulOk i j:=by
 rcases h with⟨h1,h2⟩|⟨h1,h2⟩
 ·exact .of_left (WH h1 h2)
 ·exact .of_right (WH h1 h2)
def jO:OpR X (WG .Add) (rI0 λi j=>.int (i+j)):=V8 λ_ _ _ _ _ _ _ q=>add_int q
def V6:OpR X (WG .Sub) (rI0 λi j=>.int (i - j)):=V8 λ_ _ _ _ _ _ _ q=>sub_int q
def oW:OpR X (WG .Mult) (rI QF λi j=>.int (i * j)):=opI λ_ _ _ _ _ _ _ hc q=>mul_int q hc.ok
def zm:OpR X (WG .FloorDiv) (rI aas λi j=>.int (i / j)):=opI λi j _ _ _ _ _ hc q=>by
 have h1:(0:Int)<j:=hc.1;have h2:j<1073741824:=hc.2;exact floordiv_int () (by rw[Int.fdiv_eq_ediv_of_nonneg i ()];exact q) (.inl (PyProof.noPylong_small ()))
def jN:OpR X (WG .Mod) (rI (λ_ j=>0<j) λi j=>.int (i % j)):=opI λi j _ _ _ _ _ hc q=>by
 have h1:(0:Int)<j:=hc;exact mod_int' () (by rw[Int.fmod_eq_emod_of_nonneg i ()];exact q)
def Ni:OpR X (WG .Pow) (rI abb λi j=>.int (i ^ j.toNat)):=opI λ_ _ _ _ _ _ _ hc q=>pow_int_small hc.1 hc.2.1 hc.2.2 q
def V7:OpR X (WG .BitAnd) (rI0 λi j=>.int (Builtin.bitAnd i j)):=V8 λ_ _ _ _ _ _ _ q=>and_int q
def unI{f:Value->Sem Value}{g:Int->Int}(d:∀(i:Int)(t:Tok)(s:Shared)(Q:fA)(E:fA),Q (.int (g i) s.toks) { s with toks:=s.toks+1 }->wpAny (model X.prog X.w) X.A (f (.int i t)) Q E s) :
  UnR X f (rU λi=>.int (g i)):=by
 intro e s σ H x v Q I j h;let⟨i,rfl,q⟩:=h;let⟨t,rfl⟩:=j;exact d i t s _ _ ⟨.int (g i),H,I.tok _,⟨_,rfl⟩,q⟩
def K5:UnR X (unaryOp .USub) (rU λi=>.int (-i)):=unI λ_ _ _ _ _ q=>neg_int q
def Yl:V->V->Bool
 |.non,.non=>true|.non,.int _=>true|.int _,.non=>true|.non,.bl _=>true|.bl _,.non=>true|.non,.str _=>true|.str _,.non=>true
 |.int _,.int _=>true|.bl _,.bl _=>true|.str _,.str _=>true|.byt _,.byt _=>true
 |.int _,.str _=>true|.str _,.int _=>true|.bl _,.str _=>true|.str _,.bl _=>true
 |_,_=>false
def rEq:R2:=λx y H Q=>Yl x y=true/\Q (.bl (decide (x=y))) H
def rNe:R2:=λx y H Q=>Yl x y=true/\Q (.bl (!decide (x=y))) H
def Ja{i j:Int}:decide (V.int i=V.int j)=(i==j):=by
 rw[ă];simp
def Qe{i j:Bool}:decide (V.bl i=V.bl j)=(i==j):=by
 rw[ă];simp
def I9{i j:Str}:decide (V.str i=V.str j)=(i==j):=by
 rw[ă];simp
def Jb{i j:Array UInt8}:decide (V.byt i=V.byt j)=(i.toList==j.toList):=by
 rw[ă];cases i;cases j;simp
def aQ{d:fF}{σ:St}{H:Hp}{s:Shared}{Q:VK}{k f:Bool}(I:Inv X d σ H s)(q:Q (.bl k) H)(e:k=f):EP X d σ Q (.bool f) s:=by
 subst e;exact⟨.bl k,H,I,rfl,q⟩
def xr:OpR X (XI .Eq) rEq:=by
 intro f s σ H x y v u Q I e d h;let⟨hs,q⟩:=h;cases x with
 |non =>
  cases e;cases y with
  |non=>cases d;exact PySem.EqNone.eq_none_none (aQ I q (by simp))
  |bl j=>cases d;exact PySem.EqNone.eq_none_bool (aQ I q (by simp))
  |int j=>let⟨t',rfl⟩:=d;exact PySem.EqNone.eq_none_int (aQ I q (by simp))
  |str j=>let⟨t',rfl⟩:=d;exact PySem.EqNone.eq_none_str (aQ I q (by simp))
  |_=>exact ft (show false=true from hs) Ù
 |bl i =>
  cases e;cases y with
  |non=>cases d;exact PySem.EqNone.eq_bool_none (aQ I q (by simp))
  |bl j=>cases d;exact eq_bool (aQ I q Qe)
  |str j=>let⟨t',rfl⟩:=d;exact PySem.EqMixed.eq_bool_str (aQ I q (by simp))
  |_=>exact ft (show false=true from hs) Ù
 |int i =>
  let⟨t,rfl⟩:=e;cases y with
  |non=>cases d;exact PySem.EqNone.eq_int_none (aQ I q (by simp))
  |int j=>let⟨t',rfl⟩:=d;exact eq_int (aQ I q Ja)
  |str j=>let⟨t',rfl⟩:=d;exact PySem.EqMixed.eq_int_str (aQ I q (by simp))
  |_=>exact ft (show false=true from hs) Ù
 |str i =>
  let⟨t,rfl⟩:=e;cases y with
  |non=>cases d;exact PySem.EqNone.eq_str_none (aQ I q (by simp))
  |bl j=>cases d;exact PySem.EqMixed.eq_str_bool (aQ I q (by simp))
  |int j=>let⟨t',rfl⟩:=d;exact PySem.EqMixed.eq_str_int (aQ I q (by simp))
  |str j=>let⟨t',rfl⟩:=d;exact eq_str (aQ I q I9)
  |_=>exact ft (show false=true from hs) Ù
 |byt i =>
  let⟨t,rfl⟩:=e;cases y with
  |byt j=>let⟨t',rfl⟩:=d;exact W.eq_bytes (aQ I q Jb)
  |_=>exact ft (show false=true from hs) Ù
 |_=>cases y <;> exact ft (show false=true from hs) Ù
def HN:OpR X (XI .NotEq) rNe:=by
 intro f s σ H x y v u Q I e d h;let⟨hs,q⟩:=h;cases x with
 |non =>
  cases e;cases y with
  |non=>cases d;exact PySem.EqNone.ne_none_none (aQ I q (by simp))
  |bl j=>cases d;exact PySem.EqNone.ne_none_bool (aQ I q (by simp))
  |int j=>let⟨t',rfl⟩:=d;exact PySem.EqNone.ne_none_int (aQ I q (by simp))
  |str j=>let⟨t',rfl⟩:=d;exact PySem.EqNone.ne_none_str (aQ I q (by simp))
  |_=>exact ft (show false=true from hs) Ù
 |bl i =>
  cases e;cases y with
  |non=>cases d;exact PySem.EqNone.ne_bool_none (aQ I q (by simp))
  |bl j=>cases d;exact ne_bool (aQ I q (fv not Qe))
  |str j=>let⟨t',rfl⟩:=d;exact PySem.EqMixed.ne_bool_str (aQ I q (by simp))
  |_=>exact ft (show false=true from hs) Ù
 |int i =>
  let⟨t,rfl⟩:=e;cases y with
  |non=>cases d;exact PySem.EqNone.ne_int_none (aQ I q (by simp))
  |int j=>let⟨t',rfl⟩:=d;exact ne_int (aQ I q (fv not Ja))
  |str j=>let⟨t',rfl⟩:=d;exact PySem.EqMixed.ne_int_str (aQ I q (by simp))
  |_=>exact ft (show false=true from hs) Ù
 |str i =>
  let⟨t,rfl⟩:=e;cases y with
  |non=>cases d;exact PySem.EqNone.ne_str_none (aQ I q (by simp))
  |bl j=>cases d;exact PySem.EqMixed.ne_str_bool (aQ I q (by simp))
  |int j=>let⟨t',rfl⟩:=d;exact PySem.EqMixed.ne_str_int (aQ I q (by simp))
  |str j=>let⟨t',rfl⟩:=d;exact ne_str (aQ I q (fv not I9))
  |_=>exact ft (show false=true from hs) Ù
 |byt i =>
  let⟨t,rfl⟩:=e;cases y with
  |byt j=>let⟨t',rfl⟩:=d;exact W.ne_bytes (aQ I q (fv not Jb))
  |_=>exact ft (show false=true from hs) Ù
 |_=>cases y <;> exact ft (show false=true from hs) Ù
def ou:OpR X (XI .Lt) (rI0 λi j=>.bl (decide (i<j))):=RG λ_ _ _ _ _ _ _ q=>lt_int q
def T9:OpR X (XI .LtE) (rI0 λi j=>.bl (decide (i<=j))):=RG λ_ _ _ _ _ _ _ q=>le_int q
def Ua:OpR X (XI .Gt) (rI0 λi j=>.bl (decide (j<i))):=RG λ_ _ _ _ _ _ _ q=>gt_int q
def Nm:OpR X (XI .GtE) (rI0 λi j=>.bl (decide (j<=i))):=RG λ_ _ _ _ _ _ _ q=>ge_int q
def cG(b:YE){d:XG}(h:d≠.In:=by decide)(h2:d≠.NotIn:=by decide):XN d b=false:=by
 have e:(d==CmpOp.In)=false:=by cases d <;> first|rfl|exact ft rfl h
 have f:(d==CmpOp.NotIn)=false:=by cases d <;> first|rfl|exact ft rfl h2
 cases b <;> simp[XN,e,f]
def Rv{e:XG}{r:R2}(f:OpR X (XI e) r)(ha:PE X a ta)(hb:PE X b tb)(hm:XN e b=false):PE X (.Compare a [e] [b] pos) (tOp r ta tb):=by
 intro d s σ H Q I h;exact wpAny_Compare1 (Xx ha hb I h λv u s2 x y H2 I2 rx ry q=>f d s2 σ H2 x y v u Q I2 rx ry q) hm
def K9(t:TE):TT:=λσ H Q=>t σ H λx H'=>∃k,x=.bl k/\Q k H'
def mQ{f:XG}{r:R2}(g:OpR X (XI f) r)(ha:PE X a ta)(hb:PE X b tb)(hm:XN f b=false):PT X (.Compare a [f] [b] pos) (K9 (tOp r ta tb)):=by
 intro d s σ H Q I h;refine XO (thn (ha d s σ H _ I h) λv s1 ⟨x,H1,I1,r1,q1⟩=>thn (hb d s1 σ H1 _ I1 q1) λu s2 ⟨y,H2,I2,r2,q2⟩ =>
  thn (g d s2 σ H2 x y v u _ I2 r1 r2 q2) λc s3 ⟨z,H3,I3,r3,k,e,q3⟩=>?_) hm
 subst e;cases r3;exact ĭ ⟨H3,I3,q3⟩
def ux(r d:R2)(ta tb tc:TE):TE:=λσ H Q=>ta σ H λx H1=>tb σ H1 λy H2=>r x y H2 λz H3=>∃k,z=.bl k /\
 (if k=true then tc σ H3 λw' H4=>d y w' H4 Q else Q (.bl false) H3)
def Mx{j g:XG}{r l:R2}(m:OpR X (XI j) r)(i:OpR X (XI g) l)(ha:PE X a ta)(hb:PE X b tb)(hc:PE X c tc)(hm:WI [j,g] [b,c]=false:=by with_unfolding_all rfl):PE X (.Compare a [j,g] [b,c] pos) (ux r l ta tb tc):=by
 intro f s σ H Q I h;refine Compare_chain (thn (ha f s σ H _ I h) λv s1 ⟨x,H1,I1,r1,q1⟩=>chain_link (thn (hb f s1 σ H1 _ I1 q1) λu s2 ⟨y,H2,I2,r2,q2⟩ =>
  thn (m f s2 σ H2 x y v u _ I2 r1 r2 q2) λd s3 ⟨z,H3,I3,r3,k,e,q3⟩=>?_)) hm
 subst e;cases r3;refine ĭ ?_;cases k with
 |false=>exact ite_ff ⟨.bl false,H3,I3,rfl,q3⟩
 |true=>exact ite_tt (chain_last (thn (hc f s3 σ H3 _ I3 q3) λw' s4 ⟨z',H4,I4,r4,q4⟩=>i f s4 σ H4 y z' u w' Q I4 r2 r4 q4))
def uK{j g:XG}{r l:R2}(n:OpR X (XI j) r)(i:OpR X (XI g) l)(ha:PE X a ta)(hb:PE X b tb)(hc:PE X c tc)(hm:WI [j,g] [b,c]=false:=by with_unfolding_all rfl):PT X (.Compare a [j,g] [b,c] pos) (K9 (ux r l ta tb tc)):=by
 intro f s σ H Q I h;refine isTrue_chain (thn (ha f s σ H _ I h) λv s1 ⟨x,H1,I1,r1,q1⟩=>test_link (thn (hb f s1 σ H1 _ I1 q1) λu s2 ⟨y,H2,I2,r2,q2⟩ =>
  thn (n f s2 σ H2 x y v u _ I2 r1 r2 q2) λd s3 ⟨z,H3,I3,r3,k,e,q3⟩=>?_)) hm
 subst e;cases r3;refine ĭ ?_;cases k with
 |false =>
  let⟨p,m,o⟩:=q3;cases m;exact ite_ff ⟨H3,I3,o⟩
 |true =>
  refine ite_tt (test_last (thn (hc f s3 σ H3 _ I3 q3) λw' s4 ⟨z',H4,I4,r4,q4⟩=>thn (i f s4 σ H4 y z' u w' _ I4 r2 r4 q4) λd' s5 ⟨z2,H5,I5,r5,k2,e2,q5⟩=>?_));subst e2;cases r5;exact ĭ ⟨H5,I5,q5⟩
def aan(K:Ý)(x:V)(H:Hp)(k:Bool):Prop :=
 match x with
 |.non=>k=false
 |.bl b=>k=b
 |.int i=>k=(i != 0)
 |.str y=>⇑y<=sizeLine/\k=((⇑y:Int) != 0)
 |.byt y=>y.size<=sizeLine/\k=((y.size:Int) != 0)
 |.ref p=>(∃xs,SqL K H p xs/\k=!xs.isEmpty)\/(∃xs,SqT K H p xs/\k=!xs.isEmpty)\/∃kvs,H p=some (.dK kvs)/\k=!kvs.isEmpty
 |_=>False
def Gn{κ:Type}{d:List (κ×V)}{vs:List (κ×Value)}(r:KV d vs):(!vs.isEmpty)=!d.isEmpty:=by
 cases r <;> rfl
def vJ{xs:List V}{its:fT}(r:Vals xs its):(!its.toArray.isEmpty)=!xs.isEmpty:=by
 cases r <;> simp
def vB:(sizeLine:Nat)<2 ^ 63:=by rw[õ];decide
def Vd:aa5 X (λx H Q=>∃k,aan X.K x H k/\Q k H):=by
 intro u s σ H x v Q I j h;let⟨k,e,q⟩:=h;have hl:=vB;have hs:sizeLine=16777216:=õ;cases x with
 |non =>
  cases j;have d:k=false:=e;subst d;exact truthy_none ⟨H,I,q⟩
 |bl b =>
  cases j;have d:k=b:=e;subst d;exact ĭ ⟨H,I,q⟩
 |int i =>
  let⟨t,rfl⟩:=j;have d:k=(i != 0):=e;subst d;exact PySem.P.truthy_int ⟨H,I,q⟩
 |str y =>
  let⟨t,rfl⟩:=j;obtain⟨A,d⟩:⇑y<=sizeLine/\k=((⇑y:Int) != 0):=e;subst d;exact PySem.P.truthy_str () ⟨H,I.tok _,q⟩
 |byt y =>
  let⟨t,rfl⟩:=j;obtain⟨A,d⟩:y.size<=sizeLine/\k=((y.size:Int) != 0):=e;subst d;exact W.truthy_bytes () ⟨H,I.tok _,q⟩
 |ref p =>
  cases j;have d:(∃xs,SqL X.K H p xs/\k=!xs.isEmpty)\/(∃xs,SqT X.K H p xs/\k=!xs.isEmpty)\/∃f,H p=some (.dK f)/\k=!f.isEmpty:=e;rcases d with⟨xs,l,d⟩|⟨xs,l,d⟩|⟨f,l,d⟩
  ·subst d;let⟨its,r,n,o⟩:=I.list l;have g:=⇑r;exact wpAny_truthy_list n.isList (by simp only[Ñ];lia) ⟨H,I.tok _,by rw[vJ r];exact q⟩
  ·subst d;let⟨its,r,n,o⟩:=I.tuple l;have g:=⇑r;exact truthy_tuple n (by simp only[Ñ];lia) ⟨H,I.tok _,by rw[vJ r];exact q⟩
  ·subst d;obtain⟨o,z,vs,r,m⟩:⇑f<=sizeLine/\(p==ZU)=false/\∃vs,KV f vs/\s.heap.DictOf (cj X.prog X.w) p vs:=I.hok p _ l;have g:⇑f=⇑vs:=Paired.length r;exact wpAny_truthy_dict z m () ⟨H,I.tok _,by rw[Gn r];exact q⟩
 |_=>exact(show False from e).elim
def LQ(ha:PE X a ta)(he:∀whole,Xs a X.env whole=(do let v ←whole;standAt a.pos;holding [v] (XT v))) :
  PT X a (λσ H Q=>ta σ H λx H'=>∃k,aan X.K x H' k/\Q k H'):=by
 intro d s σ H Q I h;exact isTrue_plain (thn (ha d s σ H _ I h) λv s1 ⟨x,H1,I1,r1,q1⟩=>Vd d s1 σ H1 x v Q I1 r1 q1) (he _)
def vals1{x:V}{d:fT}(r:Vals [x] d):∃u,d=[u]/\RelV x u:=by
 cases r with
 |cons e f=>cases f;exact⟨_,rfl,e⟩
def vals2{x y:V}{d:fT}(r:Vals [x,y] d):∃u w',d=[u,w']/\RelV x u/\RelV y w':=by
 cases r with
 |cons r1 r2 =>
  cases r2 with
  |cons e f=>cases f;exact⟨_,_,rfl,r1,e⟩
def Em:bU X (.builtin "abs") (λxs H Q=>∃i,xs=[.int i]/\Q (.int (if i<0 then -i else i)) H):=by
 intro d s σ H xs e Q I r h;let⟨i,rfl,q⟩:=h;let⟨u,rfl,t,rfl⟩:=vals1 r;exact call_abs_int λu tk=>⟨.int (if i<0 then -i else i),H,I.tok _,⟨_,rfl⟩,q⟩
def Ku(hc:X.calm=true):bU X (.builtin "max") (λxs H Q=>∃i j,xs=[.int i,.int j]/\Q (.int (if j > i then j else i)) H):=by
 intro e s σ H xs f Q I r h;let⟨i,j,rfl,q⟩:=h;let⟨u,g,rfl,⟨t,rfl⟩,⟨t',rfl⟩⟩:=vals2 r;refine max_two_ints (I.ok.hd hc) λh' tk k=>⟨_,H,I.kept k,?_,q⟩
 by_cases d:j > i
 ·rw[fo d,fo d];exact⟨_,rfl⟩
 ·rw[fq d,fq d];exact⟨_,rfl⟩
def Ks(hc:X.calm=true):bU X (.builtin "min") (λxs H Q=>∃i j,xs=[.int i,.int j]/\Q (.int (if j<i then j else i)) H):=by
 intro e s σ H xs f Q I r h;let⟨i,j,rfl,q⟩:=h;let⟨u,g,rfl,⟨t,rfl⟩,⟨t',rfl⟩⟩:=vals2 r;refine min_two_ints (I.ok.hd hc) λh' tk k=>⟨_,H,I.kept k,?_,q⟩
 by_cases d:j<i
 ·rw[fo d,fo d];exact⟨_,rfl⟩
 ·rw[fq d,fq d];exact⟨_,rfl⟩
end
structure ObjM(h:Heap)(x dx C:Addr)(mA:Str->gf):Prop where
 obj:h.get? x=some (W.instObj C dx)
 ns:h.Ns1 dx mA
 ne:dx≠x
def JW{h:Heap}{c:Addr}{d:Str->gf}(n:h.Ns1 c d):∃od,h.get? c=some od/\∀name,W.lookIn name od=some (d name):=by
 let⟨o,es,j,g,hd,hk,_,hm⟩:=n;refine⟨o,g,λname=>?_⟩;have e:=hm name;unfold nsFind findBy at e;rw[←Array.find?_toList]at e;unfold W.lookIn;rw[hd];dsimp only;split
 ·rename_i y q;rw[q]at e;exact fv some e
 ·rename_i q;rw[q]at e;have a:es.toList.any (·.refKey)=false:=by
   rw[List.any_eq_false];intro y i;let⟨z,t,b⟩:=hk y (Array.mem_toList_iff.mp i);simp[DictEntry.refKey,b]
  have f:¬es.toList.any (·.refKey)=true:=by rw[a];exact Ù
  rw[fq f];exact fv some e
def ObjM.look{h:Heap}{x a C:Addr}{b:Str->gf}(I:ObjM h x a C b):∃od,W.InstAt h x (W.instObj C a) C (some od)/\∀name,W.lookIn name od=some (b name) :=
 let⟨od,ho,hl⟩:=JW I.ns
 ⟨od,⟨I.obj,rfl,rfl,ho⟩,hl⟩
section
variable{prog:Zg}{w:Zl}{A:Ys}{E:fA}{s:Shared}{K:Ý}{x dx C f:Addr}{mA:Str->gf}{name:Str}{v:Value}
end
def wz.some_of{v:V}{o:gf}(r:wz (some v) o):∃u,o=some u/\RelV v u:=by
 cases o with
 |none=>exact(show False from r).elim
 |some u=>exact⟨u,rfl,r⟩
section
variable{P:Zg}{w:Zl}{H H':Hp}{h h':Heap}{a C dx:Addr}{fs fs':List (Str×V)}
def SM(b:HOk P w H h)(e:H a=some (.ins C dx fs)):∃mA,ObjM h a dx C mA/\(∀f,wz (fs.lookup f) (mA f))/\PySem.Within mA (fs.map (·.1))/\⇑fs<=1000/\H dx=some (.own a):=by
 let⟨d,z,c,g,mA,n,r,q⟩:=(show bA P w H h a (.ins C dx fs)from b a _ e)
 exact⟨mA,⟨g,n,c⟩,r,q,z,d⟩
end
structure Cls(K:Ý)(C:Addr):Prop where
 pg:W.plainGet K C Str.empty=true
 hd:W.hasDictIn K C=true
 po:W.plainOver K C=true
 sa:W.findIn K (.ref C) "__setattr__"=some (some (.builtin "object.__setattr__"))
def Cls.get{K:Ý}{C:Addr}(c:Cls K C)(f:Str):W.plainGet K C f=true:=c.pg
structure Con(K:Ý)(C:Addr)(f:Str)(v:V)(u:Value):Prop where
 at_:W.findIn K (.ref C) f=some (some u)
 rel:RelV v u
 get:W.specialIn K u "__get__"=some none
 cp:W.copiedNames.contains f=false
structure Meth(K:Ý)(C:Addr)(m:Str)(f:Addr):Prop where
 at_:W.findIn K (.ref C) m=some (some (.ref f))
 fn:W.isFn K (.ref f)=true
 kp:W.keepIn K (.ref f)=true
section
variable{pins:fF}{σ:St}{H:Hp}{s:Shared}{a C dx:Addr}{fs:List (Str×V)}{f:Str}{v:V}{A:Ys}{E:fA}
end
section
variable{o e value:YE}{f:Str}{pos pos' tpos:Pos}{ta tv:TE}
end
section
variable{pins:fF}{σ:St}{H:Hp}{s:Shared}{A:Ys}{E:fA}{Q:fA}{c:Value}{b:Bool}
inductive TyOf(K:Ý)(H:Hp):V->Value->Prop where
 |non:TyOf K H .non (.type "NoneType")
 |bl (x:Bool):TyOf K H (.bl x) (.type "bool")
 |int (i:Int):TyOf K H (.int i) (.type "int")
 |str (x:Str):TyOf K H (.str x) (.type "str")
 |flt (x:UInt64):TyOf K H (.flt x) (.type "float")
 |lst {a:Addr}{xs:List V} (e:H a=some (.lst xs)):TyOf K H (.ref a) (.type "list")
 |frz {a:Addr}{o:Obj}{xs:List V} (e:H a=some (.frz o (.lst xs))):TyOf K H (.ref a) (.type "list")
 |tup {a:Addr}{xs:List V} (e:H a=some (.tup xs)):TyOf K H (.ref a) (.type "tuple")
 |dK {a:Addr}{kvs:List (Key×V)} (e:H a=some (.dK kvs)):TyOf K H (.ref a) (.type "dict")
 |dT {a:Addr}{kvs:List (List Key×V)} (e:H a=some (.dT kvs)):TyOf K H (.ref a) (.type "dict")
 |ins {a C dx:Addr}{fs:List (Str×V)} (e:H a=some (.ins C dx fs)) (cl:Cls K C) (ha:W.findIn K (.ref C) "__class__"=some (some (.builtin "object.__class__")))
   (hn:W.specialIn K (.builtin "object.__class__") "__get__"=some (some (.builtin "getset_descriptor.__get__"))) (htk:W.takesIn K (.builtin "object.__class__")=some true)
   (hm:W.mroIn K C (.type "object")=some true):TyOf K H (.ref a) (.ref C)
def J5{x:V}{u t:Value}(I:Inv X pins σ H s)(d:RelV x u)(ty:TyOf X.K H x t)(e:W.kitOne X.K t c=some b)(h:∀tk,Q (.bool b) { s with toks:=tk }) :
  wpAny (model X.prog X.w) A (WF (.builtin "isinstance") [u,c]) Q E s:=by
 cases ty with
 |non=>cases (show u=Ĕ from d);exact W.kia_one W.kitx_none I.kIn Ź e (λz=>nomatch z) h
 |bl y=>cases (show u=Value.bool y from d);exact W.kia_one W.kitx_bool I.kIn Ź e (λz=>nomatch z) h
 |int i=>let⟨t,q⟩:=(show ∃t,u=Ń i t from d);cases q;exact W.kia_one W.kitx_int I.kIn Ź e (λz=>nomatch z) h
 |str y=>let⟨t,q⟩:=(show ∃t,u=Value.str y t from d);cases q;exact W.kia_one W.kitx_str I.kIn Ź e (λz=>nomatch z) h
 |flt y=>let⟨t,q⟩:=(show ∃t,u=Value.float y t from d);cases q;exact W.kia_one W.kitx_float I.kIn Ź e (λz=>nomatch z) h
 |@lst a xs ea =>
  cases (show u=ģ a from d);let⟨_,_,n,_,h1⟩:=(show bA X.prog X.w H s.heap a (.lst xs)from I.hok a _ ea)
  exact W.kia_one W.kitx_list I.kIn ⟨_,h1,rfl⟩ e (λz=>nomatch z) h
 |@frz a ob xs ea =>
  cases (show u=ģ a from d);let⟨_,_,_,n,_,h1⟩:=(show bA X.prog X.w H s.heap a (.frz ob (.lst xs))from I.hok a _ ea)
  exact W.kia_one W.kitx_list I.kIn ⟨_,h1,rfl⟩ e (λz=>nomatch z) h
 |@tup a xs ea =>
  cases (show u=ģ a from d);let⟨_,_,_,p⟩:=(show bA X.prog X.w H s.heap a (.tup xs)from I.hok a _ ea)
  let⟨o,h1,h2,_⟩:=p;exact W.kia_one W.kitx_tuple I.kIn ⟨o,h1,h2⟩ e (λz=>nomatch z) h
 |@dK a kvs ea =>
  cases (show u=ģ a from d);let⟨_,_,vs,_,p⟩:=(show bA X.prog X.w H s.heap a (.dK kvs)from I.hok a _ ea)
  let⟨o,es,f,h1,h2,_⟩:=p;exact W.kia_one W.kitx_dict I.kIn ⟨o,h1,h2.1⟩ e (λz=>nomatch z) h
 |@dT a kvs ea =>
  cases (show u=ģ a from d);let⟨_,_,xs,_,o,es,f,h1,h2,_⟩:=(show bA X.prog X.w H s.heap a (.dT kvs)from I.hok a _ ea)
  exact W.kia_one W.kitx_dict I.kIn ⟨o,h1,h2.1⟩ e (λz=>nomatch z) h
 |@ins a C dx fs ea cl ha hn htk hm =>
  cases (show u=ģ a from d);let⟨g,O,_⟩:=SM I.hok ea;let⟨j,J,_⟩:=O.look;exact W.kia_one (W.kitx_own (cl.get _) cl.hd ha hn htk hm) I.kIn J e (λz=>nomatch z) h
end
structure Room(k:Nat)(A:Ys):Prop where
 hd:A.handled=none
 dp:A.depth+3 * k+5<WJ
 un:A.units+16 * k+200<WN
 gd:A.guards=some []
def Room.mono{j k:Nat}{A:Ys}(r:Room k A)(h:j<=k):Room j A:=⟨r.hd,by have:=r.dp;lia,by have:=r.un;lia,r.gd⟩
def Room.deeper{k:Nat}{A:Ys}(r:Room (k+1) A)(env:Env):Room k (A.deeper env) :=
 ⟨r.hd,by have:=r.dp;show A.depth+1+3 * k+5<_;lia,by have:=r.un;show A.units+3+16 * k+200<_;lia,r.gd⟩
def Room.in1{k:Nat}{A:Ys}(r:Room (k+1) A):Room k A.in1 :=
 ⟨r.hd,by have:=r.dp;show A.depth+3 * k+5<_;lia,by have:=r.un;show A.units+1+16 * k+200<_;lia,r.gd⟩
def Room.depth{k:Nat}{A:Ys}(r:Room k A):A.depth<WJ:=by have:=r.dp;lia
def Room.units{k:Nat}{A:Ys}(r:Room k A):A.units+64<WN:=by have:=r.un;lia
def QT:TA:=λ_ H Q=>Q [] H
def uw(a:TE)(b:TA):TA:=λσ H Q=>a σ H λx H1=>b σ H1 λxs H2=>Q (x::xs) H2
section
variable{e:YE}{es:List YE}{te:TE}{t:TA}{pos:Pos}
def aW:PA X [] QT:=λ_ _ _ _ H Q I h=>Calls.spliced_nil ⟨[],H,I,.nil,h⟩
def dI(ha:PE X e te)(hr:PA X es t)(hs:YI (e::es) X.env=(false,YN e X.env)::YI es X.env:=by rfl):PA X (e::es) (uw te t):=by
 intro pos a s σ H Q I h;rw[hs];show wpAny _ _ (XA ((false,YN e X.env)::YO pos (YI es X.env))) _ _ s;refine Calls.spliced_cons (thn (ha a s σ H _ I h) λu s1 ⟨x,H1,I1,r1,q1⟩=>?_);exact thn (hr pos a s1 σ H1 _ I1 q1) λus s2 ⟨xs,H2,I2,r2,q2⟩=>⟨x::xs,H2,I2,.cons r1 r2,q2⟩
def aav(t:TA):TE:=λσ H Q=>t σ H λxs H1=>⇑xs<=sizeLine/\∀p,H1 p=none->Q (.ref p) (upd H1 p (.tup xs))
def Vk(t:TA):TE:=λσ H Q=>t σ H λxs H1=>⇑xs<=sizeLine/\∀p,H1 p=none->Q (.ref p) (upd H1 p (.lst xs))
def Ms{x1}(h:PA X es t):PE X (.Tuple es x1 pos) (aav t):=by
 intro a s σ H Q I d;refine wpAny_Tuple_spliced (thn (h pos a s σ H _ I d) λus s1 ⟨xs,H1,I1,r,z,q⟩=>⟨by rw[←⇑r];exact z,?_⟩);have c:H1 ↥s1=none:=I1.hok.fresh (Ì _);refine⟨.ref ↥s1,upd H1 ↥s1 (.tup xs),I1.laid (t':=s1.toks) (λb u e=>Ô _ e) (Ì _) ?_,rfl,q _ c⟩;exact⟨z,us,r,⟨_,ä _ rfl,rfl,_,rfl⟩⟩
def kh(h:PA X es t):PE X (.List es pos) (Vk t):=by
 intro a s σ H Q I d;refine wpAny_List_spliced (thn (h pos a s σ H _ I d) λus s1 ⟨xs,H1,I1,r,z,q⟩=>⟨by rw[←⇑r];exact z,?_⟩);have c:H1 ↥s1=none:=I1.hok.fresh (Ì _);refine⟨.ref ↥s1,upd H1 ↥s1 (.lst xs),I1.laid (t':=s1.toks) (λb u e=>Ô _ e) (Ì _) ?_,rfl,q _ c⟩;exact⟨z,us,0,r,ä _ rfl⟩
end
abbrev Sp:=List V->Hp->VK->XK->Prop
abbrev CXT:=List Env->Hp->Shared->XK->fA
structure Env0(P:Zg)(w:Zl)(K:Ý)(mg:Str->gf)(gy:Heap)(A:Ys)(outer:List Env)(s:Shared)(H:Hp):Prop where
 frames:A.frames=some outer
 mod:Mod K mg gy
 bs:∀b o,gy.get? b=some o->s.heap.get? b=some o/\H b=none
 bsz:gy.objs.size<=↥s
 nW:s.heap.FunFrames gy outer
 frf:∀b∈frs outer,H b=none
 hok:HOk P w H s.heap
 bare:Y1 s.gens
def CE(a:List Env)(P:Zg)(w:Zl)(H:Hp)(s:Shared)(Q:VK)(u:Value)(b:Shared):Prop :=
 ∃v H',b.os=s.os/\Y1 b.gens/\Un (frs a) [] H H' s.heap b.heap/\HOk P w H' b.heap/\RelV v u/\Q v H'
def CR(c:CXT)(a:List Env)(P:Zg)(w:Zl)(H:Hp)(s:Shared)(Q:VK)(E:XK)(r:WP)(b:Shared):Prop :=
 match r with
 |.ok (.ret u)=>CE a P w H s Q u b
 |.ok _=>False
 |.error e=>c a H s E e b
structure FnOk(P:Zg)(w:Zl)(K:Ý)(mg:Str->gf)(gy:Heap)(CX:CXT)(k:Nat)(f:Addr)(fd:WS)(ps:List Str)(sp:Sp):Prop where
 len:∀vs H Q E,sp vs H Q E->⇑vs=⇑ps
 run:∀(A:Ys)(outer:List Env)(s:Shared)(H:Hp)(args:Args)(us:fT)(vs:List V)(Q:VK)(E:XK),Room k A->Env0 P w K mg gy A outer s H->WU s fd args (ps.zip us)->Vals vs us->sp vs H Q E ->
  WZ (model P w) A (.call (.ref f) args) (CR CX outer P w H s Q E) s
def FnOk.imp{P:Zg}{w:Zl}{K:Ý}{mg:Str->gf}{gy:Heap}{b:CXT}{k:Nat}{f:Addr}{c:WS}{ps:List Str}{sp a:Sp}(F:FnOk P w K mg gy b k f c ps sp)(h:∀vs H Q E,a vs H Q E->sp vs H Q E):FnOk P w K mg gy b k f c ps a :=
 ⟨λvs H Q E q=>F.len vs H Q E (h _ _ _ _ q),λA outer s H args us vs Q E hr he hb hv hs=>F.run A outer s H args us vs Q E hr he hb hv (h _ _ _ _ hs)⟩
def Env0.in1{P:Zg}{w:Zl}{K:Ý}{mg:Str->gf}{gy:Heap}{A:Ys}{a:List Env}{s:Shared}{H:Hp}(e:Env0 P w K mg gy A a s H) :
  Env0 P w K mg gy A.in1 a s H:=⟨e.frames,e.mod,e.bs,e.bsz,e.nW,e.frf,e.hok,e.bare⟩
section
variable{pins:fF}{σ:St}{H:Hp}{s s':Shared}
def Inv.env0(I:Inv X pins σ H s):Env0 X.prog X.w X.K X.mg X.gy X.A X.stack s H :=
 ⟨I.ok.frames,I.ok.mod,I.bs,ĉ I.ok.bsz I.sz,I.stack,I.Hj,I.hok,I.bare⟩
def Inv.after{Q:VK}{u:Value}(I:Inv X pins σ H s)(h:CE X.stack X.prog X.w H s Q u s'):EP X pins σ Q u s':=by
 let⟨v,f,i,a,j,c,r,q⟩:=h;let⟨hh,g,d,t,e⟩:=s';obtain rfl:e=s.os:=i;exact⟨v,f,I.call (h':=hh) (g':=g) (d':=d) (t':=t) (ch:=[]) j c a (λb z=>ft z (by simp)),r,q⟩
end
def uy(sp:Sp)(dvs:List V)(E:XK)(t:TA):TE:=λσ H Q=>t σ H λvs H1=>sp (vs++dvs) H1 Q E
def Binds(K:Ý)(a:WS)(ps:List Str)(ds:fT):Prop :=
 ∀(s:Shared)(us:fT),K.In s.heap->⇑(us++ds)=⇑ps->WU s a ⟨us,[]⟩ (ps.zip (us++ds))
def Binds.all{K:Ý}{a:WS}{ps:List Str}(h:∀us:fT,⇑us=⇑ps->bindArgs a ⟨us,[]⟩=pure (ps.zip us)):Binds K a ps []:=λs us _ hl=>by
 rw[í]at hl ⊢;exact .of_eq (h us hl)
def Passes(a:CXT)(X:Cx)(E:XK):Prop:=∀(pins:fF)(σ:St)(H:Hp)(s:Shared)(e:Value)(s':Shared),Inv X pins σ H s->a X.stack H s E e s'->X.xe e s'
section
variable{CX:CXT}{k:Nat}{f C:Addr}{fd:WS}{ps:List Str}{sp:Sp}{dvs:List V}{ds:fT}{E:XK}{x m:Str}{p pos apos:Pos}{e o:YE}{es:List YE}{ta:TE}{t:TA}
def Lq{a:fF}{σ:St}{H:Hp}{s:Shared}{Q:VK}{b:fT}{vs:List V}(F:FnOk X.prog X.w X.K X.mg X.gy CX k f fd ps sp)(hr:Room k X.A)(hb:Binds X.K fd ps ds)(hd:Vals dvs ds)(d:Passes CX X E)(I:Inv X a σ H s)(r:Vals vs b)(h:sp (vs++dvs) H Q E):wpAny (model X.prog X.w) X.A (WF (.ref f) b) (EP X a σ Q) X.xe s:=by
 have c:Vals (vs++dvs) (b++ds):=r.append hd;have hl:⇑(b++ds)=⇑ps:=by rw[←⇑c];exact F.len _ _ _ _ h
 refine W1 (VA (F.run X.A X.stack s H ⟨b,[]⟩ (b++ds) (vs++dvs) Q E hr I.env0 (hb s b I.kIn hl) c h) λr s' hq=>?_);cases r with
 |error e=>exact d a σ H s e s' I hq
 |ok fl =>
  cases fl with
  |ret u=>exact I.after hq
  |next=>exact ĺ hq
  |brk=>exact ĺ hq
  |cont=>exact ĺ hq
def Rw(F:FnOk X.prog X.w X.K X.mg X.gy CX k f fd ps sp)(hr:Room k X.A)(hg:Gl X x)(hm:X.mg x=some (.ref f))(hk:W.keepIn X.K (.ref f)=true)(hb:Binds X.K fd ps ds)(hd:Vals dvs ds)(b:Passes CX X E)(ha:PA X (e::es) t)(hdb:(x==("__debug__":Str))=false:=by decide)(he:YI (e::es) X.env=(false,YN e X.env)::YI es X.env:=by rfl)(hpl:(YO pos (YI es X.env)).any (·.1)=false:=by rfl) :
  PE X (.Call (.Name x p) (e::es) [] pos) (uy sp dvs E t):=by
 intro a s σ H Q I h;refine ŝ (HY I hg hm ?_ hdb);refine W.callWith_K (h₀:=X.gy) I.ok.mod.kin hk (thn (ha pos a s σ H _ I h) λus s1 ⟨vs,H1,I1,r,q⟩=>⟨I1.kIn,?_⟩) he hpl;exact Lq F hr hb hd b I1 r q
structure Mk(K:Ý)(C f:Addr):Prop where
 makes:W.makesIn K C=true
 init:W.findIn K (.ref C) "__init__"=some (some (.ref f))
 fn:W.isFn K (.ref f)=true
 kp:W.keepIn K (.ref C)=true
end
section
variable{CX:CXT}{k:Nat}{f C:Addr}{fd:WS}{ps ks:List Str}{sp:Sp}{E:XK}{x m:Str}{p pos apos kpos:Pos}{e o:YE}{es:List YE}{kws:List YY}{te ta:TE}{t tk:TA}{nm:Option Str}
structure KBinds(K:Ý)(fd:WS)(ps ks:List Str)(g:fT->fT->fT)(gV:List V->List V->List V):Prop where
 to:∀(s:Shared)(us ws:fT),K.In s.heap->⇑(g us ws)=⇑ps->WU s fd ⟨us,ks.zip ws⟩ (ps.zip (g us ws))
 rel:∀{vs:List V}{us:fT}{zs:List V}{ws:fT},Vals vs us->Vals zs ws->Vals (gV vs zs) (g us ws)
variable{g:fT->fT->fT}{gV:List V->List V->List V}
end
structure FnScope(N P:List Str)(sc:YA):Prop where
 kind:sc.kind=.function
 co:sc.isCoroutine=false
 gen:sc.isGenerator=false
 nd:N.Nodup
 pre:N.take ⇑P=P
 par:∀x∈P,sc.names.lookup x=some .local\/sc.names.lookup x=some .cell
 nofree:∀y∈sc.names,y.2≠.free
def zC{N P:List Str}{h:YA}(a:h.kind=.function:=by rfl)(b:h.isCoroutine=false:=by rfl)(c:h.isGenerator=false:=by rfl)(d:N.Nodup:=by decide +kernel)(e:N.take ⇑P=P:=by rfl)(f:∀x∈P,h.names.lookup x=some .local\/h.names.lookup x=some .cell:=by decide +kernel)(g:∀y∈h.names,y.2≠.free:=by decide +kernel):FnScope N P h:=⟨a,b,c,d,e,f,g⟩
theorem yc{b:Str->Option NameKind}{x:Str}:∀{a:List (Str×Value)}{m:Str->gf},(∀v,(x,v)∉a)->VC b a m x=m x
 |[],_,_=>rfl
 |(n,v)::r,m,h=>by
  unfold VC;rw[yc λw hw=>h w (Ç _ hw)];split
  ·have:x≠n:=by rintro rfl;exact h v Æ
   simp[this]
  ·rfl
theorem yg{b:Str->Option NameKind}{x:Str}:∀{a:List (Str×Value)}{m:Str->gf},(∀v,(x,v)∉a)->VE b a m x=m x
 |[],_,_=>rfl
 |(n,v)::r,m,h=>by
  unfold VE;rw[yg λw hw=>h w (Ç _ hw)];split
  ·rfl
  ·have:x≠n:=by rintro rfl;exact h v Æ
   simp[this]
theorem yd{a:Str->Option NameKind}{x:Str}{v:Value}:∀{P:List Str}{vs:fT}{i:Nat}{m:Str->gf},P.Nodup->P[i]?=some x->vs[i]?=some v->a x=some .local ->
  VC a (P.zip vs) m x=some v
 |[],_,_,_,_,h,_,_=>by simp at h
 |_::_,[],_,_,_,_,h,_=>by simp at h
 |p::P,w::vs,0,m,nd,h1,h2,hk=>by
  simp at h1 h2;subst h1;subst h2;show VC a ((p,w)::P.zip vs) m p=_;unfold VC;rw[yc λv hv=>(ŀ.mp nd).1 (List.of_mem_zip hv).1,fo hk];simp
 |p::P,w::vs,i+1,m,nd,h1,h2,hk=>by
  show VC a ((p,w)::P.zip vs) m x=_;unfold VC;exact yd (i:=i) (ŀ.mp nd).2 ↑h1 ↑h2 hk
theorem yh{a:Str->Option NameKind}{x:Str}{v:Value}:∀{P:List Str}{vs:fT}{i:Nat}{m:Str->gf},P.Nodup->P[i]?=some x->vs[i]?=some v->a x≠some .local ->
  VE a (P.zip vs) m x=some v
 |[],_,_,_,_,h,_,_=>by simp at h
 |_::_,[],_,_,_,_,h,_=>by simp at h
 |p::P,w::vs,0,m,nd,h1,h2,hk=>by
  simp at h1 h2;subst h1;subst h2;show VE a ((p,w)::P.zip vs) m p=_;unfold VE;rw[yg λv hv=>(ŀ.mp nd).1 (List.of_mem_zip hv).1,fq hk];simp
 |p::P,w::vs,i+1,m,nd,h1,h2,hk=>by
  show VE a ((p,w)::P.zip vs) m x=_;unfold VE;exact yh (i:=i) (ŀ.mp nd).2 ↑h1 ↑h2 hk
def start(N:List Str)(vs:List V):St:=vs.map some++Ë (⇑N - ⇑vs) none
def Bf(CX:CXT)(P:Zg)(w:Zl)(K:Ý)(mg:Str->gf)(gy:Heap)(N:List Str)(qual:Str)(scope:YA)(f:Addr)(cd:Value)(A:Ys)(outer:List Env)(s:Shared)(H:Hp)(E:XK):Cx where
 prog:=P
 w:=w
 K:=K
 mg:=mg
 gy:=gy
 A:=A.deeper (VI qual scope ↥s f cd)
 N:=N
 s₀:=s
 H₀:=H
 env:=VI qual scope ↥s f cd
 outer:=outer
 stack:=VI qual scope ↥s f cd::outer
 ex:=[]
 calm:=true
 fn:=λ_=>true
 pn:=[]
 xe:=λe s'=>wpAny (model P w) (A.deeper (VI qual scope ↥s f cd)) (leaving (VI qual scope ↥s f cd) e) (λ_ s''=>CX outer H s E e s'') (λe' s''=>CX outer H s E e' s'') s'
def Ek{a:YA}{n:Nat}{x:Str}(h:a.names.lookup x=some .cell):∃c,(cellsFrom n a.names []).lookup x=some c:=by
 have q:=W.cellsFrom_some a.names n [] (.inl h);exact Option.isSome_iff_exists.mp q
def J6{B:CXT}{P:Zg}{w:Zl}{K:Ý}{mg:Str->gf}{gy:Heap}{N ps:List Str}{qual:Str}{d:YA}{f:Addr}{o:Value}{A:Ys}{g:List Env}{s C:Shared}{H:Hp}{E:XK}{t:fT}{vs:List V}(S:FnScope N ps d)(hd:A.handled=none)(e0:Env0 P w K mg gy A g s H)(hl:⇑vs=⇑ps)(r:Vals vs t)(x:InCallC s ↥s (VC (VI qual d ↥s f o).kindOf (ps.zip t) λ_=>none) (cellsFrom (↥s+1) d.names []) (VE (VI qual d ↥s f o).kindOf (ps.zip t) λ_=>none) C) :
  Inv (Bf B P w K mg gy N qual d f o A g s H E) [] (start N vs) H C:=by
 have hpl:⇑ps<=⇑N:=by have:=fv List.length S.pre;rw[Ĺ]at this;lia
 let⟨h1,tk,rfl,hk⟩:=x.done;have l:∀b:Addr,b∉(Bf B P w K mg gy N qual d f o A g s H E).ex:=λb z=>ft (show b∈([]:List Addr)from z) (by simp);refine⟨⟨e0.mod,S.kind,rfl,rfl,Ì _,λy z c h1 h2=>?_,λy j=>?_,λy c _ h=>?_,λ_=>hd,Around.frames_deeper e0.frames,.inr ⟨rfl,rfl⟩,λb z=>ft z (l b),e0.bs,e0.bsz,λb _ _=>l b,λb z=>ft z (l b),e0.nW,e0.frf,λq z=>nomatch (show q∈([]:List (Addr×Obj×HO))from z)⟩,
  rfl,e0.bare,Un.kept hk,⟨_,x.toInCall.ns,λi y v h1 h2 h3=>?_⟩,λy c h=>⟨_,x.cell y c h⟩,e0.hok.fresh (Ì _),λy c h=>?_,λp hp=>ft (show p∈([]:fF)from hp) (by simp),e0.hok.kept hk,?_⟩
 ·exact name_of_addr x.apart (ď h1) (ď h2)
 ·have j:d.names.lookup y=some .cell\/d.names.lookup y=some .free:=j;rcases j with j|j
  ·exact Ek j
  ·exact ft rfl (S.nofree _ (ď j))
 ·exact Nat.le_of_lt (x.above y c (ď h))
 ·have hi:i<⇑vs:=by
   unfold start at h2;by_cases hi:i<⇑vs
   ·exact hi
   ·rw[ó ↑hi]at h2;rw[ş]at h2;split at h2 <;> cases h2
  have ha:vs[i]?=some v:=by
   unfold start at h2;rw[Ą ↑hi,Þ]at h2;cases e:vs[i]? with
   |none=>rw[e]at h2;cases h2
   |some a=>rw[e]at h2;cases h2;rfl
  let⟨u,hu,D⟩:=r.get ha;have hp:ps[i]?=some y:=by
   rw[←S.pre,List.getElem?_take_of_lt ()];exact h1
  have m:ps.Nodup:=by rw[←S.pre];exact S.nd.sublist (List.take_sublist _ _)
  refine⟨u,D,?_⟩;rcases S.par y (Î hp)with k|k
  ·exact .inl ⟨k,yd m hp hu k⟩
  ·let⟨c,e⟩:=Ek (n:=↥s+1) k;refine .inr ⟨.inl k,c,e,?_⟩;have q:=x.cell y c e;rw[yh m hp hu (by show d.names.lookup y≠_;rw[k];decide)]at q;exact q
 ·exact e0.hok.fresh (Nat.le_of_lt (x.above y c (ď h)))
 ·unfold start;show _=⇑N;rw[É,À,ė];lia
def Ph{B:CXT}{P:Zg}{w:Zl}{K:Ý}{mg:Str->gf}{gy:Heap}{k:Nat}{f:Addr}{name qual:Str}{g:VM}{h:List XB}{a:YA}{O kV m R d M X:Value}{L Y:gc}{D:Array gf}{N ps:List Str}{sp:Sp}(U:K.lookup f=some ⟨X,Y,.func (W.fnOf name qual g h a O kV m R L d M),D⟩)(hcd:W.codeIn K d qual=true)(S:FnScope N ps a)(z:∀vs H Q E,sp vs H Q E->⇑vs=⇑ps)(j:∀(A:Ys)(c:List Env)(s:Shared)(H:Hp)(vs:List V)(Q:VK)(E:XK),Room k (A.deeper (VI qual a ↥s f d))->sp vs H Q E ->
   ∃t,PSs (Bf B P w K mg gy N qual a f d A c s H E) h t/\t { nx:=λ_ H'=>Q .non H',rt:=Q } (start N vs) H) :
  FnOk P w K mg gy B (k+1) f (W.fnOf name qual g h a O kV m R L d M) ps sp:=by
 refine⟨z,λA c s H args us vs Q E hr e0 hb r hsp=>?_⟩;have hl:=z _ _ _ _ hsp;have G:K.In s.heap:=e0.mod.kin.keeps λb o e=>(e0.bs b o e).1;have C:s.heap.NoLimit:=e0.mod.nolimit.keeps λb o e=>(e0.bs b o e).1;have l:∀y∈ps.zip us,a.names.lookup y.1=some .local\/(a.names.lookup y.1=some .cell/\((cellsFrom (↥s+1) a.names []).lookup y.1).isSome=true):=λ⟨n,v⟩ hy=>by
  rcases S.par n (List.of_mem_zip hy).1 with q|q
  ·exact .inl q
  ·exact .inr ⟨q,W.cellsFrom_some _ _ _ (.inl q)⟩
 refine codeAny_call_function hr.depth (G _ _ U) rfl S.co S.gen rfl (W.codeRec_of G hcd) (hb _ _ _ _ ?_);refine wpAny_newFunctionEnv_cells S.kind l λenv he s1 x=>?_;subst he;refine⟨C.keeps x.toInCall.keep,codeAny_func ?_⟩;let⟨t,ht,T⟩:=j A c s H vs Q E (hr.deeper _) hsp;have I:Inv (Bf B P w K mg gy N qual a f d A c s H E) [] (start N vs) H s1:=J6 S hr.hd e0 hl r x;refine Ŀ (ht [] s1 (start N vs) H _ I T) (λfl s' hs=>?_) λe s' hs=>hs;have p:∀{i:St}{H':Hp}{v:V}{u:Value},Inv (Bf B P w K mg gy N qual a f d A c s H E) [] i H' s'->RelV v u->Q v H'->CE c P w H s Q u s' :=
  λ{i H' v u} J F q=>⟨v,H',J.os,J.bare,J.gy,J.hok,F,q⟩
 cases fl with
 |ret u =>
  let⟨v,i,H',J,F,q⟩:=hs;exact p J F q
 |next =>
  let⟨i,H',J,q⟩:=hs;exact p (v:=V.non) (u:=Ĕ) J rfl q
 |brk =>
  let⟨_,_,_,q⟩:=hs;exact ĺ q
 |cont =>
  let⟨_,_,_,q⟩:=hs;exact ĺ q
section
variable{x:Str}{p pos:Pos}{e:YE}{es:List YE}{t:TA}{id T:String}{r:List V->Hp->VK->Prop}
def tCB(r:List V->Hp->VK->Prop)(t:TA):TE:=λσ H Q=>t σ H λvs H1=>r vs H1 Q
def fZ(hc:bU X (.builtin id) r)(hg:Gl X x)(hm:X.mg x=none)(hv:Z3 x=some (.builtin id))(ha:PA X (e::es) t)(hn:x≠"__name__":=by decide)(hdb:(x==("__debug__":Str))=false:=by decide)(he:YI (e::es) X.env=(false,YN e X.env)::YI es X.env:=by rfl)(hpl:(YO pos (YI es X.env)).any (·.1)=false:=by rfl):PE X (.Call (.Name x p) (e::es) [] pos) (tCB r t):=by
 intro a s σ H Q I h;refine ŝ (jf I hg hm hv ?_ hn hdb);exact PyProof.Rows.callWith_builtin1 (thn (ha pos a s σ H _ I h) λus s1 ⟨vs,H1,I1,r1,q1⟩=>hc a s1 σ H1 vs us Q I1 r1 q1) he hpl
def mU(hc:bU X (.type T) r)(hg:Gl X x)(hm:X.mg x=none)(hv:Z3 x=some (.type T))(ha:PA X (e::es) t)(hn:x≠"__name__":=by decide)(hdb:(x==("__debug__":Str))=false:=by decide)(he:YI (e::es) X.env=(false,YN e X.env)::YI es X.env:=by rfl)(hpl:(YO pos (YI es X.env)).any (·.1)=false:=by rfl):PE X (.Call (.Name x p) (e::es) [] pos) (tCB r t):=by
 intro a s σ H Q I h;refine ŝ (jf I hg hm hv ?_ hn hdb);exact ĳ (thn (ha pos a s σ H _ I h) λus s1 ⟨vs,H1,I1,r1,q1⟩=>hc a s1 σ H1 vs us Q I1 r1 q1) he hpl
end
end L2
namespace HT
section
open PySem.SeqAt
open PySem.AutoSeq1 (wpAny_loadPart')
open PySem.MeetsSeq PySem.MeetsSeq2 PySem.MeetsSeq3
end
section
variable{prog:Zg}{w:Zl}{A:Ys}{E:fA}{s:Shared}
def Tr{t b:Addr}{vs ws:fT}{Q:fA}(ht:IsTup s.heap t vs.toArray)(hb:IsTup s.heap b ws.toArray)(hv:vs≠[])(h1:ws=[]->Q (.ref t) s)(h2:ws≠[]->Q (.ref ↥s) { s with heap:=s.heap.push { cls:=.type "tuple",data:=.seq (vs++ws).toArray }})(hsz:⇑vs+⇑ws<=sizeLine):wpAny (model prog w) A (WG .Add (.ref t) (.ref b)) Q E s:=by
 let⟨⟨cls,l,data,o⟩,h,hc,n,hd⟩:=id ht;let⟨⟨k,c,j,g⟩,a,d,m,f⟩:=id hb;simp only at hc hd d f;subst hc hd d f;have e:vs.toArray++ws.toArray=(vs++ws).toArray:=by simp
 by_cases i:ws=[]
 ·exact concat_meets ⟨_,h,rfl⟩ ⟨_,a,rfl⟩ VO VQ PySem.F.slot_tuple_add PySem.F.entry_tuple_add (PySem.F.args_tuple_add_2 _ _)
   (tuple_addW1 t b vs.toArray ws.toArray n m l c o g ↑hv (by simp[i])) ⟨h,a,h1 i⟩
 ·refine concat_meets ⟨_,h,rfl⟩ ⟨_,a,rfl⟩ VO VQ PySem.F.slot_tuple_add PySem.F.entry_tuple_add (PySem.F.args_tuple_add_2 _ _)
   (tuple_addW2 t b vs.toArray ws.toArray n m l c o g ↑hv ↑i (by rw[Ñ,Ñ];exact hsz)) ⟨h,a,?_⟩
  rw[e];exact h2 i
def sIx(n d:Nat):Option Int->Nat
 |none=>d
 |some v=>if v<0 then(v+(n:Int)).toNat else min v.toNat n
def sX(n d k:Nat):sIx n d (some (k:Int))=min k n:=by
 show(if(k:Int)<0 then((k:Int)+(n:Int)).toNat else min (k:Int).toNat n)=min k n;rw[fq (),ê]
def Vv(n d:Nat)(hd:d<=n)(o:Option Int):sIx n d o<=n:=by
 cases o with
 |none=>exact hd
 |some v =>
  show(if v<0 then(v+(n:Int)).toNat else min v.toNat n)<=n;by_cases hv:v<0
  ·rw[fo hv];lia
  ·rw[fq hv];exact Nat.min_le_right _ _
def Jg(v:Int)(n d:Nat):(if v<0 then max (v+(n:Int)) 0 else min v (n:Int))=(~~~(sIx n d (some v))):=by
 show(if v<0 then max (v+(n:Int)) 0 else min v (n:Int))=(((if v<0 then(v+(n:Int)).toNat else min v.toNat n):Nat):Int)
 by_cases hv:v<0
 ·simp only[fo hv];lia
 ·simp only[fq hv];lia
def G6(lo hi:Option Int)(n:Nat):Builtin.Slice.sliceAdjust lo hi 1 (n:Int)=((~~~(sIx n 0 lo)),(~~~(sIx n n hi))):=by
 have h1:¬((1:Int)<0):=()
 unfold Builtin.Slice.sliceAdjust;simp only[h1,if_false];refine Prod.ext ?_ ?_
 ·cases lo with
  |none=>rfl
  |some v=>exact Jg v n 0
 ·cases hi with
  |none=>rfl
  |some v=>exact Jg v n n
def Fv(i j:Nat):ž (i:Int) (j:Int) 1=j - i:=by
 unfold ž;have h1:(1:Int) > 0:=()
 simp only[h1,if_true,Int.ediv_one];split <;> lia
def uF{v:Value}{o:Option Int}{Q:Option Int->Shared->Prop}(p:VS v o)(h:Q o s):wpAny (model prog w) A (Builtin.Slice.slicePartIndex v) Q E s:=by
 cases p with
 |none=>exact VT h
 |int i t=>exact slicePart_int h
def qM{e:Addr}{c d:Value}{lo hi:Option Int}{n:Nat}{Q:Int×Int×Nat->Shared->Prop}(hs:s.heap.IsSliceOf e c d .none)(g:VS c lo)(i:VS d hi)(h:Q ((~~~(sIx n 0 lo)),1,sIx n n hi - sIx n 0 lo) s):wpAny (model prog w) A (Builtin.Slice.sliceApplied (.ref e) (pure (n:Int))) Q E s:=by
 let⟨j,b,f,a⟩:=id hs;unfold Builtin.Slice.sliceApplied Builtin.Slice.sliceFields;refine Ã (Ã (ų b a (x:=c) rfl (Ã (ų b a (x:=d) rfl (Ã (ų b a (x:=.none) rfl (Ú ?_)))))));refine Ã (VT ?_);show wpAny _ _ (if((1:Int)==0)=true then _ else _) _ _ s;rw[fq ∅];refine Ã (uF g (Ã (uF i (Ã (Ú ?_)))));show wpAny _ _ (match Builtin.Slice.sliceAdjust lo hi 1 (n:Int)with|(lo,hi)=>pure (lo,(1:Int),ž lo hi 1)) _ _ s;rw[G6 lo hi n];show wpAny _ _ (pure ((~~~(sIx n 0 lo)),(1:Int),ž (~~~(sIx n 0 lo)) (~~~(sIx n n hi)) 1)) _ _ s;rw[Fv];exact Ú h
def Mj(xs:fS)(i k:Nat):((Ø k).filterMap λ(m:Nat)=>xs[((i:Int)+(m:Int) * 1).toNat]?).toArray=((xs.toList.drop i).take k).toArray:=by
 have e:(λ(m:Nat)=>xs[((i:Int)+(m:Int) * 1).toNat]?)=λm=>xs[i+m]?:=by
  funext m;have:((i:Int)+(m:Int) * 1).toNat=i+m:=()
  rw[this]
 rw[e];have:=pick_run xs i k;rw[List.filterMap_map]at this;have a:((λx=>xs[x]?) ∘ λx=>i+x)=λm=>xs[i+m]?:=rfl;rw[a]at this;rw[this]
def qw{t f:Addr}{items:fS}{g i:Value}{lo hi:Option Int}{Q:fA}(ht:IsTup s.heap t items)(hs:s.heap.IsSliceOf f g i .none)(n:VS g lo)(o:VS i hi)(k:¬(sIx items.size 0 lo=0/\sIx items.size items.size hi=items.size))(h:Q (.ref ↥s) { s with heap:=s.heap.push { cls:=.type "tuple",data:=.seq ((items.toList.drop (sIx items.size 0 lo)).take (sIx items.size items.size hi - sIx items.size 0 lo)).toArray }})(hsz:items.size<=sizeLine):wpAny (model prog w) A (VU (.ref t) (.ref f)) Q E s:=by
 have a:sizeOk (.seq ((items.toList.drop (sIx items.size 0 lo)).take (sIx items.size items.size hi - sIx items.size 0 lo)).toArray):=by
  show((items.toList.drop (sIx items.size 0 lo)).take (sIx items.size items.size hi - sIx items.size 0 lo)).toArray.size<=sizeLine;rw[Ñ,Ĺ,Ď,ō];lia
 have p:sIx items.size items.size hi<=items.size:=Vv _ _ (Ì _) hi;let⟨l,e,c,j⟩:=id hs;have b:s.TypeIs (.ref f) "slice":=⟨l,e,c⟩
 unfold VU
 try with_reducible refine ħ ?_
 first|refine Ã (Ú ?_)|skip
 refine Ã (wpAny_sequenceKey ht.typeIs ∅ ?_);refine Ã (ŋ (name:=ë "__getitem__") ht.typeIs PyProof.Rows.slot_tuple_getitem
  (Ļ PyProof.Rows.slot_tuple_getitem ht.typeIs entry_tuple_getitem ?_ (args_tuple_getitem _ _)))
 show wpAny _ _ (Builtin.Tuple.tupleItemsOf (.ref t) >>=_) _ _ s;refine Ã (tupleItemsOf_ ht ?_);refine Ã (VW b ?_);rw[fo ∅];refine Ã (qM hs n o ?_);have d:¬(((~~~(sIx items.size 0 lo))==0&&(1:Int)==1&&(sIx items.size items.size hi - sIx items.size 0 lo)==items.size)=true):=by
  intro q;rw[Ü,Ü]at q;have r:(~~~(sIx items.size 0 lo))=0:=fz q.1.1;have u:sIx items.size items.size hi - sIx items.size 0 lo=items.size:=fz q.2;exact k ⟨(),()⟩
 show wpAny _ _ (if((~~~(sIx items.size 0 lo))==0&&(1:Int)==1&&(sIx items.size items.size hi - sIx items.size 0 lo)==items.size)=true then _ else _) _ _ s;rw[fq d,Mj]
 first
  |exact Ã (m:=Builtin.Tuple.tupleExact _) (š (Ú ⟨_,rfl,Ú h⟩) a)
  |exact Ã (m:=Builtin.Tuple.tupleExact _) (š (Ã (Ú (Ú ⟨_,rfl,Ú h⟩))) a)
  |exact Ã (Ã (m:=Builtin.Tuple.tupleExact _) (š (Ú (Ú ⟨_,rfl,Ú h⟩)) a))
  |exact Ã (Ã (m:=Builtin.Tuple.tupleExact _) (š (Ú ⟨_,rfl,Ú h⟩) a))
end
end HT
namespace L2
open PySem.Spec
variable{X:Cx}
abbrev TO:=St->Hp->(Option Int->Hp->Prop)->Prop
def PO(X:Cx)(e:Option YE)(t:TO):Prop :=
 ∀(pins:fF)(s:Shared)(σ:St)(H:Hp)(Q:Option Int->Hp->Prop),Inv X pins σ H s->t σ H Q ->
  wpAny (model X.prog X.w) X.A (evalPart e X.env) (λu s'=>∃o H',Inv X pins σ H' s'/\VS u o/\Q o H') X.xe s
def QS:TO:=λ_ H Q=>Q none H
def X6(t:TE):TO:=λσ H Q=>t σ H λx H1=>∃i,x=.int i/\Q (some i) H1
def intsAre_of{ns:fM}:∀{a:fT},Vals (ns.map V.int) a->IntsAre a ns:=by
 induction ns with
 |nil=>intro a r;rw[List.map_nil]at r;cases r;exact .nil
 |cons n ns ih =>
  intro a r;rw[é]at r;cases r with
  |cons r1 r2 =>
   let⟨t,e⟩:=r1;subst e;exact .cons n t (ih r2)
section
variable{e:YE}{te:TE}{lo hi:Option YE}{tl th:TO}{pos p2:Pos}
def Rm:PO X none QS:=by
 intro a s σ H Q I h;rw[VX];exact Ú ⟨none,H,I,.none,h⟩
def Rk(h:PE X e te):PO X (some e) (X6 te):=by
 intro a s σ H Q I b;rw[evalPart_some];refine thn (h a s σ H _ I b) λu s1 ⟨x,H1,I1,r1,q1⟩=>?_;let⟨i,rfl,q⟩:=q1;let⟨t,rfl⟩:=r1;exact⟨some i,H1,I1,.int i t,q⟩
def SlR(X:Cx)(r:V->Option Int->Option Int->Hp->VK->Prop):Prop :=
 ∀(pins:fF)(s:Shared)(σ:St)(H:Hp)(x:V)(v vl vu:Value)(lo hi:Option Int)(sl:Addr)(Q:VK),Inv X pins σ H s->RelV x v->s.heap.IsSliceOf sl vl vu .none->VS vl lo->VS vu hi->r x lo hi H Q ->
  ∃T id,VY (.type T) "__getitem__"=pure (some (.builtin id))/\s.TypeIs v T/\wpAny (model X.prog X.w) X.A (VU v (.ref sl)) (EP X pins σ Q) X.xe s
def SlR.or{r d:V->Option Int->Option Int->Hp->VK->Prop}(h:SlR X r)(h':SlR X d):SlR X (λx lo hi H Q=>r x lo hi H Q\/d x lo hi H Q):=by
 intro a s σ H x v i j lo hi g Q I f hs b c q;rcases q with q|q
 ·exact h a s σ H x v i j lo hi g Q I f hs b c q
 ·exact h' a s σ H x v i j lo hi g Q I f hs b c q
def tSl(r:V->Option Int->Option Int->Hp->VK->Prop)(te:TE)(tl th:TO):TE:=λσ H Q=>te σ H λx H1=>tl σ H1 λl H2=>th σ H2 λu H3=>r x l u H3 Q
def Cq{r:V->Option Int->Option Int->Hp->VK->Prop}(hr:SlR X r)(he:PE X e te)(hl:PO X lo tl)(hu:PO X hi th):PE X (.Subscript e (.Slice lo hi none p2) pos) (tSl r te tl th):=by
 intro a s σ H Q I h;refine VZ (thn (he a s σ H _ I h) λv s1 ⟨x,H1,I1,r1,q1⟩=>?_);refine wpAny_Slice (thn (hl a s1 σ H1 _ I1 q1) λvl s2 ⟨l,H2,I2,pl,q2⟩=>thn (hu a s2 σ H2 _ I2 q2) λvu s3 ⟨u,H3,I3,pu,q3⟩=>?_);rw[VX];refine Ú ?_;have c:Inv X a σ H3 { s3 with heap:=s3.heap.push { cls:=.type "slice",data:=.fields #[vl,vu,.none]}}:=I3.kept (t':=s3.toks) λb ob q=>Ô _ q;let⟨T,id,d,ht,hg⟩:=hr a { s3 with heap:=s3.heap.push { cls:=.type "slice",data:=.fields #[vl,vu,.none]}} σ H3 x v vl vu l u ↥s3 Q c r1 (Heap.IsSliceOf.new ..) pl pu q3;show wpAny (model X.prog X.w) X.A (Uf e (.Slice lo hi none p2) v (.ref ↥s3)) (EP X a σ Q) X.xe { s3 with heap:=s3.heap.push { cls:=.type "slice",data:=.fields #[vl,vu,.none]}};exact tail_any (ops:=[.ref ↥s3,v]) ht d hg (by with_unfolding_all rfl)
def vZ(xs:List V)(lo hi:Option Int):List V:=(xs.drop (HT.sIx ⇑xs 0 lo)).take (HT.sIx ⇑xs ⇑xs hi - HT.sIx ⇑xs 0 lo)
def rZ(xs:List V)(lo hi:Option Int):⇑(vZ xs lo hi)<=⇑xs:=by
 unfold vZ;rw[Ĺ,Ď];lia
def aaI(K:Ý):V->Option Int->Option Int->Hp->VK->Prop:=λx lo hi H Q=>∃a xs,x=.ref a/\SqT K H a xs /\
 ¬(HT.sIx ⇑xs 0 lo=0/\HT.sIx ⇑xs ⇑xs hi=⇑xs)/\∀p,H p=none->Q (.ref p) (upd H p (.tup (vZ xs lo hi)))
def Vu:SlR X (aaI X.K):=by
 intro f s σ H x v n p lo hi m Q I l hs j k h;let⟨a,xs,rfl,i,g,q⟩:=h;cases l;let⟨its,r,ht,d⟩:=I.tuple i;have c:its.toArray.size=⇑xs:=by rw[Ñ];exact r.length.symm
 refine⟨"tuple",_,PyProof.Rows.slot_tuple_getitem.lookup,ht.typeIs,?_⟩;refine HT.qw ht hs j k (by rw[c];exact g) ?_ (by rw[c];exact d);rw[c];refine⟨.ref ↥s,_,I.laid (t':=s.toks) (o:=.tup (vZ xs lo hi)) (λb ob q=>Ô _ q) (Ì _) ?_,rfl,q _ (I.hok.fresh (Ì _))⟩;exact⟨ĉ (rZ xs lo hi) d,_,(r.drop (HT.sIx ⇑xs 0 lo)).take (HT.sIx ⇑xs ⇑xs hi - HT.sIx ⇑xs 0 lo),IsTup.new _ _⟩
def YH(K:Ý):R2:=λx y H Q=>∃a b xs ys,x=.ref a/\y=.ref b/\SqT K H a xs/\SqT K H b ys/\xs≠[]/\⇑xs+⇑ys<=sizeLine /\
 (ys=[]->Q (.ref a) H)/\(ys≠[]->∀p,H p=none->Q (.ref p) (upd H p (.tup (xs++ys))))
def Vals.zT{xs:List V}{a:fT}(r:Vals xs a):a=[]↔xs=[]:=by
 cases r with
 |nil=>simp
 |cons _ _=>simp
def Rz:OpR X (WG .Add) (YH X.K):=by
 intro i s σ H x y v u Q I n p h;let⟨a,b,xs,ys,rfl,rfl,ha,hb,j,f,l,m⟩:=h;cases n;cases p;let⟨its,d,k,_⟩:=I.tuple ha;let⟨g,c,p2,_⟩:=I.tuple hb;refine HT.Tr k p2 (λz=>j (d.zT.mp z)) (λz=>⟨.ref a,H,I,rfl,l (c.zT.mp z)⟩) (λz=>?_) (by rw[←⇑d,←⇑c];exact f);refine⟨.ref ↥s,_,I.laid (t':=s.toks) (o:=.tup (xs++ys)) (λb ob q=>Ô _ q) (Ì _) ?_,rfl,m (λw=>z (c.zT.mpr w)) _ (I.hok.fresh (Ì _))⟩;exact⟨by rw[É];exact f,_,d.append c,IsTup.new _ _⟩
end
def ixN(n:Nat)(i:Int):Option Nat:=if 0<=i then(if i<n then some i.toNat else none)else if -(n:Int)<=i then some (i+n).toNat else none
def atI{α:Type}(xs:List α)(i:Int):Option α:=(ixN ⇑xs i).bind λj=>xs[j]?
def Ia{n:Nat}{i:Int}{j:Nat}(h:ixN n i=some j):UA i n=some j/\j<n/\-(n:Int)<=i/\i<n:=by
 unfold ixN at h;by_cases a:0<=i
 ·rw[fo a]at h;by_cases h1:i<n
  ·rw[fo h1]at h;have e:i.toNat=j:=ß h;exact⟨by rw[UB a h1,e],(),(),h1⟩
  ·rw[fq h1]at h;cases h
 ·rw[fq a]at h;by_cases h1:-(n:Int)<=i
  ·rw[fo h1]at h;have e:(i+n).toNat=j:=ß h;exact⟨by rw[UC () h1,e],(),h1,()⟩
  ·rw[fq h1]at h;cases h
def Jk{α:Type}{xs:List α}{i:Int}{v:α}(h:atI xs i=some v):∃j,UA i ⇑xs=some j/\xs[j]?=some v/\j<⇑xs/\-(⇑xs:Int)<=i/\i<⇑xs:=by
 unfold atI at h;cases e:ixN ⇑xs i with
 |none=>rw[e]at h;cases h
 |some j =>
  rw[e]at h;let⟨h1,h2,a,b⟩:=Ia e;exact⟨j,h1,h,h2,a,b⟩
def cU{α:Type}{xs:List α}{j:Nat}{v:α}(h:xs[j]?=some v):atI xs (j:Int)=some v:=by
 have a:j<⇑xs:=(È.mp h).1;have e:ixN ⇑xs (j:Int)=some j:=by
  unfold ixN;rw[fo (),fo ()];simp
 unfold atI;rw[e];exact h
def qG{α:Type}(xs:List α)(v:α):atI (xs++[v]) (-1)=some v:=by
 have hl:⇑(xs++[v])=⇑xs+1:=by simp
 have e:ixN ⇑(xs++[v]) (-1)=some ⇑xs:=by
  unfold ixN;rw[hl,fq ∅,fo ()];congr 1;lia
 unfold atI;rw[e];show(xs++[v])[⇑xs]?=some v;simp
def nM(b:YE):Prop:=∀o i,UD b false o i=operate [o,i] (VU o i)
def IxR(X:Cx)(r:R2):Prop :=
 ∀(value slice:YE)(pins:fF)(s:Shared)(σ:St)(H:Hp)(x y:V)(v u:Value)(Q:VK),Inv X pins σ H s->RelV x v->RelV y u->r x y H Q ->
  UD slice false v u=operate [v,u] (VU v u)->wpAny (model X.prog X.w) X.A (Uf value slice v u) (EP X pins σ Q) X.xe s
def MtR(X:Cx)(id:String)(r:V->List V->Hp->VK->Prop):Prop :=
 ∀(pins:fF)(s:Shared)(σ:St)(H:Hp)(x:V)(xs:List V)(v:Value)(us:fT)(Q:VK),Inv X pins σ H s->RelV x v->Vals xs us->r x xs H Q ->
  wpAny (model X.prog X.w) X.A (WF (.builtin id) (v::us)) (EP X pins σ Q) X.xe s
section
variable{a b:YE}{ta tb:TE}{pos:Pos}
def IxR.or{r f:R2}(h:IxR X r)(h':IxR X f):IxR X (λx y H Q=>r x y H Q\/f x y H Q):=by
 intro d c e s σ H x y v u Q I g i q hs;rcases q with q|q
 ·exact h d c e s σ H x y v u Q I g i q hs
 ·exact h' d c e s σ H x y v u Q I g i q hs
def gD{r:R2}(hr:IxR X r)(ha:PE X a ta)(hb:PE X b tb)(hs:nM b):PE X (.Subscript a b pos) (tOp r ta tb):=by
 intro c s σ H Q I h;exact VZ (Xx ha hb I h λv u s2 x y H2 I2 rx ry q=>hr a b c s2 σ H2 x y v u Q I2 rx ry q (hs _ _))
def YG(K:Ý):R2:=λx y H Q=>∃p xs i v,x=.ref p/\y=.int i/\SqL K H p xs/\atI xs i=some v/\Q v H
def aaK(K:Ý):R2:=λx y H Q=>∃p xs i v,x=.ref p/\y=.int i/\SqT K H p xs/\atI xs i=some v/\Q v H
def dh:IxR X (YG X.K):=by
 intro l k c s σ H x y v u Q I C D h hs;let⟨p,xs,i,z,rfl,rfl,B,he,q⟩:=h;cases C;let⟨t,rfl⟩:=D;let⟨its,r,f,F⟩:=I.list B;let⟨j,h1,h2,E,o,A⟩:=Jk he;let⟨w,m,g⟩:=r.get h2;have hl:=⇑r;have hn:=vB;have d:EP X c σ Q w s:=⟨z,H,I,g,q⟩
 by_cases n:0<=i
 ·have e:i.toNat=j:=by
   rw[UB n A]at h1;exact ß h1
  exact item_listR f.isList n () (by rw[e];simpa using m) d hs
 ·have e:(i+(its.toArray.size:Int)).toNat=j:=by
   rw[UC () o]at h1;rw[Ñ,←hl];exact ß h1
  exact UE (x:=w) f.isList.typeIs slot_list_getitem.lookup
   (wpAny_getItem_list_neg (Q:=λr s'=>r=w/\EP X c σ Q r s') f.isList () (by rw[Ñ] <;> lia) () (by rw[e];simpa using m) ⟨rfl,d⟩) hs
def Af:IxR X (aaK X.K):=by
 intro g f c s σ H x y v u Q I n o h hs;let⟨p,xs,i,z,rfl,rfl,m,he,q⟩:=h;cases n;let⟨t,rfl⟩:=o;let⟨its,r,k,D⟩:=I.tuple m;let⟨j,h1,h2,A,B,C⟩:=Jk he;let⟨w,l,e⟩:=r.get h2;have hl:=⇑r;have hn:=vB;have d:EP X c σ Q w s:=⟨z,H,I,e,q⟩
 exact UE (x:=w) k.typeIs slot_tuple_getitem.lookup
  (getItem_tuple (j:=j) (Q:=λr s'=>r=w/\EP X c σ Q r s') k () () (by rw[Ñ,←hl];exact h1) ↑l ⟨rfl,d⟩) hs
def Gg(its:fT)(n j:Nat)(u:Value):æ (·.setIfInBounds j u) { cls:=.type "list",data:=.seq its.toArray n }={ cls:=.type "list",data:=.seq (its.set j u).toArray n }:=by
 simp[æ]
def Inv.lst{c:fF}{σ:St}{H:Hp}{s:Shared}{p:Addr}{xs:List V}(I:Inv X c σ H s)(h:H p=some (.lst xs)) :
  ∃(its:fT)(n:Nat),Vals xs its/\s.heap.get? p=some { cls:=.type "list",data:=.seq its.toArray n }/\⇑xs<=sizeLine:=by
 let⟨z,its,n,r,e⟩:=I.hok p _ h;exact⟨its,n,r,e,z⟩
def Inv.Wt{c:fF}{σ:St}{H:Hp}{s:Shared}{p:Addr}{xs ys:List V}{its its':fT}{n d:Nat}{f:Obj->Obj}(I:Inv X c σ H s)(h:H p=some (.lst xs))(i:s.heap.get? p=some { cls:=.type "list",data:=.seq its.toArray n })(g:f { cls:=.type "list",data:=.seq its.toArray n }={ cls:=.type "list",data:=.seq its'.toArray d })(r:Vals ys its')(j:⇑ys<=sizeLine)(t:Nat) :
  Inv X c σ (upd H p (.lst ys)) { s with heap:=s.heap.update p f,toks:=t }:=by
 have e:(s.heap.update p f).get? p=some { cls:=.type "list",data:=.seq its'.toArray d }:=by
  rw[ŧ f i (by rw[g] <;> rfl),g]
 refine I.write (x:=p) (e:=p) (by rw[h];trivial) (.inl rfl) (λb u hb q=>(Ō _ _ (ĝ hb)).trans q) ⟨_,e⟩ ?_;exact⟨j,its',d,r,e⟩
def Yz:V->V->V->Hp->(Hp->Prop)->Prop:=λo i v H Q=>∃p xs k j,o=.ref p/\i=.int k/\H p=some (.lst xs)/\ixN ⇑xs k=some j/\Q (upd H p (.lst (xs.set j v)))
def set_list:aao X Yz:=by
 intro c s σ H o i v B A u Q I y x z h;let⟨p,xs,k,j,rfl,rfl,hp,m,q⟩:=h;cases y;let⟨t,rfl⟩:=x;let⟨its,n,r,d,w⟩:=I.lst hp;let⟨h1,h2,g,l⟩:=Ia m;have hl:=⇑r;have hn:=vB;have e:Inv X c σ (upd H p (.lst (xs.set j v))) { s with heap:=s.heap.update p (æ (·.setIfInBounds j u))} :=
  I.Wt hp d (Gg its n j u) (r.set z j) (by rw[List.length_set];exact w) s.toks
 by_cases f:0<=k
 ·have hk:k.toNat=j:=by
   rw[UB f l]at h1;exact ß h1
  exact W.ki_setAt d f () (by rw[Ñ,←hl];exact l) (by rw[hk];exact⟨_,e,q⟩)
 ·have hk:(k+(its.toArray.size:Int)).toNat=j:=by
   rw[UC () g]at h1;rw[Ñ,←hl];exact ß h1
  exact W.ki_setBack d () (by rw[Ñ,←hl];exact g) () (by rw[hk];exact⟨_,e,q⟩)
def yG(lo hi:Option Int)(n:Nat):(UF lo hi none n).1=(~~~(HT.sIx n 0 lo))/\(UF lo hi none n).2.1=(~~~(HT.sIx n n hi))/\(UF lo hi none n).2.2=1:=by
 refine⟨?_,?_,rfl⟩
 ·cases lo with
  |none=>simp[UF,HT.sIx]
  |some i =>
   simp only[UF,HT.sIx,Option.getD_none,show(1:Int) > 0 by decide,if_true];by_cases h:i<0
   ·simp only[h,if_true] <;> lia
   ·simp only[h,if_false] <;> lia
 ·cases hi with
  |none=>simp[UF,HT.sIx]
  |some i =>
   simp only[UF,HT.sIx,Option.getD_none,show(1:Int) > 0 by decide,if_true];by_cases h:i<0
   ·simp only[h,if_true] <;> lia
   ·simp only[h,if_false] <;> lia
def wF(its:fT)(lo hi:Option Int):slicePick its.toArray lo hi none=((its.drop (HT.sIx ⇑its 0 lo)).take (HT.sIx ⇑its ⇑its hi - HT.sIx ⇑its 0 lo)).toArray:=by
 let⟨h1,h2,c⟩:=yG lo hi its.toArray.size;unfold slicePick;rw[h1,h2,c];simp only[sliceRange_one,pick_run,Ñ] <;> rfl
def aaJ(K:Ý):V->Option Int->Option Int->Hp->VK->Prop:=λx lo hi H Q=>∃a xs,x=.ref a/\SqL K H a xs/\∀p,H p=none->Q (.ref p) (upd H p (.lst (vZ xs lo hi)))
def Ho:SlR X (aaJ X.K):=by
 intro d s σ H x v l m lo hi k Q I j hs g i h;let⟨a,xs,rfl,e,q⟩:=h;cases j;let⟨its,r,ht,f⟩:=I.list e;have c:=⇑r;refine⟨"list",_,slot_list_getitem.lookup,ht.isList.typeIs,?_⟩;refine wpAny_getItem_list_slice ht.isList hs g i .none (by simp) ?_ (by rw[Ñ] <;> lia);rw[wF,←c];refine⟨.ref ↥s,_,I.laid (t':=s.toks) (o:=.lst (vZ xs lo hi)) (λb ob q=>Ô _ q) (Ì _) ?_,rfl,q _ (I.hok.fresh (Ì _))⟩;exact⟨ĉ (rZ xs lo hi) f,_,0,(r.drop (HT.sIx ⇑xs 0 lo)).take (HT.sIx ⇑xs ⇑xs hi - HT.sIx ⇑xs 0 lo),ä _ rfl⟩
def gR:bU X (.builtin "len") (λxs H Q=>∃p ys,xs=[.ref p]/\(SqL X.K H p ys\/SqT X.K H p ys)/\Q (.int ⇑ys) H):=by
 intro g s σ H xs k Q I r h;let⟨p,ys,rfl,d,q⟩:=h;let⟨u,rfl,j⟩:=vals1 r;cases j;have hn:=vB;rcases d with d|d
 ·let⟨its,f,e,i⟩:=I.list d;have c:=⇑f;exact Calls.call_len_list e.isList (by simp only[Ñ] <;> lia) ⟨.int ⇑ys,H,I.tok _,⟨s.toks+1,by rw[Ñ,c]⟩,q⟩
 ·let⟨its,f,e,i⟩:=I.tuple d;have c:=⇑f;exact len_tuple e (by simp only[Ñ] <;> lia) ⟨.int ⇑ys,H,I.tok _,⟨s.toks+1,by rw[Ñ,c]⟩,q⟩
def Bj:bU X (.type "list") (λxs H Q=>∃p ys,xs=[.ref p]/\(SqL X.K H p ys\/SqT X.K H p ys)/\∀l,H l=none->Q (.ref l) (upd H l (.lst ys))):=by
 intro j s σ H xs v Q I r h;let⟨p,ys,rfl,g,q⟩:=h;let⟨u,rfl,t⟩:=vals1 r;cases t;have d:∀(its:fT),Vals ys its->⇑ys<=sizeLine->∀(h':Heap)(c':Nat),(∀b o',s.heap.get? b=some o'->h'.get? b=some o') ->
   h'.get? ↥s=some { cls:=.type "list",dict:=none,data:=.seq its.toArray c',slots:=#[]}->EP X j σ Q (.ref ↥s) { s with heap:=h' }:=λits c i h' c' kp e =>
  ⟨.ref ↥s,_,I.laid (t':=s.toks) kp (Ì _) (show bA X.prog X.w _ h' _ (.lst ys)from⟨i,its,c',c,e⟩),rfl,q _ (I.hok.fresh (Ì _))⟩
 rcases g with g|g
 ·let⟨its,c,m,i⟩:=I.list g;have f:=⇑c;let⟨o,k,hc,n,hd⟩:=m.isList;exact UH p (.inl rfl) k hc hd (λh' c' kp e=>d its c i h' c' kp e) (by simp only[Ñ] <;> lia)
 ·let⟨its,c,m,i⟩:=I.tuple g;have f:=⇑c;let⟨o,k,hc,n,hd⟩:=m;exact UH p (.inr rfl) k hc hd (λh' c' kp e=>d its c i h' c' kp e) (by simp only[Ñ] <;> lia)
def wM:bU X (.type "tuple") (λxs H Q=>∃p ys,xs=[.ref p]/\((SqL X.K H p ys/\∀l,H l=none->Q (.ref l) (upd H l (.tup ys)))\/(SqT X.K H p ys/\Q (.ref p) H))):=by
 intro c s σ H xs t Q I r h;let⟨p,ys,rfl,h⟩:=h;let⟨u,rfl,n⟩:=vals1 r;cases n;rcases h with⟨d,q⟩|⟨d,q⟩
 ·let⟨its,g,f,k⟩:=I.list d;have j:=⇑g;refine call_tuple_list f.isList (λh' kp=>?_) (by simp only[Ñ] <;> lia);have i:Inv X c σ H { s with heap:=h' }:=I.kept (t':=s.toks) kp;have m:Inv X c σ (upd H h'.objs.size (.tup ys)) { s with heap:=h'.push { cls:=.type "tuple",data:=.seq its.toArray }} :=
   i.laid (t':=s.toks) (λb o e=>Ô _ e) (Ì _) (show bA X.prog X.w _ _ _ (.tup ys)from⟨k,its,g,IsTup.new _ _⟩)
  exact⟨.ref h'.objs.size,_,m,rfl,q _ (i.hok.fresh (Ì _))⟩
 ·let⟨its,g,f,k⟩:=I.tuple d;exact call_tuple_same f ⟨.ref p,H,I,rfl,q⟩
def tyV(K:Ý)(T:String)(x:V)(H:Hp):Prop:=match x with
 |.str _=>T="str"
 |.int _=>T="int"
 |.ref p=>(T="list"/\∃xs,SqL K H p xs)\/(T="tuple"/\∃o,K.lookup p=some o/\o.cls=.type "tuple"/\o.dict=none)∨
   (T="dict"/\((∃kvs,H p=some (.dK kvs))\/∃kvs,H p=some (.dT kvs)))\/(T="set"/\∃S n,H p=some (.set S n))
 |_=>False
def Vc{f:fF}{σ:St}{H:Hp}{s:Shared}{T:String}{x:V}{v:Value}(I:Inv X f σ H s)(r:RelV x v)(ty:tyV X.K T x H) :
  s.TypeIs v T/\∀a,v=.ref a->∃ob,s.heap.get? a=some ob/\ob.dict=none:=by
 cases x with
 |str z =>
  let⟨t,rfl⟩:=r;cases (show T="str" from ty);exact⟨typeIs_str s z t,λ_ e=>nomatch e⟩
 |int i =>
  let⟨t,rfl⟩:=r;cases (show T="int" from ty);exact⟨UI s i t,λ_ e=>nomatch e⟩
 |ref p =>
  cases r;rcases ty with⟨rfl,xs,j⟩|⟨rfl,o,hk,hc,hd⟩|⟨rfl,hk⟩|⟨rfl,S,n,hk⟩
  ·let⟨its,_,h,_⟩:=I.list j;refine⟨h.isList.typeIs,λa e=>?_⟩;cases e;let⟨o,n,e,c,hd,_⟩:=h;exact⟨o,e,hd⟩
  ·refine⟨⟨o,I.kIn p o hk,hc⟩,λa e=>?_⟩;cases e;exact⟨o,I.kIn _ o hk,hd⟩
  ·have z:∃o,s.heap.get? p=some o/\o.ExactDict:=by
    rcases hk with⟨g,hk⟩|⟨g,hk⟩
    ·let⟨_,_,_,_,o,_,_,e,d,_⟩:=I.hok p _ hk;exact⟨o,e,d⟩
    ·let⟨_,_,_,_,o,_,_,e,d,_⟩:=I.hok p _ hk;exact⟨o,e,d⟩
   let⟨o,e,d⟩:=z;refine⟨⟨o,e,d.1⟩,λa e2=>?_⟩;cases e2;exact⟨o,e,d.2.1⟩
  ·let⟨o,_,_,_,e,d,_⟩:=I.hok p _ hk;refine⟨⟨o,e,d.1⟩,λa e2=>?_⟩;cases e2;exact⟨o,e,d.2.1⟩
 |_=>exact ĺ ty
def tBM(K:Ý)(T:String)(r:V->List V->Hp->VK->Prop)(c:TE)(t:TA):TE:=λσ H Q=>c σ H λx H1=>tyV K T x H1/\t σ H1 λxs H2=>r x xs H2 Q
variable{o e:YE}{es:List YE}{to:TE}{t:TA}{name:Str}{apos cpos:Pos}{T id:String}{r:V->List V->Hp->VK->Prop}
def iy(n:PlainAttrs T)(j:Slot T name id)(k:typeOf (.builtin id)=pure (.type "method_descriptor"))(hm:MtR X id r)(m:PE X o to)(ha:PA X (e::es) t)(f:UK o name X.env (YN o X.env)=YN o X.env:=by rfl)(i:((YO cpos (YI (e::es) X.env)).all (λx=>!x.1)&&(YU cpos (YV [] X.env)).all (λx=>x.1.isSome)
  &&decide (⇑(e::es)+⇑([]:List YY)+(if([]:List YY).isEmpty then 0 else 1)<30))=true:=by rfl)(g:(apos.endLine==cpos.line)=true:=by rfl)(hs:YI (e::es) X.env=(false,YN e X.env)::YI es X.env:=by rfl)(d:(YO cpos (YI es X.env)).any (·.1)=false:=by rfl) :
  PE X (.Call (.Attribute o name apos) (e::es) [] cpos) (tBM X.K T r to t):=by
 intro c s σ H Q I h;refine wpAny_Call_method_late f i g rfl (thn (m c s σ H _ I h) λv s1 ⟨x,H1,I1,r1,ty,q1⟩=>?_);let⟨h1,h2⟩:=Vc I1 r1 ty;refine⟨T,id,n,j,k,h1,h2,?_⟩;have l:=ha cpos c s1 σ H1 _ I1 q1;rw[hs]at l ⊢;refine Calls.callWith_builtin (by show(false || (YO cpos (YI es X.env)).any (·.1))=false;rw[d] <;> rfl) (Calls.evalArgs_plain ?_);exact thn l λus s2 ⟨vs,H2,I2,r2,q2⟩=>hm c s2 σ H2 x vs v us Q I2 r1 r2 q2
/- xs.append(e),list.index on a module's tuple .. are MtR facts of 06m -/
end
def MtM(X:Cx)(id:String)(r:V->List V->Hp->VK->Prop):Prop :=
 ∀(pins:fF)(s:Shared)(σ:St)(H:Hp)(x:V)(xs:List V)(v:Value)(us:fT)(Q:VK),Inv X pins σ H s->RelV x v->Vals xs us->r x xs H Q ->
  wpAny (model X.prog X.w) X.A (WF (.builtin id) (v::us)) (EP X pins σ Q) X.xe s
theorem Vals.one:∀{x:V}{a:fT},Vals [x] a->∃u,a=[u]/\RelV x u
 |_,_,.cons r .nil=>⟨_,rfl,r⟩
theorem Vals.two:∀{x y:V}{a:fT},Vals [x,y] a->∃u v,a=[u,v]/\RelV x u/\RelV y v
 |_,_,_,.cons r (.cons q .nil)=>⟨_,_,rfl,r,q⟩
theorem Vals.eraseIdx:∀{xs:List V}{a:fT} (i:Nat),Vals xs a->Vals (xs.eraseIdx i) (a.eraseIdx i)
 |_,_,_,.nil=>.nil
 |_,_,0,.cons _ t=>t
 |_,_,i+1,.cons r t=>.cons r (Vals.eraseIdx i t)
theorem Vals.rep{xs:List V}{a:fT}(h:Vals xs a):∀k:Nat,Vals (Ë k xs).flatten (Ë k a).flatten
 |0=>.nil
 |k+1=>by
  rw[ě,ě,ú,ú];exact Vals.append h (Vals.rep h k)
theorem qW{α:Type}:∀(l:List α)(i:Nat),⇑(l.eraseIdx i)<=⇑l
 |[],_=>Ì _
 |_::_,0=>ĸ _
 |_::r,i+1=>Nat.succ_le_succ (qW r i)
theorem foldl_rep(its:fT):∀(k:Nat)(acc:fT),
  List.foldl (λx1 x2=>x1++x2) acc.toArray (Ë k its.toArray)=(acc++(Ë k its).flatten).toArray
 |0,acc=>by simp
 |k+1,acc=>by
  have e:acc.toArray++its.toArray=(acc++its).toArray:=by simp
  have a:(acc++its)++(Ë k its).flatten=acc++(Ë (k+1) its).flatten:=by
   rw[ě,ú,ľ]
  rw[←a,←foldl_rep its k (acc++its),←e,ě,List.foldl_cons]
section
variable{pins:fF}{σ:St}{H:Hp}{s:Shared}{l b:Addr}{xs ys zs:List V}
def Inv.Oi{its its':fT}{n:Nat}{f:fS->fS}{t':Nat}(I:Inv X pins σ H s)(a:H l=some (.lst xs))(e:s.heap.get? l=some { cls:=.type "list",data:=.seq its.toArray n })(c:f its.toArray=its'.toArray)(hv:Vals ys its')(d:⇑ys<=sizeLine) :
  Inv X pins σ (upd H l (.lst ys)) { s with heap:=s.heap.update l (æ f),toks:=t' }:=by
 have q:=PySem.IsL.update e f;rw[c]at q;refine I.write (x:=l) (e:=l) (by rw[a];exact trivial) (.inl rfl) (λb' u hb hu=>(Ō s.heap (æ f) (ĝ hb)).trans hu) ⟨_,q⟩ ?_;exact⟨d,its',_,hv,q⟩
def Inv.Zf{its:fT}{t':Nat}(I:Inv X pins σ H s)(hv:Vals ys its)(a:⇑ys<=sizeLine) :
  Inv X pins σ (upd H ↥s (.lst ys)) { s with heap:=s.heap.push { cls:=.type "list",data:=.seq its.toArray },toks:=t' } :=
 I.laid (λ_ _ q=>Ô _ q) (Ì _) ⟨a,its,0,hv,ä _ rfl⟩
def Inv.fresh(I:Inv X pins σ H s):H ↥s=none:=I.hok.fresh (Ì _)
def Inv.Ab(I:Inv X pins σ H s)(a:H l=some (.lst xs)):⇑xs<=sizeLine/\∃(its:fT)(n:Nat),Vals xs its/\⇑xs=⇑its/\s.heap.get? l=some { cls:=.type "list",data:=.seq its.toArray n }:=by
 let⟨z,its,n,r,e⟩:=I.hok l _ a;exact⟨z,its,n,r,⇑r,e⟩
def CZ{n:Nat}(h:n<=sizeLine):Builtin.List.listTooLong n=false:=by
 unfold Builtin.List.listTooLong;exact fi ()
end
section
def pN:V->List V->Hp->VK->Prop:=λx vs H Q=>∃l xs y,x=.ref l/\vs=[y]/\H l=some (.lst xs)/\⇑xs<sizeLine/\Q .non (upd H l (.lst (xs++[y])))
def fJ:MtM X "list.append" pN:=by
 intro b s σ H x vs v i Q I f d h;let⟨l,xs,y,rfl,rfl,a,g,q⟩:=h;cases f;let⟨u,rfl,c⟩:=d.one;let⟨z,its,n,r,hl,e⟩:=I.Ab a;refine UM F.slot_list_append ⟨_,e,rfl⟩ F.entry_list_append (F.args_list_append_2 _ _) (PySem.list_append l its.toArray n u (by rw[Ñ];lia)) ⟨e,?_⟩;refine⟨.non,_,I.Oi (its':=its++[u]) a e (by simp) (r.append (.cons c .nil)) ?_,rfl,q⟩;rw[É,á];lia
def Hy:V->List V->Hp->VK->Prop:=λx vs H Q=>∃l b xs zs,x=.ref l/\vs=[.ref b]/\H l=some (.lst xs)/\H b=some (.lst zs)/\⇑xs+⇑zs<=sizeLine/\Q .non (upd H l (.lst (xs++zs)))
def jA:MtM X "list.extend" Hy:=by
 intro f s σ H x vs v y Q I t p h;let⟨l,b,xs,B,rfl,rfl,d,i,w,q⟩:=h;cases t;let⟨u,rfl,o⟩:=p.one;cases o;let⟨z,its,n,r,hl,e⟩:=I.Ab d;let⟨A,a,k,m,j,g⟩:=I.Ab i;have hsz:its.toArray.size+a.toArray.size<=sizeLine:=by rw[Ñ,Ñ];lia
 have c:¬(!its.toArray.isEmpty&&Builtin.List.listTooLong (its.toArray.size+a.toArray.size))=true:=by
  rw[CZ hsz,Bool.and_false];exact Ù
 refine UM F.slot_list_extend ⟨_,e,rfl⟩ F.entry_list_extend (F.args_list_extend_2 _ _)
  (AutoSeq1.list_extend_list_list_0 l its.toArray n b a.toArray k c (by rw[Ñ];lia) ()) ⟨e,g,?_⟩
 refine⟨.non,_,I.Oi (its':=its++a) d e (by simp) (r.append m) ?_,rfl,q⟩;rw[É];lia
def Lz:V->List V->Hp->VK->Prop:=λx vs H Q=>∃l xs i k y,x=.ref l/\vs=[.int i]/\H l=some (.lst xs)/\-(2 ^ 63)<=i/\i<2 ^ 63/\UA i ⇑xs=some k/\xs[k]?=some y/\Q y (upd H l (.lst (xs.eraseIdx k)))
def Ob:MtM X "list.pop" Lz:=by
 intro c s σ H x vs v o Q I m j h;let⟨l,xs,i,k,y,rfl,rfl,b,h1,h2,hk,f,q⟩:=h;cases m;let⟨u,rfl,g⟩:=j.one;let⟨t,rfl⟩:=g;let⟨z,its,n,r,hl,e⟩:=I.Ab b;let⟨w,d,a⟩:=r.get f;refine UM F.slot_list_pop ⟨_,e,rfl⟩ F.entry_list_pop (F.args_list_pop_2 _ _)
  (MeetsSeq.list_pop_at l its.toArray n i t k w (UN h1 h2) (by rw[Ñ,←hl];exact hk) (by rw[←Array.getElem?_toList];exact d) (by rw[Ñ];lia)) ⟨e,?_⟩
 refine⟨y,_,I.Oi (its':=its.eraseIdx k) b e ?_ (r.eraseIdx k) ?_,a,q⟩
 ·show its.toArray.eraseIdxIfInBounds k=(its.eraseIdx k).toArray;rw[List.eraseIdxIfInBounds_toArray]
 ·have:=qW xs k;lia
def YJ:R2:=λx y H Q=>∃l b xs zs,x=.ref l/\y=.ref b/\H l=some (.lst xs)/\H b=some (.lst zs)/\⇑xs+⇑zs<=sizeLine/\∀p,H p=none->Q (.ref p) (upd H p (.lst (xs++zs)))
def Nq:OpR X (WG .Add) YJ:=by
 intro c s σ H x y v u Q I m o h;let⟨l,b,xs,A,rfl,rfl,i,g,p,q⟩:=h;cases m;cases o;let⟨z,its,n,r,hl,e⟩:=I.Ab i;let⟨w,a,t,k,j,d⟩:=I.Ab g;refine PySem.P.add_list e d ?_ (by rw[Ñ,Ñ];lia);have f:its.toArray++a.toArray=(its++a).toArray:=by simp
 rw[f];exact⟨.ref _,_,I.Zf (t':=s.toks) (r.append k) (by rw[É];lia),rfl,q _ I.fresh⟩
def YD:R2:=λx y H Q=>∃l k xs,x=.ref l/\y=.int k/\H l=some (.lst xs)/\-(2 ^ 63)<=k/\k<2 ^ 63/\⇑xs * k.toNat<=sizeLine /\
 ∀p,H p=none->Q (.ref p) (upd H p (.lst (Ë k.toNat xs).flatten))
def len_rep{α:Type}(xs:List α)(k:Nat):(Ë k xs).flatten.length=k * ⇑xs:=by
 induction k with
 |zero=>simp
 |succ k a=>rw[ě,ú,É,a,Nat.succ_mul,Nat.add_comm]
def Nh:OpR X (WG .Mult) YD:=by
 intro j s σ H x y v u Q I w A h;let⟨l,k,xs,rfl,rfl,p,h1,h2,i,q⟩:=h;cases w;let⟨t,rfl⟩:=A;let⟨z,its,n,r,hl,e⟩:=I.Ab p;have f:its.toArray.size * k.toNat<=sizeLine:=by rw[Ñ,←hl];exact i
 have c:¬its.toArray.size * k.toNat > (2 ^ 63 - 1) / 8:=by
  have:(sizeLine:Nat)<=(2 ^ 63 - 1) / 8:=∅
  lia
 have d:¬(!Builtin.List.listFitsIndex k)=true:=by
  rw[UN h1 h2];exact Ù
 have b:¬Builtin.List.listTooLong (its.toArray.size * k.toNat)=true:=by
  rw[CZ f];exact Ù
 have g:List.foldl (λx1 x2=>x1++x2) #[] (Ë (if its.toArray.isEmpty=true then 0 else k.toNat) its.toArray)=(Ë k.toNat its).flatten.toArray:=by
  have o:∀m:Nat,List.foldl (λx1 x2=>x1++x2) #[] (Ë m its.toArray)=(Ë m its).flatten.toArray:=λm=>by
   have:=foldl_rep its m [];rw[List.nil_append]at this;exact this
  rw[o];cases its with
  |nil=>simp
  |cons a B=>rw[fq (by simp)]
 refine wpAny_binaryOp_repeat_ref (T:="list") (U:="int") ∅ ⟨_,e,rfl⟩ (λs'=>UI s' k t) noFill_list_mul F.fills_int_mul F.slot_int_rmul repeat_list F.slot_int_index.lookup
  (UM F.slot_int_rmul (UI s k t) F.entry_int_rmul (F.args_int_rmul_2 _ _) (int___rmul___int_list k t l its.toArray n)
   ⟨e,rfl,⟨_,e,rfl⟩,UM F.slot_list_mul ⟨_,e,rfl⟩ F.entry_list_mul (F.args_list_mul_2 _ _) (AutoListH.list___mul___list_int_3 l its.toArray n k t d c b) ⟨e,?_⟩⟩)
 rw[g];exact⟨.ref _,_,I.Zf (t':=s.toks) (r.rep k.toNat) (by rw[len_rep,Nat.mul_comm];exact i),rfl,q _ I.fresh⟩
section
variable{prog:Zg}{w:Zl}{A:Ys}{E:fA}{s:Shared}
end
end
end L2
namespace Att
open PySem.W PySem.Calls
def sO{P:Zs}{h:Heap}:∀(ns:fM)(vs:fT),WellAll P h vs (ns.map WData.int)->IntsAre vs ns:=by
 intro ns;induction ns with
 |nil =>
  intro vs w;rw[List.map_nil]at w;cases w;exact .nil
 |cons n ns ih =>
  intro vs w;rw[é]at w;cases w with
  |cons a b =>
   cases a;exact .cons _ _ (ih _ b)
def Js{l:OpenLaw}{n:Nat}(hn:l.most=some n){P:Zs}{h:Heap}{b:List WData}{e:fT}(c:l.row.toRowW.claim.pre b=true)(m:WellAll P h e b) :
  ∃a vs ns,e=[ģ a]/\b=[WData.list (ns.map WData.int)]/\h.get? a=some { cls:=.type "list",data:=.seq vs.toArray }/\IntsAre vs ns/\⇑ns<=n:=by
 have k:WShape.hasAll [] b [.list .int]=true:=(pre_splitW c).1;have hc:l.pre.holds [] { args:=b }=true:=(pre_splitW c).2;let⟨d,r,rfl,h1,h2⟩:=hasAllW_cons k;obtain rfl:=hasAllW_nil h2;let⟨xs,rfl,o⟩:=hasW_list h1;let⟨ns,rfl⟩:=items_int o;have g:⇑ns<=n:=by
  unfold OpenLaw.pre at hc;have i:(WTm.not (.lt (.lit (.int (n:Int))) (.len (.arg 0)))).holds [] { args:=[.list (ns.map .int)]}=true:=by
   have i:=(holds_andW hc).1;rw[hn]at i;exact i
  have j:=condW_of i (w_not (w_lt w_lit (w_len_list (w_arg rfl))));rw[À]at j;refine Nat.le_of_not_lt λq=>?_;have s:(n:Int)<(⇑ns:Int):=()
  first
   |(rw[gz s]at j;exact ft j ∅)
   |(simp at j;lia)
 cases m with
 |cons w1 w2 =>
  cases w2;cases w1 with
  |list p f=>exact⟨_,_,ns,rfl,rfl,p,sO ns _ f,g⟩
def Jv(l:OpenLaw)(a:List WData):l.row.toRowW.claim.post a (.bool true) a=true :=
 postW_of (r:=l.row.toRowW) (X:=(true==true))
  (show WShape.has [] (.bool true) .bool=true by first|rfl|decide|simp[WShape.has,WShape.arms,WShape.armsAll])
  (show(WTm.eq .res (.lit (.bool true))).value [] { args:=a,res:=some (.bool true),after:=a }=some (.bool (true==true))from w_eq_bool (w_res rfl) w_lit) rfl
def Et{l:OpenLaw}{n:Nat}{q:Zg}{loose:List Str}{XP:(Str->gf)->Heap->Prop}{YP:Zl->Heap->Prop}{d:DefRec}(hn:l.most=some n)(s:d.params.defaults=[])(h:∀(w:Zl)(c b:Shared)(mg mb:Str->gf)(i:Addr)(o:Obj)(v p e:Value)(a:Addr)(vs:fT)(ns:fM),
   Ground q loose [] XP w c mg mb b.heap->YP w b.heap ->
   b.heap.get? i=some o->o.data=.func (docDef d.name d.params d.body d.scope v p e)->b.heap.CodeRec p d.name->mg d.name=some (.ref i) ->
   b.heap.get? a=some { cls:=.type "list",data:=.seq vs.toArray }->IntsAre vs ns->⇑ns<=n->b.gens=#[] ->
   WZ (model l.prog w) callerA (.call (.ref i) ⟨[.ref a],[]⟩) (λr s'=>r=.ok (.ret (.bool true))/\OldK b.heap s'.heap/\s'.os=b.os/\Y1 s'.gens) b) :
  WalkO q loose XP YP l.row.toRowW d [] (λf vs=>PySem.call f vs):=by
 intro w c b mg mb G Y i o v p e B kV F hd hcd y t hg x A as m z H u E;obtain rfl:B=.none:=Dflts.none y s;obtain rfl:kV=.none:=Dflts.noKw y;let⟨a,vs,ns,rfl,rfl,k,g,j⟩:=Js hn m u;refine enter_call (VA (h w c b mg mb i o v p e a vs ns G Y F (fd_plain hd) hcd t k g j hg) λr s' hq=>?_);let⟨rfl,h2,C,D⟩:=hq;exact⟨.inl ⟨.bool true,.bool true,[],rfl,λ_=>rfl,.bool true,Jv l _,λ_=>⟨List.Pairwise.nil,λ_ hm=>(nomatch hm)⟩⟩,h2,C,D⟩
section
variable{prog:Zg}{w:Zl}{A:Ys}{E:fA}{s:Shared}{K:Frag}
def ledger(h:Heap)(L d:Addr):fF:=(Ø h.objs.size).filterMap λa=>if a=L\/a=d then none else(h.get? a).map λo=>(a,o)
end
end Att
namespace L2
open PySem.Spec
variable{X:Cx}
theorem wR:∀{vs:fT}{ns:fM},IntsAre vs ns->Vals (ns.map V.int) vs
 |_,_,.nil=>.nil
 |_,_,.cons n t h=>.cons ⟨t,rfl⟩ (wR h)
def fY(s:XB):VM:=match s with
 |.FunctionDef _ a _ _ _ _ _ _ _ _=>a
 |_=>{ posonlyargs:=[],args:=[],vararg:=none,kwonlyargs:=[],kw_defaults:=[],kwarg:=none,defaults:=[]}
def cu(s:XB):List XB:=match s with
 |.FunctionDef _ _ b _ _ _ _ _ _ _=>b
 |_=>[]
def au(s:XB):YA:=match s with
 |.FunctionDef _ _ _ _ _ _ a _ _ _=>a
 |_=>{ kind:=.function,names:=[],isGenerator:=false,isCoroutine:=false }
abbrev CX0:CXT:=λ_ _ _ _ _ _=>False
abbrev E0:XK:=λ_ _ _=>False
def T8{X:Cx}:Passes CX0 X E0:=λ_ _ _ _ _ _ _ h=>h.elim
structure Fun(K:Ý)(x qual:Str)(st:XB)(f:Addr)(fd:WS):Prop where
 ex:∃(oc:Value)(od:gc)(kV doc pm:Value)(an:gc)(cdv ct:Value)(osl:Array gf),
  fd=W.fnOf x qual (fY st) (cu st) (au st) .none kV doc pm an cdv ct/\K.lookup f=some ⟨oc,od,.func fd,osl⟩/\W.codeIn K cdv qual=true
 kp:W.keepIn K (.ref f)=true
section
variable{P:Zg}{w:Zl}{K:Ý}{mg:Str->gf}{gy:Heap}
def Fun.ok{x qual:Str}{st:XB}{f:Addr}{e:WS}{N ps:List Str}{k:Nat}{sp:Sp}(F:Fun K x qual st f e)(S:FnScope N ps (au st))(d:∀vs H Q E,sp vs H Q E->⇑vs=⇑ps)(c:∀(b:Value)(A:Ys)(a:List Env)(s:Shared)(H:Hp)(vs:List V)(Q:VK)(E:XK),Room k (A.deeper (VI qual (au st) ↥s f b))->sp vs H Q E ->
   ∃t,PSs (Bf CX0 P w K mg gy N qual (au st) f b A a s H E).nox (cu st) t/\t { nx:=λ_ H'=>Q .non H',rt:=Q } (start N vs) H):FnOk P w K mg gy CX0 (k+1) f e ps sp:=by
 let⟨n,o,kV,g,p,l,b,m,j,rfl,i,hcd⟩:=F.ex;refine Ph i hcd S d λA a s H vs Q E hr hsp=>?_;let⟨t,h,q⟩:=c b A a s H vs Q E hr hsp;exact⟨t,h.nox,q⟩
def Fun.binds{x qual:Str}{st:XB}{f:Addr}{i:WS}{ps:List Str}(F:Fun K x qual st f i)(h:∀(kV b g:Value)(d:gc)(a e:Value)(c:fT),⇑c=⇑ps->bindArgs (W.fnOf x qual (fY st) (cu st) (au st) .none kV b g d a e) ⟨c,[]⟩=pure (ps.zip c):=by intro _ _ _ _ _ _ c hl;first|(let⟨_,rfl⟩:=Nf.len1 c hl;rfl)|(let⟨_,_,rfl⟩:=Nf.len2 c hl;rfl)|(let⟨_,_,_,rfl⟩:=Nf.aaT c hl;rfl)):Binds K i ps []:=by
 let⟨l,m,kV,b,g,d,a,e,j,rfl,k,hcd⟩:=F.ex;exact .all (h kV b g d a e)
def W7{x qual:Str}{st:XB}{f:Addr}{i:Value}{j e:gc}{d:Array gf}{kV b h a g:Value}(l:K.lookup f=some ⟨i,j,.func (W.fnOf x qual (fY st) (cu st) (au st) .none kV b h e a g),d⟩)(c:W.codeIn K a qual=true)(k:W.keepIn K (.ref f)=true):Fun K x qual st f (W.fnOf x qual (fY st) (cu st) (au st) .none kV b h e a g):=⟨⟨i,j,kV,b,h,e,a,g,d,rfl,l,c⟩,k⟩
end
section
def pv(i:Nat){x:Str}{pos:Pos}(hN:X.N[i]?=some x:=by rfl)(hv:Vis X.env.scope x:=by first|exact đ rfl|exact Or.inr (đ rfl)|exact Or.inr (Or.inr rfl))(hd:(x==("__debug__":Str))=false:=by decide)(hcd:(x==("__classdict__":Str))=false:=by decide):PE X (.Name x pos) (iY i):=VG hN hv hd hcd
end
def aJ{A B:Prop}(h:B):if false=true then A else B:=by
 rw[fq Ù];exact h
def aF{A B:Prop}(h:A):if true=true then A else B:=by
 rw[fo rfl];exact h
def d9{c A B:Prop}[Decidable c](h1:c->A)(h2:¬c->B):if c then A else B:=by
 by_cases h:c
 ·rw[fo h];exact h1 h
 ·rw[fq h];exact h2 h
def Same(H a:Hp):Prop:=∀b o,H b=some o->a b=some o
def Same.refl(H:Hp):Same H H:=λ_ _ h=>h
def Same.trans{H d e:Hp}(a:Same H d)(b:Same d e):Same H e:=λc o h=>b c o (a c o h)
structure CB where
 cl:List (Str×Addr)
 C:Addr
 s:Shared
 H:Hp
 ex:List Addr
abbrev Cx.bf(X:Cx)(own M:List Str)(scope:YA)(c:CB):Cx where
 prog:=X.prog
 w:=X.w
 K:=X.K
 mg:=X.mg
 gy:=X.gy
 A:=X.A
 N:=own++M
 s₀:=c.s
 H₀:=c.H
 env:=compEnvC scope c.cl c.C X.env
 outer:=X.stack
 stack:=X.stack
 ex:=c.ex
 fn:=λx=>scope.names.lookup x==some .cell
 calm:=X.calm
 pn:=[]
 sf:=X.sf
 xe:=λ_ _=>False
abbrev Cx.comp(X:Cx)(own:List Str)(scope:YA)(c:CB):Cx:=X.bf own X.N scope c
def eE(cells:List (Str×Addr)):List (Str×NameKind)->List (Str×Addr)->List (Str×Addr)
 |[],acc=>acc
 |(n,k)::r,acc=>if k==.free then eE cells r ((n,(cells.lookup n).getD 0)::acc)else eE cells r acc
theorem jR{env:Env}:∀(names:List (Str×NameKind))(acc:List (Str×Addr)),(∀x∈names,x.2=.free->∃c,env.cells.lookup x.1=some c) ->
  (forIn names acc λ(p:Str×NameKind) (r:List (Str×Addr))=>match p with
   |(name,kind)=>if(kind==Ĉ)=true then do let a ←UO env name;pure (ĵ ((name,a)::r))else pure (ĵ r):Sem (List (Str×Addr)))=pure (eE env.cells names acc)
 |[],acc,_=>by simp[eE]
 |(n,k)::r,acc,h=>by
  rw[List.forIn_cons];by_cases hk:(k==Ĉ)=true
  ·let⟨c,hc⟩:=h (n,k) Æ ↑hk;have e:UO env n=pure c:=by unfold UO;rw[hc]
   have b:=jR (env:=env) r ((n,c)::acc) λx hx=>h x (Ç _ hx);show((if(k==Ĉ)=true then do let a ←UO env n;pure (ĵ ((n,a)::acc))else pure (ĵ acc)) >>=_:Sem _)=_;rw[fo hk,e];unfold eE;rw[fo hk,hc];exact b
  ·have b:=jR (env:=env) r acc λx hx=>h x (Ç _ hx);show((if(k==Ĉ)=true then do let a ←UO env n;pure (ĵ ((n,a)::acc))else pure (ĵ acc)) >>=_:Sem _)=_;rw[fq hk];unfold eE;rw[fq hk];exact b
def G3{b:YA}{env:Env}(h:∀x∈b.names,x.2=.free->∃c,env.cells.lookup x.1=some c):UP b env=pure (eE env.cells b.names []):=by
 have e:=jR (env:=env) b.names [] h;unfold UP;show(forIn b.names [] _ >>=λcs=>pure cs:Sem _)=_;have d:(forIn b.names ([]:List (Str×Addr)) λ(p:Str×NameKind) (r:List (Str×Addr))=>match p with
   |(name,kind)=>if(kind==Ĉ)=true then do let a ←UO env name;pure (ĵ ((name,a)::r))else pure (ĵ r):Sem (List (Str×Addr)))=pure (eE env.cells b.names []):=e
 rw[d];rfl
theorem qC{cells:List (Str×Addr)}{x:Str}{c:Addr}:∀{names:List (Str×NameKind)}{acc:List (Str×Addr)},(eE cells names acc).lookup x=some c->acc.lookup x=some c\/((x,Ĉ)∈names/\c=(cells.lookup x).getD 0)
 |[],acc,h=>.inl h
 |(n,k)::r,acc,h=>by
  unfold eE at h;by_cases hk:(k==Ĉ)=true
  ·rw[fo hk]at h;have a:k=.free:=↑hk
   rcases qC h with q|⟨d,f⟩
   ·rw[ē]at q;cases b:x==n with
    |true =>
     rw[b]at q;have e:x=n:=↑b
     subst e a;exact .inr ⟨Æ,(ß q).symm⟩
    |false=>rw[b]at q;exact .inl q
   ·exact .inr ⟨Ç _ d,f⟩
  ·rw[fq hk]at h;rcases qC h with q|⟨d,f⟩
   ·exact .inl q
   ·exact .inr ⟨Ç _ d,f⟩
theorem wg{cells:List (Str×Addr)}{x:Str}:∀{names:List (Str×NameKind)}{acc:List (Str×Addr)},(acc.lookup x).isSome=true->((eE cells names acc).lookup x).isSome=true
 |[],_,h=>h
 |(n,k)::r,acc,h=>by
  unfold eE;split
  ·refine wg ?_;rw[ē];cases a:x==n <;> simp[h]
  ·exact wg h
theorem mD{cells:List (Str×Addr)}{x:Str}:∀{names:List (Str×NameKind)}{acc:List (Str×Addr)},(x,Ĉ)∈names->((eE cells names acc).lookup x).isSome=true
 |(n,k)::r,acc,h=>by
  unfold eE;rcases Õ.mp h with e|h
  ·cases e;rw[fo (by rfl)];exact wg (by simp[ē])
  ·split
   ·exact mD h
   ·exact mD h
def iK(env:Env)(a:YA)(N:List Str):Bool :=
 (a.kind==.function)&&a.names.all λy=>match y.2 with
  |.local=>!(N.contains y.1)&&(a.names.lookup y.1==some .local)
  |.cell=>!(N.contains y.1)&&(a.names.lookup y.1==some .cell)
  |.free=>(a.names.lookup y.1==some .free)&&(env.kindOf y.1==some .cell || env.kindOf y.1==some .free)
  |_=>true
theorem dY{env:Env}:∀{names:List (Str×NameKind)}{x:Str}{q:NameKind},(names.map λ(n,k)=>if(k==Ĉ&&env.scope.kind==.function&&env.kindOf n==some .cell)then(n,ġ)else(n,k)).lookup x=some q ->
  ∃k,(x,k)∈names/\names.lookup x=some k/\(q=k\/(q=.cell/\k=.free))
 |[],_,_,h=>by simp at h
 |(n,k)::r,x,q,h=>by
  have d:=@dY env r x q;have h':List.lookup x ((if(k==Ĉ&&env.scope.kind==.function&&env.kindOf n==some .cell)=true then(n,ġ)else(n,k))::(r.map λ(n,k)=>if(k==Ĉ&&env.scope.kind==.function&&env.kindOf n==some .cell)then(n,ġ)else(n,k)))=some q:=h;by_cases hc:(k==Ĉ&&env.scope.kind==.function&&env.kindOf n==some .cell)=true
  ·rw[fo hc,ē]at h';cases a:x==n with
   |true =>
    rw[a]at h';have e:x=n:=↑a
    subst e;have hk:k=.free:=by simp at hc;exact hc.1.1
    exact⟨k,Æ,by simp[ē],.inr ⟨(ß h').symm,hk⟩⟩
   |false =>
    rw[a]at h';let⟨c,h1,h2,b⟩:=d h';exact⟨c,Ç _ h1,by rw[ē,a];exact h2,b⟩
  ·rw[fq hc,ē]at h';cases a:x==n with
   |true =>
    rw[a]at h';have e:x=n:=↑a
    subst e;exact⟨k,Æ,by simp[ē],.inl (ß h').symm⟩
   |false =>
    rw[a]at h';let⟨c,h1,h2,b⟩:=d h';exact⟨c,Ç _ h1,by rw[ē,a];exact h2,b⟩
def HOk.track{P:Zg}{w:Zl}{H:Hp}{h:Heap}{a:Addr}{o:HO}(x:HOk P w H h)(hn:H a=none)(new:bA P w (upd H a o) h a o):HOk P w (upd H a o) h:=λb u e=>by
 by_cases hb:b=a
 ·subst hb;rw[aq]at e;cases e;exact new
 ·rw[ao hb]at e;exact(x b u e).stay (λc v _ q=>q) (λc q=>by rw[ao (aA q hn)];exact q) λc xs q=>by rw[ao (aA q hn)];exact q
def Kh{prog:Zg}{w:Zl}{A:Ys}{s:Shared}{e a d:YE}{f:List YE}{b:YA}{pos:Pos}{it acc:Value}{env:Env}{R:WP->Shared->Prop}(I:Nat->Shared->Prop)(g:∀n s,I n s->wpAny (model prog w) A (Wl it) (λr s₁=>match r with
   |none=>R (.ok .next) s₁
   |some v=>wpAny (model prog w) A (Wp a it v) (λ_ s₀=>wpAny (model prog w) A (XW a env v) (λ_ s₂ =>
     wpAny (model prog w) A (forIn f true λc r=>if r=true then do let ok ←Xs c env (YN c env);pure (ĵ ok)else pure (ĵ r)) (λok s₃ =>
      if ok=true then wpAny (model prog w) A (YN e env) (λx s₄ =>
       wpAny (model prog w) A (WF (.builtin "list.append") [acc,x]) (λ_ s₅=>∃m,m<n/\I m s₅) (λ_ _=>False) s₄) (λ_ _=>False) s₃
      else ∃m,m<n/\I m s₃) (λ_ _=>False) s₂) (λ_ _=>False) s₀) (λ_ _=>False) s₁) (λ_ _=>False) s)(n:Nat)(h:I n s):WZ (model prog w) A (.compLoop (.ListComp e [⟨a,d,f,0⟩] b pos) 0 it acc env) R s:=by
 refine codeAny_loop rfl I (λn s hI=>?_) n h;show wpAny _ A ((compTurn (.ListComp e [⟨a,d,f,0⟩] b pos) 0 it acc env).onRaise (λx=>do noteFrame x env;theTreesLotGoes x)) _ _ s;refine wpAny_noted ?_;rw[compTurn_list];refine Ã (XZ (Ã (Ŀ (g n s hI) (λr s₁ h₁=>?_) λ_ _ h'=>h'.elim)));cases r with
 |none=>exact Ú h₁
 |some v =>
  refine Ã (Ŀ h₁ (λ_ s₀ h₀'=>?_) λ_ _ h'=>h'.elim);refine Ã (Ŀ h₀' (λ_ s₂ h₂=>Ã (Ŀ h₂ (λok s₃ h₃=>?_) λ_ _ h'=>h'.elim)) λ_ _ h'=>h'.elim);cases ok with
  |false=>exact Ú ⟨rfl,h₃⟩
  |true =>
   exact Ã (Ã (Ŀ h₃ (λx s₄ h₄=>Ã (Ŀ h₄ (λ_ s₅ h₅=>Ú (Ú ⟨rfl,h₅⟩)) λ_ _ h'=>h'.elim)) λ_ _ h'=>h'.elim))
def PTs(X:Cx)(a:List YE)(t:TT):Prop :=
 ∀(pins:fF)(s:Shared)(σ:St)(H:Hp)(Q:Bool->Hp->Prop),Inv X pins σ H s->t σ H Q ->
  wpAny (model X.prog X.w) X.A (forIn a true λc r=>if r=true then do let ok ←Xs c X.env (YN c X.env);pure (ĵ ok)else pure (ĵ r)) (TP X pins σ Q) X.xe s
def Rf{X:Cx}:PTs X [] (λ_ H Q=>Q true H):=λ_ _ _ H _ I h=>wpAny_tests_nil ⟨H,I,h⟩
def Rb{X:Cx}{c:YE}{t:TT}(hc:PT X c t):PTs X [c] t:=λpins s σ H Q I h=>wpAny_tests_one (hc pins s σ H Q I h)
def aaq(J:It)(n:Nat)(g:CB->TG)(d:CB->TT)(a:CB->TE)(σ:St)(Q:VK)(H:Hp):Prop:=∃W:Nat->Nat->List V->Hp->Prop,(∃m,W 0 m [] H)/\∀(c:CB) i m ys H,W i m ys H ->
 (J.stop i H/\∀p,H p=none->Q (.ref p) (upd H p (.lst ys)))∨
 (J.go i H/\⇑ys<sizeLine/\∃N:List V->Hp->Prop,(∀ys' H',N ys' H'->∃m',m'<m/\W (i+1) m' ys' H')/\∀x H',J.yld i H x H'->g c x (Ë n none++σ) H' λσ2 H2=>d c σ2 H2 λb H3 =>
  if b=true then a c σ2 H3 λv H4=>N (ys++[v]) H4 else N ys H3)
def tLC(n:Nat)(c:TI)(g:CB->TG)(b:CB->TT)(a:CB->TE):TE:=λσ H Q=>c σ H λJ H1=>aaq J n g b a σ Q H1
section
variable{own:List Str}{scope:YA}{tg iter elt:YE}{ifs:List YE}{pos:Pos}{wi:TI}{g:CB->TG}{tt:CB->TT}{te:CB->TE}
def aZ(env:Env)(scope:YA)(N M:List Str):Bool :=
 iK env scope M&&((⇑N==⇑M)&&(N.zip M).all λy=>y.1==y.2 || ((y.2==("":Str))&&scope.names.all λz=>!(z.1==("":Str))))
def Ej{env:Env}{N:List Str}(h:iK env scope N=true):aZ env scope N N=true:=by
 unfold aZ;rw[h,Bool.true_and,fw,Bool.true_and,Ċ];rintro⟨a,b⟩ c;let⟨i,hi,e⟩:=List.mem_iff_getElem.mp c;rw[List.getElem_zip]at e;cases e;simp
variable{M:List Str}
def gQ(h:aZ X.env scope X.N M=true):scope.kind=.function:=by
 unfold aZ iK at h;simp only[Ü,fy]at h;exact h.1.1
def cC(h:aZ X.env scope X.N M=true):∀y∈scope.names,(y.2=.local->y.1∉M/\scope.names.lookup y.1=some .local)/\(y.2=.cell->y.1∉M/\scope.names.lookup y.1=some .cell)/\(y.2=.free->scope.names.lookup y.1=some .free/\(X.env.kindOf y.1=some .cell\/X.env.kindOf y.1=some .free)):=by
 unfold aZ at h;rw[Ü]at h;have h:=h.1;unfold iK at h;rw[Ü,Ċ]at h;intro y a;have q:=h.2 y a;let⟨n,k⟩:=y;cases k with
 |«local»=>simp at q ⊢;exact q
 |cell=>simp at q ⊢;exact q
 |free=>simp at q ⊢;exact q
 |globalExplicit=>simp
 |globalImplicit=>simp
theorem bx:∀(names:List (Str×NameKind))(n:Nat)(acc:List (Str×Addr)),cellsFrom n names acc=cellsFrom n names []++acc
 |[],_,_=>rfl
 |(nm,k)::r,n,acc=>by
  show(if(k==ġ)=true then cellsFrom (n+1) r ((nm,n)::acc)else cellsFrom n r acc)=(if(k==ġ)=true then cellsFrom (n+1) r [(nm,n)]else cellsFrom n r [])++acc;split
  ·rw[bx r (n+1) ((nm,n)::acc),bx r (n+1) [(nm,n)],ľ];rfl
  ·exact bx r n acc
theorem g8:∀(names:List (Str×NameKind))(n:Nat)(x:Str)(c:Addr),(x,c)∈cellsFrom n names []->(x,ġ)∈names/\n<=c
 |[],_,_,_,h=>nomatch h
 |(nm,k)::r,n,x,c,h=>by
  have h:(x,c)∈(if(k==ġ)=true then cellsFrom (n+1) r [(nm,n)]else cellsFrom n r []):=h;split at h
  ·rename_i hk;rw[bx]at h;rcases Û.mp h with z|z
   ·let⟨h1,h2⟩:=g8 r (n+1) x c z;exact⟨Ç _ h1,()⟩
   ·have z:(x,c)=(nm,n):=↑z
    cases z;have hk:k=.cell:=↑hk
    subst hk;exact⟨Æ,Ì _⟩
  ·let⟨h1,h2⟩:=g8 r n x c h;exact⟨Ç _ h1,h2⟩
theorem rJ:∀(names:List (Str×NameKind))(n:Nat)(x y:Str)(c:Addr),(x,c)∈cellsFrom n names []->(y,c)∈cellsFrom n names []->x=y
 |[],_,_,_,_,h,_=>nomatch h
 |(nm,k)::r,n,x,y,c,h,h'=>by
  have h:(x,c)∈(if(k==ġ)=true then cellsFrom (n+1) r [(nm,n)]else cellsFrom n r []):=h;have h':(y,c)∈(if(k==ġ)=true then cellsFrom (n+1) r [(nm,n)]else cellsFrom n r []):=h';by_cases hk:(k==ġ)=true
  ·rw[fo hk,bx]at h h';rcases Û.mp h with z|z <;> rcases Û.mp h' with a|a
   ·exact rJ r (n+1) x y c z a
   ·have:=(g8 r (n+1) x c z).2;have a:(y,c)=(nm,n):=↑a
    cases a;exact ft this (Nat.not_succ_le_self _)
   ·have:=(g8 r (n+1) y c a).2;have z:(x,c)=(nm,n):=↑z
    cases z;exact ft this (Nat.not_succ_le_self _)
   ·have z:(x,c)=(nm,n):=↑z
    have a:(y,c)=(nm,n):=↑a
    cases z;cases a;rfl
  ·rw[fq hk]at h h';exact rJ r n x y c h h'
theorem mO:∀(names:List (Str×NameKind))(h:Heap)(b:Addr)(o:Obj),h.get? b=some o->(UQ h names).get? b=some o
 |[],_,_,_,e=>e
 |(nm,k)::r,h,b,o,e=>by
  show(if(k==ġ)=true then UQ (h.push { cls:=Đ "cell",data:=Data.cell none }) r else UQ h r).get? b=some o;split
  ·exact mO r _ b o (Ô _ e)
  ·exact mO r h b o e
theorem qO:∀(names:List (Str×NameKind))(h:Heap)(x:Str)(c:Addr),(x,c)∈cellsFrom h.objs.size names []->(UQ h names).IsCell c none
 |[],_,_,_,e=>nomatch e
 |(nm,k)::r,h,x,c,e=>by
  have e:(x,c)∈(if(k==ġ)=true then cellsFrom (h.objs.size+1) r [(nm,h.objs.size)]else cellsFrom h.objs.size r []):=e;show(if(k==ġ)=true then UQ (h.push { cls:=Đ "cell",data:=Data.cell none }) r else UQ h r).IsCell c none;by_cases hk:(k==ġ)=true
  ·rw[fo hk,bx]at e;rw[fo hk];rcases Û.mp e with z|z
   ·exact qO r _ x c (by rw[Ŝ];exact z)
   ·have z:(x,c)=(nm,h.objs.size):=↑z
    cases z;exact⟨_,mO r _ _ _ (ä _ rfl),rfl⟩
  ·rw[fq hk]at e ⊢;exact qO r h x c e
def Ge{M:Y3}{A:Ys}{E:fA}{s:Shared}{scope:YA}{d:Addr}{c:List (Str×Addr)}{qual:Str}{f:gc}{e:Value}{b:Option Env}{a:Addr}{Q:Env->Shared->Prop}(h:Q (newEnv scope ↥s d (cellsFrom (↥s+1) scope.names c) qual f e b a) { s with heap:=UQ (s.heap.push { cls:=Đ (if b.isSome=true then "dict" else "frame"),data:=Data.dict #[]}) scope.names }) :
  wpAny M A (UR scope d c [] qual f e b a) Q E s:=by
 unfold UR;refine Ã (wpAny_alloc ?_);refine Ã (wpAny_layCells _ (λ_ _ _=>rfl) _ _ _ _ ?_);rw[Ŝ];exact Ã (Ú (Ú h))
def Xr{n:Nat}{names:List (Str×NameKind)}{cl:List (Str×Addr)}{x:Str}{c:Addr}(h:(cellsFrom n names cl).lookup x=some c):(x,c)∈cellsFrom n names []\/cl.lookup x=some c:=by
 rw[bx,List.lookup_append]at h;cases e:(cellsFrom n names []).lookup x with
 |none=>rw[e]at h;exact .inr h
 |some d =>
  rw[e]at h;cases h;exact .inl (ď e)
def Qs{n:Nat}{names:List (Str×NameKind)}{cl:List (Str×Addr)}{x:Str}(h:∀c,(x,c)∈cellsFrom n names []->False):(cellsFrom n names cl).lookup x=cl.lookup x:=by
 rw[bx,List.lookup_append];cases e:(cellsFrom n names []).lookup x with
 |none=>rfl
 |some d=>exact(h d (ď e)).elim
def DQ(h:aZ X.env scope X.N M=true){n:Nat}{x:Str}(a:(x,Ĉ)∈scope.names):∀c,(x,c)∈cellsFrom n scope.names []->False:=λc z=>by
 have h1:=((cC h _ a).2.2 rfl).1;have h2:=((cC h _ (g8 _ _ _ _ z).1).2.1 rfl).2;rw[h1]at h2;cases h2
def mj(h:aZ X.env scope X.N M=true):⇑X.N=⇑M:=by
 unfold aZ at h;rw[Ü,Ü]at h;exact fz h.2.1
def xY{i:Nat}{x:Str}{k:NameKind}(h:aZ X.env scope X.N M=true)(c:M[i]?=some x)(_:x∈M)(hn:(x,k)∈scope.names):X.N[i]?=some x:=by
 have hl:=mj h;unfold aZ at h;rw[Ü,Ü,Ċ]at h;have hi:i<⇑M:=(È.mp c).1;have a:M[i]=x:=(È.mp c).2;have b:i<⇑X.N:=()
 have q:=h.2.2 (X.N[i],M[i]) (by
  refine List.mem_iff_getElem.mpr ⟨i,by rw[List.length_zip];lia,?_⟩;rw[List.getElem_zip])
 rw[Bool.or_eq_true]at q;rcases q with q|q
 ·have q:X.N[i]=M[i]:=fz q;rw[Å b,q,a]
 ·rw[Ü,Ċ]at q;have e:M[i]=("":Str):=fz q.1;have z:=q.2 (x,k) hn;rw[←a,e]at z;simp at z
def GQ{A:fF}{σ:St}{H:Hp}{s:Shared}{J:List Addr}{a:Heap}{tk:Nat}(hk:aZ X.env scope X.N M=true)(I:Inv X A σ H s)(S:∀b∈J,wA X A H b)(O:∀b∈J,∃o,s.heap.get? b=some o)(Z:a.Ns (↥s+1) λ_=>none)(t:∀b o,s.heap.get? b=some o->a.get? b=some o)(hD:a.get? ↥s=some { cls:=.type "list",data:=.seq #[] 0 })(Y:∀x c,(x,c)∈cellsFrom (↥s+2) scope.names []->a.IsCell c none) :
  Inv (X.bf own M scope ⟨cellsFrom (↥s+2) scope.names (eE X.env.cells scope.names []),↥s+1,s,H,J⟩) [(↥s,{ cls:=.type "list",data:=.seq #[] 0 })] (Ë ⇑own none++σ) H { s with heap:=a,toks:=tk }:=by
 have V:=gQ hk;have d:=cC hk;have P:∀x,(x,Ĉ)∈scope.names->∃c,X.env.cells.lookup x=some c:=λx r=>I.ok.has x ((d _ r).2.2 rfl).2;have L:∀x c,(eE X.env.cells scope.names []).lookup x=some c->X.env.cells.lookup x=some c/\(x,Ĉ)∈scope.names:=λx c e=>by
  rcases qC e with q|⟨F,T⟩
  ·simp at q
  ·let⟨c',G⟩:=P x F;rw[G]at T;exact⟨by rw[G,T];rfl,F⟩
 have f:∀x c,(cellsFrom (↥s+2) scope.names (eE X.env.cells scope.names [])).lookup x=some c->(X.env.cells.lookup x=some c/\(x,Ĉ)∈scope.names/\c<↥s)\/((x,c)∈cellsFrom (↥s+2) scope.names []/\(x,ġ)∈scope.names/\↥s+2<=c):=λx c e=>by
  rcases Xr e with z|z
  ·exact .inr ⟨z,g8 _ _ _ _ z⟩
  ·let⟨h1,h2⟩:=L x c z;let⟨v,o,E,_⟩:=I.cell x c h1;exact .inl ⟨h1,h2,Ó E⟩
 have w:∀x,(US scope X.env).names.lookup x=some .cell\/(US scope X.env).names.lookup x=some .free->(x,Ĉ)∈scope.names\/(x,ġ)∈scope.names:=λx r=>by
  have key:∀q,(US scope X.env).names.lookup x=some q->q=.cell\/q=.free->(x,Ĉ)∈scope.names\/(x,ġ)∈scope.names:=λq hq hq'=>by
   let⟨k,h1,h2,D⟩:=dY (env:=X.env) (names:=scope.names) hq;rcases D with D|⟨_,D⟩
   ·subst D;rcases hq' with z|z
    ·rw[z]at h1;exact .inr h1
    ·rw[z]at h1;exact .inl h1
   ·rw[D]at h1;exact .inl h1
  rcases r with r|r
  ·exact key _ r (.inl rfl)
  ·exact key _ r (.inr rfl)
 have R:∀b o,s.heap.get? b=some o->b<↥s:=λb o e=>Ó e;refine⟨⟨I.ok.mod,V,I.ok.glob,I.ok.blt,ĸ _,λx y c h1 h2=>?inj,λx r=>?_,λx c z e=>?cab,I.ok.hd,I.ok.frames,.inl rfl,λb hb=>⟨?_,λx c e=>?exf⟩,I.bs,
   ĉ I.ok.bsz I.sz,λb o e hb=>?_,λb hb hs=>?_,I.stack,I.Hj,λq hq=>⟨(I.ok.sof q hq).1,I.gy.frzs _ _ _ (I.ok.sof q hq).2.1,(I.ok.sof q hq).2.2⟩⟩,rfl,I.bare,Un.kept t,⟨_,Z,λi x v h1 h2 D=>?_⟩,λx c e=>?_,?_,λx c e=>?frc,λp hp=>?_,I.hok.kept t,?_⟩
 case inj =>
  rcases f x c h1 with⟨B,_,C⟩|⟨B,_,C⟩ <;> rcases f y c h2 with⟨b1,_,b3⟩|⟨b1,_,b3⟩
  ·exact I.ok.inj x y c B b1
  ·exact ft (ì C (ĉ (Nat.le_add_right _ 2) b3)) (Ę _)
  ·exact ft (ì b3 (ĉ (Nat.le_add_right _ 2) C)) (Ę _)
  ·exact rJ _ _ _ _ _ B b1
 case cab =>
  show ↥s<=c;rcases f x c e with⟨_,a2,_⟩|⟨_,_,C⟩
  ·have h1:=((d _ a2).2.2 rfl).1;have z:(scope.names.lookup x==some ġ)=true:=z;rw[h1]at z;exact ft z ∅
  ·lia
 case exf =>
  rcases f x c e with⟨B,_,_⟩|⟨_,_,C⟩
  ·exact(S b hb).2.2.2.2.1 x c B
  ·let⟨o,e⟩:=O b hb;have:=R b o e;intro z;subst z;exact ft (ì this (ĉ (Nat.le_add_right _ 2) C)) (Ę _)
 case frc =>
  rcases f x c e with⟨B,_,_⟩|⟨_,_,C⟩
  ·exact I.freeC x c B
  ·exact I.hok.fresh ()
 ·have hx':(US scope X.env).names.lookup x=some .cell\/(US scope X.env).names.lookup x=some .free:=r;refine Option.isSome_iff_exists.mp (W.cellsFrom_some _ _ _ ?_);rcases w x hx' with z|z
  ·exact .inr (mD z)
  ·exact .inl ((d _ z).2.1 rfl).2
 ·let⟨o,e⟩:=O b hb;exact å (ĕ (R b o e))
 ·have l:b∈J:=hb;rcases(S b l).2.2.2.1 with z|z
  ·exact I.ok.noex b o e z
  ·exact ft (ì (Ó (I.ok.bs b o e).1) z) (Ę _)
 ·have l:b∈J:=hb;rcases Õ.mp (I.uE b hs)with z|z
  ·exact(S b l).2.1 z
  ·exact(S b l).2.2.1 z
 ·have hi:⇑own<=i:=by
   by_cases hi:i<⇑own
   ·rw[Ą ↑hi,ş]at h2;split at h2 <;> cases h2
   ·lia
  have h:M[i - ⇑own]?=some x:=by
   have q:(own++M)[i]?=some x:=h1
   rwa [ó hi]at q
  have U:σ[i - ⇑own]?=some (some v):=by
   rw[ó ↑hi]at h2;simpa using h2
  have K:Vis (US scope X.env) x:=D;have n:(x,Ĉ)∈scope.names:=by
   rcases K with z|z
   ·let⟨k,F,T,j⟩:=dY (env:=X.env) (names:=scope.names) z;rcases j with j|⟨j,_⟩
    ·subst j;exact ft (Î h) ((d _ F).1 rfl).1
    ·cases j
   ·rcases w x z with y|y
    ·exact y
    ·exact ft (Î h) ((d _ y).2.1 rfl).1
  have Q:=((d _ n).2.2 rfl).2;let⟨m,hm,hl⟩:=I.loc;let⟨u,ru,lu⟩:=hl _ x v (xY hk h (Î h) n) U (by rcases Q with z|z;exact .inr (.inl z);exact .inr (.inr z));refine⟨u,ru,.inr ⟨?_,?_⟩⟩
  ·rcases K with z|z|z
   ·let⟨k,F,T,j⟩:=dY (env:=X.env) (names:=scope.names) z;rcases j with j|⟨j,_⟩
    ·subst j;exact ft (Î h) ((d _ F).1 rfl).1
    ·cases j
   ·exact .inl z
   ·exact .inr z
  ·rcases lu with⟨z,_⟩|⟨_,c,e,ic⟩
   ·rcases Q with q|q
    ·rw[q]at z;cases z
    ·rw[q]at z;cases z
   ·let⟨c',G⟩:=Option.isSome_iff_exists.mp (mD (cells:=X.env.cells) (acc:=[]) n);have e2:=(L x c' G).1;rw[e]at e2;cases e2;let⟨o,E,hd⟩:=ic;exact⟨c,(Qs (DQ hk n)).trans G,o,t _ _ E,hd⟩
 ·rcases f x c e with⟨z,_,_⟩|⟨z,_,_⟩
  ·let⟨v,o,E,hd⟩:=I.cell x c z;exact⟨v,o,t _ _ E,hd⟩
  ·exact⟨none,Y x c z⟩
 ·exact I.hok.fresh (ĸ _)
 ·have hp':p=(↥s,{ cls:=.type "list",data:=.seq #[] 0 }):=↑hp
  subst hp';refine⟨hD,I.hok.fresh (Ì _),å (ň _),λz=>?_,λv z=>nomatch z⟩;let⟨_,o,E,_⟩:=I.stack.mem z;exact ft (Ó E) (Ę _)
 ·show(Ë ⇑own none++σ).length=⇑(own++M);rw[É,É,ė,I.len,mj hk]
def GP{c l:fF}{σ j:St}{H h:Hp}{s m:Shared}{k:List Addr}{cl:List (Str×Addr)}{ys:List V}{i:fT}{n:Nat}(I:Inv X c σ H s)(f:∀b∈k,wA X c H b)(J:Inv (X.bf own M scope ⟨cl,↥s+1,s,H,k⟩) l j h m)(hp:(↥s,({ cls:=.type "list",data:=.seq i.toArray n }:Obj))∈l)(hv:Vals ys i)(r:⇑ys<=sizeLine) :
  Inv X c σ (upd h ↥s (.lst ys)) m/\h ↥s=none:=by
 let⟨p,a,_⟩:=J.pin _ (î _ hp);refine⟨I.call' J.os ⟨λb o e n hb hx=>J.gy.keep b o e n hb hx,λb o e n hb hx=>J.gy.slot b o e n hb hx,λb o e n hx=>?_,λb o e hx=>J.gy.there b o e hx,λb xs e=>?_,λb o u e=>?_,λb ps e=>?_⟩ ?_ J.bare ?_,a⟩
 ·rw[ao (å (Ó e))];exact J.gy.free b o e n hx
 ·have q:=J.gy.tups b xs e;rw[ao (aA q a)];exact q
 ·have q:=J.gy.frzs b o u e;rw[ao (aA q a)];exact q
 ·let⟨d,q⟩:=J.gy.tbls b ps e;exact⟨d,by rw[ao (aA q a)];exact q⟩
 ·exact J.hok.track a ⟨r,i,n,hv,p⟩
 ·intro b hb;exact⟨(f b hb).2.2.2.1,(f b hb).2.1,(f b hb).2.2.2.2.1,(f b hb).2.2.2.2.2⟩
def v7{d G:fF}{σ D:St}{H E:Hp}{s K:Shared}{t:List Addr}{cl:List (Str×Addr)}(hk:aZ X.env scope X.N M=true)(I:Inv X d σ H s)(O:∀b∈t,wA X d H b)(A:∀x,(x,Ĉ)∈scope.names->∃c,cl.lookup x=some c/\X.env.cells.lookup x=some c)(J:Inv (X.bf own M scope ⟨cl,↥s+1,s,H,t⟩) G D E K):Inv (X.bf own M scope ⟨cl,↥s+1,s,H,t⟩) G (Ë ⇑own none++σ) E K:=by
 have j:=cC hk;refine⟨J.ok,J.os,J.bare,J.gy,?_,J.cell,J.free,J.freeC,J.pin,J.hok,?_⟩
 ·let⟨S,B,_⟩:=J.loc;refine⟨S,B,λi x v h1 h2 f=>?_⟩;have hi:⇑own<=i:=by
   by_cases hi:i<⇑own
   ·rw[Ą ↑hi,ş]at h2;split at h2 <;> cases h2
   ·lia
  have a:M[i - ⇑own]?=some x:=by
   have q:(own++M)[i]?=some x:=h1
   rwa [ó hi]at q
  have w:σ[i - ⇑own]?=some (some v):=by
   rw[ó ↑hi]at h2;simpa using h2
  have y:Vis (US scope X.env) x:=f;have p:¬(US scope X.env).names.lookup x=some .local:=λz=>by
   let⟨k,T,W,r⟩:=dY (env:=X.env) (names:=scope.names) z;rcases r with r|⟨r,_⟩
   ·subst r;exact ft (Î a) ((j _ T).1 rfl).1
   ·cases r
  have l:(US scope X.env).names.lookup x=some .cell\/(US scope X.env).names.lookup x=some .free:=by
   rcases y with z|z
   ·exact ft z p
   ·exact z
  have h:(x,Ĉ)∈scope.names:=by
   have key:∀q,(US scope X.env).names.lookup x=some q->q=.cell\/q=.free->(x,Ĉ)∈scope.names:=λq hq hq'=>by
    let⟨k,h1,h2,f⟩:=dY (env:=X.env) (names:=scope.names) hq;rcases f with f|⟨_,f⟩
    ·subst f;rcases hq' with z|z
     ·rw[z]at h1;exact ft (Î a) ((j _ h1).2.1 rfl).1
     ·rw[z]at h1;exact h1
    ·rw[f]at h1;exact h1
   rcases l with C|C
   ·exact key _ C (.inl rfl)
   ·exact key _ C (.inr rfl)
  have n:=((j _ h).2.2 rfl).2;let⟨m,hm,hl⟩:=I.loc;let⟨u,U,R⟩:=hl _ x v (xY hk a (Î a) h) w (by rcases n with z|z;exact .inr (.inl z);exact .inr (.inr z));refine⟨u,U,.inr ⟨l,?_⟩⟩;rcases R with⟨z,_⟩|⟨_,c,e,Q⟩
  ·rcases n with q|q
   ·rw[q]at z;cases z
   ·rw[q]at z;cases z
  ·let⟨V,L,F⟩:=A x h;rw[e]at F;cases F;let⟨o,P,hd⟩:=Q;let⟨Y,q⟩:=J.gy.any P (I.freeC x c e) λz=>(O c z).2.2.2.2.1 x c e rfl;exact⟨c,L,_,q,hd⟩
 ·show(Ë ⇑own none++σ).length=⇑(own++M);rw[É,É,ė,I.len,mj hk]
def xV{y:fF}{σ:St}{H:Hp}{s:Shared}{it:Addr}{f:List Addr}{tn:Nat->Heap->Prop}{J:It}{W:Nat->Nat->List V->Hp->Prop}{E:fA}{RR:Value->Addr->WP->Shared->Prop}{Cm:Cx->Prop}(hc:∀c,Cm (X.bf own M scope c))(hk:aZ X.env scope X.N M=true)(hg:∀c,PG (X.bf own M scope c) tg (g c))(ht:∀c,PTs (X.bf own M scope c) ifs (tt c))(he:∀c,PE (X.bf own M scope c) elt (te c))(I:Inv X y σ H s)(T:TurnG Cm X.prog X.w X.K tg J f it tn)(st:tn 0 s.heap)(Z:∀b∈f,wA X y H b){m0:Nat}(w0:W 0 m0 [] H){D:List V->Hp->Prop}(turn:∀(c:CB) i m ys H,W i m ys H->(J.stop i H/\D ys H)∨
   (J.go i H/\⇑ys<sizeLine/\∃N:List V->Hp->Prop,(∀ys' H',N ys' H'->∃m',m'<m/\W (i+1) m' ys' H')/\∀x H',J.yld i H x H'->g c x (Ë ⇑own none++σ) H' λσ2 H2=>tt c σ2 H2 λb H3 =>
    if b=true then te c σ2 H3 λv H4=>N (ys++[v]) H4 else N ys H3))(fin:∀s' m' ys H',(s'.heap.Ns (↥s+1) m')->H' (↥s+1)=none->H' ↥s=none->Inv X y σ (upd H' ↥s (.lst ys)) s'->D ys H'->RR (.ref ↥s) (↥s+1) (.ok .next) s') :
  wpAny (model X.prog X.w) X.A (newList []) (λacc s₃=>wpAny (model X.prog X.w) X.A (UR scope X.env.globals (eE X.env.cells scope.names []) [] X.env.qual none .none (some X.env)) (λcenv s₄ =>
   WZ (model X.prog X.w) X.A (.compStart (.ListComp elt [⟨tg,iter,ifs,0⟩] scope pos) 0 (.ref it) acc { cenv with scope:=US scope X.env }) (RR acc cenv.locals) s₄) E s₃) E s:=by
 have hkk:=gQ hk;have hka:=cC hk;refine š (Ge ?_);dsimp only;have hC:(s.heap.push { cls:=.type "list",dict:=none,data:=.seq ([]:fT).toArray }).objs.size=↥s+1:=Ŝ ..;rw[hC];generalize U:s.heap.push { cls:=.type "list",dict:=none,data:=.seq ([]:fT).toArray }=H2 at hC ⊢;generalize P:H2.push { cls:=Đ (if(some X.env:Option Env).isSome=true then "dict" else "frame"),data:=Data.dict #[]}=H3;generalize hh1:UQ H3 scope.names=a;have hC3:H3.objs.size=↥s+2:=by rw[←P,Ŝ,hC]
 have O:∀b o,H3.get? b=some o->a.get? b=some o:=λb o e=>hh1 ▸ mO _ _ _ _ e;have L:∀b o,H2.get? b=some o->a.get? b=some o:=λb o e=>O b o (P ▸ Ô _ e);have old:∀b o,s.heap.get? b=some o->a.get? b=some o:=λb o e=>L b o (U ▸ Ô _ e);have Y:a.get? ↥s=some { cls:=.type "list",data:=.seq #[] 0 }:=L _ _ (U ▸ ä _ rfl);have hns:a.Ns (↥s+1) λ_=>none:=by
  have z:=Heap.Ns.new H2 (Đ (if(some X.env:Option Env).isSome=true then "dict" else "frame"));rw[hC,P]at z;exact z.keeps O
 have hnc:∀x c,(x,c)∈cellsFrom (↥s+2) scope.names []->a.IsCell c none:=λx c e=>by
  rw[←hC3]at e;exact hh1 ▸ qO _ _ _ _ e
 have hfo:∀b∈f,∃o,s.heap.get? b=some o:=λb hb=>let⟨o,e,_⟩:=T.obj 0 _ st b hb;⟨o,e⟩
 have C:tn 0 a:=T.keep 0 _ _ st λb _ o e=>old b o e;have j:=GQ (own:=own) (tk:=s.toks) hk I Z hfo hns old Y hnc;have G:∀s₃:Shared,s₃={ s with heap:=a,toks:=s.toks } ->
   WZ (model X.prog X.w) X.A (.compLoop (.ListComp elt [⟨tg,iter,ifs,0⟩] scope pos) 0 (.ref it) (.ref ↥s) (compEnvC scope (cellsFrom (↥s+2) scope.names (eE X.env.cells scope.names [])) (↥s+1) X.env))
    (RR (.ref ↥s) (↥s+1)) s₃:=by
  rintro s₃ rfl;have neD:∀b∈f,b≠↥s:=λb hb=>by
   let⟨o,e⟩:=hfo b hb;exact å (Ó e)
  have B:∀{H':Hp}{o:Obj},(∀b∈f,H' b=none)->∀b∈f,wA (X.bf own M scope ⟨cellsFrom (↥s+2) scope.names (eE X.env.cells scope.names []),↥s+1,s,H,f⟩) [(↥s,o)] H' b:=λ{H' o} hn b hb =>
   ⟨hn b hb,(j.ok.exf b hb).1,j.ok.exfs b hb,.inl hb,(j.ok.exf b hb).2,λp hp=>by
    have t:p=(↥s,o):=↑hp
    subst t;exact ĝ (neD b hb)⟩
  refine Kh (λk s'=>∃i ys F n H',Inv (X.bf own M scope ⟨cellsFrom (↥s+2) scope.names (eE X.env.cells scope.names []),↥s+1,s,H,f⟩) [(↥s,{ cls:=.type "list",data:=.seq (F:fT).toArray n })] (Ë ⇑own none++σ) H' s' /\
    Vals ys F/\⇑ys<=sizeLine/\tn i s'.heap/\(∀b∈f,H' b=none)/\W i k ys H') ?_ m0 ⟨0,[],[],0,H,j,.nil,ą _,C,λb hb=>(Z b hb).1,w0⟩
  rintro k s3 ⟨i,ys,F,n,H3,I3,hv,hz,st3,R,w3⟩;rcases turn ⟨cellsFrom (↥s+2) scope.names (eE X.env.cells scope.names []),↥s+1,s,H,f⟩ i k ys H3 w3 with⟨stop,d⟩|⟨go,hlt,N,hN,step⟩
  ·refine thn (T.done (X.bf own M scope ⟨cellsFrom (↥s+2) scope.names (eE X.env.cells scope.names []),↥s+1,s,H,f⟩) rfl rfl rfl (hc _) i _ s3 _ H3 _ I3 (B R) st3 stop) λr s4 ⟨hr,I4⟩=>?_;subst hr;let⟨m',l,_⟩:=I4.loc;let⟨J4,hDn⟩:=GP I Z I4 (Í.mpr rfl) hv hz;exact fin s4 m' ys H3 l I4.free hDn J4 d
  ·refine thn (T.item (X.bf own M scope ⟨cellsFrom (↥s+2) scope.names (eE X.env.cells scope.names []),↥s+1,s,H,f⟩) rfl rfl rfl (hc _) i _ s3 _ H3 _ I3 (B R) st3 go) λr s4 ⟨u,hr,h4⟩=>?_;subst hr;refine thn h4 λ_ s5 ⟨x,H5,I5,r5,y5,st5,fr5⟩=>?_;have I5':=I5.pinned (B fr5) (T.obj _ _ st5);refine thn (hg _ _ s5 _ H5 x u _ I5' r5 (step x H5 y5)) λ_ s6 ⟨σ6,H6,I6,q6⟩=>?_;refine thn (ht _ _ s6 σ6 H6 _ I6 q6) λb s7 ⟨H7,I7,q7⟩=>?_
   -- the turn's end: the iterator's records stand,the names are forgotten
   have Q:∀x,(x,Ĉ)∈scope.names->∃c,(cellsFrom (↥s+2) scope.names (eE X.env.cells scope.names [])).lookup x=some c/\X.env.cells.lookup x=some c:=λx hx=>by
    let⟨c,e⟩:=I.ok.has x ((hka _ hx).2.2 rfl).2;let⟨c',e'⟩:=Option.isSome_iff_exists.mp (mD (cells:=X.env.cells) (acc:=[]) hx);rcases qC e' with q|⟨_,q⟩
    ·simp at q
    ·rw[e]at q;exact⟨c',(Qs (DQ hk hx)).trans e',by rw[e,q];rfl⟩
   have h:∀{H':Hp}{σ':St}{s':Shared}{pn:fF},(∀p∈j9 f s5.heap,p∈pn)->Inv (X.bf own M scope ⟨cellsFrom (↥s+2) scope.names (eE X.env.cells scope.names []),↥s+1,s,H,f⟩) pn σ' H' s'->tn (i+1) s'.heap/\∀b∈f,H' b=none:=λ{H' σ' s' pn} hs I' =>
    ⟨T.keep _ _ _ st5 λb hb o e=>(I'.pin (b,o) (î _ (hs _ (jQ hb e)))).1,λb hb=>by
     let⟨o,e,_⟩:=T.obj _ _ st5 b hb;exact(I'.pin (b,o) (î _ (hs _ (jQ hb e)))).2.1⟩
   cases b with
   |false =>
    rw[fq Ù];rw[fq Ù]at q7;let⟨m',l,w7⟩:=hN _ _ q7;let⟨t7,f7⟩:=h (λp hp=>î _ hp) I7;exact⟨m',l,i+1,ys,F,n,H7,v7 hk I Z Q I7.pA,hv,hz,t7,f7,w7⟩
   |true =>
    rw[fo rfl];rw[fo rfl]at q7;refine thn (he _ _ s7 σ6 H7 _ I7 q7) λu8 s8 ⟨v8,H8,I8,r8,q8⟩=>?_;let⟨m',l,w8⟩:=hN _ _ q8;let⟨t8,f8⟩:=h (λp hp=>î _ hp) I8;let⟨S,nD8,lD8,fD8,_⟩:=I8.pin (↥s,{ cls:=.type "list",data:=.seq F.toArray n }) (î _ (ċ _ (Í.mpr rfl)));refine append_at (hsz:=by rw[Ñ,←⇑hv];exact Nat.le_of_lt hlt) S λh9 hs9 hD9=>?_;have J8:Inv (X.bf own M scope ⟨cellsFrom (↥s+2) scope.names (eE X.env.cells scope.names []),↥s+1,s,H,f⟩) (j9 f s5.heap) σ6 H8 s8:=I8.sY λp hp=>I8.pin p (î _ (î _ hp));have J9:Inv (X.bf own M scope ⟨cellsFrom (↥s+2) scope.names (eE X.env.cells scope.names []),↥s+1,s,H,f⟩) (j9 f s5.heap) σ6 H8 { s8 with heap:=h9 }:=J8.turned (t':=s8.toks) (it:=↥s) (λb o hb e=>(hs9.2 b hb).trans e) nD8 lD8 (.inr (Ì _))
     (λx c e z=>by
      let⟨v,o,ho,hd⟩:=J8.cell x c e;rw[z,S]at ho;cases ho;cases hd)
     (λp hp=>by
      have t:p∈j9 f s5.heap:=↑hp
      exact neD _ (xu t).1)
    let⟨t9,f9⟩:=h (λp hp=>hp) J9;have e9:h9.get? ↥s=some { cls:=.type "list",data:=.seq (F++[u8]).toArray (n+1)}:=by
     rw[hD9,List.push_toArray]
    have J9':Inv (X.bf own M scope ⟨cellsFrom (↥s+2) scope.names (eE X.env.cells scope.names []),↥s+1,s,H,f⟩) [(↥s,{ cls:=.type "list",data:=.seq (F++[u8]).toArray (n+1)})] σ6 H8 { s8 with heap:=h9 }:=J9.sY λp hp=>by
     have t:p=(↥s,{ cls:=.type "list",data:=.seq (F++[u8]).toArray (n+1)}):=↑hp
     subst t;exact⟨e9,nD8,lD8,fD8,λv z=>nomatch z⟩
    exact⟨m',l,i+1,ys++[v8],F++[u8],n+1,H8,v7 hk I Z Q J9',hv.append (.cons r8 .nil),by rw[É,á];exact hlt,t9,f9,w8⟩
 exact codeAny_compStart_list (G _ rfl) (T.self _ 0 _ _ _ C (G _ rfl))
def xX{a:fF}{σ:St}{H:Hp}{s:Shared}(hk:aZ X.env scope X.N M=true)(I:Inv X a σ H s):UP scope X.env=pure (eE X.env.cells scope.names []) :=
 G3 λx hx hf=>I.ok.has x.1 ((cC hk x hx).2.2 hf).2
def xW{a:fF}{σ:St}{H:Hp}{s d:Shared}{C:Addr}{h':Heap}{m:Str->gf}(I:Inv X a σ H d)(hs:X.s₀.heap.objs.size<=C)(h:C≠X.env.locals)(f:∀x c,X.env.cells.lookup x=some c->c≠C)(hp:∀p∈X.pn++a,p.1≠C)(hn:H C=none)(hb:Heap.SameBut C d.heap h'):Inv X a σ H { d with heap:=h' }:=I.turned (t':=d.toks) (λb o hb' e=>(hb.2 b hb').trans e) hn h (.inr hs) f hp
def Mt(own M:List Str)(hc:X.calm=true)(hi:PI X tg iter wi)(hg:∀c,PG (X.bf own M scope c) tg (g c))(ht:∀c,PTs (X.bf own M scope c) ifs (tt c))(he:∀c,PE (X.bf own M scope c) elt (te c))(hk:aZ X.env scope X.N M=true:=by rfl)(hs:∀x,YR iter X.env x=pure x:=by intro _;rfl) :
  PE X (.ListComp elt [⟨tg,iter,ifs,0⟩] scope pos) (tLC ⇑own wi g tt te):=by
 intro a s σ H Q I h;rw[eval_ListComp];have n:=cC hk;refine UT (use:=none) rfl hs (xX hk I) (gQ hk) (λx hx hl=>((n x hx).1 hl).2) (thn (hi a s σ H _ I h) λv s1 h1=>thn h1 λitv s2 h2=>?_);let⟨it,G,O,J,F,e,f,T,r,y,W,⟨K,B⟩,j⟩:=h2;subst e;refine xV (RR:=λacc C=>compPost (model X.prog X.w) X.A X.xe none (EP X a σ Q) acc C) (D:=λys H=>∀p,H p=none->Q (.ref p) (upd H p (.lst ys))) (λ_=>hc) hk hg ht he f T r y B j ?_;intro L t ys E q k l u d;have i:∀{b:Addr}{o:Obj},s2.heap.get? b=some o->b≠↥s2+1:=λe=>å (ĕ (Ó e));refine⟨t,q,λh' hb=>⟨.ref ↥s2,_,xW (m:=t) (s:=s2) u (ĉ f.sz (ĸ _)) (ĝ (å (ĕ f.lt))) (λx c e=>?_) (λp hp=>?_) ?_ hb,rfl,d _ l⟩⟩
 ·let⟨v,o,z,_⟩:=f.cell x c e;exact i z
 ·exact i (f.pin p hp).1
 ·rw[ao (ś (ň _))];exact k
def Rh{S:Cx->Prop}(own M:List Str){i:Nat}{y:Str}{r l:Pos}(hc:∀c,S (X.bf own M scope c))(hN:X.N.Nodup)(t:X.N[i]?=some y)(P:Loc X.env.scope y)(hi:PIG S X tg iter wi)(hg:∀c,PG (X.bf own M scope c) tg (g c))(ht:∀c,PTs (X.bf own M scope c) ifs (tt c))(he:∀c,PE (X.bf own M scope c) elt (te c))(O:XV (.ListComp elt [⟨tg,iter,ifs,0⟩] scope pos) (some (.Name y r)) l.line X.env=pure true:=by rfl)(hk:aZ X.env scope X.N M=true:=by rfl)(hs:∀x,YR iter X.env x=pure x:=by intro _;rfl)(Z:X.fn y=true\/X.env.scope.names.lookup y=some .local:=by first|exact .inl rfl|exact .inr rfl|assumption) :
  PS X (.Assign [.Name y r] (.ListComp elt [⟨tg,iter,ifs,0⟩] scope pos) l) (wD (tLC ⇑own wi g tt te) (lV i)):=by
 intro f s σ H D I h;rw[exec_Assign_Name_used _ _ _ _ O];have G:=cC hk;refine Ã (XZ (Ã ?_));show wpAny _ X.A (do let _ ←comprehension (.ListComp elt [⟨tg,iter,ifs,0⟩] scope pos) scope X.env _ (newList []) false (YN iter X.env) (some (XW (.Name y r) X.env))) _ _ s;refine Ã (Ŀ (UT (use:=some (XW (.Name y r) X.env)) (Q:=λ_ u=>SP X f D .next u) rfl hs (xX hk I) (gQ hk) (λx P hl=>((G x P).1 hl).2)
  (thn (hi f s σ H _ I h) λv s1 h1=>thn h1 λitv s2 h2=>?_)) (λ_ u hq=>Ú (Ú hq)) λ_ _ e=>e)
 let⟨it,fp,tn,J,H2,e,q,T,R,Y,W,⟨m0,w0⟩,z⟩:=h2;subst e;refine xV (RR:=λacc C=>compPost (model X.prog X.w) X.A X.xe (some (XW (.Name y r) X.env)) (λ_ u=>SP X f D .next u) acc C) (D:=λys H=>∀p,H p=none->lV i (.ref p) σ (upd H p (.lst ys)) D.nx) hc hk hg ht he q T R Y w0 z ?_;intro u U ys H' K E F V d;have n:∀{b:Addr}{o:Obj},s2.heap.get? b=some o->b≠↥s2+1:=λe=>å (ĕ (Ó e));show wpAny _ X.A (XW (.Name y r) X.env (.ref ↥s2)) _ _ _;refine XY (wX (v:=.ref ↥s2) V (λj h=>Dc hN h t) t P rfl (λs'' J'' ⟨a,hsb,ha⟩=>?_) Z);have k:X.env.locals≠↥s2+1:=å (ĕ q.lt);have B:↥s2+1≠a:=by
  rcases ha with ha|ha
  ·rw[ha];exact ĝ k
  ·let⟨v,o,L,_⟩:=q.cell _ _ ha;exact ĝ (n L)
 refine⟨U,K.sameBut hsb B,λh' hb=>⟨_,_,xW (m:=U) (s:=s2) J'' (ĉ q.sz (ĸ _)) (ĝ k) (λx c e=>?_) (λp hp=>?_) ?_ hb,d _ F⟩⟩
 ·let⟨v,o,L,_⟩:=q.cell x c e;exact n L
 ·exact n (q.pin p hp).1
 ·rw[ao (ś (ň _))];exact E
def Vy(own M:List Str){i:Nat}{y:Str}{e a:Pos}(hc:X.calm=true)(hN:X.N.Nodup)(b:X.N[i]?=some y)(h:Loc X.env.scope y)(hi:PI X tg iter wi)(hg:∀c,PG (X.bf own M scope c) tg (g c))(ht:∀c,PTs (X.bf own M scope c) ifs (tt c))(he:∀c,PE (X.bf own M scope c) elt (te c))(d:XV (.ListComp elt [⟨tg,iter,ifs,0⟩] scope pos) (some (.Name y e)) a.line X.env=pure true:=by rfl)(hk:aZ X.env scope X.N M=true:=by rfl)(hs:∀x,YR iter X.env x=pure x:=by intro _;rfl)(f:X.fn y=true\/X.env.scope.names.lookup y=some .local:=by first|exact .inl rfl|exact .inr rfl|assumption) :
  PS X (.Assign [.Name y e] (.ListComp elt [⟨tg,iter,ifs,0⟩] scope pos) a) (wD (tLC ⇑own wi g tt te) (lV i)):=Rh own M (λ_=>hc) hN b h hi hg ht he d hk hs f
def YQ(own:List Str)(hc:X.calm=true)(hi:PI X tg iter wi)(hg:∀c,PG (X.comp own scope c) tg (g c))(ht:∀c,PTs (X.comp own scope c) ifs (tt c))(he:∀c,PE (X.comp own scope c) elt (te c))(hk:iK X.env scope X.N=true:=by rfl)(hs:∀x,YR iter X.env x=pure x:=by intro _;rfl) :
  PE X (.ListComp elt [⟨tg,iter,ifs,0⟩] scope pos) (tLC ⇑own wi g tt te):=Mt own X.N hc hi hg ht he (Ej hk) hs
def Mh(own:List Str){i:Nat}{y:Str}{e a:Pos}(hc:X.calm=true)(hN:X.N.Nodup)(b:X.N[i]?=some y)(h:Loc X.env.scope y)(hi:PI X tg iter wi)(hg:∀c,PG (X.comp own scope c) tg (g c))(ht:∀c,PTs (X.comp own scope c) ifs (tt c))(he:∀c,PE (X.comp own scope c) elt (te c))(d:XV (.ListComp elt [⟨tg,iter,ifs,0⟩] scope pos) (some (.Name y e)) a.line X.env=pure true:=by rfl)(hk:iK X.env scope X.N=true:=by rfl)(hs:∀x,YR iter X.env x=pure x:=by intro _;rfl)(f:X.fn y=true\/X.env.scope.names.lookup y=some .local:=by first|exact .inl rfl|exact .inr rfl|assumption) :
  PS X (.Assign [.Name y e] (.ListComp elt [⟨tg,iter,ifs,0⟩] scope pos) a) (wD (tLC ⇑own wi g tt te) (lV i)):=Vy own X.N hc hN b h hi hg ht he d (Ej hk) hs f
end
section
variable{tg:YE}{K:Ý}{g:CB->TG}{tt:CB->TT}{te:CB->TE}{σ:St}{H:Hp}{Q:VK}{n:Nat}
def aaW(K:Ý)(b:TE):TI:=λσ H R=>b σ H λx H1=>∃a,x=.ref a/\(((∃xs,SqL K H1 a xs)/\R (Itl K a) H1)\/((∃xs,SqT K H1 a xs)/\R (Itt K a) H1))
def VB{l:YE}{i:TE}(hl:PE X l i):PI X tg l (aaW X.K i):=by
 intro c s σ H R I h;refine thn (hl c s σ H _ I h) λv s1 ⟨x,H1,I1,r1,f⟩=>?_;let⟨a,e,f⟩:=f;subst e;cases r1;rcases f with⟨⟨xs,d⟩,q⟩|⟨⟨xs,d⟩,q⟩
 ·let⟨its,k,p,j⟩:=I1.list d;refine UU p.isList ?_;refine⟨↥s1,[↥s1],_,_,H1,rfl,I1.kept (t':=s1.toks) λb o e=>Ô _ e,Jm a _,⟨_,ä _ rfl,rfl,rfl⟩,λb hb=>?_,q⟩;have e:b=↥s1:=↑hb
  subst e;exact I1.Gv (Ì _) (I1.hok.fresh (Ì _))
 ·let⟨its,k,p,j⟩:=I1.tuple d;refine UV (show s1.heap.IsTuple a its.toArray from p) ?_;refine⟨↥s1,[↥s1],_,_,H1,rfl,I1.kept (t':=s1.toks) λb o e=>Ô _ e,EY a _,⟨_,ä _ rfl,rfl,rfl⟩,λb hb=>?_,q⟩;have e:b=↥s1:=↑hb
  subst e;exact I1.Gv (Ì _) (I1.hok.fresh (Ì _))
end
end L2
namespace NfSort
open PySem.W
def kwp{α:Type}(n:Nat)(key:Nat->Int):KasT α->(α->Prop)->Prop
 |.ret a,Q=>Q a
 |.ask i j k,Q=>i<n/\j<n/\kwp n key (k (decide (key i<key j))) Q
theorem bQ{α:Type}{n:Nat}{key:Nat->Int}{Q b:α->Prop}(h:∀a,Q a->b a):∀{t:KasT α},kwp n key t Q->kwp n key t b
 |.ret a,q=>h a q
 |.ask _ _ k,q=>⟨q.1,q.2.1,bQ h q.2.2⟩
theorem iJ{α β:Type}{n:Nat}{key:Nat->Int}{f:α->KasT β}{Q:β->Prop}:∀{t:KasT α},kwp n key t (λa=>kwp n key (f a) Q)->kwp n key (t.bind f) Q
 |.ret a,q=>q
 |.ask _ _ k,q=>⟨q.1,q.2.1,iJ q.2.2⟩
theorem tH{α:Type}{n:Nat}{key:Nat->Int}{b:Nat->Nat->(Bool->Shared->Prop)->Shared->Prop}{s:Shared}{G:α->Shared->Prop}(hc:∀i j C,i<n->j<n->C (decide (key i<key j)) s->b i j C s) :
  ∀{t:KasT α},kwp n key t (λa=>G a s)->t.kasWp b G s
 |.ret _,q=>q
 |.ask i j k,q=>hc i j _ q.1 q.2.1 (tH hc q.2.2)
section
variable{n:Nat}{key:Nat->Int}{p:Array Nat}
def Pm(n:Nat)(p:Array Nat):Prop:=p.Perm (Ø n).toArray
def kk(key:Nat->Int)(p:Array Nat)(i:Nat):Int:=key (p.getD i 0)
def Pm.size(h:Pm n p):p.size=n:=by
 have:=Array.Perm.size_eq h;simpa using this
def getD_eq(p:Array Nat)(i:Nat):p.getD i 0=(p[i]?).getD 0:=by
 by_cases h:i<p.size <;> simp[Array.getD,h]
def Pm.lt(h:Pm n p){i:Nat}(hi:i<n):p.getD i 0<n:=by
 have hs:=h.size;have a:i<p.size:=()
 have hm:p[i]∈p.toList:=by
  have:=Array.getElem_mem a;simpa using this
 have hp:p.toList.Perm (Ø n):=by
  have:=Array.perm_iff_toList_perm.mp h;simpa using this
 have e:p.getD i 0=p[i]:=by simp[Array.getD,a]
 rw[e];exact ò.mp (hp.mem_iff.mp hm)
def Pm.rev(h:Pm n p)(i j:Nat):Pm n (UX p i j):=Array.Perm.trans (mirror_perm _ _ _ _) h
def Pm.bub(h:Pm n p)(i j:Nat):Pm n (bubble p i j):=Array.Perm.trans (bubble_perm _ _ _) h
def Ae(h:Pm n p){i j:Nat}(a:j<=n)(t:Nat):kk key (UX p i j) t=if i<=t/\t<j then kk key p (i+j - 1 - t)else kk key p t:=by
 unfold kk UX;rw[getD_eq,getElem?_mirror_all (by rw[h.size];exact a)];split
 ·rw[getD_eq]
 ·rw[getD_eq]
def WL(h:Pm n p){k l:Nat}(hk:k<n)(hl:l<=k)(t:Nat):kk key (bubble p k (k - l)) t=if t=l then kk key p k else if l<t/\t<=k then kk key p (t - 1)else kk key p t:=by
 unfold kk;rw[getD_eq,getElem?_bubble (by rw[h.size];exact hk) _ ()];have e:k - (k - l)=l:=()
 rw[e];split
 ·rw[getD_eq]
 ·split
  ·rw[getD_eq]
  ·rw[getD_eq]
def Up(key:Nat->Int)(p:Array Nat)(m:Nat):Prop:=∀i j,i<=j->j<m->kk key p i<=kk key p j
def Dn(key:Nat->Int)(p:Array Nat)(m:Nat):Prop:=∀i j,i<=j->j<m->kk key p j<=kk key p i
def Rn(key:Nat->Int)(p:Array Nat)(m q:Nat):Prop:=q+1<=m/\∀t,m<=t+q+1->t<m->kk key p t=kk key p (m - 1)
def Up.more{a:Nat}(h:Up key p a)(h1:1<=a)(c:kk key p (a - 1)<=kk key p a):Up key p (a+1):=λi j hij hj=>by
 by_cases b:j<a
 ·exact h i j hij b
 ·obtain rfl:j=a:=()
  by_cases hi:i=j
  ·subst hi;exact Ě _
  ·exact Int.le_trans (h i (j - 1) () ()) c
def Dn.more{a:Nat}(h:Dn key p a)(h1:1<=a)(c:kk key p a<=kk key p (a - 1)):Dn key p (a+1):=λi j hij hj=>by
 by_cases b:j<a
 ·exact h i j hij b
 ·obtain rfl:j=a:=()
  by_cases hi:i=j
  ·subst hi;exact Ě _
  ·exact Int.le_trans c (h i (j - 1) () ())
theorem G5(hp:Pm n p):∀(f a:Nat),1<=a->a+f<=n->Up key p a->kwp n key (kas_asc p f a) (λm=>a<=m/\m<=a+f/\Up key p m/\(m<a+f->kk key p m<kk key p (m - 1)))
 |0,a,h1,hf,hu=>⟨Ì _,Ì _,hu,λh=>ft h ()⟩
 |f+1,a,h1,hf,hu=>by
  refine⟨hp.lt (),hp.lt (),?_⟩;by_cases hc:key (p.getD a 0)<key (p.getD (a - 1) 0)
  ·(rw[gz hc];dsimp only;rw[fo rfl])
   exact⟨Ì _,(),hu,λ_=>hc⟩
  ·(rw[fi hc];dsimp only;rw[fq Ù])
   refine bQ (λm ⟨a1,a2,a3,a4⟩=>⟨(),(),a3,λh=>a4 ()⟩) (G5 hp f (a+1) () () (hu.more h1 (Int.not_lt.mp hc)))
def Hu(hp:Pm n p){a q:Nat}(ha:a<=n)(hr:Rn key p a q)(t:Nat):kk key (UX p (a - (q+1)) a) t=kk key p t:=by
 rw[Ae hp ha];split
 ·rename_i h;rw[hr.2 t () h.2];exact hr.2 _ (by have:=hr.1;lia) ()
 ·rfl
def Dn.eq{c:Array Nat}{m:Nat}(h:Dn key p m)(e:∀t,kk key c t=kk key p t):Dn key c m:=λi j a b=>by rw[e,e];exact h i j a b
theorem IW:∀(f:Nat)(p:Array Nat)(a q:Nat),Pm n p->1<=a->a+f<=n->Dn key p a->Rn key p a q ->
  kwp n key (kas_desc f p a q) (λr=>Pm n r.1/\a<=r.2.1/\r.2.1<=a+f/\Dn key r.1 r.2.1/\Rn key r.1 r.2.1 r.2.2)
 |0,p,a,q,hp,h1,hf,hd,hr=>⟨hp,Ì _,Ì _,hd,hr⟩
 |f+1,p,a,q,hp,h1,hf,hd,hr=>by
  refine⟨hp.lt (),hp.lt (),?_⟩;have b:∀{p':Array Nat}{q':Nat},Pm n p'->Dn key p' (a+1)->Rn key p' (a+1) q'->kwp n key (kas_desc f p' (a+1) q') (λr=>Pm n r.1/\a<=r.2.1/\r.2.1<=a+(f+1)/\Dn key r.1 r.2.1/\Rn key r.1 r.2.1 r.2.2):=λx y z =>
   bQ (λr ⟨a1,a2,a3,a4,a5⟩=>⟨a1,(),(),a4,a5⟩) (IW f _ (a+1) _ x () () y z)
  have g:∀p':Array Nat,Rn key p' (a+1) 0:=λp'=>⟨(),λt h1 h2=>by
   have e:t=a+1 - 1:=()
   rw[e]⟩
  by_cases hc:key (p.getD a 0)<key (p.getD (a - 1) 0)
  ·(rw[gz hc];dsimp only;rw[fo rfl])
   have d:kk key p a<kk key p (a - 1):=hc;by_cases h:q > 0
   ·rw[fo h];have e:=Hu (key:=key) hp () hr;exact b (hp.rev _ _) ((hd.more h1 (Int.le_of_lt d)).eq e) (g _)
   ·rw[fq h];exact b hp (hd.more h1 (Int.le_of_lt d)) (g _)
  ·(rw[fi hc];dsimp only;rw[fq Ù])
   refine⟨hp.lt (),hp.lt (),?_⟩;by_cases c:key (p.getD (a - 1) 0)<key (p.getD a 0)
   ·(rw[gz c];dsimp only;rw[fo rfl])
    exact⟨hp,Ì _,(by show a<=a+(f+1);lia),hd,hr⟩
   ·(rw[fi c];dsimp only;rw[fq Ù])
    have e:kk key p a=kk key p (a - 1):=Int.le_antisymm (Int.not_lt.mp c) (Int.not_lt.mp hc);refine b hp (hd.more h1 (Int.le_of_eq e)) ⟨by have:=hr.1;lia,λt t1 t2=>?_⟩;show _=kk key p a;by_cases ht:t=a
    ·rw[ht]
    ·rw[e];exact hr.2 t () ()
def Bx{a:Nat}(hp:Pm n p)(h1:1<=a)(ha:a<=n)(hd:Dn key p a):kwp n key (kas_tail3 a n p) (λr=>Pm n r.2/\1<=r.1/\r.1<=n/\Up key r.2 r.1):=by
 unfold kas_tail3;have hu:Up key (UX p 0 a) a:=λi j hij hj=>by
  rw[Ae hp ha,Ae hp ha,fo ⟨(),()⟩,fo ⟨(),hj⟩];exact hd _ _ () ()
 refine iJ (bQ (λm ⟨a1,a2,a3,_⟩=>?_) (G5 (hp.rev 0 a) (n - a) a h1 () hu));exact⟨hp.rev 0 a,(),(),a3⟩
def rY{a:Nat}(hp:Pm n p)(ha:a+1<=n)(hd:Dn key p (a+1)):kwp n key (kas_descPart a n p) (λr=>Pm n r.2/\1<=r.1/\r.1<=n/\Up key r.2 r.1):=by
 unfold kas_descPart;refine iJ (bQ (λr ⟨a1,a2,a3,a4,a5⟩=>?_) (IW (n - (a+1)) p (a+1) 0 hp () () hd ⟨(),λt h1 h2=>by
  have e:t=a+1 - 1:=()
  rw[e]⟩))
 split
 ·exact Bx (a1.rev _ _) () () (a4.eq (Hu a1 () a5))
 ·exact Bx a1 () () a4
def Qm(hp:Pm n p)(h1:1<=n):kwp n key (UY n p) (λr=>Pm n r.2/\1<=r.1/\r.1<=n/\Up key r.2 r.1):=by
 unfold UY;have d:Up key p 1:=λi j hij hj=>by
  have e:i=j:=()
  rw[e];exact Ě _
 refine iJ (bQ (λm ⟨a1,a2,a3,a4⟩=>?_) (G5 hp (n - 1) 1 (Ì _) () d));by_cases hm:m=n
 ·rw[fo ↑hm];exact⟨hp,(),(),a3⟩
 ·rw[fq ↑hm];have b:=a4 ();by_cases c:m > 1
  ·rw[fo c];refine⟨hp.lt (),hp.lt (),?_⟩;by_cases hc:key (p.getD 0 0)<key (p.getD (m - 1) 0)
   ·(rw[gz hc];dsimp only;rw[fo rfl])
    exact⟨hp,(),(),a3⟩
   ·(rw[fi hc];dsimp only;rw[fq Ù])
    have a:∀t,t<m->kk key p t=kk key p 0:=λt ht=>by
     have f:=a3 0 t () ht;have g:=a3 t (m - 1) () ();have k:kk key p (m - 1)<=kk key p 0:=Int.not_lt.mp hc;lia
    have e:∀t,kk key (UX p 0 m) t=kk key p t:=λt=>by
     rw[Ae hp ()];split
     ·rename_i h;rw[a t h.2,a _ ()]
     ·rfl
    refine rY (hp.rev 0 m) () (Dn.eq (p:=p) (Dn.more (λi j hij hj=>?_) () (Int.le_of_lt b)) e);rw[a i (),a j hj];exact Ě _
  ·rw[fq c];obtain rfl:m=1:=()
   refine rY hp () (Dn.more (λi j hij hj=>?_) () (Int.le_of_lt b));have e:i=j:=()
   rw[e];exact Ě _
theorem uO{k:Nat}(hp:Pm n p)(hk:k<n)(hu:Up key p k):∀(f l r:Nat),l<=r->r<=k->r<=l+f->(∀t,t<l->kk key p t<=kk key p k)->(∀t,r<=t->t<k->kk key p k<kk key p t) ->
  kwp n key (kas_place p k f l r) (λl'=>l'<=k/\(∀t,t<l'->kk key p t<=kk key p k)/\(∀t,l'<=t->t<k->kk key p k<kk key p t))
 |0,l,r,h1,h2,h3,h4,h5=>⟨(),h4,λt a b=>h5 t () b⟩
 |f+1,l,r,h1,h2,h3,h4,h5=>by
  unfold kas_place;by_cases d:l≥r
  ·rw[fo d];exact⟨(),h4,λt a b=>h5 t () b⟩
  ·rw[fq d];have hm:(l+r) / 2<r:=()
   refine⟨hp.lt hk,hp.lt (),?_⟩;by_cases hc:key (p.getD k 0)<key (p.getD ((l+r) / 2) 0)
   ·(rw[gz hc];dsimp only;rw[fo rfl])
    have c:kk key p k<kk key p ((l+r) / 2):=hc;exact uO hp hk hu f l _ () () () h4 λt a b=>Int.lt_of_lt_of_le c (hu _ t a b)
   ·(rw[fi hc];dsimp only;rw[fq Ù])
    have c:kk key p ((l+r) / 2)<=kk key p k:=Int.not_lt.mp hc;exact uO hp hk hu f _ r () () () (λt a=>Int.le_trans (hu t _ () ()) c) h5
theorem Qw:∀(f:Nat)(p:Array Nat)(k:Nat),Pm n p->k+f<=n->Up key p k->kwp n key (kas_bin f p k) (λp'=>Pm n p'/\Up key p' (k+f))
 |0,p,k,hp,hk,hu=>⟨hp,hu⟩
 |f+1,p,k,hp,hk,hu=>by
  unfold kas_bin;refine iJ (bQ (λl ⟨a1,a2,a3⟩=>?_) (uO hp () hu k 0 k (ą _) (Ì _) () (λt h=>ft h ()) (λt h1 h2=>ft h1 ())));have e:=WL (key:=key) hp (k:=k) () a1;have d:Up key (bubble p k (k - l)) (k+1):=λi j hij hj=>by
   rw[e,e];by_cases hi:i=l
   ·rw[fo hi];by_cases a:j=l
    ·rw[fo a];exact Ě _
    ·rw[fq a,fo ⟨(),()⟩];exact Int.le_of_lt (a3 _ () ())
   ·rw[fq hi];by_cases b:l<i/\i<=k
    ·rw[fo b,fq (),fo ⟨(),()⟩];exact hu _ _ () ()
    ·rw[fq b];by_cases a:j=l
     ·rw[fo a];exact a2 i ()
     ·rw[fq a];by_cases c:l<j/\j<=k
      ·rw[fo c];exact hu _ _ () ()
      ·rw[fq c];exact hu _ _ hij ()
  refine bQ (λp' ⟨b1,b2⟩=>⟨b1,?_⟩) (Qw f _ (k+1) (hp.bub _ _) () d);have g:k+(f+1)=k+1+f:=()
  rw[g];exact b2
def Hl(h1:1<=n):kwp n key (kas_sort n) (λp=>Pm n p/\Up key p n):=by
 unfold kas_sort;refine iJ (bQ (λr ⟨a1,a2,a3,a4⟩=>?_) (Qm (p:=(Ø n).toArray) (Array.Perm.refl _) h1));have e:max r.1 1=r.1:=()
 rw[e];split
 ·refine bQ (λp' ⟨b1,b2⟩=>⟨b1,?_⟩) (Qw (n - r.1) r.2 r.1 a1 () a4);have a:r.1+(n - r.1)=n:=()
  rw[a]at b2;exact b2
 ·have a:r.1=n:=()
  rw[a]at a4;exact⟨a1,a4⟩
end
end NfSort
namespace L2
open PySem.Spec
variable{X:Cx}
section
variable{prog:Zg}{w:Zl}{A:Ys}{E:fA}{s:Shared}
section
variable{pos:Pos}
def SQ(K:Ý)(n:Nat)(t:TGs):TG:=λv σ H Q=>∃a xs,v=.ref a/\SqL K H a xs/\⇑xs=n/\t xs σ H Q
end
section
def Bk:bU X (.builtin "isinstance") (λxs H Q=>∃x c t b,xs=[x,.ty c]/\TyOf X.K H x t/\W.kitOne X.K t (.type c)=some b/\Q (.bl b) H):=by
 intro a s σ H xs i Q I r h;let⟨x,c,t,b,rfl,ty,e,q⟩:=h;let⟨u,g,rfl,f,d⟩:=vals2 r;cases d;exact J5 I f ty e λtk=>⟨.bl b,H,I.tok _,rfl,q⟩
theorem G9:∀{bs:List Bool}{a:fT},Vals (bs.map V.bl) a->a=bs.map Value.bool
 |[],_,h=>by cases h;rfl
 |b::bs,_,h=>by
  cases h with
  |cons r t =>
   cases r;rw[G9 t];rfl
def all_range(bs:List Bool):(Ø ⇑bs).all (λi=>bs.getD i true)=bs.all id:=by
 rw[ă];simp only[Ċ,ò];constructor
 ·intro h x a;let⟨i,hi,e⟩:=List.mem_iff_getElem.mp a;have q:=h i hi;simp[hi]at q;rw[←e];exact q
 ·intro h i hi;have q:=h bs[i] (Ĥ hi);simpa[hi]using q
def Kv(hc:X.calm=true):bU X (.builtin "all") (λxs H Q=>∃(p:Addr)(bs:List Bool),xs=[.ref p]/\SqL X.K H p (bs.map V.bl)/\Q (.bl (bs.all id)) H):=by
 intro g s σ H xs w Q I r h;let⟨p,bs,rfl,hp,q⟩:=h;let⟨u,rfl,n⟩:=vals1 r;cases n;let⟨its,m,f,t⟩:=I.list hp;have e:=G9 m;subst e;have d:p≠↥s:=by let⟨o,l,_⟩:=f.isList;exact å (Ó l)
 refine call_all_walk (UU f.isList ?_);refine⟨_,_,_,_,_,_,λi=>bs.getD i true,rfl,Walks.list (A:=X.A.in1) (I.ok.hd hc) _ p d _,⟨⟨_,ä _ rfl,rfl,rfl⟩,f.isList.push _⟩,?_,λh' tk hk=>?_⟩
 ·intro i v s Q E j k;have a:(bs.map Value.bool)[i]?=some v:=↑j
  rw[Þ]at a;cases hb:bs[i]? with
  |none=>rw[hb]at a;cases a
  |some b =>
   rw[hb]at a;cases a;refine ĭ ?_;have e:bs.getD i true=b:=by rw[Ò,hb];rfl
   have c:Q (bs.getD i true) s:=k;rw[e]at c;exact c
 ·have e:(Ø (bs.map Value.bool).toArray.size).all (λi=>bs.getD i true)=bs.all id:=by
   rw[Ñ,À];exact all_range bs
  rw[e];refine⟨.bl (bs.all id),H,I.kept λb o eb=>hk b o ?_ (Ô _ eb),rfl,q⟩;intro hm;have:b=↥s:=↑hm
  exact ft (Ó eb) (by rw[this];exact Ę _)
def Kq(hc:X.calm=true):bU X (.builtin "min") (λxs H Q=>∃p a b,xs=[.ref p]/\SqT X.K H p [.int a,.int b]/\Q (.int (if b<a then b else a)) H):=by
 intro n s σ H xs C Q I r h;let⟨p,a,b,rfl,hp,q⟩:=h;let⟨u,rfl,y⟩:=vals1 r;cases y;let⟨its,x,t,B⟩:=I.tuple hp;let⟨D,E,rfl,⟨f,rfl⟩,⟨t2,rfl⟩⟩:=vals2 x;have m:s.heap.IsTuple p (UZ #[(a,f),(b,t2)]):=by
  have z:s.heap.IsTuple p #[Ń a f,Ń b t2]:=t;simpa[UZ]using z
 have k:p<↥s:=by let⟨o,w,_⟩:=t;exact Ó w
 refine call_min_walk (UV m ?_);refine⟨_,[↥s,p],[↥s],_,_,_,_,rfl,Walks.tuple (A:=X.A.in1) (I.ok.hd hc) _ p (å k) (UZ #[(a,f),(b,t2)]),⟨⟨_,ä _ rfl,rfl,rfl⟩,m.push _⟩,λc hc=>?_,by simp[UZ],
  CmpOf.ints_lt (U1 #[(a,f),(b,t2)]) (λ_ _=>intItems_at),λv h' tk hP hk=>?_⟩
 ·show c<(s.heap.push _).objs.size;rw[Ŝ];rcases Õ.mp hc with rfl|hc
  ·exact ň _
  ·have:c=p:=↑hc
   rw[this];exact ĕ k
 ·have hv:v=if b<a then Ń b t2 else Ń a f:=by
   have g:(UZ #[(a,f),(b,t2)])[U2 (λi j=>decide (U1 #[(a,f),(b,t2)] i<U1 #[(a,f),(b,t2)] j)) 1]?=some v:=by
    have l:(UZ #[(a,f),(b,t2)]).size - 1=1:=by simp[UZ]
    rw[←l];exact hP
   by_cases d:b<a
   ·have e:U2 (λi j=>decide (U1 #[(a,f),(b,t2)] i<U1 #[(a,f),(b,t2)] j)) 1=1:=by simp[U2,U1,d]
    rw[e]at g;simpa[UZ,d]using g.symm
   ·have e:U2 (λi j=>decide (U1 #[(a,f),(b,t2)] i<U1 #[(a,f),(b,t2)] j)) 1=0:=by simp[U2,U1,d]
    rw[e]at g;simpa[UZ,d]using g.symm
  subst hv;refine⟨.int (if b<a then b else a),H,I.kept λb o eb=>hk b o ?_ (Ô _ eb),?_,q⟩
  ·intro hm;have:b=↥s:=↑hm
   exact ft (Ó eb) (by rw[this];exact Ę _)
  ·by_cases d:b<a
   ·rw[fo d,fo d];exact⟨_,rfl⟩
   ·rw[fq d,fq d];exact⟨_,rfl⟩
def WY{prog:Zg}{w:Zl}{A:Ys}{E:fA}{s:Shared}{l:Addr}{n:Nat}{x:Int}{t:Tok}{u:Value}{Q:fA}{its:fT}(b:s.heap.get? l=some { cls:=.type "list",data:=.seq its.toArray n })(a:¬(!Builtin.List.listFitsIndex x)=true)(hsz:its.toArray.size<=sizeLine)(h:Q .none { s with heap:=s.heap.update l (æ λxs=>(xs.extract 0 (if x<0 then(x+(xs.size:Int)).toNat else min x.toNat xs.size)).push u++xs.extract (if x<0 then(x+(xs.size:Int)).toNat else min x.toNat xs.size)),toks:=s.toks }) :
  wpAny (model prog w) A (WF (.builtin "list.insert") [.ref l,.int x t,u]) Q E s:=by
 generalize its.toArray=c at b hsz;exact UM PySem.F.slot_list_insert ⟨_,b,rfl⟩ PySem.F.entry_list_insert (PySem.F.args_list_insert_3 _ _ _) (PySem.AutoSeq1.list_insert_list_int_val_1 l c n x t u a hsz) ⟨b,h⟩
def Hx:V->List V->Hp->VK->Prop:=λx vs H Q=>∃l xs k y,x=.ref l/\vs=[.int (k:Nat),y]/\H l=some (.lst xs)/\k<=⇑xs/\⇑xs<sizeLine/\Q .non (upd H l (.lst (xs.take k++y::xs.drop k)))
def JT:MtM X "list.insert" Hx:=by
 intro f s σ H x vs v E Q I A w h;let⟨l,xs,k,y,rfl,rfl,d,hk,C,q⟩:=h;cases A;let⟨D,u,rfl,⟨t,rfl⟩,p⟩:=w.two;let⟨z,its,n,r,hl,e⟩:=I.Ab d;have j:(sizeLine:Nat)=16777216:=õ;have a:¬(!Builtin.List.listFitsIndex (k:Int))=true:=by
  have m:decide (-(2 ^ 63:Int)<=(k:Int))=true:=gz ();have o:decide ((k:Int)<2 ^ 63)=true:=gz ();unfold Builtin.List.listFitsIndex;rw[m,o];exact Ù
 have hsz:its.toArray.size<=sizeLine:=by
  have g:its.toArray.size=⇑xs:=(Ñ ..).trans hl.symm;rw[g];exact z
 have b:¬((k:Int)<0):=()
 have c:(k:Int).toNat=k:=ê k;generalize B:(k:Int)=x at a b c;refine WY (its:=its) e a hsz ?_;refine⟨.non,_,I.Oi (its':=its.take k++u::its.drop k) d e ?_ ?_ ?_,rfl,q⟩
 ·have hm:min k ⇑its=k:=()
  have i:=W.kl_ins_eq its k u;simp only[b,if_false,c,Ñ,hm];exact i
 ·exact(r.take k).append (.cons p (r.drop k))
 ·rw[É,à,Ĺ,Ď];lia
def Ko:bU X (.type "range") (λxs H Q=>∃j,xs=[.int j]/\∀p,H p=none->Q (.ref p) (upd H p (.rng 0 j))):=by
 intro a s σ H xs c Q I r h;let⟨j,rfl,q⟩:=h;let⟨u,rfl,t,rfl⟩:=vals1 r;refine call_range_1 ?_;exact⟨.ref ↥s,_,I.laid (o:=.rng 0 j) (λb o e=>Ô _ e) (Ì _) ⟨_,_,_,ä _ rfl⟩,rfl,q _ I.fresh⟩
def Ce(lo hi:Int):List V:=(Ø (hi - lo).toNat).map λi=>V.int (lo+(i:Nat))
def Ez{lo:Int}:∀{n:Nat}{a:fT},⇑a=n->(∀j v,a[j]?=some v->∃t,v=Ń (lo+(j:Nat) * 1) t)->Vals ((Ø n).map λi=>V.int (lo+(i:Nat))) a:=by
 intro n a hl h;have key:∀(a:fT)(k:Nat),(∀j v,a[j]?=some v->∃t,v=Ń (lo+(~~~(k+j))) t)->Vals ((List.range' k ⇑a).map λi=>V.int (lo+(i:Nat))) a:=by
  intro a;induction a with
  |nil=>intro k _;exact .nil
  |cons u a ih =>
   intro k hk;let⟨t,e⟩:=hk 0 u (by simp);rw[à,List.range'_succ,é];refine .cons ⟨t,↑e⟩ (ih (k+1) λj v hv=>?_);let⟨t,e⟩:=hk (j+1) v ↑hv;exact⟨t,by rw[e];congr 2;lia⟩
 have q:=key a 0 λj v hv=>by
  let⟨t,e⟩:=h j v hv;exact⟨t,by rw[e];simp⟩
 rw[hl,←List.range_eq_range']at q;exact q
def wO(hc:X.calm=true):bU X (.type "list") (λxs H Q=>∃p lo hi,xs=[.ref p]/\H p=some (.rng lo hi)/\(-1000<=lo/\lo<=1000/\-1000<=hi/\hi<=1000)/\∀l,H l=none->Q (.ref l) (upd H l (.lst (Ce lo hi)))):=by
 intro a s σ H xs c Q I r h;let⟨p,lo,hi,rfl,hp,⟨b1,b2,b3,b4⟩,q⟩:=h;let⟨u,rfl,b⟩:=vals1 r;cases b;let⟨t,u,v,e⟩:=I.hok p _ hp;have hsz:Builtin.Range.rangeSize lo hi 1=(~~~((hi - lo).toNat)):=by rw[WB];split <;> lia
 refine call_list_range (I.ok.hd hc) (show IsRange s.heap p lo hi 1 t u v from e) (small_one () () () ()) hsz () λh' tk acc' c' hk ho ⟨hn,hit⟩=>?_;have hv:Vals (Ce lo hi) acc'.toList:=Ez ↑hn λj w hw=>hit j w ↑hw;refine⟨.ref ↥s,_,I.laid (o:=.lst (Ce lo hi)) hk (Ì _) ⟨?_,acc'.toList,c',hv,↑ho⟩,rfl,q _ I.fresh⟩;unfold Ce;rw[À,ā,õ];lia
end
abbrev Tie:=Int×Int
def Pr(H:Hp)(v:V)(t:Tie):Prop:=∃p,v=.ref p/\H p=some (.tup [.int t.1,.int t.2])
abbrev Prs(H:Hp):List V->fN->Prop:=Paired (Pr H)
def aK(t:Tie):Int:=64 * t.1+t.2
def o8(t:Tie):Prop:=0<=t.2/\t.2<64
def code_inj{a b:Tie}(ha:o8 a)(hb:o8 b)(h:aK a=aK b):a=b:=by
 let⟨c,d⟩:=a;let⟨b1,b2⟩:=b;unfold o8 aK at *;simp only at *;have e:c=b1:=()
 have f:d=b2:=()
 rw[e,f]
def mJ(h:Heap)(u:Value)(t:Tie):Prop:=∃a o t1 t2 n,u=.ref a/\h.get? a=some o/\o.cls=.type "tuple"/\o.data=.seq #[.int t.1 t1,.int t.2 t2] n
def mJ.keep{h h':Heap}{u:Value}{t:Tie}(x:mJ h u t)(k:∀a o,h.get? a=some o->o.cls=.type "tuple"->h'.get? a=some o):mJ h' u t:=by
 let⟨a,o,c,t2,n,e,b,hc,hd⟩:=x;exact⟨a,o,c,t2,n,e,k a o b hc,hc,hd⟩
def VD{α β:Type}{F:α->β->Prop}{l₁:List α}{l₂:List β}(h:Paired F l₁ l₂):∀{i:Nat}{b:β},l₂[i]?=some b->∃a,l₁[i]?=some a/\F a b:=by
 induction h with
 |nil=>intro i x e;simp at e
 |cons r t ih =>
  intro i x e;cases i with
  |zero=>simp at e;subst e;exact⟨_,rfl,r⟩
  |succ i =>
   let⟨c,d,f⟩:=ih ↑e;exact⟨c,↑d,f⟩
theorem Cp{α β:Type}{F:α->β->Prop}{l₁:List α}{l₂:List β}(h:Paired F l₁ l₂)(c:α)(d:β):∀(p:fR),(∀i∈p,i<⇑l₂)->Paired F (p.map λi=>l₁.getD i c) (p.map λi=>l₂.getD i d)
 |[],_=>.nil
 |i::p,hp=>by
  have hi:i<⇑l₂:=hp i Æ;let⟨a,e,f⟩:=VD h (i:=i) (b:=l₂[i]) (by simp[hi]);refine .cons ?_ (Cp h c d p λj hj=>hp j (Ç _ hj));have g:l₁.getD i c=a:=by rw[Ò,e];rfl
  have k:l₂.getD i d=l₂[i]:=by simp[hi]
  show F (l₁.getD i c) (l₂.getD i d);rw[g,k];exact f
theorem Vs{α:Type}:∀us:List α,Ņ (λx=>x.snd) (us.zip us)=us
 |[]=>rfl
 |u::us=>by rw[List.zip_cons_cons,é,Vs us]
def eO{α:Type}(l:List α)(d:α):(Ø ⇑l).map (λi=>l.getD i d)=l:=by
 apply List.ext_getElem
 ·simp
 ·intro i h1 h2;simp at h1 ⊢;simp[h1]
section
variable{pins:fF}{σ:St}{H:Hp}{s:Shared}
theorem Inv.pairs(I:Inv X pins σ H s):∀{vs:List V}{ts:fN}{b:fT},Prs H vs ts->Vals vs b->Paired (mJ s.heap) b ts
 |_,_,_,.nil,r=>by cases r;exact .nil
 |_,_,_,.cons p q,r=>by
  cases r with
  |cons r rr =>
   refine .cons ?_ (I.pairs q rr);let⟨a,rfl,e⟩:=p;cases r;let⟨_,its,d,⟨o,c,hc,n,hd⟩⟩:=I.hok a _ e;let⟨g,h,rfl,⟨f,rfl⟩,⟨t2,rfl⟩⟩:=vals2 d;exact⟨a,o,f,t2,n,rfl,c,hc,hd⟩
end
def Og{x y:Value}{a b:Tie}{Q:Bool->Shared->Prop}(r:mJ s.heap x a)(t:mJ s.heap y b)(k:o8 a)(l:o8 b)(h:Q (decide (aK a<aK b)) s):wpAny (model prog w) A (keyLt' (Ta true) x y) Q E s:=by
 let⟨p,o,C,t2,n,rfl,q,hc,hd⟩:=r;let⟨B,o',u,v,z,rfl,g,m,f⟩:=t;let⟨c,d⟩:=a;let⟨b1,b2⟩:=b;unfold o8 at k l;simp only at k l;refine W.kat_lt q hd g f ?_;refine W.kat_cons (ZT ?_);by_cases i:c=b1
 ·subst i;rw[fw];refine W.kat_yes (W.kat_cons (ZT ?_));by_cases j:d=b2
  ·subst j;rw[fw];refine W.kat_yes (W.kat_nil ?_);have e:decide (aK (c,d)<aK (c,d))=false:=fi (Int.lt_irrefl _);rw[e]at h;exact h
  ·rw[beq_eq_false_iff_ne.mpr j];refine W.kat_no (W.kat_one _ _ (lt_int ?_));have e:decide (aK (c,d)<aK (c,b2))=decide (d<b2):=by
    apply decide_eq_decide.mpr;unfold aK;lia
   rw[e]at h;exact h
 ·rw[beq_eq_false_iff_ne.mpr i];refine W.kat_no (oneLt_int ?_);have e:decide (aK (c,d)<aK (b1,b2))=decide (c<b1):=by
   apply decide_eq_decide.mpr;unfold aK;simp only;constructor
   ·intro h;lia
   ·intro h;lia
  rw[e]at h;exact h
theorem O2:∀{b:fT}{ts:fN},Paired (mJ s.heap) b ts->∃fs,W.KatTups s.heap b fs/\⇑fs=⇑b/\∀v∈fs,∃i t,v=Ń i t
 |_,_,.nil=>⟨[],.nil,rfl,λ_ h=>nomatch h⟩
 |_,_,.cons p q=>by
  let⟨a,o,d,t2,n,rfl,c,hc,hd⟩:=p;let⟨fs,k,hl,hv⟩:=O2 q;refine⟨_::fs,.cons c hc hd (f:=Ń _ d) rfl k,by simp[hl],λv hv'=>?_⟩;rcases Õ.mp hv' with rfl|h
  ·exact⟨_,_,rfl⟩
  ·exact hv v h
def XJ{n:Nat}{key:Nat->Int}{p:Array Nat}(hp:NfSort.Pm n p)(h1:1<=n)(hs:NfSort.Up key p n):NfSort.kwp n key (W.kas_count n p) (λr=>r.1=n/\r.2=p):=by
 unfold W.kas_count;have b:∀(f a:Nat),1<=a->a+f=n->NfSort.kwp n key (W.kas_asc p f a) (λm=>m=n):=by
  intro f;induction f with
  |zero=>intro a _ h;exact h
  |succ f ih =>
   intro a ha h;refine⟨hp.lt (),hp.lt (),?_⟩;have hc:¬key (p.getD a 0)<key (p.getD (a - 1) 0):=Int.not_lt.mpr (hs (a - 1) a () ());rw[fi hc];exact ih (a+1) () ()
 refine NfSort.iJ (NfSort.bQ (λm e=>?_) (b (n - 1) 1 (Ì _) ()));rw[fo ↑e];exact⟨e,rfl⟩
open PySem.W in
def Q0{prog:Zg}{w:Zl}{A:Ys}{E:fA}{κ:Th}{it:Array Tk}{n:Nat}{Q:Unit->Tl->Shared->Prop}{G:Array Nat->Shared->Prop}{s:Shared}(h2:2<=n)(hmr:minRun' n n 0<=n)(d:∀p' st' s',p'.size=n->Ts st'=p'.map (kas_item it)->Tu st'=none->G p' s'->Q .unit st' s')(h:(UY n (ř (Ø n))).kasWp (kas_cmp prog w A κ it) (λr s'=>r.1=n/\G r.2 s') s) :
  kasC (model prog w) A E sortRuns' Q (Tx κ it (ř (Ø n))) s:=by
 obtain⟨r,rfl⟩:∃r,n=r+2:=⟨n - 2,()⟩
 have a:(ř (Ø (r+2))).size=r+2:=by simp
 rw[sortRuns'_eq];refine Ty (TB ?_);dsimp only;have hsz:(Ts (Tx κ it (ř (Ø (r+2))))).size=r+2:=by
  show((ř (Ø (r+2))).map (kas_item it)).size=_;rw[Array.size_map,a]
 simp only[hsz];refine Ty (kasC_range ?_);show kasC _ _ _ (forIn (0::1::List.range' 2 r) _ _) _ _ _;refine TC ?_;dsimp only;rw[fq ()];simp only[Nat.sub_zero,Nat.zero_add];refine Ty (kas_count_ () (by rw[a];exact Ì _) (λm p' s' hm1 hm2 hp hg=>?_) h);have b:p'.size=r+2:=hp.trans a;let⟨e,hg⟩:=hg;have c:m=r+2:=e;subst c;dsimp only;rw[fq ()];refine Ty (TB ?_);rw[show(TD (Tx κ it p')).back?=none from rfl];dsimp only;refine Ty (kasC_modify (TH ?_));show kasC _ _ _ (forIn (1::List.range' 2 r) _ _) _ _ _;refine TC ?_;dsimp only;rw[fo (Ì _)];refine TH ?_;dsimp only;refine Ty (kasC_range ?_);show kasC _ _ _ (forIn (0::1::List.range' 2 r) _ _) _ _ _;refine TC ?_;refine Ty (TB ?_);rw[fo (show(TD (setPending (Tx κ it p') ((TD (Tx κ it p')).push (0,r+2,0)))).size<=1 from Ì 1)];refine TH ?_;dsimp only;exact TH (d p' _ _ b rfl rfl hg)
def Srt(ts:fN):Prop:=⇑ts<64\/⇑ts=300/\∀i j,i<=j->j<⇑ts->aK (ts.getD i (0,0))<=aK (ts.getD j (0,0))
theorem Srt.lt{ts:fN}:Srt ts->⇑ts<512
 |.inl h=>()
 |.inr h=>()
abbrev zHp(s:Shared)(a:Addr)(c:List Value):=((s.heap.update a (æ λ_=>(#[]:fS))).push (TK "tuple" c.toArray 0)).push (TK "list" #[] 0)
def Jr{a:Addr}{c:fT}{ts:fN}{n:Nat}{P:PySem.Fin->Shared->Prop}(K:s.heap.get? a=some (TK "list" c.toArray n))(hp:Paired (mJ s.heap) c ts)(hn:∀t∈ts,o8 t)(d:Srt ts)(h:∀p:fR,p.Perm (Ø ⇑c)->(∀i j,i<=j->j<⇑c->aK (ts.getD (p.getD i 0) (0,0))<=aK (ts.getD (p.getD j 0) (0,0))) ->
   P (.done (.ret .none)) { s with heap:=sortedHeap s.heap a c (p.map λi=>c.getD i Ĕ).toArray }) :
  wpAny (model prog w) A (Builtin.«list.sort» ⟨[.ref a],[]⟩) P E s:=by
 have I:=⇑hp;have hbig:=d.lt;have h24:=õ;rw[TL];have ha:a<↥s:=Ó K;refine Ã (TM K rfl ?_);refine Ã (TN K rfl ?_ (by rw[Ñ,õ];lia) (ą _));obtain⟨B,L⟩:∃B,(s.heap.update a (æ λ_=>(#[]:fS))).get? a=some (TK "list" #[] B):=⟨_,TR K (λ_=>#[])⟩
 refine Ã (TU L rfl ?_);refine Ã (TW ?_ (by show ⇑c<=_;rw[õ];lia));refine Ã (TZ ?_ (ą _));refine ħ ?_;have l:(zHp s a c).get? a=some (TK "list" #[] B):=by
  rw[ī _ _ _ (by rw[Sa,Ĩ];exact å (ĕ ha)),ī _ _ _ (by rw[Ĩ];exact å ha)];exact L
 have R:∀b o,s.heap.get? b=some o->o.cls=.type "tuple"->(zHp s a c).get? b=some o:=λb o q hc=>by
  have J:b<↥s:=Ó q;have Y:b≠a:=λz=>by
   rw[z,K]at q;cases q;have z2:(Đ "list")=Đ "tuple":=hc;injection z2 with z3
   exact ft z3 ∅
  rw[ī _ _ _ (by rw[Sa,Ĩ];exact å (ĕ J)),ī _ _ _ (by rw[Ĩ];exact å J),Heap.get?_update_ne _ _ _ _ Y];exact q
 show wpAny (model prog w) A _ P E { s with heap:=zHp s a c};dsimp only;have hsz:c.toArray.size=⇑c:=by simp
 have N:Paired (mJ (zHp s a c)) c ts:=Paired.Gh hp λu t x=>x.keep R;by_cases h2:c.toArray.size<2
 ·rw[fo h2,fo h2];refine Ã (Ú ?_);rw[StateT.run_pure];refine Ã (Ú ?_);dsimp only;have F:(Ts (SortSt.mk' general' (c.toArray.zip c.toArray) #[] 7 none)).map (·.2)=((Ø ⇑c).map λi=>c.getD i Ĕ).toArray:=by
   rw[eO];show(c.toArray.zip c.toArray).map (·.2)=c.toArray;apply Array.toList_inj.mp;simp;exact Vs c
  rw[F];refine Ã (TU l rfl ?_);refine Ã (TN l rfl ?_ (ą _) (by rw[Ñ,À,ā,õ];lia));simp only[bne_self_eq_false,ķ,if_false];refine Ú (h _ (List.Perm.refl _) λi j hij hj=>?_);have:i=j:=()
  subst this;exact Ě _
 ·rw[fq h2,fq h2];have H:2<=⇑c:=()
  let⟨fs,hk,hfl,X⟩:=O2 (s:={ s with heap:=zHp s a c}) N;refine Ã (W.kat_kind (T:=.type "int") hk () (λv hv=>by let⟨i,t,rfl⟩:=X v hv;exact W.Looks.of_pure rfl) rfl ?_);have m:∀i j C,i<⇑c->j<⇑c->C (decide (aK (ts.getD i (0,0))<aK (ts.getD j (0,0)))) { s with heap:=zHp s a c} ->
    W.kas_cmp prog w A (Ta true) (c.toArray.zip c.toArray) i j C { s with heap:=zHp s a c}:=λi j C hi hj hC=>by
   unfold W.kas_cmp;rw[W.kat_item rfl,W.kat_item rfl];have key:∀k,k<⇑c->mJ (zHp s a c) (c.getD k Ĕ) (ts.getD k (0,0))/\o8 (ts.getD k (0,0)):=λk hk=>by
    have y:k<⇑ts:=()
    have ek:ts.getD k (0,0)=ts[k]:=by simp[y]
    let⟨u,eu,pu⟩:=VD N (i:=k) (b:=ts[k]) (by simp[y]);have U:c.getD k Ĕ=u:=by rw[Ò,eu];rfl
    rw[ek,U];exact⟨pu,hn _ (Ĥ y)⟩
   exact Og (key i hi).1 (key j hj).1 (key i hi).2 (key j hj).2 hC
  have G:W.kasC (model prog w) A E sortRuns' (λ_ f g=>∃p:Array Nat,g={ s with heap:=zHp s a c}/\Ts f=p.map (W.kas_item (c.toArray.zip c.toArray))/\Tu f=none/\NfSort.Pm ⇑c p/\NfSort.Up (λi=>aK (ts.getD i (0,0))) p ⇑c) (W.kas_st (Ta true) (c.toArray.zip c.toArray) (ř (Ø ⇑c))) { s with heap:=zHp s a c}:=by
   rcases d with d|⟨d,hs⟩
   ·exact W.kas_runs (G:=λp g=>g={ s with heap:=zHp s a c}/\NfSort.Pm ⇑c p/\NfSort.Up (λi=>aK (ts.getD i (0,0))) p ⇑c) H () (λp' f g a1 a2 a3 a4=>⟨p',a4.1,a2,a3,a4.2⟩)
     (NfSort.tH m (NfSort.bQ (λp hp=>⟨rfl,hp⟩) (NfSort.Hl ())))
   ·have hu:NfSort.Up (λi=>aK (ts.getD i (0,0))) (ř (Ø ⇑c)) ⇑c:=λi j hij hj=>by
     unfold NfSort.kk;have D:∀k,k<⇑c->(ř (Ø ⇑c)).getD k 0=k:=λk hk=>by simp[Array.getD,hk]
     rw[D i (),D j hj];exact hs i j hij ()
    exact Q0 (G:=λp g=>g={ s with heap:=zHp s a c}/\NfSort.Pm ⇑c p/\NfSort.Up (λi=>aK (ts.getD i (0,0))) p ⇑c) H (by rw[I,d];decide +kernel) (λp' f g a1 a2 a3 a4=>⟨p',a4.1,a2,a3,a4.2⟩)
     (NfSort.tH (G:=λr g=>r.1=⇑c/\g={ s with heap:=zHp s a c}/\NfSort.Pm ⇑c r.2/\NfSort.Up (λi=>aK (ts.getD i (0,0))) r.2 ⇑c) m (NfSort.bQ (λr ⟨B,e2⟩=>⟨B,rfl,by rw[e2];exact⟨Array.Perm.refl _,hu⟩⟩) (XJ (Array.Perm.refl _) () hu)))
  have S:SortSt.mk' (Ta true) (c.toArray.zip c.toArray) #[] 7 none=W.kas_st (Ta true) (c.toArray.zip c.toArray) (ř (Ø ⇑c)):=by
   have e:=W.kas_range (c.toArray.zip c.toArray);rw[show(c.toArray.zip c.toArray).size=⇑c by simp]at e;show SortSt.mk' (Ta true) (c.toArray.zip c.toArray) #[] 7 none=SortSt.mk' (Ta true) ((ř (Ø ⇑c)).map (W.kas_item (c.toArray.zip c.toArray))) #[] 7 none;rw[e]
  have eT:Ta (Đ "int" != Đ "tuple")=Ta true:=rfl;rw[eT,S];refine Ã (Ŀ G ?_ λ_ _ e=>e);rintro⟨⟨⟩,f⟩ g ⟨p,rfl,V,hf,O,Z⟩;dsimp only;have M:=W.kat_snds (ks:=c) (vs:=c) rfl V;rw[M];have Q:p.size=⇑c:=O.size;refine Ã (TU l rfl ?_);refine Ã (TN l rfl ?_ (ą _) (by rw[Ñ,À,ō,Q,õ];lia));rw[hf];simp only[bne_self_eq_false,ķ,if_false];refine Ú (h p.toList ?_ λi j hij hj=>?_)
  ·have:=Array.perm_iff_toList_perm.mp O;simpa using this
  ·have q:=Z i j hij hj;unfold NfSort.kk at q;have D:∀k,p.toList.getD k 0=p.getD k 0:=λk=>by
    rw[NfSort.getD_eq,Ò];simp
   rw[D,D];exact q
def mq{l:Addr}{vs:fT}{Q:fT->Shared->Prop}(hl:IsTup s.heap l vs.toArray)(h:Q vs { s with heap:=(s.heap.push (TK "list" #[] 0)).update ↥s (æ (·++vs.toArray))})(hsz:⇑vs<=sizeLine) :
  wpAny (model prog w) A (Sb (.ref l)) Q E s:=by
 let⟨o,b,hc,n,hd⟩:=id hl;unfold Sb;refine Ã (wpAny_runValue (ţ entry_proto_collect' ?_));show wpAny _ _ (do again (.builtin "list.__iadd__" ⟨[←newList [],.ref l],[]⟩)) _ _ s;refine Ã (TZ (Ú ⟨Code.quiet_builtin _ ⋯,ţ entry_list_iadd' ?_⟩));show wpAny _ _ (ŷ (.ref ↥s) (.ref l) (.ref ↥s)) _ _ { s with heap:=s.heap.push (TK "list" #[] 0)};unfold ŷ;have a:(s.heap.push (TK "list" #[] 0)).get? l=some o:=Ô _ b;refine Ã (VW (T:="tuple") ⟨o,a,hc⟩ ?_);have ht:(Đ "tuple"==Đ "tuple")=true:=by rfl
 rw[fo (by rw[ht];simp)];refine Ã (TM a hd ?_);refine Ã (TM (xs:=#[]) (n:=0) (ä _ rfl) rfl ?_);rw[fq (by simp)];refine Ã (TN (xs:=#[]) (n:=0) (ä _ rfl) rfl ?_ (ą _) (by show(#[]++vs.toArray).size<=sizeLine+1;simp only[Array.size_append,Ñ,List.length_nil];lia));refine Ú ?_;show wpAny (model prog w) A (do
   let o ←load ↥s
   match o.data with
   |.seq xs _=>pure xs.toList
   |_=>unsupported "internal:collect") Q E { s with heap:=(s.heap.push (TK "list" #[] 0)).update ↥s (æ (·++vs.toArray))}
 refine Ã (wpAny_load (TR (ä _ rfl) _) ?_);show wpAny _ _ (pure ((#[]:fS)++vs.toArray).toList) Q E _;rw[show((#[]:fS)++vs.toArray).toList=vs by simp];exact Ú h
def yE{l:Addr}{c:fT}{ts:fN}{Q:fA}(hl:s.heap.IsList l c.toArray\/IsTup s.heap l c.toArray)(hp:Paired (mJ s.heap) c ts)(hn:∀t∈ts,o8 t)(f:Srt ts)(h:∀p:fR,p.Perm (Ø ⇑c)->(∀i j,i<=j->j<⇑c->aK (ts.getD (p.getD i 0) (0,0))<=aK (ts.getD (p.getD j 0) (0,0))) ->
   Q (.ref (↥s+1)) { s with heap:=sortedAll s.heap c (p.map λi=>c.getD i Ĕ).toArray }) :
  wpAny (model prog w) A (WF (.builtin "sorted") [.ref l]) Q E s:=by
 have y:=õ;have r:=⇑hp;have n:=f.lt;refine Calls.call_function_entry kind_sorted plain_sorted entry_sorted (args_sorted1 _) ?_;unfold Builtin.«sorted»;refine Ã (m:=checkCount "sorted" 1 1 _) (Ú ?_);have hsz:((s.heap.push (TK "list" #[] 0)).update ↥s (æ (·++c.toArray))).objs.size=↥s+1:=by
  rw[Ĩ,Sa]
 have g:(((s.heap.push (TK "list" #[] 0)).update ↥s (æ (·++c.toArray))).push (TK "list" c.toArray 0)).get? (↥s+1)=some (TK "list" c.toArray 0):=by
  rw[←hsz];exact ä _ rfl
 have k:∀b o,s.heap.get? b=some o->(((s.heap.push (TK "list" #[] 0)).update ↥s (æ (·++c.toArray))).push (TK "list" c.toArray 0)).get? b=some o:=λb o q=>by
  have d:b<↥s:=Ó q;rw[ī _ _ _ (by rw[hsz];exact å (ĕ d)),Heap.get?_update_ne _ _ _ _ (å d),ī _ _ _ (å d)];exact q
 have v:∀{Q':fT->Shared->Prop},Q' c { s with heap:=(s.heap.push (TK "list" #[] 0)).update ↥s (æ (·++c.toArray))}->wpAny (model prog w) A.in1 (Sb (.ref l)) Q' (λe s'=>E e s') s:=λ{Q'} hq=>by
  rcases hl with hl|hl
  ·exact collect_list hl hq ()
  ·exact mq hl hq ()
 refine Ã (v ?_);refine Ã (TZ ?_ ());show wpAny _ _ _ _ _ { s with heap:=((s.heap.push (TK "list" #[] 0)).update ↥s (æ (·++c.toArray))).push (TK "list" c.toArray 0)};rw[hsz];refine Ã (ħ (Ļ Sc ⟨_,g,rfl⟩ Se (Jr g (Paired.Gh hp λu t x=>x.keep λa o e _=>k a o e) hn f λp a1 a2=>⟨_,rfl,?_⟩) (Sf _)));exact Ú ⟨_,rfl,h p a1 a2⟩
end
section
def BL{ts:fN}{p:fR}(hp:p.Perm (Ø ⇑ts))(h:∀i j,i<=j->j<⇑ts->aK (ts.getD (p.getD i 0) (0,0))<=aK (ts.getD (p.getD j 0) (0,0))) :
  (p.map λi=>ts.getD i (0,0)).Perm ts/\(p.map λi=>ts.getD i (0,0)).Pairwise (λa b=>aK a<=aK b):=by
 refine⟨?_,?_⟩
 ·have q:=hp.map λi=>ts.getD i (0,0);rw[eO]at q;exact q
 ·have hl:⇑p=⇑ts:=↑hp.length_eq
  rw[Ū];intro i j hi c f;rw[À]at hi c;have q:=h i j () ();have d:p.getD i 0=p[i]:=by simp[hi]
  have e:p.getD j 0=p[j]:=by simp[c]
  rw[d,e]at q;simpa using q
def qD:bU X (.builtin "sorted") (λxs H Q=>∃(p:Addr)(vs:List V)(ts:fN),xs=[.ref p]/\(SqL X.K H p vs\/SqT X.K H p vs)/\Prs H vs ts/\(∀t∈ts,o8 t)/\Srt ts /\
  ∀l ws us,H l=none->Prs H ws us->us.Perm ts->us.Pairwise (λa b=>aK a<=aK b)->Q (.ref l) (upd H l (.lst ws))):=by
 intro n s σ H xs us Q I r h;let⟨p,vs,ts,rfl,hp,d,hn,k,q⟩:=h;let⟨u,rfl,L⟩:=vals1 r;cases L;have E:=õ;have j:∀its:fT,Vals vs its->(s.heap.IsList p its.toArray\/IsTup s.heap p its.toArray)->wpAny (model X.prog X.w) X.A (WF (.builtin "sorted") [.ref p]) (EP X n σ Q) X.xe s:=λits f hl=>by
  have x:=I.pairs d f;have D:=⇑d;have v:=⇑f;have C:=k.lt;refine yE hl x hn k λpp hpp hord=>?_;have g:⇑its=⇑ts:=()
  rw[g]at hpp hord;let⟨c,y⟩:=BL hpp hord;have m:∀i∈pp,i<⇑ts:=λi hi=>ò.mp (hpp.mem_iff.mp hi);have G:=Cp d V.non (0,0) pp m;have z:Vals (pp.map λi=>vs.getD i V.non) (pp.map λi=>its.getD i Ĕ):=Cp f V.non Ĕ pp λi hi=>by have:=m i hi;lia
  let⟨e,he⟩:=sortedAll_at s.heap its (pp.map λi=>its.getD i Ĕ).toArray;refine⟨.ref (↥s+1),upd H (↥s+1) (.lst (pp.map λi=>vs.getD i V.non)),I.laid (t':=s.toks) (λb o eb=>Si eb) (ĸ _) ?_,rfl,q _ _ _ (I.hok.fresh (ĸ _)) G c y⟩;refine⟨?_,_,e,z,he⟩;have F:⇑pp=⇑ts:=↑hpp.length_eq
  rw[À];lia
 rcases hp with hp|hp
 ·let⟨its,f,B,J⟩:=I.list hp;exact j its f (.inl B.isList)
 ·let⟨its,f,B,J⟩:=I.tuple hp;exact j its f (.inr B)
def pD(t:Tie):Sj:=.tuple [.int t.1,.int t.2]
theorem OJ:∀ts:fN,ũ (ts.map pD)=true
 |[]=>rfl
 |t::ts=>by
  show(PyData.canLay0 (pD t)&&ũ (ts.map pD))=true;rw[OJ ts];rfl
theorem Ef:∀ts:fN,PyData.depthAll (ts.map pD)<=1
 |[]=>ą _
 |t::ts=>by
  show max (PyData.depth (pD t)) (PyData.depthAll (ts.map pD))<=1;have h1:=Ef ts;have h2:PyData.depth (pD t)=1:=rfl;lia
theorem PK:∀ts us:fN,PyData.eqvAll (ts.map pD) (us.map pD)=decide (ts=us)
 |[],[]=>rfl
 |[],_::_=>rfl
 |_::_,[]=>rfl
 |t::ts,u::us=>by
  show(ö (pD t) (pD u)&&PyData.eqvAll (ts.map pD) (us.map pD))=_;rw[PK ts us];have e:ö (pD t) (pD u)=decide (t=u):=by
   show((t.1==u.1)&&((t.2==u.2)&&true))=_;rw[Bool.and_true,ă];simp[Prod.ext_iff]
  rw[e,ă];simp
inductive DatV(K:Ý)(H:Hp):V->Sj->Prop
 |lst {a:Addr}{vs:List V}{ts:fN}:SqL K H a vs->Prs H vs ts->DatV K H (.ref a) (.list (ts.map pD))
 |tup {a:Addr}{vs:List V}{ts:fN}:SqT K H a vs->Prs H vs ts->DatV K H (.ref a) (.tuple (ts.map pD))
 |web {a b:Addr}{n:Int}{vs:List V}{ts:fN}:SqT K H a [.int n,.ref b]->SqT K H b vs->Prs H vs ts->DatV K H (.ref a) (.tuple [.int n,.tuple (ts.map pD)])
def Td(ts a:fN):ö (.list (ts.map pD)) (.list (a.map pD))=decide (ts=a):=PK ts a
end
end L2
namespace L2
open PySem.Spec HT
section
variable{prog:Zg}{w:Zl}{A:Ys}{E:fA}{s:Shared}
end
section
variable{X:Cx}{e:YE}{te:TE}{p1 p2 p3 pos:Pos}
end
end L2
namespace PySem
open _root_.PySem.Sem (wp)
open _root_.PySem.AutoSeq1 (wpAny_loadPart')
def lK(l:Addr)(items:fS)(n:Nat)(dct:gc)(f:Array gf) :
  Meets (Builtin.«enumerate.__new__» ⟨[.type "enumerate",.ref l],[]⟩) (λ_ R s=>s.heap.get? l=some { cls:=.type "tuple",dict:=dct,data:=.seq items n,slots:=f } /\
   R (.ok (.ret (.ref (s.heap.push { cls:=.type "tuple_iterator",data:=.fields #[.ref l,.int 0 0]}).objs.size)))
    { s with heap:=(s.heap.push { cls:=.type "tuple_iterator",data:=.fields #[.ref l,.int 0 0]}).push { cls:=.type "enumerate",data:=.fields #[.none,.bool false,.ref ↥s,WA 0,.none,.none]}}) :=
 .of_wp λprog w A R s h=>by
  let⟨hp,g,d,tk,e⟩:=s;let⟨hl,h⟩:=h;have b:=sub_enumerate;have a:Heap.IsTuple (Shared.heap ⟨hp,g,d,tk,e⟩) l items:=⟨_,hl,rfl,n,rfl⟩
  wp_walk using Ģ hl
  refine wpAny_stack_any λst=>Ú ?_;split
  ·rename_i c _ _ _ _ _;cases (c==Đ "enumerate")
   ·wp_walk using Ģ hl,UV a
    exact⟨_,rfl,h⟩
   ·wp_walk using Ģ hl,UV a
    exact⟨_,rfl,h⟩
  ·wp_walk using Ģ hl,UV a
   exact⟨_,rfl,h⟩
section
variable{prog:Zg}{w:Zl}{A:Ys}{E:fA}{s:Shared}
def mG{l:Addr}{items:fS}{Q:fA}(e:s.heap.IsTuple l items)(h:∀h',IsEnum h' (↥s+1) ↥s 0 .none->h'.IsTupleIter ↥s l 0->h'.objs.size=↥s+2 ->
   (∀b o,s.heap.get? b=some o->h'.get? b=some o)->Q (.ref (↥s+1)) { s with heap:=h' }) :
  wpAny (model prog w) A (WF (.type "enumerate") [.ref l]) Q E s:=by
 let⟨⟨c,dct,d,f⟩,hl,hc,n,hd⟩:=e;replace hc:c=.type "tuple":=hc;replace hd:d=.seq items n:=hd;subst hc hd;refine callType_new F.called_enumerate ∅ (F.typeCall_enumerate_1 _) (F.newCall_enumerate_1 _) (λobj=>F.args_object_init_2 obj _) F.entry_enumerate_new
  (lK l items n dct f) ⟨hl,?_⟩
 have a:(s.heap.push { cls:=.type "tuple_iterator",data:=.fields #[.ref l,.int 0 0]}).objs.size=↥s+1:=Ŝ ..;show _/\_;rw[a];have he:IsEnum ((s.heap.push { cls:=.type "tuple_iterator",data:=.fields #[.ref l,.int 0 0]}).push
   { cls:=.type "enumerate",data:=.fields #[.none,.bool false,.ref ↥s,WA 0,.none,.none]}) (↥s+1) ↥s 0 .none:=by
  have:=ä (s.heap.push { cls:=.type "tuple_iterator",data:=.fields #[.ref l,.int 0 0]})
   (o:={ cls:=.type "enumerate",data:=.fields #[.none,.bool false,.ref ↥s,WA 0,.none,.none]}) rfl
  rw[a]at this;exact this
 refine⟨⟨_,he,rfl⟩,h _ he ⟨_,Ô _ (ä _ rfl),rfl,rfl⟩ (by rw[Ŝ,a]) λb o x=>Ô _ (Ô _ x)⟩
def qd{it l:Addr}{i:Nat}{items}{x:Value}{Q:fA}(a:s.heap.IsTupleIter it l i)(hl:s.heap.IsTuple l items)(f:items[i]?=some x)(e:∀h',h'.IsTupleIter it l (i+1)->Heap.SameBut it s.heap h'->Q x { s with heap:=h' }) :
  wpAny (model prog w) A (Ħ (.ref it)) Q E s:=by
 let⟨o,b,hc,hd⟩:=id a;let⟨h,d,_,g,c⟩:=hl;unfold Ħ;refine Ã (ŋ (name:=ë "__next__") a.typeIs Ť
  (Ļ Ť a.typeIs PyProof.Rows.entry_tupleiter_next ?_ (PyProof.Rows.args_tupleiter_next _)))
 show wpAny _ _ (Sk (.ref it) 0 >>=_) _ _ s;refine Ã (ų b hd (x:=.ref l) rfl ?_);show wpAny _ _ (if(ģ l==Ĕ)=true then _ else _) _ _ s;rw[fq (show ¬((ģ l==Ĕ)=true)from Ù)];show wpAny _ _ (Sk (.ref it) 1 >>=_) _ _ s;refine Ã (ų b hd (x:=.int i 0) rfl ?_);show wpAny _ _ (Sm (.ref l) >>=_) _ _ s;refine Ã (ź d c ?_);simp only[ê,f];refine Ã (Sn b hd (by simp) (Ú ⟨x,rfl,Ú (e _ ?_ (Heap.SameBut.update ..))⟩));exact⟨_,ŧ _ b (Obj.isFreed_of_fields (Obj.data_mapFields hd _)),(Obj.cls_mapFields ..).trans hc,by
  rw[Obj.data_mapFields hd];simp[WA]⟩
def jx{it l:Addr}{i:Nat}{items}{Q:fA}(hh:A.handled=none)(b:s.heap.IsTupleIter it l i)(hl:s.heap.IsTuple l items)(h:items[i]?=none)(g:∀h' e,Heap.ExtBut it s.heap h'->(∃o,h'.get? e=some o/\o.cls=.type "StopIteration")->E (.ref e) { s with heap:=h' }) :
  wpAny (model prog w) A (Ħ (.ref it)) Q E s:=by
 let⟨o,d,hc,hd⟩:=id b;let⟨k,f,_,j,c⟩:=hl;unfold Ħ;refine Ã (ŋ (name:=ë "__next__") b.typeIs Ť
  (Ļ Ť b.typeIs PyProof.Rows.entry_tupleiter_next ?_ (PyProof.Rows.args_tupleiter_next _)))
 show wpAny _ _ (Sk (.ref it) 0 >>=_) _ _ s;refine Ã (ų d hd (x:=.ref l) rfl ?_);show wpAny _ _ (if(ģ l==Ĕ)=true then _ else _) _ _ s;rw[fq (show ¬((ģ l==Ĕ)=true)from Ù)];show wpAny _ _ (Sk (.ref it) 1 >>=_) _ _ s;refine Ã (ų d hd (x:=.int i 0) rfl ?_);show wpAny _ _ (Sm (.ref l) >>=_) _ _ s;refine Ã (ź f c ?_);simp only[ê,h];refine Ã (wpAny_rule (Ã (Sn d hd (by simp) ?_)));show wpAny _ _ (newExc (.type "StopIteration") [] >>=_) _ _ _;refine Ã ?_;simp only[newExc,newTuple];refine Ã (š ?_ (by size_fits));refine Ã (m:=So _ _) (wpAny_of_eq (a:=Ĕ) (by first|rfl|(simp only[So];rfl)) ?_);refine š ?_ (by size_fits);simp only[raiseNew];refine Ã (wpAny_handled ?_)
 first|rw[show A.in1.handled=none from hh]|rw[hh]
 refine Ã (Ú (wpAny_throw ?_));exact g _ _ (((Heap.SameBut.update ..).extBut.push _).push _) ⟨_,ä _ rfl,rfl⟩
end
def Draws.tuple{prog:Zg}{w:Zl}{A:Ys}(hh:A.handled=none)(it l:Addr)(hne:l≠it)(items:fS) :
  Draws prog w A it [it,l] items.size (λi v=>items[i]?=some v) (λi h=>h.IsTupleIter it l i/\h.IsTuple l items) where
 live:=λ_ _ st=>let⟨o,ho,_⟩:=st.1;⟨o,ho⟩
 frame:=λ_ _ _ st hk=>⟨let⟨o,ho,r⟩:=st.1;⟨o,hk it (by simp) o ho,r⟩,let⟨o,ho,r⟩:=st.2;⟨o,hk l (by simp) o ho,r⟩⟩
 item:=λi s Q E hi st hQ=>by
  refine qd st.1 st.2 (x:=items[i]) (by simp[hi]) λh' hit' hs'=>?_;exact hQ _ h' s.toks (by simp[hi]) ⟨hit',st.2.extBut hs'.extBut hne⟩ hs'
 done:=λs Q E st hE=>jx hh st.1 st.2 (by simp) hE
end PySem
namespace L2
open PySem.Spec
variable{X:Cx}
def Ite(K:Ý)(a:Addr):It :=
 ⟨λi H=>∃xs x,SqT K H a xs/\xs[i]?=some x,λi H x H'=>∃t v,x=.ref t/\H t=none/\H'=upd H t (.tup [.int i,v])/\∀xs,SqT K H a xs->xs[i]?=some v,λi H=>∃xs,SqT K H a xs/\⇑xs<=i⟩
def Jo{P:Zg}{w:Zl}{K:Ý}{elts:List YE}{kk:Nat}{pos:Pos}(a e it:Addr)(hei:e≠it) :
  Turn P w K (.Tuple elts kk pos) (Ite K a) [e,it] e (λi h=>(∃old,IsEnum h e it i old)/\h.IsTupleIter it a i) where
 mem:=by simp
 obj:=λi h st b hb=>by
  let⟨⟨old,he⟩,o,ho,hc,hd⟩:=st;rcases Õ.mp hb with rfl|hb
  ·exact⟨_,he,λv z=>nomatch z⟩
  ·have e1:b=it:=↑hb
   subst e1;exact⟨o,ho,λv z=>by rw[hd]at z;cases z⟩
 keep:=λi h h' st k=>by
  let⟨⟨old,he⟩,o,ho,r⟩:=st;exact⟨⟨old,k e (by simp) _ he⟩,o,k it (by simp) _ ho,r⟩
 item:=by
  intro X hP hw hK hc i pins s σ H E I hf st hg;subst hP hw hK;let⟨xs,x,hq,hx⟩:=hg;let⟨its,rv,p,hz⟩:=I.tuple hq;let⟨u,hu,ru⟩:=rv.get hx;let⟨⟨old,he⟩,hit⟩:=st;have hai:a≠it:=λz=>by
   let⟨o,ho,hc1,_⟩:=p;let⟨o',ho',hc2,_⟩:=hit;rw[z,ho']at ho;cases ho;rw[hc2]at hc1;injection hc1 with z2;exact ft z2 ∅
  have hae:e≠a:=λz=>by
   let⟨o,ho,hc1,_⟩:=p;have he':s.heap.get? e=some _:=he;rw[z,ho]at he';cases he';have z1:Đ "enumerate"=Đ "tuple":=hc1;injection z1 with z2;exact ft z2 ∅
  have hlt:i<its.toArray.size:=by have:=(È.mp hu).1;simpa using this
  let⟨e0,e1,e2,e3,e4,e5⟩:=hf e (by simp);let⟨f0,f1,f2,f3,f4,f5⟩:=hf it (by simp);have D:=Draws.tuple (prog:=X.prog) (w:=X.w) (A:=X.A.in1) (I.ok.hd hc) it a hai its.toArray;refine Su D he ⟨hit,show s.heap.IsTuple a its.toArray from p⟩ hlt hei (by simp[hei,hae]) λx' h' tk hP ho hs' hT hsz hk=>⟨_,rfl,?_⟩
  have ex:x'=u:=by
   have hP':its[i]?=some x':=↑hP
   rw[hu]at hP';exact(ß hP').symm
  subst ex;refine Sz ho λh2 he2 hs2=>?_;have hTn:H ↥s=none:=I.hok.fresh (Ì _);have keep2:∀b o,b≠e->b≠it->s.heap.get? b=some o->h2.get? b=some o:=λb o hb1 hb2 q=>(hs2.2 b hb1).trans (hk b o hb1 hb2 q);have hTe:↥s≠e:=ś (Ó he);have hTup:h2.get? ↥s=some { cls:=.type "tuple",data:=.seq #[.int i tk,x']}:=(hs2.2 _ hTe).trans hT;have J:Inv X pins σ (upd H ↥s (.tup [.int i,x])) { s with heap:=h2,toks:=tk+1 }:=by
   refine I.step (g':=s.gens) (d':=s.drawn) (t':=tk+1) (ch:=[e,it]) (λb hb=>?_) (λb o _ _ hcb q _=>keep2 b o (λz=>hcb (by simp[z])) (λz=>hcb (by simp[z])) q)
    (λb o _ _ hcb q _=>⟨o.slots,keep2 b o (λz=>hcb (by simp[z])) (λz=>hcb (by simp[z])) q⟩) (λb o _ q n=>by rw[ao (å (Ó q))];exact n)
    (λb o hcb q=>⟨o,keep2 b o (λz=>hcb (by simp[z])) (λz=>hcb (by simp[z])) q⟩) (λb ys q=>by rw[ao (aA q hTn)];exact q) (λb o y q=>by rw[ao (aA q hTn)];exact q)
    (λb ps q=>⟨#[],by rw[ao (aA q hTn),q];simp⟩) (λm hm=>?_) ?_ I.bare
   ·rcases Õ.mp hb with rfl|hb
    ·exact⟨e3,e1,e4,e5⟩
    ·have z:b=it:=↑hb
     subst z;exact⟨f3,f1,f4,f5⟩
   ·let⟨o,es,ep,ho',r⟩:=hm;exact⟨o,es,ep,keep2 _ o (ĝ e1) (ĝ f1) ho',r⟩
   ·intro b u' q;have nT:∀{c y},H c=some y->c≠e/\c≠it:=λ{c y} z=>⟨λv=>(by rw[v,e0]at z;exact nomatch z),λv=>(by rw[v,f0]at z;exact nomatch z)⟩
    by_cases hb:b=↥s
    ·subst hb;rw[aq]at q;cases q;exact⟨(by show 2<=sizeLine;decide),[.int i tk,x'],.cons ⟨_,rfl⟩ (.cons ru .nil),_,hTup,rfl,_,rfl⟩
    ·rw[ao hb]at q;refine(I.hok b u' q).stay (λc v hcv y=>keep2 c v ?_ ?_ y) (λc y=>by rw[ao (aA y hTn)];exact y) λc ys y=>by rw[ao (aA y hTn)];exact y
     ·rcases hcv with rfl|z
      ·exact(nT q).1
      ·exact(nT z).1
     ·rcases hcv with rfl|z
      ·exact(nT q).2
      ·exact(nT z).2
  refine⟨.ref ↥s,_,J,rfl,⟨_,x,rfl,hTn,rfl,λys hy=>by rw[I.wU hy hq];exact hx⟩,⟨⟨x',?_⟩,?_⟩,λb hb=>?_⟩
  ·have he3:IsEnum h2 e it ((i:Int)+1) x':=↑he2
   have ec:(~~~(i+1))=(i:Int)+1:=()
   rw[ec];exact he3
  ·let⟨o,ho2,r⟩:=hs'.1;exact⟨o,(hs2.2 it (ĝ hei)).trans ho2,r⟩
  ·rw[ao]
   ·exact(hf b hb).1
   ·rcases Õ.mp hb with rfl|hb
    ·exact ĝ hTe
    ·have z:b=it:=↑hb
     subst z;let⟨o,ho2,_⟩:=hit;exact å (Ó ho2)
 done:=by
  intro X hP hw hK hc i pins s σ H E I hf st hg;subst hP hw hK;let⟨xs,hq,hx⟩:=hg;let⟨its,rv,p,hz⟩:=I.tuple hq;let⟨⟨old,he⟩,hit⟩:=st;let⟨f0,f1,f2,f3,f4,f5⟩:=hf it (by simp);have hl:=⇑rv;have hT:s.TypeIs (.ref e) "enumerate":=⟨_,he,rfl⟩
  unfold Wl;refine Ã (SA (ŋ (name:=ë "__next__") hT Ł
   (Ļ Ł hT PySem.F.entry_enumerate_next ?_ (PySem.F.args_enumerate_next_1 _))))
  show wpAny _ _ (Sk (.ref e) 2 >>=_) _ _ _;refine Ã (ų he rfl (x:=.ref it) rfl ?_);refine Ã (jx (I.ok.hd hc) hit (show s.heap.IsTuple a its.toArray from p) (by simp;lia) λh' x he' hx'=>?_);let⟨o,ho,hc'⟩:=hx';refine Ã (SB (T:="StopIteration") (b:=true) ⟨o,ho,hc'⟩ SC ?_);exact Ú ⟨rfl,I.turned (t':=s.toks) (λb o hb e=>he' b o hb e) f0 f1 f3 f4 f5⟩
 self:=λA i s Q E st h=>by
  let⟨⟨old,he⟩,_⟩:=st;have hT:s.TypeIs (.ref e) "enumerate":=⟨_,he,rfl⟩
  refine SD hT Ž (Ļ Ž hT PySem.F.entry_enumerate_iter ?_ (PySem.F.args_enumerate_iter_1 _));show wpAny _ _ (ret (.ref e)) _ _ s;exact Ú ⟨_,rfl,"enumerate",_,hT,Ł.lookup,h⟩
def boot_enumerate:Z3 "enumerate"=some (.type "enumerate"):=⋯
def Zo(K:Ý)(b:TA):TI:=λσ H R=>b σ H λvs H1=>∃a,vs=[.ref a]/\(∃xs,SqT K H1 a xs)/\R (Ite K a) H1
def Ro{X:Cx}{d:List YE}{kk:Nat}{g:Pos}{a:YE}{j:TA}{p pos:Pos}(hg:Gl X "enumerate")(hm:X.mg "enumerate"=none)(ha:PA X [a] j)(hs:YI [a] X.env=[(false,YN a X.env)]:=by rfl):PI X (.Tuple d kk g) (.Call (.Name "enumerate" p) [a] [] pos) (Zo X.K j):=by
 intro f s σ H R I h;refine Call_ (jf I hg hm boot_enumerate (ĳ (thn (ha pos f s σ H _ I h) λus s1 ⟨vs,H1,I1,r1,q1⟩=>?_) hs rfl));let⟨b,e,⟨xs,l⟩,q⟩:=q1;subst e;let⟨u,rfl,n⟩:=vals1 r1;cases n;let⟨its,r,m,o⟩:=I1.tuple l;refine mG (show s1.heap.IsTuple b its.toArray from m) λh' he hit hsz hk=>?_;have k:Inv X f σ H1 { s1 with heap:=h' }:=I1.kept (t':=s1.toks) hk;have T:Turn X.prog X.w X.K (.Tuple d kk g) (Ite X.K b) [↥s1+1,↥s1] (↥s1+1) (λi h=>(∃old,IsEnum h (↥s1+1) ↥s1 i old)/\h.IsTupleIter ↥s1 b i):=Jo b _ _ (ś (ň _));refine T.self _ 0 _ _ _ ⟨⟨_,he⟩,hit⟩ ⟨_,_,_,_,H1,rfl,k,T,⟨⟨_,he⟩,hit⟩,λc hc=>?_,q⟩;rcases Õ.mp hc with rfl|hc
 ·exact I1.Gv (ĸ _) (I1.hok.fresh (ĸ _))
 ·have z:c=↥s1:=↑hc
  subst z;exact I1.Gv (Ì _) (I1.hok.fresh (Ì _))
section
variable{κ:Type} [DecidableEq κ]
def j4(a:List (κ×V))(k:κ):Option V:=(a.find? λkv=>decide (kv.1=k)).map (·.2)
def putK(a:List (κ×V))(k:κ)(v:V):List (κ×V) :=
 if(a.any λkv=>decide (kv.1=k))=true then a.map (λkv=>if kv.1=k then(kv.1,v)else kv)else a++[(k,v)]
def o9{p:κ×V}{r:List (κ×V)}{k:κ}(e:p.1=k):j4 (p::r) k=some p.2:=by simp[j4,Œ,e]
def uh{p:κ×V}{r:List (κ×V)}{k:κ}(e:¬p.1=k):j4 (p::r) k=j4 r k:=by simp[j4,Œ,e]
theorem Bv(k:κ):∀kvs:List (κ×V),(kvs.any λkv=>decide (kv.1=k))=(j4 kvs k).isSome
 |[]=>rfl
 |p::r=>by
  rw[List.any_cons];by_cases e:p.1=k
  ·simp only[o9 e,gz e,Bool.true_or,Option.isSome_some]
  ·rw[uh e,fi e,Bool.false_or];exact Bv k r
def lN(a:List (κ×V))(k:κ)(v:V):⇑(putK a k v)<=⇑a+1:=by
 unfold putK;split
 ·rw[À];lia
 ·rw[É,à,List.length_nil];lia
def wz.jB{o:Option V}{u:gf}(r:wz o u):o.isSome=u.isSome:=by
 cases o with
 |none=>cases u with
  |none=>rfl
  |some _=>exact(show False from r).elim
 |some _=>cases u with
  |none=>exact(show False from r).elim
  |some _=>rfl
def KV.val{a:List (κ×V)}{vs:List (κ×Value)}(r:KV a vs)(k:κ):wz (j4 a k) (SE vs k):=by
 unfold KV at r;induction r with
 |nil=>exact Ź
 |@cons p q ps qs h t ih =>
  let⟨h1,h2⟩:=h;by_cases e:p.1=k
  ·have c:q.1=k:=h1.symm.trans e;have b:SE (q::qs) k=some q.2:=by simp[SE,Œ,c]
   rw[o9 e,b];exact h2
  ·have c:¬q.1=k:=λz=>e (h1.trans z);have b:SE (q::qs) k=SE qs k:=by simp[SE,Œ,c]
   rw[uh e,b];exact ih
def KV.any{a:List (κ×V)}{vs:List (κ×Value)}(r:KV a vs)(k:κ):(a.any λkv=>decide (kv.1=k))=vs.any λkv=>decide (kv.1=k):=by
 unfold KV at r;induction r with
 |nil=>rfl
 |cons h t b=>rw[List.any_cons,List.any_cons,b,h.1]
def KV.repl{a:List (κ×V)}{vs:List (κ×Value)}(r:KV a vs)(k:κ){y:V}{u:Value}(b:RelV y u) :
  KV (a.map λkv=>if kv.1=k then(kv.1,y)else kv) (vs.map λkv=>if kv.1=k then(kv.1,u)else kv):=by
 unfold KV at r ⊢;induction r with
 |nil=>exact .nil
 |@cons p q ps qs h t ih =>
  rw[é,é];refine .cons ?_ ih;let⟨h1,h2⟩:=h;by_cases e:p.1=k
  ·rw[fo e,fo (h1.symm.trans e)];exact⟨h1,b⟩
  ·rw[fq e,fq (λz=>e (h1.trans z))];exact⟨h1,h2⟩
def KV.put{a:List (κ×V)}{vs:List (κ×Value)}(r:KV a vs)(k:κ){y:V}{u:Value}(b:RelV y u):KV (putK a k y) (stored vs k u):=by
 unfold putK stored;rw[r.any k];by_cases e:(vs.any λkv=>decide (kv.1=k))=true
 ·rw[fo e,fo e];exact r.repl k b
 ·rw[fq e,fq e];exact Paired.snoc r ⟨rfl,b⟩
def KV.length{a:List (κ×V)}{vs:List (κ×Value)}(r:KV a vs):⇑a=⇑vs:=Paired.length r
end
def xP{P:Zg}{w:Zl}{k:Key}{u:Value}(r:RelV (kV k) u):(cj P w).is k u=true:=by
 cases k with
 |inl i=>let⟨t,e⟩:=(show ∃t,u=Ń i t from r);subst e;exact Dg P w i t
 |inr x=>let⟨t,e⟩:=(show ∃t,u=Value.str x t from r);subst e;exact Df P w x t
theorem xQ{P:Zg}{w:Zl}:∀{ks:List Key}{a:fT},Vals (ks.map kV) a->ItemsAre (cj P w) ks a
 |[],_,r=>by rw[List.map_nil]at r;cases r;exact .nil
 |k::ks,_,r=>by
  rw[é]at r;cases r with
  |cons h t=>exact .cons (xP h) (xQ t)
abbrev KT(H:Hp):List (List Key×V)->List (List Key×Addr×Value)->Prop:=Paired λp q=>p.1=q.1/\H q.2.1=some (.tup (p.1.map kV))/\RelV p.2 q.2.2
def KT.val{H:Hp}{a:List (List Key×V)}{xs:List (List Key×Addr×Value)}(r:KT H a xs)(k:List Key):wz (j4 a k) ((SF xs k).map (·.2)):=by
 induction r with
 |nil=>exact Ź
 |@cons p q ps qs h t ih =>
  let⟨h1,_,h2⟩:=h;by_cases e:p.1=k
  ·have c:q.1=k:=h1.symm.trans e;have b:SF (q::qs) k=some q.2:=by simp[SF,Œ,c]
   rw[o9 e,b];exact h2
  ·have c:¬q.1=k:=λz=>e (h1.trans z);have b:SF (q::qs) k=SF qs k:=by simp[SF,Œ,c]
   rw[uh e,b];exact ih
def KT.repl{H:Hp}{a:List (List Key×V)}{xs:List (List Key×Addr×Value)}(r:KT H a xs)(k:List Key){y:V}{u:Value}(c:RelV y u) :
  KT H (a.map λkv=>if kv.1=k then(kv.1,y)else kv) (xs.map (putAt k u)):=by
 induction r with
 |nil=>exact .nil
 |@cons p q ps qs h t ih =>
  rw[é,é];refine .cons ?_ ih;let⟨h1,h2,b⟩:=h;unfold putAt;by_cases e:p.1=k
  ·rw[fo e,fo (h1.symm.trans e)];exact⟨h1,h2,c⟩
  ·rw[fq e,fq (λz=>e (h1.trans z))];exact⟨h1,h2,b⟩
def KT.put{H:Hp}{a:List (List Key×V)}{xs:List (List Key×Addr×Value)}(r:KT H a xs)(k:List Key){b:Addr}{y:V}{u:Value}(hb:H b=some (.tup (k.map kV)))(c:RelV y u) :
  KT H (putK a k y) (storedH xs k b u):=by
 have e:(a.any λkv=>decide (kv.1=k))=(SF xs k).isSome:=by
  rw[Bv,(r.val k).jB,Option.isSome_map]
 unfold putK storedH;rw[e];by_cases q:(SF xs k).isSome=true
 ·rw[fo q,fo q];exact r.repl k c
 ·rw[fq q,fq q];exact Paired.snoc r ⟨rfl,hb,c⟩
def KT.keeps{H c:Hp}{a:List (List Key×V)}{xs:List (List Key×Addr×Value)}(r:KT H a xs)(ht:∀b ys,H b=some (.tup ys)->c b=some (.tup ys)):KT c a xs :=
 Paired.Gh r λ_ _ z=>⟨z.1,ht _ _ z.2.1,z.2.2⟩
section
variable{P:Zg}{w:Zl}{H:Hp}{h:Heap}{a:Addr}
def T3{u:HO}(ok:HOk P w H h)(e:Rd H a u):bA P w H h a u:=e.ok ok
def Eb{b:List (Key×V)}(ok:HOk P w H h)(e:Rd H a (.dK b)):⇑b<=sizeLine/\(a==ZU)=false/\∃vs,KV b vs/\h.DictOf (cj P w) a vs :=
 show bA P w H h a (.dK b)from T3 ok e
def UJ{b:List (Key×V)}(ok:HOk P w H h)(e:H a=some (.dK b)):⇑b<=sizeLine/\(a==ZU)=false/\∃vs,KV b vs/\h.DictOf (cj P w) a vs:=Eb ok (.inl e)
def vI{ks:List Key}(ok:HOk P w H h)(e:H a=some (.tup (ks.map kV))):(ZY (cj P w)).is h ks a:=by
 let⟨_,its,r,o,h1,h2,n,b⟩:=(show bA P w H h a (.tup (ks.map kV))from ok a _ e)
 exact⟨o,its.toArray,n,h1,h2,b,↑(xQ r)⟩
def Ea{b:List (List Key×V)}(ok:HOk P w H h)(e:Rd H a (.dT b)):⇑b<=sizeLine/\(a==ZU)=false /\
  ∃xs,KT H b xs/\h.DictOfH (ZY (cj P w)) a xs:=by
 let⟨z,y,xs,r,o,es,f,h1,h2,g,i,j⟩:=(show bA P w H h a (.dT b)from T3 ok e)
 refine⟨z,y,xs,r,o,es,f,h1,h2,g,i,λx c=>?_,j⟩;have d:∀{l:List (List Key×V)}{m:List (List Key×Addr×Value)},KT H l m->∀x∈m,(ZY (cj P w)).is h x.1 x.2.1:=by
  intro l m q;induction q with
  |nil=>intro x c;exact nomatch c
  |@cons p q ps qs hq t ih =>
   intro x c;rcases Õ.mp c with e|c
   ·subst e;exact vI ok (by rw[←hq.1];exact hq.2.1)
   ·exact ih x c
 exact d r x c
def Z6{b:List (List Key×V)}(ok:HOk P w H h)(e:H a=some (.dT b)):⇑b<=sizeLine/\(a==ZU)=false /\
  ∃xs,KT H b xs/\h.DictOfH (ZY (cj P w)) a xs:=Ea ok (.inl e)
end
def sV(H:Hp)(a:Addr)(y:V)(r:Option V):Prop :=
 (∃kvs k,Rd H a (.dK kvs)/\y=kV k/\r=j4 kvs k)\/∃kvs k b,Rd H a (.dT kvs)/\y=.ref b/\H b=some (.tup (k.map kV))/\r=j4 kvs k
def QD(H:Hp)(a:Addr)(y v:V)(c:Hp):Prop :=
 (∃kvs k,H a=some (.dK kvs)/\y=kV k/\⇑kvs<sizeLine/\c=upd H a (.dK (putK kvs k v)))∨
 ∃kvs k b,H a=some (.dT kvs)/\y=.ref b/\H b=some (.tup (k.map kV))/\⇑kvs<sizeLine/\c=upd H a (.dT (putK kvs k v))
def sV.k{H:Hp}{a:Addr}{b:List (Key×V)}{k:Key}(e:H a=some (.dK b)):sV H a (kV k) (j4 b k):=.inl ⟨b,k,.inl e,rfl,rfl⟩
def QD.k{H:Hp}{a:Addr}{b:List (Key×V)}{k:Key}{v:V}(e:H a=some (.dK b))(hl:⇑b<sizeLine):QD H a (kV k) v (upd H a (.dK (putK b k v))):=.inl ⟨b,k,e,rfl,hl,rfl⟩
section
variable{pins:fF}{σ:St}{H:Hp}{s:Shared}{a:Addr}{y v:V}{u r:Value}{o:Option V}{A:Ys}{E:fA}
def Inv.big(I:Inv X pins σ H s):ZU<↥s:=by
 have h:mainGlobals<↥s:=(I.mod.glob.keeps I.bk).lt;exact Nat.lt_trans ∅ h
def Kg{Q:fA}(hu:A.units+1<WN)(I:Inv X pins σ H s)(g:sV H a y (some v))(q:RelV y u)(h:∀w' s',Inv X pins σ H s'->RelV v w'->Q w' s') :
  wpAny (model X.prog X.w) A (VU (.ref a) u) Q E s:=by
 rcases g with⟨n,k,e,i,l⟩|⟨n,k,b,e,i,t,l⟩
 ·subst i;let⟨z,hd,vs,c,f⟩:=Eb I.hok e;let⟨w',m,d⟩:=wz.some_of (v:=v) (o:=SE vs k) (by rw[l];exact c.val k);exact wpAny_getItem_of (xP q) f.mapOf m (h w' _ (I.tok _) d)
 ·subst i;cases (show u=ģ b from q);let⟨z,hd,xs,c,f⟩:=Ea I.hok e;let⟨w',m,d⟩:=wz.some_of (v:=v) (o:=(SF xs k).map (·.2)) (by rw[l];exact c.val k);let⟨p,hp,j⟩:=Option.map_eq_some_iff.mp m;refine wpAny_getItem_heap (SG hu) (vI I.hok t) f hp ?_;rw[j];exact h w' _ (I.tok _) d
def aa2{Q:fA}(hu:A.units+1<WN)(I:Inv X pins σ H s)(g:sV H a y o)(j:RelV y u)(h:∀s',Inv X pins σ H s'->Q (.bool o.isSome) s') :
  wpAny (model X.prog X.w) A (XI .In u (.ref a)) Q E s:=by
 rcases g with⟨i,k,e,f,l⟩|⟨i,k,b,e,f,m,l⟩
 ·subst f;let⟨z,hd,vs,c,d⟩:=Eb I.hok e;refine wpAny_in_of (xP j) hd d.mapOf ?_;rw[←(c.val k).jB,←l];exact h _ (I.tok _)
 ·subst f;cases (show u=ģ b from j);let⟨z,hd,xs,c,d⟩:=Ea I.hok e;refine wpAny_in_heap (SG hu) (vI I.hok m) hd d ?_;have q:=(c.val k).jB;rw[Option.isSome_map]at q;rw[←q,←l];exact h _ (I.tok _)
def Tg{Q:fA}(hu:A.units+1<WN)(I:Inv X pins σ H s)(g:sV H a y o)(j:RelV y u)(h:∀s',Inv X pins σ H s'->Q (.bool (!o.isSome)) s') :
  wpAny (model X.prog X.w) A (XI .NotIn u (.ref a)) Q E s:=by
 rcases g with⟨i,k,e,f,l⟩|⟨i,k,b,e,f,m,l⟩
 ·subst f;let⟨z,hd,vs,c,d⟩:=Eb I.hok e;refine wpAny_notIn_of (xP j) hd d.mapOf ?_;rw[←(c.val k).jB,←l];exact h _ (I.tok _)
 ·subst f;cases (show u=ģ b from j);let⟨z,hd,xs,c,d⟩:=Ea I.hok e;refine wpAny_notIn_heap (SG hu) (vI I.hok m) hd d ?_;have q:=(c.val k).jB;rw[Option.isSome_map]at q;rw[←q,←l];exact h _ (I.tok _)
def Ba{h':Heap}{t':Nat}{c:HO}(I:Inv X pins σ H s)(d:Mut (H a))(hs:Heap.SameBut a s.heap h')(he:∃q,h'.get? a=some q)(new:bA X.prog X.w (upd H a c) h' a c) :
  Inv X pins σ (upd H a c) { s with heap:=h',toks:=t' } :=
 I.write (x:=a) (e:=a) d (.inl rfl) (λb q hb z=>(hs.2 b hb).trans z) he new
def Qc{P:Zg}{w:Zl}{d:Hp}{h':Heap}{b:List (Key×V)}{vs:List (Key×Value)}(z:⇑b<=sizeLine)(hd:(a==ZU)=false)(c:KV b vs)(e:h'.DictOf (cj P w) a vs) :
  bA P w d h' a (.dK b):=⟨z,hd,vs,c,e⟩
def Kf{t:Hp}{Q:Unit->Shared->Prop}(hu:A.units+1<WN)(I:Inv X pins σ H s)(g:QD H a y v t)(C:RelV y u)(B:RelV v r)(h:∀s',Inv X pins σ t s'->Q .unit s') :
  wpAny (model X.prog X.w) A (setItem (.ref a) u r) Q E s:=by
 rcases g with⟨d,k,e,n,l,m⟩|⟨d,k,b,e,n,x,l,m⟩
 ·subst n m;let⟨z,hd,vs,f,j⟩:=UJ I.hok e;have p:⇑vs<=sizeLine:=by rw[←⇑f];exact z
  have hl:⇑(putK d k v)<=sizeLine:=by have:=lN d k v;lia
  refine wpAny_setItem_pairs (hsz:=p) (xP C) j λh' dd' hs=>h _ ?_;have he:∃q,h'.get? a=some q:=let⟨q,_,_,i,_⟩:=dd';⟨q,i⟩
  exact Ba I (by rw[e];exact Ź) hs he (Qc hl hd (f.put k B) dd')
 ·subst n m;cases (show u=ģ b from C);let⟨z,hd,xs,f,j⟩:=Z6 I.hok e;have p:⇑xs<=sizeLine:=by rw[←Paired.length f];exact z
  have hl:⇑(putK d k v)<=sizeLine:=by have:=lN d k v;lia
  refine wpAny_setItem_heap (hsz:=p) (SG hu) (vI I.hok x) j λh' dd' hs=>h _ ?_;let⟨q,es,D,i,h2,F,G,_,J⟩:=dd';refine Ba I (by rw[e];exact Ź) hs ⟨q,i⟩ ⟨hl,hd,_,(f.put k x B).keeps λc ys ec=>?_,q,es,D,i,h2,F,G,J⟩;rw[ao (Za ec e (λz=>nomatch z))];exact ec
end
section
variable{pins:fF}{σ:St}{H:Hp}{s:Shared}{a:Addr}{kvs:List (Key×V)}{k:Key}{u:Value}{A:Ys}{E:fA}
end
def Tv(i:YE):Prop:=∀ov iv,UD i false ov iv=operate [ov,iv] (VU ov iv)
def QV{prog:Zg}{w:Zl}{A:Ys}{E:fA}{s:Shared}{env:Env}{b a:YE}{pos:Pos}{T id:String}{Q:fA}(hl:VY (.type T) "__getitem__"=pure (some (.builtin id)))(hs:Tv a)(h:wpAny (model prog w) A (YN b env) (λo s₁=>wpAny (model prog w) A (YN a env) (λi s₂=>s₂.TypeIs o T/\wpAny (model prog w) A (VU o i) Q E s₂) E s₁) E s) :
  wpAny (model prog w) A (YN (.Subscript b a pos) env) Q E s:=by
 refine VZ (Ŀ h (λo s₁ h₁=>Ŀ h₁ (λi s₂ c=>?_) λ_ _ x=>x) λ_ _ x=>x);let⟨e,c⟩:=c;unfold Uf;refine Ã ?_;rw[getitemInPython_of_ne e.not_modules];refine Ã (SH e hl ?_);have d:wpAny (model prog w) A (UD a false o i) (λr s₃=>wpAny (model prog w) A (letTemporaryGo b o r >>=λ_=>pure r) Q E s₃) E s₂:=by
  rw[hs o i];exact wpAny_operating (Ŀ c (λr s₃ h₃=>Ã (wpAny_letTemporaryGo (Ú h₃))) λ_ _ x=>x)
 first
  |exact Ú (Ã d)
  |exact Ã (Ú (Ã d))
  |exact Ã d
def Ed{X:Cx}{c:fF}{σ:St}{H:Hp}{s:Shared}{a:Addr}{y:V}{o:Option V}(I:Inv X c σ H s)(g:sV H a y o):s.TypeIs (.ref a) "dict":=by
 rcases g with⟨f,k,e,_,_⟩|⟨f,k,b,e,_,_,_⟩
 ·let⟨_,_,vs,_,d⟩:=Eb I.hok e;exact d.typeIs
 ·let⟨_,_,xs,_,d⟩:=Ea I.hok e;exact d.typeIs
def Yg(b ty:TE):TE:=λσ H Q=>b σ H λx H1=>ty σ H1 λy H2=>∃a v,x=.ref a/\sV H2 a y (some v)/\Q v H2
def Ye(ty b:TE):TE:=λσ H Q=>ty σ H λy H1=>b σ H1 λx H2=>∃a o,x=.ref a/\sV H2 a y o/\Q (.bl o.isSome) H2
def Hh(ty b:TE):TE:=λσ H Q=>ty σ H λy H1=>b σ H1 λx H2=>∃a o,x=.ref a/\sV H2 a y o/\Q (.bl (!o.isSome)) H2
def TY(b ty c:TE):TS:=λD σ H=>c σ H λv H1=>b σ H1 λx H2=>ty σ H2 λy H3=>∃a H4,x=.ref a/\QD H3 a y v H4/\D.nx σ H4
section
variable{o i e value:YE}{pos pos' tpos:Pos}{td ty tv:TE}
def Ru(hu:X.A.units+1<WN)(c:PE X o td)(hi:PE X i ty)(hs:Tv i):PE X (.Subscript o i pos) (Yg td ty):=by
 intro b s σ H Q I h;refine QV PySem.F.slot_dict_getitem.lookup hs (thn (c b s σ H _ I h) λu s1 ⟨x,H1,I1,rx,q1⟩=>thn (hi b s1 σ H1 _ I1 q1) λiv s2 ⟨y,H2,I2,ry,a,v,ex,g,q2⟩=>?_);subst ex;obtain rfl:u=ģ a:=rx;exact⟨Ed I2 g,Kg hu I2 g ry λw' s3 I3 rw'=>⟨v,H2,I3,rw',q2⟩⟩
def V3(hu:X.A.units+1<WN)(hi:PE X i ty)(c:PE X o td):PC X .In i o (Ye ty td):=by
 intro b s σ H Q I h;refine thn (hi b s σ H _ I h) λiv s1 ⟨y,H1,I1,ry,q1⟩=>thn (c b s1 σ H1 _ I1 q1) λu s2 ⟨x,H2,I2,rx,a,ov,ex,g,q2⟩=>?_;subst ex;obtain rfl:u=ģ a:=rx;exact aa2 hu I2 g ry λs3 I3=>⟨.bl ov.isSome,H2,I3,rfl,q2⟩
def Jz(hu:X.A.units+1<WN)(hi:PE X i ty)(c:PE X o td):PC X .NotIn i o (Hh ty td):=by
 intro b s σ H Q I h;refine thn (hi b s σ H _ I h) λiv s1 ⟨y,H1,I1,ry,q1⟩=>thn (c b s1 σ H1 _ I1 q1) λu s2 ⟨x,H2,I2,rx,a,ov,ex,g,q2⟩=>?_;subst ex;obtain rfl:u=ģ a:=rx;exact Tg hu I2 g ry λs3 I3=>⟨.bl (!ov.isSome),H2,I3,rfl,q2⟩
def Ri(hu:X.A.units+1<WN)(c:PE X o td)(hi:PE X i ty)(hv:PE X value tv)(hs:XV value (some (.Subscript o i pos')) pos.line X.env=pure false) :
  PS X (.Assign [.Subscript o i pos'] value pos) (TY td ty tv):=by
 intro b s σ H D I h;refine wpAny_Assign_Subscript (thn (hv b s σ H _ I h) λr s1 ⟨v,H1,I1,rv,q1⟩=>thn (c b s1 σ H1 _ I1 q1) λu s2 ⟨x,H2,I2,rx,q2⟩=>thn (hi b s2 σ H2 _ I2 q2) λiv s3 ⟨y,H3,I3,ry,a,H4,ex,g,q3⟩=>?_) hs;subst ex;obtain rfl:u=ģ a:=rx;exact Kf hu I3 g ry rv λs4 I4=>⟨σ,H4,I4,q3⟩
end
def Ec{P:Zg}{w:Zl}{H:Hp}(h:Heap)(hb:ZU<h.objs.size):bA P w H (h.push { cls:=.type "dict",data:=.dict #[]}) h.objs.size (.dK []) :=
 ⟨ą _,beq_eq_false_iff_ne.mpr (ĝ (å hb)),[],.nil,Heap.DictOf.new h⟩
def Vp:TE:=λ_ H Q=>∀p,H p=none->Q (.ref p) (upd H p (.dK []))
section
variable{pos:Pos}
def Mw:PE X (.Dict [] [] pos) Vp:=λpins s σ H Q I h =>
 wpAny_Dict_empty ⟨.ref ↥s,_,I.laid (a:=↥s) (o:=.dK []) (t':=s.toks) (λ_ _ q=>Ô _ q) (Ì _) (Ec s.heap I.big),rfl,h _ (I.hok.fresh (Ì _))⟩
end
def Fe:List (TE×TE)->St->Hp->(List (V×V)->Hp->Prop)->Prop
 |[],_,H,Q=>Q [] H
 |(tk,tv)::r,σ,H,Q=>tk σ H λx H1=>tv σ H1 λy H2=>Fe r σ H2 λps H3=>Q ((x,y)::ps) H3
abbrev VV:List (V×V)->List (Value×Value)->Prop:=Paired λp q=>RelV p.1 q.1/\RelV p.2 q.2
def PPs(X:Cx)(pos:Pos)(b:List (Option YE))(a:List YE)(c:List (TE×TE)):Prop :=
 ∀(pins:fF)(s:Shared)(σ:St)(H:Hp)(Q:List (V×V)->Hp->Prop),Inv X pins σ H s->Fe c σ H Q ->
  wpAny (model X.prog X.w) X.A (evalPairs (pairTrees b a X.env pos)) (λvs s'=>∃ps H',Inv X pins σ H' s'/\VV ps vs/\Q ps H') X.xe s
def Rj{X:Cx}{pos:Pos}:PPs X pos [] [] []:=λpins s σ H Q I h=>pairTrees_nil_walk ⟨[],H,I,.nil,h⟩
def Mi{X:Cx}{pos:Pos}{k v:YE}{ks:List (Option YE)}{vs:List YE}{tk b:TE}{a:List (TE×TE)}(hk:PE X k tk)(hv:PE X v b)(hr:PPs X pos ks vs a) :
  PPs X pos (some k::ks) (v::vs) ((tk,b)::a):=λpins s σ H Q I h =>
 pairTrees_cons_walk (thn (hk pins s σ H _ I h) λu s1 ⟨x,H1,I1,rx,q1⟩=>thn (hv pins s1 σ H1 _ I1 q1) λw2 s2 ⟨y,H2,I2,ry,q2⟩ =>
  thn (hr pins s2 σ H2 _ I2 q2) λws s3 ⟨ps,H3,I3,rel,q3⟩=>⟨(x,y)::ps,H3,I3,.cons ⟨rx,ry⟩ rel,q3⟩)
def vp(b a:List (Key×V)):List (Key×V):=a.foldl (λacc kv=>putK acc kv.1 kv.2) b
def KV.merge:∀{b:List (Key×V)}{c:List (Key×Value)}{a:List (Key×V)}{vs:List (Key×Value)},KV b c->KV a vs->KV (vp a b) (merged vs c):=by
 intro b c a vs r;unfold KV at r;induction r generalizing a vs with
 |nil=>intro q;exact q
 |@cons p q ps qs h t ih =>
  intro d;have e:KV (putK a p.1 p.2) (stored vs q.1 q.2):=by
   have:=d.put p.1 h.2;rw[←h.1];exact this
  exact ih e
theorem oJ:∀(b a:List (Key×V)),⇑(vp a b)<=⇑a+⇑b
 |[],a=>by show ⇑a<=⇑a+0;lia
 |p::r,a=>by
  have h1:=oJ r (putK a p.1 p.2);have h2:=lN a p.1 p.2;show(vp (putK a p.1 p.2) r).length<=_;rw[à];lia
theorem wj{P:Zg}{w:Zl}:∀{d:List (Key×V)}{ws:List (Value×Value)},VV (d.map λkv=>(kV kv.1,kv.2)) ws->∃rs,Carries (cj P w) ws rs/\KV d rs
 |[],_,r=>by rw[List.map_nil]at r;cases r;exact⟨[],Ź,.nil⟩
 |p::d,_,r=>by
  rw[é]at r;cases r with
  |@cons a b as bs h t =>
   let⟨rs,c,q⟩:=wj (P:=P) (w:=w) t;let⟨b1,b2⟩:=b;exact⟨(p.1,b2)::rs,⟨xP h.1,rfl,c⟩,.cons ⟨rfl,h.2⟩ q⟩
def Yd(a:List (TE×TE)):TE:=λσ H Q=>∀p,H p=none->Fe a σ (upd H p (.dK [])) λps H2=>H2 p=some (.dK [])/\∃kvs:List (Key×V),ps=kvs.map (λkv=>(kV kv.1,kv.2))/\⇑kvs<=15/\Q (.ref p) (upd H2 p (.dK (vp [] kvs)))
def Rr{X:Cx}{pos:Pos}{b:List (Option YE)}{d:List YE}{i:List (TE×TE)}(h:PPs X pos b d i)(f:b.all (·.isSome)=true)(hl:⇑b=⇑d)(m:b≠[])(j:⇑b<=15):PE X (.Dict b d pos) (Yd i):=by
 intro g s σ H Q I q;have hn:=I.hok.fresh (Ì ↥s);have k:=I.laid (a:=↥s) (o:=.dK []) (h':=s.heap.push { cls:=.type "dict",data:=.dict #[]}) (t':=s.toks) (λ_ _ q=>Ô _ q) (Ì _) (Ec s.heap I.big);refine wpAny_Dict_walk (knd:=cj X.prog X.w) f hl m j (thn (h g _ σ _ _ k (q _ hn)) λws s2 ⟨ps,H2,I2,rel,e,kvs,ep,lk,q2⟩=>?_);subst ep;let⟨t,c,r⟩:=wj (P:=X.prog) (w:=X.w) rel;let⟨z,hd,u,p,l⟩:=UJ I2.hok e;cases p;refine⟨t,c,l,λh' dd' hs=>⟨.ref ↥s,_,?_,rfl,q2⟩⟩;have n:⇑(vp [] kvs)<=sizeLine:=by
  have h1:=oJ kvs [];rw[List.length_nil]at h1;rw[õ];lia
 have he:∃q,h'.get? ↥s=some q:=let⟨q,_,_,hq,_⟩:=dd';⟨q,hq⟩
 exact Ba I2 (by rw[e];exact Ź) hs he (Qc n hd (r.merge .nil) dd')
structure M1(X:Cx)(o:YE)(m:Str)(apos:Pos)(e:YE)(cpos:Pos):Prop where
 gy:UK o m X.env (YN o X.env)=YN o X.env
 few:((YO cpos (YI [e] X.env)).all (λx=>!x.1)&&(YU cpos (YV [] X.env)).all (λx=>x.1.isSome)
 &&decide (⇑([e]:List YE)+⇑([]:List YY)+(if([]:List YY).isEmpty then 0 else 1)<30))=true
 line:(apos.endLine==cpos.line)=true
 trees:YO cpos (YI [e] X.env)=[(false,YN e X.env)]
structure M2(X:Cx)(o:YE)(m:Str)(apos:Pos)(e f:YE)(cpos:Pos):Prop where
 gy:UK o m X.env (YN o X.env)=YN o X.env
 few:((YO cpos (YI [e,f] X.env)).all (λx=>!x.1)&&(YU cpos (YV [] X.env)).all (λx=>x.1.isSome)
 &&decide (⇑([e,f]:List YE)+⇑([]:List YY)+(if([]:List YY).isEmpty then 0 else 1)<30))=true
 line:(apos.endLine==cpos.line)=true
 trees:YO cpos (YI [e,f] X.env)=[(false,YN e X.env),(false,YN f X.env)]
section
variable{pins:fF}{σ:St}{H:Hp}{s:Shared}{a:Addr}{y d:V}{u r:Value}{o:Option V}{A:Ys}{E:fA}
end
section
variable{o e f:YE}{apos cpos:Pos}{td ty tx:TE}
end
section
variable{pins:fF}{σ:St}{H:Hp}{s:Shared}{a:Addr}{kvs:List (Key×V)}{A:Ys}{E:fA}
end
section
variable{pins:fF}{σ:St}{H:Hp}{s:Shared}{a:Addr}{y:V}{u:Value}{A:Ys}{E:fA}
end
section
variable{prog:Zg}{w:Zl}{A:Ys}{E:fA}{s:Shared}
end
section
def iD(l:fM):Sj:=.list (l.map Â)
inductive DatL(K:Ý)(H:Hp):V->Sj->Prop
 |flt {a:Addr}{l:fM}:SqL K H a (l.map V.int)->DatL K H (.ref a) (iD l)
 |lists {a:Addr}{as:List Addr}{ls:fI}:SqL K H a (as.map V.ref)->Paired (λ(a:Addr) (l:fM)=>SqL K H a (l.map V.int)) as ls->DatL K H (.ref a) (.list (ls.map iD))
end
end L2
namespace PySem
def aa6(h:Heap)(e:Addr):Prop:=∃oe vs,h.get? e=some oe/\oe.data=.fields vs/\vs[2]?=some .none
section
variable{M:Y3}{A:Ys}{E:fA}{s:Shared}{gy:Heap}{env:Env}{outer:List Env}{L e:Addr}{Q:Unit->Shared->Prop}
end
end PySem
namespace L2
open PySem.Spec
variable{X:Cx}
def aa7(gy:Heap)(l:List Env)(e:Addr)(a b:Value)(h:Heap):Prop:=gy.StaysIn h/\gy.get? e=none/\h.FunFrames gy l/\h.TracedW gy e a b/\aa6 h e
def CX1(P:Zg)(w:Zl):CXT:=λouter H s E e s'=>∃(a:Addr)(cls a0:Value)(H1:Hp)(hb:Heap),e=.ref a/\s'.os=s.os/\Y1 s'.gens/\Un (frs outer) [] H H1 s.heap s'.heap/\HOk P w H1 hb/\aa7 hb outer a cls a0 s'.heap /\
 (∀b o,s.heap.get? b=some o->H b=none->b∉frs outer->hb.get? b=some o)/\(∀b o,s.heap.get? b=some o->b∉frs outer->∃o',hb.get? b=some o')/\E cls none H1
structure Lets(X:Cx)(E:XK):Prop where
 xe:∀e s',wpAny (model X.prog X.w) X.A (leaving X.env e) (λ_ s''=>CX1 X.prog X.w X.outer X.H₀ X.s₀ E e s'') (λe' s''=>CX1 X.prog X.w X.outer X.H₀ X.s₀ E e' s'') s'->X.xe e s'
 stk:X.stack=X.env::X.outer
 fr:X.env.frame=some X.env.locals
 ex:X.ex=[]
section
variable{pins:fF}{σ:St}{H H1:Hp}{s:Shared}{E:XK}
end
structure ExcCls(K:Ý)(C:Addr)(newId:String)(bmB:fT):Prop where
 ex:∃(nm q:Str)(N:Addr)(bs bm:fT)(hdct:Bool)(sn:List Str)(sub:fT)(ab:Bool)(col:Option Bool)(dd:gc)(k0 k1 k2 k3 k5:gf),
  K.lookup C=some (excClassObj nm q C N bs bm hdct sn sub ab col dd k0 k1 k2 k3 k5 newId)/\W.tailIn K bmB bm=true/\W.nsOkIn K N=true/\W.nsIn K N "__init__"=some none/\bm.contains (.type "BaseException")=true
section
variable{E:XK}{x:Str}{C:Addr}{newId Bn initId:String}{bmB:fT}{e:YE}{es:List YE}{t:TA}{np cpos pos:Pos}
end
section
variable{pins:fF}{σ:St}{H:Hp}{s:Shared}{ev:Value}
def aar(a:Addr)(b:Value):Heap->Prop:=λh=>∃oe vs,h.get? a=some oe/\oe.cls=b/\oe.data=.fields vs
def aa1(a:Addr)(b:Value):HO:=.ext (aar a b)
def Inv.track{a:Addr}{o:HO}(I:Inv X pins σ H s)(hn:H a=none)(d:∀ob,X.s₀.heap.get? a≠some ob)(g:a≠X.env.locals)(f:∀x c,X.env.cells.lookup x=some c->c≠a)(hp:∀p∈X.pn++pins,p.1≠a)(new:bA X.prog X.w (upd H a o) s.heap a o):Inv X pins σ (upd H a o) s:=by
 refine⟨I.ok,I.os,I.bare,⟨I.gy.keep,I.gy.slot,λb ob e n hx=>?_,I.gy.there,λb xs e=>?_,λb ob u e=>?_,λb ps e=>?_⟩,I.loc,I.cell,?_,λx c e=>?_,λp q=>?_,I.hok.track hn new,I.len⟩
 ·rw[ao (show b≠a from λz=>d ob (by rw[←z];exact e))];exact I.gy.free b ob e n hx
 ·have q:=I.gy.tups b xs e;rw[ao (aA q hn)];exact q
 ·have q:=I.gy.frzs b ob u e;rw[ao (aA q hn)];exact q
 ·let⟨m,q⟩:=I.gy.tbls b ps e;exact⟨m,by rw[ao (aA q hn)];exact q⟩
 ·rw[ao (ĝ g)];exact I.free
 ·rw[ao (f x c e)];exact I.freeC x c e
 ·let⟨h,i,j⟩:=I.pin p q;exact⟨h,by rw[ao (hp p q)];exact i,j⟩
end
section
variable{k:Nat}{f CF:Addr}{fd:WS}{ps:List Str}{sp:Sp}{E:XK}{x hx n:Str}{p np cpos epos hpos pos:Pos}{e:YE}{es:List YE}{t:TA}{b₀:XB}{suite:List XB}{ts:TS}{j:Nat}
end
end L2
namespace L2
open PySem.W PySem.Spec
structure ExcK(K:Ý)(C:Addr):Prop where
 ex:∃(nm q:Str)(N AF:Addr)(bs bmB:fT)(hdct:Bool)(sn:List Str)(sub:fT)(ab:Bool)(col:Option Bool)(dd ddF:gc)(k0 k1 k2 k3 k5:gf)(newId B:String)(c0:Value)(cd:ClassData)(slF:Array gf),
  K.lookup C=some (excClassObj nm q C N bs (.ref AF::bmB) hdct sn sub ab col dd k0 k1 k2 k3 k5 newId)/\K.lookup AF=some ⟨c0,ddF,.cls cd,slF⟩/\nsOkIn K cd.ns=true/\(∀n∈quietNames,nsIn K cd.ns n=some none)/\ExcAttrBase B bmB
 ga:findIn K (.ref C) "__getattribute__"=some (some (.builtin "BaseException.__getattribute__"))
 hook:findIn K (.ref C) "__getattr__"=some none
 cls:findIn K (.ref C) "__class__"=some (some (.builtin "object.__class__"))
 mro:mroIn K C (.type "object")=some true
section
variable{prog:Zg}{w:Zl}{K:Ý}{a C:Addr}{A:Ys}{E:fA}{s:Shared}
end
section
variable{X:Cx}
def T4:R2:=λx y H Q=>∃a b xs ys,x=.ref a/\y=.ref b/\H a=some (.tup xs)/\H b=some (.tup ys)/\⇑xs+⇑ys<=sizeLine/\∀c H',(∀d u,H d=some u->H' d=some u)->H' c=some (.tup (xs++ys))->Q (.ref c) H'
def RD:OpR X (WG .Add) T4:=by
 intro c s σ H x y v u Q I o r h;let⟨a,b,xs,ys,rfl,rfl,ha,hb,g,q⟩:=h;cases o;cases r;let⟨its,l,j,_⟩:=I.tuple (SqT.of ha);let⟨i,n,k,_⟩:=I.tuple (SqT.of hb);by_cases f:xs=[]
 ·subst f;cases l;let⟨m,F⟩:=I.fr;refine add_tuples (vs:=[]) F N8 j k (λ_=>⟨.ref b,H,I,rfl,q b H (λ_ _ z=>z) ↑hb⟩) (λz=>ft rfl z) (λz=>ft rfl z) (by rw[←⇑n];simpa using g)
 ·refine Rz c s σ H (.ref a) (.ref b) (.ref a) (.ref b) Q I rfl rfl ⟨a,b,xs,ys,rfl,rfl,SqT.of ha,SqT.of hb,f,g,λe=>?_,λ_ p hp=>?_⟩
  ·subst e;exact q a H (λ_ _ z=>z) (by rw[í];exact ha)
  ·exact q p _ (λd u z=>by rw[ao (aA z hp)];exact z) aq
end
section
variable{K:Ý}{C c:Addr}{dd:gc}{cd:ClassData}{sl:Array gf}
end
end L2
namespace Dl
open L2
variable{X:Cx}
abbrev D:=Sj
def kD:Key->D
 |.inl i=>.int i
 |.inr x=>.str x
mutual
inductive Rp(ok:Addr->Prop)(H:Hp):V->D->Prop
 |non:Rp ok H .non .none
 |bl (b:Bool):Rp ok H (.bl b) (.bool b)
 |int (i:Int):Rp ok H (.int i) (.int i)
 |str (x:Str):Rp ok H (.str x) (.str x)
 |lst {a:Addr}{vs:List V}{ds:gg} (o:ok a) (h:H a=some (.lst vs)) (r:Rps ok H vs ds):Rp ok H (.ref a) (.list ds)
 |tup {a:Addr}{vs:List V}{ds:gg} (h:H a=some (.tup vs)) (r:Rps ok H vs ds):Rp ok H (.ref a) (.tuple ds)
 |dct {a:Addr}{kvs:List (Key×V)}{ds:List (D×D)} (o:ok a) (h:H a=some (.dK kvs)) (r:Rkv ok H kvs ds):Rp ok H (.ref a) (.dict ds)
inductive Rps(ok:Addr->Prop)(H:Hp):List V->gg->Prop
 |nil:Rps ok H [] []
 |cons {v:V}{d:D}{vs:List V}{ds:gg} (h:Rp ok H v d) (t:Rps ok H vs ds):Rps ok H (v::vs) (d::ds)
inductive Rkv(ok:Addr->Prop)(H:Hp):List (Key×V)->List (D×D)->Prop
 |nil:Rkv ok H [] []
 |cons {k:Key}{v:V}{d:D}{vs:List (Key×V)}{ds:List (D×D)} (h:Rp ok H v d) (t:Rkv ok H vs ds):Rkv ok H ((k,v)::vs) ((kD k,d)::ds)
end
section
variable{ok ok':Addr->Prop}{H H':Hp}
mutual
theorem Rp.mono(f:∀a,ok a->ok' a)(g:∀a o,ok a->H a=some o->H' a=some o)(t:∀a xs,H a=some (.tup xs)->H' a=some (.tup xs)):∀{v:V}{d:D},Rp ok H v d->Rp ok' H' v d
 |_,_,.non=>.non
 |_,_,.bl b=>.bl b
 |_,_,.int i=>.int i
 |_,_,.str x=>.str x
 |_,_,.lst o h r=>.lst (f _ o) (g _ _ o h) (Rps.mono f g t r)
 |_,_,.tup h r=>.tup (t _ _ h) (Rps.mono f g t r)
 |_,_,.dct o h r=>.dct (f _ o) (g _ _ o h) (Rkv.mono f g t r)
theorem Rps.mono(f:∀a,ok a->ok' a)(g:∀a o,ok a->H a=some o->H' a=some o)(t:∀a xs,H a=some (.tup xs)->H' a=some (.tup xs)):∀{v:List V}{d:gg},Rps ok H v d->Rps ok' H' v d
 |_,_,.nil=>.nil
 |_,_,.cons h r=>.cons (Rp.mono f g t h) (Rps.mono f g t r)
theorem Rkv.mono(f:∀a,ok a->ok' a)(g:∀a o,ok a->H a=some o->H' a=some o)(t:∀a xs,H a=some (.tup xs)->H' a=some (.tup xs)):∀{v:List (Key×V)}{d:List (D×D)},Rkv ok H v d->Rkv ok' H' v d
 |_,_,.nil=>.nil
 |_,_,.cons h r=>.cons (Rp.mono f g t h) (Rkv.mono f g t r)
end
theorem Rps.length:∀{vs:List V}{ds:gg},Rps ok H vs ds->⇑vs=⇑ds
 |_,_,.nil=>rfl
 |_,_,.cons _ t=>by rw[à,à,Rps.length t]
theorem Rps.getD:∀{vs:List V}{ds:gg}{i:Nat}{d:D},Rps ok H vs ds->ds[i]?=some d->∃v,vs[i]?=some v/\Rp ok H v d
 |_,_,i,v,.nil,e=>by simp at e
 |_,_,0,v,.cons h t,e=>by simp at e;subst e;exact⟨_,rfl,h⟩
 |_,_,i+1,v,.cons h t,e=>by
  let⟨d,a,b⟩:=Rps.getD (i:=i) (d:=v) t ↑e;exact⟨d,↑a,b⟩
theorem Rps.app:∀{vs ws:List V}{ds es:gg},Rps ok H vs ds->Rps ok H ws es->Rps ok H (vs++ws) (ds++es)
 |_,_,_,_,.nil,s=>s
 |_,_,_,_,.cons h t,s=>.cons h (Rps.app t s)
def Rps.snoc{vs:List V}{ds:gg}{v:V}{d:D}(h:Rps ok H vs ds)(r:Rp ok H v d):Rps ok H (vs++[v]) (ds++[d]):=h.app (.cons r .nil)
theorem Rps.take:∀{vs:List V}{ds:gg} (n:Nat),Rps ok H vs ds->Rps ok H (vs.take n) (ds.take n)
 |_,_,0,_=>by simp;exact .nil
 |_,_,_+1,.nil=>by simp;exact .nil
 |_,_,n+1,.cons r t=>.cons r (Rps.take n t)
theorem Rps.drop:∀{vs:List V}{ds:gg} (n:Nat),Rps ok H vs ds->Rps ok H (vs.drop n) (ds.drop n)
 |_,_,0,r=>r
 |_,_,_+1,.nil=>by simp;exact .nil
 |_,_,n+1,.cons _ t=>Rps.drop n t
theorem Rps.ofMap{α:Type}{f:α->V}{g:α->D}(h:∀x,Rp ok H (f x) (g x)):∀l:List α,Rps ok H (l.map f) (l.map g)
 |[]=>.nil
 |x::l=>.cons (h x) (Rps.ofMap h l)
def Rp.int'{v:V}{i:Int}(r:Rp ok H v (.int i)):v=.int i:=by cases r;rfl
def Rp.bl'{v:V}{i:Bool}(r:Rp ok H v (.bool i)):v=.bl i:=by cases r;rfl
def Rp.str'{v:V}{i:Str}(r:Rp ok H v (.str i)):v=.str i:=by cases r;rfl
def Rp.bT{v:V}{ds:gg}(r:Rp ok H v (.list ds)):∃a vs,v=.ref a/\ok a/\H a=some (.lst vs)/\Rps ok H vs ds:=by
 cases r with
 |lst o h r=>exact⟨_,_,rfl,o,h,r⟩
def Rp.fj{v:V}{ds:gg}(r:Rp ok H v (.tuple ds)):∃a vs,v=.ref a/\H a=some (.tup vs)/\Rps ok H vs ds:=by
 cases r with
 |tup h r=>exact⟨_,_,rfl,h,r⟩
theorem Rps.ints:∀{vs:List V}{ns:fM},Rps ok H vs (ns.map Â)->vs=ns.map V.int
 |[],[],_=>rfl
 |_,n::ns,.cons h t=>by
  have e:=h.int';subst e;rw[Rps.ints t];rfl
def Rps.two{vs:List V}{d e:D}(r:Rps ok H vs [d,e]):∃v w,vs=[v,w]/\Rp ok H v d/\Rp ok H w e:=by
 cases r with
 |cons h t =>
  cases t with
  |cons h2 t2 =>
   cases t2;exact⟨_,_,rfl,h,h2⟩
end
mutual
def gO:D->Bool
 |.none=>true
 |.bool _=>true
 |.int _=>true
 |.str _=>true
 |.list _=>false
 |.tuple ds=>eU ds
 |.dict _=>false
def eU:gg->Bool
 |[]=>true
 |d::ds=>gO d&&eU ds
end
section
variable{ok:Addr->Prop}{H:Hp}
mutual
theorem Rp.imm:∀{v:V}{d:D},Rp ok H v d->gO d=true->Rp (λ_=>False) H v d
 |_,_,.non,_=>.non
 |_,_,.bl b,_=>.bl b
 |_,_,.int i,_=>.int i
 |_,_,.str x,_=>.str x
 |_,_,.tup h r,e=>.tup h (Rps.imm r e)
theorem Rps.imm:∀{v:List V}{d:gg},Rps ok H v d->eU d=true->Rps (λ_=>False) H v d
 |_,_,.nil,_=>.nil
 |_,_,.cons h r,e=>.cons (Rp.imm h (by simp only[eU,Ü]at e;exact e.1)) (Rps.imm r (by simp only[eU,Ü]at e;exact e.2))
end
end
def Fxd(o:HO):Prop:=∃x φ,o=.frz x (.ext φ)
structure Pn where
 fp:Addr->Prop
 PI:Hp->Prop
 pv:V
 mono:∀H H',PI H->(∀b o,(fp b\/Fxd o)->H b=some o->H' b=some o)->PI H'
 is:∀H b,PI H->fp b->∃o,H b=some o/\(∀xs,o≠.tup xs)/\¬Fxd o
class Gr where
 G:Pn->Hp->Prop
instance (priority:=low) grT:Gr:=⟨λ_ _=>True⟩
def fC:Pn:=⟨λ_=>False,λ_=>True,.non,λ_ _ _ _=>trivial,λ_ _ _ h=>h.elim⟩
def Kp(p:Pn)(H a:Hp):Prop:=∀b o,H b=some o->¬p.fp b->a b=some o
def Kp.refl{p:Pn}{H:Hp}:Kp p H H:=λ_ _ h _=>h
def Kp.trans{p:Pn}{H d e:Hp}(a:Kp p H d)(b:Kp p d e):Kp p H e:=λc o h n=>b c o (a c o h n) n
def Kp.of{p:Pn}{H a:Hp}(s:Same H a):Kp p H a:=λb o h _=>s b o h
inductive Sl where
 |any
 |im (d:D)
 |sh (d:D)
 |sn (d:D)
 |dw (r:Nat) (d:D)
 |pen (C:Pn->Prop)
 |rw (r:Nat) (L:List gg)
 |tw (r:Nat) (L:List gg)
 |scr (v:V) (b:Bool)
 |sp (r:Nat) (b:Bool) (ds:gg)
inductive Kd where
 |imm|new|reg (r:Nat)|n0|snw|shr|wk
 deriving DecidableEq
def Kd.le:Kd->Kd->Bool
 |.imm,_=>true
 |.new,.new=>true
 |.new,.n0=>true
 |.new,.snw=>true
 |.new,.shr=>true
 |.new,.wk=>true
 |.reg r,.reg q=>r==q
 |.reg _,.n0=>true
 |.reg _,.wk=>true
 |.snw,.snw=>true
 |.snw,.n0=>true
 |.snw,.shr=>true
 |.snw,.wk=>true
 |.n0,.n0=>true
 |.n0,.wk=>true
 |.shr,.shr=>true
 |.shr,.wk=>true
 |.wk,.wk=>true
 |_,_=>false
def Kd.join(a b:Kd):Kd:=if a.le b then b else if b.le a then a else if a.le .n0&&b.le .n0 then .n0 else if a.le .shr&&b.le .shr then .shr else .wk
def norm(k:Kd)(d:D):Kd:=match k with
 |.imm=>.imm
 |k=>if gO d then .imm else k
def iC{k:Kd}{d:D}(h:gO d=true):norm k d=.imm:=by
 cases k <;> first
  |rfl
  |exact fo h
def iG{k:Kd}{d:D}(h:¬gO d=true):norm k d=k:=by
 cases k <;> first
  |rfl
  |exact fq h
def okK(p:Pn)(b:Hp)(own:Addr->Option Nat)(c:Hp):Kd->Addr->Prop
 |.imm=>λ_=>False
 |.new=>λa=>c a=none
 |.reg r=>λa=>own a=some r
 |.n0=>λa=>b a=none/\¬p.fp a
 |.snw=>λa=>b a=none/\¬p.fp a/\own a=none
 |.shr=>λa=>¬p.fp a/\own a=none
 |.wk=>λa=>¬p.fp a
structure At(p:Pn)(H0:Hp)(own:Addr->Option Nat)(Hb H:Hp):Prop where
 k0:∀b o,H0 b=some o->¬p.fp b->Hb b=some o
 kp:Kp p Hb H
 penb:p.PI Hb
 pen:p.PI H
 ow:∀a r,own a=some r->H0 a=none/\¬p.fp a/\Hb a≠none
section
variable{p:Pn}{H0 Hb H H':Hp}{own:Addr->Option Nat}
def At.nfp(A:At p H0 own Hb H){a:Addr}(h:H a=none):¬p.fp a:=λz=>by
 let⟨o,e,_⟩:=p.is H a A.pen z;rw[h]at e;cases e
def At.free(A:At p H0 own Hb H){a:Addr}(h:H a=none):Hb a=none:=by
 have hn:=A.nfp h;cases e:Hb a with
 |none=>rfl
 |some o=>rw[A.kp a o e hn]at h;cases h
def At.nfb(A:At p H0 own Hb H){a:Addr}(h:Hb a=none):¬p.fp a:=λz=>by
 let⟨o,e,_⟩:=p.is Hb a A.penb z;rw[h]at e;cases e
def At.M9(A:At p H0 own Hb H){a:Addr}(h:Hb a=none):own a=none:=by
 cases e:own a with
 |none=>rfl
 |some r=>exact ft h (A.ow a r e).2.2
def At.h0(A:At p H0 own Hb H){a:Addr}(h:Hb a=none):H0 a=none:=by
 cases e:H0 a with
 |none=>rfl
 |some o=>rw[A.k0 a o e (A.nfb h)]at h;cases h
def cQ(A:At p H0 own Hb H){j k:Kd}(h:j.le k=true){a:Addr}(o:okK p H0 own Hb j a):okK p H0 own Hb k a:=by
 cases j with
 |imm=>exact ĺ o
 |new =>
  cases k with
  |imm=>cases h
  |new=>exact o
  |reg r=>cases h
  |n0=>exact⟨A.h0 o,A.nfb o⟩
  |snw=>exact⟨A.h0 o,A.nfb o,A.M9 o⟩
  |shr=>exact⟨A.nfb o,A.M9 o⟩
  |wk=>exact A.nfb o
 |reg r =>
  cases k with
  |reg q =>
   have e:r=q:=by simpa[Kd.le]using h
   subst e;exact o
  |n0=>exact⟨(A.ow a r o).1,(A.ow a r o).2.1⟩
  |wk=>exact(A.ow a r o).2.1
  |_=>cases h
 |n0 =>
  cases k with
  |n0=>exact o
  |wk=>exact o.2
  |_=>cases h
 |snw =>
  cases k with
  |snw=>exact o
  |n0=>exact⟨o.1,o.2.1⟩
  |shr=>exact o.2
  |wk=>exact o.2.1
  |_=>cases h
 |shr =>
  cases k with
  |shr=>exact o
  |wk=>exact o.1
  |_=>cases h
 |wk =>
  cases k with
  |wk=>exact o
  |_=>cases h
def jP(A:At p H0 own Hb H){k:Kd}{a:Addr}(o:okK p H0 own Hb k a):¬p.fp a:=by
 have:k.le .wk=true:=by cases k <;> rfl
 exact cQ A this o
def nZ(A:At p H0 own Hb H){j k:Kd}(h:j.le k=true){v:V}{d:D}{b:Hp}(r:Rp (okK p H0 own Hb j) b v d):Rp (okK p H0 own Hb k) b v d :=
 r.mono (λa o=>cQ A h o) (λ_ _ _ e=>e) λ_ _ e=>e
def gK(a b:Kd):a.le (a.join b)=true/\b.le (a.join b)=true:=by
 unfold Kd.join;by_cases h:a.le b=true
 ·rw[fo h];exact⟨h,by cases b <;> simp[Kd.le]⟩
 ·rw[fq h];by_cases h2:b.le a=true
  ·rw[fo h2];exact⟨by cases a <;> simp[Kd.le],h2⟩
  ·rw[fq h2];by_cases c:(a.le .n0&&b.le .n0)=true
   ·rw[fo c];exact Ü _ _ ▸ c
   ·rw[fq c];by_cases d:(a.le .shr&&b.le .shr)=true
    ·rw[fo d];exact Ü _ _ ▸ d
    ·rw[fq d];exact⟨by cases a <;> rfl,by cases b <;> rfl⟩
def aR{k:Kd}{v:V}{d:D}{a:Hp}(r:Rp (okK p H0 own Hb k) a v d):Rp (okK p H0 own Hb (norm k d)) a v d:=by
 by_cases h:gO d=true
 ·rw[iC h];exact r.imm h
 ·rw[iG h];exact r
def jg(A:At p H0 own Hb H)(k:Kp p H H'):∀a xs,H a=some (.tup xs)->H' a=some (.tup xs):=λa xs h=>k a _ h λz=>by
 let⟨o,e,n⟩:=p.is H a A.pen z;rw[h]at e;exact n.1 xs (ß e).symm
def j8(A:At p H0 own Hb H)(k:Kp p H H'){j:Kd}{v:V}{d:D}(r:Rp (okK p H0 own Hb j) H v d):Rp (okK p H0 own Hb j) H' v d :=
 r.mono (λ_ o=>o) (λa o h e=>k a o e (jP A h)) (jg A k)
def cO(A:At p H0 own Hb H)(k:Kp p H H'){j:Kd}{v:List V}{d:gg}(r:Rps (okK p H0 own Hb j) H v d):Rps (okK p H0 own Hb j) H' v d :=
 r.mono (λ_ o=>o) (λa o h e=>k a o e (jP A h)) (jg A k)
def At.go(A:At p H0 own Hb H)(k:Kp p H H')(i:p.PI H'):At p H0 own Hb H':=⟨A.k0,A.kp.trans k,A.penb,i,A.ow⟩
def At.gy{a:Hp}(A:At p H0 own Hb H)(B:At p H0 own H a):At p H0 own Hb a:=⟨A.k0,A.kp.trans B.kp,A.penb,B.pen,A.ow⟩
def NP(A:At p H0 own Hb H){k:Kd}{a:Addr}(o:okK p H0 own H k a):okK p H0 own Hb k a:=by
 cases k <;> first
  |exact o
  |exact A.free o
def pL(A:At p H0 own Hb H){k:Kd}{v:V}{d:D}{b:Hp}(r:Rp (okK p H0 own H k) b v d):Rp (okK p H0 own Hb k) b v d :=
 r.mono (λa o=>NP A o) (λ_ _ _ e=>e) λ_ _ e=>e
def At.new(A:At p H0 own Hb H){a:Addr}(h:H a=none)(o:HO):Kp p H (upd H a o)/\p.PI (upd H a o)/\okK p H0 own Hb .new a :=
 have s:Same H (upd H a o):=λb u q=>by rw[ao (aA q h)];exact q
 ⟨Kp.of s,p.mono H _ A.pen λb u _ q=>s b u q,A.free h⟩
end
structure RowsH(own:Addr->Option Nat)(r:Nat)(H:Hp)(st:Addr)(as:List Addr)(L:List gg):Prop where
 top:H st=some (.lst (as.map V.ref))
 nd:(st::as).Nodup
 ow:∀a∈st::as,own a=some r
 len:⇑as=⇑L
 row:∀(j:Nat)(a:Addr)(ds:gg),as[j]?=some a->L[j]?=some ds->∃vs,H a=some (.lst vs)/\Rps (λ_=>False) H vs ds
def RowsH.mono{own b:Addr->Option Nat}{r:Nat}{H d:Hp}{st:Addr}{as:List Addr}{L:List gg}(h:RowsH own r H st as L)(g:∀a o,own a=some r->H a=some o->b a=some r/\d a=some o)(t:∀a xs,H a=some (.tup xs)->d a=some (.tup xs)):RowsH b r d st as L:=by
 have c:∀a∈st::as,∃o,H a=some o:=λa ha=>by
  rcases Õ.mp ha with rfl|ha
  ·exact⟨_,h.top⟩
  ·let⟨j,f⟩:=Ķ ha;have hl:=(È.mp f).1;let⟨vs,e,_⟩:=h.row j a _ f (Å (by rw[←h.len];exact hl));exact⟨_,e⟩
 refine⟨(g st _ (h.ow st Æ) h.top).2,h.nd,λa ha=>?_,h.len,λj a ds e1 e2=>?_⟩
 ·let⟨o,e⟩:=c a ha;exact(g a o (h.ow a ha) e).1
 ·let⟨vs,e,i⟩:=h.row j a ds e1 e2;exact⟨vs,(g a _ (h.ow a (Ç _ (Î e1))) e).2,i.mono (λ_ o=>o) (λ_ _ o=>o.elim) t⟩
theorem qN{ok:Addr->Prop}{H:Hp}:∀(as:List Addr)(L:List gg),⇑as=⇑L->(∀a∈as,ok a)->(∀(j:Nat)(a:Addr)(ds:gg),as[j]?=some a->L[j]?=some ds->∃vs,H a=some (.lst vs)/\Rps (λ_=>False) H vs ds)->Rps ok H (as.map V.ref) (L.map Č)
 |[],[],_,_,_=>.nil
 |a::as,d::L,hl,h,r=>by
  let⟨vs,e,c⟩:=r 0 a d rfl rfl;exact .cons (.lst (h a Æ) e (c.mono (λ_ o=>o.elim) (λ_ _ o=>o.elim) λ_ _ e=>e)) (qN as L ↑hl (λb hb=>h b (Ç _ hb)) λj b ds e1 e2=>r (j+1) b ds e1 e2)
 |[],_::_,hl,_,_=>by cases hl
 |_::_,[],hl,_,_=>by cases hl
def RowsH.rp{own:Addr->Option Nat}{r:Nat}{H:Hp}{st:Addr}{as:List Addr}{L:List gg}(h:RowsH own r H st as L):Rp (λa=>own a=some r) H (.ref st) (.list (L.map Č)) :=
 .lst (h.ow st Æ) h.top (qN as L h.len (λa ha=>h.ow a (Ç _ ha)) h.row)
structure RowsT(own:Addr->Option Nat)(r:Nat)(H:Hp)(st:Addr)(as:List Addr)(L:List gg):Prop where
 top:H st=some (.tup (as.map V.ref))
 nd:as.Nodup
 ow:∀a∈as,own a=some r
 len:⇑as=⇑L
 row:∀(j:Nat)(a:Addr)(ds:gg),as[j]?=some a->L[j]?=some ds->∃vs,H a=some (.lst vs)/\Rps (λ_=>False) H vs ds
def RowsT.mono{own b:Addr->Option Nat}{r:Nat}{H c:Hp}{st:Addr}{as:List Addr}{L:List gg}(h:RowsT own r H st as L)(g:∀a o,own a=some r->H a=some o->b a=some r/\c a=some o)(t:∀a xs,H a=some (.tup xs)->c a=some (.tup xs)):RowsT b r c st as L:=by
 refine⟨t st _ h.top,h.nd,λa ha=>?_,h.len,λj a ds e1 e2=>?_⟩
 ·let⟨j,d⟩:=Ķ ha;have hl:=(È.mp d).1;let⟨vs,e,_⟩:=h.row j a _ d (Å (by rw[←h.len];exact hl));exact(g a _ (h.ow a ha) e).1
 ·let⟨vs,e,f⟩:=h.row j a ds e1 e2;exact⟨vs,(g a _ (h.ow a (Î e1)) e).2,f.mono (λ_ o=>o) (λ_ _ o=>o.elim) t⟩
def RowsT.rp{own:Addr->Option Nat}{r:Nat}{H:Hp}{st:Addr}{as:List Addr}{L:List gg}(h:RowsT own r H st as L):Rp (λa=>own a=some r) H (.ref st) (.tuple (L.map Č)) :=
 .tup h.top (qN as L h.len h.ow h.row)
def okS(p:Pn)(c:Hp)(own:Addr->Option Nat)(b:Bool)(a:Addr):Prop:=(b=true->c a=none)/\¬p.fp a/\own a=none
def mH(p:Pn)(c:Hp)(own:Addr->Option Nat)(σ:L2.St)(H:Hp)(i:Nat):Sl->Prop
 |.any=>True
 |.im d=>∃v,σ[i]?=some (some v)/\Rp (λ_=>False) H v d
 |.sh d=>∃v,σ[i]?=some (some v)/\Rp (λa=>¬p.fp a/\own a=none) H v d
 |.sn d=>∃v,σ[i]?=some (some v)/\Rp (λa=>c a=none/\¬p.fp a/\own a=none) H v d
 |.dw r d=>∃v,σ[i]?=some (some v)/\Rp (λa=>own a=some r) H v d
 |.pen C=>σ[i]?=some (some p.pv)/\C p
 |.rw r L=>∃st as,σ[i]?=some (some (.ref st))/\RowsH own r H st as L
 |.tw r L=>∃st as,σ[i]?=some (some (.ref st))/\RowsT own r H st as L
 |.scr v b=>σ[i]?=some (some v)/\(b=true->p=fC)
 |.sp r b ds=>∃l vs,σ[i]?=some (some (.ref l))/\own l=some r/\H l=some (.lst vs)/\Rps (okS p c own b) H vs ds
structure EnvD[Gr](p:Pn)(H0:Hp)(own:Addr->Option Nat)(σ:L2.St)(H:Hp)(ρ:List Sl):Prop where
 k0:∀b o,H0 b=some o->¬p.fp b->H b=some o
 pen:p.PI H
 ow:∀a r,own a=some r->H0 a=none/\¬p.fp a/\H a≠none
 slot:∀i s,ρ[i]?=some s->mH p H0 own σ H i s
 len:⇑ρ=⇑σ
 gr:Gr.G p H0
variable [Gr]
section
variable{p:Pn}{H0 H H':Hp}{own:Addr->Option Nat}{σ:L2.St}{ρ:List Sl}
def EnvD.at(E:EnvD p H0 own σ H ρ):At p H0 own H H:=⟨E.k0,Kp.refl,E.pen,E.pen,E.ow⟩
def EnvD.go(E:EnvD p H0 own σ H ρ)(k:Kp p H H')(i:p.PI H'):EnvD p H0 own σ H' ρ:=by
 have A:=E.at;have f:=jg A k;refine⟨λb o e n=>k b o (E.k0 b o e n) n,i,λa r e=>?_,λj s e=>?_,E.len,E.gr⟩
 ·let⟨h1,h2,g⟩:=E.ow a r e;refine⟨h1,h2,λz=>?_⟩;cases q:H a with
  |none=>exact g q
  |some o=>rw[k a o q h2]at z;cases z
 ·have q:=E.slot j s e;cases s with
  |any=>trivial
  |im d=>exact let⟨v,a,b⟩:=q;⟨v,a,b.mono (λ_ o=>o) (λ_ _ o=>o.elim) f⟩
  |sh d=>exact let⟨v,a,b⟩:=q;⟨v,a,b.mono (λ_ o=>o) (λc u o e=>k c u e o.1) f⟩
  |sn d=>exact let⟨v,a,b⟩:=q;⟨v,a,b.mono (λ_ o=>o) (λc u o e=>k c u e o.2.1) f⟩
  |dw r d=>exact let⟨v,a,b⟩:=q;⟨v,a,b.mono (λ_ o=>o) (λc u o e=>k c u e (E.ow c r o).2.1) f⟩
  |pen C=>exact q
  |rw r L=>exact let⟨st,as,a,b⟩:=q;⟨st,as,a,b.mono (λc u o e=>⟨o,k c u e (E.ow c r o).2.1⟩) f⟩
  |tw r L=>exact let⟨st,as,a,b⟩:=q;⟨st,as,a,b.mono (λc u o e=>⟨o,k c u e (E.ow c r o).2.1⟩) f⟩
  |scr v b=>exact q
  |sp r b ds=>exact let⟨l,vs,a,o,h,z⟩:=q;⟨l,vs,a,o,k l _ h (E.ow l r o).2.1,z.mono (λ_ o=>o) (λc u o e=>k c u e o.2.1) f⟩
end
abbrev DK:=Kd->D->Prop
abbrev DE:=List Sl->DK->Prop
def aV(t:DE):TE:=λσ H Q=>∃p H0 own ρ P,EnvD p H0 own σ H ρ/\t ρ P/\∀k d v H',P k d->At p H0 own H H'->Rp (okK p H0 own H k) H' v d->Q v H'
abbrev PD(X:Cx)(e:YE)(t:DE):Prop:=PE X e (aV t)
abbrev DA:=List Sl->(List (Kd×D)->Prop)->Prop
inductive RpK(p:Pn)(H0:Hp)(own:Addr->Option Nat)(Hb H:Hp):List V->List (Kd×D)->Prop
 |nil:RpK p H0 own Hb H [] []
 |cons {v:V}{kd:Kd×D}{vs:List V}{ks:List (Kd×D)} (h:Rp (okK p H0 own Hb kd.1) H v kd.2) (t:RpK p H0 own Hb H vs ks):RpK p H0 own Hb H (v::vs) (kd::ks)
def iI(t:DA):TA:=λσ H Q=>∃p H0 own ρ P,EnvD p H0 own σ H ρ/\t ρ P/\∀ks vs H',P ks->At p H0 own H H'->RpK p H0 own H H' vs ks->Q vs H'
abbrev PDA(X:Cx)(es:List YE)(t:DA):Prop:=PA X es (iI t)
abbrev DT:=List Sl->(Bool->Prop)->Prop
def liftT(t:DT):TT:=λσ H Q=>∃p H0 own ρ P,EnvD p H0 own σ H ρ/\t ρ P/\∀b H',P b->At p H0 own H H'->Q b H'
abbrev PDT(X:Cx)(e:YE)(t:DT):Prop:=PT X e (liftT t)
def PE.wk{X:Cx}{e:YE}{t t':TE}(h:PE X e t)(w:∀σ H Q,t' σ H Q->t σ H Q):PE X e t':=λpins s σ H Q I q=>h pins s σ H Q I (w σ H Q q)
def PT.wk{X:Cx}{e:YE}{t t':TT}(h:PT X e t)(w:∀σ H Q,t' σ H Q->t σ H Q):PT X e t':=λpins s σ H Q I q=>h pins s σ H Q I (w σ H Q q)
def PA.wk{X:Cx}{e:List YE}{t t':TA}(h:PA X e t)(w:∀σ H Q,t' σ H Q->t σ H Q):PA X e t':=λpos pins s σ H Q I q=>h pos pins s σ H Q I (w σ H Q q)
section
variable{pos:Pos}{a b:YE}{ta tb:DE}
theorem RpK.go{p:Pn}{c d H e:Hp}{own:Addr->Option Nat}(A:At p c own d H)(k:Kp p H e):∀{vs:List V}{ks:List (Kd×D)},RpK p c own d H vs ks->RpK p c own d e vs ks
 |_,_,.nil=>.nil
 |_,_,.cons h t=>.cons (j8 A k h) (RpK.go A k t)
theorem RpK.gy{p:Pn}{c e H d:Hp}{own:Addr->Option Nat}(A:At p c own e H):∀{vs:List V}{ks:List (Kd×D)},RpK p c own H d vs ks->RpK p c own e d vs ks
 |_,_,.nil=>.nil
 |_,_,.cons h t=>.cons (pL A h) (RpK.gy A t)
def tV(i:Nat):DE:=λρ P=>match ρ[i]? with
 |some (.im d)=>P .imm d
 |some (.sh d)=>P .shr d
 |some (.sn d)=>P .snw d
 |some (.dw r d)=>P (.reg r) d
 |some (.rw r L)=>P (.reg r) (.list (L.map Č))
 |some (.tw r L)=>P (.reg r) (.tuple (L.map Č))
 |some (.sp r b ds)=>P (if b=true then .n0 else .wk) (.list ds)
 |_=>False
def VR{i:Nat}{x:Str}{ps:Pos}(h:PE X (.Name x ps) (iY i)):PD X (.Name x ps) (tV i):=PE.wk h (by
 rintro σ H Q ⟨p,g,own,ρ,P,E,t,q⟩;unfold tV at t;split at t
 ·rename_i d e;let⟨v,f,r⟩:=E.slot i _ e;exact⟨v,f,q _ _ _ _ t E.at r⟩
 ·rename_i d e;let⟨v,f,r⟩:=E.slot i _ e;exact⟨v,f,q _ _ _ _ t E.at r⟩
 ·rename_i d e;let⟨v,f,r⟩:=E.slot i _ e;exact⟨v,f,q _ _ _ _ t E.at r⟩
 ·rename_i d e;let⟨v,f,r⟩:=E.slot i _ e;exact⟨v,f,q _ _ _ _ t E.at r⟩
 ·rename_i r L e;let⟨st,as,f,h⟩:=E.slot i _ e;exact⟨_,f,q _ _ _ _ t E.at h.rp⟩
 ·rename_i r L e;let⟨st,as,f,h⟩:=E.slot i _ e;exact⟨_,f,q _ _ _ _ t E.at h.rp⟩
 ·rename_i r b ds e;let⟨l,vs,f,o,h,z⟩:=E.slot i _ e;refine⟨_,f,q _ _ _ _ t E.at ?_⟩;cases b with
  |true=>exact .lst ⟨(E.ow l r o).1,(E.ow l r o).2.1⟩ h (z.mono (λc n=>⟨n.1 rfl,n.2.1⟩) (λ_ _ _ e=>e) λ_ _ e=>e)
  |false=>exact .lst (E.ow l r o).2.1 h (z.mono (λc n=>n.2.1) (λ_ _ _ e=>e) λ_ _ e=>e)
 ·exact t.elim)
def tK(d:D):DE:=λ_ P=>P .imm d
def pW{e:YE}{v:V}{d:D}(h:PE X e (tC v))(r:∀H,Rp (λ_=>False) H v d):PD X e (tK d):=PE.wk h (by
 rintro σ H Q ⟨p,c,own,ρ,P,E,t,q⟩;exact q _ _ _ _ t E.at (r H))
def aG{i:Int}{j:Nat}:PD X (.Constant (.int i) j pos) (tK (.int i)):=pW Mu λ_=>.int i
def gb{i:Bool}{j:Nat}:PD X (.Constant (.bool i) j pos) (tK (.bool i)):=pW MF λ_=>.bl i
def FN{j:Nat}:PD X (.Constant .none j pos) (tK .none):=pW VN λ_=>.non
def eG{x:Str}{j:Nat}:PD X (.Constant (.str x) j pos) (tK (.str x)):=pW VH λ_=>.str x
abbrev G2:=Kd->D->Kd->D->DK->Prop
def t2(g:G2)(ta tb:DE):DE:=λρ P=>ta ρ λk1 d1=>tb ρ λk2 d2=>g k1 d1 k2 d2 P
def Ok2(g:G2)(r:R2):Prop:=∀p H0 own Hb H x y k1 d1 k2 d2 P Q,At p H0 own Hb H->Rp (okK p H0 own Hb k1) H x d1->Rp (okK p H0 own Hb k2) H y d2->g k1 d1 k2 d2 P ->
 (∀k d v H',P k d->Kp p H H'->p.PI H'->Rp (okK p H0 own Hb k) H' v d->Q v H')->r x y H Q
def xK{g:G2}{r:R2}(ok:Ok2 g r):∀σ H Q,aV (t2 g ta tb) σ H Q->tOp r (aV ta) (aV tb) σ H Q:=by
 rintro σ H Q ⟨p,c,own,ρ,P,E,t,q⟩;refine⟨p,c,own,ρ,_,E,t,λk1 d1 v1 H1 t1 A1 r1=>?_⟩;have e:=E.go A1.kp A1.pen;refine⟨p,c,own,ρ,_,e,t1,λk2 d2 v2 H2 t2 A2 r2=>?_⟩;have A:At p c own H H2:=A1.gy A2;exact ok p c own H H2 v1 v2 k1 d1 k2 d2 P Q A (j8 A1 A2.kp r1) (pL A1 r2) t2 λk d v H' h k3 i3 r3=>q k d v H' h (A.go k3 i3) r3
def oh{c:Operator}{r:R2}{g:G2}(d:OpR X (WG c) r)(ok:Ok2 g r)(ha:PD X a ta)(hb:PD X b tb):PD X (.BinOp a c b pos) (t2 g ta tb):=PE.wk (cL d ha hb) (xK ok)
def jM{c:XG}{r:R2}{g:G2}(d:OpR X (XI c) r)(ok:Ok2 g r)(ha:PD X a ta)(hb:PD X b tb)(hm:XN c b=false):PD X (.Compare a [c] [b] pos) (t2 g ta tb):=PE.wk (Rv d ha hb hm) (xK ok)
def dZ(t:DE):DT:=λρ P=>t ρ λ_ d=>match d with
 |.bool b=>P b
 |_=>False
def vC{t:DE}:∀σ H Q,liftT (dZ t) σ H Q->(aV t) σ H (λx H'=>∃k,x=.bl k/\Q k H'):=by
 rintro σ H Q ⟨p,c,own,ρ,P,E,t,q⟩;refine⟨p,c,own,ρ,_,E,t,λk d v H' h A r=>?_⟩;cases d with
 |bool b=>exact⟨b,r.bl',q b H' h A⟩
 |_=>exact h.elim
def gH{c:XG}{r:R2}{g:G2}(d:OpR X (XI c) r)(ok:Ok2 g r)(ha:PD X a ta)(hb:PD X b tb)(hm:XN c b=false):PDT X (.Compare a [c] [b] pos) (dZ (t2 g ta tb)) :=
 PT.wk (mQ d ha hb hm) λσ H Q h=>xK ok σ H _ (vC σ H Q h)
def bG{e:YE}{t:DE}(h:PD X e t)(he:∀whole,Xs e X.env whole=(do let v ←whole;standAt e.pos;holding [v] (XT v)):=by intro _;rfl):PDT X e (dZ t) :=
 PT.wk (Fo h he) λσ H Q q=>vC σ H Q q
def aac(t:DT):DT:=λρ P=>t ρ λb=>P (!b)
def cF{t:DT}(ha:PDT X a t):PDT X (.UnaryOp .Not a pos) (aac t):=PT.wk (Fp ha) (by
 rintro σ H Q ⟨p,c,own,ρ,P,E,t,q⟩;exact⟨p,c,own,ρ,_,E,t,λb H' h A=>q _ H' h A⟩)
abbrev PDW(X:Cx)(e:YE)(t:DT):Prop:=PW X e (liftT t)
def PW.wk{X:Cx}{e:YE}{t t':TT}(h:PW X e t)(w:∀σ H Q,t' σ H Q->t σ H Q):PW X e t':=λwh pins s σ H Q I q=>h wh pins s σ H Q I (w σ H Q q)
def Tp(t u:DT):DT:=λρ P=>t ρ λb=>if b=true then u ρ P else P false
def dOr(t u:DT):DT:=λρ P=>t ρ λb=>if b=true then P true else u ρ P
section
variable{rest:List YE}{t u:DT}
def kE(ha:PDT X a t):PDW X (.BoolOp .And [a] pos) t:=Ra ha
def gG(ha:PDT X a t):PDW X (.BoolOp .Or [a] pos) t:=LK ha
def Ou:∀σ H Q,liftT (Tp t u) σ H Q->Yi (liftT t) (liftT u) σ H Q:=by
 rintro σ H Q ⟨p,d,own,ρ,P,E,t,q⟩;refine⟨p,d,own,ρ,_,E,t,λb H' h A=>?_⟩;cases b with
 |true=>exact aF ⟨p,d,own,ρ,P,E.go A.kp A.pen,↑h,λc H2 h2 A2=>q c H2 h2 (A.gy A2)⟩
 |false=>exact aJ (q false H' ↑h A)
def R9:∀σ H Q,liftT (dOr t u) σ H Q->tOr (liftT t) (liftT u) σ H Q:=by
 rintro σ H Q ⟨p,d,own,ρ,P,E,t,q⟩;refine⟨p,d,own,ρ,_,E,t,λb H' h A=>?_⟩;cases b with
 |true=>exact aF (q true H' ↑h A)
 |false=>exact aJ ⟨p,d,own,ρ,P,E.go A.kp A.pen,↑h,λc H2 h2 A2=>q c H2 h2 (A.gy A2)⟩
def pQ(ha:PDT X a t)(hb:PDW X (.BoolOp .And (b::rest) pos) u):PDW X (.BoolOp .And (a::b::rest) pos) (Tp t u):=PW.wk (Vx ha hb) Ou
def jc(ha:PDT X a t)(hb:PDW X (.BoolOp .Or (b::rest) pos) u):PDW X (.BoolOp .Or (a::b::rest) pos) (dOr t u):=PW.wk (T5 ha hb) R9
def PDW.pt{e:YE}{t:DT}(h:PDW X e t):PDT X e t:=PW.pt h
end
end
variable [Gr]
section
variable{pos:Pos}{a b e:YE}{es:List YE}{ta tb te:DE}{t:DA}
def eF:DA:=λ_ P=>P []
def aX(te:DE)(t:DA):DA:=λρ P=>te ρ λk d=>t ρ λks=>P ((k,d)::ks)
def ak:PDA X [] eF:=PA.wk aW (by
 rintro σ H Q ⟨p,c,own,ρ,P,E,t,q⟩;exact q [] [] H t E.at .nil)
def aj(ha:PD X e te)(hr:PDA X es t)(hs:zS X e es:=by rfl):PDA X (e::es) (aX te t):=PA.wk (dI ha hr hs) (by
 rintro σ H Q ⟨p,c,own,ρ,P,E,t,q⟩;refine⟨p,c,own,ρ,_,E,t,λk d v H1 h A r=>?_⟩;refine⟨p,c,own,ρ,_,E.go A.kp A.pen,h,λks vs H2 h2 A2 r2=>?_⟩;exact q _ _ H2 h2 (A.gy A2) (.cons (j8 A A2.kp r) (RpK.gy A r2)))
def joins:List (Kd×D)->Kd
 |[]=>.imm
 |kd::ks=>kd.1.join (joins ks)
theorem RpK.all{p:Pn}{c d H f:Hp}{own:Addr->Option Nat}(A:At p c own d H):∀{vs:List V}{ks:List (Kd×D)}{k:Kd},(joins ks).le k=true->RpK p c own d f vs ks->Rps (okK p c own d (joins ks)) f vs (ks.map (·.2))
 |_,_,_,_,.nil=>.nil
 |_,kd::ks,k,e,.cons h t=>by
  have j:=gK kd.1 (joins ks);exact .cons (nZ A j.1 h) ((RpK.all A (k:=joins ks) (by cases joins ks <;> simp[Kd.le]) t).mono (λa o=>cQ A j.2 o) (λ_ _ _ e=>e) λ_ _ e=>e)
def Kd.le_refl(k:Kd):k.le k=true:=by cases k <;> simp[Kd.le]
theorem RpK.length{p:Pn}{c f d:Hp}{own:Addr->Option Nat}:∀{vs:List V}{ks:List (Kd×D)},RpK p c own f d vs ks->⇑vs=⇑ks
 |_,_,.nil=>rfl
 |_,_,.cons _ t=>by rw[à,à,RpK.length t]
def La(t:DA):DE:=λρ P=>t ρ λks=>⇑ks<=1000/\P ((joins ks).join .new) (.list (ks.map (·.2)))
def yu(t:DA):DE:=λρ P=>t ρ λks=>⇑ks<=1000/\P (norm (joins ks) (.tuple (ks.map (·.2)))) (.tuple (ks.map (·.2)))
def cY(h:PDA X es t):PD X (.List es pos) (La t):=PE.wk (kh h) (by
 rintro σ H Q ⟨p,d,own,ρ,P,E,t,q⟩;refine⟨p,d,own,ρ,_,E,t,λks vs H1 h A r=>?_⟩;have f:=õ;have hl:=⇑r;refine⟨by have:=h.1;lia,λl hl=>?_⟩;let⟨c,g,i⟩:=A.new hl (.lst vs);have j:=gK (joins ks) .new;refine q _ _ _ _ h.2 (A.go c g) (.lst (cQ A j.2 i) aq ?_);exact(cO A c (RpK.all A (Kd.le_refl _) r)).mono (λa o=>cQ A j.1 o) (λ_ _ _ e=>e) λ_ _ e=>e)
def dH{x1}(h:PDA X es t):PD X (.Tuple es x1 pos) (yu t):=PE.wk (Ms h) (by
 rintro σ H Q ⟨p,d,own,ρ,P,E,t,q⟩;refine⟨p,d,own,ρ,_,E,t,λks vs H1 h A r=>?_⟩;have f:=õ;have hl:=⇑r;refine⟨by have:=h.1;lia,λl hl=>?_⟩;let⟨c,g,i⟩:=A.new hl (.tup vs);exact q _ _ _ _ h.2 (A.go c g) (aR (.tup aq (cO A c (RpK.all A (Kd.le_refl _) r)))))
abbrev GC:=List (Kd×D)->DK->Prop
def tCl(g:GC)(t:DA):DE:=λρ P=>t ρ λks=>g ks P
def OkC(g:GC)(r:List V->Hp->VK->Prop):Prop:=∀p H0 own Hb H vs ks P Q,At p H0 own Hb H->RpK p H0 own Hb H vs ks->g ks P ->
 (∀k d v H',P k d->Kp p H H'->p.PI H'->Rp (okK p H0 own Hb k) H' v d->Q v H')->r vs H Q
def Ur{g:GC}{r:List V->Hp->VK->Prop}(ok:OkC g r):∀σ H Q,aV (tCl g t) σ H Q->tCB r (iI t) σ H Q:=by
 rintro σ H Q ⟨p,c,own,ρ,P,E,t,q⟩;refine⟨p,c,own,ρ,_,E,t,λks vs H1 h A r=>?_⟩;exact ok p c own H H1 vs ks P Q A r h λk d v H' h2 k2 i2 r2=>q k d v H' h2 (A.go k2 i2) r2
def eN{r:List V->Hp->VK->Prop}{id:String}{x:Str}{ps:Pos}{g:GC}(hc:bU X (.builtin id) r)(ok:OkC g r)(hg:Gl X x)(hm:X.mg x=none)(hv:Z3 x=some (.builtin id))(ha:PDA X (e::es) t)(hn:x≠"__name__":=by decide)(hdb:zB x:=by decide)(he:zS X e es:=by rfl)(hpl:zP X pos es:=by rfl):PD X (.Call (.Name x ps) (e::es) [] pos) (tCl g t):=PE.wk (fZ hc hg hm hv ha hn hdb he hpl) (Ur ok)
def Cv{r:List V->Hp->VK->Prop}{id:String}{x:Str}{ps:Pos}{g:GC}(hc:bU X (.type id) r)(ok:OkC g r)(hg:Gl X x)(hm:X.mg x=none)(hv:Z3 x=some (.type id))(ha:PDA X (e::es) t)(hn:x≠"__name__":=by decide)(hdb:zB x:=by decide)(he:zS X e es:=by rfl)(hpl:zP X pos es:=by rfl):PD X (.Call (.Name x ps) (e::es) [] pos) (tCl g t):=PE.wk (mU hc hg hm hv ha hn hdb he hpl) (Ur ok)
def spD(t:fE):Sp:=λvs H Q _=>∃ds P,Rps (λ_=>True) H vs ds/\t ds P/\∀d v H',P d->Same H H'->Rp (λa=>H a=none) H' v d->Q v H'
def spP(C:Pn->Prop)(t:fE):Sp:=λvs H Q _=>∃p vs' ds P,C p/\vs=p.pv::vs'/\p.PI H/\Rps (λa=>¬p.fp a) H vs' ds/\t ds P/\∀d v H',P d->Kp p H H'->p.PI H'->Rp (λa=>H a=none) H' v d->Q v H'
def tFn(f:fE)(t:DA):DE:=λρ P=>t ρ λks=>f (ks.map (·.2)) λd=>P (norm .new d) d
theorem RpK.rps{p:Pn}{c f H d:Hp}{own:Addr->Option Nat}(A:At p c own f H):∀{vs:List V}{ks:List (Kd×D)},RpK p c own f d vs ks->Rps (λa=>¬p.fp a) d vs (ks.map (·.2))
 |_,_,.nil=>.nil
 |_,_,.cons h t=>.cons (h.mono (λa o=>jP A o) (λ_ _ _ e=>e) λ_ _ e=>e) (RpK.rps A t)
def Sg{f:fE}:∀σ H Q,aV (tFn f t) σ H Q->uy (spD f) [] E0 (iI t) σ H Q:=by
 rintro σ H Q ⟨p,c,own,ρ,P,E,t,q⟩;refine⟨p,c,own,ρ,_,E,t,λks vs H1 h A r=>?_⟩;show spD f (vs++[]) H1 Q E0;rw[í];refine⟨ks.map (·.2),_,(RpK.rps A r).mono (λ_ _=>trivial) (λ_ _ _ e=>e) λ_ _ e=>e,h,λd v H' h2 s r2=>?_⟩;have g:Kp p H1 H':=Kp.of s;refine q _ d v H' h2 (A.go g (p.mono H1 H' A.pen λb o _ e=>s b o e)) (aR ?_);exact r2.mono (λa o=>A.free o) (λ_ _ _ e=>e) λ_ _ e=>e
def Lb(C:Pn->Prop)(f:fE)(i:Nat)(t:DA):DE:=λρ P=>ρ[i]?=some (.pen C)/\tFn f t ρ P
def Oq{C:Pn->Prop}{f:fE}{i:Nat}:∀σ H Q,aV (Lb C f i t) σ H Q->uy (spP C f) [] E0 (uw (iY i) (iI t)) σ H Q:=by
 rintro σ H Q ⟨p,g,own,ρ,P,E,⟨hp,t⟩,q⟩;let⟨hs,c⟩:=E.slot i _ hp;refine⟨p.pv,hs,p,g,own,ρ,_,E,t,λks vs H1 h A r=>?_⟩;show spP C f ((p.pv::vs)++[]) H1 Q E0;rw[í];refine⟨p,vs,ks.map (·.2),_,c,rfl,A.pen,RpK.rps A r,h,λd v H' h2 k2 i2 r2=>?_⟩;exact q _ d v H' h2 (A.go k2 i2) (aR (r2.mono (λa o=>A.free o) (λ_ _ _ e=>e) λ_ _ e=>e))
def gI(C:Int->Int->Prop)(f:Int->Int->D):G2:=λ_ d1 _ d2 P=>match d1,d2 with
 |.int i,.int j=>C i j/\P .imm (f i j)
 |_,_=>False
def gI0(f:Int->Int->D):G2:=λ_ d1 _ d2 P=>match d1,d2 with
 |.int i,.int j=>P .imm (f i j)
 |_,_=>False
def okI{C:Int->Int->Prop}{f:Int->Int->D}{g:Int->Int->V}(h:∀i j H,Rp (λ_=>False) H (g i j) (f i j)):Ok2 (gI C f) (rI C g):=by
 intro p k own l H x y o m r n P Q A c d t q;unfold gI at t;split at t
 ·rename_i i j;exact⟨i,j,c.int',d.int',t.1,q _ _ _ _ t.2 Kp.refl A.pen (h i j H)⟩
 ·exact t.elim
def zN{f:Int->Int->D}{g:Int->Int->V}(h:∀i j H,Rp (λ_=>False) H (g i j) (f i j)):Ok2 (gI0 f) (rI0 g):=by
 intro p k own l H x y o m r n P Q A c d t q;unfold gI0 at t;split at t
 ·rename_i i j;exact⟨i,j,c.int',d.int',q _ _ _ _ t Kp.refl A.pen (h i j H)⟩
 ·exact t.elim
def kO(ha:PD X a ta)(hb:PD X b tb):PD X (.BinOp a .Add b pos) (t2 (gI0 λi j=>.int (i+j)) ta tb):=oh jO (zN λi j _=>.int _) ha hb
def cV(ha:PD X a ta)(hb:PD X b tb):PD X (.BinOp a .Sub b pos) (t2 (gI0 λi j=>.int (i - j)) ta tb):=oh V6 (zN λi j _=>.int _) ha hb
def MN(ha:PD X a ta)(hb:PD X b tb):PD X (.BinOp a .Mult b pos) (t2 (gI QF λi j=>.int (i * j)) ta tb):=oh oW (okI λi j _=>.int _) ha hb
def Rx(ha:PD X a ta)(hb:PD X b tb):PD X (.BinOp a .FloorDiv b pos) (t2 (gI aas λi j=>.int (i / j)) ta tb):=oh zm (okI λi j _=>.int _) ha hb
def V2(ha:PD X a ta)(hb:PD X b tb):PD X (.BinOp a .Mod b pos) (t2 (gI (λ_ j=>0<j) λi j=>.int (i % j)) ta tb):=oh jN (okI λi j _=>.int _) ha hb
def YT(ha:PD X a ta)(hb:PD X b tb):PD X (.Compare a [.Lt] [b] pos) (t2 (gI0 λi j=>.bool (decide (i<j))) ta tb):=jM ou (zN λi j _=>.bl _) ha hb (cG _)
def MP(ha:PD X a ta)(hb:PD X b tb):PD X (.Compare a [.LtE] [b] pos) (t2 (gI0 λi j=>.bool (decide (i<=j))) ta tb):=jM T9 (zN λi j _=>.bl _) ha hb (cG _)
def M5(ha:PD X a ta)(hb:PD X b tb):PD X (.Compare a [.GtE] [b] pos) (t2 (gI0 λi j=>.bool (decide (j<=i))) ta tb):=jM Nm (zN λi j _=>.bl _) ha hb (cG _)
def uQ(ha:PD X a ta)(hb:PD X b tb):PDT X (.Compare a [.Lt] [b] pos) (dZ (t2 (gI0 λi j=>.bool (decide (i<j))) ta tb)):=gH ou (zN λi j _=>.bl _) ha hb (cG _)
def iz(ha:PD X a ta)(hb:PD X b tb):PDT X (.Compare a [.Gt] [b] pos) (dZ (t2 (gI0 λi j=>.bool (decide (j<i))) ta tb)):=gH Ua (zN λi j _=>.bl _) ha hb (cG _)
def Fz(ha:PD X a ta)(hb:PD X b tb):PDT X (.Compare a [.GtE] [b] pos) (dZ (t2 (gI0 λi j=>.bool (decide (j<=i))) ta tb)):=gH Nm (zN λi j _=>.bl _) ha hb (cG _)
def scD:D->D->Option Bool
 |.int i,.int j=>some (decide (i=j))
 |.bool i,.bool j=>some (decide (i=j))
 |.str i,.str j=>some (decide (i=j))
 |_,_=>none
def gEq(neg:Bool):G2:=λ_ d1 _ d2 P=>match scD d1 d2 with
 |some b=>P .imm (.bool (if neg then !b else b))
 |none=>False
def Wj:Ok2 (gEq false) rEq:=by
 intro p g own h H x y m k n l P Q A d f t q;unfold gEq scD at t;split at t
 ·rename_i b e;split at e <;> first|cases e|skip
  ·rw[d.int',f.int'];refine⟨rfl,?_⟩;have c:∀i j:Int,decide (V.int i=V.int j)=decide (i=j):=λi j=>by simp
   rw[c];exact q _ _ _ _ t Kp.refl A.pen (.bl _)
  ·rw[d.bl',f.bl'];refine⟨rfl,?_⟩;have c:∀i j:Bool,decide (V.bl i=V.bl j)=decide (i=j):=λi j=>by simp
   rw[c];exact q _ _ _ _ t Kp.refl A.pen (.bl _)
  ·rw[d.str',f.str'];refine⟨rfl,?_⟩;have c:∀i j:Str,decide (V.str i=V.str j)=decide (i=j):=λi j=>by simp
   rw[c];exact q _ _ _ _ t Kp.refl A.pen (.bl _)
 ·exact t.elim
def Wi:Ok2 (gEq true) rNe:=by
 intro p g own h H x y m k n l P Q A d f t q;unfold gEq scD at t;split at t
 ·rename_i b e;split at e <;> first|cases e|skip
  ·rw[d.int',f.int'];refine⟨rfl,?_⟩;have c:∀i j:Int,decide (V.int i=V.int j)=decide (i=j):=λi j=>by simp
   rw[c];exact q _ _ _ _ t Kp.refl A.pen (.bl _)
  ·rw[d.bl',f.bl'];refine⟨rfl,?_⟩;have c:∀i j:Bool,decide (V.bl i=V.bl j)=decide (i=j):=λi j=>by simp
   rw[c];exact q _ _ _ _ t Kp.refl A.pen (.bl _)
  ·rw[d.str',f.str'];refine⟨rfl,?_⟩;have c:∀i j:Str,decide (V.str i=V.str j)=decide (i=j):=λi j=>by simp
   rw[c];exact q _ _ _ _ t Kp.refl A.pen (.bl _)
 ·exact t.elim
def YW(ha:PD X a ta)(hb:PD X b tb):PD X (.Compare a [.Eq] [b] pos) (t2 (gEq false) ta tb):=jM xr Wj ha hb (cG _)
def YS(ha:PD X a ta)(hb:PD X b tb):PD X (.Compare a [.NotEq] [b] pos) (t2 (gEq true) ta tb):=jM HN Wi ha hb (cG _)
def MK(ha:PD X a ta)(hb:PD X b tb):PDT X (.Compare a [.Eq] [b] pos) (dZ (t2 (gEq false) ta tb)):=gH xr Wj ha hb (cG _)
def MJ(ha:PD X a ta)(hb:PD X b tb):PDT X (.Compare a [.NotEq] [b] pos) (dZ (t2 (gEq true) ta tb)):=gH HN Wi ha hb (cG _)
def gIx:G2:=λk1 d1 _ d2 P=>match d1,d2 with
 |.list ds,.int i=>∃d,atI ds i=some d/\P (norm k1 d) d
 |.tuple ds,.int i=>∃d,atI ds i=some d/\P (norm k1 d) d
 |_,_=>False
def Rps.atI{ok:Addr->Prop}{H:Hp}{vs:List V}{ds:gg}{i:Int}{d:D}(r:Rps ok H vs ds)(h:L2.atI ds i=some d):∃v,L2.atI vs i=some v/\Rp ok H v d:=by
 unfold L2.atI at h ⊢;rw[⇑r];cases e:ixN ⇑ds i with
 |none=>rw[e]at h;cases h
 |some j =>
  rw[e]at h;let⟨v,h1,h2⟩:=r.getD (i:=j) (d:=d) h;exact⟨v,h1,h2⟩
def Zu:G2:=λk1 d1 _ d2 P=>match d1,d2 with
 |.list ds,.int i=>∃d,atI ds i=some d/\P (norm k1 d) d
 |_,_=>False
def Zt:G2:=λk1 d1 _ d2 P=>match d1,d2 with
 |.tuple ds,.int i=>∃d,atI ds i=some d/\P (norm k1 d) d
 |_,_=>False
def jd(ha:PD X a ta)(hb:PD X b tb)(hs:nM b):PD X (.Subscript a b pos) (t2 Zu ta tb):=PE.wk (gD dh ha hb hs) (xK (by
 intro p k own l H x y r m s n P Q A f g t q;unfold Zu at t;split at t
 ·rename_i ds i;let⟨d,hd,t⟩:=t;let⟨c,vs,rfl,o,hc,h⟩:=f.bT;let⟨v,hv,j⟩:=h.atI hd;exact⟨c,vs,i,v,rfl,g.int',SqL.of hc,hv,q _ _ _ _ t Kp.refl A.pen (aR j)⟩
 ·exact t.elim))
def kI(ha:PD X a ta)(hb:PD X b tb)(hs:nM b):PD X (.Subscript a b pos) (t2 Zt ta tb):=PE.wk (gD Af ha hb hs) (xK (by
 intro p k own l H x y o m r n P Q A f g t q;unfold Zt at t;split at t
 ·rename_i ds i;let⟨d,hd,t⟩:=t;let⟨c,vs,rfl,hc,h⟩:=f.fj;let⟨v,hv,j⟩:=h.atI hd;exact⟨c,vs,i,v,rfl,g.int',SqT.of hc,hv,q _ _ _ _ t Kp.refl A.pen (aR j)⟩
 ·exact t.elim))
def gq{p:Pn}{d f H:Hp}{own:Addr->Option Nat}{vs:List V}{c:Kd×D}(r:RpK p d own f H vs [c]):∃v,vs=[v]/\Rp (okK p d own f c.1) H v c.2:=by
 cases r with
 |cons h t=>cases t;exact⟨_,rfl,h⟩
def Q7{p:Pn}{c d H:Hp}{own:Addr->Option Nat}{vs:List V}{f g:Kd×D}(r:RpK p c own d H vs [f,g]):∃v w,vs=[v,w]/\Rp (okK p c own d f.1) H v f.2/\Rp (okK p c own d g.1) H w g.2:=by
 cases r with
 |cons h t =>
  cases t with
  |cons h2 t2=>cases t2;exact⟨_,_,rfl,h,h2⟩
def S5:GC:=λks P=>match ks with
 |[(_,.list ds)]=>P .imm (.int ⇑ds)
 |[(_,.tuple ds)]=>P .imm (.int ⇑ds)
 |_=>False
def Y7{K:Ý}:OkC S5 (λxs H Q=>∃p ys,xs=[.ref p]/\(SqL K H p ys\/SqT K H p ys)/\Q (.int ⇑ys) H):=by
 intro p g own h H vs ks P Q A r t q;unfold S5 at t;split at t
 ·let⟨v,rfl,d⟩:=gq r;let⟨c,vs,rfl,o,hc,f⟩:=d.bT;exact⟨c,vs,rfl,.inl (SqL.of hc),by rw[⇑f];exact q _ _ _ _ t Kp.refl A.pen (.int _)⟩
 ·let⟨v,rfl,d⟩:=gq r;let⟨c,vs,rfl,hc,f⟩:=d.fj;exact⟨c,vs,rfl,.inr (SqT.of hc),by rw[⇑f];exact q _ _ _ _ t Kp.refl A.pen (.int _)⟩
 ·exact t.elim
def dR{ps:Pos}(hm:X.mg "len"=none)(ha:PDA X [a] t)(hg:Gl X "len":=by rfl)(he:zS X a []:=by rfl)(hpl:zP X pos []:=by rfl):PD X (.Call (.Name "len" ps) [a] [] pos) (tCl S5 t) :=
 eN gR Y7 hg hm PySem.boot_len ha ∅ ∅ he hpl
end
variable [Gr]
section
variable{ok ok':Addr->Prop}{H H':Hp}
mutual
theorem Rp.cW(f:∀a o,ok a->H a=some o->ok' a/\H' a=some o)(t:∀a xs,H a=some (.tup xs)->H' a=some (.tup xs)):∀{v:V}{d:D},Rp ok H v d->Rp ok' H' v d
 |_,_,.non=>.non
 |_,_,.bl b=>.bl b
 |_,_,.int i=>.int i
 |_,_,.str x=>.str x
 |_,_,.lst o h r=>.lst (f _ _ o h).1 (f _ _ o h).2 (Rps.cW f t r)
 |_,_,.tup h r=>.tup (t _ _ h) (Rps.cW f t r)
 |_,_,.dct o h r=>.dct (f _ _ o h).1 (f _ _ o h).2 (Rkv.cW f t r)
theorem Rps.cW(f:∀a o,ok a->H a=some o->ok' a/\H' a=some o)(t:∀a xs,H a=some (.tup xs)->H' a=some (.tup xs)):∀{v:List V}{d:gg},Rps ok H v d->Rps ok' H' v d
 |_,_,.nil=>.nil
 |_,_,.cons h r=>.cons (Rp.cW f t h) (Rps.cW f t r)
theorem Rkv.cW(f:∀a o,ok a->H a=some o->ok' a/\H' a=some o)(t:∀a xs,H a=some (.tup xs)->H' a=some (.tup xs)):∀{v:List (Key×V)}{d:List (D×D)},Rkv ok H v d->Rkv ok' H' v d
 |_,_,.nil=>.nil
 |_,_,.cons h r=>.cons (Rp.cW f t h) (Rkv.cW f t r)
end
end
structure DEnds where
 nx:List Sl->Prop
 rt:D->Prop
 bk:List Sl->Prop:=λ_=>False
 ct:List Sl->Prop:=λ_=>False
abbrev DS:=DEnds->List Sl->Prop
structure FrS(p:Pn)(own:Addr->Option Nat)(H:Hp)(own':Addr->Option Nat)(H':Hp):Prop where
 keep:∀b o,H b=some o->¬p.fp b->own b=none->H' b=some o/\own' b=none
 tup:∀a xs,H a=some (.tup xs)->H' a=some (.tup xs)
def FrS.trans{p:Pn}{i j k:Addr->Option Nat}{d f g:Hp}(a:FrS p i d j f)(b:FrS p j f k g):FrS p i d k g:=⟨λc o h n e=>let⟨x,y⟩:=a.keep c o h n e;b.keep c o x n y,λc xs e=>b.tup c xs (a.tup c xs e)⟩
def FrS.refl{p:Pn}{b:Addr->Option Nat}{a:Hp}:FrS p b a b a:=⟨λ_ _ h _ e=>⟨h,e⟩,λ_ _ e=>e⟩
def At.tups{p:Pn}{c H b:Hp}{own:Addr->Option Nat}(A:At p c own H b):∀a xs,H a=some (.tup xs)->b a=some (.tup xs):=jg (⟨A.k0,Kp.refl,A.penb,A.penb,A.ow⟩:At p c own H H) A.kp
structure RPost(p:Pn)(H0 H':Hp)(v:V)(d:D):Prop where
 k0:∀b o,H0 b=some o->¬p.fp b->H' b=some o
 pen:p.PI H'
 rp:Rp (λa=>H0 a=none/\¬p.fp a) H' v d
structure Wish(p:Pn)(H0:Hp)(own:Addr->Option Nat)(H:Hp)(P:DEnds)(Q:Ends):Prop where
 nx:∀own' σ' H' ρ',EnvD p H0 own' σ' H' ρ'->FrS p own H own' H'->P.nx ρ'->Q.nx σ' H'
 rt:∀d v H',P.rt d->RPost p H0 H' v d->Q.rt v H'
 bk:∀own' σ' H' ρ',EnvD p H0 own' σ' H' ρ'->FrS p own H own' H'->P.bk ρ'->Q.bk σ' H'
 ct:∀own' σ' H' ρ',EnvD p H0 own' σ' H' ρ'->FrS p own H own' H'->P.ct ρ'->Q.ct σ' H'
def Wish.go{p:Pn}{c H b:Hp}{own a:Addr->Option Nat}{P:DEnds}{Q:Ends}(w:Wish p c own H P Q)(f:FrS p own H a b):Wish p c a b P Q :=
 ⟨λo s h r e g n=>w.nx o s h r e (f.trans g) n,w.rt,λo s h r e g n=>w.bk o s h r e (f.trans g) n,λo s h r e g n=>w.ct o s h r e (f.trans g) n⟩
def ql(t:DS):TS:=λQ σ H=>∃p H0 own ρ P,EnvD p H0 own σ H ρ/\t P ρ/\Wish p H0 own H P Q
abbrev PDS(X:Cx)(st:XB)(t:DS):Prop:=PS X st (ql t)
abbrev jk(X:Cx)(st:List XB)(t:DS):Prop:=PSs X st (ql t)
def PSs.wk'{X:Cx}{a:List XB}{t t':TS}(h:PSs X a t)(w:∀D σ H,t' D σ H->t D σ H):PSs X a t':=λpins s σ H D I q=>h pins s σ H D I (w D σ H q)
def PS.wk'{X:Cx}{a:XB}{t t':TS}(h:PS X a t)(w:∀D σ H,t' D σ H->t D σ H):PS X a t':=λpins s σ H D I q=>h pins s σ H D I (w D σ H q)
def At.frs{p:Pn}{c H a:Hp}{own:Addr->Option Nat}(A:At p c own H a):FrS p own H own a:=⟨λb o h n e=>⟨A.kp b o h n,e⟩,A.tups⟩
section
variable{pos:Pos}{st:XB}{rest:List XB}{e:YE}{te:DE}{t u:DS}
def vV:DS:=λP ρ=>P.nx ρ
def Bb(t u:DS):DS:=λP ρ=>t { P with nx:=u P } ρ
def jh:jk X [] vV:=PSs.wk' mR (by
 rintro Q σ H ⟨p,a,own,ρ,P,E,t,w⟩;exact w.nx own σ H ρ E FrS.refl t)
def aL(h1:PDS X st t)(h2:jk X rest u):jk X (st::rest) (Bb t u):=PSs.wk' (uL h1 h2) (by
 rintro Q σ H ⟨p,a,own,ρ,P,E,t,w⟩;exact⟨p,a,own,ρ,_,E,t,⟨λo s h r e g n=>⟨p,a,o,r,P,e,n,w.go g⟩,w.rt,w.bk,w.ct⟩⟩)
def aM(h1:PDS X st t):jk X [st] t:=bW h1
def qy:PDS X st (λ_ _=>False):=PS.wk' Mg (by
 rintro Q σ H ⟨p,a,own,ρ,P,E,t,w⟩;exact t)
def Bd(te:DE):DS:=λP ρ=>te ρ λk d=>k.le .n0=true/\P.rt d
def bw(he:PD X e te):PDS X (.Return (some e) pos) (Bd te):=PS.wk' (iZ he) (by
 rintro Q σ H ⟨p,a,own,ρ,P,E,t,w⟩;refine⟨p,a,own,ρ,_,E,t,λk d v H' h A r=>w.rt d v H' h.2 ⟨λb o e n=>A.kp b o (A.k0 b o e n) n,A.pen,?_⟩⟩;exact nZ A h.1 r)
def dIf(c:DT)(t u:DS):DS:=λP ρ=>c ρ λb=>if b=true then t P ρ else u P ρ
theorem oK{c:YE}{a b:List XB}{f:DT}(hc:PDT X c f)(ha:jk X a t)(hb:jk X b u):PDS X (.If c a b pos) (dIf f t u):=PS.wk' (uM hc ha hb) (by
 rintro Q σ H ⟨p,d,own,ρ,P,E,t,w⟩;refine⟨p,d,own,ρ,_,E,t,λb H' h A=>?_⟩;cases b with
 |true=>exact aF ⟨p,d,own,ρ,P,E.go A.kp A.pen,↑h,w.go A.frs⟩
 |false=>exact aJ ⟨p,d,own,ρ,P,E.go A.kp A.pen,↑h,w.go A.frs⟩)
def UW(te:DE):DS:=λP ρ=>te ρ λ_ _=>P.nx ρ
def tW(he:PD X e te)(hs:XV e none pos.line X.env=pure false:=by rfl):PDS X (.Expr e pos) (UW te):=PS.wk' (bY he hs) (by
 rintro Q σ H ⟨p,a,own,ρ,P,E,t,w⟩;exact⟨p,a,own,ρ,_,E,t,λk d v H' h A r=>w.nx own σ H' ρ (E.go A.kp A.pen) A.frs h⟩)
def Sl.region:Sl->Option Nat
 |.dw r _=>some r
 |.rw r _=>some r
 |.tw r _=>some r
 |.sp r _ _=>some r
 |_=>none
def iV(r:Nat)(ρ:List Sl)(i:Nat):Bool:=(ρ.set i .any).all λs=>s.region != some r
def stK(rg:Option Nat)(ρ:List Sl)(i:Nat)(k:Kd)(d:D):Option Sl:=match k with
 |.imm=>some (.im d)
 |.new=>match rg with
  |some r=>if iV r ρ i=true then some (.dw r d)else none
  |none=>some (.sn d)
 |.reg r=>some (.dw r d)
 |.snw=>some (.sn d)
 |.shr=>some (.sh d)
 |_=>none
def GK(i:Nat)(rg:Option Nat)(te:DE):DS:=λP ρ=>te ρ λk d=>match stK rg ρ i (norm k d) d with
 |some s=>P.nx (ρ.set i s)
 |none=>False
section
variable{p:Pn}{H0 H H1:Hp}{own:Addr->Option Nat}{σ:L2.St}{ρ:List Sl}{i:Nat}
def EnvD.set{v:V}{s:Sl}(E:EnvD p H0 own σ H ρ)(hs:i<⇑σ->mH p H0 own (σ.set i (some v)) H i s):EnvD p H0 own (σ.set i (some v)) H (ρ.set i s):=by
 refine⟨E.k0,E.pen,E.ow,λj s' e=>?_,↑E.len,E.gr⟩;by_cases a:j=i
 ·subst a;have hl:j<⇑ρ:=by
   have:=(È.mp e).1;simpa using this
  rw[ğ hl]at e;cases e;exact hs (by rw[←E.len];exact hl)
 ·rw[Ň (ĝ a)]at e;have q:=E.slot j s' e;have b:(σ.set i (some v))[j]?=σ[j]?:=Ň (ĝ a);cases s' <;> simp only[mH,b]at q ⊢ <;> exact q
def dX(r:Nat)(H H1:Hp)(own:Addr->Option Nat):Addr->Option Nat:=λa=>match H a,H1 a with
 |none,some _=>some r
 |_,_=>own a
def bL{r:Nat}{a:Addr}{o:HO}(h:H a=some o):dX r H H1 own a=own a:=by unfold dX;rw[h]
def jG{r:Nat}{a:Addr}{o:HO}(h:H a=none)(h1:H1 a=some o):dX r H H1 own a=some r:=by unfold dX;rw[h,h1]
def EnvD.adopt(r:Nat)(E:EnvD p H0 own σ H ρ)(A:At p H0 own H H1):EnvD p H0 (dX r H H1 own) σ H1 ρ:=by
 have g:=jg E.at A.kp;refine⟨λb o e n=>A.kp b o (E.k0 b o e n) n,A.pen,λa q e=>?_,λj s e=>?_,E.len,E.gr⟩
 ·cases h:H a with
  |some o =>
   rw[bL h]at e;let⟨x,y,z⟩:=E.ow a q e;refine⟨x,y,by rw[A.kp a o h y];exact λz=>nomatch z⟩
  |none =>
   cases h1:H1 a with
   |none =>
    have k:own a=some q:=by rw[←e];unfold dX;rw[h,h1]
    exact ft h (E.ow a q k).2.2
   |some o=>exact⟨E.at.h0 h,E.at.nfb h,λz=>nomatch z⟩
 ·have q:=E.slot j s e;cases s with
  |any=>trivial
  |im d=>exact let⟨v,a,b⟩:=q;⟨v,a,b.mono (λ_ o=>o) (λ_ _ o=>o.elim) g⟩
  |sh d=>exact let⟨v,a,b⟩:=q;⟨v,a,b.cW (λc o n h=>⟨⟨n.1,by rw[bL h];exact n.2⟩,A.kp c o h n.1⟩) g⟩
  |sn d=>exact let⟨v,a,b⟩:=q;⟨v,a,b.cW (λc o n h=>⟨⟨n.1,n.2.1,by rw[bL h];exact n.2.2⟩,A.kp c o h n.2.1⟩) g⟩
  |dw f d=>exact let⟨v,a,b⟩:=q;⟨v,a,b.cW (λc o n h=>⟨by rw[bL h];exact n,A.kp c o h (E.ow c f n).2.1⟩) g⟩
  |pen C=>exact q
  |rw f L=>exact let⟨st,as,a,b⟩:=q;⟨st,as,a,b.mono (λc o n h=>⟨by rw[bL h];exact n,A.kp c o h (E.ow c f n).2.1⟩) g⟩
  |tw f L=>exact let⟨st,as,a,b⟩:=q;⟨st,as,a,b.mono (λc o n h=>⟨by rw[bL h];exact n,A.kp c o h (E.ow c f n).2.1⟩) g⟩
  |scr v b=>exact q
  |sp f b ds=>exact let⟨l,vs,a,o,h,z⟩:=q;⟨l,vs,a,by rw[bL h];exact o,A.kp l _ h (E.ow l f o).2.1,z.cW (λc u n e=>⟨⟨n.1,n.2.1,by rw[bL e];exact n.2.2⟩,A.kp c u e n.2.1⟩) g⟩
def QB{r:Nat}{k:Kd}{v:V}{d:D}(h:k.le .new=true)(A:At p H0 own H H1)(x:Rp (okK p H0 own H k) H1 v d):Rp (λa=>dX r H H1 own a=some r) H1 v d :=
 (nZ A h x).cW (λa o n e=>⟨jG n e,e⟩) λ_ _ e=>e
def nJ{r:Nat}(A:At p H0 own H H1):FrS p own H (dX r H H1 own) H1:=⟨λb o h n e=>⟨A.kp b o h n,by rw[bL h];exact e⟩,A.tups⟩
def EnvD.drop(E:EnvD p H0 own σ H ρ):EnvD p H0 own σ H (ρ.set i .any):=by
 refine⟨E.k0,E.pen,E.ow,λj s' e=>?_,↑E.len,E.gr⟩;by_cases a:j=i
 ·subst a;have hl:j<⇑ρ:=by
   have:=(È.mp e).1;simpa using this
  rw[ğ hl]at e;cases e;trivial
 ·rw[Ň (ĝ a)]at e;exact E.slot j s' e
def aU(r:Nat)(own:Addr->Option Nat):Addr->Option Nat:=λa=>if own a=some r then none else own a
def EnvD.clear{r:Nat}(E:EnvD p H0 own σ H ρ)(h:ρ.all (λs=>s.region != some r)=true):EnvD p H0 (aU r own) σ H ρ:=by
 refine⟨E.k0,E.pen,λa q e=>?_,λj s e=>?_,E.len,E.gr⟩
 ·unfold aU at e;split at e
  ·cases e
  ·exact E.ow a q e
 ·have q:=E.slot j s e;have z:=Ċ.mp h s (Î e);have g:∀a,own a=none->aU r own a=none:=λa n=>by unfold aU;rw[n];simp
  cases s with
  |any=>trivial
  |im d=>exact q
  |sh d=>exact let⟨v,a,b⟩:=q;⟨v,a,b.mono (λc n=>⟨n.1,g c n.2⟩) (λ_ _ _ e=>e) λ_ _ e=>e⟩
  |sn d=>exact let⟨v,a,b⟩:=q;⟨v,a,b.mono (λc n=>⟨n.1,n.2.1,g c n.2.2⟩) (λ_ _ _ e=>e) λ_ _ e=>e⟩
  |dw r' d =>
   have f:r'≠r:=by simpa[Sl.region]using z
   exact let⟨v,a,b⟩:=q;⟨v,a,b.mono (λc n=>by unfold aU;rw[n,fq ↑f]) (λ_ _ _ e=>e) λ_ _ e=>e⟩
  |pen C=>exact q
  |rw r' L =>
   have f:r'≠r:=by simpa[Sl.region]using z
   exact let⟨st,as,a,b⟩:=q;⟨st,as,a,b.mono (λc o n e=>⟨by unfold aU;rw[n,fq ↑f],e⟩) λ_ _ e=>e⟩
  |tw r' L =>
   have f:r'≠r:=by simpa[Sl.region]using z
   exact let⟨st,as,a,b⟩:=q;⟨st,as,a,b.mono (λc o n e=>⟨by unfold aU;rw[n,fq ↑f],e⟩) λ_ _ e=>e⟩
  |scr v b=>exact q
  |sp r' b ds =>
   have f:r'≠r:=by simpa[Sl.region]using z
   exact let⟨l,vs,a,o,h,y⟩:=q;⟨l,vs,a,by unfold aU;rw[o,fq ↑f],h,y.mono (λc n=>⟨n.1,n.2.1,g c n.2.2⟩) (λ_ _ _ e=>e) λ_ _ e=>e⟩
def gZ{r:Nat}:FrS p own H (aU r own) H:=⟨λb o h n e=>⟨h,by unfold aU;rw[e];simp⟩,λ_ _ e=>e⟩
end
def bI{i:Nat}(rg:Option Nat)(h:PS X st (wD (aV te) (lV i))):PDS X st (GK i rg te):=PS.wk' h (by
 rintro Q σ H ⟨p,c,own,ρ,P,E,t,w⟩;refine⟨p,c,own,ρ,_,E,t,λk d v H1 h A r=>?_⟩;have r:=aR r;generalize norm k d=m at h r;show Q.nx (σ.set i (some v)) H1;have n:=E.go A.kp A.pen;have b:∀s,mH p c own (σ.set i (some v)) H1 i s\/¬i<⇑σ->P.nx (ρ.set i s)->Q.nx (σ.set i (some v)) H1:=λs hs hn =>
  w.nx own _ H1 _ (n.set λhl=>hs.elim id λz=>ft hl z) A.frs hn
 have a:i<⇑σ->(σ.set i (some v))[i]?=some (some v):=λhl=>ğ hl;by_cases hl:i<⇑σ
 ·cases m with
  |imm=>exact b (.im d) (.inl ⟨v,a hl,r⟩) h
  |new =>
   cases rg with
   |none=>exact b (.sn d) (.inl ⟨v,a hl,nZ A (k:=.snw) rfl r⟩) h
   |some q =>
    simp only[stK]at h;by_cases g:iV q ρ i=true
    ·rw[fo g]at h;have j:EnvD p c (aU q own) σ H (ρ.set i .any):=(E.drop (i:=i)).clear g;have f:At p c (aU q own) H H1:=⟨A.k0,A.kp,A.penb,A.pen,j.ow⟩
     have o:=j.adopt q f;have x:Rp (okK p c (aU q own) H .new) H1 v d:=r;have l:EnvD p c (dX q H H1 (aU q own)) (σ.set i (some v)) H1 ((ρ.set i .any).set i (.dw q d)):=o.set λ_=>⟨v,a hl,QB (k:=.new) rfl f x⟩
     rw[List.set_set]at l;exact w.nx _ _ H1 _ l (gZ.trans (nJ f)) h
    ·rw[fq g]at h;exact h.elim
  |reg q=>exact b (.dw q d) (.inl ⟨v,a hl,r⟩) h
  |n0=>exact h.elim
  |snw=>exact b (.sn d) (.inl ⟨v,a hl,r⟩) h
  |shr=>exact b (.sh d) (.inl ⟨v,a hl,r⟩) h
  |wk=>exact h.elim
 ·cases hs:stK rg ρ i m d with
  |none=>rw[hs]at h;exact h.elim
  |some s=>rw[hs]at h;exact b s (.inr hl) h)
end
variable [Gr]
section
variable{ok ok':Addr->Prop}{H:Hp}
mutual
theorem Rp.inj:∀{v:V}{d d':D},Rp ok H v d->Rp ok' H v d'->d=d'
 |_,_,_,.non,.non=>rfl
 |_,_,_,.bl b,.bl _=>rfl
 |_,_,_,.int i,.int _=>rfl
 |_,_,_,.str x,.str _=>rfl
 |_,_,_,.lst o h r,.lst o' h' r'=>by
  rw[h]at h';cases h';rw[Rps.inj r r']
 |_,_,_,.lst o h r,.tup h' r'=>by rw[h]at h';cases h'
 |_,_,_,.lst o h r,.dct o' h' r'=>by rw[h]at h';cases h'
 |_,_,_,.tup h r,.lst o' h' r'=>by rw[h]at h';cases h'
 |_,_,_,.tup h r,.tup h' r'=>by
  rw[h]at h';cases h';rw[Rps.inj r r']
 |_,_,_,.tup h r,.dct o' h' r'=>by rw[h]at h';cases h'
 |_,_,_,.dct o h r,.lst o' h' r'=>by rw[h]at h';cases h'
 |_,_,_,.dct o h r,.tup h' r'=>by rw[h]at h';cases h'
 |_,_,_,.dct o h r,.dct o' h' r'=>by
  rw[h]at h';cases h';rw[Rkv.inj r r']
theorem Rps.inj:∀{v:List V}{d d':gg},Rps ok H v d->Rps ok' H v d'->d=d'
 |_,_,_,.nil,.nil=>rfl
 |_,_,_,.cons h t,.cons h' t'=>by rw[Rp.inj h h',Rps.inj t t']
theorem Rkv.inj:∀{v:List (Key×V)}{d d':List (D×D)},Rkv ok H v d->Rkv ok' H v d'->d=d'
 |_,_,_,.nil,.nil=>rfl
 |_,_,_,.cons h t,.cons h' t'=>by rw[Rp.inj h h',Rkv.inj t t']
end
variable{l:Addr}{T:D}
mutual
theorem Rp.avoid(c:Rp ok' H (.ref l) T):∀{v:V}{d:D},Rp ok H v d->sizeOf d<sizeOf T->Rp (λa=>ok a/\a≠l) H v d
 |_,_,.non,_=>.non
 |_,_,.bl b,_=>.bl b
 |_,_,.int i,_=>.int i
 |_,_,.str x,_=>.str x
 |_,_,.lst (ds:=ds) o h r,s=>.lst ⟨o,λz=>by
   subst z;have e:=Rp.inj (Rp.lst o h r) c;rw[e]at s;exact ft s (Ę _)⟩ h (Rps.avoid c r (by simp only[PyData.list.sizeOf_spec]at s;lia))
 |_,_,.tup (ds:=ds) h r,s=>.tup h (Rps.avoid c r (by simp only[PyData.tuple.sizeOf_spec]at s;lia))
 |_,_,.dct (ds:=ds) o h r,s=>.dct ⟨o,λz=>by
   subst z;have e:=Rp.inj (Rp.dct o h r) c;rw[e]at s;exact ft s (Ę _)⟩ h (Rkv.avoid c r (by simp only[PyData.dict.sizeOf_spec]at s;lia))
theorem Rps.avoid(b:Rp ok' H (.ref l) T):∀{v:List V}{d:gg},Rps ok H v d->sizeOf d<sizeOf T->Rps (λa=>ok a/\a≠l) H v d
 |_,_,.nil,_=>.nil
 |_,_,.cons h t,s=>.cons (Rp.avoid b h (by simp only[List.cons.sizeOf_spec]at s;lia)) (Rps.avoid b t (by simp only[List.cons.sizeOf_spec]at s;lia))
theorem Rkv.avoid(b:Rp ok' H (.ref l) T):∀{v:List (Key×V)}{d:List (D×D)},Rkv ok H v d->sizeOf d<sizeOf T->Rkv (λa=>ok a/\a≠l) H v d
 |_,_,.nil,_=>.nil
 |_,_,.cons h t,s=>.cons (Rp.avoid b h (by simp only[List.cons.sizeOf_spec,Prod.mk.sizeOf_spec]at s;lia)) (Rkv.avoid b t (by simp only[List.cons.sizeOf_spec]at s;lia))
end
end
def forget(r:Nat)(ρ:List Sl):List Sl:=ρ.map λs=>if s.region=some r then .any else s
section
variable{p:Pn}{H0 H H1:Hp}{own:Addr->Option Nat}{σ:L2.St}{ρ:List Sl}{i:Nat}
def EnvD.write{r:Nat}{l:Addr}{u o':HO}(E:EnvD p H0 own σ H ρ)(hl:own l=some r)(w:H l=some u)(hu:∀xs,u≠.tup xs)(hc:¬Fxd u:=by rintro⟨_,_,z⟩;cases z):EnvD p H0 own σ (upd H l o') (forget r ρ):=by
 have t:=E.ow l r hl;have m:∀a xs,H a=some (.tup xs)->upd H l o' a=some (.tup xs):=λa xs e=>by
  rw[ao];exact e;intro z;subst z;rw[w]at e;exact hu xs (ß e)
 refine⟨λb o e n=>?_,p.mono H _ E.pen λb o f e=>?_,λa q e=>?_,λj s e=>?_,by unfold forget;rw[À];exact E.len,E.gr⟩
 ·rw[ao];exact E.k0 b o e n;intro z;subst z;rw[t.1]at e;cases e
 ·rw[ao];exact e;intro z;subst z;exact f.elim t.2.1 λc=>hc (by rw[w]at e;cases e;exact c)
 ·let⟨x,y,z⟩:=E.ow a q e;refine⟨x,y,?_⟩;by_cases hh:a=l
  ·subst hh;rw[aq];exact λz=>nomatch z
  ·rw[ao hh];exact z
 ·unfold forget at e;rw[Þ]at e;cases hr:ρ[j]? with
  |none=>rw[hr]at e;cases e
  |some s0 =>
   rw[hr]at e;have e:=ß e;have q:=E.slot j s0 hr;have k:∀c,own c≠some r->c≠l:=λc n z=>by subst z;exact n hl
   cases s0 with
   |any=>simp only[Sl.region]at e;subst e;trivial
   |im d =>
    have e:Sl.im d=s:=e;subst e;exact let⟨v,a,b⟩:=q;⟨v,a,b.mono (λ_ o=>o) (λ_ _ o=>o.elim) m⟩
   |sh d =>
    have e:Sl.sh d=s:=e;subst e;exact let⟨v,a,b⟩:=q;⟨v,a,b.mono (λ_ o=>o) (λc o n e=>by rw[ao (k c (by rw[n.2];exact λz=>nomatch z))];exact e) m⟩
   |sn d =>
    have e:Sl.sn d=s:=e;subst e;exact let⟨v,a,b⟩:=q;⟨v,a,b.mono (λ_ o=>o) (λc o n e=>by rw[ao (k c (by rw[n.2.2];exact λz=>nomatch z))];exact e) m⟩
   |dw r' d =>
    by_cases g:r'=r
    ·subst g;have e:(if(some r':Option Nat)=some r' then Sl.any else Sl.dw r' d)=s:=e;rw[fo rfl]at e;subst e;trivial
    ·have e:(if(some r':Option Nat)=some r then Sl.any else Sl.dw r' d)=s:=e;rw[fq ↑g]at e;subst e;exact let⟨v,a,b⟩:=q;⟨v,a,b.mono (λ_ o=>o) (λc o n e=>by rw[ao (k c (by rw[n];simpa using g))];exact e) m⟩
   |pen C =>
    have e:Sl.pen C=s:=e;subst e;exact q
   |scr v b =>
    have e:Sl.scr v b=s:=e;subst e;exact q
   |sp r' b ds =>
    by_cases g:r'=r
    ·subst g;have e:(if(some r':Option Nat)=some r' then Sl.any else Sl.sp r' b ds)=s:=e;rw[fo rfl]at e;subst e;trivial
    ·have e:(if(some r':Option Nat)=some r then Sl.any else Sl.sp r' b ds)=s:=e;rw[fq ↑g]at e;subst e;exact let⟨l',vs,a,o,h,y⟩:=q;⟨l',vs,a,o,by rw[ao (k l' (by rw[o];simpa using g))];exact h,y.mono (λ_ o=>o) (λc o n e=>by rw[ao (k c (by rw[n.2.2];exact λz=>nomatch z))];exact e) m⟩
   |rw r' L =>
    by_cases g:r'=r
    ·subst g;have e:(if(some r':Option Nat)=some r' then Sl.any else Sl.rw r' L)=s:=e;rw[fo rfl]at e;subst e;trivial
    ·have e:(if(some r':Option Nat)=some r then Sl.any else Sl.rw r' L)=s:=e;rw[fq ↑g]at e;subst e;exact let⟨st,as,a,b⟩:=q;⟨st,as,a,b.mono (λc o n e=>⟨n,by rw[ao (k c (by rw[n];simpa using g))];exact e⟩) m⟩
   |tw r' L =>
    by_cases g:r'=r
    ·subst g;have e:(if(some r':Option Nat)=some r' then Sl.any else Sl.tw r' L)=s:=e;rw[fo rfl]at e;subst e;trivial
    ·have e:(if(some r':Option Nat)=some r then Sl.any else Sl.tw r' L)=s:=e;rw[fq ↑g]at e;subst e;exact let⟨st,as,a,b⟩:=q;⟨st,as,a,b.mono (λc o n e=>⟨n,by rw[ao (k c (by rw[n];simpa using g))];exact e⟩) m⟩
def mK{r:Nat}{l:Addr}{u o':HO}(hl:own l=some r)(c:H l=some u)(hu:∀xs,u≠.tup xs):FrS p own H own (upd H l o'):=by
 refine⟨λb o h n e=>⟨?_,e⟩,λa xs e=>?_⟩
 ·rw[ao];exact h;intro z;subst z;rw[hl]at e;cases e
 ·rw[ao];exact e;intro z;subst z;rw[c]at e;exact hu xs (ß e)
def EnvD.put{v:V}{s:Sl}(E:EnvD p H0 own σ H ρ)(hs:mH p H0 own σ H i s):EnvD p H0 own σ H (ρ.set i s):=by
 refine⟨E.k0,E.pen,E.ow,λj s' e=>?_,↑E.len,E.gr⟩;by_cases a:j=i
 ·subst a;have hl:j<⇑ρ:=by
   have:=(È.mp e).1;simpa using this
  rw[ğ hl]at e;cases e;exact hs
 ·rw[Ň (ĝ a)]at e;exact E.slot j s' e
def EnvD.uJ{r:Nat}{l:Addr}{vs vs':List V}{ds ds':gg}(E:EnvD p H0 own σ H ρ)(A:At p H0 own H H1)(hv:σ[i]?=some (some (.ref l)))(hl:own l=some r)(c:H l=some (.lst vs))(h:Rps (λa=>own a=some r) H vs ds)(hs:∀H2,(∀{w:V}{d:D},Rp (λa=>own a=some r) H w d->sizeOf d<sizeOf (Č ds)->Rp (λa=>dX r H H1 own a=some r) H2 w d)->(∀{w:V}{d:D},Rp (okK p H0 own H .new) H1 w d->Rp (λa=>dX r H H1 own a=some r) H2 w d)->Rps (λa=>dX r H H1 own a=some r) H2 vs' ds') :
  EnvD p H0 (dX r H H1 own) σ (upd H1 l (.lst vs')) ((forget r ρ).set i (.dw r (.list ds')))/\FrS p own H (dX r H H1 own) (upd H1 l (.lst vs')):=by
 have h1:H1 l=some (.lst vs):=A.kp l _ c (E.ow l r hl).2.1;have b:dX r H H1 own l=some r:=by rw[bL c];exact hl
 have g:=(E.adopt r A).write (o':=.lst vs') b h1 (λxs z=>nomatch z);have f:∀a xs,H1 a=some (.tup xs)->upd H1 l (.lst vs') a=some (.tup xs):=λa xs e=>by
  rw[ao];exact e;intro z;subst z;rw[h1]at e;cases e
 refine⟨g.put (v:=.ref l) ⟨.ref l,hv,.lst b aq (hs _ ?_ ?_)⟩,(nJ A).trans (mK b h1 λxs z=>nomatch z)⟩
 ·intro w d x j;have k:=Rp.avoid (Rp.lst (ok:=λa=>own a=some r) hl c h) x j;exact k.cW (λa o n e=>⟨by rw[bL e];exact n.1,by rw[ao n.2];exact A.kp a o e (E.ow a r n.1).2.1⟩) λa xs e=>f a xs (jg E.at A.kp a xs e)
 ·intro w d x;exact x.cW (λa o n e=>⟨jG n e,by rw[ao (λz=>by subst z;rw[c]at n;cases n)];exact e⟩) f
end
section
variable{pos:Pos}{st:XB}{e:YE}{te:DE}{i:Nat}{ta:DA}
def mL{d:D}{ds:gg}(h:d∈ds):sizeOf d<sizeOf (Č ds):=by
 have:=List.sizeOf_lt_of_mem h;simp only[PyData.list.sizeOf_spec];lia
theorem pK{ok ok':Addr->Prop}{H a:Hp}{T:D}(f:∀{w:V}{d:D},Rp ok H w d->sizeOf d<sizeOf T->Rp ok' a w d):∀{vs:List V}{ds:gg},Rps ok H vs ds->(∀d∈ds,sizeOf d<sizeOf T)->Rps ok' a vs ds
 |_,_,.nil,_=>.nil
 |_,_,.cons h t,s=>.cons (f h (s _ Æ)) (pK f t λd hd=>s d (Ç _ hd))
def Tn(i:Nat)(te:DE):DS:=λP ρ=>match ρ[i]? with
 |some (.dw r (.list ds))=>te ρ λk d=>(norm k d).le .new=true/\⇑ds<1000/\P.nx ((forget r ρ).set i (.dw r (.list (ds++[d]))))
 |_=>False
def gY(h:PS X st (pB (tBM X.K "list" pN (iY i) (iI (aX te eF))))):PDS X st (Tn i te):=PS.wk' h (by
 rintro Q σ H ⟨p,q,own,ρ,P,E,t,w⟩;unfold Tn at t;split at t
 ·rename_i r ds hr;let⟨v,hv,x⟩:=E.slot i _ hr;let⟨l,vs,rfl,hl,b,c⟩:=x.bT;refine⟨.ref l,hv,.inl ⟨rfl,vs,SqL.of b⟩,p,q,own,ρ,λks=>∃k d,ks=[(k,d)]/\(norm k d).le .new=true/\⇑ds<1000/\P.nx ((forget r ρ).set i (.dw r (.list (ds++[d])))),E,?_,?_⟩
  ·show te ρ λk d=>∃a d',[(k,d)]=[(a,d')]/\_;have e:(λk d=>∃a d',[((k,d):Kd×D)]=[(a,d')]/\(norm a d').le .new=true/\⇑ds<1000/\P.nx ((forget r ρ).set i (.dw r (.list (ds++[d'])))))=λk d=>(norm k d).le .new=true/\⇑ds<1000/\P.nx ((forget r ρ).set i (.dw r (.list (ds++[d])))):=by
    funext k d;apply propext;constructor
    ·rintro⟨a,d',e,h⟩;cases e;exact h
    ·exact λh=>⟨k,d,rfl,h⟩
   rw[e];exact t
  ·rintro ks ws s ⟨k,d,rfl,hk,m,hn⟩ A B;let⟨y,rfl,j⟩:=gq B;have j:=nZ A hk (aR j);have h1:s l=some (.lst vs):=A.kp l _ b (E.ow l r hl).2.1;have u:=õ;have z:=⇑c;refine⟨l,vs,y,rfl,rfl,h1,(),?_⟩;let⟨n,o⟩:=E.uJ (vs':=vs++[y]) (ds':=ds++[d]) A hv hl b c λH2 f g=>(pK f c λd hd=>mL hd).snoc (g j);exact w.nx _ σ _ _ n o hn
 ·exact t.elim)
end
variable [Gr]
abbrev DG:=Kd->D->List Sl->(List Sl->Prop)->Prop
abbrev DGs:=Kd->gg->List Sl->(List Sl->Prop)->Prop
def BP(k:Kd)(d:D):Sl:=match k with
 |.imm=>.im d
 |.new=>.sn d
 |.reg r=>.dw r d
 |.snw=>.sn d
 |.shr=>.sh d
 |_=>.any
def okB(p:Pn)(b:Hp)(own:Addr->Option Nat):Kd->Addr->Prop
 |.imm=>λ_=>False
 |.new=>λa=>b a=none/\¬p.fp a/\own a=none
 |.reg r=>λa=>own a=some r
 |.snw=>λa=>b a=none/\¬p.fp a/\own a=none
 |.shr=>λa=>¬p.fp a/\own a=none
 |.n0=>λ_=>True
 |.wk=>λ_=>True
def HX(g:DG):TG:=λv σ H Q=>∃p H0 own ρ k d P,EnvD p H0 own σ H ρ/\Rp (okB p H0 own k) H v d/\g k d ρ P/\∀σ' ρ',EnvD p H0 own σ' H ρ'->P ρ'->Q σ' H
def vG(g:DGs):TGs:=λvs σ H Q=>∃p H0 own ρ k ds P,EnvD p H0 own σ H ρ/\Rps (okB p H0 own k) H vs ds/\g k ds ρ P/\∀σ' ρ',EnvD p H0 own σ' H ρ'->P ρ'->Q σ' H
abbrev PDG(X:Cx)(e:YE)(g:DG):Prop:=PG X e (HX g)
def PG.wk{X:Cx}{e:YE}{t t':TG}(h:PG X e t)(w:∀v σ H Q,t' v σ H Q->t v σ H Q):PG X e t':=λpins s σ H v u Q I r q=>h pins s σ H v u Q I r (w v σ H Q q)
def PGs.wk{X:Cx}{e:List YE}{t t':TGs}(h:PGs X e t)(w:∀v σ H Q,t' v σ H Q->t v σ H Q):PGs X e t':=λpins s σ H v u Q I r q=>h pins s σ H v u Q I r (w v σ H Q q)
def jm{p:Pn}{a H:Hp}{own:Addr->Option Nat}{k:Kd}{v:V}{d:D}(r:Rp (okB p a own k) H v d):Rp (okB p a own (norm k d)) H v d:=by
 by_cases h:gO d=true
 ·rw[iC h];exact r.imm h
 ·rw[iG h];exact r
section
variable{pos:Pos}{e:YE}{es:List YE}
def gNm(i:Nat):DG:=λk d ρ P=>P (ρ.set i (BP (norm k d) d))
def Lk{p:Pn}{a H:Hp}{own:Addr->Option Nat}{σ:L2.St}{i:Nat}{k:Kd}{v:V}{d:D}(r:Rp (okB p a own k) H v d)(h:σ[i]?=some (some v)):mH p a own σ H i (BP k d):=by
 cases k with
 |imm=>exact⟨v,h,r⟩
 |new=>exact⟨v,h,r⟩
 |reg q=>exact⟨v,h,r⟩
 |n0=>trivial
 |snw=>exact⟨v,h,r⟩
 |shr=>exact⟨v,h,r⟩
 |wk=>trivial
def aO{i:Nat}{x:Str}(h:PG X (.Name x pos) (lV i)):PDG X (.Name x pos) (gNm i):=PG.wk h (by
 rintro v σ H Q ⟨p,a,own,ρ,k,d,P,E,r,t,q⟩;exact q _ _ (E.set λhl=>Lk (jm r) (ğ hl)) t)
def O6:DGs:=λ_ ds ρ P=>match ds with
 |[]=>P ρ
 |_=>False
def vL(g:DG)(a:DGs):DGs:=λk ds ρ P=>match ds with
 |d::r=>g (norm k d) d ρ λρ'=>a k r ρ' P
 |[]=>False
theorem dD:PGs X [] (vG O6):=PGs.wk Rq (by
 rintro v σ H Q ⟨p,a,own,ρ,k,ds,P,E,r,t,q⟩;cases ds with
 |nil=>cases r;exact⟨rfl,q _ _ E t⟩
 |cons d ds=>exact t.elim)
def lZ{g:DG}{b:DGs}(h1:PDG X e g)(h2:PGs X es (vG b))(hs:(XX (e::es) X.env).map (·.2)=XW e X.env::(XX es X.env).map (·.2):=by rfl):PGs X (e::es) (vG (vL g b)):=PGs.wk (Mp h1 h2 hs) (by
 rintro v σ H Q ⟨p,a,own,ρ,k,ds,P,E,r,t,q⟩;cases r with
 |nil=>exact t.elim
 |cons r rs =>
  exact⟨_,_,rfl,p,a,own,ρ,_,_,_,E,jm r,t,λσ' ρ' E' t'=>⟨p,a,own,ρ',k,_,P,E',rs,t',q⟩⟩)
def gTp(n:Nat)(a:DGs):DG:=λk d ρ P=>match d with
 |.tuple ds=>⇑ds=n/\a k ds ρ P
 |_=>False
def fQ{b:DGs}{k n:Nat}(hc:X.calm=true)(h:PGs X es (vG b))(hn:⇑(XX es X.env)=n:=by rfl)(hst:(XX es X.env).findIdx? (·.1)=none:=by rfl):PDG X (.Tuple es k pos) (gTp n b):=PG.wk (VF hc h hn hst) (by
 rintro v σ H Q ⟨p,f,own,ρ,k,d,P,E,r,t,q⟩;cases d with
 |tuple ds =>
  let⟨a,vs,rfl,ha,c⟩:=r.fj;exact⟨a,vs,rfl,SqT.of ha,by rw[⇑c];exact t.1,p,f,own,ρ,k,ds,P,E,c,t.2,q⟩
 |_=>exact t.elim)
end
structure Wlk(Ok:Hp->Prop)(J:It)(ds:gg)(ok:Addr->Prop):Prop where
 go:∀i H,Ok H->i<⇑ds->J.go i H
 stop:∀H,Ok H->J.stop ⇑ds H
 yld:∀i H x H',Ok H->J.yld i H x H'->Same H H'/\∀d,ds[i]?=some d->Rp ok H' x d
 stab:∀H H',Ok H->(∀b o,ok b->H b=some o->H' b=some o)->(∀a xs,H a=some (.tup xs)->H' a=some (.tup xs))->Ok H'
abbrev DI:=List Sl->(Kd->gg->Prop)->Prop
def okA(p:Pn)(b:Hp)(own:Addr->Option Nat)(c:Hp)(k:Kd)(H:Hp)(a:Addr):Prop:=okK p b own c k a/\∃o,H a=some o
def Ow(t:DI):TI:=λσ H R=>∃p H0 own ρ P,EnvD p H0 own σ H ρ/\t ρ P/\∀k ds J H1 Ok,P k ds->At p H0 own H H1->Wlk Ok J ds (okA p H0 own H k H1)->Ok H1->R J H1
abbrev PDI(X:Cx)(tg e:YE)(t:DI):Prop:=PI X tg e (Ow t)
def PI.wk{X:Cx}{a e:YE}{t t':TI}(h:PI X a e t)(w:∀σ H R,t' σ H R->t σ H R):PI X a e t':=λpins s σ H R I q=>h pins s σ H R I (w σ H R q)
section
variable{tg l:YE}{tl:DE}{pos:Pos}{ta:DA}
def K4{K:Ý}{ok:Addr->Prop}{a:Addr}{ds:gg}:Wlk (λH=>Rp ok H (.ref a) (.list ds)) (Itl K a) ds ok where
 go:=λi H r hi=>by
  let⟨b,vs,e,o,h,rs⟩:=r.bT;cases e;have:i<⇑vs:=by rw[⇑rs];exact hi
  exact⟨vs,vs[i],SqL.of h,by simp[this]⟩
 stop:=λH r=>by
  let⟨b,vs,e,o,h,rs⟩:=r.bT;cases e;exact⟨vs,SqL.of h,by rw[⇑rs];exact Ì _⟩
 yld:=λi H x H' r y=>by
  let⟨rfl,y⟩:=y;let⟨b,vs,e,o,h,rs⟩:=r.bT;cases e;refine⟨Same.refl _,λd hd=>?_⟩;let⟨v,hv,rv⟩:=rs.getD hd;have:=y vs (SqL.of h);rw[hv]at this;cases this;exact rv
 stab:=λH H' r f t=>r.cW (λa o n e=>⟨n,f a o n e⟩) t
def KZ{K:Ý}{ok:Addr->Prop}{a:Addr}{ds:gg}:Wlk (λH=>Rp ok H (.ref a) (.tuple ds)) (Itt K a) ds ok where
 go:=λi H r hi=>by
  let⟨b,vs,e,h,rs⟩:=r.fj;cases e;have:i<⇑vs:=by rw[⇑rs];exact hi
  exact⟨vs,vs[i],SqT.of h,by simp[this]⟩
 stop:=λH r=>by
  let⟨b,vs,e,h,rs⟩:=r.fj;cases e;exact⟨vs,SqT.of h,by rw[⇑rs];exact Ì _⟩
 yld:=λi H x H' r y=>by
  let⟨rfl,y⟩:=y;let⟨b,vs,e,h,rs⟩:=r.fj;cases e;refine⟨Same.refl _,λd hd=>?_⟩;let⟨v,hv,rv⟩:=rs.getD hd;have:=y vs (SqT.of h);rw[hv]at this;cases this;exact rv
 stab:=λH H' r f t=>r.cW (λa o n e=>⟨n,f a o n e⟩) t
def K1{ok:Addr->Prop}{lo:Int}{n:Nat}:Wlk (λ_=>True) (Itr lo n) ((Ø n).map λi=>Â (lo+~~~i)) ok where
 go:=λi H r hi=>by
  have h:i<n:=↑hi
  exact h
 stop:=λH r=>by show n<=_;simp
 yld:=λi H x H' r y=>by
  let⟨rfl,rfl⟩:=y;refine⟨Same.refl _,λd hd=>?_⟩;rw[Þ]at hd;cases h:(Ø n)[i]? with
  |none=>rw[h]at hd;cases hd
  |some j =>
   rw[h]at hd;have e:=ß hd;have hj:j=i:=by
    have:=È.mp h;let⟨h1,h2⟩:=this;simpa using h2.symm
   subst e hj;exact .int _
 stab:=λ_ _ _ _ _=>trivial
def rpA{p:Pn}{b c H:Hp}{own:Addr->Option Nat}{k:Kd}{v:V}{d:D}(r:Rp (okK p b own c k) H v d):Rp (okA p b own c k H) H v d:=r.cW (λa o n e=>⟨⟨n,o,e⟩,e⟩) λ_ _ e=>e
def iSq(tl:DE):DI:=λρ P=>tl ρ λk d=>match d with
 |.list ds=>P k ds
 |.tuple ds=>P k ds
 |_=>False
theorem dU(hl:PD X l tl):PDI X tg l (iSq tl):=PI.wk (VB hl) (by
 rintro σ H R ⟨p,b,own,ρ,P,E,t,q⟩;refine⟨p,b,own,ρ,_,E,t,λk d v H1 h A r=>?_⟩;cases d with
 |list ds =>
  let⟨a,vs,rfl,o,ha,c⟩:=r.bT;exact⟨a,rfl,.inl ⟨⟨vs,SqL.of ha⟩,q k ds _ H1 _ h A K4 (rpA r)⟩⟩
 |tuple ds =>
  let⟨a,vs,rfl,ha,c⟩:=r.fj;exact⟨a,rfl,.inr ⟨⟨vs,SqT.of ha⟩,q k ds _ H1 _ h A KZ (rpA r)⟩⟩
 |_=>exact h.elim)
def lR(lo:Int)(n:Nat):gg:=(Ø n).map λi=>Â (lo+~~~i)
def iR1(ta:DA):DI:=λρ P=>ta ρ λks=>match ks with
 |[(_,.int j)]=>(-(2 ^ 62)<=j/\j<2 ^ 62)/\P .imm (lR 0 j.toNat)
 |_=>False
def bK{a:YE}{ps:Pos}(hm:X.mg "range"=none)(ha:PDA X [a] ta)(hg:Gl X "range":=by rfl)(hs:YI [a] X.env=[(false,YN a X.env)]:=by rfl):PDI X tg (.Call (.Name "range" ps) [a] [] pos) (iR1 ta):=PI.wk (xg hg hm ha hs) (by
 rintro σ H R ⟨p,b,own,ρ,P,E,t,q⟩;refine⟨p,b,own,ρ,_,E,t,λks vs H1 h A r=>?_⟩;split at h
 ·rename_i k j;let⟨v,rfl,c⟩:=gq r;exact⟨j,by rw[c.int'],h.1.1,h.1.2,q _ _ _ H1 _ h.2 A K1 trivial⟩
 ·exact h.elim)
def rW(ds:gg):gg:=ds.zipIdx.map λx=>PyData.tuple [.int (~~~x.2),x.1]
def nA{ds:gg}{i:Nat}:(rW ds)[i]?=(ds[i]?).map λd=>PyData.tuple [.int (~~~i),d]:=by
 unfold rW;rw[Þ,List.getElem?_zipIdx];cases ds[i]? with
 |none=>rfl
 |some d=>simp
def gW{ds:gg}:⇑(rW ds)=⇑ds:=by unfold rW;simp
def Jl{K:Ý}{ok:Addr->Prop}{a:Addr}{ds:gg}:Wlk (λH=>Rp ok H (.ref a) (.tuple ds)) (Ite K a) (rW ds) ok where
 go:=λi H r hi=>by
  let⟨b,vs,e,h,rs⟩:=r.fj;cases e;have:i<⇑vs:=by rw[⇑rs];rw[gW]at hi;exact hi
  exact⟨vs,vs[i],SqT.of h,by simp[this]⟩
 stop:=λH r=>by
  let⟨b,vs,e,h,rs⟩:=r.fj;cases e;exact⟨vs,SqT.of h,by rw[⇑rs,gW];exact Ì _⟩
 yld:=λi H x H' r y=>by
  let⟨t,v,rfl,ht,rfl,y⟩:=y;have sm:Same H (upd H t (.tup [.int i,v])):=λb u q=>by rw[ao (aA q ht)];exact q
  refine⟨sm,λd hd=>?_⟩;let⟨b,vs,e,h,rs⟩:=r.fj;cases e;rw[nA]at hd;cases he:ds[i]? with
  |none=>rw[he]at hd;cases hd
  |some d0 =>
   rw[he]at hd;have e:=ß hd;subst e;let⟨v',hv,rv⟩:=rs.getD he;have:=y vs (SqT.of h);rw[hv]at this;cases this;exact .tup aq (.cons (.int _) (.cons (rv.mono (λ_ o=>o) (λa o _ e=>sm a o e) λa xs e=>sm a _ e) .nil))
 stab:=λH H' r f t=>r.cW (λa o n e=>⟨n,f a o n e⟩) t
def iEn(ta:DA):DI:=λρ P=>ta ρ λks=>match ks with
 |[(k,.tuple ds)]=>P k (rW ds)
 |_=>False
def Az{b:List YE}{kk:Nat}{c:Pos}{a:YE}{ps:Pos}(hm:X.mg "enumerate"=none)(ha:PDA X [a] ta)(hg:Gl X "enumerate":=by rfl)(hs:YI [a] X.env=[(false,YN a X.env)]:=by rfl):PDI X (.Tuple b kk c) (.Call (.Name "enumerate" ps) [a] [] pos) (iEn ta):=PI.wk (Ro hg hm ha hs) (by
 rintro σ H R ⟨p,f,own,ρ,P,E,t,q⟩;refine⟨p,f,own,ρ,_,E,t,λks vs H1 h A r=>?_⟩;split at h
 ·rename_i k ds;let⟨v,rfl,d⟩:=gq r;let⟨a,vs,e,ha,g⟩:=Rp.fj d;subst e;exact⟨a,rfl,⟨vs,SqT.of ha⟩,q k _ _ H1 _ h A Jl (rpA d)⟩
 ·exact h.elim)
end
variable [Gr]
def elK:Kd->Kd
 |.new=>.snw
 |k=>k
section
variable{tg iter:YE}{pos:Pos}{body:List XB}{ti:DI}{g:DG}{tb:DS}
def Xn(ti:DI)(g:DG)(tb:DS):DS:=λP ρ=>ti ρ λk ds=>k.le .shr=true/\∃Iv:Nat->List Sl->Prop,Iv 0 ρ /\
 (∀i d ρ',ds[i]?=some d->Iv i ρ'->g (norm (elK k) d) d ρ' λρ2=>tb { nx:=Iv (i+1),ct:=Iv (i+1),bk:=P.nx,rt:=P.rt } ρ2)/\∀ρ',Iv ⇑ds ρ'->P.nx ρ'
def Y9{p:Pn}{h l i m:Hp}{own b:Addr->Option Nat}{k:Kd}(hk:k.le .shr=true)(A:At p h own l i)(F:FrS p own i b m){v:V}{d:D}{j:Hp}(r:Rp (okA p h own l k i) j v d):Rp (okB p h b (elK k)) j v d:=by
 refine r.mono (λa n=>?_) (λ_ _ _ e=>e) λ_ _ e=>e;let⟨o,u,hu⟩:=n;have c:¬p.fp a/\own a=none:=cQ A (k:=.shr) hk o;have f:=(F.keep a u hu c.1 c.2).2;cases k with
 |imm=>exact o
 |new=>exact⟨A.h0 o,c.1,f⟩
 |reg q=>cases hk
 |n0=>cases hk
 |snw=>exact⟨o.1,c.1,f⟩
 |shr=>exact⟨c.1,f⟩
 |wk=>cases hk
def ji(hp:X9 (model X.prog X.w) X.A X.env X.xe)(hc:X.calm=true)(hi:PDI X tg iter ti)(hg:PDG X tg g)(hb:jk X body tb)(hs:zF X iter:=by intro _;rfl):PDS X (.For tg iter body [] pos) (Xn ti g tb):=PS.wk' (Ft hp hc hi hg hb hs) (by
 rintro Q σ H ⟨p,u,own,ρ,P,E,t,w⟩;refine⟨p,u,own,ρ,_,E,t,λk ds J H1 Ok h A W o1=>?_⟩;let⟨hk,D,T,step,v⟩:=h;have R:=w.go A.frs;have okS:∀c j,FrS p own H1 c j->Ok j:=λc j F=>W.stab H1 j o1 (λb o n e=>by
  have O:¬p.fp b/\own b=none:=cQ A (k:=.shr) hk n.1;exact(F.keep b o e O.1 O.2).1) F.tup
 refine⟨λi m q j=>m=⇑ds - i/\i<=⇑ds/\∃c d,EnvD p u c q j d/\FrS p own H1 c j/\D i d,⟨_,rfl,ą _,own,ρ,E.go A.kp A.pen,FrS.refl,T⟩,?_⟩;rintro i m q j ⟨rfl,hi,c,d,I,C,N⟩;have L:=okS c j C;by_cases l:i<⇑ds
 ·refine .inr ⟨W.go i j L l,λσ2 H2=>∃c d,EnvD p u c σ2 H2 d/\FrS p own H1 c H2/\D (i+1) d,λσ2 H2 h=>⟨_,(),rfl,l,h⟩,λx H2 y=>?_⟩;let⟨G,M⟩:=W.yld i j x H2 L y;have M:=M ds[i] (Å l);have S:EnvD p u c q H2 d:=I.go (Kp.of G) (p.mono j H2 I.pen λb o _ e=>G b o e);have K:FrS p own H1 c H2:=⟨λb o e n z=>let⟨x,y⟩:=C.keep b o e n z;⟨G b o x,y⟩,λa xs e=>G a _ (C.tup a xs e)⟩
  refine⟨p,u,c,d,_,_,_,S,jm (Y9 hk A K M),step i ds[i] d (Å l) N,λσ3 ρ3 E3 t3=>?_⟩;have B:∀own4 σ4 H4 ρ4,EnvD p u own4 σ4 H4 ρ4->FrS p c H2 own4 H4->D (i+1) ρ4->∃c d,EnvD p u c σ4 H4 d/\FrS p own H1 c H4/\D (i+1) d:=λown4 σ4 H4 ρ4 E4 F4 v4=>⟨own4,ρ4,E4,K.trans F4,v4⟩
  exact⟨p,u,c,ρ3,_,E3,t3,⟨B,w.rt,λo s h r e f n=>R.nx o s h r e (K.trans f) n,B⟩⟩
 ·have e:i=⇑ds:=()
  subst e;exact .inl ⟨W.stop j L,R.nx c q j d I C (v d N)⟩)
def GJ(a:DT)(tb:DS):DS:=λP ρ=>∃Iv:Nat->List Sl->Prop,(∃m,Iv m ρ)/\∀m ρ',Iv m ρ'->a ρ' λb =>
 if b=true then tb { nx:=λρ2=>∃m',m'<m/\Iv m' ρ2,ct:=λρ2=>∃m',m'<m/\Iv m' ρ2,bk:=P.nx,rt:=P.rt } ρ' else P.nx ρ'
theorem lY{c:YE}{u:DT}(hp:X9 (model X.prog X.w) X.A X.env X.xe)(hc:PDT X c u)(hb:jk X body tb):PDS X (.While c body [] pos) (GJ u tb):=PS.wk' (Mf hp hc hb) (by
 rintro Q σ H ⟨p,i,own,ρ,P,E,⟨j,⟨m,x⟩,step⟩,w⟩;refine⟨λm σ' H'=>∃own' ρ',EnvD p i own' σ' H' ρ'/\FrS p own H own' H'/\j m ρ',⟨m,own,ρ,E,FrS.refl,x⟩,?_⟩;rintro m t z ⟨a,d,l,v,y⟩;refine⟨p,i,a,d,_,l,step m d y,λb H2 h A=>?_⟩;have q:=v.trans A.frs;cases b with
 |true =>
  refine aF ⟨λσ' H'=>∃m',m'<m/\∃own' ρ',EnvD p i own' σ' H' ρ'/\FrS p own H own' H'/\j m' ρ',λσ' H' h=>h,?_⟩;have k:∀own4 σ4 H4 ρ4,EnvD p i own4 σ4 H4 ρ4->FrS p a H2 own4 H4->(∃m',m'<m/\j m' ρ4)->∃m',m'<m/\∃own' ρ',EnvD p i own' σ4 H4 ρ'/\FrS p own H own' H4/\j m' ρ':=λown4 σ4 H4 ρ4 E4 F4 ⟨m',hm,v4⟩=>⟨m',hm,own4,ρ4,E4,q.trans F4,v4⟩
  exact⟨p,i,a,d,{ nx:=λρ2=>∃m',m'<m/\j m' ρ2,ct:=λρ2=>∃m',m'<m/\j m' ρ2,bk:=P.nx,rt:=P.rt },l.go A.kp A.pen,↑h,⟨k,w.rt,λo s h r e f n=>w.nx o s h r e (q.trans f) n,k⟩⟩
 |false=>exact aJ (w.nx a t H2 d (l.go A.kp A.pen) q ↑h))
end
def EnvD.comp{p:Pn}{b H:Hp}{own:Addr->Option Nat}{σ:L2.St}{ρ:List Sl}(n:Nat)(E:EnvD p b own σ H ρ):EnvD p b own (Ë n none++σ) H (Ë n .any++ρ):=by
 refine⟨E.k0,E.pen,E.ow,λj s e=>?_,by simp[E.len],E.gr⟩;by_cases a:j<n
 ·rw[Ą ↑a]at e;have:s=.any:=by
   rw[ş]at e;rw[fo a]at e;exact(ß e).symm
  subst this;trivial
 ·have c:(Ë n Sl.any++ρ)[j]?=ρ[j - n]?:=by rw[ó ↑a];simp
  have d:(Ë n (none:Option V)++σ)[j]?=σ[j - n]?:=by rw[ó ↑a];simp
  rw[c]at e;have q:=E.slot _ s e;cases s <;> simp only[mH,d]at q ⊢ <;> exact q
abbrev KH(X:Cx)(es:List YE)(t:DT):Prop:=PTs X es (liftT t)
def dJ{X:Cx}:KH X [] (λ_ P=>P true):=λpins s σ H Q I h=>by
 let⟨p,a,own,ρ,P,E,t,q⟩:=h;exact Rf pins s σ H Q I (q true H t E.at)
def gP{X:Cx}{c:YE}{t:DT}(hc:PDT X c t):KH X [c] t:=Rb hc
def elC(k:Kd):Kd:=elK k
def dLC(n:Nat)(c:DI)(g:DG)(e:DT)(a:DE):DE:=λρ P=>c ρ λk ds=>⇑ds<=1000/\∃(ke:Kd)(Iv:Nat->gg->Prop),Iv 0 [] /\
 (∀i d ys,ds[i]?=some d->Iv i ys->g (norm (elC k) d) d (Ë n .any++ρ) λρ'=>e ρ' λb=>if b=true then a ρ' λk' d'=>(norm k' d').le ke=true/\Iv (i+1) (ys++[d'])else Iv (i+1) ys) /\
 ∀ys,Iv ⇑ds ys->P (ke.join .new) (.list ys)
def Uh{p:Pn}{b g c:Hp}{own:Addr->Option Nat}{k:Kd}(A:At p b own g c){v:V}{d:D}{f:Hp}(r:Rp (okA p b own g k c) f v d):Rp (okB p b own (elC k)) f v d:=by
 refine r.mono (λa n=>?_) (λ_ _ _ e=>e) λ_ _ e=>e;let⟨o,u,hu⟩:=n;cases k with
 |imm=>exact o
 |new=>exact⟨A.h0 o,A.nfb o,A.M9 o⟩
 |reg q=>exact o
 |n0=>trivial
 |snw=>exact o
 |shr=>exact o
 |wk=>trivial
section
variable{own:List Str}{scope:YA}{tg iter elt:YE}{ifs:List YE}{pos:Pos}{ti:DI}{g:DG}{tt:DT}{te:DE}
def tE{n:Nat}:∀σ H Q,aV (dLC n ti g tt te) σ H Q->tLC n (Ow ti) (λ_=>HX g) (λ_=>liftT tt) (λ_=>aV te) σ H Q:=by
 rintro σ H Q ⟨p,r,own,ρ,P,E,t,q⟩;refine⟨p,r,own,ρ,_,E,t,λk ds J H1 Ok h A W o1=>?_⟩;let⟨S,G,R,i0,step,u⟩:=h;have okS:∀d,Kp p H1 d->p.PI d->Ok d:=λd K i=>W.stab H1 d o1 (λb o n e=>K b o e (jP A n.1)) (jg A K);refine⟨λi m ys d=>m=⇑ds - i/\i<=⇑ds/\Kp p H1 d/\p.PI d/\∃es,Rps (okK p r own H G) d ys es/\⇑es<=i/\R i es,⟨_,rfl,ą _,Kp.refl,A.pen,[],.nil,Ì _,i0⟩,?_⟩;rintro c i m ys d ⟨rfl,hi,D,C,es,L,hl,T⟩;have I:=okS d D C;have s:=A.go D C;have Z:=õ;by_cases f:i<⇑ds
 ·refine .inr ⟨W.go i d I f,by have:=⇑L;lia,λys' H2=>Kp p H1 H2/\p.PI H2/\∃es,Rps (okK p r own H G) H2 ys' es/\⇑es<=i+1/\R (i+1) es,λys' H2 h=>⟨_,(),rfl,f,h⟩,λx H2 y=>?_⟩;let⟨O,N⟩:=W.yld i d x H2 I y;have N:=N ds[i] (Å f);have Y:p.PI H2:=p.mono d H2 C λb o _ e=>O b o e;have F:Kp p H1 H2:=D.trans (Kp.of O);have z:=A.go F Y;have V:EnvD p r own σ H2 ρ:=E.go z.kp z.pen;have M:=cO s (Kp.of O) L;refine⟨p,r,own,_,_,_,_,V.comp n,jm (Uh A N),step i ds[i] es (Å f) T,λσ3 ρ3 E3 t3=>?_⟩;refine⟨p,r,own,ρ3,_,E3,t3,λb H4 h4 A4=>?_⟩;have B:At p r own H H4:=z.gy A4;have w:=cO z A4.kp M;cases b with
  |true =>
   refine aF ⟨p,r,own,ρ3,_,E3.go A4.kp A4.pen,↑h4,λk' d' v H6 h6 A6 r6=>?_⟩;refine⟨(F.trans A4.kp).trans A6.kp,A6.pen,es++[d'],(cO B A6.kp w).snoc (nZ (B.gy A6) h6.1 (aR (pL B r6))),by simp;lia,h6.2⟩
  |false=>exact aJ ⟨F.trans A4.kp,A4.pen,es,w,(),↑h4⟩
 ·have e:i=⇑ds:=()
  subst e;refine .inl ⟨W.stop d I,λl hl'=>?_⟩;let⟨U,i7,nw⟩:=s.new hl' (.lst ys);have j:=gK G .new;refine q _ _ _ _ (u es T) (s.go U i7) (.lst (cQ s j.2 nw) aq ?_);exact(cO s U L).mono (λa o=>cQ s j.1 o) (λ_ _ _ e=>e) λ_ _ e=>e
def iR(own:List Str)(hc:X.calm=true)(hi:PDI X tg iter ti)(hg:∀c,PDG (X.comp own scope c) tg g)(ht:∀c,KH (X.comp own scope c) ifs tt)(he:∀c,PD (X.comp own scope c) elt te)(hk:iK X.env scope X.N=true:=by rfl)(hs:zF X iter:=by intro _;rfl) :
  PD X (.ListComp elt [⟨tg,iter,ifs,0⟩] scope pos) (dLC ⇑own ti g tt te):=PE.wk (YQ own hc hi hg ht he hk hs) tE
def uU(own M:List Str)(hc:X.calm=true)(hi:PDI X tg iter ti)(hg:∀c,PDG (X.bf own M scope c) tg g)(ht:∀c,KH (X.bf own M scope c) ifs tt)(he:∀c,PD (X.bf own M scope c) elt te)(hk:aZ X.env scope X.N M=true:=by decide +kernel)(hs:zF X iter:=by intro _;rfl) :
  PD X (.ListComp elt [⟨tg,iter,ifs,0⟩] scope pos) (dLC ⇑own ti g tt te):=PE.wk (Mt own M hc hi hg ht he hk hs) tE
end
def bJ(d:D):Sl:=if gO d then .im d else .sh d
def jE{p:Pn}{H:Hp}{N:List Str}{vs:List V}{ds:gg}(g:Gr.G p H)(hp:p.PI H)(r:Rps (λa=>¬p.fp a) H vs ds):EnvD p H (λ_=>none) (L2.start N vs) H (ds.map bJ++Ë (⇑N - ⇑vs) .any):=by
 refine⟨λ_ _ e _=>e,hp,(λ_ _ e=>nomatch e),λj s e=>?_,by unfold L2.start;simp[⇑r],g⟩;by_cases b:j<⇑ds
 ·rw[Ą ↑b,Þ]at e;let⟨v,hv,c⟩:=r.getD (Å b);rw[Å b]at e;have e:=ß e;have hs:(L2.start N vs)[j]?=some (some v):=by
   unfold L2.start;rw[Ą (by rw[À,⇑r];exact b),Þ,hv];rfl
  subst e;unfold bJ;by_cases hi:gO ds[j]=true
  ·rw[fo hi];exact⟨v,hs,c.imm hi⟩
  ·rw[fq hi];exact⟨v,hs,c.mono (λ_ o=>⟨o,rfl⟩) (λ_ _ _ e=>e) λ_ _ e=>e⟩
 ·rw[ó ↑b,ş]at e;split at e
  ·cases e;trivial
  ·cases e
def Ao{f:fE}{T:DS}{N:List Str}{vs:List V}{H:Hp}{Q:VK}{E:XK}(h:spD f vs H Q E)(c:∀ds P,f ds P->T { nx:=λ_=>P .none,rt:=P } (ds.map bJ++Ë (⇑N - ⇑ds) .any))(g:Gr.G fC H:=by trivial):ql T { nx:=λ_ H'=>Q .non H',rt:=Q } (L2.start N vs) H:=by
 let⟨ds,P,r,t,q⟩:=h;have E:=jE (p:=fC) (N:=N) g trivial (r.mono (ok':=λa=>¬fC.fp a) (λ_ _ z=>z) (λ_ _ _ e=>e) λ_ _ e=>e);rw[⇑r]at E;have i:∀H',(∀b o,H b=some o->¬fC.fp b->H' b=some o)->Same H H':=λH' k b o e=>k b o e λz=>z;refine⟨fC,H,λ_=>none,_,_,E,c ds P t,⟨λo s h' r' e' _ n=>q _ _ h' n (i h' e'.k0) .non,λd v h' n w=>q d v h' n (i h' w.k0) (w.rp.mono (λ_ o=>o.1) (λ_ _ _ e=>e) λ_ _ e=>e),λ_ _ _ _ _ _ n=>n.elim,λ_ _ _ _ _ _ n=>n.elim⟩⟩
def Xf{C:Pn->Prop}{f:fE}{T:DS}{N:List Str}{vs:List V}{H:Hp}{Q:VK}{E:XK}(h:spP C f vs H Q E)(b:∀ds P,f ds P->T { nx:=λ_=>P .none,rt:=P } (.pen C::(ds.map bJ++Ë (⇑N - (⇑ds+1)) .any)))(g:∀p,Gr.G p H:=by intro _;trivial):ql T { nx:=λ_ H'=>Q .non H',rt:=Q } (L2.start N vs) H:=by
 let⟨p,vs',ds,P,c,rfl,i,r,t,q⟩:=h;have E0:=jE (p:=p) (N:=N.drop 1) (g p) i r;have E:EnvD p H (λ_=>none) (L2.start N (p.pv::vs')) H (.pen C::(ds.map bJ++Ë (⇑N - (⇑ds+1)) .any)):=by
  refine⟨λ_ _ e _=>e,i,(λ_ _ e=>nomatch e),λj s e=>?_,by unfold L2.start;simp[⇑r],g p⟩;cases j with
  |zero =>
   have e:=ß e;subst e;exact⟨rfl,c⟩
  |succ j =>
   rw[List.getElem?_cons_succ]at e;have hl:⇑N - (⇑ds+1)=⇑(N.drop 1) - ⇑vs':=by rw[⇑r,Ď];lia
   rw[hl]at e;have q:=E0.slot j s e;have es:(L2.start N (p.pv::vs'))[j+1]?=(L2.start (N.drop 1) vs')[j]?:=by
    unfold L2.start;have:⇑N - ⇑(p.pv::vs')=⇑(N.drop 1) - ⇑vs':=by rw[Ď,à];lia
    rw[this];simp
   cases s <;> simp only[mH,es]at q ⊢ <;> exact q
 have k:∀{H' v d},RPost p H H' v d->Rp (λa=>H a=none) H' v d:=λw=>w.rp.mono (λ_ o=>o.1) (λ_ _ _ e=>e) λ_ _ e=>e;exact⟨p,H,λ_=>none,_,_,E,b ds P t,⟨λo s h' r' e' _ n=>q _ _ h' n e'.k0 e'.pen .non,λd v h' n w=>q d v h' n w.k0 w.pen (k w),λ_ _ _ _ _ _ n=>n.elim,λ_ _ _ _ _ _ n=>n.elim⟩⟩
end Dl
namespace PySem
abbrev qJ(f0:Value)(q:Bool)(TI TO:Addr):Obj:={ cls:=.type "zip",data:=.fields #[f0,.bool q,.bool false,.ref TI,.ref TO]}
section
variable{prog:Zg}{w:Zl}{A:Ys}{E:fA}{s:Shared}
def yp{z TI TO f g m l T:Addr}{q:Bool}{k:Nat}{xs ys:fS}{x y:Value}{oT:Obj}{Q:fA}(H:f≠z)(I:g≠z)(t:f≠g)(Z:m≠z)(m2:l≠z)(m3:l≠f)(D:s.heap.get? z=some (qJ (WA T) q TI TO))(O:s.heap.get? TI=some { cls:=.type "tuple",data:=.seq #[.ref f,.ref g]})(S:s.heap.get? T=some oT)(X:s.heap.IsListIter f m k)(Y:s.heap.IsListIter g l k)(K:s.heap.IsList m xs)(L:s.heap.IsList l ys)(U:xs[k]?=some x)(V:ys[k]?=some y)(P:∀h',h'.get? z=some (qJ (WA T) true TI TO)->h'.IsListIter f m (k+1)->h'.IsListIter g l (k+1)->h'.get? ↥s=some { cls:=.type "tuple",data:=.seq #[x,y]} ->
   (∀c o,c≠z->c≠f->c≠g->s.heap.get? c=some o->h'.get? c=some o)->Q (.ref ↥s) { s with heap:=h' }) :
  wpAny (model prog w) A (Builtin.«zip.__next__» ⟨[.ref z],[]⟩) (λfin s'=>∃v,fin=.done (.ret v)/\Q v s') E s:=by
 have j:∀{i:Nat}{v:Value}{R:fA},(#[WA T,Value.bool q,.bool false,.ref TI,.ref TO]:fS)[i]?=some v->R v s->wpAny (model prog w) A (Sk (.ref z) i) R E s:=λh r=>ų D rfl h r;show wpAny _ _ (Sk (.ref z) 2 >>=_) _ _ _;refine Ã (j (v:=.bool false) rfl ?_);show wpAny _ _ (Sk (.ref z) 3 >>=_) _ _ _;refine Ã (j (v:=.ref TI) rfl ?_);refine Ã (ź O rfl ?_);show wpAny _ _ (Ŗ (.ref z) >>=_) _ _ _;refine Ã ?_;unfold Ŗ;refine Ã (j (v:=WA T) rfl ?_);show wpAny _ _ (loadIfAlive ((T:Int).toNat) >>=_) _ _ _;rw[ê];refine Ã (W.kdx_alive S ?_);simp only[Option.isNone_some,ķ,if_false];refine Ã (j (v:=.bool q) rfl ?_);refine L2.thn (Q:=λa s'=>a=false/\∃h1,s'={ s with heap:=h1 }/\h1.get? z=some (qJ (WA T) true TI TO)/\h1.objs.size=↥s/\∀c o,c≠z->s.heap.get? c=some o->h1.get? c=some o) ?_ ?_
 ·cases q with
  |true=>exact Ú ⟨rfl,s.heap,rfl,D,rfl,λc o _ e=>e⟩
  |false =>
   rw[fo ∅];refine Ã (SI D (by simp) λh1 G b1=>Ú ⟨rfl,h1,rfl,G,b1.1,λc o n e=>b1.extBut _ _ n e⟩)
 rintro a s' ⟨rfl,h1,rfl,G,F,p⟩;simp only[ķ,if_false];refine Ã ?_;simp only[←Array.forIn_toList,List.forIn_cons,List.forIn_nil];have B:h1.IsListIter f m k:=X.at λo e=>p f o H e;have C:h1.IsListIter g l k:=Y.at λo e=>p g o I e;have M:h1.IsList m xs:=K.at λo e=>p m o Z e;have N:h1.IsList l ys:=L.at λo e=>p l o m2 e;refine Ã (Ã (ħ ?_));show wpAny _ _ (Ħ (.ref f) >>=_) _ _ _;refine Ã (SK B M U λh2 c1 b2=>Ú (Ú ?_));refine Ã (Ã (ħ ?_));show wpAny _ _ (Ħ (.ref g) >>=_) _ _ _;refine Ã (SK (C.extBut b2.extBut t.symm) (N.extBut b2.extBut m3) V λh3 c2 b3=>Ú (Ú (Ú ?_)));have u:h3.objs.size=↥s:=by rw[b3.1,b2.1,F]
 show wpAny _ _ (newTuple [x,y] >>=_) _ _ _;refine Ã (TW (Ú ⟨_,rfl,?_⟩));show Q (.ref h3.objs.size) _;rw[u];have J:∀c o,c≠f->c≠g->h1.get? c=some o->(h3.push { cls:=.type "tuple",data:=.seq #[x,y]}).get? c=some o:=λc o a b e=>Ô _ (b3.extBut _ _ b (b2.extBut _ _ a e));refine P _ (J z _ H.symm I.symm G) ((c1.extBut b3.extBut t).at λo e=>Ô _ e) (c2.at λo e=>Ô _ e) ?_ λc o a b d e=>J c o b d (p c o a e);rw[←u];exact ä _ rfl
def Bs{z TI TO g j p l T:Addr}{q:Bool}{k:Nat}{xs ys:fS}{oT:Obj}{Q:Fin->Shared->Prop}(hh:A.handled=none)(Y:g≠z)(Z:j≠z)(D:g≠j)(U:p≠z)(V:l≠z)(X:l≠g)(B:s.heap.get? z=some (qJ (WA T) q TI TO))(M:s.heap.get? TI=some { cls:=.type "tuple",data:=.seq #[.ref g,.ref j]})(N:s.heap.get? T=some oT)(P:s.heap.IsListIter g p k)(S:s.heap.IsListIter j l k)(J:s.heap.IsList p xs)(K:s.heap.IsList l ys)(u:xs[k]?=none\/ys[k]?=none)(G:∀h' e,(∀c o,c≠z->c≠g->c≠j->s.heap.get? c=some o->h'.get? c=some o)->(∃o,h'.get? e=some o/\o.cls=.type "StopIteration")->E (.ref e) { s with heap:=h' }) :
  wpAny (model prog w) A (Builtin.«zip.__next__» ⟨[.ref z],[]⟩) Q E s:=by
 have f:∀{i:Nat}{v:Value}{R:fA},(#[WA T,Value.bool q,.bool false,.ref TI,.ref TO]:fS)[i]?=some v->R v s->wpAny (model prog w) A (Sk (.ref z) i) R E s:=λh r=>ų B rfl h r;show wpAny _ _ (Sk (.ref z) 2 >>=_) _ _ _;refine Ã (f (v:=.bool false) rfl ?_);show wpAny _ _ (Sk (.ref z) 3 >>=_) _ _ _;refine Ã (f (v:=.ref TI) rfl ?_);refine Ã (ź M rfl ?_);show wpAny _ _ (Ŗ (.ref z) >>=_) _ _ _;refine Ã ?_;unfold Ŗ;refine Ã (f (v:=WA T) rfl ?_);show wpAny _ _ (loadIfAlive ((T:Int).toNat) >>=_) _ _ _;rw[ê];refine Ã (W.kdx_alive N ?_);simp only[Option.isNone_some,ķ,if_false];refine Ã (f (v:=.bool q) rfl ?_);refine L2.thn (Q:=λa H=>a=false/\∃h1,H={ s with heap:=h1 }/\h1.get? z=some (qJ (WA T) true TI TO)/\h1.objs.size=↥s/\∀c o,c≠z->s.heap.get? c=some o->h1.get? c=some o) ?_ ?_
 ·cases q with
  |true=>exact Ú ⟨rfl,s.heap,rfl,B,rfl,λc o _ e=>e⟩
  |false =>
   rw[fo ∅];refine Ã (SI B (by simp) λh1 I b1=>Ú ⟨rfl,h1,rfl,I,b1.1,λc o n e=>b1.extBut _ _ n e⟩)
 rintro a H ⟨rfl,h1,rfl,I,sz1,m⟩;simp only[ķ,if_false];refine Ã ?_;simp only[←Array.forIn_toList,List.forIn_cons,List.forIn_nil];have t:h1.IsListIter g p k:=P.at λo e=>m g o Y e;have y:h1.IsListIter j l k:=S.at λo e=>m j o Z e;have F:h1.IsList p xs:=J.at λo e=>m p o U e;have L:h1.IsList l ys:=K.at λo e=>m l o V e;refine Ã (Ã (ħ ?_));show wpAny _ _ (Ħ (.ref g) >>=_) _ _ _;cases C:xs[k]? with
 |none=>exact Ã (SL hh t F C λh2 e b2 he=>G h2 e (λc o a b _ x=>b2 c o b (m c o a x)) he)
 |some x =>
  have O:ys[k]?=none:=u.elim (λz=>by rw[C]at z;cases z) id;refine Ã (SK t F C λh2 c1 b2=>Ú (Ú ?_));refine Ã (Ã (ħ ?_));show wpAny _ _ (Ħ (.ref j) >>=_) _ _ _;exact Ã (SL hh (y.extBut b2.extBut D.symm) (L.extBut b2.extBut X) O λh3 e b3 he=>G h3 e (λc o a b d x=>b3 c o d (b2.extBut _ _ b (m c o a x))) he)
structure ZSt(z TI TO i1 i2 l1 l2:Addr)(xs ys:fS)(i:Nat)(h:Heap):Prop where
 zip:(i=0/\h.get? z=some (qJ .none false TI TO))\/∃(T:Addr)(q:Bool)(oT:Obj),h.get? z=some (qJ (WA T) q TI TO)/\h.get? T=some oT/\T≠z/\T≠i1/\T≠i2
 ti:h.get? TI=some { cls:=.type "tuple",data:=.seq #[.ref i1,.ref i2]}
 to:∃a b,h.get? TO=some { cls:=.type "tuple",data:=.seq #[a,b]}
 j1:h.IsListIter i1 l1 i
 j2:h.IsListIter i2 l2 i
 e1:h.IsList l1 xs
 e2:h.IsList l2 ys
variable{z TI TO i1 i2 l1 l2:Addr}{xs ys:fS}
def ZSt.keeps{i:Nat}{h h':Heap}(Z:ZSt z TI TO i1 i2 l1 l2 xs ys i h){S:Addr}{u:Obj}(B:h.get? S=some u)(hc:u.cls=.type "list")(G:S≠l1)(H:S≠l2)(I:∀(T:Addr)(q:Bool),h.get? z=some (qJ (WA T) q TI TO)->S≠T)(k:∀b o,b≠S->h.get? b=some o->h'.get? b=some o):ZSt z TI TO i1 i2 l1 l2 xs ys i h':=by
 have d:∀{b:Addr}{o:Obj},h.get? b=some o->o.cls≠.type "list"->b≠S:=λe n z=>by subst z;rw[B]at e;cases e;exact n hc
 let⟨p,f,l,v⟩:=Z.j1;let⟨t,g,m,x⟩:=Z.j2;let⟨a,b,j⟩:=Z.to;have D:=k i1 p (d f (by rw[l];decide)) f;have F:=k i2 t (d g (by rw[m];decide)) g;refine⟨?_,k _ _ (d Z.ti (show Đ "tuple"≠_ by decide)) Z.ti,⟨a,b,k _ _ (d j (show Đ "tuple"≠_ by decide)) j⟩,⟨p,D,l,v⟩,⟨t,F,m,x⟩,Z.e1.at λo e=>k _ o G.symm e,Z.e2.at λo e=>k _ o H.symm e⟩;rcases Z.zip with⟨y,c⟩|⟨T,q,J,c,C,r⟩
 ·exact .inl ⟨y,k _ _ (d c (show Đ "zip"≠_ by decide)) c⟩
 ·exact .inr ⟨T,q,J,k _ _ (d c (show Đ "zip"≠_ by decide)) c,k _ _ (I T q c).symm C,r⟩
def KQ{i:Nat}{x y:Value}{Q:gf->Shared->Prop}(D:SO z TI TO i1 i2 l1 l2)(Z:ZSt z TI TO i1 i2 l1 l2 xs ys i s.heap)(k:xs[i]?=some x)(l:ys[i]?=some y)(h:∀h',ZSt z TI TO i1 i2 l1 l2 xs ys (i+1) h'->h'.get? ↥s=some { cls:=.type "tuple",data:=.seq #[x,y]}->(∀(T:Addr)(q:Bool),h'.get? z=some (qJ (WA T) q TI TO)->T=↥s\/∃q',s.heap.get? z=some (qJ (WA T) q' TI TO)) ->
   (∀c o,c≠z->c≠TO->c≠i1->c≠i2->s.heap.get? c=some o->h'.get? c=some o)->Q (some (.ref ↥s)) { s with heap:=h' }):wpAny (model prog w) A (Wl (.ref z)) Q E s:=by
 let⟨a,b,g⟩:=Z.to;have lt:∀{c:Addr}{o:Obj},s.heap.get? c=some o->↥s≠c:=λe=>ś (Ó e);let⟨u,p,_⟩:=id Z.j1;let⟨v,r,_⟩:=id Z.j2;rcases Z.zip with⟨rfl,d⟩|⟨T,q,t,d,j,m,t2,n⟩
 ·refine wpAny_pyNext_zip_item D d Z.ti g Z.j1 Z.j2 Z.e1 Z.e2 k l λh' b1 b2 b3 b4 b5 b6 b7=>h h' ⟨.inr ⟨_,false,_,b1,b5,lt d,lt p,lt r⟩,b7 _ _ D.TIz D.TITO D.TIi1 D.TIi2 Z.ti,⟨_,_,b2⟩,b3,b4,Z.e1.at λo e=>b7 _ o D.l1z D.l1TO D.l1i1 D.l1i2 e,Z.e2.at λo e=>b7 _ o D.l2z D.l2TO D.l2i1 D.l2i2 e⟩ b5 (λT q e=>?_) b7;rw[b1]at e;cases e;exact .inl rfl
 ·have f:s.TypeIs (.ref z) "zip":=⟨_,d,rfl⟩
  unfold Wl;refine Ã (SA (ŋ (name:=ë "__next__") f F.slot_zip_next (Ļ F.slot_zip_next f F.entry_zip_next ?_ (F.args_zip_next_1 _))));refine yp D.i1z D.i2z D.i12 D.l1z D.l2z D.l2i1 d Z.ti j Z.j1 Z.j2 Z.e1 Z.e2 k l λh' b1 b3 b4 b5 b7=>Ú (h h' ⟨.inr ⟨T,true,t,b1,b7 _ _ m t2 n j,m,t2,n⟩,b7 _ _ D.TIz D.TIi1 D.TIi2 Z.ti,⟨a,b,b7 _ _ D.TOz D.TOi1 D.TOi2 g⟩,b3,b4,Z.e1.at λo e=>b7 _ o D.l1z D.l1i1 D.l1i2 e,Z.e2.at λo e=>b7 _ o D.l2z D.l2i1 D.l2i2 e⟩ b5 (λT' q' e=>?_) λc o n1 _ n3 n4 e=>b7 c o n1 n3 n4 e);rw[b1]at e;cases e;exact .inr ⟨_,d⟩
def QG{i:Nat}{Q:gf->Shared->Prop}(hh:A.handled=none)(D:SO z TI TO i1 i2 l1 l2)(Z:ZSt z TI TO i1 i2 l1 l2 xs ys i s.heap)(d:xs[i]?=none\/ys[i]?=none)(h:∀h',(∀c o,c≠z->c≠TO->c≠i1->c≠i2->s.heap.get? c=some o->h'.get? c=some o)->Q none { s with heap:=h' }):wpAny (model prog w) A (Wl (.ref z)) Q E s:=by
 let⟨a,b,j⟩:=Z.to;rcases Z.zip with⟨rfl,g⟩|⟨T,q,m,g,k,n,t2,p⟩
 ·exact wpAny_pyNext_zip_end hh D g Z.ti j Z.j1 Z.j2 Z.e1 Z.e2 d h
 ·have f:s.TypeIs (.ref z) "zip":=⟨_,g,rfl⟩
  unfold Wl;refine Ã (SA (ŋ (name:=ë "__next__") f F.slot_zip_next (Ļ F.slot_zip_next f F.entry_zip_next ?_ (F.args_zip_next_1 _))));refine Bs hh D.i1z D.i2z D.i12 D.l1z D.l2z D.l2i1 g Z.ti k Z.j1 Z.j2 Z.e1 Z.e2 d λh' e k2 he=>?_;let⟨o,l,hc⟩:=he;refine Ã (SB (T:="StopIteration") (b:=true) ⟨o,l,hc⟩ SC ?_);exact Ú (h _ λc o n1 _ n3 n4 e=>k2 c o n1 n3 n4 e)
def ItP(h:Heap):fT->List (Value×Value)->Prop:=Paired λv p=>∃T,v=.ref T/\h.get? T=some { cls:=.type "tuple",data:=.seq #[p.1,p.2]}
theorem ItP.snoc{h:Heap}:∀{vs:fT}{ps:List (Value×Value)}{v:Value}{p:Value×Value},ItP h vs ps->(∃T,v=.ref T/\h.get? T=some { cls:=.type "tuple",data:=.seq #[p.1,p.2]})->ItP h (vs++[v]) (ps++[p])
 |_,_,_,_,.nil,r=>.cons r .nil
 |_,_,_,_,.cons a t,r=>.cons a (ItP.snoc t r)
def ItP.keeps{h h':Heap}{vs:fT}{ps:List (Value×Value)}(H:ItP h vs ps)(k:∀T o,h.get? T=some o->o.cls=.type "tuple"->(∃v∈vs,v=.ref T)->h'.get? T=some o):ItP h' vs ps:=by
 induction H with
 |nil=>exact .nil
 |cons a t ih =>
  let⟨T,e,b⟩:=a;exact .cons ⟨T,e,k T _ b rfl ⟨_,Æ,e⟩⟩ (ih λT o h c ⟨v,hv,e⟩=>k T o h c ⟨v,Ç _ hv,e⟩)
end
section
variable{prog:Zg}{w:Zl}{A:Ys}{z TI TO i1 i2 l1 l2:Addr}{xs ys:fS}{R:WP->Shared->Prop}
abbrev R5(acc:fS)(c:Nat):Obj:={ cls:=.type "list",dict:=none,data:=.seq acc c,slots:=#[]}
def KJ(hh:A.in1.handled=none)(D:SO z TI TO i1 i2 l1 l2)(hn:min xs.size ys.size<=1000)(S:Addr)(X:S≠z/\S≠TO/\S≠i1/\S≠i2/\S≠l1/\S≠l2)(t:Value):∀(m i:Nat)(s:Shared)(acc:fS)(c:Nat),min xs.size ys.size - i=m->i<=min xs.size ys.size ->
  ZSt z TI TO i1 i2 l1 l2 xs ys i s.heap->(∀(T:Addr)(q:Bool),s.heap.get? z=some (qJ (WA T) q TI TO)->S≠T)->s.heap.get? S=some (R5 acc c)->ItP s.heap acc.toList ((xs.toList.zip ys.toList).take i)->(∀v∈acc.toList,∀T,v=.ref T->T≠z/\T≠TO/\T≠i1/\T≠i2/\T≠S) ->
  (∀h' acc' c',(∀b o,b≠S->b≠z->b≠TO->b≠i1->b≠i2->s.heap.get? b=some o->h'.get? b=some o)->h'.get? S=some (R5 acc' c')->ItP h' acc'.toList (xs.toList.zip ys.toList)->(∀v∈acc'.toList,v∈acc.toList\/∃T,v=.ref T/\↥s<=T)->R (.ok (.ret t)) { s with heap:=h' }) ->
  WZ (model prog w) A (.builtin "list.extend.loop" ⟨[.ref S,.ref z,t],[]⟩) R s:=by
 let⟨M,Q,s3,s4,s5,s6⟩:=X;intro m;induction m with
 |zero =>
  intro i s acc c hm hi Z P l j hv G;have e:i=min xs.size ys.size:=()
  refine ţ F.entry_extend_loop ?_;rw[Ř F.plain_extend_loop _];show wpAny _ A.in1 (Wl (.ref z) >>=_) _ _ s;refine Ã (QG hh D Z ?_ λh' k=>?_)
  ·rcases Nat.le_total xs.size ys.size with h|h
   ·exact .inl (Array.getElem?_eq_none ())
   ·exact .inr (Array.getElem?_eq_none ())
  ·have V:(xs.toList.zip ys.toList).take i=xs.toList.zip ys.toList:=Ţ (by simp;lia);rw[V]at j;exact Ú (G h' acc c (λb o n1 n2 n3 n4 n5 e=>k b o n2 n3 n4 n5 e) (k S _ M Q s3 s4 l) (j.keeps λT o h _ ⟨v,a,e⟩=>let⟨u,x,a3,a4,_⟩:=hv v a T e;k T o u x a3 a4 h) λv hv=>.inl hv)
 |succ m ih =>
  intro i s acc c hm hi Z P l j hv G;have N:i<xs.size:=()
  have O:i<ys.size:=()
  refine ţ F.entry_extend_loop ?_;rw[Ř F.plain_extend_loop _];show wpAny _ A.in1 (Wl (.ref z) >>=_) _ _ s;refine Ã (KQ D Z (Array.getElem?_eq_getElem N) (Array.getElem?_eq_getElem O) λh1 Z1 hT hz1 k1=>?_);have g:=k1 S _ M Q s3 s4 l;have lt:∀{b:Addr}{o:Obj},s.heap.get? b=some o->↥s≠b:=λe=>ś (Ó e);have hsz:=⇑j;have f:acc.size=i:=by
   have:⇑acc.toList=i:=by rw[hsz,Ĺ,List.length_zip];simp;lia
   simpa using this
  show wpAny _ A.in1 (SR S (·.push (.ref ↥s)) >>=_) _ _ _;refine Ã ?_;have W:=õ;have p:∀(T:Addr)(q:Bool),h1.get? z=some (qJ (WA T) q TI TO)->S≠T:=λT q e=>by
   rcases hz1 T q e with Y|⟨r,U⟩
   ·rw[Y];exact(lt l).symm
   ·exact P T r U
  have oth:∀b o,b≠S->h1.get? b=some o->(h1.update S (æ (·.push (ģ ↥s)))).get? b=some o:=λb o n e=>(Ō _ _ (ĝ n)).trans e;let⟨o1,u,_⟩:=Z.j1;let⟨o2,x,_⟩:=Z.j2;have B:∃o,s.heap.get? z=some o:=by
   rcases Z.zip with⟨_,L⟩|⟨_,_,_,L,_⟩
   ·exact⟨_,L⟩
   ·exact⟨_,L⟩
  let⟨oz,B⟩:=B;let⟨ta,tb,y⟩:=Z.to;have d:↥s≠z/\↥s≠TO/\↥s≠i1/\↥s≠i2/\↥s≠S:=⟨lt B,lt y,lt u,lt x,lt l⟩
  obtain⟨C,I⟩:∃C,(h1.update S (æ (·.push (ģ ↥s)))).get? S=some (R5 (acc.push (.ref ↥s)) C):=⟨_,ŧ _ g rfl⟩
  have tk:(xs.toList.zip ys.toList).take (i+1)=(xs.toList.zip ys.toList).take i++[(xs[i],ys[i])]:=by
   rw[Ē];congr 1;have:(xs.toList.zip ys.toList)[i]?=some (xs[i],ys[i]):=by
    rw[List.getElem?_zip_eq_some];simp[N,O]
   rw[this];rfl
  refine SS g rfl (Ú ⟨ST F.plain_extend_loop _,ih (i+1) { s with heap:=h1.update S (æ (·.push (ģ ↥s)))} (acc.push (.ref ↥s)) C () () (Z1.keeps g rfl s5 s6 p oth) (λT q e=>p T q ?_) I ?_ ?_ ?_⟩) (by rw[f];lia) (by show(acc.push _).size<=sizeLine+1;rw[Array.size_push,f];lia)
  ·have zz:z≠S:=ĝ M;rw[show(h1.update S (æ (·.push (ģ ↥s)))).get? z=h1.get? z from Ō _ _ (ĝ zz)]at e;exact e
  ·rw[tk,Array.toList_push];refine ItP.snoc (j.keeps λT o h _ ⟨v,a,e⟩=>?_) ⟨_,rfl,oth _ _ d.2.2.2.2 hT⟩;let⟨b1,b2,b3,b4,b5⟩:=hv v a T e;exact oth _ _ b5 (k1 T o b1 b2 b3 b4 h)
  ·intro v a T e;rw[Array.toList_push]at a;rcases Û.mp a with q|q
   ·exact hv v q T e
   ·have r:v=.ref ↥s:=↑q
    rw[r]at e;cases e;exact d
  ·intro h' acc' c' kk H E K;refine G h' acc' c' (λb o n1 n2 n3 n4 n5 e=>kk b o n1 n2 n3 n4 n5 (oth b o n1 (k1 b o n2 n3 n4 n5 e))) H E λv a=>?_;rcases K v a with q|⟨T,e,J⟩
   ·rw[Array.toList_push]at q;rcases Û.mp q with q|q
    ·exact .inl q
    ·have r:v=.ref ↥s:=↑q
     exact .inr ⟨_,r,Ì _⟩
   ·exact .inr ⟨T,e,ĉ (Nat.le_of_lt (Ó (oth _ _ d.2.2.2.2 hT))) J⟩
def Ew:VY (.type "zip") "__len__"=pure none:=by rw[SU,SV];kernel_rfl
def Bq:VY (.type "zip") "__length_hint__"=pure none:=by rw[SU,SV];kernel_rfl
def KN{s:Shared}{E:fA}{Q:fA}(hh:A.handled=none)(D:SO z TI TO i1 i2 l1 l2)(hn:min xs.size ys.size<=1000)(f:s.heap.get? z=some (qJ .none false TI TO))(Z:ZSt z TI TO i1 i2 l1 l2 xs ys 0 s.heap)(G:∀h' acc' c',(∀b o,b≠z->b≠TO->b≠i1->b≠i2->s.heap.get? b=some o->h'.get? b=some o)->h'.get? ↥s=some (R5 acc' c')->ItP h' acc'.toList (xs.toList.zip ys.toList)->(∀v∈acc'.toList,∃T,v=.ref T/\↥s<T)->Q (.ref ↥s) { s with heap:=h' }) :
  wpAny (model prog w) A (WF (.type "list") [.ref z]) Q E s:=by
 have lt:∀{b:Addr}{o:Obj},s.heap.get? b=some o->↥s≠b:=λe=>ś (Ó e);let⟨N,B,_⟩:=id Z.j1;let⟨O,C,_⟩:=id Z.j2;let⟨P,b1,_⟩:=id Z.e1;let⟨S,b2,_⟩:=id Z.e2;let⟨L,M,i⟩:=id Z.to;refine callType_codes (Q₁:=λobj s₁=>obj=.ref ↥s/\s₁={ s with heap:=s.heap.push { cls:=.type "list",data:=.seq #[]}}) F.called_list (F.typeCall_list_1 _) F.entry_list_init (code_list_new _ ⟨rfl,rfl⟩) λobj sx hx=>?_;let⟨rfl,rfl⟩:=hx;have r:(s.heap.push { cls:=.type "list",data:=.seq #[]}).get? ↥s=some { cls:=.type "list",data:=.seq #[]}:=ä _ rfl;refine⟨⟨_,r,rfl⟩,F.args_list_init_2 _ _,?_⟩;show wpAny _ _ (Builtin.List.listItems (.ref ↥s) >>=λd=>Builtin.List.listUpdate (.ref ↥s) (λ_=>#[]) >>=λ_=>letGo d.toList.reverse >>=λ_=>ŷ (.ref ↥s) (.ref z) .none) _ _ _;have d:∀b o,s.heap.get? b=some o->(s.heap.push { cls:=.type "list",data:=.seq #[]}).get? b=some o:=λb o e=>Ô _ e;refine Ã ?_;unfold Builtin.List.listItems;refine Ã (ź r rfl (Ú ?_));refine Ã (m:=SR ↥s (λ_=>#[])) (SS r rfl ?_);have a:=ŧ (æ (λ_=>(#[]:fS))) r rfl;refine Ã (SW ?_);generalize hg:(s.heap.push { cls:=.type "list",data:=.seq #[]}).update ↥s (æ λ_=>(#[]:fS))=g at a;have p:∀b o,s.heap.get? b=some o->g.get? b=some o:=λb o e=>by rw[←hg];exact(Ō _ _ (lt e)).trans (d b o e)
 have K:g.objs.size=↥s+1:=by rw[←hg,Ĩ,Ŝ]
 have y:∀{h:Heap},(∀b o,s.heap.get? b=some o->h.get? b=some o)->ZSt z TI TO i1 i2 l1 l2 xs ys 0 h:=λ{h} k=>⟨.inl ⟨rfl,k _ _ f⟩,k _ _ Z.ti,⟨L,M,k _ _ i⟩,Z.j1.at λo e=>k _ o e,Z.j2.at λo e=>k _ o e,Z.e1.at λo e=>k _ o e,Z.e2.at λo e=>k _ o e⟩
 have t:∀{h:Heap},(∀b o,s.heap.get? b=some o->h.get? b=some o)->({ s with heap:=h }:Shared).TypeIs (.ref z) "zip":=λk=>⟨_,k _ _ f,rfl⟩
 unfold ŷ;refine Ã (VW (t p) ?_);have H:Builtin.List.listSameRef (.ref ↥s) (.ref z)=false:=by simp[Builtin.List.listSameRef,lt f]
 have I:(Đ "zip"==Đ "list")=false:=∅
 have J:(Đ "zip"==Đ "tuple")=false:=∅
 simp only[H,I,J,Bool.or_false,ķ,if_false];refine Ã (wpAny_pyIter_zip (p _ _ f) ?_);refine Ã (ħ ?_);unfold Builtin.List.listLengthHint;refine Ã (SH (t p) Ew ?_);show wpAny _ _ (specialOf (ģ z) (ë "__length_hint__") >>=_) _ _ _;refine Ã (SH (t p) Bq ?_);refine Ú ?_;show wpAny _ _ (rule "list.extend.makes-room" >>=λ_=>Builtin.List.listTouch (.ref ↥s) >>=λ_=>again (.builtin "list.extend.loop" ⟨[.ref ↥s,.ref z,.none],[]⟩)) _ _ _;refine Ã (wpAny_rule (Ã ?_));show wpAny _ _ (SR ↥s (·.push .none) >>=λ_=>SR ↥s (·.pop)) _ _ _;refine Ã (SS a rfl ?_);have j:=ŧ (æ (·.push Ĕ)) a rfl;refine SS j rfl ?_;have l:=ŧ (æ (·.pop)) j rfl;generalize hk:(g.update ↥s (æ (·.push Ĕ))).update ↥s (æ (·.pop))=g' at l;have kk:∀b o,b≠↥s->g.get? b=some o->g'.get? b=some o:=λb o n e=>by rw[←hk];exact(Ō _ _ (ĝ n)).trans ((Ō _ _ (ĝ n)).trans e)
 have c:∀b o,s.heap.get? b=some o->g'.get? b=some o:=λb o e=>kk b o (ĝ (lt e)) (p b o e);have U:g'.objs.size=↥s+1:=by rw[←hk,Ĩ,Ĩ,K]
 refine Ú ⟨ST F.plain_extend_loop _,KJ (A:=A.in1) (xs:=xs) (ys:=ys) hh D hn ↥s ⟨lt f,lt i,lt B,lt C,lt b1,lt b2⟩ _ _ 0 { s with heap:=g' } #[] _ rfl (ą _) (y c) (λT q e=>?_) l .nil (λv hv=>nomatch hv) λh' acc' c' k' hS' hP' hn'=>?_⟩
 ·have x:=c _ _ f;rw[e]at x;cases x
 ·refine⟨rfl,G h' acc' c' (λb o n1 n2 n3 n4 e=>k' b o (ĝ (lt e)) n1 n2 n3 n4 (c b o e)) hS' hP' λv hv=>?_⟩;rcases hn' v hv with q|⟨T,e,u⟩
  ·exact nomatch q
  ·refine⟨T,e,?_⟩;have:g'.objs.size<=T:=u;lia
end
end PySem
namespace L2
open PySem.Spec
section
variable{X:Cx}{pins:fF}{σ:L2.St}{H:Hp}{s:Shared}
def Inv.K6{a:Addr}{o:HO}{i:Hp}{g:Shared}{h:L2.St}(I:Inv X pins σ H s)(f:Inv X pins h i g)(d:↥g<=a)(hn:H a=none)(new:bA X.prog X.w (upd H a o) s.heap a o):Inv X pins σ (upd H a o) s:=by
 have lt:∀{b:Addr}{u:Obj},g.heap.get? b=some u->b≠a:=λe z=>ft (ì (Ó e) d) (by rw[z];exact Ę _);refine I.track hn (λob e=>?_) (ĝ (å (ì f.lt d))) (λx c e=>?_) (λp hp=>lt (f.pin p hp).1) new
 ·exact ft (ì (Ó e) (ĉ f.sz d)) (Ę _)
 ·let⟨v,u,hu,_⟩:=f.cell x c e;exact lt hu
theorem Inv.tuples{B:Hp}{g:Shared}{j:L2.St}(k:Inv X pins j B g):∀(vs:fT)(ps:List (Value×Value))(i:List (V×V))(H:Hp),Inv X pins σ H s->ItP s.heap vs ps->Paired (λ(q:V×V) (p:Value×Value)=>RelV q.1 p.1/\RelV q.2 p.2) i ps->(∀v∈vs,∃T,v=.ref T/\↥g<=T)->(∀T,↥g<=T->H T=none\/∃xs,H T=some (.tup xs)) ->
  ∃(d:Hp)(ws:List V),Inv X pins σ d s/\Same H d/\Vals ws vs/\Paired (λw (q:V×V)=>∃t,w=.ref t/\d t=some (.tup [q.1,q.2])) ws i/\(∀T,↥g<=T->d T=none\/∃xs,d T=some (.tup xs))/\(∀T,(∀v∈vs,v≠.ref T)->d T=H T)
 |_,_,_,H,I,.nil,.nil,_,hN=>⟨H,[],I,Same.refl _,.nil,.nil,hN,λ_ _=>rfl⟩
 |_,_,_,H,I,.cons (a:=v) (l₁:=vs) (b:=p) (l₂:=ps) r t,.cons (a:=q) (l₁:=i) rq tq,hv,hN=>by
  let⟨T,e,l⟩:=r;subst e;let⟨P,G,f⟩:=hv _ Æ;cases G;have A:Vals [q.1,q.2] [p.1,p.2]:=.cons rq.1 (.cons rq.2 .nil);have okT:∀h:Hp,bA X.prog X.w h s.heap T (.tup [q.1,q.2]):=λh=>⟨by show 2<=sizeLine;decide,[p.1,p.2],A,⟨_,l,rfl,0,rfl⟩⟩
  have key:∃c,Inv X pins σ c s/\Same H c/\c T=some (.tup [q.1,q.2])/\(∀U,↥g<=U->c U=none\/∃xs,c U=some (.tup xs))/\∀U,U≠T->c U=H U:=by
   rcases hN T f with hn|⟨xs,x⟩
   ·refine⟨upd H T (.tup [q.1,q.2]),I.K6 k f hn (okT _),λb u e=>by rw[ao (aA e hn)];exact e,aq,λU hU=>?_,λU hU=>ao hU⟩;by_cases z:U=T
    ·subst z;exact .inr ⟨_,aq⟩
    ·rw[ao z];exact hN U hU
   ·refine⟨H,I,Same.refl _,?_,hN,λ_ _=>rfl⟩;let⟨_,its,K,o,m,hc,n,hd⟩:=I.hok T _ x;rw[l]at m;cases m;cases hd;have:xs=[q.1,q.2]:=Vals.inj ↑K A;rw[x,this]
  let⟨c,C,L,h1,E,M⟩:=key;let⟨h,ws,D,y,O,J,F,N⟩:=Inv.tuples k vs ps i c C t tq (λv hv'=>hv v (Ç _ hv')) E;refine⟨h,.ref T::ws,D,L.trans y,.cons rfl O,.cons ⟨T,rfl,y _ _ h1⟩ J,F,λU hU=>?_⟩;rw[N U λv hv'=>hU v (Ç _ hv'),M U λz=>hU _ Æ (by rw[z])]
def tLZ(K:Ý)(a:TA):TE:=λσ H Q=>a σ H λvs H1=>∃p q xs ys,vs=[.ref p,.ref q]/\SqL K H1 p xs/\SqL K H1 q ys/\⇑xs<=1000 /\
 ∀l ws H',Same H1 H'->H1 l=none->H' l=some (.lst ws)->Paired (λw (q:V×V)=>∃t,w=.ref t/\H' t=some (.tup [q.1,q.2])) ws (xs.zip ys)->Q (.ref l) H'
theorem Bt:∀{xs ys:List V}{e vs:fT},Vals xs e->Vals ys vs->Paired (λ(q:V×V) (p:Value×Value)=>RelV q.1 p.1/\RelV q.2 p.2) (xs.zip ys) (e.zip vs)
 |_,_,_,_,.nil,_=>.nil
 |_,_,_,_,.cons _ _,.nil=>.nil
 |_,_,_,_,.cons a b,.cons c d=>.cons ⟨a,c⟩ (Bt b d)
def Fx{a b:YE}{O:TA}{p1 A m c:Pos}(hc:X.calm=true)(hgl:Gl X "list")(hml:X.mg "list"=none)(r:Gl X "zip")(x:X.mg "zip"=none)(ha:PA X [a,b] O)(F:YI [.Call (.Name "zip" A) [a,b] [] c] X.env=[(false,YN (.Call (.Name "zip" A) [a,b] [] c) X.env)]:=by rfl)(V:YI [a,b] X.env=(false,YN a X.env)::YI [b] X.env:=by rfl)(W:(YO c (YI [b] X.env)).any (·.1)=false:=by rfl) :
  PE X (.Call (.Name "list" p1) [.Call (.Name "zip" A) [a,b] [] c] [] m) (tLZ X.K O):=by
 intro pins s σ H Q I h;refine ŝ (jf I hgl hml SZ ?_);refine ĳ ?_ F rfl;rw[F];refine Calls.spliced_cons ?_;refine ŝ (jf I r x PyProof.Rows.boot_zip ?_);refine ĳ (thn (ha c pins s σ H _ I h) λus s1 ⟨vs,H1,I1,r1,q1⟩=>?_) V W;let⟨p,q,xs,ys,rfl,hp,hq,J,k⟩:=q1;let⟨u,u2,rfl,rx,ry⟩:=vals2 r1;cases rx;cases ry;let⟨its,N,B,_⟩:=I1.list hp;let⟨i,C,g,_⟩:=I1.list hq;refine call_zip_2 B.isList g.isList λh' hz hTI hTO hi1 hi2 hsz hk=>?_;refine Calls.spliced_nil ?_;have lp:p<↥s1:=by let⟨o,e,_⟩:=B.isList;exact Ó e
 have lq:q<↥s1:=by let⟨o,e,_⟩:=g.isList;exact Ó e
 have D:=zipApart_new lp lq;have Z:ZSt (↥s1+4) (↥s1+2) (↥s1+3) ↥s1 (↥s1+1) p q its.toArray i.toArray 0 h' :=
  ⟨.inl ⟨rfl,hz⟩,hTI,⟨_,_,hTO⟩,hi1,hi2,B.isList.at λo e=>hk _ o e,g.isList.at λo e=>hk _ o e⟩
 have hl1:=⇑N;refine KN (s:={ s1 with heap:=h' }) (I1.ok.hd hc) D (by simp;lia) hz Z λh2 acc c2 k2 hS hP hT=>?_;have lt:∀{b:Addr}{o:Obj},s1.heap.get? b=some o->b<↥s1:=λe=>Ó e;have l:∀b o,s1.heap.get? b=some o->h2.get? b=some o:=λb o e=>by
  have l0:=lt e;have n:∀j,b≠↥s1+j:=λj=>å (ì l0 (Nat.le_add_right _ _));exact k2 b o (n 4) (n 3) (n 0) (n 1) (hk b o e)
 have R:Inv X pins σ H1 { s1 with heap:=h2 }:=I1.kept (t':=s1.toks) l;have L:h'.objs.size=↥s1+5:=hsz;let⟨E,ws,S,s3,P,M,N3,u3⟩:=Inv.tuples I1 acc.toList _ _ H1 R hP (Bt N C) (λv hv=>by
  let⟨T,e,f⟩:=hT v hv;have G:h'.objs.size<T:=f;exact⟨T,e,()⟩) λT hT=>.inl (I1.hok.fresh hT)
 have d:E h'.objs.size=none:=by
  rw[u3 _ λv hv z=>?_]
  ·exact I1.hok.fresh ()
  ·let⟨T,e,f⟩:=hT v hv;rw[z]at e;cases e;exact ft f (Ę _)
 have y:⇑ws<=sizeLine:=by
  have:=⇑P;have Y:=õ;have l3:=⇑M;rw[l3,List.length_zip];lia
 have U:Inv X pins σ (upd E h'.objs.size (.lst ws)) { s1 with heap:=h2 }:=S.K6 I1 () d ⟨y,acc.toList,c2,P,hS⟩;refine⟨.ref h'.objs.size,_,U,rfl,k h'.objs.size ws _ (s3.trans λb u e=>by rw[ao (aA e d)];exact e) (I1.hok.fresh ()) aq (Paired.Gh M λw q ⟨t,e,ht⟩=>⟨t,e,by rw[ao (aA ht d)];exact ht⟩)⟩
end
end L2
namespace Dl
open L2
variable{X:Cx}
variable [Gr]
section
variable{pos:Pos}{a b c e:YE}{es:List YE}{ta tb tc te:DE}{t:DA}
def newP(k:Kd)(ds:gg)(P:Kd->Prop):Prop:=(eU ds=true/\P .new)\/P (k.join .new)
def mY{p:Pn}{d f H g:Hp}{own:Addr->Option Nat}(A:At p d own f H){k:Kd}{vs:List V}{ds:gg}{P:Kd->Prop}{l:Addr}(r:Rps (okK p d own f k) g vs ds)(j:okK p d own f .new l)(hl:g l=some (.lst vs))(h:newP k ds P):∃k',P k'/\Rp (okK p d own f k') g (.ref l) (.list ds):=by
 rcases h with⟨i,h⟩|h
 ·exact⟨_,h,.lst j hl ((Rps.imm r i).mono (λ_ o=>o.elim) (λ_ _ _ e=>e) λ_ _ e=>e)⟩
 ·exact⟨_,h,.lst (cQ A (gK k .new).2 j) hl (r.mono (λa o=>cQ A (gK k .new).1 o) (λ_ _ _ e=>e) λ_ _ e=>e)⟩
theorem gj:∀l:fM,eU (l.map Â)=true
 |[]=>rfl
 |x::l=>by
  show(gO (.int x)&&eU (l.map Â))=true;rw[gj l];rfl
theorem dz:∀l:fN,eU (l.map pD)=true
 |[]=>rfl
 |x::l=>by
  show(gO (pD x)&&eU (l.map pD))=true;rw[dz l];rfl
def prD(p:D×D):D:=.tuple [p.1,p.2]
def Zr:GC:=λks P=>match ks with
 |[(k1,.list ds),(k2,.list es)]=>⇑ds<=1000/\newP (k1.join k2) ((ds.zip es).map prD) λk=>P k (.list ((ds.zip es).map prD))
 |_=>False
theorem Rps.zip{ok:Addr->Prop}{H f:Hp}(m:∀{v:V}{d:D},Rp ok H v d->Rp ok f v d):∀{xs ys:List V}{ds es:gg}{ws:List V},Rps ok H xs ds->Rps ok H ys es->Paired (λw (q:V×V)=>∃t,w=.ref t/\f t=some (.tup [q.1,q.2])) ws (xs.zip ys)->Rps ok f ws ((ds.zip es).map prD)
 |_,_,_,_,_,.nil,_,p=>by cases p;exact .nil
 |_,_,_,_,_,.cons _ _,.nil,p=>by cases p;exact .nil
 |_,_,_,_,_,.cons h t,.cons h2 t2,p=>by
  cases p with
  |cons r q =>
   let⟨t',rfl,ht⟩:=r;exact .cons (.tup ht (.cons (m h) (.cons (m h2) .nil))) (Rps.zip m t t2 q)
def FP{O D f d:Pos}(hc:X.calm=true)(hml:X.mg "list"=none)(u:X.mg "zip"=none)(ha:PDA X [a,b] t)(hgl:Gl X "list":=by rfl)(n:Gl X "zip":=by rfl)(j:YI [.Call (.Name "zip" D) [a,b] [] d] X.env=[(false,YN (.Call (.Name "zip" D) [a,b] [] d) X.env)]:=by rfl)(m:YI [a,b] X.env=(false,YN a X.env)::YI [b] X.env:=by rfl)(L:(YO d (YI [b] X.env)).any (·.1)=false:=by rfl) :
  PD X (.Call (.Name "list" O) [.Call (.Name "zip" D) [a,b] [] d] [] f) (tCl Zr t):=PE.wk (Fx hc hgl hml n u ha j m L) (by
 rintro σ H Q ⟨p,i,own,ρ,P,E,t,q⟩;refine⟨p,i,own,ρ,_,E,t,λks vs H1 h A r=>?_⟩;unfold Zr at h;split at h
 ·rename_i B ds C M;let⟨v,w,rfl,R,S⟩:=Q7 r;let⟨x,xs,j,U,h1,g⟩:=Rp.bT R;let⟨y,ys,m,V,h2,G⟩:=Rp.bT S;subst j m;refine⟨x,y,xs,ys,rfl,SqL.of h1,SqL.of h2,by rw[⇑g];exact h.1,λl ws H' sm hl hl' hp=>?_⟩;have K:Kp p H1 H':=Kp.of sm;have N:p.PI H':=p.mono H1 H' A.pen λb o _ e=>sm b o e;have I:=gK B C;have J:∀{k:Kd},k.le (B.join C)=true->∀{vs ds},Rps (okK p i own H k) H1 vs ds->Rps (okK p i own H (B.join C)) H1 vs ds:=λhk _ _ z=>z.mono (λa o=>cQ A hk o) (λ_ _ _ e=>e) λ_ _ e=>e;let⟨T,s,F⟩:=mY A (Rps.zip (λz=>j8 A K z) (J I.1 g) (J I.2 G) hp) (A.free hl) hl' h.2;exact q _ _ _ _ s (A.go K N) F
 ·exact h.elim)
def tCh(f g:Int->Int->Bool)(ta tb tc:DE):DE:=λρ P=>ta ρ λ_ d1=>tb ρ λ_ d2=>match d1,d2 with
 |.int i,.int j=>if f i j=true then tc ρ λ_ d3=>(match d3 with
   |.int l=>P .imm (.bool (g j l))
   |_=>False)else P .imm (.bool false)
 |_,_=>False
def tG{f g:Int->Int->Bool}:∀σ H Q,aV (tCh f g ta tb tc) σ H Q->ux (rI0 λi j=>.bl (f i j)) (rI0 λi j=>.bl (g i j)) (aV ta) (aV tb) (aV tc) σ H Q:=by
 rintro σ H Q ⟨p,d,own,ρ,P,E,t,q⟩;refine⟨p,d,own,ρ,_,E,t,λk1 d1 v1 H1 t1 A1 r1=>?_⟩;refine⟨p,d,own,ρ,_,E.go A1.kp A1.pen,t1,λk2 d2 v2 H2 t2 A2 r2=>?_⟩;have A:=A1.gy A2;split at t2
 ·rename_i i j;refine⟨i,j,r1.int',r2.int',_,rfl,?_⟩;cases h:f i j with
  |true =>
   rw[h,fo rfl]at t2;refine aF ⟨p,d,own,ρ,_,(E.go A1.kp A1.pen).go A2.kp A2.pen,t2,λk3 d3 v3 H3 t3 A3 r3=>?_⟩;cases d3 with
   |int l=>exact⟨j,l,r2.int',r3.int',q _ _ _ _ t3 (A.gy A3) (.bl _)⟩
   |_=>exact t3.elim
  |false =>
   rw[h,fq Ù]at t2;exact aJ (q _ _ _ _ t2 A (.bl _))
 ·exact t2.elim
def HJ(ha:PD X a ta)(hb:PD X b tb)(hc:PD X c tc)(hm:WI [.LtE,.Lt] [b,c]=false:=by with_unfolding_all rfl):PD X (.Compare a [.LtE,.Lt] [b,c] pos) (tCh (λi j=>decide (i<=j)) (λi j=>decide (i<j)) ta tb tc):=PE.wk (Mx T9 ou ha hb hc hm) tG
def jt{f d:XG}{r i:R2}{g:DE}(h:PT X (.Compare a [f,d] [b,c] pos) (K9 (ux r i (aV ta) (aV tb) (aV tc))))(w:∀σ H Q,aV g σ H Q->ux r i (aV ta) (aV tb) (aV tc) σ H Q):PDT X (.Compare a [f,d] [b,c] pos) (dZ g) :=
 PT.wk h λσ H Q q=>w σ H _ (vC σ H Q q)
def X8(ta:DE):DE:=λρ P=>ta ρ λ_ d=>match d with
 |.bool b=>P .imm (.bool (!b))
 |_=>False
theorem V1(ha:PD X a ta):PD X (.UnaryOp .Not a pos) (X8 ta):=PE.wk (VL ha) (by
 rintro σ H Q ⟨p,f,own,ρ,P,E,t,q⟩;refine⟨p,f,own,ρ,_,E,t,λk d v H' h A r=>?_⟩;cases d with
 |bool b=>exact⟨b,r.bl',q _ _ _ _ h A (.bl _)⟩
 |_=>exact h.elim)
def Hi(ta tb:DE):DE:=λρ P=>ta ρ λ_ d=>match d with
 |.bool b=>if b=true then tb ρ P else P .imm (.bool false)
 |_=>False
def jK{op}(h:PD X a ta):PD X (.BoolOp op [a] pos) ta:=VJ h
theorem je{rest:List YE}(ha:PD X a ta)(hb:PD X (.BoolOp .And (b::rest) pos) tb):PD X (.BoolOp .And (a::b::rest) pos) (Hi ta tb):=PE.wk (VP ha hb) (by
 rintro σ H Q ⟨p,f,own,ρ,P,E,t,q⟩;refine⟨p,f,own,ρ,_,E,t,λk d v H' h A r=>?_⟩;cases d with
 |bool b =>
  refine⟨b,r.bl',?_⟩;cases b with
  |true=>exact aF ⟨p,f,own,ρ,P,E.go A.kp A.pen,↑h,λk d v H2 h2 A2 r2=>q k d v H2 h2 (A.gy A2) (pL A r2)⟩
  |false=>exact aJ (q _ _ _ _ ↑h A (.bl _))
 |_=>exact h.elim)
def Vl(tc:DT)(ta tb:DE):DE:=λρ P=>tc ρ λb=>if b=true then ta ρ P else tb ρ P
theorem jw{u:DT}(hc:PDT X c u)(ha:PD X a ta)(hb:PD X b tb):PD X (.IfExp c a b pos) (Vl u ta tb):=PE.wk (Mv hc ha hb) (by
 rintro σ H Q ⟨p,f,own,ρ,P,E,t,q⟩;refine⟨p,f,own,ρ,_,E,t,λb H' h A=>?_⟩;have g:∀k d v H2,P k d->At p f own H' H2->Rp (okK p f own H' k) H2 v d->Q v H2:=λk d v H2 h2 A2 r2=>q k d v H2 h2 (A.gy A2) (pL A r2);cases b with
 |true=>exact aF ⟨p,f,own,ρ,P,E.go A.kp A.pen,↑h,g⟩
 |false=>exact aJ ⟨p,f,own,ρ,P,E.go A.kp A.pen,↑h,g⟩)
def tyD:D->String
 |.none=>"NoneType"
 |.bool _=>"bool"
 |.int _=>"int"
 |.str _=>"str"
 |.list _=>"list"
 |.tuple _=>"tuple"
 |.dict _=>"dict"
def isT(c:String)(d:D):Bool:=tyD d==c || (c=="int"&&tyD d=="bool")
def tIs(c:String)(te:DE):DE:=λρ P=>te ρ λ_ d=>P .imm (.bool (isT c d))
def cZ{T:String}{x:Str}{ps g:Pos}(hk:∀t:Value,(t=.type "NoneType"\/t=.type "bool"\/t=.type "int"\/t=.type "str"\/t=.type "list"\/t=.type "tuple"\/t=.type "dict")->∃n,t=.type n/\W.kitOne X.K t (.type T)=some (n==T || (T=="int"&&n=="bool")))(hm:X.mg "isinstance"=none)(he:PD X e te)(s:PE X (.Name x g) (tC (.ty T)))(hg:Gl X "isinstance":=by rfl)(h1:YI [e,.Name x g] X.env=(false,YN e X.env)::YI [.Name x g] X.env:=by rfl)(h2:YI [.Name x g] X.env=(false,YN (.Name x g) X.env)::YI [] X.env:=by rfl)(hpl:(YO pos (YI [.Name x g] X.env)).any (·.1)=false:=by rfl) :
  PD X (.Call (.Name "isinstance" ps) [e,.Name x g] [] pos) (tIs T te):=PE.wk (fZ Bk hg hm boot_isinstance (dI he (dI s aW h2) h1) ∅ ∅ h1 hpl) (by
 rintro σ H Q ⟨p,m,own,ρ,P,E,t,q⟩;refine⟨p,m,own,ρ,_,E,t,λk d v H' h A r=>?_⟩;have f:∀n,TyOf X.K H' v (.type n)->n=tyD d->∃x' c' t' b,[v,V.ty T]=[x',.ty c']/\TyOf X.K H' x' t'/\W.kitOne X.K t' (.type c')=some b/\Q (.bl b) H':=λn ty en=>by
  let⟨u,e,j⟩:=hk (.type n) (by rw[en];cases d <;> simp[tyD]);cases e;refine⟨v,T,.type n,_,rfl,ty,j,?_⟩;rw[en];exact q _ _ _ _ h A (.bl _)
 show ∃x' c' t' b,_/\_;cases r with
 |non=>exact f _ .non rfl
 |bl b=>exact f _ (.bl b) rfl
 |int i=>exact f _ (.int i) rfl
 |str x=>exact f _ (.str x) rfl
 |lst o hh l=>exact f _ (.lst hh) rfl
 |tup hh l=>exact f _ (.tup hh) rfl
 |dct o hh l=>exact f _ (.dK hh) rfl)
def SJ{K:Ý}:∀t:Value,(t=.type "NoneType"\/t=.type "bool"\/t=.type "int"\/t=.type "str"\/t=.type "list"\/t=.type "tuple"\/t=.type "dict")->∃n,t=.type n/\W.kitOne K t (.type "int")=some (n=="int" || ("int"=="int"&&n=="bool")):=by
 rintro t (rfl|rfl|rfl|rfl|rfl|rfl|rfl) <;> exact⟨_,rfl,rfl⟩
def O1{K:Ý}:∀t:Value,(t=.type "NoneType"\/t=.type "bool"\/t=.type "int"\/t=.type "str"\/t=.type "list"\/t=.type "tuple"\/t=.type "dict")->∃n,t=.type n/\W.kitOne K t (.type "bool")=some (n=="bool" || ("bool"=="int"&&n=="bool")):=by
 rintro t (rfl|rfl|rfl|rfl|rfl|rfl|rfl) <;> exact⟨_,rfl,rfl⟩
def vH{K:Ý}:∀t:Value,(t=.type "NoneType"\/t=.type "bool"\/t=.type "int"\/t=.type "str"\/t=.type "list"\/t=.type "tuple"\/t=.type "dict")->∃n,t=.type n/\W.kitOne K t (.type "list")=some (n=="list" || ("list"=="int"&&n=="bool")):=by
 rintro t (rfl|rfl|rfl|rfl|rfl|rfl|rfl) <;> exact⟨_,rfl,rfl⟩
def kit_tuple{K:Ý}:∀t:Value,(t=.type "NoneType"\/t=.type "bool"\/t=.type "int"\/t=.type "str"\/t=.type "list"\/t=.type "tuple"\/t=.type "dict")->∃n,t=.type n/\W.kitOne K t (.type "tuple")=some (n=="tuple" || ("tuple"=="int"&&n=="bool")):=by
 rintro t (rfl|rfl|rfl|rfl|rfl|rfl|rfl) <;> exact⟨_,rfl,rfl⟩
def Sy{K:Ý}:∀t:Value,(t=.type "NoneType"\/t=.type "bool"\/t=.type "int"\/t=.type "str"\/t=.type "list"\/t=.type "tuple"\/t=.type "dict")->∃n,t=.type n/\W.kitOne K t (.type "str")=some (n=="str" || ("str"=="int"&&n=="bool")):=by
 rintro t (rfl|rfl|rfl|rfl|rfl|rfl|rfl) <;> exact⟨_,rfl,rfl⟩
def W6:GC:=λks P=>match ks with
 |[(_,.list ds)]=>∃bs:List Bool,ds=bs.map PyData.bool/\P .imm (.bool (bs.all id))
 |_=>False
theorem Rps.bools{ok:Addr->Prop}{H:Hp}:∀{vs:List V}{bs:List Bool},Rps ok H vs (bs.map PyData.bool)->vs=bs.map V.bl
 |[],[],_=>rfl
 |_,b::bs,.cons h t=>by
  have e:=h.bl';subst e;rw[Rps.bools t];rfl
def kJ{ps:Pos}(hc:X.calm=true)(hm:X.mg "all"=none)(hv:Z3 "all"=some (.builtin "all"))(ha:PDA X [a] t)(hg:Gl X "all":=by rfl)(he:zS X a []:=by rfl)(hpl:zP X pos []:=by rfl):PD X (.Call (.Name "all" ps) [a] [] pos) (tCl W6 t) :=
 eN (Kv hc) (by
  intro p i own j H vs ks P Q A r t q;unfold W6 at t;split at t
  ·let⟨bs,rfl,t⟩:=t;let⟨v,rfl,h⟩:=gq r;let⟨x,xs,f,k,h1,d⟩:=Rp.bT h;subst f;have g:=Rps.bools d;subst g;exact⟨x,bs,rfl,SqL.of h1,q _ _ _ _ t Kp.refl A.pen (.bl _)⟩
  ·exact t.elim) hg hm hv ha ∅ ∅ he hpl
def gMM(f:Int->Int->Int):GC:=λks P=>match ks with
 |[(_,.int i),(_,.int j)]=>P .imm (.int (f i j))
 |_=>False
def jL{ps:Pos}(hc:X.calm=true)(hm:X.mg "max"=none)(ha:PDA X [a,b] t)(hg:Gl X "max":=by rfl)(he:YI [a,b] X.env=(false,YN a X.env)::YI [b] X.env:=by rfl)(hpl:(YO pos (YI [b] X.env)).any (·.1)=false:=by rfl):PD X (.Call (.Name "max" ps) [a,b] [] pos) (tCl (gMM λi j=>if j > i then j else i) t) :=
 eN (Ku hc) (by
  intro p g own h H vs ks P Q A r t q;unfold gMM at t;split at t
  ·rename_i k i l j;let⟨v,w,rfl,d,f⟩:=Q7 r;rw[Rp.int' d,Rp.int' f];exact⟨i,j,rfl,q _ _ _ _ t Kp.refl A.pen (.int _)⟩
  ·exact t.elim) hg hm boot_max ha ∅ ∅ he hpl
def HD{ps:Pos}(hc:X.calm=true)(hm:X.mg "min"=none)(ha:PDA X [a,b] t)(hg:Gl X "min":=by rfl)(he:YI [a,b] X.env=(false,YN a X.env)::YI [b] X.env:=by rfl)(hpl:(YO pos (YI [b] X.env)).any (·.1)=false:=by rfl):PD X (.Call (.Name "min" ps) [a,b] [] pos) (tCl (gMM λi j=>if j<i then j else i) t) :=
 eN (Ks hc) (by
  intro p g own h H vs ks P Q A r t q;unfold gMM at t;split at t
  ·rename_i k i l j;let⟨v,w,rfl,d,f⟩:=Q7 r;rw[Rp.int' d,Rp.int' f];exact⟨i,j,rfl,q _ _ _ _ t Kp.refl A.pen (.int _)⟩
  ·exact t.elim) hg hm boot_min ha ∅ ∅ he hpl
def SQ:GC:=λks P=>match ks with
 |[(k,.list ds)]=>newP k ds λk'=>P k' (.list ds)
 |[(k,.tuple ds)]=>newP k ds λk'=>P k' (.list ds)
 |_=>False
def sZ{ps:Pos}(hm:X.mg "list"=none)(ha:PDA X [a] t)(hg:Gl X "list":=by rfl)(he:zS X a []:=by rfl)(hpl:zP X pos []:=by rfl):PD X (.Call (.Name "list" ps) [a] [] pos) (tCl SQ t) :=
 Cv Bj (by
  intro p o own s H vs ks P Q A r t q;have f:∀{k ds xs},Rps (okK p o own s k) H xs ds->newP k ds (λm=>P m (.list ds))->∀l,H l=none->Q (.ref l) (upd H l (.lst xs)):=λ{k ds xs} rs t l hl=>by
   let⟨n,u,w⟩:=A.new hl (.lst xs);let⟨m,h,j⟩:=mY A (cO A n rs) w aq t;exact q _ _ _ _ h n u j
  unfold SQ at t;split at t
  ·let⟨v,rfl,i⟩:=gq r;let⟨x,xs,g,y,h1,d⟩:=Rp.bT i;subst g;exact⟨x,xs,rfl,.inl (SqL.of h1),f d t⟩
  ·let⟨v,rfl,i⟩:=gq r;let⟨x,xs,g,h1,d⟩:=Rp.fj i;subst g;exact⟨x,xs,rfl,.inr (SqT.of h1),f d t⟩
  ·exact t.elim) hg hm SZ ha ∅ ∅ he hpl
def Il:GC:=λks P=>match ks with
 |[(k,.list ds)]=>P (norm k (.tuple ds)) (.tuple ds)
 |[(k,.tuple ds)]=>P (norm k (.tuple ds)) (.tuple ds)
 |_=>False
def gJ{ps:Pos}(hm:X.mg "tuple"=none)(ha:PDA X [a] t)(hg:Gl X "tuple":=by rfl)(he:zS X a []:=by rfl)(hpl:zP X pos []:=by rfl):PD X (.Call (.Name "tuple" ps) [a] [] pos) (tCl Il t) :=
 Cv wM (by
  intro p j own m H vs ks P Q A r t q;unfold Il at t;split at t
  ·rename_i k ds;let⟨v,rfl,f⟩:=gq r;let⟨x,xs,g,o,h1,d⟩:=Rp.bT f;subst g;refine⟨x,xs,rfl,.inl ⟨SqL.of h1,λl hl=>?_⟩⟩;let⟨h,i,n⟩:=A.new hl (.tup xs);exact q _ _ _ _ t h i (aR (.tup aq (cO A h d)))
  ·rename_i k ds;let⟨v,rfl,f⟩:=gq r;let⟨x,xs,g,h1,d⟩:=Rp.fj f;subst g;exact⟨x,xs,rfl,.inr ⟨SqT.of h1,q _ _ _ _ t Kp.refl A.pen (aR f)⟩⟩
  ·exact t.elim) hg hm boot_tuple ha ∅ ∅ he hpl
def Gu:GC:=λks P=>match ks with
 |[(_,d)]=>∃ts:fN,(d=.list (ts.map pD)\/d=.tuple (ts.map pD))/\⇑ts<64/\(∀t∈ts,o8 t)/\∀us:fN,us.Perm ts->us.Pairwise (λa b=>aK a<=aK b)->P .new (.list (us.map pD))
 |_=>False
def vM:GC:=λks P=>match ks with
 |[(_,d)]=>∃ts:fN,(d=.list (ts.map pD)\/d=.tuple (ts.map pD))/\Srt ts/\(∀t∈ts,o8 t)/\∀us:fN,us.Perm ts->us.Pairwise (λa b=>aK a<=aK b)->P .new (.list (us.map pD))
 |_=>False
theorem Rps.prs{ok:Addr->Prop}{H:Hp}:∀{vs:List V}{ts:fN},Rps ok H vs (ts.map pD)->Prs H vs ts
 |[],[],_=>.nil
 |_,t::ts,.cons h r=>by
  let⟨x,xs,e,d,j⟩:=Rp.fj h;let⟨k,l,f,g,i⟩:=Rps.two j;subst e f;rw[g.int',i.int']at d;exact .cons ⟨x,rfl,d⟩ (Rps.prs r)
theorem Prs.rps{ok:Addr->Prop}{H:Hp}:∀{vs:List V}{ts:fN},Prs H vs ts->Rps ok H vs (ts.map pD)
 |_,_,.nil=>.nil
 |_,_,.cons r t=>by
  let⟨x,e,d⟩:=r;subst e;exact .cons (.tup d (.cons (.int _) (.cons (.int _) .nil))) (Prs.rps t)
def pR{ps:Pos}(hm:X.mg "sorted"=none)(ha:PDA X [a] t)(hg:Gl X "sorted":=by rfl)(he:zS X a []:=by rfl)(hpl:zP X pos []:=by rfl):PD X (.Call (.Name "sorted" ps) [a] [] pos) (tCl vM t) :=
 eN qD (by
  intro p m own n H vs ks P Q A r t q;unfold vM at t;split at t
  ·let⟨ts,hd,hl,hn,t⟩:=t;let⟨v,rfl,i⟩:=gq r;have f:∀l ws us,H l=none->Prs H ws us->us.Perm ts->us.Pairwise (λa b=>aK a<=aK b)->Q (.ref l) (upd H l (.lst ws)):=λl ws us hl' pr hp hs=>by
    let⟨h,j,k⟩:=A.new hl' (.lst ws);exact q _ _ _ _ (t us hp hs) h j (.lst k aq (cO A h (Prs.rps pr)))
   rcases hd with rfl|rfl
   ·let⟨x,xs,g,o,h1,d⟩:=Rp.bT i;subst g;exact⟨x,xs,ts,rfl,.inl (SqL.of h1),Rps.prs d,hn,hl,f⟩
   ·let⟨x,xs,g,h1,d⟩:=Rp.fj i;subst g;exact⟨x,xs,ts,rfl,.inr (SqT.of h1),Rps.prs d,hn,hl,f⟩
  ·exact t.elim) hg hm S0 ha ∅ ∅ he hpl
def iB{ps:Pos}(hm:X.mg "sorted"=none)(ha:PDA X [a] t)(hg:Gl X "sorted":=by rfl)(he:zS X a []:=by rfl)(hpl:zP X pos []:=by rfl):PD X (.Call (.Name "sorted" ps) [a] [] pos) (tCl Gu t) :=
 eN qD (by
  intro p m own n H vs ks P Q A r t q;unfold Gu at t;split at t
  ·let⟨ts,hd,hl,hn,t⟩:=t;let⟨v,rfl,i⟩:=gq r;have f:∀l ws us,H l=none->Prs H ws us->us.Perm ts->us.Pairwise (λa b=>aK a<=aK b)->Q (.ref l) (upd H l (.lst ws)):=λl ws us hl' pr hp hs=>by
    let⟨h,j,k⟩:=A.new hl' (.lst ws);exact q _ _ _ _ (t us hp hs) h j (.lst k aq (cO A h (Prs.rps pr)))
   rcases hd with rfl|rfl
   ·let⟨x,xs,g,o,h1,d⟩:=Rp.bT i;subst g;exact⟨x,xs,ts,rfl,.inl (SqL.of h1),Rps.prs d,hn,.inl hl,f⟩
   ·let⟨x,xs,g,h1,d⟩:=Rp.fj i;subst g;exact⟨x,xs,ts,rfl,.inr (SqT.of h1),Rps.prs d,hn,.inl hl,f⟩
  ·exact t.elim) hg hm S0 ha ∅ ∅ he hpl
end
variable [Gr]
section
variable{pins:fF}{σ:L2.St}{H:Hp}{s:Shared}{ok:Addr->Prop}
mutual
theorem Rp.reads(I:Inv X pins σ H s):∀{v:V}{d:D}{u:Value},Rp ok H v d->RelV v u->d.canLay0=true->∃as,Reads s.heap u d as
 |_,_,_,.non,r,_=>by cases r;exact⟨_,.none⟩
 |_,_,_,.bl b,r,_=>by cases r;exact⟨_,.bool b⟩
 |_,_,_,.int i,r,_=>by let⟨t,rfl⟩:=r;exact⟨_,.int i t⟩
 |_,_,_,.str x,r,_=>by let⟨t,rfl⟩:=r;exact⟨_,.str x t⟩
 |_,_,_,.lst o h rs,r,c=>by
  cases r;let⟨its,g,e,_⟩:=I.list (SqL.of h);let⟨as,f⟩:=Rps.reads I rs g (by simpa[PyData.canLay0]using c);let⟨j,a,hc,n,hd⟩:=e.isList;exact⟨_,.list a hc hd ↑f⟩
 |_,_,_,.tup h rs,r,c=>by
  cases r;let⟨its,g,e,_⟩:=I.tuple (SqT.of h);let⟨as,f⟩:=Rps.reads I rs g (by simpa[PyData.canLay0]using c);let⟨j,a,hc,n,hd⟩:=e;exact⟨_,.tuple a hc hd ↑f⟩
 |_,_,_,.dct o h rs,r,c=>by simp[PyData.canLay0]at c
theorem Rps.reads(I:Inv X pins σ H s):∀{v:List V}{d:gg}{u:fT},Rps ok H v d->Vals v u->ũ d=true->∃as,S1 s.heap u d as
 |_,_,_,.nil,r,_=>by cases r;exact⟨[],.nil⟩
 |_,_,_,.cons h t,r,c=>by
  cases r with
  |cons a b =>
   simp only[ũ,Ü]at c;let⟨as,e⟩:=Rp.reads I h a c.1;let⟨bs,f⟩:=Rps.reads I t b c.2;exact⟨_,.cons e f⟩
end
end
def okD(d:D):Bool:=d.canLay0&&decide (d.depth<=60)
section
variable{pos:Pos}{a b e:YE}{ta tb te:DE}
def LC(K:Ý)(neg:Bool):R2:=λx y H Q=>∃ok ok' d e,Rp ok H x d/\Rp ok' H y e/\okD d=true/\okD e=true/\Q (.bl (if neg then !(ö d e)else ö d e)) H
def Np(hu:X.A.units+64<WN):OpR X (XI .Eq) (LC X.K false):=by
 intro g s σ H x y v u Q I k l h;let⟨ok,ok',d,e,hd,he,c,f,q⟩:=h;simp only[okD,Ü,fm]at c f;let⟨as,i⟩:=hd.reads I k c.1;let⟨bs,j⟩:=he.reads I l f.1;exact SeqAt.compareEq_reads i j c.1 f.1 () ⟨.bl _,H,I,rfl,q⟩
def Nj(hu:X.A.units+64<WN):OpR X (XI .NotEq) (LC X.K true):=by
 intro g s σ H x y v u Q I k l h;let⟨ok,ok',d,e,hd,he,c,f,q⟩:=h;simp only[okD,Ü,fm]at c f;let⟨as,i⟩:=hd.reads I k c.1;let⟨bs,j⟩:=he.reads I l f.1;exact SeqAt.compareNe_reads i j c.1 f.1 () ⟨.bl _,H,I,rfl,q⟩
def Zv(neg:Bool):G2:=λ_ d1 _ d2 P=>okD d1=true/\okD d2=true/\P .imm (.bool (if neg then !(ö d1 d2)else ö d1 d2))
def Ud{K:Ý}(neg:Bool):Ok2 (Zv neg) (LC K neg):=by
 intro p h own i H x y j c k d P Q A f g t q;exact⟨_,_,c,d,f,g,t.1,t.2.1,q _ _ _ _ t.2.2 Kp.refl A.pen (.bl _)⟩
def eqP(x:D)(h:Heap)(u:Value):Bool:=by
 classical
 exact decide (∃d as,Reads h u d as/\ö d x=true)
def Vw(neg:Bool):R2:=λx y H Q=>∃ok ok' d es,Rp ok H x d/\(Rp ok' H y (.list es)\/Rp ok' H y (.tuple es))/\okD d=true/\(es.all okD)=true/\Q (.bl (if neg then !(es.any λe=>ö e d)else es.any λe=>ö e d)) H
def PL{x:D}{h:Heap}{u:Value}{d:D}{as:List Addr}(r:Reads h u d as):eqP x h u=ö d x:=by
 classical
 unfold eqP;rw[ă,fm];constructor
 ·rintro⟨d',c,f,e⟩;rw[(r.unique d' c f).1];exact e
 ·exact λe=>⟨d,as,r,e⟩
theorem qH{x:D}{h:Heap}:∀{c:fT}{ds:gg}{as:List Addr},S1 h c ds as->c.any (eqP x h)=ds.any λe=>ö e x
 |_,_,_,.nil=>rfl
 |_,_,_,.cons a b=>by
  rw[List.any_cons,List.any_cons,PL a,qH b]
theorem qg{A:Ys}{s:Shared}{x:D}{v:Value}{bs:List Addr}(i:Reads s.heap v x bs)(g:okD x=true)(hu:A.units+60<WN):∀{j:fT}{ds:gg}{as:List Addr},S1 s.heap j ds as->ds.all okD=true->∀u∈j,SeqAt.EqAt A s u v (eqP x s.heap u)
 |_,_,_,.nil,_,u,f=>nomatch f
 |_,d::ds,_,.cons a b,c,u,f=>by
  simp only[List.all_cons,Ü]at c;rcases Õ.mp f with rfl|f
  ·rw[PL a];have h:=c.1;simp only[okD,Ü,fm]at h g;exact SeqAt.eqAt_reads _ _ A s _ _ _ _ a i h.1 g.1 ()
  ·exact qg i g hu b c.2 u f
def qp{A:Ys}(hu:A.units+64<WN):A.in1.units+60<WN:=by
 have:A.in1.units<=A.units+1:=by first|exact Ì _|exact ĸ _|(unfold Around.in1;simp)
 lia
theorem qm:∀{es:gg},es.all okD=true->ũ es=true
 |[],_=>rfl
 |e::es,h=>by
  simp only[List.all_cons,Ü,okD]at h;simp only[ũ,Ü];exact⟨h.1.1,qm h.2⟩
def Nk(hu:X.A.units+64<WN):OpR X (XI .In) (Vw false):=by
 intro m s σ H x y v u Q I z p h;let⟨ok,ok',d,es,hd,hs,j,i,q⟩:=h;have f:=j;simp only[okD,Ü,fm]at f;let⟨bs,n⟩:=hd.reads I z f.1;rcases hs with hs|hs
 ·let⟨c,vs,rfl,o,hc,l⟩:=hs.bT;cases p;let⟨its,r,k,t⟩:=I.list (SqL.of hc);let⟨as,g⟩:=l.reads I r (qm i);refine SeqAt.in_listAt (eqP d s.heap) k.isList (λw hw=>qg n j (qp hu) g i w ↑hw) ⟨.bl _,H,I,rfl,?_⟩;rw[show its.toArray.any (eqP d s.heap)=its.any (eqP d s.heap) by simp,qH g];exact q
 ·let⟨c,vs,rfl,hc,l⟩:=hs.fj;cases p;let⟨its,r,k,t⟩:=I.tuple (SqT.of hc);let⟨as,g⟩:=l.reads I r (qm i);refine SeqAt.in_tupleAt (eqP d s.heap) k (λw hw=>qg n j (qp hu) g i w ↑hw) ⟨.bl _,H,I,rfl,?_⟩;rw[show its.toArray.any (eqP d s.heap)=its.any (eqP d s.heap) by simp,qH g];exact q
def xq(hu:X.A.units+64<WN):OpR X (XI .NotIn) (Vw true):=by
 intro m s σ H x y v u Q I z p h;let⟨ok,ok',d,es,hd,hs,j,i,q⟩:=h;have f:=j;simp only[okD,Ü,fm]at f;let⟨bs,n⟩:=hd.reads I z f.1;rcases hs with hs|hs
 ·let⟨c,vs,rfl,o,hc,l⟩:=hs.bT;cases p;let⟨its,r,k,t⟩:=I.list (SqL.of hc);let⟨as,g⟩:=l.reads I r (qm i);refine SeqAt.notIn_listAt (eqP d s.heap) k.isList (λw hw=>qg n j (qp hu) g i w ↑hw) ⟨.bl _,H,I,rfl,?_⟩;rw[show its.toArray.any (eqP d s.heap)=its.any (eqP d s.heap) by simp,qH g];exact q
 ·let⟨c,vs,rfl,hc,l⟩:=hs.fj;cases p;let⟨its,r,k,t⟩:=I.tuple (SqT.of hc);let⟨as,g⟩:=l.reads I r (qm i);refine SeqAt.notIn_tupleAt (eqP d s.heap) k (λw hw=>qg n j (qp hu) g i w ↑hw) ⟨.bl _,H,I,rfl,?_⟩;rw[show its.toArray.any (eqP d s.heap)=its.any (eqP d s.heap) by simp,qH g];exact q
def gIn(neg:Bool):G2:=λ_ d1 _ d2 P=>match d2 with
 |.list es=>okD d1=true/\es.all okD=true/\P .imm (.bool (if neg then !(es.any λe=>ö e d1)else es.any λe=>ö e d1))
 |.tuple es=>okD d1=true/\es.all okD=true/\P .imm (.bool (if neg then !(es.any λe=>ö e d1)else es.any λe=>ö e d1))
 |_=>False
def okIn(neg:Bool):Ok2 (gIn neg) (Vw neg):=by
 intro p h own i H x y j c k g P Q A d f t q;cases g with
 |list es=>exact⟨_,_,c,es,d,.inl f,t.1,t.2.1,q _ _ _ _ t.2.2 Kp.refl A.pen (.bl _)⟩
 |tuple es=>exact⟨_,_,c,es,d,.inr f,t.1,t.2.1,q _ _ _ _ t.2.2 Kp.refl A.pen (.bl _)⟩
 |_=>exact t.elim
def Cu(hu:X.A.units+64<WN)(ha:PD X a ta)(hb:PD X b tb)(hm:XN .In b=false:=by rfl):PD X (.Compare a [.In] [b] pos) (t2 (gIn false) ta tb):=jM (Nk hu) (okIn false) ha hb hm
def uT(hu:X.A.units+64<WN)(ha:PD X a ta)(hb:PD X b tb)(hm:XN .NotIn b=false:=by rfl):PD X (.Compare a [.NotIn] [b] pos) (t2 (gIn true) ta tb):=jM (xq hu) (okIn true) ha hb hm
def fD(hu:X.A.units+64<WN)(ha:PD X a ta)(hb:PD X b tb)(hm:XN .In b=false:=by rfl):PDT X (.Compare a [.In] [b] pos) (dZ (t2 (gIn false) ta tb)):=gH (Nk hu) (okIn false) ha hb hm
def qQ(hu:X.A.units+64<WN)(ha:PD X a ta)(hb:PD X b tb)(hm:XN .NotIn b=false:=by rfl):PDT X (.Compare a [.NotIn] [b] pos) (dZ (t2 (gIn true) ta tb)):=gH (xq hu) (okIn true) ha hb hm
variable [Gr]
section
variable{pos p2:Pos}{a b c e:YE}{es:List YE}{ta tb tc te:DE}{t:DA}{st:XB}
abbrev DO:=List Sl->(Option Int->Prop)->Prop
def vD(t:DO):TO:=λσ H Q=>∃p H0 own ρ P,EnvD p H0 own σ H ρ/\t ρ P/\∀o H',P o->At p H0 own H H'->Q o H'
def PO.wk{e:Option YE}{t t':TO}(h:PO X e t)(w:∀σ H Q,t' σ H Q->t σ H Q):PO X e t':=λpins s σ H Q I q=>h pins s σ H Q I (w σ H Q q)
def NZ:DO:=λ_ P=>P none
def NT(te:DE):DO:=λρ P=>te ρ λ_ d=>match d with
 |.int i=>P (some i)
 |_=>False
def nG:PO X none (vD NZ):=PO.wk Rm (by
 rintro σ H Q ⟨p,d,own,ρ,P,E,t,q⟩;exact q _ _ t E.at)
theorem fX(h:PD X e te):PO X (some e) (vD (NT te)):=PO.wk (Rk h) (by
 rintro σ H Q ⟨p,f,own,ρ,P,E,t,q⟩;refine⟨p,f,own,ρ,_,E,t,λk d v H' h A r=>?_⟩;cases d with
 |int i=>exact⟨i,r.int',q _ _ h A⟩
 |_=>exact h.elim)
def gC{α:Type}(ds:List α)(lo hi:Option Int):List α:=(ds.drop (HT.sIx ⇑ds 0 lo)).take (HT.sIx ⇑ds ⇑ds hi - HT.sIx ⇑ds 0 lo)
def Rps.cut{ok:Addr->Prop}{H:Hp}{vs:List V}{ds:gg}(r:Rps ok H vs ds)(lo hi:Option Int):Rps ok H (vZ vs lo hi) (gC ds lo hi):=by
 unfold vZ gC;rw[⇑r];exact(r.drop _).take _
def XS(te:DE)(g f:DO):DE:=λρ P=>te ρ λk d=>g ρ λlo=>f ρ λhi=>match d with
 |.list ds=>newP k (gC ds lo hi) λk'=>P k' (.list (gC ds lo hi))
 |_=>False
theorem FJ{lo hi:Option YE}{s n:DO}(he:PD X e te)(hl:PO X lo (vD s))(hh:PO X hi (vD n)):PD X (.Subscript e (.Slice lo hi none p2) pos) (XS te s n):=PE.wk (Cq Ho he hl hh) (by
 rintro σ H Q ⟨p,g,own,ρ,P,E,t,q⟩;refine⟨p,g,own,ρ,_,E,t,λk d v H1 h A r=>?_⟩;refine⟨p,g,own,ρ,_,E.go A.kp A.pen,h,λo1 H2 h2 A2=>?_⟩;refine⟨p,g,own,ρ,_,(E.go A.kp A.pen).go A2.kp A2.pen,h2,λo2 H3 h3 A3=>?_⟩;have f:=(A.gy A2).gy A3;have z:=j8 (A.gy A2) A3.kp (j8 A A2.kp r);cases d with
 |list ds =>
  let⟨x,xs,u,o,h1,B⟩:=Rp.bT z;subst u;refine⟨x,xs,rfl,SqL.of h1,λl hl=>?_⟩;let⟨m,w,y⟩:=f.new hl (.lst (vZ xs o1 o2));let⟨C,i,j⟩:=mY f (cO f m (B.cut o1 o2)) y aq h3;exact q _ _ _ _ i (f.go m w) j
 |_=>exact h3.elim)
def S6:G2:=λk1 d1 k2 d2 P=>match d1,d2 with
 |.list ds,.list es=>⇑ds+⇑es<=1000/\newP (k1.join k2) (ds++es) λk=>P k (.list (ds++es))
 |_,_=>False
def Ug:Ok2 S6 YJ:=by
 intro p r own s H x y h J i K P Q A G I t q;unfold S6 at t;split at t
 ·let⟨v,xs,B,M,h1,d⟩:=G.bT;let⟨w,ys,C,N,h2,f⟩:=I.bT;subst B C;have D:=õ;refine⟨v,w,xs,ys,rfl,rfl,h1,h2,by rw[⇑d,⇑f];lia,λl hl=>?_⟩;let⟨u,E,F⟩:=A.new hl (.lst (xs++ys));have j:=gK h i;have m:∀{k vs ds},k.le (h.join i)=true->Rps (okK p r own s k) H vs ds->Rps (okK p r own s (h.join i)) H vs ds:=λhk z=>z.mono (λa o=>cQ A hk o) (λ_ _ _ e=>e) λ_ _ e=>e;let⟨L,g,n⟩:=mY A (cO A u ((m j.1 d).app (m j.2 f))) F aq t.2;exact q _ _ _ _ g u E n
 ·exact t.elim
def zf(ha:PD X a ta)(hb:PD X b tb):PD X (.BinOp a .Add b pos) (t2 S6 ta tb):=oh Nq Ug ha hb
def Pg:G2:=λk1 d1 k2 d2 P=>match d1,d2 with
 |.tuple ds,.tuple es=>⇑ds+⇑es<=1000/\P (norm (k1.join k2) (.tuple (ds++es))) (.tuple (ds++es))
 |_,_=>False
def Wk:Ok2 Pg T4:=by
 intro p i own n H x y g D h E P Q A B C t q;unfold Pg at t;split at t
 ·let⟨r,xs,u,h1,d⟩:=B.fj;let⟨s,ys,v,h2,f⟩:=C.fj;subst u v;have w:=õ;refine⟨r,s,xs,ys,rfl,rfl,h1,h2,by rw[⇑d,⇑f];lia,λl H' sm hl=>?_⟩;have K:Kp p H H':=Kp.of sm;have j:=gK g h;have m:∀{k vs ds},k.le (g.join h)=true->Rps (okK p i own n k) H vs ds->Rps (okK p i own n (g.join h)) H vs ds:=λhk z=>z.mono (λa o=>cQ A hk o) (λ_ _ _ e=>e) λ_ _ e=>e;exact q _ _ _ _ t.2 K (p.mono H H' A.pen λb o _ e=>sm b o e) (aR (.tup hl (cO A K ((m j.1 d).app (m j.2 f)))))
 ·exact t.elim
def Vj(ta:DE):DE:=λρ P=>ta ρ λ_ d=>match d with
 |.int i=>P .imm (.int (-i))
 |_=>False
theorem oU(ha:PD X a ta):PD X (.UnaryOp .USub a pos) (Vj ta):=PE.wk (T7 K5 ha) (by
 rintro σ H Q ⟨p,f,own,ρ,P,E,t,q⟩;refine⟨p,f,own,ρ,_,E,t,λk d v H' h A r=>?_⟩;cases d with
 |int i=>exact⟨i,r.int',q _ _ _ _ h A (.int _)⟩
 |_=>exact h.elim)
def aae(te:DE)(g:DG):DS:=λP ρ=>te ρ λk d=>g (norm (elK k) d) d ρ P.nx
def Y8{p:Pn}{f g H:Hp}{own:Addr->Option Nat}(A:At p f own g H){k:Kd}{v:V}{d:D}(r:Rp (okK p f own g k) H v d):Rp (okB p f own (norm (elK k) d)) H v d:=by
 refine jm (r.mono (λa o=>?_) (λ_ _ _ e=>e) λ_ _ e=>e);cases k with
 |imm=>exact o
 |new=>exact⟨A.h0 o,A.nfb o,A.M9 o⟩
 |reg q=>exact o
 |n0=>trivial
 |snw=>exact o
 |shr=>exact o
 |wk=>trivial
def GF{g:DG}(h:PS X st (wD (aV te) (HX g))):PDS X st (aae te g):=PS.wk' h (by
 rintro Q σ H ⟨p,f,own,ρ,P,E,t,w⟩;refine⟨p,f,own,ρ,_,E,t,λk d v H1 h A r=>?_⟩;exact⟨p,f,own,ρ,_,d,P.nx,E.go A.kp A.pen,Y8 A r,h,λσ' ρ' E' n=>w.nx own σ' H1 ρ' E' A.frs n⟩)
def Tj(i:Nat)(te:DE):DS:=λP ρ=>match ρ[i]? with
 |some (.dw r (.list ds))=>te ρ λk d=>match d with
  |.list es=>(k.le .new || eU es)=true/\⇑ds+⇑es<=1000/\P.nx ((forget r ρ).set i (.dw r (.list (ds++es))))
  |_=>False
 |_=>False
def pZ{te:DE}{ρ:List Sl}{R:Kd->D->Prop}(t:te ρ R):aX te eF ρ (λks=>∃k d,ks=[(k,d)]/\R k d):=by
 show te ρ λk d=>∃f d',[((k,d):Kd×D)]=[(f,d')]/\R f d';have e:(λk d=>∃f d',[((k,d):Kd×D)]=[(f,d')]/\R f d')=R:=by
  funext k d;apply propext;constructor
  ·rintro⟨f,d',e,h⟩;cases e;exact h
  ·exact λh=>⟨k,d,rfl,h⟩
 rw[e];exact t
theorem Cd{ok ok':Addr->Prop}{H g:Hp}(f:∀{w:V}{d:D},Rp ok H w d->Rp ok' g w d):∀{vs:List V}{ds:gg},Rps ok H vs ds->Rps ok' g vs ds
 |_,_,.nil=>.nil
 |_,_,.cons h t=>.cons (f h) (Cd f t)
def dB{i:Nat}(h:PS X st (pB (tBM X.K "list" Hy (iY i) (iI (aX te eF))))):PDS X st (Tj i te):=PS.wk' h (by
 rintro Q σ H ⟨p,z,own,ρ,P,E,t,w⟩;unfold Tj at t;split at t
 ·rename_i r ds hr;let⟨v,hv,x⟩:=E.slot i _ hr;let⟨l,vs,rfl,hl,j,m⟩:=x.bT;refine⟨.ref l,hv,.inl ⟨rfl,vs,SqL.of j⟩,p,z,own,ρ,_,E,pZ t,?_⟩;rintro ks ws B ⟨k,d,rfl,hh⟩ A J;cases d with
  |list es =>
   let⟨hk,C,hn⟩:=hh;let⟨y,rfl,L⟩:=gq J;let⟨b,u,G,O,hb,n⟩:=Rp.bT L;subst G;have s:Rps (okK p z own H .new) B u es:=by
    rcases Bool.or_eq_true_iff.mp hk with q|q
    ·exact n.mono (λa o=>cQ A q o) (λ_ _ _ e=>e) λ_ _ e=>e
    ·exact(Rps.imm n q).mono (λa o=>o.elim) (λ_ _ _ e=>e) λ_ _ e=>e
   have h1:B l=some (.lst vs):=A.kp l _ j (E.ow l r hl).2.1;have I:=õ;have M:=⇑m;have N:=⇑n;refine⟨l,b,vs,u,rfl,rfl,h1,hb,(),?_⟩;let⟨D,F⟩:=E.uJ (vs':=vs++u) (ds':=ds++es) A hv hl j m λH2 f g=>(pK f m λd hd=>mL hd).app (Cd g s);exact w.nx _ σ _ _ D F hn
  |_=>exact hh.elim
 ·exact t.elim)
def aad(i:Nat)(f te:DE):DS:=λP ρ=>match ρ[i]? with
 |some (.dw r (.list ds))=>f ρ λ_ dj=>te ρ λk d=>match dj with
  |.int j=>(norm k d).le .new=true/\0<=j/\j.toNat<=⇑ds/\⇑ds<1000/\P.nx ((forget r ρ).set i (.dw r (.list (ds.take j.toNat++d::ds.drop j.toNat))))
  |_=>False
 |_=>False
def Ke{i:Nat}{G:DE}(h:PS X st (pB (tBM X.K "list" Hx (iY i) (iI (aX G (aX te eF)))))):PDS X st (aad i G te):=PS.wk' h (by
 rintro Q σ H ⟨p,M,own,ρ,P,E,t,w⟩;unfold aad at t;split at t
 ·rename_i r ds hr;let⟨v,hv,x⟩:=E.slot i _ hr;let⟨l,vs,rfl,hl,z,B⟩:=x.bT;refine⟨.ref l,hv,.inl ⟨rfl,vs,SqL.of z⟩,p,M,own,ρ,λks=>∃s n k d,ks=[(s,n),(k,d)]/\(match n with
   |.int j=>(norm k d).le .new=true/\0<=j/\j.toNat<=⇑ds/\⇑ds<1000/\P.nx ((forget r ρ).set i (.dw r (.list (ds.take j.toNat++d::ds.drop j.toNat))))
   |_=>False),E,?_,?_⟩
  ·show G ρ λs n=>te ρ λk d=>∃q o u d',[((s,n):Kd×D),(k,d)]=[(q,o),(u,d')]/\_;have e:∀(s:Kd)(n:D),(λk d=>∃q o u d',[((s,n):Kd×D),(k,d)]=[(q,o),(u,d')]/\(match o with
    |.int j=>(norm u d').le .new=true/\0<=j/\j.toNat<=⇑ds/\⇑ds<1000/\P.nx ((forget r ρ).set i (.dw r (.list (ds.take j.toNat++d'::ds.drop j.toNat))))
    |_=>False))=λk d=>(match n with
    |.int j=>(norm k d).le .new=true/\0<=j/\j.toNat<=⇑ds/\⇑ds<1000/\P.nx ((forget r ρ).set i (.dw r (.list (ds.take j.toNat++d::ds.drop j.toNat))))
    |_=>False):=λs n=>by
    funext k d;apply propext;constructor
    ·rintro⟨q,o,u,d',e,h⟩;cases e;exact h
    ·exact λh=>⟨s,n,k,d,rfl,h⟩
   simp only[e];exact t
  ·rintro ks ws N ⟨s,n,k,d,rfl,hh⟩ A S;cases n with
   |int j =>
    let⟨hk,T,U,I,hn⟩:=hh;let⟨W,y,rfl,F,C⟩:=Q7 S;have C:=nZ A hk (aR C);have O:=Rp.int' F;have h1:N l=some (.lst vs):=A.kp l _ z (E.ow l r hl).2.1;have R:=õ;have V:=⇑B;refine⟨l,vs,j.toNat,y,rfl,?_,h1,(),(),?_⟩
    ·rw[O];have:(~~~j.toNat)=j:=()
     rw[this]
    let⟨J,L⟩:=E.uJ (vs':=vs.take j.toNat++y::vs.drop j.toNat) (ds':=ds.take j.toNat++d::ds.drop j.toNat) A hv hl z B λH2 f g=>by
     have m:=pK f B λd hd=>mL hd;exact(m.take _).app (.cons (g C) (m.drop _))
    exact w.nx _ σ _ _ J L hn
   |_=>exact hh.elim
 ·exact t.elim)
end
variable [Gr]
structure Cal(P:Zg)(w:Zl)(K:Ý)(mg:Str->gf)(gy:Heap)(k:Nat)(x:Str)(ps:List Str)(sp:Sp):Prop where
 ex:∃f fd,k∩ps∩sp/\Binds K fd ps []/\W.keepIn K (.ref f)=true/\mg x=some (.ref f)
section
variable{k j:Nat}{x:Str}{ps:List Str}{e:YE}{es:List YE}{t:DA}{p pos pq:Pos}
def pcS{sp:Sp}{a:TA}(C:Cal X.prog X.w X.K X.mg X.gy k x ps sp)(hr:Room j X.A)(ha:PA X (e::es) a)(hk:k<=j)(hg:Gl X x)(hdb:zB x)(he:zS X e es)(hpl:zP X pos es) :
  PE X (.Call (.Name x p) (e::es) [] pos) (uy sp [] E0 a):=by
 let⟨f,d,F,b,c,m⟩:=C.ex;exact Rw F (hr.mono hk) hg m c b .nil T8 ha hdb he hpl
def dc{f:fE}(C:Cal X.prog X.w X.K X.mg X.gy k x ps (spD f))(hr:Room j X.A)(ha:PDA X (e::es) t)(hk:k<=j:=by decide)(hg:Gl X x:=by rfl)(hdb:zB x:=by decide)(he:zS X e es:=by rfl)(hpl:zP X pos es:=by rfl) :
  PD X (.Call (.Name x p) (e::es) [] pos) (tFn f t):=PE.wk (pcS C hr ha hk hg hdb he hpl) Sg
def dcP{C:Pn->Prop}{i:Nat}{f:fE}{y:Str}{a:Pos}(CC:Cal X.prog X.w X.K X.mg X.gy k x ps (spP C f))(hr:Room j X.A)(hi:PE X (.Name y a) (iY i))(ha:PDA X es t)(hk:k<=j:=by decide)(hg:Gl X x:=by rfl)(hdb:zB x:=by decide)(he:YI (.Name y a::es) X.env=(false,YN (.Name y a) X.env)::YI es X.env:=by rfl)(hpl:zP X pos es:=by rfl) :
  PD X (.Call (.Name x p) (.Name y a::es) [] pos) (Lb C f i t):=PE.wk (pcS CC hr (dI hi ha) hk hg hdb he hpl) Oq
def dv(i:Nat){x:Str}{pos:Pos}(hN:X.N[i]?=some x:=by rfl)(hv:Vis X.env.scope x:=by first|exact đ rfl|exact Or.inr (đ rfl)|exact Or.inr (Or.inr rfl))(hd:zB x:=by decide)(hcd:(x==("__classdict__":Str))=false:=by decide):PD X (.Name x pos) (tV i):=VR (pv i hN hv hd hcd)
end
structure Bn(mg:Str->gf):Prop where
 isinstance:mg "isinstance"=none
 int:mg "int"=none
 bool:mg "bool"=none
 tuple:mg "tuple"=none
 list:mg "list"=none
 len:mg "len"=none
 all:mg "all"=none
 min:mg "min"=none
 max:mg "max"=none
 sorted:mg "sorted"=none
 range:mg "range"=none
 abs:mg "abs"=none
def boot_all:Z3 "all"=some (.builtin "all"):=⋯
def boot_abs:Z3 "abs"=some (.builtin "abs"):=⋯
def K8{i:Nat}{ρ:List Sl}{d:D}{P:DK}(h:ρ[i]?=some (bJ d))(q:∀k,P k d):tV i ρ P:=by
 unfold tV;rw[h];unfold bJ;by_cases hi:gO d=true
 ·rw[fo hi];exact q _
 ·rw[fq hi];exact q _
abbrev FF:=fE
def bO{f:fE}{n:Nat}(hn:∀ds P,f ds P->⇑ds=n:=by intro _ _ h;repeat (first|(let⟨rfl,_⟩:=h;rfl)|let⟨_,h⟩:=h)):∀vs H Q E,spD f vs H Q E->⇑vs=n:=λvs H Q E h=>by
 let⟨ds,P,r,t,_⟩:=h;rw[⇑r];exact hn ds P t
def fO{f:fE}{T:DS}{N:List Str}{vs:List V}{H:Hp}{Q:VK}{E:XK}(h:spD f vs H Q E)(a:∀ds P,f ds P->∃ρ,ds.map bJ++Ë (⇑N - ⇑ds) .any=ρ/\T { nx:=λ_=>P .none,rt:=P } ρ)(g:Gr.G fC H:=by trivial):ql T { nx:=λ_ H'=>Q .non H',rt:=Q } (L2.start N vs) H :=
 Ao h (λds P t=>by
  let⟨ρ,e,q⟩:=a ds P t;rw[e];exact q) g
def aC(n:Int)(a:fN):D:=.tuple [.int n,.tuple (a.map pD)]
def iU(n:Int)(a:fN):gO (aC n a)=true:=by
 show(gO (.int n)&&(eU (a.map pD)&&true))=true;rw[dz];rfl
def dM(n:Int)(a:fN):bJ (aC n a)=.im (aC n a):=fo (iU n a)
def sU{n:Int}{b:fN}{l a:List Sl}(h:l=a):bJ (aC n b)::l=.im (aC n b)::a:=by rw[dM,h]
def isW:D->Bool
 |.int _=>true
 |_=>false
def Pu:FF:=λds P=>∃d,ds=[d]/\P (.bool (isW d))
def dW(m:Int):D->Bool
 |.int i=>decide (0<=i/\i<m)
 |_=>false
def Gy:FF:=λds P=>∃m d,ds=[.int m,d]/\P (.bool (dW m d))
def enterQ{C:Pn->Prop}{f:fE}{T:DS}{N:List Str}{vs:List V}{H:Hp}{Q:VK}{E:XK}(h:spP C f vs H Q E)(a:∀ds P,f ds P->∃ρ,ds.map bJ++Ë (⇑N - (⇑ds+1)) .any=ρ/\T { nx:=λ_=>P .none,rt:=P } (.pen C::ρ))(g:∀p,Gr.G p H:=by intro _;trivial):ql T { nx:=λ_ H'=>Q .non H',rt:=Q } (L2.start N vs) H :=
 Xf h (λds P t=>by
  let⟨ρ,e,q⟩:=a ds P t;rw[e];exact q) g
variable [Gr]
def tO{α β:Type}{ds:List α}{i:Nat}{d:α}(p:α->Bool)(f:α->β)(h:ds[i]?=some d):((ds.take (i+1)).filter p).map f=((ds.take i).filter p).map f++(if p d=true then [f d]else []):=by
 rw[Ē,h,List.filter_append,Ö];congr 1;by_cases hp:p d=true
 ·simp[hp]
 ·simp[hp]
def o7{α β:Type}{ds:List α}{i:Nat}{d:α}(f:α->β)(h:ds[i]?=some d):(ds.take (i+1)).map f=(ds.take i).map f++[f d]:=by
 rw[Ē,h,Ö];rfl
def bH{α β:Type}{l:List α}{g:α->β}{i:Nat}{d:β}(h:(l.map g)[i]?=some d):∃x,l[i]?=some x/\g x=d:=by
 rw[Þ]at h;cases e:l[i]? with
 |none=>rw[e]at h;cases h
 |some x=>rw[e]at h;exact⟨x,rfl,ß h⟩
def take_all{α:Type}(l:List α){n:Nat}(h:⇑l<=n):l.take n=l:=Ţ h
theorem bZ:∀l:fM,(l.map Â).all okD=true
 |[]=>rfl
 |x::l=>by
  rw[é,List.all_cons,bZ l];rfl
theorem any_ints(x:Int):∀l:fM,((l.map Â).any λe=>ö e (.int x))=decide (x∈l)
 |[]=>rfl
 |y::l=>by
  rw[é,List.any_cons,any_ints x l];have e:ö (.int y) (.int x)=(y==x):=rfl;rw[e,ă,Bool.or_eq_true,fy,fm,fm,Õ];constructor
  ·rintro(h|h)
   ·exact .inl h.symm
   ·exact .inr h
  ·rintro(h|h)
   ·exact .inl h.symm
   ·exact .inr h
def JX(lo:Int)(n:Nat):⇑(lR lo n)=n:=by unfold lR;simp
def J7{lo:Int}{n i:Nat}{d:D}(h:(lR lo n)[i]?=some d):i<n/\d=.int (lo+~~~i):=by
 unfold lR at h;let⟨x,c,e⟩:=bH h;let⟨h1,h2⟩:=È.mp c;have a:i<n:=↑h1
 have b:x=i:=↑h2.symm
 subst b;exact⟨a,e.symm⟩
variable [Gr]
section
variable{pos p2:Pos}{a b e:YE}{ta tb te:DE}
theorem Rps.rep{ok:Addr->Prop}{H:Hp}{vs:List V}{ds:gg}(r:Rps ok H vs ds):∀k:Nat,Rps ok H (Ë k vs).flatten (Ë k ds).flatten
 |0=>.nil
 |k+1=>by
  rw[ě,ě,ú,ú];exact r.app (Rps.rep r k)
def SN:G2:=λk1 d1 _ d2 P=>match d1,d2 with
 |.list ds,.int k=>0<=k/\k<1000/\⇑ds * k.toNat<=1000/\newP k1 (Ë k.toNat ds).flatten λk'=>P k' (.list (Ë k.toNat ds).flatten)
 |_,_=>False
def Ub:Ok2 SN YD:=by
 intro p s own u H x y B v C w P Q A o r t q;unfold SN at t;split at t
 ·rename_i ds k;let⟨h,xs,i,D,h1,c⟩:=o.bT;subst i;have j:=õ;refine⟨h,k,xs,rfl,r.int',h1,(),(),by rw[⇑c];lia,λl hl=>?_⟩;let⟨g,m,n⟩:=A.new hl (.lst (Ë k.toNat xs).flatten);let⟨z,d,f⟩:=mY A (cO A g (c.rep k.toNat)) n aq t.2.2.2;exact q _ _ _ _ d g m f
 ·exact t.elim
def V0(ha:PD X a ta)(hb:PD X b tb):PD X (.BinOp a .Mult b pos) (t2 SN ta tb):=oh Nh Ub ha hb
end
theorem pO(ns:fM):∀k,k<=⇑ns->PySem.preSum (λi=>ns.getD i 0) k=(ns.take k).sum
 |0,_=>rfl
 |k+1,h=>by
  show PySem.preSum _ k+ns.getD k 0=_;have hk:k<⇑ns:=()
  have e:ns.take (k+1)=ns.take k++[ns[k]]:=by rw[Ē,Å hk];rfl
  have a:ns.getD k 0=ns[k]:=by rw[Ò,Å hk];rfl
  rw[pO ns k (),e,a,List.sum_append,Ė,List.sum_nil,Int.add_zero]
theorem qK:∀(ns:fM)(b:Int),(∀x∈ns,-b<=x/\x<=b)->-(b * ⇑ns)<=ns.sum/\ns.sum<=b * ⇑ns
 |[],b,_=>by simp
 |x::ns,b,h=>by
  let⟨h1,h2⟩:=qK ns b λy hy=>h y (Ç _ hy);have a:=h x Æ;have e:b * (⇑(x::ns):Int)=b * ⇑ns+b:=by
   rw[à];have:(((⇑ns+1:Nat)):Int)=(⇑ns:Int)+1:=()
   rw[this,Int.mul_add,Int.mul_one]
  rw[e,Ė];lia
section
variable{pos:Pos}{a:YE}{t:DA}
def Km(hc:X.calm=true):bU X (.builtin "sum") (λxs H Q=>∃(p:Addr)(ns:fM),xs=[.ref p]/\SqL X.K H p (ns.map V.int)/\⇑ns<=1000/\(∀x∈ns,-1000000<=x/\x<=1000000)/\Q (.int ns.sum) H):=by
 intro w s σ H xs D Q I r h;let⟨p,ns,rfl,hp,hl,hs,q⟩:=h;let⟨u,rfl,B⟩:=vals1 r;cases B;let⟨its,y,g,C⟩:=I.list hp;have c:⇑its=⇑ns:=by have:=⇑y;rw[À]at this;exact this.symm
 have l:p≠↥s:=by let⟨o,m,_⟩:=g.isList;exact å (Ó m)
 have f:p<↥s:=by let⟨o,m,_⟩:=g.isList;exact Ó m
 have k:∀i v,its[i]?=some v->∃t,v=Ń (ns.getD i 0) t:=λi v e=>by
  have hi:i<⇑its:=(È.mp e).1;have hv:(ns.map V.int)[i]?=some (V.int ns[i]):=by rw[Þ,Å (show i<⇑ns by lia)];rfl
  let⟨u,n,z⟩:=y.get hv;rw[e]at n;cases n;let⟨t,rfl⟩:=z;exact⟨t,by rw[Ò,Å (show i<⇑ns by lia)];rfl⟩
 refine S2 (UU g.isList ?_);refine⟨_,_,_,_,_,_,λi=>ns.getD i 0,rfl,Walks.list (A:=X.A.in1) (I.ok.hd hc) _ p l _,⟨⟨_,ä _ rfl,rfl,rfl⟩,g.isList.push _⟩,?_,λi v e=>k i v ↑e,λj d=>?_,λh' tk t' hk=>?_⟩
 ·intro b hb;show b<(s.heap.push _).objs.size;rw[Ŝ];simp at hb;rcases hb with rfl|rfl
  ·exact ň _
  ·exact ĕ f
 ·have d:j<⇑ns:=by simpa[c]using d
  have e:ns.getD j 0=ns[j]:=by rw[Ò,Å d];rfl
  have b1:=hs _ (Ĥ d);have b2:=qK (ns.take (j+1)) 1000000 λx hx=>hs x (List.mem_of_mem_take hx);have b3:⇑(ns.take (j+1))<=1000:=by rw[Ĺ];lia
  rw[pO ns (j+1) d];refine⟨?_,?_⟩
  ·show -(2 ^ 63)<=ns.getD j 0/\ns.getD j 0<2 ^ 63;rw[e];lia
  ·show -(2 ^ 63)<=(ns.take (j+1)).sum/\(ns.take (j+1)).sum<2 ^ 63;lia
 ·have e:PySem.preSum (λi=>ns.getD i 0) its.toArray.size=ns.sum:=by
   rw[Ñ,c,pO ns ⇑ns (Ì _),þ]
  rw[e];refine⟨.int ns.sum,H,I.kept λb o eb=>hk b o ?_ (Ô _ eb),⟨_,rfl⟩,q⟩;intro hm;have:b=↥s:=↑hm
  exact ft (this ▸ Ó eb) (Ę _)
variable [Gr]
def boot_sum:Z3 "sum"=some (.builtin "sum"):=⋯
end
variable [Gr]
variable [Gr]
end
variable [Gr]
section
variable{pos:Pos}{st:XB}
end
@[reducible] def grX(H:Hp):Gr:=⟨λp H0=>p=fC/\H0=H⟩
structure Cal1(P:Zg)(w:Zl)(K:Ý)(mg:Str->gf)(gy:Heap)(k:Nat)(x:Str)(ps:List Str)(sp:Sp):Prop where
 ex:∃f fd,FnOk P w K mg gy (CX1 P w) k f fd ps sp/\Binds K fd ps []/\W.keepIn K (.ref f)=true/\mg x=some (.ref f)
section
variable{E:XK}{k j:Nat}{x:Str}{ps:List Str}{e:YE}{es:List YE}{p pos:Pos}
end
variable [Gr]
section
variable{pos:Pos}{a b e:YE}{ta tb te:DE}{t:DA}
end
end Dl
namespace L2
theorem Du:∀{ns:fM}{a:fT},Vals (ns.map V.int) a->IntsAre a ns
 |[],_,.nil=>.nil
 |n::ns,_,.cons r t=>by
  let⟨k,rfl⟩:=r;exact .cons n k (Du t)
def once(ns:fM):fM:=ns.foldl S3 []
def Gw(ns:fM){m:Nat}(hm:m=⇑ns):firstMet (λi=>ns.getD i 0) m=once ns:=by
 subst hm;unfold firstMet once;congr 1;refine List.ext_getElem (by simp) λi h1 h2=>?_;simp at h1;simp[Ò,h1]
section
variable{X:Cx}
def El(hc:X.calm=true):bU X (.type "set") (λxs H Q=>∃p ns,xs=[.ref p]/\SqL X.K H p (ns.map V.int)/\⇑ns<=1000/\∀l S,H l=none->Q (.ref l) (upd H l (.set S ⇑(once ns)))):=by
 intro c s σ H xs m Q I r h;let⟨p,ns,rfl,f,hl,q⟩:=h;let⟨u,rfl,i⟩:=vals1 r;cases i;let⟨its,d,g,j⟩:=I.list f;have a:=⇑d;rw[À]at a;refine call_set_list (items:=its.toArray) (ns:=ns) (I.ok.hd hc) g.isList ↑(Du d) ?_ λh' tk st k=>?_
 ·show its.toArray.size+1<scanBound;rw[Ñ,←a];exact Nat.lt_of_le_of_lt (Nat.add_le_add_right hl 1) ∅
 ·rw[Gw ns (by rw[Ñ,←a])]at st;refine⟨.ref ↥s,_,I.laid (t':=tk) (λb o e=>k b o (Ó e) e) (Ì _) (show bA X.prog X.w _ h' _ (.set _ ⇑(once ns))from st),rfl,q _ _ (I.hok.fresh (Ì _))⟩
def wQ:bU X (.builtin "len") (λxs H Q=>∃p S n,xs=[.ref p]/\H p=some (.set S n)/\n<=1000/\Q (.int (n:Int)) H):=by
 intro b s σ H xs k Q I r h;let⟨p,S,n,rfl,g,hl,q⟩:=h;let⟨u,rfl,i⟩:=vals1 r;cases i;let⟨o,es,j,t,c,d,e,_,_,_,f,a⟩:=I.hok p _ g;refine call_len_set c d e f (by rw[a];lia) ?_;rw[a];exact⟨.int n,H,I.tok _,⟨_,rfl⟩,q⟩
end
theorem kW:∀(ns acc:fM),⇑(ns.foldl S3 acc)<=⇑acc+⇑ns
 |[],acc=>Ì _
 |n::ns,acc=>by
  rw[List.foldl_cons];have h:=kW ns (S3 acc n);have:⇑(S3 acc n)<=⇑acc+1:=by
   unfold S3;split
   ·lia
   ·rw[É];exact Ì _
  rw[à];lia
theorem Cz:∀(ns acc:fM),(⇑(ns.foldl S3 acc)=⇑acc+⇑ns)↔(ns.Nodup/\∀x∈ns,x∉acc)
 |[],acc=>by simp
 |n::ns,acc=>by
  rw[List.foldl_cons,à,ŀ];by_cases hn:n∈acc
  ·have e:S3 acc n=acc:=by
    unfold S3;rw[fo (List.any_eq_true.mpr ⟨n,hn,by simp⟩)]
   rw[e];have:=kW ns acc;constructor
   ·intro h;lia
   ·rintro⟨_,h⟩;exact ft hn (h n Æ)
  ·have e:S3 acc n=acc++[n]:=by
    unfold S3;rw[fq (λz=>by
     let⟨x,d,g⟩:=Ŷ.mp z;have:x=n:=↑g
     exact hn (this ▸ d))]
   rw[e];have f:=Cz ns (acc++[n]);rw[É,á]at f;constructor
   ·intro h;let⟨a,b⟩:=f.mp ();refine⟨⟨λz=>b n z (î _ (Í.mpr rfl)),a⟩,λx d=>?_⟩;rcases Õ.mp d with z|z
    ·rw[z];exact hn
    ·exact λy=>b x z (ċ _ y)
   ·rintro⟨⟨a,b⟩,c⟩;have:=f.mpr ⟨b,λx d z=>by
     rcases Û.mp z with y|y
     ·exact c x (Ç _ d) y
     ·rw[Í.mp y]at d;exact a d⟩
    lia
def FZ(ns:fM):⇑(once ns)=⇑ns↔ns.Nodup:=by
 have:=Cz ns [];simp at this;exact this
end L2
namespace Dl
open L2
variable{X:Cx}
variable [Gr]
section
variable{pos pos':Pos}{a:YE}{t:DA}
def boot_set:Z3 "set"=some (.type "set"):=⋯
def SX:GC:=λks P=>∃k ns,ks=[(k,.list (ns.map Â))]/\⇑ns<=1000/\P .imm (.int (⇑(once ns):Nat))
def Jy{ps g:Pos}(hc:X.calm=true)(hs:X.mg "set"=none)(hl:X.mg "len"=none)(ha:PDA X [a] t)(f:Gl X "set":=by rfl)(hgl:Gl X "len":=by rfl)(he:zS X a []:=by rfl)(hpl:zP X pos []:=by rfl)(b:YI [Expr.Call (.Name "set" ps) [a] [] pos] X.env=(false,YN (Expr.Call (.Name "set" ps) [a] [] pos) X.env)::YI [] X.env:=by rfl)(d:(YO pos' (YI [] X.env)).any (·.1)=false:=by rfl) :
  PD X (.Call (.Name "len" g) [.Call (.Name "set" ps) [a] [] pos] [] pos') (tCl SX t) :=
 PE.wk (fZ wQ hgl hl PySem.boot_len (dI (mU (El hc) f hs boot_set ha ∅ ∅ he hpl) aW b) ∅ ∅ b d) (by
  rintro σ H Q ⟨p,i,own,ρ,P,E,t,q⟩;refine⟨p,i,own,ρ,_,E,t,λks vs H1 h A r=>?_⟩;let⟨k,ns,rfl,hn,h⟩:=h;let⟨v,rfl,s⟩:=gq r;let⟨c,ws,rfl,o,e,u⟩:=s.bT;have j:=u.ints;subst j;refine⟨c,ns,rfl,SqL.of e,hn,λl S hl'=>?_⟩;let⟨n,m,w⟩:=A.new hl' (.set S ⇑(once ns));have h1:=kW ns [];exact⟨l,S,_,rfl,aq,by unfold once;simp at h1;lia,q _ _ _ _ h (A.go n m) (.int _)⟩)
end
variable [Gr]
section
variable{pos p2:Pos}{a b c e:YE}{es:List YE}{ta tb tc te:DE}{t:DA}{st:XB}
def OpR.or{f:Value->Value->Sem Value}{r g:R2}(h:OpR X f r)(h':OpR X f g):OpR X f (λx y H Q=>r x y H Q\/g x y H Q):=by
 intro d s σ H x y v u Q I i j q;rcases q with q|q
 ·exact h d s σ H x y v u Q I i j q
 ·exact h' d s σ H x y v u Q I i j q
def bU.or{f:Value}{r g:List V->Hp->VK->Prop}(h:bU X f r)(h':bU X f g):bU X f (λx H Q=>r x H Q\/g x H Q):=by
 intro d s σ H x v Q I i q;rcases q with q|q
 ·exact h d s σ H x v Q I i q
 ·exact h' d s σ H x v Q I i q
def M4(ha:PD X a ta)(hb:PD X b tb)(hs:nM b:=by exact λ_ _=>rfl):PD X (.Subscript a b pos) (t2 gIx ta tb):=PE.wk (gD (IxR.or dh Af) ha hb hs) (xK (by
 intro p k own l H x y r m s n P Q A h j t q;unfold gIx at t;split at t
 ·rename_i ds i;let⟨d,hd,t⟩:=t;let⟨c,vs,rfl,o,hc,f⟩:=h.bT;let⟨v,hv,g⟩:=f.atI hd;exact .inl ⟨c,vs,i,v,rfl,j.int',SqL.of hc,hv,q _ _ _ _ t Kp.refl A.pen (aR g)⟩
 ·rename_i ds i;let⟨d,hd,t⟩:=t;let⟨c,vs,rfl,hc,f⟩:=h.fj;let⟨v,hv,g⟩:=f.atI hd;exact .inr ⟨c,vs,i,v,rfl,j.int',SqT.of hc,hv,q _ _ _ _ t Kp.refl A.pen (aR g)⟩
 ·exact t.elim))
def Pa:G2:=λk1 d1 k2 d2 P=>match d1 with
 |.int i=>(match d2 with
  |.int j=>P .imm (.int (i+j))
  |_=>False)
 |.list ds=>S6 k1 (.list ds) k2 d2 P
 |.tuple ds=>Pg k1 (.tuple ds) k2 d2 P
 |_=>False
theorem yV(ha:PD X a ta)(hb:PD X b tb):PD X (.BinOp a .Add b pos) (t2 Pa ta tb):=oh (OpR.or jO (OpR.or Nq RD)) (by
 intro p h own k H x y l n m d P Q A f g t q;cases n with
 |int i =>
  cases d with
  |int j=>exact .inl ⟨i,j,f.int',g.int',q _ _ _ _ t Kp.refl A.pen (.int _)⟩
  |_=>exact t.elim
 |list ds=>exact .inr (.inl (Ug p h own k H x y l _ m d P Q A f g t q))
 |tuple ds=>exact .inr (.inr (Wk p h own k H x y l _ m d P Q A f g t q))
 |_=>exact t.elim) ha hb
def O8:G2:=λk1 d1 k2 d2 P=>match d1 with
 |.int i=>(match d2 with
  |.int j=>QF i j/\P .imm (.int (i * j))
  |_=>False)
 |.list ds=>SN k1 (.list ds) k2 d2 P
 |_=>False
theorem ju(ha:PD X a ta)(hb:PD X b tb):PD X (.BinOp a .Mult b pos) (t2 O8 ta tb):=oh (OpR.or oW Nh) (by
 intro p h own k H x y m l n d P Q A f g t q;cases l with
 |int i =>
  cases d with
  |int j=>exact .inl ⟨i,j,f.int',g.int',t.1,q _ _ _ _ t.2 Kp.refl A.pen (.int _)⟩
  |_=>exact t.elim
 |list ds=>exact .inr (Ub p h own k H x y m _ n d P Q A f g t q)
 |_=>exact t.elim) ha hb
def nU(neg:Bool):G2:=λk1 d1 k2 d2 P=>match scD d1 d2 with
 |some b=>P .imm (.bool (if neg then !b else b))
 |none=>Zv neg k1 d1 k2 d2 P
def Ue{K:Ý}:Ok2 (nU false) (λx y H Q=>rEq x y H Q\/LC K false x y H Q):=by
 intro p i own j H x y g d h f P Q A k l t q;cases e:scD d f with
 |some b =>
  have t':gEq false g d h f P:=by
   unfold nU at t;unfold gEq;rw[e]at t ⊢;exact t
  exact .inl (Wj p i own j H x y g d h f P Q A k l t' q)
 |none =>
  unfold nU at t;rw[e]at t;exact .inr (Ud false p i own j H x y g d h f P Q A k l t q)
def Uc{K:Ý}:Ok2 (nU true) (λx y H Q=>rNe x y H Q\/LC K true x y H Q):=by
 intro p i own j H x y g d h f P Q A k l t q;cases e:scD d f with
 |some b =>
  have t':gEq true g d h f P:=by
   unfold nU at t;unfold gEq;rw[e]at t ⊢;exact t
  exact .inl (Wi p i own j H x y g d h f P Q A k l t' q)
 |none =>
  unfold nU at t;rw[e]at t;exact .inr (Ud true p i own j H x y g d h f P Q A k l t q)
def yZ(hu:X.A.units+64<WN)(ha:PD X a ta)(hb:PD X b tb):PD X (.Compare a [.Eq] [b] pos) (t2 (nU false) ta tb):=jM (OpR.or xr (Np hu)) Ue ha hb (cG _)
def yW(hu:X.A.units+64<WN)(ha:PD X a ta)(hb:PD X b tb):PD X (.Compare a [.NotEq] [b] pos) (t2 (nU true) ta tb):=jM (OpR.or HN (Nj hu)) Uc ha hb (cG _)
def fV(hu:X.A.units+64<WN)(ha:PD X a ta)(hb:PD X b tb):PDT X (.Compare a [.Eq] [b] pos) (dZ (t2 (nU false) ta tb)):=gH (OpR.or xr (Np hu)) Ue ha hb (cG _)
def fU(hu:X.A.units+64<WN)(ha:PD X a ta)(hb:PD X b tb):PDT X (.Compare a [.NotEq] [b] pos) (dZ (t2 (nU true) ta tb)):=gH (OpR.or HN (Nj hu)) Uc ha hb (cG _)
end
section
variable{n:Nat}{g:DG}{tt:DT}{te:DE}{ρ:List Sl}{k:Kd}{ds:gg}{R:Kd->gg->Prop}
def RZ{α β:Type}(f:α->β){l:List α}{i:Nat}{x:α}(h:l[i]?=some x):(l.take (i+1)).map f=(l.take i).map f++[f x]:=by
 rw[Ē,h];simp
def qX{α:Type}(xs:List α)(e f:α->D)(a:Kd)(hd:ds=xs.map e)(hl:⇑xs<=1000)(step:∀x∈xs,∀(A:D->Prop)(B:Prop),A (f x)->g (norm (elC k) (e x)) (e x) (Ë n .any++ρ) λρ'=>if true=true then te ρ' λk' d'=>(norm k' d').le a=true/\A d' else B)(q:R a (xs.map f)) :
  ⇑ds<=1000/\∃(a:Kd)(b:Nat->gg->Prop),b 0 [] /\
   (∀i d ys,ds[i]?=some d->b i ys->g (norm (elC k) d) d (Ë n .any++ρ) λρ'=>if true=true then te ρ' λk' d'=>(norm k' d').le a=true/\b (i+1) (ys++[d'])else b (i+1) ys) /\
   ∀ys,b ⇑ds ys->R a ys:=by
 subst hd;refine⟨by rw[À];exact hl,a,λi ys=>ys=(xs.take i).map f,rfl,?_,?_⟩
 ·rintro i d ys hd rfl;rw[Þ]at hd;cases c:xs[i]? with
  |none=>rw[c]at hd;cases hd
  |some x =>
   rw[c]at hd;have hd:=ß hd;subst hd;exact step x (Î c) (λd'=>(xs.take i).map f++[d']=(xs.take (i+1)).map f) _ (RZ f c).symm
 ·rintro ys rfl;rw[À,þ];exact q
def lQ{α:Type}(xs:List α)(e:α->D)(p:α->Bool)(f:α->D)(a:Kd)(hd:ds=xs.map e)(hl:⇑xs<=1000)(step:∀x∈xs,∀(A:D->Prop)(B:Prop),(p x=true->A (f x))->(p x=false->B)->g (norm (elC k) (e x)) (e x) (Ë n .any++ρ) λρ'=>tt ρ' λb=>if b=true then te ρ' λk' d'=>(norm k' d').le a=true/\A d' else B)(q:R a ((xs.filter p).map f)) :
  ⇑ds<=1000/\∃(a:Kd)(c:Nat->gg->Prop),c 0 [] /\
   (∀i d ys,ds[i]?=some d->c i ys->g (norm (elC k) d) d (Ë n .any++ρ) λρ'=>tt ρ' λb=>if b=true then te ρ' λk' d'=>(norm k' d').le a=true/\c (i+1) (ys++[d'])else c (i+1) ys) /\
   ∀ys,c ⇑ds ys->R a ys:=by
 subst hd;refine⟨by rw[À];exact hl,a,λi ys=>ys=((xs.take i).filter p).map f,rfl,?_,?_⟩
 ·rintro i d ys hd rfl;rw[Þ]at hd;cases j:xs[i]? with
  |none=>rw[j]at hd;cases hd
  |some x =>
   rw[j]at hd;have hd:=ß hd;subst hd;have sn:((xs.take (i+1)).filter p).map f=((xs.take i).filter p).map f++if p x=true then [f x]else []:=by
    rw[Ē,j,List.filter_append,Ö];cases hp:p x <;> simp[hp]
   refine step x (Î j) (λd'=>((xs.take i).filter p).map f++[d']=((xs.take (i+1)).filter p).map f) _ (λh=>?_) (λh=>?_)
   ·rw[sn,fo h]
   ·show _=_;rw[sn,h,fq Ù,í]
 ·rintro ys rfl;rw[À,þ];exact q
section
variable{g:DG}{tb:DS}{k:Kd}{ds:gg}{ρ:List Sl}{P:DEnds}
end
variable [Gr]
section
variable{scope:YA}{tg iter elt:YE}{ifs:List YE}{pos:Pos}{ti:DI}{g:DG}{tt:DT}{te:DE}
def Vz(own:List Str){i:Nat}{y:Str}{e a:Pos}(hc:X.calm=true)(hN:X.N.Nodup)(b:X.N[i]?=some y)(h:Loc X.env.scope y)(hi:PDI X tg iter ti)(hg:∀c,PDG (X.comp own scope c) tg g)(ht:∀c,KH (X.comp own scope c) ifs tt)(he:∀c,PD (X.comp own scope c) elt te)(d:XV (.ListComp elt [⟨tg,iter,ifs,0⟩] scope pos) (some (.Name y e)) a.line X.env=pure true:=by rfl)(hk:iK X.env scope X.N=true:=by rfl)(hs:zF X iter:=by intro _;rfl)(f:zL X y:=by first|exact .inl rfl|exact .inr rfl|assumption) :
  PS X (.Assign [.Name y e] (.ListComp elt [⟨tg,iter,ifs,0⟩] scope pos) a) (wD (aV (dLC ⇑own ti g tt te)) (lV i)):=PS.wk' (Mh own hc hN b h hi hg ht he d hk hs f) λD σ H q=>tE σ H _ q
end
end
variable [Gr]
section
variable{pos:Pos}{st:XB}{rest:List XB}{te tj:DE}{ti:DI}{t:DS}
def Xm(i:Nat)(t:DS):DS:=λP ρ=>match ρ[i]? with
 |some (.dw r d)=>iV r ρ i=true/\t P (ρ.set i (.sn d))
 |some (.rw r L)=>iV r ρ i=true/\t P (ρ.set i (.sn (.list (L.map Č))))
 |some (.sp r b ds)=>iV r ρ i=true/\t P (ρ.set i (if b=true then .sn (.list ds)else .sh (.list ds)))
 |_=>False
def EnvD.freeze{p:Pn}{b H:Hp}{own:Addr->Option Nat}{σ:L2.St}{ρ:List Sl}{i r:Nat}{d:D}{v:V}(E:EnvD p b own σ H ρ)(g:iV r ρ i=true)(hv:σ[i]?=some (some v))(x:Rp (λa=>own a=some r) H v d) :
  EnvD p b (aU r own) σ H (ρ.set i (.sn d)):=by
 have f:EnvD p b (aU r own) σ H (ρ.set i .any):=(E.drop (i:=i)).clear g;have c:=f.put (v:=v) (i:=i) (s:=.sn d) ⟨v,hv,x.mono (λa o=>⟨(E.ow a r o).1,(E.ow a r o).2.1,by unfold aU;rw[fo o]⟩) (λ_ _ _ e=>e) λ_ _ e=>e⟩;rw[List.set_set]at c;exact c
def Aw(i:Nat)(h:jk X rest t):jk X rest (Xm i t):=PSs.wk' h (by
 rintro Q σ H ⟨p,f,own,ρ,P,E,q,w⟩;unfold Xm at q;split at q
 ·rename_i r d e;let⟨v,hv,x⟩:=E.slot i _ e;exact⟨p,f,_,_,P,E.freeze q.1 hv x,q.2,w.go gZ⟩
 ·rename_i r L e;let⟨st,as,hv,x⟩:=E.slot i _ e;exact⟨p,f,_,_,P,E.freeze q.1 hv x.rp,q.2,w.go gZ⟩
 ·rename_i r b ds e;let⟨l,vs,hv,o,h,z⟩:=E.slot i _ e;have k:EnvD p f (aU r own) σ H (ρ.set i .any):=(E.drop (i:=i)).clear q.1;have j:∀a,own a=none->aU r own a=none:=λa n=>by unfold aU;rw[n];simp
  have cl:aU r own l=none:=by unfold aU;rw[fo o]
  have g:EnvD p f (aU r own) σ H ((ρ.set i .any).set i (if b=true then .sn (.list ds)else .sh (.list ds))):=k.put (v:=.ref l) (by
   cases b with
   |true=>exact⟨_,hv,.lst ⟨(E.ow l r o).1,(E.ow l r o).2.1,cl⟩ h (z.mono (λc n=>⟨n.1 rfl,n.2.1,j c n.2.2⟩) (λ_ _ _ e=>e) λ_ _ e=>e)⟩
   |false=>exact⟨_,hv,.lst ⟨(E.ow l r o).2.1,cl⟩ h (z.mono (λc n=>⟨n.2.1,j c n.2.2⟩) (λ_ _ _ e=>e) λ_ _ e=>e)⟩)
  rw[List.set_set]at g;exact⟨p,f,_,_,P,g,q.2,w.go gZ⟩
 ·exact q.elim)
def dSp(i:Nat)(b:Bool)(t:DS):DS:=λP ρ=>match ρ[i]? with
 |some (.dw r (.list ds))=>eU ds=true/\t P (ρ.set i (.sp r b ds))
 |_=>False
def Qa(i:Nat)(b:Bool)(h:jk X rest t):jk X rest (dSp i b t):=PSs.wk' h (by
 rintro Q σ H ⟨p,a,own,ρ,P,E,q,w⟩;unfold dSp at q;split at q
 ·rename_i r ds e;let⟨v,hv,x⟩:=E.slot i _ e;let⟨l,vs,rfl,o,h,z⟩:=x.bT;exact⟨p,a,own,_,P,E.put (v:=.ref l) (i:=i) (s:=.sp r b ds) ⟨l,vs,hv,o,h,(z.imm q.1).mono (λ_ o=>o.elim) (λ_ _ o=>o.elim) λ_ _ e=>e⟩,q.2,w⟩
 ·exact q.elim)
def spK(b:Bool):Kd:=if b=true then .snw else .shr
def NK{p:Pn}{c g H:Hp}{own:Addr->Option Nat}{b:Bool}(A:At p c own g H){k:Kd}(hk:k.le (spK b)=true){v:V}{d:D}{f:Hp}(r:Rp (okK p c own g k) f v d):Rp (okS p c own b) f v d:=by
 have h:=nZ A hk r;cases b with
 |true=>exact h.mono (λa o=>⟨λ_=>o.1,o.2.1,o.2.2⟩) (λ_ _ _ e=>e) λ_ _ e=>e
 |false=>exact h.mono (λa o=>⟨λz=>(nomatch z),o.1,o.2⟩) (λ_ _ _ e=>e) λ_ _ e=>e
def EnvD.Hv{p:Pn}{d H:Hp}{own:Addr->Option Nat}{σ:L2.St}{ρ:List Sl}{i r:Nat}{b:Bool}{l:Addr}{vs vs':List V}{ds':gg}(E:EnvD p d own σ H ρ)(hv:σ[i]?=some (some (.ref l)))(o:own l=some r)(h:H l=some (.lst vs))(z:Rps (okS p d own b) H vs' ds') :
  EnvD p d own σ (upd H l (.lst vs')) ((forget r ρ).set i (.sp r b ds'))/\FrS p own H own (upd H l (.lst vs')):=by
 refine⟨(E.write (o':=.lst vs') o h λxs z=>nomatch z).put (v:=.ref l) ⟨l,vs',hv,o,aq,z.mono (λ_ o=>o) (λc u n e=>?_) λa xs e=>?_⟩,mK o h λxs z=>nomatch z⟩
 ·rw[ao];exact e;intro y;subst y;rw[n.2.2]at o;cases o
 ·rw[ao];exact e;intro y;subst y;rw[h]at e;cases e
def Qk(i:Nat)(te:DE):DS:=λP ρ=>match ρ[i]? with
 |some (.sp r b ds)=>te ρ λk d=>(norm k d).le (spK b)=true/\⇑ds<1000/\P.nx ((forget r ρ).set i (.sp r b (ds++[d])))
 |_=>False
def Ax{i:Nat}(h:PS X st (pB (tBM X.K "list" pN (iY i) (iI (aX te eF))))):PDS X st (Qk i te):=PS.wk' h (by
 rintro Q σ H ⟨p,f,own,ρ,P,E,t,w⟩;unfold Qk at t;split at t
 ·rename_i r b ds hr;let⟨l,vs,hv,o,m,q⟩:=E.slot i _ hr;refine⟨.ref l,hv,.inl ⟨rfl,vs,SqL.of m⟩,p,f,own,ρ,_,E,pZ t,?_⟩;rintro ks ws g ⟨k,d,rfl,hk,j,hn⟩ A C;let⟨y,rfl,D⟩:=gq C;have s:=E.go A.kp A.pen;have h1:g l=some (.lst vs):=A.kp l _ m (E.ow l r o).2.1;have a:Rps (okS p f own b) g vs ds:=q.mono (λ_ o=>o) (λc u n e=>A.kp c u e n.2.1) A.tups;have z:=õ;have B:=⇑q;refine⟨l,vs,y,rfl,rfl,h1,(),?_⟩;let⟨v,x⟩:=s.Hv (b:=b) hv o h1 (a.snoc (NK A hk (aR D)));exact w.nx _ σ _ _ v (A.frs.trans x) hn
 ·exact t.elim)
def abe(i:Nat)(tj te:DE):DS:=λP ρ=>match ρ[i]? with
 |some (.sp r b ds)=>tj ρ λ_ dj=>te ρ λk d=>match dj with
  |.int j=>(norm k d).le (spK b)=true/\0<=j/\j.toNat<=⇑ds/\⇑ds<1000/\P.nx ((forget r ρ).set i (.sp r b (ds.take j.toNat++d::ds.drop j.toNat)))
  |_=>False
 |_=>False
theorem Ci:∀{as bs:List Addr},as.map V.ref=bs.map V.ref->as=bs
 |[],[],_=>rfl
 |a::as,b::bs,e=>by
  rw[é,é]at e;injection e with e1 e2
  rw[V.ref.inj e1,Ci e2]
 |[],_::_,e=>by cases e
 |_::_,[],e=>by cases e
def EnvD.spine{p:Pn}{f H d:Hp}{own:Addr->Option Nat}{σ:L2.St}{ρ:List Sl}{i r:Nat}{b:Bool}{l:Addr}{vs:List V}{ds:gg}(E:EnvD p f own σ H ρ)(A:At p f own H d)(x:iV r ρ i=true)(hl:d l=none)(z:Rps (okS p f own b) d vs ds) :
  ∃own',EnvD p f own' (σ.set i (some (.ref l))) (upd d l (.lst vs)) (ρ.set i (.sp r b ds))/\FrS p own H own' (upd d l (.lst vs)):=by
 have m:EnvD p f (aU r own) σ H (ρ.set i .any):=(E.drop (i:=i)).clear x;have g:=m.go A.kp A.pen;have h:Same d (upd d l (.lst vs)):=λb u q=>by rw[ao (aA q hl)];exact q
 have j:At p f (aU r own) d (upd d l (.lst vs)):=⟨g.k0,Kp.of h,g.pen,p.mono d _ g.pen λb u _ q=>h b u q,g.ow⟩
 have o:=g.adopt r j;have w:∀a,own a=none->aU r own a=none:=λa n=>by unfold aU;rw[n];simp
 have k:=o.set (i:=i) (v:=.ref l) (s:=.sp r b ds) λhli=>⟨l,vs,ğ hli,jG hl aq,aq,z.cW (λc u n e=>⟨⟨n.1,n.2.1,by rw[bL e];exact w c n.2.2⟩,h c u e⟩) λa xs e=>h a _ e⟩
 rw[List.set_set]at k;exact⟨_,k,(A.frs.trans gZ).trans (nJ j)⟩
theorem RpK.okS{p:Pn}{a c H:Hp}{own:Addr->Option Nat}{b:Bool}(A:At p a own c H):∀{vs:List V}{ks:List (Kd×D)},RpK p a own c H vs ks->(ks.all λkd=>(norm kd.1 kd.2).le (spK b))=true->Rps (okS p a own b) H vs (ks.map (·.2))
 |_,_,.nil,_=>.nil
 |_,kd::ks,.cons h t,e=>by
  rw[List.all_cons,Ü]at e;exact .cons (NK A e.1 (aR h)) (RpK.okS A t e.2)
def UL(i r:Nat)(b:Bool)(t:DA):DS:=λP ρ=>t ρ λks=>⇑ks<=1000/\(ks.all λkd=>(norm kd.1 kd.2).le (spK b))=true/\iV r ρ i=true/\P.nx (ρ.set i (.sp r b (ks.map (·.2))))
def Ar{i:Nat}{t:DA}(r:Nat)(b:Bool)(h:PS X st (wD (Vk (iI t)) (lV i))):PDS X st (UL i r b t):=PS.wk' h (by
 rintro Q σ H ⟨p,e,own,ρ,P,E,q,w⟩;refine⟨p,e,own,ρ,_,E,q,λks vs H1 h A rk=>?_⟩;have f:=õ;have g:=⇑rk;refine⟨by have:=h.1;lia,λl hl=>?_⟩;let⟨a,c,d⟩:=E.spine A h.2.2.1 hl (RpK.okS A rk h.2.1);exact w.nx _ _ _ _ c d h.2.2.2)
def rE(js:fR)(t:DS):DS:=λP ρ=>t P (js.foldl (λρ j=>ρ.set j .any) ρ)
theorem EnvD.drops{p:Pn}{a H:Hp}{own:Addr->Option Nat}{σ:L2.St}:∀(js:fR) {ρ:List Sl},EnvD p a own σ H ρ->EnvD p a own σ H (js.foldl (λρ j=>ρ.set j .any) ρ)
 |[],_,E=>E
 |_::js,_,E=>EnvD.drops js E.drop
def vQ(js:fR)(h:jk X rest t):jk X rest (rE js t):=PSs.wk' h (by
 rintro Q σ H ⟨p,a,own,ρ,P,E,q,w⟩;exact⟨p,a,own,_,P,E.drops js,q,w⟩)
def Bc(i:Nat)(tj te:DE):DS:=λP ρ=>match ρ[i]? with
 |some (.rw r L)=>tj ρ λ_ dj=>match dj with
  |.int j=>∃n l,ixN ⇑L j=some n/\L[n]?=some l/\te ρ λ_ d=>gO d=true/\⇑l<1000/\P.nx ((forget r ρ).set i (.rw r (L.set n (l++[d]))))
  |_=>False
 |_=>False
def nC{i:Nat}(h:PS X st (pB (tBM X.K "list" pN (tOp (YG X.K) (iY i) (aV tj)) (iI (aX te eF))))):PDS X st (Bc i tj te):=PS.wk' h (by
 rintro Q σ H ⟨p,H0,own,ρ,P,E,q,w⟩;unfold Bc at q;split at q
 ·rename_i r L hr;let⟨st,as,hv,R0⟩:=E.slot i _ hr;refine⟨.ref st,hv,p,H0,own,ρ,_,E,q,λkj dj vj H1 J A1 rj=>?_⟩;cases dj with
  |int j =>
   have I:=E.go A1.kp A1.pen;let⟨U,c,x,C⟩:=I.slot i _ hr;rw[hv]at x;cases x;have ej:=Rp.int' rj;subst ej;let⟨n,l,hn,hl,J⟩:=J;have u:=(È.mp hl).1;rw[Å u]at hl;cases hl;have g:n<⇑c:=by rw[C.len];exact u
   have O:atI (c.map V.ref) j=some (.ref c[n]):=by
    unfold L2.atI;rw[À,C.len,hn];show(c.map V.ref)[n]?=_;rw[Þ,Å g];rfl
   let⟨vs,S,rv⟩:=C.row n c[n] L[n] (Å g) (Å u);refine⟨st,_,j,.ref c[n],rfl,rfl,SqL.of C.top,O,.inl ⟨rfl,vs,SqL.of S⟩,p,H0,own,ρ,_,I,pZ J,?_⟩;rintro ks ws M ⟨k,d,rfl,im,len,nx⟩ G rk;let⟨y,rfl,T⟩:=gq rk;have T:Rp (λ_=>False) M y d:=Rp.imm T im;have Z:=I.go G.kp G.pen;let⟨U,b,x,R2⟩:=Z.slot i _ hr;rw[hv]at x;cases x
   -- the rows are those of before
   have N:b=c:=by
    have A:=G.kp st _ C.top (I.ow st r (C.ow st Æ)).2.1;rw[R2.top]at A;have D:=(HO.lst.inj (ß A))
    exact Ci D
   subst N;let⟨B,f,F⟩:=R2.row n b[n] L[n] (Å g) (Å u);have oa:=R2.ow b[n] (Ç _ (Ĥ g));have h24:=õ;have ln:=⇑F;refine⟨b[n],B,y,rfl,rfl,f,(),?_⟩;have W:∀a xs,M a=some (.tup xs)->upd M b[n] (.lst (B++[y])) a=some (.tup xs):=λa xs e=>by
    rw[ao];exact e;intro z;subst z;rw[f]at e;cases e
   have E3:=Z.write (o':=.lst (B++[y])) oa f (λxs z=>nomatch z);have nd1:=ŀ.mp R2.nd;have E4:=E3.put (v:=.ref st) (i:=i) (s:=.rw r (L.set n (L[n]++[d]))) ⟨st,b,hv,⟨?_,R2.nd,R2.ow,by rw[List.length_set];exact R2.len,λm a ds A D=>?_⟩⟩
   ·exact w.nx _ σ _ _ E4 ((A1.frs.trans G.frs).trans (mK oa f λxs z=>nomatch z)) nx
   ·rw[ao];exact R2.top;intro z;exact nd1.1 (by rw[z];exact Ĥ g)
   ·by_cases R:m=n
    ·subst R;rw[ğ u]at D;rw[Å g]at A;cases A;cases D;exact⟨_,aq,(F.mono (λ_ o=>o) (λ_ _ o=>o.elim) W).snoc (T.mono (λ_ o=>o) (λ_ _ o=>o.elim) W)⟩
    ·rw[Ň (ĝ R)]at D;let⟨Y,h3,r3⟩:=R2.row m a ds A D;refine⟨Y,?_,r3.mono (λ_ o=>o) (λ_ _ o=>o.elim) W⟩;rw[ao];exact h3;intro z;have hm:=(È.mp A).1;have hz:b[m]=b[n]:=by rw[(È.mp A).2];exact z
     exact R ((List.getElem_inj nd1.2).mp hz)
  |_=>exact J.elim
 ·exact q.elim)
def Qf(i r:Nat)(ti:DI):DS:=λP ρ=>ti ρ λk ds=>⇑ds<=1000/\iV r ρ i=true/\P.nx (ρ.set i (.rw r (Ë ⇑ds [])))
def qx{i n j:Nat}(r:Nat)(h:PS X st (wD (tLC n (Ow ti) (λ_=>HX (gNm j)) (λ_=>liftT λ_ P=>P true) (λ_=>Vk QT)) (lV i))):PDS X st (Qf i r ti):=PS.wk' h (by
 rintro Q σ H ⟨p,f,own,ρ,P,E,q,w⟩;refine⟨p,f,own,ρ,_,E,q,λk ds J H1 Ok h A W o1=>?_⟩;let⟨hlen,hf,nx⟩:=h;have okS:∀d,Kp p H1 d->p.PI d->Ok d:=λd K i=>W.stab H1 d o1 (λb o n e=>K b o e (jP A n.1)) (jg A K);refine⟨λi m ys d=>m=⇑ds - i/\i<=⇑ds/\Kp p H1 d/\p.PI d/\∃as:List Addr,ys=as.map V.ref/\as.Nodup/\⇑as=i/\∀a∈as,H a=none/\d a=some (.lst []),⟨_,rfl,ą _,Kp.refl,A.pen,[],rfl,.nil,rfl,λa ha=>nomatch ha⟩,?_⟩;rintro c B m ys d ⟨rfl,hi,N,M,as,rfl,nd,la,hn⟩;have T:=okS d N M;have Y:=A.go N M;have h24:=õ;by_cases g:B<⇑ds
 ·refine .inr ⟨W.go B d T g,by rw[À];lia,λys' H2=>Kp p H1 H2/\p.PI H2/\∃as:List Addr,ys'=as.map V.ref/\as.Nodup/\⇑as=B+1/\∀a∈as,H a=none/\H2 a=some (.lst []),λys' H2 h=>⟨_,(),rfl,g,h⟩,λx H2 y=>?_⟩;let⟨G,U⟩:=W.yld B d x H2 T y;have U:=U ds[B] (Å g);have I2:p.PI H2:=p.mono d H2 M λb o _ e=>G b o e;have K2:Kp p H1 H2:=N.trans (Kp.of G);have I:=A.go K2 I2;have D:EnvD p f own σ H2 ρ:=E.go I.kp I.pen;refine⟨p,f,own,_,_,_,λ_=>True,D.comp n,jm (Uh A U),trivial,λσ3 ρ3 L t3=>?_⟩;refine⟨p,f,own,ρ3,λb=>b=true,L,rfl,λb H4 h4 A4=>?_⟩;subst h4;refine aF ⟨(by show 0<=sizeLine;lia),λl hl=>?_⟩;have A5:At p f own H H4:=I.gy A4;let⟨F,R,S⟩:=A5.new hl (.lst []);refine⟨(K2.trans A4.kp).trans F,R,as++[l],by rw[Ö];rfl,?_,by rw[É,la];rfl,λa ha=>?_⟩
  ·refine List.nodup_append.mpr ⟨nd,by simp,λa ha b hb=>?_⟩;rw[Í.mp hb];intro z;subst z;have e:=A4.kp a _ (G a _ (hn a ha).2) (A.nfb (hn a ha).1);rw[hl]at e;cases e
  ·rcases Û.mp ha with z|z
   ·refine⟨(hn a z).1,?_⟩;have e:=A4.kp a _ (G a _ (hn a z).2) (A.nfb (hn a z).1);exact F a _ e (A.nfb (hn a z).1)
   ·rw[Í.mp z];exact⟨S,aq⟩
 ·have e:B=⇑ds:=()
  subst e;refine .inl ⟨W.stop d T,λl hl=>?_⟩;let⟨F,R,S⟩:=Y.new hl (.lst (as.map V.ref));have C:=Y.go F R;show Q.nx (σ.set i (some (.ref l))) (upd d l (.lst (as.map V.ref)));have D:EnvD p f (aU r own) σ H (ρ.set i .any):=(E.drop (i:=i)).clear hf;have Z:At p f (aU r own) H (upd d l (.lst (as.map V.ref))):=⟨C.k0,C.kp,C.penb,C.pen,D.ow⟩
  have L:=D.adopt r Z;have u:l∉as:=λz=>by rw[(hn l z).2]at hl;cases hl
  have E4:=L.set (i:=i) (v:=.ref l) (s:=.rw r (Ë ⇑ds [])) λhli=>⟨l,as,ğ hli,⟨aq,ŀ.mpr ⟨u,nd⟩,λa ha=>?_,by rw[la,ė],λm a es e1 e2=>?_⟩⟩
  ·rw[List.set_set]at E4;exact w.nx _ _ _ _ E4 (gZ.trans (nJ Z)) nx
  ·rcases Õ.mp ha with rfl|ha
   ·exact jG S aq
   ·exact jG (hn a ha).1 (by rw[ao (λz:a=l=>u (by rw[←z];exact ha))];exact(hn a ha).2)
  ·have ha:=Î e1;have O:es=[]:=by
    have:=Î e2;exact(ę.mp this).2
   subst O;exact⟨[],by rw[ao (λz:a=l=>u (by rw[←z];exact ha))];exact(hn a ha).2,.nil⟩)
def pU:PD X (.Dict [] [] pos) (λ_ P=>P .new (.dict [])):=PE.wk Mw (by
 rintro σ H Q ⟨p,a,own,ρ,P,E,t,q⟩;have A:=E.at;exact λd hd=>let⟨k2,i2,nw⟩:=A.new hd (.dK []);q _ _ _ _ t (A.go k2 i2) (.dct nw aq .nil))
end
@[reducible] def grL(K:Ý)(a:Addr)(ns:fM):Gr:=⟨λp H0=>SqL K H0 a (ns.map V.int)/\∀b,p.fp b->H0 b=none⟩
def Yk(K:Ý):Sp:=λvs H Q _=>∃(a:Addr)(ns:fM),vs=[.ref a]/\SqL K H a (ns.map V.int)/\∀H',Q (.bl true) H'
section
variable{k1 k2 j:Nat}{x y z:Str}{ps1 ps2:List Str}{e:YE}{es1 es2:List YE}{p1 p2 p3 pos pos1:Pos}{K:Ý}{sc:Addr}{ns:fM}{C:Pn->Prop}{pre:gg->Prop}{g:fE}{i:Nat}
end
variable [Gr]
section
variable{pos pos':Pos}{a b:YE}{t:DA}
def Q6{ok:Addr->Prop}{H:Hp}(lo hi:Int):Rps ok H (Ce lo hi) (lR lo (hi - lo).toNat):=by
 unfold Ce lR;exact Rps.ofMap (λx=>.int _) _
def S8{p:Pn}{e H c:Hp}{own:Addr->Option Nat}{P:DK}{Q:VK}{lo hi:Int}(A:At p e own H c)(h:P .new (.list (lR lo (hi - lo).toNat)))(b:-1000<=lo/\lo<=1000/\-1000<=hi/\hi<=1000)(q:∀k d v H',P k d->At p e own H H'->Rp (okK p e own H k) H' v d->Q v H')(r:Addr)(hr:c r=none) :
  ∃p' lo' hi',[V.ref r]=[.ref p']/\upd c r (.rng lo hi) p'=some (.rng lo' hi')/\(-1000<=lo'/\lo'<=1000/\-1000<=hi'/\hi'<=1000)/\∀l,upd c r (.rng lo hi) l=none->Q (.ref l) (upd (upd c r (.rng lo hi)) l (.lst (Ce lo' hi'))):=by
 refine⟨r,lo,hi,rfl,aq,b,λl hl=>?_⟩;let⟨j,g,_⟩:=A.new hr (.rng lo hi);have f:=A.go j g;let⟨m,i,n⟩:=f.new hl (.lst (Ce lo hi));exact q _ _ _ _ h (f.go m i) (.lst n aq (Q6 lo hi))
def Yc(t:DA):DE:=λρ P=>t ρ λks=>match ks with
 |[(_,.int j)]=>(-1000<=j/\j<=1000)/\P .new (.list (lR 0 (j - 0).toNat))
 |_=>False
def oV{ps c:Pos}(hc:X.calm=true)(hml:X.mg "list"=none)(hmr:X.mg "range"=none)(ha:PDA X [a] t)(hgl:Gl X "list":=by rfl)(hgr:Gl X "range":=by rfl)(he:zS X a []:=by rfl)(hpl:(YO pos' (YI [] X.env)).any (·.1)=false:=by rfl)(he2:YI [.Call (.Name "range" c) [a] [] pos'] X.env=(false,YN (.Call (.Name "range" c) [a] [] pos') X.env)::YI [] X.env:=by rfl)(hpl2:zP X pos []:=by rfl) :
  PD X (.Call (.Name "list" ps) [.Call (.Name "range" c) [a] [] pos'] [] pos) (Yc t):=PE.wk (mU (wO hc) hgl hml SZ (dI (mU Ko hgr hmr WE ha ∅ ∅ he hpl) aW he2) ∅ ∅ he2 hpl2) (by
 rintro σ H Q ⟨p,d,own,ρ,P,E,t,q⟩;refine⟨p,d,own,ρ,_,E,t,λks vs H1 h A rk=>?_⟩;split at h
 ·rename_i k j;let⟨v,rfl,f⟩:=gq rk;have e:=Rp.int' f;subst e;exact⟨j,rfl,S8 A h.2 ⟨(),(),h.1.1,h.1.2⟩ q⟩
 ·exact h.elim)
end
variable [Gr]
mutual
inductive Tm where
 |int (i:Int)
 |neg (i:Int)
 |bl (b:Bool)
 |non
 |str (s:Str)
 |var (i:Nat)
 |lst (ts:Tms)
 |tup (ts:Tms)
 |dct
inductive Tms where
 |nil
 |cons (t:Tm) (ts:Tms)
end
def aat(a:YA)(x:Str):Bool:=a.names.lookup x==some .local || a.names.lookup x==some .cell || a.names.lookup x==some .free
def cI(i:Int):S4->Bool
 |.int j=>i==j
 |_=>false
def cB(b:Bool):S4->Bool
 |.bool c=>b==c
 |_=>false
def cS(s:Str):S4->Bool
 |.str u=>s==u
 |_=>false
def cN:S4->Bool
 |.none=>true
 |_=>false
def aaV:UnaryOp->Bool
 |.USub=>true
 |_=>false
def isC(f:S4->Bool):YE->Bool
 |.Constant c _ _=>f c
 |_=>false
def isN(i:Int):YE->Bool
 |.UnaryOp o e _=>aaV o&&isC (cI i) e
 |_=>false
def isV(N:List Str)(a:YA)(i:Nat):YE->Bool
 |.Name x _=>N[i]?==some x&&(aat a x&&(!(x==("__debug__":Str))&&!(x==("__classdict__":Str))))
 |_=>false
def isD:YE->Bool
 |.Dict ks vs _=>ks.isEmpty&&vs.isEmpty
 |_=>false
mutual
def okT(N:List Str)(a:YA):Tm->YE->Bool
 |.int i=>isC (cI i)
 |.neg i=>isN i
 |.bl b=>isC (cB b)
 |.non=>isC cN
 |.str s=>isC (cS s)
 |.var i=>isV N a i
 |.lst ts=>λe=>match e with
  |.List es _=>Wh N a ts es
  |_=>false
 |.tup ts=>λe=>match e with
  |.Tuple es _ _=>Wh N a ts es
  |_=>false
 |.dct=>isD
def Wh(N:List Str)(a:YA):Tms->List YE->Bool
 |.nil=>λes=>es.isEmpty
 |.cons t ts=>λes=>match es with
  |[]=>false
  |e::es=>okT N a t e&&Wh N a ts es
end
mutual
def evT(ρ:List Sl):Tm->Option (Kd×D)
 |.int i=>some (.imm,.int i)
 |.neg i=>some (.imm,.int (-i))
 |.bl b=>some (.imm,.bool b)
 |.non=>some (.imm,.none)
 |.str s=>some (.imm,.str s)
 |.var i=>match ρ[i]? with
  |some (.im d)=>some (.imm,d)
  |some (.sh d)=>some (.shr,d)
  |some (.sn d)=>some (.snw,d)
  |some (.dw r d)=>some (.reg r,d)
  |_=>none
 |.lst ts=>match Xd ρ ts with
  |some ks=>some ((joins ks).join .new,.list (ks.map (·.2)))
  |none=>none
 |.tup ts=>match Xd ρ ts with
  |some ks=>some (norm (joins ks) (.tuple (ks.map (·.2))),.tuple (ks.map (·.2)))
  |none=>none
 |.dct=>some (.new,.dict [])
def Xd(ρ:List Sl):Tms->Option (List (Kd×D))
 |.nil=>some []
 |.cons t ts=>match evT ρ t,Xd ρ ts with
  |some k,some ks=>some (k::ks)
  |_,_=>none
end
mutual
def smT:Tm->Bool
 |.lst ts=>Vt 1000 ts
 |.tup ts=>Vt 1000 ts
 |_=>true
def Vt:Nat->Tms->Bool
 |_,.nil=>true
 |n+1,.cons t ts=>smT t&&Vt n ts
 |0,.cons _ _=>false
end
section
variable{e:YE}{es:List YE}
section
variable{N:List Str}{sc:YA}
end
end
end Dl
namespace L2
open PySem.Spec HT
section
variable{X:Cx}{e:YE}{te:TE}{p1 p2 p3 pos:Pos}
end
end L2
namespace Dl
open L2
variable{X:Cx}
variable [Gr]
section
variable{pos p1 p2 p3:Pos}{a b e:YE}{es:List YE}{ta tb te:DE}{t:DA}
def X3(te:DE)(f c:DO):DE:=λρ P=>te ρ λk d=>f ρ λlo=>c ρ λhi=>match d with
 |.list ds=>newP k (gC ds lo hi) λk'=>P k' (.list (gC ds lo hi))
 |.tuple ds=>¬(HT.sIx ⇑ds 0 lo=0/\HT.sIx ⇑ds ⇑ds hi=⇑ds)/\P (norm k (.tuple (gC ds lo hi))) (.tuple (gC ds lo hi))
 |_=>False
theorem Cr{lo hi:Option YE}{z y:DO}(he:PD X e te)(hl:PO X lo (vD z))(hh:PO X hi (vD y)):PD X (.Subscript e (.Slice lo hi none p2) pos) (X3 te z y):=PE.wk (Cq (SlR.or Ho Vu) he hl hh) (by
 rintro σ H Q ⟨p,i,own,ρ,P,E,t,q⟩;refine⟨p,i,own,ρ,_,E,t,λk d v H1 h A r=>?_⟩;refine⟨p,i,own,ρ,_,E.go A.kp A.pen,h,λo1 H2 h2 A2=>?_⟩;refine⟨p,i,own,ρ,_,(E.go A.kp A.pen).go A2.kp A2.pen,h2,λo2 H3 h3 A3=>?_⟩;have c:=(A.gy A2).gy A3;have w:=j8 (A.gy A2) A3.kp (j8 A A2.kp r);cases d with
 |list ds =>
  let⟨x,xs,j,o,h1,g⟩:=Rp.bT w;subst j;refine .inl ⟨x,xs,rfl,SqL.of h1,λl hl=>?_⟩;let⟨f,n,u⟩:=c.new hl (.lst (vZ xs o1 o2));let⟨B,m,s⟩:=mY c (cO c f (g.cut o1 o2)) u aq h3;exact q _ _ _ _ m (c.go f n) s
 |tuple ds =>
  let⟨x,xs,j,h1,g⟩:=Rp.fj w;subst j;refine .inr ⟨x,xs,rfl,SqT.of h1,by rw[⇑g];exact h3.1,λl hl=>?_⟩;let⟨f,n,u⟩:=c.new hl (.tup (vZ xs o1 o2));exact q _ _ _ _ h3.2 (c.go f n) (aR (.tup aq (cO c f (g.cut o1 o2))))
 |_=>exact h3.elim)
end
variable [Gr]
abbrev IM:=List (Int×D)
def kvD(m:IM):List (D×D):=m.map λp=>(Â p.1,p.2)
def bV(m:IM)(k:Int):Bool:=m.any λp=>decide (p.1=k)
def nR(m:IM)(k:Int):Option D:=(m.find? λp=>decide (p.1=k)).map (·.2)
def jq(m:IM)(k:Int)(d:D):IM:=if bV m k=true then m.map (λp=>if p.1=k then(p.1,d)else p)else m++[(k,d)]
def sS(m:IM):Bool:=m.all λp=>gO p.2
def WX{k:Key}{i:Int}(h:kD k=.int i):k=.inl i:=by
 cases k with
 |inl j=>cases h;rfl
 |inr x=>cases h
theorem Rkv.kv:∀{ok:Addr->Prop}{H:Hp}{a:List (Key×V)}{m:IM},Rkv ok H a (kvD m)->∃vs:List V,a=(m.map (·.1)).zipWith (λi v=>(ć i,v)) vs/\Rps ok H vs (m.map (·.2))
 |_,_,_,[],h=>by cases h;exact⟨[],rfl,.nil⟩
 |_,_,_,p::m,h=>by
  unfold kvD at h;rw[é]at h;generalize hk:Â p.1=kk at h;cases h with
  |cons h t =>
   rename_i k v b;let⟨vs,rfl,r⟩:=Rkv.kv (m:=m) t;have e:=WX hk.symm;subst e;exact⟨v::vs,rfl,.cons h r⟩
theorem tL:∀{m:IM}{vs:List V} (k:Int),⇑vs=⇑m->(((m.map (·.1)).zipWith (λi v=>((ć i:Key),v)) vs).any λkv=>decide (kv.1=ć k))=bV m k
 |[],[],_,_=>rfl
 |p::m,v::vs,k,h=>by
  have a:=tL (m:=m) (vs:=vs) k ↑h;have e:decide ((ć p.1:Key)=ć k)=decide (p.1=k):=by
   by_cases c:p.1=k <;> simp[c]
  show(decide ((ć p.1:Key)=ć k) || _)=(decide (p.1=k) || _)
  rw[e];exact fv _ a
 |[],_::_,_,h=>by cases h
 |_::_,[],_,h=>by cases h
def Bu{a:List (Key×V)}{k:Key}:(j4 a k).isSome=a.any λkv=>decide (kv.1=k):=by
 induction a with
 |nil=>rfl
 |cons p r ih =>
  unfold j4 at ih ⊢;rw[Œ,List.any_cons];cases h:decide (p.1=k)with
  |true=>rfl
  |false=>exact ih
theorem H9:∀{ok:Addr->Prop}{H:Hp}{m:IM}{vs:List V}{k:Int}{d:D},Rps ok H vs (m.map (·.2))->nR m k=some d->∃v,j4 ((m.map (·.1)).zipWith (λi v=>((ć i:Key),v)) vs) (ć k)=some v/\Rp ok H v d
 |_,_,[],_,_,_,_,h=>by cases h
 |_,_,p::m,_,k,d,.cons r t,h=>by
  unfold nR at h;rw[Œ]at h;by_cases c:p.1=k
  ·rw[gz c]at h;cases h;refine⟨_,?_,r⟩;show j4 ((ć p.1,_)::_) (ć k)=_;rw[o9 (by rw[c])]
  ·rw[fi c]at h;let⟨v,e,a⟩:=H9 (m:=m) (k:=k) (d:=d) t h;refine⟨v,?_,a⟩;show j4 ((ć p.1,_)::_) (ć k)=_;unfold j4 at e ⊢;rw[Œ,fi (λz=>c (Sum.inl.inj z))];exact e
def Sx:∀{m:IM}{vs:List V}{k:Int}{v:V}{ok:Addr->Prop}{H:Hp}{d:D},Rps ok H vs (m.map (·.2))->Rp ok H v d->Rkv ok H (putK ((m.map (·.1)).zipWith (λi v=>((ć i:Key),v)) vs) (ć k) v) (kvD (jq m k d)):=by
 intro m vs k v ok H d g o;have hl:⇑vs=⇑m:=by rw[⇑g,À]
 have j:∀{m:IM}{vs:List V},Rps ok H vs (m.map (·.2))->Rkv ok H ((m.map (·.1)).zipWith (λi v=>((ć i:Key),v)) vs) (kvD m):=by
  intro m;induction m with
  |nil=>intro vs r;cases r;exact .nil
  |cons p m e =>
   intro vs r;cases r with
   |cons h t=>exact .cons (k:=ć p.1) h (e t)
 unfold putK jq;rw[tL k hl];by_cases c:bV m k=true
 ·rw[fo c,fo c];clear c hl;induction m generalizing vs with
  |nil=>cases g;exact .nil
  |cons p m e =>
   cases g with
   |cons h t =>
    have:=e t;by_cases f:p.1=k
    ·have n:(ć p.1:Key)=ć k:=by rw[f]
     show Rkv ok H ((if(ć p.1:Key)=ć k then((ć p.1:Key),v)else(ć p.1,_))::_) (kvD ((if p.1=k then(p.1,d)else p)::_));rw[fo n,fo f];exact .cons (k:=ć p.1) o this
    ·have n:¬((ć p.1:Key)=ć k):=λz=>f (Sum.inl.inj z);show Rkv ok H ((if(ć p.1:Key)=ć k then((ć p.1:Key),v)else(ć p.1,_))::_) (kvD ((if p.1=k then(p.1,d)else p)::_));rw[fq n,fq f];exact .cons (k:=ć p.1) h this
 ·rw[fq c,fq c];have l:∀{a b:List (Key×V)}{x y:List (D×D)},Rkv ok H a x->Rkv ok H b y->Rkv ok H (a++b) (x++y):=by
   intro a b x y h1 h2;induction a generalizing x with
   |nil=>cases h1;exact h2
   |cons p a e=>cases h1 with|cons h t=>exact .cons h (e t)
  unfold kvD;rw[Ö];exact l (j g) (.cons (k:=ć k) o .nil)
section
variable{pos pos' p2:Pos}{a b e:YE}{ta tb te tj tm:DE}{st st2:XB}{rest:List XB}{ti:DI}{g:DG}{t:DS}
def tD1(ta tb:DE):DE:=λρ P=>ta ρ λ_ d1=>tb ρ λk2 d2=>match d1 with
 |.int i=>(norm k2 d2).le .new=true/\P .new (.dict (kvD [(i,d2)]))
 |_=>False
theorem uV(ha:PD X a ta)(hb:PD X b tb):PD X (.Dict [some a] [b] pos) (tD1 ta tb):=PE.wk (Rr (Mi ha hb Rj) rfl rfl (by intro z;cases z) (by show 1<=15;decide)) (by
 rintro σ H Q ⟨p,f,own,ρ,P,E,t,q⟩;intro c hc;have d:=E.at;let⟨r,m,v⟩:=d.new hc (.dK []);have l:=d.nfb hc;refine⟨p,f,own,ρ,_,E.go r m,t,λk1 d1 v1 H1 t1 A1 r1=>?_⟩;refine⟨p,f,own,ρ,_,(E.go r m).go A1.kp A1.pen,t1,λk2 d2 v2 H2 t2 A2 r2=>?_⟩;have h1:H1 c=some (.dK []):=A1.kp c _ aq l;have h2:H2 c=some (.dK []):=A2.kp c _ h1 l;refine⟨h2,?_⟩;cases d1 with
 |int i =>
  have s:=Rp.int' r1;subst s;refine⟨[(ć i,v2)],rfl,(by show 1<=15;decide),?_⟩;show Q (.ref c) (upd H2 c (.dK [(ć i,v2)]));have K:Kp p H (upd H2 c (.dK [(ć i,v2)])):=λx o ex nx=>by
   rw[ao (aA ex hc)];exact A2.kp x o (A1.kp x o (by rw[ao (aA ex hc)];exact ex) nx) nx
  have h:p.PI (upd H2 c (.dK [(ć i,v2)])):=p.mono H2 _ A2.pen λx o fx ex=>by
   rw[ao (λz:x=c=>fx.elim (λfx=>l (by rw[←z];exact fx)) λ⟨_,_,y⟩=>by rw[z,h2,y]at ex;cases ex)];exact ex
  refine q _ _ _ _ t2.2 ⟨d.k0,K,d.penb,h,d.ow⟩ (.dct v aq (.cons (k:=ć i) ?_ .nil));have w:Rp (okK p f own H1 .new) H2 v2 d2:=nZ A2 t2.1 (aR r2);refine w.cW (λx o n ex=>⟨?_,?_⟩) λx xs ex=>?_
  ·have n:H1 x=none:=n;cases j:H x with
   |none=>exact j
   |some u =>
    have:=A1.kp x u (by rw[ao (aA j hc)];exact j) (A2.nfb n);rw[n]at this;cases this
  ·have n:H1 x=none:=n;rw[ao (λz=>by rw[z,h1]at n;cases n)];exact ex
  ·rw[ao (λz=>by rw[z,h2]at ex;cases ex)];exact ex
 |_=>exact t2.elim)
def DN(neg:Bool):G2:=λ_ d1 _ d2 P=>match d1,d2 with
 |.int k,.dict ds=>∃m:IM,ds=kvD m/\P .imm (.bool (if neg then !(bV m k)else bV m k))
 |_,_=>False
def Rp.Tf{ok:Addr->Prop}{H:Hp}{v:V}{ds:List (D×D)}(r:Rp ok H v (.dict ds)):∃a kvs,v=.ref a/\ok a/\H a=some (.dK kvs)/\Rkv ok H kvs ds:=by
 cases r with
 |dct o h r=>exact⟨_,_,rfl,o,h,r⟩
def Ot:∀σ H Q,aV (t2 (DN false) ta tb) σ H Q->Ye (aV ta) (aV tb) σ H Q:=by
 rintro σ H Q ⟨p,d,own,ρ,P,E,t,q⟩;refine⟨p,d,own,ρ,_,E,t,λk1 d1 v1 H1 t1 A1 r1=>?_⟩;refine⟨p,d,own,ρ,_,E.go A1.kp A1.pen,t1,λk2 d2 v2 H2 t2 A2 r2=>?_⟩;have A:=A1.gy A2;unfold DN at t2;split at t2
 ·rename_i k ds;let⟨m,rfl,t2⟩:=t2;have f:=Rp.int' r1;subst f;let⟨c,h,rfl,o,hc,i⟩:=Rp.Tf r2;let⟨vs,rfl,j⟩:=i.kv;refine⟨c,_,rfl,sV.k (k:=ć k) hc,?_⟩;rw[Bu,tL k (by rw[⇑j,À])];exact q _ _ _ _ t2 A (.bl _)
 ·exact t2.elim
def Dp:∀σ H Q,aV (t2 (DN true) ta tb) σ H Q->Hh (aV ta) (aV tb) σ H Q:=by
 rintro σ H Q ⟨p,d,own,ρ,P,E,t,q⟩;refine⟨p,d,own,ρ,_,E,t,λk1 d1 v1 H1 t1 A1 r1=>?_⟩;refine⟨p,d,own,ρ,_,E.go A1.kp A1.pen,t1,λk2 d2 v2 H2 t2 A2 r2=>?_⟩;have A:=A1.gy A2;unfold DN at t2;split at t2
 ·rename_i k ds;let⟨m,rfl,t2⟩:=t2;have f:=Rp.int' r1;subst f;let⟨c,h,rfl,o,hc,i⟩:=Rp.Tf r2;let⟨vs,rfl,j⟩:=i.kv;refine⟨c,_,rfl,sV.k (k:=ć k) hc,?_⟩;rw[Bu,tL k (by rw[⇑j,À])];exact q _ _ _ _ t2 A (.bl _)
 ·exact t2.elim
def hu1(hu:X.A.units+64<WN):X.A.units+1<WN:=()
def mW(hu:X.A.units+64<WN)(ha:PD X a ta)(hb:PD X b tb)(hm:XN .In b=false:=by rfl):PDT X (.Compare a [.In] [b] pos) (dZ (t2 (DN false) ta tb)):=PT.wk (Ma (V3 (hu1 hu) ha hb) hm) λσ H Q q=>Ot σ H _ (by
 let⟨p,c,own,ρ,P,E,t,q⟩:=q;refine⟨p,c,own,ρ,_,E,t,λk d v H' h A r=>?_⟩;cases d with
 |bool b=>exact⟨b,Rp.bl' r,q b H' h A⟩
 |_=>exact h.elim)
def dN(hu:X.A.units+64<WN)(ha:PD X a ta)(hb:PD X b tb)(hm:XN .NotIn b=false:=by rfl):PDT X (.Compare a [.NotIn] [b] pos) (dZ (t2 (DN true) ta tb)):=PT.wk (Ma (Jz (hu1 hu) ha hb) hm) λσ H Q q=>Dp σ H _ (by
 let⟨p,c,own,ρ,P,E,t,q⟩:=q;refine⟨p,c,own,ρ,_,E,t,λk d v H' h A r=>?_⟩;cases d with
 |bool b=>exact⟨b,Rp.bl' r,q b H' h A⟩
 |_=>exact h.elim)
def Pb:G2:=λk1 d1 _ d2 P=>match d1,d2 with
 |.dict ds,.int k=>∃(m:IM)(d:D),ds=kvD m/\nR m k=some d/\P (norm k1 d) d
 |_,_=>False
def mX(hu:X.A.units+64<WN)(ha:PD X a ta)(hb:PD X b tb)(hs:Tv b:=by exact λ_ _=>rfl):PD X (.Subscript a b pos) (t2 Pb ta tb):=PE.wk (Ru (hu1 hu) ha hb hs) (by
 rintro σ H Q ⟨p,f,own,ρ,P,E,t,q⟩;refine⟨p,f,own,ρ,_,E,t,λk1 d1 v1 H1 t1 A1 r1=>?_⟩;refine⟨p,f,own,ρ,_,E.go A1.kp A1.pen,t1,λk2 d2 v2 H2 t2 A2 r2=>?_⟩;have A:=A1.gy A2;unfold Pb at t2;split at t2
 ·rename_i ds k;let⟨m,d,rfl,hg,t2⟩:=t2;have h:=Rp.int' r2;subst h;let⟨c,j,rfl,o,hc,l⟩:=Rp.Tf (j8 A1 A2.kp r1);let⟨vs,rfl,n⟩:=l.kv;let⟨v,i,r⟩:=H9 n hg;refine⟨c,v,rfl,?_,q _ _ _ _ t2 A (aR r)⟩;rw[←i];exact sV.k (k:=ć k) hc
 ·exact t2.elim)
def Qg(i:Nat)(tk c:DE):DS:=λP ρ=>match ρ[i]? with
 |some (.dw r (.dict ds))=>c ρ λ_ dv=>tk ρ λ_ dk=>match dk with
  |.int k=>∃m:IM,ds=kvD m/\gO dv=true/\sS m=true/\⇑m<1000/\P.nx ((forget r ρ).set i (.dw r (.dict (kvD (jq m k dv)))))
  |_=>False
 |_=>False
theorem Dw{ok:Addr->Prop}{H:Hp}:∀{m:IM}{vs:List V},sS m=true->Rps ok H vs (m.map (·.2))->Rps (λ_=>False) H vs (m.map (·.2))
 |[],_,_,.nil=>.nil
 |p::m,_,h,.cons r t=>by
  unfold sS at h;rw[List.all_cons,Ü]at h;exact .cons (r.imm h.1) (Dw (m:=m) h.2 t)
def nF{i:Nat}{tk C:DE}(h:PS X st (TY (iY i) (aV tk) (aV C))):PDS X st (Qg i tk C):=PS.wk' h (by
 rintro Q σ H ⟨p,u,own,ρ,P,E,t,w⟩;unfold Qg at t;split at t
 ·rename_i r ds hr;let⟨v,hv,_⟩:=E.slot i _ hr;refine⟨p,u,own,ρ,_,E,t,λkv dv vv H1 t1 A1 r1=>?_⟩;have n:=E.go A1.kp A1.pen;refine⟨v,hv,p,u,own,ρ,_,n,t1,λkk dk vk H2 t2 A2 r2=>?_⟩;have q:=n.go A2.kp A2.pen;cases dk with
  |int k =>
   let⟨m,rfl,im,imm,y,K⟩:=t2;let⟨N,d,x⟩:=q.slot i _ hr;rw[hv]at d;cases d;let⟨l,I,rfl,o,hl,L⟩:=Rp.Tf x;let⟨vs,rfl,B⟩:=L.kv;have F:=Rp.int' r2;subst F;have G:=õ;have f:=Dw imm B;have j:Rp (λ_=>False) H2 vv dv:=(j8 A1 A2.kp r1).imm im;have J:⇑((m.map (·.1)).zipWith (λi v=>((ć i:Key),v)) vs)=⇑m:=by
    rw[List.length_zipWith,À,⇑B,À,Nat.min_self]
   refine⟨l,_,rfl,QD.k (k:=ć k) hl (by rw[J];lia),?_⟩;have A:=Sx (k:=k) f j;generalize putK ((m.map (·.1)).zipWith (λi v=>((ć i:Key),v)) vs) (ć k) vv=c at A;have M:∀a xs,H2 a=some (.tup xs)->upd H2 l (.dK c) a=some (.tup xs):=λa xs e=>by
    rw[ao (λz=>by rw[z,hl]at e;cases e)];exact e
   have D:=(q.write (o':=.dK c) o hl λxs z=>nomatch z).put (v:=.ref l) (i:=i) (s:=.dw r (.dict (kvD (jq m k dv)))) ⟨_,hv,.dct o aq (A.mono (λ_ o=>o.elim) (λ_ _ o=>o.elim) M)⟩;exact w.nx _ σ _ _ D ((A1.frs.trans A2.frs).trans (mK o hl λxs z=>nomatch z)) K
  |_=>exact t2.elim
 ·exact t.elim)
def XR(te:DE):DT:=λρ P=>te ρ λ_ d=>match d with
 |.list ds=>P (!ds.isEmpty)
 |.tuple ds=>P (!ds.isEmpty)
 |.bool b=>P b
 |_=>False
def P0{ok:Addr->Prop}{H:Hp}{vs:List V}{ds:gg}(r:Rps ok H vs ds):(!vs.isEmpty)=!ds.isEmpty:=by
 cases r <;> rfl
def yS(h:PD X e te)(he:∀whole,Xs e X.env whole=(do let v ←whole;standAt e.pos;holding [v] (XT v)):=by intro _;rfl):PDT X e (XR te):=PT.wk (LQ h he) (by
 rintro σ H Q ⟨p,i,own,ρ,P,E,t,q⟩;refine⟨p,i,own,ρ,_,E,t,λk d v H' h A r=>?_⟩;cases d with
 |list ds =>
  let⟨c,vs,rfl,o,hc,f⟩:=Rp.bT r;exact⟨_,.inl ⟨vs,SqL.of hc,rfl⟩,by rw[P0 f];exact q _ _ h A⟩
 |tuple ds =>
  let⟨c,vs,rfl,hc,f⟩:=Rp.fj r;exact⟨_,.inr (.inl ⟨vs,SqT.of hc,rfl⟩),by rw[P0 f];exact q _ _ h A⟩
 |bool b =>
  have e:=Rp.bl' r;subst e;exact⟨b,rfl,q _ _ h A⟩
 |_=>exact h.elim)
end
variable [Gr]
section
variable{te te1 te2 tj tm:DE}{st st2:XB}{rest:List XB}{t:DS}
end
variable [Gr]
section
variable{te tj:DE}{st:XB}{t:DS}
end
end Dl
namespace L2
open PySem.Spec
def Tw(K:Ý)(a:Addr):It :=
 ⟨λi H=>∃xs x,SqL K H a xs/\xs[i]?=some x,λi H x H'=>∃t v,x=.ref t/\H t=none/\H'=upd H t (.tup [.int i,v])/\∀xs,SqL K H a xs->xs[i]?=some v,λi H=>∃xs,SqL K H a xs/\⇑xs<=i⟩
def Fd{P:Zg}{w:Zl}{K:Ý}{elts:List YE}{kk:Nat}{pos:Pos}(a e it:Addr)(hei:e≠it) :
  Turn P w K (.Tuple elts kk pos) (Tw K a) [e,it] e (λi h=>(∃old,IsEnum h e it i old)/\h.IsListIter it a i) where
 mem:=by simp
 obj:=λi h st b hb=>by
  let⟨⟨old,he⟩,o,ho,hc,hd⟩:=st;rcases Õ.mp hb with rfl|hb
  ·exact⟨_,he,λv z=>nomatch z⟩
  ·have e1:b=it:=↑hb
   subst e1;exact⟨o,ho,λv z=>by rw[hd]at z;cases z⟩
 keep:=λi h h' st k=>by
  let⟨⟨old,he⟩,o,ho,r⟩:=st;exact⟨⟨old,k e (by simp) _ he⟩,o,k it (by simp) _ ho,r⟩
 item:=by
  intro X hP hw hK hc i pins s σ H E I hf st hg;subst hP hw hK;let⟨xs,x,hq,hx⟩:=hg;let⟨its,rv,p,hz⟩:=I.list hq;let⟨u,hu,ru⟩:=rv.get hx;let⟨⟨old,he⟩,hit⟩:=st;have hai:a≠it:=λz=>by
   let⟨o,_,ho,hc1,_⟩:=p;let⟨o',ho',hc2,_⟩:=hit;rw[z,ho']at ho;cases ho;rw[hc2]at hc1;injection hc1 with z2;exact ft z2 ∅
  have hae:e≠a:=λz=>by
   let⟨o,_,ho,hc1,_⟩:=p;have he':s.heap.get? e=some _:=he;rw[z,ho]at he';cases he';have z1:Đ "enumerate"=Đ "list":=hc1;injection z1 with z2;exact ft z2 ∅
  have hlt:i<its.toArray.size:=by have:=(È.mp hu).1;simpa using this
  let⟨e0,e1,e2,e3,e4,e5⟩:=hf e (by simp);let⟨f0,f1,f2,f3,f4,f5⟩:=hf it (by simp);have D:=Draws.list (prog:=X.prog) (w:=X.w) (A:=X.A.in1) (I.ok.hd hc) it a hai its.toArray;refine Su D he ⟨hit,p.isList⟩ hlt hei (by simp[hei,hae]) λx' h' tk hP ho hs' hT hsz hk=>⟨_,rfl,?_⟩
  have ex:x'=u:=by
   have hP':its[i]?=some x':=↑hP
   rw[hu]at hP';exact(ß hP').symm
  subst ex;refine Sz ho λh2 he2 hs2=>?_;have hTn:H ↥s=none:=I.hok.fresh (Ì _);have keep2:∀b o,b≠e->b≠it->s.heap.get? b=some o->h2.get? b=some o:=λb o hb1 hb2 q=>(hs2.2 b hb1).trans (hk b o hb1 hb2 q);have hTe:↥s≠e:=ś (Ó he);have hTup:h2.get? ↥s=some { cls:=.type "tuple",data:=.seq #[.int i tk,x']}:=(hs2.2 _ hTe).trans hT;have J:Inv X pins σ (upd H ↥s (.tup [.int i,x])) { s with heap:=h2,toks:=tk+1 }:=by
   refine I.step (g':=s.gens) (d':=s.drawn) (t':=tk+1) (ch:=[e,it]) (λb hb=>?_) (λb o _ _ hcb q _=>keep2 b o (λz=>hcb (by simp[z])) (λz=>hcb (by simp[z])) q)
    (λb o _ _ hcb q _=>⟨o.slots,keep2 b o (λz=>hcb (by simp[z])) (λz=>hcb (by simp[z])) q⟩) (λb o _ q n=>by rw[ao (å (Ó q))];exact n)
    (λb o hcb q=>⟨o,keep2 b o (λz=>hcb (by simp[z])) (λz=>hcb (by simp[z])) q⟩) (λb ys q=>by rw[ao (aA q hTn)];exact q) (λb o y q=>by rw[ao (aA q hTn)];exact q)
    (λb ps q=>⟨#[],by rw[ao (aA q hTn),q];simp⟩) (λm hm=>?_) ?_ I.bare
   ·rcases Õ.mp hb with rfl|hb
    ·exact⟨e3,e1,e4,e5⟩
    ·have z:b=it:=↑hb
     subst z;exact⟨f3,f1,f4,f5⟩
   ·let⟨o,es,ep,ho',r⟩:=hm;exact⟨o,es,ep,keep2 _ o (ĝ e1) (ĝ f1) ho',r⟩
   ·intro b u' q;have nT:∀{c y},H c=some y->c≠e/\c≠it:=λ{c y} z=>⟨λv=>(by rw[v,e0]at z;exact nomatch z),λv=>(by rw[v,f0]at z;exact nomatch z)⟩
    by_cases hb:b=↥s
    ·subst hb;rw[aq]at q;cases q;exact⟨(by show 2<=sizeLine;decide),[.int i tk,x'],.cons ⟨_,rfl⟩ (.cons ru .nil),_,hTup,rfl,_,rfl⟩
    ·rw[ao hb]at q;refine(I.hok b u' q).stay (λc v hcv y=>keep2 c v ?_ ?_ y) (λc y=>by rw[ao (aA y hTn)];exact y) λc ys y=>by rw[ao (aA y hTn)];exact y
     ·rcases hcv with rfl|z
      ·exact(nT q).1
      ·exact(nT z).1
     ·rcases hcv with rfl|z
      ·exact(nT q).2
      ·exact(nT z).2
  refine⟨.ref ↥s,_,J,rfl,⟨_,x,rfl,hTn,rfl,λys hy=>by rw[I.Dm hy hq];exact hx⟩,⟨⟨x',?_⟩,?_⟩,λb hb=>?_⟩
  ·have he3:IsEnum h2 e it ((i:Int)+1) x':=↑he2
   have ec:(~~~(i+1))=(i:Int)+1:=()
   rw[ec];exact he3
  ·let⟨o,ho2,r⟩:=hs'.1;exact⟨o,(hs2.2 it (ĝ hei)).trans ho2,r⟩
  ·rw[ao]
   ·exact(hf b hb).1
   ·rcases Õ.mp hb with rfl|hb
    ·exact ĝ hTe
    ·have z:b=it:=↑hb
     subst z;let⟨o,ho2,_⟩:=hit;exact å (Ó ho2)
 done:=by
  intro X hP hw hK hc i pins s σ H E I hf st hg;subst hP hw hK;let⟨xs,hq,hx⟩:=hg;let⟨its,rv,p,hz⟩:=I.list hq;let⟨⟨old,he⟩,hit⟩:=st;let⟨f0,f1,f2,f3,f4,f5⟩:=hf it (by simp);have hl:=⇑rv;have hT:s.TypeIs (.ref e) "enumerate":=⟨_,he,rfl⟩
  unfold Wl;refine Ã (SA (ŋ (name:=ë "__next__") hT Ł
   (Ļ Ł hT PySem.F.entry_enumerate_next ?_ (PySem.F.args_enumerate_next_1 _))))
  show wpAny _ _ (Sk (.ref e) 2 >>=_) _ _ _;refine Ã (ų he rfl (x:=.ref it) rfl ?_);refine Ã (SL (I.ok.hd hc) hit p.isList (by simp;lia) λh' x he' hx'=>?_);let⟨o,ho,hc'⟩:=hx';refine Ã (SB (T:="StopIteration") (b:=true) ⟨o,ho,hc'⟩ SC ?_);exact Ú ⟨rfl,I.turned (t':=s.toks) (λb o hb e=>he' b o hb e) f0 f1 f3 f4 f5⟩
 self:=λA i s Q E st h=>by
  let⟨⟨old,he⟩,_⟩:=st;have hT:s.TypeIs (.ref e) "enumerate":=⟨_,he,rfl⟩
  refine SD hT Ž (Ļ Ž hT PySem.F.entry_enumerate_iter ?_ (PySem.F.args_enumerate_iter_1 _));show wpAny _ _ (ret (.ref e)) _ _ s;exact Ú ⟨_,rfl,"enumerate",_,hT,Ł.lookup,h⟩
def W2(K:Ý)(b:TA):TI:=λσ H R=>b σ H λvs H1=>∃a,vs=[.ref a]/\(∃xs,SqL K H1 a xs)/\R (Tw K a) H1
def Ml{X:Cx}{d:List YE}{kk:Nat}{g:Pos}{a:YE}{j:TA}{p pos:Pos}(hg:Gl X "enumerate")(hm:X.mg "enumerate"=none)(ha:PA X [a] j)(hs:YI [a] X.env=[(false,YN a X.env)]:=by rfl):PI X (.Tuple d kk g) (.Call (.Name "enumerate" p) [a] [] pos) (W2 X.K j):=by
 intro f s σ H R I h;refine Call_ (jf I hg hm boot_enumerate (ĳ (thn (ha pos f s σ H _ I h) λus s1 ⟨vs,H1,I1,r1,q1⟩=>?_) hs rfl));let⟨b,e,⟨xs,l⟩,q⟩:=q1;subst e;let⟨u,rfl,n⟩:=vals1 r1;cases n;let⟨its,r,m,o⟩:=I1.list l;refine call_enumerate_list m.isList λh' he hit hsz hk=>?_;have k:Inv X f σ H1 { s1 with heap:=h' }:=I1.kept (t':=s1.toks) hk;have T:Turn X.prog X.w X.K (.Tuple d kk g) (Tw X.K b) [↥s1+1,↥s1] (↥s1+1) (λi h=>(∃old,IsEnum h (↥s1+1) ↥s1 i old)/\h.IsListIter ↥s1 b i):=Fd b _ _ (ś (ň _));refine T.self _ 0 _ _ _ ⟨⟨_,he⟩,hit⟩ ⟨_,_,_,_,H1,rfl,k,T,⟨⟨_,he⟩,hit⟩,λc hc=>?_,q⟩;rcases Õ.mp hc with rfl|hc
 ·exact I1.Gv (ĸ _) (I1.hok.fresh (ĸ _))
 ·have z:c=↥s1:=↑hc
  subst z;exact I1.Gv (Ì _) (I1.hok.fresh (Ì _))
end L2
namespace Dl
open L2
variable{X:Cx}
variable [Gr]
section
variable{tg:YE}{pos:Pos}{ta:DA}
def Ey{K:Ý}{ok:Addr->Prop}{a:Addr}{ds:gg}:Wlk (λH=>Rp ok H (.ref a) (.list ds)) (Tw K a) (rW ds) ok where
 go:=λi H r hi=>by
  let⟨b,vs,e,_,h,rs⟩:=r.bT;cases e;have:i<⇑vs:=by rw[⇑rs];rw[gW]at hi;exact hi
  exact⟨vs,vs[i],SqL.of h,by simp[this]⟩
 stop:=λH r=>by
  let⟨b,vs,e,_,h,rs⟩:=r.bT;cases e;exact⟨vs,SqL.of h,by rw[⇑rs,gW];exact Ì _⟩
 yld:=λi H x H' r y=>by
  let⟨t,v,rfl,ht,rfl,y⟩:=y;have sm:Same H (upd H t (.tup [.int i,v])):=λb u q=>by rw[ao (aA q ht)];exact q
  refine⟨sm,λd hd=>?_⟩;let⟨b,vs,e,_,h,rs⟩:=r.bT;cases e;rw[nA]at hd;cases he:ds[i]? with
  |none=>rw[he]at hd;cases hd
  |some d0 =>
   rw[he]at hd;have e:=ß hd;subst e;let⟨v',hv,rv⟩:=rs.getD he;have:=y vs (SqL.of h);rw[hv]at this;cases this;exact .tup aq (.cons (.int _) (.cons (rv.mono (λ_ o=>o) (λa o _ e=>sm a o e) λa xs e=>sm a _ e) .nil))
 stab:=λH H' r f t=>r.cW (λa o n e=>⟨n,f a o n e⟩) t
def Zq(ta:DA):DI:=λρ P=>ta ρ λks=>match ks with
 |[(k,.list ds)]=>P k (rW ds)
 |_=>False
def vU{b:List YE}{kk:Nat}{c:Pos}{a:YE}{ps:Pos}(hm:X.mg "enumerate"=none)(ha:PDA X [a] ta)(hg:Gl X "enumerate":=by rfl)(hs:YI [a] X.env=[(false,YN a X.env)]:=by rfl):PDI X (.Tuple b kk c) (.Call (.Name "enumerate" ps) [a] [] pos) (Zq ta):=PI.wk (Ml hg hm ha hs) (by
 rintro σ H R ⟨p,f,own,ρ,P,E,t,q⟩;refine⟨p,f,own,ρ,_,E,t,λks vs H1 h A r=>?_⟩;split at h
 ·rename_i k ds;let⟨v,rfl,d⟩:=gq r;let⟨a,vs,e,_,ha,g⟩:=Rp.bT d;subst e;exact⟨a,rfl,⟨vs,SqL.of ha⟩,q k _ _ H1 _ h A Ey (rpA d)⟩
 ·exact h.elim)
end
section
def Kr(hc:X.calm=true):bU X (.builtin "min") (λxs H Q=>∃(p:Addr)(ns:fM),xs=[.ref p]/\SqL X.K H p (ns.map V.int)/\ns≠[]/\∀M,M∈ns->(∀a∈ns,M<=a)->Q (.int M) H):=by
 intro i s σ H xs x Q I r h;let⟨p,ns,rfl,hp,g,q⟩:=h;let⟨u,rfl,n⟩:=vals1 r;cases n;let⟨its,m,l,w⟩:=I.list hp;have hi:IntsAre its ns:=intsAre_of m;let⟨f,e⟩:=hi.allInts.items;have c:ns=f.toList.map (·.1):=by rw[←hi.numsOf,←nums_intItems,←e]
 have hsz:0<f.size:=by
  have d:=Ŵ.mpr g;rw[c,À,ō]at d;exact d
 have hl:=l.isList;rw[e]at hl;refine min_intList (I.ok.hd hc) hl hsz λv h' tk hv hk=>?_;let⟨t,rfl⟩:=intItems_at hv;let⟨h1,h2⟩:=argBest_lt (U1 f) (f.size - 1);refine⟨.int _,H,I.kept λb o eb=>hk b o eb,⟨_,rfl⟩,q _ ?_ λa ha=>?_⟩
 ·rw[c,numAt_eq];refine getD_mem ?_;rw[À,ō];lia
 ·rw[c]at ha;let⟨j,k,rfl⟩:=mem_getD ha;rw[À,ō]at k;have d:=h2 j ();rw[←numAt_eq];exact d
def Kl(hc:X.calm=true):bU X (.builtin "sum") (λxs H Q=>∃(p:Addr)(ns:fM),xs=[.ref p]/\SqT X.K H p (ns.map V.int)/\⇑ns<=1000/\(∀x∈ns,-1000000<=x/\x<=1000000)/\Q (.int ns.sum) H):=by
 intro l s σ H xs B Q I r h;let⟨p,ns,rfl,hp,hl,hs,q⟩:=h;let⟨u,rfl,y⟩:=vals1 r;cases y;let⟨its,m,g,z⟩:=I.tuple hp;have a:⇑its=⇑ns:=by have:=⇑m;rw[À]at this;exact this.symm
 have c:p<↥s:=by let⟨o,n,_⟩:=g;exact Ó n
 have f:∀i v,its[i]?=some v->∃t,v=Ń (ns.getD i 0) t:=λi v e=>by
  have hi:i<⇑its:=(È.mp e).1;have hv:(ns.map V.int)[i]?=some (V.int ns[i]):=by rw[Þ,Å (show i<⇑ns by lia)];rfl
  let⟨u,k,w⟩:=m.get hv;rw[e]at k;cases k;let⟨t,rfl⟩:=w;exact⟨t,by rw[Ò,Å (show i<⇑ns by lia)];rfl⟩
 refine S2 (UV g ?_);refine⟨_,_,_,_,_,_,λi=>ns.getD i 0,rfl,Walks.tuple (A:=X.A.in1) (I.ok.hd hc) _ p (å c) _,⟨⟨_,ä _ rfl,rfl,rfl⟩,g.push _⟩,?_,λi v e=>f i v ↑e,λj d=>?_,λh' tk t' hk=>?_⟩
 ·intro b hb;show b<(s.heap.push _).objs.size;rw[Ŝ];simp at hb;rcases hb with rfl|rfl
  ·exact ň _
  ·exact ĕ c
 ·have d:j<⇑ns:=by simpa[a]using d
  have e:ns.getD j 0=ns[j]:=by rw[Ò,Å d];rfl
  have b1:=hs _ (Ĥ d);have b2:=qK (ns.take (j+1)) 1000000 λx hx=>hs x (List.mem_of_mem_take hx);have b3:⇑(ns.take (j+1))<=1000:=by rw[Ĺ];lia
  rw[pO ns (j+1) d];refine⟨?_,?_⟩
  ·show -(2 ^ 63)<=ns.getD j 0/\ns.getD j 0<2 ^ 63;rw[e];lia
  ·show -(2 ^ 63)<=(ns.take (j+1)).sum/\(ns.take (j+1)).sum<2 ^ 63;lia
 ·have e:PySem.preSum (λi=>ns.getD i 0) its.toArray.size=ns.sum:=by
   rw[Ñ,a,pO ns ⇑ns (Ì _),þ]
  rw[e];refine⟨.int ns.sum,H,I.kept λb o eb=>hk b o ?_ (Ô _ eb),⟨_,rfl⟩,q⟩;intro hm;have:b=↥s:=↑hm
  exact ft (this ▸ Ó eb) (Ę _)
section
variable{prog:Zg}{w:Zl}{A:Ys}{E:fA}
end
section
variable{pos:Pos}
variable [Gr]
end
section
variable{pos:Pos}{a:YE}{t:DA} [Gr]
def W5(f:Int->Int->Int)(le:Int->Int->Prop):GC:=λks P=>match ks with
 |[(_,.tuple [.int i,.int j])]=>P .imm (.int (f i j))
 |[(_,.list ds)]=>∃ns:fM,ds=ns.map Â/\ns≠[]/\∀M,M∈ns->(∀a∈ns,le M a)->P .imm (.int M)
 |_=>False
def yX{ps:Pos}(hc:X.calm=true)(hm:X.mg "min"=none)(ha:PDA X [a] t)(hg:Gl X "min":=by rfl)(he:zS X a []:=by rfl)(hpl:zP X pos []:=by rfl):PD X (.Call (.Name "min" ps) [a] [] pos) (tCl (W5 (λi j=>if j<i then j else i) (λM a=>M<=a)) t) :=
 eN (bU.or (Kq hc) (Kr hc)) (by
  intro p l own m H vs ks P Q A r t q;unfold W5 at t;split at t
  ·rename_i k i j;let⟨v,rfl,f⟩:=gq r;let⟨x,xs,c,h1,b⟩:=Rp.fj f;let⟨o,s,d,g,h⟩:=Rps.two b;subst c d;rw[g.int',h.int']at h1;exact .inl ⟨x,i,j,rfl,SqT.of h1,q _ _ _ _ t Kp.refl A.pen (.int _)⟩
  ·let⟨ns,rfl,e,t⟩:=t;let⟨v,rfl,f⟩:=gq r;let⟨x,xs,c,n,h1,b⟩:=Rp.bT f;subst c;have d:=Rps.ints b;subst d;exact .inr ⟨x,ns,rfl,SqL.of h1,e,λM h1 h2=>q _ _ _ _ (t M h1 h2) Kp.refl A.pen (.int _)⟩
  ·exact t.elim) hg hm boot_min ha ∅ ∅ he hpl
def O9:GC:=λks P=>match ks with
 |[(_,.list ds)]=>∃ns:fM,ds=ns.map Â/\⇑ns<=1000/\(∀x∈ns,-1000000<=x/\x<=1000000)/\P .imm (.int ns.sum)
 |[(_,.tuple ds)]=>∃ns:fM,ds=ns.map Â/\⇑ns<=1000/\(∀x∈ns,-1000000<=x/\x<=1000000)/\P .imm (.int ns.sum)
 |_=>False
def yU{ps:Pos}(hc:X.calm=true)(hm:X.mg "sum"=none)(ha:PDA X [a] t)(hg:Gl X "sum":=by rfl)(he:zS X a []:=by rfl)(hpl:zP X pos []:=by rfl):PD X (.Call (.Name "sum" ps) [a] [] pos) (tCl O9 t) :=
 eN (bU.or (Km hc) (Kl hc)) (by
  intro p f own g H vs ks P Q A r t q;unfold O9 at t;split at t
  ·let⟨ns,rfl,hl,hb,t⟩:=t;let⟨v,rfl,e⟩:=gq r;let⟨x,xs,c,h,h1,b⟩:=Rp.bT e;subst c;have d:=Rps.ints b;subst d;exact .inl ⟨x,ns,rfl,SqL.of h1,hl,hb,q _ _ _ _ t Kp.refl A.pen (.int _)⟩
  ·let⟨ns,rfl,hl,hb,t⟩:=t;let⟨v,rfl,e⟩:=gq r;let⟨x,xs,c,h1,b⟩:=Rp.fj e;subst c;have d:=Rps.ints b;subst d;exact .inr ⟨x,ns,rfl,SqT.of h1,hl,hb,q _ _ _ _ t Kp.refl A.pen (.int _)⟩
  ·exact t.elim) hg hm boot_sum ha ∅ ∅ he hpl
variable{b:YE}{ta tb:DE}
end
end
section
variable{pos:Pos}{a e:YE}{te ta:DE}{t:DA}{st st2:XB}{rest:List XB} [Gr]
end
section
variable{tg iter c:YE}{pos pos1:Pos}{ret:XB}{ti:DI}{g:DG}{tc:DT} [Gr]
end
end Dl
namespace L2
def Asc(xs:Array Nat):Prop:=xs.toList.Pairwise (·<·)
structure Good(w:Zl)(t:Rc):Prop where
 asc:Asc t.place
 dum:t.dummies=#[]
 led:t.led=!w.params.followText "set-order"
section
variable{w:Zl}{t:Rc}
end
section
variable{P:Zg}{w:Zl}{A:Ys}{E:fA}{s:Shared}
section
variable{P:Zg}{w:Zl}{A:Ys}{R:WP->Shared->Prop}{I:Addr}{fp wr:List Addr}{G:Array Y2->Array Y2->Prop}{n:Nat}{W:Nat->Value->Prop}{St:Nat->Shared->Prop}
end
end
section
variable{P:Zg}{w:Zl}{A:Ys}{E:fA}{s:Shared}{I a:Addr}{f:Value}{i n ep:Nat}{o:Obj}{es:Array (Int×Value)}{t:Rc}
end
section
variable{P:Zg}{w:Zl}{A:Ys}{E:fA}{s:Shared}
variable{a:Addr}{i ep:Nat}{o:Obj}{es:Array (Int×Value)}{t:Rc}
end
section
variable{P:Zg}{w:Zl}{A:Ys}{E:fA}{s:Shared}{I a:Addr}{ep:Nat}{o:Obj}{es:Array (Int×Value)}{t:Rc}
end
end L2
namespace L2
open PySem.Spec
section
variable{P:Zg}{w:Zl}{A:Ys}{E:fA}{s:Shared}{a:Addr}{S:Int->Bool}{n:Nat}
end
end L2
set_option autoImplicit true
set_option relaxedAutoImplicit true
namespace Wr
open L2 Dl
structure WD[Gr](X:Cx)(e:YE)(t:DE):Prop where
 h:PD X e t
structure WDT[Gr](X:Cx)(e:YE)(t:DT):Prop where
 h:PDT X e t
structure WDW[Gr](X:Cx)(e:YE)(t:DT):Prop where
 h:PDW X e t
structure WDA[Gr](X:Cx)(e:List YE)(t:DA):Prop where
 h:PDA X e t
structure WDS[Gr](X:Cx)(e:XB)(t:DS):Prop where
 h:PDS X e t
structure WDSs[Gr](X:Cx)(e:List XB)(t:DS):Prop where
 h:jk X e t
structure WDI[Gr](X:Cx)(tg e:YE)(t:DI):Prop where
 h:PDI X tg e t
structure WDG[Gr](X:Cx)(e:YE)(t:DG):Prop where
 h:PDG X e t
structure WDGs[Gr](X:Cx)(e:List YE)(t:DGs):Prop where
 h:PGs X e (vG t)
structure WDTs[Gr](X:Cx)(e:List YE)(t:DT):Prop where
 h:KH X e t
structure WDO[Gr](X:Cx)(e:Option YE)(t:DO):Prop where
 h:PO X e (vD t)
structure WV(X:Cx)(e:YE)(i:Nat):Prop where
 h:PE X e (iY i)
structure WC(X:Cx)(e:YE)(v:V):Prop where
 h:PE X e (tC v)
section
variable [Gr]
def wv(i:Nat){x:Str}{pos:Pos}(hN:X.N[i]?=some x:=by rfl)(hv:Vis X.env.scope x:=by first|exact đ rfl|exact Or.inr (đ rfl)|exact Or.inr (Or.inr rfl))(hd:zB x:=by decide)(hcd:(x==("__classdict__":Str))=false:=by decide):WV X (.Name x pos) i:=⟨pv i hN hv hd hcd⟩
def wpt{t:DT}(h:WDW X e t):WDT X e t:=⟨PDW.pt h.h⟩
def jt{g d:XG}{f k:Int->Int->Bool}(l:OpR X (XI g) (rI0 λi j=>.bl (f i j)))(e:OpR X (XI d) (rI0 λi j=>.bl (k i j)))(ha:WD X a ta)(hb:WD X b tb)(hc:WD X c tc)(hm:WI [g,d] [b,c]=false:=by with_unfolding_all rfl):WDT X (.Compare a [g,d] [b,c] pos) (dZ (tCh f k ta tb tc)):=⟨Dl.jt (uK l e ha.h hb.h hc.h hm) tG⟩
def wty{x:Str}{T:String}(hg:Gl X x)(hm:X.mg x=none)(hv:Z3 x=some (.type T))(hn:x≠"__name__":=by decide)(hd:zB x:=by decide):WC X (.Name x ps) (.ty T):=⟨pP hg hm hv rfl hn hd⟩
def bI{i:Nat}{x:Str}{e:YE}{b:DE}{a pos:Pos}(rg:Option Nat)(hN:X.N.Nodup)(hi:X.N[i]?=some x)(d:Loc X.env.scope x)(he:WD X e b)(hs:XV e (some (.Name x a)) pos.line X.env=pure false:=by rfl)(c:zL X x:=by first|exact .inl rfl|exact .inr rfl|assumption) :
  WDS X (.Assign [.Name x a] e pos) (GK i rg b):=⟨Dl.bI rg (Fq hN hi d he.h hs c)⟩
def eZ(rg:Option Nat)(own:List Str){i:Nat}{y:Str}{e a:Pos}(hc:X.calm=true)(hN:X.N.Nodup)(b:X.N[i]?=some y)(j:Loc X.env.scope y)(hi:WDI X tg iter ti)(hg:∀c,WDG (X.comp own scope c) tg g)(ht:∀c,WDTs (X.comp own scope c) ifs tt)(he:∀c,WD (X.comp own scope c) elt te)(d:XV (.ListComp elt [⟨tg,iter,ifs,0⟩] scope pos) (some (.Name y e)) a.line X.env=pure true:=by rfl)(hk:iK X.env scope X.N=true:=by rfl)(hs:zF X iter:=by intro _;rfl)(f:zL X y:=by first|exact .inl rfl|exact .inr rfl|assumption) :
  WDS X (.Assign [.Name y e] (.ListComp elt [⟨tg,iter,ifs,0⟩] scope pos) a) (GK i rg (dLC ⇑own ti g tt te)):=⟨Dl.bI rg (Vz own hc hN b j hi.h (λc=>(hg c).h) (λc=>(ht c).h) (λc=>(he c).h) d hk hs f)⟩
def qx(r:Nat)(own:List Str){i j:Nat}{y z:Str}{g a b f:Pos}(hc:X.calm=true)(hN:X.N.Nodup)(d:X.N[i]?=some y)(l:Loc X.env.scope y)(hi:WDI X (.Name z b) iter ti)(hg:∀c,WDG (X.comp own scope c) (.Name z b) (gNm j))(e:XV (.ListComp (.List [] f) [⟨.Name z b,iter,[],0⟩] scope pos) (some (.Name y g)) a.line X.env=pure true:=by rfl)(hk:iK X.env scope X.N=true:=by rfl)(hs:zF X iter:=by intro _;rfl)(k:zL X y:=by first|exact .inl rfl|exact .inr rfl|assumption) :
  WDS X (.Assign [.Name y g] (.ListComp (.List [] f) [⟨.Name z b,iter,[],0⟩] scope pos) a) (Qf i r ti):=⟨Dl.qx r (Mh own hc hN d l hi.h (λc=>(hg c).h) (λc=>dJ) (λc=>kh aW) e hk hs k)⟩
def Ar{i:Nat}{x:Str}{es:List YE}{t:DA}{a pos c:Pos}(r:Nat)(b:Bool)(hN:X.N.Nodup)(hi:X.N[i]?=some x)(e:Loc X.env.scope x)(he:WDA X es t)(hs:XV (.List es c) (some (.Name x a)) pos.line X.env=pure false:=by rfl)(d:zL X x:=by first|exact .inl rfl|exact .inr rfl|assumption) :
  WDS X (.Assign [.Name x a] (.List es c) pos) (UL i r b t):=⟨Dl.Ar r b (Fq hN hi e (kh he.h) hs d)⟩
def GF{a e:YE}{b:DE}{g:DG}(he:WD X e b)(hg:WDG X a g)(hs:X0 [a] e pos.line X.env=pure false:=by rfl)(c:X1 [a] e X.env=pure none:=by rfl)(h1:(XX [a] X.env).map (·.2)=[XW a X.env]:=by rfl):WDS X (.Assign [a] e pos) (aae b g):=⟨Dl.GF (yQ he.h hg.h hs c h1)⟩
def gY{i:Nat}{x:Str}{e:YE}{es:List YE}{b a g pos:Pos}(hv:WV X (.Name x g) i)(ha:WDA X (e::es) (aX te eF))(d:UK (.Name x g) "append" X.env (YN (.Name x g) X.env)=YN (.Name x g) X.env:=by rfl)(j:zW X a (e::es):=by rfl)(f:(b.endLine==a.line)=true:=by rfl)(hst:zS X e es:=by rfl)(c:zP X a es:=by rfl)(hs:XV (.Call (.Attribute (.Name x g) "append" b) (e::es) [] a) none pos.line X.env=pure false:=by rfl) :
  WDS X (.Expr (.Call (.Attribute (.Name x g) "append" b) (e::es) [] a) pos) (Tn i te):=⟨Dl.gY (bY (iy û Ľ ļ fJ hv.h ha.h d j f hst c) hs)⟩
def dB{i:Nat}{x:Str}{e:YE}{es:List YE}{b a g pos:Pos}(hv:WV X (.Name x g) i)(ha:WDA X (e::es) (aX te eF))(d:UK (.Name x g) "extend" X.env (YN (.Name x g) X.env)=YN (.Name x g) X.env:=by rfl)(j:zW X a (e::es):=by rfl)(f:(b.endLine==a.line)=true:=by rfl)(hst:zS X e es:=by rfl)(c:zP X a es:=by rfl)(hs:XV (.Call (.Attribute (.Name x g) "extend" b) (e::es) [] a) none pos.line X.env=pure false:=by rfl) :
  WDS X (.Expr (.Call (.Attribute (.Name x g) "extend" b) (e::es) [] a) pos) (Tj i te):=⟨Dl.dB (bY (iy û ŭ Ŭ jA hv.h ha.h d j f hst c) hs)⟩
def Ax{i:Nat}{x:Str}{e:YE}{es:List YE}{b a g pos:Pos}(hv:WV X (.Name x g) i)(ha:WDA X (e::es) (aX te eF))(d:UK (.Name x g) "append" X.env (YN (.Name x g) X.env)=YN (.Name x g) X.env:=by rfl)(j:zW X a (e::es):=by rfl)(f:(b.endLine==a.line)=true:=by rfl)(hst:zS X e es:=by rfl)(c:zP X a es:=by rfl)(hs:XV (.Call (.Attribute (.Name x g) "append" b) (e::es) [] a) none pos.line X.env=pure false:=by rfl) :
  WDS X (.Expr (.Call (.Attribute (.Name x g) "append" b) (e::es) [] a) pos) (Qk i te):=⟨Dl.Ax (bY (iy û Ľ ļ fJ hv.h ha.h d j f hst c) hs)⟩
def nC{i:Nat}{x:Str}{e d:YE}{es:List YE}{b a j sp pos:Pos}(hv:WV X (.Name x j) i)(m:WD X d tj)(ha:WDA X (e::es) (aX te eF))(l:nM d:=by exact λ_ _=>rfl)(f:UK (.Subscript (.Name x j) d sp) "append" X.env (YN (.Subscript (.Name x j) d sp) X.env)=YN (.Subscript (.Name x j) d sp) X.env:=by rfl)(k:zW X a (e::es):=by rfl)(g:(b.endLine==a.line)=true:=by rfl)(hst:zS X e es:=by rfl)(c:zP X a es:=by rfl)(hs:XV (.Call (.Attribute (.Subscript (.Name x j) d sp) "append" b) (e::es) [] a) none pos.line X.env=pure false:=by rfl) :
  WDS X (.Expr (.Call (.Attribute (.Subscript (.Name x j) d sp) "append" b) (e::es) [] a) pos) (Bc i tj te):=⟨Dl.nC (bY (iy û Ľ ļ fJ (gD dh hv.h m.h l) ha.h f k g hst c) hs)⟩
def nF{i:Nat}{x:Str}{b e:YE}{c a pos:Pos}(hu:X.A.units+64<WN)(hv:WV X (.Name x c) i)(hk:WD X b tk)(he:WD X e tv)(hs:XV e (some (.Subscript (.Name x c) b a)) pos.line X.env=pure false:=by rfl) :
  WDS X (.Assign [.Subscript (.Name x c) b a] e pos) (Qg i tk tv):=⟨Dl.nF (Ri (hu1 hu) hv.h hk.h he.h hs)⟩
def aO{i:Nat}{x:Str}(hN:X.N.Nodup)(hi:X.N[i]?=some x)(b:Loc X.env.scope x)(a:zL X x:=by first|exact .inl rfl|exact .inr rfl|assumption):WDG X (.Name x pos) (gNm i):=⟨Dl.aO (HB hN hi b a)⟩
def aG{i:Int}{j:Nat}:WD X (.Constant (.int i) j pos) (tK (.int i)):=⟨Dl.aG ⟩
def gb{i:Bool}{j:Nat}:WD X (.Constant (.bool i) j pos) (tK (.bool i)):=⟨Dl.gb ⟩
def FN{j:Nat}:WD X (.Constant .none j pos) (tK .none):=⟨Dl.FN ⟩
def eG{x:Str}{j:Nat}:WD X (.Constant (.str x) j pos) (tK (.str x)):=⟨Dl.eG ⟩
def bG{e:YE}{t:DE}(h:WD X e t)(he:∀whole,Xs e X.env whole=(do let v ←whole;standAt e.pos;holding [v] (XT v)):=by intro _;rfl):WDT X e (dZ t):=⟨Dl.bG (h:=h.h) (he:=he)⟩
def cF{t:DT}(ha:WDT X a t):WDT X (.UnaryOp .Not a pos) (aac t):=⟨Dl.cF (ha:=ha.h)⟩
def kE(ha:WDT X a t):WDW X (.BoolOp .And [a] pos) t:=⟨Dl.kE (ha:=ha.h)⟩
def gG(ha:WDT X a t):WDW X (.BoolOp .Or [a] pos) t:=⟨Dl.gG (ha:=ha.h)⟩
def pQ{rest:List YE}(ha:WDT X a t)(hb:WDW X (.BoolOp .And (b::rest) pos) u):WDW X (.BoolOp .And (a::b::rest) pos) (Tp t u):=⟨Dl.pQ (ha:=ha.h) (hb:=hb.h)⟩
def jc{rest:List YE}(ha:WDT X a t)(hb:WDW X (.BoolOp .Or (b::rest) pos) u):WDW X (.BoolOp .Or (a::b::rest) pos) (dOr t u):=⟨Dl.jc (ha:=ha.h) (hb:=hb.h)⟩
def ak :WDA X [] eF:=⟨Dl.ak ⟩
def aj(ha:WD X e te)(hr:WDA X es t)(hs:zS X e es:=by rfl):WDA X (e::es) (aX te t):=⟨Dl.aj (ha:=ha.h) (hr:=hr.h) (hs:=hs)⟩
def cY(h:WDA X es t):WD X (.List es pos) (La t):=⟨Dl.cY (h:=h.h)⟩
def dH{x1}(h:WDA X es t):WD X (.Tuple es x1 pos) (yu t):=⟨Dl.dH (h:=h.h)⟩
def cV(ha:WD X a ta)(hb:WD X b tb):WD X (.BinOp a .Sub b pos) (t2 (gI0 λi j=>.int (i - j)) ta tb):=⟨Dl.cV (ha:=ha.h) (hb:=hb.h)⟩
def MP(ha:WD X a ta)(hb:WD X b tb):WD X (.Compare a [.LtE] [b] pos) (t2 (gI0 λi j=>.bool (decide (i<=j))) ta tb):=⟨Dl.MP (ha:=ha.h) (hb:=hb.h)⟩
def M5(ha:WD X a ta)(hb:WD X b tb):WD X (.Compare a [.GtE] [b] pos) (t2 (gI0 λi j=>.bool (decide (j<=i))) ta tb):=⟨Dl.M5 (ha:=ha.h) (hb:=hb.h)⟩
def uQ(ha:WD X a ta)(hb:WD X b tb):WDT X (.Compare a [.Lt] [b] pos) (dZ (t2 (gI0 λi j=>.bool (decide (i<j))) ta tb)):=⟨Dl.uQ (ha:=ha.h) (hb:=hb.h)⟩
def iz(ha:WD X a ta)(hb:WD X b tb):WDT X (.Compare a [.Gt] [b] pos) (dZ (t2 (gI0 λi j=>.bool (decide (j<i))) ta tb)):=⟨Dl.iz (ha:=ha.h) (hb:=hb.h)⟩
def Fz(ha:WD X a ta)(hb:WD X b tb):WDT X (.Compare a [.GtE] [b] pos) (dZ (t2 (gI0 λi j=>.bool (decide (j<=i))) ta tb)):=⟨Dl.Fz (ha:=ha.h) (hb:=hb.h)⟩
def dR{ps:Pos}(hm:X.mg "len"=none)(ha:WDA X [a] t)(hg:Gl X "len":=by rfl)(he:zS X a []:=by rfl)(hpl:zP X pos []:=by rfl):WD X (.Call (.Name "len" ps) [a] [] pos) (tCl S5 t):=⟨Dl.dR (hm:=hm) (ha:=ha.h) (hg:=hg) (he:=he) (hpl:=hpl)⟩
def jh :WDSs X [] vV:=⟨Dl.jh ⟩
def aL{st:XB}{rest:List XB}(h1:WDS X st t)(h2:WDSs X rest u):WDSs X (st::rest) (Bb t u):=⟨Dl.aL (h1:=h1.h) (h2:=h2.h)⟩
def aM{st:XB}(h1:WDS X st t):WDSs X [st] t:=⟨Dl.aM (h1:=h1.h)⟩
def qy{st:XB}:WDS X st (λ_ _=>False):=⟨Dl.qy ⟩
def bw(he:WD X e te):WDS X (.Return (some e) pos) (Bd te):=⟨Dl.bw (he:=he.h)⟩
def oK{c:YE}{a b:List XB}{d:DT}(hc:WDT X c d)(ha:WDSs X a t)(hb:WDSs X b u):WDS X (.If c a b pos) (dIf d t u):=⟨Dl.oK (hc:=hc.h) (ha:=ha.h) (hb:=hb.h)⟩
def tW(he:WD X e te)(hs:XV e none pos.line X.env=pure false:=by rfl):WDS X (.Expr e pos) (UW te):=⟨Dl.tW (he:=he.h) (hs:=hs)⟩
def dD :WDGs X [] O6:=⟨Dl.dD ⟩
def lZ{g:DG}{a:DGs}(h1:WDG X e g)(h2:WDGs X es a)(hs:(XX (e::es) X.env).map (·.2)=XW e X.env::(XX es X.env).map (·.2):=by rfl):WDGs X (e::es) (vL g a):=⟨Dl.lZ (h1:=h1.h) (h2:=h2.h) (hs:=hs)⟩
def fQ{a:DGs}{k n:Nat}(hc:X.calm=true)(h:WDGs X es a)(hn:⇑(XX es X.env)=n:=by rfl)(hst:(XX es X.env).findIdx? (·.1)=none:=by rfl):WDG X (.Tuple es k pos) (gTp n a):=⟨Dl.fQ (hc:=hc) (h:=h.h) (hn:=hn) (hst:=hst)⟩
def dU(hl:WD X l tl):WDI X tg l (iSq tl):=⟨Dl.dU (hl:=hl.h)⟩
def bK{a:YE}{ps:Pos}(hm:X.mg "range"=none)(ha:WDA X [a] ta)(hg:Gl X "range":=by rfl)(hs:YI [a] X.env=[(false,YN a X.env)]:=by rfl):WDI X tg (.Call (.Name "range" ps) [a] [] pos) (iR1 ta):=⟨Dl.bK (hm:=hm) (ha:=ha.h) (hg:=hg) (hs:=hs)⟩
def Az{b:List YE}{kk:Nat}{c:Pos}{a:YE}{ps:Pos}(hm:X.mg "enumerate"=none)(ha:WDA X [a] ta)(hg:Gl X "enumerate":=by rfl)(hs:YI [a] X.env=[(false,YN a X.env)]:=by rfl):WDI X (.Tuple b kk c) (.Call (.Name "enumerate" ps) [a] [] pos) (iEn ta):=⟨Dl.Az (hm:=hm) (ha:=ha.h) (hg:=hg) (hs:=hs)⟩
def ji{a:List XB}(hp:X9 (model X.prog X.w) X.A X.env X.xe)(hc:X.calm=true)(hi:WDI X tg iter ti)(hg:WDG X tg g)(hb:WDSs X a tb)(hs:zF X iter:=by intro _;rfl):WDS X (.For tg iter a [] pos) (Xn ti g tb):=⟨Dl.ji (hp:=hp) (hc:=hc) (hi:=hi.h) (hg:=hg.h) (hb:=hb.h) (hs:=hs)⟩
def lY{a:List XB}{c:YE}{b:DT}(hp:X9 (model X.prog X.w) X.A X.env X.xe)(hc:WDT X c b)(hb:WDSs X a tb):WDS X (.While c a [] pos) (GJ b tb):=⟨Dl.lY (hp:=hp) (hc:=hc.h) (hb:=hb.h)⟩
def dJ{X:Cx}:WDTs X [] (λ_ P=>P true):=⟨Dl.dJ ⟩
def gP{X:Cx}{c:YE}{t:DT}(hc:WDT X c t):WDTs X [c] t:=⟨Dl.gP (hc:=hc.h)⟩
def iR(own:List Str)(hc:X.calm=true)(hi:WDI X tg iter ti)(hg:∀c,WDG (X.comp own scope c) tg g)(ht:∀c,WDTs (X.comp own scope c) ifs tt)(he:∀c,WD (X.comp own scope c) elt te)(hk:iK X.env scope X.N=true:=by rfl)(hs:zF X iter:=by intro _;rfl):WD X (.ListComp elt [⟨tg,iter,ifs,0⟩] scope pos) (dLC ⇑own ti g tt te):=⟨Dl.iR (own:=own) (hc:=hc) (hi:=hi.h) (hg:=λc=>(hg c).h) (ht:=λc=>(ht c).h) (he:=λc=>(he c).h) (hk:=hk) (hs:=hs)⟩
def uU(own M:List Str)(hc:X.calm=true)(hi:WDI X tg iter ti)(hg:∀c,WDG (X.bf own M scope c) tg g)(ht:∀c,WDTs (X.bf own M scope c) ifs tt)(he:∀c,WD (X.bf own M scope c) elt te)(hk:aZ X.env scope X.N M=true:=by decide +kernel)(hs:zF X iter:=by intro _;rfl):WD X (.ListComp elt [⟨tg,iter,ifs,0⟩] scope pos) (dLC ⇑own ti g tt te):=⟨Dl.uU (own:=own) (M:=M) (hc:=hc) (hi:=hi.h) (hg:=λc=>(hg c).h) (ht:=λc=>(ht c).h) (he:=λc=>(he c).h) (hk:=hk) (hs:=hs)⟩
def jK{op}(h:WD X a ta):WD X (.BoolOp op [a] pos) ta:=⟨Dl.jK (h:=h.h)⟩
def je{rest:List YE}(ha:WD X a ta)(hb:WD X (.BoolOp .And (b::rest) pos) tb):WD X (.BoolOp .And (a::b::rest) pos) (Hi ta tb):=⟨Dl.je (ha:=ha.h) (hb:=hb.h)⟩
def jw{u:DT}(hc:WDT X c u)(ha:WD X a ta)(hb:WD X b tb):WD X (.IfExp c a b pos) (Vl u ta tb):=⟨Dl.jw (hc:=hc.h) (ha:=ha.h) (hb:=hb.h)⟩
def kJ{ps:Pos}(hc:X.calm=true)(hm:X.mg "all"=none)(hv:Z3 "all"=some (.builtin "all"))(ha:WDA X [a] t)(hg:Gl X "all":=by rfl)(he:zS X a []:=by rfl)(hpl:zP X pos []:=by rfl):WD X (.Call (.Name "all" ps) [a] [] pos) (tCl W6 t):=⟨Dl.kJ (hc:=hc) (hm:=hm) (hv:=hv) (ha:=ha.h) (hg:=hg) (he:=he) (hpl:=hpl)⟩
def jL{ps:Pos}(hc:X.calm=true)(hm:X.mg "max"=none)(ha:WDA X [a,b] t)(hg:Gl X "max":=by rfl)(he:YI [a,b] X.env=(false,YN a X.env)::YI [b] X.env:=by rfl)(hpl:(YO pos (YI [b] X.env)).any (·.1)=false:=by rfl):WD X (.Call (.Name "max" ps) [a,b] [] pos) (tCl (gMM λi j=>if j > i then j else i) t):=⟨Dl.jL (hc:=hc) (hm:=hm) (ha:=ha.h) (hg:=hg) (he:=he) (hpl:=hpl)⟩
def sZ{ps:Pos}(hm:X.mg "list"=none)(ha:WDA X [a] t)(hg:Gl X "list":=by rfl)(he:zS X a []:=by rfl)(hpl:zP X pos []:=by rfl):WD X (.Call (.Name "list" ps) [a] [] pos) (tCl SQ t):=⟨Dl.sZ (hm:=hm) (ha:=ha.h) (hg:=hg) (he:=he) (hpl:=hpl)⟩
def gJ{ps:Pos}(hm:X.mg "tuple"=none)(ha:WDA X [a] t)(hg:Gl X "tuple":=by rfl)(he:zS X a []:=by rfl)(hpl:zP X pos []:=by rfl):WD X (.Call (.Name "tuple" ps) [a] [] pos) (tCl Il t):=⟨Dl.gJ (hm:=hm) (ha:=ha.h) (hg:=hg) (he:=he) (hpl:=hpl)⟩
def pR{ps:Pos}(hm:X.mg "sorted"=none)(ha:WDA X [a] t)(hg:Gl X "sorted":=by rfl)(he:zS X a []:=by rfl)(hpl:zP X pos []:=by rfl):WD X (.Call (.Name "sorted" ps) [a] [] pos) (tCl vM t):=⟨Dl.pR (hm:=hm) (ha:=ha.h) (hg:=hg) (he:=he) (hpl:=hpl)⟩
def iB{ps:Pos}(hm:X.mg "sorted"=none)(ha:WDA X [a] t)(hg:Gl X "sorted":=by rfl)(he:zS X a []:=by rfl)(hpl:zP X pos []:=by rfl):WD X (.Call (.Name "sorted" ps) [a] [] pos) (tCl Gu t):=⟨Dl.iB (hm:=hm) (ha:=ha.h) (hg:=hg) (he:=he) (hpl:=hpl)⟩
def Cu(hu:X.A.units+64<WN)(ha:WD X a ta)(hb:WD X b tb)(hm:XN .In b=false:=by rfl):WD X (.Compare a [.In] [b] pos) (t2 (gIn false) ta tb):=⟨Dl.Cu (hu:=hu) (ha:=ha.h) (hb:=hb.h) (hm:=hm)⟩
def uT(hu:X.A.units+64<WN)(ha:WD X a ta)(hb:WD X b tb)(hm:XN .NotIn b=false:=by rfl):WD X (.Compare a [.NotIn] [b] pos) (t2 (gIn true) ta tb):=⟨Dl.uT (hu:=hu) (ha:=ha.h) (hb:=hb.h) (hm:=hm)⟩
def fD(hu:X.A.units+64<WN)(ha:WD X a ta)(hb:WD X b tb)(hm:XN .In b=false:=by rfl):WDT X (.Compare a [.In] [b] pos) (dZ (t2 (gIn false) ta tb)):=⟨Dl.fD (hu:=hu) (ha:=ha.h) (hb:=hb.h) (hm:=hm)⟩
def qQ(hu:X.A.units+64<WN)(ha:WD X a ta)(hb:WD X b tb)(hm:XN .NotIn b=false:=by rfl):WDT X (.Compare a [.NotIn] [b] pos) (dZ (t2 (gIn true) ta tb)):=⟨Dl.qQ (hu:=hu) (ha:=ha.h) (hb:=hb.h) (hm:=hm)⟩
def nG :WDO X none NZ:=⟨Dl.nG ⟩
def fX(h:WD X e te):WDO X (some e) (NT te):=⟨Dl.fX (h:=h.h)⟩
def oU(ha:WD X a ta):WD X (.UnaryOp .USub a pos) (Vj ta):=⟨Dl.oU (ha:=ha.h)⟩
def dc{f:fE}(C:Cal X.prog X.w X.K X.mg X.gy k x ps (spD f))(hr:Room j X.A)(ha:WDA X (e::es) t)(hk:k<=j:=by decide)(hg:Gl X x:=by rfl)(hdb:zB x:=by decide)(he:zS X e es:=by rfl)(hpl:zP X pos es:=by rfl):WD X (.Call (.Name x p) (e::es) [] pos) (tFn f t):=⟨Dl.dc (C:=C) (hr:=hr) (ha:=ha.h) (hk:=hk) (hg:=hg) (hdb:=hdb) (he:=he) (hpl:=hpl)⟩
def dcP{C:Pn->Prop}{i:Nat}{f:fE}{y:Str}{a:Pos}(CC:Cal X.prog X.w X.K X.mg X.gy k x ps (spP C f))(hr:Room j X.A)(hi:WV X (.Name y a) i)(ha:WDA X es t)(hk:k<=j:=by decide)(hg:Gl X x:=by rfl)(hdb:zB x:=by decide)(he:YI (.Name y a::es) X.env=(false,YN (.Name y a) X.env)::YI es X.env:=by rfl)(hpl:zP X pos es:=by rfl):WD X (.Call (.Name x p) (.Name y a::es) [] pos) (Lb C f i t):=⟨Dl.dcP (CC:=CC) (hr:=hr) (hi:=hi.h) (ha:=ha.h) (hk:=hk) (hg:=hg) (hdb:=hdb) (he:=he) (hpl:=hpl)⟩
def dv(i:Nat){x:Str}{pos:Pos}(hN:X.N[i]?=some x:=by rfl)(hv:Vis X.env.scope x:=by first|exact đ rfl|exact Or.inr (đ rfl)|exact Or.inr (Or.inr rfl))(hd:zB x:=by decide)(hcd:(x==("__classdict__":Str))=false:=by decide):WD X (.Name x pos) (tV i):=⟨Dl.dv (i:=i) (hN:=hN) (hv:=hv) (hd:=hd) (hcd:=hcd)⟩
def M4(ha:WD X a ta)(hb:WD X b tb)(hs:nM b:=by exact λ_ _=>rfl):WD X (.Subscript a b pos) (t2 gIx ta tb):=⟨Dl.M4 (ha:=ha.h) (hb:=hb.h) (hs:=hs)⟩
def yV(ha:WD X a ta)(hb:WD X b tb):WD X (.BinOp a .Add b pos) (t2 Pa ta tb):=⟨Dl.yV (ha:=ha.h) (hb:=hb.h)⟩
def ju(ha:WD X a ta)(hb:WD X b tb):WD X (.BinOp a .Mult b pos) (t2 O8 ta tb):=⟨Dl.ju (ha:=ha.h) (hb:=hb.h)⟩
def yZ(hu:X.A.units+64<WN)(ha:WD X a ta)(hb:WD X b tb):WD X (.Compare a [.Eq] [b] pos) (t2 (nU false) ta tb):=⟨Dl.yZ (hu:=hu) (ha:=ha.h) (hb:=hb.h)⟩
def yW(hu:X.A.units+64<WN)(ha:WD X a ta)(hb:WD X b tb):WD X (.Compare a [.NotEq] [b] pos) (t2 (nU true) ta tb):=⟨Dl.yW (hu:=hu) (ha:=ha.h) (hb:=hb.h)⟩
def fV(hu:X.A.units+64<WN)(ha:WD X a ta)(hb:WD X b tb):WDT X (.Compare a [.Eq] [b] pos) (dZ (t2 (nU false) ta tb)):=⟨Dl.fV (hu:=hu) (ha:=ha.h) (hb:=hb.h)⟩
def fU(hu:X.A.units+64<WN)(ha:WD X a ta)(hb:WD X b tb):WDT X (.Compare a [.NotEq] [b] pos) (dZ (t2 (nU true) ta tb)):=⟨Dl.fU (hu:=hu) (ha:=ha.h) (hb:=hb.h)⟩
def Aw{rest:List XB}(i:Nat)(h:WDSs X rest t):WDSs X rest (Xm i t):=⟨Dl.Aw (i:=i) (h:=h.h)⟩
def Qa{rest:List XB}(i:Nat)(b:Bool)(h:WDSs X rest t):WDSs X rest (dSp i b t):=⟨Dl.Qa (i:=i) (b:=b) (h:=h.h)⟩
def vQ{rest:List XB}(js:fR)(h:WDSs X rest t):WDSs X rest (rE js t):=⟨Dl.vQ (js:=js) (h:=h.h)⟩
def pU :WD X (.Dict [] [] pos) (λ_ P=>P .new (.dict [])):=⟨Dl.pU ⟩
def oV{ps b:Pos}(hc:X.calm=true)(hml:X.mg "list"=none)(hmr:X.mg "range"=none)(ha:WDA X [a] t)(hgl:Gl X "list":=by rfl)(hgr:Gl X "range":=by rfl)(he:zS X a []:=by rfl)(hpl:(YO pos' (YI [] X.env)).any (·.1)=false:=by rfl)(he2:YI [.Call (.Name "range" b) [a] [] pos'] X.env=(false,YN (.Call (.Name "range" b) [a] [] pos') X.env)::YI [] X.env:=by rfl)(hpl2:zP X pos []:=by rfl):WD X (.Call (.Name "list" ps) [.Call (.Name "range" b) [a] [] pos'] [] pos) (Yc t):=⟨Dl.oV (hc:=hc) (hml:=hml) (hmr:=hmr) (ha:=ha.h) (hgl:=hgl) (hgr:=hgr) (he:=he) (hpl:=hpl) (he2:=he2) (hpl2:=hpl2)⟩
def Cr{lo hi:Option YE}{b a:DO}(he:WD X e te)(hl:WDO X lo b)(hh:WDO X hi a):WD X (.Subscript e (.Slice lo hi none p2) pos) (X3 te b a):=⟨Dl.Cr (he:=he.h) (hl:=hl.h) (hh:=hh.h)⟩
def uV(ha:WD X a ta)(hb:WD X b tb):WD X (.Dict [some a] [b] pos) (tD1 ta tb):=⟨Dl.uV (ha:=ha.h) (hb:=hb.h)⟩
def mW(hu:X.A.units+64<WN)(ha:WD X a ta)(hb:WD X b tb)(hm:XN .In b=false:=by rfl):WDT X (.Compare a [.In] [b] pos) (dZ (t2 (DN false) ta tb)):=⟨Dl.mW (hu:=hu) (ha:=ha.h) (hb:=hb.h) (hm:=hm)⟩
def dN(hu:X.A.units+64<WN)(ha:WD X a ta)(hb:WD X b tb)(hm:XN .NotIn b=false:=by rfl):WDT X (.Compare a [.NotIn] [b] pos) (dZ (t2 (DN true) ta tb)):=⟨Dl.dN (hu:=hu) (ha:=ha.h) (hb:=hb.h) (hm:=hm)⟩
def mX(hu:X.A.units+64<WN)(ha:WD X a ta)(hb:WD X b tb)(hs:Tv b:=by exact λ_ _=>rfl):WD X (.Subscript a b pos) (t2 Pb ta tb):=⟨Dl.mX (hu:=hu) (ha:=ha.h) (hb:=hb.h) (hs:=hs)⟩
def yS(h:WD X e te)(he:∀whole,Xs e X.env whole=(do let v ←whole;standAt e.pos;holding [v] (XT v)):=by intro _;rfl):WDT X e (XR te):=⟨Dl.yS (h:=h.h) (he:=he)⟩
def yX{ps:Pos}(hc:X.calm=true)(hm:X.mg "min"=none)(ha:WDA X [a] t)(hg:Gl X "min":=by rfl)(he:zS X a []:=by rfl)(hpl:zP X pos []:=by rfl):WD X (.Call (.Name "min" ps) [a] [] pos) (tCl (W5 (λi j=>if j<i then j else i) (λM a=>M<=a)) t):=⟨Dl.yX (hc:=hc) (hm:=hm) (ha:=ha.h) (hg:=hg) (he:=he) (hpl:=hpl)⟩
def yU{ps:Pos}(hc:X.calm=true)(hm:X.mg "sum"=none)(ha:WDA X [a] t)(hg:Gl X "sum":=by rfl)(he:zS X a []:=by rfl)(hpl:zP X pos []:=by rfl):WD X (.Call (.Name "sum" ps) [a] [] pos) (tCl O9 t):=⟨Dl.yU (hc:=hc) (hm:=hm) (ha:=ha.h) (hg:=hg) (he:=he) (hpl:=hpl)⟩
end
section
def cZ[Gr]{T:String}{x:Str}{e:YE}{b:DE}{ps a pos:Pos}(hk:∀t:Value,(t=.type "NoneType"\/t=.type "bool"\/t=.type "int"\/t=.type "str"\/t=.type "list"\/t=.type "tuple"\/t=.type "dict")->∃n,t=.type n/\W.kitOne X.K t (.type T)=some (n==T || (T=="int"&&n=="bool")))(hm:X.mg "isinstance"=none)(he:WD X e b)(c:WC X (.Name x a) (.ty T))(hg:Gl X "isinstance":=by rfl)(h1:YI [e,.Name x a] X.env=(false,YN e X.env)::YI [.Name x a] X.env:=by rfl)(h2:YI [.Name x a] X.env=(false,YN (.Name x a) X.env)::YI [] X.env:=by rfl)(hpl:(YO pos (YI [.Name x a] X.env)).any (·.1)=false:=by rfl) :
  WD X (.Call (.Name "isinstance" ps) [e,.Name x a] [] pos) (tIs T b):=⟨Dl.cZ hk hm he.h c.h hg h1 h2 hpl⟩
end
end Wr
set_option autoImplicit false
set_option autoImplicit true
namespace Wr
open L2 Dl
section
variable [Gr] {X:Cx}{tj te:DE}
def vU{b:List YE}{kk:Nat}{c pos:Pos}{a:YE}{ps:Pos}(hm:X.mg "enumerate"=none)(ha:WDA X [a] ta)(hg:Gl X "enumerate":=by rfl)(hs:YI [a] X.env=[(false,YN a X.env)]:=by rfl):WDI X (.Tuple b kk c) (.Call (.Name "enumerate" ps) [a] [] pos) (Zq ta):=⟨Dl.vU hm ha.h hg hs⟩
end
section
variable [Gr] {X:Cx}{tj te te1 te2 ta:DE}{t:DS}
end
end Wr
namespace Dl
open L2
variable{X:Cx}
section
variable{pins:fF}{σ:L2.St}{H:Hp}{s:Shared}{ok ok':Addr->Prop}
mutual
theorem Rp.oF(f:∀a o,ok a->((∀xs,o≠.tup xs)/\¬Fxd o)->H a=some o->ok' a):∀{v:V}{d:D},Rp ok H v d->Rp ok' H v d
 |_,_,.non=>.non
 |_,_,.bl b=>.bl b
 |_,_,.int i=>.int i
 |_,_,.str x=>.str x
 |_,_,.lst o h r=>.lst (f _ _ o ⟨(λ_ z=>by cases z),λ⟨_,_,z⟩=>by cases z⟩ h) h (Rps.oF f r)
 |_,_,.tup h r=>.tup h (Rps.oF f r)
 |_,_,.dct o h r=>.dct (f _ _ o ⟨(λ_ z=>by cases z),λ⟨_,_,z⟩=>by cases z⟩ h) h (Rkv.oF f r)
theorem Rps.oF(f:∀a o,ok a->((∀xs,o≠.tup xs)/\¬Fxd o)->H a=some o->ok' a):∀{v:List V}{d:gg},Rps ok H v d->Rps ok' H v d
 |_,_,.nil=>.nil
 |_,_,.cons h r=>.cons (Rp.oF f h) (Rps.oF f r)
theorem Rkv.oF(f:∀a o,ok a->((∀xs,o≠.tup xs)/\¬Fxd o)->H a=some o->ok' a):∀{v:List (Key×V)}{d:List (D×D)},Rkv ok H v d->Rkv ok' H v d
 |_,_,.nil=>.nil
 |_,_,.cons h r=>.cons (Rp.oF f h) (Rkv.oF f r)
end
end
section
variable{pos:Pos}{a e:YE}{te:DE}{t:DA} [Gr]
end
def spR(f:fE):Sp:=λvs H Q _=>∃ok ds P,Rps ok H vs ds/\f ds P/\∀d v H',P d->Same H H'->Rp (λa=>ok a\/H a=none) H' v d->Q v H'
def Ad{f:fE}{n:Nat}(hn:∀ds P,f ds P->⇑ds=n:=by intro _ _ h;repeat (first|(let⟨rfl,_⟩:=h;rfl)|let⟨_,h⟩:=h)):∀vs H Q E,spR f vs H Q E->⇑vs=n:=λvs H Q E h=>by
 let⟨ok,ds,P,r,t,_⟩:=h;rw[⇑r];exact hn ds P t
section
variable [Gr]
abbrev DR:=(D->Prop)->List Sl->Prop
structure WishR(p:Pn)(own:Addr->Option Nat)(H:Hp)(P:D->Prop)(Q:Ends):Prop where
 rt:∀d v H',P d->p.PI H'->(∀b o,H b=some o->¬p.fp b->own b=none->H' b=some o)->Rp (λa=>¬p.fp a) H' v d->Q.rt v H'
def Uq(t:DR):TS:=λQ σ H=>∃p H0 own ρ P,EnvD p H0 own σ H ρ/\t P ρ/\WishR p own H P Q
structure WR(X:Cx)(ss:List XB)(t:DR):Prop where
 h:PSs X ss (Uq t)
def YC(a:DE):DR:=λP ρ=>a ρ λ_ d=>P d
def YB(t:DS)(u:DR):DR:=λP ρ=>t { nx:=u P,rt:=λ_=>False } ρ
variable{pos:Pos}{e:YE}{te:DE}{st:XB}{rest:List XB}{t:DS}{u:DR}
def Fl(he:Wr.WD X e te):WR X [.Return (some e) pos] (YC te):=⟨PSs.wk' (bW (iZ he.h)) (by
 rintro Q σ H ⟨p,c,own,ρ,P,E,t,w⟩;exact⟨p,c,own,ρ,_,E,t,λk d v H' h A r=>w.rt d v H' h A.pen (λb o e n _=>A.kp b o e n) (r.mono (λa o=>jP A o) (λ_ _ _ e=>e) λ_ _ e=>e)⟩)⟩
def yI(h1:Wr.WDS X st t)(h2:WR X rest u):WR X (st::rest) (YB t u):=⟨PSs.wk' (uL h1.h h2.h) (by
 rintro Q σ H ⟨p,a,own,ρ,P,E,t,w⟩;refine⟨p,a,own,ρ,_,E,t,⟨λo s h r e g n=>⟨p,a,o,r,P,e,n,⟨λd v H' hP hI hk rp=>w.rt d v H' hP hI (λb ob e1 n1 o1=>?_) rp⟩⟩,λ_ _ _ n=>n.elim,λ_ _ _ _ _ _ n=>n.elim,λ_ _ _ _ _ _ n=>n.elim⟩⟩;let⟨c,f⟩:=g.keep b ob e1 n1 o1;exact hk b ob c n1 f)⟩
def Gz{f:fE}{T:DR}{N:List Str}{vs:List V}{H:Hp}{Q:VK}{E:XK}(h:spR f vs H Q E)(j:∀ds P,f ds P->∃ρ,ds.map bJ++Ë (⇑N - ⇑ds) .any=ρ/\T P ρ)(g:∀p,Gr.G p H:=by intro _;trivial):Uq T { nx:=λ_ H'=>Q .non H',rt:=Q } (L2.start N vs) H:=by
 let⟨ok,ds,P,r,t,q⟩:=h;let⟨ρ,e,b⟩:=j ds P t
 let p:Pn:=⟨λa=>¬ok a/\∃o,H a=some o/\(∀xs,o≠.tup xs)/\¬Fxd o,λH'=>∀b o,¬ok b->H b=some o->((∀xs,o≠.tup xs)/\¬Fxd o)->H' b=some o,.non,
  λH1 H2 h1 h2 b o n i c=>h2 b o (.inl ⟨n,o,i,c⟩) (h1 b o n i c),λH1 b h1 ⟨n,o,i,c⟩=>⟨o,h1 b o n i c,c⟩⟩
 have E:=jE (p:=p) (N:=N) (g p) (λb o _ e _=>e) (r.mono (ok':=λa=>¬p.fp a) (λa o z=>z.1 o) (λ_ _ _ e=>e) λ_ _ e=>e);rw[⇑r]at E;rw[e]at E;refine⟨p,H,λ_=>none,_,_,E,b,⟨λd v H' hP hI hk rp=>?_⟩⟩;have m:Same H H':=λb o e=>by
  by_cases k:p.fp b
  ·let⟨n,o',i,c⟩:=k;rw[e]at i;cases i;exact hI b o n e c
  ·exact hk b o e k rfl
 refine q d v H' hP m (rp.oF λa o n1 n2 i=>?_);cases l:H a with
 |none=>exact .inr rfl
 |some o' =>
  have c:=m a o' l;rw[i]at c;cases c;exact .inl (ù λz=>n1 ⟨z,o,l,n2⟩)
def aaB(f:fE)(t:DA):DE:=λρ P=>t ρ λks=>(ks.all λk=>k.1.le .shr)=true/\f (ks.map (·.2)) λd=>P (norm .shr d) d
theorem Ht{p:Pn}{a b H c:Hp}{own:Addr->Option Nat}(A:At p a own b H):∀{vs:List V}{ks:List (Kd×D)},RpK p a own b c vs ks->(ks.all λk=>k.1.le .shr)=true->Rps (okK p a own b .shr) c vs (ks.map (·.2))
 |_,_,.nil,_=>.nil
 |_,_,.cons h t,q=>by
  rw[List.all_cons,Ü]at q;exact .cons (nZ A q.1 h) (Ht A t q.2)
variable{k j:Nat}{x:Str}{ps:List Str}{es:List YE}{ta:DA}{p:Pos}
def dcR{f:fE}(C:Cal X.prog X.w X.K X.mg X.gy k x ps (spR f))(hr:Room j X.A)(ha:Wr.WDA X (e::es) ta)(hk:k<=j:=by decide)(hg:Gl X x:=by rfl)(hdb:zB x:=by decide)(he:zS X e es:=by rfl)(hpl:zP X pos es:=by rfl) :
  Wr.WD X (.Call (.Name x p) (e::es) [] pos) (aaB f ta):=⟨PE.wk (pcS C hr ha.h hk hg hdb he hpl) (by
 rintro σ H Q ⟨p,c,own,ρ,P,E,t,q⟩;refine⟨p,c,own,ρ,_,E,t,λks vs H1 h A r=>?_⟩;show spR f (vs++[]) H1 Q E0;rw[í];refine⟨_,ks.map (·.2),_,Ht A r h.1,h.2,λd v H' h2 s r2=>?_⟩;have g:Kp p H1 H':=Kp.of s;refine q _ d v H' h2 (A.go g (p.mono H1 H' A.pen λb o _ e=>s b o e)) (aR ?_);refine r2.mono (λa o=>?_) (λ_ _ _ e=>e) λ_ _ e=>e;rcases o with o|o
 ·exact o
 ·exact cQ A (j:=.new) (k:=.shr) rfl (A.free o))⟩
end
end Dl
namespace Wr
open L2 Dl
variable [Gr] {X:Cx}{pos:Pos}{a:YE}{t:DA}
end Wr
namespace Dl
open L2
variable [Gr]
section
variable{X:Cx}{pos:Pos}{st:XB}{rest:List XB}{t u:DS}{te tj t1 t2:DE}
def rC(t u:DS):DS:=λP ρ=>∃M:List Sl->Prop,t { P with nx:=M } ρ/\∀ρ',M ρ'->u P ρ'
def Rps.erase{ok:Addr->Prop}{H:Hp}{vs:List V}{ds:gg}(m:Nat)(r:Rps ok H vs ds):Rps ok H (vs.eraseIdx m) (ds.eraseIdx m):=by
 rw[List.eraseIdx_eq_take_drop_succ,List.eraseIdx_eq_take_drop_succ];exact(r.take _).app (r.drop _)
end
end Dl
namespace Wr
open L2 Dl
section
variable [Gr] {X:Cx}{tj te t1 t2:DE}{t u:DS}
end
end Wr
set_option autoImplicit false
namespace L2
open PySem.Spec
section
variable{X:Cx}{k:Nat}{f CF:Addr}{fd:WS}{ps:List Str}{sp:Sp}{E:XK}{x hx n:Str}{p np cpos epos hpos pos:Pos}{e:YE}{es:List YE}{t:TA}{b₀:XB}{suite:List XB}{ts:TS}{j:Nat}
end
end L2
namespace Dl
open L2
section
variable [Gr] {X:Cx}{pos:Pos}{a:YE}{t:DA}
def boot_str:Z3 "str"=some (.type "str"):=⋯
end
end Dl
namespace Wr
open L2 Dl
section
variable [Gr] {X:Cx}{pos:Pos}{a:YE}{t:DA}
end
end Wr
namespace Dl
open L2
structure Ext(p q:Pn):Prop where
 pv:q.pv=p.pv
 fp:∀a,p.fp a->q.fp a
 pi:∀H,q.PI H->p.PI H
 go:∀H H',q.PI H->Kp p H H'->p.PI H'->q.PI H'
def CE(C:Pn->Prop)(q:Pn):Prop:=∃p,C p/\Ext p q
section
variable [Gr]
variable{X:Cx}{pos:Pos}{c:YE}{a rest:List XB}{tc:DT}{t u:DR}
variable{k j i:Nat}{x y:Str}{ps:List Str}{es:List YE}{ta:DA}{pp py:Pos}
end
end Dl
namespace L2
open PySem.Spec Builtin
section
variable{X:Cx}
end
end L2
namespace Dl
open L2
section
variable [Gr]
variable{X:Cx}{pos:Pos}{a b e:YE}{ta tb te:DE}{p1 p2 p3:Pos}
end
end Dl
namespace Wr
open L2 Dl
section
variable [Gr] {X:Cx}{pos:Pos}{a b e:YE}{ta tb te:DE}{p1 p2 p3:Pos}
end
end Wr
namespace L2
open PySem.Spec Builtin
section
variable{X:Cx}
end
end L2
namespace Dl
open L2
section
variable [Gr] {X:Cx}{pos p2:Pos}{a b e:YE}{t:DA}{ta tb te:DE}
end
end Dl
namespace Wr
open L2 Dl
section
variable [Gr] {X:Cx}{pos p2:Pos}{a b e:YE}{t:DA}{ta tb te:DE}
end
end Wr
namespace Dl
open L2
variable{X:Cx}
variable [Gr]
section
variable{st st2:XB}{rest:List XB}{te1 te2:DE}{tt:DT}{tr:TS}{t:DS}
end
section
variable{own:List Str}{scope:YA}{tg iter elt:YE}{ifs:List YE}{pos:Pos}{g:DG}{tt:DT}{te:DE}
end
end Dl
namespace Wr
open L2 Dl
variable [Gr]
section
variable{X:Cx}{te1 te2:DE}{tt:DT}{tr:TS}{t:DS}
end
end Wr
namespace PySem
open PySem.W PySem.Spec
section
variable{prog:Zg}{w:Zl}{A:Ys}{E:fA}{s:Shared}{it l:Addr}{items:fS}
end
end PySem
namespace L2
open PySem.Spec
section
variable{X:Cx}
end
end L2
namespace Dl
open L2
section
variable [Gr] {X:Cx}{a:YE}{t:DA}
end
end Dl
namespace Wr
open L2 Dl
section
variable [Gr] {X:Cx}{a:YE}{t:DA}
end
end Wr
namespace L2
section
variable{X:Cx}{pins:fF}{σ:List (Option V)}{H:Hp}{s:Shared}
end
end L2
namespace Dl
open L2
variable [Gr]
section
variable{X:Cx}{pos pos':Pos}{a:YE}{t:DA}
end
end Dl
namespace Wr
open L2 Dl
section
variable [Gr] {X:Cx}{pos pos':Pos}{a:YE}{t:DA}
end
end Wr
namespace L2
open PySem.Spec
open PySem.AutoSeq1 (wpAny_loadPart')
open PySem.MeetsSeq PySem.MeetsSeq3
def Gm:fM->fM->Bool
 |[],[]=>false
 |[],_::_=>true
 |_::_,[]=>false
 |x::a,y::b=>if x=y then Gm a b else decide (x<y)
def lex_nil(b:fM):Gm [] b=decide (0<⇑b):=by cases b <;> rfl
theorem ints_get:∀{vs:fT}{ns:fM},IntsAre vs ns->∀{i:Nat}{x:Int},ns[i]?=some x->∃t,vs[i]?=some (.int x t)
 |_,_,.nil,i,x,e=>by simp at e
 |_,_,.cons y t r,0,x,e=>by
  have e:some y=some x:=e;cases e;exact⟨t,rfl⟩
 |_,_,.cons y t r,i+1,x,e=>by
  let⟨t',h⟩:=ints_get r (i:=i) (x:=x) ↑e;exact⟨t',↑h⟩
def Ib{items:fS}{ns:fM}(h:IntsAre items.toList ns){i:Nat}{x:Int}(a:ns[i]?=some x):∃t,items[(~~~i).toNat]?=some (.int x t):=by
 let⟨t,e⟩:=ints_get h a;exact⟨t,↑e⟩
def R3(l b:Addr)(items a:fS)(n I:Nat)(D o:gc)(K r:Array gf)(ns c:fM)(h1:IntsAre items.toList ns)(h2:IntsAre a.toList c)(k:Nat) :
  ∀i:Nat,i<=⇑ns->i<=⇑c->⇑ns - i=k->Meets (Builtin.«list.__eq__.loop» ⟨[.ref l,.ref b,WA i,WA 0],[]⟩)
   (λ_ R s=>s.heap.get? l=some { cls:=.type "list",dict:=D,data:=.seq items n,slots:=K }/\s.heap.get? b=some { cls:=.type "list",dict:=o,data:=.seq a I,slots:=r } /\
    R (.ok (.ret (.bool (Gm (ns.drop i) (c.drop i))))) s):=by
 have L:items.size=⇑ns:=by have:=⇑h1;simpa using this
 have M:a.size=⇑c:=by have:=⇑h2;simpa using this
 induction k with
 |zero =>
  intro i G H hk prog w A R s h;let⟨hp,g,d,tk,J⟩:=s;let⟨hl,hb,h⟩:=h
  wp_walk using Ģ hl,Ģ hb
  have p:items[(~~~i).toNat]?=none:=by simp;lia
  rw[p];have hd:ns.drop i=[]:=List.drop_eq_nil_of_le ();rw[hd,lex_nil]at h
  wp_walk using Ģ hl,Ģ hb
  show R (.ok (.ret (.bool (decide (items.size<a.size))))) _;have e:decide (items.size<a.size)=decide (0<⇑(c.drop i)):=by
   rw[Ď];exact decide_eq_decide.mpr ()
  rw[e];exact h
 |succ k ih =>
  intro i G H hk prog w A R s h;let⟨hp,g,d,tk,J⟩:=s;let⟨hl,hb,h⟩:=h
  wp_walk using Ģ hl,Ģ hb
  have m:i<⇑ns:=()
  have B:=Å m;have E:ns.drop i=ns[i]::ns.drop (i+1):=œ m;rw[E]at h;generalize ns[i]=x at B h;let⟨t,v⟩:=Ib h1 B;rw[v];by_cases f:i<⇑c
  ·have C:=Å f;have F:c.drop i=c[i]::c.drop (i+1):=œ f;rw[F]at h;generalize c[i]=y at C h;let⟨u,z⟩:=Ib h2 C;rw[z];have hc:((i:Int)+1)=(~~~(i+1)):=by push_cast;rfl
   have h:R (.ok (.ret (.bool (if x=y then Gm (ns.drop (i+1)) (c.drop (i+1))else decide (x<y))))) _:=h;refine Ã (ZT ?_);by_cases j:x=y
   ·subst j;rw[fo rfl]at h;rw[fw]
    wp_walk
    rw[hc];exact⟨ST plain_eq_loop _,ţ entry_eq_loop (by
     rw[Ř plain_eq_loop _];exact ih (i+1) () () () prog w A R _ ⟨hl,hb,h⟩)⟩
   ·rw[fq j]at h;rw[beq_eq_false_iff_ne.mpr j]
    wp_walk using Ģ hl,Ģ hb
    rw[v,z];refine Ã ?_;show wpAny _ _ (XI .Lt (.int x t) (.int y u)) _ _ _;exact PyProof.Rows.lt_int (Ú h)
  ·have q:a[(~~~i).toNat]?=none:=by simp;lia
   rw[q];have hd:c.drop i=[]:=List.drop_eq_nil_of_le ();rw[hd]at h;have h:R (.ok (.ret (.bool false))) _:=h
   wp_walk using Ģ hl,Ģ hb
   show R (.ok (.ret (.bool (decide (items.size<a.size))))) _;rw[fi ()];exact h
def R8(l b:Addr)(items a:fS)(n j:Nat)(i c:gc)(k e:Array gf)(ns f:fM)(h1:IntsAre items.toList ns)(h2:IntsAre a.toList f) :
  Meets (Builtin.«list.__lt__» ⟨[.ref l,.ref b],[]⟩)
   (λ_ R s=>s.heap.get? l=some { cls:=.type "list",dict:=i,data:=.seq items n,slots:=k }/\s.heap.get? b=some { cls:=.type "list",dict:=c,data:=.seq a j,slots:=e } /\
    R (.ok (.ret (.bool (Gm ns f)))) s):=by
 intro prog w A R s h;let⟨hp,g,d,tk,o⟩:=s;let⟨hl,hb,h⟩:=h;have m:=AutoSeq1.sub_list_list
 wp_walk using Ģ hl,Ģ hb
 exact⟨ST plain_eq_loop _,ţ entry_eq_loop (by
  rw[Ř plain_eq_loop _];exact R3 l b items a n j i c k e ns f h1 h2 _ 0 (ą _) (ą _) rfl prog w A R _ ⟨hl,hb,h⟩)⟩
def bC:Nat->fM->Int
 |0,_=>0
 |_+1,[]=>0
 |k+1,x::l=>(x+1) * 64 ^ k+bC k l
def qI(l:fM):Prop:=⇑l<=40/\∀x∈l,0<=x/\x<62
def jr(k:Nat):(0:Int)<64 ^ k:=Int.pow_pos ∅
theorem lO:∀(k:Nat)(l:fM),(∀x∈l,0<=x/\x<62)->0<=bC k l/\bC k l<64 ^ k
 |0,l,_=>⟨Ě _,by show(0:Int)<64 ^ 0;decide⟩
 |k+1,[],_=>⟨Ě _,jr _⟩
 |k+1,x::l,h=>by
  let⟨h1,h2⟩:=lO k l λy hy=>h y (Ç _ hy);have c:=h x Æ;have p:=jr k;have e:(64:Int) ^ (k+1)=64 ^ k * 64:=Int.pow_succ ..;show 0<=(x+1) * 64 ^ k+bC k l/\(x+1) * 64 ^ k+bC k l<64 ^ (k+1);rw[e];generalize (64:Int) ^ k=M at *;have a:0<=(x+1) * M:=Int.mul_nonneg () ();have b:(x+1) * M<=62 * M:=Int.mul_le_mul_of_nonneg_right () ();lia
theorem Dq:∀(k:Nat)(a b:fM),⇑a<=k->⇑b<=k->(∀x∈a,0<=x/\x<62)->(∀x∈b,0<=x/\x<62)->Gm a b=decide (bC k a<bC k b)
 |0,[],[],_,_,_,_=>rfl
 |k+1,[],[],_,_,_,_=>rfl
 |k+1,[],y::b,_,_,_,hb=>by
  have h1:=(lO k b λz hz=>hb z (Ç _ hz)).1;have j:=hb y Æ;have p:=jr k;have e:(0:Int)<(y+1) * 64 ^ k+bC k b:=by
   have:0<(y+1) * 64 ^ k:=Int.mul_pos () p;lia
  exact(gz e).symm
 |k+1,x::a,[],_,_,ha,_=>by
  have h1:=(lO k a λz hz=>ha z (Ç _ hz)).1;have i:=ha x Æ;have p:=jr k;have e:¬(x+1) * 64 ^ k+bC k a<0:=by
   have:0<(x+1) * 64 ^ k:=Int.mul_pos () p;lia
  exact(fi e).symm
 |k+1,x::a,y::b,la,lb,ha,hb=>by
  have g:=Dq k a b ↑la ↑lb (λz hz=>ha z (Ç _ hz)) λz hz=>hb z (Ç _ hz);have h1:=lO k a λz hz=>ha z (Ç _ hz);have h2:=lO k b λz hz=>hb z (Ç _ hz);have p:=jr k;show(if x=y then Gm a b else decide (x<y))=decide ((x+1) * 64 ^ k+bC k a<(y+1) * 64 ^ k+bC k b);generalize (64:Int) ^ k=M at *;by_cases e:x=y
  ·subst e;rw[fo rfl,g];exact decide_eq_decide.mpr ()
  ·rw[fq e];refine decide_eq_decide.mpr ⟨λh=>?_,λh=>?_⟩
   ·have d:(x+1+1) * M<=(y+1) * M:=Int.mul_le_mul_of_nonneg_right () ();have f:(x+1+1) * M=(x+1) * M+M:=by rw[Int.add_mul (x+1) 1 M,Int.one_mul]
    lia
   ·by_cases c:x<y
    ·exact c
    ·have d:(y+1+1) * M<=(x+1) * M:=Int.mul_le_mul_of_nonneg_right () ();have f:(y+1+1) * M=(y+1) * M+M:=by rw[Int.add_mul (y+1) 1 M,Int.one_mul]
     lia
 |0,_::_,_,h,_,_,_=>ft h (Nat.not_succ_le_zero _)
 |0,[],_::_,_,h,_,_=>ft h (Nat.not_succ_le_zero _)
def jX(h:Heap)(u:Value)(l:fM):Prop:=∃a o its n,u=.ref a/\h.get? a=some o/\o.cls=.type "list"/\o.data=.seq its n/\IntsAre its.toList l
def jX.keep{h h':Heap}{u:Value}{l:fM}(x:jX h u l)(k:∀a o,u=.ref a->h.get? a=some o->h'.get? a=some o):jX h' u l:=by
 let⟨a,o,its,n,e,b,hc,hd,hi⟩:=x;exact⟨a,o,its,n,e,k a o e b,hc,hd,hi⟩
def YL{α β:Type}{F G:α->β->Prop}{l₁:List α}{l₂:List β}(h:Paired F l₁ l₂)(f:∀a b,a∈l₁->F a b->G a b):Paired G l₁ l₂:=by
 induction h with
 |nil=>exact .nil
 |cons r t c=>exact .cons (f _ _ Æ r) (c λa b ha x=>f a b (Ç _ ha) x)
def YK{α β:Type}{F:α->β->Prop}{l₁:List α}{l₂:List β}(h:Paired F l₁ l₂):∀{a:α},a∈l₁->∃b,b∈l₂/\F a b:=by
 induction h with
 |nil=>intro a ha;cases ha
 |cons r t ih =>
  intro a ha;rcases Õ.mp ha with rfl|ha
  ·exact⟨_,Æ,r⟩
  ·let⟨b,hb,x⟩:=ih ha;exact⟨b,Ç _ hb,x⟩
section
variable{prog:Zg}{w:Zl}{A:Ys}{E:fA}{s:Shared}
def Gj{M:Y3}{b:fT}{ts:fI}(hp:Paired (jX s.heap) b ts)(v:Value)(hv:v∈b):W.Looks M s.heap (typeOf v) (.type "list"):=by
 let⟨l,_,a,o,its,n,rfl,c,hc,_⟩:=YK hp hv;exact W.kitAt_ty M _ ⟨o,c,hc⟩
def Oj{c:fT}{ts:fI}(hp:Paired (jX s.heap) c ts){u:Value}(hv:u∈c):u≠.ref (↥s+1):=by
 let⟨l,_,a,o,its,n,rfl,b,hc,_⟩:=YK hp hv;intro z;have z:a=↥s+1:=by injection z
 rw[z]at b;exact ft (Ó b) (Nat.not_lt.mpr (ĸ _))
def Oh{x y:Value}{a b:fM}{Q:Bool->Shared->Prop}(hu:A.units<WN)(q:jX s.heap x a)(r:jX s.heap y b)(i:qI a)(j:qI b)(h:Q (decide (bC 40 a<bC 40 b)) s):wpAny (model prog w) A (keyLt' Re x y) Q E s:=by
 let⟨p,⟨v,k,B,m⟩,its,n,rfl,f,hc,hd,hi⟩:=q;let⟨u,⟨z,l,C,o⟩,its',t,rfl,g,c,d,e⟩:=r;simp only at hc hd c d;subst hc hd c d;rw[←Dq 40 a b i.1 j.1 i.2 j.2]at h;rw[keyLt'_oneType,oneLt'_eq];simp only[if_true];refine Ã (wpAny_cRoomFor hu ?_);refine Ã (wpAny_callSpecialIfBound?_slot ⟨_,f,rfl⟩ PySem.F.slot_list_lt (UM PySem.F.slot_list_lt ⟨_,f,rfl⟩ PySem.F.entry_list_lt (PySem.F.args_list_lt_2 _ _) (R8 p u its its' n t k l m o a b hi e) ⟨f,g,?_⟩));exact ĭ h
def Fi{a:Addr}{c:fT}{ts:fI}{n:Nat}{P:PySem.Fin->Shared->Prop}(L:s.heap.get? a=some (TK "list" c.toArray n))(hp:Paired (jX s.heap) c ts)(U:∀u∈c,u≠.ref a)(hu:A.units<WN)(hn:∀t∈ts,qI t)(R:⇑c<64)(h:∀p:fR,p.Perm (Ø ⇑c)->(∀i j,i<=j->j<⇑c->bC 40 (ts.getD (p.getD i 0) [])<=bC 40 (ts.getD (p.getD j 0) [])) ->
   P (.done (.ret .none)) { s with heap:=sortedHeap s.heap a c (p.map λi=>c.getD i Ĕ).toArray }) :
  wpAny (model prog w) A (Builtin.«list.sort» ⟨[.ref a],[]⟩) P E s:=by
 have Y:=⇑hp;have h24:=õ;rw[TL];have ha:a<↥s:=Ó L;refine Ã (TM L rfl ?_);refine Ã (TN L rfl ?_ (by rw[Ñ,õ];lia) (ą _));obtain⟨M,B⟩:∃M,(s.heap.update a (æ λ_=>(#[]:fS))).get? a=some (TK "list" #[] M):=⟨_,TR L (λ_=>#[])⟩
 refine Ã (TU B rfl ?_);refine Ã (TW ?_ (by show ⇑c<=_;rw[õ];lia));refine Ã (TZ ?_ (ą _));refine ħ ?_;have d:(zHp s a c).get? a=some (TK "list" #[] M):=by
  rw[ī _ _ _ (by rw[Sa,Ĩ];exact å (ĕ ha)),ī _ _ _ (by rw[Ĩ];exact å ha)];exact B
 have J:∀b o,s.heap.get? b=some o->b≠a->(zHp s a c).get? b=some o:=λb o q hne=>by
  have y:b<↥s:=Ó q;rw[ī _ _ _ (by rw[Sa,Ĩ];exact å (ĕ y)),ī _ _ _ (by rw[Ĩ];exact å y),Heap.get?_update_ne _ _ _ _ hne];exact q
 show wpAny (model prog w) A _ P E { s with heap:=zHp s a c};dsimp only;have hsz:c.toArray.size=⇑c:=by simp
 have F:Paired (jX (zHp s a c)) c ts:=YL hp λu t hm x=>x.keep λb o ub q=>J b o q λz=>U u hm (by rw[ub,z]);by_cases h2:c.toArray.size<2
 ·rw[fo h2,fo h2];refine Ã (Ú ?_);rw[StateT.run_pure];refine Ã (Ú ?_);dsimp only;have l:(Ts (SortSt.mk' general' (c.toArray.zip c.toArray) #[] 7 none)).map (·.2)=((Ø ⇑c).map λi=>c.getD i Ĕ).toArray:=by
   rw[eO];show(c.toArray.zip c.toArray).map (·.2)=c.toArray;apply Array.toList_inj.mp;simp;exact Vs c
  rw[l];refine Ã (TU d rfl ?_);refine Ã (TN d rfl ?_ (ą _) (by rw[Ñ,À,ā,õ];lia));simp only[bne_self_eq_false,ķ,if_false];refine Ú (h _ (List.Perm.refl _) λi j hij hj=>?_);have:i=j:=()
  subst this;exact Ě _
 ·rw[fq h2,fq h2];have m:2<=⇑c:=()
  refine Ã (W.kas_kind (T:=.type "list") m (λv hv=>Gj (s:={ s with heap:=zHp s a c}) F v hv) rfl rfl ?_);have r:∀i j C,i<⇑c->j<⇑c->C (decide (bC 40 (ts.getD i [])<bC 40 (ts.getD j []))) { s with heap:=zHp s a c} ->
    W.kas_cmp prog w A (Re) (c.toArray.zip c.toArray) i j C { s with heap:=zHp s a c}:=λi j C hi hj hC=>by
   unfold W.kas_cmp;rw[W.kat_item rfl,W.kat_item rfl];have key:∀k,k<⇑c->jX (zHp s a c) (c.getD k Ĕ) (ts.getD k [])/\qI (ts.getD k []):=λk hk=>by
    have g:k<⇑ts:=()
    have Z:ts.getD k []=ts[k]:=by simp[g]
    let⟨u,eu,pu⟩:=VD F (i:=k) (b:=ts[k]) (by simp[g]);have O:c.getD k Ĕ=u:=by rw[Ò,eu];rfl
    rw[Z,O];exact⟨pu,hn _ (Ĥ g)⟩
   exact Oh hu (key i hi).1 (key j hj).1 (key i hi).2 (key j hj).2 hC
  have G:=W.kas_runs (prog:=prog) (w:=w) (A:=A) (E:=E) (κ:=Re) (it:=c.toArray.zip c.toArray) (n:=⇑c) (s:={ s with heap:=zHp s a c})
   (Q:=λ_ f K=>∃p:Array Nat,K={ s with heap:=zHp s a c}/\Ts f=p.map (W.kas_item (c.toArray.zip c.toArray))/\Tu f=none/\NfSort.Pm ⇑c p/\NfSort.Up (λi=>bC 40 (ts.getD i [])) p ⇑c)
   (G:=λp K=>K={ s with heap:=zHp s a c}/\NfSort.Pm ⇑c p/\NfSort.Up (λi=>bC 40 (ts.getD i [])) p ⇑c) m R (λp' f K a1 a2 a3 a4=>⟨p',a4.1,a2,a3,a4.2⟩)
   (NfSort.tH r (NfSort.bQ (λp hp=>⟨rfl,hp⟩) (NfSort.Hl ())))
  have N:SortSt.mk' (Re) (c.toArray.zip c.toArray) #[] 7 none=W.kas_st (Re) (c.toArray.zip c.toArray) (ř (Ø ⇑c)):=by
   have e:=W.kas_range (c.toArray.zip c.toArray);rw[show(c.toArray.zip c.toArray).size=⇑c by simp]at e;show SortSt.mk' (Re) (c.toArray.zip c.toArray) #[] 7 none=SortSt.mk' (Re) ((ř (Ø ⇑c)).map (W.kas_item (c.toArray.zip c.toArray))) #[] 7 none;rw[e]
  rw[N];refine Ã (Ŀ G ?_ λ_ _ e=>e);rintro⟨⟨⟩,f⟩ K ⟨p,rfl,S,hf,H,V⟩;dsimp only;have D:=W.kat_snds (ks:=c) (vs:=c) rfl S;rw[D];have I:p.size=⇑c:=H.size;refine Ã (TU d rfl ?_);refine Ã (TN d rfl ?_ (ą _) (by rw[Ñ,À,ō,I,õ];lia));rw[hf];simp only[bne_self_eq_false,ķ,if_false];refine Ú (h p.toList ?_ λi j hij hj=>?_)
  ·have:=Array.perm_iff_toList_perm.mp H;simpa using this
  ·have q:=V i j hij hj;unfold NfSort.kk at q;have X:∀k,p.toList.getD k 0=p.getD k 0:=λk=>by
    rw[NfSort.getD_eq,Ò];simp
   rw[X,X];exact q
def yF{l:Addr}{c:fT}{ts:fI}{Q:fA}(hl:s.heap.IsList l c.toArray\/IsTup s.heap l c.toArray)(hu:A.units+8<WN)(hp:Paired (jX s.heap) c ts)(hn:∀t∈ts,qI t)(k:⇑c<64)(h:∀p:fR,p.Perm (Ø ⇑c)->(∀i j,i<=j->j<⇑c->bC 40 (ts.getD (p.getD i 0) [])<=bC 40 (ts.getD (p.getD j 0) [])) ->
   Q (.ref (↥s+1)) { s with heap:=sortedAll s.heap c (p.map λi=>c.getD i Ĕ).toArray }) :
  wpAny (model prog w) A (WF (.builtin "sorted") [.ref l]) Q E s:=by
 have r:=õ;refine Calls.call_function_entry kind_sorted plain_sorted entry_sorted (args_sorted1 _) ?_;unfold Builtin.«sorted»;refine Ã (m:=checkCount "sorted" 1 1 _) (Ú ?_);have hsz:((s.heap.push (TK "list" #[] 0)).update ↥s (æ (·++c.toArray))).objs.size=↥s+1:=by
  rw[Ĩ,Sa]
 have f:(((s.heap.push (TK "list" #[] 0)).update ↥s (æ (·++c.toArray))).push (TK "list" c.toArray 0)).get? (↥s+1)=some (TK "list" c.toArray 0):=by
  rw[←hsz];exact ä _ rfl
 have g:∀b o,s.heap.get? b=some o->(((s.heap.push (TK "list" #[] 0)).update ↥s (æ (·++c.toArray))).push (TK "list" c.toArray 0)).get? b=some o:=λb o q=>by
  have d:b<↥s:=Ó q;rw[ī _ _ _ (by rw[hsz];exact å (ĕ d)),Heap.get?_update_ne _ _ _ _ (å d),ī _ _ _ (å d)];exact q
 have n:∀{Q':fT->Shared->Prop},Q' c { s with heap:=(s.heap.push (TK "list" #[] 0)).update ↥s (æ (·++c.toArray))}->wpAny (model prog w) A.in1 (Sb (.ref l)) Q' (λe s'=>E e s') s:=λ{Q'} hq=>by
  rcases hl with hl|hl
  ·exact collect_list hl hq ()
  ·exact mq hl hq ()
 refine Ã (n ?_);refine Ã (TZ ?_ ());show wpAny _ _ _ _ _ { s with heap:=((s.heap.push (TK "list" #[] 0)).update ↥s (æ (·++c.toArray))).push (TK "list" c.toArray 0)};rw[hsz];refine Ã (ħ (Ļ Sc ⟨_,f,rfl⟩ Se (Fi f (Paired.Gh hp λu t x=>x.keep λa o _ e=>g a o e) (λu hm=>Oj hp hm) (by simp only[Around.in1_units];lia) hn k λp a1 a2=>⟨_,rfl,?_⟩) (Sf _)));exact Ú ⟨_,rfl,h p a1 a2⟩
end
section
variable{X:Cx}
def yD{ts:fI}{p:fR}(hp:p.Perm (Ø ⇑ts))(h:∀i j,i<=j->j<⇑ts->bC 40 (ts.getD (p.getD i 0) [])<=bC 40 (ts.getD (p.getD j 0) [])) :
  (p.map λi=>ts.getD i []).Perm ts/\(p.map λi=>ts.getD i []).Pairwise (λa b=>bC 40 a<=bC 40 b):=by
 refine⟨?_,?_⟩
 ·have q:=hp.map λi=>ts.getD i [];rw[eO]at q;exact q
 ·have hl:⇑p=⇑ts:=↑hp.length_eq
  rw[Ū];intro i j hi c f;rw[À]at hi c;have q:=h i j () ();have d:p.getD i 0=p[i]:=by simp[hi]
  have e:p.getD j 0=p[j]:=by simp[c]
  rw[d,e]at q;simpa using q
def Bh(hu:X.A.units+64<WN):bU X (.builtin "sorted") (λxs H Q=>∃(p:Addr)(vs:List V)(ts:fI)(F:V->fM->Prop),xs=[.ref p]/\SqL X.K H p vs/\Paired F vs ts/\(∀v l,F v l->∃a,v=.ref a/\H a=some (.lst (l.map V.int)))/\(∀t∈ts,qI t)/\⇑ts<64 /\
  ∀l ws us,H l=none->Paired F ws us->us.Perm ts->us.Pairwise (λa b=>bC 40 a<=bC 40 b)->Q (.ref l) (upd H l (.lst ws))):=by
 intro C s σ H xs us Q I r h;let⟨p,vs,ts,F,rfl,hp,d,G,hn,E,q⟩:=h;let⟨u,rfl,O⟩:=vals1 r;cases O;have D:=õ;have lists:∀{vs:List V}{ts:fI}{us:fT},Paired F vs ts->Vals vs us->Paired (jX s.heap) us ts:=by
  intro vs ts us h;induction h generalizing us with
  |nil=>intro r;cases r;exact .nil
  |cons x t ih =>
   intro r;cases r with
   |cons r1 r2 =>
    refine .cons ?_ (ih r2);let⟨a,rfl,ha⟩:=G _ _ x;cases r1;let⟨its,j,z,N⟩:=I.list (SqL.of ha);let⟨o,L,hc,n,hd⟩:=z.isList;exact⟨a,o,its.toArray,n,rfl,L,hc,hd,intsAre_of j⟩
 let⟨its,j,z,N⟩:=I.list hp;have m:=lists d j;have B:=⇑d;have k:=⇑j;refine yF (.inl z.isList) () m hn () λpp hpp hord=>?_;have f:⇑its=⇑ts:=()
 rw[f]at hpp hord;let⟨c,w⟩:=yD hpp hord;have g:∀i∈pp,i<⇑ts:=λi hi=>ò.mp (hpp.mem_iff.mp hi);have M:=Cp d V.non [] pp g;have y:Vals (pp.map λi=>vs.getD i V.non) (pp.map λi=>its.getD i Ĕ):=Cp j V.non Ĕ pp λi hi=>by have:=g i hi;lia
 let⟨e,he⟩:=sortedAll_at s.heap its (pp.map λi=>its.getD i Ĕ).toArray;refine⟨.ref (↥s+1),upd H (↥s+1) (.lst (pp.map λi=>vs.getD i V.non)),I.laid (t':=s.toks) (λb o eb=>Si eb) (ĸ _) ?_,rfl,q _ _ _ (I.hok.fresh (ĸ _)) M c w⟩;refine⟨?_,_,e,y,he⟩;have J:⇑pp=⇑ts:=↑hpp.length_eq
 rw[À];lia
end
end L2
namespace Dl
open L2
section
variable{X:Cx}{pos:Pos}{a:YE}{t:DA} [Gr]
def Aj:GC:=λks P=>match ks with
 |[(k,.list ds)]=>∃ls:fI,ds=ls.map iD/\⇑ls<64/\(∀l∈ls,qI l)/\∀out:fI,out.Perm ls->out.Pairwise (λa b=>bC 40 a<=bC 40 b)->P (k.join .new) (.list (out.map iD))
 |_=>False
theorem BZ{ok:Addr->Prop}{H:Hp}:∀{vs:List V}{b:fI},Rps ok H vs (b.map iD)->Paired (λv l=>Rp ok H v (iD l)) vs b
 |[],[],_=>.nil
 |_,l::b,.cons h r=>.cons h (BZ r)
theorem Cy{ok:Addr->Prop}{H:Hp}:∀{vs:List V}{b:fI},Paired (λv l=>Rp ok H v (iD l)) vs b->Rps ok H vs (b.map iD)
 |_,_,.nil=>.nil
 |_,_,.cons h r=>.cons h (Cy r)
def uR{ps:Pos}(hu:X.A.units+64<WN)(hm:X.mg "sorted"=none)(ha:PDA X [a] t)(hg:Gl X "sorted":=by rfl)(he:zS X a []:=by rfl)(hpl:zP X pos []:=by rfl):PD X (.Call (.Name "sorted" ps) [a] [] pos) (tCl Aj t) :=
 eN (Bh hu) (by
  intro p f own g H vs ks P Q A r t q;unfold Aj at t;split at t
  ·rename_i k ds;let⟨n,rfl,hl,hn,t⟩:=t;let⟨v,rfl,u⟩:=gq r;let⟨x,xs,i,y,h1,c⟩:=Rp.bT u;subst i;refine⟨x,xs,n,λv l=>Rp (okK p f own g k) H v (iD l),rfl,SqL.of h1,BZ c,λv l h=>?_,hn,hl,λl ws us hl' hw hp hs=>?_⟩
   ·let⟨b,z,rfl,_,hb,w⟩:=Rp.bT h;have e:=Rps.ints w;subst e;exact⟨b,rfl,hb⟩
   ·let⟨d,m,s⟩:=A.new hl' (.lst ws);have j:=gK k .new;exact q _ _ _ _ (t us hp hs) d m (.lst (cQ A j.2 s) aq ((cO A d (Cy hw)).mono (λa o=>cQ A j.1 o) (λ_ _ _ e=>e) λ_ _ e=>e))
  ·exact t.elim) hg hm S0 ha ∅ ∅ he hpl
end
end Dl
namespace L2
open PySem.Spec
section
variable{prog:Zg}{w:Zl}{A:Ys}{E:fA}{s:Shared}
end
section
variable{X:Cx}
end
end L2
namespace Dl
open L2
section
variable{X:Cx}{pos:Pos}{a e:YE}{t:DA} [Gr]
end
end Dl
namespace L2
open PySem.Spec
open AutoSeq1 in
section
variable{X:Cx}
end
end L2
namespace Dl
open L2
variable [Gr]
section
variable{X:Cx}{st:XB}{te:DE}{pos:Pos}{ta:DA}
end
end Dl
namespace Wr
open L2 Dl
section
variable [Gr] {X:Cx}{pos:Pos}{a:YE}{ta t:DA}{te:DE}
def uR{ps:Pos}(hu:X.A.units+64<WN)(hm:X.mg "sorted"=none)(ha:WDA X [a] t)(hg:Gl X "sorted":=by rfl)(he:zS X a []:=by rfl)(hpl:zP X pos []:=by rfl):WD X (.Call (.Name "sorted" ps) [a] [] pos) (tCl Aj t):=⟨Dl.uR hu hm ha.h hg he hpl⟩
end
end Wr
namespace Dl
open L2
variable [Gr]
section
variable{X:Cx}{st st2:XB}{rest:List XB}{tj te1 te2:DE}{tt:DT}{t:DS}{K:Ý}
end
end Dl
namespace Wr
open L2 Dl
section
variable [Gr] {X:Cx}{tj te1 te2:DE}
end
end Wr
namespace L2
open PySem.Spec
variable{X:Cx}
structure LamScope(ps ys:List Str)(sc:YA)(cl:List (Str×Addr)):Prop where
 kind:sc.kind=.function
 co:sc.isCoroutine=false
 gen:sc.isGenerator=false
 nd:(ps++ys).Nodup
 par:∀x∈ps,sc.names.lookup x=some .local
 fre:∀y∈ys,sc.names.lookup y=some .free
 nocell:∀x∈sc.names,x.2≠.cell
 all:∀x,sc.names.lookup x=some .free->∃c,cl.lookup x=some c
 inj:∀x y c,cl.lookup x=some c->cl.lookup y=some c->x=y
def cxL(CX:CXT)(P:Zg)(w:Zl)(K:Ý)(mg:Str->gf)(gy:Heap)(N:List Str)(qual:Str)(scope:YA)(f:Addr)(cd:Value)(cl:List (Str×Addr))(A:Ys)(outer:List Env)(s:Shared)(H:Hp)(E:XK):Cx where
 prog:=P
 w:=w
 K:=K
 mg:=mg
 gy:=gy
 A:=A.deeper (W.envX qual scope ↥s f cd cl)
 N:=N
 s₀:=s
 H₀:=H
 env:=W.envX qual scope ↥s f cd cl
 outer:=outer
 stack:=W.envX qual scope ↥s f cd cl::outer
 ex:=[]
 calm:=true
 fn:=λ_=>false
 pn:=[]
 xe:=λe s'=>wpAny (model P w) (A.deeper (W.envX qual scope ↥s f cd cl)) (leaving (W.envX qual scope ↥s f cd cl) e) (λ_ s''=>CX outer H s E e s'') (λe' s''=>CX outer H s E e' s'') s'
structure Caps(gy:Heap)(cl:List (Str×Addr))(ys:List Str)(cvs:List V):Prop where
 len:⇑cvs=⇑ys
 cells:∀x c,cl.lookup x=some c->∃v,gy.IsCell c v
 val:∀(j:Nat)(y:Str)(v:V),ys[j]?=some y->cvs[j]?=some v->∃c u,cl.lookup y=some c/\gy.IsCell c (some u)/\RelV v u
def Gp{D:CXT}{P:Zg}{w:Zl}{K:Ý}{mg:Str->gf}{gy:Heap}{ps ys:List Str}{qual:Str}{d:YA}{f:Addr}{G:Value}{cl:List (Str×Addr)}{A:Ys}{g:List Env}{s:Shared}{h1:Heap}{tk:Nat}{H:Hp}{E:XK}{I:fT}{vs cvs:List V}(S:LamScope ps ys d cl)(hd:A.handled=none)(e0:Env0 P w K mg gy A g s H)(hl:⇑vs=⇑ps)(r:Vals vs I)(C:Caps gy cl ys cvs)(hn:h1.Ns ↥s (λx=>(ps.zip I).reverse.lookup x))(hk:∀b o,s.heap.get? b=some o->h1.get? b=some o) :
  Inv (cxL D P w K mg gy (ps++ys) qual d f G cl A g s H E) [] (start (ps++ys) (vs++cvs)) H { s with heap:=h1,toks:=tk }:=by
 have k:∀b:Addr,b∉(cxL D P w K mg gy (ps++ys) qual d f G cl A g s H E).ex:=λb z=>ft (show b∈([]:List Addr)from z) (by simp);have F:∀b o,gy.get? b=some o->h1.get? b=some o:=λb o e=>hk b o (e0.bs b o e).1;have m:∀x c,cl.lookup x=some c->H c=none:=λx c e=>by
  let⟨v,o,J,_⟩:=C.cells x c e;exact(e0.bs c o J).2
 refine⟨⟨e0.mod,S.kind,rfl,rfl,Ì _,S.inj,λy j=>?_,(λy c z _=>(nomatch z)),λ_=>hd,Around.frames_deeper e0.frames,.inr ⟨rfl,rfl⟩,λb z=>ft z (k b),e0.bs,e0.bsz,λb _ _=>k b,λb z=>ft z (k b),e0.nW,e0.frf,λq z=>nomatch (show q∈([]:List (Addr×Obj×HO))from z)⟩,
  rfl,e0.bare,Un.kept hk,⟨_,hn,λi y v h1 h2 h3=>?_⟩,λy c h=>?_,e0.hok.fresh (Ì _),λy c h=>m y c h,λp hp=>ft (show p∈([]:fF)from hp) (by simp),e0.hok.kept hk,?_⟩
 ·have j:d.names.lookup y=some .cell\/d.names.lookup y=some .free:=j;rcases j with j|j
  ·exact ft rfl (S.nocell _ (ď j))
  ·exact S.all y j
 ·have ha:(vs++cvs)[i]?=some v:=by
   unfold start at h2;by_cases hi:i<⇑(vs++cvs)
   ·rw[Ą ↑hi,Þ]at h2;cases e:(vs++cvs)[i]? with
    |none=>rw[e]at h2;cases h2
    |some a=>rw[e]at h2;cases h2;rfl
   ·rw[ó ↑hi]at h2;rw[ş]at h2;split at h2 <;> cases h2
  have h1:(ps++ys)[i]?=some y:=h1;by_cases hi:i<⇑ps
  ·rw[Ą ()]at h1 ha;let⟨u,hu,B⟩:=r.get ha;have t:ps.Nodup:=(List.nodup_append.mp S.nd).1;refine⟨u,B,.inl ⟨S.par y (Î h1),?_⟩⟩;have rl:∀(l:List (Str×Value))(x:Str)(u:Value),(l.map (·.1)).Nodup->(x,u)∈l->l.lookup x=some u:=λl x u=>by
    induction l with
    |nil=>intro _ z;cases z
    |cons p l ih =>
     intro n z;let⟨a,b⟩:=p;rw[é,ŀ]at n;rcases Õ.mp z with z|z
     ·cases z;rw[ē];simp
     ·have:x≠a:=λe=>n.1 (by rw[←e];exact è.mpr ⟨(x,u),z,rfl⟩);rw[ē,show(x==a)=false by simpa using this];exact ih n.2 z
   refine rl _ _ _ ?_ (List.mem_reverse.mpr ?_)
   ·rw[List.map_reverse,List.map_fst_zip (by rw[←⇑r,hl];exact Ì _)];exact List.pairwise_reverse.mpr (t.imp λh e=>h e.symm)
   ·exact Î (i:=i) (by rw[List.getElem?_zip_eq_some];exact⟨h1,hu⟩)
  ·rw[ó ()]at h1 ha;rw[hl]at ha;let⟨c,u,e,hc,B⟩:=C.val _ _ _ h1 ha;exact⟨u,B,.inr ⟨.inr (S.fre y (Î h1)),c,e,hc.keeps F⟩⟩
 ·let⟨v,hc⟩:=C.cells y c h;exact⟨v,hc.keeps F⟩
 ·unfold start;show _=⇑(ps++ys);rw[É,À,ė,É,É,C.len,hl];lia
def aaf(x:Obj)(qual:Str):Prop:=∃vs t,x.data=.fields vs/\vs[1]?=some (.str qual t)
def su(H:Hp)(a:Addr)(qual:Str):Prop:=∃x φ,H a=some (.frz x (.ext φ))/\aaf x qual
def Pj{B:CXT}{P:Zg}{w:Zl}{K:Ý}{mg:Str->gf}{gy:Heap}{k:Nat}{f i:Addr}{name qual:Str}{g:VM}{d:YE}{a:YA}{G l:Value}{cl:List (Str×Addr)}{ps ys:List Str}{cvs:List V}{sp:Sp}(N:gy.get? f=some (W.kla_obj name qual g d a cl G i l))(hcd:∀vs H Q E,sp vs H Q E->su H i qual)(S:LamScope ps ys a cl)(C:Caps gy cl ys cvs)(z:∀vs H Q E,sp vs H Q E->⇑vs=⇑ps)(j:∀(A:Ys)(c:List Env)(s:Shared)(H:Hp)(vs:List V)(Q:VK)(E:XK),Room k (A.deeper (W.envX qual a ↥s f (.ref i) cl))->sp vs H Q E ->
   ∃t,PE (cxL B P w K mg gy (ps++ys) qual a f (.ref i) cl A c s H E) d t/\t (start (ps++ys) (vs++cvs)) H Q) :
  FnOk P w K mg gy B (k+1) f (W.kla_fn name qual g d a cl G (.ref i) l) ps sp:=by
 refine⟨z,λA c s H args us vs Q E hr e0 hb r hsp=>?_⟩;have hl:=z _ _ _ _ hsp;have F:∀b o,gy.get? b=some o->s.heap.get? b=some o:=λb o e=>(e0.bs b o e).1;have D:s.heap.NoLimit:=e0.mod.nolimit.keeps F;have m:s.heap.CodeRec (.ref i) qual:=by
  let⟨x,φ,e,vs,t,h1,h2⟩:=hcd _ _ _ _ hsp;exact⟨i,x,vs,t,rfl,(e0.hok _ _ e).1,h1,h2⟩
 refine W.kla_callFunE hr.depth (F _ _ N) rfl S.co S.gen rfl m (hb _ _ _ _ ?_);have p:∀y∈ps.zip us,a.names.lookup y.1=some .local:=λ⟨n,v⟩ hy=>S.par n (List.of_mem_zip hy).1;refine wpAny_newFunctionEnv S.nocell p (λh₁ hns hsb=>?_) S.kind;have h:∀b o,s.heap.get? b=some o->h₁.get? b=some o:=λb o e=>hsb.extBut b o (å (Ó e)) (Ô _ e);refine⟨D.keeps h,?_⟩;show WZ _ _ (.expr d (W.envX qual a ↥s f (.ref i) cl)) _ _;let⟨t,ht,M⟩:=j A c s H vs Q E (hr.deeper _) hsp;have I:Inv (cxL B P w K mg gy (ps++ys) qual a f (.ref i) cl A c s H E) [] (start (ps++ys) (vs++cvs)) H { s with heap:=h₁,toks:=s.toks+⇑(ps.zip us) }:=Gp S hr.hd e0 hl r C hns h;refine W.kla_codeExpr (Ŀ (ht [] _ _ H _ I M) (λu s' hs=>?_) λe s' hs=>hs);let⟨v,L,J,O,q⟩:=hs;exact⟨v,L,J.os,J.bare,J.gy,J.hok,O,q⟩
def reb(gy h:Heap)(L:List Addr):Heap:=W.hideAll h ((Ø h.objs.size).filter λb=>(gy.get? b).isNone&&!decide (b∈L))
def yK{gy h:Heap}{L:List Addr}{b:Addr}:b∉((Ø h.objs.size).filter λb=>(gy.get? b).isNone&&!decide (b∈L))↔(h.objs.size<=b\/(∃o,gy.get? b=some o)\/b∈L):=by
 rw[â,ò,Ü,Option.isNone_iff_eq_none,ů,decide_eq_false_iff_not];constructor
 ·intro z;by_cases h1:b<h.objs.size
  ·cases e:gy.get? b with
   |some o=>exact .inr (.inl ⟨o,rfl⟩)
   |none =>
    by_cases h2:b∈L
    ·exact .inr (.inr h2)
    ·exact ft ⟨h1,e,h2⟩ z
  ·exact .inl (Nat.le_of_not_lt h1)
 ·rintro(z|⟨o,z⟩|z) ⟨a,b,c⟩
  ·exact ft a (Nat.not_lt.mpr z)
  ·rw[z]at b;cases b
  ·exact c z
def yL{gy h:Heap}{L:List Addr}{b:Addr}{o:Obj}(e:h.get? b=some o)(m:b∈L):(reb gy h L).get? b=some o:=W.hideAll_get _ e (yK.mpr (.inr (.inr m)))
def Ly{gy h:Heap}{L:List Addr}(a:∀b o,gy.get? b=some o->h.get? b=some o):∀b o,gy.get? b=some o->(reb gy h L).get? b=some o:=λb o e=>W.hideAll_get _ (a b o e) (yK.mpr (.inr (.inl ⟨o,e⟩)))
def NQ{gy h:Heap}{L:List Addr}{b:Addr}{o:Obj}(e:(reb gy h L).get? b=some o):h.get? b=some o/\((∃o,gy.get? b=some o)\/b∈L):=by
 have a:=W.of_hideAll _ e;refine⟨a,?_⟩;have n:b∉((Ø h.objs.size).filter λb=>(gy.get? b).isNone&&!decide (b∈L)):=λz=>by
  have:=W.hideAll_none (h:=h) _ z;rw[show(W.hideAll h ((Ø h.objs.size).filter λb=>(gy.get? b).isNone&&!decide (b∈L))).get? b=some o from e]at this;cases this
 exact(yK.mp n).resolve_left (λz=>ft (Ó a) (Nat.not_lt.mpr z))
def Mod.reb{K:Ý}{mg:Str->gf}{gy h:Heap}{L:List Addr}(m:Mod K mg gy)(a:∀b o,gy.get? b=some o->h.get? b=some o):Mod K mg (reb gy h L):=by
 have k:=Ly (L:=L) a;let⟨mb,hb,c⟩:=m.blt;exact⟨m.kin.keeps k,m.glob.keeps k,⟨mb,hb.keeps k,c⟩,m.nolimit.keeps k⟩
def Env0.reb{P:Zg}{w:Zl}{K:Ý}{mg:Str->gf}{gy:Heap}{A:Ys}{a:List Env}{s:Shared}{H:Hp}{L:List Addr}(e:Env0 P w K mg gy A a s H)(g:∀b∈L,H b=none)(c:∀b∈L,b∉frs a):Env0 P w K mg (reb gy s.heap L) A a s H:=by
 have f:∀b o,gy.get? b=some o->s.heap.get? b=some o:=λb o z=>(e.bs b o z).1;refine⟨e.frames,e.mod.reb f,λb o z=>?_,?_,?_,e.frf,e.hok,e.bare⟩
 ·let⟨h1,h2⟩:=NQ z;refine⟨h1,?_⟩;rcases h2 with⟨o',h2⟩|h2
  ·exact(e.bs b o' h2).2
  ·exact g b h2
 ·unfold L2.reb;rw[W.hideAll_size];exact Ì _
 ·have d:∀l:List Env,(∀b∈L,b∉frs l)->s.heap.FunFrames gy l->s.heap.FunFrames (L2.reb gy s.heap L) l:=by
   intro l;induction l with
   |nil=>intro _ _;trivial
   |cons env r ih =>
    intro hs hl;let⟨hk,⟨F,o,c,hn,h,hd⟩,hr⟩:=hl;refine⟨hk,⟨F,o,c,?_,h,hd⟩,ih (λb hb z=>hs b hb ?_) hr⟩
    ·cases q:(L2.reb gy s.heap L).get? F with
     |none=>rfl
     |some u =>
      let⟨_,h2⟩:=NQ q;rcases h2 with⟨o',h2⟩|h2
      ·rw[hn]at h2;cases h2
      ·exact ft (by unfold frs;rw[List.filterMap_cons,c];exact Æ) (hs F h2)
    ·unfold frs at z ⊢;rw[List.filterMap_cons,c];exact Ç _ z
  exact d a c e.nW
def Ld(i:Nat)(f:Addr)(sp:Sp)(E:XK)(t:TA):TE:=λσ H Q=>σ[i]?=some (some (.ref f))/\t σ H λvs H1=>sp vs H1 Q E
section
variable{CX:CXT}{k i:Nat}{f:Addr}{fd:WS}{ps:List Str}{sp:Sp}{E:XK}{x:Str}{p pos:Pos}{e:YE}{es:List YE}{t:TA}
def Mz(F:FnOk X.prog X.w X.K X.mg X.gy CX k f fd ps sp)(c:W.FnAt f X.gy)(hr:Room k X.A)(hb:Binds X.K fd ps [])(d:Passes CX X E)(hv:PE X (.Name x p) (iY i))(ha:PA X (e::es) t)(he:zS X e es:=by rfl)(hpl:zP X pos es:=by rfl) :
  PE X (.Call (.Name x p) (e::es) [] pos) (Ld i f sp E t):=by
 intro a s σ H Q I ⟨hi,h⟩;have b:∀{σ':St}{H':Hp}{s':Shared},Inv X a σ' H' s'->W.FnAt f s'.heap:=λ{σ' H' s'} I'=>by
  let⟨g,j,fd,l,e⟩:=c;exact⟨g,j,fd,l,I'.bk _ _ e⟩
 refine ŝ (thn (hv a s σ H (λv H'=>v=.ref f/\H'=H) I ⟨_,hi,rfl,rfl⟩) λu s1 ⟨v,H1,I1,rv,ev,eH⟩=>?_);subst ev;subst eH;obtain rfl:u=ģ f:=rv;refine W.callWith_F (b I1) (thn (ha pos a s1 σ H1 _ I1 h) λus s2 ⟨vs,H2,I2,r,q⟩=>⟨b I2,?_⟩) he hpl;exact Lq (dvs:=[]) (ds:=[]) F hr hb .nil d I2 r (by rw[í];exact q)
end
def oM(P:Addr)(pos:Pos)(qual:Str)(H:Hp):Prop:=∃ps,H P=some (.tbl ps)/\(ps=#[]\/∃c',ps=#[WA pos.line,WA pos.col,.ref c']/\su H c' qual)
def aah{h h':Heap}{L:Addr}{m:Str->gf}(x:h.Ns L m)(k:∀o,h.get? L=some o->h'.get? L=some o):h'.Ns L m:=by
 let⟨o,es,a,b,r⟩:=x;exact⟨o,es,a,k o b,r⟩
section
variable{pins:fF}{σ:St}{H:Hp}{s:Shared}{c P:Addr}{pos:Pos}{qual:Str}{params:VM}{body:YE}{scope:YA}{cl:List (Str×Addr)}{Q:fA}{E:fA}
def xH(I:Inv X pins σ H s)(hq:X.env.qual++"<lambda>"=qual)(G:Rl params X.env=([],[]))(F:UP scope X.env=pure cl)(i:X.env.code=.ref c)(N:X.K.In X.gy->W.CodeHd X.gy c P)(O:X.K.In X.gy->X.gy.BuiltinsAt X.mg P)(T:oM P pos qual H)(h:∀f c' ctv pm s' H',Inv X pins σ H' s'->oM P pos qual H'->su H' c' qual->H' f=none->s'.heap.get? f=some (W.kla_obj "<lambda>" qual params body scope cl pm c' ctv)->f∉frs X.stack->(∀b o,H b=some o->b≠P->H' b=some o) ->
   (∀b o,s.heap.get? b=some o->H b=none->s'.heap.get? b=some o/\H' b=none)->Q (.ref f) s') :
  wpAny (model X.prog X.w) X.A (YN (.Lambda params body scope pos) X.env) Q E s:=by
 have N:=N I.ok.mod.kin;have O:=O I.ok.mod.kin;let⟨ps,k,V⟩:=T;have v:s.heap.get? P=some (W.tabObj ps):=I.hok P _ k;have g:∀b,H b=none->b≠P:=λb e z=>by rw[z,k]at e;cases e
 have L:s.heap.Ns mainGlobals X.mg:=I.mod.glob.keeps I.bk;have R:mainGlobals≠P:=by
  let⟨o,_,_,S,_⟩:=I.mod.glob;exact g _ (I.bs _ _ S).2
 have C:s.heap.BuiltinsAt X.mg P:=by
  let⟨bm,o,h1,h2,h3,h4,h5,r⟩:=O;exact⟨bm,o,h1,h2,h3,h4,I.bk _ _ h5,r⟩
 have B:∀b,↥s<=b->b∉frs X.stack:=λb hb z=>by
  let⟨_,o,S,_⟩:=I.stack.mem z;exact ft (Ó S) (Nat.not_lt.mpr hb)
 refine W.kla_eval G ?_;rw[hq];rcases V with rfl|⟨c',rfl,M⟩
 ·refine W.kla_makeFunction (mg:=X.mg) F I.ok.glob L i (N.keeps I.bk) v (by trivial) (by rfl) R C λc' ctv h' tk hx hge hlt hrec htb=>?_;let⟨c₂,Y,vs,t,e2,U,hd,hv⟩:=hrec;cases e2;have d:∀b o,b≠P->s.heap.get? b=some o->(h'.push (W.kla_obj "<lambda>" qual params body scope cl ((X.mg "__name__").getD .none) c' ctv)).get? b=some o:=λb o n e=>Ô _ (hx b o n e);have D:H c'=none:=I.hok.fresh hge;have cP:c'≠P:=g c' D;have cS:∀b o,s.heap.get? b=some o->b≠c':=λb o e z=>by subst z;exact ft (Ó e) (Nat.not_lt.mpr hge)
  have p:(h'.push (W.kla_obj "<lambda>" qual params body scope cl ((X.mg "__name__").getD .none) c' ctv)).get? P=some (W.tabObj (#[]++#[WA pos.line,WA pos.col,.ref c'])):=Ô _ htb;have l:=Ô (W.kla_obj "<lambda>" qual params body scope cl ((X.mg "__name__").getD .none) c' ctv) U
  let H':Hp:=upd (upd H P (.tbl #[WA pos.line,WA pos.col,.ref c'])) c' (.frz Y (.ext λ_=>True))
  have j:∀b,b≠P->b≠c'->H' b=H b:=λb h1 h2=>by show upd _ _ _ b=_;rw[ao h2,ao h1]
  have Z:H' P=some (.tbl #[WA pos.line,WA pos.col,.ref c']):=by show upd _ _ _ P=_;rw[ao (ĝ cP),aq]
  have uc:H' c'=some (.frz Y (.ext λ_=>True)):=aq;have x:∀b o,H b=some o->b≠c':=λb o e z=>by rw[z,D]at e;cases e
  have M:su H' c' qual:=⟨Y,_,uc,vs,t,hd,hv⟩
  have J:Inv X pins σ H' { s with heap:=h'.push (W.kla_obj "<lambda>" qual params body scope cl ((X.mg "__name__").getD .none) c' ctv),toks:=tk }:=by
   refine I.step (g':=s.gens) (d':=s.drawn) (ch:=[]) (λ_ z=>nomatch z) (λb o _ _ _ e n=>d b o (g b n) e) (λb o _ _ _ e n=>⟨o.slots,d b o (g b n) e⟩) (λb o _ e n=>by rw[j b (g b n) (cS b o e)];exact n) (λb o _ e=>?_) (λb xs e=>?_) (λb o u e=>?_) (λb ps e=>?_) (λm hm=>aah hm λo e=>d _ o (g _ I.free) e) (λa o e=>?_) I.bare
   ·by_cases z:b=P
    ·subst z;exact⟨_,p⟩
    ·exact⟨o,d b o z e⟩
   ·rw[j b (λz=>by rw[z,k]at e;cases e) (x b _ e)];exact e
   ·rw[j b (λz=>by rw[z,k]at e;cases e) (x b _ e)];exact e
   ·by_cases z:b=P
    ·subst z;rw[k]at e;cases e;exact⟨#[WA pos.line,WA pos.col,.ref c'],by rw[Z];simp⟩
    ·exact⟨#[],by rw[j b z (x b _ e),e];simp⟩
   ·by_cases z:a=c'
    ·subst z;rw[uc]at e;cases e;exact⟨l,trivial,⟨_,l⟩,λ_ _ _ _=>trivial⟩
    ·by_cases z2:a=P
     ·subst z2;rw[Z]at e;cases e;exact p
     ·rw[j a z2 z]at e;have ow:∀b,H b=some (.own a)->b≠P:=λb q y=>by rw[y,k]at q;cases q
      exact(I.hok a o e).stay (λb u hb q=>d b u (hb.elim (λy=>y ▸ z2) (ow b)) q) (λb q=>by rw[j b (ow b q) (x b _ q)];exact q) λb xs q=>by rw[j b (λy=>by rw[y,k]at q;cases q) (x b _ q)];exact q
  have hsz:↥s<=h'.objs.size:=Nat.le_of_lt (Nat.lt_of_le_of_lt hge hlt);have fP:h'.objs.size≠P:=λz=>ft (Ó v) (Nat.not_lt.mpr (z ▸ hsz));refine h h'.objs.size c' ctv _ _ H' J ⟨_,Z,.inr ⟨c',rfl,M⟩⟩ M (by rw[j _ fP (ś hlt)];exact I.hok.fresh hsz) (ä _ rfl) (B _ hsz) (λb o e n=>by rw[j b n (x b _ e)];exact e) λb o e n=>⟨d b o (g b n) e,by rw[j b (g b n) (cS b o e)];exact n⟩
 ·refine W.kla_makeFunctionHit (mg:=X.mg) (cv:=.ref c') F I.ok.glob L i (N.keeps I.bk) v (by trivial) (codeAmong_snoc (pos:=pos) (c:=.ref c') [] trivial rfl) C λctv h' tk hk hsz=>?_;have d:∀b o,s.heap.get? b=some o->(h'.push { cls:=.type "function",data:=.func (W.kla_fn "<lambda>" qual params body scope cl ((X.mg "__name__").getD .none) (.ref c') ctv)}).get? b=some o:=λb o e=>Ô _ (hk b o e);exact h h'.objs.size c' ctv _ _ H (I.kept (t':=tk) d) ⟨_,k,.inr ⟨c',rfl,M⟩⟩ M (I.hok.fresh hsz) (ä _ rfl) (B _ hsz) (λb o e _=>e) λb o e n=>⟨d b o e,n⟩
end
structure LamAt(gy:Heap)(f c':Addr)(qual:Str)(params:VM)(body:YE)(scope:YA)(cl:List (Str×Addr))(ys:List Str)(cvs:List V)(H:Hp):Prop where
 fn:∃pm ctv,gy.get? f=some (W.kla_obj "<lambda>" qual params body scope cl pm c' ctv)
 caps:Caps gy cl ys cvs
 kn:su H c' qual
def aay(N:List Str)(P:Addr)(c:Pos)(qual:Str)(a:VM)(e:YE)(d:YA)(cl:List (Str×Addr))(ys:List Str)(sp:Heap->Sp)(g:TE):TE:=λσ H Q=>g σ H λv H1=>oM P c qual H1 /\
 ∃cvs:List V,⇑cvs=⇑ys/\(∀(j:Nat)(y:Str)(v:V),ys[j]?=some y->cvs[j]?=some v->∃i:Nat,N[i]?=some y/\σ[i]?=some (some v)) /\
  ∀base' f c' H',LamAt base' f c' qual a e d cl ys cvs H'->oM P c qual H'->(∀b o,H1 b=some o->b≠P->H' b=some o)->sp base' [v,.ref f] H' Q E0
section
variable{k:Nat}{fh c P:Addr}{fdh:WS}{ps ys:List Str}{sp:Heap->Sp}{x:Str}{p pos lpos:Pos}{e:YE}{te:TE}{qual:Str}{params:VM}{body:YE}{scope:YA}{cl:List (Str×Addr)}
def Fy(F:∀gy,FnOk X.prog X.w X.K X.mg gy CX0 k fh fdh ps (sp gy))(hr:Room k X.A)(hg:Gl X x)(hm:X.mg x=some (.ref fh))(hk:W.keepIn X.K (.ref fh)=true)(hb:Binds X.K fdh ps [])(ha:PE X e te)(n:X.env.qual++"<lambda>"=qual)(C:Rl params X.env=([],[]))(M:UP scope X.env=pure cl)(g:X.env.code=.ref c)(hC:X.K.In X.gy->W.CodeHd X.gy c P)(hB:X.K.In X.gy->X.gy.BuiltinsAt X.mg P)(R:∀x,X.fn x=true)(d:∀x c,cl.lookup x=some c->X.env.cells.lookup x=some c)(T:∀y∈ys,X.env.scope.names.lookup y=some .cell/\∃c,cl.lookup y=some c)(hdb:zB x:=by decide)(he:YI [e,.Lambda params body scope lpos] X.env=(false,YN e X.env)::(false,YN (.Lambda params body scope lpos) X.env)::[]:=by rfl)(hpl:(YO pos (YI [.Lambda params body scope lpos] X.env)).any (·.1)=false:=by rfl)(O:YI [e,.Lambda params body scope lpos] X.env=(false,YN e X.env)::YI [.Lambda params body scope lpos] X.env:=by rfl) :
  PE X (.Call (.Name x p) [e,.Lambda params body scope lpos] [] pos) (aay X.N P lpos qual params body scope cl ys sp te):=by
 intro E s σ H Q I h;refine ŝ (HY I hg hm ?_ hdb);refine W.callWith_K (h₀:=X.gy) I.ok.mod.kin hk ?_ O hpl;rw[he];show wpAny _ _ (XA ((false,YN e X.env)::(false,YN (.Lambda params body scope lpos) X.env)::[])) _ _ s;refine Calls.spliced_cons (thn (ha E s σ H _ I h) λu s1 ⟨v,H1,I1,r1,T1,cvs,cl1,hcv,q1⟩=>?_);refine Calls.spliced_cons ?_;refine xH I1 n C M g hC hB T1 λf c' ctv pm s2 H2 J T2 kn fn hfo nfs kp kb=>?_;refine Calls.spliced_nil ⟨J.kIn,?_⟩;have t:∀y c,X.env.cells.lookup y=some c->c∉frs X.stack:=λy c e z=>by
  rcases Õ.mp (J.uE c z)with z|z
  ·exact J.cne y c e z
  ·let⟨_,o,S,_⟩:=J.ok.nW.mem z;exact ft (Ó S) (Nat.not_lt.mpr (J.ok.cab y c (R y) e))
 have U:∀y c,cl.lookup y=some c->c∈f::cl.filterMap λq=>cl.lookup q.1:=λy c e=>Ç _ (Ŧ.mpr ⟨(y,c),ď e,e⟩);have Y:∀b∈f::cl.filterMap (λq=>cl.lookup q.1),(H2 b=none/\b∉frs X.stack):=λb hb=>by
  rcases Õ.mp hb with rfl|hb
  ·exact⟨fn,nfs⟩
  ·let⟨⟨y,c1⟩,_,e1⟩:=Ŧ.mp hb;have B:=d y b e1;exact⟨J.freeC y b B,t y b B⟩
 have e0:=J.env0.reb (L:=f::cl.filterMap λq=>cl.lookup q.1) (λb hb=>(Y b hb).1) λb hb=>(Y b hb).2;have a:∀y c w,cl.lookup y=some c->s2.heap.IsCell c w->(reb X.gy s2.heap (f::cl.filterMap λq=>cl.lookup q.1)).IsCell c w:=λy c w e ⟨o,S,hd⟩=>⟨o,yL S (U y c e),hd⟩
 have V:LamAt (reb X.gy s2.heap (f::cl.filterMap λq=>cl.lookup q.1)) f c' qual params body scope cl ys cvs H2:=by
  refine⟨⟨pm,ctv,yL hfo Æ⟩,⟨cl1,λy c e=>?_,λj y w h1 h2=>?_⟩,kn⟩
  ·let⟨w,hw⟩:=J.cell y c (d y c e);exact⟨w,a y c w e hw⟩
  ·let⟨i,n1,n2⟩:=hcv j y w h1 h2;let⟨Z,c,e⟩:=T y (Î h1);let⟨m,_,hl⟩:=J.loc;let⟨u',rv,l⟩:=hl i y w n1 n2 (.inr (.inl Z));rcases l with⟨G,_⟩|⟨_,c2,B,hc⟩
   ·have G:X.env.scope.names.lookup y=some .local:=G;rw[Z]at G;cases G
   ·rw[d y c e]at B;cases B;exact⟨c,u',e,a y c _ e hc,rv⟩
 have D:=q1 _ f c' H2 V T2 kp;have FF:=F (reb X.gy s2.heap (f::cl.filterMap λq=>cl.lookup q.1));have hl:[u,ģ f].length=⇑ps:=FF.len _ _ _ _ D;refine W1 (VA (FF.run X.A X.stack s2 H2 ⟨[u,.ref f],[]⟩ [u,.ref f] [v,.ref f] Q E0 hr e0 ?_ (.cons r1 (.cons rfl .nil)) D) λr s' n=>?_)
 ·have:=hb s2 [u,.ref f] J.kIn (by rw[í];exact hl);rw[í]at this;exact this
 ·cases r with
  |error e=>exact n.elim
  |ok fl =>
   cases fl with
   |ret u=>exact J.after n
   |next=>exact ĺ n
   |brk=>exact ĺ n
   |cont=>exact ĺ n
end
end L2
namespace Dl
open L2
def qP(P:Addr)(pos:Pos)(qual:Str):Pn where
 fp:=λb=>b=P
 PI:=oM P pos qual
 pv:=.non
 mono:=λH H' ⟨ps,h,r⟩ k=>⟨ps,k _ _ (.inl rfl) h,r.imp id λ⟨c',e,x,φ,hc,cx⟩=>⟨c',e,x,φ,k _ _ (.inr ⟨x,φ,rfl⟩) hc,cx⟩⟩
 is:=λH b ⟨ps,h,_⟩ hb=>by
  subst hb;exact⟨_,h,(λxs z=>(nomatch z)),λ⟨_,_,z⟩=>(nomatch z)⟩
def spT(T:Pn)(f:fE):Sp:=λvs H Q _=>∃ds P,T.PI H/\Rps (λa=>¬T.fp a) H vs ds/\f ds P/\∀d v H',P d->Kp T H H'->T.PI H'->Rp (λa=>H a=none) H' v d->Q v H'
def Ac{T:Pn}{f:fE}{n:Nat}(hn:∀ds P,f ds P->⇑ds=n:=by intro _ _ h;repeat (first|(let⟨rfl,_⟩:=h;rfl)|let⟨_,h⟩:=h)):∀vs H Q E,spT T f vs H Q E->⇑vs=n:=λvs H Q E ⟨ds,P,_,r,t,_⟩=>by
 rw[⇑r];exact hn ds P t
def Pn.plus(p T:Pn):Pn where
 fp:=λb=>p.fp b\/T.fp b
 PI:=λH=>p.PI H/\T.PI H
 pv:=p.pv
 mono:=λH H' h k=>⟨p.mono H H' h.1 λb o z e=>k b o (z.imp .inl id) e,T.mono H H' h.2 λb o z e=>k b o (z.imp .inr id) e⟩
 is:=λH b h z=>z.elim (p.is H b h.1) (T.is H b h.2)
def Apart(p T:Pn):Prop:=∀H,p.PI H->T.PI H->∀b,p.fp b->¬T.fp b
def CT(C:Pn->Prop)(T:Pn):Pn->Prop:=λq=>∃p,C p/\Apart p T/\q=p.plus T
def zU{p:Pn}{H:Hp}{b:Addr}{o:HO}(h:p.PI H)(e:H b=some o)(c:Fxd o):¬p.fp b:=λz=>by
 let⟨o',a,n⟩:=p.is H b h z;rw[e]at a;cases a;exact n.2 c
def Li{C:Pn->Prop}{T:Pn}{f:fE}:∀vs H Q E,spP (CT C T) f vs H Q E->spP C f vs H Q E:=by
 rintro vs H Q E ⟨q,vs',ds,P,⟨p,c,h,rfl⟩,rfl,g,r,t,k⟩;refine⟨p,vs',ds,P,c,rfl,g.1,r.mono (λa o z=>o (.inl z)) (λ_ _ _ e=>e) (λ_ _ e=>e),t,λd v H' hP kp pi' rp=>k d v H' hP (λb o e n=>kp b o e λz=>n (.inl z)) ⟨pi',T.mono H H' g.2 λb o z e=>kp b o e λy=>?_⟩ rp⟩;rcases z with z|z
 ·exact h H g.1 g.2 b y z
 ·exact zU g.1 e z y
def Cal.plus{P:Zg}{w:Zl}{K:Ý}{mg:Str->gf}{gy:Heap}{k:Nat}{x:Str}{ps:List Str}{C:Pn->Prop}{T:Pn}{f:fE}(c:Cal P w K mg gy k x ps (spP C f)):Cal P w K mg gy k x ps (spP (CT C T) f):=by
 let⟨g,a,F,r⟩:=c.ex;exact⟨g,a,F.imp Li,r⟩
section
variable [Gr] {X:Cx}{k j:Nat}{x:Str}{ps:List Str}{e:YE}{es:List YE}{t:DA}{p pos:Pos}{C:Pn->Prop}{T:Pn}{i:Nat}{f:fE}
def Vo(C:Pn->Prop)(T:Pn)(i:Nat)(f:fE)(t:DA):DE:=λρ P=>ρ[i]?=some (.pen (CT C T))/\t ρ λks=>f (ks.map (·.2)) λd=>P (norm .new d) d
def Oo:∀σ H Q,aV (Vo C T i f t) σ H Q->uy (spT T f) [] E0 (iI t) σ H Q:=by
 rintro σ H Q ⟨q,g,own,ρ,P,E,⟨hi,t⟩,k⟩;let⟨_,p,c,l,rfl⟩:=E.slot i _ hi;refine⟨_,g,own,ρ,_,E,t,λks vs H1 h A r=>?_⟩;show spT T f (vs++[]) H1 Q E0;rw[í];refine⟨ks.map (·.2),_,A.pen.2,(RpK.rps A r).mono (λ_ o z=>o (.inr z)) (λ_ _ _ e=>e) (λ_ _ e=>e),h,λd v H' h2 kp pi' r2=>?_⟩;have m:Kp (p.plus T) H1 H':=λb o e n=>kp b o e λz=>n (.inr z);refine k _ d v H' h2 (A.go m ⟨p.mono H1 H' A.pen.1 λb o z e=>kp b o e λy=>?_,pi'⟩) (aR ?_)
 ·rcases z with z|z
  ·exact l H1 A.pen.1 A.pen.2 b z y
  ·exact zU A.pen.2 e z y
 ·exact r2.mono (λa o=>A.free o) (λ_ _ _ e=>e) λ_ _ e=>e
def dcT(CC:Cal X.prog X.w X.K X.mg X.gy k x ps (spT T f))(hr:Room j X.A)(ha:PDA X (e::es) t)(hk:k<=j:=by decide)(hg:Gl X x:=by rfl)(hdb:zB x:=by decide)(he:zS X e es:=by rfl)(hpl:zP X pos es:=by rfl) :
  PD X (.Call (.Name x p) (e::es) [] pos) (Vo C T i f t):=PE.wk (pcS CC hr ha hk hg hdb he hpl) Oo
end
def grZ(Z:Hp->Prop):Gr:=⟨λp H0=>p=fC/\Z H0⟩
def spZ(Z:Hp->Prop)(g:fE):Sp:=λvs H Q E=>Z H/\spD g vs H Q E
def Vm(i:Nat)(f:Addr)(g:fE)(t:DA):DE:=λρ P=>(∃b,ρ[i]?=some (.scr (.ref f) b))/\t ρ λks=>g (ks.map (·.2)) λd=>P (norm .new d) d
section
variable{X:Cx}{k j:Nat}{x:Str}{ps:List Str}{e:YE}{es:List YE}{t:DA}{p pos:Pos}{Z:Hp->Prop}{i:Nat}{f:Addr}{fd:WS}{g:fE}
def Ol(l:∀H H',Z H->Same H H'->Z H'):∀σ H Q,@aV (grZ Z) (Vm i f g t) σ H Q->Ld i f (spZ Z g) E0 (@iI (grZ Z) t) σ H Q:=by
 letI:=grZ Z;rintro σ H Q ⟨q,c,own,ρ,P,E,⟨⟨b,hi⟩,t⟩,k⟩;let⟨rfl,z⟩:=E.gr;refine⟨(E.slot i _ hi).1,fC,c,own,ρ,_,E,t,λks vs H1 h A r=>?_⟩;have m:Same c H1:=λb o e=>A.kp b o (E.k0 b o e λz=>z) λz=>z;refine⟨l _ _ z m,ks.map (·.2),_,(RpK.rps A r).mono (λ_ _=>trivial) (λ_ _ _ e=>e) (λ_ _ e=>e),h,λd v H' h2 s r2=>?_⟩;exact k _ d v H' h2 (A.go (Kp.of s) trivial) (aR (r2.mono (λa o=>A.free o) (λ_ _ _ e=>e) λ_ _ e=>e))
def dcV(a:∀H H',Z H->Same H H'->Z H')(F:FnOk X.prog X.w X.K X.mg X.gy CX0 k f fd ps (spZ Z g))(b:W.FnAt f X.gy)(hr:Room j X.A)(hb:Binds X.K fd ps [])(hv:PE X (.Name x p) (iY i))(ha:@PDA (grZ Z) X (e::es) t)(hk:k<=j)(he:zS X e es:=by rfl)(hpl:zP X pos es:=by rfl) :
  @PD (grZ Z) X (.Call (.Name x p) (e::es) [] pos) (Vm i f g t):=PE.wk (Mz F b (hr.mono hk) hb T8 hv ha he hpl) (Ol a)
def Xe{N:List Str}{H:Hp}{n:Int}{m:Nat}(z:Z H)(hN:⇑N=m+2):@EnvD (grZ Z) fC H (λ_=>none) (L2.start N [.int n,.ref f]) H (.im (.int n)::.scr (.ref f) false::Ë m .any):=by
 letI:=grZ Z;refine⟨λ_ _ e _=>e,trivial,(λ_ _ e=>(nomatch e)),λq s e=>?_,?_,⟨rfl,z⟩⟩
 ·match q,e with
  |0,e=>cases e;exact⟨.int n,rfl,.int n⟩
  |1,e=>cases e;exact⟨rfl,λz=>(nomatch z)⟩
  |q+2,e =>
   have e:(Ë m Sl.any)[q]?=some s:=e;have:=(ę.mp (Î e)).2;subst this;trivial
 ·unfold L2.start;simp[hN]
end
def Hand(P:Zg)(w:Zl)(K:Ý)(mg:Str->gf)(gy:Heap)(a:Nat)(f:Addr)(ps:List Str)(Z:Hp->Prop)(g:fE):Prop:=∃fd,a∩ps∩(spZ Z g)/\W.FnAt f gy/\Binds K fd ps []/\∀H H',Z H->Same H H'->Z H'
def spF(P:Zg)(w:Zl)(K:Ý)(mg:Str->gf)(gy:Heap)(b:Nat)(ps:List Str)(t:(fE)->Int->(D->Prop)->Prop):Sp:=λvs H Q _=>∃(n:Int)(f:Addr)(Z:Hp->Prop)(g:fE)(Pd:D->Prop),vs=[.int n,.ref f]/\Hand P w K mg gy b f ps Z g/\Z H/\t g n Pd /\
 ∀d v H',Pd d->Same H H'->Rp (λa=>H a=none) H' v d->Q v H'
def Xg{Z:Hp->Prop}{T:DS}{N:List Str}{H:Hp}{Q:VK}{f:Addr}{n:Int}{m:Nat}{g:D->Prop}(z:Z H)(k:∀d v H',g d->Same H H'->Rp (λa=>H a=none) H' v d->Q v H')(hN:⇑N=m+2)(c:T { nx:=λ_=>g .none,rt:=g } (.im (.int n)::.scr (.ref f) false::Ë m .any)):@ql (grZ Z) T { nx:=λ_ H'=>Q .non H',rt:=Q } (L2.start N [.int n,.ref f]) H:=by
 letI:=grZ Z;have h:∀H',(∀b o,H b=some o->¬fC.fp b->H' b=some o)->Same H H':=λH' k b o e=>k b o e λz=>z;exact⟨fC,H,λ_=>none,_,_,Xe z hN,c,⟨λo s h' r' e' _ n=>k _ _ h' n (h h' e'.k0) .non,λd v h' n w=>k d v h' n (h h' w.k0) (w.rp.mono (λ_ o=>o.1) (λ_ _ _ e=>e) λ_ _ e=>e),λ_ _ _ _ _ _ n=>n.elim,λ_ _ _ _ _ _ n=>n.elim⟩⟩
end Dl
namespace Wr
open L2 Dl
variable{X:Cx}{k j:Nat}{x:Str}{ps:List Str}{e:YE}{es:List YE}{t:DA}{p pos:Pos}{Z:Hp->Prop}{i:Nat}{f:Addr}{fd:WS}{g:fE}
def dcV(a:∀H H',Z H->Same H H'->Z H')(F:FnOk X.prog X.w X.K X.mg X.gy CX0 k f fd ps (spZ Z g))(b:W.FnAt f X.gy)(hr:Room j X.A)(hb:Binds X.K fd ps [])(hv:WV X (.Name x p) i)(ha:@WDA (grZ Z) X (e::es) t)(hk:k<=j:=by decide)(he:zS X e es:=by rfl)(hpl:zP X pos es:=by rfl) :
  @WD (grZ Z) X (.Call (.Name x p) (e::es) [] pos) (Vm i f g t):=@WD.mk (grZ Z) _ _ _ (Dl.dcV a F b hr hb hv.h (@WDA.h (grZ Z) _ _ _ ha) hk he hpl)
def dcT[Gr]{C:Pn->Prop}{T:Pn}(CC:Cal X.prog X.w X.K X.mg X.gy k x ps (spT T g))(hr:Room j X.A)(ha:WDA X (e::es) t)(hk:k<=j:=by decide)(hg:Gl X x:=by rfl)(hdb:zB x:=by decide)(he:zS X e es:=by rfl)(hpl:zP X pos es:=by rfl) :
  WD X (.Call (.Name x p) (e::es) [] pos) (Vo C T i g t):=⟨Dl.dcT CC hr ha.h hk hg hdb he hpl⟩
end Wr
namespace Dl
open L2
section
variable [Gr] {X:Cx}{st:XB}{i k a b:Nat}{f:fE}
def U0(i k a b:Nat)(f:fE):DS:=λP ρ=>∃(r:Nat)(ds:gg)(ws:fM)(n m:Int),ρ[i]?=some (.sp r true ds)/\ρ[k]?=some (.sh (iD ws))/\ρ[a]?=some (.im (.int n))/\ρ[b]?=some (.im (.int m))/\(∃x y tl,ds=.tuple [x,y]::tl)/\⇑ds<1000 /\
 f [iD ws,.list ds,.int n,.int m] λd=>∃(t:Int)(L:fM),d=.tuple [.int t,iD L]/\⇑L≠⇑ws/\P.nx ((forget r ρ).set i (.sp r true (ds++[d])))
def Ay(h:PS X st (pB (tBM X.K "list" pN (iY i) (uw (uy (spR f) [] E0 (uw (iY k) (uw (iY i) (uw (iY a) (uw (iY b) QT))))) QT)))):PDS X st (U0 i k a b f):=PS.wk' h (by
 rintro Q σ H ⟨p,j,own,ρ,P,E,⟨r,ds,ws,n,m,hi,hk,ha,hb,⟨x,y,tl,N⟩,V,hf⟩,w⟩;let⟨l,vs,hv,o,G,I⟩:=E.slot i _ hi;let⟨vw,C,rw⟩:=E.slot k _ hk;let⟨va,s,ra⟩:=E.slot a _ ha;let⟨vb,B,rb⟩:=E.slot b _ hb;have ea:=ra.int';have eb:=rb.int';subst ea eb;let⟨F,wvs,rfl,okw,W,U⟩:=Rp.bT rw;have ew:=Rps.ints U;subst ew;refine⟨.ref l,hv,.inl ⟨rfl,vs,SqL.of G⟩,.ref F,C,.ref l,hv,.int n,s,.int m,B,?_⟩;show spR f ([.ref F,.ref l,.int n,.int m]++[]) H _ E0;rw[í];have A:=E.at;refine⟨λc=>okS p j own true c\/c=l\/c=F,[iD ws,.list ds,.int n,.int m],_,.cons (.lst (.inr (.inr rfl)) W (Rps.ofMap (λx=>.int x) ws)) (.cons (.lst (.inr (.inl rfl)) G (I.mono (λ_ o=>.inl o) (λ_ _ _ e=>e) λ_ _ e=>e)) (.cons (.int n) (.cons (.int m) .nil))),hf,λd v H' ⟨t,L,ed,hL,hn⟩ sm rp=>?_⟩;subst ed;let⟨Y,tvs,rfl,O,rt⟩:=Rp.fj rp;let⟨v1,v2,rfl,r1,r2⟩:=rt.two;have e1:=r1.int';subst e1;let⟨M,bvs,rfl,R,g,S⟩:=Rp.bT r2;have e2:=Rps.ints S;subst e2;have nl:M≠l:=λz=>by
  rw[z,sm l _ G]at g;subst N;cases I with
  |cons h t =>
   let⟨c,cvs,rfl,_⟩:=Rp.fj h;cases L with
   |nil=>cases g
   |cons q L=>cases g
 have nw:M≠F:=λz=>by
  rw[z,sm F _ W]at g;have e:=fv List.length (HO.lst.inj (ß g));rw[À,À]at e;exact hL e.symm
 have D:okS p j own true M:=by
  rcases R with(z|z|z)|z
  ·exact z
  ·exact ft z nl
  ·exact ft z nw
  ·exact⟨λ_=>A.h0 z,A.nfp z,A.M9 z⟩
 have J:At p j own H H':=A.go (Kp.of sm) (p.mono H H' E.pen λb o _ e=>sm b o e);have Z:=E.go J.kp J.pen;have h1:H' l=some (.lst vs):=sm l _ G;have T:Rps (okS p j own true) H' vs ds:=I.mono (λ_ o=>o) (λc u n e=>sm c u e) λ_ _ e=>sm _ _ e;have rv:Rp (okS p j own true) H' (.ref Y) (.tuple [.int t,iD L]):=.tup O (.cons (.int t) (.cons (.lst D g (Rps.ofMap (λx=>.int x) L)) .nil));have hln:=⇑I;have h24:=õ;refine⟨l,vs,.ref Y,rfl,rfl,h1,(),?_⟩;let⟨E2,F2⟩:=Z.Hv (b:=true) hv o h1 (T.snoc rv);exact w.nx _ σ _ _ E2 (J.frs.trans F2) hn)
end
end Dl
namespace Wr
open L2 Dl
section
variable [Gr] {X:Cx}{i k a b lv j:Nat}{f:fE}{x g y z1 z2:Str}{ps:List Str}{apos cpos np pos gp gpos py px pa pb:Pos}
def Ay(C:Cal X.prog X.w X.K X.mg X.gy lv g ps (spR f))(hr:Room j X.A)(hv:WV X (.Name x np) i)(m:WV X (.Name y py) k)(l:WV X (.Name x px) i)(h1:WV X (.Name z1 pa) a)(h2:WV X (.Name z2 pb) b)(hk:lv<=j:=by decide)(hg:Gl X g:=by rfl)(hdb:zB g:=by decide)(c:UK (.Name x np) "append" X.env (YN (.Name x np) X.env)=YN (.Name x np) X.env:=by rfl)(e:((YO cpos (YI [.Call (.Name g gp) [.Name y py,.Name x px,.Name z1 pa,.Name z2 pb] [] gpos] X.env)).all (λx=>!x.1)&&(YU cpos (YV [] X.env)).all (λx=>x.1.isSome)
  &&decide (⇑([.Call (.Name g gp) [.Name y py,.Name x px,.Name z1 pa,.Name z2 pb] [] gpos]:List YE)+⇑([]:List YY)+(if([]:List YY).isEmpty then 0 else 1)<30))=true:=by rfl)(d:(apos.endLine==cpos.line)=true:=by rfl)(hs:XV (.Call (.Attribute (.Name x np) "append" apos) [.Call (.Name g gp) [.Name y py,.Name x px,.Name z1 pa,.Name z2 pb] [] gpos] [] cpos) none pos.line X.env=pure false:=by rfl) :
  WDS X (.Expr (.Call (.Attribute (.Name x np) "append" apos) [.Call (.Name g gp) [.Name y py,.Name x px,.Name z1 pa,.Name z2 pb] [] gpos] [] cpos) pos) (U0 i k a b f) :=
 ⟨Dl.Ay (bY (iy û Ľ ļ fJ hv.h (dI (pcS C hr (dI m.h (dI l.h (dI h1.h (dI h2.h aW)))) hk hg hdb rfl rfl) aW) c e d rfl rfl) hs)⟩
end
end Wr
namespace L2
open PySem.Spec
def JZ{P:Zg}{w:Zl}{K:Ý}{mg mb:Str->gf}{k:Nat}{X a:Addr}{g:List Addr}{fd:WS}{x:Str}{sp:Sp}{f:Shared}{vs:fT}{ns:fM}(KX:K.In f.heap)(hKP:∀PT∈g,K.lookup PT=none)(hC:∀PT∈g,∃c,W.CodeHd f.heap c PT)(j:∀PT∈g,f.heap.get? PT=some (W.tabObj #[]))(M:f.heap.Ns mainGlobals mg)(hb:f.heap.Ns ZZ mb)(hbb:∀x:Str,x≠"__name__"->mb x=Z3 x)(L:f.heap.NoLimit)(Z:∀PT∈g,f.heap.BuiltinsAt mg PT)(hg:f.gens=#[])(ha:f.heap.get? a=some { cls:=.type "list",data:=.seq vs.toArray })(hi:IntsAre vs ns)(hl:⇑ns<=sizeLine)(hr:Room k callerA)(F:∀gy:Heap,K.In gy->gy.Ns mainGlobals mg->(∀PT∈g,gy.BuiltinsAt mg PT)->(∀(b:Addr)(m:Str->gf),f.heap.Ns b m->gy.Ns b m)->FnOk P w K mg gy CX0 k X fd [x] sp)(C:∀(s:Shared)(u:Value),WU s fd ⟨[u],[]⟩ [(x,u)])(hsp:∀H:Hp,SqL K H a (ns.map V.int)->(∀PT∈g,H PT=some (.tbl #[]))->sp [.ref a] H (λv _=>v=.bl true) λ_ _ _=>False) :
  WZ (model P w) callerA (.call (.ref X) ⟨[.ref a],[]⟩) (λr s'=>r=.ok (.ret (.bool true))/\OldK f.heap s'.heap/\s'.os=f.os/\Y1 s'.gens) f:=by
 have rv:=wR hi;have O:=⇑hi;have aP:a∉g:=λz=>by rw[j a z]at ha;cases ha
 have p:∀H:Hp,SqL K H a (ns.map V.int)->HOk P w H f.heap->(∀PT∈g,H PT=some (.tbl #[]))->(∀b u,H b=some u->b∉g->b=a/\K.lookup a=none/\∃o u',u=.frz o u') ->
   WZ (model P w) callerA (.call (.ref X) ⟨[.ref a],[]⟩) (λr s'=>r=.ok (.ret (.bool true))/\OldK f.heap s'.heap/\s'.os=f.os/\Y1 s'.gens) f:=by
  intro H hS N hT T;have nD:∀{b:Addr}{o:Obj}{es:Array ZA}{ep:Nat},f.heap.get? b=some o->o.data=.dict es ep->H b=none:=λ{b o es ep} e d=>by
   cases q:H b with
   |none=>rfl
   |some u =>
    by_cases z:b∈g
    ·rw[j b z]at e;cases e;cases d
    ·have:=(T b u q z).1;subst this;rw[ha]at e;cases e;cases d
  have n:∀{b:Addr}{m:Str->gf},f.heap.Ns b m->(Ah f.heap H).Ns b m:=λ{b m} ⟨o,es,ep,e,d,r⟩=>⟨o,es,ep,vK e (nD e d),d,r⟩
  have G:K.In (Ah f.heap H):=λb o e=>vK (KX b o e) (by
   cases q:H b with
   |none=>rfl
   |some u =>
    by_cases z:b∈g
    ·rw[hKP b z]at e;cases e
    ·let⟨z1,z2,_⟩:=T b u q z;rw[z1,z2]at e;cases e)
  have hM:Mod K mg (Ah f.heap H):=⟨G,n M,⟨mb,n hb,hbb⟩,let⟨mc,h1,h2⟩:=L;⟨mc,n h1,h2⟩⟩
  have e0:Env0 P w K mg (Ah f.heap H) callerA [] f H:=⟨rfl,hM,λb o e=>RV e,Nat.le_of_eq (Kc _ _),trivial,λb hb=>ft (show b∈([]:List Addr)from hb) (by simp),N,.of_eq hg⟩
  have Y:∀PT∈g,(Ah f.heap H).BuiltinsAt mg PT:=λPT hP=>by
   let⟨R,o,h1,h2,h3,h4,S,A,h7⟩:=Z PT hP;refine⟨R,o,h1,h2,h3,h4,vK S ?_,A,h7⟩;cases q:H R with
   |none=>rfl
   |some u =>
    have:=(T R u q λz=>by
     have e5:=S;rw[j R z]at e5;cases e5;have A:Ĕ=Đ "module":=A;cases A).1
    subst this;rw[ha]at S;cases S;have A:Đ "list"=Đ "module":=A;exact ft A ∅
  refine VA ((F _ G (n M) Y λb m z=>n z).run callerA [] f H ⟨[.ref a],[]⟩ [.ref a] [.ref a] _ _ hr e0 (C f (.ref a)) (.cons rfl .nil) (hsp H hS hT)) λr s' h=>?_;cases r with
  |error e=>exact h.elim
  |ok fl =>
   cases fl with
   |next=>exact ĺ h
   |brk=>exact ĺ h
   |cont=>exact ĺ h
   |ret u =>
    let⟨v,H',os,D,un,t,r',q⟩:=h;have q':v=.bl true:=q;subst q';obtain rfl:u=Value.bool true:=r';have E:∀PT∈g,∃i,s'.heap.get? PT=some { cls:=.none,data:=.fields (#[]++i)}:=λPT hP=>by
     let⟨i,hT'⟩:=un.tbls PT _ (hT PT hP);exact⟨i,t PT _ hT'⟩
    have y:∀b o,f.heap.get? b=some o->b∉g->s'.heap.get? b=some o:=λb o e nb=>by
     cases q:H b with
     |none=>exact un.keep b o e q (by intro z;exact ft (show b∈([]:List Addr)from z) (by simp)) (by simp)
     |some u =>
      let⟨_,_,ob,u',rfl⟩:=T b u q nb;have e1:=(N b _ q).1;rw[e]at e1;cases e1;exact(t b _ (un.frzs b _ _ q)).1
    refine⟨rfl,⟨λb o e=>?_,λb o e=>?_⟩,os,D⟩
    ·by_cases z:b∈g
     ·let⟨i,U⟩:=E b z;let⟨c,hc⟩:=hC b z;rw[j b z]at e;cases e;exact .inr (.inl ⟨(hc.tab (j b z)).isCodeTable,rfl,#[],i,rfl,U⟩)
     ·exact .inl (y b o e z)
    ·by_cases z:b∈g
     ·let⟨i,U⟩:=E b z;exact⟨_,U⟩
     ·exact⟨o,y b o e z⟩
 cases hk:K.lookup a with
 |some o =>
  have e:=KX a o hk;rw[ha]at e;cases e;refine p (λb=>if b∈g then some (.tbl #[])else none) (.inr ⟨_,vs.toArray,_,hk,rfl,rfl,rfl,by rw[Ñ,O];exact hl,↑rv⟩) (λb u z=>?_) (λPT hP=>fo hP) λb u z nb=>?_
  ·by_cases hb:b∈g
   ·have Q:=(fo hb).symm.trans z;cases Q;exact j b hb
   ·have Q:=(fq hb).symm.trans z;cases Q
  ·have Q:=(fq nb).symm.trans z;cases Q
 |none =>
  let H:Hp:=λb=>if b∈g then some (.tbl #[])else if b=a then some (.frz { cls:=.type "list",data:=.seq vs.toArray } (.lst (ns.map V.int)))else none
  have J:∀PT∈g,H PT=some (.tbl #[]):=λPT hP=>fo hP;have B:H a=some (.frz { cls:=.type "list",data:=.seq vs.toArray } (.lst (ns.map V.int))):=(fq aP).trans (fo rfl);have I:∀b,b∉g->b≠a->H b=none:=λb h1 h2=>(fq h1).trans (fq h2);refine p H (.inl (.inr ⟨_,B⟩)) (λb u z=>?_) J λb u z nb=>?_
  ·by_cases hb:b∈g
   ·rw[J b hb]at z;cases z;exact j b hb
   ·by_cases l:b=a
    ·subst l;rw[B]at z;cases z;exact⟨ha,by rw[À];exact hl,vs,_,rv,ha⟩
    ·rw[I b hb l]at z;cases z
  ·by_cases l:b=a
   ·subst l;rw[B]at z;cases z;exact⟨rfl,hk,_,_,rfl⟩
   ·rw[I b nb l]at z;cases z
def K3{l:W.OpenLaw}{n k:Nat}{q:Zg}{loose:List Str}{XP:(Str->gf)->Heap->Prop}{YP:Zl->Heap->Prop}{d:DefRec}{K:Zs->Ý}{x:Str}(hi:importsNone q=true)(hn:l.most=some n)(A:n<=sizeLine)(y:d.params.defaults=[])(hr:Room k callerA)(E:∀(w:Zl)(h:Heap),YP w h->(K w.params).In h)(F:∀(w:Zl)(mg:Str->gf)(m:Addr)(h:Heap),(K w.params).In h->h.Ns mainGlobals mg->mg d.name=some (.ref m) ->
   ∃(j:Ý)(i:List Addr)(r:WS)(sp:Sp),j.In h/\(∀PT∈i,j.lookup PT=none)/\(∀PT∈i,∃c,W.CodeHd h c PT)/\(∀PT∈i,h.get? PT=some (W.tabObj #[]))/\(∀(s:Shared)(u:Value),WU s r ⟨[u],[]⟩ [(x,u)]) /\
    (∀gy:Heap,j.In gy->gy.Ns mainGlobals mg->(∀PT∈i,gy.BuiltinsAt mg PT)->(∃o,gy.get? ZU=some o)->FnOk l.prog w j mg gy CX0 k m r [x] sp)/\∀(H:Hp)(a:Addr)(ns:fM),SqL j H a (ns.map V.int)->(∀PT∈i,H PT=some (.tbl #[]))->sp [.ref a] H (λv _=>v=.bl true) λ_ _ _=>False) :
  W.WalkO q loose XP YP l.row.toRowW d [] (λf vs=>PySem.call f vs):=by
 refine Att.Et hn y λw s₀ s₁ mg mb m o pm cd doc a vs ns G Y ho hd hcd hmg hobj hints hlen hg=>?_;let⟨j,i,r,sp,I,J,L,C,hb,D,B⟩:=F w mg m _ (E w _ Y) G.T.g hmg;have t:∀PT∈i,s₁.heap.BuiltinsAt mg PT:=λPT hP=>by
  let⟨p,O,b1,b2,b3,b4,b5,b6⟩:=G.T.bmain;have M:p≠PT:=λz=>by rw[z,C PT hP]at b3;cases b3;cases b4
  have N:p≠mainGlobals:=λz=>by
   let⟨o,es,P,e,hd,_⟩:=G.T.g;rw[z,e]at b3;cases b3;rw[hd]at b6;cases b6
  exact⟨p,O,b1,b2,N,M,b3,b4,b5,b6⟩
 let⟨Q,hm,_⟩:=(G.T.seer hi).mods;exact JZ I J L C G.T.g G.T.b G.T.builtins G.T.nolimit t hg hobj hints (ĉ hlen A) hr (λgy h1 h2 h3 h4=>D gy h1 h2 h3 (let⟨o,_,_,e,_⟩:=h4 _ _ hm;⟨o,e⟩)) hb λH hS hT=>B H a ns hS hT
def QM{K:Ý}{b:List Addr}{h:Heap}(X:W.Frag.In ((b.map λa=>(a,W.tabObj #[]))++K) h)(n:∀PT∈b,K.lookup PT=none):K.In h/\∀PT∈b,h.get? PT=some (W.tabObj #[]):=by
 have d:∀(b:List Addr)(a:Addr),a∉b->List.lookup a ((b.map λa=>(a,W.tabObj #[]))++K)=K.lookup a:=λb a h=>by
  induction b with
  |nil=>rfl
  |cons p b ih =>
   rw[é,List.cons_append,ē,show(a==p)=false by simpa using λz:a=p=>h (by rw[z];exact Æ)];exact ih λz=>h (Ç _ z)
 have c:∀(b:List Addr)(a:Addr),a∈b->List.lookup a ((b.map λa=>(a,W.tabObj #[]))++K)=some (W.tabObj #[]):=λb a h=>by
  induction b with
  |nil=>cases h
  |cons p b ih =>
   rw[é,List.cons_append,ē];by_cases z:a=p
   ·rw[z,fw]
   ·rw[show(a==p)=false by simpa using z];exact ih ((Õ.mp h).resolve_left z)
 refine⟨λa o e=>X a o ?_,λPT hP=>X PT _ (c b PT hP)⟩;rw[d b a λz=>by rw[n a z]at e;cases e];exact e
end L2
set_option autoImplicit true
namespace Dl
open L2
class Tb where
 T:Pn
instance (priority:=low) noTb:Tb:=⟨fC⟩
def wG[Tb](a:Addr)(n:Nat):Pn where
 fp:=λb=>b=a\/Tb.T.fp b
 PI:=λH=>(∃x y c:Int,H a=some (.lst [.int x,.int y,.int c])/\0<=c/\c+(n:Int)<=1152921504606846976)/\Tb.T.PI H/\¬Tb.T.fp a
 pv:=.ref a
 mono:=λH H' ⟨⟨x,y,c,h,r⟩,t,na⟩ k=>⟨⟨x,y,c,k _ _ (.inl (.inl rfl)) h,r⟩,Tb.T.mono H H' t λb o z e=>k b o (z.imp .inr id) e,na⟩
 is:=λH b ⟨⟨x,y,z,h,_⟩,t,_⟩ hb=>hb.elim (λhb=>by
  subst hb;exact⟨_,h,(λxs z=>(nomatch z)),λ⟨_,_,z⟩=>(nomatch z)⟩) (Tb.T.is H b t)
def TP:Pn->Prop:=λ_=>True
def aaC:Sl->Sl
 |.pen _=>.pen TP
 |s=>s
def stp(ρ:List Sl):List Sl:=ρ.map aaC
section
variable [Tb] {X:Cx}{a:Addr}{n m m1 m2 m3:Nat}{H0 Hb H H1 H':Hp}{own:Addr->Option Nat}{σ:L2.St}{ρ:List Sl}
structure EnvB(a:Addr)(n m:Nat)(H0:Hp)(own:Addr->Option Nat)(σ:L2.St)(H:Hp)(ρ:List Sl):Prop where
 st:stp ρ=ρ
 pi:(wG a (n+m)).PI H
 env:EnvD (wG a n) H0 own σ H ρ
def Wx(m:Nat)(t:DE):TE:=λσ H Q=>∃a n H0 own ρ P,EnvB a n m H0 own σ H ρ/\t ρ P/\∀k d v H',P k d->At (wG a n) H0 own H H'->Rp (okK (wG a n) H0 own H k) H' v d->Q v H'
def Wy(m:Nat)(t:DA):TA:=λσ H Q=>∃a n H0 own ρ P,EnvB a n m H0 own σ H ρ/\t ρ P/\∀ks vs H',P ks->At (wG a n) H0 own H H'->RpK (wG a n) H0 own H H' vs ks->Q vs H'
def Gk(m:Nat)(t:DT):TT:=λσ H Q=>∃a n H0 own ρ P,EnvB a n m H0 own σ H ρ/\t ρ P/\∀b H',P b->At (wG a n) H0 own H H'->Q b H'
def Ww(m:Nat)(t:DI):TI:=λσ H R=>∃a n H0 own ρ P,EnvB a n m H0 own σ H ρ/\t ρ P/\∀k ds J H1 Ok,P k ds->At (wG a n) H0 own H H1->Wlk Ok J ds (okA (wG a n) H0 own H k H1)->Ok H1->R J H1
def Ov(m:Nat)(t:DS):TS:=λQ σ H=>∃a n H0 own ρ P,EnvB a n m H0 own σ H ρ/\t P ρ/\Wish (wG a n) H0 own H P Q
end
end Dl
namespace Wb
open L2 Dl Wr
section
variable [Tb]
structure BE(X:Cx)(m:Nat)(e:YE)(t:DE):Prop where
 h:PE X e (Wx m t)
structure BA(X:Cx)(m:Nat)(e:List YE)(t:DA):Prop where
 h:PA X e (Wy m t)
structure BT(X:Cx)(m:Nat)(e:YE)(t:DT):Prop where
 h:PT X e (Gk m t)
structure BW(X:Cx)(m:Nat)(e:YE)(t:DT):Prop where
 h:PW X e (Gk m t)
structure BTs(X:Cx)(m:Nat)(e:List YE)(t:DT):Prop where
 h:PTs X e (Gk m t)
structure BI(X:Cx)(m:Nat)(tg e:YE)(t:DI):Prop where
 h:PI X tg e (Ww m t)
structure BS(X:Cx)(m:Nat)(s:XB)(t:DS):Prop where
 h:PS X s (Ov m t)
structure BSs(X:Cx)(m:Nat)(s:List XB)(t:DS):Prop where
 h:PSs X s (Ov m t)
end
section
variable [Tb] {X:Cx}{n m m1 m2 m3:Nat}{H0 Hb H H1 H':Hp}{own:Addr->Option Nat}{σ:L2.St}{ρ:List Sl}{pos:Pos}{a b e:YE}{es:List YE}{ta tb te:DE}{t:DA}
section
variable{rest:List YE}{t u:DT}
end
end
end Wb
namespace Dl
open L2
section
variable [Tb]
end
end Dl
namespace Wb
open L2 Dl Wr
section
variable [Tb]
end
section
variable [Tb] {X:Cx}{n m m1 m2 m3:Nat}{H0 Hb H H1 H':Hp}{own:Addr->Option Nat}{σ:L2.St}{ρ:List Sl}{pos:Pos}{a b e:YE}{es:List YE}{ta tb te:DE}
def Bb(t u:DS):DS:=λP ρ=>t { nx:=λr=>u P (stp r),rt:=P.rt,bk:=λr=>P.bk (stp r),ct:=λr=>P.ct (stp r)} ρ
section
variable{st:XB}{rest:List XB}{t u:DS}
end
end
variable{X:Cx}{K:Ý}{sc:Addr}{ns:fM}{pre:gg->Prop}
end Wb
namespace Wr
open L2 Dl
variable [Gr] {X:Cx}{pos:Pos}{a b:YE}{ta tb:DE}
def Ry(ha:WD X a ta)(hb:WD X b tb):WD X (.BinOp a .BitAnd b pos) (t2 (gI0 λi j=>.int (Builtin.bitAnd i j)) ta tb):=⟨Dl.oh V7 (zN λi j _=>.int _) ha.h hb.h⟩
end Wr
namespace L2
open PySem.Spec
open PySem.AutoSeq1 (wpAny_loadPart')
open PySem.MeetsSeq PySem.MeetsSeq3
section
variable{X:Cx}
end
end L2
namespace Dl
open L2
variable [Gr] {X:Cx}{a b:YE}{ta tb:DE}{pos:Pos}
end Dl
namespace Wr
open L2 Dl
variable [Gr] {X:Cx}{a b:YE}{ta tb:DE}{pos:Pos}
end Wr
namespace Cut
def mg(es:fM)(X:Int->Bool):Nat:=es.countP X
structure Prp(n:Nat)(X:Int->Bool):Prop where
 ins:∃v:Int,(0<=v/\v<n)/\X v=true
 out:∃v:Int,(0<=v/\v<n)/\X v=false
def ni(e:Int)(es:fM)(X:Int->Bool):mg (e::es) X=mg es X+(X e).toNat:=by
 unfold mg;rw[List.countP_cons];cases X e <;> rfl
def qT{es:fM}{X:Int->Bool}{a:Int}(h:a∈es)(b:X a=true):1<=mg es X:=List.countP_pos_iff.mpr ⟨a,h,b⟩
def Ng(es:fM)(X Y:Int->Bool):mg es (λv=>X v || Y v)+mg es (λv=>X v&&Y v)=mg es X+mg es Y:=by
 induction es with
 |nil=>rfl
 |cons e es ih =>
  simp only[ni];cases X e <;> cases Y e <;> simp_all <;> lia
def N6(es:fM)(X:Int->Bool):mg es X+mg es (λv=>!X v)=⇑es:=by
 induction es with
 |nil=>rfl
 |cons e es ih =>
  simp only[ni,à];cases X e <;> simp <;> lia
section
variable{n k:Nat}{us:List (Int×Int)}{es:fM}
def Prp.not{X:Int->Bool}(h:Prp n X):Prp n λv=>!X v :=
 ⟨let⟨v,a,b⟩:=h.out;⟨v,a,by rw[b];rfl⟩,let⟨v,a,b⟩:=h.ins;⟨v,a,by rw[b];rfl⟩⟩
def Prp.sub{X Y:Int->Bool}(h:Prp n X){v:Int}(hr:0<=v/\v<n)(hv:Y v=true)(hs:∀v,Y v=true->X v=true):Prp n Y :=
 ⟨⟨v,hr,hv⟩,let⟨u,a,b⟩:=h.out;⟨u,a,by
  cases c:Y u with
  |false=>rfl
  |true=>rw[hs u c]at b;cases b⟩⟩
abbrev Dj(n:Nat)(X Y:Int->Bool):Prop:=∀v:Int,0<=v/\v<n->X v=true->Y v=false
theorem N5{α:Type}{R:α->α->Prop}:∀{l:List α},¬l.Pairwise R->∃x y r,l.Perm (x::y::r)/\¬R x y
 |[],h=>ft .nil h
 |x::l,h=>by
  by_cases c:∀y∈l,R x y
  ·have hl:¬l.Pairwise R:=λz=>h (.cons c z);let⟨a,b,r,p,q⟩:=N5 hl;exact⟨a,b,x::r,(p.cons x).trans ((List.Perm.swap a x (b::r)).trans ((List.Perm.swap b x r).cons a)),q⟩
  ·have⟨y,hy⟩:=Classical.not_forall.mp c;have⟨hm,hR⟩:=Classical.not_imp.mp hy;let⟨s,t,rfl⟩:=List.append_of_mem hm;exact⟨x,y,s++t,List.perm_middle.cons x,hR⟩
def sum_add{α:Type}(l:List α)(f g:α->Nat):(l.map λx=>f x+g x).sum=(l.map f).sum+(l.map g).sum:=by
 induction l with
 |nil=>rfl
 |cons x l a=>simp only[é,Ė,a];lia
def V9{b:List (Int->Bool)}(h:b.Pairwise (Dj n)){e:Int}(hr:0<=e/\e<(n:Int)):(b.map λX=>(X e).toNat).sum<=1/\((∃X∈b,X e=true)->(b.map λX=>(X e).toNat).sum=1):=by
 induction h with
 |nil=>exact⟨ą _,λ⟨_,h,_⟩=>(nomatch h)⟩
 |@cons X l hX hl d =>
  rw[é,Ė];cases c:X e with
  |true =>
   have:(l.map λX=>(X e).toNat).sum=0:=by
    have:∀m:List (Int->Bool),(∀Y∈m,Y e=false)->(m.map λX=>(X e).toNat).sum=0:=λm=>by
     induction m with
     |nil=>intro _;rfl
     |cons Y m d=>intro h;rw[é,Ė,h Y Æ,d λZ hZ=>h Z (Ç _ hZ)];rfl
    exact this l λY a=>hX Y a e hr c
   rw[this];exact⟨Ì _,λ_=>rfl⟩
  |false =>
   refine⟨by have:=d.1;simp;exact this,λ⟨Y,a,q⟩=>?_⟩;rcases Õ.mp a with rfl|a
   ·rw[q]at c;cases c
   ·have:=d.2 ⟨Y,a,q⟩;simp;exact this
def Le(rng:∀e∈es,0<=e/\e<(n:Int)){a:List (Int->Bool)}(h:a.Pairwise (Dj n)):(a.map λX=>mg es X).sum<=⇑es/\((∀e∈es,∃X∈a,X e=true)->(a.map λX=>mg es X).sum=⇑es):=by
 induction es with
 |nil =>
  have:∀m:List (Int->Bool),(m.map λX=>mg [] X).sum=0:=λm=>by
   induction m with
   |nil=>rfl
   |cons Y m b=>rw[é,Ė,b];rfl
  rw[this];exact⟨Ì _,λ_=>rfl⟩
 |cons e es b =>
  let⟨f,c⟩:=b λx hx=>rng x (Ç _ hx);let⟨g,d⟩:=V9 h (rng e Æ);have:(a.map λX=>mg (e::es) X).sum=(a.map λX=>mg es X).sum+(a.map λX=>(X e).toNat).sum:=by
   rw[←sum_add];congr 1;exact Ĝ λX _=>ni e es X
  rw[this,à];refine⟨(),λhc=>?_⟩;rw[c λx hx=>hc x (Ç _ hx),d (hc e Æ)]
end
def di(a:List (Int×Int))(X:Int->Bool):Nat:=a.countP λt=>!X t.1&&X t.2
def dO(a:List (Int×Int))(X:Int->Bool):Nat:=a.countP λt=>X t.1&&!X t.2
def tZ(t:Int×Int)(a:List (Int×Int))(X:Int->Bool):di (t::a) X=di a X+(!X t.1&&X t.2).toNat:=by
 unfold di;rw[List.countP_cons];cases !X t.1&&X t.2 <;> rfl
def ud(t:Int×Int)(a:List (Int×Int))(X:Int->Bool):dO (t::a) X=dO a X+(X t.1&&!X t.2).toNat:=by
 unfold dO;rw[List.countP_cons];cases X t.1&&!X t.2 <;> rfl
def Qj(a:List (Int×Int))(X:Int->Bool):dO a (λv=>!X v)=di a X:=by
 unfold dO di;refine List.countP_congr λt _=>?_;cases h1:X t.1 <;> cases h2:X t.2 <;> simp[h1,h2]
def vR(a:List (Int×Int))(X:Int->Bool):di a (λv=>!X v)=dO a X:=by
 unfold dO di;refine List.countP_congr λt _=>?_;cases h1:X t.1 <;> cases h2:X t.2 <;> simp[h1,h2]
def bi2:∀x y x' y':Bool,(!(x&&y)&&(x'&&y')).toNat+(!(x || y)&&(x' || y')).toNat<=(!x&&x').toNat+(!y&&y').toNat:=∅
def bo2:∀x y x' y':Bool,((x&&y)&&!(x'&&y')).toNat+((x || y)&&!(x' || y')).toNat<=(x&&!x').toNat+(y&&!y').toNat:=∅
def bm2:∀x y x' y':Bool,(!(x&&!y)&&(x'&&!y')).toNat+((y&&!x)&&!(y'&&!x')).toNat<=(!x&&x').toNat+(y&&!y').toNat:=∅
def Qd(a:List (Int×Int))(X Y:Int->Bool):di a (λv=>X v&&Y v)+di a (λv=>X v || Y v)<=di a X+di a Y:=by
 induction a with
 |nil=>exact Ì _
 |cons t a ih =>
  simp only[tZ];have:=bi2 (X t.1) (Y t.1) (X t.2) (Y t.2);lia
def Qi(a:List (Int×Int))(X Y:Int->Bool):dO a (λv=>X v&&Y v)+dO a (λv=>X v || Y v)<=dO a X+dO a Y:=by
 induction a with
 |nil=>exact Ì _
 |cons t a ih =>
  simp only[ud];have:=bo2 (X t.1) (Y t.1) (X t.2) (Y t.2);lia
def Xi(a:List (Int×Int))(X Y:Int->Bool):di a (λv=>X v&&!Y v)+dO a (λv=>Y v&&!X v)<=di a X+dO a Y:=by
 induction a with
 |nil=>exact Ì _
 |cons t a ih =>
  simp only[tZ,ud];have:=bm2 (X t.1) (Y t.1) (X t.2) (Y t.2);lia
def lJ{es:fM}{X:Int->Bool}(h:∀e∈es,X e=true):mg es X=⇑es:=List.countP_eq_length.mpr h
def Yj(es:fM)(X Y:Int->Bool):mg es (λv=>X v&&!Y v)+mg es (λv=>X v&&Y v)=mg es X:=by
 induction es with
 |nil=>rfl
 |cons e es ih =>
  simp only[ni];cases X e <;> cases Y e <;> simp_all <;> lia
section
variable{n k:Nat}{us:List (Int×Int)}{H T:fM}{a:Int}
structure Fit(n k:Nat)(us:List (Int×Int))(H T:fM):Prop where
 rH:∀e∈H,0<=e/\e<(n:Int)
 rT:∀e∈T,0<=e/\e<(n:Int)
 len:⇑H=⇑T
 c1:∀X,Prp n X->k<=di us X+mg H X
 c2:∀X,Prp n X->k<=dO us X+mg T X
def Fit.f1(F:Fit n k us H T){X:Int->Bool}(p:Prp n X)(t:di us X+mg H X<=k):mg H X+mg T X<=⇑H:=by
 have:=F.c2 _ p.not;rw[Qj]at this;have:=N6 T X;have:=F.len;lia
def Fit.f2(F:Fit n k us H T){X:Int->Bool}(p:Prp n X)(t:dO us X+mg T X<=k):mg H X+mg T X<=⇑H:=by
 have:=F.c1 _ p.not;rw[vR]at this;have:=N6 H X;lia
def Ti(n k:Nat)(us:List (Int×Int))(H:fM)(a:Int)(X:Int->Bool):Prop:=Prp n X/\X a=true/\di us X+mg H X<=k
def To(n k:Nat)(us:List (Int×Int))(T:fM)(a:Int)(X:Int->Bool):Prop:=Prp n X/\X a=true/\dO us X+mg T X<=k
def FT{X Y:Int->Bool}(e:Prp n X)(f:Prp n Y):Prp n (λv=>X v || Y v)\/∀v:Int,0<=v/\v<n->(X v || Y v)=true:=by
 by_cases c:∃v:Int,(0<=v/\v<n)/\(X v || Y v)=false
 ·let⟨v,a,b⟩:=e.ins;exact .inl ⟨⟨v,a,by show(X v || Y v)=true;rw[b];rfl⟩,c⟩
 ·refine .inr λv hv=>?_;cases d:X v || Y v with
  |true=>rfl
  |false=>exact ft ⟨v,hv,d⟩ c
def Bm{X Y:Int->Bool}(b:Prp n X){v:Int}(hv:0<=v/\v<n)(h1:X v=true)(h2:Y v=true):Prp n (λv=>X v&&Y v) :=
 b.sub hv (by show(X v&&Y v)=true;rw[h1,h2];rfl) λu h=>by
  cases d:X u with
  |true=>rfl
  |false=>rw[show(X u&&Y u)=false by rw[d];rfl]at h;cases h
def Fit.XQ(F:Fit n k us H T)(ha:a∈T){X Y:Int->Bool}(g:Ti n k us H a X)(h:Ti n k us H a Y):Ti n k us H a λv=>X v || Y v:=by
 let⟨b,c,l⟩:=g;let⟨d,f,m⟩:=h;have j:=F.rT a ha;have u:=Ng H X Y;have w:=Ng T X Y;rcases FT b d with p|p
 ·have i:=F.c1 _ (Bm b j c f);have o:=F.c1 _ p;have:=Qd us X Y;exact⟨p,by show(X a || Y a)=true;rw[c];rfl,()⟩
 ·have q:=lJ (X:=λv=>X v || Y v) λe he=>p e (F.rH e he);have r:=lJ (X:=λv=>X v || Y v) λe he=>p e (F.rT e he);have s:=F.f1 b l;have t:=F.f1 d m;have:1<=mg T λv=>X v&&Y v:=qT ha (by show(X a&&Y a)=true;rw[c,f];rfl);have:=F.len;lia
def Fit.XM(F:Fit n k us H T)(ha:a∈T){X Y:Int->Bool}(g:To n k us T a X)(h:To n k us T a Y):To n k us T a λv=>X v || Y v:=by
 let⟨b,c,l⟩:=g;let⟨d,f,m⟩:=h;have j:=F.rT a ha;have u:=Ng H X Y;have w:=Ng T X Y;rcases FT b d with p|p
 ·have i:=F.c2 _ (Bm b j c f);have o:=F.c2 _ p;have:=Qi us X Y;exact⟨p,by show(X a || Y a)=true;rw[c];rfl,()⟩
 ·have q:=lJ (X:=λv=>X v || Y v) λe he=>p e (F.rH e he);have r:=lJ (X:=λv=>X v || Y v) λe he=>p e (F.rT e he);have s:=F.f2 b l;have t:=F.f2 d m;have:1<=mg T λv=>X v&&Y v:=qT ha (by show(X a&&Y a)=true;rw[c,f];rfl);have:=F.len;lia
theorem Fit.cover(F:Fit n k us H T)(ha:a∈T):∀L:fM,(∀b∈L,∃X,X b=true/\(Ti n k us H a X\/To n k us T a X))->∃X Y:Int->Bool,(Ti n k us H a X\/X=λ_=>false)/\(To n k us T a Y\/Y=λ_=>false)/\∀b∈L,X b=true\/Y b=true
 |[],_=>⟨_,_,.inr rfl,.inr rfl,λb h=>(nomatch h)⟩
 |b::L,h=>by
  let⟨X,Y,f,g,hc⟩:=F.cover ha L λx c=>h x (Ç _ c);let⟨Z,i,d⟩:=h b Æ;rcases d with d|d
  ·rcases f with f|rfl
   ·refine⟨_,Y,.inl (F.XQ ha f d),g,λx c=>?_⟩;rcases Õ.mp c with rfl|c
    ·exact .inl (by show(X x || Z x)=true;rw[i,Bool.or_true])
    ·exact(hc x c).imp (λe=>by show(X x || Z x)=true;rw[e];rfl) id
   ·refine⟨Z,Y,.inl d,g,λx c=>?_⟩;rcases Õ.mp c with rfl|c
    ·exact .inl i
    ·exact .inr ((hc x c).elim (λe=>nomatch e) id)
  ·rcases g with g|rfl
   ·refine⟨X,_,f,.inl (F.XM ha g d),λx c=>?_⟩;rcases Õ.mp c with rfl|c
    ·exact .inr (by show(Y x || Z x)=true;rw[i,Bool.or_true])
    ·exact(hc x c).imp id (λe=>by show(Y x || Z x)=true;rw[e];rfl)
   ·refine⟨X,Z,f,.inl d,λx c=>?_⟩;rcases Õ.mp c with rfl|c
    ·exact .inr i
    ·exact .inl ((hc x c).elim id (λe=>nomatch e))
def Fit.split(F:Fit n k us H T)(ha:a∈T)(x:∃b∈H,b≠a):∃b∈H,b≠a/\∀X,Prp n X->X a=true->X b=true->k+1<=di us X+mg H X/\k+1<=dO us X+mg T X:=by
 apply ù;intro q;have Q:=F.rT a ha;have s:∀X:Int->Bool,X a=true->1<=mg T X:=λX h=>qT ha h;have p:∀b∈H.filter (λb=>decide (b≠a)),∃X,X b=true/\(Ti n k us H a X\/To n k us T a X):=λb hb=>by
  let⟨b1,b2⟩:=â.mp hb;have b2:=fk b2;apply ù;intro hn;refine q ⟨b,b1,b2,λX h1 h2 h3=>⟨?_,?_⟩⟩
  ·rcases Ű (di us X+mg H X) (k+1)with y|y
   ·exact ft ⟨X,h3,.inl ⟨h1,h2,()⟩⟩ hn
   ·exact y
  ·rcases Ű (dO us X+mg T X) (k+1)with y|y
   ·exact ft ⟨X,h3,.inr ⟨h1,h2,()⟩⟩ hn
   ·exact y
 let⟨X,Y,m,i,hc⟩:=F.cover ha _ p;have c:∀e∈H,e=a\/X e=true\/Y e=true:=λe he=>by
  by_cases z:e=a
  ·exact .inl z
  ·exact .inr (hc e (â.mpr ⟨he,gz z⟩))
 have f:Ti n k us H a X->(∀e∈H,X e=true)->False:=λ⟨l,j,o⟩ h=>by
  have:=F.f1 l o;have:=lJ h;have:=s X j;lia
 have g:To n k us T a Y->(∀e∈H,Y e=true)->False:=λ⟨l,j,o⟩ h=>by
  have:=F.f2 l o;have:=lJ h;have:=s Y j;lia
 rcases m with m|rfl
 ·rcases i with i|rfl
  ·let⟨l,j,o⟩:=m;let⟨t,r,N⟩:=i;by_cases A:∃u:Int,(0<=u/\u<n)/\X u=true/\Y u=false
   ·by_cases B:∃u:Int,(0<=u/\u<n)/\Y u=true/\X u=false
    ·let⟨u,J,G,I⟩:=A;let⟨w,M,K,L⟩:=B;have D:Prp n λv=>X v&&!Y v:=l.sub J (by show(X u&&!Y u)=true;rw[G,I];rfl) λv h=>by
      cases d:X v with
      |true=>rfl
      |false=>rw[show(X v&&!Y v)=false by rw[d];rfl]at h;cases h
     have E:Prp n λv=>Y v&&!X v:=t.sub M (by show(Y w&&!X w)=true;rw[K,L];rfl) λv h=>by
      cases d:Y v with
      |true=>rfl
      |false=>rw[show(Y v&&!X v)=false by rw[d];rfl]at h;cases h
     have h1:=F.c1 _ D;have h2:=F.c2 _ E;have:=Xi us X Y;have O:=Yj H X Y;have P:=Yj T Y X;have:1<=mg T λv=>Y v&&X v:=qT ha (by show(Y a&&X a)=true;rw[j,r];rfl);lia
    ·refine f ⟨l,j,o⟩ λe he=>?_;rcases c e he with rfl|h|h
     ·exact j
     ·exact h
     ·cases d:X e with
      |true=>rfl
      |false=>exact ft ⟨e,F.rH e he,h,d⟩ B
   ·refine g ⟨t,r,N⟩ λe he=>?_;rcases c e he with rfl|h|h
    ·exact r
    ·cases d:Y e with
     |true=>rfl
     |false=>exact ft ⟨e,F.rH e he,h,d⟩ A
    ·exact h
  ·exact f m λe he=>by
    rcases c e he with rfl|h|h
    ·exact m.2.1
    ·exact h
    ·cases h
 ·rcases i with i|rfl
  ·exact g i λe he=>by
    rcases c e he with rfl|h|h
    ·exact i.2.1
    ·cases h
    ·exact h
  ·let⟨b,hb,C⟩:=x;rcases c b hb with h|h|h
   ·exact C h
   ·cases h
   ·cases h
def Tgt(n k:Nat)(us:List (Int×Int))(H T:fM):Prop:=(∀b∈H,∃X,Prp n X/\X b=true/\di us X+mg H X=k)\/∀b∈T,∃X,Prp n X/\X b=true/\dO us X+mg T X=k
def Fit.other(F:Fit n k us H T)(ha:a∈T)(t:Tgt n k us H T):∃b∈H,b≠a:=by
 apply ù;intro g;have c:∀b∈H,b=a:=λb hb=>ù λz=>g ⟨b,hb,z⟩;have l:=List.length_pos_of_mem ha;have i:=F.len;rcases t with t|t
 ·obtain⟨b,hb⟩:∃b,b∈H:=by
   match H,i with
   |[],e=>simp at e;lia
   |b::_,_=>exact⟨b,Æ⟩
  let⟨X,f,d,j⟩:=t b hb;rw[c b hb]at d;have:=F.f1 f ();have:=lJ (X:=X) λe he=>by rw[c e he];exact d
  have:=qT ha d;lia
 ·let⟨X,f,d,j⟩:=t a ha;have:=F.f2 f ();have p:=qT ha d;have m:=N6 H X;have:1<=mg H λv=>!X v:=by
   have h:=F.c1 _ f.not;rw[vR]at h;lia
  let⟨b,hb,h⟩:=List.countP_pos_iff.mp (show 0<H.countP λv=>!X v from this);rw[c b hb,d]at h;cases h
def Uo{b:Int}(hb:b∈H)(X:Int->Bool):mg (H.erase b) X+(X b).toNat=mg H X:=by
 have:=(List.perm_cons_erase hb).countP_eq X;unfold mg;rw[this,List.countP_cons];cases X b <;> rfl
def Fit.step{b:Int}{R:fM}(F:Fit n k us H (a::R))(hb:b∈H)(h:∀X,Prp n X->X a=true->X b=true->k+1<=di us X+mg H X/\k+1<=dO us X+mg (a::R) X)(t:Tgt n k us H (a::R)) :
  Fit n k ((a,b)::us) (H.erase b) R/\Tgt n k ((a,b)::us) (H.erase b) R:=by
 have m:∀X,di ((a,b)::us) X+mg (H.erase b) X+(X a&&X b).toNat=di us X+mg H X:=λX=>by
  rw[tZ,←Uo hb X];cases X a <;> cases X b <;> simp <;> lia
 have o:∀X,dO ((a,b)::us) X+mg R X+(X a&&X b).toNat=dO us X+mg (a::R) X:=λX=>by
  rw[ud,ni];cases X a <;> cases X b <;> simp <;> lia
 have j:∀X:Int->Bool,(X a&&X b)=false\/(X a=true/\X b=true):=λX=>by
  cases X a <;> cases X b <;> simp
 have le:=List.length_erase_of_mem hb;have r:=List.length_pos_of_mem hb;have p:=F.len;rw[à]at p;refine⟨⟨λe he=>F.rH e (List.mem_of_mem_erase he),λe he=>F.rT e (Ç _ he),(),λX hX=>?_,λX hX=>?_⟩,?_⟩
 ·have g:=m X;have:=F.c1 X hX;rcases j X with c|⟨d,f⟩
  ·rw[c]at g;simp at g;lia
  ·have:=(h X hX d f).1;rw[d,f]at g;simp at g;lia
 ·have g:=o X;have:=F.c2 X hX;rcases j X with c|⟨d,f⟩
  ·rw[c]at g;simp at g;lia
  ·have:=(h X hX d f).2;rw[d,f]at g;simp at g;lia
 ·rcases t with t|t
  ·refine .inl λv hv=>?_;let⟨X,i,l,q⟩:=t v (List.mem_of_mem_erase hv);refine⟨X,i,l,?_⟩;have g:=m X;rcases j X with c|⟨d,f⟩
   ·rw[c]at g;simp at g;lia
   ·have:=(h X i d f).1;lia
  ·refine .inr λv hv=>?_;let⟨X,i,l,q⟩:=t v (Ç _ hv);refine⟨X,i,l,?_⟩;have g:=o X;rcases j X with c|⟨d,f⟩
   ·rw[c]at g;simp at g;lia
   ·have:=(h X i d f).2;lia
end
section
variable{n k:Nat}{H:fM}{d e:(Int->Bool)->Nat}
def QZ(rng:∀b∈H,0<=b/\b<(n:Int))(y:∀X,Prp n X->k<=d X+mg H X)(w:∀X Y,d (λv=>X v&&Y v)+d (λv=>X v || Y v)<=d X+d Y)(j:∀X,e (λv=>!X v)=d X) :
  ∀(N:Nat)(f:List (Int->Bool)),⇑f<=N->(∀X∈f,Prp n X/\d X+mg H X=k)->(∀b∈H,∃X∈f,X b=true) ->
  ∃Gs:List (Int->Bool),Gs.Pairwise (Dj n)/\(∀X∈Gs,Prp n X)/\(⇑H<=(Gs.map λX=>k - d X).sum\/⇑H<=(Gs.map λX=>k - e X).sum):=by
 intro N;induction N with
 |zero =>
  intro f hN _ hc;have:f=[]:=ŵ.mp ();subst this;refine⟨[],.nil,λX h=>(nomatch h),.inl ?_⟩;cases H with
  |nil=>exact Ì _
  |cons b H =>
   let⟨X,h,_⟩:=hc b Æ;cases h
 |succ N ih =>
  intro f hN g hc;by_cases c:f.Pairwise (Dj n)
  ·refine⟨f,c,λX hX=>(g X hX).1,.inl ?_⟩;rw[←(Le rng c).2 hc];refine Nat.le_of_eq (fv List.sum (Ĝ λX hX=>?_));have:=(g X hX).2;lia
  let⟨X,Y,r,l,t⟩:=N5 c;have m:=g X (l.mem_iff.mpr Æ);have s:=g Y (l.mem_iff.mpr (Ç _ Æ));have A:∀Z∈r,Prp n Z/\d Z+mg H Z=k:=λZ a=>g Z (l.mem_iff.mpr (Ç _ (Ç _ a)));have z:=l.length_eq;rw[à,à]at z;have⟨v,hv⟩:=Classical.not_forall.mp t;have⟨vr,hv⟩:=Classical.not_imp.mp hv;have⟨vX,hv⟩:=Classical.not_imp.mp hv;have B:Y v=true:=by
   cases d:Y v with
   |true=>rfl
   |false=>exact ft d hv
  have D:=Ng H X Y;rcases FT m.1 s.1 with p|p
  ·have i:=y _ (Bm m.1 vr vX B);have o:=y _ p;have tw:=w X Y;refine ih ((λv=>X v || Y v)::r) (by rw[à];lia) (λZ a=>?_) λb hb=>?_
   ·rcases Õ.mp a with rfl|a
    ·exact⟨p,by have:=m.2;have:=s.2;lia⟩
    ·exact A Z a
   ·let⟨Z,a,q⟩:=hc b hb;rcases Õ.mp (l.mem_iff.mp a)with rfl|a
    ·exact⟨_,Æ,by show(Z b || Y b)=true;rw[q];rfl⟩
    ·rcases Õ.mp a with rfl|a
     ·exact⟨_,Æ,by show(X b || Z b)=true;rw[q,Bool.or_true]⟩
     ·exact⟨Z,Ç _ a,q⟩
  ·refine⟨[λv=>!X v,λv=>!Y v],.cons (λZ a=>?_) (.cons (λZ h=>(nomatch h)) .nil),λZ a=>?_,.inr ?_⟩
   ·rw[Í.mp a];intro u hu h;have h:(!X u)=true:=h;have:=p u hu;show(!Y u)=false;cases x:X u with
    |true=>rw[x]at h;cases h
    |false=>rw[x]at this;simp at this;rw[this];rfl
   ·rcases Õ.mp a with rfl|a
    ·exact m.1.not
    ·rw[Í.mp a];exact s.1.not
   ·have C:=lJ (X:=λv=>X v || Y v) λb hb=>p b (rng b hb);have h1:=m.2;have h2:=s.2;show ⇑H<=(k - e λv=>!X v)+((k - e λv=>!Y v)+0)
    rw[j X,j Y];lia
def BR(rng:∀b∈H,0<=b/\b<(n:Int))(p:∀X,Prp n X->k<=d X+mg H X)(q:∀b∈H,∃X,Prp n X/\X b=true/\d X+mg H X=k)(o:∀X Y,d (λv=>X v&&Y v)+d (λv=>X v || Y v)<=d X+d Y)(m:∀X,e (λv=>!X v)=d X) :
  ∃Gs:List (Int->Bool),Gs.Pairwise (Dj n)/\(∀X∈Gs,Prp n X)/\(⇑H<=(Gs.map λX=>k - d X).sum\/⇑H<=(Gs.map λX=>k - e X).sum):=by
 have i:∀l:fM,(∀b∈l,∃X,Prp n X/\X b=true/\d X+mg H X=k)->∃a:List (Int->Bool),(∀X∈a,Prp n X/\d X+mg H X=k)/\∀b∈l,∃X∈a,X b=true:=λl=>by
  induction l with
  |nil=>intro _;exact⟨[],λX h=>(nomatch h),λb h=>(nomatch h)⟩
  |cons b l ih =>
   intro h;let⟨a,f,g⟩:=ih λx c=>h x (Ç _ c);let⟨X,r,s,t⟩:=h b Æ;refine⟨X::a,λY j=>?_,λx c=>?_⟩
   ·rcases Õ.mp j with rfl|j
    ·exact⟨r,t⟩
    ·exact f Y j
   ·rcases Õ.mp c with rfl|c
    ·exact⟨X,Æ,s⟩
    ·let⟨Y,u,w⟩:=g x c;exact⟨Y,Ç _ u,w⟩
 let⟨a,f,g⟩:=i H q;exact QZ rng p o m _ a (Ì _) f g
end
end Cut
namespace Dl
open L2
def grU(T:Pn):Gr:=⟨λp _=>p=T⟩
def Vn(f:fE)(t:DA):DE:=λρ P=>t ρ λks=>f (ks.map (·.2)) λd=>P (norm .new d) d
section
variable{X:Cx}{k j:Nat}{x:Str}{ps:List Str}{e:YE}{es:List YE}{t:DA}{p pos:Pos}{T:Pn}{f:fE}
def Om:∀σ H Q,@aV (grU T) (Vn f t) σ H Q->uy (spT T f) [] E0 (@iI (grU T) t) σ H Q:=by
 letI:=grU T;rintro σ H Q ⟨q,b,own,ρ,P,E,t,k⟩;have c:q=T:=E.gr;subst c;refine⟨_,b,own,ρ,_,E,t,λks vs H1 h A r=>?_⟩;show spT q f (vs++[]) H1 Q E0;rw[í];refine⟨ks.map (·.2),_,A.pen,(RpK.rps A r).mono (λ_ o z=>o z) (λ_ _ _ e=>e) (λ_ _ e=>e),h,λd v H' h2 kp pi' r2=>?_⟩;exact k _ d v H' h2 (A.go kp pi') (aR (r2.mono (λa o=>A.free o) (λ_ _ _ e=>e) λ_ _ e=>e))
def dcU(CC:Cal X.prog X.w X.K X.mg X.gy k x ps (spT T f))(hr:Room j X.A)(ha:@PDA (grU T) X (e::es) t)(hk:k<=j:=by decide)(hg:Gl X x:=by rfl)(hdb:zB x:=by decide)(he:zS X e es:=by rfl)(hpl:zP X pos es:=by rfl) :
  @PD (grU T) X (.Call (.Name x p) (e::es) [] pos) (Vn f t):=PE.wk (pcS CC hr ha hk hg hdb he hpl) Om
def PX{Tm:DS}{N:List Str}{vs:List V}{H:Hp}{Q:VK}{E:XK}(h:spT T f vs H Q E)(a:∀ds P,f ds P->∃ρ,ds.map bJ++Ë (⇑N - ⇑ds) .any=ρ/\Tm { nx:=λ_=>P .none,rt:=P } ρ):@ql (grU T) Tm { nx:=λ_ H'=>Q .non H',rt:=Q } (L2.start N vs) H:=by
 letI:=grU T;let⟨ds,P,c,r,t,q⟩:=h;let⟨ρ,e,b⟩:=a ds P t;have E:=jE (p:=T) (N:=N) rfl c r;rw[⇑r,e]at E;exact⟨T,H,λ_=>none,_,_,E,b,⟨λo s h' r' e' _ n=>q _ _ h' n e'.k0 e'.pen .non,λd v h' n w=>q d v h' n w.k0 w.pen (w.rp.mono (λ_ o=>o.1) (λ_ _ _ e=>e) λ_ _ e=>e),λ_ _ _ _ _ _ n=>n.elim,λ_ _ _ _ _ _ n=>n.elim⟩⟩
end
end Dl
namespace Wr
open L2 Dl
variable{X:Cx}{k j:Nat}{x:Str}{ps:List Str}{e:YE}{es:List YE}{t:DA}{p pos:Pos}{T:Pn}{f:fE}
def dcU(CC:Cal X.prog X.w X.K X.mg X.gy k x ps (spT T f))(hr:Room j X.A)(ha:@WDA (grU T) X (e::es) t)(hk:k<=j:=by decide)(hg:Gl X x:=by rfl)(hdb:zB x:=by decide)(he:zS X e es:=by rfl)(hpl:zP X pos es:=by rfl) :
  @WD (grU T) X (.Call (.Name x p) (e::es) [] pos) (Vn f t):=@WD.mk (grU T) _ _ _ (Dl.dcU CC hr (@WDA.h (grU T) _ _ _ ha) hk hg hdb he hpl)
end Wr
namespace Dl
open L2
@[reducible] def grE(a b:Addr):Gr:=⟨λp H0=>p=fC/\H0 a=some (aa1 a (.ref b))⟩
variable{X:Cx}{pos:Pos}
structure RefK(K:Ý)(mg:Str->gf)(xN:Str)(xs:List Str)(CN CF c1 c2 c3 c4 c5 c6 c7 c8 c9:Addr):Prop where
 mF:mg "FallError"=some (.ref CF)
 mN:mg xN=some (.ref CN)
 m1:mg (xs.getD 0 "")=some (.ref c1)
 m2:mg (xs.getD 1 "")=some (.ref c2)
 m3:mg (xs.getD 2 "")=some (.ref c3)
 m4:mg (xs.getD 3 "")=some (.ref c4)
 m5:mg (xs.getD 4 "")=some (.ref c5)
 m6:mg (xs.getD 5 "")=some (.ref c6)
 m7:mg (xs.getD 6 "")=some (.ref c7)
 m8:mg (xs.getD 7 "")=some (.ref c8)
 m9:mg (xs.getD 8 "")=some (.ref c9)
 mV:mg "ValueError"=none
 exm:W.exmOne K (.ref CN) (.ref CF)=some true
 kx:ExcK K CN
 no:∀c∈[ģ c1,.ref c2,.ref c3,.ref c4,.ref c5,.ref c6,.ref c7,.ref c8,.ref c9],W.kitOne K (.ref CN) c=some false
 one:W.kitOne K (.ref CN) (.ref CN)=some true
 val:W.kitOne K (.ref CN) (.type "ValueError")=some true
end Dl
namespace L2
open PySem.Spec
variable{X:Cx}{k:Nat}{f CF:Addr}{fd:WS}{ps:List Str}{sp:Sp}{x hx n:Str}{p np cpos epos hpos:Pos}{e:YE}{es:List YE}{t:TA}{b₀:XB}{suite:List XB}{ts:TS}{j:Nat}
def YF:V->List V->Hp->VK->Prop:=λx vs H Q=>∃(l:Addr)(ns:fM)(k:Int)(j:Nat),x=.ref l/\vs=[.int k]/\H l=some (.lst (ns.map V.int))/\ns[j]?=some k/\(∀m,m<j->ns[m]?≠some k)/\Q .non (upd H l (.lst ((ns.eraseIdx j).map V.int)))
def isK(k:Int):Value->Bool
 |.int a _=>a==k
 |_=>false
theorem Di{α β:Type}(g:α->β):∀(l:List α)(i:Nat),(l.map g).eraseIdx i=(l.eraseIdx i).map g
 |[],_=>rfl
 |_::_,0=>rfl
 |x::l,i+1=>fv (g x::·) (Di g l i)
def JR{X:Cx}:MtM X "list.remove" YF:=by
 intro C s σ H x vs v K Q I J G h;let⟨l,ns,k,j,rfl,rfl,B,E,o,q⟩:=h;cases J;let⟨u,rfl,A⟩:=G.one;let⟨t,rfl⟩:=A;let⟨z,its,n,r,hl,e⟩:=I.Ab B;have c:∀(m:Nat)(a:Int),ns[m]?=some a->∃t',its[m]?=some (Ń a t'):=λm a hm=>by
  let⟨u,hu,A⟩:=r.get (i:=m) (x:=V.int a) (by rw[Þ,hm];rfl);let⟨t',rfl⟩:=A;exact⟨t',hu⟩
 have b:⇑its=⇑ns:=by rw[←hl,À]
 let⟨t',d⟩:=c j k E;have g:j<⇑its:=(È.mp d).1;refine UM F.slot_list_remove ⟨_,e,rfl⟩ F.entry_list_remove (F.args_list_remove_2 _ _)
  (MeetsSeq.list_remove l its.toArray n (.int k t) (isK k) (λy w=>?_) j (by rw[Ñ];exact g) ?_ (λm hm hmj=>?_) (by rw[Ñ];lia)) ⟨e,?_⟩
 ·have w:y∈its:=↑w
  let⟨m,hm⟩:=Ķ w;have hml:m<⇑ns:=by rw[←b];exact(È.mp hm).1
  let⟨t2,h2⟩:=c m _ (Å hml);rw[hm]at h2;cases h2;exact MeetsSeq.EqGives.int _ _ _ _
 ·show isK k its.toArray[j]=true;have:its.toArray[j]=Ń k t':=by
   rw[List.getElem_toArray];exact(È.mp d).2
  rw[this];exact fw k
 ·have hml:m<⇑its:=by rw[Ñ]at hm;exact hm
  let⟨t2,h2⟩:=c m _ (Å (by rw[←b];exact hml));have D:its.toArray[m]=Ń ns[m] t2:=by
   rw[List.getElem_toArray];exact(È.mp h2).2
  rw[D];have:=o m hmj;rw[Å (by rw[←b];exact hml)]at this;exact beq_false_of_ne λz=>this (by rw[z])
 refine⟨.non,_,I.Oi (its':=its.eraseIdx j) B e ?_ (ys:=(ns.eraseIdx j).map V.int) ?_ ?_,rfl,q⟩
 ·show its.toArray.eraseIdxIfInBounds j=(its.eraseIdx j).toArray;rw[List.eraseIdxIfInBounds_toArray]
 ·have:=r.eraseIdx j;rw[Di]at this;exact this
 ·have:=qW ns j;rw[À];lia
end L2
namespace Dl
open L2
theorem DX{k:Int}:∀{ns:fM},k∈ns->∃j:Nat,ns[j]?=some k/\(∀m,m<j->ns[m]?≠some k)/\ns.eraseIdx j=ns.erase k
 |x::ns,h=>by
  by_cases e:x=k
  ·subst e;exact⟨0,rfl,λm hm=>ft hm (Nat.not_lt_zero _),by rw[List.erase_cons_head];rfl⟩
  ·have h':k∈ns:=(Õ.mp h).resolve_left λz=>e z.symm;let⟨j,a,b,c⟩:=DX h';refine⟨j+1,a,λm hm=>?_,by rw[List.eraseIdx_cons_succ,c,List.erase_cons_tail ↑e]⟩;cases m with
   |zero=>exact λz=>e (ß z)
   |succ m=>exact b m ()
variable [Gr] {X:Cx}{st:XB}{tj:DE}
def Z8(i:Nat)(tj:DE):DS:=λP ρ=>∃(r:Nat)(ns:fM),ρ[i]?=some (.dw r (.list (ns.map Â)))/\tj ρ λ_ dj=>match dj with
 |.int k=>k∈ns/\P.nx ((forget r ρ).set i (.dw r (.list ((ns.erase k).map Â))))
 |_=>False
theorem q9{i:Nat}(h:PS X st (pB (tBM X.K "list" YF (iY i) (iI (aX tj eF))))):PDS X st (Z8 i tj):=PS.wk' h (by
 rintro Q σ H ⟨p,n,own,ρ,P,E,⟨r,ns,hr,t⟩,w⟩;let⟨v,hv,x⟩:=E.slot i _ hr;let⟨l,vs,rfl,hl,c,d⟩:=x.bT;refine⟨.ref l,hv,.inl ⟨rfl,vs,SqL.of c⟩,p,n,own,ρ,_,E,pZ t,?_⟩;rintro ks ws o ⟨k,q,rfl,hh⟩ A B;let⟨y,rfl,C⟩:=gq B;cases q with
 |int a =>
  let⟨hm,hn⟩:=hh;have s:=Rp.int' C;have h1:o l=some (.lst vs):=A.kp l _ c (E.ow l r hl).2.1;have u:=Rps.ints d;subst u;let⟨j,z,b,he⟩:=DX hm;refine⟨l,ns,a,j,rfl,by rw[s],h1,z,b,?_⟩;rw[he];let⟨e,m⟩:=E.uJ (vs':=(ns.erase a).map V.int) (ds':=(ns.erase a).map Â) A hv hl c d λH2 f g=>Rps.ofMap (λi=>.int i) _;exact w.nx _ σ _ _ e m hn
 |_=>exact hh.elim)
end Dl
namespace Wr
open L2 Dl
variable [Gr] {X:Cx}{pos:Pos}
def q9{i:Nat}{x:Str}{e:YE}{es:List YE}{k:DE}{b a g:Pos}(hv:WV X (.Name x g) i)(ha:WDA X (e::es) (aX k eF))(d:UK (.Name x g) "remove" X.env (YN (.Name x g) X.env)=YN (.Name x g) X.env:=by rfl)(j:zW X a (e::es):=by rfl)(f:(b.endLine==a.line)=true:=by rfl)(hst:zS X e es:=by rfl)(c:zP X a es:=by rfl)(hs:XV (.Call (.Attribute (.Name x g) "remove" b) (e::es) [] a) none pos.line X.env=pure false:=by rfl) :
  WDS X (.Expr (.Call (.Attribute (.Name x g) "remove" b) (e::es) [] a) pos) (Z8 i k):=⟨Dl.q9 (bY (iy û PySem.F.slot_list_remove PySem.F.type_list_remove JR hv.h ha.h d j f hst c) hs)⟩
end Wr
namespace L2
open PySem.Spec
section
variable{X:Cx}{tg:YE}
end
end L2
namespace Dl
open L2
variable [Gr]
section
variable{X:Cx}{tg:YE}{pos:Pos}{ta:DA}
end
end Dl
namespace Wr
open L2 Dl
variable [Gr] {X:Cx}{tg:YE}{pos:Pos}{ta:DA}
end Wr
namespace Dl
open L2
variable [Gr]
section
variable{X:Cx}{st st2:XB}{rest:List XB}{te:DE}{t:DS}
end
end Dl
namespace Wr
open L2 Dl
section
variable [Gr] {X:Cx}{te:DE}
end
end Wr
set_option maxHeartbeats 4000000
namespace L2
open PySem.Spec
variable{X:Cx}
section
variable{M:Y3}{A:Ys}{E:fA}{s:Shared}
variable{κ:Th}{mem:Tk->Prop}{key:Tk->Int}
end
section
variable{key:Tk->Int}
def XF(key:Tk->Int)(l:List Tk):Prop:=l.Pairwise λx y=>key x<=key y
def Lel(key:Tk->Int)(l r:List Tk):Prop:=∀x∈l,∀y∈r,key x<=key y
structure MI(key:Tk->Int)(T out R S:List Tk):Prop where
 pm:(out++(R++S)).Perm T
 so:XF key out
 sr:XF key R
 ss:XF key S
 le:Lel key out (R++S)
structure Alk(st st':Tl):Prop where
 a:Ts st'=Ts st
 k:kindOf st'=kindOf st
 p:TD st'=TD st
 f:Tu st'=Tu st
section
variable{key:Tk->Int}{a b out:Array Tk}{ia ib k:Nat}
end
section
variable{M:Y3}{A:Ys}{E:fA}{s:Shared}{κ:Th}{mem:Tk->Prop}{key:Tk->Int}
def ga(xs:Array Tk)(i:Nat):Tk:=(xs[i]?).getD (.none,.none)
section
variable{key:Tk->Int}{a b out:Array Tk}{na nb k:Nat}
def tk(a:Array Tk)(n:Nat):List Tk:=(a.toList.take n).reverse
end
end
section
variable{key:Tk->Int}{xs ys l:Array Tk}{off i j:Nat}
end
end
structure Kep(a₀:Array Tk)(κ:Th)(st:Tl):Prop where
 perm:(Ts st).toList.Perm a₀.toList
 kind:kindOf st=κ
 fail:Tu st=none
section
variable{M:Y3}{A:Ys}{E:fA}{s:Shared}{κ:Th}{key:Tk->Int}{a₀:Array Tk}
structure Rn(a₀:Array Tk)(κ:Th)(P:Array (Nat×Nat×Nat))(X:Array Tk)(lo hi:Nat)(st:Tl):Prop where
 k:Kep a₀ κ st
 p:TD st=P
 o:∀j,j<lo\/hi<=j->ga (Ts st) j=ga X j
section
variable{M:Y3}{A:Ys}{E:fA}{s:Shared}{κ:Th}{key:Tk->Int}{a₀ X:Array Tk}{P:Array (Nat×Nat×Nat)}{lo hi:Nat}
end
section
variable{key:Tk->Int}{xs ys:Array Tk}
def rl(p:Array (Nat×Nat×Nat)):List (Nat×Nat):=p.toList.map λt=>(t.1,t.2.1)
end
end
section
variable{pins:fF}{σ:St}{H:Hp}{s:Shared}{it:Addr}
structure Mine(X:Cx)(pins:fF)(H:Hp)(it:Addr):Prop where
 h0:H it=none
 h1:it≠X.env.locals
 h2:X.s₀.heap.objs.size<=it
 h3:∀x c,X.env.cells.lookup x=some c->c≠it
 h4:∀p∈X.pn++pins,p.1≠it
 h5:it∉frs X.stack
def Inv.mine(I:Inv X pins σ H s)(h:↥s<=it):Mine X pins H it :=
 have b:∀o,s.heap.get? it≠some o:=λo e=>ft (Ó e) (Nat.not_lt.mpr h)
 ⟨I.hok.fresh h,ś (ì I.lt h),ĉ I.sz h,λx c e z=>by
  let⟨v,o,a,_⟩:=I.cell x c e;exact b o (z ▸ a),λp hp z=>b p.2 (z ▸ (I.pin p hp).1),λz=>by
  let⟨_,o,a,_⟩:=I.stack.mem z;exact b o a⟩
def Inv.xJ{h':Heap}{t':Nat}(I:Inv X pins σ H s)(m:Mine X pins H it)(k:∀b o,b≠it->s.heap.get? b=some o->h'.get? b=some o):Inv X pins σ H { s with heap:=h',toks:=t' }:=I.turned k m.h0 m.h1 (.inr m.h2) m.h3 m.h4
structure Gro(X:Cx)(ex:List Addr)(H:Hp)(h:Heap)(H1:Hp)(h1:Heap):Prop where
 sm:∀b o,H b=some o->H1 b=some o
 kp:∀b o,h.get? b=some o->H b=none->b≠X.env.locals->b∉frs X.stack->b∉ex->h1.get? b=some o/\H1 b=none
def Gro.trans{d:List Addr}{g i:Hp}{h h1 h2:Heap}(a:Gro X d H h g h1)(b:Gro X d g h1 i h2):Gro X d H h i h2 :=
 ⟨λc o e=>b.sm c o (a.sm c o e),λc o e n l f x=>by
  let⟨j,k⟩:=a.kp c o e n l f x;exact b.kp c o j k l f x⟩
def Gro.more{i d:List Addr}{g:Hp}{h h1:Heap}(a:Gro X i H h g h1)(k:∀b∈i,b∈d):Gro X d H h g h1:=⟨a.sm,λc o e n l f x=>a.kp c o e n l f λz=>x (k c z)⟩
def Gro.mine{b:Hp}{h h1:Heap}{o:Obj}(a:Gro X [] H h b h1)(m:Mine X pins H it)(e:h.get? it=some o):Mine X pins b it/\h1.get? it=some o:=by
 let⟨c,d⟩:=a.kp it o e m.h0 m.h1 m.h5 (λz=>nomatch z);exact⟨⟨d,m.h1,m.h2,m.h3,m.h4,m.h5⟩,c⟩
end
section
variable{pins:fF}{σ:St}{H:Hp}{s:Shared}{A:Ys}{a kS:Addr}{its:fT}{vs:List V}{kz:fM}{e e1:Nat}{P:PySem.Fin->Shared->Prop}{E:fA}{keys:fS}
def Gro.own{d:Hp}{h h1 h2:Heap}{b:Addr}(g:Gro X [a,kS] H h d h1)(hb:b=a\/b=kS)(k:∀c o,c≠b->h1.get? c=some o->h2.get? c=some o):Gro X [a,kS] H h d h2:=⟨g.sm,λc o e n l f x=>by
 let⟨e1,i⟩:=g.kp c o e n l f x;refine⟨k c o (λz=>x ?_) e1,i⟩;rcases hb with rfl|rfl
 ·rw[z];exact Æ
 ·rw[z];exact Ç _ (Í.mpr rfl)⟩
end
def J0(f:Addr)(cl:List (Str×Addr)):List Addr:=f::cl.filterMap λq=>cl.lookup q.1
section
variable{pins:fF}{σ:St}{H:Hp}{s:Shared}{f c':Addr}{qual:Str}{params:VM}{body:YE}{scope:YA}{cl:List (Str×Addr)}{ys:List Str}{cvs:List V}{pm ctv:Value}
def Sv(J:Inv X pins σ H s)(r:s.heap.get? f=some (W.kla_obj "<lambda>" qual params body scope cl pm c' ctv))(G:H f=none)(C:f∉frs X.stack)(q:∀x,X.fn x=true)(d:∀x c,cl.lookup x=some c->X.env.cells.lookup x=some c)(u:∀y∈ys,X.env.scope.names.lookup y=some .cell/\∃c,cl.lookup y=some c)(n:⇑cvs=⇑ys)(p:∀(j:Nat)(y:Str)(v:V),ys[j]?=some y->cvs[j]?=some v->∃i:Nat,X.N[i]?=some y/\σ[i]?=some (some v)) :
  Env0 X.prog X.w X.K X.mg (reb X.gy s.heap (J0 f cl)) X.A X.stack s H/\(reb X.gy s.heap (J0 f cl)).get? f=some (W.kla_obj "<lambda>" qual params body scope cl pm c' ctv)/\Caps (reb X.gy s.heap (J0 f cl)) cl ys cvs:=by
 have g:∀y c,X.env.cells.lookup y=some c->c∉frs X.stack:=λy c e z=>by
  rcases Õ.mp (J.uE c z)with z|z
  ·exact J.cne y c e z
  ·let⟨_,o,t,_⟩:=J.ok.nW.mem z;exact ft (Ó t) (Nat.not_lt.mpr (J.ok.cab y c (q y) e))
 have B:∀y c,cl.lookup y=some c->c∈J0 f cl:=λy c e=>Ç _ (Ŧ.mpr ⟨(y,c),ď e,e⟩);have D:∀b∈J0 f cl,(H b=none/\b∉frs X.stack):=λb hb=>by
  rcases Õ.mp hb with rfl|hb
  ·exact⟨G,C⟩
  ·let⟨⟨y,Q⟩,_,F⟩:=Ŧ.mp hb;have h:=d y b F;exact⟨J.freeC y b h,g y b h⟩
 have a:∀y c w,cl.lookup y=some c->s.heap.IsCell c w->(reb X.gy s.heap (J0 f cl)).IsCell c w:=λy c w e ⟨o,t,hd⟩=>⟨o,yL t (B y c e),hd⟩
 refine⟨J.env0.reb (λb hb=>(D b hb).1) λb hb=>(D b hb).2,yL r Æ,⟨n,λy c e=>?_,λj y w h1 h2=>?_⟩⟩
 ·let⟨w,I⟩:=J.cell y c (d y c e);exact⟨w,a y c w e I⟩
 ·let⟨i,L,M⟩:=p j y w h1 h2;let⟨E,c,e⟩:=u y (Î h1);let⟨m,_,hl⟩:=J.loc;let⟨P,O,l⟩:=hl i y w L M (.inr (.inl E));rcases l with⟨k,_⟩|⟨_,R,h,hc⟩
  ·have k:X.env.scope.names.lookup y=some .local:=k;rw[E]at k;cases k
  ·rw[d y c e]at h;cases h;exact⟨c,P,e,a y c _ e hc,O⟩
end
section
variable{k:Nat}{c P:Addr}{ps ys:List Str}{spL:List V->Addr->Sp}{p pos lpos kp:Pos}{e:YE}{te:TE}{qual:Str}{params:VM}{body:YE}{scope:YA}{cl:List (Str×Addr)}
end
end L2
namespace Dl
open L2
section
variable{K:Ý}{N:List Str}{P:Addr}{lpos:Pos}{qual y:Str}{i:Nat}{gk:D->D->Int->Prop}{te:DE}
end
end Dl
namespace L2
open PySem.Spec
variable{X:Cx}
def KC(a v:Value):Rs "max" ⟨[a],[(ë "key",v)]⟩:=by unfold Rs;kernel_rfl
def lW(a:fM):Nat:=U2 (λi j=>decide (a.getD i 0 > a.getD j 0)) (⇑a - 1)
def Bg{prog:Zg}{w:Zl}{A:Ys}{E:fA}{s:Shared}{id:String}{b:Builtin}{a:fT}{d:List (Str×Value)}{Q:fA}(hk:builtinKind id=none)(hp:plainId id=true)(hb:entryFor table id=some b)(ha:Rs id ⟨a,d⟩)(hc:wpAny (model prog w) A.in1 (b ⟨a,d⟩) (λfin s'=>match fin with
   |.done f=>(match(Except.ok f:WP)with|.ok (.ret v)=>Q v s'|.ok _=>False|.error e=>E e s')
   |.again c'=>c'.quiet=true/\WZ (model prog w) A c' (λr s'=>match r with|.ok (.ret v)=>Q v s'|.ok _=>False|.error e=>E e s') s') E s) :
  wpAny (model prog w) A (WF (.builtin id) a d) Q E s:=by
 refine W1 (codeAny_call_builtin hp hb ?_);simp only[checkBuiltinCall,hk];cases c:Manifest.signature? id with
 |none=>exact Ú hc
 |some sig =>
  have g:Bind.checkArgs id sig ⟨a,d⟩=pure PUnit.unit:=by simpa only[Rs,c]using ha
  simp only[g];exact Ú hc
section
variable{pins:fF}{σ:St}{H:Hp}{s:Shared}{A:Ys}{l I S:Addr}{vs:List V}{kz:fM}{f:Value}{R:WP->Shared->Prop}
def SqL.mono{K:Ý}{H c:Hp}{a:Addr}{xs:List V}(h:SqL K H a xs)(s:∀b o,H b=some o->c b=some o):SqL K c a xs:=by
 rcases h with(h|⟨o,h⟩)|h
 ·exact .inl (.inl (s _ _ h))
 ·exact .inl (.inr ⟨o,s _ _ h⟩)
 ·exact .inr h
structure MxK(X:Cx)(pins:fF)(σ:St)(H:Hp)(h:Heap)(l I S:Addr)(j:Nat)(H1:Hp)(s1:Shared):Prop where
 inv:Inv X pins σ H1 s1
 g:Gro X [I,S] H h H1 s1.heap
 mi:Mine X pins H1 I
 ms:Mine X pins H1 S
 it:s1.heap.IsListIter I l j
abbrev U8(X:Cx)(pins:fF)(σ:St)(H:Hp)(h:Heap)(I S:Addr)(A:Ys)(f:Value)(vs:List V)(kz:fM):Prop:=∀(i:Nat)(v:V)(u:Value)(k:Int)(H1:Hp)(s1:Shared),vs[i]?=some v->kz[i]?=some k->RelV v u->Inv X pins σ H1 s1->Gro X [I,S] H h H1 s1.heap->wpAny (model X.prog X.w) A.in1 (WF f [u]) (λr s2=>(∃t,r=Ń k t)/\∃H2,Inv X pins σ H2 s2/\Gro X [] H1 s1.heap H2 s2.heap) (λ_ _=>False) s1
def RX{fa:Addr}(hh:A.in1.handled=none)(hl:SqL X.K H l vs)(lI:l≠I)(lS:l≠S)(IS:I≠S)(hlen:⇑kz=⇑vs)(turn:U8 X pins σ H s.heap I S A (.ref fa) vs kz)(hR:∀(Q:Hp)(G:Shared)(v:V)(u:Value),vs[lW kz]?=some v->RelV v u->Inv X pins σ Q G->Gro X [I,S] H s.heap Q G.heap->R (.ok (.ret u)) G) :
  ∀(d j:Nat)(O:Hp)(a:Shared)(N:Value)(L:V)(E:Int)(t:Tok)(c:Nat),⇑vs - (j+1)=d->j+1<=⇑vs->MxK X pins σ H s.heap l I S (j+1) O a->vs[U2 (λi j=>decide (kz.getD i 0 > kz.getD j 0)) j]?=some L->kz[U2 (λi j=>decide (kz.getD i 0 > kz.getD j 0)) j]?=some E->RelV L N ->
   a.heap.get? S=some (TK "list" #[N,.int E t] c)->WZ (model X.prog X.w) A (.builtin "max.loop" ⟨[.ref I,.ref fa,.ref S],[]⟩) R a:=by
 have k:(toString "max"++toString ".loop":String)="max.loop":=∅
 intro d;induction d with
 |zero =>
  intro j O a N L E t c hd hj M hv hk rv Y;let⟨its,m,pl,hz⟩:=M.inv.list (hl.mono M.g.sm);have li:=⇑m;refine ţ F.entry_max_loop ?_;rw[Ř Ÿ _];show wpAny _ A.in1 (Sm (.ref S) >>=_) _ _ a;refine Ã (ź Y rfl ?_);show wpAny _ A.in1 (tryCatch (Wl (.ref I)) _ >>=_) _ _ a;have W:=Walks.list (prog:=X.prog) (w:=X.w) hh I l lI its.toArray;refine Ã (RA (W.done a _ _ ⟨by rw[Ñ,←li,show ⇑vs=j+1 by lia];exact M.it,pl.isList⟩ λh' tk hk'=>?_));have p:=hk' S _ (by simp[IS.symm]) Y;show wpAny _ A.in1 (SR S (λ_=>#[]) >>=_) _ _ _;refine Ã (SS p rfl (Ã (SW (Ú ?_))));have J:=Heap.SameBut.update h' S (æ λ_=>(#[]:fS));have Z:∀b o,b≠I->a.heap.get? b=some o->h'.get? b=some o:=λb o n e=>hk' b o (by simp[n]) e;have ej:j=⇑kz - 1:=()
  have I1:=M.inv.xJ (t':=tk) M.mi Z;have I2:=I1.xJ (t':=tk) M.ms λb o n e=>(J.2 b n).trans e;rw[ej]at hv;exact hR O _ L N hv rv I2 ((M.g.own (.inl rfl) Z).own (.inr rfl) λb o n e=>(J.2 b n).trans e)
 |succ d ih =>
  intro j O a N L E t c hd hj M hv hk rv Y;let⟨its,m,pl,hz⟩:=M.inv.list (hl.mono M.g.sm);have li:=⇑m;have B:j+1<⇑vs:=()
  refine ţ F.entry_max_loop ?_;rw[Ř Ÿ _];show wpAny _ A.in1 (Sm (.ref S) >>=_) _ _ a;refine Ã (ź Y rfl ?_);show wpAny _ A.in1 (tryCatch (Wl (.ref I)) _ >>=_) _ _ a;have W:=Walks.list (prog:=X.prog) (w:=X.w) hh I l lI its.toArray;refine Ã (RA (W.item (j+1) a _ _ (by rw[Ñ];lia) ⟨M.it,pl.isList⟩ λx h' tk hx st' hk'=>?_));have p:=hk' S _ (by simp[IS.symm]) Y;have Z:∀b o,b≠I->a.heap.get? b=some o->h'.get? b=some o:=λb o n e=>hk' b o (by simp[n]) e;have I1:=M.inv.xJ (t':=tk) M.mi Z;have g1:=M.g.own (.inl rfl) Z;have C:vs[j+1]?=some vs[j+1]:=Å B;have y:kz[j+1]?=some (kz[j+1]'()):=Å ();let⟨x',ex,rx⟩:=m.get C;have hx:its[j+1]?=some x:=↑hx
  rw[hx]at ex;cases ex;show wpAny _ A.in1 (tryCatch (holding [x] (WF (.ref fa) [x])) _ >>=_) _ _ _;refine Ã (RA (ħ (Ŀ (turn (j+1) _ x _ O _ C y rx I1 g1) (λr G he=>?_) λ_ _ hF=>hF.elim)));let⟨⟨t2,rfl⟩,Q,I2,g2⟩:=he;let⟨oI,hoI,oc,od⟩:=st'.1;let⟨mi2,U⟩:=g2.mine M.mi hoI;let⟨D,q⟩:=g2.mine M.ms p;have G2:=g1.trans (g2.more λb z=>nomatch z);show wpAny _ A.in1 (tryCatch (holding [x,.int _ t2] (richCompare .Gt (.int _ t2) (.int E t) >>=_)) _ >>=_) _ _ _;refine Ã (RA (ħ (Ã (CmpOf.ints_gt (P:=λi v=>∃t,v=.int (kz.getD i 0) t) (λi=>kz.getD i 0) (λi v h=>h) (j+1) (U2 (λi j=>decide (kz.getD i 0 > kz.getD j 0)) j) _ _ _ _ _ ⟨t2,by rw[Ò,y];rfl⟩ ⟨t,by rw[Ò,hk];rfl⟩ ?_))));refine Ã (ħ (ĭ ?_));refine Ã (SW (Ú ?_));cases hb:decide (kz.getD (j+1) 0 > kz.getD (U2 (λi j=>decide (kz.getD i 0 > kz.getD j 0)) j) 0)with
  |true =>
   have T:U2 (λi j=>decide (kz.getD i 0 > kz.getD j 0)) (j+1)=j+1:=by simp only[U2,hb,if_true]
   rw[fo hb];refine Ã (SS q rfl (Ã (SW ?_)));rw[k];have J:=Heap.SameBut.update G.heap S (æ λ_=>#[x,.int (kz[j+1]'()) t2]);exact Ú ⟨ST Ÿ _,ih (j+1) Q _ x vs[j+1] _ t2 _ () B
    ⟨I2.xJ (t':=G.toks) D λb o n e=>(J.2 b n).trans e,G2.own (.inr rfl) λb o n e=>(J.2 b n).trans e,mi2,D,⟨oI,(J.2 I IS).trans U,oc,od⟩⟩ (by rw[T] <;> exact C) (by rw[T] <;> exact y) rx (TR q _)⟩
  |false =>
   have T:U2 (λi j=>decide (kz.getD i 0 > kz.getD j 0)) (j+1)=U2 (λi j=>decide (kz.getD i 0 > kz.getD j 0)) j:=by simp only[U2,hb,ķ,if_false]
   rw[fq (λz=>Ù (hb.symm.trans z))];refine Ã (SW ?_);rw[k];exact Ú ⟨ST Ÿ _,ih (j+1) Q _ N L E t c () B ⟨I2,G2,mi2,D,⟨oI,U,oc,od⟩⟩ (by rw[T] <;> exact hv) (by rw[T] <;> exact hk) rv q⟩
def Oc{C:Addr}(hh:A.in1.handled=none)(hl:SqL X.K H l vs)(Z:l≠I)(lS:l≠S)(B:I≠S)(p:⇑kz=⇑vs)(h0:1<=⇑vs)(a:U8 X pins σ H s.heap I S A (.ref C) vs kz)(hR:∀(y:Hp)(j:Shared)(v:V)(u:Value),vs[lW kz]?=some v->RelV v u->Inv X pins σ y j->Gro X [I,S] H s.heap y j.heap->R (.ok (.ret u)) j){P:Hp}{i:Shared}{c:Nat}(M:MxK X pins σ H s.heap l I S 0 P i)(U:i.heap.get? S=some (TK "list" #[] c)) :
  WZ (model X.prog X.w) A (.builtin "max.loop" ⟨[.ref I,.ref C,.ref S],[]⟩) R i:=by
 have d:(toString "max"++toString ".loop":String)="max.loop":=∅
 let⟨its,t,pl,hz⟩:=M.inv.list (hl.mono M.g.sm);have li:=⇑t;refine ţ F.entry_max_loop ?_;rw[Ř Ÿ _];show wpAny _ A.in1 (Sm (.ref S) >>=_) _ _ i;refine Ã (ź U rfl ?_);show wpAny _ A.in1 (tryCatch (Wl (.ref I)) _ >>=_) _ _ i;have W:=Walks.list (prog:=X.prog) (w:=X.w) hh I l Z its.toArray;refine Ã (RA (W.item 0 i _ _ (by rw[Ñ];lia) ⟨M.it,pl.isList⟩ λx h' tk L st' hk'=>?_));have G:=hk' S _ (by simp[B.symm]) U;have Y:∀b o,b≠I->i.heap.get? b=some o->h'.get? b=some o:=λb o n e=>hk' b o (by simp[n]) e;have I1:=M.inv.xJ (t':=tk) M.mi Y;have T:=M.g.own (.inl rfl) Y;have h:vs[0]?=some vs[0]:=Å ();have m:kz[0]?=some (kz[0]'()):=Å ();let⟨x',Q,rx⟩:=t.get h;have L:its[0]?=some x:=↑L
 rw[L]at Q;cases Q;show wpAny _ A.in1 (tryCatch (holding [x] (WF (.ref C) [x])) _ >>=_) _ _ _;refine Ã (RA (ħ (Ŀ (a 0 _ x _ P _ h m rx I1 T) (λr j he=>?_) λ_ _ hF=>hF.elim)));let⟨⟨t2,rfl⟩,y,I2,D⟩:=he;let⟨oI,J,oc,od⟩:=st'.1;let⟨N,E⟩:=D.mine M.mi J;let⟨q,k⟩:=D.mine M.ms G;have G2:=T.trans (D.more λb z=>nomatch z);show wpAny _ A.in1 (SR S (λ_=>#[x,.int _ t2]) >>=_) _ _ _;refine Ã (SS k rfl ?_);rw[d];have O:=Heap.SameBut.update j.heap S (æ λ_=>#[x,.int (kz[0]'()) t2]);exact Ú ⟨ST Ÿ _,RX hh hl Z lS B p a hR _ 0 y _ x vs[0] _ t2 _ rfl h0
  ⟨I2.xJ (t':=j.toks) q λb o n e=>(O.2 b n).trans e,G2.own (.inr rfl) λb o n e=>(O.2 b n).trans e,N,q,⟨oI,(O.2 I B).trans E,oc,od⟩⟩ h m rx (TR k _)⟩
def Wn{x:Addr}{Q:fA}{E:fA}(hh:A.in1.handled=none)(C:Inv X pins σ H s)(hl:SqL X.K H l vs)(y:⇑kz=⇑vs)(M:1<=⇑vs)(B:∀(p:List Addr)(i:Nat)(v:V)(u:Value)(k:Int)(m:Hp)(j:Shared),(∀b∈p,↥s<=b)->vs[i]?=some v->kz[i]?=some k->RelV v u->Inv X pins σ m j->Gro X p H s.heap m j.heap->wpAny (model X.prog X.w) A.in1 (WF (.ref x) [u]) (λr a=>(∃t,r=Ń k t)/\∃d,Inv X pins σ d a/\Gro X [] m j.heap d a.heap) (λ_ _=>False) j)(h:∀(p:List Addr)(d:Hp)(a:Shared)(v:V)(u:Value),(∀b∈p,↥s<=b)->vs[lW kz]?=some v->RelV v u->Inv X pins σ d a->Gro X p H s.heap d a.heap->Q u a) :
  wpAny (model X.prog X.w) A (WF (.builtin "max") [.ref l] [(ë "key",.ref x)]) Q E s:=by
 have g:(toString "max"++toString ".loop":String)="max.loop":=∅
 let⟨its,O,G,P⟩:=C.list hl;have z:l<↥s:=by let⟨o,N,_⟩:=G.isList;exact Ó N
 refine Bg F.kind_max F.plain_max F.entry_max (KC _ _) ?_;show wpAny _ A.in1 (Builtin.Builtins.bindParams "max" ["key","default"] 0 ⟨[],[(ë "key",.ref x)]⟩ >>=_) _ _ s;refine Ã (wpAny_of_eq (show Builtin.Builtins.bindParams "max" ["key","default"] 0 ⟨[],[(ë "key",.ref x)]⟩=pure [some (.ref x),none]from rfl) ?_);refine Ã (Ú ?_);refine Ã (UU G.isList ?_);refine Ã (š ?_);have D:∀b o,s.heap.get? b=some o->((s.heap.push { cls:=.type "list_iterator",data:=.fields #[.ref l,.int 0 0]}).push { cls:=.type "list",data:=.seq #[]}).get? b=some o:=λb o e=>Ô _ (Ô _ e);have J:(s.heap.push { cls:=.type "list_iterator",data:=.fields #[.ref l,.int 0 0]}).objs.size=↥s+1:=Sa ..;have L:Inv X pins σ H { s with heap:=(s.heap.push { cls:=.type "list_iterator",data:=.fields #[.ref l,.int 0 0]}).push { cls:=.type "list",data:=.seq #[]}}:=C.kept (t':=s.toks) D;rw[g,J];have q:∀b∈[↥s,↥s+1],↥s<=b:=λb hb=>by
  rcases Õ.mp hb with rfl|hb
  ·exact Ì _
  ·rw[Í.mp hb];exact ĸ _
 refine Ú ⟨ST Ÿ _,Oc (H:=H) (s:=s) hh hl (å z) (å (ĕ z)) (å (ň _)) y M (λi v u k m j a1 a2 a3 a4 a5=>B _ i v u k m j q a1 a2 a3 a4 a5) (λd a v u a1 a2 a3 a4=>h _ d a v u q a1 a2 a3 a4)
  ⟨L,⟨λ_ _ e=>e,λb o e n _ _ _=>⟨D b o e,n⟩⟩,C.mine (Ì _),C.mine (ĸ _),⟨_,Ô _ (ä _ rfl),rfl,rfl⟩⟩ (c:=0) ?_⟩
 exact(fv _ J.symm).trans (ä _ rfl)
end
def Hg(K:Ý)(N:List Str)(P:Addr)(a:Pos)(qual:Str)(ys:List Str)(spL:List V->Addr->Sp)(c:TE):TE:=λσ H Q=>c σ H λv H1=>oM P a qual H1 /\
 ∃(l:Addr)(vs:List V)(kz:fM)(cvs:List V),v=.ref l/\SqL K H1 l vs/\⇑kz=⇑vs/\1<=⇑vs/\⇑cvs=⇑ys/\(∀(j:Nat)(y:Str)(v:V),ys[j]?=some y->cvs[j]?=some v->∃i:Nat,N[i]?=some y/\σ[i]?=some (some v)) /\
  ∀c' H2,oM P a qual H2->su H2 c' qual->(∀b o,H1 b=some o->b≠P->H2 b=some o) ->
   (∀(i:Nat)(v:V)(k:Int)(H3:Hp),vs[i]?=some v->kz[i]?=some k->(∀b o,H2 b=some o->H3 b=some o)->spL cvs c' [v] H3 (λr H4=>r=.int k/\∀b o,H3 b=some o->H4 b=some o) E0) /\
   ∀(v:V)(H3:Hp),vs[lW kz]?=some v->(∀b o,H2 b=some o->H3 b=some o)->Q v H3
section
variable{k:Nat}{c P:Addr}{ps ys:List Str}{spL:List V->Addr->Sp}{p pos lpos kp:Pos}{e:YE}{te:TE}{qual:Str}{params:VM}{body:YE}{scope:YA}{cl:List (Str×Addr)}
def Jx(FL:∀(cvs:List V)(a:Heap)(f E:Addr)(pm j:Value),⇑cvs=⇑ys->a.get? f=some (W.kla_obj "<lambda>" qual params body scope cl pm E j)->Caps a cl ys cvs->∃fd,FnOk X.prog X.w X.K X.mg a CX0 k f fd ps (spL cvs E)/\Binds X.K fd ps [])(hr:Room k X.A.in1)(hd:X.A.in1.handled=none)(hg:Gl X "max")(hm:X.mg "max"=none)(ha:PE X e te)(B:X.env.qual++"<lambda>"=qual)(F:Rl params X.env=([],[]))(O:UP scope X.env=pure cl)(q:X.env.code=.ref c)(hC:X.K.In X.gy->W.CodeHd X.gy c P)(hB:X.K.In X.gy->X.gy.BuiltinsAt X.mg P)(R:∀x,X.fn x=true)(L:∀x c,cl.lookup x=some c->X.env.cells.lookup x=some c)(hys:∀y∈ys,X.env.scope.names.lookup y=some .cell/\∃c,cl.lookup y=some c)(he:zS X e []:=by rfl) :
  PE X (.Call (.Name "max" p) [e] [⟨some "key",.Lambda params body scope lpos,kp⟩] pos) (Hg X.K X.N P lpos qual ys spL te):=by
 intro M s σ H Q I h;have hv:Z3 "max"=some (.builtin "max"):=boot_max;refine ŝ (jf I hg hm hv ?_ ∅ ∅);refine callWith_kw ?_ (by rw[he];rfl) (by rw[he];rfl);rw[he];show wpAny _ _ (XA [(false,YN e X.env)]) _ _ s;refine Calls.spliced_cons (thn (ha M s σ H _ I h) λu s1 ⟨v,H1,I1,r1,T1,l,vs,kz,cvs,ev,hl,hlen,h0,cl1,hcv,q1⟩=>Calls.spliced_nil ?_);subst ev;cases r1;refine kws_cons (xH I1 B F O q hC hB T1 λf E j pm s2 H2 J T2 kn fn hfo nfs kp kb=>kws_nil ?_);have Q2:=q1 E H2 T2 kn kp;have S:f<↥s2:=Ó hfo;have U:SqL X.K H2 l vs:=by
  let⟨ps,hP,_⟩:=T1;rcases hl with(hl|⟨o,hl⟩)|hl
  ·exact .inl (.inl (kp l _ hl λz=>by rw[z,hP]at hl;cases hl))
  ·exact .inl (.inr ⟨o,kp l _ hl λz=>by rw[z,hP]at hl;cases hl⟩)
  ·exact .inr hl
 refine Wn hd J U hlen h0 (λex i v u k H3 s3 hex hv hk ru J3 g=>?_) λex H3 s3 v u hex hv ru J3 g=>?_
 ·let⟨Y,n3⟩:=g.kp f _ hfo fn (λz=>by
   let⟨m,⟨o,es,ep,ho,hd,_⟩,_⟩:=J.loc;rw[←z,hfo]at ho;cases ho;cases hd) nfs λz=>ft (hex f z) (Nat.not_le.mpr S)
  let⟨e0,lkf,C⟩:=Sv J3 Y n3 nfs R L hys cl1 hcv;let⟨fd,FF,hb⟩:=FL cvs _ f E pm j cl1 lkf C;have G:=Q2.1 i v k H3 hv hk g.sm;have T:[u].length=⇑ps:=FF.len _ _ _ _ G;refine W1 (VA (FF.run X.A.in1 X.stack s3 H3 ⟨[u],[]⟩ [u] [v] _ E0 hr e0.in1 ?_ (.cons ru .nil) G) λr s' B=>?_)
  ·have:=hb s3 [u] J3.kIn (by rw[í];exact T);rw[í]at this;exact this
  ·cases r with
   |error e=>exact B.elim
   |ok fl =>
    cases fl with
    |ret u =>
     let⟨v',H4,os,D,un,Z,rv',e',sm⟩:=B;subst e';let⟨t,rfl⟩:=rv';let⟨hh,g',d,t',os'⟩:=s';obtain rfl:os'=s3.os:=os;exact⟨⟨t,rfl⟩,H4,J3.call (h':=hh) (g':=g') (d':=d) (t':=t') (ch:=[]) un Z D (λb z=>ft z (by simp)),⟨sm,λb o e n _ nf _=>⟨un.keep b o e n nf (by simp),un.free b o e n (by simp)⟩⟩⟩
    |next=>exact ĺ B
    |brk=>exact ĺ B
    |cont=>exact ĺ B
 ·exact⟨v,H3,J3,ru,Q2.2 v H3 hv g.sm⟩
end
def oG{x:Str}{c:Addr}{l:List (Str×Addr)}:List.lookup x ((x,c)::l)=some c:=by rw[ē,fw]
def rN{x y:Str}{c:Addr}{l:List (Str×Addr)}(h:(x==y)=false):List.lookup x ((y,c)::l)=List.lookup x l:=by rw[ē,h]
def Wv{x:Str}{cl:List (Str×Addr)}(h:x∈cl.map (·.1)):∃c,cl.lookup x=some c:=by
 induction cl with
 |nil=>cases h
 |cons p l ih =>
  let⟨y,c⟩:=p;rw[ē];cases e:x==y with
  |true=>exact⟨c,rfl⟩
  |false =>
   rw[é]at h;rcases Õ.mp h with h|h
   ·rw[h]at e;simp at e
   ·exact ih h
def O4{α:Type}{l:List α}(h:l.Nodup):∀{i j:Nat}{x:α},l[i]?=some x->l[j]?=some x->i=j:=λ{i j x} a b=>by
 have c:=(È.mp a)
 have d:=(È.mp b)
 rcases Nat.lt_trichotomy i j with z|z|z
 ·exact ft (c.2.trans d.2.symm) (Ū.mp h i j c.1 d.1 z)
 ·exact z
 ·exact ft (d.2.trans c.2.symm) (Ū.mp h j i d.1 c.1 z)
def LamScope.of{ps ys:List Str}{f:YA}{cl:List (Str×Addr)}(g:f.kind=.function)(q:f.isCoroutine=false)(m:f.isGenerator=false)(r:(ps++ys).Nodup)(p:∀x∈ps,f.names.lookup x=some .local)(l:∀y∈ys,f.names.lookup y=some .free)(d:∀x∈f.names,x.2≠.cell)(k:∀y∈f.names,y.2=.free->y.1∈cl.map (·.1))(o:(cl.map (·.2)).Nodup):LamScope ps ys f cl :=
 ⟨g,q,m,r,p,l,d,λx h=>Wv (k _ (ď h) rfl),λx y c h1 h2=>by
  let⟨i,hi⟩:=Ķ (ď h1);let⟨j,n⟩:=Ķ (ď h2);have a:(cl.map (·.2))[i]?=some c:=by rw[Þ,hi];rfl
  have b:(cl.map (·.2))[j]?=some c:=by rw[Þ,n];rfl
  have s:=(È.mp a)
  have t:=(È.mp b)
  have e:i=j:=O4 o a b;subst e;rw[hi]at n;cases n;rfl⟩
def Lf{cl a:List (Str×Addr)}(h:∀p∈cl,a.lookup p.1=some p.2):∀x c,cl.lookup x=some c->a.lookup x=some c:=λx c e=>h (x,c) (ď e)
end L2
namespace Dl
open L2
def Lg{g T2:Pn}(h:Apart g T2){f:fE}:∀vs H Q E,spT (g.plus T2) f vs H Q E->spT g f vs H Q E:=by
 rintro vs H Q E ⟨ds,P,c,r,t,k⟩;refine⟨ds,P,c.1,r.mono (λa o z=>o (.inl z)) (λ_ _ _ e=>e) (λ_ _ e=>e),t,λd v H' hP kp pi' rp=>k d v H' hP (λb o e n=>kp b o e λz=>n (.inl z)) ⟨pi',T2.mono H H' c.2 λb o z e=>kp b o e λy=>?_⟩ rp⟩;rcases z with z|z
 ·exact h H c.1 c.2 b y z
 ·exact zU c.1 e z y
def Cal.YM{P:Zg}{w:Zl}{K:Ý}{mg:Str->gf}{gy:Heap}{k:Nat}{x:Str}{ps:List Str}{a T2:Pn}(b:Apart a T2){f:fE}(c:Cal P w K mg gy k x ps (spT a f)):Cal P w K mg gy k x ps (spT (a.plus T2) f):=by
 let⟨g,d,F,r⟩:=c.ex;exact⟨g,d,F.imp (Lg b),r⟩
def wu{a c:Addr}{d e:Pos}{f g:Str}(h:a≠c):Apart (qP a d f) (qP c e g):=λH _ _ b h1 h2=>by
 have h1:b=a:=h1;have h2:b=c:=h2;exact h (h1.symm.trans h2)
def Vr(qual:Str)(a:gg->D->Int->Prop):List V->Addr->Sp:=λcvs c' vs H Q _=>su H c' qual/\∃(v1:V)(dcs:gg)(dx:D)(k:Int),vs=[v1]/\Rps (λ_=>False) H cvs dcs/\Rp (λ_=>True) H v1 dx/\a dcs dx k/\∀H',(∀b o,H b=some o->H' b=some o)->Q (.int k) H'
def tMX(b:fR)(a:gg->D->Int->Prop)(e:DE):DE:=λρ P=>e ρ λk d=>∃(ds:gg)(kz:fM)(dcs:gg),d=.list ds/\b.map (λi=>ρ[i]?)=dcs.map (λdc=>some (.im dc))/\⇑kz=⇑ds/\1<=⇑ds /\
 (∀(j:Nat)(x:D)(c:Int),ds[j]?=some x->kz[j]?=some c->a dcs x c)/\∀x,ds[lW kz]?=some x->P k x
theorem Jh[Gr]{p:Pn}{g H:Hp}{own:Addr->Option Nat}{σ:L2.St}{ρ:List Sl}(E:EnvD p g own σ H ρ):∀(f:fR)(d:gg),f.map (λi=>ρ[i]?)=d.map (λdc=>some (Sl.im dc))->∃cvs:List V,⇑cvs=⇑f/\Rps (λ_=>False) H cvs d/\∀(j i:Nat)(v:V),f[j]?=some i->cvs[j]?=some v->σ[i]?=some (some v)
 |[],[],_=>⟨[],rfl,.nil,λj i v h=>(nomatch h)⟩
 |i::f,dc::d,h=>by
  injection h with h1 h2;let⟨cvs,a,b,c⟩:=Jh E f d h2;let⟨v,e,r⟩:=E.slot i _ h1;refine⟨v::cvs,by rw[à,à,a],.cons r b,λj i' v' e1 e2=>?_⟩;cases j with
  |zero=>cases e1;cases e2;exact e
  |succ j=>exact c j i' v' e1 e2
 |[],_::_,h=>by cases h
 |_::_,[],h=>by cases h
section
variable{K:Ý}{N:List Str}{P:Addr}{lpos:Pos}{qual:Str}{ys:List Str}{is:fR}{gk:gg->D->Int->Prop}{te:DE}{T1:Pn}
def Sd(I:Apart T1 (qP P lpos qual))(C:is.map (λi=>N[i]?)=ys.map some):∀σ H Q,@aV (grU (T1.plus (qP P lpos qual))) (tMX is gk te) σ H Q->Hg K N P lpos qual ys (Vr qual gk) (@aV (grU (T1.plus (qP P lpos qual))) te) σ H Q:=by
 letI:=grU (T1.plus (qP P lpos qual));rintro σ H Q ⟨q,G,own,ρ,P',E,t,X⟩;have U:q=T1.plus (qP P lpos qual):=E.gr;subst U;refine⟨_,G,own,ρ,_,E,t,λk d v H1 hd A r=>?_⟩;let⟨ds,D,l,rfl,hi,B,h0,hk,V⟩:=hd;let⟨c,vs,rfl,o,hc,w⟩:=r.bT;have h:oM P lpos qual H1:=A.pen.2;have g:∀{H:Hp},oM P lpos qual H->∀a xs,H a=some (.tup xs)->a≠P:=λ{H} T a xs e z=>by
  let⟨ps,hp,_⟩:=T;rw[z,hp]at e;cases e
 let⟨cvs,J,L,M⟩:=Jh E is l hi;have F:=⇑w;have Z:⇑is=⇑ys:=by have:=fv List.length C;rwa [À,À]at this
 refine⟨h,c,vs,D,cvs,rfl,SqL.of hc,(),(),J.trans Z,λj y v h1 h2=>?_,λc' H2 T2 kn kp=>⟨λj v k' H3 hv hkz sm=>?_,λv H3 hv sm=>?_⟩⟩
 ·have f:(is.map λi=>N[i]?)[j]?=some (some y):=by rw[C,Þ,h1];rfl
  rw[Þ]at f;let⟨i,R,S⟩:=Option.map_eq_some_iff.mp f;exact⟨i,S,M j i v R h2⟩
 ·let⟨x,φ,Y,O⟩:=kn;have m:j<⇑ds:=by rw[←F];exact(È.mp hv).1
  let⟨v1,f,u⟩:=w.getD (Å m);rw[hv]at f;cases f;refine⟨⟨x,φ,sm _ _ Y,O⟩,v,l,ds[j],k',rfl,?_,?_,hk j _ _ (Å m) hkz,λH' sm'=>⟨rfl,sm'⟩⟩
  ·exact L.mono (λ_ o=>o) (λ_ _ o=>o.elim) λa xs e=>sm _ _ (kp _ _ (jg E.at A.kp a xs e) (g h a xs (jg E.at A.kp a xs e)))
  ·exact u.mono (λ_ _=>trivial) (λa o n e=>sm _ _ (kp _ _ e λz=>jP A n (.inr z))) λa xs e=>sm _ _ (kp _ _ e (g h a xs e))
 ·have s:Kp (T1.plus (qP P lpos qual)) H1 H3:=λb o e n=>sm _ _ (kp _ _ e λz=>n (.inr z));have W:(T1.plus (qP P lpos qual)).PI H3:=by
   refine⟨T1.mono H1 H3 A.pen.1 λb o z e=>sm _ _ (kp _ _ e ?_),(qP P lpos qual).mono H2 H3 T2 λb o _ e=>sm b o e⟩;rcases z with z|z
   ·exact λy=>I H1 A.pen.1 A.pen.2 b z y
   ·exact zU (p:=qP P lpos qual) A.pen.2 e z
  have m:lW D<⇑ds:=by rw[←F];exact(È.mp hv).1
  let⟨v1,f,u⟩:=(cO A s w).getD (Å m);rw[hv]at f;cases f;exact X _ _ _ _ (V _ (Å m)) (A.go s W) u
end
def aa9(v:V)(H:Hp):Prop:=∃t l m x,v=.ref t/\H t=some (.tup [.ref l,x,.ref m])/\l≠m
def Lh(T:Pn)(f:fE):Sp:=λvs H Q _=>∃ds P,T.PI H/\Rps (λa=>¬T.fp a) H vs ds/\f ds P/\∀d v H',P d->Kp T H H'->T.PI H'->Rp (λa=>H a=none) H' v d->aa9 v H'->Q v H'
def Ox{T:Pn}{f:fE}{n:Nat}(hn:∀ds P,f ds P->⇑ds=n:=by intro _ _ h;repeat (first|(let⟨rfl,_⟩:=h;rfl)|let⟨_,h⟩:=h)):∀vs H Q E,Lh T f vs H Q E->⇑vs=n:=λvs H Q E ⟨ds,P,_,r,t,_⟩=>by
 rw[⇑r];exact hn ds P t
def QX{T:Pn}{f:fE}:∀vs H Q E,spT T f vs H Q E->Lh T f vs H Q E:=λvs H Q E ⟨ds,P,pi,r,t,k⟩=>⟨ds,P,pi,r,t,λd v H' h1 h2 h3 h4 _=>k d v H' h1 h2 h3 h4⟩
def Cal.of3{P:Zg}{w:Zl}{K:Ý}{mg:Str->gf}{gy:Heap}{k:Nat}{x:Str}{ps:List Str}{T:Pn}{f:fE}(c:Cal P w K mg gy k x ps (Lh T f)):Cal P w K mg gy k x ps (spT T f):=by
 let⟨g,a,F,r⟩:=c.ex;exact⟨g,a,F.imp QX,r⟩
section
variable [Gr] {p:Pn}{H0:Hp}{Q:Ends}
abbrev pM(M:List Sl->Prop):DEnds:={ nx:=M,rt:=λ_=>False }
def Ei{t u:DS}{a:TS}{M:List Sl->Prop}(h:∀own σ H ρ,EnvD p H0 own σ H ρ->u (pM M) ρ->a Q σ H):∀own σ H ρ,EnvD p H0 own σ H ρ->Bb t u (pM M) ρ->X4 (ql t) a Q σ H:=λown σ H ρ E r =>
 ⟨p,H0,own,ρ,_,E,r,⟨λo s h' r' e _ n=>h o s h' r' e n,λ_ _ _ n=>n.elim,λ_ _ _ _ _ _ n=>n.elim,λ_ _ _ _ _ _ n=>n.elim⟩⟩
end
section
variable [Gr] {X:Cx}{st0 st st2:XB}{rest:List XB}
end
variable [Gr]
variable{X:Cx}{st:XB}{te tj:DE}
end Dl
namespace Wr
open L2 Dl
variable [Gr] {X:Cx}
end Wr
namespace Dl
open L2
variable{X:Cx}
variable [Gr]
section
variable{st:XB}{te tj:DE}
def abf(i:Nat):DS:=λP ρ=>match ρ[i]? with
 |some (.dw r (.list ds))=>P.nx ((forget r ρ).set i (.dw r (.list ds.reverse)))
 |_=>False
def abd(i:Nat)(te tj:DE):DS:=λP ρ=>te ρ λk d=>∃(r:Nat)(ds:gg),ρ[i]?=some (.dw r (.list ds))/\(norm k d).le .new=true/\tj ρ λ_ dj=>match dj with
 |.int j=>∃m,ixN ⇑ds j=some m/\P.nx ((forget r ρ).set i (.dw r (.list (ds.set m d))))
 |_=>False
def Qh(i:Nat)(tj:DE):DS:=λP ρ=>match ρ[i]? with
 |some (.dw r (.list ds))=>tj ρ λ_ dj=>match dj with
  |.int j=>-(2 ^ 63)<=j/\j<2 ^ 63/\∃m,UA j ⇑ds=some m/\m<⇑ds/\P.nx ((forget r ρ).set i (.dw r (.list (ds.eraseIdx m))))
  |_=>False
 |_=>False
def Av{i:Nat}(h:PS X st (pB (tBM X.K "list" Lz (iY i) (iI (aX tj eF))))):PDS X st (Qh i tj):=PS.wk' h (by
 rintro Q σ H ⟨p,o,own,ρ,P,E,t,w⟩;unfold Qh at t;split at t
 ·rename_i r ds hr;let⟨v,hv,x⟩:=E.slot i _ hr;let⟨l,vs,rfl,hl,b,c⟩:=x.bT;refine⟨.ref l,hv,.inl ⟨rfl,vs,SqL.of b⟩,p,o,own,ρ,_,E,pZ t,?_⟩;rintro ks ws q ⟨k,s,rfl,hh⟩ A C;let⟨y,rfl,D⟩:=gq C;cases s with
  |int j =>
   let⟨z,B,m,hm,F,hn⟩:=hh;have u:=Rp.int' D;have h1:q l=some (.lst vs):=A.kp l _ b (E.ow l r hl).2.1;have a:=⇑c;refine⟨l,vs,j,m,vs[m]'(),rfl,by rw[u],h1,z,B,by rw[a];exact hm,Å _,?_⟩;let⟨e,n⟩:=E.uJ (vs':=vs.eraseIdx m) (ds':=ds.eraseIdx m) A hv hl b c λH2 f g=>(pK f c λd hd=>mL hd).erase m;exact w.nx _ σ _ _ e n hn
  |_=>exact hh.elim
 ·exact t.elim)
end
section
variable{pos:Pos}{a:YE}{t:DA}
end
end Dl
namespace Wr
open L2 Dl
variable [Gr] {X:Cx}
def Av{i:Nat}{k:DE}{x:Str}{e:YE}{es:List YE}{b a g pos:Pos}(hv:WV X (.Name x g) i)(ha:WDA X (e::es) (aX k eF))(d:UK (.Name x g) "pop" X.env (YN (.Name x g) X.env)=YN (.Name x g) X.env:=by rfl)(j:zW X a (e::es):=by rfl)(f:(b.endLine==a.line)=true:=by rfl)(hst:zS X e es:=by rfl)(c:zP X a es:=by rfl)(hs:XV (.Call (.Attribute (.Name x g) "pop" b) (e::es) [] a) none pos.line X.env=pure false:=by rfl) :
  WDS X (.Expr (.Call (.Attribute (.Name x g) "pop" b) (e::es) [] a) pos) (Qh i k):=⟨Dl.Av (bY (iy û PySem.F.slot_list_pop PySem.F.type_list_pop Ob hv.h ha.h d j f hst c) hs)⟩
end Wr
open Wr renaming aj→Á,ak→Ä,dv→Ê,aL→Ï,aG→Ð,M4→ã,aO→ç,aM→ð,bI→ñ,vQ→ø,bw→ÿ,jh→Ā,dU→Ğ,dH→Ġ,lZ→ĥ,yV→ĩ,cY→Ī,dR→İ,dc→ł,dJ→ŏ,oK→Ő,bK→ő,ji→Š,kE→ť,iR→Ũ,wv→ū,pQ→ű,gP→ż
open Dl renaming Cal→Ć,JX→Ĭ,Bn→į,any_ints→Ŋ,J7→ŕ
open L2 renaming W7→č,dI→Į,Mu→Ĳ,uL→ń,HB→Ś,Fq→Ů
namespace Nf
open L2 Dl
def okT{P:Zg}{w:Zl}{K:PySem.W.Frag}{mg:Str->gf}{gy:Heap}{x q:Str}{st:XB}{f:Addr}{b:WS}{N ps:List Str}{k:Nat}{g:fE}{T:DS}(F:Fun K x q st f b)(S:FnScope N ps (au st))(B:∀{cdv A outer s H E},Room k (A.deeper (VI q (au st) ↥s f cdv))->N.Nodup->Wr.WDSs (Bf CX0 P w K mg gy N q (au st) f cdv A outer s H E).nox (cu st) T)(R:∀ds P,g ds P->∃ρ,ds.map bJ++Ë (⇑N - ⇑ds) .any=ρ/\T { nx:=λ_=>P .none,rt:=P } ρ)(a:∀vs H Q E,spD g vs H Q E->⇑vs=⇑ps:=by exact bO):FnOk P w K mg gy CX0 (k+1) f b ps (spD g):=F.ok S a λcdv A outer s H vs Q E hr h=>⟨_,(B hr S.nd).h,fO h R⟩
def top(i:Nat):XB:=PySem.Challenge.pw_nofall_k54_whole_no_fewer_ties.main.body.getD i (.Pass ⟨0,0,0,0⟩)
structure Proper(n:Int)(l:fM):Prop where
 one:1<=⇑l
 few:(⇑l:Int)<n
 rng:∀x∈l,0<=x/\x<n
 rise:l.Pairwise (·<·)
 n16:n<=16
def Uz:FF:=λds P=>∃l:fM,ds=[.list (l.map Â)]/\⇑l<=400/\P (.list ((l.dropLast.zip (l.drop 1)).map pD))
def toI:D->Int
 |.int i=>i
 |_=>0
def w6(l:fM):Bool:=(l.dropLast.zip (l.drop 1)).all λt=>decide (t.1<t.2)
def Q9(m:Int):D->Bool
 |.list es=>es.all (dW m)&&w6 (es.map toI)
 |_=>false
def Zj(n:Int):D->Bool
 |.list es=>decide ((1:Int)<=(⇑es:Nat))&&decide ((⇑es:Int)<n)
 |_=>false
def cX(n:Int)(d:D):Bool:=Q9 n d&&Zj n d
def Few(d:D):Prop:=∀es,d=.list es->⇑es<=400
def Iu:FF:=λds P=>∃m d,ds=[.int m,d]/\Few d/\P (.bool (Q9 m d))
def Al:FF:=λds P=>∃n d,ds=[.int n,d]/\Few d/\P (.bool (cX n d))
def Pz:FF:=λds P=>∃n us l,ds=[aC n us,.list (l.map Â)]/\Proper n l/\P .none
def lv(l:fM)(t:Tie):Bool:=decide (t.1∈l) != decide (t.2∈l)
def Xa:FF:=λds P=>∃n us l,ds=[aC n us,.list (l.map Â)]/\Proper n l/\⇑us<=100/\P (.list ((us.filter (lv l)).map pD))
def Ka{l:fM}(h:l.Pairwise (·<·)):∀t∈l.dropLast.zip (l.drop 1),t.1<t.2:=by
 intro t ht;let⟨i,hi,e⟩:=List.mem_iff_getElem.mp ht;have h1:i<⇑l - 1:=by
  rw[List.length_zip,ņ,Ď]at hi;lia
 rw[List.getElem_zip]at e;have a:l.dropLast[i]'(by rw[ņ];exact h1)=l[i]:=List.getElem_dropLast _;have b:(l.drop 1)[i]'(by rw[Ď];exact h1)=l[1+i]:=List.getElem_drop;rw[←e];simp only[a,b];exact(Ū.mp h) i (1+i) () () ()
def Kz{n:Int}{d:D}(h:dW n d=true):∃i:Int,d=.int i:=by
 cases d with
 |int i=>exact⟨i,rfl⟩
 |_=>cases h
def Bl(d:D):bJ d=.im d\/bJ d=.sh d:=by
 unfold bJ;by_cases h:gO d=true
 ·rw[fo h];exact .inl rfl
 ·rw[fq h];exact .inr rfl
theorem ints_of{n:Int}:∀{es:gg},es.all (dW n)=true->es=(es.map toI).map Â
 |[],_=>rfl
 |d::es,h=>by
  rw[List.all_cons,Ü]at h;let⟨i,rfl⟩:=Kz h.1;have:=ints_of h.2;rw[é,é,←this];rfl
def yq(l:fM):(l.map Â).map toI=l:=by rw[ô];exact List.map_id' l
def uN{n:Int}{l:fM}(h:Proper n l):cX n (.list (l.map Â))=true:=by
 have h1:=h.one;have h2:=h.few;have a:(l.map Â).all (dW n)=true:=Ċ.mpr λd hd=>by
  let⟨x,c,rfl⟩:=è.mp hd;exact gz (h.rng x c)
 have b:w6 l=true:=Ċ.mpr λt ht=>gz (Ka h.rise t ht);show(((l.map Â).all (dW n)&&w6 ((l.map Â).map toI))&&(decide ((1:Int)<=(⇑(l.map Â):Nat))&&decide ((⇑(l.map Â):Int)<n)))=true;rw[a,yq,b,À,gz (show(1:Int)<=(⇑l:Nat) by lia),gz h2];rfl
def Pq{l:fM}(h:⇑l<=400):Few (.list (l.map Â)):=λes e=>by
 injection e with e;rw[←e,À];exact h
def iW{α:Type}(l:List α):gC l none (some (-1))=l.dropLast:=by
 unfold gC;have a:HT.sIx ⇑l 0 none=0:=rfl;have b:HT.sIx ⇑l ⇑l (some (-1))=⇑l - 1:=by
  have e:HT.sIx ⇑l ⇑l (some (-1))=((-1:Int)+(⇑l:Int)).toNat:=rfl;rw[e];lia
 rw[a,b,List.drop_zero,Nat.sub_zero,List.dropLast_eq_take]
def vW{α:Type}(l:List α):gC l (some 1) none=l.drop 1:=by
 unfold gC;have a:HT.sIx ⇑l ⇑l none=⇑l:=rfl;have b:HT.sIx ⇑l 0 (some 1)=min 1 ⇑l:=HT.sX ⇑l 0 1;rw[a,b];rw[Ţ (by rw[Ď];lia)];by_cases h:1<=⇑l
 ·rw[Nat.min_eq_left h]
 ·have:l=[]:=ŵ.mp ();subst this;rfl
def Br(a b:fM):((a.map Â).zip (b.map Â)).map prD=(a.zip b).map pD:=by
 rw[List.zip_map,ô];rfl
section
variable{P:Zg}{w:Zl}{K:Ý}{mg:Str->gf}{gy:Heap}{f:Addr}{fd:WS}
def sc4:FnScope ["thing"] ["thing"] (au (top 4)):=zC
def Nv(F:Fun K eB eB (top 4) f fd)(B:į mg):1∩[ap]∩spD Pu:=by
 refine F.ok sc4 bO (λcdv A outer s H vs Q E hr h=>?_);refine⟨_,aM (bw (je (cZ SJ B.isinstance (dv 0) (pP (v:=.ty "int") rfl B.int boot_int rfl)) (jK (V1 (cZ O1 B.isinstance (dv 0) (pP (v:=.ty "bool") rfl B.bool boot_bool rfl)))))),Ao h ?_⟩;rintro ds P ⟨d,rfl,q⟩;unfold Bd Hi tIs;refine K8 (d:=d) rfl λk=>?_;cases d <;> exact⟨rfl,q⟩
def sc5:FnScope [cK,ap] [cK,ap] (au (top 5)):=zC
def Nz(F:Fun K du du (top 5) f fd)(W:1∪eB∪[ap]∪spD Pu):2∩[cK,ap]∩spD Gy:=by
 refine F.ok sc5 bO (λcdv A outer s H vs Q E hr h=>?_);refine⟨_,aM (bw (je (dc W hr (aj (dv 1) ak)) (jK (HJ aG (dv 1) (dv 0))))),Ao h ?_⟩;rintro ds P ⟨m,d,rfl,q⟩;unfold Bd Hi tFn aX;refine K8 (d:=d) rfl λk=>⟨d,rfl,?_⟩
 cases d with
 |int i =>
  have e:P (.bool (decide (0<=i/\i<m))):=q;by_cases a:(0:Int)<=i
  ·show if decide ((0:Int)<=i)=true then _ else _
   rw[gz a];refine aF (B:=True) ⟨rfl,?_⟩;have b:decide (0<=i/\i<m)=decide (i<m):=by simp[a]
   rw[b]at e;exact e
  ·show if decide ((0:Int)<=i)=true then _ else _
   rw[fi a];refine aJ (A:=True) ⟨rfl,?_⟩;have b:decide (0<=i/\i<m)=false:=by simp[a]
   rw[b]at e;exact e
 |_=>exact⟨rfl,q⟩
def sc7:FnScope [eC] [eC] (au (top 11)):=zC
def RP(F:Fun K "hops" "hops" (top 11) f fd)(B:į mg)(a:mg "zip"=none):1∩[eC]∩spD Uz:=by
 refine F.ok sc7 bO (λcdv A outer s H vs Q E hr h=>?_);refine⟨_,aM (bw (FP rfl B.list a (aj (FJ (dv 0) nG (fX (oU aG))) (aj (FJ (dv 0) (fX aG) nG) ak)))),Ao h ?_⟩;rintro ds P ⟨l,rfl,hl,q⟩;refine .inl ⟨?_,.inl ⟨?_,?_,.inl ⟨?_,rfl,?_⟩⟩⟩
 ·show eU (gC (l.map Â) none (some (-1)))=true;rw[iW,←List.map_dropLast];exact gj _
 ·show eU (gC (l.map Â) (some 1) none)=true;rw[vW,←List.map_drop];exact gj _
 ·show(gC (l.map Â) none (some (-1))).length<=1000;rw[iW,ņ,À];lia
 ·show eU _=true;rw[iW,vW,←List.map_dropLast,←List.map_drop,Br];exact dz _
 ·show P _;rw[iW,vW,←List.map_dropLast,←List.map_drop,Br];exact q
def sc9:FnScope [cK,ap] [cK,ap] (au (top 13)):=zC
def aaQ:([ck,cK,ap]:List Str).Nodup:=⋯
def aaP:(["hop",cK,ap]:List Str).Nodup:=⋯
def JF(F:Fun K dC dC (top 13) f fd)(B:į mg)(W:2∪du∪[cK,ap]∪spD Gy)(HO:1∪"hops"∪[eC]∪spD Uz):3∩[cK,ap]∩spD Iu:=by
 refine F.ok sc9 bO (λcdv A outer s H vs Q E hr h=>?_);refine⟨_,aL (oK (PDW.pt (jc (cF (bG (cZ vH B.isinstance (dv 1) (pP (v:=.ty "list") rfl B.list SZ rfl)))) (gG (cF (bG (kJ rfl B.all Dl.boot_all (aj (iR [ck] rfl (dU (dv 1)) (λc=>aO (Ś (i:=0) aaQ rfl (đ rfl))) (λc=>dJ) (λc=>dc W hr (aj (dv 1) (aj (dv 0) ak)))) ak))))))) (aM (bw gb)) jh)
  (aM (bw (kJ rfl B.all Dl.boot_all (aj (iR ["hop"] rfl (dU (dc HO hr (aj (dv 1) ak))) (λc=>aO (Ś (i:=0) aaP rfl (đ rfl))) (λc=>dJ) (λc=>YT (kI (dv 0) aG (λ_ _=>rfl)) (kI (dv 0) aG (λ_ _=>rfl)))) ak)))),fO h ?_⟩
 rintro ds P ⟨n,d,rfl,j,q⟩;refine⟨[.im (.int n),bJ d],rfl,?_⟩;cases d with
 |list es =>
  have hl:=j es rfl;have q:P (.bool (es.all (dW n)&&w6 (es.map toI))):=q;refine aJ (A:=True) ⟨(),.imm,λi ys=>ys=(es.take i).map λd=>PyData.bool (dW n d),rfl,λi d ys hd hy=>?_,λys hy=>?_⟩
  ·subst hy;by_cases hi:gO d=true
   ·have a:∀k,norm k d=.imm:=λk=>iC hi;unfold gNm;simp only[a];exact aF (B:=True) ⟨n,d,rfl,rfl,(o7 _ hd).symm⟩
   ·have a:∀k,norm k d=k:=λk=>iG hi;unfold gNm;simp only[a];exact aF (B:=True) ⟨n,d,rfl,rfl,(o7 _ hd).symm⟩
  ·dsimp only at hy;rw[þ]at hy;refine⟨es.map (dW n),by rw[hy,ô];rfl,?_⟩;rw[List.all_map];show if(!es.all (dW n))=true then _ else _
   cases ha:es.all (dW n)with
   |false =>
    rw[ha]at q;exact⟨rfl,q⟩
   |true =>
    rw[ha]at q;have q:P (.bool (w6 (es.map toI))):=q;have g:=ints_of ha;generalize hm:es.map toI=l at q g;have b:⇑l<=400:=by rw[←hm,À];exact hl
    subst g
    -- rising
    refine⟨l,rfl,b,?_,.imm,λi ys=>ys=((l.dropLast.zip (l.drop 1)).take i).map λt=>PyData.bool (decide (t.1<t.2)),rfl,?_,?_⟩
    ·rw[À,List.length_zip,ņ];lia
    ·rintro i d ys hd rfl;let⟨t,ht,rfl⟩:=bH hd;exact aF (B:=True) ⟨.int t.1,rfl,.int t.2,rfl,rfl,(o7 _ ht).symm⟩
    rintro ys rfl;refine⟨(l.dropLast.zip (l.drop 1)).map λt=>decide (t.1<t.2),?_,rfl,?_⟩
    ·rw[À,þ,ô];rfl
    ·rw[List.all_map];rw[yq]at q;exact q
 |tuple es=>rcases Bl (.tuple es)with e|e <;> rw[e] <;> exact aF (B:=True) ⟨rfl,q⟩
 |_=>exact aF (B:=True) ⟨rfl,q⟩
def aaF:FnScope [e7,ap] [e7,ap] (au (top 14)):=zC
def JG(F:Fun K bn bn (top 14) f fd)(B:į mg)(R:3∪dC∪[cK,ap]∪spD Iu):4∩[e7,ap]∩spD Al:=by
 refine F.ok aaF bO (λcdv A outer s H vs Q E hr h=>?_);refine⟨_,aM (bw (je (dc R hr (aj (dv 0) (aj (dv 1) ak))) (jK (HJ aG (dR B.len (aj (dv 1) ak)) (dv 0))))),fO h ?_⟩;rintro ds P ⟨n,d,rfl,b,q⟩;refine⟨[.im (.int n),bJ d],rfl,?_⟩;have q:P (.bool (Q9 n d&&Zj n d)):=q;cases d with
 |list es =>
  refine⟨n,.list es,rfl,b,d9 (λc=>?_) (λc=>?_)⟩
  ·rw[c]at q;have q:P (.bool (decide ((1:Int)<=(⇑es:Nat))&&decide ((⇑es:Int)<n))):=q;show if decide ((1:Int)<=(⇑es:Nat))=true then _ else _
   refine d9 (λa=>⟨rfl,?_⟩) (λa=>⟨rfl,?_⟩)
   ·rw[a]at q;exact q
   ·have a:decide ((1:Int)<=(⇑es:Nat))=false:=↑a
    rw[a]at q;exact q
  ·have c:Q9 n (.list es)=false:=↑c
   rw[c]at q;exact⟨rfl,q⟩
 |tuple es=>rcases Bl (.tuple es)with e|e <;> rw[e] <;> exact⟨n,.tuple es,rfl,b,aJ (A:=True) ⟨rfl,q⟩⟩
 |_=>exact⟨n,_,rfl,b,aJ (A:=True) ⟨rfl,q⟩⟩
def aaH:FnScope [cc,ap] [cc,ap] (au (top 15)):=zC
def CV(F:Fun K dL dL (top 15) f fd)(PS:4∪bn∪[e7,ap]∪spD Al):5∩[cc,ap]∩spD Pz:=by
 refine F.ok aaH bO (λcdv A outer s H vs Q E hr h=>?_);refine⟨_,aM (oK (cF (bG (dc PS hr (aj (kI (dv 0) aG (λ_ _=>rfl)) (aj (dv 1) ak))))) (aM qy) jh),fO h ?_⟩;rintro ds P ⟨n,b,l,rfl,a,q⟩;refine⟨[.im (aC n b),.sh (.list (l.map Â))],?_,?_⟩
 ·show [bJ (aC n b),bJ (.list (l.map Â))]=_;rw[dM];rfl
 refine⟨.int n,rfl,n,_,rfl,Pq (by have:=a.few;have:=a.n16;lia),?_⟩;show if(!cX n (.list (l.map Â)))=true then _ else _
 rw[uN a];exact aJ (A:=False) q
def Yx:FnScope [eD,am] [eD,am] (au (top 18)):=zC
def fLv:FF:=λds P=>∃t l,ds=[pD t,.list (l.map Â)]/\P (.bool (lv l t))
def JN(F:Fun K e8 e8 (top 18) f fd):1∩[eD,am]∩spD fLv:=by
 refine F.ok Yx bO (λcdv A outer s H vs Q E hr h=>?_);refine⟨_,aM (bw (YS (Cu hr.units (kI (dv 0) aG (λ_ _=>rfl)) (dv 1)) (Cu hr.units (kI (dv 0) aG (λ_ _=>rfl)) (dv 1)))),fO h ?_⟩;rintro ds P ⟨t,l,rfl,q⟩;refine⟨[.im (pD t),.sh (.list (l.map Â))],rfl,?_⟩;refine⟨.int t.1,rfl,rfl,bZ l,.int t.2,rfl,rfl,bZ l,rfl,?_⟩;show P (.bool (!decide ((((l.map Â).any λe=>ö e (.int t.1)):Bool)=((l.map Â).any λe=>ö e (.int t.2)))));rw[Ŋ,Ŋ];have e:(!decide ((decide (t.1∈l):Bool)=decide (t.2∈l)))=lv l t:=by
  unfold lv;cases decide (t.1∈l) <;> cases decide (t.2∈l) <;> rfl
 rw[e];exact q
def aaG:FnScope [cc,am] [cc,am] (au (top 19)):=zC
def aaR:([eD,cc,am]:List Str).Nodup:=⋯
def Wa(F:Fun K bb bb (top 19) f fd)(b:5∪dL∪[cc,ap]∪spD Pz)(e:1∪e8∪[eD,am]∪spD fLv):6∩[cc,am]∩spD Xa:=by
 refine F.ok aaG bO (λcdv A outer s H vs Q E hr h=>?_);refine⟨_,aL (tW (dc b hr (aj (dv 0) (aj (dv 1) ak)))) (aM (bw (iR [eD] rfl (dU (kI (dv 0) aG (λ_ _=>rfl))) (λc=>aO (Ś (i:=0) aaR rfl (đ rfl)))
  (λc=>gP (bG (dc e hr (aj (dv 0) (aj (dv 2) ak))))) (λc=>dv 0)))),fO h ?_⟩
 rintro ds P ⟨n,a,l,rfl,g,hl,q⟩;refine⟨[.im (aC n a),.sh (.list (l.map Â))],?_,n,a,l,rfl,g,?_⟩
 ·show [bJ (aC n a),bJ (.list (l.map Â))]=_;rw[dM];rfl
 refine⟨.tuple (a.map pD),rfl,by rw[À];lia,.imm,λi ys=>ys=((a.take i).filter (lv l)).map pD,rfl,?_,?_⟩
 ·rintro i d ys hd rfl;let⟨t,ht,rfl⟩:=bH hd;refine⟨t,l,rfl,?_⟩;show if lv l t=true then _ else _
  have sn:=tO (lv l) pD ht;cases hb:lv l t with
  |true =>
   rw[hb,fo rfl]at sn;exact aF (B:=True) ⟨rfl,sn.symm⟩
  |false =>
   rw[hb,fq Ù,í]at sn;exact aJ (A:=True) sn.symm
 ·rintro ys rfl;refine⟨rfl,?_⟩;rw[take_all a (by rw[À];exact Ì _)];exact q
def jJ:D->fM
 |.list es=>es.map toI
 |_=>[]
def Gd(l:fM):Bool:=decide (⇑(once l)=⇑l)
def Zx(n:Int):D->Bool
 |.list es=>es.all (cX n)&&Gd (es.flatMap jJ)
 |_=>false
def aa8(d:D):Prop:=∀es,d=.list es->⇑es<=60/\∀e∈es,Few e
def ZX:FF:=λds P=>∃n d,ds=[.int n,d]/\aa8 d/\n<=16/\P (.bool (Zx n d))
def Ck{n:Int}{d:D}(a:n<=16)(h:cX n d=true):∃l:fM,d=.list (l.map Â)/\jJ d=l/\⇑l<=15:=by
 unfold cX at h;rw[Ü]at h;cases d with
 |list es =>
  have h1:(es.all (dW n)&&w6 (es.map toI))=true:=h.1;rw[Ü]at h1;have h2:(decide ((1:Int)<=(⇑es:Nat))&&decide ((⇑es:Int)<n))=true:=h.2;rw[Ü,fm,fm]at h2;exact⟨es.map toI,fv _ (ints_of h1.1),rfl,by rw[À];lia⟩
 |_=>cases h.1
def Yr:FnScope [e7,ap,eC,am] [e7,ap] (au (top 21)):=zC
def aaO:([am,e7,ap,eC,""]:List Str).Nodup:=⋯
def Wg(F:Fun K dP dP (top 21) f fd)(B:į mg)(y:mg "set"=none)(PS:4∪bn∪[e7,ap]∪spD Al):5∩[e7,ap]∩spD ZX:=by
 refine F.ok Yr bO (λcdv A outer s H vs Q E hr h=>?_);have p:=Yr.nd;refine⟨_,aL (oK (PDW.pt (jc (cF (bG (cZ vH B.isinstance (dv 1) (pP (v:=.ty "list") rfl B.list SZ rfl)))) (gG (cF (bG (kJ rfl B.all Dl.boot_all (aj (uU [am] [e7,ap,eC,""] rfl (dU (dv 1)) (λc=>aO (Ś (i:=0) aaO rfl (đ rfl))) (λc=>dJ) (λc=>dc PS hr (aj (dv 1) (aj (dv 0) ak))) (hk:=rfl)) ak))))))) (aM (bw gb)) jh)
  (aL (bI (some 0) (Ů (i:=2) p rfl (đ rfl) (cY ak)))
  (aL (ji ï rfl (dU (dv 1)) (aO (Ś (i:=3) p rfl (đ rfl)))
   (aM (dB (i:=2) (bY (iy û ŭ Ŭ jA (pv 2) (aj (dv 3) ak))))))
  (aM (bw (YW (Jy rfl y B.len (aj (dv 2) ak)) (dR B.len (aj (dv 2) ak))))))),fO h ?_⟩
 rintro ds P ⟨n,d,rfl,u,o,q⟩;refine⟨[.im (.int n),bJ d,.any,.any],rfl,?_⟩;cases d with
 |list es =>
  let⟨hl,j⟩:=u es rfl;have q:P (.bool (es.all (cX n)&&Gd (es.flatMap jJ))):=q;refine aJ (A:=True) ⟨(),.imm,λi ys=>ys=(es.take i).map λd=>PyData.bool (cX n d),rfl,λi d ys hd hy=>?_,λys hy=>?_⟩
  ·subst hy;have a:=j d (Î hd);by_cases hi:gO d=true
   ·have g:∀k,norm k d=.imm:=λk=>iC hi;unfold gNm;simp only[g];exact aF (B:=True) ⟨n,d,rfl,a,rfl,(o7 _ hd).symm⟩
   ·have g:∀k,norm k d=k:=λk=>iG hi;unfold gNm;simp only[g];exact aF (B:=True) ⟨n,d,rfl,a,rfl,(o7 _ hd).symm⟩
  ·dsimp only at hy;rw[þ]at hy;refine⟨es.map (cX n),by rw[hy,ô];rfl,?_⟩;rw[List.all_map];show if(!es.all (cX n))=true then _ else _
   cases ha:es.all (cX n)with
   |false =>
    rw[ha]at q;exact⟨rfl,q⟩
   |true =>
    rw[ha]at q;have q:P (.bool (Gd (es.flatMap jJ))):=q;have z:∀e∈es,∃l:fM,e=.list (l.map Â)/\jJ e=l/\⇑l<=15:=λe he=>Ck o (Ċ.mp ha e he);refine aJ (A:=True) ⟨∅,rfl,λ(i:Nat) ρ=>∃(l:fM)(s3:Sl),s3.region=none/\ρ=[.im (.int n),.sh (.list es),.dw 0 (.list (l.map Â)),s3]/\l=(es.take i).flatMap jJ/\⇑l<=15 * i,⟨[],.any,rfl,rfl,rfl,Ì _⟩,?_,?_⟩
    ·rintro i d ρ hd ⟨l,s3,t,rfl,rfl,b⟩;let⟨m,rfl,r,hm⟩:=z d (Î hd);have hi:=(È.mp hd).1;have C:⇑(((es.take i).flatMap jJ).map Â)=⇑((es.take i).flatMap jJ):=À ..;have x:⇑(m.map Â)=⇑m:=À ..;refine⟨by show(_ || eU (m.map Â))=true;rw[gj,Bool.or_true],(),(es.take i).flatMap jJ++m,.sh (.list (m.map Â)),rfl,?_,?_,?_⟩
     ·rw[Ö];rfl
     ·rw[Ē,hd,List.flatMap_append];show _=_++([Č (m.map Â)].flatMap jJ)
      rw[List.flatMap_cons,List.flatMap_nil,í,r]
     ·rw[É];lia
    ·rintro ρ ⟨l,s3,t,rfl,rfl,b⟩;rw[þ]at b ⊢;refine⟨_,_,rfl,(),rfl,?_⟩;show P (.bool (decide ((⇑(once (es.flatMap jJ)):Int)=(⇑((es.flatMap jJ).map Â):Nat))));have e:decide ((⇑(once (es.flatMap jJ)):Int)=(⇑((es.flatMap jJ).map Â):Nat))=Gd (es.flatMap jJ):=by
      unfold Gd;rw[À,ă,fm,fm];lia
     rw[e];exact q
 |tuple es=>rcases Bl (.tuple es)with e|e <;> rw[e] <;> exact aF (B:=True) ⟨rfl,q⟩
 |_=>exact aF (B:=True) ⟨rfl,q⟩
def yj(p:Addr)(H:Hp):Prop:=∃a b c:Int,H p=some (.lst [.int a,.int b,.int c])
def sy(p:Addr):Pn where
 fp:=λb=>b=p
 PI:=yj p
 pv:=.ref p
 mono:=λH H' ⟨a,b,c,h⟩ k=>⟨a,b,c,k _ _ (.inl rfl) h⟩
 is:=λH b ⟨x,y,z,h⟩ hb=>by
  subst hb;exact⟨_,h,(λxs z=>(nomatch z)),λ⟨_,_,z⟩=>(nomatch z)⟩
def CP(q:Pn):Prop:=∃p,q=sy p
def rR:FF:=λds P=>∃m:Int,ds=[.int m]/\0<m/\m<1073741824/\∀r:Int,0<=r->r<m->P (.int r)
def fW{C:Pn->Prop}{f:fE}{n:Nat}(hn:∀ds P,f ds P->⇑ds=n:=by intro _ _ h;repeat (first|(let⟨rfl,_⟩:=h;rfl)|let⟨_,h⟩:=h)):∀vs H Q E,spP C f vs H Q E->⇑vs=n+1:=λvs H Q E h=>by
 let⟨p,vs',ds,P,_,rfl,_,r,t,_⟩:=h;rw[à,⇑r,hn ds P t]
def JV{x m:Int}(hm:0<m)(hb:m<=2 ^ 32):-(2 ^ 64)<x % m/\x % m<2 ^ 64:=by
 have h1:=Int.emod_nonneg x (b:=m) ();have h2:=Int.emod_lt_of_pos x hm;lia
def PSs.wk{X:Cx}{a:List XB}{t t':TS}(h:PSs X a t)(w:∀D σ H,t' D σ H->t D σ H):PSs X a t':=λpins s σ H D I q=>h pins s σ H D I (w D σ H q)
def tDr(p:Addr):TS:=λD σ H=>∃(a2 a3:Option V)(m a b c:Int),σ=[some (.ref p),some (.int m),a2,a3]/\0<m/\m<1073741824/\H p=some (.lst [.int a,.int b,.int c])/\∀r' x,0<=r'->r'<m->D.rt (.int r') (upd H p (.lst [.int x,.int b,.int c]))
def Yw:FnScope [aa,ar,"_law_drawn","_law_number"] [aa,ar] (au (top 56)):=zC
def RQ(F:Fun K bd bd (top 56) f fd)(B:į mg):1∩[aa,ar]∩spP CP rR:=by
 refine F.ok Yw fW (λcdv A outer s H vs Q E hr h=>?_);let⟨_,vs',ds,P,⟨p,rfl⟩,rfl,⟨a,b,c,hp⟩,J,⟨m,rfl,d,g,G⟩,q⟩:=h;obtain rfl:vs'=[.int m]:=by
  cases J with
  |cons h1 t=>cases h1;cases t;rfl
 have C:=Yw.nd;refine⟨_,ń (uM (mQ xr (gD dh (pv 0) Ĳ (λ_ _=>rfl)) Ĳ (cG _))
   (ń (Ů (i:=2) C rfl (đ rfl) (cL jN (gD dh (pv 0) Ĳ (λ_ _=>rfl)) (pv 1)))
   (ń (yQ (cL zm (gD dh (pv 0) Ĳ (λ_ _=>rfl)) (pv 1)) (Fw (pv 0) Ĳ set_list))
   (bW (iZ (pv 2))))) mR)
  (ń (yQ (cL jO (gD dh (pv 0) Ĳ (λ_ _=>rfl)) Ĳ) (Fw (pv 0) Ĳ set_list))
  (PSs.wk (t':=tDr p) (ń (Ů (i:=3) C rfl (đ rfl) (cL jN (cL oW (cL jO (cL jO (gD dh (pv 0) Ĳ (λ_ _=>rfl)) (cL oW Ĳ (gD dh (pv 0) Ĳ (λ_ _=>rfl)))) Ĳ) Ĳ) Ĳ))
  (ń (Ů (i:=3) C rfl (đ rfl) (cL jN (cL oW (pv 3) (cL jO (cL jO (cL jN (pv 3) Ĳ) Ĳ) (gD dh (pv 0) Ĳ (λ_ _=>rfl)))) Ĳ))
  (ń (yQ (pv 3) (Fw (pv 0) Ĳ set_list))
  (bW (iZ (cL jN (cL zm (pv 3) Ĳ) (pv 1))))))) ?dr)),?_⟩
 case dr =>
  rintro D σ j ⟨L,M,m,a,b,c,rfl,d,g,hp,I⟩;have v:∀x:Int,0<=x % m/\x % m<m:=λx=>⟨Int.emod_nonneg _ (),Int.emod_lt_of_pos _ d⟩
  refine⟨_,rfl,p,_,_,_,rfl,rfl,SqL.of hp,rfl,_,rfl,p,_,_,_,rfl,rfl,SqL.of hp,rfl,_,_,rfl,rfl,.inl ⟨∅,∅⟩,_,_,rfl,rfl,_,_,rfl,rfl,_,_,rfl,rfl,.inr ⟨∅,∅⟩,_,_,rfl,rfl,(by show(0:Int)<2147483629;decide),?_⟩;refine⟨_,rfl,_,rfl,_,_,rfl,rfl,(by show(0:Int)<65521;decide),_,_,rfl,rfl,_,rfl,p,_,_,_,rfl,rfl,SqL.of hp,rfl,_,_,rfl,rfl,_,_,rfl,rfl,.inl (JV ∅ ∅),_,_,rfl,rfl,(by show(0:Int)<2147483587;decide),?_⟩;refine⟨_,rfl,_,rfl,p,_,_,_,rfl,rfl,hp,rfl,?_⟩;exact⟨_,rfl,_,_,rfl,rfl,⟨∅,∅⟩,_,rfl,_,_,rfl,rfl,d,I _ _ (v _).1 (v _).2⟩
 have v:∀x:Int,0<=x % m/\x % m<m:=λx=>⟨Int.emod_nonneg _ (),Int.emod_lt_of_pos _ d⟩
 have l:∀(j:Hp)(r:Int),0<=r->r<m->(∀b o,H b=some o->b≠p->j b=some o)->yj p j->Q (.int r) j:=λj r h1 h2 k e =>
  q _ _ _ (G r h1 h2) (λb o e n=>k b o e λz=>n z) e (.int r)
 have y:∀(H1:Hp)(o:HO),(∀b o,H b=some o->b≠p->H1 b=some o)->∀b u,H b=some u->b≠p->upd H1 p o b=some u:=λH1 o k b u e n=>by rw[ao n];exact k b u e n
 refine⟨_,rfl,p,_,_,_,rfl,rfl,SqL.of hp,rfl,rfl,_,rfl,d9 (λc1=>?_) (λc1=>?_)⟩
 ·exact⟨_,rfl,p,_,_,_,rfl,rfl,SqL.of hp,rfl,_,rfl,_,_,rfl,rfl,d,_,rfl,p,_,_,_,rfl,rfl,SqL.of hp,rfl,_,rfl,_,_,rfl,rfl,⟨d,g⟩,_,rfl,p,_,_,_,rfl,rfl,hp,rfl,_,rfl,l _ _ (v _).1 (v _).2 (y _ _ λb o e _=>e) ⟨_,_,_,aq⟩⟩
 ·refine⟨_,rfl,p,_,_,_,rfl,rfl,SqL.of hp,rfl,_,_,rfl,rfl,_,rfl,p,_,_,_,rfl,rfl,hp,rfl,?_⟩;exact⟨_,_,m,a,b,c+1,rfl,d,g,aq,λr' x h1 h2=>l _ _ h1 h2 (y _ _ (y _ _ λb o e _=>e)) ⟨_,_,_,aq⟩⟩
structure IsOrd(n:Int)(l:fM):Prop where
 len:(⇑l:Int)=n
 rng:∀x∈l,0<=x/\x<n
 nd:l.Nodup
def Py:FF:=λds P=>∃n:Int,ds=[.int n]/\0<=n/\n<=16/\∀l,IsOrd n l->P (.list (l.map Â))
def IsOrd.ins{k:Nat}{l:fM}(h:IsOrd k l)(j:Nat):IsOrd (~~~(k+1)) (l.take j++~~~k::l.drop j):=by
 have p:(l.take j++~~~k::l.drop j).Perm (~~~k::l):=by
  refine List.perm_middle.trans ?_;rw[List.take_append_drop]
 refine⟨?_,λx hx=>?_,?_⟩
 ·rw[p.length_eq,à];have:=h.len;lia
 ·rcases Õ.mp (p.mem_iff.mp hx)with z|z
  ·lia
  ·have:=h.rng x z;lia
 ·refine p.symm.nodup ?_;refine ŀ.mpr ⟨λz=>?_,h.nd⟩;have:=h.rng _ z;lia
def Yv:FnScope [aa,ai,df,bo] [aa,ai] (au (top 57)):=zC
abbrev Bp(P:Zg)(w:Zl)(K:Ý)(mg:Str->gf)(gy:Heap)(k:Nat)(x:Str)(ps:List Str)(g:fE):Prop:=k∪x∪ps∪spP CP g
def Nx(F:Fun K dl dl (top 57) f fd)(B:į mg)(T:Bp P w K mg gy 1 bd [aa,ar] rR):2∩[aa,ai]∩spP CP Py:=by
 refine F.ok Yv fW (λcdv A outer s H vs Q E hr h=>?_);have b:=Yv.nd;refine⟨_,aL (bI (some 0) (Ů (i:=2) b rfl (đ rfl) (cY ak)))
  (aL (ji ï rfl (bK B.range (aj (dv 1) ak)) (aO (Ś (i:=3) b rfl (đ rfl)))
   (aM (Ke (i:=2) (bY (iy û PySem.F.slot_list_insert PySem.F.type_list_insert JT (pv 2) (aj (dcP T hr (pv 0) (aj (kO (dv 3) aG) ak)) (aj (dv 3) ak)))))))
  (aM (bw (dv 2)))),enterQ h ?_⟩
 rintro ds P ⟨n,rfl,n0,c,q⟩;refine⟨[.im (.int n),.any,.any],rfl,?_⟩;refine⟨∅,⟨(),()⟩,rfl,λ(i:Nat) ρ=>∃(l:fM)(s:Sl),IsOrd i l/\s.region=none/\ρ=[.pen CP,.im (.int n),.dw 0 (.list (l.map Â)),s],⟨[],.any,⟨rfl,λx hx=>(nomatch hx),.nil⟩,rfl,rfl⟩,?_,?_⟩
 ·rintro i d ρ hd ⟨l,s,hl,hs,rfl⟩;let⟨hi,rfl⟩:=ŕ hd;have a:=hl.len;refine⟨rfl,_,rfl,(),(),λr r0 r1=>⟨rfl,r0,?_,?_,?_⟩⟩
  ·rw[À];lia
  ·rw[À];lia
  ·refine⟨l.take r.toNat++~~~i::l.drop r.toNat,.im (.int (0+~~~i)),hl.ins r.toNat,rfl,?_⟩;show [Sl.pen CP,Sl.im (.int n),Sl.dw 0 (.list ((l.map Â).take r.toNat++Â (0+~~~i)::(l.map Â).drop r.toNat)),Sl.im _]=_;rw[Ö,é,List.map_take,List.map_drop,Ŏ]
 ·rintro ρ ⟨l,s,hl,hs,rfl⟩;rw[Ĭ]at hl;have e:(~~~n.toNat)=n:=()
  rw[e]at hl;exact⟨rfl,q l hl⟩
def cT(n:Int)(ts:fN):Prop:=∀t∈ts,(0<=t.1/\t.1<n)/\0<=t.2/\t.2<n
def cT.app{n:Int}{a b:fN}(h:cT n a)(h':cT n b):cT n (a++b):=λt ht=>(Û.mp ht).elim (h t) (h' t)
def cT.one{n:Int}{t:Tie}(h:(0<=t.1/\t.1<n)/\0<=t.2/\t.2<n):cT n [t]:=λu hu=>by rw[Í.mp hu];exact h
abbrev Nr(s:Sl):Prop:=s.region=none
def fgN{s:Sl}{r:Nat}(h:Nr s):(if s.region=some r then Sl.any else s)=s:=by rw[h];rfl
def jk.wk{X:Cx}{a:List XB}{t t':DS}(h:jk X a t)(w:∀P ρ,t' P ρ->t P ρ):jk X a t':=PSs.wk' h (by
 rintro Q σ H ⟨p,b,own,ρ,P,E,t,c⟩;exact⟨p,b,own,ρ,P,E,w P ρ t,c⟩)
def app1(ts:fN)(a b:Int):ts.map pD++[PyData.tuple [.int a,.int b]]=(ts++[((a,b):Tie)]).map pD:=by
 rw[Ö];rfl
theorem eY{P:DEnds}{ρ:List Sl}{rg:Option Nat}{i:Nat}{k:Kd}{d:D}{s:Sl}(e:stK rg ρ i (norm k d) d=some s)(h:P.nx (ρ.set i s)):(match stK rg ρ i (norm k d) d with
 |some s=>P.nx (ρ.set i s)
 |none=>False):=by
 rw[e];exact h
theorem Ca{ok:Addr->Prop}{H:Hp}:∀ns:fM,Rps ok H (ns.map V.int) (ns.map Â)
 |[]=>.nil
 |n::ns=>.cons (.int n) (Ca ns)
structure Near(H0 H:Hp)(st:Addr)(as:List Addr)(L:Nat->fM):Prop where
 top:H st=some (.lst (as.map V.ref))
 nd:as.Nodup
 out:∀a∈as,a≠st
 new:∀a∈as,H0 a=none
 row:∀(j:Nat)(a:Addr),as[j]?=some a->H a=some (.lst ((L j).map V.int))
def Near.app{d H:Hp}{st:Addr}{as:List Addr}{L:Nat->fM}(h:Near d H st as L){b:Nat}(f:b<⇑as)(x:Int) :
  Near d (upd H as[b] (.lst ((L b).map V.int++[.int x]))) st as λj=>if j=b then L j++[x]else L j:=by
 refine⟨?_,h.nd,h.out,h.new,λj a e=>?_⟩
 ·rw[ao (ĝ (h.out _ (Ĥ f)))];exact h.top
 ·by_cases c:j=b
  ·subst c;rw[Å f]at e;have e:=ß e;subst e;show _=some (HO.lst ((if j=j then L j++[x]else L j).map V.int));rw[aq,fo rfl,Ö];rfl
  ·show _=some (HO.lst ((if j=b then L j++[x]else L j).map V.int));rw[fq c,ao ?_]
   ·exact h.row j a e
   ·intro z;have hl:=(È.mp e).1;have g:as[j]=as[b]:=by rw[(È.mp e).2];exact z
    exact c ((List.getElem_inj h.nd).mp g)
def lD(l:fM):D:=.list (l.map Â)
theorem BX{ok:Addr->Prop}{H:Hp}:∀(as:List Addr)(L:Nat->fM),(∀a∈as,ok a)->(∀(j:Nat)(a:Addr),as[j]?=some a->H a=some (.lst ((L j).map V.int)))->Rps ok H (as.map V.ref) ((Ø ⇑as).map λj=>lD (L j))
 |[],_,_,_=>.nil
 |a::as,L,h,r=>by
  rw[à,List.range_succ_eq_map,é,é,ô];exact .cons (.lst (h a Æ) (r 0 a rfl) (Ca (L 0))) (BX as (λj=>L (j+1)) (λb hb=>h b (Ç _ hb)) λj b e=>r (j+1) b e)
def IsOrd.at{n:Int}{l:fM}(h:IsOrd n l){a:Int}(c:0<=a)(h1:a<n):∃x:Int,atI (l.map Â) a=some (.int x)/\0<=x/\x<n:=by
 have hl:=h.len;have hk:a.toNat<⇑l:=()
 have b:a=(~~~a.toNat):=()
 have z:atI (l.map Â) (~~~a.toNat)=some (.int l[a.toNat]):=cU (by rw[Þ,Å hk];rfl);rw[←b]at z;exact⟨_,z,h.rng _ (Ĥ hk)⟩
def uG{H:Hp}{p:Addr}(h:H p=none)(o:HO):Same H (upd H p o):=λb u q=>by rw[ao (aA q h)];exact q
def Iw:FF:=λds P=>∃n:Int,ds=[.int n]/\2<=n/\n<=16/\∀a b:Int,0<=a->a<n->0<=b->b<n->a≠b->P (pD (a,b))
def Wm{a r n:Int}(b:0<=a)(c:a<n)(f:0<=r)(g:r<n - 1):a≠(a+1+r) % n:=λe=>by
 by_cases h:a+1+r<n
 ·rw[Int.emod_eq_of_lt () h]at e;lia
 ·have d:(a+1+r) % n=a+1+r - n:=by
   rw[←Int.sub_emod_right,Int.emod_eq_of_lt () ()]
  lia
def Lp:FnScope [aa,ai,be] [aa,ai] (au (top 58)):=zC
def RM(F:Fun K db db (top 58) f fd)(T:Bp P w K mg gy 1 bd [aa,ar] rR):2∩[aa,ai]∩spP CP Iw:=by
 refine F.ok Lp fW (λcdv A outer s H vs Q E hr h=>?_);have c:=Lp.nd;refine⟨_,aL (bI none (Ů (i:=2) c rfl (đ rfl) (dcP T hr (pv 0) (aj (dv 1) ak))))
  (aM (bw (dH (aj (dv 2) (aj (V2 (kO (kO (dv 2) aG) (dcP T hr (pv 0) (aj (cV (dv 1) aG) ak))) (dv 1)) ak))))),enterQ h ?_⟩
 rintro ds P ⟨n,rfl,d,b,q⟩;refine⟨[.im (.int n),.any],rfl,rfl,n,rfl,(),(),λa a0 a1=>⟨rfl,n - 1,rfl,(),(),λr r0 r1=>⟨(show(0:Int)<n by lia),zK,rfl,?_⟩⟩⟩;exact q a _ a0 a1 (Int.emod_nonneg _ ()) (Int.emod_lt_of_pos _ ()) (Wm a0 a1 r0 r1)
def Near.fresh{f H:Hp}{st c:Addr}{as:List Addr}{L:Nat->fM}(h:Near f H st as L)(hc:H c=none)(i:f c=none) :
  Near f (upd (upd H c (.lst [])) st (.lst (as.map V.ref++[.ref c]))) st (as++[c]) λj=>if j=⇑as then []else L j:=by
 have d:c≠st:=λe=>by rw[e,h.top]at hc;cases hc
 have l:∀a∈as,a≠c:=λa ha e=>by
  let⟨j,k,g⟩:=List.mem_iff_getElem.mp ha;have:=h.row j a (by rw[Å k,g]);rw[e,hc]at this;cases this
 refine⟨?_,?_,λa ha=>?_,λa ha=>?_,λj a e=>?_⟩
 ·rw[aq,Ö];rfl
 ·rw[List.nodup_append];exact⟨h.nd,by simp,λa ha b hb e=>by rw[Í.mp hb]at e;exact l a ha e⟩
 ·rcases Û.mp ha with z|z
  ·exact h.out a z
  ·rw[Í.mp z];exact d
 ·rcases Û.mp ha with z|z
  ·exact h.new a z
  ·rw[Í.mp z];exact i
 ·by_cases k:j<⇑as
  ·rw[Ą k]at e;have ha:=Î e;rw[ao (h.out a ha),ao (l a ha)];show _=some (HO.lst ((if j=⇑as then []else L j).map V.int));rw[fq ()];exact h.row j a e
  ·have hl:=(È.mp e).1;rw[É,á]at hl;have g:j=⇑as:=()
   subst g;rw[ó (Ì _),Nat.sub_self]at e;have e:=ß e;subst e;rw[ao d,aq];show _=some (HO.lst ((if ⇑as=⇑as then []else L ⇑as).map V.int));rw[fo rfl];rfl
def Near.keep{f H d:Hp}{st p:Addr}{as:List Addr}{L:Nat->fM}(h:Near f H st as L)(hp:p≠st)(c:∀a∈as,a≠p)(k:∀b o,H b=some o->b≠p->d b=some o):Near f d st as L :=
 ⟨k _ _ h.top (ĝ hp),h.nd,h.out,h.new,λj a e=>k _ _ (h.row j a e) (c a (Î e))⟩
structure RowsOk(n:Int)(i:Nat)(m:Nat)(L:Nat->fM):Prop where
 one:1<=m
 few:m<=i+1
 ne:∀j,j<m->L j≠[]
 len:∀j,j<m->⇑(L j)<=i+1
 rng:∀j,j<m->∀x∈L j,0<=x/\x<n
def jo(m:Nat)(L:Nat->fM):gg:=(Ø m).map λj=>lD (L j)
def fGr:FF:=λds P=>∃n:Int,ds=[.int n]/\2<=n/\n<=8/\∀ts:fN,⇑ts<=80->cT n ts->P (.list (ts.map pD))
def dGr:DS:=λP ρ=>∃(n:Int)(m:Nat)(L:Nat->fM)(s3:Sl),Nr s3/\ρ=[.pen CP,.im (.int n),.sn (.list (jo m L)),s3,.any,.any,.any,.any,.any,.any,.any]/\2<=n/\n<=8/\RowsOk n 7 m L/\∀ts:fN,⇑ts<=80->cT n ts->P.rt (.list (ts.map pD))
def Q8{m:Nat}{L:Nat->fM}{i:Int}(b:0<=i)(h1:i<m):atI (jo m L) i=some (lD (L i.toNat)):=by
 have a:i=(~~~i.toNat):=()
 have z:atI (jo m L) (~~~i.toNat)=some (lD (L i.toNat)):=cU (by unfold jo;rw[Þ,List.getElem?_range ()];rfl);rw[←a]at z;exact z
def int_at{l:fM}{i:Int}(b:0<=i)(h1:i<⇑l):∃x,atI (l.map Â) i=some (.int x)/\x∈l:=by
 have a:i=(~~~i.toNat):=()
 have hk:i.toNat<⇑l:=()
 have z:atI (l.map Â) (~~~i.toNat)=some (.int l[i.toNat]):=cU (by rw[Þ,Å hk];rfl);rw[←a]at z;exact⟨_,z,Ĥ hk⟩
def Ie{l:fM}{i:Int}(b:-1<=i)(h1:i<⇑l)(hl:l≠[]):∃x,atI (l.map Â) i=some (.int x)/\x∈l:=by
 by_cases h:0<=i
 ·exact int_at h h1
 ·have e:i=-1:=()
  subst e;have hd:=List.dropLast_concat_getLast hl;have z:=qG (l.dropLast.map Â) (Â (l.getLast hl));have a:l.dropLast.map Â++[Â (l.getLast hl)]=l.map Â:=by rw[show [Â (l.getLast hl)]=[l.getLast hl].map Â from rfl,←Ö,hd]
  rw[a]at z;exact⟨_,z,List.getLast_mem hl⟩
abbrev NGr:List Str:=[aa,ai,aw,bo,ax,"_law_places",br,"_law_i","_law_j",be,ca]
def Yq:FnScope NGr [aa,ai] (au (top 59)):=zC
def aaN:([br,aa,ai,aw,bo,ax,"_law_places","","_law_i","_law_j",be,ca]:List Str).Nodup:=⋯
abbrev RGr(n:Int)(m:Nat)(L:Nat->fM)(ts:fN)(s3 s5 s6 s7 s8 s9 s10:Sl):List Sl:=[.pen CP,.im (.int n),.sn (.list (jo m L)),s3,.dw 0 (.list (ts.map pD)),s5,s6,s7,s8,s9,s10]
def U7{n:Int}{m:Nat}{L:Nat->fM}{ts ts':fN}{s3 s5 s6 s7 s8 s9 s10:Sl}(b:Nr s3)(c:Nr s5)(d:Nr s6)(e:Nr s7)(g:Nr s8)(h:Nr s9)(a:Nr s10) :
  (forget 0 (RGr n m L ts s3 s5 s6 s7 s8 s9 s10)).set 4 (.dw 0 (.list (ts'.map pD)))=RGr n m L ts' s3 s5 s6 s7 s8 s9 s10:=by
 show [Sl.pen CP,Sl.im (.int n),Sl.sn (.list (jo m L)),(if s3.region=some 0 then Sl.any else s3),Sl.dw 0 (.list (ts'.map pD)),(if s5.region=some 0 then Sl.any else s5),(if s6.region=some 0 then Sl.any else s6),(if s7.region=some 0 then Sl.any else s7),(if s8.region=some 0 then Sl.any else s8),(if s9.region=some 0 then Sl.any else s9),(if s10.region=some 0 then Sl.any else s10)]=_;rw[fgN b,fgN c,fgN d,fgN e,fgN g,fgN h,fgN a]
def Y4(F:Fun K ce ce (top 59) f fd)(B:į mg)(T:Bp P w K mg gy 1 bd [aa,ar] rR):2∩[aa,ai]∩spP CP fGr:=by
 refine F.ok Yq fW (λcdv A outer s H vs Q E hr h=>?_);let⟨_,vs',ds,P',⟨p,rfl⟩,rfl,hp0,rp,⟨n,rfl,n2,n8,hP⟩,q⟩:=h;obtain rfl:vs'=[.int n]:=by
  cases rp with
  |cons h1 t=>cases h1;cases t;rfl
 have W:=Yq.nd;have h24:=õ;refine⟨_,ń (Ů (i:=2) W rfl (đ rfl) (kh (Į (kh (Į Ĳ aW)) aW)))
  (ń (Ft ï rfl (Jw rfl B.range (Į Ĳ (Į (pv 1) aW))) (Ś (i:=3) W rfl (đ rfl))
   (ń (uM (mQ xr (pcS T hr (Į (pv 0) (Į Ĳ aW)) ∅ rfl ∅ rfl rfl) Ĳ (cG _)) (bW (bY (iy û Ľ ļ fJ (pv 2) (Į (kh aW) aW)))) mR)
   (bW (bY (iy û Ľ ļ fJ (gD dh (pv 2) (T7 K5 Ĳ) (λ_ _=>rfl)) (Į (pv 3) aW))))))
  (jk.wk (t':=dGr) (aL (bI (some 0) (Ů (i:=4) W rfl (đ rfl) (cY ak)))
   (aL (ji ï rfl (dU (dv 2)) (aO (Ś (i:=5) W rfl (Or.inr rfl)))
    (aM (dB (i:=4) (bY (iy û ŭ Ŭ jA (pv 4) (aj (uU [br] [aa,ai,aw,bo,ax,"_law_places","","_law_i","_law_j",be,ca] rfl (bK B.range (aj (dR B.len (aj (dv 5) ak)) ak)) (λc=>aO (Ś (i:=0) aaN rfl (đ rfl))) (λc=>gP (iz (dR B.len (aj (dv 6) ak)) aG)) (λc=>dH (aj (jd (dv 6) (cV (dv 0) aG) (λ_ _=>rfl)) (aj (jd (dv 6) (dv 0) (λ_ _=>rfl)) ak))) (hk:=rfl)) ak))))))
   (aL (ji ï rfl (bK B.range (aj (dcP T hr (pv 0) (aj (kO (MN aG (dR B.len (aj (dv 2) ak))) aG) ak)) ak)) (aO (Ś (i:=6) W rfl (đ rfl)))
    (aL (bI none (Ů (i:=7) W rfl (đ rfl) (dcP T hr (pv 0) (aj (dR B.len (aj (dv 2) ak)) ak))))
    (aL (bI none (Ů (i:=8) W rfl (đ rfl) (dcP T hr (pv 0) (aj (dR B.len (aj (dv 2) ak)) ak))))
    (aL (bI none (Ů (i:=9) W rfl (đ rfl) (jd (jd (dv 2) (HD rfl B.min (aj (dv 7) (aj (dv 8) ak))) (λ_ _=>rfl)) (dcP T hr (pv 0) (aj (dR B.len (aj (jd (dv 2) (HD rfl B.min (aj (dv 7) (aj (dv 8) ak))) (λ_ _=>rfl)) ak)) ak)) (λ_ _=>rfl))))
    (aL (bI none (Ů (i:=10) W rfl (đ rfl) (jd (jd (dv 2) (jL rfl B.max (aj (dv 7) (aj (dv 8) ak))) (λ_ _=>rfl)) (dcP T hr (pv 0) (aj (dR B.len (aj (jd (dv 2) (jL rfl B.max (aj (dv 7) (aj (dv 8) ak))) (λ_ _=>rfl)) ak)) ak)) (λ_ _=>rfl))))
    (aM (oK (MJ (dv 7) (dv 8)) (aM (gY (i:=4) (bY (iy û Ľ ļ fJ (pv 4) (aj (dH (aj (dv 9) (aj (dv 10) ak))) ak))))) jh)))))))
   (aM (bw (dv 4)))))) ?rest)),?_⟩
 case rest =>
  rintro P ρ ⟨n,m,L,s3,h3,rfl,n2,n8,ok,q⟩;have lr:⇑(jo m L)=m:=by unfold jo;rw[À,ā]
  have m8:=ok.few;refine⟨∅,?_⟩;refine eY (s:=.dw 0 (.list [])) ?_ ?_
  ·show(if iV 0 [Sl.pen CP,.im (.int n),.sn (.list (jo m L)),s3,.any,.any,.any,.any,.any,.any,.any] 4=true then some (Sl.dw 0 (.list []))else none)=_;have e:iV 0 [Sl.pen CP,.im (.int n),.sn (.list (jo m L)),s3,.any,.any,.any,.any,.any,.any,.any] 4=true:=by
    show(s3.region != some 0&&true)=true;rw[h3];rfl
   rw[fo e]
  refine⟨rfl,λ(i:Nat) ρ=>∃(ts:fN)(s5:Sl),Nr s5/\ρ=RGr n m L ts s3 s5 .any .any .any .any .any/\⇑ts<=8 * i/\cT n ts,⟨[],.any,rfl,rfl,Ì _,λt ht=>nomatch ht⟩,?_,?_⟩
  ·rintro i d ρ hd ⟨ts,s5,h5,rfl,hl,D⟩;let⟨j,G,rfl⟩:=bH hd;have hj2:=(È.mp G).2;have U:=(È.mp G).1;rw[ā]at U;have C:j=i:=by rw[←hj2,List.getElem_range]
   subst C;have rl:=ok.len j U;have rn:=ok.ne j U;have rr:=ok.rng j U;generalize hL:L j=l at rl rn rr;have ll:⇑(l.map Â)=⇑l:=À ..;refine⟨⟨(),()⟩,by rw[Ĭ];lia,.imm,λi ys=>∃R:fN,ys=R.map pD/\⇑R<=i/\cT n R,⟨[],rfl,Ì _,λt ht=>nomatch ht⟩,?_,?_⟩
   ·rintro k d ys hd ⟨R,rfl,hu,X⟩;let⟨hk,rfl⟩:=ŕ hd;refine d9 (λc=>?_) (λc=>⟨R,rfl,(),X⟩);let⟨x,ex,I⟩:=Ie (l:=l) (i:=0+(~~~k) - 1) () () rn;let⟨y,ey,hy⟩:=Ie (l:=l) (i:=0+~~~k) () () rn;exact⟨.int x,ex,.int y,ey,zK,rfl,R++[(x,y)],app1 _ _ _,by rw[É,á];lia,X.app (cT.one ⟨rr x I,rr y hy⟩)⟩
   ·rintro ys ⟨R,rfl,hu,X⟩;rw[Ĭ]at hu;have lm:⇑(ts.map pD)=⇑ts:=À ..;have lu:⇑(R.map pD)=⇑R:=À ..;refine⟨rfl,(),ts++R,.sn (lD l),rfl,?_,by rw[É];lia,D.app X⟩;rw[←Ö];exact U7 (ts:=ts) h3 rfl rfl rfl rfl rfl rfl
  ·rintro ρ ⟨ts,s5,h5,rfl,hl,D⟩;rw[lr]at hl;refine⟨rfl,.inl ⟨∅,∅⟩,2 * (⇑(jo m L):Int)+1,rfl,(),(),λc c0 c1=>⟨⟨(),()⟩,rfl,λ(i:Nat) ρ=>∃(ts:fN)(s6 s7 s8 s9 s10:Sl),Nr s6/\Nr s7/\Nr s8/\Nr s9/\Nr s10/\ρ=RGr n m L ts s3 s5 s6 s7 s8 s9 s10/\⇑ts<=64+i/\cT n ts,
    ⟨ts,.any,.any,.any,.any,.any,rfl,rfl,rfl,rfl,rfl,rfl,(),D⟩,?_,?_⟩⟩
   ·rintro i d ρ hd ⟨ts,s6,s7,s8,s9,s10,h6,h7,h8,h9,h10,rfl,hl,D⟩;let⟨hi,rfl⟩:=ŕ hd;have lm:⇑(ts.map pD)=⇑ts:=À ..;have m1:=ok.one;refine⟨rfl,_,rfl,(),(),λa a0 a1=>⟨rfl,_,rfl,(),(),λb b0 b1=>?_⟩⟩;rw[lr]at a1 b1;have row:∀x:Int,0<=x->x<m->atI (jo m L) x=some (lD (L x.toNat))/\L x.toNat≠[]/\⇑(L x.toNat)<=8/\∀y∈L x.toNat,0<=y/\y<n:=λx x0 x1=>⟨Q8 x0 x1,ok.ne _ (),ok.len _ (),ok.rng _ ()⟩
    let⟨e1,ne1,le1,rg1⟩:=row (if b<a then b else a) (by split <;> lia) (by split <;> lia);let⟨Z,ne2,le2,rg2⟩:=row (if b > a then b else a) (by split <;> lia) (by split <;> lia);generalize L (if b<a then b else a).toNat=l1 at e1 ne1 le1 rg1;generalize L (if b > a then b else a).toNat=l2 at Z ne2 le2 rg2;have ll1:⇑(l1.map Â)=⇑l1:=À ..;have ll2:⇑(l2.map Â)=⇑l2:=À ..;have p1:=Ŵ.mpr ne1;have p2:=Ŵ.mpr ne2;refine⟨_,e1,rfl,_,e1,_,rfl,(),(),λr r0 r1=>?_⟩;let⟨x,ex,I⟩:=int_at (l:=l1) r0 ();refine⟨_,ex,_,Z,rfl,_,Z,_,rfl,(),(),λr' r0' r1'=>?_⟩;let⟨y,ey,hy⟩:=int_at (l:=l2) r0' ();refine⟨_,ey,d9 (λc=>⟨zK,rfl,(),ts++[(x,y)],.im (.int (0+~~~i)),.im (.int a),.im (.int b),.im (.int x),.im (.int y),rfl,rfl,rfl,rfl,rfl,?_,by rw[É,á];lia,D.app (cT.one ⟨rg1 x I,rg2 y hy⟩)⟩) (λc=>⟨ts,.im (.int (0+~~~i)),.im (.int a),.im (.int b),.im (.int x),.im (.int y),rfl,rfl,rfl,rfl,rfl,rfl,(),D⟩)⟩;have z:=U7 (n:=n) (m:=m) (L:=L) (ts:=ts) (ts':=ts++[(x,y)]) (s3:=s3) (s5:=s5) (s6:=.im (.int (0+~~~i))) (s7:=.im (.int a)) (s8:=.im (.int b)) (s9:=.im (.int x)) (s10:=.im (.int y)) h3 h5 rfl rfl rfl rfl rfl;rw[←app1]at z;exact z
   ·rintro ρ ⟨ts,s6,s7,s8,s9,s10,h6,h7,h8,h9,h10,rfl,hl,D⟩;rw[Ĭ]at hl;exact⟨rfl,q ts () D⟩
 -- the rows are made
 have hHp:∃o,H p=some o:=let⟨a,b,c,e⟩:=hp0;⟨_,e⟩
 have O:∀a,H a=none->a≠p:=λa e z=>by let⟨o,eo⟩:=hHp;rw[z,eo]at e;cases e
 refine⟨by show 1<=sizeLine;decide,λr0 hr0=>⟨by show 1<=sizeLine;decide,λst hst=>?_⟩⟩;have rst:r0≠st:=λe=>by rw[←e,aq]at hst;cases hst
 have N:H st=none:=by rw[ao (ĝ rst)]at hst;exact hst
 have b1:=uG hr0 (.lst [V.int 0]);have b2:=uG hst (.lst [V.ref r0]);have M:=O st N;refine⟨_,rfl,1,n,rfl,(),xU (lo:=1) (n:=(n - 1).toNat) (λi σ H2=>∃(a3:Option V)(as:List Addr)(L:Nat->fM),σ=[some (.ref p),some (.int n),some (.ref st),a3,none,none,none,none,none,none,none]/\Near H H2 st as L/\RowsOk n i ⇑as L/\(∀b o,H b=some o->b≠p->H2 b=some o)/\yj p H2)
  ⟨none,[r0],λ_=>[0],rfl,⟨aq,by simp,λa h=>by rw[Í.mp h];exact rst,λa h=>by rw[Í.mp h];exact hr0,λj a e=>?_⟩,⟨Ì _,Ì _,λ_ _=>by simp,λ_ _=>Ì _,λ_ _ x I=>by rw[Í.mp I];lia⟩,λb o e _=>b2 _ _ (b1 _ _ e),?_⟩ ?_ ?_⟩
 ·have hl:=(È.mp e).1;have C:j=0:=↑hl
  subst C;cases e;rw[ao rst,aq];rfl
 ·let⟨a,b,c,e⟩:=hp0;exact⟨a,b,c,b2 _ _ (b1 _ _ e)⟩
 ·rintro i σ H2 hi ⟨a3,as,L,rfl,Y,ok,k2,pi2⟩;have S:∀a∈as,a≠p:=λa ha=>O a (Y.new a ha);have m1:=ok.one;have mf:=ok.few;refine⟨_,rfl,sy p,[.int 3],[.int 3],(λd=>∃r:Int,d=.int r/\0<=r/\r<3),⟨p,rfl⟩,rfl,pi2,.cons (.int 3) .nil,⟨3,rfl,∅,∅,λr a b=>⟨r,rfl,a,b⟩⟩,?_⟩;rintro d v H3 ⟨r,rfl,_,_⟩ k3 pi3 rv;obtain rfl:=rv.int';have u:=Y.keep (ĝ M) S k3;have kk:∀b o,H b=some o->b≠p->H3 b=some o:=λb o e hb=>k3 b o (k2 b o e hb) hb;refine⟨rfl,_,rfl,d9 (λc=>?_) (λc=>?_)⟩
  ·refine⟨_,rfl,.inl ⟨rfl,_,SqL.of u.top⟩,by show 0<=sizeLine;decide,λz hz=>?_⟩;have hz0:H z=none:=by
    cases e:H z with
    |none=>rfl
    |some o =>
     have zp:z≠p:=λy=>by
      let⟨a,b,c,e⟩:=pi3;rw[y,e]at hz;cases hz
     rw[kk z o e zp]at hz;cases hz
   have NF:=u.fresh hz hz0;have zst:st≠z:=λy=>by rw[←y,u.top]at hz;cases hz
   refine⟨st,_,_,rfl,rfl,by rw[ao zst];exact u.top,by rw[À];lia,?_⟩;have g:=NF.row ⇑as z (by rw[ó (Ì _),Nat.sub_self];rfl);have la:⇑as<⇑(as++[z]):=by rw[É,á];lia
   have NG:=NF.app la (1+(i:Int));have ez:(as++[z])[⇑as]=z:=by rw[List.getElem_append_right (Ì _)];simp
   rw[ez]at NG
   first|dsimp only at g|skip
   first|dsimp only at NG|skip
   rw[fo rfl]at g NG;have lstz:atI ((as++[z]).map V.ref) (-1)=some (.ref z):=by rw[Ö];exact qG _ _
   refine⟨_,rfl,1,rfl,st,_,_,_,rfl,rfl,SqL.of NF.top,lstz,.inl ⟨rfl,_,SqL.of g⟩,_,rfl,z,_,_,rfl,rfl,g,by show 0<sizeLine;lia,?_⟩;refine⟨_,as++[z],_,rfl,NG,⟨?_,?_,λj G=>?_,λj G=>?_,λj G x I=>?_⟩,λb o e hb=>?_,?_⟩
   ·rw[É];lia
   ·rw[É,á];lia
   ·first|dsimp only|skip
    by_cases C:j=⇑as
    ·rw[fo C];simp
    ·rw[É,á]at G;rw[fq C,fq C];exact ok.ne j ()
   ·first|dsimp only|skip
    by_cases C:j=⇑as
    ·rw[fo C,fo C];show 1<=_;lia
    ·rw[É,á]at G;rw[fq C,fq C];have:=ok.len j ();lia
   ·first|dsimp only at I|skip
    by_cases C:j=⇑as
    ·rw[fo C,fo C]at I;rw[Í.mp I];lia
    ·rw[É,á]at G;rw[fq C,fq C]at I;exact ok.rng j () x I
   ·have e3:=kk b o e hb;have bz:b≠z:=aA e3 hz;have bs:b≠st:=aA e N;rw[ao bz,ao bs,ao bz];exact e3
   ·let⟨a,b,c,e⟩:=pi3;have pz:p≠z:=aA e hz;exact⟨a,b,c,by rw[ao pz,ao (ĝ M),ao pz];exact e⟩
  ·have la:⇑as - 1<⇑as:=()
   have NG:=u.app la (1+(i:Int));have g:=u.row _ _ (Å la);have hlen:=ok.len _ la;have as0:H as[⇑as - 1]=none:=u.new _ (Ĥ la);have lst:atI (as.map V.ref) (-1)=some (.ref as[⇑as - 1]):=by
    have J:as≠[]:=λe=>by rw[e]at m1;exact ft m1 ∅
    have e1:=List.dropLast_concat_getLast J;have Z:as.getLast J=as[⇑as - 1]:=List.getLast_eq_getElem J;have z:=qG (as.dropLast.map V.ref) (V.ref (as.getLast J));rw[show [V.ref (as.getLast J)]=[as.getLast J].map V.ref from rfl,←Ö,e1,Z]at z;exact z
   refine⟨_,rfl,1,rfl,st,_,_,_,rfl,rfl,SqL.of u.top,lst,.inl ⟨rfl,_,SqL.of g⟩,_,rfl,as[⇑as - 1],_,_,rfl,rfl,g,by rw[À];lia,?_⟩;refine⟨_,as,_,rfl,NG,⟨m1,(),λj G=>?_,λj G=>?_,λj G x I=>?_⟩,λb o e hb=>?_,?_⟩
   ·split
    ·simp
    ·exact ok.ne j G
   ·have:=ok.len j G;split
    ·rw[É,á];lia
    ·lia
   ·have hr:=ok.rng j G;split at I
    ·rcases Û.mp I with z|z
     ·exact hr x z
     ·rw[Í.mp z];lia
    ·exact hr x I
   ·rw[ao (aA e as0)];exact kk b o e hb
   ·let⟨a,b,c,e⟩:=pi3;exact⟨a,b,c,by rw[ao (ĝ (S _ (Ĥ la)))];exact e⟩
 ·rintro σ H2 ⟨a3,as,L,rfl,Y,ok,k2,pi2⟩;have S:∀a∈as,a≠p:=λa ha=>O a (Y.new a ha);refine⟨sy p,H,λ_=>none,[.pen CP,.im (.int n),.sn (.list (jo ⇑as L)),.any,.any,.any,.any,.any,.any,.any,.any],{ nx:=λ_=>False,rt:=P' },?_,⟨n,⇑as,L,.any,rfl,rfl,n2,n8,⟨ok.one,by have:=ok.few;lia,ok.ne,λj G=>by have:=ok.len j G;lia,ok.rng⟩,hP⟩,?_⟩
  ·refine⟨λb o e hb=>k2 b o e hb,pi2,λa r e=>(nomatch e),λj s' e=>?_,rfl,trivial⟩;rcases j with _|_|_|j
   ·cases e;exact⟨rfl,p,rfl⟩
   ·cases e;exact⟨.int n,rfl,.int n⟩
   ·cases e;refine⟨.ref st,rfl,.lst ⟨N,M,rfl⟩ Y.top ?_⟩;exact BX (ok:=λa=>H a=none/\¬(sy p).fp a/\(none:Option Nat)=none) (H:=H2) as L (λa h=>⟨Y.new a h,S a h,rfl⟩) Y.row
   ·have hm:s'∈Ë 8 Sl.any:=Î (i:=j) e;have Z:=(ę.mp hm).2;subst Z;trivial
  ·exact⟨λ_ _ _ _ _ _ n=>n.elim,λd v h' n w=>q d v h' n w.k0 w.pen (w.rp.mono (λ_ o=>o.1) (λ_ _ _ e=>e) λ_ _ e=>e),λ_ _ _ _ _ _ n=>n.elim,λ_ _ _ _ _ _ n=>n.elim⟩
def Eh{α:Type}(l:List α)(m:Nat):gC l none (some (m:Int))=l.take m:=by
 unfold gC;have a:HT.sIx ⇑l 0 none=0:=rfl;have b:HT.sIx ⇑l ⇑l (some (m:Int))=min m ⇑l:=HT.sX _ _ _;rw[a,b,List.drop_zero,Nat.sub_zero];by_cases h:m<=⇑l
 ·rw[Nat.min_eq_left h]
 ·rw[Nat.min_eq_right (),þ,Ţ ()]
theorem yJ{α β:Type}(f:α->β)(l:List α):∀m:Nat,(Ë m (l.map f)).flatten=(Ë m l).flatten.map f
 |0=>rfl
 |m+1=>by rw[ě,ě,ú,ú,Ö,yJ f l m]
theorem Hw{α:Type}(l:List α):∀m:Nat,(Ë m l).flatten.length=⇑l * m
 |0=>rfl
 |m+1=>by rw[ě,ú,É,Hw l m,Nat.mul_succ,Nat.add_comm]
theorem cT.rep{n:Int}{l:fN}(h:cT n l):∀m:Nat,cT n (Ë m l).flatten
 |0=>λt ht=>nomatch ht
 |m+1=>by rw[ě,ú];exact h.app (cT.rep h m)
def Xk{P:DEnds}{ρ:List Sl}{rg:Option Nat}{i:Nat}{k:Kd}{d:D}{s:Sl}(e:stK rg ρ i (norm k d) d=some s)(h:P.nx (ρ.set i s)):GK i rg (λ_ P=>P k d) P ρ:=eY e h
def Uv:FF:=λds P=>∃n:Int,ds=[.int n]/\1<=n/\n<=8/\∀ts:fN,⇑ts<=40->cT n ts->P (.list (ts.map pD))
def ZG:FF:=λds P=>∃m:Int,ds=[.int m]/\1<=m/\m<=8/\∀(n:Int)(us:fN),1<=n->n<=m->⇑us<=40->cT n us->P (aC n us)
abbrev RT(n k:Int)(ts:fN)(s4:Sl):List Sl:=[.pen CP,.im (.int n),.im (.int k),.dw 0 (.list (ts.map pD)),s4]
def aam{n k:Int}{ts:fN}{ds':gg}{s4:Sl}(a:Nr s4):(forget 0 (RT n k ts s4)).set 3 (.dw 0 (.list ds'))=[.pen CP,.im (.int n),.im (.int k),.dw 0 (.list ds'),s4]:=by
 show [Sl.pen CP,Sl.im (.int n),Sl.im (.int k),Sl.dw 0 (.list ds'),(if s4.region=some 0 then Sl.any else s4)]=_;rw[fgN a]
def Ut{n k:Int}{ts:fN}{s4:Sl}(a:Nr s4):iV 0 (RT n k ts s4) 3=true:=by
 show(s4.region != some 0&&true)=true;rw[a];rfl
def rC(L:Nat):DS:=λP ρ=>∃(n k:Int)(ts:fN)(s4:Sl),1<=n/\n<=8/\Nr s4/\ρ=RT n k ts s4/\⇑ts<=L/\cT n ts/\∀us:fN,⇑us<=40->cT n us->P.rt (.list (us.map pD))
def rC.on{L:Nat}{P:DEnds}{n k:Int}{ts:fN}{s4:Sl}(b:1<=n)(c:n<=8)(a:Nr s4)(hl:⇑ts<=L)(ok:cT n ts)(q:∀us:fN,⇑us<=40->cT n us->P.rt (.list (us.map pD))):rC L P (RT n k ts s4) :=
 ⟨n,k,ts,s4,b,c,a,rfl,hl,ok,q⟩
abbrev N18:List Str:=[aa,ai,"_law_kind",ax,be]
def Yu:FnScope N18 [aa,ai] (au (top 60)):=zC
def Um:([br,aa,ai,"_law_kind",ax,be]:List Str).Nodup:=⋯
def Zd:([ca,aa,ai,"_law_kind",ax,be]:List Str).Nodup:=⋯
def RK(F:Fun K dQ dQ (top 60) f fd)(B:į mg)(T:Bp P w K mg gy 1 bd [aa,ar] rR)(I:Bp P w K mg gy 2 db [aa,ai] Iw)(J:Bp P w K mg gy 2 ce [aa,ai] fGr):3∩[aa,ai]∩spP CP Uv:=by
 refine F.ok Yu fW (λcdv A outer s H vs Q E hr h=>?_);have x:=Yu.nd;refine⟨_,aL (bI none (Ů (i:=2) x rfl (đ rfl) (dcP T hr (pv 0) (aj aG ak))))
  (aL (bI (some 0) (Ů (i:=3) x rfl (đ rfl) (cY ak)))
  (aL (oK (PDW.pt (pQ (iz (dv 1) aG) (kE (jt (uK ou ou aG (dv 2) aG) tG))))
   (aL (bI (some 0) (Ů (i:=3) x rfl (đ rfl) (V0 (dcP J hr (pv 0) (aj (dv 1) ak)) (kO aG (Rx (dv 2) aG)))))
   (aM (dB (i:=3) (bY (iy û ŭ Ŭ jA (pv 3) (aj (iR [br] rfl (bK B.range (aj (dcP T hr (pv 0) (aj aG ak)) ak)) (λc=>aO (Ś (i:=0) Um rfl (đ rfl))) (λc=>dJ) (λc=>dcP I hr (pv 1) (aj (dv 2) ak))) ak)))))) jh)
  (jk.wk (t':=rC 170) (aL (oK (PDW.pt (pQ (iz (dv 1) aG) (kE (fD hr.units (dv 2) (dH (aj aG (aj aG ak)))))))
   (aM (bI (some 0) (PS.wk' (Mh [br] (i:=3) rfl x rfl (đ rfl) (bK B.range (aj (dcP T hr (pv 0) (aj (kO (MN aG (dv 1)) aG) ak)) ak)) (λc=>aO (Ś (i:=0) Um rfl (đ rfl))) (λc=>dJ) (λc=>dcP I hr (pv 1) (aj (dv 2) ak))) (λD σ H q=>tE σ H _ q)))) jh)
  (jk.wk (t':=rC 170) (aL (oK (MK (dv 2) aG)
   (aM (ji ï rfl (bK B.range (aj (dv 1) ak)) (aO (Ś (i:=4) x rfl (Or.inr rfl)))
    (aM (dB (i:=3) (bY (iy û ŭ Ŭ jA (pv 3) (aj (iR [ca] rfl (bK B.range (aj (dv 1) ak)) (λc=>aO (Ś (i:=0) Zd rfl (đ rfl))) (λc=>gP (MJ (dv 5) (dv 0))) (λc=>dH (aj (dv 5) (aj (dv 0) ak)))) ak))))))) jh)
  (aM (bw (FJ (dv 3) nG (fX aG))))) ?m2)) ?m1))),enterQ h ?_⟩
 case m1 =>
  rintro P ρ ⟨n,k,ts,s4,o,m,p,rfl,hl,ok,q⟩;refine d9 (λu=>⟨∅,rfl,rfl,d9 (λc2=>?_) (λc2=>rC.on o m p hl ok q)⟩) (λu=>aJ (rC.on o m p hl ok q));have u:1<n:=fk u;refine⟨rfl,.inl ⟨∅,∅⟩,_,rfl,(),(),λr r0 r1=>⟨⟨(),()⟩,by rw[Ĭ];lia,.imm,λi ys=>∃e:fN,ys=e.map pD/\⇑e=i/\cT n e,⟨[],rfl,rfl,λt ht=>nomatch ht⟩,?_,?_⟩⟩
  ·rintro i d ys hd ⟨e,rfl,hu,g⟩;let⟨hi,rfl⟩:=ŕ hd;exact aF (B:=True) ⟨rfl,n,rfl,(),(),λa b a0 a1 b0 b1 _=>⟨rfl,e++[(a,b)],app1 _ _ _,by rw[É,á,hu],g.app (cT.one ⟨⟨a0,a1⟩,b0,b1⟩)⟩⟩
  ·rintro ys ⟨e,rfl,hu,g⟩;rw[Ĭ]at hu;refine eY (s:=.dw 0 (.list (e.map pD))) ?_ (rC.on o m p () g q);show(if iV 0 (RT n k ts s4) 3=true then some (Sl.dw 0 (.list (e.map pD)))else none)=_;rw[fo (Ut p)]
 case m2 =>
  rintro P ρ ⟨n,k,ts,s4,o,m,p,rfl,hl,ok,q⟩
  -- what is told
  have v:∀(ts:fN)(s4:Sl),cT n ts->Bd (XS (tV 3) (NZ) (NT (tK (.int 40)))) P (RT n k ts s4):=λts s4 ok=>by
   refine .inl ⟨?_,rfl,?_⟩
   ·show eU (gC (ts.map pD) none (some (~~~(40))))=true;rw[Eh,←List.map_take];exact dz _
   ·show P.rt (.list (gC (ts.map pD) none (some (~~~(40)))));rw[Eh,←List.map_take];exact q _ (by rw[Ĺ];lia) λt ht=>ok t (List.mem_of_mem_take ht)
  refine d9 (λc=>⟨⟨(),()⟩,rfl,λ(i:Nat) ρ=>∃(ts:fN)(s4:Sl),Nr s4/\ρ=RT n k ts s4/\⇑ts<=170+8 * i/\cT n ts,⟨ts,s4,p,rfl,hl,ok⟩,?_,?_⟩) (λc=>v ts s4 ok)
  ·rintro i d ρ hd ⟨ts,s4,p,rfl,hl,ok⟩;let⟨hi,rfl⟩:=ŕ hd;refine⟨⟨(),()⟩,by rw[Ĭ];lia,.imm,λi ys=>∃e:fN,ys=e.map pD/\⇑e<=i/\cT n e,⟨[],rfl,Ì _,λt ht=>nomatch ht⟩,?_,?_⟩
   ·rintro j d ys hd ⟨e,rfl,hu,g⟩;let⟨N,rfl⟩:=ŕ hd;refine d9 (λc=>⟨zK,rfl,e++[(0+~~~i,0+~~~j)],app1 _ _ _,by rw[É,á];lia,g.app (cT.one ⟨⟨(),()⟩,(),()⟩)⟩) (λc=>⟨e,rfl,(),g⟩)
   ·rintro ys ⟨e,rfl,hu,g⟩;rw[Ĭ]at hu;have G:⇑(ts.map pD)=⇑ts:=À ..;have M:⇑(e.map pD)=⇑e:=À ..;refine⟨rfl,(),ts++e,.im (.int (0+~~~i)),rfl,?_,by rw[É];lia,ok.app g⟩;rw[←Ö];exact aam (s4:=.im (.int (0+~~~i))) rfl
  ·rintro ρ ⟨ts,s4,p,rfl,hl,ok⟩;exact v ts s4 ok
 rintro ds P ⟨n,rfl,o,m,q⟩;refine⟨[.im (.int n),.any,.any,.any],rfl,rfl,8,rfl,∅,∅,λk k0 k1=>⟨∅,?_⟩⟩;refine d9 (λu=>?_) (λu=>aJ (rC.on (ts:=[]) o m rfl ∅ (λt ht=>nomatch ht) q));have u:1<n:=fk u;show if decide ((0:Int)<k)=true then _ else _
 refine d9 (λc2=>?_) (λc2=>aJ (rC.on (ts:=[]) o m rfl ∅ (λt ht=>nomatch ht) q));show if decide (k<(5:Int))=true then _ else _
 refine d9 (λc3=>?_) (λc3=>rC.on (ts:=[]) o m rfl ∅ (λt ht=>nomatch ht) q);refine⟨rfl,n,rfl,(),m,λts lt ok=>⟨⟨∅,∅⟩,?_⟩⟩;have O:0<=k / 4/\k / 4<=1:=()
 have L:(1+k / 4).toNat<=2:=()
 have G:⇑(ts.map pD)=⇑ts:=À ..;have R:⇑ts * (1+k / 4).toNat<=160:=by
  have:=Ş lt L;lia
 refine⟨(),(),by rw[G];lia,.inl ⟨?_,?_⟩⟩
 ·rw[yJ];exact dz _
 rw[yJ];have C:=Hw ts (1+k / 4).toNat;have y:=ok.rep (1+k / 4).toNat;generalize (Ë (1+k / 4).toNat ts).flatten=l at C y;show GK 3 (some 0) (λ_ P=>P .new (.list (l.map pD))) _ (RT n k [] .any);refine Xk (s:=.dw 0 (.list (l.map pD))) ?_ ?_
 ·show(if iV 0 (RT n k [] .any) 3=true then some (Sl.dw 0 (.list (l.map pD)))else none)=_;rw[fo (Ut rfl)]
 refine⟨rfl,3,rfl,∅,∅,λr r0 r1=>⟨⟨(),()⟩,by rw[Ĭ];lia,.imm,λi ys=>∃e:fN,ys=e.map pD/\⇑e=i/\cT n e,⟨[],rfl,rfl,λt ht=>nomatch ht⟩,?_,?_⟩⟩
 ·rintro i d ys hd ⟨e,rfl,hu,g⟩;let⟨hi,rfl⟩:=ŕ hd;exact aF (B:=True) ⟨rfl,n,rfl,(),(),λa b a0 a1 b0 b1 _=>⟨rfl,e++[(a,b)],app1 _ _ _,by rw[É,á,hu],g.app (cT.one ⟨⟨a0,a1⟩,b0,b1⟩)⟩⟩
 ·rintro ys ⟨e,rfl,hu,g⟩;rw[Ĭ]at hu;have G:⇑(l.map pD)=⇑l:=À ..;have M:⇑(e.map pD)=⇑e:=À ..;refine⟨rfl,(),?_⟩;have z:=aam (n:=n) (k:=k) (ts:=l) (ds':=l.map pD++e.map pD) (s4:=.any) rfl;show rC 170 _ ((forget 0 (RT n k l .any)).set 3 _);rw[z,←Ö];exact rC.on o m rfl (by rw[É];lia) (y.app g) q
def Yt:FnScope [aa,dS,ai,"_law_order_here"] [aa,dS] (au (top 61)):=zC
def Ul:([be,ca,aa,dS,ai,"_law_order_here"]:List Str).Nodup:=⋯
def RJ(F:Fun K eI eI (top 61) f fd)(B:į mg)(T:Bp P w K mg gy 1 bd [aa,ar] rR)(k:Bp P w K mg gy 2 dl [aa,ai] Py)(TI:Bp P w K mg gy 3 dQ [aa,ai] Uv):4∩[aa,dS]∩spP CP ZG:=by
 refine F.ok Yt fW (λcdv A outer s H vs Q E hr h=>?_);have j:=Yt.nd;refine⟨_,aL (bI none (Ů (i:=2) j rfl (đ rfl) (kO aG (dcP T hr (pv 0) (aj (dv 1) ak)))))
  (aL (bI none (Ů (i:=3) j rfl (Or.inr rfl) (dcP k hr (pv 0) (aj (dv 2) ak))))
  (aM (bw (dH (aj (dv 2) (aj (gJ B.tuple (aj (iB B.sorted (aj (iR [be,ca] rfl (dU (dcP TI hr (pv 0) (aj (dv 2) ak))) (λc=>fQ (n:=2) rfl (lZ (aO (Ś (i:=0) Ul rfl (đ rfl))) (lZ (aO (Ś (i:=1) Ul rfl (đ rfl))) dD))) (λc=>dJ) (λc=>dH (aj (jd (dv 5) (dv 0) (λ_ _=>rfl)) (aj (jd (dv 5) (dv 1) (λ_ _=>rfl)) ak)))) ak)) ak)) ak)))))),enterQ h ?_⟩
 rintro ds P ⟨m,rfl,J,L,q⟩;refine⟨[.im (.int m),.any,.any],rfl,?_⟩;refine⟨rfl,m,rfl,(),(),λr r0 r1=>⟨rfl,1+r,rfl,(),(),λl hl=>⟨rfl,1+r,rfl,(),(),λts lt ok=>?_⟩⟩⟩;have I:⇑(ts.map pD)=⇑ts:=À ..;refine⟨(),.imm,λi ys=>∃b:fN,ys=b.map pD/\⇑b=i/\cT (1+r) b,⟨[],rfl,rfl,λt ht=>nomatch ht⟩,?_,?_⟩
 ·rintro i d ys hd ⟨b,rfl,hu,g⟩;let⟨t,ht,rfl⟩:=bH hd;let⟨⟨o,p⟩,b0,b1⟩:=ok t (Î ht);let⟨x,u,z,C⟩:=hl.at o p;let⟨y,v,D,G⟩:=hl.at b0 b1;exact⟨rfl,aF (B:=True) ⟨.int x,u,.int y,v,zK,rfl,b++[(x,y)],app1 _ _ _,by rw[É,á,hu],g.app (cT.one ⟨⟨z,C⟩,D,G⟩)⟩⟩
 rintro ys ⟨vs,rfl,hv,a⟩;refine⟨vs,.inl rfl,(),λt ht=>⟨(a t ht).2.1,by have:=(a t ht).2.2;lia⟩,λus' hp _=>⟨zK,?_,q (1+r) us' () () (by rw[hp.length_eq];lia) λt ht=>a t (hp.mem_iff.mp ht)⟩⟩;have e:=iU (1+r) us';show(norm _ (aC (1+r) us')).le .n0=true;rw[iC e];rfl
def subs:Nat->fI
 |0=>[[]]
 |k+1=>subs k++(subs k).map λl=>l++[0+~~~k]
theorem bB:∀k,⇑(subs k)=2 ^ k
 |0=>rfl
 |k+1=>by
  show(subs k++(subs k).map _).length=_;rw[É,À,bB k,Ż];lia
theorem qL:∀k,∃r,subs k=[]::r/\∀l∈r,l≠[]
 |0=>⟨[],rfl,λl h=>nomatch h⟩
 |k+1=>by
  let⟨r,e,h⟩:=qL k;refine⟨r++(subs k).map λl=>l++[0+~~~k],?_,λl hl=>?_⟩
  ·have h2:∀M:fI,subs k++M=[]::(r++M):=λM=>by rw[e];rfl
   exact h2 _
  ·rcases Û.mp hl with z|z
   ·exact h l z
   ·let⟨a,_,rfl⟩:=è.mp z;simp
theorem iQ:∀k (l:fM),l∈subs k->l.Pairwise (·<·)/\(∀x∈l,0<=x/\x<k)/\⇑l<=k
 |0,l,h=>by
  rw[Í.mp h];exact⟨.nil,λx h=>(nomatch h),Ì _⟩
 |k+1,l,h=>by
  rcases Û.mp h with z|z
  ·let⟨h1,h2,b⟩:=iQ k l z;exact⟨h1,λx hx=>by have:=h2 x hx;lia,()⟩
  ·let⟨a,ha,rfl⟩:=è.mp z;let⟨h1,h2,b⟩:=iQ k a ha;refine⟨List.pairwise_append.mpr ⟨h1,by simp,λx hx y hy=>?_⟩,λx hx=>?_,by rw[É,á];lia⟩
   ·rw[Í.mp hy];have:=h2 x hx;lia
   ·rcases Û.mp hx with z|z
    ·have:=h2 x z;lia
    ·rw[Í.mp z];lia
def uI(k:Nat):fM:=(Ø k).map λi=>0+(~~~i)
theorem Ak(p:Int->Bool):∀k,(uI k).filter p∈subs k
 |0=>Í.mpr rfl
 |k+1=>by
  have e:uI (k+1)=uI k++[0+~~~k]:=by
   unfold uI;rw[List.range_succ,Ö];rfl
  rw[e,List.filter_append];cases hp:p (0+~~~k)with
  |true =>
   rw[List.filter_cons_of_pos hp];exact î _ (è.mpr ⟨_,Ak p k,rfl⟩)
  |false =>
   rw[List.filter_cons_of_neg (by rw[hp];exact Ù)];rw[List.filter_nil,í];exact ċ _ (Ak p k)
def Dh{k:Nat}{x:Int}:x∈uI k↔0<=x/\x<k:=by
 unfold uI;rw[è];constructor
 ·rintro⟨i,hi,rfl⟩;have:=ò.mp hi;lia
 ·rintro⟨a,h1⟩;exact⟨x.toNat,ò.mpr (),()⟩
def fSB:FF:=λds P=>∃c:Int,ds=[.int c]/\0<=c/\c<=8/\P (.list ((subs c.toNat).map lD))
theorem BJ:∀k,∃r full,subs k=r++[full]/\⇑full=k/\∀l∈r,⇑l<k
 |0=>⟨[],[],rfl,rfl,λl h=>nomatch h⟩
 |k+1=>by
  let⟨r,full,e,b,h⟩:=BJ k;refine⟨subs k++r.map λl=>l++[0+~~~k],full++[0+~~~k],?_,by rw[É,b];rfl,λl hl=>?_⟩
  ·show subs k++(subs k).map _=_;rw[ľ];congr 1;rw[e,Ö];rfl
  ·rcases Û.mp hl with z|z
   ·have:=(iQ k l z).2.2;lia
   ·let⟨a,ha,rfl⟩:=è.mp z;have:=h a ha;rw[É,á];lia
def pss(k:Nat):fI:=(subs k).filter λl=>decide (0<⇑l)&&decide (⇑l<k)
def Rg{k:Nat}(hk:1<=k):((subs k).drop 1).dropLast=pss k:=by
 let⟨r,e,hr⟩:=qL k;let⟨o,b,c,n,d⟩:=BJ k;have g:=bB k;have p:2 ^ 1<=2 ^ k:=Ă ∅ hk;cases o with
 |nil=>rw[c]at g;simp at g;lia
 |cons a m =>
  have f:a=[]/\r=m++[b]:=by
   rw[e]at c;simpa[eq_comm]using c
  have h:subs k=[]::(m++[b]):=by rw[e,f.2]
  unfold pss;rw[h];show(m++[b]).dropLast=_;rw[List.dropLast_concat];have i:(decide (0<⇑([]:fM))&&decide (⇑([]:fM)<k))=false:=rfl;have j:(decide (0<⇑b)&&decide (⇑b<k))=false:=by rw[n,fi (Ę k),Bool.and_false]
  rw[List.filter_cons_of_neg (by rw[i];exact Ù),List.filter_append,List.filter_cons_of_neg (by rw[j];exact Ù),List.filter_nil,í];symm;rw[List.filter_eq_self];intro l hl;have h1:l≠[]:=hr l (by rw[f.2];exact ċ _ hl);have h2:=d l (Ç _ hl);rw[gz (Ŵ.mpr h1),gz h2];rfl
def Sq(k:Nat):⇑(pss k)<=2 ^ k:=by
 rw[←bB k];exact Ŕ _ _
def Ag(l:fM)(t:Tie):Bool:=!decide (t.1∈l)&&decide (t.2∈l)
def Nb(l:fM)(t:Tie):Bool:=decide (t.1∈l)&&!decide (t.2∈l)
def inN(a:fN)(l:fM):Nat:=⇑(a.filter (Ag l))
def JB(a:fN)(l:fM):Nat:=⇑(a.filter (Nb l))
def Zk(a:fN)(l:fM):(a.filter (lv l)).filter (λt=>decide (t.2∈l))=a.filter (Ag l):=by
 rw[List.filter_filter];congr 1;funext t;unfold lv Ag;cases decide (t.1∈l) <;> cases decide (t.2∈l) <;> rfl
def V4(a:fN)(l:fM):(a.filter (lv l)).filter (λt=>decide (t.1∈l))=a.filter (Nb l):=by
 rw[List.filter_filter];congr 1;funext t;unfold lv Nb;cases decide (t.1∈l) <;> cases decide (t.2∈l) <;> rfl
def ZS:FF:=λds P=>∃n us l,ds=[aC n us,.list (l.map Â)]/\Proper n l/\⇑us<=100/\P (.int (inN us l:Nat))
def Ux:FF:=λds P=>∃n us l,ds=[aC n us,.list (l.map Â)]/\Proper n l/\⇑us<=100/\P (.int (JB us l:Nat))
def byS(a:fN)(s:Str)(l:fM):Nat:=if s=bS then inN a l else JB a l
def fTB:FF:=λds P=>∃n us s l,ds=[aC n us,.str s,.list (l.map Â)]/\Proper n l/\⇑us<=100/\P (.int (byS us s l:Nat))
def nd1(a:Int)(m:Nat):Int:=if 0 > a+1 - (m:Int)then 0 else a+1 - (m:Int)
def fON:FF:=λds P=>∃n us fa s l,ds=[aC n us,.int fa,.str s,.list (l.map Â)]/\Proper n l/\⇑us<=100/\P (.int (nd1 fa (byS us s l)))
def TX:FnScope [bu,"told",ei] [bu] (au (top 16)):=zC
def Ze:([am,bu,"told",ei]:List Str).Nodup:=⋯
def YZ(F:Fun K dm dm (top 16) f fd)(B:į mg):1∩[bu]∩spD fSB:=by
 refine F.ok TX bO (λcdv A outer s H vs Q E hr h=>?_);have a:=TX.nd;refine⟨_,aL (bI none (Ů (i:=1) a rfl (đ rfl) (cY (aj (cY ak) ak))))
  (aL (ji ï rfl (bK B.range (aj (dv 0) ak)) (aO (Ś (i:=2) a rfl (Or.inr rfl)))
   (aM (bI none (Ů (i:=1) a rfl (đ rfl) (zf (dv 1) (iR [am] rfl (dU (dv 1)) (λc=>aO (Ś (i:=0) Ze rfl (đ rfl))) (λc=>dJ) (λc=>zf (dv 0) (cY (aj (dv 3) ak)))))))))
  (aM (bw (dv 1)))),fO h ?_⟩
 rintro ds P ⟨c,rfl,m,n,q⟩;refine⟨[.im (.int c),.any,.any],rfl,zK,zK,⟨(),()⟩,rfl,λ(i:Nat) ρ=>∃b,ρ=[.im (.int c),.sn (.list ((subs i).map lD)),b],⟨_,rfl⟩,?_,?_⟩
 ·rintro i d ρ hd ⟨b,rfl⟩;let⟨hi,rfl⟩:=ŕ hd;have k:⇑((subs i).map lD)<=128:=by
   rw[À,bB];exact Ă ∅ (show i<=7 by lia)
  refine⟨(),.new,λj ys=>ys=((subs i).take j).map λl=>lD (l++[0+~~~i]),rfl,?_,?_⟩
  ·rintro j d ys hd rfl;let⟨l,hl,rfl⟩:=bH hd;have g:=iQ i l (Î hl);have im:=gj (l++[0+~~~i]);rw[Ö]at im;refine aF (B:=True) ⟨zK,?_,.inl ⟨im,rfl,?_⟩⟩
   ·show(l.map Â).length+1<=1000;rw[À];lia
   ·dsimp only;rw[o7 _ hl];show _++[Č (l.map Â++[.int (0+~~~i)])]=_++[Č ((l++[0+~~~i]).map Â)]
    rw[Ö];rfl
  ·rintro ys rfl;refine⟨?_,.inr ⟨.im (.int (0+~~~i)),?_⟩⟩
   ·rw[À (as:=List.take _ _),Ĺ];rw[À]at k ⊢;lia
   ·have e:(subs i).map lD++(((subs i).take ⇑((subs i).map lD)).map λl=>lD (l++[0+~~~i]))=(subs (i+1)).map lD:=by
     rw[À,þ];show _=(subs i++(subs i).map _).map lD;rw[Ö,ô];rfl
    rw[e];rfl
 ·rintro ρ ⟨b,rfl⟩;rw[Ĭ];exact⟨rfl,q⟩
def scI:FnScope [al,am] [al,am] (au (top 27)):=zC
def ndI:([eD,al,am]:List Str).Nodup:=⋯
def Wf(F:Fun K "ins" "ins" (top 27) f fd)(B:į mg)(b:6∪bb∪[cc,am]∪spD Xa):7∩[al,am]∩spD ZS:=by
 refine F.ok scI bO (λcdv A outer s H vs Q E hr h=>?_);refine⟨_,aM (bw (dR B.len (aj (iR [eD] rfl (dU (dc b hr (aj (dv 0) (aj (dv 1) ak)))) (λc=>aO (Ś (i:=0) ndI rfl (đ rfl))) (λc=>gP (fD hr.units (kI (dv 0) aG (λ_ _=>rfl)) (dv 2))) (λc=>dv 0)) ak))),fO h ?_⟩;rintro ds P ⟨n,a,l,rfl,g,hl,q⟩;refine⟨[.im (aC n a),.sh (.list (l.map Â))],?_,n,a,l,rfl,g,hl,?_⟩
 ·show [bJ (aC n a),bJ (.list (l.map Â))]=_;rw[dM];rfl
 have j:⇑((a.filter (lv l)).map pD)<=⇑a:=by rw[À];exact Ŕ _ _
 refine⟨(),.imm,λi ys=>ys=(((a.filter (lv l)).take i).filter (λt=>decide (t.2∈l))).map pD,rfl,?_,?_⟩
 ·rintro i d ys hd rfl;let⟨t,ht,rfl⟩:=bH hd;refine⟨.int t.2,rfl,rfl,bZ l,?_⟩;show if((l.map Â).any λe=>ö e (.int t.2))=true then _ else _
  rw[Ŋ];have sn:=tO (λt:Tie=>decide (t.2∈l)) pD ht;cases hb:decide (t.2∈l)with
  |true =>
   rw[hb,fo rfl]at sn;exact aF (B:=True) ⟨rfl,sn.symm⟩
  |false =>
   rw[hb,fq Ù,í]at sn;exact aJ (A:=True) sn.symm
 ·rintro ys rfl;refine⟨rfl,?_⟩;show P (.int (~~~(⇑((((a.filter (lv l)).take ⇑((a.filter (lv l)).map pD)).filter (λt=>decide (t.2∈l))).map pD))));rw[À (as:=a.filter (lv l)),þ,Zk,À];exact q
def scO:FnScope [al,am] [al,am] (au (top 28)):=zC
def RN(F:Fun K "outs" "outs" (top 28) f fd)(B:į mg)(b:6∪bb∪[cc,am]∪spD Xa):7∩[al,am]∩spD Ux:=by
 refine F.ok scO bO (λcdv A outer s H vs Q E hr h=>?_);refine⟨_,aM (bw (dR B.len (aj (iR [eD] rfl (dU (dc b hr (aj (dv 0) (aj (dv 1) ak)))) (λc=>aO (Ś (i:=0) ndI rfl (đ rfl))) (λc=>gP (fD hr.units (kI (dv 0) aG (λ_ _=>rfl)) (dv 2))) (λc=>dv 0)) ak))),fO h ?_⟩;rintro ds P ⟨n,a,l,rfl,g,hl,q⟩;refine⟨[.im (aC n a),.sh (.list (l.map Â))],?_,n,a,l,rfl,g,hl,?_⟩
 ·show [bJ (aC n a),bJ (.list (l.map Â))]=_;rw[dM];rfl
 have j:⇑((a.filter (lv l)).map pD)<=⇑a:=by rw[À];exact Ŕ _ _
 refine⟨(),.imm,λi ys=>ys=(((a.filter (lv l)).take i).filter (λt=>decide (t.1∈l))).map pD,rfl,?_,?_⟩
 ·rintro i d ys hd rfl;let⟨t,ht,rfl⟩:=bH hd;refine⟨.int t.1,rfl,rfl,bZ l,?_⟩;show if((l.map Â).any λe=>ö e (.int t.1))=true then _ else _
  rw[Ŋ];have sn:=tO (λt:Tie=>decide (t.1∈l)) pD ht;cases hb:decide (t.1∈l)with
  |true =>
   rw[hb,fo rfl]at sn;exact aF (B:=True) ⟨rfl,sn.symm⟩
  |false =>
   rw[hb,fq Ù,í]at sn;exact aJ (A:=True) sn.symm
 ·rintro ys rfl;refine⟨rfl,?_⟩;show P (.int (~~~(⇑((((a.filter (lv l)).take ⇑((a.filter (lv l)).map pD)).filter (λt=>decide (t.1∈l))).map pD))));rw[À (as:=a.filter (lv l)),þ,V4,À];exact q
def aaD:FnScope [al,az,am] [al,az,am] (au (top 29)):=zC
def YX(F:Fun K eA eA (top 29) f fd)(d:7∪"ins"∪[al,am]∪spD ZS)(e:7∪"outs"∪[al,am]∪spD Ux):8∩[al,az,am]∩spD fTB:=by
 refine F.ok aaD bO (λcdv A outer s H vs Q E hr h=>?_);refine⟨_,aM (bw (jw (MK (dv 1) eG) (dc d hr (aj (dv 0) (aj (dv 2) ak))) (dc e hr (aj (dv 0) (aj (dv 2) ak))))),fO h ?_⟩;rintro ds P ⟨n,a,s,l,rfl,b,hl,q⟩;refine⟨[.im (aC n a),.im (.str s),.sh (.list (l.map Â))],?_,?_⟩
 ·show [bJ (aC n a),bJ (.str s),bJ (.list (l.map Â))]=_;rw[dM];rfl
 unfold byS at q;refine d9 (λc=>⟨n,a,l,rfl,b,hl,rfl,?_⟩) (λc=>⟨n,a,l,rfl,b,hl,rfl,?_⟩)
 ·rw[fo (fk c)]at q;exact q
 ·rw[fq (λz=>c (gz z))]at q;exact q
def aaE:FnScope [al,ag,az,am] [al,ag,az,am] (au (top 30)):=zC
def Y0(F:Fun K dy dy (top 30) f fd)(B:į mg)(c:8∪eA∪[al,az,am]∪spD fTB):9∩[al,ag,az,am]∩spD fON:=by
 refine F.ok aaE bO (λcdv A outer s H vs Q E hr h=>?_);refine⟨_,aM (bw (jL rfl B.max (aj (cV (kO (dv 1) aG) (dc c hr (aj (dv 0) (aj (dv 2) (aj (dv 3) ak))))) (aj aG ak)))),fO h ?_⟩;rintro ds P ⟨n,a,b,s,l,rfl,d,hl,q⟩;refine⟨[.im (aC n a),.im (.int b),.im (.str s),.sh (.list (l.map Â))],?_,n,a,s,l,rfl,d,hl,rfl,q⟩;show [bJ (aC n a),bJ (.int b),bJ (.str s),bJ (.list (l.map Â))]=_;rw[dM];rfl
def rng(n:Int):fM:=(Ø n.toNat).map λi=>0+(~~~i)
def oth(n:Int)(l:fM):fM:=(rng n).filter λx=>!decide (x∈l)
def HW{n x:Int}:x∈rng n↔0<=x/\x<n:=by
 unfold rng;rw[è];constructor
 ·rintro⟨i,hi,rfl⟩;have:=ò.mp hi;lia
 ·rintro⟨a,h1⟩;exact⟨x.toNat,ò.mpr (),()⟩
def qe{n x:Int}{l:fM}:x∈oth n l↔(0<=x/\x<n)/\x∉l:=by
 unfold oth;rw[â,HW];simp
theorem pig:∀(n:Nat)(l:fM),(∀i,i<n->(~~~i)∈l)->n<=⇑l
 |0,_,_=>ą _
 |n+1,l,h=>by
  have hm:=h n (ň _);have a:=pig n (l.erase (~~~n)) λi hi=>(List.mem_erase_of_ne ()).mpr (h i ());rw[List.length_erase_of_mem hm]at a;have:=List.length_pos_of_mem hm;lia
def FQ{n:Int}{l:fM}(h:Proper n l):Proper n (oth n l):=by
 have d:⇑(rng n)=n.toNat:=by unfold rng;simp
 have h1:=h.one;have h2:=h.few;refine⟨?_,?_,λx c=>(qe.mp c).1,?_,h.n16⟩
 ·by_cases z:∀i,i<n.toNat->(~~~i)∈l
  ·have:=pig _ _ z;lia
  ·have z:∃i:Nat,i<n.toNat/\(~~~i)∉l:=by
    refine ù λy=>z λi hi=>ù λw=>y ⟨i,hi,w⟩
   let⟨i,hi,w⟩:=z;exact List.length_pos_of_mem (qe.mpr ⟨⟨(),()⟩,w⟩)
 ·obtain⟨x,c⟩:∃x,x∈l:=by
   cases l with
   |nil=>exact ft h1 ∅
   |cons x l=>exact⟨x,Æ⟩
  have q:⇑(oth n l)<⇑(rng n):=by
   unfold oth;exact List.length_filter_lt_length_iff_exists.mpr ⟨x,HW.mpr (h.rng x c),by simp[c]⟩
  lia
 ·unfold oth;refine List.Pairwise.filter _ ?_;unfold rng;rw[List.pairwise_map];exact List.pairwise_lt_range.imp λ{a b} h=>()
def Te{i:Int}{ns:fM}(h:(0:Int)<(⇑(ns.map V.int):Nat)):∃v:Int,atI (ns.map V.int) (i % (⇑(ns.map V.int):Int))=some (.int v):=by
 rw[À]at h ⊢;have h1:=Int.emod_nonneg i (b:=(⇑ns:Int)) ();have h2:=Int.emod_lt_of_pos i h;have hk:(i % (⇑ns:Int)).toNat<⇑ns:=()
 have a:i % (⇑ns:Int)=(((i % (⇑ns:Int)).toNat:Nat):Int):=()
 have q:atI (ns.map V.int) (((i % (⇑ns:Int)).toNat:Nat):Int)=some (.int ns[(i % (⇑ns:Int)).toNat]):=cU (by rw[Þ,Å hk];rfl);rw[←a]at q;exact⟨_,q⟩
def Yk(K:Ý):Sp:=λvs H Q _=>∃(a:Addr)(ns:fM),vs=[.ref a]/\SqL K H a (ns.map V.int)/\∀H',Q (.bl true) H'
def TQ(K:Ý):Sp:=λvs H Q _=>∃(sc:Addr)(ns:fM)(k:Int),vs=[.ref sc,.int k]/\0<=k/\k<1000/\SqL K H sc (ns.map V.int)/\∀p H',Same H H'->H p=none->yj p H'->Q (.ref p) H'
def aau{k:Int}{ns:fM}(b:0<=k)(h:k<(⇑(ns.map V.int):Nat)):∃v:Int,atI (ns.map V.int) k=some (.int v):=by
 rw[À]at h;have hk:k.toNat<⇑ns:=()
 have a:k=(~~~k.toNat):=()
 have q:atI (ns.map V.int) (~~~k.toNat)=some (.int ns[k.toNat]):=cU (by rw[Þ,Å hk];rfl);rw[←a]at q;exact⟨_,q⟩
def X5:TS:=λD σ H=>∃(a0:Option V)(k cell:Int),σ=[a0,some (.int k),some (.int cell)]/\∀l a b c,H l=none->D.rt (.ref l) (upd H l (.lst [.int a,.int b,.int c]))
def Yn:FnScope [aT,br,"_law_cell"] [aT,br] (au (top 55)):=zC
def Wc(F:Fun K eJ eJ (top 55) f fd)(B:į mg):1∩[aT,br]∩TQ K:=by
 refine F.ok Yn (λvs H Q E h=>?_) (λcdv A outer s H vs Q E hr h=>?_)
 ·let⟨g,ns,k,rfl,_⟩:=h;rfl
 let⟨g,ns,k,rfl,r,u,m,q⟩:=h;have n:=Yn.nd;refine⟨_,ń (Ů (i:=2) n rfl (đ rfl) (cL jO (cL oW Ĳ (pv 1)) Ĳ))
  (ń (uM (mQ ou (pv 1) (fZ gR rfl B.len PySem.boot_len (Į (pv 0) aW)) (cG _))
   (bW (Ů (i:=2) n rfl (đ rfl) (gD dh (pv 0) (pv 1) (λ_ _=>rfl))))
   (bW (uM (mQ Ua (fZ gR rfl B.len PySem.boot_len (Į (pv 0) aW)) Ĳ (cG _))
    (bW (Ů (i:=2) n rfl (đ rfl) (cL jO (cL jN (gD dh (pv 0) (cL jN (pv 1) (fZ gR rfl B.len PySem.boot_len (Į (pv 0) aW))) (λ_ _=>rfl)) (cL Ni Ĳ Ĳ)) (cL oW Ĳ (pv 1))))) mR)))
  (PSs.wk (t':=X5) (ń (uM (mQ Nm (fZ Em rfl B.abs Dl.boot_abs (Į (pv 2) aW)) (cL Ni Ĳ Ĳ) (cG _))
   (bW (iZ (kh (Į (fZ Em rfl B.abs Dl.boot_abs (Į (pv 2) aW)) (Į Ĳ (Į Ĳ aW)))))) mR)
  (bW (iZ (kh (Į (cL jN (pv 2) Ĳ) (Į Ĳ (Į (pv 1) aW))))))) ?pen)),?_⟩
 case pen =>
  rintro D σ o ⟨t,k,d,rfl,p⟩;refine⟨_,rfl,d,rfl,_,_,rfl,rfl,⟨∅,∅,∅⟩,_,_,rfl,rfl,_,rfl,d9 (λc1=>?_) (λc1=>?_)⟩
  ·exact⟨_,rfl,d,rfl,by show 3<=sizeLine;decide,λl hl=>p l _ _ _ hl⟩
  ·exact⟨_,rfl,_,_,rfl,rfl,(by show(0:Int)<2147483587;decide),_,rfl,by show 3<=sizeLine;decide,λl hl=>p l _ _ _ hl⟩
 have e:∀d:Int,X5 { nx:=λ_ o=>Q .non o,rt:=Q } [some (.ref g),some (.int k),some (.int d)] H:=λd=>⟨_,k,d,rfl,λl a b c hl=>q l _ (uG hl _) hl ⟨a,b,c,aq⟩⟩
 refine⟨_,rfl,_,_,rfl,rfl,.inl ⟨∅,∅⟩,_,_,rfl,rfl,?_⟩;refine⟨_,rfl,_,rfl,g,_,rfl,.inl m,_,_,rfl,rfl,_,rfl,d9 (λc1=>?_) (λc1=>?_)⟩
 ·let⟨v,hv⟩:=aau r (fk c1);exact⟨_,rfl,_,rfl,g,_,_,_,rfl,rfl,m,hv,e v⟩
 ·refine⟨_,rfl,g,_,rfl,.inl m,_,_,rfl,rfl,_,rfl,d9 (λj=>?_) (λj=>e _)⟩;have j:=fk j;let⟨v,hv⟩:=Te (i:=k) j;exact⟨_,rfl,_,rfl,_,rfl,g,_,rfl,.inl m,_,_,rfl,rfl,j,g,_,_,_,rfl,rfl,m,hv,_,_,rfl,rfl,⟨∅,∅,∅⟩,_,_,rfl,rfl,(by show(0:Int)<10 ^ 15;decide),_,rfl,_,_,rfl,rfl,.inl ⟨∅,∅⟩,_,_,rfl,rfl,e _⟩
end
def allB(n:Nat)(p:Nat->Bool):Bool:=(Ø n).all p
def allB_iff{n:Nat}{p:Nat->Bool}(h:allB n p=true):∀i,i<n->p i=true:=λi hi=>Ċ.mp h i (ò.mpr hi)
def inB(s r:Nat):Bool:=(s &&& r)==s
def chn:Nat->Nat->Nat->fR
 |0,_,_=>[]
 |f+1,r,s=>s::(if s=0 then []else chn f r ((s - 1) &&& r))
def S9:allB 128 (λr=>chn 129 r r==(Ø (r+1)).reverse.filter (λs=>inB s r))=true:=⋯
def ZC:allB 128 (λr=>allB (r+1) λs=>!inB s r || (((r - s) &&& s==0)&&inB (r - s) r))=true:=⋯
def Zz:allB 8 (λj=>allB (2 ^ j) λr=>allB (r+1) λs=>!inB s r || inB (s+2 ^ j) (r+2 ^ j))=true:=⋯
def ZD:allB 8 (λj=>allB (2 ^ j) λk=>allB (2 ^ j) λs=>(k &&& (s+2 ^ j))==(k &&& s))=true:=⋯
def aa0:allB 8 (λj=>allB (2 ^ j) λr=>allB (2 ^ (j+1)) λm=>!inB m (r+2 ^ j) || (if m<2 ^ j then inB m r else inB (m - 2 ^ j) r))=true:=⋯
def Uu:allB 9 (λn=>allB (2 ^ n) λa=>(subs n).getD a []==((Ø n).filter (λi=>a.testBit i)).map λi:Nat=>0+~~~i)=true:=⋯
def gM{s r:Nat}:inB s r=true↔s &&& r=s:=fy
def dG{s r:Nat}(h:inB s r=true):s<=r:=by
 have:=gM.mp h;rw[←this];exact Nat.and_le_right
def U4{r s:Nat}(hr:r<128)(h:inB s r=true):((r - s) &&& s)=0/\inB (r - s) r=true:=by
 have a:=allB_iff (allB_iff ZC r hr) s (by have:=dG h;lia);rw[h]at a;simp only[Bool.not_true,Bool.false_or,Ü,fy]at a;exact a
def aak{j r s:Nat}(b:j<8)(hr:r<2 ^ j)(h:inB s r=true):inB (s+2 ^ j) (r+2 ^ j)=true:=by
 have a:=allB_iff (allB_iff (allB_iff Zz j b) r hr) s (by have:=dG h;lia);rw[h]at a;simpa using a
def U5{j k s:Nat}(a:j<8)(hk:k<2 ^ j)(hs:s<2 ^ j):k &&& (s+2 ^ j)=k &&& s:=beq_iff_eq.mp (allB_iff (allB_iff (allB_iff ZD j a) k hk) s hs)
def aai{j r m:Nat}(b:j<8)(hr:r<2 ^ j)(hm:m<2 ^ (j+1))(h:inB m (r+2 ^ j)=true):(m<2 ^ j/\inB m r=true)\/(2 ^ j<=m/\inB (m - 2 ^ j) r=true):=by
 have a:=allB_iff (allB_iff (allB_iff aa0 j b) r hr) m hm;rw[h]at a;by_cases c:m<2 ^ j
 ·rw[fo c]at a;exact .inl ⟨c,↑a⟩
 ·rw[fq c]at a;exact .inr ⟨(),↑a⟩
def qF{r:Nat}(hr:r<128):∀s,s∈chn 129 r r↔inB s r=true:=λs=>by
 rw[beq_iff_eq.mp (allB_iff S9 r hr),â,List.mem_reverse,ò];exact⟨λh=>h.2,λh=>⟨by have:=dG h;lia,h⟩⟩
def Ju{j:Nat}(h:j<8):2 ^ j<=128:=ĉ (Ă (n:=2) ∅ (show j<=7 by lia)) ∅
abbrev En:=Int×fM
def wC(ws ks:fM):Int:=(ks.map λk=>ws.getD k.toNat 0).sum
def K7(ws ks:fM)(k:Int):wC ws (ks++[k])=wC ws ks+ws.getD k.toNat 0:=by
 unfold wC;rw[Ö,List.sum_append];simp
structure BE(ws:fM)(n m:Nat)(e:En):Prop where
 sum:e.1=wC ws e.2
 mem:∀k∈e.2,0<k/\inB k.toNat m=true/\k.toNat+1<2 ^ n
 apart:e.2.Pairwise λa b=>a.toNat &&& b.toNat=0
 top:∀s,inB s m=true->ws.getD s 0<=e.1
 len:∀j,m<2 ^ j->⇑e.2<=j
def BE.nil{ws:fM}{n:Nat}(h:ws.getD 0 0=0):BE ws n 0 (0,[]):=⟨rfl,λk h=>(nomatch h),.nil,λs hs=>by
 have:s=0:=by have:=dG hs;lia
 rw[this,h];exact Ě _,λ_ _=>ą _⟩
def BE.nn{ws:fM}{n m:Nat}{e:En}(h:BE ws n m e)(a:ws.getD 0 0=0):0<=e.1:=by
 have:=h.top 0 (gM.mpr (Nat.zero_and m))
 rwa [a]at this
def BE.zero{ws:fM}{n:Nat}{e:En}(h:BE ws n 0 e):e=(0,[]):=by
 let⟨t,L⟩:=e;have a:L=[]:=by
  cases L with
  |nil=>rfl
  |cons k L =>
   let⟨h1,h2,_⟩:=h.mem k Æ;have:=dG h2;lia
 subst a;have:=h.sum;exact Prod.ext this rfl
def cH(ws:fM)(bs:List En)(top rest:Nat)(b:En)(a:Nat):En :=
 if b.1<ws.getD (a+top) 0+(bs.getD (rest - a) (0,[])).1 then(ws.getD (a+top) 0+(bs.getD (rest - a) (0,[])).1,(bs.getD (rest - a) (0,[])).2++[(~~~(a+top))])else b
structure FE(ws:fM)(n j rest:Nat)(seen:fR)(e:En):Prop where
 sum:e.1=wC ws e.2
 mem:∀k∈e.2,0<k/\inB k.toNat (rest+2 ^ j)=true/\k.toNat+1<2 ^ n
 apart:e.2.Pairwise λa b=>a.toNat &&& b.toNat=0
 low:∀s,inB s rest=true->ws.getD s 0<=e.1
 upp:∀s∈seen,ws.getD (s+2 ^ j) 0<=e.1
 len:⇑e.2<=j+1
section
variable{ws:fM}{n j rest:Nat}{bs:List En} (h0:ws.getD 0 0=0) (h1:ws.getD (2 ^ n - 1) 0=0) (hn:n<=8) (hj:j<n) (hr:rest<2 ^ j) (hb:∀m,m<2 ^ j->BE ws n m (bs.getD m (0,[])))
theorem Ig{k r j:Nat}(hj:j<8)(hr:r<2 ^ j)(h:inB k r=true):inB k (r+2 ^ j)=true:=by
 rw[gM]at h ⊢;have:=dG (gM.mpr h);rw[U5 hj () hr];exact h
include hn hj hr hb in
theorem FE.start:FE ws n j rest [] (bs.getD rest (0,[])):=by
 have b:=hb rest hr;exact⟨b.sum,λk hk=>let⟨x,y,z⟩:=b.mem k hk;⟨x,Ig () hr y,z⟩,b.apart,b.top,λs h=>(nomatch h),by have:=b.len j hr;lia⟩
include h0 h1 hn hj hr hb in
theorem FE.step{d:fR}{e:En}(f:FE ws n j rest d e){s:Nat}(hs:inB s rest=true):FE ws n j rest (s::d) (cH ws bs (2 ^ j) rest e s):=by
 have u:=Ju (show j<8 by lia);have A:=dG hs;let⟨p,i⟩:=U4 (show rest<128 by lia) hs;have b:=hb (rest - s) ();have r:=b.nn h0;have t:0<=e.1:=by
  have:=f.low 0 (gM.mpr (Nat.zero_and _))
  rwa [h0]at this
 unfold cH;by_cases c:e.1<ws.getD (s+2 ^ j) 0+(bs.getD (rest - s) (0,[])).1
 ·rw[fo c];have h:∀k,inB k (rest - s)=true->inB k rest=true/\k &&& s=0:=λk hk=>by
   rw[gM]at hk i ⊢;refine⟨?_,?_⟩
   ·rw[←hk,Nat.and_assoc,i]
   ·rw[←hk,Nat.and_assoc,p,Nat.and_zero]
  refine⟨?_,λk hk=>?_,?_,λx a=>?_,λx a=>?_,?_⟩
  ·show _=wC ws (_++[_]);rw[K7,←b.sum,ê];lia
  ·rcases Û.mp hk with z|z
   ·let⟨x,y,w⟩:=b.mem k z;exact⟨x,Ig () hr (h _ y).1,w⟩
   ·rw[Í.mp z,ê];have v:=Nat.two_pow_pos j;refine⟨(),aak () hr hs,?_⟩;have o:2 ^ (j+1)<=2 ^ n:=Ă ∅ ();rw[Ż]at o;rcases Ű (s+2 ^ j+1) (2 ^ n)with z|z
    ·exact z
    ·have l:rest - s=0:=()
     have m:s+2 ^ j=2 ^ n - 1:=()
     rw[l]at b c;rw[m,h1,b.zero]at c;exact ft c (by show ¬e.1<0+0;lia)
  ·refine List.pairwise_append.mpr ⟨b.apart,by simp,λx a y hy=>?_⟩;rw[Í.mp hy,ê];let⟨_,q,_⟩:=b.mem x a;have g:=h _ q;have:=dG g.1;rw[U5 () () ()];exact g.2
  ·have:=f.low x a;show _<=_+_;lia
  ·show _<=ws.getD (s+2 ^ j) 0+_;rcases Õ.mp a with rfl|a
   ·lia
   ·have:=f.upp x a;lia
  ·show(_++[_]).length<=_;rw[É,á];have:=b.len j ();lia
 ·rw[fq c];refine⟨f.sum,f.mem,f.apart,f.low,λx a=>?_,f.len⟩;rcases Õ.mp a with rfl|a
  ·lia
  ·exact f.upp x a
include h0 h1 hn hj hr hb in
theorem FE.walk:∀(l:fR) {a:fR}{e:En},FE ws n j rest a e->(∀s∈l,inB s rest=true)->FE ws n j rest (l.reverse++a) (l.foldl (cH ws bs (2 ^ j) rest) e)
 |[],_,_,f,_=>f
 |s::l,a,e,f,h=>by
  have:=FE.walk l (FE.step h0 h1 hn hj hr hb f (h s Æ)) λx hx=>h x (Ç _ hx);rw[List.reverse_cons,ľ];exact this
include hn hj hr in
theorem FE.done{a:fR}{e:En}(f:FE ws n j rest a e)(h:∀s,inB s rest=true->s∈a):BE ws n (rest+2 ^ j) e:=by
 refine⟨f.sum,f.mem,f.apart,λs hs=>?_,λi hi=>?_⟩
 ·have b:=dG hs;rcases aai () hr (by rw[Ż];lia) hs with⟨_,z⟩|⟨c,z⟩
  ·exact f.low s z
  ·have:=f.upp _ (h _ z)
   rwa [show s - 2 ^ j+2 ^ j=s by lia]at this
 ·have:j+1<=i:=by
   rcases Ű j i with z|z
   ·lia
   ·have:=Ă (n:=2) ∅ z;lia
  exact ĉ f.len this
end
def bwF(ws:fM)(bs:List En)(top rest:Nat):En:=(chn 129 rest rest).foldl (cH ws bs top rest) (bs.getD rest (0,[]))
def eX(ws:fM)(bs:List En)(top:Nat):Nat->List En
 |0=>bs
 |i+1=>eX ws bs top i++[bwF ws (eX ws bs top i) top i]
def grow(ws:fM):Nat->List En
 |0=>[(0,[])]
 |j+1=>eX ws (grow ws j) (2 ^ j) (2 ^ j)
def Qx(ws:fM)(n:Nat):En:=(grow ws n).getD (2 ^ n - 1) (0,[])
def setOf(n:Nat)(k:Int):fM:=(subs n).getD k.toNat []
structure HAok(n:Nat)(ws ks:fM):Prop where
 len:⇑ks<=n
 rng:∀k∈ks,0<k/\k<(2 ^ n:Nat) - 1
 apart:ks.Pairwise λa b=>∀x∈setOf n a,x∉setOf n b
 top:∀w∈ws,w<=wC ws ks
 is:ks=(Qx ws n).2
 tot:wC ws ks=(Qx ws n).1
def BE.ha{n:Nat}{ws:fM}{e:En}(hn:n<=8)(hl:⇑ws=2 ^ n)(b:BE ws n (2 ^ n - 1) e)(he:e=Qx ws n):HAok n ws e.2:=by
 have j:=Nat.two_pow_pos n;have f:∀a,a<2 ^ n->(subs n).getD a []=((Ø n).filter (λi=>a.testBit i)).map λi:Nat=>0+~~~i:=λa ha=>beq_iff_eq.mp (allB_iff (allB_iff Uu n ()) a ha);refine⟨b.len n (),λk hk=>?_,?_,λw hw=>?_,by rw[he],by rw[←b.sum,he]⟩
 ·let⟨h1,_,g⟩:=b.mem k hk;lia
 ·have key:∀{l:fM},l.Pairwise (λa b=>a.toNat &&& b.toNat=0)->(∀k∈l,k.toNat<2 ^ n)->l.Pairwise λa b=>∀x∈setOf n a,x∉setOf n b:=λ{l} h m=>by
   induction h with
   |nil=>exact .nil
   |cons h t ih =>
    refine .cons (λy hy x hx hx2=>?_) (ih λk hk=>m k (Ç _ hk));unfold setOf at hx hx2;rw[f _ (m _ Æ)]at hx;rw[f _ (m _ (Ç _ hy))]at hx2;let⟨i,hi,rfl⟩:=è.mp hx;let⟨d,c,e⟩:=è.mp hx2;have e:d=i:=()
    subst e;have z:=fv (λv=>Nat.testBit v d) (h y hy);simp only[Nat.testBit_and,Nat.zero_testBit,(â.mp hi).2,(â.mp c).2]at z;cases z
  exact key b.apart λk hk=>by have:=(b.mem k hk).2.2;lia
 ·let⟨s,hs,rfl⟩:=List.getElem_of_mem hw;have h2:s<2 ^ n:=()
  have:=b.top s (gM.mpr (by rw[Nat.and_two_pow_sub_one_eq_mod,Nat.mod_eq_of_lt h2]));rw[Ò,Å hs]at this;rw[←b.sum];exact this
def fHA:FF:=λds P=>∃(n:Nat)(ws:fM),ds=[iD ws]/\1<=n/\n<=8/\⇑ws=2 ^ n/\(∀x∈ws,0<=x)/\ws.head?=some 0/\ws.getLast?=some 0/\∀ks,HAok n ws ks->P (iD ks)
def enD(e:En):D:=.tuple [.int e.1,iD e.2]
def fBW:FF:=λds P=>∃(n j rest:Nat)(ws:fM)(bs:List En),ds=[iD ws,.list (bs.map enD),.int (~~~(2 ^ j)),.int (~~~rest)]/\n<=8/\j<n/\rest<2 ^ j/\⇑ws=2 ^ n/\⇑bs=2 ^ j+rest/\(∀e∈bs,⇑e.2<=8)/\P (enD (bwF ws bs (2 ^ j) rest))
def Qz(a b:Nat):Builtin.bitAnd (~~~a) (~~~b)=(~~~(a &&& b)):=by
 unfold Builtin.bitAnd;rw[gz (),gz ()];rfl
def aal{ws:fM}{i:Nat}(h:i<⇑ws):atI (ws.map Â) (~~~i)=some (.int (ws.getD i 0)):=by
 refine cU ?_;rw[Þ,Ò,Å h];rfl
def U6{bs:List En}{i:Nat}(h:i<⇑bs):atI (bs.map enD) (~~~i)=some (enD (bs.getD i (0,[]))):=by
 refine cU ?_;rw[Þ,Ò,Å h];rfl
def IvB(ws:fM)(bs:List En)(j rest m:Nat)(ρ:List Sl):Prop:=∃(s:Int)(l:fR)(e:En)(s4:Sl),ρ=[.sh (iD ws),.sh (.list (bs.map enD)),.im (.int (~~~(2 ^ j))),.im (.int (~~~rest)),s4,.im (.int s),.any]/\(s4=.sh (enD e)\/s4=.sn (enD e))/\((s=-1/\l=[])\/∃f sN:Nat,s=(~~~sN)/\sN+1<=f/\l=chn f rest sN)/\l.foldl (cH ws bs (2 ^ j) rest) e=bwF ws bs (2 ^ j) rest/\(∀x∈l,inB x rest=true)/\m=⇑l
def Qt(g r s:Nat):chn (g+1) r s=s::(if s=0 then []else chn g r ((s - 1) &&& r)):=rfl
def Jj{ws:fM}{bs:List En}{j rest a g:Nat}{e d:En}{s4:Sl}{t:Int}{Q:DEnds}(m:a+1<=g+1)(k:s4=.sh (enD d)\/s4=.sn (enD d))(h:(chn (g+1) rest a).foldl (cH ws bs (2 ^ j) rest) e=bwF ws bs (2 ^ j) rest)(he:d=cH ws bs (2 ^ j) rest e a)(b:∀x∈chn (g+1) rest a,inB x rest=true)(f:∀ρ2,(∃m',m'<⇑(chn (g+1) rest a)/\IvB ws bs j rest m' ρ2)->Q.nx ρ2) :
  Bb (GK 5 none (Vl (dZ (t2 (gI0 λi j=>PyData.bool (decide (j<i))) (tV 5) (tK (Â 0)))) (t2 (gI0 λi j=>Â (Builtin.bitAnd i j)) (t2 (gI0 λi j=>Â (i - j)) (tV 5) (tK (Â 1))) (tV 3)) (Vj (tK (Â 1))))) (rE [6] vV) Q
   [.sh (iD ws),.sh (.list (bs.map enD)),.im (.int (~~~(2 ^ j))),.im (.int (~~~rest)),s4,.im (.int (~~~a)),.im (.int t)]:=by
 rw[Qt]at h b f;show if decide ((0:Int)<(~~~a))=true then _ else _
 by_cases c:a=0
 ·subst c;rw[fi ()];refine aJ (A:=True) ?_;rw[fo rfl]at h b f;exact f _ ⟨0,by simp,-1,[],d,s4,rfl,k,.inl ⟨rfl,rfl⟩,by rw[he];exact h,λx hx=>(nomatch hx),rfl⟩
 ·rw[gz ()];refine aF (B:=True) ?_;rw[fq c]at h b f;have l:Builtin.bitAnd ((~~~a) - 1) (~~~rest)=(~~~((a - 1) &&& rest)):=by
   rw[show(~~~a) - 1=(~~~(a - 1)) by lia];exact Qz _ _
  have hl:((a - 1) &&& rest)<=a - 1:=Nat.and_le_left;exact f _ ⟨⇑(chn g rest ((a - 1) &&& rest)),by simp,(~~~((a - 1) &&& rest)),chn g rest ((a - 1) &&& rest),d,s4,by rw[←l];rfl,k,.inr ⟨g,(a - 1) &&& rest,rfl,(),rfl⟩,by rw[he];exact h,λx hx=>b x (Ç _ hx),rfl⟩
section
variable{P:Zg}{w:Zl}{K:Ý}{mg:Str->gf}{gy:Heap}{f:Addr}{fd:WS}{CN:Addr}
def pJ:FnScope [bN,"best","top","rest","found","sub","total"] [bN,"best","top","rest"] (au (top 23)):=zC
def zJ(F:Fun K dV dV (top 23) f fd)(B:į mg):1∩[bN,"best","top","rest"]∩spR fBW:=by
 refine F.ok pJ Ad (λcdv A outer s H vs Q E hr h=>?_);have u:=pJ.nd;refine⟨_,Dl.WR.h (Dl.yI (ñ none (i:=4) u rfl zQ (ã (Ê 1) (Ê 3)))
  (Dl.yI (ñ none (i:=5) u rfl zQ (Ê 3))
  (Dl.yI (Wr.lY ï (Wr.Fz (Ê 5) Ð) (Ï (ñ none (i:=6) u rfl zQ (ĩ (ã (Ê 0) (ĩ (Ê 5) (Ê 2))) (ã (ã (Ê 1) (Wr.cV (Ê 3) (Ê 5))) Ð)))
  (Ï (Ő (Wr.iz (Ê 6) (ã (Ê 4) Ð)) (ð (ñ none (i:=4) u rfl zQ (Ġ (Á (Ê 6) (Á (ĩ (ã (ã (Ê 1) (Wr.cV (Ê 3) (Ê 5))) Ð) (Ī (Á (ĩ (Ê 5) (Ê 2)) Ä))) Ä))))) Ā)
  (Ï (ñ none (i:=5) u rfl zQ (Wr.jw (Wr.iz (Ê 5) Ð) (Wr.Ry (Wr.cV (Ê 5) Ð) (Ê 3)) (Wr.oU Ð))) (ø [6] Ā)))))
  (Dl.Fl (Ê 4))))),Gz h ?_⟩
 rintro ds P ⟨n,j,rest,ws,bs,rfl,T,M,V,S,N,le,q⟩;refine⟨[.sh (iD ws),.sh (.list (bs.map enD)),.im (.int (~~~(2 ^ j))),.im (.int (~~~rest)),.any,.any,.any],rfl,?_⟩;have U:=Ju (show j<8 by lia);have L:2 ^ (j+1)<=2 ^ n:=Ă ∅ ();rw[Ż]at L;refine⟨_,U6 (),?_⟩;refine eY (rg:=none) (i:=4) (k:=norm .shr (enD (bs.getD rest (0,[])))) (d:=enD (bs.getD rest (0,[]))) (s:=.sh (enD (bs.getD rest (0,[])))) (by rfl) ?_;show YB (GJ _ _) (YC (tV 4)) P [.sh (iD ws),.sh (.list (bs.map enD)),.im (.int (~~~(2 ^ j))),.im (.int (~~~rest)),.sh (enD (bs.getD rest (0,[]))),.im (.int (~~~rest)),.any];refine⟨IvB ws bs j rest,
  ⟨_,_,chn 129 rest rest,bs.getD rest (0,[]),_,rfl,.inl rfl,.inr ⟨129,rest,rfl,(),rfl⟩,rfl,λx hx=>(qF () x).mp hx,rfl⟩,?_⟩
 rintro m ρ ⟨s,l,e,s4,rfl,v,hs,r,p,rfl⟩;show if decide ((0:Int)<=s)=true then _ else _
 rcases hs with⟨rfl,rfl⟩|⟨f,o,rfl,t,rfl⟩
 ·rw[fi ()];refine aJ (A:=True) ?_;have r:e=bwF ws bs (2 ^ j) rest:=r;rw[←r]at q;rcases v with rfl|rfl <;> exact q
 ·rw[gz ()];refine aF (B:=True) ?_;obtain⟨g,rfl⟩:∃g,f=g+1:=⟨f - 1,()⟩
  have y:inB o rest=true:=p o Æ;have I:=dG y;have J:atI (ws.map Â) ((~~~o)+(~~~(2 ^ j)))=some (.int (ws.getD (o+2 ^ j) 0)):=by
   rw[show(~~~o)+(~~~(2 ^ j))=(~~~(o+2 ^ j)) by lia];exact aal ()
  have C:atI (bs.map enD) ((~~~rest) - (~~~o))=some (enD (bs.getD (rest - o) (0,[]))):=by
   rw[show(~~~rest) - (~~~o)=(~~~(rest - o)) by lia];exact U6 ()
  refine⟨_,J,_,C,_,rfl,?_⟩;refine eY (rg:=none) (i:=6) (k:=.imm) (d:=.int (ws.getD (o+2 ^ j) 0+(bs.getD (rest - o) (0,[])).1)) (s:=.im (.int (ws.getD (o+2 ^ j) 0+(bs.getD (rest - o) (0,[])).1))) (by rfl) ?_;have O:(bs.getD (rest - o) (0,[])).2.length<=8:=by
   rw[Ò,Å ()];exact le _ (Ĥ _)
  have G:∀{R:Prop},(s4=.sh (enD e)->R)->(s4=.sn (enD e)->R)->R:=λa b=>v.elim a b;by_cases c:e.1<ws.getD (o+2 ^ j) 0+(bs.getD (rest - o) (0,[])).1
  ·have he:(ws.getD (o+2 ^ j) 0+(bs.getD (rest - o) (0,[])).1,(bs.getD (rest - o) (0,[])).2++[(~~~(o+2 ^ j))])=cH ws bs (2 ^ j) rest e o:=by
    unfold cH;rw[fo c]
   have z:(bs.getD (rest - o) (0,[])).2.map Â++Ņ (λx:Kd×D=>x.snd) [(Kd.imm,Â ((~~~o)+(~~~(2 ^ j))))]=((bs.getD (rest - o) (0,[])).2++[(~~~(o+2 ^ j))]).map Â:=by
    rw[Ö,show(~~~(o+2 ^ j))=(~~~o)+(~~~(2 ^ j)) by lia];rfl
   rcases v with rfl|rfl
   all_goals
    refine⟨.int e.1,rfl,?_⟩;show if decide (e.1<_)=true then _ else _
    rw[gz c];refine aF (B:=True) ⟨_,C,_,rfl,zK,?_,.inl ⟨?_,zK,?_⟩⟩
    ·rw[À];show _+1<=1000;lia
    ·rw[z];exact gj _
    ·dsimp only;rw[z];exact Jj (s4:=.sn (enD (ws.getD (o+2 ^ j) 0+(bs.getD (rest - o) (0,[])).1,(bs.getD (rest - o) (0,[])).2++[(~~~(o+2 ^ j))]))) t (.inr rfl) r he p λρ2 h=>h
  ·have he:e=cH ws bs (2 ^ j) rest e o:=by
    unfold cH;rw[fq c]
   rcases v with rfl|rfl
   all_goals
    refine⟨.int e.1,rfl,?_⟩;show if decide (e.1<_)=true then _ else _
    rw[fi c];refine aJ (A:=True) ?_;exact Jj t (by first|exact .inl rfl|exact .inr rfl) r he p λρ2 h=>h
def qb(F:Fun K bP bP (top 24) f fd)(B:į mg)(u:1∪dV∪[bN,"best","top","rest"]∪spR fBW):2∩[bN]∩spD fHA:=by
 refine okT F (N:=[bN,"best","top","rest"]) zC (λhr nd=>Ï (Wr.Ar 0 true (i:=1) nd rfl zQ (Á (Ġ (Á Ð (Á (Ī Ä) Ä))) Ä))
  (Ï (ñ none (i:=2) nd rfl zQ Ð)
  (Ï (Wr.lY ï (Wr.uQ (Ê 2) (İ B.len (Á (Ê 0) Ä))) (Ï (Š ï rfl (ő B.range (Á (Ê 2) Ä)) (ç (i:=3) nd rfl zQ) (Ï (Wr.Ay u hr (ū 1) (ū 0) (ū 1) (ū 2) (ū 3)) (ø [3] Ā)))
  (ø [3] (Ï (ñ none (i:=2) nd rfl zQ (Wr.ju Ð (Ê 2))) (ø [3] Ā)))))
  (ø [2,3] (ð (ÿ (ã (ã (Ê 1) (Wr.oU Ð)) Ð))))))) ?_
 rintro ds P ⟨n,ws,rfl,I,g,k,R,hh,hl,q⟩;refine⟨[.sh (iD ws),.any,.any,.any],rfl,?_⟩;have M:=Nat.two_pow_pos n;have J:2 ^ n<=256:=Ă (n:=2) ∅ g;have o:ws.getD 0 0=0:=by
  cases ws with
  |nil=>rfl
  |cons x l=>cases hh;rfl
 have h1:ws.getD (2 ^ n - 1) 0=0:=by
  rw[List.getLast?_eq_getElem?,k]at hl;rw[Ò,hl];rfl
 have G:((iD ws:D)=.list (ws.map Â)):=rfl;refine⟨zK,zK,zK,rfl,rfl,?_⟩;refine⟨λm ρ=>∃(j:Nat)(bs:List En),ρ=[.sh (iD ws),.sp 0 true (bs.map enD),.im (.int (~~~(2 ^ j))),.any]/\j<=n/\⇑bs=2 ^ j/\bs=grow ws j/\(∀i,i<2 ^ j->BE ws n i (bs.getD i (0,[])))/\m=n - j,⟨_,0,[(0,[])],rfl,(),rfl,rfl,λi hi=>?_,rfl⟩,?_⟩
 ·have:i=0:=()
  subst this;exact .nil o
 rintro m ρ ⟨j,bs,rfl,r,a,b,hb,rfl⟩;show if decide ((~~~(2 ^ j))<(⇑(ws.map Â):Int))=true then _ else _
 rw[À,k];by_cases c:j<n
 ·have L:2 ^ (j+1)<=2 ^ n:=Ă ∅ ();have C:2 ^ (j+1)=2 ^ j * 2:=Ż ..;have O:=Nat.two_pow_pos j;rw[gz ()];refine aF (B:=True) ⟨⟨(),()⟩,rfl,λ(i:Nat) ρ=>∃bs:List En,ρ=[.sh (iD ws),.sp 0 true (bs.map enD),.im (.int (~~~(2 ^ j))),.any]/\⇑bs=2 ^ j+i/\bs=eX ws (grow ws j) (2 ^ j) i/\∀t,t<2 ^ j+i->BE ws n t (bs.getD t (0,[])),⟨bs,rfl,a,b,hb⟩,?_,?_⟩
  ·rintro i d ρ hd ⟨bs,rfl,a,b,hb⟩;let⟨hi,rfl⟩:=ŕ hd;rw[ê]at hi;have h:=(FE.walk o h1 g c hi (λm hm=>hb m ()) (chn 129 i i) (FE.start g c hi λm hm=>hb m ()) λs hs=>(qF (by have:=Ju (show j<8 by lia);lia) s).mp hs).done g c hi λs hs=>by
    rw[í,List.mem_reverse];exact(qF (by have:=Ju (show j<8 by lia);lia) s).mpr hs
   have h:BE ws n (i+2 ^ j) (bwF ws bs (2 ^ j) i):=h;have y:∀e∈bs,⇑e.2<=8:=λe he=>by
    let⟨t,ht,rfl⟩:=List.getElem_of_mem he;have:=(hb t ()).len n ();rw[Ò,Å ht]at this;exact ĉ this g
   have E:i+2 ^ j<2 ^ n:=()
   have H:=h.len n E;have lt:n<2 ^ n:=Nat.lt_two_pow_self;refine⟨0,bs.map enD,ws,(~~~(2 ^ j)),0+~~~i,rfl,rfl,rfl,rfl,?_,by rw[À];lia,n,j,i,ws,bs,by rw[Ŏ],g,c,hi,k,a,y,(bwF ws bs (2 ^ j) i).1,(bwF ws bs (2 ^ j) i).2,rfl,(),bs++[bwF ws bs (2 ^ j) i],?_,by rw[É,á];lia,by rw[b];rfl,λt ht=>?_⟩
   ·cases bs with
    |nil=>simp at a;lia
    |cons e Q=>exact⟨_,_,_,rfl⟩
   ·show [_,Sl.sp 0 true (bs.map enD++[enD (bwF ws bs (2 ^ j) i)]),_,_]=[_,Sl.sp 0 true ((bs++[bwF ws bs (2 ^ j) i]).map enD),_,_]
    rw[Ö];rfl
   ·rcases Ű t (2 ^ j+i)with z|z
    ·have:=hb t z;rw[Ò]at this ⊢;rw[Ą ()];exact this
    ·have e:t=i+2 ^ j:=()
     subst e;rw[Ò,ó (),show i+2 ^ j - ⇑bs=0 by lia];exact h
  ·rintro ρ ⟨bs,rfl,a,b,hb⟩;rw[Ĭ,ê]at a b hb;refine⟨?_,n - (j+1),(),j+1,bs,?_,(),(),b,λt ht=>hb t (),rfl⟩
   ·exact .inl ⟨∅,∅⟩
   ·rw[show(~~~(2 ^ (j+1)))=2 * (~~~(2 ^ j)) by lia];rfl
 ·have r:j=n:=()
  subst r;rw[fi ()];refine aJ (A:=True) ?_;have h:=hb (2 ^ j - 1) ();have v:atI (bs.map enD) (-1)=some (enD (bs.getD (2 ^ j - 1) (0,[]))):=by
   rcases List.eq_nil_or_concat bs with rfl|⟨B,e,p⟩
   ·simp at a;lia
   ·rw[List.concat_eq_append]at p;subst p;rw[É,á]at a;rw[Ö,Ò,ó (),show 2 ^ j - 1 - ⇑B=0 by lia];exact qG _ _
  exact⟨_,v,_,rfl,rfl,q _ (h.ha g k (by rw[b];rfl))⟩
def jl(n:Nat)(W:fM->Int):fM:=0::(((subs n).drop 1).dropLast.map W++[0])
def oN(n:Nat)(W:fM->Int)(c:fI):Prop:=∃ks,HAok n (jl n W) ks/\c.Perm (ks.map (setOf n))/\c.Pairwise (λa b=>bC 40 a<=bC 40 b)/\∀l∈c,qI l
def fWt(n:Nat)(W:fM->Int)(ds:gg)(P:D->Prop):Prop:=∃l:fM,ds=[.list (l.map Â)]/\Proper (~~~n) l/\P (.int (W l))
def tHF(g:fE)(m:Int)(a:D->Prop):Prop:=∃(n:Nat)(W:fM->Int),m=(~~~n)/\1<=n/\n<=8/\g=fWt n W/\(∀l,0<=W l)/\∀out,oN n W out->a (.list (out.map iD))
def Jc{α:Type}(l:List α)(h:2<=⇑l):gC l (some 1) (some (-1))=(l.drop 1).dropLast:=by
 unfold gC;have a:HT.sIx ⇑l ⇑l (some (-1))=⇑l - 1:=by
  have e:HT.sIx ⇑l ⇑l (some (-1))=((-1:Int)+(⇑l:Int)).toNat:=rfl;rw[e];lia
 have b:HT.sIx ⇑l 0 (some 1)=min 1 ⇑l:=HT.sX ⇑l 0 1;rw[a,b,Nat.min_eq_left (),List.dropLast_eq_take,Ď]
theorem wW:∀k,∃M f,subs k=M++[f]/\∀l∈M,⇑l<k
 |0=>⟨[],[],rfl,λl h=>nomatch h⟩
 |k+1=>by
  let⟨M,f,e,h⟩:=wW k;refine⟨subs k++M.map λl=>l++[0+~~~k],f++[0+~~~k],?_,λl hl=>?_⟩
  ·show subs k++(subs k).map _=_;rw[show(subs k).map (λl=>l++[0+~~~k])=(M++[f]).map (λl=>l++[0+~~~k]) by rw[←e],Ö,ľ];rfl
  ·rcases Û.mp hl with z|z
   ·have:=(iQ k l z).2.2;lia
   ·let⟨a,ha,rfl⟩:=è.mp z;have:=h a ha;rw[É,á];lia
def jH{n:Nat}(a:1<=n)(b:n<=8):2<=2 ^ n/\2 ^ n<=256:=⟨Ă (n:=2) ∅ a,Ă (n:=2) ∅ b⟩
def fK{n:Nat}(i:1<=n)(j:n<=8){l:fM}(h:l∈((subs n).drop 1).dropLast):Proper (~~~n) l:=by
 let⟨M,f,e,d⟩:=wW n;let⟨r,c,hr⟩:=qL n;have h1:=(List.dropLast_sublist _).mem h;let⟨k,m,o⟩:=iQ n l (List.mem_of_mem_drop h1);have b:l≠[]:=by
  rw[c]at h1;exact hr l h1
 have p:=jH i j;have a:l∈M:=by
  have g:⇑(subs n)=⇑M+1:=by rw[e];simp
  have:((subs n).drop 1).dropLast=M.drop 1:=by
   rw[e,List.drop_append_of_le_length (by rw[bB]at g;lia),List.dropLast_concat]
  rw[this]at h;exact List.mem_of_mem_drop h
 have:=d l a;exact⟨Ŵ.mpr b,(),m,k,()⟩
def KR{n:Nat}{W:fM->Int}(b:1<=n)(c:n<=8)(d:∀l,0<=W l):⇑(jl n W)=2 ^ n/\(∀x∈jl n W,0<=x)/\(jl n W).head?=some 0/\(jl n W).getLast?=some 0:=by
 have e:=jH b c;unfold jl;refine⟨?_,λx a=>?_,rfl,?_⟩
 ·rw[à,É,À,ņ,Ď,bB,á];lia
 ·rcases Õ.mp a with rfl|a
  ·exact Ě _
  ·rcases Û.mp a with z|z
   ·let⟨l,_,rfl⟩:=è.mp z;exact d l
   ·rw[Í.mp z];exact Ě _
 ·rw[←List.cons_append,List.getLast?_concat]
def yH{n:Nat}{k:Int}(h:k.toNat<2 ^ n):(subs n)[k.toNat]?=some (setOf n k)/\setOf n k∈subs n:=by
 have hl:k.toNat<⇑(subs n):=by rw[bB];exact h
 have e:(subs n)[k.toNat]?=some (setOf n k):=by
  unfold setOf;rw[Ò,Å hl];rfl
 exact⟨e,Î e⟩
def iw:FnScope [e7,ff,fb,bN] [e7,ff] (au (top 25)):=zC
def lE:([am,e7,ff,fb,bN]:List Str).Nodup:=⋯
def lC:([ck,e7,ff,fb,bN]:List Str).Nodup:=⋯
abbrev kA0(P w K mg gy):=1∪dm∪[bu]∪spD fSB
def oY(F:Fun K bc bc (top 25) f fd)(B:į mg)(y:kA0 P w K mg gy)(C:2∪bP∪[bN]∪spD fHA):11∩[e7,ff]∩spF P w K mg gy 10 [am] tHF:=by
 refine F.ok iw (λvs H Q E h=>by let⟨_,_,_,_,_,rfl,_⟩:=h;rfl) (λcdv A outer s H vs Q E hr h=>?_);let⟨n,S,Z,g,o,rfl,⟨R,u,t,BW,T⟩,z,ht,k⟩:=h;have r:=iw.nd;letI:=grZ Z;refine⟨_,Wr.WDSs.h (Ï (ñ none (i:=2) r rfl zQ (ł y hr (Á (Ê 0) Ä)))
  (Ï (ñ none (i:=3) r rfl zQ (ĩ (ĩ (Ī (Á Ð Ä)) (Ũ [am] rfl (Ğ (Wr.Cr (Ê 2) (Wr.fX Ð) (Wr.fX (Wr.oU Ð)))) (λc=>(ç (i:=0) lE rfl zQ)) (λc=>ŏ) (λc=>(Wr.dcV T u t hr BW (ū 2) (Á (Ê 0) Ä))))) (Ī (Á Ð Ä))))
  (ð (ÿ (Wr.uR hr.units B.sorted (Á (Ũ [ck] rfl (Ğ (ł C hr (Á (Ê 3) Ä))) (λc=>(ç (i:=0) lC rfl zQ)) (λc=>ŏ) (λc=>(ã (Ê 3) (Ê 0)))) Ä)))))),Xg z k rfl ?_⟩
 let⟨n,W,rfl,b,e,rfl,V,q⟩:=ht;refine⟨~~~n,rfl,(),(),?_⟩;rw[ê];refine eY (rg:=none) (i:=2) (k:=norm .new (.list ((subs n).map lD))) (d:=.list ((subs n).map lD)) (s:=.sn (.list ((subs n).map lD))) (by rfl) ?_;have p2:=jH b e;have Y:=bB n;let⟨L,M,N,O⟩:=KR (W:=W) b e V;refine⟨zK,.inr ?_⟩;have G:gC ((subs n).map lD) (some 1) (some (-1))=(((subs n).drop 1).dropLast).map lD:=by
  rw[Jc _ (by rw[À];lia),←List.map_drop,←List.map_dropLast]
 have ml:⇑(((subs n).drop 1).dropLast)<=256:=by rw[ņ,Ď];lia
 dsimp only;rw[G];refine qX (((subs n).drop 1).dropLast) lD (λl=>.int (W l)) .imm rfl () (λl hl A B h=>aF (B:=True) ⟨⟨false,rfl⟩,l,rfl,fK b e hl,rfl,h⟩) ?_;refine⟨?_,.inr ⟨zK,?_,.inr ?_⟩⟩
 ·show 1+⇑(Ņ _ _)<=1000;rw[À];lia
 ·show(Ņ _ _++Ņ _ _).length+1<=1000;rw[É,À,À];show 1+_+1<=1000;lia
 have J:(Ņ (λx:Kd×D=>x.snd) [(Kd.imm,Â 0)]++(((subs n).drop 1).dropLast).map λl=>Â (W l))++Ņ (λx:Kd×D=>x.snd) [(Kd.imm,Â 0)]=(jl n W).map Â:=by
  show Â 0::((((subs n).drop 1).dropLast).map (λl=>Â (W l))++[Â 0])=Â 0::((((subs n).drop 1).dropLast).map W++[0]).map Â;rw[Ö,ô];rfl
 dsimp only;rw[J];show Bd (tCl Aj (aX (dLC 1 (iSq (tFn fHA (aX (tV 3) eF))) (gNm 0) (λx P=>P true) (t2 gIx (tV 3) (tV 0))) eF)) { nx:=λx=>o PyData.none,rt:=o } [.im (.int n),.scr (.ref S) false,.sn (.list ((subs n).map lD)),.sn (iD (jl n W))];refine⟨n,jl n W,rfl,b,e,L,M,N,O,λks hk=>?_⟩;have X:=hk.len;have p:∀k∈ks,k.toNat<2 ^ n/\0<=k:=λk h=>by have:=hk.rng k h;lia
 refine qX ks Â (λk=>lD (setOf n k)) .snw rfl () (λk h A B z=>aF (B:=True) ⟨lD (setOf n k),?_,rfl,z⟩) ?_
 ·let⟨h1,h2⟩:=p k h;have:=(yH h1).1;have I:(~~~k.toNat)=k:=()
  have:=cU (xs:=(subs n).map lD) (j:=k.toNat) (v:=lD (setOf n k)) (by rw[Þ,this];rfl);rw[I]at this;exact this
 ·have a:∀l∈ks.map (setOf n),qI l:=λl hl=>by
   let⟨k,m,rfl⟩:=è.mp hl;let⟨o1,U,o3⟩:=iQ n _ (yH (p k m).1).2;exact⟨(),λx hx=>by have:=U x hx;lia⟩
  refine⟨ks.map (setOf n),by rw[ô];rfl,by rw[À];lia,a,λout hp hs=>⟨rfl,q out ⟨ks,hk,hp,hs,λl hl=>a l (hp.mem_iff.mp hl)⟩⟩⟩
abbrev e0:En:=(0,[])
def Eo{ws:fM}{bs bs':List En}{top rest:Nat}(h:∀m,m<=rest->bs.getD m e0=bs'.getD m e0):bwF ws bs top rest=bwF ws bs' top rest:=by
 have hs:cH ws bs top rest=cH ws bs' top rest:=by
  funext f s;unfold cH;rw[h (rest - s) ()]
 unfold bwF;rw[hs,h rest (Ì _)]
def qZ{α:Type}{l m:List α}{i:Nat}{d:α}(h:i<⇑l):(l++m).getD i d=l.getD i d:=by
 rw[Ò,Ò,Ą h]
def getD_last{α:Type}{l:List α}{x d:α}{i:Nat}(h:i=⇑l):(l++[x]).getD i d=x:=by
 subst h;rw[Ò,ó (Ì _),Nat.sub_self];rfl
theorem nu(ws:fM)(bs:List En)(top:Nat):∀i,⇑(eX ws bs top i)=⇑bs+i
 |0=>rfl
 |i+1=>by
  show(eX ws bs top i++[_]).length=_;rw[É,nu,á];lia
theorem qu(ws:fM):∀j,⇑(grow ws j)=2 ^ j
 |0=>rfl
 |j+1=>by
  show(eX ws (grow ws j) (2 ^ j) (2 ^ j)).length=_;rw[nu,qu,Ż];lia
theorem qY{ws:fM}{bs:List En}{top m:Nat}(h:m<⇑bs):∀i,(eX ws bs top i).getD m e0=bs.getD m e0
 |0=>rfl
 |i+1=>by
  show(eX ws bs top i++[_]).getD m e0=_;rw[qZ (by rw[nu];lia),qY h i]
theorem Dz{ws:fM}{bs:List En}{top:Nat}(hb:⇑bs=top)(h1:1<=top):∀i r,r<i->i<=top->(eX ws bs top i).getD (r+top) e0=bwF ws (eX ws bs top i) top r
 |0,r,h,_=>()
 |i+1,r,h,hi=>by
  have b:=nu ws bs top i;show(eX ws bs top i++[bwF ws (eX ws bs top i) top i]).getD (r+top) e0=bwF ws (eX ws bs top i++[bwF ws (eX ws bs top i) top i]) top r;have a:bwF ws (eX ws bs top i++[bwF ws (eX ws bs top i) top i]) top r=bwF ws (eX ws bs top i) top r:=Eo λm hm=>qZ ();rw[a];rcases Ű r i with z|z
  ·rw[qZ ()];exact Dz hb h1 i r z ()
  ·have:r=i:=()
   subst this;exact getD_last ()
theorem xR(ws:fM):∀n,(grow ws n).getD 0 e0=e0
 |0=>rfl
 |n+1=>by
  have:=Nat.two_pow_pos n;show(eX ws (grow ws n) (2 ^ n) (2 ^ n)).getD 0 e0=e0;rw[qY (by rw[qu];exact this)];exact xR ws n
theorem xT(ws:fM):∀n j r,j<n->r<2 ^ j->(grow ws n).getD (r+2 ^ j) e0=bwF ws (grow ws n) (2 ^ j) r
 |0,j,r,h,_=>()
 |n+1,j,r,h,hr=>by
  have b:=Nat.two_pow_pos n;have d:=Nat.two_pow_pos j;rcases Ű j n with z|z
  ·have c:2 ^ (j+1)<=2 ^ n:=Ă ∅ ();rw[Ż]at c;have a:∀m,m<2 ^ n->(grow ws (n+1)).getD m e0=(grow ws n).getD m e0:=λm hm=>qY (by rw[qu];exact hm) _;rw[a _ (),Eo (bs:=grow ws (n+1)) (bs':=grow ws n) λm hm=>a m ()];exact xT ws n j r z hr
  ·have:j=n:=()
   subst this;exact Dz (qu ws j) b (2 ^ j) r hr (Ì _)
def eV(ws:fM)(n m:Nat):Int:=((grow ws n).getD m e0).1
theorem vO{ws:fM}{bs:List En}{top rest:Nat}:∀(l:fR)(e:En),e.1<=(l.foldl (cH ws bs top rest) e).1/\(∀s∈l,ws.getD (s+top) 0+(bs.getD (rest - s) e0).1<=(l.foldl (cH ws bs top rest) e).1)/\((l.foldl (cH ws bs top rest) e).1=e.1\/∃s∈l,(l.foldl (cH ws bs top rest) e).1=ws.getD (s+top) 0+(bs.getD (rest - s) e0).1)
 |[],e=>⟨Ě _,λs h=>(nomatch h),.inl rfl⟩
 |s::l,e=>by
  let⟨h1,h2,b⟩:=vO l (cH ws bs top rest e s);have k:e.1<=(cH ws bs top rest e s).1/\ws.getD (s+top) 0+(bs.getD (rest - s) e0).1<=(cH ws bs top rest e s).1/\((cH ws bs top rest e s).1=e.1\/(cH ws bs top rest e s).1=ws.getD (s+top) 0+(bs.getD (rest - s) e0).1):=by
   unfold cH;by_cases c:e.1<ws.getD (s+top) 0+(bs.getD (rest - s) (0,[])).1
   ·rw[fo c];exact⟨Int.le_of_lt c,Ě _,.inr rfl⟩
   ·rw[fq c];exact⟨Ě _,by show _+(bs.getD (rest - s) (0,[])).1<=_;lia,.inl rfl⟩
  rw[List.foldl_cons];refine⟨Int.le_trans k.1 h1,λx a=>?_,?_⟩
  ·rcases Õ.mp a with rfl|a
   ·exact Int.le_trans k.2.1 h1
   ·exact h2 x a
  ·rcases b with z|⟨x,a,z⟩
   ·rcases k.2.2 with y|y
    ·exact .inl (z.trans y)
    ·exact .inr ⟨s,Æ,z.trans y⟩
   ·exact .inr ⟨x,Ç _ a,z⟩
section
variable{ws:fM}{n:Nat}
def wY{m n:Nat}(c:0<m)(h:m<2 ^ n):∃j r,m=r+2 ^ j/\r<2 ^ j/\j<n:=by
 have a:=Nat.log2_self_le (n:=m) ();have b:=Nat.lt_log2_self (n:=m);refine⟨m.log2,m - 2 ^ m.log2,(),by rw[Ż]at b;lia,?_⟩;rcases Ű m.log2 n with z|z
 ·exact z
 ·have:=Ă (n:=2) ∅ z;lia
def Am(hn:n<=8){j r:Nat}(b:j<n)(hr:r<2 ^ j):eV ws n r<=eV ws n (r+2 ^ j)/\(∀s,inB s r=true->ws.getD (s+2 ^ j) 0+eV ws n (r - s)<=eV ws n (r+2 ^ j))/\(eV ws n (r+2 ^ j)=eV ws n r\/∃s,inB s r=true/\eV ws n (r+2 ^ j)=ws.getD (s+2 ^ j) 0+eV ws n (r - s)):=by
 have c:=Ju (show j<8 by lia);let⟨h1,h2,a⟩:=vO (ws:=ws) (bs:=grow ws n) (top:=2 ^ j) (rest:=r) (chn 129 r r) ((grow ws n).getD r e0);have e:eV ws n (r+2 ^ j)=((chn 129 r r).foldl (cH ws (grow ws n) (2 ^ j) r) ((grow ws n).getD r e0)).1:=by
  unfold eV;rw[xT ws n j r b hr];rfl
 rw[e];refine⟨h1,λs hs=>h2 s ((qF () s).mpr hs),?_⟩;rcases a with z|⟨s,hs,z⟩
 ·exact .inl z
 ·exact .inr ⟨s,(qF () s).mp hs,z⟩
def Tc:eV ws n 0=0:=by
 unfold eV;rw[xR]
def Zy:allB 128 (λr=>allB (r+1) λs=>!inB s r || (r - s==r ^^^ s))=true:=⋯
def U3{r s:Nat}(hr:r<128)(h:inB s r=true):r - s=r ^^^ s:=by
 have a:=allB_iff (allB_iff Zy r hr) s (by have:=dG h;lia);rw[h]at a;simpa using a
def rQ{s r:Nat}:inB s r=true↔∀i,s.testBit i=true->r.testBit i=true:=by
 rw[gM];constructor
 ·intro h i hi;rw[←h,Nat.testBit_and,Ü]at hi;exact hi.2
 ·intro h;refine Nat.eq_of_testBit_eq λi=>?_;rw[Nat.testBit_and];cases c:s.testBit i with
  |false=>rfl
  |true=>rw[h i c];rfl
def aaj{r s t:Nat}(hr:r<128)(hs:inB s r=true)(ht:inB t (r - s)=true):inB t r=true/\inB s (r - t)=true:=by
 have h1:inB t r=true:=rQ.mpr λi hi=>rQ.mp (U4 hr hs).2 i (rQ.mp ht i hi);refine⟨h1,?_⟩;rw[U3 hr h1];rw[U3 hr hs]at ht;refine rQ.mpr λi hi=>?_;have a:=rQ.mp hs i hi;rw[Nat.testBit_xor,a];cases c:t.testBit i with
 |false=>rfl
 |true =>
  have b:=rQ.mp ht i c;rw[Nat.testBit_xor,a,hi]at b;cases b
def Xc(hn:n<=8)(g:ws.getD 0 0=0):∀m,m<2 ^ n->∀s,inB s m=true->ws.getD s 0+eV ws n (m - s)<=eV ws n m:=by
 intro m;induction m using Nat.strongRecOn with
 |_ m ih =>
  intro hm s hs;by_cases z:m=0
  ·subst z;have:s=0:=by have:=dG hs;lia
   subst this;rw[g];show 0+eV ws n 0<=_;lia
  ·let⟨j,r,rfl,hr,a⟩:=wY () hm;have i:=Ju (show j<8 by lia);have q:=dG hs;let⟨o,b,p⟩:=Am (ws:=ws) hn a hr;rcases aai () hr (by rw[Ż];lia) hs with⟨c,z⟩|⟨c,z⟩
   ·have zl:=dG z;let⟨k,l,h⟩:=Am (ws:=ws) hn a (show r - s<2 ^ j by lia);have f:r+2 ^ j - s=(r - s)+2 ^ j:=()
    rw[f];rcases h with y|⟨t,ht,y⟩
    ·rw[y];have:=ih r () () s z;lia
    ·rw[y];let⟨d,t2⟩:=aaj () z ht;have:=ih (r - t) (by have:=dG d;lia) () s t2;have:=b t d;have e:r - s - t=r - t - s:=()
     rw[e];lia
   ·have:=b _ z;rw[show s - 2 ^ j+2 ^ j=s by lia,show r - (s - 2 ^ j)=r+2 ^ j - s by lia]at this;exact this
def Z5(hn:n<=8):∀m,m<2 ^ n->0<=eV ws n m:=by
 intro m;induction m using Nat.strongRecOn with
 |_ m ih =>
  intro hm;by_cases z:m=0
  ·subst z;rw[Tc];exact Ě _
  ·let⟨j,r,rfl,hr,a⟩:=wY () hm;have:=(Am (ws:=ws) hn a hr).1;have:=ih r () ();lia
end
def QK(l:fM):jJ (iD l)=l:=yq l
def Ip{n:Int}{L:fI}(h:∀l∈L,Proper n l)(c:L.flatten.Nodup):Zx n (.list (L.map iD))=true:=by
 show((L.map iD).all (cX n)&&Gd ((L.map iD).flatMap jJ))=true;have a:(L.map iD).all (cX n)=true:=Ċ.mpr λd hd=>by
  let⟨l,hl,rfl⟩:=è.mp hd;exact uN (h l hl)
 have b:(L.map iD).flatMap jJ=L.flatten:=by
  rw[List.flatMap_map];have:(λl=>jJ (iD l))=id:=funext QK;rw[this,List.flatMap_id]
 rw[a,b];show Gd L.flatten=true;exact gz ((FZ _).mpr c)
def UG:FF:=λds P=>∃(n:Int)(us:fN)(L:fI),ds=[aC n us,.list (L.map iD)]/\n<=16/\⇑L<=60/\(∀l∈L,Proper n l)/\L.flatten.Nodup/\P .none
def G7{N k:Nat}{W:fM->Int}(b:0<k)(c:k+1<2 ^ N):(jl N W).getD k 0=W (setOf N (~~~k))/\setOf N (~~~k)∈((subs N).drop 1).dropLast:=by
 have e:=(yH (n:=N) (k:=(~~~k)) (by rw[ê];lia)).1;rw[ê]at e;have a:(((subs N).drop 1).dropLast)[k - 1]?=some (setOf N (~~~k)):=by
  rw[List.dropLast_eq_take,List.getElem?_take_of_lt (by rw[Ď,bB];lia),List.getElem?_drop,show 1+(k - 1)=k by lia];exact e
 refine⟨?_,Î a⟩;unfold jl;rw[Ò,show k=(k - 1)+1 by lia,List.getElem?_cons_succ,Ą (by rw[À,ņ,Ď,bB];lia),Þ,a];rw[show k - 1+1=k by lia];rfl
def Mq{a b:fM}(h:a.Perm b):a.sum=b.sum:=by
 induction h with
 |nil=>rfl
 |cons x _ c=>rw[Ė,Ė,c]
 |swap x y l=>rw[Ė,Ė,Ė,Ė];lia
 |trans _ _ h1 h2=>exact h1.trans h2
def jD{N:Nat}{W:fM->Int}{c:fI}(j:1<=N)(m:N<=8)(h:oN N W c):(∀l∈c,Proper (~~~N) l)/\c.flatten.Nodup/\⇑c<=60:=by
 let⟨ks,ha,hp,_⟩:=h;have g:∀k∈ks,∃q:Nat,k=(~~~q)/\0<q/\q+1<2 ^ N:=λk hk=>by
  have:=ha.rng k hk;exact⟨k.toNat,(),(),()⟩
 have d:∀l∈c,∃q:Nat,l=setOf N (~~~q)/\0<q/\q+1<2 ^ N:=λl hl=>by
  let⟨k,hk,rfl⟩:=è.mp (hp.mem_iff.mp hl);let⟨q,rfl,a,b⟩:=g k hk;exact⟨q,rfl,a,b⟩
 have f:∀l∈c,Proper (~~~N) l:=λl hl=>by
  let⟨q,rfl,a,b⟩:=d l hl;exact fK j m (G7 (W:=W) a b).2
 have i:⇑c<=60:=by rw[hp.length_eq,À];have:=ha.len;lia
 refine⟨f,?_,i⟩;refine(hp.flatten).nodup_iff.mpr (List.pairwise_flatten.mpr ⟨λl hl=>?_,?_⟩)
 ·have:=(f l (hp.mem_iff.mpr hl)).rise;exact this.imp λz=>()
 ·exact List.pairwise_map.mpr (ha.apart.imp λz x hx y hy (e:x=y)=>z x hx (by rw[e];exact hy))
def tR{N:Nat}{W:fM->Int}{a:fI}(h:oN N W a):(a.map W).sum=eV (jl N W) N (2 ^ N - 1):=by
 let⟨ks,ha,hp,_⟩:=h;have e:(a.map W).sum=wC (jl N W) ks:=by
  rw[Mq (hp.map W)];unfold wC;rw[ô];congr 1;refine Ĝ λk hk=>?_;have:=ha.rng k hk;obtain⟨q,rfl⟩:∃q:Nat,k=(~~~q):=⟨k.toNat,()⟩
  rw[ê,(G7 () ()).1];rfl
 rw[e,ha.tot];rfl
def WO(b:fN)(a:Int)(s:Str)(l:fM):Int:=nd1 a (byS b s l)
def TF(b:fN)(a:Int)(s:Str)(l:fM):0<=WO b a s l:=by
 unfold WO nd1;split <;> lia
def U9{b:fN}{a:Int}(c:0<=a)(h1:a<=10)(s:Str)(l:fM):-1000000<=WO b a s l/\WO b a s l<=1000000:=by
 unfold WO nd1;split <;> lia
def fOB:FF:=λds P=>∃(n:Int)(us:fN)(fa:Int)(s:Str)(L:fI),ds=[aC n us,.int fa,.str s,.list (L.map iD)]/\n<=16/\⇑us<=100/\0<=fa/\fa<=10/\⇑L<=60/\(∀l∈L,Proper n l)/\L.flatten.Nodup/\P (.int (L.map (WO us fa s)).sum)
abbrev kA1(P w K mg gy):=5∪dP∪[e7,ap]∪spD ZX
def sG(F:Fun K cf cf (top 22) f fd)(B:į mg)(d:kA1 P w K mg gy):6∩[cc,ap]∩spD UG:=by
 refine okT F (N:=[cc,ap]) zC (λhr c=>ð (Ő (Wr.cF (Wr.bG (ł d hr (Á (ã (Ê 0) Ð) (Á (Ê 1) Ä))))) (ð Wr.qy) Ā)) ?_;rintro ds P ⟨n,i,L,rfl,a,h,b,c,q⟩;refine⟨[.im (aC n i),.sh (.list (L.map iD))],sU rfl,?_⟩;refine⟨.int n,rfl,n,.list (L.map iD),rfl,λes e=>?_,a,?_⟩
 ·cases e;refine⟨by rw[À];exact h,λe he=>?_⟩;let⟨l,hl,rfl⟩:=è.mp he;intro es g;cases g;rw[À];have:=(b l hl).few;lia
 ·rw[Ip b c];exact aJ (A:=True) q
def vg:([am,al,ag,az,cm]:List Str).Nodup:=⋯
abbrev kA2(P w K mg gy):=9∪dy∪[al,ag,az,am]∪spD fON
def zE(F:Fun K cg cg (top 31) f fd)(B:į mg)(k:mg "sum"=none)(m:6∪cf∪[cc,ap]∪spD UG)(j:kA2 P w K mg gy):10∩[al,ag,az,cm]∩spD fOB:=by
 refine okT F (N:=[al,ag,az,cm]) zC (λhr g=>Ï (Wr.tW (ł m hr (Á (Ê 0) (Á (Ê 3) Ä))))
  (ð (ÿ (Wr.yU rfl k (Á (Ũ [am] rfl (Ğ (Ê 3)) (λc=>(ç (i:=0) vg rfl zQ)) (λc=>ŏ) (λc=>(ł j hr (Á (Ê 1) (Á (Ê 2) (Á (Ê 3) (Á (Ê 0) Ä))))))) Ä))))) ?_
 rintro ds P ⟨n,a,b,s,L,rfl,d,r,o,h1,p,e,g,q⟩;refine⟨[.im (aC n a),.im (.int b),.im (.str s),.sh (.list (L.map iD))],sU rfl,?_⟩;refine⟨n,a,L,rfl,d,p,e,g,?_⟩;refine qX L iD (λl=>.int (WO a b s l)) .imm rfl () (λl hl A B h=>aF (B:=True) ⟨n,a,b,s,l,rfl,e l hl,r,rfl,h⟩) ?_;refine⟨L.map (WO a b s),by rw[ô];rfl,by rw[À];lia,λx hx=>?_,rfl,q⟩;let⟨l,_,rfl⟩:=è.mp hx;exact U9 o h1 s l
abbrev Spr:=List (List Int×Int)
def mb(l:fM)(v:Int):Bool:=decide (v∈l)
def psN(n:Nat):fI:=((subs n).drop 1).dropLast
def qj(n:Nat)(X:Int->Bool):fM:=(uI n).filter X
abbrev RgT(n:Nat)(us:fN):Prop:=∀t∈us,(0<=t.1/\t.1<(n:Int))/\(0<=t.2/\t.2<(n:Int))
abbrev RgE(n:Nat)(es:fM):Prop:=∀e∈es,0<=e/\e<(n:Int)
def fL{n:Nat}{X:Int->Bool}{v:Int}(h:0<=v/\v<(n:Int)):mb (qj n X) v=X v:=by
 unfold mb qj;rw[ă,decide_eq_true_iff,â,Dh];exact⟨λh=>h.2,λq=>⟨h,q⟩⟩
def Oe{n:Nat}{es:fM}(he:RgE n es){X Y:Int->Bool}(h:∀v,0<=v/\v<(n:Int)->X v=Y v):Cut.mg es X=Cut.mg es Y:=by
 unfold Cut.mg;refine List.countP_congr λt ht=>?_;rw[h _ (he t ht)]
def yR{n:Nat}{l:fM}(h:Proper (~~~n) l):Cut.Prp n (mb l):=by
 refine⟨?_,?_⟩
 ·cases l with
  |nil=>have:=h.one;simp at this
  |cons v r=>exact⟨v,h.rng v Æ,gz Æ⟩
 ·apply ù;intro hn;have c:∀x∈uI n,x∈l:=λx hx=>by
   apply ù;intro d;exact hn ⟨x,Dh.mp hx,fi d⟩
  have e:(uI n).Nodup:=by
   unfold uI;exact List.Pairwise.map _ (λa b hab h=>hab ()) List.nodup_range
  have:=e.length_le_of_subset c;have f:=h.few;unfold uI at this;rw[À,ā]at this;lia
def oR{n:Nat}(a:1<=n)(b:n<=8){l:fM}(h:l∈psN n):Cut.Prp n (mb l):=yR (fK a b h)
def Iz{n:Nat}(k:n<=8){X:Int->Bool}(h:Cut.Prp n X):∃q:Nat,0<q/\q+1<2 ^ n/\setOf n (~~~q)=qj n X/\∀i,i<n->q.testBit i=X (~~~i):=by
 let⟨q,b⟩:=Ķ (Ak X n);have hl:=(È.mp b).1;rw[bB]at hl;have es:setOf n (~~~q)=qj n X:=by
  unfold setOf;rw[ê,Ò,b];rfl
 have d:(subs n).getD q []=((Ø n).filter (λi=>q.testBit i)).map λi:Nat=>0+~~~i:=beq_iff_eq.mp (allB_iff (allB_iff Uu n ()) q hl);have a:∀i,i<n->q.testBit i=X (~~~i):=λi hi=>by
  have e:(((Ø n).filter (λi=>q.testBit i)).map λi:Nat=>0+~~~i)=qj n X:=by
   rw[←d,←es];unfold setOf;rw[ê]
  have m:=fv (λl=>mb l (~~~i)) e;have m:mb (((Ø n).filter (λi=>q.testBit i)).map λi:Nat=>0+~~~i) (~~~i)=mb (qj n X) (~~~i):=m;rw[fL ()]at m;rw[←m];unfold mb;rw[ă,decide_eq_true_iff,è];constructor
  ·exact λh=>⟨i,â.mpr ⟨ò.mpr hi,h⟩,()⟩
  ·rintro⟨j,c,e⟩;have:j=i:=()
   subst this;exact(â.mp c).2
 refine⟨q,?_,?_,es,a⟩
 ·let⟨v,⟨f,g⟩,hv⟩:=h.ins;rcases Nat.eq_zero_or_pos q with z|z
  ·subst z;have:=a v.toNat ();rw[Nat.zero_testBit,show(~~~v.toNat)=v by lia,hv]at this;cases this
  ·exact z
 ·let⟨v,⟨f,g⟩,hv⟩:=h.out;rcases Ű (q+1) (2 ^ n)with z|z
  ·exact z
  ·have e:q=2 ^ n - 1:=()
   have:=a v.toNat ();rw[e,Nat.testBit_two_pow_sub_one,show(~~~v.toNat)=v by lia,hv,gz ()]at this;cases this
def vA{n:Nat}(a:n<=8){X:Int->Bool}(h:Cut.Prp n X):qj n X∈psN n:=by
 let⟨q,b,c,e,_⟩:=Iz a h;rw[←e];exact(G7 (W:=λ_=>0) b c).2
def W9:allB 256 (λr=>allB (r+1) λs=>!inB s r || (r - s==r ^^^ s))=true:=⋯
def Xy{r s:Nat}(hr:r<256)(h:inB s r=true):r - s=r ^^^ s:=by
 have a:=allB_iff (allB_iff W9 r hr) s (by have:=dG h;lia);rw[h]at a;simpa using a
theorem PB{n:Nat}{ws:fM}(d:n<=8)(e:ws.getD 0 0=0):∀(c:fR)(m:Nat),m<2 ^ n->(∀q∈c,inB q m=true)->c.Pairwise (λa b=>a &&& b=0)->(c.map λq=>ws.getD q 0).sum<=eV ws n m
 |[],m,hm,_,_=>Z5 d m hm
 |q::c,m,hm,hi,hp=>by
  have g:2 ^ n<=256:=Ă (n:=2) ∅ d;have f:=hi q Æ;have hp:=List.pairwise_cons.mp hp;have:=PB d e c (m - q) () (λx hx=>by
   rw[Xy () f];refine rQ.mpr λi hx2=>?_;have a:=rQ.mp (hi x (Ç _ hx)) i hx2;have b:=fv (λv=>Nat.testBit v i) (hp.1 x hx);simp only[Nat.testBit_and,Nat.zero_testBit,hx2,Bool.and_true]at b;rw[Nat.testBit_xor,a,b];rfl) hp.2
  have s:=Xc d e m hm q f;rw[é,Ė];lia
def uD{α:Type}(l:List α)(f:α->Nat):(l.map λx=>(~~~(f x))).sum=(~~~((l.map f).sum)):=by
 induction l with
 |nil=>rfl
 |cons x l a=>rw[é,Ė,é,Ė,a];lia
structure Side(n:Nat)(us:fN)(s:Str)(d:(Int->Bool)->Nat):Prop where
 eq:∀{X Y:Int->Bool},(∀v,0<=v/\v<(n:Int)->X v=Y v)->d X=d Y
 by_:∀l,d (mb l)=byS us s l
def Dv(a:fN)(l:fM):Cut.di a (mb l)=inN a l:=by
 unfold Cut.di inN;rw[←List.countP_eq_length_filter];rfl
def V5(a:fN)(l:fM):Cut.dO a (mb l)=JB a l:=by
 unfold Cut.dO JB;rw[←List.countP_eq_length_filter];rfl
def cD{n:Nat}{c:fN}(hu:RgT n c):Side n c bS (Cut.di c):=⟨λ{X Y} h=>by
 unfold Cut.di;refine List.countP_congr λt ht=>?_;let⟨a,b⟩:=hu t ht;rw[h _ a,h _ b],λl=>by
 unfold byS;rw[fo rfl,Dv]⟩
def cJ{n:Nat}{c:fN}(hu:RgT n c):Side n c bg (Cut.dO c):=⟨λ{X Y} h=>by
 unfold Cut.dO;refine List.countP_congr λt ht=>?_;let⟨a,b⟩:=hu t ht;rw[h _ a,h _ b],λl=>by
 unfold byS;rw[fq ⋯,V5]⟩
def wB{n k:Nat}{a:fN}{s:Str}{d:(Int->Bool)->Nat}(S:Side n a s d)(l:fM):WO a ((k:Int) - 1) s l=(~~~(k - d (mb l))):=by
 unfold WO nd1;rw[S.by_];split <;> lia
def iM{n k:Nat}{o:fN}{s:Str}{d:(Int->Bool)->Nat}(B:1<=n)(t:n<=8)(S:Side n o s d){f:List (Int->Bool)}(hd:f.Pairwise (Cut.Dj n))(hp:∀X∈f,Cut.Prp n X) :
  (~~~((f.map λX=>k - d X).sum))<=eV (jl n (WO o ((k:Int) - 1) s)) n (2 ^ n - 1):=by
 have C:=jH B t;have p:∀f:List (Int->Bool),f.Pairwise (Cut.Dj n)->(∀X∈f,Cut.Prp n X)->∃g:fR,(∀q∈g,(0<q/\q+1<2 ^ n)/\∃X∈f,∀i,i<n->q.testBit i=X (~~~i))/\g.Pairwise (λa b=>a &&& b=0)/\(g.map λq=>(jl n (WO o ((k:Int) - 1) s)).getD q 0)=f.map λX=>(~~~(k - d X)):=λf hd=>by
  induction hd with
  |nil=>intro _;exact⟨[],λq h=>(nomatch h),.nil,rfl⟩
  |@cons X l hX hl ih =>
   intro hp;let⟨g,h1,h2,r⟩:=ih λY j=>hp Y (Ç _ j);let⟨q,u,w,e,y⟩:=Iz t (hp X Æ);refine⟨q::g,λx m=>?_,.cons (λx m=>?_) h2,?_⟩
   ·rcases Õ.mp m with rfl|m
    ·exact⟨⟨u,w⟩,X,Æ,y⟩
    ·let⟨a,Y,j,b⟩:=h1 x m;exact⟨a,Y,Ç _ j,b⟩
   ·let⟨⟨_,D⟩,Y,j,b⟩:=h1 x m;refine Nat.eq_of_testBit_eq λi=>?_;rw[Nat.testBit_and,Nat.zero_testBit];rcases Ű i n with z|z
    ·rw[y i z,b i z];cases c:X (~~~i)with
     |false=>rfl
     |true=>rw[hX Y j _ () c];rfl
    ·have:q.testBit i=false:=Nat.testBit_lt_two_pow (ì (show q<2 ^ n by lia) (Ă ∅ z));rw[this];rfl
   ·rw[é,é,r,(G7 u w).1,e,wB S,S.eq λv hv=>fL hv]
 let⟨g,h1,h2,r⟩:=p f hd hp;have A:(jl n (WO o ((k:Int) - 1) s)).getD 0 0=0:=rfl;have:=PB (ws:=jl n (WO o ((k:Int) - 1) s)) t A g (2 ^ n - 1) () (λq hq=>gM.mpr (by
  have:=(h1 q hq).1;rw[Nat.and_two_pow_sub_one_eq_mod,Nat.mod_eq_of_lt ()])) h2
 rw[r,uD]at this;exact this
def jU{n k:Nat}{f:fN}{s:Str}{d:(Int->Bool)->Nat}{es:fM}{c:fI}(o:1<=n)(p:n<=8)(S:Side n f s d)(he:RgE n es)(j:∀X,Cut.Prp n X->k<=d X+Cut.mg es X)(m:oN n (WO f ((k:Int) - 1) s) c):(c.map (WO f ((k:Int) - 1) s)).sum<=(⇑es:Int):=by
 let⟨r,q,t⟩:=jD o p m;have e:c.map (WO f ((k:Int) - 1) s)=(c.map mb).map λX=>(~~~(k - d X)):=by
  rw[ô];exact Ĝ λl _=>wB S l
 have i:(c.map mb).Pairwise (Cut.Dj n):=List.pairwise_map.mpr ((List.pairwise_flatten.mp q).2.imp λh v _ ha=>fi λhb=>h v (fk ha) v hb rfl);rw[e,uD];have a:=(Cut.Le he i).1;have b:((c.map mb).map λX=>k - d X).sum<=((c.map mb).map λX=>Cut.mg es X).sum:=by
  have hp:∀X∈c.map mb,Cut.Prp n X:=λX hX=>by
   let⟨l,hl,rfl⟩:=è.mp hX;exact yR (r l hl)
  have g:∀M:List (Int->Bool),(∀X∈M,Cut.Prp n X)->(M.map λX=>k - d X).sum<=(M.map λX=>Cut.mg es X).sum:=λM=>by
   induction M with
   |nil=>intro _;exact Ì _
   |cons X l ih =>
    intro hp;rw[é,é,Ė,Ė];have:=ih λY hY=>hp Y (Ç _ hY);have:=j X (hp X Æ);lia
  exact g _ hp
 lia
def dE(d:(Int->Bool)->Nat)(es:fM)(X:Int->Bool):Nat:=d X+Cut.mg es X
@[reducible] def DEq(n:Nat)(d:(Int->Bool)->Nat):Prop:=∀{X Y:Int->Bool},(∀v,0<=v/\v<(n:Int)->X v=Y v)->d X=d Y
def mnF(k:Int):fM->Int
 |[]=>k
 |x::l=>if x<mnF k l then x else mnF k l
theorem zY(k:Int):∀l,mnF k l∈k::l
 |[]=>Æ
 |x::l=>by
  show(if x<mnF k l then x else mnF k l)∈_;split
  ·exact Ç _ Æ
  ·rcases Õ.mp (zY k l)with z|z
   ·rw[z];exact Æ
   ·exact Ç _ (Ç _ z)
theorem Dd(k:Int):∀l,∀a∈k::l,mnF k l<=a
 |[],a,h=>by rw[Í.mp h];exact Ě _
 |x::l,a,h=>by
  show(if x<mnF k l then x else mnF k l)<=a;have b:=Dd k l;rcases Õ.mp h with rfl|h
  ·have:=b a Æ;split <;> lia
  ·rcases Õ.mp h with rfl|h
   ·split <;> lia
   ·have:=b a (Ç _ h);split <;> lia
def RW{k M:Int}{l:fM}(h1:M∈k::l)(h2:∀a∈k::l,M<=a):M=mnF k l:=by
 have a:=h2 _ (zY k l);have b:=Dd k l M h1;lia
def aY(n:Nat)(d:(Int->Bool)->Nat):Spr:=(psN n).map λl=>(l,(~~~(d (mb l))))
def aD(n k:Nat)(d:(Int->Bool)->Nat)(es:fM):Spr:=(psN n).map λl=>(l,(~~~(dE d es (mb l))) - (k:Int))
def Jq(a:Spr)(es:fM)(k:Int):Spr:=a.map λr=>(r.1,r.2+(⇑(es.filter (mb r.1)):Int) - k)
def jV(sp:Spr)(v:Int)(k:Int):Int:=mnF k ((sp.filter λr=>mb r.1 v).map (·.2))
def rO(sp:Spr)(v a:Int):Spr:=sp.map λr=>(r.1,if mb r.1 v=true then r.2 - a else r.2)
def gw(a:Spr)(k:Int):Nat->Spr×fM
 |0=>(a,[])
 |i+1=>(rO (gw a k i).1 i (jV (gw a k i).1 i k),(gw a k i).2++Ë (k - jV (gw a k i).1 i k).toNat (~~~i))
def rst(n k i:Nat):fM:=((Ø n).drop i).flatMap λv=>Ë k (~~~v)
def jC(n k:Nat)(a:Spr):fM:=(gw (Jq a (rst n k 0) k) k n).2
def yC(n k:Nat)(d:(Int->Bool)->Nat)(es:fM):Jq (aY n d) es k=aD n k d es:=by
 unfold Jq aY aD;rw[ô];refine Ĝ λl _=>?_;show(l,(~~~(d (mb l)))+(⇑(es.filter (mb l)):Int) - (k:Int))=_;rw[←List.countP_eq_length_filter];unfold dE Cut.mg;simp
def oZ(a b:fM)(X:Int->Bool):Cut.mg (a++b) X=Cut.mg a X+Cut.mg b X:=List.countP_append
def Gf(m:Nat)(v:Int)(X:Int->Bool):Cut.mg (Ë m v) X=if X v=true then m else 0:=by
 unfold Cut.mg;rw[List.countP_replicate]
def Lw{n k i:Nat}(h:i<n):rst n k i=Ë k (~~~i)++rst n k (i+1):=by
 unfold rst;rw[œ (by rw[ā];exact h),List.flatMap_cons,List.getElem_range]
def Q5(n k:Nat):rst n k n=[]:=by
 unfold rst;rw[List.drop_of_length_le (by rw[ā];exact Ì _)];rfl
def Lr(n k i:Nat):RgE n (rst n k i):=λe he=>by
 unfold rst at he;let⟨v,hv,hm⟩:=List.mem_flatMap.mp he;have:=ò.mp (List.mem_of_mem_drop hv);rw[(ę.mp hm).2];lia
def Yy{n k:Nat}{X:Int->Bool}(h:Cut.Prp n X):k<=Cut.mg (rst n k 0) X:=by
 let⟨v,⟨a,b⟩,hv⟩:=h.ins;have m:v.toNat∈Ø n:=ò.mpr ();let⟨s,t,e⟩:=List.append_of_mem m;unfold rst;rw[List.drop_zero,e,List.flatMap_append,List.flatMap_cons,oZ,oZ,Gf,show(~~~v.toNat)=v by lia,fo hv];lia
def Wq{n k:Nat}{d:(Int->Bool)->Nat}{es:fM}(a:n<=8)(hu:DEq n d)(he:RgE n es){X:Int->Bool}(h:Cut.Prp n X):(qj n X,(~~~(dE d es X)) - (k:Int))∈aD n k d es:=by
 refine è.mpr ⟨qj n X,vA a h,?_⟩;unfold dE;rw[hu λv hv=>fL hv,Oe he λv hv=>fL hv]
structure FewP(n k:Nat)(d:(Int->Bool)->Nat)(L E:fM):Prop where
 rg:RgE n E
 C:∀X,Cut.Prp n X->k<=dE d E X
 tg:∀v∈L,∃X,Cut.Prp n X/\X v=true/\dE d E X=k
theorem tQ{n k:Nat}{d:(Int->Bool)->Nat}(o:1<=n)(j:n<=8)(hu:DEq n d):∀i,i<=n->∃L:fM,gw (aD n k d (rst n k 0)) k i=(aD n k d (L++rst n k i),L)/\FewP n k d L (L++rst n k i)/\L.Pairwise (·<=·)/\(∀v∈L,v<(i:Int))/\⇑L<=i * k
 |0,_=>⟨[],rfl,⟨Lr n k 0,λX hX=>by have:=Yy (k:=k) hX;unfold dE;rw[List.nil_append];lia,λv h=>(nomatch h)⟩,.nil,λv h=>(nomatch h),ą _⟩
 |i+1,hi=>by
  let⟨L,e,F,B,lt,H⟩:=tQ o j hu i ();have p:i<n:=()
  generalize g:jV (aD n k d (L++rst n k i)) (~~~i) (k:Int)=f;have G:f<=(k:Int):=by rw[←g];exact Dd _ _ _ Æ
  have s:∀X,Cut.Prp n X->X (~~~i)=true->f<=(~~~(dE d (L++rst n k i) X)) - (k:Int):=λX hX hXi=>by
   rw[←g];refine Dd _ _ _ (Ç _ (è.mpr ⟨_,â.mpr ⟨Wq j hu F.rg hX,?_⟩,rfl⟩));rw[fL (),hXi]
  have t:f=(k:Int)\/∃l∈psN n,mb l (~~~i)=true/\f=(~~~(dE d (L++rst n k i) (mb l))) - (k:Int):=by
   have:=zY (k:Int) (((aD n k d (L++rst n k i)).filter λr=>mb r.1 (~~~i)).map (·.2));rw[show mnF (k:Int) (((aD n k d (L++rst n k i)).filter λr=>mb r.1 (~~~i)).map (·.2))=f from g]at this;rcases Õ.mp this with z|z
   ·exact .inl z
   ·let⟨r,hr,e⟩:=è.mp z;let⟨h1,h2⟩:=â.mp hr;let⟨l,hl,rfl⟩:=è.mp h1;exact .inr ⟨l,hl,h2,e.symm⟩
  have E:0<=f:=by
   rcases t with z|⟨l,hl,_,z⟩
   ·lia
   ·have:=F.C _ (oR o j hl);lia
  obtain⟨q,rfl⟩:∃q:Nat,f=(~~~q):=⟨f.toNat,()⟩
  have I:q<=k:=()
  have m:∀X:Int->Bool,dE d ((L++Ë (k - q) (~~~i))++rst n k (i+1)) X+(if X (~~~i)=true then q else 0)=dE d (L++rst n k i) X:=λX=>by
   unfold dE;rw[Lw p,oZ,oZ,oZ,oZ,Gf,Gf];split <;> lia
  refine⟨L++Ë (k - q) (~~~i),?_,⟨λv hv=>?_,λX hX=>?_,λv hv=>?_⟩,?_,λv hv=>?_,?_⟩
  ·show(rO (gw _ _ i).1 _ (jV (gw _ _ i).1 _ _),_++Ë ((k:Int) - jV (gw _ _ i).1 _ _).toNat _)=_;rw[e];show(rO (aD n k d (L++rst n k i)) _ (jV (aD n k d (L++rst n k i)) _ _),L++Ë ((k:Int) - jV (aD n k d (L++rst n k i)) _ _).toNat _)=_;rw[g,show((k:Int) - (~~~q)).toNat=k - q by lia];refine Prod.ext ?_ rfl;show rO _ _ _=aD _ _ _ _;unfold rO aD;rw[ô];refine Ĝ λl _=>?_;have:=m (mb l);refine Prod.ext rfl ?_;show(if mb l (~~~i)=true then(~~~(dE d (L++rst n k i) (mb l))) - (k:Int) - (~~~q)else(~~~(dE d (L++rst n k i) (mb l))) - (k:Int))=(~~~(dE d ((L++Ë (k - q) (~~~i))++rst n k (i+1)) (mb l))) - (k:Int);split
   ·rename_i c;rw[fo c]at this;lia
   ·rename_i c;rw[fq c]at this;lia
  ·rcases Û.mp hv with z|z
   ·rcases Û.mp z with z|z
    ·exact F.rg v (ċ _ z)
    ·rw[(ę.mp z).2];lia
   ·exact Lr n k _ v z
  ·have a:=F.C X hX;have b:=m X;by_cases c:X (~~~i)=true
   ·have:=s X hX c;rw[fo c]at b;lia
   ·rw[fq c]at b;lia
  ·rcases Û.mp hv with z|z
   ·let⟨X,u,D,J⟩:=F.tg v z;refine⟨X,u,D,?_⟩;have b:=m X;by_cases c:X (~~~i)=true
    ·have:=s X u c;rw[fo c]at b;lia
    ·rw[fq c]at b;lia
   ·let⟨A,rfl⟩:=ę.mp z;rcases t with y|⟨l,hl,w,K⟩
    ·lia
    ·refine⟨mb l,oR o j hl,w,?_⟩;have b:=m (mb l);rw[fo w]at b;have:=F.C _ (oR o j hl);lia
  ·refine List.pairwise_append.mpr ⟨B,List.pairwise_replicate.mpr (.inr (Ě _)),λx hx y hy=>?_⟩;rw[(ę.mp hy).2];have:=lt x hx;lia
  ·rcases Û.mp hv with z|z
   ·have:=lt v z;lia
   ·rw[(ę.mp z).2];lia
  ·rw[É,ė,Nat.add_mul];lia
def Gx{n k:Nat}{d:(Int->Bool)->Nat}(b:1<=n)(c:n<=8)(hu:DEq n d):FewP n k d (jC n k (aY n d)) (jC n k (aY n d))/\(jC n k (aY n d)).Pairwise (·<=·)/\⇑(jC n k (aY n d))<=n * k:=by
 let⟨L,e,F,f,_,a⟩:=tQ (k:=k) b c hu n (Ì _);have:jC n k (aY n d)=L:=by
  unfold jC;rw[yC,e]
 rw[this];rw[Q5,í]at F;exact⟨F,f,a⟩
def jT(sp:Spr)(a b:Int):Bool:=!decide (a=b)&&((sp.filter λr=>mb r.1 a&&mb r.1 b).map λr=>decide (1<=r.2)).all id
def j6(sp:Spr)(a b:Int):Spr:=sp.map λr=>(r.1,if(mb r.1 a&&mb r.1 b)=true then r.2 - 1 else r.2)
def ttF:Spr->fM->fM->fN
 |_,[],_=>[]
 |sp,a::R,H=>match H.find? (jT sp a)with
  |some b=>(a,b)::ttF (j6 sp a b) R (H.erase b)
  |none=>[]
def Ii:Spr->fM->fM->Prop
 |_,[],_=>True
 |sp,a::R,H=>∃b,H.find? (jT sp a)=some b/\Ii (j6 sp a b) R (H.erase b)
def cM(n k:Nat)(a:fN)(H T:fM):Spr:=aD n k (Cut.di a) H++aD n k (Cut.dO a) T
def zZ{n k:Nat}{a:fN}{H T:fM}{r:List Int×Int}:r∈cM n k a H T↔∃l∈psN n,r=(l,(~~~(dE (Cut.di a) H (mb l))) - (k:Int))\/r=(l,(~~~(dE (Cut.dO a) T (mb l))) - (k:Int)):=by
 unfold cM aD;rw[Û,è,è];constructor
 ·rintro(⟨l,h,rfl⟩|⟨l,h,rfl⟩)
  ·exact⟨l,h,.inl rfl⟩
  ·exact⟨l,h,.inr rfl⟩
 ·rintro⟨l,h,rfl|rfl⟩
  ·exact .inl ⟨l,h,rfl⟩
  ·exact .inr ⟨l,h,rfl⟩
def Ji{n k:Nat}{c:fN}{H T:fM}(f:1<=n)(d:n<=8)(hu:RgT n c)(F:Cut.Fit n k c H T){a b:Int}(ha:0<=a/\a<(n:Int))(hb:0<=b/\b<(n:Int)):jT (cM n k c H T) a b=true↔a≠b/\∀X,Cut.Prp n X->X a=true->X b=true->k+1<=Cut.di c X+Cut.mg H X/\k+1<=Cut.dO c X+Cut.mg T X:=by
 unfold jT;rw[Ü,ů,decide_eq_false_iff_not,Ċ];refine and_congr Iff.rfl ⟨λh X hX xa xb=>?_,λh y hy=>?_⟩
 ·have e:(mb (qj n X) a&&mb (qj n X) b)=true:=by rw[fL ha,fL hb,xa,xb];rfl
  have h1:=h (decide (1<=(~~~(dE (Cut.di c) H (mb (qj n X)))) - (k:Int))) (è.mpr ⟨_,â.mpr ⟨zZ.mpr ⟨_,vA d hX,.inl rfl⟩,e⟩,rfl⟩);have h2:=h (decide (1<=(~~~(dE (Cut.dO c) T (mb (qj n X)))) - (k:Int))) (è.mpr ⟨_,â.mpr ⟨zZ.mpr ⟨_,vA d hX,.inr rfl⟩,e⟩,rfl⟩);have h1:=fk h1;have h2:=fk h2;unfold dE at h1 h2;rw[(cD hu).eq (Y:=X) λv hv=>fL hv,Oe (Y:=X) F.rH λv hv=>fL hv]at h1;rw[(cJ hu).eq (Y:=X) λv hv=>fL hv,Oe (Y:=X) F.rT λv hv=>fL hv]at h2;lia
 ·let⟨r,hr,rfl⟩:=è.mp hy;let⟨h1,h2⟩:=â.mp hr;rw[Ü]at h2;refine decide_eq_true ?_;obtain⟨l,hl,rfl|rfl⟩:=zZ.mp h1
  ·have:=(h _ (oR f d hl) h2.1 h2.2).1;show(1:Int)<=(~~~(dE _ _ _)) - (k:Int);unfold dE;lia
  ·have:=(h _ (oR f d hl) h2.1 h2.2).2;show(1:Int)<=(~~~(dE _ _ _)) - (k:Int);unfold dE;lia
def QL{n k:Nat}{d:fN}{a b:Int}{R H:fM}(hb:b∈H):j6 (cM n k d H (a::R)) a b=cM n k ((a,b)::d) (H.erase b) R:=by
 unfold j6 cM aD;rw[Ö,ô,ô];congr 1
 ·refine Ĝ λl _=>Prod.ext rfl ?_;have e:Cut.di ((a,b)::d) (mb l)+Cut.mg (H.erase b) (mb l)+(mb l a&&mb l b).toNat=Cut.di d (mb l)+Cut.mg H (mb l):=by
   rw[Cut.tZ,←Cut.Uo hb (mb l)];cases mb l a <;> cases mb l b <;> simp <;> lia
  show(if(mb l a&&mb l b)=true then(~~~(dE _ _ _)) - (k:Int) - 1 else(~~~(dE _ _ _)) - (k:Int))=(~~~(dE _ _ _)) - (k:Int);unfold dE;cases c:mb l a&&mb l b <;> rw[c]at e <;> simp at e ⊢ <;> lia
 ·refine Ĝ λl _=>Prod.ext rfl ?_;have e:Cut.dO ((a,b)::d) (mb l)+Cut.mg R (mb l)+(mb l a&&mb l b).toNat=Cut.dO d (mb l)+Cut.mg (a::R) (mb l):=by
   rw[Cut.ud,Cut.ni];cases mb l a <;> cases mb l b <;> simp <;> lia
  show(if(mb l a&&mb l b)=true then(~~~(dE _ _ _)) - (k:Int) - 1 else(~~~(dE _ _ _)) - (k:Int))=(~~~(dE _ _ _)) - (k:Int);unfold dE;cases c:mb l a&&mb l b <;> rw[c]at e <;> simp at e ⊢ <;> lia
def qz{a b:fN}(h:a.Perm b)(X:Int->Bool):Cut.di a X=Cut.di b X:=h.countP_eq _
theorem Bw{n k:Nat}(j:1<=n)(l:n<=8):∀(T H:fM)(d:fN),RgT n d->Cut.Fit n k d H T->Cut.Tgt n k d H T ->
  Ii (cM n k d H T) T H/\⇑(ttF (cM n k d H T) T H)=⇑T/\(∀t∈ttF (cM n k d H T) T H,(0<=t.1/\t.1<(n:Int))/\(0<=t.2/\t.2<(n:Int))/\t.1≠t.2)/\∀X,Cut.Prp n X->k<=Cut.di (ttF (cM n k d H T) T H++d) X
 |[],H,d,hu,F,_=>by
  have y:H=[]:=ŵ.mp F.len;subst y;exact⟨trivial,rfl,λt h=>(nomatch h),λX i=>F.c1 X i⟩
 |a::R,H,d,hu,F,tg=>by
  have ha:=F.rT a Æ;let⟨b0,v,n0,x⟩:=F.split Æ (F.other Æ tg);have f:∃b,H.find? (jT (cM n k d H (a::R)) a)=some b:=by
   cases c:H.find? (jT (cM n k d H (a::R)) a)with
   |some b=>exact⟨b,rfl⟩
   |none=>exact ft ((Ji j l hu F ha (F.rH b0 v)).mpr ⟨ĝ n0,x⟩) (List.find?_eq_none.mp c b0 v)
  let⟨b,hb⟩:=f;have g:=List.mem_of_find?_eq_some hb;have o:=F.rH b g;let⟨m,i⟩:=(Ji j l hu F ha o).mp (List.find?_some hb);let⟨w,p⟩:=F.step g i tg;let⟨q,r,s,u⟩:=Bw j l R (H.erase b) ((a,b)::d) (λt ht=>by
   rcases Õ.mp ht with rfl|ht
   ·exact⟨ha,o⟩
   ·exact hu t ht) w p
  rw[←QL g]at q r s u;have e:ttF (cM n k d H (a::R)) (a::R) H=(a,b)::ttF (j6 (cM n k d H (a::R)) a b) R (H.erase b):=by
   show(match H.find? (jT (cM n k d H (a::R)) a)with|some b=>_|none=>_)=_;rw[hb]
  rw[e];refine⟨⟨b,hb,q⟩,by rw[à,à,r],λt ht=>?_,λX hp=>?_⟩
  ·rcases Õ.mp ht with rfl|ht
   ·exact⟨ha,o,m⟩
   ·exact s t ht
  ·rw[List.cons_append,←qz (List.perm_middle (a:=(a,b)) (l₁:=ttF (j6 (cM n k d H (a::R)) a b) R (H.erase b)) (l₂:=d)) X];exact u X hp
def rwD(r:List Int×Int):D:=.tuple [iD r.1,.int r.2]
def gF(sp:Spr):D:=.list (sp.map rwD)
def fPS:FF:=λds P=>∃n:Nat,ds=[.int (~~~n)]/\1<=n/\n<=8/\P (.list ((psN n).map iD))
def fWS:FF:=λds P=>∃(rows:Spr)(es:fM)(k:Int),ds=[gF rows,iD es,.int k]/\⇑rows<=300/\⇑es<=300/\P (gF (Jq rows es k))
def fFE:FF:=λds P=>∃(n k:Nat)(d:(Int->Bool)->Nat),ds=[.int (~~~n),gF (aY n d),.int (~~~k)]/\1<=n/\n<=8/\k<=3/\DEq n d/\P (iD (jC n k (aY n d)))
def fCB:FF:=λds P=>∃(sp:Spr)(a b:Int),ds=[gF sp,.int a,.int b,.int 1]/\⇑sp<=600/\P (.bool (jT sp a b))
def fTd:FF:=λds P=>∃(sp:Spr)(a b:Int),ds=[gF sp,.int a,.int b,.int 1]/\⇑sp<=600/\P (gF (j6 sp a b))
def fSM:FF:=λds P=>∃(n k c:Nat)(d:(Int->Bool)->Nat),ds=[.int (~~~n),gF (aY n d),.int (~~~k),.int (~~~c)]/\1<=n/\n<=8/\k<=3/\c<=100/\DEq n d/\⇑(jC n k (aY n d))<=c/\P (iD (Ë (c - ⇑(jC n k (aY n d))) 0++jC n k (aY n d)))
def fTT:FF:=λds P=>∃(sp:Spr)(T H:fM),ds=[gF sp,iD T,iD H]/\⇑sp<=600/\⇑H<=100/\⇑T<=100/\Ii sp T H/\P (.list ((ttF sp T H).map pD))
section
variable{P:Zg}{w:Zl}{K:Ý}{mg:Str->gf}{gy:Heap}{f:Addr}{fd:WS}{CN PT:Addr}
def uY(F:Fun K cn cn (top 17) f fd)(B:į mg)(a:kA0 P w K mg gy):2∩[e7]∩spD fPS:=by
 refine okT F (N:=[e7]) zC (λhr nd=>ð (ÿ (Wr.Cr (ł a hr (Á (Ê 0) Ä)) (Wr.fX Ð) (Wr.fX (Wr.oU Ð))))) ?_;rintro ds P ⟨n,rfl,b,c,q⟩;refine⟨[.im (.int (~~~n))],rfl,?_⟩;have d:=jH b c;refine⟨~~~n,rfl,(),(),.inr ⟨rfl,?_⟩⟩;rw[ê,Jc _ (by rw[À,bB];lia),←List.map_drop,←List.map_dropLast];exact q
def j7:FnScope [da,eS,bX] [da,eS,bX] (au (top 33)):=zC
def jy:([am,bu,da,eS,bX]:List Str).Nodup:=⋯
def qR:(["v",am,bu,da,eS,bX]:List Str).Nodup:=⋯
def uX(F:Fun K cq cq (top 33) f fd)(B:į mg):1∩[da,eS,bX]∩spR fWS:=by
 refine F.ok j7 Ad (λcdv A outer s H vs Q E hr h=>?_);have d:=j7.nd;refine⟨_,Dl.WR.h (Dl.Fl (Ũ [am,bu] rfl (Ğ (Ê 0)) (λc=>(Wr.fQ (n:=2) rfl (ĥ (ç (i:=0) jy rfl zQ) (ĥ (ç (i:=1) jy rfl zQ) Wr.dD)))) (λc=>ŏ) (λc=>(Ġ (Á (Ê 0) (Á (Wr.cV (ĩ (Ê 1) (İ B.len (Á (Ũ ["v"] rfl (Ğ (Ê 3)) (λc=>(ç (i:=0) qR rfl zQ)) (λc=>(ż (Wr.fD hr.units (Ê 0) (Ê 1)))) (λc=>(Ê 0))) Ä))) (Ê 4)) Ä)))))),Gz h ?_⟩;rintro ds P ⟨a,es,k,rfl,b,le,q⟩;refine⟨[.sh (gF a),.sh (iD es),.im (.int k)],rfl,?_⟩;refine qX a rwD (λr=>rwD (r.1,r.2+(⇑(es.filter (mb r.1)):Int) - k)) .shr rfl () (λr hr A B hA=>⟨rfl,aF (B:=B) ?_⟩) ?_
 ·refine lQ es Â (mb r.1) Â .imm rfl () (λv hv A B hA hB=>?_) ?_
  ·refine⟨rfl,bZ r.1,?_⟩;show if(((r.1.map Â).any λe=>ö e (.int v)):Bool)=true then _ else _
   rw[Ŋ];cases c:mb r.1 v with
   |true =>
    rw[show decide (v∈r.1)=true from c];exact aF (B:=True) ⟨rfl,hA c⟩
   |false =>
    rw[show decide (v∈r.1)=false from c];exact aJ (A:=True) (hB c)
  ·refine⟨zK,?_,?_⟩
   ·rfl
   ·show A (.tuple [iD r.1,.int (r.2+(⇑(Ņ Â (List.filter (mb r.1) es)):Int) - k)]);rw[À];exact hA
 ·unfold gF Jq at q;rw[ô]at q;exact q
def lX(m:Nat)(v:Int):(Ë m [Â v]).flatten=(Ë m v).map Â:=by
 induction m with
 |zero=>rfl
 |succ m a=>rw[ě,ú,a,ě];rfl
def QW(a:Spr)(es:fM)(k:Int):⇑(Jq a es k)=⇑a:=À _
theorem Io(a:Spr)(k:Int):∀i,(gw a k i).1.length=⇑a
 |0=>rfl
 |i+1=>by
  show(rO _ _ _).length=_;unfold rO;rw[À,Io]
def Pk{n k i:Nat}{d:(Int->Bool)->Nat}(a:1<=n)(b:n<=8)(hu:DEq n d)(hi:i<n):0<=jV (gw (aD n k d (rst n k 0)) k i).1 (~~~i) k/\jV (gw (aD n k d (rst n k 0)) k i).1 (~~~i) k<=k:=by
 let⟨L,e,F,_⟩:=tQ (k:=k) a b hu i ();rw[e];refine⟨?_,Dd _ _ _ Æ⟩;show 0<=mnF _ _;rcases Õ.mp (zY (k:Int) (((aD n k d (L++rst n k i)).filter λr=>mb r.1 (~~~i)).map (·.2)))with z|z
 ·rw[z];lia
 ·let⟨r,hr,e⟩:=è.mp z;let⟨l,hl,rfl⟩:=è.mp (â.mp hr).1;have:=F.C _ (oR a b hl);rw[←e];show 0<=(~~~(dE d (L++rst n k i) (mb l))) - (k:Int);lia
def W8{n k i:Nat}{d:(Int->Bool)->Nat}(b:1<=n)(c:n<=8)(hu:DEq n d)(hi:i<=n):(gw (aD n k d (rst n k 0)) k i).2.length<=i * k:=by
 let⟨L,e,_,_,_,a⟩:=tQ (k:=k) b c hu i hi;rw[e];exact a
def uH{n:Nat}(a:1<=n)(b:n<=8)(d:(Int->Bool)->Nat):⇑(aY n d)<=254:=by
 have c:=jH a b;unfold aY psN;rw[À,ņ,Ď,bB];lia
def dg:([am,fg,e7,da,bX,eS,"v",aN,"left","lost"]:List Str).Nodup:=⋯
abbrev kA3(P w K mg gy):=1∪cq∪[da,eS,bX]∪spR fWS
def u5(F:Fun K cr cr (top 34) f fd)(B:į mg)(D:kA3 P w K mg gy):2∩[e7,da,bX]∩spD fFE:=by
 refine okT F (N:=[e7,da,bX,eS,"v",aN,"left","lost"]) zC (λhr nd=>Ï (ñ (some 0) (i:=3) nd rfl zQ (Ī Ä))
  (Ï (Š ï rfl (ő B.range (Á (Ê 0) Ä)) (ç (i:=4) nd rfl zQ) (Ï (Wr.dB (ū 3) (Á (Wr.ju (Ī (Á (Ê 4) Ä)) (Ê 2)) Ä)) (ø [4] Ā)))
  (ø [4] (Wr.Aw 3 (Ï (ñ none (i:=5) nd rfl zQ (Dl.dcR D hr (Á (Ê 1) (Á (Ê 3) (Á (Ê 2) Ä)))))
  (Ï (ñ (some 1) (i:=6) nd rfl zQ (Ī Ä))
  (Ï (Š ï rfl (ő B.range (Á (Ê 0) Ä)) (ç (i:=4) nd rfl zQ) (Ï (ñ none (i:=7) nd rfl zQ (Wr.yX rfl B.min (Á (ĩ (Ī (Á (Ê 2) Ä)) (Ũ [am,fg] rfl (Ğ (Ê 5)) (λc=>(Wr.fQ (n:=2) rfl (ĥ (ç (i:=0) dg rfl zQ) (ĥ (ç (i:=1) dg rfl zQ) Wr.dD)))) (λc=>(ż (Wr.fD hr.units (Ê 6) (Ê 0)))) (λc=>(Ê 1)))) Ä)))
  (Ï (Wr.eZ none [am,fg] (i:=5) rfl nd rfl zQ (Ğ (Ê 5)) (λc=>(Wr.fQ (n:=2) rfl (ĥ (ç (i:=0) dg rfl zQ) (ĥ (ç (i:=1) dg rfl zQ) Wr.dD)))) (λc=>ŏ) (λc=>(Ġ (Á (Ê 0) (Á (Wr.jw (Wr.fD hr.units (Ê 6) (Ê 0)) (Wr.cV (Ê 1) (Ê 9)) (Ê 1)) Ä)))))
  (Ï (Wr.dB (ū 6) (Á (Wr.ju (Ī (Á (Ê 4) Ä)) (Wr.cV (Ê 2) (Ê 7))) Ä)) (ø [4,7] Ā)))))
  (ø [4,5,7] (ð (ÿ (Ê 6))))))))))) ?_
 rintro ds P ⟨n,k,d,rfl,x,s,I,hu,q⟩;have C:=uH x s d;have j:=λi=>Pk (k:=k) (i:=i) x s hu;have o:=λi=>W8 (k:=k) (i:=i) x s hu;have h:=yC n k d (rst n k 0);unfold jC at q;rw[h]at q;have u:⇑(aD n k d (rst n k 0))<=254:=by rw[←h,QW];exact C
 have m:=Io (aD n k d (rst n k 0)) k;generalize aY n d=g at h C;refine⟨[.im (.int (~~~n)),.sh (gF g),.im (.int (~~~k)),.any,.any,.any,.any,.any],rfl,?_⟩;have y:∀i,((Ø (i+1)).flatMap λv=>Ë k (~~~v))=((Ø i).flatMap λv=>Ë k (~~~v))++Ë k (~~~i):=λi=>by
  rw[List.range_succ,List.flatMap_append,List.flatMap_cons,List.flatMap_nil,í]
 have l:∀i,⇑((Ø i).flatMap λv=>Ë k (~~~v))=i * k:=λi=>by
  induction i with
  |zero=>simp
  |succ i H=>rw[List.range_succ,List.flatMap_append,É,H];simp[Nat.add_mul]
 have U:n * k<=24:=Ş s I;have z:∀i,i<=n->i * k<=24:=λi hi=>ĉ (Nat.mul_le_mul_right k hi) U;refine⟨zK,⟨(),()⟩,rfl,λ(i:Nat) ρ=>ρ=[.im (.int (~~~n)),.sh (gF g),.im (.int (~~~k)),.dw 0 (iD ((Ø i).flatMap λv=>Ë k (~~~v))),.any,.any,.any,.any],rfl,?_,?_⟩
 ·rintro i d ρ hd rfl;let⟨hi,rfl⟩:=ŕ hd;rw[ê]at hi;rw[Ŏ];have O:=l i;have Q:=z i ();refine⟨zK,(),(),?_,.inr ⟨rfl,?_,?_⟩⟩
  ·show 1 * (~~~k).toNat<=1000;lia
  ·rw[ê];show(Ņ Â _).length+(Ë k [Â (~~~i)]).flatten.length<=1000;rw[lX,À,À,ė,O];lia
  ·rw[ê];show [_,_,_,Sl.dw 0 (.list (Ņ Â _++(Ë k [Â (~~~i)]).flatten)),_,_,_,_]=[_,_,_,Sl.dw 0 (iD ((Ø (i+1)).flatMap λv=>Ë k (~~~v))),_,_,_,_]
   rw[lX,y i];show _=[_,_,_,Sl.dw 0 (.list (Ņ Â (_++_))),_,_,_,_]
   rw[Ö];rfl
 rintro ρ rfl;rw[Ĭ,ê];have e0:((Ø n).flatMap λv=>Ë k (~~~v))=rst n k 0:=by
  unfold rst;rw[List.drop_zero]
 have J:=l n;rw[e0]at J ⊢;refine⟨rfl,?_⟩;refine⟨rfl,g,rst n k 0,~~~k,rfl,(),(),?_⟩;rw[h];generalize G:aD n k d (rst n k 0)=a at q j o u m;refine⟨zK,⟨(),()⟩,rfl,λ(i:Nat) ρ=>ρ=[.im (.int (~~~n)),.sh (gF g),.im (.int (~~~k)),.sn (iD (rst n k 0)),.any,.sh (gF (gw a k i).1),.dw 1 (iD (gw a k i).2),.any],rfl,?_,?_⟩
 ·rintro i d ρ hd rfl;let⟨hi,rfl⟩:=ŕ hd;rw[ê]at hi;rw[Ŏ];have b:=j i hi;have Q:=z i ();have T:=o i ();have R:=m i;have t:(gw a k (i+1)).1=rO (gw a k i).1 i (jV (gw a k i).1 i k):=rfl;have p:(gw a k (i+1)).2=(gw a k i).2++Ë ((k:Int) - jV (gw a k i).1 i k).toNat (~~~i):=rfl;generalize (gw a k i).1=sp at b R t p ⊢;generalize (gw a k i).2=L at T p ⊢;refine⟨zK,?_⟩;refine lQ sp rwD (λr=>mb r.1 (~~~i)) (λr=>.int r.2) .imm rfl () (λr hr A B hA hB=>⟨rfl,?_⟩) ?_
  ·refine⟨rfl,bZ r.1,?_⟩;show if(((r.1.map Â).any λe=>ö e (.int (~~~i))):Bool)=true then _ else _
   rw[Ŋ];cases c:mb r.1 (~~~i)with
   |true =>
    rw[show decide ((~~~i)∈r.1)=true from c];exact aF (B:=True) ⟨rfl,hA c⟩
   |false =>
    rw[show decide ((~~~i)∈r.1)=false from c];exact aJ (A:=True) (hB c)
  have S:⇑(sp.filter λr=>mb r.1 (~~~i))<=⇑sp:=Ŕ _ _;refine⟨?_,.inr ⟨~~~k::(sp.filter λr=>mb r.1 (~~~i)).map (·.2),?_,by simp,λM h1 h2=>?_⟩⟩
  ·show 1+⇑(Ņ _ _)<=1000;rw[À];lia
  ·show Â (~~~k)::Ņ (λr:List Int×Int=>Â r.2) _=Â (~~~k)::Ņ Â (Ņ _ _);rw[ô];rfl
  have E:M=jV sp (~~~i) k:=RW h1 h2;rw[←E]at b t p;refine qX sp rwD (λr=>rwD (r.1,if mb r.1 (~~~i)=true then r.2 - M else r.2)) .shr rfl () (λr hr A B hA=>⟨rfl,aF (B:=B) ⟨rfl,bZ r.1,?_⟩⟩) ?_
  ·show if(((r.1.map Â).any λe=>ö e (.int (~~~i))):Bool)=true then _ else _
   rw[Ŋ];cases c:mb r.1 (~~~i)with
   |true =>
    rw[show decide ((~~~i)∈r.1)=true from c];rw[c]at hA;exact aF (B:=True) ⟨zK,rfl,hA⟩
   |false =>
    rw[show decide ((~~~i)∈r.1)=false from c];rw[c]at hA;exact aJ (A:=True) ⟨zK,rfl,hA⟩
  refine⟨zK,(),(),?_,.inr ⟨rfl,?_,?_⟩⟩
  ·show 1 * ((~~~k) - M).toNat<=1000;lia
  ·show(Ņ Â _).length+(Ë ((~~~k) - M).toNat [Â (~~~i)]).flatten.length<=1000;rw[lX,À,À,ė];lia
  ·show [_,_,_,_,_,Sl.sh (.list (sp.map λr=>rwD (r.1,if mb r.1 (~~~i)=true then r.2 - M else r.2))),Sl.dw 1 (.list (Ņ Â L++(Ë ((~~~k) - M).toNat [Â (~~~i)]).flatten)),_]=[_,_,_,_,_,Sl.sh (gF (gw a k (i+1)).1),Sl.dw 1 (iD (gw a k (i+1)).2),_]
   rw[lX,t,p];show _=[_,_,_,_,_,Sl.sh (.list (Ņ rwD (Ņ _ sp))),Sl.dw 1 (.list (Ņ Â (_++_))),_]
   rw[Ö,ô];rfl
 rintro ρ rfl;rw[Ĭ,ê];exact⟨rfl,q⟩
def jz:([am,fg,aN,"a","b",dA]:List Str).Nodup:=⋯
def u6(F:Fun K cw cw (top 35) f fd)(B:į mg):1∩[aN,"a","b",dA]∩spD fCB:=by
 refine okT F (N:=[aN,"a","b",dA]) zC (λhr nd=>ð (ÿ (Wr.je (Wr.yW hr.units (Ê 1) (Ê 2)) (Wr.jK (Wr.kJ rfl B.all Dl.boot_all (Á (Ũ [am,fg] rfl (Ğ (Ê 0)) (λc=>(Wr.fQ (n:=2) rfl (ĥ (ç (i:=0) jz rfl zQ) (ĥ (ç (i:=1) jz rfl zQ) Wr.dD)))) (λc=>(ż (Wr.wpt (ű (Wr.fD hr.units (Ê 3) (Ê 0)) (ť (Wr.fD hr.units (Ê 4) (Ê 0))))))) (λc=>(Wr.M5 (Ê 1) (Ê 5)))) Ä)))))) ?_;rintro ds P ⟨sp,a,b,rfl,h,q⟩;refine⟨[.sh (gF sp),.im (.int a),.im (.int b),.im (.int 1)],rfl,?_⟩;by_cases c:a=b
 ·subst c;have:jT sp a a=false:=by
   unfold jT;rw[gz rfl];rfl
  rw[this]at q;show if(!decide (a=a))=true then _ else _
  rw[gz rfl];exact aJ (A:=True) ⟨rfl,q⟩
 show if(!decide (a=b))=true then _ else _
 rw[fi c];refine aF (B:=True) ?_;refine lQ sp rwD (λr=>mb r.1 a&&mb r.1 b) (λr=>.bool (decide (1<=r.2))) .imm rfl () (λr hr A B hA hB=>⟨rfl,?_⟩) ?_
 ·refine⟨rfl,bZ r.1,?_⟩;show if(((r.1.map Â).any λe=>ö e (.int a)):Bool)=true then _ else _
  rw[Ŋ];cases d:mb r.1 a with
  |false =>
   rw[show decide (a∈r.1)=false from d];exact aJ (A:=True) (aJ (A:=True) (hB (by rw[d];rfl)))
  |true =>
   rw[show decide (a∈r.1)=true from d];refine aF (B:=True) ⟨rfl,bZ r.1,?_⟩;show if(((r.1.map Â).any λe=>ö e (.int b)):Bool)=true then _ else _
   rw[Ŋ];cases g:mb r.1 b with
   |false =>
    rw[show decide (b∈r.1)=false from g];exact aJ (A:=True) (hB (by rw[d,g];rfl))
   |true =>
    rw[show decide (b∈r.1)=true from g];exact aF (B:=True) ⟨rfl,hA (by rw[d,g];rfl)⟩
 ·refine⟨(sp.filter λr=>mb r.1 a&&mb r.1 b).map λr=>decide (1<=r.2),by rw[ô];rfl,rfl,?_⟩;have:jT sp a b=((sp.filter λr=>mb r.1 a&&mb r.1 b).map λr=>decide (1<=r.2)).all id:=by
   unfold jT;rw[fi c];rfl
  rw[this]at q;exact q
def Hr:FnScope [aN,"a","b",dA] [aN,"a","b",dA] (au (top 36)):=zC
def xG:([am,fg,aN,"a","b",dA]:List Str).Nodup:=⋯
def RL(F:Fun K "tied" "tied" (top 36) f fd)(B:į mg):1∩[aN,"a","b",dA]∩spR fTd:=by
 refine F.ok Hr Ad (λcdv A outer s H vs Q E hr h=>?_);have k:=Hr.nd;refine⟨_,Dl.WR.h (Dl.Fl (Ũ [am,fg] rfl (Ğ (Ê 0)) (λc=>(Wr.fQ (n:=2) rfl (ĥ (ç (i:=0) xG rfl zQ) (ĥ (ç (i:=1) xG rfl zQ) Wr.dD)))) (λc=>ŏ) (λc=>(Ġ (Á (Ê 0) (Á (Wr.jw (Wr.wpt (ű (Wr.fD hr.units (Ê 3) (Ê 0)) (ť (Wr.fD hr.units (Ê 4) (Ê 0))))) (Wr.cV (Ê 1) (Ê 5)) (Ê 1)) Ä)))))),Gz h ?_⟩;rintro ds P ⟨sp,a,b,rfl,j,q⟩;refine⟨[.sh (gF sp),.im (.int a),.im (.int b),.im (.int 1)],rfl,?_⟩;refine qX sp rwD (λr=>rwD (r.1,if(mb r.1 a&&mb r.1 b)=true then r.2 - 1 else r.2)) .shr rfl () (λr hr A B hA=>⟨rfl,aF (B:=B) ⟨rfl,bZ r.1,?_⟩⟩) ?_
 ·show if(((r.1.map Â).any λe=>ö e (.int a)):Bool)=true then _ else _
  rw[Ŋ];cases d:mb r.1 a with
  |false =>
   rw[show decide (a∈r.1)=false from d];rw[d]at hA;exact aJ (A:=True) (aJ (A:=True) ⟨zK,rfl,hA⟩)
  |true =>
   rw[show decide (a∈r.1)=true from d];refine aF (B:=True) ⟨rfl,bZ r.1,?_⟩;show if(((r.1.map Â).any λe=>ö e (.int b)):Bool)=true then _ else _
   rw[Ŋ];cases g:mb r.1 b with
   |false =>
    rw[show decide (b∈r.1)=false from g];rw[d,g]at hA;exact aJ (A:=True) ⟨zK,rfl,hA⟩
   |true =>
    rw[show decide (b∈r.1)=true from g];rw[d,g]at hA;exact aF (B:=True) ⟨zK,rfl,hA⟩
 ·unfold gF j6 at q;rw[ô]at q;exact q
def sE(F:Fun K ci ci (top 40) f fd)(B:į mg)(h:2∪cr∪[e7,da,bX]∪spD fFE):3∩[e7,da,bX,bu]∩spD fSM:=by
 refine okT F (N:=[e7,da,bX,bu,eS]) zC (λhr nd=>Ï (ñ none (i:=4) nd rfl zQ (ł h hr (Á (Ê 0) (Á (Ê 1) (Á (Ê 2) Ä)))))
  (ð (ÿ (ĩ (Wr.ju (Ī (Á Ð Ä)) (Wr.cV (Ê 3) (İ B.len (Á (Ê 4) Ä)))) (Ê 4))))) ?_
 rintro ds P ⟨n,k,c,d,rfl,g,a,b,l,hu,o,q⟩;refine⟨[.im (.int (~~~n)),.sh (gF (aY n d)),.im (.int (~~~k)),.im (.int (~~~c)),.any],rfl,?_⟩;refine⟨n,k,d,rfl,g,a,b,hu,?_⟩;refine⟨zK,?_⟩;have p:=(Gx (k:=k) g a hu).2.2;have r:n * k<=24:=Ş a b;have e:((c:Int) - (⇑((jC n k (aY n d)).map Â):Int)).toNat=c - ⇑(jC n k (aY n d)):=by rw[À];lia
 refine⟨by rw[À];lia,by rw[À];lia,?_,?_⟩
 ·show 1 * ((c:Int) - (⇑((jC n k (aY n d)).map Â):Int)).toNat<=1000;rw[e];lia
 rw[e];have j:∀m:Nat,(Ë m [Â 0]).flatten=(Ë m (0:Int)).map Â:=λm=>lX m 0;refine .inr ?_;dsimp only;rw[show Ņ (λx:Kd×D=>x.snd) [(Kd.imm,Â 0)]=[Â 0]from rfl,j];refine⟨?_,.inr ⟨rfl,?_⟩⟩
 ·rw[À,À,ė];lia
 ·rw[←Ö];exact q
def vd:(["v",aN,eM,eP,"left",el,"a","b"]:List Str).Nodup:=⋯
def zA(F:Fun K d4 d4 (top 41) f fd)(B:į mg)(p:1∪cw∪[aN,"a","b",dA]∪spD fCB)(r:1∪"tied"∪[aN,"a","b",dA]∪spR fTd):2∩[aN,eM,eP]∩spD fTT:=by
 refine okT F (N:=[aN,eM,eP,"left",el,"a","b"]) zC (λhr nd=>Ï (ñ (some 1) (i:=3) nd rfl zQ (Wr.sZ B.list (Á (Ê 2) Ä)))
  (Ï (ñ (some 0) (i:=4) nd rfl zQ (Ī Ä))
  (Ï (Š ï rfl (Ğ (Ê 1)) (ç (i:=5) nd rfl zQ) (Ï (ñ none (i:=6) nd rfl zQ (ã (Ũ ["v"] rfl (Ğ (Ê 3)) (λc=>(ç (i:=0) vd rfl zQ)) (λc=>(ż (Wr.bG (ł p hr (Á (Ê 1) (Á (Ê 6) (Á (Ê 0) (Á Ð Ä)))))))) (λc=>(Ê 0))) Ð))
  (Ï (ñ none (i:=0) nd rfl zQ (Dl.dcR r hr (Á (Ê 0) (Á (Ê 5) (Á (Ê 6) (Á Ð Ä))))))
  (Ï (Wr.gY (ū 4) (Á (Ġ (Á (Ê 5) (Á (Ê 6) Ä))) Ä))
  (Ï (Wr.q9 (ū 3) (Á (Ê 6) Ä)) (ø [5,6] Ā))))))
  (ø [0,5,6] (ð (ÿ (Ê 4))))))) ?_
 rintro ds P ⟨sp,T,H,rfl,y,u,z,g,q⟩;refine⟨[.sh (gF sp),.sh (iD T),.sh (iD H),.any,.any,.any,.any],rfl,?_⟩;refine .inl ⟨gj H,?_⟩;refine⟨zK,rfl,λ(i:Nat) ρ=>∃(e:Spr)(left:fM)(h:fN),ρ=[.sh (gF e),.sh (iD T),.sh (iD H),.dw 1 (iD left),.dw 0 (.list (h.map pD)),.any,.any]/\⇑e<=600/\⇑left<=100/\⇑h=i/\Ii e (T.drop i) left/\h++ttF e (T.drop i) left=ttF sp T H,⟨sp,H,[],rfl,y,u,rfl,g,rfl⟩,?_,?_⟩
 ·rintro i d ρ hd ⟨e,left,h,rfl,l,C,x,n,k⟩;let⟨a,ha,rfl⟩:=bH hd;have hi:i<⇑T:=(È.mp ha).1;have s:T.drop i=a::T.drop (i+1):=by
   rw[œ hi,(È.mp ha).2]
  rw[s]at n k;let⟨b,hb,n⟩:=n;have m:=List.mem_of_find?_eq_some hb;have o:ttF e (a::T.drop (i+1)) left=(a,b)::ttF (j6 e a b) (T.drop (i+1)) (left.erase b):=by
   show(match left.find? (jT e a)with|some b=>_|none=>_)=_;rw[hb]
  have t:atI ((left.filter (jT e a)).map Â) 0=some (.int b):=by
   have h1:(left.filter (jT e a)).head?=some b:=by rw[List.head?_filter,hb]
   have h2:(left.filter (jT e a))[0]?=some b:=by rw[←List.head?_eq_getElem?];exact h1
   exact cU (j:=0) (by rw[Þ,h2];rfl)
  have lt:⇑(j6 e a b)=⇑e:=À _;have le:=List.length_erase_of_mem m;refine lQ left Â (jT e a) Â .imm rfl () (λv hv A B hA hB=>⟨e,a,v,rfl,l,?_⟩) ?_
  ·show if jT e a v=true then _ else _
   cases c:jT e a v with
   |true=>exact aF (B:=True) ⟨rfl,hA c⟩
   |false=>exact aJ (A:=True) (hB c)
  refine⟨_,t,rfl,e,a,b,rfl,l,zK,rfl,by rw[À];lia,1,left,rfl,m,?_⟩;refine⟨j6 e a b,left.erase b,h++[(a,b)],?_,(),(),by rw[É,á,x],n,by rw[ľ,←k,o];rfl⟩;rw[Ö];rfl
 ·rintro ρ ⟨e,left,h,rfl,_,_,_,_,k⟩;rw[À,List.drop_length]at k;have e0:ttF e [] left=[]:=rfl;rw[e0,í]at k;rw[←k]at q;exact⟨rfl,q⟩
end
def lamOf:YE->VM×YE×YA×Pos
 |.Lambda a b s p=>(a,b,s,p)
 |e=>(⟨[],[],none,[],[],none,[]⟩,e,{ kind:=.function,names:=[],isGenerator:=false,isCoroutine:=false },⟨0,0,0,0⟩)
def Sw:List XB->YE
 |[.Return (some (.Call _ [_,e] _ _)) _]=>e
 |[_,.Return (some (.Call _ _ [k] _)) _]=>k.value
 |_=>.Constant .none 0 ⟨0,0,0,0⟩
def WK(st:XB):VM:=(lamOf (Sw (cu st))).1
def Wz(st:XB):YE:=(lamOf (Sw (cu st))).2.1
def Dt(st:XB):YA:=(lamOf (Sw (cu st))).2.2.1
def lamP(st:XB):Pos:=(lamOf (Sw (cu st))).2.2.2
structure CalA(P:Zg)(w:Zl)(K:Ý)(mg:Str->gf)(k:Nat)(x:Str)(ps:List Str)(sp:Heap->Sp):Prop where
 ex:∃f fd,(∀gy,k∩ps∩sp gy)/\Binds K fd ps []/\W.keepIn K (.ref f)=true/\mg x=some (.ref f)
def bbq:Str:=(cb:Str)++".<locals>."++"<lambda>"
def bpq:Str:=(ba:Str)++".<locals>."++"<lambda>"
abbrev rM(PT:Addr):Pn:=qP PT (lamP (top 38)) bbq
abbrev T6(PT:Addr):Pn:=qP PT (lamP (top 39)) bpq
abbrev d7(P1 P2:Addr):Pn:=(rM P1).plus (T6 P2)
def fBB:FF:=λds P=>∃(n:Nat)(us:fN)(fa:Int)(s:Str),ds=[aC (~~~n) us,.int fa,.str s]/\1<=n/\n<=8/\⇑us<=100/\∀out,oN n (WO us fa s) out->P (.list (out.map iD))
structure PapOk(n:Nat)(us:fN)(fa:Int)(s:Str)(F:fI):Prop where
 side:s=bS\/s=bg
 fam:oN n (WO us fa s) F
 best:∀s':Str,s'=bS\/s'=bg->eV (jl n (WO us fa s')) n (2 ^ n - 1)<=(F.map (WO us fa s)).sum/\(s'=bS->s=bg->eV (jl n (WO us fa s')) n (2 ^ n - 1)<(F.map (WO us fa s)).sum)
def fBP:FF:=λds P=>∃(n:Nat)(us:fN)(fa:Int),ds=[aC (~~~n) us,.int fa]/\1<=n/\n<=8/\⇑us<=100/\0<=fa/\fa<=10/\∀s F,PapOk n us fa s F->P (.tuple [.str s,.list (F.map iD)])
def Ym:FnScope [al,ag,az] [al,ag,az] (au (top 38)):=zC
abbrev aa3(b:Nat):List (Str×Addr):=[(az,b+1+1+1),(al,b+1),(ag,b+1+1)]
def Ui:(al==az)=false:=⋯
def Oa:(al==ag)=false:=⋯
def Uj:(ag==az)=false:=⋯
def Uk:(ag==al)=false:=⋯
def Qy(b:Nat):LamScope [am] [al,ag,az] (Dt (top 38)) (aa3 b):=by
 refine .of rfl rfl rfl ⋯ ⋯ ⋯ ⋯ ?_ ?_
 ·show ∀y∈(Dt (top 38)).names,y.2=.free->y.1∈([az,al,ag]:List Str);decide +kernel
 ·show([b+1+1+1,b+1,b+1+1]:fR).Nodup;simp;lia
def Y6{c PT:Addr}{oc kV F I ct:Value}{od an:gc}{Y:Array gf}(lk:K.lookup f=some ⟨oc,od,.func (W.fnOf cb cb (fY (top 38)) (cu (top 38)) (au (top 38)) .none kV F I an (.ref c) ct),Y⟩)(hcd:W.codeIn K (.ref c) cb=true)(hC:∀h:Heap,K.In h->W.CodeHd h c PT)(hB:gy.BuiltinsAt mg PT)(bp:CalA P w K mg 11 bc [e7,ff] (λgy=>spF P w K mg gy 10 [am] tHF))(bq:∀gy,9∪dy∪[al,ag,az,am]∪spD fON) :
  FnOk P w K mg gy CX0 12 f (W.fnOf cb cb (fY (top 38)) (cu (top 38)) (au (top 38)) .none kV F I an (.ref c) ct) [al,ag,az] (spT (rM PT) fBB):=by
 let⟨fh,fdh,HF,O,T,U⟩:=bp.ex;refine Ph (N:=[al,ag,az]) lk hcd Ym Ac (λA outer s H vs Q E hr h=>?_);let⟨ds,Pd,ti,r,⟨n,u,g,m,rfl,n1,n8,lu,q⟩,k⟩:=h;obtain⟨B,Z,v3,rfl,rw,r2,r3⟩:∃B Z v3,vs=[B,Z,v3]/\Rp (λa=>¬(rM PT).fp a) H B (aC (~~~n) u)/\Rp (λa=>¬(rM PT).fp a) H Z (.int g)/\Rp (λa=>¬(rM PT).fp a) H v3 (.str m):=by
  cases r with
  |cons h1 t=>cases t with
   |cons h2 t=>cases t with
    |cons M t=>cases t;exact⟨_,_,_,rfl,h1,h2,M⟩
 have e2:=r2.int';have e3:=r3.str';subst e2 e3;refine⟨_,PSs.nox (bW (iZ (Fy (X:=(Bf CX0 P w K mg gy [al,ag,az] cb (au (top 38)) f (.ref c) A outer s H E).nox) (x:=bc) (c:=c) (P:=PT) (ys:=[al,ag,az]) (qual:=bbq) HF hr rfl U T O (ã (Ê 0) Ð).h rfl rfl rfl rfl (hC gy) (λ_=>hB) (λ_=>rfl) ?_ ?_))),?_⟩
 ·refine Lf λp hp=>?_;show List.lookup p.1 [(az,↥s+1+1+1),(ag,↥s+1+1),(al,↥s+1)]=some p.2;rcases Õ.mp hp with rfl|hp
  ·exact oG
  ·rcases Õ.mp hp with rfl|hp
   ·exact(rN Ui).trans ((rN Oa).trans oG)
   ·rw[Í.mp hp];exact(rN Uj).trans oG
 ·intro y G;rcases Õ.mp G with rfl|G
  ·exact⟨rfl,_,(rN Ui).trans oG⟩
  ·rcases Õ.mp G with rfl|G
   ·exact⟨rfl,_,(rN Uj).trans ((rN Uk).trans oG)⟩
   ·rw[Í.mp G];exact⟨rfl,_,oG⟩
 have r0:Rp (λ_=>False) H B (aC (~~~n) u):=rw.imm (iU (~~~n) u);have V:∀{base':Heap}{fl c':Addr}{cl:List (Str×Addr)}{I D:Value},base'.get? fl=some (W.kla_obj "<lambda>" bbq (WK (top 38)) (Wz (top 38)) (Dt (top 38)) cl I c' D)->LamScope [am] [al,ag,az] (Dt (top 38)) cl->Caps base' cl [al,ag,az] [B,.int g,.str m] ->
   Hand P w K mg base' 10 fl [am] (λH=>su H c' bbq/\Rp (λ_=>False) H B (aC (~~~n) u)) (fWt n (WO u g m)):=λ{base' fl c' cl I D} e S C=>by
  refine⟨_,Pj (cvs:=[B,.int g,.str m]) e (λ_ _ _ _ h=>h.1.1) S C (λvs H Q E h=>?_) (λA outer s H vs Q E hr h=>?_),⟨_,_,_,_,e⟩,.all λu hl=>?_,λH H' ⟨⟨x,φ,h1,h2⟩,M⟩ sm=>⟨⟨x,φ,sm _ _ h1,h2⟩,M.mono (λ_ o=>o) (λ_ _ o=>o.elim) λa xs h=>sm a _ h⟩⟩
  ·let⟨_,ds,Pd,r,⟨l,rfl,_⟩,_⟩:=h;exact ⇑r
  ·let⟨⟨_,z⟩,ds,Pd2,r,⟨l,rfl,pr,p⟩,kk⟩:=h;obtain⟨L,rfl,r1⟩:∃L,vs=[L]/\Rp (λ_=>True) H L (.list (l.map Â)):=by
    cases r with
    |cons h t=>cases t;exact⟨_,rfl,h⟩
   refine⟨_,(ł (bq base') hr (Á (Ê 1) (Á (Ê 2) (Á (Ê 3) (Á (Ê 0) Ä))))).h,?_⟩;refine⟨fC,H,λ_=>none,[.sh (.list (l.map Â)),.im (aC (~~~n) u),.im (.int g),.im (.str m)],λk d=>d=.int (WO u g m l),?_,?_,λkd d v H' hd A rp=>?_⟩
   ·refine⟨λ_ _ e _=>e,trivial,(λ_ _ e=>(nomatch e)),λi s e=>?_,rfl,trivial⟩;match i,e with
    |0,e=>cases e;exact⟨L,rfl,r1.mono (λ_ _=>⟨λz=>z,rfl⟩) (λ_ _ _ e=>e) λ_ _ e=>e⟩
    |1,e=>cases e;exact⟨B,rfl,z⟩
    |2,e=>cases e;exact⟨.int g,rfl,.int g⟩
    |3,e=>cases e;exact⟨.str m,rfl,.str m⟩
   ·exact⟨~~~n,u,g,m,l,rfl,pr,lu,rfl⟩
   ·subst hd;have:=rp.int';subst this;exact kk _ _ H' p (λb o e=>A.kp b o e λz=>z) (.int _)
  ·obtain⟨_,rfl⟩:∃a,u=[a]:=by
    match u,hl with
    |[a],_=>exact⟨a,rfl⟩
   rfl
 refine⟨fC,H,λ_=>none,[.im (aC (~~~n) u),.im (.int g),.im (.str m)],λk d=>d=.int (~~~n),?_,⟨.int (~~~n),rfl,rfl⟩,λkd d v H1 hd A1 rp=>?_⟩
 ·refine⟨λ_ _ e _=>e,trivial,(λ_ _ e=>(nomatch e)),λi s e=>?_,rfl,trivial⟩;match i,e with
  |0,e=>cases e;exact⟨B,rfl,r0⟩
  |1,e=>cases e;exact⟨.int g,rfl,.int g⟩
  |2,e=>cases e;exact⟨.str m,rfl,.str m⟩
 subst hd;have ev:=rp.int';subst ev;have J:Same H H1:=λb o e=>A1.kp b o e λz=>z;refine⟨(rM PT).mono H H1 ti λb o _ e=>J b o e,[B,.int g,.str m],rfl,λj y v h1 h2=>⟨j,h1,?_⟩,λbase' fl c' H' lam T' kp=>?_⟩
 ·match j,h2 with
  |0,h2=>cases h2;rfl
  |1,h2=>cases h2;rfl
  |2,h2=>cases h2;rfl
 have tp:∀a xs,H a=some (.tup xs)->H' a=some (.tup xs):=λa xs e=>kp a _ (J _ _ e) λz=>by
  let⟨ps,h,_⟩:=ti;rw[z,h]at e;cases e
 have S:=Qy ↥s;let⟨pm',D,R⟩:=lam.fn;refine⟨~~~n,fl,_,_,Pd,rfl,V R S lam.caps,⟨lam.kn,r0.mono (λ_ o=>o) (λ_ _ o=>o.elim) tp⟩,⟨n,WO u g m,rfl,n1,n8,rfl,TF u g m,q⟩,λd v H2 hP sm rp2=>k d v H2 hP (λb o e nb=>sm b o (kp b o (J b o e) nb)) ((rM PT).mono H' H2 T' λb o _ e=>sm b o e) (rp2.mono (λa ha=>?_) (λ_ _ _ e=>e) λ_ _ e=>e)⟩;cases e:H a with
 |none=>rfl
 |some o =>
  by_cases z:a=PT
  ·let⟨ps,h,_⟩:=T';rw[z,h]at ha;cases ha
  ·rw[kp a o (J a o e) z]at ha;cases ha
def TV:FnScope [al,ag,"papers"] [al,ag] (au (top 39)):=zC
abbrev Tt(b:Nat):List (Str×Addr):=[(al,b+1),(ag,b+1+1)]
def Qu(b:Nat):LamScope [eW] [al,ag] (Dt (top 39)) (Tt b):=by
 refine .of rfl rfl rfl ⋯ ⋯ ⋯ ⋯ ?_ ?_
 ·show ∀y∈(Dt (top 39)).names,y.2=.free->y.1∈([al,ag]:List Str);decide +kernel
 ·show([b+1,b+1+1]:fR).Nodup;simp
def Zb:([az,al,ag,"papers"]:List Str).Nodup:=⋯
def Cw(s:Str)(F:fI):D:=.tuple [.str s,.list (F.map iD)]
def W4(a:gg)(b:D)(k:Int):Prop:=∃(n:Nat)(us:fN)(fa:Int)(s:Str)(F:fI),a=[aC (~~~n) us,.int fa]/\b=Cw s F/\1<=n/\n<=8/\⇑us<=100/\0<=fa/\fa<=10/\oN n (WO us fa s) F/\k=(F.map (WO us fa s)).sum
def aag(t:∀gy,10∪cg∪[al,ag,az,cm]∪spD fOB){cvs:List V}{c:Heap}{q p:Addr}{M j:Value}{b:Nat}(e:c.get? q=some (W.kla_obj "<lambda>" bpq (WK (top 39)) (Wz (top 39)) (Dt (top 39)) (Tt b) M p j))(C:Caps c (Tt b) [al,ag] cvs) :
  ∃fd,FnOk P w K mg c CX0 11 q fd [eW] (Vr bpq W4 cvs p)/\Binds K fd [eW] []:=by
 refine⟨_,Pj (cvs:=cvs) e (λ_ _ _ _ h=>h.1) (Qu b) C (λvs H Q E h=>?_) (λA outer s H vs Q E hr h=>?_),.all λg hl=>?_⟩
 ·let⟨_,r,_,_,_,rfl,_⟩:=h;rfl
 ·let⟨Y,r,u,X,k,rfl,R,O,⟨n,g,l,m,F,rfl,rfl,I,J,G,x,y,B,rfl⟩,kk⟩:=h;let⟨U,T,rfl,rw,S⟩:=R.two;refine⟨_,(ł (t c) hr (Á (Ê 1) (Á (Ê 2) (Á (ã (Ê 0) Ð) (Á (ã (Ê 0) Ð) Ä))))).h,?_⟩;let⟨N,L,D⟩:=jD I J B;refine⟨fC,H,λ_=>none,[.sh (Cw m F),.im (aC (~~~n) g),.im (.int l)],λk d=>d=.int (F.map (WO g l m)).sum,?_,?_,λkd d v H' hd A rp=>?_⟩
  ·refine⟨λ_ _ e _=>e,trivial,(λ_ _ e=>(nomatch e)),λi s e=>?_,rfl,trivial⟩;match i,e with
   |0,e=>cases e;exact⟨r,rfl,O.mono (λ_ _=>⟨λz=>z,rfl⟩) (λ_ _ _ e=>e) λ_ _ e=>e⟩
   |1,e=>cases e;exact⟨U,rfl,rw⟩
   |2,e=>cases e;exact⟨T,rfl,S⟩
  ·exact⟨_,rfl,_,rfl,~~~n,g,l,m,F,rfl,(),G,x,y,D,N,L,rfl⟩
  ·subst hd;have:=rp.int';subst this;exact kk H' (λb o e=>A.kp b o e λz=>z)
 ·obtain⟨_,rfl⟩:∃a,g=[a]:=by
   match g,hl with
   |[a],_=>exact⟨a,rfl⟩
  rfl
def QJ{a b:Int}:lW [a,b]=if b > a then 1 else 0:=by
 unfold lW;show(if decide (([a,b]:fM).getD 1 0 > ([a,b]:fM).getD 0 0)=true then 0+1 else 0)=_;by_cases c:b > a
 ·rw[fo c,fo (gz (by exact c))]
 ·rw[fq c];exact fq λz=>c (fk z)
abbrev xBP(P:Zg)(w:Zl)(K:Ý)(mg:Str->gf)(gy:Heap)(f c:Addr)(A:Ys)(outer:List Env)(s:Shared)(H:Hp)(E:XK):Cx:=(Bf CX0 P w K mg gy [al,ag,"papers"] ba (au (top 39)) f (.ref c) A outer s H E).nox
def Y5{c t PT:Addr}{oc kV r I L:Value}{od J:gc}{G:Array gf}(lk:K.lookup f=some ⟨oc,od,.func (W.fnOf ba ba (fY (top 39)) (cu (top 39)) (au (top 39)) .none kV r I J (.ref c) L),G⟩)(hcd:W.codeIn K (.ref c) ba=true)(Y:∀h:Heap,K.In h->W.CodeHd h c PT)(V:gy.BuiltinsAt mg PT)(R:t≠PT)(B:į mg)(T:12∪cb∪[al,ag,az]∪spT (rM t) fBB)(S:∀gy,10∪cg∪[al,ag,az,cm]∪spD fOB) :
  FnOk P w K mg gy CX0 14 f (W.fnOf ba ba (fY (top 39)) (cu (top 39)) (au (top 39)) .none kV r I J (.ref c) L) [al,ag] (spT (d7 t PT) fBP):=by
 refine Ph (N:=[al,ag,"papers"]) lk hcd TV Ac (λA outer s H vs Q E hr h=>?_);have nd:=TV.nd;have U:=T.YM (T2:=T6 PT) (wu R);letI:=grU (d7 t PT);have o:∀{e:YE}{te:DE}{p pos kp:Pos},Wr.WD (xBP P w K mg gy f c A outer s H E) e te->YI [e] (xBP P w K mg gy f c A outer s H E).env=(false,YN e (xBP P w K mg gy f c A outer s H E).env)::YI [] (xBP P w K mg gy f c A outer s H E).env ->
   Wr.WD (xBP P w K mg gy f c A outer s H E) (.Call (.Name "max" p) [e] [⟨some "key",.Lambda (WK (top 39)) (Wz (top 39)) (Dt (top 39)) (lamP (top 39)),kp⟩] pos) (tMX [0,1] W4 te):=λ{e te p pos kp} he hs=>by
  refine⟨PE.wk (Jx (X:=xBP P w K mg gy f c A outer s H E) (c:=c) (P:=PT) (ys:=[al,ag]) (ps:=[eW]) (qual:=bpq) (k:=11) (cl:=Tt ↥s) (spL:=Vr bpq W4) (λcvs base' fl c' I ctv hl e C=>aag S e C) (Room.in1 (hr.mono (show 12<=13 by decide))) hr.hd rfl B.max he.h rfl rfl rfl rfl (Y gy) (λ_=>V) (λ_=>rfl) ?_ ?_ hs) (Sd (wu R) rfl)⟩
  ·refine Lf λp hp=>?_;show List.lookup p.1 [(ag,↥s+1+1),(al,↥s+1)]=some p.2;rcases Õ.mp hp with rfl|hp
   ·exact(rN Oa).trans oG
   ·rw[Í.mp hp];exact oG
  ·intro y F;rcases Õ.mp F with rfl|F
   ·exact⟨rfl,_,oG⟩
   ·rw[Í.mp F];exact⟨rfl,_,(rN Uk).trans oG⟩
 refine⟨_,PSs.nox (Wr.WDSs.h (Ï (Wr.eZ none [az] (i:=2) rfl nd rfl zQ (Ğ (Ġ (Á Wr.eG (Á Wr.eG Ä)))) (λc=>(ç (i:=0) Zb rfl zQ)) (λc=>ŏ) (λc=>(Ġ (Á (Ê 0) (Á (Wr.dcU U hr (Á (Ê 1) (Á (Ê 2) (Á (Ê 0) Ä)))) Ä)))))
  (ð (ÿ (o (Ê 2) rfl))))),PX h ?_⟩
 rintro ds P ⟨n,g,b,rfl,v,D,u,M,O,q⟩;refine⟨[.im (aC (~~~n) g),.im (.int b),.any],sU rfl,?_⟩;refine⟨zK,zK,.new,λi ys=>(i=0/\ys=[])\/(i=1/\∃a,ys=[Cw bS a]/\oN n (WO g b bS) a)\/(i=2/\∃a l,ys=[Cw bS a,Cw bg l]/\oN n (WO g b bS) a/\oN n (WO g b bg) l),.inl ⟨rfl,rfl⟩,?_,?_⟩
 ·rintro i d ys hd Z;have hi:i<2:=(È.mp hd).1;rcases Z with⟨rfl,rfl⟩|⟨rfl,a,rfl,m⟩|⟨rfl,_⟩
  ·cases hd;refine aF (B:=True) ⟨n,g,b,bS,rfl,v,D,u,λout ho=>⟨zK,?_,.inr (.inl ⟨rfl,out,rfl,ho⟩)⟩⟩;rfl
  ·cases hd;refine aF (B:=True) ⟨n,g,b,bg,rfl,v,D,u,λout ho=>⟨zK,?_,.inr (.inr ⟨rfl,a,out,rfl,m,ho⟩)⟩⟩;rfl
  ·lia
 ·rintro ys (⟨z,_⟩|⟨z,_⟩|⟨_,a,l,rfl,m,h1⟩)
  ·exact ft z (show ¬(2:Nat)=0 by decide)
  ·exact ft z (show ¬(2:Nat)=1 by decide)
  refine⟨[Cw bS a,Cw bg l],[(a.map (WO g b bS)).sum,(l.map (WO g b bg)).sum],[aC (~~~n) g,.int b],rfl,rfl,rfl,(show 1<=2 by decide),λj x c hx hc=>?_,λx hx=>?_⟩
  ·match j,hx,hc with
   |0,hx,hc=>cases hx;cases hc;exact⟨n,g,b,bS,a,rfl,rfl,v,D,u,M,O,m,rfl⟩
   |1,hx,hc=>cases hx;cases hc;exact⟨n,g,b,bg,l,rfl,rfl,v,D,u,M,O,h1,rfl⟩
  ·rw[QJ]at hx;by_cases c:(l.map (WO g b bg)).sum > (a.map (WO g b bS)).sum
   ·rw[fo c]at hx;cases hx;refine⟨rfl,q bg l ⟨.inr rfl,h1,λs' hs=>?_⟩⟩;rcases hs with rfl|rfl
    ·rw[←tR m];exact⟨(),λ_ _=>c⟩
    ·rw[←tR h1];exact⟨Ě _,λz=>ft z ⋯⟩
   ·rw[fq c]at hx;cases hx;refine⟨rfl,q bS a ⟨.inl rfl,m,λs' hs=>?_⟩⟩;rcases hs with rfl|rfl
    ·rw[←tR m];exact⟨Ě _,λ_ z=>ft z ⋯⟩
    ·rw[←tR h1];exact⟨(),λ_ z=>ft z ⋯⟩
end
def zj(c:Nat)(l:fM):fM:=Ë (c - ⇑l) 0++l
def hdF(n k:Nat)(a:fN)(c:Nat):fM:=zj c (jC n k (aY n (Cut.di a)))
def tlF(n k:Nat)(a:fN)(c:Nat):fM:=zj c (jC n k (aY n (Cut.dO a)))
def KD(n k:Nat)(a:fN)(c:Nat):fN:=ttF (cM n k a (hdF n k a c) (tlF n k a c)) (tlF n k a c) (hdF n k a c)
def iT{c:Nat}{l:fM}(h:⇑l<=c):⇑(zj c l)=c:=by
 unfold zj;rw[É,ė];lia
def M7(c:Nat)(l:fM)(X:Int->Bool):Cut.mg l X<=Cut.mg (zj c l) X:=by
 unfold zj;rw[oZ];lia
def M6{n c:Nat}{l:fM}(a:1<=n)(h:RgE n l):RgE n (zj c l):=λe he=>by
 rcases Û.mp he with z|z
 ·rw[(ę.mp z).2];lia
 ·exact h e z
def M8{c:Nat}{l:fM}(h:⇑l=c):zj c l=l:=by
 unfold zj;rw[h,Nat.sub_self];rfl
def sumF(b:fN)(a:Int)(s:Str)(F:fI):Nat:=(F.map (WO b a s)).sum.toNat
theorem yw(b:fN)(a:Int)(s:Str):∀F:fI,0<=(F.map (WO b a s)).sum
 |[]=>Ě _
 |l::F=>by
  rw[é,Ė];have:=yw b a s F;have:=TF b a s l;lia
def zq{n k:Nat}{a:fN}{s:Str}{F:fI}(b:1<=n)(f:n<=8)(hu:RgT n a)(h:PapOk n a ((k:Int) - 1) s F) :
  (⇑(jC n k (aY n (Cut.di a)))<=sumF a ((k:Int) - 1) s F/\⇑(jC n k (aY n (Cut.dO a)))<=sumF a ((k:Int) - 1) s F/\sumF a ((k:Int) - 1) s F<=n * k)/\Cut.Fit n k a (hdF n k a (sumF a ((k:Int) - 1) s F)) (tlF n k a (sumF a ((k:Int) - 1) s F))/\Cut.Tgt n k a (hdF n k a (sumF a ((k:Int) - 1) s F)) (tlF n k a (sumF a ((k:Int) - 1) s F)):=by
 let⟨d,_,r⟩:=Gx (k:=k) b f (cD hu).eq;let⟨e,_,lo⟩:=Gx (k:=k) b f (cJ hu).eq;unfold hdF tlF;generalize jC n k (aY n (Cut.di a))=I at d r ⊢;generalize jC n k (aY n (Cut.dO a))=O at e lo ⊢;have v:=yw a ((k:Int) - 1) s F;have t:=(h.best bS (.inl rfl)).1;have u:=(h.best bg (.inr rfl)).1;have es:((sumF a ((k:Int) - 1) s F:Nat):Int)=(F.map (WO a ((k:Int) - 1) s)).sum:=by unfold sumF;lia
 have j:(s=bS->(F.map (WO a ((k:Int) - 1) s)).sum<=(⇑I:Int))/\(s=bg->(F.map (WO a ((k:Int) - 1) s)).sum<=(⇑O:Int)):=⟨λz=>by
  subst z;exact jU b f (cD hu) d.rg d.C h.fam,λz=>by
  subst z;exact jU b f (cJ hu) e.rg e.C h.fam⟩
 generalize sumF a ((k:Int) - 1) s F=c at es ⊢;have o:⇑I<=c:=by
  obtain⟨q,g,i,m|m⟩:=Cut.BR d.rg d.C d.tg (Cut.Qd a) (Cut.Qj a)
  ·have:=iM (k:=k) b f (cD hu) g i;lia
  ·have:=iM (k:=k) b f (cJ hu) g i;lia
 have p:⇑O<=c:=by
  obtain⟨q,g,i,m|m⟩:=Cut.BR e.rg e.C e.tg (Cut.Qi a) (Cut.vR a)
  ·have:=iM (k:=k) b f (cJ hu) g i;lia
  ·have:=iM (k:=k) b f (cD hu) g i;lia
 refine⟨⟨o,p,?_⟩,⟨M6 b d.rg,M6 b e.rg,(iT o).trans (iT p).symm,λX hX=>?_,λX hX=>?_⟩,?_⟩
 ·rcases h.side with z|z
  ·have:=j.1 z;lia
  ·have:=j.2 z;lia
 ·have:=d.C X hX;have:=M7 c I X;unfold dE at *;lia
 ·have:=e.C X hX;have:=M7 c O X;unfold dE at *;lia
 ·rcases h.side with z|z
  ·have:=j.1 z;rw[M8 (c:=c) (l:=I) ()];exact .inl d.tg
  ·have:=j.2 z;rw[M8 (c:=c) (l:=O) ()];exact .inr e.tg
structure OneOk(n k:Nat)(us A:fN)(s:Str)(F:fI):Prop where
 pap:PapOk n us ((k:Int) - 1) s F
 perm:A.Perm (KD n k us (sumF us ((k:Int) - 1) s F))
 so:A.Pairwise λa b=>aK a<=aK b
theorem wZ:∀{c d:fN},(∀t∈c,o8 t)->c.Perm d->c.Pairwise (λa b=>aK a<=aK b)->d.Pairwise (λa b=>aK a<=aK b)->c=d
 |[],d,_,p,_,_=>p.nil_eq
 |a::c,[],_,p,_,_=>ft p.length_eq (by simp)
 |a::c,b::d,hn,p,f,g=>by
  have f:=List.pairwise_cons.mp f;have g:=List.pairwise_cons.mp g;have hb:b∈a::c:=p.mem_iff.mpr Æ;have ha:a∈b::d:=p.mem_iff.mp Æ;have h:aK a<=aK b:=by
   rcases Õ.mp hb with z|z
   ·rw[z];exact Ě _
   ·exact f.1 b z
  have i:aK b<=aK a:=by
   rcases Õ.mp ha with z|z
   ·rw[z];exact Ě _
   ·exact g.1 a z
  have e:a=b:=code_inj (hn a Æ) (hn b hb) ();subst e;rw[wZ (λt ht=>hn t (Ç _ ht)) ((List.perm_cons a).mp p) f.2 g.2]
def fH{n k:Nat}{c A:fN}{s:Str}{F:fI}(f:1<=n)(e:n<=8)(l:k<=3)(hu:RgT n c)(h:OneOk n k c A s F) :
  ⇑A<=24/\(∀t∈A,(0<=t.1/\t.1<(n:Int))/\(0<=t.2/\t.2<(n:Int))/\t.1≠t.2)/\(⇑A:Int)=(F.map (WO c ((k:Int) - 1) s)).sum/\∀X,Cut.Prp n X->k<=Cut.di (c++A) X:=by
 let⟨⟨p,g,q⟩,d,o⟩:=zq f e hu h.pap;let⟨r,u,i,j⟩:=Bw f e _ _ c hu d o;have m:=h.perm.length_eq;have v:n * k<=24:=Ş e l;have w:=yw c ((k:Int) - 1) s F;have es:((sumF c ((k:Int) - 1) s F:Nat):Int)=(F.map (WO c ((k:Int) - 1) s)).sum:=by unfold sumF;lia
 have lt:⇑(tlF n k c (sumF c ((k:Int) - 1) s F))=sumF c ((k:Int) - 1) s F:=iT g;unfold KD at m;refine⟨(),λt ht=>i t (h.perm.mem_iff.mp ht),(),λX hX=>?_⟩;have:=j X hX;rw[qz (a:=c++A) (b:=KD n k c (sumF c ((k:Int) - 1) s F)++c) ((List.perm_append_comm).trans (h.perm.append_right c)) X];exact this
def fOP:FF:=λds P=>∃(n k:Nat)(us:fN),ds=[aC (~~~n) us,.int ((k:Int) - 1)]/\1<=n/\n<=8/\1<=k/\k<=3/\⇑us<=100/\RgT n us/\∀A s F,OneOk n k us A s F->P (.tuple [.list (A.map pD),.str s,.list (F.map iD)])
section
variable{P:Zg}{w:Zl}{K:Ý}{mg:Str->gf}{gy:Heap}{f:Addr}{fd:WS}{CN P1 PT:Addr}
def rK:FnScope [al,ag,eW,bu,bX,"led_in","led_out",eP,eM,aN] [al,ag] (au (top 42)):=zC
def oA:([am,al,ag,eW,bu,bX,"led_in","led_out",eP,eM,aN]:List Str).Nodup:=⋯
abbrev kA4(P w K mg gy):=10∪cg∪[al,ag,az,cm]∪spD fOB
abbrev kA5(P w K mg gy):=2∪cn∪[e7]∪spD fPS
def CG(F:Fun K eK eK (top 42) f fd)(B:į mg)(bv:14∪ba∪[al,ag]∪spT (d7 P1 PT) fBP)(av:kA4 P w K mg gy)(af:kA5 P w K mg gy)(ay:8∪eA∪[al,az,am]∪spD fTB)(aE:3∪ci∪[e7,da,bX,bu]∪spD fSM)(ae:kA3 P w K mg gy)(bE:2∪d4∪[aN,eM,eP]∪spD fTT):15∩[al,ag]∩Lh (d7 P1 PT) fOP:=by
 refine F.ok rK Ox (λcdv A outer s H vs Q E hr h=>?_);have C:=rK.nd;letI:=grU (d7 P1 PT);refine⟨_,ń (Wr.WDS.h (ñ none (i:=2) C rfl zQ (Wr.dcU bv hr (Á (Ê 0) (Á (Ê 1) Ä)))))
  (ń (Wr.WDS.h (ñ none (i:=3) C rfl zQ (ł av hr (Á (Ê 0) (Á (Ê 1) (Á (ã (Ê 2) Ð) (Á (ã (Ê 2) Ð) Ä)))))))
  (ń (Wr.WDS.h (ñ none (i:=4) C rfl zQ (ĩ (Ê 1) Ð)))
  (ń (Wr.WDS.h (Wr.eZ none [am] (i:=5) rfl C rfl zQ (Ğ (ł af hr (Á (ã (Ê 0) Ð) Ä))) (λc=>(ç (i:=0) oA rfl zQ)) (λc=>ŏ) (λc=>(Ġ (Á (Ê 0) (Á (ł ay hr (Á (Ê 1) (Á Wr.eG (Á (Ê 0) Ä)))) Ä))))))
  (ń (Wr.WDS.h (Wr.eZ none [am] (i:=6) rfl C rfl zQ (Ğ (ł af hr (Á (ã (Ê 0) Ð) Ä))) (λc=>(ç (i:=0) oA rfl zQ)) (λc=>ŏ) (λc=>(Ġ (Á (Ê 0) (Á (ł ay hr (Á (Ê 1) (Á Wr.eG (Á (Ê 0) Ä)))) Ä))))))
  (ń (Wr.WDS.h (ñ none (i:=7) C rfl zQ (ł aE hr (Á (ã (Ê 0) Ð) (Á (Ê 5) (Á (Ê 4) (Á (Ê 3) Ä)))))))
  (ń (Wr.WDS.h (ñ none (i:=8) C rfl zQ (ł aE hr (Á (ã (Ê 0) Ð) (Á (Ê 6) (Á (Ê 4) (Á (Ê 3) Ä)))))))
  (ń (Wr.WDS.h (ñ none (i:=9) C rfl zQ (ĩ (Dl.dcR ae hr (Á (Ê 5) (Á (Ê 7) (Á (Ê 4) Ä)))) (Dl.dcR ae hr (Á (Ê 6) (Á (Ê 8) (Á (Ê 4) Ä)))))))
  (bW (iZ (Ms (Į (Wr.WD.h (Wr.iB B.sorted (Á (ł bE hr (Á (Ê 9) (Á (Ê 8) (Á (Ê 7) Ä)))) Ä))) (Į (gD Af (pv 2) Ĳ (λ_ _=>rfl)) (Į (gD Af (pv 2) Ĳ (λ_ _=>rfl)) aW))))))))))))),?_⟩
 let⟨ds,P,pi,r,⟨n,k,j,rfl,x,v,k1,V,W,hu,q⟩,kk⟩:=h;have E0:=jE (p:=d7 P1 PT) (N:=[al,ag,eW,bu,bX,"led_in","led_out",eP,eM,aN]) rfl pi r;have e0:([aC (~~~n) j,Â ((k:Int) - 1)].map bJ++Ë (⇑([al,ag,eW,bu,bX,"led_in","led_out",eP,eM,aN]:List Str) - ⇑vs) Sl.any)=[.im (aC (~~~n) j),.im (.int ((k:Int) - 1)),.any,.any,.any,.any,.any,.any,.any,.any]:=by
  rw[⇑r];show [bJ (aC _ j),_,_,_,_,_,_,_,_,_]=_;rw[dM];rfl
 rw[e0]at E0;have nk:n * k<=24:=Ş v V;refine Ei (Ei (Ei (Ei (Ei (Ei (Ei (Ei (u:=vV) (M:=λρ=>∃s F a b c d e g,PapOk n j ((k:Int) - 1) s F/\ρ=[.im (aC (~~~n) j),.im (.int ((k:Int) - 1)),.sn (Cw s F),a,b,c,d,e,g,.sh (gF (cM n k j (hdF n k j (sumF j ((k:Int) - 1) s F)) (tlF n k j (sumF j ((k:Int) - 1) s F))))]/\e=.sn (iD (hdF n k j (sumF j ((k:Int) - 1) s F)))/\g=.sn (iD (tlF n k j (sumF j ((k:Int) - 1) s F)))) ?last))))))) _ _ _ _ E0 ?read
 case read =>
  refine⟨n,j,(k:Int) - 1,rfl,x,v,W,(),(),λs F y=>?_⟩;let⟨pr,C,ll⟩:=jD x v y.fam;let⟨⟨T,U,a3⟩,D,tg⟩:=zq x v hu y;let⟨g1,g2,g3,g4⟩:=Bw x v _ _ j hu D tg;have nk:n * k<=24:=Ş v V;have nn:=yw j ((k:Int) - 1) s F;have es:(F.map (WO j ((k:Int) - 1) s)).sum=((sumF j ((k:Int) - 1) s F:Nat):Int):=by unfold sumF;lia
  have G:(k:Int) - 1+1=(k:Int):=()
  refine⟨_,rfl,_,rfl,~~~n,j,(k:Int) - 1,s,F,rfl,(),W,(),(),ll,pr,C,?_⟩;have O:∀d:(Int->Bool)->Nat,⇑(aY n d)<=254:=uH x v;have lp:⇑(psN n)<=254:=by have:=O (Cut.di j);unfold aY at this;rw[À]at this;exact this
  have er:∀{d:(Int->Bool)->Nat}{sd:Str},Side n j sd d->Č ((psN n).map λl=>rwD (l,(~~~(byS j sd l))))=gF (aY n d):=λ{d sd} S=>by
   unfold gF aY;rw[ô];congr 1;refine Ĝ λl _=>?_;show rwD (l,_)=rwD (l,_);rw[←S.by_]
  refine⟨_,rfl,n,rfl,x,v,?_⟩;refine qX (psN n) iD (λl=>rwD (l,(~~~(byS j bS l)))) .snw rfl () (λl hl A B hA=>aF (B:=True) ⟨~~~n,j,bS,l,rfl,fK x v hl,W,zK,rfl,hA⟩) ?_;rw[er (cD hu)];refine⟨_,rfl,n,rfl,x,v,?_⟩;refine qX (psN n) iD (λl=>rwD (l,(~~~(byS j bg l)))) .snw rfl () (λl hl A B hA=>aF (B:=True) ⟨~~~n,j,bg,l,rfl,fK x v hl,W,zK,rfl,hA⟩) ?_;rw[er (cJ hu)];refine⟨_,rfl,n,k,sumF j ((k:Int) - 1) s F,Cut.di j,by rw[G,es];rfl,x,v,V,(),(cD hu).eq,T,?_⟩;refine⟨_,rfl,n,k,sumF j ((k:Int) - 1) s F,Cut.dO j,by rw[G,es];rfl,x,v,V,(),(cJ hu).eq,U,?_⟩;have lh:⇑(hdF n k j (sumF j ((k:Int) - 1) s F))=sumF j ((k:Int) - 1) s F:=iT T;have lt:⇑(tlF n k j (sumF j ((k:Int) - 1) s F))=sumF j ((k:Int) - 1) s F:=iT U;refine⟨rfl,aY n (Cut.di j),hdF n k j (sumF j ((k:Int) - 1) s F),(k:Int),by rw[G];rfl,by have:=O (Cut.di j);lia,(),rfl,aY n (Cut.dO j),tlF n k j (sumF j ((k:Int) - 1) s F),(k:Int),by rw[G];rfl,by have:=O (Cut.dO j);lia,(),?_⟩;rw[yC,yC];have L:⇑(cM n k j (hdF n k j (sumF j ((k:Int) - 1) s F)) (tlF n k j (sumF j ((k:Int) - 1) s F)))<=508:=by
   unfold cM aD;rw[É,À,À];lia
  have e9:(aD n k (Cut.di j) (hdF n k j (sumF j ((k:Int) - 1) s F))).map rwD++(aD n k (Cut.dO j) (tlF n k j (sumF j ((k:Int) - 1) s F))).map rwD=(cM n k j (hdF n k j (sumF j ((k:Int) - 1) s F)) (tlF n k j (sumF j ((k:Int) - 1) s F))).map rwD:=by
   unfold cM;rw[Ö]
  refine⟨?_,.inr ?_⟩
  ·rw[←É,e9,À];lia
  rw[e9];exact⟨s,F,_,_,_,_,_,_,y,rfl,rfl,rfl⟩
 case last =>
  rintro own σ H1 ρ E ⟨s,F,a,b,c,d,e,g,y,rfl,rfl,rfl⟩;let⟨⟨T,U,a3⟩,D,tg⟩:=zq x v hu y;let⟨g1,g2,g3,g4⟩:=Bw x v _ _ j hu D tg;have lh:⇑(hdF n k j (sumF j ((k:Int) - 1) s F))=sumF j ((k:Int) - 1) s F:=iT T;have lt:⇑(tlF n k j (sumF j ((k:Int) - 1) s F))=sumF j ((k:Int) - 1) s F:=iT U;have L:⇑(cM n k j (hdF n k j (sumF j ((k:Int) - 1) s F)) (tlF n k j (sumF j ((k:Int) - 1) s F)))<=508:=by
   have O:∀d:(Int->Bool)->Nat,⇑(aY n d)<=254:=uH x v;have lp:⇑(psN n)<=254:=by have:=O (Cut.di j);unfold aY at this;rw[À]at this;exact this
   unfold cM aD;rw[É,À,À];lia
  let⟨v2,J,x2⟩:=E.slot 2 _ rfl;let⟨t2,xs,rfl,Y,rs⟩:=Rp.fj x2;let⟨va,vm,rfl,ra,rm⟩:=rs.two;have ea:=ra.str';subst ea;let⟨m,ys,rfl,om,hm,rms⟩:=Rp.bT rm;refine⟨_,_,own,_,(λkd d=>kd=.new/\∃A,d=.list (A.map pD)/\OneOk n k j A s F),E,?_,λkd d v1 H2 ⟨G,A,ed,ok⟩ A2 r1=>?_⟩
  ·refine⟨cM n k j (hdF n k j (sumF j ((k:Int) - 1) s F)) (tlF n k j (sumF j ((k:Int) - 1) s F)),tlF n k j (sumF j ((k:Int) - 1) s F),hdF n k j (sumF j ((k:Int) - 1) s F),rfl,(),(),(),g1,?_⟩;refine⟨KD n k j (sumF j ((k:Int) - 1) s F),.inl rfl,by unfold KD;lia,λt ht=>?_,λA hp hs=>⟨rfl,A,rfl,⟨y,hp,hs⟩⟩⟩;have:=g3 t ht;exact⟨(),()⟩
  ·subst G ed;let⟨l,zs,rfl,X,hl,rls⟩:=Rp.bT r1;have X:H1 l=none:=X;have I:=A2.tups t2 _ Y;refine⟨_,J,t2,_,_,_,rfl,rfl,SqT.of I,rfl,_,J,t2,_,_,_,rfl,rfl,SqT.of I,rfl,(by show 3<=sizeLine;decide),λp' hp'=>?_⟩;have nm:l≠m:=λz=>by
    rw[z,hm]at X;cases X
   have Z:Same H2 (upd H2 p' (.tup [.ref l,.str s,.ref m])):=λb o e=>by rw[ao (aA e hp')];exact e
   have R:At (d7 P1 PT) H own H1 (upd H2 p' (.tup [.ref l,.str s,.ref m])):=A2.go (Kp.of Z) ((d7 P1 PT).mono H2 _ A2.pen λb o _ e=>Z b o e);refine kk _ _ _ (q A s F ok) (λb o e nb=>R.kp b o (E.k0 b o e nb) nb) R.pen (.tup aq (.cons ((j8 A2 (Kp.of Z) r1).mono (λb o=>A2.h0 o) (λ_ _ _ e=>e) λ_ _ e=>e) (.cons (.str s) (.cons (rm.mono (λb o=>o.1) (λb u o e=>R.kp b u e o.2.1) R.tups) .nil)))) ⟨p',l,m,.str s,rfl,aq,nm⟩
def swp(t:Tie):Tie:=(t.2,t.1)
def W0(a:fN)(l:fM):inN (a.map swp) l=JB a l:=by
 unfold inN JB;rw[List.filter_map,À];congr 1;refine List.filter_congr λt _=>?_;show(!decide (t.2∈l)&&decide (t.1∈l))=(decide (t.1∈l)&&!decide (t.2∈l))
 exact Bool.and_comm _ _
def tlD(b:Bool)(a:fN):D:=match b with
 |false=>.tuple (a.map pD)
 |true=>.list (a.map pD)
def Uy:FF:=λds P=>∃(b:Bool)(us:fN)(l:fM),ds=[tlD b us,.list (l.map Â)]/\⇑us<=100/\P (.int (inN us l:Nat))
def zO(a:fN):okD (.list (a.map pD))=true:=by
 have b:=OJ a;have c:=Ef a;show(ũ (a.map pD)&&decide (PyData.depthAll (a.map pD)+1<=60))=true;rw[b,gz ()];rfl
def Hz{n:Nat}(a:1<=n)(b:n<=8):pss n=psN n:=(Rg a).symm
def ZP:FF:=λds P=>∃(n:Int)(us:fN)(fa:Int)(s:Str)(l:fM),ds=[aC n us,.int fa,.str s,.list (l.map Â)]/\⇑us<=100/\(s=bS\/s=bg)/\P (.int (WO us fa s l))
def wL:(["_law_tie",ax,aw]:List Str).Nodup:=⋯
def CK(F:Fun K d5 d5 (top 63) f fd)(B:į mg):1∩[ax,aw]∩spD Uy:=by
 refine okT F (N:=[ax,aw]) zC (λhr nd=>ð (ÿ (İ B.len (Á (Ũ ["_law_tie"] rfl (Ğ (Ê 0)) (λc=>(ç (i:=0) wL rfl zQ)) (λc=>(ż (Wr.wpt (ű (Wr.qQ hr.units (ã (Ê 0) Ð) (Ê 2)) (ť (Wr.fD hr.units (ã (Ê 0) Ð) (Ê 2))))))) (λc=>(Ê 0))) Ä)))) ?_;rintro ds P ⟨b,a,l,rfl,hl,q⟩;have im:gO (.tuple (a.map pD))=true:=dz a;cases b with
 |false =>
  refine⟨[.im (.tuple (a.map pD)),.sh (.list (l.map Â))],?_,?_⟩
  ·show [bJ (.tuple (a.map pD)),bJ (.list (l.map Â))]=_;unfold bJ;rw[fo im];rfl
  refine lQ a pD (Ag l) pD .imm rfl () (λt ht A B hA hB=>⟨.int t.1,rfl,rfl,bZ l,?_⟩) ?_
  ·show if(!((l.map Â).any λe=>ö e (.int t.1)))=true then _ else _
   rw[Ŋ];unfold Ag at hA hB;cases h1:decide (t.1∈l)with
   |true =>
    rw[h1]at hB;exact aJ (A:=True) (aJ (A:=True) (hB rfl))
   |false =>
    rw[h1]at hA hB;refine aF (B:=True) ⟨.int t.2,rfl,rfl,bZ l,?_⟩;show if((l.map Â).any λe=>ö e (.int t.2))=true then _ else _
    rw[Ŋ];cases hb:decide (t.2∈l)with
    |true =>
     rw[hb]at hA;exact aF (B:=True) ⟨rfl,hA rfl⟩
    |false =>
     rw[hb]at hB;exact aJ (A:=True) (hB rfl)
  ·refine⟨rfl,?_⟩;show P (.int (⇑((a.filter (Ag l)).map pD):Nat));rw[À];exact q
 |true =>
  refine⟨[.sh (.list (a.map pD)),.sh (.list (l.map Â))],rfl,?_⟩;refine lQ a pD (Ag l) pD .imm rfl () (λt ht A B hA hB=>⟨.int t.1,rfl,rfl,bZ l,?_⟩) ?_
  ·show if(!((l.map Â).any λe=>ö e (.int t.1)))=true then _ else _
   rw[Ŋ];unfold Ag at hA hB;cases h1:decide (t.1∈l)with
   |true =>
    rw[h1]at hB;exact aJ (A:=True) (aJ (A:=True) (hB rfl))
   |false =>
    rw[h1]at hA hB;refine aF (B:=True) ⟨.int t.2,rfl,rfl,bZ l,?_⟩;show if((l.map Â).any λe=>ö e (.int t.2))=true then _ else _
    rw[Ŋ];cases hb:decide (t.2∈l)with
    |true =>
     rw[hb]at hA;exact aF (B:=True) ⟨rfl,hA rfl⟩
    |false =>
     rw[hb]at hB;exact aJ (A:=True) (hB rfl)
  ·refine⟨rfl,?_⟩;show P (.int (⇑((a.filter (Ag l)).map pD):Nat));rw[À];exact q
def oE:([be,ca,ac,ah,d6,aw,ax]:List Str).Nodup:=⋯
def CJ(F:Fun K ee ee (top 64) f fd)(B:į mg)(h:1∪d5∪[ax,aw]∪spD Uy):2∩[ac,ah,d6,aw]∩spD ZP:=by
 refine okT F (N:=[ac,ah,d6,aw,ax]) zC (λhr nd=>Ï (ñ none (i:=4) nd rfl zQ (ã (Ê 0) Ð))
  (Ï (Ő (Wr.fV hr.units (Ê 2) Wr.eG) (ð (Wr.eZ none [be,ca] (i:=4) rfl nd rfl zQ (Ğ (ã (Ê 0) Ð)) (λc=>(Wr.fQ (n:=2) rfl (ĥ (ç (i:=0) oE rfl zQ) (ĥ (ç (i:=1) oE rfl zQ) Wr.dD)))) (λc=>ŏ) (λc=>(Ġ (Á (Ê 1) (Á (Ê 0) Ä)))))) Ā)
  (ð (ÿ (Wr.jL rfl B.max (Á Ð (Á (Wr.cV (ĩ (Ê 1) Ð) (ł h hr (Á (Ê 4) (Á (Ê 3) Ä)))) Ä))))))) ?_
 rintro ds P ⟨n,a,b,s,l,rfl,g,hs,q⟩;refine⟨[.im (aC n a),.im (.int b),.im (.str s),.sh (.list (l.map Â)),.any],sU rfl,?_⟩;have d:(if b+1 - (~~~(byS a s l)) > 0 then b+1 - (~~~(byS a s l))else 0)=WO a b s l:=by
  unfold WO nd1;split <;> split <;> lia
 refine⟨_,rfl,d9 (λc=>?_) (λc=>?_)⟩
 ·have c:s=bg:=fk c;refine⟨_,rfl,?_⟩;refine qX a pD (λt=>pD (swp t)) .imm rfl () (λt ht A B hA=>⟨rfl,aF (B:=B) ⟨zK,rfl,hA⟩⟩) ?_;refine⟨true,a.map swp,l,by show [Č (a.map λt=>pD (swp t)),_]=[Č ((a.map swp).map pD),_];rw[ô];rfl,by rw[À];exact g,rfl,?_⟩;have e:inN (a.map swp) l=byS a s l:=by
   unfold byS;rw[W0,c,fq ⋯]
  rw[e];show P (.int (if b+1 - (~~~(byS a s l)) > 0 then b+1 - (~~~(byS a s l))else 0));rw[d];exact q
 ·have c:s≠bg:=λz=>c (gz z);refine⟨false,a,l,rfl,g,rfl,?_⟩;have e:inN a l=byS a s l:=by
   unfold byS;rcases hs with z|z
   ·rw[z,fo rfl]
   ·exact ft z c
  rw[e];show P (.int (if b+1 - (~~~(byS a s l)) > 0 then b+1 - (~~~(byS a s l))else 0));rw[d];exact q
def GdN(n:Nat)(A:fN):Prop:=∀t∈A,(0<=t.1/\t.1<(n:Int))/\(0<=t.2/\t.2<(n:Int))/\t.1≠t.2
def XH(A:fN):Prop:=A.Pairwise λa b=>aK a<=aK b
def QC(n:Int)(F:fI):Prop:=(∀l∈F,Proper n l)/\F.flatten.Nodup
def GdN.rg{n:Nat}{A:fN}(h:GdN n A):RgT n A:=λt ht=>by have:=h t ht;exact⟨⟨(),()⟩,(),()⟩
def GdN.nice{n:Nat}{A:fN}(h:GdN n A)(a:n<=8):∀t∈A,o8 t:=λt ht=>by have:=h t ht;exact⟨(),()⟩
def ZR:FF:=λds P=>∃(n:Nat)(t:Tie),ds=[.int (~~~n),pD t]/\((0<=t.1/\t.1<(n:Int))/\(0<=t.2/\t.2<(n:Int))/\t.1≠t.2)/\P (.bool true)
def Z4:FF:=λds P=>∃(n:Nat)(us A:fN),ds=[aC (~~~n) us,.list (A.map pD)]/\n<=8/\Srt A/\GdN n A/\∀b:Bool,(b=true↔XH A)->P (.bool b)
def ZJ:FF:=λds P=>∃(n:Nat)(us vs:fN),ds=[aC (~~~n) us,.list (vs.map pD)]/\⇑us+⇑vs<64/\n<=16/\RgT n us/\RgT n vs/\∀ws:fN,ws.Perm (us++vs)->P (aC (~~~n) ws)
def Uw:FF:=λds P=>∃s:Str,ds=[.str s]/\(s=bS\/s=bg)/\P (.bool true)
def ZM:FF:=λds P=>∃(n:Nat)(us:fN)(fa:Int),ds=[aC (~~~n) us,.int fa]/\1<=n/\n<=8/\⇑us<=100/\RgT n us/\∀b:Bool,(b=true↔∀X,Cut.Prp n X->fa<(~~~(Cut.di us X)))->P (.bool b)
def ZQ:FF:=λds P=>∃(n:Nat)(us A:fN)(fa:Int)(s:Str)(F:fI),ds=[aC (~~~n) us,.int fa,.list (A.map pD),.str s,.list (F.map iD)]/\1<=n/\n<=8/\0<=fa/\fa<=10/\⇑us+⇑A<64/\RgT n us/\⇑F<=60/\(s=bS\/s=bg)/\GdN n A/\XH A/\QC (~~~n) F /\
 ∀b:Bool,(b=true↔(⇑A:Int)<=(F.map (WO us fa s)).sum/\∀X,Cut.Prp n X->fa<(~~~(Cut.di (us++A) X)))->P (.bool b)
def JQ(F:Fun K fc fc (top 6) f fd)(B:į mg)(a:2∪du∪[cK,ap]∪spD Gy):3∩[e7,ap]∩spD ZR:=by
 refine okT F (N:=[e7,ap]) zC (λhr nd=>Ï (Ő (Wr.wpt (Wr.jc (Wr.cF (Wr.bG (Wr.cZ kit_tuple B.isinstance (Ê 1) (Wr.wty rfl B.tuple boot_tuple)))) (Wr.gG (Wr.fU hr.units (İ B.len (Á (Ê 1) Ä)) Ð)))) (ð (ÿ Wr.gb)) Ā)
  (ð (ÿ (Wr.je (ł a hr (Á (Ê 0) (Á (ã (Ê 1) Ð) Ä))) (Wr.je (ł a hr (Á (Ê 0) (Á (ã (Ê 1) Ð) Ä))) (Wr.jK (Wr.yW hr.units (ã (Ê 1) Ð) (ã (Ê 1) Ð)))))))) ?_
 rintro ds P ⟨n,t,rfl,ht,q⟩;refine⟨[.im (.int (~~~n)),.im (pD t)],rfl,?_⟩;refine aJ (A:=True) (aJ (A:=True) ⟨.int t.1,rfl,_,_,rfl,?_⟩);have bl:∀x:Int,0<=x->x<(n:Int)->dW (~~~n) (.int x)=true:=λx h0 h1=>by
  show(decide _)=true;exact gz ⟨h0,h1⟩
 show if dW (~~~n) (.int t.1)=true then _ else _
 rw[bl _ () ()];refine aF (B:=True) ⟨.int t.2,rfl,_,_,rfl,?_⟩;show if dW (~~~n) (.int t.2)=true then _ else _
 rw[bl _ () ()];refine aF (B:=True) ⟨.int t.1,rfl,.int t.2,rfl,rfl,?_⟩;show P (.bool (!decide (t.1=t.2)));rw[fi ()];exact q
def zx(F:Fun K ef ef (top 7) f fd)(B:į mg):1∩[cc,el]∩spD ZJ:=by
 refine okT F (N:=[cc,el]) zC (λhr nd=>ð (ÿ (Ġ (Á (ã (Ê 0) Ð) (Á (Wr.gJ B.tuple (Á (Wr.iB B.sorted (Á (ĩ (ã (Ê 0) Ð) (Wr.gJ B.tuple (Á (Ê 1) Ä))) Ä)) Ä)) Ä))))) ?_;rintro ds P ⟨n,a,vs,rfl,h,g,b,c,q⟩;refine⟨[.im (aC (~~~n) a),.sh (.list (vs.map pD))],?_,?_⟩
 ·show [bJ (aC _ a),bJ (.list (vs.map pD))]=_;rw[dM];rfl
 have d:∀xs:fN,⇑(xs.map pD)=⇑xs:=λxs=>À ..;have ok:RgT n (a++vs):=λt ht=>(Û.mp ht).elim (b t) (c t);refine⟨.int (~~~n),rfl,.tuple (a.map pD),rfl,by rw[d,d];lia,a++vs,.inr ?_,by rw[É];lia,λt ht=>?_,λws hp hs=>⟨zK,?_,q ws hp⟩⟩
 ·rw[Ö]
 ·have:=ok t ht;exact⟨(),()⟩
 ·have e:=iU (~~~n) ws;show(norm _ (aC (~~~n) ws)).le .n0=true;rw[iC e];rfl
def vo:([eD,cc,ap]:List Str).Nodup:=⋯
def zM(F:Fun K eg eg (top 49) f fd)(B:į mg)(j:3∪fc∪[e7,ap]∪spD ZR):4∩[cc,ap]∩spD Z4:=by
 refine okT F (N:=[cc,ap]) zC (λhr nd=>Ï (Ő (Wr.wpt (Wr.jc (Wr.cF (Wr.bG (Wr.cZ vH B.isinstance (Ê 1) (Wr.wty rfl B.list SZ)))) (Wr.gG (Wr.cF (Wr.bG (Wr.kJ rfl B.all Dl.boot_all (Á (Ũ [eD] rfl (Ğ (Ê 1)) (λc=>(ç (i:=0) vo rfl zQ)) (λc=>ŏ) (λc=>(ł j hr (Á (ã (Ê 1) Ð) (Á (Ê 0) Ä))))) Ä))))))) (ð (ÿ Wr.gb)) Ā)
  (ð (ÿ (Wr.yZ hr.units (Wr.pR B.sorted (Á (Ê 1) Ä)) (Ê 1))))) ?_
 rintro ds P ⟨n,l,A,rfl,d,b,a,q⟩;refine⟨[.im (aC (~~~n) l),.sh (.list (A.map pD))],sU rfl,?_⟩;have k:=b.lt;refine aJ (A:=True) ?_;refine qX A pD (λ_=>.bool true) .imm rfl () (λt ht A' B hA=>aF (B:=B) ⟨_,rfl,n,t,rfl,a t ht,rfl,hA⟩) ?_;refine⟨A.map λ_=>true,by rw[ô];rfl,?_⟩;have g:(A.map λ_=>true).all id=true:=Ċ.mpr λx hx=>by
  let⟨_,_,rfl⟩:=è.mp hx;rfl
 show if(!(A.map λ_=>true).all id)=true then _ else _
 rw[g];refine aJ (A:=True) ⟨A,.inl rfl,b,a.nice d,λws hp hs=>?_⟩;refine⟨zO ws,zO A,rfl,?_⟩;show P (.bool (ö (.list (ws.map pD)) (.list (A.map pD))));rw[Td];refine q _ ⟨λh=>?_,λh=>gz (wZ (a.nice d) hp.symm h hs).symm⟩;have e:ws=A:=fk h;rw[←e];exact hs
def Ga(F:Fun K eQ eQ (top 52) f fd)(B:į mg)(a:mg "str"=none):1∩[ap]∩spD Uw:=by
 refine okT F (N:=[ap]) zC (λhr nd=>ð (ÿ (Wr.je (Wr.cZ Sy B.isinstance (Ê 0) (Wr.wty rfl a Dl.boot_str)) (Wr.jK (Wr.Cu hr.units (Ê 0) (Ġ (Á Wr.eG (Á Wr.eG Ä)))))))) ?_;rintro ds P ⟨s,rfl,hs,q⟩;refine⟨[.im (.str s)],rfl,?_⟩;rcases hs with rfl|rfl
 ·have e:([PyData.str bS,PyData.str bg].any λe=>ö e (.str bS))=true:=⋯
  refine aF (B:=True) ⟨zK,⋯,⋯,rfl,?_⟩;show P (.bool ([PyData.str bS,PyData.str bg].any λe=>ö e (.str bS)));rw[e];exact q
 ·have e:([PyData.str bS,PyData.str bg].any λe=>ö e (.str bg))=true:=⋯
  refine aF (B:=True) ⟨zK,⋯,⋯,rfl,?_⟩;show P (.bool ([PyData.str bS,PyData.str bg].any λe=>ö e (.str bg)));rw[e];exact q
def wH(F:Fun K dn dn (top 51) f fd)(B:į mg)(k:kA5 P w K mg gy)(m:kA2 P w K mg gy):10∩[al,ag]∩spD ZM:=by
 refine okT F (N:=[al,ag,am]) zC (λhr nd=>Ï (Š ï rfl (Ğ (ł k hr (Á (ã (Ê 0) Ð) Ä))) (ç (i:=2) nd rfl zQ) (Ï (Ő (Wr.iz (ł m hr (Á (Ê 0) (Á (Ê 1) (Á Wr.eG (Á (Ê 2) Ä))))) Ð) (ð (ÿ Wr.gb)) Ā) (ø [2] Ā)))
  (ø [2] (ð (ÿ Wr.gb)))) ?_
 rintro ds P ⟨n,b,a,rfl,j,g,o,hu,q⟩;refine⟨[.im (aC (~~~n) b),.im (.int a),.any],sU rfl,?_⟩;have e0:∀l,nd1 a (byS b bS l) > 0↔¬a<(~~~(inN b l)):=λl=>by
  unfold nd1 byS;rw[fo rfl];split <;> lia
 refine⟨.int (~~~n),rfl,n,rfl,j,g,?_⟩;refine⟨rfl,λ(i:Nat) ρ=>∃h,ρ=[.im (aC (~~~n) b),.im (.int a),h]/\∀l∈(psN n).take i,a<(~~~(inN b l)),⟨_,rfl,λl hl=>(nomatch hl)⟩,?_,?_⟩
 ·rintro i d ρ hd ⟨h,rfl,e⟩;let⟨l,hl,rfl⟩:=bH hd;have p:=Î hl;have hp:=fK j g p;refine⟨n,b,a,bS,l,rfl,hp,o,d9 (λc=>?_) (λc=>⟨_,rfl,λl' hl'=>?_⟩)⟩
  ·have c:0<nd1 a (byS b bS l):=fk c;refine⟨rfl,q false ⟨λz=>(nomatch z),λz=>ft ?_ ((e0 l).mp c)⟩⟩;have:=z _ (yR hp);rw[Dv]at this;exact this
  ·rw[Ē,hl]at hl';rcases Û.mp hl' with z|z
   ·exact e l' z
   ·have z:l'=l:=↑z
    rw[z];apply ù;intro r;exact c (gz ((e0 l).mpr r))
 ·rintro ρ ⟨h,rfl,e⟩;rw[À,þ]at e;refine⟨rfl,q true ⟨λ_ X hX=>?_,λ_=>rfl⟩⟩;have:=e _ (vA g hX);rw[←Dv,(cD hu).eq λv hv=>fL hv]at this;exact this
def uZ(F:Fun K cy cy (top 53) f fd)(B:į mg)(k:kA1 P w K mg gy)(o:1∪eQ∪[ap]∪spD Uw)(p:4∪eg∪[cc,ap]∪spD Z4)(r:10∪dn∪[al,ag]∪spD ZM)(u:1∪ef∪[cc,el]∪spD ZJ)(m:kA4 P w K mg gy):11∩[al,ag,el,az,cm]∩spD ZQ:=by
 refine okT F (N:=[al,ag,el,az,cm]) zC (λhr nd=>Ï (Ő (Wr.wpt (Wr.jc (Wr.cF (Wr.bG (ł p hr (Á (Ê 0) (Á (Ê 2) Ä))))) (Wr.jc (Wr.cF (Wr.bG (ł o hr (Á (Ê 3) Ä)))) (Wr.gG (Wr.cF (Wr.bG (ł k hr (Á (ã (Ê 0) Ð) (Á (Ê 4) Ä))))))))) (ð (ÿ Wr.gb)) Ā)
  (ð (ÿ (Wr.je (Wr.MP (İ B.len (Á (Ê 2) Ä)) (ł m hr (Á (Ê 0) (Á (Ê 1) (Á (Ê 3) (Á (Ê 4) Ä)))))) (Wr.jK (ł r hr (Á (ł u hr (Á (Ê 0) (Á (Ê 2) Ä))) (Á (Ê 1) Ä)))))))) ?_
 rintro ds P ⟨n,d,A,g,s,F,rfl,D,j,x,C,H,hu,i,hs,h,G,a,q⟩;refine⟨[.im (aC (~~~n) d),.im (.int g),.sh (.list (A.map pD)),.im (.str s),.sh (.list (F.map iD))],sU rfl,?_⟩;have E:∀l∈F,⇑l<=16:=λl hl=>by have:=(a.1 l hl).few;have:=(a.1 l hl).one;lia
 refine⟨n,d,A,rfl,j,.inl (),h,λb hb=>?_⟩;obtain rfl:b=true:=hb.mpr G;refine aJ (A:=True) ⟨s,rfl,hs,aJ (A:=True) ?_⟩;refine⟨.int (~~~n),rfl,~~~n,.list (F.map iD),rfl,λes e=>?_,(),?_⟩
 ·cases e;refine⟨by rw[À];exact i,λe he=>?_⟩;let⟨l,hl,rfl⟩:=è.mp he;intro es v;cases v;rw[À];have:=E l hl;lia
 rw[Ip a.1 a.2];refine aJ (A:=True) ⟨~~~n,d,g,s,F,rfl,(),(),x,C,i,a.1,a.2,?_⟩;show if decide ((⇑(A.map pD):Int)<=(F.map (WO d g s)).sum)=true then _ else _
 rw[À];by_cases c:(⇑A:Int)<=(F.map (WO d g s)).sum
 ·rw[gz c];refine aF (B:=True) ⟨n,d,A,rfl,(),(),hu,h.rg,λws hp=>⟨n,ws,g,rfl,D,j,by rw[hp.length_eq,É];lia,λt ht=>(Û.mp (hp.mem_iff.mp ht)).elim (hu t) (h.rg t),λb hb=>⟨rfl,q b ?_⟩⟩⟩;refine hb.trans ⟨λz=>⟨c,λX hX=>?_⟩,λz X hX=>?_⟩
  ·have:=z X hX;rw[qz hp]at this;exact this
  ·rw[qz hp];exact z.2 X hX
 ·rw[fi c];exact aJ (A:=True) ⟨rfl,q false ⟨λy=>(nomatch y),λz=>ft z.1 c⟩⟩
end
inductive Rt(us:fN):Int->Int->Prop
 |refl (a:Int):Rt us a a
 |step {a b c:Int} (h:Rt us a b) (t:(b,c)∈us):Rt us a c
def Rt.trans{d:fN}{a b c:Int}(h:Rt d a b)(k:Rt d b c):Rt d a c:=by
 induction k with
 |refl=>exact h
 |step _ t e=>exact .step e t
def Vi(c:fN):Nat->Int->Int->Prop
 |0,a,b=>a=b\/(a,b)∈c
 |k+1,a,b=>Vi c k a b\/(Vi c k a (~~~k)/\Vi c k (~~~k) b)
open Classical in
def RB(c:fN)(a b:Nat):Bool:=decide (Rt c (~~~a) (~~~b))
def jj{c:fN}{a b:Nat}:RB c a b=true↔Rt c (~~~a) (~~~b):=by
 classical
 unfold RB;exact decide_eq_true_iff
def ug(b:fN)(a:Nat):RB b a a=true:=jj.mpr (.refl _)
def Hs{c vs:fN}(h:∀a b,(a,b)∈c->(b,a)∈vs){a b:Int}(r:Rt c a b):Rt vs b a:=by
 induction r with
 |refl=>exact .refl _
 |step _ t d=>exact(Rt.step (.refl _) (h _ _ t)).trans d
def bM(R:Nat->Nat->Bool)(n a:Nat):fR:=(Ø n).filter λb=>R a b&&R b a
def jW(R:Nat->Nat->Bool)(n a:Nat):Bool:=decide ((bM R n a).head?=some a)
def zI(l:fR):fM:=l.map λi:Nat=>0+(~~~i)
def fu(R:Nat->Nat->Bool)(n k:Nat):fI:=(((Ø n).take k).filter (jW R n)).map λa=>zI (bM R n a)
def Qp{R c:Nat->Nat->Bool}{n:Nat}(h:∀a b,a<n->b<n->(R a b&&R b a)=(c a b&&c b a))(k:Nat):fu R n k=fu c n k:=by
 have m:∀a,a<n->bM R n a=bM c n a:=λa ha=>List.filter_congr λb hb=>h a b ha (ò.mp hb);unfold fu;have d:∀a∈(Ø n).take k,a<n:=λa ha=>ò.mp (List.mem_of_mem_take ha);have e:((Ø n).take k).filter (jW R n)=((Ø n).take k).filter (jW c n):=List.filter_congr λa ha=>by unfold jW;rw[m a (d a ha)]
 rw[e];exact Ĝ λa ha=>by rw[m a (d a (â.mp ha).1)]
def HS{R:Nat->Nat->Bool}{n a:Nat}(hs:R a a=true)(ha:a<n):bM R n a≠[]:=by
 have:a∈bM R n a:=â.mpr ⟨ò.mpr ha,by rw[hs];rfl⟩;exact List.ne_nil_of_mem this
def Od(R:Nat->Nat->Bool)(n a:Nat):⇑(bM R n a)<=n:=by
 have:=Ŕ (λb=>R a b&&R b a) (Ø n);rw[ā]at this;exact this
def Je(R:Nat->Nat->Bool)(n k:Nat):⇑(fu R n k)<=n:=by
 unfold fu;rw[À];have h1:=Ŕ (jW R n) ((Ø n).take k);rw[Ĺ,ā]at h1;lia
def Qn(R:Nat->Nat->Bool){n k:Nat}(h:k<n):fu R n (k+1)=fu R n k++if jW R n k=true then [zI (bM R n k)]else []:=by
 unfold fu;have e:(Ø n).take (k+1)=(Ø n).take k++[k]:=by
  rw[Ē,List.getElem?_range h];rfl
 rw[e,List.filter_append,Ö];cases a:jW R n k <;> simp[a]
def Xz{α:Type}{l:List α}{i:Nat}{x:α}(h:l[i]?=some x):atI l (0+~~~i)=some x:=by
 rw[Ŏ];exact cU h
structure StepsOk(n:Nat)(us:fN)(S:List fN):Prop where
 len:⇑S=n
 rng:∀ts∈S,∀t∈ts,0<=t.1/\t.1<n
 few:∀ts∈S,⇑ts<=100
 is:∀(a:Nat)(ts:fN),S[a]?=some ts->∀b,(∃t∈ts,t.1=b)↔(~~~a,b)∈us
def stD(S:List fN):D:=.list (S.map λts=>.list (ts.map pD))
def Px:FF:=λds P=>∃n us,ds=[aC n us]/\0<=n/\n<=16/\⇑us<=60/\cT n us/\∀S,StepsOk n.toNat us S->P (stD S)
def Ir:FF:=λds P=>∃n us S a,ds=[stD S,.int a]/\n<=16/\StepsOk n us S/\0<=a/\a<n/\∀m:IM,sS m=true->(∀x,bV m x=true↔Rt us a x)->P (.dict (kvD m))
def Z0:FF:=λds P=>∃n us,ds=[aC n us]/\1<=n/\n<=16/\⇑us<=60/\cT n us/\P (.list ((fu (RB us) n.toNat n.toNat).map iD))
def rP(S:List fN):List gg:=S.map λts=>ts.map pD
def Vq(S:List fN):Č ((rP S).map Č)=stD S:=by
 unfold rP stD;rw[ô];rfl
structure StepsTo(n:Nat)(us:fN)(k:Nat)(S:List fN):Prop where
 len:⇑S=n
 rng:∀ts∈S,∀t∈ts,0<=t.1/\t.1<n
 few:∀ts∈S,⇑ts<=k
 is:∀(a:Nat)(ts:fN),S[a]?=some ts->∀b,(∃t∈ts,t.1=b)↔(~~~a,b)∈us.take k
def StepsTo.next{n:Nat}{c:fN}{k:Nat}{S:List fN}(h:StepsTo n c k S){t:Tie}(ht:c[k]?=some t)(ok:(0<=t.1/\t.1<n)/\0<=t.2/\t.2<n){l:fN}(hl:S[t.1.toNat]?=some l)(x:Int):StepsTo n c (k+1) (S.set t.1.toNat (l++[(t.2,x)])):=by
 have hm:=Î hl;have d:=(È.mp hl).1;have tk:c.take (k+1)=c.take k++[t]:=by rw[Ē,ht];rfl
 refine⟨by rw[List.length_set];exact h.len,λts hts u hu=>?_,λts hts=>?_,λa ts ha b=>?_⟩
 ·rcases List.mem_or_eq_of_mem_set hts with z|rfl
  ·exact h.rng ts z u hu
  ·rcases Û.mp hu with z|z
   ·exact h.rng l hm u z
   ·rw[Í.mp z];exact ok.2
 ·rcases List.mem_or_eq_of_mem_set hts with z|rfl
  ·have:=h.few ts z;lia
  ·have:=h.few l hm;rw[É,á];lia
 ·rw[tk,Û,List.mem_singleton];by_cases e:t.1.toNat=a
  ·subst e;rw[ğ d]at ha;cases ha;have q:=h.is _ l hl b;rw[Int.toNat_of_nonneg ok.1.1]at q ⊢;constructor
   ·rintro⟨u,hu,e⟩;rcases Û.mp hu with z|z
    ·exact .inl (q.mp ⟨u,z,e⟩)
    ·rw[Í.mp z]at e;right;rw[←e]
   ·rintro(z|z)
    ·let⟨u,hu,e⟩:=q.mpr z;exact⟨u,ċ _ hu,e⟩
    ·refine⟨(t.2,x),î _ (Í.mpr rfl),?_⟩;have:b=t.2:=fv Prod.snd z;exact this.symm
  ·rw[Ň e]at ha;rw[h.is a ts ha b];refine⟨.inl,λz=>z.elim id λz=>ft (fv Prod.fst z) λw=>e ?_⟩;have w:(~~~a)=t.1:=w;lia
def bD(m:IM):fM:=m.map (·.1)
def Ai{m:IM}{k:Int}:bV m k=true↔k∈bD m:=by
 unfold bV bD;rw[Ŷ,è];constructor
 ·rintro⟨p,hp,e⟩;exact⟨p,hp,fk e⟩
 ·rintro⟨p,hp,e⟩;exact⟨p,hp,gz e⟩
def W3{m:IM}{k:Int}(h:bV m k=false):k∉bD m:=λz=>by rw[Ai.mpr z]at h;cases h
def yM{m:IM}{k:Int}{d:D}(h:bV m k=false):jq m k d=m++[(k,d)]:=by
 unfold jq;rw[h];rfl
def N7{n:Nat}{l:fM}(a:l.Nodup)(h:∀x∈l,0<=x/\x<n):⇑l<=n:=by
 induction n generalizing l with
 |zero=>cases l with
  |nil=>exact Ì _
  |cons x l=>have:=h x (Æ ..);lia
 |succ n ih =>
  by_cases e:(~~~n)∈l
  ·have z:=ih (a.erase (~~~n)) λx hx=>by
    have:=h x (List.mem_of_mem_erase hx);have:x≠(~~~n):=(a.mem_erase_iff.mp hx).1;lia
   rw[List.length_erase_of_mem e]at z;lia
  ·have z:=ih a λx hx=>by
    have:=h x hx;have:x≠(~~~n):=λw=>e (w ▸ hx);lia
   lia
structure Sr(n:Nat)(us:fN)(a:Int)(m:IM)(open':Int->Prop):Prop where
 im:sS m=true
 nd:(bD m).Nodup
 rng:∀x∈bD m,0<=x/\x<n
 st:a∈bD m
 rt:∀x∈bD m,Rt us a x
 cl:∀x∈bD m,open' x\/∀b,(x,b)∈us->b∈bD m
def Sr.few{n:Nat}{b:fN}{a:Int}{m:IM}{o:Int->Prop}(h:Sr n b a m o):⇑m<=n:=by
 have:=N7 h.nd h.rng;unfold bD at this
 rwa [À]at this
theorem Sr.all{n:Nat}{b:fN}{a:Int}{m:IM}(h:Sr n b a m λ_=>False):∀x,bV m x=true↔Rt b a x:=λx=>by
 rw[Ai];refine⟨h.rt x,λr=>?_⟩;induction r with
 |refl=>exact h.st
 |step r t c=>exact(h.cl _ c).elim ĺ λz=>z _ t
def Sr.add{n:Nat}{f:fN}{a x c:Int}{m:IM}{o o':Int->Prop}(h:Sr n f a m o)(i:x∈bD m)(t:(x,c)∈f)(hc:0<=c/\c<n)(g:bV m c=false){d:D}(hd:gO d=true)(k:∀y,o y->o' y)(j:o' c):Sr n f a (jq m c d) o':=by
 have kk:bD (m++[(c,d)])=bD m++[c]:=by unfold bD;rw[Ö];rfl
 rw[yM g];refine⟨?_,?_,?_,?_,?_,?_⟩
 ·have:=h.im;unfold sS at this ⊢;rw[List.all_append,this];show(true&&(gO d&&true))=true;rw[hd];rfl
 ·rw[kk];exact List.nodup_append.mpr ⟨h.nd,by simp,λy e z hz=>by rw[Í.mp hz];rintro rfl;exact W3 g e⟩
 ·rw[kk];intro y e;rcases Û.mp e with z|z
  ·exact h.rng y z
  ·rw[Í.mp z];exact hc
 ·rw[kk];exact ċ _ h.st
 ·rw[kk];intro y e;rcases Û.mp e with z|z
  ·exact h.rt y z
  ·rw[Í.mp z];exact .step (h.rt x i) t
 ·rw[kk];intro y e;rcases Û.mp e with z|z
  ·exact(h.cl y z).imp (k y) λq b hb=>ċ _ (q b hb)
  ·rw[Í.mp z];exact .inl j
def Sr.wk{n:Nat}{c:fN}{a:Int}{m:IM}{o o':Int->Prop}(h:Sr n c a m o)(f:∀x∈bD m,o x->o' x\/∀b,(x,b)∈c->b∈bD m):Sr n c a m o' :=
 ⟨h.im,h.nd,h.rng,h.st,h.rt,λx hx=>(h.cl x hx).elim (f x hx) .inr⟩
section
variable{P:Zg}{w:Zl}{K:Ý}{mg:Str->gf}{gy:Heap}{f:Addr}{fd:WS}
def jZ:([ei,al,em,ck,eD]:List Str).Nodup:=⋯
def nO(F:Fun K bh bh (top 9) f fd)(B:į mg)(m:mg "enumerate"=none):1∩[al]∩spD Px:=by
 refine okT F (N:=[al,em,ck,eD]) zC (λhr nd=>Ï (Wr.qx 0 [ei] (i:=1) rfl nd rfl zQ (ő B.range (Á (ã (Ê 0) Ð) Ä)) (λc=>(ç (i:=0) jZ rfl zQ)))
  (Ï (Š ï rfl (Wr.Az m (Á (ã (Ê 0) Ð) Ä)) (Wr.fQ (n:=2) rfl (ĥ (ç (i:=2) nd rfl zQ) (ĥ (ç (i:=3) nd rfl zQ) Wr.dD))) (Ï (Wr.nC (ū 1) (ã (Ê 3) Ð) (Á (Ġ (Á (ã (Ê 3) Ð) (Á (Ê 2) Ä))) Ä)) (ø [2,3] Ā)))
  (ø [2,3] (ð (ÿ (Ê 1)))))) ?_
 rintro ds P ⟨n,g,rfl,u,o,s,ok,q⟩;refine⟨[.im (aC n g),.any,.any,.any],?_,?_⟩
 ·show [bJ (aC n g),.any,.any,.any]=_;rw[dM]
 refine⟨.int n,rfl,⟨(),()⟩,by rw[Ĭ];lia,rfl,?_⟩;rw[Ĭ];refine⟨.tuple (g.map pD),rfl,rfl,λ(i:Nat) ρ=>∃S,ρ=[.im (aC n g),.rw 0 (rP S),.any,.any]/\StepsTo n.toNat g i S,?_,?_,?_⟩
 ·refine⟨Ë n.toNat [],?_,ė ..,λts h=>?_,λts h=>?_,λa ts h b=>?_⟩
  ·unfold rP;rw[List.map_replicate];rfl
  ·rw[(ę.mp h).2];exact λt ht=>nomatch ht
  ·rw[(ę.mp h).2];exact Ì _
  ·rw[(ę.mp (Î h)).2];exact⟨λ⟨t,ht,_⟩=>(nomatch ht),λz=>nomatch z⟩
 ·rintro i d ρ hd ⟨S,rfl,T⟩;rw[nA,Þ]at hd;obtain⟨t,ht,rfl⟩:∃t,g[i]?=some t/\PyData.tuple [.int (~~~i),pD t]=d:=by
   cases e:g[i]? with
   |none=>rw[e]at hd;cases hd
   |some t=>rw[e]at hd;exact⟨t,rfl,ß hd⟩
  let⟨⟨k,v⟩,p,x⟩:=ok t (Î ht);have hi:=(È.mp ht).1;have j:t.1.toNat<⇑S:=by rw[T.len];lia
  have hl:=Å j;generalize S[t.1.toNat]=l at hl;have r:=T.few l (Î hl);refine⟨rfl,.int t.1,rfl,t.1.toNat,l.map pD,?_,by unfold rP;rw[Þ,hl];rfl,.int t.2,rfl,zK,rfl,by rw[À];lia,S.set t.1.toNat (l++[(t.2,~~~i)]),?_,T.next ht ⟨⟨k,()⟩,p,()⟩ hl _⟩
  ·unfold ixN rP;rw[fo k,fo (by rw[À,T.len];lia)]
  ·have e:(rP S).set t.1.toNat (l.map pD++[PyData.tuple [.int t.2,.int (~~~i)]])=rP (S.set t.1.toNat (l++[(t.2,~~~i)])):=by
    unfold rP;rw[List.map_set,Ö];rfl
   rw[←e];rfl
 ·rintro ρ ⟨S,rfl,T⟩;rw[gW,À]at T;refine⟨rfl,?_⟩;show P (.list ((rP S).map Č));rw[Vq];refine q S ⟨T.len,T.rng,λts h=>by have:=T.few ts h;lia,λa ts h b=>?_⟩;have z:=T.is a ts h b;rw[þ]at z;exact z
def JD(F:Fun K fe fe (top 10) f fd)(B:į mg):1∩[em,"start"]∩spD Ir:=by
 refine okT F (N:=[em,"start","came","row","later",ei,"step"]) zC (λhr nd=>Ï (ñ (some 0) (i:=2) nd rfl zQ (Wr.uV (Ê 1) Wr.FN))
  (Ï (ñ none (i:=3) nd rfl zQ (Ī (Á (Ê 1) Ä)))
  (Ï (Wr.lY ï (Wr.yS (Ê 3)) (Ï (ñ (some 1) (i:=4) nd rfl zQ (Ī Ä))
  (Ï (Š ï rfl (Ğ (Ê 3)) (ç (i:=5) nd rfl zQ) (Ï (Š ï rfl (Ğ (ã (Ê 0) (Ê 5))) (ç (i:=6) nd rfl zQ) (Ï (Ő (Wr.dN hr.units (ã (Ê 6) Ð) (Ê 2)) (Ï (Wr.nF hr.units (ū 2) (ã (Ê 6) Ð) (Ġ (Á (Ê 5) (Á (ã (Ê 6) Ð) Ä))))
  (ð (Wr.gY (ū 4) (Á (ã (Ê 6) Ð) Ä)))) Ā) (ø [6] Ā))) (ø [5,6] Ā)))
  (ø [5,6] (Wr.Aw 4 (Ï (ñ none (i:=3) nd rfl zQ (Ê 4)) (ø [4,5,6] Ā)))))))
  (ø [3,4,5,6] (ð (ÿ (Ê 2))))))) ?_
 rintro ds P ⟨n,O,S,a,rfl,Y,ok,a0,a1,q⟩;refine⟨[.sh (stD S),.im (.int a),.any,.any,.any,.any,.any],rfl,?_⟩;refine⟨rfl,zK,?_⟩;refine⟨λV ρ=>∃(m:IM)(row:fM),ρ=[.sh (stD S),.im (.int a),.dw 0 (.dict (kvD m)),.sn (iD row),.any,.any,.any]/\Sr n O a m (·∈row)/\(∀x∈row,x∈bD m)/\V=2 * (n - ⇑m)+(if row=[]then 0 else 1),⟨_,[(a,.none)],[a],rfl,?_,?_,rfl⟩,?_⟩
 ·refine⟨rfl,by simp[bD],λx k=>?_,by simp[bD],λx k=>?_,λx k=>.inl ?_⟩
  ·have e:x=a:=by simpa[bD]using k
   lia
  ·have e:x=a:=by simpa[bD]using k
   rw[e];exact .refl _
  ·have e:x=a:=by simpa[bD]using k
   rw[e];exact Í.mpr rfl
 ·intro x k;rw[Í.mp k];simp[bD]
 rintro V ρ ⟨m,R,rfl,h,hr,rfl⟩;show if(!(R.map Â).isEmpty)=true then _ else _
 cases J:R with
 |nil =>
  refine aJ (A:=True) ⟨rfl,q m h.im (Sr.all (h.wk λx _ k=>?_))⟩;rw[J]at k;cases k
 |cons x0 R0 =>
  refine aF (B:=True) ?_;rw[←J];refine⟨∅,rfl,λ(i:Nat) ρ=>∃(D:IM)(c:fM),ρ=[.sh (stD S),.im (.int a),.dw 0 (.dict (kvD D)),.sn (iD R),.dw 1 (iD c),.any,.any]/\Sr n O a D (λy=>y∈c\/y∈R.drop i)/\(∀y∈R,y∈bD D)/\(∀y∈c,y∈bD D)/\⇑D=⇑m+⇑c,⟨m,[],rfl,h.wk λx _ k=>.inl (.inr k),hr,λy H=>(nomatch H),rfl⟩,?_,?_⟩
  ·rintro i d ρ hd ⟨D,c,rfl,h',G,E,p⟩;let⟨y,H,rfl⟩:=bH hd;have yk:=G y (Î H);have yr:=h'.rng y yk;have L:y.toNat<⇑S:=by rw[ok.len];lia
   have hl:=Å L;generalize S[y.toNat]=ts at hl;have fl:=ok.few ts (Î hl);have M:=ok.is _ ts hl;rw[show(~~~y.toNat)=y by lia]at M;have X:R.drop i=y::R.drop (i+1):=by
    have hi:=(È.mp H).1;rw[œ hi,(È.mp H).2]
   have I:atI (S.map λts=>Č (ts.map pD)) y=some (.list (ts.map pD)):=by
    have:=cU (xs:=S.map λts=>Č (ts.map pD)) (j:=y.toNat) (v:=.list (ts.map pD)) (by rw[Þ,hl];rfl)
    rwa [show(~~~y.toNat)=y by lia]at this
   refine⟨.list (ts.map pD),I,rfl,λ(j:Nat) ρ=>∃(l:IM)(c:fM),ρ=[.sh (stD S),.im (.int a),.dw 0 (.dict (kvD l)),.sn (iD R),.dw 1 (iD c),.im (.int y),.any]/\Sr n O a l (λz=>(z∈c\/z∈R.drop (i+1))\/z=y)/\(∀y∈R,y∈bD l)/\(∀y∈c,y∈bD l)/\⇑l=⇑m+⇑c/\∀t∈ts.take j,t.1∈bD l,⟨D,c,rfl,h'.wk λz _ r=>.inl ?_,G,E,p,λt ht=>(nomatch ht)⟩,?_,?_⟩
   ·rcases r with r|r
    ·exact .inl (.inl r)
    ·rw[X]at r;rcases Õ.mp r with e|e
     ·exact .inr e
     ·exact .inl (.inr e)
   ·rintro j d ρ hd ⟨l,c,rfl,h2,s,o,g,C⟩;let⟨t,ht,rfl⟩:=bH hd;have tk:ts.take (j+1)=ts.take j++[t]:=by rw[Ē,ht];rfl
    have W:=Î ht;have Z:=ok.rng ts (Î hl) t W;have U:=h2.few;refine⟨.int t.1,rfl,l,rfl,?_⟩;show if(!bV l t.1)=true then _ else _
    cases hb:bV l t.1 with
    |true =>
     refine aJ (A:=True) ⟨l,c,rfl,h2,s,o,g,λu hu=>?_⟩;rw[tk]at hu;rcases Û.mp hu with z|z
     ·exact C u z
     ·rw[Í.mp z];exact Ai.mp hb
    |false =>
     have kk:bD (jq l t.1 (.tuple [.int y,.int t.2]))=bD l++[t.1]:=by
      rw[yM hb];unfold bD;rw[Ö];rfl
     have ll:⇑(c.map Â)=⇑c:=À ..;refine aF (B:=True) ⟨.int t.2,rfl,zK,.int t.1,rfl,l,rfl,rfl,h2.im,(),.int t.1,rfl,rfl,(),jq l t.1 (.tuple [.int y,.int t.2]),c++[t.1],?_,h2.add (x:=y) (s y (Î H)) ((M t.1).mp ⟨t,W,rfl⟩) Z hb rfl (λz r=>?_) (.inl (.inl (î _ (Í.mpr rfl)))),λz r=>?_,λz r=>?_,?_,λu hu=>?_⟩
     ·unfold iD;rw[Ö];rfl
     ·rcases r with(z|z)|z
      ·exact .inl (.inl (ċ _ z))
      ·exact .inl (.inr z)
      ·exact .inr z
     ·rw[kk];exact ċ _ (s z r)
     ·rw[kk];rcases Û.mp r with z|z
      ·exact ċ _ (o _ z)
      ·rw[Í.mp z];exact î _ (Í.mpr rfl)
     ·rw[yM hb,É,É,g];show ⇑m+⇑c+1=⇑m+(⇑c+1)
      lia
     ·rw[kk];rw[tk]at hu;rcases Û.mp hu with z|z
      ·exact ċ _ (C u z)
      ·rw[Í.mp z];exact î _ (Í.mpr rfl)
   ·rintro ρ ⟨l,c,rfl,h2,s,o,g,C⟩;rw[À,þ]at C;refine⟨l,c,rfl,h2.wk λz r hz'=>?_,s,o,g⟩;rcases hz' with Q|Q
    ·exact .inl Q
    ·right;intro b hb;rw[Q]at hb;let⟨t,ht,e⟩:=(M b).mpr hb;rw[←e];exact C t ht
  ·rintro ρ ⟨D,c,rfl,h',G,E,p⟩;rw[À]at h';have T:=h'.few;refine⟨rfl,2 * (n - ⇑D)+(if c=[]then 0 else 1),?_,D,c,rfl,h'.wk λx _ k=>.inl ?_,E,rfl⟩
   ·rw[fq (show ¬R=[] by rw[J];exact λz=>nomatch z)];by_cases e:c=[]
    ·subst e;rw[fo rfl];have p:⇑D=⇑m+0:=p;lia
    ·rw[fq e];have:=Ŵ.mpr e;lia
   ·rcases k with k|k
    ·exact k
    ·rw[List.drop_length]at k;cases k
structure Jn(N:Nat)(us:fN)(k:Nat)(D:Nat->Nat->Prop)(f:Nat->Nat->Bool):Prop where
 snd:∀a b,a<N->b<N->f a b=true->Rt us (~~~a) (~~~b)
 lo:∀a b,a<N->b<N->Vi us k (~~~a) (~~~b)->f a b=true
 hi:∀a b,a<N->b<N->D a b->Vi us (k+1) (~~~a) (~~~b)->f a b=true
structure Rch(us:fN)(i:Nat)(ys:gg):Prop where
 len:⇑ys=i
 is:∀(j:Nat)(d:D),ys[j]?=some d->∃m:IM,d=.dict (kvD m)/\∀x,bV m x=true↔Rt us (~~~j) x
def Rch.snoc{a:fN}{i:Nat}{ys:gg}(h:Rch a i ys){m:IM}(hm:∀x,bV m x=true↔Rt a (0+~~~i) x):Rch a (i+1) (ys++[.dict (kvD m)]):=by
 refine⟨by rw[É,h.len];rfl,λj d hj=>?_⟩;rw[List.getElem?_append,h.len]at hj;split at hj
 ·exact h.is j d hj
 ·rename_i hn;by_cases e:j=i
  ·subst e;rw[Nat.sub_self]at hj;cases hj;rw[Ŏ]at hm;exact⟨m,rfl,hm⟩
  ·obtain⟨k,hk⟩:∃k,j - i=k+1:=⟨j - i - 1,()⟩
   rw[hk]at hj;cases hj
def Rch.at{a:fN}{i:Nat}{ys:gg}(h:Rch a i ys){j:Nat}(c:j<i):∃m:IM,atI ys (0+~~~j)=some (.dict (kvD m))/\∀b:Nat,bV m (0+~~~b)=RB a j b:=by
 have hl:j<⇑ys:=by rw[h.len];exact c
 let⟨m,e,hm⟩:=h.is j _ (Å hl);refine⟨m,Xz (by rw[Å hl,e]),λb=>?_⟩;rw[Ŏ,ă,hm,jj]
def Wo(R:Nat->Nat->Bool)(N i:Nat):Č (((Ø N).filter λb=>R i b&&R b i).map λb:Nat=>Â (0+~~~b))=iD (zI (bM R N i)):=by
 unfold iD zI bM;rw[ô];rfl
def S7{R:Nat->Nat->Bool}{N i x:Nat}{l:fR}(h:bM R N i=x::l):jW R N i=decide ((0+~~~x)=0+~~~i):=by
 unfold jW;rw[h];show decide (some x=some i)=_;rw[ă,decide_eq_true_iff,decide_eq_true_iff];constructor
 ·intro e;cases e;rfl
 ·intro e;have:x=i:=()
  rw[this]
def zX:([ei,al,em,"reached","told","","mine"]:List Str).Nodup:=⋯
def zV:(["other",al,em,"reached","told",ei,"mine"]:List Str).Nodup:=⋯
def Gb(F:Fun K eR eR (top 46) f fd)(B:į mg)(y:1∪bh∪[al]∪spD Px)(z:1∪fe∪[em,"start"]∪spD Ir):2∩[al]∩spD Z0:=by
 refine okT F (N:=[al,em,"reached","told",ei,"mine"]) zC (λhr nd=>Ï (ñ none (i:=1) nd rfl zQ (ł y hr (Á (Ê 0) Ä)))
  (Ï (ñ none (i:=2) nd rfl zQ (Wr.uU [ei] [al,em,"reached","told","","mine"] rfl (ő B.range (Á (ã (Ê 0) Ð) Ä)) (λc=>(ç (i:=0) zX rfl zQ)) (λc=>ŏ) (λc=>(ł z hr (Á (Ê 2) (Á (Ê 0) Ä)))) (hk:=rfl)))
  (Ï (ñ (some 0) (i:=3) nd rfl zQ (Ī Ä))
  (Wr.Qa 3 true (Ï (Š ï rfl (ő B.range (Á (ã (Ê 0) Ð) Ä)) (ç (i:=4) nd rfl zQ) (Ï (Wr.eZ none ["other"] (i:=5) rfl nd rfl zQ (ő B.range (Á (ã (Ê 0) Ð) Ä)) (λc=>(ç (i:=0) zV rfl zQ)) (λc=>(ż (Wr.wpt (ű (Wr.mW hr.units (Ê 0) (ã (Ê 3) (Ê 5))) (ť (Wr.mW hr.units (Ê 5) (ã (Ê 3) (Ê 0)))))))) (λc=>(Ê 0)))
  (Ï (Ő (Wr.fV hr.units (ã (Ê 5) Ð) (Ê 4)) (ð (Wr.Ax (ū 3) (Á (Ê 5) Ä))) Ā) (ø [4,5] Ā))))
  (ø [4,5] (ð (ÿ (Ê 3))))))))) ?_
 rintro ds P ⟨n,a,rfl,E,r,D,ok,q⟩;refine⟨[.im (aC n a),.any,.any,.any,.any,.any],?_,?_⟩
 ·show [bJ (aC n a),.any,.any,.any,.any,.any]=_;rw[dM]
 refine⟨n,a,rfl,(),r,D,ok,λS hS=>⟨.int n,rfl,⟨(),()⟩,?_⟩⟩;refine⟨by rw[Ĭ];lia,.new,λi ys=>Rch a i ys,⟨rfl,λj d h=>nomatch h⟩,?_,?_⟩
 ·intro i d ys hd h;let⟨hi,rfl⟩:=ŕ hd;exact aF (B:=True) ⟨n.toNat,a,S,_,rfl,(),hS,(),(),λm im hm=>⟨rfl,h.snoc hm⟩⟩
 intro v k;rw[Ĭ]at k;refine⟨zK,rfl,.int n,rfl,⟨(),()⟩,rfl,λ(i:Nat) ρ=>ρ=[.im (aC n a),.sn (stD S),.sn (.list v),.sp 0 true ((fu (RB a) n.toNat i).map iD),.any,.any],rfl,?_,?_⟩
 ·rintro i d ρ hd rfl;let⟨hi,rfl⟩:=ŕ hd;refine⟨.int n,rfl,⟨(),()⟩,lQ (Ø n.toNat) (λb:Nat=>.int (0+~~~b)) (λb=>RB a i b&&RB a b i) (λb:Nat=>.int (0+~~~b)) .imm rfl (by rw[ā];lia) ?_ ?_⟩
  ·intro b hb A B h1 h2;have hb:=ò.mp hb;let⟨m,e,hm⟩:=k.at hi;let⟨t,C,o⟩:=k.at hb;refine⟨_,e,m,rfl,?_⟩;show if bV m (0+~~~b)=true then _ else _
   rw[hm b];cases s:RB a i b with
   |false=>exact aJ (A:=True) (aJ (A:=True) (h2 (by rw[s];rfl)))
   |true =>
    refine aF (B:=True) ⟨_,C,t,rfl,?_⟩;show if bV t (0+~~~i)=true then _ else _
    rw[o i];cases u:RB a b i with
    |false=>exact aJ (A:=True) (h2 (by rw[s,u];rfl))
    |true=>exact aF (B:=True) ⟨rfl,h1 (by rw[s,u];rfl)⟩
  ·rw[Wo];have p:=HS (ug a i) hi;cases hm:bM (RB a) n.toNat i with
   |nil=>exact ft hm p
   |cons x l =>
    have g:=Qn (RB a) hi;rw[S7 hm,hm]at g;have hl:=Je (RB a) n.toNat i;refine⟨.int (0+~~~x),cU (j:=0) rfl,?_⟩;show if decide ((0+~~~x)=0+~~~i)=true then _ else _
    cases hd:decide ((0+~~~x)=0+~~~i)with
    |true =>
     rw[hd,fo rfl]at g;refine aF (B:=True) ⟨rfl,by rw[À];lia,?_⟩;show([_,_,_,Sl.sp 0 true ((fu (RB a) n.toNat i).map iD++[iD (zI (x::l))]),_,_]:List Sl)=[_,_,_,Sl.sp 0 true ((fu (RB a) n.toNat (i+1)).map iD),_,_]
     rw[g,Ö];rfl
    |false =>
     rw[hd,fq Ù,í]at g;refine aJ (A:=True) ?_;show([_,_,_,Sl.sp 0 true ((fu (RB a) n.toNat i).map iD),_,_]:List Sl)=[_,_,_,Sl.sp 0 true ((fu (RB a) n.toNat (i+1)).map iD),_,_]
     rw[g]
 ·rintro ρ rfl;rw[Ĭ];exact⟨rfl,q⟩
def Qo(R:Nat->Nat->Bool)(N k:Nat):∀l∈fu R N k,⇑l<=N:=by
 intro l hl;unfold fu at hl;let⟨a,_,rfl⟩:=è.mp hl;unfold zI;rw[À];exact Od R N a
def Qq{c vs:fN}(h1:∀a b,(a,b)∈c->(b,a)∈vs)(h2:∀a b,(a,b)∈vs->(b,a)∈c)(N k:Nat):fu (RB vs) N k=fu (RB c) N k:=by
 have e:∀a b,RB vs a b=RB c b a:=λa b=>by
  rw[ă,jj,jj];exact⟨Hs h2,Hs h1⟩
 refine Qp (λa b _ _=>?_) k;rw[e a b,e b a,Bool.and_comm]
def lU(p:Int×D)(m:IM)(x:Int):nR (p::m) x=if p.1=x then some p.2 else nR m x:=by
 unfold nR;rw[Œ];by_cases h:p.1=x
 ·rw[fo h,gz h];rfl
 ·rw[fq h,fi h]
def Dy(p:Int×D)(m:IM)(x:Int):bV (p::m) x=(decide (p.1=x) || bV m x):=rfl
theorem get_map(k:Int)(d:D)(x:Int):∀m:IM,nR (m.map λp=>if p.1=k then(p.1,d)else p) x=if k=x/\bV m k=true then some d else nR m x
 |[]=>by
  rw[fq (λz=>nomatch z.2)];rfl
 |p::m=>by
  rw[é,lU,lU,get_map k d x m,Dy];by_cases h1:p.1=k
  ·rw[fo h1,gz h1];by_cases h2:k=x
   ·rw[fo (by rw[←h2];exact h1),fo ⟨h2,rfl⟩]
   ·rw[fq (λz=>h2 (h1 ▸ z)),fq (λz=>h2 z.1),fq (λz=>h2 z.1),fq (λz=>h2 (h1 ▸ z))]
  ·rw[fq h1,fi h1,Bool.false_or];by_cases h2:k=x
   ·have b:¬p.1=x:=λz=>h1 (z.trans h2.symm);rw[fq b,fq b]
   ·have a:¬(k=x/\bV m k=true):=λz=>h2 z.1;rw[fq a,fq a]
theorem Ik(k:Int)(d:D)(x:Int):∀m:IM,bV m k=false->nR (m++[(k,d)]) x=if k=x then some d else nR m x
 |[],_=>by
  show nR ((k,d)::[]) x=_;rw[lU]
 |p::m,h=>by
  rw[Dy,Bool.or_eq_false_iff]at h;rw[List.cons_append,lU,Ik k d x m h.2,lU];have h1:¬p.1=k:=of_decide_eq_false h.1;by_cases h2:k=x
  ·rw[fo h2,fo h2,fq (λz=>h1 (z.trans h2.symm))]
  ·rw[fq h2,fq h2]
def Ij(m:IM)(k:Int)(d:D)(x:Int):nR (jq m k d) x=if k=x then some d else nR m x:=by
 unfold jq;by_cases h:bV m k=true
 ·rw[fo h,get_map];by_cases h2:k=x
  ·rw[fo ⟨h2,h⟩,fo h2]
  ·rw[fq (λz=>h2 z.1),fq h2]
 ·rw[fq h,Ik k d x m ↑h]
def Ih(m:IM)(k:Int)(d:D)(x:Int):bV (jq m k d) x=(bV m x || decide (k=x)):=by
 unfold jq;by_cases h:bV m k=true
 ·rw[fo h];have e:bV (m.map λp=>if p.1=k then(p.1,d)else p) x=bV m x:=by
   unfold bV;rw[List.any_map];congr 1;funext p;show decide ((if p.1=k then(p.1,d)else p).1=x)=_;split <;> rfl
  rw[e];by_cases h2:k=x
  ·rw[←h2,h];rfl
  ·rw[fi h2,Bool.or_false]
 ·rw[fq h];unfold bV;rw[List.any_append];simp
def yO(m:IM)(k:Int)(d:D):⇑(jq m k d)<=⇑m+1:=by
 unfold jq;split
 ·rw[À];lia
 ·rw[É];exact Ì _
def yP{m:IM}{k:Int}{d:D}(h:sS m=true)(hd:gO d=true):sS (jq m k d)=true:=by
 unfold sS at h ⊢;rw[Ċ]at h ⊢;intro p hp;unfold jq at hp;split at hp
 ·let⟨q,a,rfl⟩:=è.mp hp;split
  ·exact hd
  ·exact h q a
 ·rcases Û.mp hp with z|z
  ·exact h p z
  ·rw[Í.mp z];exact hd
def Tz(a:fI):Prop:=∀(i j:Nat)(c d:fM)(x:Int),a[i]?=some c->a[j]?=some d->x∈c->x∈d->i=j
def Cg(R:Nat->Nat->Bool)(N:Nat):fR:=(Ø N).filter (jW R N)
def Jd(R:Nat->Nat->Bool)(N:Nat):fu R N N=(Cg R N).map λa=>zI (bM R N a):=by
 unfold fu Cg;rw[Ţ (by rw[ā];exact Ì _)]
def iH{R:Nat->Nat->Bool}{N a b:Nat}:b∈bM R N a↔b<N/\R a b=true/\R b a=true:=by
 unfold bM;rw[â,ò,Ü]
def qU{l:fR}{x:Int}:x∈zI l↔∃b∈l,x=(~~~b):=by
 unfold zI;rw[è];constructor
 ·rintro⟨b,hb,e⟩;exact⟨b,hb,()⟩
 ·rintro⟨b,hb,e⟩;exact⟨b,hb,()⟩
def gn{d:fN}{a b c:Nat}(h:RB d a b=true)(k:RB d b c=true):RB d a c=true:=jj.mpr ((jj.mp h).trans (jj.mp k))
def mZ{d:fN}{N a b:Nat}(h:RB d a b=true)(k:RB d b a=true):bM (RB d) N a=bM (RB d) N b:=by
 refine List.filter_congr λc _=>?_;rw[ă,Ü,Ü];exact⟨λz=>⟨gn k z.1,gn z.2 h⟩,λz=>⟨gn h z.1,gn z.2 k⟩⟩
def uf{R:Nat->Nat->Bool}{N j:Nat}{c:fM}(h:(fu R N N)[j]?=some c):∃a,(Cg R N)[j]?=some a/\c=zI (bM R N a)/\a<N/\(bM R N a).head?=some a:=by
 rw[Jd,Þ]at h;cases e:(Cg R N)[j]? with
 |none=>rw[e]at h;cases h
 |some a =>
  rw[e]at h;have hm:=Î e;unfold Cg at hm;rw[â,ò]at hm;exact⟨a,rfl,(ß h).symm,hm.1,fk hm.2⟩
def v9(h:fN)(N:Nat):Tz (fu (RB h) N N):=by
 intro i j c d x hi n hc hd;let⟨a,ha,rfl,v,f⟩:=uf hi;let⟨b,hb,rfl,w,m⟩:=uf n;let⟨y,o,rfl⟩:=qU.mp hc;let⟨u,g,e⟩:=qU.mp hd;have e:y=u:=()
 subst e;let⟨_,q,r⟩:=iH.mp o;let⟨_,s,t⟩:=iH.mp g;rw[mZ (gn q t) (gn s r),m]at f;have f:=ß f;subst f;have p:(Cg (RB h) N).Nodup:=by
  unfold Cg;exact List.nodup_range.filter _
 let⟨h1,k⟩:=È.mp ha;let⟨h2,l⟩:=È.mp hb;exact(List.getElem_inj p).mp (k.trans l.symm)
def xZ(b:fN){N:Nat}{x:Int}(i:0<=x)(h1:x<N):∃(j:Nat)(c:fM),(fu (RB b) N N)[j]?=some c/\x∈c:=by
 have hb:x.toNat<N:=()
 cases hm:bM (RB b) N x.toNat with
 |nil=>exact ft hm (HS (ug b _) hb)
 |cons a l =>
  have ha:a∈bM (RB b) N x.toNat:=by rw[hm];exact Æ
  let⟨f,d,e⟩:=iH.mp ha;have es:=mZ (N:=N) e d;have g:jW (RB b) N a=true:=by
   unfold jW;rw[es,hm];exact gz rfl
  have hr:a∈Cg (RB b) N:=â.mpr ⟨ò.mpr f,g⟩;let⟨j,h⟩:=Ķ hr;refine⟨j,zI (bM (RB b) N a),by rw[Jd,Þ,h];rfl,?_⟩;exact qU.mpr ⟨x.toNat,iH.mpr ⟨hb,e,d⟩,()⟩
def GD(c:fM)(t:Tie):Bool:=!c.contains t.1&&c.contains t.2
def Oz(c:fM)(t:Tie):Bool:=c.contains t.1&&!c.contains t.2
def bF(a:fN)(c:fM):Bool:=a.any (GD c)
def cA(a:fN)(c:fM):Bool:=a.any (Oz c)
def DY{d vs:fN}(h1:∀a b,(a,b)∈d->(b,a)∈vs)(h2:∀a b,(a,b)∈vs->(b,a)∈d)(c:fM):bF vs c=cA d c/\cA vs c=bF d c:=by
 unfold bF cA;constructor
 ·rw[ă,Ŷ,Ŷ];constructor
  ·rintro⟨t,ht,e⟩;exact⟨(t.2,t.1),h2 _ _ ht,by unfold GD at e;unfold Oz;rw[Bool.and_comm];exact e⟩
  ·rintro⟨t,ht,e⟩;exact⟨(t.2,t.1),h1 _ _ ht,by unfold Oz at e;unfold GD;rw[Bool.and_comm];exact e⟩
 ·rw[ă,Ŷ,Ŷ];constructor
  ·rintro⟨t,ht,e⟩;exact⟨(t.2,t.1),h2 _ _ ht,by unfold Oz at e;unfold GD;rw[Bool.and_comm];exact e⟩
  ·rintro⟨t,ht,e⟩;exact⟨(t.2,t.1),h1 _ _ ht,by unfold GD at e;unfold Oz;rw[Bool.and_comm];exact e⟩
def wK(p:fM->Bool)(a:fI)(k:Nat):fM:=((Ø k).filter λj=>p (a.getD j [])).map λj:Nat=>(~~~j)
def Vf(a:fN)(b:fI)(k:Nat):fI:=[wK (λc=>!bF a c&&cA a c) b k,wK (λc=>bF a c&&!cA a c) b k,wK (λc=>!bF a c&&!cA a c) b k]
def qt{b:fI}(f:Tz b){a:Nat}{d:fM}{x:Int}(h1:b[a]?=some d)(e:x∈d){j:Nat}{c:fM}(h:b[j]?=some c):c.contains x=decide (~~~j=(~~~a)):=by
 rw[ă,List.contains_iff_mem,decide_eq_true_iff];constructor
 ·intro z;rw[f j a c d x h h1 z e]
 ·intro z;have z:j=a:=()
  subst z;rw[h1]at h;cases h;exact e
def ZV:FF:=λds P=>∃CL:fI,ds=[.list (CL.map iD)]/\⇑CL<=16/\(∀c∈CL,⇑c<=16)/\Tz CL/\∀m:IM,(∀(j:Nat) c x,CL[j]?=some c->x∈c->nR m x=some (.int (~~~j)))->P (.dict (kvD m))
def ZW:FF:=λds P=>∃n us,ds=[aC n us]/\1<=n/\n<=16/\⇑us<=60/\cT n us/\P (.tuple ((Vf us (fu (RB us) n.toNat n.toNat) ⇑(fu (RB us) n.toNat n.toNat)).map iD))
structure HomTo(CL:fI)(k:Nat)(c:fM)(i:Nat)(m:IM):Prop where
 im:sS m=true
 len:⇑m<=16 * k+i
 is:∀(j:Nat) d x,j<k->CL[j]?=some d->x∈d->nR m x=some (.int (~~~j))
 cur:∀x∈c.take i,nR m x=some (.int (~~~k))
def CQ(F:Fun K eL eL (top 44) f fd)(B:į mg)(g:mg "enumerate"=none):1∩[fb]∩spD ZV:=by
 refine okT F (N:=[fb,"homes",ck,am,ei]) zC (λhr nd=>Ï (ñ (some 0) (i:=1) nd rfl zQ Wr.pU)
  (Ï (Š ï rfl (Wr.vU g (Á (Ê 0) Ä)) (Wr.fQ (n:=2) rfl (ĥ (ç (i:=2) nd rfl zQ) (ĥ (ç (i:=3) nd rfl zQ) Wr.dD))) (Ï (Š ï rfl (Ğ (Ê 3)) (ç (i:=4) nd rfl zQ) (Ï (Wr.nF hr.units (ū 1) (Ê 4) (Ê 2)) (ø [4] Ā))) (ø [2,3,4] Ā)))
  (ø [2,3,4] (ð (ÿ (Ê 1)))))) ?_
 rintro ds P ⟨a,rfl,p,o,l,q⟩;refine⟨[.sh (.list (a.map iD)),.any,.any,.any,.any],rfl,?_⟩;refine⟨rfl,λ(k:Nat) ρ=>∃m:IM,ρ=[.sh (.list (a.map iD)),.dw 0 (.dict (kvD m)),.any,.any,.any]/\HomTo a k [] 0 m,⟨[],rfl,rfl,ą _,λj d x h=>ft h (Nat.not_lt_zero _),λx h=>nomatch h⟩,?_,?_⟩
 ·rintro k d ρ hd ⟨m,rfl,h⟩;rw[nA,Þ]at hd;obtain⟨c,hc,rfl⟩:∃c,a[k]?=some c/\PyData.tuple [.int (~~~k),iD c]=d:=by
   cases e:a[k]? with
   |none=>rw[e]at hd;cases hd
   |some c=>rw[e]at hd;exact⟨c,rfl,ß hd⟩
  have hk:=(È.mp hc).1;have r:=o c (Î hc);refine⟨rfl,rfl,λ(i:Nat) ρ=>∃m:IM,ρ=[.sh (.list (a.map iD)),.dw 0 (.dict (kvD m)),.im (.int (~~~k)),.sh (iD c),.any]/\HomTo a k c i m,⟨m,rfl,h.im,h.len,h.is,λx z=>nomatch z⟩,?_,?_⟩
  ·rintro i d ρ hd ⟨m,rfl,h⟩;let⟨x,b,rfl⟩:=bH hd;have hi:=(È.mp b).1;have hl:=h.len;have s:=yO m x (.int (~~~k));have tk:c.take (i+1)=c.take i++[x]:=by rw[Ē,b];rfl
   refine⟨m,rfl,rfl,h.im,(),jq m x (.int (~~~k)),rfl,yP h.im rfl,(),λj d y hj hd hy=>?_,λy hy=>?_⟩
   ·rw[Ij,fq]
    ·exact h.is j d y hj hd hy
    ·intro z;subst z;have:=l j k d c x hd hc hy (Î b);lia
   ·rw[Ij];by_cases z:x=y
    ·rw[fo z]
    ·rw[fq z];rw[tk]at hy;rcases Û.mp hy with w|w
     ·exact h.cur y w
     ·exact ft (Í.mp w).symm z
  ·rintro ρ ⟨m,rfl,h⟩;rw[À]at h;have hl:=h.len;refine⟨m,rfl,h.im,(),λj d y hj hd2 hy=>?_,λy hy=>nomatch hy⟩;by_cases z:j=k
   ·subst z;have e:c=d:=ß (hc.symm.trans hd2);rw[←e]at hy;exact h.cur y (by rw[þ];exact hy)
   ·exact h.is j d y () hd2 hy
 ·rintro ρ ⟨m,rfl,h⟩;rw[gW,À]at h;exact⟨rfl,q m λj c x hj b=>h.is j c x (È.mp hj).1 hj b⟩
def OD(p:fM->Bool)(a:fI):Č (((Ø ⇑a).filter λj=>p (a.getD j [])).map λj:Nat=>Â (0+~~~j))=iD (wK p a ⇑a):=by
 unfold iD wK;rw[ô];congr 1;exact Ĝ λj _=>by show Â _=Â _;rw[Ŏ]
structure LedTo(CL:fI)(us:fN)(k:Nat)(mi mo:IM):Prop where
 ii:sS mi=true
 io:sS mo=true
 li:⇑mi<=k
 lo:⇑mo<=k
 hi:∀(j:Nat) c,CL[j]?=some c->bV mi (~~~j)=bF (us.take k) c
 ho:∀(j:Nat) c,CL[j]?=some c->bV mo (~~~j)=cA (us.take k) c
def Eu{α:Type}(p:α->Bool){a:List α}{k:Nat}{t:α}(h:a[k]?=some t):(a.take (k+1)).any p=((a.take k).any p || p t):=by
 rw[Ē,h,List.any_append];show(_ || (p t || false))=_;rw[Bool.or_false]
def nq(a b:Nat):decide (~~~a=(~~~b))=decide (a=b):=by
 by_cases h:a=b
 ·rw[gz h,gz (by rw[h])]
 ·rw[fi h,fi ()]
def cR:([ck,al,fb,"homes","led_into","led_out_of",eD,"numbers","firsts","lasts","alone"]:List Str).Nodup:=⋯
def nQ(F:Fun K bi bi (top 47) f fd)(B:į mg)(V:2∪eR∪[al]∪spD Z0)(W:1∪eL∪[fb]∪spD ZV):3∩[al]∩spD ZW:=by
 refine okT F (N:=[al,fb,"homes","led_into","led_out_of",eD,"numbers","firsts","lasts","alone"]) zC (λhr nd=>Ï (ñ none (i:=1) nd rfl zQ (ł V hr (Á (Ê 0) Ä)))
  (Ï (ñ none (i:=2) nd rfl zQ (ł W hr (Á (Ê 1) Ä)))
  (Ï (ñ (some 1) (i:=3) nd rfl zQ Wr.pU)
  (Ï (ñ (some 0) (i:=4) nd rfl zQ Wr.pU)
  (Ï (Š ï rfl (Ğ (ã (Ê 0) Ð)) (ç (i:=5) nd rfl zQ) (Ï (Ő (Wr.fU hr.units (Wr.mX hr.units (Ê 2) (ã (Ê 5) Ð)) (Wr.mX hr.units (Ê 2) (ã (Ê 5) Ð))) (Ï (Wr.nF hr.units (ū 4) (Wr.mX hr.units (Ê 2) (ã (Ê 5) Ð)) Wr.gb)
  (ð (Wr.nF hr.units (ū 3) (Wr.mX hr.units (Ê 2) (ã (Ê 5) Ð)) Wr.gb))) Ā) (ø [5] Ā)))
  (ø [5] (Ï (ñ none (i:=6) nd rfl zQ (Wr.oV rfl B.list B.range (Á (İ B.len (Á (Ê 1) Ä)) Ä)))
  (Ï (Wr.eZ none [ck] (i:=7) rfl nd rfl zQ (Ğ (Ê 6)) (λc=>(ç (i:=0) cR rfl zQ)) (λc=>(ż (Wr.wpt (ű (Wr.dN hr.units (Ê 0) (Ê 4)) (ť (Wr.mW hr.units (Ê 0) (Ê 5))))))) (λc=>(Ê 0)))
  (Ï (Wr.eZ none [ck] (i:=8) rfl nd rfl zQ (Ğ (Ê 6)) (λc=>(ç (i:=0) cR rfl zQ)) (λc=>(ż (Wr.wpt (ű (Wr.mW hr.units (Ê 0) (Ê 4)) (ť (Wr.dN hr.units (Ê 0) (Ê 5))))))) (λc=>(Ê 0)))
  (Ï (Wr.eZ none [ck] (i:=9) rfl nd rfl zQ (Ğ (Ê 6)) (λc=>(ç (i:=0) cR rfl zQ)) (λc=>(ż (Wr.wpt (ű (Wr.dN hr.units (Ê 0) (Ê 4)) (ť (Wr.dN hr.units (Ê 0) (Ê 5))))))) (λc=>(Ê 0)))
  (ð (ÿ (Ġ (Á (Ê 7) (Á (Ê 8) (Á (Ê 9) Ä)))))))))))))))) ?_
 rintro ds P ⟨n,b,rfl,n1,H,lu,ok,q⟩;refine⟨[.im (aC n b),.any,.any,.any,.any,.any,.any,.any,.any,.any],?_,?_⟩
 ·show [bJ (aC n b),.any,.any,.any,.any,.any,.any,.any,.any,.any]=_;rw[dM]
 refine⟨n,b,rfl,n1,H,lu,ok,?_⟩;have c1:=Je (RB b) n.toNat n.toNat;have U:=Qo (RB b) n.toNat n.toNat;have v:=v9 b n.toNat;have L:∀x:Int,0<=x->x<n->∃(j:Nat)(c:fM),(fu (RB b) n.toNat n.toNat)[j]?=some c/\x∈c:=λx h0 h1=>xZ b h0 ();generalize fu (RB b) n.toNat n.toNat=g at *;refine⟨g,rfl,(),λc hc=>by have:=U c hc;lia,v,λm hm=>?_⟩;refine⟨.tuple (b.map pD),rfl,rfl,λ(k:Nat) ρ=>∃l o:IM,ρ=[.im (aC n b),.sn (.list (g.map iD)),.sn (.dict (kvD m)),.dw 1 (.dict (kvD l)),.dw 0 (.dict (kvD o)),.any,.any,.any,.any,.any]/\LedTo g b k l o,⟨[],[],rfl,rfl,rfl,ą _,ą _,λj c _=>rfl,λj c _=>rfl⟩,?_,?_⟩
 ·rintro k d ρ hd ⟨l,o,rfl,h⟩;let⟨t,ht,rfl⟩:=bH hd;have hk:=(È.mp ht).1;let⟨⟨S,T⟩,b0,b1⟩:=ok t (Î ht);let⟨p,X,E,I⟩:=L t.1 S T;let⟨s,Y,G,J⟩:=L t.2 b0 b1;have M:=hm p X t.1 E I;have O:=hm s Y t.2 G J;have li:=h.li;have lo:=h.lo;refine⟨.int t.1,rfl,m,.int (~~~p),rfl,M,.int t.2,rfl,m,.int (~~~s),rfl,O,?_⟩;show if(!decide (~~~p=(~~~s)))=true then _ else _
  have Q:∀(j:Nat) c,g[j]?=some c->bF (b.take (k+1)) c=(bF (b.take k) c || (!decide (~~~j=(~~~p))&&decide (~~~j=(~~~s)))):=λj c a=>by
   unfold bF;rw[Eu _ ht];show(_ || (!c.contains t.1&&c.contains t.2))=_;rw[qt v E I a,qt v G J a]
  have R:∀(j:Nat) c,g[j]?=some c->cA (b.take (k+1)) c=(cA (b.take k) c || (decide (~~~j=(~~~p))&&!decide (~~~j=(~~~s)))):=λj c a=>by
   unfold cA;rw[Eu _ ht];show(_ || (c.contains t.1&&!c.contains t.2))=_;rw[qt v E I a,qt v G J a]
  by_cases z:p=s
  ·subst z;rw[gz rfl];refine aJ (A:=True) ⟨l,o,rfl,h.ii,h.io,(),(),λj c a=>?_,λj c a=>?_⟩
   ·rw[Q j c a,h.hi j c a];cases decide (~~~j=(~~~p)) <;> simp
   ·rw[R j c a,h.ho j c a];cases decide (~~~j=(~~~p)) <;> simp
  ·rw[fi ()];have pi:=yO l (~~~s) (.bool true);have po:=yO o (~~~p) (.bool true);refine aF (B:=True) ⟨.int t.1,rfl,m,.int (~~~p),rfl,M,o,rfl,rfl,h.io,(),.int t.2,rfl,m,.int (~~~s),rfl,O,l,rfl,rfl,h.ii,(),jq l (~~~s) (.bool true),jq o (~~~p) (.bool true),rfl,yP h.ii rfl,yP h.io rfl,(),(),λj c a=>?_,λj c a=>?_⟩
   ·rw[Q j c a,Ih,h.hi j c a,nq,nq,nq];congr 1;by_cases y:j=s
    ·subst y;rw[gz rfl,fi (λw=>z w.symm)];rfl
    ·rw[fi y,fi (λw=>y w.symm),Bool.and_false]
   ·rw[R j c a,Ih,h.ho j c a,nq,nq,nq];congr 1;by_cases y:j=p
    ·subst y;rw[gz rfl,fi z];rfl
    ·rw[fi y,fi (λw=>y w.symm),Bool.false_and]
 ·rintro ρ ⟨l,o,rfl,h⟩;rw[À]at h;have C:∀j,j<⇑g->bV l (0+~~~j)=bF b (g.getD j []):=λj a=>by
   have e:g.getD j []=g[j]:=by rw[Ò,Å a];rfl
   rw[Ŏ,h.hi j _ (Å a),þ,e]
  have D:∀j,j<⇑g->bV o (0+~~~j)=cA b (g.getD j []):=λj a=>by
   have e:g.getD j []=g[j]:=by rw[Ò,Å a];rfl
   rw[Ŏ,h.ho j _ (Å a),þ,e]
  have ln:⇑(g.map iD)=⇑g:=À ..;refine⟨⟨(),()⟩,?_⟩;have Z:lR 0 ((⇑(g.map iD):Int) - 0).toNat=lR 0 ⇑g:=by
   rw[ln];congr 1
  rw[Z];refine lQ (Ø ⇑g) (λj:Nat=>.int (0+~~~j)) (λj=>!bF b (g.getD j [])&&cA b (g.getD j [])) (λj:Nat=>.int (0+~~~j)) .imm rfl (by rw[ā];lia) ?_ ?_
  ·intro j a A B h1 h2;have a:=ò.mp a;refine⟨l,rfl,?_⟩;show if(!bV l (0+~~~j))=true then _ else _
   rw[C j a];cases r:bF b (g.getD j [])with
   |true=>exact aJ (A:=True) (aJ (A:=True) (h2 (by rw[r];rfl)))
   |false =>
    refine aF (B:=True) ⟨o,rfl,?_⟩;show if bV o (0+~~~j)=true then _ else _
    rw[D j a];cases u:cA b (g.getD j [])with
    |false=>exact aJ (A:=True) (h2 (by rw[r,u];rfl))
    |true=>exact aF (B:=True) ⟨rfl,h1 (by rw[r,u];rfl)⟩
  rw[OD (λc=>!bF b c&&cA b c)];refine lQ (Ø ⇑g) (λj:Nat=>.int (0+~~~j)) (λj=>bF b (g.getD j [])&&!cA b (g.getD j [])) (λj:Nat=>.int (0+~~~j)) .imm rfl (by rw[ā];lia) ?_ ?_
  ·intro j a A B h1 h2;have a:=ò.mp a;refine⟨l,rfl,?_⟩;show if bV l (0+~~~j)=true then _ else _
   rw[C j a];cases r:bF b (g.getD j [])with
   |false=>exact aJ (A:=True) (aJ (A:=True) (h2 (by rw[r];rfl)))
   |true =>
    refine aF (B:=True) ⟨o,rfl,?_⟩;show if(!bV o (0+~~~j))=true then _ else _
    rw[D j a];cases u:cA b (g.getD j [])with
    |true=>exact aJ (A:=True) (h2 (by rw[r,u];rfl))
    |false=>exact aF (B:=True) ⟨rfl,h1 (by rw[r,u];rfl)⟩
  rw[OD (λc=>bF b c&&!cA b c)];refine lQ (Ø ⇑g) (λj:Nat=>.int (0+~~~j)) (λj=>!bF b (g.getD j [])&&!cA b (g.getD j [])) (λj:Nat=>.int (0+~~~j)) .imm rfl (by rw[ā];lia) ?_ ?_
  ·intro j a A B h1 h2;have a:=ò.mp a;refine⟨l,rfl,?_⟩;show if(!bV l (0+~~~j))=true then _ else _
   rw[C j a];cases r:bF b (g.getD j [])with
   |true=>exact aJ (A:=True) (aJ (A:=True) (h2 (by rw[r];rfl)))
   |false =>
    refine aF (B:=True) ⟨o,rfl,?_⟩;show if(!bV o (0+~~~j))=true then _ else _
    rw[D j a];cases u:cA b (g.getD j [])with
    |true=>exact aJ (A:=True) (h2 (by rw[r,u];rfl))
    |false=>exact aF (B:=True) ⟨rfl,h1 (by rw[r,u];rfl)⟩
  rw[OD (λc=>!bF b c&&!cA b c)];exact⟨zK,rfl,q⟩
end
def swT(a:fN):fN:=a.map λt=>(t.2,t.1)
def Xj(a A:fN)(X:Int->Bool):Cut.di (a++A) X=Cut.di a X+Cut.di A X:=List.countP_append
def Xl(a A:fN)(X:Int->Bool):Cut.dO (a++A) X=Cut.dO a X+Cut.dO A X:=List.countP_append
def Z7(A:fN)(X:Int->Bool):Cut.di A X<=Cut.mg (A.map (·.2)) X:=by
 unfold Cut.di Cut.mg;rw[List.countP_map];refine List.countP_mono_left λt _ h=>?_;rw[Ü]at h;exact h.2
def Z9(A:fN)(X:Int->Bool):Cut.dO A X<=Cut.mg (A.map (·.1)) X:=by
 unfold Cut.dO Cut.mg;rw[List.countP_map];refine List.countP_mono_left λt _ h=>?_;rw[Ü]at h;exact h.1
def IV(a:fN)(X:Int->Bool):Cut.di (swT a) X=Cut.dO a X:=by
 unfold Cut.di Cut.dO swT;rw[List.countP_map];refine List.countP_congr λt _=>?_;show(!X t.2&&X t.1)=true↔(X t.1&&!X t.2)=true;rw[Bool.and_comm]
def RgT.sw{n:Nat}{a:fN}(h:RgT n a):RgT n (swT a):=λt ht=>by
 let⟨u,hu,rfl⟩:=è.mp ht;exact⟨(h u hu).2,(h u hu).1⟩
def RgT.app{n:Nat}{a vs:fN}(h:RgT n a)(g:RgT n vs):RgT n (a++vs):=λt ht=>(Û.mp ht).elim (h t) (g t)
def RgT.perm{n:Nat}{a vs:fN}(h:RgT n a)(p:vs.Perm a):RgT n vs:=λt ht=>h t (p.mem_iff.mp ht)
def Std(n k:Nat)(a:fN):Prop:=∀X,Cut.Prp n X->k<=Cut.di a X
def Std.perm{n k:Nat}{a vs:fN}(h:Std n k a)(p:vs.Perm a):Std n k vs:=λX hX=>by
 rw[qz p];exact h X hX
def Std.sw{n k:Nat}{a:fN}(h:Std n k a):Std n k (swT a):=λX hX=>by
 rw[IV,←Cut.vR];exact h _ hX.not
section
variable{n k:Nat}{us A:fN}{s:Str}{F:fI}
def gU(a:1<=n)(b:n<=8)(d:k<=3)(hu:RgT n us)(h:OneOk n k us A s F){B:fN}(c:RgT n B)(st:Std n k (us++B)):⇑A<=⇑B:=by
 have f:=(fH a b d hu h).2.2.1;rcases h.pap.side with e|e
 ·subst e;have:=jU (es:=B.map (·.2)) a b (cD hu) (λe he=>by
   let⟨t,ht,rfl⟩:=è.mp he;exact(c t ht).2) (λX hX=>by
   have:=st X hX;have:=Z7 B X;rw[Xj]at *;lia) h.pap.fam
  rw[À]at this;lia
 ·subst e;have:=jU (es:=B.map (·.1)) a b (cJ hu) (λe he=>by
   let⟨t,ht,rfl⟩:=è.mp he;exact(c t ht).1) (λX hX=>by
   have:=st _ hX.not;have:=Z9 B X;rw[Cut.vR,Xl]at *;lia) h.pap.fam
  rw[À]at this;lia
def tu(b:1<=n)(c:n<=8)(a:k<=3)(hu:RgT n us)(h:OneOk n k us A s F):Std n k (us++A):=(fH b c a hu h).2.2.2
def uW(b:1<=n)(c:n<=8)(a:k<=3)(hu:RgT n us)(h:OneOk n k us A s F):RgT n A:=λt ht=>by
 have:=(fH b c a hu h).2.1 t ht;exact⟨this.1,this.2.1⟩
def Nu(b:1<=n)(c:n<=8)(a:k<=3)(hu:RgT n us)(h:OneOk n k us A s F){vs B:fN}{t:Str}{G:fI}(p:vs.Perm (swT us))(g:OneOk n k vs B t G):⇑B=⇑A:=by
 have hv:RgT n vs:=hu.sw.perm p;refine Nat.le_antisymm ?_ ?_
 ·have:=gU b c a hv g (B:=swT A) (uW b c a hu h).sw ((tu b c a hu h).sw.perm (by
   unfold swT at *;rw[Ö];exact p.append_right _))
  unfold swT at this
  rwa [À]at this
 ·have:=gU b c a hu h (B:=swT B) (uW b c a hv g).sw ((tu b c a hv g).sw.perm (by
   have e:swT (vs++B)=swT vs++swT B:=Ö;rw[e];refine List.Perm.append_right _ ?_;have d:(swT vs).Perm (swT (swT us)):=p.map _;have f:swT (swT us)=us:=by
    unfold swT;rw[ô];exact List.map_id' us
   rw[f]at d;exact d.symm))
  unfold swT at this
  rwa [À]at this
def JC(b:1<=n)(c:n<=8)(a:k<=3)(hu:RgT n us){x:Tie}(h:OneOk n k us (x::A) s F){vs B:fN}{t:Str}{G:fI}(p:vs.Perm (us++[x]))(g:OneOk n k vs B t G):⇑B=⇑A:=by
 have d:=uW b c a hu h;have hv:RgT n vs:=(hu.app λt ht=>by rw[Í.mp ht];exact d x Æ).perm p;refine Nat.le_antisymm ?_ ?_
 ·refine gU b c a hv g (B:=A) (λt ht=>d t (Ç _ ht)) ((tu b c a hu h).perm ?_);have:=p.append_right A
  rwa [ľ]at this
 ·have:=gU b c a hu h (B:=x::B) (λt ht=>by
   rcases Õ.mp ht with rfl|z
   ·exact d _ Æ
   ·exact uW b c a hv g t z) ((tu b c a hv g).perm (by
   have:=(p.append_right B).symm
   rwa [ľ]at this))
  rw[à,à]at this;lia
def zu(f:1<=n)(g:n<=8)(j:k<=3)(hu:RgT n us)(h:OneOk n k us A s F){G:fI}(b:QC (~~~n) G){t:Str}(ht:t=bS\/t=bg):(G.map (WO us ((k:Int) - 1) t)).sum<=(⇑A:Int):=by
 have q:=(fH f g j hu h).2.2.1;have p:=(h.pap.best t ht).1;have i:∀G:fI,(∀l∈G,Proper (~~~n) l)->G.flatten.Nodup->(G.map mb).Pairwise (Cut.Dj n):=by
  intro G;induction G with
  |nil=>exact λ_ _=>.nil
  |cons l G ih =>
   intro h1 h2;rw[ú]at h2;have c:=List.nodup_append.mp h2;refine List.pairwise_cons.mpr ⟨λY hY=>?_,ih (λl hl=>h1 l (Ç _ hl)) c.2.1⟩;let⟨m,hm,rfl⟩:=è.mp hY;intro v _ z;exact fi λy=>c.2.2 v (fk z) v (List.mem_flatten.mpr ⟨m,hm,y⟩) rfl
 have o:∀X∈G.map mb,Cut.Prp n X:=λX hX=>by
  let⟨l,hl,rfl⟩:=è.mp hX;exact yR (b.1 l hl)
 have a:∀{d:(Int->Bool)->Nat},Side n us t d->(G.map (WO us ((k:Int) - 1) t)).sum<=eV (jl n (WO us ((k:Int) - 1) t)) n (2 ^ n - 1):=λ{d} S=>by
  have:=iM (k:=k) f g S (i G b.1 b.2) o;have e:G.map (WO us ((k:Int) - 1) t)=(G.map mb).map λX=>(~~~(k - d X)):=by
   rw[ô];exact Ĝ λl _=>wB S l
  rw[e,uD];exact this
 rcases ht with rfl|rfl
 ·have:=a (cD hu);lia
 ·have:=a (cJ hu);lia
end
def fLS:FF:=λds P=>∃c:Int,ds=[.int c]/\1<=c/\c<=8/\P (.list ((pss c.toNat).map lD))
def Xb:FF:=λds P=>∃(n k:Nat)(us:fN),ds=[aC (~~~n) us,.int ((k:Int) - 1)]/\1<=n/\n<=8/\⇑us<=100/\RgT n us/\∀b:Bool,(b=true↔Std n k us)->P (.bool b)
section
variable{P:Zg}{w:Zl}{K:Ý}{mg:Str->gf}{gy:Heap}{f:Addr}{fd:WS}{CN P1 PT:Addr}
def Yp:FnScope [ai,df,bo] [ai] (au (top 62)):=zC
def Zc:([aw,ai,df,bo]:List Str).Nodup:=⋯
def Ny(F:Fun K eh eh (top 62) f fd)(B:į mg):1∩[ai]∩spD fLS:=by
 refine F.ok Yp bO (λcdv A outer s H vs Q E hr h=>?_);have a:=Yp.nd;refine⟨_,aL (bI none (Ů (i:=1) a rfl (đ rfl) (cY (aj (cY ak) ak))))
  (aL (ji ï rfl (bK B.range (aj (dv 0) ak)) (aO (Ś (i:=2) a rfl (Or.inr rfl)))
   (aM (bI none (Ů (i:=1) a rfl (đ rfl) (zf (dv 1) (iR [aw] rfl (dU (dv 1)) (λc=>aO (Ś (i:=0) Zc rfl (đ rfl))) (λc=>dJ) (λc=>zf (dv 0) (cY (aj (dv 3) ak)))))))))
  (aM (bw (iR [aw] rfl (dU (dv 1)) (λc=>aO (Ś (i:=0) Zc rfl (đ rfl))) (λc=>gP (jt (uK ou ou aG (dR B.len (aj (dv 0) ak)) (dv 1)) tG)) (λc=>dv 0))))),fO h ?_⟩
 rintro ds P ⟨c,rfl,p,r,q⟩;refine⟨[.im (.int c),.any,.any],rfl,zK,zK,⟨(),()⟩,rfl,λ(i:Nat) ρ=>∃b,ρ=[.im (.int c),.sn (.list ((subs i).map lD)),b],⟨_,rfl⟩,?_,?_⟩
 ·rintro i d ρ hd ⟨b,rfl⟩;let⟨hi,rfl⟩:=ŕ hd;have k:⇑((subs i).map lD)<=128:=by
   rw[À,bB];exact Ă ∅ (show i<=7 by lia)
  refine⟨(),.new,λj ys=>ys=((subs i).take j).map λl=>lD (l++[0+~~~i]),rfl,?_,?_⟩
  ·rintro j d ys hd rfl;let⟨l,hl,rfl⟩:=bH hd;have o:=iQ i l (Î hl);have im:=gj (l++[0+~~~i]);rw[Ö]at im;refine aF (B:=True) ⟨zK,?_,.inl ⟨im,rfl,?_⟩⟩
   ·show(l.map Â).length+1<=1000;rw[À];lia
   ·dsimp only;rw[o7 _ hl];show _++[Č (l.map Â++[.int (0+~~~i)])]=_++[Č ((l++[0+~~~i]).map Â)]
    rw[Ö];rfl
  ·rintro ys rfl;refine⟨?_,.inr ⟨.im (.int (0+~~~i)),?_⟩⟩
   ·rw[À (as:=List.take _ _),Ĺ];rw[À]at k ⊢;lia
   ·have e:(subs i).map lD++(((subs i).take ⇑((subs i).map lD)).map λl=>lD (l++[0+~~~i]))=(subs (i+1)).map lD:=by
     rw[À,þ];show _=((subs i)++(subs i).map _).map lD;rw[Ö,ô];rfl
    rw[e];rfl
 ·rintro ρ ⟨b,rfl⟩;rw[Ĭ];have k:⇑((subs c.toNat).map lD)<=256:=by
   rw[À,bB];exact Ă ∅ (show c.toNat<=8 by lia)
  refine⟨(),.snw,λi ys=>ys=(((subs c.toNat).take i).filter λl=>decide (0<⇑l)&&decide (⇑l<c.toNat)).map lD,rfl,?_,?_⟩
  ·rintro i d ys hd rfl;let⟨l,hl,rfl⟩:=bH hd;have sn:=tO (λl:fM=>decide (0<⇑l)&&decide (⇑l<c.toNat)) lD hl;have g:⇑(l.map Â)=⇑l:=À ..;show if decide ((0:Int)<(⇑(l.map Â):Nat))=true then _ else _
   have m:decide ((0:Int)<(⇑(l.map Â):Nat))=decide (0<⇑l):=by rw[g,ă,fm,fm];lia
   have n:decide ((⇑(l.map Â):Int)<c)=decide (⇑l<c.toNat):=by rw[g,ă,fm,fm];lia
   rw[m];cases h1:decide (0<⇑l)with
   |false =>
    rw[h1]at sn;rw[Bool.false_and,fq Ù,í]at sn;exact aJ (A:=True) (aJ (A:=True) sn.symm)
   |true =>
    rw[h1,Bool.true_and]at sn;refine aF (B:=True) ?_;show if decide ((⇑(l.map Â):Int)<c)=true then _ else _
    rw[n];cases h2:decide (⇑l<c.toNat)with
    |false =>
     rw[h2,fq Ù,í]at sn;exact aJ (A:=True) sn.symm
    |true =>
     rw[h2,fo rfl]at sn;exact aF (B:=True) ⟨rfl,sn.symm⟩
  ·rintro ys rfl;refine⟨rfl,?_⟩;show P (.list ((((subs c.toNat).take ⇑((subs c.toNat).map lD)).filter _).map lD));rw[À,þ];exact q
def sH:([aw,ac,ah]:List Str).Nodup:=⋯
def wI(F:Fun K cz cz (top 65) f fd)(B:į mg)(e:1∪eh∪[ai]∪spD fLS)(g:2∪ee∪[ac,ah,d6,aw]∪spD ZP):3∩[ac,ah]∩spD Xb:=by
 refine okT F (N:=[ac,ah]) zC (λhr nd=>ð (ÿ (Wr.kJ rfl B.all Dl.boot_all (Á (Ũ [aw] rfl (Ğ (ł e hr (Á (ã (Ê 0) Ð) Ä))) (λc=>(ç (i:=0) sH rfl zQ)) (λc=>ŏ) (λc=>(Wr.yZ hr.units (ł g hr (Á (Ê 1) (Á (Ê 2) (Á Wr.eG (Á (Ê 0) Ä))))) Ð))) Ä)))) ?_;rintro ds P ⟨n,k,a,rfl,d,b,m,hu,q⟩;refine⟨[.im (aC (~~~n) a),.im (.int ((k:Int) - 1))],sU rfl,?_⟩;have p:=jH (n:=n) d b;have o:=Sq n;refine⟨_,rfl,~~~n,rfl,(),(),?_⟩;rw[ê];refine qX (pss n) lD (λl=>.bool (decide (WO a ((k:Int) - 1) bS l=0))) .imm rfl () (λl hl A B hA=>aF (B:=True) ⟨~~~n,a,(k:Int) - 1,bS,l,rfl,m,.inl rfl,rfl,hA⟩) ?_;refine⟨(pss n).map λl=>decide (WO a ((k:Int) - 1) bS l=0),by rw[ô];rfl,rfl,q _ ?_⟩;have e0:∀l,WO a ((k:Int) - 1) bS l=0↔k<=inN a l:=λl=>by
  unfold WO nd1 byS;rw[fo rfl];split <;> lia
 rw[List.all_map,Ċ];constructor
 ·intro h X j;have h1:=h _ (by rw[Hz d b];exact vA b j);have h1:k<=inN a (qj n X):=(e0 _).mp (fk h1);rw[←Dv,(cD hu).eq λv hv=>fL hv]at h1;exact h1
 ·intro h l hl;refine gz ((e0 l).mpr ?_);rw[Hz d b]at hl;have:=h _ (oR d b hl)
  rwa [Dv]at this
def d8:Nat->fN->List fN
 |0,_=>[[]]
 |_+1,[]=>[]
 |m+1,p::ps=>(d8 m (p::ps)).map (p::·)++d8 (m+1) ps
theorem Aa:∀(m:Nat)(ps:fN)(l:fN),l∈d8 m ps->⇑l=m/\∀t∈l,t∈ps
 |0,ps,l,h=>by
  have h:l∈[[]]:=by unfold d8 at h;exact h
  rw[Í.mp h];exact⟨rfl,λt ht=>nomatch ht⟩
 |m+1,[],l,h=>by unfold d8 at h;cases h
 |m+1,p::ps,l,h=>by
  unfold d8 at h;rcases Û.mp h with h|h
  ·let⟨a,h',rfl⟩:=è.mp h;let⟨h1,h2⟩:=Aa m (p::ps) a h';exact⟨by rw[à,h1],λt ht=>(Õ.mp ht).elim (λz=>z ▸ Æ) (h2 t)⟩
  ·let⟨h1,h2⟩:=Aa (m+1) ps l h;exact⟨h1,λt ht=>Ç _ (h2 t ht)⟩
def lnF:Nat->Nat->Nat
 |0=>λ_=>1
 |m+1=>λc=>Nat.rec (motive:=λ_=>Nat) 0 (λc' r=>lnF m (c'+1)+r) c
def R7(m c:Nat):lnF (m+1) (c+1)=lnF m (c+1)+lnF (m+1) c:=rfl
theorem tD:∀(m:Nat)(ps:fN),⇑(d8 m ps)=lnF m ⇑ps
 |0,ps=>by unfold d8;rfl
 |m+1,[]=>by unfold d8;rfl
 |m+1,p::ps=>by
  unfold d8;rw[É,À,tD m (p::ps),tD (m+1) ps,à];rfl
def Ql{ps:fN}{i:Nat}(h:i<⇑ps):gC (ps.map pD) (some (0+~~~i)) none=(ps.drop i).map pD:=by
 unfold gC;have a:HT.sIx ⇑(ps.map pD) 0 (some (0+~~~i))=min i ⇑(ps.map pD):=by rw[Ŏ];exact HT.sX _ _ _
 have b:HT.sIx ⇑(ps.map pD) ⇑(ps.map pD) none=⇑(ps.map pD):=rfl;rw[a,b,À,Nat.min_eq_left (),List.map_drop,Ţ];rw[Ď,À];exact Ì _
def lsD(l:fN):D:=.list (l.map pD)
def R4{l:gg}{ρ:List Sl}{i:Nat}:Dl.stK none ρ i (norm .snw (.list l)) (.list l)=some (.sn (.list l)):=by
 rw[iG (d:=.list l) (λz=>nomatch z)];rfl
def fLi:Nat->fE
 |0,_,_=>False
 |kk+1,ds,P=>∃(ps:fN)(m:Nat),ds=[.list (ps.map pD),.int (~~~m)]/\m<=kk/\m<=60/\⇑ps<=60/\⇑(d8 m ps)<=900/\P (.list ((d8 m ps).map lsD))
section
variable{P:Zg}{w:Zl}{K:Ý}{mg:Str->gf}{gy:Heap}{f:Addr}{fd:WS}{kk LL:Nat}
def pI:FnScope [aH,ar,df,br] [aH,ar] (au (top 66)):=zC
def vh:(["_law_rest",aH,ar,df,br]:List Str).Nodup:=⋯
def JH(F:Fun K aI aI (top 66) f fd)(B:į mg)(j:LL∪aI∪[aH,ar]∪spD (fLi kk)):LL.succ∩[aH,ar]∩spD (fLi (kk+1)):=by
 refine okT F pI (λhr nd=>Ï (Ő (Wr.fV hr.units (Ê 1) Ð) (ð (ÿ (Ī (Á (Ī Ä) Ä)))) Ā)
  (Ï (ñ none (i:=2) nd rfl zQ (Ī Ä))
  (Ï (Š ï rfl (ő B.range (Á (İ B.len (Á (Ê 0) Ä)) Ä)) (ç (i:=3) nd rfl zQ) (Ï (ñ none (i:=2) nd rfl zQ (ĩ (Ê 2) (Ũ ["_law_rest"] rfl (Ğ (ł (hk:=Ì _) j hr (Á (Wr.Cr (Ê 0) (Wr.fX (Ê 3)) Wr.nG) (Á (Wr.cV (Ê 1) Ð) Ä)))) (λc=>(ç (i:=0) vh rfl zQ)) (λc=>ŏ) (λc=>(ĩ (Ī (Á (ã (Ê 1) (Ê 4)) Ä)) (Ê 0)))))) (ø [3] Ā)))
  (ø [3] (ð (ÿ (Ê 2))))))) ?_
 rintro ds P ⟨ps,m,rfl,mk,t,v,u,q⟩;refine⟨[.sh (.list (ps.map pD)),.im (.int (~~~m)),.any,.any],rfl,?_⟩;cases m with
 |zero =>
  have q:P (.list [.list []]):=by unfold d8 at q;exact q
  exact aF (B:=True) ⟨zK,zK,rfl,q⟩
 |succ m =>
  obtain⟨h,rfl⟩:∃h,kk=h+1:=⟨kk - 1,()⟩
  refine⟨zK,by rw[À];exact⟨(),()⟩,rfl,λ(i:Nat) ρ=>∃L:List fN,ρ=[.sh (.list (ps.map pD)),.im (.int (~~~(m+1))),.sn (.list (L.map lsD)),.any]/\L++d8 (m+1) (ps.drop i)=d8 (m+1) ps,⟨[],rfl,rfl⟩,?_,?_⟩
  ·rintro i d ρ hd ⟨L,rfl,a⟩;let⟨hi,rfl⟩:=ŕ hd;have hi:i<⇑ps:=by rw[À]at hi;lia
   obtain⟨p,hp⟩:∃p,ps[i]?=some p:=⟨_,Å hi⟩
   have r:ps.drop i=p::ps.drop (i+1):=by
    rw[œ hi];rw[Å hi]at hp;rw[ß hp]
   have n:d8 (m+1) (ps.drop i)=(d8 m (ps.drop i)).map (p::·)++d8 (m+1) (ps.drop (i+1)):=by
    rw[r]
    conv=>lhs;unfold d8
   rw[n,←ľ]at a;have b:=fv List.length a;rw[É,É,À]at b;have g:gC (ps.map pD) (some (0+~~~i)) none=(ps.drop i).map pD:=Ql hi;refine đ (And.intro (by rw[g];exact dz _) ?_);rw[g];refine⟨ps.drop i,m,?_,(),(),by rw[Ď];lia,(),?_⟩
   ·show [_,Â ((~~~(m+1)) - 1)]=_;rw[show(~~~(m+1)) - 1=(~~~m) by lia]
   refine qX (d8 m (ps.drop i)) lsD (λl=>lsD (p::l)) .new rfl () (λl hl A B hA=>?_) ?_
   ·have x:=(Aa m _ l hl).1;have im:eU ([pD p]++l.map pD)=true:=dz (p::l);refine aF (B:=B) ⟨pD p,by rw[Ŏ];exact cU (by rw[Þ,hp];rfl),zK,?_,.inl ⟨im,rfl,hA⟩⟩;show 1+⇑(l.map pD)<=1000;rw[À];lia
   have o:L.map lsD++(d8 m (ps.drop i)).map (λl=>lsD (p::l))=(L++(d8 m (ps.drop i)).map (p::·)).map lsD:=by
    rw[Ö,ô];rfl
   refine⟨by rw[À,À];lia,.inr ?_⟩;rw[o];exact eY (k:=.snw) (d:=.list ((L++(d8 m (ps.drop i)).map (p::·)).map lsD)) (s:=.sn (.list ((L++(d8 m (ps.drop i)).map (p::·)).map lsD))) R4 ⟨_,rfl,a⟩
  rintro ρ ⟨L,rfl,a⟩;rw[À,Ĭ,ê,List.drop_length]at a;have e:L=d8 (m+1) ps:=by
   rw[←a];unfold d8;rw[í]
  rw[e];exact⟨rfl,q⟩
def JM(F:Fun K aI aI (top 66) f fd):FnOk P w K mg gy CX0 1 f fd [aH,ar] (spD (fLi 0)) :=
 F.ok pI (bO λds P h=>h.elim) (λcdv A outer s H vs Q E hr h=>by
  let⟨_,_,_,t,_⟩:=h;exact t.elim)
def JK(k:Nat)(F:Fun K aI aI (top 66) f fd)(B:į mg)(b:Binds K fd [aH,ar] [])(m:mg aI=some (.ref f)):(k+1)∩[aH,ar]∩spD (fLi k):=by
 induction k with
 |zero=>exact JM F
 |succ k a=>exact JH F B ⟨f,fd,a,b,F.kp,m⟩
def JL(F:Fun K aI aI (top 66) f fd)(B:į mg)(b:Binds K fd [aH,ar] [])(m:mg aI=some (.ref f)):9∩[aH,ar]∩spD (fLi 8):=JK 8 F B b m
end
def fLR:FF:=λds P=>∃(n k:Nat)(us:fN),ds=[aC (~~~n) us,.int ((k:Int) - 1)]/\1<=n/\n<=4/\1<=k/\k<=2/\⇑us<=60/\RgT n us/\P (.bool true)
def Nt{n k:Nat}{a A:fN}{s:Str}{F:fI}(c:1<=n)(d:n<=8)(hu:RgT n a)(h:OneOk n k a A s F):⇑A<=n * k:=by
 let⟨⟨i,e,j⟩,b,g⟩:=zq c d hu h.pap;let⟨l,m,o,p⟩:=Bw c d _ _ a hu b g;have f:=h.perm.length_eq;have lt:⇑(tlF n k a (sumF a ((k:Int) - 1) s F))=sumF a ((k:Int) - 1) s F:=iT e;unfold KD at f;lia
def Zh(m c:Nat):lnF m c<=lnF m (c+1):=by
 cases m with
 |zero=>exact Ì _
 |succ m=>rw[R7];lia
theorem Zi{m:Nat}:∀{c d:Nat},c<=d->lnF m c<=lnF m d:=λ{c d} h=>by
 induction h with
 |refl=>exact Ì _
 |step _ a=>exact ĉ a (Zh m _)
def Wu{n k a c:Nat}(i:n<=4)(h:k<=2)(j:a<=n * k)(f:n=4->a<=4)(hc:c<=n * (n - 1))(g:1<=a):lnF (a - 1) c<=900:=by
 have d:∀n,n<5->∀b,b<6->(n=4->b<4)->(n=3\/b<4\/b<n * 2)->lnF b (n * (n - 1))<=900:=⋯
 refine ĉ (Zi hc) (d n () (a - 1) ?_ (λe=>by have:=f e;lia) ?_)
 ·rcases(():n=0\/n=1\/n=2\/n=3\/n=4)with rfl|rfl|rfl|rfl|rfl <;> lia
 ·rcases(():n=0\/n=1\/n=2\/n=3\/n=4)with rfl|rfl|rfl|rfl|rfl <;> lia
def iu:FnScope [ac,ah,ai,ar,aH,be] [ac,ah] (au (top 67)):=zC
def lg:([ca,ac,ah,ai,ar,aH,be]:List Str).Nodup:=⋯
def kZ:([aw,ac,ah,ai,ar,aH,be]:List Str).Nodup:=⋯
abbrev kA6(P w K mg gy P1 PT):=15∪eK∪[al,ag]∪Lh (d7 P1 PT) fOP
abbrev kA7(P w K mg gy):=3∪cz∪[ac,ah]∪spD Xb
def oX(F:Fun K bj bj (top 67) f fd)(B:į mg)(V:kA6 P w K mg gy P1 PT)(L:kA7 P w K mg gy)(W:9∪aI∪[aH,ar]∪spD (fLi 8)):16∩[ac,ah]∩spT (d7 P1 PT) fLR:=by
 refine F.ok iu Ac (λcdv A outer s H vs Q E hr h=>?_);have y:=iu.nd;letI:=grU (d7 P1 PT);refine⟨_,Wr.WDSs.h (Ï (ñ none (i:=2) y rfl zQ (ã (Ê 0) Ð))
  (Ï (ñ none (i:=3) y rfl zQ (İ B.len (Á (ã (Wr.dcU V.of3 hr (Á (Ê 0) (Á (Ê 1) Ä))) Ð) Ä)))
  (Ï (Ő (Wr.fV hr.units (Ê 3) Ð) (ð (ÿ (ł L hr (Á (Ê 0) (Á (Ê 1) Ä))))) Ā)
  (Ï (Ő (Wr.wpt (ű (Wr.fV hr.units (Ê 2) Ð) (ť (Wr.iz (Ê 3) Ð)))) (ð (ÿ Wr.gb)) Ā)
  (Ï (ñ (some 0) (i:=4) y rfl zQ (Ī Ä))
  (Ï (Š ï rfl (ő B.range (Á (Ê 2) Ä)) (ç (i:=5) y rfl zQ) (Ï (Wr.dB (ū 4) (Á (Ũ [ca] rfl (ő B.range (Á (Ê 2) Ä)) (λc=>(ç (i:=0) lg rfl zQ)) (λc=>(ż (Wr.fU hr.units (Ê 6) (Ê 0)))) (λc=>(Ġ (Á (Ê 6) (Á (Ê 0) Ä))))) Ä)) (ø [5] Ā)))
  (ø [5] (ð (ÿ (Wr.uT hr.units Wr.gb (Ũ [aw] rfl (Ğ (ł W hr (Á (Ê 4) (Á (Wr.cV (Ê 3) Ð) Ä)))) (λc=>(ç (i:=0) kZ rfl zQ)) (λc=>ŏ) (λc=>(ł L hr (Á (Ġ (Á (Ê 3) (Á (ĩ (ã (Ê 1) Ð) (Wr.gJ B.tuple (Á (Ê 0) Ä))) Ä))) (Á (Ê 2) Ä))))))))))))))),PX h ?_⟩
 rintro ds P ⟨n,k,m,rfl,o,S,Y,O,lu,hu,q⟩;refine⟨[.im (aC (~~~n) m),.im (.int ((k:Int) - 1)),.any,.any,.any,.any],sU rfl,?_⟩;refine⟨.int (~~~n),rfl,n,k,m,rfl,o,(),Y,(),(),hu,λA s F h=>?_⟩;have r:n<=8:=()
 have R:k<=3:=()
 let⟨G,gd,_,st⟩:=fH o r R hu h;have T:=Nt o r hu h;have g:∀B,RgT n B->Std n k (m++B)->⇑A<=⇑B:=λB hB=>gU o r R hu h hB;have u:⇑(A.map pD)=⇑A:=À _;refine⟨.list (A.map pD),rfl,?_⟩;refine d9 (λc=>?_) (λc=>?_)
 ·have c:(⇑(A.map pD):Int)=0:=fk c;rw[u]at c;refine⟨n,k,m,rfl,o,r,(),hu,λb hb=>?_⟩;obtain rfl:A=[]:=ŵ.mp ();rw[í]at st;rw[hb.mpr st];exact⟨rfl,q⟩
 have c:¬(⇑(A.map pD):Int)=0:=λz=>c (gz z);rw[u]at c;have N:(n=4->⇑A<=4)->Bb (GK 4 (some 0) (La eF)) (Bb (Xn (iR1 (aX (tV 2) eF)) (gNm 5) (Bb (Tj 4 (dLC 1 (iR1 (aX (tV 2) eF)) (gNm 0) (dZ (t2 (nU true) (tV 6) (tV 0))) (yu (aX (tV 6) (aX (tV 0) eF))))) (rE [5] vV)))
   (rE [5] (Bd (t2 (gIn true) (tK (.bool true)) (dLC 1 (iSq (tFn (fLi 8) (aX (tV 4) (aX (t2 (gI0 λi j=>.int (i - j)) (tV 3) (tK (.int 1))) eF)))) (gNm 0) (λx P=>P true)
    (tFn Xb (aX (yu (aX (tV 3) (aX (t2 Pa (t2 gIx (tV 1) (tK (.int 1))) (tCl Il (aX (tV 0) eF))) eF))) (aX (tV 2) eF))))))))
   { nx:=λ_=>P .none,rt:=P } [.im (aC (~~~n) m),.im (.int ((k:Int) - 1)),.im (.int (~~~n)),.im (.int (⇑(A.map pD):Int)),.any,.any]:=λa4=>by
  rw[u];clear u;generalize ⇑A=a at G T g c a4 ⊢;refine⟨zK,⟨(),()⟩,rfl,λ(i:Nat) ρ=>∃ps:fN,ρ=[.im (aC (~~~n) m),.im (.int ((k:Int) - 1)),.im (.int (~~~n)),.im (.int (~~~a)),.dw 0 (.list (ps.map pD)),.any]/\⇑ps<=i * (n - 1)/\RgT n ps,⟨[],rfl,ą _,λt ht=>nomatch ht⟩,?_,?_⟩
  ·rintro i d ρ hd ⟨ps,rfl,I,J⟩;let⟨hi,rfl⟩:=ŕ hd;have hi:i<n:=()
   have i3:i * (n - 1)<=3 * 3:=Ş () ();refine⟨⟨(),()⟩,lQ (Ø n) (λv:Nat=>.int (0+~~~v)) (λv=>!decide (0+~~~i=0+~~~v)) (λv=>pD (0+~~~i,0+~~~v)) .imm rfl (by rw[ā];lia) (λv hv A B h1 h2=>d9 (λc=>⟨zK,rfl,h1 c⟩) (λc=>h2 (Bool.eq_false_iff.mpr c))) ?_⟩;have lf:⇑((Ø n).filter λv=>!decide (0+~~~i=0+~~~v))<=n - 1:=by
    have:=ŗ (p:=λv:Nat=>!decide (0+~~~i=0+~~~v)) (l:=Ø n) |>.mpr ⟨i,ò.mpr hi,by simp⟩
    rw[ā]at this;lia
   have C:(((Ø n).filter λv=>!decide (0+~~~i=0+~~~v)).map λv=>pD (0+~~~i,0+~~~v))=(((Ø n).filter λv=>!decide (0+~~~i=0+~~~v)).map λv=>(0+~~~i,0+~~~v)).map pD:=by
    rw[ô];rfl
   have sm:(i+1) * (n - 1)=i * (n - 1)+(n - 1):=by rw[Nat.add_mul,Nat.one_mul]
   refine⟨rfl,by rw[À,À];lia,ps++((Ø n).filter λv=>!decide (0+~~~i=0+~~~v)).map λv=>(0+~~~i,0+~~~v),?_,?_,?_⟩
   ·rw[Ö,←C];rfl
   ·rw[É,À,sm];lia
   ·intro t ht;rcases Û.mp ht with z|z
    ·exact J t z
    ·let⟨v,hv,rfl⟩:=è.mp z;have:=ò.mp (â.mp hv).1;exact⟨⟨(),()⟩,(),()⟩
  rintro ρ ⟨ps,rfl,I,J⟩;rw[Ĭ,ê]at I;have n3:n * (n - 1)<=4 * 3:=Ş () ();have D:=Wu (n:=n) (k:=k) (a:=a) (c:=⇑ps) S O T a4 I ();have U:a - 1<=7:=by
   have:n * k<=4 * 2:=Ş S O;lia
  refine⟨ps,a - 1,?_,U,(),(),by rw[tD];exact D,?_⟩
  ·show [_,Â ((~~~a) - 1)]=_;rw[show(~~~a) - 1=(~~~(a - 1)) by lia]
  refine qX (d8 (a - 1) ps) lsD (λ_=>.bool false) .imm rfl (by rw[tD];lia) (λl hl A B hA=>?_) ?_
  ·let⟨ol,Z⟩:=Aa _ _ l hl;have rl:RgT n l:=λt ht=>J t (Z t ht);refine aF (B:=B) ⟨.tuple (m.map pD),rfl,by rw[À,À];lia,zK,n,k,m++l,?_,o,r,by rw[É];lia,hu.app rl,λb hb=>?_⟩
   ·show [PyData.tuple [.int (~~~n),.tuple (m.map pD++l.map pD)],_]=_;rw[←Ö];rfl
   have:b=false:=by
    cases b with
    |false=>rfl
    |true =>
     have:=g l rl (hb.mp rfl);lia
   rw[this];exact⟨rfl,hA⟩
  have C:((d8 (a - 1) ps).map λ_=>PyData.bool false).all okD=true:=by
   rw[List.all_map,Ċ];exact λ_ _=>rfl
  have X:(((d8 (a - 1) ps).map λ_=>PyData.bool false).any λe=>ö e (.bool true))=false:=by
   rw[List.any_map,List.any_eq_false];exact λ_ _ z=>nomatch z
  refine⟨rfl,C,rfl,?_⟩;show P (.bool (!(((d8 (a - 1) ps).map λ_=>PyData.bool false).any λe=>ö e (.bool true))));rw[X];exact q
 refine d9 (λc4=>d9 (λ_=>⟨rfl,q⟩) λM=>N λ_=>?_) λc4=>N λe=>ft (gz (show(~~~n)=4 by lia)) c4
 ·have M:¬4<(⇑(A.map pD):Int):=λz=>M (gz z);lia
def rD(a:fI):List gg:=a.map λl=>l.map Â
theorem Dr:∀{l:fM}{lo hi:Int},l.Pairwise (·<·)->(∀x∈l,lo<=x/\x<hi)->lo<=hi->⇑l<=(hi - lo).toNat
 |[],_,_,_,_,_=>ą _
 |a::l,lo,hi,h,r,hh=>by
  have ha:=r a Æ;have h:=List.pairwise_cons.mp h;have:=Dr (lo:=a+1) (hi:=hi) h.2 (λx hx=>⟨by have:=h.1 x hx;lia,(r x (Ç _ hx)).2⟩) ();rw[à];lia
structure Rws(i:Int)(m:Nat)(Ls:fI):Prop where
 len:⇑Ls=m
 srt:∀l∈Ls,l.Pairwise (·<·)
 rng:∀l∈Ls,∀x∈l,0<=x/\x<i
 nd:Ls.flatten.Nodup
theorem DW:∀{b:fI}{j:Nat}{l:fM} (x:Int),b[j]?=some l->(b.set j (l++[x])).flatten.Perm (x::b.flatten)
 |[],_,_,_,h=>by cases h
 |a::b,0,l,x,h=>by
  cases h;rw[List.set_cons_zero,ú,ú,ľ];exact List.perm_middle
 |a::b,j+1,l,x,h=>by
  rw[List.set_cons_succ,ú,ú];exact((DW x ↑h).append_left a).trans List.perm_middle
def Rws.put{i:Nat}{m:Nat}{c:fI}(h:Rws i m c){j:Nat}{l:fM}(d:c[j]?=some l):Rws (~~~(i+1)) m (c.set j (l++[~~~i])):=by
 have hl:=Î d;refine⟨by rw[List.length_set];exact h.len,λa ha=>?_,λa ha x b=>?_,?_⟩
 ·rcases List.mem_or_eq_of_mem_set ha with z|rfl
  ·exact h.srt a z
  ·refine List.pairwise_append.mpr ⟨h.srt l hl,by simp,λx b y hy=>?_⟩;rw[Í.mp hy];exact(h.rng l hl x b).2
 ·rcases List.mem_or_eq_of_mem_set ha with z|rfl
  ·have:=h.rng a z x b;lia
  ·rcases Û.mp b with z|z
   ·have:=h.rng l hl x z;lia
   ·rw[Í.mp z];lia
 ·refine(DW _ d).symm.nodup ?_;refine ŀ.mpr ⟨λz=>?_,h.nd⟩;let⟨a,ha,b⟩:=List.mem_flatten.mp z;have:=(h.rng a ha _ b).2;lia
theorem pC:∀{A B:fI},A.Sublist B->A.flatten.Sublist B.flatten
 |_,_,.slnil=>.slnil
 |_,_,.cons b h=>by
  rw[ú];exact(pC h).trans (List.sublist_append_right _ _)
 |_,_,.cons₂ b h=>by
  rw[ú,ú];exact(List.Sublist.refl b).append (pC h)
def fFm:FF:=λds P=>∃n:Int,ds=[.int n]/\1<=n/\n<=8/\∀L:fI,QC n L->⇑L<=8->P (.list (L.map iD))
def ZL:FF:=λds P=>∃(n:Nat)(A:fN),ds=[.int (~~~n),.list (A.map pD)]/\1<=n/\n<=8/\⇑A<=24/\GdN n A/\∀B:fN,⇑B<=⇑A+1->GdN n B->XH B->P (.list (B.map pD))
theorem PJ(f:Tie->D):∀(l:fN)(i:Nat),(l.map f).eraseIdx i=(l.eraseIdx i).map f
 |[],_=>rfl
 |_::_,0=>rfl
 |_::l,i+1=>fv _ (PJ f l i)
section
variable{P:Zg}{w:Zl}{K:Ý}{mg:Str->gf}{gy:Heap}{f:Addr}{fd:WS}{CN:Addr}
def nY:FnScope [aa,ai,"_law_rows",bo] [aa,ai] (au (top 69)):=zC
def sJ:([br,aa,ai,"_law_rows",bo]:List Str).Nodup:=⋯
def sI:([aw,aa,ai,"_law_rows",bo]:List Str).Nodup:=⋯
abbrev kA8(P w K mg gy):=1∪bd∪[aa,ar]∪spP CP rR
def wJ(F:Fun K cE cE (top 69) f fd)(B:į mg)(t:kA8 P w K mg gy):2∩[aa,ai]∩spP CP fFm:=by
 refine F.ok nY fW (λcdv A outer s H vs Q E hr h=>?_);have u:=nY.nd;refine⟨_,Wr.WDSs.h (Ï (Wr.qx 0 [br] (i:=2) rfl u rfl zQ (ő B.range (Á (ĩ Ð (Wr.dcP t hr (ū 0) (Á (Ê 1) Ä))) Ä)) (λc=>(ç (i:=0) sJ rfl zQ)))
  (Ï (Š ï rfl (ő B.range (Á (Ê 1) Ä)) (ç (i:=3) u rfl zQ) (Ï (Wr.nC (ū 2) (Wr.dcP t hr (ū 0) (Á (İ B.len (Á (Ê 2) Ä)) Ä)) (Á (Ê 3) Ä)) (ø [3] Ā)))
  (ø [3] (ð (ÿ (Ũ [aw] rfl (Ğ (Ê 2)) (λc=>(ç (i:=0) sI rfl zQ)) (λc=>(ż (Wr.jt ou ou Ð (İ B.len (Á (Ê 0) Ä)) (Ê 2)))) (λc=>(Ê 0)))))))),enterQ h ?_⟩
 rintro ds P ⟨n,rfl,I,J,q⟩;refine⟨[.im (.int n),.any,.any],rfl,?_⟩;refine⟨rfl,n,rfl,(),(),λr r0 r1=>⟨⟨(),()⟩,by rw[Ĭ];lia,rfl,?_⟩⟩;rw[Ĭ];have hm:1<=(1+r).toNat/\(1+r).toNat<=8:=()
 generalize (1+r).toNat=m at hm;refine⟨⟨(),()⟩,rfl,λ(i:Nat) ρ=>∃a:fI,ρ=[.pen CP,.im (.int n),.rw 0 (rD a),.any]/\Rws i m a,?_,?_,?_⟩
 ·refine⟨Ë m [],?_,ė ..,λl hl=>?_,λl hl x hx=>?_,?_⟩
  ·unfold rD;rw[List.map_replicate];rfl
  ·rw[(ę.mp hl).2];exact .nil
  ·rw[(ę.mp hl).2]at hx;cases hx
  ·simp
 ·rintro i d ρ hd ⟨a,rfl,R⟩;let⟨hi,rfl⟩:=ŕ hd;have p:⇑((rD a).map Č)=m:=by unfold rD;rw[À,À];exact R.len
  refine⟨rfl,_,rfl,by rw[p];lia,by rw[p];lia,λj j0 j1=>?_⟩;rw[p]at j1;have C:j.toNat<⇑a:=by rw[R.len];lia
  have h1:=Å C;generalize a[j.toNat]=l at h1;have hl:=Î h1;have D:⇑l<=8:=by
   have:=Dr (R.srt l hl) (R.rng l hl) ();lia
  refine⟨j.toNat,l.map Â,?_,by unfold rD;rw[Þ,h1];rfl,rfl,by rw[À];lia,a.set j.toNat (l++[~~~i]),?_,R.put h1⟩
  ·unfold ixN;unfold rD;rw[fo j0,fo (by rw[À,R.len];lia)]
  ·have e:(rD a).set j.toNat (l.map Â++[Â (0+~~~i)])=rD (a.set j.toNat (l++[~~~i])):=by
    unfold rD;rw[List.map_set,Ö,Ŏ];rfl
   rw[←e];rfl
 rintro ρ ⟨a,rfl,R⟩;rw[Ĭ]at R;have v:(rD a).map Č=a.map iD:=by unfold rD;rw[ô];rfl
 have G:⇑a<=8:=by have:=R.len;lia
 refine⟨by unfold rD;rw[À,À];lia,.n0,λi ys=>∃L:fI,ys=L.map iD/\L.Sublist (a.take i)/\∀l∈L,Proper n l,⟨[],rfl,List.nil_sublist _,λl h=>nomatch h⟩,?_,?_⟩
 ·rintro i d ys hd ⟨L,rfl,hs,g⟩;have hd:(a.map iD)[i]?=some d:=by rw[←v];exact hd
  let⟨l,hl,rfl⟩:=bH hd;have hm:=Î hl;have tk:a.take (i+1)=a.take i++[l]:=by rw[Ē,hl];rfl
  have D:⇑(l.map Â)=⇑l:=À ..;have b:∃L':fI,L.map iD=L'.map iD/\L'.Sublist (a.take (i+1))/\∀l∈L',Proper n l:=⟨L,rfl,by rw[tk];exact hs.trans (List.sublist_append_left _ _),g⟩
  refine d9 (λk=>?_) (λk=>aJ (A:=True) (aJ (A:=True) b));have k:(0:Int)<(⇑(l.map Â):Nat):=fk k;refine d9 (λo=>?_) (λo=>aJ (A:=True) b);have o:(⇑(l.map Â):Int)<n:=fk o;refine aF (B:=True) ⟨rfl,L++[l],by rw[Ö];rfl,?_,λx hx=>?_⟩
  ·rw[tk];exact hs.append (List.Sublist.refl [l])
  ·rcases Û.mp hx with z|z
   ·exact g x z
   ·rw[Í.mp z];exact⟨(),(),λy hy=>by have:=R.rng l hm y hy;lia,R.srt l hm,()⟩
 ·rintro ys ⟨L,rfl,hs,g⟩;have hs:=hs.trans (List.take_sublist _ _);exact⟨rfl,q L ⟨g,R.nd.sublist (pC hs)⟩ (ĉ hs.length_le G)⟩
def pH:FnScope [aa,ai,et,df] [aa,ai,et] (au (top 70)):=zC
def zH(F:Fun K dq dq (top 70) f fd)(B:į mg)(k:kA8 P w K mg gy)(u:2∪db∪[aa,ai]∪spP CP Iw):3∩[aa,ai,et]∩spP CP ZL:=by
 refine F.ok pH fW (λcdv A outer s H vs Q E hr h=>?_);have x:=pH.nd;refine⟨_,Wr.WDSs.h (Ï (ñ (some 0) (i:=3) x rfl zQ (Wr.sZ B.list (Á (Ê 2) Ä)))
  (Ï (Ő (Wr.wpt (ű (Wr.fU hr.units (Ê 3) (Ī Ä)) (ť (Wr.fV hr.units (Wr.dcP k hr (ū 0) (Á Ð Ä)) Ð)))) (ð (Wr.Av (ū 3) (Á (Wr.dcP k hr (ū 0) (Á (İ B.len (Á (Ê 3) Ä)) Ä)) Ä))) Ā)
  (Ï (Ő (Wr.wpt (ű (Wr.iz (Ê 1) Ð) (ť (Wr.fV hr.units (Wr.dcP k hr (ū 0) (Á Ð Ä)) Ð)))) (ð (Wr.gY (ū 3) (Á (Wr.dcP u hr (ū 0) (Á (Ê 1) Ä)) Ä))) Ā)
  (ð (ÿ (Wr.pR B.sorted (Á (Ê 3) Ä))))))),enterQ h ?_⟩
 rintro ds P ⟨n,A,rfl,C,v,y,l,q⟩;refine⟨[.im (.int (~~~n)),.sh (.list (A.map pD)),.any],rfl,?_⟩;have d:∀B:fN,⇑B<=⇑A+1->GdN n B->Bd (tCl vM (aX (tV 3) eF)) { nx:=λ_=>P .none,rt:=P } [.pen CP,.im (.int (~~~n)),.sh (.list (A.map pD)),.dw 0 (.list (B.map pD))]:=λB lB gB=>by
  refine⟨B,.inl rfl,.inl (),gB.nice v,λws hp hs=>⟨rfl,q ws (by rw[hp.length_eq];exact lB) (λt ht=>gB t (hp.mem_iff.mp ht)) hs⟩⟩
 have e:∀B:fN,⇑B<=⇑A->GdN n B->Bb (dIf (Tp (dZ (t2 (gI0 λi j=>.bool (decide (j<i))) (tV 1) (tK (.int 1)))) (dZ (t2 (nU false) (Lb CP rR 0 (aX (tK (.int 2)) eF)) (tK (.int 0))))) (Tn 3 (Lb CP Iw 0 (aX (tV 1) eF))) vV)
   (Bd (tCl vM (aX (tV 3) eF))) { nx:=λ_=>P .none,rt:=P } [.pen CP,.im (.int (~~~n)),.sh (.list (A.map pD)),.dw 0 (.list (B.map pD))]:=λB lB gB=>by
  refine d9 (λm=>?_) (λ_=>d B () gB);have m:(1:Int)<(~~~n):=fk m;refine⟨rfl,2,rfl,∅,∅,λr r0 g=>d9 (λ_=>?_) (λ_=>d B () gB)⟩;refine⟨rfl,~~~n,rfl,(),(),λa b a0 a1 b0 b1 p=>⟨rfl,by rw[À];lia,?_⟩⟩;have:=d (B++[(a,b)]) (by rw[É];show ⇑B+1<=⇑A+1;lia) (λt ht=>by
   rcases Û.mp ht with z|z
   ·exact gB t z
   ·rw[Í.mp z];exact⟨⟨a0,a1⟩,⟨b0,b1⟩,p⟩)
  rw[Ö]at this;exact this
 have o:⇑(A.map pD)=⇑A:=À ..;refine đ (And.intro (dz A) ?_);refine⟨zK,zO A,rfl,?_⟩;show if(!PyData.eqv (.list (A.map pD)) (.list []))=true then _ else _
 refine d9 (λc=>?_) (λ_=>e A (Ì _) l);have p:1<=⇑A:=by
  cases A with
  |nil=>cases c
  |cons t A=>rw[à];lia
 refine⟨rfl,2,rfl,∅,∅,λr r0 g=>d9 (λ_=>?_) (λ_=>e A (Ì _) l)⟩;have o:⇑(A.map pD)=⇑A:=À ..;refine⟨rfl,_,rfl,(),(),λr r0 g=>?_⟩;have g:r<⇑A:=()
 refine⟨(),(),r.toNat,by rw[o];exact UB r0 g,(),?_⟩;have:=e (A.eraseIdx r.toNat) (List.length_eraseIdx_le ..) λt ht=>l t (List.mem_of_mem_eraseIdx ht);rw[←PJ]at this;exact this
def uq(A:fN)(s:Str)(F:fI):D:=.tuple [.list (A.map pD),.str s,.list (F.map iD)]
def ZF:FF:=λds P=>∃(n k:Nat)(us A:fN)(s:Str)(F:fI),ds=[aC (~~~n) us,.int ((k:Int) - 1),uq A s F]/\1<=n/\n<=6/\1<=k/\k<=2/\⇑us<=40/\RgT n us/\OneOk n k us A s F/\P (.bool true)
def Ws{l:gg}{ρ:List Sl}{i:Nat}:Dl.stK none ρ i (norm .shr (.list l)) (.list l)=some (.sh (.list l)):=by
 rw[iG (d:=.list l) (λz=>nomatch z)];rfl
def fB:FnScope [aa,ac,ah,de,"_law_turn",aw,d6,"_law_family_here"] [aa,ac,ah,de] (au (top 71)):=zC
def jY(F:Fun K aS aS (top 71) f fd)(B:į mg)(z:3∪dq∪[aa,ai,et]∪spP CP ZL)(u:kA8 P w K mg gy)(D:2∪cE∪[aa,ai]∪spP CP fFm)(I:11∪cy∪[al,ag,el,az,cm]∪spD ZQ)(y:kA7 P w K mg gy):12∩[aa,ac,ah,de]∩spP CP ZF:=by
 refine F.ok fB fW (λcdv A outer s H vs Q E hr h=>?_);have j:=fB.nd;refine⟨_,Wr.WDSs.h (Ï (Š ï rfl (ő B.range (Á Ð Ä)) (ç (i:=4) j rfl zQ) (Ï (ñ none (i:=5) j rfl zQ (Wr.dcP z hr (ū 0) (Á (ã (Ê 1) Ð) (Á (ã (Ê 3) Ð) Ä))))
  (Ï (ñ none (i:=6) j rfl zQ (ã (Ī (Á Wr.eG (Á Wr.eG (Á (ã (Ê 3) Ð) Ä)))) (Wr.dcP u hr (ū 0) (Á Ð Ä))))
  (Ï (ñ none (i:=7) j rfl zQ (ã (Ī (Á (ã (Ê 3) Ð) (Á (Wr.dcP D hr (ū 0) (Á (ã (Ê 1) Ð) Ä)) Ä))) (Wr.dcP u hr (ū 0) (Á Ð Ä))))
  (Ï (Ő (Wr.bG (ł I hr (Á (Ê 1) (Á (Ê 2) (Á (Ê 5) (Á (Ê 6) (Á (Ê 7) Ä))))))) (ð (Ő (Wr.wpt (Wr.jc (Wr.fU hr.units (İ B.len (Á (Ê 5) Ä)) (İ B.len (Á (ã (Ê 3) Ð) Ä))) (Wr.gG (Wr.cF (Wr.bG (ł y hr (Á (Ġ (Á (ã (Ê 1) Ð) (Á (ĩ (ã (Ê 1) Ð) (Wr.gJ B.tuple (Á (Ê 5) Ä))) Ä))) (Á (Ê 2) Ä)))))))) (ð (ÿ Wr.gb)) Ā)) Ā) (ø [4,5,6,7] Ā))))))
  (ø [4,5,6,7] (ð (ÿ Wr.gb)))),enterQ h ?_⟩
 rintro ds P ⟨n,k,a,A,s,F,rfl,c,U,Z,R,lu,hu,h,q⟩;have e:n<=8:=()
 have l:k<=3:=()
 let⟨m,O,sm,st⟩:=fH c e l hu h;have nk:=Nt c e hu h;have x:n * k<=6 * 2:=Ş U R;let⟨V,C,S⟩:=jD c e h.pap.fam;refine⟨[.im (aC (~~~n) a),.im (.int ((k:Int) - 1)),.sh (uq A s F),.any,.any,.any,.any],sU rfl,?_⟩;refine⟨⟨∅,∅⟩,rfl,λ(i:Nat) ρ=>ρ=[.pen CP,.im (aC (~~~n) a),.im (.int ((k:Int) - 1)),.sh (uq A s F),.any,.any,.any,.any],rfl,?_,?_⟩
 rotate_left
 ·rintro ρ rfl;exact⟨rfl,q⟩
 rintro i d ρ hd rfl;let⟨hi,rfl⟩:=ŕ hd;refine⟨rfl,.int (~~~n),rfl,.list (A.map pD),rfl,n,A,rfl,c,e,m,O,λB lB gB rB=>?_⟩;refine⟨.str s,rfl,zK,rfl,3,rfl,∅,∅,λr r0 r1=>?_⟩;obtain⟨t,N,ht⟩:∃t:Str,atI [PyData.str bS,.str bg,.str s] r=some (.str t)/\(t=bS\/t=bg):=by
  rcases(():r=0\/r=1\/r=2)with rfl|rfl|rfl
  ·exact⟨_,rfl,.inl rfl⟩
  ·exact⟨_,rfl,.inr rfl⟩
  ·exact⟨_,rfl,h.pap.side⟩
 refine⟨.str t,N,?_⟩;refine⟨.list (F.map iD),rfl,rfl,.int (~~~n),rfl,~~~n,rfl,(),(),λG fG lG=>⟨zK,rfl,2,rfl,∅,∅,λr2 r20 r21=>?_⟩⟩;obtain⟨M,J,v,T⟩:∃M:fI,atI [Č (F.map iD),.list (G.map iD)] r2=some (.list (M.map iD))/\QC (~~~n) M/\⇑M<=60:=by
  rcases(():r2=0\/r2=1)with rfl|rfl
  ·exact⟨F,rfl,⟨V,C⟩,S⟩
  ·exact⟨G,rfl,fG,()⟩
 refine⟨.list (M.map iD),J,?_⟩;refine eY (k:=.shr) (d:=.list (M.map iD)) (s:=.sh (.list (M.map iD))) Ws ?_;have nx:∀E:DEnds,(E.nx [.pen CP,.im (aC (~~~n) a),.im (.int ((k:Int) - 1)),.sh (uq A s F),.any,.any,.any,.any])->rE [4,5,6,7] vV E [.pen CP,.im (aC (~~~n) a),.im (.int ((k:Int) - 1)),.sh (uq A s F),.im (.int (0+~~~i)),.sn (.list (B.map pD)),.im (.str t),.sh (.list (M.map iD))]:=λE h=>h;refine⟨n,a,B,(k:Int) - 1,t,M,rfl,c,e,(),(),(),hu,T,ht,gB,rB,v,λb hb=>?_⟩;cases b with
 |false=>exact rfl
 |true =>
  let⟨h1,h2⟩:=hb.mp rfl;have g:Std n k (a++B):=λX hX=>by
   have:=h2 X hX;lia
  have W:=gU c e l hu h (B:=B) gB.rg g;have Y:=zu c e l hu h v ht;have L:⇑B=⇑A:=()
  have p:⇑(B.map pD)=⇑B:=À ..;have o:⇑(A.map pD)=⇑A:=À ..;refine⟨.list (A.map pD),rfl,?_⟩;show if(!decide ((⇑(B.map pD):Int)=(⇑(A.map pD):Int)))=true then _ else _
  rw[p,o,L,gz rfl];refine aJ (A:=True) ⟨.int (~~~n),rfl,.tuple (a.map pD),rfl,by rw[À,À];lia,zK,n,k,a++B,?_,c,e,by rw[É];lia,hu.app gB.rg,λb hb=>?_⟩
  ·show [PyData.tuple [.int (~~~n),.tuple (a.map pD++B.map pD)],_]=_;rw[←Ö];rfl
  obtain rfl:b=true:=hb.mpr g;exact rfl
end
abbrev CLs(us:fN)(N:Nat):fI:=fu (RB us) N N
def Xo{d:fN}{N y:Nat}(l:y<N):zI (bM (RB d) N y)∈CLs d N:=by
 let⟨j,c,f,g⟩:=xZ d (N:=N) (x:=(~~~y)) () ();have hm:=Î f;let⟨a,_,rfl,k,_⟩:=uf f;let⟨b,hb,e⟩:=qU.mp g;obtain rfl:y=b:=()
 let⟨_,h,i⟩:=iH.mp hb
 rwa [mZ h i]at hm
def rG{b:fN}{N:Nat}{c:fM}(h:c∈CLs b N):∃a,a<N/\c=zI (bM (RB b) N a)/\(~~~a)∈c:=by
 let⟨j,f⟩:=Ķ h;let⟨a,_,e,d,hh⟩:=uf f;refine⟨a,d,e,?_⟩;rw[e];exact qU.mpr ⟨a,List.mem_of_mem_head? (by rw[hh];rfl),rfl⟩
def nj{a:fN}{N y:Nat}{x:Int}:x∈zI (bM (RB a) N y)↔∃b:Nat,x=(~~~b)/\b<N/\RB a y b=true/\RB a b y=true:=by
 rw[qU];exact⟨λ⟨b,hb,e⟩=>⟨b,e,iH.mp hb⟩,λ⟨b,e,h⟩=>⟨b,iH.mpr h,e⟩⟩
def Xh{a:fN}{c:fM}:bF a c=false↔∀t∈a,t.2∈c->t.1∈c:=by
 unfold bF;rw[List.any_eq_false];refine forall_congr' λt=>forall_congr' λ_=>?_;unfold GD;rw[Ü,ů,List.contains_iff_mem,←Bool.not_eq_true,List.contains_iff_mem];exact⟨λh h2=>ù λh1=>h ⟨h1,h2⟩,λh ⟨h1,h2⟩=>h1 (h h2)⟩
def w5{a:fN}{l:fM}(cl:∀t∈a,t.2∈l->t.1∈l){w x:Int}(r:Rt a w x):x∈l->w∈l:=by
 induction r with
 |refl=>exact id
 |step _ t b=>exact λh=>b (cl _ t h)
theorem yx{a:fN}{N:Nat}(hu:RgT N a){l:fM}(cl:∀t∈a,t.2∈l->t.1∈l):∀(k y:Nat),⇑((Ø N).filter λz=>RB a z y)<=k->y<N->(~~~y)∈l->∃c∈CLs a N,bF a c=false/\∀x∈c,x∈l
 |0,y,h,hy,_=>by
  have:y∈(Ø N).filter λz=>RB a z y:=â.mpr ⟨ò.mpr hy,ug a y⟩;rw[ŵ.mp (Nat.le_zero.mp h)]at this;cases this
 |k+1,y,h,hy,hl=>by
  cases e:bF a (zI (bM (RB a) N y))with
  |false =>
   refine⟨_,Xo hy,e,λx hx=>?_⟩;let⟨b,rfl,_,_,r⟩:=nj.mp hx;exact w5 cl (jj.mp r) hl
  |true =>
   unfold bF at e;let⟨t,ht,e⟩:=Ŷ.mp e;unfold GD at e;rw[Ü,ů,List.contains_iff_mem,←Bool.not_eq_true,List.contains_iff_mem]at e;let⟨w,i,s,q,m⟩:=nj.mp e.2;have o:=(hu t ht).1;have f:t.1=(~~~t.1.toNat):=()
   have n:RB a t.1.toNat w=true:=jj.mpr (by rw[←f,←i];exact Rt.step (.refl _) ht);have d:=gn n m;have j:RB a y t.1.toNat=false:=Bool.eq_false_iff.mpr λz=>e.1 (nj.mpr ⟨t.1.toNat,f,(),z,d⟩);refine yx hu cl k t.1.toNat ?_ () (w5 cl (jj.mp d) hl);have g:((Ø N).filter λz=>RB a z t.1.toNat)=((Ø N).filter λz=>RB a z y).filter λz=>RB a z t.1.toNat:=by
    rw[List.filter_filter];refine List.filter_congr λz _=>?_;cases c:RB a z t.1.toNat with
    |false=>rfl
    |true=>rw[gn c d];rfl
   have:=ŗ (p:=λz=>RB a z t.1.toNat) (l:=(Ø N).filter λz=>RB a z y) |>.mpr ⟨y,â.mpr ⟨ò.mpr hy,ug a y⟩,by rw[j];exact Ù⟩
   rw[g];lia
theorem tM:∀(F S:fI)(w:fM->Int),(∀c∈S,c≠[])->F.flatten.Nodup->(∀l∈F,w l<=0\/(w l<=1/\∃c∈S,∀x∈c,x∈l))->(F.map w).sum<=(⇑S:Int)
 |[],S,w,_,_,_=>by simp
 |l::F,S,w,hS,a,hw=>by
  rw[ú]at a;have a:=List.nodup_append.mp a;rw[é,Ė];rcases hw l Æ with h|⟨h,c,hc,b⟩
  ·have:=tM F S w hS a.2.1 λm hm=>hw m (Ç _ hm);lia
  ·have lt:=ŗ (p:=λc=>!c.all λx=>decide (x∈l)) (l:=S) |>.mpr ⟨c,hc,by
    rw[Ċ.mpr λx hx=>gz (b x hx)];exact Ù⟩
   have:=tM F (S.filter λc=>!c.all λx=>decide (x∈l)) w (λc hc=>hS c (â.mp hc).1) a.2.1 λm hm=>by
    rcases hw m (Ç _ hm)with h|⟨h,d,hd,e⟩
    ·exact .inl h
    ·refine .inr ⟨h,d,â.mpr ⟨hd,?_⟩,e⟩;rw[ů];refine Bool.eq_false_iff.mpr λz=>?_;cases d with
     |nil=>exact hS _ hd rfl
     |cons x r =>
      have h1:x∈l:=fk (Ċ.mp z x Æ);exact a.2.2 x h1 x (List.mem_flatten.mpr ⟨m,hm,e x Æ⟩) rfl
   lia
section
variable{us:fN}{N:Nat}
def Xp{c:fM}(h:c∈CLs us N):c≠[]:=by
 let⟨a,_,_,ha⟩:=rG h;exact List.ne_nil_of_mem ha
def TJ(hu:RgT N us){F:fI}(b:∀l∈F,Proper (~~~N) l)(a:F.flatten.Nodup):(F.map (WO us ((~~~(1)) - 1) bS)).sum<=(⇑((CLs us N).filter λc=>!bF us c):Int):=by
 refine tM F _ _ (λc hc=>Xp (â.mp hc).1) a λl hl=>?_;rw[wB (k:=1) (cD hu) l];by_cases c:Cut.di us (mb l)=0
 ·have cl:∀t∈us,t.2∈l->t.1∈l:=λt ht h2=>ù λh1=>by
   unfold Cut.di at c;rw[List.countP_eq_zero]at c;refine c t ht ?_;unfold mb;rw[fi h1,gz h2];rfl
  have p:=b l hl;cases l with
  |nil=>have:=p.one;exact ft this ∅
  |cons x r =>
   have d:=p.rng x Æ;let⟨c,hc,h1,h2⟩:=yx hu cl _ x.toNat (Ì _) () (by rw[show(~~~x.toNat)=x by lia];exact Æ);exact .inr ⟨(),c,â.mpr ⟨hc,by rw[h1];rfl⟩,h2⟩
 ·exact .inl ()
def oO{a b:Int}:(a,b)∈swT us↔(b,a)∈us:=by
 unfold swT;rw[è];exact⟨λ⟨t,ht,e⟩=>by cases e;exact ht,λh=>⟨_,h,rfl⟩⟩
def GX:CLs (swT us) N=CLs us N:=Qq (λa b h=>oO.mpr h) (λa b h=>oO.mp h) N N
def Aq(c:fM):bF (swT us) c=cA us c:=(DY (λa b h=>oO.mpr h) (λa b h=>oO.mp h) c).1
def Vb(hu:RgT N us){F:fI}(b:∀l∈F,Proper (~~~N) l)(a:F.flatten.Nodup):(F.map (WO us ((~~~(1)) - 1) bg)).sum<=(⇑((CLs us N).filter λc=>!cA us c):Int):=by
 have:=TJ hu.sw b a;rw[GX,List.filter_congr (q:=λc=>!cA us c) λc _=>by rw[Aq]]at this;rw[Ĝ (g:=WO (swT us) ((~~~(1)) - 1) bS) λl _=>by rw[wB (k:=1) (cJ hu) l,wB (k:=1) (cD hu.sw) l,IV]];exact this
def zR(p:fM->Bool)(a:fI):⇑(wK p a ⇑a)=⇑(a.filter p):=by
 have e:a=(Ø ⇑a).map λj=>a.getD j []:=by
  refine List.ext_getElem? λi=>?_;rw[Þ];by_cases h:i<⇑a
  ·rw[List.getElem?_range h,Å h];show _=some (a.getD i []);rw[Ò,Å h];rfl
  ·rw[List.getElem?_eq_none (),List.getElem?_eq_none (by rw[ā];lia)];rfl
 unfold wK;rw[À]
 conv=>rhs;rw[e]
 rw[List.filter_map,À];rfl
theorem Im:∀(L:fI),(∀l∈L,l.Nodup)->Tz L->L.flatten.Nodup
 |[],_,_=>.nil
 |l::L,h,d=>by
  rw[ú];refine List.nodup_append.mpr ⟨h l Æ,Im L (λm hm=>h m (Ç _ hm)) λi j a b x h1 h2 ha hb=>by
   have:=d (i+1) (j+1) a b x h1 h2 ha hb;lia,λx hx y hy e=>?_⟩
  subst e;let⟨m,hm,c⟩:=List.mem_flatten.mp hy;let⟨j,f⟩:=Ķ hm;have:=d 0 (j+1) l m x rfl f hx c;lia
theorem uz{w:fM->Int}:∀(G:fI),(∀l∈G,w l=1)->(G.map w).sum=(⇑G:Int)
 |[],_=>rfl
 |l::G,h=>by
  rw[é,Ė,h l Æ,uz G λm hm=>h m (Ç _ hm),à];lia
def Hf{α:Type}{L:List α}{a b:α}(ha:a∈L)(hb:b∈L)(c:a≠b):2<=⇑L:=by
 cases L with
 |nil=>cases ha
 |cons x L =>
  cases L with
  |nil=>exact ft ((Í.mp ha).trans (Í.mp hb).symm) c
  |cons y L=>rw[à,à];lia
def Sh{α:Type}{L:List α}(h:2<=⇑L)(a:L.Nodup)(c:α):∃d∈L,d≠c:=by
 cases L with
 |nil=>exact ft h (by simp)
 |cons x L =>
  cases L with
  |nil=>exact ft h (by simp)
  |cons y L =>
   by_cases e:x=c
   ·refine⟨y,Ç _ Æ,λz=>?_⟩;exact(ŀ.mp a).1 (by rw[e,←z];exact Æ)
   ·exact⟨x,Æ,e⟩
def Xq:(CLs us N).flatten.Nodup:=by
 refine Im _ (λl hl=>?_) (v9 us N);let⟨a,_,e,_⟩:=rG hl;rw[e];unfold zI bM;exact List.Pairwise.map _ (λa b (n:a≠b) z=>n ()) (List.nodup_range.filter _)
def Tq:(CLs us N).Nodup:=by
 have d:=v9 us N;refine List.pairwise_iff_getElem.mpr λi j hi hj ij e=>?_;let⟨a,_,_,ha⟩:=rG (Ĥ hj);have:=d i j _ _ _ (Å hi) (Å hj) (by rw[e];exact ha) ha;lia
def GZ(h:N<=16)(h2:2<=⇑(CLs us N)){c:fM}(hc:c∈CLs us N):Proper (~~~N) c:=by
 let⟨d,hd,j⟩:=Sh h2 Tq c;let⟨a,o,e,ha⟩:=rG hc;let⟨b,f,g,hb⟩:=rG hd;have i:(~~~b)∉c:=λz=>by
  rw[e]at z;let⟨y,q,_,k,m⟩:=nj.mp z;obtain rfl:b=y:=()
  exact j (by rw[e,g,mZ k m])
 refine⟨?_,?_,λx hx=>?_,?_,()⟩
 ·cases c with
  |nil=>cases ha
  |cons x r=>rw[à];lia
 ·have:=ŗ (p:=λb=>RB us a b&&RB us b a) (l:=Ø N) |>.mpr ⟨b,ò.mpr f,λz=>by
   rw[Ü]at z;exact i (by rw[e];exact nj.mpr ⟨b,rfl,f,z.1,z.2⟩)⟩
  rw[ā]at this;rw[e];unfold zI bM;rw[À];lia
 ·rw[e]at hx;let⟨y,rfl,s,_⟩:=nj.mp hx;lia
 ·rw[e];unfold zI bM;exact List.Pairwise.map _ (λa b (n:a<b)=>()) (List.pairwise_lt_range.filter _)
def Jf(a:N<=16)(h2:2<=⇑(CLs us N))(p:fM->Bool):QC (~~~N) ((CLs us N).filter p) :=
 ⟨λl hl=>GZ a h2 (â.mp hl).1,Xq.sublist (pC List.filter_sublist)⟩
def IK{c:fM}(h:bF us c=false):Cut.di us (mb c)=0:=by
 unfold Cut.di;rw[List.countP_eq_zero];intro t ht z;rw[Ü]at z;have h2:=Xh.mp h t ht (fk z.2);have:=z.1;unfold mb at this;rw[gz h2]at this;cases this
theorem rF(p q:fM->Bool):∀L:fI,⇑(L.filter λc=>!p c)=⇑(L.filter λc=>!p c&&q c)+⇑(L.filter λc=>!p c&&!q c)/\⇑(L.filter λc=>!q c)=⇑(L.filter λc=>p c&&!q c)+⇑(L.filter λc=>!p c&&!q c) /\
  ⇑(L.filter λc=>!p c || !q c)=⇑(L.filter λc=>!p c&&q c)+⇑(L.filter λc=>p c&&!q c)+⇑(L.filter λc=>!p c&&!q c)
 |[]=>⟨rfl,rfl,rfl⟩
 |c::L=>by
  let⟨h1,h2,a⟩:=rF p q L;simp only[List.filter_cons];cases p c <;> cases q c <;> simp <;> lia
def Xv{A:fN}{s:Str}{F:fI}(n1:1<=N)(n8:N<=8)(hu:RgT N us)(h:OneOk N 1 us A s F) :
  ⇑A=if((CLs us N).filter λc=>!bF us c || !cA us c).length<2 then 0 else max ⇑((CLs us N).filter λc=>!bF us c&&cA us c) ⇑((CLs us N).filter λc=>bF us c&&!cA us c)+⇑((CLs us N).filter λc=>!bF us c&&!cA us c):=by
 let⟨s1,s2,s3⟩:=rF (bF us) (cA us) (CLs us N);have la:=(fH n1 n8 ∅ hu h).2.2.1;let⟨pF,dF,_⟩:=jD n1 n8 h.pap.fam;have up:⇑A<=⇑((CLs us N).filter λc=>!bF us c)\/⇑A<=⇑((CLs us N).filter λc=>!cA us c):=by
  rcases h.pap.side with e|e
  ·subst e;have:=TJ hu pF dF;left;lia
  ·subst e;have:=Vb hu pF dF;right;lia
 -- two classes,where a tie is asked for
 have two:1<=⇑A->2<=⇑((CLs us N).filter λc=>!bF us c || !cA us c):=λa1=>by
  have ex:∃l∈F,0<WO us ((~~~(1)) - 1) s l:=ù λno=>by
   have:(F.map (WO us ((~~~(1)) - 1) s)).sum<=(⇑([]:fI):Int):=tM F [] _ (λc hc=>nomatch hc) dF λl hl=>.inl (Int.not_lt.mp λz=>no ⟨l,hl,z⟩);have e0:(⇑([]:fI):Int)=0:=rfl;lia
  let⟨l,hl,hw⟩:=ex;have p:=pF l hl
  -- a set that no tie leads into,and what is left
  have gen:∀vs:fN,RgT N vs->Cut.di vs (mb l)=0->∃c∈CLs vs N,∃d∈CLs vs N,bF vs c=false/\cA vs d=false/\c≠d:=λvs hv d0=>by
   have cl:∀t∈vs,t.2∈l->t.1∈l:=λt ht h2=>ù λh1=>by
    unfold Cut.di at d0;rw[List.countP_eq_zero]at d0;refine d0 t ht ?_;unfold mb;rw[fi h1,gz h2];rfl
   have op:=FQ p;have cl2:∀t∈swT vs,t.2∈oth (~~~N) l->t.1∈oth (~~~N) l:=λt ht h2=>by
    have hs:=oO.mp (show(t.1,t.2)∈swT vs from ht);have hr:=(hv.sw t ht).1;have h2:=qe.mp h2;exact qe.mpr ⟨hr,λz=>h2.2 (cl _ hs z)⟩
   have fst:∀m:fM,Proper (~~~N) m->∃x:Nat,x<N/\(~~~x)∈m:=λm pm=>by
    cases m with
    |nil=>have:=pm.one;exact ft this ∅
    |cons x r =>
     have hx:=pm.rng x Æ;exact⟨x.toNat,(),by rw[show(~~~x.toNat)=x by lia];exact Æ⟩
   let⟨x,xN,hx⟩:=fst l p;let⟨y,yN,hy⟩:=fst _ op;let⟨c,hc,c1,c2⟩:=yx hv cl _ x (Ì _) xN hx;let⟨d,hd,d1,d2⟩:=yx hv.sw cl2 _ y (Ì _) yN hy;rw[Aq]at d1;rw[GX]at hd;refine⟨c,hc,d,hd,c1,d1,λe=>?_⟩;let⟨a,_,_,ha⟩:=rG hc;exact(qe.mp (d2 _ (e ▸ ha))).2 (c2 _ ha)
  rcases h.pap.side with e|e
  ·subst e;rw[wB (k:=1) (cD hu) l]at hw;let⟨c,hc,d,hd,c1,d1,ne⟩:=gen us hu ();exact Hf (â.mpr ⟨hc,by rw[c1];rfl⟩) (â.mpr ⟨hd,by rw[d1,Bool.not_false,Bool.or_true]⟩) ne
  ·subst e;rw[wB (k:=1) (cJ hu) l,←IV]at hw;let⟨c,hc,d,hd,c1,d1,ne⟩:=gen (swT us) hu.sw ();rw[GX]at hc hd;rw[Aq]at c1;have d1:bF us d=false:=by
    rw[←d1];exact((DY (λa b h=>oO.mpr h) (λa b h=>oO.mp h) d).2).symm
   exact Hf (â.mpr ⟨hc,by rw[c1,Bool.not_false,Bool.or_true]⟩) (â.mpr ⟨hd,by rw[d1];rfl⟩) ne
 by_cases c:⇑((CLs us N).filter λc=>!bF us c || !cA us c)<2
 ·rw[fo c];have:=two;lia
 ·rw[fq c];have h2:2<=⇑(CLs us N):=by
   have:=Ŕ (λc=>!bF us c || !cA us c) (CLs us N);lia
  have lo1:=zu n1 n8 ∅ hu h (Jf () h2 λc=>!bF us c) (t:=bS) (.inl rfl);have lo2:=zu n1 n8 ∅ hu h (Jf () h2 λc=>!cA us c) (t:=bg) (.inr rfl);rw[uz _ λl hl=>by
   have:=(â.mp hl).2;rw[ů]at this;rw[wB (k:=1) (cD hu) l,IK this];rfl]at lo1
  rw[uz _ λl hl=>by
   have:=(â.mp hl).2;rw[ů,←Aq]at this;rw[wB (k:=1) (cJ hu) l,←IV,IK this];rfl]at lo2
  lia
end
def Z2:FF:=λds P=>∃(n:Nat)(us:fN),ds=[aC (~~~n) us]/\1<=n/\n<=8/\⇑us<=40/\RgT n us/\∀c:Nat,(∀A s F,OneOk n 1 us A s F->⇑A=c)->P (.int (~~~c))
def ZK:FF:=λds P=>∃(n k:Nat)(us:fN),ds=[aC (~~~n) us,.int ((k:Int) - 1)]/\1<=n/\n<=6/\1<=k/\k<=2/\⇑us<=40/\RgT n us/\P (.bool true)
def O5{k:Kd}{a b c:D}{ρ:List Sl}{Q:List Sl->Prop}{i j l:Nat}(h:Q (((ρ.set i (BP (norm (norm k a) a) a)).set j (BP (norm (norm k b) b) b)).set l (BP (norm (norm k c) c) c))):vL (gNm i) (vL (gNm j) (vL (gNm l) O6)) k [a,b,c] ρ Q:=h
def Ve{A:fN}{s:Str}{F:fI}{ρ:List Sl}{i:Nat}:Dl.stK none ρ i (norm .new (uq A s F)) (uq A s F)=some (.sn (uq A s F)):=by
 rw[iG (d:=uq A s F) (λz=>nomatch z)];rfl
def KY{k:Kd}{n:Int}{a:fN}{ρ:List Sl}{i:Nat}:Dl.stK none ρ i (norm k (aC n a)) (aC n a)=some (.im (aC n a)):=by
 rw[iC (iU n a)];rfl
def CW{X A:Prop}(h:if false=true then A else X):X:=h
def uo{X A:Prop}{c:Bool}(n:X)(h:c=true->X->A):if c=true then A else X:=by
 cases c with
 |false=>exact n
 |true=>exact h rfl n
def p7(F:Fun K bt bt (top 68) f fd)(B:į mg)(m:3∪bi∪[al]∪spD ZW):4∩[ac]∩spD Z2:=by
 refine okT F (N:=[ac,"_law_firsts","_law_lasts","_law_alone"]) zC (λhr nd=>Ï (Wr.GF (ł m hr (Á (Ê 0) Ä)) (Wr.fQ (n:=3) rfl (ĥ (ç (i:=1) nd rfl zQ) (ĥ (ç (i:=2) nd rfl zQ) (ĥ (ç (i:=3) nd rfl zQ) Wr.dD)))))
  (Ï (Ő (Wr.uQ (ĩ (ĩ (İ B.len (Á (Ê 1) Ä)) (İ B.len (Á (Ê 2) Ä))) (İ B.len (Á (Ê 3) Ä))) Ð) (ð (ÿ Ð)) Ā)
  (ð (ÿ (ĩ (Wr.jL rfl B.max (Á (İ B.len (Á (Ê 1) Ä)) (Á (İ B.len (Á (Ê 2) Ä)) Ä))) (İ B.len (Á (Ê 3) Ä))))))) ?_
 rintro ds P ⟨n,d,rfl,p,r,t,hu,q⟩;refine⟨[.im (aC (~~~n) d),.any,.any,.any],sU rfl,?_⟩;refine⟨~~~n,d,rfl,(),(),(),hu,?_⟩;rw[ê];refine⟨rfl,O5 ?_⟩;have j:=zR (λc=>!bF d c&&cA d c) (CLs d n);have k:=zR (λc=>bF d c&&!cA d c) (CLs d n);have l:=zR (λc=>!bF d c&&!cA d c) (CLs d n);have sp:=(rF (bF d) (cA d) (CLs d n)).2.2;have g:∀A s F,OneOk n 1 d A s F->_:=λA s F=>Xv (A:=A) (s:=s) (F:=F) p r hu;rw[sp,←j,←k,←l]at g;generalize wK (λc=>!bF d c&&cA d c) (CLs d n) ⇑(CLs d n)=a at *;generalize wK (λc=>bF d c&&!cA d c) (CLs d n) ⇑(CLs d n)=b at *;generalize wK (λc=>!bF d c&&!cA d c) (CLs d n) ⇑(CLs d n)=c at *;clear j k l sp;have e:∀z:fM,⇑(z.map Â)=⇑z:=λz=>À ..;refine d9 (λh=>?_) (λh=>?_)
 ·have h:(⇑(a.map Â):Int)+(⇑(b.map Â):Int)+(⇑(c.map Â):Int)<2:=fk h;rw[e,e,e]at h;exact⟨rfl,q 0 λA s F hh=>by rw[g A s F hh,fo ()]⟩
 ·have h:¬(⇑(a.map Â):Int)+(⇑(b.map Â):Int)+(⇑(c.map Â):Int)<2:=λz=>h (gz z);rw[e,e,e]at h;refine⟨rfl,?_⟩;show P (.int ((if(⇑(b.map Â):Int) > (⇑(a.map Â):Int)then(⇑(b.map Â):Int)else(⇑(a.map Â):Int))+(⇑(c.map Â):Int)));rw[e,e,e];have q:=q (max ⇑a ⇑b+⇑c) λA s F hh=>by rw[g A s F hh,fq ()]
  have o:(if(⇑b:Int) > (⇑a:Int)then(⇑b:Int)else(⇑a:Int))+(⇑c:Int)=(~~~(max ⇑a ⇑b+⇑c)):=by
   split <;> lia
  rw[o];exact q
def pG:FnScope [aa,ac,ah,de,ar,"_law_back","_law_later"] [aa,ac,ah] (au (top 72)):=zC
def kY:([be,ca,aa,ac,ah,de,ar,"_law_back","_law_later"]:List Str).Nodup:=⋯
def zG(F:Fun K dt dt (top 72) f fd)(B:į mg)(u:kA6 P w K mg gy P1 PT)(L:4∪bt∪[ac]∪spD Z2)(M:12∪aS∪[aa,ac,ah,de]∪spP CP ZF):16∩[aa,ac,ah]∩spP (CT CP (d7 P1 PT)) ZK:=by
 refine F.ok pG fW (λcdv A outer s H vs Q E hr h=>?_);have r:=pG.nd;refine⟨_,Wr.WDSs.h (Ï (ñ none (i:=3) r rfl zQ (Wr.dcT (C:=CP) (i:=0) u.of3 hr (Á (Ê 1) (Á (Ê 2) Ä))))
  (Ï (ñ none (i:=4) r rfl zQ (İ B.len (Á (ã (Ê 3) Ð) Ä)))
  (Ï (ñ none (i:=5) r rfl zQ (Ġ (Á (ã (Ê 1) Ð) (Á (Wr.gJ B.tuple (Á (Wr.iB B.sorted (Á (Ũ [be,ca] rfl (Ğ (ã (Ê 1) Ð)) (λc=>(Wr.fQ (n:=2) rfl (ĥ (ç (i:=0) kY rfl zQ) (ĥ (ç (i:=1) kY rfl zQ) Wr.dD)))) (λc=>ŏ) (λc=>(Ġ (Á (Ê 1) (Á (Ê 0) Ä))))) Ä)) Ä)) Ä))))
  (Ï (Ő (Wr.wpt (Wr.jc (Wr.fU hr.units (İ B.len (Á (ã (Wr.dcT (C:=CP) (i:=0) u.of3 hr (Á (Ê 5) (Á (Ê 2) Ä))) Ð) Ä)) (Ê 4)) (Wr.gG (Wr.wpt (ű (Wr.fV hr.units (Ê 2) Ð) (ť (Wr.fU hr.units (ł L hr (Á (Ê 1) Ä)) (Ê 4)))))))) (ð (ÿ Wr.gb)) Ā)
  (Ï (Ő (Wr.wpt (ű (Wr.iz (Ê 4) Ð) (ť (Wr.uQ (İ B.len (Á (ã (Ê 1) Ð) Ä)) Ð)))) (Ï (ñ none (i:=6) r rfl zQ (Ġ (Á (ã (Ê 1) Ð) (Á (Wr.gJ B.tuple (Á (Wr.iB B.sorted (Á (ĩ (ã (Ê 1) Ð) (Ġ (Á (ã (ã (Ê 3) Ð) Ð) Ä))) Ä)) Ä)) Ä))))
  (ð (Ő (Wr.fU hr.units (İ B.len (Á (ã (Wr.dcT (C:=CP) (i:=0) u.of3 hr (Á (Ê 6) (Á (Ê 2) Ä))) Ð) Ä)) (Wr.cV (Ê 4) Ð)) (ð (ÿ Wr.gb)) Ā))) Ā)
  (ø [6] (ð (ÿ (Wr.dcP (Dl.Cal.plus (T:=d7 P1 PT) M) hr (ū 0) (Á (Ê 1) (Á (Ê 2) (Á (Ê 3) Ä)))))))))))),enterQ h ?_⟩
 rintro ds P ⟨n,k,a,rfl,b,O,p,N,D,hu,q⟩;have m:n<=8:=()
 have o:k<=3:=()
 have e:∀t:Tie,((0<=t.1/\t.1<(n:Int))/\0<=t.2/\t.2<(n:Int))->o8 t:=λt h=>⟨h.2.1,()⟩
 have l:∀a:fN,⇑(a.map pD)=⇑a:=λa=>À ..;refine⟨[.im (aC (~~~n) a),.im (.int ((k:Int) - 1)),.any,.any,.any,.any],sU rfl,?_⟩;refine⟨rfl,n,k,a,rfl,b,m,p,o,(),hu,λA s F h=>?_⟩;refine eY (k:=.new) (d:=uq A s F) (s:=.sn (uq A s F)) Ve ?_;refine⟨.list (A.map pD),rfl,?_⟩;refine⟨.int (~~~n),rfl,.tuple (a.map pD),rfl,by rw[l];lia,.imm,λi ys=>ys=(((a.take i).map λt=>(t.2,t.1)).map pD),rfl,?_,?_⟩
 ·rintro i d ys hd rfl;let⟨t,ht,rfl⟩:=bH hd;refine⟨rfl,aF (B:=True) ⟨zK,rfl,?_⟩⟩;dsimp only;rw[Ē,ht,Ö,Ö];rfl
 rintro ys rfl;rw[l a,þ,l A];refine⟨swT a,.inl rfl,by unfold swT;rw[À];lia,λt ht=>e t (hu.sw t ht),λvs hp _=>⟨zK,?_⟩⟩;have lv:⇑vs<=40:=by rw[hp.length_eq];unfold swT;rw[À];exact D
 refine eY (d:=aC (~~~n) vs) (s:=.im (aC (~~~n) vs)) KY ?_;have R:RgT n vs:=hu.sw.perm hp;refine⟨rfl,n,k,vs,rfl,b,m,p,o,(),R,λB t G g=>⟨.list (B.map pD),rfl,?_⟩⟩;show if(!decide ((⇑(B.map pD):Int)=(⇑A:Int)))=true then _ else _
 rw[l B,Nu b m o hu h hp g,gz rfl];refine aJ (A:=True) (uo (aJ (A:=True) ?_) λc x=>?_)
 ·refine uo (aJ (A:=True) ?_) λc x=>⟨.tuple (a.map pD),rfl,uo (CW x) λv x2=>?_⟩
  ·exact⟨rfl,n,k,a,A,s,F,rfl,b,O,p,N,D,hu,h,rfl,q⟩
  ·have c:(0:Int)<(⇑A:Int):=fk c;have v:(⇑(a.map pD):Int)<40:=fk v;rw[l a]at v;cases A with
   |nil=>exact ft c ∅
   |cons y A =>
    have J:=uW b m o hu h y Æ;refine⟨.int (~~~n),rfl,.tuple (a.map pD),rfl,.list ((y::A).map pD),rfl,pD y,cU (j:=0) rfl,?_⟩;refine⟨zK,(show(a.map pD).length+1<=1000 by rw[l a];lia),a++[y],.inr (by rw[Ö];rfl),by rw[É];show ⇑a+1<64;lia,λt ht=>e t ?_,λws hp2 _=>⟨zK,?_⟩⟩
    ·rcases Û.mp ht with z|z
     ·exact hu t z
     ·rw[Í.mp z];exact J
    have I:RgT n ws:=(hu.app λt z=>by rw[Í.mp z];exact J).perm hp2;have S:⇑ws<=41:=by rw[hp2.length_eq,É];show ⇑a+1<=41;lia
    refine eY (d:=aC (~~~n) ws) (s:=.im (aC (~~~n) ws)) KY ?_;refine⟨rfl,n,k,ws,rfl,b,m,p,o,(),I,λB t G g=>⟨.list (B.map pD),rfl,?_⟩⟩;show if(!decide ((⇑(B.map pD):Int)=(⇑(y::A):Int) - 1))=true then _ else _
    rw[l B,JC b m o hu h hp2 g,à,gz ()];exact aJ (A:=True) x2
 ·have c:(k:Int) - 1=0:=fk c;obtain rfl:k=1:=()
  refine⟨n,a,rfl,b,m,D,hu,λc hc=>?_⟩;show if(!decide (~~~c=(⇑A:Int)))=true then _ else _
  obtain rfl:=hc A s F h;rw[gz rfl];have x:=CW x;exact aJ (A:=True) x
def Lj(K:Ý)(T:Pn):Sp:=λvs H Q _=>∃(a:Addr)(ns:fM),vs=[.ref a]/\SqL K H a (ns.map V.int)/\T.PI H/\∀H',Q (.bl true) H'
def yt{H:Hp}{a:Addr}{xs:List V}(T:(d7 P1 PT).PI H)(r:Rd H a (.lst xs)):¬(d7 P1 PT).fp a:=λz=>by
 have h1:∀{Q:Addr}{pos:Pos}{u:Str},oM Q pos u H->a≠Q:=λ{Q pos u} ⟨ps,h,_⟩ z=>by
  subst z;rcases r with r|⟨o,r⟩
  ·rw[h]at r;cases r
  ·rw[h]at r;cases r
 rcases z with z|z
 ·exact h1 T.1 z
 ·exact h1 T.2 z
structure LawI(K:Ý)(P1 PT sc p:Addr)(ns:fM)(H:Hp):Prop where
 tab:(d7 P1 PT).PI H
 pen:yj p H
 scr:(Rd H sc (.lst (ns.map V.int))/\sc≠p)\/∀H',SqL K H' sc (ns.map V.int)
def Rd.keep{H b:Hp}{a:Addr}{u:HO}(h:Rd H a u)(k:∀o,H a=some o->b a=some o):Rd b a u:=h.imp (k _) λ⟨o,h⟩=>⟨o,k _ h⟩
def LawI.Mr{d p:Addr}{ns:fM}{H:Hp}(I:LawI K P1 PT d p ns H):¬(d7 P1 PT).fp p:=by
 let⟨a,b,c,h⟩:=I.pen;exact yt I.tab (.inl h)
def LawI.goT{g p:Addr}{ns:fM}{H d:Hp}(I:LawI K P1 PT g p ns H)(k:Kp (d7 P1 PT) H d)(t:(d7 P1 PT).PI d):LawI K P1 PT g p ns d:=by
 have i:=I.Mr;let⟨a,b,c,h⟩:=I.pen;exact⟨t,⟨a,b,c,k p _ h i⟩,I.scr.imp (λ⟨r,n⟩=>⟨Rd.keep r λo e=>k g o e (yt I.tab r),n⟩) id⟩
def LawI.goP{g p:Addr}{ns:fM}{H d:Hp}(I:LawI K P1 PT g p ns H)(k:Kp (sy p) H d)(t:yj p d):LawI K P1 PT g p ns d:=by
 have i:=I.Mr;let⟨a,b,c,h⟩:=I.pen;refine⟨(d7 P1 PT).mono H d I.tab λb o z e=>k b o e λy=>?_,t,I.scr.imp (λ⟨r,n⟩=>⟨Rd.keep r λo e=>k g o e n,n⟩) id⟩;have y:b=p:=y;subst y;rcases z with z|⟨_,_,z⟩
 ·exact i z
 ·rw[h,z]at e;cases e
def Lx{ok ok':Addr->Prop}{H:Hp}{v:V}{n:Int}{a:fN}(r:Rp ok H v (aC n a)):Rp ok' H v (aC n a):=(r.imm (iU n a)).mono (λ_ o=>o.elim) (λ_ _ _ e=>e) λ_ _ e=>e
def LawI.goV{b p:Addr}{ns:fM}{H a:Hp}(I:LawI K P1 PT b p ns H)(k:Kp ((sy p).plus (d7 P1 PT)) H a)(t:((sy p).plus (d7 P1 PT)).PI a):LawI K P1 PT b p ns a :=
 ⟨t.2,t.1,I.scr.imp (λ⟨r,n⟩=>⟨Rd.keep r λo e=>k b o e λz=>z.elim n (yt I.tab r),n⟩) id⟩
def XC{p:Addr}:Apart (sy p) (d7 P1 PT):=λH h t b z=>by
 have z:b=p:=z;subst z;let⟨a,b,c,h⟩:=h;exact yt t (.inl h)
def Yo:FnScope [aT,ah,aa] [aT] (au (top 73)):=zC
def Va(m:Nat)(d:D):Prop:=∃(n:Nat)(us:fN),d=aC (~~~n) us/\1<=n/\n<=m/\⇑us<=40/\RgT n us
def G8{m:Nat}{n:Int}{a:fN}(c:1<=n)(d:n<=(m:Int))(b:⇑a<=40)(ok:cT n a):Va m (aC n a):=by
 obtain⟨n,rfl⟩:∃n':Nat,n=(~~~n'):=⟨n.toNat,()⟩
 exact⟨n,a,rfl,(),(),b,ok⟩
def Wd(F:Fun K "law" "law" (top 73) f fd)(B:į mg)(PN:1∪eJ∪[aT,br]∪TQ K)(W:4∪eI∪[aa,dS]∪spP CP ZG)(Z:16∪bj∪[ac,ah]∪spT (d7 P1 PT) fLR)(RT:16∪dt∪[aa,ac,ah]∪spP (CT CP (d7 P1 PT)) ZK) :
  17∩[aT]∩Lj K (d7 P1 PT):=by
 refine F.ok Yo (λvs H Q E h=>?_) (λcdv A outer s H vs Q E hr h=>?_)
 ·let⟨a,ns,rfl,_⟩:=h;rfl
 let⟨k,ns,rfl,hS,T0,q⟩:=h;have Y:=Yo.nd;refine⟨_,ń (Ft ï rfl (xg rfl B.range (Į Ĳ aW)) (Ś (i:=1) Y rfl (đ rfl))
   (ń (Ů (i:=2) Y rfl (đ rfl) (pcS PN hr (Į (pv 0) (Į (pv 1) aW)) ∅ rfl ∅ rfl rfl))
   (bW (uM (PW.pt (T5 (Fp (Fo (pcS Z hr (Į (pcS W hr (Į (pv 2) (Į Ĳ aW)) ∅ rfl ∅ rfl rfl) (Į (pv 1) aW)) ∅ rfl ∅ rfl rfl)))
     (LK (Fp (Fo (pcS RT hr (Į (pv 2) (Į (pcS W hr (Į (pv 2) (Į Ĳ aW)) ∅ rfl ∅ rfl rfl) (Į (pv 1) aW))) ∅ rfl ∅ rfl rfl))))))
    (bW (iZ MF)) mR))))
  (bW (iZ MF)),?_⟩
 refine⟨2,rfl,∅,∅,xU (lo:=0) (n:=2) (λi σ H'=>∃t u,σ=[some (.ref k),t,u]/\(d7 P1 PT).PI H'/\(Rd H' k (.lst (ns.map V.int))\/∀H',SqL K H' k (ns.map V.int))) ⟨_,_,rfl,T0,hS.imp id λh _=>.inr h⟩ ?_ ?_⟩
 ·rintro i σ l hi ⟨t,u,rfl,T1,U⟩;refine⟨_,rfl,_,rfl,k,ns,0+(i:Int),rfl,(),(),U.elim .inl λh=>h l,λp H2 s2 hp pi=>?_⟩;have O:LawI K P1 PT k p ns H2:=⟨(d7 P1 PT).mono l H2 T1 λb o _ e=>s2 b o e,pi,U.imp (λr=>⟨Rd.keep r λo e=>s2 _ _ e,λz=>by
   subst z;rcases r with r|⟨o,r⟩
   ·rw[hp]at r;cases r
   ·rw[hp]at r;cases r⟩) id⟩
  refine⟨_,rfl,sy p,[.int 4],[.int 4],Va 4,⟨p,rfl⟩,rfl,O.pen,.cons (.int 4) .nil,⟨4,rfl,∅,∅,λn us j n8 lu ok=>G8 j n8 lu ok⟩,?_⟩;rintro d1 v1 H3 ⟨j,c,rfl,m1,m4,lu1,hu1⟩ k3 C J;have R:=O.goP k3 C;refine⟨_,rfl,[aC (~~~j) c,.int (0+~~~i)],(λd=>d=.bool true),R.tab,.cons (Lx (J.imm (iU _ c))) (.cons (.int _) .nil),⟨j,i+1,c,by rw[show(~~~(i+1)) - 1=0+(~~~i) by lia],m1,m4,(),(),(),hu1,rfl⟩,?_⟩;rintro d v H4 rfl k4 D M;have e4:=M.bl';subst e4;have S:=R.goT k4 D;refine⟨true,rfl,aJ (A:=_) ⟨_,rfl,_,rfl,sy p,[.int 6],[.int 6],Va 6,⟨p,rfl⟩,rfl,S.pen,.cons (.int 6) .nil,⟨6,rfl,∅,∅,λn us j n8 lu ok=>G8 j n8 lu ok⟩,?_⟩⟩;rintro d2 v2 H5 ⟨X,g,rfl,m2,m6,y,x⟩ k5 G L;have m:=S.goP k5 G;refine⟨_,rfl,(sy p).plus (d7 P1 PT),[v2,.int (0+~~~i)],[aC (~~~X) g,.int (0+~~~i)],(λd=>d=.bool true),⟨sy p,⟨p,rfl⟩,XC,rfl⟩,rfl,⟨m.pen,m.tab⟩,.cons (Lx (L.imm (iU _ g))) (.cons (.int _) .nil),⟨X,i+1,g,by rw[show(~~~(i+1)) - 1=0+(~~~i) by lia],m2,m6,(),(),y,x,rfl⟩,?_⟩;rintro d v H6 rfl k6 I N;have e6:=N.bl';subst e6;have T:=m.goV k6 I;exact⟨true,rfl,aJ (A:=_) ⟨_,_,rfl,T.tab,T.scr.imp (λr=>r.1) id⟩⟩
 ·rintro σ l ⟨t,u,rfl,_,_⟩;exact q l
end
theorem len1{α:Type}:∀us:List α,⇑us=1->∃a,us=[a]
 |[a],_=>⟨a,rfl⟩
theorem len2{α:Type}:∀us:List α,⇑us=2->∃a b,us=[a,b]
 |[a,b],_=>⟨a,b,rfl⟩
theorem aaT{α:Type}:∀us:List α,⇑us=3->∃a b c,us=[a,b,c]
 |[a,b,c],_=>⟨a,b,c,rfl⟩
theorem Ds{α:Type}:∀us:List α,⇑us=4->∃a b c d,us=[a,b,c,d]
 |[a,b,c,d],_=>⟨a,b,c,d,rfl⟩
theorem aaS{α:Type}:∀us:List α,⇑us=5->∃a b c d e,us=[a,b,c,d,e]
 |[a,b,c,d,e],_=>⟨a,b,c,d,e,rfl⟩
def aB{K:Ý}{f:Addr}{b:Value}{c:gc}{a:WS}{d:Array gf}(l:K.lookup f=some ⟨b,c,.func a,d⟩):W.keepIn K (.ref f)=true:=by
 unfold W.keepIn;simp only[l]
def Xu{P:Zg}{w:Zl}{K:Ý}{mg:Str->gf}{gy:Heap}{k:Nat}{x:Str}{st:XB}{f:Addr}{a:WS}{ps:List Str}{sp:Sp}(F:Fun K x x st f a)(b:Binds K a ps [])(m:mg x=some (.ref f))(h:FnOk P w K mg gy CX0 k f a ps sp) :
  k∪x∪ps∪sp:=⟨f,a,h,b,F.kp,m⟩
abbrev zl(K:Ý)(f:Addr)(x:Str)(st:XB)(oc:Value)(od:gc)(kV dc pm:Value)(an:gc)(cd ct:Value)(sl:Array gf):Prop:=K.lookup f=some ⟨oc,od,.func (W.fnOf x x (fY st) (cu st) (au st) .none kV dc pm an cd ct),sl⟩
abbrev za(K:Ý)(x:Str)(f:Addr):Prop:=W.nsIn K mainGlobals x=some (some (.ref f))
abbrev zc(K:Ý)(x:Str)(cd:Value):Prop:=W.codeIn K cd x=true
abbrev zn(K:Ý)(x:Str):Prop:=W.nsIn K mainGlobals x=some none
def all_mk{l:W.OpenLaw}{w:Zl}{K:Ý}{h:Heap}{mg:Str->gf}{kb kp f PT fa f0 f1 f2 f3 f4 f5 f6 f7 f8 f9 f10 f11 f12 f13 f14 f15 f16 f17 f18 f19 f20 f21 f22 f23 f24 f25 f26 f27 f28 f29 f30 f31 f32 f33 f34 f35 f36 f37 f38 f39 f40 f41 f42 f43 f44 f45 f46 f47 f48 f49 f50 f51 f52 f53 f54 f55 f56 f57 f58:Addr}(hT:∀Q∈([f,PT]:List Addr),h.get? Q=some (W.tabObj #[]))(X:K.In h)(G:h.Ns mainGlobals mg)(hfa:mg "law"=some (.ref fa)){od0 an0 od1 an1 od2 an2 od3 an3 od4 an4 od5 an5 od6 an6 od7 an7 od8 an8 od9 an9 od10 an10 od11 an11 od12 an12 od13 an13 od14 an14 od15 an15 od16 an16 od17 an17 od18 an18 od19 an19 od20 an20 od21 an21 od22 an22 od23 an23 od24 an24 od25 an25 od26 an26 od27 an27 od28 an28 od29 an29 od30 an30 od31 an31 od32 an32 od33 an33 od34 an34 od35 an35 od36 an36 od37 an37 od38 an38 od39 an39 od40 an40 od41 an41 od42 an42 od43 an43 od44 an44 od45 an45 od46 an46 od47 an47 od48 an48 od49 an49 od50 an50 od51 an51 od52 an52 od53 an53 od54 an54 od55 an55 od56 an56 od57 an57 od58 t:gc}{sl0 sl1 sl2 sl3 sl4 sl5 sl6 sl7 sl8 sl9 sl10 sl11 sl12 sl13 sl14 sl15 sl16 sl17 sl18 sl19 sl20 sl21 sl22 sl23 sl24 sl25 sl26 sl27 sl28 sl29 sl30 sl31 sl32 sl33 sl34 sl35 sl36 sl37 sl38 sl39 sl40 sl41 sl42 sl43 sl44 sl45 sl46 sl47 sl48 sl49 sl50 sl51 sl52 sl53 sl54 sl55 sl56 sl57 sl58:Array gf}{oc0 kV0 dc0 pm0 cd0 ct0 oc1 kV1 dc1 pm1 cd1 ct1 oc2 kV2 dc2 pm2 cd2 ct2 oc3 kV3 dc3 pm3 cd3 ct3 oc4 kV4 dc4 pm4 cd4 ct4 oc5 kV5 dc5 pm5 cd5 ct5 oc6 kV6 dc6 pm6 cd6 ct6 oc7 kV7 dc7 pm7 cd7 ct7 oc8 kV8 dc8 pm8 cd8 ct8 oc9 kV9 dc9 pm9 cd9 ct9 oc10 kV10 dc10 pm10 x ct10 oc11 kV11 dc11 pm11 y ct11 oc12 kV12 dc12 pm12 z ct12 oc13 kV13 dc13 pm13 A ct13 oc14 kV14 dc14 pm14 C ct14 oc15 kV15 dc15 pm15 D ct15 oc16 kV16 dc16 pm16 E ct16 oc17 kV17 dc17 pm17 F ct17 oc18 kV18 dc18 pm18 I ct18 oc19 kV19 dc19 pm19 J ct19 oc20 kV20 dc20 pm20 L ct20 oc21 kV21 dc21 pm21 M ct21 oc22 kV22 dc22 pm22 N ct22 oc23 kV23 dc23 pm23 O ct23 oc24 kV24 dc24 pm24 R ct24 oc25 kV25 dc25 pm25 S ct25 oc26 kV26 dc26 pm26 T ct26 oc27 kV27 dc27 pm27 U ct27 oc28 kV28 dc28 pm28 ct28 oc29 kV29 dc29 pm29 ct29 oc30 kV30 dc30 pm30 Y ct30 oc31 kV31 dc31 pm31 Z ct31 oc32 kV32 dc32 pm32 cd32 ct32 oc33 kV33 dc33 pm33 cd33 ct33 oc34 kV34 dc34 pm34 cd34 ct34 oc35 kV35 dc35 pm35 cd35 ct35 oc36 kV36 dc36 pm36 cd36 ct36 oc37 kV37 dc37 pm37 cd37 ct37 oc38 kV38 dc38 pm38 cd38 ct38 oc39 kV39 dc39 pm39 cd39 ct39 oc40 kV40 dc40 pm40 cd40 ct40 oc41 kV41 dc41 pm41 cd41 ct41 oc42 kV42 dc42 pm42 cd42 ct42 oc43 kV43 dc43 pm43 cd43 ct43 oc44 kV44 dc44 pm44 cd44 ct44 oc45 kV45 dc45 pm45 cd45 ct45 oc46 kV46 dc46 pm46 cd46 ct46 oc47 kV47 dc47 pm47 cd47 ct47 oc48 kV48 dc48 pm48 cd48 ct48 oc49 kV49 dc49 pm49 cd49 ct49 oc50 kV50 dc50 pm50 cd50 ct50 oc51 kV51 dc51 pm51 cd51 ct51 oc52 kV52 dc52 pm52 cd52 ct52 oc53 kV53 dc53 pm53 cd53 ct53 oc54 kV54 dc54 pm54 cd54 ct54 oc55 kV55 dc55 pm55 cd55 ct55 oc56 kV56 dc56 pm56 cd56 ct56 oc57 kV57 dc57 pm57 cd57 ct57 oc58 kV58 dc58 pm58 j ct58:Value}(a0:za K eB f0)(l0:zl K f0 eB (top 4) oc0 od0 kV0 dc0 pm0 an0 cd0 ct0 sl0)(c0:zc K eB cd0)(a1:za K du f1)(l1:zl K f1 du (top 5) oc1 od1 kV1 dc1 pm1 an1 cd1 ct1 sl1)(c1:zc K du cd1)(a2:za K fc f2)(l2:zl K f2 fc (top 6) oc2 od2 kV2 dc2 pm2 an2 cd2 ct2 sl2)(c2:zc K fc cd2)(a3:za K ef f3)(l3:zl K f3 ef (top 7) oc3 od3 kV3 dc3 pm3 an3 cd3 ct3 sl3)(c3:zc K ef cd3)(a4:za K bh f4)(l4:zl K f4 bh (top 9) oc4 od4 kV4 dc4 pm4 an4 cd4 ct4 sl4)(c4:zc K bh cd4)(a5:za K fe f5)(l5:zl K f5 fe (top 10) oc5 od5 kV5 dc5 pm5 an5 cd5 ct5 sl5)(c5:zc K fe cd5)(a6:za K "hops" f6)(l6:zl K f6 "hops" (top 11) oc6 od6 kV6 dc6 pm6 an6 cd6 ct6 sl6)(c6:zc K "hops" cd6)(a7:za K dC f7)(l7:zl K f7 dC (top 13) oc7 od7 kV7 dc7 pm7 an7 cd7 ct7 sl7)(c7:zc K dC cd7)(a8:za K bn f8)(l8:zl K f8 bn (top 14) oc8 od8 kV8 dc8 pm8 an8 cd8 ct8 sl8)(c8:zc K bn cd8)(a9:za K dL f9)(l9:zl K f9 dL (top 15) oc9 od9 kV9 dc9 pm9 an9 cd9 ct9 sl9)(c9:zc K dL cd9)(a10:za K dm f10)(l10:zl K f10 dm (top 16) oc10 od10 kV10 dc10 pm10 an10 x ct10 sl10)(c10:zc K dm x)(a11:za K cn f11)(l11:zl K f11 cn (top 17) oc11 od11 kV11 dc11 pm11 an11 y ct11 sl11)(c11:zc K cn y)(a12:za K e8 f12)(l12:zl K f12 e8 (top 18) oc12 od12 kV12 dc12 pm12 an12 z ct12 sl12)(c12:zc K e8 z)(a13:za K bb f13)(l13:zl K f13 bb (top 19) oc13 od13 kV13 dc13 pm13 an13 A ct13 sl13)(c13:zc K bb A)(a14:za K dP f14)(l14:zl K f14 dP (top 21) oc14 od14 kV14 dc14 pm14 an14 C ct14 sl14)(c14:zc K dP C)(a15:za K cf f15)(l15:zl K f15 cf (top 22) oc15 od15 kV15 dc15 pm15 an15 D ct15 sl15)(c15:zc K cf D)(a16:za K dV f16)(l16:zl K f16 dV (top 23) oc16 od16 kV16 dc16 pm16 an16 E ct16 sl16)(c16:zc K dV E)(a17:za K bP f17)(l17:zl K f17 bP (top 24) oc17 od17 kV17 dc17 pm17 an17 F ct17 sl17)(c17:zc K bP F)(a18:za K bc f18)(l18:zl K f18 bc (top 25) oc18 od18 kV18 dc18 pm18 an18 I ct18 sl18)(c18:zc K bc I)(a19:za K "ins" f19)(l19:zl K f19 "ins" (top 27) oc19 od19 kV19 dc19 pm19 an19 J ct19 sl19)(c19:zc K "ins" J)(a20:za K "outs" f20)(l20:zl K f20 "outs" (top 28) oc20 od20 kV20 dc20 pm20 an20 L ct20 sl20)(c20:zc K "outs" L)(a21:za K eA f21)(l21:zl K f21 eA (top 29) oc21 od21 kV21 dc21 pm21 an21 M ct21 sl21)(c21:zc K eA M)(a22:za K dy f22)(l22:zl K f22 dy (top 30) oc22 od22 kV22 dc22 pm22 an22 N ct22 sl22)(c22:zc K dy N)(a23:za K cg f23)(l23:zl K f23 cg (top 31) oc23 od23 kV23 dc23 pm23 an23 O ct23 sl23)(c23:zc K cg O)(a24:za K cq f24)(l24:zl K f24 cq (top 33) oc24 od24 kV24 dc24 pm24 an24 R ct24 sl24)(c24:zc K cq R)(a25:za K cr f25)(l25:zl K f25 cr (top 34) oc25 od25 kV25 dc25 pm25 an25 S ct25 sl25)(c25:zc K cr S)(a26:za K cw f26)(l26:zl K f26 cw (top 35) oc26 od26 kV26 dc26 pm26 an26 T ct26 sl26)(c26:zc K cw T)(a27:za K "tied" f27)(l27:zl K f27 "tied" (top 36) oc27 od27 kV27 dc27 pm27 an27 U ct27 sl27)(c27:zc K "tied" U)(a28:za K cb f28)(l28:zl K f28 cb (top 38) oc28 od28 kV28 dc28 pm28 an28 (.ref kb) ct28 sl28)(c28:zc K cb (.ref kb))(a29:za K ba f29)(l29:zl K f29 ba (top 39) oc29 od29 kV29 dc29 pm29 an29 (.ref kp) ct29 sl29)(c29:zc K ba (.ref kp))(a30:za K ci f30)(l30:zl K f30 ci (top 40) oc30 od30 kV30 dc30 pm30 an30 Y ct30 sl30)(c30:zc K ci Y)(a31:za K d4 f31)(l31:zl K f31 d4 (top 41) oc31 od31 kV31 dc31 pm31 an31 Z ct31 sl31)(c31:zc K d4 Z)(a32:za K eK f32)(l32:zl K f32 eK (top 42) oc32 od32 kV32 dc32 pm32 an32 cd32 ct32 sl32)(c32:zc K eK cd32)(a33:za K eL f33)(l33:zl K f33 eL (top 44) oc33 od33 kV33 dc33 pm33 an33 cd33 ct33 sl33)(c33:zc K eL cd33)(a34:za K eR f34)(l34:zl K f34 eR (top 46) oc34 od34 kV34 dc34 pm34 an34 cd34 ct34 sl34)(c34:zc K eR cd34)(a35:za K bi f35)(l35:zl K f35 bi (top 47) oc35 od35 kV35 dc35 pm35 an35 cd35 ct35 sl35)(c35:zc K bi cd35)(a36:za K eg f36)(l36:zl K f36 eg (top 49) oc36 od36 kV36 dc36 pm36 an36 cd36 ct36 sl36)(c36:zc K eg cd36)(a37:za K dn f37)(l37:zl K f37 dn (top 51) oc37 od37 kV37 dc37 pm37 an37 cd37 ct37 sl37)(c37:zc K dn cd37)(a38:za K eQ f38)(l38:zl K f38 eQ (top 52) oc38 od38 kV38 dc38 pm38 an38 cd38 ct38 sl38)(c38:zc K eQ cd38)(a39:za K cy f39)(l39:zl K f39 cy (top 53) oc39 od39 kV39 dc39 pm39 an39 cd39 ct39 sl39)(c39:zc K cy cd39)(a40:za K eJ f40)(l40:zl K f40 eJ (top 55) oc40 od40 kV40 dc40 pm40 an40 cd40 ct40 sl40)(c40:zc K eJ cd40)(a41:za K bd f41)(l41:zl K f41 bd (top 56) oc41 od41 kV41 dc41 pm41 an41 cd41 ct41 sl41)(c41:zc K bd cd41)(a42:za K dl f42)(l42:zl K f42 dl (top 57) oc42 od42 kV42 dc42 pm42 an42 cd42 ct42 sl42)(c42:zc K dl cd42)(a43:za K db f43)(l43:zl K f43 db (top 58) oc43 od43 kV43 dc43 pm43 an43 cd43 ct43 sl43)(c43:zc K db cd43)(a44:za K ce f44)(l44:zl K f44 ce (top 59) oc44 od44 kV44 dc44 pm44 an44 cd44 ct44 sl44)(c44:zc K ce cd44)(a45:za K dQ f45)(l45:zl K f45 dQ (top 60) oc45 od45 kV45 dc45 pm45 an45 cd45 ct45 sl45)(c45:zc K dQ cd45)(a46:za K eI f46)(l46:zl K f46 eI (top 61) oc46 od46 kV46 dc46 pm46 an46 cd46 ct46 sl46)(c46:zc K eI cd46)(a47:za K eh f47)(l47:zl K f47 eh (top 62) oc47 od47 kV47 dc47 pm47 an47 cd47 ct47 sl47)(c47:zc K eh cd47)(a48:za K d5 f48)(l48:zl K f48 d5 (top 63) oc48 od48 kV48 dc48 pm48 an48 cd48 ct48 sl48)(c48:zc K d5 cd48)(a49:za K ee f49)(l49:zl K f49 ee (top 64) oc49 od49 kV49 dc49 pm49 an49 cd49 ct49 sl49)(c49:zc K ee cd49)(a50:za K cz f50)(l50:zl K f50 cz (top 65) oc50 od50 kV50 dc50 pm50 an50 cd50 ct50 sl50)(c50:zc K cz cd50)(a51:za K aI f51)(l51:zl K f51 aI (top 66) oc51 od51 kV51 dc51 pm51 an51 cd51 ct51 sl51)(c51:zc K aI cd51)(a52:za K bj f52)(l52:zl K f52 bj (top 67) oc52 od52 kV52 dc52 pm52 an52 cd52 ct52 sl52)(c52:zc K bj cd52)(a53:za K bt f53)(l53:zl K f53 bt (top 68) oc53 od53 kV53 dc53 pm53 an53 cd53 ct53 sl53)(c53:zc K bt cd53)(a54:za K cE f54)(l54:zl K f54 cE (top 69) oc54 od54 kV54 dc54 pm54 an54 cd54 ct54 sl54)(c54:zc K cE cd54)(a55:za K dq f55)(l55:zl K f55 dq (top 70) oc55 od55 kV55 dc55 pm55 an55 cd55 ct55 sl55)(c55:zc K dq cd55)(a56:za K aS f56)(l56:zl K f56 aS (top 71) oc56 od56 kV56 dc56 pm56 an56 cd56 ct56 sl56)(c56:zc K aS cd56)(a57:za K dt f57)(l57:zl K f57 dt (top 72) oc57 od57 kV57 dc57 pm57 an57 cd57 ct57 sl57)(c57:zc K dt cd57)(a58:za K "law" f58)(l58:zl K f58 "law" (top 73) oc58 od58 kV58 dc58 pm58 t j ct58 sl58)(c58:zc K "law" j)(z0:zn K "isinstance")(z1:zn K "int")(z2:zn K "bool")(z3:zn K "tuple")(z4:zn K "list")(z5:zn K "len")(z6:zn K "all")(z7:zn K "min")(z8:zn K "max")(z9:zn K "sorted")(z10:zn K "range")(z11:zn K "abs")(z12:zn K "enumerate")(z13:zn K "zip")(z14:zn K "set")(z15:zn K "sum")(z16:zn K "str"){oc_kb:Value}{od_kb:gc}{k:fS}{sl_kb:Array gf}(lc_kb:K.lookup kb=some ⟨oc_kb,od_kb,.fields k,sl_kb⟩)(v11_kb:k[11]?=some (.ref f))(n:K.lookup f=none)(q:W.codeHdIn K kb f=true){oc_kp:Value}{od_kp:gc}{m:fS}{sl_kp:Array gf}(lc_kp:K.lookup kp=some ⟨oc_kp,od_kp,.fields m,sl_kp⟩)(v11_kp:m[11]?=some (.ref PT))(p:K.lookup PT=none)(r:W.codeHdIn K kp PT=true)(nP:f≠PT)
  :
  ∃(K':Ý)(Ps:List Addr)(fd:WS)(sp:Sp),K'.In h/\(∀PT∈Ps,K'.lookup PT=none)/\(∀PT∈Ps,∃c,W.CodeHd h c PT)/\(∀PT∈Ps,h.get? PT=some (W.tabObj #[]))/\(∀(s:Shared)(u:Value),WU s fd ⟨[u],[]⟩ [(aT,u)]) /\
    (∀gy:Heap,K'.In gy->gy.Ns mainGlobals mg->(∀PT∈Ps,gy.BuiltinsAt mg PT)->(∃o,gy.get? ZU=some o)->FnOk l.prog w K' mg gy CX0 17 fa fd [aT] sp)/\∀(H:Hp)(a:Addr)(ns:fM),SqL K' H a (ns.map V.int)->(∀PT∈Ps,H PT=some (.tbl #[]))->sp [.ref a] H (λv _=>v=.bl true) λ_ _ _=>False:=by
 have e:=hfa.symm.trans (ý X G a58);cases e;have F0:=č (st:=top 4) l0 c0 (aB l0);have b0:=F0.binds (ps:=[ap]);have m0:=ý X G a0;have F1:=č (st:=top 5) l1 c1 (aB l1);have b1:=F1.binds (ps:=[cK,ap]);have m1:=ý X G a1;have F2:=č (st:=top 6) l2 c2 (aB l2);have b2:=F2.binds (ps:=[e7,ap]);have m2:=ý X G a2;have F3:=č (st:=top 7) l3 c3 (aB l3);have b3:=F3.binds (ps:=[cc,el]);have m3:=ý X G a3;have F4:=č (st:=top 9) l4 c4 (aB l4);have b4:=F4.binds (ps:=[al]);have m4:=ý X G a4;have F5:=č (st:=top 10) l5 c5 (aB l5);have b5:=F5.binds (ps:=[em,"start"]);have m5:=ý X G a5;have F6:=č (st:=top 11) l6 c6 (aB l6);have b6:=F6.binds (ps:=[eC]);have m6:=ý X G a6;have F7:=č (st:=top 13) l7 c7 (aB l7);have b7:=F7.binds (ps:=[cK,ap]);have m7:=ý X G a7;have F8:=č (st:=top 14) l8 c8 (aB l8);have b8:=F8.binds (ps:=[e7,ap]);have m8:=ý X G a8;have F9:=č (st:=top 15) l9 c9 (aB l9);have b9:=F9.binds (ps:=[cc,ap]);have m9:=ý X G a9;have F10:=č (st:=top 16) l10 c10 (aB l10);have b10:=F10.binds (ps:=[bu]);have m10:=ý X G a10;have F11:=č (st:=top 17) l11 c11 (aB l11);have b11:=F11.binds (ps:=[e7]);have m11:=ý X G a11;have F12:=č (st:=top 18) l12 c12 (aB l12);have b12:=F12.binds (ps:=[eD,am]);have m12:=ý X G a12;have F13:=č (st:=top 19) l13 c13 (aB l13);have b13:=F13.binds (ps:=[cc,am]);have m13:=ý X G a13;have F14:=č (st:=top 21) l14 c14 (aB l14);have b14:=F14.binds (ps:=[e7,ap]);have m14:=ý X G a14;have F15:=č (st:=top 22) l15 c15 (aB l15);have b15:=F15.binds (ps:=[cc,ap]);have m15:=ý X G a15;have F16:=č (st:=top 23) l16 c16 (aB l16);have b16:=F16.binds (ps:=[bN,"best","top","rest"]) λ_ _ _ _ _ _ us hl=>by let⟨_,_,_,_,rfl⟩:=Ds us hl;rfl
 have m16:=ý X G a16;have F17:=č (st:=top 24) l17 c17 (aB l17);have b17:=F17.binds (ps:=[bN]);have m17:=ý X G a17;have F18:=č (st:=top 25) l18 c18 (aB l18);have b18:=F18.binds (ps:=[e7,ff]);have m18:=ý X G a18;have F19:=č (st:=top 27) l19 c19 (aB l19);have b19:=F19.binds (ps:=[al,am]);have m19:=ý X G a19;have F20:=č (st:=top 28) l20 c20 (aB l20);have b20:=F20.binds (ps:=[al,am]);have m20:=ý X G a20;have F21:=č (st:=top 29) l21 c21 (aB l21);have b21:=F21.binds (ps:=[al,az,am]);have m21:=ý X G a21;have F22:=č (st:=top 30) l22 c22 (aB l22);have b22:=F22.binds (ps:=[al,ag,az,am]) λ_ _ _ _ _ _ us hl=>by let⟨_,_,_,_,rfl⟩:=Ds us hl;rfl
 have m22:=ý X G a22;have F23:=č (st:=top 31) l23 c23 (aB l23);have b23:=F23.binds (ps:=[al,ag,az,cm]) λ_ _ _ _ _ _ us hl=>by let⟨_,_,_,_,rfl⟩:=Ds us hl;rfl
 have m23:=ý X G a23;have F24:=č (st:=top 33) l24 c24 (aB l24);have b24:=F24.binds (ps:=[da,eS,bX]);have m24:=ý X G a24;have F25:=č (st:=top 34) l25 c25 (aB l25);have b25:=F25.binds (ps:=[e7,da,bX]);have m25:=ý X G a25;have F26:=č (st:=top 35) l26 c26 (aB l26);have b26:=F26.binds (ps:=[aN,"a","b",dA]) λ_ _ _ _ _ _ us hl=>by let⟨_,_,_,_,rfl⟩:=Ds us hl;rfl
 have m26:=ý X G a26;have F27:=č (st:=top 36) l27 c27 (aB l27);have b27:=F27.binds (ps:=[aN,"a","b",dA]) λ_ _ _ _ _ _ us hl=>by let⟨_,_,_,_,rfl⟩:=Ds us hl;rfl
 have m27:=ý X G a27;have F28:=č (st:=top 38) l28 c28 (aB l28);have b28:=F28.binds (ps:=[al,ag,az]);have m28:=ý X G a28;have F29:=č (st:=top 39) l29 c29 (aB l29);have b29:=F29.binds (ps:=[al,ag]);have m29:=ý X G a29;have F30:=č (st:=top 40) l30 c30 (aB l30);have b30:=F30.binds (ps:=[e7,da,bX,bu]) λ_ _ _ _ _ _ us hl=>by let⟨_,_,_,_,rfl⟩:=Ds us hl;rfl
 have m30:=ý X G a30;have F31:=č (st:=top 41) l31 c31 (aB l31);have b31:=F31.binds (ps:=[aN,eM,eP]);have m31:=ý X G a31;have F32:=č (st:=top 42) l32 c32 (aB l32);have b32:=F32.binds (ps:=[al,ag]);have m32:=ý X G a32;have F33:=č (st:=top 44) l33 c33 (aB l33);have b33:=F33.binds (ps:=[fb]);have m33:=ý X G a33;have F34:=č (st:=top 46) l34 c34 (aB l34);have b34:=F34.binds (ps:=[al]);have m34:=ý X G a34;have F35:=č (st:=top 47) l35 c35 (aB l35);have b35:=F35.binds (ps:=[al]);have m35:=ý X G a35;have F36:=č (st:=top 49) l36 c36 (aB l36);have b36:=F36.binds (ps:=[cc,ap]);have m36:=ý X G a36;have F37:=č (st:=top 51) l37 c37 (aB l37);have b37:=F37.binds (ps:=[al,ag]);have m37:=ý X G a37;have F38:=č (st:=top 52) l38 c38 (aB l38);have b38:=F38.binds (ps:=[ap]);have m38:=ý X G a38;have F39:=č (st:=top 53) l39 c39 (aB l39);have b39:=F39.binds (ps:=[al,ag,el,az,cm]) λ_ _ _ _ _ _ us hl=>by let⟨_,_,_,_,_,rfl⟩:=aaS us hl;rfl
 have m39:=ý X G a39;have F40:=č (st:=top 55) l40 c40 (aB l40);have b40:=F40.binds (ps:=[aT,br]);have m40:=ý X G a40;have F41:=č (st:=top 56) l41 c41 (aB l41);have b41:=F41.binds (ps:=[aa,ar]);have m41:=ý X G a41;have F42:=č (st:=top 57) l42 c42 (aB l42);have b42:=F42.binds (ps:=[aa,ai]);have m42:=ý X G a42;have F43:=č (st:=top 58) l43 c43 (aB l43);have b43:=F43.binds (ps:=[aa,ai]);have m43:=ý X G a43;have F44:=č (st:=top 59) l44 c44 (aB l44);have b44:=F44.binds (ps:=[aa,ai]);have m44:=ý X G a44;have F45:=č (st:=top 60) l45 c45 (aB l45);have b45:=F45.binds (ps:=[aa,ai]);have m45:=ý X G a45;have F46:=č (st:=top 61) l46 c46 (aB l46);have b46:=F46.binds (ps:=[aa,dS]);have m46:=ý X G a46;have F47:=č (st:=top 62) l47 c47 (aB l47);have b47:=F47.binds (ps:=[ai]);have m47:=ý X G a47;have F48:=č (st:=top 63) l48 c48 (aB l48);have b48:=F48.binds (ps:=[ax,aw]);have m48:=ý X G a48;have F49:=č (st:=top 64) l49 c49 (aB l49);have b49:=F49.binds (ps:=[ac,ah,d6,aw]) λ_ _ _ _ _ _ us hl=>by let⟨_,_,_,_,rfl⟩:=Ds us hl;rfl
 have m49:=ý X G a49;have F50:=č (st:=top 65) l50 c50 (aB l50);have b50:=F50.binds (ps:=[ac,ah]);have m50:=ý X G a50;have F51:=č (st:=top 66) l51 c51 (aB l51);have b51:=F51.binds (ps:=[aH,ar]);have m51:=ý X G a51;have F52:=č (st:=top 67) l52 c52 (aB l52);have b52:=F52.binds (ps:=[ac,ah]);have m52:=ý X G a52;have F53:=č (st:=top 68) l53 c53 (aB l53);have b53:=F53.binds (ps:=[ac]);have m53:=ý X G a53;have F54:=č (st:=top 69) l54 c54 (aB l54);have b54:=F54.binds (ps:=[aa,ai]);have m54:=ý X G a54;have F55:=č (st:=top 70) l55 c55 (aB l55);have b55:=F55.binds (ps:=[aa,ai,et]);have m55:=ý X G a55;have F56:=č (st:=top 71) l56 c56 (aB l56);have b56:=F56.binds (ps:=[aa,ac,ah,de]) λ_ _ _ _ _ _ us hl=>by let⟨_,_,_,_,rfl⟩:=Ds us hl;rfl
 have m56:=ý X G a56;have F57:=č (st:=top 72) l57 c57 (aB l57);have b57:=F57.binds (ps:=[aa,ac,ah]);have m57:=ý X G a57;have F58:=č (st:=top 73) l58 c58 (aB l58);have B:į mg:=⟨Ĵ X G z0,Ĵ X G z1,Ĵ X G z2,Ĵ X G z3,Ĵ X G z4,Ĵ X G z5,Ĵ X G z6,Ĵ X G z7,Ĵ X G z8,Ĵ X G z9,Ĵ X G z10,Ĵ X G z11⟩
 have N12:=Ĵ X G z12;have N13:=Ĵ X G z13;have N14:=Ĵ X G z14;have N15:=Ĵ X G z15;have N16:=Ĵ X G z16;have g:∀h:Heap,K.In h->W.CodeHd h kb f:=λh X2=>W.codeHd_of_K X2 q;have i:∀h:Heap,K.In h->W.CodeHd h kp PT:=λh X2=>W.codeHd_of_K X2 r;have HP0:∀Q∈([f,PT]:List Addr),K.lookup Q=none:=(λQ hQ=>by
  simp only[Õ,List.not_mem_nil,or_false]at hQ;rcases hQ with rfl|rfl
  ·exact n
  ·exact p)
 have HCE:∀Q∈([f,PT]:List Addr),∃c,W.CodeHd h c Q:=(λQ hQ=>by
  simp only[Õ,List.not_mem_nil,or_false]at hQ;rcases hQ with rfl|rfl
  ·exact⟨_,g h X⟩
  ·exact⟨_,i h X⟩)
 refine⟨K,[f,PT],W.fnOf "law" "law" (fY (top 73)) (cu (top 73)) (au (top 73)) .none kV58 dc58 pm58 t j ct58,Lj K (d7 f PT),X,HP0,HCE,hT,λs v=>.of_eq rfl,λgy _ _ hBm SY=>?_,λH a ns hS hT=>⟨a,ns,rfl,hS,⟨⟨_,hT f Æ,.inl rfl⟩,⟨_,hT PT (Ç _ Æ),.inl rfl⟩⟩,λ_=>rfl⟩⟩;have zc:=λb=>@Xu l.prog w K mg b;have C0:=λgy=>zc gy F0 b0 m0 (Nv F0 B);have C1:=λgy=>zc gy F1 b1 m1 (Nz F1 (C0 gy));have C2:=λgy=>zc gy F2 b2 m2 (JQ F2 B (C1 gy));have C3:=λgy=>zc gy F3 b3 m3 (zx F3 B);have C4:=λgy=>zc gy F4 b4 m4 (nO F4 B N12);have C5:=λgy=>zc gy F5 b5 m5 (JD F5 B);have C6:=λgy=>zc gy F6 b6 m6 (RP F6 B N13);have C7:=λgy=>zc gy F7 b7 m7 (JF F7 B (C1 gy) (C6 gy));have C8:=λgy=>zc gy F8 b8 m8 (JG F8 B (C7 gy));have C9:=λgy=>zc gy F9 b9 m9 (CV F9 (C8 gy));have C10:=λgy=>zc gy F10 b10 m10 (YZ F10 B);have C11:=λgy=>zc gy F11 b11 m11 (uY F11 B (C10 gy));have C12:=λgy=>zc gy F12 b12 m12 (JN F12 );have C13:=λgy=>zc gy F13 b13 m13 (Wa F13 (C9 gy) (C12 gy));have C14:=λgy=>zc gy F14 b14 m14 (Wg F14 B N14 (C8 gy));have C15:=λgy=>zc gy F15 b15 m15 (sG F15 B (C14 gy));have C16:=λgy=>zc gy F16 b16 m16 (zJ F16 B);have C17:=λgy=>zc gy F17 b17 m17 (qb F17 B (C16 gy));have C19:=λgy=>zc gy F19 b19 m19 (Wf F19 B (C13 gy));have C20:=λgy=>zc gy F20 b20 m20 (RN F20 B (C13 gy));have C21:=λgy=>zc gy F21 b21 m21 (YX F21 (C19 gy) (C20 gy));have C22:=λgy=>zc gy F22 b22 m22 (Y0 F22 B (C21 gy));have C23:=λgy=>zc gy F23 b23 m23 (zE F23 B N15 (C15 gy) (C22 gy));have C24:=λgy=>zc gy F24 b24 m24 (uX F24 B);have C25:=λgy=>zc gy F25 b25 m25 (u5 F25 B (C24 gy));have C26:=λgy=>zc gy F26 b26 m26 (u6 F26 B);have C27:=λgy=>zc gy F27 b27 m27 (RL F27 B);have C28:=zc gy F28 b28 m28 (Y6 l28 c28 g (hBm f Æ) ⟨⟨f18,_,(λgy=>oY (P:=l.prog) (w:=w) (gy:=gy) F18 B (C10 gy) (C17 gy)),b18,F18.kp,m18⟩⟩ C22);have C29:=zc gy F29 b29 m29 (Y5 l29 c29 i (hBm PT (Ç _ Æ)) nP B C28 C23);have C30:=λgy=>zc gy F30 b30 m30 (sE F30 B (C25 gy));have C31:=λgy=>zc gy F31 b31 m31 (zA F31 B (C26 gy) (C27 gy));have C32:=zc gy F32 b32 m32 (CG F32 B C29 (C23 gy) (C11 gy) (C21 gy) (C30 gy) (C24 gy) (C31 gy));have C33:=λgy=>zc gy F33 b33 m33 (CQ F33 B N12);have C34:=λgy=>zc gy F34 b34 m34 (Gb F34 B (C4 gy) (C5 gy));have C35:=λgy=>zc gy F35 b35 m35 (nQ F35 B (C34 gy) (C33 gy));have C36:=λgy=>zc gy F36 b36 m36 (zM F36 B (C2 gy));have C37:=λgy=>zc gy F37 b37 m37 (wH F37 B (C11 gy) (C22 gy));have C38:=λgy=>zc gy F38 b38 m38 (Ga F38 B N16);have C39:=λgy=>zc gy F39 b39 m39 (uZ F39 B (C14 gy) (C38 gy) (C36 gy) (C37 gy) (C3 gy) (C23 gy));have C40:=λgy=>zc gy F40 b40 m40 (Wc F40 B);have d:=λgy=>zc gy F41 b41 m41 (RQ F41 B);have C42:=λgy=>zc gy F42 b42 m42 (Nx F42 B (d gy));have C43:=λgy=>zc gy F43 b43 m43 (RM F43 (d gy));have C44:=λgy=>zc gy F44 b44 m44 (Y4 F44 B (d gy));have C45:=λgy=>zc gy F45 b45 m45 (RK F45 B (d gy) (C43 gy) (C44 gy));have C46:=λgy=>zc gy F46 b46 m46 (RJ F46 B (d gy) (C42 gy) (C45 gy));have C47:=λgy=>zc gy F47 b47 m47 (Ny F47 B);have C48:=λgy=>zc gy F48 b48 m48 (CK F48 B);have C49:=λgy=>zc gy F49 b49 m49 (CJ F49 B (C48 gy));have C50:=λgy=>zc gy F50 b50 m50 (wI F50 B (C47 gy) (C49 gy));have C51:=λgy=>zc gy F51 b51 m51 (JL F51 B b51 m51);have C52:=zc gy F52 b52 m52 (oX F52 B C32 (C50 gy) (C51 gy));have C53:=λgy=>zc gy F53 b53 m53 (p7 F53 B (C35 gy));have C54:=λgy=>zc gy F54 b54 m54 (wJ F54 B (d gy));have C55:=λgy=>zc gy F55 b55 m55 (zH F55 B (d gy) (C43 gy));have C56:=λgy=>zc gy F56 b56 m56 (jY F56 B (C55 gy) (d gy) (C54 gy) (C39 gy) (C50 gy));have C57:=zc gy F57 b57 m57 (zG F57 B C32 (C53 gy) (C56 gy));exact Wd F58 B (C40 gy) (C46 gy) C52 C57
end Nf
open PySem.W
local macro_rules
 |`(tactic| k_qdec)=>`(tactic| fail)
local macro_rules
 |`(tactic| o_head (kmHook $k $a $e $t))=>`(tactic| o_head (kHook (λP=>List.append (Ņ (λa=>(a,PySem.W.tabObj #[])) $t) ($k P)) (List.append $t $a) (λ_=>by kernel_rfl)))
local macro_rules
 |`(tactic| o_head (kHook $k $a $e))=>`(tactic| (
  refine holds_open (q:=view ü Nf.xO) (loose:=[]) (Xt:=λs=>xlAt (view ü Nf.xO) [] s&&recOk [] s) (XP:=XL (view ü Nf.xO) []) (Yf:=Hook.obs (kHook $k $a $e)) (Ya:=Hook.val (kHook $k $a $e)) (YP:=Hook.says (kHook $k $a $e)) (N:=4542) ?hl (Hook.of (kHook $k $a $e)) (Hook.keeps (kHook $k $a $e)) (λs e=>xl_of s (Bool.and_eq_true_iff.mp e).1) XL.keeps (by rfl) (by rfl) (by rfl) (λs e=>recFacts_of (Bool.and_eq_true_iff.mp e).2) (by rfl) (by first|assumption|decide +kernel) ⋯ ⟨rfl,rfl,rfl,rfl,rfl,⋯⟩ ?hw ?hc))
set_option maxRecDepth 100000 in
set_option maxHeartbeats 0 in
theorem PySem.Challenge.cw_nofall_k54_whole_no_fewer_ties_holds : PySem.Challenge.rw_nofall_k54_whole_no_fewer_ties.Holds := by
 w_on;refine PySem.W.holds_law Nf.well λsaid=>?_;k_head
 ·refine Nf.Ss 90 (boot_open (by kernel_rfl) rfl (λs=>by kernel_rfl)) Nf.R6 (λw os=>?_) (λw os=>?_)
  ·show Nf.vN ü w os _ 90=Nf.frF _ 90;rw[PySem.W.Fast.frontQ_eq]
   kernel_rfl
  ·show Nf.Es ü w os _ 90=Nf.frB _ 90;rw[PySem.W.Fast.backQ_eq]
   kernel_rfl
 ·w_witness2
 k_fill
 refine L2.K3 (n:=63) (k:=17) (x:="_law_script") (l:=PySem.Challenge.rw_nofall_k54_whole_no_fewer_ties) (by rfl) rfl ∅ rfl ⟨rfl,∅,∅,rfl⟩ (λw h Y=>PySem.W.kIn_of Y) ?F
 case F =>
  intro w mg fa h KX2 G hmg;let⟨KX,hPT⟩:=L2.QM KX2 (by
   intro Q hQ;simp only[Õ,List.not_mem_nil,or_false]at hQ;rcases hQ with rfl|rfl <;> kernel_rfl)
  refine' Nf.all_mk hPT KX G hmg ?a0 ?l0 ?c0 ?a1 ?l1 ?c1 ?a2 ?l2 ?c2 ?a3 ?l3 ?c3 ?a4 ?l4 ?c4 ?a5 ?l5 ?c5 ?a6 ?l6 ?c6 ?a7 ?l7 ?c7 ?a8 ?l8 ?c8 ?a9 ?l9 ?c9 ?a10 ?l10 ?c10 ?a11 ?l11 ?c11 ?a12 ?l12 ?c12 ?a13 ?l13 ?c13 ?a14 ?l14 ?c14 ?a15 ?l15 ?c15 ?a16 ?l16 ?c16 ?a17 ?l17 ?c17 ?a18 ?l18 ?c18 ?a19 ?l19 ?c19 ?a20 ?l20 ?c20 ?a21 ?l21 ?c21 ?a22 ?l22 ?c22 ?a23 ?l23 ?c23 ?a24 ?l24 ?c24 ?a25 ?l25 ?c25 ?a26 ?l26 ?c26 ?a27 ?l27 ?c27 ?a28 ?l28 ?c28 ?a29 ?l29 ?c29 ?a30 ?l30 ?c30 ?a31 ?l31 ?c31 ?a32 ?l32 ?c32 ?a33 ?l33 ?c33 ?a34 ?l34 ?c34 ?a35 ?l35 ?c35 ?a36 ?l36 ?c36 ?a37 ?l37 ?c37 ?a38 ?l38 ?c38 ?a39 ?l39 ?c39 ?a40 ?l40 ?c40 ?a41 ?l41 ?c41 ?a42 ?l42 ?c42 ?a43 ?l43 ?c43 ?a44 ?l44 ?c44 ?a45 ?l45 ?c45 ?a46 ?l46 ?c46 ?a47 ?l47 ?c47 ?a48 ?l48 ?c48 ?a49 ?l49 ?c49 ?a50 ?l50 ?c50 ?a51 ?l51 ?c51 ?a52 ?l52 ?c52 ?a53 ?l53 ?c53 ?a54 ?l54 ?c54 ?a55 ?l55 ?c55 ?a56 ?l56 ?c56 ?a57 ?l57 ?c57 ?a58 ?l58 ?c58 ?z0 ?z1 ?z2 ?z3 ?z4 ?z5 ?z6 ?z7 ?z8 ?z9 ?z10 ?z11 ?z12 ?z13 ?z14 ?z15 ?z16 ?lc_kb ?v11_kb ?hP0_kb ?hcI_kb ?lc_kp ?v11_kp ?hP0_kp ?hcI_kp ?nP
  any_goals (show _=_;k_is)
  case v11_kb=>exact rfl
  case hP0_kb=>kernel_rfl
  case hcI_kb=>kernel_rfl
  case v11_kp=>exact rfl
  case hP0_kp=>kernel_rfl
  case hcI_kp=>kernel_rfl
  case nP=>decide
  all_goals rfl
end
