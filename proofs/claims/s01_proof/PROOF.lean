import PyProof.Rows.All
import Wide.All
import OpenK.AllK
import Wide.FinOn
import KE.OsGo
import KE.OsHead
import Open.SpecLaws
import PyProof.EqAt
import PyProof.EqKinds
import PyProof.TupleCall
import KE.BitLaws
import PyProof.InstStore
import PyProof.InstStoreFacts
import PyProof.ExcInit
import PyProof.ExcBaseAll.Exception
import PyProof.ExcArgsOwn
import PyProof.RulesTry
import PyProof.RulesAs
import PySem.Challenge.RW_wordmoves_s01_answers
import Lean
set_option Elab.async false
set_option linter.all false
set_option maxRecDepth 100000
set_option maxHeartbeats 4000000
set_option exponentiation.threshold 1000
set_option bootstrap.genMatcherCode false
set_option compiler.extract_closed false
set_option compiler.reuse false
open Array renaming find?_toList→alo,forIn_toList→ayt,getD_eq_getD_getElem?→atJ,getElem?_eq_getElem→YF,getElem?_eq_none→YA,getElem?_eq_some_iff→OA,getElem?_toList→aBt,length_toList→Dc,toList→Ws
open Bool renaming and_eq_true→hG,and_false→Am,eq_false_iff→Fu,eq_iff_iff→hu,false_and→zw,false_eq_true→l0,false_ne_true→hB,false_or→Cv,not_eq_true'→Gm,not_false→ajb,not_true→Vp,or_eq_true→Gl,or_false→wW,or_true→ac2,true_and→w5,true_or→VJ
open Classical renaming byContradiction→nk
open Except renaming bind→G4,error→tu,ok→px
open False renaming elim→gI
open ForInStep renaming yield→Of
open Function renaming comp→u3
open Int renaming add_mul_ediv_right→auR,dvd_add→Mh,dvd_mul_left→aiu,dvd_of_emod_eq_zero→CG,dvd_trans→GG,ediv_eq_zero_of_lt→auS,emod_eq_zero_of_dvd→Mg,eq_of_mul_eq_mul_left→air,fdiv_eq_ediv_of_nonneg→alc,le_refl→VC,mul_assoc→L3,mul_comm→w9,mul_ediv_cancel_left→aiB,mul_eq_zero→UE,mul_left_comm→UD,mul_ne_zero→GC,mul_neg→U4,mul_sub→UC,mul_zero→Cx,natAbs_mul→Cz,natAbs_natCast→UJ,natAbs_sub_le→aqC,natCast_mul→u9,ofNat_dvd_left→ain,sub_zero→UQ,toNat→hT,toNat_natCast→kA
open Int.ofNat renaming inj→acL
open List renaming all_append→AP,all_cons→th,all_eq_true→gB,all_map→GJ,all_nil→adg,any_append→acZ,any_cons→pe,any_eq_false→Gj,any_eq_true→ly,any_map→u6,any_nil→VO,append_assoc→jo,append_nil→nh,contains_cons→arM,contains_iff_mem→xk,dropWhile_cons→ajn,drop_drop→rI,drop_eq_getElem_cons→aa7,drop_left→GY,drop_length→aa9,drop_succ_cons→VQ,drop_zero→avs,exists_of_findSome?_eq_some→VB,ext_getElem?→w0,filter→UA,filterMap_cons→w2,filter_append→s8,filter_congr→Cq,filter_cons→iO,filter_eq_nil_iff→ahP,find?_append→ED,find?_cons→jK,find?_eq_none→w_,find?_map→aja,find?_some→zG,findIdx?_append→avb,findIdx?_cons→zx,findIdx?_eq_none_iff→T8,findIdx?_eq_some_iff_getElem→ahM,findSome?_append→au3,findSome?_cons→ti,flatMap_append→w7,flatMap_cons→ta,flatMap_def→Gp,flatMap_id'→U6,flatMap_map→LQ,flatten_append→Cr,flatten_cons→qs,flatten_nil→ahS,foldl→Mo,foldl_append→s7,foldl_cons→hv,forIn_cons→H2,forIn_nil→DC,getD_cons_succ→Mw,getD_cons_zero→Mv,getD_eq_getElem?_getD→cZ,getElem?_append_left→mN,getElem?_append_right→w3,getElem?_concat_length→att,getElem?_cons_zero→an4,getElem?_drop→ai5,getElem?_eq_getElem→cA,getElem?_eq_none→hH,getElem?_eq_some_iff→oi,getElem?_map→cK,getElem?_of_mem→rx,getElem?_range→s6,getElem?_replicate→Md,getElem?_set→ahY,getElem?_set_ne→u_,getElem?_set_self→rz,getElem?_take→ai4,getElem?_zipIdx→Gn,getElem?_zipWith→zD,getElem_inj→ahJ,getElem_mem→ko,getElem_zip→aiZ,idxOf_cons→Ut,idxOf_cons_self→au9,idxOf_lt_length_of_mem→adA,isEmpty_iff→aBy,length→my,length_append→cn,length_cons→dR,length_drop→fV,length_eq_one_iff→ajw,length_eq_zero_iff→u5,length_erase_of_mem→ajO,length_filterMap_le→adb,length_filter_le→tT,length_map→ba,length_nil→l4,length_pos_of_mem→ah6,length_range→iP,length_replicate→ph,length_reverse→auM,length_set→mC,length_singleton→amj,length_take→eS,length_zip→aiY,length_zipIdx→ZS,length_zipWith→qw,lookup→qJ,lookup_cons→Ap,map→kS,map_append→d5,map_congr_left→lz,map_cons→eN,map_drop→uZ,map_flatMap→Ue,map_id→CP,map_map→gP,map_nil→zz,map_take→wV,mem_append→e4,mem_append_left→Hf,mem_append_right→vB,mem_cons→ed,mem_cons_of_mem→d4,mem_cons_self→dO,mem_erase_of_ne→ajN,mem_filter→ob,mem_filterMap→Gu,mem_flatMap→ni,mem_map→cJ,mem_of_find?_eq_some→nq,mem_of_getElem?→cG,mem_of_mem_drop→u0,mem_of_mem_take→qp,mem_or_eq_of_mem_set→aqO,mem_range→g4,mem_singleton→du,nil_append→HZ,nodup_append→Mb,nodup_cons→td,nodup_iff_pairwise_ne→Fd,nodup_nil→VV,nodup_range→awN,not_mem_nil→Bt,of_mem_zip→Xv,pairwise_iff_getElem→atP,pairwise_map→Mq,range→bz,range_add→ao0,range_succ→rv,range_succ_eq_map→Gy,replicate→iM,replicate_succ→Al,reverse_cons→NT,set_set→PW,size_toArray→gu,sum_append→Gw,sum_cons→w8,takeWhile_append_dropWhile→VR,takeWhile_cons→CW,take_append_drop→om,take_length→eK,take_of_length_le→sj,take_range→adM,toList_toArray→aoi,zipIdx_cons→aeI,zipIdx_nil→ayl,zipWith→kQ,zipWith_cons_cons→aik
open List.cons renaming inj→agG
open Nat renaming add_comm→tp,add_le_add→aba,add_mul→pq,add_sub_cancel_left→asL,div_eq_of_lt→aiU,dvd_refl→UH,dvd_trans→Cy,eq_zero_or_pos→aiq,gcd→qm,gcd_dvd_left→aim,gcd_dvd_right→aio,lcm→GH,le_add_right→Iu,le_of_eq→HC,le_of_lt→xJ,le_of_succ_le→Oa,le_refl→cL,le_succ→xv,le_trans→cX,lt_add_right→agq,lt_irrefl→kV,lt_of_le_of_lt→fL,lt_of_lt_of_le→jN,lt_succ_of_lt→CE,lt_succ_self→zI,lt_trans→Ie,min_eq_left→sx,min_le_right→Ah,mul_add→aan,mul_add_div→aiT,mul_comm→CH,mul_le_mul→wc,mul_le_mul_left→PU,mul_le_mul_right→CK,mul_pos→UN,ne_of_gt→lF,ne_of_lt→fk,not_lt_zero→xl,one_mul→pv,pow_le_pow_left→Ju,pow_le_pow_right→Ba,pow_succ→MP,sub_le→XC,sub_lt_sub_left→apP,zero_add→qx,zero_le→d_
open Ne renaming symm→jq
open Option renaming bind_some→Gh,getD_some→U2,isSome_iff_exists→ahL,isSome_map→Yi,isSome_none→atB,isSome_some→Oc,map_eq_some_iff→pP,map_map→Uh,map_none→GQ,map_some→wZ
open Option.some renaming inj→cI
open Or renaming inl→aV,inr→en
open Prod renaming ext→aiV
open PyFlat renaming call→C0,calls→MN,played→ajI,row→VX,rows→xB,told→rP
open PyProof renaming noPylong_of_log2→aph,noPylong_small→ald
open PyProof.Rows renaming AllBare→xI,IntsAre→Dy,Subscript_→NF,boot_list→Bc,boot_range→xU,callWith_type1→tJ,envOfC→qL,floordiv_int→WM,iadd_int→akP,subscriptTail→NG,subscriptTail_builtinR→al2
open PySem renaming Addr→ag,Around→rU,BindsTo→Dt,DictEntry→Ip,Draws→lW,Expr→dn,FuncData→k6,GenState→Qs,Heap→dk,IsPair→j2,IsRangeIter→M3,Keyword→HN,NameKind→pK,Operator→Di,OsState→arq,Paired→ov,Params→AJ,Program→f3,PyData→Ao,Scope→rp,Shared→aZ,Stmt→bK,Value→aH,Within→G_,World→ff,am_miss_of_fast→Yt,assign→z1,assignEach→xQ,atKey→vR,attributeBase→tL,backTo→hA,backToKw→x2,behindInMarks→z0,binaryOp→r6,bootBuiltins→rT,boot_len→eJ,builtinLookup_eq_fast→ER,builtinsNs→Wc,cLine→kb,call→kZ,callType_codes→ac5,callWith→Af,call_meets→x9,callerA→D4,cellsFrom→kc,codeAny→qI,codeAny_builtin→BC,codeAny_call_builtin→abI,codeAny_mono→x5,compEnvC→pQ,compareOp→jv,entryOfKey→MR,eval→cE,evalEach→Jc,evalPart_none→XA,evalPart_some→XB,excClassObj→p5,field→wK,foldedSetIterable→M7,getAttr→HB,getItem→z3,getMethod→Ad,getattributeRaised→Ot,holding→nz,isSubtype_type→JT,keywordEach→x3,letOwnedTupleGo→M1,mainGlobals→i6,mem_of_lookup→nD,model→bE,notedBy→DK,plainId_quiet→yX,plainObj_wpAny_Assign_Attribute→Nv,pushCells→ya,pushCells_keeps→N_,pyIter→vy,pyNext→nB,rawInt→hM,scanBound→yW,seqIndex_neg→XF,seqIndex_of→XE,setAttr→Dp,setFlight→Qo,sizeLine→bc,sizeLine_eq→Ac,size_of_entries→agz,sliceBounds→k8,slicePick→NL,sliceRange→AH,slot_list_getitem→XH,standAt→xR,starEach→dc,storedH→Ax,strIterType→Lf,subscripted→NI,swapsWith→tF,sysModules→l5,tupleKind→jS,tupleKind_room_in1→Ig,typeIs_str→NK,typeLookup→lI,typeLookup_type→EP,unbindBehindTheSuite→ar7,valueAt→yc,wpAny→a9,wpAny_Call_Name_kw→vI,wpAny_attempt→Ov,wpAny_bind→a7,wpAny_call→HK,wpAny_callSpecial?_slot→Ow,wpAny_call_entry→DR,wpAny_dictEntries→YD,wpAny_dictEpoch→YE,wpAny_execs_cons→Wu,wpAny_execs_nil→Dd,wpAny_field→lU,wpAny_getItem_list_slice→al9,wpAny_holding→oz,wpAny_isInstance→YG,wpAny_isOneOf_keyiter→anY,wpAny_isSubtype_exc→arN,wpAny_isTrue_Compare1→akq,wpAny_letGo→ac8,wpAny_loadName_cell→akl,wpAny_loadName_local→akk,wpAny_loadPart_at→wm,wpAny_mono→j_,wpAny_newObj_type→H8,wpAny_notOrdered_dict→YC,wpAny_onRaise→Qz,wpAny_passesOwn→z6,wpAny_pure→cx,wpAny_pyIter_list→M4,wpAny_pyIter_rangeiter→akW,wpAny_pyNext_list_end→akS,wpAny_pyNext_list_item→akR,wpAny_pyNext_range_end→akV,wpAny_rule→Ta,wpAny_seqItems→ux,wpAny_setField→DS,wpAny_setField_rec→FV,wpAny_specialOf→Ym,wpAny_standAt→Hp,wpAny_truthy_bool→xN,wpAny_typeLookup_exc→JP,wpAny_typeNameOfWhole_keyiter→Ox,wpAny_typeNameOf_keyiter→Oy,wpAny_typeOf→Kj,wpAny_updateSeq_pair→aym
open PySem.Around renaming under→Xl,under_plainId→Fb
open PySem.Builtin.Dict renaming addKeywords→ayO,pairItems→ayP,selfAndRest→ay0,showsAll→anT,updateFrom→Tj
open PySem.Builtin.Dict_items renaming ownsTuple→anV
open PySem.Builtin.Frozenset renaming updateFrom→aBR
open PySem.Builtin.List renaming listExtendWith→ac7,listItems→auI,listLengthHint→auF,listSameRef→auJ,listTooLong→Dx
open PySem.Builtin.Range renaming rangeFitsLong→PO,rangeSize→z8,small→Ou
open PySem.Builtin.SmallTypes renaming nextOf→FW,ownedTupleHandOut→ayp,ownedTupleIsFree→za
open PySem.Builtin.Str renaming strSliceIndices→vV
open PySem.Calls renaming Name_function_global→akm,callWith_builtin→amh,evalArgs_plain→ami,spliced_cons→Nx,spliced_nil→Nw
open PySem.Challenge renaming pw_wordmoves_s01_answers→aAU,rw_wordmoves_s01_answers→rl
open PySem.Code renaming isFrame→Xm
open PySem.Data renaming seq→OO
open PySem.EntryCells renaming newEntry→ari
open PySem.F renaming args_dict_init_2→ayZ,args_zip_next_1→ayA,entry_dict_init→ayV,entry_zip_next→ayz,kt_called_dict→ayT,kt_typeCall_dict_1→ayU,plainAttrs_list→h9,slot_dict_getitem→anv,slot_list_append→sD,slot_list_extend→nK,slot_list_getattribute→Yu,slot_list_index→amz,slot_zip_getattribute→agk,slot_zip_iter→ayR,slot_zip_next→Ld,store_Exception→JO,type_list_append→sE,type_list_extend→nL
open PySem.Heap renaming SameBut→ox,get?_none_of_le→akd,get?_push_of_some→dY,get?_push_size→gg,get?_update_ne→art,get?_update_other→vK,get?_update_self→x7,lt_size→dm,size_push→kz
open PySem.Heap.DictOf renaming new→anB
open PySem.Heap.IsSliceOf renaming new→alX
open PySem.Heap.Ns1 renaming of_empty→alC
open PySem.Heap.SameBut renaming update→an0
open PySem.IsRange renaming new→akZ
open PySem.NameKind renaming cell→X0,free→DD
open PySem.Obj renaming cls_mapFields→anZ,data_mapFields→DT,isFreed_of_fields→Ir,mapFields→j1,mapSeq→se
open PySem.P renaming truthy_int→alj
open PySem.Paired renaming length→rS,snoc→Yh
open PySem.PassesOwn renaming never→eL
open PySem.PyData renaming canLay0→JC,canLayAll0→we,depth→JD,depthAll→wg,eqv→vN,eqvAll→EI,int→kI,list→q5
open PySem.SeqAt renaming notIn_listAt→amc,shaped→vM
open PySem.SeqAt.EqAt renaming int_str→aj4,str_int→aj5
open PySem.Shared renaming TypeIs→atM
open PySem.Str renaming empty→Dr,ofString→iA
open PySem.StrLaws renaming At→avg,sliceText→D1,subAt_eq→Zb
open PySem.Txt renaming count→YT,find→OG,join→DX,startswith→DY,startswith3→OU
open PySem.Value renaming bool→xF,builtin→AA,int→zT,isStrOf→ajW,none→fh,ref→da,str→C4,type→vm
open PySem.W renaming Frag→bo,WRecords→aoq,WalkOS→aoN,callWith_K→HL,callWith_K0→alM,cellsFrom_some→alR,codeIn→Dv,emptyDict→vG,findIn→r8,fnOf→tM,handedIn→alq,hasDictIn→Nm,instObj→xG,isFn→Nn,keepIn→oB,lookIn→Nl,makesIn→Np,methodCall_KW→Xk,methodObj→Wa,nsIn→lp,plainGet→HA,plainGet_of→W6,plainOver→W7,takerIn→W8
open PySem.Within renaming cons→aly
open PyVainve renaming answers→MO,answers_asked→ajK,shape→jQ,whole→zS
open Sum renaming inl→gn,inr→jR
open Sum.inl renaming inj→V_
open Sum.inr renaming inj→MQ
open True renaming intro→xZ
open Vainve renaming Answer→Cm,Call→oo,Fault→oS,MOVES→VU,Machine→rG,Meet→nu,Move→ez,System→dt,Word→b7,allMeets→CT,allTurns→mE,answerOf→il,apartBy→uE,arrow→ks,ascii→zt,basisOf→xa,blank→j7,changeOf→zH,cleared→zE,closedBy→jr,countIn→pg,faultAt→mF,faultRow→acX,firstDown→xg,freeStep→hy,isGood→nt,isOver→E1,isSign→gm,isTurn→vb,isWord→nT,machineFault→CR,machineOf→gD,machineRow→CQ,meetsOf→xu,mostStates→vg,noBytes→o_,normalFrom→xt,normalOf→ee,numbersOf→qq,onBoth→oh,onDown→wJ,onGoal→Cw,onStart→Gv,onWord→sZ,readLetters→G5,readMove→G3,readRest→tv,readSystem→xy,readWord→ku,rowsBelow→pf,runFrom→gk,small→fe,solveFrom→GF,start→BU,step→oq,stepAt→wY,stepBy→zq,stepsOf→u1,takes→cP,takesWord→lC,toInts→pb,toNats→d8,tokensIn→hV,tryStep→zv,turnOf→rE,turnsOf→tl,turnsStay→Ml,unlike→xx,wantSign→hX,wantWord→CZ,weightOf→dv,wordRow→ng
open Vainve.Tok renaming sign→acs
open VainveNeutral renaming callOf→ajG,step→C2
namespace Wm
section
variable{G:Prop}{a b c d e g i j:Type}
theorem el0_2{A B:Prop}(h:A∧B)(k:A→B→G):G:=k h.1 h.2
theorem el0_3{A B C:Prop}(h:A∧B∧C)(k:A→B→C→G):G:=k h.1 h.2.1 h.2.2
theorem el0_4{A B C D:Prop}(h:A∧B∧C∧D)(k:A→B→C→D→G):G:=k h.1 h.2.1 h.2.2.1 h.2.2.2
theorem el0_5{A B C D E:Prop}(h:A∧B∧C∧D∧E)(k:A→B→C→D→E→G):G:=k h.1 h.2.1 h.2.2.1 h.2.2.2.1 h.2.2.2.2
theorem el0_6{A B C D E F:Prop}(h:A∧B∧C∧D∧E∧F)(k:A→B→C→D→E→F→G):G:=k h.1 h.2.1 h.2.2.1 h.2.2.2.1 h.2.2.2.2.1 h.2.2.2.2.2
theorem el1_1{A:a→Prop}(h:∃ x,A x)(k:∀ x,A x→G):G:=h.elim fun x h=>k x h
theorem el1_2{A B:a→Prop}(h:∃ x,A x∧B x)(k:∀ x,A x→B x→G):G:=h.elim fun x h=>k x h.1 h.2
theorem el1_3{A B C:a→Prop}(h:∃ x,A x∧B x∧C x)(k:∀ x,A x→B x→C x→G):G:=h.elim fun x h=>k x h.1 h.2.1 h.2.2
theorem el1_4{A B C D:a→Prop}(h:∃ x,A x∧B x∧C x∧D x)(k:∀ x,A x→B x→C x→D x→G):G:=h.elim fun x h=>k x h.1 h.2.1 h.2.2.1 h.2.2.2
theorem el1_5{A B C D E:a→Prop}(h:∃ x,A x∧B x∧C x∧D x∧E x)(k:∀ x,A x→B x→C x→D x→E x→G):G:=h.elim fun x h=>k x h.1 h.2.1 h.2.2.1 h.2.2.2.1 h.2.2.2.2
theorem el2_1{A:a→b→Prop}(h:∃ x y,A x y)(k:∀ x y,A x y→G):G:=h.elim fun x h=>h.elim fun y h=>k x y h
theorem el2_2{A B:a→b→Prop}(h:∃ x y,A x y∧B x y)(k:∀ x y,A x y→B x y→G):G:=h.elim fun x h=>h.elim fun y h=>k x y h.1 h.2
theorem el2_3{A B C:a→b→Prop}(h:∃ x y,A x y∧B x y∧C x y)(k:∀ x y,A x y→B x y→C x y→G):G:=h.elim fun x h=>h.elim fun y h=>k x y h.1 h.2.1 h.2.2
theorem el2_4{A B C D:a→b→Prop}(h:∃ x y,A x y∧B x y∧C x y∧D x y)(k:∀ x y,A x y→B x y→C x y→D x y→G):G:=h.elim fun x h=>h.elim fun y h=>k x y h.1 h.2.1 h.2.2.1 h.2.2.2
theorem el2_5{A B C D E:a→b→Prop}(h:∃ x y,A x y∧B x y∧C x y∧D x y∧E x y)(k:∀ x y,A x y→B x y→C x y→D x y→E x y→G):G:=h.elim fun x h=>h.elim fun y h=>k x y h.1 h.2.1 h.2.2.1 h.2.2.2.1 h.2.2.2.2
theorem el2_6{A B C D E F:a→b→Prop}(h:∃ x y,A x y∧B x y∧C x y∧D x y∧E x y∧F x y)(k:∀ x y,A x y→B x y→C x y→D x y→E x y→F x y→G):G:=h.elim fun x h=>h.elim fun y h=>k x y h.1 h.2.1 h.2.2.1 h.2.2.2.1 h.2.2.2.2.1 h.2.2.2.2.2
theorem el2_7{A B C D E F H:a→b→Prop}(h:∃ x y,A x y∧B x y∧C x y∧D x y∧E x y∧F x y∧H x y)(k:∀ x y,A x y→B x y→C x y→D x y→E x y→F x y→H x y→G):G:=h.elim fun x h=>h.elim fun y h=>k x y h.1 h.2.1 h.2.2.1 h.2.2.2.1 h.2.2.2.2.1 h.2.2.2.2.2.1 h.2.2.2.2.2.2
theorem el3_1{A:a→b→c→Prop}(h:∃ x y z,A x y z)(k:∀ x y z,A x y z→G):G:=h.elim fun x h=>h.elim fun y h=>h.elim fun z h=>k x y z h
theorem el3_2{A B:a→b→c→Prop}(h:∃ x y z,A x y z∧B x y z)(k:∀ x y z,A x y z→B x y z→G):G:=h.elim fun x h=>h.elim fun y h=>h.elim fun z h=>k x y z h.1 h.2
theorem el3_3{A B C:a→b→c→Prop}(h:∃ x y z,A x y z∧B x y z∧C x y z)(k:∀ x y z,A x y z→B x y z→C x y z→G):G:=h.elim fun x h=>h.elim fun y h=>h.elim fun z h=>k x y z h.1 h.2.1 h.2.2
theorem el3_4{A B C D:a→b→c→Prop}(h:∃ x y z,A x y z∧B x y z∧C x y z∧D x y z)(k:∀ x y z,A x y z→B x y z→C x y z→D x y z→G):G:=h.elim fun x h=>h.elim fun y h=>h.elim fun z h=>k x y z h.1 h.2.1 h.2.2.1 h.2.2.2
theorem el3_5{A B C D E:a→b→c→Prop}(h:∃ x y z,A x y z∧B x y z∧C x y z∧D x y z∧E x y z)(k:∀ x y z,A x y z→B x y z→C x y z→D x y z→E x y z→G):G:=h.elim fun x h=>h.elim fun y h=>h.elim fun z h=>k x y z h.1 h.2.1 h.2.2.1 h.2.2.2.1 h.2.2.2.2
theorem el3_6{A B C D E F:a→b→c→Prop}(h:∃ x y z,A x y z∧B x y z∧C x y z∧D x y z∧E x y z∧F x y z)(k:∀ x y z,A x y z→B x y z→C x y z→D x y z→E x y z→F x y z→G):G:=h.elim fun x h=>h.elim fun y h=>h.elim fun z h=>k x y z h.1 h.2.1 h.2.2.1 h.2.2.2.1 h.2.2.2.2.1 h.2.2.2.2.2
theorem el3_7{A B C D E F H:a→b→c→Prop}(h:∃ x y z,A x y z∧B x y z∧C x y z∧D x y z∧E x y z∧F x y z∧H x y z)(k:∀ x y z,A x y z→B x y z→C x y z→D x y z→E x y z→F x y z→H x y z→G):G:=h.elim fun x h=>h.elim fun y h=>h.elim fun z h=>k x y z h.1 h.2.1 h.2.2.1 h.2.2.2.1 h.2.2.2.2.1 h.2.2.2.2.2.1 h.2.2.2.2.2.2
theorem el4_2{A B:a→b→c→d→Prop}(h:∃ x y z u,A x y z u∧B x y z u)(k:∀ x y z u,A x y z u→B x y z u→G):G:=h.elim fun x h=>h.elim fun y h=>h.elim fun z h=>h.elim fun u h=>k x y z u h.1 h.2
theorem el4_3{A B C:a→b→c→d→Prop}(h:∃ x y z u,A x y z u∧B x y z u∧C x y z u)(k:∀ x y z u,A x y z u→B x y z u→C x y z u→G):G:=h.elim fun x h=>h.elim fun y h=>h.elim fun z h=>h.elim fun u h=>k x y z u h.1 h.2.1 h.2.2
theorem el4_4{A B C D:a→b→c→d→Prop}(h:∃ x y z u,A x y z u∧B x y z u∧C x y z u∧D x y z u)(k:∀ x y z u,A x y z u→B x y z u→C x y z u→D x y z u→G):G:=h.elim fun x h=>h.elim fun y h=>h.elim fun z h=>h.elim fun u h=>k x y z u h.1 h.2.1 h.2.2.1 h.2.2.2
theorem el4_5{A B C D E:a→b→c→d→Prop}(h:∃ x y z u,A x y z u∧B x y z u∧C x y z u∧D x y z u∧E x y z u)(k:∀ x y z u,A x y z u→B x y z u→C x y z u→D x y z u→E x y z u→G):G:=h.elim fun x h=>h.elim fun y h=>h.elim fun z h=>h.elim fun u h=>k x y z u h.1 h.2.1 h.2.2.1 h.2.2.2.1 h.2.2.2.2
theorem el4_6{A B C D E F:a→b→c→d→Prop}(h:∃ x y z u,A x y z u∧B x y z u∧C x y z u∧D x y z u∧E x y z u∧F x y z u)(k:∀ x y z u,A x y z u→B x y z u→C x y z u→D x y z u→E x y z u→F x y z u→G):G:=h.elim fun x h=>h.elim fun y h=>h.elim fun z h=>h.elim fun u h=>k x y z u h.1 h.2.1 h.2.2.1 h.2.2.2.1 h.2.2.2.2.1 h.2.2.2.2.2
theorem el4_8{A B C D E F H I:a→b→c→d→Prop}(h:∃ x y z u,A x y z u∧B x y z u∧C x y z u∧D x y z u∧E x y z u∧F x y z u∧H x y z u∧I x y z u)(k:∀ x y z u,A x y z u→B x y z u→C x y z u→D x y z u→E x y z u→F x y z u→H x y z u→I x y z u→G):G:=h.elim fun x h=>h.elim fun y h=>h.elim fun z h=>h.elim fun u h=>k x y z u h.1 h.2.1 h.2.2.1 h.2.2.2.1 h.2.2.2.2.1 h.2.2.2.2.2.1 h.2.2.2.2.2.2.1 h.2.2.2.2.2.2.2
theorem el5_9{A B C D E F H I J:a→b→c→d→e→Prop}(h:∃ x y z u v,A x y z u v∧B x y z u v∧C x y z u v∧D x y z u v∧E x y z u v∧F x y z u v∧H x y z u v∧I x y z u v∧J x y z u v)(k:∀ x y z u v,A x y z u v→B x y z u v→C x y z u v→D x y z u v→E x y z u v→F x y z u v→H x y z u v→I x y z u v→J x y z u v→G):G:=h.elim fun x h=>h.elim fun y h=>h.elim fun z h=>h.elim fun u h=>h.elim fun v h=>k x y z u v h.1 h.2.1 h.2.2.1 h.2.2.2.1 h.2.2.2.2.1 h.2.2.2.2.2.1 h.2.2.2.2.2.2.1 h.2.2.2.2.2.2.2.1 h.2.2.2.2.2.2.2.2
theorem el6_3{A B C:a→b→c→d→e→g→Prop}(h:∃ x y z u v w,A x y z u v w∧B x y z u v w∧C x y z u v w)(k:∀ x y z u v w,A x y z u v w→B x y z u v w→C x y z u v w→G):G:=h.elim fun x h=>h.elim fun y h=>h.elim fun z h=>h.elim fun u h=>h.elim fun v h=>h.elim fun w h=>k x y z u v w h.1 h.2.1 h.2.2
theorem el6_6{A B C D E F:a→b→c→d→e→g→Prop}(h:∃ x y z u v w,A x y z u v w∧B x y z u v w∧C x y z u v w∧D x y z u v w∧E x y z u v w∧F x y z u v w)(k:∀ x y z u v w,A x y z u v w→B x y z u v w→C x y z u v w→D x y z u v w→E x y z u v w→F x y z u v w→G):G:=h.elim fun x h=>h.elim fun y h=>h.elim fun z h=>h.elim fun u h=>h.elim fun v h=>h.elim fun w h=>k x y z u v w h.1 h.2.1 h.2.2.1 h.2.2.2.1 h.2.2.2.2.1 h.2.2.2.2.2
theorem el6_7{A B C D E F H:a→b→c→d→e→g→Prop}(h:∃ x y z u v w,A x y z u v w∧B x y z u v w∧C x y z u v w∧D x y z u v w∧E x y z u v w∧F x y z u v w∧H x y z u v w)(k:∀ x y z u v w,A x y z u v w→B x y z u v w→C x y z u v w→D x y z u v w→E x y z u v w→F x y z u v w→H x y z u v w→G):G:=h.elim fun x h=>h.elim fun y h=>h.elim fun z h=>h.elim fun u h=>h.elim fun v h=>h.elim fun w h=>k x y z u v w h.1 h.2.1 h.2.2.1 h.2.2.2.1 h.2.2.2.2.1 h.2.2.2.2.2.1 h.2.2.2.2.2.2
theorem el7_4{A B C D:a→b→c→d→e→g→i→Prop}(h:∃ x y z u v w s,A x y z u v w s∧B x y z u v w s∧C x y z u v w s∧D x y z u v w s)(k:∀ x y z u v w s,A x y z u v w s→B x y z u v w s→C x y z u v w s→D x y z u v w s→G):G:=h.elim fun x h=>h.elim fun y h=>h.elim fun z h=>h.elim fun u h=>h.elim fun v h=>h.elim fun w h=>h.elim fun s h=>k x y z u v w s h.1 h.2.1 h.2.2.1 h.2.2.2
theorem el7_5{A B C D E:a→b→c→d→e→g→i→Prop}(h:∃ x y z u v w s,A x y z u v w s∧B x y z u v w s∧C x y z u v w s∧D x y z u v w s∧E x y z u v w s)(k:∀ x y z u v w s,A x y z u v w s→B x y z u v w s→C x y z u v w s→D x y z u v w s→E x y z u v w s→G):G:=h.elim fun x h=>h.elim fun y h=>h.elim fun z h=>h.elim fun u h=>h.elim fun v h=>h.elim fun w h=>h.elim fun s h=>k x y z u v w s h.1 h.2.1 h.2.2.1 h.2.2.2.1 h.2.2.2.2
end
open Lean in
local macro_rules
 | `(tactic| obtain ⟨$ps,*⟩:=$e)=>do
  let ps:=ps.getElems
  let n:=ps.size
  if n < 2 || n > 14 then Macro.throwUnsupported
  let rs←ps.mapM fun p=>do let q←`(rcasesPat| ($p:rcasesPatLo)); `(rintroPat| $q:rcasesPat)
  let mut alts : Array (TSyntax ``Lean.Parser.Tactic.tacticSeq):=#[]
  for m in [1:min n 10 + 1] do
   let k:=n - m
   if k ≤ 8 then
    let l:=mkIdent (Name.mkSimple s!"el{k}_{m}")
    alts:=alts.push (← if e.raw.isIdent then (let i : Ident:=⟨e.raw⟩; `(tacticSeq| refine $l $e ?_; (try clear $i:ident); rintro $rs*)) else `(tacticSeq| refine $l $e ?_; rintro $rs*))
  let last←`(tacticSeq| rcases $e:term with ⟨$ps,*⟩)
  `(tactic| first $[| $(alts.push last)]*)
 | `(tactic| rintro $ps*)=>do
  let isT (p : Syntax) : Bool:=p.isOfKind ``Lean.Parser.Tactic.rintroPat.one && p[0].isOfKind ``Lean.Parser.Tactic.rcasesPat.tuple && p[0][1].getNumArgs ≥ 3
  if !(ps.any fun p=>isT p) then Macro.throwUnsupported
  let mut ts : Array (TSyntax `tactic):=#[]
  for p in ps do
   if isT p then
    let q : TSyntax `rcasesPat:=⟨p.raw[0]⟩
    let h:=mkIdent `hOb
    ts:=ts.push (← `(tactic| intro $h:ident))
    ts:=ts.push (← `(tactic| obtain $q:rcasesPat:=$h:ident))
   else ts:=ts.push (← `(tactic| rintro $p))
  `(tactic| ($[$ts]*))
local macro_rules|`(tactic|wp_step)=>`(tactic|first|(with_reducible first|refine PySem.wpAny_pure ?_|refine PySem.wpAny_bind ?_|refine PySem.wpAny_holding ?_|refine PySem.wpAny_standAt ?_|refine PySem.wpAny_point ?_|refine PySem.wpAny_rule ?_|refine PySem.wpAny_letGo ?_|refine PySem.wpAny_mkInt' ?_|refine PySem.wpAny_fresh' ?_|refine PySem.wpAny_alloc' ?_|refine PySem.wpAny_attempt ?_|refine PySem.wpAny_throw ?_|refine PySem.wpAny_of_eq (by assumption) ?_|refine PySem.wpAny_typeOf (by assumption) ?_|refine PySem.wpAny_specialOf_val (by assumption) (by assumption) ?_|refine PySem.wpAny_specialOf (by assumption) (by assumption) ?_|refine PySem.wpAny_isInstance_val (by assumption) (by assumption) ?_|refine PySem.wpAny_isInstance (by assumption) (by assumption) ?_|refine PySem.wpAny_call ?_|refine PySem.wpAny_runValue ?_|refine PySem.wpAny_run ?_)|((with_reducible apply PySem.wpAny_load');focus (heap_get;done))|((with_reducible apply PySem.wpAny_update');focus (heap_get;done))|((with_reducible apply PySem.wpAny_loadPart');focus (heap_get;done))|((with_reducible apply PySem.wpAny_updatePart');focus (heap_get;done))|((with_reducible apply PySem.wpAny_handled_none);focus (assumption;done))|((with_reducible apply PySem.wpAny_ite_false);focus (rfl;done))|((with_reducible apply PySem.wpAny_ite_true);focus (rfl;done))|((with_reducible apply PySem.wpAny_ite_false);focus (simp [*];done))|((with_reducible apply PySem.wpAny_ite_true);focus (simp [*];done))|((with_reducible show PySem.wpAny _ _ (PySem.mkStr _) _ _ _);refine PySem.wpAny_mkStr' ?_)|(wp_delta)|(with_reducible_and_instances refine PySem.wpAny_pure ?_)|(with_reducible_and_instances refine PySem.wpAny_bind ?_))
section
open Lean
def tabI(s:Syntax)(t:Bool):Option Nat:=
 let f(c:Char):=c.toNat-48
 match (match s with|.node _ `num #[.atom _ v]=>v|.ident _ _ (.str .anonymous v) _=>if v.utf8ByteSize=3 then v else ""|_=>"").toList with
 |[a,b]=>if a.isDigit&&b.isDigit&&t then some (f a*10+f b) else none
 |[a,b,c]=>if b.isDigit&&c.isDigit then let v:=f b*10+f c;if t then if a='0' then some (1000+v) else if a.isDigit then some (f a*100+v) else if a.isLower then some (1100+(a.toNat-97)*100+v) else none else if a.isUpper then some ((a.toNat-65)*100+v) else none else none
 |_=>none
def tabH(n:Name):Option Nat:=[`Z5,`Z6,`Z7,`Z8,`Z9,`Z_].idxOf? n
def tabC:Nat→Array Name→Syntax→Array Name
 |n+1,z,.node _ k a=>a.foldl (tabC n) (if z.contains k then z else z.push k)
 |_,z,_=>z
def tabE(z:Array Name):Nat→Syntax→String
 |n+1,.node _ k a=>String.ofList ['(',Char.ofNat (48+z.idxOf k),Char.ofNat (48+a.size)]++""++String.join (a.toList.map (tabE z n))
 |_,.atom _ v=>"a"++v++""
 |_,.ident _ _ v _=>(match tabH v with|some i=>"h"++toString i|_=>"i"++v.toString)++""
 |_,_=>""
def tabP:List (Name×Nat×Array Syntax)→Syntax→List (Name×Nat×Array Syntax)
 |(k,n+1,a)::z,s=>if n=0 then tabP z (.node .none k (a.push s)) else (k,n,a.push s)::z
 |z,_=>z
def tabD(ks:List String)(s:String)(as:Array Syntax):Syntax:=match (s.splitOn "").foldl (fun z t=>match t.toList with
 |['(',k,n]=>let k:=(ks.getD (k.toNat-48) "").toName;let n:=n.toNat-48;if n=0 then tabP z (.node .none k #[]) else (k,n,#[])::z
 |'a'::v=>tabP z (.atom .none (String.ofList v))
 |'i'::v=>tabP z (mkIdent (String.ofList v).toName).raw
 |['h',v]=>tabP z (as.getD (v.toNat-48) .missing)
 |_=>z) [(`x,9,(#[]:Array Syntax))] with|(_,_,a)::_=>a.getD 0 .missing|_=>.missing
local macro_rules(kind:=Lean.Parser.Term.app)
 |s=>if s[0].getId==`tabQ then
   let x:=s[1][0]
   let y:=if x.isOfKind ``Lean.Parser.Term.anonymousCtor then x[1].getSepArgs else x[1][1][0][0].getSepArgs.map fun y=>y[1][0][0][0]
   let z:=y.foldl (tabC 999) #[]
   return Syntax.mkStrLit ("\x02".intercalate ("\x01".intercalate (z.toList.map (·.toString))::y.toList.map (tabE z 999)))
  else Macro.throwUnsupported
def tabT0:=tabQ ⟨none,true,base,by lia,Prop,by decide+kernel,List Nat,pins,List ae,false,List Int,(Z5).length,_,if Z5 then Z6 else Z7,by decide,(Z5:Int),fun z=>Z5,rows,s.heap.objs.size,by simp,M.cl,if_pos Z5,aq.mono 14,if_neg Z5,aQ X 07 σ H s,some o,bh s,List ag,s.heap,decide Z5,List 06,b3 Z5 Z6 (br Z7)⟩
def tabT1:=tabQ ⟨aJ.of Z5,ao.cD Z5 (fun D=>Z6),upd Z5 Z6 (.lst Z7),"system",s.letters.length,.ref a,(Z5).trans Z6,13 (Z5=01) Z6 Z7,List α,38 (aE Z5) Z6,scope,some x,15 n,J 2,some (.ref Z5),bE 61 X.w,.int (Z5:Int),479 H,[35],c3 s,15 (Z5:Nat),List aH,some v,X.env,some u,xs.length,fun q=>Z5,633 0,s.letters,X.prog,J 1,l.length⟩
def tabT2:=tabQ ⟨cL _,aM (bf Z5),by rfl,rest,X.dC,absurd Z5 Z6,aV rfl,some (48 Z5),fun x=>Z5,some c,qual,sy.letters,.str (aP Z5),aj (J Z5) (aj (J Z6) Z7),aj Z5 ay,247 (aT Z5),bJ.cl,sy.letters.length,15 k,s3 _ _ Z5,aY.at_,J 3,du.mp Z5,.none,show Z5 from Z6,.nil,aF (94 Z5 Z6) (aF Z7 Z8),outer,Z5→04,241 ae,bL (i:=Z5) 242 rfl 70 Z6,292 v⟩
def tabT3:=tabQ ⟨x.length,width,cU (i:=Z5) 242 Z6 Z7,List 10,fun e=>Z5,21 rfl,decide_eq_true Z5,s4 _ _ Z5,121 h,dm e,s2 _ _ Z5,23 14,show Z5=Z6 from rfl,congrArg Z5 Z6,aE (bT Z5 Z6),gg _ rfl,cJ.mp Z5,decide_eq_false Z5,21 h,l[i]?,422 au,110 e Z5,21 03,⟨rfl,Z5⟩,by simpa using aa,of_decide_eq_true Z5,cA hi,⟨_,rfl,Z5⟩,23 03,23 h,404 (cA Z5),h Z5 237⟩
def tabT4:=tabQ ⟨⟨.bN Z5,Z6,Z7,rfl,Z8⟩,567 (cI Z5),dY _ e,fun y=>Z5,113 e,113 03,23 aS,108 (26).letters 60,23 (16 Z5),109 my Z5,38 (kJ Z5 Z6) Z7,102 z,hH 03,ko _,23 19,184 Z5 Z6 rfl,23 b53,102 03,23 ak,112 aq,23 e,119 rfl,113 (16 Z5),69 Z5 19,16 (d36 Z5),23 af,g4.mp au,21 e,11 Z5≤12,by unfold iE;simp only[e2];rfl,forall_congr' Z5,(oi.mp Z5).1⟩
def tabT5:=tabQ ⟨21 aa,ly.mpr ⟨Z5,Z6,Z7⟩,567 (om Z5 Z6),xv _,cX (tT Z5 Z6) ?_,o76 (cA Z5),w3 03,102 rfl,21 aS,21 af,aE (16 Z5),112 ai,.inl k,113 (58 Z5),201 _,Ef 03,sx 03,23 aa,21 ak,f Z5 03 03,(186).Aw,21 q,Option.some.inj Z5,this.1,cJ.mpr ⟨Z5,Z6,Z7⟩,23 566,rel.val k,hH b46,102 h,Jz Z5 (by injection Z6),102 e,a02 z⟩
def tabT6:=tabQ ⟨I.ok.mod.qz Z5 Z6 e5,cA 03,w0 (425 Z5),Fu.mpr 521,23 mX,23 ax,21 ar,23 ar,21 ax,beq_self_eq_true Z5,by ac_rfl,not_congr Z5,show 11 Z5=671 from oI,23 (by rw[t4];decide),23 (by rw[aa];decide),E6 (s:=Z5) (r0:=Z6) (by rw[J7,aL]) Z7,23 (by rw[h];decide),hH f56,121 cM,113 iN,21 (r.b.trans Z5),21 19,show 11 Z5=b38 from lN,lz (fun k _=>Z5),eq_false_of_ne_true Z5,wpAny_assign_Name Z5,w.length,h'.get? b,d7 ah Z5 (.int Z6),List Str,(Z5).take Z6,t.length⟩
def tabT7:=tabQ ⟨404 (32 Z5),List (ag×Obj),"place",s1.heap.objs.size,R.dx,d_ _,r.length,z.toNat,bE prog w,s.toks,name,"word",.ref C,dO ..,cC Z5 (.ref Z6) Z7,aF Z5 (65 Z6),Nat→Z5,Option Z5,S.az,"row",H' b,fi K C Z5,this,some (.lst Z5),46 a,15 i,ao.bi Z5,[352],J 0,.inl rfl,[37],_≤1000⟩
def tabT8:=tabQ ⟨"second","first",aj Z5 (78 Z6),247 (a_ Z5),.int i,Str→631,fun σ H Q=>Z5,367 ?_,upd Z5 Z6 (.ins Z7 dx Z8),gL ao,cP 17 Z5 Z6,dK CM CS H a sy,gw K CS,gj sy,some y,(Z5).toNat,Type,805 Z5 (Z6:Str),I.bB,a0.toArray,fun x ai=>Z5,.ref 18,453 (.int Z5 Z6),I.tok _,.ref p,.ref b,404 rfl,ao.bn Z5,ls.length,fun m=>Z5,f47 (Z5),some (46 Z5)⟩
def tabT9:=tabQ ⟨18+1,bE P w,fun _=>Z5,fun x H1=>Z5,cd 60 Z5,964 (.lst Z5) Z6,some (.tup Z5),hk (N:=Z5) (sc:=br Z6) 05,384 1,wipe σ vs,(680 (Z5<1000)),gh P w ck,∀b o,Z5→Z6,aY.lst,q.words.length,s.moves.length,"letters",R.lc,.inl (32 Z5),241 Int,ef 09 Z5,a15 i,cW _ _ Z5,0x23,fun h=>Z5,"move",ns.length,0x12c,dN.cl,as.map 501,bX Z5 (65 (cN Z6)) b2,h.get? b⟩
def tabT10:=tabQ ⟨15 (11 Z5),h.get? a,34 Z5 Z6 (a_ Z7),723 aH,820 ae,as[i]?,some 00,J 4,⟨Z5,?_⟩,.inl ⟨rfl,_,32 Z5⟩,fun q aw=>Z5,(Z5).bind Z6,807 s2,276 ?_,upd Z5 Z6 (.lst Z7) Z8,41 (bT Z5 Z6) Z7,List (Nat×10),15 c,894 2,eW K rfl Z5,d38 Z5 0,X.base,314-223,fH (bA Z5) Z6,.ref z,cx ?_,586 b,iF ah,hl K rfl Z5 (290 rfl),[37,Z5],fun b aa=>Z5,fun b o e=>Z5⟩
def tabT11:=tabQ ⟨"self",bI.length,R.lw,eB Z5 Z6 b53,312 ?_,i3 ao,633 1,eb 356 356,some b,Pv (i+1),e4.mp Z5,l.map Z5,by rw[Z5];exact Z6,"number","pairs",fun p au=>Z5,R.b1,f47 i9,cd ls Z5,894 1,.int 0,331 Z5 _,300 (Z5=25) Z6,eR m x,0x2e,0x10,kvs.length,(·.1),"zip","numbers",(Z5).find? Z6,cs.length⟩
def tabT12:=tabQ ⟨aj (J Z5) ay,38 (eX.2 Z5 Z6) Z7,.cons Z5 89,⟨894 Z5,367 Z6⟩,upd Z5 Z6 (.tup Z7),516 (94 Z5 Z6) Z7 Z8,fP sy,(09,688),370 w,878 Z5=some Z6,X.calm=01,gJ I q 19,"action",h.objs.size,m.left,.builtin Z5,fun p=>Z5,.type Z5,0x40,m.next.length,⟨_,Z5⟩,cE Z5 55,dc Z5 55,(bz Z5).map Z6,I.ok.hd ar,546 bq,List (cF×ae),Nat×hr,435 p,15 0,jS (fg P w),some z⟩
def tabT13:=tabQ ⟨H' p,0xd8,ao.ht Z5,0x24,0x5e,"__init__",aA.upd Z5,q.2.2,(Z5).objs.size,fun i=>Z5,ae.int Z5,m.right,"width",fun r=>Z5,R.lo,z.length,∀b∈df,Z5,[35,731],aF Z5 (aM Z6),514 Z5 H',fun D cO=>?_,bj Z5 22 bb (77 Z6 Z7 (384 Z8)),.ref x,List dn,e6 (g9 K rfl) Z5 Z6 630,xs[i]?,222 Z5 i,ki ah,46 p,⟨_,Z5,rfl⟩,826 Z5 H,some r⟩
def tabT14:=tabQ ⟨dX.of Z5,q.2.1,fun k=>Z5,e3.cl,q.counts,some (some Z5),fE 36 Z5,Z5→92 aZ,292 087,330 ?_,406 aR,76 x,292 w,77 Z5 Z6 ay,J 5,aJ K H a xs,684 y,684 v,some bC,j7 c,0x3e,0x3b,as.length,bJ.moves,(Z5).drop Z6,X.env.locals,fun D σ H=>Z5,R.dp,scope.names,cX Z5 14,bs.map 501,aA Z5 H'⟩
def tabT15:=tabQ ⟨.Attribute o Z5 Z6,Z5→571,some (.ins Z5 dx Z6),[313,235],fun af=>?_,fun aa=>?_,kP ao,31 Z5 50 Z6,.int z,455 aH,gO 17 i,some .local,some .cell,some 459,(p,k),jI cs Z5,hK X 07 σ Q,z.2.1,h.az,"list",by simp at h,ae.ref,A.in1,.fields Z5,fun i σ H'=>Z5,"moves",fun b=>Z5,X.ah,free,"range",whole,fun b aa o e=>Z5⟩
def tabT16:=tabQ ⟨(by intro fQ z;cases z),{cls:=401 Z5,data:=Z6},Q (.ref Z5) Z6,ae.str (aP Z5),aF Z5 (aF Z6 (65 Z7)),880 H,622 s1,pure 00,34 Z5 Z6 (aT Z7),16 ?_,List β,List (e8×ae),290 rfl,247 xs,Nat×10,222 Z5 j,gN sy,bF X e c7,46 t,29 (Z5=0),some a,0x18,0x61,"dict",fun b o aa e=>Z5,{s with heap:=h'},∀q∈Z5,Z6,"rows",(Z5).flatten,a.left.length,s'.heap,fun w=>Z5⟩
def tabT17:=tabQ ⟨last,(Z5).isNone,Z5→92 av,38 (38 Z5 Z6) Z7,bV "letters ",[35,885],222 (883 Z5) Z6,[35,235],bj Z5 22 bb (aj (J Z6) (78 Z7)),41 (355 Z5 Z6) Z7,(k2 Z5 Z6).step Z7,29 (Z5≤Z6),cN ay,fS 252 Z5 rfl,h.get? Z5=25,.ref l,Pv i σ H,f_ bI p,l2 s ws,fun g=>Z5,by have:=Z5;lia,∀r∈Z5,Z6,by simpa using e,(Z5).symm,hlen,ed.mp Z5,x.cps.size,Bool,h.lst,"weights","words",fun c=>Z5⟩
def tabT18:=tabQ ⟨"text","tokens",fun a b=>Z5,I.bare,m.l.length,s.heap.push Z5,(Z5).filter Z6,15 96,sy.moves.map iK,[35,623],878 Z5=25,aD.map 501,[35,623,539],[35,"call",k73],.ref f,29 (Z5=Z6)=09,455 Unit,293 (a_ Z5) Z6,cc Z5 us,A.handled=00,List Env,dK CM CS H a 26,("__debug__":Str),546 Nat,dJ (bz Z5) Z6,some (.int Z5),.ref d,gE kvs vs,some i,HT.eQ 431 0 lo,hF ls as,11 (c5 x)⟩
def tabT19:=tabQ ⟨819 k,11 (f_ bI p),71 n,819 c,⟨Z5,rfl⟩,I.bB Z5 _ Z6,some (Z5,t),dv ws Z5,39 Z5 _ _,Pv i H,fun i hi=>Z5,fun i h=>Z5,{s with heap:=h',toks:=tk},{s with heap:=Z5},cg.same Z5,"points",.error Z5,True,ep.heap,∀b u,Z5,X.env.scope,names,k62 rfl,241 aH,d35 x,bt K rfl (J Z5) rfl,b57 501,15 218,by show Z5≤Z6;lia,av→92 Z5,iR.map hT,241 ag⟩
def tabT20:=tabQ ⟨bV 243,.own x,fun ak=>?_,c_.getD Z5 0,⟨Z5,[]⟩,(l25 Z5),633 2,240 409,l.take i,15 z.1,820 ag,594 xs,546 ix,some (76 Z5),h.get? Z5=some Z6,.ref c,f5 Z5 X.A,406 (e::aR),757 a,686 H,(m,i),hI ls 17 x Z5,Q (.int Z5) H,hV 510 k Z5,514 p Z5,0x2d,rows.length,(Z5).Nodup,∀i∈v,Z5,m.last,(Z5).flatMap Z6,b8.left.length⟩
def tabT21:=tabQ ⟨sy.goal,h.at_,ys.length,X.stack,value,I.list Z5,s3.heap.objs.size,X.bl,by show Z5;decide,m.next.getD Z5 [],k33 (32 Z5),082 64,RelV Z5 u,b50 s3,D.cz σ Z5,(Z5).map (429 Z6),405 e,407 Z5 (425 Z6),aD.drop 1,y.2.getD Z5 0,bV "end",cY 60 cB,x.2.getD Z5 0,34 H1 D [],[235],fun t bk=>?_,384 2,List ez,247 acc,504 (∃v:93,Z5),jh jF,kp ls⟩
def tabT22:=tabQ ⟨lx sy,.int i t,f08<bc,96≤12,wipe c6 vs,721 Z5=some Z6,some (.ins C Z5 Z6),e_ eL rfl (339 Z5) (98 Z6 rfl 70) (aM (bX Z7 (65 Z8) b2)),α→92 β,aP x,⟨Z5,Z6,rfl⟩,79 r,(75++895),[280],RelV x v,fJ m p x,0x178,K.lookup Z5,"Fault",Array Z5,fun n=>Z5,fun r aq=>Z5,"found",bJ.letters,fun vs H1=>Z5,∀c o,Z5,"reached","length",q.dV,a.length,v.length,l.drop Z5⟩
def tabT23:=tabQ ⟨(Z5).isSome,fun o=>Z5,"token",False,(by subst cj;exact Z5),I.free,"column",(Z5).natAbs,ps.length,0x12d,rest.length,g.getD Z5 0,401 808,∀(a:ag)(sy:cv),Z5→Z6,J.getD Z5 0,h_ 886,.cons (404 Z5) Z6,[35,257,256],k77 i,78 bu,List cF,bF X Z5 bW,.str (aP Z5) Z6,Z5≤57,.ref it,upd (upd H Z5 Z6) Z7 Z8,29 (15 Z5=Z6),b6 (bz k),k41 ?_,.str x,qj ao,gb r⟩
def tabT24:=tabQ ⟨.ref e,48 z.1,⟨Z5,.int Z6 Z7,Z8⟩,p.getD Z5 0,ef 01 Z5,350 ?_,[576,226],rows[i]?,A.units+Z5,c07 f67,cP (dy 36 n l) v 0,some .free,(ee s ws v).1,o.cls=Z5,(Z5).get? b,781 236,.ref t,.int Z5 u,aA H dM,bV s,js ws w,16 (Z5),kN sy,mu ls aD,i52 i,750 c,some m,⟨h,g,d,t,os⟩,some q,h1 X x,009 o Z5,.ins C dx Z5⟩
def tabT25:=tabQ ⟨(Z5).stop i H,dv r v,gZ Z5 H H',0xed,0x11,(Z5).lookup Z6,(by cases h),s1.trans Z5,"tuple",(Z5).toArray,q▸aa,∀b bC,Z5,wf.az,x.take Z5,e3.left,"behind",ae.b4,"sign",iter,r.getD Z5 0,List (Str×Z5),964 (.tup Z5) Z6,match hy Z5 Z6 with|none=>Z7|some v=>Z8,109 (16 Z5) Z6,513 Z5 (503 Z6),gY b46,Q (.bN Z5) Z6,807 116,cB.left.drop (Z5+Z6),h83 dj,241 Obj,.BoolOp Z5 Z6 pos⟩
def tabT26:=tabQ ⟨422 cO,581 (513 535 p59),l.getD Z5 0,355 673 Z5,i4 Z5 (425 Z6),514 Z5 (34 Z6 Z7 Z8),⟨.ref Z5,Z6,Z7,rfl,Z8⟩,624 y,[576],∀H',49→Z5,633 3,br st,f89 916,384 3,841 909,List m9,fun r c1=>?_,276 (h x d83),X.N[i]?,681 q,cY 60 m,482 C bl,370 v,92 av,[419],.str x t,.int j,[420],b::67,41 Z5 aI,gv j3 20 22 ha 252,15 p⟩
def tabT27:=tabQ ⟨! 29 (819 i=0),i<284,some d,J 6,e5 c,lj n 17,287 f,46 d,230=n,46 q,b65 Z5 ?_,qU rfl rfl rfl rfl,fun j H'=>Z5,fun o e=>Z5,s.heap.get? Z5,bJ.start,aA.refl Z5,ae.ref Z5,"goods",x.drop Z5,fun i H'=>Z5,"codes",q.words,"search",fun v=>Z5,bs.length,fun y aB=>Z5,us.length,"enumerate",∀x c,Z5,(680 (Z5≤bc)),bV ";\n"⟩
def tabT28:=tabQ ⟨n*36,k62 739,721 a,.e0 kvs,401 499,292 b36,351 (dY Z5 Z6),f23 au,fE 284 Z5,eF i02,241 l65,ps.zip us,582 (bz Z5) Z6,Q .b4 H',pure 09,241 06,.eT Z5 (.lst Z6),747 (cP (dy 36 n l) Z5 Z6),567 (bT Z5 Z6),644 us,Nat×Nat,.ref i1,294 (a_ Z5),.cons Z5 ih,some (15 Z5),∀{l:40},Z5,d4 _ aC,fun b o z=>?_,f47 (98 Z5 rfl 70),bj Z5 22 bb (aj Z6 Z7),924 3,08→637 aW⟩
def tabT29:=tabQ ⟨15 767,cY ls m,.str z,405 o,[313,226,235],09=01,ae→637 aW,481 α,48 pl,[376],env::91,h'.get? Z5=some Z6,hf b aa,.int 1,13 Z5 (some Z6) 00,bz k,bF X Z5 tb,h4 X.K Z5,15 w,⟨dD,Z5⟩,f70 (Z5×ei),met f i,⟨_,rfl,?_⟩,58 (d36 q),bL (i:=Z5) 242 rfl (en rfl) Z6,km sy z,fJ m pl x,dX K H a xs,b81 c,15 (743 (ik q)),46 c,298 1⟩
def tabT30:=tabQ ⟨0x1a5,mainGlobals,beq_eq_false_iff_ne.mpr Z5,by kernel_rfl,aA.upd (o:=Z5) Z6,pl.isList,items,by simpa using h,"keys",bJ.goal,by rw[Z5],O.range,s.moves,fun l=>Z5,"pair","reversed",ns.drop Z5,z.two,z.one,0x384,m.first,hit.typeIs,s.heap.update Z5 Z6,dN.row,"start",t.drop Z5,x.natAbs,fun i H=>Z5,bY Z5 (fun us s1⟨vs,H1,aX,bU,bg⟩=>Z6),401 "Exception",513 499 Z5,g8.cells.lookup y⟩
def tabT31:=tabQ ⟨ps.map 501,row.map (72 Z5),fun eU=>aa (by simp[eU]),399 id,b.left.drop o,w.drop p,iL.map (16 Z5),ed.mpr 70,d10 f,⟨#[Z5]⟩,401 380,f26 _,.bool 09,ed.mpr (en Z5),bV b51,(ao.lq Z5).cl,990 l63,some (.eT Z5 Z6),78 59,292 a06,bI.drop p,(09,405 Z5),(i30 Z5).getD Z6 Z7,[d09],582 Z5 eZ,d6 jY 66 O.len eJ (78 59),434 (94 Z5 Z6) Z7,f62 (gD n 36 Z5 Z6),bI.drop (Z5+Z6),kk d44 d12,881 a,WellAll Z5 h Z6 Z7⟩
def tabT32:=tabQ ⟨iE m,11 (bV Z5)=Z6,fK (bj Z5 22 ha Z6),HT.eQ 431 431 hi,List (756×ae),384 0,uR ao,aT b1,.word w,o5 st,d12=43,List (Nat×Nat),247 478,List o7,D.uf Z5 l62 l61,aT ns,some k,[419,376,469,420].contains Z5,k8 604 00 040 57,dJ cs n,cP (dy 36 n l) w 0,15 12,450 ?_,.ListComp elt Z5 42 pos,l52 (72 (x !=0xa)),HT.eQ n Z5 Z6,aQ X 07 σ H' s',580≤12,57≤bc,b≠473,Sem aH,K.In h⟩
def tabT33:=tabQ ⟨.str a,bz n,h.Ns1 dx dG,[469],hc ws m,tl k,∀(s:aZ)(H:av)(C:ag)(cl:820 ag)(df:27),Z5,aJ K H Z5 (aT ns),d6 jY 66 O.len eJ (78 Z5),wK 344 Z5,oB Z5 590,gm "$" Z5,ja kvs k,11 Z5≤bc,gm "." Z5,ao.uP Z5 Z6 0 (ao.lq Z7) (fun F=>Z8),⟨Z5,rfl,rfl,Z6⟩,cut w n l,Prod.mk.inj Z5,(Z5:Z6).length,0x126,0x2a5,xs.map Z5,wf.ok,"state",by simpa using Z5,I.bB.fresh Z5,items.size,s.goal,v.left,fun y aC=>Z5,b8.left⟩
def tabT34:=tabQ ⟨a.left,"divisor",dN.place,"str",X.outer,I.loc,I.ok.kind,newId,"free",∀x∈r,Z5,∀q∈ps,Z5,sy.moves.length,"origins",by unfold gT;simp only[e2];rfl,eq_of_beq Z5,vs.length,fun σ H R=>Z5,fun i _=>Z5,z.2.2,r.drop Z5,X.iU.heap.objs.size,m.left.length,hU.1.2,q.nodes.length,tb {D with cz:=N,ek:=N,eO:=D.cz} Z5 Z6,h96 (jB Z5),d8 (883 Z5),.int (Z5:Nat),p24 y,o9 36 Z5,K i02,st.1.map (58 Z5)⟩
def tabT35:=tabQ ⟨fun _ _ _=>739,own.map (·.2),[35,623,381],p56 x,(Z5).map 379,us.map 501,fun _ _ h=>h,.Subscript Z5 Z6 pos,fun a=>898,668 (Z5<36),[35,f16,381],I.base.free Z5 o Z6 Z7 Z8,vs.map mv,fun h' eG=>119 Z5,29 (426 Z5=426 Z6),ls.idxOf c,b6 bI,jR (aP Z5),426 (15 Z5),48 q.1,(ee s ws h62).1,(ee s ws h61).1,g4.mp hi,[738],29 (Z5∈Z6),by show Z5<Z6;lia,fun H1 fU b9=>?_,.ref i2,List 40,513 535 p59,318 Z5 (78 (dq Z6)),gv qe 20 22 bb 45⟩
def tabT36:=tabQ ⟨440 59 Z5,aT a36,gv rf 20 22 bb 45,kS (72 Z5) Z6,(Z5).any (724 (29 (44=Z6))),bF X (.Call (.Name Z5 p) Z6 [] pos) Z7,546 571,bj Z5 22 bb (258 Z6 Z7),aF Z5 (aF (557 Z6) Z7),gn 337,fun d9=>?_,cN (258 bu Z5),dG 234,.inl h,wN ao,uQ ao,(Z5).findSome? Z6=00,ku 60 aD,c07 g14,f95 458,481 Nat,46 R.a,iA "",086 ?_,cG hm,aM (fK Z5),h.Ns Z5 fT,886++[x],gD n 36 i37 i40,.bN b,n*81,fun aL=>?_⟩
def tabT37:=tabQ ⟨some dx,.str (001 c),mE k 81,Q (76 Z5) Z6,m.r.length≤12,List (e8×aH),⟨Z5,818,ifs,Z6⟩,xl _,378≤bc,594 vs,294 xs,479 H1,46 bG,hM T,X.ah x,.ref q,b<18,ls.getD i 0,292 u,jH r,jM (ot 17) cm Z5,elim i 490,821 Z5 bR,cE Z5 env,hX ";" Z5,kh Z5 kvs xs,819 i,48 n,_,_,15 a,⟨_,111,rfl,rfl⟩⟩
def tabT38:=tabQ ⟨_,.seq Z5 n,vY K rfl,PySem.Challenge.pw_wordmoves_s01_answers,0x1b9,0x1a4,"kind","__setattr__","group",z.symm,I.tuple Z5,by rw[Z5];rfl,di.same Z5,v.right,"set",ae.int,af.at_,zs.length,q.origins.length,fun z hz=>Z5,z.word,cB.right,cB.left.length,"given_word","by_second","by_first",b.left.length,y.length,∀r∈rows,Z5,"amounts",by simp;lia,a0.length⟩
def tabT39:=tabQ ⟨fN.same Z5,dN.sign,s2.trans Z5,"goal",.tuple Z5,(by intro z;cases z),I.len,s1.toks,"pivot_row",cs.map Z5,q.counts.length,by rw[Z5];exact q,fun o q=>Z5,σ.length,a0.toArray.size,e.levels,e.words,bY Z5 (fun v s1⟨x,H1,aX,bU,bg⟩=>Z6),l60 x,tb {D with cz:=Z5,ek:=Z6,eO:=D.cz} Z7 Z8,(806),b0.ib Z5 (o50 Z6),b59 (aE Z5),⟨Z5,03⟩,ys.map ae.str,582 Z5 (429 Z6),ns.map b31,bl.map 379,29 (515 Z5=515 Z6),581 vG,l42 q,891=744⟩
def tabT40:=tabQ ⟨s.moves[i],h'.get? Z5=25,a13 03,[35,539],ho.trans s3,[573,b45],(330 (by cases aw)),c98 s4,∀i∈u,Z5<666,f59 (Z5<284),∀u∈vs,vX Z5 Z6,(26).start,.Attribute e Z5 Z6,q77 ?_,cm.foldl iq Z5,(Z5).map (400 Z6),ao.zg Z5 Z6 Z7 (fun F=>Z8),622 ho,b26 aw,(26).goal,540 (iM Z5 Z6),513 808 (.seq Z5),624 e,557 62,513 808 l63,.gf kvs,[738,817],o.data=Z5,339 62,(Z5).map (·.2),∀c∈x,Z5∈Z6,fun e7 H1 s1=>?_⟩
def tabT41:=tabQ ⟨fun n p qa e=>?_,q.2.getD Z5 0,fun x H' y=>?_,407 Z5 (58 (834 Z6)),r.foldl (fun g n=>qm Z5 n.natAbs) Z6,ej.extBut Z5 _ Z6 Z7,ws.getD Z5 0,538 st.1 Z5,l49<1000,dJ 763 k83,aP i81,725 ?_,[428,o83],aG.extBut Z5 _ Z6 Z7,m06+m.r.length,29 (Z5<11 (eR Z6 Z7)),cN (78 Z5),hh (34 bP D (acc++Z5)),X.mK E,.ref I,fun T bR=>?_,f05 ?_,b76 (n7 Z5) Z6,aj Z5 (384 Z6),.sign u,ro st,lI 989 234,990 (.seq 275 n),258 (dq Z5) Z6,nm (343 Z5 Z6),.Name x pos,308 f72⟩
def tabT42:=tabQ ⟨453 (399 q88),fT 234,I.cell Z5 c Z6,List rk,List nu,cx (cx Z5),lZ ps,.ref T,⟨Z5,Z6,.func Z7,Z8⟩,some (.bN Z5),[396,235,"point"],[352,b22,226],374 319 Z5,g44 49 Z5,∀H',hh H'→∃eg,Z5,af.get? Z5=25,11 (Z5::f63),273 024 Z5,List (756×Z5),e6 (oJ K rfl) 45 bu 630,some (nR Z5 Z6),some 899,29 (i90=k),72 (x !=0xa),dJ cs i,z::67,{s with toks:=233+1},a37 x,a_ f,∀σ H,Z5→Z6,sh x,l.Nodup→Z5⟩
def tabT43:=tabQ ⟨bF X o to,lr X.K fd ps ds,aA H H1,List (cF×aH),482 C [],479 aB,820 pK,X.fn x,.int k,gm "^" aD,R.sA b,aP l,tt c6 aB (fun b a5=>39 Z5 (c7 c6 a5 (fun y bP=>∃acc,Z6)) (hh a5)),σ[i]?,some _,d6 (hO K rfl) 66 O.len eJ (78 59),xT rfl 971 Z5,0x1d5,"Exception.__new__",fun j=>Z5,gi.objs.size,"refusal_without_both",s3.trans Z5,by rw[Z5];decide,cH.lst,∃x y,Z5,fun i a r af ak=>Z5,aR.size,"word_from",j4.lst,q.origins,(Z5).words.length⟩
def tabT44:=tabQ ⟨fun b u e=>Z5,"calls",bl.lookup Z5,b.right,sy.start,b.length,e.symm,s.gens,"left",fun cb H'=>Z5,fun y H1=>Z5,I.cell,fun x aB=>Z5,nonempty Z5,M.words,q.levels,fun x xs H Q=>Z5,p.isList,fun i h st b aa=>Z5,k.toNat,∃u:b7,Z5,fun j bS=>Z5,s.moves.findIdx? Z5,l.findSome? Z5,gM.toNat,n9.main.body,treeTable,X.env.cells.lookup Z5,h (102 Z5),j1 o59,bj Z5 22 bb (384 Z6),ns.map WData.int⟩
def tabT45:=tabQ ⟨38 332 Z5,l43 l39,by show 11 Z5≤Z6;rw[eA];exact Z7,d8 (813 Z5),bV 984,l21 i,121 ak,511 (aK.extBut Z5 Z6 Z7 Z8),aX.kept (t':=b55) Z5,match qq Z5 Z6 with|none=>Z7|some l=>Z8,bz 36,match Z5 with|none=>[Z6]|some z=>Z7,boot_heap i02,15 81,16 z.parent,b59 (110 Z5 Z6),h32 64,s.start.map l64,fun _ _ h'=>h',X.iU.heap.get? b,fun b o z aa=>41 Z5 Z6,s.goal.map l64,∀(i:Nat)(a:ag)(r:Z5),Z6→Z7,X.A.units+Z5,kvs.map 379,fun _ _ x=>x,HT.eQ 57 Z5 Z6,mtL.map (16 Z5),401 535,dj.mono sub,11 Z5=744,fw.map (72 Z5)⟩
def tabT46:=tabQ ⟨.bool 01,109 some Z5,min 57 674,290 00,401 b30,32 301,∀(f:ag)(fd:k6),Z5→Z6,! xs.isEmpty,j0 X.env.cells 476 [],bI.drop r,fun a5 q jD fo oW aw=>?_,d4 _ ai,K.In 28,813 b0,.lst (32 Z5) Z6,382 Z5 (506 Z6),List WData,.ref 449,ae.bN (29 (Z5=Z6)),ms.take i,582 (407 Z5 (lo+·)) Z6,fun e s'=>R Z5 Z6,.Assign Z5 Z6 pos,.Tuple elts Z5 Z6,a24 390,.int 468,dY _ (dY _ Z5),813 i,.int 665,401 T,∀a∈A,AI Z5 Z6 Z7,581 (513 499 (.seq #[]))⟩
def tabT47:=tabQ ⟨96≤979,.list d39,cY 60 b80,Z5+580≤96,312 (69 (102 Z5) Z6),∀vs H Q E,Z5→Z6,_,_,_,_,_,_,_,_,wJ Z5 (h56 Z6),.Call (.Name 380 p) Z5 [] pos,d4 _ bS,B 02,cN 755,fk 105,nm i39,bX (bM fv (J Z5) bu (bO _)) (65 (340 Z6)) b2,upd H Z5 (.e0 Z6),434 Z5 (557 Z6),bj Z5 22 bb (78 Z6),292 a41,eb (312 Z5) Z6,378=a03,618 ?_,cp.extBut Z5 _ Z6 Z7,s1.heap.get? Z5=Z6,448 aI⟩
def tabT48:=tabQ ⟨318 (bM jX (J Z5) et (bO _)) (78 (dq Z6)),aj (J Z5) (78 Z6),292 a40,d63 402,td.mp az,.ref D,292 (l69 Z5 Z6),32 aI,[f38],mj a79,881 b,286 (Ar Z5),76 95,fN (·=a) Z5 Z6,(Z5).app (386 Z6),c8 (387 1 (fin Z5 au Z6)),o.dict=00,fP 26,(ee s ws u).1,nm (bA i),480 Z5 pos',Cb ao,vZ CM,vQ bQ,a.getD Z5 0,(a18).In Z5,fm (j:=Z5) rfl,start N vs,920 p,kF ao,cG c1,16 (e Z5)⟩
def tabT49:=tabQ ⟨fun ar=>?_,.inr rfl,some (.ins Z5 Z6 Z7),406 [aG],jf 97 (iG Z5) Z6,(Z5).map (575 (aP Z6)),d40 s3,477 ai,.gf (oZ Z5 Z6),vC Z5 (i32 Z6),Pv Z5 (34 bP D (acc++Z6)),⟨00,rfl,Z5,rfl⟩,96+1,rn 17 ea m,o.dict=a84,445 e,350 (940).1,240 Int,455 631,79 q.2,.ref iw,.str 234 tk,∀q∈l,Z5<Z6,gN 26,aT (b6 Z5),en rfl,Int→Int,331 (hX ";" m.2) _,223+1,m3 z 67,dJ (b6 (bz 4)) 81,rB sy⟩
def tabT50:=tabQ ⟨n27 Z5∧∀x H',Z6,294 [a39,37],s.start=54,fm (j:=0) rfl,"Fault.__init__",fun g a4=>Z5,aq.units,acc.toList,acc.length,fun i v=>Z5,af.objs.size,∀h' tk,Z5,rd.extBut,s.heap.IsList Z5 Z6,"told","refusal","states",fun j σ H'=>Z5,"taken_to","all_rows",by rw[fV];lia,by rw[e],"sorted",s1.free Z5,"origin",jc.lst,s.moves.map Z5,(Z5).l.length,b.left,fun d hd=>Z5,"weigh",by rw[EP,ER];kernel_rfl⟩
def tabT51:=tabQ ⟨n.toNat,"take","refuse",by rw[e];rfl,"right",∀c∈w,Z5,"byte",fun s3 el=>Z5,I.base,"BaseException.__getattribute__",fun _ s'=>Z5,g1.objs.size,st.1.length,l.filter Z5,"amount",fun _ _ _ _ _=>Z5,M.left,"codes_of","level_counts",r.args,Codec.encAll Z5 Z6,fun i h h' st k=>Z5,fun _ _ _ H _ I h=>Z5,∀y∈scope.names,Z5,by simpa using aS,by simpa using af,∃cb H',Z5,∀i∈w,Z5,x.level,fun b o _ _ ar e _=>Z5,s.moves.all (jr Z5),rest.takeWhile fe⟩
def tabT52:=tabQ ⟨by have af:=Z5;rw[dZ Z6,jo]at af;exact af,bY Z5 (fun u s2⟨y,aB,b5,cT,cf⟩=>Z6),aQ X 07 σ Z5 s25,503 vs,by rw[←aY.len];exact eI Z5,401 o62,Except oS Z5,aQ X 07 σ H 537,985 r,r.map kI,fun v(t:List Nat)=>∃b,Z5,(show Z5 from r),[35,k45],c2 (fun t(x:List Nat)=>Z5) Z6 Z7,sc.kind==.function,15 099,472 (b8.left.drop Z5) b38,p56 n,401 "function",st.2.find? (429 Z5),(Z5).lE Z6 (fun c r=>Z7) (fun c xs r=>Z8),15 303,ps.foldl (fun s q=>Z5) Z6,294 (q.2.1.map Z5),(as.map ae.ref)[i]?,241 (Nat×Z5),109 b31 Z5,363 379,I.laid (t':=Z5) Z6 64 Z7,∀(s:aZ)(us:53),Z5,l.takeWhile q,(hA pos Z5).any 379=09⟩
def tabT53:=tabQ ⟨a03=744,X.base.get? b,A.under (.builtin "type.__call__" Z5),[35,731,235],292 cB.left,_,250 0x25,fun b bC q=>dY Z5 Z6,fun _ q=>q,58 (D.hQ 810),l59 f,976 i,o22≤12,fun dU=>29 (dU.1=Z5),220 "NO_WORD" (-Z5),273 Z5 730,bs.getD Z5 09,[352,304],.dict aR c0,[738,35],kvs.any (g09 Z5),11 317,jk.upd (en (en Z5)),[396,505],l23 i,A0 (u:=.lst Z5) (v:=Z6) Z7 Z8,k31 s5,A.deeper (qL Z5 Z6 18 Z7 Z8),883 b0,11 Z5=63,Z5≠"__name__",⟨bC.slots,Z5⟩⟩
def tabT54:=tabQ ⟨findIn Z5 (.ref Z6) Z7,g8.kindOf y,y.2=.free,rest.take 1,382 Z5 (fun aD=>Z6),se (290 Z5),gb (r.take Z5),(show Z5 from bQ),238 "levels" Z5 Z6,382 Z5 (h56 Z6),16 (z.1==Z5),.int Z5 233,cH.same s3,100 (D.hQ (e▸D.hx)),l67 m07,d40 i43,∀H' p,Z5→Z6,32 (103 Z5),jN 105 h88,.e0 606,base.Ns Z5 ah,cX I.ok.qA Z5,s.foldl iq Z5,472 997 Z5,fun f s1 q=>?_,a0.toArray[Z5]?=Z6,⟨Z5,fun i H x H'=>Z6,Z7⟩,.machine Z5 x,34 H1 D 634,wf.cw Z5 (cG Z6),P.zip vs,.str (001 Z5) Z6⟩
def tabT55:=tabQ ⟨.ref TI,(Z5).map (72 Z6),fun b xs aa=>?_,{o with dict:=some 397},(Z5).map (16 Z6),List 571,r5 (h94 (.bN Z5)),p21 (k89 (824 "slice" Z5)),aK.extBut Z5 _ Z6 Z7,xQ aR 55,(332).free c1,582 (407 Z5 (1+·)) Z6,jh z.2,aP m43,425 (001 (x.cps.getD Z5 Z6)),du.mpr rfl,w.take p,iy X (399 "len") Z5,bF X 676 Z5,wL (290 Z5),ns.getD Z5 0,Except od Z5,fun ua rM=>?_,b35 ?_,ps.foldl (fun w q=>i73 Z5) Z6,448 bk,List 08,fun cl jz=>?_,tF Z5 (some Z6) i10 55,fun c o z=>?_,fun H1 s1=>?_,C_ (348 Z5)⟩
def tabT56:=tabQ ⟨fun cM=>?_,fun a8=>?_,some m09,563 (747 0),g38 j,h'.update gK d37,924 2,nm (bA n),m6 ao,(j64).but Z5 Z6,jq aa,.ref bG,e79 rfl,884 (H'=34 Z5 D Z6),c8 (387 1 (one Z5 au Z6)),kc (678+1) 476 d80,l43 (gI z),924 5,_,_,_,_,_,_,_,_,ml ao,Ew rfl,fun v H'=>Z5,rl.args,"__getattr__","__getattribute__"⟩
def tabT57:=tabQ ⟨fun e he=>Z5,uN.lst,fun g h=>Z5,∀g∈cm,Z5,∀i σ H,Z5,fun(n:Nat)=>Z5,prs.length,"by_letter",aX.bB.fresh Z5,fun g1 nW aK=>Z5,.ellipsis,_,uv.at_,"machine",by rw[hn];exact Z5,z.2.length,fun l ax=>Z5,ms.length,"last","inner","first_parted_move",row.length,bR.lst,"all_turns",(by obtain⟨f,fd,a,b,c,d⟩:=h;exact Z5),"turns",h2.lst,ax.isList,"holder","take_row","take_number",by unfold nH;simp only[e2];rfl⟩
def tabT58:=tabQ ⟨fun ws=>Z5,fun aB s2=>Z5,"normal_word","hindrance_to_ends","counted_codes",z.right,z.left,fun c ar=>Z5,_,a.right,"standing_places",by unfold lk;simp only[e2];rfl,"letter",l.findIdx? Z5,∀q∈r,Z5,cT.lst,"difference","move_differences",l.find? Z5,(Z5).filterMap Z6,by simpa using bp,"list_reverseiterator",fun v s1=>Z5,by rw[JT];kernel_rfl,fun b h=>Z5,"expect",s.drawn,b9.trans Z5,"at_end","at_beginning",X.N.length,I.ok.mod.qz⟩
def tabT59:=tabQ ⟨I.ok.above,X.env.scope.kind,mr.mro,s0.heap.objs.size,s0.heap.get? Z5,(Z5).1.length,fun i j=>Z5,fun x H'=>Z5,by rw[dB];exact Z5,a6.at_,"level",bH.at_,fun x y=>Z5,fun b u q=>Z5,w.params,a0.toList,fun A i s Q E st h=>Z5,fun b ps e=>Z5,∀b∈ch,Z5,o.isSome,fun y aC e=>Z5,Z5=.function,pos.line,target,_,g8.locals,by intro pins s σ H Q I h;exact Z5,cs.flatMap Z5,u.length,a.left.drop Z5,∀j∈w,Z5,a.words⟩
def tabT60:=tabQ ⟨q.broken,_,x.word,(Z5).r.length,importedModules Z5,"OUT_OF_RANGE","MOST_LETTERS",j1 q94,(350 (by rw[Z5,s8];congr 1;rw[iO,aa];cases b<;>rfl)),j1 q95,rows.getD Z5 [],gY 03,h94 (.int Z5),fun u s1⟨y,H1,aX,bQ,q⟩=>bY Z5 Z6,vs.toArray.toList.map mv,Builtin.«zip.__next__» ⟨Z5,Z6⟩,(show False from r).elim,d43 896,by rw[←h.len];exact eI Z5,343 z.2.2.1 z.2.2.2,a14 896,Codec.app f51 Z5 Z6,p24 y.1,422 c1,Hx (p33 Z5),I.base.there b Z5 Z6 Z7,401 n73,.ref 678,k25 f51,l35 p37,s.heap.FunFrames 02 Z5,vg 36⟩
def tabT61:=tabQ ⟨b.getD Z5 0,Jh (nm:=Z5) 14 Z6,102 q,apos.endLine==Z5,621 833,b8.left.drop (671-Z5),by rw[a_,cK,Z5,cZ,cA Z6];rfl,st.2.filter (429 Z5),ls.findIdx? (72 Z5),29 (Z5=cB.left.take Z6),p42 (541-Z5),congrFun (congrFun Z5 Z6) Z7,min 671 b38,∀(a:ag)(sy:cv)(z:Int),Z5→Z6,i17 (541-Z5),504 (∃v4 ew:Z5,Z6),q.words.idxOf x,L.map (fun(c:Nat)=>Z5),fun i H' _ e=>682 Z5,o64 (aE Z5),081 (zG Z5),w.set q.1 Z5,af.symm.trans e,[35,h37],078 (·.2.1),fun es ji aB cf e dj lP m4 iZ=>?_,470=666,cY 60 b8,fun b ps aa=>328 Z5,(i79).l,[887,235],[35,f16]⟩
def tabT62:=tabQ ⟨b0.ib Z5 (h83 Z6),s0.trans 116,ns.map (724 Z5),l43 z,u.map 379,codes.map hT,n0 (b6 r),b.left.take o,15 083,292 k79,ah 892,DecidableEq α,cY 60,w.withFollow rq Z5,[352,d09],[35,885,"other_codes"],b5.unlock Z5 (I.Il Z6 Z7),b62+mc.toArray.size,[396,k35],X.env.kindOf x,⟨Z5,Z6,Z7,by simp[cM]⟩,[573,505],[35,731,885],b71 231,by rw[Z5,117 Z6];exact e,mV.trans s5,s5.trans cW,807 s3,iA "__next__",fun cb H' ky=>⟨Z5,03,Z6,Z7,Z8⟩,[505,h72,089],∀(r:10)(g:Nat),Z5⟩
def tabT63:=tabQ ⟨[352,576],["name",235],250 0x17,418 0x2f,s0.free au,290 326,(Z5).takeWhile fe,[h52,k73],q.origins[i]?,[h52,576],222 997 63,[352,235],250 0x26,af.trans z,.ref (424 Z5),218≤12,230=p.length,fun l h=>b68,880 aB,wQ.map (425 Z5),Str→241 Z5,.done (.ret Z5),Ov (Ow (name:=Z5) Z6 Z7 Z8),some {o with slots:=dP},[573,505,089],bF X (.Constant Z5 Z6 Z7) Z8,f52 f51 a,kv 675,(Z5).lE (fun c v ar q=>Z6) Z7 Z8,38 Z5 mB.symm,h.IsListIter Z5 Z6 i,292 i22⟩
def tabT64:=tabQ ⟨fun b bC aa aU _=>?_,262 (t σ Z5 (fun c H1=>Z6)),328 aX.gF,eb 356 (290 Z5),48 (11 Z5),16 (z.elim Z5 Z6),∀m∈sy.moves,Z5∧Z6,r.map (724 Z5),418 0x30,g1.push mn,569 (I.Hc Z5 Z6),e4.mpr (aV Z5),.bool FY,fun h' kx eX=>?_,fun b bC xs aa=>?_,[352,396,882],aY.but cH b9,.ext (312 Z5),aX.list aw,fun _ H Q=>Q Z5 Z6,isTrue Z5 55 Z6,xI s'.gens,hW.cons (fun w e=>p54) Z5,097 (kf Z5),s.moves[j],openGood Z5 uV,σ.set Z5 00,[35,365,226,885],some (dz.lst Z5),fun j eU e=>?_,σ.set i 54,d6 (hO K rfl) 66 O.len eJ 296⟩
def tabT65:=tabQ ⟨Ox 981 345,a52 45,h29 (426 44),o88 (fun _ H'=>909),339 252,by rw[Z5,Z6,117 Z7];exact e,su (c.enc Z5),some (dz.eT Z5 Z6),Oy 981 345,.bool b,aT codes,kv 91,723 Qs,fun e7 aB s2=>?_,fun b o e ai=>?_,some (.str 722 Z5),Z5+gA.1.r.length,(Z5).map (fun s=>Z6),583-gA.1.l.length,kindOf q,gs X (jv .NotIn) Z5,p49≤315,823 Z5 ao.X.b,48 o.2.2,E7 Z5 hf.symm,aD.map da,.list p60,bindL kindOf Z5 Z6 Z7,677 aw,.Compare Z5 Z6 Z7 pos,vm 499,.ok (Z5,rest)⟩
def tabT66:=tabQ ⟨723 631,some (.vn Z5),48 o.2.1,15 97,100 (.ok Z5),I.ok.has _ Z5,f29 ?_,[352,d16,f36,h85,h84],fun y c e=>?_,351 ?_,fun fc=>?_,h40 ?_,"answers",Codec.denoteAll Z5,∀base:dk,Z5,"abcdefghijklmnopqrstuvwxyz",.turned,F.length,fun b x q=>Z5,s4.trans Z5,(Z5).symm.trans Z6,by rw[e];exact Z5,"following","groups",fun x _=>Z5,by simp at e,"dict.update.loop",by simpa using ax,sq.keeps,fun m hm=>Z5,"are_kept","wanted_pairs"⟩
def tabT67:=tabQ ⟨"action_from","next_states",Ky (o0:=Z5) (o1:=Z6) (o2:=Z7) Z8 Z9,fun v a3=>Z5,c_.length,fun t x q=>Z5,by rw[aI,d5],oX.trans Z5,cw.right,cw.left,e3.right,show Z5 from aI,(a_ l)[Z5]?,"turn_apart",∀r∈l,Z5,∀H' p bs,Z5,fun c o e=>Z5,fun bP s4=>Z5,fun _ _=>Z5,by simpa using hi,fun xs H Q=>Z5,"way_or_refusal","search_within","search_refusal",M.origins,os.length,by rw[dR];lia,fun C d bl z=>Z5,∀C d bl,Z5,"reader","first_parting","first_steps"⟩
def tabT68:=tabQ ⟨by injection z,s.moves[Z5]?,fun b z aa=>Z5,b8.right,∀m∈s.moves,Z5,fun y e=>Z5,"are_apart",fw.length,by rw[Z5];lia,"staying_basis","letter_differences","falling_weights",∀m∈ms,Z5,s3.heap.push Z5,fun v s1 af=>Z5,by rw[gu];lia,fun i b m af ak=>Z5,fun b o e n=>Z5,L.length,"read_word",(by obtain⟨p,k⟩:=z;cases k<;>rfl),"is_letter",fun v aB=>Z5,by unfold q8;simp only[e2];rfl,s2.heap,{s1 with heap:=h'},I.ok.frames,fun b bC aa _=>Z5,fun b bC aa _ _ _=>Z5,iH.data,fun b bC aa aU _ _=>Z5,fun b bC aa e=>Z5⟩
def tabT69:=tabQ ⟨show Z5 from z,A.frames,fun u bp=>Z5,"pivot",_,"chosen","remaining",by rw[Z5];exact hi,"divided_out",∀d∈ds,Z5,"taken",M.calls,M.right,sy.moves.zipIdx.take Z5,"possible_places",sy.moves[Z5]?,by rw[h_,ba],∀x∈l,Z5,"written_word","note_word","given_length","broken_off","left_open",fun i σ H' _⟨_,_,e,_⟩=>Z5,16777216,vs.toArray,us.toArray,fun v q=>Z5,fun v z=>Z5,"dict_keyiterator",F.slot_dict_keyiterator_next,(nomatch z)⟩
def tabT70:=tabQ ⟨fun c xs q=>Z5,fun c q=>Z5,fun _ _ q=>Z5,fun _ _ z=>Z5,a0.toArray.isEmpty,r.append Z5,fun w hw=>Z5,fun b z=>Z5,A.depth,bl.length,fun _ _ σ H _ I h=>Z5,(nomatch e),r.dropWhile Z5,v.first,∀j∈v,Z5,∀q∈mp,Z5,fun x y r=>Z5,e.counts,e.origins,l.flatMap Z5,X.env.scope.names.lookup Z5,fun bx A outer s H vs Q E aq h=>?_,fun vs H Q E h=>?_,.seq l33,cd 60,241 Value,(by rcases p6.2 with z|z<;>rw[z]<;>assumption),rows.map (429 Z5),AA f41,b8.left.take Z5++Z6,(16 (by rw[z,e]at aU;cases aU)),gt Z5 Z6 Z7 (by rw[List.getElem?_map,a];rfl)⟩
def tabT71:=tabQ ⟨bY Z5 (fun us s1⟨vs,H1,aX,r,q⟩=>Z6),∀(i j:Int)(t u:Tok)(s:aZ)(Q:Z5)(E:489),Z6,aQ X 07 σ H 620,fun i σ H' _⟨_,_,_,s3,_⟩=>32 (s3 Z5 Z6 Z7),fun gV s1⟨y,H1,aX,bQ,bg⟩=>bY Z5 Z6,(l36 (by rw[d]at z;cases z)),aQ X 07 σ H s25,fun{m r:_}e=>by rw[e]at c4;exact Z5,fun i σ H' _⟨_,_,s3,_⟩=>32 (s3 Z5 Z6 Z7),∀(pins:Z5)(s:aZ)(σ:bq)(H:av)(Q:546 Z6),Z7,fun n b r h=>500,by have:=eI Z5;simp at this;lia,401 "method_descriptor",match xy Z5 with|.error f=>Z6|.ok y=>Z7,{cls:=Z5,dict:=none,data:=Z6,slots:=#[]},Dn (fun i j _ _ _ _ _ ar q=>Z5),{s1 with heap:=s1.heap.push Z5},((by intro q aw;cases aw)),fun b u e n=>by rw[Z5];exact e,{one:=i,two:=j,word:=Z5,left:=Z6++Z7,right:=Z8},fun x af ak=>03,I.un (t':=Z5) Z6 (o63 Z7),fun ys aC=>by rw[Z5];exact ai,s.heap.FunFrames 341 Z5,{cls:=.none,data:=503 Z5},fun T z=>o56,fT h23,I.mod.glob.keeps I.eO,f53 (st.at Z5),by rw[I.len];exact 159 Z5,ov (fun q(dU:List cF×ae)=>Z5) Z6 Z7,match nd 75 Z5 with|none=>Z6|some x=>Z7⟩
def tabT72:=tabQ ⟨OF (g:=Z5) (fun _ _ _ _ s _ h=>Z6),fun _ e=>l51,583-580,q5 f73,p56 y.1,.own a,r.b.symm.trans z,121 ar,_,∀(n:Nat)(b:ag)(r:10),Z5,fun x a5=>∃a mY dx bl,Z5,15 302,ys.map (·.length),rest.dropWhile fe,f26 (zH 36),15 b62,by rw[204 Z5];exact cR,∀(a:ag)(x:06)(m:g0),Z5,by rw[←zO];exact 184 Z5 Z6 Z7,cI (aU.symm.trans Z5),222 997 a09,q.origins.getD Z5 00,d08 130,h'.Ns1 397 Z5,c2 (fun b(r:List Nat)=>Z5) Z6 Z7,b71 03,D.es (e▸D.ip),fT h22,own.map 379,(cells.lookup Z5).getD Z6,x_.map b31,beq_iff_eq.mpr h⟩
def tabT73:=tabQ ⟨sy.moves.take i,c2 (fun b(r:List Int)=>Z5) Z6 Z7,s.2.2.length≤12,ms.map b31,Codec.withinAll Z5 a,by rw[aE Z5];exact n,min 541 b42,(693).l,504 (∃v2 fb:Z5,Z6),p41 fe,fun z:Nat×Nat=>(Z5).zip Z6,(Z5).moves.any (285 Z6),r.map (·%d),fun v h' tk a3 kx b0=>?_,d.params.defaults=Z5,sp.map (16 Z5),mu 60 aD,dU.1.map ec,fun fin=>?a,as'.map 501,l45 cT,f27 693,ps.map 379,743 (z.2.getD Z5 Z6),b6 z.2.flatten,codes.take i,ep.heap.get? b,DecidableEq e8,Rv (sy:=sy) (f:=Z5),jk.self.same Z5 yt,kvs.map (fun dU=>Z5),∃(a0:53)(n:Nat),Z5⟩
def tabT74:=tabQ ⟨sy.letters.Nodup→Z5,(aP Z5).cps.toList,Pv 57 σ H,f84 Z5 (fun c v ar r=>Z6) Z7 Z8,b73 (st.2.take Z5) Z6,n95=81,[35,313],292 398,uz.trans e1,fo.trans p0,r.ret.enc (i41 Z5 Z6),fun b o ar e=>⟨Z5,Z6⟩,619 b68,58 (D.es 810),! kvs.isEmpty,38 Z5 (fN.upd Z6),16 (aa (by simp[z])),470=81,58 851,16 (ar (by simp[z])),af.push (824 p25 Z5),∀{m:Int}{r:10},Z5,aX.laid (t':=Z5) Z6 64 Z7,∀(n:Nat)(l:40),Z5,(Z5).map (·.length),wQ.contains n,16 901,env.cells.lookup Z5=Z6,∀(n:Nat)(l:06),Z5,n66 ?_,fJ m d32 x,ea.length≤377⟩
def tabT75:=tabQ ⟨_,_,_,["__module__","__name__","__qualname__","__doc__",p55],733=d13,b62*d27,230≤12,i55 i10,370 088,i20=09,_,_,_,15 b43,418 0x31,To 03,e1.trans gW,uy.trans s4,aL.get? b,cW.trans e1,422 bk,_,cS.map ec,.builtin Z5 (644 Z6),X.ah 509,storeName 55 Z5 Z6,LawfulBEq α,(∀cb H',Z5),fun af tk y fC=>?_,l17 (d.weight≤1048576),k29≤377,n1.take j⟩
def tabT76:=tabQ ⟨b50 s4,env.kindOf x,fk 03,_,fun i b q af ak=>?_,KU.take j,rest.drop 1,d08 ?_,o58 ?_,d29 ?_,fun qX=>?_,fun dE fp=>?_,fun he=>?_,fun x c e=>?_,fun hm=>?_,131 ?_,290 ?_,Bool.and_eq_true_iff.mp Z5,fun _ _ _ _ _ _=>Z5,"POINTS_TRIED","DIVISORS",∀{f:ag}{fd:k6},Z5,by rw[Z5];exact k,fun x ai y aC=>Z5,by rw[aI,d5];rfl,fun j H' _ e=>Z5,dg.length,fun p(q:rk)=>Z5,"groups_behind",by rw[Z5];exact bS,fun j q e=>Z5,∀(j:Nat)(q:m9),Z5⟩
def tabT77:=tabQ ⟨aR.toList,by simp[h],fun h' tk kW k=>Z5,jx.extBut,(Z5).toArray.size,by rw[jx];rfl,A.in1.in1,h'.objs.size,"object.__getattribute__","StopIteration",∀x y h' tk,Z5,ey.objs.size,"first_move_out","accepts","machine_from","NO_SUCH_LIST","first_proof",by rw[aR];rfl,by rw[e7];rfl,"first_proof_of","most_states",by rw[ax];exact Z5,by unfold rg;simp only[e2];rfl,fun a5 s3=>Z5,"turns_from",by rw[fa];exact Z5,(by obtain⟨i,hi,rfl⟩:=Z5;exact Z6),"first_turns_apart",l.flatten,l.flatten.length,"staying_turns",aD.length⟩
def tabT78:=tabQ ⟨by rw[ba];exact Z5,∀H' p as,Z5,(·≤·),by unfold yW;lia,"NO_GOAL","is_closed",zs.reverse,b1.length,"answer_next","answer_about_ends","answer_about_proofs","answer_about_ways",∀(a:ag)(s:dt),Z5,"written",fun ft cW=>Z5,"hindrance","meetings","meetings_by_overlap","meetings_within","Meeting","first_step",by simpa using ak,match Z5 with|none=>Z6|some p=>Z7,"parting_weights","parting_by_rest","NO_START",ws.length,"go_down",i8.filterMap Z5,by rw[gu]<;>lia,XH.lookup,ys.reverse⟩
def tabT79:=tabQ ⟨by simp[dh],"__length_hint__",mc.toArray,by rw[gu,gu];lia,∀l b xs zs,Z5,by simpa using a3,by rw[d1];exact aI,by rw[Z5];exact aI,"system_from","read_line","read_letters","WRONG_ROW",{s with heap:=af,toks:=tk},F.plain_set_update_loop,{s with goal:=Z5},{s with start:=Z5},by rw[ba,aY.len];exact Z5,"read_move",{left:=x,right:=y,first:=f0,last:=f1},"token_at","place_behind_blanks",by injection e,fun b o e _=>Z5,(bI.drop p)[Z5]?,"FIRST_LETTER",by unfold lV;simp only[e2];rfl,(by intro b aa;cases aa),fun h'⟨gK,gr,gd,mD,pj,pk⟩=>Z5,(by cases z),X.env.globals,fun b o aa=>Z5,(·.setIfInBounds 3 fh)⟩
def tabT80:=tabQ ⟨j8.some_of (v:=Z5) (o:=Z6) Z7,by rw[←l];exact Z5,"BaseException",fun b bC aa=>Z5,by rw[Z5];exact r,dh.objs.size,s'.heap.get? Z5,I.base.pB,I.base.nx,I.base.pA,env.frame,pl.isEmpty,fun b x aK aG z=>Z5,∀(b:ag)(x:Z5),Z6,"basis_row","reduced_rows",by rw[cZ,Z5];rfl,fun n v z af ak=>Z5,let⟨a,x,y⟩:=Z5;Z6,"without_column",fun σ H'=>Z5,by have:=Z5;have:=Z6;lia,"stay_by_rest","choices",M.letters,PQ.toList,sy.moves.zipIdx,match Z5 with|none=>Z6|some m=>Z7,{cz:=Z5,l7:=Q},fun x y H Q=>Z5,"one_form","word_line"⟩
def tabT81:=tabQ ⟨"move_line",by rw[kR];simp,"go_through",fun i v o af ak=>Z5,fz.words.length,by rw[sG];exact Z5,"common_divisor",.FloorDiv,codes.length,by show Z5;rw[Z6,Z7]<;>rfl,by rw[Z5];exact h,fD.isList,fun i H v H'=>Z5,o.ExactDict,"itertools.pairwise","itertools.zip_longest","odict_iterator","dict_reverseitemiterator","dict_itemiterator",1073741824,{s with heap:=Z5,toks:=tk},fun c v _ q=>Z5,fun b xs e=>Z5,fun b xs q=>Z5,fun b u e z=>Z5,by rw[e];exact xZ,fun H' ky=>Z5,ce.locals,show Z5 from au,{s3 with heap:=Z5},"list.append",by rw[←DH];rfl⟩
def tabT82:=tabQ ⟨scope.names.lookup Z5,"list_iterator",fun gr gd=>Z5,its'.toArray,by simp only[gu]<;>lia,fun v u s2 x y aB b5 bw bQ q=>Z5,by rintro rfl;exact Z5,show Z5 from aL,by rw[hu];simp,fun _ _ _ _ _ _ _ q=>Z5,show Z5 from p,fun _ _ _ _ _ st h=>Z5,l.filterMap Z5,(nomatch q),ms.flatMap Z5,as.flatMap Z5,r.contains Z5,r.takeWhile Z5,a.left.take Z5,∀(n:Nat)(w:b7)(k:Nat),Z5,(Z5).getLast?,∀{v:b7}{q:Nat},Z5,∀i∈m.left,Z5,rA.findSome? Z5,fun q a r=>Z5,a.words.length,e.words.length,{e with op:=true},z.2.2.length,q.nodes.map Z5,(by cases e),"__annotations__"⟩
def tabT83:=tabQ ⟨sc.names.lookup Z5,D.F.ok Z5 (fun vs H Q E h=>Z6) Z7,p57 Z5 Z6 (fun bx A outer s0 H vs Q E aq h=>Z7),.dict #[],ms.map WData.int,PySem.Challenge.rw_wordmoves_s01_answers,1000000000000000000,(by obtain⟨f,fd,d,e⟩:=Z5;exact Z6),∀(ec doc pm:aH)(an:Z5)(bx ek:aH)(us:Z6),Z7,Nat.eq_of_beq_eq_true Z5,by simpa using he,by simpa using fc,(by rw[z,aI]at bR;cases bR),by simpa using An,match Z5 with|some (.tup ys)=>Z6|_=>Z7,by simp[j5]at e,by simpa using aK,by rw[l4,qx];exact uL,"dict.__init__",∀(rest:Z5)(i:Nat)(acc:Z6)(i8:Int)(t:Tok)(s:aZ),Z7,X.A.in1.in1.in1,(by obtain⟨o,e,_⟩:=pl.isList;exact Z5),by simpa using aG,(by obtain⟨o,e,_⟩:=Z5;exact Z6),fun prog w A R s h=>Z5,"zip.__getattribute__",{cls:=Z5,dict:=none,data:=Z6,slots:=dP},Builtin.«object.__getattribute__» Z5,by rw[fastTable_eq_tree];kernel_rfl,isSubtype_stop,fun c o fA iY nI e=>Z5,fun y ey QT py Te ej=>Z5⟩
def tabT84:=tabQ ⟨fun x g2 m4 zb Tb aG=>Z5,fun c o fA kd iY nI e=>Z5,fun{dM p l:_}s0 au e=>Z5,by rw[fA,kd,iY];rfl,by rw[hn,iP];exact Z5,by rw[hn,iP];lia,by show Z5;rw[e];rfl,(by refine Z5;rw[Z6]at d9;cases d9),fun i σ H'⟨_,_,_,s2,_⟩=>Z5,∀(i:Nat)(b:ag)(m:g0),Z5,by rw[FR];decide,(by have:=Z5;rw[←z,fp]at this;cases this),by rw[cn,hR];rfl,(by rw[z,fp]at au;cases au),"MOST_LETTERS_FOR_THREE_STATES",fun i σ H' _⟨_,_,_,e,_⟩=>Z5,(aD.map ae.ref)[Z5]?,(by refine Z5;rw[Z6]at qv;cases qv),by have:Z5:=Z6;rw[pq,pv]at this;lia,by unfold b6;rw[Fd,Mq];have:=Z5;rw[Fd]at this;exact Z6,∀(a:ag)(sy:cv)(x y:Z5),Z6,fun H1 p as s1 bR=>Z5,"MOST_POINTS_COUNTED",∀(a:ag)(sy:cv)(k:Nat),Z5,by unfold yW at aa;lia,fun H1 R os af g1 s1=>Z5,(q.origins++[o])[Z5]?,(by rw[R8]at z;cases z),(by rw[a4]at z;cases z),by unfold wD;simp only[e2];rfl,(by refine Z5;rw[Z6]at h;cases h),fun{dM p v:_}s0 au b0=>Z5⟩
def tabT85:=tabQ ⟨∀{dM:av}{p:ag}{v:Int},Z5,by rw[cK,ai];rfl,by refine Z5;have:=Z6;have:=Z7;lia,fun x dx ai yY cz=>Z5,by split<;>lia,{one:=i,two:=j,word:=b8.left,left:=b8.right,right:=Z5},(by obtain⟨dx,h⟩:=h;exact Z5),∀(a:ag)(s:dt)(ws:Z5)(v:b7),Z6,by rw[e]at k;exact k,fun H1 d s1 ID hd=>Z5,by rw[cH.len,ba,ax],by rw[cK,ak];rfl,by simpa using q,by simpa using hlen,fun j H' _⟨_,e,_⟩=>Z5,by rw[gN,ba];exact g.wU,fun ws aR H1 p s1 au=>Z5,fun bP p ps s4 i7=>Z5,by rw[fa,nM,iP];exact Z5,"HEAVIEST_TRIED",fun i σ H' _⟨_,_,s1,_⟩=>Z5,(a0.toArray[·]?),bk.isList.typeIs,fun sb s2⟨l,aB,b5,pl,cf⟩=>Z5,fun sd s3⟨u,a5,el,pu,eC⟩=>Z5,by rw[rd,hsz];exact bS,"list_reverseiterator.__length_hint__",F.args_list_extend_2 Z5 Z6,F.entry_list_extend,F.slot_list_extend,by rw[Z5,Am];exact hB,fun i v s Q E a3 aw=>Z5⟩
def tabT86:=tabQ ⟨(by rw[z,aI]at ax;cases ax),"TEXT_TOO_LONG","LONGEST_TEXT","LARGEST_BYTE",fun bG wC mW Kd at8=>Z5,fun bP l aY ax jE=>Z5,(by rw[Z5]at q;cases q),s'.moves.length,s.start.isSome,fun z rest H1 q e b9 aw nU kL=>Z5,"MOST_SYSTEM_LETTERS",∀(a t:ag)(aD:ei),Z5,∀(af:dk)(tk:Nat),Z5,{cls:=Z5,dict:=none,data:=Z6},F.entry_set_update_loop,by rw[Bz,ej];unfold Bw;rw[Bv,aC];rfl,by rw[←e,hf,af],"UNKNOWN_LETTER",by simpa[c5]using ar,by have:=Z5;exact this,by rw[z];exact h,by rw[aT,cK,b6,cK,ar];rfl,∀(t:ag)(bI:Z5)(p:Nat),Z6,match Z5 with|[]=>Z6|c::rest=>Z7,fun u s1⟨x,H1,aX,bw,bg⟩=>Z5,fun b o e n aa ai=>Z5,by rw[I.ok.kind];rfl,fun b o aa aU ai=>Z5,fun b o aa aU hf ai=>Z5,(by rw[Z5]at aa;cases aa),(by rw[z,dw]at aa;cases aa),fun _ _⟨o,vs,e,r⟩k=>Z5⟩
def tabT87:=tabQ ⟨by rw[arM];simp,fun b bC aa ai z=>Z5,(by rw[z,e]at aa;cases aa;exact Z5),by rw[ba,Ac];lia,"object.__setattr__",by rw[←vd];exact Z5,fun A outer s H vs Q E aq pL=>Z5,∀(bx:aH)(A:rU)(outer:Z5)(s:aZ)(H:av)(vs:Z6)(Q:aW)(E:bD),Z7,(by rw[Z5]at ar;cases ar),fun b o aa aU mq _=>Z5,(·.setIfInBounds 3 ((none:Option ag).elim fh fun f=>hM f)),(·.setIfInBounds 1 (da g1.objs.size)),(((bz i).filter (lX (fP sy))).map fun f=>o8 (fP sy) f sy.letters.length)[Z5]?,by have:=Z5;simpa using this,by rw[cn,cn,len];rfl,by unfold jH;split<;>simp,(by rw[q,cO]at z;cases z),((gN sy).take i)[Z5]?,by rw[ba,aY.len],by refine Z5;rw[ba,aY.len,ZS];exact Z6,by rw[Gn,hm];simp,sy.moves.zipIdx[Z5]?,by rw[c4]at ak;simpa using ak,by rw[aT,aT,aT,d5],by rw[←t6];rfl,by split<;>simp,_,by rw[Z5];unfold nf;rw[Z6],{o6 with op:=true},{fz with dV:=true},by rw[yv];decide,sy.moves.zipIdx.foldl Z5 Z6⟩
def tabT88:=tabQ ⟨q.levels.length,by rw[hn];exact cM,by unfold gT;rfl,by simpa using nj,by unfold mQ;simp only[e2];rfl,fun _ _ _ _ _ _ _ ar q=>Z5,F.type_str_count,F.slot_str_count,by rw[aT,ba]at h';lia,by simpa using hf,"str.startswith",by simp[Str.length],(by obtain⟨f,fd,a,b,d⟩:=h;exact Z5),∀(w:ff)(ah:Z5)(me:ag)(h:dk),Z6,by rw[ba];exact af,"__classdict__",z.cps.toList.drop Z5,by simpa using Iw,{s with heap:=h',toks:=Z5},hm.dictOf.typeIs,F.slot_dict_values,by rw[hsz];simp,F.args_dict_keyiterator_next_1 Z5,F.entry_dict_keyiterator_next,(·.setIfInBounds 1 (hM ((i:Int)+1))),F.slot_dict_iter,"str_ascii_iterator","str_iterator","range_iterator",(by have e:Z5:=Z6;subst e;exact Z7),(by rw[z,h]at q;cases q;exact hJ),(by have q:=Z5;rw[q]at e;cases e)⟩
def tabT89:=tabQ ⟨fun u s2⟨x,aB,b5,bw,a,dA,ex,g,cf⟩=>Z5,by simp[vR,jK,bZ],by simp[yc,jK,bZ],by simp[ja,jK,e],fun pins s σ H Q I hw=>Z5,by simpa using z,F.slot_int_rmul,(Z5).flatten.toArray,(by obtain⟨z,a0,n,r,e⟩:=Z5;exact Z6),{s with heap:=Z5,toks:=t'},∀(pins:Z5)(s:aZ)(σ:bq)(H:av)(x:ae)(xs:Z6)(v:aH)(us:Z7)(Q:aW),Z8,pl.isList.typeIs,by rw[gu,hlen],by simpa using hw,by rw[Z5]at af;rw[gu,←ax];exact Z6,(·.setIfInBounds j u),by rw[bS];simpa using nj,fun u s1⟨x,H1,aX,bU,bg⟩=>Z5,fun u s1⟨x,H1,aX,bw,a,dx,bl,ex,d1,l,q⟩=>Z5,fun us s1⟨xs,H1,aX,r,z,q⟩=>Z5,by rw[←r.length];exact z,by have:=r.un;lia,by have:=r.HE;lia,recursionLimit,by simp only[gu];lia,∀(pins:Z5)(s:aZ)(σ:bq)(H:av)(x y:ae)(v u:aH)(Q:aW),Z6,∀(i:Nat)(pins:Z5)(s:aZ)(σ:bq)(H:av)(E:Z6),Z7,by rw[z];exact aa,fun d s1⟨H1,aX,bg⟩=>Z5,by intro pins s σ H D I h;exact Z5,by simpa using aL,∃(o:Obj)(a0:Z5)(n:Nat),Z6⟩
def tabT90:=tabQ ⟨fun c s1⟨H1,aX,bg⟩=>Z5,∀(pins:Z5)(s:aZ)(σ:bq)(H:av)(Q:aW),Z6,by rw[I.ok.glob];exact Z5,∀(pins:Z5)(s:aZ)(σ:bq)(H:av)(D:lY),Z6,by simpa using I.len,fun j y vu aK aG cp=>Z5,fun i x v aK aG cp=>Z5,(by obtain⟨dr,vr,vt,ju,dF⟩:=hm;rw[a8]at ju;cases ju;exact Z5),{s with heap:=h',gens:=g',drawn:=d',toks:=t'},fun b o _ aa _ e n=>Z5,(by have:=Z5;rw[e]at this;cases this),fun b bC q _ _ _=>Z5,(by subst z;rw[r]at hJ;exact hJ),by unfold upd;rw[Z5],(by obtain⟨t,e⟩:=Z5;exact Z6),match Z5 with|none=>Z6|some (xs,t)=>Z7,(by intro x ai;cases ai),by rw[←rI,e];rfl,match Z5 with|.bad k p=>Z6|.over p=>Z7|.word w p b=>Z8|.sign u p b=>Z9,{one:=i,two:=j,word:=a.left,left:=a.right,right:=Z5},by rw[nl];exact h0,fun v w _ _ a3 hw=>Z5,Int.ofNat_dvd.mpr Z5,match Z5 with|none=>Z6|some r=>Z7,by show Z5;rw[gP];rfl,by rw[mC,ph];exact Z5,by unfold zH;simp,m.right.length,by rw[r.w];exact bH,by rw[r.w];exact ak,_,_⟩
def tabT91:=tabQ ⟨_,_,_,_,_,_,_,PySem.W.Fast.te8999942353120687764,PySem.W.Fast.te16051267209710772250,PySem.Challenge.pw_wordmoves_s01_answers.main.body,match Z5 with|true=>Z6|false=>Z7,_,_,{s with heap:=h',toks:=t'}⟩
def tabX0:=tabQ (by (refine a7 Z5);(rw[A20 _ Z5]);(refine D.pr (p57 Z5 ?_ l61));(refine⟨Z5,Z6⟩);(constructor);(have:=skip rfl);(by_cases e:Z5=Z6);(cases bw);(exact 404 Z5);(exact .inr Z5);(exact this);(simp only);(obtain⟨t,rfl⟩:=bw);(intro pins s σ H Q I h);(exact fL Z5 14);(rw[A44 _ Z5]);(rw[this]);(exact .inl Z5);(split at h);(obtain⟨t',rfl⟩:=bQ);(refine⟨Z5,Z6,?_⟩);(refine b_ Z5);(split at e);(rw[A17 ⟨Z5,Z6⟩]);(cases bQ);(subst ex);(exact⟨_,Z5,rfl⟩);(rw[A03 Z5 ?_]);(rw[A00 ?_]);(refine D.pr (p58 Z5 ?_ ?_));(rw[e]at aC);(intro r t c h))
def tabX1:=tabQ (by (obtain rfl:=skip rfl);(rw[A03 229 Z5]);(assumption);(intro pins s σ H D I h);(refine F.ok Z5 l62 l61);(exact 477 Z5);(obtain rfl:Z5=da a:=bw);(by_cases h:Z5);(exact .nil);(have bH:=g.jm);(subst dH hw cj);(intro X dH hw cj ar i pins s σ H E I hf st a4);(exact⟨Z5,rfl,Z6⟩);(intro pins s σ H x y v u Q I bw bQ h);(obtain⟨y,aC,rfl⟩:=112 Z5);(cases this);(rw[←this]);(rw[e]at h);(have e:Z5:=03);(obtain⟨f0,f1,f2,e9,f4,fR⟩:=hf it 19);(rw[aI,d5]);(obtain⟨t,rfl⟩:=r);(rw[21 Z5]at k);(rw[A08 e]);(exact i31);(rw[A00 (lU hz rfl (x:=Z5) rfl ?_)]);(rw[cK]at aC);(obtain⟨a,sy,rfl,_⟩:=h);(intro pins s σ H xs us Q I r h);(rcases Z5 with z|z);(exact 69 Z5 (kV Z6));(have s1:=293 Z5 Z6))
def tabX2:=tabQ (by (exact 69 rfl Z5);(by_cases hi:Z5);(by_cases aS:Z5);(rw[aG]at e);(have hU:=h.cw Z5 Z6);(exact 69 (p31 933) hB);(obtain⟨_,aG,_⟩:=hb c4);(dsimp only);(by_cases af:Z5);(rw[Z5]at this);(intro x ai);(rw[aK]at e);(rw[A44 Z5 (129 Z6)]);(have s2:=293 Z5 Z6);(rw[86 aw]);(by_cases ak:Z5);(rw[ak]at k);(obtain⟨af,ak⟩:=Z5);(obtain⟨p,k⟩:=z);(intro pins s σ H R I h);(obtain⟨z,hz,rfl⟩:=112 Z5);(rcases 362 Z5 with aw|aw);(obtain⟨i,hi⟩:=rx Z5);(have s3:=293 Z5 Z6);(subst this);(injection e with e);(rw[e]at st);(rintro rfl);(intro r aq);(obtain⟨g3,ey,gi,_,rO⟩:=uG Z5);(rw[B54 (xC Z5 Z6)]);(obtain⟨_,_,cp⟩:=hb Z5))
def tabX3:=tabQ (by (have lQ:=b9.seq Z5 Z6);(rw[23 Z5]at k);(have ho:=332);(rw[A00 (oz Z5)]);(refine Call_ Z5);(rw[A00 345]);(rw[gi]at aw);(cases Z5<;>rfl);(obtain⟨cR,dS⟩:=Z5);(rintro H' rfl);(have aU:=vE);(simp only at e);(obtain⟨u,rfl,bw⟩:=o3 Z5);(rw[A20 (fun i m σ H=>Z5) Z6]);(obtain⟨iC,nY⟩:=id Z5);(obtain⟨b,aa,rfl⟩:∃b,Z5:=Z6);(rw[A20 (fun i m H=>Z5) Z6]);(have lS:11 Z5=Z6:=rfl);(obtain⟨m,hm⟩:∃m,Z5:=126 Z6);(rw[A00 (a7 Z5)]);(by_cases aa:Z5=01);(rw[C47 (f75 (∃t,Z5))]);(rintro i m σ H⟨rfl,hi,p⟩);(obtain⟨dx,ls,BJ,aY⟩:=Z5);(rintro i m H⟨rfl,hi,p⟩);(obtain⟨dD,g_⟩:=Z5);(obtain⟨_,_,_,_,o,_,_,e,_⟩:=x);(intro z hz);(simp only[t6,yA,q0,dB,cn,l4]);(have a1:Z5:=rfl);(obtain⟨e,y⟩:=y);(injection h with h))
def tabX4:=tabQ (by (simp only at h);(rw[aG]at h);(obtain⟨a,b⟩:=Z5);(have aR:Z5:=rfl);(obtain⟨z,a0,n,r,ax,e⟩:=I.x8 Z5);(obtain⟨a0,cV,ax,_⟩:=677 Z5);(rw[B93 (677 Z5)]);(obtain⟨dx,ls,as,aY⟩:=id Z5);(obtain⟨u,rfl,t,rfl⟩:=o3 Z5);(rw[B49 (cV.get Z5)]);(rw[B77 (112 Z5)]);(rcases 362 Z5 with hz|hz);(rcases 362 Z5 with bS|bS);(rw[A00 (Kj (T:=Z5) Z6 Z7)]);(by_cases cM:Z5<57);(rw[A50 (Z5=57)]);(obtain⟨t,rfl⟩:=Z5);(obtain⟨au,g,d,tk,os⟩:=s);(decide+kernel);(obtain⟨dx,ls,ms,aY⟩:=Z5);(obtain⟨d,e⟩:=Z5);(obtain⟨u,bp,gR⟩:=Z5);(intro pins s σ H vs us Q I r h);(rw[aI]at aa);(subst aK aG);(split<;>lia);(obtain⟨rfl,rfl⟩:=Z5);(rename_i aS);(simp only[qJ,aa,Z5]);(obtain⟨a0,cV,p,hz⟩:=Z5);(rcases Z5 with ai|ai);(obtain⟨oT,wy,cT,nV,m5,c1⟩:=id Z5))
def tabX5:=tabQ (by (rw[B57 (677 Z5)]);(obtain⟨mi,E8,bU,je,_⟩:=id Z5);(obtain⟨b,aa,rfl⟩:=pP.mp Z5);(have:Z5:=by simpa[bh,e]using ai);(obtain⟨z,hz,rfl⟩:=oL Z5);(obtain⟨g1,ej,_⟩:=hb Z5);(obtain⟨oN,pX⟩:=g.cw Z5 Z6);(obtain⟨fF,kg⟩:=id Z5);(rcases 569 Z5 with e|h);(obtain⟨n,rfl⟩:∃n:Nat,Z5:=Z6);(obtain⟨dr,aK⟩:=i45 Z5 Z6 Z7);(exact 69 (show Z5 from sg) Z6);(rw[A20 (fun m σ H'=>Z5) Z6]);(rcases gG with rfl|⟨T,o,rfl,nP⟩);(obtain⟨i,hi,rfl⟩:=Z5);(obtain⟨a,sy,z,rfl,_⟩:=h);(injection h with af ak);(obtain⟨x,ai,rfl⟩:=Z5);(simp[bh,e]at ai);(have hlen:=r.length);(rcases ar with rfl|ar);(obtain⟨dP,aK⟩:=Z5);(rw[aK,aG]at hi);(rintro i y H' hi rfl);(injection e with aK aG);(have ax:=r.length);(obtain⟨t,rfl⟩:=bU);(rcases vL with e|e);(obtain⟨z,hd,xs,rel,dd⟩:=Z5);(obtain⟨z,hd,vs,rel,dd⟩:=Z5);(obtain⟨m,aU,ax⟩:=I.loc);(simp only[Ap,ai]at h'))
def tabX6:=tabQ (by (obtain⟨a0,dF,pl,hz⟩:=Z5);(obtain⟨a0,r,pl,hz⟩:=Z5);(intro C9 pins s σ H Q I h);(simp only[G4]at e);(simp only[u3]);(rw[aR]at this);(rcases tx Z5 with⟨i,t,rfl,rfl⟩|⟨x,t,rfl,rfl⟩);(rcases RH Z5 Z6 with⟨af,ak⟩|⟨af,fr,ws,hd,c9,ak⟩);(rcases zp Z5 Z6 Z7 with⟨af,ak⟩|⟨v,a3,af,ak⟩);(obtain⟨gQ,hw,oE⟩:=o60 Z5 Z6 Z7);(obtain⟨j,af,ak,a6,bH,fX⟩:=NH Z5);(obtain⟨e,n,ne,nr,d⟩:=I.pin Z5 Z6);(obtain⟨p,au,rfl⟩:=112 Z5);(generalize c4:g07=l at jd);(obtain⟨w,nj,oE⟩:=r.get Z5);(obtain⟨b,x,rfl,rfl⟩:=ML Z5 Z6);(exact⟨Z5,Z6,Z7,by simpa using iD⟩);(obtain⟨b,rfl,rfl⟩:=xi Z5 Z6);(obtain⟨x,rfl,rfl⟩:=MK Z5 Z6);(obtain⟨g1,_,ej⟩:=hb Z5);(injection e with aK _);(exact⟨by simp[we],by simp[wg]⟩);(obtain⟨m,_,e⟩:=Ff Z5);(rcases 569 Z5 with e|e);(obtain⟨ig,cQ,ec,doc,pm,an,bx,ek,k7,rfl,e5,ny⟩:=F.ex);(obtain⟨b9,dj⟩:=Z5);(obtain⟨st,gq,rfl⟩:=Z5);(rintro j y H' aC rfl);(obtain⟨t,x,ai,rfl,bk⟩:=Z5);(obtain⟨b,aK,aG,cp⟩:=Z5);(obtain⟨a0,cV,pl,hz⟩:=Z5);(obtain⟨⟨f0,b,hz,gG⟩,gX,⟨a,c,kD⟩,af,ak⟩:=st))
def tabX7:=tabQ (by (simp only[if_true]);(obtain⟨a,s,rfl,_⟩:=h);(obtain⟨q,aw,rfl⟩:=Z5);(obtain⟨a,sy,rfl,⟨dx,ls,as,aY⟩,g,k⟩:=h);(rcases h with(h|⟨o,h⟩)|h);(obtain⟨a,r,c,i,s,ns,t,n,k,rfl,aY,wf,cH,ar,jd,aU,qZ,OX,b0⟩:=h);(obtain⟨a,r,c,i,s,ns,t,n,k,rfl,_⟩:=h);(rw[ba,aY.len,eK]at cy);(obtain⟨v,a3,rfl⟩:=Z5);(obtain⟨a,sy,rfl,cg,g,k⟩:=h);(obtain⟨a,sy,rfl,aY,g,k⟩:=h);(obtain⟨u,rfl,gR⟩:=cV.one);(obtain⟨l,b,xs,zs,rfl,rfl,jy,fY,hz,q⟩:=h);(intro pins s σ H x vs v us Q I bw cV h);(obtain⟨z,rfl,hz,q⟩:=h);(simp only[l0,if_false]at bad fin);(simp only[if_true]at bad fin);(obtain⟨_,_,_,z⟩:=r1);(obtain⟨dh,g,fF,t,os⟩:=s);(obtain⟨_,_,_,e,_⟩:=x);(obtain⟨o,_,_,_,e,_⟩:=x);(obtain⟨_,_,_,_,e⟩:=x);(obtain⟨t,q,a,aw,rfl,bk,aN⟩:=Z5);(obtain⟨t,e⟩:=Z5);(obtain⟨i,rfl,q⟩:=h);(obtain⟨x,rfl,_⟩:=h);(obtain⟨a,x,m,rfl,_⟩:=h);(intro pins s σ H x xs v us Q I bw rs h);(obtain⟨as,aq⟩:=Z5);(obtain⟨mc,Iv,fD,_⟩:=Z5);(rcases bZ with z|z);(have ax:=cV.length))
def tabX8:=tabQ (by (obtain⟨xs,aw,ai⟩:=a4);(obtain⟨xs,x,aw,ai⟩:=a4);(obtain⟨cb,H',b5,e,q⟩:=q);(rcases ar with z|z);(obtain⟨o,aR,c0,a8,r⟩:=hm);(rcases g with⟨kvs,k,e,f6,l⟩|⟨kvs,k,b,e,f6,eG,l⟩);(obtain⟨c,ar⟩:=Z5);(obtain⟨n,k⟩:=p);(obtain⟨t,rfl⟩:=bQ);(have hlen:=dF.length);(intro value slice pins s σ H x y v u Q I bw bQ h aL);(obtain⟨u,r,l⟩:=Z5);(obtain⟨cb,H',I,q⟩:=h);(obtain⟨c,rfl,bg⟩:=bg);(obtain⟨v,af,ak,a6⟩:=Z5);(simp only[l0,↓reduceIte]);(rintro⟨af,ak⟩);(obtain⟨c,d,jl,dP⟩:=x);(obtain⟨_,a0,r,o,af,ak,n,a6⟩:=Z5);(intro pins s σ H xs us Q I r q);(unfold Builtin.«dict.__init__»);(rintro obj ep⟨rfl,rfl⟩);(intro i acc i8 t s hsz uL bk hit ax hm cH);(intro i acc i8 t s hsz uL bk st hm cH);(obtain⟨t',jT,he⟩:=sq.there);(unfold getAttr? getAttrBy? getAttrBy);(have f1:=sub_AttributeError);(unfold Builtin.«object.__getattribute__»);(simp only[←ayt,H2,DC]);(simp only[aeI,ayl,H2,DC]);(obtain⟨au,g,d,ayj,os⟩:=s);(rcases Z5 with⟨af,ak⟩|⟨af,v,u,ev,kO,ak⟩))
def tabX9:=tabQ (by (obtain⟨a,s,rfl,cg,wf,k⟩:=h);(rintro σ H1⟨v1,v2,rfl,s1,cy⟩);(rcases hz with rfl|rfl);(simp only[ed,Bt,or_false]at hz);(obtain⟨b,rows,bs,y6,rfl,cH⟩:=Z5);(obtain⟨a,sy,x,y,rfl,_⟩:=h);(obtain⟨a,sy,k,rfl,_⟩:=h);(obtain⟨hs,bG,dx,l,as,af,ak,n⟩:=x);(obtain⟨dx,l,as,aY⟩:=x);(rcases Z5 with⟨aK,aG⟩|⟨v,a3,aK,aG⟩);(obtain⟨a,s,i,j,b8,cB,rfl,cg,wf,fr,hi,bS,k⟩:=h);(obtain⟨a,s,i,j,b8,cB,rfl,_⟩:=h);(obtain⟨a,s,ws,v,rfl,aY,wf,c9,uB,k⟩:=h);(obtain⟨a,s,ws,v,rfl,_⟩:=h);(obtain⟨b,m,dD,aa,hm,rfl,g_⟩:=Z5);(rintro σ H'⟨v,rfl,rfl,cy⟩);(obtain⟨d,as,ls,rows,n,x,y,rfl,_⟩:=h);(obtain⟨b,r,aa,c1,rfl,eM⟩:=Z5);(obtain⟨b,ws,aa,q4,rfl,eM⟩:=Z5);(rintro σ H'⟨v,rfl,s1,dQ⟩);(obtain⟨a,m,aN,Ez,rfl,eM⟩:=Z5);(rintro i y σ H' aC⟨v,rfl,s1,dQ⟩);(obtain⟨a,ns,rfl,aL,q⟩:=h);(obtain⟨p,dx,rfl,au,k⟩:=h);(obtain⟨p,dx,rfl,_⟩:=h);(obtain⟨g2,uo,ath,eq2⟩:=Z5);(obtain⟨g1,f9,um,eq1⟩:=Z5);(obtain⟨By,acA,r0,q_,_⟩:=Z5);(obtain⟨a,t,aD,rfl,_⟩:=h);(intro i s hd hi st hz q);(simp only[atB,l0,if_false]at bad fin);(rintro y H'⟨rfl,c,ar,rfl⟩))
def tabX10:=tabQ (by (rcases g with z|z|z|z|z<;>rw[z]<;>decide);(simp only[ed,Bt,or_false]at g);(rw[hu,decide_eq_true_eq,beq_iff_eq]);(obtain⟨t,bI,p,rfl,_⟩:=h);(obtain⟨vs,rel,dd⟩:=Bo.at_);(obtain⟨⟨dG,Qv,Qw,hL⟩,_,_⟩:=Z5);(obtain⟨v,H',el,cV,ev,eC⟩:=Z5);(obtain⟨nm,q,N,bs,sn,sub,ab,col,dd,k0,k1,k2,k3,k5,fT,e5,ns,_,cR,dS,iX,_⟩:=M.ex);(obtain⟨⟨o,vs,d1,ar,hd,jl,af⟩,_,_⟩:=Z5);(obtain⟨_,_,_,e⟩:=x);(obtain⟨_,⟨_,_,_,e,_⟩,_⟩:=x);(obtain⟨a,r,aN,c1,rfl,EJ⟩:=Z5);(obtain⟨dx,ls,as,aY⟩:=aY);(obtain⟨x,rfl,ai,k⟩:=h);(obtain⟨tk,rfl⟩:=bU);(obtain⟨t,aK,aG⟩:=this);(obtain⟨p,r,rfl,_⟩:=h);(obtain⟨a,us,rfl,a8,dQ⟩:=Z5);(intro pins s σ H x v sb sd lo hi dP Q I bw aL pl pu h);(obtain⟨hz,gX,⟨x0,aob,kD⟩,af,ak⟩:=st);(rcases bZ with q|q|q|q|q);(obtain⟨⟨old,he⟩,hit,d9⟩:=st);(obtain⟨aL,vU,ai,vr,vt,vs,iB,hsz,dU,hm⟩:=Z5);(simp only[Oz,l0,if_false]);(obtain⟨t',rfl⟩:=dF);(obtain⟨_,⟨_,e⟩,_⟩:=x);(obtain⟨f0,f1,f2,e9,f4,fR⟩:=f);(rcases Z5 with⟨af,_⟩|⟨af,_⟩);(rcases Z5 with hm|⟨af,ak,a6⟩);(rcases Z5 with h|⟨af,ak⟩);(obtain⟨d,e,hd,he,DB,N6,q⟩:=h);(intro a xs ds aL _ ih u r))
def tabX11:=tabQ (by (obtain⟨es,mc,dS,cT,lL,aG⟩:=Z5);(obtain⟨_,_,_,_,o,_,_,e,ex,_⟩:=Z5);(obtain⟨p,xs,i,z,rfl,rfl,aw,he,q⟩:=h);(intro pins s σ H Q I hw);(obtain⟨_,_,_,q⟩:=aL);(intro pins s σ H Q I aw);(obtain⟨dG,O,r,_,_,_⟩:=Z5);(obtain⟨cQ,fu,ax⟩:=I.look);(intro pins s σ H x v Q I bw h);(cases b<;>simp[z0,aK,aG]);(obtain⟨i,j,rfl,rfl,q⟩:=h);(obtain⟨pI,gS,kY,xW⟩:=nC);(obtain⟨a,e,⟨xs,aw⟩,q⟩:=bg);(obtain⟨qG,a5,el,iX⟩:=eC);(rcases l with⟨aS,hm⟩|⟨aS,c,ar,Hi⟩);(obtain⟨m,⟨o,aR,c0,a8,r⟩,_⟩:=Z5);(rcases I.ok.C5 with e|⟨e,hf⟩);(rcases Z5 with⟨j,u,rfl,rfl⟩|⟨y,u,rfl,rfl⟩);(rcases Z5 with⟨j,u,rfl,e⟩|⟨y,u,rfl,e⟩);(rintro⟨u,_,bp,rfl⟩);(obtain⟨x,ys,s,rfl,rfl,ak⟩:=Z5);(obtain⟨a,xs,u,aN,aq,bp,ar⟩:=Z5);(obtain⟨v,a3,rfl⟩:=ih);(rcases Z5 with⟨af,ak⟩|af))
def tabT:=#[tabT0,tabT1,tabT2,tabT3,tabT4,tabT5,tabT6,tabT7,tabT8,tabT9,tabT10,tabT11,tabT12,tabT13,tabT14,tabT15,tabT16,tabT17,tabT18,tabT19,tabT20,tabT21,tabT22,tabT23,tabT24,tabT25,tabT26,tabT27,tabT28,tabT29,tabT30,tabT31,tabT32,tabT33,tabT34,tabT35,tabT36,tabT37,tabT38,tabT39,tabT40,tabT41,tabT42,tabT43,tabT44,tabT45,tabT46,tabT47,tabT48,tabT49,tabT50,tabT51,tabT52,tabT53,tabT54,tabT55,tabT56,tabT57,tabT58,tabT59,tabT60,tabT61,tabT62,tabT63,tabT64,tabT65,tabT66,tabT67,tabT68,tabT69,tabT70,tabT71,tabT72,tabT73,tabT74,tabT75,tabT76,tabT77,tabT78,tabT79,tabT80,tabT81,tabT82,tabT83,tabT84,tabT85,tabT86,tabT87,tabT88,tabT89,tabT90,tabT91]
def tabX:=#[tabX0,tabX1,tabX2,tabX3,tabX4,tabX5,tabX6,tabX7,tabX8,tabX9,tabX10,tabX11]
def tabR(s:Syntax):Option Syntax:=
 let g(t:Bool)(s:Syntax)(a:Array Syntax):=(tabI s t).bind fun n=>((if t then tabT else tabX)[n/32]?).bind fun s=>match s.splitOn "\x02" with|k::z=>(z[n%32]?).bind fun s=>if s.startsWith "(" && s.endsWith "a_\x01" && s.length=7 then none else some (tabD (k.splitOn "\x01") s a)|_=>none
 if s.isOfKind ``Lean.Parser.Term.app then g true s[0] s[1].getArgs
 else if s.isOfKind ``Lean.Parser.Tactic.rwSeq then
  let x:=s[2][1][0][1]
  if x.isOfKind ``Lean.Parser.Term.app then g false x[0] x[1].getArgs else g false x #[]
 else g true s #[]
def tabZ:Nat→Syntax→Syntax
 |n+1,s=>match tabR s with
  |some t=>tabZ n t
  |_=>match s with
   |.node _ k a=>.node .none k (a.map (tabZ n))
   |.atom _ v=>.atom .none v
   |.ident _ r v p=>.ident .none r v p
   |s=>s
 |_,s=>s
def tabM(s:Syntax):MacroM Syntax:=if s.getPos?.isNone then Macro.throwUnsupported else
 let s:=tabZ 9999 s
 return if s[1].isOfKind ``Lean.Parser.Command.definition||s[1].isOfKind ``Lean.Parser.Command.abbrev then s.modifyArg 0 (·.setArg 4 (mkNullNode #[mkNode ``Lean.Parser.Command.noncomputable #[mkAtom "noncomputable"]])) else s
end
local macro_rules(kind:=Lean.Parser.Command.variable)|s=>tabM s
local macro_rules(kind:=Lean.Parser.Command.mutual)|s=>tabM s
local macro_rules(kind:=Lean.Parser.Command.declaration)|s=>tabM s
section
open PySem PySem.Spec PyProof.Rows
section
variable{C a b c d f p t:ag}{cm:List (List Nat)}{K:bo}{M:Model}{N loose:List Str}{P:f3}{vs:List aH}{e:dn}{aR:Array Ip}{ig u:aH}{o:Obj}{func:Option ag}{ann k0:Option aH}{body:List bK}{i j n t':Nat}{h:dk}{g l:List Nat}{r:List Int}{dP:Array (Option aH)}{α:Type}{fd:k6}{x:Str}{names:List (Str×pK)}{q:Search}{s s':dt}{sc:rp}{v:Word}{w:ff}
def fH(s:bK)(j:Nat):bK:=match s with|.ClassDef _ _ _ body _ _ _ _ _ _ _=>body.getD j (.Pass ⟨0,0,0,0⟩)|_=>.Pass ⟨0,0,0,0⟩
def ro(s:bK):Arguments:=match s with|.FunctionDef _ a _ _ _ _ _ _ _ _=>a|_=>{posonlyargs:=[],args:=[],vararg:=none,kwonlyargs:=[],kw_defaults:=[],kwarg:=none,defaults:=[]}
def o5(s:bK):List bK:=match s with|.FunctionDef _ _ b _ _ _ _ _ _ _=>b|_=>[]
def br(s:bK):rp:=match s with|.FunctionDef _ _ _ _ _ _ sc _ _ _=>sc|_=>{kind:=.function,names:=[],isGenerator:=false,isCoroutine:=false}
def bA(i:Nat):bK:=aAU.main.body.getD i (.Pass ⟨0,0,0,0⟩)
section
open PySem.W
def LG(aR:723 DictEntry):Bool:=aR.toList.all (100 (match e.key with|.str _ _=>01|_=>09))
def _root_.PySem.W.Fast.tw14598715356260435866:Params→Obj:=boot_o_0
theorem _root_.PySem.W.Fast.te14598715356260435866:boot_o_0=PySem.W.Fast.tw14598715356260435866:=rfl
def _root_.PySem.W.Fast.tw2470194527869591689:Program:=PySem.Challenge.pw_wordmoves_s01_answers
theorem _root_.PySem.W.Fast.te2470194527869591689:b19=PySem.W.Fast.tw2470194527869591689:=rfl
def _root_.PySem.W.Fast.tw14922969493332321690:=@PySem.typesN
theorem _root_.PySem.W.Fast.te14922969493332321690:@PySem.typesN=PySem.W.Fast.tw14922969493332321690:=rfl
def _root_.PySem.W.Fast.tw6833756950893267077:=@PySem.attrsN
theorem _root_.PySem.W.Fast.te6833756950893267077:@PySem.attrsN=PySem.W.Fast.tw6833756950893267077:=rfl
def _root_.PySem.W.Fast.tw13899100880601395773:=@PySem.Flt.mathRow
theorem _root_.PySem.W.Fast.te13899100880601395773:@PySem.Flt.mathRow=PySem.W.Fast.tw13899100880601395773:=rfl
def F8(tb:String→241 Builtin)(p:Program)(w:World)(nc:Nat)(ann:l65):240 (SharedT→Thread→241 SharedT)|0,_,_=>00|n+1,s,t=>s22 (through t) (some s) (match stepOk nc ann t with|false=>00|true=>match stepT (denote tb) p w s t with|some (s',t')=>F8 tb p w nc ann n s' t'|none=>00)
theorem aht{tb:String→241 Builtin}{p:Program}{nc:Nat}{r:SharedT}(n:Nat):∀s t,F8 tb p w nc ann n s t=447→topRun tb p w nc ann n s.abs t=some r.abs:=by
 induction n with
  |zero=>exact fun _ _ h=>nomatch h
  |succ n ih=>
   intro s t h;rw[F8]at h;rw[topRun];rw[A18]
   ·next e=>cases h;rw[e]
   ·next e=>
    rw[A18]
    ·cases h
    ·next k=>
     rw[A18]
     ·next u v d=>rw[e,k,stepT_spec d];exact ih u v h
     ·cases h
theorem ahu{p q:Program}{Xt:481 Shared}{Yf:Shared→α}{Ya:World→α}{N:Nat}{n8:Bool}{eF:Params→Heap}{cm:723 GenState}{d0:Drawn}{k0 m0:Nat}{M:Nat}(ahv:∀w:World,j97 (fencedOpening d34 p w N) (28,s.gens,s.drawn,s.toks)=some (905,cm,d0,k0))(size:∀w:World,((905).isNs 961&&cm.size==0,424 905,(905).nsMap 961 p55)=(01,m0,ann))(run:∀(w:World)(os:OsState),j97 (topRun d34 p w m0 ann M ⟨905,cm,d0,k0,os⟩ (topStub p)) (staticsOk (i24 p.main.body) 905 28&&namesBound p 28&&gensDone s&&laidKept 905 28,openSeen q loose (i24 p.main.body) Xt n8 s,Yf s)=some (01,openGood q loose,Ya w))(le:Nat.ble M N=01):LeftO p q loose Xt Yf Ya N n8:=543 (by
 have o:=ahv w;have z:=size w;unfold openEnds
 cases f:fencedOpening d34 p w N with
  |none=>rw[f]at o;cases o
  |some s=>
   rw[f]at o
   cases s with
    |mk h g d k os=>
     cases o;have y:=run w os
     cases u:topRun d34 p w m0 ann M ⟨905,g,d,k,os⟩ (topStub p)with
      |none=>rw[u]at y;cases y
      |some v=>
       rw[u]at y;have y:=074 (182 y);have m:=topRun_mono (N-M) _ _ _ _ u;rw[Nat.add_sub_cancel' (Nat.le_of_ble_eq_true le)]at m;have z:=074 z;have x:=074 z.2;show(topFrom d34 p w N ⟨905,g,d,k,os⟩).map _=_;have c:topFrom d34 p w N ⟨905,g,d,k,os⟩=54:=by rw[topFrom];rw[A71];rw[z.1,x.1,x.2,m];exact(109 (fun b:Bool=>match b with|true=>54|false=>00) y.1:)
       rw[c];exact d73 y.2)
def bN(P:Params):List Obj:=[boot_o_0 P,boot_o_1 P,boot_o_2 P,boot_o_3 P,boot_o_4 P,boot_o_5 P,boot_o_6 P,boot_o_7 P,boot_o_8 P,boot_o_9 P,boot_o_10 P]
def ahw(P:Params)(i:Nat)(a b:BT):BT:=match(bN P)[i]? with|some o=>.node o a b|none=>89
def TZ(P:Params):BT:=let N:=ahw P;let n:=BT.nil;N 0 (N 1 (N 3 (N 7 n n) n) (N 5 (N 9 n n) n)) (N 2 (N 4 (N 8 n n) n) (N 6 (N 0xa n n) n))
theorem ahx(P:Params):absHeap (TZ P) 0xb {}=boot_heap P:=963
def LH(w:World)(os:OsState):SharedT:=⟨TZ i02,0xb,{},#[],boot_drawn,boot_toks,os⟩
def fr:List Obj→240 Frag|[],_=>[]|o::l,i=>match alive o with|some dr=>(i,dr)::fr l (i+1)|none=>fr l (i+1)
theorem T1:∀(l:List Obj)(i a:Nat)(o:Obj),805 (fr l i) a=25→∃j,a=i+j∧∃x,l[j]?=43∧alive x=25
 |[],_,_,_,h=>806
 |x::l,i,a,o,h=>by
  unfold fr at h;have go:805 (fr l (i+1)) a=25→∃j,a=i+j∧∃y,(x::l)[j]?=270∧alive y=25:=312 (by obtain⟨j,e,y,af,ak⟩:=T1 l (i+1) a o h;exact⟨j+1,03,y,af,ak⟩);rw[A18]
  ·next dr aN=>
   rw[List.lookup_cons]at h;rw[A18]
   ·next e=>cases h;have:a=i:=566;exact⟨0,03,x,rfl,aN⟩
   ·exact go h
  ·exact go h
def sU(h:Heap):Frag:=fr h.objs.toList 0
theorem ahy(h:Heap):(sU h).In h:=fun a o e=>by obtain⟨j,rfl,x,af,ak⟩:=T1 _ _ _ _ e;rw[Nat.zero_add];unfold Heap.get?;rw[←Array.getElem?_toList,af];rw[C73];cases jl<;>first|exact ak|cases ak
def nm(s:Stmt):Str:=match s with|.FunctionDef n _ _ _ _ _ _ _ _ _=>n|_=>""
def LI:481 Value|.none=>01|_=>09
def LJ(g:Addr→830)(cd:Value)(q:Str):Bool:=match cd with
 |.ref c=>match g c with
  |some ⟨_,_,.fields vs,_⟩=>match vs.toList with|_::.str n _::_=>n==q|_=>09
  |_=>09
 |_=>09
abbrev uU:=241 (Value×Arguments×FuncBody×Scope)
def ql(g:Addr→830)(x q:Str)(v:906):uU:=match v with
 |some (some (.ref f))=>match g f with|some ⟨ig,_,.func fd,_⟩=>s22 (29 (fd.name=x)&&29 (fd.qualname=q)&&Nat.beq fd.globals 961&&fd.closure.isEmpty&&LI fd.defaults&&Nat.beq fd.builtins builtinsNs&&LJ g fd.code q) (some (ig,fd.params,fd.body,fd.scope)) 00|_=>00
 |_=>00
def sS(s:Stmt):uU:=some (f82,ro s,.stmts (o5 s),br s)
def Cd(h:Heap)(x:Str):906:=match h.get? 961 with
 |some ⟨_,_,.dict aR _,_⟩=>match aR.toList.find? (100 (e.key.isStr x))with|some e=>453 e.val|none=>00
 |_=>00
def F9(K:Frag)(C:Addr):571×906:=(plainGet K C Str.empty&&hasDictIn K C&&plainOver K C&&makesIn K C&&keepIn K 236,findIn K 236 b23)
def nsN:221:=(["Move","System","Search","CallReader","Holder","Token","Tokens",o15,"Machine","ALPHABET","ARROW","BLANKS","BOUND_MOVE",n52,"ENDS_EARLY",o52,q39,q55,"LAST_LETTER","LINE_FEED",q54,"MISPLACED","MOST_FOUND",i26,q02,"MOST_MOVES","MOST_POINTS",q10,"MOST_STATES",q62,"NINTH_MOVE","NO_BYTE",o00,"NO_MOVE",o21,n79,"NO_TOKEN","NO_WORD",i25,n51,"REMARK","SAID_TWICE","SIGNS",q53,q69,o39,535,892,"len",499,"min",975,b30,f22,808,380,509,"ord","sum","abs","any","all",722]:List String).map Str.ofString
def zi:List 906:=[287 417,287 803,287 720,287 077,287 0x27b,287 b20,287 c93,287 076,287 0x8a,453 (.str k27 0x30f),287 0x193,287 0x192,278 (-9) 1138,287 0x1d,278 4 0x307,278 534 0x311,278 3 0xda,278 0xff 1146,278 0x7a 0x313,278 0xa 0x315,278 4096 1148,278 3 0x305,278 315 0x2a6,278 0xc 0x1ca,278 2 0x14e,278 8 0x3ba,278 4 1152,278 3 1150,278 4 1154,278 4 0x3b8,278 5 0x309,278 (-1) 1120,278 (-8) 1135,278 (-3) 1126,278 (-6) 1129,278 (-0xb) 1141,278 1 0x301,278 (-0xc) 1144,278 (-7) 1132,287 0x23f,278 311 0x317,278 6 0x30b,287 0x194,278 (-2) 1123,278 7 0x30d,278 2 0x303,326,326,326,326,326,326,326,326,326,326,326,326,326,326,326,326,287 960]
def naL:List (Addr×Str):=[(417,"left"),(417,"right"),(417,"at_beginning"),(417,"at_end"),(803,"letters"),(803,"moves"),(803,"start"),(803,"goal"),(720,"words"),(720,"numbers"),(720,"origins"),(720,"levels"),(720,"level_counts"),(720,"left_open"),(720,"broken_off"),(077,"calls"),(077,"reached"),(0x27b,"system"),(b20,"sign"),(b20,"row"),(b20,"place"),(b20,"behind"),(c93,"text"),(c93,"reached"),(076,"first"),(076,"second"),(076,"word"),(076,"by_first"),(076,"by_second"),(0x8a,"action"),(0x8a,"goods")]
def zj:List Addr:=[417,803,720,077,0x27b,b20,c93,076,0x8a]
def wQ:06:=[0x28,0x29,0x27,0x25,0x2a,0x26,6,8,9,0xa,0x38,0x37,420,0x5c,0x5d,0x5b,0x7f,0x82,0x83,0x84,0x80,0x81,0xb,0x12,7,0xf,804,0xe,0x4f,0x4d,0xc,0xd,0x88,0x50,0x4e,0x5a,0x59,0x58,0x57,0x56,0x55,0x54,0x7e,0x14,0x13,0x90,0x89,0x91,377,0x8a,2,0x63,665,376,0x2f,0x31,0x32,0x30,0x33,0x92,0x93,0x94,0x7d,0x39,0x87,0x85,0x86,0x62,534,0x1b,0x1f,1,0x1d,0x64,0x65,0x7b,0x66,0x8b,0x67,0x8c,0x8d,0x19,0x1c,0x1a,533,0x20,0x1e,0x8f,0x8e,0x7c,0x7a,0x79]
def mtL:List (Addr×Str×916):=[(077,"CallReader.is_at_end",0x78,1),(077,"CallReader.take_number",0x78,2),(077,"CallReader.take_row",0x78,3),(720,"Search.note_word",0x36,1),(720,"Search.__init__",0x36,0),(720,"Search.is_closed",0x36,2),(417,"Move.__init__",0x23,0),(803,"System.__init__",0x24,0),(077,"CallReader.__init__",0x78,0),(b20,"Token.__init__",0x4b,0),(c93,"Tokens.__init__",0x4c,0),(c93,"Tokens.take",0x4c,1),(0x27b,"Holder.__init__",0x77,0),(076,"Meeting.__init__",0x2c,0),(0x8a,"Machine.__init__",0x17,0),(0x8a,"Machine.accepts",0x17,1)]
def _root_.PySem.W.Fast.tw6953531658206384281:=nsN
theorem _root_.PySem.W.Fast.te6953531658206384281:nsN=PySem.W.Fast.tw6953531658206384281:=rfl
def _root_.PySem.W.Fast.tw8191566876754878759:=naL
theorem _root_.PySem.W.Fast.te8191566876754878759:naL=PySem.W.Fast.tw8191566876754878759:=rfl
def _root_.PySem.W.Fast.tw18417113913048500472:=mtL
theorem _root_.PySem.W.Fast.te18417113913048500472:mtL=PySem.W.Fast.tw18417113913048500472:=rfl
def T2:List Addr:=[0x193,0x192,0x1d,0x23f,0x194,960]
def LK(o:830):Bool:=match o with|some ⟨_,_,.dict aR _,_⟩=>LG aR|_=>09
def F_:221:=[b23,b22,226,h23,h22]
abbrev zk:=List 906
def LL(K:Frag):zk×zk×List (571×906)×List 830:=(nsN.map (nsIn K 961),naL.map (16 (g28 K z.1 z.2)),zj.map (F9 K),T2.map a28)
def T3(h:Heap):List uU×List uU×uU×zk×571:=let K:=sU h;(j35 (ql h.get? e55 e55 (Cd h e55)),d67 (ql a28 e24 497 (g28 K z.1 e24)),ql a28 421 f04 (nsIn K b21 421),F_.map (nsIn K b21),LK (721 b21)&&keepIn K (.ref 960))
def sV:zk×zk×List (571×906)×List 830:=(zi,naL.map j21,zj.map (290 (01,c44)),[some ⟨748,00,.seq #[.int 665 0x31e,.int 468 0x31f] 0,#[]⟩,some ⟨748,00,.seq #[.int 9 0x319,.int 0xa 0x31a,.int 0xd 0x31b,.int 0x20 0x31c] 0,#[]⟩,some ⟨748,00,.seq #[.int 2 0xd1,.int 3 0xd2,.int 4 0xd3,.int 5 0xd4,.int 7 0xd5,.int 8 0xd6,.int 9 0xd7,.int 0xb 417] 0,#[]⟩,some ⟨748,00,.seq #[.int 2 1055,.int 3 1056] 0,#[]⟩,some ⟨d68,00,.dict #[770 419 419 0x321 (g59 419 0x322),770 376 376 0x323 (g59 376 0x324),770 469 469 0x325 (g59 469 0x326),770 420 420 0x327 (g59 420 0x328)] 4,#[]⟩,some (excClassObj 722 722 960 b21 [989] [989,f69,401 "object"] 01 [] [] 09 00 00 (46 0x195) 00 (j95 0x32e) (j95 0x336) (some d72) c94)])
def wR:List uU×List uU×uU×zk×571:=(j35 (sS (bA i)),d67 (sS i39),sS (343 0x4a 0),F_.map j21,true)
def Yf(s:Shared):=(LL (sU 28),T3 28)
def i5:Program:=view b19 [0x79]
def uV:221:=PySem.Challenge.pw_wordmoves_s01_answers.boundNames
def LM(s:Shared):Bool:=xlAt i5 [] s&&recOk [] s
def T4(w:World)(s:Shared):=(staticsOk (i24 s21) d52 28&&namesBound b19 28&&gensDone s&&laidKept d52 28,openSeen i5 uV (i24 s21) LM 01 s)
def Ga(w:World)(os:OsState):241 SharedT:=F8 d34 b19 w 0xb (46 6) 6000 (LH w os) (topStub b19)
def lkE(w:World)(os:OsState):=j97 (Ga w os) (T4 w s.abs,LL (sU s.abs.heap))
def lkF(w:World)(os:OsState):=j97 (Ga w os) (T3 s.abs.heap)
lay_quick lkE lkF
abbrev rq:String:="special-get-raises"
theorem lkE0(w:World)(os:OsState):lkE (i97 09) os=some ((01,j73 i5),sV):=38 (i63 s20 _ os) 963
theorem lkE1(w:World)(os:OsState):lkE (i97 01) os=some ((01,j73 i5),sV):=38 (i63 s20 _ os) 963
theorem lkF0(w:World)(os:OsState):lkF (i97 09) os=some wR:=38 (i63 s19 _ os) 963
theorem lkF1(w:World)(os:OsState):lkF (i97 01) os=some wR:=38 (i63 s19 _ os) 963
theorem ahz(w:World)(os:OsState):∃s,Ga w os=some s∧T4 w s.abs=(01,j73 i5)∧Yf s.abs=(sV,wR):=by
 have a:=byRow2 rq (P:=543 (lkE w os=some ((01,j73 i5),sV))) (543 (lkE0 w os)) (543 (lkE1 w os)) w;have c:=byRow2 rq (P:=543 (lkF w os=some wR)) (543 (lkF0 w os)) (543 (lkF1 w os)) w;unfold lkE at a;unfold lkF at c
 cases e:Ga w os with|none=>rw[e]at a;cases a|some s=>rw[e]at a c;have b:=074 (182 a);exact⟨s,rfl,b.1,Prod.ext b.2 (182 c)⟩
end
section
open PySem.W
theorem ahA(w:World):((d52).isNs 961&&(#[]:723 GenState).size==0,424 d52,(d52).nsMap 961 p55)=(01,0xb,46 6):=963
theorem ahB:opening b19=plainProg PySem.Challenge.pw_wordmoves_s01_answers.main.scope.names:=963
theorem ahC(s:Shared):fenceModules? b19 s=some s:=963
theorem sW{a b:Bool}(h:a=01)(k:b=01):(a&&b)=01:=by rw[h,k];rfl
abbrev n9:Program:=PySem.Challenge.pw_wordmoves_s01_answers
theorem ahD:(sreFenced n9.main&&((moduleNames d33).isEmpty||lookedIntoSs (moduleNames d33) d33))=01:=05
theorem ahE:namesResolve n9=01:=05
theorem ahF:n9.boundNames.all (724 (! worldNames.contains n))=01:=05
theorem Gb:noRoadLSs {strict:=!(i24 d33).all cThrough.contains,foot:=none,bare:=(["vars","dir","locals"]:221).filter (readsOut n9 d33)} d33=01:=05
theorem ahG:(namesMeet n9 d33 (fun _ n=>attrL n))=01:=05
theorem ahH:looksOpen n9=01:=sW (sW (sW (sW ahD ahE) ahF) Gb) ahG
theorem T5:PySem.Challenge.rw_wordmoves_s01_answers.wellSaid=01:=sW (sW (sW (sW (sW ahH 05) 05) 05) 05) 05
theorem LN:(chainsOk i5&&opensWell PySem.Challenge.rw_wordmoves_s01_answers.prog)=01:=05
theorem ahI:PySem.Challenge.rw_wordmoves_s01_answers.prog.bare:=⟨rfl,rfl,rfl,rfl,rfl,05⟩
end
end
end
namespace Internal
section
open Vainve
section
variable{i j lv n:Nat}{g l ls:List Nat}{cs r ws:List Int}{α β:Type}{q:Search}{s:dt}{v:Word}
structure g0 where
 l:06
 r:06
 b:Bool
 e:Bool
variable{m:g0}
def uW(m:g0)(w:06)(p:Nat):Bool:=222 997 580==m.l&&(! m.b||p==0)&&(! m.e||11 997==580)
def eR(m:g0)(w:06):06:=908 (218+1) (uW m w)
def fJ(m:g0)(p:Nat)(w:06):06:=g76++(m.r++g51 580)
structure cv where
 letters:06
 moves:List g0
 start:911
 goal:911
def nd(letters:06)(codes:10):911:=13 (12<p00) 00 (39 (codes.all (575 (letters.any (973 (762 l c))))) (some i89) 00)
def gy(m:g0)(x:06):06:=13 (045<c26) [] 375
def rm(w:06)(c:Nat):Int:=320 (w.filter (c95 (j==c)))
def fO(letters a b:06):10:=letters.map (575 (rm a c-rm b c))
def hc(a b:10):Int:=(kQ (i00 (x*y)) a b).sum
def gb(r:10):Nat:=c16 g 0
def jH(r:10):10:=13 (767<2) r (j55 (n/928))
structure d3 where
 words:30
 origins:List 844
 levels:06
 counts:06
 op:Bool
 dV:Bool
def n4(cs:06)(l:Nat):06:=let ds:=13 (l=383) (cs++[0]) cs;ds.set l (ds.getD l 0+1)
def n_(q:d3)(w:06)(l:Nat)(o:844):d3:={q with words:=886++[w],origins:=d06++[o],levels:=d23++[l],counts:=n4 452 l}
def ij(n idx lv:Nat)(m:g0)(x:06)(q:d3)(p:Nat):d3:=39 732 q (13 (719∈886) q (13 (302=315) {q with dV:=true} (n_ q 719 (lv+1) (some (n,idx,p)))))
def gz(n len lv:Nat)(x:06)(q:d3)(gA:g0×Nat):d3:=39 732 q (13 (15 len<j96 j98) {q with op:=q.op||c27 0 gA.1 x} ((eR gA.1 x).foldl (ij n gA.2 lv gA.1 x) q))
def qn(sy:cv)(n len:Nat)(q:d3):d3:=r15 (gz n len (q.levels.getD n 0) (q.words.getD n [])) q
def o6:d3:=⟨[],[],[],[],09,09⟩
def nf(sy:cv)(len:Nat):240 (240 (d3→d3))|0,_,q=>q|k+1,n,q=>13 (n<302∧732=09) (nf sy len k (n+1) (qn sy n len q)) q
def kj(sy:cv)(len:Nat)(x:06):d3:=13 (len<96) r12 (nf sy len 745 0 (n_ o6 x 0 00))
def rr(x:06):06:=13 (x=[]) 937 x
def bV(s:String):06:=s.toList.map Char.toNat
def iK(m:g0):06:=bV "move "++((13 m.b 859 [])++(rr m.l++((13 m.e 856 [])++(bV " -> "++(rr m.r++895)))))
def kk(nm:06):911→30|none=>[]|some x=>[nm++(bV " "++(rr x++895))]
structure gj(sy:cv):04 where
 jm:81≤4
 wU:099≤8
 cw:j54 051 a88
 st:∀x,034→707
 gl:∀x,672=43→707
def zl(sy:cv):30:=[548++716]++584++021++kk 006 672
def uX(sy:cv):06:=13 (75=[]) [] (540 (zl sy))
def b6(x:06):10:=x.map (h29 44)
def kl(x:06):10:=583::b6 x
def km(sy:cv)(z:Int):Int:=13 (z<0∨12<z) (-7) (13 (d12=00) (-6) 0)
def sX(q:d3):Int:=39 732 2 (39 q.op 1 0)
def Ce(sy:cv)(z:Int):10:=13 (953<0) [953] (let q:=kj sy 231 (sy.start.getD []);sX q::m15::b6 452)
def Gd(sy:cv)(z gM:Int)(cs:10):10:=m03 cs [-12] (13 (z<0∨f79≤z) [-3] (o87 (l23 231) [] (39 (a56 (gy m x) gM) (0::b6 m98) [1])))
abbrev o7:=Nat×Nat×06
def zm(x:06)(gA:g0×Nat):037:=b95 (gy gA.1 x) (gA.2,p,fJ gA.1 p x)
def uY(sy:cv)(x:06):037:=sy.moves.zipIdx.flatMap (zm x)
def Cf(s:o7):10:=15 s.1::15 s.2.1::kl s.2.2
def kn(l:037):10:=l59 Cf
def Ge(sy:cv)(cs:10):10:=m03 cs [-12] (0::320 (uY sy x)::kn (uY sy x))
def fq(row iL:10)(c:Nat):10:=jH (kQ (578 (a*iL.getD c 0-b*row.getD c 0)) row iL)
def oa(ws:10)(ms:99)(k:Int):Bool:=ms.all (285 (531 (060%k)))
def gN(sy:cv):99:=sy.moves.map (285 (fO 75 m.l m.r))
def lu(cs:40)(r:40):a48:=b57 (575 (r++[c]))
def jI(cs:40)(rows:a48):a48:=rows.flatMap (lu cs)
def dJ{α:272}(cs:40):240 a48|0=>[[]]|n+1=>495 043
def rt(ms:99)(fw:10)(k:Nat):241 10:=39 (fw.all (72 (531 (x%82)))) 00 (g37 c21 (! 531 (hc ws fw%82)&&oa ws ms 82))
def ik(q:526):Int:=c13 q.1
def lZ(ps:336):Int:=f86 (s*957) 1
def Gf(free:Nat)(sc:Int)(q:526):Int:=-((c13 508*sc).fdiv (ik q))
def qo(ps:336)(free width:Nat):10:=g84 (Gf 508 c50 q) ((iM 97 0).set 508 c50)
def o8(ps:336)(free width:Nat):10:=jH (qo ps 508 97)
def zo(b:Int):Bool:=[9,0xa,0xd,0x20].any (h29 (29 (44=b)))
def mw:571→10→Nat|_,[]=>0|inr,b::r=>13 (b=0xa) (mw 09 r+1) (13 (b=311) (mw 01 r+1) (39 (! inr&&! zo b) 0 (mw inr r+1)))
def Cg(b:Int):Bool:=555 534 b&&555 b 0x7a
abbrev sY:=336×99
def elim(c:Nat)(st:sY):sY:=match f83 (! 29 (819 c=0))with|none=>st|some J=>(a19 (q.1,fq q.2 J c)++[(c,J)],st.2.map (429 (fq r J c)))
def gO(rows:99):240 sY|0=>([],rows)|i+1=>b05
def fP(sy:cv):336:=(gO 528 81).1
def lX(ps:336)(f:Nat):Bool:=! a56 m58 (15 f)
def lx(sy:cv):99:=(908 81 (lX 390)).map (fun f=>o8 390 f 81)
def LO(sy:cv):10:=0::320 704::540 704
def cd(ls w:06):06:=w.map (425 b01)
def cY(ls:06)(m:ez):g0:=⟨370 398,370 427,980,669⟩
def bh(s:dt):cv:=⟨60,f26 i96,d57,d61⟩
def o9(n:Nat)(w:06):04:=j31∧f59 (i<n)
structure c3(s:dt):04 where
 az:s.letters.Nodup
 jn:36≤4
 lc:∀c∈s.letters,534≤c∧c≤0x7a
 mx:303≤8
 cw:k80 (a17 398∧a17 427)
 st:∀w,s.start=some w→a17 w
 gl:∀w,084=some w→a17 w
theorem eA(ls w:06):11 392=218:=by rw[cd,ba]
theorem c3.ok(h:51):gj 26:=by
 refine⟨h.jn,by show 11 003≤8;rw[ba];exact h.mx,764,333,333⟩
 ·rw[C32 (112 hm)];have:=h.cw v a3;exact⟨d42 (cd _ _) 12 this.1.1,d42 (cd _ _) 12 this.2.1⟩
 ·cases e:s.start with|none=>rw[B78]|some w=>rw[B63 (460=x)];rw[←this,eA];exact(h.st w e).1
 ·cases e:s.goal with|none=>rw[B78]|some w=>rw[B63 (460=x)];rw[←this,eA];exact(h.gl w e).1
theorem ahf(az:ls.Nodup)(hi:865)(bS:j<284)(e:b01=ls.getD j 0):i=j:=by rw[cZ,cZ,122,cA bS]at e;exact(ahJ az).mp e
theorem Ci{ls:06}(az:ls.Nodup):∀{v w:06},(668 865)→(b89 i)→854=392→v=w|[],[],_,_,_=>rfl|[],b::w,_,_,e=>p54|a::v,[],_,_,e=>p54|a::v,b::w,a3,hw,e=>by rw[B84];rw[ahf az (a3 a 237) (hw b 237) aK,Ci az (619 (a3 i (d4 _ h))) (619 (hw i (d4 _ h))) aG]
theorem LP(az:ls.Nodup){v w:06}(a3:668 865)(hw:b89 i):854=392↔v=w:=⟨Ci az a3 hw,100 f21⟩
theorem T6(ls v w:06):370 (v++w)=854++392:=by simp[cd]
theorem Gg(ls w:06)(n:Nat):370 (w.take n)=222 392 n:=by simp[cd,wV]
theorem Cj(ls w:06)(n:Nat):370 (w.drop n)=472 392 n:=by simp[cd,uZ]
theorem T7{w:06}{p k:Nat}(h:f59 (i<n)):∀i∈222 997 k,i<n:=618 (h i (u0 (qp hi)))
theorem ahK{c:Nat}(h:c∈ls):∃i,i60 (x==c)=604∧865∧b01=c:=by
 have:736 (i60 (x==c))=01:=by rw[List.findIdx?_isSome];exact 161 c h (201 c)
 obtain⟨i,hi⟩:=ahL.mp 246;obtain⟨af,ak,_⟩:=ahM.mp hi;refine⟨i,hi,af,?_⟩;rw[cZ,cA af];simpa using ak
theorem ahN{c:Nat}(h:c∉ls):i60 (x==c)=00:=by rw[T8];intro x ai;simp only[beq_eq_false_iff_ne];intro e;exact h (e▸ai)
theorem T9(ls:06)(c:Nat)(w:06):qq ls (c::w)=331 (qq ls w) (973 ((i60 (x==c)).map (425 (i::l)))):=rfl
theorem Ck{ls:06}:∀{w:06},(f37 (c∈ls))→∃v,qq ls w=54∧854=w∧(668 865)
 |[],_=>072 [] 19
 |c::w,h=>by
  rw[C70 (Ck (w:=w) 849)];obtain⟨i,aK,aG,cp⟩:=ahK (127 c);refine⟨i::v,?_,?_,?_⟩
  ·rw[T9,af,Gh,aK];rfl
  ·show b01::854=c::w;rw[cp,ak]
  ·intro j bS
   cases bS with|head=>exact aG|tail _ bS=>exact a6 j bS
theorem Gi{ls:06}:∀{w:06},¬(f37 (c∈ls))→qq ls w=00
 |[],h=>69 19 h
 |c::w,h=>by
  rw[T9];by_cases hw:∀x∈w,x∈ls
  ·have ar:c∉ls:=fun ar=>h (by
   rw[A74]
   cases ai with|head=>exact ar|tail _ ai=>exact hw x ai);obtain⟨v,af,_⟩:=Ck hw;rw[af,Gh,ahN ar];rfl
  ·rw[Gi hw];rfl
theorem T_{w v:06}(e:854=w):734=218:=by rw[←e,eA]
theorem Ua:cs.all (575 (ls.any (973 (762 l c))))=01↔∀c∈cs,0≤c∧c.toNat∈ls:=by
 rw[gB];refine 158 (575 (158 n48));rw[ly];rw[A04]
 ·rintro⟨l,af,ak⟩;have:=d46;rw[A27 03];have:c.toNat=l:=03;rw[A16];exact af
 ·rw[C72];exact⟨c.toNat,ak,145⟩
theorem zp(h:51)(cs:10)(f:b7→Cm):(nd 60 cs=00∧sZ s cs f=[-12])∨∃v,a17 v∧nd 60 cs=some 95∧sZ s cs f=f v:=by
 unfold nd sZ;by_cases iN:12<383
 ·left;rw[21 iN,show(o_ cs||29 (LONG<383))=01 by rw[108 LONG 12,102 iN];simp];exact⟨rfl,rfl⟩
 ·rw[23 iN,show 29 (LONG<383)=09 by exact 211,wW];by_cases dQ:cs.all (575 (s.letters.any (973 (762 l c))))=01
  ·right;have aN:=Ua.mp dQ;have aa:o_ cs=09:=by unfold o_;rw[Gj];intro c ar;have:=h.lc _ (aN c ar).2;have:=(aN c ar).1;simp;lia
   rw[C70 (Ck (ls:=60) (w:=d8 cs) (by intro c ar;obtain⟨z,hz,rfl⟩:=112 ar;exact(aN z hz).2))];refine⟨v,⟨?_,a6⟩,?_,?_⟩
   ·rw[T_ ak,d8,ba];lia
   ·rw[21 dQ,ak];rfl
   ·rw[aa];rw[C71];rw[af]
  ·left;rw[23 dQ];rw[A27 rfl];rw[B16 (o_ cs)]
   ·rw[aa];simp
   ·rw[Bool.not_eq_true]at aa;rw[aa];rw[C71];rw[Gi];intro q;refine dQ (Ua.mpr (h63 ⟨?_,q _ (143 c ar)⟩));have:=(Gj.mp aa) c ar;simp at this;lia
theorem Gk(az:ls.Nodup){m:ez}{w:06}(ax:p46 865)(hw:b89 i)(p:Nat):uW 929 392 p=(m24==398&&(! 980||p==0)&&(! 669||11 997==a09)):=by unfold uW cY;simp only[eA];rw[←Cj,eA,←Gg];congr 2;rw[hu,beq_iff_eq,beq_iff_eq,LP az (T7 hw) ax]
theorem Cn(ls:06)(m:ez)(w:06)(p:Nat):fJ 929 p 392=370 (g76++(427++g51 a09)):=by unfold fJ cY;simp only[T6,Gg,Cj,eA]
theorem wX{w:06}{p:Nat}(au:p≤218)(e:j26=l):p+63≤218:=by have:=137 e;rw[eS,fV]at this;lia
theorem Ub(az:ls.Nodup){m:ez}{w:06}(ax:p46 865)(hw:b89 i)(p:Nat):(p∈gy 929 392→(zq m p w).map (cd ls)=some (fJ 929 p 392))∧(p∉gy 929 392→zq m p w=00):=by
 unfold gy eR;simp only[eA,88 (f27 929=a09) (eA _ _),88 (i23 929=s07) (eA _ _)];have key:(p∈908 (218+1) (uW 929 392))↔p≤218∧m24=398∧(980=09∨p=0)∧(669=09∨11 997=a09):=by
  rw[ob,g4,Gk az ax hw];simp only[hG,Gl,beq_iff_eq,Gm,and_assoc];rw[A04]
  ·rintro⟨a,b,c,d⟩;exact⟨03,b,c,d⟩
  ·rintro⟨a,b,c,d⟩;exact⟨03,b,c,d⟩
 rw[A04]
 ·intro h;rw[A18]
  ·cases h
  ·next aU=>have k:=key.mp h;have:=wX k.1 k.2.1;unfold zq;rw[21 ⟨k.1,k.2.1,k.2.2.1,k.2.2.2,636 _ 12⟩,Cn];rfl
 ·intro h;unfold zq;rw[if_neg];rintro⟨a,b,c,d,e⟩;have:=wX a b;rw[23 (by have:LONG=12:=rfl;lia)]at h;exact h (key.mpr ⟨a,b,c,d⟩)
theorem Uc(s:dt)(w:b7):bytesOf s w=b6 460:=by unfold bytesOf b6 cd;rw[gP];rfl
theorem Co(s:dt)(w:b7):ng s w=kl 460:=by unfold ng kl;rw[Uc,eA]
theorem Cp(s:dt)(i:Nat):(26).moves[i]?=(754).map i96:=by show(s.moves.map _)[i]?=_;rw[cK]
theorem step_eq(h:51)(z gM:Int)(cs:10):Gd 26 z gM cs=il s (.step z gM cs):=by
 show _=sZ s cs _;unfold Gd;rw[C00 h cs (888 (13 (z<0∨f85≤z) [-3] (match(13 (gM<0) 00 (wY s 231 d32 v))with|none=>[1]|some u=>0::bytesOf s u)))]
 ·refine Eq.trans ?_ ak.symm;rw[135,af]
 ·refine Eq.trans ?_ ak.symm;rw[135,af];simp only[88 ((26).moves.length=303) (ba ..)];split
  ·rfl
  ·next hz=>
   have zr:231<303:=03;rw[Cp,cA zr];simp only[wZ];obtain⟨m,hm⟩:∃m,s.moves[231]=m:=282;have fB:m∈972:=hm▸ko zr;rw[A68 m fB];unfold wY;rw[cA zr,hm,Gh];have eX:=Ub 498 (m:=m) (w:=v) a10 a3.2 d32;by_cases au:gM<0
   ·rw[21 au,if_neg];intro q;obtain⟨n,_,aU⟩:=ly.mp q;have:=121 aU;lia
   ·rw[23 au];have e:a56 (gy 852 95) gM=01↔d32∈gy 852 95:=by
     rw[ly];rw[A04]
     ·rintro⟨n,af,ak⟩;have:=d46;rw[show d32=n by lia];exact af
     ·intro q;exact⟨_,q,145⟩
    by_cases fc:d32∈gy 852 95
    ·rw[21 (e.mpr fc)];have:=eX.1 fc
     cases aR:zq m d32 v with|none=>rw[B97];rw[A47]|some u=>rw[B97];have aG:b02=_:=cI 246;rw[A11];rw[Uc,aG]
    ·rw[23 (58 (fc (e.mp q))),eX.2 fc]
theorem Ud(h:51)(a3:a29 i):g64 (u1 s v) (z.1,497,011)=uY 26 95:=by
 unfold u1 uY;rw[Ue];have e:(26).moves.zipIdx=689 303 ((26).moves.getD i ⟨[],[],09,09⟩,i):=by
  refine 194 ?_;rw[Gn,cK,Cp];rw[A65 (i<303)]
  ·rw[122,s6 hi];simp only[wZ];rw[cZ,Cp,122];simp
  ·rw[140,hH (081 03)];rfl
 rw[e,LQ];have ahO:∀{α β:272}{l:40}{f g:α→522},(∀a∈l,f a=g a)→g06=l59 g:=by intro α β l f g u2;rw[Gp,Gp,lz u2]
 refine ahO e32;have qr:=a42;have hm:754=some b80:=cA qr;rw[A68 _ (ko qr)];have pa:(26).moves.getD i ⟨[],[],09,09⟩=e06:=by rw[cZ,Cp,hm];rfl
 simp only[u3,zm];rw[pa];have key:∀p,p<734+1→(wY s i p v).map (fun u=>(i,p,b02))=942 (p∈gy e06 95) (i,p,fJ e06 p 95):=by
  intro p _;have eX:=Ub 498 (m:=b80) (w:=v) a10 a3 p;unfold wY;rw[hm,Gh];split
  ·next fc=>
   have:=eX.1 fc
   cases aR:zq b80 p v with|none=>rw[B97];rw[A47]|some u=>rw[B97];have aG:b02=_:=cI 246;rw[wZ,aG]
  ·next fc=>rw[eX.2 fc];rfl
 rw[List.map_filterMap];have w1:∀(l:06),(∀p∈l,p<734+1)→p36 (400 (g64 ((wY s i p v).map (888 (i,p,v))) (z.1,497,011)))=b95 (f45 (400 (a44 p (gy e06 95)))) (i,p,fJ e06 p 95):=by
  intro l
  induction l with
   |nil=>intro _;rfl
   |cons p r ih=>
    intro ax;have Ug:=ih (330 (ax q (d4 _ aw)));have fC:=key p (ax p 237);rw[w2,iO];rw[Uh];rw[show Option.map ((fun z:Nat×Nat×b7=>(z.1,497,011))∘888 (i,p,v)) (wY s i p v)=_ from fC];by_cases fc:p∈gy e06 95
    ·rw[21 fc,21 (102 fc),eN,Ug]
    ·rw[23 fc,23 (c99 (113 fc)),Ug]
 rw[w1 _ (367 154)];congr 1;unfold gy;split
 ·rw[ahP];simp
 ·unfold eR;rw[eA];refine Cq 263;rw[hu,decide_eq_true_eq,ob];exact⟨58 q.2,58 ⟨au,q⟩⟩
theorem ahQ(h:51)(cs:10):Ge 26 cs=il s (.steps cs):=by
 show _=sZ s cs _;unfold Ge;rw[C00 h cs (888 (0::320 (u1 s v)::670 (u1 s v) (16 (649::15 497::ng s a06))))]
 ·rw[ak,135,af]
 ·rw[ak,135,af];rw[A11];rw[←Ud h a3.2,ba,kn,LQ];congr 3;funext z;simp only[u3,Cf,Co]
theorem Ui(t:String):bV t=zt t:=rfl
theorem Uj(ls:06)(w:b7):rr 392=wordText ls w:=by unfold rr wordText;cases w<;>rfl
theorem ahR(ls:06)(m:ez):iK 929=moveText ls m:=by unfold iK moveText;simp only[cY,Uj,Ui];rfl
theorem Uk(ls:06)(o:241 b7)(nm:String)(LR:String)(e:zt LR=zt nm++zt " "):540 (kk (bV nm) (o.map (cd ls)))=lineFor ls LR o:=by cases o with|none=>rfl|some w=>show[_].flatten=_;rw[qs,ahS,nh,Uj];show _=zt LR++_;rw[e,jo];rfl
theorem ahT(s:dt):0::b6 (uX 26)=il s .written:=by
 show _=0::pb (writeSystem s);unfold uX writeSystem;show _::b6 (13 (60=[]) _ _)=_
 cases e:s.letters with|nil=>rfl|cons a r=>rw[142];simp only[List.isEmpty_cons,l0,↓reduceIte];congr 1;show pb _=pb _;congr 1;unfold zl;rw[Cr,Cr,Cr,qs,ahS,nh];show _++540 (003|>.map _)++540 (kk d44 d57)++540 (kk 006 d61)=_;rw[Uk _ _ _ "start " 14,Uk _ _ _ "goal " 14,gP,←Gp];rw[show(iK∘i96)=moveText 60 by funext m;exact ahR _ m];show 548++(60++895)++_++_++_=_;rw[e];simp only[Ui,jo]
def Cs(os:List 844):240 (844→035→035)|0,_,acc=>acc|_+1,none,acc=>acc|n+1,some o,acc=>Cs os n (os.getD o.1 00) (o.2::acc)
def ru(q:d3)(x:06):035:=Cs d06 302 (m25 i68) []
def u4(l:035):10:=l59 (16 [649,15 z.2])
def zu(q:d3)(x:06):10:=13 (x∈886) (0::320 (ru q x)::u4 (ru q x)) [13 (! q.op&&! 732) 1 2]
def Ct(sy:cv)(z:Int)(x:06):10:=13 (953<0) [953] (zu (kj sy 231 (sy.start.getD [])) x)
def Gq(sy:cv)(z:Int):10:=match sy.goal with|none=>[-8]|some x=>Ct sy z x
def Gr(sy:cv)(z:Int)(cs:10):10:=m03 cs [-12] (Ct sy z x)
def kp(ls:06):Nat:=ls.foldl (fun n z=>max n (z+1)) 0
def cnt(ls:06):06:=407 703 (450 (11 (ls.filter (16 (z==k)))))
theorem ahU(ls:06):∀a,(ls.foldl (fun n z=>max n (z+1)) a)=max a 703:=by induction ls with|nil=>intro a;simp[kp]|cons x r ih=>intro a;unfold kp;rw[hv,hv,ih,ih,Nat.zero_max,Nat.max_assoc]
theorem ahV(ls:06)(l:Nat):kp (ls++[l])=max 703 (l+1):=by unfold kp;rw[s7];rfl
theorem Ul{x:Nat}(h:x∈ls):x<703:=by
 induction ls with
  |nil=>cases h
  |cons y r ih=>
   unfold kp;rw[hv,ahU]
   cases h with|head=>lia|tail _ h=>have:=ih h;lia
theorem Cu(ls:06):11 (cnt ls)=703:=by rw[cnt,ba,iP]
theorem ahW{l:Nat}(h:l≤11 (cnt ls)):n4 (cnt ls) l=cnt (ls++[l]):=by
 rw[Cu]at h;have c9:∀k,11 (582 (ls++[l]) (16 (z==k)))=11 (ls.filter (16 (z==k)))+13 (l=k) 1 0:=by
  intro k;rw[s8,cn];congr 1;rw[A06 l k]
  ·rw[155,iO,21 566];rfl
  ·rw[148,iO,185];rfl
 refine w0 046;unfold n4;rw[Cu];have LS:∀k,(cnt ls)[k]?=942 (k<703) (11 (ls.filter (16 (z==k)))):=by
  intro k;unfold cnt;rw[cK];split
  ·next aS=>rw[s6 aS];rfl
  ·next aS=>rw[209];rfl
 have ahX:(cnt (ls++[l]))[k]?=942 (k<max 703 (l+1)) (11 (ls.filter (16 (z==k)))+13 (l=k) 1 0):=by
  unfold cnt;rw[cK,ahV];split
  ·next aS=>rw[s6 aS,wZ,c9]
  ·next aS=>rw[209];rfl
 rw[ahX];rw[A06 l 703]
 ·rw[21 e];have z:11 (ls.filter (16 (z==703)))=0:=by rw[u5,ahP];intro a aN;have:=Ul aN;simp;lia
  subst e;have eY:=Cu ls;rw[ahY,List.getElem?_append,cn,eY];rw[A66 (703=k)]
  ·subst aS;have:(cnt ls++[0]).getD 703 0=0:=by rw[cZ,166,eY];simp
   simp only[this];simp[z]
  ·rw[134,LS];rw[A79 (k<703)]
   ·simp only[ak,↓reduceIte,134];rw[118];rfl
   ·rw[146,124,hH];simp;lia
 ·rw[23 e];rw[ahY,Cu];rw[A66 (l=k)]
  ·subst aS;rw[101,118,118,101,cZ,LS,118];rfl
  ·rw[134,LS,134];rw[A79 (k<703)]
   ·rw[178,118];rfl
   ·rw[146,124]
structure w4(s:dt)(q:Search)(e:d3):04 where
 w:b64=p53 m94
 o:l58=p53 d54
 l:b63=p53 (16 z.level)
 c:l57=cnt b63
 b:e.dV=i20
 f:∀z∈q.nodes,∀i∈z.word,i<36
def lA(b i lv:Nat)(e:d3)(z:o7):d3:=39 e.dV e (13 (b<p52) p51 (13 (a06∈b64) e (13 (315≤p50) {e with dV:=true} (n_ e a06 (lv+1) (some (i,z.1,497))))))
theorem ahZ(h:51){e:d3}(r:w4 s q e)(a3:a29 i):95∈b64↔hasWord q.nodes v=01:=by
 rw[r.w,cJ];unfold hasWord;rw[ly];rw[A04]
 ·rintro⟨z,hz,qt⟩;exact⟨z,hz,364 (Ci 498 (r.f z hz) a3 qt) 174⟩
 ·rintro⟨z,hz,qt⟩;exact⟨z,hz,970 (a02 qt)⟩
theorem ah0(h:51){b:Nat}{e:d3}(r:w4 s q e)(a8:e.op=q.opened)(ax:lv∈b63){z:Nat×Nat×b7}(hz:∀i∈a06,i<36):w4 s (zv b i lv q z) (lA b i lv e (z.1,497,011))∧(lA b i lv e (z.1,497,011)).op=(zv b i lv q z).opened∧lv∈(lA b i lv e (z.1,497,011)).levels:=by
 unfold zv lA;simp only[eA];rw[B16 i20]
 ·rw[160,212 aa];exact⟨r,a8,ax⟩
 ·rw[177,136 (aa m10)];rw[A72 (b<p52)]
  ·rw[169,169];rw[A44 ⟨r.w,r.o,r.l,r.c,r.b,r.f⟩ ax]
  ·rw[153,153];have dh:=ahZ h r hz;rw[A79 (011∈b64)]
   ·rw[178,21 (dh.mp ak)];exact⟨r,a8,ax⟩
   ·rw[146,23 (72 (ak (dh.mpr x)))];have c4:p50=a11:=by rw[r.w,ba]
    rw[c4,108 CAP 315];by_cases a6:315≤a11
    ·rw[21 a6,21 a6];exact⟨⟨r.w,r.o,r.l,r.c,rfl,r.f⟩,a8,ax⟩
    ·rw[23 a6,23 a6];rw[A20 ⟨?_,?_,?_,?_,r.b,?_⟩ a8]
     ·show b64++[_]=_;rw[r.w,d5];rfl
     ·show l58++[_]=_;rw[r.o,d5];rfl
     ·show b63++[_]=_;rw[r.l,d5];rfl
     ·show n4 l57 (lv+1)=cnt (b63++[lv+1]);rw[r.c];exact ahW (by rw[Cu];exact Ul ax)
     ·intro y aC;rcases 362 aC with aC|aC
      ·exact r.f y aC
      ·rw[86 aC];exact hz
     ·exact j59 ax
theorem Um{s:dt}(h:51){b i lv:Nat}:∀(zs:List (Nat×Nat×b7))(q:Search)(e:d3),w4 s q e→e.op=q.opened→lv∈b63→(∀z∈zs,∀i∈a06,i<36)→w4 s (zs.foldl (zv b i lv) q) ((zs.map (16 (z.1,497,011))).foldl (lA b i lv) e)∧((zs.map (16 (z.1,497,011))).foldl (lA b i lv) e).op=(zs.foldl (zv b i lv) q).opened|[],q,e,r,a8,_,_=>⟨r,a8⟩|z::zs,q,e,r,a8,ax,hz=>by obtain⟨bU,o1,eY⟩:=ah0 h (b:=b) (i:=i) r a8 ax (hz z 237);exact Um h zs _ _ bU o1 eY (086 (hz y 922))
structure s9(cut:Bool)(a e:d3):04 where
 w:i19=b64
 o:a.origins=l58
 l:a.levels=b63
 c:a.counts=l57
 b:a.dV=e.dV
 op:e.dV=09→a.op=(e.op||cut)
theorem Un{b i lv:Nat}{e:d3}(h:e.dV=01):∀zs:037,zs.foldl (lA b i lv) e=e
 |[]=>rfl
 |z::zs=>by
  rw[hv];have:lA b i lv e z=e:=by unfold lA;rw[114]
  rw[this,Un h zs]
theorem Uo{b i lv:Nat}:∀(zs:037)(e:d3),e.dV=09→(∀z∈zs,b<p52)→zs.foldl (lA b i lv) e={e with op:=e.op||29 (0<b33)}
 |[],e,_,_=>19
 |z::zs,e,aa,hz=>by
  rw[hv];have:lA b i lv e z=p51:=by unfold lA;rw[206,21 (hz z 237)]
  rw[this,Uo zs p51 aa (086 (hz y 922))];simp
theorem ah2{b idx:Nat}{x:06}:∀(ps:06)(a e:d3)(cut:Bool),s9 cut a e→(∀p∈ps,¬b<11 719)→k01→s9 cut (ps.foldl (ij i idx lv m x) a) ((ps.map (400 (idx,p,719))).foldl (lA b i lv) e)∧d07 (ps.foldl (ij i idx lv m x) a)≤315:=by
 intro ps
 induction ps with
  |nil=>intro a e cut r _ a6;exact⟨r,a6⟩
  |cons p ps ih=>
   intro a e cut r au a6;rw[eN,hv,hv];have key:s9 cut (ij i idx lv m x a p) (lA b i lv e (idx,p,719))∧d07 (ij i idx lv m x a p)≤315:=by
    unfold ij lA;rw[B16 e.dV]
    ·rw[160,212 aa];exact⟨r,a6⟩
    ·rw[177,136 (aa m10),23 (au p 237)];rw[A79 (719∈b64)]
     ·rw[178,21 s09];exact⟨r,a6⟩
     ·rw[146,23 s09];have LU:=a6;rw[r.w]at a6;by_cases bH:p50=315
      ·rw[21 s08,118];exact⟨⟨r.w,r.o,r.l,r.c,rfl,16 o56⟩,LU⟩
      ·rw[23 s08,124];rw[A27 ⟨?_,?_,?_,?_,r.b,r.op⟩]
       ·show i19++_=b64++_;rw[r.w]
       ·show a.origins++_=l58++_;rw[r.o]
       ·show a.levels++_=b63++_;rw[r.l]
       ·show n4 a.counts _=n4 l57 _;rw[r.c]
       ·show 11 (i19++[_])≤315;rw[cn,r.w];show _+1≤315;lia
   exact ih _ _ cut key.1 (086 (au y 922)) key.2
theorem Gs{x:06}{p:Nat}(h:p∈375):e07 p:=by unfold eR at h;rw[ob,g4]at h;have ak:=h.2;unfold uW at ak;simp only[hG,beq_iff_eq]at ak;exact wX 03 ak.1.1
theorem Up{x:06}{p:Nat}(h:p∈375):320 719=c26:=by have:=Gs h;unfold fJ;rw[cn,cn,eS,fV,fV];lia
def pd(x:06)(m:g0):Bool:=29 (045<c26)&&c27 0 m x
theorem ah3{b:Nat}{x:06}(LV:b≤12){cut:Bool}{a e:d3}(r:s9 cut a e)(a6:k01)(gA:g0×Nat):s9 (cut||pd x gA.1) (gz i b lv x a gA) ((zm x gA).foldl (lA b i lv) e)∧d07 (gz i b lv x a gA)≤315:=by
 unfold gz zm;rw[B16 e.dV]
 ·rw[212 aa,Un aa];exact⟨⟨r.w,r.o,r.l,r.c,r.b,16 (by rw[aa]at z;cases z)⟩,a6⟩
 ·rw[136 (aa m10)];have oc:e.dV=09:=120;by_cases ax:15 b<j96 j98
  ·rw[21 ax];unfold gy;by_cases iN:045<j96 j98
   ·rw[21 iN];rw[A03 ⟨r.w,r.o,r.l,r.c,r.b,521⟩ a6];show(a.op||_)=(e.op||_);rw[r.op oc,pd,102 iN,w5,Bool.or_assoc]
   ·rw[23 iN,Uo _ _ oc,pd,211,zw,wW]
    ·rw[A03 ⟨r.w,r.o,r.l,r.c,r.b,521⟩ a6];show(a.op||_)=((e.op||_)||cut);rw[r.op oc,ba];cases e.op<;>cases cut<;>simp
    ·rw[B23];rw[C04 hz];have:=Up au;show b<11 (fJ _ _ _);lia
  ·rw[23 ax];have iN:¬045<j96 j98:=03;have s_:(cut||pd x gA.1)=cut:=by rw[pd,211,zw,wW]
   rw[s_];unfold gy;rw[23 iN];refine ah2 _ _ _ _ r 263 a6;have:=Up au;lia
theorem Uq{b i lv:Nat}{x:06}(LV:b≤12):∀(ms:List (g0×Nat))(a e:d3)(cut:Bool),s9 cut a e→k01→s9 (cut||ms.any (fun gA=>pd x gA.1)) (ms.foldl (gz i b lv x) a) ((p38 (zm x)).foldl (lA b i lv) e)∧d07 (ms.foldl (gz i b lv x) a)≤315|[],a,e,cut,r,a6=>⟨by simpa using r,a6⟩|gA::ms,a,e,cut,r,a6=>by obtain⟨bU,eY⟩:=ah3 (i:=i) (lv:=lv) (x:=x) LV r a6 gA;have:=Uq (i:=i) (lv:=lv) (x:=x) LV ms _ _ _ bU eY;rw[hv,ta,s7,pe,←Bool.or_assoc];rw[A10]
theorem ah5(h:51)(a3:a29 i):((26).moves.zipIdx.any (fun gA=>pd 95 gA.1))=isCut s v:=by
 have z:((26).moves.zipIdx.any (fun gA=>pd 95 gA.1))=m47 26 (pd 95 m):=by
  have:((26).moves.zipIdx.map 379).any (285 (pd 95 m))=m47 26 (pd 95 m):=by congr 1;refine 194 ?_;rw[cK,Gn];cases(26).moves[i]?<;>rfl
  rw[←this,u6];rfl
 rw[z];show(003).any _=_;rw[u6];unfold isCut;rw[hu,ly,ly];refine exists_congr (285 (and_congr_right n46));rw[A68 m hm];simp only[u3,pd,eA,88 (f27 852=a09) (eA _ _),88 (i23 852=s07) (eA _ _)];rw[hG,decide_eq_true_eq,decide_eq_true_eq,ly];rw[A04]
 ·rw[C72];obtain⟨p,au⟩:=List.exists_mem_of_length_pos ak;have hf:=Gs au;rw[eA,88 (f27 852=a09) (eA _ _)]at hf;unfold eR at au;rw[ob,eA]at au;rw[A20 p au.1];rw[Gk 498 a10 a3]at au;rw[au.2,w5,decide_eq_true_eq];show 12<_;lia
 ·rintro⟨p,au,ak⟩;rw[hG,decide_eq_true_eq,←Gk 498 a10 a3]at ak;have l1:p∈eR 852 95:=by unfold eR;rw[ob,eA];exact⟨au,ak.1⟩
  have hf:=Gs l1;rw[eA,88 (f27 852=a09) (eA _ _)]at hf;rw[A03 ?_ (ah6 l1)];have:=ak.2;have:LONG=12:=rfl;lia
theorem ah7(h:51)(a3:a29 i):∀z∈u1 s v,∀i∈a06,i<36:=by
 rw[B23];unfold u1 at hz;rw[ni]at hz;obtain⟨i,_,hz⟩:=hz;rw[Gu]at hz;obtain⟨p,_,hz⟩:=hz
 cases e:wY s i p v with
  |none=>rw[e]at hz;cases hz
  |some u=>
   rw[e]at hz;have:(i,p,u)=z:=cI hz;rw[A88];unfold wY at e
   cases em:754 with
    |none=>rw[em]at e;cases e
    |some m=>
     rw[em,Gh]at e;unfold zq at e;rw[B07];rw[A22]
     ·have bZ:=cI e;rw[←bZ];intro j bS;rw[A68 m (cG em)];rw[B40 bS]
      ·exact a3 j (qp bS)
      ·rw[B40 bS]
       ·exact hU.2.2 j bS
       ·exact a3 j (u0 (u0 bS))
     ·cases e
structure qu(s:dt)(q:Search)(a:d3):04 where
 r:w4 s q a
 op:n09→a.op=q.opened
 n:k01
theorem ah8(h:51){b:Nat}(aa:b≤12){a:d3}(r:qu s q a)(kR:n09)(hi:i<a11):qu s (expand s b i q) (qn 26 i b a):=by
 unfold expand qn;rw[122];rw[A11];obtain⟨x,ai⟩:∃x,q.nodes[i]=x:=282;have hm:x∈q.nodes:=ai▸ko hi;rw[ai];have c4:a.levels.getD i 0=f60:=by rw[r.r.l,cZ,cK,122,ai];rfl
 have nj:a.words.getD i []=j47:=by rw[r.r.w,cZ,cK,122,ai];rfl
 have w6:f60∈a.levels:=by rw[r.r.l];exact 143 x hm
 rw[c4,nj];have hf:=r.r.f x hm;obtain⟨f1,f2⟩:=Um h (b:=b) (i:=i) (u1 s i22) q a r.r (r.op kR) w6 (ah7 h hf);rw[Ud h hf]at f1 f2;have s0:s9 09 a a:=⟨rfl,rfl,rfl,rfl,rfl,290 19⟩;obtain⟨g1,g2⟩:=Uq (i:=i) (lv:=f60) (x:=j47) aa (26).moves.zipIdx a a 09 s0 r.n;rw[Cv,ah5 h hf]at g1;change s9 _ _ ((uY 26 j47).foldl _ a)at g1;refine⟨?_,?_,g2⟩
 ·have:w4 s ((u1 s i22).foldl (zv b i f60) q) ((26).moves.zipIdx.foldl (gz i b f60 j47) a):=⟨by rw[g1.w];exact f1.w,by rw[g1.o];exact f1.o,by rw[g1.l];exact f1.l,by rw[g1.c,g1.l];exact f1.c,by rw[g1.b];exact f1.b,f1.f⟩;split
  ·exact⟨this.w,this.o,this.l,this.c,this.b,this.f⟩
  ·rw[A10]
 ·intro Ur;have qv:((u1 s i22).foldl (zv b i f60) q).broken=09:=by split at Ur<;>exact Ur
  have:=g1.op (by rw[f1.b];exact qv);rw[this,f2]
  cases isCut s i22 with|true=>simp|false=>simp
theorem ah9(h:51){b:Nat}(aa:b≤12):∀(k i:Nat)(q:Search)(a:d3),qu s q a→qu s (searchFrom s b k i q) (nf 26 b k i a):=by
 intro k
 induction k with
  |zero=>intro i q a r;exact r
  |succ k ih=>
   intro i q a r;have c4:p49=a11:=by rw[r.r.w,ba]
   show qu s (13 (i20||555 a11 i) q (searchFrom s b k (i+1) (expand s b i q))) (13 (i<p49∧a.dV=09) (nf 26 b k (i+1) (qn 26 i b a)) a);rw[c4,r.r.b];by_cases kR:i20=01
   ·rw[21 o93,23 o93];exact r
   ·have LW:n09:=by simpa using kR
    rw[A65 (i<a11)]
    ·rw[23 (by rw[LW];simp;lia),21 ⟨hi,LW⟩];exact ih (i+1) _ _ (ah8 h aa r LW hi)
    ·rw[21 (by simp;right;lia),136 (hi z.1)];exact r
theorem aia(h:51){b:Nat}(aa:b≤12)(a3:a29 i):qu s (searchOf s b v) (kj 26 b 95):=by
 unfold searchOf kj;rw[eA];by_cases ax:734≤b
 ·rw[200,124];refine ah9 h aa _ _ _ _ ⟨⟨rfl,rfl,rfl,rfl,rfl,g83⟩,524,680 (1≤315)⟩;rw[86 hz];exact a3
 ·rw[197,118];exact⟨⟨rfl,rfl,rfl,rfl,rfl,b35 (by cases hz)⟩,524,680 (0≤315)⟩
theorem aib{a:d3}(r:qu s q a):a.counts=levelsOf q:=by rw[r.r.c,r.r.l];unfold cnt levelsOf kp;rw[List.foldl_map];refine 215 ?_;rw[List.filter_map,ba];rfl
theorem aic{a:d3}(r:qu s q a):sX a=15 j99:=by
 unfold sX kindOf;rw[r.r.b]
 cases aa:q.broken with|true=>rfl|false=>rw[r.op aa];cases q.opened<;>rfl
theorem LX(h:51)(z:Int)(f:Search→Cm)(g:d3→Cm)(u2:∀q a,qu s q a→g a=f q):(13 (km 26 z<0) [km 26 z] (g (kj 26 231 ((26).start.getD []))))=onBound s z f:=by
 unfold onBound km Gv;show _=13 (z<0∨045<z) _ _;by_cases hz:z<0∨12<z
 ·rw[21 hz,21 hz];rfl
 ·rw[23 hz,23 hz];rw[B31 (b91=d57)];rw[aR]
  cases e:s.start with|none=>rfl|some w=>rw[wZ,142];exact u2 _ _ (aia h 03 (h.st w e).2)
theorem aid(h:51)(z:Int):Ce 26 z=il s (.search z):=by unfold Ce;show _=onBound s z (58 (pb (j99::a11::levelsOf q)));refine LX h z (58 (pb (j99::a11::levelsOf q))) (58 (sX q::m15::b6 452)) (p48 ?_);show _=15 j99::15 a11::_;rw[aic r,aib r,r.r.w,ba];rfl
theorem Us(l:List Node):∀(n i:Nat)(w:Way),wayFrom l n i w=Cs (363 d54) n ((363 d54).getD i 00) w
 |0,i,w=>rfl
 |n+1,i,w=>by
  unfold wayFrom;have e:(363 d54).getD i 00=331 115 d54:=by rw[cZ,cK];cases 115<;>rfl
  rw[e]
  cases 331 115 d54 with|none=>rfl|some p=>exact Us l n p.1 (p.2::w)
theorem aie(h:51){a:d3}(r:qu s q a)(a3:a29 i):numberOf q v=942 (95∈i19) (a.words.idxOf 95):=by
 unfold numberOf;have key:∀(l:List Node),(∀z∈l,∀i∈z.word,i<36)→h69 (16 (b36==v))=942 (95∈363 m94) ((363 m94).idxOf 95):=by
  intro l
  induction l with
   |nil=>intro _;rfl
   |cons z l ih=>
    intro hz;have aif:=ih (086 (hz y 922));rw[zx,eN,Ut];rw[A06 b36 v]
    ·subst e;simp
    ·have aG:901≠95:=58 (e (Ci 498 (hz z 237) a3 q));rw[185,aif];have cp:(901==95)=09:=p78;rw[cp];simp only[ed,aG.symm,false_or,l0,↓reduceIte,cond_false];split<;>rfl
 rw[r.r.w];exact key _ r.r.f
theorem Uu(h:51){a:d3}(r:qu s q a)(a3:a29 i):zu a 95=reachRow q v:=by
 unfold zu reachRow;rw[aie h r a3];by_cases fc:95∈i19
 ·rw[21 fc,21 fc];rw[A11];have nj:ru a 95=wayTo q (a.words.idxOf 95):=by unfold ru wayTo;rw[Us,r.r.o,r.r.w,ba]
  rw[nj];show _=0::15 _::pb _;congr 2;unfold u4 pb;rw[Ue];rfl
 ·rw[23 fc,23 fc];rw[A11];have:(! a.op&&! a.dV)=isClosed q:=by
   unfold isClosed;rw[r.r.b]
   cases aa:q.broken with|true=>simp|false=>rw[r.op aa]
  rw[A16];rw[B03 (isClosed q)]
theorem aih(h:51)(z:Int):Gq 26 z=il s (.way z):=by
 show _=Cw s _;unfold Gq Cw;rw[B31 (b99=d61)];rw[aR]
 cases e:s.goal with|none=>rfl|some w=>exact LX h z _ (58 (zu q 460)) (p48 (Uu h r (h.gl w e).2))
theorem aii(h:51)(z:Int)(cs:10):Gr 26 z cs=il s (.reach z cs):=by
 show _=sZ s cs _;unfold Gr;rw[C00 h cs (888 (onBound s z (58 (reachRow q v))))]
 ·rw[ak,135,af]
 ·rw[ak,135,af];exact LX h z _ (58 (zu q 95)) (p48 (Uu h r a3.2))
def mz{α:272}(cs:40):240 a48|0=>[[]]|n+1=>i15 (fun a=>687 (mz cs n) (a::r))
theorem Uv{α:272}(cs:40)(a:α):∀rows:a48,495 (l67 (a::r))=687 (495 17) (a::r)|[]=>rfl|r::t=>by have ih:=Uv cs a t;show lu cs (a::r)++495 (t.map (429 (a::r)))=687 (lu cs r++495 t) (a::r);rw[ih,d5];congr 1;unfold lu;rw[gP];rfl
theorem Uw{α:272}(cs:40)(f:α→a48):∀as:40,495 (p39 f)=p39 (fun a=>495 (f a))|[]=>rfl|a::as=>by rw[ta,ta,←Uw cs f as];unfold jI;rw[w7]
theorem zy{α:272}(cs:40):∀n,043=mz cs n
 |0=>rfl
 |1=>by
  show 495 [[]]=_;unfold jI lu mz mz;simp[Gp];rw[←Gp]
  induction cs with|nil=>rfl|cons a r ih=>rw[eN,ta,←ih];rfl
 |n+2=>by
  have ih:=zy cs (n+1);show 495 (dJ cs (n+1))=_;rw[ih];show 495 (i15 (fun a=>687 (mz cs n) (a::r)))=i15 (fun a=>687 (mz cs (n+1)) (a::r));rw[Uw];have LY:495 (mz cs n)=mz cs (n+1):=by rw[←zy cs n];exact ih
  congr 1;funext a;rw[Uv,LY]
theorem LZ(k:Nat):∀n,pf k n=dJ 763 n:=by
 intro n;rw[zy]
 induction n with|zero=>rfl|succ n ih=>show 670 943 _=670 763 _;unfold b6;rw[LQ,ih];rfl
theorem u7{k:Nat}:∀{n:Nat}{r:10},r∈pf k n↔872∧097 (0≤x∧x<k)
 |0,r=>by
  show r∈[[]]↔_;rw[du];rw[A04]
  ·rw[A91];exact⟨rfl,19⟩
  ·intro h;exact u5.mp h.1
 |n+1,r=>by
  show r∈670 943 _↔_;rw[ni];rw[A04]
  ·rintro⟨a,aN,aq⟩;obtain⟨t,bk,rfl⟩:=147;have:=u7.mp bk;have aN:=g4.mp aN;rw[A03 (by rw[dR,183]) 333]
   cases ai with|head=>lia|tail _ ai=>exact this.2 x ai
  ·rw[C72]
   cases r with|nil=>cases af|cons a t=>have aN:=ak a 237;refine⟨a.toNat,g4.mpr 03,cJ.mpr ⟨t,u7.mpr ⟨f57,276 (ak x d83)⟩,?_⟩⟩;congr 1;lia
def i4(n:Nat)(g:e85):Int:=(407 n g).sum
theorem Ux(n:Nat)(f g:e85):836 n (f i+g i)=i4 n f+i4 n g:=by
 unfold i4
 induction n with|zero=>rfl|succ n ih=>rw[rv,d5,d5,d5,Gw,Gw,Gw,ih];simp only[eN,zz,w8,List.sum_nil];lia
theorem Gx{f g:e85}(h:∀i,i<n→f i=g i):i4 n f=i4 n g:=by unfold i4;rw[lz (618 (h i a42))]
theorem Uy(n:Nat):i4 n (290 0)=0:=by
 unfold i4
 induction n with|zero=>rfl|succ n ih=>rw[rv,d5,Gw,ih];rfl
theorem aij(h:j<n)(b:e85):836 n (13 (j=i) (b i) 0)=b j:=by
 unfold i4
 induction n with
  |zero=>lia
  |succ n ih=>
   rw[rv,d5,Gw];simp only[eN,zz,w8,List.sum_nil,Int.add_zero];rw[A06 j n]
   ·subst e;rw[101];have:836 j (13 (j=i) (b i) 0)=i4 j (290 0):=Gx (618 124);unfold i4 at this;rw[A16];have:=Uy j;unfold i4 at this;rw[A16];lia
   ·rw[ih 03,148];lia
theorem Uz:∀(n:Nat)(b:10)(g:e85),d13=n→hc b (407 n g)=836 n (792*g i)|0,b,g,h=>b27 (u5.mp h)|n+1,b,g,h=>by cases b with|nil=>cases h|cons x r=>have ih:=Uz n r (425 (g (i+1))) 967;unfold hc i4 at ih⊢;rw[Gy,eN,eN,gP,gP,aik,w8,w8];have e:(g∘Nat.succ)=425 (g (i+1)):=rfl;rw[e,ih];rfl
theorem ahg(i:Nat)(w:b7)(j:Nat):pg (i::w) j=pg w j+13 (i=j) 1 0:=by
 unfold pg;rw[iO];rw[A06 i j]
 ·rw[21 566,155,dR];lia
 ·rw[185,148];lia
theorem Gz(ws:10):∀(w:b7)(a:Int),w.foldl (fun n i=>n+c18 i) a=a+615 w|[],a=>by simp[dv]|i::w,a=>by unfold dv;rw[hv,hv,Gz ws w,Gz ws w (0+c18 i)];lia
theorem GA(ws:10)(i:Nat)(w:b7):615 (i::w)=c18 i+615 w:=by show(i::w).foldl _ 0=_;rw[hv,Gz];lia
theorem L0{n:Nat}{b:10}:∀{w:b7},(f59 (i<n))→dv b w=836 n (792*pg w i)
 |[],_=>by show 413=_;rw[←Uy n];refine Gx (a05 ?_);show 413=_*0;lia
 |j::w,h=>by
  rw[GA,L0 (618 (h i (d4 _ hi)))];have bS:=127 j;have:(836 n (792*pg (j::w) i))=836 n (792*pg w i)+836 n (13 (j=i) 792 0):=by rw[←Ux];refine Gx (a05 ?_);rw[ahg,Int.mul_add];congr 1;split<;>simp
  rw[this,aij bS (425 792)];lia
theorem L1{ls:06}(az:ls.Nodup){i:Nat}(hi:865):∀{w:b7},(i18 (j<284))→rm 392 b01=pg w i
 |[],_=>rfl
 |j::w,h=>by
  have ih:=L1 az hi (w:=w) (fun k aS=>h k (d4 _ aS));rw[ahg,←ih];unfold rm;show 320 (UA _ (ls.getD j 0::392))=_;rw[iO];rw[A06 j i]
  ·subst e;rw[213,101,dR];lia
  ·rw[if_neg,148]
   ·lia
   ·intro q;exact e (ahf az (127 j) hi (a02 q))
theorem ail(ls:06)(f:240 β):ls.map f=689 284 (f b01):=by
 refine 194 ?_;rw[cK,cK];rw[A65 865]
 ·rw[s6 hi,122];simp[cZ,122]
 ·rw[140,hH k63];rfl
end
section
variable{i j n:Nat}{g l ls:List Nat}{r ws:List Int}{done:List (Nat×List Int)}{od α β:Type}{q:Search}{s:dt}{v:Word}{wait:List (List Int)}{m:g0}
theorem UB(az:ls.Nodup){w:b7}(a3:l54 (j<284))(hw:i18 (j<284)):fO ls 854 392=689 284 (pg v i-pg w i):=by unfold fO;rw[ail];refine lz e32;rw[L1 az a42 a3,L1 az a42 hw]
theorem GB(az:ls.Nodup){b:10}(aa:d13=284){w:b7}(a3:l54 (j<284))(hw:i18 (j<284)):hc b (fO ls 854 392)=dv b v-dv b w:=by
 rw[UB az a3 hw,Uz _ _ _ aa,L0 a3,L0 hw];have:(836 284 (792*(pg v i-pg w i)))+(836 284 (792*pg w i))=836 284 (792*pg v i):=by rw[←Ux];refine Gx (a05 ?_);rw[UC];lia
 lia
def jJ(a b:10):04:=n04∧∃x y:Int,x≠0∧y≠0∧∀k,x*e60 k=y*i52 k
theorem jJ.symm{a b:10}(h:jJ a b):jJ b a:=by obtain⟨l,x,y,ai,aC,h⟩:=h;exact⟨l.symm,y,x,aC,ai,450 (567 (h k))⟩
theorem jJ.trans{a b c:10}(h:jJ a b)(g:jJ b c):jJ a c:=by obtain⟨l,x,y,ai,aC,h⟩:=h;obtain⟨L2,z,w,hz,hw,g⟩:=g;refine⟨l.trans L2,x*z,y*w,GC ai hz,GC aC hw,046⟩;rw[w9 x z,L3,h k,UD,g k,L3]
theorem jJ.zero{a b:10}(h:jJ a b)(k:Nat):e60 k=0↔i52 k=0:=by
 obtain⟨_,x,y,ai,aC,h⟩:=h;have:=h k;rw[A04]
 ·intro e;rw[e,Cx]at this;rw[A61 (UE.mp this.symm)]
  ·exact 69 z aC
  ·exact z
 ·intro e;rw[e,Cx]at this;rw[A61 (UE.mp 246)]
  ·exact 69 z ai
  ·exact z
theorem UG:j15 ((c16 g g)∣g∧097 (52 (c16 g g)∣x))
 |[],g=>⟨UH _,19⟩
 |y::r,g=>by
  rw[A81 (UG r (qm g y.natAbs))];rw[hv];rw[A03 (Cy af (aim ..)) 333]
  cases ai with|head=>exact ain.mpr (Cy af (aio ..))|tail _ ai=>exact ak x ai
theorem ahh{x:Int}(h:x∈r):928∣x:=(UG r 0).2 x h
theorem UI(c:Nat):j15 ((r.map (72 (337*x))).foldl (fun g n=>qm g n.natAbs) (c*g)=c*c16 g g)|[],g=>rfl|y::r,g=>by rw[eN,hv,hv,←UI c r,Cz,UJ,Nat.gcd_mul_left]
theorem UK(c:Nat)(r:10):gb (r.map (72 (337*x)))=c*767:=by have:=UI c r 0;rw[Nat.mul_zero]at this;exact this
theorem GD{f:e94}(h0:f 0=0)(r:10)(k:Nat):(r.map f).getD k 0=f 608:=by
 rw[cZ,cZ,cK]
 cases r[k]? with|none=>exact h0.symm|some x=>rfl
theorem L4(r:10):∃g:Nat,0<g∧(0<767→g=767)∧∀k,15 g*(b03).getD k 0=608:=by
 unfold jH;split
 ·next h=>refine⟨1,14,58 03,450 19⟩
 ·next h=>
  refine⟨767,03,524,046⟩;rw[GD (f:=724 (n/928)) (Int.zero_ediv _)];have:928∣608:=by
   rw[cZ]
   cases e:r[k]? with|none=>exact Int.dvd_zero _|some x=>exact ahh (cG e)
  exact Int.mul_ediv_cancel' 246
theorem zA(r:10):11 b03=230:=q99
theorem CA(r:10):jJ b03 r:=by obtain⟨g,af,_,ak⟩:=L4 r;exact⟨zA r,g,1,03,14,450 (by rw[ak,Int.one_mul])⟩
theorem L5(r:10):reduced r=b03:=by
 unfold reduced jH;show(13 (767≤1) _ _)=_;rw[A39 (767≤1)]
 ·rw[114,118]
 ·rw[125,124];rfl
theorem UL{a b:10}(l:n04)(h:∀k,e60 k=i52 k):a=b:=by
 refine w0 046;have:=h k;rw[cZ,cZ]at this;rw[A66 (k<733)]
 ·rw[cA aS,cA (l▸aS)]at this⊢;exact d73 246
 ·rw[140,140]
theorem aip{u v:10}{a b:Nat}(aN:0<a)(aa:0<b)(l:i16=734)(h:∀k,b14*u.getD k 0=15 b*v.getD k 0)(bp:∃k,u.getD k 0≠0):jH u=jH v:=by
 have e:u.map (72 (b14*x))=v.map (72 (15 b*x)):=UL (by simp[l]) (450 (by rw[GD (Cx _),GD (Cx _)];exact h k));have pa:a*gb u=b*gb v:=by rw[←UK,←UK,e]
 have UM:0<gb u:=by
  rw[A61 (aiq (gb u))]
  ·obtain⟨k,aS⟩:=bp;rw[cZ]at aS
   cases mA:u[k]? with|none=>rw[mA]at aS;rw[A64 aS]|some x=>rw[mA]at aS;have:=ahh (cG mA);rw[z]at this;exact 69 (Int.zero_dvd.mp 246) aS
  ·exact z
 have L6:0<gb v:=by
  rw[A61 (aiq (gb v))]
  ·rw[z,Nat.mul_zero]at pa;have:=UN aN UM;lia
  ·exact z
 obtain⟨x,_,ai,zB⟩:=L4 u;obtain⟨y,_,aC,UO⟩:=L4 v;rw[ai UM]at zB;rw[aC L6]at UO;refine UL (by rw[zA,zA,l]) 046;have af:=h k;rw[←zB k,←UO k,←L3,←L3,←u9,←u9,pa]at af;exact air (564 (UN aa L6)) af
theorem zC(f:Int→e94)(f0:f 0 0=0){p:10}(l:j32)(k:Nat):(kQ f r p).getD k 0=f 608 (771 k):=by
 rw[cZ,cZ,cZ,zD];rw[A66 (k<230)]
 ·rw[cA aS,cA (l▸aS)];rfl
 ·rw[140,140];exact f0.symm
theorem UP{dF p J:10}{c:Nat}(h:jJ r dF)(g:jJ p J)(mB:j32)(ar:771 c≠0):jJ (zE c p r) (fq dF J c):=by
 have key:jJ (kQ (578 (a*771 c-b*611)) r p) (kQ (578 (a*793-b*dF.getD c 0)) dF J):=by
  obtain⟨eY,x,y,ai,aC,h⟩:=h;obtain⟨dW,z,w,hz,hw,g⟩:=g;refine⟨by rw[qw,qw,eY,dW],x*z,y*w,GC ai hz,GC aC hw,046⟩;rw[zC _ 19 mB,zC _ 19 03,UC,UC];have aK:x*z*(608*771 c)=y*w*(dF.getD k 0*793):=by have:x*z*(608*771 c)=(x*608)*(z*771 c):=202;rw[this,h k,g c];ac_rfl
  have aG:x*z*(771 k*611)=y*w*(750 k*dF.getD c 0):=by have:x*z*(771 k*611)=(x*611)*(z*771 k):=202;rw[this,h c,g k];ac_rfl
  rw[aK,aG]
 have k2:jJ (zE c p r) (kQ (578 (a*771 c-b*611)) r p):=by
  unfold zE;split
  ·next e=>have dw:611=0:=a02 e;refine⟨by rw[qw];lia,771 c,1,ar,14,046⟩;rw[zC _ 19 mB,dw,Cx,UQ,Int.one_mul,w9]
  ·rw[L5];exact CA _
 exact k2.trans (key.trans (567 (CA _)))
def eZ(r:10):Bool:=r.any (724 (n !=0))
theorem CB(r:10):eZ r=01↔∃k,608≠0:=by
 unfold eZ;rw[ly];rw[A04]
 ·rintro⟨x,ai,h⟩;obtain⟨k,aS⟩:=rx ai;rw[A27 k];rw[cZ,aS];simpa using h
 ·rintro⟨k,aS⟩;rw[cZ]at aS
  cases e:r[k]? with|none=>rw[e]at aS;rw[A64 aS]|some x=>rw[e]at aS;exact⟨x,cG e,f56⟩
theorem jJ.eZ{a b:10}(h:jJ a b):eZ a=eZ b:=by rw[hu,CB,CB];exact exists_congr (450 (203 (h.zero k)))
inductive c2{α β:272}(R:712):40→92 522|nil:c2 R [] []|cons{a b as bs:_}:R a b→c2 R as bs→c2 R (a::as) (b::bs)
theorem c2.app{R:712}{a c:40}{b d:522}(h:c2 R a b)(g:c2 R c d):c2 R (a++c) (b++d):=by induction h with|nil=>exact g|cons r _ ih=>exact 919 r
theorem c2.map{CC:272}{R:712}{S:od→92 CC}{f:α→od}{g:β→CC}{a:40}{b:522}(h:c2 R a b)(u2:∀x y,x∈a→R x y→S (f x) (g y)):c2 S (a.map f) (b.map g):=by induction h with|nil=>rw[A40]|cons r _ ih=>exact .cons (u2 _ _ 237 r) (ih (fun x y ai=>u2 x y d83))
theorem c2.filter{R:712}{p:935}{q:481 β}{a:40}{b:522}(h:c2 R a b)(L7:∀x y,R x y→p x=q y):c2 R (a.filter p) (b.filter q):=by
 induction h with
  |nil=>rw[A40]
  |cons r _ ih=>
   rw[iO,iO,L7 _ _ r];split
   ·exact 919 r
   ·exact ih
theorem c2.find{R:712}{p:935}{q:481 β}{a:40}{b:522}(h:c2 R a b)(L7:∀x y,R x y→p x=q y):(a.find? p=00∧b.find? q=00)∨d01 (a.find? p=43∧b.find? q=270∧R x y):=by
 induction h with
  |nil=>rw[A17 149]
  |cons r _ ih=>
   rw[jK,jK,L7 _ _ r];split
   ·rw[A09 ⟨_,_,rfl,rfl,r⟩]
   ·exact ih
def zF(a b:526):04:=a.1=b.1∧jJ a.2 b.2
structure ry(n:Nat)(done:336)(wait:99)(st:sY):04 where
 d:c2 zF done st.1
 w:c2 jJ wait (st.2.filter eZ)
 ld:∀z∈done,h39=n
 lw:∀r∈wait,872
 tc:565 st.2 872
theorem UR{c:Nat}{p:10}(h:j32):11 (zE c p r)=230:=by
 unfold zE;split
 ·rfl
 ·rw[L5,zA,qw];lia
theorem L8{c:Nat}{p:10}(h:j32):11 (fq r p c)=230:=by unfold fq;rw[zA,qw];lia
theorem ais{J:10}{c:Nat}(l:230=J.length)(h:eZ r=09):eZ (fq r J c)=09:=by
 have hz:∀k,608=0:=450 (nk (100 (by have:=(CB r).mpr ⟨k,e⟩;rw[h]at this;cases this)));unfold fq;rw[(CA _).eZ]
 cases e:eZ (kQ (578 (a*793-b*611)) r J)with|false=>rfl|true=>obtain⟨k,aS⟩:=(CB _).mp e;rw[zC _ 19 l,hz k,hz c]at aS;simp at aS
theorem US{f:10→10}:∀{rs:99},(∀r∈rs,eZ r=09→eZ (f r)=09)→016 (rs.map f)=016 ((rs.filter eZ).map f)
 |[],_=>rfl
 |r::rs,h=>by
  have ih:=US (f:=f) (rs:=rs) 849;rw[eN,iO,iO]
  cases e:eZ r with|true=>rw[C24];rw[eN,iO,ih]|false=>rw[h r 237 e];simpa using ih
theorem L9{c:Nat}:∀rs:99,rs.find? (429 (! 29 (819 c=0)))=382 (rs.filter eZ) (429 (! 29 (819 c=0)))
 |[]=>rfl
 |r::rs=>by
  rw[jK,iO]
  cases e:eZ r with|true=>rw[101,jK,L9 rs]|false=>have:611=0:=nk (58 (r90 ((CB r).mpr ⟨c,q⟩)));rw[107,102 246];exact L9 rs
theorem ait{c:Nat}{st:sY}(h:ry n done wait st)(rest:06):∃UT UU,GF (c::67) done wait=GF 67 UT UU∧ry n UT UU (elim c st):=by
 have hf:=h.w.find (p:=429 (611 !=0)) (q:=429 (! 29 (819 c=0))) (l56 (by rw[hu,bne_iff_ne,Gm,decide_eq_false_iff_not];exact 203 (r.zero c)));rw[←L9]at hf;unfold elim;rcases hf with⟨af,ak⟩|⟨p,J,af,ak,a6⟩
 ·refine⟨done,wait,?_,by rw[ak];exact h⟩;show(o18 (wait.find? _) _ _)=_;rw[af]
 ·refine⟨(done.map (16 (z.1,zE c p z.2)))++[(c,p)],016 (wait.map (zE c p)),?_,?_⟩
  ·show(o18 (wait.find? _) _ _)=_;rw[af];rfl
  ·rw[ak];have au:=nq af;have kq:=nq ak;have mB:=h.lw p au;have CD:=h.tc J kq;have ar:771 c≠0:=i72 af;refine⟨e50 (h.d.map (fun x y ai r=>⟨r.1,UP r.2 a6 (j45 (h.ld x ai)) ar⟩)) (119 a6),?_,?_,?_,?_⟩
   ·show c2 _ _ (016 (st.2.map (429 (fq r J c))));rw[US (fun r aq e=>ais (38 (h.tc r aq) CD.symm) e)];exact 582 (h.w.map (fun x y ai r=>UP r a6 (j45 (h.lw x ai)) ar)) (l56 r.eZ)
   ·rw[B23];rw[B39 hz]
    ·rw[A46 hz];exact 38 (UR (j45 (h.ld y aC))) (h.ld y aC)
    ·rw[86 hz];exact mB
   ·rw[A92];rw[A46 (ob.mp aq).1];exact 38 (UR (j45 (h.lw y aC))) (h.lw y aC)
   ·rw[A92];rw[A46 aq];exact 38 (L8 (38 (h.tc y aC) CD.symm)) (h.tc y aC)
theorem UW{n:Nat}{rows:99}{wait:99}(h:ry n [] wait ([],rows)):∀m i done w,ry n done w 490→∃gQ,ry n (GF (407 m (i+·)) done w) gQ (gO 17 (i+m))
 |0,i,done,w,r=>⟨w,r⟩
 |m+1,i,done,w,r=>by
  obtain⟨d',gQ,e,dF⟩:=ait (c:=i) r (407 m (i+1+·));have c4:407 (m+1) (i+·)=i::407 m (i+1+·):=by rw[Gy,eN,gP];congr 1;refine 215 ?_;simp only[u3];lia
  rw[c4,e];have:=UW h m (i+1) d' gQ dF;rw[A73 (show i+1+m=i+(m+1)by lia)];rw[A10]
theorem UX:∀{ms:699}{n:Nat}{f g:ez→10},(k88 (jJ (f m) (g m)))→c2 jJ (ms.map f) (ms.map g)|[],_,_,_,_=>89|m::ms,n,f,g,h=>.cons (127 m) (UX (n:=n) 849)
theorem L_(g:e85)(k:Nat):(407 n g).getD k 0=13 (k<n) (g k) 0:=by
 rw[cZ,cK];split
 ·next h=>rw[s6 h];rfl
 ·next h=>rw[hH 967];rfl
theorem aAK(h:51):c2 zF (GF d50 [] (b73 m18 (r.any (450 (k !=0))))) e53:=by
 have base:ry 36 [] (016 m18) ([],e91):=by
  have e:e91=f26 (285 (fO 60 m75 (292 427))):=s04 ((003).map _=_);have ln:∀m,11 (zH 36 m)=36:=285 s06;refine⟨89,?_,(19),?_,?_⟩
  ·rw[e];refine c2.filter (UX (n:=0) 764) (l56 r.eZ);rw[A68 m hm];rw[UB 498 a10 hU.2.2];refine⟨s06,1,-1,14,14,046⟩;unfold zH;rw[L_,L_];rw[B53]
  ·rw[A92];obtain⟨m,_,rfl⟩:=112 (ob.mp aq).1;exact ln m
  ·rw[A92];rw[e]at aq;obtain⟨m,_,rfl⟩:=147;unfold fO;simp
 obtain⟨gQ,r⟩:=UW 02 36 0 [] _ 02;rw[qx]at r;have c4:407 36 (0+·)=d50:=19;rw[c4]at r;exact r.d
structure Ma(i:Nat)(ps:336):04 where
 lt:098 (q.1<i)
 az:667 m58
theorem UY(rows:99):∀i,Ma i (490).1
 |0=>⟨l89,List.Pairwise.nil⟩
 |i+1=>by
  have ih:=UY 17 i;show Ma (i+1) (b05).1;unfold elim;split
  ·exact⟨330 (CE (ih.lt q aw)),ih.az⟩
  ·rw[A27 ?_]
   ·intro q aw;rw[A85 aw]
    ·rw[A46 aw];exact CE (ih.lt y aC)
    ·rw[A78];exact zI i
   ·rw[d5,gP];show 667 ((490).1.map 379++[i]);rw[Mb];refine⟨ih.az,19,fun a aN b aa=>?_⟩;rw[A46 aN];rw[86 aa];exact fk (ih.lt y aC)
theorem UZ{f:526→Int}:∀(ps:336)(w:10)(j:Nat),667 m58→(098 (q.1<218))→(g84 (f q) w).getD j 0=match ps.find? (58 (q.1==j))with|none=>w.getD j 0|some q=>f q:=by
 intro ps
 induction ps with
  |nil=>intro w j _ _;rfl
  |cons q ps ih=>
   intro w j az ax;rw[eN,td]at az;rw[hv,ih (i73 (f q)) j az.2 (276 (by rw[mC];exact ax x d83)),jK];rw[A06 q.1 j]
   ·subst e;have nr:ps.find? (72 (x.1==q.1))=00:=by rw[w_];intro x ai z;exact az.1 (184 x ai 191)
    rw[nr];have:(q.1==q.1)=01:=174;rw[A16];rw[A11];rw[cZ,rz (ax q 237)];rfl
   ·have:(q.1==j)=09:=566;rw[A16];rw[A11];have aG:(i73 (f q)).getD j 0=w.getD j 0:=by rw[cZ,cZ,u_ e]
    rw[aG]
theorem Mc{f:526→Int}:∀(ps:336)(w:10),11 (g84 (f q) w)=218|[],w=>rfl|q::ps,w=>by rw[hv,Mc ps,mC]
theorem U0:∀(ps:336)(a:Int),0<a→(098 (ik q≠0))→0<f86 (s*957) a∧a∣f86 (s*957) a∧098 (ik q∣f86 (s*957) a)
 |[],a,h,_=>⟨h,Int.dvd_refl _,19⟩
 |q::ps,a,h,au=>by
  have af:0<a*957:=Int.mul_pos h (564 (au q 237));obtain⟨i1,i2,va⟩:=U0 ps (a*957) af (276 (au x d83));rw[hv];refine⟨i1,GG (Int.dvd_mul_right ..) i2,333⟩
  cases ai with|head=>exact GG (GG (Int.dvd_natAbs.mpr (Int.dvd_refl _)) (aiu ..)) i2|tail _ ai=>exact va x ai
theorem lcm_pos:∀(l:06)(a:Nat),0<a→645 (0<x)→0<l.foldl GH a∧a∣l.foldl GH a∧l25 (x∣l.foldl GH a)
 |[],a,h,_=>⟨h,UH _,19⟩
 |y::l,a,h,au=>by
  obtain⟨i1,i2,va⟩:=lcm_pos l (GH a y) (Nat.lcm_pos h (au y 237)) (276 (au x d83));rw[hv];refine⟨i1,Cy (Nat.dvd_lcm_left ..) i2,333⟩
  cases ai with|head=>exact Cy (Nat.dvd_lcm_right ..) i2|tail _ ai=>exact va x ai
theorem c2.aiv{a b:336}(h:c2 zF a b)(j:Nat):(a.find? g96=00∧b.find? g96=00)∨d01 (a.find? g96=43∧b.find? g96=270∧zF x y):=h.find (l56 (970 r.1))
theorem c2.mem{R:712}{a:40}{b:522}(h:c2 R a b){x:α}(ai:x∈a):∃y∈b,R x y:=by induction h with|nil=>cases ai|cons r _ ih=>cases ai with|head=>exact⟨_,237,r⟩|tail _ ai=>obtain⟨y,aC,q⟩:=ih ai;exact⟨y,922,q⟩
theorem c2.aiw{a b:336}(h:c2 zF a b):a.map 379=b.map 379:=by induction h with|nil=>rfl|cons r _ ih=>rw[eN,eN,ih,r.1]
theorem aix(rows:99)(n:Nat)(ax:b44 872):∀i,(538 (490).1 (ik q≠0∧q.2.length=n))∧(565 (490).2 872)∧(538 (490).1 (565 (490).2 (819 q.1=0))):=by
 intro i
 induction i with
  |zero=>exact⟨l89,ax,l89⟩
  |succ i ih=>
   obtain⟨af,ak,a6⟩:=ih;show(538 (b05).1 _)∧(565 (b05).2 _)∧(538 (b05).1 (565 (b05).2 _));unfold elim;split
   ·exact⟨af,ak,a6⟩
   ·next J e=>
    have kq:=nq e;have CD:=ak J kq;have ar:750 i≠0:=i72 e;have U1:∀{r:10}{c:Nat},872→611*750 i-793*b10=0→(fq r J i).getD c 0=0:=by intro r c aq hz;unfold fq;rw[(CA _).zero,zC _ 19 03];exact hz
    rw[A20 ?_ ?_]
    ·intro q aw;rw[A85 aw]
     ·rw[A46 aw];obtain⟨fW,fD⟩:=af y aC;rw[A03 ?_ (38 (L8 03) fD)];show(fq y.2 J i).getD y.1 0≠0;unfold fq;rw[Ne,(CA _).zero,zC _ 19 03,a6 y aC J kq,Int.zero_mul,UQ];exact GC fW ar
     ·rw[A78];exact⟨ar,CD⟩
    ·rw[A92];rw[A46 aq];exact 38 (L8 (38 (ak y aC) CD.symm)) (ak y aC)
    ·intro q aw r aq;rw[A46 aq];rw[A85 aw]
     ·rw[B38 aw];refine U1 (ak y aC) ?_;show y.getD x.1 0*_-750 x.1*_=0;rw[a6 x ai y aC,a6 x ai J kq];simp
     ·rw[A78];refine U1 (ak y aC) ?_;show y.getD i 0*_-750 i*_=0;rw[w9];lia
theorem aiy{sp mp:336}(h:c2 zF sp mp)(az:667 (mp.map 379))(ax:l55 (q.1<n))(au:l55 (ik q≠0)){f:Nat}(hf:f<n)(oe:l55 (q.1≠f)):o8 mp f n=solutionFor n sp f:=by
 unfold o8 solutionFor;rw[A11];rw[L5];obtain⟨s1,_,s3⟩:=U0 mp 1 14 au;have te:∀x∈m51 (m59 z.1 0),0<x:=by rw[A74];rw[A84 ai];obtain⟨y,aC,r⟩:=h.mem hz;have:=au y aC;unfold ik at this;rw[←r.1]at this;have:=(203 (r.2.zero z.1)).mpr 246;lia
 obtain⟨t1,_,t3⟩:=lcm_pos (m51 (m59 z.1 0)) 1 14 te;generalize bR:(m51 (m59 z.1 0)).foldl GH 1=T at*;change 0<lZ mp at s1;change l55 (ik q∣lZ mp)at s3;obtain⟨S,aY⟩:∃S:Nat,lZ mp=15 S:=b71 (271 (lZ mp));have gc:0<S:=03;refine(aip t1 gc ?_ ?_ (328 f))
 ·unfold qo;rw[Mc,mC,ph,ba,iP]
 ·intro k;rw[L_];unfold qo;rw[UZ _ _ _ az (330 (s05 (ax q aw)))];rw[A66 (k<n)]
  ·rw[21 aS];rcases h.aiv k with⟨aK,aG⟩|⟨x,y,aK,aG,r⟩
   ·rw[aG,aK];rw[A11];by_cases og:k=f
    ·subst og;rw[cZ,rz f56];simp only[beq_self_eq_true,↓reduceIte,U2,aY];rw[w9]
    ·rw[cZ,u_ (jq og),Md,168];have:(k==f)=09:=by simpa using og
     simp[this]
   ·rw[aG,aK];rw[A11];have aC:=nq aG;have ai:=nq aK;have CF:y.1=k:=i72 aG;have aiz:x.1=k:=i72 aK;have og:(k==f)=09:=by have:=oe y aC;rw[CF]at this;simpa using this
    rw[og];rw[C71];unfold Gf;have iQ:=au y aC;have U3:=s3 y aC;rw[aY]at U3⊢;obtain⟨c,ar⟩:=U3;have zJ:694 k∣15 T:=by have:=t3 _ (143 x ai);rw[aiz]at this;exact Int.natAbs_dvd.mp (s02 246)
    obtain⟨d,hd⟩:=zJ;unfold ik at iQ ar⊢;rw[CF]at iQ ar⊢;have aiA:694 k≠0:=(203 (r.2.zero k)).mpr iQ;rw[ar,UD (691 f),Int.mul_fdiv_cancel_left _ iQ,hd,UD (-694 f),aiB _ aiA,←hd,←ar,hd,ar];obtain⟨_,a,b,aN,aa,tf⟩:=r.2;have g1:=tf k;have g2:=tf f;have key:b*(694 k*691 f)=b*(691 k*694 f):=by have eY:b*(694 k*691 f)=694 k*(b*691 f):=202;have dW:b*(691 k*694 f)=(b*691 k)*694 f:=202;rw[eY,dW,←g1,←g2];ac_rfl
    have aiC:=air aa key;have hx:694 k*d*-(691 f*c)=-((694 k*691 f)*(c*d)):=by rw[U4];congr 1;ac_rfl
    have ip:691 k*c*(-694 f*d)=-((691 k*694 f)*(c*d)):=by rw[Int.neg_mul,U4];congr 1;ac_rfl
    rw[hx,ip,aiC]
  ·rw[134];have nr:mp.find? (58 (q.1==k))=00:=by rw[w_];intro q aw z;have:=ax q aw;rw[191]at this;lia
   rw[nr];rw[A11];rw[cZ,209];simp
 ·unfold qo;rw[UZ _ _ _ az (330 (s05 (ax q aw)))];have nr:mp.find? (58 (q.1==f))=00:=by rw[w_];intro q aw z;exact oe q aw 191
  rw[nr];rw[A11];rw[cZ,rz r25];show lZ mp≠0;lia
theorem aiD:565 e91 (230=36):=by intro r aq;obtain⟨m,_,rfl⟩:=147;unfold fO;rw[ba];rfl
theorem aiE(ps:336)(f:Nat):lX ps f=!(ps.any (g38 f)):=by unfold lX;congr 1;rw[u6];congr 1;funext z;rw[hu];simp only[u3,decide_eq_true_eq,beq_iff_eq];lia
theorem Me(h:51):lx 26=xa s:=by
 have U5:=aAK h;unfold lx xa;rw[A11];generalize GF d50 [] (b73 m18 (r.any (450 (k !=0))))=sp at*;have iQ:=UY e91 36;have gM:=aix e91 36 aiD 36;change Ma _ e53 at iQ;have d1:∀f,(sp.any (g38 f))=(e53).any (g38 f):=by
  intro f;have:=U5.aiw;have aK:(sp.map 379).any (72 (x==f))=(a24 e53).any (72 (x==f)):=by rw[this]
  rw[u6,u6]at aK;exact aK
 have gC:582 d50 (lX e53)=582 d50 (c95 (! sp.any g96)):=by refine Cq (fun f _=>?_);rw[aiE,d1]
 show(582 d50 _).map _=_;rw[gC];refine lz (fun f hf=>?_);obtain⟨f1,f2⟩:=ob.mp hf;refine aiy U5 iQ.az iQ.lt (330 (gM.1 q aw).1) (g4.mp f1) (fun q aw z=>?_);rw[d1]at f2;have:(e53).any (g38 f)=01:=161 q aw r53;rw[this]at f2;cases f2
theorem aiF(h:51):LO 26=il s .weights:=by unfold LO;rw[Me h];show _=0::320 (xa s)::670 (xa s) (429 r);rw[U6]
def rA:06:=[2,3,4,5,7,8,9,0xb]
def rB(sy:cv):99:=016 528
def rC(sy:cv)(x y:06):f89 10:=match d87 704 (! 531 (hc b (fO 75 x y)))with|some b=>some (0,b)|none=>p47 (fun d=>687 (rt e99 (fO 75 x y) d) (d,r))
def rD(sy:cv)(f:06→06→10):10:=match sy.start with|none=>[-6]|some x=>match sy.goal with|none=>[-8]|some y=>f x y
def xd(sy:cv):10:=rD sy (i00 (d51 (rC sy x y) 1 (0::649::z.2)))
def wO(ws:10)(ms:99):Bool:=ms.all (285 (! 555 060 0))
def tg(sy:cv):241 10:=g37 e98 (wO ws 528)
def GI(sy:cv):10:=s03 (tg sy) [1] (0::r)
theorem ahi(h:51)(f:06→06→10)(g:b7→b7→Cm)(u2:∀v w,f02→084=some w→a17 v→a17 w→f 95 460=g v w):rD 26 f=oh s g:=by
 unfold rD oh Gv Cw;rw[108 b91 d57,108 b99 d61]
 cases e:s.start with|none=>rfl|some v=>cases aG:s.goal with|none=>rfl|some w=>exact u2 v w e aG (h.st v e) (h.gl w aG)
theorem U7(s:dt):e91=f26 (285 (fO 60 m75 (292 427))):=s04 ((003).map _=_)
theorem xe{α:272}{p q:935}:921 (645 (p x=q x)→h74 p=h74 q)|[],_=>rfl|a::l,h=>by rw[jK,jK,127 a,xe 849]
theorem U8(h:51):tg 26=xg s:=by unfold tg xg;rw[←LZ];refine xe c23;have tc:=(u7.mp aq).1;unfold wO;rw[U7,GJ,hu,gB,gB];refine 158 (285 (158 n46));rw[A68 m hm];rw[B96];rw[GB 498 tc a10 hU.2.2,Gm,decide_eq_false_iff_not,decide_eq_true_eq];lia
theorem aAL(h:51):GI 26=il s .down:=by unfold GI;rw[U8 h];show _=(s03 (xg s) [1] (0::r));cases xg s<;>rfl
theorem aiG(h:51):∀b∈xa s,d13=36:=by intro b aa;rw[←Me h]at aa;unfold lx at aa;obtain⟨f,_,rfl⟩:=112 aa;unfold o8;rw[zA];unfold qo;rw[Mc,mC,ph];rfl
def g5(s:dt)(v w:b7)(d:Nat):f89 10:=687 (382 (pf d 36) (429 (staysMod s d r&&(801-dv r w)%52 d !=0))) (d,r)
theorem Mf{k:Int}:∀(a b:10),(∀x∈b,x%k=0)→hc a b%k=0|[],b,_=>by simp[hc]|a::as,[],_=>by simp[hc]|a::as,b::bs,h=>by have ih:=Mf as bs 849;have aa:=127 b;unfold hc at ih⊢;rw[aik,w8];have af:k∣a*b:=GG (CG aa) (aiu ..);exact Mg (Mh af (CG ih))
theorem aiH{a b:10}(h:eZ b=09):hc a b=0:=by have hz:∀x∈b,x=0:=276 (nk (100 (by have:eZ b=01:=161 x ai 566;rw[h]at this;cases this)));have:=Mf (k:=0) a b (276 (b27 (hz x ai)));rwa[Int.emod_zero]at this
theorem U9(ws:10)(k:Int):∀ms:99,oa ws (ms.filter eZ) k=oa ws ms k
 |[]=>rfl
 |m::ms=>by
  have ih:=U9 ws k ms;rw[iO];unfold oa at ih⊢
  cases e:eZ m with|true=>rw[101,th,th,ih]|false=>rw[107,th,aiH e,ih];simp
theorem aAM(h:51){w:b7}(a3:l54 (j<36))(hw:i18 (j<36))(d:Nat):687 (rt (rB 26) (fO 60 95 460) d) (d,r)=g5 s v w d:=by
 unfold g5;congr 1;have ld:11 (fO 60 95 460)=36:=by unfold fO;simp
 unfold rt;rw[ld,←LZ];have zK:565 (pf d 36) ((! 531 (hc r (fO 60 95 460)%15 d)&&oa r (rB 26) (15 d))=(staysMod s d r&&(801-dv r w)%52 d !=0)):=by
  rw[A92];have tc:=(u7.mp aq).1;rw[GB 498 tc a3 hw,Bool.and_comm];congr 1
  ·unfold rB;rw[U9];unfold oa staysMod;rw[U7,GJ,hu,gB,gB];refine 158 (285 (158 n46));rw[A68 m hm];rw[B96];rw[GB 498 tc a10 hU.2.2];simp
 rw[xe zK];split
 ·next hz=>symm;rw[w_];rw[A92];rw[←zK r aq];have:=Mf (k:=15 d) r (fO 60 95 460) (276 (081 (gB.mp hz x ai)));rw[102 246];simp
 ·rfl
theorem aiI{k:Int}(aS:0<k)(x:Int):0≤x%k∧x%k<k:=⟨Int.emod_nonneg _ 03,Int.emod_lt_of_pos _ aS⟩
theorem U_{d:Int}(r:10):∀v:b7,(dv m48 v-801)%d=0|[]=>by show(413-0)%d=0;simp|i::v=>by have ih:=U_ (d:=d) r v;rw[GA,GA,GD (f:=72 (x%d)) (Int.zero_emod _)];rw[A50 (b10%d+dv m48 v-(b10+801)=(b10%d-b10)+(dv m48 v-801))];rw[e];refine Mg (Mh ?_ (CG ih));have:=Int.emod_add_mul_ediv b10 d;exact⟨-(b10/d),by rw[U4];lia⟩
theorem Va{w:b7}{d:Nat}:g5 s v w d≠00↔∃r:10,230=36∧(097 (0≤x∧x<15 d))∧(k80 (15 d∣dv r 398-dv r 427))∧¬15 d∣801-dv r w:=by
 unfold g5;rw[Ne,Option.map_eq_none_iff,w_];rw[A04]
 ·intro h;obtain⟨r,aq⟩:=Classical.not_forall.mp h;rw[A81 (Classical.not_imp.mp aq)];have ak:=Classical.not_not.mp ak;rw[hG]at ak;rw[B30 (u7.mp af)];refine⟨r,a,b,764,521⟩
  ·have:=gB.mp ak.1 m hm;exact CG (a02 246)
  ·have:=ak.2;rw[A73 (Mg z)];rw[A47]
 ·rintro⟨r,a,b,c,e⟩h;refine h r (u7.mpr ⟨a,b⟩) ?_;rw[hG];rw[A27 (gB.mpr 764)]
  ·rw[Mg (c m hm)];rfl
  ·simp only[bne_iff_ne,ne_eq];exact e67 (CG z)
theorem Mi{w:b7}{k a b:Nat}(aS:k=a*b)(aN:0<a)(aa:0<b)(ar:∀x:Int,b14∣x→15 b∣x→82∣x)(h:g5 s v w k≠00):g5 s v w a≠00∨g5 s v w b≠00:=by
 obtain⟨r,af,ak,a6,bH⟩:=Va.mp h;have key:∀c:Nat,0<c→c∣k→¬337∣801-dv r w→g5 s v w c≠00:=by
  intro c ar GK aU;have zL:∀x:b7,337∣dv (r.map (·%(c:Int))) x-dv r x:=72 (CG (U_ r x));refine Va.mpr ⟨r.map (·%(c:Int)),f57,333,764,16 (aU ?_)⟩
  ·obtain⟨y,_,rfl⟩:=171;exact aiI 03 y
  ·have fX:=GG (s02 GK) (a6 m hm);have:=Int.dvd_sub (Mh (zL 398) fX) (zL 427);rw[A50 (dv (a55 (x%337) r) 398-dv r 398+(dv r 398-dv r 427)-(dv (a55 (x%337) r) 427-dv r 427)=dv (a55 (x%337) r) 398-dv (a55 (x%337) r) 427)];rw[e]at this;rw[A10]
  ·have:=Mh (Int.dvd_sub z (zL v)) (zL w);rw[A50 (dv (a55 (x%337) r) v-dv (a55 (x%337) r) w-(dv (a55 (x%337) r) v-801)+(dv (a55 (x%337) r) w-dv r w)=801-dv r w)];rw[e]at this;rw[A10]
 by_cases d1:b14∣801-dv r w
 ·by_cases eG:15 b∣801-dv r w
  ·exact 69 (ar _ d1 eG) bH
  ·rw[A09 (key b aa ⟨a,by rw[aS,CH]⟩ eG)]
 ·rw[A17 (key a aN ⟨b,aS⟩ d1)]
theorem aiJ(h:51){w:b7}(a3:l54 (j<36))(hw:i18 (j<36)):rC 26 95 460=partedBy s v w:=by
 unfold rC partedBy;rw[Me h,135];have:d87 (xa s) (! 531 (hc b (fO 60 95 460)))=d87 (xa s) (dv b v !=dv b w):=by refine xe 773;rw[GB 498 (aiG h b aa) a3 hw,hu];simp;lia
 rw[A16]
 cases d87 (xa s) (dv b v !=dv b w)with
  |some b=>rfl
  |none=>
   rw[A11];have aK:p47 (fun d=>687 (rt (rB 26) (fO 60 95 460) d) (d,r))=p47 (g5 s v w):=by congr 1;funext d;exact aAM h a3 hw d
   rw[aK];have aG:(bz (DIVISORS-1)).findSome? (fun d=>687 (382 (pf (d+2) 36) (429 (staysMod s (d+2) r&&(801-dv r w)%52 (d+2)!=0))) (d+2,r))=[2,3,4,5,6,7,8,9,0xa,0xb,12].findSome? (g5 s v w):=rfl;rw[aG];have xh:g5 s v w 2=00→g5 s v w 3=00→g5 s v w 6=00:=578 (nk (575 (by
    rw[A61 (Mi (a:=2) (b:=3) rfl 14 14 l92 c)]
    ·exact z a
    ·exact z b)));have xi:g5 s v w 2=00→g5 s v w 5=00→g5 s v w 0xa=00:=578 (nk (575 (by
    rw[A61 (Mi (a:=2) (b:=5) rfl 14 14 l92 c)]
    ·exact z a
    ·exact z b)));have Mj:g5 s v w 3=00→g5 s v w 4=00→g5 s v w 12=00:=578 (nk (575 (by
    rw[A61 (Mi (a:=3) (b:=4) rfl 14 14 l92 c)]
    ·exact z a
    ·exact z b)));unfold rA;simp only[ti,List.findSome?_nil];generalize g5 s v w 2=gd at*;generalize g5 s v w 3=mD at*;generalize g5 s v w 4=pj at*;generalize g5 s v w 5=pk at*;generalize g5 s v w 6=aAV at*;generalize g5 s v w 7=Vb at*;generalize g5 s v w 8=aAW at*;generalize g5 s v w 9=aAX at*;generalize g5 s v w 0xa=aAY at*;generalize g5 s v w 0xb=aAZ at*;generalize g5 s v w 12=aA0 at*
   cases gd with
    |some z=>rfl
    |none=>
     cases mD with
      |some z=>rfl
      |none=>
       rw[xh rfl rfl]
       cases pj with
        |some z=>rfl
        |none=>
         rw[Mj rfl rfl]
         cases pk with|some z=>rfl|none=>rw[xi rfl rfl]
theorem aiK(h:51):xd 26=il s .parted:=by unfold xd;show _=oh s _;refine ahi h _ _ (s01 ?_);rw[aiJ h a3.2 hw.2];cases partedBy s v w<;>rfl
def hI(ls:06)(rows:30)(x:06)(y:Nat):Nat:=x.foldl (fun y c=>014 a35 y y) y
def apart(ls:06)(rows:30)(k:Nat)(x y:06):Bool:=(943).any (400 (661 p !=hI ls 17 y p))
def jL(sy:cv)(k:Nat)(rows:30):241 Nat:=sy.moves.findIdx? (285 (apart 75 17 k m.l m.r))
def GL(sy:cv)(z:Int):10:=13 (z<1∨3<z) [-7] [0,320 (mE 231 81),320 (582 (mE 231 81) (fun aD=>545 (jL sy 231 aD)))]
def zM(sy:cv)(x y:06):f89 30:=[2,3].findSome? (450 ((g32 a86 (apart 75 aD k x y&&545 (jL sy k aD))).map (fun aD=>(k,aD))))
def GN(sy:cv):10:=rD sy (i00 (d51 (zM sy x y) 1 (0::649::m60)))
def xj(n k:Nat)(x:10):241 30:=let l:=689 n (550 (i*k) k);39 (96==n*k&&l.all (vb k)) (some (363 d8)) 00
def qy(sy:cv)(z:Int)(x:10):10:=13 (z<1∨4<z) [-7] (match xj 81 231 x with|none=>[-0xb]|some aD=>match jL sy 231 aD with|some i=>[1,249]|none=>match sy.start,sy.goal with|some v,some w=>[0,13 (apart 75 aD 231 v w) 1 0]|_,_=>[0,0])
theorem aiL(az:ls.Nodup)(hi:865):ls.idxOf b01=i:=by have h:b01=ls[i]:=165 hi;rw[h];exact List.Nodup.idxOf_getElem az i hi
theorem tj{ls:06}(az:ls.Nodup)(rows:30):∀{w:b7}(_:b89 i)(y:Nat),hI ls 17 392 y=266 w y|[],_,y=>rfl|i::w,h,y=>by show hI ls 17 392 _=266 w _;rw[tj az 17 (d29 (h j e20))];simp only[aiL az (127 i)]
theorem aiM{k:Nat}{f g:240 Nat}:(407 k f !=407 k g)=(943).any (400 (f p !=g p)):=by
 rw[hu,bne_iff_ne,ly];rw[A04]
 ·intro h;refine nk (58 (h (lz (367 (nk (100 (q ⟨p,au,?_⟩)))))));simpa using e
 ·rintro⟨p,au,e⟩h;have:=List.map_inj_left.mp h p au;rw[this]at e;simp at e
theorem Mk(az:ls.Nodup)(rows:30)(k:Nat){w:b7}(a3:668 865)(hw:b89 i):apart ls 17 k 854 392=(rE k 17 v !=rE k 17 w):=by unfold rE;rw[aiM];unfold apart;congr 1;funext p;rw[tj az 17 a3,tj az 17 hw]
theorem Vc{α:272}{p q:935}:921 (645 (p x=q x)→h69 p=h69 q)|[],_=>rfl|a::l,h=>by rw[zx,zx,127 a,Vc 849]
theorem ahj{α β:272}{p:481 β}{f:α→β}:921 ((363 f).findIdx? p=h69 (72 (p (f x))))|[]=>rfl|a::l=>by rw[eN,zx,zx,ahj]
theorem Vd(h:51)(k:Nat)(aD:List Turn):jL 26 k aD=d30 (285 (rE k aD 398 !=rE k aD 427)):=by unfold jL;show(003).findIdx? _=_;rw[ahj];refine Vc 764;have hU:=h.cw m hm;exact Mk 498 aD k a10 hU.2.2
theorem Ve(h:51)(k:Nat)(aD:List Turn):545 (jL 26 k aD)=Ml s k aD:=by rw[Vd h];unfold Ml;rw[hu,Option.isNone_iff_eq_none,T8,gB];refine 158 (285 (158 n48));simp
theorem aiN(h:51)(z:Int):GL 26 z=il s (.turns z):=by
 show _=13 (z<1∨15 POINTS<z) [-7] (0::pb [11 (mE 231 36),turnCount s 231]);unfold GL;show(13 (z<1∨3<z) _ _)=13 (z<1∨3<z) _ _;split
 ·rfl
 ·unfold turnCount;rw[135];have:(fun aD=>545 (jL 26 231 aD))=Ml s 231:=by funext aD;exact Ve h _ aD
  rw[A16];rfl
theorem aiO(h:51):GN 26=il s k28:=by
 unfold GN;show _=oh s _;refine ahi h _ _ (s01 ?_);have:zM 26 95 460=turnedBy s v w:=by
  unfold zM turnedBy;rw[135];have e:∀k,g32 (mE k 36) (apart 60 aD k 95 460&&545 (jL 26 k aD))=g32 (mE k 36) (Ml s k aD&&rE k aD v !=rE k aD w):=by intro k;refine xe (fun aD _=>?_);rw[Ve h,Mk 498 aD k a3.2 hw.2,Bool.and_comm]
  simp only[e];rfl
 rw[A16]
 cases turnedBy s v w with|none=>rfl|some z=>show 0::649::m60=0::pb (z.1::z.2.flatMap (fun t=>t));rw[U6];rfl
theorem aiP(h:51)(z:Int)(x:10):qy 26 z x=il s (.keeps z x):=by
 show _=13 (z<1∨4<z) [-7] _;unfold qy xj;rw[135];split
 ·rfl
 ·rw[A11];by_cases ar:(96==36*231&&(689 36 (550 (i*231) 231)).all (vb 231))=01
  ·rw[198,198];rw[A11];unfold keepsRow;rw[Vd h]
   cases d30 (285 (rE 231 (kS d8 (689 36 (550 (i*231) 231))) 398 !=rE 231 (kS d8 (689 36 (550 (i*231) 231))) 427))with
    |some i=>rfl
    |none=>
     rw[108 b91 d57,108 b99 d61]
     cases aK:s.start with
      |none=>rfl
      |some v=>
       cases aG:s.goal with
        |none=>rfl
        |some w=>
         simp only[wZ];rw[Mk 498 _ _ (h.st v aK).2 (h.gl w aG).2];congr 2;generalize rE 231 _ v=A;generalize rE 231 _ w=B;by_cases q:A=B
         ·subst q;simp
         ·simp[q]
  ·rw[199,199]
end
section
variable{F cm:List (List Nat)}{i j n:Nat}{c_ ea g l ls:List Nat}{cs r ws:List Int}{od α β:Type}{q:Search}{s:dt}{ts:Toks}{v:Word}{m:g0}
theorem Vf{α β:272}(f:α→β)(cs:40):∀n,mz (b57 f) n=(mz cs n).map (kS f)|0=>rfl|n+1=>by show 670 (b57 f) _=(i15 _).map _;rw[LQ,Ue,Vf f cs n];congr 1;funext a;rw[gP,gP];rfl
theorem Mm(k:Nat):∀n,mE k n=dJ 061 n:=by
 intro n;rw[zy]
 induction n with|zero=>rfl|succ n ih=>show 670 061 _=670 061 _;rw[ih]
section
variable[BEq α][n26]
def iq(r:40)(q:α):40:=13 (p40 q) r (r++[q])
def rF(f:α→40)(l:40):40:=(g06).foldl iq l
def pn(f:α→40):240 (40→40)|0,l=>l|n+1,l=>pn f n (rF f l)
inductive jM(f:α→40)(l:40):92 α|here{x:_}:x∈l→jM f l x|step{x y:_}:jM f l x→y∈f x→jM f l y
theorem aiQ{r:40}{q x:α}:x∈iq r q↔x∈r∨x=q:=by
 unfold iq;split
 ·next h=>
  have:=xk.mp h;rw[A04]
  ·exact aV
  ·rintro(h|rfl)
   ·exact h
   ·rw[A10]
 ·rw[e4,du]
theorem CI:∀(s r:40){x:α},x∈g50 r↔x∈r∨x∈s|[],r,x=>19|q::s,r,x=>by rw[hv,CI s,aiQ,ed,or_assoc]
theorem aiR{r:40}{q:α}(h:r.Nodup):667 (iq r q):=by
 unfold iq;split
 ·exact h
 ·next aw=>rw[Mb];refine⟨h,19,fun a aN b aa=>?_⟩;rw[86 aa];rw[A91];exact aw (xk.mpr aN)
theorem Mn:∀(s r:40),r.Nodup→667 (g50 r)|[],r,h=>h|q::s,r,h=>Mn s _ (aiR h)
theorem Vg:∀(s r:40),(g50 r=r∧∀x∈s,x∈r)∨230<11 (g50 r)
 |[],r=>.inl (119 19)
 |q::s,r=>by
  rw[hv];have mono:∀(s r:40),230≤11 (g50 r):=by
   intro s
   induction s with|nil=>intro r;exact 64|cons q s ih=>intro r;rw[hv];refine cX ?_ (ih _);unfold iq;split<;>simp
  rw[A39 (p40 q=01)]
  ·have e:iq r q=r:=by unfold iq;rw[114]
   rw[e];rw[D75 (Vg s r)]
   ·refine .inl ⟨af,333⟩
    cases ai with|head=>exact xk.mp h|tail _ ai=>exact ak x ai
   ·rw[A09 af]
  ·have e:iq r q=r++[q]:=by unfold iq;rw[125]
   rw[e];refine .inr (jN ?_ (mono s _));simp
theorem Vh{f:α→40}{l:40}(h:rF f l=l):∀n,pn f n l=l|0=>rfl|n+1=>by show pn f n (rF f l)=l;rw[h];exact Vh h n
theorem Vi{f:α→40}{vc:40}:m91 (645 (jM f vc x)→∀x∈pn f n l,jM f vc x)
 |0,l,h=>h
 |n+1,l,h=>Vi n (rF f l) (276 (by
  rw[B58 ((CI _ _).mp ai)]
  ·exact h x ai
  ·obtain⟨y,aC,CJ⟩:=ni.mp ai;exact .step (h y aC) CJ))
theorem Vj{f:α→40}:m91 (l25 (x∈pn f n l))|0,l,x,h=>h|n+1,l,x,h=>Vj n (rF f l) x ((CI _ _).mpr a65)
theorem Vk{f:α→40}{N:Nat}(U:92 α)(vd:∀x,U x→∀y∈f x,U y)(GO:∀l:40,c75 (645 (U x)→63≤N)):m91 (c75 (645 (U x)→N<n+63→∀x∈pn f n l,∀y∈f x,y∈pn f n l))
 |0,l,az,ax,aU=>564 (GO l az ax)
 |n+1,l,az,ax,aU=>by
  have tm:∀x∈rF f l,U x:=276 (by
   rw[B58 ((CI _ _).mp ai)]
   ·exact ax x ai
   ·obtain⟨y,aC,CJ⟩:=ni.mp ai;exact vd y (ax y aC) x CJ);rw[D75 (Vg g06 l)]
  ·have e:rF f l=l:=af;show∀x∈pn f n (rF f l),∀y∈f x,y∈pn f n (rF f l);rw[e,Vh e];intro x ai y aC;exact ak y (ni.mpr ⟨x,ai,aC⟩)
  ·exact Vk U vd GO n (rF f l) (Mn _ _ az) tm (a45 N (n+11 (Mo iq l g06)))
theorem Vl{f:α→40}{N:Nat}(U:92 α)(vd:∀x,U x→∀y∈f x,U y)(GO:∀l:40,c75 (645 (U x)→63≤N)){x0:α}(h0:U x0){x:α}:x∈pn f N [x0]↔jM f [x0] x:=by
 rw[A04]
 ·exact Vi N [x0] (276 (.here ai)) x
 ·intro h
  induction h with|here ai=>exact Vj N [x0] _ ai|step _ aC ih=>exact Vk U vd GO N [x0] 19 (276 (by rw[86 ai];exact h0)) 19 _ ih _ aC
end
theorem Mp:m96 (c75 (645 (x<n)→63≤n))
 |0,l,_,h=>by cases l with|nil=>exact 64|cons a r=>exact 69 (127 a) a91
 |n+1,l,az,h=>by
  have af:=Mp n (f45 (72 (x !=n))) (az.filter _) (276 (by
   obtain⟨a,b⟩:=ob.mp ai;have:=h x a;have:x≠n:=by simpa using b
   lia));have ak:63≤11 (f45 (72 (x !=n)))+1:=by
   clear af h
   induction l with
    |nil=>simp
    |cons a r ih=>
     rw[td]at az;have:=ih az.2;rw[iO];rw[A06 a n]
     ·subst e;have:r.filter (72 (x !=a))=r:=List.filter_eq_self.mpr (276 (by simp only[bne_iff_ne];rintro rfl;exact az.1 ai));rw[142,this];simp
     ·rw[21 566];simp only[dR];lia
  lia
theorem aiS(n:Nat)(l:035)(az:l.Nodup)(h:∀z∈l,z.1<n∧z.2<n):63≤n*n:=by
 have:=Mp (n*n) (363 (16 (z.1*n+z.2))) ?_ ?_
 ·rwa[ba]at this
 ·rw[List.Nodup,Mq];refine List.Pairwise.imp_of_mem ?_ az;intro a b aN aa d9 e;apply d9;have af:=h a aN;have ak:=h b aa;have aU:0<n:=03;have aK:a.1=b.1:=by have:(a.1*n+a.2)/n=(b.1*n+b.2)/n:=109 (·/n) e;rw[CH a.1,CH b.1,aiT aU,aiT aU,aiU af.2,aiU ak.2]at this;lia
  have aG:a.2=b.2:=by rw[aK]at e;lia
  exact aiV aK aG
 ·rw[A74];rw[A84 ai];have:=h z hz;have:z.1*n+n≤n*n:=by have:(z.1+1)*n≤n*n:=CK _ 183;rw[pq,pv]at this;exact this
  lia
structure xm(w:Nat)(m:rG):04 where
 row:∀r∈m.next,230=w∧h70 (q<403)
theorem zN{w:Nat}{m:rG}(h:xm w m){q:Nat}(aw:q<403)(hi:i<w):11 851=w∧(851).getD i 0<403:=by have e:851=m.next[q]:=165 aw;rw[B30 (h.row _ (ko aw))];rw[e];rw[A03 a (b _ ?_)];rw[cZ,193];exact 141
theorem rH{w:Nat}{m:rG}(h:xm w m):p45 ((668 (i<w))→q<403→gk m q v<403)|[],q,_,aw=>aw|i::v,q,a3,aw=>rH h (v:=v) (d29 (a3 j e20)) (zN h aw (a3 i 237)).2
theorem Mr(m:rG)(q:Nat)(v:b7)(i:Nat):gk m q (v++[i])=(681 (gk m q v)).getD i 0:=by unfold gk;rw[s7];rfl
theorem Vm(m:rG):∀n l,comeTo m n l=pn m86 n l|0,l=>rfl|n+1,l=>Vm m n _
theorem Vn(m:rG):∀n l,pairsFrom m n l=pn (m46 (681 z.1) (681 z.2)) n l|0,l=>rfl|n+1,l=>Vn m n _
theorem Vo{w:Nat}{m:rG}(h:xm w m){q y:Nat}(aw:q<403)(aC:y∈851):∃i,i<w∧y=(851).getD i 0∧y<403:=by have e:851=m.next[q]:=165 aw;rw[B30 (h.row _ (ko aw))];rw[e]at aC⊢;rw[A86 aC];refine⟨i,by rw[←a];exact 159 hi,?_,b y aC⟩;rw[cZ,hi];rfl
theorem aiW{w:Nat}{m:rG}(h:xm w m)(h0:0<403){q:Nat}:q∈statesOf m↔∃v:b7,(668 (i<w))∧q=gk m 0 v:=by
 unfold statesOf;rw[Vm,Vl (58 (q<403)) (n55 (by obtain⟨_,_,_,z⟩:=Vo h ai aC;exact z)) (fun l az ax=>Mp _ l az ax) h0];rw[A04]
 ·intro c
  induction c with
   |here ai=>rw[86 ai];exact⟨[],19,rfl⟩
   |step _ aC ih=>
    rw[D74];obtain⟨i,hi,e,_⟩:=Vo h (rH h a3 h0) aC;refine⟨v++[i],n41,by rw[Mr];exact e⟩;rw[B40 bS]
    ·exact a3 j bS
    ·rw[86 bS];exact hi
 ·rintro⟨v,a3,rfl⟩;have:∀(v:b7)(q:Nat),q<403→(668 (i<w))→jM m86 [0] q→jM m86 [0] (gk m q v):=by
   intro v
   induction v with|nil=>intro q _ _ c;exact c|cons i v ih=>intro q aw a3 c;have na:=zN h aw (a3 i 237);refine ih _ na.2 (d29 (a3 j e20)) (.step c ?_);show(851).getD i 0∈851;have eY:i<11 851:=364 na.1 (a3 i 237);generalize 851=R at eY⊢;rw[cZ,cA eY];exact 141
  exact this v 0 h0 a3 (.here 19)
theorem aiX{a b:06}{z:916}(h:z∈a.zip b):∃i,i<733∧i<d13∧z=(e60 i,792):=by rw[A86 h];have ax:=159 hi;rw[aiY]at ax;refine⟨i,03,03,?_⟩;rw[oi]at hi;obtain⟨dh,e⟩:=hi;rw[←e,aiZ,cZ,cZ,193,193];rfl
theorem ai0{a b:06}(aN:i<733)(aa:i<d13):(e60 i,792)∈a.zip b:=by
 have:(a.zip b)[i]?=some (e60 i,792):=by rw[cA (by rw[aiY];lia),aiZ,cZ,cZ,cA aN,cA aa];rfl
 exact cG 246
theorem ai1{w:Nat}{m:rG}(h:xm w m){p q:Nat}(au:p<403)(aw:q<403):isBelow m p q=01↔∀v:b7,(668 (i<w))→nt m (gk m p v)=01→nt m (gk m q v)=01:=by
 unfold isBelow;have key:∀z,z∈pairsFrom m (403*403) [(p,q)]↔∃v:b7,(668 (i<w))∧z=(gk m p v,gk m q v):=by
  intro z;have cz:∀(x:916),(x.1<403∧x.2<403)→∀y∈(681 x.1).zip (681 x.2),∃i,i<w∧y=((681 x.1).getD i 0,(681 x.2).getD i 0):=by intro x ai y aC;obtain⟨i,af,ak,e⟩:=aiX aC;have aK:681 x.1=m.next[x.1]:=165 ai.1;have:=(h.row _ (ko ai.1)).1;rw[←aK]at this;exact⟨i,03,e⟩
  rw[Vn,Vl (fun z:Nat×Nat=>z.1<403∧z.2<403) (n55 (n90 (cz x ai y aC) ⟨(zN h ai.1 hi).2,(zN h ai.2 hi).2⟩)) (fun l az ax=>aiS _ l az ax) ⟨au,aw⟩];rw[A04]
  ·intro c
   induction c with
    |here ai=>rw[86 ai];exact⟨[],19,rfl⟩
    |step _ aC ih=>
     rw[D74];rw[B74 (cz _ ⟨rH h a3 au,rH h a3 aw⟩ _ aC)];refine⟨v++[i],n41,by rw[Mr,Mr]⟩;rw[B40 bS]
     ·exact a3 j bS
     ·rw[86 bS];exact hi
  ·rintro⟨v,a3,rfl⟩;have:∀(v:b7)(a b:Nat),a<403→b<403→(668 (i<w))→jM (m46 (681 z.1) (681 z.2)) [(p,q)] (a,b)→jM (m46 (681 z.1) (681 z.2)) [(p,q)] (gk m a v,gk m b v):=by
    intro v
    induction v with|nil=>intro a b _ _ _ c;exact c|cons i v ih=>intro a b aN aa a3 c;have hi:=a3 i 237;have cR:=zN h aN hi;have dS:=zN h aa hi;exact ih _ _ cR.2 dS.2 (d29 (a3 j e20)) (.step c (ai0 (l15 cR.1) (l15 dS.1)))
   exact this v p q au aw a3 (.here 19)
 rw[gB];rw[A04]
 ·intro dQ v a3 a4;have:=dQ _ ((key _).mpr (714 v a3));simp only[a4,Vp,Cv]at this;rw[A10]
 ·intro dQ z hz;rw[C32 ((key z).mp hz)];have:=dQ v a3
  cases e:nt m (gk m p v)with|false=>simp|true=>simp[this e]
theorem Vq{w:Nat}{m:rG}(h:xm w m)(h0:0<403){v:ez}(ax:∀i∈v.left,i<w)(aq:∀i∈v.right,i<w):jr m v=01↔∀u:b7,(∀i∈u,i<w)→(l53=01→u=[])→∀x:b7,(∀i∈x,i<w)→(v.last=01→x=[])→nt m (gk m (gk m (gk m 0 u) 085) x)=01→nt m (gk m (gk m (gk m 0 u) b29) x)=01:=by
 unfold jr;rw[gB];have Vr:∀q,(q∈39 l53 [0] (statesOf m))↔d28 ((∀i∈u,i<w)∧(l53=01→u=[])∧q=gk m 0 u):=by
  intro q;by_cases hf:l53=01
  ·rw[21 hf,du];rw[A04]
   ·rw[A91];exact⟨[],19,524,rfl⟩
   ·rw[D71];rw[bp hf];rfl
  ·rw[23 hf,aiW h h0];rw[A04]
   ·rintro⟨u,bp,e⟩;exact⟨u,bp,16 (69 z hf),e⟩
   ·rintro⟨u,bp,_,e⟩;exact⟨u,bp,e⟩
 have Vs:∀q,q<403→((39 v.last (! nt m (gk m q 085)||nt m (gk m q b29)) (isBelow m (gk m q 085) (gk m q b29)))=01↔∀x:b7,(∀i∈x,i<w)→(v.last=01→x=[])→nt m (gk m (gk m q 085) x)=01→nt m (gk m (gk m q b29) x)=01):=by
  intro q aw;by_cases tn:v.last=01
  ·rw[21 tn];rw[A04]
   ·intro a x _ ai g;rw[ai tn]at g⊢;change nt m (gk m q 085)=01 at g;show nt m (gk m q b29)=01;rw[g]at a;simpa using a
   ·intro a;have:=a [] 19 524;change nt m (gk m q 085)=01→nt m (gk m q b29)=01 at this
    cases e:nt m (gk m q 085)with|false=>simp|true=>simp[this e]
  ·rw[23 tn,ai1 h (rH h ax aw) (rH h aq aw)];rw[A04]
   ·intro a x ai _ g;exact a x ai g
   ·intro a x ai g;exact a x ai (16 (69 z tn)) g
 rw[A04]
 ·intro a u bp kT;have:=a _ ((Vr _).mpr ⟨u,bp,kT,rfl⟩);exact(Vs _ (rH h bp h0)).mp 246
 ·intro a q aw;obtain⟨u,bp,kT,rfl⟩:=(Vr q).mp aw;exact(Vs _ (rH h bp h0)).mpr (a u bp kT)
def dy(w n:Nat)(l:06):30:=689 w (c15 n (q*w+i))
theorem ai2{w:Nat}{q:Nat}(hi:i<w)(aw:q<n):((dy w n l).getD i []).getD q q=834 (q*w+i):=by
 unfold dy;have e:(689 w (c15 n (q*w+i))).getD i []=c15 n (q*w+i):=by rw[cZ,cK,s6 hi];rfl
 rw[e,cZ,cK,s6 aw];rfl
theorem xn(w:Nat):m96 (11 073=n)|0,_=>rfl|n+1,l=>by show 11 (_::cut w n _)=_;rw[dR,xn]
theorem Ms(w:Nat):∀(n:Nat)(l:06)(q:Nat),q<n→(073).getD q []=222 (735 (q*w)) w|0,_,_,h=>69 h a91|n+1,l,0,_=>by show l.take w=_;simp|n+1,l,q+1,h=>by show(cut w n (735 w)).getD q []=_;rw[Ms w n _ q 03,rI,pq,pv,tp w]
theorem ai3{w:Nat}{q:Nat}(aw:q<n)(hi:i<w):((073).getD q []).getD i 0=834 (q*w+i):=by rw[Ms w n l q aw,cZ,ai4,21 hi,ai5,cZ]
theorem Mt{q w:Nat}(aw:q<n)(hi:i<w):q*w+i<n*w:=q06 ((q+1)*w≤n*w) (CK _ aw)
theorem Vt{w:Nat}(ax:63=n*w)(aa:e90 q n):xm w (gD n w l g):=by
 refine⟨c23⟩;have aq:r∈073:=aq;obtain⟨q,aw⟩:=rx aq;have Mu:q<n:=by have:=159 aw;rwa[xn]at this
 have e:r=222 (735 (q*w)) w:=by rw[←Ms w n l q Mu,cZ,aw];rfl
 show 230=w∧h70 (q<11 073);rw[xn,e];rw[A03 ?_ (276 (aa x (u0 (qp ai))))];rw[eS,fV,ax];have:(q+1)*w≤n*w:=CK _ Mu;rw[pq,pv]at this;lia
theorem LB(h:i<63):834 i∈l:=by rw[cZ,cA h];exact 141
theorem lB{n w:Nat}{l g:06}(ax:63=n*w)(aa:e90 q n):p45 ((668 (i<w))→q<n→cP (dy w n l) v q=gk (gD n w l g) q v)|[],q,_,_=>rfl|i::v,q,a3,aw=>by have hi:=a3 i 237;show cP (dy w n l) v (((dy w n l).getD i []).getD q q)=gk (gD n w l g) (((073).getD q []).getD i 0) v;rw[ai2 hi aw,ai3 aw hi];exact lB ax aa (d29 (a3 j e20)) (aa _ (LB (n85 (Mt aw hi))))
theorem xo{w:Nat}(q:Nat):nt (gD n w l g) q=(747 q==1):=by
 show(g.map (506 (b==1))).getD q 09=_;rw[cZ,cK,cZ]
 cases g[q]? with|none=>rfl|some b=>rfl
def CL(rows:30)(ms:699)(g:06):04:=∃m∈ms,d28 ((b88 i)∧(980=01→u=[])∧∃x:b7,(∀i∈x,i<666)∧(669=01→x=[])∧g=[266 x (266 398 (266 u 0)),266 x (266 427 (266 u 0))])
def tq(c_:06)(cm:30):Bool:=cm.all (563 (!((643 (747 0)==1)&&(643 (747 1)==0))))
theorem Vu{w:Nat}(h0:0<n)(ax:63=n*w)(aa:e90 q n)(a4:∀x∈c_,x=0∨x=1)(gl:k48=n){ms:699}(hm:k88 ((p46 (i<w))∧(∀i∈m.right,i<w)))(Vv:∀g,g∈cm↔CL (dy w n l) ms g):tq c_ cm=ms.all (jr (gD n w l c_)):=by
 have ok:=Vt (g:=c_) ax aa;have nl:(gD n w l c_).next.length=n:=xn w n l;have cl:11 (dy w n l)=w:=by unfold dy;simp
 have lt:p45 ((668 (i<w))→q<n→cP (dy w n l) v q<n):=fun{v q:_}a3 aw=>364 (lB (g:=c_) ax aa a3 aw) (Nat.lt_of_lt_of_eq (rH ok a3 (by rw[nl];exact aw)) nl);have two:∀q,q<n→((643 q==0)=!(643 q==1)):=330 (by rcases a4 _ (LB (by rw[gl];exact aw))with e|e<;>rw[e]<;>rfl);rw[hu,tq,gB,gB];rw[A04]
 ·intro h m ve;have oj:=hm m ve;rw[Vq ok s00 oj.1 oj.2];intro u bp kT x ai zB Vw;have i5:cP (dy w n l) u 0<n:=lt bp h0;have CN:=lt oj.1 i5;have vf:=lt oj.2 i5;have:=h _ ((Vv _).mpr ⟨m,ve,u,by rw[cl];exact bp,kT,x,by rw[cl];exact ai,zB,rfl⟩);simp only[Mv,Mw]at this;rw[A73 (two _ (lt ai vf))];rw[xo,←lB (g:=c_) ax aa bp h0,←lB (g:=c_) ax aa oj.1 i5,←lB (g:=c_) ax aa ai CN]at Vw;rw[xo,←lB (g:=c_) ax aa bp h0,←lB (g:=c_) ax aa oj.2 i5,←lB (g:=c_) ax aa ai vf];rw[Vw]at this;simpa using this
 ·intro h g ai6;obtain⟨m,ve,u,bp,kT,x,ai,zB,rfl⟩:=(Vv g).mp ai6;rw[cl]at bp ai;have oj:=hm m ve;have i5:cP (dy w n l) u 0<n:=lt bp h0;have CN:=lt oj.1 i5;have vf:=lt oj.2 i5;have:=(Vq ok s00 oj.1 oj.2).mp (h m ve) u bp kT x ai zB;rw[xo,xo,←lB (g:=c_) ax aa bp h0,←lB (g:=c_) ax aa oj.1 i5,←lB (g:=c_) ax aa ai CN,←lB (g:=c_) ax aa oj.2 i5,←lB (g:=c_) ax aa ai vf]at this;simp only[Mv,Mw];rw[two _ (lt ai vf)]
  cases e:(643 (cP (dy w n l) x (cP (dy w n l) 398 (cP (dy w n l) u 0)))==1)with|false=>simp|true=>rw[this e];simp
def xp(s:dt)(n:Nat)(v w:b7):911:=(600 n 896).findSome? (973 (13 (778=044) 00 ((382 (dJ [0,1] n) (563 ((913 v 0==1)&&(913 w 0==0)&&019 l g))).map (563 (l++g)))))
def tr(s:dt)(v w:b7):f89 06:=(bz i51).findSome? (450 (g61 (xp s (k+1) v w) (k+1,x)))
def Mx(s:dt):10:=oh s (fun v w=>d51 (tr s v w) 1 (0::649::b6 z.2))
theorem CO(f:α→β)(cs:40)(n:Nat):dJ (b57 f) n=(043).map (kS f):=by rw[zy,zy,Vf]
theorem zO(k n:Nat):(pf k n).map (kS hT)=600 k n:=by rw[LZ,←CO];congr 1;unfold b6;rw[gP];refine 38 (lz (k36 ?_)) (CP _);simp
theorem xq{k:Nat}{r:06}(h:r∈600 k n):872∧097 (x<k):=by rw[←zO]at h;rw[A84 h];rw[B30 (u7.mp hz)];rw[A03 (by simpa using a) 333];rw[A46 ai];have:=b y aC;lia
theorem GP{α β:272}{f g:α→241 β}:921 (645 (f x=g x)→d31 f=d31 g)|[],_=>rfl|a::l,h=>by rw[ti,ti,127 a,GP 849]
theorem zP{α β od:272}{f:α→241 β}{g:β→od}:921 ((d31 f).map g=d31 (72 ((f x).map g)))
 |[]=>rfl
 |a::l=>by
  rw[ti,ti]
  cases f a with|none=>exact zP|some b=>rfl
theorem Vx(w:Nat):m96 (63=n*w→540 073=l)|0,l,h=>by rw[Nat.zero_mul]at h;rw[u5.mp h];rfl|n+1,l,h=>by show 540 (l.take w::cut w n (735 w))=l;rw[qs,Vx w n (735 w) (by rw[fV,h,pq];lia),om]
theorem ai7{w:Nat}(ax:63=n*w)(a4:∀x∈g,x=0∨x=1):CQ (gD n w l g)=44::b6 (l++g):=by
 unfold CQ;show pb (11 073::670 073 (429 r)++(g.map (506 (b==1))).map (506 (13 b 1 0)))=_;rw[xn,U6,Vx w n l ax,gP];have:g.map ((fun b:Bool=>13 b 1 0)∘506 (b==1))=g:=by refine 38 (lz 333) (CP _);rcases a4 x ai with e|e<;>rw[e]<;>rfl
 rw[A16];rfl
theorem ai8(s:dt)(m:rG)(v w:b7):545 (CR s m v w)=(lC m v&&f62 m&&! lC m w):=by
 unfold CR
 cases lC m v with
  |false=>rfl
  |true=>
   simp only[Vp,l0,↓reduceIte,w5]
   cases e:d30 (72 (! jr m x))with
    |some i=>
     have:f62 m=09:=by cases d1:f62 m with|false=>rfl|true=>obtain⟨af,ak,_⟩:=ahM.mp e;rw[gB.mp d1 _ (ko af)]at ak;cases ak
     rw[A16];rfl
    |none=>have:f62 m=01:=gB.mpr (276 (q97 (T8.mp e x ai)));rw[A16];rw[B03 (lC m w)]
theorem ai9{w:b7}(a3:a29 i)(hw:f59 (i<36))(h0:0<n):(382 (machinesOf n 36) (285 (lC m v&&! lC m w&&545 (CR s m v w)))).map CQ=g61 (xp s n v w) (44::b6 x):=by
 unfold machinesOf xp;rw[List.find?_flatMap,←zO,List.findSome?_map,zP,zP];refine GP (fun My Mz=>?_);have Vy:My.map hT∈600 n 896:=m22 My Mz rfl;obtain⟨ax,aa⟩:=xq Vy;rw[B96];generalize My.map hT=l at ax aa Vy;rw[aja];have aG:dJ [0,1] n=(pf 2 n).map (kS hT):=by rw[zO];rfl
 rw[aG,aja];have pr:∀iR∈pf 2 n,((285 (lC m v&&! lC m w&&545 (CR s m v w)))∘563 (gD n 36 l (g.map hT))) iR=(! 29 (778=044)&&(((638).getD 778 0==1)&&((638).getD 044 0==0)&&019 l 638)):=by
  intro iR MA;have xr:638∈600 2 n:=m22 iR MA rfl;obtain⟨gl,pw⟩:=xq xr;rw[B96];generalize 638=g at gl pw;rw[ai8];unfold lC;rw[←lB (g:=g) ax aa a3 h0,←lB (g:=g) ax aa hw h0,xo,xo];have lt:044<n:=by rw[lB (g:=g) ax aa hw h0];have:=rH (Vt (g:=g) ax aa) hw (q:=0) (by show 0<11 (cut _ n l);rw[xn];exact h0);rw[A73 (88 ((gD n 36 l g).next.length=n) (xn ..))];rw[A10]
  have hz:=pw _ (LB (l:=g) (i:=044) (by rw[gl];exact lt));generalize di:778=A;generalize fY:044=B at hz;have two:(747 B==0)=!(747 B==1):=by
   rcases Nat.lt_succ_iff_lt_or_eq.mp hz with e|e
   ·have:747 B=0:=03;rw[A16];rfl
   ·rw[e];rfl
  rw[two];rw[A06 A B]
  ·subst e;rw[102 rfl];cases(747 A==1)<;>simp
  ·rw[132];cases(747 A==1)<;>cases(747 B==1)<;>simp
 rw[xe pr];rw[A06 778 044]
 ·rw[155,190];have:382 (pf 2 n) (fun iR=>(! 01&&(((638).getD 778 0==1)&&((638).getD 044 0==0)&&019 l 638)))=00:=by rw[w_];intro x _;simp
  rw[A16];rfl
 ·rw[148,132];simp only[ajb,w5];show _=((382 (pf 2 n) _).map _|>.map _).map _
  cases gC:382 (pf 2 n) (fun iR=>(((638).getD 778 0==1)&&((638).getD 044 0==0)&&019 l 638))with|none=>simp only[GQ];rw[show 382 (pf 2 n) ((563 ((913 v 0==1)&&(913 w 0==0)&&019 l g))∘kS hT)=00 from gC];rfl|some iR=>rw[show 382 (pf 2 n) ((563 ((913 v 0==1)&&(913 w 0==0)&&019 l g))∘kS hT)=some iR from gC];have MA:=nq gC;have xr:638∈600 2 n:=m22 iR MA rfl;obtain⟨gl,pw⟩:=xq xr;show some (CQ (gD n 36 l 638))=some (44::b6 (l++638));rw[ai7 ax (276 (564 (pw x ai)))]
theorem ajc(h:51):Mx s=il s .seek:=by
 unfold Mx;show oh s _=oh s _;unfold oh Gv
 cases aR:s.start with
  |none=>rfl
  |some v=>
   rw[A11];unfold Cw
   cases pa:s.goal with
    |none=>rfl
    |some w=>
     have a3:=(h.st v aR).2;have hw:=(h.gl w pa).2;show(d51 (tr s v w) 1 (0::649::b6 z.2))=(o87 (soughtBy s v w) [1] (0::CQ m));have key:(soughtBy s v w).map CQ=g64 (tr s v w) (649::b6 z.2):=by unfold soughtBy tr;rw[zP,zP];refine GP (fun k _=>?_);rw[ai9 a3 hw (Nat.succ_pos k),Uh];rfl
     cases aK:soughtBy s v w with
      |none=>
       rw[aK]at key
       cases aG:tr s v w with|none=>rfl|some z=>rw[aG]at key;cases key
      |some m=>
       rw[aK]at key
       cases aG:tr s v w with|none=>rw[aG]at key;cases key|some z=>rw[aG]at key;have:=cI key;rw[A11];rw[A16]
def sT(l x:06):241 Nat:=382 (bz e80) (400 (550 p 63==l))
def iS(sy:cv)(x:06):911:=sy.moves.findSome? (285 (b95 (sT m.l x) 719))
def fE(n:Nat)(w:06):04:=f59 (i<n)
theorem ajd(az:ls.Nodup){l w:b7}(ax:904 l)(hw:904 w):sT (370 l) 392=382 (bz (218+1)) (400 (29 (j26=l))):=by unfold sT;rw[eA,eA];refine xe (fun p _=>?_);rw[←Cj,←Gg,hu,beq_iff_eq,decide_eq_true_eq];exact LP az (T7 hw) ax
theorem Vz{α β:272}{p:92 α}[DecidablePred p]{f:α→β}:921 ((d31 (72 (942 (p x) (f x))))=(h74 (72 (29 (p x)))).map f)
 |[]=>rfl
 |a::l=>by
  rw[ti,jK];rw[A39 (p a)]
  ·rw[114,188];rfl
  ·rw[125,113 h];exact Vz
theorem VA{α β od:272}{f:β→241 od}{g:α→β}:921 ((363 g).findSome? f=d31 (72 (f (g x))))|[]=>rfl|a::l=>by rw[eN,ti,ti,VA]
theorem aje(h:51){w:b7}(hw:454 w):iS 26 460=(hy s w).map l64:=by unfold iS hy;show(003).findSome? _=_;rw[VA,zP];refine GP 764;rw[A68 m hm];rw[Vz];show(sT m75 460).map _=_;rw[ajd 498 a10 hw,Uh];congr 1;funext p;exact Cn 60 m w p
theorem MB{w:b7}(e:hy s w=54):∃m∈s.moves,∃p,p≤218∧m24=398∧v=g76++(427++g51 a09):=by
 unfold hy at e;obtain⟨m,hm,aG⟩:=VB e;obtain⟨p,au,cp⟩:=VB aG;have au:=154;split at cp
 ·next ar=>exact⟨m,hm,p,03,ar,129 cp⟩
 ·cases cp
theorem GR(ws:10)(v w:b7):615 (v++w)=615 v+615 w:=by unfold dv;rw[s7,Gz];rfl
theorem ajf(ws:10){w l:b7}{p:Nat}(e:j26=l):615 w=615 g76+(615 l+615 (g51 63)):=by
 have:w=g76++(l++g51 63):=by have ak:=om 63 997;rw[e]at ak;rw[ak,om]
 conv=>lhs;rw[this]
 rw[GR,GR]
structure l2(s:dt)(ws:10):04 where
 pos:∀i,0≤c18 i∧c18 i≤3
 b1:k80 (dv ws 427<dv ws 398)
theorem ajg(e:xg s=some ws):562:=by
 unfold xg at e;have af:=u7.mp (nq e);have ak:=zG e;rw[A03 (425 ?_) (k41 (081 (gB.mp ak m hm)))];rw[cZ]
 cases hg:ws[i]? with|none=>exact⟨14,14⟩|some x=>have:=af.2 x (cG hg);exact⟨183,636 x 3⟩
theorem MC{ws:10}(h:∀i,0≤c18 i∧c18 i≤3):∀w:b7,0≤615 w∧615 w≤3*218|[]=>⟨VC 0,VC 0⟩|i::w=>by have ih:=MC h w;have:=h i;rw[GA,dR];lia
theorem ajh(f:562){w:b7}(e:hy s w=54):615 v<615 w:=by obtain⟨m,hm,p,_,af,rfl⟩:=MB e;rw[ajf ws af,GR,GR];have:=f.b1 m hm;lia
def js(ws:10)(w:b7):Nat:=271 (615 w)
theorem GS(f:562){w:b7}(e:hy s w=54):js ws v<788:=by have:=ajh f e;have:=(MC f.pos v).1;unfold js;lia
theorem VD(h:51){w:b7}(hw:454 w)(e:hy s w=54):454 v:=by
 obtain⟨m,hm,p,_,af,rfl⟩:=MB e;intro i hi;rw[A68 m hm];rcases 362 hi with hi|hi
 ·exact hw i (qp hi)
 ·rcases 362 hi with hi|hi
  ·exact hU.2.2 i hi
  ·exact hw i (u0 (u0 hi))
theorem VE(h:51)(f:562){w:b7}(e:hy s w=54):734+12*js ws v≤218+12*788:=by have ak:=GS f e;obtain⟨m,hm,p,au,af,rfl⟩:=MB e;rw[A68 m hm];have:=wX au af;have dW:=hU.2.1;rw[cn,cn,eS,fV,fV];lia
def qk(s:dt):240 (b7→List b7)|0,w=>[w]|n+1,w=>822 s w [w] (w::qk s n v)
theorem MD{s:dt}{ws:10}(f:562):∀(n:Nat)(w:b7),788<n→qk s n w=qk s (788+1) w
 |0,w,h=>69 h a91
 |n+1,w,h=>by
  show(822 s w [w] (w::qk s n v))=(822 s w [w] (w::qk s 788 v))
  cases e:hy s w with|none=>rfl|some v=>have:=GS f e;rw[A11];rw[MD f n v 03,MD f 788 v 03]termination_by n=>n
def rJ(s:dt)(ws:10)(w:b7):List b7:=qk s (788+1) w
theorem VF(f:562)(w:b7):rJ s ws w=w::822 s w [] (rJ s ws v):=by
 unfold rJ;show(822 s w [w] (w::qk s 788 v))=_
 cases e:hy s w with|none=>rfl|some v=>rw[A11];rw[MD f _ v (GS f e)]
theorem VG(s:dt):p43 (∃v,p44 (qk s n w)=54∧(xt s n w k).1=v∧(xt s n w k).2+1=k+11 (qk s n w))
 |0,w,k=>072 w rfl
 |n+1,w,k=>by
  show∃v,p44 (822 s w [w] (w::qk s n v))=54∧(822 s w (w,k) (xt s n v (k+1))).1=v∧(822 s w (w,k) (xt s n v (k+1))).2+1=k+11 (822 s w [w] (w::qk s n v))
  cases e:hy s w with
   |none=>exact⟨w,rfl,rfl,rfl⟩
   |some v=>
    obtain⟨u,af,ak,a6⟩:=VG s n v (k+1);refine⟨u,?_,ak,?_⟩
    ·rw[A11]
     cases s_:qk s n v with|nil=>rw[s_]at af;cases af|cons a r=>rw[s_]at af;rw[List.getLast?_cons_cons];exact af
    ·rw[A11];rw[a6,dR];lia
theorem VH(s:dt)(ws:10)(w:b7):∃v,p44 (rJ s ws w)=54∧(ee s ws w).1=v∧(ee s ws w).2+1=11 (rJ s ws w):=by obtain⟨v,af,ak,a6⟩:=VG s (788+1) w 0;exact⟨v,af,ak,by rw[qx]at a6;exact a6⟩
theorem GU(h:51)(ws:10){w:b7}(hw:454 w):454 (ee s ws w).1:=by
 have:p43 (454 w→454 (xt s n w k).1):=by
  intro n
  induction n with
   |zero=>intro w k hw;exact hw
   |succ n ih=>
    intro w k hw;show fE _ (822 s w (w,k) (xt s n v (k+1))).1
    cases e:hy s w with|none=>exact hw|some v=>exact ih v (k+1) (VD h hw e)
 exact this _ w 0 hw
theorem aji(h:51)(f:562){w:b7}:h93 (ee s ws w)≤218+12*788:=by
 have:p43 (h93 (xt s n w k)≤218+12*788):=by
  intro n
  induction n with
   |zero=>intro w k;show 218≤_;lia
   |succ n ih=>
    intro w k;show h93 (822 s w (w,k) (xt s n v (k+1)))≤_
    cases e:hy s w with|none=>show 218≤_;lia|some v=>have:=ih v (k+1);have:=VE h f e;rw[A11];lia
 exact this _ w 0
theorem VI(f:562)(w:b7):788≤3*218:=by have:=MC f.pos w;unfold js;lia
def rK(i j:Nat)(a b:ez):c48:=h75 (bz (541+1)) (400 (942 (222 (i17 p) b42=f28∧p+b42≤541∧(i≠j∨p≠0)) (r99 (p42 p++(d11++i17 (p+b42))))))
def vh(i j:Nat)(a b:ez):c48:=h75 (bz m42) (737 (942 (0<o∧i66 o=i91) (l91 (088++996) h65 996 (i62 o++d11))))
theorem ME(s:dt){a b:ez}(aN:754=532)(aa:k77 j=360):xu s i j=rK i j a b++vh i j a b:=by unfold xu;rw[aN,aa];rfl
theorem ajj{a:ez}:rK i i a a=[]:=by
 unfold rK;rw[List.filterMap_eq_nil_iff];intro p au;rw[if_neg];rintro⟨_,af,ak⟩;rcases ak with ak|ak
 ·exact ak rfl
 ·lia
theorem GV{α β:272}{p:92 α}[DecidablePred p]{f:α→β}:921 ((p36 (72 (942 (p x) (f x))))=(f45 (72 (29 (p x)))).map f)
 |[]=>rfl
 |a::l=>by
  rw[w2,iO];rw[A39 (p a)]
  ·rw[114,21 188,eN,GV]
  ·rw[125,23 (c99 (113 h)),GV]
theorem ajk(az:ls.Nodup){a b:ez}(MF:i≠j)(hf:b.first=09)(ax:b.last=09)(jO:904 088)(l3:904 f28):rK i j a b=b95 (eR (cY ls b) n08) (r99 (p42 p++(d11++472 (i17 p) b42))):=by
 unfold rK eR;rw[GV,eA];have e:908 (541+1) (400 (29 (222 (i17 p) b42=f28∧p+b42≤541∧(i≠j∨p≠0))))=908 (541+1) (uW (cY ls b) n08):=by
  refine Cq 263;rw[Gk az l3 jO,hf,ax,hu,decide_eq_true_eq];simp only[ajb,VJ,Bool.and_true,beq_iff_eq];have au:=154;rw[A04]
  ·rintro⟨x,_⟩;exact x
  ·intro x;exact⟨x,wX 03 x,.inl MF⟩
 rw[e];refine lz (fun p _=>?_);rw[rI]
def TS(a b:ez):06:=g71 (m42-1) (737 (29 (i66 o=i91)))
theorem ajl{a b:ez}:vh i j a b=(TS a b).map (737 (l91 (088++996) h65 996 (i62 o++d11))):=by
 unfold vh TS;rw[GV];congr 1;generalize m42=n
 cases n with|zero=>rfl|succ n=>rw[Gy,iO,142];show _=g71 n _;have:407 n Nat.succ=407 n (1+·):=lz (k36 03);rw[A16];refine Cq (fun o a8=>?_);obtain⟨x,_,rfl⟩:=112 a8;rw[hu,decide_eq_true_eq,decide_eq_true_eq];exact⟨312 h.2,312 ⟨03,h⟩⟩
structure VK(n:Nat)(z:nu):04 where
 w:fE n b36∧z.word.length≤533
 l:fE n h62∧z.left.length≤533
 r:fE n h61∧z.right.length≤533
theorem VL(h:51){z:nu}(hz:z∈CT s):VK 36 z:=by
 unfold CT at hz;obtain⟨i,hi,hz⟩:=ni.mp hz;obtain⟨j,bS,hz⟩:=ni.mp hz;have hi:=a42;have bS:=g4.mp bS;rw[ME s 122 (cA bS)]at hz;have jO:=h.cw _ (ko hi);have l3:=h.cw _ (ko bS);generalize b80=a at*;generalize j72=b at*;have app:∀{x y:06},454 x→454 y→454 (x++y):=fun ai aC k aS=>(362 aS).elim (ai k) (aC k);have tk:∀{x:06}{n:Nat},454 x→454 (813 n):=fun ai k aS=>ai k (qp aS);have fF:∀{x:06}{n:Nat},454 x→454 (883 n):=fun ai k aS=>ai k (u0 aS);have a1:fE _ 088:=jO.1.2;have a2:fE _ h65:=jO.2.2;have b9:fE _ f28:=l3.1.2;have dj:fE _ d11:=l3.2.2;have:=jO.1.1;have:=jO.2.1;have:=l3.1.1;have:=l3.2.1;rw[B39 hz]
 ·unfold rK at hz;obtain⟨p,au,e⟩:=Gu.mp hz;rw[A22]
  ·next ar=>have e:=cI e;subst e;refine⟨⟨a1,636 541 533⟩,⟨a2,636 a.right.length 533⟩,app (tk a1) (app dj (fF a1)),?_⟩;show my (_++(_++_))≤533;rw[cn,cn,eS,fV];have:=ar.2.1;lia
  ·cases e
 ·unfold vh at hz;obtain⟨o,a8,e⟩:=Gu.mp hz;have a8:=g4.mp a8;rw[A22]
  ·next ar=>
   have e:=cI e;subst e;refine⟨328 (app a1 (fF b9)),328 (app a2 (fF b9)),app (tk a1) dj,?_⟩
   ·show my (_++_)≤533;rw[cn,fV];lia
   ·show my (_++_)≤533;rw[cn,fV];lia
   ·show my (_++_)≤533;rw[cn,eS];lia
  ·cases e
theorem ajm{whole k c:Nat}{r:Text}(h:467=01):hV 510 (k+1) (c::r)=663 r:=by show(13 467 _ _)=_;rw[114]
theorem LC{p:a72}(r:06):11 (l52 p)≤230:=by
 induction r with
  |nil=>exact 64
  |cons a r ih=>
   rw[ajn];split
   ·exact cX ih 163
   ·exact 64
theorem VM(whole:Nat):∀(n k fZ:Nat)(t:Text),223≤n→223<k→223<fZ→663 t=hV 510 fZ t:=by
 intro n
 induction n with
  |zero=>
   intro k fZ t aU aS rL;have:t=[]:=u5.mp 03;rw[A88]
   cases k with|zero=>exact 69 aS a91|succ k=>cases fZ with|zero=>exact 69 rL a91|succ fZ=>rfl
  |succ n ih=>
   intro k fZ t aU aS rL
   cases k with|zero=>exact 69 aS a91|succ k=>cases fZ with|zero=>exact 69 rL a91|succ fZ=>cases t with|nil=>rfl|cons c r=>rw[dR]at aU aS rL;have eY:=LC (p:=c67) r;have dW:=LC (p:=fe) r;have VN:11 (a07 1)≤230:=f20;show(13 467 (663 r) (13 (c==311) (663 048) (13 (fe c) _ _)))=(13 467 (hV 510 fZ r) (13 (c==311) (hV 510 fZ 048) (13 (fe c) _ _)));rw[ih k fZ r 03 03 03,ih k fZ 048 03 03 03,ih k fZ (l52 fe) 03 03 03,ih k fZ (a07 1) 03 03 03]
def ef:571→06→Nat|_,[]=>0|inr,b::r=>13 (b=0xa) (308 r+1) (13 (b=311) (772 r+1) (39 (! inr&&! j7 b) 0 (ef inr r+1)))
theorem GW:∀(t:06)(b:Bool),mw b (b6 t)=ef b t
 |[],b=>by cases b<;>rfl
 |c::t,b=>by
  have eG:zo 337=467:=by unfold zo j7;simp only[pe,VO,wW];rw[hu];simp only[Gl,decide_eq_true_eq,beq_iff_eq];lia
  show(13 (337=0xa) (mw 09 (b6 t)+1) (13 (337=311) (mw 01 (b6 t)+1) (39 (! b&&! zo 337) 0 (mw b (b6 t)+1))))=(13 (c=0xa) (308 t+1) (13 (c=311) (772 t+1) (39 (! b&&! 467) 0 (ef b t+1))));rw[GW t 09,GW t 01,GW t b,eG];rw[A72 (c=0xa)]
  ·rw[169,118]
  ·rw[153,124];rw[A79 (c=311)]
   ·rw[178,118]
   ·rw[146,124]
theorem xw:∀(t:06)(b:Bool),ef b t≤223
 |[],b=>by cases b<;>exact 64
 |c::t,b=>by
  have af:=xw t 09;have ak:=xw t 01;have a6:=xw t b;show(13 (c=0xa) (308 t+1) (13 (c=311) (772 t+1) (39 (! b&&! 467) 0 (ef b t+1))))≤e96;split
  ·lia
  ·split
   ·lia
   ·rw[B53]
theorem VP:∀(t:06),772 t=(223-11 (t.dropWhile c67))+308 (t.dropWhile c67)
 |[]=>rfl
 |c::t=>by
  have ih:=VP t;have eY:=LC (p:=c67) t;rw[ajn];show(13 (c=0xa) (308 t+1) (13 (c=311) (772 t+1) (39 (! 01&&! 467) 0 (772 t+1))))=_;rw[A72 (c=0xa)]
  ·subst af;simp only[if_true,bne_self_eq_false,l0,if_false,Nat.sub_self,qx];rfl
  ·have ak:(c !=0xa)=01:=f57;rw[23 af];simp only[Vp,zw,l0,if_false,ite_self,ak,if_true];rw[ih,dR];lia
theorem ajo(whole:Nat):∀(n k:Nat)(t:Text),223≤n→223<k→663 t=663 (985 (308 t)):=by
 intro n
 induction n with
  |zero=>intro k t aU _;have:t=[]:=u5.mp 03;rw[A88];rfl
  |succ n ih=>
   intro k t aU aS
   cases t with
    |nil=>rfl
    |cons c r=>
     rw[dR]at aU aS
     cases k with
      |zero=>exact 69 aS a91
      |succ k=>
       have GX:=xw r 09;have back:∀u:Text,i16≤230→663 u=hV 510 (k+1) (u.drop (308 u)):=l10 (by have:=xw u 09;rw[ih k u 03 03];exact VM 510 (n+1) _ _ _ f20 f20 f20);rw[B31 (308 (c::r)=13 (c=0xa) (308 r+1) (13 (c=311) (772 r+1) (39 (! 09&&! 467) 0 (308 r+1))))];rw[B16 467]
       ·have:308 (c::r)=308 r+1:=by
         rw[aR];rw[A72 (c=0xa)]
         ·rw[21 af]
         ·rw[153,if_neg,aa]
          ·simp
          ·rw[A91];exact 69 aa 14
        rw[this,ajm aa,VQ];exact back r 64
       ·have oc:467=09:=120;have xi:c≠0xa:=p30 (69 aa 14);rw[A79 (c=311)]
        ·subst ak;have eY:=LC (p:=c67) r;have:308 (311::r)=772 r+1:=rfl;rw[this,VP,VQ];have aK:hV 510 (k+1) (311::r)=663 048:=rfl;rw[aK,back _ eY];congr 1;have aG:a07 (230-11 048)=048:=by
          have:r=p41 c67++048:=567 (VR ..);have ax:=137 246;rw[cn]at ax;conv=>lhs;rw[show 230-11 048=11 (p41 c67)by lia]
          conv=>lhs;arg 2;rw[this]
          exact GY
         rw[←rI,aG]
        ·have:308 (c::r)=0:=by rw[aR,23 xi,146,oc];rfl
         rw[A16];rfl
def kr(t:Text)(r:Nat):Toks:=hV 223 e96 f72
inductive GZ where|bad(kind place:Nat)|over(place:Nat)|word(w:Text)(place behind:Nat)|sign(u:Text)(place behind:Nat)
def CU(t:Text)(r:Nat):GZ:=let p:=r+c43;q75 (985 p) (.over p) (13 (fe c) (13 (12<c60 c) (.bad 2 p) (.word (c::f63) p (p+c60 c))) (13 (041 c) (.sign [c] p (p+1)) (13 ((c::g31)==ks) (.sign ks p (p+2)) (.bad 1 p))))
theorem ajp(t:Text)(r:Nat)(aq:r≤223):r98 (CU t r) (kr t r=[(p,.bad k)]) (p=223∧kr t r=[(p,.over)]) (b≤223∧r<b∧kr t r=(p,032)::kr t b) (b≤223∧r<b∧kr t r=(p,c36)::kr t b):=by
 have vc:11 f72=223-r:=fV;have GX:=xw f72 09;have dw:kr t r=hV 223 e96 (985 (r+c43)):=by unfold kr;rw[ajo 223 223 _ _ 03 03,rI]
 unfold CU;rw[A11];have au:r+c43≤223:=03;have rM:r≤r+c43:=03;have CV:308 (985 (r+c43))=0:=by
  have:∀(u:06)(b:Bool),308 (u.drop (ef b u))=0:=by
   intro u
   induction u with
    |nil=>intro b;cases b<;>rfl
    |cons c u ih=>
     intro b;rw[B31 (ef b (c::u)=13 (c=0xa) (308 u+1) (13 (c=311) (772 u+1) (39 (! b&&! 467) 0 (ef b u+1))))];rw[aR];split
     ·exact ih 09
     ·split
      ·exact ih 01
      ·split
       ·next af ak a6=>
        show 308 (c::u)=0;have:(! 09&&! 467)=01:=by cases b with|false=>exact a6|true=>cases a6
        show(13 (c=0xa) (308 u+1) (13 (c=311) (772 u+1) (39 (! 09&&! 467) 0 (308 u+1))))=0;rw[153,146,21 246]
       ·exact ih b
  have:=this f72 09;rw[rI]at this;rw[A10]
 generalize r+c43=p at*;have mB:11 (985 p)=223-p:=fV
 cases e:985 p with
  |nil=>
   rw[e]at dw mB;have:p=223:=by rw[l4]at mB;lia
   exact⟨246,by rw[dw,this];rfl⟩
  |cons c rest=>
   rw[e]at dw mB CV;rw[dR]at mB;replace mB:p+(746+1)=223:=03;clear vc GX;have nb:467=09:=by
    cases aa:467 with
     |false=>rfl
     |true=>
      rw[B31 (308 (c::67)=13 (c=0xa) (308 67+1) (13 (c=311) (772 67+1) (39 (! 09&&! 467) 0 (308 67+1))))];rw[aR,aa]at CV;split at CV
      ·lia
      ·split at CV
       ·lia
       ·simp at CV
   have ajq:(c==311)=09:=by cases aa:(c==311)with|false=>rfl|true=>have:c=311:=a02 aa;rw[A88];rw[B31 (308 (311::67)=772 67+1)];lia
   have pl:223-(746+1)=p:=03;have aK:hV 223 e96 (c::67)=13 (fe c) (13 (LONG<c60 c) [(p,.bad 2)] ((p,.word (c::f63))::hV 223 223 m17)) (13 ((c::g31)==ks) ((p,.sign ks)::hV 223 223 n38) (13 (041 c) ((p,.sign [c])::hV 223 223 67) [(p,.bad 1)])):=by show(13 467 _ (13 (c==311) _ (13 (fe c) (13 (LONG<_) [(223-(746+1),_)] ((223-(746+1),_)::_)) (13 ((c::g31)==ks) ((223-(746+1),_)::_) (13 (041 c) ((223-(746+1),_)::_) [(223-(746+1),_)])))))=_;rw[nb,ajq,pl];rfl
   rw[aK]at dw;have cz:∀(b:Nat)(u:Text),i16<223→985 b=u→hV 223 223 u=kr t b:=by intro b u bp aa;unfold kr;rw[aa];exact VM 223 223 _ _ _ 03 03 03
   rw[A11];by_cases aL:fe c=01
   ·rw[21 aL];rw[21 aL]at dw;show r98 (13 (12<_) (GZ.bad 2 p) _) _ _ _ _;by_cases ax:12<c60 c
    ·rw[21 ax];rw[108 LONG 12,200]at dw;exact dw
    ·rw[23 ax];rw[108 LONG 12,197]at dw;have c5:11 f63+11 m17=746:=by have:=137 (VR (p:=fe) (l:=67));rwa[cn]at this
     have dd:985 (p+c60 c)=m17:=by
      rw[←rI,e,dR,VQ];conv=>lhs;arg 2;rw[←VR (p:=fe) (l:=67)]
      exact GY
     rw[A20 k70 k70];rw[dw,cz _ _ 03 dd]
   ·rw[23 aL];rw[23 aL]at dw;by_cases aN:((c::g31)==ks)=01
    ·rw[21 aN]at dw;have ar:c=665∧∃dF,67=468::dF:=by
      have:=a02 aN;have d1:ks=[665,468]:=14;rw[d1]at this
      cases rest with|nil=>rw[A47]|cons d dF=>simp at this;exact⟨183,dF,970 this.2⟩
     obtain⟨rfl,dF,rfl⟩:=ar;rw[107,21 aN];rw[dR]at mB;rw[A20 03 03];rw[dw,cz (p+2) (472 (468::dF) 1) (a45 dF.length _) r97]
    ·rw[23 aN]at dw;by_cases bH:041 c=01
     ·rw[21 bH];rw[21 bH]at dw;rw[A20 03 03];rw[dw,cz (p+1) 67 03 r97]
     ·rw[23 bH,23 aN];rw[23 bH]at dw;exact dw
def hW(aD:Toks):04:=∀p w,(p,Tok.word w)∈aD→w≠[]∧j31∧f37 (534≤c∧c≤0x7a)
theorem hW.drop{aD:Toks}(h:hW aD)(n:Nat):hW (aD.drop n):=fun p w hm=>h p w (u0 hm)
theorem hW.cons{aD:Toks}{p:Nat}{k:Tok}(aS:∀w,k=032→w≠[]∧j31∧f37 (534≤c∧c≤0x7a))(h:hW aD):hW (494::aD):=fun q w hm=>by cases hm with|head=>exact aS w rfl|tail _ hm=>exact h q w hm
theorem G0(c:Nat):fe c=01↔534≤c∧c≤0x7a:=by unfold fe;rw[hG,decide_eq_true_eq,decide_eq_true_eq]
theorem VS(whole:Nat):∀(k:Nat)(t:Text),hW (663 t):=by
 intro k
 induction k with
  |zero=>intro t p w hm;have hm:(p,Tok.word w)∈[(510-223,Tok.over)]:=hm;have:=86 hm;rw[A47]
  |succ k ih=>
   intro t
   cases t with
    |nil=>intro p w hm;have hm:(p,Tok.word w)∈[(510,Tok.over)]:=hm;have:=86 hm;rw[A47]
    |cons c r=>
     show hW (13 467 (663 r) (13 (c==311) (663 048) (13 (fe c) (13 (LONG<11 (c::m45)) [(510-(230+1),.bad 2)] ((510-(230+1),.word (c::m45))::663 (l52 fe))) (13 ((c::r.take 1)==ks) ((510-(230+1),.sign ks)::663 (a07 1)) (13 (041 c) ((510-(230+1),.sign [c])::663 r) [(510-(230+1),.bad 1)])))));have nil:hW []:=fun p w hm=>by cases hm
     split
     ·exact ih _
     ·split
      ·exact ih _
      ·split
       ·next aL=>
        split
        ·exact j70 nil
        ·next ax=>
         refine hW.cons (fun w e=>?_) (ih _);cases e;refine⟨19,by have:LONG=12:=rfl;lia,k18⟩
         cases hd with
          |head=>exact(G0 _).mp aL
          |tail _ hd=>
           have:∀(r:06)(d:Nat),d∈m45→fe d=01:=by
            intro r
            induction r with
             |nil=>intro d hd;cases hd
             |cons a r ih=>
              intro d hd;rw[CW]at hd;split at hd
              ·next aN=>cases hd with|head=>exact aN|tail _ hd=>exact ih d hd
              ·cases hd
           exact(G0 _).mp (this r d hd)
       ·split
        ·exact j70 (ih _)
        ·split
         ·exact j70 (ih _)
         ·exact j70 nil
theorem CY{t:String}{aD:Toks}(h:hW aD)(e:hX t aD=.ok ts):hW ts:=by
 unfold hX at e;rw[A22]
 ·have:690=ts:=o49;rw[A48];exact h.drop 1
 ·cases e
theorem G1{ls:Text}{aD:Toks}{w:b7}(h:hW aD)(e:ku ls aD=.ok (w,ts)):hW ts∧o9 284 w:=by
 have G2:(13 (070 aD) (px (([]:b7),690)) (tu (mF aD)))=px (w,ts)→hW ts∧o9 284 w:=by
  intro e;rw[A22]
  ·rw[A89];rw[B84];rw[←aK,←aG];exact⟨h.drop 1,680 (0≤12),by intro i hi;cases hi⟩
  ·cases e
 cases aD with
  |nil=>exact G2 e
  |cons z r=>
   rw[A82]
   cases k with
    |over=>exact G2 e
    |bad ajr=>exact G2 e
    |sign u=>exact G2 e
    |word x=>
     have e:(d49 ls x (tu (7,p)) (px (l,r)))=px (w,ts):=e
     cases e7:qq ls x with
      |none=>rw[e7]at e;cases e
      |some l=>
       rw[e7]at e;rw[A89];rw[B84];rw[←aK,←aG];have ai:=h p x 237;by_cases aN:c10 c ls
       ·rw[C70 (Ck aN)];rw[e7]at af;have:l=v:=cI af;rw[A16];refine⟨fun q y aC=>h q y 922,?_,a6⟩;have:=T_ ak;lia
       ·rw[Gi aN]at e7;cases e7
theorem ajs{ls:Text}{aD:Toks}{m:ez}(h:hW aD)(e:G3 ls aD=.ok (m,ts)):hW ts∧o9 284 398∧o9 284 427:=by
 unfold G3 at e;rw[B07];generalize gm "^" 690=f at e;have h0:hW (39 f (aD.drop 2) 690):=by split<;>exact h.drop _
 cases aK:ku ls (39 f (aD.drop 2) 690)with
  |error x=>rw[A75];cases e
  |ok u=>
   rw[A75];obtain⟨VT,jP⟩:=u;obtain⟨k1,mG⟩:=G1 h0 aK;rw[B95];have ak:hW (39 (067 jP) (jP.drop 1) jP):=by
    split
    ·exact k1.drop 1
    ·exact k1
   cases aG:hX "->" (39 (067 jP) (jP.drop 1) jP)with
    |error x=>rw[A67];cases e
    |ok a=>
     rw[A67];rw[B07];have k2:=CY ak aG
     cases cp:ku ls a with
      |error x=>rw[cp]at e;cases e
      |ok v=>
       rw[cp]at e;obtain⟨v1,v2⟩:=v;obtain⟨k3,mH⟩:=G1 k2 cp;rw[B07]
       cases ej:b08 v2 with|error x=>rw[ej]at e;cases e|ok b=>rw[ej]at e;rw[B07];rw[A89];injection e with d1 eG;rw[←d1,←eG];exact⟨CY k3 ej,mG,mH⟩
theorem ajt:∀(k:Nat)(s:dt)(aD:Toks)(y:dt),51→hW aD→tv k s aD=.ok y→c3 y:=by
 intro k
 induction k with
  |zero=>intro s aD y _ _ e;cases e
  |succ k ih=>
   intro s aD y aL bk e;unfold tv at e;rw[A22]
   ·rw[A89];rw[←e];exact aL
   ·rw[A22]
    ·rw[A22]
     ·cases e
     ·next vi=>
      cases aK:G3 60 aD with
       |error x=>rw[A75];cases e
       |ok m=>
        rw[A75];obtain⟨hx,ip⟩:=m;obtain⟨a,b,c⟩:=ajs bk aK;refine ih {s with moves:=972++[hx]} ip y ⟨aL.az,aL.jn,aL.lc,?_,?_,aL.st,aL.gl⟩ a e
        ·show 11 (972++[hx])≤8;rw[cn];have:VU=8:=rfl;show 303+1≤8;lia
        ·intro m hm;rcases 362 hm with hm|hm
         ·exact aL.cw m hm
         ·rw[86 hm];exact⟨b,c⟩
    ·rw[A22]
     ·rw[A22]
      ·cases e
      ·cases aK:ku 60 690 with
       |error x=>rw[A75];cases e
       |ok w=>
        rw[A75];obtain⟨mG,rN⟩:=w;rw[B30 (G1 (bk.drop 1) aK)];rw[B95]
        cases aG:b08 rN with|error x=>rw[A67];cases e|ok jt=>rw[A67];refine ih (o43 (some mG)) jt y ⟨aL.az,aL.jn,aL.lc,aL.mx,aL.cw,?_,aL.gl⟩ (CY a aG) e;rw[A74];have:mG=x:=cI ai;rw[A48];exact b
     ·rw[A22]
      ·rw[A22]
       ·cases e
       ·cases aK:ku 60 690 with
        |error x=>rw[A75];cases e
        |ok w=>
         rw[A75];obtain⟨mG,rN⟩:=w;rw[B30 (G1 (bk.drop 1) aK)];rw[B95]
         cases aG:b08 rN with|error x=>rw[A67];cases e|ok jt=>rw[A67];refine ih (o42 (some mG)) jt y ⟨aL.az,aL.jn,aL.lc,aL.mx,aL.cw,aL.st,?_⟩ (CY a aG) e;rw[A74];have:mG=x:=cI ai;rw[A48];exact b
      ·cases e
theorem MG:∀{l:06},xx l=01→l.Nodup|[],_=>VV|a::r,h=>by unfold xx at h;rw[hG,Gm]at h;rw[td];exact⟨fun hm=>(by have:=xk.mpr hm;rw[this]at h;cases h.1),MG h.2⟩
theorem VW:∀{l:06},c75 (xx l=01)
 |[],_=>rfl
 |a::r,h=>by
  rw[td]at h;unfold xx;rw[hG,Gm];rw[A03 ?_ (VW h.2)]
  cases e:p40 a with|false=>rfl|true=>exact 69 (xk.mp e) h.1
theorem aju{t:Text}{y:dt}(e:xy t=.ok y):c3 y:=by
 unfold xy at e;have h0:=VS 223 e96 t;change hW (tokens t)at h0;unfold CZ at e;rw[A22]
 ·have af:=h0.drop 1;rw[B95]
  cases aK:G5 (472 (tokens t) 1)with
   |error x=>rw[A75];cases e
   |ok l=>
    rw[A75];obtain⟨eY,dW⟩:=l;rw[B07]
    cases aG:b08 dW with
     |error x=>rw[A67];cases e
     |ok b=>
      rw[A67];rw[B07]
      cases kU:472 (tokens t) 1 with
       |nil=>rw[kU]at aK;cases aK
       |cons z r=>
        rw[kU]at aK af;rw[A82]
        cases k with
         |over=>cases aK
         |bad ajr=>cases aK
         |sign u=>cases aK
         |word w=>
          have aK:(13 (xx w&&555 218 LETTERS) (px (w,r)) (tu (2,p)))=px (eY,dW):=aK;split at aK
          ·next ar=>injection aK with aK;injection aK with d1 eG;subst d1 eG;rw[hG,decide_eq_true_eq]at ar;have hw:=af p w 237;have aq:hW r:=fun q y aC=>af q y 922;exact ajt _ _ b y ⟨MG ar.1,ar.2,hw.2.2,(680 (0≤8)),(by intro m hm;cases hm),(r96),(r96)⟩ (CY aq aG) e
          ·cases aK
 ·cases e
inductive hY:10→oo→92 10|load(x t:_):hY (0::583::(x++t)) (.load x) t|written(t:_):hY (1::t) .written t|step(m p w t:_):hY (2::m::p::635::(w++t)) (.step m p w) t|steps(w t:_):hY (3::635::(w++t)) (.steps w) t|search(b t:_):hY (4::b::t) (.search b) t|way(b t:_):hY (5::b::t) (.way b) t|reach(b w t:_):hY (6::b::635::(w++t)) (.reach b w) t|weights(t:_):hY (7::t) .weights t|parted(t:_):hY (8::t) .parted t|turns(k t:_):hY (9::k::t) (.turns k) t|turned(t:_):hY (0xa::t) k28 t|keeps(k x t:_):hY (0xb::k::583::(x++t)) (.keeps k x) t|machine(n x t:_):hY (12::n::583::(x++t)) (g55 n) t|seek(t:_):hY (0xd::t) .seek t|down(t:_):hY (0xe::t) .down t|unique(t:_):hY (0xf::t) .unique t|normal(w t:_):hY (377::635::(w++t)) (.normal w) t|same(v w t:_):hY (804::15 734::(v++(635::(w++t)))) (.same v w) t
inductive xA:10→92 (List oo)|nil:xA [] []|cons{l k t cS:_}:hY l k t→xA t cS→xA l (k::cS)
def tw:State→List oo→99|_,[]=>[]|s,c::r=>(oq s c).2::tw (oq s c).1 r
theorem ajv{l x t:10}(h:VX l=614 x):l=583::(x++t):=by
 cases l with
  |nil=>cases h
  |cons n r=>
   have h:(13 (0≤n∧f32≤230) (some (r.take f32,a07 f32)) 00)=614 x:=h;rw[A18]
   ·next ar=>rw[B27];rw[B76];subst af ak;rw[om,eS];congr 1;lia
   ·cases h
theorem TU{l t:10}{xs:99}(h:xB 0 l=614 xs):xs=[]∧l=t:=by have h:some (([]:99),l)=614 xs:=h;injection h with h;injection h with af ak;exact⟨af.symm,ak⟩
theorem MH{k:Nat}{l t:10}{xs:99}(h:xB (k+1) l=614 xs):∃x ys s,xs=x::ys∧l=583::(x++s)∧xB k s=614 ys:=by
 have h:(match VX l with|none=>00|some (x,s)=>r95 (xB k s) 00 (614 (x::xs)))=614 xs:=h
 cases e:VX l with
  |none=>rw[A49];cases h
  |some z=>
   obtain⟨x,s⟩:=z;rw[A49];rw[B28]
   cases aG:xB k s with|none=>rw[B29];cases h|some y=>obtain⟨ys,u⟩:=y;rw[B29];rw[B28];rw[B27];rw[B76];subst af ak;exact⟨x,ys,s,rfl,ajv e,aG⟩
section
variable{p:Int}{t:10}{c:99}(h:C0 jQ (p::r)=614 c)
include h
theorem MI{k:Nat}(aR:jQ p=some (n,k)):∃a xs u,733=n∧r=a++u∧xB k u=614 xs∧c=(p::a)::xs:=by
 have h:(match jQ p with|none=>00|some (n,k)=>13 (230<n) 00 (r95 (xB k (a07 n)) 00 (614 ((p::r.take n)::xs))))=614 c:=h;rw[aR]at h;rw[B28];rw[A18]
 ·cases h
 ·next ax=>cases aG:xB k (a07 n)with|none=>rw[B29];cases h|some y=>obtain⟨xs,u⟩:=y;rw[B29];rw[B28];rw[B27];rw[B76];subst af ak;exact⟨r.take n,xs,a07 n,by rw[eS];lia,567 (om ..),aG,rfl⟩
theorem VY(aR:jQ p=some (n,0)):∃a,733=n∧r=a++t∧c=[p::a]:=by obtain⟨a,xs,u,aN,aq,bp,ar⟩:=MI h aR;obtain⟨rfl,rfl⟩:=TU bp;exact⟨a,aN,aq,ar⟩
theorem MJ(aR:jQ p=some (n,1)):∃a x,733=n∧r=a++583::(x++t)∧c=[p::a,x]:=by rw[D73 (MI h aR)];rw[D72 (MH bp)];rw[B54 (TU ak)];exact⟨a,x,aN,aq,ar⟩
theorem xC(aR:jQ p=some (0,0)):r=t∧c=[[p]]:=by obtain⟨a,aN,aq,ar⟩:=VY h aR;cases u5.mp aN;exact⟨aq,ar⟩
theorem xi(aR:jQ p=some (1,0)):∃b,r=b::t∧c=[[p,b]]:=by obtain⟨a,aN,aq,ar⟩:=VY h aR;obtain⟨b,rfl⟩:=ajw.mp aN;exact⟨b,aq,ar⟩
theorem MK(aR:jQ p=some (0,1)):∃x,r=583::(x++t)∧c=[[p],x]:=by obtain⟨a,x,aN,aq,ar⟩:=MJ h aR;cases u5.mp aN;exact⟨x,aq,ar⟩
theorem ML(aR:jQ p=some (1,1)):∃b x,r=b::583::(x++t)∧c=[[p,b],x]:=by obtain⟨a,x,aN,aq,ar⟩:=MJ h aR;obtain⟨b,rfl⟩:=ajw.mp aN;exact⟨b,x,aq,ar⟩
theorem ajx(aR:jQ p=some (2,1)):∃b d x,r=b::d::583::(x++t)∧c=[[p,b,d],x]:=by
 obtain⟨a,x,aN,aq,ar⟩:=MJ h aR
 match a,aN with|[b,d],_=>exact⟨b,d,x,aq,ar⟩
theorem ajy(aR:jQ p=some (0,2)):d01 (r=583::(x++(n13::(y++t)))∧c=[[p],x,y]):=by rw[D73 (MI h aR)];rw[D72 (MH bp)];obtain⟨y,aA1,s2,rfl,rfl,a6⟩:=MH ak;rw[B54 (TU a6)];cases u5.mp aN;exact⟨x,y,aq,ar⟩
end
theorem ajz{P:92 Int}{p:Int}(h:jQ p≠00)(h0:P 0)(af:P 1)(ak:P 2)(a6:P 3)(bH:P 4)(fX:P 5)(iT:P 6)(MM:P 7)(vi:P 8)(ajA:P 9)(C1:P 0xa)(ajB:P 0xb)(iN:P 12)(vj:P 0xd)(ajC:P 0xe)(ajD:P 0xf)(G6:P 377)(ajE:P 804):P p:=by
 by_cases dw:p=0
 ·rw[dw];exact h0
 by_cases aK:p=1
 ·rw[aK];exact af
 by_cases aG:p=2
 ·rw[aG];exact ak
 by_cases cp:p=3
 ·rw[cp];exact a6
 by_cases ej:p=4
 ·rw[ej];exact bH
 by_cases nv:p=5
 ·rw[nv];exact fX
 by_cases zQ:p=6
 ·rw[zQ];exact iT
 by_cases vk:p=7
 ·rw[vk];exact MM
 by_cases zR:p=8
 ·rw[zR];exact vi
 by_cases rO:p=9
 ·rw[rO];exact ajA
 by_cases xD:p=0xa
 ·rw[xD];exact C1
 by_cases VZ:p=0xb
 ·rw[VZ];exact ajB
 by_cases V0:p=12
 ·rw[V0];exact iN
 by_cases V1:p=0xd
 ·rw[V1];exact vj
 by_cases V2:p=0xe
 ·rw[V2];exact ajC
 by_cases V3:p=0xf
 ·rw[V3];exact ajD
 by_cases V4:p=377
 ·rw[V4];exact G6
 by_cases V5:p=804
 ·rw[V5];exact ajE
 refine 69 ?_ h;unfold jQ;simp only[dw,aK,aG,cp,ej,nv,zQ,vk,zR,rO,xD,VZ,V0,V1,V2,V3,V4,V5,if_false]
theorem ajF{l t:10}{c:99}(h:C0 jQ l=614 c):∃k,hY l k t∧ajG (zS c)=040:=by
 cases l with
  |nil=>cases h
  |cons p r=>
   have aU:jQ p≠00:=100 (by unfold C0 at h;simp only[e]at h;cases h);refine ajz (P:=400 (∀{r t c:_},C0 jQ (p::r)=614 c→∃k,hY (p::r) k t∧ajG (zS c)=040)) aU ?_ ?_ ?_ ?_ ?_ ?_ ?_ ?_ ?_ ?_ ?_ ?_ ?_ ?_ ?_ ?_ ?_ ?_ h
   ·rw[A31];rw[C10 h rfl];rw[A26 (.load x t)]
   ·rw[A31];rw[A94 h rfl];rw[A26 (.written _)]
   ·rw[A31];obtain⟨b,d,x,rfl,rfl⟩:=ajx h rfl;rw[A26 (.step b d x t)]
   ·rw[A31];rw[C10 h rfl];rw[A26 (.steps x t)]
   ·rw[A31];rw[C09 h rfl];rw[A26 (.search b t)]
   ·rw[A31];rw[C09 h rfl];rw[A26 (.way b t)]
   ·rw[A31];rw[C07 h rfl];rw[A26 (.reach b x t)]
   ·rw[A31];rw[A94 h rfl];rw[A26 (.weights _)]
   ·rw[A31];rw[A94 h rfl];rw[A26 (.parted _)]
   ·rw[A31];rw[C09 h rfl];rw[A26 (.turns b t)]
   ·rw[A31];rw[A94 h rfl];rw[A26 (.turned _)]
   ·rw[A31];rw[C07 h rfl];rw[A26 (.keeps b x t)]
   ·rw[A31];rw[C07 h rfl];rw[A26 (.machine b x t)]
   ·rw[A31];rw[A94 h rfl];rw[A26 (.seek _)]
   ·rw[A31];rw[A94 h rfl];rw[A26 (.down _)]
   ·rw[A31];rw[A94 h rfl];rw[A26 (.unique _)]
   ·rw[A31];rw[C10 h rfl];rw[A26 (.normal x t)]
   ·rw[A31];obtain⟨x,y,rfl,rfl⟩:=ajy h rfl;rw[A26 (.same x y t)]
theorem ajH:∀(f:Nat)(l:10)(cs:List 99),MN jQ f l=some cs→∃cS,xA l cS∧∀s,ajI C2 s (b57 zS)=tw s cS:=by
 intro f
 induction f with
  |zero=>
   intro l cs h
   cases l with|nil=>have h:some ([]:List 99)=some cs:=h;rw[B27];subst h;exact⟨[],89,524⟩|cons p r=>cases h
  |succ f ih=>
   intro l cs h
   cases l with
    |nil=>have h:some ([]:List 99)=some cs:=h;rw[B27];subst h;exact⟨[],89,524⟩
    |cons p r=>
     have h:(match C0 jQ (p::r)with|none=>00|some (c,t)=>match MN jQ f t with|none=>00|some cs=>some (c::cs))=some cs:=h
     cases e:C0 jQ (p::r)with
      |none=>rw[A49];cases h
      |some z=>
       obtain⟨c,t⟩:=z;rw[A49];rw[B28]
       cases aG:MN jQ f t with
        |none=>rw[B29];cases h
        |some ds=>
         rw[B29];rw[B28];rw[B27];subst h;obtain⟨k,bU,aS⟩:=ajF e;obtain⟨cS,cT,au⟩:=ih t ds aG;refine⟨k::cS,.cons bU cT,fun s=>?_⟩;have st:C2 s (zS c)=oq s k:=by unfold C2;rw[aS];rfl
         show(C2 s (zS c)).2::ajI C2 (C2 s (zS c)).1 (ds.map zS)=_;rw[st,au];rfl
theorem ajJ{l:10}(h:ajK l=01):∃cS,xA l cS∧MO l=rP (tw start cS)∧11 (MO l)≤10000000:=by
 unfold ajK at h
 cases e:MN jQ 63 l with|none=>rw[A49];cases h|some cs=>rw[A49];simp only[hG]at h;obtain⟨cS,r,au⟩:=ajH _ _ _ e;refine⟨cS,r,?_,121 h.2⟩;unfold MO PyVainve.calls;rw[e];show rP _=_;rw[au];rfl
def ot(rows:30)(g:06):30:=l67 (g.map (58 (r.getD q q)))
theorem V6{rows:30}{cm:30}:∀(u:b7){g:06},(b88 i)→b04 g→b04 (g.map (cP 17 u))
 |[],g,_,h=>by
  have:g.map (cP 17 [])=g:=by
   conv=>rhs;rw[←CP g]
   rfl
  rw[this];exact h
 |i::u,g,bp,h=>by
  have hi:=bp i 237;have e:g.map (cP 17 (i::u))=(g.map (58 (014 i q q))).map (cP 17 u):=by rw[gP];rfl
  rw[e];refine V6 u (d29 (bp j e20)) (.step h ?_);unfold ot;refine 143 (i30 i) ?_;rw[cZ,122];exact 141
theorem ajL(rows:30)(u:b7)(i q:Nat):266 (u++[i]) q=014 i (266 u q) (266 u q):=by unfold cP;rw[s7];rfl
theorem G7{rows:30}:b04 g↔∃n8∈cm,d28 ((b88 i)∧g=n8.map (cP 17 u)):=by
 rw[A04]
 ·intro h
  induction h with
   |@here x ai=>
    refine⟨x,ai,[],m80,?_⟩;conv=>lhs;rw[←CP x]
    rfl
   |@step x y _ aC ih=>
    obtain⟨n8,h0,u,bp,rfl⟩:=ih;obtain⟨r,aq,rfl⟩:=112 aC;rw[A86 aq];have qr:=159 hi;refine⟨n8,h0,u++[i],n41,?_⟩
    ·rw[B40 bS]
     ·exact bp j bS
     ·rw[86 bS];exact qr
    ·rw[gP];refine lz (fun q _=>?_);rw[ajL,cZ (l:=17),hi];rfl
 ·rintro⟨n8,h0,u,bp,rfl⟩;exact V6 u bp (.here h0)
theorem ajM{f:06→30}(h0:h27 (g∈F))(ar:∀x∈F,∀y∈f x,y∈F)(h:jM f cm g):g∈F:=by induction h with|here ai=>exact h0 _ ai|step _ aC ih=>exact ar _ ih _ aC
theorem V7{α:272}[BEq α][n26]:∀(l u:40),c75 (645 (x∈u)→63≤i16)|[],u,_,_=>229|x::l,u,az,h=>by have ai:=127 x;have C3:=e40;have:=V7 l (u.erase x) C3.2 (086 (by have d9:y≠x:=100 (C3.1 (e▸aC));exact(ajN d9).mpr (h y 922)));rw[A73 (ajO ai)];have:0<i16:=ah6 ai;rw[dR];lia
theorem V8{α:272}{cs:40}:∀{n:Nat}{g:40},g.length=n→(∀x∈g,x∈cs)→g∈mz cs n|0,[],_,_=>g75|n+1,a::g,ax,h=>by refine ni.mpr ⟨a,127 a,143 g (V8 k39 849)⟩
theorem V9{α:272}(cs:40):∀n,11 (mz cs n)=383^n
 |0=>rfl
 |n+1=>by
  have:∀as:40,11 (p39 (fun a=>687 (mz cs n) (a::r)))=470*11 (mz cs n):=by
   intro as
   induction as with|nil=>simp|cons a t ih=>rw[ta,cn,ih,ba,dR,pq,pv,tp]
  show 11 (i15 _)=_;rw[this,V9 cs n,MP,CH]
def rQ(n k:Nat)(g:06):04:=g.length=k∧∀q∈g,q<n
theorem ajP{k:Nat}{l:30}(az:l.Nodup)(h:∀g∈l,rQ n k g):63≤n^k:=by have:=V7 l (mz 057 k) az (f05 (V8 (h g a4).1 (276 (g4.mpr ((h g a4).2 x ai)))));rw[V9,iP]at this;exact this
theorem ajQ{k:Nat}{rows:30}(aq:b44 (872∧h70 (q<n))){y:06}(a4:rQ n k g)(aC:y∈ot 17 g):rQ n k y:=by obtain⟨r,ajR,rfl⟩:=112 aC;rw[A03 (n96 a4.1) 457];rw[C04 aw];have af:=aq r ajR;have ak:=a4.2 p au;rw[cZ,cA (by rw[af.1];exact ak)];exact af.2 _ 141
theorem ou{n:Nat}{rows:30}(aq:b44 (872∧h70 (q<n))):∀(u:b7){q:Nat},q<n→266 u q<n
 |[],q,h=>h
 |i::u,q,h=>by
  show 266 u (014 i q q)<n;refine ou aq u ?_;rw[A65 (i<666)]
  ·have hm:i30 i∈17:=by rw[cZ,122];exact 141
   have af:=aq _ hm;rw[cZ,cA (p02 af.1)];exact af.2 _ 141
  ·rw[cZ (l:=17),140];exact h
def rR(ea:06)(m:ez):06:=39 980 [0] ea
def rn(rows:30)(ea:06)(m:ez):30:=(rR ea m).map (58 [266 398 q,266 427 q])
def xE(rows:30)(ea:06)(ms:699):30:=p38 (285 (39 669 [] e81))
def zh(rows:30)(ea:06)(ms:699):30:=p38 (285 (39 669 e81 []))
theorem G8{rows:30}(aq:∀q,q∈ea↔d28 ((b88 i)∧q=266 u 0)){m:ez}:g∈e81↔d28 ((b88 i)∧(980=01→u=[])∧g=[266 398 (266 u 0),266 427 (266 u 0)]):=by
 unfold rn rR;rw[cJ];by_cases hf:980=01
 ·rw[21 hf];rw[A04]
  ·rintro⟨q,aw,rfl⟩;rw[A78];exact⟨[],m80,524,rfl⟩
  ·rw[D71];rw[bp hf];exact⟨0,g75,rfl⟩
 ·rw[23 hf];rw[A04]
  ·rintro⟨q,aw,rfl⟩;obtain⟨u,bp,rfl⟩:=(aq q).mp aw;exact⟨u,bp,312 (69 h hf),rfl⟩
  ·rintro⟨u,bp,_,rfl⟩;rw[A26 ((aq _).mpr (714 u bp))]
theorem ajS{rows:30}{ms:699}(aq:∀q,q∈ea↔d28 ((b88 i)∧q=266 u 0))(a4:∀g,g∈cm↔jM (ot 17) (xE 17 ea ms) g)(g:06):g∈cm++zh 17 ea ms↔CL 17 ms g:=by
 rw[e4,a4,G7];rw[A04]
 ·rintro(⟨n8,h0,x,ai,rfl⟩|h)
  ·obtain⟨m,hm,af⟩:=ni.mp h0;by_cases ax:669=01
   ·rw[200]at af;cases af
   ·rw[197]at af;obtain⟨u,bp,hf,rfl⟩:=(G8 aq).mp af;exact⟨m,hm,u,bp,hf,x,ai,312 (69 h ax),rfl⟩
  ·obtain⟨m,hm,af⟩:=ni.mp h;by_cases ax:669=01
   ·rw[200]at af;obtain⟨u,bp,hf,rfl⟩:=(G8 aq).mp af;exact⟨m,hm,u,bp,hf,[],m80,524,rfl⟩
   ·rw[197]at af;cases af
 ·rintro⟨m,hm,u,bp,hf,x,ai,ax,rfl⟩;rw[A39 (669=01)]
  ·rw[ax h];refine .inr (ni.mpr ⟨m,hm,?_⟩);rw[114];exact(G8 aq).mpr ⟨u,bp,hf,rfl⟩
  ·refine .inl ⟨[266 398 (266 u 0),266 427 (266 u 0)],ni.mpr ⟨m,hm,?_⟩,x,ai,rfl⟩;rw[125];exact(G8 aq).mpr ⟨u,bp,hf,rfl⟩
theorem ajT{rows:30}(a4:∀g,g∈cm↔jM (ot 17) [[0]] g)(q:Nat):q∈cm.map g95↔d28 ((b88 i)∧q=266 u 0):=by
 rw[cJ];rw[A04]
 ·rintro⟨g,h,rfl⟩;obtain⟨n8,h0,u,bp,rfl⟩:=G7.mp ((a4 g).mp h);rw[86 h0];exact⟨u,bp,rfl⟩
 ·rintro⟨u,bp,rfl⟩;exact⟨[266 u 0],(a4 _).mpr (G7.mpr ⟨[0],g75,u,bp,rfl⟩),rfl⟩
theorem ajU:667 (b94 []):=Mn cm [] VV
theorem ajV:g∈b94 []↔g∈cm:=by rw[CI];simp
end
end
open PySem PySem.Spec PyProof.Rows
abbrev cF:=Sum Int Str
section
variable{A:rU}{G:Prop}{C I a b c d dx f it p t:ag}{E Q:aH→aZ→Prop}{F:List (List Nat)}{K:bo}{M:Model}{N ps:List Str}{P prog:f3}{S:ag→Prop}{a0 us vs:List aH}{ch:List ag}{aG e:dn}{aR:Array Ip}{ig u:aH}{o:Obj}{ah dG:Str→Option aH}{akf pins:List (ag×Obj)}{cQ:Option ag}{c0 i j n t':Nat}{base h h':dk}{l:List Nat}{ns r ws:List Int}{d':Drawn}{dP:Array (Option aH)}{e8 α β:Type}{env:Env}{g':Array Qs}{x:Str}{outer:List Env}{own:List (Str×Nat)}{q:Search}{s s':dt}{sc:rp}{v:Word}{w:ff}{m:g0}
def vl:cF→481 aH|.inl k,v=>Value.isInt k v|.inr x,v=>ajW x v
def ajX(w:ff):cF→Int|.inl k=>hashInt k|.inr x=>hashStr w x
theorem tx:∀{k:cF}{v:aH},vl k v=01→(∃i t,k=gn i∧v=zT i t)∨(∃x t,k=jR x∧v=C4 x t)|.inl i,v,h=>r94 (Value.isInt_shape (k:=i) (v:=v) h) (.inl ⟨i,t,rfl,e⟩)|.inr x,v,h=>r94 (Value.isStrOf_shape (x:=x) (v:=v) h) (.inr ⟨x,t,rfl,e⟩)
theorem ajY(i:Int)(t:Tok):vl (.inl i) 705=01:=by simp[vl,Value.isInt]
theorem ajZ(x:Str)(t:Tok):vl (.inr x) 857=01:=by simp[vl,ajW]
theorem aj0(a b:Int):29 ((gn a:cF)=gn b)=(a==b):=by
 rw[A06 a b]
 ·subst e;simp
 ·have h:¬(gn a:cF)=gn b:=58 (e (V_ q));rw[113 h];exact 567 (962 e)
theorem aj1(a b:Str):29 ((jR a:cF)=jR b)=29 (a=b):=by
 rw[A06 a b]
 ·subst e;simp
 ·have h:¬(jR a:cF)=jR b:=58 (e (MQ q));rw[113 h,132]
theorem aj2(a:Int)(b:Str):591 (gn a:cF) (jR b):=173 p37
theorem aj3(a:Str)(b:Int):591 (jR a:cF) (gn b):=173 p37
def fg(prog:f3)(w:ff):PySem.KeyKind prog w cF where
 is:=vl
 hash:=ajX w
 inj:=fun v a b aN aa=>by
  rw[B98 aN]
  ·rw[D70 (tx aa)]
   ·rw[C12];rw[aK]
   ·exact l51
  ·rw[D70 (tx aa)]
   ·exact l51
   ·rw[C12];rw[aK]
 byValue:=fun k v h=>by rcases tx h with⟨i,t,rfl,rfl⟩|⟨x,t,rfl,rfl⟩<;>rfl
 pyHash:=fun a3 h=>by
  rw[B98 a3]
  ·exact wpAny_pyHash_int h
  ·exact wpAny_pyHash_str h
 eqBool:=fun bp a3 h=>by
  rw[B98 bp]
  ·rw[D69 (tx a3)]
   ·rw[aj0]at h;exact wpAny_eqBool_int h
   ·rw[aj2]at h;exact aj4 i t y u _ _ _ _ h
  ·rw[D69 (tx a3)]
   ·rw[aj3]at h;exact aj5 x t j u _ _ _ _ h
   ·rw[aj1]at h;exact wpAny_eqBool_str h
 «strs»:=fun k x t v h=>by
  rcases tx h with⟨i,u,rfl,e⟩|⟨y,u,rfl,e⟩
  ·exact l51
  ·rw[C12];subst aK;cases v<;>rfl
theorem tA(prog:f3)(w:ff)(i:Int)(t:Tok):(fg prog w).is (.inl i) 705=01:=ajY i t
theorem aj6(prog:f3)(w:ff)(x:Str)(t:Tok):(fg prog w).is (.inr x) 857=01:=ajZ x t
inductive ae where|b4|bN(b:Bool)|int(i:Int)|str(x:Str)|lD(b:723 UInt8)|G9(b:UInt64)|ref(a:ag)|ty(n:String)deriving DecidableEq
def RelV:ae→92 aH|.b4,u=>u=fh|.bN b,u=>u=xF b|.int i,u=>∃t,u=zT i t|.str x,u=>∃t,u=C4 x t|.lD b,u=>∃t,u=Value.bytes b t|.G9 b,u=>∃t,u=Value.float b t|.ref a,u=>u=da a|.ty n,u=>u=vm n
abbrev cc:08→92 53:=ov RelV
variable{cb:List (Option ae)}{kvs:List (List cF×ae)}{xs ys:List ae}{y:ae}
theorem cc.length{xs:08}{us:53}(r:651):57=891:=rS r
theorem cc.get:∀{xs:08}{us:53}{i:Nat}{x:ae},651→441=43→∃u,us[i]?=56∧684 x|_,_,_,_,.nil,e=>k37|_,_,0,_,.cons r _,e=>by simp at e;subst e;exact 123 r|_,_,i+1,x,.cons _ t,e=>by obtain⟨u,af,ak⟩:=cc.get (i:=i) (x:=x) t 566;exact⟨u,f57,ak⟩
theorem cc.set{x:ae}{u:aH}(r:684 x):∀{xs:08}{us:53}(i:Nat),651→cc (xs.set i x) (us.set i u)|_,_,_,.nil=>89|_,_,0,.cons _ t=>.cons r t|_,_,i+1,.cons q t=>.cons q (cc.set r i t)
theorem cc.append{ws:53}(h:651)(s:cc ys ws):cc (xs++ys) (us++ws):=by induction h with|nil=>exact s|cons r _ ih=>exact 919 r
theorem cc.take:∀{xs:08}{us:53}(n:Nat),651→cc (xs.take n) (us.take n)|_,_,0,_=>89|_,_,_+1,.nil=>89|_,_,n+1,.cons r t=>.cons r (cc.take n t)
theorem cc.drop:∀{xs:08}{us:53}(n:Nat),651→cc (xs.drop n) (us.drop n)|_,_,0,r=>r|_,_,_+1,.nil=>89|_,_,n+1,.cons _ t=>cc.drop n t
def j8:93→92 631|some v,some u=>465|none,none=>625|_,_=>739
def gE:523→92 a89:=ov (fun(p:e8×ae)(q:e8×aH)=>p.1=q.1∧RelV p.2 q.2)
def ec:cF→ae|.inl i=>260|.inr x=>765
inductive dz where|lst(xs:08)|tup(xs:08)|e0(kvs:410)|gf(kvs:028)|set(S:481 Int)(n:Nat)|ins(C dx:ag)(bl:324)|own(x:ag)|zJ(bl:324)|met(f x:ag)|pz(lo hi:Int)|eT(o:Obj)(u:dz)|vn(ps:323)|ext(fQ:92 dk)
abbrev av:=ag→241 dz
variable{H H' H1:av}{bC:dz}
def upd(H:av)(a:ag)(o:dz):av:=506 (13 (b=a) 25 (H b))
theorem aI{o:dz}:upd H a o a=25:=r93 101
theorem aE{o:dz}(h:b≠a):upd H a o b=H b:=r93 125
theorem gp{o u:dz}:761 a o a u=upd H a u:=by funext b;unfold upd;split<;>rfl
theorem eB{o u:dz}(h:H a=25)(h':H b=56)(d:o≠u):a≠b:=by intro e;subst e;rw[h]at h';exact d (cI h')
theorem bT{o:dz}(h:H a=25)(h':H b=00):a≠b:=by intro e;subst e;rw[h]at h';cases h'
section
variable(P:f3)(w:ff)
def fx(H:av)(h:dk)(a:ag):92 dz|.lst xs=>052∧m67 (cc xs a0∧321=some c39)|.tup xs=>052∧∃a0:53,cc xs a0∧IsTup h a 275|.e0 kvs=>a92∧(a==l5)=09∧∃vs,603∧h.DictOf (fg P w) a vs|.gf kvs=>a92∧(a==l5)=09∧∃xs:c62 (ag×aH),ov (fun(p:List cF×ae)(q:List cF×ag×aH)=>p.1=q.1∧H 449=294 (p.1.map ec)∧RelV p.2 423) kvs xs∧∃o aR c0,321=25∧p05∧a70∧n64=078 (MR 414)∧667 (078 379)|.set S n=>h.SetOf (intKind P w) a S n|.ins C dx bl=>H dx=g94∧l49≤1000∧dx≠a∧321=some (xG C dx)∧∃dG,058∧(∀f,j8 000 (dG f))∧G_ dG b75|.own _=>∃o,321=25|.zJ bl=>∃dG,h.Ns1 a dG∧∀f,j8 000 (dG f)|.pz lo hi=>∃t u v,321=some (824 509 #[.int lo t,785 hi,.int 1 v])|.eT o u=>321=25∧fx H h a u|.vn ps=>321=some (l96 ps)|.met f x=>321=some (Wa 590 438)|.ext fQ=>fQ h∧(∃o,321=25)∧∀af ak:dk,fQ af→(∀o,c59 a→ak.get? a=25)→fQ ak
def fy(H:av)(h:dk):04:=∀a o,H a=25→fx P w H h a o
end
section
variable{o:dz}
theorem fx.lt(x:fx P w H h a o):a<397:=by cases o with|lst xs=>rw[C45];exact 105|tup xs=>obtain⟨_,_,_,p⟩:=x;exact p.lt|e0 kvs=>rw[B22];exact 105|gf kvs=>rw[B22];exact 105|set S n=>rw[C44];exact 105|ins C dx bl=>rw[C43];exact 105|own y=>obtain⟨_,e⟩:=x;exact 105|zJ bl=>rw[D30];exact 105|pz lo hi=>rw[D29];exact 105|eT bC u=>obtain⟨e,_⟩:=x;exact 105|vn ps=>exact dm (show 321=c90 from x)|met f y=>exact dm (show 321=c90 from x)|ext fQ=>rw[D45];exact 105
theorem Paired.Ha{F G:712}{MS:40}{l₂:522}(h:ov F MS l₂)(f:∀a b,F a b→G a b):ov G MS l₂:=by induction h with|nil=>rw[A40]|cons r _ ih=>exact 919 (f _ _ r)
theorem fx.lE(x:fx P w H h a o)(k:627 ((b=a∨H b=g94)→319=56→219=56))(a8:∀b,H b=g94→244=g94)(bk:∀b xs,H b=a94→244=a94):fx P w H' h' a o:=by induction o with|lst xs=>obtain⟨z,a0,n,r,e⟩:=x;exact⟨z,a0,n,r,k _ _ 253 e⟩|tup xs=>obtain⟨z,a0,r,bC,e,c⟩:=x;exact⟨z,a0,r,bC,k _ _ 253 e,c⟩|e0 kvs=>obtain⟨z,y,vs,r,bC,aR,c0,e,c⟩:=x;exact⟨z,y,vs,r,bC,aR,c0,k _ _ 253 e,c⟩|gf kvs=>obtain⟨z,y,xs,r,bC,aR,c0,e,c⟩:=x;exact⟨z,y,xs,Paired.Ha r (fun p q z=>⟨z.1,bk _ _ 497,a06⟩),bC,aR,c0,k _ _ 253 e,c⟩|set S n=>obtain⟨bC,aR,c0,t,e,c⟩:=x;exact⟨bC,aR,c0,t,k _ _ 253 e,c⟩|ins C dx bl=>obtain⟨d,z,ne,e,dG,⟨cQ,aR,c0,aG,c⟩,r⟩:=x;exact⟨a8 _ d,z,ne,k _ _ 253 e,dG,⟨cQ,aR,c0,k _ _ (.inr d) aG,c⟩,r⟩|own y=>obtain⟨bC,e⟩:=x;exact⟨bC,k _ _ 253 e⟩|zJ bl=>obtain⟨dG,⟨cQ,aR,c0,e,c⟩,r⟩:=x;exact⟨dG,⟨cQ,aR,c0,k _ _ 253 e,c⟩,r⟩|pz lo hi=>obtain⟨t,u,v,e⟩:=x;exact⟨t,u,v,k _ _ 253 e⟩|eT bC u ih=>obtain⟨e,q⟩:=x;exact⟨k _ _ 253 e,ih q⟩|vn ps=>have e:321=some (l96 ps):=x;show 939 a (l96 ps);exact k a _ 253 e|met f y=>have e:321=some (Wa 590 (.ref y)):=x;show 939 a (Wa 590 (.ref y));exact k a _ 253 e|ext fQ=>obtain⟨p,⟨o,e⟩,st⟩:=x;exact⟨st _ _ p (b60 (k _ _ 253 q)),⟨o,k _ _ 253 e⟩,st⟩
theorem fy.lt(x:fy P w H h)(e:H a=25):a<397:=(x a o e).lt
theorem fy.fresh(x:fy P w H h)(e:397≤a):H a=00:=by cases q:H a with|none=>rfl|some u=>rw[A62 (jN (x.lt q) e) _]
theorem fy.kept(x:fy P w H h)(k:627 (319=56→219=56)):fy P w H h':=fun a o e=>(x a o e).lE (fun b u _ q=>k b u q) g04 b78
theorem fy.laid(x:fy P w H h)(k:627 (319=56→219=56))(au:397≤a)(new:fx P w (upd H a o) h' a o):fy P w (upd H a o) h':=d08 (by
 have aU:=x.fresh au;by_cases aa:b=a
 ·subst aa;rw[aI]at e;cases e;exact new
 ·rw[aE aa]at e;exact(x b u e).lE (p13 (k c v q)) (l41 (d55 q aU)) (l40 (d55 q aU)))
end
def tB(H:av)(a:ag)(u:dz):04:=H a=56∨∃o,H a=798 u
theorem tB.ok{u:dz}(r:tB H a u)(x:fy P w H h):fx P w H h a u:=by
 rcases r with r|⟨o,r⟩
 ·exact x a u r
 ·obtain⟨_,q⟩:=x a _ r;exact q
def vo:92 (241 dz)|some (.lst _)=>625|some (.e0 _)=>625|some (.gf _)=>625|some (.set _ _)=>625|some (.ins _ _ _)=>625|some (.ext _)=>625|_=>739
section
variable{x e:ag}{dr:dz}
theorem fy.write(ok:fy P w H h)(hJ:vo (H x))(he:e=x∨H e=some 641)(k:627 (b≠e→319=56→219=56))(zU:∃u,h'.get? e=56)(new:fx P w (upd H x dr) h' x dr):fy P w (upd H x dr) h':=i01 (by
 have Wb:∀c y,H c=some (.own y)→c≠x:=fun c y r z=>r92;have aj7:∀c xs,H c=a94→c≠x:=fun c xs r z=>r92;by_cases aa:b=x
 ·subst aa;rw[aI]at q;cases q;exact new
 ·rw[aE aa]at q;by_cases l6:b=e
  ·have eU:H b=some 641:=by
    rcases he with z|z
    ·exact 69 (l6.trans z) aa
    ·rw[l6];exact z
   rw[q]at eU;cases eU;obtain⟨v,a3⟩:=zU;exact⟨v,by rw[l6];exact a3⟩
  ·refine m71 (ok b u q) (k c v ?_ r) (i71 (Wb c b r)) (i71 (aj7 c xs r));rw[B80]
   ·exact l6
   ·rw[A91];rcases he with z|z
    ·exact Wb c b ar z
    ·rw[ar]at z;cases z;exact aa rfl)
end
structure ir(bl ex:27)(H H':av)(h h':dk):04 where
 keep:c56 (H b=00→b∉bl→b∉ex→219=25)
 slot:c56 (H b=00→b∈bl→b∉ex→∃dP,219=j39)
 free:c56 (H b=00→b∉ex→244=00)
 there:c56 (b∉ex→∃dr,219=some dr)
 pA:∀b xs,H b=a94→244=a94
 nx:∀b o u,H b=798 u→244=798 u
 pB:∀b ps,H b=k13 ps→∃more,244=k13 (ps++more)
section
variable{bl zV ex aA2:27}{af ak:dk}{x e:ag}{o:dz}
theorem ir.any(u:ir bl ex H H1 h af){bC:Obj}(q:319=466)(n:H b=00)(ai:b∉ex):∃dP,af.get? b=some {bC with slots:=dP}:=by
 by_cases aa:b∈bl
 ·exact u.slot b bC q n aa ai
 ·exact⟨bC.slots,u.keep b bC q n aa ai⟩
theorem ir.kept(k:627 (319=56→219=56)):ir bl ex H H h h':=⟨r91 (k b bC q),r91 (g27 (k b bC q)),fun _ _ _ n _=>n,fun b bC q _=>⟨bC,k b bC q⟩,b78,fun _ _ _ q=>q,fun _ ps q=>⟨#[],by rw[q];simp⟩⟩
theorem ir.refl:ir bl ex H H h h:=ir.kept b78
theorem ir.laid(k:627 (319=56→219=56))(au:397≤a)(aU:H a=00):ir bl ex H (upd H a o) h h' where
 keep:=fun b u q _ _ _=>k b u q
 slot:=fun b u q _ _ _=>⟨u.slots,k b u q⟩
 free:=fun b u q n _=>m41 (fk (jN (dm q) au))
 there:=fun b u q _=>⟨u,k b u q⟩
 pA:=p15 (d55 q aU)
 nx:=fun b u xs q=>d55 q aU
 pB:=fun b ps q=>⟨#[],by rw[110 q aU,q];simp⟩
theorem ir.write(hJ:vo (H x))(he:e=x∨H e=some 641)(k:627 (b≠e→319=56→219=56))(zU:∃u,h'.get? e=56):ir bl ex H (upd H x o) h h':=by
 have ai:∀b,H b=00→b≠x:=fun b n z=>by subst z;rw[n]at hJ;exact hJ
 have aa:∀b,H b=00→b≠e:=fun b n z=>by
  subst z;rcases he with r|r
  ·exact ai b n r
  ·rw[n]at r;cases r
 have hm:627 (H b=56→¬vo 56→b≠x):=fun b u q nm z=>by subst z;rw[q]at hJ;exact nm hJ
 refine⟨fun b u q n _ _=>k b u (aa b n) q,fun b u q n _ _=>⟨u.slots,k b u (aa b n) q⟩,fun b u q n _=>m41 (ai b n),fun b u q _=>?_,p15 (b70 (hm b _ q (16 z))),fun b u xs q=>b70 (hm b _ q (16 z)),fun b ps q=>⟨#[],by rw[aE (hm b _ q (16 z)),q];simp⟩⟩;by_cases l6:b=e
 ·subst l6;exact zU
 ·exact⟨u,k b u l6 q⟩
end
def Hb(h:dk)(H:av):27:=908 397 (fun a=>736 (H a))
def tC(h:dk)(H:av):dk:=PySem.W.hideAll h (Hb h H)
theorem aj8(h:dk)(H:av):424 (tC h H)=397:=PySem.W.hideAll_size _ _
theorem aj9(e:319=25)(n:H b=00):782 (tC h H)=25:=PySem.W.hideAll_get _ e (fun hm=>by have q:736 (H b)=01:=(ob.mp hm).2;rw[n]at q;simp at q)
theorem aka(e:782 (tC h H)=25):319=25∧H b=00:=by
 have bZ:319=25:=PySem.W.of_hideAll (Hb h H) e;rw[A27 bZ]
 cases q:H b with|none=>rfl|some x=>have hm:b∈Hb h H:=ob.mpr ⟨g4.mpr (dm bZ),by simp[q]⟩;have z:782 (tC h H)=00:=PySem.W.hideAll_none (Hb h H) hm;rw[z]at e;cases e
structure Mod(K:bo)(ah:261)(base:dk):04 where
 qz:K.In 02
 glob:g48 i6
 blt:∃cB,base.Ns Wc cB∧∀x:Str,g26 x→cB x=rT x
 nolimit:base.NoLimit
structure dT where
 prog:f3
 w:ff
 K:bo
 ah:261
 base:dk
 A:rU
 N:221
 iU:aZ
 xH:av
 env:Env
 outer:596
 stack:596
 ex:27
 fn:481 Str
 calm:Bool
 iQ:225
 dC:489
def kv(l:596):27:=p36 (·.frame)
variable{X:dT}
abbrev dT.bl(X:dT):27:=kv 092
def zW(sc:rp)(x:Str):04:=a23=491∨a23=492∨a23=779
def F6(sc:rp)(x:Str):04:=a23=491∨a23=492
def aAN(env:Env)(h:dk)(m:261)(x:Str)(u:aH):04:=(n33=491∧m x=56)∨((n33=492∨n33=779)∧∃c,m95 x 73∧h.IsCell c 56)
structure dT.Ok(X:dT):04 where
 mod:Mod X.K 507 341
 kind:i09 h89
 glob:o57=i6
 blt:X.env.builtins=Wc
 above:a08≤473
 inj:∀x y c,632=73→d35 y=73→x=y
 has:∀x,(j03=492∨j03=779)→∃c,632=73
 zX:893 (c83=01→632=73→a08≤c)
 hd:394→X.A.handled=00
 frames:X.A.frames=some 675
 C5:675=092∨(675=55::092∧X.env.frame=some 473)
 C6:∀b∈X.ex,053∧893 (632=73→c≠b)
 bs:374 f97 (d59=25∧X.xH b=00)
 qA:X.base.objs.size≤a08
 zY:374 f97 (b∉X.ex)
 zZ:∀b∈X.ex,b∉679
 ow:X.iU.heap.FunFrames 341 092
 vp:∀b∈X.bl,X.xH b=00
structure aQ(X:dT)(pins:225)(σ:List 93)(H:av)(s:aZ):04 where
 ok:X.Ok
 os:s.os=X.iU.os
 bare:xI d15
 base:ir 679 X.ex X.xH H X.iU.heap 28
 loc:∃m,s.heap.Ns 473 m∧∀(i:Nat)(x:Str)(v:ae),850=43→c89=453 v→zW 628 x→∃u,465∧aAN 55 28 m x u
 cell:893 (632=73→∃v,s.heap.IsCell c v)
 free:H 473=00
 iS:893 (632=73→H c=00)
 pin:∀p∈X.iQ++07,393 p.1 p.2∧H p.1=00∧p.1≠473∧p.1∉679∧∀v,p.2.data≠.cell v
 bB:fy 61 X.w H 28
 len:b61=h86
section
variable{σ:List 93}{s:aZ}
theorem dT.Ok.akb(ok:X.Ok)(e:f97=25):b∉679:=fun aa=>r90 (ok.ow.mem aa).1
theorem aQ.bs(I:24):374 f97 (346∧H b=00):=351 ⟨I.base.keep b o (I.ok.bs b o e).1 (I.ok.bs b o e).2 (I.ok.akb e) (I.ok.zY b o e),a31 b (I.ok.bs b o e).1 (I.ok.bs b o e).2 (I.ok.zY b o e)⟩
theorem aQ.eO(I:24):374 f97 346:=351 (I.bs b o e).1
theorem aQ.mod(I:24):Mod X.K 507 341:=I.ok.mod
theorem aQ.gF(I:24):X.K.In 28:=I.ok.mod.qz.keeps I.eO
theorem aQ.fr(I:24):∃m,Fr 341 473 28 m:=let⟨m,aU,_⟩:=I.loc;⟨m,aU,I.eO,g49 h88⟩
theorem aQ.lt(I:24):473<18:=let⟨_,aU,_⟩:=I.loc;aU.lt
theorem aQ.qB(I:24):a08≤18:=cX h88 (xJ I.lt)
theorem aQ.akc(I:24)(h:18≤a):a∉679:=fun aa=>by obtain⟨_,o,a8,_⟩:=I.ok.ow.mem aa;exact 69 (jN (dm a8) (cX I.qB h)) (kV _)
theorem aQ.vq(I:24):893 (632=73→c≠473):=fun x c e z=>by obtain⟨v,o,a8,hd⟩:=c46 x e;obtain⟨m,⟨dr,aR,c0,ju,kW,_⟩,_⟩:=I.loc;rw[z,ju]at a8;cases a8;rw[kW]at hd;cases hd
theorem aQ.ow(I:24):l95 092:=by
 have all:∀(l:596),(∀b∈kv l,b∈679)→X.iU.heap.FunFrames 341 l→l95 l:=by
  intro l
  induction l with|nil=>intro _ _;trivial|cons env r ih=>intro aL ax;obtain⟨aS,⟨L,o,hf,aU,a8,hd⟩,aq⟩:=ax;have gG:L∈679:=aL L (by unfold kv;rw[w2,hf];exact dO);obtain⟨dP,e⟩:=I.base.slot L o a8 (I.ok.vp L gG) gG (16 (I.ok.zZ L z gG));exact⟨aS,⟨L,_,hf,aU,e,hd⟩,ih (350 (aL b (by unfold kv;rw[w2,hf];exact d4 _ aa))) aq⟩
 exact all 092 (fun _ aa=>aa) I.ok.ow
theorem aQ.stack(I:24):l95 675:=by
 rw[D68]
 ·rw[e];exact I.ow
 ·rw[e];obtain⟨m,aU,_⟩:=I.loc;refine .cons (by rw[I.ok.kind];decide) hf aU ?_ I.ow;exact akd (g49 h88)
theorem aQ.Hc(I:24):∀b∈j43,b∈473::679:=350 (by
 rw[D68]
 ·rw[e]at aa;exact d4 _ aa
 ·rw[e]at aa;unfold kv at aa;rw[w2,hf]at aa;exact aa)
theorem aQ.Hd(I:24):∀b∈j43,H b=00:=350 (by
 rcases j58 b aa with e|aa
 ·rw[e];exact I.free
 ·obtain⟨_,o,a8,_⟩:=I.ok.ow.mem aa;exact a31 b a8 (I.ok.vp b aa) (16 (I.ok.zZ b z aa)))
theorem aQ.step(I:24)(rV:i06 ((b∈X.ex∨a08≤b)∧053∧(893 (632=73→c≠b))∧∀p∈X.iQ++07,p.1≠b))(keep:300 053 (b∉679→b∉ch→346→H b=00→219=25))(slot:300 053 (b∈679→b∉ch→346→H b=00→∃dP,219=j39))(free:300 (b∉ch) (346→H b=00→244=00))(there:300 (b∉ch) (346→∃dr,219=some dr))(pA:∀b xs,H b=a94→244=a94)(nx:∀b o u,H b=798 u→244=798 u)(pB:∀b ps,H b=k13 ps→∃more,244=k13 (ps++more))(ns:∀m,s.heap.Ns 473 m→h'.Ns 473 m)(bB:fy 61 X.w H' h')(a4:xI g'):aQ X 07 σ H' r88:=by
 have Wd:374 d59 053:=351 (fk g46);have He:374 d59 (b∉X.ex→b∉ch):=fun b o e ai aa=>by
  rw[A61 (rV b aa).1]
  ·exact ai z
  ·rw[A62 (jN 105 z) _]
 have cellK:893 (632=73→∀v,s.heap.IsCell c v→h'.IsCell c v):=fun x c e v⟨o,a8,hd⟩=>by
  have C7:c∉ch:=16 ((rV c z).2.2.1 x c e rfl);by_cases ar:c∈679
  ·obtain⟨dP,q⟩:=slot c o (I.vq x c e) ar C7 a8 (I.iS x c e);exact⟨_,q,hd⟩
  ·exact⟨o,keep c o (I.vq x c e) ar C7 a8 (I.iS x c e),hd⟩
 refine⟨I.ok,I.os,a4,⟨b93,b93,fun b o e n ai=>?_,j94,p14 (pA b xs (I.base.pA b xs e)),fun b o xs e=>nx b o xs (I.base.nx b o xs e),i05 ?_⟩,?_,n45,?_,n45,263,bB,b54⟩
 ·exact keep b o (Wd b o e) aa (He b o e ai) (I.base.keep b o e n aa ai) (a31 b e n ai)
 ·rw[B81 (I.base.slot b o e n aa ai)];obtain⟨ake,aG⟩:=slot b _ (Wd b o e) aa (He b o e ai) aK (a31 b e n ai);exact⟨ake,aG⟩
 ·rw[B70 o e ai];exact free b dr (He b o e ai) aK (a31 b e n ai)
 ·rw[B70 o e ai];exact there b dr (He b o e ai) aK
 ·obtain⟨hx,aK⟩:=I.base.pB b ps e;obtain⟨ip,aG⟩:=pB b _ aK;exact⟨hx++ip,by rw[aG,Array.append_assoc]⟩
 ·rw[B90];refine⟨m,ns m aU,r86 ?_⟩;rw[C67 (ax i x v aK aG cp)];rw[A20 u r];rcases l with l|⟨k,c,e,z⟩
  ·rw[A17 l]
  ·rw[A09 ⟨k,c,e,cellK x c e _ z⟩]
 ·obtain⟨v,z⟩:=c46 x e;exact⟨v,cellK x c e v z⟩
 ·obtain⟨m,⟨o,_,_,a8,_⟩,_⟩:=I.loc;exact free _ o (16 ((rV _ z).2.1 rfl)) a8 741
 ·obtain⟨v,o,a8,hd⟩:=c46 x e;exact free c o (16 ((rV c z).2.2.1 x c e rfl)) a8 (I.iS x c e)
 ·rw[C03 p au];have C7:p.1∉ch:=16 ((rV p.1 z).2.2.2 p au rfl);exact⟨keep p.1 p.2 ne nr C7 e n,free p.1 p.2 C7 e n,ne,nr,d⟩
theorem aQ.un(I:24)(u:ir 679 [] H H' 28 h')(bB:fy 61 X.w H' h'):f66 H':=by rw[D67 (id 093)];obtain⟨dP,gG⟩:=u.any a8 741 19;exact I.step (g':=d15) (d':=h82) (ch:=[]) (fun _ z=>l39) (r89 (u.keep b o e n aa 19)) (r89 (u.slot b o e n aa 19)) (fun b o _ e n=>u.free b o e n 19) (fun b o _ e=>u.there b o e 19) u.pA u.nx u.pB (fun eg hm=>r87 ⟨_,vr,vt,gG,dF⟩) bB 579
theorem aQ.call(I:24)(u:ir j43 ch H H' 28 h')(bB:fy 61 X.w H' h')(a4:xI g')(rV:i06 ((b∈X.ex∨a08≤b)∧053∧(893 (632=73→c≠b))∧∀p∈X.iQ++07,p.1≠b)):aQ X 07 σ H' r88:=by rw[D67 (id 093)];obtain⟨dP,gG⟩:=u.any a8 741 (16 ((rV _ z).2.1 rfl));exact I.step (ch:=ch) rV (fun b o gG aa ar e n=>u.keep b o e n (16 ((j58 b z).elim gG aa)) ar) (fun b o _ _ ar e n=>u.any e n ar) (fun b o ar e n=>u.free b o e n ar) (fun b o ar e=>u.there b o e ar) u.pA u.nx u.pB (fun eg hm=>r87 ⟨_,vr,vt,gG,dF⟩) bB a4
theorem aQ.turned(I:24)(k:300 (b≠it) (346→219=25))(aU:H it=00)(gG:it≠473)(af:it∈X.ex∨a08≤it)(ak:893 (632=73→c≠it))(a6:∀p∈X.iQ++07,p.1≠it):l78:=by
 have pC:627 (H b=56→b≠it):=p16 (by rw[z,aU]at e;cases e);refine I.step (g':=d15) (d':=h82) (ch:=[it]) 773 (f61 (k b o m87 e)) (f61 ⟨o.slots,k b o m87 e⟩) (fun _ _ _ _ n=>n) (m79 o (k b o m87 e)) (fun _ _ e=>e) (fun _ _ _ e=>e) (i05 ⟨#[],by rw[e];simp⟩) 764 n39 579
 ·have e:b=it:=120;subst e;exact⟨af,gG,ak,a6⟩
 ·rw[C60];exact⟨o,aR,c0,k _ o (jq gG) a8,r⟩
 ·refine j44 (I.bB b u e) (k c v ?_ q) g04 b78;rw[C59]
  ·rw[z];exact pC b u e
  ·exact pC c _ z
theorem aQ.tok(I:24)(t:Nat):aQ X 07 σ H {s with toks:=t}:=I.un (h':=28) (t':=t) ir.refl 274
theorem aQ.kept{t':Nat}(I:24)(k:627 (878 b=56→219=56)):l78:=I.un (ir.kept k) (I.bB.kept k)
theorem aQ.laid{a:ag}{o:dz}{t':Nat}(I:24)(k:627 (878 b=56→219=56))(au:18≤a)(new:fx 61 X.w (upd H a o) h' a o):f66 (upd H a o):=I.un (ir.laid k au (082 au)) (I.bB.laid k au new)
theorem aQ.write{x e:ag}{o:dz}{t':Nat}(I:24)(hJ:vo (H x))(he:e=x∨H e=some 641)(k:627 (b≠e→878 b=56→219=56))(zU:∃u,h'.get? e=56)(new:fx 61 X.w (upd H x o) h' x o):f66 (upd H x o):=I.un (ir.write hJ he k zU) (I.bB.write hJ he k zU new)
theorem aQ.weak(I:24)(ax:cb.length=b61)(w:∀(i:Nat)v,cb[i]?=453 v→c89=453 v):aQ X 07 cb H s:=⟨I.ok,I.os,579,f40,let⟨m,aU,tm⟩:=I.loc;⟨m,aU,r86 (tm i x v aK (w i v aG) cp)⟩,d19,741,I.iS,I.pin,274,ax.trans b54⟩
theorem aQ.We(I:24)(h:∀p∈akf,393 p.1 p.2∧H p.1=00∧p.1≠473∧p.1∉679∧∀v,p.2.data≠.cell v):aQ X akf σ H s:=⟨I.ok,I.os,579,f40,093,d19,741,I.iS,367 ((362 au).elim (16 (I.pin p (Hf _ z))) (h p)),274,b54⟩
theorem MT(fs:N.Nodup)(a:N[i]?=43)(b:N[j]?=43):i=j:=by obtain⟨af,aK⟩:=oi.mp a;obtain⟨ak,aG⟩:=oi.mp b;exact(ahJ fs).mp (aK.trans aG.symm)
theorem Wf{v:ae}{Q:592}(I:24)(fs:X.N.Nodup)(hi:850=43)(ai:F6 628 x)(r:465)(h:∀s',aQ X 07 j78 H s'→(∃a,ox a 28 542∧(a=473∨632=532))→Q () s')(hf:c83=01∨b66=491:=by first|exact .inl rfl|exact .inr rfl|assumption):a9 M A (n25 x u) Q E s:=by
 obtain⟨m,aU,ax⟩:=id 093;have MU:(h89==.class||(h89==.module&&473 !=o57))=09:=q78;have xK:i<b61:=m01 hi;have vq:=I.vq;have tracked:∀{a:ag}{h':dk},(∃o,586 a∧H a=00)→ox a 28 h'→fy 61 X.w H h':=fun{a h':_}aN aL b bC e=>by
  obtain⟨_,_,oe⟩:=aN;refine(I.bB b bC e).lE (fun c gQ ar q=>38 (aL.2 c ?_) q) g04 b78;rw[A91];rw[B80]
  ·rw[oe]at e;cases e
  ·rw[oe]at ar;cases ar
 rcases ai with aS|aS
 ·refine wpAny_storeName_local aS aU (fun h' Wg aL=>?_) MU;obtain⟨akg,_,_,akh,_⟩:=id aU;refine h _ ⟨I.ok,I.os,579,⟨b93,b93,I.base.free,j94,o69,o68,o67⟩,⟨_,Wg,r85 ?_⟩,k20,741,I.iS,263,tracked ⟨akg,akh,741⟩ aL,r84⟩ ⟨_,aL,253⟩
  ·exact 38 (aL.2 b (fk g46)) (I.base.keep b o e n aa ai)
  ·rw[B81 (I.base.slot b o e n aa ai)];exact⟨dP,38 (aL.2 b (fk g46)) aK⟩
  ·rw[B70 o e ai];exact⟨dr,38 (aL.2 b (fk g46)) aK⟩
  ·by_cases bS:j=i
   ·subst bS;rw[hi]at aK;cases aK;rw[rz xK]at aG;cases aG;exact⟨u,r,.inl ⟨aS,19⟩⟩
   ·rw[u_ (jq bS)]at aG;obtain⟨jT,dF,q⟩:=ax j y vu aK aG cp;rw[A20 jT dF];rcases q with⟨k,e⟩|⟨k,c,e,z⟩
    ·refine .inl (328 k);have:y≠x:=100 (bS (MT fs aK (e▸hi)));simp[this,e]
    ·rw[A09 ⟨k,c,e,z.sameBut aL (vq y c e)⟩]
  ·obtain⟨gQ,z⟩:=c46 y e;exact⟨gQ,z.sameBut aL (vq y c e)⟩
  ·rw[C03 p au];exact⟨38 (aL.2 p.1 ne) e,n,ne,nr,d⟩
 ·have MV:c83=01:=by
   rcases hf with z|z
   ·exact z
   ·rw[z]at aS;cases aS
  rw[C62 (I.ok.has x (.inl aS))];obtain⟨gQ,z⟩:=c46 x ar;refine wpAny_storeName_cell 094 aS ar z (fun h' oy aL=>?_);obtain⟨ig,Wh,aki⟩:=id z;refine h 537 ⟨I.ok,I.os,579,⟨b93,b93,I.base.free,j94,o69,o68,o67⟩,⟨m,aU.sameBut aL (jq (vq x c ar)),r85 ?_⟩,fun y jU e=>?_,741,I.iS,263,tracked ⟨ig,Wh,I.iS x c ar⟩ aL,r84⟩ ⟨c,aL,.inr ar⟩
  ·exact 38 (aL.2 b (fk (jN 105 (I.ok.zX x c MV ar)))) (I.base.keep b o e n aa ai)
  ·rw[B81 (I.base.slot b o e n aa ai)];exact⟨dP,38 (aL.2 b (fk (jN 105 (I.ok.zX x c MV ar)))) aK⟩
  ·rw[B70 o e ai];exact⟨dr,38 (aL.2 b (fk (jN 105 (I.ok.zX x c MV ar)))) aK⟩
  ·by_cases bS:j=i
   ·subst bS;rw[hi]at aK;cases aK;rw[rz xK]at aG;cases aG;exact⟨u,r,.inr ⟨.inl aS,c,ar,oy⟩⟩
   ·rw[u_ (jq bS)]at aG;obtain⟨jT,dF,q⟩:=ax j y vu aK aG cp;rw[A20 jT dF];rcases q with q|⟨k,jU,e,j9⟩
    ·rw[A17 q]
    ·refine .inr ⟨k,jU,e,j9.sameBut aL ?_⟩;rw[A91];exact bS (MT fs aK (I.ok.inj _ _ _ e ar▸hi))
  ·by_cases Wi:jU=c
   ·subst Wi;rw[A08 oy]
   ·obtain⟨rN,es⟩:=I.cell y jU e;exact⟨rN,es.sameBut aL Wi⟩
  ·rw[C03 p au];refine⟨38 (aL.2 p.1 ?_) e,n,ne,nr,d⟩;intro q;rw[q,Wh]at e;have eU:ig=p.2:=cI e;exact d gQ (by rw[←eU];exact aki)
theorem C8{v:ae}{Q:592}(I:24)(fs:X.N.Nodup)(hi:850=43)(ai:F6 628 x)(r:465)(h:∀s',aQ X 07 j78 H s'→Q () s')(hf:c83=01∨b66=491:=by first|exact .inl rfl|exact .inr rfl|assumption):a9 M A (n25 x u) Q E s:=Wf I fs hi ai r (fun s' jV _=>h s' jV) hf
theorem aQ.Hg{s':aZ}(I:24)(a8:s'.os=s.os)(u:ir j43 ch H H' 28 542)(bB:fy 61 X.w H' 542)(a4:j69)(rV:i06 ((b∈X.ex∨a08≤b)∧053∧(893 (632=73→c≠b))∧∀p∈X.iQ++07,p.1≠b)):050:=by obtain⟨h',g',d',t',dr⟩:=s';have e:dr=s.os:=a8;subst e;exact I.call (g':=g') (t':=t') (d':=d') u bB a4 rV
end
end
abbrev bD:=aH→546 639
abbrev bq:=List 93
abbrev aW:=546 ae
abbrev ct:=bq→637 aW
abbrev j6:=bq→637 (a58)
abbrev fG:=bq→637 (546 08)
section
variable{A:rU}{C D I a b c d f it p t:ag}{E Q:aH→aZ→Prop}{K:bo}{M:Model}{N:List Str}{P prog:f3}{R:Result→aZ→Prop}{pos pos' te:Pos}{T:String}{a0 its' us vs:List aH}{aD df:List ag}{aG e eD iter:dn}{aR:Array Ip}{ek f1 u:aH}{o:Obj}{pins:List (ag×Obj)}{body:List bK}{b0 i j n t':Nat}{h h':dk}{g l:List Nat}{r:List Int}{d':Drawn}{done:List (Nat×List Int)}{e8 α:Type}{h3:Nat→dk→Prop}{x:Str}{op:CmpOp}{pl:Sem Bool}{q:Search}{s s':dt}{tk:Tok}{v:Word}{w:ff}{m:g0}{cb:List (Option ae)}{kvs:List (List cF×ae)}{xs ys:List ae}{y:ae}{H H' H1 aB:av}{X:dT}{M0:ae→ae→av→aW→Prop}{bW c7 g7 to ty:ct}{pF:j6}
structure lY where
 cz:409
 l7:aW
 eO:409:=fun _ _=>False
 ek:409:=fun _ _=>False
abbrev gH:=lY→409
inductive hK(X:dT)(pins:225)(σ:bq)(Q:aW)(u:aH)(s':aZ):04|mk:∀v H',050→465→Q v H'→hK X 07 σ Q u s'
def Hh(X:dT)(pins:225)(σ:bq)(Q:a58)(b:Bool)(s':aZ):04:=∃H',050∧Q b H'
inductive Wj(X:dT)(pins:225)(σ:bq)(Q:546 08)(us:53)(s':aZ):04|mk:∀vs H',050→a93→Q vs H'→Wj X 07 σ Q us s'
def tD(X:dT)(pins:225)(D:lY)(f:Flow)(s':aZ):04:=match f with|.next=>f58 (aQ X 07 cb H' s'∧D.cz cb H')|.brk=>f58 (aQ X 07 cb H' s'∧D.eO cb H')|.cont=>f58 (aQ X 07 cb H' s'∧D.ek cb H')|.ret u=>∃v cb H',aQ X 07 cb H' s'∧465∧D.l7 v H'
def bF(X:dT)(e:dn)(t:ct):04:=r81 225 (24→t σ H Q→a9 47 X.A 688 496 68 s)
def mI(X:dT)(e:dn)(t:j6):04:=l81 225 571 (24→t σ H Q→a9 47 X.A (j68 e 688) (Hh X 07 σ Q) 68 s)
def vv(X:dT)(e:dn)(t:j6):04:=∀(whole:054)(pins:225)(s:aZ)(σ:bq)(H:av)(Q:a58),24→t σ H Q→a9 47 X.A (j68 e 510) (Hh X 07 σ Q) 68 s
theorem vv.pt{t:j6}(h:vv X e t):mI X e t:=h _
def hZ(X:dT)(aR:439)(t:fG):04:=∀(pos:Pos)(pins:225)(s:aZ)(σ:bq)(H:av)(Q:546 08),24→t σ H Q→a9 47 X.A (spliced (hA pos 458)) (Wj X 07 σ Q) 68 s
def iV(X:dT)(st:bK)(t:gH):04:=r83 225 (24→t D σ H→a9 47 X.A (exec st 55) (tD X 07 D) 68 s)
def mJ(X:dT)(st:List bK)(t:gH):04:=r83 225 (24→t D σ H→a9 47 X.A (execs st 55) (tD X 07 D) 68 s)
theorem bY{t:Sem α}{Q tE:455 α}{s:aZ}(h:a9 M A t Q E s)(g6:∀a s,Q a s→tE a s):a9 M A t tE E s:=j_ h g6 d65
section
variable{tb:gH}
theorem aCy{a b:dn}{tb:ct}(aN:658)(aa:944 b){s:aZ}{σ:bq}{R:ae→546 ae}(I:24)(h:bW σ H (291 (tb σ H1 (890 (R x y aB))))){Q:455 α}{f:aH→aH→Sem α}(hf:∀v u s2 x y aB,aQ X 07 σ aB s2→718→464→R x y aB→a9 47 X.A (f v u) Q 68 s2):a9 47 X.A (405 a) (fun v ep=>a9 47 X.A (405 b) (fun u iu=>a9 47 X.A (f v u) Q 68 iu) 68 ep) 68 s:=by refine 874 (aN 07 s σ H _ I h);refine f65 (aa 07 s1 σ H1 _ aX bg) ?_;exact hf v u s2 x y aB b5 bU cT cf
inductive iW(i:Nat)(σ:bq)(H:av)(Q:aW):04|mk:∀v,c89=453 v→Q v H→iW i σ H Q
def qC(v:ae):ct:=j67 v H
theorem akj(fs:850=43)(a3:zW 628 x)(hd:(x==598)=09:=by decide)(ny:(x==(r31:Str))=09:=by decide):bF X c42 (iW i):=by
 rw[A13];obtain⟨v,e,h⟩:=h;rw[B90];rw[C67 (ax i x v fs e a3)];have fin:hK X 07 σ Q u s:=⟨v,H,I,r,h⟩;rw[D66]
 ·exact wpAny_Name (akk 094 aS aU hm fin) hd
 ·rcases aS with aS|aS
  ·exact wpAny_Name (akl 094 aS ar Hi fin) hd
  ·exact wpAny_Name (wpAny_loadName_free 094 aS ar Hi fin ny) hd
theorem bu{i j pos:_}:j41 260 j pos (qC 260):=f54 (wpAny_Constant_int ⟨260,H,279,282,h⟩)
theorem l8{b j pos:_}:j41 j89 j pos (qC a81):=f54 (Constant_bool (128 b H I h))
theorem et{j pos:_}:j41 87 j pos (qC .b4):=f54 (Constant_none ⟨.b4,H,I,rfl,h⟩)
theorem fl{x j pos:_}:j41 765 j pos (qC 765):=f54 (Calls.Constant_str ⟨765,H,279,282,h⟩)
def h1(X:dT)(x:Str):04:=j03=some .globalImplicit
theorem xM{s:aZ}{σ:bq}(I:24)(a4:797)(hm:a98=56)(h:Q u s)(hd:(x==598)=09:=by decide):a9 47 X.A (405 c42) Q E s:=akm 094 a4 (Calls.loadGlobal_global (r82 l99) hm h) hd
theorem qD{s:aZ}{σ:bq}(I:24)(a4:797)(hm:a98=00)(a3:rT x=56)(h:Q u s)(aU:g26 x:=by decide)(hd:(x==598)=09:=by decide):a9 47 X.A (405 c42) Q E s:=by obtain⟨cB,af,ak⟩:=I.mod.blt;exact akm 094 a4 (Calls.loadGlobal_builtin (r82 l99) hm (by rw[I.ok.blt];exact af.keeps I.eO) (38 (ak x aU) a3) h) hd
theorem akn{v:ae}(a4:797)(hm:a98=56)(r:465)(hd:(x==598)=09:=by decide):bF X c42 (qC v):=f54 (xM I a4 hm ⟨v,H,I,r,h⟩ hd)
variable{a b:dn}{tb:ct}
def Hj(X:dT)(op:CmpOp)(a b:dn)(t:ct):04:=r81 225 (24→t σ H Q→a9 47 X.A (405 a) (fun v ep=>a9 47 X.A (405 b) (fun u iu=>a9 47 X.A (jv op v u) 496 68 iu) 68 ep) 68 s)
theorem ako(b:dn)(h:op≠.In)(ak:op≠.NotIn):z0 op b=09:=by
 have aK:(op==CmpOp.In)=09:=by cases op<;>first|rfl|rw[A64 h]
 have aG:(op==CmpOp.NotIn)=09:=by cases op<;>first|rfl|rw[A64 ak]
 rw[D61]
inductive Wk(Q:a58)(x:ae)(H1:av):04|mk:∀c,x=.bN c→Q c H1→Wk Q x H1
def akp(t:ct):j6:=262 (t σ H (291 (Wk Q x H1)))
theorem MW{t:ct}(h:Hj X op a b t)(af:z0 op b=09:=by first|exact ako _ (by decide) (by decide)|rfl):mI X (k09 a [op] [b]) (akp t):=by rw[D55];refine akq (bY (h 07 s σ H _ I hw) (k90 (bY af (fun u s2 ak=>bY ak (fun c s3⟨x,H1,aX,bU,bg⟩=>?_))))) af;obtain⟨d,rfl,q⟩:=bg;cases bU;exact xN ⟨H1,aX,q⟩
variable{pD Hk:j6}{rest:439}
def akr(t u:j6):j6:=j49 H (39 c (u σ H1 Q) (Q 09 H1))
def aks(t u:j6):j6:=j49 H (39 c (Q 01 H1) (u σ H1 Q))
def akt(t:j6):j6:=j49 H (Q (! c) H1)
theorem xO(aN:mI X a pD):vv X (831 .And [a]) pD:=by
 rw[B94];refine isTrue_and (bY (aN 07 s σ H Q I h) (fun c s1 e=>?_))
 cases c with|true=>exact isTrue_and_nil e|false=>exact e
theorem rW(aN:mI X a pD):vv X (831 .Or [a]) pD:=by
 rw[B94];refine isTrue_or (bY (aN 07 s σ H Q I h) (fun c s1 e=>?_))
 cases c with|false=>exact isTrue_or_nil e|true=>exact e
theorem vw(aN:mI X a pD)(aa:vv X (831 .And 860) Hk):vv X (831 .And (a::860)) (akr pD Hk):=by
 rw[B94];refine isTrue_and (bY (aN 07 s σ H _ I h) (r80 ?_))
 cases c with|true=>exact aa C9 07 s1 σ H1 Q aX bg|false=>exact⟨H1,aX,bg⟩
theorem rX(aN:mI X a pD)(aa:vv X (831 .Or 860) Hk):vv X (831 .Or (a::860)) (aks pD Hk):=by
 rw[B94];refine isTrue_or (bY (aN 07 s σ H _ I h) (r80 ?_))
 cases c with|true=>exact⟨H1,aX,bg⟩|false=>exact aa C9 07 s1 σ H1 Q aX bg
theorem C_(aN:mI X a pD):mI X (.UnaryOp .Not a pos) (akt pD):=i14 (isTrue_not (aN 07 s σ H (fun c H1=>Q (! c) H1) I h))
inductive Wl(tb:ct)(σ:bq)(Q:aW)(x:ae)(H1:av):04|mk:∀c,x=.bN c→(39 c (tb σ H1 Q) (826 09 H1))→Wl tb σ Q x H1
def aku(bW tb:ct):ct:=262 (bW σ H (291 (Wl tb σ Q x H1)))
inductive Wn(tb:ct)(σ:bq)(Q:aW)(x:ae)(H1:av):04|mk:∀c,x=.bN c→(39 c (826 01 H1) (tb σ H1 Q))→Wn tb σ Q x H1
def akv(bW tb:ct):ct:=262 (bW σ H (291 (Wn tb σ Q x H1)))
inductive Wo(Q:aW)(x:ae)(H1:av):04|mk:∀c,x=.bN c→826 (! c) H1→Wo Q x H1
def akw(bW:ct):ct:=262 (bW σ H (291 (Wo Q x H1)))
theorem Wq{op:_}{t:ct}(h:bF X a t):bF X (831 op [a]) t:=r52 (BoolOp_one (h 07 s σ H Q I hw))
theorem akx(aN:658)(aa:944 (831 .And 860)):bF X (831 .And (a::860)) (aku bW tb):=by
 rw[A13];refine BoolOp_and (874 (aN 07 s σ H _ I h));rw[C69];cases bU;refine xN ?_
 cases c with|true=>exact aa 07 s1 σ H1 Q aX bg|false=>exact 128 09 H1 aX bg
theorem aky(aN:658)(aa:944 (831 .Or 860)):bF X (831 .Or (a::860)) (akv bW tb):=by
 rw[A13];refine BoolOp_or (874 (aN 07 s σ H _ I h));rw[C69];cases bU;refine xN ?_
 cases c with|false=>exact aa 07 s1 σ H1 Q aX bg|true=>exact 128 01 H1 aX bg
theorem Wr(aN:658):bF X (.UnaryOp .Not a pos) (akw bW):=by rw[A13];refine UnaryOp_ (874 (aN 07 s σ H _ I h));rw[C69];cases bU;exact not_of (xN (128 (! c) H1 aX bg))
def akz(t:j6)(bW tb:ct):ct:=j49 H (39 c (bW σ H1 Q) (tb σ H1 Q))
theorem pE{c:dn}(ar:mI X c pD)(aN:658)(aa:944 b):bF X (.IfExp c a b pos) (akz pD bW tb):=by
 rw[A13];refine wpAny_IfExp (bY (ar 07 s σ H _ I h) (r76 ?_))
 cases d with|true=>exact aN 07 s1 σ H1 Q aX bg|false=>exact aa 07 s1 σ H1 Q aX bg
end
def aJ(K:bo)(H:av)(a:ag)(xs:08):04:=tB H a (.lst xs)∨r79 323 (898=25∧781 900∧e52∧c07 (b17 a0)∧a0.size≤bc∧cc xs i03)
def dX(K:bo)(H:av)(a:ag)(xs:08):04:=tB H a (.tup xs)∨r79 323 (898=25∧781 748∧c07 (b17 a0)∧a0.size≤bc∧cc xs i03)
def akA:aH→93|.none=>some .b4|.bool b=>some a81|.int i _=>some 260|.str x _=>some 765|.bytes b _=>some (.lD b)|.float b _=>some (.G9 b)|.ref a=>248|.type n=>some (.ty n)|_=>00
theorem RelV.abs{x:ae}(r:684 x):akA u=43:=by cases x with|b4=>cases r;rfl|bN _=>cases r;rfl|int _=>rw[A53];rfl|str _=>rw[A53];rfl|lD _=>rw[A53];rfl|G9 _=>rw[A53];rfl|ref _=>cases r;rfl|ty _=>cases r;rfl
theorem RelV.inj{x y:ae}{u:aH}(r:684 x)(q:464):x=y:=cI (r.abs.symm.trans q.abs)
theorem cc.inj{xs ys:08}{us:53}(h:651)(k:594 ys):xs=ys:=by induction h generalizing ys with|nil=>cases k;rfl|cons r _ ih=>cases k with|cons q t=>rw[r.inj q,ih t]
section
variable{σ:bq}{s:aZ}
theorem aJ.of(h:H a=525):463:=.inl a65
theorem dX.of(h:H a=a94):955:=.inl a65
theorem aQ.list(I:24)(h:aJ X.K H a xs):∃a0:53,cc xs a0∧PlainL 28 a 275∧052:=by
 rcases h with h|⟨o,a0,n,aS,ar,hd,aL,hz,r⟩
 ·obtain⟨z,a0,n,r,e⟩:=h.ok 274;exact⟨a0,r,⟨_,n,e,rfl,rfl,rfl⟩,z⟩
 ·refine⟨i03,r,⟨o,n,I.gF a o aS,ar,hd,r78⟩,?_⟩;have e:=r.length;simp only[Dc]at e;lia
theorem aQ.tuple(I:24)(h:dX X.K H a xs):∃a0:53,cc xs a0∧IsTup 28 a 275∧052:=by
 rcases h with h|⟨o,a0,n,aS,ar,aL,hz,r⟩
 ·obtain⟨z,a0,r,p⟩:=h.ok 274;exact⟨a0,r,p,z⟩
 ·refine⟨i03,r,⟨o,I.gF a o aS,ar,n,r78⟩,?_⟩;have e:=r.length;simp only[Dc]at e;lia
theorem aQ.Hl(I:24)(h:aJ X.K H a xs)(h':aJ X.K H a ys):xs=ys:=by obtain⟨a0,r,⟨o,n,e,_,_,d⟩,_⟩:=677 h;obtain⟨its',dF,⟨dr,qE,bZ,_,_,d'⟩,_⟩:=677 h';rw[e]at bZ;cases bZ;rw[d]at d';injection d' with jW _;have:a0=its':=081 (109 Ws jW);rw[A88];exact r.inj dF
theorem aQ.akB(I:24)(h:dX X.K H a xs)(h':dX X.K H a ys):xs=ys:=by obtain⟨a0,r,⟨o,e,_,n,d⟩,_⟩:=b26 h;obtain⟨its',dF,⟨dr,bZ,_,qE,d'⟩,_⟩:=b26 h';rw[e]at bZ;cases bZ;rw[d]at d';injection d' with jW _;have:a0=its':=081 (109 Ws jW);rw[A88];exact r.inj dF
end
abbrev dT.mK(X:dT)(E:489):dT:={X with dC:=E}
abbrev dT.Hm(X:dT):dT:=X.mK 897
theorem dT.Ok.mK(ok:X.Ok)(E:489):(c30).Ok:=⟨ok.mod,ok.kind,ok.glob,ok.blt,ok.above,ok.inj,ok.has,ok.zX,ok.hd,ok.frames,ok.C5,ok.C6,ok.bs,ok.qA,ok.zY,ok.zZ,ok.ow,ok.vp⟩
theorem dT.Ok.rY(ok:(c30).Ok):X.Ok:=⟨ok.mod,ok.kind,ok.glob,ok.blt,ok.above,ok.inj,ok.has,ok.zX,ok.hd,ok.frames,ok.C5,ok.C6,ok.bs,ok.qA,ok.zY,ok.zZ,ok.ow,ok.vp⟩
section
variable{σ:bq}{s:aZ}
theorem aQ.mK(I:24)(E:489):aQ c30 07 σ H s:=⟨I.ok.mK E,I.os,579,f40,093,d19,741,I.iS,I.pin,274,b54⟩
theorem aQ.rY(I:aQ c30 07 σ H s):24:=⟨I.ok.rY,I.os,579,f40,093,d19,741,I.iS,I.pin,274,b54⟩
theorem tD.rY{D:lY}{f:Flow}{s':aZ}(h:tD c30 07 D f s'):tD X 07 D f s':=by cases f with|next=>rw[C68];exact⟨cb,H',I.rY,q⟩|brk=>rw[C68];exact⟨cb,H',I.rY,q⟩|cont=>rw[C68];exact⟨cb,H',I.rY,q⟩|ret u=>obtain⟨v,cb,H',I,r,q⟩:=h;exact⟨v,cb,H',I.rY,r,q⟩
theorem mJ.Hm{st:List bK}{t:gH}(h:mJ X.Hm st t):mJ X st t:=fun pins s σ H D I hw=>j_ (h 07 s σ H D (I.mK _) hw) (l42 q.rY) h08
end
section
variable{st:bK}{rest:List bK}{t u:gH}
def Wt:gH:=474 659
def Hn(t u:gH):gH:=474 (t {D with cz:=u D} σ H)
theorem b2:mJ X [] Wt:=l50 (Dd ⟨σ,H,I,h⟩)
theorem aF(af:iV X st t)(ak:mJ X 67 u):mJ X (st::67) (Hn t u):=by
 rw[A35];refine Wu (bY (af 07 s σ H {D with cz:=u D} I h) g52)
 cases f with|next=>obtain⟨cb,H',jV,q⟩:=q;exact ak 07 s1 cb H' D jV q|ret v=>exact q|brk=>exact q|cont=>exact q
theorem aM(af:iV X st t):mJ X [st] t:=by
 rw[A35];refine Wu (bY (af 07 s σ H D I h) g52)
 cases f with|next=>exact Dd q|ret v=>exact q|brk=>exact q|cont=>exact q
def akC:gH:=474 (D.eO σ H)
def akD:gH:=474 (D.ek σ H)
theorem akE:iV X (.Break pos) akC:=l50 (wpAny_Break ⟨σ,H,I,h⟩)
theorem Ho:iV X (.Continue pos) akD:=l50 (wpAny_Continue ⟨σ,H,I,h⟩)
theorem aQ.quiet{σ:bq}{s:aZ}(I:24):interactive 55=09:=by simp[interactive,I.ok.kind]
def akF(c7:ct):gH:=474 (c7 σ H (fun _ H1=>686 H1))
theorem fK(he:529)(aL:tF e 00 i10 55=910:=by rfl):iV X (.Expr e pos) (akF c7):=r77 (wpAny_Expr_any (b65 (he 07 s σ H _ I h) ⟨σ,H1,aX,bg⟩) I.quiet aL)
def De(c7:ct):gH:=474 (c7 σ H D.l7)
theorem bf(he:529):iV X (.Return (some e) pos) (De c7):=r77 (wpAny_Return_some (b65 (he 07 s σ H _ I h) ⟨x,σ,H1,aX,bU,bg⟩))
def akG:gH:=fun D _ H=>D.l7 .b4 H
theorem akH:iV X (.Return 00 pos) akG:=l50 (wpAny_Return_none ⟨.b4,σ,H,I,rfl,h⟩)
def Wv(c:j6)(t u:gH):gH:=474 (c σ H (fun b H1=>39 b (t D σ H1) (u D σ H1)))
theorem bX{c:dn}{a b:List bK}(ar:mI X c pF)(aN:mJ X a t)(aa:mJ X b u):iV X (.If c a b pos) (Wv pF t u):=by
 rw[A35];refine wpAny_If (bY (ar 07 s σ H _ I h) (r76 ?_))
 cases d with|true=>exact aN 07 s1 σ H1 D aX bg|false=>exact aa 07 s1 σ H1 D aX bg
end
abbrev iv:=ae→bq→637 (409)
abbrev xP:=08→bq→637 (409)
def rZ(X:dT)(target:dn)(t:iv):04:=∀(pins:225)(s:aZ)(σ:bq)(H:av)(v:ae)(u:aH)(Q:409),24→465→t v σ H Q→a9 47 X.A (z1 i11 55 u) (f42 (f58 (aQ X 07 cb H' s'∧Q cb H'))) 68 s
def Df(X:dT)(aD:439)(t:xP):04:=∀(pins:225)(s:aZ)(σ:bq)(H:av)(vs:08)(us:53)(Q:409),24→a93→t vs σ H Q→a9 47 X.A (assignInOrder (c09 (xQ aD 55)) us) (f42 (f58 (aQ X 07 cb H' s'∧Q cb H'))) 68 s
abbrev Dg:=ae→ae→ae→637 (855)
def MX(X:dT)(t:Dg):04:=∀(pins:225)(s:aZ)(σ:bq)(H:av)(o i v:ae)(dA gV u:aH)(Q:855),24→RelV o dA→RelV i gV→465→t o i v H Q→a9 47 X.A (setItem dA gV u) (f42 (∃H',050∧Q H')) 68 s
abbrev Dh:=ae→934
def MY(X:dT)(op:Di)(t:Dh):04:=r73 225 (24→718→464→t x y H Q→a9 47 X.A (inplaceOp op v u) 496 68 s)
def tG(i:Nat):iv:=fun v σ H Q=>Q j78 H
theorem cU(fs:X.N.Nodup)(hi:850=43)(ai:F6 628 x)(hf:c83=01∨b66=491:=by first|exact .inl rfl|exact .inr rfl|assumption):rZ X c42 (tG i):=by intro pins s σ H v u Q I r h;exact 217 (C8 I fs hi ai r (fun s' jV=>⟨_,H,jV,h⟩) hf)
def akI:xP:=fun vs σ H Q=>vs=[]∧Q σ H
inductive Ww(t:iv)(u:xP)(vs:08)(σ:bq)(H:av)(Q:409):04|mk:∀v r,vs=v::r→(t v σ H (d17 (u r cb H' Q)))→Ww t u vs σ H Q
theorem tH:Df X [] akI:=by intro pins s σ H vs us Q I r h;obtain⟨e,h⟩:=h;subst e;cases r;exact assignInOrder_nil ⟨σ,H,I,h⟩
theorem kX{aR:439}{t:iv}{u:xP}(af:rZ X e t)(ak:Df X aR u)(aL:c09 (xQ (e::aR) 55)=z1 e 55::c09 g69:=by rfl):Df X (e::aR) (Ww t u):=by
 rw[B50];obtain⟨v,aA3,aK,h⟩:=h;subst aK
 cases r with|cons r eV=>rw[aL];refine assignInOrder_cons (bY (af 07 s σ H _ _ _ I r h) (fun _ s1⟨z2,H1,aX,bg⟩=>?_));exact ak 07 s1 z2 H1 _ _ Q aX eV bg
inductive MZ(K:bo)(n:Nat)(t:xP)(v:ae)(σ:bq)(H:av)(Q:409):04|mk:∀a xs,v=37→955→57=n→t xs σ H Q→MZ K n t v σ H Q
theorem akJ{aR:439}{k:Nat}{t:xP}(ar:394)(h:Df X aR t)(aU:11 g69=n:=by rfl)(gq:(g69).findIdx? 379=00:=by rfl):rZ X (.Tuple aR k pos) (MZ X.K n t):=by intro pins s σ H v u Q I r hw;obtain⟨a,xs,aK,aw,ax,hw⟩:=hw;subst aK;cases r;obtain⟨a0,cV,bk,hz⟩:=b98;refine assign_Tuple_tuple 408 bk (by simp[aU,←ax,cV.length]) gq (fun h' ai=>?_);have aX:f71:=I.kept (t':=233) (351 (ai b o e23 e));exact h 07 _ σ H xs _ Q aX (by simpa using cV) hw
def akK(to g7:ct)(t:Dg):iv:=fun v σ H Q=>to σ H (fun o H1=>g7 σ H1 (fun i aB=>t o i v aB (fun a5=>Q σ a5)))
theorem Wx{o i:dn}{t:Dg}(a8:c76)(hi:bF X i g7)(aL:MX X t)(aN:∀v,z1 (a27 o i) 55 v=(do
 let dA←nz [v] (cE o X.env)
 let gV←nz [v,dA] (cE i X.env)
 xR pos
 nz [v,dA,gV] (setItem dA gV v)
 release [v,dA,gV] []):=by intro _;rfl):rZ X (a27 o i) (akK to g7 t):=by intro pins s σ H v u Q I r h;rw[aN];rw[A99 (bY (a8 07 s σ H _ I h) (fun dA s1⟨x,H1,aX,bU,bg⟩=>?_))];rw[A99 (bY (hi 07 s1 σ H1 _ aX bg) (fun gV s2⟨y,aB,b5,cT,cf⟩=>?_))];rw[A00 (Hp (a7 (oz (bY (aL 07 s2 σ aB x y v dA gV u _ b5 bU cT r cf) (fun _ s3⟨a5,el,eC⟩=>?_)))))];exact wpAny_release ⟨σ,a5,el,eC⟩
def Hq(c7:ct)(g:iv):gH:=474 (c7 σ H (291 (g x σ H1 D.cz)))
theorem Wy{g:iv}(he:529)(a4:rZ X eD g)(aL:swapsWithSole [eD] e i10 55=910:=by rfl)(hw:swappedStores [eD] e 55=519:=by rfl)(af:c09 (xQ [eD] 55)=[z1 eD 55]:=by rfl):iV X (d94 [eD] e) (Hq c7 g):=by rw[A35];refine wpAny_Assign_stores (874 (he 07 s σ H _ I h)) aL hw;rw[af];exact bY (a4 07 s1 σ H1 x v _ aX bU bg) (fun _ s2 q=>q)
theorem bL(fs:X.N.Nodup)(hi:850=43)(ai:F6 628 x)(he:529)(aL:g88 e (.Name x pos')=910:=by rfl)(hf:c83=01∨b66=491:=by first|exact .inl rfl|exact .inr rfl|assumption):iV X (d94 [.Name x pos'] e) (Hq c7 (tG i)):=by rw[A35];refine wpAny_Assign_Name (bY (he 07 s σ H _ I h) (fun v s1⟨y,H1,aX,bU,bg⟩=>?_)) aL;exact C8 aX fs hi ai bU (fun s2 b5=>⟨_,H1,b5,bg⟩) hf
def akL(i:Nat)(c7:ct)(g7:Dh):gH:=474 (∃x,c89=453 x∧c7 σ H (d18 (g7 x y H1 (fun z aB=>D.cz (σ.set i 415) aB))))
theorem Dj{op:Di}{g7:Dh}(fs:X.N.Nodup)(hi:850=43)(ai:F6 628 x)(he:529)(a8:MY X op g7)(hf:c83=01∨b66=491:=by first|exact .inl rfl|exact .inr rfl|assumption):iV X (.AugAssign (.Name x pos') op e pos) (akL i c7 g7):=by
 rw[A35];obtain⟨v,aK,h⟩:=h;rw[B90];have akM:zW 628 x:=by rcases ai with k|k;exact 172;exact .inr 172
 rw[C67 (ax i x v hi aK akM)];refine wpAny_AugAssign_Name ?_;have go:a9 47 X.A 688 (fun w iu=>a9 47 X.A (inplaceOp op u w) (fun r vx=>a9 47 X.A (n25 x r) (290 (tD X 07 D .next)) 68 vx) 68 iu) 68 s:=by refine bY (he 07 s σ H _ I h) (fun w s1⟨y,H1,aX,bU,bg⟩=>?_);refine bY (a8 07 s1 σ H1 v y u w _ aX r bU bg) (fun z s2⟨aA4,aB,b5,cT,cf⟩=>?_);exact C8 b5 fs hi ai cT (f39 ⟨_,aB,el,cf⟩) hf
 rw[D66]
 ·exact akk 094 aS aU hm go
 ·rcases aS with aS|aS
  ·exact akl 094 aS ar Hi go
  ·rcases ai with k|k
   ·have:b66=779:=aS;rw[k]at this;rw[A47]
   ·have:b66=779:=aS;rw[k]at this;rw[A47]
def akN(to g7 c7:ct)(M0:ae→934)(Hr:Dh)(Hs:Dg):gH:=474 (to σ H (fun o H1=>g7 σ H1 (fun i aB=>M0 o i aB (fun x a5=>c7 σ a5 (fun y bP=>Hr x y bP (fun z de=>Hs o i z de (fun ft=>686 ft)))))))
def Wz(X:dT)(t:ae→934):04:=∀(pins:225)(s:aZ)(σ:bq)(H:av)(o i:ae)(dA gV:aH)(Q:aW),24→RelV o dA→RelV i gV→t o i H Q→a9 47 X.A (z3 dA gV) 496 68 s
theorem akO{o i:dn}{Hr:Dh}{Hs:Dg}{op:Di}(a8:c76)(hi:bF X i g7)(a4:Wz X M0)(he:529)(au:MY X op Hr)(aL:MX X Hs)(aN:∀dA gV new,augStore i dA gV new=(do
 nz [new,dA,gV] (setItem dA gV new)
 release [new,dA,gV] []
 pure .next):=by intros;rfl):iV X (.AugAssign (.Subscript o i te) op e pos) (akN to g7 c7 M0 Hr Hs):=by rw[A35];refine wpAny_AugAssign_SubscriptAny (bY (a8 07 s σ H _ I h) (fun dA s1⟨gr,H1,aX,bU,bg⟩=>?_)) aN;refine bY (hi 07 s1 σ H1 _ aX bg) (fun gV s2⟨gd,aB,b5,cT,cf⟩=>?_);refine bY (a4 07 s2 σ aB gr gd dA gV _ b5 bU cT cf) (fun old s3⟨mD,a5,el,h2,eC⟩=>?_);refine bY (he 07 s3 σ a5 _ el eC) (fun v s4⟨pj,bP,jw,i7,fz⟩=>?_);refine bY (au 07 s4 σ bP mD pj old v _ jw h2 i7 fz) (fun new s5⟨pk,de,nA,iw,qF⟩=>?_);exact bY (aL 07 s5 σ de gr gd pk dA gV new _ nA bU cT iw qF) (fun _ cW⟨ft,pG,r1⟩=>⟨σ,ft,pG,r1⟩)
inductive WA(f:Int→e94)(x:ae)(y:ae)(H:av)(Q:aW):04|mk:∀i j,x=260→y=858→662 (f i j)→WA f x y H Q
theorem z4:MY X .Add (WA (h94 (i+j))):=by intro pins s σ H x y v u Q I bU cT h;obtain⟨i,j,aK,aG,q⟩:=h;subst aK;subst aG;rw[B86];obtain⟨t',rfl⟩:=cT;exact akP ⟨.int _,H,279,282,q⟩
variable{tb:gH}
def WB(c:j6)(tb:gH):gH:=474 (∃W:647,(∃m,W m σ H)∧∀m σ H,W m σ H→c σ H (fun b H1=>39 b (∃N:409,n27 (N cb H'→∃eg,eg<m∧W eg cb H')∧a12 σ H1) (686 H1)))
theorem tI{c:dn}(au:PassesOwn 47 X.A 55 68)(ar:mI X c pF)(aa:mJ X body tb):iV X (.While c body [] pos) (WB pF tb):=by
 rw[A35];obtain⟨W,⟨m0,z5⟩,turn⟩:=h;refine wpAny_While (codeAny_whileLoop (fun n s'=>f58 (aQ X 07 cb H' s'∧W n cb H')) ?_ m0 ⟨σ,H,I,z5⟩);rintro n s1⟨z2,H1,aX,mG⟩;refine z6 au (bY (ar 07 s1 z2 H1 _ aX (turn n z2 H1 mG)) (fun b s2⟨aB,b5,cf⟩=>?_))
 cases b with
  |true=>
   obtain⟨N,fs,cf⟩:=cf;rw[101];refine z6 au (bY (aa 07 s2 z2 aB _ b5 cf) (fun f s3 eC=>?_))
   cases f with|next=>rw[D65];obtain⟨eg,hm,mH⟩:=fs qG a5 iX;exact⟨eg,hm,qG,a5,el,mH⟩|cont=>rw[D65];obtain⟨eg,hm,mH⟩:=fs qG a5 iX;exact⟨eg,hm,qG,a5,el,mH⟩|brk=>exact eC|ret v=>exact eC
  |false=>rw[23 hB];exact Dd ⟨z2,aB,b5,cf⟩
structure ix where
 go:599
 mL:240 (av→546 ae)
 stop:599
def pH(X:dT)(pins:225)(H:av)(b:ag):04:=H b=00∧053∧b∉679∧(b∈X.ex∨a08≤b)∧(893 (632=73→c≠b))∧∀p∈X.iQ++07,p.1≠b
theorem aQ.xS{σ:bq}{s:aZ}(I:24)(aa:18≤b)(aU:244=00):pH X 07 H' b:=by
 refine⟨aU,lF (jN I.lt aa),I.akc aa,.inr (cX I.qB aa),fun x c e z=>?_,fun p au z=>?_⟩
 ·obtain⟨v,q⟩:=c46 x e;rw[A62 (jN q.lt r75) _]
 ·rw[A62 (jN (dm (I.pin p au).1) r75) _]
structure Turn(P:f3)(w:ff)(K:bo)(eD:dn)(fu:ix)(df:27)(it:ag)(h3:Nat→92 dk):04 where
 mem:it∈df
 obj:∀i h,h3 i h→432 (∃o,319=25∧∀v,o.data≠.cell v)
 keep:∀i h h',h3 i h→(432 (∀o,319=25→219=25))→h3 i h'
 item:∀(X:dT),61=P→X.w=w→X.K=K→394→r74 225 489 (24→(432 (pH X 07 H b))→h3 i 28→fu.go i H→a9 289 X.A (nB 760) (fun r s1=>∃u,r=56∧a9 289 X.A (M1 eD 760 u) (fun _ s2=>∃x H',aQ X 07 σ H' s2∧684 x∧fu.mL i H x H'∧h3 (i+1) l00∧432 (244=00)) E s1) E s)
 done:∀(X:dT),61=P→X.w=w→X.K=K→394→r74 225 489 (24→(432 (pH X 07 H b))→h3 i 28→fu.stop i H→a9 289 X.A (nB 760) (fun r s1=>r=00∧aQ X 07 σ H s1) E s)
 self:∀(A:rU)(i:Nat)(s:aZ)(Q:489)(E:489),h3 i 28→514 it s→a9 289 A (vy 760) Q E s
abbrev TI:=bq→637 (652)
inductive Dk(X:dT)(pins:225)(σ:bq)(eD:dn)(R:652)(Ht:aH)(s2:aZ):04|mk:∀(it:ag)(df:27)(h3:Nat→92 dk)(fu:ix)(H':av),Ht=760→aQ X 07 σ H' s2→Turn 61 X.w X.K eD fu df it h3→h3 0 l00→(432 (pH X 07 H' b))→R fu H'→Dk X 07 σ eD R Ht s2
def lG(X:dT)(eD iter:dn)(hL:TI):04:=∀(pins:225)(s:aZ)(σ:bq)(H:av)(R:652),24→hL σ H R→a9 47 X.A (405 818) (h78 (a9 47 X.A (vy v) (Dk X 07 σ eD R) 68 s1)) 68 s
theorem z7{s:aZ}{n:String}{vs:323}{Q:592}(a8:586 it)(ar:781 (401 n))(hd:777)(aU:[892,380,p10,p09,p08,p07,p06].contains n=09)(g6:Q () s):a9 M A (M1 eD 760 u) Q E s:=by unfold M1;cases eD<;>first|exact cx g6|(cases u<;>first|exact cx g6|(rw[A00 (wpAny_load a8 ?_)];rw[ar,hd];show a9 M A (616 ([892,380,p10,p09,p08,p07,p06].contains n&&vs[0]?==some (hM _))) Q E s;rw[23 (by intro h;rw[aU,zw]at h;cases h)];exact cx g6))
def vz(K:bo)(a:ag):ix:=g54 (987 (∃xs x,463∧441=43)) (H'=H∧∀xs,463→441=43) (987 (∃xs,463∧57≤i))
def vA(K:bo)(a:ag):ix:=g54 (987 (∃xs x,955∧441=43)) (H'=H∧∀xs,955→441=43) (987 (∃xs,955∧57≤i))
def r2(lo:Int)(n:Nat):ix:=g54 (a05 (i<n)) (H'=H∧x=.int (lo+i)) (a05 (n≤i))
theorem akQ(a it:ag):Turn P w K eD (vz K a) [it] it (619 (j46 it a))where
 mem:=19
 obj:=d26 (by have e:b=it:=120;subst e;obtain⟨o,e,c,d⟩:=st;exact⟨o,e,l77⟩)
 keep:=m00 (877 (k it 19 o e))
 item:=by rw[A43];rw[A42];rw[C57];rw[B60 aw];rw[B37 ai];rw[A51];refine akR st d25 (x:=u) h76 j61;have aX:f71:=I.turned (t':=233) (536 (385 b aa e)) f0 f1 e9 f4 fR;obtain⟨o,e,c,d⟩:=id kx;rw[A44 u (z7 (s:=537) e c d 14 ⟨x,H,aX,gR,119 (l94 (I.Hl aC aw)),kx,e84⟩)]
 done:=by rw[A43];rw[A42];rw[C56];rw[B60 aw];rw[A51];rw[C55];exact akS 408 st d25 b46 (a33 (I.turned (t':=233) (536 (eG b o aa e)) f0 f1 e9 f4 fR))
 self:=p35 (wpAny_pyIter_listiter st h)
theorem akT(a it:ag):Turn P w K eD (vA K a) [it] it (619 (h.IsTupleIter it a i))where
 mem:=19
 obj:=d26 (by have e:b=it:=120;subst e;obtain⟨o,e,c,d⟩:=st;exact⟨o,e,l77⟩)
 keep:=m00 (877 (k it 19 o e))
 item:=by rw[A43];rw[A42];rw[C57];rw[B57 b98];rw[B37 ai];rw[A51];refine wpAny_pyNext_tuple_item st (p34 (s.heap.IsTuple a 275)) (x:=u) h76 j61;have aX:f71:=I.turned (t':=233) (536 (385 b aa e)) f0 f1 e9 f4 fR;obtain⟨o,e,c,d⟩:=id kx;rw[A44 u (z7 (s:=537) e c d 14 ⟨x,H,aX,gR,119 (l94 (I.akB aC aw)),kx,e84⟩)]
 done:=by rw[A43];rw[A42];rw[C56];rw[B57 b98];rw[A51];rw[C55];exact wpAny_pyNext_tuple_end 408 st (p34 (s.heap.IsTuple a 275)) b46 (a33 (I.turned (t':=233) (536 (eG b o aa e)) f0 f1 e9 f4 fR))
 self:=p35 (wpAny_pyIter_tupleiter st h)
theorem akU(it:ag)(lo:Int)(n:Nat):Turn P w K eD (r2 lo n) [it] it (619 (M3 h it (lo+(i:Nat)*1) (44-(i:Nat)) 1))where
 mem:=19
 obj:=d26 (r45 (b=it) 120 ⟨_,st,l36 (by have j9:Data.fields _=Data.cell v:=z;cases j9)⟩)
 keep:=f53 (k it 19 _ st)
 item:=by rw[A43];rw[A42];rw[A51];have W:=Walks.range (prog:=61) (w:=X.w) 408 it lo 1 n;refine W.item i s _ _ a4 st m49;obtain⟨t,rfl⟩:=a3;have aX:l74:=I.turned (536 (b0 b o 120 e)) f0 f1 e9 f4 fR;refine 123 (z7 (s:=620) (n:=r44) kx rfl rfl 14 ⟨.int (lo+i),H,aX,328 t,149,kx,e84⟩);rw[Int.mul_one]
 done:=by rw[A43];rw[A42];rw[A51];exact akV 408 st (by have:n≤i:=a4;lia) (a33 (I.turned (t':=233) (536 (eG b o aa e)) f0 f1 e9 f4 fR))
 self:=p35 (akW st h)
inductive WC(K:bo)(R:652)(x:ae)(H1:av):04|mk:∀a,x=37→(∃xs,aJ K H1 a xs)→R (vz K a) H1→WC K R x H1
def Hu(K:bo)(c5:ct):TI:=a04 (c5 σ H (291 (WC K R x H1)))
inductive WD(K:bo)(R:652)(x:ae)(H1:av):04|mk:∀a,x=37→(∃xs,dX K H1 a xs)→R (vA K a) H1→WD K R x H1
def WE(K:bo)(c5:ct):TI:=a04 (c5 σ H (291 (WD K R x H1)))
theorem akX{l:dn}{c5:ct}(ax:bF X l c5):lG X eD l (Hu X.K c5):=by rw[A83];refine 874 (ax 07 s σ H _ I h);rw[D64];subst e;cases bU;rw[B57 j66];refine M4 d25 ?_;refine⟨227,[227],_,_,H1,rfl,d48 (902 _ e),akQ a _,b15,773,q⟩;have e:b=227:=120;subst e;exact aX.xS 64 d56
theorem akY{l:dn}{c5:ct}(ax:bF X l c5):lG X eD l (WE X.K c5):=by rw[A83];refine 874 (ax 07 s σ H _ I h);rw[D64];subst e;cases bU;rw[B57 (aX.tuple aw)];refine wpAny_pyIter_tuple (p34 (s1.heap.IsTuple a 275)) ?_;refine⟨227,[227],_,_,H1,rfl,d48 (902 _ e),akT a _,b15,773,q⟩;have e:b=227:=120;subst e;exact aX.xS 64 d56
theorem WG{σ:bq}{s:aZ}{R:652}{lo hi:Int}{t u v:Tok}{tk:Nat}(I:24)(af:-(2^468)≤lo)(ak:lo<2^468)(a6:-(2^468)≤hi)(bH:hi<2^468)(q:R (r2 lo (271 (hi-lo))) H):a9 47 X.A (vy 277) (Dk X 07 σ eD R) E (p12 (581 (513 509 (503 #[.int lo t,785 hi,.int 1 v])))):=by
 refine wpAny_pyIter_range (akZ ..) (small_one af ak a6 bH) ?_;have aX:aQ X 07 σ H (p12 (581 (513 509 (503 #[.int lo t,785 hi,.int 1 v])))):=I.kept (902 _ e);refine⟨424 (581 (513 509 (503 #[.int lo t,785 hi,.int 1 v]))),[424 (581 (513 509 (503 #[.int lo t,785 hi,.int 1 v])))],_,_,H,rfl,aX.kept (t':=tk) (902 _ e),akU _ lo (271 (hi-lo)),?_,773,q⟩
 ·have aK:lo+52 0*1=lo:=19;have aG:52 (271 (hi-lo))-52 0=z8 lo hi 1:=by rw[rangeSize_one];split<;>lia
  show M3 _ _ (lo+52 0*1) (52 (271 (hi-lo))-52 0) 1;rw[aK,aG];exact 111
 ·have e:b=424 (581 (513 509 (503 #[.int lo t,785 hi,.int 1 v]))):=120;subst e;exact aX.xS 64 d56
inductive WH(R:652)(vs:08)(H1:av):04|mk:∀j:Int,vs=[858]→-(2^468)≤j→j<2^468→R (r2 0 j.toNat) H1→WH R vs H1
def ak0(bW:fG):TI:=a04 (bW σ H (728 (WH R vs H1)))
inductive WI(R:652)(vs:08)(H1:av):04|mk:∀i j:Int,vs=[260,858]→(-(2^468)≤i∧i<2^468∧-(2^468)≤j∧j<2^468)→R (r2 i (271 (j-i))) H1→WI R vs H1
def WJ(bW:fG):TI:=a04 (bW σ H (728 (WI R vs H1)))
theorem xT{a:dn}{bW:fG}{p:Pos}(a4:h1 X 509)(hm:n24=00)(aN:hZ X [a] bW)(aL:406 [a]=[013 a]:=by rfl):lG X eD (.Call (.Name 509 p) [a] [] pos) (ak0 bW):=by
 rw[A83];rw[B00 (qD I a4 hm xU (tJ (988 (aN pos 07 s σ H _ I h) ?_) aL rfl))];obtain⟨j,e,bg,cf,q⟩:=bg;subst e
 cases bU with|cons r eV=>cases eV;rw[A53];exact call_range_1 (WG aX 03 03 bg cf q32)
theorem M5{a b:dn}{bW:fG}{p:Pos}(a4:h1 X 509)(hm:n24=00)(aN:hZ X [a,b] bW)(aL:406 [a,b]=[013 a,013 b]:=by rfl)(jx:406 [b]=[013 b]:=by rfl):lG X eD (.Call (.Name 509 p) [a,b] [] pos) (WJ bW):=by
 rw[A83];rw[B00 (qD I a4 hm xU (tJ (988 (aN pos 07 s σ H _ I h) ?_) (by rw[aL,jx]) n69))];obtain⟨i,j,e,⟨bg,cf,eC,fz⟩,q⟩:=bg;subst e
 cases bU with|cons r eV=>cases eV with|cons dF eV=>cases eV;rw[A53];rw[D44];exact call_range_2 (WG aX bg cf eC fz q)
def ak1(hL:TI)(g:iv)(tb:gH):gH:=474 (hL σ H (fun fu H1=>∃W:240 647,(∃m,W 0 m σ H1)∧∀i m σ H,W i m σ H→(fu.stop i H∧659)∨(fu.go i H∧∃N:409,f00 (N cb H'→∃eg,eg<m∧W (i+1) eg cb H') (fu.mL i H x H'→g x σ H' (fun c6 aB=>a12 c6 aB)))))
def Dl(df:27)(h:dk):225:=df.filterMap (506 ((319).map (737 (b,o))))
theorem M6(aa:b∈df)(e:319=25):(b,o)∈Dl df h:=Gu.mpr ⟨b,aa,f35⟩
theorem ak2{p:ag×Obj}(au:p∈Dl df h):p.1∈df∧654 p.1 p.2:=by
 obtain⟨b,aa,e⟩:=Gu.mp au
 cases q:319 with|none=>rw[q]at e;cases e|some o=>rw[q]at e;have bZ:(b,o)=p:=cI e;subst bZ;exact⟨aa,q⟩
theorem aQ.pinned{σ:bq}{s:aZ}(I:24)(hf:432 (pH X 07 H b))(a8:432 (∃o,346∧∀v,o.data≠.cell v)):aQ X (07++Dl df 28) σ H s:=I.We (367 ((362 au).elim (16 (I.pin p (vB _ z))) (16 (by obtain⟨aa,e⟩:=ak2 z;obtain⟨f0,f1,f2,_⟩:=hf p.1 aa;obtain⟨o,bZ,d⟩:=a8 p.1 aa;rw[e]at bZ;cases bZ;exact⟨e,f0,f1,f2,d⟩))))
theorem aQ.Hv{pl:225}{σ:bq}{s:aZ}(I:aQ X (07++pl) σ H s):24:=I.We (367 (I.pin p (vB _ (Hf _ au))))
theorem e_{hL:TI}{g:iv}(au:PassesOwn 47 X.A 55 68)(ar:394)(hi:lG X eD 818 hL)(a4:rZ X eD g)(aa:mJ X body tb)(aL:∀x,M7 818 55 x=pure x:=by intro _;rfl):iV X (.For eD 818 body [] pos) (ak1 hL g tb):=by
 rw[A35];refine wpAny_For (bY (hi 07 s σ H _ I h) (k90 (bY af (fun Ht s2 ak=>?_)))) aL;obtain⟨it,df,h3,fu,aB,e,b5,T,z9,f2,W,⟨m0,z5⟩,turn⟩:=ak;subst e;have xV:∀{H':av},(432 (244=00))→432 (pH X 07 H' b):=fun aU b aa=>⟨aU b aa,(f2 b aa).2⟩;refine codeAny_forLoop_any (fun n s'=>∃i cb H',aQ X 07 cb H' s'∧h3 i 542∧(432 (244=00))∧W i n cb H') ?_ m0 ⟨0,σ,aB,b5,z9,350 (f2 b aa).1,z5⟩;rintro n s3⟨i,qG,a5,el,Hw,WK,mH⟩;rcases turn i n qG a5 mH with⟨stop,ak3⟩|⟨go,N,fs,step⟩
 ·refine z6 au (bY (T.done X rfl rfl rfl ar i 07 s3 qG a5 68 el (xV WK) Hw stop) (fun r s4⟨aq,jw⟩=>?_));subst aq;exact Dd ⟨qG,a5,jw,ak3⟩
 ·refine z6 au (bY (T.item X rfl rfl rfl ar i 07 s3 qG a5 68 el (xV WK) Hw go) (fun r s4⟨u,aq,bH⟩=>?_));subst aq;refine z6 au (bY bH (fun _ s5⟨x,de,nA,iw,ak4,z_,ak5⟩=>?_));have ak6:=nA.pinned (xV ak5) (T.obj _ _ z_);refine z6 au (bY (a4 _ s5 qG de x u _ ak6 iw (step x de ak4)) (fun _ cW⟨ak7,ft,pG,r1⟩=>?_));refine z6 au (bY (aa _ cW ak7 ft _ pG r1) (fun f e1 nC=>?_));have again:∀{pI:bq}{gS:av},aQ X (07++Dl df s5.heap) pI gS e1→N pI gS→∃m,m<n∧∃i cb H',aQ X 07 cb H' e1∧h3 i e1.heap∧(432 (244=00))∧W i m cb H':=fun{pI gS:_}kY xW=>by obtain⟨eg,hm,ak8⟩:=fs pI gS xW;refine⟨eg,hm,i+1,pI,gS,kY.Hv,T.keep _ _ _ z_ (511 (kY.pin (b,o) (vB _ (vB _ (M6 aa e)))).1),773,ak8⟩;obtain⟨o,e,d⟩:=T.obj _ _ z_ b aa;exact(kY.pin (b,o) (vB _ (vB _ (M6 aa e)))).2.1
  cases f with|next=>rw[D63];exact again kY xW|cont=>rw[D63];exact again kY xW|brk=>obtain⟨pI,gS,kY,nC⟩:=nC;exact⟨pI,gS,kY.Hv,nC⟩|ret v=>obtain⟨Vb,pI,gS,kY,M8,nC⟩:=nC;exact⟨Vb,pI,gS,kY.Hv,M8,nC⟩
theorem hN{g:iv}{D:lY}{σ:bq}(Pv:647)(h0:Pv 0 σ H)(ax:h28 (759 i→560→463))(aL:∀i x σ H,441=43→560→g x σ H (fun c6 aB=>b67 361 361 c6 aB))(hd:c73 m70 659):∃W:240 647,(∃m,W 0 m σ H)∧∀i m σ H,W i m σ H→(800 (vz K a)∧659)∨((vz K a).go i H∧∃N:409,f00 (N cb H'→∃eg,eg<m∧W (i+1) eg cb H') ((vz K a).mL i H x H'→g x σ H' (fun c6 aB=>a12 c6 aB))):=by
 rw[B09 (m=57-i∧759 i∧560) ⟨57,19,229,h0⟩];rw[B18];have q:=ax i σ H hi p;rw[B42 i]
 ·refine .inr ⟨j04 xs xs[i] q,361,j13 (57-(i+1)) rfl cM ky,c14⟩;rw[B26];subst e;exact aL i x σ _ (y xs q) p
 ·rw[B43 i];subst e;rw[A23 ⟨xs,q,64⟩ (hd σ H p)]
theorem M9{g:iv}{D:lY}{σ:bq}(Pv:647)(h0:Pv 0 σ H)(ax:h28 (759 i→560→955))(aL:∀i x σ H,441=43→560→g x σ H (fun c6 aB=>b67 361 361 c6 aB))(hd:c73 m70 659):∃W:240 647,(∃m,W 0 m σ H)∧∀i m σ H,W i m σ H→(800 (vA K a)∧659)∨((vA K a).go i H∧∃N:409,f00 (N cb H'→∃eg,eg<m∧W (i+1) eg cb H') ((vA K a).mL i H x H'→g x σ H' (fun c6 aB=>a12 c6 aB))):=by
 rw[B09 (m=57-i∧759 i∧560) ⟨57,19,229,h0⟩];rw[B18];have q:=ax i σ H hi p;rw[B42 i]
 ·refine .inr ⟨j04 xs xs[i] q,361,j13 (57-(i+1)) rfl cM ky,c14⟩;rw[B26];subst e;exact aL i x σ _ (y xs q) p
 ·rw[B43 i];subst e;rw[A23 ⟨xs,q,64⟩ (hd σ H p)]
theorem xX{lo:Int}{g:iv}{D:lY}{σ:bq}(Pv:647)(h0:Pv 0 σ H)(aL:h28 (i<n→560→g (.int (lo+i)) σ H (fun c6 aB=>b67 361 361 c6 aB)))(hd:c73 (Pv n σ H) 659):∃W:240 647,(∃m,W 0 m σ H)∧∀i m σ H,W i m σ H→(800 (r2 lo n)∧659)∨((r2 lo n).go i H∧∃N:409,f00 (N cb H'→∃eg,eg<m∧W (i+1) eg cb H') ((r2 lo n).mL i H x H'→g x σ H' (fun c6 aB=>a12 c6 aB))):=by
 rw[B09 (m=n-i∧i≤n∧560) ⟨n,19,229,h0⟩];rw[B18];by_cases cM:i<n
 ·refine .inr ⟨cM,361,j13 (n-(i+1)) rfl cM ky,c14⟩;rw[B26];subst e y;exact aL i σ _ cM p
 ·rw[A50 (i=n)];subst e;rw[A23 64 (hd σ H p)]
theorem M_{c:j6}{D:lY}{σ:bq}(Pv:409)(Dm:bq→av→Nat)(h0:Pv σ H)(aL:c73 (Pv σ H) (c σ H (fun b H1=>39 b (b67 (d17 (Pv cb H'∧Dm cb H'<Dm σ H)) (d17 (Pv cb H'∧Dm cb H'<Dm σ H)) σ H1) (686 H1))))(mono:∀σ H Q tE,(∀b H1,Q b H1→tE b H1)→c σ H Q→c σ H tE):WB c tb D σ H:=by
 rw[A20 (fun m σ H=>m=Dm σ H∧Pv σ H) (123 h0)];rintro m σ H⟨rfl,p⟩;refine mono σ H _ _ (fun b H1 q=>?_) (aL σ H p)
 cases b with|true=>exact⟨_,fun cb H'⟨ky,l⟩=>⟨_,l,rfl,ky⟩,q⟩|false=>exact q
abbrev r3:=ae→934
def gs(X:dT)(f:aH→aH→054)(r:r3):04:=r73 225 (24→718→464→r x y H Q→a9 47 X.A (f v u) 496 68 s)
def Na(X:dT)(f:aH→054)(r:934):04:=∀(pins:225)(s:aZ)(σ:bq)(H:av)(x:ae)(v:aH)(Q:aW),24→718→r x H Q→a9 47 X.A (f v) 496 68 s
def iy(X:dT)(f:aH)(r:927):04:=∀(pins:225)(s:aZ)(σ:bq)(H:av)(xs:08)(us:53)(Q:aW),24→651→r xs H Q→a9 47 X.A (kZ f us) 496 68 s
def ak9(X:dT)(r:ae→637 (a58)):04:=∀(pins:225)(s:aZ)(σ:bq)(H:av)(x:ae)(v:aH)(Q:a58),24→718→r x H Q→a9 47 X.A (truthy v) (Hh X 07 σ Q) 68 s
def r4(r:r3)(bW tb:ct):ct:=262 (bW σ H (291 (tb σ H1 (890 (r x y aB Q)))))
def ala(r:934)(bW:ct):ct:=262 (bW σ H (291 (r x H1 Q)))
inductive vC(C:Int→92 Int)(g:Int→Int→ae)(x:ae)(y:ae)(H:av)(Q:aW):04|mk:∀i j,x=260→y=858→C i j→Q (g i j) H→vC C g x y H Q
inductive r5(g:Int→Int→ae)(x:ae)(y:ae)(H:av)(Q:aW):04|mk:∀i j,x=260→y=858→Q (g i j) H→r5 g x y H Q
inductive Nb(g:Int→ae)(x:ae)(H:av)(Q:aW):04|mk:∀i,x=260→Q (g i) H→Nb g x H Q
section
variable{a b c:dn}{tb pF:ct}
theorem Nc(aN:658)(aa:944 b){s:aZ}{σ:bq}{R:ae→546 ae}(I:24)(h:bW σ H (291 (tb σ H1 (890 (R x y aB))))){f:aH→aH→054}(hf:∀v u s2 x y aB,aQ X 07 σ aB s2→718→464→R x y aB→a9 47 X.A (f v u) Q 68 s2):a9 47 X.A (405 a) (fun v ep=>a9 47 X.A (405 b) (fun u iu=>a9 47 X.A (f v u) Q 68 iu) 68 ep) 68 s:=by refine 874 (aN 07 s σ H _ I h);refine f65 (aa 07 s1 σ H1 _ aX bg) ?_;exact hf v u s2 x y aB b5 bU cT cf
theorem eu{op:Di}{r:r3}(a8:gs X (r6 op) r)(aN:658)(aa:944 b):bF X (.BinOp a op b pos) (r4 r bW tb):=i14 (wpAny_BinOp (Nc aN aa I h (p29 (a8 07 s2 σ aB x y v u Q b5 bw bQ q))))
theorem Nd{op:UnaryOp}{r:934}(a8:Na X (unaryOp op) r)(aN:658):bF X (.UnaryOp op a pos) (ala r bW):=i14 (UnaryOp_ (b65 (aN 07 s σ H _ I h) (a8 07 s1 σ H1 x v Q aX bU bg)))
theorem Dn{f:aH→aH→054}{C:Int→92 Int}{g:Int→e94}(rule:l73 489 (C i j→Q (g39 (g i j)) c70→a9 47 X.A (f 705 (785 j)) Q E s)):gs X f (e77 C (g i j)):=by rw[A45];obtain⟨i,j,rfl,rfl,ar,q⟩:=h;rw[A12];rw[A19];exact rule i j t t' s _ _ ar ⟨.int (g i j),H,279,282,q⟩
theorem WL{f:aH→aH→054}{g:Int→e94}(rule:l73 489 (Q (g39 (g i j)) c70→a9 47 X.A (f 705 (785 j)) Q E s)):gs X f (r5 (i32 (g i j))):=by rw[A45];rw[D62];rw[A12];rw[A19];exact rule i j t t' s _ _ ⟨.int (g i j),H,279,282,q⟩
theorem Hx{f:aH→aH→054}{g:Int→481 Int}(rule:l73 489 (Q (.bool (g i j)) s→a9 47 X.A (f 705 (785 j)) Q E s)):gs X f (g66 (g i j)):=by rw[A45];rw[D62];rw[A12];rw[A19];exact rule i j t t' s _ _ (128 (g i j) H I q)
def alb(i j:Int):04:=0<j∧j<p11
def Hy(i j:Int):04:=(-(2^402)<i∧i<2^402)∨(-(2^402)<j∧j<2^402)
theorem Hy.ok{i j:Int}(h:Hy i j):IntMulOk i j:=by
 rcases h with⟨af,ak⟩|⟨af,ak⟩
 ·exact .of_left (intBits_le_64 af ak)
 ·exact .of_right (intBits_le_64 af ak)
theorem qH:gs X (r6 .Add) (r5 (i32 (i+j))):=WL (p33 (add_int q))
theorem r7:gs X (r6 .Sub) (r5 (i32 (i-j))):=WL (p33 (sub_int q))
theorem vD:gs X (r6 .Mult) (e77 Hy (i*j)):=Dn (r21 (mul_int q ar.ok))
theorem aA5:gs X (r6 o99) (e77 alb (i/j)):=l87 (by have af:413<j:=ar.1;have ak:j<p11:=ar.2;exact WM 03 (b59 (alc i 03)) (.inl (ald 03)))
theorem Hz:gs X (r6 .Mod) (e77 (fun _ j=>0<j) (i%j)):=l87 (by have af:413<j:=ar;exact mod_int' 03 (b59 (Int.fmod_eq_emod_of_nonneg i 03)))
theorem ale{f:aH→054}{g:e94}(rule:∀(i:Int)(t:Tok)(s:aZ)(Q:489)(E:489),Q (g39 (g i)) c70→a9 47 X.A (f 705) Q E s):Na X f (Nb (425 (.int (g i)))):=by rw[D60];rw[C48];rw[A12];exact rule i t s _ _ ⟨.int (g i),H,279,282,q⟩
theorem Nf:Na X (unaryOp .USub) (Nb (425 (.int (-i)))):=ale (fun _ _ _ _ _ q=>neg_int q)
end
def WN:ae→481 ae|.b4,.b4=>01|.b4,.int _=>01|.int _,.b4=>01|.b4,.bN _=>01|.bN _,.b4=>01|.b4,.str _=>01|.str _,.b4=>01|.int _,.int _=>01|.bN _,.bN _=>01|.str _,.str _=>01|.lD _,.lD _=>01|.int _,.str _=>01|.str _,.int _=>01|.bN _,.str _=>01|.str _,.bN _=>01|_,_=>09
inductive WO(x:ae)(y:ae)(H:av)(Q:aW):04|mk:WN x y=01→446 (29 (x=y))→WO x y H Q
inductive WQ(x:ae)(y:ae)(H:av)(Q:aW):04|mk:WN x y=01→446 (! 29 (x=y))→WQ x y H Q
theorem WR{i j:Int}:a34 i j=(i==j):=p32
theorem WS{i j:Bool}:29 (ae.bN i=ae.bN j)=(i==j):=p32
theorem WT{i j:Str}:29 (ae.str i=ae.str j)=(i==j):=p32
theorem WU{i j:723 UInt8}:29 (ae.lD i=ae.lD j)=(i.toList==j.toList):=by rw[hu];cases i;cases j;simp
section
variable{a b c:dn}{tb pF:ct}
theorem gJ{σ:bq}{s:aZ}{Q:aW}{k fZ:Bool}(I:24)(q:446 k)(e:k=fZ):hK X 07 σ Q (.bool fZ) s:=by subst e;exact 128 k H I q
theorem fv:gs X (jv .Eq) WO:=by
 rw[A45];obtain⟨aL,q⟩:=h
 cases x with
  |b4=>
   rw[A07]
   cases y with|b4=>rw[A24];exact PySem.EqNone.eq_none_none 395|bN j=>rw[A24];exact PySem.EqNone.eq_none_bool 395|int j=>rw[A19];exact PySem.EqNone.eq_none_int 395|str j=>rw[A19];exact PySem.EqNone.eq_none_str 395|_=>rw[A69]
  |bN i=>
   rw[A07]
   cases y with|b4=>rw[A24];exact PySem.EqNone.eq_bool_none 395|bN j=>rw[A24];exact eq_bool (gJ I q WS)|str j=>rw[A19];exact PySem.EqMixed.eq_bool_str 395|_=>rw[A69]
  |int i=>
   rw[A12]
   cases y with|b4=>rw[A24];exact PySem.EqNone.eq_int_none 395|int j=>rw[A19];exact eq_int (gJ I q WR)|str j=>rw[A19];exact PySem.EqMixed.eq_int_str 395|_=>rw[A69]
  |str i=>
   rw[A12]
   cases y with|b4=>rw[A24];exact PySem.EqNone.eq_str_none 395|bN j=>rw[A24];exact PySem.EqMixed.eq_str_bool 395|int j=>rw[A19];exact PySem.EqMixed.eq_str_int 395|str j=>rw[A19];exact eq_str (gJ I q WT)|_=>rw[A69]
  |lD i=>
   rw[A12]
   cases y with|lD j=>rw[A19];exact PySem.W.eq_bytes (gJ I q WU)|_=>rw[A69]
  |_=>cases y<;>exact 69 (p31 933) hB
theorem k4:gs X (jv .NotEq) WQ:=by
 rw[A45];obtain⟨aL,q⟩:=h
 cases x with
  |b4=>
   rw[A07]
   cases y with|b4=>rw[A24];exact PySem.EqNone.ne_none_none 395|bN j=>rw[A24];exact PySem.EqNone.ne_none_bool 395|int j=>rw[A19];exact PySem.EqNone.ne_none_int 395|str j=>rw[A19];exact PySem.EqNone.ne_none_str 395|_=>rw[A69]
  |bN i=>
   rw[A07]
   cases y with|b4=>rw[A24];exact PySem.EqNone.ne_bool_none 395|bN j=>rw[A24];exact ne_bool (gJ I q (109 not WS))|str j=>rw[A19];exact PySem.EqMixed.ne_bool_str 395|_=>rw[A69]
  |int i=>
   rw[A12]
   cases y with|b4=>rw[A24];exact PySem.EqNone.ne_int_none 395|int j=>rw[A19];exact ne_int (gJ I q (109 not WR))|str j=>rw[A19];exact PySem.EqMixed.ne_int_str 395|_=>rw[A69]
  |str i=>
   rw[A12]
   cases y with|b4=>rw[A24];exact PySem.EqNone.ne_str_none 395|bN j=>rw[A24];exact PySem.EqMixed.ne_str_bool 395|int j=>rw[A19];exact PySem.EqMixed.ne_str_int 395|str j=>rw[A19];exact ne_str (gJ I q (109 not WT))|_=>rw[A69]
  |lD i=>
   rw[A12]
   cases y with|lD j=>rw[A19];exact PySem.W.ne_bytes (gJ I q (109 not WU))|_=>rw[A69]
  |_=>cases y<;>exact 69 (p31 933) hB
theorem ka:gs X (jv .Lt) (g66 (29 (i<j))):=i44 (lt_int q)
theorem Aa:gs X (jv .LtE) (g66 (555 i j)):=i44 (le_int q)
theorem oA:gs X (jv .Gt) (g66 (29 (j<i))):=i44 (gt_int q)
theorem Ng:gs X (jv .GtE) (g66 (555 j i)):=i44 (ge_int q)
theorem jX:gs X (jv .Is) (o89 (y=.b4∧446 (29 (x=.b4)))):=by rw[A45];obtain⟨rfl,q⟩:=h;rw[A24];refine is_none_gen (gJ I q ?_);cases x<;>first|(rw[A07];rfl)|(rw[A12];rfl)
theorem tK:gs X (jv .IsNot) (o89 (y=.b4∧446 (! 29 (x=.b4)))):=by rw[A45];obtain⟨rfl,q⟩:=h;rw[A24];refine isnot_none_gen (gJ I q ?_);cases x<;>first|(rw[A07];rfl)|(rw[A12];rfl)
theorem bO(b:dn)(h:op≠.In:=by decide)(ak:op≠.NotIn:=by decide):z0 op b=09:=by
 have aK:(op==CmpOp.In)=09:=by cases op<;>first|rfl|rw[A64 h]
 have aG:(op==CmpOp.NotIn)=09:=by cases op<;>first|rfl|rw[A64 ak]
 rw[D61]
theorem Ab{r:r3}(a8:gs X (jv op) r)(aN:658)(aa:944 b)(hm:z0 op b=09):bF X (k09 a [op] [b]) (r4 r bW tb):=i14 (wpAny_Compare1 (Nc aN aa I h (p29 (a8 07 s2 σ aB x y v u Q b5 bw bQ q))) hm)
inductive WV(Q:a58)(x:ae)(H':av):04|mk:∀k,x=.bN k→Q k H'→WV Q x H'
def WW(t:ct):j6:=262 (t σ H (h95 (WV Q x H')))
theorem bM{r:r3}(a8:gs X (jv op) r)(aN:658)(aa:944 b)(hm:z0 op b=09):mI X (k09 a [op] [b]) (WW (r4 r bW tb)):=by rw[A13];refine akq (b65 (aN 07 s σ H _ I h) (f65 (aa 07 s1 σ H1 _ aX bg) (bY (a8 07 s2 σ aB x y v u _ b5 bU cT cf) (fun c s3⟨z,a5,el,h2,k,e,eC⟩=>?_)))) hm;subst e;cases h2;exact xN ⟨a5,el,eC⟩
inductive WX(dF:r3)(pF:ct)(σ:bq)(Q:aW)(y:ae)(z:ae)(a5:av):04|mk:∀k,z=.bN k→(39 k (pF σ a5 (fun gQ bP=>dF y gQ bP Q)) (826 09 a5))→WX dF pF σ Q y z a5
def alf(r dF:r3)(bW tb pF:ct):ct:=262 (bW σ H (291 (tb σ H1 (890 (r x y aB (fun z a5=>WX dF pF σ Q y z a5))))))
theorem alg{Nh:CmpOp}{r dF:r3}(a8:gs X (jv op) r)(ju:gs X (jv Nh) dF)(aN:658)(aa:944 b)(ar:bF X c pF)(hm:lastMarks [op,Nh] [b,c]=09:=by with_unfolding_all rfl):bF X (k09 a [op,Nh] [b,c]) (alf r dF bW tb pF):=by
 rw[A13];refine Compare_chain (b65 (aN 07 s σ H _ I h) (chain_link (f65 (aa 07 s1 σ H1 _ aX bg) (bY (a8 07 s2 σ aB x y v u _ b5 bU cT cf) (fun d s3⟨z,a5,el,h2,k,e,eC⟩=>?_))))) hm;subst e;cases h2;refine xN ?_
 cases k with|false=>exact ite_ff (128 09 a5 el eC)|true=>exact ite_tt (chain_last (bY (ar 07 s3 σ a5 _ el eC) (fun gQ s4⟨j9,bP,jw,i7,fz⟩=>ju 07 s4 σ bP y j9 u gQ Q jw cT i7 fz)))
def Ni(K:bo)(x:ae)(H:av)(k:Bool):04:=match x with|.b4=>k=09|.bN b=>k=b|.int i=>k=(i !=0)|.str y=>b43≤bc∧k=(n13 !=0)|.lD y=>y.size≤bc∧k=(15 y.size !=0)|.ref p=>(∃xs,aJ K H p xs∧k=d79)∨(∃xs,dX K H p xs∧k=d79)∨∃kvs,H p=c65∧k=m82|_=>739
theorem alh{kvs:523}{vs:a89}(r:603):(! vs.isEmpty)=m82:=by cases r<;>rfl
theorem WY(r:cc xs a0):(! l44)=d79:=by cases r<;>simp
theorem vE:(bc:Nat)<2^0x3f:=by rw[Ac];decide
theorem ali:ak9 X (fun x H Q=>∃k,Ni X.K x H k∧Q k H):=by
 rw[D60];obtain⟨k,e,q⟩:=h;have ax:=vE;have aL:bc=l32:=Ac
 cases x with
  |b4=>rw[A07];have bZ:k=09:=e;subst bZ;exact truthy_none ⟨H,I,q⟩
  |bN b=>rw[A07];have bZ:k=b:=e;subst bZ;exact xN ⟨H,I,q⟩
  |int i=>rw[A12];have bZ:k=(i !=0):=e;subst bZ;exact alj ⟨H,I,q⟩
  |str y=>rw[A12];obtain⟨aC,bZ⟩:b43≤bc∧k=(n13 !=0):=e;subst bZ;exact PySem.P.truthy_str 03 ⟨H,279,q⟩
  |lD y=>rw[A12];obtain⟨aC,bZ⟩:y.size≤bc∧k=(15 y.size !=0):=e;subst bZ;exact PySem.W.truthy_bytes 03 ⟨H,279,q⟩
  |ref p=>
   rw[A07];have bZ:(∃xs,aJ X.K H p xs∧k=d79)∨(∃xs,dX X.K H p xs∧k=d79)∨∃kvs,H p=c65∧k=m82:=e;rcases bZ with⟨xs,ai,bZ⟩|⟨xs,ai,bZ⟩|⟨kvs,ai,bZ⟩
   ·subst bZ;rw[B34 ai];rw[B79];exact wpAny_truthy_list 965 r72 ⟨H,279,b59 (WY r)⟩
   ·subst bZ;rw[B93 (b26 ai)];rw[B79];exact truthy_tuple pl r72 ⟨H,279,b59 (WY r)⟩
   ·subst bZ;obtain⟨hz,aY,vs,r,m⟩:a92∧(p==l5)=09∧∃vs,603∧s.heap.DictOf (fg 61 X.w) p vs:=613 p ai;have hlen:e31:=rS r;exact wpAny_truthy_dict aY m 03 ⟨H,279,b59 (alh r)⟩
  |_=>exact(show False from e).elim
theorem Nj(aN:658)(he:∀whole,j68 a 510=(do
 let v←whole
 xR a.pos
 nz [v] (truthy v))):mI X a (262 (bW σ H (h95 (∃k,Ni X.K x H' k∧Q k H')))):=by rw[A13];exact isTrue_plain (b65 (aN 07 s σ H _ I h) (ali 07 s1 σ H1 x v Q aX bU bg)) (he _)
inductive WZ(x:ae)(y:ae)(H:av)(Q:aW):04|mk:∀i j,x=.str i→y=.str j→i.length+j.length≤bc→Q (.str (i++j)) H→WZ x y H Q
theorem Nk:gs X (r6 .Add) WZ:=by rw[A45];obtain⟨i,j,rfl,rfl,hz,q⟩:=h;rw[A12];rw[A19];exact add_str (fun t' tk=>⟨.str (i++j),H,279,282,q⟩) hz
theorem o3{x:ae}(r:594 [x]):∃u,us=[u]∧684 x:=by cases r with|cons bU cT=>cases cT;rw[A15 bU]
theorem TV{x:ae}(r:594 [x,y]):∃u gQ,us=[u,gQ]∧684 x∧RelV y gQ:=by cases r with|cons bU cT=>cases cT with|cons h2 i7=>cases i7;exact⟨_,_,rfl,bU,h2⟩
inductive W0(xs:08)(H:av)(Q:aW):04|mk:∀i,xs=[260]→(662 (13 (i<0) (-i) i))→W0 xs H Q
theorem W2:iy X (399 "abs") W0:=by rw[A60];rw[C48];rw[B36 r];exact call_abs_int (fun u tk=>⟨.int (13 (i<0) (-i) i),H,279,282,q⟩)
inductive W3(xs:08)(H:av)(Q:aW):04|mk:∀i j,xs=[260,858]→(662 (13 (j<i) j i))→W3 xs H Q
theorem alk(ar:394):iy X (399 "min") W3:=by
 rw[A60];obtain⟨i,j,rfl,q⟩:=h;obtain⟨u,gQ,rfl,⟨t,rfl⟩,⟨t',rfl⟩⟩:=TV r;refine min_two_ints 408 (fun h' tk k=>⟨_,H,I.kept k,?_,q⟩);by_cases bS:j<i
 ·rw[21 bS,21 bS];rw[A08 rfl]
 ·rw[23 bS,23 bS];rw[A08 rfl]
inductive W4(xs:08)(H:av)(Q:aW):04|mk:∀x,xs=[765]→96=1→Q (a15 (x.cps.getD 0 0)) H→W4 xs H Q
theorem alm:iy X (399 "ord") W4:=by rw[A60];obtain⟨x,rfl,hz,q⟩:=h;rw[B36 r];exact ord_of_one hz ⟨.int _,H,279,282,q⟩
end
end
section
variable{A:rU}{C D I a b bG c d dx f i1 i2 p t:ag}{E Q:aH→aZ→Prop}{F:List (List Nat)}{expr:Bool}{K:bo}{M:Model}{N ps:List Str}{P prog:f3}{R:Result→aZ→Prop}{apos pos pos' te:Pos}{S:ag→Prop}{us vs:List aH}{ch:List ag}{aG e value:dn}{aR:Array Ip}{bx doc ek ig u:aH}{o:Obj}{ah dG:Str→Option aH}{pins:List (ag×Obj)}{an az cQ func:Option ag}{body:List bK}{c0 i j n t':Nat}{base h h':dk}{g l:List Nat}{ns r:List Int}{d':Drawn}{k7:Array (Option aH)}{ds:List WData}{env:Env}{fd:k6}{g':Array Qs}{kw:List (Str×aH)}{name qual x:Str}{op:CmpOp}{outer:List Env}{own:List (Str×Nat)}{params:Arguments}{pl:Sem Bool}{q:Search}{s s':dt}{sc scope:rp}{tk:Tok}{v:Word}{w:ff}{m:g0}{cb:List (Option ae)}{xs:List ae}{y:ae}{H H' H1 aB:av}{bC:dz}{X:dT}{r9:ae→ae→av→aW→Prop}{bW c7 h5 ty:ct}
structure xY(h:dk)(x dx C:ag)(dG:261):04 where
 obj:654 x (xG C dx)
 ns:058
 ne:dx≠x
theorem aln(n:058):∃cQ,654 dx cQ∧∀name,Nl 234 cQ=some a64:=by
 obtain⟨o,aR,c0,a8,hd,aS,_,hm⟩:=n;refine⟨o,a8,fun name=>?_⟩;have e:=hm 234;unfold nsFind findBy at e;rw[←alo]at e;unfold Nl;rw[hd];rw[A71];split
 ·rename_i y q;rw[q]at e;exact d73 e
 ·rename_i q;rw[q]at e;have a:aR.toList.any (·.refKey)=09:=by rw[Gj];intro y aC;obtain⟨z,t,alp⟩:=aS y (Array.mem_toList_iff.mp aC);simp[DictEntry.refKey,alp]
  have W5:¬aR.toList.any (·.refKey)=01:=by rw[a];exact hB
  rw[23 W5];exact d73 e
theorem xY.look{x:ag}(I:xY h x dx C dG):∃cQ,PySem.W.InstAt h x (xG C dx) C (some cQ)∧∀name,Nl 234 cQ=some a64:=let⟨cQ,a8,ax⟩:=aln I.ns;⟨cQ,072 I.obj a8,ax⟩
section
variable{s:aZ}{x:ag}{v:aH}
theorem aAO(X:d84)(I:xY 28 x dx C dG)(a4:HA K C 234=01)(dh:Nm K C=01)(aN:r8 K 236 234=326)(a3:a64=54)(vF:alq v=01)(h:Q v c70):a9 232 A (HB 438 234 expr) Q E s:=by obtain⟨cQ,fu,ax⟩:=I.look;exact PySem.W.get_value X fu (W6 a4).1 (PySem.W.findObj_own dh aN rfl (by rw[ax,a3])) vF h
theorem alr{Q:455 (aH×53)}(X:d84)(I:xY 28 x dx C dG)(a4:HA K C 234=01)(hf:r8 K 236 234=870)(bk:Nn K 590=01)(a3:a64=00)(h:Q (590,[438]) s):a9 232 A (Ad 438 234 pl) Q E s:=by rw[D59];exact PySem.W.method_fn X fu (W6 a4).1 (W6 a4).2 hf (beq_iff_eq.mp bk) (by show(Nl 234 cQ).map (·.isSome)=some 09;rw[ax,a3];rfl) h
theorem als{ns:221}{Q:592}(X:d84)(I:xY 28 x dx C dG)(aL:r8 K 236 b23=c44)(au:W7 K C=01)(bk:W8 K C 234=326)(dh:Nm K C=01)(hw:G_ dG ns)(hsz:314≤bc)(h:∀h',xY h' x dx C (131 (13 (y=234) 54 (dG y)))→ox dx 28 h'→Q () (r34 (233+2))):a9 232 A (Dp 438 234 v) Q E s:=by rw[D59];refine PySem.W.set_plain X fu aL (PySem.W.osa_open (s:=c70) (r:=00) X fu au bk (506 ?_));obtain⟨cd,ar,kW⟩:=PySem.W.any_some dh;have ai:393 x ⟨236,a84,.plain,#[]⟩:=I.obj;rw[A00 (cx (a7 (a7 (wpAny_loadPart ai (a7 (PySem.W.Looks.here (s:=c70) (PySem.W.looks_clsIn X ar) ?_))))))];rw[kW];refine cx (a:=a84) (a7 (cx (a7 ?_)));refine wpAny_nsSet1 (s:=c70) I.ns (fun h' W9 jx=>?_);obtain⟨alu,aA6,aA7,alv,alw,alx⟩:=W9.count (aly 234 v hw);rw[A00 (wpAny_lookBehind alv (by rw[alw];exact pastItsLine_dict (cX alx k70)) ?_)];exact cx (h _ ⟨38 (jx.2 _ (jq I.ne)) I.obj,W9,I.ne⟩ jx)
theorem alz(X:d84)(hm:Np K C=01)(hi:r8 K 236 421=870)(hf:PySem.W.typeIn K 590=some f82)(h:qI 232 (f98 ⟨236::vs,kw⟩) (.call 590 ⟨.ref 288::vs,kw⟩) (PySem.W.InitBack 288 R) (621 ((b77).push (xG C 18)))):qI 232 A (.call 236 ⟨vs,kw⟩) R s:=by obtain⟨dh,g,d,t,os⟩:=s;exact PySem.W.make_core (PySem.W.makes_of X hm) (PySem.W.looks_findIn X hi) (fun self=>PySem.W.bind_fn X self hf) 253 h
end
def cC(f:Str)(v:ae):324→324|[]=>[(f,v)]|(g,x)::r=>13 (g=f) ((g,v)::r) ((g,x)::cC f v r)
theorem e2(f g:Str)(v:ae):∀bl:324,805 (cC f v bl) g=13 (g=f) 54 (d10 g)
 |[]=>by
  show qJ g [(f,v)]=_;rw[A39 (g=f)]
  ·have aa:(g==f)=01:=m35;rw[B56 114]
  ·have aa:(g==f)=09:=962 h;rw[B56 125]
 |(k,x)::r=>by
  have ih:=e2 f g v r;rw[108 (cC f v ((k,x)::r)) (13 (k=f) ((k,v)::r) ((k,x)::cC f v r))];rw[A66 (k=f)]
  ·rw[21 aS];rw[A39 (g=k)]
   ·have aa:(g==k)=01:=m35;rw[B56 (21 (h.trans aS))]
   ·have aa:(g==k)=09:=962 h;rw[B56 (23 (fun e:g=f=>h (e.trans aS.symm)))]
  ·rw[134];rw[A39 (g=k)]
   ·have aa:(g==k)=01:=m35;rw[B56 (23 (fun e:g=f=>aS (h.symm.trans e)))]
   ·have aa:(g==k)=09:=962 h;simp only[qJ,aa];exact ih
theorem Dq(f:Str)(v:ae):∀bl:324,f∈a24 (cC f v bl)∧∀g,g∈b75→g∈a24 (cC f v bl)
 |[]=>⟨by simp[cC],h26 500⟩
 |(k,x)::r=>by
  obtain⟨i1,i2⟩:=Dq f v r;rw[108 (cC f v ((k,x)::r)) (13 (k=f) ((k,v)::r) ((k,x)::cC f v r))];rw[A66 (k=f)]
  ·rw[21 aS];subst aS;exact⟨19,h26 967⟩
  ·rw[134];rw[A03 ?_ (h26 ?_)]
   ·rw[eN];exact d4 _ i1
   ·rw[eN]at h⊢;rw[C15 h]
    ·exact ed.mpr (.inl e)
    ·exact d4 _ (i2 g e)
theorem W_(f:Str)(v:ae):∀bl:324,11 (cC f v bl)≤l49+1
 |[]=>by simp[cC]
 |(k,x)::r=>by
  have ih:=W_ f v r;rw[108 (cC f v ((k,x)::r)) (13 (k=f) ((k,v)::r) ((k,x)::cC f v r))];rw[A66 (k=f)]
  ·rw[168,dR,dR];lia
  ·rw[134,dR,dR];lia
theorem j8.some_of{v:ae}{o:631}(r:j8 54 o):∃u,o=56∧465:=by cases o with|none=>exact i36|some u=>rw[A44 u r]
theorem j8.none_of{o:631}(r:j8 00 o):o=00:=by cases o with|none=>rfl|some u=>exact i36
theorem alA{v:ae}(r:465):alq u=01:=by cases v with|b4=>cases f75 (u=fh);rfl|bN b=>cases f75 (u=xF b);rfl|int i=>rw[B17 (u=zT i t)];cases e;rfl|str x=>rw[B17 (u=C4 x t)];cases e;rfl|lD b=>rw[B17 (u=Value.bytes b t)];cases e;rfl|G9 b=>rw[B17 (u=Value.float b t)];cases e;rfl|ref a=>cases f75 (u=da a);rfl|ty n=>cases f75 (u=vm n);rfl
section
variable{bl zV:324}
theorem Nq(bB:fy P w H h)(e:H a=853):∃dG,xY h a dx C dG∧(∀f,j8 000 (dG f))∧G_ dG b75∧l49≤1000∧H dx=g94:=by obtain⟨d,z,ne,bC,dG,n,r,q⟩:=(88 (fx P w H h a (799 bl)) (bB a _ e));exact⟨dG,⟨bC,n,ne⟩,r,q,z,d⟩
end
structure h4(K:bo)(C:ag):04 where
 dq:HA K C Dr=01
 hd:Nm K C=01
 po:W7 K C=01
 bG:r8 K 236 b23=c44
theorem h4.get(c:h4 K C)(f:Str):HA K C f=01:=c.dq
def fi(K:bo)(C:ag)(f:Str):04:=r8 K 236 f=326
theorem fi.alB{f:Str}(n:245 f):W8 K C f=326:=by unfold W8;rw[show r8 K 236 f=326 from n];rfl
structure Cc(K:bo)(C:ag)(m:Str)(f:ag):04 where
 at_:r8 K 236 m=870
 fn:Nn K 590=01
 fC:066 K=01
section
variable{σ:bq}{s:aZ}{bl:324}{f:Str}{v:ae}
theorem Xa{b:Bool}(I:24)(e:H a=853)(c:945 C)(n:fi X.K C f)(l:000=54)(h:∀u s',aQ X 07 σ H s'→465→Q u s'):a9 47 A (HB 37 f b) Q E s:=by rw[D58 (Nq 274 e)];rw[B49 (o60 v (dG f) (o61 (r f)))];exact aAO I.gF O (c.get f) c.hd n bp (alA gR) (h u _ 279 gR)
theorem Nr{m:Str}{g:ag}{Q:455 (aH×53)}(I:24)(e:H a=853)(c:945 C)(k:Cc X.K C m g)(l:d10 m=00)(h:Q (.ref g,254) s):a9 47 A (Ad 37 m pl) Q E s:=by rw[D58 (Nq 274 e)];have aU:dG m=00:=j8.none_of (o61 (r m));exact alr I.gF O (c.get m) k.at_ k.fn aU h
theorem Nt{Q:592}(I:24)(e:H a=853)(c:945 C)(n:fi X.K C f)(ax:c20)(bQ:464)(h:∀s',aQ X 07 σ (264 H a C (cC f y bl)) s'→Q () s'):a9 47 A (Dp 37 f u) Q E s:=by
 obtain⟨dG,O,r,hL,_,a8⟩:=Nq 274 e;have hz:069 b75:=q87;refine als I.gF O c.bG c.po n.alB c.hd hL hz (fun h' Nu eX=>h _ ?_);have hd:∃o,b81 dx:=let⟨o,_,_,bZ,_⟩:=Nu.ns;⟨o,bZ⟩;refine I.write (x:=a) (e:=dx) p17 (.inr a8) (fun b q aa z=>385 b aa z) hd ?_;refine⟨by rw[aE O.ne];exact a8,?_,O.ne,Nu.obj,_,Nu.ns,563 ?_,c33⟩
 ·have:=W_ f y bl;lia
 ·show j8 (805 (cC f y bl) g) (13 (g=f) 56 (dG g));rw[e2];by_cases q:g=f
  ·rw[181,181];exact bQ
  ·rw[23 q,23 q];exact r g
 ·by_cases q:g=f
  ·rw[q];exact(Dq f y bl).1
  ·refine(Dq f y bl).2 g (hL g (16 (a4 ?_)));show(13 (g=f) 56 (dG g))=00;rw[23 q];exact z
theorem aQ.made(I:24):aQ X 07 σ (761 18 (.own 288) 288 (.ins C 18 [])) (621 ((b77).push (xG C 18))):=by
 have aK:(b77).get? 18=some vG:=gg 28 rfl;have aG:((b77).push (xG C 18)).get? 288=some (xG C 18):=by have:=gg b77 (o:=xG C 18) rfl;rwa[kz]at this
 have cp:(b77).Ns 18 d75:=⟨vG,#[],_,aK,rfl,(h24 (151 he)),524⟩;have aX:=I.laid (a:=18) (o:=.own 288) (h':=b77) (t':=233) (i01 (dY _ q)) 64 (404 aK);refine aX.laid (a:=288) (o:=.ins C 18 []) (t':=233) (i01 (dY _ q)) (HC (kz _ _)) ?_;have ne:18≠288:=fk (zI _);refine⟨by rw[aE ne,aI],229,ne,aG,d75,(alC cp).at (b60 (dY _ q)),290 xZ,086 (69 rfl aC)⟩
theorem Xb{f:Str}{s:aZ}(aa:tL e f env (b07 e)=b07 e)(h:a9 232 A (b07 e) (fun o ep=>a9 232 A (HB o f 01) Q E ep) E s):a9 232 A (b07 (b92 f pos)) Q E s:=Attribute_any_ h (by rw[arm_eval_Attribute,aa])
end
inductive Xc(K:bo)(f:Str)(Q:aW)(x:ae)(H1:av):04|mk:∀a C dx bl v,x=37→H1 a=853→h4 K C→245 f→000=54→Q v H1→Xc K f Q x H1
def x1(K:bo)(bW:ct)(f:Str):ct:=262 (bW σ H (291 (Xc K f Q x H1)))
inductive Xd(K:bo)(f:Str)(D:lY)(σ:bq)(y:ae)(x:ae)(aB:av):04|mk:∀a C dx bl,x=37→aB a=853→h4 K C→245 f→c20→686 (264 aB a C (cC f y bl))→Xd K f D σ y x aB
def Xe(K:bo)(bW h5:ct)(f:Str):gH:=474 (h5 σ H (d18 (bW σ H1 (d20 (Xd K f D σ y x aB)))))
def Xf(X:dT)(op:Di)(r9:ae→934):04:=∀(pins:225)(s:aZ)(σ:bq)(H:av)(x y:ae)(u v:aH)(Q:aW),24→684 x→RelV y v→r9 x y H Q→a9 47 X.A (inplaceOp op u v) 496 68 s
inductive Xg(K:bo)(h5:ct)(r9:ae→934)(f:Str)(D:lY)(σ:bq)(x:ae)(H1:av):04|mk:∀a C dx bl v,x=37→H1 a=853→h4 K C→245 f→000=54→(h5 σ H1 (890 (r9 v y aB (fun z a5=>∃Ds zV,a5 a=710 Ds zV∧zV.length<1000∧686 (upd a5 a (.ins C Ds (cC f z zV)))))))→Xg K h5 r9 f D σ x H1
def alD(K:bo)(bW h5:ct)(r9:ae→934)(f:Str):gH:=474 (bW σ H (291 (Xg K h5 r9 f D σ x H1)))
section
variable{o:dn}{f:Str}
theorem vH(he:757 e)(aa:tL e f 55 688=688):bF X (b92 f pos) (x1 X.K bW f):=by rw[A13];refine Xb aa (bY (he 07 s σ H _ I h) (fun u s1⟨x,H1,aX,bw,a,C,dx,bl,v,ex,d1,c,n,l,q⟩=>?_));rw[A25];rw[A38 u];exact Xa aX d1 c n l (fun jT s2 b5 gR=>⟨v,H1,b5,gR,q⟩)
theorem fS(aN:757 o)(a3:g78 h5)(aL:g88 676 (e56 f)=910):iV X (d94 [e56 f] 676) (Xe X.K bW h5 f):=by rw[A35];refine Nv (bY (a3 07 s σ H _ I h) (i33 (aN 07 s1 σ H1 _ aX q) (fun dA s2⟨x,aB,b5,bw,a,C,dx,bl,ex,d1,c,n,l,cf⟩=>?_))) aL;rw[A25];rw[A38 dA];exact Nt b5 d1 c n l bQ (f39 ⟨σ,_,el,cf⟩)
theorem Xh{op:Di}(aN:757 o)(a3:g78 h5)(alE:Xf X op r9):iV X (.AugAssign (480 f te) op 676 pos) (alD X.K bW h5 r9 f):=by rw[A35];refine wpAny_AugAssign_AttributeAny (bY (aN 07 s σ H _ I h) (fun dA s1⟨x,H1,aX,bw,a,C,dx,bl,v,ex,d1,c,n,l,q⟩=>?_));rw[A25];rw[A38 dA];refine Xa aX d1 c n l (fun u s2 b5 gR=>bY (a3 07 s2 σ H1 _ b5 q) (fun mH s3⟨y,aB,el,bQ,eC⟩=>bY (alE 07 s3 σ aB v y u mH _ el gR bQ eC) (fun Ae s4⟨z,a5,jw,alF,Ds,zV,HD,L2,fz⟩=>?_)));exact Nt jw HD c n L2 alF (fun s5 nA=>⟨σ,_,nA,fz⟩)
inductive Xi(x:ae)(y:ae)(H:av)(Q:aW):04|mk:∀i j,x=260→y=858→662 (i+j)→Xi x y H Q
theorem Xj:Xf X .Add Xi:=by rintro pins s σ H x y u v Q I bw bQ⟨i,j,rfl,rfl,q⟩;rw[B44 (show∃t,u=zT i t from bw)];obtain⟨t',rfl⟩:=g35 (∃t',v=zT j t');exact akP ⟨.int (i+j),H,279,282,q⟩
theorem aA8{m:Str}{args:439}{s:aZ}{σ:bq}(he:529)(I:24)(h:c7 σ H (291 (∃a C dx bl g,x=37∧H1 a=853∧945 C∧Cc X.K C m g∧d10 m=00∧∀s1,aQ X 07 σ H1 s1→a9 47 X.A (Af pos (.ref g) 254 (hA pos (406 args)) (x2 pos (x3 [] 55))) Q 68 s1)))(bk:405 (.Call (b92 m apos) args [] pos)=(do
 let dA←cE e X.env
 xR apos.atName
 let(f,first)←nz [dA] (Ad dA m pl)
 Af pos f first (hA pos (dc args X.env)) (x2 pos (x3 [] X.env)))):a9 47 X.A (405 (.Call (b92 m apos) args [] pos)) Q 68 s:=by refine Xk (pl:=pl) (bY (he 07 s σ H _ I h) (fun u s1⟨x,H1,aX,bw,a,C,dx,bl,g,ex,d1,c,k,l,q⟩=>?_)) bk;rw[A25];rw[A38 u];exact Nr aX d1 c k l (q s1 aX)
end
section
variable{σ:bq}{s:aZ}{c:aH}{b:Bool}
end
structure f5(k:Nat)(A:rU):04 where
 hd:595
 HE:l48+3*k+5<r71
 un:776 (377*k)+0xc8<kb
theorem f5.mono{k:Nat}(r:f5 k A)(h:j≤k):f5 j A:=⟨r.hd,r70,r69⟩
theorem f5.deeper{k:Nat}(r:f5 (k+1) A)(env:Env):f5 k (A.deeper env):=⟨r.hd,by have:=r.HE;show l48+1+3*k+5<_;lia,by have:=r.un;show 776 3+377*k+0xc8<_;lia⟩
theorem alG:(f98 ⟨236::us,kw⟩).depth=l48+1:=by first|rfl|simp[Xl,Code.weight,Code.isCreation,Code.isGuard,Code.isCaller,Code.frames,Xm,guardIds]
theorem alH:(f98 ⟨236::us,kw⟩).units=776 1:=by first|rfl|simp[Xl,Code.cUnits,Code.frames,Xm]
theorem f5.make{k:Nat}(r:f5 (k+1) A)(C:ag)(us:53)(kw:820 aH):f5 k (f98 ⟨236::us,kw⟩):=⟨r.hd,by have:=r.HE;rw[alG];lia,by have:=r.un;rw[alH];lia⟩
theorem f5.depth{k:Nat}(r:f5 k A):l48<r71:=r70
theorem f5.units{k:Nat}(r:f5 k A):776 402<kb:=r69
def qK:fG:=j67 [] H
def r_(bW:ct)(l9:fG):fG:=262 (bW σ H (291 (l9 σ H1 (fun xs aB=>Q (x::xs) aB))))
section
variable{aR:439}{t:fG}
theorem ay:hZ X [] qK:=fun _ _ _ _ H Q I h=>Nw ⟨[],H,I,89,h⟩
theorem aj(aN:529)(aq:hZ X aR t)(aL:657=391::458:=by rfl):hZ X (e::aR) (r_ c7 t):=by intro pos pins s σ H Q I h;rw[aL];show a9 _ _ (spliced (391::hA pos 458)) _ _ s;refine Nx (bY (aN 07 s σ H _ I h) (r65 ?_));exact bY (aq pos 07 s1 σ H1 _ aX bg) (fun us s2⟨xs,aB,b5,cT,cf⟩=>⟨x::xs,aB,b5,.cons bU cT,cf⟩)
inductive Xn(Q:aW)(xs:08)(H1:av):04|mk:052→(∀p,H1 p=00→664 (388 H1 p xs))→Xn Q xs H1
def alI(t:fG):ct:=262 (t σ H (fun xs H1=>Xn Q xs H1))
inductive Ny(Q:aW)(xs:08)(H1:av):04|mk:052→(∀p,H1 p=00→837 p H1 p xs)→Ny Q xs H1
def HF(t:fG):ct:=262 (t σ H (fun xs H1=>Ny Q xs H1))
theorem oC{gr:_}(h:hZ X aR t):bF X (.Tuple aR gr pos) (alI t):=by rw[D57];refine wpAny_Tuple_spliced (bY (h pos 07 s σ H _ I aw) (r67 (328 r68)));have hf:H1 227=00:=d56;refine 838 227 (388 H1 227 xs) (m90 b55 m26 ?_) (q _ hf);exact⟨z,us,r,⟨_,111,rfl,_,rfl⟩⟩
theorem cN(h:hZ X aR t):bF X (.List aR pos) (HF t):=by rw[D57];refine wpAny_List_spliced (bY (h pos 07 s σ H _ I aw) (r67 (328 r68)));have hf:H1 227=00:=d56;refine 838 227 (34 H1 227 xs) (m90 b55 m26 ?_) (q _ hf);exact⟨z,us,0,r,111⟩
end
abbrev mM:=08→av→aW→92 bD
abbrev pJ:=596→av→aZ→bD→489
structure x4(P:f3)(w:ff)(K:bo)(ah:261)(base:dk)(A:rU)(outer:596)(s:aZ)(H:av):04 where
 frames:l09=some 91
 mod:Mod K ah 02
 bs:374 (base.get? b) (346∧H b=00)
 qA:base.objs.size≤18
 ow:i50 91
 vp:∀b∈j91,H b=00
 bB:fy P w H 28
 bare:xI d15
inductive HG(outer:596)(P:f3)(w:ff)(H:av)(s:aZ)(Q:aW)(u:aH)(s':aZ):04|mk:∀v H',s'.os=s.os→j69→ir j91 [] H H' 28 542→fy P w H' 542→465→Q v H'→HG 91 P w H s Q u s'
variable{CX:pJ}{sp:mM}
def dI(CX:pJ)(outer:596)(P:f3)(w:ff)(H:av)(s:aZ)(Q:aW)(E:bD)(r:Result)(s':aZ):04:=match r with|.ok (.ret u)=>HG 91 P w H s Q u s'|.ok _=>739|.error e=>CX 91 H s E e s'
structure eP(P:f3)(w:ff)(K:bo)(ah:261)(base:dk)(CX:pJ)(k:Nat)(f:ag)(fd:k6)(ps:221)(sp:mM):04 where
 len:e09 (sp vs H Q E) f96
 run:∀(A:rU)(outer:596)(s:aZ)(H:av)(args:Args)(us:53)(vs:08)(Q:aW)(E:bD),f5 k A→x4 P w K ah 02 A 91 s H→Dt s fd args 907→a93→sp vs H Q E→qI 289 A (.call 590 args) (dI CX 91 P w H s Q E) s
theorem eP.mono{P:f3}{w:ff}{K:bo}{ah:261}{base:dk}{CX:pJ}{j k:Nat}{f:ag}{fd:k6}{ps:221}{sp:mM}(F:eP P w K ah 02 CX j f fd ps sp)(h:j≤k):eP P w K ah 02 CX k f fd ps sp:=⟨F.len,fun A outer s H args us vs Q E aq=>F.run A 91 s H args us vs Q E (aq.mono h)⟩
theorem eP.imp{k:Nat}{Du:mM}(F:eP P w K ah 02 CX k f fd ps sp)(h:e09 (Du vs H Q E) (sp vs H Q E)):eP P w K ah 02 CX k f fd ps Du:=⟨fun vs H Q E q=>F.len vs H Q E (h _ _ _ _ q),fun A outer s H args us vs Q E aq he aa a3 aL=>F.run A 91 s H args us vs Q E aq he aa a3 (h _ _ _ _ aL)⟩
theorem x4.make{s:aZ}(e:x4 P w K ah 02 A 91 s H)(C:ag)(us:53)(kw:820 aH):x4 P w K ah 02 (f98 ⟨236::us,kw⟩) 91 s H:=⟨by first|exact e.frames|(simpa[Xl,Code.envs,Xm,pushEnvs]using e.frames),e.mod,e.bs,e.qA,e.ow,e.vp,e.bB,e.bare⟩
section
variable{σ:bq}{s s':aZ}
theorem aQ.HH(I:24):x4 61 X.w X.K 507 341 X.A 675 s H:=⟨l02,I.ok.mod,I.bs,g49 I.qB,I.stack,I.Hd,274,579⟩
theorem aQ.after{Q:aW}(I:24)(h:HG 675 61 X.w H s Q u s'):hK X 07 σ Q u s':=by obtain⟨v,H',os,bare,un,bB,r,q⟩:=h;obtain⟨dh,g,d,t,oD⟩:=s';obtain rfl:oD=s.os:=os;exact⟨v,H',I.call (h':=dh) (g':=g) (d':=d) (t':=t) (ch:=[]) un bB bare (l47 (151 z)),r,q⟩
end
def Xo(sp:mM)(h6:08)(E:bD)(t:fG):ct:=262 (t σ H (728 (sp (vs++h6) H1 Q E)))
inductive Xp(C:ag)(m:Str)(sp:mM)(h6:08)(E:bD)(t:fG)(σ:bq)(Q:aW)(x:ae)(H1:av):04|mk:∀a dx bl,x=37→H1 a=853→d10 m=00→(t σ H1 (fun vs aB=>sp (x::(vs++h6)) aB Q E))→Xp C m sp h6 E t σ Q x H1
def HI(C:ag)(m:Str)(sp:mM)(h6:08)(E:bD)(bW:ct)(t:fG):ct:=262 (bW σ H (291 (Xp C m sp h6 E t σ Q x H1)))
def HJ(C:ag)(sp:mM)(h6:08)(E:bD)(t:fG):ct:=262 (t σ H (728 (∀x dx,H1 x=00→H1 dx=00→dx≠x→sp (438::(vs++h6)) (264 (upd H1 dx 641) x C []) (k98 (v=.b4∧514 x aB)) E)))
def lr(K:bo)(fd:k6)(ps:221)(ds:53):04:=f93 (d84→d70 (us++ds)→Dt s fd 915 (ps.zip (us++ds)))
theorem lr.all(h:∀us:53,b79→bindArgs fd 915=pure 907):lr K fd ps []:=fun s us _ ax=>by rw[nh]at ax⊢;exact .of_eq (h us ax)
def n5(CX:pJ)(X:dT)(E:bD):04:=∀(pins:225)(σ:bq)(H:av)(s:aZ)(e:aH)(s':aZ),24→CX 675 H s E e s'→X.dC e s'
section
variable{k:Nat}{h6:08}{ds:53}{E:bD}{m:Str}{p:Pos}{o:dn}{aR:439}{t:fG}
theorem Nz{σ:bq}{s:aZ}{Q:aW}{vs:08}(F:eP 61 X.w X.K 507 341 CX k f fd ps sp)(aq:656 k)(aa:c77)(hd:cc h6 ds)(ai:n5 CX X E)(I:24)(r:a93)(h:sp (vs++h6) H Q E):a9 47 X.A (kZ 590 us) 496 68 s:=by
 have cT:cc (vs++h6) (us++ds):=l45 hd;have ax:d70 (us++ds):=by rw[←cT.length];exact F.len _ _ _ _ h
 refine HK (x5 (F.run X.A 675 s H 915 (us++ds) (vs++h6) Q E aq I.HH (aa s us I.gF ax) cT h) (fun r s' aw=>?_))
 cases r with|error e=>exact ai 07 σ H s e s' I aw|ok c9=>cases c9 with|ret u=>exact I.after aw|next=>exact gI aw|brk=>exact gI aw|cont=>exact gI aw
theorem alJ(F:eP 61 X.w X.K 507 341 CX k f fd ps sp)(aq:656 k)(a4:797)(hm:a98=46 f)(aS:066 X.K=01)(aa:c77)(hd:cc h6 ds)(ai:n5 CX X E)(aN:hZ X (e::aR) t)(lH:(x==598)=09:=by decide)(he:657=391::458:=by rfl)(eH:a71:=by rfl):a57 x (e::aR) (Xo sp h6 E t):=by rw[A13];refine vI (xM I a4 hm ?_ lH);refine HL (h₀:=341) h87 aS (l72 (aN pos 07 s σ H _ I h) j50) he eH;exact Nz F aq aa hd ai aX r q
theorem alK(he:757 o)(c:945 C)(hm:Cc X.K C m f)(F:eP 61 X.w X.K 507 341 CX k f fd ps sp)(aq:656 k)(aa:c77)(hd:cc h6 ds)(ai:n5 CX X E)(aN:hZ X (e::aR) t)(gq:657=391::458:=by rfl)(eH:a71:=by rfl)(bk:405 (.Call (480 m apos) (e::aR) [] pos)=(do
 let dA←cE o X.env
 xR apos.atName
 let(f,first)←nz [dA] (Ad dA m pl)
 Af pos f first (hA pos (dc (e::aR) X.env)) (x2 pos (x3 [] X.env))):=by rfl):bF X (.Call (480 m apos) (e::aR) [] pos) (HI C m sp h6 E bW t):=by rw[A13];refine Xk (pl:=pl) (bY (he 07 s σ H _ I h) (r66 ?_)) bk;rw[A25];rw[A38 u];refine Nr aX d1 c hm l ?_;refine HL (first:=254) (h₀:=341) h87 hm.fC (bY (aN pos 07 s1 σ H1 _ aX q) (fun us s2⟨vs,aB,b5,r,cf⟩=>328 b5.gF)) gq eH;exact Nz (us:=37::us) (vs:=37::vs) F aq aa hd ai b5 (.cons rfl r) cf
theorem alL(he:757 o)(c:945 C)(hm:Cc X.K C m f)(F:eP 61 X.w X.K 507 341 CX k f fd ps sp)(aq:656 k)(aa:c77)(hd:cc h6 ds)(ai:n5 CX X E)(bk:405 (.Call (480 m apos) [] [] pos)=(do
 let dA←cE o X.env
 xR apos.atName
 let(f,first)←nz [dA] (Ad dA m pl)
 Af pos f first (hA pos (dc [] X.env)) (x2 pos (x3 [] X.env))):=by rfl):bF X (.Call (480 m apos) [] [] pos) (HI C m sp h6 E bW qK):=by rw[A13];refine Xk (pl:=pl) (bY (he 07 s σ H _ I h) (r66 ?_)) bk;rw[A25];rw[A38 u];refine Nr aX d1 c hm l ?_;exact alM (first:=254) aX.gF hm.fC (Nz (us:=254) (vs:=254) F aq aa hd ai aX (386 rfl) q)
structure HM(K:bo)(C f:ag):04 where
 makes:Np K C=01
 init:r8 K 236 421=870
 fn:Nn K 590=01
 fC:oB K 236=01
theorem Xq{σ:bq}{s:aZ}{Q:aW}{vs:08}(M:HM X.K C f)(F:eP 61 X.w X.K 507 341 CX k f fd ps sp)(aq:656 (k+1))(aa:c77)(hd:cc h6 ds)(ai:n5 CX X E)(I:24)(r:a93)(h:∀x dx,H x=00→H dx=00→dx≠x→sp (438::(vs++h6)) (264 (upd H dx 641) x C []) (k98 (v=.b4∧514 x aB)) E):a9 47 X.A (kZ 236 us) 496 68 s:=by
 have aw:=h 288 18 (082 163) 683 (fk (zI _));have b5:=aQ.made (C:=C) I;have cT:cc (881 288::(vs++h6)) (da 288::(us++ds)):=.cons rfl (l45 hd);have ax:d70 (da 288::us++ds):=by have e:=cT.length;rw[F.len _ _ _ _ aw]at e;exact e.symm
 refine HK (alz (f:=f) I.gF M.makes M.init (beq_iff_eq.mp M.fn) (x5 (F.run _ 675 _ _ (644 (da 288::us)) (da 288::(us++ds)) _ _ E (aq.make C us []) (b5.HH.make C us []) (aa _ (da 288::us) b5.gF ax) cT aw) (fun r s' iz=>?_)))
 cases r with|error e=>exact ai 07 σ _ _ e s' b5 iz|ok c9=>cases c9 with|ret u=>rw[D26 (b5.after iz)];subst ev;exact⟨cV,⟨881 288,H',el,rfl,eC⟩⟩|next=>exact gI iz|brk=>exact gI iz|cont=>exact gI iz
theorem alN(M:HM X.K C f)(F:eP 61 X.w X.K 507 341 CX k f fd ps sp)(aq:656 (k+1))(a4:797)(hm:a98=46 C)(aa:c77)(hd:cc h6 ds)(ai:n5 CX X E)(aN:hZ X (e::aR) t)(lH:(x==598)=09:=by decide)(he:657=391::458:=by rfl)(eH:a71:=by rfl):a57 x (e::aR) (HJ C sp h6 E t):=by rw[A13];refine vI (xM I a4 hm ?_ lH);refine HL (h₀:=341) h87 M.fC (l72 (aN pos 07 s σ H _ I h) j50) he eH;exact Xq M F aq aa hd ai aX r q
theorem alO(M:HM X.K C f)(F:eP 61 X.w X.K 507 341 CX k f fd ps sp)(aq:656 (k+1))(a4:797)(hm:a98=46 C)(aa:c77)(hd:cc h6 ds)(ai:n5 CX X E)(lH:(x==598)=09:=by decide):a57 x [] (HJ C sp h6 E qK):=by intro pins s σ H Q I h;refine vI (xM I a4 hm ?_ lH);exact alM I.gF M.fC (Xq (us:=[]) M F aq aa hd ai I 89 h)
end
section
variable{k:Nat}{cS:221}{E:bD}{m:Str}{p aA9:Pos}{o:dn}{aR:439}{aBa:List HN}{t tk:fG}{nm:241 Str}
variable{g:53→53→53}{aBb:08→08→08}
end
structure b3(N P:221)(sc:rp):04 where
 kind:i09 sc.kind
 co:sc.isCoroutine=09
 gen:sc.isGenerator=09
 az:N.Nodup
 pre:N.take P.length=P
 par:∀x∈P,a23=491∨a23=492
 alP:∀y∈sc.names,y.2≠.free
theorem Xr{kindOf:j36 pK}{x:Str}:∀{binds:820 aH}{m:261},(∀v,(x,v)∉binds)→k07 binds m x=m x
 |[],_,_=>rfl
 |(n,v)::r,m,h=>by
  unfold bindL;rw[Xr (l46 (h w (d4 _ hw)))];split
  ·have:x≠n:=p30 (h v dO);simp[this]
  ·rfl
theorem Xs{kindOf:j36 pK}{x:Str}:∀{binds:820 aH}{m:261},(∀v,(x,v)∉binds)→bindC kindOf binds m x=m x
 |[],_,_=>rfl
 |(n,v)::r,m,h=>by
  unfold bindC;rw[Xs (l46 (h w (d4 _ hw)))];split
  ·rfl
  ·have:x≠n:=p30 (h v dO);simp[this]
theorem Xu{kindOf:j36 pK}{x:Str}{v:aH}:∀{P:221}{vs:53}{i:Nat}{m:261},P.Nodup→P[i]?=43→vs[i]?=54→kindOf x=491→k07 g58 m x=54|[],_,_,_,_,h,_,_=>500|_::_,[],_,_,_,_,h,_=>500|p::P,w::vs,0,m,az,af,ak,aS=>by simp at af ak;subst af;subst ak;show k07 ((p,w)::g58) m p=_;unfold bindL;rw[Xr (k47 ((e40).1 (Xv a3).1)),168];simp|p::P,w::vs,i+1,m,az,af,ak,aS=>by show k07 ((p,w)::g58) m x=_;unfold bindL;exact Xu (i:=i) (e40).2 f57 o17 aS
theorem alQ{kindOf:j36 pK}{v:aH}{P:221}{m:261}:P.Nodup→P[i]?=43→vs[i]?=54→kindOf x≠491→bindC kindOf g58 m x=54:=by
 intro az af ak aS
 induction P generalizing vs i m with
  |nil=>simp at af
  |cons p P ih=>
   cases vs with
    |nil=>simp at ak
    |cons w vs=>
     show bindC kindOf ((p,w)::g58) m x=_;unfold bindC
     cases i with|zero=>simp at af ak;subst af;subst ak;rw[Xs (k47 ((e40).1 (Xv a3).1)),134];simp|succ i=>exact ih (i:=i) (e40).2 f57 o17
def start(N:221)(vs:08):bq:=vs.map some++iM (N.length-a03) 00
def x6(CX:pJ)(P:f3)(w:ff)(K:bo)(ah:261)(base:dk)(N:221)(qual:Str)(scope:rp)(f:ag)(cd:aH)(A:rU)(outer:596)(s:aZ)(H:av)(E:bD):dT where
 prog:=P
 w:=w
 K:=K
 ah:=ah
 base:=base
 A:=g23 74 42 f cd
 N:=N
 iU:=s
 xH:=H
 env:=qL 74 42 18 f cd
 outer:=outer
 stack:=qL 74 42 18 f cd::91
 ex:=[]
 calm:=true
 fn:=290 01
 iQ:=[]
 dC:=fun e s'=>a9 289 (g23 74 42 f cd) (leaving (qL 74 42 18 f cd) e) (fun _ NA=>CX 91 H s E e NA) (fun bZ NA=>CX 91 H s E bZ NA) s'
theorem Xw(h:a23=492):∃c,805 (kc n sc.names []) x=73:=by have q:=alR sc.names n [] a65;exact ahL.mp q
theorem alS{cd:aH}{s s1:aZ}{E:bD}{vs:08}(S:b3 N ps 42)(hd:595)(dw:x4 P w K ah 02 A 91 s H)(ax:f96)(r:a93)(x:InCallC s 18 (bindL (qL 74 42 18 f cd).kindOf 907 d75) (kc 288 476 []) (bindC (qL 74 42 18 f cd).kindOf 907 d75) s1):aQ (x6 CX P w K ah 02 N 74 42 f cd A 91 s H E) [] e63 H s1:=by
 have eH:744≤N.length:=by have:=137 S.pre;rw[eS]at this;lia
 obtain⟨af,tk,rfl,aS⟩:=x.done;have Ag:∀b:ag,b∉(x6 CX P w K ah 02 N 74 42 f cd A 91 s H E).ex:=l47 (151 (l08 (b∈([]:27))));refine⟨⟨dw.mod,S.kind,rfl,rfl,64,fun y z c af ak=>?_,a75,fun y c _ h=>?_,290 hd,Around.frames_deeper dw.frames,.inr 149,l47 (69 z (Ag b)),dw.bs,dw.qA,fun b _ _=>Ag b,l47 (69 z (Ag b)),dw.ow,dw.vp⟩,rfl,dw.bare,ir.kept aS,⟨_,x.toInCall.ns,fun i y v af ak a6=>?_⟩,fun y c h=>404 (x.cell y c h),dw.bB.fresh 64,fun y c h=>?_,367 (151 (p20 (p∈([]:225)))),dw.bB.kept aS,?_⟩
 ·exact name_of_addr x.apart (nD af) (nD ak)
 ·have aC:a16=492∨a16=779:=aC;rcases aC with aC|aC
  ·exact Xw aC
  ·rw[A64 (S.alP _ (nD aC))]
 ·exact xJ (x.above y c (nD h))
 ·have hi:i<a03:=by
   unfold start at ak;rw[A65 (i<a03)]
   ·exact hi
   ·rw[w3 k63]at ak;rw[Md]at ak;split at ak<;>cases ak
  have aN:vs[i]?=54:=by
   unfold start at ak;rw[mN k63,cK]at ak
   cases e:vs[i]? with|none=>rw[e]at ak;cases ak|some a=>rw[e]at ak;cases ak;rfl
  obtain⟨u,bp,cV⟩:=r.get aN;have au:ps[i]?=270:=by rw[←S.pre,List.getElem?_take_of_lt 03];exact af
  have Xx:ps.Nodup:=by rw[←S.pre];exact S.az.sublist (List.take_sublist _ _)
  rw[A20 u cV];rcases S.par y (cG au)with k|k
  ·rw[A23 k (Xu Xx au bp k)]
  ·obtain⟨c,e⟩:=Xw (n:=288) k;refine .inr ⟨172,c,e,?_⟩;have q:=x.cell y c e;rw[alQ Xx au bp (by show a16≠_;rw[k];decide)]at q;exact q
 ·exact dw.bB.fresh (xJ (x.above y c (nD h)))
 ·unfold start;show _=N.length;rw[cn,ba,ph];lia
theorem NB{k:Nat}{NC ec pm:aH}(e5:709 f (c52 ig cQ (tM 234 74 params body 42 NC ec doc pm an bx ek) k7))(ny:Dv K bx 74=01)(S:b3 N ps 42)(len:e09 (sp vs H Q E) f96)(Dw:∀(A:rU)(outer:596)(s:aZ)(H:av)(vs:08)(Q:aW)(E:bD),f5 k (g23 74 42 f bx)→sp vs H Q E→∃t,mJ (x6 CX P w K ah 02 N 74 42 f bx A 91 s H E) body t∧t j83 e63 H):eP P w K ah 02 CX (k+1) f (tM 234 74 params body 42 NC ec doc pm an bx ek) ps sp:=by
 rw[A03 len (fun A outer s H args us vs Q E aq dw aa r pL=>?_)];have ax:=len _ _ _ _ pL;have h7:d84:=dw.mod.qz.keeps (351 (dw.bs b o e).1);have lim:s.heap.NoLimit:=dw.mod.nolimit.keeps (351 (dw.bs b o e).1);have alT:∀y∈907,i42=491∨(i42=492∧736 (805 (kc 288 476 []) y.1)=01):=fun⟨n,v⟩aC=>by
  rcases S.par n (Xv aC).1 with q|q
  ·rw[A17 q]
  ·rw[A09 ⟨q,alR _ _ _ (.inl q)⟩]
 refine codeAny_call_function aq.depth (h7 _ _ e5) rfl S.co S.gen rfl (PySem.W.codeRec_of h7 ny) (aa _ _ _ _ ?_);refine wpAny_newFunctionEnv_cells S.kind alT (fun env he s1 x=>?_);subst he;rw[A03 (lim.keeps x.toInCall.keep) (codeAny_func ?_)];obtain⟨t,bk,aw⟩:=Dw A 91 s H vs Q E (aq.deeper _) pL;have I:aQ (x6 CX P w K ah 02 N 74 42 f bx A 91 s H E) [] e63 H s1:=alS S aq.hd dw ax r x;refine j_ (bk [] s1 e63 H _ I aw) (fun c9 s' aL=>?_) (fun e s' aL=>aL);have fin:∀{cb:bq}{H':av}{v:ae}{u:aH},aQ (x6 CX P w K ah 02 N 74 42 f bx A 91 s H E) [] cb H' s'→465→Q v H'→HG 91 P w H s Q u s':=fun{cb H' v u:_}fu cV q=>⟨v,H',fu.os,fu.bare,fu.base,fu.bB,cV,q⟩
 cases c9 with|ret u=>obtain⟨v,cb,H',fu,cV,q⟩:=aL;exact fin fu cV q|next=>obtain⟨cb,H',fu,q⟩:=aL;exact fin (v:=816) (u:=fh) fu rfl q|brk=>rw[D56];exact gI q|cont=>rw[D56];exact gI q
end
section
variable{A:rU}{I a b c d f p t:ag}{E Q:aH→aZ→Prop}{F:List (List Nat)}{K:bo}{prog:f3}{apos fD lK pos:Pos}{S:ag→Prop}{T:String}{a0 its' us vs:List aH}{as:List ag}{aG e value:dn}{aR:Array Ip}{acc:List (Str×ag)}{u:aH}{o:Obj}{pins:List (ag×Obj)}{dd:Option ag}{c0 dS i j n t':Nat}{h h':dk}{l:List Nat}{ns r:List Int}{dP:Array (Option aH)}{ds:List WData}{α:Type}{items:Array aH}{name x:Str}{pl:Sem Bool}{q:Search}{s s':dt}{tk:Tok}{v:Word}{w:ff}{m:g0}{kvs:List (List cF×ae)}{xs ys:List ae}{y:ae}{H H' H1 aB:av}{bC:dz}{X:dT}{bW c7 to ty:ct}{tb:gH}
section
variable{p:Pos}{aR:439}{t:fG}{id:String}{r:927}
def ND(r:927)(t:fG):ct:=262 (t σ H (728 (r vs H1 Q)))
theorem d6(ar:iy X (399 id) r)(a4:797)(hm:a98=00)(a3:rT x=some 995)(aN:hZ X (e::aR) t)(aU:g26 x:=by decide)(lH:(x==598)=09:=by decide)(he:657=391::458:=by rfl)(eH:a71:=by rfl):a57 x (e::aR) (ND r t):=by rw[A13];refine vI (qD I a4 hm a3 ?_ aU lH);exact PyProof.Rows.callWith_builtin1 (988 (aN pos 07 s σ H _ I h) (ar 07 s1 σ H1 vs us Q aX bU bg)) he eH
theorem l_(ar:iy X e01 r)(a4:797)(hm:a98=00)(a3:rT x=some e01)(aN:hZ X (e::aR) t)(aU:g26 x:=by decide)(lH:(x==598)=09:=by decide)(he:657=391::458:=by rfl)(eH:a71:=by rfl):a57 x (e::aR) (ND r t):=by rw[A13];refine vI (qD I a4 hm a3 ?_ aU lH);exact tJ (988 (aN pos 07 s σ H _ I h) (ar 07 s1 σ H1 vs us Q aX bU bg)) he eH
end
namespace HT
section
open PySem.SeqAt
open PySem.AutoSeq1(wpAny_loadPart')
open PySem.MeetsSeq PySem.MeetsSeq2 PySem.MeetsSeq3
end
section
variable{s:aZ}
def eQ(n d:Nat):307→Nat|none=>d|some v=>13 (v<0) (271 (v+44)) (min v.toNat n)
theorem HO(n d:Nat):eQ n d 00=d:=rfl
theorem sa(n d k:Nat):eQ n d (some 82)=min k n:=by show(13 (82<0) (271 (82+44)) (min (k:Int).toNat n))=min k n;rw[124,kA]
theorem Xy(n d:Nat)(hd:d≤n)(o:307):eQ n d o≤n:=by
 cases o with
  |none=>exact hd
  |some v=>
   show(13 (v<0) (271 (v+44)) (min v.toNat n))≤n;by_cases a3:v<0
   ·rw[21 a3];lia
   ·rw[23 a3];exact Ah _ _
end
end HT
abbrev TO:=bq→637 (546 307)
def HP(X:dT)(e:241 dn)(t:TO):04:=l81 225 307 (24→t σ H Q→a9 47 X.A (evalPart e 55) (fun u s'=>∃o H',050∧IsPart u o∧Q o H') 68 s)
def alU:TO:=j67 00 H
inductive Xz(Q:546 307)(x:ae)(H1:av):04|mk:∀i,x=260→Q 604 H1→Xz Q x H1
def alV(t:ct):TO:=262 (t σ H (291 (Xz Q x H1)))
section
variable{lo hi:241 dn}{c5 HQ:TO}
theorem vJ:HP X 00 alU:=by intro pins s σ H Q I h;rw[XA];exact cx ⟨00,H,I,87,h⟩
theorem ma(h:529):HP X (some e) (alV c7):=by rw[D55];rw[XB];refine bY (h 07 s σ H _ I hw) (r65 ?_);obtain⟨i,rfl,q⟩:=bg;rw[B86];exact⟨604,H1,aX,705,q⟩
def HR(X:dT)(r:ae→307→307→637 aW):04:=∀(pins:225)(s:aZ)(σ:bq)(H:av)(x:ae)(v sb sd:aH)(lo hi:307)(dP:ag)(Q:aW),24→718→s.heap.IsSliceOf dP sb sd 87→IsPart sb lo→IsPart sd hi→r x lo hi H Q→∃T id,lI e01 "__getitem__"=pure (some 995)∧s.TypeIs v T∧a9 47 X.A (z3 v (.ref dP)) 496 68 s
def alW(r:ae→307→307→637 aW)(c7:ct)(c5 HQ:TO):ct:=262 (c7 σ H (291 (c5 σ H1 (fun l aB=>HQ σ aB (fun u a5=>r x l u a5 Q)))))
theorem pM{r:ae→307→307→637 aW}(aq:HR X r)(he:529)(ax:HP X lo c5)(bp:HP X hi HQ):bF X (a27 e (.Slice lo hi 00 fD)) (alW r c7 c5 HQ):=by rw[A13];refine NF (874 (he 07 s σ H _ I h));refine wpAny_Slice (bY (ax 07 s1 σ H1 _ aX bg) (q43 (bY (bp 07 s2 σ aB _ b5 cf) (q44 ?_))));rw[XA];refine 345;have jw:aQ X 07 σ a5 (g67 #[sb,sd,87]):=el.kept (t':=s3.toks) (g03 _ q);obtain⟨T,id,bR,bk,a4⟩:=aq 07 (g67 #[sb,sd,87]) σ a5 x v sb sd l u 678 Q jw bU (alX ..) pl pu eC;show a9 47 X.A (NG e (.Slice lo hi 00 fD) v i47) 496 68 (g67 #[sb,sd,87]);exact tail_any (ops:=[i47,v]) bk bR a4 (by with_unfolding_all rfl)
def mb(xs:08)(lo hi:307):08:=222 (xs.drop (d66 0 lo)) (d66 57 hi-d66 0 lo)
theorem alY(xs:08)(lo hi:307):11 (mb xs lo hi)≤57:=by unfold mb;rw[eS,fV];exact cX (Ah _ _) (XC _ _)
end
def qM(n:Nat)(i:Int):241 Nat:=13 (0≤i) (13 (i<n) (some i.toNat) 00) (942 (-44≤i) (271 (i+n)))
def pN(xs:40)(i:Int):241 α:=331 (qM 57 i) (c95 xs[j]?)
theorem XD{i:Int}(h:qM n i=some j):seqIndex? i n=some j∧j<n∧-44≤i∧i<n:=by
 unfold qM at h;by_cases h0:0≤i
 ·rw[21 h0]at h;rw[A72 (i<n)]
  ·rw[169]at h;have e:i.toNat=j:=cI h;exact⟨by rw[XE h0 af,e],03,03,af⟩
  ·rw[153]at h;cases h
 ·rw[23 h0]at h;rw[A72 (-44≤i)]
  ·rw[169]at h;have e:271 (i+n)=j:=cI h;exact⟨by rw[XF 03 af,e],03,af,03⟩
  ·rw[153]at h;cases h
theorem NH{xs:40}{i:Int}{v:α}(h:pN xs i=54):∃j,seqIndex? i 57=some j∧xs[j]?=54∧j<57∧-15 57≤i∧i<57:=by
 unfold pN at h
 cases e:qM 57 i with|none=>rw[A49];cases h|some j=>rw[A49];obtain⟨af,ak,a6,bH⟩:=XD e;exact⟨j,af,h,ak,a6,bH⟩
theorem fm{xs:40}{v:α}(h:xs[j]?=54):pN xs (15 j)=54:=by
 have bS:j<57:=159 h;have e:qM 57 (15 j)=some j:=by unfold qM;rw[118,118];simp
 unfold pN;rw[e];exact h
theorem alZ(xs:40)(v:α):pN (xs++[v]) (-1)=54:=by
 have ax:11 (xs++[v])=57+1:=19;have e:qM (11 (xs++[v])) (-1)=some 57:=by unfold qM;rw[ax,107,118];congr 1;lia
 unfold pN;rw[e];show(xs++[v])[57]?=54;simp
def al0(b:dn):04:=∀o i,NI b 09 o i=operate [o,i] (z3 o i)
def Ai(X:dT)(r:r3):04:=∀(value slice:dn)(pins:225)(s:aZ)(σ:bq)(H:av)(x y:ae)(v u:aH)(Q:aW),24→718→464→r x y H Q→NI slice 09 v u=operate [v,u] (z3 v u)→a9 47 X.A (NG 676 slice v u) 496 68 s
def qN(X:dT)(id:String)(r:ae→927):04:=r58 225 08 53 (24→718→651→r x xs H Q→a9 47 X.A (kZ 995 (v::us)) 496 68 s)
section
variable{a b:dn}{tb:ct}
theorem e6{r:r3}(aq:Ai X r)(aN:658)(aa:944 b)(aL:al0 b):bF X (a27 a b) (r4 r bW tb):=i14 (NF (Nc aN aa I h (p29 (aq a b 07 s2 σ aB x y v u Q b5 bw bQ q (aL _ _)))))
inductive HS(K:bo)(x:ae)(y:ae)(H:av)(Q:aW):04|mk:∀p xs i v,x=280→y=260→aJ K H p xs→pN xs i=54→Q v H→HS K x y H Q
inductive NJ(K:bo)(x:ae)(y:ae)(H:av)(Q:aW):04|mk:∀p xs i v,x=280→y=260→dX K H p xs→pN xs i=54→Q v H→NJ K x y H Q
inductive XG(x:ae)(y:ae)(H:av)(Q:aW):04|mk:∀z i c,x=930→y=260→431≤bc→pN z.cps.toList i=73→Q a85 H→XG x y H Q
theorem al1:Ai X (HS X.K):=by
 rw[C66];rw[D54];rw[A07];rw[C64];rw[B34 aw];rw[C02 he];rw[C06 ak];rw[B85];rw[B06];have fin:hK X 07 σ Q w s:=⟨z,H,I,oE,q⟩;by_cases h0:0≤i
 ·have bS:i.toNat=j:=by rw[XE h0 fX]at af;exact cI af
  exact item_listR 965 h0 03 r64 fin aL
 ·have bS:271 (i+m19)=j:=r62 (XF 03 bH) (cI af);exact al2 (x:=w) r59 o26 (wpAny_getItem_list_neg (Q:=fun r s'=>r=w∧hK X 07 σ Q r s') 965 03 o25 03 r64 (119 fin)) aL
theorem al3:Ai X (NJ X.K):=by rw[C66];rw[D54];rw[A07];rw[C64];rw[B93 b98];rw[C02 he];rw[C06 ak];rw[B85];rw[B06];have fin:hK X 07 σ Q w s:=⟨z,H,I,oE,q⟩;exact al2 (x:=w) pl.typeIs slot_tuple_getitem.lookup (getItem_tuple (j:=j) (Q:=fun r s'=>r=w∧hK X 07 σ Q r s') pl 03 03 (by rw[gu,←ax];exact af) r19 (119 fin)) aL
theorem XI:Ai X XG:=by rw[C66];obtain⟨z,i,c,rfl,rfl,hz,he,q⟩:=h;rw[A12];rw[A19];rw[C02 he];have ax:z.cps.toList.length=431:=r27;rw[ax]at af bH fX;rw[B06];exact tail_any (NK s z t) slot_str_getitem.lookup (getItem_str (c:=c) (by have aK:29 (i< -15 (2^0x3f))=09:=133;have aG:29 (i≥2^0x3f)=09:=133;rw[aK,aG,wW]) (by rw[af];simpa using ak) ⟨a85,H,279,282,q⟩) aL
theorem al4(a0:53)(n j:Nat)(u:aH):se r63 c39=990 (b17 (809 (a0.set j u))):=by simp[se]
theorem aQ.lst{σ:bq}{s:aZ}(I:24)(h:H p=525):m67 (cc xs a0∧393 p c39∧052):=r56 (613 p h) ⟨a0,n,r,e,z⟩
theorem aQ.al5{σ:bq}{s:aZ}{qE:Nat}{f:Obj→Obj}(I:24)(h:H p=525)(a8:393 p c39)(hf:f c39=990 (.seq p27 qE))(r:cc ys its')(hz:674≤bc)(t:Nat):aQ X 07 σ (34 H p ys) {s with heap:=982 p f,toks:=t}:=by
 have e:(982 p f).get? p=some (990 (.seq p27 qE)):=by rw[x7 f a8 (by rw[hf]<;>rfl),hf]
 refine I.write (x:=p) (e:=p) (by rw[h];trivial) 253 (fun b u aa q=>38 (vK _ _ h02) q) (404 e) ?_;exact⟨hz,its',qE,r,e⟩
inductive XJ(o:ae)(i:ae)(v:ae)(H:av)(Q:855):04|mk:∀p xs k j,o=280→i=c84→H p=525→qM 57 k=some j→Q (34 H p (xs.set j v))→XJ o i v H Q
theorem TX:MX X XJ:=by
 intro pins s σ H o i v dA gV u Q I rq Aj cV h;obtain⟨p,xs,k,j,rfl,rfl,au,bS,q⟩:=h;cases rq;obtain⟨t,rfl⟩:=Aj;obtain⟨a0,n,r,a8,hz⟩:=I.lst au;obtain⟨af,ak,a6,bH⟩:=XD bS;rw[B85];rw[B06];have jV:aQ X 07 σ (34 H p (xs.set j v)) (621 (982 p (se r63))):=I.al5 au a8 (al4 a0 n j u) (r.set cV j) (by rw[mC];exact hz) 233;by_cases h0:0≤k
 ·have aS:d27=j:=by rw[XE h0 bH]at af;exact cI af
  exact PySem.W.ki_setAt a8 h0 03 (by rw[gu,←ax];exact bH) (by rw[aS];exact⟨_,jV,q⟩)
 ·have aS:271 (k+m19)=j:=r62 (XF 03 a6) (cI af);exact PySem.W.ki_setBack a8 03 (by rw[gu,←ax];exact a6) 03 (by rw[aS];exact⟨_,jV,q⟩)
theorem al6(lo hi:307)(n:Nat):(k8 lo hi 00 n).1=52 (049 0 lo)∧(k8 lo hi 00 n).2.1=52 (049 n hi)∧(k8 lo hi 00 n).2.2=1:=by
 have key:∀i:Int,(k8 604 00 00 n).1=52 (049 0 604):=by
  intro i;simp only[k8,HT.eQ,Option.getD_none,show 15 1>0 by decide,if_true];rw[A39 (i<0)]
  ·simp only[h,if_true]<;>lia
  ·simp only[h,if_false]<;>lia
 refine 714 ?_ ?_
 ·cases lo with|none=>simp[k8,HT.eQ]|some i=>exact key i
 ·cases hi with|none=>simp[k8,HT.eQ]|some i=>exact key i
theorem al7(a0:53)(lo hi:307):NL 275 lo hi 00=809 (222 (a0.drop (HT.eQ b47 0 lo)) (HT.eQ b47 b47 hi-HT.eQ b47 0 lo)):=by obtain⟨af,ak,a6⟩:=al6 lo hi b62;unfold NL;rw[af,ak,a6];simp only[sliceRange_one,pick_run,gu]<;>rfl
inductive NM(K:bo)(x:ae)(lo:307)(hi:307)(H:av)(Q:aW):04|mk:∀a xs,x=37→463→(∀p,H p=00→837 p H p (mb xs lo hi))→NM K x lo hi H Q
theorem al8:HR X (NM X.K):=by rw[D38];obtain⟨a,xs,rfl,ai,q⟩:=h;rw[A07];obtain⟨a0,r,bk,hz⟩:=677 ai;rw[B79];refine⟨499,_,o26,q42,?_⟩;refine al9 bk.isList aL pl pu 87 19 ?_ o25;rw[al7,←hlen];refine⟨277,_,I.laid (t':=233) (o:=.lst (mb xs lo hi)) (g03 _ q) 64 ?_,rfl,q _ 683⟩;exact⟨cX (alY xs lo hi) hz,_,0,222 (a07 (d66 0 lo)) (d66 57 hi-d66 0 lo),111⟩
def oF:481 ae|.b4=>01|.bN _=>01|.int _=>01|.str _=>01|_=>09
def sf:ae→481 ae|.b4,.b4=>01|.bN a,.bN b=>a==b|.bN a,.int b=>(13 a 1 0)==b|.int a,.bN b=>a==(13 b 1 0)|.int a,.int b=>a==b|.str a,.str b=>a==b|_,_=>09
theorem ama{s:aZ}{x:ae}{v:aH}(bQ:464)(bw:718)(NN:oF y=01)(sg:oF x=01):SeqAt.EqAt A s u v (sf y x):=by
 cases y with
  |b4=>
   rw[A24]
   cases x with|b4=>rw[A07];exact SeqAt.EqAt.same _|bN b=>rw[A07];exact SeqAt.EqAt.none_bool b|int b=>rw[A12];exact SeqAt.EqAt.none_int b t|str b=>rw[A12];exact SeqAt.EqAt.none_str b t|_=>rw[B71 933 hB]
  |bN a=>
   rw[A24]
   cases x with|b4=>rw[A07];exact SeqAt.EqAt.bool_none a|bN b=>rw[A07];exact SeqAt.EqAt.bool_bool a b|int b=>rw[A12];exact SeqAt.EqAt.bool_int a b t|str b=>rw[A12];exact SeqAt.EqAt.bool_str a b t|_=>rw[B71 933 hB]
  |int a=>
   rw[A19]
   cases x with|b4=>rw[A07];exact SeqAt.EqAt.int_none a t'|bN b=>rw[A07];exact SeqAt.EqAt.int_bool a t' b|int b=>rw[A12];exact SeqAt.EqAt.int_int a t' b t|str b=>rw[A12];exact aj4 a t' b t|_=>rw[B71 933 hB]
  |str a=>
   rw[A19]
   cases x with|b4=>rw[A07];exact SeqAt.EqAt.str_none a t'|bN b=>rw[A07];exact SeqAt.EqAt.str_bool a t' b|int b=>rw[A12];exact aj5 a t' b t|str b=>rw[A12];exact SeqAt.EqAt.str_str a t' b t|_=>rw[B71 933 hB]
  |_=>exact 69 (show 933 from NN) hB
def sh(x:ae)(u:aH):Bool:=match u with|.none=>sf .b4 x|.bool b=>sf a81 x|.int i _=>sf 260 x|.str z _=>sf 930 x|_=>09
theorem HU{x:ae}(r:464)(f:oF y=01):sh x u=sf y x:=by cases y with|b4=>cases r;rfl|bN b=>cases r;rfl|int i=>rw[A53];rfl|str z=>rw[A53];rfl|_=>exact 69 (show 933 from f) hB
theorem XK{x:ae}(h:651)(f:xs.all oF=01):us.any c74=xs.any (131 (sf y x)):=by induction h with|nil=>rfl|cons r _ ih=>rw[th,hG]at f;rw[pe,pe,HU r f.1,ih f.2]
theorem HV{A:rU}{s:aZ}{x:ae}{v:aH}(bw:718)(sg:oF x=01):∀{xs:08}{us:53},651→xs.all oF=01→∀u∈us,SeqAt.EqAt A s u v (sh x u)
 |_,_,.nil,_=>l10 (by cases bp)
 |y::xs,u::us,.cons r t,f=>fun jT bp=>by
  rw[th,hG]at f;rcases 569 bp with rfl|bp
  ·rw[HU r f.1];exact ama r bw f.1 sg
  ·exact HV bw sg t f.2 jT bp
def Ak(x:ae)(xs:08):Bool:=xs.any (131 (sf y x))
inductive NO(K:bo)(neg:Bool)(x:ae)(y:ae)(H:av)(Q:aW):04|mk:∀p xs,y=280→(aJ K H p xs∨dX K H p xs)→oF x=01→xs.all oF=01→(446 (13 neg (! Ak x xs) (Ak x xs)))→NO K neg x y H Q
theorem amb:k00 (NO X.K 01):=by
 rw[A45];obtain⟨p,xs,rfl,aw,sg,bl,q⟩:=h;rw[A24];rcases aw with aw|aw
 ·rw[B34 aw];refine amc c74 965 (l46 (HV bw sg r bl w r61)) (128 _ H I ?_);rw[show a0.toArray.any c74=a0.any c74 by simp,XK r bl];exact q
 ·rw[B93 b98];refine SeqAt.notIn_tupleAt c74 pl (l46 (HV bw sg r bl w r61)) (128 _ H I ?_);rw[show a0.toArray.any c74=a0.any c74 by simp,XK r bl];exact q
inductive HW(K:bo)(xs:08)(H:av)(Q:aW):04|mk:∀p ys,xs=717→(aJ K H p ys∨dX K H p ys)→662 674→HW K xs H Q
theorem amd:g77 (HW X.K):=by
 rw[A60];obtain⟨p,ys,rfl,aw,q⟩:=h;rw[B08 r];rw[A07];rw[B06];rcases aw with aw|aw
 ·rw[B92 k08];rw[C65];exact Calls.call_len_list 965 p28 ⟨.int 674,H,279,⟨233+1,r60⟩,q⟩
 ·rw[B92 b98];rw[C65];exact len_tuple pl p28 ⟨.int 674,H,279,⟨233+1,r60⟩,q⟩
inductive XM(xs:08)(H:av)(Q:aW):04|mk:∀z,xs=[930]→431≤bc→662 431→XM xs H Q
theorem jY:g77 XM:=by rw[A60];rw[C38];rw[B36 r];rw[B06];exact len_str 03 ⟨.int 431,H,279,282,q⟩
inductive NP(K:bo)(xs:08)(H:av)(Q:aW):04|mk:∀p ys,xs=717→((aJ K H p ys∧∀l,H l=00→514 l (388 H l ys))∨(dX K H p ys∧664 H))→NP K xs H Q
theorem ame:iy X 748 (NP X.K):=by
 rw[A60];obtain⟨p,ys,rfl,h⟩:=h;rw[B08 r];rw[A07];rcases h with⟨aw,q⟩|⟨aw,q⟩
 ·rw[B92 k08];rw[C65];refine call_tuple_list 965 (fun h' fC=>?_) p28;have aX:f71:=I.kept (t':=233) fC;have b5:aQ X 07 σ (388 H n71 ys) (621 (h'.push (c01 275))):=m90 233 (902 _ e) (88 (fx 61 X.w _ _ _ (.tup ys)) ⟨hz,a0,dF,IsTup.new _ _⟩);exact 838 n71 _ b5 (q _ d56)
 ·rw[B92 b98];exact call_tuple_same pl ⟨280,H,I,rfl,q⟩
def XN(K:bo)(T:String)(x:ae)(H:av):04:=match x with|.str _=>T=091|.int _=>T="int"|.ref p=>(T=499∧∃xs,aJ K H p xs)∨(T=808∧∃o,721 p=25∧781 748∧e52)∨(T=535∧((∃kvs,H p=c65)∨∃kvs,H p=some c05))∨(T=b30∧∃S n,H p=some (.set S n))|_=>739
theorem amf{σ:bq}{s:aZ}{x:ae}{v:aH}(I:24)(r:718)(ty:XN X.K T x H):s.TypeIs v T∧∀a,v=37→∃bC,393 a bC∧bC.dict=00:=by
 cases x with
  |str z=>rw[A53];cases(show T=091 from ty);exact⟨NK s z t,m05⟩
  |int i=>rw[A53];cases(show T="int"from ty);exact⟨typeIs_int s i t,m05⟩
  |ref p=>
   cases r;rcases ty with⟨rfl,xs,aw⟩|⟨rfl,o,aS,ar,hd⟩|⟨rfl,aS⟩|⟨rfl,S,n,aS⟩
   ·obtain⟨a0,_,pl,_⟩:=k08;rw[A03 r59 (fun a e=>?_)];cases e;obtain⟨o,n,e,c,hd,_⟩:=pl;exact⟨o,e,hd⟩
   ·rw[A03 ⟨o,I.gF p o aS,ar⟩ (fun a e=>?_)];cases e;exact⟨o,I.gF _ o aS,hd⟩
   ·have z:∃o,586 p∧p05:=by
     rcases aS with⟨kvs,aS⟩|⟨kvs,aS⟩
     ·rw[D53 (613 p aS)];exact⟨o,e,ex⟩
     ·rw[D53 (613 p aS)];exact⟨o,e,ex⟩
    obtain⟨o,e,ex⟩:=z;rw[A03 ⟨o,e,ex.1⟩ (fun a aG=>?_)];cases aG;exact⟨o,e,ex.2.1⟩
   ·obtain⟨o,_,_,_,e,ex,_⟩:=613 p aS;rw[A03 ⟨o,e,ex.1⟩ (fun a aG=>?_)];cases aG;exact⟨o,e,ex.2.1⟩
  |_=>exact gI ty
def NQ(K:bo)(T:String)(r:ae→927)(to:ct)(t:fG):ct:=262 (to σ H (291 (XN K T x H1∧t σ H1 (fun xs aB=>r x xs aB Q))))
variable{o:dn}{aR:439}{t:fG}{id:String}{r:ae→927}
theorem amg(lJ:PlainAttrs T)(slot:Slot T 234 id)(vL:typeOf 995=pure l84)(hm:qN X id r)(a8:c76)(aN:hZ X (e::aR) t)(qO:tL o 234 55 931=931:=by rfl)(HX:((hA lK 657).all (72 (! x.1))&&(x2 lK (x3 [] 55)).all (72 x.1.isSome)&&29 (11 (e::aR)+075 [] (List HN)+(13 ([]:List HN).isEmpty 0 1)<0x1e))=01:=by rfl)(qP:(i55 lK.line)=01:=by rfl)(aL:657=391::458:=by rfl)(NR:(hA lK 458).any 379=09:=by rfl):bF X (.Call (480 234 apos) (e::aR) [] lK) (NQ X.K T r to t):=by rw[A13];refine wpAny_Call_method_late qO HX qP rfl (bY (a8 07 s σ H _ I h) (fun v s1⟨x,H1,aX,bU,ty,bg⟩=>?_));rw[A81 (amf aX bU ty)];refine⟨T,id,lJ,slot,vL,af,ak,?_⟩;have di:=aN lK 07 s1 σ H1 _ aX bg;rw[aL]at di⊢;refine amh (by show(09||(hA lK 458).any 379)=09;rw[NR]<;>rfl) (ami ?_);exact bY di (fun us s2⟨vs,aB,b5,cT,cf⟩=>hm 07 s2 σ aB x vs v us Q b5 bU cT cf)
end
def NS(X:dT)(id:String)(r:ae→927):04:=r58 225 08 53 (24→718→651→r x xs H Q→a9 47 X.A (kZ 995 (v::us)) 496 68 s)
theorem cc.one{x:ae}(h:594 [x]):∃u,us=[u]∧684 x:=by cases h with|cons r t=>cases t;rw[A15 r]
theorem cc.reverse(h:651):cc xs.reverse us.reverse:=by induction h with|nil=>rw[A40]|cons r t ih=>rw[NT,NT];exact cc.append ih (386 r)
theorem cc.rep{xs:08}{us:53}(h:651):∀k:Nat,cc (c00 k xs) (c00 k us)|0=>89|k+1=>by rw[Al,Al,qs,qs];exact cc.append h (cc.rep h k)
theorem ahk(a0:53):∀(k:Nat)(acc:53),Mo (p26 (gr++gd)) acc.toArray (iM k 275)=809 (acc++c00 k a0)
 |0,acc=>19
 |k+1,acc=>by
  have e:acc.toArray++275=809 (acc++a0):=19;have aG:(acc++a0)++c00 k a0=acc++c00 (k+1) a0:=by rw[Al,qs,jo]
  rw[←aG,←ahk a0 k (acc++a0),←e,Al,hv]
section
variable{σ:bq}{s:aZ}{l:ag}{zs:08}
theorem aQ.NU{f:323→323}(I:24)(jy:H l=525)(e:393 l c39)(hf:f 275=p27)(a3:cc ys its')(hz:674≤bc):aQ X 07 σ (34 H l ys) (r57 (982 l (se f))):=by have q:=PySem.IsL.update e f;rw[hf]at q;refine I.write (x:=l) (e:=l) (by rw[jy];exact trivial) 253 (fun tN u aa bp=>38 (vK 28 (se f) h02) bp) (404 q) ?_;exact⟨hz,its',_,a3,q⟩
theorem aQ.XO(I:24)(a3:cc ys a0)(hz:674≤bc):aQ X 07 σ (34 H 18 ys) (r57 (581 (513 499 (.seq 275)))):=I.laid (l42 (dY _ q)) 64 ⟨hz,a0,0,a3,111⟩
theorem aQ.fresh(I:24):H 18=00:=683
theorem aQ.x8(I:24)(jy:H l=525):052∧m67 (cc xs a0∧57=b47∧393 l c39):=r56 (613 l jy) ⟨z,a0,n,r,230,e⟩
theorem NV(h:n≤bc):Dx n=09:=by unfold Dx;exact 133
end
inductive XQ(x:ae)(vs:08)(H:av)(Q:aW):04|mk:∀l xs y,x=559→vs=[y]→H l=525→57<bc→Q .b4 (34 H l (xs++[y]))→XQ x vs H Q
theorem qQ:NS X p22 XQ:=by rw[C37];obtain⟨l,xs,y,rfl,rfl,jy,hz,q⟩:=h;rw[A07];rw[C35];rw[B32 jy];refine x9 F.slot_list_append e83 F.entry_list_append (F.args_list_append_2 _ _) (PySem.list_append l 275 n u k91) (328 e);refine⟨.b4,_,I.NU (its':=a0++[u]) jy e 19 (l45 (386 gR)) ?_,rfl,q⟩;rw[cn,amj];lia
inductive XR(x:ae)(vs:08)(H:av)(Q:aW):04|mk:o32 (x=559→vs=[281]→H l=525→H b=247 zs→57+b33≤bc→Q .b4 (34 H l (xs++zs))→XR x vs H Q)
theorem nE:NS X "list.extend" XR:=by rw[C37];rw[C36];rw[A07];rw[C35];cases gR;rw[B32 jy];rw[D52 (I.x8 fY)];have hsz:j01≤bc:=o31;have NW:¬(! l44&&Dx j01)=01:=q50 (NV hsz);refine x9 q49 e83 q48 (q47 _ _) (AutoSeq1.list_extend_list_list_0 l 275 n b o30 dS NW k91 03) ⟨e,aG,?_⟩;refine⟨.b4,_,I.NU (its':=a0++mc) jy e 19 m56 ?_,rfl,q⟩;rw[cn];lia
inductive HY(x:ae)(y:ae)(H:av)(Q:aW):04|mk:o32 (x=559→y=281→H l=525→H b=247 zs→57+b33≤bc→(∀p,H p=00→837 p H p (xs++zs))→HY x y H Q)
theorem pO:gs X (r6 .Add) HY:=by rw[A45];rw[C36];rw[A07];rw[A24];rw[B32 jy];rw[D52 (I.x8 fY)];refine PySem.P.add_list e aG ?_ o31;have d1:275++o30=809 (a0++mc):=19;rw[d1];exact 838 _ _ (I.XO (t':=233) m56 (by rw[cn];lia)) (q _ I.fresh)
inductive XS(x:ae)(y:ae)(H:av)(Q:aW):04|mk:∀l k xs,x=559→y=c84→H l=525→-(2^0x3f)≤k→k<2^0x3f→57*d27≤bc→(∀p,H p=00→837 p H p (c00 d27 xs))→XS x y H Q
theorem aAP(xs:40)(k:Nat):(iM k xs).flatten.length=k*57:=by induction k with|zero=>simp|succ k ih=>rw[Al,qs,cn,ih,Nat.succ_mul,tp]
theorem amk:gs X (r6 .Mult) XS:=by
 rw[A45];obtain⟨l,k,xs,rfl,rfl,jy,af,ak,hz,q⟩:=h;rw[A07];rw[C64];rw[B32 jy];have hlen:n05≤bc:=by rw[gu,←ax];exact hz
 have aml:¬n05>(2^0x3f-1)/8:=by have:(bc:Nat)≤(2^0x3f-1)/8:=14;lia
 have amm:¬(! Builtin.List.listFitsIndex k)=01:=by rw[fitsIndex_both af ak];exact hB
 have NW:¬Dx n05=01:=by rw[NV 568];exact hB
 have si:Mo (p26 (gr++gd)) #[] (iM (39 l44 0 d27) 275)=r55 (iM d27 a0):=by
  have f0:∀m:Nat,Mo (p26 (gr++gd)) #[] (iM m 275)=r55 (iM m a0):=285 (by have:=ahk a0 m [];rw[HZ]at this;exact this);rw[f0]
  cases a0 with|nil=>simp|cons a dF=>rw[142]
 refine wpAny_binaryOp_repeat_ref (T:=499) (U:="int") 14 e83 (fun s'=>typeIs_int s' k t) noFill_list_mul F.fills_int_mul r54 repeat_list F.slot_int_index.lookup (x9 r54 (typeIs_int s k t) F.entry_int_rmul (F.args_int_rmul_2 _ _) (int___rmul___int_list k t l 275 n) ⟨e,rfl,e83,x9 F.slot_list_mul e83 F.entry_list_mul (F.args_list_mul_2 _ _) (AutoListH.list___mul___list_int_3 l 275 n k t amm aml NW) (328 e)⟩);rw[si];exact 838 _ _ (I.XO (t':=233) (r.rep d27) (by rw[aAP,CH];exact hz)) (q _ I.fresh)
section
variable{s:aZ}
end
theorem cc.ints:∀{ns:10}{us:53},594 b74→Dy us ns
 |[],us,h=>by rw[zz]at h;cases h;exact IntsAre.nil
 |n::ns,us,h=>by
  rw[eN]at h
  cases h with|cons r t=>obtain⟨k,rfl⟩:=r;exact IntsAre.cons n k (cc.ints t)
theorem amn(h:Dy us ns):594 b74:=by induction h with|nil=>rw[A40]|cons n t _ ih=>exact 919 (612 t)
theorem cc.strs:∀{xs:221}{us:53},594 (078 ae.str)→StrsAre us xs
 |[],us,h=>by rw[zz]at h;cases h;exact StrsAre.nil
 |x::xs,us,h=>by
  rw[eN]at h
  cases h with|cons r t=>obtain⟨k,rfl⟩:=r;exact StrsAre.cons x k (cc.strs t)
theorem cc.XT:∀{bs:g65}{us:53},594 (bs.map ae.bN)→us=bs.map xF
 |[],us,h=>by rw[zz]at h;cases h;rfl
 |b::bs,us,h=>by
  rw[eN]at h
  cases h with|cons r t=>cases r;rw[cc.XT t,eN]
theorem cc.Dz(r:594 [022]):us=[da a]:=by cases r with|cons r t=>cases t;cases r;rfl
section
variable{s:aZ}{l:ag}
theorem amo(dh:595)(ax:f13 l 275)(hi:Dy a0 ns)(h:∀h' tk t',(300 346 (219=25))→Q (.int ns.sum t') 620):a9 232 A (kZ (399 "sum") [559]) Q E s:=by
 obtain⟨xs,e⟩:=hi.allInts.items;have aU:numsOf (intItems xs).toList=ns:=by rw[←e];exact hi.numsOf
 rw[nums_intItems]at aU;rw[e]at ax;refine PySem.sum_intListG dh ax (fun h' tk t' aS=>?_);have:=h h' tk t' aS;rw[preSum_eq,sj 19,aU];rw[A10]
end
inductive NX(K:bo)(vs:08)(H:av)(Q:aW):04|mk:∀(a:ag)(ns:10),vs=[022]→aJ K H a b74→662 ns.sum→NX K vs H Q
theorem amq(ar:394):iy X (399 "sum") (NX X.K):=by rw[B50];rw[D10];rw[B33 aL];rw[cc.Dz r];exact amo 408 h51 cV.ints (fun h' tk t' aS=>⟨.int _,H,I.kept aS,282,q⟩)
inductive NY(K:bo)(vs:08)(H:av)(Q:aW):04|mk:∀(a:ag)(ns:10),vs=[022]→aJ K H a b74→314<402→(∀(x_:10)(p:ag),x_.Perm ns→x_.Pairwise n98→H p=00→837 p H p m34)→NY K vs H Q
theorem amr(h:n<402):n≤bc:=by rw[Ac];lia
theorem ams:iy X (399 f22) (NY X.K):=by
 rw[B50];obtain⟨a,ns,rfl,aL,XU,q⟩:=h;rw[B33 aL];rw[cc.Dz r];have hi:=cV.ints;refine PyProof.Rows.sorted_ints h51 hi (by rw[hi.length];exact XU) (fun out x_ af ak a6=>?_);obtain⟨c0,NZ⟩:=PyProof.Rows.sortedAll_at 28 a0 out;have hlen:069 m34:=by rw[ba,ak.length_eq];exact amr XU
 exact 838 _ (34 H 288 m34) (I.laid (t':=233) (k62 PyProof.Rows.sortedAll_old) 163 ⟨568,out.toList,c0,amn af,NZ⟩) (q x_ _ ak a6 (082 163))
inductive N0(K:bo)(x:ae)(xs:08)(H:av)(Q:aW):04|mk:∀(a:ag)(ys:08)(y:ae)(j:Nat)(z:ae),x=022→xs=[y]→aJ K H a ys→oF y=01→ys.all oF=01→ys[j]?=415→sf z y=01→(∀(m:Nat)(j9:ae),m<j→ys[m]?=some j9→sf j9 y=09)→Q (a15 j) H→N0 K x xs H Q
theorem XW(f:ys.all oF=01){z:ae}(h:ys[j]?=415):oF z=01:=gB.mp f z (cG h)
theorem amt:qN X "list.index" (N0 X.K):=by
 intro pins s σ H x xs v us Q I bw amu h;obtain⟨a,ys,y,j,z,rfl,rfl,aL,NN,N1,hz,amv,cy,q⟩:=h;rw[A07]
 cases amu with
  |cons bQ l7=>
   rename_i amw ut;cases l7;obtain⟨a0,cV,⟨⟨cls,dd,data,dP⟩,n,a8,ar,sk,hd⟩,hlen⟩:=677 aL;simp only at ar hd;subst ar hd;rw[B37 hz];obtain⟨amx,amy⟩:=oi.mp bp;have aBc:=cV.length;have bS:j<b62:=by simpa using amx
   have DA:=Ac;refine x9 amz (445 a8) PySem.F.entry_list_index (PySem.F.args_list_index_2 _ _) (SeqAt.list_indexAt a 275 n dd dP amw (sh y) j bS 03 ?_ ?_) ⟨a8,fun jT An=>HV bQ NN cV N1 jT p69,?_⟩
   ·have aK:a0.toArray[j]=u:=by simpa using amy
    rw[aK,HU gR (XW N1 hz)];exact amv
   ·intro m hm amA;have H0:m<b47:=by simpa using hm
    have amB:m<674:=03;have qR:ys[m]?=some ys[m]:=cA amB;obtain⟨jP,kT,N2⟩:=cV.get qR;obtain⟨_,amC⟩:=oi.mp kT;have aK:a0.toArray[m]=jP:=by simpa using amC
    rw[aK,HU N2 (XW N1 qR)];exact cy m _ amA qR
   ·exact⟨a15 j,H,279,282,q⟩
theorem XX{s:aZ}{l:ag}(ax:f13 l 966)(h:∀iu:aZ,iu=621 (581 (513 p25 (503 #[559,.int 0 0])))→(iu.heap.IsListIter 18 l 0∧iu.heap.IsList l 966)→l≠18→Q 277 iu):a9 232 A (vy 559) Q E s:=by
 have cM:l<18:=by obtain⟨_,e,_⟩:=ax;exact 105
 exact M4 ax (h _ rfl ⟨b15,ax.push _⟩ (fk cM))
theorem amD{bs:g65}(e:a0=bs.map xF):TruthOf prog w A (f09 (g53 i 54)) (425 (g12 i)):=q51 (by
 have vF:a0[i]?=54:=o33;rw[e,cK]at vF;rw[B62 vF];have a4:g12 i=b:=by rw[cZ,aa]<;>rfl
 have iz:Q (g12 i) s:=aw;rw[a4]at iz;exact xN iz)
theorem ahl:∀bs:g65,(bz 889).any (425 (g12 i))=bs.any id|[]=>rfl|b::bs=>by rw[dR,Gy,pe,u6,pe,←ahl bs];all_goals rfl
theorem ahm:∀bs:g65,(bz 889).all (425 (g12 i))=bs.all id|[]=>rfl|b::bs=>by rw[dR,Gy,th,GJ,th,←ahm bs];all_goals rfl
inductive N3(K:bo)(vs:08)(H:av)(Q:aW):04|mk:∀(a:ag)(bs:g65),vs=[022]→aJ K H a (bs.map ae.bN)→446 (bs.all id)→N3 K vs H Q
theorem amE(ar:394):iy X (399 "all") (N3 X.K):=by
 rw[B50];obtain⟨a,bs,rfl,aL,q⟩:=h;rw[B33 aL];rw[cc.Dz r];have aa:=cV.XT;refine call_all_walk (XX h51 (fun iu aG st d9=>?_));subst aG;refine⟨_,_,_,_,_,_,_,rfl,Walks.list (A:=X.A.in1) 408 _ a d9 275,st,amD aa,fun h' tk aS=>?_⟩;refine⟨.bN _,H,I.kept (fun b o tO=>aS b o (fun fB=>?_) (dY _ tO)),?_,q⟩
 ·rcases 569 fB with aK|fB
  ·rw[A62 (aK▸dm tO) _]
  ·cases fB
 ·show xF _=xF _;rw[←ahm,aa,gu,ba]
mutual inductive jZ(K:bo)(H:av):ae→92 Ao|b4:jZ K H .b4 87|bN(b:Bool):jZ K H a81 j89|int(i:Int):jZ K H 260 260|str(x:Str):jZ K H 765 765|lst{a:ag}{xs:08}{ds:List Ao}:463→tP K H xs ds→jZ K H 37 (.list ds)|tup{a:ag}{xs:08}{ds:List Ao}:955→tP K H xs ds→jZ K H 37 (b52 ds)inductive tP(K:bo)(H:av):08→92 (List Ao)|nil:tP K H [] []|cons{v:ae}{vs:08}{d:Ao}{ds:List Ao}:jZ K H v d→tP K H vs ds→tP K H (v::vs) (d::ds)end
section
variable{σ:bq}{s:aZ}
theorem jZ.reads(I:24)(d:Ao)(v:ae)(u:aH)(h:jZ X.K H v d)(r:465):∃as,Reads 28 u d as:=by
 refine jZ.rec (motive_1:=fun v d _=>∀u,465→∃as,Reads 28 u d as) (motive_2:=fun vs ds _=>∀us,a93→∃as,ReadsAll 28 us ds as) ?_ ?_ ?_ ?_ ?_ ?_ ?_ ?_ h u r
 ·intro u r;cases r;rw[A08 Reads.none]
 ·intro b u r;cases r;rw[A08 (Reads.bool b)]
 ·intro i u r;rw[A53];rw[A08 (Reads.int i t)]
 ·intro x u r;rw[A53];rw[A08 (Reads.str x t)]
 ·rw[D51];cases r;obtain⟨a0,cV,⟨o,n,a8,ar,_,hd⟩,_⟩:=677 aL;rw[C52 (ih a0 cV)];rw[A08 (Reads.list a8 ar hd aq)]
 ·rw[D51];cases r;obtain⟨a0,cV,⟨o,a8,ar,n,hd⟩,_⟩:=b26 aL;rw[C52 (ih a0 cV)];rw[A08 (Reads.tuple a8 ar hd aq)]
 ·intro us r;cases r;rw[A08 ReadsAll.nil]
 ·intro v vs d ds _ _ amF amG us r
  cases r with|cons bU cT=>obtain⟨as,bg⟩:=amF _ bU;obtain⟨bs,cf⟩:=amG _ cT;rw[A08 (ReadsAll.cons bg cf)]
end
inductive N4(K:bo)(x:ae)(y:ae)(H:av)(Q:aW):04|mk:∀d e,jZ K H x d→jZ K H y e→vM d=01→vM e=01→446 (vN d e)→N4 K x y H Q
inductive N5(K:bo)(x:ae)(y:ae)(H:av)(Q:aW):04|mk:∀d e,jZ K H x d→jZ K H y e→vM d=01→vM e=01→446 (! vN d e)→N5 K x y H Q
theorem amH(bp:e39<kb):gs X (jv .Eq) (N4 X.K):=by rw[A45];rw[D50];obtain⟨as,bU⟩:=jZ.reads I d x v hd bw;obtain⟨bs,cT⟩:=jZ.reads I e y u he bQ;exact SeqAt.compareEq_shaped bU cT DB N6 bp (128 _ H I q)
theorem amI(bp:e39<kb):gs X (jv .NotEq) (N5 X.K):=by rw[A45];rw[D50];obtain⟨as,bU⟩:=jZ.reads I d x v hd bw;obtain⟨bs,cT⟩:=jZ.reads I e y u he bQ;exact SeqAt.compareNe_shaped bU cT DB N6 bp (128 _ H I q)
abbrev XY(h:dk)(c:ag)(v:631):04:=h.IsCell c v
end
section
variable{A:rU}{C D I a b builtins c d dx f globals i1 i2 it p t:ag}{E Q Qf:aH→aZ→Prop}{F cm:List (List Nat)}{K:bo}{M:Model}{N ps:List Str}{P prog:f3}{R:Result→aZ→Prop}{apos fD lK pos pos' te:Pos}{S:ag→Prop}{T:String}{a0 us vs:List aH}{ch df:List ag}{aG e eD elt iter value:dn}{aR:Array Ip}{acc closure:List (Str×ag)}{f1 u:aH}{o:Obj}{pins:List (ag×Obj)}{cQ dd func:Option ag}{b0 c0 i j n t':Nat}{h h':dk}{g l:List Nat}{cl:Str→Option ag}{r:List Int}{d':Drawn}{dP:Array (Option aH)}{done:List (Nat×List Int)}{e8 α:Type}{elts ifs:List dn}{env:Env}{g':Array Qs}{h3:Nat→dk→Prop}{name qual x:Str}{names:List (Str×pK)}{outer:List Env}{own:List (Str×Nat)}{q:Search}{s s':dt}{sc scope:rp}{tk:Tok}{use:Option (aH→Sem Unit)}{v:Word}{w:ff}{m:g0}{cb:List (Option ae)}{kvs:List (List cF×ae)}{xs ys:List ae}{y:ae}{H H' H1 aB:av}{bC:dz}{qV:av→Prop}{X:dT}{bW c7 g7 h5 hj ty:ct}{tt:j6}
def amJ(scope sc:rp):rp:={scope with names:=scope.names.map (fun(n,k)=>13 (k==.free&&f78&&f81==492) (n,.cell) (n,k))}
def j0(cells:650):c82→650→650|[],acc=>acc|(n,k)::r,acc=>13 (k==.free) (j0 cells r ((n,m33 n 0)::acc)) (j0 cells r acc)
theorem amK(env:Env)(f:Str×pK→650→Sem (ForInStep 650))(hf:∀n k c,f (n,k) c=13 (k==.free) (do
 let a←cellOf env n
 pure (.yield ((n,a)::c))) (pure (.yield c))):∀(names:c82)(acc:650),(∀y∈names,g30→∃c,m95 y.1 73)→forIn 629 acc f=pure (j0 env.cells 629 acc):=by
 intro names
 induction names with
  |nil=>intro acc _;rw[DC];rfl
  |cons p r LY=>
   rw[C63];intro acc h;rw[H2,hf];have ih:=fun acc=>LY acc (086 (h y 922));unfold j0;rw[A66 ((k==DD)=01)]
   ·rw[168,168];rw[C62 (h (n,k) dO f56)];have e:cellOf env n=pure c:=by unfold cellOf;rw[ar]
    rw[e];have aG:(env.cells.lookup n).getD 0=c:=by rw[ar];rfl
    rw[aG];exact ih _
   ·rw[134,134];exact ih _
theorem amL(h:f55 (g30→∃c,m95 y.1 73)):closureFor 42 env=pure (j0 env.cells 476 []):=by simp only[closureFor];rw[amK env _ (fun n k c=>rfl) 476 [] h];rfl
theorem ahn{l:820 α}{n:Str}{c:α}:(n,c)∈l→∃jU,l.lookup n=some jU:=by
 induction l with
  |nil=>intro h;cases h
  |cons p r ih=>
   obtain⟨k,v⟩:=p;intro h;rw[Ap]
   cases aa:n==k with
    |true=>rw[A08 rfl]
    |false=>
     rw[B68 h]
     ·cases e;simp at aa
     ·exact ih h
theorem H3{cells:650}:∀{names:c82}{acc:650}{n:Str}{c:ag},(n,c)∈j0 cells 629 acc→(n,c)∈acc∨((n,.free)∈629∧c=m33 n 0)
 |[],_,_,_,h=>a65
 |(m,k)::r,acc,n,c,h=>by
  unfold j0 at h;rw[A18]
  ·rw[B55];have aS:k=.free:=f56;rw[D49 (H3 h)]
   ·rw[B68 h]
    ·cases e;rw[A09 (612 (aS▸dO))]
    ·rw[A17 h]
   ·rw[A09 ⟨d4 _ af,ak⟩]
  ·rw[D49 (H3 h)]
   ·rw[A17 h]
   ·rw[A09 ⟨d4 _ af,ak⟩]
theorem N7{cells:650}:∀{names:c82}{acc:650}{p:Str×ag},p∈acc→p∈j0 cells 629 acc
 |[],_,_,h=>h
 |(m,k)::r,acc,p,h=>by
  unfold j0;split
  ·exact N7 (d4 _ h)
  ·exact N7 h
theorem N8{cells:650}:∀{names:c82}{acc:650}{n:Str},(n,.free)∈629→(n,m33 n 0)∈j0 cells 629 acc
 |(m,k)::r,acc,n,h=>by
  unfold j0;rw[B68 h]
  ·cases e;exact N7 dO
  ·split
   ·exact N8 h
   ·exact N8 h
theorem N9:(x,c)∈kc 397 629 acc→(x,c)∈acc∨((x,.cell)∈629∧397≤c∧XY (ya h 629) c 00):=by
 induction names generalizing h acc with
  |nil=>exact .inl
  |cons p r ih=>
   rw[C63];intro hm;unfold kc at hm;unfold ya;split at hm
   ·rw[B55];rw[21 aS];have aS:k=.cell:=f56;rw[←kz h (513 "cell" (.cell 00))]at hm;rw[D48 (ih hm)]
    ·rcases 569 hm with e|hm
     ·cases e;rw[A09 ⟨aS▸dO,64,_,N_ r _ _ _ 111,rfl⟩]
     ·rw[A17 hm]
    ·rw[kz]at ak;rw[A09 ⟨d4 _ af,Oa ak,a6⟩]
   ·rw[B55];rw[134];rw[D48 (ih hm)]
    ·rw[A17 hm]
    ·rw[A09 ⟨d4 _ af,ak,a6⟩]
theorem H4:∀{names:c82}{n:Nat}{acc:650}{p:Str×ag},p∈acc→p∈kc n 629 acc
 |[],_,_,_,h=>h
 |(m,k)::r,n,acc,p,h=>by
  unfold kc;split
  ·exact H4 (d4 _ h)
  ·exact H4 h
theorem Ob:∀{names:c82}{n:Nat}{acc:650}{x:Str},(x,.cell)∈629→∃c,(x,c)∈kc n 629 acc
 |(m,k)::r,n,acc,x,h=>by
  unfold kc;rw[B68 h]
  ·cases e;exact⟨n,H4 dO⟩
  ·split
   ·exact Ob h
   ·exact Ob h
theorem amM{y:Str}:(∀p∈acc,p.2<397)→(∀x y c,(x,c)∈acc→(y,c)∈acc→x=y)→(x,c)∈kc 397 629 acc→(y,c)∈kc 397 629 acc→x=y:=by
 induction names generalizing h acc with
  |nil=>exact fun _ hi af ak=>hi _ _ _ af ak
  |cons p r ih=>
   rw[C63];intro ax hi af ak;unfold kc at af ak;split at af
   ·rw[B55];rw[168]at ak;rw[←kz h (513 "cell" (.cell 00))]at af ak;refine ih (h:=h.push _) 263 (fun x y c a b=>?_) af ak
    ·rw[kz];rcases 569 au with rfl|au
     ·exact zI _
     ·exact CE (ax p au)
    ·rcases 569 a with e|a<;>rcases 569 b with bZ|b
     ·cases e;cases bZ;rfl
     ·cases e;rw[A62 (ax _ b) _]
     ·cases bZ;rw[A62 (ax _ a) _]
     ·exact hi _ _ _ a b
   ·rw[B55];rw[134]at ak;exact ih ax hi af ak
theorem amN{s:aZ}{code:aH}{around:Env}{Q:455 Env}(h:Q (newEnv 42 18 globals (kc 288 476 closure) 74 func code (some around) builtins) (621 (ya 833 476))):a9 M A (newFunctionEnv 42 globals closure [] 74 func code (some around) builtins) Q E s:=by simp only[newFunctionEnv,Oc,if_true];rw[A00 (wpAny_alloc ?_)];rw[A00 (wpAny_layCells _ (fun n k c=>rfl) 476 closure _ _ ?_)];rw[88 ((i56:aZ).heap.objs.size=288) (kz ..)];rw[DC];exact a7 (c49 h)
theorem XZ{k:pK}:805 (names.map (fun(n,k)=>13 (k==DD&&f78&&f81==492) (n,X0) (n,k))) x=040→∃fZ,names.lookup x=some fZ∧(k=fZ∨(fZ=.free∧k=.cell)):=by
 induction names with
  |nil=>intro h;simp at h
  |cons p r ih=>
   obtain⟨n,DE⟩:=p;intro h;have h':qJ x ((39 (DE==DD&&f78&&f81==492) (n,X0) (n,DE))::(r.map _))=040:=h
   cases ai:x==n with
    |true=>
     simp only[Ap,ai];by_cases ar:(DE==DD&&f78&&f81==492)=01
     ·rw[198]at h';rw[B91];cases h';simp only[hG,beq_iff_eq]at ar;rw[A44 DE (.inr (612 ar.1.1))]
     ·rw[199]at h';rw[B91];cases h';rw[A15 253]
    |false=>
     simp only[Ap,ai];by_cases ar:(DE==DD&&f78&&f81==492)=01
     ·rw[198]at h';rw[B91];exact ih h'
     ·rw[199]at h';rw[B91];exact ih h'
structure DF(N:221)(sc scope:rp)(own:820 Nat):04 where
 kind:i09 scope.kind
 uniq:f55 (i42=some y.2)
 i8:∀p∈own,N[p.2]?=some p.1
 free:f55 (g30→m08=492∨m08=779)
 own:f55 (y.2=.local∨y.2=.cell→y.1∈m32∨y.1∉N)
def wipe(σ:bq):06→bq|[]=>σ|v::vs=>(297).set v 00
theorem DG(σ:bq):∀vs:06,11 297=b61|[]=>rfl|v::vs=>by unfold wipe;rw[mC,DG σ vs]
theorem Od{σ:bq}{i:Nat}{x:ae}:∀{vs:06},(wipe σ vs)[i]?=453 x→c89=453 x∧i∉vs
 |[],h=>⟨h,19⟩
 |v::vs,h=>by
  unfold wipe at h;rw[A65 (v=i)]
  ·subst hi;by_cases a3:v<11 297
   ·rw[rz a3]at h;cases h
   ·rw[hH o33]at h;cases h
  ·rw[u_ hi]at h;rw[A81 (Od h)];exact⟨af,by simp only[ed,not_or];exact⟨100 (hi d14),ak⟩⟩
abbrev dT.kB(X:dT)(s:aZ)(H:av)(scope:rp)(g8:Env)(df:27):dT:={X with iU:=s,xH:=H,env:=g8,outer:=X.stack,ex:=df,fn:=72 (p24 x==492),iQ:=[],dC:=897}
section
variable{σ:bq}{s:aZ}
theorem amO(I:24)(ok:DF X.N 628 42 own)(fs:X.N.Nodup)(Aq:432 (pH X 07 H b∧b00)):aQ (X.kB s H 42 (pQ 42 (kc 288 476 d80) 18 55) df) [] (wipe σ a21) H (621 (ya 833 476)):=by
 have oe:f55 (g30→∃c,d35 y.1=73):=i08 (by
  rcases ok.free y aC e with k|k
  ·exact k17 172
  ·exact k17 (.inr k));generalize DH:pQ 42 (kc 288 476 d80) 18 55=g8;have fC:300 346 (782 (ya 833 476)=25):=351 (N_ _ _ _ _ 130);have gG:i13=18:=p23;have jz:g8.cells=kc 288 476 d80:=p23;have H5:g8.scope=amJ 42 628:=p23;rw[←kz 28 a49]at jz;have DI:∀{y c:_},(y,c)∈d80→d35 y=73∧c<18:=fun{y c:_}hm=>by
  rcases H3 hm with hm|⟨af,rfl⟩
  ·cases hm
  ·rw[C62 (oe _ af rfl)];rw[ar];obtain⟨w,z⟩:=I.cell _ _ ar;exact⟨rfl,z.lt⟩
 have mem:∀{y c:_},991=73→(d35 y=73∧c<18)∨(288≤c∧XY (ya 833 476) c 00):=fun{y c:_}e=>by
  rw[jz]at e;rcases N9 (nD e)with hm|⟨_,ak,a6⟩
  ·rw[A17 (DI hm)]
  ·rw[kz]at ak;rw[A09 ⟨ak,a6⟩]
 have look:∀{y:_},a16=779→∃c,991=73∧d35 y=73:=fun{y:_}ax=>by
  have aC:(y,DD)∈476:=nD ax;obtain⟨jU,bZ⟩:=ahn (H4 (names:=476) (n:=424 833) (N8 (cells:=X.env.cells) (acc:=[]) aC));rw[←jz]at bZ;rw[A20 jU bZ];rw[jz]at bZ;rcases N9 (nD bZ)with hm|⟨af,_,_⟩
  ·exact(DI hm).1
  ·have:=ok.uniq _ af;rw[ax]at this;rw[A47]
 have amP:(X.kB s H 42 g8 df).Ok:=by
  refine⟨I.ok.mod,by show g8.scope.kind=_;rw[H5];exact ok.kind,by show g8.globals=_;rw[←DH];exact I.ok.glob,by show g8.builtins=_;rw[←DH];exact I.ok.blt,by show 18≤i13;rw[gG];exact 64,fun y z c aK aG=>?_,a75,fun y c z e=>?_,I.ok.hd,l02,253,350 ⟨?_,fun y c e z=>?_⟩,I.bs,g49 I.qB,fun b o e aa=>?_,fun b aa z=>?_,I.stack,I.Hd⟩
  ·have aK:991=73:=aK;have aG:g8.cells.lookup z=73:=aG;rw[jz]at aK aG;refine amM 263 (fun y z c a b=>I.ok.inj y z c (DI a).1 (DI b).1) (nD aK) (nD aG);rw[kz];exact CE (DI (y:=p.1) (c:=p.2) au).2
  ·show∃c,991=73;have key:∀k,g29=040→(k=.cell∨k=.free)→∃c,991=73:=fun k aS rL=>by
    unfold Env.kindOf at aS;rw[H5]at aS;obtain⟨fZ,e,r⟩:=XZ aS;have:fZ=.cell∨fZ=.free:=by
     rcases r with rfl|⟨rfl,_⟩
     ·exact rL
     ·rw[A09 rfl]
    rcases this with rfl|rfl
    ·obtain⟨c,hm⟩:=Ob (n:=424 833) (acc:=d80) (nD e);obtain⟨jU,bZ⟩:=ahn hm;exact⟨jU,by rw[jz];exact bZ⟩
    ·obtain⟨c,af,_⟩:=look e;exact⟨c,af⟩
   rcases aC with aC|aC
   ·exact key _ aC 253
   ·exact key _ aC e69
  ·have z:(a16==some X0)=01:=z;have z:a16=492:=r53;have e:991=73:=e;rw[jz]at e;rcases N9 (nD e)with hm|⟨_,ak,_⟩
   ·rcases H3 hm with hm|⟨af,_⟩
    ·cases hm
    ·have q:=ok.uniq _ af;rw[z]at q;cases q
   ·rw[kz]at ak;exact Oa ak
  ·show b≠i13;rw[gG];exact fk (Aq b aa).2
  ·have e:991=73:=e;rw[D47 (mem e)]
   ·exact(Aq b aa).1.2.2.2.2.1 y c af z
   ·have ak:288≤b:=by rw[←z];exact af
    rw[A62 (jN (Aq b aa).2 (Oa ak)) _]
  ·rw[A61 (Aq b aa).1.2.2.2.1]
   ·exact I.ok.zY b o e z
   ·rw[A62 (jN 105 (g49 z)) _]
  ·rw[A61 (j58 b z)]
   ·exact(Aq b aa).1.2.1 z
   ·exact(Aq b aa).1.2.2.1 z
 refine⟨amP,rfl,579,ir.kept fC,⟨d75,?_,fun i y amQ aK aG cp=>?_⟩,k20,?_,k20,263,I.bB.kept fC,by rw[DG];exact I.len⟩
 ·show Heap.Ns _ i13 _;rw[gG];exact Heap.Ns.keeps (Heap.Ns.new ..) (351 (N_ _ _ _ _ e))
 ·obtain⟨aG,d9⟩:=Od aG;have oG:a16=779∧(g29=492∨g29=779):=by
   have key:∀k,g8.scope.names.lookup y=040→k=.local∨k=.cell∨k=.free→a16=779∧(g29=492∨g29=779):=fun k aS rL=>by
    have Oe:=aS;rw[H5]at aS;obtain⟨fZ,e,r⟩:=XZ aS;have no:¬(fZ=.local∨fZ=.cell):=fun dh=>by
     rcases ok.own _ (nD e) dh with bZ|bZ
     ·obtain⟨p,au,amR⟩:=112 bZ;have cp:=ok.i8 p au;have:p.1=y:=amR;rw[this]at cp;exact d9 (184 p au (MT fs cp aK))
     ·exact bZ (cG aK)
    rcases r with rfl|⟨rfl,rfl⟩
    ·rcases rL with rfl|rfl|rfl
     ·exact 69 253 no
     ·exact 69 e69 no
     ·exact⟨e,.inr Oe⟩
    ·exact⟨e,.inl Oe⟩
   have cp:zW g8.scope y:=cp;rcases cp with cp|cp|cp
   ·exact key _ cp 253
   ·exact key _ cp (.inr 253)
   ·exact key _ cp (.inr e69)
  rw[B90];have amS:zW 628 y:=(ok.free _ (nD oG.1) rfl).elim (450 (.inr 172)) (450 (.inr (.inr k)));obtain⟨w,r,q⟩:=ax i y amQ aK aG amS;refine⟨w,r,.inr (328 oG.2)⟩;obtain⟨c,af,ak⟩:=look oG.1;rcases q with⟨k,_⟩|⟨_,jU,bZ,z⟩
  ·have k:l60 y=491:=k;rcases ok.free _ (nD oG.1) rfl with fZ|fZ<;>rw[show l60 y=_ from fZ]at k<;>cases k
  ·rw[ak]at bZ;cases bZ;exact⟨c,af,z.keeps fC⟩
 ·have e:991=73:=e;rcases mem e with⟨af,_⟩|⟨_,z⟩
  ·obtain⟨w,z⟩:=c46 y af;exact⟨w,z.keeps fC⟩
  ·rw[A08 z]
 ·show H i13=00;rw[gG];exact 683
 ·have e:991=73:=e;rw[D47 (mem e)]
  ·exact I.iS y c af
  ·exact 082 (Oa af)
 ·exact 69 (p20 (p∈([]:225)++[])) 19
theorem amT{v:aH}(I:24)(cO:H D=525)(hz:57<bc)(r:RelV y v)(h:∀s',aQ X 07 σ (34 H D (xs++[y])) s'→Q 87 s'):a9 47 X.A (kZ (399 p22) [e41,v]) Q E s:=by obtain⟨zr,a0,n,Aj,e⟩:=613 D cO;have ax:=Aj.length;refine append_at (hsz:=k91) e (fun h' eX ju=>?_);refine h 537 (I.write (t':=233) (by rw[cO];trivial) 253 (fun b u aa q=>385 b aa q) (404 ju) ⟨by rw[cn];exact hz,a0++[v],n+1,Aj.append (386 r),?_⟩);rw[ju];simp
def DJ(X:dT)(ifs:439)(t:j6):04:=l81 225 571 (24→t σ H Q→a9 47 X.A (forIn ifs 01 (fun c r=>if r=01 then do
 let ok←isTrue c X.env (cE c X.env)
 pure (Of ok)else pure (Of r))) (Hh X 07 σ Q) 68 s)
def Og:j6:=j67 01 H
theorem i9:DJ X [] Og:=f54 (wpAny_tests_nil ⟨H,I,h⟩)
theorem Ar{c:dn}{t:j6}(h:mI X c t):DJ X [c] t:=r52 (wpAny_tests_one (h 07 s σ H Q I hw))
end
theorem As{t:Sem α}{Q tE:455 α}{s:aZ}(h:a9 M A t Q 897 s)(g6:∀a s,Q a s→tE a s):a9 M A t tE E s:=j_ h g6 h08
theorem amU{s:aZ}{target:dn}{it acc:aH}(I:455 Nat)(turn:∀n s,I n s→a9 232 A (nB it) (fun r ep=>match r with
 |none=>R (.ok .next) ep
 |some v=>a9 232 A (M1 i11 it v) (fun _ X1=>a9 232 A (z1 i11 env v) (fun _ iu=>a9 232 A (forIn ifs 01 (fun c r=>if r=01 then do
  let ok←isTrue c env (cE c env)
  pure (Of ok)else pure (Of r))) (fun ok vx=>39 ok (a9 232 A (b07 elt) (fun x X2=>a9 232 A (kZ (399 p22) [acc,x]) (fun _ X3=>∃m,m<n∧I m X3) (DK 232 A env (d93 c02 s')) X2) (DK 232 A env (d93 c02 s')) vx) (∃m,m<n∧I m vx)) (DK 232 A env (d93 c02 s')) iu) (DK 232 A env (d93 c02 s')) X1) (DK 232 A env (d93 c02 s')) ep) (DK 232 A env (d93 c02 s')) s)(n:Nat)(h:I n s):qI 232 A (.compLoop (047 [a90 i11 0]) 0 it acc env) R s:=by
 refine codeAny_loop rfl I (fun n s yb=>?_) n h;show a9 _ A ((compTurn (047 [a90 i11 0]) 0 it acc env).onRaise (72 (do
  noteFrame x env
  theTreesLotGoes x))) _ _ s;refine wpAny_noted ?_;rw[compTurn_list];rw[A00 (Hp (a7 (j_ (turn n s yb) (fun r ep H6=>?_) d58)))]
 cases r with
  |none=>exact cx H6
  |some v=>
   rw[A00 (j_ H6 (fun _ X1 amV=>?_) d58)];rw[A00 (j_ amV (fun _ iu DL=>a7 (j_ DL (fun ok vx H7=>?_) d58)) d58)]
   cases ok with|false=>exact cx (119 H7)|true=>exact a7 (a7 (j_ H7 (fun x X2 amW=>a7 (j_ amW (fun _ X3 amX=>c49 (119 amX)) d58)) d58))
def vO(hL:TI)(g:iv)(tt:j6)(c7:ct)(vs:06):ct:=262 (hL σ H (fun fu H1=>∀D,H1 D=00→∃W:240 599,(∃m,W 0 m 695)∧∀i m H,W i m H→(fu.stop i H∧514 D H)∨(fu.go i H∧∃hh:855,(c58 (eg<m∧W (i+1) eg H'))∧∀x H',fu.mL i H x H'→g x 297 H' (fun c6 aB=>708=297∧c88 b (bP D=700∧706∧c29 [y])))))
theorem X4{s:aZ}{σ:bq}{Q:aW}{hL:TI}{g:iv}(ar:394)(fs:X.N.Nodup)(I:24)(hi:lG X eD 818 hL)(ok:DF X.N 628 42 own)(a4:062 (rZ (X.kB s H 42 (pQ 42 cl C 55) df) eD g))(bk:062 (DJ (X.kB s H 42 (pQ 42 cl C 55) df) ifs tt))(he:062 (bF (X.kB s H 42 (pQ 42 cl C 55) df) elt c7))(aL:∀x,M7 818 55 x=pure x)(h:vO hL g tt c7 a21 σ H Q)(amY:∀D C s' m H',050→435 D→s'.heap.Ns C m→pH X 07 H' C→compPost 47 X.A 68 use Qf e41 C (.ok .next) s'):a9 47 X.A (comprehension (047 [a90 eD 0]) 42 55 pos' (newList []) 09 (405 818) use) Qf 68 s:=by
 have oe:f55 (g30→∃c,d35 y.1=73):=i08 (by
  rcases ok.free y aC e with k|k
  ·exact k17 172
  ·exact k17 (.inr k));refine wpAny_comprehension_free (use:=use) rfl aL (amL oe) ok.kind (i08 (by rw[ok.uniq y aC,e])) (bY (hi 07 s σ H _ I h) (fun aBd s1 ai=>bY ai (fun Ht s2 ak=>?_)));obtain⟨it,df,h3,fu,aB,e,b5,T,z9,f2,q⟩:=ak;subst e;refine H8 (amN ?_) (680 (0≤bc));generalize cO:s2.heap.objs.size=D;have amZ:aB D=00:=b5.bB.fresh (HC cO);obtain⟨W,⟨m0,z5⟩,turn⟩:=q D amZ;generalize X5:({s2 with heap:=s2.heap.push (990 (.seq ([]:53).toArray))}:aZ)=s3;have el:aQ X 07 σ (34 aB D []) s3:=by rw[←X5];refine b5.laid (t':=s2.toks) (902 _ e) (HC cO) ⟨229,[],0,89,?_⟩;rw[←cO];exact 111
 have a6:s3.heap=s2.heap.push (990 (.seq ([]:53).toArray)):=by rw[←X5]
 have qB:432 (b<s2.heap.objs.size):=350 (p79 (T.obj _ _ z9 b aa) 105);have e9:432 (pH X 07 (34 aB D []) b∧b<678):=350 (by have cM:=qB b aa;rw[A03 ⟨?_,(f2 b aa).2⟩ (by rw[a6,kz];exact CE cM)];rw[aE (by rw[←cO];exact fk cM)];exact(f2 b aa).1);have Hw:h3 0 s3.heap:=T.keep _ _ _ z9 (fun b _ o e=>by rw[a6];exact 130);have jw:=amO el ok fs e9;have dq:=a4 s3 (34 aB D []) 678 h07 df;have pt:=bk s3 (34 aB D []) 678 h07 df;have zK:=he s3 (34 aB D []) 678 h07 df;show qI _ _ (.compStart (047 [a90 eD 0]) 0 760 e41 (pQ 42 h07 678 55)) (compPost 47 X.A 68 use Qf e41 678) (p21 (ya (k89 a49) 476));have X6:432 ((34 aB D []) b=00):=350 (e9 b aa).1.1;generalize H9:pQ 42 h07 678 55=ce at jw dq pt zK⊢;have X7:p19=678:=by subst H9;rfl
 generalize pR:34 aB D []=a5 at el jw dq pt zK z5 X6 e9;generalize am0:(p21 (ya (k89 a49) 476):aZ)=s4 at jw⊢;have X8:h3 0 s4.heap:=T.keep _ _ _ Hw (fun b _ o e=>by rw[←am0];exact N_ _ _ _ _ 130);have xV:∀{cb:bq}{H':av}{s':aZ},aQ (X.kB s3 a5 42 ce df) [] cb H' s'→(432 (244=00))→432 (pH (X.kB s3 a5 42 ce df) [] H' b):=fun{cb H' s':_}jV aU b aa=>⟨aU b aa,(jV.ok.C6 b aa).1,jV.ok.zZ b aa,.inl aa,fun x c e=>(jV.ok.C6 b aa).2 x c e,367 (151 (p20 (p∈([]:225)++[])))⟩;have loop:qI 47 X.A (.compLoop (047 [a90 eD 0]) 0 760 e41 ce) (compPost 47 X.A 68 use Qf e41 678) s4:=by
  refine amU (fun n s'=>∃i H',aQ (X.kB s3 a5 42 ce df) [] (wipe σ a21) H' s'∧h3 i 542∧(432 (244=00))∧W i n H') ?_ m0 ⟨0,a5,jw,X8,X6,z5⟩;rintro n s5⟨i,de,nA,z_,sl,Au⟩;rcases turn i n de Au with⟨stop,am1⟩|⟨go,hh,am2,step⟩
  ·have hj:=T.done (X.kB s3 a5 42 ce df) rfl rfl rfl ar i [] s5 _ de 897 nA (xV nA sl) z_ stop;refine As hj (fun r cW⟨aq,pG⟩=>?_);subst aq;have kY:aQ X 07 σ de cW:=el.Hg (ch:=df) pG.os pG.base pG.bB pG.bare (350 ⟨(e9 b aa).1.2.2.2.1,(e9 b aa).1.2.1,(e9 b aa).1.2.2.2.2.1,(e9 b aa).1.2.2.2.2.2⟩);have Oh:de 678=00:=by have z:de p19=00:=pG.free;rw[X7]at z;exact z
   obtain⟨m,aU,_⟩:=pG.loc;have aU:cW.heap.Ns p19 m:=aU;rw[X7]at aU;exact amY D 678 cW m de kY am1 aU (el.xS 64 Oh)
  ·have g7:=T.item (X.kB s3 a5 42 ce df) rfl rfl rfl ar i [] s5 _ de 897 nA (xV nA sl) z_ go;refine As g7 (fun r cW⟨u,aq,iT⟩=>?_);subst aq;refine As iT (fun _ e1⟨x,gS,kY,M8,am3,Oi,xW⟩=>?_);have am4:=kY.pinned (xV kY xW) (T.obj _ _ Oi);refine As (dq _ e1 _ gS x u _ am4 M8 (step x gS am3)) (fun _ gW⟨H_,qS,Oj,X9,am5⟩=>?_);refine As (pt _ gW H_ qS _ Oj am5) (fun b i_⟨X_,Yb,Ia⟩=>?_);have fin:∀{s':aZ}{H':av},aQ (X.kB s3 a5 42 ce df) ([]++Dl df e1.heap) H_ H' s'→hh H'→∃m,m<n∧∃i H',aQ (X.kB s3 a5 42 ce df) [] (wipe σ a21) H' s'∧h3 i 542∧(432 (244=00))∧W i m H':=fun{s' H':_}jV cz=>by
    obtain⟨eg,hm,gQ⟩:=am2 H' cz;have Yc:432 (∀o,e1.heap.get? b=25→o66 b=25∧244=00):=511 (let z:=jV.pin (b,o) (vB _ (vB _ (M6 aa e)));⟨z.1,497⟩);have ax:11 (wipe σ a21)=H_.length:=by rw[←X9,DG]
    refine⟨eg,hm,i+1,H',(jV.Hv (pins:=[])).weak ax (fun j v e=>?_),T.keep _ _ _ Oi (511 (Yc b aa o e).1),773,gQ⟩
    ·rw[←X9]at e;exact(Od e).1
    ·obtain⟨o,e,_⟩:=T.obj _ _ Oi b aa;exact(Yc b aa o e).2
   cases b with|false=>simp only[l0,if_false]at Ia⊢;exact fin Yb Ia|true=>simp only[if_true]at Ia⊢;refine As (zK _ i_ H_ X_ _ Yb Ia) (fun z aBe⟨aBf,aBg,am6,am7,acc,am8,am9,cz⟩=>?_);exact amT (X:=X.kB s3 a5 42 ce df) am6 am8 am9 am7 (fun aBh ana=>fin ana cz)
 exact codeAny_compStart_list loop (T.self X.A 0 _ _ _ X8 loop)
theorem k9{hL:TI}{g:iv}(ar:394)(fs:X.N.Nodup)(hi:lG X eD 818 hL)(ok:DF X.N 628 42 own)(a4:062 (rZ (X.kB s H 42 (pQ 42 cl C 55) df) eD g))(bk:062 (DJ (X.kB s H 42 (pQ 42 cl C 55) df) ifs tt))(he:062 (bF (X.kB s H 42 (pQ 42 cl C 55) df) elt c7))(aL:∀x,M7 818 55 x=pure x:=by intro _;rfl):bF X (047 [a90 eD 0]) (vO hL g tt c7 a21):=by rw[A13];rw[eval_ListComp];refine X4 ar fs I hi ok a4 bk he aL h (fun D C s' m H' jV q aU f=>⟨m,aU,fun vP eX=>?_⟩);rw[D46];exact 838 D H' (jV.turned (t':=s'.toks) (536 (385 b aa e)) f0 f1 e9 f4 fR) q
theorem qT{y:Str}{py:Pos}{Yd:Pos}{hL:TI}{g:iv}(ar:394)(fs:X.N.Nodup)(aC:850=270)(Ye:l60 y=491)(anb:tF (047 [a90 eD 0]) (some (.Name y py)) Yd.line 55=pure 01)(hi:lG X eD 818 hL)(ok:DF X.N 628 42 own)(a4:062 (rZ (X.kB s H 42 (pQ 42 cl C 55) df) eD g))(bk:062 (DJ (X.kB s H 42 (pQ 42 cl C 55) df) ifs tt))(he:062 (bF (X.kB s H 42 (pQ 42 cl C 55) df) elt c7))(aL:∀x,M7 818 55 x=pure x:=by intro _;rfl):iV X (.Assign [.Name y py] (047 [a90 eD 0]) Yd) (Hq (vO hL g tt c7 a21) (tG i)):=by
 rw[A35];rw[exec_Assign_Name_used _ _ _ _ anb];rw[A00 (Hp (a7 ?_))];show a9 _ X.A (do let _←comprehension (.ListComp elt [⟨eD,iter,ifs,0⟩] scope pos) scope X.env (firstIterPos [⟨eD,iter,ifs,0⟩] pos) (newList []) false (cE iter X.env) (some (z1 (.Name y py) X.env))) _ _ s;have h:vO hL g tt c7 a21 σ H (291 (tG i x σ H1 D.cz)):=h;rw[A00 (bY (X4 (Qf:=f42 (tD X 07 D .next s')) ar fs I hi ok a4 bk he aL h (fun L C s' m H' jV q aU f=>?_)) (fun _ s' aw=>c49 aw))];show a9 _ _ (z1 (.Name y py) 55 (.ref L)) _ _ _;refine 217 (Wf (v:=881 L) jV fs aC (.inl Ye) rfl (fun s2 b5⟨a,eX,aN⟩=>?_) (.inr Ye));rw[D46];have anc:C≠a:=by
  rcases aN with z|z
  ·rw[z];exact f1
  ·exact 100 (f4 y a z d14)
 refine⟨m,aU.sameBut eX anc,fun a6 ane=>?_⟩;exact⟨_,H',b5.turned (t':=s2.toks) (536 (38 (ane.2 b aa) e)) f0 f1 e9 f4 fR,q⟩
theorem qU{cm:List Comprehension}{py:Pos}{y:Str}{l:Nat}(aS:i09 env.scope.kind)(aC:env.scope.names.lookup y=491)(ax:(py.line==i10)=01)(aN:(scope.names.any (fun(n,k)=>n==y&&(k==.local||k==.cell)))=09):tF (047 cm) (some (.Name y py)) l env=pure 01:=by
 have CF:env.kindOf y=491:=aC;have aa:i09 env.blockKind:=by unfold Env.blockKind;rw[aS];rfl
 unfold tF;simp only[aa,CF,aN,Expr.pos,ax];rfl
theorem Ol{lo:Int}{g:iv}{vs:06}{σ:bq}(Pv:599)(h0:Pv 0 695)(aL:∀i H,i<n→617→g (.int (lo+i)) 297 H (fun c6 aB=>708=297∧tt c6 aB (fun b a5=>39 b (c7 c6 a5 (fun y bP=>∃acc,bP D=700∧706∧e78 (i+1) [y])) (Pv (i+1) a5))))(hd:∀H,Pv n H→qV H):∃W:240 599,(∃m,W 0 m 695)∧∀i m H,W i m H→(800 (r2 lo n)∧qV H)∨((r2 lo n).go i H∧∃hh:855,(c58 (eg<m∧W (i+1) eg H'))∧∀x H',(r2 lo n).mL i H x H'→g x 297 H' (fun c6 aB=>708=297∧c88 b (bP D=700∧706∧c29 [y]))):=by
 rw[B12 (m=n-i∧i≤n∧617) ⟨n,19,229,h0⟩];rw[B20];by_cases cM:i<n
 ·refine .inr ⟨cM,361,p18 ⟨n-(i+1),03,rfl,cM,ky⟩,c14⟩;rw[B26];subst e y;exact aL i _ cM p
 ·rw[A50 (i=n)];subst e;rw[A23 64 (hd H p)]
theorem kC{g:iv}{vs:06}{σ:bq}(Pv:599)(h0:Pv 0 695)(ax:∀i H,759 i→617→463)(aL:∀i x H,441=43→617→g x 297 H (fun c6 aB=>708=297∧tt c6 aB (fun b a5=>39 b (c7 c6 a5 (fun y bP=>∃acc,bP D=700∧706∧e78 (i+1) [y])) (Pv (i+1) a5))))(hd:∀H,Pv 57 H→qV H):∃W:240 599,(∃m,W 0 m 695)∧∀i m H,W i m H→(800 (vz K a)∧qV H)∨((vz K a).go i H∧∃hh:855,(c58 (eg<m∧W (i+1) eg H'))∧∀x H',(vz K a).mL i H x H'→g x 297 H' (fun c6 aB=>708=297∧c88 b (bP D=700∧706∧c29 [y]))):=by
 rw[B12 (m=57-i∧759 i∧617) ⟨57,19,229,h0⟩];rw[B20];have q:=ax i H hi p;rw[B42 i]
 ·refine .inr ⟨j04 xs xs[i] q,361,p18 ⟨57-(i+1),03,rfl,cM,ky⟩,c14⟩;rw[B26];subst e;exact aL i x _ (y xs q) p
 ·rw[B43 i];subst e;rw[A23 ⟨xs,q,64⟩ (hd H p)]
theorem anf{g:iv}{vs:06}{σ:bq}(Pv:599)(h0:Pv 0 695)(ax:∀i H,759 i→617→955)(aL:∀i x H,441=43→617→g x 297 H (fun c6 aB=>708=297∧tt c6 aB (fun b a5=>39 b (c7 c6 a5 (fun y bP=>∃acc,bP D=700∧706∧e78 (i+1) [y])) (Pv (i+1) a5))))(hd:∀H,Pv 57 H→qV H):∃W:240 599,(∃m,W 0 m 695)∧∀i m H,W i m H→(800 (vA K a)∧qV H)∨((vA K a).go i H∧∃hh:855,(c58 (eg<m∧W (i+1) eg H'))∧∀x H',(vA K a).mL i H x H'→g x 297 H' (fun c6 aB=>708=297∧c88 b (bP D=700∧706∧c29 [y]))):=by
 rw[B12 (m=57-i∧759 i∧617) ⟨57,19,229,h0⟩];rw[B20];have q:=ax i H hi p;rw[B42 i]
 ·refine .inr ⟨j04 xs xs[i] q,361,p18 ⟨57-(i+1),03,rfl,cM,ky⟩,c14⟩;rw[B26];subst e;exact aL i x _ (y xs q) p
 ·rw[B43 i];subst e;rw[A23 ⟨xs,q,64⟩ (hd H p)]
def Yg(N:221)(sc scope:rp)(own:820 Nat):Bool:=(match scope.kind with|.function=>01|_=>09)&&(scope.names.all (131 (29 (i42=some y.2))))&&(own.all (400 (29 (N[p.2]?=some p.1))))&&(scope.names.all (131 (match y.2 with|.free=>(match m08 with|some .cell=>01|some .free=>01|_=>09)|.local=>a44 y.1 m32||29 (y.1∉N)|.cell=>a44 y.1 m32||29 (y.1∉N)|_=>01)))
theorem hk(h:Yg N sc 42 own=01):DF N sc 42 own:=by
 unfold Yg at h;simp only[hG,gB,decide_eq_true_eq]at h;obtain⟨⟨⟨af,ak⟩,a6⟩,bH⟩:=h;refine⟨?_,ak,a6,i08 ?_,i08 ?_⟩
 ·split at af
  ·rw[A34]
  ·cases af
 ·have q:=bH y aC;simp only[e]at q;split at q<;>first|rw[A17 (by assumption)]|rw[A09 (by assumption)]|cases q
 ·have q:=bH y aC;rcases e with e|e<;>(simp only[e,Gl,decide_eq_true_eq]at q;exact q)
section
variable{s:aZ}{t0 aBi t1 i1:dn}{aBj aBk:439}{it acc:aH}
end
section
variable[m63]
def ja(kvs:523)(k:e8):93:=c09 (kvs.find? (g09 k))
def ie(kvs:523)(k:e8)(v:ae):523:=39 (g16 k) (m66 (13 (dU.1=k) (dU.1,v) dU)) (kvs++[(k,v)])
theorem DM{p:e8×ae}{r:523}{k:e8}(e:p.1=k):ja (p::r) k=some p.2:=r51
theorem Av{p:e8×ae}{r:523}{k:e8}(e:¬p.1=k):ja (p::r) k=ja r k:=r51
theorem Ib(k:e8):∀kvs:523,(g16 k)=736 068
 |[]=>rfl
 |p::r=>by
  rw[pe];rw[A06 p.1 k]
  ·simp only[DM e,190,VJ,Oc]
  ·rw[Av e,132,Cv];exact Ib k r
theorem Ic(kvs:523)(k:e8)(v:ae):11 (ie kvs k v)≤378+1:=by
 unfold ie;split
 ·rw[ba];lia
 ·rw[cn,dR,l4];lia
theorem ang{kvs:523}{k:e8}(v:ae)(h:068=00):ie kvs k v=kvs++[(k,v)]:=by unfold ie;rw[Ib,h];exact 107
theorem j8.Aw{o:93}{u:631}(r:j8 o u):i07=u.isSome:=by
 cases o with
  |none=>cases u with|none=>rfl|some _=>exact i36
  |some _=>cases u with|none=>exact i36|some _=>rfl
theorem gE.val{kvs:523}{vs:a89}(r:603)(k:e8):j8 068 (yc vs k):=by
 unfold gE at r
 induction r with
  |nil=>exact xZ
  |@cons p q ps dg h t ih=>
   obtain⟨af,ak⟩:=h;rw[A06 p.1 k]
   ·have bZ:q.1=k:=i74;have b:yc (q::dg) k=some q.2:=r50;rw[DM e,b];exact ak
   ·have bZ:¬q.1=k:=e67 j29;have b:yc (q::dg) k=yc dg k:=r50;rw[Av e,b];exact ih
theorem gE.any{kvs:523}{vs:a89}(r:603)(k:e8):(g16 k)=vs.any (g09 k):=by
 unfold gE at r
 induction r with|nil=>rfl|cons h t ih=>rw[pe,pe,ih,h.1]
theorem gE.Om{kvs:523}{vs:a89}(r:603)(k:e8)(bQ:464):gE (m66 (13 (dU.1=k) (dU.1,y) dU)) (vs.map (fun dU=>13 (dU.1=k) (dU.1,u) dU)):=by
 unfold gE at r⊢
 induction r with
  |nil=>rw[A40]
  |@cons p q ps dg h t ih=>
   rw[eN,eN];refine 919 ?_;obtain⟨af,ak⟩:=h;rw[A06 p.1 k]
   ·rw[155,21 i74];exact⟨af,bQ⟩
   ·rw[148,136 (e j29)];exact⟨af,ak⟩
theorem gE.put{kvs:523}{vs:a89}(r:603)(k:e8)(bQ:464):gE (ie kvs k y) (stored vs k u):=by
 unfold ie stored;rw[r.any k];rw[A06 (vs.any (g09 k)) 01]
 ·rw[155,155];exact r.Om k bQ
 ·rw[148,148];exact Yh r (119 bQ)
theorem gE.length{kvs:523}{vs:a89}(r:603):e31:=rS r
end
theorem vQ{k:cF}(r:684 (ec k)):(fg P w).is k u=01:=by cases k with|inl i=>rw[B17 (u=zT i t)];subst e;exact tA P w i t|inr x=>rw[B17 (u=C4 x t)];subst e;exact aj6 P w x t
theorem Oo{P:f3}{w:ff}:∀{cS:756}{us:53},594 n22→ItemsAre (fg P w) cS us
 |[],_,r=>by rw[zz]at r;cases r;exact .nil
 |k::cS,_,r=>by
  rw[eN]at r
  cases r with|cons h t=>exact .cons (vQ h) (Oo t)
abbrev kh(H:av):028→92 (c62 (ag×aH)):=ov (fun p q=>p.1=q.1∧H 449=294 (p.1.map ec)∧RelV p.2 423)
theorem kh.val{xs:c62 (ag×aH)}(r:b09 H)(k:756):j8 068 (c09 (vR xs k)):=by
 induction r with
  |nil=>exact xZ
  |@cons p q ps dg h t ih=>
   obtain⟨af,_,ak⟩:=h;rw[A06 p.1 k]
   ·have bZ:q.1=k:=i74;have b:vR (q::dg) k=some q.2:=r49;rw[DM e,b];exact ak
   ·have bZ:¬q.1=k:=e67 j29;have b:vR (q::dg) k=vR dg k:=r49;rw[Av e,b];exact ih
theorem kh.Om{xs:c62 (ag×aH)}(r:b09 H)(k:756)(bQ:464):kh H (m66 (13 (dU.1=k) (dU.1,y) dU)) (078 (putAt k u)):=by
 induction r with
  |nil=>rw[A40]
  |@cons p q ps dg h t ih=>
   rw[eN,eN];refine 919 ?_;obtain⟨af,ak,a6⟩:=h;unfold putAt;rw[A06 p.1 k]
   ·rw[155,21 i74];exact⟨af,ak,bQ⟩
   ·rw[148,136 (e j29)];exact⟨af,ak,a6⟩
theorem kh.put{xs:c62 (ag×aH)}(r:b09 H)(k:756)(aa:H b=294 (k.map ec))(bQ:464):kh H (ie kvs k y) (Ax xs k b u):=by
 have e:(g16 k)=736 (vR xs k):=by rw[Ib,(r.val k).Aw,Yi]
 unfold ie Ax;rw[e];by_cases q:736 (vR xs k)=01
 ·rw[181,181];exact r.Om k bQ
 ·rw[23 q,23 q];exact Yh r ⟨rfl,aa,bQ⟩
theorem kh.keeps{xs:c62 (ag×aH)}(r:b09 H)(bk:∀b ys,H b=294 ys→244=294 ys):b09 H':=Paired.Ha r (l43 ⟨z.1,bk _ _ 497,a06⟩)
theorem Yj{u:dz}(ok:fy P w H h)(e:tB H a u):fx P w H h a u:=e.ok ok
theorem DN{kvs:410}(ok:fy P w H h)(e:tB H a 899):a92∧(a==l5)=09∧∃vs,603∧h.DictOf (fg P w) a vs:=88 (fx P w H h a 899) (Yj ok e)
theorem anh{kvs:410}(ok:fy P w H h)(e:H a=c65):a92∧(a==l5)=09∧∃vs,603∧h.DictOf (fg P w) a vs:=DN ok (.inl e)
theorem Ay{cS:756}(ok:fy P w H h)(e:H a=294 n22):(414).is h cS a:=by rw[C74 (88 (fx P w H h a (.tup n22)) (ok a _ e))];exact⟨o,275,n,af,ak,a6,081 (Oo r)⟩
theorem Az(ok:fy P w H h)(e:tB H a c05):a92∧(a==l5)=09∧∃xs,b09 H∧h.DictOfH 414 a xs:=by
 obtain⟨z,y,xs,r,o,aR,c0,af,ak,a6,bH,fX⟩:=(88 (fx P w H h a c05) (Yj ok e));refine⟨z,y,xs,r,o,aR,c0,af,ak,a6,bH,333,fX⟩;have all:∀{l:028}{m:c62 (ag×aH)},kh H l m→∀x∈m,(414).is h x.1 x.2.1:=by
  intro l m q
  induction q with
   |nil=>rw[A74];exact nomatch ai
   |@cons p q ps dg aw t ih=>
    rw[A74];rcases 569 ai with e|ai
    ·subst e;exact Ay ok (by rw[←aw.1];exact aw.2.1)
    ·exact ih x ai
 exact all r x ai
theorem ani(ok:fy P w H h)(e:H a=some c05):a92∧(a==l5)=09∧∃xs,b09 H∧h.DictOfH 414 a xs:=Az ok (.inl e)
def qW(H:av)(a:ag)(y:ae)(r:93):04:=(∃kvs k,tB H a 899∧y=ec k∧r=068)∨∃kvs k b,tB H a c05∧y=281∧H b=294 (k.map ec)∧r=068
def DO(H:av)(a:ag)(y v:ae)(H':av):04:=(∃kvs k,H a=c65∧y=ec k∧378<bc∧H'=e26 a (ie kvs k v))∨∃kvs k b,H a=some c05∧y=281∧H b=294 (k.map ec)∧378<bc∧H'=upd H a (.gf (ie kvs k v))
theorem qW.k{H:av}{a:ag}{kvs:410}{k:cF}(e:H a=c65):qW H a (ec k) 068:=.inl ⟨kvs,k,.inl e,rfl,rfl⟩
theorem DO.k{H:av}{a:ag}{kvs:410}{k:cF}{v:ae}(e:H a=c65)(ax:378<bc):DO H a (ec k) v (e26 a (ie kvs k v)):=.inl ⟨kvs,k,e,rfl,ax,rfl⟩
section
variable{σ:bq}{s:aZ}{v:ae}{r:aH}{o:93}
theorem aQ.big(I:24):l5<18:=by have h:i6<18:=(l99).lt;exact Ie 14 h
theorem anj(bp:776 1<kb)(I:24)(g:qW H a y 54)(bQ:464)(h:∀gQ s',aQ X 07 σ H s'→RelV v gQ→Q gQ s'):a9 47 A (z3 37 u) Q E s:=by
 rw[C61]
 ·subst f6;rw[B89 (DN 274 e)];rw[C01 v (yc vs k) (by rw[l];exact 186)];exact wpAny_getItem_of e59 dd.mapOf hw (h gQ _ 279 oE)
 ·subst f6;cases g35 (u=da b);rw[B88 (Az 274 e)];rw[C01 v (c09 (vR xs k)) (by rw[l];exact 186)];obtain⟨p,au,l1⟩:=pP.mp hw;refine wpAny_getItem_heap (Ig bp) (Ay 274 eG) dd au ?_;rw[l1];exact h gQ _ 279 oE
theorem ank(bp:776 1<kb)(I:24)(g:qW H a y o)(bQ:464)(h:∀s',aQ X 07 σ H s'→Q (.bool i07) s'):a9 47 A (jv .In u 37) Q E s:=by
 rw[C61]
 ·subst f6;rw[B89 (DN 274 e)];refine wpAny_in_of e59 hd dd.mapOf ?_;rw[←180,←l];exact h _ 279
 ·subst f6;cases g35 (u=da b);rw[B88 (Az 274 e)];refine wpAny_in_heap (Ig bp) (Ay 274 eG) hd dd ?_;have q:=180;rw[Yi]at q;rw[←q,←l];exact h _ 279
theorem anl(bp:776 1<kb)(I:24)(g:qW H a y o)(bQ:464)(h:∀s',aQ X 07 σ H s'→Q (.bool (! i07)) s'):a9 47 A (jv .NotIn u 37) Q E s:=by
 rw[C61]
 ·subst f6;rw[B89 (DN 274 e)];refine wpAny_notIn_of e59 hd dd.mapOf ?_;rw[←180,←l];exact h _ 279
 ·subst f6;cases g35 (u=da b);rw[B88 (Az 274 e)];refine wpAny_notIn_heap (Ig bp) (Ay 274 eG) hd dd ?_;have q:=180;rw[Yi]at q;rw[←q,←l];exact h _ 279
theorem Yk(I:24)(hJ:vo (H a))(aL:ox a 28 h')(he:∃q,939 a q)(new:fx 61 X.w (upd H a bC) h' a bC):f66 (upd H a bC):=I.write (x:=a) (e:=a) hJ 253 (fun b q aa z=>38 (aL.2 b aa) z) he new
theorem anm{kvs:410}{vs:c79}(z:a92)(hd:(a==l5)=09)(rel:603)(dd:h'.DictOf (fg P w) a vs):fx P w H' h' a 899:=⟨z,hd,vs,rel,dd⟩
theorem ano{Q:592}(bp:776 1<kb)(I:24)(g:DO H a y v H')(bQ:464)(cV:RelV v r)(h:∀s',050→Q () s'):a9 47 A (setItem 37 u r) Q E s:=by
 rcases g with⟨kvs,k,e,f6,l,yd⟩|⟨kvs,k,b,e,f6,eG,l,yd⟩
 ·subst f6 yd;rw[B89 (anh 274 e)];have hz:a03≤bc:=by rw[←rel.length];exact z
  have ax:069 (ie kvs k v):=564 (Ic kvs k v);refine wpAny_setItem_pairs (hsz:=hz) e59 dd (fun h' Ih aL=>h _ ?_);have he:∃q,939 a q:=let⟨q,_,_,aw,_⟩:=Ih;⟨q,aw⟩;exact Yk I p17 aL he (anm ax hd (rel.put k cV) Ih)
 ·subst f6 yd;cases g35 (u=da b);rw[B88 (ani 274 e)];have hz:052:=by rw[←rS rel];exact z
  have ax:069 (ie kvs k v):=564 (Ic kvs k v);refine wpAny_setItem_heap (hsz:=hz) (Ig bp) (Ay 274 eG) dd (fun h' Ih aL=>h _ ?_);obtain⟨q,aR,c0,aw,ak,a6,bH,_,fX⟩:=Ih;refine Yk I p17 aL ⟨q,aw⟩ ⟨ax,hd,_,(rel.put k eG cV).keeps (fun c ys s_=>?_),q,aR,c0,aw,ak,a6,bH,fX⟩;rw[aE (eB s_ e (16 l39))];exact s_
end
section
variable{σ:bq}{s:aZ}{kvs:410}{k:cF}
end
def Oq(i:dn):04:=∀dA gV,NI i 09 dA gV=operate [dA,gV] (z3 dA gV)
theorem Yl{s:aZ}{slice:dn}{id:String}(ax:lI e01 "__getitem__"=pure (some 995))(aL:Oq slice)(h:a9 232 A (b07 676) (fun o ep=>a9 232 A (b07 slice) (fun i iu=>iu.TypeIs o T∧a9 232 A (z3 o i) Q E iu) E ep) E s):a9 232 A (b07 (a27 676 slice)) Q E s:=by refine NF (j_ h (fun o ep H6=>j_ H6 (fun i iu DL=>?_) d65) d65);obtain⟨bR,DL⟩:=DL;unfold NG;rw[A28];rw[getitemInPython_of_ne bR.not_modules];rw[A00 (Ym bR ax ?_)];have fin:a9 232 A (NI slice 09 o i) (fun r vx=>a9 232 A (letTemporaryGo 676 o r>>=290 (pure r)) Q E vx) E iu:=364 (aL o i) (wpAny_operating (j_ DL (fun r vx H7=>a7 (wpAny_letTemporaryGo (cx H7))) d65));first|exact cx (a7 fin)|exact a7 (cx (a7 fin))|exact a7 fin
theorem anp{σ:bq}{s:aZ}{o:93}(I:24)(g:qW H a y o):s.TypeIs 37 535:=by
 rcases g with⟨kvs,k,e,_,_⟩|⟨kvs,k,b,e,_,_,_⟩
 ·obtain⟨_,_,vs,_,dd⟩:=DN 274 e;exact dd.typeIs
 ·obtain⟨_,_,xs,_,dd⟩:=Az 274 e;exact dd.typeIs
inductive Yn(Q:aW)(x:ae)(y:ae)(aB:av):04|mk:∀a v,x=37→qW aB a y 54→Q v aB→Yn Q x y aB
def anq(hj ty:ct):ct:=262 (hj σ H (291 (ty σ H1 (890 (Yn Q x y aB)))))
inductive Yo(Q:aW)(y:ae)(x:ae)(aB:av):04|mk:∀a o,x=37→qW aB a y o→826 i07 aB→Yo Q y x aB
def anr(ty hj:ct):ct:=262 (ty σ H (d18 (hj σ H1 (d20 (Yo Q y x aB)))))
inductive Yp(Q:aW)(y:ae)(x:ae)(aB:av):04|mk:∀a o,x=37→qW aB a y o→826 (! i07) aB→Yp Q y x aB
def ant(ty hj:ct):ct:=262 (ty σ H (d18 (hj σ H1 (d20 (Yp Q y x aB)))))
inductive Yq(D:lY)(σ:bq)(v:ae)(x:ae)(y:ae)(a5:av):04|mk:∀a bP,x=37→DO a5 a y v bP→686 bP→Yq D σ v x y a5
def anu(hj ty h5:ct):gH:=474 (h5 σ H (fun v H1=>hj σ H1 (d20 (ty σ aB (fun y a5=>Yq D σ v x y a5)))))
section
variable{o i:dn}
theorem Yr(bp:d63 1<kb)(a8:bF X o hj)(hi:bF X i ty)(aL:Oq i):bF X (a27 o i) (anq hj ty):=by rw[A13];refine Yl anv.lookup aL (bY (a8 07 s σ H _ I h) (q76 (bY (hi 07 s1 σ H1 _ aX bg) (fun gV s2⟨y,aB,b5,bQ,a,v,ex,g,cf⟩=>?_))));rw[A25];rw[A38 u];exact⟨anp b5 g,anj bp b5 g bQ (fun gQ s3 el oE=>⟨v,aB,el,oE,cf⟩)⟩
theorem anw(bp:d63 1<kb)(hi:bF X i ty)(a8:bF X o hj):Hj X .In i o (anr ty hj):=by rw[A13];refine bY (hi 07 s σ H _ I h) (l76 (a8 07 s1 σ H1 _ aX bg) (r48 ?_));rw[A25];rw[A38 u];exact ank bp b5 g bQ (f39 (128 dA.isSome aB el cf))
theorem anx(bp:d63 1<kb)(hi:bF X i ty)(a8:bF X o hj):Hj X .NotIn i o (ant ty hj):=by rw[A13];refine bY (hi 07 s σ H _ I h) (l76 (a8 07 s1 σ H1 _ aX bg) (r48 ?_));rw[A25];rw[A38 u];exact anl bp b5 g bQ (f39 (128 (! dA.isSome) aB el cf))
theorem anz(bp:d63 1<kb)(a8:bF X o hj)(hi:bF X i ty)(a3:g78 h5)(aL:g88 676 (.Subscript o i pos')=910):iV X (d94 [.Subscript o i pos'] 676) (anu hj ty h5):=by rw[A35];refine wpAny_Assign_Subscript (bY (a3 07 s σ H _ I h) (fun r s1⟨v,H1,aX,cV,bg⟩=>bY (a8 07 s1 σ H1 _ aX bg) (fun u s2⟨x,aB,b5,bw,cf⟩=>bY (hi 07 s2 σ aB _ b5 cf) (fun gV s3⟨y,a5,el,bQ,a,bP,ex,g,eC⟩=>?_)))) aL;rw[A25];rw[A38 u];exact ano bp el g bQ cV (fun s4 jw=>⟨σ,bP,jw,eC⟩)
end
theorem anA(h:dk)(aa:l5<397):fx P w H (h.push a49) 397 (.e0 []):=⟨229,962 (jq (fk aa)),[],89,anB h⟩
def anC:ct:=fun _ H Q=>∀p,H p=00→664 (e26 p [])
theorem anD:bF X (.Dict [] [] pos) anC:=fun pins s σ H Q I h=>wpAny_Dict_empty ⟨277,_,I.laid (a:=18) (o:=.e0 []) (t':=233) (l42 (dY _ q)) 64 (anA 28 I.big),rfl,h _ 683⟩
def tQ(kvs more:410):410:=more.foldl (fun acc dU=>ie acc dU.1 dU.2) kvs
theorem gE.merge:∀{more:410}{rs:c79}{kvs:410}{vs:c79},gE more rs→603→gE (tQ kvs more) (merged vs rs):=by
 intro more rs kvs vs r;unfold gE at r
 induction r generalizing kvs vs with
  |nil=>intro q;exact q
  |@cons p q ps dg h t ih=>
   intro r0;have e:gE (ie kvs p.1 p.2) (stored vs q.1 q.2):=by have:=r0.put p.1 h.2;rw[←h.1];exact this
   exact ih e
theorem Ys:∀(more kvs:410),11 (tQ kvs more)≤378+more.length|[],kvs=>636 378 (378+0)|p::r,kvs=>by have af:=Ys r (ie kvs p.1 p.2);have ak:=Ic kvs p.1 p.2;show 11 (tQ (ie kvs p.1 p.2) r)≤_;rw[dR];lia
section
variable{σ:bq}{s:aZ}{d:ae}{r:aH}{o:93}
end
section
variable{o f:dn}{bI:ct}
end
section
variable{σ:bq}{s:aZ}{kvs:410}
end
section
variable{σ:bq}{s:aZ}
end
theorem anE:lI 900 968=519:=Yt (by first|rw[B46]|rfl)
theorem Ii:entryFor table k38=some Builtin.«dict.update.loop»:=entryFor_of_tree 963
theorem sm:plainId k38=01:=05
theorem anF{s:aZ}{xs:323}{k:Nat}{Q:e86}(ai:586 a)(ar:781 900)(so:c07 (.seq xs k))(hd:e52)(di:595)(h:f11 ((811 (393 b bC→219=466))→Q 00 620)):a9 232 A (getAttr? 37 968) Q E s:=by
 obtain⟨c,aBl,dat,dP⟩:=o;simp only at ar so hd;subst ar so hd;rw[B45];have bR:∀lM,(⟨au,g,d,lM,os⟩:aZ).TypeIs 37 499:=290 (445 ai);have Ij:=anE;have DP:(n03:221).contains 968=09:=05;have hsz:075 968 Str+0x64≤bc:=by first|size_fits|rw[B46]
 rw[C82];have e9:=Yu.lookup;have f4:=Yu.bind 37;have fR:=am_list_getattr_none;rw[C81];repeat(any_goals(first|rw[A34]|exact bR _|((with_reducible show a9 _ _ (kZ (AA "list.__getattribute__") _ _) _ _ _);refine x9 Yu (bR _) am_entry_list_getattribute (PySem.F.args_list_getattribute_2 _ _) (meets_getattribute_miss_list a xs k dP 968 _ Ij DP hsz) ⟨ai,di,fun h' lM e sq=>?_⟩)|wp_step))
 rw[C80];show a9 _ _ (Ot _ _ _ _ _ _ _) _ _ _;unfold Ot;repeat(any_goals(first|rw[A34]|wp_step))
 all_goals first|exact h _ _ k40|(rw[A71];repeat(any_goals(first|rw[A34]|exact h _ _ k40|wp_step)))
theorem Ik:∀{ps:27}{us:53},594 992→us=ps.map da
 |[],us,r=>by rw[zz]at r;cases r;rfl
 |p::ps,us,r=>by
  rw[eN]at r
  cases r with|cons h t=>cases h;rw[eN,←Ik t]
theorem anG:rT 975=some (401 975):=05
section
variable{σ:bq}{s:aZ}
theorem aQ.anH(I:24)(k:300 (b∉ch) (346→219=25))(hf:i06 (pH X 07 H b)):l78:=by
 have pC:627 (H b=56→b∉ch):=p16 (r47 (hf b z).1);refine I.step (g':=d15) (d':=h82) (ch:=ch) (350 ⟨(940).2.2.2.1,(940).2.1,(940).2.2.2.2.1,(940).2.2.2.2.2⟩) (f61 (k b o ar e)) (f61 ⟨o.slots,k b o ar e⟩) (fun _ _ _ _ n=>n) (m79 o (k b o ar e)) (fun _ _ e=>e) (fun _ _ _ e=>e) (i05 ⟨#[],by rw[e];simp⟩) 764 n39 579
 ·rw[C60];exact⟨o,aR,c0,k _ o (16 ((hf _ z).2.1 rfl)) a8,r⟩
 ·refine j44 (I.bB b u e) (k c v ?_ q) g04 b78;rw[C59]
  ·rw[z];exact pC b u e
  ·exact pC c _ z
theorem aQ.Yv{T:ag}(I:24)(k:300 (b∉ch) (346→219=25))(hf:i06 (pH X 07 H b))(bR:18≤T)(new:fx 61 X.w (upd H T bC) h' T bC):f66 (upd H T bC):=by
 have aU:H T=00:=082 bR;have pC:627 (H b=56→b∉ch):=p16 (r47 (hf b z).1);refine I.step (g':=d15) (d':=h82) (ch:=ch) (350 ⟨(940).2.2.2.1,(940).2.1,(940).2.2.2.2.1,(940).2.2.2.2.2⟩) (f61 (k b o ar e)) (f61 ⟨o.slots,k b o ar e⟩) (fun b o _ e n=>?_) (m79 o (k b o ar e)) (p14 ?_) (fun b o u e=>?_) (i05 (328 #[])) 764 n39 579
 ·rw[aE (fk (jN 105 bR))];exact n
 ·rw[117 aU];exact e
 ·rw[117 aU];exact e
 ·rw[117 aU,e];simp
 ·rw[C60];exact⟨o,aR,c0,k _ o (16 ((hf _ z).2.1 rfl)) a8,r⟩
 ·by_cases aa:b=T
  ·subst aa;rw[aI]at e;cases e;exact new
  ·rw[aE aa]at e;refine j44 (I.bB b u e) (k c v ?_ q) (l41 (d55 q aU)) (l40 (d55 q aU));rw[C59]
   ·rw[z];exact pC b u e
   ·exact pC c _ z
theorem aQ.lock{u:dz}(I:24)(h:H d=56)(hJ:vo 56):∃cQ,aQ X 07 σ (upd H d (.eT cQ u)) s:=by
 have x:=I.bB d u h;have ex:∃cQ,393 d cQ:=by cases u with|lst xs=>rw[C45];rw[A55]|e0 kvs=>rw[B22];exact⟨o,e⟩|gf kvs=>rw[B22];exact⟨o,e⟩|set S n=>rw[C44];exact⟨o,e⟩|ins C dx bl=>rw[C43];rw[A55]|ext fQ=>rw[D45];rw[A55]|_=>exact gI hJ
 obtain⟨cQ,e⟩:=ex;have new:fx 61 X.w (upd H d (.eT cQ u)) 28 d (.eT cQ u):=by
  rw[A03 e (x.lE (fun b v _ q=>q) (fun b q=>?_) (p15 ?_))]
  ·rw[170 r46];exact q
  ·rw[170 r46];exact q
 exact⟨cQ,I.write (x:=d) (e:=d) (t':=233) (h':=28) (by rw[h];exact hJ) 253 (fun b v _ q=>q) ⟨cQ,e⟩ new⟩
theorem aQ.Il{u:dz}(I:24)(h:H d=56)(hJ:vo 56):∀dr jT,X.xH d≠009 dr jT:=fun dr jT e=>by have q:=I.base.nx d dr jT e;rw[h]at q;cases q;exact hJ
theorem aQ.unlock{cQ:Obj}{u:dz}(I:24)(h:H d=009 cQ u)(aU:∀dr jT,X.xH d≠009 dr jT):aQ X 07 σ (upd H d u) s:=by
 have AB:374 (H b) ((∀dr jT,o≠.eT dr jT)→b≠d):=fun b o e d9 z=>by rw[z,h]at e;cases e;exact d9 _ _ rfl
 have neN:∀b,H b=00→b≠d:=fun b e z=>by rw[z,h]at e;cases e
 refine⟨I.ok,I.os,579,⟨I.base.keep,I.base.slot,fun b o e n ai=>?_,I.base.there,p14 ?_,fun b o x e=>?_,i05 ?_⟩,093,d19,?_,n45,263,k21,b54⟩
 ·rw[aE (neN b (a31 b e n ai))];exact a31 b e n ai
 ·have q:=I.base.pA b xs e;rw[aE (AB b _ q d41)];exact q
 ·have q:=I.base.nx b o x e;rw[170 (by rw[z]at e;exact aU _ _ e)];exact q
 ·obtain⟨m,q⟩:=I.base.pB b ps e;exact⟨m,b70 (AB b _ q d41)⟩
 ·rw[aE (neN _ 741)];exact I.free
 ·rw[aE (neN c (I.iS x c e))];exact I.iS x c e
 ·obtain⟨e,n,r⟩:=I.pin p au;exact⟨e,m41 (neN _ n),r⟩
 ·by_cases aa:b=d
  ·rw[aa,aI]at e;cases e;rw[aa];obtain⟨_,x⟩:=613 d h;exact x.lE (p13 q) (l41 (b70 (AB c _ q d41))) (l40 (b70 (AB c _ q d41)))
  ·rw[aE aa]at e;exact(I.bB b o e).lE (p13 q) (l41 (b70 (AB c _ q d41))) (l40 (b70 (AB c _ q d41)))
end
def anI(t:gH):gH:=474 (∃d u,H d=56∧vo 56∧∀cQ,t ⟨d17 (H' d=009 cQ u∧D.cz cb (upd H' d u)),h20 (H' d=009 cQ u∧D.l7 v (upd H' d u)),d17 (H' d=009 cQ u∧D.eO cb (upd H' d u)),d17 (H' d=009 cQ u∧D.ek cb (upd H' d u))⟩ σ (upd H d (.eT cQ u)))
theorem Yw{st:bK}{t:gH}(h:iV X st t):iV X st (anI t):=by
 intro pins s σ H D I hw;obtain⟨d,u,hd,hJ,hw⟩:=hw;obtain⟨cQ,aX⟩:=I.lock hd hJ;refine bY (h 07 s σ _ _ aX (hw cQ)) g52
 cases f with|next=>rw[C58];exact⟨cb,_,j00 e hd hJ,q⟩|brk=>rw[C58];exact⟨cb,_,j00 e hd hJ,q⟩|cont=>rw[C58];exact⟨cb,_,j00 e hd hJ,q⟩|ret v=>obtain⟨x,cb,H',b5,r,e,q⟩:=q;exact⟨x,cb,_,j00 e hd hJ,r,q⟩
theorem Im{σ:bq}{s:aZ}{R:652}{fu:ix}{tk:Nat}(I:24)(o:Obj)(T:Turn 61 X.w X.K eD fu [18] 18 h3)(st:h3 0 (581 o))(q:R fu H):Dk X 07 σ eD R 277 (p12 (581 o)):=by refine⟨18,[18],h3,fu,H,rfl,I.kept (fun b bC e=>130),T,st,773,q⟩;have e:b=18:=120;subst e;exact I.xS 64 683
def DQ(lo c:Int)(n:Nat):ix:=g54 (a05 (i<n)) (H'=H∧x=.int (lo+(i:Nat)*c)) (a05 (n≤i))
theorem anJ(it:ag)(lo c:Int)(n:Nat):Turn P w K eD (DQ lo c n) [it] it (619 (M3 h it (lo+(i:Nat)*c) (44-(i:Nat)) c))where
 mem:=19
 obj:=d26 (r45 (b=it) 120 ⟨_,st,l36 l39⟩)
 keep:=f53 (k it 19 _ st)
 item:=by rw[A43];rw[A42];rw[A51];have W:=Walks.range (prog:=61) (w:=X.w) 408 it lo c n;refine W.item i s _ _ a4 st m49;obtain⟨t,rfl⟩:=a3;have aX:l74:=I.turned (536 (b0 b o 120 e)) f0 f1 e9 f4 fR;rw[A15 (z7 (s:=620) (n:=r44) kx rfl rfl 14 ⟨.int (lo+(i:Nat)*c),H,aX,612 t,149,kx,e84⟩)]
 done:=by rw[A43];rw[A42];rw[A51];exact akV 408 st (by have:n≤i:=a4;lia) (a33 (I.turned (t':=233) (536 (eG b o aa e)) f0 f1 e9 f4 fR))
 self:=i04 (akW st h)
def Yx(i j c:Int)(n:Nat):04:=c≠0∧c.natAbs<p11∧Ou i j c=01∧z8 i j c=n
inductive Yy(R:652)(vs:08)(H1:av):04|mk:∀(i j c:Int)(n:Nat),vs=[260,858,.int c]→Yx i j c n→R (DQ i c n) H1→Yy R vs H1
def anK(bW:fG):TI:=a04 (bW σ H (728 (Yy R vs H1)))
theorem anL{a b c:dn}{bW:fG}{p:Pos}(a4:h1 X 509)(hm:n24=00)(aN:hZ X [a,b,c] bW)(aL:406 [a,b,c]=013 a::406 [b,c]:=by rfl)(eH:f95 (406 [b,c]):=by rfl):lG X eD (.Call (.Name 509 p) [a,b,c] [] pos) (anK bW):=by
 rw[A83];rw[B00 (qD I a4 hm xU (tJ (988 (aN pos 07 s σ H _ I h) ?_) aL eH))];obtain⟨i,j,k,n,e,⟨anM,fA,kd,iY⟩,q⟩:=bg;subst e
 cases bU with
  |cons r eV=>
   cases eV with
    |cons dF eV=>
     cases eV with
      |cons anN eV=>
       cases eV;rw[A53];rw[D44];obtain⟨anO,rfl⟩:=anN;refine call_range_3 anM ?_ (.inl (ald fA));refine wpAny_pyIter_range (akZ ..) kd ?_;have b5:aQ X 07 σ H1 (l88 (824 509 #[705,.int j t',.int k anO])):=d48 (902 _ e);refine Im (tk:=b55) b5 _ (anJ _ i k n) ?_ q;have aK:i+52 0*k=i:=19;have aG:44-52 0=z8 i j k:=by rw[iY];simp
       show M3 _ _ (i+52 0*k) (44-52 0) k;rw[aK,aG];exact 111
def vS(x:Str):ix:=⟨a05 (i<570),p04 (H'=H∧∃c,x.cps[i]?=73∧v=a85),a05 (570≤i)⟩
theorem Yz(it:ag)(x:Str)(t:Tok)(ty:String)(vL:ty=r42∨ty=r43):Turn P w K eD (vS x) [it] it (619 (h.IsStrIter it ty x t i))where
 mem:=19
 obj:=d26 (by have e:b=it:=120;subst e;obtain⟨o,e,c,d⟩:=st;exact⟨o,e,l77⟩)
 keep:=f53 (let⟨o,a8,r⟩:=st;⟨o,k it 19 o a8,r⟩)
 item:=by
  rw[A43];rw[A42];rw[A51];have W:Walks 61 X.w X.A it [it] [it] 570 (SignAt x) (619 (h.IsStrIter it ty x t i)):=by
   rw[B87]
   ·rw[e];exact Walks.strAscii 408 it x t
   ·rw[e];exact Walks.strWide 408 it x t
  have cy:[892,380,p10,p09,p08,p07,p06].contains ty=09:=by
   rw[B87]
   ·rw[e];decide
   ·rw[e];decide
  refine W.item i s _ _ a4 st m49;obtain⟨c,u,anP,rfl⟩:=a3;have aX:l74:=I.turned (536 (b0 b o 120 e)) f0 f1 e9 f4 fR;obtain⟨ye,e,anQ,dd⟩:=id kx;rw[A15 (z7 (s:=620) e anQ dd cy ⟨a85,H,aX,612 u,⟨rfl,c,anP,rfl⟩,kx,e84⟩)]
 done:=by
  rw[A43];rw[A42];rw[A51];have ai:x.cps[i]?=00:=YA a4;rw[B87]
  ·rw[A90];exact wpAny_pyNext_ascii_end 408 st ai (a33 (I.turned (t':=233) (536 (eG b o aa e)) f0 f1 e9 f4 fR))
  ·rw[A90];exact wpAny_pyNext_wide_end 408 st ai (a33 (I.turned (t':=233) (536 (eG b o aa e)) f0 f1 e9 f4 fR))
 self:=i04 (by
  rw[B87]
  ·rw[A90];exact wpAny_pyIter_striter_ascii st h
  ·rw[A90];exact wpAny_pyIter_striter_wide st h)
inductive YB(R:652)(v:ae)(H1:av):04|mk:∀x,v=765→R (vS x) H1→YB R v H1
def anR(c7:ct):TI:=a04 (c7 σ H (fun v H1=>YB R v H1))
theorem Io(he:529):lG X eD e (anR c7):=by
 rw[A83];refine bY (he 07 s σ H _ I h) (fun v s1⟨y,H1,aX,bU,x,ex,q⟩=>?_);rw[A25];rw[B86];cases aN:x.cps.all (·<0x80)
 ·exact wpAny_pyIter_wide aN (Im (tk:=b55) aX _ (Yz _ x t r43 e69) b15 q)
 ·exact wpAny_pyIter_ascii aN (Im (tk:=b55) aX _ (Yz _ x t r42 253) b15 q)
section
variable{s:aZ}
theorem anS(hd:(d==l5)=09)(a8:586 d)(ar:o.ExactDict)(so:a70)(g6:Q 277 (621 (581 (513 l37 (503 #[602,.int 0 0,.int d03 0,.int c0 0]))))):a9 232 A (vy 602) Q E s:=by have bR:s.TypeIs 602 535:=⟨o,a8,ar.1⟩;refine wpAny_pyIter_slot bR r41 (DR r41 bR F.entry_dict_iter ?_ (F.args_dict_iter_1 _));unfold Builtin.«dict.__iter__»;rw[A28];unfold Builtin.Dict.dictSlotNone;rw[A00 (YC bR ?_)];show a9 _ _ (pure (da d)) _ _ s;refine 345;show a9 _ _ (anT d>>=_) _ _ s;unfold anT;rw[23 (by rw[hd];exact hB)];rw[B01];rw[A00 (YD a8 so ?_)];rw[A00 (YE a8 so ?_)];rw[A00 (H8 (cx ⟨_,rfl,l37,_,445 111,F.slot_dict_keyiterator_next.lookup,?_⟩))];simpa[hM]using g6
theorem anU{cQ:Obj}{e7:Ip}{Q:e86}(hit:s.heap.IsKeyIter it d i n c0)(sr:393 d cQ)(vT:cQ.data=g14)(hsz:d03=n)(ai:aR[i]?=some e7)(g6:∀h',h'.IsKeyIter it d (i+1) n c0→ox it 28 h'→Q (some e7.key) 537):a9 232 A (nB 760) Q E s:=by
 obtain⟨o,a8,ar,hd⟩:=id hit;unfold nB;rw[A00 (j38 j12 981 l38 (DR l38 981 r39 ?_ (r38 _)))];rw[B01];rw[A28];rw[A28];first|rw[A00 j80]|rw[A00 j88]
 rw[A00 (wpAny_fieldsOf a8 hd ?_)];have Oz:anV l37=09:=14;rw[D43];show a9 _ _ (616 (da d==fh)) _ _ s;rw[23 (show¬((da d==fh)=01)from hB)];rw[B01];rw[A00 (YD sr vT ?_)];rw[23 r37];rw[B01];rw[A00 (YE sr vT ?_)];rw[142];refine 345;obtain⟨yf,anW⟩:=OA.mp ai;simp only[88 (¬(249<0)) 03,if_false,kA,YF yf];rw[A28];first|rw[A00 j80]|rw[A00 j88]
 rw[A00 (anY 981 ?_)];show a9 _ _ (setField 760 1 (hM (249+1))>>=_) _ _ s;rw[A00 (DS a8 hd 19 ?_)];have Iq:(982 it (j1 r40)).IsKeyIter it d (i+1) n c0:=⟨_,x7 _ a8 (Ir (DT hd _)),38 (anZ ..) ar,by rw[DT hd];simp[hM]⟩;rw[A99 ?_];rw[A00 (anY (s:=621 (982 it (j1 r40))) Iq.typeIs ?_)];show a9 _ _ (pure aR[i].key) _ _ _;rw[anW];exact c49 (123 (cx (g6 _ Iq (an0 ..))))
theorem an1{cQ:Obj}{Q:e86}(dh:595)(hit:s.heap.IsKeyIter it d i n c0)(sr:393 d cQ)(vT:cQ.data=g14)(hsz:d03=n)(qX:n≤i)(g6:∀h',Heap.ExtBut it 28 h'→Q 00 537):a9 232 A (nB 760) Q E s:=by
 obtain⟨o,a8,ar,hd⟩:=id hit;unfold nB;rw[A00 (j38 j12 981 l38 (DR l38 981 r39 ?_ (r38 _)))];rw[B01];rw[A28];rw[A28];first|rw[A00 j80]|rw[A00 j88]
 rw[A00 (wpAny_fieldsOf a8 hd ?_)];have Oz:anV l37=09:=14;rw[D43];show a9 _ _ (616 (da d==fh)) _ _ s;rw[23 (show¬((da d==fh)=01)from hB)];rw[B01];rw[A00 (YD sr vT ?_)];rw[23 r37];rw[B01];rw[A00 (YE sr vT ?_)];rw[142];refine 345;have an2:d03≤i:=by rw[hsz];exact qX
 simp only[88 (¬(249<0)) 03,if_false,kA,YA an2];rw[A28];first|rw[A00 j80]|rw[A00 j88]
 show a9 _ _ (setField 760 0 87>>=_) _ _ s;rw[A00 (DS a8 hd 19 ?_)];show a9 _ _ (newExc i46 []>>=_) _ _ _;rw[A28];simp only[newExc,newTuple];rw[A00 (H8 ?_ (by size_fits))];refine a7 (m:=firstArgMember _ _) (wpAny_of_eq (a:=fh) (by first|rfl|(simp only[firstArgMember];rfl)) ?_);refine H8 ?_ (by size_fits);simp only[raiseNew];rw[A00 (wpAny_handled ?_)];rw[show A.in1.handled=00 from dh];rw[A00 (cx (wpAny_throw ?_))];rw[A00 (YG (T:=n73) (b:=01) (445 111) p85 ?_)];exact cx (g6 _ (((an0 ..).extBut.push _).push _))
end
theorem an3{kvs:523}{vs:a89}(h:603):∀{i:Nat}{k:e8}{v:ae},kvs[i]?=some (k,v)→∃u,vs[i]?=some (k,u)∧465:=by
 unfold gE at h
 induction h with
  |nil=>intro i k v e;simp at e
  |@cons a b MS l₂ r t ih=>
   intro i k v e
   cases i with|zero=>simp only[an4,Option.some.injEq]at e;subst e;refine⟨b.2,?_,r.2⟩;simp only[an4];exact d73 (aiV r.1.symm rfl)|succ j=>simp only[List.getElem?_cons_succ]at e⊢;exact ih e
section
variable{σ:bq}{s:aZ}
theorem aQ.OB{kvs:410}(I:24)(h:H d=798 899):(d==l5)=09∧586 d∧p05∧∃(aR:723 Ip)(c0:Nat)(vs:c79),a70∧d03=378∧603∧s.heap.DictAt (fg 61 X.w) d vs c0:=by obtain⟨hd,z,aL,vs,dU,dr,aR,c0,a8,ai,iB,r⟩:=613 d h;rw[hd]at a8;cases a8;refine⟨aL,hd,ai,aR,c0,vs,iB,?_,dU,o,aR,hd,ai,iB,r⟩;have eY:=r.2.1.length;have dW:e31:=rS dU;rw[Dc]at eY;lia
end
def DU(d:ag)(o:Obj)(kvs:410):ix:=g54 (987 (H d=798 899∧i<378)) (H'=H∧∃k,kvs[i]?=some (k,x)) (987 (H d=798 899∧378≤i))
theorem YH{vr:723 Ip}{vt:Nat}(h:a70)(h':c07 (.dict vr vt)):vr=aR∧vt=c0:=by rw[h]at h';cases h';exact 149
theorem an5{kvs:410}(it:ag)(sr:a70):Turn P w K eD (DU d o kvs) [it] it (619 (h.IsValIter it d i 378 c0))where
 mem:=19
 obj:=d26 (by have e:b=it:=120;subst e;obtain⟨ye,e,c,dd⟩:=st;exact⟨ye,e,l36 (by rw[dd]at z;cases z)⟩)
 keep:=m00 (fun ye e=>k it 19 ye e)
 item:=by rw[A43];rw[A42];obtain⟨hd,hi⟩:=a4;rw[A51];rw[D42 (I.OB hd)];rw[B54 (YH sr iB)];obtain⟨⟨k,v⟩,YI⟩:∃p,kvs[i]?=some p:=⟨kvs[i],122⟩;rw[B49 (an3 dU YI)];have ax:e31:=rS dU;rw[ax]at st;refine wpAny_pyNext_values_item st hm bp j61;have aX:f71:=I.turned (t':=233) (l07 (385 b aa e)) f0 f1 e9 f4 fR;obtain⟨ye,e,c,dd⟩:=id kx;refine⟨u,rfl,z7 (s:=537) e c dd 14 ⟨v,H,aX,gR,⟨rfl,k,YI⟩,?_,e84⟩⟩;show h'.IsValIter it d (i+1) 378 _;rw[ax];exact kx
 done:=by rw[A43];rw[A42];obtain⟨hd,hi⟩:=a4;rw[A51];rw[D42 (I.OB hd)];rw[B54 (YH sr iB)];have ax:e31:=rS dU;rw[ax]at st;exact wpAny_pyNext_values_end 408 st hm 140 (a33 (I.turned (t':=233) (l07 (eG b bC aa e)) f0 f1 e9 f4 fR))
 self:=i04 (wpAny_pyIter_valiter st h)
inductive YJ(R:652)(x:ae)(H1:av):04|mk:∀d o kvs,x=602→H1 d=798 899→R (DU d o kvs) H1→YJ R x H1
def an6(hj:ct):TI:=a04 (hj σ H (291 (YJ R x H1)))
theorem an7(he:bF X e hj)(qO:tL e "values" 55 688=688:=by rfl)(qP:(i55 lK.line)=01:=by rfl):lG X eD (.Call (b92 "values" apos) [] [] lK) (an6 hj):=by
 rw[A83];refine wpAny_Call_method (T:=535) (id:="dict.values") qO rfl qP F.plainAttrs_dict r36 F.type_dict_values (bY (he 07 s σ H _ I h) (fun u s1⟨x,H1,aX,bw,d,o,kvs,ex,hd,q⟩=>?_));rw[A25];obtain rfl:u=da d:=bw;obtain⟨aL,vU,ai,aR,c0,vs,iB,hsz,dU,hm⟩:=aX.OB hd;have ax:e31:=rS dU;rw[A20 r35 hm.dictOf.mapOf.noDict];have b5:aQ X 07 σ H1 (l88 (824 "dict_values" #[602])):=d48 (g03 _ q);have fin:a9 47 X.A (vy (.ref 227)) (Dk X 07 σ eD R) 68 (l88 (824 "dict_values" #[602])):=by refine wpAny_pyIter_values (d:=d) (knd:=fg 61 X.w) b15 (hm.push _) (Im (tk:=b55) b5 _ (an5 _ iB) ⟨_,111,rfl,?_⟩ q);rw[ax]<;>rfl
 show a9 _ _ (Af lK (399 "dict.values") [602] [] []) _ 68 s1;exact method_meetsIn r36 F.entry_dict_values rfl (PySem.evalArgs_none ⟨rfl,r35,F.args_dict_values_1 _,_,meets_dict_values (fg 61 X.w) d aL,⟨vs,hm.dictOf⟩,fin⟩)
def DV(K:bo)(a:ag):ix:=⟨987 (∃(xs:08)(x:ae),463∧441=43),p04 (∃T x,v=c51∧H T=00∧H'=388 H T [309,x]∧∀xs,463→441=43),987 (∃xs:08,463∧57≤i)⟩
theorem an8(a e it:ag):Turn P w K (d95 b0 te) (DV K a) [e,it] e (619 ((∃old,IsEnum h e it (52 i) old)∧j46 it a∧e≠it))where
 mem:=19
 obj:=d26 (by
  obtain⟨⟨old,he⟩,⟨o,a8,ar,hd⟩,_⟩:=st;have bZ:b=e∨b=it:=120;rw[C54]
  ·rw[z];exact⟨_,he,i49⟩
  ·rw[z];exact⟨o,a8,l35 (by rw[hd]at q;cases q)⟩)
 keep:=f53 (let⟨⟨old,he⟩,hi,d9⟩:=st;⟨⟨old,k e 19 _ he⟩,hi.at (b60 (k it 19 o q)),d9⟩)
 item:=by
  rw[A43];rw[A42];rw[D41];rw[C57];rw[B60 aw];rw[B37 ai];have YK:e<18:=dm he;have It:it<18:=by obtain⟨_,q,_⟩:=hit;exact dm q
  refine wpAny_pyNext_enum_item he hit d25 (x:=u) h76 d9 (fun h' a8 Iq bR hsz aS=>?_);refine 123 (wpAny_letOwnedTupleGo_enum (s:=r34 (233+1)) a8 (fun vP NZ eX=>?_));have iZ:vP.get? 18=some (c01 #[g39 i,u]):=385 _ (lF YK) bR;have new:fx 61 X.w (388 H 18 [309,x]) vP 18 (.tup [309,x]):=⟨680 (2≤bc),[g39 i,u],752 rfl (386 gR),⟨_,iZ,rfl,_,rfl⟩⟩;have aX:aQ X 07 σ (388 H 18 [309,x]) {s with heap:=vP,toks:=233+1}:=I.Yv (ch:=[e,it]) (fun b bC aa q=>385 b m84 (aS b bC m84 m84 q)) hf 64 new;refine⟨277,_,aX,rfl,⟨_,x,rfl,683,rfl,l94 (I.Hl aC aw)⟩,⟨328 u,Iq.at (b60 (385 it (jq d9) q)),d9⟩,773⟩
  ·have aK:52 (i+1)=249+1:=03;rw[aK];exact NZ
  ·have oc:b00:=by
    have bZ:b=e∨b=it:=120;rw[C54]
    ·rw[z];exact YK
    ·rw[z];exact It
   rw[aE (fk oc)];exact(940).1
 done:=by rw[A43];rw[A42];rw[D41];rw[C56];rw[B60 aw];rw[A51];rw[C55];exact wpAny_pyNext_enum_end 408 he hit d25 b46 (a33 (I.turned (t':=233) (fun b o aa q=>eG b o aa q) f0 f1 e9 f4 fR))
 self:=i04 (let⟨⟨_,he⟩,_⟩:=st;wpAny_pyIter_enum he h)
inductive YL(K:bo)(R:652)(vs:08)(H1:av):04|mk:∀a xs,vs=254→aJ K H1 a xs→R (DV K a) H1→YL K R vs H1
def YM(K:bo)(bW:fG):TI:=a04 (bW σ H (728 (YL K R vs H1)))
theorem an9{bW:fG}{p:Pos}(a4:h1 X 892)(hm:X.ah 892=00)(aN:hZ X [e] bW)(aL:406 [e]=[391]:=by rfl):lG X (d95 b0 te) (.Call (.Name 892 p) [e] [] pos) (YM X.K bW):=by
 rw[A83];rw[B00 (qD I a4 hm boot_enumerate (tJ (988 (aN pos 07 s σ H _ I h) ?_) aL rfl))];obtain⟨a,xs,ex,aw,q⟩:=bg;rw[A25]
 cases bU with
  |cons r eV=>
   cases eV;cases r;obtain⟨a0,cV,ky,hz⟩:=j66;refine call_enumerate_list ky.isList (fun h' he hit hsz aS=>wpAny_pyIter_enum he ?_);have b5:aQ X 07 σ H1 l01:=d48 aS;refine⟨227+1,[227+1,227],_,_,H1,rfl,b5,an8 a (227+1) 227,⟨⟨87,he⟩,hit,Nat.succ_ne_self _⟩,773,q⟩;have bZ:b=227+1∨b=227:=120;have hle:227≤b:=by
    rw[C54]
    ·rw[z];exact Iu _ _
    ·rw[z];exact 64
   exact aX.xS hle (h32 hle)
theorem YN:rT 380=some 002:=05
def DW(K:bo)(a b:ag):ix:=⟨987 (∃(xs ys:08)(x y:ae),463∧aJ K H b ys∧441=43∧ys[i]?=270),p04 (∃T x y,v=c51∧H T=00∧H'=388 H T [x,y]∧(∀xs,463→441=43)∧∀ys,aJ K H b ys→ys[i]?=270),987 (∃xs ys:08,463∧aJ K H b ys∧(57≤i∨674≤i))⟩
theorem aoa{z TI TO:ag}(D:ZipApart z TI TO i1 i2 a b):Turn P w K (d95 b0 te) (DW K a b) [z,TI,TO,i1,i2] z (619 (IsZip h z TI TO 87∧j2 h TI 917 a47∧(d01 (j2 h TO x y))∧j46 i1 a∧j46 i2 b))where
 mem:=19
 obj:=fun i h st c ar=>by
  obtain⟨hz,gX,⟨x,y,kD⟩,⟨o1,aK,_,jW⟩,⟨o2,aG,_,iC⟩⟩:=st;have bZ:c=z∨c=TI∨c=TO∨c=i1∨c=i2:=by simpa using ar
  rw[D40]
  ·rw[q];exact⟨_,hz,i49⟩
  ·rw[q];exact⟨_,gX,i49⟩
  ·rw[q];exact⟨_,kD,i49⟩
  ·rw[q];exact⟨o1,aK,l35 (by rw[jW]at q;cases q)⟩
  ·rw[q];exact⟨o2,aG,l35 (by rw[iC]at q;cases q)⟩
 keep:=f53 (by obtain⟨hz,gX,⟨x,y,kD⟩,af,ak⟩:=st;exact⟨k z 19 _ hz,k TI 19 _ gX,⟨x,y,k TO 19 _ kD⟩,af.at (b60 (k i1 19 o q)),ak.at (b60 (k i2 19 o q))⟩)
 item:=by
  rw[A43];rw[A42];rw[D39];obtain⟨xs,ys,x,y,AD,AE,ai,aC⟩:=a4;obtain⟨a0,cV,p,_⟩:=677 AD;rw[C53 (677 AE)];rw[B37 ai];obtain⟨jP,kT,N2⟩:=Iv.get aC;have OC:z<18:=dm hz;refine wpAny_pyNext_zip_item D hz gX kD af ak d25 p03 (x:=u) (y:=jP) h76 (by simpa using kT) (fun h' j9 aoc oH qY bR hsz aS=>?_);refine 123 (wpAny_letOwnedTupleGo_zip (s:=537) j9 (fun vP aod eX=>?_));have iZ:vP.get? 18=some (c01 #[u,jP]):=385 _ (lF OC) bR;have new:fx 61 X.w (388 H 18 [x,y]) vP 18 (.tup [x,y]):=⟨680 (2≤bc),[u,jP],.cons gR (386 N2),⟨_,iZ,rfl,_,rfl⟩⟩;have aX:aQ X 07 σ (388 H 18 [x,y]) {s with heap:=vP}:=I.Yv (t':=233) (ch:=[z,TI,TO,i1,i2]) (fun c o aa q=>385 c 994 (aS c o 994 994 994 994 q)) hf 64 new;refine⟨277,_,aX,rfl,⟨_,x,y,rfl,683,rfl,h40 (by rw[I.Hl ax AD];exact ai),h40 (by rw[I.Hl ax AE];exact aC)⟩,⟨aod,?_,⟨u,jP,?_⟩,?_,?_⟩,fun c Iw=>?_⟩
  ·exact 385 _ D.TIz (aS _ _ D.TIz D.TITO D.TIi1 D.TIi2 gX)
  ·exact 385 _ D.TOz aoc
  ·exact oH.at (b60 (385 _ D.i1z q))
  ·exact qY.at (b60 (385 _ D.i2z q))
  ·have cM:c<18:=by
    have bZ:c=z∨c=TI∨c=TO∨c=i1∨c=i2:=r33;rw[D40]
    ·rw[q];exact OC
    ·rw[q];exact dm gX
    ·rw[q];exact dm kD
    ·rw[q];obtain⟨_,aK,_⟩:=af;exact dm aK
    ·rw[q];obtain⟨_,aG,_⟩:=ak;exact dm aG
   rw[aE (fk cM)];exact(hf c Iw).1
 done:=by
  rw[A43];rw[A42];rw[D39];obtain⟨xs,ys,AD,AE,aoe⟩:=a4;obtain⟨a0,cV,p,_⟩:=677 AD;rw[C53 (677 AE)];have eY:=cV.length;have dW:=Iv.length;have he:g53 i 00∨mc.toArray[i]?=00:=by
   rcases aoe with q|q
   ·rw[A17 b46]
   ·rw[A09 b46]
  exact wpAny_pyNext_zip_end 408 D hz gX kD af ak d25 p03 he (fun h' aS=>119 (I.anH (t':=233) (ch:=[z,TI,TO,i1,i2]) (fun c o aa q=>aS c o 994 994 994 994 q) hf))
 self:=i04 (wpAny_pyIter_zip st.1 h)
inductive YO(K:bo)(R:652)(vs:08)(H1:av):04|mk:∀a b xs ys,vs=349 281→aJ K H1 a xs→aJ K H1 b ys→R (DW K a b) H1→YO K R vs H1
def YQ(K:bo)(bW:fG):TI:=a04 (bW σ H (728 (YO K R vs H1)))
theorem aof{bW:fG}{p:Pos}(a4:h1 X 380)(hm:X.ah 380=00)(aN:hZ X [e,aG] bW)(aL:406 [e,aG]=391::e71:=by rfl)(eH:f95 e71:=by rfl):lG X (d95 b0 te) (e19 [e,aG]) (YQ X.K bW):=by
 rw[A83];rw[B00 (qD I a4 hm YN (tJ (988 (aN pos 07 s σ H _ I h) ?_) aL eH))];obtain⟨a,b,xs,ys,ex,AD,AE,q⟩:=bg;rw[A25]
 cases bU with
  |cons r eV=>
   cases eV with
    |cons dF eV=>
     cases eV;cases r;cases dF;obtain⟨a0,cV,fW,_⟩:=aX.list AD;rw[C53 (aX.list AE)];have oI:a<227:=fW.lt;have lN:b<227:=fD.lt;refine call_zip_2 fW.isList p03 (fun h' hz gX kD af ak hsz aS=>wpAny_pyIter_zip hz ?_);have b5:aQ X 07 σ H1 l01:=d48 aS;refine⟨227+4,[227+4,227+2,227+3,227,227+1],_,_,H1,rfl,b5,aoa (PySem.W.ktu_apart 227 a b oI lN),⟨hz,gX,⟨_,_,kD⟩,af,ak⟩,fun c Iw=>?_,q⟩;have bZ:c=227+4∨c=227+2∨c=227+3∨c=227∨c=227+1:=r33;have hle:227≤c:=by
      rcases bZ with z|z|z|z|z
      ·rw[z];exact Iu _ _
      ·rw[z];exact Iu _ _
      ·rw[z];exact Iu _ _
      ·rw[z];exact 64
      ·rw[z];exact Iu _ _
     exact aX.xS hle (h32 hle)
end
section
variable{A:rU}{B:Prop}{I a b c d f p t:ag}{E Q:aH→aZ→Prop}{F:List (List Nat)}{K:bo}{N ps:List Str}{P:f3}{apos pos:Pos}{S:ag→Prop}{a0 us vs:List aH}{aG e:dn}{bx doc ek ig u:aH}{o:Obj}{ah:Str→Option aH}{pins:List (ag×Obj)}{an cQ func:Option ag}{i n t':Nat}{base h:dk}{g l:List Nat}{r:List Int}{dP k7:Array (Option aH)}{e8:Type}{fd:k6}{items:Array aH}{name qual x:Str}{outer:List Env}{pl:Sem Bool}{q:Search}{s:dt}{v:Word}{w:ff}{xs ys:List ae}{y:ae}{H H' H1 aB:av}{X:dT}{c7 to ty:ct}{sp:mM}
namespace Bits
end Bits
namespace TL
open PySem PySem.Builtin PySem.Builtin.Str PySem.StrLaws
abbrev c5(x:Str):06:=x.cps.toList
theorem AF{y:Str}(h:c5 x=c5 y):x=y:=Str.ext' (Array.toList_inj.mp h)
theorem OD(x y:Str):c5 (x++y)=c5 x++c5 y:=by show(x++y).cps.toList=_;rw[Str.cps_append,Array.toList_append]
theorem aog(s:String):c5 (iA s)=s.toList.map Char.toNat:=PyProof.Rows.signs_ofString s
def AG(S:06):30→06|[]=>[]|[p]=>p|p::q::r=>p++(S++AG S (q::r))
theorem OE(y:Str):∀parts:221,c5 (Str.join y parts)=AG (c5 y) (parts.map c5)|[]=>rfl|[_]=>rfl|x::z::r=>by show c5 (x++y++Str.join y (z::r))=c5 x++(c5 y++AG (c5 y) ((z::r).map c5));rw[OD,OD,OE y (z::r),jo]
theorem join_eq(y:Str)(parts:221):DX y parts=Str.join y parts:=glued_eq_join y parts
end TL
theorem YR{ys:221}(h:594 b72):StrsAre us ys:=cc.strs h
section
variable{σ:bq}{s:aZ}{Q:aW}
end
theorem aoh:qN X "str.join" (d24 (∃a p,∃ys:221,x=056∧xs=717∧(aJ X.K H p b72∨dX X.K H p b72)∧(m16).sum+674*733≤l32∧Q (.str (DX a ys)) H)):=by
 rw[C51];obtain⟨a,p,ys,rfl,rfl,au,hz,h⟩:=h;rw[A12]
 cases rs with
  |cons bU rs=>
   cases rs;cases bU;rcases au with au|au
   ·obtain⟨a0,r,⟨o,n,a8,ar,_,hd⟩,_⟩:=677 au;exact PyProof.Rows.join_list (items:=275) ⟨o,a8,ar,n,hd⟩ (by rw[aoi];exact YR r) hz (fun t' k=>⟨.str _,H,I.tok k,612 t',h⟩)
   ·obtain⟨a0,r,bk,_⟩:=b26 au;exact PyProof.Rows.join_tuple (items:=275) bk (by rw[aoi];exact YR r) hz (fun t' k=>⟨.str _,H,I.tok k,612 t',h⟩)
theorem OF{id:String}{g:Str→Str→ae}(rule:∀(a b:Str)(t u:Tok)(s:aZ)(Q:489),(∀(v:aH)(k:Nat),RelV (g a b) v→Q v {s with toks:=k})→a9 47 X.A (kZ 995 [.str a t,.str b u]) Q 68 s):qN X id (d24 (∃a b,x=056∧xs=[.str b]∧Q (g a b) H)):=by
 rw[C51];obtain⟨a,b,rfl,rfl,h⟩:=h;rw[A12]
 cases rs with|cons bU rs=>cases rs;obtain⟨u,rfl⟩:=bU;exact rule a b t u s _ (fun v k r=>⟨g a b,H,I.tok k,r,h⟩)
theorem aoj:qN X r26 (d24 (∃a b,x=056∧xs=[.str b]∧446 (DY a b))):=m04 (578 (.bN (DY a b))) (PySem.SC.startswith (h _ 233 rfl))
theorem aok:qN X "str.find" (d24 (∃a b,x=056∧xs=[.str b]∧662 (OG a b))):=m04 (578 (.int (OG a b))) (PySem.SC.find (h _ (233+1) 282))
theorem YS:qN X "str.count" (d24 (∃a b,x=056∧xs=[.str b]∧662 (YT a b))):=m04 (578 (.int (YT a b))) (PySem.SC.count (h _ (233+1) 282))
section
variable{o:dn}
def OH(r:ae→927)(to c7:ct):ct:=262 (to σ H (291 ((∃a,x=056)∧c7 σ H1 (890 (r x [y] aB Q)))))
theorem DZ{id:String}{r:ae→927}(slot:Slot 091 234 id)(ty:typeOf 995=pure l84)(rule:qN X id r)(a8:c76)(he:529)(aL:406 [e]=[391]:=by rfl)(qO:tL o 234 55 931=931:=by rfl)(qP:(n07)=01:=by rfl):bF X (.Call (480 234 apos) [e] [] pos) (OH r to c7):=by rw[A13];refine PySem.Call_method1 qO aL qP (874 (a8 07 s σ H _ I h));obtain⟨⟨a,rfl⟩,bg⟩:=bg;rw[B44 (_root_.id bU)];refine⟨091,_,F.plainAttrs_str,slot,ty,NK _ _ _,(m05),amh rfl (ami (Nx ?_))⟩;exact f65 (he 07 s1 σ H1 _ aX bg) (Nw (rule 07 s2 σ aB _ [y] _ [u] Q b5 bU (386 cT) cf))
theorem aol(a8:c76)(he:529)(aL:406 [e]=[391]:=by rfl)(qO:tL o "join" 55 931=931:=by rfl)(qP:(n07)=01:=by rfl):bF X (.Call (480 "join" apos) [e] [] pos) (OH (d24 (∃a p,∃ys:221,x=056∧xs=717∧(aJ X.K H p b72∨dX X.K H p b72)∧(m16).sum+674*733≤l32∧Q (.str (DX a ys)) H)) to c7):=DZ F.slot_str_join F.type_str_join aoh a8 he aL qO qP
end
inductive YU(x:ae)(y:ae)(H:av)(Q:aW):04|mk:∀(c:Nat)(z:Str),x=a85→y=930→446 (! a44 c z.cps.toList)→YU x y H Q
theorem aom:k00 YU:=by rw[A45];obtain⟨c,z,rfl,rfl,q⟩:=h;rw[A12];rw[A19];exact PyProof.Rows.notIn_str (gJ I q (109 Bool.not (567 (PySem.StrLaws.found_one z c))))
theorem IsPart.raw{v:aH}{o:307}(p:IsPart v o):∃l:241 (Int×Tok),v=partValue l∧f91=o:=by cases p with|none=>rw[A44 00 rfl]|int i t=>rw[A44 (614 i) rfl]
def D0(n d:Nat):307→Int|none=>15 d|some i=>max 0 (min (13 (i<0) (i+44) i) 44)
theorem YV(n d:Nat)(o:307):D0 n d o=52 (049 d o):=by
 cases o with
  |none=>rfl
  |some v=>
   show max 413 (min (13 (v<0) (v+44) v) 44)=52 (13 (v<0) (271 (v+44)) (min v.toNat n));by_cases a3:v<0
   ·simp only[21 a3];lia
   ·simp only[23 a3];lia
theorem aon(a b:307)(n:Nat):vV a b 1 n=AH (D0 n 0 a) (D0 n n b) 1:=by have af:(15 1>0)=625:=19;cases a<;>cases b<;>first|rfl|(simp only[vV,D0,af,if_true];rfl)|simp[vV,D0]
theorem aoo(a b:307)(n:Nat):vV a b 1 n=407 (049 n b-049 0 a) (450 (049 0 a+k)):=by
 rw[aon,YV,YV];generalize 049 0 a=p;generalize 049 n b=q;simp only[AH,88 ((15 1>0)=625) 19,if_true];by_cases cM:863<q
 ·have cp:271 ((15 q-p+1-1)/1)=q-p:=by first|lia|(simp;done)|(simp;lia)
  simp only[cM,if_true,cp];refine 215 ?_;lia
 ·have:q-p=0:=03;simp[cM,this]
def tR(z:Str)(lo hi:307):Str:=⟨809 (222 (r32 605) (027-605))⟩
theorem YW(z:Str)(lo hi:307):D1 z lo hi=tR z lo hi:=by
 have af:605≤431:=HT.Xy _ _ 229 _;have ak:027≤431:=HT.Xy _ _ 64 _;have au:605≤max 605 027:=Nat.le_max_left _ _;have aw:max 605 027≤431:=Nat.max_le.mpr ⟨af,ak⟩;have hd:max 605 027-605=027-605:=(Nat.le_total _ _).elim (100 (970 (Nat.max_eq_right e))) (100 (by rw[Nat.max_eq_left e,Nat.sub_self,Nat.sub_eq_zero_of_le e]));have e:vV lo hi 1 431=vV (920 (605:Nat)) (920 (max 605 027:Nat)) 1 431:=by rw[PySem.StrLaws.strSliceIndices_plain au aw,hd,aoo]
 have aG:D1 z lo hi=D1 z (920 (605:Nat)) (920 (max 605 027:Nat)):=by unfold D1;rw[e]
 rw[aG,PySem.StrLaws.sliceText_nat z au aw,hd];rfl
theorem aop(z:Str)(lo hi:307):11 (tR z lo hi)≤431:=by show(809 (222 (r32 605) (027-605))).size≤z.cps.size;rw[gu,eS,fV,Dc];exact cX (Ah _ _) (XC _ _)
inductive YX(x:ae)(lo:307)(hi:307)(H:av)(Q:aW):04|mk:∀z,x=930→431≤bc→Q (.str (tR z lo hi)) H→YX x lo hi H Q
theorem Iy:HR X YX:=by
 rw[D38];rw[C38];rw[A12];obtain⟨os,Iz,iD,IA⟩:=aL;obtain⟨l,rfl,rfl⟩:=IsPart.raw pl;obtain⟨u,rfl,rfl⟩:=IsPart.raw pu;refine⟨091,_,F.slot_str_getitem.lookup,NK _ _ _,?_⟩;refine wpAny_getItem_str_slice (l:=l) (u:=u) (st:=00) ⟨os,Iz,iD,IA⟩ rfl ?_;have ax:069 (D1 z f91 i88):=by rw[YW];exact cX (aop z _ _) hz
 rw[←YW]at q;unfold D1 at q ax;show Made.post (39 (15 1==1&&11 (vV f91 i88 1 431)==431) (Made.val (.str z t)) (Made.str ⟨809 (h75 (vV f91 i88 1 431) (z.cps[·]?))⟩)) 496 s;by_cases c:(15 1==1&&11 (vV f91 i88 1 431)==431)=01
 ·rw[21 c]at q⊢;exact⟨930,H,I,612 t,q⟩
 ·rw[23 c]at q ax⊢;exact⟨ax,.str _,H,279,282,q⟩
namespace Att
open PySem PySem.W PySem.Calls PyProof.Rows
section
variable{s:aZ}{K:Frag}
end
end Att
abbrev aO:pJ:=n50 739
abbrev OI:bD:=a20
theorem bb:n5 aO X OI:=fun _ _ _ _ _ _ _ h=>h.elim
structure hC(K:bo)(x qual:Str)(st:bK)(f:ag)(fd:k6):04 where
 ex:∃(ig:aH)(cQ:639)(ec doc pm:aH)(an:639)(bx ek:aH)(k7:k12),fd=tM x 74 c37 033 843 87 ec doc pm an bx ek∧709 f (c52 ig cQ fd k7)∧Dv K bx 74=01
 fC:066 K=01
theorem hC.ok{st:bK}{k:Nat}(F:hC K x 74 st f fd)(S:31 N ps st)(len:e09 (sp vs H Q E) f96)(Dw:q91 596 08 (f5 k (g23 74 843 f bx)→sp vs H Q E→∃t,mJ (x6 aO P w K ah 02 N 74 843 f bx A 91 s H E).Hm 033 t∧t j83 e63 H)):eP P w K ah 02 aO (k+1) f fd ps sp:=by rw[C16];refine NB e5 ny S len (q90 ?_);obtain⟨t,h,q⟩:=Dw bx A 91 s H vs Q E aq pL;exact⟨t,h.Hm,q⟩
theorem hC.binds{st:bK}(F:hC K x 74 st f fd)(h:p64 639 53 (b79→bindArgs (tM x 74 c37 033 843 87 ec doc pm an bx ek) 915=pure 907)):lr K fd ps []:=by obtain⟨ig,cQ,ec,doc,pm,an,bx,ek,k7,rfl,e5,ny⟩:=F.ex;exact .all (h ec doc pm an bx ek)
theorem OJ{st:bK}{ec pm:aH}(l:709 f (c52 ig cQ (tM x 74 c37 033 843 87 ec doc pm an bx ek) k7))(c:Dv K bx 74=01)(k:066 K=01):hC K x 74 st f (tM x 74 c37 033 843 87 ec doc pm an bx ek):=⟨⟨ig,cQ,ec,doc,pm,an,bx,ek,k7,rfl,l,c⟩,k⟩
theorem D2{k:Nat}(aq:f5 k A):776 1<kb:=fL (Nat.add_le_add_left (14:1≤402) _) f06
theorem J(i:Nat)(fs:850=43:=by rfl)(a3:zW 628 x:=by first|exact aV rfl|exact en (aV rfl)|exact en (en rfl))(hd:(x==598)=09:=by decide)(ny:(x==(r31:Str))=09:=by decide):bF X c42 (iW i):=akj fs a3 hd ny
theorem b_{A:04}(h:B):39 09 A B:=p02 (23 hB)
theorem c8{A:04}(h:A):39 01 A B:=p02 101
theorem eb{c A:04}[Decidable c](af:c→A)(ak:¬c→B):13 c A B:=by
 by_cases h:c
 ·rw[114];exact af h
 ·rw[125];exact ak h
def aA(H H':av):04:=374 (H b) (244=25)
theorem aA.refl(H:av):aA H H:=a26
theorem aA.trans(a:c78)(b:aA H1 aB):aA H aB:=fun c o h=>b c o (a c o h)
theorem aA.free(e:49){l:ag}(h:H' l=Option.none):H l=Option.none:=by cases q:H l with|none=>rfl|some o=>rw[e l o q]at h;cases h
theorem aA.seq(e:49)(h:463):aJ K H' a xs:=by
 rw[C28]
 ·rw[A17 (.inl (e _ _ h))]
 ·rw[A17 (.inr ⟨o,e _ _ h⟩)]
 ·rw[A09 h]
section
variable[m63]
end
end
open TL(c5)
section
variable{A:rU}{G:Prop}{a b c d f me t:ag}{F:List (List Nat)}{K:bo}{loose ps:List Str}{P:f3}{R:Result→aZ→Prop}{XP:(Str→Option aH)→dk→Prop}{YP:ff→dk→Prop}{a0 us vals vs:List aH}{as:List ag}{aG e:dn}{aR:Array Ip}{doc u:aH}{o:Obj}{ah:Str→Option aH}{c0 i n:Nat}{base h:dk}{l:List Nat}{cl:Str→Option ag}{cs ms ns r:List Int}{d':Drawn}{ds:List WData}{α:Type}{fd:k6}{x:Str}{q:Search}{s s':dt}{v:Word}{w:ff}{m:g0}{xs:List ae}{y:ae}{H H':av}{bC:dz}{CX:pJ}{sp:mM}
section
open PySem.W(WData Codec OpenSpec Well WellAll ReadsW ReadsAllW)
mutual inductive nF(K:bo)(H:av):ae→92 WData|b4:nF K H .b4 87|bN(b:Bool):nF K H a81 j89|int(i:Int):nF K H 260 260|str(x:Str):nF K H 765 765|lD(b:723 UInt8):nF K H (.lD b) (.bytes b.toList)|lst{a:ag}{xs:08}{ds:d88}:463→pS K H xs ds→nF K H 37 (.list ds)|tup{a:ag}{xs:08}{ds:d88}:955→pS K H xs ds→nF K H 37 (b52 ds)inductive pS(K:bo)(H:av):08→92 d88|nil:pS K H [] []|cons{v:ae}{vs:08}{d:WData}{ds:d88}:nF K H v d→pS K H vs ds→pS K H (v::vs) (d::ds)end
theorem OK{K:bo}{H:av}:∀ns:10,pS K H b74 d39|[]=>89|n::r=>.cons (.int n) (OK r)
theorem OL{K:bo}{H:av}:∀(ns:10)(xs:08),pS K H xs d39→xs=b74|[],xs,h=>by cases h;rfl|n::r,xs,h=>by cases h with|cons af ak=>cases af;rw[OL r _ ak]<;>rfl
section
variable{R:aoq}
theorem aor(bB:fy P w H h)(h7:055)(q:463):∃(a0:53)(o:Obj)(n:Nat),cc xs a0∧321=25∧781 900∧c07 (.seq 275 n):=by
 rcases q with q|⟨o,a0,n,e,ar,_,hd,_,a3⟩
 ·obtain⟨_,a0,n,a3,e⟩:=(88 (fx P w H h a (.lst xs)) (q.ok bB));exact⟨a0,_,n,a3,e,rfl,rfl⟩
 ·exact⟨i03,o,n,a3,h7 _ _ e,ar,by simp[hd]⟩
theorem aos{d:WData}(hd:d=k06)(bB:fy P w H h)(h7:055){v:ae}(x:nF K H v d)(r:465):∃as,ReadsW R cl h u d as:=by
 subst hd
 cases x with
  |lst aL aN=>
   cases r;obtain⟨a0,o,n,cV,a8,ar,hd⟩:=aor bB h7 aL;rw[OL ms _ aN]at cV;have key:∀(ms:10)(us:53),594 m39→∃as,ReadsAllW R cl h us p60 as:=by
    intro ms
    induction ms with
     |nil=>intro us r;cases r;rw[A08 ReadsAllW.nil]
     |cons m ms ih=>
      intro us r
      cases r with|cons bU cT=>rw[B86];obtain⟨bs,cf⟩:=ih _ cT;rw[A08 (ReadsAllW.cons (ReadsW.int m t) cf)]
   rw[C52 (key ms _ cV)];rw[A08 (ReadsW.list a8 ar hd aq)]
end
mutual def su:481 WData|.none=>01|.bool _=>01|.int _=>01|.str _=>01|.bytes _=>01|.list xs=>yg xs|.tuple xs=>yg xs|_=>09 def yg:481 d88|[]=>01|x::r=>su x&&yg r end
theorem YY{α:272}{f:α→WData}(h:∀a,su (f a)=01):∀l:40,yg (363 f)=01|[]=>rfl|x::r=>p01 ((su (f x)&&yg (r.map f))=01) (h x) (YY h r)
theorem vW:∀(c:Codec)(a:c.denote),j86 a=01|.unit,_=>rfl|.bool,_=>rfl|.int _ _,_=>rfl|.nat _ _,_=>rfl|.u8,_=>rfl|.bytes _ _,_=>rfl|.text _ _ _ _,_=>rfl|.list _ _ c,a=>YY (72 (vW c x)) a|.pair c d,a=>p01 ((j86 a.1&&(su (d.enc a.2)&&01))=01) (vW c a.1) (vW d a.2)|.triple c d e,a=>by show(j86 a.1&&(su (d.enc a.2.1)&&(su (e.enc a.2.2)&&01)))=01;rw[vW c a.1,vW d a.2.1,vW e a.2.2]<;>rfl|.option c,none=>rfl|.option c,some x=>vW c x
theorem aot:∀(cs:List Codec)(a:k25 cs),yg (f52 cs a)=01|[],_=>rfl|c::cs,a=>p01 ((j86 a.1&&yg (f52 cs a.2))=01) (vW c a.1) (aot cs a.2)
def mv:aH→ae|.none=>.b4|.bool b=>a81|.int i _=>260|.str x _=>765|.bytes b _=>.lD b|.ref a=>37|_=>.b4
def vX(A:27):92 aH|.none=>625|.bool _=>625|.int _ _=>625|.str _ _=>625|.bytes _ _=>625|.ref a=>a∈A|_=>739
theorem aou{A:27}(x:vX A u):684 (mv u):=by cases u with|ref a=>rfl|none=>rfl|bool b=>rfl|int i t=>exact⟨t,rfl⟩|str s t=>exact⟨t,rfl⟩|bytes b t=>exact⟨t,rfl⟩|_=>exact gI x
theorem D3{A:27}:∀{vs:53},(b90 A u)→cc a32 vs|[],_=>89|u::r,h=>.cons (aou (127 u)) (D3 849)
def AI(h:dk)(A:27)(a:ag):04:=∃vs:53,a03≤bc∧(b90 A u)∧(321=some 008∨321=some c04)
theorem OM{P:AJ}{h:dk}:∀{vs:53}{ds:d88},023 P vs ds→a03=ds.length|_,_,.nil=>rfl|_,_,.cons _ b=>by show _+1=_+1;rw[OM b]
theorem aov{P:AJ}{v:aH}(x:Well P h v (.list ds)):∃(a:ag)(vs:53),v=37∧321=some 008∧023 P vs ds:=by cases x with|list a8 dQ=>exact⟨_,_,rfl,a8,dQ⟩
theorem YZ{P:AJ}{d:WData}(x:023 P us (d::ds)):∃(v:aH)(vs:53),us=v::vs∧Well P h v d∧023 P vs ds:=by cases x with|cons a b=>exact⟨_,_,rfl,a,b⟩
theorem aow(h:n≤1048576):n≤bc:=477 h
section
variable{P:AJ}
theorem Y0(x:023 P vs d39):a32=b74∧∀(A:27),b90 A u:=by
 induction ns generalizing vs with
  |nil=>cases x;exact⟨rfl,fun A u m=>by cases m⟩
  |cons n ns ih=>
   obtain⟨v,vs,rfl,gr,gd⟩:=YZ x;have q:=ih gd;cases gr;rw[A03 (by rw[eN,eN,q.1];rfl) (fun A u m=>?_)]
   cases m with|head=>trivial|tail _ m=>exact q.2 A u m
theorem Y1(x:023 P vs [e05]):∃a us,vs=254∧321=some (990 (.seq l34))∧023 P us d39:=by obtain⟨v,vs,rfl,gr,gd⟩:=YZ x;obtain⟨a,us,rfl,a8,dQ⟩:=aov gr;cases gd;exact⟨a,us,rfl,a8,dQ⟩
theorem aox(hd:ds=[e05])(x:023 P vs ds)(z:n29):∃A:27,(b90 A u)∧e02 h A a:=by
 subst hd;rw[D37 (Y1 x)];have es:WData.weightAll d39≤1048576:=z _ 237;refine⟨[a],fun u m=>?_,fun b m=>?_⟩
 ·rw[86 m];exact 237
 ·rw[86 m];exact⟨us,aow (364 (OM dQ) (cX (PySem.W.length_le_weightAllW _) es)),(Y0 dQ).2 _,.inl a8⟩
end
def IB(o:Obj):241 dz:=match o.data with|.seq vs _=>39 (o.cls==k10) (some (912 o (vs.toList.map mv))) (798 (.tup (vs.toList.map mv)))|_=>00
def md(K:bo)(h:dk)(A:27):av:=506 (13 (b∈A) (39 (545 (721 b)) (331 319 IB) 00) 00)
def AK(H:av):04:=∀b,H b=00∨∃o u,H b=798 u
theorem Y2(vs:53):IB 008=some (912 008 a32):=by show(39 (k10==k10) (j87 008 (.lst i34)) (j87 008 (.tup i34)))=_;rw[21 174]
theorem aoy(vs:53):IB c04=009 c04 (.tup a32):=by show(39 (vm 808==k10) (j87 c04 (.lst i34)) (j87 c04 (.tup i34)))=_;rw[107]
section
variable{A:27}
theorem ON(aa:b∈A)(aS:721 b=00)(e:319=25):md K h A b=IB o:=by unfold md;rw[160,aS,21 (108 (00:830).isNone 01),e]<;>rfl
theorem aoz{u:dz}(q:md K h A b=56):b∈A∧721 b=00:=by
 unfold md at q;by_cases aa:b∈A
 ·rw[160]at q
  cases aS:721 b with|none=>exact⟨aa,rfl⟩|some o=>rw[aS,142]at q;cases q
 ·rw[177]at q;cases q
theorem IC(mO:e02 h A a){u:dz}(q:md K h A b=56):721 b=00∧∃vs:53,a03≤bc∧(b90 A u)∧((319=some 008∧u=912 008 a32)∨(319=some c04∧u=.eT c04 (.tup a32))):=by
 obtain⟨aa,aS⟩:=aoz q;obtain⟨vs,af,ak,a6⟩:=mO b aa;refine⟨aS,vs,af,ak,?_⟩;rcases a6 with e|e
 ·rw[ON aa aS e,Y2]at q;rw[A23 e (129 q)]
 ·rw[ON aa aS e,aoy]at q;rw[A09 ⟨e,129 q⟩]
theorem aoA(mO:e02 h A a):AK (md K h A):=506 (by
 cases q:md K h A b with
  |none=>exact 253
  |some u=>
   obtain⟨_,vs,_,_,⟨_,e⟩|⟨_,e⟩⟩:=IC mO q
   ·rw[A09 ⟨_,_,f21⟩]
   ·rw[A09 ⟨_,_,f21⟩])
theorem aoB(mO:e02 h A a):fy P w (md K h A) h:=i01 (by
 obtain⟨_,vs,af,ak,⟨e,rfl⟩|⟨e,rfl⟩⟩:=IC mO q
 ·exact⟨e,r30,vs,_,D3 ak,e⟩
 ·exact⟨e,r30,vs,D3 ak,_,e,rfl,_,rfl⟩)
theorem Y3{c jU:aH}(e:(some {cls:=c,data:=l63}:830)=some {cls:=jU,data:=.seq l34}):c=jU∧vs=us:=by have aK:=cI e;have aG:c=jU:=109 Obj.cls aK;have cp:OO l33=OO l34:=109 Obj.data aK;injection cp with ej;rw[A27 aG];have nv:=109 Ws ej;simpa using nv
theorem aoC(h7:055)(mO:e02 h A a)(aN:a∈A)(e:321=some 008):(b90 A u)∧aJ K (md K h A) a a32:=by
 obtain⟨us,af,ak,a6⟩:=mO a aN;have bp:us=vs:=by
  rcases a6 with q|q
  ·rw[e]at q;exact(Y3 q).2.symm
  ·rw[e]at q;exact 69 (Value.type.inj (Y3 q).1) 14
 subst bp;rw[A27 ak]
 cases aS:898 with|none=>rw[A17 (.inr (404 (by rw[ON aN aS e,Y2])))]|some o=>have aG:=h7 a o aS;rw[e]at aG;obtain rfl:=cI aG;rw[A09 ⟨_,l34,_,aS,rfl,rfl,rfl,by rw[gu];exact af,081 (D3 ak)⟩]
theorem aoD{jb:AJ}(hd:ds=[e05])(h7:055)(mO:e02 h A a)(x:023 jb vs ds)(bp:b90 A u):pS K (md K h A) a32 ds:=by subst hd;rw[D37 (Y1 x)];have aL:=(aoC h7 mO (bp _ 237) a8).2;rw[(Y0 dQ).1]at aL;exact 386 (.lst aL (OK ns))
end
theorem aoE{cB:261}{k:Nat}{ep:aZ}{R:aoq}{d0:WData}(h7:K.In 626)(pT:ep.heap.Ns i6 ah)(aa:ep.heap.Ns Wc cB)(aoF:∀x:Str,g26 x→cB x=rT x)(aoG:ep.heap.NoLimit)(a4:ep.gens=#[])(yh:WellAll i02 626 vals ds)(IA:ds=[e05])(ID:d0=k06)(aoH:n29)(aq:f5 k D4)(F:k26 (K.In 02→g48 i6→eP P w K ah 02 CX k me fd ps sp))(IE:f93 (b79→Dt s fd 915 907))(hlen:ds.length=744)(pL:∀(H:av)(xs:08),AK H→pS K H xs ds→sp xs H (h20 (nF K H' v d0)) a20)(D5:∀H e s',CX [] H ep a20 e s'→739):qI 289 D4 (.call (.ref me) (644 vals)) (fun r s'=>∃u as,r=.ok (.ret u)∧ReadsW R cl 542 u d0 as∧OldK 626 542∧s'.os=ep.os∧j69) ep:=by
 obtain⟨A,a8,mO⟩:=aox IA yh aoH;have sv:AK (md K 626 A):=aoA mO;have bB:fy P w (md K 626 A) 626:=aoB mO;have aY:=aoD IA h7 mO yh a8;have aoI:=D3 a8;have cj:627 (md K 626 A b=56→721 b=00):=i01 (IC mO q).1;have Ag:∀{b:ag}{o:Obj}{aR:723 Ip}{c0:Nat},m62=25→a70→md K 626 A b=00:=fun{b o aR c0:_}e d=>by
  cases q:md K 626 A b with
   |none=>rfl
   |some u=>
    obtain⟨_,vs,_,_,⟨aG,_⟩|⟨aG,_⟩⟩:=IC mO q
    ·rw[A67];cases e;have d':OO l33 _=Data.dict aR c0:=d;cases d'
    ·rw[A67];cases e;have d':OO l33 _=Data.dict aR c0:=d;cases d'
 generalize md K 626 A=H at sv bB aY cj Ag;have Y4:∀{b:ag}{o:Obj},m62=25→H b=00→782 (tC 626 H)=25:=fun e n=>aj9 e n;have IF:∀{b:ag}{m:261},ep.heap.Ns b m→(tC 626 H).Ns b m:=fun{b m:_}⟨o,aR,c0,e,d,r⟩=>⟨o,aR,c0,Y4 e (Ag e d),d,r⟩;have aoJ:300 (721 b=25) (H b=00):=351 (by cases q:H b with|none=>rfl|some u=>rw[cj b u q]at e;cases e);have Y5:K.In (tC 626 H):=351 (Y4 (h7 b o e) (aoJ b o e));have jc:Mod K ah (tC 626 H):=⟨Y5,IF pT,⟨cB,IF aa,aoF⟩,let⟨jA,af,ak⟩:=aoG;⟨jA,IF af,ak⟩⟩;have dw:x4 P w K ah (tC 626 H) D4 [] ep H:=⟨rfl,jc,351 (aka e),HC (aj8 _ _),trivial,350 (151 (show b∈([]:27)from aa)),bB,.of_eq a4⟩;have ax:vals.length=744:=by rw[OM yh];exact hlen
 refine x5 ((F _ Y5 (IF pT)).run D4 [] ep H (644 vals) vals (vals.map mv) _ _ aq dw (IE ep vals ax) aoI (pL H _ sv aY)) (fun r s' x=>?_)
 cases r with
  |error e=>exact(D5 H e s' x).elim
  |ok c9=>
   cases c9 with
    |next=>exact gI x
    |brk=>exact gI x
    |cont=>exact gI x
    |ret u=>
     obtain⟨v,H',os,bare,un,D6,dF,q⟩:=x;have kept:374 m62 (o66 b=25):=351 (by
      cases cf:H b with
       |none=>exact un.keep b o e cf (by intro z;exact 151 (l08 (b∈([]:27)))) 19
       |some jP=>
        rcases sv b with z|⟨bC,AL,z⟩
        ·rw[cf]at z;cases z
        ·have es:=un.nx b bC _ z;obtain⟨aK,_⟩:=bB b _ z;obtain⟨aG,_⟩:=D6 b _ es;rw[e]at aK;cases aK;exact aG);have aoK:K.In 542:=351 (kept b o (h7 b o e));obtain⟨as,jd⟩:=aos (R:=R) (cl:=cl) ID D6 aoK q dF;exact⟨u,as,rfl,jd,OldK.of_keep kept,os,bare⟩
theorem aoL(h:WData.layableAll ds=01):n29:=f29 (PySem.W.layableW_iff.mp (gB.mp h d hd)).2.2
theorem Y6:∀(cs:List Codec)(a:k25 cs),11 (f52 cs a)=383|[],_=>rfl|c::cs,a=>by show 11 (f52 cs a.2)+1=383+1;rw[Y6 cs a.2]
theorem aoM{r:OpenSpec}{k:Nat}{q:f3}{d:DefRec}{K:AJ→bo}{CX:ff→pJ}{sp:ff→mM}(di:∀a:i48,∃ns:10,j42=[e05])(cH:∀y,∃ms:10,r.ret.enc y=k06)(OP:r.wellSaid=01)(Y7:m50 [])(hlen:r.args.length=744)(aq:f5 k D4)(OQ:∀(w:ff)(h:dk),YP w h→e61 h)(F:r29 261 (YP w h→e61 h→h.Ns i6 ah→ah d.name=46 me→∃fd:k6,(f93 (b79→Dt s fd 915 907))∧k26 (e61 02→g48 i6→eP r.prog w a18 ah 02 (CX w) k me fd ps (sp w))))(pL:∀(w:ff)(H:av)(xs:08)(a:i48),AK H→m40 f51=01→i41 r.asked a=01→pS a18 H xs j42→sp w xs H (h20 (nF a18 H' v (m78 r.f a))) a20)(D5:∀(w:ff)(H:av)(s:aZ)(e:aH)(s':aZ),CX w [] H s a20 e s'→739):aoN q loose XP YP r d [] (fun f vs=>kZ f vs):=by intro w iU ep ah cB G Y me o pm cd doc NC ec a8 hd ny cO OR a4 args vals as aoO aoP jd yh qZ;obtain⟨a,aK,aG⟩:=PySem.W.os_pre_some aoO;obtain⟨cp,IG⟩:=Codec.encAll_of_decAll f51 args a aK;subst cp;have h7:=OQ w _ Y;obtain⟨ns,di⟩:=di a;obtain⟨ms,cH⟩:=cH (i41 r.f a);obtain⟨fd,aa,mP⟩:=F w ah me _ Y h7 G.T.g OR;refine PySem.W.enter_call (x5 (aoE (R:=[]) (cl:=classAt iU.heap) (d0:=m78 r.f a) h7 G.T.g G.T.b G.T.builtins G.T.nolimit a4 yh di cH (aoL aoP) aq mP aa (by rw[Y6];exact hlen) (fun H xs sv aY=>pL w H xs a sv IG aG aY) (fun H e s'=>D5 w H ep e s')) (fun dF s' aw=>?_));obtain⟨u,as',rfl,af,ak,a6,bH⟩:=aw;exact⟨.inl ⟨u,_,as',rfl,524,af,(OpenSpec.post_iff OP IG _ _).mpr rfl,16 (Bool.noConfusion (l08 933))⟩,ak,a6,bH⟩
theorem aoQ{r:OpenSpec}{k:Nat}{q:f3}{d:DefRec}{K:AJ→bo}{sp:bo→mM}(di:∀a:i48,∃ns:10,j42=[e05])(cH:∀y,∃ms:10,r.ret.enc y=k06)(OP:r.wellSaid=01)(Y7:m50 [])(hlen:r.args.length=744)(aq:f5 k D4)(OQ:∀(w:ff)(h:dk),YP w h→e61 h)(F:r29 261 (YP w h→e61 h→h.Ns i6 ah→ah d.name=46 me→∃fd:k6,(f93 (b79→Dt s fd 915 907))∧k26 (e61 02→g48 i6→eP r.prog w a18 ah 02 CX k me fd ps (sp a18))))(pL:∀(K:bo)(H:av)(xs:08)(a:i48),AK H→m40 f51=01→i41 r.asked a=01→pS K H xs j42→sp K xs H (h20 (nF K H' v (m78 r.f a))) a20)(D5:∀(H:av)(s:aZ)(e:aH)(s':aZ),CX [] H s a20 e s'→739):aoN q loose XP YP r d [] (fun f vs=>kZ f vs):=aoM (K:=K) (CX:=290 CX) (sp:=543 (sp a18)) di cH OP Y7 568 aq OQ F (fun w H xs a af ak a6 bH=>pL a18 H xs a af ak a6 bH) (fun _ H s e s'=>D5 H s e s')
end
end
section
variable{A:rU}{B:Prop}{C CM CS D I a b c d dx f p t:ag}{E Q:aH→aZ→Prop}{F:List (List Nat)}{K:bo}{M:Model}{N ps:List Str}{P:f3}{apos lK pos te:Pos}{S:ag→Prop}{T:String}{a0 us vs:List aH}{as:List ag}{aG e eD:dn}{aR:Array Ip}{acc:List (Str×ag)}{bx u:aH}{o:Obj}{ah:Str→Option aH}{pins:List (ag×Obj)}{b0 i j n:Nat}{base h h':dk}{ea g l ls:List Nat}{cl:Str→Option ag}{ns r:List Int}{α:Type}{elts:List dn}{fd:k6}{name x:Str}{outer:List Env}{own:List (Str×Nat)}{pl:Sem Bool}{q:Search}{s:dt}{sc:rp}{v:Word}{w:ff}{m:g0}{sy:cv}{xs ys:List ae}{y:ae}{H H' H1 aB:av}{qV:av→Prop}{X:dT}{bW c7 to:ct}{tt:j6}{CX:pJ}{sp:mM}
section
open PySem.W(Codec)
inductive Pr(P:f3)(w:ff)(K:bo)(ah:261)(base:dk)(CX:pJ)(k:Nat)(x:Str)(ps:221)(sp:mM):04|mk:d78 (ah x=46 f) (066 K=01→lr K fd ps []→eP P w K ah 02 CX k f fd ps sp→Pr P w K ah 02 CX k x ps sp)
theorem Pr.mono{P:f3}{w:ff}{K:bo}{ah:261}{base:dk}{CX:pJ}{j k:Nat}{x:Str}{ps:221}{sp:mM}(h:Pr P w K ah 02 CX j x ps sp)(aS:j≤k):Pr P w K ah 02 CX k x ps sp:=h48 ⟨f,fd,a,b,c,d.mono aS⟩
inductive jb(P:f3)(w:ff)(K:bo)(ah:261)(base:dk)(CX:pJ)(k:Nat)(C:ag)(m:Str)(ps:221)(sp:mM):04|mk:d78 (Cc K C m f) (lr K fd ps []→eP P w K ah 02 CX k f fd ps sp→jb P w K ah 02 CX k C m ps sp)
inductive mf(P:f3)(w:ff)(K:bo)(ah:261)(base:dk)(CX:pJ)(k:Nat)(C:ag)(x:Str)(ps:221)(sp:mM):04|mk:d78 (ah x=46 C) (HM K C f→lr K fd ps []→eP P w K ah 02 CX k f fd ps sp→mf P w K ah 02 CX k C x ps sp)
section
variable{k:Nat}{E:bD}{m:Str}{p:Pos}{o:dn}{aR:439}{t:fG}
theorem bj(h:Pr 61 X.w X.K 507 341 CX k x ps sp)(aq:656 k)(ai:n5 CX X E)(aN:hZ X (e::aR) t)(a4:797:=by rfl)(lH:(x==598)=09:=by decide)(he:657=391::458:=by rfl)(eH:a71:=by rfl):a57 x (e::aR) (Xo sp [] E t):=h48 (alJ d aq a4 a b c 89 ai aN lH he eH)
theorem pm(h:jb 61 X.w X.K 507 341 CX k C m ps sp)(c:945 C)(aq:656 k)(ai:n5 CX X E)(a8:757 o)(aN:hZ X (e::aR) t)(gq:657=391::458:=by rfl)(eH:a71:=by rfl)(bk:405 (.Call (480 m apos) (e::aR) [] pos)=(do
 let dA←cE o X.env
 xR apos.atName
 let(f,first)←nz [dA] (Ad dA m pl)
 Af pos f first (hA pos (dc (e::aR) X.env)) (x2 pos (x3 [] X.env))):=by rfl):bF X (.Call (480 m apos) (e::aR) [] pos) (HI C m sp [] E bW t):=r28 (alK (pl:=pl) a8 c a d aq b 89 ai aN gq eH bk)
theorem gv(h:jb 61 X.w X.K 507 341 CX k C m ps sp)(c:945 C)(aq:656 k)(ai:n5 CX X E)(a8:757 o)(bk:405 (.Call (480 m apos) [] [] pos)=(do
 let dA←cE o X.env
 xR apos.atName
 let(f,first)←nz [dA] (Ad dA m pl)
 Af pos f first (hA pos (dc [] X.env)) (x2 pos (x3 [] X.env))):=by rfl):bF X (.Call (480 m apos) [] [] pos) (HI C m sp [] E bW qK):=r28 (alL (pl:=pl) a8 c a d aq b 89 ai bk)
theorem pU(h:mf 61 X.w X.K 507 341 CX k C x ps sp)(aq:656 (k+1))(ai:n5 CX X E)(aN:hZ X (e::aR) t)(a4:797:=by rfl)(lH:(x==598)=09:=by decide)(he:657=391::458:=by rfl)(eH:a71:=by rfl):a57 x (e::aR) (HJ C sp [] E t):=h48 (alN b d aq a4 a c 89 ai aN lH he eH)
theorem Y8(h:mf 61 X.w X.K 507 341 CX k C x ps sp)(aq:656 (k+1))(ai:n5 CX X E)(a4:797:=by rfl)(lH:(x==598)=09:=by decide):a57 x [] (HJ C sp [] E qK):=h48 (alO b d aq a4 a c 89 ai lH)
inductive d7(ah:261)(x:Str)(v:ae):04|mk:∀u,ah x=56→465→d7 ah x v
theorem dq{v:ae}(h:d7 507 x v)(a4:797:=by rfl)(hd:(x==598)=09:=by decide):bF X c42 (qC v):=by obtain⟨u,a,r⟩:=h;exact akn a4 a r hd
end
structure cq(K:bo)(ah:261)(x:Str)(st:bK)(ps:221)(f:ag)(fd:k6):04 where
 F:hC K x x st f fd
 b:lr K fd ps []
 m:ah x=46 f
theorem cq.pr{k:Nat}{st:bK}(D:cq K ah x st ps f fd)(h:eP P w K ah 02 CX k f fd ps sp):Pr P w K ah 02 CX k x ps sp:=⟨f,fd,D.m,D.F.fC,D.b,h⟩
theorem Y9{g:iv}{vs:06}{σ:bq}(Pv:599)(h0:Pv 0 695)(aL:∀i c H,(c5 x)[i]?=73→617→g a85 297 H (fun c6 aB=>708=297∧tt c6 aB (fun b a5=>39 b (c7 c6 a5 (fun y bP=>∃acc,bP D=700∧706∧e78 (i+1) [y])) (Pv (i+1) a5))))(hd:∀H,Pv 607 H→qV H):∃W:240 599,(∃m,W 0 m 695)∧∀i m H,W i m H→(800 (vS x)∧qV H)∨((vS x).go i H∧∃hh:855,(c58 (eg<m∧W (i+1) eg H'))∧∀y H',(vS x).mL i H y H'→g y 297 H' (fun c6 aB=>708=297∧c88 b (bP D=700∧706∧c29 [y]))):=by
 have aU:570=607:=by simp[c5]
 rw[B12 (m=607-i∧i≤607∧617) ⟨607,19,229,h0⟩];rw[B20];by_cases cM:i<607
 ·refine .inr ⟨a45 i 570,361,fun H' q=>⟨607-(i+1),03,rfl,03,q⟩,?_⟩;rw[D19];exact aL i c _ q70 p
 ·rw[A50 (i=607)];subst e;rw[A23 (636 570 _) (hd H p)]
section
variable{o a:dn}{aR:439}{t:fG}{f:Str}{id:String}{r:ae→927}
theorem bt(K:bo)(cj:X.K=K)(he:757 e)(aa:tL e f 55 688=688):bF X (b92 f pos) (x1 K bW f):=740 (vH he aa)
def Y_(K:bo)(bW:ct):j6:=262 (bW σ H (h95 (∃k,Ni K x H' k∧Q k H')))
theorem hl(K:bo)(cj:X.K=K)(aN:658)(he:∀whole,j68 a 510=(do
 let v←whole
 xR a.pos
 nz [v] (truthy v))):mI X a (Y_ K bW):=740 (Nj aN he)
theorem hD(K:bo)(cj:X.K=K)(lJ:PlainAttrs T)(slot:Slot T 234 id)(vL:typeOf 995=pure l84)(hm:qN X id r)(a8:c76)(aN:hZ X (e::aR) t)(qO:tL o 234 55 931=931:=by rfl)(HX:((hA lK 657).all (72 (! x.1))&&(x2 lK (x3 [] 55)).all (72 x.1.isSome)&&29 (11 (e::aR)+075 [] (List HN)+(13 ([]:List HN).isEmpty 0 1)<0x1e))=01:=by rfl)(qP:(i55 lK.line)=01:=by rfl)(aL:657=391::458:=by rfl)(NR:(hA lK 458).any 379=09:=by rfl):bF X (.Call (480 234 apos) (e::aR) [] lK) (NQ K T r to t):=740 (amg lJ slot vL hm a8 aN qO HX qP aL NR)
theorem g9(K:bo)(cj:X.K=K):Ai X (HS K):=by subst cj;exact al1
theorem oJ(K:bo)(cj:X.K=K):Ai X (NJ K):=by subst cj;exact al3
theorem D7(K:bo)(cj:X.K=K):k00 (NO K 01):=by subst cj;exact amb
theorem aoR(K:bo)(cj:X.K=K):qN X "list.index" (N0 K):=by subst cj;exact amt
theorem hO(K:bo)(cj:X.K=K):g77 (HW K):=by subst cj;exact amd
theorem OS(K:bo)(cj:X.K=K)(a8:c76)(he:529)(aL:406 [e]=[391]:=by rfl)(qO:tL o "join" 55 931=931:=by rfl)(qP:(n07)=01:=by rfl):bF X (.Call (480 "join" apos) [e] [] pos) (OH (d24 (∃a p,∃ys:221,x=056∧xs=717∧(aJ K H p b72∨dX K H p b72)∧(m16).sum+674*733≤l32∧Q (.str (DX a ys)) H)) to c7):=740 (aol a8 he aL qO qP)
theorem eW(K:bo)(cj:X.K=K){l:dn}{c5:ct}(ax:bF X l c5):lG X eD l (Hu K c5):=740 (akX ax)
theorem IH(K:bo)(cj:X.K=K){l:dn}{c5:ct}(ax:bF X l c5):lG X eD l (WE K c5):=740 (akY ax)
theorem II(K:bo)(cj:X.K=K){bW:fG}{p:Pos}(a4:h1 X 892)(hm:X.ah 892=00)(aN:hZ X [e] bW)(aL:406 [e]=[391]:=by rfl):lG X (d95 b0 te) (.Call (.Name 892 p) [e] [] pos) (YM K bW):=740 (an9 a4 hm aN aL)
theorem Za(K:bo)(cj:X.K=K){bW:fG}{p:Pos}(a4:h1 X 380)(hm:X.ah 380=00)(aN:hZ X [e,aG] bW)(aL:406 [e,aG]=391::e71:=by rfl)(eH:f95 e71:=by rfl):lG X (d95 b0 te) (e19 [e,aG]) (YQ K bW):=740 (aof a4 hm aN aL eH)
theorem aoS(K:bo)(cj:X.K=K)(ar:394):iy X (399 "sum") (NX K):=740 (amq ar)
theorem aoT(K:bo)(cj:X.K=K)(ar:394):iy X (399 "all") (N3 K):=740 (amE ar)
theorem vY(K:bo)(cj:X.K=K):HR X (NM K):=by subst cj;exact al8
theorem tS(K:bo)(cj:X.K=K){aR:439}{k:Nat}{t:xP}(ar:394)(h:Df X aR t)(aU:11 g69=n:=by rfl)(gq:(g69).findIdx? 379=00:=by rfl):rZ X (.Tuple aR k pos) (MZ K n t):=740 (akJ ar h aU gq)
end
end
structure ki(ah:261):04 where
 len:ah "len"=00
 range:ah 509=00
 ord:ah "ord"=00
abbrev aP(l:06):Str:=⟨l.toArray⟩
theorem IJ(l:06):c5 c87=l:=rfl
theorem dB(l:06):g25 c87:=r27
theorem q0(a b:06):aP a++aP b=aP (a++b):=TL.AF (by rw[TL.OD])
def aT(l:10):08:=363 b31
def a_(l:06):08:=363 j82
theorem dZ{α:272}:∀{l:40}{i:Nat}{x:α},115=43→l.take (i+1)=648++[x]|[],i,x,h=>500|a::l,0,x,h=>by have e:a=x:=cI h;subst e;rfl|a::l,i+1,x,h=>by have ih:=dZ (l:=l) (i:=i) (x:=x) h;show a::l.take (i+1)=a::648++[x];rw[ih];rfl
theorem eI{l:40}{x:α}(h:115=43):i<63:=159 h
theorem jB(h:n≤12):n≤bc:=477 h
theorem gY(h:n≤1000):n≤bc:=477 h
def iE(m:g0):324:=cC h84 (.bN m.e) (cC h85 (.bN m.b) (cC f36 (76 m.r) (cC d16 (76 m.l) [])))
structure nG(K:bo)(C:ag):04 where
 cl:h4 K C
 left:245 d16
 right:245 f36
 D8:245 h85
 D9:245 h84
inductive oK(C:ag)(H:av)(a:ag)(m:g0):04|mk:∀dx,H a=482 C 024→oK C H a m
theorem lO:c61 d16=653 m.l:=157
theorem yi:c61 f36=653 m.r:=157
theorem IK:c61 h85=c53 m.b:=157
theorem IL:c61 h84=c53 m.e:=157
inductive OT(x:ae)(xs:08)(H:av)(Q:aW):04|mk:∀(a b:Str)(i:Int),x=056→xs=[.str b,260]→446 (OU a b i)→OT x xs H Q
theorem aoU:qN X r26 OT:=by
 rw[C51];obtain⟨a,b,i,rfl,rfl,h⟩:=h;rw[A12]
 cases rs with|cons bU rs=>cases rs with|cons cT rs=>cases rs;obtain⟨u,rfl⟩:=bU;obtain⟨jP,rfl⟩:=cT;exact PySem.SC.startswith3 (128 _ H I h)
theorem aoV{w:06}{p:Nat}(h:p+63≤218):OU (aP w) c87 863=(j26==l):=by
 have e:fromIndex (11 (aP w)) 863=p:=by unfold fromIndex;rw[124];lia
 unfold OU;rw[e,Zb,dB,dB,188];rfl
abbrev Zc:bK:=bA 0x28
theorem Zd:31 483 483 Zc:=⟨rfl,rfl,rfl,05,rfl,05,05⟩
inductive IM(C:ag)(vs:08)(H:av)(Q:aW)(E:bD):04|mk:m21 (vs=349 459→oK C H a m→707→051→a88→662 c26→IM C vs H Q E)
theorem aoW(D:cq K ah l28 Zc 483 f fd)(O:443)(M:nG K C):Pr P w K ah 02 aO 1 l28 483 (IM C):=by
 rw[A02 Zd]
 ·rw[C50];rfl
 ·obtain⟨a,x,m,rfl,⟨dx,aN⟩,ai,ax,c1,k⟩:=h;have S:=Zd;rw[A01 (65 (eu qH (eu r7 (d6 jY 66 O.len eJ 296) (064 (vH 252 rfl))) (064 (vH 252 rfl))))];refine⟨_,rfl,_,rfl,a13 ai,_,rfl,a,C,dx,_,_,rfl,aN,20,f48,lO,_,rfl,a13 ax,_,_,rfl,rfl,_,rfl,a,C,dx,_,_,rfl,aN,20,l20,yi,_,rfl,a13 c1,_,_,rfl,rfl,?_⟩;rw[dB,dB,dB];exact k
abbrev Ze:bK:=bA 0x29
theorem Zf:31 932 932 Ze:=⟨rfl,rfl,rfl,05,rfl,05,05⟩
inductive vZ(C:ag)(vs:08)(H:av)(Q:aW)(E:bD):04|mk:∀(a:ag)(x:06)(m:g0)(p:Nat),vs=[37,48 p,459]→oK C H a m→e04→051→a88→e07 p→a87 719 H→vZ C vs H Q E
theorem aoX{x:06}{p:Nat}(h:p≤96):tR 713 00 e64=aP (813 p):=by refine TL.AF ?_;unfold tR;rw[HT.HO,HT.sa,dB];simp[TL.c5,sx h]
theorem OV{x:06}{p:Nat}(h:p≤96):tR 713 e64 00=aP (883 p):=by refine TL.AF ?_;unfold tR;rw[HT.HO,HT.sa,dB];simp[TL.c5,sx h];exact sj f20
theorem aoY(D:cq K ah b39 Ze 932 f fd)(O:443)(M:nG K C):Pr P w K ah 02 aO 1 b39 932 (vZ C):=by
 rw[A02 Zf]
 ·obtain⟨a,x,m,p,rfl,_⟩:=h;rfl
 ·obtain⟨a,x,m,p,rfl,⟨dx,aN⟩,ai,ax,c1,au,k⟩:=h;have S:=Zf;rw[A01 (65 (eu Nk (eu Nk (pM Iy 45 vJ (ma 62)) (vH 252 rfl)) (pM Iy 45 (ma (eu qH 62 (064 (vH 252 rfl)))) vJ)))];have fA:=aoX (x:=x) (p:=p) 03;have kd:=OV (x:=x) (p:=p+580) 03;rw[show 52 (p+580)=863+320 (aP m.l)by rw[dB];lia]at kd;refine⟨_,rfl,_,rfl,_,rfl,_,rfl,h96 (gY e75),_,rfl,a,C,dx,_,_,rfl,aN,20,l20,yi,_,_,rfl,rfl,?_,_,rfl,_,rfl,_,rfl,a,C,dx,_,_,rfl,aN,20,f48,lO,_,rfl,a13 ax,_,_,rfl,rfl,_,rfl,_,rfl,h96 (gY e75),_,_,rfl,rfl,?_,?_⟩
  ·rw[fA,dB,dB,eS];rw[A56]
  ·rw[fA,kd,q0,dB,dB,cn,eS,fV];rw[A56]
  ·rw[fA,kd,q0,q0];have e:719=813 p++m.r++883 (p+580):=by unfold fJ;rw[rI,jo]
   rw[←e];exact k
theorem eo{b:Bool}{A:04}(af:b=01→A)(ak:b=09→B):39 b A B:=by cases b with|true=>exact af rfl|false=>exact ak rfl
theorem LD{α:272}{q:935}:921 (645 (q x=09)→f45 q=[])|[],_=>rfl|a::l,h=>by rw[iO,23 (c99 (h a 999))];exact LD (276 (h x (005 ai)))
theorem aoZ{q:a72}{lo N:Nat}(h:lo+n≤N):d92 n q=908 N (400 (555 lo p&&29 (p<lo+n)&&q p)):=by
 obtain⟨r,rfl⟩:∃r,N=lo+n+r:=b71 (N-(lo+n));rw[ao0,ao0,s8,s8];rw[LD (l:=bz lo),LD (l:=407 r _),HZ,nh]
 ·refine Cq 333;rw[A46 ai];have:=g4.mp aC;rw[102 (show lo≤lo+y by lia),102 (show lo+y<lo+n by lia)];rfl
 ·rw[A74];rw[A46 ai];rw[113 (show¬lo+n+y<lo+n by lia)];simp
 ·rw[A74];have:=g4.mp ai;rw[113 (show¬lo≤x by lia)];rfl
def AM(m:g0)(last:Nat):Nat:=13 m.e 544 0
def D_(m:g0)(last:Nat):Nat:=13 m.b 0 544
def m_(m:g0)(x:06)(p:Nat):Bool:=550 p 580==m.l
theorem OW{x:06}{p:Nat}(h:m_ m x p=01)(au:p≤96):e07 p:=by have e:=137 (a02 h);rw[eS,fV]at e;lia
theorem ao1{x:06}{last:Nat}(ax:544+580=96):582 (407 (D_ m 544+1-AM m 544) (AM m last+·)) (m_ m x)=375:=by
 have dh:D_ m 544≤544:=by unfold D_;split<;>lia
 have qZ:AM m 544≤544:=by unfold AM;split<;>lia
 rw[aoZ (N:=e80) 03];unfold eR;refine Cq 263;have IP:=154;have key:uW m x p=(m_ m x p&&(! m.b||p==0)&&(! m.e||11 (883 p)==580)):=rfl;rw[key];by_cases hf:m_ m x p=01
 ·have af:=OW hf 03;have e:(96-p==580)=(p==544):=by rw[hu,beq_iff_eq,beq_iff_eq];lia
  have pl:p≤544:=03;rw[hf,fV,e];clear e af IP dh qZ ax key;unfold AM D_;rw[hu];cases m.b<;>cases m.e<;>simp<;>lia
 ·have ao2:m_ m x p=09:=r25;rw[ao2];simp
theorem ao3{x:06}(h:96<580):375=[]:=by
 refine LD 263;have IP:=154;have:m_ m x p=09:=by cases hf:m_ m x p with|false=>rfl|true=>have:=OW hf 03;lia
 show(m_ m x p&&_&&_)=09;rw[A16];rfl
theorem Zg{q:a72}{lo:Nat}:d92 (i+1) q=d92 i q++(39 (q (lo+i)) [lo+i] []):=by rw[rv,d5,s8];congr 1;show(UA q [lo+i])=_;rw[iO];split<;>rfl
theorem ao4{q:a72}{lo:Nat}:11 (d92 i q)≤i:=by refine 164 _ _;simp
theorem IQ{x:06}{Q:aW}(M:nG K C)(aN:H a=482 C 024)(ai:e04){lo hi:Nat}(Zh Zi Zj:ae)(ao5:Zh=48 lo)(ao6:Zi=48 hi)(OX:e07 hi)(qZ:lo≤979)(k:∀p,H p=00→664 (322 H p (d92 (hi+1-lo) (m_ m x)))):vO (WJ (r_ (iW 3) (r_ (r4 (r5 (h94 (426 (i+j)))) (iW 4) (qC (426 1))) qK))) (tG 5) (Y_ K (NQ K 091 OT (iW 1) (r_ (x1 K (iW 0) (iA d16)) (r_ (iW 5) qK)))) (iW 5) [5] [248,493,some Zj,some Zh,some Zi,00] H Q:=by
 subst ao5 ao6;refine⟨_,rfl,_,rfl,_,_,rfl,rfl,15 lo,15 hi+1,rfl,⟨03,03,03,03⟩,436⟩;have aU:271 (15 hi+1-lo)=hi+1-lo:=03;have yj:a≠D:=bT aN cO;refine Ol (lo:=15 lo) (n:=271 (15 hi+1-lo)) (σ:=[248,493,some Zj,71 lo,71 hi,00]) (884 (H'=322 H D (d92 i (m_ m x)))) rfl ?_ ?_
 ·rintro i H' qr rfl;refine⟨rfl,_,rfl,rfl,_,rfl,a,C,dx,_,_,rfl,41 yj aN,20,f48,lO,_,rfl,_,_,_,rfl,rfl,_,rfl,?_⟩;have aR:OU 713 (aP m.l) (15 lo+(i:Nat))=m_ m x (lo+i):=364 (show 15 lo+(i:Nat)=52 (lo+i)by lia) (aoV 03);rw[aR];refine eo 356 356
  ·refine⟨_,rfl,_,aI,?_,?_⟩
   ·rw[a_,ba];exact fL ao4 (fL (show i≤1000 by lia) 14)
   ·rw[gp,Zg,114,a_,a_,d5];rfl
  ·rw[Zg,208,nh]
 ·rw[B05];rw[aU];exact k D cO
abbrev OY:bK:=bA 0x27
theorem Zk:31 [313,235,h42,"lowest","highest",226] 483 OY:=⟨rfl,rfl,rfl,05,rfl,05,05⟩
inductive Ea(C:ag)(vs:08)(H:av)(Q:aW)(E:bD):04|mk:m21 (vs=349 459→oK C H a m→e04→051→(∀p,H p=00→664 (322 H p 375))→Ea C vs H Q E)
theorem ao7(D:cq K ah h66 OY 483 f fd)(O:443)(M:nG K C):Pr P w K ah 02 aO 1 h66 483 (Ea C):=by
 rw[A02 Zk]
 ·rw[C50];rfl
 ·obtain⟨a,x,m,rfl,⟨dx,aN⟩,ai,ax,k⟩:=h;have S:=Zk;rw[A01 (90 2 (eu r7 (d6 jY 66 O.len eJ 296) (064 (vH 252 rfl))) (318 (bM ka (J 2) bu (bO _)) ay) (389 3 (pE (Nj (vH 252 rfl) 524) 45 bu) (94 4 (pE (Nj (vH 252 rfl) 524) bu 45)) (k9 rfl 242 (M5 rfl 971 (e37 3 (eu qH 327 bu))) (own:=[(226,5)]) (295 [313,235,h42,"lowest","highest",226] OY) h09 (e47 (348 (hD K rfl PySem.F.plainAttrs_str PySem.F.slot_str_startswith PySem.F.type_str_startswith aoU 62 (c35 59 5)))) (286 462))))];refine⟨_,rfl,_,rfl,h96 (gY e75),_,rfl,a,C,dx,_,_,rfl,aN,20,f48,lO,_,rfl,a13 ax,_,_,rfl,rfl,?_⟩;rw[dB,dB];refine⟨_,rfl,_,_,rfl,rfl,_,rfl,359⟩
  ·have h':=104;rw[A33 263];have:=k p au;rw[A73 (ao3 03)];rw[A10]
  ·have h':¬(m06<0):=951;obtain⟨last,tn⟩:∃last:Nat,m06=15 544:=b71 (96-580);have tm:544+580=96:=03;rw[←ao1 tm]at k;refine⟨_,rfl,a,C,dx,_,_,rfl,aN,20,M.D9,IL,_,rfl,eo (fun he=>950) n44⟩;all_goals refine⟨_,rfl,a,C,dx,_,_,rfl,aN,20,M.D8,IK,_,rfl,eo 485 (fun aa=>950)⟩
   all_goals rw[AM,D_,he,aa]at k
   ·exact IQ (lo:=544) (hi:=0) M aN ai _ _ _ (f90 tn) rfl 03 03 k
   ·exact IQ (lo:=544) (hi:=544) M aN ai _ _ _ (f90 tn) (f90 tn) 03 03 k
   ·exact IQ (lo:=0) (hi:=0) M aN ai _ _ _ rfl rfl 03 03 k
   ·exact IQ (lo:=0) (hi:=544) M aN ai _ _ _ rfl (f90 tn) 03 03 k
def tU:911→ae|none=>.b4|some w=>76 w
def nH(s:cv)(l:ag):324:=cC b51 (tU 084) (cC 984 (tU s.start) (238 505 l (cC 304 (76 60) [])))
structure gw(K:bo)(C:ag):04 where
 cl:h4 K C
 letters:245 304
 moves:245 505
 start:245 984
 goal:245 b51
theorem mg{s:cv}{l:ag}:273 (nH s l) 304=653 60:=h55
theorem kE{s:cv}{l:ag}:273 (nH s l) 505=46 l:=h55
theorem tV{s:cv}{l:ag}:273 (nH s l) 984=some (tU s.start):=h55
theorem tW{s:cv}{l:ag}:273 (nH s l) b51=some (tU 084):=h55
structure h8(CM CS:ag)(H:av)(a dx l:ag)(as:27)(s:cv):04 where
 at_:H a=482 CS (nH s l)
 lst:H l=247 317
 len:470=303
 cw:p97 (325=360→754=794→oK CM H b m)
inductive dK(CM:ag)(CS:ag)(H:av)(a:ag)(s:cv):04|mk:∀dx l as,h8 CM CS H a dx l as s→dK CM CS H a s
theorem dK.same{s:cv}(h:dK CM CS H a s)(e:49):dK CM CS H' a s:=by obtain⟨dx,l,as,h⟩:=h;refine⟨dx,l,as,e _ _ 673,e _ _ 572,h.len,k92 ?_⟩;obtain⟨d,q⟩:=h.cw i b m af ak;exact⟨d,e _ _ q⟩
theorem aA.upd{o:dz}(h:H p=00):aA H (Internal.upd H p o):=d08 (by rw[117 h];exact e)
theorem oL{l:10}(h:(aT l)[i]?=270):∃z,115=415∧y=488:=by
 rw[aT,cK]at h
 cases e:115 with|none=>rw[A49];cases h|some z=>rw[A49];rw[A76 z h]
theorem v3(h:k56 i=270):∃z:Nat,115=415∧y=48 z:=by
 rw[a_,cK]at h
 cases e:115 with|none=>rw[A49];cases h|some z=>rw[A49];rw[A76 z h]
theorem Eb(l:06):(a_ l).all oF=01:=by rw[a_,GJ];exact gB.mpr 630
theorem IS(z:Int)(l:06):Ak 488 (a_ l)=l.any (724 (29 (44=z))):=by unfold Ak a_;rw[u6];rfl
theorem OZ:∀ps:30,TL.AG [] ps=ps.flatten|[]=>rfl|[p]=>by simp[TL.AG]|p::q::r=>by show p++([]++TL.AG [] (q::r))=_;rw[OZ (q::r)];rfl
theorem Zl(l:06):DX a74 (363 (575 (aP [c])))=c87:=by
 refine TL.AF ?_;rw[TL.join_eq];refine 38 (TL.OE _ _) ?_;rw[gP,show c5 a74=[]by rfl,OZ];show _=l
 induction l with|nil=>rfl|cons a r ih=>rw[eN,qs,ih];rfl
theorem ao8{z:Int}(h:l.any (724 (29 (44=z)))=01):∃j:Nat,l[j]?=some 231∧52 231=z∧∀(m n:Nat),m<j→l[m]?=some n→¬44=z:=by
 induction l with
  |nil=>simp at h
  |cons a r ih=>
   rw[A06 b14 z]
   ·refine⟨0,?_,03,fun m n hm _=>69 hm 03⟩;show 532=some 231;congr 1;lia
   ·rw[pe,132,Cv]at h;obtain⟨j,af,ak,a6⟩:=ih h;refine⟨j+1,af,ak,fun m n hm aU=>?_⟩
    cases m with|zero=>have:a=n:=cI aU;rw[A48];exact e|succ m=>exact a6 m n 03 aU
abbrev O0:bK:=bA 0x25
theorem Zm:31 [576,817] 840 O0:=⟨rfl,rfl,rfl,05,rfl,05,05⟩
inductive AN(vs:08)(H:av)(Q:aW)(E:bD):04|mk:∀(x:06),vs=[459]→96≤bc→(∀p,H p=00→664 (322 H p x))→AN vs H Q E
theorem ao9(D:cq K ah f49 O0 840 f fd)(O:443):Pr P w K ah 02 aO 1 f49 840 AN:=by
 rw[A02 Zm]
 ·rw[C49];rfl
 ·rw[D33];have S:=Zm;rw[A01 (65 (k9 rfl 242 (Io 252) (own:=[(817,1)]) (295 [576,817] O0) (924 1) 369 (286 (d6 alm 66 O.ord boot_ord 296))))];refine⟨_,rfl,_,rfl,436⟩;refine Y9 (884 (H'=322 H D d99)) rfl ?_ ?_
  ·rintro i c H' ar rfl;have ar:x[i]?=73:=ar;refine⟨rfl,_,rfl,_,rfl,rfl,_,aI,?_,?_⟩
   ·have:=eI ar;rw[a_,ba,eS];lia
   ·rw[gp,dZ ar,a_,a_,d5];rfl
  ·rw[B05];rw[IJ,eK];exact k D cO
abbrev Zn:bK:=bA 0x2a
theorem Zo:31 483 483 Zn:=⟨rfl,rfl,rfl,05,rfl,05,05⟩
inductive IT(C:ag)(vs:08)(H:av)(Q:aW)(E:bD):04|mk:m21 (vs=349 459→oK C H a m→707→051→a88→(∀p,H p=00→664 (322 H p (gy m x)))→IT C vs H Q E)
theorem apa(D:cq K ah l22 Zn 483 f fd)(O:443)(yk:220 i26 12)(AO:Pr P w K ah 02 aO 1 l28 483 (IM C))(tX:Pr P w K ah 02 aO 1 h66 483 (Ea C)):Pr P w K ah 02 aO 2 l22 483 (IT C):=by
 rw[A02 Zo]
 ·rw[C50];rfl
 ·obtain⟨a,x,m,rfl,aN,ai,ax,c1,k⟩:=h;have S:=Zo;rw[A01 (239 (318 (bM oA (bj AO 22 bb (77 0 1 ay)) (dq yk) (bO _)) ay) (bj tX 22 bb (77 0 1 ay)))];refine⟨_,rfl,_,rfl,a,x,m,rfl,aN,ai,ax,c1,_,_,rfl,rfl,_,rfl,359⟩
  ·rw[A33 263];have:=k p au;rw[gy,21 104]at this;rw[A10]
  ·refine⟨_,rfl,_,rfl,a,x,m,rfl,aN,e75,ax,263⟩;have:=k p au;rw[gy,23 951]at this;rw[A10]
abbrev O1:bK:=bA 0x26
theorem Zp:31 [35,885,"known","code"] 549 O1:=⟨rfl,rfl,rfl,05,rfl,05,05⟩
inductive yl(K:bo)(CM:ag)(CS:ag)(vs:08)(H:av)(Q:aW)(E:bD):04|mk:∀(a c:ag)(sy:cv)(codes:10),vs=349 655→267→aJ K H c (aT codes)→81≤12→(841 (Q (tU (nd 75 codes)) H'))→yl K CM CS vs H Q E
theorem apb(D:cq K ah d04 O1 549 f fd)(O:443)(M:268)(yk:220 i26 12)(pV:Pr P w K ah 02 aO 1 f49 840 AN):Pr P w K ah 02 aO 2 d04 549 (yl K CM CS):=by
 rw[A02 Zp]
 ·obtain⟨a,c,sy,codes,rfl,_⟩:=h;rfl
 ·obtain⟨a,c,sy,codes,rfl,⟨dx,l,as,aL⟩,ar,hlen,k⟩:=h;have S:=Zp;rw[A01 (aF (bX (bM oA j79 (dq yk) (bO _)) (65 et) b2) (aF (952 2 (bj pV 22 bb 010)) (239 (711 62 3 (bM (D7 K rfl) 85 45 rfl) et) (OS K rfl fl (k9 rfl 242 c08 (own:=[("code",3)]) (295 [35,885,"known","code"] O1) 926 369 (286 (e6 XI 59 (hD K rfl h9 amz PySem.F.type_list_index (aoR K rfl) 45 845) 630)))))))];refine⟨_,rfl,c,_,rfl,.inl ar,_,_,rfl,rfl,_,rfl,359⟩
  ·have h':045<320 j90:=104;have:=k H 517;rw[nd,21 r24]at this;rw[A10]
  ·have h':¬045<320 j90:=951;have ax:p00≤12:=r24;rw[nd,124]at k;refine⟨_,rfl,a,CS,dx,_,_,rfl,aL.at_,20,o84,mg,_,rfl,jB 568,457⟩;have s1:aA H (322 H q 75):=422 aw;refine⟨_,rfl,c,rfl,404 (s1.seq ar),hN (K:=K) (a:=c) (xs:=j90) (701 (σ=[248,958,873,v]∧H'=322 H q 75∧(m61).all (575 (sy.letters.any (973 (762 l c))))=01)) h04 (l31 (k33 (s1.seq ar))) ?_ ?_⟩
   ·rintro i y σ H' hi⟨v,rfl,rfl,dQ⟩;rw[B64 hi];refine⟨_,rfl,_,rfl,q,a_ 75,rfl,306 aI,rfl,Eb _,_,rfl,?_⟩;rw[IS]
    cases aa:sy.letters.any (724 (29 (44=z)))with
     |true=>rw[A21 (072 _ ?_)];rw[dZ hz,AP,dQ];simp[aa]
     |false=>
      refine c8 ?_;have:=k (322 H q 75) s1;rw[if_neg]at this
      ·rw[A10]
      ·intro q;have:=gB.mp q z (cG hz);rw[aa]at this;rw[A47]
   ·rintro σ H'⟨v,rfl,rfl,dQ⟩;rw[aT,ba,eK]at dQ;rw[A54 dQ];rw[A03 282 ⟨_,rfl,c,rfl,404 (s1.seq ar),436⟩];have s2:∀o,aA H (upd (322 H q 75) D o):=737 (807 832);have ym:q≠D:=bT aI cO;refine kC (K:=K) (a:=c) (xs:=j90) (h05 (322 H q 75) (g64 m61 (515 [231]))) rfl (fun i H' _ e=>k33 ((s2 _).seq ar)) ?_ ?_
    ·rw[B83];rw[B64 hi];obtain⟨j,af,ak,a6⟩:=ao8 (gB.mp dQ z (cG hz));have lP:334 (322 H q 75) D (g64 m61 (515 [231])) q=259 75:=o35 (aE ym);refine⟨rfl,_,rfl,a,CS,dx,_,_,rfl,s2 _ _ _ aL.at_,20,o84,mg,_,rfl,329 lP,_,rfl,q,a_ 75,488,j,48 231,rfl,rfl,32 lP,rfl,Eb _,?_,?_,?_,_,_,231,rfl,rfl,?_,?_,_,aI,?_,?_⟩
     ·rw[a_,cK,af];rfl
     ·show(52 231==z)=01;rw[ak];exact 201 z
     ·intro m j9 hm zr;obtain⟨n,aU,rfl⟩:=v3 zr;show(44==z)=09;exact 962 (a6 m n hm aU)
     ·rw[dB];exact jB 568
     ·exact fm af
     ·rw[ba,eS];rw[A14 (show 255 by lia)]
     ·rw[gp,dZ hz,d5];rfl
    ·rw[B05];rw[aT,ba,eK];have tY:(codes.map (16 (515 [231])))=(e73 i89 [c]).map ae.str:=by rw[gP,gP];rfl
     refine⟨_,D,e73 i89 [c],rfl,rfl,306 (by rw[aI,tY]),?_,?_⟩
     ·have aK:(m92 (e73 i89 [c])).sum=p00:=by
       rw[gP,gP];clear tY k dQ h h' ar ax
       induction codes with|nil=>rfl|cons a r ih=>rw[eN,w8,ih,dR];show 1+230=_;lia
      rw[aK,show 11 a74=0 by rfl];lia
     ·rw[Zl];exact k _ (s2 _)
structure iF(ah:261):04 where
 zip:ah 380=00
 sum:ah "sum"=00
 abs:ah "abs"=00
 any:ah "any"=00
 all:ah "all"=00
 list:ah 499=00
 range:ah 509=00
 len:ah "len"=00
theorem Zq(w:06)(c:Nat):YT (aP w) (001 c)=rm w c:=by
 rw[count_cnt];show PyProof.Rows.cnt c w=_;unfold rm
 induction w with
  |nil=>rfl
  |cons a r ih=>
   rw[iO,cnt_cons,ih];rw[A39 (a=c)]
   ·rw[114,21 (by rw[h];exact 201 c),dR];lia
   ·rw[125,23 (58 (h (a02 q)))];lia
theorem fa(l:10):g25 (aT l):=by rw[aT,ba]
theorem AQ(a b:10):aT (a++b)=aT a++aT b:=r07
abbrev O2:bK:=bA 6
theorem Zr:31 [304,257,256,h68] [304,257,256] O2:=⟨rfl,rfl,rfl,05,rfl,05,05⟩
inductive IU(vs:08)(H:av)(Q:aW)(E:bD):04|mk:∀(ls a b:06),vs=[76 ls,76 a,76 b]→284≤12→(∀p,H p=00→664 (520 H p (fO ls a b)))→IU vs H Q E
theorem apc(D:cq K ah k86 O2 [304,257,256] f fd):Pr P w K ah 02 aO 1 k86 [304,257,256] IU:=by
 rw[A02 Zr]
 ·obtain⟨ls,a,b,rfl,_⟩:=h;rfl
 ·obtain⟨ls,a,b,rfl,ax,k⟩:=h;have S:=Zr;rw[A01 (65 (k9 rfl 242 (Io 252) (own:=[(h68,3)]) (295 [304,257,256,h68] O2) 926 369 (286 (eu r7 (DZ r23 r22 YS 62 85) (DZ r23 r22 YS 45 85)))))];refine⟨_,rfl,_,rfl,436⟩;refine Y9 (h05 H (aT (442 (fO ls a b)))) rfl ?_ ?_
  ·rintro i c H' ar rfl;have ar:ls[i]?=73:=ar;refine⟨rfl,_,rfl,282,_,rfl,_,_,rfl,rfl,_,rfl,282,_,rfl,_,_,rfl,rfl,_,_,rfl,rfl,_,aI,?_,?_⟩
   ·rw[fa,eS];rw[A14 (show 255 by have:=eI ar;lia)]
   ·have e:(fO ls a b)[i]?=some (rm a c-rm b c):=by rw[fO,cK,ar];rfl
    rw[gp,dZ e,AQ,Zq,Zq];rfl
  ·rw[B05];rw[IJ,show 284=11 (fO ls a b)by simp[fO],eK];exact k D cO
theorem Zs{g:iv}{vs:06}{σ:bq}(Pv:599)(h0:Pv 0 695)(ax:∀i H,617→463∧aJ K H b ys)(aL:∀i x y T H,441=43→ys[i]?=270→H T=00→617→g c51 297 (388 H T [x,y]) (fun c6 aB=>708=297∧tt c6 aB (fun b a5=>39 b (c7 c6 a5 (fun y bP=>∃acc,bP D=700∧706∧e78 (i+1) [y])) (Pv (i+1) a5))))(hd:∀H,Pv d74 H→qV H):∃W:240 599,(∃m,W 0 m 695)∧∀i m H,W i m H→(800 (DW K a b)∧qV H)∨((DW K a b).go i H∧∃hh:855,(c58 (eg<m∧W (i+1) eg H'))∧∀x H',(DW K a b).mL i H x H'→g x 297 H' (fun c6 aB=>708=297∧c88 b (bP D=700∧706∧c29 [y]))):=by
 rw[B12 (m=d74-i∧i≤d74∧617) ⟨_,rfl,229,h0⟩];rw[B20];obtain⟨eY,dW⟩:=ax i H p;by_cases cM:i<d74
 ·have af:i<57:=03;have ak:i<674:=03;refine .inr ⟨⟨xs,ys,xs[i],ys[i],eY,dW,cA af,cA ak⟩,361,fun H' q=>⟨d74-(i+1),03,rfl,03,q⟩,?_⟩;rintro v H'⟨T,x,y,rfl,bR,rfl,ai,aC⟩;exact aL i x y T H (ai xs eY) (aC ys dW) bR p
 ·rw[A50 (i=d74)];subst e;rw[A23 ⟨xs,ys,eY,dW,03⟩ (hd H p)]
abbrev O3:bK:=bA 8
theorem Zt:31 [573,b45,"weight",f46] b85 O3:=⟨rfl,rfl,rfl,05,rfl,05,05⟩
inductive AR(K:bo)(vs:08)(H:av)(Q:aW)(E:bD):04|mk:∀(p q:ag)(a b:10),vs=[280,a99]→aJ K H p (aT a)→aJ K H q (aT b)→733≤12→(∀x∈b,-(2^402)<x∧x<2^402)→(841 (Q (.int (hc a b)) H'))→AR K vs H Q E
theorem aAQ{a b:10}{x y:Int}(af:a[i]?=43)(ak:b[i]?=270):(kQ (fun x y=>x*y) a b)[i]?=some (x*y):=by rw[zD,af,ak]
theorem apd(D:cq K ah f30 O3 b85 f fd)(O:347):Pr P w K ah 02 aO 1 f30 b85 (AR K):=by
 rw[A02 Zt]
 ·obtain⟨p,q,a,b,rfl,_⟩:=h;rfl
 ·obtain⟨p,q,a,b,rfl,au,aw,ax,aa,k⟩:=h;have S:=Zt;rw[A01 (65 (d6 (aoS K rfl rfl) 66 O.sum boot_sum (78 (k9 rfl 242 (Za K rfl rfl O.zip (461 0 1)) (own:=[("weight",2),(f46,3)]) (295 [573,b45,"weight",f46] O3) (f47 (tS K rfl (n:=2) rfl (kX (98 2 rfl 70) (kX (98 3 rfl 70) tH)))) 369 (286 (eu vD 45 85))))))];refine⟨_,rfl,_,rfl,p,q,_,_,rfl,au,aw,436⟩;refine Zs (K:=K) (a:=p) (b:=q) (xs:=aT a) (ys:=aT b) (884 (49∧H' D=79 (442 (kQ (i00 (x*y)) a b)))) ⟨832,aI⟩ (fun i H' z=>⟨z.1.seq au,z.1.seq aw⟩) ?_ ?_
  ·rintro i x y T H' ai aC bR⟨s1,af⟩;obtain⟨x,sq,rfl⟩:=oL ai;obtain⟨y,qR,rfl⟩:=oL aC;have yj:D≠T:=bT af bR;have hi:=eI sq;refine⟨T,_,rfl,e35,rfl,_,_,rfl,_,_,rfl,rfl,rfl,_,rfl,_,rfl,_,_,rfl,rfl,.inr (aa y (cG qR)),_,41 yj af,?_,?_,?_⟩
   ·rw[fa,eS];rw[A14 (show 255 by lia)]
   ·refine k60 ?_;have aK:=s1 c o e;rw[aE (88 (c≠D) (16 (by rw[z,cO]at e;cases e))),110 aK bR];exact aK
   ·rw[aI,dZ (aAQ sq qR),AQ];rfl
  ·rintro H'⟨s1,af⟩;refine⟨D,kQ (i00 (x*y)) a b,rfl,32 ?_,k H' s1⟩;rw[af,fa,fa,←qw (f:=fun x y:Int=>x*y),eK];rfl
abbrev Zu:bK:=bA 9
theorem Zv:31 [381,726,365,"other","rest"] [381] Zu:=⟨rfl,rfl,rfl,05,rfl,05,05⟩
inductive O4(K:bo)(vs:08)(H:av)(Q:aW)(E:bD):04|mk:∀(p:ag)(r:10),vs=717→aJ K H p (aT r)→Q (48 767) H→O4 K vs H Q E
theorem ape{z:Int}(h:r[i]?=415):g34 (i+1)=qm (g34 i) z.natAbs:=by rw[dZ h,gb,s7];rfl
theorem Zw(z:Int):(13 (z<0) (-z) z)=15 z.natAbs:=q24
theorem apf(D:cq K ah o98 Zu [381] f fd)(O:347):Pr P w K ah 02 aO 1 o98 [381] (O4 K):=by
 rw[A02 Zv]
 ·rw[D36];rfl
 ·obtain⟨p,r,rfl,au,k⟩:=h;have S:=Zv;rw[A01 (389 1 bu (e_ eL rfl (339 252) (98 2 rfl 70) (018 3 (d6 W2 66 O.abs boot_abs 698) (tI eL (bM k4 (J 3) bu (bO _)) (90 4 (eu Hz 62 85) (94 1 85) (aM (94 3 327)))))) 62)];refine⟨_,rfl,p,rfl,404 au,hN (K:=K) (a:=p) (xs:=aT r) (504 (∃v2 fb v4:93,σ=[444,71 (g34 i),v2,fb,v4]∧H'=H)) ⟨00,00,00,rfl,rfl⟩ (fun i σ H' _⟨_,_,_,_,e⟩=>by rw[e];exact au) ?_ ?_⟩
  ·rintro i y σ H' hi⟨v2,fb,v4,rfl,rfl⟩;rw[B64 hi];refine⟨_,rfl,_,rfl,?_⟩;rw[Zw];refine M_ (o80 (∃(g o:Nat)(v4:93),σ=[444,71 g,some 488,71 o,v4]∧H'=_∧qm g o=g34 (i+1))) (fun σ _=>match σ with|[_,_,_,some (.int o),_]=>o.toNat|_=>0) ⟨g34 i,z.natAbs,v4,rfl,rfl,567 (ape hz)⟩ ?_ ?_
   ·rintro σ aB⟨g,o,v4,rfl,rfl,a4⟩;refine⟨_,rfl,rfl,_,rfl,?_⟩;by_cases a8:o=0
    ·subst a8;rw[Nat.gcd_zero_right]at a4;rw[←a4];exact b_ ⟨some 488,71 (0:Nat),v4,rfl,rfl⟩
    ·have d9:¬(a38 o=426 0):=58 (a8 (by injection q with q;lia));rw[113 d9];refine c8 ⟨_,rfl,_,rfl,_,_,rfl,rfl,03,_,rfl,_,rfl,⟨o,g%o,601 (15 g%15 o),?_,rfl,?_⟩,?_⟩
     ·rw[Int.natCast_emod];rfl
     ·rw[Nat.gcd_comm,←Nat.gcd_rec,Nat.gcd_comm];exact a4
     ·show 271 (15 g%15 o)<(o:Int).toNat;have:=Nat.mod_lt g (show o>0 by lia);lia
   ·rintro σ aB Zx Zy aw⟨v,e,sc,k,mA,q⟩;exact⟨v,e,sc,k,mA,aw _ _ q⟩
  ·rintro σ H'⟨v2,fb,v4,rfl,rfl⟩;rw[fa,eK];rw[A15 k]
abbrev O5:bK:=bA 0xa
theorem Zz:31 [243,089,365] [243] O5:=⟨rfl,rfl,rfl,05,rfl,05,05⟩
theorem apg:gs X (r6 o99) (e77 (fun _ j=>0<j∧j.natAbs.log2<9000) (i/j)):=l87 (by have af:413<j:=ar.1;exact WM 03 (b59 (alc i 03)) (.inl (aph ar.2)))
theorem api:gs X (r6 o99) (e77 (fun _ j=>j≠0∧j.natAbs.log2<9000) (i.fdiv j)):=Dn (r21 (WM ar.1 q (.inl (aph ar.2))))
inductive IV(K:bo)(vs:08)(H:av)(Q:aW)(E:bD):04|mk:∀(p:ag)(r:10),vs=717→H p=715→n06→(767).log2<9000→(∀H' q,49→H' q=79 b03→435 q)→IV K vs H Q E
theorem apj(D:cq K ah l16 O5 [243] f fd)(O:347)(O6:Pr P w K ah 02 aO 1 o98 [381] (O4 K)):Pr P w K ah 02 aO 2 l16 [243] (IV K):=by
 rw[A02 Zz]
 ·rw[D36];rfl
 ·obtain⟨p,r,rfl,au,ax,apk,k⟩:=h;have S:=Zz;rw[A01 (516 (952 1 (340 O6)) (bX (bM ka (J 1) bu (bO _)) (65 252) b2) (k9 rfl 242 j84 (own:=[(365,2)]) (295 [243,089,365] O5) g98 369 (286 (eu apg 45 62))))];refine⟨_,rfl,p,r,rfl,32 au,_,rfl,_,_,rfl,rfl,_,rfl,359⟩
  ·have h':52 767<2:=104;rw[jH,118]at k;rw[A15 (k H p 517 au)]
  ·have h':¬52 767<2:=951;rw[jH,124]at k;refine⟨_,rfl,p,rfl,224 au,436⟩;have yj:p≠D:=bT au cO;refine kC (K:=K) (a:=p) (xs:=aT r) (h05 H (aT (442 (j55 (n/928))))) rfl (i70 (41 yj au)) ?_ ?_
   ·rw[B83];rw[B64 hi];refine⟨rfl,_,rfl,_,rfl,_,_,rfl,rfl,⟨03,by rw[UJ];exact apk⟩,_,aI,?_,?_⟩
    ·rw[fa,eS];rw[A14 (show 255 by have:=eI hz;lia)]
    ·have e:(r.map fun n=>n/(gb r:Int))[i]?=some (z/928):=by rw[cK,hz];rfl
     rw[gp,dZ e,AQ];rfl
   ·rw[B05];refine k _ D 832 ?_;rw[aI,fa,show 230=11 (j55 (n/928))by simp,eK]
def mQ(c:ag)(i:Nat):324:=cC 730 (48 i) (238 d09 c [])
theorem O7:273 (mQ c i) d09=958:=r20
theorem yn:g11 (mQ c i)=71 i:=r20
theorem ZA{z:Int}(h:z=15 j):cC 730 488 (mQ c i)=mQ c j:=by subst h;unfold mQ;rfl
theorem ke{m:Str}(h:¬m=730:=by decide+kernel)(ak:¬m=d09:=by decide+kernel):805 (mQ c i) m=00:=by unfold mQ;rw[e2,125,e2,146];rfl
structure sz(K:bo)(C:ag):04 where
 cl:h4 K C
 calls:245 d09
 ea:245 730
inductive mh(C:ag)(H:av)(a:ag)(c:ag)(i:Nat):04|mk:∀dx,H a=482 C (mQ c i)→mh C H a c i
def gZ(a:ag)(H H':av):04:=374 (H b) (b≠a→244=25)
theorem gZ.trans(x:gZ a H H1)(y:gZ a H1 aB):gZ a H aB:=k93 (y b o (x b o e n) n)
theorem gZ.upd{o:dz}:gZ a H (Internal.upd H a o):=l90 (aE n)
theorem aA.but(h:49):802 a:=o50 (h b o e)
theorem gZ.seq{bl:324}(x:802 a)(aN:H a=853)(h:aJ K H c xs):aJ K H' c xs:=by
 rw[C28]
 ·rw[A17 (.inl (x _ _ h (355 h aN)))]
 ·rw[A17 (.inr ⟨o,x _ _ h (355 h aN)⟩)]
 ·rw[A09 h]
theorem ZC(h:759 (i+n)){z u:Int}(hz:z=249)(bp:u=52 (i+n)):mb xs 415 56=222 (xs.drop i) n:=by subst hz bp;unfold mb;rw[HT.sa,HT.sa];rw[176,176];congr 1;lia
abbrev ZD:bK:=343 0x78 1
theorem apl:31 251 251 ZD:=⟨rfl,rfl,rfl,05,rfl,05,05⟩
inductive O8(K:bo)(C:ag)(vs:08)(H:av)(Q:aW)(E:bD):04|mk:∀(a c:ag)(i:Nat)(ns:10),vs=254→mh C H a c i→063 c→446 (29 (i=314))→O8 K C vs H Q E
theorem apm(F:hC K "is_at_end" "CallReader.is_at_end" ZD f fd)(O:443)(M:sz K C):eP P w K ah 02 aO 1 f fd 251 (O8 K C):=by
 rw[A36 apl]
 ·obtain⟨a,c,i,ns,rfl,_⟩:=h;rfl
 ·obtain⟨a,c,i,ns,rfl,⟨dx,aN⟩,ar,k⟩:=h;rw[A01 (65 (Ab fv 59 c91 (bO _)))];refine⟨_,rfl,a,C,dx,_,_,rfl,aN,20,M.ea,yn,_,rfl,a,C,dx,_,_,rfl,aN,20,l19,O7,c,_,rfl,.inl ar,rfl,?_⟩;have e:a34 249 (320 039)=29 (i=314):=by
   rw[aT,ba];by_cases q:i=314
   ·rw[q];simp
   ·rw[113 q,decide_eq_false];intro z;injection z with z;lia
  rw[e];exact k
abbrev ZE:bK:=343 0x78 2
theorem apn:31 251 251 ZE:=⟨rfl,rfl,rfl,05,rfl,05,05⟩
inductive AS(K:bo)(C:ag)(vs:08)(H:av)(Q:aW)(E:bD):04|mk:∀(a c:ag)(i:Nat)(ns:10)(z:Int),vs=254→mh C H a c i→063 c→ns[i]?=415→(∀H',mh C H' a c (i+1)→802 a→Q (.int z) H')→AS K C vs H Q E
theorem apo(F:hC K h54 "CallReader.take_number" ZE f fd)(M:sz K C):eP P w K ah 02 aO 1 f fd 251 (AS K C):=by
 rw[A36 apn]
 ·obtain⟨a,c,i,ns,z,rfl,_⟩:=h;rfl
 ·obtain⟨a,c,i,ns,z,rfl,⟨dx,aN⟩,ar,hz,k⟩:=h;rw[A01 (239 (Xh 252 bu Xj) (a52 (eu r7 59 bu)))];refine⟨_,rfl,a,C,dx,_,_,rfl,aN,20,M.ea,yn,_,_,rfl,rfl,dx,_,aN,298 2,?_⟩;rw[ZA (i:=i) (j:=i+1) 03];refine⟨_,rfl,a,C,dx,_,_,rfl,aI,20,l19,O7,_,rfl,a,C,dx,_,_,rfl,aI,20,M.ea,yn,_,_,rfl,rfl,c,039,_,488,rfl,rfl,gZ.upd.seq aN ar,?_,k _ ⟨dx,aI⟩ gZ.upd⟩;rw[show(52 (i+1)-1)=249 by lia];refine fm ?_;rw[aT,cK,hz];rfl
abbrev ZF:bK:=343 0x78 3
theorem ZG:31 [352,"size"] 251 ZF:=⟨rfl,rfl,rfl,05,rfl,05,05⟩
inductive AU(K:bo)(C:ag)(vs:08)(H:av)(Q:aW)(E:bD):04|mk:∀(a c:ag)(i n:Nat)(ns:10),vs=254→mh C H a c i→063 c→ns[i]?=some 44→i+1+n≤314→(g44 (mh C H' a c (i+1+n)) (802 a→H p=00→416=79 (222 (976 (i+1)) n)→412))→AU K C vs H Q E
theorem apq(F:hC K h53 "CallReader.take_row" ZF f fd)(M:sz K C)(apr:jb P w K ah 02 aO 1 C h54 251 (AS K C)):eP P w K ah 02 aO 2 f fd 251 (AU K C):=by
 rw[A36 ZG]
 ·obtain⟨a,c,i,n,ns,rfl,_⟩:=h;rfl
 ·obtain⟨a,c,i,n,ns,rfl,⟨dx,aN⟩,ar,aU,hi,k⟩:=h;have S:=ZG;rw[A01 (389 1 (gv apr 20 22 bb 252) (Xh 252 62 Xj) (pM b18 59 (ma (eu r7 59 62)) (ma 59)))];refine⟨_,rfl,a,dx,_,rfl,aN,ke,a,c,i,ns,_,rfl,⟨dx,aN⟩,ar,aU,fun H1⟨mi,je⟩b9=>?_⟩;rw[A96 aN ar];refine⟨_,rfl,a,C,mi,_,_,rfl,je,20,M.ea,yn,_,rfl,_,_,rfl,rfl,mi,_,je,298 2,?_⟩;rw[ZA (i:=i+1) (j:=i+1+n) 03];refine⟨_,rfl,a,C,mi,_,_,rfl,aI,20,l19,O7,_,rfl,a,C,mi,_,_,rfl,aI,20,M.ea,yn,_,rfl,_,_,rfl,rfl,_,rfl,_,rfl,a,C,mi,_,_,rfl,aI,20,M.ea,yn,_,rfl,c,039,rfl,gZ.upd.seq je lQ,263⟩;rw[ZC (i:=i+1) (n:=n) (by rw[aT,ba];lia) 03 rfl];have np:a≠p:=bT aI au;refine k _ p ⟨mi,o35 (aE np)⟩ ?_ ?_ ?_
  ·exact 38 (h83 gZ.upd) (aA.but 116)
  ·have yo:H1 p=00:=by rw[aE np.symm]at au;exact au
   cases e:H p with|none=>rfl|some o=>rw[b9 p o e np.symm]at yo;cases yo
  ·rw[aI,aT,←uZ,←wV];rfl
theorem aps(K:bo)(cj:X.K=K):Wz X (fun o i H Q=>∃(p:ag)(xs:08)(j:Nat)(v:ae),o=280∧i=48 j∧aJ K H p xs∧xs[j]?=54∧Q v H):=by subst cj;intro pins s σ H o i dA gV Q I rq Aj h;obtain⟨p,xs,j,v,rfl,rfl,aw,a3,q⟩:=h;cases rq;obtain⟨t,rfl⟩:=Aj;rw[B34 aw];rw[C06 a3];rw[B85];rw[B06];have bS:=eI a3;exact wpAny_getItem_list 965 03 03 r19 ⟨v,H,I,oE,q⟩
end
section
variable{b:ag}{op:CmpOp}
def gT(lw b1 lo dp lc:ag)(op dV:Bool):324:=cC l29 (.bN dV) (cC l30 (.bN op) (238 f50 lc (g36 dp (238 a00 lo (238 381 b1 (238 574 lw []))))))
section
variable{lw b1 lo dp lc:ag}{op dV:Bool}
theorem AV:273 (gT lw b1 lo dp lc op dV) 574=46 lw:=a01
theorem IW:273 (gT lw b1 lo dp lc op dV) 381=46 b1:=a01
theorem O9:273 (gT lw b1 lo dp lc op dV) a00=46 lo:=a01
theorem ZH:273 (gT lw b1 lo dp lc op dV) "levels"=46 dp:=a01
theorem Ec:273 (gT lw b1 lo dp lc op dV) f50=46 lc:=a01
theorem O_:273 (gT lw b1 lo dp lc op dV) l30=c53 op:=a01
theorem Pa:273 (gT lw b1 lo dp lc op dV) l29=c53 dV:=a01
theorem Pb(b:Bool):cC l30 a81 (gT lw b1 lo dp lc op dV)=gT lw b1 lo dp lc b dV:=r18
theorem apt(b:Bool):cC l29 a81 (gT lw b1 lo dp lc op dV)=gT lw b1 lo dp lc op b:=r18
theorem ZI:273 (gT lw b1 lo dp lc op dV) l27=00:=a01
theorem apu:273 (gT lw b1 lo dp lc op dV) o01=00:=a01
theorem IX:11 (gT lw b1 lo dp lc op dV)<1000:=680 (7<1000)
end
end
section
variable{A:rU}{B:Prop}{C CM CS D I a b bG c dx f p t:ag}{E Q:aH→aZ→Prop}{F:List (List Nat)}{K:bo}{M:Model}{N ps:List Str}{P:f3}{R:Result→aZ→Prop}{fD pos:Pos}{S:ag→Prop}{T:String}{us vs:List aH}{as:List ag}{aG e:dn}{aR:Array Ip}{acc:List (Str×ag)}{bx ek f1 u:aH}{o:Obj}{ah:Str→Option aH}{pins:List (ag×Obj)}{az:Option ag}{b0 c0 cR dS eh i j lv n t':Nat}{base h h':dk}{g l ls:List Nat}{cl:Str→Option ag}{cs ms r ws:List Int}{α β:Type}{fd:k6}{x:Str}{op:CmpOp}{outer:List Env}{own:List (Str×Nat)}{pl:Sem Bool}{q:Search}{s:dt}{sc:rp}{tk:Tok}{v:Word}{w:ff}{m:g0}{sy:cv}{cb:List (Option ae)}{xs ys:List ae}{y:ae}{H H' H1 aB eF:av}{X:dT}{r9:ae→ae→av→aW→Prop}{c7:ct}{tb:gH}
structure tZ(K:bo)(C:ag):04 where
 cl:h4 K C
 words:245 574
 Ed:245 381
 origins:245 a00
 levels:245 "levels"
 AW:245 f50
 yp:245 l30
 Ee:245 l29
def mj(ws:30):410:=ws.zipIdx.map (400 (a37 p.1,a38 p.2))
def AX(H:av)(v:ae):92 844|none=>v=.b4|some o=>∃t,v=784∧H t=294 [48 o.1,k14,k03]
def h_(ws:30):08:=ws.map (543 (515 w))
structure lR where
 a:ag
 dx:ag
 lw:ag
 b1:ag
 lo:ag
 dp:ag
 lc:ag
def lR.sA(R:lR)(b:ag):04:=b=R.a∨b=354∨b=368∨b=430∨b=475∨b=305
structure hP(C:ag)(H:av)(R:lR)(os:08)(q:d3):04 where
 at_:H R.a=710 228 (gT 354 368 430 475 305 q.op 732)
 eh:H 354=247 751
 nm:H 368=some (.e0 (mj 886))
 oM:H 430=247 os
 ol:k69=b34
 ok:∀(i:Nat)(v:ae)(o:844),os[i]?=54→j24=25→AX H v o
 lv:H 475=259 d23
 ek:H 305=259 452
 cR:354≠430
 dS:354≠475
 iX:354≠305
 sC:430≠475
 sl:430≠305
 xh:475≠305
def jk(R:lR)(H H':av):04:=374 (H b) (¬c86→244=25)
theorem jk.trans{R:lR}(x:jk R H H1)(y:jk R H1 aB):jk R H aB:=k93 (y b o (x b o e n) n)
theorem jk.upd{R:lR}{o:dz}(h:R.sA p):jk R H (Internal.upd H p o):=l90 (170 (n q72))
theorem Pc{ws:30}{w:06}(h:w∉ws):ja (mj ws) (a37 w)=00:=by
 have key:∀(l:List (06×Nat)),(∀p∈l,p.1≠w)→ja (363 (400 ((a37 p.1:cF),a38 p.2))) (a37 w)=00:=by
  intro l
  induction l with
   |nil=>intro _;rfl
   |cons p r ih=>
    intro au;rw[eN,Av]
    ·exact ih (fun ky IP=>au ky (005 IP))
    ·intro z;have j9:aP p.1=aP w:=MQ z;exact au p 999 (q71 (109 c5 j9))
 refine key _ (fun p au z=>h ?_);have:=List.mem_zipIdx au;rw[←z];exact this.2.2▸141
theorem apv(ws:30)(w:06):mj (ws++[w])=mj ws++[(a37 w,a38 o22)]:=by unfold mj;rw[List.zipIdx_append,d5];simp
theorem hn(l:06):g25 (a_ l):=by rw[a_,ba]
theorem AY(a b:06):a_ (a++b)=a_ a++a_ b:=by rw[a_,a_,a_,d5]
theorem ZJ(l:06)(i n:Nat):a_ (l.set i n)=(a_ l).set i b11:=by rw[a_,a_,List.map_set]
theorem apw(a b:30):h_ (a++b)=h_ a++h_ b:=by rw[h_,h_,h_,d5]
theorem IY(h:j<n):qM n (15 j)=some j:=by unfold qM;rw[118];first|(rw[118];simp)|simp[h]
theorem ZK(h:i<63):k56 i=71 (834 i:Nat):=i58 (cA h) h
theorem ZL(n:Nat):44+1=52 (n+1):=rfl
theorem Ef(h:n≤1000):n<bc:=fL h 14
abbrev ZM:bK:=343 0x36 1
theorem ZN:31 [352,235,h98,f24] [352,235,h98,f24] ZM:=⟨rfl,rfl,rfl,05,rfl,05,05⟩
inductive IZ(C:ag)(vs:08)(H:av)(Q:aW)(E:bD):04|mk:∀(R:lR)(os:08)(q:d3)(x:06)(l:Nat)(dA:ae)(o:844),vs=[.ref R.a,459,48 l,dA]→hP C H R os q→AX H dA o→x∉886→l≤b58→302≤979→b34≤979→r16≤979→b58≤979→(∀H',hP C H' R (os++[dA]) (n_ q x l o)→jk R H H'→909)→IZ C vs H Q E
theorem apx(F:hC K l27 "Search.note_word" ZM f fd)(O:443)(M:tZ K C):eP P w K ah 02 aO 1 f fd [352,235,h98,f24] (IZ C):=by
 rw[A36 ZN]
 ·obtain⟨R,os,q,x,l,dA,o,rfl,_⟩:=h;rfl
 ·obtain⟨R,os,q,x,l,dA,o,rfl,h,a8,ai,ax,hQ,es,jC,t2,k⟩:=h;have S:=ZN;have bp:=D2 aq;rw[A01 (aF (anz bp 59 62 c91 rfl) (aF (fK (hD K rfl h9 sD sE qQ 59 296)) (aF (fK (hD K rfl h9 sD sE qQ 59 845)) (aF (fK (hD K rfl h9 sD sE qQ 59 698)) (434 (bX (bM fv (J 2) c91 (bO _)) (aM (fK (hD K rfl h9 sD sE qQ 59 755))) b2) (akO 59 45 (aps K rfl) bu z4 TX))))))];have Pd:R.a≠368:=835 h.nm;have Eg:R.a≠354:=835 h.eh;have I0:R.a≠430:=835 h.oM;have Pe:R.a≠475:=835 h.lv;have I1:R.a≠305:=835 h.ek;have ZO:368≠354:=355 h.nm h.eh;have ZP:368≠430:=355 h.nm h.oM;have ZQ:368≠475:=355 h.nm h.lv;have ZR:368≠305:=355 h.nm h.ek;have wl:11 751=302:=l24;have nl:11 (mj 886)=302:=by rw[mj,ba,ZS]
  refine⟨_,rfl,R.a,C,228,_,_,rfl,673,20,d22,AV,354,751,rfl,306 h.eh,_,rfl,R.a,C,228,_,_,rfl,673,20,M.Ed,IW,_,rfl,368,_,rfl,DO.k (k:=c71) h.nm (by rw[nl];exact 175),?_⟩;rw[ang _ (Pc ai),wl,←apv];have I2:upd H 368 (.e0 e45) R.a=710 228 (gT 354 368 430 475 305 q.op 732):=41 Pd 673;have ZT:upd H 368 (.e0 e45) 354=247 751:=41 ZO.symm h.eh;refine⟨_,rfl,R.a,C,228,_,_,rfl,I2,20,d22,AV,329 ZT,_,rfl,354,_,_,rfl,rfl,ZT,by rw[wl];exact 175,?_⟩;have ZU:334 (e26 368 e45) 354 (751++[515 x]) 430=247 os:=by rw[aE h.cR.symm,aE ZP.symm];exact h.oM
  refine⟨_,rfl,R.a,C,228,_,_,rfl,41 Eg I2,20,k68,O9,329 ZU,_,rfl,430,_,_,rfl,rfl,ZU,by rw[h.ol];exact 175,?_⟩;have ZV:334 (34 (e26 368 e45) 354 (751++[515 x])) 430 (os++[dA]) 475=259 d23:=by rw[aE h.sC.symm,aE h.dS.symm,aE ZQ.symm];exact h.lv
  refine⟨_,rfl,R.a,C,228,_,_,rfl,41 I0 (41 Eg I2),20,M.levels,ZH,329 ZV,_,rfl,475,_,_,rfl,rfl,ZV,h38 175,?_⟩;generalize yq:34 (34 (34 (e26 368 e45) 354 (751++[515 x])) 430 (os++[dA])) 475 (a_ d23++[a38 l])=bP;have Eh:bP R.a=710 228 (gT 354 368 430 475 305 q.op 732):=by rw[←yq,aE Pe,aE I0,aE Eg];exact I2
  have Ei:bP 305=259 452:=by rw[←yq,aE h.xh.symm,aE h.sl.symm,aE h.iX.symm,aE ZR.symm];exact h.ek
  have ZW:jk R H bP:=by rw[←yq];exact 547 (38 (g18 70) (jk.upd (en 70))) (g18 (en 70)) (g18 (en (en 70)))
  have fin:∀cs:06,n4 452 l=cs→hP C (322 bP 305 cs) R (os++[dA]) (n_ q x l o):=by
   intro cs iD;have apy:∀t u,H t=294 u→334 bP 305 (a_ cs) t=294 u:=fun t u e=>by
    have nm:¬R.sA t:=by
     rintro(z|z|z|z|z|z)<;>subst z
     ·rw[h.at_]at e;cases e
     ·rw[h.eh]at e;cases e
     ·rw[h.nm]at e;cases e
     ·rw[h.oM]at e;cases e
     ·rw[h.lv]at e;cases e
     ·rw[h.ek]at e;cases e
    exact(ZW.trans (g18 (en (en e93)))) t _ e nm
   have ZX:∀v dr,AX H v dr→AX (322 bP 305 cs) v dr:=fun v dr e=>by cases dr with|none=>exact e|some dr=>obtain⟨t,aK,aG⟩:=e;exact⟨t,aK,apy t _ aG⟩
   refine⟨41 I1 Eh,?_,?_,?_,?_,?_,?_,?_,h.cR,h.dS,h.iX,h.sC,h.sl,h.xh⟩
   ·show _=j76 (h_ a79);rw[aE h.iX,←yq,aE h.dS,aE h.cR,aI,apw];rfl
   ·show _=some (dz.e0 e45);rw[aE ZR,←yq,aE ZQ,aE ZP,aE ZO,aI]
   ·rw[aE h.sl,←yq,aE h.sC,aI]
   ·show _=11 (d06++[o]);rw[cn,cn,h.ol];rfl
   ·intro i v dr a3 ju;have ju:q14 i=some dr:=ju;rw[A65 (i<k69)]
    ·rw[mN hi]at a3;rw[mN (by rw[←h.ol];exact hi)]at ju;exact ZX v dr (h.ok i v dr a3 ju)
    ·have aBm:=h.ol;rw[166]at a3 ju;have dw:i-k69=0:=l83 a3;rw[dw]at a3;rw[←h.ol,dw]at ju;have aK:dA=v:=cI a3;have aG:o=dr:=cI ju;rw[B52];exact ZX dA o a8
   ·show _=j76 (a_ (d23++[l]));rw[aE h.xh,←yq,aI,AY];rfl
   ·show _=j76 (a_ (n4 452 l));rw[aI,iD]
  have ZY:∀o,jk R H (upd bP 305 o):=737 (ZW.trans (g18 (en (en e93))));refine⟨_,rfl,_,rfl,R.a,C,228,_,_,rfl,Eh,20,M.AW,Ec,305,_,rfl,306 Ei,rfl,_,rfl,eb (100 ?_) (100 ?_)⟩
  ·have tm:l=b58:=by have e:=121 e;injection e with e;rw[hn]at e;lia
   refine⟨_,rfl,R.a,C,228,_,_,rfl,Eh,20,M.AW,Ec,329 Ei,305,_,_,rfl,rfl,Ei,h38 175,?_⟩;have kU:a_ 452++[426 0]=a_ (452++[0]):=by rw[AY];rfl
   rw[kU];have cM:l<11 (452++[0]):=by rw[cn];simp;lia
   refine⟨_,rfl,R.a,C,228,_,_,rfl,41 I1 Eh,20,M.AW,Ec,_,rfl,305,a_ (452++[0]),l,48 ((452++[0]).getD l 0:Nat),rfl,rfl,e43,ZK cM,_,_,rfl,rfl,305,_,_,l,rfl,rfl,aI,IY r17,?_⟩;rw[gp];show Q .b4 (34 bP 305 ((a_ (452++[0])).set l (426 (52 ((452++[0]).getD l 0)+1))));rw[ZL,←ZJ];refine k _ (fin _ ?_) (ZY _);unfold n4;rw[21 tm]
  ·have tm:¬l=b58:=by intro z;refine e (102 ?_);rw[hn,z]
   have cM:l<b58:=03;refine⟨_,rfl,R.a,C,228,_,_,rfl,Eh,20,M.AW,Ec,_,rfl,305,a_ 452,l,48 (q.counts.getD l 0:Nat),rfl,rfl,32 Ei,ZK cM,_,_,rfl,rfl,305,_,_,l,rfl,rfl,Ei,IY r17,?_⟩;show Q .b4 (34 bP 305 ((a_ 452).set l (426 (52 (q.counts.getD l 0)+1))));rw[ZL,←ZJ];refine k _ (fin _ ?_) (ZY _);unfold n4;rw[23 tm]
theorem I3{g:iv}{D:lY}{σ:bq}(Pv:647)(h0:Pv 0 σ H)(ax:h28 (560→463))(aL:∀i x T σ H,441=43→H T=00→560→g c51 σ (388 H T [309,x]) (fun c6 aB=>b67 361 361 c6 aB))(hd:c73 m70 659):∃W:240 647,(∃m,W 0 m σ H)∧∀i m σ H,W i m σ H→(800 (DV K a)∧659)∨((DV K a).go i H∧∃N:409,f00 (N cb H'→∃eg,eg<m∧W (i+1) eg cb H') ((DV K a).mL i H x H'→g x σ H' (fun c6 aB=>a12 c6 aB))):=by
 rw[B09 (m=57-i∧759 i∧560) ⟨_,rfl,229,h0⟩];rw[B18];have eY:=ax i σ H p;rw[B42 i]
 ·refine .inr ⟨⟨xs,xs[i],eY,cA cM⟩,361,fun cb H' q=>⟨57-(i+1),03,rfl,03,q⟩,?_⟩;rintro v H'⟨T,x,rfl,bR,rfl,ai⟩;exact aL i x T σ H (ai xs eY) bR p
 ·rw[B43 i];subst e;rw[A23 ⟨xs,eY,64⟩ (hd σ H p)]
structure o4(q:d3):04 where
 ol:b34=302
 dp:r16=302
 wl:302≤315
 cl:b58≤302
 lt:∀l∈q.levels,l<b58
 I4:∀x∈q.words,707
theorem apz(cs:06)(l:Nat):11 (n4 cs l)=13 (l=383) (383+1) 383:=by unfold n4;rw[mC];split<;>simp
theorem o4.note{q:d3}{x:06}{l:Nat}{o:844}(g:o4 q)(hw:302<315)(ax:l≤b58)(ai:707):o4 (n_ q x l o):=by
 have aa:=apz 452 l;have af:=g.cl;refine⟨?_,?_,?_,?_,?_,?_⟩
 ·show 11 (d06++[o])=11 a79;rw[cn,cn,g.ol];rfl
 ·show 11 (d23++[l])=11 a79;rw[cn,cn,g.dp];rfl
 ·show 11 a79≤315;rw[cn];simp;lia
 ·show 11 (n4 452 l)≤11 a79;rw[cn,aa];simp;rw[B53]
 ·rw[B23];show z<11 (n4 452 l);have hz:z∈d23++[l]:=hz;rw[aa];rw[B39 hz]
  ·have:=g.lt z hz;rw[B53]
  ·have:z=l:=86 hz;rw[A88];rw[B53]
 ·rw[B23];have hz:z∈a79:=hz;rw[B39 hz]
  ·exact g.I4 z hz
  ·rw[86 hz];exact ai
theorem ZZ{n idx lv:Nat}{m:g0}{x:06}{q:d3}(h:732=01):∀ps:06,ps.foldl (ij n idx lv m x) q=q|[]=>rfl|p::r=>by rw[hv,show ij n idx lv m x q p=q by unfold ij;rw[114]];exact ZZ h r
theorem Z0{n len lv:Nat}{x:06}{q:d3}(h:732=01):∀ms:List (g0×Nat),ms.foldl (gz n len lv x) q=q|[]=>rfl|p::r=>by rw[hv,show gz n len lv x q p=q by unfold gz;rw[114]];exact Z0 h r
theorem AZ(f:β→α→β)(b:β){l:40}{x:α}(h:115=43):(l.take (i+1)).foldl f b=f ((648).foldl f b) x:=by rw[dZ h,s7];rfl
theorem Pf{x:06}{p:Nat}(au:p∈375):e07 p∧320 719=c26:=by
 have af:=ob.mp au;have ak:=g4.mp af.1;have a6:m_ m x p=01:=by have:=af.2;unfold uW at this;rw[hG,hG]at this;exact this.1.1
 have bH:=OW a6 03;rw[A27 bH];unfold fJ;rw[cn,cn,eS,fV,fV];lia
structure mR(q eU:d3):04 where
 lv:∀(i:Nat)(l:Nat),q.levels[i]?=some l→eU.levels[i]?=some l
 eh:∀(i:Nat)(x:06),q.words[i]?=43→eU.words[i]?=43
theorem mR.refl(q:d3):mR q q:=⟨a26,a26⟩
theorem mR.trans{a b c:d3}(x:mR a b)(y:mR b c):mR a c:=⟨fun i l h=>y.lv i l (x.lv i l h),fun i l h=>y.eh i l (x.eh i l h)⟩
theorem mR.note{q:d3}{x:06}{l:Nat}{o:844}:mR q (n_ q x l o):=by
 rw[A03 (fun i z h=>?_) (fun i z h=>?_)]
 ·show(q.levels++[l])[i]?=415;rw[mN (eI h)];exact h
 ·show(q.words++[x])[i]?=415;rw[mN (eI h)];exact h
theorem Z1{ws:30}{x:06}(h:x∈ws):736 (ja (mj ws) c71)=01:=by rw[←Ib];rw[A86 h];refine 161 (c71,426 249) ?_ 19;unfold mj;refine 143 (x,i) ?_;refine List.mem_iff_getElem?.mpr (328 i);rw[Gn,hi];simp
theorem hP.same{R:lR}{os:08}{q:d3}(h:hP C H R os q)(e:49):hP C H' R os q:=by
 refine⟨e _ _ 673,e _ _ h.eh,e _ _ h.nm,e _ _ h.oM,h.ol,o95 ?_,e _ _ h.lv,e _ _ h.ek,h.cR,h.dS,h.iX,h.sC,h.sl,h.xh⟩;have:=h.ok i v o af ak
 cases o with|none=>rw[A10]|some o=>rw[D35];exact⟨t,aK,e _ _ aG⟩
theorem hP.has{R:lR}{os:08}{q:d3}(h:hP C H R os q)(m:c86):∃o,H b=25:=by
 rcases m with z|z|z|z|z|z<;>subst z
 ·rw[A08 673]
 ·rw[A08 h.eh]
 ·rw[A08 h.nm]
 ·rw[A08 h.oM]
 ·rw[A08 h.lv]
 ·rw[A08 h.ek]
theorem hP.fresh{R:lR}{os:08}{q:d3}(h:hP C H R os q)(n:H b=00):¬c86:=285 (by obtain⟨o,e⟩:=h.has m;rw[n]at e;cases e)
theorem jk.same{R:lR}(x:jk R H H')(s:aA eF H)(m:∀b,c86→eF b=00):479 eF:=351 (x b o (s b o e) (16 (by rw[m b z]at e;cases e)))
theorem hP.put{R:lR}{os:08}{q:d3}(h:hP C H R os q)(op dV:Bool):hP C (upd H R.a (.ins C 228 (gT 354 368 430 475 305 op dV))) R os {q with op:=op,dV:=dV}:=by
 have Pd:R.a≠368:=835 h.nm;have Eg:R.a≠354:=835 h.eh;have I0:R.a≠430:=835 h.oM;have Pe:R.a≠475:=835 h.lv;have I1:R.a≠305:=835 h.ek;refine⟨aI,41 Eg.symm h.eh,41 Pd.symm h.nm,41 I0.symm h.oM,h.ol,o95 ?_,41 Pe.symm h.lv,41 I1.symm h.ek,h.cR,h.dS,h.iX,h.sC,h.sl,h.xh⟩;have:=h.ok i v o af ak
 cases o with|none=>rw[A10]|some o=>rw[D35];exact⟨t,aK,553 aG 673 aG⟩
theorem jk.self{R:lR}{o:dz}:jk R H (Internal.upd H R.a o):=jk.upd 70
abbrev Z2:bK:=bA 0x38
theorem Z3:31 [887,35,365,731,235,"index",313,"places",226,"given"] [887,35,365,731] Z2:=⟨rfl,rfl,rfl,05,rfl,05,05⟩
inductive Pg(CM:ag)(CS:ag)(C:ag)(vs:08)(H:av)(Q:aW)(E:bD):04|mk:∀(R:lR)(os:08)(q:d3)(bG:ag)(sy:cv)(n len:Nat)(eF:av),vs=[.ref R.a,h03,b11,48 len]→hP C H R os q→o4 q→732=09→n<302→len≤12→dK CM CS eF bG sy→(j54 051 a88)→(∀b,c86→eF b=00)→aA eF H→(∀H' oD,hP C H' R oD (qn sy n len q)→o4 (qn sy n len q)→mR q (qn sy n len q)→479 eF→909)→Pg CM CS C vs H Q E
theorem apA(D:cq K ah o94 Z2 [887,35,365,731] f fd)(O:443)(yr:i94=00)(M:tZ K C)(bJ:268)(apB:220 "MOST_FOUND" 315)(tX:Pr P w K ah 02 aO 1 h66 483 (Ea CM))(AO:Pr P w K ah 02 aO 1 l28 483 (IM CM))(kF:Pr P w K ah 02 aO 1 b39 932 e58)(Ph:jb P w K ah 02 aO 1 C l27 [352,235,h98,f24] (IZ C)):Pr P w K ah 02 aO 2 o94 [887,35,365,731] (Pg CM CS C):=by
 rw[A02 Z3]
 ·obtain⟨R,os,q,bG,sy,n,len,eF,rfl,_⟩:=h;rfl
 ·obtain⟨R,os,q,bG,sy,n,len,eF,rfl,h,g,kR,aU,hlen,⟨Ej,ls,as,aY⟩,q1,yt,s0,k⟩:=h;have S:=Z3;have bp:=D2 aq;rw[A01 (018 4 j81 (e_ eL rfl (II K rfl rfl yr (78 358)) (tS K rfl (n:=2) rfl (kX (98 5 rfl 70) (kX (98 6 rfl 70) tH))) (90 7 (bj tX 22 bb (77 6 4 ay)) (bX (bM oA (bj AO 22 bb (77 6 4 ay)) 85 (bO _)) (434 (557 (aky 59 (Wq (Ab oA (d6 (hO K rfl) 66 O.len eJ (384 7)) bu (bO _))))) Ho) b2) (aM (e_ eL rfl (339 (J 7)) (98 8 rfl 70) (90 9 (437 kF 6 8 4) (bX (MW (anw bp (J 9) 59)) (aM Ho) b2) (434 (bX (bM fv c91 (dq apB) (bO _)) (434 (557 l8) akH) b2) (fK (pm Ph 20 22 bb 252 (aj (J 9) (258 (eu qH j81 bu) (oC (77 2 5 (384 8))))))))))))))];obtain⟨x,ai⟩:∃x,q.words[n]?=43:=126 aU;obtain⟨lv,w6⟩:∃lv,q.levels[n]?=some lv:=126 (by rw[g.dp];exact aU);have ex:q.words.getD n []=x:=by rw[cZ,ai];rfl
  have c4:q.levels.getD n 0=lv:=by rw[cZ,w6];rfl
  have Pj:707:=g.I4 x (cG ai);have apC:∀{ws:30},ws[n]?=43→(h_ ws)[n]?=493:=100 (by rw[h_,cK,e];rfl);unfold qn at k;rw[ex,c4]at k;have Z4:=aY;refine⟨_,rfl,R.a,C,228,_,_,rfl,673,20,d22,AV,_,rfl,354,751,_,459,rfl,rfl,32 h.eh,fm (apC ai),?_⟩;refine⟨_,rfl,bG,CS,Ej,_,_,rfl,s0 _ _ 84,80,471,kE,ls,_,rfl,32 (s0 _ _ 301),I3 (K:=K) (a:=ls) (xs:=317) (504 (∃(ew v6 fM ia pW:93)(oD:08),σ=[a73,a96,610,71 len,493,ew,v6,fM,ia,pW]∧hP C H' R oD ((d45).foldl (gz n len lv x) q)∧o4 ((d45).foldl (gz n len lv x) q)∧mR q ((d45).foldl (gz n len lv x) q)∧((d45).foldl (gz n len lv x) q).dV=09∧479 eF)) ⟨00,00,00,00,00,os,rfl,h,g,mR.refl q,kR,s0⟩ (fun i σ H'⟨_,_,_,_,_,_,_,_,_,_,_,s1⟩=>32 (s1 _ _ 301)) ?_ ?_⟩
  ·rintro i y T σ H' aC bR⟨ew,v6,fM,ia,pW,v5,rfl,af,g1,yu,yv,s1⟩;rw[B11 (325=360∧y=281) (by
    rw[A58]
    cases e:325 with|none=>rw[A30];cases aC|some b=>rw[A30];rw[A76 b aC])];have hi:i<099:=f68 aa;rw[B14 (g20=794) hi];have I5:r05 i=some 660:=r04;rw[B21 (aY.cw i b m aa hm)];obtain⟨oN,pX⟩:=q1 m a76;rw[AZ _ _ I5];generalize pY:(d45).foldl (gz n len lv x) q=bg at af g1 yu yv⊢;have b0:∀H' oD,bg.dV=09→hP C H' R oD (gz n len lv x bg 660)→o4 (gz n len lv x bg 660)→mR q (gz n len lv x bg 660)→(gz n len lv x bg 660).dV=01→479 eF→909:=by
    intro H' oD _ aK aG cp ej nv;have:r15 (gz n len lv x) q=gz n len lv x bg 660:=by have e:o86=l21 (i+1)++sy.moves.zipIdx.drop (i+1):=162 _ _;rw[e,s7,AZ _ _ I5,pY];exact Z0 ej _
    rw[this]at k;exact k H' oD aK aG cp nv
   have s2:aA eF (388 H' T [309,281]):=807 (422 bR);refine⟨T,_,rfl,e35,rfl,_,_,rfl,_,_,rfl,rfl,?_⟩;refine⟨_,rfl,_,rfl,b,x,m,rfl,947 (106 g_),477 Pj,oN,263⟩;generalize pR:322 (388 H' T [309,281]) p 375=a5;have Ek:aA (388 H' T [309,281]) a5:=by rw[←pR];exact 116
   have s3:aA eF a5:=b50 Ek;have a6:hP C a5 R v5 bg:=af.same (38 (422 bR) Ek);have sF:a5 p=259 375:=by rw[←pR];exact aI
   have np:¬R.sA p:=(af.same (422 bR)).fresh au;refine⟨_,rfl,_,rfl,b,x,m,rfl,947 (83 g_),Pj,oN,pX,_,rfl,_,_,rfl,rfl,_,rfl,eb e68 e68⟩
   ·have oy:=m11;have sG:gz n len lv x bg 660={bg with op:=bg.op||c27 0 m x}:=by unfold gz;rw[23 r14,21 oy]
    have fin:hP C (upd a5 R.a (.ins C 228 (gT 354 368 430 475 305 (bg.op||c27 0 m x) bg.dV))) R v5 (gz n len lv x bg 660):=o97 (a6.put _ _);have El:∃(Em Pk Pl u8 Pm:93)(oD:08),([a73,a96,610,71 len,493,some 309,46 b,444,ia,pW]:bq)=[a73,a96,610,71 len,493,Em,Pk,Pl,u8,Pm]∧hP C (upd a5 R.a (.ins C 228 (gT 354 368 430 475 305 (bg.op||c27 0 m x) bg.dV))) R oD (gz n len lv x bg 660)∧o4 (gz n len lv x bg 660)∧mR q (gz n len lv x bg 660)∧(gz n len lv x bg 660).dV=09∧aA eF (upd a5 R.a (.ins C 228 (gT 354 368 430 475 305 (bg.op||c27 0 m x) bg.dV))):=⟨_,_,_,ia,pW,v5,rfl,fin,o97 ⟨g1.ol,g1.dp,g1.wl,g1.cl,g1.lt,g1.I4⟩,o97 ⟨yu.lv,yu.eh⟩,by rw[sG];exact yv,m65 s3⟩;refine⟨_,rfl,R.a,C,228,_,_,rfl,h97,20,M.yp,O_,_,rfl,eo g93 g93⟩
    ·refine⟨_,rfl,R.a,C,228,_,rfl,h97,20,M.yp,IX,?_⟩;rw[Pb];rw[a8,VJ]at El;exact El
    ·refine⟨_,rfl,p,_,rfl,306 sF,_,_,rfl,rfl,_,rfl,R.a,C,228,_,rfl,h97,20,M.yp,IX,?_⟩;rw[Pb];rw[a8,Cv]at El;have e:29 (413<320 (a_ 375))=c27 0 m x:=by
      rw[hn];by_cases z:0<11 (eR m x)
      ·rw[139,145]
      ·rw[113 z,133]
     rw[←e]at El;exact El
   ·have oy:¬(15 len<c26):=16 (ar 139);have sG:gz n len lv x bg 660=(375).foldl (ij n i lv m x) bg:=by unfold gz;rw[23 r14,23 oy]
    rw[sG]at b0⊢;refine⟨_,rfl,p,rfl,224 sF,hN (K:=K) (a:=p) (xs:=a_ 375) (f17 (∃(ia pW:93)(oD:08),σ=[a73,a96,610,71 len,493,some 309,46 b,444,ia,pW]∧hP C H' R oD ((527 375).foldl (ij n i lv m x) bg)∧o4 ((527 375).foldl (ij n i lv m x) bg)∧mR q ((527 375).foldl (ij n i lv m x) bg)∧((527 375).foldl (ij n i lv m x) bg).dV=09∧479 eF∧416=259 375)) ⟨ia,pW,v5,rfl,a6,g1,yu,yv,s3,sF⟩ (fun j σ H' _⟨_,_,_,_,_,_,_,_,_,e⟩=>32 e) ?_ ?_⟩
    ·rintro j y σ bP bS⟨u8,Pm,yw,rfl,bH,ey,q2,t4,s4,t5⟩;obtain⟨pl,eH,rfl⟩:=v3 bS;rw[AZ _ _ eH];generalize I6:(527 375).foldl (ij n i lv m x) bg=fz at bH ey q2 t4⊢;obtain⟨En,Eo⟩:=Pf (cG eH);have I7:156 954:=03;refine⟨_,rfl,_,rfl,_,rfl,b,x,m,pl,rfl,947 (103 g_),477 Pj,oN,pX,En,?_⟩;refine⟨_,rfl,_,rfl,R.a,C,228,_,_,rfl,h99,20,M.Ed,IW,368,_,rfl,qW.k (k:=a37 954) bH.nm,_,rfl,eo k22 k22⟩
     ·have fB:954∈fz.words:=by refine nk 521;rw[Pc z]at fc;cases fc
      have Ep:ij n i lv m x fz pl=fz:=by unfold ij;rw[205,21 fB]
      rw[Ep];exact⟨_,_,yw,rfl,bH,ey,q2,t4,s4,t5⟩
     ·have fB:¬954∈fz.words:=16 (by rw[Z1 z]at fc;cases fc);have Gb:11 (h_ fz.words)=o96:=l24;refine⟨_,rfl,R.a,C,228,_,_,rfl,h99,20,d22,AV,354,_,rfl,306 bH.eh,rfl,_,rfl,eb (fun I8=>?_) (fun I8=>?_)⟩
      ·have Pn:o96=315:=by have e:=121 I8;injection e with e;rw[Gb]at e;lia
       have Ep:ij n i lv m x fz pl=r13:=by unfold ij;rw[205,23 fB,21 Pn]
       refine⟨_,rfl,R.a,C,228,_,rfl,h99,20,M.Ee,IX,?_⟩;rw[apt];have apD:(375).foldl (ij n i lv m x) bg=r13:=by have e:375=222 375 (j+1)++472 375 (j+1):=162 _ _;rw[e,s7,AZ _ _ eH,I6,Ep];exact ZZ rfl _
       rw[apD]at b0;exact b0 _ yw yv (bH.put _ _) ⟨ey.ol,ey.dp,ey.wl,ey.cl,ey.lt,ey.I4⟩ ⟨q2.lv,q2.eh⟩ rfl (m65 s4)
      ·have Pn:¬o96=315:=16 (I8 (102 (by rw[Gb,z];rfl)));have Ep:ij n i lv m x fz pl=n_ fz 954 (lv+1) (some (n,i,pl)):=by unfold ij;rw[205,23 fB,23 Pn]
       have aaa:fz.levels[n]?=some lv:=q2.lv n lv w6;have aab:=ey.lt lv (cG aaa);have Er:=ey.wl;have af:=ey.ol;have ak:=ey.dp;have fX:=ey.cl;rw[Ep];refine⟨_,rfl,R.a,228,_,rfl,h99,ZI,_,rfl,_,rfl,R.a,C,228,_,_,rfl,h99,20,M.levels,ZH,_,rfl,475,a_ fz.levels,_,48 lv,rfl,rfl,32 bH.lv,fm (by rw[a_,cK,aaa];rfl),_,_,rfl,rfl,_,rfl,_,rfl,_,rfl,894 3,697⟩;refine⟨R,yw,fz,954,lv+1,784,some (n,i,pl),rfl,bH.same n20,⟨t,rfl,aI⟩,fB,03,03,03,03,03,fun de iT aac=>?_⟩;refine⟨_,_,_,rfl,iT,ey.note 03 03 I7,q2.trans mR.note,t4,aac.same (k31 n20) yt,aac p _ (335 t5 bk t5) np⟩
    ·rintro σ bP⟨u8,Pm,yw,rfl,bH,ey,q2,t4,s4,t5⟩;rw[hn,eK]at bH ey q2 t4;exact⟨_,_,_,_,_,yw,rfl,bH,ey,q2,t4,s4⟩
  ·rintro σ H'⟨ew,v6,fM,ia,pW,v5,rfl,af,g1,yu,yv,s1⟩;have e:(l21 g17)=o86:=r03 (sj ?_) 64;rw[e]at af g1 yu;exact k H' v5 af g1 yu s1
theorem A0{l:ag}{o u v:dz}(au:H p=25)(ax:H l=00):(761 l u p v) p=54∧(761 l u p v) l=56∧gZ p H (761 l u p v)∧l≠p:=by have n:l≠p:=16 (by rw[z,au]at ax;cases ax);refine⟨aI,861 n,fun b w e nb=>?_,n⟩;rw[aE nb,117 ax];exact e
abbrev aad:bK:=343 0x36 0
theorem apE:31 251 251 aad:=⟨rfl,rfl,rfl,05,rfl,05,05⟩
inductive Po(C:ag)(vs:08)(H:av)(Q:aW)(E:bD):04|mk:∀(p dx:ag),vs=717→H p=c80→(∀(H':av)(R:lR),R.a=p→228=dx→hP C H' R [] o6→(∀b,c86→b≠p→H b=00)→802 p→909)→Po C vs H Q E
theorem apF(F:hC K 421 "Search.__init__" aad f fd)(M:tZ K C):eP P w K ah 02 aO 1 f fd 251 (Po C):=by
 rw[A36 apE]
 ·rw[D12];rfl
 ·rw[D11];rw[A01 (a60 (557 556) anD (a60 (557 556) 556 (a60 (557 556) l8 (aM (557 l8)))))];rw[A33 (fun lw Pp=>⟨_,rfl,p,C,dx,_,rfl,335 au Pp au,20,d22,298 0,?_⟩)];obtain⟨fW,mG,b9,cR⟩:=g21 [] (799 (238 574 lw [])) au Pp;generalize 264 (34 H lw []) p C (238 574 lw [])=H1 at fW mG b9⊢;refine fun b1 sk=>⟨_,rfl,p,C,dx,_,rfl,335 fW sk fW,20,M.Ed,959,?_⟩;obtain⟨fD,rN,dj,dS⟩:=A0 (u:=.e0 []) (v:=799 (238 381 b1 (238 574 lw []))) fW sk;generalize 264 (upd H1 b1 (.e0 [])) p C (238 381 b1 (238 574 lw []))=aB at fD rN dj⊢;rw[A33 (fun lo qZ=>⟨_,rfl,p,C,dx,_,rfl,335 fD qZ fD,20,k68,298 2,?_⟩)];obtain⟨pZ,mH,fo,iX⟩:=g21 [] (799 (238 a00 lo (238 381 b1 (238 574 lw [])))) fD qZ;generalize 264 (34 aB lo []) p C (238 a00 lo (238 381 b1 (238 574 lw [])))=a5 at pZ mH fo⊢;rw[A33 (fun dp v7=>⟨_,rfl,p,C,dx,_,rfl,335 pZ v7 pZ,20,M.levels,298 3,?_⟩)];obtain⟨mS,Ae,p0,sC⟩:=g21 [] (799 (g36 dp (238 a00 lo (238 381 b1 (238 574 lw []))))) pZ v7;generalize 264 (34 a5 dp []) p C (g36 dp (238 a00 lo (238 381 b1 (238 574 lw []))))=bP at mS Ae p0⊢;rw[A33 (fun lc A1=>⟨_,rfl,p,C,dx,_,rfl,335 mS A1 mS,20,M.AW,298 4,?_⟩)];obtain⟨I9,Au,p1,sl⟩:=g21 [] (799 (238 f50 lc (g36 dp (238 a00 lo (238 381 b1 (238 574 lw [])))))) mS A1;generalize 264 (34 bP lc []) p C (238 f50 lc (g36 dp (238 a00 lo (238 381 b1 (238 574 lw [])))))=de at I9 Au p1⊢;refine⟨_,rfl,p,C,dx,_,rfl,I9,20,M.yp,298 5,?_⟩;refine⟨_,rfl,p,C,dx,_,rfl,aI,20,M.Ee,298 6,?_⟩;rw[gp];have bg:=p1 lw _ (p0 lw _ (fo lw _ (dj lw _ mG cR) cR) cR) cR;have cf:=p1 b1 _ (p0 b1 _ (fo b1 _ rN dS) dS) dS;have eC:=p1 lo _ (p0 lo _ mH iX) iX;have fz:=p1 dp _ Ae sC;have apG:gZ p H de:=547 (38 829 fo) p0 p1;have fr:∀{H':av}{b:ag},802 p→244=00→b≠p→H b=00:=fun{H' b:_}x e n=>by cases q:H b with|none=>rfl|some o=>rw[x b o q n]at e;cases e
  refine k _ ⟨p,dx,lw,b1,lo,dp,lc⟩ rfl rfl ⟨aI,41 cR bg,41 dS cf,41 iX eC,rfl,o95 (by simp at af),41 sC fz,41 sl Au,?_,?_,?_,?_,?_,?_⟩ ?_ (apG.trans gZ.upd)
  ·exact bT (dj lw _ mG cR) qZ
  ·exact bT (fo lw _ (dj lw _ mG cR) cR) v7
  ·exact bT (p0 lw _ (fo lw _ (dj lw _ mG cR) cR) cR) A1
  ·exact bT mH v7
  ·exact bT (p0 lo _ mH iX) A1
  ·exact bT Ae A1
  ·rintro b(z|z|z|z|z|z)nb
   ·exact 69 z nb
   ·subst z;exact Pp
   ·subst z;exact fr b9 sk nb
   ·subst z;exact fr 829 qZ nb
   ·subst z;exact fr (38 829 fo) v7 nb
   ·subst z;exact fr (547 829 fo p0) A1 nb
abbrev aae:bK:=343 0x36 2
theorem apH:31 251 251 aae:=⟨rfl,rfl,rfl,05,rfl,05,05⟩
inductive Pq(C:ag)(vs:08)(H:av)(Q:aW)(E:bD):04|mk:∀(R:lR)(os:08)(q:d3),vs=[.ref R.a]→hP C H R os q→446 (! q.op&&! 732)→Pq C vs H Q E
theorem apI(F:hC K o01 "Search.is_closed" aae f fd)(M:tZ K C):eP P w K ah 02 aO 1 f fd 251 (Pq C):=by
 rw[A36 apH]
 ·obtain⟨R,os,q,rfl,_⟩:=h;rfl
 ·obtain⟨R,os,q,rfl,h,k⟩:=h;rw[A01 (65 (akx (Wr 59) (Wq (Wr 59))))];refine⟨_,rfl,R.a,C,228,_,_,rfl,673,20,M.yp,O_,_,rfl,_,rfl,eo (fun a8=>⟨_,rfl,R.a,C,228,_,_,rfl,673,20,M.Ee,Pa,_,rfl,?_⟩) g93⟩
  ·rw[a8,w5]at k;exact k
  ·rw[a8,zw]at k;exact k
theorem apJ:o4 o6:=⟨rfl,rfl,14,14,j33,j33⟩
theorem apK{x:ag}(cz:H x=00)(az:H dx=00)(b:gZ x (264 (upd H dx 641) x C []) H'):49:=k60 (b c o (j08 (117 cz) az) (bT e cz))
abbrev aaf:bK:=bA 0x37
theorem aag:31 [35,731,887,365] 433 aaf:=⟨rfl,rfl,rfl,05,rfl,05,05⟩
inductive I_(CM:ag)(CS:ag)(C:ag)(vs:08)(H:av)(Q:aW)(E:bD):04|mk:∀(bG:ag)(sy:cv)(len:Nat)(x:06),vs=[h03,48 len]→dK CM CS H bG sy→034→707→len≤12→(j54 051 a88)→(∀H' R os,hP C H' R os (kj sy len x)→o4 (kj sy len x)→49→435 R.a)→I_ CM CS C vs H Q E
theorem apL(D:cq K ah k66 aaf 433 f fd)(O:443)(M:tZ K C)(bJ:268)(apM:mf P w K ah 02 aO 1 C "Search" 251 (Po C))(Ph:jb P w K ah 02 aO 1 C l27 [352,235,h98,f24] (IZ C))(Pt:Pr P w K ah 02 aO 2 o94 [887,35,365,731] (Pg CM CS C)):Pr P w K ah 02 aO 3 k66 433 (I_ CM CS C):=by
 rw[A02 aag]
 ·obtain⟨bG,sy,len,x,rfl,_⟩:=h;rfl
 ·obtain⟨bG,sy,len,x,rfl,cg,gq,ai,hlen,q1,k⟩:=h;have S:=aag;rw[A01 (90 2 (Y8 apM 22 bb) (bX (bM oA 017 62 (bO _)) (239 (fS 45 l8 rfl) 45) b2) (aF (fK (pm Ph 20 22 bb 45 (aj 59 (258 bu et)))) (aF (94 3 bu) (239 (tI eL (vw (bM ka (J 3) (d6 (hO K rfl) 66 O.len eJ (78 646)) (bO _)) (xO (g91 646))).pt (434 (fK (bj Pt 22 bb (77 2 0 (461 3 1)))) (Dj (i:=3) 242 rfl 70 bu z4))) 45))))];refine fun p dx np az aBn=>⟨p,dx,rfl,aI,fun H1 R apN r9 af hf b9=>119 ?_⟩;subst apN r9;have s1:c78:=apK np az b9;have yt:∀b,c86→H b=00:=350 (by
   rw[A06 b R.a]
   ·rw[e];exact np
   ·have:=hf b aa e;rw[A73 (aE e)];by_cases aG:b=228
    ·rw[aG];exact az
    ·rw[A73 (aE aG)];rw[A10]);obtain⟨Ej,ls,as,aY⟩:=cg;have Ja:273 (nH sy ls) 984=493:=by rw[tV,gq];rfl
  refine⟨_,rfl,bG,CS,Ej,_,_,rfl,s1 _ _ 84,80,879,Ja,_,rfl,a13 ai,_,rfl,_,_,rfl,rfl,_,rfl,eb e68 e68⟩
  ·have oy:15 len<320 713:=m11;rw[dB]at oy;have Pu:kj sy len x=r12:=by unfold kj;rw[118]
   refine⟨_,rfl,R.a,C,228,_,rfl,b32,20,M.yp,IX,_,rfl,?_⟩;rw[Pb];rw[Pu]at k;exact k _ R [] (af.put 01 09) ⟨rfl,rfl,14,14,j33,j33⟩ (m65 s1)
  ·have oy:¬15 len<320 713:=16 (ar 139);rw[dB]at oy;have Pu:kj sy len x=nf sy len 745 0 (n_ o6 x 0 00):=by unfold kj;rw[124]
   rw[Pu]at k;refine⟨_,rfl,R.a,228,_,rfl,b32,ZI,_,rfl,bG,CS,Ej,_,_,rfl,s1 _ _ 84,80,879,Ja,R,[],o6,x,0,.b4,00,rfl,af,rfl,(b53),229,14,14,14,14,fun aB ak apO=>?_⟩;have s2:aA H aB:=apO.same s1 yt;have g2:o4 (n_ o6 x 0 00):=apJ.note 14 229 ai;have dj:(n_ o6 x 0 00).dV=09:=rfl;generalize lP:n_ o6 x 0 00=cf at ak g2 dj k;refine M_ (o80 (∃(n:Nat)(q:d3)(os:08),σ=[a96,71 len,a73,610]∧hP C H' R os q∧o4 q∧49∧n≤302∧nf sy len (745-n) n q=nf sy len 745 0 cf)) (fun σ _=>match σ with|[_,_,_,some (.int n)]=>745-f32|_=>0) ⟨0,cf,_,rfl,ak,g2,s2,229,rfl⟩ ?_ ?_
   ·rintro σ a5⟨n,q,os,rfl,a6,g3,s3,aBo,cp⟩;have wl:11 751=302:=l24;have mH:=g3.wl;refine⟨_,rfl,_,rfl,R.a,C,228,_,_,rfl,h97,20,d22,AV,354,_,rfl,306 a6.eh,_,_,rfl,rfl,_,rfl,eo g92 g92⟩
    ·have yf:n<302:=by have:=210;rw[wl]at this;lia
     refine⟨_,rfl,R.a,C,228,_,_,rfl,h97,20,M.Ee,Pa,_,rfl,?_⟩
     cases kR:q.dV with
      |true=>rw[A21 950];have eq:nf sy len (745-n) n q=q:=r11 (show 745-n=(315-n)+1 by lia) (23 o93);rw[←cp,eq]at k;exact k a5 R os a6 g3 s3
      |false=>
       refine c8 ⟨_,rfl,_,rfl,_,rfl,_,rfl,R,os,q,bG,sy,n,len,H,rfl,a6,g3,kR,yf,568,⟨Ej,ls,as,aY⟩,q1,yt,s3,fun bP yw bH ey q2 s4=>?_⟩;refine⟨_,rfl,_,_,rfl,rfl,⟨n+1,qn sy n len q,yw,?_,bH,ey,s4,?_,?_⟩,?_⟩
       ·rfl
       ·have:n<d07 (qn sy n len q):=by obtain⟨z,hz⟩:∃z,q.words[n]?=415:=126 yf;exact eI (q2.eh n z hz)
        lia
       ·rw[←cp,show 745-n=(745-(n+1))+1 by lia];conv=>rhs;unfold nf
        rw[21 ⟨yf,kR⟩]
       ·exact(88 (745-(n+1)<745-n) (apP 03 (zI n)))
    ·have yf:¬n<302:=by intro z;rw[102 (show 44<320 751 by rw[wl];lia)]at cM;cases cM
     rw[A21 950];have eq:nf sy len (745-n) n q=q:=r11 (show 745-n=(315-n)+1 by lia) (136 (yf z.1));rw[←cp,eq]at k;exact k a5 R os a6 g3 s3
   ·rintro σ a5 Zx Zy aw⟨v1,aK,v2,aG,a,apQ,Ds,bl,v,d1,jy,fA,kd,e5,pp,ys,c0,apR,i,j,hg,tY,b0,mA,yx⟩;refine⟨v1,aK,v2,aG,a,apQ,Ds,bl,v,d1,jy,fA,kd,e5,pp,ys,c0,apR,i,j,hg,tY,b0,mA,?_⟩
    cases b0 with|true=>rw[101]at yx⊢;obtain⟨fb,cp,lS,apS,Pw,apT,v4,apU,pR,iY,nI,apV,b0,l9,q⟩:=yx;exact⟨fb,cp,lS,apS,Pw,apT,v4,apU,pR,iY,nI,apV,b0,l9,aw _ _ q⟩|false=>rw[23 hB]at yx⊢;exact aw _ _ yx
def Jb(X:dT)(aR:439)(t:Str→ct):04:=∀(acc:Str)(pins:225)(s:aZ)(σ:bq)(H:av)(Q:aW),24→t acc σ H Q→a9 47 X.A (joinParts acc (Jc aR 55)) 496 68 s
def apW:Str→ct:=fun acc _ H Q=>f08≤bc∧Q (.str acc) H
def apX(c7:ct)(l9:Str→ct):Str→ct:=fun acc σ H Q=>c7 σ H (291 (∃y,x=.str y∧069 (acc++y)∧l9 (acc++y) σ H1 Q))
inductive aah(Q:aW)(x:ae)(H1:av):04|mk:∀z,x=930→431≤bc→Q 930 H1→aah Q x H1
def apY(c7:ct):ct:=262 (c7 σ H (291 (aah Q x H1)))
section
variable{a b:dn}{aR rest:439}{t:Str→ct}
theorem Px:Jb X [] apW:=fun acc pins s σ H Q I h=>joinParts_nil ⟨.str acc,H,279,282,h.2⟩ h.1
theorem nJ(he:529)(aq:Jb X aR t)(yy:Jc (e::aR) 55=688::Jc aR 55:=by rfl):Jb X (e::aR) (apX c7 t):=by intro acc pins s σ H Q I h;rw[yy];refine joinParts_cons (bY (he 07 s σ H _ I h) (fun u s1⟨x,H1,aX,bU,y,f6,hz,q⟩=>?_));subst f6;rw[D34];exact⟨hz,aq (acc++y) 07 s1 σ H1 Q aX q⟩
theorem Py(h:Jb X (a::860) t)(yy:Jc (a::860) 55=405 a::405 b::Jc 67 55:=by rfl):bF X (.JoinedStr (a::860) pos) (t Dr):=by intro pins s σ H Q I aw;refine JoinedStr_many ?_;rw[←yy];exact h Dr 07 s σ H Q I aw
theorem yz(he:529):bF X (.FormattedValue e (-1) 00 pos) (apY c7):=by rw[A13];refine FormattedValue_plain (bY (he 07 s σ H _ I h) (fun u s1⟨x,H1,aX,bU,z,qt,hz,q⟩=>?_));subst qt;rw[D34];exact formatField_str (fun t' k=>⟨930,H1,aX.tok k,612 t',q⟩) hz
end
abbrev aai:bK:=bA 420
theorem apZ:31 696 696 aai:=⟨rfl,rfl,rfl,05,rfl,05,05⟩
inductive Jd(vs:08)(H:av)(Q:aW)(E:bD):04|mk:∀(x:06),vs=[459]→a87 (rr x) H→Jd vs H Q E
theorem Je:aP []=a74:=66
theorem Jf{x y:06}(h:713=aP y):x=y:=109 c5 h
theorem ap0(D:cq K ah l26 aai 696 f fd):Pr P w K ah 02 aO 1 l26 696 Jd:=by
 rw[A02 apZ]
 ·rw[C49];rfl
 ·obtain⟨x,rfl,k⟩:=h;rw[A01 (65 (pE (bM fv (J 0) fl (bO _)) fl 252))];refine⟨_,rfl,rfl,_,rfl,eb 356 (312 950)⟩
  ·have e:=104;rw[A89];rw[←Je]at e;rw[rr,21 (Jf e)]at k;exact k
  ·rw[rr,136 (d36 (by rw[z,Je]))]at k;exact k
abbrev aaj:bK:=bA 0x5c
theorem aak:31 [313,"beginning","end",d16,f36] [313] aaj:=⟨rfl,rfl,rfl,05,rfl,05,05⟩
inductive Pz(C:ag)(vs:08)(H:av)(Q:aW)(E:bD):04|mk:∀(a:ag)(m:g0),vs=254→oK C H a m→051→a88→a87 (iK m) H→Pz C vs H Q E
theorem t6(s:String):iA s=aP 787:=TL.AF (TL.aog s)
theorem yA:Dr=aP []:=rfl
theorem A2(x:06)(h:707):156 (rr x):=by
 unfold rr;split
 ·simp
 ·exact h
theorem ap1(D:cq K ah o92 aaj [313] f fd)(M:nG K C)(yB:Pr P w K ah 02 aO 1 l26 696 Jd):Pr P w K ah 02 aO 2 o92 [313] (Pz C):=by
 rw[A02 aak]
 ·obtain⟨a,m,rfl,_⟩:=h;rfl
 ·obtain⟨a,m,rfl,⟨dx,aN⟩,ax,c1,k⟩:=h;have S:=aak;rw[A01 (90 1 (pE (348 59) fl fl) (94 2 (pE (348 59) fl fl)) (389 3 (bj yB 22 bb 010) (94 4 (bj yB 22 bb 010)) (Py (nJ fl (nJ (yz 62) (nJ (yz 85) (nJ (yz 45) (nJ fl (nJ (yz 327) (nJ fl Px))))))))))];have wl:=A2 m.l ax;have wr:=A2 m.r c1;rw[B25 (025 "move " 5)];have a2:025 " -> " 4:=rfl;rw[B13 895 2];have v8:025 "^" 1:=rfl;have Jg:025 "$" 1:=rfl;have aBp:025 "" 0:=rfl;refine⟨_,rfl,a,C,dx,_,_,rfl,aN,20,M.D8,IK,_,rfl,eo 485 485⟩;all_goals refine⟨_,rfl,a,C,dx,_,_,rfl,aN,20,M.D9,IL,_,rfl,eo n44 n44⟩
  all_goals refine⟨_,rfl,a,C,dx,_,_,rfl,aN,20,f48,lO,_,rfl,?_⟩
  all_goals refine⟨_,rfl,a,C,dx,_,_,rfl,aN,20,l20,yi,_,rfl,?_⟩
  all_goals refine⟨_,rfl,?_,_,rfl,_,rfl,?_,_,rfl,?_,_,rfl,_,rfl,?_,_,rfl,?_,_,rfl,_,rfl,?_,_,rfl,?_,_,rfl,?_,_,rfl,_,rfl,?_,_,rfl,?_,_,rfl,?_,?_,?_⟩
  all_goals rw[B24]
  all_goals first|rw[A56]|skip
  all_goals rw[iK,aa,he]at k
  all_goals simp only[jo,HZ]
  all_goals exact k
abbrev aal:bK:=bA 0x5d
theorem aam:31 ["name",235,"shown"] j17 aal:=⟨rfl,rfl,rfl,05,rfl,05,05⟩
def gU(ws:30):08:=ws.map (543 (515 w))
inductive PA(vs:08)(H:av)(Q:aW)(E:bD):04|mk:∀(nm:06)(o:911),vs=[76 nm,tU o]→nm.length≤12→(∀x,o=43→707)→(∀p,H p=00→837 p H p (gU (kk nm o)))→PA vs H Q E
theorem ap2(D:cq K ah o91 aal j17 f fd)(yB:Pr P w K ah 02 aO 1 l26 696 Jd):Pr P w K ah 02 aO 2 o91 j17 PA:=by
 rw[A02 aam]
 ·obtain⟨nm,o,rfl,_⟩:=h;rfl
 ·obtain⟨nm,o,rfl,aU,a8,k⟩:=h;have S:=aam;rw[A01 (516 (318 (bM jX (J 1) et (bO _)) ay) (94 2 (d38 yB 1)) (c28 (Py (nJ (yz 252) (nJ fl (nJ (yz 45) (nJ fl Px)))))))]
  cases o with
   |none=>refine⟨_,rfl,rfl,_,rfl,e30 ⟨229,k⟩ (e08 rfl h)⟩
   |some x=>
    have ai:=A2 x (a8 x rfl);rw[B25 (025 " " 1)];rw[B13 895 2];refine⟨_,rfl,rfl,_,rfl,359⟩
    ·have e:515 x=816:=104;cases e
    ·refine⟨_,rfl,x,rfl,?_⟩;refine⟨_,rfl,_,rfl,?_,_,rfl,?_,_,rfl,?_,_,rfl,_,rfl,?_,_,rfl,?_,_,rfl,?_,?_,371,263⟩;all_goals rw[B24]
     all_goals first|rw[A56]|skip
     have:=k p au;simp only[HZ,jo];rw[A10]
theorem v9(l:30):g25 (gU l):=by rw[gU,ba]
theorem Es(a b:30):gU (a++b)=gU a++gU b:=by rw[gU,gU,gU,d5]
theorem ap3(l:30):DX a74 (363 aP)=aP n92:=by refine TL.AF ?_;rw[TL.join_eq];refine 38 (TL.OE _ _) ?_;rw[gP,show c5 a74=[]by rfl,OZ];show _=n92;congr 1;exact List.map_id' l
theorem ap4(af:051)(ak:a88):11 (iK m)≤0x28:=by have:=A2 m.l af;have:=A2 m.r ak;rw[B25 (025 "move " 5)];have a2:025 " -> " 4:=rfl;rw[B13 895 2];unfold iK;simp only[cn];have b9:075 (39 m.b 859 []) 06≤1:=r09;have dj:075 (39 m.e 856 []) 06≤1:=r09;lia
theorem Jh{nm:06}{o:911}(aU:nm.length≤12)(a8:∀x,o=43→707):11 (kk nm o)≤1∧∀x∈kk nm o,96≤0x28:=by cases o with|none=>exact⟨229,fun x h=>806⟩|some x=>have:=A2 x (a8 x rfl);rw[B25 (025 " " 1)];rw[B13 895 2];rw[A03 64 (fun y h=>?_)];rw[86 h];simp only[cn];lia
theorem ap5{l:30}{k:Nat}(h:l25 (96≤k)):(m92 (363 aP)).sum≤k*63:=by induction l with|nil=>simp|cons a r ih=>rw[eN,eN,w8,dR,dB];have af:=h a 999;have ak:=ih (276 (h x (005 ai)));rw[aan];lia
theorem aao(g:269):11 (zl sy)≤0xb∧∀x∈zl sy,96≤0x28:=by
 have af:=g.wU;have ak:=g.jm;obtain⟨eY,hx⟩:=i53 d44 g.st;obtain⟨dW,ip⟩:=i53 006 g.gl;rw[B25 (11 548=8)];rw[B13 895 2];unfold zl;rw[A03 ?_ 333]
 ·simp only[cn,ba,amj];lia
 ·rw[B58 (362 ai)]
  ·rw[B58 (362 ai)]
   ·rw[B58 (362 ai)]
    ·rw[86 ai];simp only[cn];lia
    ·obtain⟨m,hm,rfl⟩:=171;exact ap4 (g.cw m hm).1 (g.cw m hm).2
   ·exact hx x ai
  ·exact ip x ai
abbrev PB:bK:=bA 0x5b
theorem aap:487 [35,304,"lines",313] PB:=⟨rfl,rfl,rfl,05,rfl,05,05⟩
inductive PC(CM:ag)(CS:ag)(vs:08)(H:av)(Q:aW)(E:bD):04|mk:749 (vs=254) (267→269→(841 (a87 (uX sy) H'))→PC CM CS vs H Q E)
theorem ap6(D:cq K ah o90 PB 50 f fd)(bJ:268)(PD:Pr P w K ah 02 aO 2 o92 [313] (Pz CM))(Ji:Pr P w K ah 02 aO 2 o91 j17 PA):Pr P w K ah 02 aO 3 o90 50 (PC CM CS):=by
 rw[A02 aap]
 ·rw[A59];rfl
 ·rw[C27];have S:=aap;rw[A01 (90 1 59 (bX (bM fv (J 1) fl (bO _)) (65 fl) b2) (90 2 (c28 (Py (nJ fl (nJ (yz 62) (nJ fl Px))))) (fK (hD K rfl h9 nK nL nE 45 (78 (k9 rfl 242 (339 59) (own:=[(313,3)]) (295 [35,304,"lines",313] PB) 926 369 (286 (d38 PD 3)))))) (516 (fK (hD K rfl h9 nK nL nE 45 (78 (a59 Ji fl 59)))) (fK (hD K rfl h9 nK nL nE 45 (78 (a59 Ji fl 59)))) (OS K rfl fl 45))))];refine⟨_,rfl,a,CS,dx,_,_,rfl,84,80,727,mg,?_⟩;refine⟨_,rfl,rfl,_,rfl,359⟩
  ·have e:=104;rw[A89];rw[←Je]at e;rw[uX,21 (Jf e)]at k;exact k H 517
  ·have d9:¬75=[]:=152 (by rw[z,Je]);rw[uX,23 d9]at k;rw[B25 (11 548=8)];rw[B13 895 2];rw[A41];have aK:Dr++iA "letters "++aP 75++iA ";\n"=aP (548++716):=by simp only[t6,yA,q0,HZ,jo]
   refine⟨_,rfl,?_,_,rfl,_,rfl,?_,_,rfl,?_,_,rfl,?_,?_,371,457⟩
   ·rw[B24];rw[A56]
   ·simp only[dB];rw[A56]
   ·rw[B24];rw[A56]
   ·rw[B24];rw[A56]
   ·rw[B24];rw[A56]
   rw[aK];have hE:∀{dM:av}{o:dz},786→aA H (upd dM q o):=fun{dM o:_}e b u z=>364 (110 z aw) (e b u z);have s1:aA H (34 H q [76 (548++716)]):=hE 517;have bg:(34 H q [76 (548++716)]) q=247 (gU [548++716]):=aI;generalize 34 H q [76 (548++716)]=H1 at s1 bg⊢;refine⟨_,rfl,329 bg,_,rfl,a,CS,dx,_,_,rfl,s1 _ _ 84,80,471,kE,ls,rfl,224 (s1 _ _ 301),436⟩;have yC:∀o,aA H1 (upd H1 D o):=737 832;refine kC (K:=K) (a:=ls) (xs:=317) (884 (H'=34 H1 D (gU (442 584)))) rfl (i70 (yC _ _ _ (s1 _ _ 301))) ?_ ?_
   ·rw[B83];rw[B11 (325=360∧y=281) (by
     rw[cK]at hi
     cases e:325 with|none=>rw[e]at hi;cases hi|some b=>rw[e]at hi;rw[A76 b hi])];have qr:i<099:=f68 aa;rw[B14 (g20=794) qr];rw[B21 (aY.cw i b m aa hm)];rw[B66 m a76];refine⟨rfl,_,rfl,b,m,rfl,947 (yC _ _ _ (s1 _ _ g_)),oN,pX,_,aI,?_,?_⟩
    ·rw[v9,eS,ba];rw[A14 (show 255 by have:=g.wU;lia)]
    ·have e:(sy.moves.map iK)[i]?=some (iK m):=by rw[cK,hm];rfl
     rw[gp,dZ e,Es];rfl
   ·rw[B05];have ap7:222 584 g17=584:=o44 (sj 19);rw[ap7];have cf:=yC (.lst (gU 584)) _ _ bg;obtain⟨eY,hx⟩:=i53 d44 g.st;obtain⟨dW,ip⟩:=i53 006 g.gl;have vi:=g.wU;refine⟨q,D,_,_,rfl,rfl,cf,aI,?_,?_⟩
    ·rw[v9,v9,ba];exact 825
    rw[←Es];have s3:aA H (34 (34 H1 D (gU 584)) q (gU ([548++716]++584))):=hE (807 (yC _));have eC:(34 (34 H1 D (gU 584)) q (gU ([548++716]++584))) q=_:=aI;generalize 34 (34 H1 D (gU 584)) q (gU ([548++716]++584))=a5 at s3 eC⊢;refine⟨_,rfl,329 eC,_,rfl,a,CS,dx,_,_,rfl,83 84,80,879,tV,d44,d12,r08,14,g.st,263⟩;have fz:334 a5 p (gU 021) q=_:=335 eC au eC;refine⟨q,p,_,_,rfl,rfl,fz,aI,?_,?_⟩
    ·rw[v9,v9,cn,ba];exact 825
    rw[←Es];have s5:=hE (o:=.lst (gU ([548++716]++584++021))) (c98 (293 (gU 021) au));have qF:(34 (34 a5 p (gU 021)) q (gU ([548++716]++584++021))) q=_:=aI;generalize 34 (34 a5 p (gU 021)) q (gU ([548++716]++584++021))=de at s5 qF⊢;refine⟨_,rfl,329 qF,_,rfl,a,CS,dx,_,_,rfl,s5 _ _ 84,80,969,tW,006,672,r08,14,g.gl,fun fD l1=>?_⟩;have r1:334 de fD (gU (kk 006 672)) q=_:=335 qF l1 qF;refine⟨q,fD,_,_,rfl,rfl,r1,aI,?_,?_⟩
    ·rw[v9,v9,cn,cn,ba];exact 825
    rw[←Es];have e1:=hE (o:=.lst (gU ([548++716]++584++021++kk 006 672))) (s5.trans (293 (gU (kk 006 672)) l1));rw[B04 (aao g)];refine⟨282,_,rfl,_,q,(zl sy).map aP,rfl,rfl,306 (by rw[aI,gP];rfl),?_,?_⟩
    ·have:=ap5 dS;rw[ba,show 11 a74=0 by rfl];lia
    ·rw[ap3];exact k _ e1
def gx(H:av)(Q:aW)(l:10):04:=c57 (H p=00→416=79 l→412)
theorem sH(x:06):a_ x=e92 x:=by rw[a_,aT,b6,gP];rfl
theorem nM(x:06):11 (b6 x)=96:=by rw[b6,ba]
theorem A3(l:10):g25 (aT l):=by rw[aT,ba]
theorem Jj(a b:10):aT a++aT b=aT (a++b):=r07
theorem ap8(g:269):11 (uX sy)≤0x1b8:=by
 unfold uX;split
 ·simp
 ·rw[B04 (aao g)];have:∀l:30,645 (96≤0x28)→n93≤0x28*63:=by
   intro l
   induction l with|nil=>intro _;simp|cons a r ih=>intro h;rw[qs,cn,dR,aan];have af:=h a 999;have ak:=ih (276 (h x (005 ai)));lia
  have:=this _ dS;lia
abbrev aaq:bK:=bA 0x7f
theorem ap9:487 50 aaq:=⟨rfl,rfl,rfl,05,rfl,05,05⟩
inductive PE(CM:ag)(CS:ag)(vs:08)(H:av)(Q:aW)(E:bD):04|mk:749 (vs=254) (267→269→gx H Q (0::b6 (uX sy))→PE CM CS vs H Q E)
theorem aqa(D:cq K ah o09 aaq 50 f fd)(pV:Pr P w K ah 02 aO 1 f49 840 AN)(PF:Pr P w K ah 02 aO 3 o90 50 (PC CM CS)):Pr P w K ah 02 aO 4 o09 50 (PE CM CS):=by
 rw[A02 ap9]
 ·rw[A59];rfl
 ·rw[C34];have ax:=ap8 g;rw[A01 (65 (eu pO e22 (e28 pV (340 PF))))];rw[A03 371 263];have s1:aA H (34 H p [372]):=116;refine⟨_,rfl,a,sy,rfl,aY.same s1,g,h57 ⟨_,rfl,i31,457⟩⟩;have l1:=s2 p _ (k55 (334 H p [372] p=_));refine⟨p,q,_,_,rfl,rfl,335 l1 aw l1,aI,?_,848⟩
  ·rw[hn];exact 825
  ·refine k _ r (d40 (38 (422 aw) i43)) ((d40 (422 aw)).free c1) ?_;rw[aI,sH];rfl
abbrev aar:bK:=bA 0x82
theorem aqb:31 696 696 aar:=⟨rfl,rfl,rfl,05,rfl,05,05⟩
inductive Et(vs:08)(H:av)(Q:aW)(E:bD):04|mk:∀(x:06),vs=[459]→e04→(c57 (H p=00→416=79 (kl x)→412))→Et vs H Q E
theorem aqc(D:cq K ah h60 aar 696 f fd)(O:443)(pV:Pr P w K ah 02 aO 1 f49 840 AN):Pr P w K ah 02 aO 2 h60 696 Et:=by
 rw[A02 aqb]
 ·rw[C49];rfl
 ·rw[D33];rw[A01 (65 (eu pO (c28 (d6 jY 66 O.len eJ 029)) (340 pV)))];refine⟨_,rfl,_,rfl,h96 i31,371,367 ⟨_,rfl,x,rfl,i31,457⟩⟩;refine⟨p,q,_,_,rfl,rfl,335 aI aw aI,aI,?_,848⟩
  ·rw[hn];exact 825
  ·have s1:=(293 [j52 713] au);have s2:=(593 x aw);refine k _ r g43 g70 ?_;rw[aI,sH,dB];rfl
abbrev aas:bK:=bA 0x83
theorem aqd:31 433 433 aas:=⟨rfl,rfl,rfl,05,rfl,05,05⟩
inductive Jk(CM:ag)(CS:ag)(vs:08)(H:av)(Q:aW)(E:bD):04|mk:i65 (vs=349 488) (267→662 953→Jk CM CS vs H Q E)
theorem aqe(D:cq K ah k67 aas 433 f fd)(bJ:268)(yk:220 i26 12)(yD:220 i25 (-7))(PG:220 o21 (-6)):Pr P w K ah 02 aO 1 k67 433 (Jk CM CS):=by
 rw[A02 aqd]
 ·rw[B75];rfl
 ·obtain⟨a,sy,z,rfl,⟨dx,ls,as,aY⟩,k⟩:=h;rw[A01 (516 (bX (rX (bM ka (J 1) bu (bO _)) (rW (bM oA (J 1) (dq yk) (bO _)))).pt (65 (dq yD)) b2) (bX (bM jX 59 et (bO _)) (65 (dq PG)) b2) bu)];have later:¬(z<0∨12<z)→Hn (Wv (WW (r4 (o89 (y=816∧Q (d90 x 816) H)) (x1 K (iW 0) (iA 984)) (qC 816))) (De (qC (426 (-6)))) Wt) (De (qC (426 0))) (o88 (h95 (Q 816 H'))) (Internal.start [iA 35,iA 731] [022,426 z]) H:=by
   intro hz;rw[km,23 hz]at k;refine⟨_,rfl,a,CS,dx,_,_,rfl,84,80,879,tV,rfl,_,rfl,359⟩
   ·have e:=104;have:d12=00:=by cases aG:sy.start with|none=>rfl|some x=>rw[A67];cases e
    rw[A54 246];exact k
   ·rw[A97 (100 (d36 f35))];exact k
  refine⟨_,rfl,_,_,rfl,rfl,_,rfl,359⟩
  ·rw[km,21 (aV 104)]at k;exact c8 k
  ·refine⟨_,rfl,_,_,rfl,rfl,_,rfl,eb 642 642⟩
   ·rw[km,21 (en d46)]at k;exact k
   ·exact later (j53 (152 z) (16 (ak 139)))
abbrev aat:bK:=bA 0x84
theorem aau:31 [35,731,f15,726,"outcome"] 433 aat:=⟨rfl,rfl,rfl,05,rfl,05,05⟩
inductive PH(CM:ag)(CS:ag)(vs:08)(H:av)(Q:aW)(E:bD):04|mk:i65 (vs=349 488) (267→269→gx H Q (Ce sy z)→PH CM CS vs H Q E)
theorem aav{z:Int}(h:¬953<0):∃(n:Nat)(x:06),z=44∧n≤12∧034:=by
 unfold km at h;rw[A72 (z<0∨12<z)]
 ·rw[169]at h;exact 69 14 h
 ·rw[153]at h
  cases e:sy.start with|none=>rw[155]at h;exact 69 14 h|some x=>exact⟨231,x,03,03,rfl⟩
theorem aqf(D:cq K ah 887 aat 433 f fd)(O:443)(M:tZ K C)(A4:Pr P w K ah 02 aO 1 k67 433 (Jk CM CS))(A5:Pr P w K ah 02 aO 3 k66 433 (I_ CM CS C)):Pr P w K ah 02 aO 4 887 433 (PH CM CS):=by
 rw[A02 aau]
 ·rw[B75];rfl
 ·obtain⟨a,sy,z,rfl,aY,g,k⟩:=h;have S:=aau;rw[A01 (90 2 (bj A4 22 bb (77 0 1 ay)) (318 (bM ka (J 2) bu (bO _)) 698) (90 3 (bj A5 22 bb (77 0 1 ay)) (94 4 bu) (239 (bX (348 842) (aM (94 4 bu)) (aM (bX (348 842) (aM (94 4 bu)) b2))) (eu pO (cN (e37 4 (d6 (hO K rfl) 66 O.len eJ (78 842)))) 842))))];refine⟨_,rfl,_,rfl,a,sy,z,rfl,aY,_,rfl,_,_,rfl,rfl,_,rfl,359⟩
  ·have h':953<0:=104;rw[Ce,21 h']at k;exact⟨_,rfl,371,367 (k _ p 116 au aI)⟩
  ·have h':¬953<0:=951;obtain⟨n,x,rfl,aU,ai⟩:=aav h';rw[Ce,23 h',ai]at k;refine⟨_,rfl,_,rfl,a,sy,n,x,rfl,aY,ai,g.st x ai,aU,g.cw,q13 ?_⟩;have e:kj sy (n:Int).toNat ((43).getD [])=kj sy n x:=rfl;rw[e]at k;generalize kj sy n x=q at af g1 k;have wl:11 751=302:=l24;have g2:=g1.wl;have g3:=g1.cl;have k:gx H Q (sX q::m15::b6 452):=k;have fin:∀(o:Int)(aB:av),sX q=o→hP C aB R os q→aA H aB→De (r4 HY (HF (r_ (iW 4) (r_ (ND (HW K) (r_ (x1 K (iW 3) (iA 574)) qK)) qK))) (x1 K (iW 3) (iA f50))) (o88 (h95 (Q 816 H'))) [248,610,601 (km sy 44),a73,601 o] aB:=by intro o aB mA af s1;rw[mA]at k;refine⟨_,rfl,_,rfl,R.a,C,228,_,_,rfl,b32,20,d22,AV,354,_,rfl,306 af.eh,338,263⟩;rw[A77 [.int o,j52 751] au];refine⟨_,rfl,R.a,C,228,_,_,rfl,106 b32,20,M.AW,Ec,p,305,_,_,rfl,rfl,aI,106 af.ek,h38 825,848⟩;refine k _ r g43 g70 ?_;rw[aI,wl,sH];rfl
   refine⟨_,rfl,R.a,C,228,_,_,rfl,b32,20,M.Ee,Pa,_,rfl,eo 485 485⟩
   ·exact fin 2 H1 (by unfold sX;rw[160]) af s1
   ·refine⟨_,rfl,R.a,C,228,_,_,rfl,b32,20,M.yp,O_,_,rfl,eo g93 g93⟩
    ·exact fin 1 H1 (by unfold sX;rw[206,21 a8]) af s1
    ·exact fin 0 H1 (by unfold sX;rw[206,23 (by rw[a8];decide)]) af s1
theorem aaw{x:06}(h:nd ls cs=43):707:=by
 unfold nd at h;rw[A18]
 ·cases h
 ·rw[A18]
  ·have:b57 hT=x:=cI h;rw[←this,ba];lia
  ·cases h
abbrev aax:bK:=bA 0x80
theorem aay:31 [35,365,226,885,235,313] j75 aax:=⟨rfl,rfl,rfl,05,rfl,05,05⟩
inductive PI(K:bo)(CM:ag)(CS:ag)(vs:08)(H:av)(Q:aW)(E:bD):04|mk:∀(a c:ag)(sy:cv)(z gM:Int)(cs:10),vs=[37,488,.int gM,655]→267→269→aJ K H c (aT cs)→gx H Q (Gd sy z gM cs)→PI K CM CS vs H Q E
theorem aqg(D:cq K ah "step" aax j75 f fd)(O:443)(bJ:268)(t7:g10 12)(aqh:220 "NO_MOVE" (-3))(ml:Pr P w K ah 02 aO 2 d04 549 (yl K CM CS))(A6:Pr P w K ah 02 aO 2 l22 483 (IT CM))(pV:Pr P w K ah 02 aO 1 f49 840 AN)(kF:Pr P w K ah 02 aO 1 b39 932 e58):Pr P w K ah 02 aO 3 "step" j75 (PI K CM CS):=by
 rw[A02 aay]
 ·obtain⟨a,c,sy,z,gM,cs,rfl,_⟩:=h;rfl
 ·obtain⟨a,c,sy,z,gM,cs,rfl,aY,g,ar,k⟩:=h;have S:=aay;rw[A01 (90 4 (bj ml 22 bb (77 0 3 ay)) (e36 4 t7) (aF (a50 (rX (bM ka (J 1) bu (bO _)) (rW (bM Ng (J 1) c91 (bO _)))).pt aqh) (aF (94 5 (a52 62)) (239 (318 (bM (D7 K rfl) 45 (bj A6 22 bb (77 5 4 ay)) rfl) 755) (eu pO e22 (e28 pV (437 kF 5 2 4)))))))];have one:q20 (786→dM p=00→gx H Q [v]→837 p dM p [.int v]):=q19 (b0 _ p i85 j20 aI);refine⟨_,rfl,_,rfl,a,c,sy,cs,rfl,aY,ar,477 g.jm,g90⟩;unfold Gd at k
  cases hw:nd 75 cs with
   |none=>rw[hw]at k;refine⟨_,rfl,rfl,_,rfl,e30 (387 1 (one s1 au k)) (e08 rfl h)⟩
   |some x=>
    rw[hw]at k;have k:gx H Q (13 (z<0∨f79≤z) [-3] (o87 (l23 231) [] (39 (a56 (gy m x) gM) (0::b6 m98) [1]))):=k;have ai:=aaw hw;rw[D32];refine⟨_,rfl,rfl,_,rfl,j51 ?_⟩
    ·have e:515 x=816:=104;cases e
    ·refine⟨_,rfl,_,_,rfl,rfl,_,rfl,359⟩
     ·rw[A54 (aV 104)];exact h06 s1 k
     ·refine⟨_,rfl,_,rfl,a,CS,dx,_,_,rfl,s1 _ _ 84,80,471,kE,ls,_,rfl,306 (s1 _ _ 301),_,_,rfl,rfl,_,rfl,?_⟩;have aqi:¬z<0:=951;have c4:320 317=f79:=r02;refine eo 642 642
      ·have qY:f79≤z:=r06;rw[A54 (en qY)];exact 387 1 (one s1 au k)
      ·have qY:¬f79≤z:=r06;rw[A97 (58 (q.elim aqi qY))];rw[B69 (z=44) j07];have aU:n<099:=03;rw[B14 (l23 n=794) aU];obtain⟨b,aa⟩:∃b,as[n]?=360:=126 (by rw[aY.len];exact aU);rw[B21 (aY.cw n b m aa hm)];rw[B66 m a76];rw[kA,hm]at k;have k:gx H Q (39 (a56 (gy m x) gM) (0::b6 m98) [1]):=k;refine⟨_,rfl,a,CS,dx,_,_,rfl,s1 _ _ 84,80,471,kE,_,rfl,ls,317,_,281,rfl,rfl,32 (s1 _ _ 301),fm (by rw[cK,aa];rfl),?_⟩;refine⟨_,rfl,_,rfl,_,rfl,b,x,m,rfl,947 (s1 _ _ g_),ai,oN,pX,263⟩;have s2:aA H (322 H1 p (gy m x)):=827;refine⟨p,a_ (gy m x),rfl,306 aI,rfl,Eb _,_,rfl,?_⟩;rw[IS]
       cases fc:a56 (gy m x) gM with
        |false=>rw[fc]at k;exact c8 ⟨371,fun r c1=>one s2 c1 k⟩
        |true=>
         rw[fc,101]at k;obtain⟨pl,eH,e⟩:=ly.mp fc;have e:15 pl=gM:=121 e;subst e;have fB:pl∈375:=by
          unfold gy at eH;split at eH
          ·cases eH
          ·exact eH
         obtain⟨En,Eo⟩:=Pf fB;have hlen:¬045<c26:=by intro q;unfold gy at eH;rw[181]at eH;cases eH
         rw[kA]at k;rw[A21 ⟨371,848⟩];rw[A87 [372] c1];refine⟨_,rfl,_,rfl,_,rfl,b,x,m,pl,rfl,947 (83 (s2 _ _ g_)),e75,oN,pX,En,_,rfl,jB 03,697⟩;have s4:=593 954 bk;refine⟨r,t,_,_,rfl,rfl,103 aI,aI,h38 825,fun u kT=>?_⟩;refine k _ u (547 685 s4 (422 kT)) ((38 685 s4).free kT) ?_;rw[aI,sH];rfl
theorem aqj(m:g0)(x:06):11 (gy m x)≤e80:=by
 unfold gy;split
 ·simp
 ·refine 164 _ _;simp
theorem aqk{x:06}{pl:Nat}(h:pl∈gy m x):e07 pl∧156 954:=by
 unfold gy at h;rw[A18]
 ·cases h
 ·rw[A81 (Pf h)];exact⟨af,03⟩
theorem PJ:∀(l:037),(∀s∈l,m38)→11 (kn l)≤0xf*63
 |[],_=>by simp[kn]
 |s::r,h=>by
  have af:=h s 999;have ak:=PJ r (b35 (h z (005 hz)));have e:11 (Cf s)=3+s.2.2.length:=by show 11 (kl s.2.2)+1+1=_;rw[kl,dR,nM];lia
  have:kn (s::r)=Cf s++kn r:=rfl;rw[this,cn,e,dR,aan];lia
theorem aql(a b:037):kn (a++b)=kn a++kn b:=by unfold kn;rw[w7]
theorem aqm(s:o7):kn [s]=Cf s:=by unfold kn;simp
theorem aaz(f:α→522){l:40}{x:α}(h:115=43):670 (l.take (i+1)) f=670 648 f++f x:=by rw[dZ h,w7];simp
abbrev aaA:bK:=bA 0x81
theorem aaB:31 [35,885,235,"count",f14,365,313,226] 549 aaA:=⟨rfl,rfl,rfl,05,rfl,05,05⟩
inductive PK(K:bo)(CM:ag)(CS:ag)(vs:08)(H:av)(Q:aW)(E:bD):04|mk:∀(a c:ag)(sy:cv)(cs:10),vs=349 655→267→269→aJ K H c (aT cs)→gx H Q (Ge sy cs)→PK K CM CS vs H Q E
theorem aqn(D:cq K ah "steps" aaA 549 f fd)(O:443)(yr:i94=00)(bJ:268)(t7:g10 12)(ml:Pr P w K ah 02 aO 2 d04 549 (yl K CM CS))(A6:Pr P w K ah 02 aO 2 l22 483 (IT CM))(t8:Pr P w K ah 02 aO 2 h60 696 Et)(kF:Pr P w K ah 02 aO 1 b39 932 e58):Pr P w K ah 02 aO 3 "steps" 549 (PK K CM CS):=by
 rw[A02 aaB]
 ·obtain⟨a,c,sy,cs,rfl,_⟩:=h;rfl
 ·obtain⟨a,c,sy,cs,rfl,aY,g,ar,k⟩:=h;have S:=aaB;rw[A01 (90 2 (bj ml 22 bb (77 0 1 ay)) (e36 2 t7) (90 3 bu (94 4 556) (239 (e_ eL rfl (II K rfl rfl yr 010) (tS K rfl (n:=2) rfl (kX (98 5 rfl 70) (kX (98 6 rfl 70) tH))) (aM (e_ eL rfl (339 (bj A6 22 bb (77 6 2 ay))) (98 7 rfl 70) (aF (Dj (i:=3) 242 rfl 70 bu z4) (aF (fK (hD K rfl h9 nK nL nE 327 (78 (cN (461 5 7))))) (a77 (hD K rfl h9 nK nL nE 327 (78 (e28 t8 (437 kF 6 7 2)))))))))) (eu pO (cN (aj bu 845)) 327))))];refine⟨_,rfl,_,rfl,a,c,sy,cs,rfl,aY,ar,477 g.jm,g90⟩;unfold Ge at k
  cases hw:nd 75 cs with
   |none=>rw[hw]at k;refine⟨_,rfl,rfl,_,rfl,e30 (387 1 (k _ p 827 903 aI)) (e08 rfl h)⟩
   |some x=>
    rw[hw]at k;have k:gx H Q (0::320 (uY sy x)::kn (uY sy x)):=k;have ai:=aaw hw;have vi:=g.wU;rw[D32];refine⟨_,rfl,rfl,_,rfl,j51 ?_⟩
    ·have e:515 x=816:=104;cases e
    ·rw[A33 697];have v_:H t=00:=f23 bk;have hE:∀{dM:av}{o:dz},786→aA H (upd dM t o):=fun{dM o:_}e b u z=>364 (110 z v_) (e b u z);have s2:aA H (34 H1 t []):=hE s1;refine⟨_,rfl,a,CS,dx,_,_,rfl,106 84,80,471,kE,ls,_,rfl,32 (s2 _ _ 301),I3 (K:=K) (a:=ls) (xs:=317) (504 (∃(ew v6 fM:93)(A:037),σ=[248,958,493,71 A.length,530,ew,v6,fM]∧A=670 d45 (zm x)∧A.length≤0xd*i∧(∀s∈A,m38)∧H' t=79 (kn A)∧49)) ⟨00,00,00,[],rfl,rfl,229,(fun s h=>806),aI,s2⟩ (fun i σ H'⟨_,_,_,_,_,_,_,_,_,s3⟩=>32 (s3 _ _ 301)) ?_ ?_⟩
     ·rintro i y T σ a5 aC bR⟨ew,v6,fM,A,rfl,di,aqo,PL,mm,s3⟩;rw[B11 (325=360∧y=281) (by
       rw[A58]
       cases e:325 with|none=>rw[A30];cases aC|some b=>rw[A30];rw[A76 b aC])];have hi:i<099:=f68 aa;rw[B14 (g20=794) hi];have I5:r05 i=some 660:=r04;rw[B21 (aY.cw i b m aa hm)];rw[B66 m a76];have s4:=b06 [309,281];have eH:=aqj m x;refine⟨T,_,rfl,e35,rfl,_,_,rfl,_,_,rfl,rfl,?_⟩;refine⟨_,rfl,_,rfl,b,x,m,rfl,947 (103 (83 g_)),ai,oN,pX,263⟩;have s5:=k31 (593 (gy m x) au);have aaC:t≠p:=bT (103 mm) au;refine⟨p,rfl,224 aI,hN (K:=K) (a:=p) (xs:=a_ (gy m x)) (f17 (∃(fM:93)(B:037),σ=[248,958,493,71 B.length,530,some 309,46 b,fM]∧B=A++b95 (527 (gy m x)) (i,p,719)∧(∀s∈B,m38)∧H' t=79 (kn B)∧49∧416=259 (gy m x))) ⟨fM,A,rfl,(19),PL,s5 _ _ mm,c98 s5,aI⟩ (fun j σ H' _⟨_,_,_,_,_,_,_,e⟩=>32 e) ?_ ?_⟩
      ·rintro j y σ ft bS⟨Pl,B,rfl,fY,Jl,yE,cW,Jm⟩;obtain⟨pl,PM,rfl⟩:=v3 bS;obtain⟨En,I7⟩:=aqk (cG PM);have aaD:=eI PM;have aBq:B.length≤0xd*i+j:=by rw[fY,cn,ba,eS];lia
       have aBr:=PJ B Jl;refine⟨_,rfl,_,_,rfl,rfl,?_⟩;refine⟨_,rfl,329 yE,_,rfl,_,rfl,338,k23⟩;have e1:=293 [309,936] ax;refine⟨t,l,_,_,rfl,rfl,e1 _ _ yE,aI,?_,?_⟩
       ·rw[A3];rw[A37 (show _≤20000 by simp;lia)]
       have gW:aA H (34 (34 ft l [309,936]) t (aT (kn B)++[309,936])):=hE n19;have A7:(34 (34 ft l [309,936]) t (aT (kn B)++[309,936])) p=259 (gy m x):=41 aaC.symm (e1 _ _ Jm);have PN:(34 (34 ft l [309,936]) t (aT (kn B)++[309,936])) t=_:=aI;generalize 34 (34 ft l [309,936]) t (aT (kn B)++[309,936])=qS at gW A7 PN⊢;refine⟨_,rfl,329 PN,_,rfl,_,rfl,_,rfl,b,x,m,pl,rfl,947 (gW _ _ g_),e75,oN,pX,En,_,rfl,477 I7,fun X_ q i_ Mu aqp=>?_⟩;have wa:11 (kl 954)≤0xd:=by rw[kl,dR,nM];lia
       refine⟨t,q,_,_,rfl,rfl,i_ _ _ PN,aqp,?_,?_⟩
       ·rw[A3,cn,A3];rw[A37 (show _≤20000 by simp;lia)]
       refine⟨71 pl,B++[(i,pl,954)],?_,?_,?_,?_,hE (gW.trans i_),?_⟩
       ·rw[cn];rfl
       ·rw[fY,dZ PM,d5,jo];rfl
       ·rw[B23];rw[B39 hz]
        ·exact Jl z hz
        ·rw[86 hz];exact I7
       ·rw[aI,aql,←Jj,jo,aqm];rfl
       ·exact 41 aaC.symm (i_ _ _ A7)
      ·rintro σ ft⟨Pl,B,rfl,fY,Jl,yE,cW,Jm⟩;rw[hn,eK]at fY;refine⟨_,_,_,B,rfl,?_,?_,Jl,yE,cW⟩
       ·rw[aaz _ I5,←di];exact fY
       ·rw[fY,cn,ba];lia
     ·rintro σ a5⟨ew,v6,fM,A,rfl,di,aqo,PL,mm,s3⟩;have e:(l21 g17)=o86:=r03 (sj ?_) 64;rw[e]at di;have aqq:A=uY sy x:=di;have aBs:=PJ A PL;have t9:11 317=099:=r02;refine⟨_,rfl,338,263⟩;have s4:=293 [372,48 A.length] au;refine⟨_,rfl,p,t,_,_,rfl,rfl,aI,103 mm,?_,848⟩
      ·rw[A3];rw[A37 (show _≤20000 by simp;lia)]
      ·refine k _ r (38 b87 i43) ((b87).free c1) ?_;rw[aI,←aqq];rfl
inductive aaE(xs:08)(H:av)(Q:aW):04|mk:∀i:Int,xs=[260]→(∀p,H p=00→664 (upd H p (.pz 0 i)))→aaE xs H Q
theorem Eu:iy X (401 509) aaE:=by rw[A60];rw[C48];rw[B36 r];refine call_range_1 ⟨277,_,I.laid (a:=18) (o:=.pz 0 i) m26 64 ?_,rfl,q _ 683⟩;exact⟨_,_,_,111⟩
inductive aaF(xs:08)(H:av)(Q:aW):04|mk:∀(p:ag)(n:Nat),xs=717→H p=some (.pz 0 44)→n≤20000→(∀l,H l=00→514 l (322 H l 057))→aaF xs H Q
theorem Ew(ar:394):iy X 900 aaF:=by
 rw[A60];obtain⟨p,n,rfl,au,aU,q⟩:=h;rw[B08 r];rw[A07];obtain⟨t,u,v,e⟩:=613 p au;have hsz:z8 0 44 1=44:=by
  unfold z8;rw[21 14];by_cases h0:413<n
  ·rw[21 h0,Int.ediv_one];lia
  ·rw[23 h0];lia
 have Jn:Ou 0 44 1=01:=by
  unfold Ou;have f1:∀k:Int,0≤k→k≤1000000→PO k=01:=fun k h0 af=>by unfold PO;simp;lia
  simp[hsz,f1 0 14 14,f1 1 14 14,f1 n 03 03]
 refine call_list_range 408 e Jn hsz 03 (fun h' tk PQ jU aS Z4 q3=>?_);have a3:cc (a_ 057) o85:=by
  have key:∀(k:Nat)(l:53)(j:Nat),63=k→(∀i v,115=54→∃t,v=zT (52 (j+i)) t)→cc ((List.range' j k).map (fun(m:Nat)=>a38 m)) l:=by
   intro k
   induction k with
    |zero=>
     intro l j ax _
     cases l with|nil=>rw[A40]|cons a b=>cases ax
    |succ k ih=>
     intro l j ax a3
     cases l with
      |nil=>cases ax
      |cons a b=>
       rw[List.range'_succ,eN];refine .cons ?_ (ih b (j+1) k39 (fun i v hi=>?_))
       ·exact a3 0 a rfl
       ·rw[C47 (a3 (i+1) v hi)];exact⟨t,by rw[e,show j+(i+1)=j+1+i by lia]⟩
  rw[a_,List.range_eq_range'];refine key n o85 0 (by rw[Dc];exact q3.1) (fun i v hi=>?_);rw[C47 (q3.2 i v (by rw[←aBt];exact hi))];exact⟨t,by rw[e,show 413+249*1=52 (0+i)by lia]⟩
 refine⟨277,_,f92 tk aS (88 (fx 61 X.w _ h' _ (.lst (a_ 057))) ⟨?_,o85,jU,a3,?_⟩),rfl,q _ 683⟩
 ·rw[hn,iP];rw[A37 aU]
 ·simpa using Z4
abbrev aaG:bK:=343 311 0
theorem aqr:31 k19 k19 aaG:=⟨rfl,rfl,rfl,05,rfl,05,05⟩
inductive PR(C:ag)(vs:08)(H:av)(Q:aW)(E:bD):04|mk:∀(p dx:ag)(m:g0),vs=[280,76 m.l,76 m.r,.bN m.b,.bN m.e]→H p=c80→Q .b4 (264 H p C 024)→PR C vs H Q E
theorem aqs(F:hC K 421 "Move.__init__" aaG f fd)(M:nG K C):eP P w K ah 02 aO 1 f fd k19 (PR C):=by
 rw[A36 aqr]
 ·obtain⟨p,dx,m,rfl,_⟩:=h;rfl
 ·obtain⟨p,dx,m,rfl,au,k⟩:=h;rw[A01 (a60 c03 45 (e27 (557 85) 327))];refine⟨_,rfl,_,rfl,p,C,dx,_,rfl,au,20,f48,298 0,?_⟩;refine⟨_,rfl,_,rfl,p,C,dx,_,rfl,aI,20,l20,959,?_⟩;refine⟨_,rfl,_,rfl,p,C,dx,_,rfl,aI,20,M.D8,298 2,?_⟩;refine⟨_,rfl,_,rfl,p,C,dx,_,rfl,aI,20,M.D9,298 3,?_⟩;rw[gp,gp,gp];exact k
abbrev aaH:bK:=343 419 0
theorem aqt:31 g13 g13 aaH:=⟨rfl,rfl,rfl,05,rfl,05,05⟩
inductive Jo(CM:ag)(CS:ag)(vs:08)(H:av)(Q:aW)(E:bD):04|mk:∀(p dx:ag)(ls:06),vs=[280,76 ls]→H p=482 CS []→(∀H' l,h8 CM CS H' p dx l [] ⟨ls,[],00,00⟩→H l=00→802 p→909)→Jo CM CS vs H Q E
theorem aqu(F:hC K 421 "System.__init__" aaH f fd)(M:268):eP P w K ah 02 aO 1 f fd g13 (Jo CM CS):=by
 rw[A36 aqt]
 ·obtain⟨p,dx,ls,rfl,_⟩:=h;rfl
 ·obtain⟨p,dx,ls,rfl,au,k⟩:=h;rw[A01 (a60 c03 556 (e27 (557 et) et))];refine⟨_,rfl,_,rfl,p,CS,dx,_,rfl,au,20,o84,298 0,?_⟩;have fW:upd H p (.ins CS dx (cC 304 (76 ls) [])) p=_:=aI;rw[A33 (h40 ⟨_,rfl,p,CS,dx,_,rfl,335 fW ax fW,20,M.moves,959,?_⟩)];obtain⟨fD,rN,dj,dS⟩:=g21 [] (.ins CS dx (238 505 l (cC 304 (76 ls) []))) fW ax;refine⟨_,rfl,p,CS,dx,_,rfl,fD,20,M.start,298 2,?_⟩;refine⟨_,rfl,p,CS,dx,_,rfl,aI,20,M.goal,298 3,?_⟩;rw[gp];refine k _ l ⟨aI,41 dS rN,rfl,k92 (by simp at af)⟩ ?_ (38 (gZ.upd.trans dj) gZ.upd);rw[aE dS]at ax;exact ax
abbrev aaI:bK:=343 0x78 0
theorem aqv:31 i98 i98 aaI:=⟨rfl,rfl,rfl,05,rfl,05,05⟩
inductive PS(C:ag)(vs:08)(H:av)(Q:aW)(E:bD):04|mk:∀(p dx c:ag),vs=[280,655]→H p=c80→Q .b4 (264 H p C (mQ c 0))→PS C vs H Q E
theorem aqw(F:hC K 421 "CallReader.__init__" aaI f fd)(M:sz K C):eP P w K ah 02 aO 1 f fd i98 (PS C):=by
 rw[A36 aqv]
 ·obtain⟨p,dx,c,rfl,_⟩:=h;rfl
 ·obtain⟨p,dx,c,rfl,au,k⟩:=h;rw[A01 (e27 c03 bu)];refine⟨_,rfl,_,rfl,p,C,dx,_,rfl,au,20,l19,298 0,?_⟩;refine⟨_,rfl,p,C,dx,_,rfl,aI,20,M.ea,959,?_⟩;rw[gp];exact k
theorem PT{B:Nat}(fY:0<B):j15 (g<B→(097 (986<B))→c16 g g<B)
 |[],g,a4,_=>a4
 |a::r,g,a4,h=>by
  rw[hv];refine PT fY r _ ?_ (276 (h x (005 ai)));have aN:=h a 999;rw[A06 g 0]
  ·rw[e,Nat.gcd_zero_left];exact aN
  ·exact fL (Nat.gcd_le_left _ 03) a4
def kf(x:Int):04:=-(2^402)<x∧x<2^402
theorem aqx(h:n<2^0xc8):n.log2<9000:=by
 rw[A06 n 0]
 ·rw[e];decide
 ·have:=(Nat.log2_lt e).mpr h;lia
theorem aaJ{a b:Int}(aN:kf a)(aa:kf b):743 (a*b)<2^0x80:=by
 rw[Cz];have af:a.natAbs<2^402:=o81 aN.1 aN.2;have ak:b.natAbs<2^402:=o81 aa.1 aa.2;calc
  a.natAbs*b.natAbs≤a.natAbs*2^0x40:=PU _ (xJ ak)
  _<2^0x40*2^0x40:=Nat.mul_lt_mul_of_pos_right af (by decide)
  _=2^0x80:=by decide
theorem aaK{l:10}{x:Int}(h:115=43):834 i=x:=by rw[cZ,h];rfl
theorem aaL{q:ag}{l m:10}{c:Nat}{z:Int}{σ:bq}{Q:aW}{k:Nat}(au:H p=79 l)(aw:H q=79 m)(ar:m[c]?=415)(hz:kf z)(ax:63≤12)(s1:c89=287 p)(s2:(wipe σ [3])[j]?=287 q)(s3:(wipe σ [3])[k]?=453 (48 c))(aqy:j≠3)(aqz:k≠3)(PV:3<b61)(b0:∀D,H D=00→514 D (34 H D (aT (363 (72 (x*z)))))):vO (Hu K (iW i)) (tG 3) Og (r4 (vC Hy (h94 (426 (i*j)))) (iW 3) (r4 (HS K) (iW j) (iW k))) [3] σ H Q:=by
 have wl:∀(Jp:bq),11 (wipe Jp [3])=Jp.length:=fun Jp=>DG Jp [3];refine⟨_,s1,p,rfl,224 au,436⟩;refine kC (K:=K) (a:=p) (xs:=aT l) (h05 H (aT (442 (363 (72 (x*z)))))) rfl (i70 (335 au cO au)) ?_ ?_
 ·rintro n y H' hi rfl;rw[B77 (oL hi)];have cp:((wipe σ [3]).set 3 (some (ae.int x)))[3]?=453 (426 x):=rz (by rw[wl];exact PV);refine⟨?_,_,cp,_,38 (u_ (jq aqy)) s2,_,38 (u_ (jq aqz)) s3,q,aT m,_,488,rfl,rfl,32 (335 aw cO aw),fm (by rw[aT,cK,ar];rfl),_,_,rfl,rfl,.inr hz,_,aI,?_,?_⟩
  ·show((j74 3).set 3 (some (426 x))).set 3 00=j74 3;rw[PW,PW]
  ·rw[fa,eS,ba];rw[A14 (show 255 by have:=eI ai;lia)]
  ·have e:(l.map fun x=>x*z)[n]?=some (x*z):=q21;rw[gp,dZ e,AQ];rfl
 ·rw[B05];rw[fa,show 63=11 (363 (72 (x*z)))by simp,eK];exact b0 D cO
end
abbrev Ex:bK:=bA 0xb
theorem aaM:31 [243,b56,742,365,"kept",l18,257,256] [243,b56,742] Ex:=⟨rfl,rfl,rfl,05,rfl,05,05⟩
section
variable{A:rU}{B:Prop}{C CM CS D a b c d dx f p t:ag}{E Q:aH→aZ→Prop}{ab:Bool}{K:bo}{N ps:List Str}{P:f3}{S:ag→Prop}{T:String}{us vs:List aH}{aD as:List ag}{aG e:dn}{bx u:aH}{o:Obj}{ah:Str→Option aH}{az:Option ag}{b0 c0 cR dS i j n:Nat}{base h h':dk}{g l ls row:List Nat}{cl:Str→Option ag}{col:Option Bool}{cs ms ns r ws:List Int}{ds:List WData}{α:Type}{fd:k6}{x:Str}{outer:List Env}{own:List (Str×Nat)}{pl:Sem Bool}{q:Search}{s:dt}{sc:rp}{v:Word}{w:ff}{m:g0}{sy:cv}{xs ys:List ae}{y:ae}{H H' H1 aB:av}{X:dT}{sp:mM}
inductive PX(vs:08)(H:av)(Q:aW)(E:bD):04|mk:∀(p q:ag)(row iL:10)(c:Nat),vs=[280,a99,48 c]→H p=79 row→H q=79 iL→h45≤4→iL.length=h45→c<h45→(∀x∈row,kf x)→(∀x∈iL,kf x)→(∀H' r,49→H' r=79 (fq row iL c)→435 r)→PX vs H Q E
theorem aqA(D:cq K ah o79 Ex [243,b56,742] f fd)(O:347)(A8:Pr P w K ah 02 aO 2 l16 [243] (IV K)):Pr P w K ah 02 aO 3 o79 [243,b56,742] PX:=by
 rw[A02 aaM]
 ·obtain⟨p,q,row,iL,c,rfl,_⟩:=h;rfl
 ·obtain⟨p,q,row,iL,c,rfl,au,aw,ax,eH,ar,aaN,sp,k⟩:=h;have S:=aaM;rw[A01 (516 (qT (i:=4) rfl 242 rfl rfl 875 j84 (own:=[(365,3)]) (295 [243,b56,742,365,"kept",l18,257,256] Ex) 926 369 (286 (eu vD 85 (440 62 45)))) (qT (i:=5) rfl 242 rfl rfl 875 c08 (own:=[(365,3)]) (295 [243,b56,742,365,"kept",l18,257,256] Ex) 926 369 (286 (eu vD 85 (440 252 45)))) (e28 A8 (k9 rfl 242 (Za K rfl rfl O.zip (461 4 5)) (own:=[(257,6),(256,7)]) (295 [243,b56,742,365,"kept",l18,257,256] Ex) (f47 (tS K rfl (n:=2) rfl (kX (98 6 rfl 70) (kX (98 7 rfl 70) tH)))) 369 (286 (eu r7 867 (J 7))))))];obtain⟨x,ai⟩:∃x,row[c]?=43:=126 ar;obtain⟨y,aC⟩:∃y,iL[c]?=270:=126 (by rw[eH];exact ar);have aaO:=aaN x (cG ai);have sy:=sp y (cG aC);unfold Hn Hq;change vO _ _ _ _ _ _ _ _;refine aaL (i:=0) (j:=1) (k:=2) (σ:=[444,873,71 c,00,00,00,00,00]) au aw aC sy 03 rfl rfl rfl 14 14 (680 (3<8)) (fun d2 cR=>?_);rw[A63 (aT (993 (x*y))) cR];rw[88 (∀(i:Nat)(v:ae)(σ:bq)(H:av)(Q:409),tG i v σ H Q=Q j78 H) (f47 rfl)];rw[A71];refine aaL (i:=1) (j:=0) (k:=2) (σ:=[444,873,71 c,00,46 d2,00,00,00]) (s1 _ _ aw) (s1 _ _ au) ai aaO 03 rfl rfl rfl 14 14 (680 (3<8)) (fun dE dS=>?_);rw[A77 (aT (998 (z*x))) dS];have af:=106 (k55 (334 H d2 (aT (993 (x*y))) d2=_));have ak:334 (520 H d2 (993 (x*y))) dE (aT (998 (z*x))) dE=79 (998 (z*x)):=aI;rw[A98];generalize 520 (520 H d2 (993 (x*y))) dE (998 (z*x))=aB at af ak ho⊢;have aqB:fq row iL c=jH (kQ (578 (a-b)) (993 (x*y)) (998 (z*x))):=by unfold fq;rw[aaK ai,aaK aC,List.zipWith_map]
  rw[aqB]at k;refine⟨_,rfl,_,rfl,d2,dE,_,_,rfl,32 af,32 ak,fun Jq iX=>?_⟩;refine Zs (K:=K) (a:=d2) (b:=dE) (xs:=aT (993 (x*y))) (ys:=aT (998 (z*x))) (884 (c81∧H' Jq=79 (442 (kQ (578 (a-b)) (993 (x*y)) (998 (z*x)))))) ⟨422 iX,aI⟩ (fun i H' z=>⟨32 (z.1 _ _ af),32 (z.1 _ _ ak)⟩) ?_ ?_
  ·rintro i u v T H' bp a3 bR⟨s3,a6⟩;obtain⟨u,An,rfl⟩:=oL bp;obtain⟨v,vF,rfl⟩:=oL a3;have yj:Jq≠T:=bT a6 bR;have hi:=eI An;rw[ba]at hi;refine⟨T,_,rfl,e35,rfl,_,_,rfl,_,_,rfl,rfl,rfl,_,rfl,_,rfl,_,_,rfl,rfl,_,41 yj a6,?_,?_,?_⟩
   ·rw[fa,eS];rw[A14 (show 255 by lia)]
   ·refine k21;have aK:=s3 b o e;rw[aE (88 (b≠Jq) (16 (by rw[z,iX]at e;cases e))),110 aK bR];exact aK
   ·have e:(kQ (fun a b=>a-b) (row.map fun x=>x*y) (iL.map fun z=>z*x))[i]?=some (u-v):=by rw[zD,An,vF]
    rw[aI,dZ e,AQ];rfl
  ·rintro H'⟨s3,a6⟩;have c4:min (11 (aT (993 (x*y)))) (11 (aT (998 (z*x))))=11 (kQ (578 (a-b)) (993 (x*y)) (998 (z*x))):=by rw[qw,fa,fa]
   rw[c4,eK]at a6;refine⟨Jq,_,rfl,a6,?_,?_,fun bP r s4 bH=>k bP r (38 b84 s4) bH⟩
   ·rw[qw,ba,ba];lia
   ·refine aqx (PT 14 _ 0 14 g83);rw[A86 hz];rw[zD]at hi;rw[cK,cK]at hi
    cases aK:row[i]? with|none=>rw[aK]at hi;cases hi|some a=>cases aG:iL[i]? with|none=>rw[B82];cases hi|some b=>rw[B82];have e:a*y-b*x=z:=cI hi;have hx:=aaJ (aaN a (cG aK)) sy;have ip:=aaJ (sp b (cG aG)) aaO;rw[←e];exact fL (aqC _ _) (Ie (Nat.add_lt_add hx ip) 14)
structure mT(H:av)(p:ag)(as:27)(rows:99):04 where
 lst:H p=247 317
 len:i78
 row:d62 10 (325=532) (775=447→H a=715)
theorem mT.same{rows:99}(h:mT H p as 17)(e:49):mT H' p as 17:=⟨e _ _ 572,h.len,d02 (e _ _ (h.row i a r af ak))⟩
theorem mT.get{rows:99}(h:mT H p as 17)(aC:f88=270):∃a r,325=532∧775=447∧y=37∧H a=715:=by
 rw[A58]
 cases e:325 with|none=>rw[A30];cases aC|some a=>rw[A30];obtain⟨r,aq⟩:∃r,775=447:=126 (i38 e);exact⟨a,r,rfl,aq,129 aC,h.row i a r e aq⟩
theorem aqD{bs:27}(h:j<889)(e:478=aT r):False:=by cases bs with|nil=>simp at h|cons a b=>cases r with|nil=>cases e|cons x y=>rw[eN,aT,eN]at e;rw[B84];cases aK
theorem Ey{H H':av}{rows:99}{p:ag}(len:i78)(row:∀(i:Nat)(b:ag)(q:10),325=360→775=796→244=79 q)(aN:H' a=715):11 (as++[a])=11 (17++[r])∧∀(i:Nat)(b:ag)(q:10),(as++[a])[i]?=360→(rows++[r])[i]?=796→244=79 q:=by
 rw[A03 q98 n36];rw[A65 (i<470)]
 ·rw[mN hi]at af;rw[mN 03]at ak;exact row i b q af ak
 ·rw[166]at af ak;have dw:i-470=0:=l83 af;rw[dw]at af;rw[←len,dw]at ak;have aK:a=b:=cI af;have aG:r=q:=cI ak;rw[B52];exact aN
abbrev aaP:bK:=bA 0x12
theorem aaQ:31 [573,505,089,b45] j40 aaP:=⟨rfl,rfl,rfl,05,rfl,05,05⟩
inductive PY(K:bo)(vs:08)(H:av)(Q:aW)(E:bD):04|mk:∀(p q:ag)(as:27)(ws:10)(ms:99)(k:Int),vs=[280,a99,c84]→aJ K H p (aT ws)→mT H q as ms→g08→(k88 (∀x∈m,kf x))→0<k→(841 (826 (oa ws ms k) H'))→PY K vs H Q E
theorem aqE(D:cq K ah o82 aaP j40 f fd)(p2:Pr P w K ah 02 aO 1 f30 b85 (AR K)):Pr P w K ah 02 aO 2 o82 j40 (PY K):=by
 rw[A02 aaQ]
 ·obtain⟨p,q,as,ws,ms,k,rfl,_⟩:=h;rfl
 ·obtain⟨p,q,as,ws,ms,k,rfl,au,aw,ax,hm,aS,b0⟩:=h;have S:=aaQ;rw[A01 (239 (711 62 3 (bM k4 (eu Hz (bj p2 22 bb (77 0 3 ay)) 45) bu (bO _)) l8) l8)];refine⟨_,rfl,q,rfl,224 aw.lst,hN (K:=K) (a:=q) (xs:=317) (701 (σ=[444,873,601 k,v]∧49∧(d91).all (285 (531 (060%k)))=01)) (e79 517) (q40 (32 (s1 _ _ aw.lst))) ?_ ?_⟩
  ·rw[D09];rw[D08 (aw.get aC)];have fB:=cG Ez;refine⟨_,rfl,_,rfl,p,a,ws,m,rfl,s1.seq au,32 (s1 _ _ eM),ax,hm m fB,h57 ?_⟩;refine⟨_,rfl,_,_,rfl,rfl,aS,rfl,_,rfl,?_⟩;refine eo 356 356
   ·have h:(! a34 (060%k) 0)=01:=h;have e:¬060%k=0:=16 (by rw[102 (f90 z)]at h;cases h);have:=b0 aB 332;have gC:oa ws ms k=09:=by cases q:oa ws ms k with|false=>rfl|true=>exact 69 (121 (gB.mp q m fB)) e
    rw[gC]at this;rw[A10]
   ·have h:(! a34 (060%k) 0)=09:=h;have e:060%k=0:=q18 (nk 521) (173 (z (by injection q)));refine⟨_,rfl,332,?_⟩;rw[dZ Ez,AP,dQ];simp[e]
  ·rw[D07];rw[ba,aw.len,eK]at dQ;have:=b0 H' s1;rw[A73 (show oa ws ms k=01 from dQ)];rw[A10]
abbrev PZ:bK:=bA 7
theorem aaR:487 m74 PZ:=⟨rfl,rfl,rfl,05,rfl,05,05⟩
inductive EA(CM:ag)(CS:ag)(vs:08)(H:av)(Q:aW)(E:bD):04|mk:749 (vs=254) (267→269→(n97 (49→mT H' p as 528→412))→EA CM CS vs H Q E)
theorem aqF(D:cq K ah h73 PZ 50 f fd)(bJ:268)(e3:nG K CM)(A9:Pr P w K ah 02 aO 1 k86 [304,257,256] IU):Pr P w K ah 02 aO 2 h73 50 (EA CM CS):=by
 rw[A02 aaR]
 ·rw[A59];rfl
 ·rw[C27];have S:=aaR;rw[A01 (65 (k9 rfl 242 (339 59) (own:=[(313,1)]) (295 m74 PZ) (924 1) 369 (286 (925 A9 59 (258 358 358)))))];refine⟨_,rfl,a,CS,dx,_,_,rfl,84,80,471,kE,ls,rfl,224 301,436⟩;refine kC (K:=K) (a:=ls) (xs:=317) (884 (∃bs,49∧H' D=036∧889=11 (442 528)∧∀(j:Nat)(b:ag)(r:10),bs[j]?=360→r01 j=447→244=715)) ⟨[],832,aI,rfl,fun j b r h=>500⟩ (fun i H' _⟨_,s1,_⟩=>32 (s1 _ _ 301)) ?_ ?_
  ·rintro i y H' hi⟨bs,s1,oO,hlen,eM⟩;rw[B11 (325=360∧y=281) (by
    rw[cK]at hi
    cases e:325 with|none=>rw[e]at hi;cases hi|some b=>rw[e]at hi;rw[A76 b hi])];have qr:i<099:=f68 aa;rw[B14 (g20=794) qr];rw[B21 (aY.cw i b m aa hm)];have e:(gN sy)[i]?=some (fO 75 m.l m.r):=by rw[gN,cK,hm];rfl
   refine⟨rfl,_,rfl,a,CS,dx,_,_,rfl,s1 _ _ 84,80,727,mg,_,rfl,b,CM,dD,_,_,rfl,s1 _ _ g_,451,814,lO,_,rfl,b,CM,dD,_,_,rfl,s1 _ _ g_,451,k54,yi,75,m.l,m.r,rfl,477 g.jm,263⟩;rw[A77 (aT (fO 75 m.l m.r)) au];have Jr:D≠p:=bT oO au;refine⟨_,106 oO,?_,?_⟩
   ·rw[ba,hlen,eS];rw[A14 (show 255 by have:=g.wU;simp[gN];lia)]
   ·rw[dZ e];have nb:∀(j:Nat)(c:ag),bs[j]?=73→c≠D:=fun j c ar z=>by obtain⟨r,c1⟩:∃r,r01 j=447:=126 (by rw[←hlen];exact eI ar);have aK:=eM j c r ar c1;rw[z,oO]at aK;exact aqD (eI ar) (by injection(cI aK))
    rw[B04 (Ey (H:=H') (H':=34 (520 H' p (fO 75 m.l m.r)) D ((478)++717)) (p:=D) (r:=fO 75 m.l m.r) (a:=p) 568 (fun j c r af ak=>41 (nb j c af) (106 (eM j c r af ak))) (861 Jr.symm))];refine⟨bs++[p],?_,?_,cR,dS⟩
    ·refine g89;rw[aE (88 (c≠D) (58 r00))];exact 106 (s1 _ _ z)
    ·rw[A52];rfl
  ·rintro H'⟨bs,s1,oO,hlen,eM⟩;have c4:222 528 g17=528:=o44 (sj (by simp[gN]));rw[c4]at hlen eM;exact k H' D bs s1 ⟨oO,568,eM⟩
theorem P0(cs:40):∀rows:a48,11 (495 17)=666*383|[]=>by simp[jI]|r::t=>by have ih:=P0 cs t;have:495 (r::t)=lu cs r++495 t:=rfl;rw[this,cn,ih,lu,ba,dR,pq,pv,tp]
theorem Js(cs:40):∀n,11 043=383^n|0=>rfl|n+1=>by rw[dJ,P0,Js cs n,MP]
theorem yF{cs:40}:∀{n:Nat}{r:40},r∈043→872|0,r,h=>b27 (86 h)|n+1,r,h=>by obtain⟨q,aw,aq⟩:=ni.mp h;obtain⟨c,_,rfl⟩:=147;rw[cn,yF aw];rfl
structure kG(H:av)(p:ag)(as:27)(rows:g86):04 where
 lst:H p=247 317
 len:i78
 row:d62 08 (325=532) (775=447→H a=247 r)
theorem kG.at{rows:99}(h:kG H p as (rows.map aT)):mT H p as 17:=⟨572,by rw[h.len,ba],d02 (h.row i a (aT r) af q31)⟩
theorem kG.get{rows:g86}(h:kG H p as 17)(aC:f88=270):∃a r,325=532∧775=447∧y=37∧H a=247 r:=by
 rw[A58]
 cases e:325 with|none=>rw[A30];cases aC|some a=>rw[A30];obtain⟨r,aq⟩:∃r,775=447:=126 (i38 e);exact⟨a,r,rfl,aq,129 aC,h.row i a r e aq⟩
theorem kG.same{rows:g86}(h:kG H p as 17)(e:49):kG H' p as 17:=⟨e _ _ 572,h.len,d02 (e _ _ (h.row i a r af ak))⟩
theorem kG.more{bs:27}{rows rs:g86}(h:kG H p as 17)(na:∀a∈as,a≠p)(e:374 (H b) (b≠p→244=25))(au:416=247 ((as++bs).map 501))(len:889=rs.length)(row:d62 08 (bs[i]?=532) (rs[i]?=447→H' a=247 r)):kG H' p (as++bs) (17++rs):=by
 refine⟨au,by rw[cn,cn,h.len,len],d02 ?_⟩;rw[A65 (i<470)]
 ·rw[mN hi]at af;rw[mN (by rw[←h.len];exact hi)]at ak;exact e _ _ (h.row i a r af ak) (na a (cG af))
 ·rw[166]at af;rw[w3 (by rw[←h.len];lia),←h.len]at ak;exact row _ a r af ak
abbrev P1:bK:=bA 0xf
theorem aaS:31 [428,o83,539,226,"longer",243,"choice"] c24 P1:=⟨rfl,rfl,rfl,05,rfl,05,05⟩
inductive A_(K:bo)(vs:08)(H:av)(Q:aW)(E:bD):04|mk:∀(c:ag)(n:Nat)(cs:08),vs=[b11,655]→aJ K H c cs→n≤12→383≤12→(∀i,i≤n→383^i≤20736)→(n97 (49→kG H' p as 043→412))→A_ K vs H Q E
theorem Jt{m:Nat}(hm:m≤12)(aU:n≤4):m^n≤20736:=by
 calc
  m^n≤12^n:=Ju hm n
  _≤12^4:=Ba (by decide) aU
  _=20736:=by decide
theorem aqG{cs r:08}{σ:bq}{Q:aW}(ar:aJ K H1 c cs)(aN:H1 a=247 r)(ax:383≤12)(aq:n06)(s1:σ[1]?=287 c)(s5:(wipe σ [6])[5]?=287 a)(PV:6<b61)(b0:∀aB D ds,aA H1 aB→H1 D=00→(l17 (H1 d=00))→kG aB D ds (lu cs r)→514 D aB):vO (Hu K (iW 1)) (tG 6) Og (r4 HY (iW 5) (HF (r_ (iW 6) qK))) [6] σ H1 Q:=by
 refine⟨_,s1,c,rfl,404 ar,436⟩;refine kC (K:=K) (a:=c) (xs:=cs) (884 (a95∧∃ds,(l17 (H1 d=00∧d≠D))∧kG H' D ds (442 (lu cs r)))) ⟨832,[],19,aI,rfl,fun j b q h=>500⟩ (fun i H' _⟨s2,_⟩=>s2.seq ar) ?_ ?_
 ·rintro i x H' ai⟨s2,ds,az,p3⟩;have e:(lu cs r)[i]?=some (r++[x]):=by rw[lu,cK,ai];rfl
  have zQ:((wipe σ [6]).set 6 (some x))[6]?=453 x:=rz (by rw[DG];exact PV);refine⟨?_,_,38 (u_ 14) s5,_,zQ,371,fun l Bb=>?_⟩
  ·show((j74 6).set 6 43).set 6 00=j74 6;rw[PW,PW]
  rw[A87 [x] Bb];refine⟨a,l,_,_,rfl,rfl,83 (s2 _ _ aN),aI,?_,263⟩
  ·exact 825
  have s4:=293 (r++[x]) au;have fp:=103 (83 p3.lst);have Jr:D≠p:=bT (83 p3.lst) au;refine⟨_,fp,?_,?_⟩
  ·rw[ba,p3.len,eS,lu,ba];rw[A14 (show 255 by have:=eI ai;lia)]
  ·rw[dZ e];refine⟨923,ds++[p],k18,p3.more (f29 (az d hd).2) (d60 aa (103 (83 z))) n56 rfl (fun j b q af ak=>?_)⟩
   ·rw[aE (88 (b≠D) (58 r00))];exact 103 (83 (s2 _ _ z))
   ·rcases 362 hd with hd|hd
    ·exact az d hd
    ·rw[86 hd];exact⟨(685).free au,Jr.symm⟩
   ·cases j with|zero=>have aK:p=b:=cI af;have aG:r++[x]=q:=cI ak;rw[B52];exact 861 Jr.symm|succ j=>simp at af
 ·rintro H'⟨s2,ds,az,p3⟩;have c4:222 (lu cs r) 383=lu cs r:=sj (by rw[lu,ba];exact 64);rw[c4]at p3;exact b0 H' D ds s2 cO (f29 (az d hd).1) p3
theorem aqH(D:cq K ah f19 P1 c24 f fd)(O:347):Pr P w K ah 02 aO 1 f19 c24 (A_ K):=by
 rw[A02 aaS]
 ·obtain⟨c,n,cs,rfl,_⟩:=h;rfl
 ·obtain⟨c,n,cs,rfl,ar,aU,ax,aqI,k⟩:=h;have S:=aaS;rw[A01 (389 2 (c28 556) (e_ eL rfl (c92 029) (98 3 rfl 70) (90 4 556 (e_ eL rfl (339 45) (98 5 rfl e93) (a77 (hD K rfl h9 nK nL nE 327 (78 (k9 rfl 242 c08 (own:=[("choice",6)]) (295 [428,o83,539,226,"longer",243,"choice"] P1) (924 6) 369 (286 (eu pO 462 (cN (384 6))))))))) (aM (94 2 327)))) 45)];rw[A33 (fun l t_=>⟨371,fun EB mU=>?_⟩)];have s1:=38 (293 [] t_) (293 [559] mU);have bU:kG (34 (34 H l []) EB [559]) EB [l] (dJ cs 0):=by
   refine⟨aI,rfl,d02 ?_⟩
   cases i with|zero=>have aK:l=a:=cI af;have aG:[]=r:=cI ak;rw[B52];exact 335 aI mU aI|succ i=>simp at af
  refine⟨_,rfl,44,rfl,03,03,xX (lo:=0) (n:=271 44) (504 (∃(p:ag)(as:27)(fb v4 ew v6:93),σ=[610,958,444,fb,v4,ew,v6]∧49∧kG H' p as c68)) ⟨EB,[l],00,00,00,00,rfl,s1,bU⟩ ?_ ?_⟩
  ·rintro i σ aB hi⟨p,as,fb,v4,ew,v6,rfl,s2,cT⟩;have EC:i+1≤n:=03;have hlen:=Js cs i;have aBu:=Js cs (i+1);have aBv:=aqI (i+1) EC;rw[A33 457];have aaT:H q=00:=s2.free aw;rw[A87 [] aw];have aBw:p≠q:=bT h71 aw;refine⟨_,rfl,p,rfl,224 (83 h71),hN (K:=K) (a:=p) (xs:=317) (f17 (∃(ew v6:93)(bs:27),σ=[610,958,444,601 (0+249),873,ew,v6]∧c81∧(∀b∈bs,b≠q)∧kG H' q bs (495 (527 c68)))) ⟨ew,v6,[],rfl,s3,19,⟨aI,rfl,fun j a r h=>500⟩⟩ (fun j σ H' _⟨_,_,_,_,s4,_⟩=>g45 h71) ?_ ?_⟩
   ·rintro j y σ a5 aC⟨Em,Pk,bs,rfl,s4,nb,h2⟩;obtain⟨a,r,aN,c1,rfl,eM⟩:=cT.get aC;have aqJ:n06:=k84 (yF e66);have bS:=eI c1;refine⟨_,rfl,329 h50,?_⟩;refine aqG (K:=K) (c:=c) (a:=a) (H1:=a5) (cs:=cs) (r:=r) ((n32).seq ar) (103 eM) ax aqJ rfl rfl (680 (6<7)) (fun bP D ds s5 cO az p3=>?_);have I6:=s5 _ _ h50;have aqK:11 (495 (527 c68))=j*383:=by rw[P0,eS];congr 1;lia
    have aqL:(j+1)*383≤383^(i+1):=by rw[MP,←hlen];exact CK _ bS
    refine⟨q,D,_,_,rfl,rfl,I6,p3.lst,?_,?_⟩
    ·rw[ba,ba,h2.len,p3.len,aqK,lu,ba];rw[pq,pv]at aqL;rw[A37 (show _≤20736 by lia)]
    ·have pa:495 (222 c68 (j+1))=495 (527 c68)++lu cs r:=aaz _ c1;have ym:l17 (d≠q):=f29 (914 h50 (az d hd));refine⟨_,_,bs++ds,rfl,923,350 ((362 aa).elim (nb b) (ym b)),?_⟩
     ·rw[aE (88 (b≠q) (100 (by rw[e,aw]at z;cases z)))];exact s5 _ _ (103 z)
     ·rw[pa];exact h2.more nb (d60 aa (s5 _ _ z)) k50 p3.len (fun m b x af ak=>41 (ym b (cG af)) (p3.row m b x af ak))
   ·rintro σ a5⟨Em,Pk,bs,rfl,s4,nb,h2⟩;have c4:222 c68 g17=c68:=by rw[ba,cT.len,eK]
    rw[c4]at h2;exact⟨_,rfl,q,bs,_,_,_,_,rfl,n32,h2⟩
  ·rintro σ aB⟨p,as,fb,v4,ew,v6,rfl,s2,cT⟩;rw[kA]at cT;rw[A15 (k aB p as s2 cT)]
theorem aaU(h:kG H p as (dJ (aT cs) n)):mT H p as 043:=kG.at (by have e:=CO b31 cs n;rw[show kS aT 043=dJ (b57 b31) n from e.symm];exact h)
abbrev P2:bK:=bA 804
theorem aaV:31 [505,h72,089,f46,573] j14 P2:=⟨rfl,rfl,rfl,05,rfl,05,05⟩
inductive P4(K:bo)(vs:08)(H:av)(Q:aW)(E:bD):04|mk:∀(m d:ag)(as:27)(ms:99)(fw:10)(k:Nat),vs=[.ref m,602,48 k]→mT H m as ms→H d=79 fw→k83≤4→0<k→k≤12→(∀r∈ms,j71 x)→(∀x∈fw,kf x)→(rt ms fw k=00→846)→(∀ws,rt ms fw k=some ws→c57 (416=79 ws→412))→P4 K vs H Q E
theorem aqM(D:cq K ah o20 P2 j14 f fd)(O:347)(nN:Pr P w K ah 02 aO 1 f19 c24 (A_ K))(p2:Pr P w K ah 02 aO 1 f30 b85 (AR K))(P5:Pr P w K ah 02 aO 2 o82 j40 (PY K)):Pr P w K ah 02 aO 3 o20 j14 (P4 K):=by
 rw[A02 aaV]
 ·obtain⟨m,d,as,ms,fw,k,rfl,_⟩:=h;rfl
 ·obtain⟨m,d,as,ms,fw,k,rfl,hm,hd,ax,Oe,aS,nO,DB,eE,cS⟩:=h;have S:=aaV;rw[A01 (516 (bX (348 (d6 (aoT K rfl rfl) 66 O.all boot_all (78 (k9 rfl 242 c08 (own:=[(f46,3)]) (295 [505,h72,089,f46,573] P2) 926 369 (286 (Ab fv (eu Hz 85 45) bu (bO _))))))) (65 et) b2) (711 (a59 nN j79 (l_ h19 66 O.list Bc (78 (l_ Eu 66 971 xU 698)))) 4 (vw (bM k4 (eu Hz (bj p2 22 bb (77 4 1 ay)) 45) bu (bO _)) (xO (348 (437 P5 4 0 2)))).pt 327) et)];have bN:∀x:Int,a34 (x%82) 0=531 (x%82):=72 (by
   rw[A06 (x%82) 0]
   ·rw[190,e];simp
   ·rw[132,150 (e k76)]);refine⟨_,rfl,d,rfl,224 hd,436⟩;have az:d≠D:=bT hd cO;refine kC (K:=K) (a:=d) (xs:=aT fw) (h05 H (g61 (fw.take i) (d90 (x%82) 0))) rfl (i70 (41 az hd)) ?_ ?_
  ·rw[B83];rw[B77 (oL hi)];refine⟨rfl,_,rfl,_,rfl,_,_,rfl,rfl,(a45 413 82),rfl,_,aI,?_,?_⟩
   ·rw[ba,eS];rw[A14 (show 255 by lia)]
   ·rw[gp,dZ ai,d5];show _=upd H D (dz.lst (_++[d90 (x%82) 0]));rw[←bN x]
  ·rintro H1 rfl;rw[fa,eK];rw[A63 (d71 (d90 (x%82) 0)) cO];have aqN:(d71 (d90 (x%82) 0))=(d71 (531 (x%82))).map ae.bN:=by rw[gP];rfl
   refine⟨D,d71 (531 (x%82)),rfl,32 (by rw[aI,aqN]),_,rfl,?_⟩;have wb:(d71 (531 (x%82))).all id=fw.all (72 (531 (x%82))):=by rw[GJ];rfl
   rw[wb];unfold rt at eE cS;refine eo 356 356
   ·rw[114]at eE;exact eE rfl _ s1
   ·rw[208]at eE cS;generalize 34 H D (d71 (d90 (x%82) 0))=H1 at s1⊢;refine⟨_,rfl,d,_,rfl,306 (s1 _ _ hd),_,rfl,82,rfl,g82⟩;have s2:=964 (.pz 0 82) rM;refine⟨ua,k,rfl,aI,03,g87⟩;have s3:=593 943 jz;rw[fa];refine⟨cl,k83,aT 763,rfl,32 (by rw[aI,sH]),477 ax,by rw[fa,nM,iP];exact aS,618 (q38 (Jt aS (cX hi ax))),q37 ?_⟩;replace i7:=aaU i7;have mV:=547 332 s3 s4;refine⟨p,rfl,224 i7.lst,hN (K:=K) (a:=p) (xs:=992) (504 (∃fb v4:93,σ=[46 m,871,71 k,fb,v4]∧479 bP∧g37 (442 c21) (! 531 (hc ws fw%82)&&oa ws ms 82)=00)) ⟨00,00,rfl,880 bP,rfl⟩ (fun i σ H' _⟨_,_,_,s5,_⟩=>32 (s5 _ _ i7.lst)) ?_ ?_⟩
    ·rintro i y σ de aC⟨fb,v4,rfl,s5,cy⟩;obtain⟨a,ws,aN,q4,rfl,eM⟩:=i7.get aC;have Er:g08:=k84 (yF (cG q4));have yG:(! 531 (hc ws fw%82)&&oa ws ms 82)=09→g37 (222 c21 (i+1)) (! 531 (hc ws fw%82)&&oa ws ms 82)=00:=100 (by rw[dZ q4,ED,cy];simp[jK,e]);refine⟨_,rfl,_,rfl,a,d,ws,fw,rfl,32 (s5 _ _ eM),32 (s5 _ _ (mV _ _ hd)),Er,DB,o10 ?_⟩;refine⟨_,rfl,_,_,rfl,rfl,(a45 413 82),rfl,_,rfl,eo a62 a62⟩
     ·have d9:(! a34 (hc ws fw%82) 0)=01:=d9;rw[bN]at d9;refine⟨_,rfl,_,rfl,_,rfl,a,m,as,ws,ms,82,rfl,32 (310 (s5 _ _ eM)),((hm.same mV).same s5).same cW,Er,nO,03,fun gS e1=>123 (eo (fun gq=>?_) (fun gq=>?_))⟩
      ·refine 123 (cS ws ?_ gS a (547 j09 cW e1) (e1 _ _ (310 (s5 _ _ eM))));have e:c21=442 c21++ws::472 c21 (i+1):=f64 (162 (i+1) c21) q4;rw[e,ED,cy,jK,d9,gq];rfl
      ·exact⟨_,_,rfl,38 j10 e1,yG (by rw[d9,gq];rfl)⟩
     ·have d9:(! a34 (hc ws fw%82) 0)=09:=d9;rw[bN]at d9;exact b_ ⟨_,_,rfl,j10,yG (by rw[d9];rfl)⟩
    ·rintro σ de⟨fb,v4,rfl,s5,cy⟩;rw[ba,i7.len,eK]at cy;exact eE cy de j09
structure ub(H:av)(p:ag)(aD:27)(ps:336):04 where
 lst:H p=247 587
 len:n95=744
 pair:∀(i:Nat)(t:ag)(q:526),aD[i]?=some t→ps[i]?=796→∃a,H t=f01∧H a=e87
theorem ub.same{ps:336}(h:ub H p aD ps)(e:49):ub H' p aD ps:=⟨e _ _ 572,h.len,fun i t q af ak=>o78 (h.pair i t q af ak) ⟨a,e _ _ x,e _ _ y⟩⟩
theorem ub.get{ps:336}(h:ub H p aD ps)(aC:q04 i=270):∃t q a,ps[i]?=796∧y=784∧H t=f01∧H a=e87:=by
 rw[A58]
 cases e:aD[i]? with|none=>rw[A30];cases aC|some t=>rw[A30];obtain⟨q,aw⟩:∃q,ps[i]?=796:=126 (i38 e);obtain⟨a,x,z⟩:=h.pair i t q e aw;exact⟨t,q,a,aw,129 aC,x,z⟩
structure P6(width:Nat)(q:526):04 where
 col:q.1<97
 len:q.2.length=97
 nO:∀x∈q.2,kf x
 iL:ik q≠0
theorem kf.abs{x:Int}(h:kf x):986<2^402:=o81 h.1 h.2
theorem uS{l:10}(h:i<63):115=some (834 i):=165 h
theorem aaW:∀(ps:336)(s:Int),(098 (743 (ik q)<2^402))→743 (f86 (s*957) s)≤s.natAbs*(2^402)^744|[],s,_=>19|q::r,s,h=>by rw[hv,dR];refine cX (aaW r _ (b35 (h z (005 hz)))) ?_;rw[Cz,UJ,MP,Nat.mul_assoc];refine PU _ ?_;rw[CH];exact PU _ (xJ (h q 999))
theorem aaX(h:n<2^0x190):n.log2<9000:=by
 rw[A06 n 0]
 ·rw[e];decide
 ·have:=(Nat.log2_lt e).mpr h;lia
theorem EE:∀(ps:336)(g:526→Int)(w:10),11 (g84 (g q) w)=218|[],_,_=>rfl|q::r,g,w=>by rw[hv,EE r,mC]
theorem aaY{B:Nat}:∀(ps:336)(g:526→Int)(w:10),(098 (743 (g q)<B))→(∀x∈w,986<B)→∀x∈g84 (g q) w,986<B
 |[],_,_,_,hw=>hw
 |q::r,g,w,a4,hw=>by
  rw[hv];refine aaY r g _ (b35 (a4 z (005 hz))) 333;rcases aqO ai with h|h
  ·exact hw x h
  ·rw[h];exact a4 q 999
theorem aqP{ps:336}{free width:Nat}(h:098 (P6 97 q))(ax:744≤4)(hf:508<97):743 c50≤2^0x100∧∀x∈qo ps 508 97,986<2^0x190:=by
 have au:098 (743 (ik q)<2^402):=330 ((h q aw).nO _ (cG (uS (364 (h q aw).len (h q aw).col)))).abs;have af:743 c50≤2^0x100:=by
  refine cX (aaW ps 1 au) ?_;rw[Int.natAbs_one,pv];calc
   (2^0x40)^ps.length≤(2^0x40)^4:=Ba (by decide) ax
   _=2^0x100:=by decide
 rw[A03 af (aaY ps _ _ 457 333)]
 ·unfold Gf;rw[Int.natAbs_neg];refine fL (Int.natAbs_fdiv_le_natAbs _ _) ?_;rw[Cz];have ak:743 (c13 508)<2^402:=((h q aw).nO _ (cG (uS (by rw[(h q aw).len];exact hf)))).abs;calc
  (q.2.getD free 0).natAbs*(lZ ps).natAbs≤2^0x40*2^0x100:=wc (xJ ak) af
  _<2^0x190:=by decide
 ·have big:(2:Nat)^0x100<2^0x190:=14;rcases aqO ai with ak|ak
  ·rw[(List.mem_replicate.mp ak).2];decide
  ·rw[ak];exact fL af big
abbrev aaZ:bK:=bA 0xe
theorem aa0:31 [366,096,428,"scale",742,243,573] [366,096,428] aaZ:=⟨rfl,rfl,rfl,05,rfl,05,05⟩
inductive P7(vs:08)(H:av)(Q:aW)(E:bD):04|mk:∀(p:ag)(aD:27)(ps:336)(free width:Nat),vs=[280,48 508,48 97]→ub H p aD ps→(098 (P6 97 q))→744≤4→508<97→97≤4→(∀H' r,49→H' r=79 (o8 ps 508 97)→435 r)→P7 vs H Q E
theorem aqQ(D:cq K ah o74 aaZ [366,096,428] f fd)(O:347)(A8:Pr P w K ah 02 aO 2 l16 [243] (IV K)):Pr P w K ah 02 aO 3 o74 [366,096,428] P7:=by
 rw[A02 aa0]
 ·obtain⟨p,aD,ps,free,width,rfl,_⟩:=h;rfl
 ·obtain⟨p,aD,ps,free,width,rfl,au,bB,ax,hf,hw,k⟩:=h;have S:=aa0;rw[A01 (90 3 bu (e_ eL rfl j84 (tS K rfl (n:=2) rfl (kX (98 4 rfl 70) (kX (98 5 rfl 70) tH))) (aM (94 3 (eu vD 85 (d6 W2 66 O.abs boot_abs (78 (440 462 327))))))) (90 6 (eu amk e22 45) (Wy 85 (Wx 867 62 TX)) (239 (e_ eL rfl j84 (tS K rfl (n:=2) rfl (kX (98 4 rfl 70) (kX (98 5 rfl 70) tH))) (aM (Wy (Nd Nf (eu api (eu vD (440 462 62) 85) (440 462 327))) (Wx 867 327 TX)))) (d38 A8 6))))];obtain⟨H5,aa1⟩:=aqP bB ax hf;have gt:∀{q:526}{i:Nat},q∈ps→i<97→(aT q.2)[i]?=601 (c13 i):=fun{q i:_}aw hi=>by rw[aT,cK,uS (l15 (bB q aw).len)];rfl
  have nO:∀{q:526}{i:Nat},q∈ps→i<97→kf (c13 i):=fun{q i:_}aw hi=>(bB q aw).nO _ (cG (uS (l15 (bB q aw).len)));refine⟨_,rfl,p,rfl,224 au.lst,hN (K:=K) (a:=p) (xs:=587) (i67 93 (σ=[444,71 508,71 97,601 (lZ (ps.take i)),v4,ew,00]∧H'=H)) ⟨00,00,rfl,rfl⟩ (fun i σ H' _⟨_,_,_,e⟩=>682 au.lst) ?_ ?_⟩
  ·rintro i y σ H' aC⟨v4,ew,rfl,rfl⟩;rw[C46 (au.get aC)];have fB:=cG aw;have Bd:=(bB q fB).col;refine⟨t,_,rfl,g85,rfl,_,_,rfl,_,_,rfl,rfl,_,rfl,_,rfl,_,rfl,a,aT q.2,_,.int (ik q),rfl,rfl,32 aN,fm (gt fB Bd),_,rfl,?_⟩;rw[Zw];refine⟨_,_,rfl,rfl,.inr ?_,71 q.1,248,?_,rfl⟩
   ·have:=(nO fB Bd).abs;show-(2^402)<957∧957<2^402;unfold ik;lia
   ·have e:lZ (ps.take (i+1))=lZ (ps.take i)*957:=AZ _ _ aw;rw[e];rfl
  ·rintro σ H1⟨v4,ew,rfl,rfl⟩;rw[ba,au.len,eK];rw[A03 371 (fun l t_=>⟨_,rfl,l,k15,_,rfl,rfl,aI,03,03,?_,fun wd aa2=>?_⟩)]
   ·rw[kA];exact 825
   have EF:c00 (271 k15) [426 0]=aT (iM 97 0):=by
    rw[kA,aT,List.map_replicate];clear k aa1 hf bB gt nO hw
    induction width with|zero=>rfl|succ n ih=>rw[Al,Al,qs,ih];rfl
   rw[EF];have aa3:∀(l:10)(i:Nat)(x:Int),(aT l).set i (.int x)=aT (l.set i x):=fun l i x=>by rw[aT,aT,List.map_set]
   have s2:=38 (293 [372] t_) (293 (aT (iM 97 0)) aa2);have aqR:H1 wd=00:=(293 [372] t_).free aa2;have hE:∀{dM:av}{o:dz},aA H1 dM→aA H1 (upd dM wd o):=fun{dM o:_}e b u z=>364 (110 z aqR) (e b u z);refine⟨_,rfl,_,rfl,_,rfl,wd,_,_,508,rfl,rfl,aI,IY (by rw[fa,ph];exact hf),?_⟩;rw[aa3];refine⟨_,rfl,p,rfl,224 (hE s2 _ _ au.lst),hN (K:=K) (a:=p) (xs:=587) (i67 93 (σ=[444,71 508,71 97,601 c50,v4,ew,46 wd]∧a95∧H' wd=79 ((ps.take i).foldl (fun w q=>i73 (Gf 508 c50 q)) ((iM 97 0).set 508 c50)))) ⟨v4,ew,rfl,hE s2,aI⟩ (l75 _ _ au.lst) ?_ ?_⟩
   ·rintro i y σ a5 aC⟨EG,Em,rfl,s3,Be⟩;rw[C46 (au.get aC)];have fB:=cG aw;have Bd:=(bB q fB).col;have aqS:=(bB q fB).iL;have Jv:=(nO fB Bd).abs;refine⟨t,_,rfl,448 (83 bk),rfl,_,_,rfl,_,_,rfl,rfl,_,rfl,_,rfl,a,aT q.2,_,.int (c13 508),rfl,rfl,32 (s3 _ _ aN),fm (gt fB hf),_,rfl,_,_,rfl,rfl,.inl (nO fB hf),_,rfl,_,rfl,a,aT q.2,_,.int (ik q),rfl,rfl,32 (s3 _ _ aN),fm (gt fB Bd),_,_,rfl,rfl,⟨aqS,aaX (jN Jv 14)⟩,_,rfl,_,rfl,_,rfl,wd,_,_,q.1,rfl,rfl,Be,IY (by rw[fa,EE,mC,ph];exact Bd),?_⟩;refine⟨71 q.1,248,rfl,hE s3,?_⟩;rw[aI,AZ _ _ aw];exact 823 (j76 z) (aa3 _ _ _)
   ·rintro σ a5⟨EG,Em,rfl,s3,Be⟩;rw[ba,au.len,eK]at Be;have Be:a5 wd=79 (qo ps 508 97):=Be;refine⟨_,rfl,wd,qo ps 508 97,rfl,Be,?_,aaX (PT 14 _ 0 14 aa1),fun bP r s4 bH=>k bP r b87 bH⟩;unfold qo;rw[EE,mC,ph];lia
theorem kH(a b:Int):a34 a b=29 (a=b):=by
 rw[A06 a b]
 ·rw[e];simp
 ·rw[132,150 (e k76)]
abbrev aa4:bK:=bA 0x4f
theorem aqT:31 e44 e44 aa4:=⟨rfl,rfl,rfl,05,rfl,05,05⟩
inductive Jw(vs:08)(H:av)(Q:aW)(E:bD):04|mk:∀b:Int,vs=[.int b]→446 (Cg b)→Jw vs H Q E
theorem aqU(D:cq K ah k97 aa4 e44 f fd)(P8:220 o52 534)(aqV:220 "LAST_LETTER" 0x7a):Pr P w K ah 02 aO 1 k97 e44 Jw:=by
 rw[A02 aqT]
 ·obtain⟨b,rfl,_⟩:=h;rfl
 ·obtain⟨b,rfl,k⟩:=h;rw[A01 (65 (alg Aa Aa (dq P8) 252 (dq aqV)))];refine⟨_,rfl,_,_,rfl,rfl,_,rfl,eo 356 356⟩
  ·rw[Cg,h,w5]at k;exact⟨_,_,rfl,rfl,k⟩
  ·rw[Cg,h,zw]at k;exact k
abbrev aa5:bK:=bA 0x4d
theorem aa6:31 [576,226,"in_remark",f38] 774 aa5:=⟨rfl,rfl,rfl,05,rfl,05,05⟩
inductive P9(K:bo)(vs:08)(H:av)(Q:aW)(E:bD):04|mk:∀(t:ag)(ns:10)(pl:Nat),vs=[784,936]→063 t→pl≤314→Q (48 (pl+mw 09 (976 pl):Nat)) H→P9 K vs H Q E
theorem aqW{pl:Nat}{b:Int}(h:ns[pl]?=360):976 pl=b::976 (pl+1):=by have:=eI h;rw[aa7 246];rw[cA 246]at h;rw[cI h]
theorem aqX{ab:ag}(D:cq K ah o48 aa5 774 f fd)(O:443)(aqY:220 "LINE_FEED" 0xa)(aqZ:220 "REMARK" 311)(aq0:d7 ah "BLANKS" (.ref ab))(fY:∀H,dX K H ab (a_ [9,0xa,0xd,0x20])):Pr P w K ah 02 aO 1 o48 774 (P9 K):=by
 rw[A02 aa6]
 ·obtain⟨t,ns,pl,rfl,_⟩:=h;rfl
 ·obtain⟨t,ns,P_,rfl,bk,aq1,k⟩:=h;have S:=aa6;rw[A01 (389 2 l8 (tI eL (bM ka (J 1) (d6 (hO K rfl) 66 O.len eJ 029) (bO _)) (90 3 (440 252 62) (bX (bM fv (J 3) (dq aqY) (bO _)) (aM (94 2 l8)) (aM (bX (bM fv (J 3) (dq aqZ) (bO _)) (aM (94 2 l8)) (aM (bX (vw (g91 45) (xO (bM (D7 K rfl) 85 (dq aq0) rfl))).pt (aM akE) b2))))) (aM (Dj (i:=1) 242 rfl 70 bu z4)))) 62)];generalize aq2:P_+mw 09 (976 P_)=fin at k;refine M_ (o80 (∃(pl:Nat)(inr:Bool)(v:93),σ=[530,71 pl,c53 inr,v]∧H'=H∧pl≤314∧pl+mw inr (976 pl)=fin)) (fun σ _=>match σ with|[_,some (.int n),_,_]=>314-f32|_=>0) ⟨P_,09,00,rfl,rfl,aq1,aq2⟩ ?_ ?_
  ·rintro σ H1⟨pl,inr,v,rfl,rfl,eH,hf⟩;refine⟨_,rfl,_,rfl,t,_,rfl,.inl bk,_,_,rfl,rfl,_,rfl,359⟩
   ·have cM:pl<314:=by have:=104;rw[fa]at this;lia
    obtain⟨b,aa⟩:∃b,ns[pl]?=360:=126 cM;have hd:=aqW aa;rw[hd]at hf;refine⟨_,rfl,_,rfl,t,039,_,.int b,rfl,rfl,bk,fm (by rw[aT,cK,aa];rfl),?_⟩;refine⟨_,rfl,rfl,_,rfl,?_⟩;rw[kH];have yG:∀Jx:Bool,pl+(mw Jx (976 (pl+1))+1)=fin→(∃(Jy:Nat)(aa8:Bool)(vu:93),([530,601 (15 pl+1),c53 Jx,601 b]:bq)=[530,71 Jy,c53 aa8,vu]∧H1=H1∧Jy≤314∧Jy+mw aa8 (976 Jy)=fin)∧314-271 (15 pl+1)<314-271 (15 pl):=fun Jx e=>⟨⟨pl+1,Jx,_,rfl,rfl,03,03⟩,(88 (314-(pl+1)<314-pl) (apP cM (zI pl)))⟩;refine eb (fun C1=>?_) (fun C1=>?_)
    ·have xD:b=0xa:=121 C1;rw[mw,21 xD]at hf;exact⟨_,rfl,_,_,rfl,rfl,yG 09 hf⟩
    ·have xD:¬b=0xa:=16 (C1 139);rw[mw,23 xD]at hf;refine⟨_,rfl,rfl,_,rfl,?_⟩;rw[kH];refine eb (fun Qa=>?_) (fun Qa=>?_)
     ·rw[21 (121 Qa)]at hf;exact⟨_,rfl,_,_,rfl,rfl,yG 01 hf⟩
     ·rw[136 (Qa 139)]at hf;refine⟨_,rfl,_,rfl,?_⟩
      cases inr with
       |true=>rw[142]at hf;exact b_ (b_ ⟨_,rfl,_,_,rfl,rfl,yG 01 hf⟩)
       |false=>
        refine c8 ⟨_,rfl,ab,a_ [9,0xa,0xd,0x20],rfl,.inr (fY H1),rfl,Eb _,_,rfl,?_⟩;rw[IS];have eG:([9,0xa,0xd,0x20].any (h29 (29 (44=b))))=zo b:=rfl;rw[eG]
        cases hR:zo b with|true=>rw[hR,142]at hf;exact b_ ⟨_,rfl,_,_,rfl,rfl,yG 09 hf⟩|false=>rw[hR,213]at hf;refine c8 950;rw[←hf]at k;exact k
   ·have qX:pl=314:=by have h':¬15 pl<320 039:=152 z;rw[fa]at h';lia
    rw[qX,aa9]at hf;have hf:314+0=fin:=hf;rw[A01 rfl];rw[←hf]at k;rw[qX];exact k
  ·rintro σ H1 Zx Zy aw⟨v1,aK,v2,aG,p,ys,c0,aL,i,j,hg,tY,b0,mA,q⟩;exact⟨v1,aK,v2,aG,p,ys,c0,aL,i,j,hg,tY,b0,mA,aw _ _ q⟩
theorem Jz{bs:27}(h:r≠[])(e:478=aT r):False:=by
 cases bs with
  |nil=>cases r with|nil=>exact h rfl|cons x y=>cases e
  |cons a b=>cases r with|nil=>cases e|cons x y=>injection e with e _;cases e
def iG:240 Nat|0=>12|n+1=>2*iG n*iG n
def jf(width B:Nat)(r:10):04:=230=97∧097 (986≤B)
structure sI(width i:Nat)(st:sY):04 where
 jg:565 st.2 (e72 i r)
 pl:c19 (e72 i q.2∧q.1<i)
 iQ:f44≤i
theorem aq3{B:Nat}(h:097 (986≤B)):∀x∈b03,986≤B:=by
 unfold jH;split
 ·exact h
 ·rw[A74];rw[A84 ai];exact cX (Int.natAbs_ediv_le_natAbs _ _) (h z hz)
theorem Qb(r:10):11 b03=230:=q99
theorem Bf{w B:Nat}{J:10}{c:Nat}(aq:jf w B r)(au:jf w B J):jf w (2*B*B) (fq r J c):=by
 have lT:∀{l:10},jf w B l→743 (834 c)≤B:=fun{l:_}h=>by
  by_cases e:c<63
  ·exact h.2 _ (cG (uS e))
  ·rw[cZ,140];exact 229
 rw[A27 ?_]
 ·unfold fq;rw[Qb,qw,aq.1,au.1,Nat.min_self]
 ·refine aq3 333;rw[A86 ai];rw[zD]at hi
  cases aK:r[i]? with
   |none=>rw[aK]at hi;cases hi
   |some a=>
    cases aG:J[i]? with
     |none=>rw[B82];cases hi
     |some b=>
      rw[B82];have e:a*793-b*611=x:=cI hi;rw[←e];have hx:743 (a*793)≤B*B:=by rw[Cz];exact wc (aq.2 a (cG aK)) (lT au)
      have ip:743 (b*611)≤B*B:=by rw[Cz];exact wc (au.2 b (cG aG)) (lT aq)
      rw[Nat.two_mul,pq];exact cX (aqC _ _) (aba hx ip)
theorem abb(n:Nat):iG n≤iG (n+1)∧12≤iG n:=by
 have iN:12≤iG n:=by
  induction n with
   |zero=>exact 64
   |succ n ih=>
    show 12≤2*iG n*iG n;calc
     12≤2*12*12:=by decide
     _≤2*iG n*iG n:=wc (PU 2 ih) ih
 rw[A03 ?_ iN];show iG n≤2*iG n*iG n;calc
  iG n=1*iG n:=(pv _).symm
  _≤2*iG n*iG n:=CK _ (by lia)
theorem jf.up{w B C:Nat}(h:jf w B r)(e:B≤C):jf w C r:=⟨h.1,276 (cX (h.2 x ai) e)⟩
theorem sI.elim{width i:Nat}{st:sY}(h:sI 97 i st):sI 97 (i+1) (elim i st):=by
 have up:=(abb i).1;unfold Internal.elim
 cases e:f83 864 with
  |none=>exact⟨725 ((h.jg r aq).up up),330 ⟨(h.pl q aw).1.up up,564 (h.pl q aw).2⟩,cX h.iQ (xv i)⟩
  |some J=>
   have kq:=h.jg J (nq e);rw[A20 c23 457]
   ·rw[A84 aq];exact Bf (h.jg z hz) kq
   ·rw[A85 aw]
    ·rw[A84 aw];exact⟨Bf (h.pl z hz).1 kq,by have:=(h.pl z hz).2;show z.1<i+1;lia⟩
    ·rw[A78];exact⟨kq.up up,a45 i (i+1)⟩
   ·rw[cn,ba];have:=h.iQ;simp;lia
theorem JA(h:i≤3){x:Int}(ai:986≤iG i):kf x:=by
 have af:iG i≤55037657088:=by match i,h with|0,_=>decide|1,_=>decide|2,_=>decide|3,_=>decide
 unfold kf;lia
theorem abc(K:bo)(cj:X.K=K)(bp:e39<kb):gs X (jv .Eq) (N4 K):=740 (amH bp)
abbrev EH:bK:=bA 12
theorem abd:31 [539,428,366,l14,742,243,l13,l11,974] [539,428] EH:=⟨rfl,rfl,rfl,05,rfl,05,05⟩
inductive Qc(vs:08)(H:av)(Q:aW)(E:bD):04|mk:∀(p:ag)(as:27)(rows:99)(width:Nat),vs=[280,48 97]→mT H p as 17→666≤8→97≤4→(b44 (jf 97 12 r))→(∀H' pp aD,49→ub H' pp aD (gO 17 97).1→435 pp)→Qc vs H Q E
theorem Qd{H:av}:∀(as:27)(rows:99),i78→(d62 10 (325=532) (775=447→H a=715))→tP K H 317 g42
 |[],[],_,_=>89
 |[],_::_,h,_=>806
 |_::_,[],h,_=>806
 |a::as,r::rows,h,aq=>by
  refine .cons (d86 (aq 0 a r rfl rfl) ?_) (Qd as 17 967 (fun i b q af ak=>aq (i+1) b q af ak));clear h aq
  induction r with|nil=>rw[A40]|cons x y ih=>exact 919 (.int x)
theorem abe{us:27}{ps:336}{u:ag}{q:526}(len:b79)(pr:∀(n:Nat)(v:ag)(z:526),us[n]?=54→ps[n]?=415→∃a,H' v=294 [769,37]∧H' a=79 z.2)(bp:∃a,H' u=f01∧H' a=e87):11 (us++[u])=11 (ps++[q])∧∀(n:Nat)(v:ag)(z:526),(us++[u])[n]?=54→(ps++[q])[n]?=415→∃a,H' v=294 [769,37]∧H' a=79 z.2:=by
 rw[A03 q98 (o77 ?_)];rw[A65 (n<891)]
 ·rw[mN hi]at af;rw[mN 03]at ak;exact pr n v z af ak
 ·rw[166]at af ak;have dw:n-891=0:=l83 af;rw[dw]at af;rw[←len,dw]at ak;have aK:u=v:=cI af;have aG:q=z:=cI ak;rw[B52];exact bp
theorem JB{u:ag}{bs:27}{o:dz}{q:526}(cO:H D=036)(aw:q.2≠[])(h:∃a,H u=f01∧H a=e87):∃a,upd H D o u=f01∧upd H D o a=e87:=by obtain⟨a,af,ak⟩:=h;refine⟨a,553 af cO af,41 521 ak⟩;rw[z,cO]at ak;exact 189 aw (cI ak)
theorem abf(rows:99):vM (q5 g42)=01:=by
 have af:∀r:10,we f73=01∧wg f73=0:=by
  intro r
  induction r with|nil=>rw[C13]|cons x y ih=>exact⟨by simp[we,JC,ih.1],by simp[wg,JD,ih.2]⟩
 have ak:we g42=01∧wg g42≤1:=by induction rows with|nil=>rw[C13]|cons r t ih=>rw[A27 (by simp[we,JC,(af r).1,ih.1])];simp[wg,JD,(af r).2];have:=ih.2;lia
 unfold vM;simp[JC,JD,ak.1];have:=ak.2;lia
theorem aq4(rows:99):vN (q5 g42) (q5 [])=rows.isEmpty:=by cases rows with|nil=>simp[vN,EI]|cons a b=>simp[vN,EI]
theorem Qe{α:272}(f:935):∀l:40,h74 f=(f45 f).head?
 |[]=>rfl
 |a::l=>by
  rw[jK,iO]
  cases h:f a with|true=>rfl|false=>exact Qe f l
theorem aq5(D:cq K ah o75 EH [539,428] f fd)(O:347)(JE:Pr P w K ah 02 aO 3 o79 [243,b56,742] PX):Pr P w K ah 02 aO 4 o75 [539,428] Qc:=by
 rw[A02 abd]
 ·obtain⟨p,as,rows,width,rfl,_⟩:=h;rfl
 ·obtain⟨p,as,rows,width,rfl,au,vi,hw,eM,k⟩:=h;have S:=abd;rw[A01 (90 2 556 (94 3 252) (239 (e_ eL rfl (c92 296) (98 4 rfl e93) (aF (qT (i:=6) rfl 242 rfl rfl 875 (339 85) (own:=[(243,5)]) (295 [539,428,366,l14,742,243,l13,l11,974] EH) h09 (e47 (bM k4 (440 462 327) bu (bO _))) (286 462)) (aF (bX (bM (abc K rfl f06) (J 6) 556 (bO _)) (aM Ho) b2) (aF (952 7 (440 867 bu)) (aF (qT (i:=2) rfl 242 rfl rfl 875 (339 45) (own:=[(974,8)]) (295 [539,428,366,l14,742,243,l13,l11,974] EH) (924 8) 369 (286 (oC (258 (e6 (oJ K rfl) (J 8) bu 630) (925 JE (e6 (oJ K rfl) (J 8) bu 630) (461 7 4)))))) (434 (qT (i:=3) rfl 242 rfl rfl 875 (339 85) (own:=[(243,5)]) (295 [539,428,366,l14,742,243,l13,l11,974] EH) h09 369 (286 (437 JE 5 7 4))) (fK (hD K rfl h9 sD sE qQ 45 (78 (oC (461 4 7))))))))))) 45))];rw[A33 (fun aq6 aq7=>950)];have s0:=293 [] aq7;have LN:sI 97 0 (gO 17 0):=⟨eM,b86,229⟩;refine⟨_,rfl,k15,rfl,03,03,xX (lo:=0) (n:=271 k15) (504 (∃(pp eV:ag)(aD as':27)(v4 ew v6 fM ia:93),σ=[444,71 97,46 pp,46 eV,v4,ew,v6,fM,ia]∧49∧ub H' pp aD (490).1∧mT H' eV as' (490).2∧sI 97 i 490∧(490).2.length≤8)) ⟨aq6,p,[],as,00,00,00,00,00,rfl,s0,⟨aI,rfl,fun i t q h=>500⟩,au.same s0,LN,vi⟩ ?_ ?_⟩
  ·rintro i σ H1 hi⟨pp,eV,aD,as',v4,ew,v6,fM,ia,rfl,s1,dH,cH,ok,JF⟩;have EC:i≤3:=03;have uc:i<97:=03;have aq8:413+249=249:=03;rw[108 (gO 17 (i+1)) b05];generalize 490=st at dH cH ok JF⊢;rw[aq8];have wh:=ok.elim;refine⟨_,rfl,eV,rfl,224 d00,436⟩;refine kC (K:=K) (a:=eV) (xs:=m55) (876 (∃cs:27,H'=g56∧383=11 (m72 j 864)∧∀(n:Nat)(a:ag)(r:10),cs[n]?=532→((st.2.take j).filter (fun r=>! decide (r.getD i 0=0)))[n]?=447→H1 a=715)) (072 [] (fun n a r h=>500)) (q34 (682 (335 d00 cO d00))) ?_ ?_
   ·rintro j y H' aC⟨cs,rfl,hlen,iD⟩;rw[D31 (cH.get aC)];have wa:=(ok.jg r e66).1;refine⟨rfl,_,rfl,_,rfl,a,aT r,_,.int b10,rfl,rfl,32 (335 EJ cO EJ),fm (by rw[aT,cK,uS (by rw[wa];exact uc)];rfl),rfl,_,rfl,?_⟩;rw[kH];have gC:∀b,(864)=b→m72 (j+1) 864=m72 j 864++(39 b [r] []):=i28 (dZ c1);refine eo 485 485
    ·refine⟨_,rfl,_,aI,?_,cs++[a],?_,?_⟩
     ·rw[ba,hlen];refine fL (88 255 ?_) 14;refine 164 _ _;rw[eS];lia
     ·rw[gp,d5];rfl
     ·rw[gC 01 aa];exact Ey (H:=H1) (H':=H1) (p:=D) 568 iD EJ
    ·rw[gC 09 aa];rw[C08 cs rfl q33]
   ·rintro aB⟨cs,rfl,hlen,iD⟩;rw[ba,cH.len,eK]at hlen iD;rw[A77 634 cO];have aBx:tP K g56 634 (687 (i59 864) m07):=Qd cs _ 568 (fun n a r af ak=>106 (iD n a r af ak));refine⟨_,rfl,229,h24 ?_⟩;have s3:=b50 (293 [] he);have oP:334 g56 e [] D=247 634:=335 aI he aI;have abg:334 g56 e [] e=247 []:=aI;generalize 34 g56 e []=a5 at s3 oP abg⊢;refine⟨_,_,d86 oP (Qd cs _ 568 (fun n a r af ak=>83 (iD n a r af ak))),d86 abg 89,abf _,abf [],_,rfl,?_⟩;rw[aq4];refine eo (fun JG=>?_) (fun JG=>?_)
    ·have hf:i59 864=[]:=aBy.mp JG;have JH:elim i st=st:=by unfold elim;rw[Qe,hf];rfl
     rw[JH]at wh;rw[JH];exact⟨pp,eV,aD,as',_,_,_,_,_,rfl,j11,dH.same s3,g40,wh,JF⟩
    ·obtain⟨J,rest,hf⟩:∃J rest,i59 864=J::67:=by cases q:i59 864 with|nil=>rw[q]at JG;cases JG|cons a b=>exact⟨a,b,rfl⟩
     have abh:f83 864=some J:=by rw[Qe,hf];rfl
     have JH:elim i st=(a19 (q.1,fq q.2 J i)++[(i,J)],st.2.map (429 (fq r J i))):=by unfold elim;rw[abh]
     obtain⟨lJ,Jv⟩:∃lJ,cs[0]?=some lJ:=126 (by rw[hlen,hf];simp);have kq:=83 (iD 0 lJ J Jv (by rw[hf];rfl));have Bg:=ok.jg J (nq abh);rw[JH]at wh⊢;have abi:∀x∈J,kf x:=276 (JA EC (Bg.2 x ai));refine⟨_,rfl,D,634,_,.ref lJ,rfl,rfl,32 oP,fm (j:=0) (by rw[cK,Jv];rfl),?_⟩;have yH:=dH.same s3;have q6:=g40;have nonempty:∀{r:10}{B:Nat},jf 97 B r→r≠[]:=fun{r B:_}h z=>by have:=h.1;rw[z]at this;simp at this;lia
     refine⟨_,rfl,pp,rfl,224 yH.lst,fun d2 oO=>?_⟩;refine kC (K:=K) (a:=pp) (xs:=587) (876 (479 a5∧∃us:27,H' d2=247 a25∧891=11 (527 (a19 (q.1,fq q.2 J i)))∧∀(n:Nat)(u:ag)(q:526),us[n]?=56→((st.1.map (fun q=>(q.1,fq q.2 J i))).take j)[n]?=796→∃a,H' u=f01∧H' a=e87)) ⟨422 oO,[],aI,rfl,fun n u q h=>500⟩ (fun j H' _⟨s4,_⟩=>g45 yH.lst) ?_ ?_
     ·rintro j y H' aC⟨s4,us,fp,yI,yJ⟩;rw[C46 (yH.get aC)];have EK:=(ok.pl q (cG aw)).1;have p4:=103 bk;have eq:(st.1.map (fun q=>(q.1,fq q.2 J i)))[j]?=some (q.1,fq q.2 J i):=by rw[cK,aw];rfl
      refine⟨rfl,_,rfl,t,_,_,a39,rfl,rfl,448 p4,f03,_,rfl,t,_,_,37,rfl,rfl,448 p4,e62 1,_,rfl,_,rfl,a,lJ,q.2,J,i,rfl,103 aN,103 kq,by rw[EK.1];exact hw,by rw[Bg.1,EK.1],by rw[EK.1];exact uc,276 (JA EC (EK.2 x ai)),abi,fun de iw s5 JI=>⟨338,l10 ?_⟩⟩;have cW:=s5.trans (821 [a39,e88] bp);have abj:upd de u (.tup [a39,e88]) u=294 [a39,e88]:=aI;have Bh:=(821 [a39,e88] bp) _ _ JI;generalize 388 de u [a39,e88]=ft at cW abj Bh⊢;have wi:=310 fp;rw[dZ eq];rw[B04 (abe (H':=34 ft d2 (a25++[.ref u])) (u:=u) (q:=(q.1,fq q.2 J i)) yI (o77 (JB wi (d21 (wh.pl z (j59 (qp (cG ak)))).1) (o78 (yJ n v z af ak) ⟨a,310 x,310 y⟩))) (JB wi (d21 (Bf (c:=i) EK Bg)) ⟨iw,abj,Bh⟩))];refine⟨_,wi,?_,923,us++[u],?_,cR,dS⟩
      ·rw[ba,yI,eS,ba];rw[A14 (show 255 by have:=ok.iQ;lia)]
      ·rw[aE (88 (b≠d2) (543 (by rw[w,oO]at z;cases z)))];exact 310 (103 z)
      ·rw[A52];rfl
     ·rintro bP⟨s4,us,fp,yI,yJ⟩;have c4:222 (a19 (q.1,fq q.2 J i)) (11 587)=a19 (q.1,fq q.2 J i):=sj (by rw[ba,ba,yH.len];exact 64);rw[c4]at yI yJ;have jD:=q6.same s4;have abk:=103 kq;refine⟨_,rfl,eV,rfl,224 jD.lst,fun dE Qg=>?_⟩;refine kC (K:=K) (a:=eV) (xs:=m55) (876 (479 bP∧∃bs:27,H' dE=036∧889=11 (527 (st.2.map (429 (fq r J i))))∧m13 (bs[n]?=360→((st.2.map fun r=>fq r J i).take j)[n]?=447→244=715))) ⟨422 Qg,[],aI,rfl,l82⟩ (fun j H' _⟨s5,_⟩=>32 (s5 _ _ jD.lst)) ?_ ?_
      ·rintro j y H' aC⟨s5,bs,wj,hR,f7⟩;rw[D31 (jD.get aC)];have k_:=ok.jg r e66;have eq:(st.2.map fun r=>fq r J i)[j]?=some (fq r J i):=by rw[cK,c1];rfl
       refine⟨rfl,_,rfl,_,rfl,_,rfl,a,lJ,r,J,i,rfl,s5 _ _ EJ,s5 _ _ abk,by rw[k_.1];exact hw,by rw[Bg.1,k_.1],by rw[k_.1];exact uc,276 (JA EC (k_.2 x ai)),abi,fun ft EL cW Bh=>?_⟩;have abl:=310 wj;have nb:o73 10 (ft b=79 x→x≠[]→b≠dE):=o72 (by rw[z,abl]at aK;exact 189 aG (cI aK));rw[dZ eq];rw[B04 (Ey (H:=ft) (H':=34 ft dE (478++[.ref EL])) (p:=dE) (a:=EL) (r:=fq r J i) hR (fun n b z af ak=>41 (nb b z (310 (f7 n b z af ak)) (d21 (wh.jg z (qp (cG ak))))) (310 (f7 n b z af ak))) (41 (nb EL _ Bh (d21 (Bf (c:=i) k_ Bg))) Bh))];refine⟨_,abl,?_,923,bs++[EL],?_,cR,dS⟩
       ·rw[ba,hR,eS,ba];rw[A14 (show 255 by lia)]
       ·rw[aE (88 (b≠dE) (543 (by rw[w,Qg]at z;cases z)))];exact 310 (s5 _ _ z)
       ·rw[A52];rfl
      ·rintro de⟨s5,bs,wj,hR,f7⟩;have JJ:222 (st.2.map (429 (fq r J i))) (11 m55)=st.2.map (429 (fq r J i)):=sj (by rw[ba,ba,jD.len];exact 64);rw[JJ]at hR f7;have Mj:d2≠dE:=bT fp Qg;have abm:=s5 _ _ fp;refine⟨_,rfl,329 abm,_,rfl,_,rfl,338,l10 ?_⟩;have cW:=821 [48 i,.ref lJ] bp;have wi:=310 abm;refine⟨d2,_,_,rfl,rfl,wi,?_,?_⟩
       ·rw[ba,yI,ba];rw[A14 (show 255 by have:=ok.iQ;lia)]
       rw[B04 (abe (H':=34 (388 de u [48 i,.ref lJ]) d2 (a25++[.ref u])) (u:=u) (q:=(i,J)) yI (o77 (JB wi (d21 (wh.pl z (j59 (cG ak))).1) (o78 (yJ n v z af ak) ⟨a,310 (s5 _ _ x),310 (s5 _ _ y)⟩))) (JB wi (d21 Bg) ⟨lJ,aI,310 (s5 _ _ abk)⟩))];have aq9:o73 10 (upd de u (.tup [48 i,.ref lJ]) b=79 x→x≠[]→b≠d2):=o72 (by rw[z,wi]at aK;exact 189 aG (cI aK));refine⟨d2,dE,us++[u],bs,_,_,_,_,_,rfl,923,⟨?_,cR,dS⟩,⟨41 Mj.symm (310 wj),hR,fun n b r af ak=>?_⟩,wh,by rw[ba];exact JF⟩
       ·have jC:=83 (s1 _ _ z);rw[aE (88 (b≠d2) (543 (by rw[w,oO]at jC;cases jC)))];exact 310 (s5 _ _ (103 jC))
       ·rw[A52];rfl
       ·have aK:=310 (f7 n b r af ak);exact 41 (aq9 b r aK (d21 (wh.jg r (cG ak)))) aK
  ·rintro σ H1⟨pp,eV,aD,as',v4,ew,v6,fM,ia,rfl,s1,dH,cH,ok,JF⟩;rw[kA]at dH;rw[A15 (k H1 pp aD s1 dH)]
theorem abn:j15 (c16 g g∣g∧097 (c16 g g∣986))
 |[],g=>⟨UH g,fun x h=>806⟩
 |a::r,g=>by
  rw[hv];rw[A81 (abn r (qm g a.natAbs))];rw[A03 (Cy af (aim _ _)) 333];rw[C15 ai]
  ·rw[e];exact Cy af (aio _ _)
  ·exact ak x e
theorem ara(r:10)(k:Nat):(b03).getD k 0=0↔608=0:=by
 unfold jH;split
 ·exact Iff.rfl
 ·rw[A66 (k<230)]
  ·have e:=uS aS;have hd:928∣608:=ain.mpr ((abn r 0).2 _ (cG e));have aG:(j55 (n/928)).getD k 0=608/928:=by rw[cZ,cK,e];rfl
   rw[aG];rw[A04]
   ·intro h;obtain⟨m,hm⟩:=hd;rw[hm,aiB _ 03]at h;rw[hm,h,Cx]
   ·intro h;rw[h,Int.zero_ediv]
  ·rw[cZ,187,cZ,140]
theorem Qh{w B:Nat}{J:10}{c k:Nat}(aq:jf w B r)(au:jf w B J):(fq r J c).getD k 0=0↔608*793-750 k*611=0:=by
 unfold fq;rw[ara];have e:(kQ (578 (a*793-b*611)) r J).getD k 0=608*793-750 k*611:=by
  rw[cZ,zD];rw[A66 (k<w)]
  ·rw[uS (l:=r) (by rw[aq.1];exact aS),uS (l:=J) (by rw[au.1];exact aS)];rfl
  ·have cR:608=0:=o76 (hH (564 aq.1));have dS:750 k=0:=o76 (hH (564 au.1));rw[hH (l:=r) (564 aq.1),cR,dS];simp
 rw[e]
structure yK(width:Nat)(st:sY):04 where
 jg:565 st.2 (e72 f44 r)
 pl:c19 (e72 f44 q.2∧q.1<97)
 z:c19 (565 st.2 (819 q.1=0))
 p:c19 (ik q≠0)
 arb:c19 (∀eU∈st.1,q.1≠eU.1→c13 eU.1=0)
theorem yK.elim{width c:Nat}{st:sY}(h:yK 97 st)(ar:c<97):yK 97 (Internal.elim c st):=by
 unfold Internal.elim
 cases e:f83 (! 29 (819 c=0))with
  |none=>exact h
  |some J=>
   have fB:=nq e;have kq:=h.jg J fB;have d9:793≠0:=q97 (zG e);have up:=(abb f44).1;have hlen:11 (a19 (q.1,fq q.2 J c)++[(c,J)])=f44+1:=by rw[cn,ba];rfl
   have gM:c19 (750 q.1=0):=330 (h.z q aw J fB);refine⟨c23,457,fun q aw r aq=>?_,457,fun q aw eU iz aU=>?_⟩
   ·rw[B38 aq];show e72 (075 _ 336) _;rw[hlen];exact Bf (h.jg x ai) kq
   ·show e72 (075 _ 336) _∧_;rw[hlen];rw[A85 aw]
    ·rw[B38 aw];exact⟨Bf (h.pl x ai).1 kq,(h.pl x ai).2⟩
    ·rw[A78];exact⟨kq.up up,ar⟩
   ·rw[B38 aq];rw[Qh (h.jg x ai) kq];rw[A85 aw]
    ·rw[A46 aw];show x.getD y.1 0*_-750 y.1*_=0;rw[h.z y aC x ai,gM y aC];simp
    ·rw[A78];show x.getD c 0*_-793*_=0;rw[w9];lia
   ·rw[A85 aw]
    ·rw[A46 aw];show(fq y.2 J c).getD y.1 0≠0;intro z;rw[Qh (h.pl y aC).1 kq,gM y aC]at z;rw[Int.zero_mul,UQ]at z;rw[A61 (UE.mp z)]
     ·exact h.p y aC z
     ·exact d9 z
    ·rw[A78];exact d9
   ·rw[A85 aw]
    ·rw[A46 aw];show(fq y.2 J c).getD eU.1 0=0;rw[Qh (h.pl y aC).1 kq];rcases 362 iz with iz|iz
     ·obtain⟨Bi,qR,rfl⟩:=112 iz;show 691 Bi.1*_-750 Bi.1*_=0;rw[h.arb y aC Bi qR aU,gM Bi qR];simp
     ·rw[86 iz];show 691 c*_-793*_=0;rw[w9];lia
    ·rw[86 aw]at aU⊢;rcases 362 iz with iz|iz
     ·obtain⟨Bi,qR,rfl⟩:=112 iz;exact gM Bi qR
     ·rw[86 iz]at aU;rw[A64 aU]
theorem yK.Bj{width:Nat}{rows:99}(h:b44 (jf 97 12 r)):∀i,i≤97→yK 97 490|0,_=>⟨h,b86,b86,b86,b86⟩|i+1,hi=>(yK.Bj h i 03).elim 03
theorem sI.Bj{width:Nat}{rows:99}(h:b44 (jf 97 12 r)):∀i,sI 97 i 490|0=>⟨h,b86,229⟩|i+1=>(sI.Bj h i).elim
theorem abo{width:Nat}{rows:99}(h:b44 (jf 97 12 r))(f:Nat):∀i,f<i→(538 (490).1 (q.1≠f))→h93 490+1≤i
 |0,hf,_=>03
 |i+1,hf,aw=>by
  have aU:=(sI.Bj h i).iQ;have ih:=abo h f i;rw[108 (gO 17 (i+1)) b05]at aw⊢;generalize 490=st at aU ih aw⊢;unfold elim at aw⊢
  cases e:f83 864 with|none=>rw[e]at aw;have aw:c19 (q.1≠f):=aw;show f44+1≤i+1;lia|some J=>rw[e]at aw;have aw:538 (a19 (q.1,fq q.2 J i)++[(i,J)]) (q.1≠f):=aw;have af:i≠f:=aw (i,J) (e4.mpr (en g75));have ak:=ih 03 (fun q lP=>aw (q.1,fq q.2 J i) (j59 (143 q lP)));show 11 (a19 (q.1,fq q.2 J i)++[(i,J)])+1≤i+1;rw[cn,ba];simp;lia
theorem JK(x:06)(c:Nat):0≤rm x c∧rm x c≤96:=by unfold rm;have:=tT (c95 (j==c)) x;lia
theorem EM(g:269):565 528 (jf 81 12 r):=by rw[A92];obtain⟨m,hm,rfl⟩:=147;rw[A81 (g.cw m hm)];rw[A03 (by rw[fO,ba]) 333];obtain⟨c,_,rfl⟩:=171;have:=JK m.l c;have:=JK m.r c;lia
theorem arc(g:269){f:Nat}(hf:f<81)(oe:lX 390 f=01):(538 390 (P6 81 q))∧11 390≤4:=by
 have hd:=EM g;have fY:=yK.Bj hd 81 64;rw[A41];have d9:538 390 (q.1≠f):=fun q aw z=>by unfold lX at oe;have:a56 d96 (15 f)=01:=161 q.1 (143 q aw) (102 (by rw[z]));rw[this]at oe;cases oe
 have HX:=abo hd f 81 hf d9;have hlen:11 390≤3:=636 (h93 (gO 528 81)) 3;rw[A03 (330 ⟨(fY.pl q aw).2,(fY.pl q aw).1.1,276 (JA 568 ((fY.pl q aw).1.2 x ai)),fY.p q aw⟩) 03]
abbrev JL:bK:=bA 0xd
theorem abp:487 [35,428,366,974,"bound",096] JL:=⟨rfl,rfl,rfl,05,rfl,05,05⟩
inductive JM(CM:ag)(CS:ag)(vs:08)(H:av)(Q:aW)(E:bD):04|mk:749 (vs=254) (267→269→(k59 (49→mT H' p bs 704→412))→JM CM CS vs H Q E)
theorem ard(D:cq K ah k85 JL 50 f fd)(O:347)(bJ:268)(ud:Pr P w K ah 02 aO 2 h73 50 (EA CM CS))(Qi:Pr P w K ah 02 aO 4 o75 [539,428] Qc)(Qj:Pr P w K ah 02 aO 3 o74 [366,096,428] P7):Pr P w K ah 02 aO 5 k85 50 (JM CM CS):=by
 rw[A02 abp]
 ·rw[A59];rfl
 ·rw[C33];have S:=abp;rw[A01 (aF (952 1 017) (aF (952 2 (925 Qi (340 ud) 296)) (239 (952 4 (k9 rfl 242 (339 45) (own:=[(974,3)]) (295 [35,428,366,974,"bound",096] JL) 926 369 (286 (e6 (oJ K rfl) 85 bu 630)))) (k9 rfl 242 (c92 296) (own:=[(096,5)]) (295 [35,428,366,974,"bound",096] JL) h09 (e47 (bM (D7 K rfl) 462 327 rfl)) (286 (bj Qj 22 bb (77 2 5 296)))))))];obtain⟨dx,ls,as,aY⟩:=cg;rw[A41];refine⟨_,rfl,a,CS,dx,_,_,rfl,84,80,727,mg,_,rfl,b82,?_⟩;rw[dB];refine⟨_,rfl,a,sy,rfl,⟨dx,ls,as,aY⟩,g,fun H1 fW EN s1 bU=>?_⟩;refine⟨_,rfl,fW,EN,528,81,rfl,bU,q35,bH,EM g,fun aB pp aD s2 dH=>?_⟩;have dH:ub aB pp aD 390:=dH;refine⟨_,rfl,pp,rfl,224 dH.lst,436⟩;have aBz:11 390≤4:=cX (sI.Bj (EM g) 81).iQ bH;refine kC (K:=K) (a:=pp) (xs:=587) (876 (H'=322 aB D (a24 (527 390)))) rfl (n57 (682 (335 dH.lst cO dH.lst))) ?_ ?_
  ·rw[C19];obtain⟨t,q,b,aw,rfl,bk,aa⟩:=dH.get aC;refine⟨rfl,_,rfl,t,_,_,a39,rfl,rfl,448 (335 bk cO bk),f03,_,aI,?_,?_⟩
   ·rw[hn,ba,eS];rw[A14 (show 255 by lia)]
   ·rw[gp,dZ aw,d5,AY];rfl
  ·rintro a5 rfl;rw[ba,dH.len,eK];have s3:=593 d96 cO;have oP:334 aB D (a_ d96) D=259 d96:=aI;have yH:=dH.same s3;generalize 322 aB D d96=a5 at s3 oP yH⊢;refine⟨_,rfl,d53,rfl,03,03,n43⟩;refine Ol (lo:=0) (n:=271 d53) (884 (479 a5∧∃bs:27,H' dE=036∧889=11 ((908 i (lX 390)).map (fun f=>o8 390 f 81))∧m13 (bs[n]?=360→q96 n=447→244=715))) ⟨422 fp,[],aI,rfl,l82⟩ ?_ ?_
   ·rintro i bP hi⟨s4,bs,wj,hR,f7⟩;have uc:i<81:=03;refine⟨rfl,_,rfl,_,rfl,D,_,rfl,306 (103 oP),rfl,Eb _,_,rfl,?_⟩;rw[show 413+(i:Nat)=249 by lia,IS];have hg:(! a56 d96 249)=lX 390 i:=rfl;have i0:∀b,lX 390 i=b→908 (i+1) (lX 390)=908 i (lX 390)++(39 b [i] []):=350 (by rw[rv,s8];congr 1;rw[iO,aa];cases b<;>rfl);refine eo 485 485
    ·have aa:lX 390 i=01:=by rw[101]at aa;unfold lX;first|exact aa|simpa using aa
     obtain⟨po,pl⟩:=arc g uc aa;refine⟨_,rfl,_,rfl,_,rfl,pp,aD,390,i,81,rfl,yH.same s4,po,pl,uc,bH,fun de iw s5 JI=>?_⟩;have abq:=s5 _ _ wj;have abr:∀f,o8 390 f 81≠[]:=fun f z=>by have:=137 z;unfold o8 qo at this;rw[Qb,EE,mC,ph,l4]at this;lia
     have nb:o73 10 (de b=79 x→x≠[]→b≠dE):=o72 (by rw[z,abq]at aK;exact 189 aG (cI aK));have eZ:∀(n:Nat)(r:10),q96 n=447→r≠[]:=fun n r h=>by obtain⟨f,_,rfl⟩:=112 (cG h);exact abr f
     rw[i0 01 aa,101,d5];rw[B04 (Ey (H:=de) (H':=34 de dE (478++[e88])) (p:=dE) (a:=iw) (r:=o8 390 i 81) hR (fun n b z af ak=>41 (nb b z (s5 _ _ (f7 n b z af ak)) (eZ n z ak)) (s5 _ _ (f7 n b z af ak))) (41 (nb iw _ JI (abr i)) JI))];refine⟨_,abq,?_,923,bs++[iw],?_,cR,dS⟩
     ·rw[ba,hR,ba];refine fL (88 255 ?_) 14;refine 164 _ _;rw[iP];lia
     ·rw[aE (88 (b≠dE) (543 (by rw[w,fp]at z;cases z)))];exact s5 _ _ (103 z)
     ·rw[A52];rfl
    ·have aa:lX 390 i=09:=by rw[101]at aa;unfold lX;first|exact aa|simpa using aa
     rw[i0 09 aa];exact⟨s4,bs,wj,by simpa using hR,by simpa using f7⟩
   ·rintro bP⟨s4,bs,wj,hR,f7⟩;rw[kA]at hR f7;exact k bP dE bs (547 332 s3 s4) ⟨wj,hR,f7⟩
theorem Qk:11 704≤81∧565 704 (230=81):=by
 rw[A03 ?_ c23]
 ·unfold lx;rw[ba];refine 164 _ _;rw[iP];exact 64
 ·obtain⟨f,_,rfl⟩:=147;unfold o8 qo;rw[Qb,EE,mC,ph]
theorem Ql{k:Nat}:∀l:99,(k58 (230≤k))→n93≤63*k|[],_=>19|a::l,h=>by rw[qs,cn,dR,pq,pv,tp];exact aba (Ql l (725 (h r (005 aq)))) (h a 999)
abbrev abt:bK:=bA 0x88
theorem abu:487 [35,"basis",f14,243] abt:=⟨rfl,rfl,rfl,05,rfl,05,05⟩
inductive Qm(CM:ag)(CS:ag)(vs:08)(H:av)(Q:aW)(E:bD):04|mk:749 (vs=254) (267→269→gx H Q (LO sy)→Qm CM CS vs H Q E)
theorem arf(D:cq K ah 573 abt 50 f fd)(O:347)(Bk:Pr P w K ah 02 aO 5 k85 50 (JM CM CS)):Pr P w K ah 02 aO 6 573 50 (Qm CM CS):=by
 rw[A02 abu]
 ·rw[A59];rfl
 ·rw[C34];have S:=abu;rw[A01 (90 1 (340 Bk) (94 2 (a63 j79)) (239 (e_ eL rfl (339 62) (98 3 rfl 70) (a77 (hD K rfl h9 nK nL nE 45 845))) 45))];rw[C17 (Qk (sy:=sy))];rw[A41];refine⟨_,rfl,a,sy,rfl,aY,g,fun H1 p bs s1 bU=>?_⟩;refine⟨_,rfl,p,_,rfl,306 bU.lst,338,697⟩;have v_:H t=00:=f23 bk;rw[A77 [372,j52 478] bk];have dw:([372,j52 478]:08)=aT (0::320 704::540 (222 704 0)):=by rw[ba,bU.len];rfl
  rw[dw]at s2;rw[dw];refine⟨_,rfl,p,rfl,224 (106 bU.lst),hN (K:=K) (a:=p) (xs:=478) (701 (σ=[248,444,530,v]∧a95∧H' t=79 (0::320 704::540 (442 704)))) ⟨00,rfl,s2,aI⟩ (l80 _ _ bU.lst) ?_ ?_⟩
  ·rintro i y σ a5 aC⟨v,rfl,s3,mm⟩;rw[D05 (bU.get aC)];have hf:=Ql (k:=4) (442 704) (b35 (by rw[dj z (qp hz)];exact bH));have wa:=dj r e66;have hi:=eI c1;rw[eS]at hf;refine⟨_,rfl,329 mm,_,rfl,t,b,_,_,rfl,rfl,mm,83 eM,?_,_,rfl,?_,?_⟩
   ·rw[A3,A3,dR,dR];rw[A56]
   ·refine g89;rw[110 z bk];exact 83 z
   ·rw[aI,Jj,dZ c1,Cr];simp
  ·rintro σ a5⟨v,rfl,s3,mm⟩;rw[ba,bU.len,eK]at mm;rw[A15 (k a5 t j11 v_ mm)]
def abv:639→aH|none=>fh|some T=>c51
end
section
variable{A:rU}{B:Prop}{C D I a b bG c d dx f fI me p t:ag}{E Q:aH→aZ→Prop}{F cm:List (List Nat)}{ab expr:Bool}{K:bo}{M:Model}{N ps sn:List Str}{P prog:f3}{R:Result→aZ→Prop}{fD lK pos pos':Pos}{S:ag→Prop}{T newId:String}{sub us vs:List aH}{aD:List ag}{aG e value:dn}{aR:Array Ip}{bx doc ek f1 ig u:aH}{o:Obj}{ah dG:Str→Option aH}{pins:List (ag×Obj)}{an az cQ dd:Option ag}{k0 k1 k2 k3 k5:Option aH}{asf body:List bK}{b0 cR dS i j n t':Nat}{base h h':dk}{g l:List Nat}{col:Option Bool}{ns r ws:List Int}{dP k7:Array (Option aH)}{done:List (Nat×List Int)}{env:Env}{fd:k6}{name qual x:Str}{outer:List Env}{own:List (Str×Nat)}{pl:Sem Bool}{q:Search}{s s':dt}{scope:rp}{tk:Tok}{v:Word}{w:ff}{m:g0}{kvs:List (List cF×ae)}{xs:List ae}{y:ae}{H H' H1 aB eF:av}{bC:dz}{X:dT}{bW h5 hj to ty:ct}{tb:gH}{sp:mM}
structure Bl(h:dk)(e C dx:ag)(tb:639):04 where
 ex:∃iH vs,654 e iH∧iH.cls=236∧iH.dict=a84∧l05=f67∧vs[1]?=some (abv tb)
 l9:∀T,tb=some T→T≠e∧∃mn aD,654 T mn∧mn.data=503 aD∧aD[3]?=some fh
theorem arh(f:323→323)(o:Obj):(j1 f o).dict=o.dict:=by unfold j1;split<;>rfl
def Qn(fr:27)(e C dx:ag)(tb:639)(h h':dk):04:=∃gK,Bl h' e C dx (some gK)∧397≤gK∧(c56 (b≠e→tb≠360→b∉fr→219=25))∧(c56 (b∈fr→∃dP,219=j39))∧(c56 (∃dr,219=some dr))
section
variable{s:aZ}
theorem abw{L e:ag}{head:aH}{aU:Bool}{iH:Obj}{vs:323}{Q:592}(oG:l09=some 938)(ax:i50 938)(hf:o70=some L)(he:393 e iH)(ar:iH.cls=236)(JN:iH.dict=a84)(hd:l05=f67)(af:1<vs.size)(h:∀h',Qn (kv 938) e C dx 00 28 h'→Q () 537):a9 M A (do
 let a←frameOf env
 let pl←entryPlaceOf L aU
 let b←ari head a .none (hM L) .none pl
 setField (.ref e) 1 b) (f42 (a9 M A (Qo 768 00) Q E s')) E s:=by
 have abx:e∉kv 938:=fun hm=>by obtain⟨_,o,a8,ue⟩:=ax.mem hm;rw[he]at a8;cases a8;exact ue vs hd
 rw[A00 (wpAny_frameOf_fun oG ax hf (fun g1⟨qB,kJ,aby⟩=>a7 (wpAny_entryPlaceOf (fun pl eH=>?_))))];unfold ari newFields;rw[A00 (H8 ?_ (eH.sizeOk5 _ _ _ _ _))];have abz:g1.get? e=some iH:=138 e abx he;have neT:f43≠e:=lF (dm abz);generalize aU:(q65 (401 "traceback") (503 (809 ([head,.ref L,87,hM L,87]++(13 o71 (iM 6 fh) pl)))):Obj)=mn;have abA:=dY mn abz;refine DS abA hd af ?_;have wk:=DT hd q95;have abB:=x7 i29 abA (Ir wk);have gf:mn.data=503 (809 ([head,.ref L,87,hM L,87]++(13 o71 (iM 6 fh) pl))):=by rw[←aU]
 have arj:(j57).get? f43=some mn:=gg g1 (by rw[←aU];rfl);have abC:=38 (vK j57 i29 (jq neT)) arj;unfold Qo;rw[A00 (lU abB wk (x:=.ref f43) (by simp[af]) ?_)];rw[21 (show(da f43 !=fh)=01 by simp)];have jC:3<n68 ([head,.ref L,87,hM L,87]++(13 o71 (iM 6 fh) pl)):=by simp only[gu,cn,dR,l4];lia
 refine DS abC gf jC (h _ ?_);have keep:374 (g1.get? b) (b≠e→782 (((j57).update e i29).update f43 i27)=25):=fun b o aa l6=>by rw[vK _ _ (lF (dm aa)),vK _ _ (jq l6)];exact dY _ aa
 have abD:=38 (vK ((j57).update e i29) i27 neT) abB;have abE:=DT gf q94;have ark:=x7 i27 abC (Ir abE);refine⟨f43,⟨⟨_,_,abD,38 (anZ _ _) ar,38 (arh _ _) JN,wk,by simp[af,abv]⟩,c32⟩,?_,fun b o aa l6 _ mq=>keep b o (138 b mq aa) l6,fun b o aa mq=>?_,n40⟩
 ·cases bR;refine⟨neT,_,_,ark,abE,?_⟩;have:=jC;simp[Array.getElem?_setIfInBounds_self,this]
 ·rw[←qB];exact 64
 ·obtain⟨dP,aL⟩:=aby b o aa;exact⟨dP,keep b _ aL (16 (abx (z▸mq)))⟩
 ·obtain⟨dP,aL⟩:=aby b o aa;by_cases l6:b=e
  ·subst l6;rw[A08 abD]
  ·rw[A08 (keep b _ aL l6)]
theorem abF{L e:ag}{tb:639}{Q:592}(oG:l09=some 938)(ax:i50 938)(hf:o70=some L)(x:Bl 28 e C dx tb)(h:∀h',Qn (kv 938) e C dx tb 28 h'→Q () 537):a9 M A (noteFrame 768 env) (f42 (a9 M A (Qo 768 00) Q E s')) E s:=by
 obtain⟨iH,vs,he,ar,JN,hd,af⟩:=x.ex;have hz:1<vs.size:=(OA.mp af).1;unfold noteFrame;simp only[hf];rw[A00 (lU he hd af ?_)]
 cases tb with
  |none=>rw[107];exact abw oG ax hf he ar JN hd hz (fun h' ai=>h h' ai)
  |some T=>
   obtain⟨yL,mn,aD,bR,gf,a6⟩:=x.l9 T rfl;have EO:3<aD.size:=(OA.mp a6).1;show a9 M A (616 (da T !=fh)) _ _ _;rw[21 (show(da T !=fh)=01 by simp)];rw[A00 (lU bR gf a6 ?_)];rw[23 (show¬((fh==hM L)=01)by simp[hM])];rw[A00 (DS bR gf EO ?_)];have Qp:=DT gf o59;have nP:=x7 d37 bR (Ir Qp);have kJ:∀b,b≠T→782 (982 T d37)=878 b:=350 (vK _ _ h02);have arl:300 346 ((∀ws,o.data≠503 ws)→b≠T):=fun b o aa ue z=>by rw[z,bR]at aa;cases aa;exact ue aD gf
   refine abw (s:=621 (982 T d37)) oG (ax.of_keeps (fun b o aa ue=>714 o (138 b (arl b o aa ue) aa))) hf (138 e yL.symm he) ar JN hd hz (o55 (h h' ⟨gK,gr,?_,fun b o aa l6 arn mq=>?_,fun b o aa mq=>?_,n40⟩))
   ·have gd:424 (982 T d37)≤gK:=gd;rwa[Heap.size_update]at gd
   ·exact mD b o (138 b (16 (arn (by rw[z]))) aa) l6 19 mq
   ·have qv:b≠T:=by rintro rfl;obtain⟨_,dr,a8,ue⟩:=ax.mem mq;rw[bR]at a8;cases a8;exact ue aD gf
    exact pj b o (138 b qv aa) mq
   ·by_cases z:b=T
    ·subst z;exact pk b _ nP
    ·exact pk b o (138 b z aa)
theorem aro{L e:ag}{tb:639}{Q:592}(oG:l09=some 938)(ax:i50 938)(hf:o70=some L)(x:Bl 28 e C dx tb)(h:∀h',Qn (kv 938) e C dx tb 28 h'→Q () 537):a9 M A (leaving env 768) Q E s:=a7 (abF oG ax hf x h)
end
inductive gh(P:f3)(w:ff)(C:ag)(outer:596)(H:av)(s:aZ)(E:bD)(ev:aH)(s':aZ):04|mk(e T dx:ag)(H':av):ev=768→s'.os=s.os→j69→ir j91 [] H H' 28 542→fy P w H' 542→H' e=00→H' T=00→878 e=00→878 T=00→Bl 542 e C dx (some T)→E 236 a84 H'→gh P w C 91 H s E ev s'
section
variable{cd:aH}{s0:aZ}{E:bD}
abbrev la(P:f3)(w:ff)(K:bo)(ah:261)(base:dk)(C:ag)(N:221)(qual:Str)(scope:rp)(f:ag)(cd:aH)(A:rU)(outer:596)(s0:aZ)(eF:av)(E:bD):dT:=x6 (gh P w C) P w K ah 02 N 74 42 f cd A 91 s0 eF E
theorem abG{σ:bq}{s':aZ}{e:ag}{tb:639}(I:aQ (la P w K ah 02 C N 74 42 f cd A 91 s0 eF E) 07 σ H' s')(x:Bl 542 e C dx tb)(he:H' e=00)(bR:∀T,tb=some T→H' T=00)(dw:h92 e=00)(T0:∀T,tb=some T→h92 T=00)(q:E 236 a84 H'):(la P w K ah 02 C N 74 42 f cd A 91 s0 eF E).dC 768 s':=by
 refine aro (L:=h91) l02 I.stack rfl x (o55 ?_);have hsz:h91≤s'.heap.objs.size:=I.qB;have arp:374 (h92 b) (b∉j91→b∉kv (qL 74 42 h91 f cd::91)):=fun b o aa mq z=>by
  rw[A61 (j58 b z)]
  ·exact 69 (dm aa) (364 (l08 (b=h91)) (kV _))
  ·exact mq z
 refine⟨e,gK,dx,H',rfl,I.os,579,⟨q93 ?_,q93 ?_,q79 (a31 b aa aU ai),fun b o aa ai=>?_,o69,o68,o67⟩,fun b u aa=>?_,he,082 gd,dw,akd (cX hsz gd),gr,q⟩
 ·exact mD b o (I.base.keep b o aa aU mq b53) (16 q82) (16 (q81 (T0 b z))) (arp b o aa mq)
 ·obtain⟨dP,af⟩:=I.base.slot b o aa aU mq b53;have qv:b∈kv (qL 74 42 h91 f cd::91):=d4 _ mq;obtain⟨Qq,ak⟩:=pj b _ af qv;exact⟨Qq,ak⟩
 ·obtain⟨o1,af⟩:=i45 o aa b53;exact pk b o1 af
 ·have key:∀c v o,H' c=25→o66 c=54→h'.get? c=54:=fun c v o ar a3=>mD c v a3 (16 (by rw[z,he]at ar;cases ar)) (16 (q92 (bR c z))) (16 (q92 (I.Hd c z)));refine m71 (I.bB b u aa) ?_ r r;rw[B80]
  ·exact key c v u aa r
  ·exact key c v _ ar r
theorem ha:n5 (gh P w C) (la P w K ah 02 C N 74 42 f cd A 91 s0 eF E) E:=by intro pins σ H s ev s' I mP;obtain⟨e,T,dx,H',yy,a8,a4,un,bB,he,bR,dw,T0,x,q⟩:=mP;subst yy;have jV:aQ (la P w K ah 02 C N 74 42 f cd A 91 s0 eF E) 07 σ H' s':=I.Hg a8 un bB a4 o54;have old:∀b,878 b=00→h92 b=00:=350 (by cases aw:h92 b with|none=>rfl|some o=>obtain⟨dr,ak⟩:=i45 o aw b53;rw[ak]at aa;cases aa);exact abG jV x he (fun gK nP=>by cases nP;exact bR) (old e dw) (fun gK nP=>by cases nP;exact old T T0) q
theorem Qr:PassesOwn 289 (la P w K ah 02 C N 74 42 f cd A 91 s0 eF E).A (la P w K ah 02 C N 74 42 f cd A 91 s0 eF E).env (la P w K ah 02 C N 74 42 f cd A 91 s0 eF E).dC:=PassesOwn.leaving
end
theorem cq.uf{st:bK}{k:Nat}(D:cq K ah x st ps f fd)(S:31 N ps st)(len:e09 (sp vs H Q E) f96)(Dw:q91 596 08 (f5 k (g23 x 843 f bx)→sp vs H Q E→∃t,mJ (la P w K ah 02 C N x 843 f bx A 91 s H E) 033 t∧t j83 e63 H)):Pr P w K ah 02 (gh P w C) (k+1) x ps sp:=by refine D.pr ?_;obtain⟨ig,cQ,ec,doc,pm,an,bx,ek,k7,rfl,e5,ny⟩:=D.F.ex;exact NB e5 ny S len (q90 (Dw bx A 91 s H vs Q E aq pL))
section
open PySem.Builtin PySem.Builtin.ObjectAttr
abbrev lb:53:=[989,f69,401 "object"]
section
variable{g:j92}{d:Drawn}{t:Nat}{os:arq}{nm q:Str}{N x:ag}{bs:53}{fT:261}{v:aH}{vs:323}
theorem ars{Q:455 Fin}(hp:654 C (p5 nm q C N bs lb 01 sn sub ab col dd k0 k1 k2 k3 k5 095))(aU:a78 N)(kK:c45=00)(fY:c38=519)(ai:558 x)(ar:783)(sk:e52)(iB:777)(aw:∀h' lM,939 x g63→m27 (131 (13 (y=234) 54 00))→(811 (b≠x→319=466→219=466))→Q (j37 87) ⟨h',g,d,lM,os⟩):a9 232 A (Builtin.«object.__setattr__» (644 [438,e89,v])) Q E 795:=by
 have mr:=JO;have pass:=mr.passes 438;have abH:x≠397:=fk (dm ai);unfold Builtin.«object.__setattr__»;repeat(first|(rw[refuse_eq])|(rw[refuseLoop_ref,pass])|(with_reducible refine wpAny_mroOf_exc hp ?_)|(with_reducible refine wm ai ?_;rw[ar])|(with_reducible refine JP hp aU h90 fY ?_;rw[kK])|wp_step)
 rw[sk,23 (by simp[typeHasDict]),iB];have fW:=dY (a49:Obj) ai;rw[A00 (wpAny_alloc' (a7 (wpAny_update' fW 345)))];generalize vd:(h.push (a49:Obj)).update x (737 g63)=U;have VT:U.get? 397=some (a49:Obj):=q89 (38 (art _ _ _ _ abH.symm) (Heap.get?_push_at rfl rfl));have jP:U.get? x=some g63:=by rw[←vd];refine x7 _ fW ?_;obtain⟨a1,a2,lS,v8⟩:=o;cases iB;rfl
 have AL:811 (b≠x→319=466→U.get? b=466):=l07 (q89 (38 (art _ _ _ _ aa) 130));have EG:U.Ns 397 d75:=⟨_,#[],_,VT,rfl,h24 (151 he),524⟩;show a9 _ _ (storeInDict 397 e89 234 v) _ _ _;unfold storeInDict newKeyGuard;rw[A00 (cx (a7 (wpAny_nsSet1 (alC EG) (fun h' cR eX=>?_))))];obtain⟨alu,aBA,aBB,aru,arv,arw⟩:=cR.count (aly 234 v Within.nil);rw[A00 (wpAny_lookBehind aru (by rw[arv];exact pastItsLine_dict (cX arw (by rw[dR,l4,Ac];lia))) 345)];refine aw h' _ (385 x abH jP) cR (l07 (385 b e23 (AL b bC aa e)))
theorem arx{bG owner B:String}(mr:StoreFacts B lb bG owner)(mW:bG=q88)(hp:654 C (p5 nm q C N bs lb 01 sn sub ab col dd k0 k1 k2 k3 k5 095))(aU:a78 N)(kK:c45=00)(fY:c38=519)(ai:558 x)(ar:783)(sk:e52)(iB:777)(aw:∀h' lM,939 x g63→m27 (131 (13 (y=234) 54 00))→(811 (b≠x→319=466→219=466))→R (.ok (.ret 87)) ⟨h',g,d,lM,os⟩):qI 232 A (.call (399 bG) (644 [438,e89,v])) R 795:=abI mr.slot.plain mr.entry (wpAny_check_sa mr hp ai ar (ars hp aU kK fY ai ar sk iB aw))
theorem ary{Q:592}(hp:654 C (p5 nm q C N bs lb 01 sn sub ab col dd k0 k1 k2 k3 k5 095))(aU:a78 N)(pT:fT b23=00)(kK:c45=00)(fY:c38=519)(ai:558 x)(ar:783)(sk:e52)(iB:777)(aw:∀h' lM,939 x g63→m27 (131 (13 (y=234) 54 00))→(811 (b≠x→319=466→219=466))→Q () ⟨h',g,d,lM,os⟩):a9 232 A (Dp 438 234 v) Q E 795:=by
 have mr:=JO;have DA:=mr.slot.bind 438;unfold Dp callSpecial? specialOf;repeat(any_goals(first|rw[A34]|(with_reducible refine wm ai ?_;rw[ar])|(with_reducible refine JP hp aU h90 mr.slot.lookup ?_;rw[pT])|wp_step))
 refine arx mr rfl hp aU kK fY ai ar sk iB (fun h' lM a b c=>?_);repeat(any_goals(first|rw[A34]|wp_step))
 exact aw h' lM a b c
end
end
def nQ(a C:ag)(d:639):dz:=j65 (∃o vs,321=25∧783∧o.dict=d∧777∧vs[1]?=some fh)
def nR(dx:ag)(bl:324):dz:=j65 (∃dG,058∧(∀f,j8 000 (dG f))∧G_ dG b75)
theorem JQ{fQ:92 dk}(x:fQ h)(ex:∃o,321=25)(st:∀af ak:dk,fQ af→(∀o,c59 a→ak.get? a=25)→fQ ak):fx P w H h a (.ext fQ):=⟨x,ex,st⟩
theorem Qt{d:639}{vs:323}(e:321=25)(c:783)(hd:o.dict=d)(jl:777)(af:vs[1]?=some fh):fx P w H h a (nQ a C d):=JQ ⟨o,vs,e,c,hd,jl,af⟩ ⟨o,e⟩ (q83 ⟨o,vs,k o e,r⟩)
theorem abJ{bl:324}(n:058)(r:∀f,j8 000 (dG f))(hL:G_ dG b75):fx P w H h dx (nR dx bl):=JQ ⟨dG,n,r,hL⟩ (let⟨o,_,_,e,_⟩:=n;⟨o,e⟩) (fun _ _⟨dG,n,r⟩k=>⟨dG,n.at k,r⟩)
theorem fx.there{o:dz}(x:fx P w H h a o):∃u,321=56:=by cases o with|lst xs=>rw[C45];rw[A55]|tup xs=>obtain⟨_,_,_,o,e,_⟩:=x;rw[A55]|e0 kvs=>rw[B22];rw[A55]|gf kvs=>rw[B22];rw[A55]|set S n=>rw[C44];rw[A55]|ins C dx bl=>rw[C43];rw[A55]|own y=>exact x|zJ bl=>rw[D30];rw[A55]|pz lo hi=>rw[D29];rw[A55]|eT bC u=>obtain⟨e,_⟩:=x;rw[A55]|vn ps=>rw[A08 x]|met f y=>rw[A08 x]|ext fQ=>obtain⟨_,e,_⟩:=x;exact e
theorem fy.free(ok:fy P w H h)(e:321=00):H a=00:=by cases q:H a with|none=>rfl|some o=>obtain⟨u,bp⟩:=fx.there (ok a o q);rw[e]at bp;cases bp
structure q7(K:bo)(C fI:ag):04 where
 ex:∃nm q N bs sn sub ab col dd k0 k1 k2 k3 k5 fT,709 C (p5 nm q C N bs lb 01 sn sub ab col dd k0 k1 k2 k3 k5 c94)∧(∀h,055→a78 N)∧fT 421=46 fI∧fT b23=00∧fT b22=00∧fT 226=00∧l98=00∧m31=00
 fn:∃Qu,709 fI Qu∧Qu.cls=f82
 fC:oB K 236=01
theorem arz:lI 989 b22=519:=f31
theorem arA:lI 989 226=519:=f31
def yM(f:Str):04:=lI 989 f=519∧(f=b22∨f=226)
theorem abK:yM b22:=⟨arz,253⟩
theorem abL:yM 226:=⟨arA,e69⟩
section
variable{σ:bq}{s:aZ}{f:Str}{bl:324}
theorem arB{Q:592}(I:24)(M:q7 X.K C fI)(p6:yM f)(e:H a=some (nQ a C 00))(bQ:464)(h:∀d s',H d=00→d≠a→aQ X 07 σ (761 d (nR d [(f,y)]) a (nQ a C 866)) s'→Q () s'):a9 47 A (Dp 37 f u) Q E s:=by
 rw[D28 (613 a e)];rw[D27];have kK:fT f=00:=l66;have si:=082 (cL 18);have abM:18≠a:=lF (dm d1);rw[C42];refine ary (I.gF _ _ e5) (ns _ I.gF) cR kK p6.1 d1 ar hd jl (fun h' lM HD az fC=>h o65 _ si abM ?_);have ES:811 (H b=466→b≠o65):=fun b bC aa z=>by rw[z,si]at aa;cases aa
 have na:811 (H b=466→(∀fQ,bC≠.ext fQ)→b≠a):=q85 (q86 (ai _ rfl));refine l93 lM ⟨l06 (fC b bC l70 aa),l06 (g27 (fC b bC l70 aa)),j48,l03 ?_,g62,j62,i80 #[]⟩ ?_
 ·rw[aE l70,aE (fk (dm aa))];exact aU
 ·by_cases z:b=a
  ·subst z;rw[A08 HD]
  ·rw[A08 (fC b bC z aa)]
 ·rw[aE (na b _ aa 512),aE (ES b _ aa)];exact aa
 ·rw[aE (na b _ aa 512),aE (ES b _ aa)];exact aa
 ·rw[aE (na b _ aa 512),aE (ES b _ aa),aa];simp
 ·by_cases z:b=a
  ·subst z;rw[B51];cases aa;exact Qt HD ar rfl jl af
  ·rw[aE z]at aa;by_cases es:b=o65
   ·subst es;rw[B51];cases aa;refine abJ az (563 ?_) c33
    ·by_cases mX:g=f
     ·rw[21 mX,mX];rw[show qJ f [(f,y)]=270 by simp[qJ]];exact bQ
     ·rw[23 mX];rw[show qJ g [(f,y)]=00 by simp[qJ,88 ((g==f)=09) (962 mX)]];trivial
    ·by_cases mX:g=f
     ·rw[mX];exact 237
     ·exact 69 196 a4
   ·rw[aE es]at aa;refine f84 (I.bB b bC aa) (fun c v p7 r=>fC c v ?_ r) ?_ ?_
    ·rcases p7 with rfl|p7
     ·exact z
     ·exact na c _ p7 512
    ·rw[aE (na c _ r 512),aE (ES c _ r)];exact r
    ·rw[aE (na c _ r 512),aE (ES c _ r)];exact r
end
section
variable{σ:bq}{s:aZ}{f:Str}{bl:324}
theorem arC{Q:592}(I:24)(M:q7 X.K C fI)(p6:yM f)(e:H a=some (nQ a C a84))(kU:H dx=c64 dx bl)(ne:dx≠a)(ax:c20)(bQ:464)(h:∀s',aQ X 07 σ (upd H dx (nR dx (cC f y bl))) s'→Q () s'):a9 47 A (Dp 37 f u) Q E s:=by
 rw[D28 (613 a e)];rw[D25 (613 dx kU)];rw[D27];have kK:fT f=00:=l66;have Oh:a≠C:=16 (by have bg:=I.gF _ _ e5;rw[←z,d1]at bg;rw[cI bg]at jl;cases jl);rw[C42];refine store_attr (ns:=b75) JO (I.gF _ _ e5) (ns _ I.gF) cR kK p6.1 Oh ⟨o,d1,ar,fun c z=>(by rw[jl]at z;cases z),.inr ⟨dx,hd,ne,Qv⟩⟩ (fun h' lM fu fC nO=>h _ ?_) hL q87;obtain⟨o1,Qx,fA,jW,_,bg⟩:=nO o d1;obtain⟨o2,abN,_,_,arD⟩:=fu;rw[Qx]at abN;cases abN;have az:h'.Ns1 dx (563 (13 (g=f) 56 (dG g))):=by
  rcases arD with⟨z,_⟩|⟨iC,z,_,r⟩
  ·rw[bg dx hd]at z;cases z
  ·rw[bg dx hd]at z;cases z;exact r
 have yN:811 (b≠a→b≠dx→dh.get? b=466→219=466):=fun b bC ak a6 bH=>fC b bC ak (fun o0 d0 hQ es=>by have abO:dh.get? a=some o0:=hQ;rw[d1]at abO;cases abO;rw[hd]at es;cases es;exact a6) bH;have na:811 (H b=466→(∀fQ,bC≠.ext fQ)→b≠a∧b≠dx):=fun b bC aa ai=>⟨789 (q86 (ai _ rfl)),789 (by rw[z,kU]at aa;cases aa;exact ai _ rfl)⟩;have nn:∀b,H b=00→b≠a∧b≠dx:=350 ⟨789 (by rw[z,e]at aa;cases aa),789 (by rw[z,kU]at aa;cases aa)⟩;refine l93 lM ⟨l06 (yN b bC (nn b aU).1 (nn b aU).2 aa),l06 (g27 (yN b bC (nn b aU).1 (nn b aU).2 aa)),j48,l03 ?_,g62,j62,i80 #[]⟩ ?_
 ·rw[aE (nn b aU).2];exact aU
 ·by_cases z:b=a
  ·subst z;rw[A08 Qx]
  ·by_cases es:b=dx
   ·subst es;obtain⟨aBC,_,_,tO,_⟩:=az;rw[A08 tO]
   ·rw[A08 (yN b bC z es aa)]
 ·rw[aE (na b _ aa 512).2];exact aa
 ·rw[aE (na b _ aa 512).2];exact aa
 ·rw[aE (na b _ aa 512).2,aa];simp
 ·by_cases es:b=dx
  ·subst es;rw[B51];cases aa;refine abJ az (563 ?_) c33
   ·rw[e2];by_cases mX:g=f
    ·rw[21 mX,21 mX];exact bQ
    ·rw[196,196];exact Qw g
   ·by_cases mX:g=f
    ·rw[mX];exact(Dq f y bl).1
    ·exact(Dq f y bl).2 g (hL g (16 (a4 (by rw[196];exact z))))
  ·rw[aE es]at aa;by_cases z:b=a
   ·subst z;rw[e]at aa;cases aa;exact Qt Qx (fA.trans ar) (bg dx hd) (jW.trans jl) af
   ·refine f84 (I.bB b bC aa) (fun c v p7 r=>?_) ?_ ?_
    ·rcases p7 with rfl|p7
     ·exact yN c v z es r
     ·exact yN c v (na c _ p7 512).1 (na c _ p7 512).2 r
    ·rw[aE (na c _ r 512).2];exact r
    ·rw[aE (na c _ r 512).2];exact r
end
section
variable{o:dn}{f:Str}
inductive abP(C:ag)(f:Str)(D:lY)(σ:bq)(y:ae)(x:ae)(aB:av):04|mk:∀a,x=37→aB a=some (nQ a C 00)→(∀d,aB d=00→d≠a→686 (upd (upd aB d (nR d [(f,y)])) a (nQ a C 866)))→abP C f D σ y x aB
def arE(C:ag)(bW h5:ct)(f:Str):gH:=474 (h5 σ H (d18 (bW σ H1 (d20 (abP C f D σ y x aB)))))
inductive abQ(C:ag)(f:Str)(D:lY)(σ:bq)(y:ae)(x:ae)(aB:av):04|mk:∀a d bl,x=37→aB a=some (nQ a C 866)→aB d=c64 d bl→d≠a→c20→686 (upd aB d (nR d (cC f y bl)))→abQ C f D σ y x aB
def arF(C:ag)(bW h5:ct)(f:Str):gH:=474 (h5 σ H (d18 (bW σ H1 (d20 (abQ C f D σ y x aB)))))
theorem arG(M:q7 X.K C fI)(p6:yM f)(aN:757 o)(a3:g78 h5)(aL:g88 676 (e56 f)=910):iV X (d94 [e56 f] 676) (arE C bW h5 f):=by rw[A35];refine Nv (bY (a3 07 s σ H _ I h) (i33 (aN 07 s1 σ H1 _ aX q) (fun dA s2⟨x,aB,b5,bw,a,ex,d1,cf⟩=>?_))) aL;rw[A25];rw[A38 dA];exact arB b5 M p6 d1 bQ (fun d s3 cR dS el=>⟨σ,_,el,cf d cR dS⟩)
theorem arH(M:q7 X.K C fI)(p6:yM f)(aN:757 o)(a3:g78 h5)(aL:g88 676 (e56 f)=910):iV X (d94 [e56 f] 676) (arF C bW h5 f):=by rw[A35];refine Nv (bY (a3 07 s σ H _ I h) (i33 (aN 07 s1 σ H1 _ aX q) (fun dA s2⟨x,aB,b5,bw,a,d,bl,ex,d1,kU,ne,ax,cf⟩=>?_))) aL;rw[A25];rw[A38 dA];exact arC b5 M p6 d1 kU ne ax bQ (f39 ⟨σ,_,el,cf⟩)
end
def Bm(k p:Int):324:=cC 226 (.int p) [(b22,c84)]
abbrev yO:bK:=343 0x4a 0
theorem arI:31 c55 c55 yO:=⟨rfl,rfl,rfl,05,rfl,05,05⟩
inductive JR(C:ag)(vs:08)(H:av)(Q:aW)(E:bD):04|mk:∀(a:ag)(k p:Int),vs=[37,c84,.int p]→H a=some (nQ a C 00)→(∀d,H d=00→d≠a→Q .b4 (761 d (nR d (Bm k p)) a (nQ a C 866)))→JR C vs H Q E
theorem arJ{x y z:dz}(h:a≠b):upd (761 a x b y) a z=761 a z b y:=by
 funext c;unfold upd;rw[A72 (c=a)]
 ·subst af;simp[h]
 ·simp[af]
theorem arK(F:hC K 421 f04 yO f fd)(M:q7 K C f):eP P w K ah 02 aO 1 f fd c55 (JR C):=by
 rw[A36 arI]
 ·obtain⟨a,k,p,rfl,_⟩:=h;rfl
 ·obtain⟨a,k,p,rfl,aN,q⟩:=h;rw[A01 (434 (arG (C:=C) (fI:=f) M abK 252 62 rfl) (arH (C:=C) (fI:=f) M abL 252 45 rfl))];refine⟨_,rfl,_,rfl,a,rfl,aN,fun d hd na=>?_⟩;refine⟨_,rfl,_,rfl,a,d,_,rfl,aI,861 na,na,959,?_⟩;rw[arJ na];exact q d hd na
section
variable{nm q:Str}{N:ag}{bs:53}
theorem arL{s:aZ}{x:054}{Q:455 Flow}(dh:595)(h:a9 M A x (h78 (∃e iH vs,v=768∧e34 C (some (p5 nm q C N bs lb 01 sn sub ab col dd k0 k1 k2 k3 k5 095))∧e34 e (some iH)∧iH.cls=236∧l05=f67∧vs[1]?=some fh∧E 768 s1)) E s):a9 M A (raiseStmt env 43 00) Q E s:=by
 have ET:(da C::lb).contains f69=01:=q84;unfold raiseStmt;rw[A00 (j_ h (fun v s1⟨e,iH,vs,a3,hp,he,ar,hd,af,EU⟩=>?_) d65)];subst a3;obtain⟨au,g,d,tk,os⟩:=s1;obtain⟨ig,cQ,jl,dP⟩:=iH;cases ar;cases hd;repeat(first|with_reducible refine wm he ?_|with_reducible refine wm hp ?_|(with_reducible refine arN hp ?_;rw[ET])|wp_step)
 rw[af];refine 345;rw[107];exact cx (wpAny_raiseNew_none dh EU)
end
section
variable{k:Nat}{σ:bq}{s:aZ}{vs:08}
theorem aQ.old(I:24)(ai:X.ex=[])(aa:878 b=00):d59=00:=by cases aw:d59 with|none=>rfl|some o=>obtain⟨dr,ak⟩:=i45 o aw (by rw[ai];intro z;cases z);rw[ak]at aa;cases aa
theorem arO{Q:546 ag}(M:q7 X.K C fI)(F:eP 61 X.w X.K 507 341 aO k fI fd ps sp)(aq:656 (k+1))(aa:lr X.K fd ps [])(ai:X.ex=[])(I:24)(r:a93)(hz:891≤bc)(h:∀a,H a=00→sp (37::vs) (upd H a (nQ a C 00)) (k98 (v=.b4∧Q a aB)) OI):a9 47 X.A (kZ 236 us) (fun u s'=>∃a H',u=37∧X.iU.heap.get? a=00∧050∧Q a H') 68 s:=by
 obtain⟨nm,q,N,bs,sn,sub,ab,col,dd,k0,k1,k2,k3,k5,fT,e5,ns,hi,cR,dS,iX,_⟩:=M.ex;obtain⟨Qu,arP,arQ⟩:=M.fn;have hp:=I.gF _ _ e5;have fs:=ns _ I.gF;have yb:=I.gF _ _ arP;have old:=506 (aQ.old I ai (b:=b));rw[C42];refine wpAny_call_exc_init PySem.F.excBase_Exception hp fs hi yb arQ (fun h' e hm=>?_) hz;obtain⟨hq,tO,_,_⟩:=hm.there;have w1:H e=00:=fy.free 274 hm.new;have b5:aQ X 07 σ (upd H e (nQ e C 00)) ⟨h',g,fF,t,os⟩:=by
  have ne:811 (H b=466→b≠e):=fun b bC aa z=>by rw[z,w1]at aa;cases aa
  refine l93 t ⟨l04 (hm.keeps b bC aa),l04 (g27 (hm.keeps b bC aa)),j48,l03 ⟨bC,hm.keeps b bC aa⟩,g62,j62,i80 #[]⟩ ?_
  ·rw[170 (by have aa:dh.get? b=466:=aa;rw[z,hm.new]at aa;cases aa)];exact aU
  ·rw[aE (ne b _ aa)];exact aa
  ·rw[aE (ne b _ aa)];exact aa
  ·rw[aE (ne b _ aa),aa];simp
  ·by_cases z:b=e
   ·subst z;rw[B51];cases aa;exact Qt tO rfl rfl rfl rfl
   ·rw[aE z]at aa;exact f84 (I.bB b bC aa) (fun c v _ r=>hm.keeps c v r) (i71 (ne c _ r)) (i71 (ne c _ r))
 have aw:=h e w1;have cT:cc (881 e::vs) (da e::us):=.cons rfl r;have ax:d70 (da e::us++[]):=by rw[nh,←cT.length];exact F.len _ _ _ _ aw
 have IE:=aa ⟨h',g,fF,t,os⟩ (da e::us) b5.gF ax;rw[nh]at IE;refine HK (x5 (F.run _ 675 _ _ (644 (da e::us)) (da e::us) _ _ OI (aq.make C us []) (b5.HH.make C us []) IE cT aw) (fun r s' iz=>?_))
 cases r with|error e=>exact gI iz|ok c9=>cases c9 with|ret u=>rw[D26 (b5.after iz)];subst ev;exact⟨cV,e,H',rfl,old e hm.new,el,eC⟩|next=>exact gI iz|brk=>exact gI iz|cont=>exact gI iz
end
def F7(H:av)(a:ag):av:=506 (13 (b=a) 00 (H b))
theorem ug(h:b≠a):F7 H a b=H b:=by unfold F7;rw[125]
theorem abR:F7 H a a=00:=by unfold F7;rw[101]
section
variable{cd:aH}{s0:aZ}{E:bD}{k:Nat}
inductive abS(C:ag)(E:bD)(vs:08)(H1:av):04|mk:∀k p:Int,vs=[c84,.int p]→(∀d aB,aA H1 aB→aB d=c64 d (Bm k p)→E 236 866 aB)→abS C E vs H1
def arR(C:ag)(E:bD)(t:fG):gH:=fun aBD σ H=>t σ H (728 (abS C E vs H1))
theorem uh{t:fG}{aR:439}{p:Pos}{abT:Nat}(M:q7 K C fI)(F:eP P w K ah 02 aO abT fI fd c55 (JR C))(aq:f5 (abT+1) (la P w K ah 02 C N 74 42 f cd A 91 s0 eF E).A)(aa:lr K fd c55 [])(hm:ah 722=46 C)(aN:hZ (la P w K ah 02 C N 74 42 f cd A 91 s0 eF E) (e::aR) t)(a4:h1 (la P w K ah 02 C N 74 42 f cd A 91 s0 eF E) 722:=by rfl)(he:dc (e::aR) (la P w K ah 02 C N 74 42 f cd A 91 s0 eF E).env=(09,cE e (la P w K ah 02 C N 74 42 f cd A 91 s0 eF E).env)::dc aR (la P w K ah 02 C N 74 42 f cd A 91 s0 eF E).env:=by rfl)(eH:(hA lK (dc aR (la P w K ah 02 C N 74 42 f cd A 91 s0 eF E).env)).any 379=09:=by rfl):iV (la P w K ah 02 C N 74 42 f cd A 91 s0 eF E) (.Raise (some (.Call (.Name 722 p) (e::aR) [] lK)) 00 pos) (arR C E t):=by
 rw[A35];obtain⟨nm,q,JS,bs,sn,sub,ab,col,dd,k0,k1,k2,k3,k5,fT,e5,_⟩:=id M.ex;rw[arm_exec_Raise];rw[A00 (Hp ?_)];refine arL (C:=C) (nm:=nm) (q:=q) (N:=JS) (bs:=bs) (sn:=sn) (sub:=sub) (ab:=ab) (col:=col) (dd:=dd) (k0:=k0) (k1:=k1) (k2:=k2) (k3:=k3) (k5:=k5) (newId:=c94) (I.ok.hd rfl) ?_;rw[A00 (j_ (Q:=h78 (∃e iH vs,v=768∧e34 C (some (p5 nm q C JS bs lb 01 sn sub ab col dd k0 k1 k2 k3 k5 c94))∧e34 e (some iH)∧iH.cls=236∧l05=f67∧vs[1]?=some fh∧(la P w K ah 02 C N 74 42 f cd A 91 s0 eF E).dC 768 s1)) ?_ (k90 (a7 (Hp (cx af)))) d65)];refine vI (xM I a4 hm ?_ 14);refine HL (h₀:=02) h87 M.fC (bY (aN lK 07 s σ H _ I h) (fun us s1⟨vs,H1,aX,r,b0,pp,a3,bg⟩=>j50)) he eH;subst a3;have hz:891≤bc:=by rw[←r.length];show 2≤bc;decide
 refine bY (arO (Q:=fun a aB=>∃d,aB=upd (upd (upd H1 a (nQ a C 00)) d (nR d (Bm b0 pp))) a (nQ a C 866)∧H1 a=00∧H1 d=00∧d≠a) M F aq aa rfl aX r hz (fun a je=>⟨a,b0,pp,rfl,aI,fun d hd na=>⟨rfl,d,rfl,je,by rw[aE na]at hd;exact hd,na⟩⟩)) (fun u s2⟨a,aB,bp,CN,b5,d,yd,me,arS,na⟩=>?_);subst bp;have d1:aB a=some (nQ a C 866):=by rw[yd];exact aI
 have kU:aB d=c64 d (Bm b0 pp):=by rw[yd,aE na];exact aI
 obtain⟨⟨o,ws,go,ar,hd,jl,af⟩,_,_⟩:=b5.bB a _ d1;refine⟨a,o,ws,rfl,b5.gF _ _ e5,go,ar,jl,af,?_⟩;have el:aQ (la P w K ah 02 C N 74 42 f cd A 91 s0 eF E) 07 σ (F7 aB a) s2:=by
  have cz:811 (aB b=466→(∀fQ,bC≠.ext fQ)→b≠a):=q85 (by rw[z,d1]at aa;cases aa;exact ai _ rfl);refine b5.un (t':=s2.toks) (h':=l00) ⟨l04 aa,l04 (g27 aa),j48,l03 ⟨bC,aa⟩,g62,j62,i80 #[]⟩ (o63 ?_)
  ·rw[ug (16 (by rw[z,d1]at aU;cases aU))];exact aU
  ·rw[ug (cz b _ aa 512)];exact aa
  ·rw[ug (cz b _ aa 512)];exact aa
  ·rw[ug (cz b _ aa 512),aa];simp
  ·by_cases z:b=a
   ·rw[z,abR]at aa;cases aa
   ·rw[ug z]at aa;exact f84 (b5.bB b bC aa) (fun c v _ r=>r) (o64 (ug (cz c _ r 512))) (o64 (ug (cz c _ r 512)))
 refine abG (e:=a) (dx:=d) (tb:=00) el ⟨⟨o,ws,go,ar,hd,jl,af⟩,l97⟩ abR l97 CN l97 (bg d _ (o63 ?_) ?_)
 ·have cR:b≠a:=bT aa me;have dS:b≠d:=bT aa arS;rw[ug cR,yd,aE cR,aE dS,aE cR];exact aa
 ·rw[ug na];exact kU
end
section
open PySem.Builtin PySem.Builtin.ObjectAttr
theorem Qy:Slot "Exception" h23 f41:=.of (owner:=o62) (n:=h23) f31 05 05 05 (by first|rw[A17 05]|rw[A09 05]) h79
theorem arT:lI 989 h22=519:=f31
section
variable{g:j92}{d:Drawn}{t:Nat}{os:arq}{nm q:Str}{N x:ag}{bs:53}{fT:261}{v:aH}{vs:323}
theorem arU{Q:455 Fin}(hp:654 C (p5 nm q C N bs lb 01 sn sub ab col dd k0 k1 k2 k3 k5 095))(aU:a78 N)(kK:c45=00)(fY:c38=519)(ai:558 x)(ar:783)(hd:e82)(iB:777)(pT:058)(a3:a64=54)(aw:Q (j37 v) 795):a9 232 A (p83 (644 [438,e89])) Q E 795:=by
 have mr:=JO;rw[C83];repeat(first|(with_reducible refine wm ai ?_;rw[ar])|(with_reducible refine JP hp aU h90 fY ?_;rw[kK])|wp_step)
 rw[iB];unfold instanceDict;repeat(first|(with_reducible refine wm ai ?_;rw[ar])|with_reducible refine wm hp ?_|wp_step)
 rw[hd];repeat(first|(with_reducible refine wpAny_nsGet pT.ns ?_;rw[a3])|wp_step)
 exact aw
theorem arV{abU:aH}{Q:592}(hp:654 C (p5 nm q C N bs lb 01 sn sub ab col dd k0 k1 k2 k3 k5 095))(ai:558 x)(ar:783)(aw:Q () 795):a9 M A (checkBuiltinCall f41 (644 [438,abU])) Q E 795:=by
 have f1:builtinKind f41=some .slot:=05;have f2:splitId f41=some (o62,"__getattribute__"):=05;have ET:(da C::lb).contains f69=01:=q84;have aN:=PySem.F.args_bexc_ga 438 abU;simp only[checkBuiltinCall,f1,f2];rw[A28];unfold isInstance;repeat(first|(with_reducible refine wm ai ?_;rw[ar])|(with_reducible refine arN hp ?_;rw[ET])|wp_step)
 exact aw
theorem arW(hp:654 C (p5 nm q C N bs lb 01 sn sub ab col dd k0 k1 k2 k3 k5 095))(aU:a78 N)(kK:c45=00)(fY:c38=519)(ai:558 x)(ar:783)(hd:e82)(iB:777)(pT:058)(a3:a64=54)(aw:R (.ok (.ret v)) 795):qI 232 A (.call (399 f41) (644 [438,e89])) R 795:=abI Qy.plain PySem.F.entry_bexc_ga (arV hp ai ar (arU hp aU kK fY ai ar hd iB pT a3 aw))
theorem arX{fill:Bool}(hp:654 C (p5 nm q C N bs lb 01 sn sub ab col dd k0 k1 k2 k3 k5 095))(aU:a78 N)(kK:c45=00)(yP:l98=00)(xr:m31=00)(fY:c38=519)(ai:558 x)(ar:783)(hd:e82)(iB:777)(pT:058)(a3:a64=54)(dh:handedOut v=pure v)(aw:Q v 795):a9 232 A (getAttrBy 438 e89 fill expr) Q E 795:=by
 have mr:=JO;have e9:=Qy.bind 438;have f4:=Qy.lookup;have fR:=arT;have h0:(expr&&onTheHeap l68)=09:=by cases expr<;>rfl
 have ak:(l68==AA n72)=09:=05;have af:(onTheHeap (da C)&&l68==AA n72)=09:=by rw[ak];rfl
 repeat(any_goals(first|rw[A34]|(with_reducible refine wm ai ?_;rw[ar])|(with_reducible refine JP hp aU h90 f4 ?_;rw[yP])|(with_reducible refine JP hp aU h90 fR ?_;rw[xr])|wp_step))
 refine arW hp aU kK fY ai ar hd iB pT a3 ?_;repeat(any_goals(first|rw[A34]|(rw[dh])|wp_step))
theorem arY(hp:654 C (p5 nm q C N bs lb 01 sn sub ab col dd k0 k1 k2 k3 k5 095))(aU:a78 N)(kK:c45=00)(yP:l98=00)(xr:m31=00)(fY:c38=519)(ai:558 x)(ar:783)(hd:e82)(iB:777)(pT:058)(a3:a64=54)(dh:handedOut v=pure v)(aw:Q v ⟨h,g,d,t+1,os⟩):a9 232 A (HB 438 234 expr) Q E 795:=by unfold HB;repeat(any_goals(first|rw[A34]|with_reducible apply arX hp aU kK yP xr fY ai ar hd iB pT a3 dh|wp_step))
end
end
def p8(a C dx:ag):dz:=j65 (∃o vs,321=25∧783∧e82∧777)
theorem arZ{vs:323}(e:321=25)(c:783)(hd:e82)(jl:777):fx P w H h a (p8 a C dx):=JQ ⟨o,vs,e,c,hd,jl⟩ ⟨o,e⟩ (q83 ⟨o,vs,k o e,r⟩)
theorem ar0(i:Int)(t:Tok):handedOut 705=pure 705:=rfl
inductive abV(C:ag)(f:Str)(Q:aW)(x:ae)(H1:av):04|mk:∀a dx bl i,x=37→H1 a=some (p8 a C dx)→H1 dx=c64 dx bl→000=some 260→Q 260 H1→abV C f Q x H1
def ar1(C:ag)(bW:ct)(f:Str):ct:=262 (bW σ H (291 (abV C f Q x H1)))
theorem abW{f:Str}(M:q7 X.K C fI)(p6:yM f)(he:757 e)(aa:tL e f 55 688=688):bF X (b92 f pos) (ar1 C bW f):=by rw[A13];refine Xb aa (bY (he 07 s σ H _ I h) (fun u s1⟨x,H1,aX,bw,a,dx,bl,i,ex,d1,kU,l,q⟩=>?_));rw[A25];rw[A38 u];obtain⟨nm,cf,N,bs,sn,sub,ab,col,dd,k0,k1,k2,k3,k5,fT,e5,ns,_,cR,dS,iX,g1,g2⟩:=M.ex;have kK:fT f=00:=l66;obtain⟨⟨o,vs,go,ar,hd,jl⟩,_,_⟩:=aX.bB a _ d1;rw[D25 (aX.bB dx _ kU)];rw[B49 (o60 260 (dG f) (o61 (Qw f)))];obtain⟨t,rfl⟩:=gR;have hp:=aX.gF _ _ e5;have fs:=ns _ aX.gF;have b5:=aX.tok (b55+1);obtain⟨dh,g,fF,tk,os⟩:=s1;exact arY hp fs kK g1 g2 p6.1 go ar hd jl Qv bp (ar0 i t) ⟨260,H1,b5,612 t,q⟩
theorem ar2{bl:27}{af aL:dk}{e T gK:ag}{mn:Obj}{aD:323}(un:ir bl [] H1 H' af aL)(bB:fy P w H' aL)(he:H' e=00)(bR:H' T=00)(dw:af.get? e=00)(T0:af.get? T=00)(ar3:∀b∈bl,244=00)(gr:Bl h' e C dx (some gK))(gd:aL.objs.size≤gK)(mD:374 n18 (b≠e→some T≠360→b∉bl→219=25))(pj:374 n18 (b∈bl→∃dP,219=j39))(pk:374 n18 (∃dr,219=some dr))(EV:939 gK mn)(gf:mn.data=503 aD):ir bl [] H1 (upd H' e (p8 e C dx)) af g97∧fy P w (upd H' e (p8 e C dx)) g97:=by
 have ar4:af.get? gK=00:=by cases z:af.get? gK with|none=>rfl|some o=>obtain⟨dr,es⟩:=un.there gK o z (by intro y;cases y);exact 69 (dm es) (Nat.not_lt.mpr gd)
 have kJ:∀b,b≠gK→782 g97=219:=350 (vK _ _ h02);have Qp:=DT gf o59;have aBE:=x7 d37 EV (Ir Qp);have ar5:H' gK=00:=bB.fresh gd;have neT:gK≠e:=(gr.l9 gK rfl).1;have ne1:300 (c59 b) (b≠e∧b≠T∧b≠gK):=o58 ⟨789 q82,789 (by rw[z,T0]at aa;cases aa),789 (by rw[z,ar4]at aa;cases aa)⟩;have Bn:374 244 (b≠e∧b≠T∧b≠gK∧b∉bl):=o58 ⟨789 (by rw[z,he]at aa;cases aa),789 (by rw[z,bR]at aa;cases aa),789 (by rw[z,ar5]at aa;cases aa),789 (q81 (ar3 b z))⟩;rw[A03 ⟨q80 ?_,q80 ?_,q79 ?_,fun b o aa ai=>?_,g62,fun b o xs aa=>?_,fun b ps aa=>?_⟩ n40]
 ·obtain⟨a1,a2,lS⟩:=ne1 b o aa;exact 138 b lS (mD b o (un.keep b o aa aU hf ai) a1 (16 (a2 (129 z))) hf)
 ·rw[B81 (un.slot b o aa aU hf ai)];obtain⟨Qq,aG⟩:=pj b _ aK hf;exact⟨Qq,138 b (ne1 b o aa).2.2 aG⟩
 ·rw[aE (ne1 b o aa).1];exact un.free b o aa aU ai
 ·obtain⟨o1,aK⟩:=un.there b o aa ai;obtain⟨o2,aG⟩:=pk b o1 aK;exact⟨o2,138 b (ne1 b o aa).2.2 aG⟩
 ·have:=un.pA b xs aa;rw[aE (Bn b _ 246).1];rw[A10]
 ·have:=un.nx b o xs aa;rw[aE (Bn b _ 246).1];rw[A10]
 ·obtain⟨more,this⟩:=un.pB b ps aa;exact⟨more,by rw[aE (Bn b _ 246).1];exact this⟩
 ·by_cases z:b=e
  ·subst z;rw[B51];cases aa;obtain⟨iH,vs,g1,fA,jW,f1,_⟩:=gr.ex;exact arZ (138 b neT.symm g1) fA jW f1
  ·rw[aE z]at aa;have key:∀c v u,H' c=56→aL.get? c=54→(g97).get? c=54:=fun c v u ar a3=>by obtain⟨a1,a2,lS,v8⟩:=Bn c u ar;exact 138 c lS (mD c v a3 a1 (16 (a2 (129 z))) v8)
   refine m71 (bB b o aa) ?_ ?_ ?_
   ·rw[B80]
    ·exact key c v o aa r
    ·exact key c v _ ar r
   ·rw[aE (Bn c _ r).1];exact r
   ·rw[aE (Bn c _ r).1];exact r
section
variable{σ:bq}{s:aZ}
theorem ar6{Q:592}(I:24)(fs:X.N.Nodup)(hi:850=43)(aS:j03=491)(h:∀s',aQ X 07 (iM h86 00) H s'→Q () s'):a9 M A (do
 bindName X.env x .none
 ar7 X.env x pos) Q E s:=by
 rw[A00 (wpAny_bindName (C8 (v:=.b4) I fs hi (aV aS) rfl (fun s1 aX=>?_) (.inr aS)))];have xK:i<b61:=m01 hi;obtain⟨m,aU,ax⟩:=id aX.loc;obtain⟨u,_,lo⟩:=ax i x .b4 hi (rz xK) (aV aS);have hm:m x=56:=by
  rcases lo with⟨_,z⟩|⟨z,_⟩
  ·exact z
  ·rcases z with z|z<;>rw[aS]at z<;>cases z
 have MU:(h89==.class||(h89==.module&&473 !=o57))=09:=q78;unfold ar7;refine Qz (wpAny_unbindName_local aS aU hm MU (fun h' jT qE eX=>h _ ?_));have QA:374 d59 053:=351 (fk g46);have fr:=aX.free;refine⟨aX.ok,aX.os,aX.bare,⟨q77 (385 b (QA b o e) (aX.base.keep b o e n aa ai)),b93,aX.base.free,j94,aX.base.pA,aX.base.nx,aX.base.pB⟩,⟨_,qE,fun j y v aK aG cp=>?_⟩,k20,fr,aX.iS,263,k21,by rw[ph]⟩
 ·obtain⟨dP,q⟩:=aX.base.slot b o e n aa ai;exact⟨dP,385 b (QA b o e) q⟩
 ·obtain⟨dr,q⟩:=aX.base.there b o e ai;exact⟨dr,385 b (QA b o e) q⟩
 ·rw[Md]at aG;split at aG<;>cases aG
 ·obtain⟨v,q⟩:=aX.cell y c e;exact⟨v,q.sameBut eX (aX.vq y c e)⟩
 ·obtain⟨bg,cf,eC,fz⟩:=aX.pin p au;exact⟨385 p.1 eC bg,cf,eC,fz⟩
 ·refine j44 (aX.bB b o e) (385 c ?_ q) g04 b78;rw[A91];rcases ar with z|ar
  ·rw[←z,fr]at e;cases e
  ·rw[fr]at ar;cases ar
abbrev dT.yQ(X:dT)(e:ag):dT:={X with A:=X.A.mark (46 e),calm:=false,dC:=897}
theorem aQ.yQ(I:24)(e:ag):aQ (dT.yQ X e) 07 σ H s:=⟨⟨I.ok.mod,094,I.ok.glob,I.ok.blt,h88,I.ok.inj,I.ok.has,I.ok.zX,789 o56,l02,I.ok.C5,I.ok.C6,I.ok.bs,I.ok.qA,I.ok.zY,I.ok.zZ,I.ok.ow,I.ok.vp⟩,I.os,579,f40,093,d19,741,I.iS,I.pin,274,b54⟩
theorem aQ.ar8{e:ag}(I:aQ (dT.yQ X e) 07 σ H s)(ok:X.Ok):24:=⟨ok,I.os,579,f40,093,d19,741,I.iS,I.pin,274,b54⟩
end
def ar9(K:bo)(C:ag)(sp:mM)(t:fG)(to:ct)(c9:Str)(n i:Nat)(aD:gH):gH:=474 (t σ H (728 (sp vs H1 (890 (to σ aB (m14 (x=37∧a5 a=482 mY bl∧h4 K mY∧fi K mY c9∧c20∧686 (264 a5 a mY (cC c9 y bl)))))) (fun _ dx aB=>∀d e,dx=866→aB e=00→aD {cz:=897,l7:=D.l7} ((iM n 00).set i (46 e)) (upd aB e (p8 e C d))))))
theorem asa{k:Nat}{g c9 nm:Str}{o:dn}{aR:439}{fW pZ mS I9 asb asd:Pos}{vf:bK}{t:fG}{aD:gH}(M:q7 X.K C fI)(F:eP 61 X.w X.K 507 341 (gh 61 X.w C) k f fd ps sp)(aq:656 k)(hm:X.ah g=46 f)(aS:066 X.K=01)(aa:lr X.K fd ps [])(mP:X.ah 722=46 C)(aN:∀E,hZ c30 (e::aR) t)(a8:∀E,bF c30 o to)(ase:∀c,mJ (dT.yQ X c) (vf::asf) aD)(fs:X.N.Nodup)(hi:850=some nm)(QB:X.env.kindOf nm=491)(gq:675=55::092)(oG:X.env.frame=some 473)(a4:h1 X g:=by rfl)(ash:h1 X 722:=by rfl)(lH:(g==598)=09:=by decide)(he:657=391::458:=by rfl)(eH:(hA pZ 458).any 379=09:=by rfl)(aL:tF (.Call (.Name g fD) (e::aR) [] pZ) (some (480 c9 fW)) mS.line 55=910:=by rfl):iV X (.Try [.Assign [480 c9 fW] (.Call (.Name g fD) (e::aR) [] pZ) mS] [.ExceptHandler (some (.Name 722 I9)) (some nm) (vf::asf) asb] [] [] asd) (ar9 X.K C sp t to c9 h86 i aD):=by
 rw[A35];refine wpAny_Try_except ?_;generalize abX:(fun(_:aH)(dx:Option ag)(aB:av)=>∀d e,dx=866→aB e=00→aD {cz:=897,l7:=D.l7} ((iM h86 00).set i (46 e)) (upd aB e (p8 e C d)))=ry at*;let yR:489:=fun ev s'=>∃H1 s1,aQ X 07 σ H1 s1∧gh 61 X.w C 675 H1 s1 ry ev s';have body:a9 47 X.A (exec (.Assign [480 c9 fW] (.Call (.Name g fD) (e::aR) [] pZ) mS) 55) (tD X 07 D) yR s:=by
  have asi:aQ (X.mK yR) 07 σ H s:=I.mK yR;have h':t σ H (728 (sp vs H1 (890 (to σ aB (m14 (x=37∧a5 a=482 mY bl∧945 mY∧fi X.K mY c9∧c20∧686 (264 a5 a mY (cC c9 y bl)))))) ry)):=by rw[←abX];exact h
  refine Nv (j_ (Q:=fun u s1=>hK (X.mK yR) 07 σ (890 (to σ aB (m14 (x=37∧a5 a=482 mY bl∧945 mY∧fi X.K mY c9∧c20∧686 (264 a5 a mY (cC c9 y bl)))))) u s1) ?_ (i33 (a8 yR 07 s1 σ H1 _ aX q) (fun dA s2⟨x,aB,b5,bw,a,mY,dx,bl,ex,d1,c,n,l,cf⟩=>?_)) i87) aL
  ·refine vI (xM I a4 hm ?_ lH);refine HL (h₀:=341) h87 aS (l72 (aN yR pZ 07 s σ H _ asi h') j50) he eH;have ax:d70 (us++[]):=by rw[nh,←r.length];exact F.len _ _ _ _ q
   have abY:=aa s1 us aX.gF ax;rw[nh]at abY;refine HK (x5 (F.run X.A 675 s1 H1 915 us vs _ ry aq aX.HH abY r q) (fun r s' aw=>?_))
   cases r with|error ev=>exact⟨H1,s1,aX.rY,aw⟩|ok asj=>cases asj with|ret u=>exact aX.after aw|next=>exact gI aw|brk=>exact gI aw|cont=>exact gI aw
  ·rw[A25];rw[A38 dA];exact Nt b5.rY d1 c n l bQ (f39 ⟨σ,_,el,cf⟩)
 refine j_ (Q:=tD X 07 D) (E:=yR) ?_ g52 (fun ev s1⟨H1,s0,aX,asl⟩=>?_)
 ·refine Wu (j_ body g52 i87)
  cases f with|next=>exact Dd q|brk=>exact q|cont=>exact q|ret u=>exact q
 ·cases f with|next=>exact Dd q|brk=>exact q|cont=>exact q|ret u=>exact q
 ·obtain⟨bZ,T,dx,H',yy,Iz,kR,un,bB,w1,asm,dw,T0,x,q⟩:=asl;subst yy;have b5:aQ X 07 σ H' s1:=aX.Hg Iz un bB kR o54;have asn:X.A.frames=some (55::092):=by rw[←gq];exact I.ok.frames
  have z9:s1.heap.FunFrames 341 (55::092):=by rw[←gq];exact b5.stack
  refine abF (L:=473) asn z9 oG x (o55 ?_);rw[←gq]at mD pj;obtain⟨neT,mn,tz,EV,gf,a6⟩:=gr.l9 gK rfl;obtain⟨abZ,D6⟩:=ar2 un bB w1 asm dw T0 b5.Hd gr gd mD pj pk EV gf;obtain⟨aso,cf,JS,bs,sn,sub,ab,col,dd,k0,k1,k2,k3,k5,fT,e5,_⟩:=id M.ex;obtain⟨iH,aBF,ge,ce,aBG,asp,asq⟩:=gr.ex;have asr:939 C (p5 aso cf C JS bs lb 01 sn sub ab col dd k0 k1 k2 k3 k5 c94):=by
   obtain⟨ass,aBH⟩:=b5.bs C _ (192 _ _);refine mD C _ ass 521 521 521
   ·have EW:=(aX.bs C _ (192 _ _)).1;rw[z,dw]at EW;cases EW
   ·have EW:=(aX.bs C _ (192 _ _)).1;rw[←cI z,T0]at EW;cases EW
   ·obtain⟨nb,_⟩:=b5.stack.mem z;rw[192 _ _]at nb;cases nb
  have ET:(lb).contains f69=01:=14;have ab0:g97=h':=Heap.update_setField_same h' gK mn tz 3 fh EV gf a6;rw[ab0]at abZ D6;have el:aQ X 07 σ (upd H' bZ (p8 bZ C dx)) l01:=aX.Hg (s':=l01) Iz abZ D6 kR o54;have eU:=q;rw[←abX]at eU;have dg:=eU dx bZ rfl w1;refine wpAny_handleBy_cons (codeAny_handlers_test ?_) b53;have Is:=aQ.yQ el bZ;refine j_ (Q:=fun c s2=>c=236∧l00=h'∧s2.gens=s1.gens∧s2.os=s1.os∧aQ X 07 σ (upd H' bZ (p8 bZ C dx)) s2) (E:=897) ?_ (fun c s2⟨ar,asu,_,_,jw⟩=>?_) h08
  ·exact xM (X:=dT.yQ X bZ) Is ash mP ⟨rfl,rfl,rfl,rfl,el⟩ 14
  subst ar;obtain⟨au,cm,fF,tk,os⟩:=s2;obtain rfl:au=h':=asu;refine wpAny_excMatches_sub_self asr ge ce ET ?_;refine codeAny_handlers_suite_as ?_;unfold Qo;rw[A00 (lU ge asp asq ?_)];show a9 _ _ (616 (da gK !=fh)) _ _ _;rw[21 (show(da gK !=fh)=01 by simp)];refine DS EV gf (OA.mp a6).1 ?_;have asv:au.update gK i27=au:=ab0;rw[108 ({heap:=au,gens:=cm,drawn:=fF,toks:=tk,os:=os}:aZ).heap au,asv];refine j_ (Q:=fun _ s5=>aQ X 07 (σ.set i (46 bZ)) (upd H' bZ (p8 bZ C dx)) s5) (E:=897) (C8 (v:=.ref bZ) jw fs hi (aV QB) rfl (fun s5 nA=>nA) (.inr QB)) (fun _ s5 nA=>?_) h08;have xK:i<b61:=m01 hi;have pG:aQ X 07 ((iM h86 00).set i (46 bZ)) (upd H' bZ (p8 bZ C dx)) s5:=nA.weak (by rw[mC,mC,ph,I.len]) (fun j v bS=>by
   by_cases z:i=j
   ·subst z;rw[rz (by rw[ph,←I.len];exact xK)]at bS;rw[rz xK];exact bS
   ·rw[u_ z,Md]at bS;split at bS<;>cases bS);refine j_ (ase bZ 07 s5 _ _ _ (aQ.yQ pG bZ) dg) (fun f cW r1=>?_) h08
  cases f with|next=>rw[C41];exact gI z|brk=>rw[C41];exact gI z|cont=>rw[C41];exact gI z|ret u=>obtain⟨v,pI,gS,kY,cV,nC⟩:=r1;exact ar6 (aQ.ar8 kY I.ok) fs hi QB (fun gW Oj=>⟨v,_,gS,Oj,cV,nC⟩)
structure JU(P:f3)(w:ff)(K:bo)(d:ag)(kvs:410):04 where
 sys:(d==l5)=09
 at_:∃vs,603∧∀h:dk,055→h.DictOf (fg P w) d vs
inductive ab1(P:f3)(w:ff)(K:bo)(Q:aW)(y:ae)(x:ae)(aB:av):04|mk:∀a kvs k,x=37→JU P w K a kvs→y=ec k→826 (736 068) aB→ab1 P w K Q y x aB
def asw(P:f3)(w:ff)(K:bo)(ty hj:ct):ct:=262 (ty σ H (d18 (hj σ H1 (d20 (ab1 P w K Q y x aB)))))
inductive ab2(P:f3)(w:ff)(K:bo)(Q:aW)(x:ae)(y:ae)(aB:av):04|mk:∀a kvs k v,x=37→JU P w K a kvs→y=ec k→068=54→Q v aB→ab2 P w K Q x y aB
def asx(P:f3)(w:ff)(K:bo)(hj ty:ct):ct:=262 (hj σ H (291 (ty σ H1 (890 (ab2 P w K Q x y aB)))))
section
variable{i o:dn}
theorem asy(hi:bF X i ty)(a8:bF X o hj):Hj X .In i o (asw 61 X.w X.K ty hj):=by rw[A13];refine bY (hi 07 s σ H _ I h) (l76 (a8 07 s1 σ H1 _ aX bg) (fun u s2⟨x,aB,b5,bw,a,kvs,k,ex,Bo,f6,cf⟩=>?_));subst ex f6;rw[A38 u];rw[D24];refine wpAny_in_of e59 Bo.sys (dd _ b5.gF).mapOf ?_;rw[←180];exact 128 _ aB (b5.tok _) cf
theorem asz(a8:bF X o hj)(hi:bF X i ty)(aL:Oq i):bF X (a27 o i) (asx 61 X.w X.K hj ty):=by rw[A13];refine Yl anv.lookup aL (bY (a8 07 s σ H _ I h) (q76 (bY (hi 07 s1 σ H1 _ aX bg) (fun gV s2⟨y,aB,b5,bQ,a,kvs,k,v,ex,Bo,f6,a3,cf⟩=>?_))));subst ex f6;rw[A38 u];rw[D24];rw[C01 v (yc vs k) (by rw[←a3];exact 186)];exact⟨(dd _ b5.gF).typeIs,wpAny_getItem_of e59 (dd _ b5.gF).mapOf hw ⟨v,aB,b5.tok _,oE,cf⟩⟩
end
end
section
variable{C b p t:ag}{K:bo}{ea hS row:List Nat}{cl:Str→Option ag}{r:List Int}
def q8(hS row:06)(p b:Nat):324:=cC 815 (48 b) (cC 226 (48 p) (cC 243 (76 row) (cC 817 (76 hS) [])))
structure sJ(K:bo)(C:ag):04 where
 cl:h4 K C
 sign:245 817
 row:245 243
 place:245 226
 behind:245 815
theorem wo{p b:Nat}:273 (q8 hS row p b) 817=653 hS:=k99
theorem sL{p b:Nat}:273 (q8 hS row p b) 243=653 row:=k99
theorem ui{p b:Nat}:273 (q8 hS row p b) 226=71 p:=k99
theorem asA{p b:Nat}:273 (q8 hS row p b) 815=71 b:=k99
def lV(t:ag)(r:Nat):324:=cC 730 (48 r) (238 576 t [])
structure yS(K:bo)(C:ag):04 where
 cl:h4 K C
 text:245 576
 ea:245 730
theorem QC{r:Nat}:273 (lV t r) 576=530:=o53
theorem asB{r:Nat}:g11 (lV t r)=71 r:=o53
theorem asC{r dF:Nat}:cC 730 (48 dF) (lV t r)=lV t dF:=by unfold lV;rfl
theorem oQ{r:Nat}:273 (lV t r) f33=00:=o53
end
abbrev ab3:bK:=343 0x4b 0
theorem asD:31 [352,817,304,226,815] [352,817,304,226,815] ab3:=⟨rfl,rfl,rfl,05,rfl,05,05⟩
section
variable{A:rU}{G:Prop}{C CS D a b bG c ck cu d dx f fI p t:ag}{E Q:aH→aZ→Prop}{F:List (List Nat)}{K:bo}{M:Model}{N:List Str}{P:f3}{S:ag→Prop}{vs:List aH}{aD:List ag}{aG e:dn}{bx doc ek ig u:aH}{o:Obj}{ah:Str→Option aH}{an cQ:Option ag}{k1 k2 k3:Option aH}{c0 i j n:Nat}{base h h':dk}{g hS l ls row:List Nat}{r:List Int}{dP k7:Array (Option aH)}{fd q9:k6}{x:Str}{outer:List Env}{own:List (Str×Nat)}{q:Search}{s s':dt}{sc:rp}{v:Word}{w:ff}{m:g0}{cb:List (Option ae)}{xs ys:List ae}{y:ae}{H H' H1 aB eF:av}{X:dT}{tb:gH}
inductive EX(C:ag)(vs:08)(H:av)(Q:aW)(E:bD):04|mk:∀(p dx:ag)(hS row:06)(a b:Nat),vs=[280,76 hS,76 row,48 a,48 b]→H p=c80→Q .b4 (264 H p C (q8 hS row a b))→EX C vs H Q E
theorem asE(F:hC K 421 "Token.__init__" ab3 f fd)(M:sJ K C):eP P w K ah 02 aO 1 f fd [352,817,304,226,815] (EX C):=by
 rw[A36 asD]
 ·obtain⟨p,dx,hS,row,a,b,rfl,_⟩:=h;rfl
 ·obtain⟨p,dx,hS,row,a,b,rfl,au,k⟩:=h;rw[A01 (a60 c03 45 (e27 (557 85) 327))];refine⟨_,rfl,_,rfl,p,C,dx,_,rfl,au,20,M.sign,298 0,?_⟩;refine⟨_,rfl,_,rfl,p,C,dx,_,rfl,aI,20,M.row,959,?_⟩;refine⟨_,rfl,_,rfl,p,C,dx,_,rfl,aI,20,M.place,298 2,?_⟩;refine⟨_,rfl,_,rfl,p,C,dx,_,rfl,aI,20,M.behind,298 3,?_⟩;rw[gp,gp,gp];exact k
abbrev ab4:bK:=343 0x4c 0
theorem asF:31 j16 j16 ab4:=⟨rfl,rfl,rfl,05,rfl,05,05⟩
inductive QD(C:ag)(vs:08)(H:av)(Q:aW)(E:bD):04|mk:∀(p dx t:ag),vs=[280,784]→H p=c80→Q .b4 (264 H p C (lV t 0))→QD C vs H Q E
theorem asG(F:hC K 421 "Tokens.__init__" ab4 f fd)(M:yS K C):eP P w K ah 02 aO 1 f fd j16 (QD C):=by
 rw[A36 asF]
 ·obtain⟨p,dx,t,rfl,_⟩:=h;rfl
 ·obtain⟨p,dx,t,rfl,au,k⟩:=h;rw[A01 (e27 c03 bu)];refine⟨_,rfl,_,rfl,p,C,dx,_,rfl,au,20,M.text,298 0,?_⟩;refine⟨_,rfl,p,C,dx,_,rfl,aI,20,M.ea,959,?_⟩;rw[gp];exact k
structure wq(P:f3)(w:ff)(K:bo)(ah:261)(base:dk)(C fI:ag)(fd:k6):04 where
 M:q7 K C fI
 F:eP P w K ah 02 aO 1 fI fd c55 (JR C)
 b:lr K fd c55 []
 m:ah 722=46 C
theorem asH{E F:04}(h:(E→F)→G)(f:E→F):G:=h f
def nS(C:ag)(H:av)(E:bD)(k p:Nat):04:=∀d H',49→H' d=c64 d (Bm 82 863)→E 236 866 H'
theorem nS.same{E:bD}{k p:Nat}(h:nS C H E k p)(s:c78):nS C H1 E k p:=fun d H' s' e=>h d H' (s.trans s') e
def n6(C:ag)(H:av)(Q:aW)(hS row:06)(p b:Nat):04:=∀H' a dx,49→H a=00→H dx=00→H' a=482 C (q8 hS row p b)→Q 37 H'
theorem n6.same{Q:aW}{p b:Nat}(h:n6 C H Q hS row p b)(s:c78):n6 C H1 Q hS row p b:=fun H' a dx s' aK aG e=>h H' a dx (s.trans s') (s.free aK) (s.free aG) e
theorem n6.make{Q:aW}{p b:Nat}{E:bD}(h:n6 C H Q hS row p b):∀x dx,H x=00→H dx=00→dx≠x→EX C [438,76 hS,76 row,48 p,48 b] (264 (upd H dx 641) x C []) (k98 (v=.b4∧514 x aB)) E:=fun x dx ai hd ne=>⟨x,dx,hS,row,p,b,rfl,aI,rfl,h _ x dx (k60 (j85 (117 ai) (117 ai) hd)) ai hd aI⟩
theorem QE{q:a72}:∀{l:06}{i c:Nat},i<11 f94→115=73→q c=01
 |[],i,c,h,_=>500
 |a::l,i,c,h,e=>by
  rw[CW]at h;rw[A18]
  ·next aN=>cases i with|zero=>have:a=c:=cI e;rw[A48];exact aN|succ i=>exact QE (l:=l) (i:=i) 967 e
  ·simp at h
theorem aho{q:a72}:∀{l:06}{c:Nat},l[11 f94]?=73→q c=09
 |[],c,e=>k37
 |a::l,c,e=>by
  rw[CW]at e;rw[A22]
  ·exact aho (l:=l) 566
  ·next aN=>have:a=c:=cI e;rw[A48];simpa using aN
theorem QF{q:a72}:∀{l:06},l.take (11 f94)=f94
 |[]=>rfl
 |a::l=>by
  rw[CW];split
  ·show a::l.take _=_;rw[QF]
  ·rfl
theorem ab5{q:a72}:∀{l:06},11 f94≤63
 |[]=>64
 |a::l=>by
  rw[CW];split
  ·exact Nat.succ_le_succ ab5
  ·exact 229
theorem ab6(c:Nat):Cg 337=fe c:=by unfold Cg fe;rw[hu];simp only[hG,decide_eq_true_eq];lia
def EY:06:=bV k27
theorem asI{c:Nat}(h:fe c=01):EY[c-534]?=73:=by rw[A81 ((G0 c).mp h)];have:∀d,d<0x1a→EY[d]?=some (d+534):=14;have:=this (c-534) 03;rw[A16];congr 1;lia
abbrev QG:bK:=bA 0x50
theorem ab7:31 [576,226,815,f38,304] 774 QG:=⟨rfl,rfl,rfl,05,rfl,05,05⟩
def f_(bI:06)(p:Nat):06:=j22 012
inductive QH(K:bo)(cu:ag)(ck:ag)(vs:08)(H:av)(Q:aW)(E:bD):04|mk:q74 06 (vs=[784,48 p]→aJ K H t (aT a36)→p≤353→353≤5000→(12<609→nS ck H E 2 p)→(¬12<609→n6 cu H Q 640 561 p (p+609))→QH K cu ck vs H Q E)
structure JV(ah:261):04 where
 len:ah "len"=00
 tuple:ah 808=00
 set:ah b30=00
theorem asJ(D:cq K ah "row_at" QG 774 f fd)(O:JV ah)(Z:wq P w K ah 02 ck fI q9)(yk:220 i26 12)(QI:220 o39 2)(asK:d7 ah "ALPHABET" (76 EY))(P8:220 o52 534)(Bp:Pr P w K ah 02 aO 1 k97 e44 Jw)(EZ:mf P w K ah 02 aO 1 cu "Token" [352,817,304,226,815] (EX cu)):Pr P w K ah 02 299 3 "row_at" 774 (QH K cu ck):=by
 refine 038 ab7
 ·rw[D23];rfl
 ·obtain⟨t,bI,p,rfl,bk,au,hz,og,kt⟩:=h;have S:=ab7;rw[A01 (90 2 62 (tI Qr (vw (bM ka (J 2) (d6 (hO K rfl) 66 O.len eJ 029) (bO _)) (xO (348 (e28 Bp (440 252 45))))).pt (aM (Dj (i:=2) 242 rfl 70 bu z4))) (516 (bX (bM oA (eu r7 45 62) (dq yk) (bO _)) (aM (uh Z.M Z.F 22 Z.b Z.m (aj (dq QI) 296))) b2) (qT (i:=4) rfl 242 rfl rfl 875 (339 (pM b18 252 (ma 62) (ma 45))) (own:=[(f38,3)]) (295 [576,226,815,f38,304] QG) 926 369 (286 (e6 XI (dq asK) (eu r7 85 (dq P8)) 630))) (pU EZ 22 bb (aj fl (aj (OS K rfl fl 327) (461 1 2))))))];have wa:11 561≤353-p:=by have:=ab5 (q:=fe) (l:=012);rw[fV]at this;exact this
  have yT:11 a53=353:=by rw[fa,nM]
  have atT:∀{j c:Nat},bI[j]?=73→pN a53 (52 j)=71 c:=fun{j c:_}ar=>fm q73;refine 123 ⟨fun m σ H'=>∃(i:Nat),i≤609∧m=609-i∧σ=[530,71 p,71 (p+i:Nat),00,00]∧H'=H,⟨_,0,229,rfl,rfl,rfl⟩,?_⟩;rintro m σ H'⟨i,hi,rfl,rfl,rfl⟩;refine⟨_,rfl,_,rfl,t,_,rfl,.inl bk,_,_,rfl,rfl,_,rfl,?_⟩;rw[yT];refine' asH (E:=i=609) m54 ?b;case a=>
   refine eb 356 (312 (b_ (fin ?_)))
   ·have h':=104;have cM:p+i<353:=03;obtain⟨c,ar⟩:∃c,bI[p+i]?=73:=126 cM;have oy:o51 i=73:=by rw[ai5];exact ar
    refine⟨_,rfl,_,rfl,t,_,_,_,rfl,rfl,bk,atT ar,_,rfl,_,rfl,?_⟩;rw[ab6];by_cases aL:i<609
    ·rw[QE (l:=012) aL oy];refine c8 ⟨fun cb aB=>cb=[530,71 p,71 (p+(i+1):Nat),00,00]∧aB=H',?_,_,rfl,_,_,rfl,rfl,?_,rfl⟩
     ·rintro _ _⟨rfl,rfl⟩;exact⟨609-(i+1),03,i+1,aL,rfl,rfl,rfl⟩
     ·rfl
    ·have hg:i=609:=03;have p7:o51 (11 (j22 012))=73:=by rw[show 11 (j22 012)=i from hg.symm];exact oy
     rw[aho p7];exact b_ (fin hg)
   ·have h':¬52 (p+i)<52 353:=152 z;lia
  case b=>
   intro hg;subst hg;refine⟨_,rfl,_,rfl,_,_,rfl,rfl,_,_,rfl,rfl,_,rfl,359⟩
   ·have h':=104;exact⟨_,rfl,_,_,rfl,og 03⟩
   ·have h':¬045<52 (p+609)-863:=152 z;have iN:¬12<609:=03;refine⟨_,rfl,_,rfl,_,rfl,_,rfl,_,rfl,t,_,rfl,bk,fun dP DA=>?_⟩;rw[A63 (mb a53 e64 (920 (p+609:Nat))) DA];have QJ:mb a53 e64 (920 (p+609:Nat))=e92 561:=by unfold mb;rw[HT.sa,HT.sa,yT,sx au,176,asL,aT,b6,←uZ,←uZ,←wV,←wV];unfold f_;rw[QF];rfl
    rw[QJ]at s1⊢;refine⟨dP,rfl,224 aI,fun JW ab8=>?_⟩;have asM:dP≠JW:=bT aI ab8;have t9:∀c∈561,fe c=01:=h63 (by
     obtain⟨j,bS⟩:=rx ar;have asN:o51 j=73:=by
      have aG:=QF (q:=fe) (l:=012);have:((bI.drop p).take (f_ bI p).length)[j]?=73:=n61 (show 222 012 609=561 from aG);rw[ai4]at this;split at this
      ·rw[A10]
      ·rw[A47]
     exact QE (eI bS) asN);refine kC (K:=K) (a:=dP) (xs:=e92 561) (fun i aB=>aB=34 (520 H' dP (b6 561)) JW (gU ((442 561).map (575 [c])))) rfl (fun i aB _ e=>682 (861 asM)) ?_ ?_
    ·rintro i y aB aC rfl;obtain⟨z,mZ,rfl⟩:=oL aC;obtain⟨c,ar,rfl⟩:∃c:Nat,(f_ bI p)[i]?=73∧z=337:=by
      rw[b6,cK]at mZ
      cases e:(f_ bI p)[i]? with|none=>rw[e]at mZ;cases mZ|some c=>rw[e]at mZ;rw[A76 c mZ]
     have Jn:=t9 c (cG ar);obtain⟨g1,g2⟩:=(G0 c).mp Jn;refine⟨rfl,_,rfl,_,_,rfl,rfl,_,_,c,rfl,rfl,?_,?_,_,aI,?_,?_⟩
     ·show 0x1a≤bc;decide
     ·rw[show 337-534=52 (c-534)by lia];exact fm (asI Jn)
     ·rw[v9,ba,eS];rw[A14 (show 255 by lia)]
     ·rw[gp,dZ ar,d5,Es];rfl
    ·rintro aB rfl;rw[fa,nM,eK];have s2:aA H' (34 (520 H' dP (b6 561)) JW (gU ((561).map (575 [c])))):=807 (422 ab8);have tY:gU ((561).map (575 [c]))=(e73 561 [c]).map ae.str:=by rw[gU,gP,gP];rfl
     refine⟨282,_,rfl,_,JW,e73 561 [c],rfl,rfl,306 (by rw[aI,tY]),?_,?_⟩
     ·have aK:(m92 (e73 561 [c])).sum=609:=by
       rw[gP];generalize 561=l;clear tY
       induction l with|nil=>rfl|cons a r ih=>rw[eN,w8,ih,dR];show 1+230=_;lia
      rw[aK,show 11 a74=0 by rfl];lia
     ·rw[Zl];refine⟨_,rfl,_,rfl,?_⟩;exact((kt iN).same s2).make
theorem ab9(K:bo)(cj:X.K=K):iy X 748 (NP K):=by subst cj;exact ame
theorem asO(K:bo)(cj:X.K=K)(bp:e39<kb):gs X (jv .NotEq) (N5 K):=740 (amI bp)
theorem aca{K:bo}{H:av}:∀L:06,tP K H (e92 L) (i69 (kI 337))|[]=>89|c::L=>.cons (.int _) (aca L)
def JX(t:06)(p:Nat):GZ:=q75 (985 p) (.over p) (13 (fe c) (13 (12<c60 c) (.bad 2 p) (.word (c::f63) p (p+c60 c))) (13 (041 c) (.sign [c] p (p+1)) (13 ((c::g31)==ks) (.sign ks p (p+2)) (.bad 1 p))))
theorem acb(t:06)(r:Nat):CU t r=JX t (r+c43):=rfl
def asP(cu ck:ag)(H:av)(Q:aW)(E:bD):92 GZ|.bad k p=>nS ck H E k p|.over p=>n6 cu H Q 692 [] p p|.word w p b=>n6 cu H Q 640 w p b|.sign u p b=>n6 cu H Q u [] p b
def Bq:410:=[(gn 419,76 856),(gn 376,76 937),(gn 469,76 059),(gn 420,76 859)]
theorem acd(c:Nat):ja Bq a61=13 (041 c) (653 [c]) 00:=by
 have f:∀k:Nat,k≠c→591 (gn 82:cF) a61:=fun k e=>150 (e (564 (V_ z)));unfold ja Bq;rw[A72 (419=c)]
 ·subst af;rfl
 rw[A79 (376=c)]
 ·subst ak;rfl
 by_cases a6:469=c
 ·subst a6;rfl
 by_cases bH:420=c
 ·subst bH;rfl
 have k1:591 (gn 419:cF) a61:=f 419 af;have k2:591 (gn 376:cF) a61:=f 376 ak;have k3:591 (gn 469:cF) a61:=f 469 a6;have Br:591 (gn 420:cF) a61:=f 420 bH;have ar:041 c=09:=by simp[jq af,jq ak,jq a6,jq bH]
 rw[ar];simp only[jK,k1,k2,k3,Br];rfl
abbrev ace:bK:=bA 0x4e
theorem acf:31 [576,226,f38] 774 ace:=⟨rfl,rfl,rfl,05,rfl,05,05⟩
inductive QK(K:bo)(cu:ag)(ck:ag)(vs:08)(H:av)(Q:aW)(E:bD):04|mk:q74 06 (vs=[784,48 p]→aJ K H t (aT a36)→p≤353→353≤5000→asP cu ck H Q E (JX bI p)→QK K cu ck vs H Q E)
theorem asQ{JY QL:ag}(D:cq K ah o47 ace 774 f fd)(O:JV ah)(Z:wq P w K ah 02 ck fI q9)(asR:220 "NO_TOKEN" 1)(acg:d7 ah "SIGNS" (.ref JY))(ach:JU P w K JY Bq)(asS:d7 ah "ARROW" (.ref QL))(asT:∀H,dX K H QL [e00,d97])(Bp:Pr P w K ah 02 aO 1 k97 e44 Jw)(EZ:mf P w K ah 02 aO 1 cu "Token" [352,817,304,226,815] (EX cu))(QM:Pr P w K ah 02 299 3 "row_at" 774 (QH K cu ck)):Pr P w K ah 02 299 4 o47 774 (QK K cu ck):=by
 refine 038 acf
 ·rw[D23];rfl
 ·obtain⟨t,bI,p,rfl,bk,au,hz,k⟩:=h;have S:=acf;rw[A01 (aF (bX (bM fv (J 1) (d6 (hO K rfl) 66 O.len eJ 029) (bO _)) (65 (pU EZ 22 bb (aj fl (aj fl (461 1 1))))) b2) (aF (94 2 (440 252 62)) (aF (bX (348 (d38 Bp 2)) (65 (bj QM 22 ha (461 0 1))) b2) (aF (bX (MW (asy 45 (dq acg))) (65 (pU EZ 22 bb (aj (asz (dq acg) 45 630) (aj fl (e37 1 (eu qH 62 bu)))))) b2) (434 (bX (bM (abc K rfl f06) (l_ (ab9 K rfl) 66 O.tuple boot_tuple (78 (pM b18 252 (ma 62) (ma (eu qH 62 bu))))) (dq asS) (bO _)) (65 (pU EZ 22 bb (aj fl (aj fl (e37 1 (eu qH 62 bu)))))) b2) (uh Z.M Z.F 22 Z.b Z.m (aj (dq asR) 296)))))))];have yT:11 a53=353:=by rw[fa,nM]
  refine⟨_,rfl,_,rfl,t,_,rfl,.inl bk,rfl,_,rfl,?_⟩;rw[yT];unfold JX at k;refine 359
  ·have h':863=15 353:=by have:=104;injection this
   have hd:012=[]:=List.drop_eq_nil_of_le 03;rw[hd]at k;exact⟨_,rfl,_,rfl,n6.make k⟩
  ·have h':p≠353:=152 (by rw[z]);have cM:p<353:=03;obtain⟨c,ar⟩:∃c,bI[p]?=73:=126 cM;have hd:012=c::020 p 1:=by rw[aa7 cM];congr 1;have:=cA cM;rw[ar]at this;exact 129 246
   rw[hd]at k;simp only at k;have atT:pN a53 (52 p)=71 c:=fm q73;refine⟨_,rfl,_,rfl,t,_,_,_,rfl,rfl,bk,atT,?_⟩;refine⟨_,rfl,_,rfl,_,rfl,?_⟩;rw[ab6];have QN:561=13 (fe c) (c::j22 (020 p 1)) []:=by unfold f_;rw[hd,CW]
   refine eo a83 a83
   ·rw[21 aL]at k QN;refine⟨_,rfl,_,rfl,t,bI,p,rfl,bk,au,hz,fun iN=>?_,fun iN=>?_⟩
    ·rw[QN]at iN;rw[A54 iN];exact k
    ·rw[QN]at iN⊢;rw[A97 iN];exact k
   ·rw[A97 (by rw[aL];decide)];refine⟨_,rfl,JY,Bq,a61,rfl,ach,rfl,_,rfl,?_⟩;rw[acd];by_cases bH:041 c=01
    ·rw[21 bH]at k⊢;refine c8 ⟨_,rfl,JY,Bq,a61,_,rfl,ach,rfl,by rw[acd,21 bH],_,rfl,_,rfl,_,_,rfl,rfl,?_⟩;exact n6.make k
    ·rw[23 bH]at k⊢;rw[A21 ⟨_,rfl,_,rfl,_,rfl,_,rfl,_,_,rfl,rfl,_,rfl,t,_,rfl,bk,fun dP DA=>?_⟩];rw[A63 (mb a53 e64 (some (863+2))) DA];have QJ:mb a53 e64 (some (863+2))=e92 (c::222 (020 p 1) 1):=by
      rw[show 863+2=52 (p+2)by lia];unfold mb;rw[HT.sa,HT.sa,yT,sx au,aT,b6,←uZ,←uZ,←wV,←wV,hd];have:min (p+2) 353-p=min 2 (353-p):=by rw[←Nat.sub_min_sub_right,asL]
      rw[A16];have eY:11 (020 p 1)=353-(p+1):=fV;have:222 (c::020 p 1) (min 2 (353-p))=c::222 (020 p 1) 1:=by
       cases e:020 p 1 with
        |nil=>
         rw[e]at eY;have:353-p=1:=by have:(0:Nat)=_:=eY;lia
         rw[A16];rfl
        |cons y ys=>
         rw[e]at eY;have:min 2 (353-p)=2:=by have:674+1=_:=eY;lia
         rw[A16];rfl
      rw[A16];rfl
     rw[QJ]at s1⊢;generalize gG:(c::222 (020 p 1) 1)=L at*;refine⟨dP,_,rfl,.inl ⟨e43,fun JZ asU=>?_⟩⟩;have s2:=821 (e92 L) asU;have asV:∀eF:av,jZ K eF (.ref QL) (b52 [e00,d97]):=fun eF=>jZ.tup (asT eF) (.cons e00 (386 d97));have J0:vM (b52 (i69 (kI 337)))=01∧vN (b52 (i69 (kI 337))) (b52 [e00,d97])=(L==ks):=by
      rw[←gG,show ks=[665,468]by decide]
      cases 020 p 1 with|nil=>rw[A27 rfl];show(((337==665)&&09):571)=((c==665)&&09);rw[Am,Am]|cons y ys=>rw[A27 rfl];show(((337==665)&&((15 y==468)&&01)):571)=((c==665)&&((y==468)&&01));rw[hu];simp;lia
     refine⟨b52 (i69 (kI 337)),b52 [e00,d97],jZ.tup (.inl (.inl aI)) (aca L),asV _,J0.1,14,_,rfl,?_⟩;rw[J0.2];refine eo (fun aN=>?_) (fun aN=>?_)
     ·rw[A54 aN];exact⟨_,rfl,_,rfl,_,_,rfl,rfl,n6.make (n6.same k 332)⟩
     ·rw[A97 (by rw[aN];decide)];exact⟨_,rfl,_,_,rfl,nS.same k 332⟩
abbrev hr:=Vainve.Tok
abbrev ei:=Vainve.Toks
def fN(S:92 ag)(H H':av):04:=374 (H b) (¬S b→244=25)
theorem fN.trans(a:fN S H H1)(b:fN S H1 aB):fN S H aB:=fun c o h n=>b c o (a c o h n) n
theorem fN.same(h:49):fN S H H':=o50 (h b o e)
variable{z:Nat×hr}
theorem fN.upd{o:dz}(h:S a):fN S H (Internal.upd H a o):=l90 (170 (n q72))
theorem fN.mono{E0:92 ag}(h:fN S H H')(m:∀b,S b→E0 b):fN E0 H H':=k93 (h b o e (16 (n (m b z))))
def m1(C:ag)(S:92 ag)(H:av)(E:bD)(z:916):04:=∀d H',fN S H H'→H' d=c64 d (Bm 649 (15 z.2))→E 236 866 H'
theorem m1.step{E:bD}{z:916}(h:m1 C S H E z)(b:fN S H H1):m1 C S H1 E z:=fun d H' tN e=>h d H' (b.trans tN) e
theorem m1.c9{E:bD}{k p:Nat}(h:m1 C S H E (k,p)):nS C H E k p:=fun d H' s e=>h d H' (b48 s) e
def n7:hr→06|.word _=>640|.sign u=>u|.over=>692|.bad _=>[]
def jh:hr→06|.word w=>w|_=>[]
def wt:92 hr|.word w=>w≠[]∧j31∧f37 (534≤c∧c≤0x7a)|.sign u=>u∈[856,937,059,859,ks]|.over=>625|.bad _=>739
inductive uj(C:ag)(H:av)(q:ag)(z:411):04|mk:wt z.2→∀f9 b,H q=710 f9 (q8 (n7 z.2) g72 z.1 b)→uj C H q z
structure m2(K:bo)(C t:ag)(H:av)(a:ag)(aD:ei):04 where
 ex:∃dx bI r,H a=482 C (lV t r)∧H t=79 a36∧r≤353∧353≤5000∧aD=kr bI r
theorem asW(bI:06)(r:Nat):∀z∈kr bI r,∀w,z.2=032→wt 032:=fun z hz w e=>q71 (VS 353 (353+1) d81 z.1 w (by rw[←e];exact hz))
theorem asX{t u:06}{r p b:Nat}(e:CU t r=.sign u p b):wt c36:=by
 rw[acb]at e;unfold JX at e;rw[A22]
 ·cases e
 ·next c rest _=>
  rw[A22]
  ·split at e<;>cases e
  ·rw[A22]
   ·next bH=>
    have:[c]=u:=o49;rw[A48];show[c]∈[856,937,059,859,ks];have:c=419∨c=376∨c=469∨c=420:=by simpa using bH
    rcases this with z|z|z|z<;>rw[z]<;>decide
   ·rw[A22]
    ·have:ks=u:=o49;rw[A48];show ks∈[856,937,059,859,ks];decide
    ·cases e
abbrev aci:bK:=343 0x4c 1
theorem acj:31 [352,738] 251 aci:=⟨rfl,rfl,rfl,05,rfl,05,05⟩
def m3(z:411)(rest:ei):ei:=13 (z.2=.over) c69 67
inductive Bs(K:bo)(CS:ag)(cu:ag)(ck:ag)(vs:08)(H:av)(Q:aW)(E:bD):04|mk:q63 (vs=254→m2 K CS t H a aD→(∀k p rest,aD=(p,.bad k)::67→m1 ck (·=a) H E (k,p))→(∀z rest H' q,aD=c69→e49 H H'→H q=00→uj cu H' q z→m2 K CS t H' a e97→435 q)→Bs K CS cu ck vs H Q E)
theorem asY(F:hC K f33 "Tokens.take" aci f fd)(M:yS K CS)(dN:sJ K cu)(asZ:Pr P w K ah 02 aO 1 o48 774 (P9 K))(QO:Pr P w K ah 02 299 4 o47 774 (QK K cu ck)):eP P w K ah 02 299 5 f fd 251 (Bs K CS cu ck):=by
 rw[C16];refine NB e5 ny acj l62 (fun A outer s H vs Q E aq h=>?_)
 ·rw[D16];rfl
 ·obtain⟨a,t,aD,rfl,⟨dx,bI,r,aN,bk,p9,hz,rfl⟩,og,kt⟩:=h;have S:=acj;rw[A01 (389 1 (bj QO 22 ha (258 59 (a59 asZ 59 59))) (557 358) 62)];refine⟨_,rfl,a,CS,dx,_,_,rfl,aN,20,M.text,QC,_,rfl,a,CS,dx,_,_,rfl,aN,20,M.text,QC,_,rfl,a,CS,dx,_,_,rfl,aN,20,M.ea,asB,t,a36,r,rfl,32 bk,by rw[nM];exact p9,?_⟩;have as2:mw 09 (472 a36 r)=308 d81:=by rw[show 472 a36 r=b6 d81 by unfold b6;rw[uZ],GW]
  rw[as2];have as3:r+308 d81≤353:=by have:=xw d81 09;rw[fV]at this;lia
  refine⟨t,bI,r+308 d81,rfl,32 bk,as3,hz,?_⟩;have st:=ajp bI r p9;have as4:t≠a:=355 bk aN;rw[←acb];have go:∀(z:411)(b:Nat)(rest:ei),kr bI r=c69→b≤353→wt z.2→kr bI b=e97→n6 cu H (fun v H1=>(291 (tG 1 x [248,00] H1 (d17 (Hn (Xe K (iW 0) (x1 K (iW 1) 815) 730) (De (iW 1)) j83 cb H')))) v H1) (n7 z.2) g72 z.1 b:=by intro z b rest as5 aa iR i0 H1 q f9 s1 aw aBI eq;have je:=s1 _ _ aN;have as6:q≠a:=914 aN aw;refine⟨_,rfl,q,cu,f9,_,_,rfl,eq,316,dN.behind,asA,_,rfl,a,CS,dx,_,rfl,je,20,M.ea,298 2,_,rfl,?_⟩;rw[asC];refine kt z 67 _ q as5 (fun c o e n=>41 n (s1 _ _ e)) aw ⟨iR,f9,b,41 as6 eq⟩ ⟨dx,bI,b,aI,41 as4 (s1 _ _ bk),aa,hz,i0.symm⟩
  cases e:CU bI r with|bad k p=>rw[A90];exact m1.c9 (og k p [] st)|over p=>rw[A90];obtain⟨c0,Ja⟩:=st;refine go (p,.over) p [] Ja 03 trivial ?_;rw[c0];unfold kr;rw[aa9];rfl|word w p b=>rw[A90];exact go (p,032) b _ st.2.2 st.1 (asW bI r _ (364 st.2.2 237) w rfl) rfl|sign u p b=>rw[A90];exact go (p,c36) b _ st.2.2 st.1 (asX e) rfl
theorem p_(a b:06):b76 a b=29 (a=b):=by
 rw[A06 a b]
 ·rw[e];simp
 ·rw[132,decide_eq_false];intro z;have j9:aP a=aP b:=k76;exact e (109 c5 j9)
theorem ack{k:hr}(g:wt k)(p:Nat)(r:ei):29 (n7 k=692)=E1 (494::r):=by cases k with|word w=>show 591 640 692;decide|over=>show 29 (692=692)=01;decide|bad n=>exact gI g|sign u=>have g:u∈[856,937,059,859,ks]:=g;show 591 u 692;rw[D21];rw[D20]
theorem J1{k:hr}(g:wt k)(p:Nat)(r:ei){s:String}(aL:787≠640∧787≠692):29 (n7 k=787)=gm s (494::r):=by cases k with|word w=>show 591 640 787;exact 150 (aL.1 b25)|over=>show 591 692 787;exact 150 (aL.2 b25)|bad n=>exact gI g|sign u=>show 29 (u=787)=(u==zt s);rw[D22];rfl
theorem J2{k:hr}(g:wt k)(p:Nat)(r:ei){s:String}(aL:787≠[]):29 (jh k=787)=nT s (494::r):=by cases k with|word w=>show 29 (w=787)=(w==zt s);rw[D22];rfl|over=>show 591 [] 787;exact 150 (aL b25)|bad n=>exact gI g|sign u=>show 591 [] 787;exact 150 (aL b25)
def E2:481 hr|.word _=>01|_=>09
theorem acm{k:hr}(g:wt k):29 (n7 k=640)=E2 k:=by cases k with|word w=>show 29 (640=640)=01;decide|over=>show 591 692 640;decide|bad n=>exact gI g|sign u=>have g:u∈[856,937,059,859,ks]:=g;show 591 u 640;rw[D21];rw[D20]
theorem QP(z:411)(r:ei):mF (z::r)=mF [z]:=k96
abbrev acn:bK:=bA 0x5a
theorem aco:31 a43 a43 acn:=⟨rfl,rfl,rfl,05,rfl,05,05⟩
inductive Bu(cu:ag)(ck:ag)(vs:08)(H:av)(Q:aW)(E:bD):04|mk:∀(q:ag)(z:411),vs=[a99]→uj cu H q z→nS ck H E (mF [z]).1 (mF [z]).2→Bu cu ck vs H Q E
theorem as7(D:cq K ah f34 acn a43 f fd)(dN:sJ K cu)(Z:wq P w K ah 02 ck fI q9)(as8:220 "ENDS_EARLY" 4)(as9:220 "MISPLACED" 3):Pr P w K ah 02 299 3 f34 a43 (Bu cu ck):=by
 refine 038 aco
 ·obtain⟨q,z,rfl,_⟩:=h;rfl
 ·obtain⟨q,⟨p,k⟩,rfl,⟨g,f9,b,aw⟩,og⟩:=h;have S:=aco;rw[A01 (434 (bX (bM fv 59 fl (bO _)) (aM (uh Z.M Z.F 22 Z.b Z.m (c40 as8 59))) b2) (uh Z.M Z.F 22 Z.b Z.m (c40 as9 59)))];refine⟨_,rfl,q,cu,f9,_,_,rfl,aw,316,b49,wo,rfl,_,rfl,?_⟩;show 616 (c34 k 692);rw[p_,ack g p []]
  cases k with|over=>exact c8 ⟨_,rfl,q,cu,f9,_,_,rfl,aw,316,090,ui,_,_,rfl,og⟩|word w=>exact b_ ⟨_,rfl,q,cu,f9,_,_,rfl,aw,316,090,ui,_,_,rfl,og⟩|sign u=>exact b_ ⟨_,rfl,q,cu,f9,_,_,rfl,aw,316,090,ui,_,_,rfl,og⟩|bad n=>exact gI g
abbrev acp:bK:=bA 0x59
theorem acq:31 c06 c06 acp:=⟨rfl,rfl,rfl,05,rfl,05,05⟩
inductive E3(cu:ag)(ck:ag)(vs:08)(H:av)(Q:aW)(E:bD):04|mk:∀(q:ag)(z:411)(hS:String),vs=[a99,76 (bV hS)]→uj cu H q z→(bV hS≠640∧bV hS≠692)→(gm hS [z]=01→Q .b4 H)→(gm hS [z]=09→nS ck H E (mF [z]).1 (mF [z]).2)→E3 cu ck vs H Q E
theorem ata(D:cq K ah h81 acp c06 f fd)(dN:sJ K cu)(oR:Pr P w K ah 02 299 3 f34 a43 (Bu cu ck)):Pr P w K ah 02 299 4 h81 c06 (E3 cu ck):=by
 refine 038 acq
 ·obtain⟨q,z,hS,rfl,_⟩:=h;rfl
 ·obtain⟨q,⟨p,k⟩,hS,rfl,⟨g,f9,b,aw⟩,aL,k1,k2⟩:=h;have S:=acq;rw[A01 (aM (bX (bM k4 59 62 (bO _)) (aM (026 oR 029)) b2))];refine⟨_,rfl,q,cu,f9,_,_,rfl,aw,316,b49,wo,_,rfl,rfl,_,rfl,?_⟩;rw[p_,J1 g p [] aL]
  cases e:gm hS [494]with|true=>exact b_ (k1 e)|false=>exact c8 ⟨_,rfl,q,494,rfl,⟨g,f9,b,aw⟩,k2 e⟩
theorem acr{g:iv}{D:lY}{σ:bq}(Pv:647)(h0:Pv 0 σ H)(aL:∀i c σ H,(c5 x)[i]?=73→560→g a85 σ H (fun c6 aB=>b67 361 361 c6 aB))(hd:c73 (Pv 607 σ H) 659):∃W:240 647,(∃m,W 0 m σ H)∧∀i m σ H,W i m σ H→(800 (vS x)∧659)∨((vS x).go i H∧∃N:409,n27 (N cb H'→∃eg,eg<m∧W (i+1) eg cb H')∧∀y H',(vS x).mL i H y H'→g y σ H' (fun c6 aB=>a12 c6 aB)):=by
 have aU:570=607:=by simp[c5]
 rw[B09 (m=607-i∧i≤607∧560) ⟨_,rfl,229,h0⟩];rw[B18];by_cases cM:i<607
 ·refine .inr ⟨a45 i 570,361,fun cb H' q=>⟨607-(i+1),03,rfl,03,q⟩,?_⟩;rw[D19];exact aL i c σ _ q70 p
 ·rw[A50 (i=607)];subst e;rw[A23 (636 570 _) (hd σ H p)]
def E4(ls:06)(z:411):f70 b7:=match z.2 with|.word w=>(d49 ls w (624 (7,z.1)) (.ok l))|_=>13 (070 [z]) (.ok []) (624 (mF [z]))
theorem Bv(ls:06)(z:411)(r:ei):ku ls (z::r)=(E4 ls z).map (543 (w,r)):=by
 rw[A82]
 cases k with
  |word w=>show(d49 ls w (tu (7,p)) (px (l,r)))=(d49 ls w (tu (7,p)) (px l)).map _;rw[B03 (qq ls w)]
  |over=>rfl
  |bad n=>rfl
  |sign u=>
   show(13 (070 ((p,c36)::r)) (px (([]:b7),r)) (tu (mF ((p,c36)::r))))=(13 (070 [(p,c36)]) (px ([]:b7)) (tu (mF [(p,c36)]))).map _;have aK:070 ((p,acs u)::r)=070 [(p,acs u)]:=rfl;rw[aK];rw[A39 (070 [(p,acs u)]=01)]
   ·rw[114,114];rfl
   ·rw[125,125];rfl
inductive yU(CS:ag)(H:av)(bG:ag)(ls:06):04|mk:∀dx bl,H bG=482 CS bl→d10 (304:Str)=653 ls→yU CS H bG ls
abbrev acu:bK:=bA 0x58
theorem acv:31 [738,35,h68] g15 acu:=⟨rfl,rfl,rfl,05,rfl,05,05⟩
inductive J3(cu:ag)(CS:ag)(ck:ag)(vs:08)(H:av)(Q:aW)(E:bD):04|mk:∀(q bG:ag)(z:411)(ls:06),vs=[a99,h03]→uj cu H q z→yU CS H bG ls→(∀x,E4 ls z=.ok x→a87 (370 x) H)→(∀y,E4 ls z=839→nS ck H E y.1 y.2)→J3 cu CS ck vs H Q E
theorem atb(D:cq K ah k95 acu g15 f fd)(dN:sJ K cu)(bJ:268)(Z:wq P w K ah 02 ck fI q9)(atc:220 q69 7)(oR:Pr P w K ah 02 299 3 f34 a43 (Bu cu ck)):Pr P w K ah 02 299 4 k95 g15 (J3 cu CS ck):=by
 refine 038 acv
 ·obtain⟨q,bG,z,ls,rfl,_⟩:=h;rfl
 ·obtain⟨q,bG,⟨p,k⟩,ls,rfl,⟨g,f9,b,aw⟩,⟨dx,bl,mW,hle⟩,k1,k2⟩:=h;have S:=acv;rw[A01 (aF (bX (bM fv 59 fl (bO _)) (65 fl) b2) (aF (bX (bM k4 59 fl (bO _)) (aM (026 oR 029)) b2) (239 (e_ Qr rfl (Io 59) (98 2 rfl 70) (aM (bX (bM aom 45 358 rfl) (aM (uh Z.M Z.F 22 Z.b Z.m (c40 atc 59))) b2))) 59)))];refine⟨_,rfl,q,cu,f9,_,_,rfl,aw,316,b49,wo,rfl,_,rfl,?_⟩;show 616 (c34 k (bV "."));rw[p_,J1 g p [] 14];have acw:(∀w,k≠032)→E4 ls 494=13 (070 [494]) (.ok []) (624 (mF [494])):=fun aS=>by cases k with|word w=>rw[A64 (aS w)]|over=>rfl|bad n=>rfl|sign u=>rfl
  cases J4:070 [494]with
   |true=>
    have aS:∀w,k≠032:=fun w z=>by rw[z]at J4;cases J4
    refine c8 ?_;have:=k1 [] (by rw[acw aS,J4];rfl);rw[A10]
   |false=>
    rw[A21 ⟨_,rfl,q,cu,f9,_,_,rfl,aw,316,b49,wo,rfl,_,rfl,?_⟩];show 616 (! c34 k 640);rw[p_,acm g];by_cases hw:∃w,k=032
    ·obtain⟨w,rfl⟩:=hw;rw[A21 ⟨_,rfl,q,cu,f9,_,_,rfl,aw,316,983,sL,_,rfl,acr (x:=aP w) (504 ((∃v,σ=[873,a96,v])∧H'=H∧∀c∈w.take i,c∈ls)) ⟨612 00,rfl,19⟩ ?_ ?_⟩]
     ·rintro i c σ H' ar⟨⟨v,rfl⟩,rfl,dQ⟩;have ar:w[i]?=73:=ar;refine⟨_,rfl,_,rfl,bG,CS,dx,_,_,rfl,mW,80,727,hle,c,aP ls,rfl,rfl,_,rfl,?_⟩;by_cases fc:c∈ls
      ·rw[102 (show c∈m69 ls from fc)];rw[A21 ⟨282,rfl,k18⟩];rw[dZ ar]at hd;rcases 362 hd with hd|hd
       ·exact dQ d hd
       ·rw[86 hd];exact fc
      ·rw[113 (show¬c∈m69 ls from fc)];refine c8 ⟨_,rfl,q,cu,f9,_,_,rfl,aw,316,090,ui,_,_,rfl,?_⟩;refine k2 (7,p) ?_;show(d49 ls w (tu (7,p)) (px l))=_;rw[Gi (16 (fc (z c (cG ar))))]
     ·rintro σ H'⟨⟨v,rfl⟩,rfl,dQ⟩;have dQ:f37 (c∈ls):=h63 (dQ c (by rw[108 (11 (c5 (aP w))) 218,eK];exact ar));obtain⟨x,af,ak,a6⟩:=Ck dQ;have:=k1 x (by show(d49 ls w (tu (7,p)) (px l))=_;rw[af]);rw[ak]at this;exact⟨_,rfl,q,cu,f9,_,_,rfl,aw,316,983,sL,246⟩
    ·have aS:∀w,k≠032:=fun w z=>hw ⟨w,z⟩;have atd:E2 k=09:=by cases k with|word w=>rw[A64 (aS w)]|over=>rfl|bad n=>rfl|sign u=>rfl
     rw[atd];refine c8 ⟨_,rfl,q,494,rfl,⟨g,f9,b,aw⟩,?_⟩;exact k2 _ (by rw[acw aS,J4];rfl)
def Bw(ls:06)(f:Bool)(x:b7)(l:Bool)(aD:ei):948 ez:=331 (ku ls aD) (888 (.ok ({left:=x,right:=v.1,first:=f,last:=l},v.2)))
def E5(ls:06)(f:Bool)(x:b7)(l:Bool)(aD:ei):948 ez:=331 (hX "->" aD) (Bw ls f x l)
def J5(ls:06)(f:Bool)(x:b7)(aD:ei):948 ez:=E5 ls f x (067 aD) (13 (067 aD) 690 aD)
def Bx(ls:06)(f:Bool)(aD:ei):948 ez:=331 (ku ls aD) (fun u=>J5 ls f u.1 u.2)
def mu(ls:06)(aD:ei):948 ez:=Bx ls c85 (13 c85 690 aD)
theorem ate(ls:06)(z:411)(aD:ei):G3 ls (z::aD)=331 791 (285 (331 (hX ";" m.2) (k16 (m.1,e)))):=by
 unfold G3 mu Bx;show 373 (ku ls (39 c85 690 aD))=_
 cases ku ls (39 c85 690 aD)with
  |error y=>rfl
  |ok u=>
   show _=373 (J5 ls _ u.1 u.2);unfold J5 E5;show 331 (hX "->" (39 (067 u.2) (u.2.drop 1) u.2)) _=_
   cases hX "->" (39 (067 u.2) (u.2.drop 1) u.2)with
    |error y=>rfl
    |ok a=>
     show _=373 (Bw ls _ u.1 _ a);unfold Bw;show 373 (ku ls a)=_
     cases ku ls a with|error y=>rfl|ok v=>rfl
theorem J6{x:b7}(h:E4 ls z=.ok x)(r:ei):m3 z r=r:=by
 rw[A82]
 cases k with|over=>cases h|word w=>rfl|sign u=>rfl|bad n=>rfl
theorem E6{s:String}{r0:ei}(h:gm s (z::r0)=01)(r:ei):m3 z r=r:=by
 rw[A82]
 cases k with|over=>cases h|word w=>rfl|sign u=>rfl|bad n=>rfl
theorem J7(s:String)(z:411)(r:ei):gm s (z::r)=gm s [z]:=k96
theorem QQ(s:String)(z:411)(r:ei):hX s (z::r)=13 (gm s [z]) (.ok r) (624 (mF [z])):=by unfold hX;rw[J7,QP];rfl
theorem yU.jE(h:yU CS H bG ls)(b:fN S H H')(n:¬S bG):yU CS H' bG ls:=let⟨dx,bl,e,l⟩:=h;⟨dx,bl,b _ _ e n,l⟩
theorem acx{E F:ag→a58}(h:(∀q f H,E q f H→F q f H)→G)(f:∀q f H,E q f H→F q f H):G:=h f
end
abbrev acy:bK:=bA 0x57
theorem acz:31 [577,35,738,h85,d16,h84,f36] [577,35] acy:=⟨rfl,rfl,rfl,05,rfl,05,05⟩
section
variable{A:rU}{G:Prop}{C CM CS D I a b bG c ck cu d dx er f fI fj p t:ag}{E Q:aH→aZ→Prop}{F:List (List Nat)}{K:bo}{M:Model}{P prog:f3}{R:Result→aZ→Prop}{Rh fD pos:Pos}{S:ag→Prop}{T:String}{a0 its' sub us vs:List aH}{aD as df:List ag}{aG e:dn}{aR:Array Ip}{acc:List (Str×ag)}{bx f1 u:aH}{o:Obj}{ah:Str→Option aH}{pins:List (ag×Obj)}{dd:Option ag}{k0 k1 k2:Option aH}{b0 c0 cR dS i j n t':Nat}{base h h':dk}{g l ls:List Nat}{cl:Str→Option ag}{ns r:List Int}{d':Drawn}{dP:Array (Option aH)}{od α β:Type}{fd q9:k6}{items:Array aH}{x:Str}{outer:List Env}{own:List (Str×Nat)}{pl:Sem Bool}{q:Search}{s s':dt}{tk:Tok}{v:Word}{w:ff}{m:g0}{xs ys:List ae}{y:ae}{H H' H1 aB:av}{bC:dz}{X:dT}{bW c7 g7 h5 ty:ct}{tb:gH}{z:Nat×hr}
inductive QR(K:bo)(fj:ag)(cu:ag)(CS:ag)(CM:ag)(ck:ag)(vs:08)(H:av)(Q:aW)(E:bD):04|mk:∀(a bG t:ag)(aD:ei)(ls:06),vs=349 h03→m2 K fj t H a aD→yU CS H bG ls→bG≠a→(∀m rest,791=k11 m→∀H' q,e49 H H'→H q=00→oK CM H' q 929→m2 K fj t H' a 67→435 q)→(∀y,791=839→m1 ck (·=a) H E y)→QR K fj cu CS CM ck vs H Q E
theorem atf(D:cq K ah o45 acy [577,35] f fd)(dN:sJ K cu)(M:yS K fj)(j3:jb P w K ah 02 299 5 fj f33 251 (Bs K fj cu ck))(wu:Pr P w K ah 02 299 4 k95 g15 (J3 cu CS ck))(uk:Pr P w K ah 02 299 4 h81 c06 (E3 cu ck))(atg:mf P w K ah 02 aO 1 CM "Move" k19 (PR CM)):Pr P w K ah 02 299 6 o45 [577,35] (QR K fj cu CS CM ck):=by
 refine 038 acz
 ·obtain⟨a,bG,t,aD,ls,rfl,_⟩:=h;rfl
 ·obtain⟨a,bG,t,aD,ls,rfl,bR,gG,lg,k1,k2⟩:=h;have S:=acz;rw[A01 (90 2 862 (94 3 (Ab fv 646 fl (bO _))) (aF (bX (348 85) (aM (94 2 862)) b2) (aF (94 4 (bj wu 22 ha (461 2 1))) (90 2 862 (94 5 (Ab fv 646 fl (bO _))) (aF (bX (348 462) (aM (94 2 862)) b2) (aF (026 uk (e37 2 fl)) (239 (94 6 (bj wu 22 ha (aj 862 296))) (pU atg 22 bb (77 4 6 (461 3 5))))))))))];rw[D15 (id bR.ex)];refine' acx (E:=fun q f0 H1=>∃z rest,791=Bx ls f0 c69∧e49 H H1∧uj cu H1 q z∧q≠a∧m2 K fj t H1 a e97) m54 ?b;case a=>
   refine⟨_,rfl,a,By,_,rfl,q_,oQ,a,t,aD,rfl,bR,fun k p rest e=>?_,q61 ?_⟩
   ·subst e;exact k2 (k,p) rfl
   ·have ym:q≠a:=914 q_ aw;rw[D14 (id nU)];obtain⟨fW,wx⟩:=z;refine⟨_,rfl,q,cu,f9,_,_,rfl,eq1,316,b49,wo,rfl,?_⟩;have gC:29 (515 (n7 wx)=ae.str (iA "^"))=c85:=by show c34 wx (bV "^")=_;rw[p_,J1 g1 fW 67 14,e]
    rw[gC];have E7:∀f0,f0=c85→791=Bx ls f0 (13 f0 690 aD):=fun f0 h=>by rw[h];rfl
    generalize hf:c85=f0;refine⟨_,rfl,_,rfl,eo 484 484⟩;rotate_left
    ·refine fin q f0 H1 ⟨(fW,wx),67,?_,b9,nU,ym,kL⟩;have hm:=k04 f0;rw[af]at hm⊢;rw[107]at hm;rw[hm,e]
    ·have i0:m3 (fW,wx) 67=67:=E6 (s:="^") (r0:=67) q68 67;rw[i0]at kL;have hm:=k04 f0;have kU:690=67:=f35;rw[af,101,kU]at hm;rw[B61 kL.ex];refine⟨_,rfl,a,mi,_,rfl,je,oQ,a,t,67,rfl,kL,fun k p qa bZ=>?_,fun es ji aB cf aG dj lP m4 iZ=>?_⟩
     ·subst bZ;exact 554 (k,p) (by rw[hm];rfl) b9
     ·refine fin cf f0 aB ⟨es,ji,?_,829,m4,?_,iZ⟩
      ·rw[hm,af,←aG]
      ·exact 914 je lP
  case b=>
   rintro q f0 H1⟨z,rest,hm,b9,nU,ym,kL⟩;refine⟨_,rfl,_,rfl,q,bG,z,ls,rfl,nU,gG.jE b9 lg,333,a75⟩
   ·have i0:e97=67:=J6 ai 67;rw[i0]at kL;have kM:791=J5 ls f0 x 67:=by rw[hm];unfold Bx;rw[Bv,ai];rfl
    rw[B61 kL.ex];refine' acx (E:=fun q f1 aB=>∃z rest,791=E5 ls f0 x f1 c69∧e49 H aB∧uj cu aB q z∧q≠a∧m2 K fj t aB a e97) (fun fin=>?c) ?d;case c=>
     refine⟨_,rfl,a,mi,_,rfl,je,oQ,a,t,67,rfl,kL,fun k p qa e=>?_,i77⟩
     ·subst e;exact 554 (k,p) (by rw[kM];rfl) b9
     ·have QS:cf≠a:=914 je lP;rw[D13 (id m4)];obtain⟨fD,jF⟩:=es;refine⟨_,rfl,cf,cu,uo,_,_,rfl,eq2,316,b49,wo,rfl,?_⟩;have gC:29 (515 (n7 jF)=ae.str (iA "$"))=067 67:=by show c34 jF (bV "$")=_;rw[p_,J1 g2 fD ji 14,e]
      rw[gC];have E7:∀f1,f1=067 67→791=E5 ls f0 x f1 (13 f1 n38 67):=fun f1 h=>by rw[h,kM];rfl
      generalize hf:067 67=f1;refine⟨_,rfl,_,rfl,eo 484 484⟩;rotate_left
      ·refine fin cf f1 aB ⟨(fD,jF),ji,?_,829,m4,QS,iZ⟩;have hm:=k04 f1;rw[af]at hm⊢;rw[107]at hm;rw[hm,e]
      ·have ati:m3 (fD,jF) ji=ji:=E6 (s:="$") (r0:=ji) q68 ji;rw[ati]at iZ;have hm:=k04 f1;have kU:n38=ji:=f35;rw[af,101,kU]at hm;obtain⟨oT,wy,cT,nV,_⟩:=id iZ.ex;refine⟨_,rfl,a,oT,_,rfl,nV,oQ,a,t,ji,rfl,iZ,fun k p qa bZ=>?_,fun jC ra a5 eC cp fo wz E9 sM=>?_⟩
       ·subst bZ;exact 554 (k,p) (by rw[hm];rfl) 829
       ·refine fin eC f1 a5 ⟨jC,ra,?_,38 829 fo,E9,?_,sM⟩
        ·rw[hm,af,←cp]
        ·exact 914 nV wz
    case d=>
     rintro eC f1 a5⟨jC,ra,uq,fo,E9,aBJ,sM⟩;have Bz:791=13 (gm "->" [jC]) (Bw ls f0 x f1 ra) (624 (mF [jC])):=by rw[uq];unfold E5;rw[QQ];split<;>rfl
     refine⟨_,rfl,eC,jC,"->",rfl,E9,14,a83,a83⟩
     ·rw[aL,101]at Bz;have atj:m3 jC ra=ra:=207 "->" ra ra;rw[atj]at sM;obtain⟨Pw,aBK,h2,atk,_⟩:=id sM.ex;refine⟨_,rfl,a,Pw,_,rfl,atk,oQ,a,t,ra,rfl,sM,fun k p qa e=>?_,fun t2 E_ bP fz ej p0 I6 QT ur=>?_⟩
      ·subst e;exact 554 (k,p) (by rw[Bz];rfl) fo
      ·refine⟨_,rfl,fz,bG,t2,ls,rfl,QT,gG.jE m77 lg,a75,a75⟩
       ·have atl:m3 t2 E_=E_:=J6 aC E_;rw[atl]at ur;have QU:791=.ok (o46,E_):=q67;have p1:=m77;obtain⟨atm,atn,i7,BA,p4,BB⟩:=id ur.ex;refine⟨_,rfl,_,rfl,_,rfl,_,rfl,fun p dx cR dS d9=>?_⟩;refine⟨p,dx,cY ls o46,rfl,aI,rfl,?_⟩;have s1:aA bP (264 (264 (upd bP dx (.own p)) p CM []) p CM (iE (cY ls o46))):=351 (j85 (117 cR) (117 cR) dS);refine k1 _ E_ QU _ p (p1.trans (b48 s1)) ?_ ⟨dx,aI⟩ ⟨atm,atn,i7,s1 _ _ BA,s1 _ _ p4,BB⟩
        cases e:H p with
         |none=>rfl
         |some o=>
          exfalso;by_cases z:p=a
          ·rw[z]at cR;rw[BA]at cR;cases cR
          ·have:=p1 p o e z;rw[cR]at this;rw[A47]
       ·have:791=839:=q67;exact(554 y 246 m77).c9
     ·rw[aL,107]at Bz;exact(554 _ Bz fo).c9
   ·have:791=839:=by rw[hm];unfold Bx;rw[Bv,aC];rfl
    exact(554 y 246 b9).c9
def yV(s:dt)(z:411)(aD:ei):948 dt:=13 (nT 313 [z]) (13 (8≤303) (624 (5,z.1)) (331 m52 (285 (.ok ({s with moves:=972++[m.1]},m.2))))) (13 (nT 984 [z]) (13 q60 (624 (6,z.1)) (331 a69 (543 (.ok (o43 (some w.1),w.2))))) (13 (nT b51 [z]) (13 s.goal.isSome (624 (6,z.1)) (331 a69 (543 (.ok (o42 (some w.1),w.2))))) (624 (mF [z]))))
def uu(s:dt)(z:411)(aD:ei):948 dt:=331 (yV s z aD) (400 (331 (hX ";" p.2) (k16 (p.1,e))))
theorem J8(s:String)(z:411)(r:ei):nT s (z::r)=nT s [z]:=k96
theorem ato(z:411)(r:ei):E1 (z::r)=E1 [z]:=k96
theorem acB(k:Nat)(s:dt)(z:411)(aD:ei):tv (k+1) s (z::aD)=13 (E1 [z]) (.ok s) (331 (uu s z aD) (400 (tv k p.1 p.2))):=by
 rw[tv,ato z aD,J8 313 z aD,J8 984 z aD,J8 b51 z aD,QP z aD,ate];unfold uu yV
 cases E1 [z]with
  |true=>rfl
  |false=>
   cases nT 313 [z]with
    |true=>
     show(13 (8≤303) _ _)=_;rw[A39 (8≤303)]
     ·rw[114];simp only[114];rfl
     ·rw[125];simp only[125];show _=373 (373 (373 m52))
      cases m52 with|error y=>rfl|ok m=>show(373 e95)=(373 e95);rw[B03 (b08 m.2)]
    |false=>
     cases nT 984 [z]with
      |true=>
       cases h:s.start.isSome with
        |true=>rfl
        |false=>
         show(373 a69)=373 (373 (373 a69))
         cases a69 with|error y=>rfl|ok m=>show e95=373 e95;rw[B03 (b08 m.2)]
      |false=>
       cases nT b51 [z]with
        |true=>
         cases h:s.goal.isSome with
          |true=>rfl
          |false=>
           show(373 a69)=373 (373 (373 a69))
           cases a69 with|error y=>rfl|ok m=>show e95=373 e95;rw[B03 (b08 m.2)]
        |false=>rfl
theorem atp{r:Nat}(e:024=lV t r):False:=by have h:c61 576=00:=157;rw[e,QC]at h;cases h
theorem atq{s:cv}{l:ag}(e:024=nH s l):False:=by have h:c61 304=00:=157;rw[e,mg]at h;cases h
theorem h8.mem{l:ag}{s:cv}(h:h8 CM CS H bG dx l as s)(af:325=360)(ak:754=794):b≠bG∧b≠l:=by rw[B48 (h.cw i b m af ak)];rw[A03 521 (355 e 572)];rw[z,h.at_]at e;rw[A89];injection e with _ _ e;exact atq d14
theorem h8.atr{l f9:ag}{r:Nat}{s:cv}(h:h8 CM CS H bG dx l as s)(aN:H a=710 f9 (lV t r))(af:325=360)(ak:754=794):b≠a:=by obtain⟨d,e⟩:=h.cw i b m af ak;intro z;rw[z,aN]at e;injection e with e;injection e with _ _ e;exact atp d14
theorem h8.read{l f9:ag}{r:Nat}{s:cv}(h:h8 CM CS H bG dx l as s)(aN:H a=710 f9 (lV t r))(n:bG≠a)(b:e49 H H'):h8 CM CS H' bG dx l as s:=⟨b _ _ 673 n,b _ _ 572 (355 572 aN),h.len,fun i c m af ak=>let⟨d,e⟩:=h.cw i c m af ak;⟨d,b _ _ e (h.atr aN af ak)⟩⟩
theorem h8.add{l x:ag}{s:cv}(h:h8 CM CS H bG dx l as s)(ai:oK CM H x m):h8 CM CS (34 H l (317++[881 x])) bG dx l (as++[x]) {s with moves:=972++[m]}:=by
 have nl:bG≠l:=835 572;refine⟨41 nl 673,n56,by rw[cn,cn,h.len];rfl,fun i b y af ak=>?_⟩;have hi:=eI af;rw[cn]at hi;have hi:i<470+1:=hi;by_cases c:i<470
 ·rw[mN c]at af;have ak:(s.moves++[m])[i]?=270:=ak;rw[mN (by rw[←h.len];exact c)]at ak;rw[B48 (h.cw i b y af ak)];exact⟨d,41 (h.mem af ak).2 e⟩
 ·have hg:i=470:=03;subst hg;have ak:(s.moves++[m])[470]?=270:=ak;rw[att]at af;rw[h.len,att]at ak;injection af with af;injection ak with ak;subst af ak;obtain⟨d,e⟩:=ai;exact⟨d,553 e 572 e⟩
theorem h8.put{l:ag}{s s':cv}(h:h8 CM CS H bG dx l as s)(em:s'.moves=972):h8 CM CS (264 H bG CS (nH s' l)) bG dx l as s':=⟨aI,553 572 673 572,by rw[em];exact h.len,k92 (by rw[em]at ak;obtain⟨d,e⟩:=h.cw i b m af ak;exact⟨d,41 (h.mem af ak).1 e⟩)⟩
theorem atu{E F:855}(h:(∀H,E H→F H)→G)(f:∀H,E H→F H):G:=h f
theorem m1.mono{C:ag}{S E0:92 ag}{H:av}{E:bD}{z:916}(h:m1 C E0 H E z)(m:∀b,S b→E0 b):m1 C S H E z:=fun d H' b e=>h d H' (b.mono m) e
abbrev acC:bK:=bA 0x56
theorem acD:31 [577,738,35] [577,738,35] acC:=⟨rfl,rfl,rfl,05,rfl,05,05⟩
inductive QV(K:bo)(fj:ag)(cu:ag)(CS:ag)(CM:ag)(ck:ag)(vs:08)(H:av)(Q:aW)(E:bD):04|mk:∀(a q bG t dx l:ag)(as:27)(z:411)(aD:ei)(s:dt),vs=[37,a99,h03]→uj cu H q z→m2 K fj t H a aD→h8 CM CS H bG dx l as 26→bG≠a→l≠t→303≤8→(∀s' rest,uu s z aD=k11 s'→∀H' as',fN (506 (b=a∨b=bG∨b=l)) H H'→h8 CM CS H' bG dx l as' (bh s')→m2 K fj t H' a 67→909)→(∀y,uu s z aD=839→m1 ck (506 (b=a∨b=bG∨b=l)) H E y)→QV K fj cu CS CM ck vs H Q E
theorem atv(D:cq K ah o37 acC [577,738,35] f fd)(O:443)(dN:sJ K cu)(M:yS K fj)(bJ:268)(Z:wq P w K ah 02 ck fI q9)(atw:220 "MOST_MOVES" 8)(atx:220 "NINTH_MOVE" 5)(acE:220 "SAID_TWICE" 6)(j3:jb P w K ah 02 299 5 fj f33 251 (Bs K fj cu ck))(wu:Pr P w K ah 02 299 4 k95 g15 (J3 cu CS ck))(uk:Pr P w K ah 02 299 4 h81 c06 (E3 cu ck))(oR:Pr P w K ah 02 299 3 f34 a43 (Bu cu ck))(QW:Pr P w K ah 02 299 6 o45 [577,35] (QR K fj cu CS CM ck)):Pr P w K ah 02 299 7 o37 [577,738,35] (QV K fj cu CS CM ck):=by
 refine 038 acD
 ·obtain⟨a,q,bG,t,dx,l,as,z,aD,s,rfl,_⟩:=h;rfl
 ·obtain⟨a,q,bG,t,dx,l,as,z,aD,s,rfl,tk,bR,aY,lg,QX,mx,k1,k2⟩:=h;have S:=acD;rw[A01 (434 (bX (bM fv 358 fl (bO _)) (434 (bX (bM fv (d6 (hO K rfl) 66 O.len eJ (78 646)) (dq atw) (bO _)) (aM (uh Z.M Z.F 22 Z.b Z.m (c40 atx 358))) b2) (fK (hD K rfl h9 sD sE qQ 646 (78 (bj QW 22 ha (461 0 2)))))) (aM (bX (bM fv 358 fl (bO _)) (434 (bX (bM tK 646 et (bO _)) (aM (uh Z.M Z.F 22 Z.b Z.m (c40 acE 358))) b2) (fS 45 (bj wu 22 ha (aj 862 698)) rfl)) (aM (bX (bM fv 358 fl (bO _)) (434 (bX (bM tK 646 et (bO _)) (aM (uh Z.M Z.F 22 Z.b Z.m (c40 acE 358))) b2) (fS 45 (bj wu 22 ha (aj 862 698)) rfl)) (aM (026 oR 296))))))) (026 uk (258 862 fl)))];obtain⟨g,f9,um,aw⟩:=id tk;rw[A82];obtain⟨By,acA,r0,q_,acF,_⟩:=id bR.ex;have aty:l≠a:=355 301 q_;have QY:l≠bG:=355 301 84;have sub:∀b,b=a→(b=a∨b=bG∨b=l):=h80 a65;have QZ:yU CS H bG 60:=⟨dx,_,84,mg⟩;refine' atu (E:=fun H1=>∃s1 rest,yV s 494 aD=k11 s1∧fN (506 (b=a∨b=bG∨b=l)) H H1∧(∃EN,h8 CM CS H1 bG dx l EN (bh s1))∧m2 K fj t H1 a 67) m54 ?b;case a=>
   have bad:∀y,yV s 494 aD=839→m1 ck (506 (b=a∨b=bG∨b=l)) H E y:=fun y h=>k2 y (by unfold uu;rw[h];rfl);refine⟨_,rfl,q,cu,f9,_,_,rfl,aw,316,983,sL,rfl,_,rfl,?_⟩;show 616 (b76 (jh k) (bV 313));rw[p_,J2 g p [] 14];unfold yV at bad fin;generalize nT 313 [494]=fA at bad fin;refine eo 484 484
   ·subst af;rw[C40];refine⟨_,rfl,bG,CS,dx,_,_,rfl,84,80,471,kE,l,_,rfl,306 301,rfl,_,rfl,?_⟩;have c4:11 317=303:=o44 (ba ..);rw[c4];refine 359
    ·have h':303=8:=by have:=104;injection this;lia
     rw[118]at bad;exact⟨_,rfl,q,cu,f9,_,_,rfl,aw,316,090,ui,_,_,rfl,(bad _ rfl).c9⟩
    ·have h':¬8≤303:=152 (b27 (show 303=8 by lia));rw[23 h']at bad fin;refine⟨_,rfl,bG,CS,dx,_,_,rfl,84,80,471,kE,329 301,_,rfl,_,rfl,a,bG,t,aD,60,rfl,bR,QZ,lg,fun m rest e H1 x b9 ai atz kL=>?_,k81 ((bad y f35).mono sub)⟩;have oU:=aY.read q_ lg b9;obtain⟨mi,E8,bU,je,wA,atA⟩:=id kL.ex;refine⟨l,_,_,rfl,rfl,oU.lst,by rw[c4];exact jN (show 303<9 by lia) 14,?_⟩;refine fin _ ⟨_,67,f35,m83 (b9.mono sub) (.inr e69),328 (as++[x]),⟨mi,E8,bU,41 aty.symm je,41 QX.symm wA,atA⟩⟩;have:=oU.add atz;rw[show bh {s with moves:=972++[m]}={26 with moves:=(26).moves++[852]}by unfold bh;simp];rw[A10]
   ·subst af;rw[C39];refine⟨_,rfl,q,cu,f9,_,_,rfl,aw,316,983,sL,rfl,_,rfl,?_⟩;show 616 (b76 (jh k) d44);rw[p_,J2 g p [] 14];generalize nT 984 [494]=aBL at bad fin;refine eo 484 484
    ·subst af;rw[C40];refine⟨_,rfl,bG,CS,dx,_,_,rfl,84,80,879,tV,rfl,_,rfl,?_⟩
     cases aL:s.start with
      |some u=>rw[aL]at bad;rw[show b91=some b02 by unfold bh;rw[aL];rfl];exact c8 ⟨_,rfl,q,cu,f9,_,_,rfl,aw,316,090,ui,_,_,rfl,(bad _ rfl).c9⟩
      |none=>
       rw[aL]at bad fin;rw[D18];rw[show b91=00 by unfold bh;rw[aL];rfl];rw[A21 ⟨_,rfl,a,By,_,rfl,q_,oQ,a,t,aD,rfl,bR,c12,i77⟩]
       ·subst e;exact(bad (n,p) rfl).mono sub
       ·have uv:=aY.read q_ lg dj;rw[e,Bv]at bad fin;refine⟨_,rfl,cf,bG,es,60,rfl,m4,QZ.jE dj lg,333,a75⟩
        ·rw[J6 ai]at iZ;rw[B59 iZ.ex];have Q0:t≠bG:=355 m5 h36;refine⟨_,rfl,bG,CS,dx,_,rfl,h36,80,879,298 4,?_⟩;refine fin _ ⟨_,ji,by rw[ai];rfl,m83 d69 (.inr 253),328 as,⟨oT,wy,cT,41 lg.symm nV,41 Q0 m5,c1⟩⟩;exact uv.put (s':=bh (o43 43)) rfl
        ·exact((bad y (by rw[aC];rfl)).step d69).c9
    ·subst af;rw[C39];refine⟨_,rfl,q,cu,f9,_,_,rfl,aw,316,983,sL,rfl,_,rfl,?_⟩;show 616 (b76 (jh k) 006);rw[p_,J2 g p [] 14];generalize nT b51 [494]=aBM at bad fin;refine eo 484 484
     ·subst af;rw[C40];refine⟨_,rfl,bG,CS,dx,_,_,rfl,84,80,969,tW,rfl,_,rfl,?_⟩
      cases aL:s.goal with
       |some u=>rw[aL]at bad;rw[show b99=some b02 by unfold bh;rw[aL];rfl];exact c8 ⟨_,rfl,q,cu,f9,_,_,rfl,aw,316,090,ui,_,_,rfl,(bad _ rfl).c9⟩
       |none=>
        rw[aL]at bad fin;rw[D18];rw[show b99=00 by unfold bh;rw[aL];rfl];rw[A21 ⟨_,rfl,a,By,_,rfl,q_,oQ,a,t,aD,rfl,bR,c12,i77⟩]
        ·subst e;exact(bad (n,p) rfl).mono sub
        ·have uv:=aY.read q_ lg dj;rw[e,Bv]at bad fin;refine⟨_,rfl,cf,bG,es,60,rfl,m4,QZ.jE dj lg,333,a75⟩
         ·rw[J6 ai]at iZ;rw[B59 iZ.ex];have Q0:t≠bG:=355 m5 h36;refine⟨_,rfl,bG,CS,dx,_,rfl,h36,80,969,298 4,?_⟩;refine fin _ ⟨_,ji,by rw[ai];rfl,m83 d69 (.inr 253),328 as,⟨oT,wy,cT,41 lg.symm nV,41 Q0 m5,c1⟩⟩;exact uv.put (s':=bh (o42 43)) rfl
         ·exact((bad y (by rw[aC];rfl)).step d69).c9
     ·subst af;rw[C39];exact⟨_,rfl,q,494,rfl,tk,(bad _ rfl).c9⟩
  case b=>
   rintro H1⟨s1,rest,ar,b9,⟨EN,oU⟩,kL⟩;rw[B61 kL.ex];have ax:uu s 494 aD=331 (hX ";" 67) (k16 (s1,e)):=by unfold uu;rw[ar];rfl
   refine⟨_,rfl,a,mi,_,rfl,je,oQ,a,t,67,rfl,kL,c12,i77⟩
   ·subst e;exact(554 (n,p) (by rw[ax];rfl) b9).mono sub
   ·rw[e,QQ]at ax;refine⟨cf,es,";",rfl,m4,14,a83,a83⟩
    ·rw[aL,101]at ax;rw[207 ";" ji ji]at iZ;exact k1 s1 ji ax aB EN (h83 d69) (oU.read je lg dj) iZ
    ·rw[aL,107]at ax;exact(554 _ ax (h83 d69)).c9
def met{α:272}[i95](f:240 α):240 40|0=>[]|i+1=>13 (f i∈949) 949 (f i::949)
theorem Q1{α:272}[i95](f:240 α):∀i,11 949≤i
 |0=>cL 0
 |i+1=>by
  have:=Q1 f i;unfold met;split
  ·lia
  ·rw[dR];lia
theorem Q2{α:272}[i95](f:240 α)(x:α):∀i,x∈949↔∃j,j<i∧f j=x
 |0=>⟨312 b68,fun⟨j,h,_⟩=>(03)⟩
 |i+1=>by
  have ih:=Q2 f x i;have:x∈met f (i+1)↔(x∈949∨x=f i):=by
   conv=>lhs;unfold met
   split
   ·next h=>exact⟨.inl,j53 id (100 (by rw[e];exact h))⟩
   ·rw[ed];exact Or.comm
  rw[this,ih];rw[A04]
  ·rintro(⟨j,h,e⟩|e)
   ·exact⟨j,03,e⟩
   ·exact⟨i,03,d14⟩
  ·rintro⟨j,h,e⟩;by_cases z:j=i
   ·subst z;rw[A09 d14]
   ·rw[A17 ⟨j,03,e⟩]
theorem acG{α:272}[i95](f:240 α):∀i,11 949=i↔∀a b,a<b→b<i→f a≠f b
 |0=>⟨fun _ _ _ _ h=>03,524⟩
 |i+1=>by
  have ih:=acG f i;have l:=Q1 f i;conv=>lhs;unfold met
  split
  ·next h=>obtain⟨j,bS,e⟩:=(Q2 f _ i).mp h;exact⟨16 03,16 (69 e (z j i bS 03))⟩
  ·next h=>
   rw[dR];rw[A04]
   ·intro z a b tf aa e;have j9:11 949=i:=03;by_cases c:b=i
    ·subst c;exact h ((Q2 f _ _).mpr ⟨a,tf,e⟩)
    ·exact ih.mp j9 a b tf 03 e
   ·intro z;have:=ih.mpr (fun a b tf aa=>z a b tf 03);lia
section
variable{fu:ag}{wr:27}{G:j92→92 j92}{T:Nat→92 aH}{bq:455 Nat}
def qb(P:f3)(w:ff)(h:dk)(z:ag)(l:221):04:=h.SetOf (strKind P w) z (450 (a44 k l)) 63
theorem qb.keep{z:ag}{l:221}(x:qb P w h z l)(k:∀o,558 z→b81 z):qb P w h' z l:=let⟨o,aR,c0,t,e,r⟩:=x;⟨o,aR,c0,t,k o e,r⟩
theorem atD(W:WalksS P w 502 fu df wr G n T bq)(z:ag)(eZ:z∉df)(f:240 Str)(hf:∀i v,T i v→∃t,v=.str (f i) t)(aa:n+1<yW):∀(d i:Nat)(s:aZ),n-i=d→i≤n→bq i s→qb P w 28 z 949→(∀s',Moved (z::wr) G s s'→qb P w 542 z (met f n)→R (.ok (.ret 87)) s')→qI 289 A (n23 "set.update.loop" [344,.ref fu]) R s:=by
 intro d
 induction d with
  |zero=>rw[D17];rw[A50 (i=n)];subst e;have nw:z∉wr:=72 (eZ (W.sub _ x));refine BC q66 ?_;rw[Fb o41 _];rw[A00 (W.done s _ _ st (fun s1 cw=>?_))];exact cx (q s1 (cw.mono (290 (d4 _))) (hz.keep (737 (cw.heap z o nw))))
  |succ d ih=>
   rw[D17];have lt:i<n:=03;have nw:z∉wr:=72 (eZ (W.sub _ x));refine BC q66 ?_;rw[Fb o41 _];rw[A00 (W.item i s _ _ lt st (fun v s1 h5 Q3 cw=>?_))];rw[B44 (hf i v h5)];have nW:=hz.keep (737 (cw.heap z o nw));rw[A99 ?_];unfold setAdd;refine oz ?_;rw[A00 ((strKind P w).pyHash (k:=f i) (strKind_is _ _ _ _) ?_)];have room:=Q1 f i;refine wpAny_setAddHashed_of (knd:=strKind P w) (strKind_is _ _ _ _) rfl nW 03 (fun ak eX mZ=>?_);have EO:qb P w ak z (met f (i+1)):=by
    refine SetOf_congr mZ 046 ?_
    ·rw[hu,Gl,decide_eq_true_eq,decide_eq_true_eq,decide_eq_true_eq];conv=>rhs;unfold met
     split
     ·next y=>exact⟨72 (x.elim id (100 (by rw[e];exact y))),.inl⟩
     ·rw[ed];exact Or.comm
    ·conv=>rhs;unfold met
     by_cases y:f i∈949
     ·rw[21 y,21 (102 y)]
     ·rw[23 y,23 (c99 (113 y))];rfl
   refine cx ⟨yX o41 _,ih (i+1) _ 03 lt (W.frame _ s1 _ _ Q3 163 (fun b Q4 o e=>?_)) EO (fun s2 atE Q5=>?_)⟩
   ·rw[eX.2 b (fun x:b=z=>eZ (x▸Q4))];exact e
   ·refine q s2 (Moved.trans W.gtrans ((cw.mono (290 (d4 _))).then_heap 163 (fun b o Q4 e=>?_)) atE) Q5;rw[eX.2 b (fun x:b=z=>Q4 (by rw[x];exact dO))];exact e
theorem aAR:isSubtype (401 091) d76=910:=h79
theorem atF:isSubtype (401 091) (401 "frozenset")=910:=h79
abbrev J9(b:Bool):Obj:=q65 d76 (.set #[] 0 (.fresh 0 0 b))
theorem atG{s:aZ}{atH:489}{t:Tok}{Q:592}(dh:595)(aa:570+1<yW)(z:ag)(lt:z<18)(hz:qb P w 28 z [])(q:q64 (qb P w af z (met (g74 i 0) 570)→(300 b00 (b≠z→346→c59 b))→Q () o40)):a9 289 A (vy 857) (fun a s1=>a9 289 A (do
 let _←runValue (Code.builtin "set.update.loop" ⟨[.ref z,a],[]⟩)
 pure ()) Q atH s1) E s:=by
 refine wpAny_pyIter_str (fun o bq W st=>?_);rw[A00 (wpAny_runValue ?_)];have a6:A.in1.handled=00:=o28;refine atD (W 502 a6).toS z n47 (g74 i 0) (fun i v y=>?_) aa _ 0 _ rfl 229 st (hz.keep (fun dr e=>130)) (fun s2 cw mZ=>?_)
 ·rw[86 y]at lt;exact kV _ lt
 ·obtain⟨c,u,e,rfl⟩:=y;exact⟨u,by simp[atJ,e]⟩
 ·obtain⟨af,g1,jW,nU,v5⟩:=s2;have aK:g1=d15:=cw.gens;have aG:jW=h82:=cw.drawn;have cp:v5=s.os:=cw.os;subst aK aG cp;refine cx (q af nU mZ (fun b dr lN nb e=>cw.heap b dr n47 130));rcases 569 y with y|y
  ·exact nb y
  ·rw[86 y]at lN;exact kV _ lN
theorem atL{s:aZ}{t:Tok}(dh:595)(aa:570+1<yW)(q:q64 (qb P w af 18 (met (g74 i 0) 570)→(300 b00 (346→c59 b))→Q 277 o40)):a9 289 A (kZ d76 [857]) Q E s:=by
 obtain⟨c,c5,aBN⟩:=F.called_set.mro;have fA:=F.called_set.made;have kd:=F.called_set.sub;have iY:=F.called_set.notType;have nI:=F.called_set.canCreate;have aBO:=F.typeCall_set_1 857;refine HK (codeAny_of_tree (cx ⟨Code.quiet_builtin _ 05,BC F.entry_type_call ?_⟩));rw[Around.under_plain (weight_type_call_type b30 [857] []) rfl];repeat(any_goals(first|rw[A34]|wp_step))
 refine x5 (code_set_new_1 857 (E:=E) (Q₁:=h78 (∃b,v=277∧s1=621 (581 (J9 b)))) (506 (714 b rfl))) (fun r s1 aq=>?_)
 cases r with
  |error e=>exact aq
  |ok c9=>
   cases c9 with
    |ret v=>
     obtain⟨b,rfl,rfl⟩:=aq;have n8:(581 (J9 b)).get? 18=some (J9 b):=111;have ty:atM (621 (581 (J9 b))) 277 b30:=445 n8;have aBP:=F.called_set.init.lookup;have aBQ:=F.called_set.init.bind 277;repeat(any_goals(first|rw[A34]|wp_step))
     refine x5 (abI (R:=wants (fun r s2=>r=.none∧∃af tk,s2=o40∧qb P w af 18 (met (g74 i 0) 570)∧(300 b00 (346→c59 b))) E) F.called_set.init.plain F.entry_set_init (check_set_init_1 ty ?_)) (fun cT s2 c1=>?_)
     ·have jW:=aAR;have iC:=atF;have wk:(vm 091==vm 535)=09:=14;unfold Builtin.«set.__init__» noKeywords aBR;generalize iI:vy=pi;wp_walk;subst iI;have a6:A.in1.in1.handled=00:=o28;refine atG a6 aa 18 (by rw[kz];exact zI _) ?_ n28
      ·exact SetOf_congr ((setObjOf_fresh (knd:=strKind P w) b).setOf n8 n99) 524 rfl
      ·refine cx ⟨rfl,af,tk,rfl,y,fun tN o lt e=>fC tN o (by rw[kz];lia) (fk lt) 130⟩
     ·cases cT with
      |error e=>exact c1
      |ok atN=>
       cases atN with
        |ret r=>
         obtain⟨rfl,af,tk,rfl,y,fC⟩:=c1;repeat(any_goals(first|rw[A34]|wp_step))
         exact q _ _ y fC
        |_=>exact c1.elim
    |_=>exact aq.elim
end
def J_(P:f3)(w:ff)(a:ag)(l:221):dz:=j65 (qb P w h a l)
def Fc(x:Str):221:=met (g74 i 0) 570
theorem atO(L:06):11 (Fc (aP L))=k94↔L.Nodup:=by
 have e:(aP L).cps.size=k94:=by have:m69 L=L:=rfl;rw[←Dc,this]
 have g:∀i,(aP L).cps.getD i 0=L.getD i 0:=425 (by have:(aP L).cps=L.toArray:=rfl;rw[this];simp[atJ,cZ]);have lT:∀(i:Nat)(h:i<k94),L.getD i 0=L[i]:=619 (165 h);unfold Fc;rw[e,acG];have inj:∀a b:Nat,(001 a:Str)=001 b↔a=b:=578 ⟨312 (by injection h with h;injection h with h;injection h),312 (by rw[h])⟩;rw[A04]
 ·intro h;rw[Fd,atP];intro i j hi bS MF z;refine h i j MF bS ((inj _ _).mpr ?_);rw[g,g,lT _ hi,lT _ bS,z]
 ·intro h a b tf aa z;rw[Fd,atP]at h;have j9:=(inj _ _).mp z;have aN:a<k94:=03;rw[g,g,lT _ aN,lT _ aa]at j9;exact h a b aN aa tf j9
theorem atQ(P:f3)(w:ff)(dH:61=P)(hw:X.w=w)(ar:394:=by rfl):iy X d76 (k64 (∃z:Str,xs=[930]∧z.cps.size<1000∧∀l,H l=00→514 l (upd H l (J_ P w l (Fc z))))):=by
 rw[A60];subst dH hw;rw[C38];rw[B36 r];refine atL 408 n99 n28;refine⟨277,_,f92 tk (351 (fC b o 105 e)) (JQ y ?_ ?_),rfl,q _ 683⟩
 ·obtain⟨o,_,_,_,e,_⟩:=y;exact⟨o,e⟩
 ·exact fun af ak a k=>qb.keep a k
theorem atR(P:f3)(w:ff)(dH:61=P)(hw:X.w=w):g77 (k64 (∃p l,xs=717∧H p=some (J_ P w p l)∧662 63)):=by
 rw[A60];subst dH hw;obtain⟨p,l,rfl,au,q⟩:=h;rw[B08 r];rw[A07];obtain⟨y,_,_⟩:=613 p au;obtain⟨o,aR,c0,tb,a8,hex,hd,_,_,aa,hf,aU⟩:=y;have e:52 d03=15 63:=by rw[aU]
 refine call_len_set a8 hex hd hf q12 ⟨.int 63,H,(279).tok _,404 f21,q⟩
def acH(z:411):f70 06:=13 (E2 z.2) (13 (xx g72&&29 (11 g72≤4)) (.ok g72) (624 (2,z.1))) (624 (mF [z]))
def BD(ls:06)(aD:ei):948 06:=331 (hX ";" aD) (k16 (ls,e))
def BE(aD:ei):948 06:=331 (G5 aD) (973 (BD l.1 l.2))
def Fe(aD:ei):948 06:=331 (CZ 304 aD) BE
theorem atU(z:411)(r:ei):G5 (z::r)=331 (acH z) (973 (.ok (l,r))):=by
 rw[A82]
 cases k with|word w=>show(39 (xx w&&555 218 4) _ _)=G4 (616 (xx w&&555 218 4)) _;split<;>rfl|over=>rfl|sign u=>rfl|bad n=>rfl
theorem atV(s:String)(z:411)(r:ei):CZ s (z::r)=13 (nT s [z]) (.ok r) (624 (mF [z])):=by unfold CZ;rw[J8,QP];rfl
theorem atW{s:String}(h:nT s [z]=01)(r:ei):m3 z r=r:=by
 rw[A82]
 cases k with|over=>cases h|word w=>rfl|sign u=>rfl|bad n=>rfl
theorem atX(h:E2 z.2=01)(r:ei):m3 z r=r:=by
 rw[A82]
 cases k with|over=>cases h|word w=>rfl|sign u=>rfl|bad n=>rfl
abbrev acI:bK:=bA 0x55
theorem acJ:31 [577,738] [577] acI:=⟨rfl,rfl,rfl,05,rfl,05,05⟩
inductive Q6(K:bo)(fj:ag)(ck:ag)(vs:08)(H:av)(Q:aW)(E:bD):04|mk:q63 (vs=254→m2 K fj t H a aD→(∀ls rest,Fe aD=k11 ls→∀H',e49 H H'→m2 K fj t H' a 67→a87 ls H')→(∀y,Fe aD=839→m1 ck (·=a) H E y)→Q6 K fj ck vs H Q E)
theorem atY(D:cq K ah o38 acI [577] f fd)(O:JV ah)(dN:sJ K cu)(M:yS K fj)(Z:wq P w K ah 02 ck fI q9)(atZ:220 q62 4)(QI:220 o39 2)(j3:jb P w K ah 02 299 5 fj f33 251 (Bs K fj cu ck))(uk:Pr P w K ah 02 299 4 h81 c06 (E3 cu ck))(oR:Pr P w K ah 02 299 3 f34 a43 (Bu cu ck)):Pr P w K ah 02 299 6 o38 [577] (Q6 K fj ck):=by
 refine 038 acJ
 ·rw[D16];rfl
 ·obtain⟨a,t,aD,rfl,bR,k1,k2⟩:=h;have S:=acJ;rw[A01 (90 1 862 (bX (bM k4 358 fl (bO _)) (aM (026 oR 296)) b2) (90 1 862 (bX (bM k4 358 fl (bO _)) (aM (026 oR 296)) b2) (516 (bX (rX (bM oA (064 358) (dq atZ) (bO _)) (rW (bM k4 (d6 (atR P w rfl rfl) 66 O.len eJ (78 (l_ (atQ P w rfl rfl) 66 O.set boot_set (78 358)))) (064 358) (bO _)))).pt (aM (uh Z.M Z.F 22 Z.b Z.m (c40 QI 358))) b2) (026 uk (258 862 fl)) 358)))];rw[D15 (id bR.ex)];refine⟨_,rfl,a,By,_,rfl,q_,oQ,a,t,aD,rfl,bR,c12,q61 ?_⟩
  ·subst e;exact k2 (n,p) rfl
  ·unfold Fe at k1 k2;rw[e,atV]at k1 k2;rw[D14 (id nU)];obtain⟨fW,wx⟩:=z;refine⟨_,rfl,q,cu,f9,_,_,rfl,eq1,316,983,sL,rfl,_,rfl,?_⟩;show 616 (! b76 (jh wx) (bV 304));rw[p_,J2 g1 fW [] 14]
   cases hw:nT 304 [(fW,wx)]with
    |false=>rw[hw,107]at k2;exact c8 ⟨_,rfl,q,(fW,wx),rfl,nU,(554 _ rfl b9).c9⟩
    |true=>
     rw[hw,101]at k1 k2;rw[atW hw]at kL;rw[B61 kL.ex];rw[A21 ⟨_,rfl,a,mi,_,rfl,je,oQ,a,t,67,rfl,kL,c12,fun z ji aB cf e dj lP m4 iZ=>?_⟩]
     ·subst e;exact 554 (n,p) rfl b9
     ·have k1:∀ls dF,BE 67=.ok (ls,dF)→_:=k1;have k2:∀y,BE 67=839→_:=k2;unfold BE at k1 k2;rw[e,atU]at k1 k2;unfold acH at k1 k2;have BF:=829;rw[D13 (id m4)];obtain⟨fD,jF⟩:=z;refine⟨_,rfl,cf,cu,uo,_,_,rfl,eq2,316,b49,wo,rfl,_,rfl,?_⟩;show 616 (! c34 jF 640);rw[p_,acm g2]
      cases hw:E2 jF with
       |false=>rw[hw,107]at k2;exact c8 ⟨_,rfl,cf,(fD,jF),rfl,m4,(554 _ rfl BF).c9⟩
       |true=>
        rw[hw,101]at k1 k2;rw[atX hw]at iZ;have acK:156 702:=by cases jF with|word w=>exact g2.2.1|over=>exact 229|sign u=>exact 229|bad n=>exact 229
        rw[A21 ⟨_,rfl,cf,cu,uo,_,_,rfl,eq2,316,983,sL,_,rfl,?_,?_⟩]
        ·rw[dB];rw[A37 acK]
        refine⟨_,_,rfl,rfl,_,rfl,?_⟩;rw[dB];refine eb (fun bH=>?_) (fun bH=>?_)
        ·have bH:15 4<320 702:=121 bH;rw[23 (by rw[113 (show¬11 702≤4 by lia),Am];decide)]at k2;exact c8 ⟨_,rfl,cf,cu,uo,_,_,rfl,eq2,316,090,ui,_,_,rfl,(554 _ rfl BF).c9⟩
        ·have bH:11 702≤4:=by refine Nat.le_of_not_lt (16 (bH (102 ?_)));show 15 4<320 702;lia
         refine⟨_,rfl,cf,cu,uo,_,_,rfl,eq2,316,983,sL,_,rfl,?_,k23⟩
         ·show n68 702<1000;rw[gu];lia
         have s3:aA aB (upd aB l (J_ P w l (Fc (aP 702)))):=422 ax;have Ka:=BF.trans (b48 s3);have eq3:=83 eq2;refine⟨l,_,rfl,aI,_,rfl,cf,cu,uo,_,_,rfl,eq3,316,983,sL,_,rfl,?_,rfl,_,rfl,?_⟩
         ·rw[dB];rw[A37 acK]
         rw[dB];have rb:=atO 702;refine eb (fun aU=>?_) (fun aU=>?_)
         ·have nn:¬667 702:=16 (by rw[rb.mpr z]at aU;simp at aU);rw[23 (by intro z;rw[hG]at z;exact nn (MG z.1))]at k2;exact⟨_,rfl,cf,cu,uo,_,_,rfl,eq3,316,090,ui,_,_,rfl,(554 _ rfl Ka).c9⟩
         ·have nn:667 702:=rb.mp (by refine nk (16 (aU ?_));simp;exact 131 (z (acL y)));rw[21 (by rw[VW nn,102 bH];rfl)]at k1 k2;have k1:∀ls dF,BD 702 ji=.ok (ls,dF)→_:=k1;have k2:∀y,BD 702 ji=839→_:=k2;unfold BD at k1 k2;rw[B59 iZ.ex];have sM:m2 K fj t (upd aB l (J_ P w l (Fc (aP 702)))) a ji:=⟨oT,wy,cT,83 nV,83 m5,c1⟩;have QS:cf≠a:=914 je lP;refine⟨_,rfl,a,oT,_,rfl,83 nV,oQ,a,t,ji,rfl,sM,c12,fun jC ra a5 eC e fo wz E9 ur=>?_⟩
          ·subst e;exact 554 (n,p) rfl Ka
          ·rw[e,QQ]at k1 k2;refine⟨eC,jC,";",rfl,E9,14,a83,a83⟩
           ·rw[aL,101]at k1;rw[207 ";" ra ra]at ur;exact⟨_,rfl,cf,cu,uo,_,_,rfl,fo _ _ eq3 QS,316,983,sL,k1 _ _ rfl a5 (Ka.trans fo) ur⟩
           ·rw[aL,107]at k2;exact(554 _ rfl (Ka.trans fo)).c9
def Kb(ls:06):dt:={letters:=ls,moves:=[],start:=none,goal:=none}
def Q7(ls:06)(aD:ei):f70 dt:=tv (VU+4) (Kb ls) aD
theorem acM(ls:06)(aD:ei):Q7 ls aD=tv (0xb+1) (Kb ls) aD:=by unfold Q7;rw[108 (VU+4) (0xb+1)]
def Q8(aD:ei):f70 dt:=331 (Fe aD) (973 (Q7 l.1 l.2))
theorem at0(bI:06):xy bI=Q8 (kr bI 0):=by
 show 373 (CZ 304 (kr bI 0))=_;unfold Q8 Fe
 cases CZ 304 (kr bI 0)with
  |error y=>rfl
  |ok r=>
   show 373 (G5 r)=373 (BE r);unfold BE
   cases G5 r with|error y=>rfl|ok l=>show 331 (hX ";" l.2) _=373 (BD l.1 l.2);unfold BD;rw[B03 (b08 l.2)]
theorem acN(a:α)(f:α→g81 β):331 (px a) f=f a:=rfl
theorem acO(e:od)(f:α→g81 β):(tu e:g81 α).bind f=c02:=rfl
theorem acP(k:Nat)(s:dt)(p n:Nat)(r:ei):tv (k+1) s ((p,.bad n)::r)=624 (n,p):=by rw[acB];rfl
def slots(s:dt):Nat:=(8-303)+(13 q60 0 1)+(13 s.goal.isSome 0 1)
theorem Ff{x:g81 α}{f:α→g81 β}{y:β}(h:x.bind f=.ok y):∃a,x=.ok a∧f a=.ok y:=by cases x with|error e=>cases h|ok a=>rw[A44 a h]
theorem at3{aD:ei}{r:ei}(h:yV s z aD=.ok (s',r))(mx:303≤8):slots s'+1≤slots s∧q59≤8:=by
 unfold yV at h;rw[A18]
 ·rw[A18]
  ·cases h
  ·next hm=>rw[C14 h];cases e;unfold slots;simp only[cn,dR,l4];exact⟨03,03⟩
 ·rw[A18]
  ·rw[A18]
   ·cases h
   ·next hm=>rw[C14 h];cases e;unfold slots;rw[23 hm];simp only[Oc,if_true];exact⟨03,mx⟩
  ·rw[A18]
   ·rw[A18]
    ·cases h
    ·next hm=>rw[C14 h];cases e;unfold slots;rw[23 hm];simp only[Oc,if_true];exact⟨03,mx⟩
   ·cases h
theorem at5{aD:ei}{r:ei}(h:uu s z aD=.ok (s',r))(mx:303≤8):slots s'+1≤slots s∧q59≤8:=by unfold uu at h;obtain⟨⟨s1,bU⟩,aK,h⟩:=Ff h;obtain⟨e,_,h⟩:=Ff h;cases h;exact at3 aK mx
theorem nS.opened{E:bD}{y:916}(h:nS C H E y.1 y.2)(s:c78)(n:∀b,S b→H b=00):m1 C S H1 E y:=fun d H' b e=>h d H' (fun c o q=>b c o (s c o q) (16 (q58 (n c z)))) e
theorem fN.Kc(s:c78)(n:∀b,S b→H b=00)(b:fN S H1 aB):aA H aB:=fun c o q=>b c o (s c o q) (16 (q58 (n c z)))
abbrev acQ:bK:=bA 0x54
theorem acR:31 [576,577,35,738] 840 acQ:=⟨rfl,rfl,rfl,05,rfl,05,05⟩
inductive Q9(CM:ag)(CS:ag)(ck:ag)(vs:08)(H:av)(Q:aW)(E:bD):04|mk:∀(t:ag)(bI:06),vs=[784]→H t=79 a36→353≤5000→(∀s,xy bI=.ok s→∀H' bG,49→H bG=00→dK CM CS H' bG 26→435 bG)→(∀y,xy bI=839→nS ck H E y.1 y.2)→Q9 CM CS ck vs H Q E
theorem at6(D:cq K ah o36 acQ 840 f fd)(dN:sJ K cu)(M:yS K fj)(j3:jb P w K ah 02 299 5 fj f33 251 (Bs K fj cu ck))(at7:mf P w K ah 02 aO 1 fj "Tokens" j16 (QD fj))(Q_:mf P w K ah 02 aO 1 CS "System" g13 (Jo CM CS))(Ra:Pr P w K ah 02 299 6 o38 [577] (Q6 K fj ck))(Rb:Pr P w K ah 02 299 7 o37 [577,738,35] (QV K fj cu CS CM ck)):Pr P w K ah 02 299 8 o36 840 (Q9 CM CS ck):=by
 refine 038 acR
 ·obtain⟨t,bI,rfl,_⟩:=h;rfl
 ·obtain⟨t,bI,rfl,bk,fX,k1,k2⟩:=h;have S:=acR;rw[A01 (90 1 (pU at7 22 bb 029) (94 2 (pU Q_ 22 bb (78 (bj Ra 22 ha 296)))) (389 3 (gv j3 20 22 ha 62) (tI Qr (bM k4 842 fl (bO _)) (434 (026 Rb (77 1 3 698)) (94 3 (gv j3 20 22 ha 62)))) 45))];rw[at0]at k1 k2;unfold Q8 at k1 k2;refine 123 (fun a dx aN yY abM=>⟨a,dx,t,rfl,aI,rfl,?_⟩);have s1:aA H (264 (264 (upd H dx m09) a fj []) a fj (lV t 0)):=351 (j85 (117 aN) (117 aN) yY);generalize wB:264 (264 (upd H dx m09) a fj []) a fj (lV t 0)=H1 at s1⊢;have je:H1 a=482 fj (lV t 0):=by rw[←wB];exact aI
  have kL:m2 K fj t H1 a (kr bI 0):=⟨dx,bI,0,je,s1 _ _ bk,229,fX,rfl⟩;have BG:∀b,b=a→H b=00:=h80 (by rw[h];exact aN);refine⟨_,rfl,a,t,_,rfl,kL,fun ls rest e aB dj iZ=>?_,k81 ?_⟩
  ·rw[e]at k1 k2;rw[acN]at k1 k2;dsimp only at k1 k2;have s2:=dj.Kc s1 BG;refine q56 ⟨bG,wC,ls,rfl,aI,q57 (119 ?_)⟩;rw[B59 iZ.ex];have lg:bG≠a:=914 nV mW;have QY:l≠bG:=16 q52;have at9:l≠wC:=16 (by rw[aE QY,z,aI]at ax;cases ax);have lL:aB l=00:=by rw[aE QY,aE at9]at ax;exact ax
   have QX:l≠t:=914 m5 lL;have Fg:aA aB bP:=351 (jE b o (j08 (117 mW) Kd) (bT e mW));have s4:=b50 Fg;have back:∀b,aB b=00→H b=00:=h80 (by cases q:H b with|none=>rfl|some o=>rw[106 q]at h;cases h);have acS:=back bG mW;have Ke:∀b,(b=a∨b=bG∨b=l)→H b=00:=h80 (by
    rcases h with h|h|h
    ·rw[h];exact aN
    ·rw[h];exact acS
    ·rw[h];exact back l lL);have sub:∀b,b=a→(b=a∨b=bG∨b=l):=h80 a65;have ur:m2 K fj t bP a 67:=⟨oT,wy,cT,Fg _ _ nV,Fg _ _ m5,c1⟩;refine⟨_,rfl,a,oT,_,rfl,Fg _ _ nV,oQ,a,t,67,rfl,ur,c12,fun z aua de q e p1 aw aub BH=>?_⟩
   ·subst e;exact(k2 (n,p) (by rw[acM,acP])).opened s4 BG
   ·rw[acM]at k1 k2;rw[e]at k1 k2;rw[A20 (fun k σ H'=>∃q z rest as s,σ=[530,248,a96,873]∧49∧uj cu H' q z∧m2 K fj t H' a e97∧h8 CM CS H' bG wC l as 26∧303≤8∧slots s≤k∧(∀y,tv (k+1) s c69=.ok y→∀H' bG,49→H bG=00→dK CM CS H' bG (bh y)→435 bG)∧(∀y,tv (k+1) s c69=839→nS ck H E y.1 y.2)) ⟨0xb,q,z,aua,[],Kb ls,rfl,p1.Kc s4 BG,aub,BH,?_,229,?_,k1,k2⟩]
    ·exact h8.read (s:=bh (Kb ls)) aY (Fg _ _ nV) lg p1
    ·show 0xa≤0xb;decide
    ·clear k1 k2;rintro k σ H'⟨q,z,rest,as,s,rfl,qc,tk,bR,aY,mx,aS,k1,k2⟩;obtain⟨g,f9,um,eq⟩:=id tk;obtain⟨p,b0⟩:=z;refine⟨_,rfl,q,cu,f9,_,_,rfl,eq,316,b49,wo,rfl,_,rfl,?_⟩;show 616 (! c34 b0 692);rw[p_,ack g p []];rw[acB]at k1 k2
     cases a8:E1 [(p,b0)]with
      |true=>rw[a8,101]at k1;exact b_ (123 (k1 s rfl H' bG qc acS ⟨wC,l,as,aY⟩))
      |false=>
       rw[a8,107]at k1 k2;have i0:m3 (p,b0) 67=67:=by cases b0 with|over=>cases a8|word w=>rfl|sign u=>rfl|bad n=>rfl
       rw[i0]at bR;refine c8 ⟨_,a26,?_⟩;refine⟨_,rfl,_,rfl,_,rfl,a,q,bG,t,wC,l,as,(p,b0),67,s,rfl,tk,bR,aY,lg,QX,mx,fun s' qa e ft as' auc aud Fh=>?_,k81 ?_⟩
       ·obtain⟨dP,aue⟩:=at5 e mx;obtain⟨fZ,rfl⟩:∃fZ,k=fZ+1:=b71 (k-1);rw[e,acN]at k1 k2;dsimp only at k1 k2;have yZ:=auc.Kc qc Ke;obtain⟨auf,aBS,EL,acT,yE,Bh⟩:=id Fh.ex;refine⟨_,rfl,a,auf,_,rfl,acT,oQ,a,t,qa,rfl,Fh,fun n p r bZ=>?_,fun Kf auh gS nC vk acU aBT aui Fi=>?_⟩
        ·rw[bZ,acP]at k2;exact(k2 (n,p) rfl).opened yZ BG
        ·rw[vk]at k1 k2;exact⟨fZ,03,nC,Kf,auh,as',s',rfl,acU.Kc yZ BG,aui,Fi,aud.read acT lg acU,aue,03,k1,k2⟩
       ·exact(k2 y (by rw[e,acO])).opened qc Ke
  ·exact(k2 y (by rw[e,acO])).opened s1 BG
def wD(bG:ag):324:=238 35 bG []
structure Kg(K:bo)(C:ag):04 where
 cl:h4 K C
 Fj:245 35
theorem Kh:273 (wD bG) 35=a96:=q17
abbrev acV:bK:=343 0x77 0
theorem acW:31 251 251 acV:=⟨rfl,rfl,rfl,05,rfl,05,05⟩
inductive lh(er:ag)(CM:ag)(CS:ag)(H:av)(h:ag)(s:cv):04|mk:∀hs bG,H h=e70 er hs (wD bG)→dK CM CS H bG s→lh er CM CS H h s
inductive Rc(er:ag)(CM:ag)(CS:ag)(vs:08)(H:av)(Q:aW)(E:bD):04|mk:∀(p dx:ag),vs=717→H p=482 er []→(∀H',lh er CM CS H' p ⟨[],[],00,00⟩→802 p→909)→Rc er CM CS vs H Q E
theorem auj(F:hC K 421 "Holder.__init__" acV f fd)(M:Kg K er)(Q_:mf P w K ah 02 aO 1 CS "System" g13 (Jo CM CS)):eP P w K ah 02 aO 3 f fd 251 (Rc er CM CS):=by
 rw[A36 acW]
 ·rw[D12];rfl
 ·rw[D11];have S:=acW;rw[A01 (aM (557 (pU Q_ 22 bb (78 fl))))];refine q56 ⟨bG,wC,[],rfl,aI,q57 (119 ?_)⟩;have t5:bP p=482 er []:=jE p _ (by rw[110 au mW,110 au Kd];exact au) (bT au mW);have auk:p≠bG:=bT au mW;have aul:l≠p:=355 301 t5;refine⟨_,rfl,p,er,dx,_,rfl,t5,20,M.Fj,298 0,?_⟩;refine k _ ⟨dx,bG,aI,wC,l,[],41 auk.symm 84,41 aul 301,rfl,fun i b m af=>by cases af⟩ (k93 ?_);rw[aE n];exact jE b o (j08 (117 mW) Kd) (bT e mW)
def uw(s:dt)(x:10):dt×10:=13 (o_ x) (s,[-1]) (13 (4096<96) (s,[-2]) (l85 (d8 x) (s,acX f) (y,[0])))
theorem lh.same{er CM CS:ag}{H H':av}{h:ag}{s:cv}(x:lh er CM CS H h s)(e:49):lh er CM CS H' h s:=let⟨hs,bG,a,b⟩:=x;⟨hs,bG,e _ _ a,b.same e⟩
theorem aum(e:024=wD bG):False:=by have h:c61 35=00:=157;rw[e,Kh]at h;cases h
theorem ahp(s:49)(h:244=00):H b=00:=by cases q:H b with|none=>rfl|some o=>rw[s _ _ q]at h;cases h
theorem dK.held{h hs:ag}{s:cv}{o:dz}(x:dK CM CS H a s)(dh:H h=e70 er hs (wD bG))(n:a≠h):dK CM CS (upd H h o) a s:=by rw[C96];refine⟨dx,l,as,41 n 84,553 301 dh 301,aY.len,k92 ?_⟩;rw[B48 (aY.cw i b m af ak)];rw[A03 d (41 521 e)];rw[z,dh]at e;rw[A89];injection e with _ _ e;exact aum d14
theorem acY(a b:10):o_ (a++b)=(o_ a||o_ b):=by unfold o_;rw[acZ]
theorem aun{x:10}(h:o_ x=09):b6 (d8 x)=x:=by
 unfold b6 d8;rw[gP];conv=>rhs;rw[←CP x]
 refine lz (fun n aU=>?_);have:=Gj.mp h n aU;have h0:¬n<0:=16 (this (b27 139));show 52 f32=n;lia
abbrev ahq:bK:=bA 0x7e
theorem ac0:31 [h52,576,365,"fault"] j25 ahq:=⟨rfl,rfl,rfl,05,rfl,05,05⟩
inductive Rd(K:bo)(er:ag)(CM:ag)(CS:ag)(vs:08)(H:av)(Q:aW)(E:bD):04|mk:∀(h t:ag)(x:10)(s:dt),vs=[.ref h,784]→H t=79 x→lh er CM CS H h 26→96<bc→(∀H' l,fN (·=h) H H'→H l=00→lh er CM CS H' h (bh (uw s x).1)→H' l=79 (uw s x).2→435 l)→Rd K er CM CS vs H Q E
theorem auo(D:cq K ah "load" ahq j25 f fd)(O:443)(M:Kg K er)(Z:wq P w K ah 02 ck fI q9)(aup:220 q55 0xff)(auq:220 "NO_BYTE" (-1))(aur:220 q54 4096)(aus:220 q53 (-2))(Rf:Pr P w K ah 02 299 8 o36 840 (Q9 CM CS ck)):Pr P w K ah 02 aO 9 "load" j25 (Rd K er CM CS):=by
 obtain⟨aBU,aBV,aut,auu,auv,FS⟩:=Rf;rw[A02 ac0]
 ·obtain⟨h,t,x,s,rfl,_⟩:=h;rfl
 ·obtain⟨h,t,x,s,rfl,bk,dh,hz,k⟩:=h;have S:=ac0;rw[A01 (aF (e_ eL rfl (339 62) (98 2 rfl 70) (aM (a50 (rX (bM ka (J 2) bu (bO _)) (rW (bM oA (J 2) (dq aup) (bO _)))).pt auq))) (aF (a50 (bM oA j79 (dq aur) (bO _)) aus) (239 (asa (i:=3) Z.M FS 22 aut auu auv Z.m (fun E=>296) (fun E=>252) (575 (65 (cN (aj bu (258 (abW Z.M abK 85 rfl) (abW Z.M abL 85 rfl)))))) 242 rfl rfl rfl rfl) e22)))];refine⟨_,rfl,t,rfl,224 bk,hN (K:=K) (a:=t) (xs:=aT x) (701 (σ=[46 h,530,v,00]∧H'=H∧o_ d99=09)) h04 (l31 (682 bk)) ?_ ?_⟩
  ·rintro i y σ H' aC⟨v,rfl,rfl,nb⟩;obtain⟨n,aU,rfl⟩:∃n,x[i]?=some n∧426 n=y:=by
    rw[aT,cK]at aC
    cases e:x[i]? with|none=>rw[A30];cases aC|some n=>rw[A30];rw[A44 n (cI aC)]
   have ac1:o_ (813 (i+1))=(29 (n<0)||29 (0xff<n)):=by rw[dZ aU,acY,nb];show(09||((29 (n<0)||29 (0xff<n))||09))=_;rw[wW,Cv]
   have bad:(29 (n<0)||29 (0xff<n))=01→uw s x=(s,[-1]):=312 (by unfold uw;rw[if_pos];rw[←om (i+1) x,acY,ac1,h];rfl);have out:(29 (n<0)||29 (0xff<n))=01→Ny Q [.int (-1)] H':=312 ⟨14,367 (k _ p (b48 116) au (364 (bad h) (dh.same 116)) (o35 (bad h)))⟩;refine⟨_,rfl,_,_,rfl,rfl,_,rfl,eb 484 484⟩
   ·exact c8 (out (by rw[af];rfl))
   ·refine⟨_,rfl,_,_,rfl,rfl,_,rfl,eb 642 642⟩
    ·exact out (by rw[ak,ac2])
    ·refine⟨601 n,rfl,rfl,?_⟩;rw[ac1,216 af,216 ak];rfl
  ·rintro σ H'⟨v,rfl,rfl,nb⟩;have c4:11 (aT x)=96:=fa x;rw[c4,eK]at nb;refine⟨_,rfl,t,_,rfl,306 bk,_,_,rfl,rfl,_,rfl,eb 484 484⟩
   ·have fX:4096<96:=by have:=121 af;rw[c4]at this;lia
    have d1:uw s x=(s,[-2]):=by unfold uw;rw[nb,107,21 fX]
    exact⟨14,367 (k _ p (b48 116) au (by rw[d1];exact dh.same 116) o34)⟩
   ·have fX:¬4096<96:=16 (af (102 (by rw[c4];lia)));have d1:uw s x=(l85 (d8 x) (s,acX f) (y,[0])):=by unfold uw;rw[nb,107,23 fX]
    obtain⟨hs,aBW,Rg,aBX⟩:=id dh;refine⟨_,rfl,t,d8 x,rfl,by rw[aun nb];exact bk,by unfold d8;rw[ba];lia,fun y aC aB bG s2 mW aY=>?_,a75⟩
    ·rw[aC]at d1;have lg:bG≠h:=914 Rg mW;refine⟨_,rfl,h,er,hs,_,rfl,106 Rg,20,M.Fj,959,14,k23⟩;have auw:l≠h:=16 q52;have lL:aB l=00:=by rw[aE auw]at ax;exact ax
     refine k _ l (547 (b48 s2) (fN.upd (S:=(·=h)) rfl) (b48 (422 ax))) (ahp s2 lL) ?_ o34;rw[d1];exact lh.same ⟨hs,bG,aI,aY.held (106 Rg) lg⟩ (422 ax)
    ·rw[aC]at d1;intro d aB s2 hd d' bZ q he;cases q;have s3:=b50 (964 (p8 bZ ck d) he);have BI:=aA.upd (o:=p8 bZ ck d) he _ _ hd;refine⟨_,rfl,bZ,d,_,_,rfl,aI,BI,rfl,_,rfl,bZ,d,_,_,rfl,aI,BI,rfl,894 3,k23⟩;have s4:=c98 (293 [941,48 y.1,48 y.2] ax);exact k _ l (b48 s4) (ahp s3 ax) (by rw[d1];exact dh.same s4) o34
theorem auy(e:Dy a0 ns):TruthOf P w A (f09 (g53 i 54)) (425 ((i86 (n !=0)).getD i 09)):=q51 (by
 have ac3:a0[i]?=54:=o33;rw[B44 (IntsAre.int_at e i v ac3)];have len:=e.length;have lt:=eI ac3;have a4:(i86 (n !=0)).getD i 09=(g80 i !=0):=by
  rw[cZ,cK,cZ]
  cases q:ns[i]? with|none=>rfl|some n=>rfl
 have pY:Q ((i86 (n !=0)).getD i 09) s:=aw;rw[a4]at pY;exact alj pY)
theorem auz(K:bo)(cj:X.K=K)(ar:394:=by rfl):iy X (399 "any") (k64 (∃(a:ag)(ns:10),xs=[022]∧063 a∧446 (ns.any (724 (n !=0))))):=by
 rw[B50];subst cj;rw[D10];rw[B33 aL];rw[cc.Dz r];have aa:Dy a0 ns:=cV.ints;refine call_any_walk (XX h51 (fun s2 aG st d9=>?_));subst aG;refine⟨_,_,_,_,_,_,_,rfl,Walks.list (A:=X.A.in1) 408 _ a d9 275,st,auy aa,fun af tk aS=>?_⟩;refine⟨.bN _,H,I.kept (fun b o tO=>aS b o n47 (dY _ tO)),?_,q⟩
 ·rcases 569 y with y|y
  ·rw[A62 (y▸dm tO) _]
  ·cases y
 ·show xF _=xF _;have len:b62=11 (i86 (n !=0)):=by rw[gu,ba];exact aa.length
  rw[len,ahl,u6];rfl
theorem auA(l:ag)(xs:323)(n:Nat)(b:ag)(ys:323)(m:Nat)(dd:639)(dP:k12)(h0:¬(d79&&Dx (xs.size+ys.size))=01)(af:xs.size≤bc)(ak:xs.size+ys.size≤bc+1):Meets (Builtin.«list.extend» (644 [559,281])) (fun _ R s=>393 l (l86 900 (b17 xs))∧393 b {cls:=748,dict:=dd,data:=.seq ys m,slots:=dP}∧R (.ok (.ret fh)) {s with heap:=982 l (se (72 (x++ys))),toks:=s.toks}):=.of_wp (p80 (by
 rw[B45];obtain⟨ax,aa,h⟩:=h;have f2:=sub_tuple_tuple;have e9:=sub_list_list;have f4:=sub_tuple_list;have fR:=sub_list_tuple;have z:(xs++ys).size≤bc+1:=by rw[Array.size_append];exact ak
 wp_walk using(wpAny_updateSeq ax rfl (hz:=af) (_hz':=z)),wpAny_loadPart' ax,wpAny_loadPart' aa;rw[A15 h]))
inductive ac4(K:bo)(x:ae)(vs:08)(H:av)(Q:aW):04|mk:o32 (x=559→vs=[281]→H l=525→dX K H b zs→57+b33≤bc→Q .b4 (34 H l (xs++zs))→ac4 K x vs H Q)
theorem auB(K:bo)(cj:X.K=K):NS X "list.extend" (ac4 K):=by rw[C37];subst cj;rw[C36];rw[A07];rw[C35];cases gR;rw[B32 jy];obtain⟨mc,cT,⟨o,aG,ar,dS,hd⟩,_⟩:=b26 fY;obtain⟨c,dd,jl,dP⟩:=o;simp only at ar hd;subst ar hd;have eY:=r.length;have dW:=cT.length;have qB:j01≤bc:=o31;have nl:¬(! l44&&Dx j01)=01:=q50 (NV qB);refine x9 q49 e83 q48 (q47 _ _) (auA l 275 n b o30 dS dd dP nl k91 03) ⟨e,aG,?_⟩;refine⟨.b4,_,I.NU (its':=a0++mc) jy e 19 m56 ?_,rfl,q⟩;rw[cn];lia
theorem auC:lI (401 h77) (iA "__len__")=519:=f31
theorem auD:Slot h77 o29 q46:=.of (owner:=h77) (n:=o29) f31 05 05 05 (by first|rw[A17 05]|rw[A09 05]) h79
section
variable{s:aZ}{l:ag}
end
section
variable{s:aZ}{l:ag}
theorem auE{i:Int}{Q:455 571}(hit:s.heap.IsRevIter I l i)(h:Q 09 s):a9 289 A (auF c31) Q E s:=by unfold auF;rw[A00 (Ym 981 auC ?_)];show a9 _ _ (specialOf (da I) (iA o29)>>=_) _ _ _;rw[A00 (Ym 981 auD.lookup ?_)];generalize Ki:(q46:String)=auG;wp_delta;rw[88 (splitId auG=some (h77,"__length_hint__")) (by subst Ki;decide+kernel)];subst Ki;rw[A00 (YG (b:=01) 981 h79 ?_)];exact cx h
theorem auH(dh:595)(hit:s.heap.IsRevIter I l (i92-1))(ax:f13 l 966)(nl:l≠I)(aU:083≤bc)(q:∀h' tk acc c,(300 (b≠I) (346→219=25))→939 18 (l86 900 (.seq acc c))→ItemsOf (f09 (items[083-1-i]?=54)) acc 083→Q 277 620):a9 289 A (kZ 900 [c31]) Q E s:=by
 refine ac5 (Q₁:=h78 (v=277∧s1=621 e03)) PySem.F.called_list (PySem.F.typeCall_list_1 _) PySem.F.entry_list_init (code_list_new _ 149) (k90 ?_);obtain⟨rfl,rfl⟩:=af;have hz:(e03).get? 18=some (990 (.seq #[])):=111;have y0:18≠I:=100 (by obtain⟨o,aK,_⟩:=hit;rw[←e]at aK;exact 69 (dm aK) (kV _));have ac6:18≠l:=100 (by obtain⟨o,aK,_⟩:=ax;rw[←e]at aK;exact 69 (dm aK) (kV _));rw[A20 (445 hz) (PySem.F.args_list_init_2 _ _)];show a9 _ _ (do
  let old←auI (.ref s.heap.objs.size)
  Builtin.List.listUpdate (.ref s.heap.objs.size) (fun _=>#[])
  letGo old.toList.reverse
  ac7 (.ref s.heap.objs.size) (.ref I) .none) _ _ _;rw[A28];unfold auI;rw[A00 (ux hz rfl 345)];show a9 _ _ (updateSeq 18 (290 #[])>>=290 (letGo (#[]:323).toList.reverse>>=290 (ac7 277 c31 87))) _ _ _;rw[A00 (wpAny_updateSeq hz rfl ?_)];have mZ:=x7 (g33 (#[]:323)) hz rfl;have kJ:300 (b≠18) (346→782 ((e03).update 18 (g33 (#[]:323)))=25):=536 (38 (vK _ _ h02) 130);rw[A00 (ac8 ?_)];have Fl:=hit.at (h':=(e03).update 18 (g33 (#[]:323))) (877 (kJ I o y0.symm e));have lL:=ax.at (h':=(e03).update 18 (g33 (#[]:323))) (877 (kJ l o ac6.symm e));generalize(e03).update 18 (g33 (#[]:323))=ak at mZ kJ Fl lL⊢;unfold ac7;rw[B41 h77 Fl.typeIs ?_];have aK:auJ 277 c31=09:=by simp[auJ,y0]
 rw[23 (by rw[aK];decide)];rw[A00 (wpAny_pyIter_revIter Fl ?_)];rw[A99 (auE Fl ?_)];rw[107];have W:=Walks.listRev (prog:=P) (w:=w) (A:=n70) o28 I l nl 966;have nr:18∉[I,l]:=by simp only[ed,Bt,or_false,not_or];exact⟨y0,ac6⟩
 have Kk:(fun i(h:dk)=>i≤083∧h.IsRevIter I l (i92-1-52 i)∧h.IsList l 966) 0 ak:=⟨229,by rw[show i92-1-52 0=i92-1 by lia];exact Fl,lL⟩;refine cx ⟨yX PySem.F.plain_extend_loop _,codeAny_extend_loopS W.toS aU _ nr 87 083 0 _ #[] _ rfl 229 Kk mZ (ItemsOf.nil _) (fun s' acc c hm aY q3=>?_)⟩;rw[Moved.eq_with hm];rw[A03 rfl (q 542 s'.toks acc c (536 (hm.heap b o (fun fB=>?_) (kJ b o e23 e))) aY q3)];rcases 569 fB with bZ|fB
 ·rw[A62 (bZ▸105) _]
 ·exact aa (86 fB)
end
inductive ac9(K:bo)(Q:aW)(vs:08)(H1:av):04|mk:∀(a:ag)(ys:08),vs=254→aJ K H1 a ys→(∀l,H1 l=00→837 l H1 l o27)→ac9 K Q vs H1
def auK(K:bo)(bW:fG):ct:=262 (bW σ H (728 (ac9 K Q vs H1)))
section
variable{bW:fG}{p:Pos}
theorem auL(K:bo)(cj:X.K=K)(Eo:h1 X 499)(H0:X.ah 499=00)(a4:h1 X 975)(hm:X.ah 975=00)(aN:hZ X [e] bW)(ar:394:=by rfl)(aL:406 [e]=[391]:=by rfl)(jx:406 [.Call (.Name 975 p) [e] [] pos]=[013 (.Call (.Name 975 p) [e] [] pos)]:=by rfl):bF X (.Call (.Name 499 fD) [.Call (.Name 975 p) [e] [] pos] [] Rh) (auK K bW):=by
 rw[A13];subst cj;refine vI (qD I Eo H0 Bc ?_);refine tJ ?_ n69 rfl;rw[jx];show a9 _ _ (spliced (013 (.Call (.Name 975 p) [e] [] pos)::hA Rh [])) _ _ s;refine Nx ?_;rw[B00 (qD I a4 hm anG (tJ (988 (aN pos 07 s σ H _ I h) ?_) aL rfl))];obtain⟨a,ys,rfl,aw,q⟩:=bg;rw[B08 bU];rw[A07];rw[C22 j66];have hlen:=cV.length;refine call_reversed_list 965 (Nw ?_);have hsz:b62=b47:=19;have oI:a<227:=p77 105;refine auH (l:=a) (items:=275) (aX.ok.hd ar) b15 (pl.isList.at (877 130)) (fk oI) (by rw[hsz];lia) (fun h' tk acc c fC e q3=>?_);have yN:300 (e34 b 25) (219=25):=351 (fC b o e23 130);have big:227≤424 (s1.heap.push (revObj a (m19-1))):=by rw[kz];exact 163
 have Ri:cc o27 f07:=by
  have lL:f07=a0.reverse:=by
   obtain⟨rd,jx⟩:=q3;refine w0 (c95 ?_);by_cases bS:j<b47
   ·have af:acc[j]?=some (acc[j]'(q45)):=YF q45;have ak:=jx j _ af;rw[List.getElem?_reverse bS];have a6:acc.toList[j]?=acc[j]?:=19;rw[a6,af,←ak];simp
   ·rw[hH (by simp[rd];lia),187]
  rw[lL];exact cV.reverse
 refine 838 _ _ (aX.laid (t':=tk) yN big (88 (fx 61 X.w _ h' _ (.lst o27)) ⟨by rw[auM];exact hz,f07,c,Ri,566⟩)) (q _ (h32 big))
end
def Kl(xs:08)(i k:Int):08:=h75 (AH (042).1 (042).2.1 (042).2.2) (xs[·]?)
theorem Rj{xs:08}{a0:53}(r:cc xs a0):∀i8:06,cc (o24 (xs[·]?)) (o24 q41)
 |[]=>89
 |j::i8=>by
  rw[w2,w2]
  cases e:xs[j]? with
   |none=>
    have aG:g53 j 00:=by have:57≤j:=List.getElem?_eq_none_iff.mp e;rw[r.length]at this;simp[this]
    rw[aG];exact Rj r i8
   |some x=>rw[B49 (r.get e)];have aG:g53 j 56:=h76;rw[aG];exact .cons gR (Rj r i8)
inductive ada(K:bo)(Q:aW)(x:ae)(Km:ae)(Kn:ae)(a5:av):04|mk:∀(a:ag)(xs:08)(i k:Int),x=37→Km=260→Kn=c84→0<k→aJ K a5 a xs→(∀p,a5 p=00→837 p a5 p (Kl xs i k))→ada K Q x Km Kn a5
def auN(K:bo)(c7 g7 tk:ct):ct:=262 (c7 σ H (291 (g7 σ H1 (fun Km aB=>tk σ aB (fun Kn a5=>ada K Q x Km Kn a5)))))
section
variable{lo st:dn}{tk:ct}
theorem auO(K:bo)(cj:X.K=K)(he:529)(ax:bF X lo g7)(aS:bF X st tk):bF X (a27 e (.Slice (some lo) 00 (some st) fD)) (auN K c7 g7 tk):=by
 rw[A13];subst cj;refine NF (874 (he 07 s σ H _ I h));refine wpAny_Slice ?_;rw[XB,XA,XB];refine bY (ax 07 s1 σ H1 _ aX bg) (q43 (cx (bY (aS 07 s2 σ aB _ b5 cf) (q44 ?_))));obtain⟨a,xs,i,k,rfl,rfl,rfl,k0,ai,q⟩:=eC;cases bU;obtain⟨t1,rfl⟩:=pl;obtain⟨jt,rfl⟩:=pu;have jw:aQ X 07 σ a5 (g67 #[.int i t1,87,.int k jt]):=el.kept (t':=s3.toks) (g03 _ q);obtain⟨a0,r,bk,hz⟩:=jw.list ai;rw[B79];show a9 47 X.A (NG e (.Slice (some lo) 00 (some st) fD) 37 i47) 496 68 (g67 #[.int i t1,87,.int k jt]);refine tail_any (ops:=349 i47) (T:=499) q42 o26 ?_ (by with_unfolding_all rfl);refine al9 (lo:=604) (hi:=00) (st:=040) bk.isList (alX ..) (.int ..) 87 (.int ..) b46 ?_ o25;have c0:NL 275 604 00 040=809 (h75 (AH (042).1 (042).2.1 (042).2.2) q41):=by unfold NL;rw[gu,←hlen]
 rw[c0];have auP:=Rj r (AH (042).1 (042).2.1 (042).2.2);refine 838 (424 (k89 (824 "slice" #[.int i t1,87,.int k jt]))) _ (jw.laid (t':=s3.toks) (o:=.lst (Kl xs i k)) (g03 _ q) 64 ?_) (q _ (jw.bB.fresh 64));refine⟨?_,_,0,auP,111⟩;refine cX (adb _ _) (cX (sliceRange_length_le _ _ _ 57 n48 (16 (69 k0 z))) hz);simp only[k8,U2,k0,if_true];rw[A04]
 ·lia
 ·exact VC _
end
theorem auQ{w:Nat}(ax:63=n*w)(hi:i<w)(aU:0<n):Kl (a_ l) 249 946=a_ (c15 n (q*w+i)):=by
 unfold Kl;have hw:0<946:=03;have le:w≤n*w:=Nat.le_mul_of_pos_left w aU;have b:k8 (some 249) 00 (920 w) (11 (a_ l))=(249,52 (n*w),946):=by simp only[k8,U2,gt_iff_lt,hw,if_true,hn,ax];rw[124];congr 1;lia
 rw[b];have r:AH 249 (52 (n*w)) 946=407 n (58 (q*w+i)):=by
  unfold AH;simp only[gt_iff_lt,hw,if_true];rw[118];have e:(52 (n*w)-249+946-1)/946=44:=by
   have af:52 (n*w)-249+946-1=(946-1-249)+44*946:=by rw[u9];lia
   rw[af,auR _ _ 03,auS 03 03];lia
  rw[e,kA];refine lz (fun q _=>?_);have:249+946*15 q=52 (q*w+i):=by rw[Int.natCast_add,u9,w9];lia
  rw[this,kA]
 rw[r];have key:∀i8:06,(∀j∈i8,j<63)→o24 ((a_ l)[·]?)=a_ (i8.map (c95 (834 j))):=by
  intro i8
  induction i8 with|nil=>intro _;rfl|cons j t ih=>intro h;have bS:=127 j;have e:k56 j=71 (834 j:Nat):=i58 (cA bS) bS;rw[w2,e,ih 849];rfl
 rw[key,gP]
 ·rfl
 ·intro j bS;rw[C26 (112 bS)];rw[ax];exact Mt (g4.mp aw) hi
theorem Rk{w:Nat}(h:jf w 12 r):j71 x:=276 (by have:=h.2 x ai;unfold kf;lia)
theorem auT{a b:06}(aN:733≤12)(aa:d13≤12):jf 284 12 (fO ls a b):=by refine⟨by rw[fO,ba],333⟩;obtain⟨c,_,rfl⟩:=171;have:=JK a c;have:=JK b c;lia
end
abbrev ade:bK:=bA 0x14
theorem adf:31 [573,505,b45] j05 ade:=⟨rfl,rfl,rfl,05,rfl,05,05⟩
section
variable{A:rU}{C CM CS D a b c d dx f i1 i2 p t:ag}{E Q:aH→aZ→Prop}{F:List (List Nat)}{K:bo}{M:Model}{N ps:List Str}{P:f3}{R:Result→aZ→Prop}{S:ag→Prop}{T:String}{vs:List aH}{as:List ag}{aG e:dn}{aR:Array Ip}{bx u:aH}{o:Obj}{ah:Str→Option aH}{az:Option ag}{b0 cR dS i j n:Nat}{base h:dk}{g l ls row:List Nat}{cl:Str→Option ag}{cs ms r ws:List Int}{dP:Array (Option aH)}{α β:Type}{fd:k6}{x:Str}{outer:List Env}{own:List (Str×Nat)}{pl:Sem Bool}{q:Search}{s:dt}{sc:rp}{v:Word}{w:ff}{m:g0}{sy:cv}{xs ys:List ae}{y:ae}{H H' H1 aB:av}{ty:ct}{z:Nat×hr}
inductive Rl(K:bo)(vs:08)(H:av)(Q:aW)(E:bD):04|mk:∀(p q:ag)(as:27)(ws:10)(ms:99),vs=[280,a99]→aJ K H p (aT ws)→mT H q as ms→g08→(k88 (∀x∈m,kf x))→(841 (826 (wO ws ms) H'))→Rl K vs H Q E
theorem auU(D:cq K ah o23 ade j05 f fd)(p2:Pr P w K ah 02 aO 1 f30 b85 (AR K)):Pr P w K ah 02 aO 2 o23 j05 (Rl K):=by
 rw[A02 adf]
 ·obtain⟨p,q,as,ws,ms,rfl,_⟩:=h;rfl
 ·obtain⟨p,q,as,ws,ms,rfl,au,aw,ax,hm,b0⟩:=h;have S:=adf;rw[A01 (239 (711 62 2 (bM Aa (bj p2 22 bb (77 0 2 ay)) bu (bO _)) l8) l8)];refine⟨_,rfl,q,rfl,224 aw.lst,hN (K:=K) (a:=q) (xs:=317) (701 (σ=[444,873,v]∧49∧wO ws d91=01)) (e79 517) (q40 (32 (s1 _ _ aw.lst))) ?_ ?_⟩
  ·rw[D09];rw[D08 (aw.get aC)];have fB:=cG Ez;refine⟨_,rfl,_,rfl,p,a,ws,m,rfl,s1.seq au,32 (s1 _ _ eM),ax,hm m fB,h57 ⟨_,_,rfl,rfl,_,rfl,359⟩⟩
   ·have h:555 060 0=01:=h;have:=b0 aB 332;have gC:wO ws ms=09:=by cases e:wO ws ms with|false=>rfl|true=>have z:=gB.mp e m fB;rw[h]at z;cases z
    rw[gC]at this;rw[A10]
   ·have h:¬555 060 0=01:=h;refine⟨_,rfl,332,?_⟩;rw[dZ Ez];unfold wO at dQ⊢;rw[AP,dQ];simp only[th,adg,216 h];rfl
  ·rw[D07];rw[ba,aw.len,eK]at dQ;have:=b0 H' s1;rw[dQ]at this;rw[A10]
abbrev adh:bK:=bA 0x13
theorem adi:487 [35,505,573] adh:=⟨rfl,rfl,rfl,05,rfl,05,05⟩
inductive Ko(CM:ag)(CS:ag)(vs:08)(H:av)(Q:aW)(E:bD):04|mk:749 (vs=254) (267→269→(tg sy=00→846)→(∀ws,tg sy=some ws→c57 (416=79 ws→412))→Ko CM CS vs H Q E)
theorem auV(D:cq K ah k87 adh 50 f fd)(O:347)(bJ:268)(auW:220 q39 3)(ud:Pr P w K ah 02 aO 2 h73 50 (EA CM CS))(nN:Pr P w K ah 02 aO 1 f19 c24 (A_ K))(Rm:Pr P w K ah 02 aO 2 o23 j05 (Rl K)):Pr P w K ah 02 aO 3 k87 50 (Ko CM CS):=by
 rw[A02 adi]
 ·rw[A59];rfl
 ·obtain⟨a,sy,rfl,cg,g,eE,cS⟩:=h;have S:=adi;rw[A01 (389 1 (340 ud) (711 (a59 nN 017 (l_ h19 66 O.list Bc (78 (l_ Eu 66 971 xU (78 (eu qH (dq auW) bu)))))) 2 (348 (bj Rm 22 bb (77 2 1 ay))) 45) et)];rw[A41];refine⟨_,rfl,a,sy,rfl,cg,g,fun H1 m as s1 bU=>?_⟩;rw[B19 518];refine⟨_,rfl,a,CS,dx,_,_,rfl,84,80,727,mg,_,rfl,b82,?_⟩;refine⟨_,_,rfl,rfl,15 4,rfl,g82⟩;have s2:=964 (.pz 0 (15 4)) rM;refine⟨ua,4,rfl,aI,03,g87⟩;have s3:=593 (bz 4) jz;rw[dB];refine⟨cl,81,aT (b6 (bz 4)),rfl,32 (by rw[aI,sH]),477 bH,by rw[fa,nM,iP];decide,618 (q38 (Jt 14 (cX hi bH))),q37 ?_⟩;replace i7:=aaU i7;have mV:=38 685 s4;have auX:=bU.same mV;have nO:565 528 (j71 x):=725 (Rk (EM g r aq));unfold tg at eE cS;refine⟨p,rfl,224 i7.lst,hN (K:=K) (a:=p) (xs:=992) (701 (σ=[248,46 m,v]∧479 bP∧g37 (442 e98) (wO ws 528)=00)) (e79 (880 bP)) (fun i σ H' _⟨_,_,s5,_⟩=>32 (s5 _ _ i7.lst)) ?_ ?_⟩
  ·rintro i y σ de aC⟨v,rfl,s5,cy⟩;rw[D06 (i7.get aC)];have Er:g08:=k84 (yF (cG q4));refine⟨_,rfl,_,rfl,b,m,as,ws,528,rfl,32 (s5 _ _ eM),auX.same s5,Er,nO,o10 (123 (eo (fun hd=>?_) (fun hd=>?_)))⟩
   ·refine 123 (cS ws ?_ ft b (547 (807 mV) s5 cW) (310 (s5 _ _ eM)));have e:e98=442 e98++ws::472 e98 (i+1):=f64 (162 (i+1) e98) q4;rw[e,ED,cy,jK,hd];rfl
   ·refine⟨_,rfl,j10,?_⟩;rw[dZ q4,ED,cy];simp[jK,hd]
  ·rintro σ de⟨v,rfl,s5,cy⟩;rw[ba,i7.len,eK]at cy;exact eE cy de (38 (807 mV) s5)
abbrev adj:bK:=bA 0x90
theorem adk:487 [35,726] adj:=⟨rfl,rfl,rfl,05,rfl,05,05⟩
theorem auY(h:tg sy=some ws):o22=81:=by unfold tg at h;exact yF (nq h)
inductive Rn(CM:ag)(CS:ag)(vs:08)(H:av)(Q:aW)(E:bD):04|mk:749 (vs=254) (267→269→gx H Q (GI sy)→Rn CM CS vs H Q E)
theorem auZ(D:cq K ah "down" adj 50 f fd)(BK:Pr P w K ah 02 aO 3 k87 50 (Ko CM CS)):Pr P w K ah 02 aO 4 "down" 50 (Rn CM CS):=by
 rw[A02 adk]
 ·rw[A59];rfl
 ·rw[C34];have S:=adk;rw[A01 (389 1 (340 BK) (318 (bM jX (J 1) et (bO _)) 755) (eu pO e22 62))];rw[A41];unfold GI at k;refine⟨_,rfl,a,sy,rfl,aY,g,c11,q36 ?_⟩
  ·rw[e7]at k;exact⟨_,rfl,rfl,_,rfl,e30 (387 1 (k _ p 827 903 aI)) (e08 rfl h)⟩
  ·rw[aR]at k;refine⟨_,rfl,rfl,_,rfl,j51 ⟨371,457⟩⟩
   ·have e:881 p=816:=104;cases e
   ·rw[A77 [372] aw];have ax:=auY aR;refine⟨_,rfl,q,p,_,_,rfl,rfl,aI,106 au,n89 825,848⟩;refine k _ r g43 g70 ?_;rw[aI];rfl
abbrev adl:bK:=bA 0x89
theorem adm:487 50 adl:=⟨rfl,rfl,rfl,05,rfl,05,05⟩
def kN(sy:cv):Int:=13 (d12=00) (-6) (13 (672=00) (-8) 0)
inductive y1(CM:ag)(CS:ag)(vs:08)(H:av)(Q:aW)(E:bD):04|mk:749 (vs=254) (267→662 790→y1 CM CS vs H Q E)
theorem Kp{o:911}:29 (tU o=816)=29 (o=00):=by cases o with|none=>rfl|some x=>rfl
theorem au0(D:cq K ah c97 adl 50 f fd)(bJ:268)(PG:220 o21 (-6))(Ro:220 o00 (-8)):Pr P w K ah 02 aO 1 c97 50 (y1 CM CS):=by
 rw[A02 adm]
 ·rw[A59];rfl
 ·obtain⟨a,sy,rfl,⟨dx,ls,as,aY⟩,k⟩:=h;have S:=adm;rw[A01 (516 (bX (bM jX 59 et (bO _)) (65 (dq PG)) b2) (bX (bM jX 59 et (bO _)) (65 (dq Ro)) b2) bu)];unfold kN at k;refine⟨_,rfl,a,CS,dx,_,_,rfl,84,80,879,tV,rfl,_,rfl,359⟩
  ·rw[Kp]at h;rw[A54 104];exact k
  ·rw[Kp]at h;rw[136 (d36 z)]at k;refine⟨_,rfl,a,CS,dx,_,_,rfl,84,80,969,tW,rfl,_,rfl,359⟩
   ·rw[Kp]at h;rw[A54 104];exact k
   ·rw[Kp]at h;rw[136 (d36 z)]at k;exact k
abbrev adn:bK:=bA 0x91
theorem ado:487 m74 adn:=⟨rfl,rfl,rfl,05,rfl,05,05⟩
def wF(sy:cv):Int:=39 (sy.moves.any (285 (m.b||m.e))) (-9) (13 (tg sy=00) 2 0)
inductive Fm(CM:ag)(CS:ag)(vs:08)(H:av)(Q:aW)(E:bD):04|mk:749 (vs=254) (267→269→(841 (Q (.int (wF sy)) H'))→Fm CM CS vs H Q E)
theorem au1(D:cq K ah h59 adn 50 f fd)(bJ:268)(e3:nG K CM)(au2:220 "BOUND_MOVE" (-9))(BK:Pr P w K ah 02 aO 3 k87 50 (Ko CM CS)):Pr P w K ah 02 aO 4 h59 50 (Fm CM CS):=by
 rw[A02 ado]
 ·rw[A59];rfl
 ·rw[C33];have S:=ado;rw[A01 (239 (711 59 1 (rX (348 358) (rW (348 358))).pt (dq au2)) (pE (bM jX (340 BK) et (bO _)) bu bu))];rw[B35 cg];refine⟨_,rfl,a,CS,dx,_,_,rfl,84,80,471,kE,ls,rfl,224 301,hN (K:=K) (a:=ls) (xs:=317) (701 (σ=[248,v]∧H'=H∧((m36).any (285 (m.b||m.e)))=09)) h04 (l31 (682 301)) ?_ ?_⟩
  ·rintro i y σ H' aC⟨v,rfl,rfl,cy⟩;rw[B11 (325=360∧y=281) (by
    rw[A58]
    cases e:325 with|none=>rw[A30];cases aC|some b=>rw[A30];rw[A76 b aC])];have hi:i<099:=f68 aa;rw[B14 (g20=794) hi];rw[B21 (aY.cw i b m aa hm)];have out:(m.b||m.e)=01→Q (.int (-9)) H':=100 (by have:=k H' (880 H');unfold wF at this;rw[21 (161 m a76 e)]at this;exact this);refine⟨_,rfl,b,CM,dD,_,_,rfl,g_,451,e3.D8,IK,_,rfl,eo 484 484⟩
   ·exact c8 (out (by rw[af];rfl))
   ·refine⟨_,rfl,b,CM,dD,_,_,rfl,g_,451,e3.D9,IL,_,rfl,eo 642 642⟩
    ·exact out (by rw[ak,ac2])
    ·refine⟨_,rfl,rfl,?_⟩;rw[dZ hm,acZ,cy];simp only[pe,VO,af,ak];rfl
  ·rw[D03];rw[C31];unfold wF at k;rw[cy,107]at k;refine⟨_,rfl,a,sy,rfl,cg,g,c11,q36 ?_⟩
   ·rw[A54 e7];exact⟨rfl,_,rfl,eb (290 (k H1 s1)) (e08 rfl h)⟩
   ·rw[A97 (by rw[aR];intro z;cases z)];refine⟨rfl,_,rfl,j51 (k H1 s1)⟩;have e:881 p=816:=104;cases e
theorem Fn{p:935}{l:40}{x:α}(ai:115=43)(cy:382 648 p=00)(h:p x=01):h74 p=43:=by have e:l=648++x::735 (i+1):=f64 (162 (i+1) l) ai;rw[e,ED,cy,jK,h];rfl
theorem y2{p:935}{l:40}{x:α}(ai:115=43)(cy:382 648 p=00)(h:p x=09):382 (l.take (i+1)) p=00:=by rw[dZ ai,ED,cy];simp[jK,h]
theorem Fo{f:α→241 β}{l:40}{x:α}{y:β}(ai:115=43)(cy:a68 648 f)(h:f x=270):d31 f=270:=by have e:l=648++x::735 (i+1):=f64 (162 (i+1) l) ai;rw[e,au3,cy,ti,h];rfl
theorem BL{f:α→241 β}{l:40}{x:α}(ai:115=43)(cy:a68 648 f)(h:f x=00):a68 (l.take (i+1)) f:=by rw[dZ ai,au3,cy];simp[ti,h]
abbrev Rp:bK:=bA 377
theorem adp:31 [35,257,256,h72,573,b45,505,089] 753 Rp:=⟨rfl,rfl,rfl,05,rfl,05,05⟩
inductive Rq(CM:ag)(CS:ag)(vs:08)(H:av)(Q:aW)(E:bD):04|mk:q08 06 (vs=[37,459,76 y]→267→269→707→b43≤12→(rC sy x y=00→846)→(∀z,rC sy x y=415→∀H' t p,49→H' t=294 [769,280]→416=79 z.2→435 t)→Rq CM CS vs H Q E)
theorem au4{Kq:ag}(D:cq K ah o19 Rp 753 f fd)(O:347)(bJ:268)(au5:d7 ah n52 (.ref Kq))(adq:∀H,dX K H Kq (a_ rA))(A9:Pr P w K ah 02 aO 1 k86 [304,257,256] IU)(Bk:Pr P w K ah 02 aO 5 k85 50 (JM CM CS))(p2:Pr P w K ah 02 aO 1 f30 b85 (AR K))(ud:Pr P w K ah 02 aO 2 h73 50 (EA CM CS))(Rr:Pr P w K ah 02 aO 3 o20 j14 (P4 K)):Pr P w K ah 02 aO 6 o19 753 (Rq CM CS):=by
 rw[A02 adp]
 ·rw[C93];rfl
 ·obtain⟨a,sy,x,y,rfl,cg,g,ai,aC,eE,cS⟩:=h;have S:=adp;rw[A01 (90 3 (925 A9 59 (461 1 2)) (711 (340 Bk) 4 (bM k4 (bj p2 22 bb (77 4 3 ay)) bu (bO _)) (oC (c35 bu 4))) (516 (qT (i:=6) rfl 242 rfl rfl 875 (339 (340 ud)) (own:=[(b45,5)]) (295 [35,257,256,h72,573,b45,505,089] Rp) h09 (e47 (348 (d6 (auz K rfl) 66 O.any boot_any (384 5)))) (286 462)) (e_ eL rfl (IH K rfl (dq au5)) (98 7 rfl 70) (018 4 (437 Rr 6 3 7) (bX (bM tK (J 4) et (bO _)) (65 (oC (461 7 4))) b2))) et))];rw[A41];rw[B19 (id cg)];refine⟨_,rfl,a,CS,dx,_,_,rfl,84,80,727,mg,_,rfl,_,rfl,75,x,y,rfl,03,k18⟩;rw[A63 (aT (fO 75 x y)) hd];have Kr:334 H d (aT (fO 75 x y)) d=79 (fO 75 x y):=aI;have Rt:=auT (ls:=75) ai aC;unfold rC at eE cS;generalize fO 75 x y=fw at Rt s1 Kr eE cS⊢;generalize 520 H d fw=H1 at s1 Kr⊢;have ads:=Rk Rt;refine⟨_,rfl,a,sy,rfl,518,g,fun aB p bs s2 cT=>⟨p,rfl,224 h71,hN (K:=K) (a:=p) (xs:=478) (701 (σ=[248,493,653 y,871,v,00,00,00]∧c81∧d87 (442 704) (! 531 (hc b fw))=00)) (e79 j34) (l80 _ _ h71) ?_ ?_⟩⟩
  ·rintro i z σ a5 hz⟨v,rfl,s3,cy⟩;rw[D06 (cT.get hz)];have yh:g08:=k84 (Qk.2 ws (cG q4));refine⟨_,rfl,_,rfl,b,d,ws,fw,rfl,32 (s3 _ _ eM),32 (s3 _ _ (106 Kr)),yh,ads,k61 ⟨rfl,_,rfl,?_⟩⟩;rw[kH];refine eo a62 a62
   ·refine⟨_,rfl,338,697⟩;have s5:=821 [372,281] bk;have gC:=Fn q4 cy d9;rw[gC]at cS;exact cS (0,ws) rfl _ t b (547 e74 s4 s5) aI (s5 _ _ (103 (83 eM)))
   ·exact⟨_,rfl,b87,y2 q4 cy d9⟩
  ·rintro σ a5⟨v,rfl,s3,cy⟩;rw[ba,cT.len,eK]at cy;rw[cy]at eE cS;have uy:=e74;have BI:=83 (s2 _ _ Kr);clear cy;refine⟨_,rfl,a,sy,rfl,622 uy,g,fun de q as s5 iw=>⟨q,rfl,224 iw.lst,436⟩⟩;have aBY:11 528≤8:=q35;refine kC (K:=K) (a:=q) (xs:=317) (876 (∃cs:27,H'=34 de D 634∧383=11 (016 (527 528))∧m13 (cs[n]?=360→(((gN sy).take j).filter eZ)[n]?=447→de b=715))) (072 [] l82) (q34 (682 (335 iw.lst cO iw.lst))) ?_ ?_
   ·rintro j z H' hz⟨cs,rfl,hlen,iD⟩;rw[D05 (iw.get hz)];refine⟨rfl,_,rfl,b,r,rfl,32 (335 eM cO eM),_,rfl,?_⟩;have e7:(r.any (724 (n !=0)))=eZ r:=rfl;rw[e7];have gC:∀b,eZ r=b→016 (222 528 (j+1))=016 (527 528)++(39 b [r] []):=i28 (dZ c1);refine eo 485 485
    ·refine⟨_,rfl,_,aI,?_,cs++[b],?_,?_⟩
     ·rw[ba,hlen];refine fL (88 255 ?_) 14;refine 164 _ _;rw[eS];lia
     ·rw[gp,d5];rfl
     ·rw[gC 01 aa];exact Ey (H:=de) (H':=de) (p:=D) 568 iD eM
    ·rw[gC 09 aa];rw[C08 cs rfl q33]
   ·rintro ft⟨cs,rfl,hlen,iD⟩;rw[ba,iw.len,eK]at hlen iD;have cW:=293 634 cO;have jg:mT (34 de D 634) D cs e99:=⟨aI,568,fun n b r af ak=>310 (iD n b r af ak)⟩;have dP:565 e99 (j71 x):=725 (Rk (EM g r (ob.mp aq).1));have adt:=310 (s5 _ _ BI);have uz:=38 (uy.trans s5) cW;generalize 34 de D 634=ft at jg adt uz⊢;refine⟨Kq,rfl,404 (adq _),M9 (K:=K) (a:=Kq) (xs:=a_ rA) (504 (∃v4 ew fM:93,σ=[248,493,653 y,871,v4,ew,46 D,fM]∧479 ft∧a68 (rA.take i) (450 (687 (rt e99 fw k) (k,r))))) ⟨_,_,_,rfl,880 ft,rfl⟩ (fun i σ H' _ _=>adq H') ?_ ?_⟩
    ·rintro i z σ gS hz⟨v4,ew,fM,rfl,e1,cy⟩;obtain⟨k,aS,rfl⟩:=v3 hz;have wG:0<k∧k≤12:=by have:k∈rA:=cG aS;have dQ:∀k∈rA,0<k∧k≤12:=14;exact dQ k 246
     have jn:k83≤4:=by rw[Rt.1];exact bH
     refine⟨_,rfl,_,rfl,_,rfl,D,d,cs,e99,fw,k,rfl,jg.same e1,e1 _ _ adt,jn,wG.1,wG.2,dP,ads,fun e7 qS gW=>?_,fun ws aR qS adu gW A7=>?_⟩
     ·refine⟨_,rfl,rfl,_,rfl,b_ ⟨_,_,_,rfl,n16,BL aS cy n82⟩⟩
     ·refine⟨_,rfl,rfl,_,rfl,c8 ⟨_,rfl,_,rfl,338,697⟩⟩;have i_:=821 [48 k,.ref adu] bk;exact cS (k,ws) (Fo aS cy n81) _ t adu (547 m76 gW i_) aI (i_ _ _ A7)
    ·rintro σ gS⟨v4,ew,fM,rfl,e1,cy⟩;exact eE cy gS m76
theorem au6{x y:06}{z:526}(h:rC sy x y=415):h39=81:=by
 unfold rC at h
 cases e:d87 704 (! 531 (hc b (fO 75 x y)))with
  |some b=>rw[A49];have:(0,b)=z:=cI h;rw[A48];exact Qk.2 b (nq e)
  |none=>
   rw[A49];obtain⟨d,_,hd⟩:=VB h
   cases i0:rt e99 (fO 75 x y) d with
    |none=>rw[i0]at hd;cases hd
    |some r=>
     rw[i0]at hd;have:(d,r)=z:=cI hd;rw[A48];unfold rt at i0;split at i0
     ·cases i0
     ·have:=yF (nq i0);rw[this,fO,ba]
abbrev adv:bK:=bA 0x8a
theorem adw:487 [35,f15,726] adv:=⟨rfl,rfl,rfl,05,rfl,05,05⟩
inductive Ru(CM:ag)(CS:ag)(vs:08)(H:av)(Q:aW)(E:bD):04|mk:749 (vs=254) (267→269→gx H Q (xd sy)→Ru CM CS vs H Q E)
theorem Rv{f:06→06→10}:(790<0∧rD sy f=[790])∨(790=0∧d01 (034∧672=270∧rD sy f=f x y)):=by
 unfold kN rD
 cases aK:sy.start with|none=>rw[A23 (c99 101) (970 101)]|some x=>cases aG:sy.goal with|none=>rw[A23 (by rw[144,101];decide) (by rw[144,101])]|some y=>rw[A09 ⟨by rw[144,144],x,y,rfl,rfl,rfl⟩]
theorem au7:(790<0∧xd sy=[790])∨(790=0∧d01 (034∧672=270∧(rC sy x y=00→xd sy=[1])∧∀z,rC sy x y=415→xd sy=0::649::z.2)):=by
 unfold xd;rcases m64 _ with⟨af,ak⟩|⟨af,x,y,ex,f6,ak⟩
 ·rw[A23 af ak]
 ·rw[A09 ⟨af,x,y,ex,f6,100 (by rw[ak,e]),fun z e=>by rw[ak,e]⟩]
theorem au8(D:cq K ah "parted" adv 50 f fd)(bJ:268)(m6:Pr P w K ah 02 aO 1 c97 50 (y1 CM CS))(Rw:Pr P w K ah 02 aO 6 o19 753 (Rq CM CS)):Pr P w K ah 02 aO 7 "parted" 50 (Ru CM CS):=by
 rw[A02 adw]
 ·rw[A59];rfl
 ·rw[C33];have S:=adw;rw[A01 (90 1 (340 m6) (318 (bM ka (J 1) bu (bO _)) 296) (389 2 (bj Rw 22 bb (aj (J 0) (258 59 59))) (318 (bM jX (J 2) et (bO _)) 755) (eu pO (a63 c63) c63)))];rw[A41];refine⟨_,rfl,a,sy,rfl,cg,_,rfl,_,_,rfl,rfl,_,rfl,?_⟩;rcases au7 (sy:=sy)with⟨af,ak⟩|⟨af,x,y,ex,f6,ak,a6⟩
  ·rw[A80];refine e30 ⟨_,rfl,371,367 (k _ p 116 au aI)⟩ (e08 af h)
  ·refine e30 (69 104 (by rw[af];decide)) 356;rw[B19 (id cg)];refine⟨_,rfl,_,rfl,a,CS,dx,_,_,rfl,84,80,879,tV,_,rfl,a,CS,dx,_,_,rfl,84,80,969,tW,?_⟩;rw[ex,f6];refine⟨a,sy,x,y,rfl,cg,g,g.st x ex,g.gl y f6,c11,fun z aR H1 t p s1 bk au=>?_⟩
   ·rw[ak e7]at k;exact⟨_,rfl,rfl,_,rfl,c8 (387 1 (k _ p 827 903 aI))⟩
   ·rw[a6 z aR]at k;have ax:=au6 aR;refine⟨_,rfl,rfl,_,rfl,b_ ⟨_,rfl,t,_,_,769,rfl,rfl,g85,f03,338,457⟩⟩;rw[A77 [372,769] aw];refine⟨_,rfl,t,_,_,280,rfl,rfl,448 (106 bk),e62 1,q,p,_,_,rfl,rfl,aI,106 au,n89 825,848⟩;refine k _ r g43 g70 ?_;rw[aI];rfl
def e5(c:Nat):cF:=jR (001 c:Str)
theorem adx{a b:Nat}(h:e5 a=e5 b):a=b:=by have af:(001 a:Str)=001 b:=MQ h;have ak:=109 c5 af;have a6:[a]=[b]:=ak;injection a6
def hF(ls:06)(as:27):410:=kQ (fun c a=>(868,022)) ls as
theorem ady:∀{ls:06}{as:27}{c:Nat}{a:ag},c∈ls→as[a35]?=532→ja 606 868=248
 |[],_,_,_,h,_=>806
 |l::ls,[],c,a,h,e=>k37
 |l::ls,b::as,c,a,h,e=>by
  show ja ((e5 l,e46)::606) 868=_;by_cases q:l=c
  ·subst q;rw[au9]at e;have e:b=a:=cI e;rw[DM rfl,e]
  ·have eG:(l==c)=09:=q32;rw[Ut,eG]at e;have e:as[a35]?=532:=e;rw[Av (16 (q (adx z)))];exact ady ((569 h).resolve_left (16 (q b25))) e
structure nX(H:av)(d:ag)(as:27)(ls:06)(rows:30):04 where
 y3:H d=some g47
 len:470=284
 oV:666=284
 row:d62 06 (325=532) (775=447→H a=259 r)
theorem nX.same{rows:30}(h:nX H d as ls 17)(e:49):nX H' d as ls 17:=⟨e _ _ h.y3,h.len,h.oV,d02 (e _ _ (h.row i a r af ak))⟩
def lj(n:Nat)(rows:30):04:=b44 (872∧h70 (q<n))
theorem adz{rows:30}(h:869){q:Nat}(hi:i<666)(aw:q<n):∃r,775=447∧r[q]?=some (014 i q q)∧014 i q q<n:=by
 have e:775=some rows[i]:=122;rw[A81 (h rows[i] 141)];have aG:i30 i=rows[i]:=by rw[cZ,e];rfl
 have cp:rows[i][q]?=some (rows[i][q]'(03)):=193;have ej:rows[i].getD q q=rows[i][q]'(03):=by rw[cZ,cp];rfl
 rw[aG,ej];exact⟨_,e,cp,ak _ 141⟩
theorem ava(ls:06)(rows:30)(x:06)(c y:Nat):hI ls 17 (x++[c]) y=014 a35 (661 y) (661 y):=by unfold hI;rw[s7];rfl
theorem Rx{n:Nat}{ls:06}{rows:30}(h:869)(ax:666=284):∀{x:06}{y:Nat},(c10 c ls)→y<n→661 y<n|[],y,_,aC=>aC|c::x,y,ai,aC=>by show 661 (014 a35 y y)<n;obtain⟨_,_,_,a6⟩:=adz h (n85 (adA (ai c 237))) aC;exact Rx h ax (f29 (ai d (d4 _ hd))) a6
theorem adB{p:935}{l:40}{x:α}(ai:115=43)(cy:(648).findIdx? p=00)(h:p x=01):h69 p=604:=by have e:l=648++x::735 (i+1):=f64 (162 (i+1) l) ai;have hi:=eI ai;rw[e,avb,cy,zx,h];simp;lia
theorem adC{p:935}{l:40}{x:α}(ai:115=43)(cy:(648).findIdx? p=00)(h:p x=09):(l.take (i+1)).findIdx? p=00:=by rw[dZ ai,avb,cy,zx,h];rfl
structure wH(sy:cv):04 where
 az:sy.letters.Nodup
 cw:j54 (∀c∈m.l,c∈75) (∀c∈m.r,c∈75)
 st:∀x,034→c10 c 75
 gl:∀x,672=43→c10 c 75
theorem sN{w:06}(h:b89 i):∀c∈392,c∈ls:=h63 (by obtain⟨i,hi,rfl⟩:=112 ar;rw[cZ,cA (h i hi)];exact 141)
theorem c3.Ry(h:51):wH 26:=by
 refine⟨498,764,333,333⟩
 ·rw[C32 (112 hm)];have:=h.cw v a3;exact⟨sN this.1.2,sN this.2.2⟩
 ·cases e:s.start with|none=>rw[B78]|some w=>rw[B63 (460=x)];rw[A48];exact sN (h.st w e).2
 ·cases e:s.goal with|none=>rw[B78]|some w=>rw[B63 (460=x)];rw[A48];exact sN (h.gl w e).2
theorem h8.get{l:ag}{s:cv}(h:h8 CM CS H a dx l as s)(aC:f88=270):∃b m dD,325=360∧754=794∧y=281∧H b=e70 CM dD 024:=by
 rw[A58]
 cases e:325 with|none=>rw[A30];cases aC|some b=>rw[A30];have hi:i<303:=i38 e;have hm:754=some b80:=122;obtain⟨dD,hd⟩:=h.cw i b _ e hm;exact⟨b,_,dD,rfl,hm,129 aC,hd⟩
abbrev adD:bK:=bA 2
theorem adE:31 [396,235,"point",h68] c54 adD:=⟨rfl,rfl,rfl,05,rfl,05,05⟩
inductive BM(vs:08)(H:av)(Q:aW)(E:bD):04|mk:∀(d:ag)(as:27)(ls:06)(rows:30)(n:Nat)(x:06)(y:Nat),vs=[602,459,48 y]→nX H d as ls 17→869→(c10 c ls)→y<n→Q (a15 (661 y)) H→BM vs H Q E
theorem avc(D:cq K ah f18 adD c54 f fd):Pr P w K ah 02 aO 1 f18 c54 BM:=by
 rw[A02 adE]
 ·rw[D04];rfl
 ·obtain⟨d,as,ls,rows,n,x,y,rfl,di,ok,ai,aC,k⟩:=h;have S:=adE;have bp:=D2 aq;rw[A01 (239 (e_ eL rfl (Io 62) (98 3 rfl 70) (aM (94 2 (440 (Yr bp 252 85 630) 45)))) 45)];refine⟨_,rfl,_,rfl,acr (x:=713) (701 (σ=[871,493,some (a15 (hI ls 17 d99 y)),v]∧H'=H)) (714 00 rfl) ?_ ?_⟩
  ·rintro i c σ H' ar⟨v,rfl,rfl⟩;rw[IJ]at ar;have jz:=ai c (cG ar);have hi:=adA jz;have aw:=Rx ok di.oV (x:=d99) (h24 (ai e (qp he))) aC;obtain⟨r,af,ak,a6⟩:=adz ok (i:=a35) (by rw[di.oV];exact hi) aw;obtain⟨a,aN⟩:∃a,as[a35]?=532:=126 (by rw[di.len];exact hi);refine⟨_,rfl,_,rfl,d,37,rfl,.inl ⟨_,868,.inl di.y3,rfl,567 (ady jz aN)⟩,_,rfl,a,_,_,a15 (014 a35 (hI ls 17 d99 y) (hI ls 17 d99 y)),rfl,rfl,32 (di.row _ a r aN af),fm (by rw[a_,cK,ak];rfl),some a85,?_,rfl⟩;rw[dZ ar,ava];rfl
  ·rintro σ H'⟨v,rfl,rfl⟩;rw[IJ,eK];rw[A15 k]
abbrev adF:bK:=bA 0x63
theorem adG:31 [396,623,257,256,"point"] [396,623,257,256] adF:=⟨rfl,rfl,rfl,05,rfl,05,05⟩
inductive Ks(vs:08)(H:av)(Q:aW)(E:bD):04|mk:∀(d:ag)(as:27)(ls:06)(rows:30)(n:Nat)(x y:06),vs=[602,b11,459,76 y]→nX H d as ls 17→869→n≤12→(c10 c ls)→(∀c∈y,c∈ls)→446 (apart ls 17 n x y)→Ks vs H Q E
theorem avd(D:cq K ah k82 adF [396,623,257,256] f fd)(O:347)(m7:Pr P w K ah 02 aO 1 f18 c54 BM):Pr P w K ah 02 aO 2 k82 [396,623,257,256] Ks:=by
 rw[A02 adG]
 ·rw[D04];rfl
 ·obtain⟨d,as,ls,rows,n,x,y,rfl,di,ok,aU,ai,aC,k⟩:=h;have S:=adG;rw[A01 (239 (e_ eL rfl (c92 296) (98 4 rfl 70) (aM (bX (bM k4 (437 m7 0 2 4) (437 m7 0 3 4) (bO _)) (65 l8) b2))) l8)];unfold apart at k;refine⟨_,rfl,44,rfl,03,03,xX (lo:=0) (n:=271 44) (701 (σ=[871,610,493,653 y,v]∧H'=H∧((bz i).any (400 (661 p !=hI ls 17 y p)))=09)) h04 ?_ ?_⟩
  ·rintro i σ H' hi⟨v,rfl,rfl,cy⟩;have fc:i<n:=03;rw[show 413+249=249 by lia];refine⟨_,rfl,_,rfl,_,rfl,d,as,ls,17,n,x,i,rfl,di,ok,ai,fc,_,rfl,_,rfl,_,rfl,d,as,ls,17,n,y,i,rfl,di,ok,aC,fc,rfl,_,rfl,?_⟩;rw[kH];have eG:(! 762 (661 i:Nat) (52 (hI ls 17 y i)))=(661 i !=hI ls 17 y i):=by
    rw[A06 (661 i) (hI ls 17 y i)]
    ·rw[e];simp
    ·rw[133];simp[e]
   rw[eG];refine eo 356 356
   ·have:((057).any (400 (661 p !=hI ls 17 y p)))=01:=161 i (g4.mpr fc) h;rw[this]at k;exact k
   ·refine⟨_,rfl,rfl,?_⟩;rw[rv,acZ,cy];simp only[pe,VO,h];rfl
  ·rw[D03];rw[kA]at cy;rw[cy]at k;exact k
inductive Fp(K:bo)(CM:ag)(CS:ag)(vs:08)(H:av)(Q:aW)(E:bD):04|mk:∀(a r:ag)(sy:cv)(as:27),vs=349 (.ref r)→267→H r=247 317→m68 (m85→470≤12→(c57 (H p=00→416=some (.e0 (hF 75 as))→412))→Fp K CM CS vs H Q E)
abbrev sO(H:av)(p:ag)(as:27)(rows:30):04:=kG H p as (rows.map a_)
theorem sO.act{r:ag}{rows:30}(h:sO H r as 17)(e:49)(hd:H' d=some g47)(ax:666=284):nX H' d as ls 17:=⟨hd,by rw[h.len,ba];exact ax,ax,fun i a q af ak=>e _ _ (h.row i a (a_ q) af q31)⟩
abbrev adH:bK:=bA 0x64
theorem adI:31 [35,623,539,396,365,313] 588 adH:=⟨rfl,rfl,rfl,05,rfl,05,05⟩
inductive Fq(CM:ag)(CS:ag)(vs:08)(H:av)(Q:aW)(E:bD):04|mk:∀(a r:ag)(sy:cv)(as:27)(rows:30)(n:Nat),vs=[37,b11,.ref r]→267→269→wH sy→sO H r as 17→666=81→869→n≤12→(jL sy n 17=00→846)→(∀i,jL sy n 17=604→841 (Q 309 H'))→Fq CM CS vs H Q E
theorem ave(D:cq K ah h44 adH 588 f fd)(yr:i94=00)(bJ:268)(e3:nG K CM)(uA:Pr P w K ah 02 aO 1 h31 b83 (Fp K CM CS))(BN:Pr P w K ah 02 aO 2 k82 [396,623,257,256] Ks):Pr P w K ah 02 aO 3 h44 588 (Fq CM CS):=by
 rw[A02 adI]
 ·obtain⟨a,r,sy,as,rows,n,rfl,_⟩:=h;rfl
 ·obtain⟨a,r,sy,as,rows,n,rfl,cg,g,iI,cH,ax,ok,aU,eE,cS⟩:=h;have S:=adI;rw[A01 (389 3 (bj uA 22 bb (77 0 2 ay)) (e_ eL rfl (II K rfl rfl yr 010) (tS K rfl (n:=2) rfl (kX (98 4 rfl 70) (kX (98 5 rfl 70) tH))) (aM (bX (348 (bj BN 22 bb (77 3 1 (258 (633 5) (633 5))))) (65 327) b2))) et)];rw[A41];have t9:m85:=q30;unfold jL at eE cS;refine⟨_,rfl,_,rfl,a,r,sy,as,rfl,cg,d00,iI.az,t9,03,q29 ?_⟩;have di:=cH.act s1 hd ax;rw[B47 518];refine⟨_,rfl,a,CS,dx,_,_,rfl,84,80,471,kE,ls,_,rfl,d77,I3 (K:=K) (a:=ls) (xs:=ms.map 501) (i67 93 (σ=[248,610,46 r,871,v4,ew]∧a95∧(m36).findIdx? (285 (apart 75 17 n m.l m.r))=00)) ⟨00,00,rfl,880 H1,rfl⟩ (p96 (32 (s2 _ _ 301))) ?_ ?_⟩
  ·rintro i y T σ aB aC bR⟨v4,ew,rfl,s2,cy⟩;rw[D02 (aY.get aC)];have s3:=b50 (b06 [309,281]);obtain⟨i1,i2⟩:=iI.cw m a76;have adJ:=83 g_;refine⟨T,_,rfl,e35,rfl,_,_,rfl,_,_,rfl,rfl,?_⟩;refine⟨_,rfl,_,rfl,_,rfl,b,CM,dD,_,_,rfl,adJ,451,814,lO,_,rfl,b,CM,dD,_,_,rfl,adJ,451,k54,yi,d,as,75,17,n,m.l,m.r,rfl,b28 s3,ok,aU,i1,i2,_,rfl,eo 356 356⟩
   ·rw[A15 (cS i (adB hm cy h) _ j11)]
   ·exact⟨_,_,rfl,s3,adC hm cy h⟩
  ·rintro σ aB⟨v4,ew,rfl,s2,cy⟩;rw[C31];exact eE cy aB 332
abbrev adK:bK:=bA 0x65
theorem adL:31 588 588 adK:=⟨rfl,rfl,rfl,05,rfl,05,05⟩
inductive Kt(CM:ag)(CS:ag)(vs:08)(H:av)(Q:aW)(E:bD):04|mk:∀(a r:ag)(sy:cv)(as:27)(rows:30)(n:Nat)(x y:06),vs=[37,b11,.ref r]→267→269→wH sy→sO H r as 17→666=81→869→n≤12→034→672=270→(841 (826 (apart 75 17 n x y) H'))→Kt CM CS vs H Q E
theorem avf(D:cq K ah k57 adK 588 f fd)(bJ:268)(uA:Pr P w K ah 02 aO 1 h31 b83 (Fp K CM CS))(BN:Pr P w K ah 02 aO 2 k82 [396,623,257,256] Ks):Pr P w K ah 02 aO 3 k57 588 (Kt CM CS):=by
 rw[A02 adL]
 ·obtain⟨a,r,sy,as,rows,n,x,y,rfl,_⟩:=h;rfl
 ·obtain⟨a,r,sy,as,rows,n,x,y,rfl,cg,g,iI,cH,ax,ok,aU,ex,f6,k⟩:=h;have S:=adL;rw[A01 (65 (925 BN (bj uA 22 bb (77 0 2 ay)) (aj (J 1) (258 59 59))))];rw[A41];have t9:m85:=q30;refine⟨_,rfl,_,rfl,a,r,sy,as,rfl,cg,d00,iI.az,t9,03,q29 ?_⟩;have di:=cH.act s1 hd ax;rw[B47 518];refine⟨_,rfl,_,rfl,a,CS,dx,_,_,rfl,84,80,879,tV,_,rfl,a,CS,dx,_,_,rfl,84,80,969,tW,?_⟩;rw[ex,f6];exact⟨d,as,75,17,n,x,y,rfl,di,ok,aU,iI.st x ex,iI.gl y f6,k H1 s1⟩
theorem Rz{x:06}{p:Nat}(au:p≤96):avg 713 c87 (11 713) p↔(550 p 63==l)=01:=by
 unfold avg;rw[Zb,dB,dB];rw[A04]
 ·exact 312 h.2
 ·intro h;exact⟨wX au 967,h⟩
theorem avh(x l:06):OG 713 c87=o18 (sT l x) (-1) 863:=by
 unfold OG sT;rcases PySem.StrLaws.occ_head 713 c87 1 (cL 1)with⟨h0,aU⟩|⟨i,r,h0,aN,aU⟩
 ·rw[h0];have:382 (bz e80) (400 (550 p 63==l))=00:=by rw[w_];intro p au h;have au:=154;exact aU p ((Rz 03).mpr h)
  rw[A16]
 ·rw[h0];have hi:i≤96:=by have:=aN.1;rw[dB,dB]at this;lia
  have ai:(bz (x.length+1))[i]?=604:=970 (s6 03);have cy:382 (442 (bz e80)) (400 (550 p 63==l))=00:=by rw[w_];intro p au h;rw[adM]at au;have au:=154;exact aU p 03 ((Rz 03).mpr h)
  rw[Fn ai cy ((Rz hi).mp aN)]
theorem avi{x:06}{p:Nat}(h:sT l x=some p):p+63≤96:=by unfold sT at h;have af:=g4.mp (nq h);have ak:=zG h;exact wX 03 o17
def lk(i j:Nat)(x y z:06):324:=cC b40 (76 z) (cC b41 (76 y) (cC 235 459 (cC 256 (48 j) (cC 257 (48 i) []))))
structure Ku(K:bo)(C:ag):04 where
 cl:h4 K C
 first:245 257
 second:245 256
 word:245 235
 RA:245 b41
 RB:245 b40
theorem avj{x y z:06}:273 (lk i j x y z) 257=71 i:=h67
theorem avk{x y z:06}:273 (lk i j x y z) 256=71 j:=h67
theorem avl{x y z:06}:273 (lk i j x y z) 235=493:=h67
theorem adN{x y z:06}:273 (lk i j x y z) b41=653 y:=h67
theorem adO{x y z:06}:273 (lk i j x y z) b40=653 z:=h67
inductive sP(C:ag)(ls:06)(H:av)(a:ag)(z:nu):04|mk:∀dx,H a=482 C (lk 978 977 (370 b36) (370 h62) (370 h61))→sP C ls H a z
abbrev adP:bK:=343 0x2c 0
theorem avm:31 [352,257,256,235,b41,b40] [352,257,256,235,b41,b40] adP:=⟨rfl,rfl,rfl,05,rfl,05,05⟩
inductive Kv(C:ag)(vs:08)(H:av)(Q:aW)(E:bD):04|mk:∀(p dx:ag)(i j:Nat)(x y z:06),vs=[280,48 i,48 j,459,76 y,76 z]→H p=c80→Q .b4 (264 H p C (lk i j x y z))→Kv C vs H Q E
theorem avn(F:hC K 421 "Meeting.__init__" adP f fd)(M:Ku K C):eP P w K ah 02 aO 1 f fd [352,257,256,235,b41,b40] (Kv C):=by
 rw[A36 avm]
 ·obtain⟨p,dx,i,j,x,y,z,rfl,_⟩:=h;rfl
 ·obtain⟨p,dx,i,j,x,y,z,rfl,au,k⟩:=h;rw[A01 (a60 c03 45 (a60 (557 85) 327 (aM (557 462))))];refine⟨_,rfl,_,rfl,p,C,dx,_,rfl,au,20,M.first,298 0,?_⟩;refine⟨_,rfl,_,rfl,p,C,dx,_,rfl,aI,20,M.second,959,?_⟩;refine⟨_,rfl,_,rfl,p,C,dx,_,rfl,aI,20,M.word,298 2,?_⟩;refine⟨_,rfl,_,rfl,p,C,dx,_,rfl,aI,20,M.RA,298 3,?_⟩;refine⟨_,rfl,_,rfl,p,C,dx,_,rfl,aI,20,M.RB,298 4,?_⟩;rw[gp,gp,gp,gp];exact k
abbrev adQ:bK:=bA 665
theorem adR:31 [35,235,313,226] 551 adQ:=⟨rfl,rfl,rfl,05,rfl,05,05⟩
inductive RC(CM:ag)(CS:ag)(vs:08)(H:av)(Q:aW)(E:bD):04|mk:∀(a:ag)(sy:cv)(x:06),vs=349 459→267→269→e04→Q (tU (iS sy x)) H→RC CM CS vs H Q E
theorem avo(D:cq K ah o16 adQ 551 f fd)(bJ:268)(e3:nG K CM)(kF:Pr P w K ah 02 aO 1 b39 932 e58):Pr P w K ah 02 aO 2 o16 551 (RC CM CS):=by
 rw[A02 adR]
 ·obtain⟨a,sy,x,rfl,_⟩:=h;rfl
 ·obtain⟨a,sy,x,rfl,⟨dx,ls,as,aY⟩,g,ai,k⟩:=h;have eE:iS sy x=00→Q .b4 H:=100 q28;have cS:∀y,iS sy x=270→a87 y H:=k81 q28;have S:=adR;rw[A01 (239 (e_ eL rfl (339 59) (98 2 rfl 70) (018 3 (DZ F.slot_str_find F.type_str_find aok 62 646) (bX (bM Ng (J 3) bu (bO _)) (65 (bj kF 22 bb (77 2 3 296))) b2))) et)];unfold iS at eE cS;refine⟨_,rfl,a,CS,dx,_,_,rfl,84,80,471,kE,ls,rfl,224 301,hN (K:=K) (a:=ls) (xs:=317) (m44 93 (σ=[248,493,v2,fb]∧H'=H∧a68 m36 (285 (b95 (sT m.l x) 719)))) ⟨00,00,rfl,rfl,rfl⟩ (q03 (682 301)) ?_ ?_⟩
  ·rintro i y σ H' aC⟨v2,fb,rfl,rfl,cy⟩;rw[D02 (aY.get aC)];rw[B66 m a76];refine⟨_,rfl,282,_,rfl,b,CM,dD,_,_,rfl,g_,451,814,lO,_,_,rfl,rfl,?_⟩;rw[avh]
   cases gC:sT m.l x with
    |none=>
     refine⟨_,rfl,_,_,rfl,rfl,_,rfl,359⟩
     ·have:=104;exact 69 246 14
     ·exact⟨_,_,rfl,rfl,BL hm cy (by rw[gC];rfl)⟩
    |some p=>
     refine⟨_,rfl,_,_,rfl,rfl,_,rfl,359⟩
     ·exact⟨_,rfl,_,rfl,_,rfl,b,x,m,p,rfl,947 g_,ai,oN,pX,avi gC,cS _ (Fo hm cy (by rw[gC];rfl))⟩
     ·exact 69 (102 (Int.natCast_nonneg p)) h
  ·rintro σ H'⟨v2,fb,rfl,rfl,cy⟩;rw[C31];exact eE cy
abbrev adS:bK:=bA 376
theorem adT:31 [35,235,574,k34] 551 adS:=⟨rfl,rfl,rfl,05,rfl,05,05⟩
def wI(ls:06)(l:List b7):08:=363 (888 (515 854))
structure uT(s:dt)(ws:10)(v:b7):04 where
 wf:454 v
 Fs:734+12*js ws v≤979
theorem uT.step(h:51)(f:562){v u:b7}(t:uT s ws v)(e:hy s v=56):uT s ws u:=⟨VD h t.wf e,cX (VE h f e) t.Fs⟩
def adU(ls:06)(o:241 b7):ae:=match o with|none=>.b4|some u=>76 (370 u)
theorem adV(s:dt)(h:51){u:b7}(bp:454 u):tU (iS 26 b02)=adU 60 (hy s u):=by
 rw[aje h bp]
 cases hy s u with|none=>rfl|some y=>rfl
inductive Kw(CM:ag)(CS:ag)(vs:08)(H:av)(Q:aW)(E:bD):04|mk:q27 10 (vs=349 e48→597→51→562→uT s ws v→(c57 (416=247 (wI 60 (rJ s ws v))→412))→Kw CM CS vs H Q E)
theorem avp(D:cq K ah k75 adS 551 f fd)(Kx:Pr P w K ah 02 aO 2 o16 551 (RC CM CS)):Pr P w K ah 02 aO 3 k75 551 (Kw CM CS):=by
 rw[A29 adT]
 ·rw[D01];rfl
 ·rw[D00];have S:=adT;rw[A01 (90 2 (cN 296) (94 3 (bj Kx 22 bb (77 0 1 ay))) (239 (tI eL (bM tK (J 3) et (bO _)) (434 (fK (hD K rfl h9 sD sE qQ 45 845)) (94 3 (bj Kx 22 bb (77 0 3 ay))))) 45))];have g:=wf.ok;refine⟨_,rfl,371,263⟩;rw[A63 [e48] au];have yo:334 H p [e48] p=247 [e48]:=aI;have hE:∀{dM:av}{o:dz},786→aA H (upd dM p o):=fun{dM o:_}e b u z=>364 (110 z au) (e b u z);generalize 34 H p [e48]=H1 at s1 yo⊢;refine⟨_,rfl,_,rfl,a,26,95,rfl,aY.same s1,g,by rw[eA];have:=uB.Fs;lia,?_⟩;rw[adV s wf uB.wf];rw[B72 (∃(b1:List b7)(u:b7),σ=[248,653 95,444,some (adU 60 (hy s u))]∧m=js ws u∧49∧416=247 (wI 60 (b1++[u]))∧rJ s ws v=b1++rJ s ws u∧uT s ws u∧o03+js ws u≤js ws v) ⟨_,[],v,rfl,rfl,s1,yo,rfl,uB,19⟩];rintro m σ aB⟨b1,u,rfl,rfl,s2,l1,hw,JZ,ax⟩;have hlen:js ws v≤979:=by have:=uB.Fs;lia
  cases e:hy s u with
   |none=>refine⟨_,rfl,rfl,_,rfl,b_ (123 (k aB p s2 ?_))⟩;rw[hw,VF c9,e];exact l1
   |some y=>
    refine⟨_,rfl,rfl,_,rfl,c8 ⟨_,a26,?_⟩⟩;refine⟨_,rfl,329 l1,_,rfl,p,_,_,rfl,rfl,l1,?_,?_⟩
    ·rw[wI,ba,cn];rw[A14 (show 255 by simp;lia)]
    ·have ty:=JZ.step wf c9 e;have wl:=GS c9 e;refine⟨_,rfl,_,rfl,a,26,292 y,rfl,aY.same (hE s2),g,by rw[eA];have:=ty.Fs;lia,?_⟩;rw[adV s wf ty.wf];refine⟨js ws y,wl,b1++[u],y,rfl,rfl,hE s2,?_,?_,ty,?_⟩
     ·rw[aI];congr 2;unfold wI;rw[d5 (l₂:=[y])];rfl
     ·rw[hw,VF c9 u,e,jo];rfl
     ·rw[cn];show o03+1+_≤_;lia
abbrev adW:bK:=bA 0x2f
theorem adX:31 551 551 adW:=⟨rfl,rfl,rfl,05,rfl,05,05⟩
inductive Ft(CM:ag)(CS:ag)(vs:08)(H:av)(Q:aW)(E:bD):04|mk:q27 10 (vs=349 e48→597→51→562→uT s ws v→(841 (a87 (292 780) H'))→Ft CM CS vs H Q E)
theorem adY(s:dt)(ws:10)(v:b7):pN (wI 60 (rJ s ws v)) (-1)=653 (292 780):=by obtain⟨u,af,ak,a6⟩:=VH s ws v;obtain⟨ys,e⟩:=List.getLast?_eq_some_iff.mp af;rw[ak,e,wI,d5];exact alZ _ _
theorem avq(D:cq K ah h58 adW 551 f fd)(BO:Pr P w K ah 02 aO 3 k75 551 (Kw CM CS)):Pr P w K ah 02 aO 4 h58 551 (Ft CM CS):=by
 rw[A29 adX]
 ·rw[D01];rfl
 ·rw[D00];have S:=adX;rw[A01 (65 (440 (bj BO 22 bb (77 0 1 ay)) (Nd Nf bu)))];exact⟨_,rfl,_,rfl,a,s,ws,v,rfl,aY,wf,c9,uB,fun H1 p s1 au=>⟨_,rfl,p,_,_,_,rfl,rfl,32 au,adY s ws v,k H1 s1⟩⟩
theorem c2.len{R:712}{a:40}{b:522}(h:c2 R a b):n04:=by induction h with|nil=>rfl|cons _ _ ih=>rw[dR,dR,ih]
theorem c2.get{R:712}{a:40}{b:522}(h:c2 R a b):∀{i:Nat}{x:α},a[i]?=43→∃y,b[i]?=270∧R x y:=by
 induction h with
  |nil=>intro i x e;simp at e
  |cons r _ ih=>
   intro i x e
   cases i with|zero=>have e:=cI e;subst e;rw[A15 r]|succ i=>exact ih e
theorem c2.mono{R S:712}{a:40}{b:522}(h:c2 R a b)(f:∀x y,R x y→S x y):c2 S a b:=by induction h with|nil=>rw[A40]|cons r _ ih=>exact 919 (f _ _ r)
structure uC(C:ag)(ls:06)(H:av)(p:ag)(bs:27)(zs:c48):04 where
 lst:H p=036
 mt:c2 (sP C ls H) bs zs
theorem sP.keep{z:nu}(h:sP C ls H a z)(au:H p=525)(e:374 (H b) (b≠p→244=25)):sP C ls H' a z:=q26 ⟨dx,e _ _ h (355 h au)⟩
theorem sP.same{z:nu}(h:sP C ls H a z)(e:49):sP C ls H' a z:=q26 ⟨dx,e _ _ h⟩
theorem Ky{x:ag}{o0 o1 o2:dz}(ai:H x=00)(yY:H dx=00):aA H (upd (761 dx o0 x o1) x o2):=d08 (j85 (117 ai) (117 ai) yY)
theorem avr(x y:06):DY 713 (aP y)=(813 b43==y):=by
 unfold DY;rw[Zb,dB,dB];show(555 (0+b43) 96&&(550 0 b43==y))=_;rw[avs];rw[A39 (b43≤96)]
 ·rw[145];rfl
 ·rw[133];refine 567 (Fu.mpr (16 (h ?_)));have:=137 191;rw[eS]at this;lia
structure Kz(s:dt):04 where
 no:k80 (980=09∧669=09)
theorem KA{l:ag}(h:h8 CM CS H a dx l as 26){m:ez}(hm:754=794):∃b dD,f88=46 b∧H b=e70 CM dD (iE 852):=by
 have kM:(26).moves[i]?=some 852:=by rw[Cp,hm];rfl
 have hi:i<470:=by rw[h.len];exact eI kM
 obtain⟨dD,e⟩:=h.cw i _ _ 122 kM;exact⟨as[i],dD,by rw[cK,122];rfl,e⟩
abbrev RD:bK:=bA 0x31
theorem adZ:31 [35,257,256,"outer",h43,235,226] 753 RD:=⟨rfl,rfl,rfl,05,rfl,05,05⟩
inductive Fv(C:ag)(CM:ag)(CS:ag)(f:240 (240 (ez→ez→c48)))(vs:08)(H:av)(Q:aW)(E:bD):04|mk:∀(a:ag)(s:dt)(i j:Nat)(b8 cB:ez),vs=[37,48 i,48 j]→597→51→Kz s→754=some b8→k77 j=some cB→(k59 (49→H p=00→uC C 60 H' p bs (f i j b8 cB)→412))→Fv C CM CS f vs H Q E
theorem avt(D:cq K ah o14 RD 753 f fd)(bJ:268)(e3:nG K CM)(RE:mf P w K ah 02 aO 1 C o15 [352,257,256,235,b41,b40] (Kv C))(tX:Pr P w K ah 02 aO 1 h66 483 (Ea CM))(kF:Pr P w K ah 02 aO 1 b39 932 e58):Pr P w K ah 02 aO 3 o14 753 (Fv C CM CS rK):=by
 rw[A29 adZ]
 ·rw[C99];rfl
 ·rw[C98];have S:=adZ;rw[A01 (aF (318 (bM fv (J 1) 45 (bO _)) ay) (aF (952 3 (a52 62)) (516 (952 4 j81) (952 5 842) (k9 rfl 242 (339 (bj tX 22 bb (77 4 5 ay))) (own:=[(226,6)]) (295 [35,257,256,"outer",h43,235,226] RD) (924 6) 369 (286 (pU RE 22 bb (77 1 2 (aj (J 5) (258 842 (437 kF 4 6 5))))))))))];refine⟨_,rfl,_,rfl,rfl,_,rfl,?_⟩;rw[kH];refine eo 356 356
  ·have e:i=j:=564 104;subst e;have em:b8=cB:=cI (hi.symm.trans bS);subst em;rw[ajj]at k;exact⟨229,367 (k _ p [] 116 au ⟨aI,89⟩)⟩
  ·have ne:i≠j:=100 (by rw[e,167]at h;cases h);rw[B35 cg];obtain⟨b9,jW,af,sQ⟩:=KA aY hi;obtain⟨dj,iC,ak,kM⟩:=KA aY bS;have jO:=g57 b8 hi;have l3:=g57 cB bS;have ad0:=fr.no cB (cG bS);have eY:156 456:=by rw[eA];exact jO.1.1
   have dW:m57≤12:=d42 (cd _ _) 12 l3.1.1;have VN:i23 693≤12:=d42 (cd _ _) 12 l3.2.1;have sG:=ajk 812 ne ad0.1 ad0.2 jO.1.2 l3.1.2;rw[sG]at k;refine⟨_,rfl,a,CS,dx,_,_,rfl,84,80,471,kE,_,rfl,ls,_,_,.ref b9,rfl,rfl,d77,fm af,?_⟩;refine⟨_,rfl,a,CS,dx,_,_,rfl,84,80,471,kE,_,rfl,ls,_,_,.ref dj,rfl,rfl,d77,fm ak,?_⟩;refine⟨_,rfl,b9,CM,jW,_,_,rfl,sQ,451,814,lO,?_⟩;refine⟨_,rfl,_,rfl,dj,456,693,rfl,⟨iC,kM⟩,03,dW,330 ⟨q,rfl,224 aI,436⟩⟩;have s1:=593 (eR 693 456) aw;have pY:334 H q (a_ (eR 693 456)) q=259 (eR 693 456):=aI;have pl:11 (eR 693 456)≤0xd:=by unfold eR;refine 164 _ _;rw[iP];lia
   have m_:∀p∈eR 693 456,p+m57≤11 456:=367 (Gs au);generalize eR 693 456=ps at pl m_ k s1 pY cO⊢;generalize 322 H q ps=H1 at s1 pY cO⊢;refine kC (K:=K) (a:=q) (xs:=a_ ps) (fun n H'=>a95∧∃bs:27,H' D=036∧889=n∧c2 (sP C 60 H') bs (222 (ps.map (400 (q25 (l69 p (b37++f80 p)):nu))) n)) ⟨832,[],aI,rfl,89⟩ (fun n H' _⟨s2,_⟩=>32 (s2 _ _ pY)) ?_ ?_
   ·rintro n y aB aC⟨s2,bs,fp,hR,f7⟩;obtain⟨p,au,rfl⟩:=v3 aC;have qc:=332;refine⟨rfl,_,rfl,_,rfl,_,rfl,_,rfl,b9,CM,jW,_,_,rfl,qc _ _ sQ,451,k54,yi,_,rfl,_,rfl,_,rfl,dj,456,693,p,rfl,⟨iC,qc _ _ kM⟩,03,dW,VN,m_ p (cG au),q23 ⟨x,dx,i,j,456,i93,_,rfl,aI,rfl,?_⟩⟩;rw[Cn];have s3:=k46 641 (799 []) (799 (lk i j 456 i93 (e42 p (b37++f80 p)))) ai yY;have aU:=eI au;have oP:=83 fp;have Fw:upd (264 (upd aB dx 641) x C []) x (799 (lk i j 456 i93 (e42 p (b37++f80 p)))) x=_:=aI;generalize 264 (264 (upd aB dx 641) x C []) x C (lk i j 456 i93 (e42 p (b37++f80 p)))=a5 at s3 oP Fw⊢;refine⟨_,oP,?_,923,bs++[x],?_,q00,?_⟩
    ·rw[ba,hR];rw[A14 (show 255 by lia)]
    ·rw[110 z cO];exact 83 (s2 _ _ z)
    ·rw[A52];rfl
    ·rw[dZ (x:=(q25 (l69 p (b37++f80 p)):nu)) (by rw[cK,au];rfl)];have avu:x≠D:=16 (by rw[z,fp]at ai;cases ai);refine e50 (f7.mono (k78 ((aa.same s3).keep oP (d60 aa z)))) ⟨dx,41 avu Fw⟩
   ·rintro aB⟨s2,bs,fp,hR,f7⟩;have c4:d70 (a_ ps):=hn ps;rw[c4,sj (n96 64)]at f7;exact k aB D bs 332 (f23 cO) ⟨fp,f7⟩
theorem aAS:rT "min"=some (399 "min"):=05
def avv(i j:Nat)(a b:ez)(o:Nat):nu:=l91 (088++996) h65 996 (i62 o++d11)
theorem avw(az:ls.Nodup){a b:ez}(jO:904 088)(l3:904 f28){o:Nat}(a8:o≤541)(ad1:o≤b42):DY (aP (370 f28)) (aP (472 n08 (541-o)))=29 (i66 o=i91):=by rw[avr,fV,eA,show 541-(541-o)=o by lia,←Gg,←Cj];rw[hu,beq_iff_eq,decide_eq_true_eq,LP az (618 (l3 i (qp hi))) (618 (jO i (u0 hi)))];exact⟨312 h.symm,312 h.symm⟩
theorem avx(ls:06)(a b:ez)(o:Nat):fJ (cY ls a) 0 (370 (088++996))=370 (h65++996):=by rw[Cn,List.take_zero,avs,GY];rfl
theorem avy(ls:06){a b:ez}{o:Nat}(a8:o≤541)(h:i66 o=i91):fJ (cY ls b) (541-o) (370 (088++996))=370 (i62 o++d11):=by rw[Cn,List.take_append_of_le_length 03,List.drop_append_of_le_length 03,h,om,aa9,nh]
theorem avz{o:Nat}(h:o≤n):44-15 o=52 (n-o):=03
abbrev ad2:bK:=bA 0x32
theorem ad3:31 [35,257,256,"ahead",815,726,"shared",226,235] 753 ad2:=⟨rfl,rfl,rfl,05,rfl,05,05⟩
theorem avA(D:cq K ah o13 ad2 753 f fd)(O:347)(avB:ah "min"=00)(bJ:268)(e3:nG K CM)(RE:mf P w K ah 02 aO 1 C o15 [352,257,256,235,b41,b40] (Kv C))(kF:Pr P w K ah 02 aO 1 b39 932 e58):Pr P w K ah 02 aO 3 o13 753 (Fv C CM CS vh):=by
 rw[A29 ad3]
 ·rw[C99];rfl
 ·rw[C98];have S:=ad3;rw[A01 (90 3 (a52 62) (94 4 j81) (389 5 556 (e_ eL rfl (M5 rfl 971 (258 bu (d6 (alk rfl) 66 avB aAS (258 (064 842) (064 (633 4)))))) (98 6 rfl 70) (018 7 (eu r7 (064 842) 867) (bX (348 (DZ F.slot_str_startswith F.type_str_startswith aoj (633 4) (pM Iy 842 (ma (J 7)) vJ))) (018 8 (eu Nk 842 (pM Iy (633 4) (ma 867) vJ)) (fK (hD K rfl h9 sD sE qQ 462 (78 (pU RE 22 bb (77 1 2 (aj (J 8) (258 (bj kF 22 bb (aj (J 3) (c35 bu 8))) (437 kF 4 7 8))))))))) b2))) 462))];rw[B35 cg];obtain⟨b9,jW,af,sQ⟩:=KA aY hi;obtain⟨dj,iC,ak,kM⟩:=KA aY bS;have jO:=g57 b8 hi;have l3:=g57 cB bS;have cR:=jO.1.1;have dS:=l3.1.1;have oI:11 (aP 456)=671:=by rw[dB,eA]
  have lN:11 (aP g00)=b38:=by rw[dB,eA]
  have bU:f27 i79≤12:=by show 156 (cd _ _);rw[eA];exact cR
  have cT:i23 i79≤12:=d42 (cd _ _) 12 jO.2.1;have h2:m57≤12:=by show 156 (cd _ _);rw[eA];exact dS
  have i7:i23 693≤12:=d42 (cd _ _) 12 l3.2.1;rw[ajl]at k;refine⟨_,rfl,a,CS,dx,_,_,rfl,84,80,471,kE,_,rfl,ls,_,_,.ref b9,rfl,rfl,d77,fm af,?_⟩;refine⟨_,rfl,a,CS,dx,_,_,rfl,84,80,471,kE,_,rfl,ls,_,_,.ref dj,rfl,rfl,d77,fm ak,?_⟩;rw[A33 697];rw[A63 [] bk];have avC:=s1 _ _ sQ;have avD:=s1 _ _ kM;have hE:∀{dM:av}{o:dz},786→aA H (upd dM t o):=fun{dM o:_}e b u z=>364 (110 z bk) (e b u z);refine⟨_,rfl,b9,CM,jW,_,_,rfl,avC,451,814,lO,_,rfl,jB (m20 c22),_,rfl,dj,CM,iC,_,_,rfl,avD,451,814,lO,_,rfl,jB (by rw[214 g73];exact dS),?_⟩;rw[204 c22,214 g73];have em:(13 (15 b38<15 671) (15 b38) (15 671))=52 i64:=q24;refine⟨_,_,rfl,?_⟩;rw[em];have avE:i64≤671:=Nat.min_le_left _ _;have avF:i64≤b38:=Ah _ _;unfold TS at k;generalize i64=Fx at avE avF k⊢;refine⟨1,15 Fx,rfl,⟨03,03,03,03⟩,xX (lo:=1) (n:=271 (15 Fx-1)) (fun n σ H'=>∃(v6 fM ia:93)(bs:27),σ=[248,71 i,71 j,46 b9,46 dj,530,v6,fM,ia]∧49∧889≤n∧uC C 60 H' t bs ((g71 n (737 (i61 (i57 o) o))).map (avv i j b8 cB))) ⟨00,00,00,[],rfl,s1,229,aI,89⟩ ?_ ?_⟩
  ·rintro n σ aB aU⟨v6,fM,ia,bs,rfl,s2,hR,jc⟩;have Wg:n+1<Fx:=03;have RF:n+1≤671:=03;have ad1:n+1≤b38:=03;rw[show 15 1+44=52 (n+1)by lia];have i0:∀c,i61 (i57 (n+1)) (n+1)=c→(g71 (n+1) (737 (i61 (i57 o) o)))=(g71 n (737 (i61 (i57 o) o)))++(39 c [n+1] []):=h63 (by rw[rv,d5,s8];congr 1;show UA _ [1+n]=_;rw[tp 1 n,iO,ar];cases c<;>rfl);have KC:=106 sQ;have RG:=106 kM;refine⟨_,rfl,b9,CM,jW,_,_,rfl,KC,451,814,lO,_,rfl,jB (m20 c22),_,rfl,_,_,rfl,rfl,?_⟩;rw[204 c22];rw[A71];rw[avz RF];refine⟨_,rfl,dj,CM,iC,_,_,rfl,RG,451,814,lO,282,_,rfl,b9,CM,jW,_,_,rfl,KC,451,814,lO,_,rfl,_,rfl,_,rfl,jB (m20 c22),_,_,rfl,rfl,_,rfl,?_⟩;rw[88 (tR c22 (920 (671-(n+1):Nat)) 00=aP (472 456 (671-(n+1)))) (OV (by rw[108 i81 456,eA];lia))];rw[88 (DY g73 _=_) (avw 812 jO.1.2 l3.1.2 RF ad1)];refine eo e68 e68
   ·have he:=m11;have lw:11 (087++828 n 1)≤533:=by rw[cn,fV];lia
    refine⟨_,rfl,b9,CM,jW,_,_,rfl,KC,451,814,lO,_,rfl,dj,CM,iC,_,_,rfl,RG,451,814,lO,_,rfl,_,rfl,_,rfl,jB (by rw[214 g73];exact dS),?_⟩;rw[88 (tR g73 (920 (n+1:Nat)) 00=aP (472 g00 (n+1))) (OV (by rw[108 m43 g00,eA];lia))];have nj:c22++aP (472 g00 (n+1))=aP (292 (087++828 n 1)):=by rw[q0,T6,Cj];rfl
    refine⟨_,_,rfl,rfl,?_,?_⟩
    ·rw[dB,dB,fV,eA,108 i81 456,eA];rw[A56]
    rw[nj];have lc:11 (292 (087++828 n 1))≤533:=by rw[eA];exact lw
    refine⟨_,rfl,329 f25,_,rfl,_,rfl,_,rfl,_,rfl,_,rfl,b9,292 (087++828 n 1),i79,0,rfl,⟨jW,KC⟩,03,bU,cT,?_,_,rfl,_,rfl,_,rfl,dj,292 (087++828 n 1),693,671-(n+1),rfl,⟨iC,RG⟩,03,h2,i7,?_,q23 ?_⟩
    ·rw[eA,cn,108 i81 456,eA];lia
    ·rw[eA,cn,fV,108 m43 g00,eA];lia
    ·rw[avx,avy 60 RF he];refine⟨x,dx,i,j,_,_,_,rfl,aI,rfl,?_⟩;have s3:=k46 641 (799 []) (799 (lk i j (292 (087++828 n 1)) (292 (k79++828 n 1)) (e42 (671-(n+1)) b37))) ai yY;have Fw:upd (264 (upd aB dx 641) x C []) x (799 (lk i j (292 (087++828 n 1)) (292 (k79++828 n 1)) (e42 (671-(n+1)) b37))) x=_:=aI;generalize 264 (264 (upd aB dx 641) x C []) x C (lk i j (292 (087++828 n 1)) (292 (k79++828 n 1)) (e42 (671-(n+1)) b37))=a5 at s3 Fw⊢;have mm:=83 f25;have avG:x≠t:=16 (by rw[z,jc.lst]at ai;cases ai);refine⟨t,_,_,rfl,rfl,mm,?_,_,_,_,bs++[x],rfl,hE 685,by rw[cn];show 889+1≤_;lia,?_,?_⟩
     ·rw[ba];rw[A14 (show 255 by lia)]
     ·rw[A52];rfl
     ·rw[i0 01 ar,d5];exact e50 (jc.mt.mono (k78 ((aa.same s3).keep mm (d60 aa z)))) ⟨dx,41 avG Fw⟩
   ·rw[i0 09 ar];exact⟨_,_,_,bs,rfl,s2,03,f25,by simpa using jc.mt⟩
  ·rintro σ aB⟨v6,fM,ia,bs,rfl,s2,hR,jc⟩;rw[A50 (271 (15 Fx-1)=Fx-1)];rw[e]at jc;rw[A15 (k aB t bs s2 bk jc)]
theorem uC.ext{bP:av}{bs ps:27}{zs ys:c48}(h:uC C ls aB t bs zs)(s4:aA aB bP)(g:uC C ls bP p ps ys):uC C ls (34 bP t (478++992)) t (bs++ps) (zs++ys):=by have bk:=103 572;rw[A03 k50 (((h.mt.mono (k78 ((aa.same s4).keep bk (d60 aa z))))).app (g.mt.mono (k78 (aa.keep bk (d60 aa z)))))]
theorem ad4{a b:ez}(h:541≤12):11 (rK i j a b)≤0xd:=by unfold rK;refine cX (adb _ _) ?_;rw[iP];lia
theorem ad5{a b:ez}(h:541≤12):156 (vh i j a b):=by unfold vh;refine cX (adb _ _) ?_;rw[iP];lia
theorem Fy{α β:272}{f:α→522}{k:Nat}:921 (645 (11 (f x)≤k)→11 g06≤63*k)|[],_=>19|a::l,h=>by rw[ta,cn,dR,pq,pv,tp];exact aba (Fy 849) (127 a)
theorem avH(h:51)(i j:Nat):11 (xu s i j)≤0x19:=by cases hi:754 with|none=>unfold xu;rw[hi];simp|some a=>cases bS:k77 j with|none=>unfold xu;rw[hi,bS];simp|some b=>have jO:=(h.cw a (cG hi)).1.1;have:=ad4 (i:=i) (j:=j) (b:=b) jO;have:=ad5 (i:=i) (j:=j) (b:=b) jO;rw[ME s hi bS,cn];lia
def uD(s:dt)(i j:Nat):c48:=670 (bz j) (131 (xu s i y))
def BP(s:dt)(i:Nat):c48:=670 (bz i) (72 (uD s x 303))
theorem ad6(h:51)(i j:Nat):11 (uD s i j)≤j*0x19:=by have:=Fy (f:=131 (xu s i y)) (k:=0x19) (l:=bz j) (fun y _=>avH h i y);rw[iP]at this;exact this
theorem avI(h:51)(i:Nat):11 (BP s i)≤i*0xc8:=by have:=Fy (f:=72 (uD s x 303)) (k:=0xc8) (l:=bz i) (k36 (by have:=ad6 h x 303;have:=h.mx;lia));rw[iP]at this;rw[A10]
theorem avJ(s:dt)(i j:Nat):uD s i (j+1)=uD s i j++xu s i j:=by unfold uD;rw[rv,w7];simp
theorem avK(s:dt)(i:Nat):BP s (i+1)=BP s i++uD s i 303:=by unfold BP;rw[rv,w7];simp
theorem KD(f:562){v:b7}(h:454 v∧734≤533):uT s ws v:=q22 (328 h.1) (VI f v) h.2
theorem RH(h:51)(f:10→Cm):(wF 26≠0∧wJ s f=[wF 26])∨(wF 26=0∧Kz s∧∃ws,xg s=some ws∧562∧wJ s f=f ws):=by
 have e:(m47 26 (m.b||m.e))=s.moves.any (285 (980||669)):=by show(f26 i96).any _=_;rw[u6];rfl
 unfold wF wJ;rw[e,U8 h];rw[B16 (s.moves.any (285 (980||669)))]
 ·rw[160,160];rw[A23 14 rfl]
 ·rw[177,177]
  cases hd:xg s with|none=>rw[A23 (c99 101) (970 101)]|some ws=>refine .inr ⟨970 144,⟨764⟩,ws,rfl,ajg hd,rfl⟩;have aa:=Fu.mpr aa;rw[Gj]at aa;have:=aa m hm;cases aK:m.first<;>cases aG:m.last<;>simp[aK,aG]at this⊢
abbrev ad7:bK:=bA 0x30
theorem ad8:487 [35,726,257,256] ad7:=⟨rfl,rfl,rfl,05,rfl,05,05⟩
inductive RI(C:ag)(CM:ag)(CS:ag)(vs:08)(H:av)(Q:aW)(E:bD):04|mk:o08 (vs=254→597→51→Kz s→(k59 (49→uC C 60 H' p bs (CT s)→412))→RI C CM CS vs H Q E)
theorem avL(D:cq K ah o12 ad7 50 f fd)(O:347)(bJ:268)(RJ:Pr P w K ah 02 aO 3 o14 753 (Fv C CM CS rK))(RK:Pr P w K ah 02 aO 3 o13 753 (Fv C CM CS vh)):Pr P w K ah 02 aO 4 o12 50 (RI C CM CS):=by
 rw[A29 ad8]
 ·rw[C25];rfl
 ·obtain⟨a,s,rfl,cg,wf,fr,k⟩:=h;have S:=ad8;rw[A01 (389 1 556 (e_ eL rfl (c92 (78 c91)) (98 2 rfl 70) (aM (e_ eL rfl (c92 (78 c91)) (98 3 rfl 70) (434 (fK (hD K rfl h9 nK nL nE 62 (78 (437 RJ 0 2 3)))) (fK (hD K rfl h9 nK nL nE 62 (78 (437 RK 0 2 3)))))))) 62)];have vi:=wf.mx;rw[B35 cg];have t9:470=303:=by rw[aY.len];show 11 003=_;rw[ba]
  rw[A33 697];rw[A63 [] bk];have hE:∀{dM:av}{o:dz},786→aA H (upd dM t o):=fun{dM o:_}e b u z=>364 (110 z bk) (e b u z);refine⟨_,rfl,a,CS,dx,_,_,rfl,s1 _ _ 84,80,471,kE,ls,_,rfl,306 (s1 _ _ 301),?_⟩;rw[ba,t9];refine⟨f85,rfl,03,03,xX (lo:=0) (n:=271 f85) (504 (∃(v2 fb:93)(bs:27),σ=[248,530,v2,fb]∧49∧uC C 60 H' t bs (BP s i))) ⟨00,00,[],rfl,s1,aI,89⟩ ?_ ?_⟩
  ·rintro i σ aB hi⟨v2,fb,bs,rfl,s2,jc⟩;have qr:i<303:=03;have aBZ:=avI wf i;refine⟨_,rfl,a,CS,dx,_,_,rfl,106 84,80,471,kE,ls,_,rfl,306 (106 301),?_⟩;rw[ba,t9];refine⟨f85,rfl,03,03,xX (lo:=0) (n:=271 f85) (f17 (∃(fb:93)(bs:27),σ=[248,530,601 (0+249),fb]∧49∧uC C 60 H' t bs (BP s i++uD s i j))) ⟨fb,bs,rfl,s2,f25,by simpa[uD]using jc.mt⟩ ?_ ?_⟩
   ·rintro j σ a5 bS⟨AL,cs,rfl,s3,y4⟩;have aaD:j<303:=03;have aB0:=ad6 wf i j;have jz:=y4.mt.len;rw[cn]at jz;rw[show 413+249=249 by lia,show 413+15 j=15 j by lia];have iI:=cA qr;have RL:=cA aaD;have jO:=(g57 _ iI).1.1;have aB1:=ad4 (i:=i) (j:=j) (b:=j72) jO;have aB2:=ad5 (i:=i) (j:=j) (b:=j72) jO;have sG:=ME s iI RL;generalize b80=b8 at*;generalize j72=cB at*;refine⟨_,rfl,329 y4.lst,_,rfl,_,rfl,_,rfl,a,s,i,j,b8,cB,rfl,622 s3,wf,fr,iI,RL,fun bP p ps s4 mU dH=>?_⟩;have eH:=dH.mt.len;refine⟨t,p,_,_,rfl,rfl,103 y4.lst,dH.lst,?_,?_⟩
    ·rw[ba,ba];rw[A37 (show _≤3000 by lia)]
    have KG:=y4.ext s4 dH;have s5:aA H (34 bP t (634++992)):=hE b87;generalize 34 bP t (634++992)=de at KG s5⊢;refine⟨_,rfl,329 KG.lst,_,rfl,_,rfl,_,rfl,a,s,i,j,b8,cB,rfl,622 s5,wf,fr,iI,RL,fun ft q dg cW oW g6=>?_⟩;have avM:=g6.mt.len;refine⟨t,q,_,_,rfl,rfl,310 KG.lst,g6.lst,?_,_,(cs++ps)++dg,rfl,hE j10,?_⟩
    ·rw[ba,ba,cn];rw[A37 (show _≤3000 by lia)]
    ·rw[avJ,sG,←jo,←jo];exact KG.ext cW g6
   ·rintro σ a5⟨AL,cs,rfl,s3,y4⟩;rw[kA]at y4;rw[avK];exact⟨_,_,cs,rfl,s3,y4⟩
  ·rintro σ aB⟨v2,fb,bs,rfl,s2,jc⟩;rw[kA]at jc;rw[A15 (k aB t bs s2 jc)]
abbrev ad9:bK:=bA 0x33
theorem aea:487 [35,"meeting"] ad9:=⟨rfl,rfl,rfl,05,rfl,05,05⟩
inductive KH(C:ag)(CM:ag)(CS:ag)(vs:08)(H:av)(Q:aW)(E:bD):04|mk:∀(a:ag)(s:dt)(ws:10),vs=254→597→51→Kz s→562→(uE s ws=00→846)→(∀z,uE s ws=415→∀H' b,49→sP C 60 H' b z→435 b)→KH C CM CS vs H Q E
theorem aeb{v u:06}(az:ls.Nodup)(a3:904 v)(bp:904 u):b76 854 (370 u)=29 (v=u):=by
 rw[A06 v u]
 ·rw[e,167,167]
 ·rw[132,150 (e (Ci az a3 bp (Jf k76)))]
theorem avN(D:cq K ah k74 ad9 50 f fd)(M:Ku K C)(RM:Pr P w K ah 02 aO 4 o12 50 (RI C CM CS))(qd:Pr P w K ah 02 aO 4 h58 551 (Ft CM CS)):Pr P w K ah 02 aO 5 k74 50 (KH C CM CS):=by
 rw[A29 aea]
 ·obtain⟨a,s,ws,rfl,_⟩:=h;rfl
 ·obtain⟨a,s,ws,rfl,cg,wf,fr,c9,eE,cS⟩:=h;have S:=aea;rw[A01 (239 (711 (340 RM) 1 (bM k4 (552 qd 0 358) (552 qd 0 358) (bO _)) 62) et)];unfold uE at eE cS;have aec:∀z∈CT s,VK 36 z:=b35 (VL wf hz);refine⟨_,rfl,a,s,rfl,cg,wf,fr,fun H1 p bs s1 jc=>?_⟩;generalize CT s=zs at eE cS aec jc;refine⟨p,rfl,224 f25,hN (K:=K) (a:=p) (xs:=478) (701 (σ=[248,v]∧a95∧382 (zs.take i) (16 (a40 !=a41))=00)) (e79 (880 H1)) (fun i σ H' _⟨_,_,s2,_⟩=>32 (s2 _ _ f25)) ?_ ?_⟩
  ·rintro i y σ aB aC⟨v,rfl,s2,cy⟩;rw[B11 (bs[i]?=360∧y=281) (by
    rw[A58]
    cases e:bs[i]? with|none=>rw[A30];cases aC|some b=>rw[A30];rw[A76 b aC])];obtain⟨z,hz,dD,g_⟩:=jc.mt.get aa;have ok:=aec z (cG hz);have t1:=KD c9 ok.l;have jt:=KD c9 ok.r;have kM:=106 g_;refine⟨_,rfl,_,rfl,b,C,dD,_,_,rfl,kM,20,M.RA,adN,a,s,ws,h62,rfl,(518).same s2,wf,c9,t1,n87 ?_⟩;have uq:=83 kM;refine⟨_,rfl,_,rfl,b,C,dD,_,_,rfl,uq,20,M.RB,adO,a,s,ws,h61,rfl,((518).same s2).same s3,wf,c9,jt,k61 ⟨rfl,_,rfl,?_⟩⟩;rw[aeb 812 (GU wf ws ok.l.1) (GU wf ws ok.r.1)];have eG:(! 29 (a40=a41))=(a40 !=a41):=by
    rw[A06 a40 a41]
    ·rw[e];simp
    ·rw[132];simp[e]
   rw[eG];refine eo 356 356
   ·rw[A15 (cS z (Fn hz cy h) bP b (547 332 s3 s4) (947 (103 uq)))]
   ·exact⟨_,rfl,38 685 s4,y2 hz cy h⟩
  ·rintro σ aB⟨v,rfl,s2,cy⟩;rw[ba,jc.mt.len,eK]at cy;exact eE cy aB 332
theorem RN(h:51)(f:562){v:b7}(t:uT s ws v):11 (292 780)≤979:=by rw[eA];exact cX (aji h f) t.Fs
theorem RO(f:562){v:b7}(h:a17 v):uT s ws v:=q22 (328 h.2) (VI f v) h.1
theorem RP(x:06):11 (kl x)=e80:=by rw[kl,dR,nM]
abbrev aed:bK:=bA 0x92
theorem aee:487 [35,o11,"meeting",f14,235] aed:=⟨rfl,rfl,rfl,05,rfl,05,05⟩
inductive RQ(CM:ag)(CS:ag)(vs:08)(H:av)(Q:aW)(E:bD):04|mk:o08 (vs=254→597→51→gx H Q (il s .unique)→RQ CM CS vs H Q E)
theorem avO(D:cq K ah "unique" aed 50 f fd)(M:Ku K C)(uF:Pr P w K ah 02 aO 4 h59 50 (Fm CM CS))(BQ:Pr P w K ah 02 aO 5 k74 50 (KH C CM CS))(qd:Pr P w K ah 02 aO 4 h58 551 (Ft CM CS))(t8:Pr P w K ah 02 aO 2 h60 696 Et):Pr P w K ah 02 aO 6 "unique" 50 (RQ CM CS):=by
 rw[A29 aee]
 ·rw[C25];rfl
 ·rw[C88];have S:=aee;rw[A01 (90 1 (340 uF) (318 (bM k4 (J 1) bu (bO _)) 296) (90 2 (340 BQ) (318 (bM jX (J 2) et (bO _)) 755) (389 3 (cN (aj bu (258 646 646))) (e_ eL rfl (IH K rfl (oC (aj 646 (258 (552 qd 0 646) (552 qd 0 646))))) (98 4 rfl 70) (a77 (hD K rfl h9 nK nL nE 85 (78 (d38 t8 4))))) 85)))];refine⟨_,rfl,a,26,rfl,cg,079,fun H1 s1=>⟨_,rfl,rfl,_,rfl,?_⟩⟩;rw[kH];have k:gx H Q (e18 s (d51 (uE s ws) 0 (1::pb [978,977]++(ng s b36++(ng s a40++ng s a41))))):=k;rw[B99 wf (h56 (d51 (uE s ws) 0 (1::pb [978,977]++(ng s b36++(ng s a40++ng s a41)))))]
  ·rw[A80];rw[113 af];exact c8 ⟨_,rfl,371,367 (k _ p 827 903 aI)⟩
  ·rw[A80];rw[102 af];rw[A21 ⟨_,rfl,a,s,ws,rfl,518,wf,fr,c9,j93,fun z qt aB b s2 aa=>?_⟩]
   ·rw[e7]at k;exact⟨_,rfl,rfl,_,rfl,c8 (387 1 (k _ p (d40 116) ((332).free au) aI))⟩
   ·rw[qt]at k;have avP:z∈CT s:=by unfold uE at qt;exact nq qt
    have ok:=VL wf avP;have t1:=KD c9 ok.l;have jt:=KD c9 ok.r;have bg:=RN wf c9 t1;have cf:=RN wf c9 jt;have i5:11 901≤979:=by rw[eA];have:=ok.w.2;lia
    obtain⟨dD,hm⟩:=aa;rw[A98];refine⟨_,rfl,rfl,_,rfl,b_ ⟨_,rfl,b,C,dD,_,_,rfl,hm,20,M.first,avj,_,rfl,b,C,dD,_,_,rfl,hm,20,M.second,avk,894 3,697⟩⟩;rw[A87 [941,48 978,48 977] bk];have v_:H t=00:=ho.free bk;have mm:334 aB t [941,48 978,48 977] t=79 ([1,15 978,15 977]++540 ([]:99)):=aI;have uq:=83 hm;have RR:=(b97).same s3;have oX:=b84;have hE:∀{dM:av}{o:dz},786→aA H (upd dM t o):=fun{dM o:_}e b u z=>364 (110 z v_) (e b u z);generalize 34 aB t [941,48 978,48 977]=a5 at mm uq RR oX⊢;refine⟨_,rfl,b,C,dD,_,_,rfl,uq,20,M.word,avl,_,rfl,_,rfl,b,C,dD,_,_,rfl,uq,20,M.RA,adN,a,s,ws,h62,rfl,RR,wf,c9,t1,k61 ?_⟩;have QU:=103 uq;refine⟨_,rfl,_,rfl,b,C,dD,_,_,rfl,QU,20,M.RB,adO,a,s,ws,h61,rfl,RR.same s4,wf,c9,jt,fun de s5=>?_⟩;rw[A03 (894 3) c32];have cW:=b06 [76 901,76 e38,76 e29];have Fh:upd de T (.tup [76 901,76 e38,76 e29]) T=_:=aI;have yE:=310 (s5 _ _ (103 mm));have yZ:=547 (k51 s4) s5 cW;have k:gx H Q ([1,15 978,15 977]++540 ([901,e38,e29].map kl)):=by have k:gx H Q (1::pb [978,977]++(ng s b36++(ng s a40++ng s a41))):=k;rw[Co,Co,Co]at k;have e:540 ([901,e38,e29].map kl)=kl 901++(kl e38++kl e29):=19;rw[e];exact k
    generalize 901=x0 at*;generalize e38=gr at*;generalize e29=gd at*;generalize 388 de T [76 x0,76 gr,76 gd]=ft at*;have aef:∀x∈[x0,gr,gd],e04:=by intro x ai;simp only[ed,Bt,or_false]at ai;rcases ai with rfl|rfl|rfl<;>assumption
    have avQ:∀n,(222 ([x0,gr,gd].map kl) n).flatten.length≤2703:=724 (by have:=Ql (k:=0x385) (222 ([x0,gr,gd].map kl) n) (725 (by obtain⟨x,ai,rfl⟩:=112 (qp aq);rw[RP];have:=aef x ai;lia));rw[eS,ba]at this;have a6:min n [x0,gr,gd].length≤3:=Ah _ _;lia);refine⟨T,rfl,404 (448 Fh),M9 (K:=K) (a:=T) (xs:=[x0,gr,gd].map (72 (515 x))) (fun n σ H'=>∃v:93,σ=[248,601 (wF 26),46 b,530,v]∧49∧H' T=294 [76 x0,76 gr,76 gd]∧H' t=79 ([1,15 978,15 977]++540 (222 ([x0,gr,gd].map kl) n))) ⟨00,rfl,yZ,Fh,yE⟩ (fun n σ H' _⟨_,_,_,e,_⟩=>448 e) ?_ ?_⟩
    ·rintro n y σ gS aC⟨v,rfl,e1,Fi,Fz⟩;rw[A58];rw[B77 (pP.mp aC)];have ax:=aef x (cG ai);have hf:=avQ n;refine⟨_,rfl,329 Fz,_,rfl,x,rfl,ax,fun qS p gW mU A7=>?_⟩;have yL:T≠t:=355 Fi Fz;refine⟨t,p,_,_,rfl,rfl,gW _ _ Fz,A7,?_,_,rfl,hE n16,41 yL (gW _ _ Fi),?_⟩
     ·rw[fa,fa,cn,RP];rw[A37 (show _≤4000 by show 3+_+(_+1)≤_;lia)]
     ·rw[aI,Jj,dZ (x:=kl x) q21,Cr,jo];simp
    ·rintro σ gS⟨v,rfl,e1,Fi,Fz⟩;rw[A15 (k gS t e1 v_ Fz)]
end
abbrev aeg:bK:=bA 0x93
theorem aeh:31 [35,885,235,o11,574] 549 aeg:=⟨rfl,rfl,rfl,05,rfl,05,05⟩
section
variable{A:rU}{C CM CS D I a b bG c d dx er f p t:ag}{E Q:aH→aZ→Prop}{cm:List (List Nat)}{K:bo}{M:Model}{P:f3}{R:Result→aZ→Prop}{S:ag→Prop}{T:String}{a0 us vs:List aH}{aD as:List ag}{aG e:dn}{aR:Array Ip}{bx u:aH}{o:Obj}{ah:Str→Option aH}{pins:List (ag×Obj)}{az cQ:Option ag}{k1:Option aH}{b0 c0 i j lv n t':Nat}{base h h':dk}{g l ls:List Nat}{cs ns r ws:List Int}{ds:List WData}{od α β:Type}{fd:k6}{h3:Nat→dk→Prop}{x:Str}{outer:List Env}{own:List (Str×Nat)}{q:Search}{s:dt}{tk:Tok}{v:Word}{w:ff}{m:g0}{sy:cv}{xs:List ae}{y:ae}{H H' H1 aB:av}{X:dT}{tb:gH}{z:Nat×hr}
inductive RS(K:bo)(CM:ag)(CS:ag)(vs:08)(H:av)(Q:aW)(E:bD):04|mk:∀(a c:ag)(s:dt)(cs:10),vs=349 655→597→51→aJ K H c (aT cs)→gx H Q (il s (.normal cs))→RS K CM CS vs H Q E
theorem avR(D:cq K ah "normal" aeg 549 f fd)(O:347)(t7:g10 12)(ml:Pr P w K ah 02 aO 2 d04 549 (yl K CM CS))(uF:Pr P w K ah 02 aO 4 h59 50 (Fm CM CS))(BO:Pr P w K ah 02 aO 3 k75 551 (Kw CM CS))(t8:Pr P w K ah 02 aO 2 h60 696 Et):Pr P w K ah 02 aO 5 "normal" 549 (RS K CM CS):=by
 rw[A29 aeh]
 ·obtain⟨a,c,s,cs,rfl,_⟩:=h;rfl
 ·obtain⟨a,c,s,cs,rfl,cg,wf,ar,k⟩:=h;have S:=aeh;rw[A01 (90 2 (bj ml 22 bb (77 0 1 ay)) (e36 2 t7) (90 3 (340 uF) (318 (bM k4 (J 3) bu (bO _)) 845) (239 (94 4 (bj BO 22 bb (77 0 2 ay))) (eu pO (a63 (eu r7 (d6 (hO K rfl) 66 O.len eJ (384 4)) bu)) (e28 t8 (440 327 (Nd Nf bu)))))))];have bH:=wf.jn;have k:gx H Q (sZ s cs (888 (e18 s (0::15 (ee s ws v).2::ng s 780)))):=k;refine⟨_,rfl,_,rfl,a,c,26,cs,rfl,cg,ar,636 36 12,g90⟩;rw[C97 (zp wf cs (888 (e18 s (0::15 (ee s ws v).2::ng s 780))))]
  ·rw[aG]at k;rw[135,aK];exact⟨_,rfl,rfl,_,rfl,c8 (387 1 (k _ p 827 903 aI))⟩
  ·rw[aG]at k;rw[135,aK];refine⟨_,rfl,rfl,_,rfl,b_ ⟨_,rfl,a,26,rfl,518,079,h57 ⟨_,rfl,rfl,_,rfl,?_⟩⟩⟩;rw[kH];rw[A98];rw[B99 wf (h56 (0::15 (ee s ws v).2::ng s 780))]
   ·rw[A80];rw[113 af];exact c8 ⟨_,rfl,371,367 (k _ p (ho.trans 116) (ho.free au) aI)⟩
   ·rw[A80];rw[102 af];have uB:=RO c9 a3;rw[A21 ⟨_,rfl,_,rfl,a,s,ws,v,rfl,b97,wf,c9,uB,fun a5 p s3 au=>?_⟩];obtain⟨u,_,_,a6⟩:=VH s ws v;have lw:11 (wI 60 (rJ s ws v))=(ee s ws v).2+1:=by rw[wI,ba,a6]
    refine⟨_,rfl,p,_,rfl,306 au,_,_,rfl,rfl,338,697⟩;rw[lw];rw[A71];rw[show 52 ((ee s ws v).2+1)-1=15 (ee s ws v).2 by lia];have s4:=293 [372,48 (ee s ws v).2] bk;have bg:=RN wf c9 uB;refine⟨_,rfl,_,rfl,p,_,_,_,rfl,rfl,g45 au,adY s ws v,_,rfl,bg,fun de q s5 oW aw=>?_⟩;refine⟨t,q,_,_,rfl,rfl,s5 _ _ aI,aw,?_,848⟩
    ·rw[fa,RP];rw[A37 (show 255 by simp;lia)]
    ·have qc:=547 b84 s4 s5;refine k _ r (qc.trans i43) (qc.free c1) ?_;rw[aI,Co];rfl
abbrev ahr:bK:=bA 0x94
theorem aei:31 [35,885,"other_codes",235,"other",o11] i99 ahr:=⟨rfl,rfl,rfl,05,rfl,05,05⟩
inductive RT(K:bo)(CM:ag)(CS:ag)(vs:08)(H:av)(Q:aW)(E:bD):04|mk:∀(a c d:ag)(s:dt)(cs ds:10),vs=[37,655,602]→597→51→aJ K H c (aT cs)→aJ K H d (aT ds)→gx H Q (il s (.same cs ds))→RT K CM CS vs H Q E
theorem avS(D:cq K ah "same" ahr i99 f fd)(t7:g10 12)(ml:Pr P w K ah 02 aO 2 d04 549 (yl K CM CS))(uF:Pr P w K ah 02 aO 4 h59 50 (Fm CM CS))(BQ:Pr P w K ah 02 aO 5 k74 50 (KH C CM CS))(qd:Pr P w K ah 02 aO 4 h58 551 (Ft CM CS)):Pr P w K ah 02 aO 6 "same" i99 (RT K CM CS):=by
 rw[A29 aei]
 ·obtain⟨a,c,d,s,cs,ds,rfl,_⟩:=h;rfl
 ·obtain⟨a,c,d,s,cs,ds,rfl,cg,wf,ar,hd,k⟩:=h;have S:=aei;rw[A01 (90 3 (bj ml 22 bb (77 0 1 ay)) (94 4 (bj ml 22 bb (77 0 2 ay))) (aF (a50 (rX (bM jX (J 3) et (bO _)) (rW (bM jX (J 4) et (bO _)))).pt t7) (aF (94 5 (340 uF)) (516 (318 (bM k4 (J 5) bu (bO _)) (384 5)) (318 (bM tK (340 BQ) et (bO _)) 755) (c28 (pE (bM fv (bj qd 22 bb (77 0 3 ay)) (bj qd 22 bb (77 0 4 ay)) (bO _)) bu bu))))))];have bH:=wf.jn;have k:gx H Q (sZ s cs (888 (sZ s ds (fun u=>e18 s (13 (736 (uE s ws)) [3] [13 (780==e54) 1 0]))))):=k;have one:q20 (786→dM p=00→gx H Q [v]→837 p dM p [.int v]):=q19 (b0 _ p i85 j20 aI);refine⟨_,rfl,_,rfl,a,c,26,cs,rfl,cg,ar,636 36 12,g90⟩;refine⟨_,rfl,_,rfl,a,d,26,ds,rfl,518,s1.seq hd,636 36 12,h57 ?_⟩;rw[135];rw[A98];rw[C97 (zp wf cs (888 (sZ s ds (fun u=>e18 s (13 (736 (uE s ws)) [3] [13 (780==e54) 1 0])))))]
  ·rw[aG]at k;rw[aK];exact⟨_,rfl,rfl,_,rfl,c8 (h06 ho k)⟩
  ·rw[aG]at k;rw[aK];rcases zp wf ds (fun u=>e18 s (13 (736 (uE s ws)) [3] [13 (780==e54) 1 0]))with⟨cp,ej⟩|⟨u,bp,cp,ej⟩
   ·rw[ej]at k;rw[cp];exact⟨_,rfl,rfl,_,rfl,b_ ⟨_,rfl,rfl,_,rfl,h06 ho k⟩⟩
   ·rw[ej]at k;rw[cp];refine⟨_,rfl,rfl,_,rfl,b_ ⟨_,rfl,rfl,_,rfl,b_ ?_⟩⟩;refine⟨_,rfl,a,26,rfl,b97,079,n87 ⟨_,rfl,rfl,_,rfl,?_⟩⟩;rw[kH];have uy:=b84;rw[B99 wf (h56 (13 (736 (uE s ws)) [3] [13 (780==e54) 1 0]))]
    ·rw[A80];rw[113 af];exact c8 ⟨_,rfl,371,367 (one uy au k)⟩
    ·rw[A80];rw[102 af];rw[A21 ⟨_,rfl,a,s,ws,rfl,622 uy,wf,fr,c9,fun e7 bP s4=>?_,fun z qt bP b s4 aa=>?_⟩]
     ·rw[e7]at k;have k:gx H Q [13 (780==e54) 1 0]:=k;have t1:=RO c9 a3;have jt:=RO c9 bp;have mV:=n17;refine⟨rfl,_,rfl,b_ ⟨_,rfl,_,rfl,a,s,ws,v,rfl,622 mV,wf,c9,t1,fun de s5=>?_⟩⟩;refine⟨_,rfl,_,rfl,a,s,ws,u,rfl,(622 mV).same s5,wf,c9,jt,o10 ⟨rfl,_,rfl,?_⟩⟩;rw[aeb 812 (GU wf ws t1.wf) (GU wf ws jt.wf)];have uz:=38 j09 cW;rw[A06 780 e54]
      ·rw[e,213]at k;rw[102 e];exact h06 uz k
      ·rw[185]at k;rw[132];exact b_ (387 1 (one uz au k))
     ·rw[qt]at k;exact⟨rfl,_,rfl,h06 n17 k⟩
theorem hb{l:10}{x:Int}(h:735 i=x::r):115=43∧735 (i+1)=r∧i+1+230=63:=by have hi:i<63:=q18 (nk 521) (List.drop_of_length_le 03);rw[aa7 hi]at h;rw[B76];rw[A20 (by rw[122,af]) ak];have:=137 ak;rw[fV]at this;lia
theorem uG{l w t:10}(h:735 i=635::(w++t)):115=some 635∧i+1+218≤63∧222 (735 (i+1)) 218=w∧735 (i+1+218)=t∧i+1+218+223=63:=by obtain⟨af,ak,a6⟩:=hb h;rw[cn]at a6;refine⟨af,03,by rw[ak,List.take_left],by rw[←rI,ak,GY],03⟩
theorem KI{bl:324}(h:d10 (730:Str)=00):mQ c i≠bl:=100 (by rw[←e,yn]at h;cases h)
theorem avT{s:cv}{l:ag}:g11 (nH s l)=00:=h55
theorem avU:g11 024=00:=157
theorem aej:g11 (wD a)=00:=q17
theorem KJ{r avV:ag}{bl cm:324}(h:H a=853)(g:H r=e70 D avV cm)(n:cm≠bl):a≠r:=100 (by rw[e,g]at h;injection h with h;injection h with _ _ h;exact n h)
theorem dK.but{dI r:ag}{s:cv}(x:dK CM CS H a s)(aq:mh dI H r c i)(b:802 r):dK CM CS H' a s:=by rw[C96];obtain⟨fF,aq⟩:=aq;refine⟨dx,l,as,b _ _ 84 (KJ 84 aq (KI avT)),b _ _ 301 (355 301 aq),aY.len,fun n q m af ak=>?_⟩;rw[B48 (aY.cw n q m af ak)];exact⟨d,b _ _ e (KJ e aq (KI avU))⟩
theorem gZ.free{r:ag}{o:dz}(b:802 r)(aq:H' r=25)(h:416=00):H p=00:=by cases q:H p with|none=>rfl|some u=>have n:p≠r:=16 (by rw[z,aq]at h;cases h);rw[b p u q n]at h;cases h
def LF(dI:ag)(H:av)(r c:ag)(j:Nat)(l:10)(Q:aW):04:=g44 (mh dI H' r c j) (802 r→H p=00→416=79 l→412)
theorem LF.ib{dI:ag}{a5:av}{r:ag}{l:10}{Q:aW}(k:LF dI H r c j l Q)(aq:mh dI a5 r c j)(b:gZ r H a5):gx a5 Q l:=fun H' p s mU au=>by obtain⟨dx,aq⟩:=aq;exact k H' p ⟨dx,s _ _ aq⟩ (b.trans (aA.but s)) (b.free aq mU) au
abbrev aek:bK:=bA 0x7b
theorem ael:31 589 589 aek:=⟨rfl,rfl,rfl,05,rfl,05,05⟩
inductive y5(K:bo)(dI:ag)(CM:ag)(CS:ag)(lo:Int)(hi:Int)(vs:08)(H:av)(Q:aW)(E:bD):04|mk:∀(a r c:ag)(i:Nat)(s:dt)(ns t:10)(n:Int)(k:oo),vs=[37,.int n,.ref r]→597→51→mh dI H r c (i+1)→063 c→hY g07 k t→ns[i]?=some n→lo≤n→n≤hi→LF dI H r c 342 (il s k) Q→y5 K dI CM CS lo hi vs H Q E
inductive RU(CM:ag)(CS:ag)(vs:08)(H:av)(Q:aW)(E:bD):04|mk:i65 (vs=349 488) (267→269→gx H Q (Gq sy z)→RU CM CS vs H Q E)
inductive RV(K:bo)(CM:ag)(CS:ag)(vs:08)(H:av)(Q:aW)(E:bD):04|mk:∀(a c:ag)(sy:cv)(z:Int)(cs:10),vs=[37,488,655]→267→269→aJ K H c (aT cs)→gx H Q (Gr sy z cs)→RV K CM CS vs H Q E
structure aem(P:f3)(w:ff)(K:bo)(ah:261)(base:dk)(CM CS:ag):04 where
 written:Pr P w K ah 02 aO 9 o09 50 (PE CM CS)
 step:Pr P w K ah 02 aO 9 "step" j75 (PI K CM CS)
 steps:Pr P w K ah 02 aO 9 "steps" 549 (PK K CM CS)
 search:Pr P w K ah 02 aO 9 887 433 (PH CM CS)
 way:Pr P w K ah 02 aO 9 "way" 433 (RU CM CS)
 reach:Pr P w K ah 02 aO 9 "reach" j06 (RV K CM CS)
theorem avW{dI:ag}(D:cq K ah o07 aek 589 f fd)(M:sz K dI)(p:aem P w K ah 02 CM CS)(rf:jb P w K ah 02 aO 1 dI h54 251 (AS K dI))(qe:jb P w K ah 02 aO 2 dI h53 251 (AU K dI)):Pr P w K ah 02 aO 0xa o07 589 (y5 K dI CM CS 1 6):=by
 rw[A29 ael]
 ·rw[C30];rfl
 ·rw[C29];have S:=ael;rw[A01 (aF (e25 1 p.written) (aF (bX (bM fv (J 1) bu (bO _)) (65 (bj p.step 22 bb (aj (J 0) (aj a54 (258 a54 a51))))) b2) (aF (bX (bM fv (J 1) bu (bO _)) (65 (552 p.steps 0 a51)) b2) (aF (bX (bM fv (J 1) bu (bO _)) (65 (552 p.search 0 a54)) b2) (239 (bX (bM fv (J 1) bu (bO _)) (65 (552 p.way 0 a54)) b2) (bj p.reach 22 bb (aj (J 0) (258 a54 a51))))))))];have ok:=wf.ok;rw[C05];rw[B67 cH];have skip:m89 (l=m::r→n=m):=l79 (m23 (hb c4).1)
  cases jd with|written _=>rw[A32];rw[A95 c4];rw[show 342=i+1 by lia]at b0;refine⟨_,rfl,rfl,_,rfl,c8 ⟨_,rfl,a,26,rfl,aY,ok,?_⟩⟩;rw[ahT];exact b69 cH e|step m p w _=>rw[A32];rw[A70];rw[B65 aG];obtain⟨g2,zQ,_⟩:=hb ej;rw[A93 zQ];rw[show 342=i+1+1+1+1+218 by lia]at b0;refine⟨_,rfl,rfl,_,rfl,b_ ⟨_,rfl,rfl,_,rfl,c8 ⟨_,rfl,_,rfl,r,fF,_,rfl,kg,ke,r,c,i+1,ns,m,rfl,cH,ar,g1,a46⟩⟩⟩;rw[B10 fU];rw[A96 kg ar];refine⟨_,rfl,r,iC,_,rfl,nY,ke,r,c,i+1+1,ns,p,rfl,fU,lQ,g2,fun aB q6 dj=>?_⟩;obtain⟨wk,FA⟩:=id q6;have p7:=dj.seq nY lQ;refine⟨_,rfl,r,wk,_,rfl,FA,ke,r,c,i+1+1+1,218,ns,rfl,q6,p7,g3,ey,d82⟩;rw[B02];refine⟨a,q,26,m,p,w,rfl,(h01 fU dj).but q6 fo,ok,32 aw,?_⟩;rw[step_eq wf];exact b0.ib jD (38 829 fo)|steps w _=>rw[A32];rw[A70];rw[A93 aG];rw[show 342=i+1+1+218 by lia]at b0;refine⟨_,rfl,rfl,_,rfl,b_ ⟨_,rfl,rfl,_,rfl,b_ ⟨_,rfl,rfl,_,rfl,c8 ⟨_,rfl,_,rfl,r,fF,_,rfl,kg,ke,r,c,i+1,218,ns,rfl,cH,ar,g3,ey,d82⟩⟩⟩⟩;rw[B02];refine⟨a,q,26,w,rfl,aY.but cH fo,ok,32 aw,?_⟩;rw[ahQ wf];exact b0.ib jD fo|search b _=>rw[A32];rw[A70];rw[C11 aG];rw[show 342=i+1+1 by lia]at b0;refine⟨_,rfl,rfl,_,rfl,b_ ⟨_,rfl,rfl,_,rfl,b_ ⟨_,rfl,rfl,_,rfl,b_ ⟨_,rfl,rfl,_,rfl,c8 ⟨_,rfl,_,rfl,r,fF,_,rfl,kg,ke,r,c,i+1,ns,b,rfl,cH,ar,g1,a46⟩⟩⟩⟩⟩;refine⟨a,26,b,rfl,j64,ok,?_⟩;rw[aid wf];exact b0.ib fU b9|way b _=>rw[A32];rw[A70];rw[C11 aG];rw[show 342=i+1+1 by lia]at b0;refine⟨_,rfl,rfl,_,rfl,b_ ⟨_,rfl,rfl,_,rfl,b_ ⟨_,rfl,rfl,_,rfl,b_ ⟨_,rfl,rfl,_,rfl,b_ ⟨_,rfl,rfl,_,rfl,c8 ⟨_,rfl,_,rfl,r,fF,_,rfl,kg,ke,r,c,i+1,ns,b,rfl,cH,ar,g1,a46⟩⟩⟩⟩⟩⟩;refine⟨a,26,b,rfl,j64,ok,?_⟩;rw[aih wf];exact b0.ib fU b9|reach b w _=>rw[A32];rw[A70];rw[B65 aG];rw[A93 ej];rw[show 342=i+1+1+1+218 by lia]at b0;refine⟨_,rfl,rfl,_,rfl,b_ ⟨_,rfl,rfl,_,rfl,b_ ⟨_,rfl,rfl,_,rfl,b_ ⟨_,rfl,rfl,_,rfl,b_ ⟨_,rfl,rfl,_,rfl,b_ ⟨_,rfl,_,rfl,r,fF,_,rfl,kg,ke,r,c,i+1,ns,b,rfl,cH,ar,g1,a46⟩⟩⟩⟩⟩⟩;rw[B10 fU];rw[A96 kg ar];refine⟨_,rfl,r,iC,_,rfl,nY,ke,r,c,i+1+1,218,ns,rfl,fU,lQ,g3,ey,d82⟩;rw[B02];refine⟨a,q,26,b,w,rfl,h01 fU fo,ok,32 aw,?_⟩;rw[aii wf];exact i84 jD fo|load x _=>rw[A05];lia|weights _=>rw[A05];lia|parted _=>rw[A05];lia|turns _ _=>rw[A05];lia|turned _=>rw[A05];lia|keeps _ _ _=>rw[A05];lia|machine _ _ _=>rw[A05];lia|seek _=>rw[A05];lia|down _=>rw[A05];lia|unique _=>rw[A05];lia|normal _ _=>rw[A05];lia|same _ _ _=>rw[A05];lia
inductive FC(CM:ag)(CS:ag)(k:oo)(vs:08)(H:av)(Q:aW)(E:bD):04|mk:o08 (vs=254→597→51→gx H Q (il s k)→FC CM CS k vs H Q E)
inductive RW(CM:ag)(CS:ag)(k:Int→oo)(vs:08)(H:av)(Q:aW)(E:bD):04|mk:∀(a:ag)(s:dt)(z:Int),vs=349 488→597→51→gx H Q (il s (k z))→RW CM CS k vs H Q E
inductive FD(CM:ag)(CS:ag)(k:Int→10→oo)(vs:08)(H:av)(Q:aW)(E:bD):04|mk:∀(a c:ag)(s:dt)(z:Int)(x:10),vs=[37,488,655]→597→51→H c=79 x→gx H Q (il s (k z x))→FD CM CS k vs H Q E
abbrev aen:bK:=bA 0x7c
theorem aeo:31 589 589 aen:=⟨rfl,rfl,rfl,05,rfl,05,05⟩
structure aep(P:f3)(w:ff)(K:bo)(ah:261)(base:dk)(CM CS:ag):04 where
 weights:Pr P w K ah 02 aO 9 573 50 (Qm CM CS)
 parted:Pr P w K ah 02 aO 9 "parted" 50 (Ru CM CS)
 turns:Pr P w K ah 02 aO 9 h49 585 (RW CM CS .turns)
 turned:Pr P w K ah 02 aO 9 "turned" 50 (FC CM CS k28)
 keeps:Pr P w K ah 02 aO 9 "keeps" a22 (FD CM CS .keeps)
 machine:Pr P w K ah 02 aO 9 h37 a30 (FD CM CS .machine)
 seek:Pr P w K ah 02 aO 9 "seek" 50 (FC CM CS .seek)
theorem avX{dI:ag}(D:cq K ah o06 aen 589 f fd)(M:sz K dI)(p:aep P w K ah 02 CM CS)(rf:jb P w K ah 02 aO 1 dI h54 251 (AS K dI))(qe:jb P w K ah 02 aO 2 dI h53 251 (AU K dI)):Pr P w K ah 02 aO 0xa o06 589 (y5 K dI CM CS 7 0xd):=by
 rw[A29 aeo]
 ·rw[C30];rfl
 ·rw[C29];have S:=aeo;rw[A01 (aF (e25 1 p.weights) (aF (e25 1 p.parted) (aF (bX (bM fv (J 1) bu (bO _)) (65 (552 p.turns 0 a54)) b2) (aF (e25 1 p.turned) (516 (bX (bM fv (J 1) bu (bO _)) (65 (bj p.keeps 22 bb (aj (J 0) (258 a54 a51)))) b2) (bX (bM fv (J 1) bu (bO _)) (65 (bj p.machine 22 bb (aj (J 0) (258 a54 a51)))) b2) (340 p.seek))))))];have ok:=wf.ok;rw[C05];rw[B67 cH];have skip:m89 (l=m::r→n=m):=l79 (m23 (hb c4).1)
  cases jd with|weights _=>rw[A32];rw[A95 c4];rw[show 342=i+1 by lia]at b0;refine⟨_,rfl,rfl,_,rfl,c8 ⟨_,rfl,a,26,rfl,aY,ok,?_⟩⟩;rw[aiF wf];exact b69 cH e|parted _=>rw[A32];rw[A95 c4];rw[show 342=i+1 by lia]at b0;refine⟨_,rfl,rfl,_,rfl,b_ ⟨_,rfl,rfl,_,rfl,c8 ⟨_,rfl,a,26,rfl,aY,ok,?_⟩⟩⟩;rw[aiK wf];exact b69 cH e|turns b _=>rw[A32];rw[A70];rw[C11 aG];rw[show 342=i+1+1 by lia]at b0;refine⟨_,rfl,rfl,_,rfl,b_ ⟨_,rfl,rfl,_,rfl,b_ ⟨_,rfl,rfl,_,rfl,c8 ⟨_,rfl,_,rfl,r,fF,_,rfl,kg,ke,r,c,i+1,ns,b,rfl,cH,ar,g1,a46⟩⟩⟩⟩;exact⟨a,s,b,rfl,j64,wf,b0.ib fU b9⟩|turned _=>rw[A32];rw[A95 c4];rw[show 342=i+1 by lia]at b0;exact⟨_,rfl,rfl,_,rfl,b_ ⟨_,rfl,rfl,_,rfl,b_ ⟨_,rfl,rfl,_,rfl,b_ ⟨_,rfl,rfl,_,rfl,c8 ⟨_,rfl,a,s,rfl,aY,wf,b69 cH e⟩⟩⟩⟩⟩|keeps b w _=>rw[A32];rw[A70];rw[B65 aG];rw[A93 ej];rw[show 342=i+1+1+1+218 by lia]at b0;refine⟨_,rfl,rfl,_,rfl,b_ ⟨_,rfl,rfl,_,rfl,b_ ⟨_,rfl,rfl,_,rfl,b_ ⟨_,rfl,rfl,_,rfl,b_ ⟨_,rfl,rfl,_,rfl,c8 ⟨_,rfl,_,rfl,r,fF,_,rfl,kg,ke,r,c,i+1,ns,b,rfl,cH,ar,g1,a46⟩⟩⟩⟩⟩⟩;rw[B10 fU];rw[A96 kg ar];refine⟨_,rfl,r,iC,_,rfl,nY,ke,r,c,i+1+1,218,ns,rfl,fU,lQ,g3,ey,d82⟩;rw[B02];exact⟨a,q,s,b,w,rfl,h01 fU fo,wf,aw,i84 jD fo⟩|machine b w _=>rw[A32];rw[A70];rw[B65 aG];rw[A93 ej];rw[show 342=i+1+1+1+218 by lia]at b0;refine⟨_,rfl,rfl,_,rfl,b_ ⟨_,rfl,rfl,_,rfl,b_ ⟨_,rfl,rfl,_,rfl,b_ ⟨_,rfl,rfl,_,rfl,b_ ⟨_,rfl,rfl,_,rfl,b_ ⟨_,rfl,rfl,_,rfl,c8 ⟨_,rfl,_,rfl,r,fF,_,rfl,kg,ke,r,c,i+1,ns,b,rfl,cH,ar,g1,a46⟩⟩⟩⟩⟩⟩⟩;rw[B10 fU];rw[A96 kg ar];refine⟨_,rfl,r,iC,_,rfl,nY,ke,r,c,i+1+1,218,ns,rfl,fU,lQ,g3,ey,d82⟩;rw[B02];exact⟨a,q,s,b,w,rfl,h01 fU fo,wf,aw,i84 jD fo⟩|seek _=>rw[A32];rw[A95 c4];rw[show 342=i+1 by lia]at b0;exact⟨_,rfl,rfl,_,rfl,b_ ⟨_,rfl,rfl,_,rfl,b_ ⟨_,rfl,rfl,_,rfl,b_ ⟨_,rfl,rfl,_,rfl,b_ ⟨_,rfl,rfl,_,rfl,b_ ⟨_,rfl,rfl,_,rfl,b_ ⟨_,rfl,a,s,rfl,aY,wf,b69 cH e⟩⟩⟩⟩⟩⟩⟩|load x _=>rw[A05];lia|written _=>rw[A05];lia|step _ _ _ _=>rw[A05];lia|steps _ _=>rw[A05];lia|search _ _=>rw[A05];lia|way _ _=>rw[A05];lia|reach _ _ _=>rw[A05];lia|down _=>rw[A05];lia|unique _=>rw[A05];lia|normal _ _=>rw[A05];lia|same _ _ _=>rw[A05];lia
abbrev aeq:bK:=bA 0x7d
theorem aer:31 589 589 aeq:=⟨rfl,rfl,rfl,05,rfl,05,05⟩
structure aes(P:f3)(w:ff)(K:bo)(ah:261)(base:dk)(CM CS:ag):04 where
 down:Pr P w K ah 02 aO 9 "down" 50 (Rn CM CS)
 unique:Pr P w K ah 02 aO 9 "unique" 50 (RQ CM CS)
 normal:Pr P w K ah 02 aO 9 "normal" 549 (RS K CM CS)
 same:Pr P w K ah 02 aO 9 "same" i99 (RT K CM CS)
theorem avY{dI:ag}(D:cq K ah o05 aeq 589 f fd)(M:sz K dI)(p:aes P w K ah 02 CM CS)(qe:jb P w K ah 02 aO 2 dI h53 251 (AU K dI)):Pr P w K ah 02 aO 0xa o05 589 (y5 K dI CM CS 0xe 804):=by
 rw[A29 aer]
 ·rw[C30];rfl
 ·rw[C29];have S:=aer;rw[A01 (aF (e25 1 p.down) (aF (e25 1 p.unique) (239 (bX (bM fv (J 1) bu (bO _)) (65 (552 p.normal 0 a51)) b2) (bj p.same 22 bb (aj (J 0) (258 a51 a51))))))];have ok:=wf.ok;rw[C05];rw[B67 cH];have skip:m89 (l=m::r→n=m):=l79 (m23 (hb c4).1)
  cases jd with|down _=>rw[A32];rw[A95 c4];rw[show 342=i+1 by lia]at b0;refine⟨_,rfl,rfl,_,rfl,c8 ⟨_,rfl,a,26,rfl,aY,ok,?_⟩⟩;rw[aAL wf];exact b69 cH e|unique _=>rw[A32];rw[A95 c4];rw[show 342=i+1 by lia]at b0;exact⟨_,rfl,rfl,_,rfl,b_ ⟨_,rfl,rfl,_,rfl,c8 ⟨_,rfl,a,s,rfl,aY,wf,b69 cH e⟩⟩⟩|normal w _=>rw[A32];rw[A70];rw[A93 aG];rw[show 342=i+1+1+218 by lia]at b0;refine⟨_,rfl,rfl,_,rfl,b_ ⟨_,rfl,rfl,_,rfl,b_ ⟨_,rfl,rfl,_,rfl,c8 ⟨_,rfl,_,rfl,r,fF,_,rfl,kg,ke,r,c,i+1,218,ns,rfl,cH,ar,g3,ey,d82⟩⟩⟩⟩;rw[B02];exact⟨a,q,s,w,rfl,aY.but cH fo,wf,32 aw,b0.ib jD fo⟩|same v w _=>rw[A32];rw[A70];obtain⟨g3,ey,gi,avZ,rO⟩:=uG aG;obtain⟨e9,f4,fR,_,xD⟩:=uG avZ;rw[show 342=i+1+1+734+1+218 by lia]at b0;refine⟨_,rfl,rfl,_,rfl,b_ ⟨_,rfl,rfl,_,rfl,b_ ⟨_,rfl,rfl,_,rfl,b_ ⟨_,rfl,_,rfl,r,fF,_,rfl,kg,ke,r,c,i+1,734,ns,rfl,cH,ar,g3,ey,fun H1 bg fU b9 oW pY=>?_⟩⟩⟩⟩;rw[gi]at pY;rw[B10 fU];rw[A96 kg ar];refine⟨_,rfl,r,iC,_,rfl,nY,ke,r,c,i+1+1+734,218,ns,rfl,fU,lQ,e9,f4,fun a5 cf jD fo aB3 lP=>?_⟩;rw[fR]at lP;exact⟨a,bg,cf,s,v,w,rfl,h01 fU fo,wf,32 (fo _ _ pY (355 pY nY)),32 lP,i84 jD fo⟩|load x _=>rw[A05];lia|written _=>rw[A05];lia|step _ _ _ _=>rw[A05];lia|steps _ _=>rw[A05];lia|search _ _=>rw[A05];lia|way _ _=>rw[A05];lia|reach _ _ _=>rw[A05];lia|weights _=>rw[A05];lia|parted _=>rw[A05];lia|turns _ _=>rw[A05];lia|turned _=>rw[A05];lia|keeps _ _ _=>rw[A05];lia|machine _ _ _=>rw[A05];lia|seek _=>rw[A05];lia
theorem aet{l t:10}{k:oo}(h:hY l k t):∃n pre,l=n::(pre++t)∧0≤n∧n≤804:=by cases h with|load x _=>exact⟨0,583::x,rfl,14,14⟩|written _=>exact⟨1,[],rfl,14,14⟩|step m p w _=>exact⟨2,m::p::635::w,rfl,14,14⟩|steps w _=>exact⟨3,635::w,rfl,14,14⟩|search b _=>exact⟨4,[b],rfl,14,14⟩|way b _=>exact⟨5,[b],rfl,14,14⟩|reach b w _=>exact⟨6,b::635::w,rfl,14,14⟩|weights _=>exact⟨7,[],rfl,14,14⟩|parted _=>exact⟨8,[],rfl,14,14⟩|turns b _=>exact⟨9,[b],rfl,14,14⟩|turned _=>exact⟨0xa,[],rfl,14,14⟩|keeps b w _=>exact⟨0xb,b::635::w,rfl,14,14⟩|machine b w _=>exact⟨12,b::635::w,rfl,14,14⟩|seek _=>exact⟨0xd,[],rfl,14,14⟩|down _=>exact⟨0xe,[],rfl,14,14⟩|unique _=>exact⟨0xf,[],rfl,14,14⟩|normal w _=>exact⟨377,635::w,rfl,14,14⟩|same v w _=>exact⟨804,15 734::(v++(635::w)),19,14,14⟩
theorem av0{l t:10}{k:oo}(h:hY (0::l) k t):∃x,k=.load x∧l=583::(x++t):=by cases h with|load x _=>rw[A44 x rfl]
theorem av1{n:Int}{l t:10}{k:oo}(h:hY (n::l) k t)(h0:n≠0)(s:dt):oq s k=(s,il s k):=by cases h with|load x _=>rw[A64 h0]|_=>rfl
theorem av2(s:dt)(x:10):uw s x=oq s (.load x):=rfl
theorem av3(h:51)(k:oo):c3 (oq s k).1:=by
 cases k with
  |load x=>
   show c3 (13 (o_ x) (s,[-1]) (13 (Vainve.TEXT<96) (s,[-2]) (l85 (d8 x) (s,acX f) (y,[0])))).1;split
   ·exact h
   ·split
    ·exact h
    ·split
     ·exact h
     ·next y e=>exact aju e
  |_=>exact h
theorem lh.but{er CM CS dI h r c:ag}{i:Nat}{H H':av}{s:cv}(x:lh er CM CS H h s)(aq:mh dI H r c i)(b:802 r):lh er CM CS H' h s:=by obtain⟨hs,bG,af,ak⟩:=x;obtain⟨fF,p9⟩:=id aq;exact⟨hs,bG,b _ _ af (KJ af p9 (KI aej)),ak.but aq b⟩
abbrev aeu:bK:=bA 0x7a
theorem aev:31 [h52,k73,"call"] j23 aeu:=⟨rfl,rfl,rfl,05,rfl,05,05⟩
inductive RX(K:bo)(dI:ag)(er:ag)(CM:ag)(CS:ag)(vs:08)(H:av)(Q:aW)(E:bD):04|mk:∀(h r c:ag)(i:Nat)(s:dt)(ns t:10)(k:oo),vs=[.ref h,.ref r]→lh er CM CS H h 26→51→mh dI H r c i→063 c→hY g07 k t→314≤bc→(g44 (mh dI H' r c 342) (lh er CM CS H' h (bh (oq s k).1)→fN (506 (b=h∨b=r)) H H'→H p=00→416=79 (oq s k).2→412))→RX K dI er CM CS vs H Q E
theorem av4{dI:ag}(D:cq K ah o04 aeu j23 f fd)(M:sz K dI)(BR:Kg K er)(RY:Pr P w K ah 02 aO 9 "load" j25 (Rd K er CM CS))(rf:jb P w K ah 02 aO 1 dI h54 251 (AS K dI))(qe:jb P w K ah 02 aO 2 dI h53 251 (AU K dI))(av5:Pr P w K ah 02 aO 0xa o07 589 (y5 K dI CM CS 1 6))(av6:Pr P w K ah 02 aO 0xa o06 589 (y5 K dI CM CS 7 0xd))(av7:Pr P w K ah 02 aO 0xa o05 589 (y5 K dI CM CS 0xe 804)):Pr P w K ah 02 aO 0xb o04 j23 (RX K dI er CM CS):=by
 rw[A29 aev]
 ·obtain⟨h,r,c,i,s,ns,t,k,rfl,_⟩:=h;rfl
 ·obtain⟨h,r,c,i,s,ns,t,k,rfl,jy,wf,cH,ar,jd,hz,b0⟩:=h;have S:=aev;rw[A01 (90 2 (gv rf 20 22 bb 62) (bX (bM fv (J 2) bu (bO _)) (65 (552 RY 0 (gv qe 20 22 bb 62))) b2) (516 (bX (bM Aa (J 2) bu (bO _)) (65 (925 av5 59 (461 2 1))) b2) (bX (bM Aa (J 2) bu (bO _)) (65 (925 av6 59 (461 2 1))) b2) (925 av7 59 (461 2 1))))];obtain⟨n,pre,c4,aB4,av8⟩:=aet jd;obtain⟨KL,aG,cp⟩:=hb c4;rw[B67 cH];refine⟨_,rfl,r,fF,_,rfl,kg,ke,r,c,i,ns,n,rfl,cH,ar,KL,a46⟩;rw[B10 fU];rw[A96 kg ar];have wB:=jy.but cH b9;refine⟨_,rfl,rfl,_,rfl,?_⟩;rw[kH];refine eo (fun h0=>?_) (fun h0=>?_)
  ·have h0:=121 h0;subst h0;rw[c4]at jd;obtain⟨x,rfl,ex⟩:=av0 jd;rw[ex]at aG;rw[A93 aG];rw[show 342=i+1+1+96 by lia]at b0;refine⟨_,rfl,_,rfl,r,iC,_,rfl,nY,ke,r,c,i+1,96,ns,rfl,fU,lQ,g3,ey,fun aB q q6 dj oW aw=>?_⟩;rw[B02];obtain⟨wk,FA⟩:=id q6;have BF:=829;have BS:=wB.but fU dj;have av9:h≠r:=by obtain⟨hs,bG,af,_⟩:=BS;exact KJ af FA (KI aej)
   refine⟨h,q,x,s,rfl,aw,BS,03,fun a5 l jE t_ pR ax=>?_⟩;rw[av2]at pR ax;exact b0 a5 l ⟨wk,jE _ _ FA (16 (av9 b25))⟩ pR (fun b o e nb=>jE b o (BF b o e (16 (nb (.inr z)))) (16 (nb (.inl z)))) (BF.free FA t_) ax
  ·have h0:n≠0:=16 (by rw[z,167]at h0;cases h0);have gq:=av1 (c4▸jd) h0 s;rw[gq]at b0;obtain⟨hs,bG,af,oU⟩:=id wB;have fin:LF dI H1 r c 342 (il s k) Q:=fun H' p awa tN mU au=>b0 H' p awa (wB.but fU tN) (fun b o e nb=>tN b o (b9 b o e (16 (nb (.inr z)))) (16 (nb (.inr z)))) (b9.free nY mU) au;refine⟨_,rfl,_,_,rfl,rfl,_,rfl,eb (fun iT=>?_) (fun iT=>?_)⟩
   ·have iT:n≤6:=121 iT;exact⟨_,rfl,h,er,hs,_,_,rfl,af,BR.cl,BR.Fj,Kh,_,rfl,_,rfl,bG,r,c,i,s,ns,t,n,k,rfl,oU,wf,fU,lQ,jd,KL,03,iT,fin⟩
   ·have iT:¬n≤6:=16 (iT 139);refine⟨_,rfl,_,_,rfl,rfl,_,rfl,eb (fun vj=>?_) (fun vj=>?_)⟩
    ·have vj:n≤0xd:=121 vj;exact⟨_,rfl,h,er,hs,_,_,rfl,af,BR.cl,BR.Fj,Kh,_,rfl,_,rfl,bG,r,c,i,s,ns,t,n,k,rfl,oU,wf,fU,lQ,jd,KL,03,vj,fin⟩
    ·have vj:¬n≤0xd:=16 (vj 139);exact⟨_,rfl,h,er,hs,_,_,rfl,af,BR.cl,BR.Fj,Kh,_,rfl,_,rfl,bG,r,c,i,s,ns,t,n,k,rfl,oU,wf,fU,lQ,jd,KL,03,av8,fin⟩
theorem awb(a:10)(l:99):rP (a::l)=15 733::(a++rP l):=by unfold rP;rw[ta];rfl
theorem awc:c3 BU:=by refine⟨VV,14,fun c h=>b68,14,fun m h=>b68,fun w h=>b68,fun w h=>b68⟩
inductive m8(er:ag)(CM:ag)(CS:ag)(H:av)(h:ag)(g:ag)(s:cv):04|mk:∀hs bG dx l as,H h=e70 er hs (wD bG)→h8 CM CS H bG dx l as s→l≠g→m8 er CM CS H h g s
section
variable{h g:ag}{s:cv}
theorem m8.hold(x:m8 er CM CS H h g s):lh er CM CS H h s:=let⟨hs,bG,dx,l,as,a,b,_⟩:=x;⟨hs,bG,a,dx,l,as,b⟩
theorem m8.put{o:dz}(x:m8 er CM CS H h g s)(a4:k72 (H g≠710 d bl)):m8 er CM CS (upd H g o) h g s:=by rw[C95];have ne:∀{b C d:ag}{bl:324},H b=710 d bl→b≠g:=fun e z=>a4 _ _ _ (z▸e);refine⟨hs,bG,dx,l,as,41 (ne af) af,⟨41 (ne ak.at_) ak.at_,41 n ak.lst,ak.len,fun i b m aK aG=>?_⟩,n⟩;rw[B48 (ak.cw i b m aK aG)];exact⟨d,41 (ne e) e⟩
theorem lh.apart(x:lh er CM CS H h s)(a4:∀xs,H g≠525):m8 er CM CS H h g s:=by obtain⟨hs,bG,a,dx,l,as,b⟩:=x;exact⟨hs,bG,dx,l,as,a,b,16 (a4 _ (z▸b.lst))⟩
theorem m8.same(x:m8 er CM CS H h g s)(e:49):m8 er CM CS H' h g s:=by rw[C95];refine⟨hs,bG,dx,l,as,e _ _ af,⟨e _ _ ak.at_,e _ _ ak.lst,ak.len,fun i b m aK aG=>?_⟩,n⟩;obtain⟨d,q⟩:=ak.cw i b m aK aG;exact⟨d,e _ _ q⟩
end
def qf(K:bo)(c g:ag)(xs:08)(H:av):04:=(∃o,H c=25∧c≠g∧(o=.lst xs∨∃q,o=912 q xs))∨∀H',aJ K H' c xs
section
variable{g:ag}
theorem qf.seq(x:qf K c g xs H):aJ K H c xs:=by
 rcases x with⟨o,h,_,rfl|⟨q,rfl⟩⟩|h
 ·rw[A17 a65]
 ·rw[A17 (.inr ⟨q,h⟩)]
 ·exact h H
theorem qf.of(h:aJ K H c xs)(a4:H g=00):qf K c g xs H:=by
 rw[C28]
 ·rw[A17 ⟨_,h,bT h a4,253⟩]
 ·rw[A17 ⟨_,h,bT h a4,.inr (612 o)⟩]
 ·rw[A09 (fun H'=>.inr h)]
theorem qf.step(x:qf K c g xs H)(f:∀o,H c=25→c≠g→(k72 (o≠.ins C d bl))→H' c=25):qf K c g xs H':=by
 rcases x with⟨o,h,n,e⟩|h
 ·refine .inl ⟨o,f o h n (k71 ?_),n,e⟩;rcases e with rfl|⟨q,rfl⟩<;>cases z
 ·rw[A09 h]
end
abbrev RZ:bK:=bA 0x79
theorem aew:31 [d09,h52,k73,"given","answer"] 015 RZ:=⟨rfl,rfl,rfl,05,rfl,05,05⟩
inductive BV(K:bo)(vs:08)(H:av)(Q:aW)(E:bD):04|mk:∀(c:ag)(ns:10)(cS:List oo),vs=[655]→063 c→xA ns cS→314≤bc→069 (rP (tw BU cS))→(g44 (416=79 (rP (tw BU cS))) 412)→BV K vs H Q E
theorem awd{dI:ag}(D:cq K ah k24 RZ 015 f fd)(O:443)(M:sz K dI)(awe:mf P w K ah 02 aO 3 er "Holder" 251 (Rc er CM CS))(awf:mf P w K ah 02 aO 1 dI "CallReader" i98 (PS dI))(awg:jb P w K ah 02 aO 1 dI "is_at_end" 251 (O8 K dI))(R0:Pr P w K ah 02 aO 0xb o04 j23 (RX K dI er CM CS)):eP P w K ah 02 aO 12 f fd 015 (BV K):=by
 refine p58 aew ?_ ?_
 ·obtain⟨c,ns,cS,rfl,_⟩:=h;rfl
 ·obtain⟨c,ns,cS,rfl,ar,awh,hz,aB5,k⟩:=h;have S:=aew;rw[A01 (90 1 (Y8 awe 22 bb) (94 2 (pU awf 22 bb 029)) (389 3 556 (tI eL (g91 (gv awg 20 22 bb 45)) (aF (Yw (94 4 (bj R0 22 bb (77 1 2 ay)))) (aF (fK (hD K rfl h9 sD sE qQ 85 (78 (d6 (hO K rfl) 66 O.len eJ (384 4))))) (a77 (hD K rfl h9 nK nL nE 85 (384 4)))))) 85))];refine fun h hs dh awi aB6=>⟨h,hs,rfl,aI,fun H1 wB b9=>119 ?_⟩;have J0:aA H (upd (upd H hs (.own h)) h (.ins er hs [])):=d08 (j08 (117 dh) awi);have s1:c78:=d08 (b9 b u (J0 b u e) (bT e dh));refine 123 (fun r fF c1 aex aB7=>⟨r,fF,c,rfl,aI,rfl,?_⟩);have s2:=k46 (.own r) (.ins dI fF []) (.ins dI fF (mQ c 0)) c1 aex;have fU:upd (upd (upd H1 fF (.own r)) r (.ins dI fF [])) r (.ins dI fF (mQ c 0)) r=_:=aI;have BS:=wB.same s2;generalize upd (upd (upd H1 fF (.own r)) r (.ins dI fF [])) r (.ins dI fF (mQ c 0))=aB at s2 fU BS⊢;rw[A33 c33];rw[A87 [] a4];have R1:334 aB g [] g=79 []:=aI;have pR:m8 er CM CS (34 aB g []) h g (bh BU):=m8.same (lh.apart (s:=⟨[],[],00,00⟩) BS (fun xs z=>q16)) s3;have q6:=83 fU;have R2:qf K c g 039 (34 aB g []):=(qf.of ((332).seq ar) a4).step (fun o e _ _=>83 e);generalize 34 aB g []=a5 at R1 pR q6 R2⊢;clear s1 s2 s3 BS wB b9 fU a4 c1 aex;rw[B72 (∃(i:Nat)(s:dt)(cs:List oo)(b1:10)(v4:93),σ=[958,46 h,46 r,46 g,v4]∧mh dI H' r c i∧m8 er CM CS H' h g 26∧51∧qf K c g 039 H'∧xA g07 cs∧i≤314∧H' g=79 b1∧b1++rP (tw s cs)=rP (tw BU cS)∧m=383) ⟨_,0,BU,cS,[],00,rfl,⟨fF,q6⟩,pR,awc,R2,awh,229,R1,rfl,rfl⟩];clear R1 pR q6 R2;rintro m σ bP⟨i,s,cs,b1,v4,rfl,cH,jy,wf,GK,aey,hi,a4,hw,rfl⟩;obtain⟨aez,jD⟩:=id cH;refine⟨_,rfl,r,aez,_,rfl,jD,ke,r,c,i,ns,rfl,cH,GK.seq,_,rfl,?_⟩;generalize c4:g07=l at aey
  cases aey with
   |nil=>
    have e:i=314:=by have:=137 c4;rw[fV,l4]at this;lia
    rw[102 e];rw[A21 (123 (k bP g ?_))];rw[←hw];show bP g=79 (b1++[]);rw[nh];exact a4
   |@cons _ k1 t cs jd awj=>
    obtain⟨n,pre,JJ,_,_⟩:=aet jd;have dp:=137 c4;rw[fV,JJ,dR,cn]at dp;have iB:976 342=t:=by rw[show 342=i+(1+pre.length)by lia,←rI,c4,JJ,tp 1];show 472 (pre++t) pre.length=t;rw[GY]
    rw[133];have aeA:k72 (bP g≠710 d bl):=k71 q16;refine c8 ⟨_,a26,⟨g,.lst 031,a4,xZ,fun cQ=>?_⟩⟩;have awk:r≠g:=16 (aeA _ _ _ (z▸jD));have R3:=jy.put (o:=912 cQ 031) aeA;have R4:mh dI (upd bP g (912 cQ 031)) r c i:=⟨aez,41 awk jD⟩;have R5:qf K c g 039 (upd bP g (912 cQ 031)):=GK.step (fun o e n _=>41 n e);have FE:upd bP g (912 cQ 031) g=some (912 cQ 031):=aI;generalize upd bP g (912 cQ 031)=de at R3 R4 R5 FE⊢;rw[←c4]at jd;refine⟨_,rfl,_,rfl,h,r,c,i,s,ns,t,k1,rfl,R3.hold,wf,R4,R5.seq,jd,hz,fun ft p R6 awl jE mU au=>?_⟩;obtain⟨aB8,aeB⟩:=id R4;obtain⟨aB9,aCa,aeC,_⟩:=R3.hold;have awm:g≠h:=355 FE aeC;have R7:g≠r:=355 FE aeB;have R8:=jE _ _ FE (j53 awm R7);have aeD:p≠g:=16 (by rw[z,FE]at mU;cases mU);rw[A27 R8];have KN:334 ft g 031 g=79 b1:=aI;have R9:m8 er CM CS (520 ft g b1) h g (bh (oq s k1).1):=m8.put (lh.apart awl (fun xs z=>q15)) (k71 q15);have KO:mh dI (520 ft g b1) r c 342:=by obtain⟨awn,R6⟩:=R6;exact⟨awn,41 R7.symm R6⟩
    have KP:=38 (aE (o:=.lst 031) (H:=ft) aeD) au;have aeE:qf K c g 039 (520 ft g b1):=R5.step (fun o e n no=>41 n (jE _ _ e (j53 (16 (no _ _ _ (cI (k32 (z▸e) aeC)))) (16 (no _ _ _ (cI (k32 (z▸e) aeB)))))));generalize 520 ft g b1=gS at KN R9 KO KP aeE⊢;have aeF:=av3 wf k1;have KQ:b1++(15 (oq s k1).2.length::((oq s k1).2++rP (tw (oq s k1).1 cs)))=rP (tw BU cS):=by rw[←hw,←awb];rfl
    generalize(oq s k1).2=ib at KP KQ;generalize(oq s k1).1=e1 at R9 aeF KQ;have hlen:=137 KQ;rw[cn,dR,cn]at hlen;have awo:k72 (gS g≠710 d bl):=k71 (by rw[KN]at z;cases z);refine⟨_,rfl,329 KN,_,rfl,p,_,rfl,306 KP,g,_,_,rfl,rfl,KN,by rw[fa];lia,?_⟩;rw[fa];refine⟨_,rfl,329 aI,_,rfl,g,p,_,_,rfl,rfl,aI,41 aeD KP,?_,?_⟩
    ·rw[cn,fa,fa];show o03+1+ib.length≤_;lia
    ·refine⟨383,k70,342,e1,cs,b1++15 ib.length::ib,_,rfl,?_,?_,aeF,?_,by rw[iB];exact awj,XC _ _,?_,?_,rfl⟩
     ·obtain⟨awp,KO⟩:=KO;exact⟨awp,by rw[gp];exact 41 R7.symm KO⟩
     ·rw[gp];exact R9.put awo
     ·rw[gp];exact aeE.step (fun o e n _=>41 n e)
     ·rw[aI,AQ b1];simp[aT]
     ·rw[jo];exact KQ
structure nZ(q:d3):04 where
 ol:b34=302
 eO:∀(i:Nat)(o:Nat×916),j24=some 25→o.1<i
theorem nZ.note{q:d3}{x:06}{l:Nat}{o:844}(h:nZ q)(a8:∀z,o=415→z.1<302):nZ (n_ q x l o):=by
 rw[A03 ?_ (fun i z hz=>?_)]
 ·show 11 (d06++[o])=11 a79;rw[cn,cn,h.ol];rfl
 ·have hz:q14 i=453 z:=hz;rw[A65 (i<b34)]
  ·rw[mN hi]at hz;exact h.eO i z hz
  ·rw[166]at hz;have ax:=eI hz;have dw:i-b34=0:=by have:i-b34<1:=ax;lia
   rw[dw]at hz;have:=a8 z (cI hz);rw[h.ol]at dw hi;lia
theorem R_{α β:272}{f:β→α→β}{Pr:92 β}(h:∀b a,Pr b→Pr (f b a)):∀(l:40)(b:β),Pr b→Pr (l.foldl f b)|[],b,p=>p|a::l,b,p=>R_ h l (f b a) (h b a p)
theorem awq{idx:Nat}{x:06}{q:d3}{p:Nat}(h:nZ q∧n<302):nZ (ij n idx lv m x q p)∧n<d07 (ij n idx lv m x q p):=by
 unfold ij;split
 ·exact h
 ·split
  ·exact h
  ·split
   ·exact⟨⟨h.1.ol,h.1.eO⟩,h.2⟩
   ·rw[A27 (h.1.note g83)]
    ·rw[←cI hz];exact h.2
    ·show n<11 (886++[_]);rw[cn];have:=h.2;lia
theorem awr{len:Nat}{x:06}{q:d3}{gA:g0×Nat}(h:nZ q∧n<302):nZ (gz n len lv x q gA)∧n<d07 (gz n len lv x q gA):=by
 unfold gz;split
 ·exact h
 ·split
  ·exact⟨⟨h.1.ol,h.1.eO⟩,h.2⟩
  ·exact R_ (Pr:=58 (nZ q∧n<302)) (fun b a aa=>awq aa) _ _ h
theorem aeG{sy:cv}{len:Nat}:∀(k n:Nat)(q:d3),nZ q→nZ (nf sy len k n q)
 |0,_,q,h=>h
 |k+1,n,q,h=>by
  unfold nf;split
  ·next ar=>refine aeG k (n+1) _ ?_;unfold qn;exact(R_ (Pr:=58 (nZ q∧n<302)) (fun b a aa=>awr aa) _ _ ⟨h,ar.1⟩).1
  ·exact h
theorem aws(sy:cv)(len:Nat)(x:06):nZ (kj sy len x):=by
 have h0:nZ o6:=119 (fun i o h=>by simp[o6]at h);unfold kj;split
 ·exact⟨h0.ol,h0.eO⟩
 ·exact aeG _ _ _ (h0.note (b35 (by cases hz)))
theorem aeH{x:06}:∀(ws:30)(k:Nat),x∈ws→ja (b95 (ws.zipIdx k) ((a37 p.1:cF),a38 p.2)) c71=71 (k+ws.idxOf x:Nat)
 |[],_,h=>806
 |y::ws,k,h=>by
  rw[aeI,eN];rw[A06 y x]
  ·subst e;rw[DM rfl,au9,Nat.add_zero]
  ·have eG:(y==x)=09:=566;rw[Av (e67 (Jf (MQ z))),aeH ws (k+1) ((569 h).resolve_left (e67 b25)),Ut,eG];simp only[cond_false];rw[Nat.add_assoc,tp 1]
theorem awt{x:06}{ws:30}(h:x∈ws):ja (mj ws) c71=71 (ws.idxOf x:Nat):=by have:=aeH ws 0 h;rw[qx]at this;exact this
theorem c2.rev{R:712}{a:40}{b:522}(h:c2 R a b):c2 R a.reverse b.reverse:=by induction h with|nil=>rw[A40]|cons r _ ih=>rw[NT,NT];exact ih.app (386 r)
structure aeJ(H:av)(p:ag)(aD:27)(zs:035):04 where
 lst:H p=247 587
 hq:c2 (fun t(z:Nat×Nat)=>H t=294 [769,48 z.2]) aD zs
abbrev aeK:bK:=bA 0x39
theorem aeL:31 [887,235,366,f24] i82 aeK:=⟨rfl,rfl,rfl,05,rfl,05,05⟩
inductive Sa(C:ag)(vs:08)(H:av)(Q:aW)(E:bD):04|mk:∀(R:lR)(os:08)(q:d3)(x:06),vs=[.ref R.a,459]→hP C H R os q→nZ q→x∈886→302≤315→(∀H' p aD,49→aeJ H' p aD (ru q x)→11 (ru q x)≤315→412)→Sa C vs H Q E
theorem awu(D:cq K ah "way_to" aeK i82 f fd)(Sb:ah 499=00)(awv:ah 975=00)(M:tZ K C):Pr P w K ah 02 aO 1 "way_to" i82 (Sa C):=by
 rw[A02 aeL]
 ·obtain⟨R,os,q,x,rfl,_⟩:=h;rfl
 ·obtain⟨R,os,q,x,rfl,aw,eO,ai,I8,k⟩:=h;have S:=aeL;have bp:=D2 aq;rw[A01 (90 2 556 (94 3 (a52 (Yr bp 59 62 630))) (239 (tI eL (bM tK (J 3) et (bO _)) (434 (fK (hD K rfl h9 sD sE qQ 45 (78 (oC (258 (e6 (oJ K rfl) 85 bu 630) (e6 (oJ K rfl) 85 bu 630)))))) (94 3 (a52 (e6 (oJ K rfl) 85 bu 630))))) (auL K rfl rfl Sb rfl awv 698)))];have Sd:i68<302:=adA ai;have aeM:∀i,i<302→∃v o,os[i]?=54∧j24=25∧AX H v o∧m25 i=o:=618 (by
   have af:i<k69:=by rw[aw.ol,eO.ol];exact hi
   have ak:i<b34:=by rw[eO.ol];exact hi
   refine⟨_,_,cA af,cA ak,aw.ok i _ _ (cA af) (cA ak),?_⟩;rw[cZ,cA ak];rfl);rw[A33 263];rw[A63 [] au];have hE:∀{dM:av}{o:dz},786→aA H (upd dM p o):=fun{dM o:_}e b u z=>364 (110 z au) (e b u z);obtain⟨v,o,a3,a8,sv,a4⟩:=aeM _ Sd;have bg:=aw.same s1;refine⟨_,rfl,R.a,C,228,_,_,rfl,bg.at_,20,k68,O9,_,rfl,R.a,C,228,_,_,rfl,bg.at_,20,M.Ed,IW,_,rfl,368,48 (i68:Nat),rfl,.inl ⟨_,c71,.inl bg.nm,rfl,567 (awt ai)⟩,430,_,_,v,rfl,rfl,32 bg.oM,fm a3,?_⟩;rw[B72 (∃(i rb:Nat)(v:ae)(o:844)(aD:27)(zs:035),σ=[a73,493,444,54]∧49∧aeJ H' p aD zs∧AX H v o∧i<rb∧i<302∧j24=25∧Cs d06 rb o o02=ru q x∧b33+i<315∧m=i) ⟨_,i68,302,v,o,[],[],rfl,s1,⟨aI,89⟩,sv,Sd,Sd,a8,?_,?_,rfl⟩]
  ·rw[←a4];rfl
  ·show 0+_<315;lia
  rintro m σ aB⟨i,rb,v,o,aD,zs,rfl,s2,j4,sv,yx,uc,a8,hw,ax,rfl⟩;obtain⟨rb,rfl⟩:∃f,rb=f+1:=b71 (rb-1)
  cases o with
   |none=>
    have e:v=.b4:=sv;subst e;refine⟨_,rfl,rfl,_,rfl,b_ ⟨_,rfl,p,_,rfl,32 d05,fun l lL=>?_⟩⟩;have hw:o02=ru q x:=hw;rw[A87 (587).reverse lL];refine k _ l aD.reverse 685 (328 (by rw[aI,List.map_reverse])) ?_
    ·rw[←hw];exact j4.hq.rev.mono (fun t z h=>83 h)
    ·rw[←hw,auM];lia
   |some o=>
    obtain⟨t,rfl,bk⟩:=sv;have cM:=eO.eO _ o a8;obtain⟨vu,dr,vF,ju,aww,KR⟩:=aeM o.1 03;have m5:=106 bk;refine⟨_,rfl,rfl,_,rfl,c8 ⟨_,a26,?_⟩⟩;refine⟨_,rfl,329 d05,_,rfl,t,_,_,k14,rfl,rfl,448 m5,e62 1,_,rfl,t,_,_,k03,rfl,rfl,448 m5,e62 2,338,c32⟩;have s3:=b06 [k14,k03];have sF:=83 d05;have awx:T≠p:=16 (by rw[z,j4.lst]at bR;cases bR);refine⟨p,_,_,rfl,rfl,sF,?_,?_⟩
    ·have:=j4.hq.len;rw[ba];rw[A14 (show 255 by lia)]
    ·have s4:aA H (34 (388 aB T [k14,k03]) p (587++[c51])):=hE 685;have fz:=aw.same s4;have p4:=103 bk;refine⟨_,rfl,R.a,C,228,_,_,rfl,fz.at_,20,k68,O9,_,rfl,t,_,_,48 o.1,rfl,rfl,448 p4,f03,430,_,_,vu,rfl,rfl,32 fz.oM,fm vF,o.1,cM,o.1,rb,vu,dr,aD++[T],zs++[o.2],rfl,s4,328 ?_,aww,03,03,ju,?_,?_,rfl⟩
     ·rw[A52];rfl
     ·refine e50 (j4.hq.mono (fun t z h=>?_)) ?_
      ·exact 553 (83 h) sF (83 h)
      ·exact 861 awx
     ·rw[List.reverse_append];have hw:Cs d06 rb (m25 o.1) (o.2::o02)=ru q x:=hw;rw[KR]at hw;exact hw
     ·rw[cn];show b33+1+_<315;lia
abbrev aeN:bK:=bA 0x87
theorem aeO:31 [35,731,235,f15,726,366,f14,974] f99 aeN:=⟨rfl,rfl,rfl,05,rfl,05,05⟩
inductive KS(CM:ag)(CS:ag)(vs:08)(H:av)(Q:aW)(E:bD):04|mk:∀(a:ag)(sy:cv)(z:Int)(x:06),vs=[37,488,459]→267→269→gx H Q (Ct sy z x)→KS CM CS vs H Q E
theorem awy(l:035):11 (u4 l)=2*63:=by
 unfold u4
 induction l with|nil=>rfl|cons a t ih=>rw[ta,cn,ih];show 2+_=2*(e96);lia
theorem awz(l:035)(z:916):u4 (l++[z])=u4 l++[649,15 z.2]:=by unfold u4;rw[w7];simp
theorem awA(D:cq K ah k65 aeN f99 f fd)(O:443)(M:tZ K C)(A4:Pr P w K ah 02 aO 1 k67 433 (Jk CM CS))(A5:Pr P w K ah 02 aO 3 k66 433 (I_ CM CS C))(Se:jb P w K ah 02 aO 1 C o01 251 (Pq C))(Sf:Pr P w K ah 02 aO 1 "way_to" i82 (Sa C)):Pr P w K ah 02 aO 4 k65 f99 (KS CM CS):=by
 rw[A02 aeO]
 ·obtain⟨a,sy,z,x,rfl,_⟩:=h;rfl
 ·obtain⟨a,sy,z,x,rfl,aY,g,k⟩:=h;have S:=aeO;have bp:=D2 aq;rw[A01 (90 3 (bj A4 22 bb (77 0 1 ay)) (318 (bM ka (J 3) bu (bO _)) 845) (90 4 (bj A5 22 bb (77 0 1 ay)) (318 (MW (anx bp 45 (633 4))) (78 (pE (348 (gv Se 20 22 bb 327)) bu bu))) (90 5 (bj Sf 22 bb (77 4 2 ay)) (94 6 (a63 (d6 (hO K rfl) 66 O.len eJ (384 5)))) (239 (e_ eL rfl (339 462) (98 7 rfl 70) (a77 (hD K rfl h9 nK nL (auB K rfl) 867 (384 7)))) 867))))];refine⟨_,rfl,_,rfl,a,sy,z,rfl,aY,_,rfl,_,_,rfl,rfl,_,rfl,359⟩
  ·have h':953<0:=104;rw[Ct,21 h']at k;exact⟨_,rfl,371,367 (k _ p 116 au aI)⟩
  ·have h':¬953<0:=951;obtain⟨n,y,rfl,aU,aC⟩:=aav h';rw[Ct,23 h',aC]at k;refine⟨_,rfl,_,rfl,a,sy,n,y,rfl,aY,aC,g.st y aC,aU,g.cw,q13 ?_⟩;have e:kj sy (n:Int).toNat ((270).getD [])=kj sy n y:=rfl;rw[e]at k;have eO:=aws sy n y;generalize kj sy n y=q at af g1 k eO;unfold zu at k;refine⟨_,rfl,_,rfl,R.a,C,228,_,_,rfl,b32,20,M.Ed,IW,368,_,rfl,qW.k (k:=c71) af.nm,_,rfl,?_⟩;by_cases ai:x∈886
   ·rw[A54 ai];rw[Z1 ai];rw[A21 ⟨_,rfl,_,rfl,R,os,q,x,rfl,af,eO,ai,g1.wl,fun aB p aD s2 j4 a6=>?_⟩];have ax:=j4.hq.len;generalize ru q x=zs at j4 ax a6 k;refine⟨_,rfl,p,_,rfl,306 d05,338,697⟩;rw[ba,ax];rw[A87 [372,48 b33] bk];have qc:=332;have v_:H t=00:=qc.free bk;have sF:=83 d05;have aCb:p≠t:=bT d05 bk;refine⟨_,rfl,p,rfl,224 sF,hN (K:=K) (a:=p) (xs:=587) (701 (σ=[248,610,493,601 (km sy 44),a73,444,530,v]∧c81∧H' t=79 (0::15 b33::u4 (zs.take i)))) ⟨00,rfl,s3,aI⟩ (fun i σ H' _⟨_,_,s4,_⟩=>g45 d05) ?_ ?_⟩
    ·rintro i y σ bP aC⟨v,rfl,s4,p4⟩;rw[A58];obtain⟨u,kT,rfl⟩:=pP.mp aC;obtain⟨z,hz,awB⟩:=j4.hq.get kT;have hi:=eI hz;refine⟨_,rfl,329 p4,_,rfl,t,u,_,_,rfl,rfl,p4,448 (103 awB),?_,_,rfl,k21,?_⟩
     ·rw[fa,dR,dR,awy,eS];exact gY (636 (_+2) _)
     ·rw[117 bk];exact 103 e
     ·rw[aI,dZ hz,awz];simp[aT]
    ·rintro σ bP⟨v,rfl,s4,p4⟩;rw[ba,ax,eK]at p4;rw[A15 (k bP t (qc.trans s4) v_ p4)]
   ·rw[A97 ai];rw[Pc ai];refine c8 ⟨_,rfl,R.a,228,_,rfl,b32,apu,R,os,q,rfl,af,_,rfl,?_⟩
    cases aa:(! q.op&&! 732)with|true=>rw[aa]at k;exact c8 (387 1 (k _ p 827 903 aI))|false=>rw[aa]at k;exact b_ (387 1 (k _ p 827 903 aI))
abbrev aeP:bK:=bA 0x85
theorem aeQ:31 433 433 aeP:=⟨rfl,rfl,rfl,05,rfl,05,05⟩
theorem awC(D:cq K ah "way" aeP 433 f fd)(bJ:268)(Ro:220 o00 (-8))(BW:Pr P w K ah 02 aO 4 k65 f99 (KS CM CS)):Pr P w K ah 02 aO 5 "way" 433 (RU CM CS):=by
 rw[A02 aeQ]
 ·rw[B75];rfl
 ·obtain⟨a,sy,z,rfl,cg,g,k⟩:=h;have S:=aeQ;rw[A01 (239 (a50 (bM jX 59 et (bO _)) Ro) (bj BW 22 bb (77 0 1 010)))];rw[B35 cg];unfold Gq at k;refine⟨_,rfl,a,CS,dx,_,_,rfl,84,80,969,tW,rfl,_,rfl,?_⟩
  cases e:sy.goal with|none=>rw[e]at k;exact c8 (387 1 (k _ p 116 au aI))|some x=>rw[e]at k;rw[A21 ⟨_,rfl,_,rfl,_,rfl,a,CS,dx,_,_,rfl,84,80,969,tW,?_⟩];rw[e];exact⟨a,sy,z,x,rfl,cg,g,k⟩
abbrev aeR:bK:=bA 0x86
theorem aeS:31 [35,731,885,235] j06 aeR:=⟨rfl,rfl,rfl,05,rfl,05,05⟩
theorem awD(D:cq K ah "reach" aeR j06 f fd)(t7:g10 12)(ml:Pr P w K ah 02 aO 2 d04 549 (yl K CM CS))(BW:Pr P w K ah 02 aO 4 k65 f99 (KS CM CS)):Pr P w K ah 02 aO 5 "reach" j06 (RV K CM CS):=by
 rw[A02 aeS]
 ·obtain⟨a,c,sy,z,cs,rfl,_⟩:=h;rfl
 ·obtain⟨a,c,sy,z,cs,rfl,cg,g,ar,k⟩:=h;have S:=aeS;rw[A01 (389 3 (bj ml 22 bb (77 0 2 ay)) (e36 3 t7) (437 BW 0 1 3))];rw[A41];refine⟨_,rfl,_,rfl,a,c,sy,cs,rfl,cg,ar,03,g90⟩;unfold Gr at k
  cases e:nd 75 cs with|none=>rw[e]at k;exact⟨_,rfl,rfl,_,rfl,c8 (387 1 (k _ p 827 903 aI))⟩|some x=>rw[e]at k;exact⟨_,rfl,rfl,_,rfl,b_ ⟨_,rfl,_,rfl,_,rfl,a,sy,z,x,rfl,518,g,fun H' p s2 mU au=>k H' p 332 (f23 mU) au⟩⟩
def n0(ns:10):Nat:=11 (ns.foldl (fun σ k=>13 (σ.any (·==k)) σ (σ++[k])) ([]:10))
def Sg(ns:10):481 Int:=450 ((firstMet (425 (g80 i)) 314).any (·==k))
theorem aAT(ns:10):689 314 (g80 i)=ns:=by
 refine 194 ?_;rw[cK];rw[A39 (i<314)]
 ·rw[s6 h,cA h];show some (g80 i)=_;rw[cZ,cA h];rfl
 ·rw[187,140];rfl
theorem awE(ns:10):11 (firstMet (425 (g80 i)) 314)=n0 ns:=by unfold firstMet n0;rw[aAT];rfl
theorem awF:rT b30=some d76:=05
theorem awG:rT f22=some (399 f22):=05
theorem awH(K:bo)(cj:X.K=K)(ar:394:=by rfl):iy X d76 (k64 (∃(a:ag)(ns:10),xs=254∧063 a∧314<1000∧∀p,H p=00→664 (upd H p (.set (Sg ns) (n0 ns))))):=by
 rw[A60];subst cj;obtain⟨a,ns,rfl,aL,hz,q⟩:=h;rw[B33 aL];rw[cc.Dz r];have hi:Dy a0 ns:=cV.ints;have c4:b62=314:=by rw[gu];exact hi.length
 refine call_set_list 408 h51 k63 n99 n28;rw[c4,awE]at y;refine⟨277,_,f92 tk (351 (fC b o 105 e)) (show fx 61 X.w _ af _ (.set (Sg ns) (n0 ns))from y),rfl,q _ 683⟩
inductive aeT(xs:08)(H:av)(Q:aW):04|mk:∀p S n,xs=717→H p=some (.set S n)→662 n→aeT xs H Q
theorem awI:g77 aeT:=by
 rw[A60];obtain⟨p,S,n,rfl,au,q⟩:=h;rw[B08 r];rw[A07];obtain⟨o,aR,c0,tb,a8,hex,hd,_,_,aa,hf,aU⟩:=(88 (s.heap.SetOf (intKind 61 X.w) p S n) (613 p au));have e:52 d03=44:=by rw[aU]
 refine call_len_set a8 hex hd hf q12 ⟨.int n,H,(279).tok _,404 f21,q⟩
theorem awJ(K:bo)(cj:X.K=K):iy X (399 f22) (NY K):=by subst cj;exact ams
theorem aeU{k:Nat}(af:1≤k)(a6:k≤3):b73 (600 k k) c66=061:=by match k,af,a6 with|1,_,_=>decide|2,_,_=>decide|3,_,_=>decide
theorem awK{k:Nat}(af:1≤k)(a6:k≤3):lj k 061:=by rw[←aeU af a6];intro r aq;have:=xq (ob.mp aq).1;exact this
theorem aeV{k:Nat}(af:1≤k)(a6:k≤3):11 061≤6:=by match k,af,a6 with|1,_,_=>decide|2,_,_=>decide|3,_,_=>decide
theorem c2.flat{CC:272}{R:712}{S:od→92 CC}{f:α→List od}{g:β→List CC}{a:40}{b:522}(h:c2 R a b)(k:∀x y,R x y→c2 S (f x) (g y)):c2 S (a.flatMap f) (b.flatMap g):=by induction h with|nil=>rw[A40]|cons r _ ih=>rw[ta,ta];exact(k _ _ r).app ih
theorem c2.rows{α β:272}{R:712}{cs:40}{ds:522}(h:c2 R cs ds):∀n,c2 (c2 R) 043 (dJ ds n)|0=>386 89|n+1=>(c2.rows h n).flat (fun x y CJ=>h.map (fun c d _ r=>CJ.app (386 r)))
theorem awL{r:08}{rows:30}(aN:H a=247 r)(x:c2 (f74 (v=e46∧H b=259 t)) r 17):∃bs,sO H a bs 17:=by
 have key:∀{r:08}{rows:30},c2 (f74 (v=e46∧H b=259 t)) r 17→∃bs,r=478∧c2 (fun b(t:List Nat)=>H b=259 t) bs 17:=by
  intro r rows x
  induction x with|nil=>rw[A44 [] 89]|cons h _ ih=>obtain⟨b,rfl,aa⟩:=h;obtain⟨bs,rfl,f7⟩:=ih;rw[A44 (b::bs) (.cons aa f7)]
 obtain⟨bs,rfl,f7⟩:=key x;refine⟨bs,aN,by rw[f7.len,ba],n36⟩;obtain⟨t,bk,aa⟩:=f7.get af;rw[cK,bk]at ak;have:a_ t=q:=cI ak;rw[A48];exact aa
structure TY(H:av)(p:ag)(as:27)(n1:List 30):04 where
 lst:H p=247 317
 h3:c2 (fun a rows=>∃bs,sO H a bs 17) as n1
theorem TY.get{H:av}{p:ag}{as:27}{n1:List 30}(h:TY H p as n1){i:Nat}{y:ae}(aC:f88=270):∃a rows bs,n1[i]?=some 17∧y=37∧sO H a bs 17:=by rw[cK]at aC;obtain⟨a,aN,rfl⟩:=pP.mp aC;obtain⟨rows,aq,bs,aa⟩:=h.h3.get aN;exact⟨a,17,bs,aq,rfl,aa⟩
theorem Sh{α:272}[BEq α][n26]:∀{l r:40},c75 (645 (x∈r)→230≤63→l.Perm r)|[],r,_,_,h=>by have:r=[]:=List.eq_nil_of_length_eq_zero 967;rw[this]|x::l,r,az,aL,ax=>by have ai:=aL x 237;have C3:=e40;have ih:=Sh (l:=l) (r:=r.erase x) C3.2 (086 ((ajN (fun(e:y=x)=>C3.1 (e▸aC))).mpr (aL y 922))) (by rw[ajO ai];rw[dR]at ax;lia);exact 38 (List.Perm.cons x ih) (567 (List.perm_cons_erase ai))
end
section
variable{A:rU}{C CM CS D a b c d dx f p t:ag}{E Q:aH→aZ→Prop}{F cm:List (List Nat)}{K:bo}{M:Model}{N ps:List Str}{P:f3}{fD:Pos}{S:ag→Prop}{T:String}{us vs:List aH}{aD as:List ag}{aG e:dn}{aR:Array Ip}{acc:List (Str×ag)}{bx u:aH}{o:Obj}{ah dG:Str→Option aH}{az:Option ag}{b0 cR eh i j lv n:Nat}{base h:dk}{c_ ea g l ls row:List Nat}{cl:Str→Option ag}{cs ms r:List Int}{fd:k6}{x:Str}{outer:List Env}{own:List (Str×Nat)}{pl:Sem Bool}{q:Search}{s:dt}{sc:rp}{v:Word}{w:ff}{m:g0}{sy:cv}{xs ys:List ae}{y:ae}{H H' H1 aB:av}{qV:av→Prop}{c7 g7 h5:ct}{tt:j6}{CX:pJ}{sp:mM}{z:Nat×hr}
theorem awM{k:Nat}{row:10}(ax:h45=k)(au:ms.Perm row)(aL:ms.Pairwise n98):ms=763↔vb k row=01:=by
 have Si:667 763:=q07 (awN (n:=k)) (this.imp (fun h e=>h 03));have awO:(763).Pairwise n98:=by unfold b6;rw[Mq];exact(List.pairwise_lt_range (n:=k)).imp (312 03)
 unfold vb;rw[hG,beq_iff_eq,gB];rw[A04]
 ·intro e;subst e;rw[A03 ax e32];rw[xk];exact au.subset (143 i hi)
 ·rintro⟨_,dQ⟩;have aeW:∀x∈763,x∈row:=276 (n90 171 (xk.mp (dQ i hi)));have pm:(763).Perm row:=by refine Sh Si aeW ?_;rw[ax];unfold b6;rw[ba,iP];exact 64
  exact List.Perm.eq_of_pairwise (fun a b _ _ af ak=>Int.le_antisymm af ak) aL awO (au.trans pm.symm)
theorem awP{lo c:Int}{g:iv}{vs:06}{σ:bq}(Pv:599)(h0:Pv 0 695)(aL:∀i H,i<n→617→g (.int (lo+(i:Nat)*c)) 297 H (fun c6 aB=>708=297∧tt c6 aB (fun b a5=>39 b (c7 c6 a5 (fun y bP=>∃acc,bP D=700∧706∧e78 (i+1) [y])) (Pv (i+1) a5))))(hd:∀H,Pv n H→qV H):∃W:240 599,(∃m,W 0 m 695)∧∀i m H,W i m H→(800 (DQ lo c n)∧qV H)∨((DQ lo c n).go i H∧∃hh:855,(c58 (eg<m∧W (i+1) eg H'))∧∀x H',(DQ lo c n).mL i H x H'→g x 297 H' (fun c6 aB=>708=297∧c88 b (bP D=700∧706∧c29 [y]))):=by
 rw[B12 (m=n-i∧i≤n∧617) ⟨n,567 (Nat.sub_zero n),d_ n,h0⟩];rw[B20];by_cases cM:i<n
 ·refine .inr ⟨cM,361,fun H' q=>⟨n-(i+1),03,rfl,03,q⟩,?_⟩;rintro y H'⟨rfl,rfl⟩;exact aL i _ cM p
 ·rw[A50 (i=n)];subst e;rw[A23 (cL i) (hd H p)]
theorem awQ{k:Nat}(af:1≤k)(bH:k≤4)(aU:n≤4):Yx 0 (52 (n*k)) 82 n:=by
 have G6:n*k≤377:=477 (wc aU bH);have aq:z8 0 (52 (n*k)) 82=44:=by
  unfold z8;rw[21 (show 82>0 by lia)];by_cases h0:n=0
  ·subst h0;rw[124];rfl
  ·have au:1≤n*k:=UN 03 03;rw[118];have e:52 (n*k)-0-1=(82-1)+(44-1)*82:=by rw[u9,Int.sub_mul];lia
   rw[e,auR _ _ 03,auS 03 03];lia
 refine⟨03,03,?_,aq⟩;have f:∀z:Int,-0x64≤z→z≤0x64→PO z=01:=fun z a b=>by unfold PO;rw[145,145];rfl
 unfold Ou;rw[aq,179 0,179 (52 (n*k)),179 82,179 44,21 (show 82>0 by lia),179 (52 (n*k)+(82-1)),ac2];rfl
theorem Sj{K:bo}{H:av}:∀L:10,tP K H (L.map b31) (L.map kI)|[]=>89|x::l=>.cons (.int x) (Sj l)
theorem awR(r:10):we f73=01∧wg f73=0:=by induction r with|nil=>rw[C13]|cons x y ih=>exact⟨by simp[we,JC,ih.1],by simp[wg,JD,ih.2]⟩
theorem ahs(r:10):vM m07=01:=by unfold vM;have:=awR r;simp[JC,JD,183,this.2]
theorem awS:∀a b:10,vN (q5 (a.map kI)) (q5 (b.map kI))=29 (a=b):=by
 have key:∀a b:10,EI (a.map kI) (b.map kI)=29 (a=b):=by
  intro a
  induction a with
   |nil=>intro b;cases b<;>simp[EI]
   |cons x t ih=>
    intro b
    cases b with
     |nil=>simp[EI]
     |cons y u=>
      simp only[eN,EI,vN,ih];rw[A06 x y]
      ·subst e;simp
      ·simp[e]
 intro a b;simp only[vN,key]
abbrev Sk:bK:=bA 0x62
theorem aeX:31 [35,623,243,h49] 585 Sk:=⟨rfl,rfl,rfl,05,rfl,05,05⟩
inductive FF(CM:ag)(CS:ag)(vs:08)(H:av)(Q:aW)(E:bD):04|mk:q11 (vs=349 (48 k)→267→269→1≤k→k≤3→(n97 (49→TY H' p as a86→412))→FF CM CS vs H Q E)
theorem awT(D:cq K ah h47 Sk 585 f fd)(O:347)(Os:ah b30=00)(bJ:268)(nN:Pr P w K ah 02 aO 1 f19 c24 (A_ K)):Pr P w K ah 02 aO 2 h47 585 (FF CM CS):=by
 rw[A02 aeX]
 ·rw[C94];rfl
 ·obtain⟨a,sy,k,rfl,cg,g,af,a6,b0⟩:=h;have S:=aeX;rw[A01 (239 (qT (i:=3) rfl 242 rfl rfl 875 (339 (552 nN 1 (l_ h19 66 O.list Bc (78 (l_ Eu 66 971 xU 296))))) (own:=[(243,2)]) (295 [35,623,243,h49] Sk) g98 (e47 (bM fv (d6 awI 66 O.len eJ (78 (l_ (awH K rfl) 66 Os awF 698))) 62 (bO _))) (286 45)) (925 nN 017 845))];rw[A41];refine⟨_,rfl,_,rfl,82,rfl,g82⟩;have s1:=964 (.pz 0 82) rM;refine⟨ua,k,rfl,aI,03,g87⟩;have s2:=593 943 jz;refine⟨cl,k,a_ 943,rfl,e43,03,p93,618 (p92 (Jt 03 03)),fun a5 p as s3 h2=>?_⟩;have i0:dJ (a_ 943) k=(600 k k).map a_:=CO j82 943 k;rw[i0]at h2;have uy:=e74;have aeY:=aeU af a6;have mem:565 (600 k k) (230=k):=725 (xq aq).1;have jg:11 (600 k k)≤0x1b:=by match k,af,a6 with|1,_,_=>decide|2,_,_=>decide|3,_,_=>decide
  generalize 600 k k=KU at h2 aeY mem jg;refine⟨p,rfl,224 h50,436⟩;refine kC (K:=K) (a:=p) (xs:=317) (876 (∃cs:27,479 a5∧H' D=247 634∧c2 (fun c(t:List Nat)=>a5 c=259 t) cs (b73 n37 c66))) ⟨[],832,aI,89⟩ (fun j H' _⟨_,s4,_⟩=>g45 h50) ?_ ?_
  ·rintro j y bP aC⟨cs,s4,KV,iD⟩;obtain⟨c,cV,ar,FG,rfl,eM⟩:=h2.get aC;rw[cK]at FG;obtain⟨r,c1,rfl⟩:=pP.mp FG;have wa:=mem r e66;have bS:=eI c1;refine⟨rfl,_,rfl,c,b6 r,rfl,32 (by rw[←sH];exact 103 eM),by rw[nM];lia,330 ⟨q,_,_,rfl,aI,_,rfl,rfl,_,rfl,?_⟩⟩;rw[kH];have eG:762 (i90:Nat) 82=c66:=by
    rw[A06 i90 k]
    ·rw[190,145]
    ·rw[132,133]
   rw[eG];have s5:=964 (.set (Sg (b6 r)) i90) aw;have gC:∀b,c66=b→b73 (KU.take (j+1)) c66=b73 n37 c66++(39 b [r] []):=i28 (dZ c1);have aCc:=iD.len;have FH:=tT (429 c66) n37;rw[eS]at FH;refine eo 485 485
   ·refine⟨_,rfl,_,s5 _ _ KV,?_,cs++[c],923,?_,?_⟩
    ·rw[ba];rw[A14 (show 255 by lia)]
    ·rw[110 z cO];exact s5 _ _ (103 z)
    ·rw[A52];rfl
    ·rw[gC 01 aa];exact iD.app (386 eM)
   ·rw[gC 09 aa];rw[C08 cs g22 (s5 _ _ KV)]
  ·rintro bP⟨cs,s4,KV,iD⟩;rw[ba,h2.len,ba,eK,aeY]at iD;have mV:=n17;rw[B19 (622 mV)];have hlen:=iD.len;have iT:=aeV af a6;refine⟨_,rfl,a,CS,dx,_,_,rfl,84,80,727,mg,_,rfl,b82,_,rfl,?_⟩;rw[dB];refine⟨D,81,634,rfl,32 KV,03,by rw[ba];lia,618 (n96 (Jt 03 03)),fun de q dg s5 iw=>b0 de q dg j09 ?_⟩;have cH:c2 (f74 (v=e46∧de b=259 t)) 634 061:=by have:=iD.map (f:=501) (g:=id) (S:=f74 (v=e46∧de b=259 t)) (fun c t _ h=>⟨c,rfl,s5 _ _ (103 h)⟩);rwa[CP]at this
   have di:=cH.rows 81;rw[←Mm]at di;rw[A27 iw.lst];have key:∀(dg:27)(eV:g86)(n1:List 30),n58=eV.length→(d62 08 (dg[i]?=532) (eV[i]?=447→de a=247 r))→c2 (c2 (f74 (v=e46∧de b=259 t))) eV n1→c2 (fun a rows=>∃bs,sO de a bs 17) dg n1:=by
    intro dg
    induction dg with
     |nil=>
      intro eV n1 ax _ ai
      cases eV with|nil=>cases ai;rw[A40]|cons _ _=>cases ax
     |cons q dg ih=>
      intro eV n1 ax eM ai
      cases eV with|nil=>cases ax|cons r eV=>cases ai with|cons h0 bk=>exact .cons (awL (eM 0 q r rfl rfl) h0) (ih eV _ k39 (d02 (eM (i+1) a r af ak)) bk)
   exact key dg _ _ iw.len iw.row di
abbrev Sl:bK:=bA 0x66
theorem aeZ:31 588 585 Sl:=⟨rfl,rfl,rfl,05,rfl,05,05⟩
inductive Sm(CM:ag)(CS:ag)(vs:08)(H:av)(Q:aW)(E:bD):04|mk:q11 (vs=349 (48 k)→267→269→wH sy→1≤k→k≤3→(∀H' p xs,49→416=525→57=11 (582 a86 (fun aD=>545 (jL sy k aD)))→412)→Sm CM CS vs H Q E)
theorem ae0{k:Nat}(af:1≤k)(a6:k≤3){aD:30}(h:aD∈mE k n):n95=n∧lj k aD:=by
 rw[Mm]at h;rw[A03 (yF h) c23];have key:∀{n:Nat}{aD:30},aD∈dJ 061 n→∀r∈aD,r∈061:=by
  intro n
  induction n with
   |zero=>intro aD h r aq;rw[86 h]at aq;cases aq
   |succ n ih=>
    intro aD h r aq;obtain⟨q,aw,awU⟩:=ni.mp h;obtain⟨c,ar,rfl⟩:=112 awU;rcases 362 aq with aq|aq
    ·exact ih aw r aq
    ·rw[86 aq];exact ar
 exact awK af a6 r (key h r aq)
theorem awV{k:Nat}(af:1≤k)(a6:k≤3)(aU:n≤4):11 (mE k n)≤1296:=by
 rw[Mm,Js];have:=aeV af a6;calc
  (tl k).length^n≤6^n:=Ju this n
  _≤6^4:=Ba (by decide) aU
  _=1296:=by decide
theorem awW(D:cq K ah n94 Sl 585 f fd)(uH:Pr P w K ah 02 aO 2 h47 585 (FF CM CS))(uI:Pr P w K ah 02 aO 3 h44 588 (Fq CM CS)):Pr P w K ah 02 aO 4 n94 585 (Sm CM CS):=by
 rw[A02 aeZ]
 ·rw[C94];rfl
 ·obtain⟨a,sy,k,rfl,cg,g,iI,af,a6,b0⟩:=h;have S:=aeZ;rw[A01 (65 (k9 rfl 242 (339 (bj uH 22 bb (77 0 1 ay))) (own:=[(539,2)]) (295 588 Sl) g98 (e47 (bM jX (437 uI 0 1 2) et (bO _))) (286 45)))];rw[A41];refine⟨_,rfl,_,rfl,a,sy,k,rfl,cg,g,af,a6,q09 ⟨p,rfl,224 h46,436⟩⟩;have mem:∀aD∈a86,m73∧lj k aD:=fun aD h=>ae0 af a6 h;have yT:=awV af a6 bH;generalize a86=n1 at bR mem yT b0;refine kC (K:=K) (a:=p) (xs:=317) (876 (∃xs:08,a95∧H' D=525∧57=11 (582 n31 (fun aD=>545 (jL sy k aD))))) ⟨[],832,aI,rfl⟩ (fun j H' _⟨_,s2,_⟩=>32 (s2 _ _ h46)) ?_ ?_
  ·rintro j y aB aC⟨xs,s2,fp,ai⟩;rw[C92 (bR.get aC)];obtain⟨hx,ip⟩:=mem 17 (cG y6);have FH:=tT (fun aD=>545 (jL sy k aD)) n31;rw[eS]at FH;have gC:∀b,545 (jL sy k 17)=b→582 (n1.take (j+1)) (fun aD=>545 (jL sy k aD))=582 n31 (fun aD=>545 (jL sy k aD))++(39 b [17] []):=i28 (dZ y6);refine⟨rfl,_,rfl,_,rfl,_,rfl,a,b,sy,bs,17,k,rfl,(518).same s2,g,iI,cH.same s2,hx,ip,03,fun e7 a5 s3=>?_,fun i aR a5 s3=>?_⟩
   ·refine⟨rfl,_,rfl,c8 ⟨_,rfl,_,83 fp,fL (show _≤2000 by lia) 14,xs++[281],g89,aI,?_⟩⟩
    ·rw[110 z cO];exact 83 (s2 _ _ z)
    ·rw[gC 01 n82,cn,cn,ai];rfl
   ·refine⟨rfl,_,rfl,b_ ⟨xs,685,83 fp,?_⟩⟩;rw[gC 09 n81,ai];simp
  ·rintro aB⟨xs,s2,fp,ai⟩;rw[ba,bR.h3.len,eK]at ai;exact b0 aB D xs 332 fp ai
abbrev ae1:bK:=bA 0x8b
theorem ae2:31 585 585 ae1:=⟨rfl,rfl,rfl,05,rfl,05,05⟩
inductive Sn(CM:ag)(CS:ag)(vs:08)(H:av)(Q:aW)(E:bD):04|mk:i65 (vs=349 488) (267→269→wH sy→gx H Q (GL sy z)→Sn CM CS vs H Q E)
theorem awX(D:cq K ah h49 ae1 585 f fd)(O:347)(awY:220 q10 3)(yD:220 i25 (-7))(uH:Pr P w K ah 02 aO 2 h47 585 (FF CM CS))(So:Pr P w K ah 02 aO 4 n94 585 (Sm CM CS)):Pr P w K ah 02 aO 5 h49 585 (Sn CM CS):=by
 rw[A02 ae2]
 ·rw[B75];rfl
 ·obtain⟨a,sy,z,rfl,cg,g,iI,k⟩:=h;have S:=ae2;rw[A01 (239 (a50 (rX (bM ka (J 1) bu (bO _)) (rW (bM oA (J 1) (dq awY) (bO _)))).pt yD) (cN (aj bu (258 (d6 (hO K rfl) 66 O.len eJ (78 (bj uH 22 bb (77 0 1 ay)))) (d6 (hO K rfl) 66 O.len eJ (78 (bj So 22 bb (77 0 1 ay))))))))];unfold GL at k;refine⟨_,rfl,_,_,rfl,rfl,_,rfl,359⟩
  ·rw[A54 (.inl 104)];exact c8 (387 1 (k _ p 116 au aI))
  ·have h:¬z<1:=951;refine⟨_,rfl,_,_,rfl,rfl,_,rfl,eb 642 642⟩
   ·rw[A54 (.inr d46)];exact 387 1 (k _ p 116 au aI)
   ·have ak:¬3<z:=58 (ak i54);rw[124]at k;rw[B69 (z=44) j07];rw[kA]at k;refine⟨_,rfl,_,rfl,a,sy,n,rfl,cg,g,03,03,q09 ⟨p,_,rfl,306 h46,?_⟩⟩;rw[ba,bR.h3.len];refine⟨_,rfl,_,rfl,a,sy,n,rfl,518,g,iI,03,03,fun aB q xs s2 aw ai=>⟨q,_,rfl,306 aw,894 3,697⟩⟩;rw[ai];exact k _ t (d40 n20) ((332).free bk) aI
theorem Pr.imp{P:f3}{w:ff}{K:bo}{ah:261}{base:dk}{CX:pJ}{k:Nat}{x:Str}{ps:221}{sp Du:mM}(h:Pr P w K ah 02 CX k x ps sp)(i:e09 (Du vs H Q E) (sp vs H Q E)):Pr P w K ah 02 CX k x ps Du:=h48 ⟨f,fd,a,b,c,d.imp i⟩
theorem ae3{k:Nat}:∀l:30,(k58 (230=k))→n93=63*k|[],_=>19|a::l,h=>by rw[qs,cn,ae3 l (725 (h r (d4 _ aq))),127 a,dR,pq,pv,tp]
theorem awZ(l:30)(r:06):b6 (540 (l++[r]))=b6 n92++b6 r:=by rw[Cr];unfold b6;rw[d5];simp
theorem aw0{f:06→06→10}(h:790<0):rD sy f=[790]:=by
 rcases m64 f with⟨_,ak⟩|⟨af,_⟩
 ·exact ak
 ·lia
theorem ae4(h:¬790<0):d01 (034∧672=270∧∀f,rD sy f=f x y):=by
 rcases m64 (k62 [])with⟨af,_⟩|⟨af,x,y,ex,f6,_⟩
 ·exact 69 af h
 ·refine⟨x,y,ex,f6,fun f=>?_⟩;unfold rD;rw[ex,f6]
abbrev ae5:bK:=bA 0x67
theorem ae6:487 588 ae5:=⟨rfl,rfl,rfl,05,rfl,05,05⟩
inductive Sp(CM:ag)(CS:ag)(vs:08)(H:av)(Q:aW)(E:bD):04|mk:q08 06 (vs=254→267→269→wH sy→034→672=270→(zM sy x y=00→846)→(∀z,zM sy x y=415→∀H' t p bs,49→H' t=294 [769,280]→sO H' p bs z.2→h39=81→lj z.1 z.2→z.1≤3→435 t)→Sp CM CS vs H Q E)
theorem aw1{KW:ag}(D:cq K ah n91 ae5 50 f fd)(aw2:d7 ah n51 (.ref KW))(dH:∀H,dX K H KW (a_ [2,3]))(uH:Pr P w K ah 02 aO 2 h47 585 (FF CM CS))(uI:Pr P w K ah 02 aO 3 h44 588 (Fq CM CS))(BX:Pr P w K ah 02 aO 3 k57 588 (Kt CM CS)):Pr P w K ah 02 aO 4 n91 50 (Sp CM CS):=by
 rw[A02 ae6]
 ·rw[C93];rfl
 ·obtain⟨a,sy,x,y,rfl,cg,g,iI,ex,f6,eE,cS⟩:=h;have S:=ae6;rw[A01 (239 (e_ eL rfl (IH K rfl (dq aw2)) (98 1 rfl 70) (aM (711 (bj uH 22 bb (77 0 1 ay)) 2 (vw (348 (437 BX 0 1 2)) (xO (bM jX (437 uI 0 1 2) et (bO _)))).pt (oC (461 1 2))))) et)];unfold zM at eE cS;refine⟨KW,rfl,404 (dH _),M9 (K:=K) (a:=KW) (xs:=a_ [2,3]) (504 (∃v1 v2:93,σ=[248,v1,v2]∧49∧a68 (([2,3]:06).take i) (450 ((g32 a86 (apart 75 aD k x y&&545 (jL sy k aD))).map (fun aD=>(k,aD)))))) ⟨00,00,rfl,517,rfl⟩ (fun i σ H' _ _=>dH H') ?_ ?_⟩
  ·rintro i v σ H1 a3⟨v1,v2,rfl,s1,cy⟩;obtain⟨k,aS,rfl⟩:=v3 a3;have wG:1≤k∧k≤3:=by have:k∈([2,3]:06):=cG aS;have dQ:∀k∈([2,3]:06),1≤k∧k≤3:=14;exact dQ k 246
   have mem:∀aD∈a86,m73∧lj k aD:=fun aD h=>ae0 wG.1 wG.2 h;refine⟨_,rfl,_,rfl,a,sy,k,rfl,518,g,wG.1,wG.2,fun aB p as s2 bR=>⟨p,rfl,224 h46,hN (K:=K) (a:=p) (xs:=317) (f17 (∃v2:93,σ=[248,71 k,v2]∧c81∧g32 (527 a86) (apart 75 aD k x y&&545 (jL sy k aD))=00)) ⟨_,rfl,j34,rfl⟩ (fun j σ H' _⟨_,_,s3,_⟩=>32 (s3 _ _ h46)) ?_ ?_⟩⟩
   ·rintro j u σ a5 bp⟨v2,rfl,s3,n2⟩;rw[C92 (bR.get bp)];obtain⟨hx,ip⟩:=mem 17 (cG y6);have oX:=e74;refine⟨_,rfl,_,rfl,_,rfl,a,b,sy,bs,17,k,x,y,rfl,622 oX,g,iI,g40,hx,ip,03,ex,f6,k61 (123 (eo (fun y7=>?_) (fun y7=>?_)))⟩
    ·refine⟨_,rfl,_,rfl,_,rfl,a,b,sy,bs,17,k,rfl,(622 oX).same s4,g,iI,(g40).same s4,hx,ip,03,fun e7 de s5=>?_,fun q aR de s5=>?_⟩
     ·refine⟨rfl,_,rfl,c8 ⟨_,rfl,_,rfl,338,697⟩⟩;have cW:=821 [48 k,281] bk;exact cS (k,rows) (Fo aS cy (b27 (Fn y6 n2 (by rw[y7,e7];rfl)))) _ t b bs (547 (k51 s4) s5 cW) aI ((((g40).same s4).same s5).same cW) hx ip wG.2
     ·exact⟨rfl,_,rfl,b_ ⟨_,rfl,38 b87 s5,y2 y6 n2 (by rw[y7,aR];rfl)⟩⟩
    ·exact b_ ⟨_,rfl,b87,y2 y6 n2 (by rw[y7];rfl)⟩
   ·rintro σ a5⟨v2,rfl,s3,n2⟩;rw[ba,bR.h3.len,eK]at n2;exact⟨_,_,rfl,e74,BL aS cy (by rw[n2];rfl)⟩
  ·rw[C89];exact eE cy H1 s1
abbrev ae7:bK:=bA 0x8c
theorem ae8:487 [35,f15,726,f14,243] ae7:=⟨rfl,rfl,rfl,05,rfl,05,05⟩
inductive Sq(CM:ag)(CS:ag)(vs:08)(H:av)(Q:aW)(E:bD):04|mk:749 (vs=254) (267→269→wH sy→gx H Q (GN sy)→Sq CM CS vs H Q E)
theorem aw3(D:cq K ah "turned" ae7 50 f fd)(m6:Pr P w K ah 02 aO 1 c97 50 (y1 CM CS))(Sr:Pr P w K ah 02 aO 4 n91 50 (Sp CM CS)):Pr P w K ah 02 aO 5 "turned" 50 (Sq CM CS):=by
 rw[A02 ae8]
 ·rw[A59];rfl
 ·obtain⟨a,sy,rfl,cg,g,iI,k⟩:=h;have S:=ae8;rw[A01 (90 1 (340 m6) (318 (bM ka (J 1) bu (bO _)) 296) (90 2 (340 Sr) (318 (bM jX (J 2) et (bO _)) 755) (389 3 (a63 c63) (e_ eL rfl (339 c63) (98 4 rfl 70) (a77 (hD K rfl h9 nK nL nE 85 (384 4)))) 85)))];rw[A41];unfold GN at k;refine⟨_,rfl,a,sy,rfl,cg,_,rfl,_,_,rfl,rfl,_,rfl,359⟩
  ·rw[aw0 104]at k;exact⟨_,rfl,371,367 (k _ p 116 au aI)⟩
  ·obtain⟨x,y,ex,f6,aa⟩:=ae4 (sy:=sy) (152 z);rw[aa]at k;refine⟨_,rfl,a,sy,x,y,rfl,cg,g,iI,ex,f6,c11,fun z aR H1 t p bs s1 bk cH OC ae9 EO=>?_⟩
   ·rw[e7]at k;exact⟨_,rfl,rfl,_,rfl,c8 (387 1 (k _ p 827 903 aI))⟩
   ·rw[aR]at k;have k:gx H Q (0::649::m60):=k;refine⟨_,rfl,rfl,_,rfl,b_ ⟨_,rfl,t,_,_,769,rfl,rfl,g85,f03,338,457⟩⟩;rw[A77 [372,769] aw];have aaT:H q=00:=f23 aw;refine⟨_,rfl,t,_,_,280,rfl,rfl,448 (106 bk),e62 1,p,rfl,224 (106 d00),hN (K:=K) (a:=p) (xs:=478) (701 (σ=[248,601 790,530,873,v]∧a95∧H' q=79 (0::649::b6 (540 (z.2.take i))))) ⟨00,rfl,s2,aI⟩ (l80 _ _ d00) ?_ ?_⟩
    ·rintro i v σ a5 a3⟨w,rfl,s3,wz⟩;obtain⟨b,cV,aa,FG,rfl,eM⟩:=cH.get a3;rw[cK]at FG;obtain⟨r,c1,rfl⟩:=pP.mp FG;have wa:=(ae9 r e66).1;have FH:=ae3 (k:=z.1) (z.2.take i) (725 (ae9 r (qp aq)).1);have hi:=eI c1;rw[eS]at FH;have hm:min i h39*z.1≤4*3:=wc 03 EO;refine⟨_,rfl,329 wz,_,rfl,q,b,_,_,rfl,rfl,wz,83 eM,?_,_,rfl,k60 ?_,?_⟩
     ·rw[fa,hn,dR,dR,nM];rw[A56]
     ·rw[117 aw];exact 83 e
     ·rw[aI,sH,Jj,dZ c1,awZ];rfl
    ·rintro σ a5⟨w,rfl,s3,wz⟩;rw[ba,cH.len,ba,eK]at wz;rw[A15 (k a5 q j11 aaT wz)]
abbrev Ss:bK:=bA 534
theorem afa:31 [35,623,381,226,539,243] a22 Ss:=⟨rfl,rfl,rfl,05,rfl,05,05⟩
inductive Su(CM:ag)(CS:ag)(vs:08)(H:av)(Q:aW)(E:bD):04|mk:∀(a c:ag)(sy:cv)(k:Nat)(x:10),vs=[37,48 k,655]→267→269→H c=79 x→1≤k→k≤4→(xj 81 k x=00→846)→(∀aD,xj 81 k x=some aD→k59 (49→sO H' p bs aD→m73→lj k aD→412))→Su CM CS vs H Q E
theorem aw4{k:Nat}{row:10}(h:vb k row=01):h45=k∧aT row=a_ (d8 row)∧538 (d8 row) (q<k):=by
 have h0:=h;unfold vb at h;rw[hG,beq_iff_eq,gB]at h;have Si:667 763:=q07 (awN (n:=k)) (this.imp (fun h e=>h 03));have pm:(763).Perm row:=by
  refine Sh Si 333 ?_
  ·rw[B74 171];exact xk.mp (h.2 i hi)
  ·rw[h.1,nM,iP];exact 64
 have mem:∀x∈row,∃i,i<k∧x=249:=276 (n90 (112 (pm.symm.subset ai)) (714 i a42));refine⟨h.1,?_,457⟩
 ·unfold aT a_ d8;rw[gP];refine lz 333;obtain⟨i,_,rfl⟩:=mem x ai;rfl
 ·rw[B38 aw];rw[B74 (mem x ai)];exact hi
theorem aw5(D:cq K ah n88 Ss a22 f fd)(O:347)(aw6:ah f22=00)(bJ:268):Pr P w K ah 02 aO 1 n88 a22 (Su CM CS):=by
 rw[A02 afa]
 ·obtain⟨a,c,sy,k,x,rfl,_⟩:=h;rfl
 ·obtain⟨a,c,sy,k,x,rfl,⟨dx,ls,BJ,aY⟩,g,ar,af,bH,eE,cS⟩:=h;have S:=afa;rw[A01 (aF (bX (bM k4 (d6 (hO K rfl) 66 O.len eJ 698) (eu vD 62 017) (bO _)) (65 et) b2) (aF (qT (i:=4) rfl 242 rfl rfl 875 (anL rfl 971 (aj bu (aj (d6 (hO K rfl) 66 O.len eJ 698) 296))) (own:=[(226,3)]) (295 [35,623,381,226,539,243] Ss) 926 369 (286 (pM b18 45 (ma 85) (ma (eu qH 85 62))))) (239 (711 327 5 (bM (asO K rfl f06) (d6 (awJ K rfl) 66 aw6 awG (384 5)) (l_ h19 66 O.list Bc (78 (l_ Eu 66 971 xU 296))) (bO _)) et) 327)))];have jn:=g.jm;unfold xj at eE cS;refine⟨_,rfl,c,_,rfl,306 ar,_,rfl,_,rfl,a,CS,dx,_,_,rfl,84,80,727,mg,_,rfl,b82,_,_,rfl,rfl,.inl m29,rfl,_,rfl,?_⟩;rw[kH,fa,dB];generalize sy.letters.length=n at jn eE cS;have em:(82*44)=52 (n*k):=by rw[u9,w9]
  rw[em];refine eo a62 a62
  ·have ai:¬96=n*k:=16 (by rw[z,167]at d9;cases d9);refine eE ?_ H 517;rw[A11];rw[if_neg];simp[ai]
  ·have ai:96=n*k:=p95 (nk 521) 133;refine⟨_,rfl,c,_,rfl,306 ar,_,rfl,0,52 (n*k),82,n,by rw[fa,ai],awQ af bH jn,436⟩;have afb:∀i,i<n→i*k+k≤96:=618 (q06 ((i+1)*k≤n*k) (CK _ hi));refine awP (lo:=0) (c:=82) (n:=n) (884 (∃bs:27,49∧H' D=036∧(∀b∈bs,b≠D)∧m37 (244=715) bs (689 i (550 (i*k) k)))) ⟨[],832,aI,19,89⟩ ?_ ?_
   ·rintro i aB hi⟨bs,s2,fp,nb,f7⟩;have hlen:=f7.len;rw[ba,iP]at hlen;rw[show 413+(i:Nat)*82=52 (i*k)by rw[u9];lia];refine⟨rfl,_,rfl,_,rfl,_,rfl,_,rfl,_,rfl,_,_,rfl,rfl,_,rfl,c,_,rfl,32 (s2 _ _ ar),263⟩;have s_:=ZC (xs:=aT x) (i:=i*k) (n:=k) (n89 (afb i hi)) (z:=52 (i*k)) (u:=52 (i*k)+82) rfl 03;have hg:222 (472 (aT x) (i*k)) k=aT (550 (i*k) k):=by unfold aT;rw[wV,uZ]
    rw[s_,hg];rw[A87 (aT (550 (i*k) k)) au];have FI:p≠D:=16 q01;refine⟨_,83 fp,?_,bs++[p],923,?_,773,?_⟩
    ·rw[ba];rw[A14 (show 255 by lia)]
    ·rw[110 z cO];exact 83 (s2 _ _ z)
    ·rw[A52];rfl
    ·rcases 362 aa with aa|aa
     ·exact nb b aa
     ·rw[86 aa];exact FI
    ·rw[rv,d5];refine c2.app ?_ (386 (861 FI));have key:∀(cs:27)(eV:99),(∀b∈cs,b≠D)→m37 (aB b=715) cs eV→m37 (334 (520 aB p (550 (i*k) k)) D (478++[881 p]) b=715) cs eV:=by
      intro cs eV aU h
      induction h with|nil=>rw[A40]|cons r _ ih=>exact .cons (41 (aU _ 237) (83 r)) (ih (350 (aU b (d4 _ aa))))
     exact key bs _ nb f7
   ·rintro aB⟨bs,s2,fp,nb,f7⟩;generalize c4:(689 n (550 (i*k) k))=l at f7 eE cS;have dp:k58 (230=k):=725 (by rw[←c4]at aq;obtain⟨i,hi,rfl⟩:=147;have:=afb i a42;rw[eS,fV];lia);have aw7:63=n:=by rw[←c4,ba,iP]
    have Sv:(96==n*k)=01:=by rw[ai];exact 174
    refine⟨_,rfl,D,rfl,224 fp,hN (K:=K) (a:=D) (xs:=478) (504 (∃fb ew:93,σ=[248,71 k,958,fb,46 D,ew]∧c81∧(648).all (vb k)=01)) ⟨_,00,rfl,j34,rfl⟩ (l75 _ _ fp) ?_ ?_⟩
    ·rintro i v σ a5 a3⟨fb,ew,rfl,s3,dQ⟩;rw[cK]at a3;rw[B62 a3];obtain⟨row,eM,kR⟩:=f7.get aa;have wa:=dp row (cG eM);refine⟨_,rfl,b,row,rfl,32 (s3 _ _ kR),03,fun ms p aw8 gq au=>?_⟩;have s4:=293 m39 au;refine⟨_,rfl,82,rfl,g82⟩;have s5:=964 (.pz 0 82) rM;refine⟨ua,k,rfl,aI,03,g87⟩;have cW:=593 943 jz;have FJ:=38 g22 cW;have Jm:=310 (s5 _ _ (k55 (334 a5 p m39 p=_)));refine⟨_,_,d86 Jm (Sj ms),d86 (by rw[aI,sH];rfl) (Sj 763),ahs _,ahs _,_,rfl,?_⟩;rw[awS];have iff:=awM wa aw8 gq;refine eo (fun qv=>?_) (fun qv=>?_)
     ·have aw9:vb k row=09:=q05 195 (102 (iff.mpr z));refine eE ?_ _ (38 685 FJ);rw[A11];rw[if_neg];rw[hG,not_and];intro _ hz;have:=gB.mp hz row (cG eM);rw[aw9]at this;rw[A47]
     ·have bk:vb k row=01:=q05 (iff.mp (nk 521)) (113 z);refine⟨_,_,rfl,c98 FJ,?_⟩;rw[dZ eM,AP,dQ];simp[bk]
    ·rintro σ a5⟨fb,ew,rfl,s3,dQ⟩;rw[ba,f7.len,eK]at dQ;have afc:k58 (230=k∧aT r=a_ (d8 r)∧538 (d8 r) (q<k)):=725 (aw4 (gB.mp dQ r aq));refine 123 (cS (363 d8) ?_ a5 D bs 685 ⟨83 fp,by rw[ba,ba];exact f7.len,n36⟩ (by rw[ba];exact aw7) c23)
     ·rw[A11];rw[if_pos];rw[Sv,dQ];rfl
     ·obtain⟨row,eM,kR⟩:=f7.get af;rw[cK,cK,eM]at ak;have:a_ (d8 row)=q:=cI ak;rw[←this,←(afc row (cG eM)).2.1];exact 83 kR
     ·obtain⟨row,eM,rfl⟩:=147;obtain⟨bg,_,eC⟩:=afc row eM;exact⟨by unfold d8;rw[ba];exact bg,eC⟩
abbrev afd:bK:=bA 0x8d
theorem afe:31 [35,623,381,539,365] a22 afd:=⟨rfl,rfl,rfl,05,rfl,05,05⟩
inductive Sw(CM:ag)(CS:ag)(vs:08)(H:av)(Q:aW)(E:bD):04|mk:∀(a c:ag)(sy:cv)(z:Int)(x:10),vs=[37,488,655]→267→269→wH sy→H c=79 x→gx H Q (qy sy z x)→Sw CM CS vs H Q E
theorem axa{x:10}(af:1≤n)(bH:n≤4):(xj 81 n x=00→qy sy 44 x=[-0xb])∧∀aD,xj 81 n x=some aD→(∀i,jL sy n aD=604→qy sy 44 x=[1,249])∧(jL sy n aD=00→(790<0→qy sy 44 x=[0,0])∧∀v w,d12=54→672=some w→qy sy 44 x=[0,39 (apart 75 aD n v w) 1 0]):=by
 unfold qy;rw[124,kA];rw[A03 (100 f21) (fun aD e=>⟨fun i hg=>by rw[e];simp only;rw[hg],fun e7=>⟨485,fun v w ev nj=>by rw[e];simp only;rw[e7,ev,nj]⟩⟩)];rw[e];rw[A11];rw[e7];unfold kN at aa
 cases aR:sy.start with|none=>rfl|some v=>cases pa:sy.goal with|none=>rfl|some w=>rw[aR,pa,144,144]at aa;lia
theorem axb(D:cq K ah "keeps" afd a22 f fd)(axc:220 "MOST_POINTS" 4)(yD:220 i25 (-7))(Sx:220 n79 (-0xb))(Sy:Pr P w K ah 02 aO 1 n88 a22 (Su CM CS))(uI:Pr P w K ah 02 aO 3 h44 588 (Fq CM CS))(m6:Pr P w K ah 02 aO 1 c97 50 (y1 CM CS))(BX:Pr P w K ah 02 aO 3 k57 588 (Kt CM CS)):Pr P w K ah 02 aO 4 "keeps" a22 (Sw CM CS):=by
 rw[A02 afe]
 ·obtain⟨a,c,sy,z,x,rfl,_⟩:=h;rfl
 ·obtain⟨a,c,sy,z,x,rfl,cg,g,iI,ar,k⟩:=h;have S:=afe;rw[A01 (aF (a50 (rX (bM ka (J 1) bu (bO _)) (rW (bM oA (J 1) (dq axc) (bO _)))).pt yD) (aF (94 3 (437 Sy 0 1 2)) (aF (e36 3 Sx) (aF (94 4 (437 uI 0 1 3)) (516 (318 (bM tK (J 4) et (bO _)) (c35 bu 4)) (318 (bM ka (340 m6) bu (bO _)) (258 bu bu)) (a63 (pE (348 (437 BX 0 1 3)) bu bu)))))))];have fin:∀{dM:av}{p:ag}{l:10},786→dM p=00→qy sy z x=l→664 (520 dM p l):=p90 (k _ p i85 j20 (by rw[aI,e]));have out:z<1∨4<z→qy sy z x=[-7]:=312 (by unfold qy;rw[114]);refine⟨_,rfl,_,_,rfl,rfl,_,rfl,359⟩
  ·exact e51 517 (out (.inl 104))
  ·have h:¬z<1:=951;refine⟨_,rfl,_,_,rfl,rfl,_,rfl,eb 642 642⟩
   ·exact 387 1 (fin 517 au (out (.inr d46)))
   ·have ak:¬4<z:=58 (ak i54);rw[B69 (z=44) j07];obtain⟨axd,axe⟩:=axa (sy:=sy) (n:=n) (x:=x) 03 03;refine⟨_,rfl,_,rfl,_,rfl,a,c,sy,n,x,rfl,cg,g,ar,03,03,c11,fun aD aR H1 p bs s1 cH ax ok=>?_⟩
    ·exact⟨_,rfl,rfl,_,rfl,e51 s1 (axd e7)⟩
    ·obtain⟨axf,axg⟩:=axe aD aR;refine⟨_,rfl,rfl,_,rfl,b_ ⟨_,rfl,_,rfl,_,rfl,a,p,sy,bs,aD,n,rfl,518,g,iI,cH,ax,ok,03,j93,fun i hg aB s2=>?_⟩⟩
     ·obtain⟨axh,axi⟩:=axg e7;rw[A98];refine⟨_,rfl,rfl,_,rfl,b_ ⟨_,rfl,a,sy,rfl,b97,_,_,rfl,rfl,_,rfl,eb 485 485⟩⟩
      ·exact⟨338,330 (fin ho aw (axh (121 aa)))⟩
      ·obtain⟨v,u,ev,kO,_⟩:=ae4 (sy:=sy) (58 (aa i54));refine⟨_,rfl,_,rfl,_,rfl,a,p,sy,bs,aD,n,v,u,rfl,b97,g,iI,cH.same s2,ax,ok,03,ev,kO,n87 950⟩;have KX:=axi v u ev kO
       cases y7:apart 75 aD n v u with|true=>rw[y7,101]at KX;exact c8 ⟨338,330 (fin b84 aw KX)⟩|false=>rw[y7,107]at KX;exact b_ ⟨338,330 (fin b84 aw KX)⟩
     ·exact⟨_,rfl,rfl,_,rfl,c8 ⟨_,rfl,338,330 (fin 332 aw (axf i hg))⟩⟩
def rg(d g:ag):324:=238 882 g (238 396 d [])
theorem aff{g:ag}:273 (rg d g) 396=871:=n86
theorem afg{g:ag}:273 (rg d g) 882=46 g:=n86
theorem afh{g:ag}:273 (rg d g) n77=00:=n86
structure FK(K:bo)(C:ag):04 where
 cl:h4 K C
 action:245 396
 c_:245 882
structure jj(H:av)(p:ag)(aD:27)(cm:30):04 where
 lst:H p=247 587
 hq:f77 (H t=918 x) aD cm
theorem jj.same(h:jj H p aD cm)(e:49):jj H' p aD cm:=⟨e _ _ 572,h.hq.mono (k49 (e _ _ q))⟩
theorem jj.get{H:av}{p:ag}{aD:27}{cm:30}(h:jj H p aD cm){i:Nat}{y:ae}(aC:q04 i=270):∃t x,cm[i]?=43∧y=784∧H t=918 x:=by rw[cK]at aC;obtain⟨t,bk,rfl⟩:=pP.mp aC;obtain⟨x,ai,h⟩:=h.hq.get bk;exact⟨t,x,ai,rfl,h⟩
theorem BY(h:i<63):k56 i=71 (834 i:Nat):=i58 (cA h) h
theorem FL(n:Nat)(m:Nat):762 (n:Nat) (15 m)=(n==m):=by
 rw[A06 n m]
 ·rw[e,167];simp
 ·rw[133];exact(566:(n==m)=09).symm
abbrev afi:bK:=343 0x17 0
theorem axj:31 j63 j63 afi:=⟨rfl,rfl,rfl,05,rfl,05,05⟩
inductive Sz(C:ag)(vs:08)(H:av)(Q:aW)(E:bD):04|mk:∀(p dx d g:ag),vs=[280,602,.ref g]→H p=c80→Q .b4 (264 H p C (rg d g))→Sz C vs H Q E
theorem axk(F:hC K 421 "Machine.__init__" afi f fd)(M:FK K C):eP P w K ah 02 aO 1 f fd j63 (Sz C):=by
 rw[A36 axj]
 ·obtain⟨p,dx,d,g,rfl,_⟩:=h;rfl
 ·obtain⟨p,dx,d,g,rfl,au,k⟩:=h;rw[A01 (e27 c03 45)];refine⟨_,rfl,_,rfl,p,C,dx,_,rfl,au,20,M.action,298 0,?_⟩;refine⟨_,rfl,_,rfl,p,C,dx,_,rfl,aI,20,M.c_,959,?_⟩;rw[gp];exact k
abbrev afj:bK:=343 0x17 1
theorem afk:31 j27 j27 afj:=⟨rfl,rfl,rfl,05,rfl,05,05⟩
inductive SA(C:ag)(vs:08)(H:av)(Q:aW)(E:bD):04|mk:∀(a dx d g:ag)(as:27)(ls:06)(rows:30)(n:Nat)(c_ x:06),vs=349 459→H a=482 C (rg d g)→nX H d as ls 17→869→0<n→H g=259 c_→k48=n→(c10 c ls)→446 (643 (661 0)==1)→SA C vs H Q E
theorem axl(F:hC K n77 "Machine.accepts" afj f fd)(M:FK K C)(m7:Pr P w K ah 02 aO 1 f18 c54 BM):eP P w K ah 02 aO 2 f fd j27 (SA C):=by
 rw[A36 afk]
 ·obtain⟨a,dx,d,g,as,ls,rows,n,c_,x,rfl,_⟩:=h;rfl
 ·obtain⟨a,dx,d,g,as,ls,rows,n,c_,x,rfl,aN,di,ok,h0,a4,gl,ai,k⟩:=h;have S:=afk;rw[A01 (65 (Ab fv (a52 (925 m7 59 (aj (J 1) 755))) bu (bO _)))];have cM:=Rx ok di.oV ai h0;refine⟨_,rfl,a,C,dx,_,_,rfl,aN,20,M.c_,afg,_,rfl,a,C,dx,_,_,rfl,aN,20,M.action,aff,_,rfl,d,as,ls,17,n,x,0,rfl,di,ok,ai,h0,g,_,_,_,rfl,rfl,32 a4,fm (BY (by rw[gl];exact cM)),rfl,?_⟩;rw[kH];have e:=FL (643 (661 0)) 1;rw[show 762 (643 (661 0):Nat) 1=_ from e];exact k
abbrev afl:bK:=bA 0x1b
theorem afm:31 [882,366,257,256] [882,366] afl:=⟨rfl,rfl,rfl,05,rfl,05,05⟩
inductive KY(vs:08)(H:av)(Q:aW)(E:bD):04|mk:∀(g p:ag)(aD:27)(cm:30)(c_:06)(n:Nat),vs=[.ref g,280]→H g=259 c_→k48=n→jj H p aD cm→(∀x∈cm,rQ n 2 x)→446 (tq c_ cm)→KY vs H Q E
theorem axm(D:cq K ah k42 afl [882,366] f fd):Pr P w K ah 02 aO 1 k42 [882,366] KY:=by
 rw[A02 afm]
 ·obtain⟨g,p,aD,cm,c_,n,rfl,_⟩:=h;rfl
 ·obtain⟨g,p,aD,cm,c_,n,rfl,a4,gl,qg,ok,k⟩:=h;have S:=afm;rw[A01 (239 (e_ eL rfl c08 (tS K rfl (n:=2) rfl (kX (98 2 rfl 70) (kX (98 3 rfl 70) tH))) (aM (bX (vw (bM fv (440 252 45) bu (bO _)) (xO (bM fv (440 252 85) bu (bO _)))).pt (65 l8) b2))) l8)];refine⟨_,rfl,p,rfl,224 qg.lst,hN (K:=K) (a:=p) (xs:=587) (m44 93 (σ=[46 g,444,v2,fb]∧H'=H∧tq c_ (cm.take i)=01)) ⟨00,00,rfl,rfl,rfl⟩ (q03 (682 qg.lst)) ?_ ?_⟩
  ·rintro i y σ H' aC⟨v2,fb,rfl,rfl,aS⟩;rw[C20 (qg.get aC)];have hm:=cG ai;obtain⟨o1,o2⟩:=ok x hm;obtain⟨u,v,rfl⟩:∃u v,x=[u,v]:=by match x,o1 with|[u,v],_=>exact⟨u,v,rfl⟩
   have bp:=o2 u 237;have a3:=o2 v (d4 _ 237);have bad:(643 u==1)=01→(643 v==0)=01→tq c_ cm=09:=fun af ak=>by refine 195;have:=gB.mp z [u,v] hm;simp only[Mv,Mw]at this;rw[af,ak]at this;cases this
   have good:((643 u==1)&&(643 v==0))=09→tq c_ (cm.take (i+1))=01:=312 (by rw[dZ ai];unfold tq at aS⊢;rw[AP,aS];simp only[th,adg,Mv,Mw,h];rfl);refine⟨t,_,rfl,g85,rfl,_,_,rfl,_,_,rfl,rfl,?_⟩;refine⟨_,rfl,_,rfl,g,_,_,_,rfl,rfl,32 a4,fm (BY (by rw[gl];exact bp)),rfl,_,rfl,?_⟩;rw[kH,88 (762 (643 u:Nat) 1=_) (FL _ 1)];refine eo 484 484
   ·refine⟨_,rfl,_,rfl,g,_,_,_,rfl,rfl,32 a4,fm (BY (by rw[gl];exact a3)),rfl,_,rfl,?_⟩;rw[kH,88 (762 (643 v:Nat) 0=_) (FL _ 0)];refine eo 642 642
    ·rw[bad af ak]at k;exact k
    ·exact⟨_,_,rfl,rfl,good (by rw[ak,Am])⟩
   ·exact b_ ⟨_,_,rfl,rfl,good (by rw[af,zw])⟩
  ·rintro σ H'⟨v2,fb,rfl,rfl,aS⟩;rw[ba,qg.hq.len,eK]at aS;rw[aS]at k;exact k
abbrev afn:bK:=bA 0x1f
theorem afo:487 50 afn:=⟨rfl,rfl,rfl,05,rfl,05,05⟩
inductive SD(CM:ag)(CS:ag)(vs:08)(H:av)(Q:aW)(E:bD):04|mk:749 (vs=254) (267→269→Q (a15 (vg 81)) H→SD CM CS vs H Q E)
theorem axn(D:cq K ah n84 afn 50 f fd)(O:347)(bJ:268)(axo:220 q02 2):Pr P w K ah 02 aO 1 n84 50 (SD CM CS):=by
 rw[A02 afo]
 ·rw[A59];rfl
 ·rw[C27];have S:=afo;rw[A01 (65 (pE (bM Aa 017 (dq axo) (bO _)) bu bu))];rw[A41];unfold vg at k;refine⟨_,rfl,a,CS,dx,_,_,rfl,84,80,727,mg,_,rfl,b82,_,_,rfl,rfl,_,rfl,?_⟩;rw[dB];rw[A39 (81≤2)]
  ·rw[114]at k;rw[145];exact c8 k
  ·rw[125]at k;rw[133];exact b_ k
abbrev SE:bK:=bA 0x19
theorem afp:31 [35,k45,428,226] f76 SE:=⟨rfl,rfl,rfl,05,rfl,05,05⟩
inductive KZ(CM:ag)(CS:ag)(vs:08)(H:av)(Q:aW)(E:bD):04|mk:∀(a c:ag)(sy:cv)(n:Nat)(l:06),vs=349 655→267→269→m68 (H c=259 l→63=a82→0<n→n≤4→(∀H' d as,49→nX H' d as 75 (dy 81 n l)→435 d)→KZ CM CS vs H Q E)
theorem axp(D:cq K ah k44 SE f76 f fd)(O:347)(bJ:268)(uA:Pr P w K ah 02 aO 1 h31 b83 (Fp K CM CS)):Pr P w K ah 02 aO 2 k44 f76 (KZ CM CS):=by
 rw[A02 afp]
 ·obtain⟨a,c,sy,n,l,rfl,_⟩:=h;rfl
 ·obtain⟨a,c,sy,n,l,rfl,cg,g,az,ar,ax,h0,uJ,k⟩:=h;have S:=afp;rw[A01 (239 (952 2 017) (552 uA 0 (k9 rfl 242 (c92 698) (own:=[(226,3)]) (295 [35,k45,428,226] SE) 926 369 (286 (auO K rfl 62 85 45)))))];rw[A41];rw[B19 (id cg)];refine⟨_,rfl,a,CS,dx,_,_,rfl,84,80,727,mg,_,rfl,b82,?_⟩;rw[dB];refine⟨_,rfl,_,rfl,d53,rfl,03,03,436⟩;refine Ol (lo:=0) (n:=271 d53) (884 (∃bs:27,49∧H' D=036∧(∀b∈bs,b≠D)∧889=i∧m28 (244=259 r) bs (689 i (c15 n (q*81+i))))) ⟨[],832,aI,19,rfl,89⟩ ?_ ?_
  ·rintro i aB hi⟨bs,s2,fp,nb,hR,f7⟩;have uc:i<81:=03;rw[show 413+249=249 by lia];refine⟨rfl,_,rfl,_,rfl,_,rfl,c,_,249,d53,rfl,rfl,rfl,03,32 (s2 _ _ ar),263⟩;rw[auQ ax uc h0];have s3:=593 (c15 n (q*81+i)) au;have FI:p≠D:=16 q01;refine⟨_,83 fp,?_,bs++[p],923,?_,773,q00,?_⟩
   ·rw[ba];rw[A14 (show 255 by lia)]
   ·rw[110 z cO];exact 83 (s2 _ _ z)
   ·rw[A52];rfl
   ·rcases 362 aa with aa|aa
    ·exact nb b aa
    ·rw[86 aa];exact FI
   ·rw[rv,d5];refine c2.app ?_ (386 (861 FI));have key:∀(cs:27)(eV:30)(o:dz),(∀b∈cs,b≠D)→m28 (aB b=259 r) cs eV→m28 (upd (322 aB p (c15 n (q*81+i))) D o b=259 r) cs eV:=by
     intro cs eV o aU h
     induction h with|nil=>rw[A40]|cons r _ ih=>exact .cons (41 (aU _ 237) (83 r)) (ih (350 (aU b (d4 _ aa))))
    exact key bs _ _ nb f7
  ·rintro aB⟨bs,s2,fp,nb,hR,f7⟩;rw[kA]at hR f7;refine⟨a,D,sy,bs,rfl,622 s2,fp,az,hR,03,fun a5 d s3 ID hd=>k a5 d bs 685 ⟨hd,hR,?_,fun i b r af ak=>?_⟩⟩
   ·unfold dy;rw[ba,iP]
   ·obtain⟨q,aw,aa⟩:=f7.get af;have:q=r:=cI (aw.symm.trans ak);rw[A48];exact 83 aa
theorem SF(ax:63=n*eh)(aa:e90 q n):lj n (dy eh n l):=725 (by unfold dy at aq;rw[B74 147];rw[A03 (by rw[ba,iP]) 457];rw[C04 aw];exact aa _ (LB (n85 (Mt 154 a42))))
theorem axq{b:Bool}{σ:bq}{Q:aW}{r:ag}(aq:c89=287 r)(ax:H r=259 l)(k:∀p H',49→416=259 (39 b [0] l)→412):39 b (HF (r_ (qC 372) qK) σ H Q) (iW i σ H Q):=by cases b with|true=>exact 387 1 (k p _ 116 aI)|false=>exact⟨_,aq,k r H 517 ax⟩
theorem jj.ext{ps:27}{aL:30}(h:jj H t aD cm)(e:49)(g:jj H' p ps aL):jj (34 H' t (587++992)) t (aD++ps) (cm++aL):=by
 have bk:=e _ _ 572;rw[A03 k50 ((h.hq.mono (k30 ?_)).app (g.hq.mono (k30 ?_)))]
 ·exact 553 (e _ _ q) bk (e _ _ q)
 ·exact 553 q bk q
theorem jj.put(h:jj H p aD cm)(bk:H t=525)(n:p≠t):jj (34 H t ys) p aD cm:=⟨41 n 572,h.hq.mono (k30 (553 q bk q))⟩
inductive SG(vs:08)(H:av)(Q:aW)(E:bD):04|mk:∀(d p:ag)(as:27)(ls:06)(rows:30)(n L:Nat)(aD:27)(cm:30),vs=[602,280]→nX H d as ls 17→869→n≤4→284≤4→jj H p aD cm→(h27 (rQ n L g))→1≤L→L≤2→cm.length≤0xc8→(∀H' q us F,49→jj H' q us F→(∀g,g∈F↔b04 g)→n30→435 q)→SG vs H Q E
abbrev K0:bK:=bA 0x1c
theorem afq:31 [396,505,b24,730,h43,h42,313,"before",080,366] g19 K0:=⟨rfl,rfl,rfl,05,rfl,05,05⟩
inductive K1(CM:ag)(vs:08)(H:av)(Q:aW)(E:bD):04|mk:∀(d m:ag)(as bs:27)(ls:06)(rows:30)(n:Nat)(ms:699),vs=[602,.ref m]→nX H d as ls 17→869→0<n→n≤4→H m=036→(c2 (fun b v=>oK CM H b (cY ls v)) bs ms)→ls.Nodup→284≤4→(∀v∈ms,904 085∧904 b29)→h41≤8→(∀H' q us cm,49→jj H' q us cm→(∀g,g∈cm↔CL 17 ms g)→435 q)→K1 CM vs H Q E
theorem SH{rows:30}(h:m99)(m:ez):11 e81≤377:=by
 unfold rn rR;rw[ba];split
 ·show 1≤377;decide
 ·exact h
theorem afr{rows:30}(h:m99)(ms:699):11 (xE 17 ea ms)≤h41*377:=Fy (fun m _=>by
 split
 ·simp
 ·exact SH h m)
theorem afs{rows:30}(h:m99)(ms:699):11 (zh 17 ea ms)≤h41*377:=Fy (fun m _=>by
 split
 ·exact SH h m
 ·simp)
theorem aft(rows:30)(ea:06)(ms:699)(m:ez):xE 17 ea (ms++[m])=xE 17 ea ms++(39 669 [] e81):=by unfold xE;rw[w7];simp
theorem afu(rows:30)(ea:06)(ms:699)(m:ez):zh 17 ea (ms++[m])=zh 17 ea ms++(39 669 e81 []):=by unfold zh;rw[w7];simp
theorem axr(D:cq K ah k43 K0 g19 f fd)(e3:nG K CM)(K2:Pr P w K ah 02 aO 1 n60 j02 SG)(m7:Pr P w K ah 02 aO 1 f18 c54 BM):Pr P w K ah 02 aO 2 k43 g19 (K1 CM):=by
 rw[A02 afq]
 ·obtain⟨d,m,as,bs,ls,rows,n,ms,rfl,_⟩:=h;rfl
 ·obtain⟨d,m,as,bs,ls,rows,n,ms,rfl,di,ok,h0,uJ,hm,afv,az,SI,axs,vi,k⟩:=h;have S:=afq;rw[A01 (aF (qT (i:=3) rfl 242 rfl rfl 875 (339 (552 K2 0 (c28 (oC 755)))) (own:=[(b24,2)]) (295 [396,505,b24,730,h43,h42,313,"before",080,366] K0) g98 369 (286 c63)) (aF (94 4 556) (389 5 556 (e_ eL rfl c08 (98 6 rfl e93) (90 7 (pE (348 (633 6)) e22 85) (qT (i:=9) rfl 242 rfl rfl 875 (339 (J 7)) (own:=[(080,8)]) (295 [396,505,b24,730,h43,h42,313,"before",080,366] K0) (924 8) 369 (286 (oC (258 (bj m7 22 bb (aj (J 0) (c35 (633 6) 8))) (bj m7 22 bb (aj (J 0) (c35 (633 6) 8))))))) (aM (bX (348 (633 6)) (aM (fK (hD K rfl h9 nK nL nE 462 (384 9)))) (a77 (hD K rfl h9 nK nL nE 327 (384 9))))))) (eu pO (bj K2 22 bb (77 0 4 ay)) 462))))];refine⟨_,rfl,371,fun t0 acF=>⟨371,fun vc t_=>?_⟩⟩;have s1:=38 (821 [372] acF) (293 [.ref t0] t_);have axt:jj (34 (388 H t0 [372]) vc [.ref t0]) vc [t0] [[0]]:=⟨aI,386 (335 aI t_ aI)⟩;refine⟨d,vc,as,ls,17,n,1,[t0],[[0]],rfl,b28 s1,ok,uJ,SI,axt,c33,14,14,14,fun aB q us F s2 mP afw axu=>?_⟩
  ·rw[86 a4];exact⟨rfl,330 (by rw[86 aw];exact h0)⟩
  have axv:=332;have axw:∀g∈F,rQ n 1 g:=f05 (by obtain⟨n8,axx,u,bp,rfl⟩:=G7.mp ((afw g).mp a4);rw[86 axx];exact 119 (330 (364 (86 aw) (ou ok u h0))));refine⟨q,rfl,224 mP.lst,436⟩;refine kC (K:=K) (a:=q) (xs:=a25) (876 (H'=322 aB D ((F.take j).map g95))) rfl (n57 (682 (335 mP.lst cO mP.lst))) ?_ ?_
  ·rw[C19];rw[C20 (mP.get aC)];have bS:=eI ai;refine⟨rfl,_,rfl,t,_,_,_,rfl,rfl,448 (335 bk cO bk),fm (j:=0) (BY (c99 (axw x (cG ai)).1)),_,aI,?_,?_⟩
   ·rw[hn,ba,eS];rw[A14 (show 255 by lia)]
   ·rw[gp,dZ ai,d5,AY];rfl
  ·rintro a5 rfl;rw[ba,mP.hq.len,eK];have SJ:=ajT afw;have oV:11 (F.map g95)≤377:=by rw[ba];exact axu
   have SK:538 (F.map g95) (q<n):=330 (by obtain⟨u,_,rfl⟩:=(SJ q).mp aw;exact ou ok u h0);generalize F.map g95=ea at SJ oV SK;have s3:=593 ea cO;have oP:334 aB D (a_ ea) D=259 ea:=aI;have oX:=axv.trans s3;generalize 322 aB D ea=a5 at s3 oP oX⊢;rw[A33 (fun g7 afx=>?_)];have s4:=293 [] afx;rw[A33 (fun c5 SM=>?_)];have s5:=293 [] SM;have pC:g7≠c5:=bT (k55 (334 a5 g7 [] g7=247 [])) SM;have axy:a5 c5=00:=s4.free SM;have hE:∀{dM:av}{o:dz},aA a5 dM→aA a5 (upd dM g7 o):=fun{dM o:_}e b u z=>364 (110 z afx) (e b u z);have axz:∀{dM:av}{o:dz},aA a5 dM→aA a5 (upd dM c5 o):=fun{dM o:_}e b u z=>364 (110 z axy) (e b u z);have afy:=g22;have axA:=afy _ _ (oX _ _ hm);refine⟨_,rfl,m,rfl,224 axA,hN (K:=K) (a:=m) (xs:=478) (504 (∃(v2 v6 fM ia pW:93)(BZ y8:27),σ=[871,46 m,v2,46 D,46 g7,46 c5,v6,fM,ia,pW]∧479 a5∧jj H' g7 BZ (xE 17 ea d91)∧jj H' c5 y8 (zh 17 ea d91))) ⟨_,00,00,00,00,[],[],rfl,afy,⟨861 pC,89⟩,⟨aI,89⟩⟩ (fun i σ H' _⟨_,_,_,_,_,_,_,_,cW,_⟩=>32 (310 (oX _ _ hm))) ?_ ?_⟩
   ·rintro i y σ ft aC⟨v2,v6,fM,ia,pW,BZ,y8,rfl,cW,B0,B1⟩;rw[A58];rw[B62 aC];obtain⟨cw,q1,dD,FN⟩:=afv.get aa;have fB:=cG q1;obtain⟨wl,wr⟩:=axs cw fB;have axB:=310 (oX _ _ FN);have It:=afr (rows:=17) oV d91;have v7:=afs (rows:=17) oV d91;have aCd:=eI q1;rw[eS]at It v7;refine⟨_,rfl,b,CM,dD,_,_,rfl,axB,451,e3.D8,IK,_,rfl,?_⟩;refine axq (i:=3) (r:=D) (l:=ea) rfl (310 oP) (fun afz gS e1 SN=>?_);have eG:(39 (cY ls cw).b [0] ea)=rR ea cw:=rfl;rw[eG]at SN;have axC:538 (rR ea cw) (q<n):=330 (by
     unfold rR at aw;split at aw
     ·rw[A78];exact h0
     ·exact SK q aw);have aCe:=SH (rows:=17) oV cw;have afA:rn 17 ea cw=(rR ea cw).map (58 [266 k53 q,266 k52 q]):=rfl;refine⟨_,rfl,afz,rfl,224 SN,n43⟩;have afB:=38 (k51 cW) e1;refine kC (K:=K) (a:=afz) (xs:=a_ (rR ea cw)) (876 (∃ps:27,479 gS∧jj H' dE ps (527 (rn 17 ea cw)))) ⟨[],422 fp,aI,89⟩ (fun j H' _⟨_,gW,_⟩=>32 (gW _ _ SN)) ?_ ?_
    ·rintro j y qS aC⟨ps,gW,rh⟩;rw[C18 (v3 aC)];have cM:=axC st (cG gq);have FO:=afB.trans gW;have K3:=FO _ _ FN;have bS:=eI gq;have eH:=rh.hq.len;rw[eS]at eH;refine⟨rfl,_,rfl,_,rfl,b,CM,dD,_,_,rfl,K3,451,814,lO,_,rfl,d,as,ls,17,n,370 k53,st,rfl,b28 FO,ok,sN wl,cM,_,rfl,_,rfl,b,CM,dD,_,_,rfl,K3,451,k54,yi,_,rfl,d,as,ls,17,n,370 k52,st,rfl,b28 FO,ok,sN wr,cM,338,c32⟩;rw[tj az 17 wl,tj az 17 wr];have i_:=b06 [48 (266 k53 st:Nat),48 (266 k52 st:Nat)];have y9:=i_ _ _ rh.lst;have B2:T≠dE:=16 (by rw[z,rh.lst]at bR;cases bR);refine⟨_,y9,?_,ps++[T],g89,?_,?_⟩
     ·rw[ba];rw[A14 (show 255 by lia)]
     ·rw[110 z fp];exact i_ _ _ (gW _ _ z)
     ·rw[A52];rfl
     ·rw[dZ (x:=[266 k53 st,266 k52 st]) (by rw[afA,cK,gq];rfl)];refine e50 (rh.hq.mono (k49 (553 (i_ _ _ q) y9 (i_ _ _ q)))) (861 B2)
    ·rintro qS⟨ps,gW,rh⟩;have c4:11 (a_ (rR ea cw))=11 (rn 17 ea cw):=by rw[hn,afA,ba]
     rw[c4,eK]at rh;have SO:=n16;have FO:=afB.trans gW;have K3:=FO _ _ FN;have eH:=rh.hq.len;have aCf:=B0.hq.len;have aCg:=B1.hq.len;have afC:=(cW.trans SO);have FP:=B0.same SO;have FQ:=B1.same SO;have aCh:dE≠g7:=16 (p99 (e1 _ _ B0.lst));have aCi:dE≠c5:=16 (p99 (e1 _ _ B1.lst));refine⟨_,rfl,b,CM,dD,_,_,rfl,K3,451,e3.D9,IL,_,rfl,?_⟩;have axD:(cY ls cw).e=cw.last:=rfl;rw[axD];refine eo (fun FR=>?_) (fun FR=>?_)
     ·refine⟨_,rfl,329 FQ.lst,_,rfl,c5,dE,_,_,rfl,rfl,FQ.lst,rh.lst,?_,_,_,_,_,_,BZ,y8++ps,rfl,axz afC,?_,?_⟩
      ·rw[ba,ba];rw[A37 (show 255 by lia)]
      ·rw[dZ q1,aft,21 FR,nh];exact FP.put FQ.lst pC
      ·rw[dZ q1,afu,21 FR];exact FQ.ext (880 qS) rh
     ·refine⟨_,rfl,329 FP.lst,_,rfl,g7,dE,_,_,rfl,rfl,FP.lst,rh.lst,?_,_,_,_,_,_,BZ++ps,y8,rfl,hE afC,?_,?_⟩
      ·rw[ba,ba];rw[A37 (show 255 by lia)]
      ·rw[dZ q1,aft,23 p98];exact FP.ext (880 qS) rh
      ·rw[dZ q1,afu,23 p98,nh];exact FQ.put FP.lst pC.symm
   ·rintro σ ft⟨v2,v6,fM,ia,pW,BZ,y8,rfl,cW,B0,B1⟩;have c4:11 478=h41:=by rw[ba,afv.len]
    rw[c4,eK]at B0 B1;have It:=afr (rows:=17) oV ms;have v7:=afs (rows:=17) oV ms;have yZ:=k51 cW;refine⟨_,rfl,_,rfl,d,g7,as,ls,17,n,2,BZ,xE 17 ea ms,rfl,b28 yZ,ok,uJ,SI,B0,c33,14,14,03,fun gS nC afD axE e1 SP axF aCj=>?_⟩
    ·obtain⟨cw,q1,a4⟩:=ni.mp a4;split at a4
     ·cases a4
     ·rw[C18 (112 a4)];have cM:st<n:=by
       unfold rR at gq;split at gq
       ·rw[86 gq];exact h0
       ·exact SK st gq
      rw[A03 rfl g83];rw[C91];rw[C90]
      ·exact ou ok _ cM
      ·exact ou ok _ cM
    ·have SQ:=B1.same e1;have vk:=SP.hq.len;have zR:=SQ.hq.len;refine⟨_,rfl,nC,c5,_,_,rfl,rfl,SP.lst,SQ.lst,?_,848⟩
     ·rw[ba,ba];rw[A37 (show 255 by lia)]
     ·have gW:=293 (afD.map 501++y8.map 501) c1;refine k _ r (afD++y8) (axE++zh 17 ea ms) (38 (yZ.trans e1) gW) (328 k50) (ajS SJ axF);exact(SP.hq.mono (k49 (gW _ _ q))).app (SQ.hq.mono (k49 (gW _ _ q)))
structure y_(eh n:Nat)(l c_:06):04 where
 nc:0<n
 sC:n≤4
 dp:63=n*eh
 lN:e90 q n
 gl:k48=n
 pw:∀x∈c_,x=0∨x=1
theorem c3.K4(h:51){v:ez}(a3:v∈972):454 085∧454 b29:=⟨(h.cw v a3).1.2,(h.cw v a3).2.2⟩
theorem afE{rows:30}(ok:869)(h0:0<n){ms:699}(h:∀g,g∈cm↔CL 17 ms g):h27 (rQ n 2 g):=f05 (by
 obtain⟨m,_,u,_,_,x,_,_,rfl⟩:=(h g).mp a4;rw[A03 rfl g83];rw[C91];rw[C90]
 ·exact ou ok _ (ou ok _ (ou ok _ h0))
 ·exact ou ok _ (ou ok _ (ou ok _ h0)))
theorem axG(t:y_ eh n l c_){m:ez}(hm:fE eh 398∧fE eh 427)(h:∀g,g∈cm↔CL (dy eh n l) [m] g):tq c_ cm=jr (gD n eh l c_) m:=by rw[Vu t.nc t.dp t.lN t.pw t.gl (ms:=[m]) (k47 (by rw[86 a3];exact hm)) h];simp
theorem c2.refs{CM:ag}{H:av}{ls:06}:∀{as:27}{ms:699},470=h41→(p97 (325=360→(ms.map (cY ls))[i]?=794→oK CM H b m))→c2 (fun b v=>oK CM H b (cY ls v)) as ms|[],[],_,_=>89|[],_::_,h,_=>806|_::_,[],h,_=>806|a::as,m::ms,h,k=>.cons (k 0 a _ rfl rfl) (c2.refs 967 (fun i b v af ak=>k (i+1) b v af ak))
theorem h8.all{l:ag}(h:h8 CM CS H a dx l as 26):c2 (fun b v=>oK CM H b (cY 60 v)) as 972:=c2.refs (by rw[h.len];show 11 003=_;rw[ba]) h.cw
abbrev afF:bK:=bA 0x1a
theorem afG:31 [35,h37,365,313] i75 afF:=⟨rfl,rfl,rfl,05,rfl,05,05⟩
inductive SR(C:ag)(CM:ag)(CS:ag)(vs:08)(H:av)(Q:aW)(E:bD):04|mk:∀(a jA dD d g:ag)(as:27)(s:dt)(n:Nat)(l c_:06),vs=349 (.ref jA)→597→51→H jA=710 dD (rg d g)→nX H d as 60 (dy 36 n l)→H g=259 c_→y_ 36 n l c_→((d30 (72 (! jr (gD n 36 l c_) x)))=00→846)→(∀i,(d30 (72 (! jr (gD n 36 l c_) x)))=604→841 (Q 309 H'))→SR C CM CS vs H Q E
theorem axH(D:cq K ah n76 afF i75 f fd)(yr:i94=00)(bJ:268)(M:FK K C)(B3:Pr P w K ah 02 aO 1 k42 [882,366] KY)(B4:Pr P w K ah 02 aO 2 k43 g19 (K1 CM)):Pr P w K ah 02 aO 3 n76 i75 (SR C CM CS):=by
 rw[A29 afG]
 ·obtain⟨a,jA,dD,d,g,as,s,n,l,c_,rfl,_⟩:=h;rfl
 ·obtain⟨a,jA,dD,d,g,as,s,n,l,c_,rfl,cg,wf,SS,di,a4,tt,eE,cS⟩:=h;have S:=afG;rw[A01 (239 (e_ eL rfl (II K rfl rfl yr 010) (tS K rfl (n:=2) rfl (kX (98 2 rfl 70) (kX (98 3 rfl 70) tH))) (aM (bX (g91 (a59 B3 358 (a59 B4 358 (cN 845)))) (65 45) b2))) et)];rw[B47 (id cg)];have dQ:=aY.all;have ok:=SF tt.dp tt.lN;have jn:=wf.jn;refine⟨_,rfl,a,CS,dx,_,_,rfl,84,80,471,kE,ls,_,rfl,d77,I3 (K:=K) (a:=ls) (xs:=ms.map 501) (m44 93 (σ=[248,46 jA,v2,fb]∧49∧(s.moves.take i).findIdx? (72 (! jr (gD n 36 l c_) x))=00)) ⟨00,00,rfl,517,rfl⟩ (p96 (32 (s2 _ _ 301))) ?_ ?_⟩
  ·rintro i y T σ aB aC bR⟨v2,fb,rfl,s2,cy⟩;rw[A58];rw[B62 aC];obtain⟨m,hm,zL,FN⟩:=dQ.get aa;have ve:=a76;have s3:=b50 (b06 [309,281]);have SU:=83 SS;have sM:upd aB T (.tup [309,281]) T=294 [309,281]:=aI;generalize 388 aB T [309,281]=a5 at s3 SU sM⊢;refine⟨T,_,rfl,448 sM,rfl,_,_,rfl,_,_,rfl,rfl,?_⟩;refine⟨_,rfl,jA,C,dD,_,_,rfl,SU,20,M.c_,afg,_,rfl,jA,C,dD,_,_,rfl,SU,20,M.action,aff,_,rfl,371,263⟩;have s4:=c98 (293 [281] au);refine⟨d,p,as,[b],60,dy 36 n l,n,[m],rfl,b28 s4,ok,tt.nc,tt.sC,aI,386 ⟨zL,103 FN⟩,812,jn,k47 (364 (86 a3) (wf.K4 ve)),(680 (1≤8)),fun de q us cm s5 qg j4=>?_⟩;have B5:=g22;refine⟨g,q,us,cm,c_,n,rfl,B5 _ _ a4,tt.gl,qg,afE ok tt.nc j4,_,rfl,?_⟩;rw[axG tt (wf.K4 ve) j4];refine eo 356 356
   ·rw[A15 (cS i (adB hm cy h) _ B5)]
   ·exact⟨_,_,rfl,B5,adC hm cy h⟩
  ·rintro σ aB⟨v2,fb,rfl,s2,cy⟩;rw[ba,dQ.len,eK]at cy;exact eE cy aB s2
abbrev afH:bK:=bA 533
theorem afI:31 [35,f16,381,"size",080,"mark"] a30 afH:=⟨rfl,rfl,rfl,05,rfl,05,05⟩
def qh(eh n:Nat)(x:10):Bool:=96==n*eh+n&&(813 (n*eh)).all (58 (555 0 q&&29 (q<44)))&&(883 (n*eh)).all (58 (q==0||q==1))
inductive SV(C:ag)(CM:ag)(CS:ag)(vs:08)(H:av)(Q:aW)(E:bD):04|mk:∀(a c:ag)(sy:cv)(n:Nat)(x:10),vs=[37,b11,655]→267→269→m68 (H c=79 x→1≤n→n≤4→(qh 81 n x=09→846)→(qh 81 n x=01→∀H' jA dD d g as,49→H' jA=710 dD (rg d g)→nX H' d as 75 (dy 81 n (d43 a82))→H' g=259 (a14 a82)→y_ 81 n (d43 a82) (a14 a82)→435 jA)→SV C CM CS vs H Q E)
theorem afJ{l:10}(h:∀q∈l,0≤q):aT l=a_ (d8 l):=by unfold aT a_ d8;rw[gP];refine lz 457;have:=h q aw;show 426 q=a38 (q.toNat:Nat);rw[Int.toNat_of_nonneg 246]
theorem axI{eh n:Nat}{x:10}(af:1≤n)(bH:n≤4)(h:qh eh n x=01):y_ eh n (d43 (n*eh)) (a14 (n*eh))∧(538 (813 (n*eh)) (0≤q))∧538 (883 (n*eh)) (0≤q):=by
 unfold qh at h;rw[hG,hG,beq_iff_eq,gB,gB]at h;obtain⟨⟨ax,bk⟩,hd⟩:=h;have afK:538 (813 (n*eh)) (0≤q∧q<44):=330 (by have:=bk q aw;rw[hG,decide_eq_true_eq,decide_eq_true_eq]at this;exact this);have kW:538 (883 (n*eh)) (q=0∨q=1):=330 (by have:=hd q aw;rw[Gl,beq_iff_eq,beq_iff_eq]at this;exact this);refine⟨⟨03,bH,?_,457,?_,457⟩,330 (afK q aw).1,330 (by rcases kW q aw with e|e<;>lia)⟩
 ·unfold d8;rw[ba,eS];lia
 ·rw[A84 aw];have:=afK z hz;lia
 ·unfold d8;rw[ba,fV];lia
 ·rw[A84 aw];rcases kW z hz with e|e<;>rw[e]
  ·exact 253
  ·rw[A09 rfl]
theorem afL(h:759 n):mb xs 00 (some 44)=xs.take n:=by unfold mb;rw[HT.HO,HT.sa,sx h];simp
theorem afM(h:759 n):mb xs (some 44) 00=xs.drop n:=by unfold mb;rw[HT.HO,HT.sa,sx h];exact sj f20
theorem afN(x:10)(n:Nat):222 (aT x) n=aT (813 n):=by unfold aT;rw[wV]
theorem afO(x:10)(n:Nat):472 (aT x) n=aT (883 n):=by unfold aT;rw[uZ]
theorem axJ(D:cq K ah n78 afH a30 f fd)(O:347)(bJ:268)(axK:mf P w K ah 02 aO 1 C "Machine" j63 (Sz C))(B6:Pr P w K ah 02 aO 2 k44 f76 (KZ CM CS)):Pr P w K ah 02 aO 3 n78 a30 (SV C CM CS):=by
 rw[A02 afI]
 ·obtain⟨a,c,sy,n,x,rfl,_⟩:=h;rfl
 ·obtain⟨a,c,sy,n,x,rfl,cg,g,az,ar,af,uJ,eE,cS⟩:=h;have S:=afI;rw[A01 (90 3 (eu vD 62 017) (bX (bM k4 (d6 (hO K rfl) 66 O.len eJ 698) (eu qH 85 62) (bO _)) (65 et) b2) (516 (711 (pM b18 45 vJ (ma 85)) 4 (rX (bM ka (J 4) bu (bO _)) (rW (bM Ng (J 4) 62 (bO _)))).pt et) (711 (pM b18 45 (ma 85) vJ) 5 (bM (D7 K rfl) 462 (oC (258 bu bu)) rfl) et) (pU axK 22 bb (258 (552 B6 0 (pM b18 45 vJ (ma 85))) (pM b18 45 (ma 85) vJ)))))];have jn:=g.jm;rw[B19 (id cg)];refine⟨_,rfl,_,rfl,a,CS,dx,_,_,rfl,84,80,727,mg,_,rfl,b82,_,_,rfl,rfl,.inl m29,?_⟩;rw[dB];rw[A71];rw[show(44*d53)=52 a82 by rw[u9]];have axL:a82≤377:=477 (wc uJ jn);have told:=@axI 81 n x af uJ;refine⟨_,rfl,c,_,rfl,306 ar,_,rfl,_,rfl,_,_,rfl,rfl,rfl,_,rfl,?_⟩;rw[kH,fa];generalize mA:a82=b0 at axL eE cS told⊢;unfold qh at eE cS told;rw[mA]at eE cS told;refine eo a62 a62
  ·refine eE ?_ H 517;have ai:¬96=b0+n:=16 (by rw[145]at d9;cases d9);simp[ai]
  ·have ai:96=b0+n:=p95 (nk 521) 133;have Sv:(96==b0+n)=01:=by rw[ai];exact 174
   rw[Sv,w5]at eE cS told;have K5:b0≤11 (aT x):=by rw[fa];lia
   refine⟨_,rfl,_,rfl,_,rfl,c,_,rfl,32 ar,fun fW yo=>?_⟩;rw[afL K5,afN];rw[A63 (aT d85) yo];have SW:334 H fW (aT d85) fW=79 d85:=aI;generalize 520 H fW d85=H1 at s1 SW⊢;refine⟨fW,rfl,224 SW,hN (K:=K) (a:=fW) (xs:=aT d85) (504 (∃v4:93,σ=[248,610,958,71 b0,v4,00]∧H'=H1∧(442 d85).all (58 (555 0 q&&29 (q<44)))=01)) h04 (l31 (682 SW)) ?_ ?_⟩
   ·rintro i y σ H' aC⟨v4,rfl,rfl,dQ⟩;rw[C26 (oL aC)];have bad:(555 0 q&&29 (q<44))=09→909:=100 (by refine eE ?_ H' s1;refine 195;rw[hG]at z;have:=gB.mp z.1 q (cG aw);rw[e]at this;cases this);refine⟨_,rfl,_,_,rfl,rfl,_,rfl,eb g92 g92⟩
    ·exact c8 (bad (b27 (113 (564 210))))
    ·have cM:¬q<0:=16 (cM 139);refine⟨_,rfl,_,rfl,_,_,rfl,rfl,_,rfl,eb n42 n42⟩
     ·exact bad (by rw[decide_eq_false (p:=q<44) (564 (121 qX)),Am])
     ·have qX:¬44≤q:=16 (qX 139);refine⟨_,rfl,rfl,?_⟩;rw[dZ aw,AP,dQ];simp;lia
   ·rintro σ H'⟨v4,rfl,rfl,dQ⟩;rw[fa,eK]at dQ;rw[dQ,w5]at eE cS told;refine⟨_,rfl,_,rfl,_,rfl,c,_,rfl,32 (s1 _ _ ar),fun fD l1=>?_⟩;rw[afM K5,afO];have s2:=807 (293 (aT g24) l1);have SX:334 H' fD (aT g24) fD=79 g24:=aI;generalize 520 H' fD g24=aB at s2 SX⊢;refine⟨fD,rfl,224 SX,hN (K:=K) (a:=fD) (xs:=aT g24) (i67 93 (σ=[248,610,958,71 b0,v4,ew]∧c81∧(550 b0 i).all (58 (q==0||q==1))=01)) ⟨_,00,rfl,j34,rfl⟩ (l75 _ _ SX) ?_ ?_⟩
    ·rintro i y σ a5 aC⟨Ae,Au,rfl,s3,FT⟩;rw[C26 (oL aC)];refine⟨_,rfl,338,c32⟩;have s4:=c98 (b06 [372,941]);refine⟨T,[372,941],rfl,.inr e35,rfl,rfl,_,rfl,?_⟩;have axM:(39 01 (! Ak (.int q) [372,941]) (Ak (.int q) [372,941]))=!(q==0||q==1):=by rw[101];show(!(413==q||(15 1==q||09)))=_;rw[wW,BEq.comm (a:=413),BEq.comm (a:=15 1)]
     rw[axM];refine eo 485 485
     ·refine eE ?_ _ n32;refine 195;have:=gB.mp z q (cG aw);rw[this]at aa;cases aa
     ·refine⟨_,_,rfl,s4,?_⟩;rw[dZ aw,AP,FT];have oc:(q==0||q==1)=01:=by cases hz:(q==0||q==1)with|true=>rfl|false=>rw[hz]at aa;cases aa
      simp only[th,adg,oc];rfl
    ·rintro σ a5⟨Ae,Au,rfl,s3,FT⟩;rw[fa,eK]at FT;obtain⟨tt,axN,axO⟩:=told FT;have cS:=cS FT;have Ek:=685;refine⟨_,rfl,_,rfl,_,rfl,_,rfl,c,_,rfl,32 (Ek _ _ ar),fun pZ sF=>?_⟩;rw[afL K5,afN,afJ axN];have s4:=Ek.trans (593 (d43 b0) sF);refine⟨a,pZ,sy,n,d43 b0,rfl,622 s4,g,az,aI,tt.dp,tt.nc,uJ,fun de d as s5 di=>?_⟩;have B5:=g22;refine⟨_,rfl,_,rfl,_,rfl,c,_,rfl,32 (B5 _ _ ar),fun mS t5=>?_⟩;rw[afM K5,afO,afJ axO];have cW:=593 (a14 b0) t5;have afP:334 de mS (a_ (a14 b0)) mS=259 (a14 b0):=aI;have FJ:=B5.trans cW;have afQ:=b28 cW;generalize 322 de mS (a14 b0)=ft at FJ afP afQ⊢;refine fun jA dD SS axP aCk=>⟨jA,dD,d,mS,rfl,aI,rfl,?_⟩;have e1:=k46 (.own jA) (.ins C dD []) (.ins C dD (rg d mS)) SS axP;exact cS _ jA dD d mS as (FJ.trans e1) aI (afQ.same e1) (e1 _ _ afP) tt
structure SY(eh n:Nat):04 where
 cR:1≤n
 iX:n≤3
 axQ:∀i,i≤n*eh→n^i≤20736
 S0:n*eh≤12
theorem axR(af:1≤n)(h:n≤vg eh)(bH:eh≤4):SY eh n:=by
 unfold vg at h;rw[A79 (eh≤2)]
 ·rw[178]at h;have m:n*eh≤6:=477 (wc h ak);refine⟨af,h,e32,03⟩;calc
  n^i≤3^i:=Ju h i
  _≤3^6:=Ba (by decide) (by lia)
  _≤20736:=by decide
 ·rw[146]at h;have m:n*eh≤8:=477 (wc h bH);refine⟨af,03,e32,03⟩;calc
  n^i≤2^i:=Ju h i
  _≤2^8:=Ba (by decide) (by lia)
  _≤20736:=by decide
theorem axS(h:g∈dJ [0,1] n):g.length=n∧∀x∈g,x=0∨x=1:=by have h:g∈600 2 n:=h;obtain⟨af,ak⟩:=xq h;exact⟨af,276 (564 (ak x ai))⟩
theorem afR{v:b7}(e:f02):b91=some 95:=p94 (s.start.map _=_)
theorem afS{v:b7}(e:084=54):b99=some 95:=p94 (s.goal.map _=_)
abbrev afT:bK:=bA 0x20
theorem afU:31 [35,f16,"all_goods",k45,396,257,256,366,882] i83 afT:=⟨rfl,rfl,rfl,05,rfl,05,05⟩
inductive S1(CM:ag)(CS:ag)(vs:08)(H:av)(Q:aW)(E:bD):04|mk:∀(a:ag)(s:dt)(n:Nat)(v u:b7),vs=349 b11→597→51→SY 36 n→f02→084=56→(xp s n v u=00→846)→(∀x,xp s n v u=43→c57 (416=259 x→96≤0x64→412))→S1 CM CS vs H Q E
theorem axT(D:cq K ah n83 afT i83 f fd)(O:347)(bJ:268)(nN:Pr P w K ah 02 aO 1 f19 c24 (A_ K))(B6:Pr P w K ah 02 aO 2 k44 f76 (KZ CM CS))(m7:Pr P w K ah 02 aO 1 f18 c54 BM)(B4:Pr P w K ah 02 aO 2 k43 g19 (K1 CM))(B3:Pr P w K ah 02 aO 1 k42 [882,366] KY):Pr P w K ah 02 aO 3 n83 i83 (S1 CM CS):=by
 rw[A29 afU]
 ·obtain⟨a,s,n,v,u,rfl,_⟩:=h;rfl
 ·obtain⟨a,s,n,v,u,rfl,cg,wf,l9,ev,kO,eE,cS⟩:=h;have S:=afU;rw[A01 (389 2 (552 nN 1 (a63 bu)) (e_ eL rfl (339 (a59 nN (eu vD 62 017) (l_ h19 66 O.list Bc (78 (l_ Eu 66 971 xU 296))))) (98 3 rfl 70) (90 4 (bj B6 22 bb (77 0 3 ay)) (94 5 (bj m7 22 bb (aj (J 4) (258 59 bu)))) (90 6 (bj m7 22 bb (aj (J 4) (258 59 bu))) (bX (bM fv (J 5) 867 (bO _)) (aM Ho) b2) (018 7 (552 B4 4 59) (711 45 8 (vw (bM fv (440 (J 8) 462) bu (bO _)) (vw (bM fv (440 (J 8) 867) bu (bO _)) (xO (348 (bj B3 22 bb (77 8 7 ay)))))).pt (eu pO 85 (J 8))))))) et)];have jn:=wf.jn;have cR:=l9.cR;have iX:=l9.iX;have afV:=wf.st v ev;have afW:=wf.gl u kO;refine⟨_,rfl,338,fun EB mU=>?_⟩;rw[A63 [372,941] mU];refine⟨EB,n,a_ [0,1],rfl,e43,03,14,e32,fun aB dq axU s2 afX=>?_⟩
  ·show 2^i≤20736;calc
   2^i≤2^3:=Ba (by decide) (by lia)
   _≤20736:=by decide
  have pa:dJ (a_ [0,1]) n=(dJ [0,1] n).map a_:=CO j82 [0,1] n;rw[pa]at afX;rw[A98];rw[B47 b97];refine⟨_,rfl,_,rfl,a,CS,dx,_,_,rfl,84,80,727,mg,_,rfl,a13 (636 36 12),_,_,rfl,rfl,.inl m29,?_⟩;refine⟨_,rfl,44,rfl,g82⟩;have s3:=964 (.pz 0 44) rM;refine⟨ua,n,rfl,aI,03,g87⟩;have s4:=593 057 jz;refine⟨cl,896,a_ 057,(by show[426 (44*320 (aP 60)),881 cl]=_;rw[dB,u9]),e43,l9.S0,p93,618 (p92 (l9.axQ i hi)),fun de pl as s5 jg=>?_⟩;have i0:dJ (a_ 057) 896=(600 n 896).map a_:=CO j82 057 _;rw[i0]at jg;have afY:=547 b84 s4 s5;have axV:=((afX.same s3).same s4).same s5;unfold xp at eE cS;have axW:∀l∈600 n 896,63=896∧e90 q n:=h40 (xq ax);refine⟨pl,rfl,224 jg.lst,hN (K:=K) (a:=pl) (xs:=317) (504 (∃fb v4 ew v6 fM ia:93,σ=[248,610,46 dq,fb,v4,ew,v6,fM,ia]∧479 de∧a68 (442 (600 n 896)) (973 (13 (778=cP (dy 36 n l) u 0) 00 ((382 (dJ [0,1] n) (563 ((913 v 0==1)&&(913 u 0==0)&&019 l g))).map (563 (l++g))))))) ⟨00,00,00,00,00,00,rfl,880 de,rfl⟩ (fun i σ H' _⟨_,_,_,_,_,_,_,cW,_⟩=>32 (310 jg.lst)) ?_ ?_⟩
  ·rintro i y σ ft aC⟨fb,v4,ew,v6,fM,ia,rfl,cW,cy⟩;obtain⟨b,lv,aa,w6,rfl,eM⟩:=jg.get aC;rw[cK]at w6;obtain⟨l,ax,rfl⟩:=pP.mp w6;obtain⟨dp,lN⟩:=axW l (cG ax);have uz:=afY.trans cW;have k_:=SF dp lN;refine⟨_,rfl,_,rfl,a,b,26,n,l,rfl,622 uz,079,812,310 eM,dp,03,03,fun gS d ad e1 di=>?_⟩;have afZ:=m76;obtain⟨S2,axX,axY,FU⟩:=622 afZ;have di:nX gS d ad 60 (dy 36 n l):=di;refine⟨_,rfl,_,rfl,a,CS,S2,_,_,rfl,FU.at_,80,879,tV,?_⟩;rw[afR ev];refine⟨d,ad,60,dy 36 n l,n,95,0,rfl,di,k_,sN afV.2,03,?_⟩;rw[tj 812 _ afV.2];refine⟨_,rfl,_,rfl,a,CS,S2,_,_,rfl,FU.at_,80,969,tW,?_⟩;rw[afS kO];refine⟨d,ad,60,dy 36 n l,n,b02,0,rfl,di,k_,sN afW.2,03,?_⟩;rw[tj 812 _ afW.2];refine⟨_,rfl,_,rfl,rfl,_,rfl,?_⟩;rw[kH];have h5:778<n:=ou k_ v 03;have JZ:cP (dy 36 n l) u 0<n:=ou k_ u 03;by_cases eq:778=cP (dy 36 n l) u 0
   ·rw[102 (by rw[eq])];exact c8 ⟨_,_,_,_,_,_,rfl,n19,BL ax cy (970 (21 eq))⟩
   ·rw[133];rw[A21 ⟨_,rfl,_,rfl,a,CS,S2,_,_,rfl,FU.at_,80,471,kE,d,axX,ad,axY,60,dy 36 n l,n,972,rfl,di,k_,03,03,FU.lst,FU.all,812,jn,k41 (wf.K4 hm),wf.mx,fun qS pp us cm gW qg j4=>?_⟩];have axZ:=afE k_ 03 j4;have ax0:=afZ.trans gW;have S3:=38 n19 gW;have K6:=axV.same S3;have ax1:=S3 _ _ eM;refine⟨_,rfl,dq,rfl,224 K6.lst,hN (K:=K) (a:=dq) (xs:=axU.map 501) (f17 (∃ia:93,σ=[248,610,46 dq,46 b,871,71 (778:Nat),71 (cP (dy 36 n l) u 0:Nat),46 pp,ia]∧H'=qS∧382 (527 (dJ [0,1] n)) (563 ((913 v 0==1)&&(913 u 0==0)&&019 l g))=00)) (072 _ rfl) (fun j σ H' _⟨_,_,e,_⟩=>682 K6.lst) ?_ ?_⟩
    ·rintro j y σ H' aC⟨ax2,rfl,rfl,n2⟩;obtain⟨pw,L6,aCl,af0,rfl,K7⟩:=K6.get aC;rw[cK]at af0;obtain⟨lT,vU,rfl⟩:=pP.mp af0;obtain⟨gl,ax3⟩:=axS (cG vU);have tt:y_ 36 n l lT:=⟨03,03,dp,lN,gl,ax3⟩;have mA:tq lT cm=019 l lT:=Vu tt.nc tt.dp tt.lN tt.pw tt.gl (k41 (wf.K4 hm)) j4;refine⟨_,rfl,_,rfl,pw,_,_,_,rfl,rfl,32 K7,fm (BY (by rw[gl];exact h5)),rfl,_,rfl,?_⟩;rw[kH,88 (762 (lT.getD 778 0:Nat) 1=_) (FL _ 1)];refine eo (fun fA=>?_) (fun fA=>?_)
     ·refine⟨_,rfl,_,rfl,pw,_,_,_,rfl,rfl,32 K7,fm (BY (by rw[gl];exact JZ)),rfl,_,rfl,?_⟩;rw[kH,88 (762 (lT.getD (cP (dy 36 n l) u 0) 0:Nat) 0=_) (FL _ 0)];refine eo (fun kd=>?_) (fun kd=>?_)
      ·refine⟨_,rfl,_,rfl,pw,pp,us,cm,lT,n,rfl,K7,gl,qg,axZ,_,rfl,?_⟩;rw[mA];refine eo (fun iY=>?_) (fun iY=>?_)
       ·have gC:=Fo ax cy (y:=l++lT) (by rw[23 eq,Fn vU n2 p91];rfl);refine⟨_,rfl,_,rfl,b,pw,_,_,rfl,rfl,ax1,K7,?_,848⟩
        ·rw[hn,hn,dp,gl];have:=l9.S0;rw[A37 (show 255 by lia)]
        ·have i_:=293 (a_ l++a_ lT) c1;refine cS (l++lT) gC _ r (ax0.trans i_) (by rw[aI,AY]) ?_;rw[cn,dp,gl];have:=l9.S0;lia
       ·exact⟨_,rfl,rfl,y2 vU n2 p91⟩
      ·exact b_ (072 _ (y2 vU n2 (by rw[fA,kd];rfl)))
     ·exact b_ (072 _ (y2 vU n2 (by rw[fA];rfl)))
    ·rintro σ H'⟨ax2,rfl,rfl,n2⟩;rw[ba,K6.len,ba,eK]at n2;exact⟨_,_,_,_,_,_,rfl,S3,BL ax cy (by rw[23 eq,n2];rfl)⟩
  ·rintro σ ft⟨fb,v4,ew,v6,fM,ia,rfl,cW,cy⟩;rw[ba,jg.len,ba,eK]at cy;exact eE cy ft (afY.trans cW)
abbrev af1:bK:=bA 0x1e
theorem af2:487 [35,f16,726] af1:=⟨rfl,rfl,rfl,05,rfl,05,05⟩
inductive S4(CM:ag)(CS:ag)(vs:08)(H:av)(Q:aW)(E:bD):04|mk:∀(a:ag)(s:dt)(v u:b7),vs=254→597→51→f02→084=56→(tr s v u=00→846)→(∀z,tr s v u=415→∀H' t p,49→H' t=294 [769,280]→416=259 z.2→h39≤0x64→435 t)→S4 CM CS vs H Q E
theorem ax4(D:cq K ah n80 af1 50 f fd)(O:347)(S5:Pr P w K ah 02 aO 1 n84 50 (SD CM CS))(S6:Pr P w K ah 02 aO 3 n83 i83 (S1 CM CS)):Pr P w K ah 02 aO 4 n80 50 (S4 CM CS):=by
 rw[A29 af2]
 ·obtain⟨a,s,v,u,rfl,_⟩:=h;rfl
 ·obtain⟨a,s,v,u,rfl,cg,wf,ev,kO,eE,cS⟩:=h;have S:=af2;rw[A01 (239 (e_ eL rfl (M5 rfl 971 (258 bu (eu qH (340 S5) bu))) (98 1 rfl 70) (018 2 (bj S6 22 bb (77 0 1 ay)) (bX (bM tK (J 2) et (bO _)) (65 (oC (461 1 2))) b2))) et)];have jn:=wf.jn;unfold tr at eE cS;refine⟨_,rfl,a,26,rfl,cg,079,_,_,rfl,rfl,?_⟩;rw[108 (26).letters.length 36];have ax5:i51≤3:=by unfold vg;split<;>lia
  have af3:∀k,k<i51→SY 36 (k+1):=fun k aS=>axR 03 03 jn;generalize i51=mo at ax5 af3 eE cS;refine⟨1,(15 mo+1),rfl,⟨03,03,03,03⟩,xX (lo:=1) (n:=271 (15 mo+1-1)) (504 (∃v1 v2:93,σ=[248,v1,v2]∧49∧a68 (bz i) (450 (g61 (xp s (k+1) v u) (k+1,x))))) ⟨00,00,rfl,517,rfl⟩ ?_ ?_⟩
  ·rintro i σ H1 hi⟨v1,v2,rfl,s1,cy⟩;have hi:i<mo:=03;have ai:(bz mo)[i]?=604:=s6 hi;have bk:442 (bz mo)=bz i:=by rw[adM,176]
   have wA:222 (bz mo) (i+1)=bz (i+1):=by rw[adM,176]
   rw[←bk]at cy;rw[show 15 1+249=52 (i+1)by lia];refine⟨_,rfl,_,rfl,a,s,i+1,v,u,rfl,518,wf,af3 i hi,ev,kO,j93,fun x aR aB p s2 au K8=>?_⟩
   ·refine⟨_,rfl,rfl,_,rfl,b_ ⟨_,_,rfl,332,?_⟩⟩;rw[←wA];exact BL ai cy n82
   ·refine⟨_,rfl,rfl,_,rfl,c8 ⟨_,rfl,_,rfl,338,fun t m5=>?_⟩⟩;have s3:=821 [48 (i+1:Nat),280] m5;exact cS (i+1,x) (Fo ai cy n81) _ t p e74 aI (83 au) K8
  ·rw[C89];rw[show 271 (15 mo+1-1)=mo by lia]at cy;exact eE cy H1 s1
abbrev af4:bK:=bA 0x8f
theorem af5:487 [35,f15,726] af4:=⟨rfl,rfl,rfl,05,rfl,05,05⟩
theorem af6(f:b7→b7→Cm):(kN 26<0∧oh s f=[kN 26])∨(¬kN 26<0∧∃v u,f02∧084=56∧oh s f=f v u):=by
 unfold kN oh Gv Cw;rw[108 b91 d57,108 b99 d61]
 cases aK:s.start with
  |none=>rw[A23 (by rw[GQ,101];decide) (by rw[GQ,101])]
  |some v=>
   rw[wZ,144]
   cases aG:s.goal with|none=>rw[A23 (by rw[GQ,101];decide) (by rw[GQ,101])]|some u=>rw[A09 ⟨by rw[wZ,144];decide,v,u,rfl,rfl,rfl⟩]
theorem ax6(D:cq K ah "seek" af4 50 f fd)(m6:Pr P w K ah 02 aO 1 c97 50 (y1 CM CS))(S7:Pr P w K ah 02 aO 4 n80 50 (S4 CM CS)):Pr P w K ah 02 aO 5 "seek" 50 (FC CM CS .seek):=by
 rw[A29 af5]
 ·rw[C25];rfl
 ·rw[C88];have S:=af5;rw[A01 (90 1 (340 m6) (318 (bM ka (J 1) bu (bO _)) 296) (389 2 (340 S7) (318 (bM jX (J 2) et (bO _)) 755) (eu pO (a63 c63) c63)))];rw[←ajc wf]at k;unfold Mx at k;refine⟨_,rfl,a,26,rfl,cg,_,rfl,_,_,rfl,rfl,_,rfl,?_⟩;rw[C87 (af6 (s:=s) (f:=_))]
  ·rw[A80];rw[102 af];exact c8 ⟨_,rfl,371,367 (k _ p 116 au aI)⟩
  ·rw[A80];rw[113 af];rw[A21 ⟨_,rfl,a,s,v,u,rfl,cg,wf,ev,kO,c11,fun z aR H1 t p s1 bk au hz=>?_⟩]
   ·rw[e7]at k;exact⟨_,rfl,rfl,_,rfl,c8 (387 1 (k _ p 827 903 aI))⟩
   ·rw[aR]at k;have k:gx H Q (0::649::b6 z.2):=k;refine⟨_,rfl,rfl,_,rfl,b_ ⟨_,rfl,t,_,_,769,rfl,rfl,g85,f03,338,457⟩⟩;rw[A77 [372,769] aw];refine⟨_,rfl,t,_,_,280,rfl,rfl,448 (106 bk),e62 1,q,p,_,_,rfl,rfl,aI,106 au,h38 (gY (636 (2+_) _)),848⟩;refine k _ r g43 g70 ?_;rw[aI,sH];rfl
theorem af7(t:y_ eh n l g){v:b7}(a3:668 (i<eh)):(747 (cP (dy eh n l) v 0)==1)=lC (gD n eh l g) v:=by unfold lC;rw[xo,←lB (g:=g) t.dp t.lN a3 t.nc]
structure ax7(s:dt)(n:Nat)(x:10)(v u:b7)(ib:10):04 where
 no:qh 36 n x=09→ib=[-0xb]
 st:qh 36 n x=01→lC a80 v=09→ib=[1]
 cw:∀i,qh 36 n x=01→lC a80 v=01→(d30 (131 (! jr a80 y)))=604→ib=[2,249]
 gl:qh 36 n x=01→lC a80 v=01→(d30 (131 (! jr a80 y)))=00→ib=[39 (lC a80 u) 3 0]
theorem ax8{x:10}{v u:b7}(af:1≤n)(bH:n≤4)(ev:f02)(kO:084=56):ax7 s n x v u (il s (g55 44)):=by
 have e:il s (g55 44)=39 (qh 36 n x) (match CR s a80 v u with|none=>[0]|some (1,_)=>[1]|some (2,i)=>[2,249]|some _=>[3]) [-0xb]:=by unfold qh;show oh s _=_;unfold oh Gv Cw;rw[ev,kO];simp only;rw[124,kA];rfl
 rw[e];unfold CR;refine⟨312 (970 208),fun h a=>?_,fun i h a b=>?_,fun h a b=>?_⟩
 ·rw[114,a];rfl
 ·rw[114,a,107,b];rfl
 ·rw[114,a,107,b];rw[A11]
  cases lC a80 u with|true=>rfl|false=>rfl
abbrev af8:bK:=bA 0x8e
theorem af9:31 [35,f16,381,f15,f14,365] a30 af8:=⟨rfl,rfl,rfl,05,rfl,05,05⟩
theorem ax9(D:cq K ah h37 af8 a30 f fd)(bJ:268)(M:FK K C)(aya:220 "MOST_STATES" 4)(yD:220 i25 (-7))(Sx:220 n79 (-0xb))(m6:Pr P w K ah 02 aO 1 c97 50 (y1 CM CS))(S8:Pr P w K ah 02 aO 3 n78 a30 (SV C CM CS))(K9:jb P w K ah 02 aO 2 C n77 j27 (SA C))(S9:Pr P w K ah 02 aO 3 n76 i75 (SR C CM CS)):Pr P w K ah 02 aO 4 h37 a30 (FD CM CS .machine):=by
 rw[A29 af9]
 ·obtain⟨a,c,s,z,x,rfl,_⟩:=h;rfl
 ·obtain⟨a,c,s,z,x,rfl,cg,wf,ar,k⟩:=h;have S:=af9;rw[A01 (90 3 (340 m6) (318 (bM ka (J 3) bu (bO _)) 845) (aF (a50 (rX (bM ka (J 1) bu (bO _)) (rW (bM oA (J 1) (dq aya) (bO _)))).pt yD) (aF (94 4 (437 S8 0 1 2)) (aF (e36 4 Sx) (aF (318 (g91 (pm K9 20 22 bb 327 010)) 755) (389 5 (bj S9 22 bb (77 0 4 ay)) (318 (bM tK (J 5) et (bO _)) (c35 bu 5)) (c28 (pE (348 (pm K9 20 22 bb 327 010)) bu bu))))))))];have fin:∀{dM:av}{p:ag}{l:10},786→dM p=00→il s (g55 z)=l→664 (520 dM p l):=p90 (k _ p i85 j20 (by rw[aI,e]));refine⟨_,rfl,a,26,rfl,cg,_,rfl,_,_,rfl,rfl,_,rfl,?_⟩;have wb:∃f,il s (g55 z)=oh s f∧((z<1∨4<z)→∀v u,f v u=[-7]):=123 (fun h v u=>by simp only;rw[114]);obtain⟨ayb,wb,EF⟩:=wb;rw[C87 (af6 (s:=s) ayb)]
  ·rw[102 af];exact c8 ⟨_,rfl,371,367 (fin 517 au (wb.trans ak))⟩
  ·rw[113 af];rw[A21 ⟨_,rfl,_,_,rfl,rfl,_,rfl,359⟩]
   ·exact e51 517 (wb.trans (ak.trans (EF (.inl 104) v u)))
   ·have h:¬z<1:=951;refine⟨_,rfl,_,_,rfl,rfl,_,rfl,eb (fun a6=>?_) (fun a6=>?_)⟩
    ·exact 387 1 (fin 517 au (wb.trans (ak.trans (EF (.inr (121 a6)) v u))))
    ·have a6:¬4<z:=58 (a6 i54);clear wb EF ak;rw[B69 (z=44) j07];have jA:=ax8 (s:=s) (n:=n) (x:=x) 03 03 ev kO;have wv:=(wf.st v ev).2;have S_:=(wf.gl u kO).2;refine⟨_,rfl,_,rfl,_,rfl,a,c,26,n,x,rfl,cg,079,812,ar,03,03,c11,fun aR H1 dG dD d g as s1 g_ di a4 tt=>?_⟩
     ·exact⟨_,rfl,rfl,_,rfl,e51 s1 (jA.no e7)⟩
     ·have aR:qh 36 n x=01:=aR;have di:nX H1 d as 60 (dy 36 n i37):=di;have tt:y_ 36 n i37 i40:=tt;have a4:H1 g=259 i40:=a4;have ayc:=jA.st aR;have ayd:=425 (jA.cw i aR);have aye:=jA.gl aR;clear jA;generalize i37=l at*;generalize i40=c_ at*;have k_:=SF tt.dp tt.lN;rw[B47 518];refine⟨_,rfl,rfl,_,rfl,b_ ⟨_,rfl,dG,dD,_,rfl,g_,afh,_,rfl,a,CS,dx,_,_,rfl,84,80,879,tV,?_⟩⟩;rw[afR ev];refine⟨dG,dD,d,g,as,60,dy 36 n l,n,c_,95,rfl,g_,di,k_,tt.nc,a4,tt.gl,sN wv,_,rfl,?_⟩;rw[tj 812 _ wv,af7 tt wv]
      cases a3:lC (gD n 36 l c_) v with
       |false=>exact e51 s1 (ayc a3)
       |true=>
        rw[A21 ⟨_,rfl,_,rfl,a,dG,dD,d,g,as,s,n,l,c_,rfl,518,wf,g_,di,a4,tt,j93,fun i hg aB s2=>?_⟩]
        ·rw[A98];obtain⟨oT,aCm,aCn,uv⟩:=b97;refine⟨_,rfl,rfl,_,rfl,b_ ⟨_,rfl,dG,dD,_,rfl,106 g_,afh,_,rfl,a,CS,oT,_,_,rfl,h36,80,969,tW,?_⟩⟩;rw[afS kO];refine⟨dG,dD,d,g,as,60,dy 36 n l,n,c_,b02,rfl,106 g_,b28 s2,k_,tt.nc,106 a4,tt.gl,sN S_,_,rfl,?_⟩;rw[tj 812 _ S_,af7 tt S_];have K_:=aye a3 e7
         cases bp:lC (gD n 36 l c_) u with|true=>rw[bp,101]at K_;exact e51 ho K_|false=>rw[bp,107]at K_;exact b_ (387 1 (fin ho au K_))
        ·exact⟨_,rfl,rfl,_,rfl,c8 ⟨_,rfl,338,367 (fin 332 au (ayd i a3 hg))⟩⟩
end
section
variable{A:rU}{C CM CS D I a b bG c d dx f i1 i2 it p t:ag}{E Q:aH→aZ→Prop}{F cm:List (List Nat)}{FY ab:Bool}{K:bo}{N ps sn:List Str}{P prog:f3}{R:Result→aZ→Prop}{Rh fD pos:Pos}{S:ag→Prop}{T:String}{a0 sub us vs:List aH}{aD as iJ jG:List ag}{aG e iter:dn}{aR:Array Ip}{acc:List (Str×ag)}{agZ bx doc ek f1 ig res u:aH}{agi o:Obj}{ah:Str→Option aH}{pins:List (ag×Obj)}{an az cQ dd func:Option ag}{k0 k1 k2 k3 k5:Option aH}{c0 cR dS i j n t':Nat}{base h h':dk}{g l ls:List Nat}{cl:Str→Option ag}{col:Option Bool}{ms ns r:List Int}{dP k7:Array (Option aH)}{done:List (Nat×List Int)}{e8 α β:Type}{fd:k6}{g':Array Qs}{gc ic:Nat→dk→Prop}{items:Array aH}{n3 ri:Nat→aH→Prop}{name qual x:Str}{outer:List Env}{own:List (Str×Nat)}{pl:Sem Bool}{q:Search}{s s':dt}{sc:rp}{tk:Tok}{v:Word}{w:ff}{m:g0}{sy:cv}{cb:List (Option ae)}{kvs:List (List cF×ae)}{xs ys:List ae}{y:ae}{H H' H1 aB:av}{bC:dz}{X:dT}{bW g7 to:ct}{tb:gH}{z:Nat×hr}
abbrev ll(h:dk)(z TI TO:ag)(f0 f1:aH):04:=654 z (l86 002 (503 #[f0,f1,004,g60,.ref TO]))
def ayf(h:dk)(f0:aH):04:=f0=.none∨∃(T:ag)(o:Obj),f0=a97∧558 T
section
variable{s:aZ}
theorem ayg{Q:455 830}(h:Q (878 a) s):a9 289 A (loadIfAlive a) Q E s:=by intro aCo p hΓ;exact h
structure uK(z TI TO i1 i2:ag)(iJ jG:27):04 where
 hQ:z∉iJ
 es:z∉jG
 o1:TO∉iJ
 o2:TO∉jG
 i12:i1∉jG
 aga:i2∉iJ
 TIz:TI≠z
 TOz:TO≠z
 ayh:TI≠TO
 agb:TI≠i1
 agc:TI≠i2
 hx:i1∈iJ
 ip:i2∈jG
variable{z TI TO:ag}
theorem ayi{a b:aH}(D:uK z TI TO i1 i2 iJ jG)(d2:lW P w A i1 iJ cR n3 gc)(dE:lW P w A i2 jG dS ri ic)(hz:ll 28 z TI TO 87 f1)(gX:j2 28 TI 917 a47)(kD:j2 28 TO a b)(af:gc i 28)(ak:ic i 28)(eY:i<cR)(dW:i<dS)(g6:n74 (n3 i x→ri i y→ll h' z TI TO (hM 18) 004→j2 h' TO x y→gc (i+1) h'→ic (i+1) h'→j2 h' 18 x y→(729 (c≠z→c≠TO→c≠i1→c≠i2→586 c→956))→Q 277 620)):a9 289 A (i35 [344] []) (fun fin s'=>∃v,fin=j37 v∧Q v s') E s:=by
 rw[C86];have hQ:z≠i1:=g41;have es:z≠i2:=100 m30;have o1:TO≠i1:=100 (D.o1 (e▸D.hx));have o2:TO≠i2:=100 (D.o2 (e▸D.ip));show a9 _ _ (065 2>>=_) _ _ _;rw[A57 004];show a9 _ _ (065 3>>=_) _ _ _;rw[A57 g60];rw[A00 (ux gX rfl ?_)];show a9 _ _ (za 344>>=_) _ _ _;rw[A28];unfold za;rw[A00 (lU hz rfl (x:=87) rfl 345)];rw[C24];rw[A00 (Ta ?_)];rw[A57 (.ref TO)];rw[A00 (FV hz 19 (h33 ?_))];replace nW:ll g1 z TI TO h34 f1:=nW;replace aK:ox z au g1:=aK;have oH:gc i g1:=d2.frame _ _ _ af (d47 _ _ g05 e);have qY:ic i g1:=dE.frame _ _ _ ak (d47 _ _ m81 e);have ayk:j2 g1 TO a b:=g68 _ D.TOz kD;rw[A28];rw[C85];rw[B15 (Qz ?_)];show a9 _ _ (FW 917>>=_) _ _ _;rw[A00 (d2.item i _ _ _ eY oH (p88 345))];replace aG:ox i1 g1 g2:=aG;have agd:j2 g2 TO a b:=c25 _ o1 ayk;rw[A00 (ux agd rfl ?_)];rw[A00 (aym agd (fun g3 Tc cp=>?_))];replace Tc:j2 g3 TO x b:=Tc;replace cp:ox TO g2 g3:=cp;rw[A00 (ac8 345)];have Td:ic i g3:=dE.frame _ _ _ qY (511 (e33 _ (58 (D.o2 810)) (c25 _ (58 (D.i12 810)) e)));have ayn:gc (i+1) g3:=d2.frame _ _ _ Tb (511 (e33 _ (58 (D.o1 810)) e));rw[B15 (Qz ?_)];show a9 _ _ (FW a47>>=_) _ _ _;rw[A00 (dE.item i _ _ _ dW Td (p87 345))];replace ej:ox i2 g3 ey:=ej;have age:j2 ey TO x b:=c17 _ o2 Tc;rw[A00 (ux age rfl ?_)];rw[A00 (aym age (fun gi La nv=>?_))];replace La:j2 gi TO x y:=La;replace nv:ox TO ey gi:=nv;rw[A00 (ac8 (cx 345))];rw[A00 (ux La rfl ?_)];rw[A00 (wpAny_newTuple ?_)];have hsz:c96=au.objs.size:=by rw[nv.1,ej.1,cp.1,aG.1,aK.1]
 have agf:ll gi z TI TO h34 f1:=nv.extBut _ _ D.TOz.symm (c17 _ es (e33 _ D.TOz.symm (c25 _ hQ nW)));have ayo:729 (c≠z→c≠TO→c≠i1→c≠i2→au.get? c=25→gi.get? c=25):=p89 (nv.extBut _ _ kd (c17 _ nI (e33 _ kd (c25 _ iY (g68 _ fA e)))));have bg:gc (i+1) gi:=d2.frame _ _ _ ayn (511 (nv.extBut _ _ (58 (D.o1 810)) (c17 _ (58 (D.aga 810)) e)));have cf:ic (i+1) gi:=dE.frame _ _ _ Te (511 (nv.extBut _ _ (58 (D.o2 810)) e));have agg:z<c96:=dm agf;show a9 _ _ (ayp 344 (.ref c96)>>=_) _ _ _;rw[A28];unfold ayp;have ayq:ll (gi.push (c01 #[x,y])) z TI TO h34 f1:=dY _ agf;rw[A00 (FV ayq 19 (fun ayr Tf vk=>?_))];replace Tf:ll ayr z TI TO (hM c96) f1:=Tf;refine FV Tf 19 (fun Lb Lc zR=>?_);replace Lc:ll Lb z TI TO (hM c96) 004:=Lc;have up:729 (c≠z→gi.get? c=25→Lb.get? c=25):=fun c o fA e=>zR.extBut _ _ fA (vk.extBut _ _ fA 130);have FX:j2 Lb c96 x y:=zR.extBut _ _ (lF agg) (vk.extBut _ _ (lF agg) 111);rw[hsz]at Lc FX;refine cx 950;show 514 c96 _;rw[hsz];exact g6 x y Lb _ zb py Lc (up _ _ D.TOz La) (d2.frame _ _ _ bg (511 (up _ _ g05 e))) (dE.frame _ _ _ cf (511 (up _ _ m81 e))) FX (p89 (up c o fA (ayo c o fA kd iY nI e)))
theorem agh{T:ag}(hz:ll 28 z TI TO a97 j60)(bR:393 T agi){Q:455 571}(q:∀g1,ll g1 z TI TO a97 d72→ox z 28 g1→Q 09 {s with heap:=g1}):a9 289 A (za 344) Q E s:=by
 unfold za;rw[A57 a97];show a9 _ _ (loadIfAlive (hT (15 T))>>=_) _ _ _;rw[A00 (ayg ?_)];rw[kA,bR];show a9 _ _ (065 1>>=_) _ _ _;rw[A57 j60]
 cases FY with|true=>exact cx (q 28 hz (Heap.SameBut.refl _ _))|false=>show a9 _ _ (setField 344 1 d72>>=_) _ _ _;exact a7 (FV hz 19 (h33 (cx (q g1 nW aK))))
theorem ays{T:ag}(D:uK z TI TO i1 i2 iJ jG)(d2:lW P w A i1 iJ cR n3 gc)(dE:lW P w A i2 jG dS ri ic)(hz:ll 28 z TI TO a97 j60)(bR:393 T agi)(gX:j2 28 TI 917 a47)(af:gc i 28)(ak:ic i 28)(eY:i<cR)(dW:i<dS)(g6:n74 (n3 i x→ri i y→ll h' z TI TO a97 d72→gc (i+1) h'→ic (i+1) h'→j2 h' 18 x y→(729 (c≠z→c≠i1→c≠i2→586 c→956))→Q 277 620)):a9 289 A (i35 [344] []) (fun fin s'=>∃v,fin=j37 v∧Q v s') E s:=by
 rw[C86];have hQ:z≠i1:=g41;have es:z≠i2:=100 m30;show a9 _ _ (065 2>>=_) _ _ _;rw[A57 004];show a9 _ _ (065 3>>=_) _ _ _;rw[A57 g60];rw[A00 (ux gX rfl ?_)];show a9 _ _ (za 344>>=_) _ _ _;rw[A00 (agh hz bR (h33 ?_))];replace aK:ox z au g1:=aK;have oH:gc i g1:=d2.frame _ _ _ af (d47 _ _ g05 e);have qY:ic i g1:=dE.frame _ _ _ ak (d47 _ _ m81 e);rw[107];rw[C84];rw[B15 (a7 (oz ?_))];show a9 _ _ (FW 917>>=_) _ _ _;rw[A00 (d2.item i _ _ _ eY oH (p88 (cx 345)))];replace aG:ox i1 g1 g2:=aG;have Td:ic i g2:=dE.frame _ _ _ qY (511 (c25 _ (58 (D.i12 810)) e));rw[B15 (oz ?_)];show a9 _ _ (FW a47>>=_) _ _ _;rw[A00 (dE.item i _ _ _ dW Td (p87 (c49 345)))];replace ej:ox i2 g2 ey:=ej;show a9 _ _ (newTuple [x,y]>>=_) _ _ _;rw[A00 (wpAny_newTuple ?_)];have hsz:n75=au.objs.size:=by rw[ej.1,aG.1,aK.1]
 have Q5:ll ey z TI TO a97 d72:=c17 _ es (c25 _ hQ nW);have ayu:729 (c≠z→c≠i1→c≠i2→au.get? c=25→ey.get? c=25):=p86 (c17 _ nI (c25 _ iY (g68 _ fA e)));have bg:gc (i+1) ey:=d2.frame _ _ _ Tb (511 (c17 _ (58 (D.aga 810)) e));refine cx 950;have FX:j2 (ey.push (c01 #[x,y])) n75 x y:=111;rw[hsz]at FX;show 514 n75 _;rw[hsz];exact g6 x y _ _ zb py (dY _ Q5) (d2.frame _ _ _ bg (511 130)) (dE.frame _ _ _ Te (511 130)) FX (p86 (dY _ (ayu c o fA iY nI e)))
theorem ayv{Q:455 Fin}(D:uK z TI TO i1 i2 iJ jG)(d2:lW P w A i1 iJ cR n3 gc)(hz:ll 28 z TI TO 87 f1)(gX:j2 28 TI 917 a47)(af:gc cR 28)(EU:∀h' e,(729 (c≠z→c≠i1→586 c→956))→(∃o,b81 e∧781 i46)→E 768 537):a9 289 A (i35 [344] []) Q E s:=by have hQ:z≠i1:=g41;show a9 _ _ (065 2>>=_) _ _ _;rw[A57 004];show a9 _ _ (065 3>>=_) _ _ _;rw[A57 g60];rw[A00 (ux gX rfl ?_)];show a9 _ _ (za 344>>=_) _ _ _;rw[A28];unfold za;rw[A00 (lU hz rfl (x:=87) rfl 345)];rw[C24];rw[A00 (Ta ?_)];rw[A57 (.ref TO)];rw[A00 (FV hz 19 (h33 ?_))];replace nW:ll g1 z TI TO h34 f1:=nW;have oH:gc cR g1:=d2.frame _ _ _ af (d47 _ _ g05 e);rw[A28];rw[C85];rw[B15 (Qz ?_)];show a9 _ _ (FW 917>>=_) _ _ _;rw[A00 (d2.done _ _ _ oH (fun g2 e aG he=>?_))];obtain⟨iH,Tg,H9⟩:=he;have mZ:ll g2 z TI TO h34 f1:=aG _ _ hQ nW;have ayw:e≠z:=72 (by subst x;rw[mZ]at Tg;cases Tg;simp at H9);exact FV mZ 19 (fun g3 _ cp=>EU g3 e (fun c o fA iY x=>e33 _ fA (aG _ _ iY (g68 _ fA x))) ⟨iH,e33 _ ayw Tg,H9⟩)
theorem ayx{T:ag}{Q:455 Fin}(D:uK z TI TO i1 i2 iJ jG)(d2:lW P w A i1 iJ cR n3 gc)(hz:ll 28 z TI TO a97 j60)(bR:393 T agi)(gX:j2 28 TI 917 a47)(af:gc cR 28)(EU:∀h' e,(729 (c≠z→c≠i1→586 c→956))→(∃o,b81 e∧781 i46)→E 768 537):a9 289 A (i35 [344] []) Q E s:=by have hQ:z≠i1:=g41;show a9 _ _ (065 2>>=_) _ _ _;rw[A57 004];show a9 _ _ (065 3>>=_) _ _ _;rw[A57 g60];rw[A00 (ux gX rfl ?_)];show a9 _ _ (za 344>>=_) _ _ _;rw[A00 (agh hz bR (h33 ?_))];have oH:gc cR g1:=d2.frame _ _ _ af (d47 _ _ g05 e);rw[107];rw[C84];rw[B15 (a7 (oz ?_))];show a9 _ _ (FW 917>>=_) _ _ _;exact a7 (d2.done _ _ _ oH (fun g2 e aG he=>EU g2 e (fun c o fA iY x=>aG _ _ iY (g68 _ fA x)) he))
structure rj(h:dk)(z TI TO i1 i2:ag)(gc ic:Nat→92 dk)(i:Nat):04 where
 agj:∃f0 b,ll h z TI TO f0 j89∧ayf h f0
 g7:j2 h TI 917 a47
 to:∃a b,j2 h TO a b
 s1:gc i h
 s2:ic i h
theorem ayy{Q:e86}(D:uK z TI TO i1 i2 iJ jG)(d2:lW P w 502 i1 iJ cR n3 gc)(dE:lW P w 502 i2 jG dS ri ic)(st:rj 28 z TI TO i1 i2 gc ic i)(eY:i<cR)(dW:i<dS)(g6:n74 (n3 i x→ri i y→rj h' z TI TO i1 i2 gc ic (i+1)→j2 h' 18 x y→(729 (c≠z→c≠TO→c≠i1→c≠i2→586 c→956))→Q (46 18) 620)):a9 289 A (nB 344) Q E s:=by
 rw[C23];have bR:s.TypeIs 344 380:=445 hz;have hQ:z≠i1:=g41;have es:z≠i2:=100 m30;have o1:TO≠i1:=100 (D.o1 (e▸D.hx));have o2:TO≠i2:=100 (D.o2 (e▸D.ip));unfold nB;rw[A00 (j38 j12 bR Ld (DR Ld bR ayz ?_ (ayA _)))];rw[B73]
 ·exact ayi D d2 dE hz gX kD af ak eY dW (fun x y h' tk zb py bg cf eC fz qF k=>cx (g6 x y h' tk zb py ⟨⟨_,_,bg,en ⟨_,_,rfl,qF⟩⟩,k _ _ D.TIz D.ayh D.agb D.agc gX,⟨_,_,cf⟩,eC,fz⟩ qF k))
 ·refine ays D d2 dE hz nP gX af ak eY dW (fun x y h' tk zb py bg eC fz qF k=>cx (g6 x y h' tk zb py ⟨⟨_,_,bg,en (328 T)⟩,k _ _ D.TIz D.agb D.agc gX,⟨_,_,k _ _ D.TOz o1 o2 kD⟩,eC,fz⟩ qF (fun c o fA _ iY nI e=>k c o fA iY nI e)));by_cases t1:T=z
  ·rw[A15 (38 (109 h'.get? t1) bg)]
  by_cases jt:T=i1
  ·obtain⟨dr,bZ⟩:=d2.live _ _ eC;rw[A15 (38 (109 h'.get? jt) bZ)]
  by_cases t3:T=i2
  ·obtain⟨dr,bZ⟩:=dE.live _ _ fz;rw[A15 (38 (109 h'.get? t3) bZ)]
  rw[A15 (k _ _ t1 jt t3 nP)]
theorem ayB{Q:e86}(D:uK z TI TO i1 i2 iJ jG)(d2:lW P w 502 i1 iJ cR n3 gc)(st:rj 28 z TI TO i1 i2 gc ic cR)(g6:∀h',(729 (c≠z→c≠i1→586 c→956))→Q 00 537):a9 289 A (nB 344) Q E s:=by
 obtain⟨⟨f0,b,hz,gG⟩,gX,_,af,_⟩:=st;have bR:s.TypeIs 344 380:=445 hz;unfold nB;rw[A00 (j38 j12 bR Ld (DR Ld bR ayz ?_ (ayA _)))];have k:∀h' e,(729 (c≠z→c≠i1→586 c→956))→(∃o,b81 e∧781 i46)→a9 289 A (do if←isInstance (.ref e) (.type "StopIteration")then return none else throw (.ref e)) Q E 537:=fun h' e k⟨o,a8,ar⟩=>by refine a7 (YG (T:=n73) (b:=01) ⟨o,a8,ar⟩ p85 ?_);exact cx (g6 _ k)
 rw[B73]
 ·exact ayv D d2 hz gX af k
 ·exact ayx D d2 hz nP gX af k
end
theorem ayC:lI 002 968=519:=Yt (by first|rw[B46]|rfl)
theorem ayD:lI 002 h22=519:=Yt (by first|rw[B46]|rfl)
theorem ayE:entryFor table p81=some Builtin.«object.__getattribute__»:=entryFor_alias (id':=n72) p84 05 05 p84
theorem ayF(a:ag)(xs:323)(dP:k12)(name:Str)(u:Tok)(Ij:lI 002 234=519)(DP:(n03:221).contains 234=09)(hsz:name.length+0x64≤bc:=by size_fits):Meets (p83 (644 (349 (.str 234 u)))) (fun A R s=>393 a (p82 002 (503 xs))∧raisesAttr 37 234 A R s):=Meets.of_wp (fun prog w A R s aL=>by
 rw[B45];obtain⟨ai,aL⟩:=aL;have bR:(⟨au,g,d,tk,os⟩:aZ).TypeIs 37 380:=445 ai;rw[C83];repeat(any_goals(first|rw[A34]|wp_step))
 simp only[DP,l0,if_false];repeat(any_goals(first|rw[A34]|wp_step))
 exact wpAny_raiseAttrError aL.1 aL.2 (attrMsg_fits 05 hsz))
theorem ayG{s:aZ}{xs:323}{Q:e86}(ai:393 a (p82 002 (503 xs)))(di:595)(h:f11 ((811 (393 b bC→219=466))→Q 00 620)):a9 289 A (getAttr? 37 968) Q E s:=by
 rw[B45];have bR:∀lM,(⟨au,g,d,lM,os⟩:aZ).TypeIs 37 380:=290 (445 ai);have Ij:=ayC;have DP:(n03:221).contains 968=09:=05;have hsz:075 968 Str+0x64≤bc:=by first|size_fits|rw[B46]
 rw[C82];have e9:=agk.lookup;have f4:=agk.bind 37;have fR:=ayD;rw[C81];repeat(any_goals(first|rw[A34]|exact bR _|((with_reducible show a9 _ _ (kZ (AA p81) _ _) _ _ _);refine x9 agk (bR _) ayE (PySem.F.args_zip_getattribute_2 _ _) (ayF a xs dP 968 _ Ij DP hsz) ⟨ai,di,fun h' lM e sq=>?_⟩)|wp_step))
 rw[C80];show a9 _ _ (Ot _ _ _ _ _ _ _) _ _ _;unfold Ot;repeat(any_goals(first|rw[A34]|wp_step))
 all_goals first|exact h _ _ k40|(rw[A71];repeat(any_goals(first|rw[A34]|exact h _ _ k40|wp_step)))
abbrev Le(h:dk)(x:Str)(t:Tok):dk:=h.push (824 (Lf x) #[857,.int 0 0])
abbrev Lg(h:dk)(x:Str)(t:Tok)(dW:ag):dk:=(Le h x t).push (824 p25 #[.ref dW,.int 0 0])
abbrev Lh(h:dk)(x:Str)(t:Tok)(dW:ag):dk:=(Lg h x t dW).push (c01 #[.ref 397,j30 (Le h x t)])
abbrev Li(h:dk)(x:Str)(t:Tok)(dW:ag):dk:=(Lh h x t dW).push (c01 #[87,87])
abbrev zc(h:dk)(x:Str)(t:Tok)(dW:ag):dk:=(Li h x t dW).push (824 380 #[87,004,004,j30 (Lg h x t dW),j30 (Lh h x t dW)])
theorem ayH(x:Str)(t:Tok)(dW:ag)(ys:323):Meets (Builtin.«zip.__new__» (644 [002,857,.ref dW])) (fun _ R s=>f13 dW ys∧R (.ok (.ret (j30 (Li 28 x t dW)))) (621 (zc 28 x t dW))):=.of_wp (p80 (by rw[B45];obtain⟨lL,h⟩:=h;have aeW:=sub_zip;have Th:Heap.IsList (Shared.heap ⟨au.push (824 (Lf x) #[857,.int 0 0]),g,d,tk,os⟩) dW ys:=Heap.IsList.push lL _;wp_walk using wpAny_pyIter_strU,M4 Th;rw[A15 h]))
section
variable{s:aZ}
theorem ayI{t:Tok}{dW:ag}{ys:323}(lL:f13 dW ys)(h:∀h',IsZip h' (18+4) (18+2) (18+3) 87→j2 h' (18+2) 277 (.ref 288)→j2 h' (18+3) 87 87→h'.IsStrIter 18 (Lf x) x t 0→h'.IsListIter 288 dW 0→n71=18+5→(729 (586 c→956))→514 (18+4) 537):a9 289 A (kZ 002 [857,.ref dW]) Q E s:=by
 refine callType_new PySem.F.called_zip 14 (PySem.F.typeCall_zip_2 _ _) (PySem.F.newCall_zip_2 _ _) (fun obj=>PySem.F.args_object_init_3 obj _ _) PySem.F.entry_zip_new (ayH x t dW ys) (328 lL);have hQ:424 (Le 28 x t)=288:=kz ..;have es:424 (Lg 28 x t dW)=18+2:=by rw[kz,hQ]
 have jC:424 (Lh 28 x t dW)=18+3:=by rw[kz,es]
 have t2:424 (Li 28 x t dW)=18+4:=by rw[kz,jC]
 have Ti:424 (zc 28 x t dW)=18+5:=by rw[kz,t2]
 have gi:(zc 28 x t dW).get? (424 (Li 28 x t dW))=c90:=111;have ey:(zc 28 x t dW).get? (424 (Lh 28 x t dW))=c90:=dY _ 111;have g3:(zc 28 x t dW).get? (424 (Lg 28 x t dW))=c90:=d98 111;have g2:(zc 28 x t dW).get? (424 (Le 28 x t))=c90:=d98 (dY _ 111);have g1:(zc 28 x t dW).get? 18=c90:=d98 (d98 111);show _∧_;rw[es,jC,t2]at gi;rw[hQ,es]at g3;rw[jC]at ey;rw[hQ]at g2;rw[t2];exact⟨445 gi,h _ gi g3 ey ⟨_,g1,rfl,rfl⟩ ⟨_,g2,rfl,rfl⟩ Ti (fun c o x=>d98 (d98 (dY _ x)))⟩
theorem ayJ(dh:595)(it:ag)(x:Str)(t:Tok):lW P w A it [it] 570 (f09 (∃c u,x.cps[i]?=73∧v=g59 c u)) (619 (h.IsStrIter it (Lf x) x t i)):=by
 unfold Lf;split
 ·exact Draws.strAscii dh it x t
 ·exact Draws.strWide dh it x t
end
section
variable{z TI TO S:ag}
theorem rj.keep(d2:lW P w A i1 iJ cR n3 gc)(dE:lW P w A i2 jG dS ri ic)(st:rj h z TI TO i1 i2 gc ic i)(n:S∉iJ)(qE:S∉jG)(eZ:S≠z)(y0:S≠TI)(Lj:S≠TO)(d:∃o,b81 S)(k:729 (c≠S→558 c→956)):rj h' z TI TO i1 i2 gc ic i:=by
 rw[C23];refine⟨⟨f0,b,k _ _ eZ.symm hz,?_⟩,k _ _ y0.symm gX,⟨a,c,k _ _ Lj.symm kD⟩,d2.frame _ _ _ af (511 (k _ _ (58 (n 810)) e)),dE.frame _ _ _ ak (511 (k _ _ (58 (qE 810)) e))⟩;rw[B73]
 ·exact 70
 ·by_cases t:T=S
  ·obtain⟨dr,bZ⟩:=d;exact en ⟨T,dr,rfl,38 (109 h'.get? t) bZ⟩
  ·exact en ⟨T,o,rfl,k _ _ t nP⟩
theorem ayK(D:uK z TI TO i1 i2 iJ jG)(d2:lW P w n70 i1 iJ n n3 gc)(dE:lW P w n70 i2 jG n ri ic)(ayL:S∉iJ)(ayM:S∉jG)(eZ:S≠z)(y0:S≠TI)(Lj:S≠TO)(agl:S≠i1)(ayN:S≠i2):p75 c79 c79 (n=i+746→f08+746≤bc→(∀(j:Nat)(q:cF×aH),rest[j]?=796→(∀u,n3 (i+j) u→vl q.1 u=01)∧∀y,ri (i+j) y→y=q.2)→rj 28 z TI TO i1 i2 gc ic i→s.heap.DictOf (fg P w) S acc→(f11 (h'.DictOf (fg P w) S (merged acc 67)→(300 (b≠S) (b≠z→b≠TO→b≠i1→b≠i2→346→219=25))→R (.ok (.ret res)) 620))→qI 289 A (n23 k38 [.ref S,344,.int i8 t,res]) R s):=by
 intro rest
 induction rest with
  |nil=>
   rw[C79];refine BC Ii ?_;rw[Fb sm _];show a9 _ 502 (nB 344>>=_) _ _ s;obtain rfl:n=i:=by simpa using hsz
   rw[A00 (ayB D d2 st (fun h' k=>?_))];show a9 _ 502 (ayO S []>>=_) _ _ _;rw[A00 (cx 345)];exact cH h' 233 (hm.at (877 (k _ _ eZ agl e))) (fun b o _ aa _ oc _ e=>k b o aa oc e)
  |cons q rest ih=>
   rw[C79];obtain⟨aS,aC⟩:=bk 0 q rfl;rw[dR]at hsz uL;refine BC Ii ?_;rw[Fb sm _];show a9 _ 502 (nB 344>>=_) _ _ s;have aCp:S<18:=by obtain⟨o,e,_⟩:=hm.typeIs;exact 105
   rw[A00 (ayy D d2 dE st 03 03 (fun u y af nU pu py Q3 wA k1=>?_))];obtain rfl:=aC y py;replace aS:=aS u pu;have sQ:af.DictOf (fg P w) S acc:=hm.at (877 (k1 _ _ eZ Lj agl ayN e));show a9 _ 502 (nz [da 18] _>>=_) _ _ _;rw[A99 ?_];rw[A00 (wpAny_tryCatch ?_)];unfold ayP;rw[B41 808 (445 wA) ?_];rw[21 (by first|decide|rfl|simp)];rw[A00 (ux wA rfl 345)];show a9 _ 502 (nz [u,q.2] (dictSet S u q.2)) _ _ _;refine oz (wpAny_dictSet_pairs (knd:=fg P w) (k:=q.1) aS sQ (fun ak kM jx=>?_) 03);have iC:∃o,ak.get? S=25:=p79 (Heap.DictOf.typeIs (s:={s with heap:=ak}) kM) ⟨o,e⟩;refine cx ⟨yX sm _,ih (i+1) (stored acc q.1 q.2) (i8+1) 0 _ 03 ?_ j77 (Q3.keep d2 dE ayL ayM eZ y0 Lj iC (fun c o ar e=>jx.extBut c o ar e)) kM m97⟩
   ·have z:=stored_length_le acc q.1 q.2;lia
   ·have:=bk (j+1) eU 566;rw[A73 (show i+(j+1)=i+1+j by lia)];rw[A10]
   ·exact cH h' tk kW (fun c ig a1 a2 lS v8 Jg e=>k c ig a1 a2 lS v8 Jg (jx.extBut c ig a1 (k1 c ig a2 lS v8 Jg e)))
end
section
variable{z TI TO:ag}
theorem ayQ{s:aZ}{f0:aH}(hz:ll 28 z TI TO f0 f1)(h:514 z s):a9 289 A (vy 344) Q E s:=by have bR:s.TypeIs 344 380:=445 hz;refine wpAny_pyIter_slot bR ayR (DR ayR bR PySem.F.entry_zip_iter ?_ (PySem.F.args_zip_iter_1 _));show a9 _ _ (ret 344) _ _ s;exact cx ⟨_,rfl,380,_,bR,Ld.lookup,h⟩
theorem rj.keeps(d2:lW P w A i1 iJ cR n3 gc)(dE:lW P w A i2 jG dS ri ic)(st:rj h z TI TO i1 i2 gc ic i)(k:729 (558 c→956)):rj h' z TI TO i1 i2 gc ic i:=by
 rw[C23];refine⟨⟨f0,b,k _ _ hz,?_⟩,k _ _ gX,⟨a,c,k _ _ kD⟩,d2.frame _ _ _ af (511 (k _ _ e)),dE.frame _ _ _ ak (511 (k _ _ e))⟩;rw[B73]
 ·exact 70
 ·exact en ⟨T,o,rfl,k _ _ nP⟩
theorem ayS{s:aZ}{prs:c79}(dh:595)(D:uK z TI TO i1 i2 iJ jG)(d2:lW P w A.in1.in1.in1 i1 iJ n n3 gc)(dE:lW P w A.in1.in1.in1 i2 jG n ri ic)(b9:∀b∈iJ,b00)(dj:∀b∈jG,b00)(st:rj 28 z TI TO i1 i2 gc ic 0)(aU:n=h30)(uL:h30≤bc)(bk:∀(j:Nat)(q:cF×aH),prs[j]?=796→(∀u,n3 j u→vl q.1 u=01)∧∀y,ri j y→y=q.2)(h:f11 (h'.DictOf (fg P w) 18 (merged [] prs)→(300 (b≠z) (b≠TO→b≠i1→b≠i2→346→219=25))→Q 277 620)):a9 289 A (kZ d68 [344]) Q E s:=by
 refine ac5 (Q₁:=fun obj ep=>obj=277∧ep=i56) ayT (ayU _) ayV (kt_code_dict_new _ 149) ?_;rw[C77];have si:(833).DictOf (fg P w) 18 []:=anB 28;have k0:300 346 (782 833=25):=902 _ e;have ayW:z<18:=by obtain⟨_,_,e,_⟩:=st.agj;exact 105
 have ayX:TI<18:=dm st.g7;have ayY:TO<18:=by obtain⟨_,_,e⟩:=st.to;exact 105
 have Kk:=st.keeps d2 dE k0;rw[A20 si.typeIs (ayZ _ _)];rw[C76];rw[A28];unfold ay0;rw[A00 (YC si.typeIs ?_)];show a9 _ _ (pure (18,[da z])) _ _ _;refine 345;show a9 _ _ (Tj p74 18 344 [] 87) _ _ _;unfold Tj;obtain⟨f0,FY,hz,gG⟩:=Kk.agj;rw[B41 380 (445 hz) ?_];rw[21 (by first|decide|rfl|simp)];rw[A00 (ayG hz dh (fun af nU oY=>?_))];rw[21 (108 (00:631).isNone 01)];rw[A00 (Ta ?_)];rw[A00 (ayQ (oY _ _ hz) ?_)];have key:=ayK (P:=P) (w:=w) (A:=502) (R:=wants (fun r iu=>r=.none∧Q 277 iu) E) (S:=18) (z:=z) (TI:=TI) (TO:=TO) (i1:=i1) (i2:=i2) (res:=fh) D d2 dE (58 (kV _ (b9 _ q))) (58 (kV _ (dj _ q))) (lF ayW) (lF ayX) (lF ayY) (lF (b9 _ D.hx)) (lF (dj _ D.ip)) prs 0 [] 0 0 {s with heap:=af,toks:=nU} (by rw[aU,qx]) p73 (n62 (by rw[qx];exact bk j q e)) (Kk.keeps d2 dE oY) (si.at (877 (oY _ _ e))) (n66 (119 (h h' tk kW (fun b o fA kd iY nI e=>k b o e23 fA kd iY nI (oY _ _ (k0 _ _ e))))));first|exact cx ⟨yX sm _,key⟩|exact a7 (c49 ⟨yX sm _,key⟩)
end
theorem agm:∀{ls:06}{as:27}{j:Nat}{q:cF×aH},(kQ (fun c a=>(e5 c,da a)) ls as)[j]?=796→∃c a,ls[j]?=73∧as[j]?=532∧q=(868,37)|[],_,_,_,h=>500|_::_,[],_,_,h=>500|l::ls,b::as,0,q,h=>⟨l,b,rfl,rfl,129 h⟩|l::ls,b::as,j+1,q,h=>by obtain⟨c,a,aK,aG,cp⟩:=agm (ls:=ls) (as:=as) (j:=j) (q:=q) 967;exact⟨c,a,p72,p78,cp⟩
theorem agn:∀(ls:06)(as:27),gE 606 (kQ (fun c a=>(868,da a)) ls as)|[],_=>89|_::_,[]=>89|l::ls,b::as=>.cons 149 (agn ls as)
theorem Tn{x y z:Nat}(h:x≠y)(h':x≠z):x∉[y,z]:=58 (by
 rw[C15 q]
 ·exact h e
 ·exact h' (86 e))
theorem To{x y:Nat}(h:x≠y):x∉[y]:=58 (h (86 q))
theorem ay1(n a:Nat)(h:a<n):uK (n+4) (n+2) (n+3) n (n+1) [n] [n+1,a]:=⟨n15,Tn 03 03,n15,Tn 03 03,Tn 03 03,n15,n34,n34,n34,lF 03,lF 03,237,237⟩
theorem Lk{m b:Nat}(e:m=n+5)(k:Nat)(aS:k<5)(h:b≤n+k):b<m:=03
theorem ago:rT 535=some d68:=05
inductive agp(K:bo)(Q:aW)(vs:08)(H1:av):04|mk:∀(ls:06)(a:ag)(as:27),vs=[76 ls,37]→aJ K H1 a 317→470=284→(∀p,H1 p=00→664 (upd H1 p (.e0 (tQ [] 606))))→agp K Q vs H1
def ay2(K:bo)(bW:fG):ct:=262 (bW σ H (728 (agp K Q vs H1)))
section
variable{bW:fG}{p:Pos}
theorem ay3(K:bo)(cj:X.K=K)(Eo:h1 X 535)(H0:X.ah 535=00)(a4:h1 X 380)(hm:X.ah 380=00)(aN:hZ X [e,aG] bW)(ar:394:=by rfl)(aL:406 [e,aG]=391::e71:=by rfl)(au:f95 e71:=by rfl)(jx:406 [e19 [e,aG]]=[013 (e19 [e,aG])]:=by rfl):bF X (.Call (.Name 535 fD) [e19 [e,aG]] [] Rh) (ay2 K bW):=by
 rw[A13];subst cj;refine vI (qD I Eo H0 ago ?_);refine tJ ?_ n69 rfl;rw[jx];show a9 _ _ (spliced (013 (e19 [e,aG])::hA Rh [])) _ _ s;refine Nx ?_;rw[B00 (qD I a4 hm YN (tJ (988 (aN pos 07 s σ H _ I h) ?_) aL au))];obtain⟨ls,a,as,rfl,aw,ax,q⟩:=bg;obtain⟨u,v,rfl,gR,cV⟩:=TV bU;rw[B44 (show∃t,u=C4 (aP ls) t from gR)];cases(show v=da a from cV);rw[C22 j66];have hg:=Ik cV;subst hg;have oI:a<227:=p77 105;refine ayI 965 (fun af hQ es jC t2 Ti Ll Kf=>Nw ?_);have dh:=aX.ok.hd ar;have Mz:n68 (kS da as)=(aP ls).cps.size:=by simp[aP,ax]
 have d2:=ayJ (P:=61) (w:=X.w) (A:=p76) dh 227 (aP ls) t;have dE:=Draws.list (prog:=61) (w:=X.w) (A:=p76) dh (227+1) a (fk (CE oI)) (809 (kS da as));rw[Mz]at dE;refine ayS (P:=61) (w:=X.w) (A:=X.A) (prs:=kQ (fun c a=>(868,da a)) ls as) dh (ay1 _ _ oI) d2 dE ?_ ?_ ⟨⟨_,_,hQ,70⟩,es,⟨_,_,jC⟩,t2,Ti,pl.isList.at (877 (Kf _ _ e))⟩ ?_ ?_ ?_ ?_
 ·intro b aa;rw[86 aa];exact Lk Ll 0 14 64
 ·intro b aa;rcases 569 aa with rfl|aa
  ·exact Lk Ll 1 14 64
  ·rw[86 aa];exact Lk Ll 0 14 (xJ oI)
 ·simp[aP,ax]
 ·rw[ba]at hz;rw[qw];exact cX (Ah _ _) hz
 ·intro j q e;obtain⟨c,W5,aK,aG,rfl⟩:=agm e;rw[A03 (fun u pu=>?_) (fun y py=>?_)]
  ·obtain⟨jU,jT,cp,rfl⟩:=pu;have:jU=c:=by
    have ej:ls[j]?=some jU:=by simpa[aP]using cp
    rw[aK]at ej;exact 129 ej
   rw[A88];exact vQ (P:=61) (w:=X.w) (k:=e5 jU) (612 jT)
  ·have ej:as[j]?.map da=270:=by simpa using py
   rw[aG]at ej;exact 129 ej
 ·intro h' tk kW k;have fZ:300 (e34 b 25) (219=25):=351 (by have:=105;exact k b o (fk (agq 4 246)) (fk (agq 3 246)) (fk 246) (fk (agq 1 246)) (Kf _ _ e));have big:227≤f10:=xJ (Lk Ll 0 14 64);have hm:(f10==l5)=09:=962 (lF (jN aX.big big));rw[ba]at hz;have hlen:069 (tQ [] 606):=by refine cX (Ys _ []) ?_;rw[l4,qx];unfold hF;rw[qw];exact cX (Ah _ _) hz
  exact 838 f10 (upd H1 f10 (.e0 (tQ [] 606))) (aX.laid (t':=tk) fZ big (88 (fx 61 X.w _ _ _ (.e0 (tQ [] 606))) ⟨568,hm,_,gE.merge (agn ls as) 89,kW⟩)) (q _ (h32 big))
end
theorem agr{c:Nat}:∀{ls:06}{as:27},c∉ls→((606).any (g09 868))=09|[],_,_=>rfl|_::_,[],_=>rfl|l::ls,b::as,h=>by show(29 (e5 l=868)||(606).any _)=09;rw[agr (ls:=ls) (as:=as) (58 (h (d4 _ q))),wW,decide_eq_false_iff_not];exact 58 (h (364 (adx q) 237))
theorem ags{c:Nat}{a:ag}:∀{ls:06}{as:27},284=470→606++[(868,022)]=hF (ls++[c]) (as++[a])|[],[],_=>rfl|l::ls,b::as,h=>109 (_::·) (ags 967)
theorem agt:∀{m:06}{as':27}{ls:06}{as:27},284=470→667 (ls++m)→m.length=as'.length→tQ 606 (hF m as')=hF (ls++m) (as++as')|[],[],ls,as,h,_,_=>by rw[nh,nh];rfl|c::m,a::as',ls,as,h,az,ax=>by show tQ (ie 606 868 37) (hF m as')=_;have aU:c∉ls:=58 (by rw[Mb]at az;exact az.2.2 c q c 237 rfl);unfold ie;rw[agr aU,107,ags h,agt n65 (by rw[jo];exact az) k39,jo,jo];rfl
abbrev agu:bK:=bA 1
theorem agv:31 b83 b83 agu:=⟨rfl,rfl,rfl,05,rfl,05,05⟩
theorem ay4(D:cq K ah h31 agu b83 f fd)(Tp:ah 535=00)(ay5:ah 380=00)(bJ:268):Pr P w K ah 02 aO 1 h31 b83 (Fp K CM CS):=by
 rw[A02 agv]
 ·obtain⟨a,r,sy,as,rfl,_⟩:=h;rfl
 ·obtain⟨a,r,sy,as,rfl,cg,p9,az,ax,aCq,k⟩:=h;have S:=agv;rw[A01 (65 (ay3 K rfl rfl Tp rfl ay5 (aj 59 296)))];obtain⟨dx,ls,ms,aY⟩:=cg;refine⟨_,rfl,a,CS,dx,_,_,rfl,84,80,727,mg,_,rfl,75,r,as,rfl,aV (aV p9),ax,263⟩;have e:=agt (m:=75) (as':=as) (ls:=[]) (as:=[]) rfl (by simpa using az) ax.symm;refine k _ p 116 au (aI.trans ?_);exact 109 (72 (some (dz.e0 x))) e
abbrev m9:=756×ag×aH
abbrev Lm(acc rest:847):847:=rest.foldl (fun a q=>Ax a q.1 449 423) acc
theorem Ln{k:756}(x:(414).is h k a)(yb:558 I)(ar:781 e01)(yL:T≠808)(e:300 (b≠I) (319=25→219=25)):(414).is h' k a:=by obtain⟨bC,a0,n,af,ak,a6⟩:=x;refine⟨bC,a0,n,e _ _ 521 af,ak,a6⟩;subst z;rw[yb]at af;cases af;rw[ar]at ak;exact yL (by injection ak)
theorem agw{S:ag}{xs:847}(x:h.DictOfH 414 S xs)(yb:558 I)(ar:781 e01)(yL:T≠808)(Ke:S≠I)(e:300 (b≠I) (319=25→219=25)):h'.DictOfH 414 S xs:=by obtain⟨cQ,aR,c0,af,ak,a6,bH,fX,iT⟩:=x;exact⟨cQ,aR,c0,e _ _ Ke af,ak,a6,bH,330 (Ln (fX q aw) yb ar yL e),iT⟩
theorem ay6(acc:847)(k:756)(a:ag)(v:aH):11 (Ax acc k a v)≤f08+1:=by unfold Ax;split<;>simp
theorem ay7{S l:ag}(bp:776 2<kb)(dh:595)(ay8:l≠I)(Tq:S≠I)(ay9:S≠l):p75 847 847 (083=i+746→f08+746≤bc→(n63 (rest[j]?=796→∃(b:ag),items[i+j]?=46 b∧b≠S∧b≠I∧IsTup 28 b #[d89,423]∧(414).is 28 q.1 449))→s.heap.IsListIter I l i→f13 l 966→s.heap.DictOfH 414 S acc→(f11 (h'.DictOfH 414 S (Lm acc 67)→(300 (b≠S) (b≠I→346→219=25))→R (.ok (.ret res)) 620))→qI 289 A (n23 k38 [.ref S,c31,.int i8 t,res]) R s):=by
 intro rest
 induction rest with
  |nil=>rw[C78];refine BC Ii ?_;rw[Fb sm _];show a9 _ 502 (nB c31>>=_) _ _ s;obtain⟨ye,FZ,F0,_⟩:=id hit;rw[A00 (akS (A:=502) dh hit ax (by first|exact YA (HC hsz)|(simp at hsz;simp;lia)) (fun h' he=>?_))];show a9 _ 502 (ayO S []>>=_) _ _ _;rw[A00 (cx 345)];exact cH h' 233 (agw hm FZ F0 14 Tq he) (fun b o _ aa e=>he b o aa e)
  |cons q rest ih=>
   rw[C78];obtain⟨b,aa,aCr,aza,azb,aS⟩:=bk 0 q rfl;rw[dR]at hsz uL;refine BC Ii ?_;rw[Fb sm _];show a9 _ 502 (nB c31>>=_) _ _ s;obtain⟨ye,FZ,F0,_⟩:=id hit;rw[A00 (akR (x:=281) hit ax 120 (fun af azc rd=>?_))];have wA:IsTup af b #[d89,423]:=azb.extBut f12 aza;have Bb:af.IsList l 966:=ax.extBut f12 ay8;have sQ:af.DictOfH 414 S acc:=agw hm FZ F0 14 Tq f12;have oY:(414).is af q.1 449:=Ln aS FZ F0 14 f12;obtain⟨o,a8,ar,n,hd⟩:=id wA;show a9 _ 502 (nz [da b] _>>=_) _ _ _;rw[A99 ?_];rw[A00 (wpAny_tryCatch ?_)];unfold ayP;rw[B41 808 ⟨o,a8,ar⟩ ?_];rw[21 (by first|decide|rfl|simp)];rw[A00 (ux a8 hd 345)];show a9 _ 502 (nz [d89,423] (dictSet S d89 423)) _ _ _;have azd:=sQ;obtain⟨cQ,_,_,sr,aze,_⟩:=azd;refine oz (wpAny_dictSet_heap (hsz:=03) (Ig (Nat.lt_of_succ_lt bp)) oY sQ (fun ak kM jx=>?_));refine cx ⟨yX sm _,ih (i+1) (Ax acc q.1 449 423) (i8+1) 0 _ (show 083=i+1+746 by lia) ?_ j77 ?_ ?_ kM m97⟩
   ·have z:=ay6 acc q.1 449 423;lia
   ·obtain⟨tN,oc,agx,agy,azf,rL⟩:=bk (j+1) eU 566;refine⟨tN,?_,agx,agy,(azf.extBut f12 agy).extBut n67 agx,Ln (Ln rL FZ F0 14 f12) sr aze.1 14 n67⟩;rw[show i+1+j=i+(j+1)by lia];exact oc
   ·exact azc.at (fun dr e=>jx.extBut I dr (jq Tq) e)
   ·exact Bb.extBut n67 (jq ay9)
   ·exact cH h' tk kW (fun c ig a6 bH e=>k c ig a6 bH (jx.extBut c ig a6 (rd.extBut c ig bH e)))
variable{prs:List m9}
theorem azg{s:aZ}{l:ag}{ol:Obj}(bp:776 4<kb)(dh:595)(ax:393 l ol)(ar:ol.cls=900)(hd:ol.dict=00)(so:ol.data=b17 966)(hsz:083=h30)(uL:h30≤bc)(bk:n63 (prs[j]?=796→∃(b:ag),items[j]?=46 b∧IsTup 28 b #[d89,423]∧(414).is 28 q.1 449))(h:f11 (h'.DictOfH 414 18 (Lm [] prs)→(300 346 (219=25))→Q 277 620)):a9 289 A (kZ d68 [559]) Q E s:=by
 refine ac5 (Q₁:=fun obj ep=>obj=277∧ep=i56) ayT (ayU _) ayV (kt_code_dict_new _ 149) ?_;rw[C77];have si:(833).DictOfH 414 18 []:=Heap.DictOfH.new 28;have k0:300 346 (782 833=25):=902 _ e;have bR:atM i56 277 535:=445 111;rw[A20 bR (ayZ _ _)];rw[C76];rw[A28];unfold ay0;rw[A00 (YC bR ?_)];show a9 _ _ (pure (18,[da l])) _ _ _;refine 345;show a9 _ _ (Tj p74 18 559 [] 87) _ _ _;unfold Tj;rw[B41 499 ⟨ol,k0 _ _ ax,ar⟩ ?_];rw[21 (by first|decide|rfl|simp)];rw[A00 (anF (k0 _ _ ax) ar so hd dh (fun af nU oY=>?_))];rw[21 (108 (00:631).isNone 01)];rw[A00 (Ta ?_)];have Bb:af.IsList l 966:=⟨ol,oY _ _ (k0 _ _ ax),ar,n,so⟩;have aK:af.get? 18=some a49:=oY _ _ 111;have oU:18<f10:=dm aK;rw[A00 (M4 Bb ?_)];have k2:300 (c59 b) (782 (m88 #[559,.int 0 0])=25):=902 _ e;have cM:l<18:=dm ax;have azh:(m88 #[559,.int 0 0]).DictOfH 414 18 []:=by obtain⟨cQ,aR,c0,oH,ak,a6,bH,fX,iT⟩:=si;exact⟨cQ,aR,c0,k2 _ _ (oY _ _ oH),ak,a6,bH,b86,iT⟩
 have key:=ay7 (P:=P) (w:=w) (A:=502) (R:=wants (fun r iu=>r=.none∧Q 277 iu) E) (S:=18) (I:=f10) (l:=l) (items:=966) (res:=fh) (a45 (776 1+2) kb) dh (fk (Ie cM oU)) (fk oU) (lF cM) prs 0 [] 0 0 {s with heap:=m88 #[559,.int 0 0],toks:=nU} (by rw[hsz,qx]) p73 (n62 (by rw[C21 (bk j q e)];have aa:b00:=aG.lt;obtain⟨bC,a0,qE,oH,qY,LU⟩:=cp;exact⟨b,by rw[qx];exact aK,fk aa,fk (Ie aa oU),aG.keeps (fun c o z=>k2 _ _ (oY _ _ (k0 _ _ z))),bC,a0,qE,k2 _ _ (oY _ _ (k0 _ _ oH)),qY,LU⟩)) b15 (Bb.at (877 (k2 _ _ e))) azh (n66 (119 (h h' tk kW (351 (k b o e23 (fk (Ie 105 oU)) (k2 _ _ (oY _ _ (k0 _ _ e))))))));first|exact cx ⟨yX sm _,key⟩|exact a7 (c49 ⟨yX sm _,key⟩)
theorem azi(dh:595)(I d:ag)(d9:d≠I){xs:847}(ai:o.ExactDict)(hd:a70)(he:n64=078 (MR 414)):Walks P w A I [I,d] [I] 57 (f09 (∃x,441=43∧v=.ref x.2.1)) (619 (h.IsKeyIter I d i 57 c0∧558 d))where
 sub:=350 (by simp at aa;simp[aa])
 frame:=fun i h h' st aS=>⟨st.1.at (877 (aS I 19 o e)),aS d 19 _ st.2⟩
 item:=fun i s Q E hi st g6=>by
  have aK:441=some xs[i]:=122;have aG:aR[i]?=some (MR 414 xs[i]):=by rw[entry_at he,aK];rfl
  refine anU st.1 st.2 hd (agz he) aG j61;exact g6 _ h' 233 (445 aK) ⟨kx,eX.extBut _ _ d9 st.2⟩ (536 (eX.extBut b o (312 (aa n65)) e))
 done:=fun s Q E st g6=>an1 dh st.1 st.2 hd (agz he) 64 (fun h' eG=>g6 h' 233 (536 (eG b o (312 (aa n65)) e)))
 self:=fun i s Q E st h=>wpAny_pyIter_keyiter st.1 h
theorem azj(lo:(d==l5)=09){xs:847}(ai:o.ExactDict)(hd:a70)(he:n64=078 (MR 414)):PySem.W.KdlSrc P w 535 d d 57 (f09 (∃x,441=43∧v=.ref x.2.1)) (312 (558 d))where
 type:=fun _ hm=>⟨o,hm,ai.1⟩
 there:=fun _ hm=>⟨dm hm,dm hm⟩
 keep:=fun _ _ hm aS=>aS d 253 _ hm
 notList:=14
 notTuple:=14
 hint:=fun _ _ _ _ hm aw=>PySem.W.kdl_hint_dict ⟨o,hm,ai.1⟩ aw
 iter:=fun A s dh hm=>⟨_,_,(fun _ _ aw=>anS lo hm ai hd aw),azi dh 18 d (fk (dm hm)) ai hd he,⟨⟨_,111,rfl,b27 (agz he)⟩,dY _ hm⟩⟩
theorem agA:∀(l:27),cc (363 501) (363 da)|[]=>89|_::l=>.cons rfl (agA l)
theorem azk{xs:847}(r:b09 H):m02 (H q=294 m53) i76 kvs:=by induction r with|nil=>rw[A40]|cons h _ ih=>exact 919 h.2.1
abbrev rk:=ag×756×ae
def oZ(acc:028)(dg:c47):028:=dg.foldl (fun a q=>ie a 449 423) acc
abbrev agB(q:rk)(r:m9):04:=q.1=r.2.1∧449=r.1∧RelV 423 r.2.2
theorem kh.merge{dg:c47}{acc:847}(Tr:ov agB dg prs)(aw:∀q∈dg,H q.1=f87 ec)(r:kh H kvs acc):kh H (oZ kvs dg) (Lm acc prs):=by induction Tr generalizing kvs acc with|nil=>exact r|@cons q p _ _ h t ih=>obtain⟨aK,aG,cp⟩:=h;have ej:=aw q 237;have:=r.put (b:=q.1) 449 ej cp;rw[aK]at this;show kh H (oZ (ie kvs 449 423) _) (Lm (Ax acc p.1 p.2.1 p.2.2) _);rw[←aG];exact ih (fun eU h'=>aw eU (d4 _ h')) 246
theorem agC:∀(dg:c47)(acc:028),11 (oZ acc dg)≤f08+n58|[],acc=>64|q::dg,acc=>by have af:=agC dg (ie acc 449 423);have ak:=Ic acc 449 423;show 11 (oZ (ie acc 449 423) dg)≤_;rw[dR];lia
theorem agD{pins:225}{σ:bq}{H:av}{s:aZ}(I:24):∀{ps:27}{dg:c47},ov (n59 (dX X.K H p [.ref q.1,423]∧H q.1=f87 ec)) ps dg→∃prs:847,ov agB dg prs∧h30=744∧n63 (prs[j]?=796→∃(b:ag),ps[j]?=360∧IsTup 28 b #[d89,423]∧(jS (fg 61 X.w)).is 28 q.1 449)
 |_,_,.nil=>⟨[],89,rfl,n62 k37⟩
 |_,_,.cons (a:=p) (b:=q) h t=>by
  obtain⟨prs,r,ax,au⟩:=agD I t;obtain⟨a0,cV,bk,_⟩:=b26 h.1;obtain⟨u,y,hg,gR,bQ⟩:=TV cV;subst hg;cases(show u=da q.1 from gR);refine⟨(449,q.1,y)::prs,.cons ⟨rfl,rfl,bQ⟩ r,by rw[dR,dR,ax],j77⟩
  cases j with|zero=>have bZ:(449,q.1,y)=eU:=cI e;subst bZ;exact⟨p,rfl,bk,Ay 274 h.2⟩|succ j=>rw[C21 (au j eU 566)];exact⟨b,p72,aG,cp⟩
inductive agE(K:bo)(xs:08)(H:av)(Q:aW):04|mk:∀(a:ag)(ps:27)(dg:c47),xs=254→aJ K H a 992→(ov (n59 (dX K H p [.ref q.1,423]∧H q.1=f87 ec)) ps dg)→(∀p,H p=00→664 (upd H p (e76 [] dg)))→agE K xs H Q
theorem azl(K:bo)(cj:X.K=K)(bp:e39<kb)(Ts:394):iy X d68 (agE K):=by
 subst cj;rw[C75];obtain⟨a,ps,dg,ex,aw,au,q⟩:=q;rw[A25];obtain⟨u,kO,bw⟩:=o3 r;subst kO;rw[A07];rw[C22 k08];have hg:=Ik cV;subst hg;rw[ba]at hz;obtain⟨prs,rel,ax,azm⟩:=agD I au;obtain⟨o,n,a8,ar,hd,so⟩:=pl;have azn:∀q∈dg,H q.1=f87 ec:=by intro q aw;obtain⟨_,h⟩:=Paired.right au q aw;exact h.2
 refine azg (prs:=prs) 03 (I.ok.hd Ts) a8 ar hd so (by simp[ax]) (by rw[ax];exact hz) j77 m97
 ·rw[C21 (azm j eU e)];exact⟨b,by simp[aK],aG,cp⟩
 ·have hm:(18==l5)=09:=962 (lF I.big);have hlen:069 (oZ [] dg):=by refine cX (agC dg []) ?_;rw[l4,qx,rS rel,ax];exact hz
  have fr:=082 (cL 18);obtain⟨cQ,aR,c0,af,ak,a6,bH,fX,iT⟩:=kW;refine⟨277,upd H 18 (e76 [] dg),f92 tk k (88 (fx 61 X.w _ _ _ (e76 [] dg)) ⟨568,hm,_,(kh.merge rel azn 89).keeps (fun b ys e=>?_),cQ,aR,c0,af,ak,a6,bH,iT⟩),rfl,q _ fr⟩;rw[117 fr];exact e
inductive agF(xs:08)(H:av)(Q:aW):04|mk:∀(d:ag)(kvs:028),xs=[602]→H d=some c05→(∀l dg,m02 (H q=294 m53) dg kvs→H l=00→837 l H l (dg.map 501))→agF xs H Q
theorem azo(Ts:394):iy X 900 agF:=by
 rw[C75];obtain⟨d,kvs,ex,hd,q⟩:=q;rw[A25];obtain⟨u,kO,bw⟩:=o3 r;subst kO;rw[A07];obtain⟨z,aL,xs,rel,o,aR,c0,af,ak,a6,bH,fX,iT⟩:=Az 274 (.inl hd);have K8:57=378:=567 (rS rel);refine PySem.W.kdl_call (azj aL ak a6 bH) (I.ok.hd Ts) af (by rw[K8];exact z) (fun h' tk acc c k e q3=>?_);have Ri:f07=(i76).map da:=by
  refine w0 (c95 ?_);by_cases bS:j<57
  ·have aK:acc[j]?=some (acc[j]'(n61 q3.1)):=YF (n61 q3.1);obtain⟨x,ex,ev⟩:=q3.2 j _ aK;have cp:acc.toList[j]?=acc[j]?:=19;rw[cp,aK,ev,cK,cK,ex];rfl
  ·rw[hH (by simp[q3.1];lia),187]
 have a3:cc ((i76).map 501) f07:=by rw[Ri];exact agA _
 refine 838 _ _ (f92 tk k (88 (fx 61 X.w _ h' _ (.lst ((i76).map 501))) ⟨by rw[ba,ba,K8];exact z,f07,c,a3,566⟩)) (q _ _ ?_ 683);exact azk rel
def j5(g:06):756:=g.map (h29 (gn 44:cF))
theorem Tt(g:06):(j5 g).map ec=a_ g:=by unfold j5 a_;rw[gP];rfl
theorem Tu:∀{g h:06},j5 g=j5 h→g=h|[],[],_=>rfl|[],_::_,e=>p71|_::_,[],e=>p71|a::g,b::h,e=>by have bZ:(gn b14:cF)::j5 g=(gn (15 b):cF)::j5 h:=e;have af:=agG bZ;have ak:b14=b:=V_ af.1;rw[Tu af.2,acL ak]
theorem azp{h:06}(e:a_ g=a_ h):g=h:=by unfold a_ at e;exact(List.map_inj_right (fun a b h=>by have:b14=b:=ae.int.inj h;exact acL 246)).mp e
def F1(H:av)(f:06)(u:aH):Bool:=match u with|.ref b=>(p70 (H b) (29 (ys=c72)) 09)|_=>09
theorem agH{f:06}(h:H b=918 g):F1 H f 281=29 (g=f):=by
 show(p70 (H b) (29 (ys=c72)) 09)=_;rw[h];show 29 (a_ g=c72)=_;rw[A06 g f]
 ·rw[e];simp
 ·rw[132,173 (e (azp q))]
theorem azq{f:06}(Tr:f77 (H t=918 x) aD cm):(k05).any (F1 H f)=a44 f cm:=by
 induction Tr with
  |nil=>simp
  |@cons t g _ _ h q ih=>
   rw[eN,pe,ih,agH h];rw[A06 g f]
   ·subst e;simp
   ·have:¬f=g:=e67 b25;simp[e,this]
theorem agI{Tv:f3}{gQ:ff}(ok:fy P w H h)(e:H a=918 g):IsTupleKey (fg Tv gQ) h (j5 g) a:=by rw[C74 (88 (fx P w H h a (.tup (a_ g))) (ok a _ e))];rw[←Tt]at r;exact⟨o,275,n,af,ak,a6,081 (Oo r)⟩
inductive agJ(K:bo)(x:ae)(y:ae)(H:av)(Q:aW):04|mk:∀(b p:ag)(f:06)(aD:27)(cm:30),x=281→y=280→H b=918 f→aJ K H p 587→(f77 (H t=918 x) aD cm)→446 (! a44 f cm)→agJ K x y H Q
theorem azr(K:bo)(cj:X.K=K)(bp:e39<kb):k00 (agJ K):=by
 subst cj;rw[A45];obtain⟨b,p,f,aD,cm,rfl,rfl,aa,aw,aN,q⟩:=h;rw[A07];rw[A24];rw[B34 aw];have hg:=Ik r;subst hg;refine amc (F1 H f) 965 (fun u An=>?_) (128 _ H I ?_)
 ·have kT:u∈k05:=p69;obtain⟨t,bk,rfl⟩:=112 kT;rw[A86 bk];obtain⟨g,_,a4⟩:=aN.get hi;intro Tv gQ aCs tE eU;refine wpAny_eqBool_tuple (knd:=fg Tv gQ) ?_ (agI 274 a4) (agI 274 aa) ?_
  ·show d63 1<kb;lia
  ·rw[agH a4]at eU;have:29 (j5 g=j5 f)=29 (g=f):=by
    rw[A06 g f]
    ·rw[e];simp
    ·rw[132,173 (e (Tu q))]
   rw[A16];exact eU
 ·rw[show(k05).toArray.any (F1 H f)=(k05).any (F1 H f)by simp,azq aN];exact q
theorem azs[m63](kvs:523)(k:e8)(v:ae):a24 (ie kvs k v)=13 (k∈d64) d64 (d64++[k]):=by
 unfold ie;have e:(g16 k)=a44 k d64:=by
  rw[hu,ly,decide_eq_true_iff,cJ];rw[A04]
  ·rintro⟨x,af,ak⟩;exact⟨x,af,d46⟩
  ·rintro⟨x,af,ak⟩;exact⟨x,af,102 ak⟩
 rw[e];rw[A39 (k∈d64)]
 ·rw[188,101,114,gP];refine lz (k36 ?_);show(13 (x.1=k) (x.1,v) x).1=x.1;split<;>rfl
 ·rw[113 h,107,125,d5];rfl
theorem agK:j5 g∈F.map j5↔g∈F:=by
 rw[cJ];rw[A04]
 ·rintro⟨x,h,e⟩;rw[←Tu e];exact h
 ·exact 312 (714 g h)
theorem agL:∀(dg:c47)(cm:30)(acc:028)(F:30),dg.map (·.2.1)=cm.map j5→acc.map 379=F.map j5→a24 (oZ acc dg)=(b94 F).map j5
 |[],[],acc,F,_,h=>h
 |[],_::_,_,_,h,_=>500
 |_::_,[],_,_,h,_=>500
 |q::dg,g::cm,acc,F,h,h'=>by
  rw[eN,eN]at h;have af:=agG h;show a24 (oZ (ie acc 449 423) dg)=(b94 (iq F g)).map j5;refine agL dg cm _ _ af.2 ?_;rw[azs,h',af.1];unfold iq;by_cases hm:g∈F
  ·rw[21 (agK.mpr hm)];simp[hm]
  ·rw[136 (hm (agK.mp z))];simp[hm]
theorem azt{o:dz}(h:H a=25):upd H a o=H:=by
 funext b;unfold upd;split
 ·next e=>rw[e,h]
 ·rfl
theorem Tw{x y:dz}(h:a≠b):761 a x b y=761 b y a x:=by
 funext c;rw[A72 (c=b)]
 ·have ak:c≠a:=16 (h (z.symm.trans af));rw[af,aI,aE (af▸ak),aI]
 ·rw[aE af];rw[A79 (c=a)]
  ·rw[ak,aI,aI]
  ·rw[aE ak,aE ak,aE af]
theorem azu{kvs:410}{g:iv}{D:lY}{σ:bq}(Pv:647)(h0:Pv 0 σ H)(ax:h28 (i≤378→560→H d=798 899))(aL:∀i k x σ H,kvs[i]?=some (k,x)→560→g x σ H (fun c6 aB=>b67 361 361 c6 aB))(hd:c73 (Pv 378 σ H) 659):∃W:240 647,(∃m,W 0 m σ H)∧∀i m σ H,W i m σ H→(800 (DU d o kvs)∧659)∨((DU d o kvs).go i H∧∃N:409,f00 (N cb H'→∃eg,eg<m∧W (i+1) eg cb H') ((DU d o kvs).mL i H x H'→g x σ H' (fun c6 aB=>a12 c6 aB))):=by
 rw[B09 (m=378-i∧i≤378∧560) ⟨378,19,229,h0⟩];rw[B18];have q:=ax i σ H hi p;by_cases cM:i<378
 ·refine .inr ⟨⟨q,cM⟩,361,j13 (378-(i+1)) rfl cM ky,c14⟩;obtain⟨e,k,y⟩:=y;subst e;exact aL i k x σ _ y p
 ·rw[A50 (i=378)];subst e;rw[A23 ⟨q,64⟩ (hd σ H p)]
theorem agM{L:Nat}{rows:30}(ok:869)(h:h27 (rQ n L g))(ar:b04 g):rQ n L g:=by induction ar with|here ai=>exact h _ ai|step _ aC ih=>exact ajQ ok ih aC
theorem azv{L:Nat}(aU:n≤4)(gG:L≤2)(az:F.Nodup)(h:∀g∈F,rQ n L g):n30:=by have af:=ajP az h;have ak:n^L≤4^L:=Ju aU L;have a6:4^L≤4^2:=Ba 14 gG;have:(4:Nat)^2=377:=rfl;lia
theorem azw{k:cF}{x:ae}(h:(hF ls as)[i]?=some (k,x)):∃a,325=532∧x=37:=by
 unfold hF at h;rw[zD]at h
 cases af:ls[i]? with|none=>rw[af]at h;simp at h|some c=>cases ak:325 with|none=>rw[af,ak]at h;simp at h|some a=>rw[af,ak]at h;simp at h;rw[A44 a h.2.symm]
theorem agN{H:av}:∀{us:27}{kvs:028}{F:30},m02 (H q=294 m53) us kvs→d64=F.map j5→f77 (H t=918 x) us F|_,_,[],.nil,_=>89|_,_,_::_,.nil,h=>500|_,_,[],.cons _ _,h=>500|_,_,g::F,.cons h t,e=>by rw[eN,eN]at e;have bZ:=agG e;refine .cons ?_ (agN t bZ.2);rw[h,bZ.1,Tt]
abbrev Lo:bK:=bA 0x1d
theorem agO:31 [396,k35,b24,726,"done",243,080,k34] j02 Lo:=⟨rfl,rfl,rfl,05,rfl,05,05⟩
structure zd(rows cm F:30)(b1:Nat):04 where
 az:F.Nodup
 all:h27 (g∈F)
 B7:∀g∈F,b04 g
 Tx:∀i,i<b1→∀g,F[i]?=some g→∀y∈ot 17 g,y∈F
 le:b1≤k29
theorem zd.more{rows:30}{b1:Nat}(h:zd 17 cm F b1){f:06}(hf:f∉F)(ar:b04 f):zd 17 cm (F++[f]) b1:=by
 refine⟨?_,f05 (Hf _ (h.all g a4)),c33,fun i hi g a4 y aC=>?_,by rw[cn];have:=h.le;lia⟩
 ·rw[Mb];exact⟨498,19,fun a aN b aa e=>hf (by rw[←86 aa,←e];exact aN)⟩
 ·rcases 362 a4 with q|q
  ·exact h.B7 g q
  ·rw[86 q];exact ar
 ·rw[mN (by have:=h.le;lia)]at a4;exact Hf _ (h.Tx i hi g a4 y aC)
theorem azx(D:cq K ah n60 Lo j02 f fd)(Sb:ah 499=00)(Tp:ah 535=00)(azy:ah 808=00)(On:ah "len"=00):Pr P w K ah 02 aO 1 n60 j02 SG:=by
 rw[A02 agO]
 ·obtain⟨d,p,as,ls,rows,n,L,aD,cm,rfl,_⟩:=h;rfl
 ·obtain⟨d,p,as,ls,rows,n,L,aD,cm,rfl,di,ok,uJ,SI,qg,bB,aCt,Th,aCu,k⟩:=h;have S:=agO;rw[A01 (90 3 (l_ (azo rfl) 66 Sb Bc (78 (l_ (azl K rfl f06 rfl) 66 Tp ago (78 (k9 rfl 242 c08 (own:=[(b24,2)]) (295 [396,k35,b24,726,"done",243,080,k34] Lo) g98 369 (286 (oC (e37 2 l8)))))))) (94 4 bu) (239 (tI eL (bM ka (J 4) (d6 (hO K rfl) 66 On eJ 845) (bO _)) (434 (Yw (e_ eL rfl (an7 252) (98 5 rfl e93) (018 7 (l_ (ab9 K rfl) 66 azy boot_tuple (78 (k9 rfl 242 (IH K rfl (440 85 327)) (own:=[(080,6)]) (295 [396,k35,b24,726,"done",243,080,k34] Lo) (924 6) 369 (286 (440 462 867))))) (bX (bM (azr K rfl f06) (J 7) 85 rfl) (aM (fK (hD K rfl h9 sD sE qQ 85 (384 7)))) b2)))) (Dj (i:=4) 242 rfl 70 bu z4))) 85))];have agP:=qg.lst;refine⟨_,rfl,p,rfl,224 agP,fun d2 oO=>?_⟩;refine kC (K:=K) (a:=p) (xs:=587) (876 (∃(ps:27)(dg:c47),49∧H' d2=247 992∧ov (n59 (416=294 [.ref q.1,423]∧H' q.1=f87 ec)) ps dg∧dg.map (·.2.1)=(cm.take j).map j5)) ⟨[],[],422 oO,aI,89,rfl⟩ (fun j H' _⟨_,_,gW,_⟩=>32 (gW _ _ agP)) ?_ ?_
  ·rintro j y H' aC⟨ps,dg,s1,cO,dH,cj⟩;rw[C20 (qg.get aC)];have bS:=eI ai;refine⟨rfl,_,rfl,338,c32⟩;have i_:=b06 [784,.bN 01];have y9:=i_ _ _ cO;have B2:T≠d2:=16 (by rw[z,cO]at bR;cases bR);have eH:=rS dH;have avM:n58=j:=by have:=137 cj;rw[ba,ba,eS]at this;lia
   refine⟨_,y9,?_,ps++[T],dg++[(t,j5 x,.bN 01)],g89,?_,?_,?_⟩
   ·rw[ba];rw[A14 (show 255 by lia)]
   ·rw[110 z oO];exact i_ _ _ (s1 _ _ z)
   ·rw[A52];rfl
   ·refine Yh (Paired.Ha dH (fun a b q=>?_)) ?_
    ·exact⟨553 (i_ _ _ q.1) y9 (i_ _ _ q.1),553 (i_ _ _ q.2) y9 (i_ _ _ q.2)⟩
    ·rw[A27 (861 B2)];have af:=i_ _ _ (s1 _ _ bk);show upd _ _ _ t=294 ((j5 x).map ec);rw[Tt];exact 553 af y9 af
   ·rw[dZ ai,d5,d5,cj];rfl
  ·rintro H1⟨ps,dg,s1,cO,dH,cj⟩;rw[ba,qg.hq.len,eK]at cj;refine⟨d2,ps,dg,rfl,32 cO,Paired.Ha dH (fun a b q=>⟨448 q.1,q.2⟩),fun dd vT=>?_⟩;refine⟨dd,_,rfl,aI,fun q us yJ aw=>?_⟩;have mP:=agL dg cm [] [] cj rfl;have agQ:667 (b94 []):=ajU;have Tz:∀g,g∈b94 []↔g∈cm:=563 ajV;generalize b94 []=TA at mP agQ Tz;have TB:=964 (e76 [] dg) vT;have TC:=293 a25 aw;have s2:=38 (807 TB) TC;have oW:H q=00:=(807 TB).free aw;have agR:jj (34 (upd H1 dd (e76 [] dg)) q a25) q us TA:=⟨aI,(agN yJ mP).mono (fun t x h=>TC _ _ h)⟩;generalize 34 (upd H1 dd (e76 [] dg)) q a25=aB at s2 agR⊢;clear yJ mP TB TC aw vT cj dH cO s1 oO;have hE:∀{dM:av}{o:dz},786→aA H (upd dM q o):=fun{dM o:_}e b u z=>364 (110 z oW) (e b u z);have azz:zd 17 cm TA 0:=⟨agQ,h26 ((Tz g).mpr h),h26 (.here ((Tz g).mp h)),618 (03),229⟩;have TF:∀{F:30}{b1:Nat},zd 17 cm F b1→n30:=fun{F b1:_}h=>azv uJ Th 498 (f05 (agM ok bB (h.B7 g a4)));rw[B72 (∃(b1:Nat)(us:27)(F:30)(v2 ew v6 fM:93),σ=[871,444,v2,873,71 b1,ew,v6,fM]∧49∧jj H' q us F∧zd 17 cm F b1∧m=377-b1) ⟨_,0,us,TA,00,00,00,00,rfl,s2,agR,azz,rfl⟩];rintro m σ a5⟨b1,us,F,v2,ew,v6,fM,rfl,s3,Lp,ze,rfl⟩;refine⟨_,rfl,_,rfl,q,_,rfl,306 Lp.lst,b1,_,rfl,rfl,_,rfl,?_⟩;have yI:=Lp.hq.len;have G6:=TF ze;refine eo g92 n42
   ·have cM:b1<k29:=by have:=210;rw[ba]at this;lia
    rw[A01 a26];obtain⟨g,a4⟩:∃g,F[b1]?=some g:=⟨F[b1],cA cM⟩;have oM:=agM ok bB (ze.B7 g (cG a4));have BI:=83 di.y3;refine⟨d,_,BI,xZ,fun cQ=>?_⟩;have F2:q≠d:=16 (by rw[z,di.y3]at oW;cases oW);refine⟨_,rfl,d,cQ,_,rfl,aI,azu (d:=d) (o:=cQ) (kvs:=606) (fun i σ TG=>∃(bP:av)(us:27)(F:30)(ew v6 fM:93),TG=upd bP d (.eT cQ g47)∧σ=[871,444,v2,873,71 b1,ew,v6,fM]∧aA H bP∧jj bP q us F∧zd 17 cm F b1∧F[b1]?=some g∧565 (rows.take i) ((g.map (72 (r.getD x x)))∈F)) ⟨a5,us,F,ew,v6,fM,rfl,rfl,s3,Lp,ze,a4,725 (by simp at aq)⟩ (fun i σ H' _⟨bP,_,_,_,_,_,e,_⟩=>by rw[e];exact aI) ?_ ?_⟩
    ·rintro i CF x σ TG ai⟨bP,us,F,ew,v6,fM,rfl,rfl,s4,B8,sR,uM,BB⟩;obtain⟨a,aN,rfl⟩:=azw ai;have hi:i<666:=by have:=eI aN;rw[di.oV,←di.len];exact this
     obtain⟨r,F3⟩:∃r,775=447:=⟨rows[i],122⟩;have azA:=di.row i a r aN F3;have BA:=103 azA;have agS:=103 di.y3;have k_:=ok r (cG F3);have agT:a≠d:=355 BA agS;have azB:=TF sR;have aCv:=B8.hq.len;obtain⟨t,bk⟩:∃t,us[b1]?=some t:=⟨us[b1]'(564 (eI uM)),cA _⟩;obtain⟨g',KR,Lq⟩:=B8.hq.get bk;obtain rfl:g'=g:=by rw[uM]at KR;exact 129 KR
     have TH:t≠d:=355 Lq agS;refine⟨_,rfl,_,rfl,q,_,_,784,rfl,rfl,32 (41 F2 B8.lst),fm (by rw[cK,bk];rfl),t,rfl,404 (448 (41 TH Lq)),n43⟩;have agU:dE≠d:=16 (by rw[z,aI]at fp;cases fp);have azC:bP dE=00:=k32 (aE agU) fp;refine anf (K:=K) (a:=t) (xs:=a_ g') (876 (H'=322 (upd bP d (.eT cQ g47)) dE (g61 (g'.take j) (r.getD x x)))) rfl (n57 (k33 (448 (335 (41 TH Lq) fp (41 TH Lq))))) ?_ ?_
     ·rw[C19];rw[C18 (v3 aC)];have cM:=oM.2 st (cG gq);have bS:=eI gq;rw[oM.1]at bS;have azD:(a_ r)[st]?=71 (r.getD st st:Nat):=i58 (cA (by rw[k_.1];exact cM)) (by rw[k_.1];exact cM);refine⟨rfl,_,rfl,_,rfl,a,_,_,_,rfl,rfl,32 (335 (41 agT BA) fp (41 agT BA)),fm azD,_,aI,?_,?_⟩
      ·rw[hn,ba,eS];rw[A14 (show 255 by lia)]
      ·rw[gp,dZ gq,d5,AY];rfl
     ·rintro de rfl;rw[hn,eK];refine⟨dE,_,rfl,aV ⟨e43,c32⟩⟩;have B2:T≠dE:=16 p68;rw[aE B2]at bR;have TJ:T≠d:=16 p68;have ur:bP T=00:=k32 (aE TJ) bR;rw[Tw agU.symm,Tw TJ.symm];generalize TK:(g'.map (72 (r.getD x x)))=f;have yC:=593 f azC;have azE:334 bP dE c72 T=00:=41 B2 ur;have agV:=821 c72 azE;have s5:=38 (k31 yC) agV;have uN:=B8.same (yC.trans agV);have BH:upd (322 bP dE f) T (.tup c72) T=918 f:=aI;generalize 388 (322 bP dE f) T c72=de at s5 uN BH⊢;have azF:=s5 _ _ di.y3;have azG:b04 f:=by rw[←TK];exact .step (sR.B7 g' (cG uM)) (143 r (cG F3))
      have azH:f77 (upd de d (.eT cQ g47) t=918 x) us F:=uN.hq.mono (k30 (553 q azF q));refine⟨_,rfl,_,rfl,T,q,f,us,F,rfl,rfl,41 TJ BH,32 (41 F2 h25),azH,_,rfl,?_⟩;refine eo k22 k22
      ·have ue:f∉F:=p67;refine⟨_,rfl,329 (41 F2 h25),_,rfl,q,_,_,rfl,rfl,41 F2 h25,?_,?_⟩
       ·rw[ba];rw[A14 (show 255 by lia)]
       ·refine⟨34 de q (a25++[c51]),us++[T],F++[f],_,_,_,Tw F2.symm,rfl,hE s5,328 n56,sR.more ue azG,?_,fun dF p9=>?_⟩
        ·refine e50 (uN.hq.mono (fun b x h=>?_)) ?_
         ·exact 553 h h25 h
         ·exact 553 BH h25 BH
        ·rw[mN (eI uM)];exact uM
        ·rw[dZ F3]at p9;rcases 362 p9 with h|h
         ·exact Hf _ (BB dF h)
         ·rw[86 h,TK];exact vB _ g75
      ·have yx:f∈F:=p67;refine⟨de,us,F,_,_,_,rfl,rfl,s5,uN,sR,uM,fun dF p9=>?_⟩;rw[dZ F3]at p9;rcases 362 p9 with h|h
       ·exact BB dF h
       ·rw[86 h,TK];exact yx
    ·rintro σ TG⟨bP,us,F,ew,v6,fM,rfl,rfl,s4,B8,sR,uM,BB⟩;rw[A27 aI];rw[gp,azt (103 di.y3)];have azB:=TF sR;have aab:=eI uM;refine⟨_,rfl,_,_,rfl,rfl,377-(b1+1),03,b1+1,us,F,_,_,_,_,rfl,s4,B8,⟨sR.az,sR.all,sR.B7,fun i hi g1 yP y aC=>?_,aab⟩,rfl⟩;by_cases Ki:i=b1
     ·subst Ki;rw[uM]at yP;cases yP;obtain⟨r,aq,rfl⟩:=112 aC;refine BB r ?_;have:11 606=666:=by unfold hF;rw[qw,di.len,di.oV,Nat.min_self]
      rw[this,eK];exact aq
     ·exact sR.Tx i 03 g1 yP y aC
   ·have hle:b1=k29:=by have af:=of_decide_eq_false qX;rw[ba]at af;have:=ze.le;lia
    rw[A01 rfl];refine k a5 q us F s3 Lp (563 ⟨ze.B7 g,312 (ajM ze.all (n55 ?_) h)⟩) G6;rw[A86 ai];exact ze.Tx i (by rw[hle];exact eI hi) x hi y aC
inductive F4(K:bo)(x:Str)(st:bK):04|mk:d78 (lp K i6 x=870) (hC K x x st f fd→F4 K x st)
inductive Lr(K:bo)(C:ag)(m:Str)(qual:Str)(st:bK):04|mk:d78 (Cc K C m f) (hC K m 74 st f fd→Lr K C m 74 st)
structure Ls(K:bo)(x:Str)(C:ag):04 where
 ns:lp K i6 x=287 C
 cl:h4 K C
 azI:Np K C=01
 fC:oB K 236=01
structure uO(K:bo)(x:Str)(a:ag)(xs:08):04 where
 ns:lp K i6 x=287 a
 at_:∀H,955
structure Lu(K:bo)(x:Str)(a:ag):04 where
 ns:lp K i6 x=287 a
 Bo:∀P w,JU P w K a Bq
inductive Lv(K:bo)(C:ag):04|mk:d78 (q7 K C f) (hC K 421 f04 yO f fd→Lv K C)
theorem azJ{st:bK}{ec pm:aH}(a:lp K i6 x=870)(l:709 f (c52 ig cQ (tM x x c37 033 843 87 ec doc pm an bx ek) k7))(c:Dv K bx x=01)(k:066 K=01):F4 K x st:=⟨f,_,a,OJ l c k⟩
theorem azK{st:bK}{ec pm:aH}(a:r8 K 236 x=870)(i:Nn K 590=01)(l:709 f (c52 ig cQ (tM x 74 c37 033 843 87 ec doc pm an bx ek) k7))(c:Dv K bx 74=01)(k:066 K=01):Lr K C x 74 st:=⟨f,_,⟨a,i,k⟩,OJ l c k⟩
theorem azL(ns:lp K i6 x=287 C)(dq:HA K C Dr=01)(hd:Nm K C=01)(po:W7 K C=01)(bG:r8 K 236 b23=c44)(mk:Np K C=01)(fC:oB K 236=01):Ls K x C:=⟨ns,⟨dq,hd,po,bG⟩,mk,fC⟩
theorem agW{i j:Int}{t u:Tok}(ns:lp K i6 x=287 a)(l:898=some ⟨748,cQ,b17 #[705,785 j],dP⟩):uO K x a [260,858]:=⟨ns,fun H=>.inr ⟨_,_,_,l,rfl,rfl,338,752 rfl (386 282)⟩⟩
theorem azM{i j i2 F5:Int}{t u jt jP:Tok}(ns:lp K i6 x=287 a)(l:898=some ⟨748,cQ,b17 #[705,785 j,.int i2 jt,.int F5 jP],dP⟩):uO K x a [260,858,.int i2,.int F5]:=⟨ns,fun H=>.inr ⟨_,_,_,l,rfl,rfl,894 4,752 rfl (752 rfl (752 rfl (386 282)))⟩⟩
theorem azN{i j i2 F5 va agX Lw agY:Int}{t u jt jP t3 AL azO EG:Tok}(ns:lp K i6 x=287 a)(l:898=some ⟨748,cQ,b17 #[705,785 j,.int i2 jt,.int F5 jP,.int va t3,.int agX AL,.int Lw azO,.int agY EG],dP⟩):uO K x a [260,858,.int i2,.int F5,.int va,.int agX,.int Lw,.int agY]:=⟨ns,fun H=>.inr ⟨_,_,_,l,rfl,rfl,894 8,752 rfl (752 rfl (752 rfl (752 rfl (752 rfl (752 rfl (752 rfl (386 282)))))))⟩⟩
theorem azP{k1 k2 k3 Br v1 v2 fb v4:Tok}(ns:lp K i6 x=287 a)(sy:(a==l5)=09)(l:898=some ⟨d68,00,.dict #[770 419 419 k1 (758 856 v1),770 376 376 k2 (758 937 v2),770 469 469 k3 (758 059 fb),770 420 420 Br (758 859 v4)] c0,#[]⟩):Lu K x a:=by
 rw[A03 ns (fun P w=>⟨sy,[(gn 419,758 856 v1),(gn 376,758 937 v2),(gn 469,758 059 fb),(gn 420,758 859 v4)],.cons (714 rfl _) (.cons (714 rfl _) (.cons (714 rfl _) (386 (714 rfl _)))),fun h h7=>⟨_,_,_,h7 _ _ l,714 rfl rfl,rfl,?_,?_,?_⟩⟩)]
 ·intro e he;have he:e∈[(770 419 419 k1 (758 856 v1):Ip),770 376 376 k2 (758 937 v2),770 469 469 k3 (758 059 fb),770 420 420 Br (758 859 v4)]:=p66;simp only[ed,Bt,or_false]at he;rcases he with rfl|rfl|rfl|rfl
  ·exact⟨gn 419,tA P w 419 k1,66⟩
  ·exact⟨gn 376,tA P w 376 k2,66⟩
  ·exact⟨gn 469,tA P w 469 k3,66⟩
  ·exact⟨gn 420,tA P w 420 Br,66⟩
 ·exact .cons (tA P w 419 k1) rfl (.cons (tA P w 376 k2) rfl (.cons (tA P w 469 k3) rfl (.cons (tA P w 420 Br) rfl 89)))
 ·simp
theorem azQ(h:LG aR=01):StrKeys aR:=h24 (by
 have:=gB.mp h e p66;split at this
 ·next n t bZ=>exact⟨n,t,bZ⟩
 ·rw[A47])
theorem B9{N:ag}{n:Str}{v:631}(l:709 N ⟨agZ,az,g14,dP⟩)(e:lp K N n=54):nsFind aR n=v:=by
 unfold lp at e;rw[l]at e;unfold nsFind findBy;rw[←alo];dsimp only at e;rw[A22]
 ·rename_i e7 he;cases e;rw[he];rfl
 ·rename_i he;rw[A22]
  ·cases e
  ·cases e;rw[he];rfl
theorem azR{nm q:Str}{N:ag}{bs:53}{ns:k12}{ec pm:aH}(azS:709 C (p5 nm q C N bs lb 01 sn sub ab col dd k0 k1 k2 k3 k5 c94))(zf:709 N ⟨agZ,az,g14,ns⟩)(i1:lp K N 421=870)(GX:LG aR=01)(i2:lp K N b23=326)(va:lp K N b22=326)(Lw:lp K N 226=326)(azT:lp K N h23=326)(azU:lp K N h22=326)(l:709 f (c52 f82 cQ (tM 421 f04 (ro yO) (o5 yO) (br yO) 87 ec doc pm an bx ek) k7))(c:Dv K bx f04=01)(k:066 K=01)(azV:oB K 236=01):Lv K C:=⟨f,_,⟨⟨nm,q,N,bs,sn,sub,ab,col,dd,k0,k1,k2,k3,k5,724 (nsFind aR n),azS,fun h h7=>⟨_,aR,c0,h7 _ _ zf,rfl,azQ GX,524⟩,B9 zf i1,B9 zf i2,B9 zf va,B9 zf Lw,B9 zf azT,B9 zf azU⟩,445 l,azV⟩,OJ l c k⟩
theorem azW(vs:08)(H:av)(Q:aW)(E:bD)(h:RW CM CS .turns vs H Q E):Sn CM CS vs H Q E:=by obtain⟨a,s,z,e,aY,wf,k⟩:=h;exact⟨a,26,z,e,aY,079,wf.Ry,n54 (aiN wf)⟩
theorem azX(vs:08)(H:av)(Q:aW)(E:bD)(h:FC CM CS k28 vs H Q E):Sq CM CS vs H Q E:=by obtain⟨a,s,e,aY,wf,k⟩:=h;exact⟨a,26,e,aY,079,wf.Ry,n54 (aiO wf)⟩
theorem azY(vs:08)(H:av)(Q:aW)(E:bD)(h:FD CM CS .keeps vs H Q E):Sw CM CS vs H Q E:=by obtain⟨a,c,s,z,x,e,aY,wf,ar,k⟩:=h;exact⟨a,c,26,z,x,e,aY,079,wf.Ry,ar,n54 (aiP wf)⟩
section
open PySem.W
theorem azZ:(k27:Str)=aP EY:=963
theorem az0{v:Value}(h:LI v=01):v=.none:=by
 unfold LI at h;rw[A18]
 ·rfl
 ·cases h
theorem az1{K:Frag}{g:Addr→830}(a4:∀a o,g a=25→898=25){cd:Value}{q:Str}(h:LJ g cd q=01):codeIn K cd q=01:=by
 unfold LJ at h;rw[A18]
 ·rw[A18]
  ·next e=>unfold codeIn;rw[A71];rw[a4 _ _ e];exact h
  ·cases h
 ·cases h
theorem az2{q:Str}{lJ:Arguments}{ag0:List Stmt}(af:fd.name=x)(ak:fd.qualname=q)(a6:fd.globals=961)(bH:fd.closure=[])(fX:fd.defaults=.none)(iT:fd.builtins=builtinsNs)(p:fd.params=lJ)(b:fd.body=.stmts ag0)(c:fd.scope=sc):fd=fnOf x q lJ ag0 sc 87 fd.kwdefaults fd.doc fd.pyModule fd.annotations fd.code fd.closureTuple:=by rw[←af,←ak,←p,←c];cases fd;cases a6;cases bH;cases fX;cases iT;cases b;rfl
theorem TM{K:Frag}{g:Addr→830}(a4:∀a o,g a=25→898=25){q:Str}{v:906}{s:Stmt}(h:ql g x q v=sS s):∃(f:Addr)(cQ an:241 Addr)(k7:723 l65)(ec doc pm bx ek:Value),v=870∧709 f (c52 f82 cQ (fnOf x q (ro s) (o5 s) (br s) 87 ec doc pm an bx ek) k7)∧codeIn K bx q=01∧keepIn K 590=01∧isFn K 590=01:=by
 unfold ql at h;rw[A18]
 ·next f=>
  rw[A18]
  ·next aCw cQ fd k7 ax=>
   rw[A18]
   ·next ar=>simp only[Bool.and_eq_true,decide_eq_true_eq]at ar;obtain⟨⟨⟨⟨⟨⟨af,ak⟩,a6⟩,bH⟩,fX⟩,iT⟩,MM⟩:=ar;have h:=074 (182 h);have i:=074 h.2;have j:=074 i.2;have ax:=a4 _ _ ax;rw[h.1,az2 af ak (p65 a6) (List.isEmpty_iff.mp bH) (az0 fX) (p65 iT) i.1 j.1 j.2]at ax;exact⟨f,_,_,_,_,_,_,_,_,rfl,ax,az1 a4 MM,by unfold keepIn;dsimp only;rw[ax],by unfold isFn typeIn;dsimp only;rw[ax];rfl⟩
   ·cases h
  ·cases h
 ·cases h
theorem ag1:∀(l:List Obj)(i j:Nat)(x o:Obj),l[j]?=43→alive x=25→805 (fr l i) (i+j)=25
 |[],_,_,_,_,h,_=>806
 |y::l,i,0,x,o,h,k=>by cases h;rw[fr,k];show 805 ((i,o)::fr l (i+1)) i=25;rw[List.lookup_cons,beq_self_eq_true]
 |y::l,i,j+1,x,o,h,k=>by
  have q:=ag1 l (i+1) j x o h k;rw[show i+1+j=i+(j+1)by lia]at q;rw[fr];split
  ·rw[List.lookup_cons,88 ((i+(j+1)==i)=09) (962 03)];exact q
  ·exact q
theorem ag2(a:Addr)(o:Obj)(e:321=25):805 (sU h) a=25:=by
 unfold Heap.get? at e
 cases q:h.objs[a]? with|none=>rw[q]at e;cases e|some x=>rw[q]at e;rw[←Array.getElem?_toList]at q;have:=ag1 _ 0 a x o q (by rw[C73];cases jl<;>first|exact e|cases e);rw[Nat.zero_add]at this;rw[A10]
theorem az3(e:Cd h x=870):nsIn (sU h) 961 x=870:=by
 unfold Cd at e;rw[A22]
 ·next q=>
  unfold nsIn;rw[ag2 _ _ q];rw[A71];rw[A22]
  ·next w=>rw[w];exact e
  ·cases e
 ·cases e
theorem az4{st:Stmt}(e:ql h.get? x x (Cd h x)=sS st):F4 (sU h) x st:=by obtain⟨f,cQ,an,k7,ec,doc,pm,bx,ek,af,ak,a6,bH,_⟩:=TM ag2 e;exact azJ (az3 af) ak a6 bH
theorem az5{K:Frag}{q:Str}{st:Stmt}(h:ql a28 x q (findIn K 236 x)=sS st):Lr K C x q st:=by obtain⟨f,cQ,an,k7,ec,doc,pm,bx,ek,af,ak,a6,bH,fX⟩:=TM i87 h;exact azK af fX ak a6 bH
theorem az6{K:Frag}(a:nsIn K 961 x=287 C)(b:F9 K C=(01,c44)):Ls K x C:=by rw[C17 (074 b)];simp only[Bool.and_eq_true]at b9;exact azL a b9.1.1.1.1 b9.1.1.1.2 b9.1.1.2 dj b9.1.2 b9.2
theorem gt{f:α→β}{xs:40}{ys:522}(h:078 f=ys)(i:Nat){x:α}{y:β}(a:441=43)(b:ys[i]?=270):f x=y:=by rw[←h,List.getElem?_map,a]at b;exact 182 b
section
variable{K:Frag}
theorem af{xs:221}{A:Addr}{vs:List 906}(e:078 (nsIn K A)=vs)(i:Nat){v:906}(a:441=43)(b:vs[i]?=54):nsIn K A x=v:=gt e i a b
theorem ak(e:naL.map (16 (g28 K z.1 z.2))=naL.map j21)(i:Nat){f:Str}(a:naL[i]?=some (C,f)):245 f:=l71 e i a
theorem a6(e:zj.map (F9 K)=zj.map (290 (01,c44)))(i:Nat)(a:zj[i]?=some C):F9 K C=(01,c44):=l71 e i a
theorem bH(e:j35 (ql h.get? e55 e55 (Cd h e55))=j35 (sS (bA i)))(n:Nat)(a:m93=01):F4 (sU h) g99 (bA n):=by obtain⟨i,z⟩:=List.getElem?_of_mem (List.contains_iff_mem.mp a);exact az4 (gt e i z (by rw[List.getElem?_map,z];rfl))
theorem fX(e:d67 (ql a28 e24 497 (g28 K z.1 e24))=d67 (sS i39))(i:Nat){q:Str}{k:Nat}(a:mtL[i]?=some (C,q,k,j)):Lr K C (c41 k j) q (343 k j):=az5 (l71 e i a)
theorem az7(l:709 960 (excClassObj 722 722 960 b21 [989] lb 01 [] [] 09 00 00 (46 0x195) 00 (j95 0x32e) (j95 0x336) (some d72) c94))(s:ql a28 421 f04 (nsIn K b21 421)=sS yO)(e:F_.map (nsIn K b21)=F_.map j21)(b:(LK (721 b21)&&keepIn K (.ref 960))=01):Lv K 960:=by
 rw[C17 (n49 b)];obtain⟨f,cQ,an,k7,ec,doc,pm,bx,ek,a1,a2,lS,v8,Jg⟩:=TM i87 s;unfold LK at b9;split at b9
 ·next agZ az aR c0 dP fs=>exact azR l fs a1 b9 (af e 0 rfl rfl) (af e 1 rfl rfl) (af e 2 rfl rfl) (af e 3 rfl rfl) (af e 4 rfl rfl) a2 lS v8 dj
 ·cases b9
structure Lx(K:Frag):04 where
 b:LL K=sV
 f:∀n,m93=01→F4 K g99 (bA n)
 m:d67 (ql a28 e24 497 (g28 K z.1 e24))=d67 (sS i39)
 a:Lv K 960
theorem az8{s:Shared}(e:Yf s=(sV,wR)):Lx (sU 28):=by have b:=823 z.1 e;have c:=823 z.2 e;have o:=823 z.2.2.2 b;exact⟨b,bH (823 z.1 c),823 497 c,az7 (gt o 5 rfl rfl) (823 z.2.2.1 c) (823 z.2.2.2.1 c) (823 z.2.2.2.2 c)⟩
end
end
end
section
variable{C CM D a c d f fI t:ag}{F:List (List Nat)}{K:bo}{ps:List Str}{P:f3}{us:List aH}{e:dn}{bx doc ek:aH}{o:Obj}{ah:Str→Option aH}{an:Option ag}{i j n:Nat}{base h:dk}{g:List Nat}{cl:Str→Option ag}{fd q9:k6}{x:Str}{q:Search}{s:dt}{v:Word}{w:ff}{m:g0}{xs:List ae}{X:dT}{CX:pJ}{sp:mM}{z:Nat×hr}
section
open PySem.W
theorem B_{F:92 53}(h:F [])(us:53)(ax:891=0):F us:=by cases us with|nil=>exact h|cons=>cases ax
theorem wL{F:92 53}(h:∀a us,891=n→F (a::us))(us:53)(ax:891=n+1):F us:=by cases us with|nil=>cases ax|cons a us=>exact h a us (Nat.succ.inj ax)
abbrev TN(x q:Str)(st:bK)(ps:221):04:=p64 639 53 (b79→bindArgs (tM x q c37 033 843 87 ec doc pm an bx ek) 915=pure 907)
structure qi(P:f3)(w:ff)(K:Frag)(ah:261)(base:dk)(fI:ag)(q9:k6):04 where
 g:∀{x:Str}{v:631},nsIn K i6 x=54→ah x=v
 X:Lx K
 Z:wq P w K ah 02 960 fI q9
section
variable(ao:qi P w K ah 02 fI q9){Ca:Str}{ag3:241 631}{dU:Nat}{wM:221}
include ao
theorem qi.eO(i:Nat)(a:nsN[i]?=43:=by rfl)(c:zi[i]?=some ag3:=by rfl):nsIn K i6 x=ag3:=gt (k02 z.1) i a c
theorem qi.bn(i:Nat)(a:naL[i]?=some (C,x):=by rfl):245 x:=ak (k02 497) i a
theorem qi.um{o:830}(i:Nat)(a:T2[i]?=some C:=by rfl)(c:sV.2.2.2[i]?=25:=by rfl):721 C=o:=gt (f:=a28) (k02 z.2.2.2) i a c
theorem qi.lq(i:Nat)(a:nsN[i]?=43:=by rfl)(c:zi[i]?=453 (46 C):=by rfl)(d:zj[i]?=some C:=by rfl):Ls K x C:=az6 (ao.eO i a c) (a6 (k02 z.2.2.1) i d)
theorem qi.ht(i:Nat)(a:nsN[i]?=43:=by rfl)(c:zi[i]?=453 00:=by rfl):ah x=00:=ao.g (ao.eO i a c)
theorem qi.bi(i:Nat){z:Int}{t:Tok}(a:nsN[i]?=43:=by rfl)(c:zi[i]?=453 (some (.int z t)):=by rfl):220 x z:=⟨_,ao.g (ao.eO i a c),t,rfl⟩
theorem qi.bs(i:Nat){t:Tok}(a:nsN[i]?=43:=by rfl)(c:zi[i]?=453 (some (.str k27 t)):=by rfl):d7 ah x (76 EY):=⟨_,ao.g (ao.eO i a c),t,109 (fun s=>C4 s t) azZ⟩
theorem uO.jE(c:uO K x a xs):d7 ah x 37:=445 (ao.g c.ns)
theorem Lu.jE(c:Lu K x a):d7 ah x 37:=445 (ao.g c.ns)
theorem qi.cD(n:Nat)(F:n53 (cq K ah g99 (bA n) wM f fd→Pr P w K ah 02 CX dU x ps sp))(a:m93=01:=by rfl)(aa:TN g99 g99 (bA n) wM:=by intro _ _ _ _ _ _;(repeat refine wL fun _=>?_);exact B_ rfl):Pr P w K ah 02 CX dU x ps sp:=p63 (ao.X.f n a) (F ⟨e,e.binds aa,ao.g d⟩)
theorem qi.zg(i n j:Nat)(F:n53 (hC K (c41 n j) Ca (343 n j) f fd→eP P w K ah 02 CX dU f fd wM sp))(a:mtL[i]?=some (C,Ca,n,j):=by rfl)(aa:TN (c41 n j) Ca (343 n j) wM:=by intro _ _ _ _ _ _;(repeat refine wL fun _=>?_);exact B_ rfl):jb P w K ah 02 CX dU C (c41 n j) wM sp:=p63 (fX ao.X.m i a) ⟨f,fd,d,e.binds aa,F e⟩
theorem qi.uP(i n j:Nat)(c:Ls K x C)(F:n53 (hC K (c41 n j) Ca (343 n j) f fd→eP P w K ah 02 CX dU f fd wM sp))(a:mtL[i]?=some (C,Ca,n,j):=by rfl)(e:c41 n j=421:=by rfl)(aa:TN (c41 n j) Ca (343 n j) wM:=by intro _ _ _ _ _ _;(repeat refine wL fun _=>?_);exact B_ rfl):mf P w K ah 02 CX dU C x wM sp:=by obtain⟨f,fd,m,g⟩:=fX ao.X.m i a;rw[e]at m;exact⟨f,fd,ao.g c.ns,⟨c.azI,m.at_,m.fn,c.fC⟩,g.binds aa,F g⟩
omit ao
theorem Pr.up(h:Pr P w K ah 02 CX j x ps sp)(aS:j≤dU:=by decide):Pr P w K ah 02 CX dU x ps sp:=h.mono aS
def qj:nG K 417:=⟨007 0,283 0,283 1,283 2,283 3⟩
def gL:gw K 803:=⟨007 1,283 4,283 5,283 6,283 7⟩
def wN:tZ K 720:=⟨007 2,283 8,283 9,283 0xa,283 0xb,283 12,283 0xd,283 0xe⟩
def uQ:sz K 077:=⟨007 3,283 0xf,283 377⟩
def TP:Kg K 0x27b:=⟨007 4,283 804⟩
def uR:sJ K b20:=⟨007 5,283 0x12,283 0x13,283 0x14,283 0x15⟩
def Cb:yS K c93:=⟨007 6,283 0x16,283 0x17⟩
def TQ:Ku K 076:=⟨007 7,283 533,283 0x19,283 0x1a,283 0x1b,283 0x1c⟩
def Ly:FK K 0x8a:=⟨007 8,283 0x1d,283 0x1e⟩
def kP:443:=⟨j56,418 0x38,418 0x39⟩
def i3:347:=⟨418 0x37,418 0x3a,418 469,418 0x3c,418 0x3d,n14,418 0x38,j56⟩
def TR:JV ah:=⟨j56,418 0x36,418 0x34⟩
def ag4:uO K "ARROW" 0x193 [e00,d97]:=agW (ao.eO 0xa) (ao.um 0)
def ag5:uO K "BLANKS" 0x192 (a_ [9,0xa,0xd,0x20]):=azM (ao.eO 0xb) (ao.um 1)
def ag6:uO K n52 0x1d (a_ rA):=azN (ao.eO 0xd) (ao.um 2)
def ag7:uO K n51 0x23f (a_ [2,3]):=agW (ao.eO 0x27) (ao.um 3)
def ag8:Lu K "SIGNS" 0x194:=azP (ao.eO 0x2a) 14 (ao.um 4)
def AO:=33 0x28 (aoW D 486 766)
def kF:=33 0x29 (aoY D 486 766)
def tX:=33 0x27 (ao7 D 486 766)
def pV:=33 0x25 (ao9 D 486)
def A6:=33 0x2a (apa D 486 j18 (AO ao) (tX ao))
def ml:=33 0x26 (apb (CM:=417) D 486 265 j18 (pV ao))
def A9:=33 6 (apc D)
def p2:=33 8 (apd D 357)
def O6:=33 9 (apf D 357)
def A8:=33 0xa (apj D 357 (O6 ao))
def az9:=b96 0 0x78 1 (apm F 486 a67)
def Lz:=b96 1 0x78 2 (apo F a67)
def LA:=b96 2 0x78 3 (apq F a67 (Lz ao))
def ag9:=b96 3 0x36 1 (apx F 486 a66)
def Pt:=33 0x38 (apA D 486 j19 a66 265 (250 0x16) (tX ao) (AO ao) e65 (ag9 ao))
def aAa:=071 4 0x36 2 (apF F a66)
def Se:=b96 5 0x36 2 (apI F a66)
def A5:=33 0x37 (apL D 486 a66 265 (aAa ao) (ag9 ao) (Pt ao))
def yB:=33 420 (ap0 D)
def PD:=33 0x5c (ap1 D 766 (yB ao))
def Ji:=33 0x5d (ap2 D (yB ao))
def PF:=33 0x5b (ap6 D 265 (PD ao) (Ji ao))
def aAb:=33 0x7f (aqa D (pV ao) (PF ao))
def t8:=33 0x82 (aqc D 486 (pV ao))
def A4:=33 0x83 (aqe (CM:=417) D 265 j18 j28 (250 0x22))
def aAc:=33 0x84 (aqf D 486 a66 (A4 ao) (A5 ao))
def aAd:=33 0x80 (aqg D 486 265 g02 (250 0x21) h18 (A6 ao) (pV ao) e65)
def aAe:=33 0x81 (aqn D 486 j19 265 g02 h18 (A6 ao) (t8 ao) e65)
def aAf:=071 6 311 0 (aqs F 766)
def aha:=071 7 419 1 (aqu (CM:=417) F 265)
def aAg:=071 8 0x78 3 (aqw F a67)
def JE:=33 0xb (aqA D 357 (A8 ao))
def P5:=33 0x12 (aqE D (p2 ao))
def ud:=33 7 (aqF D 265 766 (A9 ao))
def nN:=33 0xf (aqH D 357)
def Rr:=33 804 (aqM D 357 (nN ao) (p2 ao) (P5 ao))
def Qj:=33 0xe (aqQ D 357 (A8 ao))
def Bp:=33 0x4f (aqU D (250 0xf) (250 0x12))
def aAh:=33 0x4d (aqX D 486 (250 0x13) (250 0x28) ((ag5 ao).jE ao) (ag5 ao).at_)
def Qi:=33 12 (aq5 D 357 (JE ao))
def Bk:=33 0xd (ard D 357 265 (ud ao) (Qi ao) (Qj ao))
def aAi:=33 0x88 (arf D 357 (Bk ao))
def ahb:=071 9 0x4b 5 (asE F 030)
def aAj:=071 0xa 0x4c 6 (asG F e57)
def QM:=33 0x50 (asJ D (TR ao) ao.Z j18 (250 665) (ao.bs 9) (250 0xf) (Bp ao) (ahb ao))
def QO:=33 0x4e (asQ D (TR ao) ao.Z (250 419) ((ag8 ao).jE ao) ((ag8 ao).Bo P w) ((ag4 ao).jE ao) (ag4 ao).at_ (Bp ao) (ahb ao) (QM ao))
def j3:=b96 0xb 0x4c 1 (asY F e57 030 (aAh ao) (QO ao))
def oR:=33 0x5a (as7 D 030 ao.Z (250 0xe) (250 0x15))
def uk:=33 0x59 (ata D 030 (oR ao))
def wu:=33 0x58 (atb D 030 265 ao.Z (250 0x2c) (oR ao))
def QW:=33 0x57 (atf D 030 e57 (j3 ao) (wu ao) (uk ao) (aAf ao))
def Rb:=33 0x56 (atv D 486 030 e57 265 ao.Z (250 0x19) (250 0x1e) (250 0x29) (j3 ao) (wu ao) (uk ao) (oR ao) (QW ao))
def Ra:=33 0x55 (atY D (TR ao) 030 e57 ao.Z (250 0x1d) (250 665) (j3 ao) (uk ao) (oR ao))
def Rf:=33 0x54 (at6 D 030 e57 (j3 ao) (aAj ao) (aha ao) (Ra ao) (Rb ao))
def aAk:=071 12 0x77 4 (auj F (TP ao) (aha ao))
def RY:=33 0x7e (auo D 486 (TP ao) ao.Z (250 804) (250 0x1f) (250 0x14) (250 0x2b) (Rf ao))
def Rm:=33 0x14 (auU D (p2 ao))
def BK:=33 0x13 (auV D 357 265 (250 377) (ud ao) (nN ao) (Rm ao))
def aAl:=33 0x90 (auZ D (BK ao))
def m6:=33 0x89 (au0 (CM:=417) D 265 (250 0x22) (250 0x20))
def uF:=33 0x91 (au1 D 265 766 (250 12) (BK ao))
def Rw:=33 377 (au4 D 357 265 ((ag6 ao).jE ao) (ag6 ao).at_ (A9 ao) (Bk ao) (p2 ao) (ud ao) (Rr ao))
def aAm:=33 0x8a (au8 D 265 h00 (Rw ao))
def m7:=33 2 (avc D)
def BN:=33 0x63 (avd D 357 (m7 ao))
def ahc:=071 0xd 0x2c 7 (avn F (TQ ao))
def Kx:=33 665 (avo D 265 766 e65)
def BO:=33 376 (avp D (Kx ao))
def qd:=33 0x2f (avq D (BO ao))
def RJ:=33 0x31 (avt D 265 766 (ahc ao) (tX ao) e65)
def RK:=33 0x32 (avA D 357 (418 0x32) 265 766 (ahc ao) e65)
def RM:=33 0x30 (avL D 357 265 (RJ ao) (RK ao))
def BQ:=33 0x33 (avN D (TQ ao) (RM ao) (qd ao))
def aAn:=33 0x92 (avO D (TQ ao) (uF ao) (BQ ao) (qd ao) (t8 ao))
def aAo:=33 0x93 (avR D 357 g02 h18 (uF ao) (BO ao) (t8 ao))
def aAp:=33 0x94 (avS D g02 h18 (uF ao) (BQ ao) (qd ao))
def aAq:aes P w K ah 02 417 803:=⟨(aAl ao).up,(aAn ao).up,(aAo ao).up,(aAp ao).up⟩
def aAr:=33 0x7d (avY D a67 (aAq ao) (LA ao))
def Sf:=33 0x39 (awu D n14 (418 0x33) a66)
def BW:=33 0x87 (awA D 486 a66 (A4 ao) (A5 ao) (Se ao) (Sf ao))
def aAs:=33 0x85 (awC D 265 (250 0x20) (BW ao))
def aAt:=33 0x86 (awD D g02 h18 (BW ao))
def uH:=33 0x62 (awT (CM:=417) D 357 (418 0x34) 265 (nN ao))
def Sy:=33 534 (aw5 (CM:=417) D 357 (418 0x35) 265)
def aAu:=071 0xe 0x17 8 (axk F (Ly ao))
def K9:=b96 0xf 0x17 1 (axl F (Ly ao) (m7 ao))
def B3:=33 0x1b (axm D)
def S5:=33 0x1f (axn (CM:=417) D 357 265 (250 533))
def uA:=33 1 (ay4 (CM:=417) D (418 376) (418 0x37) 265)
def K2:=33 0x1d (azx D n14 (418 376) (418 0x36) j56)
def uI:=33 0x64 (ave D j19 265 766 (uA ao) (BN ao))
def BX:=33 0x65 (avf D 265 (uA ao) (BN ao))
def aAv:aem P w K ah 02 417 803:=⟨(aAb ao).up,(aAd ao).up,(aAe ao).up,(aAc ao).up,(aAs ao).up,(aAt ao).up⟩
def aAw:=33 0x7b (avW D a67 (aAv ao) (Lz ao) (LA ao))
def So:=33 0x66 (awW D (uH ao) (uI ao))
def aAx:=33 0x8b (awX D 357 (250 0x1b) j28 (uH ao) (So ao))
def Sr:=33 0x67 (aw1 D ((ag7 ao).jE ao) (ag7 ao).at_ (uH ao) (uI ao) (BX ao))
def aAy:=33 0x8c (aw3 D h00 (Sr ao))
def aAz:=33 0x8d (axb D (250 0x1a) j28 (250 311) (Sy ao) (uI ao) h00 (BX ao))
def B6:=33 0x19 (axp D 357 265 (uA ao))
def B4:=33 0x1c (axr D 766 (K2 ao) (m7 ao))
def S9:=33 0x1a (axH D j19 265 (Ly ao) (B3 ao) (B4 ao))
def S8:=33 533 (axJ D 357 265 (aAu ao) (B6 ao))
def S6:=33 0x20 (axT D 357 265 (nN ao) (B6 ao) (m7 ao) (B4 ao) (B3 ao))
def S7:=33 0x1e (ax4 D 357 (S5 ao) (S6 ao))
def aAA:=33 0x8f (ax6 D h00 (S7 ao))
def aAB:=33 0x8e (ax9 D 265 (Ly ao) (250 0x1c) j28 (250 311) h00 (S8 ao) (K9 ao) (S9 ao))
def aAC:aep P w K ah 02 417 803:=⟨(aAi ao).up,(aAm ao).up,((aAx ao).imp azW).up,((aAy ao).imp azX).up,((aAz ao).imp azY).up,(aAB ao).up,(aAA ao).up⟩
def aAD:=33 0x7c (avX D a67 (aAC ao) (Lz ao) (LA ao))
def R0:=33 0x7a (av4 D a67 (TP ao) (RY ao) (Lz ao) (LA ao) (aAw ao) (aAD ao) (aAr ao))
end
end
end
section
variable{B G:Prop}{CM CS D a b d f fI me p:ag}{F:List (List Nat)}{K:bo}{M:Model}{N loose ps:List Str}{XP:(Str→Option aH)→dk→Prop}{YP:ff→dk→Prop}{us vs:List aH}{e:dn}{bx doc ek ig:aH}{ah:Str→Option aH}{an cQ:Option ag}{base h h':dk}{g l:List Nat}{r:List Int}{k7:Array (Option aH)}{fd q9:k6}{x:Str}{q:Search}{s:dt}{v:Word}{w:ff}{xs:List ae}{y:ae}{H H':av}{X:dT}{CX:pJ}{sp:mM}{z:Nat×hr}
section
open PySem.W(WData Codec OpenSpec)
theorem aAE(h7:055)(G:h.Ns i6 ah)(hm:ah k24=46 me)(X:Lx K):∃fd:k6,(f93 (891=075 015 221→Dt s fd 915 ((015:221).zip us)))∧k26 (K.In 02→g48 i6→eP rl.prog w K ah 02 aO 12 me fd 015 (BV K)):=by
 have g:∀{x:Str}{v:631},lp K i6 x=54→ah x=v:=fun{x v:_}e=>by cases v with|some _=>exact PySem.W.mg_of h7 G e|none=>exact PySem.W.mg_none_of h7 G e
 obtain⟨f,fd,d,F⟩:=X.f 0x79 rfl;have e:=hm.symm.trans (g d);cases e;obtain⟨fI,q9,M,ahd⟩:=X.a;have B:∀base,qi rl.prog w K ah 02 fI q9:=fun base=>⟨g,X,⟨M,arK ahd M,ahd.binds (n50 (g79 (g79 (g79 (B_ rfl))))),g (gt (823 z.1 X.b) 468 rfl rfl)⟩⟩;have D:cq K ah k24 RZ 015 me fd:=⟨F,F.binds (n50 (g79 (B_ rfl))),g d⟩;have k:∀base,eP rl.prog w K ah 02 aO 12 me fd 015 (BV K):=fun base=>awd (CM:=417) (CS:=803) D (kP e21) (uQ e21) (aAk e21) (aAg e21) (az9 e21) (R0 e21);rw[C16];exact⟨_,fun s=>g79 (B_ (.of_eq rfl)),fun base _ _=>k 02⟩
theorem aAF(K:bo)(H:av)(xs:08)(a:k25 h21)(_:AK H)(IG:m40 h21=01)(aAG:Codec.app h21 rl.asked a=01)(ai:pS K H xs (f52 h21 a)):BV K xs H (h20 (nF K H' v (rl.ret.enc (Codec.app h21 rl.f a)))) a20:=by
 cases ai with
  |cons af ak=>
   cases ak
   cases af with
    |lst aL aN=>
     have e:=OL a.1 _ aN;subst e;have q:((Codec.inLen 0 17000 a.1&&a.1.all (Codec.inInt (-p62) p62))&&01)=01:=IG;rw[hG,hG]at q;obtain⟨cS,aS,he,ax⟩:=ajJ (l:=a.1) aAG;refine⟨_,a.1,cS,rfl,aL,aS,477 (Codec.inNat_iff.mp q.1.1).2,?_,fun H' p au=>?_⟩
     ·rw[←he];rw[A37 ax]
     ·show nF K H' 280 (rl.ret.enc (MO a.1));rw[he];exact d86 au (OK _)
end
section
open PySem.W
abbrev ahe(_:World)(h:Heap):04:=∃K:Frag,055∧Lx K
theorem aAH:LeftO b19 i5 uV LM Yf (290 (sV,wR)) 6600 01:=ahu (boot_open ahB rfl ahC) ahA (fun w os=>by obtain⟨s,af,ak,a6⟩:=ahz w os;have bH:=aht _ _ _ af;rw[show(LH w os).abs=⟨d52,#[],boot_drawn,boot_toks,os⟩by unfold LH SharedT.abs;rw[ahx]]at bH;rw[bH];have fX:=074 ak;exact d73 (Prod.ext fX.1 (Prod.ext fX.2 a6))) rfl
theorem aAI{d:DefRec}(hd:m50 [])(aU:d.name=k24):WalkOS i5 uV (XL i5 []) ahe p61 d [] (fun f vs=>PySem.call f vs):=fun w s0 s1 ah cB G⟨K,fc,X⟩=>aoQ (r:=p61) (k:=0xc) (CX:=aO) (ps:=015) (sp:=BV) (K:=290 K) (YP:=fun _ h=>055) (fun a=>612 a.1) (131 (612 y)) T5 hd rfl ⟨rfl,14,14⟩ (fun _ _ Y=>Y) (fun w ah me h Y h7 G OR=>aAE h7 G (aU▸OR) X) aAF (fun _ _ _ _ z=>z) w s0 s1 ah cB G fc
theorem aAJ:PySem.Challenge.rw_wordmoves_s01_answers.Holds:=by refine holds_os (q:=i5) (loose:=uV) (Xt:=LM) (XP:=XL i5 []) (Yf:=Yf) (Ya:=290 (sV,wR)) (YP:=ahe) (N:=6600) aAH (fun w s e=>⟨_,ahy _,az8 e⟩) (fun w h h'⟨K,a,b⟩k=>⟨K,a.keeps k,b⟩) (fun s e=>xl_of s (n49 e).1) XL.keeps 66 66 66 (fun s e=>recFacts_of (n49 e).2) os_shapes T5 LN ahI ⟨[.list [941]],05,05⟩ ?call;exact aAI rfl rfl
end
end
theorem PySem.Challenge.aCx:PySem.Challenge.rw_wordmoves_s01_answers.Holds:=aAJ
end Internal
end Wm
theorem PySem.Challenge.cw_wordmoves_s01_answers_holds : PySem.Challenge.rw_wordmoves_s01_answers.Holds :=
 Wm.Internal.aAJ
