import PyProof.Rows.All
import Wide.All
import OpenK.AllK
import Wide.FinOn
import KE.OsGo
import KE.OsHead
import Open.SpecLaws
import PyProof.EqAt
import PyProof.EqKinds
import PyProof.TupleCall
import KE.BitLaws
import PyProof.InstStore
import PyProof.InstStoreFacts
import PyProof.ExcInit
import PyProof.ExcBaseAll.Exception
import PyProof.ExcArgsOwn
import PyProof.RulesTry
import PyProof.RulesAs
import PySem.Challenge.RW_wordmoves_s01_answers
import Lean
set_option Elab.async false
set_option linter.all false
set_option maxRecDepth 100000
set_option maxHeartbeats 4000000
set_option exponentiation.threshold 1000
set_option bootstrap.genMatcherCode false
set_option compiler.extract_closed false
set_option compiler.reuse false
open Array renaming find?_toList→alg,forIn_toList→aym,getD_eq_getD_getElem?→atA,getElem?_eq_getElem→YC,getElem?_eq_none→Yx,getElem?_eq_some_iff→Ox,getElem?_toList→aBm,length_toList→C_,toList→Wo
open Bool renaming and_eq_true→hG,and_false→Ak,eq_false_iff→Ft,eq_iff_iff→hu,false_and→zu,false_eq_true→l0,false_ne_true→hB,false_or→Cu,not_eq_true'→Gj,not_false→ai4,not_true→Vm,or_eq_true→Gi,or_false→wU,or_true→ac0,true_and→w3,true_or→VG
open Classical renaming byContradiction→nk
open Except renaming bind→G1,error→tr,ok→px
open False renaming elim→gI
open ForInStep renaming yield→Oc
open Function renaming comp→u1
open Int renaming add_mul_ediv_right→auK,dvd_add→Me,dvd_mul_left→ain,dvd_of_emod_eq_zero→CF,dvd_trans→GC,ediv_eq_zero_of_lt→auL,emod_eq_zero_of_dvd→Md,eq_of_mul_eq_mul_left→aik,fdiv_eq_ediv_of_nonneg→ak5,le_refl→Vz,mul_assoc→L0,mul_comm→w7,mul_ediv_cancel_left→aiu,mul_eq_zero→UB,mul_left_comm→UA,mul_ne_zero→Gz,mul_neg→U1,mul_sub→Uz,mul_zero→Cw,natAbs_mul→Cy,natAbs_natCast→UG,natAbs_sub_le→aqv,natCast_mul→u6,ofNat_dvd_left→aif,sub_zero→UN,toNat→hT,toNat_natCast→kA
open Int.ofNat renaming inj→acJ
open List renaming all_append→AN,all_cons→tf,all_eq_true→gB,all_map→GG,all_nil→ade,any_append→acX,any_cons→pe,any_eq_false→Gg,any_eq_true→ly,any_map→u4,any_nil→VL,append_assoc→jo,append_nil→nh,contains_cons→arF,contains_iff_mem→xi,dropWhile_cons→ajg,drop_drop→rH,drop_eq_getElem_cons→aa5,drop_left→GV,drop_length→aa7,drop_succ_cons→VN,drop_zero→avl,exists_of_findSome?_eq_some→Vy,ext_getElem?→wY,filter→Ux,filterMap_cons→w0,filter_append→s6,filter_congr→Cp,filter_cons→iO,filter_eq_nil_iff→ahI,find?_append→EC,find?_cons→jK,find?_eq_none→w8,find?_map→ai3,find?_some→zE,findIdx?_append→au4,findIdx?_cons→zv,findIdx?_eq_none_iff→T5,findIdx?_eq_some_iff_getElem→ahF,findSome?_append→auW,findSome?_cons→tg,flatMap_append→w5,flatMap_cons→s9,flatMap_def→Gl,flatMap_id'→U3,flatMap_map→LN,flatten_append→Cq,flatten_cons→qs,flatten_nil→ahL,foldl→Ml,foldl_append→sZ,foldl_cons→hv,forIn_cons→HY,forIn_nil→DB,getD_cons_succ→Mt,getD_cons_zero→Ms,getD_eq_getElem?_getD→cZ,getElem?_append_left→mN,getElem?_append_right→w1,getElem?_concat_length→atl,getElem?_cons_zero→anW,getElem?_drop→aiY,getElem?_eq_getElem→cA,getElem?_eq_none→hH,getElem?_eq_some_iff→oi,getElem?_map→cK,getElem?_of_mem→rv,getElem?_range→sY,getElem?_replicate→Ma,getElem?_set→ahR,getElem?_set_ne→u7,getElem?_set_self→ry,getElem?_take→aiX,getElem?_zipIdx→Gk,getElem?_zipWith→zB,getElem_inj→ahC,getElem_mem→ko,getElem_zip→aiS,idxOf_cons→Uq,idxOf_cons_self→au2,idxOf_lt_length_of_mem→ady,isEmpty_iff→aBr,length→my,length_append→cn,length_cons→dR,length_drop→fV,length_eq_one_iff→ajp,length_eq_zero_iff→u3,length_erase_of_mem→ajH,length_filterMap_le→ac9,length_filter_le→tR,length_map→ba,length_nil→l4,length_pos_of_mem→ahX,length_range→iP,length_replicate→ph,length_reverse→auF,length_set→mC,length_singleton→amc,length_take→eS,length_zip→aiR,length_zipIdx→ZP,length_zipWith→qw,lookup→qJ,lookup_cons→An,map→kS,map_append→d5,map_congr_left→lz,map_cons→eN,map_drop→uX,map_flatMap→Ub,map_id→CO,map_map→gP,map_nil→zx,map_take→wR,mem_append→e4,mem_append_left→Hc,mem_append_right→vz,mem_cons→ed,mem_cons_of_mem→d4,mem_cons_self→dO,mem_erase_of_ne→ajG,mem_filter→ob,mem_filterMap→Gq,mem_flatMap→ni,mem_map→cJ,mem_of_find?_eq_some→nq,mem_of_getElem?→cG,mem_of_mem_drop→uY,mem_of_mem_take→qp,mem_or_eq_of_mem_set→aqH,mem_range→g4,mem_singleton→du,nil_append→HW,nodup_append→L9,nodup_cons→ta,nodup_iff_pairwise_ne→Fc,nodup_nil→VS,nodup_range→awG,not_mem_nil→Br,of_mem_zip→Xr,pairwise_iff_getElem→atG,pairwise_map→Mn,range→bz,range_add→aoT,range_succ→ru,range_succ_eq_map→Gv,replicate→iM,replicate_succ→Aj,reverse_cons→NQ,set_set→PT,size_toArray→gu,sum_append→Gs,sum_cons→w6,takeWhile_append_dropWhile→VO,takeWhile_cons→CV,take_append_drop→om,take_length→eK,take_of_length_le→si,take_range→adK,toList_toArray→aob,zipIdx_cons→aeG,zipIdx_nil→aye,zipWith→kQ,zipWith_cons_cons→aic
open List.cons renaming inj→agE
open Nat renaming add_comm→tm,add_le_add→aa8,add_mul→pq,add_sub_cancel_left→asE,div_eq_of_lt→aiN,dvd_refl→UD,dvd_trans→Cx,eq_zero_or_pos→aij,gcd→qm,gcd_dvd_left→aie,gcd_dvd_right→aih,lcm→GD,le_add_right→Iq,le_of_eq→Hz,le_of_lt→xH,le_of_succ_le→N8,le_refl→cL,le_succ→xt,le_trans→cX,lt_add_right→ago,lt_irrefl→kV,lt_of_le_of_lt→fL,lt_of_lt_of_le→jN,lt_succ_of_lt→CD,lt_succ_self→zG,lt_trans→Ia,min_eq_left→sv,min_le_right→Af,mul_add→aal,mul_add_div→aiM,mul_comm→CG,mul_le_mul→wa,mul_le_mul_left→PR,mul_le_mul_right→CJ,mul_pos→UK,ne_of_gt→lF,ne_of_lt→fk,not_lt_zero→xj,one_mul→pv,pow_le_pow_left→Jr,pow_le_pow_right→A9,pow_succ→MM,sub_le→Xz,sub_lt_sub_left→apI,zero_add→qx,zero_le→d_
open Ne renaming symm→jq
open Option renaming bind_some→Ge,getD_some→UZ,isSome_iff_exists→ahE,isSome_map→Ye,isSome_none→atu,isSome_some→N_,map_eq_some_iff→pP,map_map→Ud,map_none→GN,map_some→wX
open Option.some renaming inj→cI
open Or renaming inl→aV,inr→en
open Prod renaming ext→aiO
open PyFlat renaming call→CZ,calls→MK,played→ajB,row→VU,rows→xy,told→rO
open PyProof renaming noPylong_of_log2→apa,noPylong_small→ak6
open PyProof.Rows renaming AllBare→xG,IntsAre→Dx,Subscript_→NB,boot_list→Ba,boot_range→xS,callWith_type1→tH,envOfC→qL,floordiv_int→WJ,iadd_int→akI,subscriptTail→NC,subscriptTail_builtinR→alV
open PySem renaming Addr→ag,Around→rT,BindsTo→Ds,DictEntry→Il,Draws→lW,Expr→dn,FuncData→k6,GenState→Qp,Heap→dk,IsPair→j2,IsRangeIter→MZ,Keyword→HK,NameKind→pK,Operator→Dh,OsState→ari,Paired→ov,Params→AH,Program→f3,PyData→Am,Scope→rp,Shared→aZ,Stmt→bK,Value→aH,Within→G7,World→ff,am_miss_of_fast→Yq,assign→zZ,assignEach→xO,atKey→vP,attributeBase→tJ,backTo→hA,backToKw→xZ,behindInMarks→zY,binaryOp→r5,bootBuiltins→rS,boot_len→eJ,builtinLookup_eq_fast→EP,builtinsNs→V_,cLine→kb,call→kZ,callType_codes→ac3,callWith→Ad,call_meets→x7,callerA→D3,cellsFrom→kc,codeAny→qI,codeAny_builtin→BA,codeAny_call_builtin→abG,codeAny_mono→x3,compEnvC→pQ,compareOp→jv,entryOfKey→MO,eval→cE,evalEach→I_,evalPart_none→Xx,evalPart_some→Xy,excClassObj→p5,field→wI,foldedSetIterable→M4,getAttr→Hy,getItem→z1,getMethod→Ab,getattributeRaised→Om,holding→nz,isSubtype_type→JQ,keywordEach→x1,letOwnedTupleGo→MY,mainGlobals→i6,mem_of_lookup→nD,model→bE,notedBy→DJ,plainId_quiet→yV,plainObj_wpAny_Assign_Attribute→Nr,pushCells→x9,pushCells_keeps→N7,pyIter→vw,pyNext→nB,rawInt→hM,scanBound→yU,seqIndex_neg→XC,seqIndex_of→XB,setAttr→Dn,setFlight→Ql,sizeLine→bc,sizeLine_eq→Aa,size_of_entries→agx,sliceBounds→k8,slicePick→NI,sliceRange→AF,slot_list_getitem→XE,standAt→xP,starEach→dc,storedH→Av,strIterType→Lc,subscripted→NF,swapsWith→tD,sysModules→l5,tupleKind→jS,tupleKind_room_in1→Ib,typeIs_str→NH,typeLookup→lI,typeLookup_type→EO,unbindBehindTheSuite→ar0,valueAt→ya,wpAny→a9,wpAny_Call_Name_kw→vG,wpAny_attempt→Oq,wpAny_bind→a7,wpAny_call→HH,wpAny_callSpecial?_slot→Ot,wpAny_call_entry→DQ,wpAny_dictEntries→YA,wpAny_dictEpoch→YB,wpAny_execs_cons→Wr,wpAny_execs_nil→Dc,wpAny_field→lU,wpAny_getItem_list_slice→al2,wpAny_holding→oz,wpAny_isInstance→YD,wpAny_isOneOf_keyiter→anQ,wpAny_isSubtype_exc→arG,wpAny_isTrue_Compare1→akj,wpAny_letGo→ac6,wpAny_loadName_cell→ake,wpAny_loadName_local→akd,wpAny_loadPart_at→wj,wpAny_mono→j_,wpAny_newObj_type→H5,wpAny_notOrdered_dict→Yz,wpAny_onRaise→Qw,wpAny_passesOwn→z4,wpAny_pure→cx,wpAny_pyIter_list→M0,wpAny_pyIter_rangeiter→akP,wpAny_pyNext_list_end→akL,wpAny_pyNext_list_item→akK,wpAny_pyNext_range_end→akO,wpAny_rule→S8,wpAny_seqItems→uv,wpAny_setField→DR,wpAny_setField_rec→FU,wpAny_specialOf→Yj,wpAny_standAt→Hm,wpAny_truthy_bool→xK,wpAny_typeLookup_exc→JM,wpAny_typeNameOfWhole_keyiter→Ou,wpAny_typeNameOf_keyiter→Ov,wpAny_typeOf→Kg,wpAny_updateSeq_pair→ayf
open PySem.Around renaming under→Xi,under_plainId→E_
open PySem.Builtin.Dict renaming addKeywords→ayH,pairItems→ayI,selfAndRest→ayT,showsAll→anM,updateFrom→Tg
open PySem.Builtin.Dict_items renaming ownsTuple→anO
open PySem.Builtin.Frozenset renaming updateFrom→aBK
open PySem.Builtin.List renaming listExtendWith→ac5,listItems→auB,listLengthHint→auy,listSameRef→auC,listTooLong→Dw
open PySem.Builtin.Range renaming rangeFitsLong→PL,rangeSize→z6,small→Oo
open PySem.Builtin.SmallTypes renaming nextOf→FV,ownedTupleHandOut→ayi,ownedTupleIsFree→y9
open PySem.Builtin.Str renaming strSliceIndices→vT
open PySem.Calls renaming Name_function_global→akf,callWith_builtin→ama,evalArgs_plain→amb,spliced_cons→Nu,spliced_nil→Nt
open PySem.Challenge renaming pw_wordmoves_s01_answers→aAN,rw_wordmoves_s01_answers→rl
open PySem.Code renaming isFrame→Xj
open PySem.Data renaming seq→OL
open PySem.EntryCells renaming newEntry→aq9
open PySem.F renaming args_dict_init_2→ayS,args_zip_next_1→ayt,entry_dict_init→ayO,entry_zip_next→ays,kt_called_dict→ayM,kt_typeCall_dict_1→ayN,plainAttrs_list→h9,slot_dict_getitem→anm,slot_list_append→sC,slot_list_extend→nK,slot_list_getattribute→Yr,slot_list_index→ams,slot_zip_getattribute→agi,slot_zip_iter→ayK,slot_zip_next→La,store_Exception→JL,type_list_append→sD,type_list_extend→nL
open PySem.Heap renaming SameBut→ox,get?_none_of_le→aj6,get?_push_of_some→dY,get?_push_size→gg,get?_update_ne→ark,get?_update_other→vI,get?_update_self→x5,lt_size→dm,size_push→kz
open PySem.Heap.DictOf renaming new→ant
open PySem.Heap.IsSliceOf renaming new→alQ
open PySem.Heap.Ns1 renaming of_empty→alv
open PySem.Heap.SameBut renaming update→anS
open PySem.IsRange renaming new→akS
open PySem.NameKind renaming cell→XX,free→DC
open PySem.Obj renaming cls_mapFields→anR,data_mapFields→DS,isFreed_of_fields→Io,mapFields→j1,mapSeq→sd
open PySem.P renaming truthy_int→alc
open PySem.Paired renaming length→rR,snoc→Yd
open PySem.PassesOwn renaming never→eL
open PySem.PyData renaming canLay0→Jz,canLayAll0→wc,depth→JA,depthAll→wd,eqv→vL,eqvAll→EH,int→kI,list→q5
open PySem.SeqAt renaming notIn_listAt→al5,shaped→vK
open PySem.SeqAt.EqAt renaming int_str→ajX,str_int→ajY
open PySem.Shared renaming TypeIs→atD
open PySem.Str renaming empty→Dq,ofString→iA
open PySem.StrLaws renaming At→au9,sliceText→D0,subAt_eq→Y9
open PySem.Txt renaming count→YQ,find→OD,join→DW,startswith→DX,startswith3→OR
open PySem.Value renaming bool→xD,builtin→Ay,int→zR,isStrOf→ajP,none→fh,ref→da,str→C3,type→vk
open PySem.W renaming Frag→bo,WRecords→aoj,WalkOS→aoG,callWith_K→HI,callWith_K0→alF,cellsFrom_some→alK,codeIn→Du,emptyDict→vE,findIn→r7,fnOf→tK,handedIn→ali,hasDictIn→Nj,instObj→xE,isFn→Nk,keepIn→oB,lookIn→Ni,makesIn→Nl,methodCall_KW→Xh,methodObj→V8,nsIn→lp,plainGet→Hx,plainGet_of→W3,plainOver→W4,takerIn→W5
open PySem.Within renaming cons→alq
open PyVainve renaming answers→ML,answers_asked→ajD,shape→jQ,whole→zQ
open Sum renaming inl→gn,inr→jR
open Sum.inl renaming inj→V7
open Sum.inr renaming inj→MN
open True renaming intro→xX
open Vainve renaming Answer→Ck,Call→oo,Fault→oS,MOVES→VR,Machine→rF,Meet→nu,Move→ez,System→dt,Word→b7,allMeets→CR,allTurns→mE,answerOf→il,apartBy→uC,arrow→ks,ascii→zq,basisOf→w9,blank→j7,changeOf→zF,cleared→zC,closedBy→jr,countIn→pg,faultAt→mF,faultRow→acV,firstDown→xd,freeStep→hy,isGood→nt,isOver→E0,isSign→gm,isTurn→u_,isWord→nT,machineFault→CQ,machineOf→gD,machineRow→CP,meetsOf→xr,mostStates→ve,noBytes→o_,normalFrom→xq,normalOf→ee,numbersOf→qq,onBoth→oh,onDown→wH,onGoal→Cv,onStart→Gr,onWord→sX,readLetters→G2,readMove→G0,readRest→ts,readSystem→xw,readWord→ku,rowsBelow→pf,runFrom→gk,small→fe,solveFrom→GB,start→BR,step→oq,stepAt→wW,stepBy→zo,stepsOf→uZ,takes→cP,takesWord→lC,toInts→pb,toNats→d8,tokensIn→hV,tryStep→zt,turnOf→rD,turnsOf→ti,turnsStay→Mi,unlike→xv,wantSign→hX,wantWord→CY,weightOf→dv,wordRow→ng
open Vainve.Tok renaming sign→acq
open VainveNeutral renaming callOf→ajz,step→C1
namespace Wm
section
variable{G:Prop}{a b c d e g i j:Type}
theorem el0_2{A B:Prop}(h:A∧B)(k:A→B→G):G:=k h.1 h.2
theorem el0_3{A B C:Prop}(h:A∧B∧C)(k:A→B→C→G):G:=k h.1 h.2.1 h.2.2
theorem el0_4{A B C D:Prop}(h:A∧B∧C∧D)(k:A→B→C→D→G):G:=k h.1 h.2.1 h.2.2.1 h.2.2.2
theorem el0_5{A B C D E:Prop}(h:A∧B∧C∧D∧E)(k:A→B→C→D→E→G):G:=k h.1 h.2.1 h.2.2.1 h.2.2.2.1 h.2.2.2.2
theorem el0_6{A B C D E F:Prop}(h:A∧B∧C∧D∧E∧F)(k:A→B→C→D→E→F→G):G:=k h.1 h.2.1 h.2.2.1 h.2.2.2.1 h.2.2.2.2.1 h.2.2.2.2.2
theorem el1_1{A:a→Prop}(h:∃ x,A x)(k:∀ x,A x→G):G:=h.elim fun x h=>k x h
theorem el1_2{A B:a→Prop}(h:∃ x,A x∧B x)(k:∀ x,A x→B x→G):G:=h.elim fun x h=>k x h.1 h.2
theorem el1_3{A B C:a→Prop}(h:∃ x,A x∧B x∧C x)(k:∀ x,A x→B x→C x→G):G:=h.elim fun x h=>k x h.1 h.2.1 h.2.2
theorem el1_4{A B C D:a→Prop}(h:∃ x,A x∧B x∧C x∧D x)(k:∀ x,A x→B x→C x→D x→G):G:=h.elim fun x h=>k x h.1 h.2.1 h.2.2.1 h.2.2.2
theorem el1_5{A B C D E:a→Prop}(h:∃ x,A x∧B x∧C x∧D x∧E x)(k:∀ x,A x→B x→C x→D x→E x→G):G:=h.elim fun x h=>k x h.1 h.2.1 h.2.2.1 h.2.2.2.1 h.2.2.2.2
theorem el2_1{A:a→b→Prop}(h:∃ x y,A x y)(k:∀ x y,A x y→G):G:=h.elim fun x h=>h.elim fun y h=>k x y h
theorem el2_2{A B:a→b→Prop}(h:∃ x y,A x y∧B x y)(k:∀ x y,A x y→B x y→G):G:=h.elim fun x h=>h.elim fun y h=>k x y h.1 h.2
theorem el2_3{A B C:a→b→Prop}(h:∃ x y,A x y∧B x y∧C x y)(k:∀ x y,A x y→B x y→C x y→G):G:=h.elim fun x h=>h.elim fun y h=>k x y h.1 h.2.1 h.2.2
theorem el2_4{A B C D:a→b→Prop}(h:∃ x y,A x y∧B x y∧C x y∧D x y)(k:∀ x y,A x y→B x y→C x y→D x y→G):G:=h.elim fun x h=>h.elim fun y h=>k x y h.1 h.2.1 h.2.2.1 h.2.2.2
theorem el2_5{A B C D E:a→b→Prop}(h:∃ x y,A x y∧B x y∧C x y∧D x y∧E x y)(k:∀ x y,A x y→B x y→C x y→D x y→E x y→G):G:=h.elim fun x h=>h.elim fun y h=>k x y h.1 h.2.1 h.2.2.1 h.2.2.2.1 h.2.2.2.2
theorem el2_6{A B C D E F:a→b→Prop}(h:∃ x y,A x y∧B x y∧C x y∧D x y∧E x y∧F x y)(k:∀ x y,A x y→B x y→C x y→D x y→E x y→F x y→G):G:=h.elim fun x h=>h.elim fun y h=>k x y h.1 h.2.1 h.2.2.1 h.2.2.2.1 h.2.2.2.2.1 h.2.2.2.2.2
theorem el2_7{A B C D E F H:a→b→Prop}(h:∃ x y,A x y∧B x y∧C x y∧D x y∧E x y∧F x y∧H x y)(k:∀ x y,A x y→B x y→C x y→D x y→E x y→F x y→H x y→G):G:=h.elim fun x h=>h.elim fun y h=>k x y h.1 h.2.1 h.2.2.1 h.2.2.2.1 h.2.2.2.2.1 h.2.2.2.2.2.1 h.2.2.2.2.2.2
theorem el3_1{A:a→b→c→Prop}(h:∃ x y z,A x y z)(k:∀ x y z,A x y z→G):G:=h.elim fun x h=>h.elim fun y h=>h.elim fun z h=>k x y z h
theorem el3_2{A B:a→b→c→Prop}(h:∃ x y z,A x y z∧B x y z)(k:∀ x y z,A x y z→B x y z→G):G:=h.elim fun x h=>h.elim fun y h=>h.elim fun z h=>k x y z h.1 h.2
theorem el3_3{A B C:a→b→c→Prop}(h:∃ x y z,A x y z∧B x y z∧C x y z)(k:∀ x y z,A x y z→B x y z→C x y z→G):G:=h.elim fun x h=>h.elim fun y h=>h.elim fun z h=>k x y z h.1 h.2.1 h.2.2
theorem el3_4{A B C D:a→b→c→Prop}(h:∃ x y z,A x y z∧B x y z∧C x y z∧D x y z)(k:∀ x y z,A x y z→B x y z→C x y z→D x y z→G):G:=h.elim fun x h=>h.elim fun y h=>h.elim fun z h=>k x y z h.1 h.2.1 h.2.2.1 h.2.2.2
theorem el3_5{A B C D E:a→b→c→Prop}(h:∃ x y z,A x y z∧B x y z∧C x y z∧D x y z∧E x y z)(k:∀ x y z,A x y z→B x y z→C x y z→D x y z→E x y z→G):G:=h.elim fun x h=>h.elim fun y h=>h.elim fun z h=>k x y z h.1 h.2.1 h.2.2.1 h.2.2.2.1 h.2.2.2.2
theorem el3_6{A B C D E F:a→b→c→Prop}(h:∃ x y z,A x y z∧B x y z∧C x y z∧D x y z∧E x y z∧F x y z)(k:∀ x y z,A x y z→B x y z→C x y z→D x y z→E x y z→F x y z→G):G:=h.elim fun x h=>h.elim fun y h=>h.elim fun z h=>k x y z h.1 h.2.1 h.2.2.1 h.2.2.2.1 h.2.2.2.2.1 h.2.2.2.2.2
theorem el3_7{A B C D E F H:a→b→c→Prop}(h:∃ x y z,A x y z∧B x y z∧C x y z∧D x y z∧E x y z∧F x y z∧H x y z)(k:∀ x y z,A x y z→B x y z→C x y z→D x y z→E x y z→F x y z→H x y z→G):G:=h.elim fun x h=>h.elim fun y h=>h.elim fun z h=>k x y z h.1 h.2.1 h.2.2.1 h.2.2.2.1 h.2.2.2.2.1 h.2.2.2.2.2.1 h.2.2.2.2.2.2
theorem el4_2{A B:a→b→c→d→Prop}(h:∃ x y z u,A x y z u∧B x y z u)(k:∀ x y z u,A x y z u→B x y z u→G):G:=h.elim fun x h=>h.elim fun y h=>h.elim fun z h=>h.elim fun u h=>k x y z u h.1 h.2
theorem el4_3{A B C:a→b→c→d→Prop}(h:∃ x y z u,A x y z u∧B x y z u∧C x y z u)(k:∀ x y z u,A x y z u→B x y z u→C x y z u→G):G:=h.elim fun x h=>h.elim fun y h=>h.elim fun z h=>h.elim fun u h=>k x y z u h.1 h.2.1 h.2.2
theorem el4_4{A B C D:a→b→c→d→Prop}(h:∃ x y z u,A x y z u∧B x y z u∧C x y z u∧D x y z u)(k:∀ x y z u,A x y z u→B x y z u→C x y z u→D x y z u→G):G:=h.elim fun x h=>h.elim fun y h=>h.elim fun z h=>h.elim fun u h=>k x y z u h.1 h.2.1 h.2.2.1 h.2.2.2
theorem el4_5{A B C D E:a→b→c→d→Prop}(h:∃ x y z u,A x y z u∧B x y z u∧C x y z u∧D x y z u∧E x y z u)(k:∀ x y z u,A x y z u→B x y z u→C x y z u→D x y z u→E x y z u→G):G:=h.elim fun x h=>h.elim fun y h=>h.elim fun z h=>h.elim fun u h=>k x y z u h.1 h.2.1 h.2.2.1 h.2.2.2.1 h.2.2.2.2
theorem el4_6{A B C D E F:a→b→c→d→Prop}(h:∃ x y z u,A x y z u∧B x y z u∧C x y z u∧D x y z u∧E x y z u∧F x y z u)(k:∀ x y z u,A x y z u→B x y z u→C x y z u→D x y z u→E x y z u→F x y z u→G):G:=h.elim fun x h=>h.elim fun y h=>h.elim fun z h=>h.elim fun u h=>k x y z u h.1 h.2.1 h.2.2.1 h.2.2.2.1 h.2.2.2.2.1 h.2.2.2.2.2
theorem el4_8{A B C D E F H I:a→b→c→d→Prop}(h:∃ x y z u,A x y z u∧B x y z u∧C x y z u∧D x y z u∧E x y z u∧F x y z u∧H x y z u∧I x y z u)(k:∀ x y z u,A x y z u→B x y z u→C x y z u→D x y z u→E x y z u→F x y z u→H x y z u→I x y z u→G):G:=h.elim fun x h=>h.elim fun y h=>h.elim fun z h=>h.elim fun u h=>k x y z u h.1 h.2.1 h.2.2.1 h.2.2.2.1 h.2.2.2.2.1 h.2.2.2.2.2.1 h.2.2.2.2.2.2.1 h.2.2.2.2.2.2.2
theorem el5_9{A B C D E F H I J:a→b→c→d→e→Prop}(h:∃ x y z u v,A x y z u v∧B x y z u v∧C x y z u v∧D x y z u v∧E x y z u v∧F x y z u v∧H x y z u v∧I x y z u v∧J x y z u v)(k:∀ x y z u v,A x y z u v→B x y z u v→C x y z u v→D x y z u v→E x y z u v→F x y z u v→H x y z u v→I x y z u v→J x y z u v→G):G:=h.elim fun x h=>h.elim fun y h=>h.elim fun z h=>h.elim fun u h=>h.elim fun v h=>k x y z u v h.1 h.2.1 h.2.2.1 h.2.2.2.1 h.2.2.2.2.1 h.2.2.2.2.2.1 h.2.2.2.2.2.2.1 h.2.2.2.2.2.2.2.1 h.2.2.2.2.2.2.2.2
theorem el6_3{A B C:a→b→c→d→e→g→Prop}(h:∃ x y z u v w,A x y z u v w∧B x y z u v w∧C x y z u v w)(k:∀ x y z u v w,A x y z u v w→B x y z u v w→C x y z u v w→G):G:=h.elim fun x h=>h.elim fun y h=>h.elim fun z h=>h.elim fun u h=>h.elim fun v h=>h.elim fun w h=>k x y z u v w h.1 h.2.1 h.2.2
theorem el6_6{A B C D E F:a→b→c→d→e→g→Prop}(h:∃ x y z u v w,A x y z u v w∧B x y z u v w∧C x y z u v w∧D x y z u v w∧E x y z u v w∧F x y z u v w)(k:∀ x y z u v w,A x y z u v w→B x y z u v w→C x y z u v w→D x y z u v w→E x y z u v w→F x y z u v w→G):G:=h.elim fun x h=>h.elim fun y h=>h.elim fun z h=>h.elim fun u h=>h.elim fun v h=>h.elim fun w h=>k x y z u v w h.1 h.2.1 h.2.2.1 h.2.2.2.1 h.2.2.2.2.1 h.2.2.2.2.2
theorem el6_7{A B C D E F H:a→b→c→d→e→g→Prop}(h:∃ x y z u v w,A x y z u v w∧B x y z u v w∧C x y z u v w∧D x y z u v w∧E x y z u v w∧F x y z u v w∧H x y z u v w)(k:∀ x y z u v w,A x y z u v w→B x y z u v w→C x y z u v w→D x y z u v w→E x y z u v w→F x y z u v w→H x y z u v w→G):G:=h.elim fun x h=>h.elim fun y h=>h.elim fun z h=>h.elim fun u h=>h.elim fun v h=>h.elim fun w h=>k x y z u v w h.1 h.2.1 h.2.2.1 h.2.2.2.1 h.2.2.2.2.1 h.2.2.2.2.2.1 h.2.2.2.2.2.2
theorem el7_4{A B C D:a→b→c→d→e→g→i→Prop}(h:∃ x y z u v w s,A x y z u v w s∧B x y z u v w s∧C x y z u v w s∧D x y z u v w s)(k:∀ x y z u v w s,A x y z u v w s→B x y z u v w s→C x y z u v w s→D x y z u v w s→G):G:=h.elim fun x h=>h.elim fun y h=>h.elim fun z h=>h.elim fun u h=>h.elim fun v h=>h.elim fun w h=>h.elim fun s h=>k x y z u v w s h.1 h.2.1 h.2.2.1 h.2.2.2
theorem el7_5{A B C D E:a→b→c→d→e→g→i→Prop}(h:∃ x y z u v w s,A x y z u v w s∧B x y z u v w s∧C x y z u v w s∧D x y z u v w s∧E x y z u v w s)(k:∀ x y z u v w s,A x y z u v w s→B x y z u v w s→C x y z u v w s→D x y z u v w s→E x y z u v w s→G):G:=h.elim fun x h=>h.elim fun y h=>h.elim fun z h=>h.elim fun u h=>h.elim fun v h=>h.elim fun w h=>h.elim fun s h=>k x y z u v w s h.1 h.2.1 h.2.2.1 h.2.2.2.1 h.2.2.2.2
end
open Lean in
local macro_rules
 | `(tactic| obtain ⟨$ps,*⟩:=$e)=>do
  let ps:=ps.getElems
  let n:=ps.size
  if n < 2 || n > 14 then Macro.throwUnsupported
  let rs←ps.mapM fun p=>do let q←`(rcasesPat| ($p:rcasesPatLo)); `(rintroPat| $q:rcasesPat)
  let mut alts : Array (TSyntax ``Lean.Parser.Tactic.tacticSeq):=#[]
  for m in [1:min n 10 + 1] do
   let k:=n - m
   if k ≤ 8 then
    let l:=mkIdent (Name.mkSimple s!"el{k}_{m}")
    alts:=alts.push (← if e.raw.isIdent then (let i : Ident:=⟨e.raw⟩; `(tacticSeq| refine $l $e ?_; (try clear $i:ident); rintro $rs*)) else `(tacticSeq| refine $l $e ?_; rintro $rs*))
  let last←`(tacticSeq| rcases $e:term with ⟨$ps,*⟩)
  `(tactic| first $[| $(alts.push last)]*)
 | `(tactic| rintro $ps*)=>do
  let isT (p : Syntax) : Bool:=p.isOfKind ``Lean.Parser.Tactic.rintroPat.one && p[0].isOfKind ``Lean.Parser.Tactic.rcasesPat.tuple && p[0][1].getNumArgs ≥ 3
  if !(ps.any fun p=>isT p) then Macro.throwUnsupported
  let mut ts : Array (TSyntax `tactic):=#[]
  for p in ps do
   if isT p then
    let q : TSyntax `rcasesPat:=⟨p.raw[0]⟩
    let h:=mkIdent `hOb
    ts:=ts.push (← `(tactic| intro $h:ident))
    ts:=ts.push (← `(tactic| obtain $q:rcasesPat:=$h:ident))
   else ts:=ts.push (← `(tactic| rintro $p))
  `(tactic| ($[$ts]*))
section
open Lean
def tabI(s:Syntax)(t:Bool):Option Nat:=
 let f(c:Char):=c.toNat-48
 match (match s with|.node _ `num #[.atom _ v]=>v|.ident _ _ (.str .anonymous v) _=>if v.utf8ByteSize=3 then v else ""|_=>"").toList with
 |[a,b]=>if a.isDigit&&b.isDigit&&t then some (f a*10+f b) else none
 |[a,b,c]=>if b.isDigit&&c.isDigit then let v:=f b*10+f c;if t then if a='0' then some (1000+v) else if a.isDigit then some (f a*100+v) else if a.isLower then some (1100+(a.toNat-97)*100+v) else none else if a.isUpper then some ((a.toNat-65)*100+v) else none else none
 |_=>none
def tabH(n:Name):Option Nat:=[`Z5,`Z6,`Z7,`Z8,`Z9,`Z_].idxOf? n
def tabC:Nat→Array Name→Syntax→Array Name
 |n+1,z,.node _ k a=>a.foldl (tabC n) (if z.contains k then z else z.push k)
 |_,z,_=>z
def tabE(z:Array Name):Nat→Syntax→String
 |n+1,.node _ k a=>String.ofList ['(',Char.ofNat (48+z.idxOf k),Char.ofNat (48+a.size)]++""++String.join (a.toList.map (tabE z n))
 |_,.atom _ v=>"a"++v++""
 |_,.ident _ _ v _=>(match tabH v with|some i=>"h"++toString i|_=>"i"++v.toString)++""
 |_,_=>""
def tabP:List (Name×Nat×Array Syntax)→Syntax→List (Name×Nat×Array Syntax)
 |(k,n+1,a)::z,s=>if n=0 then tabP z (.node .none k (a.push s)) else (k,n,a.push s)::z
 |z,_=>z
def tabD(ks:List String)(s:String)(as:Array Syntax):Syntax:=match (s.splitOn "").foldl (fun z t=>match t.toList with
 |['(',k,n]=>let k:=(ks.getD (k.toNat-48) "").toName;let n:=n.toNat-48;if n=0 then tabP z (.node .none k #[]) else (k,n,#[])::z
 |'a'::v=>tabP z (.atom .none (String.ofList v))
 |'i'::v=>tabP z (mkIdent (String.ofList v).toName).raw
 |['h',v]=>tabP z (as.getD (v.toNat-48) .missing)
 |_=>z) [(`x,9,(#[]:Array Syntax))] with|(_,_,a)::_=>a.getD 0 .missing|_=>.missing
local macro_rules(kind:=Lean.Parser.Term.app)
 |s=>if s[0].getId==`tabQ then
   let x:=s[1][0]
   let y:=if x.isOfKind ``Lean.Parser.Term.anonymousCtor then x[1].getSepArgs else x[1][1][0][0].getSepArgs.map fun y=>y[1][0][0][0]
   let z:=y.foldl (tabC 999) #[]
   return Syntax.mkStrLit ("\x02".intercalate ("\x01".intercalate (z.toList.map (·.toString))::y.toList.map (tabE z 999)))
  else Macro.throwUnsupported
def tabT0:=tabQ ⟨none,true,base,by lia,Prop,by decide+kernel,List Nat,pins,List ae,false,List Int,(Z5).length,_,if Z5 then Z6 else Z7,by decide,(Z5:Int),fun z=>Z5,rows,s.heap.objs.size,by simp,M.cl,if_pos Z5,aq.mono 14,if_neg Z5,aQ X 07 σ H s,some o,bh s,List ag,s.heap,decide Z5,List 06,b3 Z5 Z6 (br Z7)⟩
def tabT1:=tabQ ⟨aJ.of Z5,ao.cD Z5 (fun D=>Z6),upd Z5 Z6 (.lst Z7),(Z5).trans Z6,"system",s.letters.length,.ref a,13 (Z5=01) Z6 Z7,List α,35 (aE Z5) Z6,scope,some x,15 n,J 2,some (.ref Z5),bE 61 X.w,.int (Z5:Int),480 H,[36],c3 s,15 (Z5:Nat),List aH,some v,X.env,some u,xs.length,fun q=>Z5,633 0,s.letters,X.prog,J 1,l.length⟩
def tabT2:=tabQ ⟨cL _,aM (bf Z5),by rfl,rest,X.dC,absurd Z5 Z6,aV rfl,some (48 Z5),fun x=>Z5,some c,qual,sy.letters,.str (aP Z5),aj (J Z5) (aj (J Z6) Z7),aj Z5 ay,247 (aT Z5),bJ.cl,sy.letters.length,15 k,s3 _ _ Z5,aY.at_,J 3,du.mp Z5,.none,show Z5 from Z6,.nil,aF (94 Z5 Z6) (aF Z7 Z8),outer,Z5→04,241 ae,bL (i:=Z5) 242 rfl 70 Z6,292 v⟩
def tabT3:=tabQ ⟨x.length,width,cU (i:=Z5) 242 Z6 Z7,List 10,fun e=>Z5,21 rfl,decide_eq_true Z5,s4 _ _ Z5,121 h,dm e,s2 _ _ Z5,23 14,show Z5=Z6 from rfl,congrArg Z5 Z6,aE (bT Z5 Z6),gg _ rfl,cJ.mp Z5,decide_eq_false Z5,21 h,l[i]?,422 au,110 e Z5,21 03,⟨rfl,Z5⟩,by simpa using aa,of_decide_eq_true Z5,cA hi,⟨_,rfl,Z5⟩,23 03,23 h,404 (cA Z5),h Z5 237⟩
def tabT4:=tabQ ⟨⟨.bN Z5,Z6,Z7,rfl,Z8⟩,567 (cI Z5),dY _ e,fun y=>Z5,113 e,113 03,23 aS,108 (26).letters 60,23 (16 Z5),109 my Z5,35 (kJ Z5 Z6) Z7,102 z,hH 03,ko _,23 19,184 Z5 Z6 rfl,23 b53,102 03,23 ak,112 aq,23 e,119 rfl,113 (16 Z5),69 Z5 19,16 (d35 Z5),23 af,g4.mp au,21 e,11 Z5≤12,by unfold iE;simp only[e2];rfl,forall_congr' Z5,(oi.mp Z5).1⟩
def tabT5:=tabQ ⟨21 aa,ly.mpr ⟨Z5,Z6,Z7⟩,567 (om Z5 Z6),xt _,cX (tR Z5 Z6) ?_,o75 (cA Z5),w1 03,102 rfl,21 aS,21 af,aE (16 Z5),112 ai,.inl k,Option.some.inj Z5,113 (58 Z5),201 _,Ee 03,sv 03,23 aa,21 ak,f Z5 03 03,(186).Au,21 q,this.1,cJ.mpr ⟨Z5,Z6,Z7⟩,23 566,rel.val k,hH b46,102 h,Jw Z5 (by injection Z6),102 e,a01 z⟩
def tabT6:=tabQ ⟨I.ok.mod.qz Z5 Z6 e5,cA 03,wY (425 Z5),Ft.mpr 522,23 mX,23 ax,21 ar,23 ar,21 ax,beq_self_eq_true Z5,by ac_rfl,not_congr Z5,show 11 Z5=672 from oI,23 (by rw[tZ];decide),23 (by rw[aa];decide),E5 (s:=Z5) (r0:=Z6) (by rw[J4,aL]) Z7,23 (by rw[h];decide),hH f55,121 cM,113 iN,21 (r.b.trans Z5),21 19,show 11 Z5=b38 from lN,lz (fun k _=>Z5),eq_false_of_ne_true Z5,wpAny_assign_Name Z5,w.length,h'.get? b,d7 ah Z5 (.int Z6),(Z5).take Z6,t.length,404 (32 Z5)⟩
def tabT7:=tabQ ⟨List (ag×Obj),List Str,"place",s1.heap.objs.size,R.dx,d_ _,r.length,z.toNat,bE prog w,s.toks,name,"word",.ref C,dO ..,cC Z5 (.ref Z6) Z7,aF Z5 (65 Z6),Nat→Z5,Option Z5,S.az,"row",H' b,fi K C Z5,this,some (.lst Z5),46 a,15 i,ao.bi Z5,[352],J 0,.inl rfl,[38],_≤1000⟩
def tabT8:=tabQ ⟨"second","first",aj Z5 (78 Z6),247 (a_ Z5),.int i,Str→631,fun σ H Q=>Z5,367 ?_,upd Z5 Z6 (.ins Z7 dx Z8),gL ao,cP 17 Z5 Z6,dK CM CS H a sy,gw K CS,gj sy,some y,(Z5).toNat,Type,805 Z5 (Z6:Str),I.bB,a0.toArray,fun x ai=>Z5,.ref 18,454 (.int Z5 Z6),I.tok _,.ref p,.ref b,404 rfl,ao.bn Z5,ls.length,fun m=>Z5,f46 (Z5),some (46 Z5)⟩
def tabT9:=tabQ ⟨18+1,bE P w,fun _=>Z5,fun x H1=>Z5,cd 60 Z5,964 (.lst Z5) Z6,some (.tup Z5),hk (N:=Z5) (sc:=br Z6) 05,384 1,wipe σ vs,(681 (Z5<1000)),gh P w ck,∀b o,Z5→Z6,aY.lst,q.words.length,s.moves.length,"letters",R.lc,.inl (32 Z5),241 Int,ef 09 Z5,a14 i,cW _ _ Z5,0x23,fun h=>Z5,"move",ns.length,0x12c,dN.cl,as.map 502,bX Z5 (65 (cN Z6)) b2,h.get? b⟩
def tabT10:=tabQ ⟨15 (11 Z5),h.get? a,34 Z5 Z6 (a_ Z7),724 aH,821 ae,as[i]?,some 00,J 4,⟨Z5,?_⟩,.inl ⟨rfl,_,32 Z5⟩,fun q aw=>Z5,(Z5).bind Z6,808 s2,276 ?_,upd Z5 Z6 (.lst Z7) Z8,41 (bT Z5 Z6) Z7,List (Nat×10),15 c,895 2,eW K rfl Z5,d37 Z5 0,X.base,314-222,fH (bA Z5) Z6,.ref z,cx ?_,586 b,iF ah,hl K rfl Z5 (290 rfl),[38,Z5],fun b aa=>Z5,fun b o e=>Z5⟩
def tabT11:=tabQ ⟨"self",bI.length,R.lw,eB Z5 Z6 b53,312 ?_,i3 ao,633 1,eb 356 356,some b,Pv (i+1),e4.mp Z5,l.map Z5,by rw[Z5];exact Z6,"number","pairs",fun p au=>Z5,R.b1,f46 i9,cd ls Z5,895 1,.int 0,331 Z5 _,300 (Z5=25) Z6,eR m x,0x2e,0x10,kvs.length,(·.1),"zip","numbers",(Z5).find? Z6,cs.length⟩
def tabT12:=tabQ ⟨aj (J Z5) ay,35 (eX.2 Z5 Z6) Z7,.cons Z5 89,⟨895 Z5,367 Z6⟩,upd Z5 Z6 (.tup Z7),517 (94 Z5 Z6) Z7 Z8,fP sy,(09,689),370 w,879 Z5=some Z6,X.calm=01,gJ I q 19,"action",h.objs.size,m.left,.builtin Z5,fun p=>Z5,.type Z5,0x40,m.next.length,⟨_,Z5⟩,cE Z5 55,dc Z5 55,(bz Z5).map Z6,I.ok.hd ar,546 bq,List (cF×ae),Nat×hr,435 p,15 0,jS (fg P w),some z⟩
def tabT13:=tabQ ⟨H' p,0xd8,ao.ht Z5,0x24,0x5e,"__init__",aA.upd Z5,q.2.2,(Z5).objs.size,fun i=>Z5,ae.int Z5,m.right,"width",fun r=>Z5,R.lo,z.length,∀b∈df,Z5,[36,731],aF Z5 (aM Z6),515 Z5 H',fun D cO=>?_,bj Z5 22 bb (77 Z6 Z7 (384 Z8)),.ref x,List dn,e6 (g9 K rfl) Z5 Z6 630,xs[i]?,221 Z5 i,ki ah,46 p,⟨_,Z5,rfl⟩,827 Z5 H,some r⟩
def tabT14:=tabQ ⟨dX.of Z5,q.2.1,fun k=>Z5,e3.cl,fun w=>Z5,q.counts,some (some Z5),fE 37 Z5,Z5→92 aZ,292 086,330 ?_,406 aR,76 x,292 w,77 Z5 Z6 ay,J 5,aJ K H a xs,685 y,685 v,some bC,j7 c,0x3e,0x3b,as.length,bJ.moves,(Z5).drop Z6,X.env.locals,fun D σ H=>Z5,R.dp,scope.names,cX Z5 14,bs.map 502⟩
def tabT15:=tabQ ⟨aA Z5 H',.Attribute o Z5 Z6,Z5→571,some (.ins Z5 dx Z6),[313,235],fun af=>?_,fun aa=>?_,kP ao,31 Z5 50 Z6,.int z,456 aH,gO 17 i,some .local,some .cell,some 460,(p,k),jI cs Z5,hK X 07 σ Q,z.2.1,h.az,"list",by simp at h,ae.ref,A.in1,.fields Z5,fun i σ H'=>Z5,"moves",fun b=>Z5,X.ah,free,"range",whole⟩
def tabT16:=tabQ ⟨fun b aa o e=>Z5,(by intro fQ z;cases z),{cls:=401 Z5,data:=Z6},Q (.ref Z5) Z6,ae.str (aP Z5),aF Z5 (aF Z6 (65 Z7)),881 H,622 s1,pure 00,34 Z5 Z6 (aT Z7),16 ?_,List β,List (e8×ae),290 rfl,247 xs,Nat×10,221 Z5 j,gN sy,bF X e c7,46 t,29 (Z5=0),some a,0x18,0x61,"dict",fun b o aa e=>Z5,{s with heap:=h'},∀q∈Z5,Z6,"rows",(Z5).flatten,a.left.length,s'.heap⟩
def tabT17:=tabQ ⟨last,(Z5).isNone,Z5→92 av,35 (35 Z5 Z6) Z7,bV "letters ",[36,886],221 (884 Z5) Z6,[36,235],bj Z5 22 bb (aj (J Z6) (78 Z7)),41 (355 Z5 Z6) Z7,(k2 Z5 Z6).step Z7,29 (Z5≤Z6),cN ay,fS 252 Z5 rfl,h.get? Z5=25,.ref l,Pv i σ H,f_ bI p,l2 s ws,fun g=>Z5,by have:=Z5;lia,∀r∈Z5,Z6,by simpa using e,(Z5).symm,hlen,ed.mp Z5,x.cps.size,Bool,h.lst,"weights","words",fun c=>Z5⟩
def tabT18:=tabQ ⟨"text","tokens",fun a b=>Z5,I.bare,m.l.length,s.heap.push Z5,(Z5).filter Z6,15 96,sy.moves.map iK,[36,623],879 Z5=25,aD.map 502,[36,623,540],[36,"call",k70],.ref f,29 (Z5=Z6)=09,456 Unit,293 (a_ Z5) Z6,cc Z5 us,A.handled=00,List Env,dK CM CS H a 26,("__debug__":Str),546 Nat,dJ (bz Z5) Z6,some (.int Z5),.ref d,gE kvs vs,some i,HT.eQ 431 0 lo,hF ls as,11 (c5 x)⟩
def tabT19:=tabQ ⟨820 k,11 (f_ bI p),71 n,820 c,⟨Z5,rfl⟩,I.bB Z5 _ Z6,some (Z5,t),dv ws Z5,39 Z5 _ _,Pv i H,fun i hi=>Z5,fun i h=>Z5,{s with heap:=h',toks:=tk},{s with heap:=Z5},cg.same Z5,"points",.error Z5,True,ep.heap,∀b u,Z5,X.env.scope,names,k59 rfl,241 aH,d34 x,bt K rfl (J Z5) rfl,b57 502,15 218,by show Z5≤Z6;lia,av→92 Z5,iR.map hT,241 ag⟩
def tabT20:=tabQ ⟨bV 243,.own x,fun ak=>?_,c_.getD Z5 0,⟨Z5,[]⟩,(l22 Z5),633 2,240 409,l.take i,15 z.1,821 ag,594 xs,546 ix,some (76 Z5),h.get? Z5=some Z6,.ref c,f5 Z5 X.A,406 (e::aR),757 a,687 H,(m,i),hI ls 17 x Z5,Q (.int Z5) H,hV 511 k Z5,515 p Z5,0x2d,by kernel_rfl,rows.length,(Z5).Nodup,∀i∈v,Z5,m.last,(Z5).flatMap Z6⟩
def tabT21:=tabQ ⟨b8.left.length,sy.goal,h.at_,ys.length,X.stack,value,I.list Z5,s3.heap.objs.size,X.bl,by show Z5;decide,m.next.getD Z5 [],k30 (32 Z5),081 64,RelV Z5 u,b50 s3,D.cz σ Z5,(Z5).map (429 Z6),405 e,407 Z5 (425 Z6),aD.drop 1,y.2.getD Z5 0,bV "end",cY 60 cB,x.2.getD Z5 0,34 H1 D [],[235],fun t bk=>?_,384 2,List ez,247 acc,505 (∃v:93,Z5),jh jF⟩
def tabT22:=tabQ ⟨kp ls,lx sy,.int i t,f07<bc,96≤12,wipe c6 vs,722 Z5=some Z6,some (.ins C Z5 Z6),e_ eL rfl (339 Z5) (98 Z6 rfl 70) (aM (bX Z7 (65 Z8) b2)),α→92 β,aP x,⟨Z5,Z6,rfl⟩,79 r,(75++896),[280],RelV x v,fJ m p x,0x178,K.lookup Z5,"Fault",Array Z5,fun r aq=>Z5,"found",bJ.letters,fun vs H1=>Z5,∀c o,Z5,"reached","length",q.dV,a.length,v.length,l.drop Z5⟩
def tabT23:=tabQ ⟨(Z5).isSome,fun o=>Z5,"token",False,(by subst cj;exact Z5),I.free,"column",(Z5).natAbs,ps.length,0x12d,rest.length,g.getD Z5 0,401 809,∀(a:ag)(sy:cv),Z5→Z6,J.getD Z5 0,h_ 887,.cons (404 Z5) Z6,[36,257,256],k74 i,78 bu,List cF,bF X Z5 bW,.str (aP Z5) Z6,Z5≤57,.ref it,upd (upd H Z5 Z6) Z7 Z8,29 (15 Z5=Z6),b6 (bz k),k38 ?_,.str x,qj ao,gb r⟩
def tabT24:=tabQ ⟨.ref e,48 z.1,⟨Z5,.int Z6 Z7,Z8⟩,p.getD Z5 0,ef 01 Z5,350 ?_,[576,226],rows[i]?,A.units+Z5,c07 f66,cP (dy 37 n l) v 0,some .free,(ee s ws v).1,o.cls=Z5,(Z5).get? b,781 236,.ref t,.int Z5 u,aA H dM,bV s,js ws w,16 (Z5),kN sy,mu ls aD,i52 i,750 c,some m,⟨h,g,d,t,os⟩,some q,h1 X x,009 o Z5,.ins C dx Z5⟩
def tabT25:=tabQ ⟨(Z5).stop i H,dv r v,gZ Z5 H H',0xed,0x11,(Z5).lookup Z6,(by cases h),fun n=>Z5,s1.trans Z5,"tuple",(Z5).toArray,q▸aa,∀b bC,Z5,wf.az,x.take Z5,e3.left,"behind",ae.b4,"sign",iter,r.getD Z5 0,List (Str×Z5),964 (.tup Z5) Z6,match hy Z5 Z6 with|none=>Z7|some v=>Z8,109 (16 Z5) Z6,514 Z5 (504 Z6),gY b46,Q (.bN Z5) Z6,808 116,cB.left.drop (Z5+Z6),h83 dj,241 Obj⟩
def tabT26:=tabQ ⟨.BoolOp Z5 Z6 pos,422 cO,581 (514 536 p58),l.getD Z5 0,355 674 Z5,i4 Z5 (425 Z6),515 Z5 (34 Z6 Z7 Z8),⟨.ref Z5,Z6,Z7,rfl,Z8⟩,624 y,[576],∀H',49→Z5,633 3,br st,f88 917,384 3,842 910,List m9,fun r c1=>?_,276 (h x d82),X.N[i]?,682 q,cY 60 m,483 C bl,370 v,92 av,[419],.str x t,.int j,[420],b::67,41 Z5 aI,gv j3 20 22 ha 252⟩
def tabT27:=tabQ ⟨15 p,! 29 (820 i=0),i<284,some d,J 6,e5 c,lj n 17,287 f,46 d,230=n,46 q,b65 Z5 ?_,qU rfl rfl rfl rfl,fun j H'=>Z5,fun o e=>Z5,s.heap.get? Z5,bJ.start,aA.refl Z5,ae.ref Z5,"goods",x.drop Z5,fun i H'=>Z5,"codes",q.words,"search",fun v=>Z5,bs.length,fun y aB=>Z5,us.length,"enumerate",∀x c,Z5,(681 (Z5≤bc))⟩
def tabT28:=tabQ ⟨bV ";\n",n*37,k59 739,722 a,.e0 kvs,401 500,292 b36,351 (dY Z5 Z6),f22 au,fE 284 Z5,eF i02,241 l63,ps.zip us,582 (bz Z5) Z6,Q .b4 H',pure 09,241 06,.eT Z5 (.lst Z6),747 (cP (dy 37 n l) Z5 Z6),567 (bT Z5 Z6),644 us,Nat×Nat,.ref i1,294 (a_ Z5),.cons Z5 ih,some (15 Z5),∀{l:40},Z5,d4 _ aC,fun b o z=>?_,f46 (98 Z5 rfl 70),bj Z5 22 bb (aj Z6 Z7),925 3⟩
def tabT29:=tabQ ⟨08→637 aW,15 767,cY ls m,.str z,405 o,[313,226,235],09=01,ae→637 aW,482 α,48 pl,[376],env::91,h'.get? Z5=some Z6,hf b aa,.int 1,13 Z5 (some Z6) 00,bz k,bF X Z5 tb,h4 X.K Z5,15 w,⟨dD,Z5⟩,f69 (Z5×ei),met f i,⟨_,rfl,?_⟩,58 (d35 q),bL (i:=Z5) 242 rfl (en rfl) Z6,km sy z,fJ m pl x,dX K H a xs,b81 c,15 (743 (ik q)),46 c⟩
def tabT30:=tabQ ⟨298 1,0x1a5,mainGlobals,beq_eq_false_iff_ne.mpr Z5,aA.upd (o:=Z5) Z6,pl.isList,items,by simpa using h,"keys",bJ.goal,by rw[Z5],O.range,s.moves,fun l=>Z5,"pair","reversed",ns.drop Z5,z.two,z.one,0x384,m.first,hit.typeIs,s.heap.update Z5 Z6,dN.row,"start",t.drop Z5,x.natAbs,fun i H=>Z5,bY Z5 (fun us s1⟨vs,H1,aX,bU,bg⟩=>Z6),401 "Exception",514 500 Z5,g8.cells.lookup y⟩
def tabT31:=tabQ ⟨ps.map 502,row.map (72 Z5),fun eU=>aa (by simp[eU]),399 id,b.left.drop o,w.drop p,iL.map (16 Z5),ed.mpr 70,d10 f,⟨#[Z5]⟩,401 380,f25 _,.bool 09,ed.mpr (en Z5),bV b51,(ao.lq Z5).cl,990 l61,some (.eT Z5 Z6),78 59,292 a05,bI.drop p,(09,405 Z5),(i29 Z5).getD Z6 Z7,[d09],582 Z5 eZ,d6 jY 66 O.len eJ (78 59),434 (94 Z5 Z6) Z7,f61 (gD n 37 Z5 Z6),bI.drop (Z5+Z6),kk d43 d12,882 a,WellAll Z5 h Z6 Z7⟩
def tabT32:=tabQ ⟨iE m,11 (bV Z5)=Z6,fK (bj Z5 22 ha Z6),HT.eQ 431 431 hi,List (756×ae),384 0,uP ao,aT b1,.word w,o5 st,d12=43,List (Nat×Nat),247 479,List o7,D.ud Z5 l60 l59,aT ns,some k,[419,376,470,420].contains Z5,k8 604 00 040 57,dJ cs n,cP (dy 37 n l) w 0,15 12,450 ?_,.ListComp elt Z5 42 pos,l49 (72 (x !=0xa)),HT.eQ n Z5 Z6,aQ X 07 σ H' s',580≤12,57≤bc,b≠474,Sem aH,K.In h⟩
def tabT33:=tabQ ⟨.str a,bz n,h.Ns1 dx dG,[470],hc ws m,ti k,∀(s:aZ)(H:av)(C:ag)(cl:821 ag)(df:27),Z5,aJ K H Z5 (aT ns),d6 jY 66 O.len eJ (78 Z5),wI 344 Z5,oB Z5 590,gm "$" Z5,ja kvs k,11 Z5≤bc,gm "." Z5,ao.uN Z5 Z6 0 (ao.lq Z7) (fun F=>Z8),⟨Z5,rfl,rfl,Z6⟩,cut w n l,(Z5:Z6).length,0x126,0x2a5,xs.map Z5,wf.ok,"state",by simpa using Z5,I.bB.fresh Z5,items.size,s.goal,v.left,fun y aC=>Z5,b8.left,a.left⟩
def tabT34:=tabQ ⟨"divisor",dN.place,"str",X.outer,I.loc,I.ok.kind,newId,"free",∀x∈r,Z5,∀q∈ps,Z5,sy.moves.length,"origins",by unfold gT;simp only[e2];rfl,eq_of_beq Z5,vs.length,fun σ H R=>Z5,fun i _=>Z5,z.2.2,r.drop Z5,X.iU.heap.objs.size,m.left.length,hU.1.2,q.nodes.length,tb {D with cz:=N,ek:=N,eO:=D.cz} Z5 Z6,h96 (jB Z5),d8 (884 Z5),.int (Z5:Nat),p23 y,o9 37 Z5,K i02,st.1.map (58 Z5),fun _ _ _=>739⟩
def tabT35:=tabQ ⟨own.map (·.2),[36,623,381],p55 x,(Z5).map 379,us.map 502,fun _ _ h=>h,.Subscript Z5 Z6 pos,fun a=>899,669 (Z5<37),[36,f15,381],I.base.free Z5 o Z6 Z7 Z8,vs.map mv,fun h' eG=>119 Z5,29 (426 Z5=426 Z6),ls.idxOf c,b6 bI,jR (aP Z5),426 (15 Z5),48 q.1,(ee s ws h62).1,(ee s ws h61).1,g4.mp hi,[738],29 (Z5∈Z6),by show Z5<Z6;lia,fun H1 fU b9=>?_,.ref i2,List 40,514 536 p58,318 Z5 (78 (dq Z6)),gv qe 20 22 bb 45,440 59 Z5⟩
def tabT36:=tabQ ⟨aT a35,gv rf 20 22 bb 45,kS (72 Z5) Z6,(Z5).any (807 (29 (44=Z6))),bF X (.Call (.Name Z5 p) Z6 [] pos) Z7,546 571,bj Z5 22 bb (258 Z6 Z7),aF Z5 (aF (557 Z6) Z7),gn 337,fun d9=>?_,cN (258 bu Z5),dG 234,.inl h,wL ao,uO ao,(Z5).findSome? Z6=00,ku 60 aD,c07 g13,f94 459,482 Nat,46 R.a,iA "",085 ?_,cG hm,aM (fK Z5),h.Ns Z5 fT,887++[x],gD n 37 i36 i39,.bN b,n*81,fun aL=>?_,some dx⟩
def tabT37:=tabQ ⟨.str (001 c),mE k 81,Q (76 Z5) Z6,m.r.length≤12,List (e8×aH),⟨Z5,819,ifs,Z6⟩,xj _,378≤bc,594 vs,294 xs,480 H1,46 bG,hM T,X.ah x,.ref q,b<18,ls.getD i 0,292 u,jH r,jM (ot 17) cm Z5,elim i 491,822 Z5 bR,cE Z5 env,hX ";" Z5,kh Z5 kvs xs,820 i,48 n,15 a,_,_,⟨_,111,rfl,rfl⟩,.seq Z5 n⟩
def tabT38:=tabQ ⟨_,vW K rfl,Prod.mk.inj Z5,PySem.Challenge.pw_wordmoves_s01_answers,0x1b9,0x1a4,"kind","__setattr__","group",z.symm,I.tuple Z5,by rw[Z5];rfl,di.same Z5,v.right,"set",ae.int,af.at_,zs.length,q.origins.length,fun z hz=>Z5,z.word,cB.right,cB.left.length,"given_word","by_second","by_first",b.left.length,y.length,∀r∈rows,Z5,"amounts",by simp;lia,a0.length⟩
def tabT39:=tabQ ⟨fN.same Z5,dN.sign,s2.trans Z5,"goal",.tuple Z5,(by intro z;cases z),I.len,s1.toks,"pivot_row",cs.map Z5,q.counts.length,by rw[Z5];exact q,fun o q=>Z5,σ.length,a0.toArray.size,e.levels,e.words,bY Z5 (fun v s1⟨x,H1,aX,bU,bg⟩=>Z6),l58 x,tb {D with cz:=Z5,ek:=Z6,eO:=D.cz} Z7 Z8,(806),b0.ib Z5 (o49 Z6),b59 (aE Z5),⟨Z5,03⟩,ys.map ae.str,582 Z5 (429 Z6),ns.map b31,bl.map 379,29 (516 Z5=516 Z6),581 vE,l39 q,892=744⟩
def tabT40:=tabQ ⟨s.moves[i],h'.get? Z5=25,a12 03,[36,540],ho.trans s3,[573,b45],(330 (by cases aw)),c98 s4,∀i∈u,Z5<667,f58 (Z5<284),∀u∈vs,vV Z5 Z6,(26).start,.Attribute e Z5 Z6,q75 ?_,cm.foldl iq Z5,(Z5).map (400 Z6),ao.ze Z5 Z6 Z7 (fun F=>Z8),622 ho,b26 aw,(26).goal,541 (iM Z5 Z6),514 809 (.seq Z5),624 e,557 62,514 809 l61,.gf kvs,[738,818],o.data=Z5,339 62,(Z5).map (·.2),∀c∈x,Z5∈Z6,fun e7 H1 s1=>?_⟩
def tabT41:=tabQ ⟨fun n p qa e=>?_,q.2.getD Z5 0,fun x H' y=>?_,407 Z5 (58 (835 Z6)),r.foldl (fun g n=>qm Z5 n.natAbs) Z6,ej.extBut Z5 _ Z6 Z7,ws.getD Z5 0,539 st.1 Z5,l46<1000,dJ 763 k80,aP i80,725 ?_,[428,o82],aG.extBut Z5 _ Z6 Z7,m04+m.r.length,29 (Z5<11 (eR Z6 Z7)),cN (78 Z5),hh (34 bP D (acc++Z5)),X.mK E,.ref I,fun T bR=>?_,f04 ?_,b76 (n7 Z5) Z6,aj Z5 (384 Z6),.sign u,ro st,lI 989 234,990 (.seq 275 n),258 (dq Z5) Z6,nm (343 Z5 Z6),.Name x pos,308 f71⟩
def tabT42:=tabQ ⟨454 (399 q86),fT 234,I.cell Z5 c Z6,List rk,List nu,cx (cx Z5),lZ ps,.ref T,⟨Z5,Z6,.func Z7,Z8⟩,some (.bN Z5),[396,235,"point"],[352,b22,226],374 319 Z5,g43 49 Z5,∀H',hh H'→∃eg,Z5,af.get? Z5=25,11 (Z5::f62),273 024 Z5,List (756×Z5),e6 (oJ K rfl) 45 bu 630,some (nR Z5 Z6),some 900,29 (i89=k),72 (x !=0xa),dJ cs i,z::67,{s with toks:=233+1},a36 x,a_ f,∀σ H,Z5→Z6,sg x,l.Nodup→Z5⟩
def tabT43:=tabQ ⟨bF X o to,lr X.K fd ps ds,aA H H1,List (cF×aH),483 C [],480 aB,821 pK,X.fn x,.int k,gm "^" aD,R.sz b,aP l,tt c6 aB (fun b a5=>39 Z5 (c7 c6 a5 (fun y bP=>∃acc,Z6)) (hh a5)),σ[i]?,some _,d6 (hO K rfl) 66 O.len eJ (78 59),xR rfl 971 Z5,0x1d5,"Exception.__new__",fun j=>Z5,gi.objs.size,"refusal_without_both",s3.trans Z5,by rw[Z5];decide,cH.lst,∃x y,Z5,fun i a r af ak=>Z5,aR.size,"word_from",j4.lst,q.origins,(Z5).words.length⟩
def tabT44:=tabQ ⟨fun b u e=>Z5,"calls",bl.lookup Z5,b.right,sy.start,b.length,e.symm,s.gens,"left",fun cb H'=>Z5,fun y H1=>Z5,I.cell,fun x aB=>Z5,nonempty Z5,M.words,q.levels,fun x xs H Q=>Z5,p.isList,fun i h st b aa=>Z5,k.toNat,∃u:b7,Z5,fun j bS=>Z5,s.moves.findIdx? Z5,l.findSome? Z5,gM.toNat,treeTable,X.env.cells.lookup Z5,h (102 Z5),j1 o58,bj Z5 22 bb (384 Z6),ns.map WData.int,35 332 Z5⟩
def tabT45:=tabQ ⟨l40 l36,by show 11 Z5≤Z6;rw[eA];exact Z7,d8 (814 Z5),bV 984,l18 i,121 ak,512 (aK.extBut Z5 Z6 Z7 Z8),aX.kept (t':=b55) Z5,match qq Z5 Z6 with|none=>Z7|some l=>Z8,bz 37,match Z5 with|none=>[Z6]|some z=>Z7,boot_heap i02,15 81,16 z.parent,b59 (110 Z5 Z6),h32 64,s.start.map l62,fun _ _ h'=>h',X.iU.heap.get? b,fun b o z aa=>41 Z5 Z6,s.goal.map l62,∀(i:Nat)(a:ag)(r:Z5),Z6→Z7,X.A.units+Z5,kvs.map 379,fun _ _ x=>x,HT.eQ 57 Z5 Z6,mtL.map (16 Z5),401 536,dj.mono sub,11 Z5=744,fw.map (72 Z5),.bool 01⟩
def tabT46:=tabQ ⟨109 some Z5,min 57 675,290 00,401 b30,32 301,∀(f:ag)(fd:k6),Z5→Z6,! xs.isEmpty,j0 X.env.cells 477 [],bI.drop r,fun a5 q jD fo oW aw=>?_,d4 _ ai,K.In 28,814 b0,.lst (32 Z5) Z6,382 Z5 (507 Z6),List WData,.ref 449,ae.bN (29 (Z5=Z6)),ms.take i,582 (407 Z5 (lo+·)) Z6,fun e s'=>R Z5 Z6,.Assign Z5 Z6 pos,.Tuple elts Z5 Z6,a23 390,.int 469,dY _ (dY _ Z5),814 i,.int 665,401 T,∀a∈A,AG Z5 Z6 Z7,581 (514 500 (.seq #[])),96≤979⟩
def tabT47:=tabQ ⟨.list d38,cY 60 b80,Z5+580≤96,312 (69 (102 Z5) Z6),∀vs H Q E,Z5→Z6,wH Z5 (h56 Z6),_,_,_,_,_,_,_,_,.Call (.Name 380 p) Z5 [] pos,d4 _ bS,B 02,cN 755,fk 105,nm i38,bX (bM fv (J Z5) bu (bO _)) (65 (340 Z6)) b2,upd H Z5 (.e0 Z6),434 Z5 (557 Z6),bj Z5 22 bb (78 Z6),292 a40,eb (312 Z5) Z6,378=a02,618 ?_,cp.extBut Z5 _ Z6 Z7,s1.heap.get? Z5=Z6,448 aI,318 (bM jX (J Z5) et (bO _)) (78 (dq Z6))⟩
def tabT48:=tabQ ⟨aj (J Z5) (78 Z6),292 a39,d62 402,ta.mp az,.ref D,292 (l67 Z5 Z6),32 aI,[f37],mj a78,882 b,286 (Ap Z5),76 95,fN (·=a) Z5 Z6,(Z5).app (386 Z6),c8 (387 1 (fin Z5 au Z6)),o.dict=00,fP 26,(ee s ws u).1,nm (bA i),481 Z5 pos',B_ ao,vX CM,vO bQ,a.getD Z5 0,(a17).In Z5,fm (j:=Z5) rfl,start N vs,921 p,kF ao,cG c1,16 (e Z5),fun ar=>?_⟩
def tabT49:=tabQ ⟨.inr rfl,some (.ins Z5 Z6 Z7),406 [aG],jf 97 (iG Z5) Z6,(Z5).map (575 (aP Z6)),d39 s3,478 ai,.gf (oZ Z5 Z6),vA Z5 (i31 Z6),Pv Z5 (34 bP D (acc++Z6)),⟨00,rfl,Z5,rfl⟩,96+1,rn 17 ea m,o.dict=a83,445 e,350 (941).1,240 Int,456 631,79 q.2,.ref iw,.str 234 tk,∀q∈l,Z5<Z6,gN 26,aT (b6 Z5),en rfl,Int→Int,331 (hX ";" m.2) _,222+1,m3 z 67,dJ (b6 (bz 4)) 81,rA sy,n26 Z5∧∀x H',Z6⟩
def tabT50:=tabQ ⟨294 [a38,38],s.start=54,fm (j:=0) rfl,"Fault.__init__",fun g a4=>Z5,aq.units,acc.toList,acc.length,fun i v=>Z5,af.objs.size,∀h' tk,Z5,rd.extBut,s.heap.IsList Z5 Z6,"told","refusal","states",fun j σ H'=>Z5,"taken_to","all_rows",by rw[fV];lia,by rw[e],"sorted",s1.free Z5,"origin",jc.lst,s.moves.map Z5,(Z5).l.length,b.left,fun d hd=>Z5,"weigh",by rw[EO,EP];kernel_rfl,n.toNat⟩
def tabT51:=tabQ ⟨"take","refuse",by rw[e];rfl,"right",∀c∈w,Z5,"byte",fun s3 el=>Z5,I.base,"BaseException.__getattribute__",fun _ s'=>Z5,g1.objs.size,st.1.length,l.filter Z5,"amount",fun _ _ _ _ _=>Z5,M.left,"codes_of","level_counts",r.args,Codec.encAll Z5 Z6,fun i h h' st k=>Z5,fun _ _ _ H _ I h=>Z5,∀y∈scope.names,Z5,by simpa using aS,by simpa using af,∃cb H',Z5,∀i∈w,Z5,x.level,fun b o _ _ ar e _=>Z5,s.moves.all (jr Z5),rest.takeWhile fe,by have af:=Z5;rw[dZ Z6,jo]at af;exact af⟩
def tabT52:=tabQ ⟨bY Z5 (fun u s2⟨y,aB,b5,cT,cf⟩=>Z6),aQ X 07 σ Z5 s22,504 vs,by rw[←aY.len];exact eI Z5,401 o61,Except oS Z5,aQ X 07 σ H 538,985 r,r.map kI,fun v(t:List Nat)=>∃b,Z5,(show Z5 from r),[36,k42],c2 (fun t(x:List Nat)=>Z5) Z6 Z7,sc.kind==.function,15 098,473 (b8.left.drop Z5) b38,p55 n,401 "function",st.2.find? (429 Z5),(Z5).lE Z6 (fun c r=>Z7) (fun c xs r=>Z8),15 303,ps.foldl (fun s q=>Z5) Z6,294 (q.2.1.map Z5),(as.map ae.ref)[i]?,241 (Nat×Z5),109 b31 Z5,363 379,I.laid (t':=Z5) Z6 64 Z7,∀(s:aZ)(us:53),Z5,l.takeWhile q,(hA pos Z5).any 379=09,a02=744⟩
def tabT53:=tabQ ⟨X.base.get? b,A.under (.builtin "type.__call__" Z5),[36,731,235],292 cB.left,250 0x25,_,fun b bC q=>dY Z5 Z6,fun _ q=>q,58 (D.hQ 811),l56 f,976 i,o21≤12,fun dU=>29 (dU.1=Z5),220 "NO_WORD" (-Z5),273 Z5 730,bs.getD Z5 09,[352,304],.dict aR c0,[738,36],kvs.any (g08 Z5),11 317,jk.upd (en (en Z5)),[396,506],l20 i,AY (u:=.lst Z5) (v:=Z6) Z7 Z8,k28 s5,A.deeper (qL Z5 Z6 18 Z7 Z8),884 b0,11 Z5=63,Z5≠"__name__",⟨bC.slots,Z5⟩,findIn Z5 (.ref Z6) Z7⟩
def tabT54:=tabQ ⟨g8.kindOf y,y.2=.free,rest.take 1,382 Z5 (fun aD=>Z6),sd (290 Z5),gb (r.take Z5),(show Z5 from bQ),238 "levels" Z5 Z6,382 Z5 (h56 Z6),16 (z.1==Z5),.int Z5 233,cH.same s3,100 (D.hQ (e▸D.hx)),l65 m05,d39 i42,∀H' p,Z5→Z6,32 (103 Z5),jN 105 h88,.e0 606,base.Ns Z5 ah,cX I.ok.qA Z5,s.foldl iq Z5,473 997 Z5,fun f s1 q=>?_,a0.toArray[Z5]?=Z6,⟨Z5,fun i H x H'=>Z6,Z7⟩,.machine Z5 x,34 H1 D 634,wf.cw Z5 (cG Z6),P.zip vs,.str (001 Z5) Z6,.ref TI⟩
def tabT55:=tabQ ⟨(Z5).map (72 Z6),fun b xs aa=>?_,(Z5).map (fun s=>Z6),{o with dict:=some 397},(Z5).map (16 Z6),List 571,r4 (h94 (.bN Z5)),p20 (k86 (825 "slice" Z5)),aK.extBut Z5 _ Z6 Z7,xO aR 55,(332).free c1,582 (407 Z5 (1+·)) Z6,jh z.2,aP m41,425 (001 (x.cps.getD Z5 Z6)),du.mpr rfl,w.take p,iy X (399 "len") Z5,bF X 677 Z5,wJ (290 Z5),ns.getD Z5 0,Except od Z5,fun t9 rL=>?_,b35 ?_,ps.foldl (fun w q=>i72 Z5) Z6,448 bk,List 08,fun cl jz=>?_,tD Z5 (some Z6) i10 55,fun c o z=>?_,fun H1 s1=>?_,C9 (348 Z5)⟩
def tabT56:=tabQ ⟨fun cM=>?_,fun a8=>?_,some m07,563 (747 0),g37 j,h'.update gK d36,925 2,nm (bA n),m6 ao,(j62).but Z5 Z6,jq aa,.ref bG,e78 rfl,885 (H'=34 Z5 D Z6),c8 (387 1 (one Z5 au Z6)),kc (679+1) 477 d79,l40 (gI z),925 5,_,_,_,_,_,_,_,_,ml ao,Eu rfl,fun v H'=>Z5,rl.args,"__getattr__","__getattribute__"⟩
def tabT57:=tabQ ⟨fun e he=>Z5,uL.lst,fun g h=>Z5,∀g∈cm,Z5,∀i σ H,Z5,fun(n:Nat)=>Z5,prs.length,"by_letter",aX.bB.fresh Z5,fun g1 nW aK=>Z5,.ellipsis,_,ur.at_,"machine",by rw[hn];exact Z5,z.2.length,fun l ax=>Z5,ms.length,"last","inner","first_parted_move",row.length,bR.lst,"all_turns",(by obtain⟨f,fd,a,b,c,d⟩:=h;exact Z5),"turns",h2.lst,ax.isList,"holder","take_row","take_number",by unfold nH;simp only[e2];rfl⟩
def tabT58:=tabQ ⟨fun ws=>Z5,fun aB s2=>Z5,"normal_word","hindrance_to_ends","counted_codes",z.right,z.left,fun c ar=>Z5,_,a.right,"standing_places",by unfold lk;simp only[e2];rfl,"letter",l.findIdx? Z5,∀q∈r,Z5,cT.lst,"difference","move_differences",l.find? Z5,(Z5).filterMap Z6,by simpa using bp,"list_reverseiterator",fun v s1=>Z5,by rw[JQ];kernel_rfl,fun b h=>Z5,"expect",s.drawn,b9.trans Z5,"at_end","at_beginning",X.N.length,I.ok.mod.qz⟩
def tabT59:=tabQ ⟨I.ok.above,X.env.scope.kind,mr.mro,s0.heap.objs.size,s0.heap.get? Z5,(Z5).1.length,fun i j=>Z5,fun x H'=>Z5,by rw[dB];exact Z5,a6.at_,"level",bH.at_,fun x y=>Z5,fun b u q=>Z5,w.params,a0.toList,fun A i s Q E st h=>Z5,fun b ps e=>Z5,∀b∈ch,Z5,o.isSome,fun y aC e=>Z5,Z5=.function,pos.line,target,_,g8.locals,by intro pins s σ H Q I h;exact Z5,cs.flatMap Z5,u.length,a.left.drop Z5,∀j∈w,Z5,a.words⟩
def tabT60:=tabQ ⟨q.broken,_,x.word,(Z5).r.length,"OUT_OF_RANGE","MOST_LETTERS",j1 q92,(350 (by rw[Z5,s6];congr 1;rw[iO,aa];cases b<;>rfl)),j1 q93,rows.getD Z5 [],gY 03,h94 (.int Z5),fun u s1⟨y,H1,aX,bQ,q⟩=>bY Z5 Z6,vs.toArray.toList.map mv,Builtin.«zip.__next__» ⟨Z5,Z6⟩,(show False from r).elim,d42 897,by rw[←h.len];exact eI Z5,343 z.2.2.1 z.2.2.2,a13 897,Codec.app f50 Z5 Z6,p23 y.1,422 c1,Hu (p32 Z5),I.base.there b Z5 Z6 Z7,w.withFollow n9 Z5,401 n72,.ref 679,k22 f50,l32 p36,s.heap.FunFrames 02 Z5,ve 37⟩
def tabT61:=tabQ ⟨b.getD Z5 0,Je (nm:=Z5) 14 Z6,102 q,apos.endLine==Z5,621 834,b8.left.drop (672-Z5),by rw[a_,cK,Z5,cZ,cA Z6];rfl,st.2.filter (429 Z5),ls.findIdx? (72 Z5),29 (Z5=cB.left.take Z6),p41 (542-Z5),min 672 b38,∀(a:ag)(sy:cv)(z:Int),Z5→Z6,i17 (542-Z5),505 (∃v4 ew:Z5,Z6),q.words.idxOf x,L.map (fun(c:Nat)=>Z5),fun i H' _ e=>683 Z5,o63 (aE Z5),080 (zE Z5),w.set q.1 Z5,af.symm.trans e,[36,h37],077 (·.2.1),fun es ji aB cf e dj lP m4 iZ=>?_,471=667,cY 60 b8,fun b ps aa=>328 Z5,(i78).l,[888,235],[36,f15],b0.ib Z5 (h83 Z6)⟩
def tabT62:=tabQ ⟨s0.trans 116,ns.map (807 Z5),l40 z,u.map 379,codes.map hT,n0 (b6 r),b.left.take o,15 082,292 k76,ah 893,DecidableEq α,cY 60,[352,d09],[36,886,"other_codes"],b5.unlock Z5 (I.Ii Z6 Z7),b62+mc.toArray.size,[396,k32],X.env.kindOf x,⟨Z5,Z6,Z7,by simp[cM]⟩,[573,506],[36,731,886],b71 231,by rw[Z5,117 Z6];exact e,mV.trans s5,s5.trans cW,808 s3,iA "__next__",fun cb H' ky=>⟨Z5,03,Z6,Z7,Z8⟩,[506,h72,088],∀(r:10)(g:Nat),Z5,[352,576],["name",235]⟩
def tabT63:=tabQ ⟨250 0x17,418 0x2f,s0.free au,290 326,(Z5).takeWhile fe,[h52,k70],q.origins[i]?,[h52,576],221 997 63,[352,235],250 0x26,af.trans z,.ref (424 Z5),218≤12,230=p.length,fun l h=>b68,881 aB,wN.map (425 Z5),Str→241 Z5,.done (.ret Z5),Oq (Ot (name:=Z5) Z6 Z7 Z8),some {o with slots:=dP},[573,506,088],bF X (.Constant Z5 Z6 Z7) Z8,f51 f50 a,kv 676,(Z5).lE (fun c v ar q=>Z6) Z7 Z8,35 Z5 mB.symm,h.IsListIter Z5 Z6 i,292 i22,fun b bC aa aU _=>?_,262 (t σ Z5 (fun c H1=>Z6))⟩
def tabT64:=tabQ ⟨328 aX.gF,eb 356 (290 Z5),48 (11 Z5),16 (z.elim Z5 Z6),∀m∈sy.moves,Z5∧Z6,r.map (807 Z5),418 0x30,g1.push mn,569 (I.G_ Z5 Z6),e4.mpr (aV Z5),.bool FX,fun h' kx eX=>?_,fun b bC xs aa=>?_,[352,396,883],aY.but cH b9,.ext (312 Z5),aX.list aw,fun _ H Q=>Q Z5 Z6,isTrue Z5 55 Z6,xG s'.gens,hW.cons (fun w e=>p53) Z5,096 (kf Z5),s.moves[j],openGood Z5 uT,σ.set Z5 00,[36,365,226,886],some (dz.lst Z5),fun j eU e=>?_,σ.set i 54,d6 (hO K rfl) 66 O.len eJ 296,Ou 981 345,a51 45⟩
def tabT65:=tabQ ⟨h29 (426 44),o87 (fun _ H'=>910),339 252,by rw[Z5,Z6,117 Z7];exact e,sr (c.enc Z5),some (dz.eT Z5 Z6),Ov 981 345,.bool b,aT codes,kv 91,724 Qp,fun e7 aB s2=>?_,fun b o e ai=>?_,some (.str 723 Z5),Z5+gA.1.r.length,583-gA.1.l.length,kindOf q,gs X (jv .NotIn) Z5,p48≤315,824 Z5 ao.X.b,48 o.2.2,E6 Z5 hf.symm,aD.map da,.list p59,bindL kindOf Z5 Z6 Z7,678 aw,.Compare Z5 Z6 Z7 pos,vk 500,.ok (Z5,rest),724 631,some (.vl Z5),48 o.2.1⟩
def tabT66:=tabQ ⟨15 97,100 (.ok Z5),I.ok.has _ Z5,f28 ?_,[352,d16,f35,h85,h84],fun y c e=>?_,351 ?_,fun fc=>?_,h40 ?_,"answers",Codec.denoteAll Z5,∀base:dk,Z5,"abcdefghijklmnopqrstuvwxyz",.turned,F.length,fun b x q=>Z5,s4.trans Z5,(Z5).symm.trans Z6,by rw[e];exact Z5,"following","groups",fun x _=>Z5,by simp at e,"dict.update.loop",by simpa using ax,so.keeps,fun m hm=>Z5,"are_kept","wanted_pairs","action_from","next_states",Kv (o0:=Z5) (o1:=Z6) (o2:=Z7) Z8 Z9⟩
def tabT67:=tabQ ⟨fun v a3=>Z5,c_.length,fun t x q=>Z5,by rw[aI,d5],oX.trans Z5,cw.right,cw.left,e3.right,show Z5 from aI,(a_ l)[Z5]?,"turn_apart",∀r∈l,Z5,∀H' p bs,Z5,fun c o e=>Z5,fun bP s4=>Z5,fun _ _=>Z5,by simpa using hi,fun xs H Q=>Z5,"way_or_refusal","search_within","search_refusal",M.origins,os.length,by rw[dR];lia,fun C d bl z=>Z5,∀C d bl,Z5,"reader","first_parting","first_steps",by injection z,s.moves[Z5]?,fun b z aa=>Z5⟩
def tabT68:=tabQ ⟨b8.right,∀m∈s.moves,Z5,fun y e=>Z5,"are_apart",fw.length,by rw[Z5];lia,"staying_basis","letter_differences","falling_weights",∀m∈ms,Z5,s3.heap.push Z5,fun v s1 af=>Z5,by rw[gu];lia,fun i b m af ak=>Z5,fun b o e n=>Z5,L.length,"read_word",(by obtain⟨p,k⟩:=z;cases k<;>rfl),"is_letter",fun v aB=>Z5,by unfold q8;simp only[e2];rfl,s2.heap,{s1 with heap:=h'},I.ok.frames,fun b bC aa _=>Z5,fun b bC aa _ _ _=>Z5,iH.data,fun b bC aa aU _ _=>Z5,fun b bC aa e=>Z5,show Z5 from z,A.frames,fun u bp=>Z5⟩
def tabT69:=tabQ ⟨"pivot","chosen","remaining",by rw[Z5];exact hi,_,"divided_out",∀d∈ds,Z5,"taken",M.calls,M.right,sy.moves.zipIdx.take Z5,"possible_places",sy.moves[Z5]?,by rw[h_,ba],∀x∈l,Z5,"written_word","note_word","given_length","broken_off","left_open",fun i σ H' _⟨_,_,e,_⟩=>Z5,16777216,vs.toArray,us.toArray,fun v q=>Z5,fun v z=>Z5,"dict_keyiterator",F.slot_dict_keyiterator_next,(nomatch z),fun c xs q=>Z5,fun c q=>Z5,fun _ _ q=>Z5⟩
def tabT70:=tabQ ⟨fun _ _ z=>Z5,a0.toArray.isEmpty,r.append Z5,fun w hw=>Z5,fun b z=>Z5,A.depth,bl.length,fun _ _ σ H _ I h=>Z5,(nomatch e),r.dropWhile Z5,v.first,∀j∈v,Z5,∀q∈mp,Z5,fun x y r=>Z5,e.counts,e.origins,l.flatMap Z5,importedModules Z5,X.env.scope.names.lookup Z5,fun bx A outer s H vs Q E aq h=>?_,fun vs H Q E h=>?_,.seq l30,cd 60,241 Value,(by rcases p6.2 with z|z<;>rw[z]<;>assumption),rows.map (429 Z5),Ay f40,b8.left.take Z5++Z6,(16 (by rw[z,e]at aU;cases aU)),gt Z5 Z6 Z7 (by rw[List.getElem?_map,a];rfl),bY Z5 (fun us s1⟨vs,H1,aX,r,q⟩=>Z6),∀(i j:Int)(t u:Tok)(s:aZ)(Q:Z5)(E:490),Z6⟩
def tabT71:=tabQ ⟨aQ X 07 σ H 620,fun i σ H' _⟨_,_,_,s3,_⟩=>32 (s3 Z5 Z6 Z7),fun gV s1⟨y,H1,aX,bQ,bg⟩=>bY Z5 Z6,(l33 (by rw[d]at z;cases z)),aQ X 07 σ H s22,fun{m r:_}e=>by rw[e]at c4;exact Z5,fun i σ H' _⟨_,_,s3,_⟩=>32 (s3 Z5 Z6 Z7),∀(pins:Z5)(s:aZ)(σ:bq)(H:av)(Q:546 Z6),Z7,fun n b r h=>501,by have:=eI Z5;simp at this;lia,401 "method_descriptor",match xw Z5 with|.error f=>Z6|.ok y=>Z7,{cls:=Z5,dict:=none,data:=Z6,slots:=#[]},Dm (fun i j _ _ _ _ _ ar q=>Z5),{s1 with heap:=s1.heap.push Z5},((by intro q aw;cases aw)),fun b u e n=>by rw[Z5];exact e,{one:=i,two:=j,word:=Z5,left:=Z6++Z7,right:=Z8},fun x af ak=>03,I.un (t':=Z5) Z6 (o62 Z7),fun ys aC=>by rw[Z5];exact ai,s.heap.FunFrames 341 Z5,{cls:=.none,data:=504 Z5},fun T z=>o55,fT h23,I.mod.glob.keeps I.eO,f52 (st.at Z5),by rw[I.len];exact 159 Z5,ov (fun q(dU:List cF×ae)=>Z5) Z6 Z7,match nd 75 Z5 with|none=>Z6|some x=>Z7,OC (g:=Z5) (fun _ _ _ _ s _ h=>Z6),fun _ e=>l48⟩
def tabT72:=tabQ ⟨583-580,q5 f72,p55 y.1,.own a,r.b.symm.trans z,121 ar,∀(n:Nat)(b:ag)(r:10),Z5,fun x a5=>∃a mY dx bl,Z5,_,15 302,ys.map (·.length),rest.dropWhile fe,f25 (zF 37),15 b62,by rw[204 Z5];exact cR,∀(a:ag)(x:06)(m:g0),Z5,by rw[←zM];exact 184 Z5 Z6 Z7,cI (aU.symm.trans Z5),221 997 a08,q.origins.getD Z5 00,d08 130,h'.Ns1 397 Z5,c2 (fun b(r:List Nat)=>Z5) Z6 Z7,b71 03,D.es (e▸D.ip),fT h22,own.map 379,(cells.lookup Z5).getD Z6,x8.map b31,beq_iff_eq.mpr h,sy.moves.take i,c2 (fun b(r:List Int)=>Z5) Z6 Z7⟩
def tabT73:=tabQ ⟨s.2.2.length≤12,ms.map b31,Codec.withinAll Z5 a,by rw[aE Z5];exact n,min 542 b42,(694).l,505 (∃v2 fb:Z5,Z6),p40 fe,fun z:Nat×Nat=>(Z5).zip Z6,(Z5).moves.any (285 Z6),r.map (·%d),fun v h' tk a3 kx b0=>?_,d.params.defaults=Z5,sp.map (16 Z5),mu 60 aD,dU.1.map ec,fun fin=>?a,as'.map 502,l42 cT,f26 694,ps.map 379,743 (z.2.getD Z5 Z6),b6 z.2.flatten,codes.take i,ep.heap.get? b,DecidableEq e8,Rr (sy:=sy) (f:=Z5),jk.self.same Z5 yq,kvs.map (fun dU=>Z5),∃(a0:53)(n:Nat),Z5,sy.letters.Nodup→Z5,(aP Z5).cps.toList⟩
def tabT74:=tabQ ⟨Pv 57 σ H,f83 Z5 (fun c v ar r=>Z6) Z7 Z8,b73 (st.2.take Z5) Z6,n94=81,[36,313],292 398,ux.trans e1,fo.trans p0,r.ret.enc (i40 Z5 Z6),fun b o ar e=>⟨Z5,Z6⟩,619 b68,58 (D.es 811),! kvs.isEmpty,35 Z5 (fN.upd Z6),16 (aa (by simp[z])),471=81,58 852,16 (ar (by simp[z])),af.push (825 p24 Z5),∀{m:Int}{r:10},Z5,aX.laid (t':=Z5) Z6 64 Z7,∀(n:Nat)(l:40),Z5,(Z5).map (·.length),wN.contains n,16 902,env.cells.lookup Z5=Z6,∀(n:Nat)(l:06),Z5,n65 ?_,fJ m d32 x,ea.length≤377,["__module__","__name__","__qualname__","__doc__",p54],733=d13⟩
def tabT75:=tabQ ⟨_,_,_,b62*d27,230≤12,i55 i10,i45 09,370 087,i20=09,15 b43,_,_,_,418 0x31,Ti 03,e1.trans gW,uw.trans s4,aL.get? b,cW.trans e1,422 bk,cS.map ec,_,.builtin Z5 (644 Z6),X.ah 510,storeName 55 Z5 Z6,LawfulBEq α,(∀cb H',Z5),fun af tk y fC=>?_,l14 (d.weight≤1048576),k26≤377,n1.take j,b50 s4⟩
def tabT76:=tabQ ⟨env.kindOf x,fk 03,fun i b q af ak=>?_,_,KQ.take j,rest.drop 1,d08 ?_,o57 ?_,d29 ?_,fun qX=>?_,fun dE fp=>?_,fun he=>?_,fun x c e=>?_,fun hm=>?_,131 ?_,290 ?_,Bool.and_eq_true_iff.mp Z5,fun _ _ _ _ _ _=>Z5,"POINTS_TRIED","DIVISORS",∀{f:ag}{fd:k6},Z5,by rw[Z5];exact k,fun x ai y aC=>Z5,by rw[aI,d5];rfl,fun j H' _ e=>Z5,dg.length,fun p(q:rk)=>Z5,"groups_behind",by rw[Z5];exact bS,fun j q e=>Z5,∀(j:Nat)(q:m9),Z5,aR.toList⟩
def tabT77:=tabQ ⟨by simp[h],fun h' tk kW k=>Z5,jx.extBut,(Z5).toArray.size,by rw[jx];rfl,A.in1.in1,h'.objs.size,"object.__getattribute__","StopIteration",∀x y h' tk,Z5,ey.objs.size,"first_move_out","accepts","machine_from","NO_SUCH_LIST","first_proof",by rw[aR];rfl,by rw[e7];rfl,"first_proof_of","most_states",by rw[ax];exact Z5,by unfold rg;simp only[e2];rfl,fun a5 s3=>Z5,"turns_from",by rw[fa];exact Z5,(by obtain⟨i,hi,rfl⟩:=Z5;exact Z6),"first_turns_apart",l.flatten,l.flatten.length,"staying_turns",aD.length,by rw[ba];exact Z5⟩
def tabT78:=tabQ ⟨∀H' p as,Z5,(·≤·),by unfold yU;lia,"NO_GOAL","is_closed",zs.reverse,b1.length,"answer_next","answer_about_ends","answer_about_proofs","answer_about_ways",∀(a:ag)(s:dt),Z5,"written",fun ft cW=>Z5,"hindrance","meetings","meetings_by_overlap","meetings_within","Meeting","first_step",by simpa using ak,match Z5 with|none=>Z6|some p=>Z7,"parting_weights","parting_by_rest","NO_START",ws.length,"go_down",i8.filterMap Z5,by rw[gu]<;>lia,XE.lookup,ys.reverse,by simp[dh]⟩
def tabT79:=tabQ ⟨"__length_hint__",mc.toArray,by rw[gu,gu];lia,∀l b xs zs,Z5,by simpa using a3,by rw[d1];exact aI,by rw[Z5];exact aI,"system_from","read_line","read_letters","WRONG_ROW",{s with heap:=af,toks:=tk},F.plain_set_update_loop,{s with goal:=Z5},{s with start:=Z5},by rw[ba,aY.len];exact Z5,"read_move",{left:=x,right:=y,first:=f0,last:=f1},"token_at","place_behind_blanks",by injection e,fun b o e _=>Z5,(bI.drop p)[Z5]?,"FIRST_LETTER",by unfold lV;simp only[e2];rfl,(by intro b aa;cases aa),fun h'⟨gK,gr,gd,mD,pj,pk⟩=>Z5,(by cases z),X.env.globals,fun b o aa=>Z5,(·.setIfInBounds 3 fh),j8.some_of (v:=Z5) (o:=Z6) Z7⟩
def tabT80:=tabQ ⟨by rw[←l];exact Z5,"BaseException",fun b bC aa=>Z5,by rw[Z5];exact r,dh.objs.size,s'.heap.get? Z5,I.base.pB,I.base.nx,I.base.pA,env.frame,pl.isEmpty,fun b x aK aG z=>Z5,∀(b:ag)(x:Z5),Z6,"basis_row","reduced_rows",by rw[cZ,Z5];rfl,fun n v z af ak=>Z5,let⟨a,x,y⟩:=Z5;Z6,"without_column",fun σ H'=>Z5,by have:=Z5;have:=Z6;lia,"stay_by_rest","choices",M.letters,PM.toList,sy.moves.zipIdx,match Z5 with|none=>Z6|some m=>Z7,{cz:=Z5,l7:=Q},fun x y H Q=>Z5,"one_form","word_line","move_line"⟩
def tabT81:=tabQ ⟨by rw[kR];simp,"go_through",fun i v o af ak=>Z5,fz.words.length,by rw[sF];exact Z5,"common_divisor",.FloorDiv,codes.length,by show Z5;rw[Z6,Z7]<;>rfl,by rw[Z5];exact h,fD.isList,fun i H v H'=>Z5,o.ExactDict,"itertools.pairwise","itertools.zip_longest","odict_iterator","dict_reverseitemiterator","dict_itemiterator",1073741824,{s with heap:=Z5,toks:=tk},fun c v _ q=>Z5,fun b xs e=>Z5,fun b xs q=>Z5,fun b u e z=>Z5,by rw[e];exact xX,fun H' ky=>Z5,ce.locals,show Z5 from au,{s3 with heap:=Z5},"list.append",by rw[←DG];rfl,scope.names.lookup Z5⟩
def tabT82:=tabQ ⟨"list_iterator",fun gr gd=>Z5,its'.toArray,by simp only[gu]<;>lia,fun v u s2 x y aB b5 bw bQ q=>Z5,by rintro rfl;exact Z5,show Z5 from aL,by rw[hu];simp,fun _ _ _ _ _ _ _ q=>Z5,show Z5 from p,fun _ _ _ _ _ st h=>Z5,l.filterMap Z5,(nomatch q),ms.flatMap Z5,as.flatMap Z5,r.contains Z5,r.takeWhile Z5,a.left.take Z5,∀(n:Nat)(w:b7)(k:Nat),Z5,(Z5).getLast?,∀{v:b7}{q:Nat},Z5,∀i∈m.left,Z5,rz.findSome? Z5,fun q a r=>Z5,a.words.length,e.words.length,{e with op:=true},z.2.2.length,q.nodes.map Z5,(by cases e),"__annotations__",sc.names.lookup Z5⟩
def tabT83:=tabQ ⟨D.F.ok Z5 (fun vs H Q E h=>Z6) Z7,p56 Z5 Z6 (fun bx A outer s0 H vs Q E aq h=>Z7),.dict #[],ms.map WData.int,PySem.Challenge.rw_wordmoves_s01_answers,1000000000000000000,(by obtain⟨f,fd,d,e⟩:=Z5;exact Z6),∀(ec doc pm:aH)(an:Z5)(bx ek:aH)(us:Z6),Z7,Nat.eq_of_beq_eq_true Z5,by simpa using he,by simpa using fc,(by rw[z,aI]at bR;cases bR),by simpa using Al,match Z5 with|some (.tup ys)=>Z6|_=>Z7,by simp[j5]at e,by simpa using aK,by rw[l4,qx];exact uJ,"dict.__init__",∀(rest:Z5)(i:Nat)(acc:Z6)(i8:Int)(t:Tok)(s:aZ),Z7,X.A.in1.in1.in1,(by obtain⟨o,e,_⟩:=pl.isList;exact Z5),by simpa using aG,(by obtain⟨o,e,_⟩:=Z5;exact Z6),fun prog w A R s h=>Z5,"zip.__getattribute__",{cls:=Z5,dict:=none,data:=Z6,slots:=dP},Builtin.«object.__getattribute__» Z5,isSubtype_stop,fun c o fA iY nI e=>Z5,fun y ey QQ py Tb ej=>Z5,fun x g2 m4 y_ S9 aG=>Z5,fun c o fA kd iY nI e=>Z5⟩
def tabT84:=tabQ ⟨fun{dM p l:_}s0 au e=>Z5,by rw[fA,kd,iY];rfl,by rw[hn,iP];exact Z5,by rw[hn,iP];lia,by show Z5;rw[e];rfl,(by refine Z5;rw[Z6]at d9;cases d9),fun i σ H'⟨_,_,_,s2,_⟩=>Z5,∀(i:Nat)(b:ag)(m:g0),Z5,by rw[FQ];decide,(by have:=Z5;rw[←z,fp]at this;cases this),by rw[cn,hR];rfl,(by rw[z,fp]at au;cases au),"MOST_LETTERS_FOR_THREE_STATES",fun i σ H' _⟨_,_,_,e,_⟩=>Z5,(aD.map ae.ref)[Z5]?,(by refine Z5;rw[Z6]at qv;cases qv),by have:Z5:=Z6;rw[pq,pv]at this;lia,by unfold b6;rw[Fc,Mn];have:=Z5;rw[Fc]at this;exact Z6,∀(a:ag)(sy:cv)(x y:Z5),Z6,fun H1 p as s1 bR=>Z5,"MOST_POINTS_COUNTED",∀(a:ag)(sy:cv)(k:Nat),Z5,by unfold yU at aa;lia,fun H1 R os af g1 s1=>Z5,(q.origins++[o])[Z5]?,(by rw[R5]at z;cases z),(by rw[a4]at z;cases z),by unfold wB;simp only[e2];rfl,(by refine Z5;rw[Z6]at h;cases h),fun{dM p v:_}s0 au b0=>Z5,∀{dM:av}{p:ag}{v:Int},Z5,by rw[cK,ai];rfl⟩
def tabT85:=tabQ ⟨by refine Z5;have:=Z6;have:=Z7;lia,fun x dx ai yW cz=>Z5,by split<;>lia,{one:=i,two:=j,word:=b8.left,left:=b8.right,right:=Z5},(by obtain⟨dx,h⟩:=h;exact Z5),∀(a:ag)(s:dt)(ws:Z5)(v:b7),Z6,by rw[e]at k;exact k,fun H1 d s1 IA hd=>Z5,by rw[cH.len,ba,ax],by rw[cK,ak];rfl,by simpa using q,by simpa using hlen,fun j H' _⟨_,e,_⟩=>Z5,by rw[gN,ba];exact g.wQ,fun ws aR H1 p s1 au=>Z5,fun bP p ps s4 i7=>Z5,by rw[fa,nM,iP];exact Z5,"HEAVIEST_TRIED",fun i σ H' _⟨_,_,s1,_⟩=>Z5,(a0.toArray[·]?),bk.isList.typeIs,fun sa s2⟨l,aB,b5,pl,cf⟩=>Z5,fun sb s3⟨u,a5,el,pu,eC⟩=>Z5,by rw[rd,hsz];exact bS,"list_reverseiterator.__length_hint__",F.args_list_extend_2 Z5 Z6,F.entry_list_extend,F.slot_list_extend,by rw[Z5,Ak];exact hB,fun i v s Q E a3 aw=>Z5,(by rw[z,aI]at ax;cases ax),"TEXT_TOO_LONG"⟩
def tabT86:=tabQ ⟨"LONGEST_TEXT","LARGEST_BYTE",fun bG wA mW Ka atY=>Z5,fun bP l aY ax jE=>Z5,(by rw[Z5]at q;cases q),s'.moves.length,s.start.isSome,fun z rest H1 q e b9 aw nU kL=>Z5,"MOST_SYSTEM_LETTERS",∀(a t:ag)(aD:ei),Z5,∀(af:dk)(tk:Nat),Z5,{cls:=Z5,dict:=none,data:=Z6},F.entry_set_update_loop,by rw[Bx,ej];unfold Bu;rw[Bt,aC];rfl,by rw[←e,hf,af],"UNKNOWN_LETTER",by simpa[c5]using ar,by have:=Z5;exact this,by rw[z];exact h,by rw[aT,cK,b6,cK,ar];rfl,∀(t:ag)(bI:Z5)(p:Nat),Z6,match Z5 with|[]=>Z6|c::rest=>Z7,fun u s1⟨x,H1,aX,bw,bg⟩=>Z5,fun b o e n aa ai=>Z5,by rw[I.ok.kind];rfl,fun b o aa aU ai=>Z5,fun b o aa aU hf ai=>Z5,(by rw[Z5]at aa;cases aa),(by rw[z,dw]at aa;cases aa),fun _ _⟨o,vs,e,r⟩k=>Z5,by rw[arF];simp,fun b bC aa ai z=>Z5⟩
def tabT87:=tabQ ⟨(by rw[z,e]at aa;cases aa;exact Z5),by rw[ba,Aa];lia,"object.__setattr__",by rw[←vb];exact Z5,fun A outer s H vs Q E aq pL=>Z5,∀(bx:aH)(A:rT)(outer:Z5)(s:aZ)(H:av)(vs:Z6)(Q:aW)(E:bD),Z7,(by rw[Z5]at ar;cases ar),fun b o aa aU mq _=>Z5,(·.setIfInBounds 3 ((none:Option ag).elim fh fun f=>hM f)),(·.setIfInBounds 1 (da g1.objs.size)),(((bz i).filter (lX (fP sy))).map fun f=>o8 (fP sy) f sy.letters.length)[Z5]?,by have:=Z5;simpa using this,by rw[cn,cn,len];rfl,by unfold jH;split<;>simp,(by rw[q,cO]at z;cases z),((gN sy).take i)[Z5]?,by rw[ba,aY.len],by refine Z5;rw[ba,aY.len,ZP];exact Z6,by rw[Gk,hm];simp,sy.moves.zipIdx[Z5]?,by rw[c4]at ak;simpa using ak,by rw[aT,aT,aT,d5],by rw[←t4];rfl,by split<;>simp,by rw[Z5];unfold nf;rw[Z6],{o6 with op:=true},_,{fz with dV:=true},by rw[yt];decide,sy.moves.zipIdx.foldl Z5 Z6,q.levels.length,by rw[hn];exact cM⟩
def tabT88:=tabQ ⟨by unfold gT;rfl,by simpa using nj,by unfold mQ;simp only[e2];rfl,fun _ _ _ _ _ _ _ ar q=>Z5,F.type_str_count,F.slot_str_count,by rw[aT,ba]at h';lia,by simpa using hf,"str.startswith",by simp[Str.length],(by obtain⟨f,fd,a,b,d⟩:=h;exact Z5),∀(w:ff)(ah:Z5)(me:ag)(h:dk),Z6,by rw[ba];exact af,"__classdict__",z.cps.toList.drop Z5,by simpa using It,{s with heap:=h',toks:=Z5},hm.dictOf.typeIs,F.slot_dict_values,by rw[hsz];simp,F.args_dict_keyiterator_next_1 Z5,F.entry_dict_keyiterator_next,(·.setIfInBounds 1 (hM ((i:Int)+1))),F.slot_dict_iter,"str_ascii_iterator","str_iterator","range_iterator",(by have e:Z5:=Z6;subst e;exact Z7),(by rw[z,h]at q;cases q;exact hJ),(by have q:=Z5;rw[q]at e;cases e),fun u s2⟨x,aB,b5,bw,a,dA,ex,g,cf⟩=>Z5,by simp[vP,jK,bZ]⟩
def tabT89:=tabQ ⟨by simp[ya,jK,bZ],by simp[ja,jK,e],fun pins s σ H Q I hw=>Z5,by simpa using z,F.slot_int_rmul,(Z5).flatten.toArray,(by obtain⟨z,a0,n,r,e⟩:=Z5;exact Z6),{s with heap:=Z5,toks:=t'},∀(pins:Z5)(s:aZ)(σ:bq)(H:av)(x:ae)(xs:Z6)(v:aH)(us:Z7)(Q:aW),Z8,pl.isList.typeIs,by rw[gu,hlen],by simpa using hw,by rw[Z5]at af;rw[gu,←ax];exact Z6,(·.setIfInBounds j u),by rw[bS];simpa using nj,fun u s1⟨x,H1,aX,bU,bg⟩=>Z5,fun u s1⟨x,H1,aX,bw,a,dx,bl,ex,d1,l,q⟩=>Z5,fun us s1⟨xs,H1,aX,r,z,q⟩=>Z5,by rw[←r.length];exact z,by have:=r.un;lia,by have:=r.HB;lia,recursionLimit,by simp only[gu];lia,∀(pins:Z5)(s:aZ)(σ:bq)(H:av)(x y:ae)(v u:aH)(Q:aW),Z6,∀(i:Nat)(pins:Z5)(s:aZ)(σ:bq)(H:av)(E:Z6),Z7,by rw[z];exact aa,fun d s1⟨H1,aX,bg⟩=>Z5,by intro pins s σ H D I h;exact Z5,by simpa using aL,∃(o:Obj)(a0:Z5)(n:Nat),Z6,fun c s1⟨H1,aX,bg⟩=>Z5,∀(pins:Z5)(s:aZ)(σ:bq)(H:av)(Q:aW),Z6⟩
def tabT90:=tabQ ⟨by rw[I.ok.glob];exact Z5,∀(pins:Z5)(s:aZ)(σ:bq)(H:av)(D:lY),Z6,by simpa using I.len,fun j y vr aK aG cp=>Z5,fun i x v aK aG cp=>Z5,(by obtain⟨dr,vp,vq,ju,dF⟩:=hm;rw[a8]at ju;cases ju;exact Z5),{s with heap:=h',gens:=g',drawn:=d',toks:=t'},fun b o _ aa _ e n=>Z5,(by have:=Z5;rw[e]at this;cases this),fun b bC q _ _ _=>Z5,(by subst z;rw[r]at hJ;exact hJ),by unfold upd;rw[Z5],(by obtain⟨t,e⟩:=Z5;exact Z6),match Z5 with|none=>Z6|some (xs,t)=>Z7,(by intro x ai;cases ai),by rw[←rH,e];rfl,match Z5 with|.bad k p=>Z6|.over p=>Z7|.word w p b=>Z8|.sign u p b=>Z9,{one:=i,two:=j,word:=a.left,left:=a.right,right:=Z5},by rw[nl];exact h0,fun v w _ _ a3 hw=>Z5,Int.ofNat_dvd.mpr Z5,match Z5 with|none=>Z6|some r=>Z7,by show Z5;rw[gP];rfl,by rw[mC,ph];exact Z5,by unfold zF;simp,m.right.length,by rw[r.w];exact bH,by rw[r.w];exact ak,PySem.W.Fast.te15675979060085899600,PySem.W.Fast.te16311100388161575119,_,_⟩
def tabT91:=tabQ ⟨_,_,_,_,_,_,_,PySem.W.Fast.te8649220478264163072,PySem.Challenge.pw_wordmoves_s01_answers.main.body,match Z5 with|true=>Z6|false=>Z7,{s with heap:=h',toks:=t'}⟩
def tabX0:=tabQ (by (refine a7 Z5);(rw[A20 _ Z5]);(refine D.pr (p56 Z5 ?_ l59));(refine⟨Z5,Z6⟩);(constructor);(have:=skip rfl);(by_cases e:Z5=Z6);(cases bw);(exact 404 Z5);(exact .inr Z5);(exact this);(simp only);(obtain⟨t,rfl⟩:=bw);(intro pins s σ H Q I h);(exact fL Z5 14);(rw[A44 _ Z5]);(rw[this]);(exact .inl Z5);(split at h);(obtain⟨t',rfl⟩:=bQ);(refine⟨Z5,Z6,?_⟩);(refine b_ Z5);(split at e);(rw[A17 ⟨Z5,Z6⟩]);(cases bQ);(subst ex);(exact⟨_,Z5,rfl⟩);(rw[A03 Z5 ?_]);(rw[A00 ?_]);(refine D.pr (p57 Z5 ?_ ?_));(rw[e]at aC);(intro r t c h))
def tabX1:=tabQ (by (obtain rfl:=skip rfl);(rw[A03 229 Z5]);(assumption);(intro pins s σ H D I h);(refine F.ok Z5 l60 l59);(exact 478 Z5);(obtain rfl:Z5=da a:=bw);(by_cases h:Z5);(exact .nil);(have bH:=g.jm);(subst dH hw cj);(intro X dH hw cj ar i pins s σ H E I hf st a4);(exact⟨Z5,rfl,Z6⟩);(intro pins s σ H x y v u Q I bw bQ h);(obtain⟨y,aC,rfl⟩:=112 Z5);(cases this);(rw[←this]);(rw[e]at h);(have e:Z5:=03);(obtain⟨f0,f1,f2,e9,f4,fR⟩:=hf it 19);(rw[aI,d5]);(obtain⟨t,rfl⟩:=r);(rw[21 Z5]at k);(rw[A08 e]);(exact i30);(rw[A00 (lU hz rfl (x:=Z5) rfl ?_)]);(rw[cK]at aC);(obtain⟨a,sy,rfl,_⟩:=h);(intro pins s σ H xs us Q I r h);(rcases Z5 with z|z);(exact 69 Z5 (kV Z6));(have s1:=293 Z5 Z6))
def tabX2:=tabQ (by (exact 69 rfl Z5);(by_cases hi:Z5);(by_cases aS:Z5);(rw[aG]at e);(have hU:=h.cw Z5 Z6);(exact 69 (p30 934) hB);(obtain⟨_,aG,_⟩:=hb c4);(dsimp only);(by_cases af:Z5);(rw[Z5]at this);(intro x ai);(rw[aK]at e);(rw[A44 Z5 (129 Z6)]);(have s2:=293 Z5 Z6);(rw[86 aw]);(by_cases ak:Z5);(rw[ak]at k);(obtain⟨af,ak⟩:=Z5);(obtain⟨p,k⟩:=z);(intro pins s σ H R I h);(obtain⟨z,hz,rfl⟩:=112 Z5);(rcases 362 Z5 with aw|aw);(obtain⟨i,hi⟩:=rv Z5);(have s3:=293 Z5 Z6);(subst this);(injection e with e);(rw[e]at st);(rintro rfl);(intro r aq);(obtain⟨g3,ey,gi,_,rN⟩:=uE Z5);(rw[B54 (xA Z5 Z6)]);(obtain⟨_,_,cp⟩:=hb Z5))
def tabX3:=tabQ (by (have lQ:=b9.seq Z5 Z6);(rw[23 Z5]at k);(have ho:=332);(rw[A00 (oz Z5)]);(refine Call_ Z5);(rw[A00 345]);(rw[gi]at aw);(cases Z5<;>rfl);(obtain⟨cR,dS⟩:=Z5);(rintro H' rfl);(have aU:=vC);(simp only at e);(obtain⟨u,rfl,bw⟩:=o3 Z5);(rw[A20 (fun i m σ H=>Z5) Z6]);(obtain⟨iC,nY⟩:=id Z5);(obtain⟨b,aa,rfl⟩:∃b,Z5:=Z6);(rw[A20 (fun i m H=>Z5) Z6]);(have lS:11 Z5=Z6:=rfl);(obtain⟨m,hm⟩:∃m,Z5:=126 Z6);(rw[A00 (a7 Z5)]);(by_cases aa:Z5=01);(rw[C47 (f74 (∃t,Z5))]);(rintro i m σ H⟨rfl,hi,p⟩);(obtain⟨dx,ls,BH,aY⟩:=Z5);(rintro i m H⟨rfl,hi,p⟩);(obtain⟨dD,g_⟩:=Z5);(obtain⟨_,_,_,_,o,_,_,e,_⟩:=x);(intro z hz);(simp only[t4,yy,q0,dB,cn,l4]);(have a1:Z5:=rfl);(obtain⟨e,y⟩:=y);(injection h with h))
def tabX4:=tabQ (by (simp only at h);(rw[aG]at h);(obtain⟨a,b⟩:=Z5);(have aR:Z5:=rfl);(obtain⟨z,a0,n,r,ax,e⟩:=I.x6 Z5);(obtain⟨a0,cV,ax,_⟩:=678 Z5);(rw[B93 (678 Z5)]);(obtain⟨dx,ls,as,aY⟩:=id Z5);(obtain⟨u,rfl,t,rfl⟩:=o3 Z5);(rw[B49 (cV.get Z5)]);(rw[B77 (112 Z5)]);(rcases 362 Z5 with hz|hz);(rcases 362 Z5 with bS|bS);(rw[A00 (Kg (T:=Z5) Z6 Z7)]);(by_cases cM:Z5<57);(rw[A50 (Z5=57)]);(obtain⟨t,rfl⟩:=Z5);(obtain⟨au,g,d,tk,os⟩:=s);(decide+kernel);(obtain⟨dx,ls,ms,aY⟩:=Z5);(obtain⟨d,e⟩:=Z5);(obtain⟨u,bp,gR⟩:=Z5);(intro pins s σ H vs us Q I r h);(rw[aI]at aa);(subst aK aG);(split<;>lia);(obtain⟨rfl,rfl⟩:=Z5);(rename_i aS);(simp only[qJ,aa,Z5]);(obtain⟨a0,cV,p,hz⟩:=Z5);(rcases Z5 with ai|ai);(obtain⟨oT,wu,cT,nV,m5,c1⟩:=id Z5))
def tabX5:=tabQ (by (rw[B57 (678 Z5)]);(obtain⟨mi,E7,bU,je,_⟩:=id Z5);(obtain⟨b,aa,rfl⟩:=pP.mp Z5);(have:Z5:=by simpa[bh,e]using ai);(obtain⟨z,hz,rfl⟩:=oL Z5);(obtain⟨g1,ej,_⟩:=hb Z5);(obtain⟨oN,pX⟩:=g.cw Z5 Z6);(obtain⟨fF,kg⟩:=id Z5);(rcases 569 Z5 with e|h);(obtain⟨n,rfl⟩:∃n:Nat,Z5:=Z6);(obtain⟨dr,aK⟩:=i44 Z5 Z6 Z7);(exact 69 (show Z5 from sf) Z6);(rw[A20 (fun m σ H'=>Z5) Z6]);(rcases gG with rfl|⟨T,o,rfl,nP⟩);(obtain⟨i,hi,rfl⟩:=Z5);(obtain⟨a,sy,z,rfl,_⟩:=h);(injection h with af ak);(obtain⟨x,ai,rfl⟩:=Z5);(simp[bh,e]at ai);(have hlen:=r.length);(rcases ar with rfl|ar);(obtain⟨dP,aK⟩:=Z5);(rw[aK,aG]at hi);(rintro i y H' hi rfl);(injection e with aK aG);(have ax:=r.length);(obtain⟨t,rfl⟩:=bU);(rcases vJ with e|e);(obtain⟨z,hd,xs,rel,dd⟩:=Z5);(obtain⟨z,hd,vs,rel,dd⟩:=Z5);(obtain⟨m,aU,ax⟩:=I.loc);(simp only[An,ai]at h'))
def tabX6:=tabQ (by (obtain⟨a0,dF,pl,hz⟩:=Z5);(obtain⟨a0,r,pl,hz⟩:=Z5);(intro C8 pins s σ H Q I h);(simp only[G1]at e);(simp only[u1]);(rw[aR]at this);(rcases tv Z5 with⟨i,t,rfl,rfl⟩|⟨x,t,rfl,rfl⟩);(rcases RE Z5 Z6 with⟨af,ak⟩|⟨af,fr,ws,hd,c9,ak⟩);(rcases zm Z5 Z6 Z7 with⟨af,ak⟩|⟨v,a3,af,ak⟩);(obtain⟨gQ,hw,oE⟩:=o59 Z5 Z6 Z7);(obtain⟨j,af,ak,a6,bH,fX⟩:=ND Z5);(obtain⟨e,n,ne,nr,d⟩:=I.pin Z5 Z6);(obtain⟨p,au,rfl⟩:=112 Z5);(generalize c4:g06=l at jd);(obtain⟨w,nj,oE⟩:=r.get Z5);(obtain⟨b,x,rfl,rfl⟩:=MI Z5 Z6);(exact⟨Z5,Z6,Z7,by simpa using iD⟩);(obtain⟨b,rfl,rfl⟩:=xg Z5 Z6);(obtain⟨x,rfl,rfl⟩:=MH Z5 Z6);(obtain⟨g1,_,ej⟩:=hb Z5);(injection e with aK _);(exact⟨by simp[wc],by simp[wd]⟩);(obtain⟨m,_,e⟩:=Fe Z5);(rcases 569 Z5 with e|e);(obtain⟨ig,cQ,ec,doc,pm,an,bx,ek,k7,rfl,e5,ny⟩:=F.ex);(obtain⟨b9,dj⟩:=Z5);(obtain⟨st,gq,rfl⟩:=Z5);(rintro j y H' aC rfl);(obtain⟨t,x,ai,rfl,bk⟩:=Z5);(obtain⟨b,aK,aG,cp⟩:=Z5);(obtain⟨a0,cV,pl,hz⟩:=Z5);(obtain⟨⟨f0,b,hz,gG⟩,gX,⟨a,c,kD⟩,af,ak⟩:=st))
def tabX7:=tabQ (by (simp only[if_true]);(obtain⟨a,s,rfl,_⟩:=h);(obtain⟨q,aw,rfl⟩:=Z5);(obtain⟨a,sy,rfl,⟨dx,ls,as,aY⟩,g,k⟩:=h);(rcases h with(h|⟨o,h⟩)|h);(obtain⟨a,r,c,i,s,ns,t,n,k,rfl,aY,wf,cH,ar,jd,aU,qZ,OU,b0⟩:=h);(obtain⟨a,r,c,i,s,ns,t,n,k,rfl,_⟩:=h);(rw[ba,aY.len,eK]at cy);(obtain⟨v,a3,rfl⟩:=Z5);(obtain⟨a,sy,rfl,cg,g,k⟩:=h);(obtain⟨a,sy,rfl,aY,g,k⟩:=h);(obtain⟨u,rfl,gR⟩:=cV.one);(obtain⟨l,b,xs,zs,rfl,rfl,jy,fY,hz,q⟩:=h);(intro pins s σ H x vs v us Q I bw cV h);(obtain⟨z,rfl,hz,q⟩:=h);(simp only[l0,if_false]at bad fin);(simp only[if_true]at bad fin);(obtain⟨_,_,_,z⟩:=rZ);(obtain⟨dh,g,fF,t,os⟩:=s);(obtain⟨_,_,_,e,_⟩:=x);(obtain⟨o,_,_,_,e,_⟩:=x);(obtain⟨_,_,_,_,e⟩:=x);(obtain⟨t,q,a,aw,rfl,bk,aN⟩:=Z5);(obtain⟨t,e⟩:=Z5);(obtain⟨i,rfl,q⟩:=h);(obtain⟨x,rfl,_⟩:=h);(obtain⟨a,x,m,rfl,_⟩:=h);(intro pins s σ H x xs v us Q I bw rs h);(obtain⟨as,aq⟩:=Z5);(obtain⟨mc,Ir,fD,_⟩:=Z5);(rcases bZ with z|z);(have ax:=cV.length))
def tabX8:=tabQ (by (obtain⟨xs,aw,ai⟩:=a4);(obtain⟨xs,x,aw,ai⟩:=a4);(obtain⟨cb,H',b5,e,q⟩:=q);(rcases ar with z|z);(obtain⟨o,aR,c0,a8,r⟩:=hm);(rcases g with⟨kvs,k,e,f6,l⟩|⟨kvs,k,b,e,f6,eG,l⟩);(obtain⟨c,ar⟩:=Z5);(obtain⟨n,k⟩:=p);(obtain⟨t,rfl⟩:=bQ);(have hlen:=dF.length);(intro value slice pins s σ H x y v u Q I bw bQ h aL);(obtain⟨u,r,l⟩:=Z5);(obtain⟨cb,H',I,q⟩:=h);(obtain⟨c,rfl,bg⟩:=bg);(obtain⟨v,af,ak,a6⟩:=Z5);(simp only[l0,↓reduceIte]);(rintro⟨af,ak⟩);(obtain⟨c,d,jl,dP⟩:=x);(obtain⟨_,a0,r,o,af,ak,n,a6⟩:=Z5);(intro pins s σ H xs us Q I r q);(unfold Builtin.«dict.__init__»);(rintro obj ep⟨rfl,rfl⟩);(intro i acc i8 t s hsz uJ bk hit ax hm cH);(intro i acc i8 t s hsz uJ bk st hm cH);(obtain⟨t',jT,he⟩:=so.there);(unfold getAttr? getAttrBy? getAttrBy);(have f1:=sub_AttributeError);(unfold Builtin.«object.__getattribute__»);(simp only[←aym,HY,DB]);(simp only[aeG,aye,HY,DB]);(obtain⟨au,g,d,ayc,os⟩:=s);(rcases Z5 with⟨af,ak⟩|⟨af,v,u,ev,kO,ak⟩))
def tabX9:=tabQ (by (obtain⟨a,s,rfl,cg,wf,k⟩:=h);(rintro σ H1⟨v1,v2,rfl,s1,cy⟩);(rcases hz with rfl|rfl);(simp only[ed,Br,or_false]at hz);(obtain⟨b,rows,bs,y4,rfl,cH⟩:=Z5);(obtain⟨a,sy,x,y,rfl,_⟩:=h);(obtain⟨a,sy,k,rfl,_⟩:=h);(obtain⟨hs,bG,dx,l,as,af,ak,n⟩:=x);(obtain⟨dx,l,as,aY⟩:=x);(rcases Z5 with⟨aK,aG⟩|⟨v,a3,aK,aG⟩);(obtain⟨a,s,i,j,b8,cB,rfl,cg,wf,fr,hi,bS,k⟩:=h);(obtain⟨a,s,i,j,b8,cB,rfl,_⟩:=h);(obtain⟨a,s,ws,v,rfl,aY,wf,c9,uz,k⟩:=h);(obtain⟨a,s,ws,v,rfl,_⟩:=h);(obtain⟨b,m,dD,aa,hm,rfl,g_⟩:=Z5);(rintro σ H'⟨v,rfl,rfl,cy⟩);(obtain⟨d,as,ls,rows,n,x,y,rfl,_⟩:=h);(obtain⟨b,r,aa,c1,rfl,eM⟩:=Z5);(obtain⟨b,ws,aa,q4,rfl,eM⟩:=Z5);(rintro σ H'⟨v,rfl,s1,dQ⟩);(obtain⟨a,m,aN,Ey,rfl,eM⟩:=Z5);(rintro i y σ H' aC⟨v,rfl,s1,dQ⟩);(obtain⟨a,ns,rfl,aL,q⟩:=h);(obtain⟨p,dx,rfl,au,k⟩:=h);(obtain⟨p,dx,rfl,_⟩:=h);(obtain⟨g2,uk,ata,eq2⟩:=Z5);(obtain⟨g1,f9,uj,eq1⟩:=Z5);(obtain⟨Bw,acy,r0,q_,_⟩:=Z5);(obtain⟨a,t,aD,rfl,_⟩:=h);(intro i s hd hi st hz q);(simp only[atu,l0,if_false]at bad fin);(rintro y H'⟨rfl,c,ar,rfl⟩))
def tabX10:=tabQ (by (rcases g with z|z|z|z|z<;>rw[z]<;>decide);(simp only[ed,Br,or_false]at g);(rw[hu,decide_eq_true_eq,beq_iff_eq]);(obtain⟨t,bI,p,rfl,_⟩:=h);(obtain⟨vs,rel,dd⟩:=Bm.at_);(obtain⟨⟨dG,Qs,Qt,hL⟩,_,_⟩:=Z5);(obtain⟨v,H',el,cV,ev,eC⟩:=Z5);(obtain⟨nm,q,N,bs,sn,sub,ab,col,dd,k0,k1,k2,k3,k5,fT,e5,ns,_,cR,dS,iX,_⟩:=M.ex);(obtain⟨⟨o,vs,d1,ar,hd,jl,af⟩,_,_⟩:=Z5);(obtain⟨_,_,_,e⟩:=x);(obtain⟨_,⟨_,_,_,e,_⟩,_⟩:=x);(obtain⟨a,r,aN,c1,rfl,EI⟩:=Z5);(obtain⟨dx,ls,as,aY⟩:=aY);(obtain⟨x,rfl,ai,k⟩:=h);(obtain⟨tk,rfl⟩:=bU);(obtain⟨t,aK,aG⟩:=this);(obtain⟨p,r,rfl,_⟩:=h);(obtain⟨a,us,rfl,a8,dQ⟩:=Z5);(intro pins s σ H x v sa sb lo hi dP Q I bw aL pl pu h);(obtain⟨hz,gX,⟨x0,an4,kD⟩,af,ak⟩:=st);(rcases bZ with q|q|q|q|q);(obtain⟨⟨old,he⟩,hit,d9⟩:=st);(obtain⟨aL,vS,ai,vp,vq,vs,iB,hsz,dU,hm⟩:=Z5);(simp only[Ow,l0,if_false]);(obtain⟨t',rfl⟩:=dF);(obtain⟨_,⟨_,e⟩,_⟩:=x);(obtain⟨f0,f1,f2,e9,f4,fR⟩:=f);(rcases Z5 with⟨af,_⟩|⟨af,_⟩);(rcases Z5 with hm|⟨af,ak,a6⟩);(rcases Z5 with h|⟨af,ak⟩);(obtain⟨d,e,hd,he,DA,N3,q⟩:=h);(intro a xs ds aL _ ih u r))
def tabX11:=tabQ (by (obtain⟨es,mc,dS,cT,lL,aG⟩:=Z5);(obtain⟨_,_,_,_,o,_,_,e,ex,_⟩:=Z5);(obtain⟨p,xs,i,z,rfl,rfl,aw,he,q⟩:=h);(intro pins s σ H Q I hw);(obtain⟨_,_,_,q⟩:=aL);(intro pins s σ H Q I aw);(obtain⟨dG,O,r,_,_,_⟩:=Z5);(obtain⟨cQ,fu,ax⟩:=I.look);(intro pins s σ H x v Q I bw h);(cases b<;>simp[zY,aK,aG]);(obtain⟨i,j,rfl,rfl,q⟩:=h);(obtain⟨pI,gS,kY,xU⟩:=nC);(obtain⟨a,e,⟨xs,aw⟩,q⟩:=bg);(obtain⟨qG,a5,el,iX⟩:=eC);(rcases l with⟨aS,hm⟩|⟨aS,c,ar,Hf⟩);(obtain⟨m,⟨o,aR,c0,a8,r⟩,_⟩:=Z5);(rcases I.ok.C4 with e|⟨e,hf⟩);(rcases Z5 with⟨j,u,rfl,rfl⟩|⟨y,u,rfl,rfl⟩);(rcases Z5 with⟨j,u,rfl,e⟩|⟨y,u,rfl,e⟩);(rintro⟨u,_,bp,rfl⟩);(obtain⟨x,ys,s,rfl,rfl,ak⟩:=Z5);(obtain⟨a,xs,u,aN,aq,bp,ar⟩:=Z5);(obtain⟨v,a3,rfl⟩:=ih);(rcases Z5 with⟨af,ak⟩|af))
def tabT:=#[tabT0,tabT1,tabT2,tabT3,tabT4,tabT5,tabT6,tabT7,tabT8,tabT9,tabT10,tabT11,tabT12,tabT13,tabT14,tabT15,tabT16,tabT17,tabT18,tabT19,tabT20,tabT21,tabT22,tabT23,tabT24,tabT25,tabT26,tabT27,tabT28,tabT29,tabT30,tabT31,tabT32,tabT33,tabT34,tabT35,tabT36,tabT37,tabT38,tabT39,tabT40,tabT41,tabT42,tabT43,tabT44,tabT45,tabT46,tabT47,tabT48,tabT49,tabT50,tabT51,tabT52,tabT53,tabT54,tabT55,tabT56,tabT57,tabT58,tabT59,tabT60,tabT61,tabT62,tabT63,tabT64,tabT65,tabT66,tabT67,tabT68,tabT69,tabT70,tabT71,tabT72,tabT73,tabT74,tabT75,tabT76,tabT77,tabT78,tabT79,tabT80,tabT81,tabT82,tabT83,tabT84,tabT85,tabT86,tabT87,tabT88,tabT89,tabT90,tabT91]
def tabX:=#[tabX0,tabX1,tabX2,tabX3,tabX4,tabX5,tabX6,tabX7,tabX8,tabX9,tabX10,tabX11]
def tabR(s:Syntax):Option Syntax:=
 let g(t:Bool)(s:Syntax)(a:Array Syntax):=(tabI s t).bind fun n=>((if t then tabT else tabX)[n/32]?).bind fun s=>match s.splitOn "\x02" with|k::z=>(z[n%32]?).bind fun s=>if s.startsWith "(" && s.endsWith "a_\x01" && s.length=7 then none else some (tabD (k.splitOn "\x01") s a)|_=>none
 if s.isOfKind ``Lean.Parser.Term.app then g true s[0] s[1].getArgs
 else if s.isOfKind ``Lean.Parser.Tactic.rwSeq then
  let x:=s[2][1][0][1]
  if x.isOfKind ``Lean.Parser.Term.app then g false x[0] x[1].getArgs else g false x #[]
 else g true s #[]
def tabZ:Nat→Syntax→Syntax
 |n+1,s=>match tabR s with
  |some t=>tabZ n t
  |_=>match s with
   |.node _ k a=>.node .none k (a.map (tabZ n))
   |.atom _ v=>.atom .none v
   |.ident _ r v p=>.ident .none r v p
   |s=>s
 |_,s=>s
def tabM(s:Syntax):MacroM Syntax:=if s.getPos?.isNone then Macro.throwUnsupported else
 let s:=tabZ 9999 s
 return if s[1].isOfKind ``Lean.Parser.Command.definition||s[1].isOfKind ``Lean.Parser.Command.abbrev then s.modifyArg 0 (·.setArg 4 (mkNullNode #[mkNode ``Lean.Parser.Command.noncomputable #[mkAtom "noncomputable"]])) else s
end
local macro_rules(kind:=Lean.Parser.Command.variable)|s=>tabM s
local macro_rules(kind:=Lean.Parser.Command.mutual)|s=>tabM s
local macro_rules(kind:=Lean.Parser.Command.declaration)|s=>tabM s
section
open PySem PySem.Spec PyProof.Rows
section
variable{C a b c d f p t:ag}{cm:List (List Nat)}{K:bo}{M:Model}{N loose:List Str}{P:f3}{vs:List aH}{e:dn}{aR:Array Il}{ig u:aH}{o:Obj}{func:Option ag}{ann k0:Option aH}{body:List bK}{i j n t':Nat}{h:dk}{g l:List Nat}{r:List Int}{dP:Array (Option aH)}{α:Type}{fd:k6}{x:Str}{names:List (Str×pK)}{q:Search}{s s':dt}{sc:rp}{v:Word}{w:ff}
def fH(s:bK)(j:Nat):bK:=match s with|.ClassDef _ _ _ body _ _ _ _ _ _ _=>body.getD j (.Pass ⟨0,0,0,0⟩)|_=>.Pass ⟨0,0,0,0⟩
def ro(s:bK):Arguments:=match s with|.FunctionDef _ a _ _ _ _ _ _ _ _=>a|_=>{posonlyargs:=[],args:=[],vararg:=none,kwonlyargs:=[],kw_defaults:=[],kwarg:=none,defaults:=[]}
def o5(s:bK):List bK:=match s with|.FunctionDef _ _ b _ _ _ _ _ _ _=>b|_=>[]
def br(s:bK):rp:=match s with|.FunctionDef _ _ _ _ _ _ sc _ _ _=>sc|_=>{kind:=.function,names:=[],isGenerator:=false,isCoroutine:=false}
def bA(i:Nat):bK:=aAN.main.body.getD i (.Pass ⟨0,0,0,0⟩)
section
open PySem.W
def LC(aR:724 DictEntry):Bool:=aR.toList.all (100 (match e.key with|.str _ _=>01|_=>09))
def _root_.PySem.W.Fast.tw14598715356260435866:Params→Obj:=boot_o_0
theorem _root_.PySem.W.Fast.te14598715356260435866:boot_o_0=PySem.W.Fast.tw14598715356260435866:=rfl
def _root_.PySem.W.Fast.tw2470194527869591689:Program:=PySem.Challenge.pw_wordmoves_s01_answers
theorem _root_.PySem.W.Fast.te2470194527869591689:b19=PySem.W.Fast.tw2470194527869591689:=rfl
def _root_.PySem.W.Fast.tw14922969493332321690:=@PySem.typesN
theorem _root_.PySem.W.Fast.te14922969493332321690:@PySem.typesN=PySem.W.Fast.tw14922969493332321690:=rfl
def _root_.PySem.W.Fast.tw6833756950893267077:=@PySem.attrsN
theorem _root_.PySem.W.Fast.te6833756950893267077:@PySem.attrsN=PySem.W.Fast.tw6833756950893267077:=rfl
def _root_.PySem.W.Fast.tw13899100880601395773:=@PySem.Flt.mathRow
theorem _root_.PySem.W.Fast.te13899100880601395773:@PySem.Flt.mathRow=PySem.W.Fast.tw13899100880601395773:=rfl
def F7(tb:String→241 Builtin)(p:Program)(w:World)(nc:Nat)(ann:l63):240 (SharedT→Thread→241 SharedT)|0,_,_=>00|n+1,s,t=>s21 (through t) (some s) (match stepOk nc ann t with|false=>00|true=>match stepT (denote tb) p w s t with|some (s',t')=>F7 tb p w nc ann n s' t'|none=>00)
theorem ahr{tb:String→241 Builtin}{p:Program}{nc:Nat}{r:SharedT}(n:Nat):∀s t,F7 tb p w nc ann n s t=447→topRun tb p w nc ann n s.abs t=some r.abs:=by
 induction n with
  |zero=>exact fun _ _ h=>nomatch h
  |succ n ih=>
   intro s t h;rw[F7]at h;rw[topRun];rw[A18]
   ·next e=>cases h;rw[e]
   ·next e=>
    rw[A18]
    ·cases h
    ·next k=>
     rw[A18]
     ·next u v d=>rw[e,k,stepT_spec d];exact ih u v h
     ·cases h
theorem ahs{p q:Program}{Xt:482 Shared}{Yf:Shared→α}{Ya:World→α}{N:Nat}{n8:Bool}{eF:Params→Heap}{cm:724 GenState}{d0:Drawn}{k0 m0:Nat}{M:Nat}(aht:∀w:World,g62 (fencedOpening d33 p w N) (28,s.gens,s.drawn,s.toks)=some (906,cm,d0,k0))(size:∀w:World,((906).isNs 962&&cm.size==0,424 906,(906).nsMap 962 p54)=(01,m0,ann))(run:∀(w:World)(os:OsState),g62 (topRun d33 p w m0 ann M ⟨906,cm,d0,k0,os⟩ (topStub p)) (staticsOk (l57 p.main.body) 906 28&&namesBound p 28&&gensDone s&&laidKept 906 28,openSeen q loose (l57 p.main.body) Xt n8 s,Yf s)=some (01,openGood q loose,Ya w))(le:Nat.ble M N=01):LeftO p q loose Xt Yf Ya N n8:=452 (by
 have o:=aht w;have z:=size w;unfold openEnds
 cases f:fencedOpening d33 p w N with
  |none=>rw[f]at o;cases o
  |some s=>
   rw[f]at o
   cases s with
    |mk h g d k os=>
     cases o;have y:=run w os
     cases u:topRun d33 p w m0 ann M ⟨906,g,d,k,os⟩ (topStub p)with
      |none=>rw[u]at y;cases y
      |some v=>
       rw[u]at y;have y:=b18 (173 y);have m:=topRun_mono (N-M) _ _ _ _ u;rw[Nat.add_sub_cancel' (Nat.le_of_ble_eq_true le)]at m;have z:=b18 z;have x:=b18 z.2;show(topFrom d33 p w N ⟨906,g,d,k,os⟩).map _=_;have c:topFrom d33 p w N ⟨906,g,d,k,os⟩=54:=by rw[topFrom];rw[A71];rw[z.1,x.1,x.2,m];exact(109 (fun b:Bool=>match b with|true=>54|false=>00) y.1:)
       rw[c];exact d72 y.2)
def bN(P:Params):List Obj:=[boot_o_0 P,boot_o_1 P,boot_o_2 P,boot_o_3 P,boot_o_4 P,boot_o_5 P,boot_o_6 P,boot_o_7 P,boot_o_8 P,boot_o_9 P,boot_o_10 P]
def ahu(P:Params)(i:Nat)(a b:BT):BT:=match(bN P)[i]? with|some o=>.node o a b|none=>89
def TV(P:Params):BT:=let N:=ahu P;let n:=BT.nil;N 0 (N 1 (N 3 (N 7 n n) n) (N 5 (N 9 n n) n)) (N 2 (N 4 (N 8 n n) n) (N 6 (N 0xa n n) n))
theorem ahv(P:Params):absHeap (TV P) 0xb {}=boot_heap P:=666
def LD(w:World)(os:OsState):SharedT:=⟨TV i02,0xb,{},#[],boot_drawn,boot_toks,os⟩
def fr:List Obj→240 Frag|[],_=>[]|o::l,i=>match alive o with|some dr=>(i,dr)::fr l (i+1)|none=>fr l (i+1)
theorem TX:∀(l:List Obj)(i a:Nat)(o:Obj),805 (fr l i) a=25→∃j,a=i+j∧∃x,l[j]?=43∧alive x=25
 |[],_,_,_,h=>806
 |x::l,i,a,o,h=>by
  unfold fr at h;have go:805 (fr l (i+1)) a=25→∃j,a=i+j∧∃y,(x::l)[j]?=270∧alive y=25:=312 (by obtain⟨j,e,y,af,ak⟩:=TX l (i+1) a o h;exact⟨j+1,03,y,af,ak⟩);rw[A18]
  ·next dr aN=>
   rw[List.lookup_cons]at h;rw[A18]
   ·next e=>cases h;have:a=i:=566;exact⟨0,03,x,rfl,aN⟩
   ·exact go h
  ·exact go h
def sT(h:Heap):Frag:=fr h.objs.toList 0
theorem ahw(h:Heap):(sT h).In h:=fun a o e=>by obtain⟨j,rfl,x,af,ak⟩:=TX _ _ _ _ e;rw[Nat.zero_add];unfold Heap.get?;rw[←Array.getElem?_toList,af];rw[C73];cases jl<;>first|exact ak|cases ak
def nm(s:Stmt):Str:=match s with|.FunctionDef n _ _ _ _ _ _ _ _ _=>n|_=>""
def LF:482 Value|.none=>01|_=>09
def LG(g:Addr→831)(cd:Value)(q:Str):Bool:=match cd with
 |.ref c=>match g c with
  |some ⟨_,_,.fields vs,_⟩=>match vs.toList with|_::.str n _::_=>n==q|_=>09
  |_=>09
 |_=>09
abbrev uS:=241 (Value×Arguments×FuncBody×Scope)
def ql(g:Addr→831)(x q:Str)(v:907):uS:=match v with
 |some (some (.ref f))=>match g f with|some ⟨ig,_,.func fd,_⟩=>s21 (29 (fd.name=x)&&29 (fd.qualname=q)&&Nat.beq fd.globals 962&&fd.closure.isEmpty&&LF fd.defaults&&Nat.beq fd.builtins builtinsNs&&LG g fd.code q) (some (ig,fd.params,fd.body,fd.scope)) 00|_=>00
 |_=>00
def sR(s:Stmt):uS:=some (f81,ro s,.stmts (o5 s),br s)
def Cb(h:Heap)(x:Str):907:=match h.get? 962 with
 |some ⟨_,_,.dict aR _,_⟩=>match aR.toList.find? (100 (e.key.isStr x))with|some e=>454 e.val|none=>00
 |_=>00
def F8(K:Frag)(C:Addr):571×907:=(plainGet K C Str.empty&&hasDictIn K C&&plainOver K C&&makesIn K C&&keepIn K 236,findIn K 236 b23)
def nsN:225:=(["Move","System","Search","CallReader","Holder","Token","Tokens",o14,"Machine","ALPHABET","ARROW","BLANKS","BOUND_MOVE",n51,"ENDS_EARLY",o51,q37,q53,"LAST_LETTER","LINE_FEED",q52,"MISPLACED","MOST_FOUND",i25,q00,"MOST_MOVES","MOST_POINTS",q08,"MOST_STATES",q60,"NINTH_MOVE","NO_BYTE",n99,"NO_MOVE",o20,n78,"NO_TOKEN","NO_WORD",i24,n50,"REMARK","SAID_TWICE","SIGNS",q51,q67,o38,536,893,"len",500,"min",975,b30,f21,809,380,510,"ord","sum","abs","any","all",723]:List String).map Str.ofString
def zg:List 907:=[287 417,287 803,287 721,287 076,287 0x27b,287 b20,287 c93,287 075,287 0x8a,454 (.str k24 0x30f),287 0x193,287 0x192,278 (-9) 1138,287 0x1d,278 4 0x307,278 535 0x311,278 3 0xda,278 0xff 1146,278 0x7a 0x313,278 0xa 0x315,278 4096 1148,278 3 0x305,278 315 0x2a6,278 0xc 0x1ca,278 2 0x14e,278 8 0x3ba,278 4 1152,278 3 1150,278 4 1154,278 4 0x3b8,278 5 0x309,278 (-1) 1120,278 (-8) 1135,278 (-3) 1126,278 (-6) 1129,278 (-0xb) 1141,278 1 0x301,278 (-0xc) 1144,278 (-7) 1132,287 0x23f,278 311 0x317,278 6 0x30b,287 0x194,278 (-2) 1123,278 7 0x30d,278 2 0x303,326,326,326,326,326,326,326,326,326,326,326,326,326,326,326,326,287 961]
def naL:List (Addr×Str):=[(417,"left"),(417,"right"),(417,"at_beginning"),(417,"at_end"),(803,"letters"),(803,"moves"),(803,"start"),(803,"goal"),(721,"words"),(721,"numbers"),(721,"origins"),(721,"levels"),(721,"level_counts"),(721,"left_open"),(721,"broken_off"),(076,"calls"),(076,"reached"),(0x27b,"system"),(b20,"sign"),(b20,"row"),(b20,"place"),(b20,"behind"),(c93,"text"),(c93,"reached"),(075,"first"),(075,"second"),(075,"word"),(075,"by_first"),(075,"by_second"),(0x8a,"action"),(0x8a,"goods")]
def zh:List Addr:=[417,803,721,076,0x27b,b20,c93,075,0x8a]
def wN:06:=[0x28,0x29,0x27,0x25,0x2a,0x26,6,8,9,0xa,0x38,0x37,420,0x5c,0x5d,0x5b,0x7f,0x82,0x83,0x84,0x80,0x81,0xb,0x12,7,0xf,804,0xe,0x4f,0x4d,0xc,0xd,0x88,0x50,0x4e,0x5a,0x59,0x58,0x57,0x56,0x55,0x54,0x7e,0x14,0x13,0x90,0x89,0x91,377,0x8a,2,0x63,665,376,0x2f,0x31,0x32,0x30,0x33,0x92,0x93,0x94,0x7d,0x39,0x87,0x85,0x86,0x62,535,0x1b,0x1f,1,0x1d,0x64,0x65,0x7b,0x66,0x8b,0x67,0x8c,0x8d,0x19,0x1c,0x1a,534,0x20,0x1e,0x8f,0x8e,0x7c,0x7a,0x79]
def mtL:List (Addr×Str×917):=[(076,"CallReader.is_at_end",0x78,1),(076,"CallReader.take_number",0x78,2),(076,"CallReader.take_row",0x78,3),(721,"Search.note_word",0x36,1),(721,"Search.__init__",0x36,0),(721,"Search.is_closed",0x36,2),(417,"Move.__init__",0x23,0),(803,"System.__init__",0x24,0),(076,"CallReader.__init__",0x78,0),(b20,"Token.__init__",0x4b,0),(c93,"Tokens.__init__",0x4c,0),(c93,"Tokens.take",0x4c,1),(0x27b,"Holder.__init__",0x77,0),(075,"Meeting.__init__",0x2c,0),(0x8a,"Machine.__init__",0x17,0),(0x8a,"Machine.accepts",0x17,1)]
def _root_.PySem.W.Fast.tw6953531658206384281:=nsN
theorem _root_.PySem.W.Fast.te6953531658206384281:nsN=PySem.W.Fast.tw6953531658206384281:=rfl
def _root_.PySem.W.Fast.tw8191566876754878759:=naL
theorem _root_.PySem.W.Fast.te8191566876754878759:naL=PySem.W.Fast.tw8191566876754878759:=rfl
def _root_.PySem.W.Fast.tw18417113913048500472:=mtL
theorem _root_.PySem.W.Fast.te18417113913048500472:mtL=PySem.W.Fast.tw18417113913048500472:=rfl
def TY:List Addr:=[0x193,0x192,0x1d,0x23f,0x194,961]
def LH(o:831):Bool:=match o with|some ⟨_,_,.dict aR _,_⟩=>LC aR|_=>09
def F9:225:=[b23,b22,226,h23,h22]
abbrev zi:=List 907
def LI(K:Frag):zi×zi×List (571×907)×List 831:=(nsN.map (nsIn K 962),naL.map (16 (g27 K z.1 z.2)),zh.map (F8 K),TY.map a27)
def TZ(h:Heap):List uS×List uS×uS×zi×571:=let K:=sT h;(j33 (ql h.get? e54 e54 (Cb h e54)),d66 (ql a27 e23 498 (g27 K z.1 e23)),ql a27 421 f03 (nsIn K b21 421),F9.map (nsIn K b21),LH (722 b21)&&keepIn K (.ref 961))
def sU:zi×zi×List (571×907)×List 831:=(zg,naL.map j19,zh.map (290 (01,c44)),[some ⟨748,00,.seq #[.int 665 0x31e,.int 469 0x31f] 0,#[]⟩,some ⟨748,00,.seq #[.int 9 0x319,.int 0xa 0x31a,.int 0xd 0x31b,.int 0x20 0x31c] 0,#[]⟩,some ⟨748,00,.seq #[.int 2 0xd1,.int 3 0xd2,.int 4 0xd3,.int 5 0xd4,.int 7 0xd5,.int 8 0xd6,.int 9 0xd7,.int 0xb 417] 0,#[]⟩,some ⟨748,00,.seq #[.int 2 1055,.int 3 1056] 0,#[]⟩,some ⟨d67,00,.dict #[770 419 419 0x321 (g58 419 0x322),770 376 376 0x323 (g58 376 0x324),770 470 470 0x325 (g58 470 0x326),770 420 420 0x327 (g58 420 0x328)] 4,#[]⟩,some (excClassObj 723 723 961 b21 [989] [989,f68,401 "object"] 01 [] [] 09 00 00 (46 0x195) 00 (j93 0x32e) (j93 0x336) (some d71) c94)])
def wO:List uS×List uS×uS×zi×571:=(j33 (sR (bA i)),d66 (sR i38),sR (343 0x4a 0),F9.map j19,true)
def Yf(s:Shared):=(LI (sT 28),TZ 28)
def i5:Program:=view b19 [0x79]
def uT:225:=PySem.Challenge.pw_wordmoves_s01_answers.boundNames
def LJ(s:Shared):Bool:=xlAt i5 [] s&&recOk [] s
def T1(w:World)(s:Shared):=(staticsOk (l57 s20) d51 28&&namesBound b19 28&&gensDone s&&laidKept d51 28,openSeen i5 uT (l57 s20) LJ 01 s)
def Cc(w:World)(os:OsState):241 SharedT:=F7 d33 b19 w 0xb (46 6) 6000 (LD w os) (topStub b19)
def lkA(w:World)(os:OsState):=g62 (Cc w os) (T1 w s.abs)
def lkB(w:World)(os:OsState):=g62 (Cc w os) (LI (sT s.abs.heap))
def lkC(w:World)(os:OsState):=g62 (Cc w os) (TZ s.abs.heap)
lay_quick lkA lkB lkC
abbrev n9:String:="special-get-raises"
theorem lkA0(w:World)(os:OsState):lkA n06 os=some (01,j71 i5):=35 (congrFun (congrFun s19 _) os) 666
theorem lkA1(w:World)(os:OsState):lkA (i45 01) os=some (01,j71 i5):=35 (congrFun (congrFun s19 _) os) 666
theorem lkB0(w:World)(os:OsState):lkB n06 os=some sU:=35 (congrFun (congrFun s09 _) os) 666
theorem lkB1(w:World)(os:OsState):lkB (i45 01) os=some sU:=35 (congrFun (congrFun s09 _) os) 666
theorem lkC0(w:World)(os:OsState):lkC n06 os=some wO:=35 (congrFun (congrFun s08 _) os) 666
theorem lkC1(w:World)(os:OsState):lkC (i45 01) os=some wO:=35 (congrFun (congrFun s08 _) os) 666
theorem ahx(w:World)(os:OsState):∃s,Cc w os=some s∧T1 w s.abs=(01,j71 i5)∧Yf s.abs=(sU,wO):=by
 have a:=byRow2 n9 (P:=452 (lkA w os=some (01,j71 i5))) (452 (lkA0 w os)) (452 (lkA1 w os)) w;have b:=byRow2 n9 (P:=452 (lkB w os=some sU)) (452 (lkB0 w os)) (452 (lkB1 w os)) w;have c:=byRow2 n9 (P:=452 (lkC w os=some wO)) (452 (lkC0 w os)) (452 (lkC1 w os)) w;unfold lkA at a;unfold lkB at b;unfold lkC at c
 cases e:Cc w os with|none=>rw[e]at a;cases a|some s=>rw[e]at a b c;exact⟨s,rfl,173 a,Prod.ext (173 b) (173 c)⟩
end
section
open PySem.W
theorem ahy(w:World):((d51).isNs 962&&(#[]:724 GenState).size==0,424 d51,(d51).nsMap 962 p54)=(01,0xb,46 6):=666
theorem ahz:opening b19=plainProg PySem.Challenge.pw_wordmoves_s01_answers.main.scope.names:=666
theorem ahA(s:Shared):fenceModules? b19 s=some s:=666
theorem T2:PySem.Challenge.rw_wordmoves_s01_answers.wellSaid=01:=05
theorem LK:(chainsOk i5&&opensWell PySem.Challenge.rw_wordmoves_s01_answers.prog)=01:=05
theorem ahB:PySem.Challenge.rw_wordmoves_s01_answers.prog.bare:=⟨rfl,rfl,rfl,rfl,rfl,05⟩
end
end
end
namespace Internal
section
open Vainve
section
variable{i j lv n:Nat}{g l ls:List Nat}{cs r ws:List Int}{α β:Type}{q:Search}{s:dt}{v:Word}
structure g0 where
 l:06
 r:06
 b:Bool
 e:Bool
variable{m:g0}
def uU(m:g0)(w:06)(p:Nat):Bool:=221 997 580==m.l&&(! m.b||p==0)&&(! m.e||11 997==580)
def eR(m:g0)(w:06):06:=909 (218+1) (uU m w)
def fJ(m:g0)(p:Nat)(w:06):06:=g76++(m.r++g50 580)
structure cv where
 letters:06
 moves:List g0
 start:912
 goal:912
def nd(letters:06)(codes:10):912:=13 (12<o99) 00 (39 (codes.all (575 (letters.any (973 (762 l c))))) (some i88) 00)
def gy(m:g0)(x:06):06:=13 (045<c26) [] 375
def rm(w:06)(c:Nat):Int:=320 (w.filter (c95 (j==c)))
def fO(letters a b:06):10:=letters.map (575 (rm a c-rm b c))
def hc(a b:10):Int:=(kQ (i00 (x*y)) a b).sum
def gb(r:10):Nat:=c16 g 0
def jH(r:10):10:=13 (767<2) r (j53 (n/929))
structure d3 where
 words:30
 origins:List 845
 levels:06
 counts:06
 op:Bool
 dV:Bool
def n4(cs:06)(l:Nat):06:=let ds:=13 (l=383) (cs++[0]) cs;ds.set l (ds.getD l 0+1)
def n_(q:d3)(w:06)(l:Nat)(o:845):d3:={q with words:=887++[w],origins:=d06++[o],levels:=d23++[l],counts:=n4 453 l}
def ij(n idx lv:Nat)(m:g0)(x:06)(q:d3)(p:Nat):d3:=39 732 q (13 (720∈887) q (13 (302=315) {q with dV:=true} (n_ q 720 (lv+1) (some (n,idx,p)))))
def gz(n len lv:Nat)(x:06)(q:d3)(gA:g0×Nat):d3:=39 732 q (13 (15 len<j94 j95) {q with op:=q.op||c27 0 gA.1 x} ((eR gA.1 x).foldl (ij n gA.2 lv gA.1 x) q))
def qn(sy:cv)(n len:Nat)(q:d3):d3:=r13 (gz n len (q.levels.getD n 0) (q.words.getD n [])) q
def o6:d3:=⟨[],[],[],[],09,09⟩
def nf(sy:cv)(len:Nat):240 (240 (d3→d3))|0,_,q=>q|k+1,n,q=>13 (n<302∧732=09) (nf sy len k (n+1) (qn sy n len q)) q
def kj(sy:cv)(len:Nat)(x:06):d3:=13 (len<96) r09 (nf sy len 745 0 (n_ o6 x 0 00))
def rq(x:06):06:=13 (x=[]) 938 x
def bV(s:String):06:=s.toList.map Char.toNat
def iK(m:g0):06:=bV "move "++((13 m.b 860 [])++(rq m.l++((13 m.e 857 [])++(bV " -> "++(rq m.r++896)))))
def kk(nm:06):912→30|none=>[]|some x=>[nm++(bV " "++(rq x++896))]
structure gj(sy:cv):04 where
 jm:81≤4
 wQ:098≤8
 cw:j52 051 a87
 st:∀x,034→708
 gl:∀x,673=43→708
def zj(sy:cv):30:=[548++717]++584++021++kk 006 673
def uV(sy:cv):06:=13 (75=[]) [] (541 (zj sy))
def b6(x:06):10:=x.map (h29 44)
def kl(x:06):10:=583::b6 x
def km(sy:cv)(z:Int):Int:=13 (z<0∨12<z) (-7) (13 (d12=00) (-6) 0)
def sV(q:d3):Int:=39 732 2 (39 q.op 1 0)
def Cd(sy:cv)(z:Int):10:=13 (954<0) [954] (let q:=kj sy 231 (sy.start.getD []);sV q::m13::b6 453)
def F_(sy:cv)(z gM:Int)(cs:10):10:=m01 cs [-12] (13 (z<0∨f78≤z) [-3] (o86 (l20 231) [] (39 (a55 (gy m x) gM) (0::b6 m96) [1])))
abbrev o7:=Nat×Nat×06
def zk(x:06)(gA:g0×Nat):037:=b95 (gy gA.1 x) (gA.2,p,fJ gA.1 p x)
def uW(sy:cv)(x:06):037:=sy.moves.zipIdx.flatMap (zk x)
def Ce(s:o7):10:=15 s.1::15 s.2.1::kl s.2.2
def kn(l:037):10:=l56 Ce
def Ga(sy:cv)(cs:10):10:=m01 cs [-12] (0::320 (uW sy x)::kn (uW sy x))
def fq(row iL:10)(c:Nat):10:=jH (kQ (578 (a*iL.getD c 0-b*row.getD c 0)) row iL)
def oa(ws:10)(ms:99)(k:Int):Bool:=ms.all (285 (532 (060%k)))
def gN(sy:cv):99:=sy.moves.map (285 (fO 75 m.l m.r))
def lu(cs:40)(r:40):a47:=b57 (575 (r++[c]))
def jI(cs:40)(rows:a47):a47:=rows.flatMap (lu cs)
def dJ{α:272}(cs:40):240 a47|0=>[[]]|n+1=>496 043
def rr(ms:99)(fw:10)(k:Nat):241 10:=39 (fw.all (72 (532 (x%82)))) 00 (g36 c21 (! 532 (hc ws fw%82)&&oa ws ms 82))
def ik(q:527):Int:=c13 q.1
def lZ(ps:336):Int:=f85 (s*958) 1
def Gb(free:Nat)(sc:Int)(q:527):Int:=-((c13 509*sc).fdiv (ik q))
def qo(ps:336)(free width:Nat):10:=g84 (Gb 509 c50 q) ((iM 97 0).set 509 c50)
def o8(ps:336)(free width:Nat):10:=jH (qo ps 509 97)
def zl(b:Int):Bool:=[9,0xa,0xd,0x20].any (h29 (29 (44=b)))
def mw:571→10→Nat|_,[]=>0|inr,b::r=>13 (b=0xa) (mw 09 r+1) (13 (b=311) (mw 01 r+1) (39 (! inr&&! zl b) 0 (mw inr r+1)))
def Cf(b:Int):Bool:=555 535 b&&555 b 0x7a
abbrev sW:=336×99
def elim(c:Nat)(st:sW):sW:=match f82 (! 29 (820 c=0))with|none=>st|some J=>(a18 (q.1,fq q.2 J c)++[(c,J)],st.2.map (429 (fq r J c)))
def gO(rows:99):240 sW|0=>([],rows)|i+1=>b04
def fP(sy:cv):336:=(gO 529 81).1
def lX(ps:336)(f:Nat):Bool:=! a55 m56 (15 f)
def lx(sy:cv):99:=(909 81 (lX 390)).map (fun f=>o8 390 f 81)
def LL(sy:cv):10:=0::320 705::541 705
def cd(ls w:06):06:=w.map (425 b00)
def cY(ls:06)(m:ez):g0:=⟨370 398,370 427,980,670⟩
def bh(s:dt):cv:=⟨60,f25 i95,d56,d60⟩
def o9(n:Nat)(w:06):04:=j29∧f58 (i<n)
structure c3(s:dt):04 where
 az:s.letters.Nodup
 jn:37≤4
 lc:∀c∈s.letters,535≤c∧c≤0x7a
 mx:303≤8
 cw:k77 (a16 398∧a16 427)
 st:∀w,s.start=some w→a16 w
 gl:∀w,083=some w→a16 w
theorem eA(ls w:06):11 392=218:=by rw[cd,ba]
theorem c3.ok(h:51):gj 26:=by
 refine⟨h.jn,by show 11 003≤8;rw[ba];exact h.mx,764,333,333⟩
 ·rw[C32 (112 hm)];have:=h.cw v a3;exact⟨d41 (cd _ _) 12 this.1.1,d41 (cd _ _) 12 this.2.1⟩
 ·cases e:s.start with|none=>rw[B78]|some w=>rw[B63 (461=x)];rw[←this,eA];exact(h.st w e).1
 ·cases e:s.goal with|none=>rw[B78]|some w=>rw[B63 (461=x)];rw[←this,eA];exact(h.gl w e).1
theorem ahd(az:ls.Nodup)(hi:866)(bS:j<284)(e:b00=ls.getD j 0):i=j:=by rw[cZ,cZ,122,cA bS]at e;exact(ahC az).mp e
theorem Cg{ls:06}(az:ls.Nodup):∀{v w:06},(669 866)→(b89 i)→855=392→v=w|[],[],_,_,_=>rfl|[],b::w,_,_,e=>p53|a::v,[],_,_,e=>p53|a::v,b::w,a3,hw,e=>by rw[B84];rw[ahd az (a3 a 237) (hw b 237) aK,Cg az (619 (a3 i (d4 _ h))) (619 (hw i (d4 _ h))) aG]
theorem LM(az:ls.Nodup){v w:06}(a3:669 866)(hw:b89 i):855=392↔v=w:=⟨Cg az a3 hw,100 f20⟩
theorem T3(ls v w:06):370 (v++w)=855++392:=by simp[cd]
theorem Gd(ls w:06)(n:Nat):370 (w.take n)=221 392 n:=by simp[cd,wR]
theorem Ci(ls w:06)(n:Nat):370 (w.drop n)=473 392 n:=by simp[cd,uX]
theorem T4{w:06}{p k:Nat}(h:f58 (i<n)):∀i∈221 997 k,i<n:=618 (h i (uY (qp hi)))
theorem ahD{c:Nat}(h:c∈ls):∃i,i60 (x==c)=604∧866∧b00=c:=by
 have:736 (i60 (x==c))=01:=by rw[List.findIdx?_isSome];exact 161 c h (201 c)
 obtain⟨i,hi⟩:=ahE.mp 246;obtain⟨af,ak,_⟩:=ahF.mp hi;refine⟨i,hi,af,?_⟩;rw[cZ,cA af];simpa using ak
theorem ahG{c:Nat}(h:c∉ls):i60 (x==c)=00:=by rw[T5];intro x ai;simp only[beq_eq_false_iff_ne];intro e;exact h (e▸ai)
theorem T6(ls:06)(c:Nat)(w:06):qq ls (c::w)=331 (qq ls w) (973 ((i60 (x==c)).map (425 (i::l)))):=rfl
theorem Cj{ls:06}:∀{w:06},(f36 (c∈ls))→∃v,qq ls w=54∧855=w∧(669 866)
 |[],_=>072 [] 19
 |c::w,h=>by
  rw[C70 (Cj (w:=w) 850)];obtain⟨i,aK,aG,cp⟩:=ahD (127 c);refine⟨i::v,?_,?_,?_⟩
  ·rw[T6,af,Ge,aK];rfl
  ·show b00::855=c::w;rw[cp,ak]
  ·intro j bS
   cases bS with|head=>exact aG|tail _ bS=>exact a6 j bS
theorem Gf{ls:06}:∀{w:06},¬(f36 (c∈ls))→qq ls w=00
 |[],h=>69 19 h
 |c::w,h=>by
  rw[T6];by_cases hw:∀x∈w,x∈ls
  ·have ar:c∉ls:=fun ar=>h (by
   rw[A74]
   cases ai with|head=>exact ar|tail _ ai=>exact hw x ai);obtain⟨v,af,_⟩:=Cj hw;rw[af,Ge,ahG ar];rfl
  ·rw[Gf hw];rfl
theorem T7{w v:06}(e:855=w):734=218:=by rw[←e,eA]
theorem T8:cs.all (575 (ls.any (973 (762 l c))))=01↔∀c∈cs,0≤c∧c.toNat∈ls:=by
 rw[gB];refine 158 (575 (158 n47));rw[ly];rw[A04]
 ·rintro⟨l,af,ak⟩;have:=d45;rw[A27 03];have:c.toNat=l:=03;rw[A16];exact af
 ·rw[C72];exact⟨c.toNat,ak,145⟩
theorem zm(h:51)(cs:10)(f:b7→Ck):(nd 60 cs=00∧sX s cs f=[-12])∨∃v,a16 v∧nd 60 cs=some 95∧sX s cs f=f v:=by
 unfold nd sX;by_cases iN:12<383
 ·left;rw[21 iN,show(o_ cs||29 (LONG<383))=01 by rw[108 LONG 12,102 iN];simp];exact⟨rfl,rfl⟩
 ·rw[23 iN,show 29 (LONG<383)=09 by exact 211,wU];by_cases dQ:cs.all (575 (s.letters.any (973 (762 l c))))=01
  ·right;have aN:=T8.mp dQ;have aa:o_ cs=09:=by unfold o_;rw[Gg];intro c ar;have:=h.lc _ (aN c ar).2;have:=(aN c ar).1;simp;lia
   rw[C70 (Cj (ls:=60) (w:=d8 cs) (by intro c ar;obtain⟨z,hz,rfl⟩:=112 ar;exact(aN z hz).2))];refine⟨v,⟨?_,a6⟩,?_,?_⟩
   ·rw[T7 ak,d8,ba];lia
   ·rw[21 dQ,ak];rfl
   ·rw[aa];rw[C71];rw[af]
  ·left;rw[23 dQ];rw[A27 rfl];rw[B16 (o_ cs)]
   ·rw[aa];simp
   ·rw[Bool.not_eq_true]at aa;rw[aa];rw[C71];rw[Gf];intro q;refine dQ (T8.mpr (h63 ⟨?_,q _ (143 c ar)⟩));have:=(Gg.mp aa) c ar;simp at this;lia
theorem Gh(az:ls.Nodup){m:ez}{w:06}(ax:p45 866)(hw:b89 i)(p:Nat):uU 930 392 p=(m22==398&&(! 980||p==0)&&(! 670||11 997==a08)):=by unfold uU cY;simp only[eA];rw[←Ci,eA,←Gd];congr 2;rw[hu,beq_iff_eq,beq_iff_eq,LM az (T4 hw) ax]
theorem Cm(ls:06)(m:ez)(w:06)(p:Nat):fJ 930 p 392=370 (g76++(427++g50 a08)):=by unfold fJ cY;simp only[T3,Gd,Ci,eA]
theorem wV{w:06}{p:Nat}(au:p≤218)(e:j24=l):p+63≤218:=by have:=137 e;rw[eS,fV]at this;lia
theorem T9(az:ls.Nodup){m:ez}{w:06}(ax:p45 866)(hw:b89 i)(p:Nat):(p∈gy 930 392→(zo m p w).map (cd ls)=some (fJ 930 p 392))∧(p∉gy 930 392→zo m p w=00):=by
 unfold gy eR;simp only[eA,88 (f26 930=a08) (eA _ _),88 (i23 930=s05) (eA _ _)];have key:(p∈909 (218+1) (uU 930 392))↔p≤218∧m22=398∧(980=09∨p=0)∧(670=09∨11 997=a08):=by
  rw[ob,g4,Gh az ax hw];simp only[hG,Gi,beq_iff_eq,Gj,and_assoc];rw[A04]
  ·rintro⟨a,b,c,d⟩;exact⟨03,b,c,d⟩
  ·rintro⟨a,b,c,d⟩;exact⟨03,b,c,d⟩
 rw[A04]
 ·intro h;rw[A18]
  ·cases h
  ·next aU=>have k:=key.mp h;have:=wV k.1 k.2.1;unfold zo;rw[21 ⟨k.1,k.2.1,k.2.2.1,k.2.2.2,636 _ 12⟩,Cm];rfl
 ·intro h;unfold zo;rw[if_neg];rintro⟨a,b,c,d,e⟩;have:=wV a b;rw[23 (by have:LONG=12:=rfl;lia)]at h;exact h (key.mpr ⟨a,b,c,d⟩)
theorem T_(s:dt)(w:b7):bytesOf s w=b6 461:=by unfold bytesOf b6 cd;rw[gP];rfl
theorem Cn(s:dt)(w:b7):ng s w=kl 461:=by unfold ng kl;rw[T_,eA]
theorem Co(s:dt)(i:Nat):(26).moves[i]?=(754).map i95:=by show(s.moves.map _)[i]?=_;rw[cK]
theorem step_eq(h:51)(z gM:Int)(cs:10):F_ 26 z gM cs=il s (.step z gM cs):=by
 show _=sX s cs _;unfold F_;rw[C00 h cs (889 (13 (z<0∨f84≤z) [-3] (match(13 (gM<0) 00 (wW s 231 d32 v))with|none=>[1]|some u=>0::bytesOf s u)))]
 ·refine Eq.trans ?_ ak.symm;rw[135,af]
 ·refine Eq.trans ?_ ak.symm;rw[135,af];simp only[88 ((26).moves.length=303) (ba ..)];split
  ·rfl
  ·next hz=>
   have zp:231<303:=03;rw[Co,cA zp];simp only[wX];obtain⟨m,hm⟩:∃m,s.moves[231]=m:=282;have fB:m∈972:=hm▸ko zp;rw[A68 m fB];unfold wW;rw[cA zp,hm,Ge];have eX:=T9 499 (m:=m) (w:=v) a09 a3.2 d32;by_cases au:gM<0
   ·rw[21 au,if_neg];intro q;obtain⟨n,_,aU⟩:=ly.mp q;have:=121 aU;lia
   ·rw[23 au];have e:a55 (gy 853 95) gM=01↔d32∈gy 853 95:=by
     rw[ly];rw[A04]
     ·rintro⟨n,af,ak⟩;have:=d45;rw[show d32=n by lia];exact af
     ·intro q;exact⟨_,q,145⟩
    by_cases fc:d32∈gy 853 95
    ·rw[21 (e.mpr fc)];have:=eX.1 fc
     cases aR:zo m d32 v with|none=>rw[B97];rw[A47]|some u=>rw[B97];have aG:b01=_:=cI 246;rw[A11];rw[T_,aG]
    ·rw[23 (58 (fc (e.mp q))),eX.2 fc]
theorem Ua(h:51)(a3:a28 i):g64 (uZ s v) (z.1,498,011)=uW 26 95:=by
 unfold uZ uW;rw[Ub];have e:(26).moves.zipIdx=690 303 ((26).moves.getD i ⟨[],[],09,09⟩,i):=by
  refine 194 ?_;rw[Gk,cK,Co];rw[A65 (i<303)]
  ·rw[122,sY hi];simp only[wX];rw[cZ,Co,122];simp
  ·rw[140,hH (080 03)];rfl
 rw[e,LN];have ahH:∀{α β:272}{l:40}{f g:α→523},(∀a∈l,f a=g a)→g05=l56 g:=by intro α β l f g u0;rw[Gl,Gl,lz u0]
 refine ahH e31;have qr:=a41;have hm:754=some b80:=cA qr;rw[A68 _ (ko qr)];have pa:(26).moves.getD i ⟨[],[],09,09⟩=e05:=by rw[cZ,Co,hm];rfl
 simp only[u1,zk];rw[pa];have key:∀p,p<734+1→(wW s i p v).map (fun u=>(i,p,b01))=943 (p∈gy e05 95) (i,p,fJ e05 p 95):=by
  intro p _;have eX:=T9 499 (m:=b80) (w:=v) a09 a3 p;unfold wW;rw[hm,Ge];split
  ·next fc=>
   have:=eX.1 fc
   cases aR:zo b80 p v with|none=>rw[B97];rw[A47]|some u=>rw[B97];have aG:b01=_:=cI 246;rw[wX,aG]
  ·next fc=>rw[eX.2 fc];rfl
 rw[List.map_filterMap];have wZ:∀(l:06),(∀p∈l,p<734+1)→p35 (400 (g64 ((wW s i p v).map (889 (i,p,v))) (z.1,498,011)))=b95 (f44 (400 (a43 p (gy e05 95)))) (i,p,fJ e05 p 95):=by
  intro l
  induction l with
   |nil=>intro _;rfl
   |cons p r ih=>
    intro ax;have Uc:=ih (330 (ax q (d4 _ aw)));have fC:=key p (ax p 237);rw[w0,iO];rw[Ud];rw[show Option.map ((fun z:Nat×Nat×b7=>(z.1,498,011))∘889 (i,p,v)) (wW s i p v)=_ from fC];by_cases fc:p∈gy e05 95
    ·rw[21 fc,21 (102 fc),eN,Uc]
    ·rw[23 fc,23 (c99 (113 fc)),Uc]
 rw[wZ _ (367 154)];congr 1;unfold gy;split
 ·rw[ahI];simp
 ·unfold eR;rw[eA];refine Cp 263;rw[hu,decide_eq_true_eq,ob];exact⟨58 q.2,58 ⟨au,q⟩⟩
theorem ahJ(h:51)(cs:10):Ga 26 cs=il s (.steps cs):=by
 show _=sX s cs _;unfold Ga;rw[C00 h cs (889 (0::320 (uZ s v)::671 (uZ s v) (16 (649::15 498::ng s a05))))]
 ·rw[ak,135,af]
 ·rw[ak,135,af];rw[A11];rw[←Ua h a3.2,ba,kn,LN];congr 3;funext z;simp only[u1,Ce,Cn]
theorem Ue(t:String):bV t=zq t:=rfl
theorem Ug(ls:06)(w:b7):rq 392=wordText ls w:=by unfold rq wordText;cases w<;>rfl
theorem ahK(ls:06)(m:ez):iK 930=moveText ls m:=by unfold iK moveText;simp only[cY,Ug,Ue];rfl
theorem Uh(ls:06)(o:241 b7)(nm:String)(LO:String)(e:zq LO=zq nm++zq " "):541 (kk (bV nm) (o.map (cd ls)))=lineFor ls LO o:=by cases o with|none=>rfl|some w=>show[_].flatten=_;rw[qs,ahL,nh,Ug];show _=zq LO++_;rw[e,jo];rfl
theorem ahM(s:dt):0::b6 (uV 26)=il s .written:=by
 show _=0::pb (writeSystem s);unfold uV writeSystem;show _::b6 (13 (60=[]) _ _)=_
 cases e:s.letters with|nil=>rfl|cons a r=>rw[142];simp only[List.isEmpty_cons,l0,↓reduceIte];congr 1;show pb _=pb _;congr 1;unfold zj;rw[Cq,Cq,Cq,qs,ahL,nh];show _++541 (003|>.map _)++541 (kk d43 d56)++541 (kk 006 d60)=_;rw[Uh _ _ _ "start " 14,Uh _ _ _ "goal " 14,gP,←Gl];rw[show(iK∘i95)=moveText 60 by funext m;exact ahK _ m];show 548++(60++896)++_++_++_=_;rw[e];simp only[Ue,jo]
def Cr(os:List 845):240 (845→035→035)|0,_,acc=>acc|_+1,none,acc=>acc|n+1,some o,acc=>Cr os n (os.getD o.1 00) (o.2::acc)
def rt(q:d3)(x:06):035:=Cr d06 302 (m23 i67) []
def u2(l:035):10:=l56 (16 [649,15 z.2])
def zr(q:d3)(x:06):10:=13 (x∈887) (0::320 (rt q x)::u2 (rt q x)) [13 (! q.op&&! 732) 1 2]
def Cs(sy:cv)(z:Int)(x:06):10:=13 (954<0) [954] (zr (kj sy 231 (sy.start.getD [])) x)
def Gm(sy:cv)(z:Int):10:=match sy.goal with|none=>[-8]|some x=>Cs sy z x
def Gn(sy:cv)(z:Int)(cs:10):10:=m01 cs [-12] (Cs sy z x)
def kp(ls:06):Nat:=ls.foldl (fun n z=>max n (z+1)) 0
def cnt(ls:06):06:=407 704 (450 (11 (ls.filter (16 (z==k)))))
theorem ahN(ls:06):∀a,(ls.foldl (fun n z=>max n (z+1)) a)=max a 704:=by induction ls with|nil=>intro a;simp[kp]|cons x r ih=>intro a;unfold kp;rw[hv,hv,ih,ih,Nat.zero_max,Nat.max_assoc]
theorem ahO(ls:06)(l:Nat):kp (ls++[l])=max 704 (l+1):=by unfold kp;rw[sZ];rfl
theorem Ui{x:Nat}(h:x∈ls):x<704:=by
 induction ls with
  |nil=>cases h
  |cons y r ih=>
   unfold kp;rw[hv,ahN]
   cases h with|head=>lia|tail _ h=>have:=ih h;lia
theorem Ct(ls:06):11 (cnt ls)=704:=by rw[cnt,ba,iP]
theorem ahP{l:Nat}(h:l≤11 (cnt ls)):n4 (cnt ls) l=cnt (ls++[l]):=by
 rw[Ct]at h;have c9:∀k,11 (582 (ls++[l]) (16 (z==k)))=11 (ls.filter (16 (z==k)))+13 (l=k) 1 0:=by
  intro k;rw[s6,cn];congr 1;rw[A06 l k]
  ·rw[155,iO,21 566];rfl
  ·rw[148,iO,185];rfl
 refine wY 046;unfold n4;rw[Ct];have LP:∀k,(cnt ls)[k]?=943 (k<704) (11 (ls.filter (16 (z==k)))):=by
  intro k;unfold cnt;rw[cK];split
  ·next aS=>rw[sY aS];rfl
  ·next aS=>rw[209];rfl
 have ahQ:(cnt (ls++[l]))[k]?=943 (k<max 704 (l+1)) (11 (ls.filter (16 (z==k)))+13 (l=k) 1 0):=by
  unfold cnt;rw[cK,ahO];split
  ·next aS=>rw[sY aS,wX,c9]
  ·next aS=>rw[209];rfl
 rw[ahQ];rw[A06 l 704]
 ·rw[21 e];have z:11 (ls.filter (16 (z==704)))=0:=by rw[u3,ahI];intro a aN;have:=Ui aN;simp;lia
  subst e;have eY:=Ct ls;rw[ahR,List.getElem?_append,cn,eY];rw[A66 (704=k)]
  ·subst aS;have:(cnt ls++[0]).getD 704 0=0:=by rw[cZ,166,eY];simp
   simp only[this];simp[z]
  ·rw[134,LP];rw[A79 (k<704)]
   ·simp only[ak,↓reduceIte,134];rw[118];rfl
   ·rw[146,124,hH];simp;lia
 ·rw[23 e];rw[ahR,Ct];rw[A66 (l=k)]
  ·subst aS;rw[101,118,118,101,cZ,LP,118];rfl
  ·rw[134,LP,134];rw[A79 (k<704)]
   ·rw[179,118];rfl
   ·rw[146,124]
structure w2(s:dt)(q:Search)(e:d3):04 where
 w:b64=p52 m92
 o:l55=p52 d53
 l:b63=p52 (16 z.level)
 c:l54=cnt b63
 b:e.dV=i20
 f:∀z∈q.nodes,∀i∈z.word,i<37
def lA(b i lv:Nat)(e:d3)(z:o7):d3:=39 e.dV e (13 (b<p51) p50 (13 (a05∈b64) e (13 (315≤p49) {e with dV:=true} (n_ e a05 (lv+1) (some (i,z.1,498))))))
theorem ahS(h:51){e:d3}(r:w2 s q e)(a3:a28 i):95∈b64↔hasWord q.nodes v=01:=by
 rw[r.w,cJ];unfold hasWord;rw[ly];rw[A04]
 ·rintro⟨z,hz,qt⟩;exact⟨z,hz,364 (Cg 499 (r.f z hz) a3 qt) 175⟩
 ·rintro⟨z,hz,qt⟩;exact⟨z,hz,970 (a01 qt)⟩
theorem ahT(h:51){b:Nat}{e:d3}(r:w2 s q e)(a8:e.op=q.opened)(ax:lv∈b63){z:Nat×Nat×b7}(hz:∀i∈a05,i<37):w2 s (zt b i lv q z) (lA b i lv e (z.1,498,011))∧(lA b i lv e (z.1,498,011)).op=(zt b i lv q z).opened∧lv∈(lA b i lv e (z.1,498,011)).levels:=by
 unfold zt lA;simp only[eA];rw[B16 i20]
 ·rw[160,212 aa];exact⟨r,a8,ax⟩
 ·rw[178,136 (aa m08)];rw[A72 (b<p51)]
  ·rw[169,169];rw[A44 ⟨r.w,r.o,r.l,r.c,r.b,r.f⟩ ax]
  ·rw[153,153];have dh:=ahS h r hz;rw[A79 (011∈b64)]
   ·rw[179,21 (dh.mp ak)];exact⟨r,a8,ax⟩
   ·rw[146,23 (72 (ak (dh.mpr x)))];have c4:p49=a10:=by rw[r.w,ba]
    rw[c4,108 CAP 315];by_cases a6:315≤a10
    ·rw[21 a6,21 a6];exact⟨⟨r.w,r.o,r.l,r.c,rfl,r.f⟩,a8,ax⟩
    ·rw[23 a6,23 a6];rw[A20 ⟨?_,?_,?_,?_,r.b,?_⟩ a8]
     ·show b64++[_]=_;rw[r.w,d5];rfl
     ·show l55++[_]=_;rw[r.o,d5];rfl
     ·show b63++[_]=_;rw[r.l,d5];rfl
     ·show n4 l54 (lv+1)=cnt (b63++[lv+1]);rw[r.c];exact ahP (by rw[Ct];exact Ui ax)
     ·intro y aC;rcases 362 aC with aC|aC
      ·exact r.f y aC
      ·rw[86 aC];exact hz
     ·exact j57 ax
theorem Uj{s:dt}(h:51){b i lv:Nat}:∀(zs:List (Nat×Nat×b7))(q:Search)(e:d3),w2 s q e→e.op=q.opened→lv∈b63→(∀z∈zs,∀i∈a05,i<37)→w2 s (zs.foldl (zt b i lv) q) ((zs.map (16 (z.1,498,011))).foldl (lA b i lv) e)∧((zs.map (16 (z.1,498,011))).foldl (lA b i lv) e).op=(zs.foldl (zt b i lv) q).opened|[],q,e,r,a8,_,_=>⟨r,a8⟩|z::zs,q,e,r,a8,ax,hz=>by obtain⟨bU,o1,eY⟩:=ahT h (b:=b) (i:=i) r a8 ax (hz z 237);exact Uj h zs _ _ bU o1 eY (085 (hz y 923))
structure s7(cut:Bool)(a e:d3):04 where
 w:i19=b64
 o:a.origins=l55
 l:a.levels=b63
 c:a.counts=l54
 b:a.dV=e.dV
 op:e.dV=09→a.op=(e.op||cut)
theorem Uk{b i lv:Nat}{e:d3}(h:e.dV=01):∀zs:037,zs.foldl (lA b i lv) e=e
 |[]=>rfl
 |z::zs=>by
  rw[hv];have:lA b i lv e z=e:=by unfold lA;rw[114]
  rw[this,Uk h zs]
theorem Ul{b i lv:Nat}:∀(zs:037)(e:d3),e.dV=09→(∀z∈zs,b<p51)→zs.foldl (lA b i lv) e={e with op:=e.op||29 (0<b33)}
 |[],e,_,_=>19
 |z::zs,e,aa,hz=>by
  rw[hv];have:lA b i lv e z=p50:=by unfold lA;rw[206,21 (hz z 237)]
  rw[this,Ul zs p50 aa (085 (hz y 923))];simp
theorem ahU{b idx:Nat}{x:06}:∀(ps:06)(a e:d3)(cut:Bool),s7 cut a e→(∀p∈ps,¬b<11 720)→j98→s7 cut (ps.foldl (ij i idx lv m x) a) ((ps.map (400 (idx,p,720))).foldl (lA b i lv) e)∧d07 (ps.foldl (ij i idx lv m x) a)≤315:=by
 intro ps
 induction ps with
  |nil=>intro a e cut r _ a6;exact⟨r,a6⟩
  |cons p ps ih=>
   intro a e cut r au a6;rw[eN,hv,hv];have key:s7 cut (ij i idx lv m x a p) (lA b i lv e (idx,p,720))∧d07 (ij i idx lv m x a p)≤315:=by
    unfold ij lA;rw[B16 e.dV]
    ·rw[160,212 aa];exact⟨r,a6⟩
    ·rw[178,136 (aa m08),23 (au p 237)];rw[A79 (720∈b64)]
     ·rw[179,21 s07];exact⟨r,a6⟩
     ·rw[146,23 s07];have LQ:=a6;rw[r.w]at a6;by_cases bH:p49=315
      ·rw[21 s06,118];exact⟨⟨r.w,r.o,r.l,r.c,rfl,16 o55⟩,LQ⟩
      ·rw[23 s06,124];rw[A27 ⟨?_,?_,?_,?_,r.b,r.op⟩]
       ·show i19++_=b64++_;rw[r.w]
       ·show a.origins++_=l55++_;rw[r.o]
       ·show a.levels++_=b63++_;rw[r.l]
       ·show n4 a.counts _=n4 l54 _;rw[r.c]
       ·show 11 (i19++[_])≤315;rw[cn,r.w];show _+1≤315;lia
   exact ih _ _ cut key.1 (085 (au y 923)) key.2
theorem Gp{x:06}{p:Nat}(h:p∈375):e06 p:=by unfold eR at h;rw[ob,g4]at h;have ak:=h.2;unfold uU at ak;simp only[hG,beq_iff_eq]at ak;exact wV 03 ak.1.1
theorem Um{x:06}{p:Nat}(h:p∈375):320 720=c26:=by have:=Gp h;unfold fJ;rw[cn,cn,eS,fV,fV];lia
def pd(x:06)(m:g0):Bool:=29 (045<c26)&&c27 0 m x
theorem ahV{b:Nat}{x:06}(LR:b≤12){cut:Bool}{a e:d3}(r:s7 cut a e)(a6:j98)(gA:g0×Nat):s7 (cut||pd x gA.1) (gz i b lv x a gA) ((zk x gA).foldl (lA b i lv) e)∧d07 (gz i b lv x a gA)≤315:=by
 unfold gz zk;rw[B16 e.dV]
 ·rw[212 aa,Uk aa];exact⟨⟨r.w,r.o,r.l,r.c,r.b,16 (by rw[aa]at z;cases z)⟩,a6⟩
 ·rw[136 (aa m08)];have oc:e.dV=09:=120;by_cases ax:15 b<j94 j95
  ·rw[21 ax];unfold gy;by_cases iN:045<j94 j95
   ·rw[21 iN];rw[A03 ⟨r.w,r.o,r.l,r.c,r.b,522⟩ a6];show(a.op||_)=(e.op||_);rw[r.op oc,pd,102 iN,w3,Bool.or_assoc]
   ·rw[23 iN,Ul _ _ oc,pd,211,zu,wU]
    ·rw[A03 ⟨r.w,r.o,r.l,r.c,r.b,522⟩ a6];show(a.op||_)=((e.op||_)||cut);rw[r.op oc,ba];cases e.op<;>cases cut<;>simp
    ·rw[B23];rw[C04 hz];have:=Um au;show b<11 (fJ _ _ _);lia
  ·rw[23 ax];have iN:¬045<j94 j95:=03;have s8:(cut||pd x gA.1)=cut:=by rw[pd,211,zu,wU]
   rw[s8];unfold gy;rw[23 iN];refine ahU _ _ _ _ r 263 a6;have:=Um au;lia
theorem Un{b i lv:Nat}{x:06}(LR:b≤12):∀(ms:List (g0×Nat))(a e:d3)(cut:Bool),s7 cut a e→j98→s7 (cut||ms.any (fun gA=>pd x gA.1)) (ms.foldl (gz i b lv x) a) ((p37 (zk x)).foldl (lA b i lv) e)∧d07 (ms.foldl (gz i b lv x) a)≤315|[],a,e,cut,r,a6=>⟨by simpa using r,a6⟩|gA::ms,a,e,cut,r,a6=>by obtain⟨bU,eY⟩:=ahV (i:=i) (lv:=lv) (x:=x) LR r a6 gA;have:=Un (i:=i) (lv:=lv) (x:=x) LR ms _ _ _ bU eY;rw[hv,s9,sZ,pe,←Bool.or_assoc];rw[A10]
theorem ahW(h:51)(a3:a28 i):((26).moves.zipIdx.any (fun gA=>pd 95 gA.1))=isCut s v:=by
 have z:((26).moves.zipIdx.any (fun gA=>pd 95 gA.1))=m45 26 (pd 95 m):=by
  have:((26).moves.zipIdx.map 379).any (285 (pd 95 m))=m45 26 (pd 95 m):=by congr 1;refine 194 ?_;rw[cK,Gk];cases(26).moves[i]?<;>rfl
  rw[←this,u4];rfl
 rw[z];show(003).any _=_;rw[u4];unfold isCut;rw[hu,ly,ly];refine exists_congr (285 (and_congr_right n45));rw[A68 m hm];simp only[u1,pd,eA,88 (f26 853=a08) (eA _ _),88 (i23 853=s05) (eA _ _)];rw[hG,decide_eq_true_eq,decide_eq_true_eq,ly];rw[A04]
 ·rw[C72];obtain⟨p,au⟩:=List.exists_mem_of_length_pos ak;have hf:=Gp au;rw[eA,88 (f26 853=a08) (eA _ _)]at hf;unfold eR at au;rw[ob,eA]at au;rw[A20 p au.1];rw[Gh 499 a09 a3]at au;rw[au.2,w3,decide_eq_true_eq];show 12<_;lia
 ·rintro⟨p,au,ak⟩;rw[hG,decide_eq_true_eq,←Gh 499 a09 a3]at ak;have l1:p∈eR 853 95:=by unfold eR;rw[ob,eA];exact⟨au,ak.1⟩
  have hf:=Gp l1;rw[eA,88 (f26 853=a08) (eA _ _)]at hf;rw[A03 ?_ (ahX l1)];have:=ak.2;have:LONG=12:=rfl;lia
theorem ahY(h:51)(a3:a28 i):∀z∈uZ s v,∀i∈a05,i<37:=by
 rw[B23];unfold uZ at hz;rw[ni]at hz;obtain⟨i,_,hz⟩:=hz;rw[Gq]at hz;obtain⟨p,_,hz⟩:=hz
 cases e:wW s i p v with
  |none=>rw[e]at hz;cases hz
  |some u=>
   rw[e]at hz;have:(i,p,u)=z:=cI hz;rw[A88];unfold wW at e
   cases em:754 with
    |none=>rw[em]at e;cases e
    |some m=>
     rw[em,Ge]at e;unfold zo at e;rw[B07];rw[A22]
     ·have bZ:=cI e;rw[←bZ];intro j bS;rw[A68 m (cG em)];rw[B40 bS]
      ·exact a3 j (qp bS)
      ·rw[B40 bS]
       ·exact hU.2.2 j bS
       ·exact a3 j (uY (uY bS))
     ·cases e
structure qu(s:dt)(q:Search)(a:d3):04 where
 r:w2 s q a
 op:n08→a.op=q.opened
 n:j98
theorem ahZ(h:51){b:Nat}(aa:b≤12){a:d3}(r:qu s q a)(kR:n08)(hi:i<a10):qu s (expand s b i q) (qn 26 i b a):=by
 unfold expand qn;rw[122];rw[A11];obtain⟨x,ai⟩:∃x,q.nodes[i]=x:=282;have hm:x∈q.nodes:=ai▸ko hi;rw[ai];have c4:a.levels.getD i 0=f59:=by rw[r.r.l,cZ,cK,122,ai];rfl
 have nj:a.words.getD i []=j45:=by rw[r.r.w,cZ,cK,122,ai];rfl
 have w4:f59∈a.levels:=by rw[r.r.l];exact 143 x hm
 rw[c4,nj];have hf:=r.r.f x hm;obtain⟨f1,f2⟩:=Uj h (b:=b) (i:=i) (uZ s i22) q a r.r (r.op kR) w4 (ahY h hf);rw[Ua h hf]at f1 f2;have s0:s7 09 a a:=⟨rfl,rfl,rfl,rfl,rfl,290 19⟩;obtain⟨g1,g2⟩:=Un (i:=i) (lv:=f59) (x:=j45) aa (26).moves.zipIdx a a 09 s0 r.n;rw[Cu,ahW h hf]at g1;change s7 _ _ ((uW 26 j45).foldl _ a)at g1;refine⟨?_,?_,g2⟩
 ·have:w2 s ((uZ s i22).foldl (zt b i f59) q) ((26).moves.zipIdx.foldl (gz i b f59 j45) a):=⟨by rw[g1.w];exact f1.w,by rw[g1.o];exact f1.o,by rw[g1.l];exact f1.l,by rw[g1.c,g1.l];exact f1.c,by rw[g1.b];exact f1.b,f1.f⟩;split
  ·exact⟨this.w,this.o,this.l,this.c,this.b,this.f⟩
  ·rw[A10]
 ·intro Uo;have qv:((uZ s i22).foldl (zt b i f59) q).broken=09:=by split at Uo<;>exact Uo
  have:=g1.op (by rw[f1.b];exact qv);rw[this,f2]
  cases isCut s i22 with|true=>simp|false=>simp
theorem ah0(h:51){b:Nat}(aa:b≤12):∀(k i:Nat)(q:Search)(a:d3),qu s q a→qu s (searchFrom s b k i q) (nf 26 b k i a):=by
 intro k
 induction k with
  |zero=>intro i q a r;exact r
  |succ k ih=>
   intro i q a r;have c4:p48=a10:=by rw[r.r.w,ba]
   show qu s (13 (i20||555 a10 i) q (searchFrom s b k (i+1) (expand s b i q))) (13 (i<p48∧a.dV=09) (nf 26 b k (i+1) (qn 26 i b a)) a);rw[c4,r.r.b];by_cases kR:i20=01
   ·rw[21 o92,23 o92];exact r
   ·have LS:n08:=by simpa using kR
    rw[A65 (i<a10)]
    ·rw[23 (by rw[LS];simp;lia),21 ⟨hi,LS⟩];exact ih (i+1) _ _ (ahZ h aa r LS hi)
    ·rw[21 (by simp;right;lia),136 (hi z.1)];exact r
theorem ah2(h:51){b:Nat}(aa:b≤12)(a3:a28 i):qu s (searchOf s b v) (kj 26 b 95):=by
 unfold searchOf kj;rw[eA];by_cases ax:734≤b
 ·rw[200,124];refine ah0 h aa _ _ _ _ ⟨⟨rfl,rfl,rfl,rfl,rfl,g83⟩,525,681 (1≤315)⟩;rw[86 hz];exact a3
 ·rw[197,118];exact⟨⟨rfl,rfl,rfl,rfl,rfl,b35 (by cases hz)⟩,525,681 (0≤315)⟩
theorem ah3{a:d3}(r:qu s q a):a.counts=levelsOf q:=by rw[r.r.c,r.r.l];unfold cnt levelsOf kp;rw[List.foldl_map];refine 215 ?_;rw[List.filter_map,ba];rfl
theorem ah5{a:d3}(r:qu s q a):sV a=15 j96:=by
 unfold sV kindOf;rw[r.r.b]
 cases aa:q.broken with|true=>rfl|false=>rw[r.op aa];cases q.opened<;>rfl
theorem LU(h:51)(z:Int)(f:Search→Ck)(g:d3→Ck)(u0:∀q a,qu s q a→g a=f q):(13 (km 26 z<0) [km 26 z] (g (kj 26 231 ((26).start.getD []))))=onBound s z f:=by
 unfold onBound km Gr;show _=13 (z<0∨045<z) _ _;by_cases hz:z<0∨12<z
 ·rw[21 hz,21 hz];rfl
 ·rw[23 hz,23 hz];rw[B31 (b91=d56)];rw[aR]
  cases e:s.start with|none=>rfl|some w=>rw[wX,142];exact u0 _ _ (ah2 h 03 (h.st w e).2)
theorem ah6(h:51)(z:Int):Cd 26 z=il s (.search z):=by unfold Cd;show _=onBound s z (58 (pb (j96::a10::levelsOf q)));refine LU h z (58 (pb (j96::a10::levelsOf q))) (58 (sV q::m13::b6 453)) (p47 ?_);show _=15 j96::15 a10::_;rw[ah5 r,ah3 r,r.r.w,ba];rfl
theorem Up(l:List Node):∀(n i:Nat)(w:Way),wayFrom l n i w=Cr (363 d53) n ((363 d53).getD i 00) w
 |0,i,w=>rfl
 |n+1,i,w=>by
  unfold wayFrom;have e:(363 d53).getD i 00=331 115 d53:=by rw[cZ,cK];cases 115<;>rfl
  rw[e]
  cases 331 115 d53 with|none=>rfl|some p=>exact Up l n p.1 (p.2::w)
theorem ah7(h:51){a:d3}(r:qu s q a)(a3:a28 i):numberOf q v=943 (95∈i19) (a.words.idxOf 95):=by
 unfold numberOf;have key:∀(l:List Node),(∀z∈l,∀i∈z.word,i<37)→h69 (16 (b36==v))=943 (95∈363 m92) ((363 m92).idxOf 95):=by
  intro l
  induction l with
   |nil=>intro _;rfl
   |cons z l ih=>
    intro hz;have ah8:=ih (085 (hz y 923));rw[zv,eN,Uq];rw[A06 b36 v]
    ·subst e;simp
    ·have aG:902≠95:=58 (e (Cg 499 (hz z 237) a3 q));rw[185,ah8];have cp:(902==95)=09:=p77;rw[cp];simp only[ed,aG.symm,false_or,l0,↓reduceIte,cond_false];split<;>rfl
 rw[r.r.w];exact key _ r.r.f
theorem Ur(h:51){a:d3}(r:qu s q a)(a3:a28 i):zr a 95=reachRow q v:=by
 unfold zr reachRow;rw[ah7 h r a3];by_cases fc:95∈i19
 ·rw[21 fc,21 fc];rw[A11];have nj:rt a 95=wayTo q (a.words.idxOf 95):=by unfold rt wayTo;rw[Up,r.r.o,r.r.w,ba]
  rw[nj];show _=0::15 _::pb _;congr 2;unfold u2 pb;rw[Ub];rfl
 ·rw[23 fc,23 fc];rw[A11];have:(! a.op&&! a.dV)=isClosed q:=by
   unfold isClosed;rw[r.r.b]
   cases aa:q.broken with|true=>simp|false=>rw[r.op aa]
  rw[A16];rw[B03 (isClosed q)]
theorem ah9(h:51)(z:Int):Gm 26 z=il s (.way z):=by
 show _=Cv s _;unfold Gm Cv;rw[B31 (b99=d60)];rw[aR]
 cases e:s.goal with|none=>rfl|some w=>exact LU h z _ (58 (zr q 461)) (p47 (Ur h r (h.gl w e).2))
theorem aia(h:51)(z:Int)(cs:10):Gn 26 z cs=il s (.reach z cs):=by
 show _=sX s cs _;unfold Gn;rw[C00 h cs (889 (onBound s z (58 (reachRow q v))))]
 ·rw[ak,135,af]
 ·rw[ak,135,af];exact LU h z _ (58 (zr q 95)) (p47 (Ur h r a3.2))
def mz{α:272}(cs:40):240 a47|0=>[[]]|n+1=>i15 (fun a=>688 (mz cs n) (a::r))
theorem Us{α:272}(cs:40)(a:α):∀rows:a47,496 (l65 (a::r))=688 (496 17) (a::r)|[]=>rfl|r::t=>by have ih:=Us cs a t;show lu cs (a::r)++496 (t.map (429 (a::r)))=688 (lu cs r++496 t) (a::r);rw[ih,d5];congr 1;unfold lu;rw[gP];rfl
theorem Ut{α:272}(cs:40)(f:α→a47):∀as:40,496 (p38 f)=p38 (fun a=>496 (f a))|[]=>rfl|a::as=>by rw[s9,s9,←Ut cs f as];unfold jI;rw[w5]
theorem zw{α:272}(cs:40):∀n,043=mz cs n
 |0=>rfl
 |1=>by
  show 496 [[]]=_;unfold jI lu mz mz;simp[Gl];rw[←Gl]
  induction cs with|nil=>rfl|cons a r ih=>rw[eN,s9,←ih];rfl
 |n+2=>by
  have ih:=zw cs (n+1);show 496 (dJ cs (n+1))=_;rw[ih];show 496 (i15 (fun a=>688 (mz cs n) (a::r)))=i15 (fun a=>688 (mz cs (n+1)) (a::r));rw[Ut];have LV:496 (mz cs n)=mz cs (n+1):=by rw[←zw cs n];exact ih
  congr 1;funext a;rw[Us,LV]
theorem LW(k:Nat):∀n,pf k n=dJ 763 n:=by
 intro n;rw[zw]
 induction n with|zero=>rfl|succ n ih=>show 671 944 _=671 763 _;unfold b6;rw[LN,ih];rfl
theorem u5{k:Nat}:∀{n:Nat}{r:10},r∈pf k n↔873∧096 (0≤x∧x<k)
 |0,r=>by
  show r∈[[]]↔_;rw[du];rw[A04]
  ·rw[A91];exact⟨rfl,19⟩
  ·intro h;exact u3.mp h.1
 |n+1,r=>by
  show r∈671 944 _↔_;rw[ni];rw[A04]
  ·rintro⟨a,aN,aq⟩;obtain⟨t,bk,rfl⟩:=147;have:=u5.mp bk;have aN:=g4.mp aN;rw[A03 (by rw[dR,183]) 333]
   cases ai with|head=>lia|tail _ ai=>exact this.2 x ai
  ·rw[C72]
   cases r with|nil=>cases af|cons a t=>have aN:=ak a 237;refine⟨a.toNat,g4.mpr 03,cJ.mpr ⟨t,u5.mpr ⟨f56,276 (ak x d82)⟩,?_⟩⟩;congr 1;lia
def i4(n:Nat)(g:e84):Int:=(407 n g).sum
theorem Uu(n:Nat)(f g:e84):837 n (f i+g i)=i4 n f+i4 n g:=by
 unfold i4
 induction n with|zero=>rfl|succ n ih=>rw[ru,d5,d5,d5,Gs,Gs,Gs,ih];simp only[eN,zx,w6,List.sum_nil];lia
theorem Gu{f g:e84}(h:∀i,i<n→f i=g i):i4 n f=i4 n g:=by unfold i4;rw[lz (618 (h i a41))]
theorem Uv(n:Nat):i4 n (290 0)=0:=by
 unfold i4
 induction n with|zero=>rfl|succ n ih=>rw[ru,d5,Gs,ih];rfl
theorem aib(h:j<n)(b:e84):837 n (13 (j=i) (b i) 0)=b j:=by
 unfold i4
 induction n with
  |zero=>lia
  |succ n ih=>
   rw[ru,d5,Gs];simp only[eN,zx,w6,List.sum_nil,Int.add_zero];rw[A06 j n]
   ·subst e;rw[101];have:837 j (13 (j=i) (b i) 0)=i4 j (290 0):=Gu (618 124);unfold i4 at this;rw[A16];have:=Uv j;unfold i4 at this;rw[A16];lia
   ·rw[ih 03,148];lia
theorem Uw:∀(n:Nat)(b:10)(g:e84),d13=n→hc b (407 n g)=837 n (792*g i)|0,b,g,h=>b27 (u3.mp h)|n+1,b,g,h=>by cases b with|nil=>cases h|cons x r=>have ih:=Uw n r (425 (g (i+1))) 967;unfold hc i4 at ih⊢;rw[Gv,eN,eN,gP,gP,aic,w6,w6];have e:(g∘Nat.succ)=425 (g (i+1)):=rfl;rw[e,ih];rfl
theorem ahe(i:Nat)(w:b7)(j:Nat):pg (i::w) j=pg w j+13 (i=j) 1 0:=by
 unfold pg;rw[iO];rw[A06 i j]
 ·rw[21 566,155,dR];lia
 ·rw[185,148];lia
theorem Gw(ws:10):∀(w:b7)(a:Int),w.foldl (fun n i=>n+c18 i) a=a+615 w|[],a=>by simp[dv]|i::w,a=>by unfold dv;rw[hv,hv,Gw ws w,Gw ws w (0+c18 i)];lia
theorem Gx(ws:10)(i:Nat)(w:b7):615 (i::w)=c18 i+615 w:=by show(i::w).foldl _ 0=_;rw[hv,Gw];lia
theorem LX{n:Nat}{b:10}:∀{w:b7},(f58 (i<n))→dv b w=837 n (792*pg w i)
 |[],_=>by show 413=_;rw[←Uv n];refine Gu (a04 ?_);show 413=_*0;lia
 |j::w,h=>by
  rw[Gx,LX (618 (h i (d4 _ hi)))];have bS:=127 j;have:(837 n (792*pg (j::w) i))=837 n (792*pg w i)+837 n (13 (j=i) 792 0):=by rw[←Uu];refine Gu (a04 ?_);rw[ahe,Int.mul_add];congr 1;split<;>simp
  rw[this,aib bS (425 792)];lia
theorem LY{ls:06}(az:ls.Nodup){i:Nat}(hi:866):∀{w:b7},(i18 (j<284))→rm 392 b00=pg w i
 |[],_=>rfl
 |j::w,h=>by
  have ih:=LY az hi (w:=w) (fun k aS=>h k (d4 _ aS));rw[ahe,←ih];unfold rm;show 320 (Ux _ (ls.getD j 0::392))=_;rw[iO];rw[A06 j i]
  ·subst e;rw[213,101,dR];lia
  ·rw[if_neg,148]
   ·lia
   ·intro q;exact e (ahd az (127 j) hi (a01 q))
theorem aid(ls:06)(f:240 β):ls.map f=690 284 (f b00):=by
 refine 194 ?_;rw[cK,cK];rw[A65 866]
 ·rw[sY hi,122];simp[cZ,122]
 ·rw[140,hH k60];rfl
end
section
variable{i j n:Nat}{g l ls:List Nat}{r ws:List Int}{done:List (Nat×List Int)}{od α β:Type}{q:Search}{s:dt}{v:Word}{wait:List (List Int)}{m:g0}
theorem Uy(az:ls.Nodup){w:b7}(a3:l51 (j<284))(hw:i18 (j<284)):fO ls 855 392=690 284 (pg v i-pg w i):=by unfold fO;rw[aid];refine lz e31;rw[LY az a41 a3,LY az a41 hw]
theorem Gy(az:ls.Nodup){b:10}(aa:d13=284){w:b7}(a3:l51 (j<284))(hw:i18 (j<284)):hc b (fO ls 855 392)=dv b v-dv b w:=by
 rw[Uy az a3 hw,Uw _ _ _ aa,LX a3,LX hw];have:(837 284 (792*(pg v i-pg w i)))+(837 284 (792*pg w i))=837 284 (792*pg v i):=by rw[←Uu];refine Gu (a04 ?_);rw[Uz];lia
 lia
def jJ(a b:10):04:=m99∧∃x y:Int,x≠0∧y≠0∧∀k,x*e59 k=y*i52 k
theorem jJ.symm{a b:10}(h:jJ a b):jJ b a:=by obtain⟨l,x,y,ai,aC,h⟩:=h;exact⟨l.symm,y,x,aC,ai,450 (567 (h k))⟩
theorem jJ.trans{a b c:10}(h:jJ a b)(g:jJ b c):jJ a c:=by obtain⟨l,x,y,ai,aC,h⟩:=h;obtain⟨LZ,z,w,hz,hw,g⟩:=g;refine⟨l.trans LZ,x*z,y*w,Gz ai hz,Gz aC hw,046⟩;rw[w7 x z,L0,h k,UA,g k,L0]
theorem jJ.zero{a b:10}(h:jJ a b)(k:Nat):e59 k=0↔i52 k=0:=by
 obtain⟨_,x,y,ai,aC,h⟩:=h;have:=h k;rw[A04]
 ·intro e;rw[e,Cw]at this;rw[A61 (UB.mp this.symm)]
  ·exact 69 z aC
  ·exact z
 ·intro e;rw[e,Cw]at this;rw[A61 (UB.mp 246)]
  ·exact 69 z ai
  ·exact z
theorem UC:j13 ((c16 g g)∣g∧096 (52 (c16 g g)∣x))
 |[],g=>⟨UD _,19⟩
 |y::r,g=>by
  rw[A81 (UC r (qm g y.natAbs))];rw[hv];rw[A03 (Cx af (aie ..)) 333]
  cases ai with|head=>exact aif.mpr (Cx af (aih ..))|tail _ ai=>exact ak x ai
theorem ahf{x:Int}(h:x∈r):929∣x:=(UC r 0).2 x h
theorem UE(c:Nat):j13 ((r.map (72 (337*x))).foldl (fun g n=>qm g n.natAbs) (c*g)=c*c16 g g)|[],g=>rfl|y::r,g=>by rw[eN,hv,hv,←UE c r,Cy,UG,Nat.gcd_mul_left]
theorem UH(c:Nat)(r:10):gb (r.map (72 (337*x)))=c*767:=by have:=UE c r 0;rw[Nat.mul_zero]at this;exact this
theorem GA{f:e93}(h0:f 0=0)(r:10)(k:Nat):(r.map f).getD k 0=f 608:=by
 rw[cZ,cZ,cK]
 cases r[k]? with|none=>exact h0.symm|some x=>rfl
theorem L1(r:10):∃g:Nat,0<g∧(0<767→g=767)∧∀k,15 g*(b02).getD k 0=608:=by
 unfold jH;split
 ·next h=>refine⟨1,14,58 03,450 19⟩
 ·next h=>
  refine⟨767,03,525,046⟩;rw[GA (f:=807 (n/929)) (Int.zero_ediv _)];have:929∣608:=by
   rw[cZ]
   cases e:r[k]? with|none=>exact Int.dvd_zero _|some x=>exact ahf (cG e)
  exact Int.mul_ediv_cancel' 246
theorem zy(r:10):11 b02=230:=q97
theorem Cz(r:10):jJ b02 r:=by obtain⟨g,af,_,ak⟩:=L1 r;exact⟨zy r,g,1,03,14,450 (by rw[ak,Int.one_mul])⟩
theorem L2(r:10):reduced r=b02:=by
 unfold reduced jH;show(13 (767≤1) _ _)=_;rw[A39 (767≤1)]
 ·rw[114,118]
 ·rw[125,124];rfl
theorem UI{a b:10}(l:m99)(h:∀k,e59 k=i52 k):a=b:=by
 refine wY 046;have:=h k;rw[cZ,cZ]at this;rw[A66 (k<733)]
 ·rw[cA aS,cA (l▸aS)]at this⊢;exact d72 246
 ·rw[140,140]
theorem aii{u v:10}{a b:Nat}(aN:0<a)(aa:0<b)(l:i16=734)(h:∀k,b11*u.getD k 0=15 b*v.getD k 0)(bp:∃k,u.getD k 0≠0):jH u=jH v:=by
 have e:u.map (72 (b11*x))=v.map (72 (15 b*x)):=UI (by simp[l]) (450 (by rw[GA (Cw _),GA (Cw _)];exact h k));have pa:a*gb u=b*gb v:=by rw[←UH,←UH,e]
 have UJ:0<gb u:=by
  rw[A61 (aij (gb u))]
  ·obtain⟨k,aS⟩:=bp;rw[cZ]at aS
   cases mA:u[k]? with|none=>rw[mA]at aS;rw[A64 aS]|some x=>rw[mA]at aS;have:=ahf (cG mA);rw[z]at this;exact 69 (Int.zero_dvd.mp 246) aS
  ·exact z
 have L3:0<gb v:=by
  rw[A61 (aij (gb v))]
  ·rw[z,Nat.mul_zero]at pa;have:=UK aN UJ;lia
  ·exact z
 obtain⟨x,_,ai,zz⟩:=L1 u;obtain⟨y,_,aC,UL⟩:=L1 v;rw[ai UJ]at zz;rw[aC L3]at UL;refine UI (by rw[zy,zy,l]) 046;have af:=h k;rw[←zz k,←UL k,←L0,←L0,←u6,←u6,pa]at af;exact aik (564 (UK aa L3)) af
theorem zA(f:Int→e93)(f0:f 0 0=0){p:10}(l:j30)(k:Nat):(kQ f r p).getD k 0=f 608 (771 k):=by
 rw[cZ,cZ,cZ,zB];rw[A66 (k<230)]
 ·rw[cA aS,cA (l▸aS)];rfl
 ·rw[140,140];exact f0.symm
theorem UM{dF p J:10}{c:Nat}(h:jJ r dF)(g:jJ p J)(mB:j30)(ar:771 c≠0):jJ (zC c p r) (fq dF J c):=by
 have key:jJ (kQ (578 (a*771 c-b*611)) r p) (kQ (578 (a*793-b*dF.getD c 0)) dF J):=by
  obtain⟨eY,x,y,ai,aC,h⟩:=h;obtain⟨dW,z,w,hz,hw,g⟩:=g;refine⟨by rw[qw,qw,eY,dW],x*z,y*w,Gz ai hz,Gz aC hw,046⟩;rw[zA _ 19 mB,zA _ 19 03,Uz,Uz];have aK:x*z*(608*771 c)=y*w*(dF.getD k 0*793):=by have:x*z*(608*771 c)=(x*608)*(z*771 c):=202;rw[this,h k,g c];ac_rfl
  have aG:x*z*(771 k*611)=y*w*(750 k*dF.getD c 0):=by have:x*z*(771 k*611)=(x*611)*(z*771 k):=202;rw[this,h c,g k];ac_rfl
  rw[aK,aG]
 have k2:jJ (zC c p r) (kQ (578 (a*771 c-b*611)) r p):=by
  unfold zC;split
  ·next e=>have dw:611=0:=a01 e;refine⟨by rw[qw];lia,771 c,1,ar,14,046⟩;rw[zA _ 19 mB,dw,Cw,UN,Int.one_mul,w7]
  ·rw[L2];exact Cz _
 exact k2.trans (key.trans (567 (Cz _)))
def eZ(r:10):Bool:=r.any (807 (n !=0))
theorem CA(r:10):eZ r=01↔∃k,608≠0:=by
 unfold eZ;rw[ly];rw[A04]
 ·rintro⟨x,ai,h⟩;obtain⟨k,aS⟩:=rv ai;rw[A27 k];rw[cZ,aS];simpa using h
 ·rintro⟨k,aS⟩;rw[cZ]at aS
  cases e:r[k]? with|none=>rw[e]at aS;rw[A64 aS]|some x=>rw[e]at aS;exact⟨x,cG e,f55⟩
theorem jJ.eZ{a b:10}(h:jJ a b):eZ a=eZ b:=by rw[hu,CA,CA];exact exists_congr (450 (203 (h.zero k)))
inductive c2{α β:272}(R:713):40→92 523|nil:c2 R [] []|cons{a b as bs:_}:R a b→c2 R as bs→c2 R (a::as) (b::bs)
theorem c2.app{R:713}{a c:40}{b d:523}(h:c2 R a b)(g:c2 R c d):c2 R (a++c) (b++d):=by induction h with|nil=>exact g|cons r _ ih=>exact 920 r
theorem c2.map{CB:272}{R:713}{S:od→92 CB}{f:α→od}{g:β→CB}{a:40}{b:523}(h:c2 R a b)(u0:∀x y,x∈a→R x y→S (f x) (g y)):c2 S (a.map f) (b.map g):=by induction h with|nil=>rw[A40]|cons r _ ih=>exact .cons (u0 _ _ 237 r) (ih (fun x y ai=>u0 x y d82))
theorem c2.filter{R:713}{p:936}{q:482 β}{a:40}{b:523}(h:c2 R a b)(L4:∀x y,R x y→p x=q y):c2 R (a.filter p) (b.filter q):=by
 induction h with
  |nil=>rw[A40]
  |cons r _ ih=>
   rw[iO,iO,L4 _ _ r];split
   ·exact 920 r
   ·exact ih
theorem c2.find{R:713}{p:936}{q:482 β}{a:40}{b:523}(h:c2 R a b)(L4:∀x y,R x y→p x=q y):(a.find? p=00∧b.find? q=00)∨d01 (a.find? p=43∧b.find? q=270∧R x y):=by
 induction h with
  |nil=>rw[A17 149]
  |cons r _ ih=>
   rw[jK,jK,L4 _ _ r];split
   ·rw[A09 ⟨_,_,rfl,rfl,r⟩]
   ·exact ih
def zD(a b:527):04:=a.1=b.1∧jJ a.2 b.2
structure rx(n:Nat)(done:336)(wait:99)(st:sW):04 where
 d:c2 zD done st.1
 w:c2 jJ wait (st.2.filter eZ)
 ld:∀z∈done,h39=n
 lw:∀r∈wait,873
 s_:565 st.2 873
theorem UO{c:Nat}{p:10}(h:j30):11 (zC c p r)=230:=by
 unfold zC;split
 ·rfl
 ·rw[L2,zy,qw];lia
theorem L5{c:Nat}{p:10}(h:j30):11 (fq r p c)=230:=by unfold fq;rw[zy,qw];lia
theorem ail{J:10}{c:Nat}(l:230=J.length)(h:eZ r=09):eZ (fq r J c)=09:=by
 have hz:∀k,608=0:=450 (nk (100 (by have:=(CA r).mpr ⟨k,e⟩;rw[h]at this;cases this)));unfold fq;rw[(Cz _).eZ]
 cases e:eZ (kQ (578 (a*793-b*611)) r J)with|false=>rfl|true=>obtain⟨k,aS⟩:=(CA _).mp e;rw[zA _ 19 l,hz k,hz c]at aS;simp at aS
theorem UP{f:10→10}:∀{rs:99},(∀r∈rs,eZ r=09→eZ (f r)=09)→016 (rs.map f)=016 ((rs.filter eZ).map f)
 |[],_=>rfl
 |r::rs,h=>by
  have ih:=UP (f:=f) (rs:=rs) 850;rw[eN,iO,iO]
  cases e:eZ r with|true=>rw[C24];rw[eN,iO,ih]|false=>rw[h r 237 e];simpa using ih
theorem L6{c:Nat}:∀rs:99,rs.find? (429 (! 29 (820 c=0)))=382 (rs.filter eZ) (429 (! 29 (820 c=0)))
 |[]=>rfl
 |r::rs=>by
  rw[jK,iO]
  cases e:eZ r with|true=>rw[101,jK,L6 rs]|false=>have:611=0:=nk (58 (r88 ((CA r).mpr ⟨c,q⟩)));rw[107,102 246];exact L6 rs
theorem aim{c:Nat}{st:sW}(h:rx n done wait st)(rest:06):∃UQ UR,GB (c::67) done wait=GB 67 UQ UR∧rx n UQ UR (elim c st):=by
 have hf:=h.w.find (p:=429 (611 !=0)) (q:=429 (! 29 (820 c=0))) (l53 (by rw[hu,bne_iff_ne,Gj,decide_eq_false_iff_not];exact 203 (r.zero c)));rw[←L6]at hf;unfold elim;rcases hf with⟨af,ak⟩|⟨p,J,af,ak,a6⟩
 ·refine⟨done,wait,?_,by rw[ak];exact h⟩;show(o17 (wait.find? _) _ _)=_;rw[af]
 ·refine⟨(done.map (16 (z.1,zC c p z.2)))++[(c,p)],016 (wait.map (zC c p)),?_,?_⟩
  ·show(o17 (wait.find? _) _ _)=_;rw[af];rfl
  ·rw[ak];have au:=nq af;have kq:=nq ak;have mB:=h.lw p au;have CC:=h.s_ J kq;have ar:771 c≠0:=i71 af;refine⟨e49 (h.d.map (fun x y ai r=>⟨r.1,UM r.2 a6 (j43 (h.ld x ai)) ar⟩)) (119 a6),?_,?_,?_,?_⟩
   ·show c2 _ _ (016 (st.2.map (429 (fq r J c))));rw[UP (fun r aq e=>ail (35 (h.s_ r aq) CC.symm) e)];exact 582 (h.w.map (fun x y ai r=>UM r a6 (j43 (h.lw x ai)) ar)) (l53 r.eZ)
   ·rw[B23];rw[B39 hz]
    ·rw[A46 hz];exact 35 (UO (j43 (h.ld y aC))) (h.ld y aC)
    ·rw[86 hz];exact mB
   ·rw[A92];rw[A46 (ob.mp aq).1];exact 35 (UO (j43 (h.lw y aC))) (h.lw y aC)
   ·rw[A92];rw[A46 aq];exact 35 (L5 (35 (h.s_ y aC) CC.symm)) (h.s_ y aC)
theorem US{n:Nat}{rows:99}{wait:99}(h:rx n [] wait ([],rows)):∀m i done w,rx n done w 491→∃gQ,rx n (GB (407 m (i+·)) done w) gQ (gO 17 (i+m))
 |0,i,done,w,r=>⟨w,r⟩
 |m+1,i,done,w,r=>by
  obtain⟨d',gQ,e,dF⟩:=aim (c:=i) r (407 m (i+1+·));have c4:407 (m+1) (i+·)=i::407 m (i+1+·):=by rw[Gv,eN,gP];congr 1;refine 215 ?_;simp only[u1];lia
  rw[c4,e];have:=US h m (i+1) d' gQ dF;rw[A73 (show i+1+m=i+(m+1)by lia)];rw[A10]
theorem UT:∀{ms:700}{n:Nat}{f g:ez→10},(k85 (jJ (f m) (g m)))→c2 jJ (ms.map f) (ms.map g)|[],_,_,_,_=>89|m::ms,n,f,g,h=>.cons (127 m) (UT (n:=n) 850)
theorem L7(g:e84)(k:Nat):(407 n g).getD k 0=13 (k<n) (g k) 0:=by
 rw[cZ,cK];split
 ·next h=>rw[sY h];rfl
 ·next h=>rw[hH 967];rfl
theorem aAD(h:51):c2 zD (GB d49 [] (b73 m16 (r.any (450 (k !=0))))) e52:=by
 have base:rx 37 [] (016 m16) ([],e90):=by
  have e:e90=f25 (285 (fO 60 m73 (292 427))):=s02 ((003).map _=_);have ln:∀m,11 (zF 37 m)=37:=285 s04;refine⟨89,?_,(19),?_,?_⟩
  ·rw[e];refine c2.filter (UT (n:=0) 764) (l53 r.eZ);rw[A68 m hm];rw[Uy 499 a09 hU.2.2];refine⟨s04,1,-1,14,14,046⟩;unfold zF;rw[L7,L7];rw[B53]
  ·rw[A92];obtain⟨m,_,rfl⟩:=112 (ob.mp aq).1;exact ln m
  ·rw[A92];rw[e]at aq;obtain⟨m,_,rfl⟩:=147;unfold fO;simp
 obtain⟨gQ,r⟩:=US 02 37 0 [] _ 02;rw[qx]at r;have c4:407 37 (0+·)=d49:=19;rw[c4]at r;exact r.d
structure L8(i:Nat)(ps:336):04 where
 lt:097 (q.1<i)
 az:668 m56
theorem UU(rows:99):∀i,L8 i (491).1
 |0=>⟨l87,List.Pairwise.nil⟩
 |i+1=>by
  have ih:=UU 17 i;show L8 (i+1) (b04).1;unfold elim;split
  ·exact⟨330 (CD (ih.lt q aw)),ih.az⟩
  ·rw[A27 ?_]
   ·intro q aw;rw[A85 aw]
    ·rw[A46 aw];exact CD (ih.lt y aC)
    ·rw[A78];exact zG i
   ·rw[d5,gP];show 668 ((491).1.map 379++[i]);rw[L9];refine⟨ih.az,19,fun a aN b aa=>?_⟩;rw[A46 aN];rw[86 aa];exact fk (ih.lt y aC)
theorem UW{f:527→Int}:∀(ps:336)(w:10)(j:Nat),668 m56→(097 (q.1<218))→(g84 (f q) w).getD j 0=match ps.find? (58 (q.1==j))with|none=>w.getD j 0|some q=>f q:=by
 intro ps
 induction ps with
  |nil=>intro w j _ _;rfl
  |cons q ps ih=>
   intro w j az ax;rw[eN,ta]at az;rw[hv,ih (i72 (f q)) j az.2 (276 (by rw[mC];exact ax x d82)),jK];rw[A06 q.1 j]
   ·subst e;have nr:ps.find? (72 (x.1==q.1))=00:=by rw[w8];intro x ai z;exact az.1 (184 x ai 191)
    rw[nr];have:(q.1==q.1)=01:=175;rw[A16];rw[A11];rw[cZ,ry (ax q 237)];rfl
   ·have:(q.1==j)=09:=566;rw[A16];rw[A11];have aG:(i72 (f q)).getD j 0=w.getD j 0:=by rw[cZ,cZ,u7 e]
    rw[aG]
theorem L_{f:527→Int}:∀(ps:336)(w:10),11 (g84 (f q) w)=218|[],w=>rfl|q::ps,w=>by rw[hv,L_ ps,mC]
theorem UX:∀(ps:336)(a:Int),0<a→(097 (ik q≠0))→0<f85 (s*958) a∧a∣f85 (s*958) a∧097 (ik q∣f85 (s*958) a)
 |[],a,h,_=>⟨h,Int.dvd_refl _,19⟩
 |q::ps,a,h,au=>by
  have af:0<a*958:=Int.mul_pos h (564 (au q 237));obtain⟨i1,i2,u9⟩:=UX ps (a*958) af (276 (au x d82));rw[hv];refine⟨i1,GC (Int.dvd_mul_right ..) i2,333⟩
  cases ai with|head=>exact GC (GC (Int.dvd_natAbs.mpr (Int.dvd_refl _)) (ain ..)) i2|tail _ ai=>exact u9 x ai
theorem lcm_pos:∀(l:06)(a:Nat),0<a→645 (0<x)→0<l.foldl GD a∧a∣l.foldl GD a∧l22 (x∣l.foldl GD a)
 |[],a,h,_=>⟨h,UD _,19⟩
 |y::l,a,h,au=>by
  obtain⟨i1,i2,u9⟩:=lcm_pos l (GD a y) (Nat.lcm_pos h (au y 237)) (276 (au x d82));rw[hv];refine⟨i1,Cx (Nat.dvd_lcm_left ..) i2,333⟩
  cases ai with|head=>exact Cx (Nat.dvd_lcm_right ..) i2|tail _ ai=>exact u9 x ai
theorem c2.aio{a b:336}(h:c2 zD a b)(j:Nat):(a.find? g96=00∧b.find? g96=00)∨d01 (a.find? g96=43∧b.find? g96=270∧zD x y):=h.find (l53 (970 r.1))
theorem c2.mem{R:713}{a:40}{b:523}(h:c2 R a b){x:α}(ai:x∈a):∃y∈b,R x y:=by induction h with|nil=>cases ai|cons r _ ih=>cases ai with|head=>exact⟨_,237,r⟩|tail _ ai=>obtain⟨y,aC,q⟩:=ih ai;exact⟨y,923,q⟩
theorem c2.aip{a b:336}(h:c2 zD a b):a.map 379=b.map 379:=by induction h with|nil=>rfl|cons r _ ih=>rw[eN,eN,ih,r.1]
theorem aiq(rows:99)(n:Nat)(ax:b44 873):∀i,(539 (491).1 (ik q≠0∧q.2.length=n))∧(565 (491).2 873)∧(539 (491).1 (565 (491).2 (820 q.1=0))):=by
 intro i
 induction i with
  |zero=>exact⟨l87,ax,l87⟩
  |succ i ih=>
   obtain⟨af,ak,a6⟩:=ih;show(539 (b04).1 _)∧(565 (b04).2 _)∧(539 (b04).1 (565 (b04).2 _));unfold elim;split
   ·exact⟨af,ak,a6⟩
   ·next J e=>
    have kq:=nq e;have CC:=ak J kq;have ar:750 i≠0:=i71 e;have UY:∀{r:10}{c:Nat},873→611*750 i-793*b09=0→(fq r J i).getD c 0=0:=by intro r c aq hz;unfold fq;rw[(Cz _).zero,zA _ 19 03];exact hz
    rw[A20 ?_ ?_]
    ·intro q aw;rw[A85 aw]
     ·rw[A46 aw];obtain⟨fW,fD⟩:=af y aC;rw[A03 ?_ (35 (L5 03) fD)];show(fq y.2 J i).getD y.1 0≠0;unfold fq;rw[Ne,(Cz _).zero,zA _ 19 03,a6 y aC J kq,Int.zero_mul,UN];exact Gz fW ar
     ·rw[A78];exact⟨ar,CC⟩
    ·rw[A92];rw[A46 aq];exact 35 (L5 (35 (ak y aC) CC.symm)) (ak y aC)
    ·intro q aw r aq;rw[A46 aq];rw[A85 aw]
     ·rw[B38 aw];refine UY (ak y aC) ?_;show y.getD x.1 0*_-750 x.1*_=0;rw[a6 x ai y aC,a6 x ai J kq];simp
     ·rw[A78];refine UY (ak y aC) ?_;show y.getD i 0*_-750 i*_=0;rw[w7];lia
theorem air{sp mp:336}(h:c2 zD sp mp)(az:668 (mp.map 379))(ax:l52 (q.1<n))(au:l52 (ik q≠0)){f:Nat}(hf:f<n)(oe:l52 (q.1≠f)):o8 mp f n=solutionFor n sp f:=by
 unfold o8 solutionFor;rw[A11];rw[L2];obtain⟨s1,_,s3⟩:=UX mp 1 14 au;have tc:∀x∈m49 (m57 z.1 0),0<x:=by rw[A74];rw[A84 ai];obtain⟨y,aC,r⟩:=h.mem hz;have:=au y aC;unfold ik at this;rw[←r.1]at this;have:=(203 (r.2.zero z.1)).mpr 246;lia
 obtain⟨t1,_,t3⟩:=lcm_pos (m49 (m57 z.1 0)) 1 14 tc;generalize bR:(m49 (m57 z.1 0)).foldl GD 1=T at*;change 0<lZ mp at s1;change l52 (ik q∣lZ mp)at s3;obtain⟨S,aY⟩:∃S:Nat,lZ mp=15 S:=b71 (271 (lZ mp));have gc:0<S:=03;refine(aii t1 gc ?_ ?_ (328 f))
 ·unfold qo;rw[L_,mC,ph,ba,iP]
 ·intro k;rw[L7];unfold qo;rw[UW _ _ _ az (330 (s03 (ax q aw)))];rw[A66 (k<n)]
  ·rw[21 aS];rcases h.aio k with⟨aK,aG⟩|⟨x,y,aK,aG,r⟩
   ·rw[aG,aK];rw[A11];by_cases og:k=f
    ·subst og;rw[cZ,ry f55];simp only[beq_self_eq_true,↓reduceIte,UZ,aY];rw[w7]
    ·rw[cZ,u7 (jq og),Ma,168];have:(k==f)=09:=by simpa using og
     simp[this]
   ·rw[aG,aK];rw[A11];have aC:=nq aG;have ai:=nq aK;have CE:y.1=k:=i71 aG;have ais:x.1=k:=i71 aK;have og:(k==f)=09:=by have:=oe y aC;rw[CE]at this;simpa using this
    rw[og];rw[C71];unfold Gb;have iQ:=au y aC;have U0:=s3 y aC;rw[aY]at U0⊢;obtain⟨c,ar⟩:=U0;have zH:695 k∣15 T:=by have:=t3 _ (143 x ai);rw[ais]at this;exact Int.natAbs_dvd.mp (s00 246)
    obtain⟨d,hd⟩:=zH;unfold ik at iQ ar⊢;rw[CE]at iQ ar⊢;have ait:695 k≠0:=(203 (r.2.zero k)).mpr iQ;rw[ar,UA (692 f),Int.mul_fdiv_cancel_left _ iQ,hd,UA (-695 f),aiu _ ait,←hd,←ar,hd,ar];obtain⟨_,a,b,aN,aa,td⟩:=r.2;have g1:=td k;have g2:=td f;have key:b*(695 k*692 f)=b*(692 k*695 f):=by have eY:b*(695 k*692 f)=695 k*(b*692 f):=202;have dW:b*(692 k*695 f)=(b*692 k)*695 f:=202;rw[eY,dW,←g1,←g2];ac_rfl
    have aiv:=aik aa key;have hx:695 k*d*-(692 f*c)=-((695 k*692 f)*(c*d)):=by rw[U1];congr 1;ac_rfl
    have ip:692 k*c*(-695 f*d)=-((692 k*695 f)*(c*d)):=by rw[Int.neg_mul,U1];congr 1;ac_rfl
    rw[hx,ip,aiv]
  ·rw[134];have nr:mp.find? (58 (q.1==k))=00:=by rw[w8];intro q aw z;have:=ax q aw;rw[191]at this;lia
   rw[nr];rw[A11];rw[cZ,209];simp
 ·unfold qo;rw[UW _ _ _ az (330 (s03 (ax q aw)))];have nr:mp.find? (58 (q.1==f))=00:=by rw[w8];intro q aw z;exact oe q aw 191
  rw[nr];rw[A11];rw[cZ,ry r23];show lZ mp≠0;lia
theorem aiw:565 e90 (230=37):=by intro r aq;obtain⟨m,_,rfl⟩:=147;unfold fO;rw[ba];rfl
theorem aix(ps:336)(f:Nat):lX ps f=!(ps.any (g37 f)):=by unfold lX;congr 1;rw[u4];congr 1;funext z;rw[hu];simp only[u1,decide_eq_true_eq,beq_iff_eq];lia
theorem Mb(h:51):lx 26=w9 s:=by
 have U2:=aAD h;unfold lx w9;rw[A11];generalize GB d49 [] (b73 m16 (r.any (450 (k !=0))))=sp at*;have iQ:=UU e90 37;have gM:=aiq e90 37 aiw 37;change L8 _ e52 at iQ;have d1:∀f,(sp.any (g37 f))=(e52).any (g37 f):=by
  intro f;have:=U2.aip;have aK:(sp.map 379).any (72 (x==f))=(a23 e52).any (72 (x==f)):=by rw[this]
  rw[u4,u4]at aK;exact aK
 have gC:582 d49 (lX e52)=582 d49 (c95 (! sp.any g96)):=by refine Cp (fun f _=>?_);rw[aix,d1]
 show(582 d49 _).map _=_;rw[gC];refine lz (fun f hf=>?_);obtain⟨f1,f2⟩:=ob.mp hf;refine air U2 iQ.az iQ.lt (330 (gM.1 q aw).1) (g4.mp f1) (fun q aw z=>?_);rw[d1]at f2;have:(e52).any (g37 f)=01:=161 q aw r51;rw[this]at f2;cases f2
theorem aiy(h:51):LL 26=il s .weights:=by unfold LL;rw[Mb h];show _=0::320 (w9 s)::671 (w9 s) (429 r);rw[U3]
def rz:06:=[2,3,4,5,7,8,9,0xb]
def rA(sy:cv):99:=016 529
def rB(sy:cv)(x y:06):f88 10:=match d86 705 (! 532 (hc b (fO 75 x y)))with|some b=>some (0,b)|none=>p46 (fun d=>688 (rr e98 (fO 75 x y) d) (d,r))
def rC(sy:cv)(f:06→06→10):10:=match sy.start with|none=>[-6]|some x=>match sy.goal with|none=>[-8]|some y=>f x y
def w_(sy:cv):10:=rC sy (i00 (d50 (rB sy x y) 1 (0::649::z.2)))
def wM(ws:10)(ms:99):Bool:=ms.all (285 (! 555 060 0))
def te(sy:cv):241 10:=g36 e97 (wM ws 529)
def GF(sy:cv):10:=s01 (te sy) [1] (0::r)
theorem ahg(h:51)(f:06→06→10)(g:b7→b7→Ck)(u0:∀v w,f01→083=some w→a16 v→a16 w→f 95 461=g v w):rC 26 f=oh s g:=by
 unfold rC oh Gr Cv;rw[108 b91 d56,108 b99 d60]
 cases e:s.start with|none=>rfl|some v=>cases aG:s.goal with|none=>rfl|some w=>exact u0 v w e aG (h.st v e) (h.gl w aG)
theorem U4(s:dt):e90=f25 (285 (fO 60 m73 (292 427))):=s02 ((003).map _=_)
theorem xa{α:272}{p q:936}:922 (645 (p x=q x)→h74 p=h74 q)|[],_=>rfl|a::l,h=>by rw[jK,jK,127 a,xa 850]
theorem U5(h:51):te 26=xd s:=by unfold te xd;rw[←LW];refine xa c23;have s_:=(u5.mp aq).1;unfold wM;rw[U4,GG,hu,gB,gB];refine 158 (285 (158 n45));rw[A68 m hm];rw[B96];rw[Gy 499 s_ a09 hU.2.2,Gj,decide_eq_false_iff_not,decide_eq_true_eq];lia
theorem aAE(h:51):GF 26=il s .down:=by unfold GF;rw[U5 h];show _=(s01 (xd s) [1] (0::r));cases xd s<;>rfl
theorem aiz(h:51):∀b∈w9 s,d13=37:=by intro b aa;rw[←Mb h]at aa;unfold lx at aa;obtain⟨f,_,rfl⟩:=112 aa;unfold o8;rw[zy];unfold qo;rw[L_,mC,ph];rfl
def g5(s:dt)(v w:b7)(d:Nat):f88 10:=688 (382 (pf d 37) (429 (staysMod s d r&&(801-dv r w)%52 d !=0))) (d,r)
theorem Mc{k:Int}:∀(a b:10),(∀x∈b,x%k=0)→hc a b%k=0|[],b,_=>by simp[hc]|a::as,[],_=>by simp[hc]|a::as,b::bs,h=>by have ih:=Mc as bs 850;have aa:=127 b;unfold hc at ih⊢;rw[aic,w6];have af:k∣a*b:=GC (CF aa) (ain ..);exact Md (Me af (CF ih))
theorem aiA{a b:10}(h:eZ b=09):hc a b=0:=by have hz:∀x∈b,x=0:=276 (nk (100 (by have:eZ b=01:=161 x ai 566;rw[h]at this;cases this)));have:=Mc (k:=0) a b (276 (b27 (hz x ai)));rwa[Int.emod_zero]at this
theorem U6(ws:10)(k:Int):∀ms:99,oa ws (ms.filter eZ) k=oa ws ms k
 |[]=>rfl
 |m::ms=>by
  have ih:=U6 ws k ms;rw[iO];unfold oa at ih⊢
  cases e:eZ m with|true=>rw[101,tf,tf,ih]|false=>rw[107,tf,aiA e,ih];simp
theorem aAF(h:51){w:b7}(a3:l51 (j<37))(hw:i18 (j<37))(d:Nat):688 (rr (rA 26) (fO 60 95 461) d) (d,r)=g5 s v w d:=by
 unfold g5;congr 1;have ld:11 (fO 60 95 461)=37:=by unfold fO;simp
 unfold rr;rw[ld,←LW];have zI:565 (pf d 37) ((! 532 (hc r (fO 60 95 461)%15 d)&&oa r (rA 26) (15 d))=(staysMod s d r&&(801-dv r w)%52 d !=0)):=by
  rw[A92];have s_:=(u5.mp aq).1;rw[Gy 499 s_ a3 hw,Bool.and_comm];congr 1
  ·unfold rA;rw[U6];unfold oa staysMod;rw[U4,GG,hu,gB,gB];refine 158 (285 (158 n45));rw[A68 m hm];rw[B96];rw[Gy 499 s_ a09 hU.2.2];simp
 rw[xa zI];split
 ·next hz=>symm;rw[w8];rw[A92];rw[←zI r aq];have:=Mc (k:=15 d) r (fO 60 95 461) (276 (080 (gB.mp hz x ai)));rw[102 246];simp
 ·rfl
theorem aiB{k:Int}(aS:0<k)(x:Int):0≤x%k∧x%k<k:=⟨Int.emod_nonneg _ 03,Int.emod_lt_of_pos _ aS⟩
theorem U7{d:Int}(r:10):∀v:b7,(dv m46 v-801)%d=0|[]=>by show(413-0)%d=0;simp|i::v=>by have ih:=U7 (d:=d) r v;rw[Gx,Gx,GA (f:=72 (x%d)) (Int.zero_emod _)];rw[A50 (b09%d+dv m46 v-(b09+801)=(b09%d-b09)+(dv m46 v-801))];rw[e];refine Md (Me ?_ (CF ih));have:=Int.emod_add_mul_ediv b09 d;exact⟨-(b09/d),by rw[U1];lia⟩
theorem U8{w:b7}{d:Nat}:g5 s v w d≠00↔∃r:10,230=37∧(096 (0≤x∧x<15 d))∧(k77 (15 d∣dv r 398-dv r 427))∧¬15 d∣801-dv r w:=by
 unfold g5;rw[Ne,Option.map_eq_none_iff,w8];rw[A04]
 ·intro h;obtain⟨r,aq⟩:=Classical.not_forall.mp h;rw[A81 (Classical.not_imp.mp aq)];have ak:=Classical.not_not.mp ak;rw[hG]at ak;rw[B30 (u5.mp af)];refine⟨r,a,b,764,522⟩
  ·have:=gB.mp ak.1 m hm;exact CF (a01 246)
  ·have:=ak.2;rw[A73 (Md z)];rw[A47]
 ·rintro⟨r,a,b,c,e⟩h;refine h r (u5.mpr ⟨a,b⟩) ?_;rw[hG];rw[A27 (gB.mpr 764)]
  ·rw[Md (c m hm)];rfl
  ·simp only[bne_iff_ne,ne_eq];exact e66 (CF z)
theorem Mf{w:b7}{k a b:Nat}(aS:k=a*b)(aN:0<a)(aa:0<b)(ar:∀x:Int,b11∣x→15 b∣x→82∣x)(h:g5 s v w k≠00):g5 s v w a≠00∨g5 s v w b≠00:=by
 obtain⟨r,af,ak,a6,bH⟩:=U8.mp h;have key:∀c:Nat,0<c→c∣k→¬337∣801-dv r w→g5 s v w c≠00:=by
  intro c ar GH aU;have zJ:∀x:b7,337∣dv (r.map (·%(c:Int))) x-dv r x:=72 (CF (U7 r x));refine U8.mpr ⟨r.map (·%(c:Int)),f56,333,764,16 (aU ?_)⟩
  ·obtain⟨y,_,rfl⟩:=171;exact aiB 03 y
  ·have fX:=GC (s00 GH) (a6 m hm);have:=Int.dvd_sub (Me (zJ 398) fX) (zJ 427);rw[A50 (dv (a54 (x%337) r) 398-dv r 398+(dv r 398-dv r 427)-(dv (a54 (x%337) r) 427-dv r 427)=dv (a54 (x%337) r) 398-dv (a54 (x%337) r) 427)];rw[e]at this;rw[A10]
  ·have:=Me (Int.dvd_sub z (zJ v)) (zJ w);rw[A50 (dv (a54 (x%337) r) v-dv (a54 (x%337) r) w-(dv (a54 (x%337) r) v-801)+(dv (a54 (x%337) r) w-dv r w)=801-dv r w)];rw[e]at this;rw[A10]
 by_cases d1:b11∣801-dv r w
 ·by_cases eG:15 b∣801-dv r w
  ·exact 69 (ar _ d1 eG) bH
  ·rw[A09 (key b aa ⟨a,by rw[aS,CG]⟩ eG)]
 ·rw[A17 (key a aN ⟨b,aS⟩ d1)]
theorem aiC(h:51){w:b7}(a3:l51 (j<37))(hw:i18 (j<37)):rB 26 95 461=partedBy s v w:=by
 unfold rB partedBy;rw[Mb h,135];have:d86 (w9 s) (! 532 (hc b (fO 60 95 461)))=d86 (w9 s) (dv b v !=dv b w):=by refine xa 773;rw[Gy 499 (aiz h b aa) a3 hw,hu];simp;lia
 rw[A16]
 cases d86 (w9 s) (dv b v !=dv b w)with
  |some b=>rfl
  |none=>
   rw[A11];have aK:p46 (fun d=>688 (rr (rA 26) (fO 60 95 461) d) (d,r))=p46 (g5 s v w):=by congr 1;funext d;exact aAF h a3 hw d
   rw[aK];have aG:(bz (DIVISORS-1)).findSome? (fun d=>688 (382 (pf (d+2) 37) (429 (staysMod s (d+2) r&&(801-dv r w)%52 (d+2)!=0))) (d+2,r))=[2,3,4,5,6,7,8,9,0xa,0xb,12].findSome? (g5 s v w):=rfl;rw[aG];have xe:g5 s v w 2=00→g5 s v w 3=00→g5 s v w 6=00:=578 (nk (575 (by
    rw[A61 (Mf (a:=2) (b:=3) rfl 14 14 l90 c)]
    ·exact z a
    ·exact z b)));have xg:g5 s v w 2=00→g5 s v w 5=00→g5 s v w 0xa=00:=578 (nk (575 (by
    rw[A61 (Mf (a:=2) (b:=5) rfl 14 14 l90 c)]
    ·exact z a
    ·exact z b)));have Mg:g5 s v w 3=00→g5 s v w 4=00→g5 s v w 12=00:=578 (nk (575 (by
    rw[A61 (Mf (a:=3) (b:=4) rfl 14 14 l90 c)]
    ·exact z a
    ·exact z b)));unfold rz;simp only[tg,List.findSome?_nil];generalize g5 s v w 2=gd at*;generalize g5 s v w 3=mD at*;generalize g5 s v w 4=pj at*;generalize g5 s v w 5=pk at*;generalize g5 s v w 6=aAO at*;generalize g5 s v w 7=U9 at*;generalize g5 s v w 8=aAP at*;generalize g5 s v w 9=aAQ at*;generalize g5 s v w 0xa=aAR at*;generalize g5 s v w 0xb=aAS at*;generalize g5 s v w 12=aAT at*
   cases gd with
    |some z=>rfl
    |none=>
     cases mD with
      |some z=>rfl
      |none=>
       rw[xe rfl rfl]
       cases pj with
        |some z=>rfl
        |none=>
         rw[Mg rfl rfl]
         cases pk with|some z=>rfl|none=>rw[xg rfl rfl]
theorem aiD(h:51):w_ 26=il s .parted:=by unfold w_;show _=oh s _;refine ahg h _ _ (r99 ?_);rw[aiC h a3.2 hw.2];cases partedBy s v w<;>rfl
def hI(ls:06)(rows:30)(x:06)(y:Nat):Nat:=x.foldl (fun y c=>014 a34 y y) y
def apart(ls:06)(rows:30)(k:Nat)(x y:06):Bool:=(944).any (400 (661 p !=hI ls 17 y p))
def jL(sy:cv)(k:Nat)(rows:30):241 Nat:=sy.moves.findIdx? (285 (apart 75 17 k m.l m.r))
def GI(sy:cv)(z:Int):10:=13 (z<1∨3<z) [-7] [0,320 (mE 231 81),320 (582 (mE 231 81) (fun aD=>545 (jL sy 231 aD)))]
def zK(sy:cv)(x y:06):f88 30:=[2,3].findSome? (450 ((g31 a85 (apart 75 aD k x y&&545 (jL sy k aD))).map (fun aD=>(k,aD))))
def GJ(sy:cv):10:=rC sy (i00 (d50 (zK sy x y) 1 (0::649::m58)))
def xh(n k:Nat)(x:10):241 30:=let l:=690 n (550 (i*k) k);39 (96==n*k&&l.all (u_ k)) (some (363 d8)) 00
def qy(sy:cv)(z:Int)(x:10):10:=13 (z<1∨4<z) [-7] (match xh 81 231 x with|none=>[-0xb]|some aD=>match jL sy 231 aD with|some i=>[1,249]|none=>match sy.start,sy.goal with|some v,some w=>[0,13 (apart 75 aD 231 v w) 1 0]|_,_=>[0,0])
theorem aiE(az:ls.Nodup)(hi:866):ls.idxOf b00=i:=by have h:b00=ls[i]:=165 hi;rw[h];exact List.Nodup.idxOf_getElem az i hi
theorem th{ls:06}(az:ls.Nodup)(rows:30):∀{w:b7}(_:b89 i)(y:Nat),hI ls 17 392 y=266 w y|[],_,y=>rfl|i::w,h,y=>by show hI ls 17 392 _=266 w _;rw[th az 17 (d29 (h j e19))];simp only[aiE az (127 i)]
theorem aiF{k:Nat}{f g:240 Nat}:(407 k f !=407 k g)=(944).any (400 (f p !=g p)):=by
 rw[hu,bne_iff_ne,ly];rw[A04]
 ·intro h;refine nk (58 (h (lz (367 (nk (100 (q ⟨p,au,?_⟩)))))));simpa using e
 ·rintro⟨p,au,e⟩h;have:=List.map_inj_left.mp h p au;rw[this]at e;simp at e
theorem Mh(az:ls.Nodup)(rows:30)(k:Nat){w:b7}(a3:669 866)(hw:b89 i):apart ls 17 k 855 392=(rD k 17 v !=rD k 17 w):=by unfold rD;rw[aiF];unfold apart;congr 1;funext p;rw[th az 17 a3,th az 17 hw]
theorem U_{α:272}{p q:936}:922 (645 (p x=q x)→h69 p=h69 q)|[],_=>rfl|a::l,h=>by rw[zv,zv,127 a,U_ 850]
theorem ahh{α β:272}{p:482 β}{f:α→β}:922 ((363 f).findIdx? p=h69 (72 (p (f x))))|[]=>rfl|a::l=>by rw[eN,zv,zv,ahh]
theorem Va(h:51)(k:Nat)(aD:List Turn):jL 26 k aD=d30 (285 (rD k aD 398 !=rD k aD 427)):=by unfold jL;show(003).findIdx? _=_;rw[ahh];refine U_ 764;have hU:=h.cw m hm;exact Mh 499 aD k a09 hU.2.2
theorem Vb(h:51)(k:Nat)(aD:List Turn):545 (jL 26 k aD)=Mi s k aD:=by rw[Va h];unfold Mi;rw[hu,Option.isNone_iff_eq_none,T5,gB];refine 158 (285 (158 n47));simp
theorem aiG(h:51)(z:Int):GI 26 z=il s (.turns z):=by
 show _=13 (z<1∨15 POINTS<z) [-7] (0::pb [11 (mE 231 37),turnCount s 231]);unfold GI;show(13 (z<1∨3<z) _ _)=13 (z<1∨3<z) _ _;split
 ·rfl
 ·unfold turnCount;rw[135];have:(fun aD=>545 (jL 26 231 aD))=Mi s 231:=by funext aD;exact Vb h _ aD
  rw[A16];rfl
theorem aiH(h:51):GJ 26=il s k25:=by
 unfold GJ;show _=oh s _;refine ahg h _ _ (r99 ?_);have:zK 26 95 461=turnedBy s v w:=by
  unfold zK turnedBy;rw[135];have e:∀k,g31 (mE k 37) (apart 60 aD k 95 461&&545 (jL 26 k aD))=g31 (mE k 37) (Mi s k aD&&rD k aD v !=rD k aD w):=by intro k;refine xa (fun aD _=>?_);rw[Vb h,Mh 499 aD k a3.2 hw.2,Bool.and_comm]
  simp only[e];rfl
 rw[A16]
 cases turnedBy s v w with|none=>rfl|some z=>show 0::649::m58=0::pb (z.1::z.2.flatMap (fun t=>t));rw[U3];rfl
theorem aiI(h:51)(z:Int)(x:10):qy 26 z x=il s (.keeps z x):=by
 show _=13 (z<1∨4<z) [-7] _;unfold qy xh;rw[135];split
 ·rfl
 ·rw[A11];by_cases ar:(96==37*231&&(690 37 (550 (i*231) 231)).all (u_ 231))=01
  ·rw[198,198];rw[A11];unfold keepsRow;rw[Va h]
   cases d30 (285 (rD 231 (kS d8 (690 37 (550 (i*231) 231))) 398 !=rD 231 (kS d8 (690 37 (550 (i*231) 231))) 427))with
    |some i=>rfl
    |none=>
     rw[108 b91 d56,108 b99 d60]
     cases aK:s.start with
      |none=>rfl
      |some v=>
       cases aG:s.goal with
        |none=>rfl
        |some w=>
         simp only[wX];rw[Mh 499 _ _ (h.st v aK).2 (h.gl w aG).2];congr 2;generalize rD 231 _ v=A;generalize rD 231 _ w=B;by_cases q:A=B
         ·subst q;simp
         ·simp[q]
  ·rw[199,199]
end
section
variable{F cm:List (List Nat)}{i j n:Nat}{c_ ea g l ls:List Nat}{cs r ws:List Int}{od α β:Type}{q:Search}{s:dt}{tq:Toks}{v:Word}{m:g0}
theorem Vc{α β:272}(f:α→β)(cs:40):∀n,mz (b57 f) n=(mz cs n).map (kS f)|0=>rfl|n+1=>by show 671 (b57 f) _=(i15 _).map _;rw[LN,Ub,Vc f cs n];congr 1;funext a;rw[gP,gP];rfl
theorem Mj(k:Nat):∀n,mE k n=dJ 061 n:=by
 intro n;rw[zw]
 induction n with|zero=>rfl|succ n ih=>show 671 061 _=671 061 _;rw[ih]
section
variable[BEq α][n25]
def iq(r:40)(q:α):40:=13 (p39 q) r (r++[q])
def rE(f:α→40)(l:40):40:=(g05).foldl iq l
def pn(f:α→40):240 (40→40)|0,l=>l|n+1,l=>pn f n (rE f l)
inductive jM(f:α→40)(l:40):92 α|here{x:_}:x∈l→jM f l x|step{x y:_}:jM f l x→y∈f x→jM f l y
theorem aiJ{r:40}{q x:α}:x∈iq r q↔x∈r∨x=q:=by
 unfold iq;split
 ·next h=>
  have:=xi.mp h;rw[A04]
  ·exact aV
  ·rintro(h|rfl)
   ·exact h
   ·rw[A10]
 ·rw[e4,du]
theorem CH:∀(s r:40){x:α},x∈g49 r↔x∈r∨x∈s|[],r,x=>19|q::s,r,x=>by rw[hv,CH s,aiJ,ed,or_assoc]
theorem aiK{r:40}{q:α}(h:r.Nodup):668 (iq r q):=by
 unfold iq;split
 ·exact h
 ·next aw=>rw[L9];refine⟨h,19,fun a aN b aa=>?_⟩;rw[86 aa];rw[A91];exact aw (xi.mpr aN)
theorem Mk:∀(s r:40),r.Nodup→668 (g49 r)|[],r,h=>h|q::s,r,h=>Mk s _ (aiK h)
theorem Vd:∀(s r:40),(g49 r=r∧∀x∈s,x∈r)∨230<11 (g49 r)
 |[],r=>.inl (119 19)
 |q::s,r=>by
  rw[hv];have mono:∀(s r:40),230≤11 (g49 r):=by
   intro s
   induction s with|nil=>intro r;exact 64|cons q s ih=>intro r;rw[hv];refine cX ?_ (ih _);unfold iq;split<;>simp
  rw[A39 (p39 q=01)]
  ·have e:iq r q=r:=by unfold iq;rw[114]
   rw[e];rw[D75 (Vd s r)]
   ·refine .inl ⟨af,333⟩
    cases ai with|head=>exact xi.mp h|tail _ ai=>exact ak x ai
   ·rw[A09 af]
  ·have e:iq r q=r++[q]:=by unfold iq;rw[125]
   rw[e];refine .inr (jN ?_ (mono s _));simp
theorem Ve{f:α→40}{l:40}(h:rE f l=l):∀n,pn f n l=l|0=>rfl|n+1=>by show pn f n (rE f l)=l;rw[h];exact Ve h n
theorem Vf{f:α→40}{va:40}:m89 (645 (jM f va x)→∀x∈pn f n l,jM f va x)
 |0,l,h=>h
 |n+1,l,h=>Vf n (rE f l) (276 (by
  rw[B58 ((CH _ _).mp ai)]
  ·exact h x ai
  ·obtain⟨y,aC,CI⟩:=ni.mp ai;exact .step (h y aC) CI))
theorem Vg{f:α→40}:m89 (l22 (x∈pn f n l))|0,l,x,h=>h|n+1,l,x,h=>Vg n (rE f l) x ((CH _ _).mpr a64)
theorem Vh{f:α→40}{N:Nat}(U:92 α)(vb:∀x,U x→∀y∈f x,U y)(GK:∀l:40,c75 (645 (U x)→63≤N)):m89 (c75 (645 (U x)→N<n+63→∀x∈pn f n l,∀y∈f x,y∈pn f n l))
 |0,l,az,ax,aU=>564 (GK l az ax)
 |n+1,l,az,ax,aU=>by
  have tj:∀x∈rE f l,U x:=276 (by
   rw[B58 ((CH _ _).mp ai)]
   ·exact ax x ai
   ·obtain⟨y,aC,CI⟩:=ni.mp ai;exact vb y (ax y aC) x CI);rw[D75 (Vd g05 l)]
  ·have e:rE f l=l:=af;show∀x∈pn f n (rE f l),∀y∈f x,y∈pn f n (rE f l);rw[e,Ve e];intro x ai y aC;exact ak y (ni.mpr ⟨x,ai,aC⟩)
  ·exact Vh U vb GK n (rE f l) (Mk _ _ az) tj (a44 N (n+11 (Ml iq l g05)))
theorem Vi{f:α→40}{N:Nat}(U:92 α)(vb:∀x,U x→∀y∈f x,U y)(GK:∀l:40,c75 (645 (U x)→63≤N)){x0:α}(h0:U x0){x:α}:x∈pn f N [x0]↔jM f [x0] x:=by
 rw[A04]
 ·exact Vf N [x0] (276 (.here ai)) x
 ·intro h
  induction h with|here ai=>exact Vg N [x0] _ ai|step _ aC ih=>exact Vh U vb GK N [x0] 19 (276 (by rw[86 ai];exact h0)) 19 _ ih _ aC
end
theorem Mm:m94 (c75 (645 (x<n)→63≤n))
 |0,l,_,h=>by cases l with|nil=>exact 64|cons a r=>exact 69 (127 a) a90
 |n+1,l,az,h=>by
  have af:=Mm n (f44 (72 (x !=n))) (az.filter _) (276 (by
   obtain⟨a,b⟩:=ob.mp ai;have:=h x a;have:x≠n:=by simpa using b
   lia));have ak:63≤11 (f44 (72 (x !=n)))+1:=by
   clear af h
   induction l with
    |nil=>simp
    |cons a r ih=>
     rw[ta]at az;have:=ih az.2;rw[iO];rw[A06 a n]
     ·subst e;have:r.filter (72 (x !=a))=r:=List.filter_eq_self.mpr (276 (by simp only[bne_iff_ne];rintro rfl;exact az.1 ai));rw[142,this];simp
     ·rw[21 566];simp only[dR];lia
  lia
theorem aiL(n:Nat)(l:035)(az:l.Nodup)(h:∀z∈l,z.1<n∧z.2<n):63≤n*n:=by
 have:=Mm (n*n) (363 (16 (z.1*n+z.2))) ?_ ?_
 ·rwa[ba]at this
 ·rw[List.Nodup,Mn];refine List.Pairwise.imp_of_mem ?_ az;intro a b aN aa d9 e;apply d9;have af:=h a aN;have ak:=h b aa;have aU:0<n:=03;have aK:a.1=b.1:=by have:(a.1*n+a.2)/n=(b.1*n+b.2)/n:=109 (·/n) e;rw[CG a.1,CG b.1,aiM aU,aiM aU,aiN af.2,aiN ak.2]at this;lia
  have aG:a.2=b.2:=by rw[aK]at e;lia
  exact aiO aK aG
 ·rw[A74];rw[A84 ai];have:=h z hz;have:z.1*n+n≤n*n:=by have:(z.1+1)*n≤n*n:=CJ _ 183;rw[pq,pv]at this;exact this
  lia
structure xk(w:Nat)(m:rF):04 where
 row:∀r∈m.next,230=w∧h70 (q<403)
theorem zL{w:Nat}{m:rF}(h:xk w m){q:Nat}(aw:q<403)(hi:i<w):11 852=w∧(852).getD i 0<403:=by have e:852=m.next[q]:=165 aw;rw[B30 (h.row _ (ko aw))];rw[e];rw[A03 a (b _ ?_)];rw[cZ,193];exact 141
theorem rG{w:Nat}{m:rF}(h:xk w m):p44 ((669 (i<w))→q<403→gk m q v<403)|[],q,_,aw=>aw|i::v,q,a3,aw=>rG h (v:=v) (d29 (a3 j e19)) (zL h aw (a3 i 237)).2
theorem Mo(m:rF)(q:Nat)(v:b7)(i:Nat):gk m q (v++[i])=(682 (gk m q v)).getD i 0:=by unfold gk;rw[sZ];rfl
theorem Vj(m:rF):∀n l,comeTo m n l=pn m84 n l|0,l=>rfl|n+1,l=>Vj m n _
theorem Vk(m:rF):∀n l,pairsFrom m n l=pn (m44 (682 z.1) (682 z.2)) n l|0,l=>rfl|n+1,l=>Vk m n _
theorem Vl{w:Nat}{m:rF}(h:xk w m){q y:Nat}(aw:q<403)(aC:y∈852):∃i,i<w∧y=(852).getD i 0∧y<403:=by have e:852=m.next[q]:=165 aw;rw[B30 (h.row _ (ko aw))];rw[e]at aC⊢;rw[A86 aC];refine⟨i,by rw[←a];exact 159 hi,?_,b y aC⟩;rw[cZ,hi];rfl
theorem aiP{w:Nat}{m:rF}(h:xk w m)(h0:0<403){q:Nat}:q∈statesOf m↔∃v:b7,(669 (i<w))∧q=gk m 0 v:=by
 unfold statesOf;rw[Vj,Vi (58 (q<403)) (n54 (by obtain⟨_,_,_,z⟩:=Vl h ai aC;exact z)) (fun l az ax=>Mm _ l az ax) h0];rw[A04]
 ·intro c
  induction c with
   |here ai=>rw[86 ai];exact⟨[],19,rfl⟩
   |step _ aC ih=>
    rw[D74];obtain⟨i,hi,e,_⟩:=Vl h (rG h a3 h0) aC;refine⟨v++[i],n40,by rw[Mo];exact e⟩;rw[B40 bS]
    ·exact a3 j bS
    ·rw[86 bS];exact hi
 ·rintro⟨v,a3,rfl⟩;have:∀(v:b7)(q:Nat),q<403→(669 (i<w))→jM m84 [0] q→jM m84 [0] (gk m q v):=by
   intro v
   induction v with|nil=>intro q _ _ c;exact c|cons i v ih=>intro q aw a3 c;have na:=zL h aw (a3 i 237);refine ih _ na.2 (d29 (a3 j e19)) (.step c ?_);show(852).getD i 0∈852;have eY:i<11 852:=364 na.1 (a3 i 237);generalize 852=R at eY⊢;rw[cZ,cA eY];exact 141
  exact this v 0 h0 a3 (.here 19)
theorem aiQ{a b:06}{z:917}(h:z∈a.zip b):∃i,i<733∧i<d13∧z=(e59 i,792):=by rw[A86 h];have ax:=159 hi;rw[aiR]at ax;refine⟨i,03,03,?_⟩;rw[oi]at hi;obtain⟨dh,e⟩:=hi;rw[←e,aiS,cZ,cZ,193,193];rfl
theorem aiT{a b:06}(aN:i<733)(aa:i<d13):(e59 i,792)∈a.zip b:=by
 have:(a.zip b)[i]?=some (e59 i,792):=by rw[cA (by rw[aiR];lia),aiS,cZ,cZ,cA aN,cA aa];rfl
 exact cG 246
theorem aiU{w:Nat}{m:rF}(h:xk w m){p q:Nat}(au:p<403)(aw:q<403):isBelow m p q=01↔∀v:b7,(669 (i<w))→nt m (gk m p v)=01→nt m (gk m q v)=01:=by
 unfold isBelow;have key:∀z,z∈pairsFrom m (403*403) [(p,q)]↔∃v:b7,(669 (i<w))∧z=(gk m p v,gk m q v):=by
  intro z;have cz:∀(x:917),(x.1<403∧x.2<403)→∀y∈(682 x.1).zip (682 x.2),∃i,i<w∧y=((682 x.1).getD i 0,(682 x.2).getD i 0):=by intro x ai y aC;obtain⟨i,af,ak,e⟩:=aiQ aC;have aK:682 x.1=m.next[x.1]:=165 ai.1;have:=(h.row _ (ko ai.1)).1;rw[←aK]at this;exact⟨i,03,e⟩
  rw[Vk,Vi (fun z:Nat×Nat=>z.1<403∧z.2<403) (n54 (n89 (cz x ai y aC) ⟨(zL h ai.1 hi).2,(zL h ai.2 hi).2⟩)) (fun l az ax=>aiL _ l az ax) ⟨au,aw⟩];rw[A04]
  ·intro c
   induction c with
    |here ai=>rw[86 ai];exact⟨[],19,rfl⟩
    |step _ aC ih=>
     rw[D74];rw[B74 (cz _ ⟨rG h a3 au,rG h a3 aw⟩ _ aC)];refine⟨v++[i],n40,by rw[Mo,Mo]⟩;rw[B40 bS]
     ·exact a3 j bS
     ·rw[86 bS];exact hi
  ·rintro⟨v,a3,rfl⟩;have:∀(v:b7)(a b:Nat),a<403→b<403→(669 (i<w))→jM (m44 (682 z.1) (682 z.2)) [(p,q)] (a,b)→jM (m44 (682 z.1) (682 z.2)) [(p,q)] (gk m a v,gk m b v):=by
    intro v
    induction v with|nil=>intro a b _ _ _ c;exact c|cons i v ih=>intro a b aN aa a3 c;have hi:=a3 i 237;have cR:=zL h aN hi;have dS:=zL h aa hi;exact ih _ _ cR.2 dS.2 (d29 (a3 j e19)) (.step c (aiT (l11 cR.1) (l11 dS.1)))
   exact this v p q au aw a3 (.here 19)
 rw[gB];rw[A04]
 ·intro dQ v a3 a4;have:=dQ _ ((key _).mpr (715 v a3));simp only[a4,Vm,Cu]at this;rw[A10]
 ·intro dQ z hz;rw[C32 ((key z).mp hz)];have:=dQ v a3
  cases e:nt m (gk m p v)with|false=>simp|true=>simp[this e]
theorem Vn{w:Nat}{m:rF}(h:xk w m)(h0:0<403){v:ez}(ax:∀i∈v.left,i<w)(aq:∀i∈v.right,i<w):jr m v=01↔∀u:b7,(∀i∈u,i<w)→(l50=01→u=[])→∀x:b7,(∀i∈x,i<w)→(v.last=01→x=[])→nt m (gk m (gk m (gk m 0 u) 084) x)=01→nt m (gk m (gk m (gk m 0 u) b29) x)=01:=by
 unfold jr;rw[gB];have Vo:∀q,(q∈39 l50 [0] (statesOf m))↔d28 ((∀i∈u,i<w)∧(l50=01→u=[])∧q=gk m 0 u):=by
  intro q;by_cases hf:l50=01
  ·rw[21 hf,du];rw[A04]
   ·rw[A91];exact⟨[],19,525,rfl⟩
   ·rw[D71];rw[bp hf];rfl
  ·rw[23 hf,aiP h h0];rw[A04]
   ·rintro⟨u,bp,e⟩;exact⟨u,bp,16 (69 z hf),e⟩
   ·rintro⟨u,bp,_,e⟩;exact⟨u,bp,e⟩
 have Vp:∀q,q<403→((39 v.last (! nt m (gk m q 084)||nt m (gk m q b29)) (isBelow m (gk m q 084) (gk m q b29)))=01↔∀x:b7,(∀i∈x,i<w)→(v.last=01→x=[])→nt m (gk m (gk m q 084) x)=01→nt m (gk m (gk m q b29) x)=01):=by
  intro q aw;by_cases tl:v.last=01
  ·rw[21 tl];rw[A04]
   ·intro a x _ ai g;rw[ai tl]at g⊢;change nt m (gk m q 084)=01 at g;show nt m (gk m q b29)=01;rw[g]at a;simpa using a
   ·intro a;have:=a [] 19 525;change nt m (gk m q 084)=01→nt m (gk m q b29)=01 at this
    cases e:nt m (gk m q 084)with|false=>simp|true=>simp[this e]
  ·rw[23 tl,aiU h (rG h ax aw) (rG h aq aw)];rw[A04]
   ·intro a x ai _ g;exact a x ai g
   ·intro a x ai g;exact a x ai (16 (69 z tl)) g
 rw[A04]
 ·intro a u bp kT;have:=a _ ((Vo _).mpr ⟨u,bp,kT,rfl⟩);exact(Vp _ (rG h bp h0)).mp 246
 ·intro a q aw;obtain⟨u,bp,kT,rfl⟩:=(Vo q).mp aw;exact(Vp _ (rG h bp h0)).mpr (a u bp kT)
def dy(w n:Nat)(l:06):30:=690 w (c15 n (q*w+i))
theorem aiV{w:Nat}{q:Nat}(hi:i<w)(aw:q<n):((dy w n l).getD i []).getD q q=835 (q*w+i):=by
 unfold dy;have e:(690 w (c15 n (q*w+i))).getD i []=c15 n (q*w+i):=by rw[cZ,cK,sY hi];rfl
 rw[e,cZ,cK,sY aw];rfl
theorem xl(w:Nat):m94 (11 073=n)|0,_=>rfl|n+1,l=>by show 11 (_::cut w n _)=_;rw[dR,xl]
theorem Mp(w:Nat):∀(n:Nat)(l:06)(q:Nat),q<n→(073).getD q []=221 (735 (q*w)) w|0,_,_,h=>69 h a90|n+1,l,0,_=>by show l.take w=_;simp|n+1,l,q+1,h=>by show(cut w n (735 w)).getD q []=_;rw[Mp w n _ q 03,rH,pq,pv,tm w]
theorem aiW{w:Nat}{q:Nat}(aw:q<n)(hi:i<w):((073).getD q []).getD i 0=835 (q*w+i):=by rw[Mp w n l q aw,cZ,aiX,21 hi,aiY,cZ]
theorem Mq{q w:Nat}(aw:q<n)(hi:i<w):q*w+i<n*w:=q04 ((q+1)*w≤n*w) (CJ _ aw)
theorem Vq{w:Nat}(ax:63=n*w)(aa:e89 q n):xk w (gD n w l g):=by
 refine⟨c23⟩;have aq:r∈073:=aq;obtain⟨q,aw⟩:=rv aq;have Mr:q<n:=by have:=159 aw;rwa[xl]at this
 have e:r=221 (735 (q*w)) w:=by rw[←Mp w n l q Mr,cZ,aw];rfl
 show 230=w∧h70 (q<11 073);rw[xl,e];rw[A03 ?_ (276 (aa x (uY (qp ai))))];rw[eS,fV,ax];have:(q+1)*w≤n*w:=CJ _ Mr;rw[pq,pv]at this;lia
theorem Ly(h:i<63):835 i∈l:=by rw[cZ,cA h];exact 141
theorem lB{n w:Nat}{l g:06}(ax:63=n*w)(aa:e89 q n):p44 ((669 (i<w))→q<n→cP (dy w n l) v q=gk (gD n w l g) q v)|[],q,_,_=>rfl|i::v,q,a3,aw=>by have hi:=a3 i 237;show cP (dy w n l) v (((dy w n l).getD i []).getD q q)=gk (gD n w l g) (((073).getD q []).getD i 0) v;rw[aiV hi aw,aiW aw hi];exact lB ax aa (d29 (a3 j e19)) (aa _ (Ly (n84 (Mq aw hi))))
theorem xm{w:Nat}(q:Nat):nt (gD n w l g) q=(747 q==1):=by
 show(g.map (507 (b==1))).getD q 09=_;rw[cZ,cK,cZ]
 cases g[q]? with|none=>rfl|some b=>rfl
def CK(rows:30)(ms:700)(g:06):04:=∃m∈ms,d28 ((b88 i)∧(980=01→u=[])∧∃x:b7,(∀i∈x,i<667)∧(670=01→x=[])∧g=[266 x (266 398 (266 u 0)),266 x (266 427 (266 u 0))])
def tn(c_:06)(cm:30):Bool:=cm.all (563 (!((643 (747 0)==1)&&(643 (747 1)==0))))
theorem Vr{w:Nat}(h0:0<n)(ax:63=n*w)(aa:e89 q n)(a4:∀x∈c_,x=0∨x=1)(gl:k45=n){ms:700}(hm:k85 ((p45 (i<w))∧(∀i∈m.right,i<w)))(Vs:∀g,g∈cm↔CK (dy w n l) ms g):tn c_ cm=ms.all (jr (gD n w l c_)):=by
 have ok:=Vq (g:=c_) ax aa;have nl:(gD n w l c_).next.length=n:=xl w n l;have cl:11 (dy w n l)=w:=by unfold dy;simp
 have lt:p44 ((669 (i<w))→q<n→cP (dy w n l) v q<n):=fun{v q:_}a3 aw=>364 (lB (g:=c_) ax aa a3 aw) (Nat.lt_of_lt_of_eq (rG ok a3 (by rw[nl];exact aw)) nl);have two:∀q,q<n→((643 q==0)=!(643 q==1)):=330 (by rcases a4 _ (Ly (by rw[gl];exact aw))with e|e<;>rw[e]<;>rfl);rw[hu,tn,gB,gB];rw[A04]
 ·intro h m vc;have oj:=hm m vc;rw[Vn ok r98 oj.1 oj.2];intro u bp kT x ai zz Vt;have i5:cP (dy w n l) u 0<n:=lt bp h0;have CL:=lt oj.1 i5;have vd:=lt oj.2 i5;have:=h _ ((Vs _).mpr ⟨m,vc,u,by rw[cl];exact bp,kT,x,by rw[cl];exact ai,zz,rfl⟩);simp only[Ms,Mt]at this;rw[A73 (two _ (lt ai vd))];rw[xm,←lB (g:=c_) ax aa bp h0,←lB (g:=c_) ax aa oj.1 i5,←lB (g:=c_) ax aa ai CL]at Vt;rw[xm,←lB (g:=c_) ax aa bp h0,←lB (g:=c_) ax aa oj.2 i5,←lB (g:=c_) ax aa ai vd];rw[Vt]at this;simpa using this
 ·intro h g aiZ;obtain⟨m,vc,u,bp,kT,x,ai,zz,rfl⟩:=(Vs g).mp aiZ;rw[cl]at bp ai;have oj:=hm m vc;have i5:cP (dy w n l) u 0<n:=lt bp h0;have CL:=lt oj.1 i5;have vd:=lt oj.2 i5;have:=(Vn ok r98 oj.1 oj.2).mp (h m vc) u bp kT x ai zz;rw[xm,xm,←lB (g:=c_) ax aa bp h0,←lB (g:=c_) ax aa oj.1 i5,←lB (g:=c_) ax aa ai CL,←lB (g:=c_) ax aa oj.2 i5,←lB (g:=c_) ax aa ai vd]at this;simp only[Ms,Mt];rw[two _ (lt ai vd)]
  cases e:(643 (cP (dy w n l) x (cP (dy w n l) 398 (cP (dy w n l) u 0)))==1)with|false=>simp|true=>rw[this e];simp
def xn(s:dt)(n:Nat)(v w:b7):912:=(600 n 897).findSome? (973 (13 (778=044) 00 ((382 (dJ [0,1] n) (563 ((914 v 0==1)&&(914 w 0==0)&&019 l g))).map (563 (l++g)))))
def tp(s:dt)(v w:b7):f88 06:=(bz i51).findSome? (450 (g60 (xn s (k+1) v w) (k+1,x)))
def Mu(s:dt):10:=oh s (fun v w=>d50 (tp s v w) 1 (0::649::b6 z.2))
theorem CN(f:α→β)(cs:40)(n:Nat):dJ (b57 f) n=(043).map (kS f):=by rw[zw,zw,Vc]
theorem zM(k n:Nat):(pf k n).map (kS hT)=600 k n:=by rw[LW,←CN];congr 1;unfold b6;rw[gP];refine 35 (lz (k33 ?_)) (CO _);simp
theorem xo{k:Nat}{r:06}(h:r∈600 k n):873∧096 (x<k):=by rw[←zM]at h;rw[A84 h];rw[B30 (u5.mp hz)];rw[A03 (by simpa using a) 333];rw[A46 ai];have:=b y aC;lia
theorem GL{α β:272}{f g:α→241 β}:922 (645 (f x=g x)→d31 f=d31 g)|[],_=>rfl|a::l,h=>by rw[tg,tg,127 a,GL 850]
theorem zN{α β od:272}{f:α→241 β}{g:β→od}:922 ((d31 f).map g=d31 (72 ((f x).map g)))
 |[]=>rfl
 |a::l=>by
  rw[tg,tg]
  cases f a with|none=>exact zN|some b=>rfl
theorem Vu(w:Nat):m94 (63=n*w→541 073=l)|0,l,h=>by rw[Nat.zero_mul]at h;rw[u3.mp h];rfl|n+1,l,h=>by show 541 (l.take w::cut w n (735 w))=l;rw[qs,Vu w n (735 w) (by rw[fV,h,pq];lia),om]
theorem ai0{w:Nat}(ax:63=n*w)(a4:∀x∈g,x=0∨x=1):CP (gD n w l g)=44::b6 (l++g):=by
 unfold CP;show pb (11 073::671 073 (429 r)++(g.map (507 (b==1))).map (507 (13 b 1 0)))=_;rw[xl,U3,Vu w n l ax,gP];have:g.map ((fun b:Bool=>13 b 1 0)∘507 (b==1))=g:=by refine 35 (lz 333) (CO _);rcases a4 x ai with e|e<;>rw[e]<;>rfl
 rw[A16];rfl
theorem ai1(s:dt)(m:rF)(v w:b7):545 (CQ s m v w)=(lC m v&&f61 m&&! lC m w):=by
 unfold CQ
 cases lC m v with
  |false=>rfl
  |true=>
   simp only[Vm,l0,↓reduceIte,w3]
   cases e:d30 (72 (! jr m x))with
    |some i=>
     have:f61 m=09:=by cases d1:f61 m with|false=>rfl|true=>obtain⟨af,ak,_⟩:=ahF.mp e;rw[gB.mp d1 _ (ko af)]at ak;cases ak
     rw[A16];rfl
    |none=>have:f61 m=01:=gB.mpr (276 (q95 (T5.mp e x ai)));rw[A16];rw[B03 (lC m w)]
theorem ai2{w:b7}(a3:a28 i)(hw:f58 (i<37))(h0:0<n):(382 (machinesOf n 37) (285 (lC m v&&! lC m w&&545 (CQ s m v w)))).map CP=g60 (xn s n v w) (44::b6 x):=by
 unfold machinesOf xn;rw[List.find?_flatMap,←zM,List.findSome?_map,zN,zN];refine GL (fun Mv Mw=>?_);have Vv:Mv.map hT∈600 n 897:=m20 Mv Mw rfl;obtain⟨ax,aa⟩:=xo Vv;rw[B96];generalize Mv.map hT=l at ax aa Vv;rw[ai3];have aG:dJ [0,1] n=(pf 2 n).map (kS hT):=by rw[zM];rfl
 rw[aG,ai3];have pr:∀iR∈pf 2 n,((285 (lC m v&&! lC m w&&545 (CQ s m v w)))∘563 (gD n 37 l (g.map hT))) iR=(! 29 (778=044)&&(((638).getD 778 0==1)&&((638).getD 044 0==0)&&019 l 638)):=by
  intro iR Mx;have xp:638∈600 2 n:=m20 iR Mx rfl;obtain⟨gl,pw⟩:=xo xp;rw[B96];generalize 638=g at gl pw;rw[ai1];unfold lC;rw[←lB (g:=g) ax aa a3 h0,←lB (g:=g) ax aa hw h0,xm,xm];have lt:044<n:=by rw[lB (g:=g) ax aa hw h0];have:=rG (Vq (g:=g) ax aa) hw (q:=0) (by show 0<11 (cut _ n l);rw[xl];exact h0);rw[A73 (88 ((gD n 37 l g).next.length=n) (xl ..))];rw[A10]
  have hz:=pw _ (Ly (l:=g) (i:=044) (by rw[gl];exact lt));generalize di:778=A;generalize fY:044=B at hz;have two:(747 B==0)=!(747 B==1):=by
   rcases Nat.lt_succ_iff_lt_or_eq.mp hz with e|e
   ·have:747 B=0:=03;rw[A16];rfl
   ·rw[e];rfl
  rw[two];rw[A06 A B]
  ·subst e;rw[102 rfl];cases(747 A==1)<;>simp
  ·rw[132];cases(747 A==1)<;>cases(747 B==1)<;>simp
 rw[xa pr];rw[A06 778 044]
 ·rw[155,190];have:382 (pf 2 n) (fun iR=>(! 01&&(((638).getD 778 0==1)&&((638).getD 044 0==0)&&019 l 638)))=00:=by rw[w8];intro x _;simp
  rw[A16];rfl
 ·rw[148,132];simp only[ai4,w3];show _=((382 (pf 2 n) _).map _|>.map _).map _
  cases gC:382 (pf 2 n) (fun iR=>(((638).getD 778 0==1)&&((638).getD 044 0==0)&&019 l 638))with|none=>simp only[GN];rw[show 382 (pf 2 n) ((563 ((914 v 0==1)&&(914 w 0==0)&&019 l g))∘kS hT)=00 from gC];rfl|some iR=>rw[show 382 (pf 2 n) ((563 ((914 v 0==1)&&(914 w 0==0)&&019 l g))∘kS hT)=some iR from gC];have Mx:=nq gC;have xp:638∈600 2 n:=m20 iR Mx rfl;obtain⟨gl,pw⟩:=xo xp;show some (CP (gD n 37 l 638))=some (44::b6 (l++638));rw[ai0 ax (276 (564 (pw x ai)))]
theorem ai5(h:51):Mu s=il s .seek:=by
 unfold Mu;show oh s _=oh s _;unfold oh Gr
 cases aR:s.start with
  |none=>rfl
  |some v=>
   rw[A11];unfold Cv
   cases pa:s.goal with
    |none=>rfl
    |some w=>
     have a3:=(h.st v aR).2;have hw:=(h.gl w pa).2;show(d50 (tp s v w) 1 (0::649::b6 z.2))=(o86 (soughtBy s v w) [1] (0::CP m));have key:(soughtBy s v w).map CP=g64 (tp s v w) (649::b6 z.2):=by unfold soughtBy tp;rw[zN,zN];refine GL (fun k _=>?_);rw[ai2 a3 hw (Nat.succ_pos k),Ud];rfl
     cases aK:soughtBy s v w with
      |none=>
       rw[aK]at key
       cases aG:tp s v w with|none=>rfl|some z=>rw[aG]at key;cases key
      |some m=>
       rw[aK]at key
       cases aG:tp s v w with|none=>rw[aG]at key;cases key|some z=>rw[aG]at key;have:=cI key;rw[A11];rw[A16]
def sS(l x:06):241 Nat:=382 (bz e79) (400 (550 p 63==l))
def iS(sy:cv)(x:06):912:=sy.moves.findSome? (285 (b95 (sS m.l x) 720))
def fE(n:Nat)(w:06):04:=f58 (i<n)
theorem ai6(az:ls.Nodup){l w:b7}(ax:905 l)(hw:905 w):sS (370 l) 392=382 (bz (218+1)) (400 (29 (j24=l))):=by unfold sS;rw[eA,eA];refine xa (fun p _=>?_);rw[←Ci,←Gd,hu,beq_iff_eq,decide_eq_true_eq];exact LM az (T4 hw) ax
theorem Vw{α β:272}{p:92 α}[DecidablePred p]{f:α→β}:922 ((d31 (72 (943 (p x) (f x))))=(h74 (72 (29 (p x)))).map f)
 |[]=>rfl
 |a::l=>by
  rw[tg,jK];rw[A39 (p a)]
  ·rw[114,188];rfl
  ·rw[125,113 h];exact Vw
theorem Vx{α β od:272}{f:β→241 od}{g:α→β}:922 ((363 g).findSome? f=d31 (72 (f (g x))))|[]=>rfl|a::l=>by rw[eN,tg,tg,Vx]
theorem ai7(h:51){w:b7}(hw:455 w):iS 26 461=(hy s w).map l62:=by unfold iS hy;show(003).findSome? _=_;rw[Vx,zN];refine GL 764;rw[A68 m hm];rw[Vw];show(sS m73 461).map _=_;rw[ai6 499 a09 hw,Ud];congr 1;funext p;exact Cm 60 m w p
theorem My{w:b7}(e:hy s w=54):∃m∈s.moves,∃p,p≤218∧m22=398∧v=g76++(427++g50 a08):=by
 unfold hy at e;obtain⟨m,hm,aG⟩:=Vy e;obtain⟨p,au,cp⟩:=Vy aG;have au:=154;split at cp
 ·next ar=>exact⟨m,hm,p,03,ar,129 cp⟩
 ·cases cp
theorem GO(ws:10)(v w:b7):615 (v++w)=615 v+615 w:=by unfold dv;rw[sZ,Gw];rfl
theorem ai8(ws:10){w l:b7}{p:Nat}(e:j24=l):615 w=615 g76+(615 l+615 (g50 63)):=by
 have:w=g76++(l++g50 63):=by have ak:=om 63 997;rw[e]at ak;rw[ak,om]
 conv=>lhs;rw[this]
 rw[GO,GO]
structure l2(s:dt)(ws:10):04 where
 pos:∀i,0≤c18 i∧c18 i≤3
 b1:k77 (dv ws 427<dv ws 398)
theorem ai9(e:xd s=some ws):562:=by
 unfold xd at e;have af:=u5.mp (nq e);have ak:=zE e;rw[A03 (425 ?_) (k38 (080 (gB.mp ak m hm)))];rw[cZ]
 cases hg:ws[i]? with|none=>exact⟨14,14⟩|some x=>have:=af.2 x (cG hg);exact⟨183,636 x 3⟩
theorem Mz{ws:10}(h:∀i,0≤c18 i∧c18 i≤3):∀w:b7,0≤615 w∧615 w≤3*218|[]=>⟨Vz 0,Vz 0⟩|i::w=>by have ih:=Mz h w;have:=h i;rw[Gx,dR];lia
theorem aja(f:562){w:b7}(e:hy s w=54):615 v<615 w:=by obtain⟨m,hm,p,_,af,rfl⟩:=My e;rw[ai8 ws af,GO,GO];have:=f.b1 m hm;lia
def js(ws:10)(w:b7):Nat:=271 (615 w)
theorem GP(f:562){w:b7}(e:hy s w=54):js ws v<788:=by have:=aja f e;have:=(Mz f.pos v).1;unfold js;lia
theorem VA(h:51){w:b7}(hw:455 w)(e:hy s w=54):455 v:=by
 obtain⟨m,hm,p,_,af,rfl⟩:=My e;intro i hi;rw[A68 m hm];rcases 362 hi with hi|hi
 ·exact hw i (qp hi)
 ·rcases 362 hi with hi|hi
  ·exact hU.2.2 i hi
  ·exact hw i (uY (uY hi))
theorem VB(h:51)(f:562){w:b7}(e:hy s w=54):734+12*js ws v≤218+12*788:=by have ak:=GP f e;obtain⟨m,hm,p,au,af,rfl⟩:=My e;rw[A68 m hm];have:=wV au af;have dW:=hU.2.1;rw[cn,cn,eS,fV,fV];lia
def qk(s:dt):240 (b7→List b7)|0,w=>[w]|n+1,w=>823 s w [w] (w::qk s n v)
theorem MA{s:dt}{ws:10}(f:562):∀(n:Nat)(w:b7),788<n→qk s n w=qk s (788+1) w
 |0,w,h=>69 h a90
 |n+1,w,h=>by
  show(823 s w [w] (w::qk s n v))=(823 s w [w] (w::qk s 788 v))
  cases e:hy s w with|none=>rfl|some v=>have:=GP f e;rw[A11];rw[MA f n v 03,MA f 788 v 03]termination_by n=>n
def rI(s:dt)(ws:10)(w:b7):List b7:=qk s (788+1) w
theorem VC(f:562)(w:b7):rI s ws w=w::823 s w [] (rI s ws v):=by
 unfold rI;show(823 s w [w] (w::qk s 788 v))=_
 cases e:hy s w with|none=>rfl|some v=>rw[A11];rw[MA f _ v (GP f e)]
theorem VD(s:dt):p42 (∃v,p43 (qk s n w)=54∧(xq s n w k).1=v∧(xq s n w k).2+1=k+11 (qk s n w))
 |0,w,k=>072 w rfl
 |n+1,w,k=>by
  show∃v,p43 (823 s w [w] (w::qk s n v))=54∧(823 s w (w,k) (xq s n v (k+1))).1=v∧(823 s w (w,k) (xq s n v (k+1))).2+1=k+11 (823 s w [w] (w::qk s n v))
  cases e:hy s w with
   |none=>exact⟨w,rfl,rfl,rfl⟩
   |some v=>
    obtain⟨u,af,ak,a6⟩:=VD s n v (k+1);refine⟨u,?_,ak,?_⟩
    ·rw[A11]
     cases s8:qk s n v with|nil=>rw[s8]at af;cases af|cons a r=>rw[s8]at af;rw[List.getLast?_cons_cons];exact af
    ·rw[A11];rw[a6,dR];lia
theorem VE(s:dt)(ws:10)(w:b7):∃v,p43 (rI s ws w)=54∧(ee s ws w).1=v∧(ee s ws w).2+1=11 (rI s ws w):=by obtain⟨v,af,ak,a6⟩:=VD s (788+1) w 0;exact⟨v,af,ak,by rw[qx]at a6;exact a6⟩
theorem GQ(h:51)(ws:10){w:b7}(hw:455 w):455 (ee s ws w).1:=by
 have:p42 (455 w→455 (xq s n w k).1):=by
  intro n
  induction n with
   |zero=>intro w k hw;exact hw
   |succ n ih=>
    intro w k hw;show fE _ (823 s w (w,k) (xq s n v (k+1))).1
    cases e:hy s w with|none=>exact hw|some v=>exact ih v (k+1) (VA h hw e)
 exact this _ w 0 hw
theorem ajb(h:51)(f:562){w:b7}:h93 (ee s ws w)≤218+12*788:=by
 have:p42 (h93 (xq s n w k)≤218+12*788):=by
  intro n
  induction n with
   |zero=>intro w k;show 218≤_;lia
   |succ n ih=>
    intro w k;show h93 (823 s w (w,k) (xq s n v (k+1)))≤_
    cases e:hy s w with|none=>show 218≤_;lia|some v=>have:=ih v (k+1);have:=VB h f e;rw[A11];lia
 exact this _ w 0
theorem VF(f:562)(w:b7):788≤3*218:=by have:=Mz f.pos w;unfold js;lia
def rJ(i j:Nat)(a b:ez):c48:=h75 (bz (542+1)) (400 (943 (221 (i17 p) b42=f27∧p+b42≤542∧(i≠j∨p≠0)) (r97 (p41 p++(d11++i17 (p+b42))))))
def vf(i j:Nat)(a b:ez):c48:=h75 (bz m40) (737 (943 (0<o∧i65 o=i90) (l89 (087++996) h65 996 (i62 o++d11))))
theorem MB(s:dt){a b:ez}(aN:754=533)(aa:k74 j=360):xr s i j=rJ i j a b++vf i j a b:=by unfold xr;rw[aN,aa];rfl
theorem ajc{a:ez}:rJ i i a a=[]:=by
 unfold rJ;rw[List.filterMap_eq_nil_iff];intro p au;rw[if_neg];rintro⟨_,af,ak⟩;rcases ak with ak|ak
 ·exact ak rfl
 ·lia
theorem GR{α β:272}{p:92 α}[DecidablePred p]{f:α→β}:922 ((p35 (72 (943 (p x) (f x))))=(f44 (72 (29 (p x)))).map f)
 |[]=>rfl
 |a::l=>by
  rw[w0,iO];rw[A39 (p a)]
  ·rw[114,21 188,eN,GR]
  ·rw[125,23 (c99 (113 h)),GR]
theorem ajd(az:ls.Nodup){a b:ez}(MC:i≠j)(hf:b.first=09)(ax:b.last=09)(jO:905 087)(l3:905 f27):rJ i j a b=b95 (eR (cY ls b) n07) (r97 (p41 p++(d11++473 (i17 p) b42))):=by
 unfold rJ eR;rw[GR,eA];have e:909 (542+1) (400 (29 (221 (i17 p) b42=f27∧p+b42≤542∧(i≠j∨p≠0))))=909 (542+1) (uU (cY ls b) n07):=by
  refine Cp 263;rw[Gh az l3 jO,hf,ax,hu,decide_eq_true_eq];simp only[ai4,VG,Bool.and_true,beq_iff_eq];have au:=154;rw[A04]
  ·rintro⟨x,_⟩;exact x
  ·intro x;exact⟨x,wV 03 x,.inl MC⟩
 rw[e];refine lz (fun p _=>?_);rw[rH]
def TP(a b:ez):06:=g71 (m40-1) (737 (29 (i65 o=i90)))
theorem aje{a b:ez}:vf i j a b=(TP a b).map (737 (l89 (087++996) h65 996 (i62 o++d11))):=by
 unfold vf TP;rw[GR];congr 1;generalize m40=n
 cases n with|zero=>rfl|succ n=>rw[Gv,iO,142];show _=g71 n _;have:407 n Nat.succ=407 n (1+·):=lz (k33 03);rw[A16];refine Cp (fun o a8=>?_);obtain⟨x,_,rfl⟩:=112 a8;rw[hu,decide_eq_true_eq,decide_eq_true_eq];exact⟨312 h.2,312 ⟨03,h⟩⟩
structure VH(n:Nat)(z:nu):04 where
 w:fE n b36∧z.word.length≤534
 l:fE n h62∧z.left.length≤534
 r:fE n h61∧z.right.length≤534
theorem VI(h:51){z:nu}(hz:z∈CR s):VH 37 z:=by
 unfold CR at hz;obtain⟨i,hi,hz⟩:=ni.mp hz;obtain⟨j,bS,hz⟩:=ni.mp hz;have hi:=a41;have bS:=g4.mp bS;rw[MB s 122 (cA bS)]at hz;have jO:=h.cw _ (ko hi);have l3:=h.cw _ (ko bS);generalize b80=a at*;generalize j70=b at*;have app:∀{x y:06},455 x→455 y→455 (x++y):=fun ai aC k aS=>(362 aS).elim (ai k) (aC k);have tk:∀{x:06}{n:Nat},455 x→455 (814 n):=fun ai k aS=>ai k (qp aS);have fF:∀{x:06}{n:Nat},455 x→455 (884 n):=fun ai k aS=>ai k (uY aS);have a1:fE _ 087:=jO.1.2;have a2:fE _ h65:=jO.2.2;have b9:fE _ f27:=l3.1.2;have dj:fE _ d11:=l3.2.2;have:=jO.1.1;have:=jO.2.1;have:=l3.1.1;have:=l3.2.1;rw[B39 hz]
 ·unfold rJ at hz;obtain⟨p,au,e⟩:=Gq.mp hz;rw[A22]
  ·next ar=>have e:=cI e;subst e;refine⟨⟨a1,636 542 534⟩,⟨a2,636 a.right.length 534⟩,app (tk a1) (app dj (fF a1)),?_⟩;show my (_++(_++_))≤534;rw[cn,cn,eS,fV];have:=ar.2.1;lia
  ·cases e
 ·unfold vf at hz;obtain⟨o,a8,e⟩:=Gq.mp hz;have a8:=g4.mp a8;rw[A22]
  ·next ar=>
   have e:=cI e;subst e;refine⟨328 (app a1 (fF b9)),328 (app a2 (fF b9)),app (tk a1) dj,?_⟩
   ·show my (_++_)≤534;rw[cn,fV];lia
   ·show my (_++_)≤534;rw[cn,fV];lia
   ·show my (_++_)≤534;rw[cn,eS];lia
  ·cases e
theorem ajf{whole k c:Nat}{r:Text}(h:468=01):hV 511 (k+1) (c::r)=663 r:=by show(13 468 _ _)=_;rw[114]
theorem Lz{p:a71}(r:06):11 (l49 p)≤230:=by
 induction r with
  |nil=>exact 64
  |cons a r ih=>
   rw[ajg];split
   ·exact cX ih 163
   ·exact 64
theorem VJ(whole:Nat):∀(n k fZ:Nat)(t:Text),222≤n→222<k→222<fZ→663 t=hV 511 fZ t:=by
 intro n
 induction n with
  |zero=>
   intro k fZ t aU aS rK;have:t=[]:=u3.mp 03;rw[A88]
   cases k with|zero=>exact 69 aS a90|succ k=>cases fZ with|zero=>exact 69 rK a90|succ fZ=>rfl
  |succ n ih=>
   intro k fZ t aU aS rK
   cases k with|zero=>exact 69 aS a90|succ k=>cases fZ with|zero=>exact 69 rK a90|succ fZ=>cases t with|nil=>rfl|cons c r=>rw[dR]at aU aS rK;have eY:=Lz (p:=c67) r;have dW:=Lz (p:=fe) r;have VK:11 (a06 1)≤230:=f19;show(13 468 (663 r) (13 (c==311) (663 048) (13 (fe c) _ _)))=(13 468 (hV 511 fZ r) (13 (c==311) (hV 511 fZ 048) (13 (fe c) _ _)));rw[ih k fZ r 03 03 03,ih k fZ 048 03 03 03,ih k fZ (l49 fe) 03 03 03,ih k fZ (a06 1) 03 03 03]
def ef:571→06→Nat|_,[]=>0|inr,b::r=>13 (b=0xa) (308 r+1) (13 (b=311) (772 r+1) (39 (! inr&&! j7 b) 0 (ef inr r+1)))
theorem GS:∀(t:06)(b:Bool),mw b (b6 t)=ef b t
 |[],b=>by cases b<;>rfl
 |c::t,b=>by
  have eG:zl 337=468:=by unfold zl j7;simp only[pe,VL,wU];rw[hu];simp only[Gi,decide_eq_true_eq,beq_iff_eq];lia
  show(13 (337=0xa) (mw 09 (b6 t)+1) (13 (337=311) (mw 01 (b6 t)+1) (39 (! b&&! zl 337) 0 (mw b (b6 t)+1))))=(13 (c=0xa) (308 t+1) (13 (c=311) (772 t+1) (39 (! b&&! 468) 0 (ef b t+1))));rw[GS t 09,GS t 01,GS t b,eG];rw[A72 (c=0xa)]
  ·rw[169,118]
  ·rw[153,124];rw[A79 (c=311)]
   ·rw[179,118]
   ·rw[146,124]
theorem xu:∀(t:06)(b:Bool),ef b t≤222
 |[],b=>by cases b<;>exact 64
 |c::t,b=>by
  have af:=xu t 09;have ak:=xu t 01;have a6:=xu t b;show(13 (c=0xa) (308 t+1) (13 (c=311) (772 t+1) (39 (! b&&! 468) 0 (ef b t+1))))≤e95;split
  ·lia
  ·split
   ·lia
   ·rw[B53]
theorem VM:∀(t:06),772 t=(222-11 (t.dropWhile c67))+308 (t.dropWhile c67)
 |[]=>rfl
 |c::t=>by
  have ih:=VM t;have eY:=Lz (p:=c67) t;rw[ajg];show(13 (c=0xa) (308 t+1) (13 (c=311) (772 t+1) (39 (! 01&&! 468) 0 (772 t+1))))=_;rw[A72 (c=0xa)]
  ·subst af;simp only[if_true,bne_self_eq_false,l0,if_false,Nat.sub_self,qx];rfl
  ·have ak:(c !=0xa)=01:=f56;rw[23 af];simp only[Vm,zu,l0,if_false,ite_self,ak,if_true];rw[ih,dR];lia
theorem ajh(whole:Nat):∀(n k:Nat)(t:Text),222≤n→222<k→663 t=663 (985 (308 t)):=by
 intro n
 induction n with
  |zero=>intro k t aU _;have:t=[]:=u3.mp 03;rw[A88];rfl
  |succ n ih=>
   intro k t aU aS
   cases t with
    |nil=>rfl
    |cons c r=>
     rw[dR]at aU aS
     cases k with
      |zero=>exact 69 aS a90
      |succ k=>
       have GU:=xu r 09;have back:∀u:Text,i16≤230→663 u=hV 511 (k+1) (u.drop (308 u)):=l07 (by have:=xu u 09;rw[ih k u 03 03];exact VJ 511 (n+1) _ _ _ f19 f19 f19);rw[B31 (308 (c::r)=13 (c=0xa) (308 r+1) (13 (c=311) (772 r+1) (39 (! 09&&! 468) 0 (308 r+1))))];rw[B16 468]
       ·have:308 (c::r)=308 r+1:=by
         rw[aR];rw[A72 (c=0xa)]
         ·rw[21 af]
         ·rw[153,if_neg,aa]
          ·simp
          ·rw[A91];exact 69 aa 14
        rw[this,ajf aa,VN];exact back r 64
       ·have oc:468=09:=120;have xg:c≠0xa:=p29 (69 aa 14);rw[A79 (c=311)]
        ·subst ak;have eY:=Lz (p:=c67) r;have:308 (311::r)=772 r+1:=rfl;rw[this,VM,VN];have aK:hV 511 (k+1) (311::r)=663 048:=rfl;rw[aK,back _ eY];congr 1;have aG:a06 (230-11 048)=048:=by
          have:r=p40 c67++048:=567 (VO ..);have ax:=137 246;rw[cn]at ax;conv=>lhs;rw[show 230-11 048=11 (p40 c67)by lia]
          conv=>lhs;arg 2;rw[this]
          exact GV
         rw[←rH,aG]
        ·have:308 (c::r)=0:=by rw[aR,23 xg,146,oc];rfl
         rw[A16];rfl
def kr(t:Text)(r:Nat):Toks:=hV 222 e95 f71
inductive GW where|bad(kind place:Nat)|over(place:Nat)|word(w:Text)(place behind:Nat)|sign(u:Text)(place behind:Nat)
def CT(t:Text)(r:Nat):GW:=let p:=r+c43;q73 (985 p) (.over p) (13 (fe c) (13 (12<c60 c) (.bad 2 p) (.word (c::f62) p (p+c60 c))) (13 (041 c) (.sign [c] p (p+1)) (13 ((c::g30)==ks) (.sign ks p (p+2)) (.bad 1 p))))
theorem aji(t:Text)(r:Nat)(aq:r≤222):r96 (CT t r) (kr t r=[(p,.bad k)]) (p=222∧kr t r=[(p,.over)]) (b≤222∧r<b∧kr t r=(p,032)::kr t b) (b≤222∧r<b∧kr t r=(p,c36)::kr t b):=by
 have va:11 f71=222-r:=fV;have GU:=xu f71 09;have dw:kr t r=hV 222 e95 (985 (r+c43)):=by unfold kr;rw[ajh 222 222 _ _ 03 03,rH]
 unfold CT;rw[A11];have au:r+c43≤222:=03;have rL:r≤r+c43:=03;have CU:308 (985 (r+c43))=0:=by
  have:∀(u:06)(b:Bool),308 (u.drop (ef b u))=0:=by
   intro u
   induction u with
    |nil=>intro b;cases b<;>rfl
    |cons c u ih=>
     intro b;rw[B31 (ef b (c::u)=13 (c=0xa) (308 u+1) (13 (c=311) (772 u+1) (39 (! b&&! 468) 0 (ef b u+1))))];rw[aR];split
     ·exact ih 09
     ·split
      ·exact ih 01
      ·split
       ·next af ak a6=>
        show 308 (c::u)=0;have:(! 09&&! 468)=01:=by cases b with|false=>exact a6|true=>cases a6
        show(13 (c=0xa) (308 u+1) (13 (c=311) (772 u+1) (39 (! 09&&! 468) 0 (308 u+1))))=0;rw[153,146,21 246]
       ·exact ih b
  have:=this f71 09;rw[rH]at this;rw[A10]
 generalize r+c43=p at*;have mB:11 (985 p)=222-p:=fV
 cases e:985 p with
  |nil=>
   rw[e]at dw mB;have:p=222:=by rw[l4]at mB;lia
   exact⟨246,by rw[dw,this];rfl⟩
  |cons c rest=>
   rw[e]at dw mB CU;rw[dR]at mB;replace mB:p+(746+1)=222:=03;clear va GU;have nb:468=09:=by
    cases aa:468 with
     |false=>rfl
     |true=>
      rw[B31 (308 (c::67)=13 (c=0xa) (308 67+1) (13 (c=311) (772 67+1) (39 (! 09&&! 468) 0 (308 67+1))))];rw[aR,aa]at CU;split at CU
      ·lia
      ·split at CU
       ·lia
       ·simp at CU
   have ajj:(c==311)=09:=by cases aa:(c==311)with|false=>rfl|true=>have:c=311:=a01 aa;rw[A88];rw[B31 (308 (311::67)=772 67+1)];lia
   have pl:222-(746+1)=p:=03;have aK:hV 222 e95 (c::67)=13 (fe c) (13 (LONG<c60 c) [(p,.bad 2)] ((p,.word (c::f62))::hV 222 222 m15)) (13 ((c::g30)==ks) ((p,.sign ks)::hV 222 222 n37) (13 (041 c) ((p,.sign [c])::hV 222 222 67) [(p,.bad 1)])):=by show(13 468 _ (13 (c==311) _ (13 (fe c) (13 (LONG<_) [(222-(746+1),_)] ((222-(746+1),_)::_)) (13 ((c::g30)==ks) ((222-(746+1),_)::_) (13 (041 c) ((222-(746+1),_)::_) [(222-(746+1),_)])))))=_;rw[nb,ajj,pl];rfl
   rw[aK]at dw;have cz:∀(b:Nat)(u:Text),i16<222→985 b=u→hV 222 222 u=kr t b:=by intro b u bp aa;unfold kr;rw[aa];exact VJ 222 222 _ _ _ 03 03 03
   rw[A11];by_cases aL:fe c=01
   ·rw[21 aL];rw[21 aL]at dw;show r96 (13 (12<_) (GW.bad 2 p) _) _ _ _ _;by_cases ax:12<c60 c
    ·rw[21 ax];rw[108 LONG 12,200]at dw;exact dw
    ·rw[23 ax];rw[108 LONG 12,197]at dw;have c5:11 f62+11 m15=746:=by have:=137 (VO (p:=fe) (l:=67));rwa[cn]at this
     have dd:985 (p+c60 c)=m15:=by
      rw[←rH,e,dR,VN];conv=>lhs;arg 2;rw[←VO (p:=fe) (l:=67)]
      exact GV
     rw[A20 k67 k67];rw[dw,cz _ _ 03 dd]
   ·rw[23 aL];rw[23 aL]at dw;by_cases aN:((c::g30)==ks)=01
    ·rw[21 aN]at dw;have ar:c=665∧∃dF,67=469::dF:=by
      have:=a01 aN;have d1:ks=[665,469]:=14;rw[d1]at this
      cases rest with|nil=>rw[A47]|cons d dF=>simp at this;exact⟨183,dF,970 this.2⟩
     obtain⟨rfl,dF,rfl⟩:=ar;rw[107,21 aN];rw[dR]at mB;rw[A20 03 03];rw[dw,cz (p+2) (473 (469::dF) 1) (a44 dF.length _) r95]
    ·rw[23 aN]at dw;by_cases bH:041 c=01
     ·rw[21 bH];rw[21 bH]at dw;rw[A20 03 03];rw[dw,cz (p+1) 67 03 r95]
     ·rw[23 bH,23 aN];rw[23 bH]at dw;exact dw
def hW(aD:Toks):04:=∀p w,(p,Tok.word w)∈aD→w≠[]∧j29∧f36 (535≤c∧c≤0x7a)
theorem hW.drop{aD:Toks}(h:hW aD)(n:Nat):hW (aD.drop n):=fun p w hm=>h p w (uY hm)
theorem hW.cons{aD:Toks}{p:Nat}{k:Tok}(aS:∀w,k=032→w≠[]∧j29∧f36 (535≤c∧c≤0x7a))(h:hW aD):hW (495::aD):=fun q w hm=>by cases hm with|head=>exact aS w rfl|tail _ hm=>exact h q w hm
theorem GX(c:Nat):fe c=01↔535≤c∧c≤0x7a:=by unfold fe;rw[hG,decide_eq_true_eq,decide_eq_true_eq]
theorem VP(whole:Nat):∀(k:Nat)(t:Text),hW (663 t):=by
 intro k
 induction k with
  |zero=>intro t p w hm;have hm:(p,Tok.word w)∈[(511-222,Tok.over)]:=hm;have:=86 hm;rw[A47]
  |succ k ih=>
   intro t
   cases t with
    |nil=>intro p w hm;have hm:(p,Tok.word w)∈[(511,Tok.over)]:=hm;have:=86 hm;rw[A47]
    |cons c r=>
     show hW (13 468 (663 r) (13 (c==311) (663 048) (13 (fe c) (13 (LONG<11 (c::m43)) [(511-(230+1),.bad 2)] ((511-(230+1),.word (c::m43))::663 (l49 fe))) (13 ((c::r.take 1)==ks) ((511-(230+1),.sign ks)::663 (a06 1)) (13 (041 c) ((511-(230+1),.sign [c])::663 r) [(511-(230+1),.bad 1)])))));have nil:hW []:=fun p w hm=>by cases hm
     split
     ·exact ih _
     ·split
      ·exact ih _
      ·split
       ·next aL=>
        split
        ·exact j68 nil
        ·next ax=>
         refine hW.cons (fun w e=>?_) (ih _);cases e;refine⟨19,by have:LONG=12:=rfl;lia,k15⟩
         cases hd with
          |head=>exact(GX _).mp aL
          |tail _ hd=>
           have:∀(r:06)(d:Nat),d∈m43→fe d=01:=by
            intro r
            induction r with
             |nil=>intro d hd;cases hd
             |cons a r ih=>
              intro d hd;rw[CV]at hd;split at hd
              ·next aN=>cases hd with|head=>exact aN|tail _ hd=>exact ih d hd
              ·cases hd
           exact(GX _).mp (this r d hd)
       ·split
        ·exact j68 (ih _)
        ·split
         ·exact j68 (ih _)
         ·exact j68 nil
theorem CW{t:String}{aD:Toks}(h:hW aD)(e:hX t aD=.ok tq):hW tq:=by
 unfold hX at e;rw[A22]
 ·have:691=tq:=o48;rw[A48];exact h.drop 1
 ·cases e
theorem GY{ls:Text}{aD:Toks}{w:b7}(h:hW aD)(e:ku ls aD=.ok (w,tq)):hW tq∧o9 284 w:=by
 have GZ:(13 (070 aD) (px (([]:b7),691)) (tr (mF aD)))=px (w,tq)→hW tq∧o9 284 w:=by
  intro e;rw[A22]
  ·rw[A89];rw[B84];rw[←aK,←aG];exact⟨h.drop 1,681 (0≤12),by intro i hi;cases hi⟩
  ·cases e
 cases aD with
  |nil=>exact GZ e
  |cons z r=>
   rw[A82]
   cases k with
    |over=>exact GZ e
    |bad ajk=>exact GZ e
    |sign u=>exact GZ e
    |word x=>
     have e:(d48 ls x (tr (7,p)) (px (l,r)))=px (w,tq):=e
     cases e7:qq ls x with
      |none=>rw[e7]at e;cases e
      |some l=>
       rw[e7]at e;rw[A89];rw[B84];rw[←aK,←aG];have ai:=h p x 237;by_cases aN:c10 c ls
       ·rw[C70 (Cj aN)];rw[e7]at af;have:l=v:=cI af;rw[A16];refine⟨fun q y aC=>h q y 923,?_,a6⟩;have:=T7 ak;lia
       ·rw[Gf aN]at e7;cases e7
theorem ajl{ls:Text}{aD:Toks}{m:ez}(h:hW aD)(e:G0 ls aD=.ok (m,tq)):hW tq∧o9 284 398∧o9 284 427:=by
 unfold G0 at e;rw[B07];generalize gm "^" 691=f at e;have h0:hW (39 f (aD.drop 2) 691):=by split<;>exact h.drop _
 cases aK:ku ls (39 f (aD.drop 2) 691)with
  |error x=>rw[A75];cases e
  |ok u=>
   rw[A75];obtain⟨VQ,jP⟩:=u;obtain⟨k1,mG⟩:=GY h0 aK;rw[B95];have ak:hW (39 (067 jP) (jP.drop 1) jP):=by
    split
    ·exact k1.drop 1
    ·exact k1
   cases aG:hX "->" (39 (067 jP) (jP.drop 1) jP)with
    |error x=>rw[A67];cases e
    |ok a=>
     rw[A67];rw[B07];have k2:=CW ak aG
     cases cp:ku ls a with
      |error x=>rw[cp]at e;cases e
      |ok v=>
       rw[cp]at e;obtain⟨v1,v2⟩:=v;obtain⟨k3,mH⟩:=GY k2 cp;rw[B07]
       cases ej:b07 v2 with|error x=>rw[ej]at e;cases e|ok b=>rw[ej]at e;rw[B07];rw[A89];injection e with d1 eG;rw[←d1,←eG];exact⟨CW k3 ej,mG,mH⟩
theorem ajm:∀(k:Nat)(s:dt)(aD:Toks)(y:dt),51→hW aD→ts k s aD=.ok y→c3 y:=by
 intro k
 induction k with
  |zero=>intro s aD y _ _ e;cases e
  |succ k ih=>
   intro s aD y aL bk e;unfold ts at e;rw[A22]
   ·rw[A89];rw[←e];exact aL
   ·rw[A22]
    ·rw[A22]
     ·cases e
     ·next vg=>
      cases aK:G0 60 aD with
       |error x=>rw[A75];cases e
       |ok m=>
        rw[A75];obtain⟨hx,ip⟩:=m;obtain⟨a,b,c⟩:=ajl bk aK;refine ih {s with moves:=972++[hx]} ip y ⟨aL.az,aL.jn,aL.lc,?_,?_,aL.st,aL.gl⟩ a e
        ·show 11 (972++[hx])≤8;rw[cn];have:VR=8:=rfl;show 303+1≤8;lia
        ·intro m hm;rcases 362 hm with hm|hm
         ·exact aL.cw m hm
         ·rw[86 hm];exact⟨b,c⟩
    ·rw[A22]
     ·rw[A22]
      ·cases e
      ·cases aK:ku 60 691 with
       |error x=>rw[A75];cases e
       |ok w=>
        rw[A75];obtain⟨mG,rM⟩:=w;rw[B30 (GY (bk.drop 1) aK)];rw[B95]
        cases aG:b07 rM with|error x=>rw[A67];cases e|ok jt=>rw[A67];refine ih (o42 (some mG)) jt y ⟨aL.az,aL.jn,aL.lc,aL.mx,aL.cw,?_,aL.gl⟩ (CW a aG) e;rw[A74];have:mG=x:=cI ai;rw[A48];exact b
     ·rw[A22]
      ·rw[A22]
       ·cases e
       ·cases aK:ku 60 691 with
        |error x=>rw[A75];cases e
        |ok w=>
         rw[A75];obtain⟨mG,rM⟩:=w;rw[B30 (GY (bk.drop 1) aK)];rw[B95]
         cases aG:b07 rM with|error x=>rw[A67];cases e|ok jt=>rw[A67];refine ih (o41 (some mG)) jt y ⟨aL.az,aL.jn,aL.lc,aL.mx,aL.cw,aL.st,?_⟩ (CW a aG) e;rw[A74];have:mG=x:=cI ai;rw[A48];exact b
      ·cases e
theorem MD:∀{l:06},xv l=01→l.Nodup|[],_=>VS|a::r,h=>by unfold xv at h;rw[hG,Gj]at h;rw[ta];exact⟨fun hm=>(by have:=xi.mpr hm;rw[this]at h;cases h.1),MD h.2⟩
theorem VT:∀{l:06},c75 (xv l=01)
 |[],_=>rfl
 |a::r,h=>by
  rw[ta]at h;unfold xv;rw[hG,Gj];rw[A03 ?_ (VT h.2)]
  cases e:p39 a with|false=>rfl|true=>exact 69 (xi.mp e) h.1
theorem ajn{t:Text}{y:dt}(e:xw t=.ok y):c3 y:=by
 unfold xw at e;have h0:=VP 222 e95 t;change hW (tokens t)at h0;unfold CY at e;rw[A22]
 ·have af:=h0.drop 1;rw[B95]
  cases aK:G2 (473 (tokens t) 1)with
   |error x=>rw[A75];cases e
   |ok l=>
    rw[A75];obtain⟨eY,dW⟩:=l;rw[B07]
    cases aG:b07 dW with
     |error x=>rw[A67];cases e
     |ok b=>
      rw[A67];rw[B07]
      cases kU:473 (tokens t) 1 with
       |nil=>rw[kU]at aK;cases aK
       |cons z r=>
        rw[kU]at aK af;rw[A82]
        cases k with
         |over=>cases aK
         |bad ajk=>cases aK
         |sign u=>cases aK
         |word w=>
          have aK:(13 (xv w&&555 218 LETTERS) (px (w,r)) (tr (2,p)))=px (eY,dW):=aK;split at aK
          ·next ar=>injection aK with aK;injection aK with d1 eG;subst d1 eG;rw[hG,decide_eq_true_eq]at ar;have hw:=af p w 237;have aq:hW r:=fun q y aC=>af q y 923;exact ajm _ _ b y ⟨MD ar.1,ar.2,hw.2.2,(681 (0≤8)),(by intro m hm;cases hm),(r94),(r94)⟩ (CW aq aG) e
          ·cases aK
 ·cases e
inductive hY:10→oo→92 10|load(x t:_):hY (0::583::(x++t)) (.load x) t|written(t:_):hY (1::t) .written t|step(m p w t:_):hY (2::m::p::635::(w++t)) (.step m p w) t|steps(w t:_):hY (3::635::(w++t)) (.steps w) t|search(b t:_):hY (4::b::t) (.search b) t|way(b t:_):hY (5::b::t) (.way b) t|reach(b w t:_):hY (6::b::635::(w++t)) (.reach b w) t|weights(t:_):hY (7::t) .weights t|parted(t:_):hY (8::t) .parted t|turns(k t:_):hY (9::k::t) (.turns k) t|turned(t:_):hY (0xa::t) k25 t|keeps(k x t:_):hY (0xb::k::583::(x++t)) (.keeps k x) t|machine(n x t:_):hY (12::n::583::(x++t)) (g54 n) t|seek(t:_):hY (0xd::t) .seek t|down(t:_):hY (0xe::t) .down t|unique(t:_):hY (0xf::t) .unique t|normal(w t:_):hY (377::635::(w++t)) (.normal w) t|same(v w t:_):hY (804::15 734::(v++(635::(w++t)))) (.same v w) t
inductive xx:10→92 (List oo)|nil:xx [] []|cons{l k t cS:_}:hY l k t→xx t cS→xx l (k::cS)
def tu:State→List oo→99|_,[]=>[]|s,c::r=>(oq s c).2::tu (oq s c).1 r
theorem ajo{l x t:10}(h:VU l=614 x):l=583::(x++t):=by
 cases l with
  |nil=>cases h
  |cons n r=>
   have h:(13 (0≤n∧f31≤230) (some (r.take f31,a06 f31)) 00)=614 x:=h;rw[A18]
   ·next ar=>rw[B27];rw[B76];subst af ak;rw[om,eS];congr 1;lia
   ·cases h
theorem TQ{l t:10}{xs:99}(h:xy 0 l=614 xs):xs=[]∧l=t:=by have h:some (([]:99),l)=614 xs:=h;injection h with h;injection h with af ak;exact⟨af.symm,ak⟩
theorem ME{k:Nat}{l t:10}{xs:99}(h:xy (k+1) l=614 xs):∃x ys s,xs=x::ys∧l=583::(x++s)∧xy k s=614 ys:=by
 have h:(match VU l with|none=>00|some (x,s)=>r93 (xy k s) 00 (614 (x::xs)))=614 xs:=h
 cases e:VU l with
  |none=>rw[A49];cases h
  |some z=>
   obtain⟨x,s⟩:=z;rw[A49];rw[B28]
   cases aG:xy k s with|none=>rw[B29];cases h|some y=>obtain⟨ys,u⟩:=y;rw[B29];rw[B28];rw[B27];rw[B76];subst af ak;exact⟨x,ys,s,rfl,ajo e,aG⟩
section
variable{p:Int}{t:10}{c:99}(h:CZ jQ (p::r)=614 c)
include h
theorem MF{k:Nat}(aR:jQ p=some (n,k)):∃a xs u,733=n∧r=a++u∧xy k u=614 xs∧c=(p::a)::xs:=by
 have h:(match jQ p with|none=>00|some (n,k)=>13 (230<n) 00 (r93 (xy k (a06 n)) 00 (614 ((p::r.take n)::xs))))=614 c:=h;rw[aR]at h;rw[B28];rw[A18]
 ·cases h
 ·next ax=>cases aG:xy k (a06 n)with|none=>rw[B29];cases h|some y=>obtain⟨xs,u⟩:=y;rw[B29];rw[B28];rw[B27];rw[B76];subst af ak;exact⟨r.take n,xs,a06 n,by rw[eS];lia,567 (om ..),aG,rfl⟩
theorem VV(aR:jQ p=some (n,0)):∃a,733=n∧r=a++t∧c=[p::a]:=by obtain⟨a,xs,u,aN,aq,bp,ar⟩:=MF h aR;obtain⟨rfl,rfl⟩:=TQ bp;exact⟨a,aN,aq,ar⟩
theorem MG(aR:jQ p=some (n,1)):∃a x,733=n∧r=a++583::(x++t)∧c=[p::a,x]:=by rw[D73 (MF h aR)];rw[D72 (ME bp)];rw[B54 (TQ ak)];exact⟨a,x,aN,aq,ar⟩
theorem xA(aR:jQ p=some (0,0)):r=t∧c=[[p]]:=by obtain⟨a,aN,aq,ar⟩:=VV h aR;cases u3.mp aN;exact⟨aq,ar⟩
theorem xg(aR:jQ p=some (1,0)):∃b,r=b::t∧c=[[p,b]]:=by obtain⟨a,aN,aq,ar⟩:=VV h aR;obtain⟨b,rfl⟩:=ajp.mp aN;exact⟨b,aq,ar⟩
theorem MH(aR:jQ p=some (0,1)):∃x,r=583::(x++t)∧c=[[p],x]:=by obtain⟨a,x,aN,aq,ar⟩:=MG h aR;cases u3.mp aN;exact⟨x,aq,ar⟩
theorem MI(aR:jQ p=some (1,1)):∃b x,r=b::583::(x++t)∧c=[[p,b],x]:=by obtain⟨a,x,aN,aq,ar⟩:=MG h aR;obtain⟨b,rfl⟩:=ajp.mp aN;exact⟨b,x,aq,ar⟩
theorem ajq(aR:jQ p=some (2,1)):∃b d x,r=b::d::583::(x++t)∧c=[[p,b,d],x]:=by
 obtain⟨a,x,aN,aq,ar⟩:=MG h aR
 match a,aN with|[b,d],_=>exact⟨b,d,x,aq,ar⟩
theorem ajr(aR:jQ p=some (0,2)):d01 (r=583::(x++(n09::(y++t)))∧c=[[p],x,y]):=by rw[D73 (MF h aR)];rw[D72 (ME bp)];obtain⟨y,aAU,s2,rfl,rfl,a6⟩:=ME ak;rw[B54 (TQ a6)];cases u3.mp aN;exact⟨x,y,aq,ar⟩
end
theorem ajs{P:92 Int}{p:Int}(h:jQ p≠00)(h0:P 0)(af:P 1)(ak:P 2)(a6:P 3)(bH:P 4)(fX:P 5)(iT:P 6)(MJ:P 7)(vg:P 8)(ajt:P 9)(C0:P 0xa)(aju:P 0xb)(iN:P 12)(vh:P 0xd)(ajv:P 0xe)(ajw:P 0xf)(G3:P 377)(ajx:P 804):P p:=by
 by_cases dw:p=0
 ·rw[dw];exact h0
 by_cases aK:p=1
 ·rw[aK];exact af
 by_cases aG:p=2
 ·rw[aG];exact ak
 by_cases cp:p=3
 ·rw[cp];exact a6
 by_cases ej:p=4
 ·rw[ej];exact bH
 by_cases nv:p=5
 ·rw[nv];exact fX
 by_cases zO:p=6
 ·rw[zO];exact iT
 by_cases vi:p=7
 ·rw[vi];exact MJ
 by_cases zP:p=8
 ·rw[zP];exact vg
 by_cases rN:p=9
 ·rw[rN];exact ajt
 by_cases xB:p=0xa
 ·rw[xB];exact C0
 by_cases VW:p=0xb
 ·rw[VW];exact aju
 by_cases VX:p=12
 ·rw[VX];exact iN
 by_cases VY:p=0xd
 ·rw[VY];exact vh
 by_cases VZ:p=0xe
 ·rw[VZ];exact ajv
 by_cases V0:p=0xf
 ·rw[V0];exact ajw
 by_cases V1:p=377
 ·rw[V1];exact G3
 by_cases V2:p=804
 ·rw[V2];exact ajx
 refine 69 ?_ h;unfold jQ;simp only[dw,aK,aG,cp,ej,nv,zO,vi,zP,rN,xB,VW,VX,VY,VZ,V0,V1,V2,if_false]
theorem ajy{l t:10}{c:99}(h:CZ jQ l=614 c):∃k,hY l k t∧ajz (zQ c)=040:=by
 cases l with
  |nil=>cases h
  |cons p r=>
   have aU:jQ p≠00:=100 (by unfold CZ at h;simp only[e]at h;cases h);refine ajs (P:=400 (∀{r t c:_},CZ jQ (p::r)=614 c→∃k,hY (p::r) k t∧ajz (zQ c)=040)) aU ?_ ?_ ?_ ?_ ?_ ?_ ?_ ?_ ?_ ?_ ?_ ?_ ?_ ?_ ?_ ?_ ?_ ?_ h
   ·rw[A31];rw[C10 h rfl];rw[A26 (.load x t)]
   ·rw[A31];rw[A94 h rfl];rw[A26 (.written _)]
   ·rw[A31];obtain⟨b,d,x,rfl,rfl⟩:=ajq h rfl;rw[A26 (.step b d x t)]
   ·rw[A31];rw[C10 h rfl];rw[A26 (.steps x t)]
   ·rw[A31];rw[C09 h rfl];rw[A26 (.search b t)]
   ·rw[A31];rw[C09 h rfl];rw[A26 (.way b t)]
   ·rw[A31];rw[C07 h rfl];rw[A26 (.reach b x t)]
   ·rw[A31];rw[A94 h rfl];rw[A26 (.weights _)]
   ·rw[A31];rw[A94 h rfl];rw[A26 (.parted _)]
   ·rw[A31];rw[C09 h rfl];rw[A26 (.turns b t)]
   ·rw[A31];rw[A94 h rfl];rw[A26 (.turned _)]
   ·rw[A31];rw[C07 h rfl];rw[A26 (.keeps b x t)]
   ·rw[A31];rw[C07 h rfl];rw[A26 (.machine b x t)]
   ·rw[A31];rw[A94 h rfl];rw[A26 (.seek _)]
   ·rw[A31];rw[A94 h rfl];rw[A26 (.down _)]
   ·rw[A31];rw[A94 h rfl];rw[A26 (.unique _)]
   ·rw[A31];rw[C10 h rfl];rw[A26 (.normal x t)]
   ·rw[A31];obtain⟨x,y,rfl,rfl⟩:=ajr h rfl;rw[A26 (.same x y t)]
theorem ajA:∀(f:Nat)(l:10)(cs:List 99),MK jQ f l=some cs→∃cS,xx l cS∧∀s,ajB C1 s (b57 zQ)=tu s cS:=by
 intro f
 induction f with
  |zero=>
   intro l cs h
   cases l with|nil=>have h:some ([]:List 99)=some cs:=h;rw[B27];subst h;exact⟨[],89,525⟩|cons p r=>cases h
  |succ f ih=>
   intro l cs h
   cases l with
    |nil=>have h:some ([]:List 99)=some cs:=h;rw[B27];subst h;exact⟨[],89,525⟩
    |cons p r=>
     have h:(match CZ jQ (p::r)with|none=>00|some (c,t)=>match MK jQ f t with|none=>00|some cs=>some (c::cs))=some cs:=h
     cases e:CZ jQ (p::r)with
      |none=>rw[A49];cases h
      |some z=>
       obtain⟨c,t⟩:=z;rw[A49];rw[B28]
       cases aG:MK jQ f t with
        |none=>rw[B29];cases h
        |some ds=>
         rw[B29];rw[B28];rw[B27];subst h;obtain⟨k,bU,aS⟩:=ajy e;obtain⟨cS,cT,au⟩:=ih t ds aG;refine⟨k::cS,.cons bU cT,fun s=>?_⟩;have st:C1 s (zQ c)=oq s k:=by unfold C1;rw[aS];rfl
         show(C1 s (zQ c)).2::ajB C1 (C1 s (zQ c)).1 (ds.map zQ)=_;rw[st,au];rfl
theorem ajC{l:10}(h:ajD l=01):∃cS,xx l cS∧ML l=rO (tu start cS)∧11 (ML l)≤10000000:=by
 unfold ajD at h
 cases e:MK jQ 63 l with|none=>rw[A49];cases h|some cs=>rw[A49];simp only[hG]at h;obtain⟨cS,r,au⟩:=ajA _ _ _ e;refine⟨cS,r,?_,121 h.2⟩;unfold ML PyVainve.calls;rw[e];show rO _=_;rw[au];rfl
def ot(rows:30)(g:06):30:=l65 (g.map (58 (r.getD q q)))
theorem V3{rows:30}{cm:30}:∀(u:b7){g:06},(b88 i)→b03 g→b03 (g.map (cP 17 u))
 |[],g,_,h=>by
  have:g.map (cP 17 [])=g:=by
   conv=>rhs;rw[←CO g]
   rfl
  rw[this];exact h
 |i::u,g,bp,h=>by
  have hi:=bp i 237;have e:g.map (cP 17 (i::u))=(g.map (58 (014 i q q))).map (cP 17 u):=by rw[gP];rfl
  rw[e];refine V3 u (d29 (bp j e19)) (.step h ?_);unfold ot;refine 143 (i29 i) ?_;rw[cZ,122];exact 141
theorem ajE(rows:30)(u:b7)(i q:Nat):266 (u++[i]) q=014 i (266 u q) (266 u q):=by unfold cP;rw[sZ];rfl
theorem G4{rows:30}:b03 g↔∃n8∈cm,d28 ((b88 i)∧g=n8.map (cP 17 u)):=by
 rw[A04]
 ·intro h
  induction h with
   |@here x ai=>
    refine⟨x,ai,[],m78,?_⟩;conv=>lhs;rw[←CO x]
    rfl
   |@step x y _ aC ih=>
    obtain⟨n8,h0,u,bp,rfl⟩:=ih;obtain⟨r,aq,rfl⟩:=112 aC;rw[A86 aq];have qr:=159 hi;refine⟨n8,h0,u++[i],n40,?_⟩
    ·rw[B40 bS]
     ·exact bp j bS
     ·rw[86 bS];exact qr
    ·rw[gP];refine lz (fun q _=>?_);rw[ajE,cZ (l:=17),hi];rfl
 ·rintro⟨n8,h0,u,bp,rfl⟩;exact V3 u bp (.here h0)
theorem ajF{f:06→30}(h0:h27 (g∈F))(ar:∀x∈F,∀y∈f x,y∈F)(h:jM f cm g):g∈F:=by induction h with|here ai=>exact h0 _ ai|step _ aC ih=>exact ar _ ih _ aC
theorem V4{α:272}[BEq α][n25]:∀(l u:40),c75 (645 (x∈u)→63≤i16)|[],u,_,_=>229|x::l,u,az,h=>by have ai:=127 x;have C2:=e39;have:=V4 l (u.erase x) C2.2 (085 (by have d9:y≠x:=100 (C2.1 (e▸aC));exact(ajG d9).mpr (h y 923)));rw[A73 (ajH ai)];have:0<i16:=ahX ai;rw[dR];lia
theorem V5{α:272}{cs:40}:∀{n:Nat}{g:40},g.length=n→(∀x∈g,x∈cs)→g∈mz cs n|0,[],_,_=>g75|n+1,a::g,ax,h=>by refine ni.mpr ⟨a,127 a,143 g (V5 k36 850)⟩
theorem V6{α:272}(cs:40):∀n,11 (mz cs n)=383^n
 |0=>rfl
 |n+1=>by
  have:∀as:40,11 (p38 (fun a=>688 (mz cs n) (a::r)))=471*11 (mz cs n):=by
   intro as
   induction as with|nil=>simp|cons a t ih=>rw[s9,cn,ih,ba,dR,pq,pv,tm]
  show 11 (i15 _)=_;rw[this,V6 cs n,MM,CG]
def rP(n k:Nat)(g:06):04:=g.length=k∧∀q∈g,q<n
theorem ajI{k:Nat}{l:30}(az:l.Nodup)(h:∀g∈l,rP n k g):63≤n^k:=by have:=V4 l (mz 057 k) az (f04 (V5 (h g a4).1 (276 (g4.mpr ((h g a4).2 x ai)))));rw[V6,iP]at this;exact this
theorem ajJ{k:Nat}{rows:30}(aq:b44 (873∧h70 (q<n))){y:06}(a4:rP n k g)(aC:y∈ot 17 g):rP n k y:=by obtain⟨r,ajK,rfl⟩:=112 aC;rw[A03 (n95 a4.1) 458];rw[C04 aw];have af:=aq r ajK;have ak:=a4.2 p au;rw[cZ,cA (by rw[af.1];exact ak)];exact af.2 _ 141
theorem ou{n:Nat}{rows:30}(aq:b44 (873∧h70 (q<n))):∀(u:b7){q:Nat},q<n→266 u q<n
 |[],q,h=>h
 |i::u,q,h=>by
  show 266 u (014 i q q)<n;refine ou aq u ?_;rw[A65 (i<667)]
  ·have hm:i29 i∈17:=by rw[cZ,122];exact 141
   have af:=aq _ hm;rw[cZ,cA (p01 af.1)];exact af.2 _ 141
  ·rw[cZ (l:=17),140];exact h
def rQ(ea:06)(m:ez):06:=39 980 [0] ea
def rn(rows:30)(ea:06)(m:ez):30:=(rQ ea m).map (58 [266 398 q,266 427 q])
def xC(rows:30)(ea:06)(ms:700):30:=p37 (285 (39 670 [] e80))
def zf(rows:30)(ea:06)(ms:700):30:=p37 (285 (39 670 e80 []))
theorem G5{rows:30}(aq:∀q,q∈ea↔d28 ((b88 i)∧q=266 u 0)){m:ez}:g∈e80↔d28 ((b88 i)∧(980=01→u=[])∧g=[266 398 (266 u 0),266 427 (266 u 0)]):=by
 unfold rn rQ;rw[cJ];by_cases hf:980=01
 ·rw[21 hf];rw[A04]
  ·rintro⟨q,aw,rfl⟩;rw[A78];exact⟨[],m78,525,rfl⟩
  ·rw[D71];rw[bp hf];exact⟨0,g75,rfl⟩
 ·rw[23 hf];rw[A04]
  ·rintro⟨q,aw,rfl⟩;obtain⟨u,bp,rfl⟩:=(aq q).mp aw;exact⟨u,bp,312 (69 h hf),rfl⟩
  ·rintro⟨u,bp,_,rfl⟩;rw[A26 ((aq _).mpr (715 u bp))]
theorem ajL{rows:30}{ms:700}(aq:∀q,q∈ea↔d28 ((b88 i)∧q=266 u 0))(a4:∀g,g∈cm↔jM (ot 17) (xC 17 ea ms) g)(g:06):g∈cm++zf 17 ea ms↔CK 17 ms g:=by
 rw[e4,a4,G4];rw[A04]
 ·rintro(⟨n8,h0,x,ai,rfl⟩|h)
  ·obtain⟨m,hm,af⟩:=ni.mp h0;by_cases ax:670=01
   ·rw[200]at af;cases af
   ·rw[197]at af;obtain⟨u,bp,hf,rfl⟩:=(G5 aq).mp af;exact⟨m,hm,u,bp,hf,x,ai,312 (69 h ax),rfl⟩
  ·obtain⟨m,hm,af⟩:=ni.mp h;by_cases ax:670=01
   ·rw[200]at af;obtain⟨u,bp,hf,rfl⟩:=(G5 aq).mp af;exact⟨m,hm,u,bp,hf,[],m78,525,rfl⟩
   ·rw[197]at af;cases af
 ·rintro⟨m,hm,u,bp,hf,x,ai,ax,rfl⟩;rw[A39 (670=01)]
  ·rw[ax h];refine .inr (ni.mpr ⟨m,hm,?_⟩);rw[114];exact(G5 aq).mpr ⟨u,bp,hf,rfl⟩
  ·refine .inl ⟨[266 398 (266 u 0),266 427 (266 u 0)],ni.mpr ⟨m,hm,?_⟩,x,ai,rfl⟩;rw[125];exact(G5 aq).mpr ⟨u,bp,hf,rfl⟩
theorem ajM{rows:30}(a4:∀g,g∈cm↔jM (ot 17) [[0]] g)(q:Nat):q∈cm.map g95↔d28 ((b88 i)∧q=266 u 0):=by
 rw[cJ];rw[A04]
 ·rintro⟨g,h,rfl⟩;obtain⟨n8,h0,u,bp,rfl⟩:=G4.mp ((a4 g).mp h);rw[86 h0];exact⟨u,bp,rfl⟩
 ·rintro⟨u,bp,rfl⟩;exact⟨[266 u 0],(a4 _).mpr (G4.mpr ⟨[0],g75,u,bp,rfl⟩),rfl⟩
theorem ajN:668 (b94 []):=Mk cm [] VS
theorem ajO:g∈b94 []↔g∈cm:=by rw[CH];simp
end
end
open PySem PySem.Spec PyProof.Rows
abbrev cF:=Sum Int Str
section
variable{A:rT}{G:Prop}{C I a b c d dx f it p t:ag}{E Q:aH→aZ→Prop}{F:List (List Nat)}{K:bo}{M:Model}{N ps:List Str}{P prog:f3}{S:ag→Prop}{a0 us vs:List aH}{ch:List ag}{aG e:dn}{aR:Array Il}{ig u:aH}{o:Obj}{ah dG:Str→Option aH}{aj8 pins:List (ag×Obj)}{cQ:Option ag}{c0 i j n t':Nat}{base h h':dk}{l:List Nat}{ns r ws:List Int}{d':Drawn}{dP:Array (Option aH)}{e8 α β:Type}{env:Env}{g':Array Qp}{x:Str}{outer:List Env}{own:List (Str×Nat)}{q:Search}{s s':dt}{sc:rp}{v:Word}{w:ff}{m:g0}
def vj:cF→482 aH|.inl k,v=>Value.isInt k v|.inr x,v=>ajP x v
def ajQ(w:ff):cF→Int|.inl k=>hashInt k|.inr x=>hashStr w x
theorem tv:∀{k:cF}{v:aH},vj k v=01→(∃i t,k=gn i∧v=zR i t)∨(∃x t,k=jR x∧v=C3 x t)|.inl i,v,h=>r92 (Value.isInt_shape (k:=i) (v:=v) h) (.inl ⟨i,t,rfl,e⟩)|.inr x,v,h=>r92 (Value.isStrOf_shape (x:=x) (v:=v) h) (.inr ⟨x,t,rfl,e⟩)
theorem ajR(i:Int)(t:Tok):vj (.inl i) 706=01:=by simp[vj,Value.isInt]
theorem ajS(x:Str)(t:Tok):vj (.inr x) 858=01:=by simp[vj,ajP]
theorem ajT(a b:Int):29 ((gn a:cF)=gn b)=(a==b):=by
 rw[A06 a b]
 ·subst e;simp
 ·have h:¬(gn a:cF)=gn b:=58 (e (V7 q));rw[113 h];exact 567 (963 e)
theorem ajU(a b:Str):29 ((jR a:cF)=jR b)=29 (a=b):=by
 rw[A06 a b]
 ·subst e;simp
 ·have h:¬(jR a:cF)=jR b:=58 (e (MN q));rw[113 h,132]
theorem ajV(a:Int)(b:Str):591 (gn a:cF) (jR b):=174 p36
theorem ajW(a:Str)(b:Int):591 (jR a:cF) (gn b):=174 p36
def fg(prog:f3)(w:ff):PySem.KeyKind prog w cF where
 is:=vj
 hash:=ajQ w
 inj:=fun v a b aN aa=>by
  rw[B98 aN]
  ·rw[D70 (tv aa)]
   ·rw[C12];rw[aK]
   ·exact l48
  ·rw[D70 (tv aa)]
   ·exact l48
   ·rw[C12];rw[aK]
 byValue:=fun k v h=>by rcases tv h with⟨i,t,rfl,rfl⟩|⟨x,t,rfl,rfl⟩<;>rfl
 pyHash:=fun a3 h=>by
  rw[B98 a3]
  ·exact wpAny_pyHash_int h
  ·exact wpAny_pyHash_str h
 eqBool:=fun bp a3 h=>by
  rw[B98 bp]
  ·rw[D69 (tv a3)]
   ·rw[ajT]at h;exact wpAny_eqBool_int h
   ·rw[ajV]at h;exact ajX i t y u _ _ _ _ h
  ·rw[D69 (tv a3)]
   ·rw[ajW]at h;exact ajY x t j u _ _ _ _ h
   ·rw[ajU]at h;exact wpAny_eqBool_str h
 «strs»:=fun k x t v h=>by
  rcases tv h with⟨i,u,rfl,e⟩|⟨y,u,rfl,e⟩
  ·exact l48
  ·rw[C12];subst aK;cases v<;>rfl
theorem tw(prog:f3)(w:ff)(i:Int)(t:Tok):(fg prog w).is (.inl i) 706=01:=ajR i t
theorem ajZ(prog:f3)(w:ff)(x:Str)(t:Tok):(fg prog w).is (.inr x) 858=01:=ajS x t
inductive ae where|b4|bN(b:Bool)|int(i:Int)|str(x:Str)|lD(b:724 UInt8)|G6(b:UInt64)|ref(a:ag)|ty(n:String)deriving DecidableEq
def RelV:ae→92 aH|.b4,u=>u=fh|.bN b,u=>u=xD b|.int i,u=>∃t,u=zR i t|.str x,u=>∃t,u=C3 x t|.lD b,u=>∃t,u=Value.bytes b t|.G6 b,u=>∃t,u=Value.float b t|.ref a,u=>u=da a|.ty n,u=>u=vk n
abbrev cc:08→92 53:=ov RelV
variable{cb:List (Option ae)}{kvs:List (List cF×ae)}{xs ys:List ae}{y:ae}
theorem cc.length{xs:08}{us:53}(r:651):57=892:=rR r
theorem cc.get:∀{xs:08}{us:53}{i:Nat}{x:ae},651→441=43→∃u,us[i]?=56∧685 x|_,_,_,_,.nil,e=>k34|_,_,0,_,.cons r _,e=>by simp at e;subst e;exact 123 r|_,_,i+1,x,.cons _ t,e=>by obtain⟨u,af,ak⟩:=cc.get (i:=i) (x:=x) t 566;exact⟨u,f56,ak⟩
theorem cc.set{x:ae}{u:aH}(r:685 x):∀{xs:08}{us:53}(i:Nat),651→cc (xs.set i x) (us.set i u)|_,_,_,.nil=>89|_,_,0,.cons _ t=>.cons r t|_,_,i+1,.cons q t=>.cons q (cc.set r i t)
theorem cc.append{ws:53}(h:651)(s:cc ys ws):cc (xs++ys) (us++ws):=by induction h with|nil=>exact s|cons r _ ih=>exact 920 r
theorem cc.take:∀{xs:08}{us:53}(n:Nat),651→cc (xs.take n) (us.take n)|_,_,0,_=>89|_,_,_+1,.nil=>89|_,_,n+1,.cons r t=>.cons r (cc.take n t)
theorem cc.drop:∀{xs:08}{us:53}(n:Nat),651→cc (xs.drop n) (us.drop n)|_,_,0,r=>r|_,_,_+1,.nil=>89|_,_,n+1,.cons _ t=>cc.drop n t
def j8:93→92 631|some v,some u=>466|none,none=>625|_,_=>739
def gE:524→92 a88:=ov (fun(p:e8×ae)(q:e8×aH)=>p.1=q.1∧RelV p.2 q.2)
def ec:cF→ae|.inl i=>260|.inr x=>765
inductive dz where|lst(xs:08)|tup(xs:08)|e0(kvs:410)|gf(kvs:028)|set(S:482 Int)(n:Nat)|ins(C dx:ag)(bl:324)|own(x:ag)|zH(bl:324)|met(f x:ag)|pz(lo hi:Int)|eT(o:Obj)(u:dz)|vl(ps:323)|ext(fQ:92 dk)
abbrev av:=ag→241 dz
variable{H H' H1:av}{bC:dz}
def upd(H:av)(a:ag)(o:dz):av:=507 (13 (b=a) 25 (H b))
theorem aI{o:dz}:upd H a o a=25:=r91 101
theorem aE{o:dz}(h:b≠a):upd H a o b=H b:=r91 125
theorem gp{o u:dz}:761 a o a u=upd H a u:=by funext b;unfold upd;split<;>rfl
theorem eB{o u:dz}(h:H a=25)(h':H b=56)(d:o≠u):a≠b:=by intro e;subst e;rw[h]at h';exact d (cI h')
theorem bT{o:dz}(h:H a=25)(h':H b=00):a≠b:=by intro e;subst e;rw[h]at h';cases h'
section
variable(P:f3)(w:ff)
def fx(H:av)(h:dk)(a:ag):92 dz|.lst xs=>052∧m65 (cc xs a0∧321=some c39)|.tup xs=>052∧∃a0:53,cc xs a0∧IsTup h a 275|.e0 kvs=>a91∧(a==l5)=09∧∃vs,603∧h.DictOf (fg P w) a vs|.gf kvs=>a91∧(a==l5)=09∧∃xs:c62 (ag×aH),ov (fun(p:List cF×ae)(q:List cF×ag×aH)=>p.1=q.1∧H 449=294 (p.1.map ec)∧RelV p.2 423) kvs xs∧∃o aR c0,321=25∧p04∧a69∧n63=077 (MO 414)∧668 (077 379)|.set S n=>h.SetOf (intKind P w) a S n|.ins C dx bl=>H dx=g94∧l46≤1000∧dx≠a∧321=some (xE C dx)∧∃dG,058∧(∀f,j8 000 (dG f))∧G7 dG b75|.own _=>∃o,321=25|.zH bl=>∃dG,h.Ns1 a dG∧∀f,j8 000 (dG f)|.pz lo hi=>∃t u v,321=some (825 510 #[.int lo t,785 hi,.int 1 v])|.eT o u=>321=25∧fx H h a u|.vl ps=>321=some (l94 ps)|.met f x=>321=some (V8 590 438)|.ext fQ=>fQ h∧(∃o,321=25)∧∀af ak:dk,fQ af→(∀o,c59 a→ak.get? a=25)→fQ ak
def fy(H:av)(h:dk):04:=∀a o,H a=25→fx P w H h a o
end
section
variable{o:dz}
theorem fx.lt(x:fx P w H h a o):a<397:=by cases o with|lst xs=>rw[C45];exact 105|tup xs=>obtain⟨_,_,_,p⟩:=x;exact p.lt|e0 kvs=>rw[B22];exact 105|gf kvs=>rw[B22];exact 105|set S n=>rw[C44];exact 105|ins C dx bl=>rw[C43];exact 105|own y=>obtain⟨_,e⟩:=x;exact 105|zH bl=>rw[D30];exact 105|pz lo hi=>rw[D29];exact 105|eT bC u=>obtain⟨e,_⟩:=x;exact 105|vl ps=>exact dm (show 321=c90 from x)|met f y=>exact dm (show 321=c90 from x)|ext fQ=>rw[D45];exact 105
theorem Paired.G8{F G:713}{MP:40}{l₂:523}(h:ov F MP l₂)(f:∀a b,F a b→G a b):ov G MP l₂:=by induction h with|nil=>rw[A40]|cons r _ ih=>exact 920 (f _ _ r)
theorem fx.lE(x:fx P w H h a o)(k:627 ((b=a∨H b=g94)→319=56→219=56))(a8:∀b,H b=g94→244=g94)(bk:∀b xs,H b=a93→244=a93):fx P w H' h' a o:=by induction o with|lst xs=>obtain⟨z,a0,n,r,e⟩:=x;exact⟨z,a0,n,r,k _ _ 253 e⟩|tup xs=>obtain⟨z,a0,r,bC,e,c⟩:=x;exact⟨z,a0,r,bC,k _ _ 253 e,c⟩|e0 kvs=>obtain⟨z,y,vs,r,bC,aR,c0,e,c⟩:=x;exact⟨z,y,vs,r,bC,aR,c0,k _ _ 253 e,c⟩|gf kvs=>obtain⟨z,y,xs,r,bC,aR,c0,e,c⟩:=x;exact⟨z,y,xs,Paired.G8 r (fun p q z=>⟨z.1,bk _ _ 498,a05⟩),bC,aR,c0,k _ _ 253 e,c⟩|set S n=>obtain⟨bC,aR,c0,t,e,c⟩:=x;exact⟨bC,aR,c0,t,k _ _ 253 e,c⟩|ins C dx bl=>obtain⟨d,z,ne,e,dG,⟨cQ,aR,c0,aG,c⟩,r⟩:=x;exact⟨a8 _ d,z,ne,k _ _ 253 e,dG,⟨cQ,aR,c0,k _ _ (.inr d) aG,c⟩,r⟩|own y=>obtain⟨bC,e⟩:=x;exact⟨bC,k _ _ 253 e⟩|zH bl=>obtain⟨dG,⟨cQ,aR,c0,e,c⟩,r⟩:=x;exact⟨dG,⟨cQ,aR,c0,k _ _ 253 e,c⟩,r⟩|pz lo hi=>obtain⟨t,u,v,e⟩:=x;exact⟨t,u,v,k _ _ 253 e⟩|eT bC u ih=>obtain⟨e,q⟩:=x;exact⟨k _ _ 253 e,ih q⟩|vl ps=>have e:321=some (l94 ps):=x;show 940 a (l94 ps);exact k a _ 253 e|met f y=>have e:321=some (V8 590 (.ref y)):=x;show 940 a (V8 590 (.ref y));exact k a _ 253 e|ext fQ=>obtain⟨p,⟨o,e⟩,st⟩:=x;exact⟨st _ _ p (b60 (k _ _ 253 q)),⟨o,k _ _ 253 e⟩,st⟩
theorem fy.lt(x:fy P w H h)(e:H a=25):a<397:=(x a o e).lt
theorem fy.fresh(x:fy P w H h)(e:397≤a):H a=00:=by cases q:H a with|none=>rfl|some u=>rw[A62 (jN (x.lt q) e) _]
theorem fy.kept(x:fy P w H h)(k:627 (319=56→219=56)):fy P w H h':=fun a o e=>(x a o e).lE (fun b u _ q=>k b u q) g03 b78
theorem fy.laid(x:fy P w H h)(k:627 (319=56→219=56))(au:397≤a)(new:fx P w (upd H a o) h' a o):fy P w (upd H a o) h':=d08 (by
 have aU:=x.fresh au;by_cases aa:b=a
 ·subst aa;rw[aI]at e;cases e;exact new
 ·rw[aE aa]at e;exact(x b u e).lE (p12 (k c v q)) (l38 (d54 q aU)) (l37 (d54 q aU)))
end
def tx(H:av)(a:ag)(u:dz):04:=H a=56∨∃o,H a=798 u
theorem tx.ok{u:dz}(r:tx H a u)(x:fy P w H h):fx P w H h a u:=by
 rcases r with r|⟨o,r⟩
 ·exact x a u r
 ·obtain⟨_,q⟩:=x a _ r;exact q
def vm:92 (241 dz)|some (.lst _)=>625|some (.e0 _)=>625|some (.gf _)=>625|some (.set _ _)=>625|some (.ins _ _ _)=>625|some (.ext _)=>625|_=>739
section
variable{x e:ag}{dr:dz}
theorem fy.write(ok:fy P w H h)(hJ:vm (H x))(he:e=x∨H e=some 641)(k:627 (b≠e→319=56→219=56))(zS:∃u,h'.get? e=56)(new:fx P w (upd H x dr) h' x dr):fy P w (upd H x dr) h':=i01 (by
 have V9:∀c y,H c=some (.own y)→c≠x:=fun c y r z=>r90;have aj0:∀c xs,H c=a93→c≠x:=fun c xs r z=>r90;by_cases aa:b=x
 ·subst aa;rw[aI]at q;cases q;exact new
 ·rw[aE aa]at q;by_cases l6:b=e
  ·have eU:H b=some 641:=by
    rcases he with z|z
    ·exact 69 (l6.trans z) aa
    ·rw[l6];exact z
   rw[q]at eU;cases eU;obtain⟨v,a3⟩:=zS;exact⟨v,by rw[l6];exact a3⟩
  ·refine m69 (ok b u q) (k c v ?_ r) (i70 (V9 c b r)) (i70 (aj0 c xs r));rw[B80]
   ·exact l6
   ·rw[A91];rcases he with z|z
    ·exact V9 c b ar z
    ·rw[ar]at z;cases z;exact aa rfl)
end
structure ir(bl ex:27)(H H':av)(h h':dk):04 where
 keep:c56 (H b=00→b∉bl→b∉ex→219=25)
 slot:c56 (H b=00→b∈bl→b∉ex→∃dP,219=j37)
 free:c56 (H b=00→b∉ex→244=00)
 there:c56 (b∉ex→∃dr,219=some dr)
 pA:∀b xs,H b=a93→244=a93
 nx:∀b o u,H b=798 u→244=798 u
 pB:∀b ps,H b=k10 ps→∃more,244=k10 (ps++more)
section
variable{bl zT ex aAV:27}{af ak:dk}{x e:ag}{o:dz}
theorem ir.any(u:ir bl ex H H1 h af){bC:Obj}(q:319=467)(n:H b=00)(ai:b∉ex):∃dP,af.get? b=some {bC with slots:=dP}:=by
 by_cases aa:b∈bl
 ·exact u.slot b bC q n aa ai
 ·exact⟨bC.slots,u.keep b bC q n aa ai⟩
theorem ir.kept(k:627 (319=56→219=56)):ir bl ex H H h h':=⟨r89 (k b bC q),r89 (g26 (k b bC q)),fun _ _ _ n _=>n,fun b bC q _=>⟨bC,k b bC q⟩,b78,fun _ _ _ q=>q,fun _ ps q=>⟨#[],by rw[q];simp⟩⟩
theorem ir.refl:ir bl ex H H h h:=ir.kept b78
theorem ir.laid(k:627 (319=56→219=56))(au:397≤a)(aU:H a=00):ir bl ex H (upd H a o) h h' where
 keep:=fun b u q _ _ _=>k b u q
 slot:=fun b u q _ _ _=>⟨u.slots,k b u q⟩
 free:=fun b u q n _=>m39 (fk (jN (dm q) au))
 there:=fun b u q _=>⟨u,k b u q⟩
 pA:=p14 (d54 q aU)
 nx:=fun b u xs q=>d54 q aU
 pB:=fun b ps q=>⟨#[],by rw[110 q aU,q];simp⟩
theorem ir.write(hJ:vm (H x))(he:e=x∨H e=some 641)(k:627 (b≠e→319=56→219=56))(zS:∃u,h'.get? e=56):ir bl ex H (upd H x o) h h':=by
 have ai:∀b,H b=00→b≠x:=fun b n z=>by subst z;rw[n]at hJ;exact hJ
 have aa:∀b,H b=00→b≠e:=fun b n z=>by
  subst z;rcases he with r|r
  ·exact ai b n r
  ·rw[n]at r;cases r
 have hm:627 (H b=56→¬vm 56→b≠x):=fun b u q nm z=>by subst z;rw[q]at hJ;exact nm hJ
 refine⟨fun b u q n _ _=>k b u (aa b n) q,fun b u q n _ _=>⟨u.slots,k b u (aa b n) q⟩,fun b u q n _=>m39 (ai b n),fun b u q _=>?_,p14 (b70 (hm b _ q (16 z))),fun b u xs q=>b70 (hm b _ q (16 z)),fun b ps q=>⟨#[],by rw[aE (hm b _ q (16 z)),q];simp⟩⟩;by_cases l6:b=e
 ·subst l6;exact zS
 ·exact⟨u,k b u l6 q⟩
end
def G9(h:dk)(H:av):27:=909 397 (fun a=>736 (H a))
def tA(h:dk)(H:av):dk:=PySem.W.hideAll h (G9 h H)
theorem aj1(h:dk)(H:av):424 (tA h H)=397:=PySem.W.hideAll_size _ _
theorem aj2(e:319=25)(n:H b=00):782 (tA h H)=25:=PySem.W.hideAll_get _ e (fun hm=>by have q:736 (H b)=01:=(ob.mp hm).2;rw[n]at q;simp at q)
theorem aj3(e:782 (tA h H)=25):319=25∧H b=00:=by
 have bZ:319=25:=PySem.W.of_hideAll (G9 h H) e;rw[A27 bZ]
 cases q:H b with|none=>rfl|some x=>have hm:b∈G9 h H:=ob.mpr ⟨g4.mpr (dm bZ),by simp[q]⟩;have z:782 (tA h H)=00:=PySem.W.hideAll_none (G9 h H) hm;rw[z]at e;cases e
structure Mod(K:bo)(ah:261)(base:dk):04 where
 qz:K.In 02
 glob:g47 i6
 blt:∃cB,base.Ns V_ cB∧∀x:Str,g25 x→cB x=rS x
 nolimit:base.NoLimit
structure dT where
 prog:f3
 w:ff
 K:bo
 ah:261
 base:dk
 A:rT
 N:225
 iU:aZ
 xF:av
 env:Env
 outer:596
 stack:596
 ex:27
 fn:482 Str
 calm:Bool
 iQ:224
 dC:490
def kv(l:596):27:=p35 (·.frame)
variable{X:dT}
abbrev dT.bl(X:dT):27:=kv 091
def zU(sc:rp)(x:Str):04:=a22=492∨a22=493∨a22=779
def F5(sc:rp)(x:Str):04:=a22=492∨a22=493
def aAG(env:Env)(h:dk)(m:261)(x:Str)(u:aH):04:=(n32=492∧m x=56)∨((n32=493∨n32=779)∧∃c,m93 x 73∧h.IsCell c 56)
structure dT.Ok(X:dT):04 where
 mod:Mod X.K 508 341
 kind:i09 h89
 glob:o56=i6
 blt:X.env.builtins=V_
 above:a07≤474
 inj:∀x y c,632=73→d34 y=73→x=y
 has:∀x,(j01=493∨j01=779)→∃c,632=73
 zV:894 (c83=01→632=73→a07≤c)
 hd:394→X.A.handled=00
 frames:X.A.frames=some 676
 C4:676=091∨(676=55::091∧X.env.frame=some 474)
 C5:∀b∈X.ex,053∧894 (632=73→c≠b)
 bs:374 f96 (d58=25∧X.xF b=00)
 qA:X.base.objs.size≤a07
 zW:374 f96 (b∉X.ex)
 zX:∀b∈X.ex,b∉680
 ow:X.iU.heap.FunFrames 341 091
 vn:∀b∈X.bl,X.xF b=00
structure aQ(X:dT)(pins:224)(σ:List 93)(H:av)(s:aZ):04 where
 ok:X.Ok
 os:s.os=X.iU.os
 bare:xG d15
 base:ir 680 X.ex X.xF H X.iU.heap 28
 loc:∃m,s.heap.Ns 474 m∧∀(i:Nat)(x:Str)(v:ae),851=43→c89=454 v→zU 628 x→∃u,466∧aAG 55 28 m x u
 cell:894 (632=73→∃v,s.heap.IsCell c v)
 free:H 474=00
 iS:894 (632=73→H c=00)
 pin:∀p∈X.iQ++07,393 p.1 p.2∧H p.1=00∧p.1≠474∧p.1∉680∧∀v,p.2.data≠.cell v
 bB:fy 61 X.w H 28
 len:b61=h86
section
variable{σ:List 93}{s:aZ}
theorem dT.Ok.aj4(ok:X.Ok)(e:f96=25):b∉680:=fun aa=>r88 (ok.ow.mem aa).1
theorem aQ.bs(I:24):374 f96 (346∧H b=00):=351 ⟨I.base.keep b o (I.ok.bs b o e).1 (I.ok.bs b o e).2 (I.ok.aj4 e) (I.ok.zW b o e),a30 b (I.ok.bs b o e).1 (I.ok.bs b o e).2 (I.ok.zW b o e)⟩
theorem aQ.eO(I:24):374 f96 346:=351 (I.bs b o e).1
theorem aQ.mod(I:24):Mod X.K 508 341:=I.ok.mod
theorem aQ.gF(I:24):X.K.In 28:=I.ok.mod.qz.keeps I.eO
theorem aQ.fr(I:24):∃m,Fr 341 474 28 m:=let⟨m,aU,_⟩:=I.loc;⟨m,aU,I.eO,g48 h88⟩
theorem aQ.lt(I:24):474<18:=let⟨_,aU,_⟩:=I.loc;aU.lt
theorem aQ.qB(I:24):a07≤18:=cX h88 (xH I.lt)
theorem aQ.aj5(I:24)(h:18≤a):a∉680:=fun aa=>by obtain⟨_,o,a8,_⟩:=I.ok.ow.mem aa;exact 69 (jN (dm a8) (cX I.qB h)) (kV _)
theorem aQ.vo(I:24):894 (632=73→c≠474):=fun x c e z=>by obtain⟨v,o,a8,hd⟩:=c46 x e;obtain⟨m,⟨dr,aR,c0,ju,kW,_⟩,_⟩:=I.loc;rw[z,ju]at a8;cases a8;rw[kW]at hd;cases hd
theorem aQ.ow(I:24):l93 091:=by
 have all:∀(l:596),(∀b∈kv l,b∈680)→X.iU.heap.FunFrames 341 l→l93 l:=by
  intro l
  induction l with|nil=>intro _ _;trivial|cons env r ih=>intro aL ax;obtain⟨aS,⟨L,o,hf,aU,a8,hd⟩,aq⟩:=ax;have gG:L∈680:=aL L (by unfold kv;rw[w0,hf];exact dO);obtain⟨dP,e⟩:=I.base.slot L o a8 (I.ok.vn L gG) gG (16 (I.ok.zX L z gG));exact⟨aS,⟨L,_,hf,aU,e,hd⟩,ih (350 (aL b (by unfold kv;rw[w0,hf];exact d4 _ aa))) aq⟩
 exact all 091 (fun _ aa=>aa) I.ok.ow
theorem aQ.stack(I:24):l93 676:=by
 rw[D68]
 ·rw[e];exact I.ow
 ·rw[e];obtain⟨m,aU,_⟩:=I.loc;refine .cons (by rw[I.ok.kind];decide) hf aU ?_ I.ow;exact aj6 (g48 h88)
theorem aQ.G_(I:24):∀b∈j41,b∈474::680:=350 (by
 rw[D68]
 ·rw[e]at aa;exact d4 _ aa
 ·rw[e]at aa;unfold kv at aa;rw[w0,hf]at aa;exact aa)
theorem aQ.Ha(I:24):∀b∈j41,H b=00:=350 (by
 rcases j56 b aa with e|aa
 ·rw[e];exact I.free
 ·obtain⟨_,o,a8,_⟩:=I.ok.ow.mem aa;exact a30 b a8 (I.ok.vn b aa) (16 (I.ok.zX b z aa)))
theorem aQ.step(I:24)(rU:i06 ((b∈X.ex∨a07≤b)∧053∧(894 (632=73→c≠b))∧∀p∈X.iQ++07,p.1≠b))(keep:300 053 (b∉680→b∉ch→346→H b=00→219=25))(slot:300 053 (b∈680→b∉ch→346→H b=00→∃dP,219=j37))(free:300 (b∉ch) (346→H b=00→244=00))(there:300 (b∉ch) (346→∃dr,219=some dr))(pA:∀b xs,H b=a93→244=a93)(nx:∀b o u,H b=798 u→244=798 u)(pB:∀b ps,H b=k10 ps→∃more,244=k10 (ps++more))(ns:∀m,s.heap.Ns 474 m→h'.Ns 474 m)(bB:fy 61 X.w H' h')(a4:xG g'):aQ X 07 σ H' r86:=by
 have Wa:374 d58 053:=351 (fk g45);have Hb:374 d58 (b∉X.ex→b∉ch):=fun b o e ai aa=>by
  rw[A61 (rU b aa).1]
  ·exact ai z
  ·rw[A62 (jN 105 z) _]
 have cellK:894 (632=73→∀v,s.heap.IsCell c v→h'.IsCell c v):=fun x c e v⟨o,a8,hd⟩=>by
  have C6:c∉ch:=16 ((rU c z).2.2.1 x c e rfl);by_cases ar:c∈680
  ·obtain⟨dP,q⟩:=slot c o (I.vo x c e) ar C6 a8 (I.iS x c e);exact⟨_,q,hd⟩
  ·exact⟨o,keep c o (I.vo x c e) ar C6 a8 (I.iS x c e),hd⟩
 refine⟨I.ok,I.os,a4,⟨b93,b93,fun b o e n ai=>?_,j92,p13 (pA b xs (I.base.pA b xs e)),fun b o xs e=>nx b o xs (I.base.nx b o xs e),i05 ?_⟩,?_,n44,?_,n44,263,bB,b54⟩
 ·exact keep b o (Wa b o e) aa (Hb b o e ai) (I.base.keep b o e n aa ai) (a30 b e n ai)
 ·rw[B81 (I.base.slot b o e n aa ai)];obtain⟨aj7,aG⟩:=slot b _ (Wa b o e) aa (Hb b o e ai) aK (a30 b e n ai);exact⟨aj7,aG⟩
 ·rw[B70 o e ai];exact free b dr (Hb b o e ai) aK (a30 b e n ai)
 ·rw[B70 o e ai];exact there b dr (Hb b o e ai) aK
 ·obtain⟨hx,aK⟩:=I.base.pB b ps e;obtain⟨ip,aG⟩:=pB b _ aK;exact⟨hx++ip,by rw[aG,Array.append_assoc]⟩
 ·rw[B90];refine⟨m,ns m aU,r84 ?_⟩;rw[C67 (ax i x v aK aG cp)];rw[A20 u r];rcases l with l|⟨k,c,e,z⟩
  ·rw[A17 l]
  ·rw[A09 ⟨k,c,e,cellK x c e _ z⟩]
 ·obtain⟨v,z⟩:=c46 x e;exact⟨v,cellK x c e v z⟩
 ·obtain⟨m,⟨o,_,_,a8,_⟩,_⟩:=I.loc;exact free _ o (16 ((rU _ z).2.1 rfl)) a8 741
 ·obtain⟨v,o,a8,hd⟩:=c46 x e;exact free c o (16 ((rU c z).2.2.1 x c e rfl)) a8 (I.iS x c e)
 ·rw[C03 p au];have C6:p.1∉ch:=16 ((rU p.1 z).2.2.2 p au rfl);exact⟨keep p.1 p.2 ne nr C6 e n,free p.1 p.2 C6 e n,ne,nr,d⟩
theorem aQ.un(I:24)(u:ir 680 [] H H' 28 h')(bB:fy 61 X.w H' h'):f65 H':=by rw[D67 (id 092)];obtain⟨dP,gG⟩:=u.any a8 741 19;exact I.step (g':=d15) (d':=h82) (ch:=[]) (fun _ z=>l36) (r87 (u.keep b o e n aa 19)) (r87 (u.slot b o e n aa 19)) (fun b o _ e n=>u.free b o e n 19) (fun b o _ e=>u.there b o e 19) u.pA u.nx u.pB (fun eg hm=>r85 ⟨_,vp,vq,gG,dF⟩) bB 579
theorem aQ.call(I:24)(u:ir j41 ch H H' 28 h')(bB:fy 61 X.w H' h')(a4:xG g')(rU:i06 ((b∈X.ex∨a07≤b)∧053∧(894 (632=73→c≠b))∧∀p∈X.iQ++07,p.1≠b)):aQ X 07 σ H' r86:=by rw[D67 (id 092)];obtain⟨dP,gG⟩:=u.any a8 741 (16 ((rU _ z).2.1 rfl));exact I.step (ch:=ch) rU (fun b o gG aa ar e n=>u.keep b o e n (16 ((j56 b z).elim gG aa)) ar) (fun b o _ _ ar e n=>u.any e n ar) (fun b o ar e n=>u.free b o e n ar) (fun b o ar e=>u.there b o e ar) u.pA u.nx u.pB (fun eg hm=>r85 ⟨_,vp,vq,gG,dF⟩) bB a4
theorem aQ.turned(I:24)(k:300 (b≠it) (346→219=25))(aU:H it=00)(gG:it≠474)(af:it∈X.ex∨a07≤it)(ak:894 (632=73→c≠it))(a6:∀p∈X.iQ++07,p.1≠it):l76:=by
 have pC:627 (H b=56→b≠it):=p15 (by rw[z,aU]at e;cases e);refine I.step (g':=d15) (d':=h82) (ch:=[it]) 773 (f60 (k b o m85 e)) (f60 ⟨o.slots,k b o m85 e⟩) (fun _ _ _ _ n=>n) (m77 o (k b o m85 e)) (fun _ _ e=>e) (fun _ _ _ e=>e) (i05 ⟨#[],by rw[e];simp⟩) 764 n38 579
 ·have e:b=it:=120;subst e;exact⟨af,gG,ak,a6⟩
 ·rw[C60];exact⟨o,aR,c0,k _ o (jq gG) a8,r⟩
 ·refine j42 (I.bB b u e) (k c v ?_ q) g03 b78;rw[C59]
  ·rw[z];exact pC b u e
  ·exact pC c _ z
theorem aQ.tok(I:24)(t:Nat):aQ X 07 σ H {s with toks:=t}:=I.un (h':=28) (t':=t) ir.refl 274
theorem aQ.kept{t':Nat}(I:24)(k:627 (879 b=56→219=56)):l76:=I.un (ir.kept k) (I.bB.kept k)
theorem aQ.laid{a:ag}{o:dz}{t':Nat}(I:24)(k:627 (879 b=56→219=56))(au:18≤a)(new:fx 61 X.w (upd H a o) h' a o):f65 (upd H a o):=I.un (ir.laid k au (081 au)) (I.bB.laid k au new)
theorem aQ.write{x e:ag}{o:dz}{t':Nat}(I:24)(hJ:vm (H x))(he:e=x∨H e=some 641)(k:627 (b≠e→879 b=56→219=56))(zS:∃u,h'.get? e=56)(new:fx 61 X.w (upd H x o) h' x o):f65 (upd H x o):=I.un (ir.write hJ he k zS) (I.bB.write hJ he k zS new)
theorem aQ.weak(I:24)(ax:cb.length=b61)(w:∀(i:Nat)v,cb[i]?=454 v→c89=454 v):aQ X 07 cb H s:=⟨I.ok,I.os,579,f39,let⟨m,aU,tj⟩:=I.loc;⟨m,aU,r84 (tj i x v aK (w i v aG) cp)⟩,d19,741,I.iS,I.pin,274,ax.trans b54⟩
theorem aQ.Wb(I:24)(h:∀p∈aj8,393 p.1 p.2∧H p.1=00∧p.1≠474∧p.1∉680∧∀v,p.2.data≠.cell v):aQ X aj8 σ H s:=⟨I.ok,I.os,579,f39,092,d19,741,I.iS,367 ((362 au).elim (16 (I.pin p (Hc _ z))) (h p)),274,b54⟩
theorem MQ(fs:N.Nodup)(a:N[i]?=43)(b:N[j]?=43):i=j:=by obtain⟨af,aK⟩:=oi.mp a;obtain⟨ak,aG⟩:=oi.mp b;exact(ahC fs).mp (aK.trans aG.symm)
theorem Wc{v:ae}{Q:592}(I:24)(fs:X.N.Nodup)(hi:851=43)(ai:F5 628 x)(r:466)(h:∀s',aQ X 07 j76 H s'→(∃a,ox a 28 543∧(a=474∨632=533))→Q () s')(hf:c83=01∨b66=492:=by first|exact .inl rfl|exact .inr rfl|assumption):a9 M A (n24 x u) Q E s:=by
 obtain⟨m,aU,ax⟩:=id 092;have MR:(h89==.class||(h89==.module&&474 !=o56))=09:=q76;have xI:i<b61:=l99 hi;have vo:=I.vo;have tracked:∀{a:ag}{h':dk},(∃o,586 a∧H a=00)→ox a 28 h'→fy 61 X.w H h':=fun{a h':_}aN aL b bC e=>by
  obtain⟨_,_,oe⟩:=aN;refine(I.bB b bC e).lE (fun c gQ ar q=>35 (aL.2 c ?_) q) g03 b78;rw[A91];rw[B80]
  ·rw[oe]at e;cases e
  ·rw[oe]at ar;cases ar
 rcases ai with aS|aS
 ·refine wpAny_storeName_local aS aU (fun h' Wd aL=>?_) MR;obtain⟨aj9,_,_,aka,_⟩:=id aU;refine h _ ⟨I.ok,I.os,579,⟨b93,b93,I.base.free,j92,o68,o67,o66⟩,⟨_,Wd,r83 ?_⟩,k17,741,I.iS,263,tracked ⟨aj9,aka,741⟩ aL,r82⟩ ⟨_,aL,253⟩
  ·exact 35 (aL.2 b (fk g45)) (I.base.keep b o e n aa ai)
  ·rw[B81 (I.base.slot b o e n aa ai)];exact⟨dP,35 (aL.2 b (fk g45)) aK⟩
  ·rw[B70 o e ai];exact⟨dr,35 (aL.2 b (fk g45)) aK⟩
  ·by_cases bS:j=i
   ·subst bS;rw[hi]at aK;cases aK;rw[ry xI]at aG;cases aG;exact⟨u,r,.inl ⟨aS,19⟩⟩
   ·rw[u7 (jq bS)]at aG;obtain⟨jT,dF,q⟩:=ax j y vr aK aG cp;rw[A20 jT dF];rcases q with⟨k,e⟩|⟨k,c,e,z⟩
    ·refine .inl (328 k);have:y≠x:=100 (bS (MQ fs aK (e▸hi)));simp[this,e]
    ·rw[A09 ⟨k,c,e,z.sameBut aL (vo y c e)⟩]
  ·obtain⟨gQ,z⟩:=c46 y e;exact⟨gQ,z.sameBut aL (vo y c e)⟩
  ·rw[C03 p au];exact⟨35 (aL.2 p.1 ne) e,n,ne,nr,d⟩
 ·have MS:c83=01:=by
   rcases hf with z|z
   ·exact z
   ·rw[z]at aS;cases aS
  rw[C62 (I.ok.has x (.inl aS))];obtain⟨gQ,z⟩:=c46 x ar;refine wpAny_storeName_cell 093 aS ar z (fun h' oy aL=>?_);obtain⟨ig,We,akb⟩:=id z;refine h 538 ⟨I.ok,I.os,579,⟨b93,b93,I.base.free,j92,o68,o67,o66⟩,⟨m,aU.sameBut aL (jq (vo x c ar)),r83 ?_⟩,fun y jU e=>?_,741,I.iS,263,tracked ⟨ig,We,I.iS x c ar⟩ aL,r82⟩ ⟨c,aL,.inr ar⟩
  ·exact 35 (aL.2 b (fk (jN 105 (I.ok.zV x c MS ar)))) (I.base.keep b o e n aa ai)
  ·rw[B81 (I.base.slot b o e n aa ai)];exact⟨dP,35 (aL.2 b (fk (jN 105 (I.ok.zV x c MS ar)))) aK⟩
  ·rw[B70 o e ai];exact⟨dr,35 (aL.2 b (fk (jN 105 (I.ok.zV x c MS ar)))) aK⟩
  ·by_cases bS:j=i
   ·subst bS;rw[hi]at aK;cases aK;rw[ry xI]at aG;cases aG;exact⟨u,r,.inr ⟨.inl aS,c,ar,oy⟩⟩
   ·rw[u7 (jq bS)]at aG;obtain⟨jT,dF,q⟩:=ax j y vr aK aG cp;rw[A20 jT dF];rcases q with q|⟨k,jU,e,j9⟩
    ·rw[A17 q]
    ·refine .inr ⟨k,jU,e,j9.sameBut aL ?_⟩;rw[A91];exact bS (MQ fs aK (I.ok.inj _ _ _ e ar▸hi))
  ·by_cases Wf:jU=c
   ·subst Wf;rw[A08 oy]
   ·obtain⟨rM,es⟩:=I.cell y jU e;exact⟨rM,es.sameBut aL Wf⟩
  ·rw[C03 p au];refine⟨35 (aL.2 p.1 ?_) e,n,ne,nr,d⟩;intro q;rw[q,We]at e;have eU:ig=p.2:=cI e;exact d gQ (by rw[←eU];exact akb)
theorem C7{v:ae}{Q:592}(I:24)(fs:X.N.Nodup)(hi:851=43)(ai:F5 628 x)(r:466)(h:∀s',aQ X 07 j76 H s'→Q () s')(hf:c83=01∨b66=492:=by first|exact .inl rfl|exact .inr rfl|assumption):a9 M A (n24 x u) Q E s:=Wc I fs hi ai r (fun s' jV _=>h s' jV) hf
theorem aQ.Hd{s':aZ}(I:24)(a8:s'.os=s.os)(u:ir j41 ch H H' 28 543)(bB:fy 61 X.w H' 543)(a4:j67)(rU:i06 ((b∈X.ex∨a07≤b)∧053∧(894 (632=73→c≠b))∧∀p∈X.iQ++07,p.1≠b)):050:=by obtain⟨h',g',d',t',dr⟩:=s';have e:dr=s.os:=a8;subst e;exact I.call (g':=g') (t':=t') (d':=d') u bB a4 rU
end
end
abbrev bD:=aH→546 639
abbrev bq:=List 93
abbrev aW:=546 ae
abbrev ct:=bq→637 aW
abbrev j6:=bq→637 (a57)
abbrev fG:=bq→637 (546 08)
section
variable{A:rT}{C D I a b c d f it p t:ag}{E Q:aH→aZ→Prop}{K:bo}{M:Model}{N:List Str}{P prog:f3}{R:Result→aZ→Prop}{pos pos' tc:Pos}{T:String}{a0 its' us vs:List aH}{aD df:List ag}{aG e eD iter:dn}{aR:Array Il}{ek f1 u:aH}{o:Obj}{pins:List (ag×Obj)}{body:List bK}{b0 i j n t':Nat}{h h':dk}{g l:List Nat}{r:List Int}{d':Drawn}{done:List (Nat×List Int)}{e8 α:Type}{h3:Nat→dk→Prop}{x:Str}{op:CmpOp}{pl:Sem Bool}{q:Search}{s s':dt}{tk:Tok}{v:Word}{w:ff}{m:g0}{cb:List (Option ae)}{kvs:List (List cF×ae)}{xs ys:List ae}{y:ae}{H H' H1 aB:av}{X:dT}{MX:ae→ae→av→aW→Prop}{bW c7 g7 to ty:ct}{pF:j6}
structure lY where
 cz:409
 l7:aW
 eO:409:=fun _ _=>False
 ek:409:=fun _ _=>False
abbrev gH:=lY→409
inductive hK(X:dT)(pins:224)(σ:bq)(Q:aW)(u:aH)(s':aZ):04|mk:∀v H',050→466→Q v H'→hK X 07 σ Q u s'
def He(X:dT)(pins:224)(σ:bq)(Q:a57)(b:Bool)(s':aZ):04:=∃H',050∧Q b H'
inductive Wg(X:dT)(pins:224)(σ:bq)(Q:546 08)(us:53)(s':aZ):04|mk:∀vs H',050→a92→Q vs H'→Wg X 07 σ Q us s'
def tB(X:dT)(pins:224)(D:lY)(f:Flow)(s':aZ):04:=match f with|.next=>f57 (aQ X 07 cb H' s'∧D.cz cb H')|.brk=>f57 (aQ X 07 cb H' s'∧D.eO cb H')|.cont=>f57 (aQ X 07 cb H' s'∧D.ek cb H')|.ret u=>∃v cb H',aQ X 07 cb H' s'∧466∧D.l7 v H'
def bF(X:dT)(e:dn)(t:ct):04:=r79 224 (24→t σ H Q→a9 47 X.A 689 497 68 s)
def mI(X:dT)(e:dn)(t:j6):04:=l79 224 571 (24→t σ H Q→a9 47 X.A (j66 e 689) (He X 07 σ Q) 68 s)
def vt(X:dT)(e:dn)(t:j6):04:=∀(whole:054)(pins:224)(s:aZ)(σ:bq)(H:av)(Q:a57),24→t σ H Q→a9 47 X.A (j66 e 511) (He X 07 σ Q) 68 s
theorem vt.pt{t:j6}(h:vt X e t):mI X e t:=h _
def hZ(X:dT)(aR:439)(t:fG):04:=∀(pos:Pos)(pins:224)(s:aZ)(σ:bq)(H:av)(Q:546 08),24→t σ H Q→a9 47 X.A (spliced (hA pos 459)) (Wg X 07 σ Q) 68 s
def iV(X:dT)(st:bK)(t:gH):04:=r81 224 (24→t D σ H→a9 47 X.A (exec st 55) (tB X 07 D) 68 s)
def mJ(X:dT)(st:List bK)(t:gH):04:=r81 224 (24→t D σ H→a9 47 X.A (execs st 55) (tB X 07 D) 68 s)
theorem bY{t:Sem α}{Q tC:456 α}{s:aZ}(h:a9 M A t Q E s)(g6:∀a s,Q a s→tC a s):a9 M A t tC E s:=j_ h g6 d64
section
variable{tb:gH}
theorem aCr{a b:dn}{tb:ct}(aN:658)(aa:945 b){s:aZ}{σ:bq}{R:ae→546 ae}(I:24)(h:bW σ H (291 (tb σ H1 (891 (R x y aB))))){Q:456 α}{f:aH→aH→Sem α}(hf:∀v u s2 x y aB,aQ X 07 σ aB s2→719→465→R x y aB→a9 47 X.A (f v u) Q 68 s2):a9 47 X.A (405 a) (fun v ep=>a9 47 X.A (405 b) (fun u iu=>a9 47 X.A (f v u) Q 68 iu) 68 ep) 68 s:=by refine 875 (aN 07 s σ H _ I h);refine f64 (aa 07 s1 σ H1 _ aX bg) ?_;exact hf v u s2 x y aB b5 bU cT cf
inductive iW(i:Nat)(σ:bq)(H:av)(Q:aW):04|mk:∀v,c89=454 v→Q v H→iW i σ H Q
def qC(v:ae):ct:=j65 v H
theorem akc(fs:851=43)(a3:zU 628 x)(hd:(x==598)=09:=by decide)(ny:(x==(r29:Str))=09:=by decide):bF X c42 (iW i):=by
 rw[A13];obtain⟨v,e,h⟩:=h;rw[B90];rw[C67 (ax i x v fs e a3)];have fin:hK X 07 σ Q u s:=⟨v,H,I,r,h⟩;rw[D66]
 ·exact wpAny_Name (akd 093 aS aU hm fin) hd
 ·rcases aS with aS|aS
  ·exact wpAny_Name (ake 093 aS ar Hf fin) hd
  ·exact wpAny_Name (wpAny_loadName_free 093 aS ar Hf fin ny) hd
theorem bu{i j pos:_}:j39 260 j pos (qC 260):=f53 (wpAny_Constant_int ⟨260,H,279,282,h⟩)
theorem l8{b j pos:_}:j39 j87 j pos (qC a80):=f53 (Constant_bool (128 b H I h))
theorem et{j pos:_}:j39 87 j pos (qC .b4):=f53 (Constant_none ⟨.b4,H,I,rfl,h⟩)
theorem fl{x j pos:_}:j39 765 j pos (qC 765):=f53 (Calls.Constant_str ⟨765,H,279,282,h⟩)
def h1(X:dT)(x:Str):04:=j01=some .globalImplicit
theorem xJ{s:aZ}{σ:bq}(I:24)(a4:797)(hm:a97=56)(h:Q u s)(hd:(x==598)=09:=by decide):a9 47 X.A (405 c42) Q E s:=akf 093 a4 (Calls.loadGlobal_global (r80 l97) hm h) hd
theorem qD{s:aZ}{σ:bq}(I:24)(a4:797)(hm:a97=00)(a3:rS x=56)(h:Q u s)(aU:g25 x:=by decide)(hd:(x==598)=09:=by decide):a9 47 X.A (405 c42) Q E s:=by obtain⟨cB,af,ak⟩:=I.mod.blt;exact akf 093 a4 (Calls.loadGlobal_builtin (r80 l97) hm (by rw[I.ok.blt];exact af.keeps I.eO) (35 (ak x aU) a3) h) hd
theorem akg{v:ae}(a4:797)(hm:a97=56)(r:466)(hd:(x==598)=09:=by decide):bF X c42 (qC v):=f53 (xJ I a4 hm ⟨v,H,I,r,h⟩ hd)
variable{a b:dn}{tb:ct}
def Hg(X:dT)(op:CmpOp)(a b:dn)(t:ct):04:=r79 224 (24→t σ H Q→a9 47 X.A (405 a) (fun v ep=>a9 47 X.A (405 b) (fun u iu=>a9 47 X.A (jv op v u) 497 68 iu) 68 ep) 68 s)
theorem akh(b:dn)(h:op≠.In)(ak:op≠.NotIn):zY op b=09:=by
 have aK:(op==CmpOp.In)=09:=by cases op<;>first|rfl|rw[A64 h]
 have aG:(op==CmpOp.NotIn)=09:=by cases op<;>first|rfl|rw[A64 ak]
 rw[D61]
inductive Wh(Q:a57)(x:ae)(H1:av):04|mk:∀c,x=.bN c→Q c H1→Wh Q x H1
def aki(t:ct):j6:=262 (t σ H (291 (Wh Q x H1)))
theorem MT{t:ct}(h:Hg X op a b t)(af:zY op b=09:=by first|exact akh _ (by decide) (by decide)|rfl):mI X (k06 a [op] [b]) (aki t):=by rw[D55];refine akj (bY (h 07 s σ H _ I hw) (k87 (bY af (fun u s2 ak=>bY ak (fun c s3⟨x,H1,aX,bU,bg⟩=>?_))))) af;obtain⟨d,rfl,q⟩:=bg;cases bU;exact xK ⟨H1,aX,q⟩
variable{pD Hh:j6}{rest:439}
def akk(t u:j6):j6:=j47 H (39 c (u σ H1 Q) (Q 09 H1))
def akl(t u:j6):j6:=j47 H (39 c (Q 01 H1) (u σ H1 Q))
def akm(t:j6):j6:=j47 H (Q (! c) H1)
theorem xM(aN:mI X a pD):vt X (832 .And [a]) pD:=by
 rw[B94];refine isTrue_and (bY (aN 07 s σ H Q I h) (fun c s1 e=>?_))
 cases c with|true=>exact isTrue_and_nil e|false=>exact e
theorem rV(aN:mI X a pD):vt X (832 .Or [a]) pD:=by
 rw[B94];refine isTrue_or (bY (aN 07 s σ H Q I h) (fun c s1 e=>?_))
 cases c with|false=>exact isTrue_or_nil e|true=>exact e
theorem vu(aN:mI X a pD)(aa:vt X (832 .And 861) Hh):vt X (832 .And (a::861)) (akk pD Hh):=by
 rw[B94];refine isTrue_and (bY (aN 07 s σ H _ I h) (r78 ?_))
 cases c with|true=>exact aa C8 07 s1 σ H1 Q aX bg|false=>exact⟨H1,aX,bg⟩
theorem rW(aN:mI X a pD)(aa:vt X (832 .Or 861) Hh):vt X (832 .Or (a::861)) (akl pD Hh):=by
 rw[B94];refine isTrue_or (bY (aN 07 s σ H _ I h) (r78 ?_))
 cases c with|true=>exact⟨H1,aX,bg⟩|false=>exact aa C8 07 s1 σ H1 Q aX bg
theorem C9(aN:mI X a pD):mI X (.UnaryOp .Not a pos) (akm pD):=i14 (isTrue_not (aN 07 s σ H (fun c H1=>Q (! c) H1) I h))
inductive Wi(tb:ct)(σ:bq)(Q:aW)(x:ae)(H1:av):04|mk:∀c,x=.bN c→(39 c (tb σ H1 Q) (827 09 H1))→Wi tb σ Q x H1
def akn(bW tb:ct):ct:=262 (bW σ H (291 (Wi tb σ Q x H1)))
inductive Wj(tb:ct)(σ:bq)(Q:aW)(x:ae)(H1:av):04|mk:∀c,x=.bN c→(39 c (827 01 H1) (tb σ H1 Q))→Wj tb σ Q x H1
def ako(bW tb:ct):ct:=262 (bW σ H (291 (Wj tb σ Q x H1)))
inductive Wk(Q:aW)(x:ae)(H1:av):04|mk:∀c,x=.bN c→827 (! c) H1→Wk Q x H1
def akp(bW:ct):ct:=262 (bW σ H (291 (Wk Q x H1)))
theorem Wl{op:_}{t:ct}(h:bF X a t):bF X (832 op [a]) t:=r50 (BoolOp_one (h 07 s σ H Q I hw))
theorem akq(aN:658)(aa:945 (832 .And 861)):bF X (832 .And (a::861)) (akn bW tb):=by
 rw[A13];refine BoolOp_and (875 (aN 07 s σ H _ I h));rw[C69];cases bU;refine xK ?_
 cases c with|true=>exact aa 07 s1 σ H1 Q aX bg|false=>exact 128 09 H1 aX bg
theorem akr(aN:658)(aa:945 (832 .Or 861)):bF X (832 .Or (a::861)) (ako bW tb):=by
 rw[A13];refine BoolOp_or (875 (aN 07 s σ H _ I h));rw[C69];cases bU;refine xK ?_
 cases c with|false=>exact aa 07 s1 σ H1 Q aX bg|true=>exact 128 01 H1 aX bg
theorem Wn(aN:658):bF X (.UnaryOp .Not a pos) (akp bW):=by rw[A13];refine UnaryOp_ (875 (aN 07 s σ H _ I h));rw[C69];cases bU;exact not_of (xK (128 (! c) H1 aX bg))
def aks(t:j6)(bW tb:ct):ct:=j47 H (39 c (bW σ H1 Q) (tb σ H1 Q))
theorem pE{c:dn}(ar:mI X c pD)(aN:658)(aa:945 b):bF X (.IfExp c a b pos) (aks pD bW tb):=by
 rw[A13];refine wpAny_IfExp (bY (ar 07 s σ H _ I h) (r74 ?_))
 cases d with|true=>exact aN 07 s1 σ H1 Q aX bg|false=>exact aa 07 s1 σ H1 Q aX bg
end
def aJ(K:bo)(H:av)(a:ag)(xs:08):04:=tx H a (.lst xs)∨r77 323 (899=25∧781 901∧e51∧c07 (b15 a0)∧a0.size≤bc∧cc xs i03)
def dX(K:bo)(H:av)(a:ag)(xs:08):04:=tx H a (.tup xs)∨r77 323 (899=25∧781 748∧c07 (b15 a0)∧a0.size≤bc∧cc xs i03)
def akt:aH→93|.none=>some .b4|.bool b=>some a80|.int i _=>some 260|.str x _=>some 765|.bytes b _=>some (.lD b)|.float b _=>some (.G6 b)|.ref a=>248|.type n=>some (.ty n)|_=>00
theorem RelV.abs{x:ae}(r:685 x):akt u=43:=by cases x with|b4=>cases r;rfl|bN _=>cases r;rfl|int _=>rw[A53];rfl|str _=>rw[A53];rfl|lD _=>rw[A53];rfl|G6 _=>rw[A53];rfl|ref _=>cases r;rfl|ty _=>cases r;rfl
theorem RelV.inj{x y:ae}{u:aH}(r:685 x)(q:465):x=y:=cI (r.abs.symm.trans q.abs)
theorem cc.inj{xs ys:08}{us:53}(h:651)(k:594 ys):xs=ys:=by induction h generalizing ys with|nil=>cases k;rfl|cons r _ ih=>cases k with|cons q t=>rw[r.inj q,ih t]
section
variable{σ:bq}{s:aZ}
theorem aJ.of(h:H a=526):464:=.inl a64
theorem dX.of(h:H a=a93):956:=.inl a64
theorem aQ.list(I:24)(h:aJ X.K H a xs):∃a0:53,cc xs a0∧PlainL 28 a 275∧052:=by
 rcases h with h|⟨o,a0,n,aS,ar,hd,aL,hz,r⟩
 ·obtain⟨z,a0,n,r,e⟩:=h.ok 274;exact⟨a0,r,⟨_,n,e,rfl,rfl,rfl⟩,z⟩
 ·refine⟨i03,r,⟨o,n,I.gF a o aS,ar,hd,r76⟩,?_⟩;have e:=r.length;simp only[C_]at e;lia
theorem aQ.tuple(I:24)(h:dX X.K H a xs):∃a0:53,cc xs a0∧IsTup 28 a 275∧052:=by
 rcases h with h|⟨o,a0,n,aS,ar,aL,hz,r⟩
 ·obtain⟨z,a0,r,p⟩:=h.ok 274;exact⟨a0,r,p,z⟩
 ·refine⟨i03,r,⟨o,I.gF a o aS,ar,n,r76⟩,?_⟩;have e:=r.length;simp only[C_]at e;lia
theorem aQ.Hi(I:24)(h:aJ X.K H a xs)(h':aJ X.K H a ys):xs=ys:=by obtain⟨a0,r,⟨o,n,e,_,_,d⟩,_⟩:=678 h;obtain⟨its',dF,⟨dr,qE,bZ,_,_,d'⟩,_⟩:=678 h';rw[e]at bZ;cases bZ;rw[d]at d';injection d' with jW _;have:a0=its':=080 (109 Wo jW);rw[A88];exact r.inj dF
theorem aQ.aku(I:24)(h:dX X.K H a xs)(h':dX X.K H a ys):xs=ys:=by obtain⟨a0,r,⟨o,e,_,n,d⟩,_⟩:=b26 h;obtain⟨its',dF,⟨dr,bZ,_,qE,d'⟩,_⟩:=b26 h';rw[e]at bZ;cases bZ;rw[d]at d';injection d' with jW _;have:a0=its':=080 (109 Wo jW);rw[A88];exact r.inj dF
end
abbrev dT.mK(X:dT)(E:490):dT:={X with dC:=E}
abbrev dT.Hj(X:dT):dT:=X.mK 898
theorem dT.Ok.mK(ok:X.Ok)(E:490):(c30).Ok:=⟨ok.mod,ok.kind,ok.glob,ok.blt,ok.above,ok.inj,ok.has,ok.zV,ok.hd,ok.frames,ok.C4,ok.C5,ok.bs,ok.qA,ok.zW,ok.zX,ok.ow,ok.vn⟩
theorem dT.Ok.rX(ok:(c30).Ok):X.Ok:=⟨ok.mod,ok.kind,ok.glob,ok.blt,ok.above,ok.inj,ok.has,ok.zV,ok.hd,ok.frames,ok.C4,ok.C5,ok.bs,ok.qA,ok.zW,ok.zX,ok.ow,ok.vn⟩
section
variable{σ:bq}{s:aZ}
theorem aQ.mK(I:24)(E:490):aQ c30 07 σ H s:=⟨I.ok.mK E,I.os,579,f39,092,d19,741,I.iS,I.pin,274,b54⟩
theorem aQ.rX(I:aQ c30 07 σ H s):24:=⟨I.ok.rX,I.os,579,f39,092,d19,741,I.iS,I.pin,274,b54⟩
theorem tB.rX{D:lY}{f:Flow}{s':aZ}(h:tB c30 07 D f s'):tB X 07 D f s':=by cases f with|next=>rw[C68];exact⟨cb,H',I.rX,q⟩|brk=>rw[C68];exact⟨cb,H',I.rX,q⟩|cont=>rw[C68];exact⟨cb,H',I.rX,q⟩|ret u=>obtain⟨v,cb,H',I,r,q⟩:=h;exact⟨v,cb,H',I.rX,r,q⟩
theorem mJ.Hj{st:List bK}{t:gH}(h:mJ X.Hj st t):mJ X st t:=fun pins s σ H D I hw=>j_ (h 07 s σ H D (I.mK _) hw) (l39 q.rX) h08
end
section
variable{st:bK}{rest:List bK}{t u:gH}
def Wq:gH:=475 659
def Hk(t u:gH):gH:=475 (t {D with cz:=u D} σ H)
theorem b2:mJ X [] Wq:=l47 (Dc ⟨σ,H,I,h⟩)
theorem aF(af:iV X st t)(ak:mJ X 67 u):mJ X (st::67) (Hk t u):=by
 rw[A35];refine Wr (bY (af 07 s σ H {D with cz:=u D} I h) g51)
 cases f with|next=>obtain⟨cb,H',jV,q⟩:=q;exact ak 07 s1 cb H' D jV q|ret v=>exact q|brk=>exact q|cont=>exact q
theorem aM(af:iV X st t):mJ X [st] t:=by
 rw[A35];refine Wr (bY (af 07 s σ H D I h) g51)
 cases f with|next=>exact Dc q|ret v=>exact q|brk=>exact q|cont=>exact q
def akv:gH:=475 (D.eO σ H)
def akw:gH:=475 (D.ek σ H)
theorem akx:iV X (.Break pos) akv:=l47 (wpAny_Break ⟨σ,H,I,h⟩)
theorem Hl:iV X (.Continue pos) akw:=l47 (wpAny_Continue ⟨σ,H,I,h⟩)
theorem aQ.quiet{σ:bq}{s:aZ}(I:24):interactive 55=09:=by simp[interactive,I.ok.kind]
def aky(c7:ct):gH:=475 (c7 σ H (fun _ H1=>687 H1))
theorem fK(he:530)(aL:tD e 00 i10 55=911:=by rfl):iV X (.Expr e pos) (aky c7):=r75 (wpAny_Expr_any (b65 (he 07 s σ H _ I h) ⟨σ,H1,aX,bg⟩) I.quiet aL)
def Dd(c7:ct):gH:=475 (c7 σ H D.l7)
theorem bf(he:530):iV X (.Return (some e) pos) (Dd c7):=r75 (wpAny_Return_some (b65 (he 07 s σ H _ I h) ⟨x,σ,H1,aX,bU,bg⟩))
def akz:gH:=fun D _ H=>D.l7 .b4 H
theorem akA:iV X (.Return 00 pos) akz:=l47 (wpAny_Return_none ⟨.b4,σ,H,I,rfl,h⟩)
def Ws(c:j6)(t u:gH):gH:=475 (c σ H (fun b H1=>39 b (t D σ H1) (u D σ H1)))
theorem bX{c:dn}{a b:List bK}(ar:mI X c pF)(aN:mJ X a t)(aa:mJ X b u):iV X (.If c a b pos) (Ws pF t u):=by
 rw[A35];refine wpAny_If (bY (ar 07 s σ H _ I h) (r74 ?_))
 cases d with|true=>exact aN 07 s1 σ H1 D aX bg|false=>exact aa 07 s1 σ H1 D aX bg
end
abbrev iv:=ae→bq→637 (409)
abbrev xN:=08→bq→637 (409)
def rY(X:dT)(target:dn)(t:iv):04:=∀(pins:224)(s:aZ)(σ:bq)(H:av)(v:ae)(u:aH)(Q:409),24→466→t v σ H Q→a9 47 X.A (zZ i11 55 u) (f41 (f57 (aQ X 07 cb H' s'∧Q cb H'))) 68 s
def De(X:dT)(aD:439)(t:xN):04:=∀(pins:224)(s:aZ)(σ:bq)(H:av)(vs:08)(us:53)(Q:409),24→a92→t vs σ H Q→a9 47 X.A (assignInOrder (c09 (xO aD 55)) us) (f41 (f57 (aQ X 07 cb H' s'∧Q cb H'))) 68 s
abbrev Df:=ae→ae→ae→637 (856)
def MU(X:dT)(t:Df):04:=∀(pins:224)(s:aZ)(σ:bq)(H:av)(o i v:ae)(dA gV u:aH)(Q:856),24→RelV o dA→RelV i gV→466→t o i v H Q→a9 47 X.A (setItem dA gV u) (f41 (∃H',050∧Q H')) 68 s
abbrev Dg:=ae→935
def MV(X:dT)(op:Dh)(t:Dg):04:=r71 224 (24→719→465→t x y H Q→a9 47 X.A (inplaceOp op v u) 497 68 s)
def tE(i:Nat):iv:=fun v σ H Q=>Q j76 H
theorem cU(fs:X.N.Nodup)(hi:851=43)(ai:F5 628 x)(hf:c83=01∨b66=492:=by first|exact .inl rfl|exact .inr rfl|assumption):rY X c42 (tE i):=by intro pins s σ H v u Q I r h;exact 217 (C7 I fs hi ai r (fun s' jV=>⟨_,H,jV,h⟩) hf)
def akB:xN:=fun vs σ H Q=>vs=[]∧Q σ H
inductive Wt(t:iv)(u:xN)(vs:08)(σ:bq)(H:av)(Q:409):04|mk:∀v r,vs=v::r→(t v σ H (d17 (u r cb H' Q)))→Wt t u vs σ H Q
theorem tF:De X [] akB:=by intro pins s σ H vs us Q I r h;obtain⟨e,h⟩:=h;subst e;cases r;exact assignInOrder_nil ⟨σ,H,I,h⟩
theorem kX{aR:439}{t:iv}{u:xN}(af:rY X e t)(ak:De X aR u)(aL:c09 (xO (e::aR) 55)=zZ e 55::c09 g69:=by rfl):De X (e::aR) (Wt t u):=by
 rw[B50];obtain⟨v,aAW,aK,h⟩:=h;subst aK
 cases r with|cons r eV=>rw[aL];refine assignInOrder_cons (bY (af 07 s σ H _ _ _ I r h) (fun _ s1⟨z0,H1,aX,bg⟩=>?_));exact ak 07 s1 z0 H1 _ _ Q aX eV bg
inductive MW(K:bo)(n:Nat)(t:xN)(v:ae)(σ:bq)(H:av)(Q:409):04|mk:∀a xs,v=38→956→57=n→t xs σ H Q→MW K n t v σ H Q
theorem akC{aR:439}{k:Nat}{t:xN}(ar:394)(h:De X aR t)(aU:11 g69=n:=by rfl)(gq:(g69).findIdx? 379=00:=by rfl):rY X (.Tuple aR k pos) (MW X.K n t):=by intro pins s σ H v u Q I r hw;obtain⟨a,xs,aK,aw,ax,hw⟩:=hw;subst aK;cases r;obtain⟨a0,cV,bk,hz⟩:=b98;refine assign_Tuple_tuple 408 bk (by simp[aU,←ax,cV.length]) gq (fun h' ai=>?_);have aX:f70:=I.kept (t':=233) (351 (ai b o e22 e));exact h 07 _ σ H xs _ Q aX (by simpa using cV) hw
def akD(to g7:ct)(t:Df):iv:=fun v σ H Q=>to σ H (fun o H1=>g7 σ H1 (fun i aB=>t o i v aB (fun a5=>Q σ a5)))
theorem Wu{o i:dn}{t:Df}(a8:c76)(hi:bF X i g7)(aL:MU X t)(aN:∀v,zZ (a26 o i) 55 v=(do
 let dA←nz [v] (cE o X.env)
 let gV←nz [v,dA] (cE i X.env)
 xP pos
 nz [v,dA,gV] (setItem dA gV v)
 release [v,dA,gV] []):=by intro _;rfl):rY X (a26 o i) (akD to g7 t):=by intro pins s σ H v u Q I r h;rw[aN];rw[A99 (bY (a8 07 s σ H _ I h) (fun dA s1⟨x,H1,aX,bU,bg⟩=>?_))];rw[A99 (bY (hi 07 s1 σ H1 _ aX bg) (fun gV s2⟨y,aB,b5,cT,cf⟩=>?_))];rw[A00 (Hm (a7 (oz (bY (aL 07 s2 σ aB x y v dA gV u _ b5 bU cT r cf) (fun _ s3⟨a5,el,eC⟩=>?_)))))];exact wpAny_release ⟨σ,a5,el,eC⟩
def Hn(c7:ct)(g:iv):gH:=475 (c7 σ H (291 (g x σ H1 D.cz)))
theorem Wv{g:iv}(he:530)(a4:rY X eD g)(aL:swapsWithSole [eD] e i10 55=911:=by rfl)(hw:swappedStores [eD] e 55=520:=by rfl)(af:c09 (xO [eD] 55)=[zZ eD 55]:=by rfl):iV X (d93 [eD] e) (Hn c7 g):=by rw[A35];refine wpAny_Assign_stores (875 (he 07 s σ H _ I h)) aL hw;rw[af];exact bY (a4 07 s1 σ H1 x v _ aX bU bg) (fun _ s2 q=>q)
theorem bL(fs:X.N.Nodup)(hi:851=43)(ai:F5 628 x)(he:530)(aL:g88 e (.Name x pos')=911:=by rfl)(hf:c83=01∨b66=492:=by first|exact .inl rfl|exact .inr rfl|assumption):iV X (d93 [.Name x pos'] e) (Hn c7 (tE i)):=by rw[A35];refine wpAny_Assign_Name (bY (he 07 s σ H _ I h) (fun v s1⟨y,H1,aX,bU,bg⟩=>?_)) aL;exact C7 aX fs hi ai bU (fun s2 b5=>⟨_,H1,b5,bg⟩) hf
def akE(i:Nat)(c7:ct)(g7:Dg):gH:=475 (∃x,c89=454 x∧c7 σ H (d18 (g7 x y H1 (fun z aB=>D.cz (σ.set i 415) aB))))
theorem Di{op:Dh}{g7:Dg}(fs:X.N.Nodup)(hi:851=43)(ai:F5 628 x)(he:530)(a8:MV X op g7)(hf:c83=01∨b66=492:=by first|exact .inl rfl|exact .inr rfl|assumption):iV X (.AugAssign (.Name x pos') op e pos) (akE i c7 g7):=by
 rw[A35];obtain⟨v,aK,h⟩:=h;rw[B90];have akF:zU 628 x:=by rcases ai with k|k;exact 172;exact .inr 172
 rw[C67 (ax i x v hi aK akF)];refine wpAny_AugAssign_Name ?_;have go:a9 47 X.A 689 (fun w iu=>a9 47 X.A (inplaceOp op u w) (fun r vv=>a9 47 X.A (n24 x r) (290 (tB X 07 D .next)) 68 vv) 68 iu) 68 s:=by refine bY (he 07 s σ H _ I h) (fun w s1⟨y,H1,aX,bU,bg⟩=>?_);refine bY (a8 07 s1 σ H1 v y u w _ aX r bU bg) (fun z s2⟨aAX,aB,b5,cT,cf⟩=>?_);exact C7 b5 fs hi ai cT (f38 ⟨_,aB,el,cf⟩) hf
 rw[D66]
 ·exact akd 093 aS aU hm go
 ·rcases aS with aS|aS
  ·exact ake 093 aS ar Hf go
  ·rcases ai with k|k
   ·have:b66=779:=aS;rw[k]at this;rw[A47]
   ·have:b66=779:=aS;rw[k]at this;rw[A47]
def akG(to g7 c7:ct)(MX:ae→935)(Ho:Dg)(Hp:Df):gH:=475 (to σ H (fun o H1=>g7 σ H1 (fun i aB=>MX o i aB (fun x a5=>c7 σ a5 (fun y bP=>Ho x y bP (fun z de=>Hp o i z de (fun ft=>687 ft)))))))
def Ww(X:dT)(t:ae→935):04:=∀(pins:224)(s:aZ)(σ:bq)(H:av)(o i:ae)(dA gV:aH)(Q:aW),24→RelV o dA→RelV i gV→t o i H Q→a9 47 X.A (z1 dA gV) 497 68 s
theorem akH{o i:dn}{Ho:Dg}{Hp:Df}{op:Dh}(a8:c76)(hi:bF X i g7)(a4:Ww X MX)(he:530)(au:MV X op Ho)(aL:MU X Hp)(aN:∀dA gV new,augStore i dA gV new=(do
 nz [new,dA,gV] (setItem dA gV new)
 release [new,dA,gV] []
 pure .next):=by intros;rfl):iV X (.AugAssign (.Subscript o i tc) op e pos) (akG to g7 c7 MX Ho Hp):=by rw[A35];refine wpAny_AugAssign_SubscriptAny (bY (a8 07 s σ H _ I h) (fun dA s1⟨gr,H1,aX,bU,bg⟩=>?_)) aN;refine bY (hi 07 s1 σ H1 _ aX bg) (fun gV s2⟨gd,aB,b5,cT,cf⟩=>?_);refine bY (a4 07 s2 σ aB gr gd dA gV _ b5 bU cT cf) (fun old s3⟨mD,a5,el,h2,eC⟩=>?_);refine bY (he 07 s3 σ a5 _ el eC) (fun v s4⟨pj,bP,jw,i7,fz⟩=>?_);refine bY (au 07 s4 σ bP mD pj old v _ jw h2 i7 fz) (fun new s5⟨pk,de,nA,iw,qF⟩=>?_);exact bY (aL 07 s5 σ de gr gd pk dA gV new _ nA bU cT iw qF) (fun _ cW⟨ft,pG,rZ⟩=>⟨σ,ft,pG,rZ⟩)
inductive Wx(f:Int→e93)(x:ae)(y:ae)(H:av)(Q:aW):04|mk:∀i j,x=260→y=859→662 (f i j)→Wx f x y H Q
theorem z2:MV X .Add (Wx (h94 (i+j))):=by intro pins s σ H x y v u Q I bU cT h;obtain⟨i,j,aK,aG,q⟩:=h;subst aK;subst aG;rw[B86];obtain⟨t',rfl⟩:=cT;exact akI ⟨.int _,H,279,282,q⟩
variable{tb:gH}
def Wy(c:j6)(tb:gH):gH:=475 (∃W:647,(∃m,W m σ H)∧∀m σ H,W m σ H→c σ H (fun b H1=>39 b (∃N:409,n26 (N cb H'→∃eg,eg<m∧W eg cb H')∧a11 σ H1) (687 H1)))
theorem tG{c:dn}(au:PassesOwn 47 X.A 55 68)(ar:mI X c pF)(aa:mJ X body tb):iV X (.While c body [] pos) (Wy pF tb):=by
 rw[A35];obtain⟨W,⟨m0,z3⟩,turn⟩:=h;refine wpAny_While (codeAny_whileLoop (fun n s'=>f57 (aQ X 07 cb H' s'∧W n cb H')) ?_ m0 ⟨σ,H,I,z3⟩);rintro n s1⟨z0,H1,aX,mG⟩;refine z4 au (bY (ar 07 s1 z0 H1 _ aX (turn n z0 H1 mG)) (fun b s2⟨aB,b5,cf⟩=>?_))
 cases b with
  |true=>
   obtain⟨N,fs,cf⟩:=cf;rw[101];refine z4 au (bY (aa 07 s2 z0 aB _ b5 cf) (fun f s3 eC=>?_))
   cases f with|next=>rw[D65];obtain⟨eg,hm,mH⟩:=fs qG a5 iX;exact⟨eg,hm,qG,a5,el,mH⟩|cont=>rw[D65];obtain⟨eg,hm,mH⟩:=fs qG a5 iX;exact⟨eg,hm,qG,a5,el,mH⟩|brk=>exact eC|ret v=>exact eC
  |false=>rw[23 hB];exact Dc ⟨z0,aB,b5,cf⟩
structure ix where
 go:599
 mL:240 (av→546 ae)
 stop:599
def pH(X:dT)(pins:224)(H:av)(b:ag):04:=H b=00∧053∧b∉680∧(b∈X.ex∨a07≤b)∧(894 (632=73→c≠b))∧∀p∈X.iQ++07,p.1≠b
theorem aQ.xQ{σ:bq}{s:aZ}(I:24)(aa:18≤b)(aU:244=00):pH X 07 H' b:=by
 refine⟨aU,lF (jN I.lt aa),I.aj5 aa,.inr (cX I.qB aa),fun x c e z=>?_,fun p au z=>?_⟩
 ·obtain⟨v,q⟩:=c46 x e;rw[A62 (jN q.lt r73) _]
 ·rw[A62 (jN (dm (I.pin p au).1) r73) _]
structure Turn(P:f3)(w:ff)(K:bo)(eD:dn)(fu:ix)(df:27)(it:ag)(h3:Nat→92 dk):04 where
 mem:it∈df
 obj:∀i h,h3 i h→432 (∃o,319=25∧∀v,o.data≠.cell v)
 keep:∀i h h',h3 i h→(432 (∀o,319=25→219=25))→h3 i h'
 item:∀(X:dT),61=P→X.w=w→X.K=K→394→r72 224 490 (24→(432 (pH X 07 H b))→h3 i 28→fu.go i H→a9 289 X.A (nB 760) (fun r s1=>∃u,r=56∧a9 289 X.A (MY eD 760 u) (fun _ s2=>∃x H',aQ X 07 σ H' s2∧685 x∧fu.mL i H x H'∧h3 (i+1) k97∧432 (244=00)) E s1) E s)
 done:∀(X:dT),61=P→X.w=w→X.K=K→394→r72 224 490 (24→(432 (pH X 07 H b))→h3 i 28→fu.stop i H→a9 289 X.A (nB 760) (fun r s1=>r=00∧aQ X 07 σ H s1) E s)
 self:∀(A:rT)(i:Nat)(s:aZ)(Q:490)(E:490),h3 i 28→515 it s→a9 289 A (vw 760) Q E s
abbrev TI:=bq→637 (652)
inductive Dj(X:dT)(pins:224)(σ:bq)(eD:dn)(R:652)(Hq:aH)(s2:aZ):04|mk:∀(it:ag)(df:27)(h3:Nat→92 dk)(fu:ix)(H':av),Hq=760→aQ X 07 σ H' s2→Turn 61 X.w X.K eD fu df it h3→h3 0 k97→(432 (pH X 07 H' b))→R fu H'→Dj X 07 σ eD R Hq s2
def lG(X:dT)(eD iter:dn)(hL:TI):04:=∀(pins:224)(s:aZ)(σ:bq)(H:av)(R:652),24→hL σ H R→a9 47 X.A (405 819) (h78 (a9 47 X.A (vw v) (Dj X 07 σ eD R) 68 s1)) 68 s
theorem z5{s:aZ}{n:String}{vs:323}{Q:592}(a8:586 it)(ar:781 (401 n))(hd:777)(aU:[893,380,p09,p08,p07,p06,p05].contains n=09)(g6:Q () s):a9 M A (MY eD 760 u) Q E s:=by unfold MY;cases eD<;>first|exact cx g6|(cases u<;>first|exact cx g6|(rw[A00 (wpAny_load a8 ?_)];rw[ar,hd];show a9 M A (616 ([893,380,p09,p08,p07,p06,p05].contains n&&vs[0]?==some (hM _))) Q E s;rw[23 (by intro h;rw[aU,zu]at h;cases h)];exact cx g6))
def vx(K:bo)(a:ag):ix:=g53 (987 (∃xs x,464∧441=43)) (H'=H∧∀xs,464→441=43) (987 (∃xs,464∧57≤i))
def vy(K:bo)(a:ag):ix:=g53 (987 (∃xs x,956∧441=43)) (H'=H∧∀xs,956→441=43) (987 (∃xs,956∧57≤i))
def r1(lo:Int)(n:Nat):ix:=g53 (a04 (i<n)) (H'=H∧x=.int (lo+i)) (a04 (n≤i))
theorem akJ(a it:ag):Turn P w K eD (vx K a) [it] it (619 (j44 it a))where
 mem:=19
 obj:=d26 (by have e:b=it:=120;subst e;obtain⟨o,e,c,d⟩:=st;exact⟨o,e,l75⟩)
 keep:=l98 (878 (k it 19 o e))
 item:=by rw[A43];rw[A42];rw[C57];rw[B60 aw];rw[B37 ai];rw[A51];refine akK st d25 (x:=u) h76 j59;have aX:f70:=I.turned (t':=233) (537 (385 b aa e)) f0 f1 e9 f4 fR;obtain⟨o,e,c,d⟩:=id kx;rw[A44 u (z5 (s:=538) e c d 14 ⟨x,H,aX,gR,119 (l92 (I.Hi aC aw)),kx,e83⟩)]
 done:=by rw[A43];rw[A42];rw[C56];rw[B60 aw];rw[A51];rw[C55];exact akL 408 st d25 b46 (a32 (I.turned (t':=233) (537 (eG b o aa e)) f0 f1 e9 f4 fR))
 self:=p34 (wpAny_pyIter_listiter st h)
theorem akM(a it:ag):Turn P w K eD (vy K a) [it] it (619 (h.IsTupleIter it a i))where
 mem:=19
 obj:=d26 (by have e:b=it:=120;subst e;obtain⟨o,e,c,d⟩:=st;exact⟨o,e,l75⟩)
 keep:=l98 (878 (k it 19 o e))
 item:=by rw[A43];rw[A42];rw[C57];rw[B57 b98];rw[B37 ai];rw[A51];refine wpAny_pyNext_tuple_item st (p33 (s.heap.IsTuple a 275)) (x:=u) h76 j59;have aX:f70:=I.turned (t':=233) (537 (385 b aa e)) f0 f1 e9 f4 fR;obtain⟨o,e,c,d⟩:=id kx;rw[A44 u (z5 (s:=538) e c d 14 ⟨x,H,aX,gR,119 (l92 (I.aku aC aw)),kx,e83⟩)]
 done:=by rw[A43];rw[A42];rw[C56];rw[B57 b98];rw[A51];rw[C55];exact wpAny_pyNext_tuple_end 408 st (p33 (s.heap.IsTuple a 275)) b46 (a32 (I.turned (t':=233) (537 (eG b o aa e)) f0 f1 e9 f4 fR))
 self:=p34 (wpAny_pyIter_tupleiter st h)
theorem akN(it:ag)(lo:Int)(n:Nat):Turn P w K eD (r1 lo n) [it] it (619 (MZ h it (lo+(i:Nat)*1) (44-(i:Nat)) 1))where
 mem:=19
 obj:=d26 (r43 (b=it) 120 ⟨_,st,l33 (by have j9:Data.fields _=Data.cell v:=z;cases j9)⟩)
 keep:=f52 (k it 19 _ st)
 item:=by rw[A43];rw[A42];rw[A51];have W:=Walks.range (prog:=61) (w:=X.w) 408 it lo 1 n;refine W.item i s _ _ a4 st m47;obtain⟨t,rfl⟩:=a3;have aX:l72:=I.turned (537 (b0 b o 120 e)) f0 f1 e9 f4 fR;refine 123 (z5 (s:=620) (n:=r42) kx rfl rfl 14 ⟨.int (lo+i),H,aX,328 t,149,kx,e83⟩);rw[Int.mul_one]
 done:=by rw[A43];rw[A42];rw[A51];exact akO 408 st (by have:n≤i:=a4;lia) (a32 (I.turned (t':=233) (537 (eG b o aa e)) f0 f1 e9 f4 fR))
 self:=p34 (akP st h)
inductive Wz(K:bo)(R:652)(x:ae)(H1:av):04|mk:∀a,x=38→(∃xs,aJ K H1 a xs)→R (vx K a) H1→Wz K R x H1
def Hr(K:bo)(c5:ct):TI:=a03 (c5 σ H (291 (Wz K R x H1)))
inductive WA(K:bo)(R:652)(x:ae)(H1:av):04|mk:∀a,x=38→(∃xs,dX K H1 a xs)→R (vy K a) H1→WA K R x H1
def WB(K:bo)(c5:ct):TI:=a03 (c5 σ H (291 (WA K R x H1)))
theorem akQ{l:dn}{c5:ct}(ax:bF X l c5):lG X eD l (Hr X.K c5):=by rw[A83];refine 875 (ax 07 s σ H _ I h);rw[D64];subst e;cases bU;rw[B57 j64];refine M0 d25 ?_;refine⟨227,[227],_,_,H1,rfl,d47 (903 _ e),akJ a _,b14,773,q⟩;have e:b=227:=120;subst e;exact aX.xQ 64 d55
theorem akR{l:dn}{c5:ct}(ax:bF X l c5):lG X eD l (WB X.K c5):=by rw[A83];refine 875 (ax 07 s σ H _ I h);rw[D64];subst e;cases bU;rw[B57 (aX.tuple aw)];refine wpAny_pyIter_tuple (p33 (s1.heap.IsTuple a 275)) ?_;refine⟨227,[227],_,_,H1,rfl,d47 (903 _ e),akM a _,b14,773,q⟩;have e:b=227:=120;subst e;exact aX.xQ 64 d55
theorem WC{σ:bq}{s:aZ}{R:652}{lo hi:Int}{t u v:Tok}{tk:Nat}(I:24)(af:-(2^469)≤lo)(ak:lo<2^469)(a6:-(2^469)≤hi)(bH:hi<2^469)(q:R (r1 lo (271 (hi-lo))) H):a9 47 X.A (vw 277) (Dj X 07 σ eD R) E (p11 (581 (514 510 (504 #[.int lo t,785 hi,.int 1 v])))):=by
 refine wpAny_pyIter_range (akS ..) (small_one af ak a6 bH) ?_;have aX:aQ X 07 σ H (p11 (581 (514 510 (504 #[.int lo t,785 hi,.int 1 v])))):=I.kept (903 _ e);refine⟨424 (581 (514 510 (504 #[.int lo t,785 hi,.int 1 v]))),[424 (581 (514 510 (504 #[.int lo t,785 hi,.int 1 v])))],_,_,H,rfl,aX.kept (t':=tk) (903 _ e),akN _ lo (271 (hi-lo)),?_,773,q⟩
 ·have aK:lo+52 0*1=lo:=19;have aG:52 (271 (hi-lo))-52 0=z6 lo hi 1:=by rw[rangeSize_one];split<;>lia
  show MZ _ _ (lo+52 0*1) (52 (271 (hi-lo))-52 0) 1;rw[aK,aG];exact 111
 ·have e:b=424 (581 (514 510 (504 #[.int lo t,785 hi,.int 1 v]))):=120;subst e;exact aX.xQ 64 d55
inductive WD(R:652)(vs:08)(H1:av):04|mk:∀j:Int,vs=[859]→-(2^469)≤j→j<2^469→R (r1 0 j.toNat) H1→WD R vs H1
def akT(bW:fG):TI:=a03 (bW σ H (728 (WD R vs H1)))
inductive WE(R:652)(vs:08)(H1:av):04|mk:∀i j:Int,vs=[260,859]→(-(2^469)≤i∧i<2^469∧-(2^469)≤j∧j<2^469)→R (r1 i (271 (j-i))) H1→WE R vs H1
def WG(bW:fG):TI:=a03 (bW σ H (728 (WE R vs H1)))
theorem xR{a:dn}{bW:fG}{p:Pos}(a4:h1 X 510)(hm:n23=00)(aN:hZ X [a] bW)(aL:406 [a]=[013 a]:=by rfl):lG X eD (.Call (.Name 510 p) [a] [] pos) (akT bW):=by
 rw[A83];rw[B00 (qD I a4 hm xS (tH (988 (aN pos 07 s σ H _ I h) ?_) aL rfl))];obtain⟨j,e,bg,cf,q⟩:=bg;subst e
 cases bU with|cons r eV=>cases eV;rw[A53];exact call_range_1 (WC aX 03 03 bg cf q30)
theorem M1{a b:dn}{bW:fG}{p:Pos}(a4:h1 X 510)(hm:n23=00)(aN:hZ X [a,b] bW)(aL:406 [a,b]=[013 a,013 b]:=by rfl)(jx:406 [b]=[013 b]:=by rfl):lG X eD (.Call (.Name 510 p) [a,b] [] pos) (WG bW):=by
 rw[A83];rw[B00 (qD I a4 hm xS (tH (988 (aN pos 07 s σ H _ I h) ?_) (by rw[aL,jx]) n68))];obtain⟨i,j,e,⟨bg,cf,eC,fz⟩,q⟩:=bg;subst e
 cases bU with|cons r eV=>cases eV with|cons dF eV=>cases eV;rw[A53];rw[D44];exact call_range_2 (WC aX bg cf eC fz q)
def akU(hL:TI)(g:iv)(tb:gH):gH:=475 (hL σ H (fun fu H1=>∃W:240 647,(∃m,W 0 m σ H1)∧∀i m σ H,W i m σ H→(fu.stop i H∧659)∨(fu.go i H∧∃N:409,e99 (N cb H'→∃eg,eg<m∧W (i+1) eg cb H') (fu.mL i H x H'→g x σ H' (fun c6 aB=>a11 c6 aB)))))
def Dk(df:27)(h:dk):224:=df.filterMap (507 ((319).map (737 (b,o))))
theorem M3(aa:b∈df)(e:319=25):(b,o)∈Dk df h:=Gq.mpr ⟨b,aa,f34⟩
theorem akV{p:ag×Obj}(au:p∈Dk df h):p.1∈df∧654 p.1 p.2:=by
 obtain⟨b,aa,e⟩:=Gq.mp au
 cases q:319 with|none=>rw[q]at e;cases e|some o=>rw[q]at e;have bZ:(b,o)=p:=cI e;subst bZ;exact⟨aa,q⟩
theorem aQ.pinned{σ:bq}{s:aZ}(I:24)(hf:432 (pH X 07 H b))(a8:432 (∃o,346∧∀v,o.data≠.cell v)):aQ X (07++Dk df 28) σ H s:=I.Wb (367 ((362 au).elim (16 (I.pin p (vz _ z))) (16 (by obtain⟨aa,e⟩:=akV z;obtain⟨f0,f1,f2,_⟩:=hf p.1 aa;obtain⟨o,bZ,d⟩:=a8 p.1 aa;rw[e]at bZ;cases bZ;exact⟨e,f0,f1,f2,d⟩))))
theorem aQ.Hs{pl:224}{σ:bq}{s:aZ}(I:aQ X (07++pl) σ H s):24:=I.Wb (367 (I.pin p (vz _ (Hc _ au))))
theorem e_{hL:TI}{g:iv}(au:PassesOwn 47 X.A 55 68)(ar:394)(hi:lG X eD 819 hL)(a4:rY X eD g)(aa:mJ X body tb)(aL:∀x,M4 819 55 x=pure x:=by intro _;rfl):iV X (.For eD 819 body [] pos) (akU hL g tb):=by
 rw[A35];refine wpAny_For (bY (hi 07 s σ H _ I h) (k87 (bY af (fun Hq s2 ak=>?_)))) aL;obtain⟨it,df,h3,fu,aB,e,b5,T,z7,f2,W,⟨m0,z3⟩,turn⟩:=ak;subst e;have xT:∀{H':av},(432 (244=00))→432 (pH X 07 H' b):=fun aU b aa=>⟨aU b aa,(f2 b aa).2⟩;refine codeAny_forLoop_any (fun n s'=>∃i cb H',aQ X 07 cb H' s'∧h3 i 543∧(432 (244=00))∧W i n cb H') ?_ m0 ⟨0,σ,aB,b5,z7,350 (f2 b aa).1,z3⟩;rintro n s3⟨i,qG,a5,el,Ht,WH,mH⟩;rcases turn i n qG a5 mH with⟨stop,akW⟩|⟨go,N,fs,step⟩
 ·refine z4 au (bY (T.done X rfl rfl rfl ar i 07 s3 qG a5 68 el (xT WH) Ht stop) (fun r s4⟨aq,jw⟩=>?_));subst aq;exact Dc ⟨qG,a5,jw,akW⟩
 ·refine z4 au (bY (T.item X rfl rfl rfl ar i 07 s3 qG a5 68 el (xT WH) Ht go) (fun r s4⟨u,aq,bH⟩=>?_));subst aq;refine z4 au (bY bH (fun _ s5⟨x,de,nA,iw,akX,z8,akY⟩=>?_));have akZ:=nA.pinned (xT akY) (T.obj _ _ z8);refine z4 au (bY (a4 _ s5 qG de x u _ akZ iw (step x de akX)) (fun _ cW⟨ak0,ft,pG,rZ⟩=>?_));refine z4 au (bY (aa _ cW ak0 ft _ pG rZ) (fun f e1 nC=>?_));have again:∀{pI:bq}{gS:av},aQ X (07++Dk df s5.heap) pI gS e1→N pI gS→∃m,m<n∧∃i cb H',aQ X 07 cb H' e1∧h3 i e1.heap∧(432 (244=00))∧W i m cb H':=fun{pI gS:_}kY xU=>by obtain⟨eg,hm,ak1⟩:=fs pI gS xU;refine⟨eg,hm,i+1,pI,gS,kY.Hs,T.keep _ _ _ z8 (512 (kY.pin (b,o) (vz _ (vz _ (M3 aa e)))).1),773,ak1⟩;obtain⟨o,e,d⟩:=T.obj _ _ z8 b aa;exact(kY.pin (b,o) (vz _ (vz _ (M3 aa e)))).2.1
  cases f with|next=>rw[D63];exact again kY xU|cont=>rw[D63];exact again kY xU|brk=>obtain⟨pI,gS,kY,nC⟩:=nC;exact⟨pI,gS,kY.Hs,nC⟩|ret v=>obtain⟨U9,pI,gS,kY,M5,nC⟩:=nC;exact⟨U9,pI,gS,kY.Hs,M5,nC⟩
theorem hN{g:iv}{D:lY}{σ:bq}(Pv:647)(h0:Pv 0 σ H)(ax:h28 (759 i→560→464))(aL:∀i x σ H,441=43→560→g x σ H (fun c6 aB=>b67 361 361 c6 aB))(hd:c73 m68 659):∃W:240 647,(∃m,W 0 m σ H)∧∀i m σ H,W i m σ H→(800 (vx K a)∧659)∨((vx K a).go i H∧∃N:409,e99 (N cb H'→∃eg,eg<m∧W (i+1) eg cb H') ((vx K a).mL i H x H'→g x σ H' (fun c6 aB=>a11 c6 aB))):=by
 rw[B09 (m=57-i∧759 i∧560) ⟨57,19,229,h0⟩];rw[B18];have q:=ax i σ H hi p;rw[B42 i]
 ·refine .inr ⟨j02 xs xs[i] q,361,j11 (57-(i+1)) rfl cM ky,c14⟩;rw[B26];subst e;exact aL i x σ _ (y xs q) p
 ·rw[B43 i];subst e;rw[A23 ⟨xs,q,64⟩ (hd σ H p)]
theorem M6{g:iv}{D:lY}{σ:bq}(Pv:647)(h0:Pv 0 σ H)(ax:h28 (759 i→560→956))(aL:∀i x σ H,441=43→560→g x σ H (fun c6 aB=>b67 361 361 c6 aB))(hd:c73 m68 659):∃W:240 647,(∃m,W 0 m σ H)∧∀i m σ H,W i m σ H→(800 (vy K a)∧659)∨((vy K a).go i H∧∃N:409,e99 (N cb H'→∃eg,eg<m∧W (i+1) eg cb H') ((vy K a).mL i H x H'→g x σ H' (fun c6 aB=>a11 c6 aB))):=by
 rw[B09 (m=57-i∧759 i∧560) ⟨57,19,229,h0⟩];rw[B18];have q:=ax i σ H hi p;rw[B42 i]
 ·refine .inr ⟨j02 xs xs[i] q,361,j11 (57-(i+1)) rfl cM ky,c14⟩;rw[B26];subst e;exact aL i x σ _ (y xs q) p
 ·rw[B43 i];subst e;rw[A23 ⟨xs,q,64⟩ (hd σ H p)]
theorem xV{lo:Int}{g:iv}{D:lY}{σ:bq}(Pv:647)(h0:Pv 0 σ H)(aL:h28 (i<n→560→g (.int (lo+i)) σ H (fun c6 aB=>b67 361 361 c6 aB)))(hd:c73 (Pv n σ H) 659):∃W:240 647,(∃m,W 0 m σ H)∧∀i m σ H,W i m σ H→(800 (r1 lo n)∧659)∨((r1 lo n).go i H∧∃N:409,e99 (N cb H'→∃eg,eg<m∧W (i+1) eg cb H') ((r1 lo n).mL i H x H'→g x σ H' (fun c6 aB=>a11 c6 aB))):=by
 rw[B09 (m=n-i∧i≤n∧560) ⟨n,19,229,h0⟩];rw[B18];by_cases cM:i<n
 ·refine .inr ⟨cM,361,j11 (n-(i+1)) rfl cM ky,c14⟩;rw[B26];subst e y;exact aL i σ _ cM p
 ·rw[A50 (i=n)];subst e;rw[A23 64 (hd σ H p)]
theorem M7{c:j6}{D:lY}{σ:bq}(Pv:409)(Dl:bq→av→Nat)(h0:Pv σ H)(aL:c73 (Pv σ H) (c σ H (fun b H1=>39 b (b67 (d17 (Pv cb H'∧Dl cb H'<Dl σ H)) (d17 (Pv cb H'∧Dl cb H'<Dl σ H)) σ H1) (687 H1))))(mono:∀σ H Q tC,(∀b H1,Q b H1→tC b H1)→c σ H Q→c σ H tC):Wy c tb D σ H:=by
 rw[A20 (fun m σ H=>m=Dl σ H∧Pv σ H) (123 h0)];rintro m σ H⟨rfl,p⟩;refine mono σ H _ _ (fun b H1 q=>?_) (aL σ H p)
 cases b with|true=>exact⟨_,fun cb H'⟨ky,l⟩=>⟨_,l,rfl,ky⟩,q⟩|false=>exact q
abbrev r2:=ae→935
def gs(X:dT)(f:aH→aH→054)(r:r2):04:=r71 224 (24→719→465→r x y H Q→a9 47 X.A (f v u) 497 68 s)
def M8(X:dT)(f:aH→054)(r:935):04:=∀(pins:224)(s:aZ)(σ:bq)(H:av)(x:ae)(v:aH)(Q:aW),24→719→r x H Q→a9 47 X.A (f v) 497 68 s
def iy(X:dT)(f:aH)(r:928):04:=∀(pins:224)(s:aZ)(σ:bq)(H:av)(xs:08)(us:53)(Q:aW),24→651→r xs H Q→a9 47 X.A (kZ f us) 497 68 s
def ak2(X:dT)(r:ae→637 (a57)):04:=∀(pins:224)(s:aZ)(σ:bq)(H:av)(x:ae)(v:aH)(Q:a57),24→719→r x H Q→a9 47 X.A (truthy v) (He X 07 σ Q) 68 s
def r3(r:r2)(bW tb:ct):ct:=262 (bW σ H (291 (tb σ H1 (891 (r x y aB Q)))))
def ak3(r:935)(bW:ct):ct:=262 (bW σ H (291 (r x H1 Q)))
inductive vA(C:Int→92 Int)(g:Int→Int→ae)(x:ae)(y:ae)(H:av)(Q:aW):04|mk:∀i j,x=260→y=859→C i j→Q (g i j) H→vA C g x y H Q
inductive r4(g:Int→Int→ae)(x:ae)(y:ae)(H:av)(Q:aW):04|mk:∀i j,x=260→y=859→Q (g i j) H→r4 g x y H Q
inductive M9(g:Int→ae)(x:ae)(H:av)(Q:aW):04|mk:∀i,x=260→Q (g i) H→M9 g x H Q
section
variable{a b c:dn}{tb pF:ct}
theorem M_(aN:658)(aa:945 b){s:aZ}{σ:bq}{R:ae→546 ae}(I:24)(h:bW σ H (291 (tb σ H1 (891 (R x y aB))))){f:aH→aH→054}(hf:∀v u s2 x y aB,aQ X 07 σ aB s2→719→465→R x y aB→a9 47 X.A (f v u) Q 68 s2):a9 47 X.A (405 a) (fun v ep=>a9 47 X.A (405 b) (fun u iu=>a9 47 X.A (f v u) Q 68 iu) 68 ep) 68 s:=by refine 875 (aN 07 s σ H _ I h);refine f64 (aa 07 s1 σ H1 _ aX bg) ?_;exact hf v u s2 x y aB b5 bU cT cf
theorem eu{op:Dh}{r:r2}(a8:gs X (r5 op) r)(aN:658)(aa:945 b):bF X (.BinOp a op b pos) (r3 r bW tb):=i14 (wpAny_BinOp (M_ aN aa I h (p28 (a8 07 s2 σ aB x y v u Q b5 bw bQ q))))
theorem Na{op:UnaryOp}{r:935}(a8:M8 X (unaryOp op) r)(aN:658):bF X (.UnaryOp op a pos) (ak3 r bW):=i14 (UnaryOp_ (b65 (aN 07 s σ H _ I h) (a8 07 s1 σ H1 x v Q aX bU bg)))
theorem Dm{f:aH→aH→054}{C:Int→92 Int}{g:Int→e93}(rule:l71 490 (C i j→Q (g38 (g i j)) c70→a9 47 X.A (f 706 (785 j)) Q E s)):gs X f (e76 C (g i j)):=by rw[A45];obtain⟨i,j,rfl,rfl,ar,q⟩:=h;rw[A12];rw[A19];exact rule i j t t' s _ _ ar ⟨.int (g i j),H,279,282,q⟩
theorem WI{f:aH→aH→054}{g:Int→e93}(rule:l71 490 (Q (g38 (g i j)) c70→a9 47 X.A (f 706 (785 j)) Q E s)):gs X f (r4 (i31 (g i j))):=by rw[A45];rw[D62];rw[A12];rw[A19];exact rule i j t t' s _ _ ⟨.int (g i j),H,279,282,q⟩
theorem Hu{f:aH→aH→054}{g:Int→482 Int}(rule:l71 490 (Q (.bool (g i j)) s→a9 47 X.A (f 706 (785 j)) Q E s)):gs X f (g66 (g i j)):=by rw[A45];rw[D62];rw[A12];rw[A19];exact rule i j t t' s _ _ (128 (g i j) H I q)
def ak4(i j:Int):04:=0<j∧j<p10
def Hv(i j:Int):04:=(-(2^402)<i∧i<2^402)∨(-(2^402)<j∧j<2^402)
theorem Hv.ok{i j:Int}(h:Hv i j):IntMulOk i j:=by
 rcases h with⟨af,ak⟩|⟨af,ak⟩
 ·exact .of_left (intBits_le_64 af ak)
 ·exact .of_right (intBits_le_64 af ak)
theorem qH:gs X (r5 .Add) (r4 (i31 (i+j))):=WI (p32 (add_int q))
theorem r6:gs X (r5 .Sub) (r4 (i31 (i-j))):=WI (p32 (sub_int q))
theorem vB:gs X (r5 .Mult) (e76 Hv (i*j)):=Dm (r19 (mul_int q ar.ok))
theorem aAY:gs X (r5 o98) (e76 ak4 (i/j)):=l85 (by have af:413<j:=ar.1;have ak:j<p10:=ar.2;exact WJ 03 (b59 (ak5 i 03)) (.inl (ak6 03)))
theorem Hw:gs X (r5 .Mod) (e76 (fun _ j=>0<j) (i%j)):=l85 (by have af:413<j:=ar;exact mod_int' 03 (b59 (Int.fmod_eq_emod_of_nonneg i 03)))
theorem ak7{f:aH→054}{g:e93}(rule:∀(i:Int)(t:Tok)(s:aZ)(Q:490)(E:490),Q (g38 (g i)) c70→a9 47 X.A (f 706) Q E s):M8 X f (M9 (425 (.int (g i)))):=by rw[D60];rw[C48];rw[A12];exact rule i t s _ _ ⟨.int (g i),H,279,282,q⟩
theorem Nb:M8 X (unaryOp .USub) (M9 (425 (.int (-i)))):=ak7 (fun _ _ _ _ _ q=>neg_int q)
end
def WK:ae→482 ae|.b4,.b4=>01|.b4,.int _=>01|.int _,.b4=>01|.b4,.bN _=>01|.bN _,.b4=>01|.b4,.str _=>01|.str _,.b4=>01|.int _,.int _=>01|.bN _,.bN _=>01|.str _,.str _=>01|.lD _,.lD _=>01|.int _,.str _=>01|.str _,.int _=>01|.bN _,.str _=>01|.str _,.bN _=>01|_,_=>09
inductive WL(x:ae)(y:ae)(H:av)(Q:aW):04|mk:WK x y=01→446 (29 (x=y))→WL x y H Q
inductive WM(x:ae)(y:ae)(H:av)(Q:aW):04|mk:WK x y=01→446 (! 29 (x=y))→WM x y H Q
theorem WN{i j:Int}:a33 i j=(i==j):=p31
theorem WO{i j:Bool}:29 (ae.bN i=ae.bN j)=(i==j):=p31
theorem WQ{i j:Str}:29 (ae.str i=ae.str j)=(i==j):=p31
theorem WR{i j:724 UInt8}:29 (ae.lD i=ae.lD j)=(i.toList==j.toList):=by rw[hu];cases i;cases j;simp
section
variable{a b c:dn}{tb pF:ct}
theorem gJ{σ:bq}{s:aZ}{Q:aW}{k fZ:Bool}(I:24)(q:446 k)(e:k=fZ):hK X 07 σ Q (.bool fZ) s:=by subst e;exact 128 k H I q
theorem fv:gs X (jv .Eq) WL:=by
 rw[A45];obtain⟨aL,q⟩:=h
 cases x with
  |b4=>
   rw[A07]
   cases y with|b4=>rw[A24];exact PySem.EqNone.eq_none_none 395|bN j=>rw[A24];exact PySem.EqNone.eq_none_bool 395|int j=>rw[A19];exact PySem.EqNone.eq_none_int 395|str j=>rw[A19];exact PySem.EqNone.eq_none_str 395|_=>rw[A69]
  |bN i=>
   rw[A07]
   cases y with|b4=>rw[A24];exact PySem.EqNone.eq_bool_none 395|bN j=>rw[A24];exact eq_bool (gJ I q WO)|str j=>rw[A19];exact PySem.EqMixed.eq_bool_str 395|_=>rw[A69]
  |int i=>
   rw[A12]
   cases y with|b4=>rw[A24];exact PySem.EqNone.eq_int_none 395|int j=>rw[A19];exact eq_int (gJ I q WN)|str j=>rw[A19];exact PySem.EqMixed.eq_int_str 395|_=>rw[A69]
  |str i=>
   rw[A12]
   cases y with|b4=>rw[A24];exact PySem.EqNone.eq_str_none 395|bN j=>rw[A24];exact PySem.EqMixed.eq_str_bool 395|int j=>rw[A19];exact PySem.EqMixed.eq_str_int 395|str j=>rw[A19];exact eq_str (gJ I q WQ)|_=>rw[A69]
  |lD i=>
   rw[A12]
   cases y with|lD j=>rw[A19];exact PySem.W.eq_bytes (gJ I q WR)|_=>rw[A69]
  |_=>cases y<;>exact 69 (p30 934) hB
theorem k4:gs X (jv .NotEq) WM:=by
 rw[A45];obtain⟨aL,q⟩:=h
 cases x with
  |b4=>
   rw[A07]
   cases y with|b4=>rw[A24];exact PySem.EqNone.ne_none_none 395|bN j=>rw[A24];exact PySem.EqNone.ne_none_bool 395|int j=>rw[A19];exact PySem.EqNone.ne_none_int 395|str j=>rw[A19];exact PySem.EqNone.ne_none_str 395|_=>rw[A69]
  |bN i=>
   rw[A07]
   cases y with|b4=>rw[A24];exact PySem.EqNone.ne_bool_none 395|bN j=>rw[A24];exact ne_bool (gJ I q (109 not WO))|str j=>rw[A19];exact PySem.EqMixed.ne_bool_str 395|_=>rw[A69]
  |int i=>
   rw[A12]
   cases y with|b4=>rw[A24];exact PySem.EqNone.ne_int_none 395|int j=>rw[A19];exact ne_int (gJ I q (109 not WN))|str j=>rw[A19];exact PySem.EqMixed.ne_int_str 395|_=>rw[A69]
  |str i=>
   rw[A12]
   cases y with|b4=>rw[A24];exact PySem.EqNone.ne_str_none 395|bN j=>rw[A24];exact PySem.EqMixed.ne_str_bool 395|int j=>rw[A19];exact PySem.EqMixed.ne_str_int 395|str j=>rw[A19];exact ne_str (gJ I q (109 not WQ))|_=>rw[A69]
  |lD i=>
   rw[A12]
   cases y with|lD j=>rw[A19];exact PySem.W.ne_bytes (gJ I q (109 not WR))|_=>rw[A69]
  |_=>cases y<;>exact 69 (p30 934) hB
theorem ka:gs X (jv .Lt) (g66 (29 (i<j))):=i43 (lt_int q)
theorem z9:gs X (jv .LtE) (g66 (555 i j)):=i43 (le_int q)
theorem oA:gs X (jv .Gt) (g66 (29 (j<i))):=i43 (gt_int q)
theorem Nc:gs X (jv .GtE) (g66 (555 j i)):=i43 (ge_int q)
theorem jX:gs X (jv .Is) (o88 (y=.b4∧446 (29 (x=.b4)))):=by rw[A45];obtain⟨rfl,q⟩:=h;rw[A24];refine is_none_gen (gJ I q ?_);cases x<;>first|(rw[A07];rfl)|(rw[A12];rfl)
theorem tI:gs X (jv .IsNot) (o88 (y=.b4∧446 (! 29 (x=.b4)))):=by rw[A45];obtain⟨rfl,q⟩:=h;rw[A24];refine isnot_none_gen (gJ I q ?_);cases x<;>first|(rw[A07];rfl)|(rw[A12];rfl)
theorem bO(b:dn)(h:op≠.In:=by decide)(ak:op≠.NotIn:=by decide):zY op b=09:=by
 have aK:(op==CmpOp.In)=09:=by cases op<;>first|rfl|rw[A64 h]
 have aG:(op==CmpOp.NotIn)=09:=by cases op<;>first|rfl|rw[A64 ak]
 rw[D61]
theorem z_{r:r2}(a8:gs X (jv op) r)(aN:658)(aa:945 b)(hm:zY op b=09):bF X (k06 a [op] [b]) (r3 r bW tb):=i14 (wpAny_Compare1 (M_ aN aa I h (p28 (a8 07 s2 σ aB x y v u Q b5 bw bQ q))) hm)
inductive WS(Q:a57)(x:ae)(H':av):04|mk:∀k,x=.bN k→Q k H'→WS Q x H'
def WT(t:ct):j6:=262 (t σ H (h95 (WS Q x H')))
theorem bM{r:r2}(a8:gs X (jv op) r)(aN:658)(aa:945 b)(hm:zY op b=09):mI X (k06 a [op] [b]) (WT (r3 r bW tb)):=by rw[A13];refine akj (b65 (aN 07 s σ H _ I h) (f64 (aa 07 s1 σ H1 _ aX bg) (bY (a8 07 s2 σ aB x y v u _ b5 bU cT cf) (fun c s3⟨z,a5,el,h2,k,e,eC⟩=>?_)))) hm;subst e;cases h2;exact xK ⟨a5,el,eC⟩
inductive WU(dF:r2)(pF:ct)(σ:bq)(Q:aW)(y:ae)(z:ae)(a5:av):04|mk:∀k,z=.bN k→(39 k (pF σ a5 (fun gQ bP=>dF y gQ bP Q)) (827 09 a5))→WU dF pF σ Q y z a5
def ak8(r dF:r2)(bW tb pF:ct):ct:=262 (bW σ H (291 (tb σ H1 (891 (r x y aB (fun z a5=>WU dF pF σ Q y z a5))))))
theorem ak9{Nd:CmpOp}{r dF:r2}(a8:gs X (jv op) r)(ju:gs X (jv Nd) dF)(aN:658)(aa:945 b)(ar:bF X c pF)(hm:lastMarks [op,Nd] [b,c]=09:=by with_unfolding_all rfl):bF X (k06 a [op,Nd] [b,c]) (ak8 r dF bW tb pF):=by
 rw[A13];refine Compare_chain (b65 (aN 07 s σ H _ I h) (chain_link (f64 (aa 07 s1 σ H1 _ aX bg) (bY (a8 07 s2 σ aB x y v u _ b5 bU cT cf) (fun d s3⟨z,a5,el,h2,k,e,eC⟩=>?_))))) hm;subst e;cases h2;refine xK ?_
 cases k with|false=>exact ite_ff (128 09 a5 el eC)|true=>exact ite_tt (chain_last (bY (ar 07 s3 σ a5 _ el eC) (fun gQ s4⟨j9,bP,jw,i7,fz⟩=>ju 07 s4 σ bP y j9 u gQ Q jw cT i7 fz)))
def Nf(K:bo)(x:ae)(H:av)(k:Bool):04:=match x with|.b4=>k=09|.bN b=>k=b|.int i=>k=(i !=0)|.str y=>b43≤bc∧k=(n09 !=0)|.lD y=>y.size≤bc∧k=(15 y.size !=0)|.ref p=>(∃xs,aJ K H p xs∧k=d78)∨(∃xs,dX K H p xs∧k=d78)∨∃kvs,H p=c65∧k=m80|_=>739
theorem ala{kvs:524}{vs:a88}(r:603):(! vs.isEmpty)=m80:=by cases r<;>rfl
theorem WV(r:cc xs a0):(! l41)=d78:=by cases r<;>simp
theorem vC:(bc:Nat)<2^0x3f:=by rw[Aa];decide
theorem alb:ak2 X (fun x H Q=>∃k,Nf X.K x H k∧Q k H):=by
 rw[D60];obtain⟨k,e,q⟩:=h;have ax:=vC;have aL:bc=l29:=Aa
 cases x with
  |b4=>rw[A07];have bZ:k=09:=e;subst bZ;exact truthy_none ⟨H,I,q⟩
  |bN b=>rw[A07];have bZ:k=b:=e;subst bZ;exact xK ⟨H,I,q⟩
  |int i=>rw[A12];have bZ:k=(i !=0):=e;subst bZ;exact alc ⟨H,I,q⟩
  |str y=>rw[A12];obtain⟨aC,bZ⟩:b43≤bc∧k=(n09 !=0):=e;subst bZ;exact PySem.P.truthy_str 03 ⟨H,279,q⟩
  |lD y=>rw[A12];obtain⟨aC,bZ⟩:y.size≤bc∧k=(15 y.size !=0):=e;subst bZ;exact PySem.W.truthy_bytes 03 ⟨H,279,q⟩
  |ref p=>
   rw[A07];have bZ:(∃xs,aJ X.K H p xs∧k=d78)∨(∃xs,dX X.K H p xs∧k=d78)∨∃kvs,H p=c65∧k=m80:=e;rcases bZ with⟨xs,ai,bZ⟩|⟨xs,ai,bZ⟩|⟨kvs,ai,bZ⟩
   ·subst bZ;rw[B34 ai];rw[B79];exact wpAny_truthy_list 965 r70 ⟨H,279,b59 (WV r)⟩
   ·subst bZ;rw[B93 (b26 ai)];rw[B79];exact truthy_tuple pl r70 ⟨H,279,b59 (WV r)⟩
   ·subst bZ;obtain⟨hz,aY,vs,r,m⟩:a91∧(p==l5)=09∧∃vs,603∧s.heap.DictOf (fg 61 X.w) p vs:=613 p ai;have hlen:e30:=rR r;exact wpAny_truthy_dict aY m 03 ⟨H,279,b59 (ala r)⟩
  |_=>exact(show False from e).elim
theorem Ng(aN:658)(he:∀whole,j66 a 511=(do
 let v←whole
 xP a.pos
 nz [v] (truthy v))):mI X a (262 (bW σ H (h95 (∃k,Nf X.K x H' k∧Q k H')))):=by rw[A13];exact isTrue_plain (b65 (aN 07 s σ H _ I h) (alb 07 s1 σ H1 x v Q aX bU bg)) (he _)
inductive WW(x:ae)(y:ae)(H:av)(Q:aW):04|mk:∀i j,x=.str i→y=.str j→i.length+j.length≤bc→Q (.str (i++j)) H→WW x y H Q
theorem Nh:gs X (r5 .Add) WW:=by rw[A45];obtain⟨i,j,rfl,rfl,hz,q⟩:=h;rw[A12];rw[A19];exact add_str (fun t' tk=>⟨.str (i++j),H,279,282,q⟩) hz
theorem o3{x:ae}(r:594 [x]):∃u,us=[u]∧685 x:=by cases r with|cons bU cT=>cases cT;rw[A15 bU]
theorem TR{x:ae}(r:594 [x,y]):∃u gQ,us=[u,gQ]∧685 x∧RelV y gQ:=by cases r with|cons bU cT=>cases cT with|cons h2 i7=>cases i7;exact⟨_,_,rfl,bU,h2⟩
inductive WX(xs:08)(H:av)(Q:aW):04|mk:∀i,xs=[260]→(662 (13 (i<0) (-i) i))→WX xs H Q
theorem WY:iy X (399 "abs") WX:=by rw[A60];rw[C48];rw[B36 r];exact call_abs_int (fun u tk=>⟨.int (13 (i<0) (-i) i),H,279,282,q⟩)
inductive WZ(xs:08)(H:av)(Q:aW):04|mk:∀i j,xs=[260,859]→(662 (13 (j<i) j i))→WZ xs H Q
theorem ald(ar:394):iy X (399 "min") WZ:=by
 rw[A60];obtain⟨i,j,rfl,q⟩:=h;obtain⟨u,gQ,rfl,⟨t,rfl⟩,⟨t',rfl⟩⟩:=TR r;refine min_two_ints 408 (fun h' tk k=>⟨_,H,I.kept k,?_,q⟩);by_cases bS:j<i
 ·rw[21 bS,21 bS];rw[A08 rfl]
 ·rw[23 bS,23 bS];rw[A08 rfl]
inductive W0(xs:08)(H:av)(Q:aW):04|mk:∀x,xs=[765]→96=1→Q (a14 (x.cps.getD 0 0)) H→W0 xs H Q
theorem ale:iy X (399 "ord") W0:=by rw[A60];obtain⟨x,rfl,hz,q⟩:=h;rw[B36 r];exact ord_of_one hz ⟨.int _,H,279,282,q⟩
end
end
section
variable{A:rT}{C D I a b bG c d dx f i1 i2 p t:ag}{E Q:aH→aZ→Prop}{F:List (List Nat)}{expr:Bool}{K:bo}{M:Model}{N ps:List Str}{P prog:f3}{R:Result→aZ→Prop}{apos pos pos' tc:Pos}{S:ag→Prop}{us vs:List aH}{ch:List ag}{aG e value:dn}{aR:Array Il}{bx doc ek ig u:aH}{o:Obj}{ah dG:Str→Option aH}{pins:List (ag×Obj)}{an az cQ func:Option ag}{body:List bK}{c0 i j n t':Nat}{base h h':dk}{g l:List Nat}{ns r:List Int}{d':Drawn}{k7:Array (Option aH)}{ds:List WData}{env:Env}{fd:k6}{g':Array Qp}{kw:List (Str×aH)}{name qual x:Str}{op:CmpOp}{outer:List Env}{own:List (Str×Nat)}{params:Arguments}{pl:Sem Bool}{q:Search}{s s':dt}{sc scope:rp}{tk:Tok}{v:Word}{w:ff}{m:g0}{cb:List (Option ae)}{xs:List ae}{y:ae}{H H' H1 aB:av}{bC:dz}{X:dT}{r8:ae→ae→av→aW→Prop}{bW c7 h5 ty:ct}
structure xW(h:dk)(x dx C:ag)(dG:261):04 where
 obj:654 x (xE C dx)
 ns:058
 ne:dx≠x
theorem alf(n:058):∃cQ,654 dx cQ∧∀name,Ni 234 cQ=some a63:=by
 obtain⟨o,aR,c0,a8,hd,aS,_,hm⟩:=n;refine⟨o,a8,fun name=>?_⟩;have e:=hm 234;unfold nsFind findBy at e;rw[←alg]at e;unfold Ni;rw[hd];rw[A71];split
 ·rename_i y q;rw[q]at e;exact d72 e
 ·rename_i q;rw[q]at e;have a:aR.toList.any (·.refKey)=09:=by rw[Gg];intro y aC;obtain⟨z,t,alh⟩:=aS y (Array.mem_toList_iff.mp aC);simp[DictEntry.refKey,alh]
  have W2:¬aR.toList.any (·.refKey)=01:=by rw[a];exact hB
  rw[23 W2];exact d72 e
theorem xW.look{x:ag}(I:xW h x dx C dG):∃cQ,PySem.W.InstAt h x (xE C dx) C (some cQ)∧∀name,Ni 234 cQ=some a63:=let⟨cQ,a8,ax⟩:=alf I.ns;⟨cQ,072 I.obj a8,ax⟩
section
variable{s:aZ}{x:ag}{v:aH}
theorem aAH(X:d83)(I:xW 28 x dx C dG)(a4:Hx K C 234=01)(dh:Nj K C=01)(aN:r7 K 236 234=326)(a3:a63=54)(vD:ali v=01)(h:Q v c70):a9 232 A (Hy 438 234 expr) Q E s:=by obtain⟨cQ,fu,ax⟩:=I.look;exact PySem.W.get_value X fu (W3 a4).1 (PySem.W.findObj_own dh aN rfl (by rw[ax,a3])) vD h
theorem alj{Q:456 (aH×53)}(X:d83)(I:xW 28 x dx C dG)(a4:Hx K C 234=01)(hf:r7 K 236 234=871)(bk:Nk K 590=01)(a3:a63=00)(h:Q (590,[438]) s):a9 232 A (Ab 438 234 pl) Q E s:=by rw[D59];exact PySem.W.method_fn X fu (W3 a4).1 (W3 a4).2 hf (beq_iff_eq.mp bk) (by show(Ni 234 cQ).map (·.isSome)=some 09;rw[ax,a3];rfl) h
theorem alk{ns:225}{Q:592}(X:d83)(I:xW 28 x dx C dG)(aL:r7 K 236 b23=c44)(au:W4 K C=01)(bk:W5 K C 234=326)(dh:Nj K C=01)(hw:G7 dG ns)(hsz:314≤bc)(h:∀h',xW h' x dx C (131 (13 (y=234) 54 (dG y)))→ox dx 28 h'→Q () (r32 (233+2))):a9 232 A (Dn 438 234 v) Q E s:=by rw[D59];refine PySem.W.set_plain X fu aL (PySem.W.osa_open (s:=c70) (r:=00) X fu au bk (507 ?_));obtain⟨cd,ar,kW⟩:=PySem.W.any_some dh;have ai:393 x ⟨236,a83,.plain,#[]⟩:=I.obj;rw[A00 (cx (a7 (a7 (wpAny_loadPart ai (a7 (PySem.W.Looks.here (s:=c70) (PySem.W.looks_clsIn X ar) ?_))))))];rw[kW];refine cx (a:=a83) (a7 (cx (a7 ?_)));refine wpAny_nsSet1 (s:=c70) I.ns (fun h' W6 jx=>?_);obtain⟨alm,aAZ,aA0,aln,alo,alp⟩:=W6.count (alq 234 v hw);rw[A00 (wpAny_lookBehind aln (by rw[alo];exact pastItsLine_dict (cX alp k67)) ?_)];exact cx (h _ ⟨35 (jx.2 _ (jq I.ne)) I.obj,W6,I.ne⟩ jx)
theorem alr(X:d83)(hm:Nl K C=01)(hi:r7 K 236 421=871)(hf:PySem.W.typeIn K 590=some f81)(h:qI 232 (f97 ⟨236::vs,kw⟩) (.call 590 ⟨.ref 288::vs,kw⟩) (PySem.W.InitBack 288 R) (621 ((b77).push (xE C 18)))):qI 232 A (.call 236 ⟨vs,kw⟩) R s:=by obtain⟨dh,g,d,t,os⟩:=s;exact PySem.W.make_core (PySem.W.makes_of X hm) (PySem.W.looks_findIn X hi) (fun self=>PySem.W.bind_fn X self hf) 253 h
end
def cC(f:Str)(v:ae):324→324|[]=>[(f,v)]|(g,x)::r=>13 (g=f) ((g,v)::r) ((g,x)::cC f v r)
theorem e2(f g:Str)(v:ae):∀bl:324,805 (cC f v bl) g=13 (g=f) 54 (d10 g)
 |[]=>by
  show qJ g [(f,v)]=_;rw[A39 (g=f)]
  ·have aa:(g==f)=01:=m33;rw[B56 114]
  ·have aa:(g==f)=09:=963 h;rw[B56 125]
 |(k,x)::r=>by
  have ih:=e2 f g v r;rw[108 (cC f v ((k,x)::r)) (13 (k=f) ((k,v)::r) ((k,x)::cC f v r))];rw[A66 (k=f)]
  ·rw[21 aS];rw[A39 (g=k)]
   ·have aa:(g==k)=01:=m33;rw[B56 (21 (h.trans aS))]
   ·have aa:(g==k)=09:=963 h;rw[B56 (23 (fun e:g=f=>h (e.trans aS.symm)))]
  ·rw[134];rw[A39 (g=k)]
   ·have aa:(g==k)=01:=m33;rw[B56 (23 (fun e:g=f=>aS (h.symm.trans e)))]
   ·have aa:(g==k)=09:=963 h;simp only[qJ,aa];exact ih
theorem Dp(f:Str)(v:ae):∀bl:324,f∈a23 (cC f v bl)∧∀g,g∈b75→g∈a23 (cC f v bl)
 |[]=>⟨by simp[cC],h26 501⟩
 |(k,x)::r=>by
  obtain⟨i1,i2⟩:=Dp f v r;rw[108 (cC f v ((k,x)::r)) (13 (k=f) ((k,v)::r) ((k,x)::cC f v r))];rw[A66 (k=f)]
  ·rw[21 aS];subst aS;exact⟨19,h26 967⟩
  ·rw[134];rw[A03 ?_ (h26 ?_)]
   ·rw[eN];exact d4 _ i1
   ·rw[eN]at h⊢;rw[C15 h]
    ·exact ed.mpr (.inl e)
    ·exact d4 _ (i2 g e)
theorem W7(f:Str)(v:ae):∀bl:324,11 (cC f v bl)≤l46+1
 |[]=>by simp[cC]
 |(k,x)::r=>by
  have ih:=W7 f v r;rw[108 (cC f v ((k,x)::r)) (13 (k=f) ((k,v)::r) ((k,x)::cC f v r))];rw[A66 (k=f)]
  ·rw[168,dR,dR];lia
  ·rw[134,dR,dR];lia
theorem j8.some_of{v:ae}{o:631}(r:j8 54 o):∃u,o=56∧466:=by cases o with|none=>exact i35|some u=>rw[A44 u r]
theorem j8.none_of{o:631}(r:j8 00 o):o=00:=by cases o with|none=>rfl|some u=>exact i35
theorem als{v:ae}(r:466):ali u=01:=by cases v with|b4=>cases f74 (u=fh);rfl|bN b=>cases f74 (u=xD b);rfl|int i=>rw[B17 (u=zR i t)];cases e;rfl|str x=>rw[B17 (u=C3 x t)];cases e;rfl|lD b=>rw[B17 (u=Value.bytes b t)];cases e;rfl|G6 b=>rw[B17 (u=Value.float b t)];cases e;rfl|ref a=>cases f74 (u=da a);rfl|ty n=>cases f74 (u=vk n);rfl
section
variable{bl zT:324}
theorem Nm(bB:fy P w H h)(e:H a=854):∃dG,xW h a dx C dG∧(∀f,j8 000 (dG f))∧G7 dG b75∧l46≤1000∧H dx=g94:=by obtain⟨d,z,ne,bC,dG,n,r,q⟩:=(88 (fx P w H h a (799 bl)) (bB a _ e));exact⟨dG,⟨bC,n,ne⟩,r,q,z,d⟩
end
structure h4(K:bo)(C:ag):04 where
 dq:Hx K C Dq=01
 hd:Nj K C=01
 po:W4 K C=01
 bG:r7 K 236 b23=c44
theorem h4.get(c:h4 K C)(f:Str):Hx K C f=01:=c.dq
def fi(K:bo)(C:ag)(f:Str):04:=r7 K 236 f=326
theorem fi.alu{f:Str}(n:245 f):W5 K C f=326:=by unfold W5;rw[show r7 K 236 f=326 from n];rfl
structure Ca(K:bo)(C:ag)(m:Str)(f:ag):04 where
 at_:r7 K 236 m=871
 fn:Nk K 590=01
 fC:066 K=01
section
variable{σ:bq}{s:aZ}{bl:324}{f:Str}{v:ae}
theorem W8{b:Bool}(I:24)(e:H a=854)(c:946 C)(n:fi X.K C f)(l:000=54)(h:∀u s',aQ X 07 σ H s'→466→Q u s'):a9 47 A (Hy 38 f b) Q E s:=by rw[D58 (Nm 274 e)];rw[B49 (o59 v (dG f) (o60 (r f)))];exact aAH I.gF O (c.get f) c.hd n bp (als gR) (h u _ 279 gR)
theorem Nn{m:Str}{g:ag}{Q:456 (aH×53)}(I:24)(e:H a=854)(c:946 C)(k:Ca X.K C m g)(l:d10 m=00)(h:Q (.ref g,254) s):a9 47 A (Ab 38 m pl) Q E s:=by rw[D58 (Nm 274 e)];have aU:dG m=00:=j8.none_of (o60 (r m));exact alj I.gF O (c.get m) k.at_ k.fn aU h
theorem Np{Q:592}(I:24)(e:H a=854)(c:946 C)(n:fi X.K C f)(ax:c20)(bQ:465)(h:∀s',aQ X 07 σ (264 H a C (cC f y bl)) s'→Q () s'):a9 47 A (Dn 38 f u) Q E s:=by
 obtain⟨dG,O,r,hL,_,a8⟩:=Nm 274 e;have hz:069 b75:=q85;refine alk I.gF O c.bG c.po n.alu c.hd hL hz (fun h' Nq eX=>h _ ?_);have hd:∃o,b81 dx:=let⟨o,_,_,bZ,_⟩:=Nq.ns;⟨o,bZ⟩;refine I.write (x:=a) (e:=dx) p16 (.inr a8) (fun b q aa z=>385 b aa z) hd ?_;refine⟨by rw[aE O.ne];exact a8,?_,O.ne,Nq.obj,_,Nq.ns,563 ?_,c33⟩
 ·have:=W7 f y bl;lia
 ·show j8 (805 (cC f y bl) g) (13 (g=f) 56 (dG g));rw[e2];by_cases q:g=f
  ·rw[182,182];exact bQ
  ·rw[23 q,23 q];exact r g
 ·by_cases q:g=f
  ·rw[q];exact(Dp f y bl).1
  ·refine(Dp f y bl).2 g (hL g (16 (a4 ?_)));show(13 (g=f) 56 (dG g))=00;rw[23 q];exact z
theorem aQ.made(I:24):aQ X 07 σ (761 18 (.own 288) 288 (.ins C 18 [])) (621 ((b77).push (xE C 18))):=by
 have aK:(b77).get? 18=some vE:=gg 28 rfl;have aG:((b77).push (xE C 18)).get? 288=some (xE C 18):=by have:=gg b77 (o:=xE C 18) rfl;rwa[kz]at this
 have cp:(b77).Ns 18 d74:=⟨vE,#[],_,aK,rfl,(h24 (151 he)),525⟩;have aX:=I.laid (a:=18) (o:=.own 288) (h':=b77) (t':=233) (i01 (dY _ q)) 64 (404 aK);refine aX.laid (a:=288) (o:=.ins C 18 []) (t':=233) (i01 (dY _ q)) (Hz (kz _ _)) ?_;have ne:18≠288:=fk (zG _);refine⟨by rw[aE ne,aI],229,ne,aG,d74,(alv cp).at (b60 (dY _ q)),290 xX,085 (69 rfl aC)⟩
theorem W9{f:Str}{s:aZ}(aa:tJ e f env (b06 e)=b06 e)(h:a9 232 A (b06 e) (fun o ep=>a9 232 A (Hy o f 01) Q E ep) E s):a9 232 A (b06 (b92 f pos)) Q E s:=Attribute_any_ h (by rw[arm_eval_Attribute,aa])
end
inductive W_(K:bo)(f:Str)(Q:aW)(x:ae)(H1:av):04|mk:∀a C dx bl v,x=38→H1 a=854→h4 K C→245 f→000=54→Q v H1→W_ K f Q x H1
def xY(K:bo)(bW:ct)(f:Str):ct:=262 (bW σ H (291 (W_ K f Q x H1)))
inductive Xa(K:bo)(f:Str)(D:lY)(σ:bq)(y:ae)(x:ae)(aB:av):04|mk:∀a C dx bl,x=38→aB a=854→h4 K C→245 f→c20→687 (264 aB a C (cC f y bl))→Xa K f D σ y x aB
def Xb(K:bo)(bW h5:ct)(f:Str):gH:=475 (h5 σ H (d18 (bW σ H1 (d20 (Xa K f D σ y x aB)))))
def Xc(X:dT)(op:Dh)(r8:ae→935):04:=∀(pins:224)(s:aZ)(σ:bq)(H:av)(x y:ae)(u v:aH)(Q:aW),24→685 x→RelV y v→r8 x y H Q→a9 47 X.A (inplaceOp op u v) 497 68 s
inductive Xd(K:bo)(h5:ct)(r8:ae→935)(f:Str)(D:lY)(σ:bq)(x:ae)(H1:av):04|mk:∀a C dx bl v,x=38→H1 a=854→h4 K C→245 f→000=54→(h5 σ H1 (891 (r8 v y aB (fun z a5=>∃Dr zT,a5 a=711 Dr zT∧zT.length<1000∧687 (upd a5 a (.ins C Dr (cC f z zT)))))))→Xd K h5 r8 f D σ x H1
def alw(K:bo)(bW h5:ct)(r8:ae→935)(f:Str):gH:=475 (bW σ H (291 (Xd K h5 r8 f D σ x H1)))
section
variable{o:dn}{f:Str}
theorem vF(he:757 e)(aa:tJ e f 55 689=689):bF X (b92 f pos) (xY X.K bW f):=by rw[A13];refine W9 aa (bY (he 07 s σ H _ I h) (fun u s1⟨x,H1,aX,bw,a,C,dx,bl,v,ex,d1,c,n,l,q⟩=>?_));rw[A25];rw[A38 u];exact W8 aX d1 c n l (fun jT s2 b5 gR=>⟨v,H1,b5,gR,q⟩)
theorem fS(aN:757 o)(a3:g78 h5)(aL:g88 677 (e55 f)=911):iV X (d93 [e55 f] 677) (Xb X.K bW h5 f):=by rw[A35];refine Nr (bY (a3 07 s σ H _ I h) (i32 (aN 07 s1 σ H1 _ aX q) (fun dA s2⟨x,aB,b5,bw,a,C,dx,bl,ex,d1,c,n,l,cf⟩=>?_))) aL;rw[A25];rw[A38 dA];exact Np b5 d1 c n l bQ (f38 ⟨σ,_,el,cf⟩)
theorem Xe{op:Dh}(aN:757 o)(a3:g78 h5)(alx:Xc X op r8):iV X (.AugAssign (481 f tc) op 677 pos) (alw X.K bW h5 r8 f):=by rw[A35];refine wpAny_AugAssign_AttributeAny (bY (aN 07 s σ H _ I h) (fun dA s1⟨x,H1,aX,bw,a,C,dx,bl,v,ex,d1,c,n,l,q⟩=>?_));rw[A25];rw[A38 dA];refine W8 aX d1 c n l (fun u s2 b5 gR=>bY (a3 07 s2 σ H1 _ b5 q) (fun mH s3⟨y,aB,el,bQ,eC⟩=>bY (alx 07 s3 σ aB v y u mH _ el gR bQ eC) (fun Ac s4⟨z,a5,jw,aly,Dr,zT,HA,LZ,fz⟩=>?_)));exact Np jw HA c n LZ aly (fun s5 nA=>⟨σ,_,nA,fz⟩)
inductive Xf(x:ae)(y:ae)(H:av)(Q:aW):04|mk:∀i j,x=260→y=859→662 (i+j)→Xf x y H Q
theorem Xg:Xc X .Add Xf:=by rintro pins s σ H x y u v Q I bw bQ⟨i,j,rfl,rfl,q⟩;rw[B44 (show∃t,u=zR i t from bw)];obtain⟨t',rfl⟩:=g34 (∃t',v=zR j t');exact akI ⟨.int (i+j),H,279,282,q⟩
theorem aA1{m:Str}{args:439}{s:aZ}{σ:bq}(he:530)(I:24)(h:c7 σ H (291 (∃a C dx bl g,x=38∧H1 a=854∧946 C∧Ca X.K C m g∧d10 m=00∧∀s1,aQ X 07 σ H1 s1→a9 47 X.A (Ad pos (.ref g) 254 (hA pos (406 args)) (xZ pos (x1 [] 55))) Q 68 s1)))(bk:405 (.Call (b92 m apos) args [] pos)=(do
 let dA←cE e X.env
 xP apos.atName
 let(f,first)←nz [dA] (Ab dA m pl)
 Ad pos f first (hA pos (dc args X.env)) (xZ pos (x1 [] X.env)))):a9 47 X.A (405 (.Call (b92 m apos) args [] pos)) Q 68 s:=by refine Xh (pl:=pl) (bY (he 07 s σ H _ I h) (fun u s1⟨x,H1,aX,bw,a,C,dx,bl,g,ex,d1,c,k,l,q⟩=>?_)) bk;rw[A25];rw[A38 u];exact Nn aX d1 c k l (q s1 aX)
end
section
variable{σ:bq}{s:aZ}{c:aH}{b:Bool}
end
structure f5(k:Nat)(A:rT):04 where
 hd:595
 HB:l45+3*k+5<r69
 un:776 (377*k)+0xc8<kb
theorem f5.mono{k:Nat}(r:f5 k A)(h:j≤k):f5 j A:=⟨r.hd,r68,r67⟩
theorem f5.deeper{k:Nat}(r:f5 (k+1) A)(env:Env):f5 k (A.deeper env):=⟨r.hd,by have:=r.HB;show l45+1+3*k+5<_;lia,by have:=r.un;show 776 3+377*k+0xc8<_;lia⟩
theorem alz:(f97 ⟨236::us,kw⟩).depth=l45+1:=by first|rfl|simp[Xi,Code.weight,Code.isCreation,Code.isGuard,Code.isCaller,Code.frames,Xj,guardIds]
theorem alA:(f97 ⟨236::us,kw⟩).units=776 1:=by first|rfl|simp[Xi,Code.cUnits,Code.frames,Xj]
theorem f5.make{k:Nat}(r:f5 (k+1) A)(C:ag)(us:53)(kw:821 aH):f5 k (f97 ⟨236::us,kw⟩):=⟨r.hd,by have:=r.HB;rw[alz];lia,by have:=r.un;rw[alA];lia⟩
theorem f5.depth{k:Nat}(r:f5 k A):l45<r69:=r68
theorem f5.units{k:Nat}(r:f5 k A):776 402<kb:=r67
def qK:fG:=j65 [] H
def r9(bW:ct)(l9:fG):fG:=262 (bW σ H (291 (l9 σ H1 (fun xs aB=>Q (x::xs) aB))))
section
variable{aR:439}{t:fG}
theorem ay:hZ X [] qK:=fun _ _ _ _ H Q I h=>Nt ⟨[],H,I,89,h⟩
theorem aj(aN:530)(aq:hZ X aR t)(aL:657=391::459:=by rfl):hZ X (e::aR) (r9 c7 t):=by intro pos pins s σ H Q I h;rw[aL];show a9 _ _ (spliced (391::hA pos 459)) _ _ s;refine Nu (bY (aN 07 s σ H _ I h) (r63 ?_));exact bY (aq pos 07 s1 σ H1 _ aX bg) (fun us s2⟨xs,aB,b5,cT,cf⟩=>⟨x::xs,aB,b5,.cons bU cT,cf⟩)
inductive Xk(Q:aW)(xs:08)(H1:av):04|mk:052→(∀p,H1 p=00→664 (388 H1 p xs))→Xk Q xs H1
def alB(t:fG):ct:=262 (t σ H (fun xs H1=>Xk Q xs H1))
inductive Nv(Q:aW)(xs:08)(H1:av):04|mk:052→(∀p,H1 p=00→838 p H1 p xs)→Nv Q xs H1
def HC(t:fG):ct:=262 (t σ H (fun xs H1=>Nv Q xs H1))
theorem oC{gr:_}(h:hZ X aR t):bF X (.Tuple aR gr pos) (alB t):=by rw[D57];refine wpAny_Tuple_spliced (bY (h pos 07 s σ H _ I aw) (r65 (328 r66)));have hf:H1 227=00:=d55;refine 839 227 (388 H1 227 xs) (m88 b55 m24 ?_) (q _ hf);exact⟨z,us,r,⟨_,111,rfl,_,rfl⟩⟩
theorem cN(h:hZ X aR t):bF X (.List aR pos) (HC t):=by rw[D57];refine wpAny_List_spliced (bY (h pos 07 s σ H _ I aw) (r65 (328 r66)));have hf:H1 227=00:=d55;refine 839 227 (34 H1 227 xs) (m88 b55 m24 ?_) (q _ hf);exact⟨z,us,0,r,111⟩
end
abbrev mM:=08→av→aW→92 bD
abbrev pJ:=596→av→aZ→bD→490
structure x2(P:f3)(w:ff)(K:bo)(ah:261)(base:dk)(A:rT)(outer:596)(s:aZ)(H:av):04 where
 frames:l06=some 91
 mod:Mod K ah 02
 bs:374 (base.get? b) (346∧H b=00)
 qA:base.objs.size≤18
 ow:i50 91
 vn:∀b∈j89,H b=00
 bB:fy P w H 28
 bare:xG d15
inductive HD(outer:596)(P:f3)(w:ff)(H:av)(s:aZ)(Q:aW)(u:aH)(s':aZ):04|mk:∀v H',s'.os=s.os→j67→ir j89 [] H H' 28 543→fy P w H' 543→466→Q v H'→HD 91 P w H s Q u s'
variable{CX:pJ}{sp:mM}
def dI(CX:pJ)(outer:596)(P:f3)(w:ff)(H:av)(s:aZ)(Q:aW)(E:bD)(r:Result)(s':aZ):04:=match r with|.ok (.ret u)=>HD 91 P w H s Q u s'|.ok _=>739|.error e=>CX 91 H s E e s'
structure eP(P:f3)(w:ff)(K:bo)(ah:261)(base:dk)(CX:pJ)(k:Nat)(f:ag)(fd:k6)(ps:225)(sp:mM):04 where
 len:e08 (sp vs H Q E) f95
 run:∀(A:rT)(outer:596)(s:aZ)(H:av)(args:Args)(us:53)(vs:08)(Q:aW)(E:bD),f5 k A→x2 P w K ah 02 A 91 s H→Ds s fd args 908→a92→sp vs H Q E→qI 289 A (.call 590 args) (dI CX 91 P w H s Q E) s
theorem eP.mono{P:f3}{w:ff}{K:bo}{ah:261}{base:dk}{CX:pJ}{j k:Nat}{f:ag}{fd:k6}{ps:225}{sp:mM}(F:eP P w K ah 02 CX j f fd ps sp)(h:j≤k):eP P w K ah 02 CX k f fd ps sp:=⟨F.len,fun A outer s H args us vs Q E aq=>F.run A 91 s H args us vs Q E (aq.mono h)⟩
theorem eP.imp{k:Nat}{Dt:mM}(F:eP P w K ah 02 CX k f fd ps sp)(h:e08 (Dt vs H Q E) (sp vs H Q E)):eP P w K ah 02 CX k f fd ps Dt:=⟨fun vs H Q E q=>F.len vs H Q E (h _ _ _ _ q),fun A outer s H args us vs Q E aq he aa a3 aL=>F.run A 91 s H args us vs Q E aq he aa a3 (h _ _ _ _ aL)⟩
theorem x2.make{s:aZ}(e:x2 P w K ah 02 A 91 s H)(C:ag)(us:53)(kw:821 aH):x2 P w K ah 02 (f97 ⟨236::us,kw⟩) 91 s H:=⟨by first|exact e.frames|(simpa[Xi,Code.envs,Xj,pushEnvs]using e.frames),e.mod,e.bs,e.qA,e.ow,e.vn,e.bB,e.bare⟩
section
variable{σ:bq}{s s':aZ}
theorem aQ.HE(I:24):x2 61 X.w X.K 508 341 X.A 676 s H:=⟨k99,I.ok.mod,I.bs,g48 I.qB,I.stack,I.Ha,274,579⟩
theorem aQ.after{Q:aW}(I:24)(h:HD 676 61 X.w H s Q u s'):hK X 07 σ Q u s':=by obtain⟨v,H',os,bare,un,bB,r,q⟩:=h;obtain⟨dh,g,d,t,oD⟩:=s';obtain rfl:oD=s.os:=os;exact⟨v,H',I.call (h':=dh) (g':=g) (d':=d) (t':=t) (ch:=[]) un bB bare (l44 (151 z)),r,q⟩
end
def Xl(sp:mM)(h6:08)(E:bD)(t:fG):ct:=262 (t σ H (728 (sp (vs++h6) H1 Q E)))
inductive Xm(C:ag)(m:Str)(sp:mM)(h6:08)(E:bD)(t:fG)(σ:bq)(Q:aW)(x:ae)(H1:av):04|mk:∀a dx bl,x=38→H1 a=854→d10 m=00→(t σ H1 (fun vs aB=>sp (x::(vs++h6)) aB Q E))→Xm C m sp h6 E t σ Q x H1
def HF(C:ag)(m:Str)(sp:mM)(h6:08)(E:bD)(bW:ct)(t:fG):ct:=262 (bW σ H (291 (Xm C m sp h6 E t σ Q x H1)))
def HG(C:ag)(sp:mM)(h6:08)(E:bD)(t:fG):ct:=262 (t σ H (728 (∀x dx,H1 x=00→H1 dx=00→dx≠x→sp (438::(vs++h6)) (264 (upd H1 dx 641) x C []) (k95 (v=.b4∧515 x aB)) E)))
def lr(K:bo)(fd:k6)(ps:225)(ds:53):04:=f92 (d83→d69 (us++ds)→Ds s fd 916 (ps.zip (us++ds)))
theorem lr.all(h:∀us:53,b79→bindArgs fd 916=pure 908):lr K fd ps []:=fun s us _ ax=>by rw[nh]at ax⊢;exact .of_eq (h us ax)
def n5(CX:pJ)(X:dT)(E:bD):04:=∀(pins:224)(σ:bq)(H:av)(s:aZ)(e:aH)(s':aZ),24→CX 676 H s E e s'→X.dC e s'
section
variable{k:Nat}{h6:08}{ds:53}{E:bD}{m:Str}{p:Pos}{o:dn}{aR:439}{t:fG}
theorem Nw{σ:bq}{s:aZ}{Q:aW}{vs:08}(F:eP 61 X.w X.K 508 341 CX k f fd ps sp)(aq:656 k)(aa:c77)(hd:cc h6 ds)(ai:n5 CX X E)(I:24)(r:a92)(h:sp (vs++h6) H Q E):a9 47 X.A (kZ 590 us) 497 68 s:=by
 have cT:cc (vs++h6) (us++ds):=l42 hd;have ax:d69 (us++ds):=by rw[←cT.length];exact F.len _ _ _ _ h
 refine HH (x3 (F.run X.A 676 s H 916 (us++ds) (vs++h6) Q E aq I.HE (aa s us I.gF ax) cT h) (fun r s' aw=>?_))
 cases r with|error e=>exact ai 07 σ H s e s' I aw|ok c9=>cases c9 with|ret u=>exact I.after aw|next=>exact gI aw|brk=>exact gI aw|cont=>exact gI aw
theorem alC(F:eP 61 X.w X.K 508 341 CX k f fd ps sp)(aq:656 k)(a4:797)(hm:a97=46 f)(aS:066 X.K=01)(aa:c77)(hd:cc h6 ds)(ai:n5 CX X E)(aN:hZ X (e::aR) t)(lH:(x==598)=09:=by decide)(he:657=391::459:=by rfl)(eH:a70:=by rfl):a56 x (e::aR) (Xl sp h6 E t):=by rw[A13];refine vG (xJ I a4 hm ?_ lH);refine HI (h₀:=341) h87 aS (l70 (aN pos 07 s σ H _ I h) j48) he eH;exact Nw F aq aa hd ai aX r q
theorem alD(he:757 o)(c:946 C)(hm:Ca X.K C m f)(F:eP 61 X.w X.K 508 341 CX k f fd ps sp)(aq:656 k)(aa:c77)(hd:cc h6 ds)(ai:n5 CX X E)(aN:hZ X (e::aR) t)(gq:657=391::459:=by rfl)(eH:a70:=by rfl)(bk:405 (.Call (481 m apos) (e::aR) [] pos)=(do
 let dA←cE o X.env
 xP apos.atName
 let(f,first)←nz [dA] (Ab dA m pl)
 Ad pos f first (hA pos (dc (e::aR) X.env)) (xZ pos (x1 [] X.env))):=by rfl):bF X (.Call (481 m apos) (e::aR) [] pos) (HF C m sp h6 E bW t):=by rw[A13];refine Xh (pl:=pl) (bY (he 07 s σ H _ I h) (r64 ?_)) bk;rw[A25];rw[A38 u];refine Nn aX d1 c hm l ?_;refine HI (first:=254) (h₀:=341) h87 hm.fC (bY (aN pos 07 s1 σ H1 _ aX q) (fun us s2⟨vs,aB,b5,r,cf⟩=>328 b5.gF)) gq eH;exact Nw (us:=38::us) (vs:=38::vs) F aq aa hd ai b5 (.cons rfl r) cf
theorem alE(he:757 o)(c:946 C)(hm:Ca X.K C m f)(F:eP 61 X.w X.K 508 341 CX k f fd ps sp)(aq:656 k)(aa:c77)(hd:cc h6 ds)(ai:n5 CX X E)(bk:405 (.Call (481 m apos) [] [] pos)=(do
 let dA←cE o X.env
 xP apos.atName
 let(f,first)←nz [dA] (Ab dA m pl)
 Ad pos f first (hA pos (dc [] X.env)) (xZ pos (x1 [] X.env))):=by rfl):bF X (.Call (481 m apos) [] [] pos) (HF C m sp h6 E bW qK):=by rw[A13];refine Xh (pl:=pl) (bY (he 07 s σ H _ I h) (r64 ?_)) bk;rw[A25];rw[A38 u];refine Nn aX d1 c hm l ?_;exact alF (first:=254) aX.gF hm.fC (Nw (us:=254) (vs:=254) F aq aa hd ai aX (386 rfl) q)
structure HJ(K:bo)(C f:ag):04 where
 makes:Nl K C=01
 init:r7 K 236 421=871
 fn:Nk K 590=01
 fC:oB K 236=01
theorem Xn{σ:bq}{s:aZ}{Q:aW}{vs:08}(M:HJ X.K C f)(F:eP 61 X.w X.K 508 341 CX k f fd ps sp)(aq:656 (k+1))(aa:c77)(hd:cc h6 ds)(ai:n5 CX X E)(I:24)(r:a92)(h:∀x dx,H x=00→H dx=00→dx≠x→sp (438::(vs++h6)) (264 (upd H dx 641) x C []) (k95 (v=.b4∧515 x aB)) E):a9 47 X.A (kZ 236 us) 497 68 s:=by
 have aw:=h 288 18 (081 163) 684 (fk (zG _));have b5:=aQ.made (C:=C) I;have cT:cc (882 288::(vs++h6)) (da 288::(us++ds)):=.cons rfl (l42 hd);have ax:d69 (da 288::us++ds):=by have e:=cT.length;rw[F.len _ _ _ _ aw]at e;exact e.symm
 refine HH (alr (f:=f) I.gF M.makes M.init (beq_iff_eq.mp M.fn) (x3 (F.run _ 676 _ _ (644 (da 288::us)) (da 288::(us++ds)) _ _ E (aq.make C us []) (b5.HE.make C us []) (aa _ (da 288::us) b5.gF ax) cT aw) (fun r s' iz=>?_)))
 cases r with|error e=>exact ai 07 σ _ _ e s' b5 iz|ok c9=>cases c9 with|ret u=>rw[D26 (b5.after iz)];subst ev;exact⟨cV,⟨882 288,H',el,rfl,eC⟩⟩|next=>exact gI iz|brk=>exact gI iz|cont=>exact gI iz
theorem alG(M:HJ X.K C f)(F:eP 61 X.w X.K 508 341 CX k f fd ps sp)(aq:656 (k+1))(a4:797)(hm:a97=46 C)(aa:c77)(hd:cc h6 ds)(ai:n5 CX X E)(aN:hZ X (e::aR) t)(lH:(x==598)=09:=by decide)(he:657=391::459:=by rfl)(eH:a70:=by rfl):a56 x (e::aR) (HG C sp h6 E t):=by rw[A13];refine vG (xJ I a4 hm ?_ lH);refine HI (h₀:=341) h87 M.fC (l70 (aN pos 07 s σ H _ I h) j48) he eH;exact Xn M F aq aa hd ai aX r q
theorem alH(M:HJ X.K C f)(F:eP 61 X.w X.K 508 341 CX k f fd ps sp)(aq:656 (k+1))(a4:797)(hm:a97=46 C)(aa:c77)(hd:cc h6 ds)(ai:n5 CX X E)(lH:(x==598)=09:=by decide):a56 x [] (HG C sp h6 E qK):=by intro pins s σ H Q I h;refine vG (xJ I a4 hm ?_ lH);exact alF I.gF M.fC (Xn (us:=[]) M F aq aa hd ai I 89 h)
end
section
variable{k:Nat}{cS:225}{E:bD}{m:Str}{p aA2:Pos}{o:dn}{aR:439}{aA3:List HK}{t tk:fG}{nm:241 Str}
variable{g:53→53→53}{aA4:08→08→08}
end
structure b3(N P:225)(sc:rp):04 where
 kind:i09 sc.kind
 co:sc.isCoroutine=09
 gen:sc.isGenerator=09
 az:N.Nodup
 pre:N.take P.length=P
 par:∀x∈P,a22=492∨a22=493
 alI:∀y∈sc.names,y.2≠.free
theorem Xo{kindOf:j34 pK}{x:Str}:∀{binds:821 aH}{m:261},(∀v,(x,v)∉binds)→k04 binds m x=m x
 |[],_,_=>rfl
 |(n,v)::r,m,h=>by
  unfold bindL;rw[Xo (l43 (h w (d4 _ hw)))];split
  ·have:x≠n:=p29 (h v dO);simp[this]
  ·rfl
theorem Xp{kindOf:j34 pK}{x:Str}:∀{binds:821 aH}{m:261},(∀v,(x,v)∉binds)→bindC kindOf binds m x=m x
 |[],_,_=>rfl
 |(n,v)::r,m,h=>by
  unfold bindC;rw[Xp (l43 (h w (d4 _ hw)))];split
  ·rfl
  ·have:x≠n:=p29 (h v dO);simp[this]
theorem Xq{kindOf:j34 pK}{x:Str}{v:aH}:∀{P:225}{vs:53}{i:Nat}{m:261},P.Nodup→P[i]?=43→vs[i]?=54→kindOf x=492→k04 g57 m x=54|[],_,_,_,_,h,_,_=>501|_::_,[],_,_,_,_,h,_=>501|p::P,w::vs,0,m,az,af,ak,aS=>by simp at af ak;subst af;subst ak;show k04 ((p,w)::g57) m p=_;unfold bindL;rw[Xo (k44 ((e39).1 (Xr a3).1)),168];simp|p::P,w::vs,i+1,m,az,af,ak,aS=>by show k04 ((p,w)::g57) m x=_;unfold bindL;exact Xq (i:=i) (e39).2 f56 o16 aS
theorem alJ{kindOf:j34 pK}{v:aH}{P:225}{m:261}:P.Nodup→P[i]?=43→vs[i]?=54→kindOf x≠492→bindC kindOf g57 m x=54:=by
 intro az af ak aS
 induction P generalizing vs i m with
  |nil=>simp at af
  |cons p P ih=>
   cases vs with
    |nil=>simp at ak
    |cons w vs=>
     show bindC kindOf ((p,w)::g57) m x=_;unfold bindC
     cases i with|zero=>simp at af ak;subst af;subst ak;rw[Xp (k44 ((e39).1 (Xr a3).1)),134];simp|succ i=>exact ih (i:=i) (e39).2 f56 o16
def start(N:225)(vs:08):bq:=vs.map some++iM (N.length-a02) 00
def x4(CX:pJ)(P:f3)(w:ff)(K:bo)(ah:261)(base:dk)(N:225)(qual:Str)(scope:rp)(f:ag)(cd:aH)(A:rT)(outer:596)(s:aZ)(H:av)(E:bD):dT where
 prog:=P
 w:=w
 K:=K
 ah:=ah
 base:=base
 A:=g22 74 42 f cd
 N:=N
 iU:=s
 xF:=H
 env:=qL 74 42 18 f cd
 outer:=outer
 stack:=qL 74 42 18 f cd::91
 ex:=[]
 calm:=true
 fn:=290 01
 iQ:=[]
 dC:=fun e s'=>a9 289 (g22 74 42 f cd) (leaving (qL 74 42 18 f cd) e) (fun _ Nx=>CX 91 H s E e Nx) (fun bZ Nx=>CX 91 H s E bZ Nx) s'
theorem Xs(h:a22=493):∃c,805 (kc n sc.names []) x=73:=by have q:=alK sc.names n [] a64;exact ahE.mp q
theorem alL{cd:aH}{s s1:aZ}{E:bD}{vs:08}(S:b3 N ps 42)(hd:595)(dw:x2 P w K ah 02 A 91 s H)(ax:f95)(r:a92)(x:InCallC s 18 (bindL (qL 74 42 18 f cd).kindOf 908 d74) (kc 288 477 []) (bindC (qL 74 42 18 f cd).kindOf 908 d74) s1):aQ (x4 CX P w K ah 02 N 74 42 f cd A 91 s H E) [] e62 H s1:=by
 have eH:744≤N.length:=by have:=137 S.pre;rw[eS]at this;lia
 obtain⟨af,tk,rfl,aS⟩:=x.done;have Ae:∀b:ag,b∉(x4 CX P w K ah 02 N 74 42 f cd A 91 s H E).ex:=l44 (151 (l05 (b∈([]:27))));refine⟨⟨dw.mod,S.kind,rfl,rfl,64,fun y z c af ak=>?_,a74,fun y c _ h=>?_,290 hd,Around.frames_deeper dw.frames,.inr 149,l44 (69 z (Ae b)),dw.bs,dw.qA,fun b _ _=>Ae b,l44 (69 z (Ae b)),dw.ow,dw.vn⟩,rfl,dw.bare,ir.kept aS,⟨_,x.toInCall.ns,fun i y v af ak a6=>?_⟩,fun y c h=>404 (x.cell y c h),dw.bB.fresh 64,fun y c h=>?_,367 (151 (p19 (p∈([]:224)))),dw.bB.kept aS,?_⟩
 ·exact name_of_addr x.apart (nD af) (nD ak)
 ·have aC:a15=493∨a15=779:=aC;rcases aC with aC|aC
  ·exact Xs aC
  ·rw[A64 (S.alI _ (nD aC))]
 ·exact xH (x.above y c (nD h))
 ·have hi:i<a02:=by
   unfold start at ak;rw[A65 (i<a02)]
   ·exact hi
   ·rw[w1 k60]at ak;rw[Ma]at ak;split at ak<;>cases ak
  have aN:vs[i]?=54:=by
   unfold start at ak;rw[mN k60,cK]at ak
   cases e:vs[i]? with|none=>rw[e]at ak;cases ak|some a=>rw[e]at ak;cases ak;rfl
  obtain⟨u,bp,cV⟩:=r.get aN;have au:ps[i]?=270:=by rw[←S.pre,List.getElem?_take_of_lt 03];exact af
  have Xu:ps.Nodup:=by rw[←S.pre];exact S.az.sublist (List.take_sublist _ _)
  rw[A20 u cV];rcases S.par y (cG au)with k|k
  ·rw[A23 k (Xq Xu au bp k)]
  ·obtain⟨c,e⟩:=Xs (n:=288) k;refine .inr ⟨172,c,e,?_⟩;have q:=x.cell y c e;rw[alJ Xu au bp (by show a15≠_;rw[k];decide)]at q;exact q
 ·exact dw.bB.fresh (xH (x.above y c (nD h)))
 ·unfold start;show _=N.length;rw[cn,ba,ph];lia
theorem Ny{k:Nat}{Nz ec pm:aH}(e5:710 f (c52 ig cQ (tK 234 74 params body 42 Nz ec doc pm an bx ek) k7))(ny:Du K bx 74=01)(S:b3 N ps 42)(len:e08 (sp vs H Q E) f95)(Dv:∀(A:rT)(outer:596)(s:aZ)(H:av)(vs:08)(Q:aW)(E:bD),f5 k (g22 74 42 f bx)→sp vs H Q E→∃t,mJ (x4 CX P w K ah 02 N 74 42 f bx A 91 s H E) body t∧t j81 e62 H):eP P w K ah 02 CX (k+1) f (tK 234 74 params body 42 Nz ec doc pm an bx ek) ps sp:=by
 rw[A03 len (fun A outer s H args us vs Q E aq dw aa r pL=>?_)];have ax:=len _ _ _ _ pL;have h7:d83:=dw.mod.qz.keeps (351 (dw.bs b o e).1);have lim:s.heap.NoLimit:=dw.mod.nolimit.keeps (351 (dw.bs b o e).1);have alM:∀y∈908,i41=492∨(i41=493∧736 (805 (kc 288 477 []) y.1)=01):=fun⟨n,v⟩aC=>by
  rcases S.par n (Xr aC).1 with q|q
  ·rw[A17 q]
  ·rw[A09 ⟨q,alK _ _ _ (.inl q)⟩]
 refine codeAny_call_function aq.depth (h7 _ _ e5) rfl S.co S.gen rfl (PySem.W.codeRec_of h7 ny) (aa _ _ _ _ ?_);refine wpAny_newFunctionEnv_cells S.kind alM (fun env he s1 x=>?_);subst he;rw[A03 (lim.keeps x.toInCall.keep) (codeAny_func ?_)];obtain⟨t,bk,aw⟩:=Dv A 91 s H vs Q E (aq.deeper _) pL;have I:aQ (x4 CX P w K ah 02 N 74 42 f bx A 91 s H E) [] e62 H s1:=alL S aq.hd dw ax r x;refine j_ (bk [] s1 e62 H _ I aw) (fun c9 s' aL=>?_) (fun e s' aL=>aL);have fin:∀{cb:bq}{H':av}{v:ae}{u:aH},aQ (x4 CX P w K ah 02 N 74 42 f bx A 91 s H E) [] cb H' s'→466→Q v H'→HD 91 P w H s Q u s':=fun{cb H' v u:_}fu cV q=>⟨v,H',fu.os,fu.bare,fu.base,fu.bB,cV,q⟩
 cases c9 with|ret u=>obtain⟨v,cb,H',fu,cV,q⟩:=aL;exact fin fu cV q|next=>obtain⟨cb,H',fu,q⟩:=aL;exact fin (v:=817) (u:=fh) fu rfl q|brk=>rw[D56];exact gI q|cont=>rw[D56];exact gI q
end
section
variable{A:rT}{I a b c d f p t:ag}{E Q:aH→aZ→Prop}{F:List (List Nat)}{K:bo}{prog:f3}{apos fD lK pos:Pos}{S:ag→Prop}{T:String}{a0 its' us vs:List aH}{as:List ag}{aG e value:dn}{aR:Array Il}{acc:List (Str×ag)}{u:aH}{o:Obj}{pins:List (ag×Obj)}{dd:Option ag}{c0 dS i j n t':Nat}{h h':dk}{l:List Nat}{ns r:List Int}{dP:Array (Option aH)}{ds:List WData}{α:Type}{items:Array aH}{name x:Str}{pl:Sem Bool}{q:Search}{s s':dt}{tk:Tok}{v:Word}{w:ff}{m:g0}{kvs:List (List cF×ae)}{xs ys:List ae}{y:ae}{H H' H1 aB:av}{bC:dz}{X:dT}{bW c7 to ty:ct}{tb:gH}
section
variable{p:Pos}{aR:439}{t:fG}{id:String}{r:928}
def NA(r:928)(t:fG):ct:=262 (t σ H (728 (r vs H1 Q)))
theorem d6(ar:iy X (399 id) r)(a4:797)(hm:a97=00)(a3:rS x=some 995)(aN:hZ X (e::aR) t)(aU:g25 x:=by decide)(lH:(x==598)=09:=by decide)(he:657=391::459:=by rfl)(eH:a70:=by rfl):a56 x (e::aR) (NA r t):=by rw[A13];refine vG (qD I a4 hm a3 ?_ aU lH);exact PyProof.Rows.callWith_builtin1 (988 (aN pos 07 s σ H _ I h) (ar 07 s1 σ H1 vs us Q aX bU bg)) he eH
theorem l_(ar:iy X e00 r)(a4:797)(hm:a97=00)(a3:rS x=some e00)(aN:hZ X (e::aR) t)(aU:g25 x:=by decide)(lH:(x==598)=09:=by decide)(he:657=391::459:=by rfl)(eH:a70:=by rfl):a56 x (e::aR) (NA r t):=by rw[A13];refine vG (qD I a4 hm a3 ?_ aU lH);exact tH (988 (aN pos 07 s σ H _ I h) (ar 07 s1 σ H1 vs us Q aX bU bg)) he eH
end
namespace HT
section
open PySem.SeqAt
open PySem.AutoSeq1(wpAny_loadPart')
open PySem.MeetsSeq PySem.MeetsSeq2 PySem.MeetsSeq3
end
section
variable{s:aZ}
def eQ(n d:Nat):307→Nat|none=>d|some v=>13 (v<0) (271 (v+44)) (min v.toNat n)
theorem HL(n d:Nat):eQ n d 00=d:=rfl
theorem r_(n d k:Nat):eQ n d (some 82)=min k n:=by show(13 (82<0) (271 (82+44)) (min (k:Int).toNat n))=min k n;rw[124,kA]
theorem Xv(n d:Nat)(hd:d≤n)(o:307):eQ n d o≤n:=by
 cases o with
  |none=>exact hd
  |some v=>
   show(13 (v<0) (271 (v+44)) (min v.toNat n))≤n;by_cases a3:v<0
   ·rw[21 a3];lia
   ·rw[23 a3];exact Af _ _
end
end HT
abbrev TO:=bq→637 (546 307)
def HM(X:dT)(e:241 dn)(t:TO):04:=l79 224 307 (24→t σ H Q→a9 47 X.A (evalPart e 55) (fun u s'=>∃o H',050∧IsPart u o∧Q o H') 68 s)
def alN:TO:=j65 00 H
inductive Xw(Q:546 307)(x:ae)(H1:av):04|mk:∀i,x=260→Q 604 H1→Xw Q x H1
def alO(t:ct):TO:=262 (t σ H (291 (Xw Q x H1)))
section
variable{lo hi:241 dn}{c5 HN:TO}
theorem vH:HM X 00 alN:=by intro pins s σ H Q I h;rw[Xx];exact cx ⟨00,H,I,87,h⟩
theorem ma(h:530):HM X (some e) (alO c7):=by rw[D55];rw[Xy];refine bY (h 07 s σ H _ I hw) (r63 ?_);obtain⟨i,rfl,q⟩:=bg;rw[B86];exact⟨604,H1,aX,706,q⟩
def HO(X:dT)(r:ae→307→307→637 aW):04:=∀(pins:224)(s:aZ)(σ:bq)(H:av)(x:ae)(v sa sb:aH)(lo hi:307)(dP:ag)(Q:aW),24→719→s.heap.IsSliceOf dP sa sb 87→IsPart sa lo→IsPart sb hi→r x lo hi H Q→∃T id,lI e00 "__getitem__"=pure (some 995)∧s.TypeIs v T∧a9 47 X.A (z1 v (.ref dP)) 497 68 s
def alP(r:ae→307→307→637 aW)(c7:ct)(c5 HN:TO):ct:=262 (c7 σ H (291 (c5 σ H1 (fun l aB=>HN σ aB (fun u a5=>r x l u a5 Q)))))
theorem pM{r:ae→307→307→637 aW}(aq:HO X r)(he:530)(ax:HM X lo c5)(bp:HM X hi HN):bF X (a26 e (.Slice lo hi 00 fD)) (alP r c7 c5 HN):=by rw[A13];refine NB (875 (he 07 s σ H _ I h));refine wpAny_Slice (bY (ax 07 s1 σ H1 _ aX bg) (q41 (bY (bp 07 s2 σ aB _ b5 cf) (q42 ?_))));rw[Xx];refine 345;have jw:aQ X 07 σ a5 (g67 #[sa,sb,87]):=el.kept (t':=s3.toks) (g02 _ q);obtain⟨T,id,bR,bk,a4⟩:=aq 07 (g67 #[sa,sb,87]) σ a5 x v sa sb l u 679 Q jw bU (alQ ..) pl pu eC;show a9 47 X.A (NC e (.Slice lo hi 00 fD) v i47) 497 68 (g67 #[sa,sb,87]);exact tail_any (ops:=[i47,v]) bk bR a4 (by with_unfolding_all rfl)
def mb(xs:08)(lo hi:307):08:=221 (xs.drop (d65 0 lo)) (d65 57 hi-d65 0 lo)
theorem alR(xs:08)(lo hi:307):11 (mb xs lo hi)≤57:=by unfold mb;rw[eS,fV];exact cX (Af _ _) (Xz _ _)
end
def qM(n:Nat)(i:Int):241 Nat:=13 (0≤i) (13 (i<n) (some i.toNat) 00) (943 (-44≤i) (271 (i+n)))
def pN(xs:40)(i:Int):241 α:=331 (qM 57 i) (c95 xs[j]?)
theorem XA{i:Int}(h:qM n i=some j):seqIndex? i n=some j∧j<n∧-44≤i∧i<n:=by
 unfold qM at h;by_cases h0:0≤i
 ·rw[21 h0]at h;rw[A72 (i<n)]
  ·rw[169]at h;have e:i.toNat=j:=cI h;exact⟨by rw[XB h0 af,e],03,03,af⟩
  ·rw[153]at h;cases h
 ·rw[23 h0]at h;rw[A72 (-44≤i)]
  ·rw[169]at h;have e:271 (i+n)=j:=cI h;exact⟨by rw[XC 03 af,e],03,af,03⟩
  ·rw[153]at h;cases h
theorem ND{xs:40}{i:Int}{v:α}(h:pN xs i=54):∃j,seqIndex? i 57=some j∧xs[j]?=54∧j<57∧-15 57≤i∧i<57:=by
 unfold pN at h
 cases e:qM 57 i with|none=>rw[A49];cases h|some j=>rw[A49];obtain⟨af,ak,a6,bH⟩:=XA e;exact⟨j,af,h,ak,a6,bH⟩
theorem fm{xs:40}{v:α}(h:xs[j]?=54):pN xs (15 j)=54:=by
 have bS:j<57:=159 h;have e:qM 57 (15 j)=some j:=by unfold qM;rw[118,118];simp
 unfold pN;rw[e];exact h
theorem alS(xs:40)(v:α):pN (xs++[v]) (-1)=54:=by
 have ax:11 (xs++[v])=57+1:=19;have e:qM (11 (xs++[v])) (-1)=some 57:=by unfold qM;rw[ax,107,118];congr 1;lia
 unfold pN;rw[e];show(xs++[v])[57]?=54;simp
def alT(b:dn):04:=∀o i,NF b 09 o i=operate [o,i] (z1 o i)
def Ag(X:dT)(r:r2):04:=∀(value slice:dn)(pins:224)(s:aZ)(σ:bq)(H:av)(x y:ae)(v u:aH)(Q:aW),24→719→465→r x y H Q→NF slice 09 v u=operate [v,u] (z1 v u)→a9 47 X.A (NC 677 slice v u) 497 68 s
def qN(X:dT)(id:String)(r:ae→928):04:=r56 224 08 53 (24→719→651→r x xs H Q→a9 47 X.A (kZ 995 (v::us)) 497 68 s)
section
variable{a b:dn}{tb:ct}
theorem e6{r:r2}(aq:Ag X r)(aN:658)(aa:945 b)(aL:alT b):bF X (a26 a b) (r3 r bW tb):=i14 (NB (M_ aN aa I h (p28 (aq a b 07 s2 σ aB x y v u Q b5 bw bQ q (aL _ _)))))
inductive HP(K:bo)(x:ae)(y:ae)(H:av)(Q:aW):04|mk:∀p xs i v,x=280→y=260→aJ K H p xs→pN xs i=54→Q v H→HP K x y H Q
inductive NG(K:bo)(x:ae)(y:ae)(H:av)(Q:aW):04|mk:∀p xs i v,x=280→y=260→dX K H p xs→pN xs i=54→Q v H→NG K x y H Q
inductive XD(x:ae)(y:ae)(H:av)(Q:aW):04|mk:∀z i c,x=931→y=260→431≤bc→pN z.cps.toList i=73→Q a84 H→XD x y H Q
theorem alU:Ag X (HP X.K):=by
 rw[C66];rw[D54];rw[A07];rw[C64];rw[B34 aw];rw[C02 he];rw[C06 ak];rw[B85];rw[B06];have fin:hK X 07 σ Q w s:=⟨z,H,I,oE,q⟩;by_cases h0:0≤i
 ·have bS:i.toNat=j:=by rw[XB h0 fX]at af;exact cI af
  exact item_listR 965 h0 03 r62 fin aL
 ·have bS:271 (i+m17)=j:=r60 (XC 03 bH) (cI af);exact alV (x:=w) r57 o25 (wpAny_getItem_list_neg (Q:=fun r s'=>r=w∧hK X 07 σ Q r s') 965 03 o24 03 r62 (119 fin)) aL
theorem alW:Ag X (NG X.K):=by rw[C66];rw[D54];rw[A07];rw[C64];rw[B93 b98];rw[C02 he];rw[C06 ak];rw[B85];rw[B06];have fin:hK X 07 σ Q w s:=⟨z,H,I,oE,q⟩;exact alV (x:=w) pl.typeIs slot_tuple_getitem.lookup (getItem_tuple (j:=j) (Q:=fun r s'=>r=w∧hK X 07 σ Q r s') pl 03 03 (by rw[gu,←ax];exact af) r17 (119 fin)) aL
theorem XF:Ag X XD:=by rw[C66];obtain⟨z,i,c,rfl,rfl,hz,he,q⟩:=h;rw[A12];rw[A19];rw[C02 he];have ax:z.cps.toList.length=431:=r25;rw[ax]at af bH fX;rw[B06];exact tail_any (NH s z t) slot_str_getitem.lookup (getItem_str (c:=c) (by have aK:29 (i< -15 (2^0x3f))=09:=133;have aG:29 (i≥2^0x3f)=09:=133;rw[aK,aG,wU]) (by rw[af];simpa using ak) ⟨a84,H,279,282,q⟩) aL
theorem alX(a0:53)(n j:Nat)(u:aH):sd r61 c39=990 (b15 (810 (a0.set j u))):=by simp[sd]
theorem aQ.lst{σ:bq}{s:aZ}(I:24)(h:H p=526):m65 (cc xs a0∧393 p c39∧052):=r54 (613 p h) ⟨a0,n,r,e,z⟩
theorem aQ.alY{σ:bq}{s:aZ}{qE:Nat}{f:Obj→Obj}(I:24)(h:H p=526)(a8:393 p c39)(hf:f c39=990 (.seq p26 qE))(r:cc ys its')(hz:675≤bc)(t:Nat):aQ X 07 σ (34 H p ys) {s with heap:=982 p f,toks:=t}:=by
 have e:(982 p f).get? p=some (990 (.seq p26 qE)):=by rw[x5 f a8 (by rw[hf]<;>rfl),hf]
 refine I.write (x:=p) (e:=p) (by rw[h];trivial) 253 (fun b u aa q=>35 (vI _ _ h02) q) (404 e) ?_;exact⟨hz,its',qE,r,e⟩
inductive XG(o:ae)(i:ae)(v:ae)(H:av)(Q:856):04|mk:∀p xs k j,o=280→i=c84→H p=526→qM 57 k=some j→Q (34 H p (xs.set j v))→XG o i v H Q
theorem TS:MU X XG:=by
 intro pins s σ H o i v dA gV u Q I n9 Ah cV h;obtain⟨p,xs,k,j,rfl,rfl,au,bS,q⟩:=h;cases n9;obtain⟨t,rfl⟩:=Ah;obtain⟨a0,n,r,a8,hz⟩:=I.lst au;obtain⟨af,ak,a6,bH⟩:=XA bS;rw[B85];rw[B06];have jV:aQ X 07 σ (34 H p (xs.set j v)) (621 (982 p (sd r61))):=I.alY au a8 (alX a0 n j u) (r.set cV j) (by rw[mC];exact hz) 233;by_cases h0:0≤k
 ·have aS:d27=j:=by rw[XB h0 bH]at af;exact cI af
  exact PySem.W.ki_setAt a8 h0 03 (by rw[gu,←ax];exact bH) (by rw[aS];exact⟨_,jV,q⟩)
 ·have aS:271 (k+m17)=j:=r60 (XC 03 a6) (cI af);exact PySem.W.ki_setBack a8 03 (by rw[gu,←ax];exact a6) 03 (by rw[aS];exact⟨_,jV,q⟩)
theorem alZ(lo hi:307)(n:Nat):(k8 lo hi 00 n).1=52 (049 0 lo)∧(k8 lo hi 00 n).2.1=52 (049 n hi)∧(k8 lo hi 00 n).2.2=1:=by
 have key:∀i:Int,(k8 604 00 00 n).1=52 (049 0 604):=by
  intro i;simp only[k8,HT.eQ,Option.getD_none,show 15 1>0 by decide,if_true];rw[A39 (i<0)]
  ·simp only[h,if_true]<;>lia
  ·simp only[h,if_false]<;>lia
 refine 715 ?_ ?_
 ·cases lo with|none=>simp[k8,HT.eQ]|some i=>exact key i
 ·cases hi with|none=>simp[k8,HT.eQ]|some i=>exact key i
theorem al0(a0:53)(lo hi:307):NI 275 lo hi 00=810 (221 (a0.drop (HT.eQ b47 0 lo)) (HT.eQ b47 b47 hi-HT.eQ b47 0 lo)):=by obtain⟨af,ak,a6⟩:=alZ lo hi b62;unfold NI;rw[af,ak,a6];simp only[sliceRange_one,pick_run,gu]<;>rfl
inductive NJ(K:bo)(x:ae)(lo:307)(hi:307)(H:av)(Q:aW):04|mk:∀a xs,x=38→464→(∀p,H p=00→838 p H p (mb xs lo hi))→NJ K x lo hi H Q
theorem al1:HO X (NJ X.K):=by rw[D38];obtain⟨a,xs,rfl,ai,q⟩:=h;rw[A07];obtain⟨a0,r,bk,hz⟩:=678 ai;rw[B79];refine⟨500,_,o25,q40,?_⟩;refine al2 bk.isList aL pl pu 87 19 ?_ o24;rw[al0,←hlen];refine⟨277,_,I.laid (t':=233) (o:=.lst (mb xs lo hi)) (g02 _ q) 64 ?_,rfl,q _ 684⟩;exact⟨cX (alR xs lo hi) hz,_,0,221 (a06 (d65 0 lo)) (d65 57 hi-d65 0 lo),111⟩
def oF:482 ae|.b4=>01|.bN _=>01|.int _=>01|.str _=>01|_=>09
def se:ae→482 ae|.b4,.b4=>01|.bN a,.bN b=>a==b|.bN a,.int b=>(13 a 1 0)==b|.int a,.bN b=>a==(13 b 1 0)|.int a,.int b=>a==b|.str a,.str b=>a==b|_,_=>09
theorem al3{s:aZ}{x:ae}{v:aH}(bQ:465)(bw:719)(NK:oF y=01)(sf:oF x=01):SeqAt.EqAt A s u v (se y x):=by
 cases y with
  |b4=>
   rw[A24]
   cases x with|b4=>rw[A07];exact SeqAt.EqAt.same _|bN b=>rw[A07];exact SeqAt.EqAt.none_bool b|int b=>rw[A12];exact SeqAt.EqAt.none_int b t|str b=>rw[A12];exact SeqAt.EqAt.none_str b t|_=>rw[B71 934 hB]
  |bN a=>
   rw[A24]
   cases x with|b4=>rw[A07];exact SeqAt.EqAt.bool_none a|bN b=>rw[A07];exact SeqAt.EqAt.bool_bool a b|int b=>rw[A12];exact SeqAt.EqAt.bool_int a b t|str b=>rw[A12];exact SeqAt.EqAt.bool_str a b t|_=>rw[B71 934 hB]
  |int a=>
   rw[A19]
   cases x with|b4=>rw[A07];exact SeqAt.EqAt.int_none a t'|bN b=>rw[A07];exact SeqAt.EqAt.int_bool a t' b|int b=>rw[A12];exact SeqAt.EqAt.int_int a t' b t|str b=>rw[A12];exact ajX a t' b t|_=>rw[B71 934 hB]
  |str a=>
   rw[A19]
   cases x with|b4=>rw[A07];exact SeqAt.EqAt.str_none a t'|bN b=>rw[A07];exact SeqAt.EqAt.str_bool a t' b|int b=>rw[A12];exact ajY a t' b t|str b=>rw[A12];exact SeqAt.EqAt.str_str a t' b t|_=>rw[B71 934 hB]
  |_=>exact 69 (show 934 from NK) hB
def sg(x:ae)(u:aH):Bool:=match u with|.none=>se .b4 x|.bool b=>se a80 x|.int i _=>se 260 x|.str z _=>se 931 x|_=>09
theorem HQ{x:ae}(r:465)(f:oF y=01):sg x u=se y x:=by cases y with|b4=>cases r;rfl|bN b=>cases r;rfl|int i=>rw[A53];rfl|str z=>rw[A53];rfl|_=>exact 69 (show 934 from f) hB
theorem XH{x:ae}(h:651)(f:xs.all oF=01):us.any c74=xs.any (131 (se y x)):=by induction h with|nil=>rfl|cons r _ ih=>rw[tf,hG]at f;rw[pe,pe,HQ r f.1,ih f.2]
theorem HR{A:rT}{s:aZ}{x:ae}{v:aH}(bw:719)(sf:oF x=01):∀{xs:08}{us:53},651→xs.all oF=01→∀u∈us,SeqAt.EqAt A s u v (sg x u)
 |_,_,.nil,_=>l07 (by cases bp)
 |y::xs,u::us,.cons r t,f=>fun jT bp=>by
  rw[tf,hG]at f;rcases 569 bp with rfl|bp
  ·rw[HQ r f.1];exact al3 r bw f.1 sf
  ·exact HR bw sf t f.2 jT bp
def Ai(x:ae)(xs:08):Bool:=xs.any (131 (se y x))
inductive NL(K:bo)(neg:Bool)(x:ae)(y:ae)(H:av)(Q:aW):04|mk:∀p xs,y=280→(aJ K H p xs∨dX K H p xs)→oF x=01→xs.all oF=01→(446 (13 neg (! Ai x xs) (Ai x xs)))→NL K neg x y H Q
theorem al4:j97 (NL X.K 01):=by
 rw[A45];obtain⟨p,xs,rfl,aw,sf,bl,q⟩:=h;rw[A24];rcases aw with aw|aw
 ·rw[B34 aw];refine al5 c74 965 (l43 (HR bw sf r bl w r59)) (128 _ H I ?_);rw[show a0.toArray.any c74=a0.any c74 by simp,XH r bl];exact q
 ·rw[B93 b98];refine SeqAt.notIn_tupleAt c74 pl (l43 (HR bw sf r bl w r59)) (128 _ H I ?_);rw[show a0.toArray.any c74=a0.any c74 by simp,XH r bl];exact q
inductive HS(K:bo)(xs:08)(H:av)(Q:aW):04|mk:∀p ys,xs=718→(aJ K H p ys∨dX K H p ys)→662 675→HS K xs H Q
theorem al6:g77 (HS X.K):=by
 rw[A60];obtain⟨p,ys,rfl,aw,q⟩:=h;rw[B08 r];rw[A07];rw[B06];rcases aw with aw|aw
 ·rw[B92 k05];rw[C65];exact Calls.call_len_list 965 p27 ⟨.int 675,H,279,⟨233+1,r58⟩,q⟩
 ·rw[B92 b98];rw[C65];exact len_tuple pl p27 ⟨.int 675,H,279,⟨233+1,r58⟩,q⟩
inductive XI(xs:08)(H:av)(Q:aW):04|mk:∀z,xs=[931]→431≤bc→662 431→XI xs H Q
theorem jY:g77 XI:=by rw[A60];rw[C38];rw[B36 r];rw[B06];exact len_str 03 ⟨.int 431,H,279,282,q⟩
inductive NM(K:bo)(xs:08)(H:av)(Q:aW):04|mk:∀p ys,xs=718→((aJ K H p ys∧∀l,H l=00→515 l (388 H l ys))∨(dX K H p ys∧664 H))→NM K xs H Q
theorem al7:iy X 748 (NM X.K):=by
 rw[A60];obtain⟨p,ys,rfl,h⟩:=h;rw[B08 r];rw[A07];rcases h with⟨aw,q⟩|⟨aw,q⟩
 ·rw[B92 k05];rw[C65];refine call_tuple_list 965 (fun h' fC=>?_) p27;have aX:f70:=I.kept (t':=233) fC;have b5:aQ X 07 σ (388 H n70 ys) (621 (h'.push (c01 275))):=m88 233 (903 _ e) (88 (fx 61 X.w _ _ _ (.tup ys)) ⟨hz,a0,dF,IsTup.new _ _⟩);exact 839 n70 _ b5 (q _ d55)
 ·rw[B92 b98];exact call_tuple_same pl ⟨280,H,I,rfl,q⟩
def XJ(K:bo)(T:String)(x:ae)(H:av):04:=match x with|.str _=>T=090|.int _=>T="int"|.ref p=>(T=500∧∃xs,aJ K H p xs)∨(T=809∧∃o,722 p=25∧781 748∧e51)∨(T=536∧((∃kvs,H p=c65)∨∃kvs,H p=some c05))∨(T=b30∧∃S n,H p=some (.set S n))|_=>739
theorem al8{σ:bq}{s:aZ}{x:ae}{v:aH}(I:24)(r:719)(ty:XJ X.K T x H):s.TypeIs v T∧∀a,v=38→∃bC,393 a bC∧bC.dict=00:=by
 cases x with
  |str z=>rw[A53];cases(show T=090 from ty);exact⟨NH s z t,m03⟩
  |int i=>rw[A53];cases(show T="int"from ty);exact⟨typeIs_int s i t,m03⟩
  |ref p=>
   cases r;rcases ty with⟨rfl,xs,aw⟩|⟨rfl,o,aS,ar,hd⟩|⟨rfl,aS⟩|⟨rfl,S,n,aS⟩
   ·obtain⟨a0,_,pl,_⟩:=k05;rw[A03 r57 (fun a e=>?_)];cases e;obtain⟨o,n,e,c,hd,_⟩:=pl;exact⟨o,e,hd⟩
   ·rw[A03 ⟨o,I.gF p o aS,ar⟩ (fun a e=>?_)];cases e;exact⟨o,I.gF _ o aS,hd⟩
   ·have z:∃o,586 p∧p04:=by
     rcases aS with⟨kvs,aS⟩|⟨kvs,aS⟩
     ·rw[D53 (613 p aS)];exact⟨o,e,ex⟩
     ·rw[D53 (613 p aS)];exact⟨o,e,ex⟩
    obtain⟨o,e,ex⟩:=z;rw[A03 ⟨o,e,ex.1⟩ (fun a aG=>?_)];cases aG;exact⟨o,e,ex.2.1⟩
   ·obtain⟨o,_,_,_,e,ex,_⟩:=613 p aS;rw[A03 ⟨o,e,ex.1⟩ (fun a aG=>?_)];cases aG;exact⟨o,e,ex.2.1⟩
  |_=>exact gI ty
def NN(K:bo)(T:String)(r:ae→928)(to:ct)(t:fG):ct:=262 (to σ H (291 (XJ K T x H1∧t σ H1 (fun xs aB=>r x xs aB Q))))
variable{o:dn}{aR:439}{t:fG}{id:String}{r:ae→928}
theorem al9(lJ:PlainAttrs T)(slot:Slot T 234 id)(vJ:typeOf 995=pure l82)(hm:qN X id r)(a8:c76)(aN:hZ X (e::aR) t)(qO:tJ o 234 55 932=932:=by rfl)(HU:((hA lK 657).all (72 (! x.1))&&(xZ lK (x1 [] 55)).all (72 x.1.isSome)&&29 (11 (e::aR)+074 [] (List HK)+(13 ([]:List HK).isEmpty 0 1)<0x1e))=01:=by rfl)(qP:(i55 lK.line)=01:=by rfl)(aL:657=391::459:=by rfl)(NO:(hA lK 459).any 379=09:=by rfl):bF X (.Call (481 234 apos) (e::aR) [] lK) (NN X.K T r to t):=by rw[A13];refine wpAny_Call_method_late qO HU qP rfl (bY (a8 07 s σ H _ I h) (fun v s1⟨x,H1,aX,bU,ty,bg⟩=>?_));rw[A81 (al8 aX bU ty)];refine⟨T,id,lJ,slot,vJ,af,ak,?_⟩;have di:=aN lK 07 s1 σ H1 _ aX bg;rw[aL]at di⊢;refine ama (by show(09||(hA lK 459).any 379)=09;rw[NO]<;>rfl) (amb ?_);exact bY di (fun us s2⟨vs,aB,b5,cT,cf⟩=>hm 07 s2 σ aB x vs v us Q b5 bU cT cf)
end
def NP(X:dT)(id:String)(r:ae→928):04:=r56 224 08 53 (24→719→651→r x xs H Q→a9 47 X.A (kZ 995 (v::us)) 497 68 s)
theorem cc.one{x:ae}(h:594 [x]):∃u,us=[u]∧685 x:=by cases h with|cons r t=>cases t;rw[A15 r]
theorem cc.reverse(h:651):cc xs.reverse us.reverse:=by induction h with|nil=>rw[A40]|cons r t ih=>rw[NQ,NQ];exact cc.append ih (386 r)
theorem cc.rep{xs:08}{us:53}(h:651):∀k:Nat,cc (c00 k xs) (c00 k us)|0=>89|k+1=>by rw[Aj,Aj,qs,qs];exact cc.append h (cc.rep h k)
theorem ahi(a0:53):∀(k:Nat)(acc:53),Ml (p25 (gr++gd)) acc.toArray (iM k 275)=810 (acc++c00 k a0)
 |0,acc=>19
 |k+1,acc=>by
  have e:acc.toArray++275=810 (acc++a0):=19;have aG:(acc++a0)++c00 k a0=acc++c00 (k+1) a0:=by rw[Aj,qs,jo]
  rw[←aG,←ahi a0 k (acc++a0),←e,Aj,hv]
section
variable{σ:bq}{s:aZ}{l:ag}{zs:08}
theorem aQ.NR{f:323→323}(I:24)(jy:H l=526)(e:393 l c39)(hf:f 275=p26)(a3:cc ys its')(hz:675≤bc):aQ X 07 σ (34 H l ys) (r55 (982 l (sd f))):=by have q:=PySem.IsL.update e f;rw[hf]at q;refine I.write (x:=l) (e:=l) (by rw[jy];exact trivial) 253 (fun tL u aa bp=>35 (vI 28 (sd f) h02) bp) (404 q) ?_;exact⟨hz,its',_,a3,q⟩
theorem aQ.XK(I:24)(a3:cc ys a0)(hz:675≤bc):aQ X 07 σ (34 H 18 ys) (r55 (581 (514 500 (.seq 275)))):=I.laid (l39 (dY _ q)) 64 ⟨hz,a0,0,a3,111⟩
theorem aQ.fresh(I:24):H 18=00:=684
theorem aQ.x6(I:24)(jy:H l=526):052∧m65 (cc xs a0∧57=b47∧393 l c39):=r54 (613 l jy) ⟨z,a0,n,r,230,e⟩
theorem NS(h:n≤bc):Dw n=09:=by unfold Dw;exact 133
end
inductive XM(x:ae)(vs:08)(H:av)(Q:aW):04|mk:∀l xs y,x=559→vs=[y]→H l=526→57<bc→Q .b4 (34 H l (xs++[y]))→XM x vs H Q
theorem qQ:NP X p21 XM:=by rw[C37];obtain⟨l,xs,y,rfl,rfl,jy,hz,q⟩:=h;rw[A07];rw[C35];rw[B32 jy];refine x7 F.slot_list_append e82 F.entry_list_append (F.args_list_append_2 _ _) (PySem.list_append l 275 n u k88) (328 e);refine⟨.b4,_,I.NR (its':=a0++[u]) jy e 19 (l42 (386 gR)) ?_,rfl,q⟩;rw[cn,amc];lia
inductive XN(x:ae)(vs:08)(H:av)(Q:aW):04|mk:o31 (x=559→vs=[281]→H l=526→H b=247 zs→57+b33≤bc→Q .b4 (34 H l (xs++zs))→XN x vs H Q)
theorem nE:NP X "list.extend" XN:=by rw[C37];rw[C36];rw[A07];rw[C35];cases gR;rw[B32 jy];rw[D52 (I.x6 fY)];have hsz:i99≤bc:=o30;have NT:¬(! l41&&Dw i99)=01:=q48 (NS hsz);refine x7 q47 e82 q46 (q45 _ _) (AutoSeq1.list_extend_list_list_0 l 275 n b o29 dS NT k88 03) ⟨e,aG,?_⟩;refine⟨.b4,_,I.NR (its':=a0++mc) jy e 19 m54 ?_,rfl,q⟩;rw[cn];lia
inductive HV(x:ae)(y:ae)(H:av)(Q:aW):04|mk:o31 (x=559→y=281→H l=526→H b=247 zs→57+b33≤bc→(∀p,H p=00→838 p H p (xs++zs))→HV x y H Q)
theorem pO:gs X (r5 .Add) HV:=by rw[A45];rw[C36];rw[A07];rw[A24];rw[B32 jy];rw[D52 (I.x6 fY)];refine PySem.P.add_list e aG ?_ o30;have d1:275++o29=810 (a0++mc):=19;rw[d1];exact 839 _ _ (I.XK (t':=233) m54 (by rw[cn];lia)) (q _ I.fresh)
inductive XO(x:ae)(y:ae)(H:av)(Q:aW):04|mk:∀l k xs,x=559→y=c84→H l=526→-(2^0x3f)≤k→k<2^0x3f→57*d27≤bc→(∀p,H p=00→838 p H p (c00 d27 xs))→XO x y H Q
theorem aAI(xs:40)(k:Nat):(iM k xs).flatten.length=k*57:=by induction k with|zero=>simp|succ k ih=>rw[Aj,qs,cn,ih,Nat.succ_mul,tm]
theorem amd:gs X (r5 .Mult) XO:=by
 rw[A45];obtain⟨l,k,xs,rfl,rfl,jy,af,ak,hz,q⟩:=h;rw[A07];rw[C64];rw[B32 jy];have hlen:n03≤bc:=by rw[gu,←ax];exact hz
 have ame:¬n03>(2^0x3f-1)/8:=by have:(bc:Nat)≤(2^0x3f-1)/8:=14;lia
 have amf:¬(! Builtin.List.listFitsIndex k)=01:=by rw[fitsIndex_both af ak];exact hB
 have NT:¬Dw n03=01:=by rw[NS 568];exact hB
 have sh:Ml (p25 (gr++gd)) #[] (iM (39 l41 0 d27) 275)=r53 (iM d27 a0):=by
  have f0:∀m:Nat,Ml (p25 (gr++gd)) #[] (iM m 275)=r53 (iM m a0):=285 (by have:=ahi a0 m [];rw[HW]at this;exact this);rw[f0]
  cases a0 with|nil=>simp|cons a dF=>rw[142]
 refine wpAny_binaryOp_repeat_ref (T:=500) (U:="int") 14 e82 (fun s'=>typeIs_int s' k t) noFill_list_mul F.fills_int_mul r52 repeat_list F.slot_int_index.lookup (x7 r52 (typeIs_int s k t) F.entry_int_rmul (F.args_int_rmul_2 _ _) (int___rmul___int_list k t l 275 n) ⟨e,rfl,e82,x7 F.slot_list_mul e82 F.entry_list_mul (F.args_list_mul_2 _ _) (AutoListH.list___mul___list_int_3 l 275 n k t amf ame NT) (328 e)⟩);rw[sh];exact 839 _ _ (I.XK (t':=233) (r.rep d27) (by rw[aAI,CG];exact hz)) (q _ I.fresh)
section
variable{s:aZ}
end
theorem cc.ints:∀{ns:10}{us:53},594 b74→Dx us ns
 |[],us,h=>by rw[zx]at h;cases h;exact IntsAre.nil
 |n::ns,us,h=>by
  rw[eN]at h
  cases h with|cons r t=>obtain⟨k,rfl⟩:=r;exact IntsAre.cons n k (cc.ints t)
theorem amg(h:Dx us ns):594 b74:=by induction h with|nil=>rw[A40]|cons n t _ ih=>exact 920 (612 t)
theorem cc.strs:∀{xs:225}{us:53},594 (077 ae.str)→StrsAre us xs
 |[],us,h=>by rw[zx]at h;cases h;exact StrsAre.nil
 |x::xs,us,h=>by
  rw[eN]at h
  cases h with|cons r t=>obtain⟨k,rfl⟩:=r;exact StrsAre.cons x k (cc.strs t)
theorem cc.XQ:∀{bs:g65}{us:53},594 (bs.map ae.bN)→us=bs.map xD
 |[],us,h=>by rw[zx]at h;cases h;rfl
 |b::bs,us,h=>by
  rw[eN]at h
  cases h with|cons r t=>cases r;rw[cc.XQ t,eN]
theorem cc.Dy(r:594 [022]):us=[da a]:=by cases r with|cons r t=>cases t;cases r;rfl
section
variable{s:aZ}{l:ag}
theorem amh(dh:595)(ax:f12 l 275)(hi:Dx a0 ns)(h:∀h' tk t',(300 346 (219=25))→Q (.int ns.sum t') 620):a9 232 A (kZ (399 "sum") [559]) Q E s:=by
 obtain⟨xs,e⟩:=hi.allInts.items;have aU:numsOf (intItems xs).toList=ns:=by rw[←e];exact hi.numsOf
 rw[nums_intItems]at aU;rw[e]at ax;refine PySem.sum_intListG dh ax (fun h' tk t' aS=>?_);have:=h h' tk t' aS;rw[preSum_eq,si 19,aU];rw[A10]
end
inductive NU(K:bo)(vs:08)(H:av)(Q:aW):04|mk:∀(a:ag)(ns:10),vs=[022]→aJ K H a b74→662 ns.sum→NU K vs H Q
theorem ami(ar:394):iy X (399 "sum") (NU X.K):=by rw[B50];rw[D10];rw[B33 aL];rw[cc.Dy r];exact amh 408 h51 cV.ints (fun h' tk t' aS=>⟨.int _,H,I.kept aS,282,q⟩)
inductive NV(K:bo)(vs:08)(H:av)(Q:aW):04|mk:∀(a:ag)(ns:10),vs=[022]→aJ K H a b74→314<402→(∀(x8:10)(p:ag),x8.Perm ns→x8.Pairwise n97→H p=00→838 p H p m32)→NV K vs H Q
theorem amj(h:n<402):n≤bc:=by rw[Aa];lia
theorem amk:iy X (399 f21) (NV X.K):=by
 rw[B50];obtain⟨a,ns,rfl,aL,XR,q⟩:=h;rw[B33 aL];rw[cc.Dy r];have hi:=cV.ints;refine PyProof.Rows.sorted_ints h51 hi (by rw[hi.length];exact XR) (fun out x8 af ak a6=>?_);obtain⟨c0,NW⟩:=PyProof.Rows.sortedAll_at 28 a0 out;have hlen:069 m32:=by rw[ba,ak.length_eq];exact amj XR
 exact 839 _ (34 H 288 m32) (I.laid (t':=233) (k59 PyProof.Rows.sortedAll_old) 163 ⟨568,out.toList,c0,amg af,NW⟩) (q x8 _ ak a6 (081 163))
inductive NX(K:bo)(x:ae)(xs:08)(H:av)(Q:aW):04|mk:∀(a:ag)(ys:08)(y:ae)(j:Nat)(z:ae),x=022→xs=[y]→aJ K H a ys→oF y=01→ys.all oF=01→ys[j]?=415→se z y=01→(∀(m:Nat)(j9:ae),m<j→ys[m]?=some j9→se j9 y=09)→Q (a14 j) H→NX K x xs H Q
theorem XS(f:ys.all oF=01){z:ae}(h:ys[j]?=415):oF z=01:=gB.mp f z (cG h)
theorem aml:qN X "list.index" (NX X.K):=by
 intro pins s σ H x xs v us Q I bw amm h;obtain⟨a,ys,y,j,z,rfl,rfl,aL,NK,NY,hz,amn,cy,q⟩:=h;rw[A07]
 cases amm with
  |cons bQ l7=>
   rename_i amo ut;cases l7;obtain⟨a0,cV,⟨⟨cls,dd,data,dP⟩,n,a8,ar,sj,hd⟩,hlen⟩:=678 aL;simp only at ar hd;subst ar hd;rw[B37 hz];obtain⟨amq,amr⟩:=oi.mp bp;have aA5:=cV.length;have bS:j<b62:=by simpa using amq
   have Dz:=Aa;refine x7 ams (445 a8) PySem.F.entry_list_index (PySem.F.args_list_index_2 _ _) (SeqAt.list_indexAt a 275 n dd dP amo (sg y) j bS 03 ?_ ?_) ⟨a8,fun jT Al=>HR bQ NK cV NY jT p68,?_⟩
   ·have aK:a0.toArray[j]=u:=by simpa using amr
    rw[aK,HQ gR (XS NY hz)];exact amn
   ·intro m hm amt;have HX:m<b47:=by simpa using hm
    have amu:m<675:=03;have qR:ys[m]?=some ys[m]:=cA amu;obtain⟨jP,kT,NZ⟩:=cV.get qR;obtain⟨_,amv⟩:=oi.mp kT;have aK:a0.toArray[m]=jP:=by simpa using amv
    rw[aK,HQ NZ (XS NY qR)];exact cy m _ amt qR
   ·exact⟨a14 j,H,279,282,q⟩
theorem XT{s:aZ}{l:ag}(ax:f12 l 966)(h:∀iu:aZ,iu=621 (581 (514 p24 (504 #[559,.int 0 0])))→(iu.heap.IsListIter 18 l 0∧iu.heap.IsList l 966)→l≠18→Q 277 iu):a9 232 A (vw 559) Q E s:=by
 have cM:l<18:=by obtain⟨_,e,_⟩:=ax;exact 105
 exact M0 ax (h _ rfl ⟨b14,ax.push _⟩ (fk cM))
theorem amw{bs:g65}(e:a0=bs.map xD):TruthOf prog w A (f08 (g52 i 54)) (425 (g11 i)):=q49 (by
 have vD:a0[i]?=54:=o32;rw[e,cK]at vD;rw[B62 vD];have a4:g11 i=b:=by rw[cZ,aa]<;>rfl
 have iz:Q (g11 i) s:=aw;rw[a4]at iz;exact xK iz)
theorem ahj:∀bs:g65,(bz 890).any (425 (g11 i))=bs.any id|[]=>rfl|b::bs=>by rw[dR,Gv,pe,u4,pe,←ahj bs];all_goals rfl
theorem ahk:∀bs:g65,(bz 890).all (425 (g11 i))=bs.all id|[]=>rfl|b::bs=>by rw[dR,Gv,tf,GG,tf,←ahk bs];all_goals rfl
inductive N0(K:bo)(vs:08)(H:av)(Q:aW):04|mk:∀(a:ag)(bs:g65),vs=[022]→aJ K H a (bs.map ae.bN)→446 (bs.all id)→N0 K vs H Q
theorem amx(ar:394):iy X (399 "all") (N0 X.K):=by
 rw[B50];obtain⟨a,bs,rfl,aL,q⟩:=h;rw[B33 aL];rw[cc.Dy r];have aa:=cV.XQ;refine call_all_walk (XT h51 (fun iu aG st d9=>?_));subst aG;refine⟨_,_,_,_,_,_,_,rfl,Walks.list (A:=X.A.in1) 408 _ a d9 275,st,amw aa,fun h' tk aS=>?_⟩;refine⟨.bN _,H,I.kept (fun b o tM=>aS b o (fun fB=>?_) (dY _ tM)),?_,q⟩
 ·rcases 569 fB with aK|fB
  ·rw[A62 (aK▸dm tM) _]
  ·cases fB
 ·show xD _=xD _;rw[←ahk,aa,gu,ba]
mutual inductive jZ(K:bo)(H:av):ae→92 Am|b4:jZ K H .b4 87|bN(b:Bool):jZ K H a80 j87|int(i:Int):jZ K H 260 260|str(x:Str):jZ K H 765 765|lst{a:ag}{xs:08}{ds:List Am}:464→tN K H xs ds→jZ K H 38 (.list ds)|tup{a:ag}{xs:08}{ds:List Am}:956→tN K H xs ds→jZ K H 38 (b52 ds)inductive tN(K:bo)(H:av):08→92 (List Am)|nil:tN K H [] []|cons{v:ae}{vs:08}{d:Am}{ds:List Am}:jZ K H v d→tN K H vs ds→tN K H (v::vs) (d::ds)end
section
variable{σ:bq}{s:aZ}
theorem jZ.reads(I:24)(d:Am)(v:ae)(u:aH)(h:jZ X.K H v d)(r:466):∃as,Reads 28 u d as:=by
 refine jZ.rec (motive_1:=fun v d _=>∀u,466→∃as,Reads 28 u d as) (motive_2:=fun vs ds _=>∀us,a92→∃as,ReadsAll 28 us ds as) ?_ ?_ ?_ ?_ ?_ ?_ ?_ ?_ h u r
 ·intro u r;cases r;rw[A08 Reads.none]
 ·intro b u r;cases r;rw[A08 (Reads.bool b)]
 ·intro i u r;rw[A53];rw[A08 (Reads.int i t)]
 ·intro x u r;rw[A53];rw[A08 (Reads.str x t)]
 ·rw[D51];cases r;obtain⟨a0,cV,⟨o,n,a8,ar,_,hd⟩,_⟩:=678 aL;rw[C52 (ih a0 cV)];rw[A08 (Reads.list a8 ar hd aq)]
 ·rw[D51];cases r;obtain⟨a0,cV,⟨o,a8,ar,n,hd⟩,_⟩:=b26 aL;rw[C52 (ih a0 cV)];rw[A08 (Reads.tuple a8 ar hd aq)]
 ·intro us r;cases r;rw[A08 ReadsAll.nil]
 ·intro v vs d ds _ _ amy amz us r
  cases r with|cons bU cT=>obtain⟨as,bg⟩:=amy _ bU;obtain⟨bs,cf⟩:=amz _ cT;rw[A08 (ReadsAll.cons bg cf)]
end
inductive N1(K:bo)(x:ae)(y:ae)(H:av)(Q:aW):04|mk:∀d e,jZ K H x d→jZ K H y e→vK d=01→vK e=01→446 (vL d e)→N1 K x y H Q
inductive N2(K:bo)(x:ae)(y:ae)(H:av)(Q:aW):04|mk:∀d e,jZ K H x d→jZ K H y e→vK d=01→vK e=01→446 (! vL d e)→N2 K x y H Q
theorem amA(bp:e38<kb):gs X (jv .Eq) (N1 X.K):=by rw[A45];rw[D50];obtain⟨as,bU⟩:=jZ.reads I d x v hd bw;obtain⟨bs,cT⟩:=jZ.reads I e y u he bQ;exact SeqAt.compareEq_shaped bU cT DA N3 bp (128 _ H I q)
theorem amB(bp:e38<kb):gs X (jv .NotEq) (N2 X.K):=by rw[A45];rw[D50];obtain⟨as,bU⟩:=jZ.reads I d x v hd bw;obtain⟨bs,cT⟩:=jZ.reads I e y u he bQ;exact SeqAt.compareNe_shaped bU cT DA N3 bp (128 _ H I q)
abbrev XU(h:dk)(c:ag)(v:631):04:=h.IsCell c v
end
section
variable{A:rT}{C D I a b builtins c d dx f globals i1 i2 it p t:ag}{E Q Qf:aH→aZ→Prop}{F cm:List (List Nat)}{K:bo}{M:Model}{N ps:List Str}{P prog:f3}{R:Result→aZ→Prop}{apos fD lK pos pos' tc:Pos}{S:ag→Prop}{T:String}{a0 us vs:List aH}{ch df:List ag}{aG e eD elt iter value:dn}{aR:Array Il}{acc closure:List (Str×ag)}{f1 u:aH}{o:Obj}{pins:List (ag×Obj)}{cQ dd func:Option ag}{b0 c0 i j n t':Nat}{h h':dk}{g l:List Nat}{cl:Str→Option ag}{r:List Int}{d':Drawn}{dP:Array (Option aH)}{done:List (Nat×List Int)}{e8 α:Type}{elts ifs:List dn}{env:Env}{g':Array Qp}{h3:Nat→dk→Prop}{name qual x:Str}{names:List (Str×pK)}{outer:List Env}{own:List (Str×Nat)}{q:Search}{s s':dt}{sc scope:rp}{tk:Tok}{use:Option (aH→Sem Unit)}{v:Word}{w:ff}{m:g0}{cb:List (Option ae)}{kvs:List (List cF×ae)}{xs ys:List ae}{y:ae}{H H' H1 aB:av}{bC:dz}{qV:av→Prop}{X:dT}{bW c7 g7 h5 hj ty:ct}{tt:j6}
def amC(scope sc:rp):rp:={scope with names:=scope.names.map (fun(n,k)=>13 (k==.free&&f77&&f80==493) (n,.cell) (n,k))}
def j0(cells:650):c82→650→650|[],acc=>acc|(n,k)::r,acc=>13 (k==.free) (j0 cells r ((n,m31 n 0)::acc)) (j0 cells r acc)
theorem amD(env:Env)(f:Str×pK→650→Sem (ForInStep 650))(hf:∀n k c,f (n,k) c=13 (k==.free) (do
 let a←cellOf env n
 pure (.yield ((n,a)::c))) (pure (.yield c))):∀(names:c82)(acc:650),(∀y∈names,g29→∃c,m93 y.1 73)→forIn 629 acc f=pure (j0 env.cells 629 acc):=by
 intro names
 induction names with
  |nil=>intro acc _;rw[DB];rfl
  |cons p r LV=>
   rw[C63];intro acc h;rw[HY,hf];have ih:=fun acc=>LV acc (085 (h y 923));unfold j0;rw[A66 ((k==DC)=01)]
   ·rw[168,168];rw[C62 (h (n,k) dO f55)];have e:cellOf env n=pure c:=by unfold cellOf;rw[ar]
    rw[e];have aG:(env.cells.lookup n).getD 0=c:=by rw[ar];rfl
    rw[aG];exact ih _
   ·rw[134,134];exact ih _
theorem amE(h:f54 (g29→∃c,m93 y.1 73)):closureFor 42 env=pure (j0 env.cells 477 []):=by simp only[closureFor];rw[amD env _ (fun n k c=>rfl) 477 [] h];rfl
theorem ahl{l:821 α}{n:Str}{c:α}:(n,c)∈l→∃jU,l.lookup n=some jU:=by
 induction l with
  |nil=>intro h;cases h
  |cons p r ih=>
   obtain⟨k,v⟩:=p;intro h;rw[An]
   cases aa:n==k with
    |true=>rw[A08 rfl]
    |false=>
     rw[B68 h]
     ·cases e;simp at aa
     ·exact ih h
theorem HZ{cells:650}:∀{names:c82}{acc:650}{n:Str}{c:ag},(n,c)∈j0 cells 629 acc→(n,c)∈acc∨((n,.free)∈629∧c=m31 n 0)
 |[],_,_,_,h=>a64
 |(m,k)::r,acc,n,c,h=>by
  unfold j0 at h;rw[A18]
  ·rw[B55];have aS:k=.free:=f55;rw[D49 (HZ h)]
   ·rw[B68 h]
    ·cases e;rw[A09 (612 (aS▸dO))]
    ·rw[A17 h]
   ·rw[A09 ⟨d4 _ af,ak⟩]
  ·rw[D49 (HZ h)]
   ·rw[A17 h]
   ·rw[A09 ⟨d4 _ af,ak⟩]
theorem N4{cells:650}:∀{names:c82}{acc:650}{p:Str×ag},p∈acc→p∈j0 cells 629 acc
 |[],_,_,h=>h
 |(m,k)::r,acc,p,h=>by
  unfold j0;split
  ·exact N4 (d4 _ h)
  ·exact N4 h
theorem N5{cells:650}:∀{names:c82}{acc:650}{n:Str},(n,.free)∈629→(n,m31 n 0)∈j0 cells 629 acc
 |(m,k)::r,acc,n,h=>by
  unfold j0;rw[B68 h]
  ·cases e;exact N4 dO
  ·split
   ·exact N5 h
   ·exact N5 h
theorem N6:(x,c)∈kc 397 629 acc→(x,c)∈acc∨((x,.cell)∈629∧397≤c∧XU (x9 h 629) c 00):=by
 induction names generalizing h acc with
  |nil=>exact .inl
  |cons p r ih=>
   rw[C63];intro hm;unfold kc at hm;unfold x9;split at hm
   ·rw[B55];rw[21 aS];have aS:k=.cell:=f55;rw[←kz h (514 "cell" (.cell 00))]at hm;rw[D48 (ih hm)]
    ·rcases 569 hm with e|hm
     ·cases e;rw[A09 ⟨aS▸dO,64,_,N7 r _ _ _ 111,rfl⟩]
     ·rw[A17 hm]
    ·rw[kz]at ak;rw[A09 ⟨d4 _ af,N8 ak,a6⟩]
   ·rw[B55];rw[134];rw[D48 (ih hm)]
    ·rw[A17 hm]
    ·rw[A09 ⟨d4 _ af,ak,a6⟩]
theorem H0:∀{names:c82}{n:Nat}{acc:650}{p:Str×ag},p∈acc→p∈kc n 629 acc
 |[],_,_,_,h=>h
 |(m,k)::r,n,acc,p,h=>by
  unfold kc;split
  ·exact H0 (d4 _ h)
  ·exact H0 h
theorem N9:∀{names:c82}{n:Nat}{acc:650}{x:Str},(x,.cell)∈629→∃c,(x,c)∈kc n 629 acc
 |(m,k)::r,n,acc,x,h=>by
  unfold kc;rw[B68 h]
  ·cases e;exact⟨n,H0 dO⟩
  ·split
   ·exact N9 h
   ·exact N9 h
theorem amF{y:Str}:(∀p∈acc,p.2<397)→(∀x y c,(x,c)∈acc→(y,c)∈acc→x=y)→(x,c)∈kc 397 629 acc→(y,c)∈kc 397 629 acc→x=y:=by
 induction names generalizing h acc with
  |nil=>exact fun _ hi af ak=>hi _ _ _ af ak
  |cons p r ih=>
   rw[C63];intro ax hi af ak;unfold kc at af ak;split at af
   ·rw[B55];rw[168]at ak;rw[←kz h (514 "cell" (.cell 00))]at af ak;refine ih (h:=h.push _) 263 (fun x y c a b=>?_) af ak
    ·rw[kz];rcases 569 au with rfl|au
     ·exact zG _
     ·exact CD (ax p au)
    ·rcases 569 a with e|a<;>rcases 569 b with bZ|b
     ·cases e;cases bZ;rfl
     ·cases e;rw[A62 (ax _ b) _]
     ·cases bZ;rw[A62 (ax _ a) _]
     ·exact hi _ _ _ a b
   ·rw[B55];rw[134]at ak;exact ih ax hi af ak
theorem amG{s:aZ}{code:aH}{around:Env}{Q:456 Env}(h:Q (newEnv 42 18 globals (kc 288 477 closure) 74 func code (some around) builtins) (621 (x9 834 477))):a9 M A (newFunctionEnv 42 globals closure [] 74 func code (some around) builtins) Q E s:=by simp only[newFunctionEnv,N_,if_true];rw[A00 (wpAny_alloc ?_)];rw[A00 (wpAny_layCells _ (fun n k c=>rfl) 477 closure _ _ ?_)];rw[88 ((i56:aZ).heap.objs.size=288) (kz ..)];rw[DB];exact a7 (c49 h)
theorem XW{k:pK}:805 (names.map (fun(n,k)=>13 (k==DC&&f77&&f80==493) (n,XX) (n,k))) x=040→∃fZ,names.lookup x=some fZ∧(k=fZ∨(fZ=.free∧k=.cell)):=by
 induction names with
  |nil=>intro h;simp at h
  |cons p r ih=>
   obtain⟨n,DD⟩:=p;intro h;have h':qJ x ((39 (DD==DC&&f77&&f80==493) (n,XX) (n,DD))::(r.map _))=040:=h
   cases ai:x==n with
    |true=>
     simp only[An,ai];by_cases ar:(DD==DC&&f77&&f80==493)=01
     ·rw[198]at h';rw[B91];cases h';simp only[hG,beq_iff_eq]at ar;rw[A44 DD (.inr (612 ar.1.1))]
     ·rw[199]at h';rw[B91];cases h';rw[A15 253]
    |false=>
     simp only[An,ai];by_cases ar:(DD==DC&&f77&&f80==493)=01
     ·rw[198]at h';rw[B91];exact ih h'
     ·rw[199]at h';rw[B91];exact ih h'
structure DE(N:225)(sc scope:rp)(own:821 Nat):04 where
 kind:i09 scope.kind
 uniq:f54 (i41=some y.2)
 i8:∀p∈own,N[p.2]?=some p.1
 free:f54 (g29→m06=493∨m06=779)
 own:f54 (y.2=.local∨y.2=.cell→y.1∈m30∨y.1∉N)
def wipe(σ:bq):06→bq|[]=>σ|v::vs=>(297).set v 00
theorem DF(σ:bq):∀vs:06,11 297=b61|[]=>rfl|v::vs=>by unfold wipe;rw[mC,DF σ vs]
theorem Oa{σ:bq}{i:Nat}{x:ae}:∀{vs:06},(wipe σ vs)[i]?=454 x→c89=454 x∧i∉vs
 |[],h=>⟨h,19⟩
 |v::vs,h=>by
  unfold wipe at h;rw[A65 (v=i)]
  ·subst hi;by_cases a3:v<11 297
   ·rw[ry a3]at h;cases h
   ·rw[hH o32]at h;cases h
  ·rw[u7 hi]at h;rw[A81 (Oa h)];exact⟨af,by simp only[ed,not_or];exact⟨100 (hi d14),ak⟩⟩
abbrev dT.kB(X:dT)(s:aZ)(H:av)(scope:rp)(g8:Env)(df:27):dT:={X with iU:=s,xF:=H,env:=g8,outer:=X.stack,ex:=df,fn:=72 (p23 x==493),iQ:=[],dC:=898}
section
variable{σ:bq}{s:aZ}
theorem amH(I:24)(ok:DE X.N 628 42 own)(fs:X.N.Nodup)(Ao:432 (pH X 07 H b∧a99)):aQ (X.kB s H 42 (pQ 42 (kc 288 477 d79) 18 55) df) [] (wipe σ a20) H (621 (x9 834 477)):=by
 have oe:f54 (g29→∃c,d34 y.1=73):=i08 (by
  rcases ok.free y aC e with k|k
  ·exact k14 172
  ·exact k14 (.inr k));generalize DG:pQ 42 (kc 288 477 d79) 18 55=g8;have fC:300 346 (782 (x9 834 477)=25):=351 (N7 _ _ _ _ 130);have gG:i13=18:=p22;have jz:g8.cells=kc 288 477 d79:=p22;have H2:g8.scope=amC 42 628:=p22;rw[←kz 28 a48]at jz;have DH:∀{y c:_},(y,c)∈d79→d34 y=73∧c<18:=fun{y c:_}hm=>by
  rcases HZ hm with hm|⟨af,rfl⟩
  ·cases hm
  ·rw[C62 (oe _ af rfl)];rw[ar];obtain⟨w,z⟩:=I.cell _ _ ar;exact⟨rfl,z.lt⟩
 have mem:∀{y c:_},991=73→(d34 y=73∧c<18)∨(288≤c∧XU (x9 834 477) c 00):=fun{y c:_}e=>by
  rw[jz]at e;rcases N6 (nD e)with hm|⟨_,ak,a6⟩
  ·rw[A17 (DH hm)]
  ·rw[kz]at ak;rw[A09 ⟨ak,a6⟩]
 have look:∀{y:_},a15=779→∃c,991=73∧d34 y=73:=fun{y:_}ax=>by
  have aC:(y,DC)∈477:=nD ax;obtain⟨jU,bZ⟩:=ahl (H0 (names:=477) (n:=424 834) (N5 (cells:=X.env.cells) (acc:=[]) aC));rw[←jz]at bZ;rw[A20 jU bZ];rw[jz]at bZ;rcases N6 (nD bZ)with hm|⟨af,_,_⟩
  ·exact(DH hm).1
  ·have:=ok.uniq _ af;rw[ax]at this;rw[A47]
 have amI:(X.kB s H 42 g8 df).Ok:=by
  refine⟨I.ok.mod,by show g8.scope.kind=_;rw[H2];exact ok.kind,by show g8.globals=_;rw[←DG];exact I.ok.glob,by show g8.builtins=_;rw[←DG];exact I.ok.blt,by show 18≤i13;rw[gG];exact 64,fun y z c aK aG=>?_,a74,fun y c z e=>?_,I.ok.hd,k99,253,350 ⟨?_,fun y c e z=>?_⟩,I.bs,g48 I.qB,fun b o e aa=>?_,fun b aa z=>?_,I.stack,I.Ha⟩
  ·have aK:991=73:=aK;have aG:g8.cells.lookup z=73:=aG;rw[jz]at aK aG;refine amF 263 (fun y z c a b=>I.ok.inj y z c (DH a).1 (DH b).1) (nD aK) (nD aG);rw[kz];exact CD (DH (y:=p.1) (c:=p.2) au).2
  ·show∃c,991=73;have key:∀k,g28=040→(k=.cell∨k=.free)→∃c,991=73:=fun k aS rK=>by
    unfold Env.kindOf at aS;rw[H2]at aS;obtain⟨fZ,e,r⟩:=XW aS;have:fZ=.cell∨fZ=.free:=by
     rcases r with rfl|⟨rfl,_⟩
     ·exact rK
     ·rw[A09 rfl]
    rcases this with rfl|rfl
    ·obtain⟨c,hm⟩:=N9 (n:=424 834) (acc:=d79) (nD e);obtain⟨jU,bZ⟩:=ahl hm;exact⟨jU,by rw[jz];exact bZ⟩
    ·obtain⟨c,af,_⟩:=look e;exact⟨c,af⟩
   rcases aC with aC|aC
   ·exact key _ aC 253
   ·exact key _ aC e68
  ·have z:(a15==some XX)=01:=z;have z:a15=493:=r51;have e:991=73:=e;rw[jz]at e;rcases N6 (nD e)with hm|⟨_,ak,_⟩
   ·rcases HZ hm with hm|⟨af,_⟩
    ·cases hm
    ·have q:=ok.uniq _ af;rw[z]at q;cases q
   ·rw[kz]at ak;exact N8 ak
  ·show b≠i13;rw[gG];exact fk (Ao b aa).2
  ·have e:991=73:=e;rw[D47 (mem e)]
   ·exact(Ao b aa).1.2.2.2.2.1 y c af z
   ·have ak:288≤b:=by rw[←z];exact af
    rw[A62 (jN (Ao b aa).2 (N8 ak)) _]
  ·rw[A61 (Ao b aa).1.2.2.2.1]
   ·exact I.ok.zW b o e z
   ·rw[A62 (jN 105 (g48 z)) _]
  ·rw[A61 (j56 b z)]
   ·exact(Ao b aa).1.2.1 z
   ·exact(Ao b aa).1.2.2.1 z
 refine⟨amI,rfl,579,ir.kept fC,⟨d74,?_,fun i y amJ aK aG cp=>?_⟩,k17,?_,k17,263,I.bB.kept fC,by rw[DF];exact I.len⟩
 ·show Heap.Ns _ i13 _;rw[gG];exact Heap.Ns.keeps (Heap.Ns.new ..) (351 (N7 _ _ _ _ e))
 ·obtain⟨aG,d9⟩:=Oa aG;have oG:a15=779∧(g28=493∨g28=779):=by
   have key:∀k,g8.scope.names.lookup y=040→k=.local∨k=.cell∨k=.free→a15=779∧(g28=493∨g28=779):=fun k aS rK=>by
    have Ob:=aS;rw[H2]at aS;obtain⟨fZ,e,r⟩:=XW aS;have no:¬(fZ=.local∨fZ=.cell):=fun dh=>by
     rcases ok.own _ (nD e) dh with bZ|bZ
     ·obtain⟨p,au,amK⟩:=112 bZ;have cp:=ok.i8 p au;have:p.1=y:=amK;rw[this]at cp;exact d9 (184 p au (MQ fs cp aK))
     ·exact bZ (cG aK)
    rcases r with rfl|⟨rfl,rfl⟩
    ·rcases rK with rfl|rfl|rfl
     ·exact 69 253 no
     ·exact 69 e68 no
     ·exact⟨e,.inr Ob⟩
    ·exact⟨e,.inl Ob⟩
   have cp:zU g8.scope y:=cp;rcases cp with cp|cp|cp
   ·exact key _ cp 253
   ·exact key _ cp (.inr 253)
   ·exact key _ cp (.inr e68)
  rw[B90];have amL:zU 628 y:=(ok.free _ (nD oG.1) rfl).elim (450 (.inr 172)) (450 (.inr (.inr k)));obtain⟨w,r,q⟩:=ax i y amJ aK aG amL;refine⟨w,r,.inr (328 oG.2)⟩;obtain⟨c,af,ak⟩:=look oG.1;rcases q with⟨k,_⟩|⟨_,jU,bZ,z⟩
  ·have k:l58 y=492:=k;rcases ok.free _ (nD oG.1) rfl with fZ|fZ<;>rw[show l58 y=_ from fZ]at k<;>cases k
  ·rw[ak]at bZ;cases bZ;exact⟨c,af,z.keeps fC⟩
 ·have e:991=73:=e;rcases mem e with⟨af,_⟩|⟨_,z⟩
  ·obtain⟨w,z⟩:=c46 y af;exact⟨w,z.keeps fC⟩
  ·rw[A08 z]
 ·show H i13=00;rw[gG];exact 684
 ·have e:991=73:=e;rw[D47 (mem e)]
  ·exact I.iS y c af
  ·exact 081 (N8 af)
 ·exact 69 (p19 (p∈([]:224)++[])) 19
theorem amM{v:aH}(I:24)(cO:H D=526)(hz:57<bc)(r:RelV y v)(h:∀s',aQ X 07 σ (34 H D (xs++[y])) s'→Q 87 s'):a9 47 X.A (kZ (399 p21) [e40,v]) Q E s:=by obtain⟨zp,a0,n,Ah,e⟩:=613 D cO;have ax:=Ah.length;refine append_at (hsz:=k88) e (fun h' eX ju=>?_);refine h 538 (I.write (t':=233) (by rw[cO];trivial) 253 (fun b u aa q=>385 b aa q) (404 ju) ⟨by rw[cn];exact hz,a0++[v],n+1,Ah.append (386 r),?_⟩);rw[ju];simp
def DI(X:dT)(ifs:439)(t:j6):04:=l79 224 571 (24→t σ H Q→a9 47 X.A (forIn ifs 01 (fun c r=>if r=01 then do
 let ok←isTrue c X.env (cE c X.env)
 pure (Oc ok)else pure (Oc r))) (He X 07 σ Q) 68 s)
def Od:j6:=j65 01 H
theorem i9:DI X [] Od:=f53 (wpAny_tests_nil ⟨H,I,h⟩)
theorem Ap{c:dn}{t:j6}(h:mI X c t):DI X [c] t:=r50 (wpAny_tests_one (h 07 s σ H Q I hw))
end
theorem Aq{t:Sem α}{Q tC:456 α}{s:aZ}(h:a9 M A t Q 898 s)(g6:∀a s,Q a s→tC a s):a9 M A t tC E s:=j_ h g6 h08
theorem amN{s:aZ}{target:dn}{it acc:aH}(I:456 Nat)(turn:∀n s,I n s→a9 232 A (nB it) (fun r ep=>match r with
 |none=>R (.ok .next) ep
 |some v=>a9 232 A (MY i11 it v) (fun _ XY=>a9 232 A (zZ i11 env v) (fun _ iu=>a9 232 A (forIn ifs 01 (fun c r=>if r=01 then do
  let ok←isTrue c env (cE c env)
  pure (Oc ok)else pure (Oc r))) (fun ok vv=>39 ok (a9 232 A (b06 elt) (fun x XZ=>a9 232 A (kZ (399 p21) [acc,x]) (fun _ X0=>∃m,m<n∧I m X0) (DJ 232 A env (d92 c02 s')) XZ) (DJ 232 A env (d92 c02 s')) vv) (∃m,m<n∧I m vv)) (DJ 232 A env (d92 c02 s')) iu) (DJ 232 A env (d92 c02 s')) XY) (DJ 232 A env (d92 c02 s')) ep) (DJ 232 A env (d92 c02 s')) s)(n:Nat)(h:I n s):qI 232 A (.compLoop (047 [a89 i11 0]) 0 it acc env) R s:=by
 refine codeAny_loop rfl I (fun n s x_=>?_) n h;show a9 _ A ((compTurn (047 [a89 i11 0]) 0 it acc env).onRaise (72 (do
  noteFrame x env
  theTreesLotGoes x))) _ _ s;refine wpAny_noted ?_;rw[compTurn_list];rw[A00 (Hm (a7 (j_ (turn n s x_) (fun r ep H3=>?_) d57)))]
 cases r with
  |none=>exact cx H3
  |some v=>
   rw[A00 (j_ H3 (fun _ XY amO=>?_) d57)];rw[A00 (j_ amO (fun _ iu DK=>a7 (j_ DK (fun ok vv H4=>?_) d57)) d57)]
   cases ok with|false=>exact cx (119 H4)|true=>exact a7 (a7 (j_ H4 (fun x XZ amP=>a7 (j_ amP (fun _ X0 amQ=>c49 (119 amQ)) d57)) d57))
def vM(hL:TI)(g:iv)(tt:j6)(c7:ct)(vs:06):ct:=262 (hL σ H (fun fu H1=>∀D,H1 D=00→∃W:240 599,(∃m,W 0 m 696)∧∀i m H,W i m H→(fu.stop i H∧515 D H)∨(fu.go i H∧∃hh:856,(c58 (eg<m∧W (i+1) eg H'))∧∀x H',fu.mL i H x H'→g x 297 H' (fun c6 aB=>709=297∧c88 b (bP D=701∧707∧c29 [y])))))
theorem X1{s:aZ}{σ:bq}{Q:aW}{hL:TI}{g:iv}(ar:394)(fs:X.N.Nodup)(I:24)(hi:lG X eD 819 hL)(ok:DE X.N 628 42 own)(a4:062 (rY (X.kB s H 42 (pQ 42 cl C 55) df) eD g))(bk:062 (DI (X.kB s H 42 (pQ 42 cl C 55) df) ifs tt))(he:062 (bF (X.kB s H 42 (pQ 42 cl C 55) df) elt c7))(aL:∀x,M4 819 55 x=pure x)(h:vM hL g tt c7 a20 σ H Q)(amR:∀D C s' m H',050→435 D→s'.heap.Ns C m→pH X 07 H' C→compPost 47 X.A 68 use Qf e40 C (.ok .next) s'):a9 47 X.A (comprehension (047 [a89 eD 0]) 42 55 pos' (newList []) 09 (405 819) use) Qf 68 s:=by
 have oe:f54 (g29→∃c,d34 y.1=73):=i08 (by
  rcases ok.free y aC e with k|k
  ·exact k14 172
  ·exact k14 (.inr k));refine wpAny_comprehension_free (use:=use) rfl aL (amE oe) ok.kind (i08 (by rw[ok.uniq y aC,e])) (bY (hi 07 s σ H _ I h) (fun aA6 s1 ai=>bY ai (fun Hq s2 ak=>?_)));obtain⟨it,df,h3,fu,aB,e,b5,T,z7,f2,q⟩:=ak;subst e;refine H5 (amG ?_) (681 (0≤bc));generalize cO:s2.heap.objs.size=D;have amS:aB D=00:=b5.bB.fresh (Hz cO);obtain⟨W,⟨m0,z3⟩,turn⟩:=q D amS;generalize X2:({s2 with heap:=s2.heap.push (990 (.seq ([]:53).toArray))}:aZ)=s3;have el:aQ X 07 σ (34 aB D []) s3:=by rw[←X2];refine b5.laid (t':=s2.toks) (903 _ e) (Hz cO) ⟨229,[],0,89,?_⟩;rw[←cO];exact 111
 have a6:s3.heap=s2.heap.push (990 (.seq ([]:53).toArray)):=by rw[←X2]
 have qB:432 (b<s2.heap.objs.size):=350 (p78 (T.obj _ _ z7 b aa) 105);have e9:432 (pH X 07 (34 aB D []) b∧b<679):=350 (by have cM:=qB b aa;rw[A03 ⟨?_,(f2 b aa).2⟩ (by rw[a6,kz];exact CD cM)];rw[aE (by rw[←cO];exact fk cM)];exact(f2 b aa).1);have Ht:h3 0 s3.heap:=T.keep _ _ _ z7 (fun b _ o e=>by rw[a6];exact 130);have jw:=amH el ok fs e9;have dq:=a4 s3 (34 aB D []) 679 h07 df;have pt:=bk s3 (34 aB D []) 679 h07 df;have zI:=he s3 (34 aB D []) 679 h07 df;show qI _ _ (.compStart (047 [a89 eD 0]) 0 760 e40 (pQ 42 h07 679 55)) (compPost 47 X.A 68 use Qf e40 679) (p20 (x9 (k86 a48) 477));have X3:432 ((34 aB D []) b=00):=350 (e9 b aa).1.1;generalize H6:pQ 42 h07 679 55=ce at jw dq pt zI⊢;have X4:p18=679:=by subst H6;rfl
 generalize pR:34 aB D []=a5 at el jw dq pt zI z3 X3 e9;generalize amT:(p20 (x9 (k86 a48) 477):aZ)=s4 at jw⊢;have X5:h3 0 s4.heap:=T.keep _ _ _ Ht (fun b _ o e=>by rw[←amT];exact N7 _ _ _ _ 130);have xT:∀{cb:bq}{H':av}{s':aZ},aQ (X.kB s3 a5 42 ce df) [] cb H' s'→(432 (244=00))→432 (pH (X.kB s3 a5 42 ce df) [] H' b):=fun{cb H' s':_}jV aU b aa=>⟨aU b aa,(jV.ok.C5 b aa).1,jV.ok.zX b aa,.inl aa,fun x c e=>(jV.ok.C5 b aa).2 x c e,367 (151 (p19 (p∈([]:224)++[])))⟩;have loop:qI 47 X.A (.compLoop (047 [a89 eD 0]) 0 760 e40 ce) (compPost 47 X.A 68 use Qf e40 679) s4:=by
  refine amN (fun n s'=>∃i H',aQ (X.kB s3 a5 42 ce df) [] (wipe σ a20) H' s'∧h3 i 543∧(432 (244=00))∧W i n H') ?_ m0 ⟨0,a5,jw,X5,X3,z3⟩;rintro n s5⟨i,de,nA,z8,sk,Ar⟩;rcases turn i n de Ar with⟨stop,amU⟩|⟨go,hh,amV,step⟩
  ·have hj:=T.done (X.kB s3 a5 42 ce df) rfl rfl rfl ar i [] s5 _ de 898 nA (xT nA sk) z8 stop;refine Aq hj (fun r cW⟨aq,pG⟩=>?_);subst aq;have kY:aQ X 07 σ de cW:=el.Hd (ch:=df) pG.os pG.base pG.bB pG.bare (350 ⟨(e9 b aa).1.2.2.2.1,(e9 b aa).1.2.1,(e9 b aa).1.2.2.2.2.1,(e9 b aa).1.2.2.2.2.2⟩);have Oe:de 679=00:=by have z:de p18=00:=pG.free;rw[X4]at z;exact z
   obtain⟨m,aU,_⟩:=pG.loc;have aU:cW.heap.Ns p18 m:=aU;rw[X4]at aU;exact amR D 679 cW m de kY amU aU (el.xQ 64 Oe)
  ·have g7:=T.item (X.kB s3 a5 42 ce df) rfl rfl rfl ar i [] s5 _ de 898 nA (xT nA sk) z8 go;refine Aq g7 (fun r cW⟨u,aq,iT⟩=>?_);subst aq;refine Aq iT (fun _ e1⟨x,gS,kY,M5,amW,Of,xU⟩=>?_);have amX:=kY.pinned (xT kY xU) (T.obj _ _ Of);refine Aq (dq _ e1 _ gS x u _ amX M5 (step x gS amW)) (fun _ gW⟨H7,qS,Og,X6,amY⟩=>?_);refine Aq (pt _ gW H7 qS _ Og amY) (fun b i_⟨X7,X8,H8⟩=>?_);have fin:∀{s':aZ}{H':av},aQ (X.kB s3 a5 42 ce df) ([]++Dk df e1.heap) H7 H' s'→hh H'→∃m,m<n∧∃i H',aQ (X.kB s3 a5 42 ce df) [] (wipe σ a20) H' s'∧h3 i 543∧(432 (244=00))∧W i m H':=fun{s' H':_}jV cz=>by
    obtain⟨eg,hm,gQ⟩:=amV H' cz;have X9:432 (∀o,e1.heap.get? b=25→o65 b=25∧244=00):=512 (let z:=jV.pin (b,o) (vz _ (vz _ (M3 aa e)));⟨z.1,498⟩);have ax:11 (wipe σ a20)=H7.length:=by rw[←X6,DF]
    refine⟨eg,hm,i+1,H',(jV.Hs (pins:=[])).weak ax (fun j v e=>?_),T.keep _ _ _ Of (512 (X9 b aa o e).1),773,gQ⟩
    ·rw[←X6]at e;exact(Oa e).1
    ·obtain⟨o,e,_⟩:=T.obj _ _ Of b aa;exact(X9 b aa o e).2
   cases b with|false=>simp only[l0,if_false]at H8⊢;exact fin X8 H8|true=>simp only[if_true]at H8⊢;refine Aq (zI _ i_ H7 X7 _ X8 H8) (fun z aA7⟨aA8,aA9,amZ,am0,acc,am1,am2,cz⟩=>?_);exact amM (X:=X.kB s3 a5 42 ce df) amZ am1 am2 am0 (fun aBa am3=>fin am3 cz)
 exact codeAny_compStart_list loop (T.self X.A 0 _ _ _ X5 loop)
theorem k9{hL:TI}{g:iv}(ar:394)(fs:X.N.Nodup)(hi:lG X eD 819 hL)(ok:DE X.N 628 42 own)(a4:062 (rY (X.kB s H 42 (pQ 42 cl C 55) df) eD g))(bk:062 (DI (X.kB s H 42 (pQ 42 cl C 55) df) ifs tt))(he:062 (bF (X.kB s H 42 (pQ 42 cl C 55) df) elt c7))(aL:∀x,M4 819 55 x=pure x:=by intro _;rfl):bF X (047 [a89 eD 0]) (vM hL g tt c7 a20):=by rw[A13];rw[eval_ListComp];refine X1 ar fs I hi ok a4 bk he aL h (fun D C s' m H' jV q aU f=>⟨m,aU,fun vN eX=>?_⟩);rw[D46];exact 839 D H' (jV.turned (t':=s'.toks) (537 (385 b aa e)) f0 f1 e9 f4 fR) q
theorem qT{y:Str}{py:Pos}{X_:Pos}{hL:TI}{g:iv}(ar:394)(fs:X.N.Nodup)(aC:851=270)(Yb:l58 y=492)(am4:tD (047 [a89 eD 0]) (some (.Name y py)) X_.line 55=pure 01)(hi:lG X eD 819 hL)(ok:DE X.N 628 42 own)(a4:062 (rY (X.kB s H 42 (pQ 42 cl C 55) df) eD g))(bk:062 (DI (X.kB s H 42 (pQ 42 cl C 55) df) ifs tt))(he:062 (bF (X.kB s H 42 (pQ 42 cl C 55) df) elt c7))(aL:∀x,M4 819 55 x=pure x:=by intro _;rfl):iV X (.Assign [.Name y py] (047 [a89 eD 0]) X_) (Hn (vM hL g tt c7 a20) (tE i)):=by
 rw[A35];rw[exec_Assign_Name_used _ _ _ _ am4];rw[A00 (Hm (a7 ?_))];show a9 _ X.A (do let _←comprehension (.ListComp elt [⟨eD,iter,ifs,0⟩] scope pos) scope X.env (firstIterPos [⟨eD,iter,ifs,0⟩] pos) (newList []) false (cE iter X.env) (some (zZ (.Name y py) X.env))) _ _ s;have h:vM hL g tt c7 a20 σ H (291 (tE i x σ H1 D.cz)):=h;rw[A00 (bY (X1 (Qf:=f41 (tB X 07 D .next s')) ar fs I hi ok a4 bk he aL h (fun L C s' m H' jV q aU f=>?_)) (fun _ s' aw=>c49 aw))];show a9 _ _ (zZ (.Name y py) 55 (.ref L)) _ _ _;refine 217 (Wc (v:=882 L) jV fs aC (.inl Yb) rfl (fun s2 b5⟨a,eX,aN⟩=>?_) (.inr Yb));rw[D46];have am5:C≠a:=by
  rcases aN with z|z
  ·rw[z];exact f1
  ·exact 100 (f4 y a z d14)
 refine⟨m,aU.sameBut eX am5,fun a6 am6=>?_⟩;exact⟨_,H',b5.turned (t':=s2.toks) (537 (35 (am6.2 b aa) e)) f0 f1 e9 f4 fR,q⟩
theorem qU{cm:List Comprehension}{py:Pos}{y:Str}{l:Nat}(aS:i09 env.scope.kind)(aC:env.scope.names.lookup y=492)(ax:(py.line==i10)=01)(aN:(scope.names.any (fun(n,k)=>n==y&&(k==.local||k==.cell)))=09):tD (047 cm) (some (.Name y py)) l env=pure 01:=by
 have CE:env.kindOf y=492:=aC;have aa:i09 env.blockKind:=by unfold Env.blockKind;rw[aS];rfl
 unfold tD;simp only[aa,CE,aN,Expr.pos,ax];rfl
theorem Oh{lo:Int}{g:iv}{vs:06}{σ:bq}(Pv:599)(h0:Pv 0 696)(aL:∀i H,i<n→617→g (.int (lo+i)) 297 H (fun c6 aB=>709=297∧tt c6 aB (fun b a5=>39 b (c7 c6 a5 (fun y bP=>∃acc,bP D=701∧707∧e77 (i+1) [y])) (Pv (i+1) a5))))(hd:∀H,Pv n H→qV H):∃W:240 599,(∃m,W 0 m 696)∧∀i m H,W i m H→(800 (r1 lo n)∧qV H)∨((r1 lo n).go i H∧∃hh:856,(c58 (eg<m∧W (i+1) eg H'))∧∀x H',(r1 lo n).mL i H x H'→g x 297 H' (fun c6 aB=>709=297∧c88 b (bP D=701∧707∧c29 [y]))):=by
 rw[B12 (m=n-i∧i≤n∧617) ⟨n,19,229,h0⟩];rw[B20];by_cases cM:i<n
 ·refine .inr ⟨cM,361,p17 ⟨n-(i+1),03,rfl,cM,ky⟩,c14⟩;rw[B26];subst e y;exact aL i _ cM p
 ·rw[A50 (i=n)];subst e;rw[A23 64 (hd H p)]
theorem kC{g:iv}{vs:06}{σ:bq}(Pv:599)(h0:Pv 0 696)(ax:∀i H,759 i→617→464)(aL:∀i x H,441=43→617→g x 297 H (fun c6 aB=>709=297∧tt c6 aB (fun b a5=>39 b (c7 c6 a5 (fun y bP=>∃acc,bP D=701∧707∧e77 (i+1) [y])) (Pv (i+1) a5))))(hd:∀H,Pv 57 H→qV H):∃W:240 599,(∃m,W 0 m 696)∧∀i m H,W i m H→(800 (vx K a)∧qV H)∨((vx K a).go i H∧∃hh:856,(c58 (eg<m∧W (i+1) eg H'))∧∀x H',(vx K a).mL i H x H'→g x 297 H' (fun c6 aB=>709=297∧c88 b (bP D=701∧707∧c29 [y]))):=by
 rw[B12 (m=57-i∧759 i∧617) ⟨57,19,229,h0⟩];rw[B20];have q:=ax i H hi p;rw[B42 i]
 ·refine .inr ⟨j02 xs xs[i] q,361,p17 ⟨57-(i+1),03,rfl,cM,ky⟩,c14⟩;rw[B26];subst e;exact aL i x _ (y xs q) p
 ·rw[B43 i];subst e;rw[A23 ⟨xs,q,64⟩ (hd H p)]
theorem am7{g:iv}{vs:06}{σ:bq}(Pv:599)(h0:Pv 0 696)(ax:∀i H,759 i→617→956)(aL:∀i x H,441=43→617→g x 297 H (fun c6 aB=>709=297∧tt c6 aB (fun b a5=>39 b (c7 c6 a5 (fun y bP=>∃acc,bP D=701∧707∧e77 (i+1) [y])) (Pv (i+1) a5))))(hd:∀H,Pv 57 H→qV H):∃W:240 599,(∃m,W 0 m 696)∧∀i m H,W i m H→(800 (vy K a)∧qV H)∨((vy K a).go i H∧∃hh:856,(c58 (eg<m∧W (i+1) eg H'))∧∀x H',(vy K a).mL i H x H'→g x 297 H' (fun c6 aB=>709=297∧c88 b (bP D=701∧707∧c29 [y]))):=by
 rw[B12 (m=57-i∧759 i∧617) ⟨57,19,229,h0⟩];rw[B20];have q:=ax i H hi p;rw[B42 i]
 ·refine .inr ⟨j02 xs xs[i] q,361,p17 ⟨57-(i+1),03,rfl,cM,ky⟩,c14⟩;rw[B26];subst e;exact aL i x _ (y xs q) p
 ·rw[B43 i];subst e;rw[A23 ⟨xs,q,64⟩ (hd H p)]
def Yc(N:225)(sc scope:rp)(own:821 Nat):Bool:=(match scope.kind with|.function=>01|_=>09)&&(scope.names.all (131 (29 (i41=some y.2))))&&(own.all (400 (29 (N[p.2]?=some p.1))))&&(scope.names.all (131 (match y.2 with|.free=>(match m06 with|some .cell=>01|some .free=>01|_=>09)|.local=>a43 y.1 m30||29 (y.1∉N)|.cell=>a43 y.1 m30||29 (y.1∉N)|_=>01)))
theorem hk(h:Yc N sc 42 own=01):DE N sc 42 own:=by
 unfold Yc at h;simp only[hG,gB,decide_eq_true_eq]at h;obtain⟨⟨⟨af,ak⟩,a6⟩,bH⟩:=h;refine⟨?_,ak,a6,i08 ?_,i08 ?_⟩
 ·split at af
  ·rw[A34]
  ·cases af
 ·have q:=bH y aC;simp only[e]at q;split at q<;>first|rw[A17 (by assumption)]|rw[A09 (by assumption)]|cases q
 ·have q:=bH y aC;rcases e with e|e<;>(simp only[e,Gi,decide_eq_true_eq]at q;exact q)
section
variable{s:aZ}{t0 aBb t1 i1:dn}{aBc aBd:439}{it acc:aH}
end
section
variable[m61]
def ja(kvs:524)(k:e8):93:=c09 (kvs.find? (g08 k))
def ie(kvs:524)(k:e8)(v:ae):524:=39 (g15 k) (m64 (13 (dU.1=k) (dU.1,v) dU)) (kvs++[(k,v)])
theorem DL{p:e8×ae}{r:524}{k:e8}(e:p.1=k):ja (p::r) k=some p.2:=r49
theorem As{p:e8×ae}{r:524}{k:e8}(e:¬p.1=k):ja (p::r) k=ja r k:=r49
theorem H9(k:e8):∀kvs:524,(g15 k)=736 068
 |[]=>rfl
 |p::r=>by
  rw[pe];rw[A06 p.1 k]
  ·simp only[DL e,190,VG,N_]
  ·rw[As e,132,Cu];exact H9 k r
theorem H_(kvs:524)(k:e8)(v:ae):11 (ie kvs k v)≤378+1:=by
 unfold ie;split
 ·rw[ba];lia
 ·rw[cn,dR,l4];lia
theorem am8{kvs:524}{k:e8}(v:ae)(h:068=00):ie kvs k v=kvs++[(k,v)]:=by unfold ie;rw[H9,h];exact 107
theorem j8.Au{o:93}{u:631}(r:j8 o u):i07=u.isSome:=by
 cases o with
  |none=>cases u with|none=>rfl|some _=>exact i35
  |some _=>cases u with|none=>exact i35|some _=>rfl
theorem gE.val{kvs:524}{vs:a88}(r:603)(k:e8):j8 068 (ya vs k):=by
 unfold gE at r
 induction r with
  |nil=>exact xX
  |@cons p q ps dg h t ih=>
   obtain⟨af,ak⟩:=h;rw[A06 p.1 k]
   ·have bZ:q.1=k:=i73;have b:ya (q::dg) k=some q.2:=r48;rw[DL e,b];exact ak
   ·have bZ:¬q.1=k:=e66 j27;have b:ya (q::dg) k=ya dg k:=r48;rw[As e,b];exact ih
theorem gE.any{kvs:524}{vs:a88}(r:603)(k:e8):(g15 k)=vs.any (g08 k):=by
 unfold gE at r
 induction r with|nil=>rfl|cons h t ih=>rw[pe,pe,ih,h.1]
theorem gE.Oi{kvs:524}{vs:a88}(r:603)(k:e8)(bQ:465):gE (m64 (13 (dU.1=k) (dU.1,y) dU)) (vs.map (fun dU=>13 (dU.1=k) (dU.1,u) dU)):=by
 unfold gE at r⊢
 induction r with
  |nil=>rw[A40]
  |@cons p q ps dg h t ih=>
   rw[eN,eN];refine 920 ?_;obtain⟨af,ak⟩:=h;rw[A06 p.1 k]
   ·rw[155,21 i73];exact⟨af,bQ⟩
   ·rw[148,136 (e j27)];exact⟨af,ak⟩
theorem gE.put{kvs:524}{vs:a88}(r:603)(k:e8)(bQ:465):gE (ie kvs k y) (stored vs k u):=by
 unfold ie stored;rw[r.any k];rw[A06 (vs.any (g08 k)) 01]
 ·rw[155,155];exact r.Oi k bQ
 ·rw[148,148];exact Yd r (119 bQ)
theorem gE.length{kvs:524}{vs:a88}(r:603):e30:=rR r
end
theorem vO{k:cF}(r:685 (ec k)):(fg P w).is k u=01:=by cases k with|inl i=>rw[B17 (u=zR i t)];subst e;exact tw P w i t|inr x=>rw[B17 (u=C3 x t)];subst e;exact ajZ P w x t
theorem Oj{P:f3}{w:ff}:∀{cS:756}{us:53},594 n20→ItemsAre (fg P w) cS us
 |[],_,r=>by rw[zx]at r;cases r;exact .nil
 |k::cS,_,r=>by
  rw[eN]at r
  cases r with|cons h t=>exact .cons (vO h) (Oj t)
abbrev kh(H:av):028→92 (c62 (ag×aH)):=ov (fun p q=>p.1=q.1∧H 449=294 (p.1.map ec)∧RelV p.2 423)
theorem kh.val{xs:c62 (ag×aH)}(r:b08 H)(k:756):j8 068 (c09 (vP xs k)):=by
 induction r with
  |nil=>exact xX
  |@cons p q ps dg h t ih=>
   obtain⟨af,_,ak⟩:=h;rw[A06 p.1 k]
   ·have bZ:q.1=k:=i73;have b:vP (q::dg) k=some q.2:=r47;rw[DL e,b];exact ak
   ·have bZ:¬q.1=k:=e66 j27;have b:vP (q::dg) k=vP dg k:=r47;rw[As e,b];exact ih
theorem kh.Oi{xs:c62 (ag×aH)}(r:b08 H)(k:756)(bQ:465):kh H (m64 (13 (dU.1=k) (dU.1,y) dU)) (077 (putAt k u)):=by
 induction r with
  |nil=>rw[A40]
  |@cons p q ps dg h t ih=>
   rw[eN,eN];refine 920 ?_;obtain⟨af,ak,a6⟩:=h;unfold putAt;rw[A06 p.1 k]
   ·rw[155,21 i73];exact⟨af,ak,bQ⟩
   ·rw[148,136 (e j27)];exact⟨af,ak,a6⟩
theorem kh.put{xs:c62 (ag×aH)}(r:b08 H)(k:756)(aa:H b=294 (k.map ec))(bQ:465):kh H (ie kvs k y) (Av xs k b u):=by
 have e:(g15 k)=736 (vP xs k):=by rw[H9,(r.val k).Au,Ye]
 unfold ie Av;rw[e];by_cases q:736 (vP xs k)=01
 ·rw[182,182];exact r.Oi k bQ
 ·rw[23 q,23 q];exact Yd r ⟨rfl,aa,bQ⟩
theorem kh.keeps{xs:c62 (ag×aH)}(r:b08 H)(bk:∀b ys,H b=294 ys→244=294 ys):b08 H':=Paired.G8 r (l40 ⟨z.1,bk _ _ 498,a05⟩)
theorem Yg{u:dz}(ok:fy P w H h)(e:tx H a u):fx P w H h a u:=e.ok ok
theorem DM{kvs:410}(ok:fy P w H h)(e:tx H a 900):a91∧(a==l5)=09∧∃vs,603∧h.DictOf (fg P w) a vs:=88 (fx P w H h a 900) (Yg ok e)
theorem am9{kvs:410}(ok:fy P w H h)(e:H a=c65):a91∧(a==l5)=09∧∃vs,603∧h.DictOf (fg P w) a vs:=DM ok (.inl e)
theorem Aw{cS:756}(ok:fy P w H h)(e:H a=294 n20):(414).is h cS a:=by rw[C74 (88 (fx P w H h a (.tup n20)) (ok a _ e))];exact⟨o,275,n,af,ak,a6,080 (Oj r)⟩
theorem Ax(ok:fy P w H h)(e:tx H a c05):a91∧(a==l5)=09∧∃xs,b08 H∧h.DictOfH 414 a xs:=by
 obtain⟨z,y,xs,r,o,aR,c0,af,ak,a6,bH,fX⟩:=(88 (fx P w H h a c05) (Yg ok e));refine⟨z,y,xs,r,o,aR,c0,af,ak,a6,bH,333,fX⟩;have all:∀{l:028}{m:c62 (ag×aH)},kh H l m→∀x∈m,(414).is h x.1 x.2.1:=by
  intro l m q
  induction q with
   |nil=>rw[A74];exact nomatch ai
   |@cons p q ps dg aw t ih=>
    rw[A74];rcases 569 ai with e|ai
    ·subst e;exact Aw ok (by rw[←aw.1];exact aw.2.1)
    ·exact ih x ai
 exact all r x ai
theorem ana(ok:fy P w H h)(e:H a=some c05):a91∧(a==l5)=09∧∃xs,b08 H∧h.DictOfH 414 a xs:=Ax ok (.inl e)
def qW(H:av)(a:ag)(y:ae)(r:93):04:=(∃kvs k,tx H a 900∧y=ec k∧r=068)∨∃kvs k b,tx H a c05∧y=281∧H b=294 (k.map ec)∧r=068
def DN(H:av)(a:ag)(y v:ae)(H':av):04:=(∃kvs k,H a=c65∧y=ec k∧378<bc∧H'=e25 a (ie kvs k v))∨∃kvs k b,H a=some c05∧y=281∧H b=294 (k.map ec)∧378<bc∧H'=upd H a (.gf (ie kvs k v))
theorem qW.k{H:av}{a:ag}{kvs:410}{k:cF}(e:H a=c65):qW H a (ec k) 068:=.inl ⟨kvs,k,.inl e,rfl,rfl⟩
theorem DN.k{H:av}{a:ag}{kvs:410}{k:cF}{v:ae}(e:H a=c65)(ax:378<bc):DN H a (ec k) v (e25 a (ie kvs k v)):=.inl ⟨kvs,k,e,rfl,ax,rfl⟩
section
variable{σ:bq}{s:aZ}{v:ae}{r:aH}{o:93}
theorem aQ.big(I:24):l5<18:=by have h:i6<18:=(l97).lt;exact Ia 14 h
theorem anb(bp:776 1<kb)(I:24)(g:qW H a y 54)(bQ:465)(h:∀gQ s',aQ X 07 σ H s'→RelV v gQ→Q gQ s'):a9 47 A (z1 38 u) Q E s:=by
 rw[C61]
 ·subst f6;rw[B89 (DM 274 e)];rw[C01 v (ya vs k) (by rw[l];exact 186)];exact wpAny_getItem_of e58 dd.mapOf hw (h gQ _ 279 oE)
 ·subst f6;cases g34 (u=da b);rw[B88 (Ax 274 e)];rw[C01 v (c09 (vP xs k)) (by rw[l];exact 186)];obtain⟨p,au,l1⟩:=pP.mp hw;refine wpAny_getItem_heap (Ib bp) (Aw 274 eG) dd au ?_;rw[l1];exact h gQ _ 279 oE
theorem anc(bp:776 1<kb)(I:24)(g:qW H a y o)(bQ:465)(h:∀s',aQ X 07 σ H s'→Q (.bool i07) s'):a9 47 A (jv .In u 38) Q E s:=by
 rw[C61]
 ·subst f6;rw[B89 (DM 274 e)];refine wpAny_in_of e58 hd dd.mapOf ?_;rw[←181,←l];exact h _ 279
 ·subst f6;cases g34 (u=da b);rw[B88 (Ax 274 e)];refine wpAny_in_heap (Ib bp) (Aw 274 eG) hd dd ?_;have q:=181;rw[Ye]at q;rw[←q,←l];exact h _ 279
theorem ane(bp:776 1<kb)(I:24)(g:qW H a y o)(bQ:465)(h:∀s',aQ X 07 σ H s'→Q (.bool (! i07)) s'):a9 47 A (jv .NotIn u 38) Q E s:=by
 rw[C61]
 ·subst f6;rw[B89 (DM 274 e)];refine wpAny_notIn_of e58 hd dd.mapOf ?_;rw[←181,←l];exact h _ 279
 ·subst f6;cases g34 (u=da b);rw[B88 (Ax 274 e)];refine wpAny_notIn_heap (Ib bp) (Aw 274 eG) hd dd ?_;have q:=181;rw[Ye]at q;rw[←q,←l];exact h _ 279
theorem Yh(I:24)(hJ:vm (H a))(aL:ox a 28 h')(he:∃q,940 a q)(new:fx 61 X.w (upd H a bC) h' a bC):f65 (upd H a bC):=I.write (x:=a) (e:=a) hJ 253 (fun b q aa z=>35 (aL.2 b aa) z) he new
theorem anf{kvs:410}{vs:c79}(z:a91)(hd:(a==l5)=09)(rel:603)(dd:h'.DictOf (fg P w) a vs):fx P w H' h' a 900:=⟨z,hd,vs,rel,dd⟩
theorem ang{Q:592}(bp:776 1<kb)(I:24)(g:DN H a y v H')(bQ:465)(cV:RelV v r)(h:∀s',050→Q () s'):a9 47 A (setItem 38 u r) Q E s:=by
 rcases g with⟨kvs,k,e,f6,l,yb⟩|⟨kvs,k,b,e,f6,eG,l,yb⟩
 ·subst f6 yb;rw[B89 (am9 274 e)];have hz:a02≤bc:=by rw[←rel.length];exact z
  have ax:069 (ie kvs k v):=564 (H_ kvs k v);refine wpAny_setItem_pairs (hsz:=hz) e58 dd (fun h' Ic aL=>h _ ?_);have he:∃q,940 a q:=let⟨q,_,_,aw,_⟩:=Ic;⟨q,aw⟩;exact Yh I p16 aL he (anf ax hd (rel.put k cV) Ic)
 ·subst f6 yb;cases g34 (u=da b);rw[B88 (ana 274 e)];have hz:052:=by rw[←rR rel];exact z
  have ax:069 (ie kvs k v):=564 (H_ kvs k v);refine wpAny_setItem_heap (hsz:=hz) (Ib bp) (Aw 274 eG) dd (fun h' Ic aL=>h _ ?_);obtain⟨q,aR,c0,aw,ak,a6,bH,_,fX⟩:=Ic;refine Yh I p16 aL ⟨q,aw⟩ ⟨ax,hd,_,(rel.put k eG cV).keeps (fun c ys s8=>?_),q,aR,c0,aw,ak,a6,bH,fX⟩;rw[aE (eB s8 e (16 l36))];exact s8
end
section
variable{σ:bq}{s:aZ}{kvs:410}{k:cF}
end
def Ol(i:dn):04:=∀dA gV,NF i 09 dA gV=operate [dA,gV] (z1 dA gV)
theorem Yi{s:aZ}{slice:dn}{id:String}(ax:lI e00 "__getitem__"=pure (some 995))(aL:Ol slice)(h:a9 232 A (b06 677) (fun o ep=>a9 232 A (b06 slice) (fun i iu=>iu.TypeIs o T∧a9 232 A (z1 o i) Q E iu) E ep) E s):a9 232 A (b06 (a26 677 slice)) Q E s:=by refine NB (j_ h (fun o ep H3=>j_ H3 (fun i iu DK=>?_) d64) d64);obtain⟨bR,DK⟩:=DK;unfold NC;rw[A28];rw[getitemInPython_of_ne bR.not_modules];rw[A00 (Yj bR ax ?_)];have fin:a9 232 A (NF slice 09 o i) (fun r vv=>a9 232 A (letTemporaryGo 677 o r>>=290 (pure r)) Q E vv) E iu:=364 (aL o i) (wpAny_operating (j_ DK (fun r vv H4=>a7 (wpAny_letTemporaryGo (cx H4))) d64));first|exact cx (a7 fin)|exact a7 (cx (a7 fin))|exact a7 fin
theorem anh{σ:bq}{s:aZ}{o:93}(I:24)(g:qW H a y o):s.TypeIs 38 536:=by
 rcases g with⟨kvs,k,e,_,_⟩|⟨kvs,k,b,e,_,_,_⟩
 ·obtain⟨_,_,vs,_,dd⟩:=DM 274 e;exact dd.typeIs
 ·obtain⟨_,_,xs,_,dd⟩:=Ax 274 e;exact dd.typeIs
inductive Yk(Q:aW)(x:ae)(y:ae)(aB:av):04|mk:∀a v,x=38→qW aB a y 54→Q v aB→Yk Q x y aB
def ani(hj ty:ct):ct:=262 (hj σ H (291 (ty σ H1 (891 (Yk Q x y aB)))))
inductive Yl(Q:aW)(y:ae)(x:ae)(aB:av):04|mk:∀a o,x=38→qW aB a y o→827 i07 aB→Yl Q y x aB
def anj(ty hj:ct):ct:=262 (ty σ H (d18 (hj σ H1 (d20 (Yl Q y x aB)))))
inductive Ym(Q:aW)(y:ae)(x:ae)(aB:av):04|mk:∀a o,x=38→qW aB a y o→827 (! i07) aB→Ym Q y x aB
def ank(ty hj:ct):ct:=262 (ty σ H (d18 (hj σ H1 (d20 (Ym Q y x aB)))))
inductive Yn(D:lY)(σ:bq)(v:ae)(x:ae)(y:ae)(a5:av):04|mk:∀a bP,x=38→DN a5 a y v bP→687 bP→Yn D σ v x y a5
def anl(hj ty h5:ct):gH:=475 (h5 σ H (fun v H1=>hj σ H1 (d20 (ty σ aB (fun y a5=>Yn D σ v x y a5)))))
section
variable{o i:dn}
theorem Yo(bp:d62 1<kb)(a8:bF X o hj)(hi:bF X i ty)(aL:Ol i):bF X (a26 o i) (ani hj ty):=by rw[A13];refine Yi anm.lookup aL (bY (a8 07 s σ H _ I h) (q74 (bY (hi 07 s1 σ H1 _ aX bg) (fun gV s2⟨y,aB,b5,bQ,a,v,ex,g,cf⟩=>?_))));rw[A25];rw[A38 u];exact⟨anh b5 g,anb bp b5 g bQ (fun gQ s3 el oE=>⟨v,aB,el,oE,cf⟩)⟩
theorem ano(bp:d62 1<kb)(hi:bF X i ty)(a8:bF X o hj):Hg X .In i o (anj ty hj):=by rw[A13];refine bY (hi 07 s σ H _ I h) (l74 (a8 07 s1 σ H1 _ aX bg) (r46 ?_));rw[A25];rw[A38 u];exact anc bp b5 g bQ (f38 (128 dA.isSome aB el cf))
theorem anp(bp:d62 1<kb)(hi:bF X i ty)(a8:bF X o hj):Hg X .NotIn i o (ank ty hj):=by rw[A13];refine bY (hi 07 s σ H _ I h) (l74 (a8 07 s1 σ H1 _ aX bg) (r46 ?_));rw[A25];rw[A38 u];exact ane bp b5 g bQ (f38 (128 (! dA.isSome) aB el cf))
theorem anq(bp:d62 1<kb)(a8:bF X o hj)(hi:bF X i ty)(a3:g78 h5)(aL:g88 677 (.Subscript o i pos')=911):iV X (d93 [.Subscript o i pos'] 677) (anl hj ty h5):=by rw[A35];refine wpAny_Assign_Subscript (bY (a3 07 s σ H _ I h) (fun r s1⟨v,H1,aX,cV,bg⟩=>bY (a8 07 s1 σ H1 _ aX bg) (fun u s2⟨x,aB,b5,bw,cf⟩=>bY (hi 07 s2 σ aB _ b5 cf) (fun gV s3⟨y,a5,el,bQ,a,bP,ex,g,eC⟩=>?_)))) aL;rw[A25];rw[A38 u];exact ang bp el g bQ cV (fun s4 jw=>⟨σ,bP,jw,eC⟩)
end
theorem anr(h:dk)(aa:l5<397):fx P w H (h.push a48) 397 (.e0 []):=⟨229,963 (jq (fk aa)),[],89,ant h⟩
def anu:ct:=fun _ H Q=>∀p,H p=00→664 (e25 p [])
theorem anv:bF X (.Dict [] [] pos) anu:=fun pins s σ H Q I h=>wpAny_Dict_empty ⟨277,_,I.laid (a:=18) (o:=.e0 []) (t':=233) (l39 (dY _ q)) 64 (anr 28 I.big),rfl,h _ 684⟩
def tO(kvs more:410):410:=more.foldl (fun acc dU=>ie acc dU.1 dU.2) kvs
theorem gE.merge:∀{more:410}{rs:c79}{kvs:410}{vs:c79},gE more rs→603→gE (tO kvs more) (merged vs rs):=by
 intro more rs kvs vs r;unfold gE at r
 induction r generalizing kvs vs with
  |nil=>intro q;exact q
  |@cons p q ps dg h t ih=>
   intro r0;have e:gE (ie kvs p.1 p.2) (stored vs q.1 q.2):=by have:=r0.put p.1 h.2;rw[←h.1];exact this
   exact ih e
theorem Yp:∀(more kvs:410),11 (tO kvs more)≤378+more.length|[],kvs=>636 378 (378+0)|p::r,kvs=>by have af:=Yp r (ie kvs p.1 p.2);have ak:=H_ kvs p.1 p.2;show 11 (tO (ie kvs p.1 p.2) r)≤_;rw[dR];lia
section
variable{σ:bq}{s:aZ}{d:ae}{r:aH}{o:93}
end
section
variable{o f:dn}{bI:ct}
end
section
variable{σ:bq}{s:aZ}{kvs:410}
end
section
variable{σ:bq}{s:aZ}
end
theorem anw:lI 901 968=520:=Yq (by first|rw[B46]|rfl)
theorem Ie:entryFor table k35=some Builtin.«dict.update.loop»:=entryFor_of_tree 666
theorem sl:plainId k35=01:=05
theorem anx{s:aZ}{xs:323}{k:Nat}{Q:e85}(ai:586 a)(ar:781 901)(sm:c07 (.seq xs k))(hd:e51)(di:595)(h:f10 ((812 (393 b bC→219=467))→Q 00 620)):a9 232 A (getAttr? 38 968) Q E s:=by
 obtain⟨c,aBe,dat,dP⟩:=o;simp only at ar sm hd;subst ar sm hd;rw[B45];have bR:∀lM,(⟨au,g,d,lM,os⟩:aZ).TypeIs 38 500:=290 (445 ai);have Ig:=anw;have DO:(m98:225).contains 968=09:=05;have hsz:074 968 Str+0x64≤bc:=by first|size_fits|rw[B46]
 rw[C82];have e9:=Yr.lookup;have f4:=Yr.bind 38;have fR:=am_list_getattr_none;rw[C81];repeat(any_goals(first|rw[A34]|exact bR _|((with_reducible show a9 _ _ (kZ (Ay "list.__getattribute__") _ _) _ _ _);refine x7 Yr (bR _) am_entry_list_getattribute (PySem.F.args_list_getattribute_2 _ _) (meets_getattribute_miss_list a xs k dP 968 _ Ig DO hsz) ⟨ai,di,fun h' lM e so=>?_⟩)|wp_step))
 rw[C80];show a9 _ _ (Om _ _ _ _ _ _ _) _ _ _;unfold Om;repeat(any_goals(first|rw[A34]|wp_step))
 all_goals first|exact h _ _ k37|(rw[A71];repeat(any_goals(first|rw[A34]|exact h _ _ k37|wp_step)))
theorem Ih:∀{ps:27}{us:53},594 992→us=ps.map da
 |[],us,r=>by rw[zx]at r;cases r;rfl
 |p::ps,us,r=>by
  rw[eN]at r
  cases r with|cons h t=>cases h;rw[eN,←Ih t]
theorem anz:rS 975=some (401 975):=05
section
variable{σ:bq}{s:aZ}
theorem aQ.anA(I:24)(k:300 (b∉ch) (346→219=25))(hf:i06 (pH X 07 H b)):l76:=by
 have pC:627 (H b=56→b∉ch):=p15 (r45 (hf b z).1);refine I.step (g':=d15) (d':=h82) (ch:=ch) (350 ⟨(941).2.2.2.1,(941).2.1,(941).2.2.2.2.1,(941).2.2.2.2.2⟩) (f60 (k b o ar e)) (f60 ⟨o.slots,k b o ar e⟩) (fun _ _ _ _ n=>n) (m77 o (k b o ar e)) (fun _ _ e=>e) (fun _ _ _ e=>e) (i05 ⟨#[],by rw[e];simp⟩) 764 n38 579
 ·rw[C60];exact⟨o,aR,c0,k _ o (16 ((hf _ z).2.1 rfl)) a8,r⟩
 ·refine j42 (I.bB b u e) (k c v ?_ q) g03 b78;rw[C59]
  ·rw[z];exact pC b u e
  ·exact pC c _ z
theorem aQ.Ys{T:ag}(I:24)(k:300 (b∉ch) (346→219=25))(hf:i06 (pH X 07 H b))(bR:18≤T)(new:fx 61 X.w (upd H T bC) h' T bC):f65 (upd H T bC):=by
 have aU:H T=00:=081 bR;have pC:627 (H b=56→b∉ch):=p15 (r45 (hf b z).1);refine I.step (g':=d15) (d':=h82) (ch:=ch) (350 ⟨(941).2.2.2.1,(941).2.1,(941).2.2.2.2.1,(941).2.2.2.2.2⟩) (f60 (k b o ar e)) (f60 ⟨o.slots,k b o ar e⟩) (fun b o _ e n=>?_) (m77 o (k b o ar e)) (p13 ?_) (fun b o u e=>?_) (i05 (328 #[])) 764 n38 579
 ·rw[aE (fk (jN 105 bR))];exact n
 ·rw[117 aU];exact e
 ·rw[117 aU];exact e
 ·rw[117 aU,e];simp
 ·rw[C60];exact⟨o,aR,c0,k _ o (16 ((hf _ z).2.1 rfl)) a8,r⟩
 ·by_cases aa:b=T
  ·subst aa;rw[aI]at e;cases e;exact new
  ·rw[aE aa]at e;refine j42 (I.bB b u e) (k c v ?_ q) (l38 (d54 q aU)) (l37 (d54 q aU));rw[C59]
   ·rw[z];exact pC b u e
   ·exact pC c _ z
theorem aQ.lock{u:dz}(I:24)(h:H d=56)(hJ:vm 56):∃cQ,aQ X 07 σ (upd H d (.eT cQ u)) s:=by
 have x:=I.bB d u h;have ex:∃cQ,393 d cQ:=by cases u with|lst xs=>rw[C45];rw[A55]|e0 kvs=>rw[B22];exact⟨o,e⟩|gf kvs=>rw[B22];exact⟨o,e⟩|set S n=>rw[C44];exact⟨o,e⟩|ins C dx bl=>rw[C43];rw[A55]|ext fQ=>rw[D45];rw[A55]|_=>exact gI hJ
 obtain⟨cQ,e⟩:=ex;have new:fx 61 X.w (upd H d (.eT cQ u)) 28 d (.eT cQ u):=by
  rw[A03 e (x.lE (fun b v _ q=>q) (fun b q=>?_) (p14 ?_))]
  ·rw[170 r44];exact q
  ·rw[170 r44];exact q
 exact⟨cQ,I.write (x:=d) (e:=d) (t':=233) (h':=28) (by rw[h];exact hJ) 253 (fun b v _ q=>q) ⟨cQ,e⟩ new⟩
theorem aQ.Ii{u:dz}(I:24)(h:H d=56)(hJ:vm 56):∀dr jT,X.xF d≠009 dr jT:=fun dr jT e=>by have q:=I.base.nx d dr jT e;rw[h]at q;cases q;exact hJ
theorem aQ.unlock{cQ:Obj}{u:dz}(I:24)(h:H d=009 cQ u)(aU:∀dr jT,X.xF d≠009 dr jT):aQ X 07 σ (upd H d u) s:=by
 have Az:374 (H b) ((∀dr jT,o≠.eT dr jT)→b≠d):=fun b o e d9 z=>by rw[z,h]at e;cases e;exact d9 _ _ rfl
 have neN:∀b,H b=00→b≠d:=fun b e z=>by rw[z,h]at e;cases e
 refine⟨I.ok,I.os,579,⟨I.base.keep,I.base.slot,fun b o e n ai=>?_,I.base.there,p13 ?_,fun b o x e=>?_,i05 ?_⟩,092,d19,?_,n44,263,k18,b54⟩
 ·rw[aE (neN b (a30 b e n ai))];exact a30 b e n ai
 ·have q:=I.base.pA b xs e;rw[aE (Az b _ q d40)];exact q
 ·have q:=I.base.nx b o x e;rw[170 (by rw[z]at e;exact aU _ _ e)];exact q
 ·obtain⟨m,q⟩:=I.base.pB b ps e;exact⟨m,b70 (Az b _ q d40)⟩
 ·rw[aE (neN _ 741)];exact I.free
 ·rw[aE (neN c (I.iS x c e))];exact I.iS x c e
 ·obtain⟨e,n,r⟩:=I.pin p au;exact⟨e,m39 (neN _ n),r⟩
 ·by_cases aa:b=d
  ·rw[aa,aI]at e;cases e;rw[aa];obtain⟨_,x⟩:=613 d h;exact x.lE (p12 q) (l38 (b70 (Az c _ q d40))) (l37 (b70 (Az c _ q d40)))
  ·rw[aE aa]at e;exact(I.bB b o e).lE (p12 q) (l38 (b70 (Az c _ q d40))) (l37 (b70 (Az c _ q d40)))
end
def anB(t:gH):gH:=475 (∃d u,H d=56∧vm 56∧∀cQ,t ⟨d17 (H' d=009 cQ u∧D.cz cb (upd H' d u)),h20 (H' d=009 cQ u∧D.l7 v (upd H' d u)),d17 (H' d=009 cQ u∧D.eO cb (upd H' d u)),d17 (H' d=009 cQ u∧D.ek cb (upd H' d u))⟩ σ (upd H d (.eT cQ u)))
theorem Yt{st:bK}{t:gH}(h:iV X st t):iV X st (anB t):=by
 intro pins s σ H D I hw;obtain⟨d,u,hd,hJ,hw⟩:=hw;obtain⟨cQ,aX⟩:=I.lock hd hJ;refine bY (h 07 s σ _ _ aX (hw cQ)) g51
 cases f with|next=>rw[C58];exact⟨cb,_,i98 e hd hJ,q⟩|brk=>rw[C58];exact⟨cb,_,i98 e hd hJ,q⟩|cont=>rw[C58];exact⟨cb,_,i98 e hd hJ,q⟩|ret v=>obtain⟨x,cb,H',b5,r,e,q⟩:=q;exact⟨x,cb,_,i98 e hd hJ,r,q⟩
theorem Ij{σ:bq}{s:aZ}{R:652}{fu:ix}{tk:Nat}(I:24)(o:Obj)(T:Turn 61 X.w X.K eD fu [18] 18 h3)(st:h3 0 (581 o))(q:R fu H):Dj X 07 σ eD R 277 (p11 (581 o)):=by refine⟨18,[18],h3,fu,H,rfl,I.kept (fun b bC e=>130),T,st,773,q⟩;have e:b=18:=120;subst e;exact I.xQ 64 684
def DP(lo c:Int)(n:Nat):ix:=g53 (a04 (i<n)) (H'=H∧x=.int (lo+(i:Nat)*c)) (a04 (n≤i))
theorem anC(it:ag)(lo c:Int)(n:Nat):Turn P w K eD (DP lo c n) [it] it (619 (MZ h it (lo+(i:Nat)*c) (44-(i:Nat)) c))where
 mem:=19
 obj:=d26 (r43 (b=it) 120 ⟨_,st,l33 l36⟩)
 keep:=f52 (k it 19 _ st)
 item:=by rw[A43];rw[A42];rw[A51];have W:=Walks.range (prog:=61) (w:=X.w) 408 it lo c n;refine W.item i s _ _ a4 st m47;obtain⟨t,rfl⟩:=a3;have aX:l72:=I.turned (537 (b0 b o 120 e)) f0 f1 e9 f4 fR;rw[A15 (z5 (s:=620) (n:=r42) kx rfl rfl 14 ⟨.int (lo+(i:Nat)*c),H,aX,612 t,149,kx,e83⟩)]
 done:=by rw[A43];rw[A42];rw[A51];exact akO 408 st (by have:n≤i:=a4;lia) (a32 (I.turned (t':=233) (537 (eG b o aa e)) f0 f1 e9 f4 fR))
 self:=i04 (akP st h)
def Yu(i j c:Int)(n:Nat):04:=c≠0∧c.natAbs<p10∧Oo i j c=01∧z6 i j c=n
inductive Yv(R:652)(vs:08)(H1:av):04|mk:∀(i j c:Int)(n:Nat),vs=[260,859,.int c]→Yu i j c n→R (DP i c n) H1→Yv R vs H1
def anD(bW:fG):TI:=a03 (bW σ H (728 (Yv R vs H1)))
theorem anE{a b c:dn}{bW:fG}{p:Pos}(a4:h1 X 510)(hm:n23=00)(aN:hZ X [a,b,c] bW)(aL:406 [a,b,c]=013 a::406 [b,c]:=by rfl)(eH:f94 (406 [b,c]):=by rfl):lG X eD (.Call (.Name 510 p) [a,b,c] [] pos) (anD bW):=by
 rw[A83];rw[B00 (qD I a4 hm xS (tH (988 (aN pos 07 s σ H _ I h) ?_) aL eH))];obtain⟨i,j,k,n,e,⟨anF,fA,kd,iY⟩,q⟩:=bg;subst e
 cases bU with
  |cons r eV=>
   cases eV with
    |cons dF eV=>
     cases eV with
      |cons anG eV=>
       cases eV;rw[A53];rw[D44];obtain⟨anH,rfl⟩:=anG;refine call_range_3 anF ?_ (.inl (ak6 fA));refine wpAny_pyIter_range (akS ..) kd ?_;have b5:aQ X 07 σ H1 (l86 (825 510 #[706,.int j t',.int k anH])):=d47 (903 _ e);refine Ij (tk:=b55) b5 _ (anC _ i k n) ?_ q;have aK:i+52 0*k=i:=19;have aG:44-52 0=z6 i j k:=by rw[iY];simp
       show MZ _ _ (i+52 0*k) (44-52 0) k;rw[aK,aG];exact 111
def vQ(x:Str):ix:=⟨a04 (i<570),p03 (H'=H∧∃c,x.cps[i]?=73∧v=a84),a04 (570≤i)⟩
theorem Yw(it:ag)(x:Str)(t:Tok)(ty:String)(vJ:ty=r40∨ty=r41):Turn P w K eD (vQ x) [it] it (619 (h.IsStrIter it ty x t i))where
 mem:=19
 obj:=d26 (by have e:b=it:=120;subst e;obtain⟨o,e,c,d⟩:=st;exact⟨o,e,l75⟩)
 keep:=f52 (let⟨o,a8,r⟩:=st;⟨o,k it 19 o a8,r⟩)
 item:=by
  rw[A43];rw[A42];rw[A51];have W:Walks 61 X.w X.A it [it] [it] 570 (SignAt x) (619 (h.IsStrIter it ty x t i)):=by
   rw[B87]
   ·rw[e];exact Walks.strAscii 408 it x t
   ·rw[e];exact Walks.strWide 408 it x t
  have cy:[893,380,p09,p08,p07,p06,p05].contains ty=09:=by
   rw[B87]
   ·rw[e];decide
   ·rw[e];decide
  refine W.item i s _ _ a4 st m47;obtain⟨c,u,anI,rfl⟩:=a3;have aX:l72:=I.turned (537 (b0 b o 120 e)) f0 f1 e9 f4 fR;obtain⟨yc,e,anJ,dd⟩:=id kx;rw[A15 (z5 (s:=620) e anJ dd cy ⟨a84,H,aX,612 u,⟨rfl,c,anI,rfl⟩,kx,e83⟩)]
 done:=by
  rw[A43];rw[A42];rw[A51];have ai:x.cps[i]?=00:=Yx a4;rw[B87]
  ·rw[A90];exact wpAny_pyNext_ascii_end 408 st ai (a32 (I.turned (t':=233) (537 (eG b o aa e)) f0 f1 e9 f4 fR))
  ·rw[A90];exact wpAny_pyNext_wide_end 408 st ai (a32 (I.turned (t':=233) (537 (eG b o aa e)) f0 f1 e9 f4 fR))
 self:=i04 (by
  rw[B87]
  ·rw[A90];exact wpAny_pyIter_striter_ascii st h
  ·rw[A90];exact wpAny_pyIter_striter_wide st h)
inductive Yy(R:652)(v:ae)(H1:av):04|mk:∀x,v=765→R (vQ x) H1→Yy R v H1
def anK(c7:ct):TI:=a03 (c7 σ H (fun v H1=>Yy R v H1))
theorem Ik(he:530):lG X eD e (anK c7):=by
 rw[A83];refine bY (he 07 s σ H _ I h) (fun v s1⟨y,H1,aX,bU,x,ex,q⟩=>?_);rw[A25];rw[B86];cases aN:x.cps.all (·<0x80)
 ·exact wpAny_pyIter_wide aN (Ij (tk:=b55) aX _ (Yw _ x t r41 e68) b14 q)
 ·exact wpAny_pyIter_ascii aN (Ij (tk:=b55) aX _ (Yw _ x t r40 253) b14 q)
section
variable{s:aZ}
theorem anL(hd:(d==l5)=09)(a8:586 d)(ar:o.ExactDict)(sm:a69)(g6:Q 277 (621 (581 (514 l34 (504 #[602,.int 0 0,.int d03 0,.int c0 0]))))):a9 232 A (vw 602) Q E s:=by have bR:s.TypeIs 602 536:=⟨o,a8,ar.1⟩;refine wpAny_pyIter_slot bR r39 (DQ r39 bR F.entry_dict_iter ?_ (F.args_dict_iter_1 _));unfold Builtin.«dict.__iter__»;rw[A28];unfold Builtin.Dict.dictSlotNone;rw[A00 (Yz bR ?_)];show a9 _ _ (pure (da d)) _ _ s;refine 345;show a9 _ _ (anM d>>=_) _ _ s;unfold anM;rw[23 (by rw[hd];exact hB)];rw[B01];rw[A00 (YA a8 sm ?_)];rw[A00 (YB a8 sm ?_)];rw[A00 (H5 (cx ⟨_,rfl,l34,_,445 111,F.slot_dict_keyiterator_next.lookup,?_⟩))];simpa[hM]using g6
theorem anN{cQ:Obj}{e7:Il}{Q:e85}(hit:s.heap.IsKeyIter it d i n c0)(sq:393 d cQ)(vR:cQ.data=g13)(hsz:d03=n)(ai:aR[i]?=some e7)(g6:∀h',h'.IsKeyIter it d (i+1) n c0→ox it 28 h'→Q (some e7.key) 538):a9 232 A (nB 760) Q E s:=by
 obtain⟨o,a8,ar,hd⟩:=id hit;unfold nB;rw[A00 (j36 j10 981 l35 (DQ l35 981 r37 ?_ (r36 _)))];rw[B01];rw[A28];rw[A28];first|rw[A00 j78]|rw[A00 j86]
 rw[A00 (wpAny_fieldsOf a8 hd ?_)];have Ow:anO l34=09:=14;rw[D43];show a9 _ _ (616 (da d==fh)) _ _ s;rw[23 (show¬((da d==fh)=01)from hB)];rw[B01];rw[A00 (YA sq vR ?_)];rw[23 r35];rw[B01];rw[A00 (YB sq vR ?_)];rw[142];refine 345;obtain⟨yd,anP⟩:=Ox.mp ai;simp only[88 (¬(249<0)) 03,if_false,kA,YC yd];rw[A28];first|rw[A00 j78]|rw[A00 j86]
 rw[A00 (anQ 981 ?_)];show a9 _ _ (setField 760 1 (hM (249+1))>>=_) _ _ s;rw[A00 (DR a8 hd 19 ?_)];have Im:(982 it (j1 r38)).IsKeyIter it d (i+1) n c0:=⟨_,x5 _ a8 (Io (DS hd _)),35 (anR ..) ar,by rw[DS hd];simp[hM]⟩;rw[A99 ?_];rw[A00 (anQ (s:=621 (982 it (j1 r38))) Im.typeIs ?_)];show a9 _ _ (pure aR[i].key) _ _ _;rw[anP];exact c49 (123 (cx (g6 _ Im (anS ..))))
theorem anT{cQ:Obj}{Q:e85}(dh:595)(hit:s.heap.IsKeyIter it d i n c0)(sq:393 d cQ)(vR:cQ.data=g13)(hsz:d03=n)(qX:n≤i)(g6:∀h',Heap.ExtBut it 28 h'→Q 00 538):a9 232 A (nB 760) Q E s:=by
 obtain⟨o,a8,ar,hd⟩:=id hit;unfold nB;rw[A00 (j36 j10 981 l35 (DQ l35 981 r37 ?_ (r36 _)))];rw[B01];rw[A28];rw[A28];first|rw[A00 j78]|rw[A00 j86]
 rw[A00 (wpAny_fieldsOf a8 hd ?_)];have Ow:anO l34=09:=14;rw[D43];show a9 _ _ (616 (da d==fh)) _ _ s;rw[23 (show¬((da d==fh)=01)from hB)];rw[B01];rw[A00 (YA sq vR ?_)];rw[23 r35];rw[B01];rw[A00 (YB sq vR ?_)];rw[142];refine 345;have anU:d03≤i:=by rw[hsz];exact qX
 simp only[88 (¬(249<0)) 03,if_false,kA,Yx anU];rw[A28];first|rw[A00 j78]|rw[A00 j86]
 show a9 _ _ (setField 760 0 87>>=_) _ _ s;rw[A00 (DR a8 hd 19 ?_)];show a9 _ _ (newExc i46 []>>=_) _ _ _;rw[A28];simp only[newExc,newTuple];rw[A00 (H5 ?_ (by size_fits))];refine a7 (m:=firstArgMember _ _) (wpAny_of_eq (a:=fh) (by first|rfl|(simp only[firstArgMember];rfl)) ?_);refine H5 ?_ (by size_fits);simp only[raiseNew];rw[A00 (wpAny_handled ?_)];rw[show A.in1.handled=00 from dh];rw[A00 (cx (wpAny_throw ?_))];rw[A00 (YD (T:=n72) (b:=01) (445 111) p83 ?_)];exact cx (g6 _ (((anS ..).extBut.push _).push _))
end
theorem anV{kvs:524}{vs:a88}(h:603):∀{i:Nat}{k:e8}{v:ae},kvs[i]?=some (k,v)→∃u,vs[i]?=some (k,u)∧466:=by
 unfold gE at h
 induction h with
  |nil=>intro i k v e;simp at e
  |@cons a b MP l₂ r t ih=>
   intro i k v e
   cases i with|zero=>simp only[anW,Option.some.injEq]at e;subst e;refine⟨b.2,?_,r.2⟩;simp only[anW];exact d72 (aiO r.1.symm rfl)|succ j=>simp only[List.getElem?_cons_succ]at e⊢;exact ih e
section
variable{σ:bq}{s:aZ}
theorem aQ.Oy{kvs:410}(I:24)(h:H d=798 900):(d==l5)=09∧586 d∧p04∧∃(aR:724 Il)(c0:Nat)(vs:c79),a69∧d03=378∧603∧s.heap.DictAt (fg 61 X.w) d vs c0:=by obtain⟨hd,z,aL,vs,dU,dr,aR,c0,a8,ai,iB,r⟩:=613 d h;rw[hd]at a8;cases a8;refine⟨aL,hd,ai,aR,c0,vs,iB,?_,dU,o,aR,hd,ai,iB,r⟩;have eY:=r.2.1.length;have dW:e30:=rR dU;rw[C_]at eY;lia
end
def DT(d:ag)(o:Obj)(kvs:410):ix:=g53 (987 (H d=798 900∧i<378)) (H'=H∧∃k,kvs[i]?=some (k,x)) (987 (H d=798 900∧378≤i))
theorem YE{vp:724 Il}{vq:Nat}(h:a69)(h':c07 (.dict vp vq)):vp=aR∧vq=c0:=by rw[h]at h';cases h';exact 149
theorem anY{kvs:410}(it:ag)(sq:a69):Turn P w K eD (DT d o kvs) [it] it (619 (h.IsValIter it d i 378 c0))where
 mem:=19
 obj:=d26 (by have e:b=it:=120;subst e;obtain⟨yc,e,c,dd⟩:=st;exact⟨yc,e,l33 (by rw[dd]at z;cases z)⟩)
 keep:=l98 (fun yc e=>k it 19 yc e)
 item:=by rw[A43];rw[A42];obtain⟨hd,hi⟩:=a4;rw[A51];rw[D42 (I.Oy hd)];rw[B54 (YE sq iB)];obtain⟨⟨k,v⟩,YF⟩:∃p,kvs[i]?=some p:=⟨kvs[i],122⟩;rw[B49 (anV dU YF)];have ax:e30:=rR dU;rw[ax]at st;refine wpAny_pyNext_values_item st hm bp j59;have aX:f70:=I.turned (t':=233) (l04 (385 b aa e)) f0 f1 e9 f4 fR;obtain⟨yc,e,c,dd⟩:=id kx;refine⟨u,rfl,z5 (s:=538) e c dd 14 ⟨v,H,aX,gR,⟨rfl,k,YF⟩,?_,e83⟩⟩;show h'.IsValIter it d (i+1) 378 _;rw[ax];exact kx
 done:=by rw[A43];rw[A42];obtain⟨hd,hi⟩:=a4;rw[A51];rw[D42 (I.Oy hd)];rw[B54 (YE sq iB)];have ax:e30:=rR dU;rw[ax]at st;exact wpAny_pyNext_values_end 408 st hm 140 (a32 (I.turned (t':=233) (l04 (eG b bC aa e)) f0 f1 e9 f4 fR))
 self:=i04 (wpAny_pyIter_valiter st h)
inductive YG(R:652)(x:ae)(H1:av):04|mk:∀d o kvs,x=602→H1 d=798 900→R (DT d o kvs) H1→YG R x H1
def anZ(hj:ct):TI:=a03 (hj σ H (291 (YG R x H1)))
theorem an0(he:bF X e hj)(qO:tJ e "values" 55 689=689:=by rfl)(qP:(i55 lK.line)=01:=by rfl):lG X eD (.Call (b92 "values" apos) [] [] lK) (anZ hj):=by
 rw[A83];refine wpAny_Call_method (T:=536) (id:="dict.values") qO rfl qP F.plainAttrs_dict r34 F.type_dict_values (bY (he 07 s σ H _ I h) (fun u s1⟨x,H1,aX,bw,d,o,kvs,ex,hd,q⟩=>?_));rw[A25];obtain rfl:u=da d:=bw;obtain⟨aL,vS,ai,aR,c0,vs,iB,hsz,dU,hm⟩:=aX.Oy hd;have ax:e30:=rR dU;rw[A20 r33 hm.dictOf.mapOf.noDict];have b5:aQ X 07 σ H1 (l86 (825 "dict_values" #[602])):=d47 (g02 _ q);have fin:a9 47 X.A (vw (.ref 227)) (Dj X 07 σ eD R) 68 (l86 (825 "dict_values" #[602])):=by refine wpAny_pyIter_values (d:=d) (knd:=fg 61 X.w) b14 (hm.push _) (Ij (tk:=b55) b5 _ (anY _ iB) ⟨_,111,rfl,?_⟩ q);rw[ax]<;>rfl
 show a9 _ _ (Ad lK (399 "dict.values") [602] [] []) _ 68 s1;exact method_meetsIn r34 F.entry_dict_values rfl (PySem.evalArgs_none ⟨rfl,r33,F.args_dict_values_1 _,_,meets_dict_values (fg 61 X.w) d aL,⟨vs,hm.dictOf⟩,fin⟩)
def DU(K:bo)(a:ag):ix:=⟨987 (∃(xs:08)(x:ae),464∧441=43),p03 (∃T x,v=c51∧H T=00∧H'=388 H T [309,x]∧∀xs,464→441=43),987 (∃xs:08,464∧57≤i)⟩
theorem an1(a e it:ag):Turn P w K (d94 b0 tc) (DU K a) [e,it] e (619 ((∃old,IsEnum h e it (52 i) old)∧j44 it a∧e≠it))where
 mem:=19
 obj:=d26 (by
  obtain⟨⟨old,he⟩,⟨o,a8,ar,hd⟩,_⟩:=st;have bZ:b=e∨b=it:=120;rw[C54]
  ·rw[z];exact⟨_,he,i49⟩
  ·rw[z];exact⟨o,a8,l32 (by rw[hd]at q;cases q)⟩)
 keep:=f52 (let⟨⟨old,he⟩,hi,d9⟩:=st;⟨⟨old,k e 19 _ he⟩,hi.at (b60 (k it 19 o q)),d9⟩)
 item:=by
  rw[A43];rw[A42];rw[D41];rw[C57];rw[B60 aw];rw[B37 ai];have YH:e<18:=dm he;have Ip:it<18:=by obtain⟨_,q,_⟩:=hit;exact dm q
  refine wpAny_pyNext_enum_item he hit d25 (x:=u) h76 d9 (fun h' a8 Im bR hsz aS=>?_);refine 123 (wpAny_letOwnedTupleGo_enum (s:=r32 (233+1)) a8 (fun vN NW eX=>?_));have iZ:vN.get? 18=some (c01 #[g38 i,u]):=385 _ (lF YH) bR;have new:fx 61 X.w (388 H 18 [309,x]) vN 18 (.tup [309,x]):=⟨681 (2≤bc),[g38 i,u],752 rfl (386 gR),⟨_,iZ,rfl,_,rfl⟩⟩;have aX:aQ X 07 σ (388 H 18 [309,x]) {s with heap:=vN,toks:=233+1}:=I.Ys (ch:=[e,it]) (fun b bC aa q=>385 b m82 (aS b bC m82 m82 q)) hf 64 new;refine⟨277,_,aX,rfl,⟨_,x,rfl,684,rfl,l92 (I.Hi aC aw)⟩,⟨328 u,Im.at (b60 (385 it (jq d9) q)),d9⟩,773⟩
  ·have aK:52 (i+1)=249+1:=03;rw[aK];exact NW
  ·have oc:a99:=by
    have bZ:b=e∨b=it:=120;rw[C54]
    ·rw[z];exact YH
    ·rw[z];exact Ip
   rw[aE (fk oc)];exact(941).1
 done:=by rw[A43];rw[A42];rw[D41];rw[C56];rw[B60 aw];rw[A51];rw[C55];exact wpAny_pyNext_enum_end 408 he hit d25 b46 (a32 (I.turned (t':=233) (fun b o aa q=>eG b o aa q) f0 f1 e9 f4 fR))
 self:=i04 (let⟨⟨_,he⟩,_⟩:=st;wpAny_pyIter_enum he h)
inductive YI(K:bo)(R:652)(vs:08)(H1:av):04|mk:∀a xs,vs=254→aJ K H1 a xs→R (DU K a) H1→YI K R vs H1
def YJ(K:bo)(bW:fG):TI:=a03 (bW σ H (728 (YI K R vs H1)))
theorem an2{bW:fG}{p:Pos}(a4:h1 X 893)(hm:X.ah 893=00)(aN:hZ X [e] bW)(aL:406 [e]=[391]:=by rfl):lG X (d94 b0 tc) (.Call (.Name 893 p) [e] [] pos) (YJ X.K bW):=by
 rw[A83];rw[B00 (qD I a4 hm boot_enumerate (tH (988 (aN pos 07 s σ H _ I h) ?_) aL rfl))];obtain⟨a,xs,ex,aw,q⟩:=bg;rw[A25]
 cases bU with
  |cons r eV=>
   cases eV;cases r;obtain⟨a0,cV,ky,hz⟩:=j64;refine call_enumerate_list ky.isList (fun h' he hit hsz aS=>wpAny_pyIter_enum he ?_);have b5:aQ X 07 σ H1 k98:=d47 aS;refine⟨227+1,[227+1,227],_,_,H1,rfl,b5,an1 a (227+1) 227,⟨⟨87,he⟩,hit,Nat.succ_ne_self _⟩,773,q⟩;have bZ:b=227+1∨b=227:=120;have hle:227≤b:=by
    rw[C54]
    ·rw[z];exact Iq _ _
    ·rw[z];exact 64
   exact aX.xQ hle (h32 hle)
theorem YK:rS 380=some 002:=05
def DV(K:bo)(a b:ag):ix:=⟨987 (∃(xs ys:08)(x y:ae),464∧aJ K H b ys∧441=43∧ys[i]?=270),p03 (∃T x y,v=c51∧H T=00∧H'=388 H T [x,y]∧(∀xs,464→441=43)∧∀ys,aJ K H b ys→ys[i]?=270),987 (∃xs ys:08,464∧aJ K H b ys∧(57≤i∨675≤i))⟩
theorem an3{z TI TO:ag}(D:ZipApart z TI TO i1 i2 a b):Turn P w K (d94 b0 tc) (DV K a b) [z,TI,TO,i1,i2] z (619 (IsZip h z TI TO 87∧j2 h TI 918 a46∧(d01 (j2 h TO x y))∧j44 i1 a∧j44 i2 b))where
 mem:=19
 obj:=fun i h st c ar=>by
  obtain⟨hz,gX,⟨x,y,kD⟩,⟨o1,aK,_,jW⟩,⟨o2,aG,_,iC⟩⟩:=st;have bZ:c=z∨c=TI∨c=TO∨c=i1∨c=i2:=by simpa using ar
  rw[D40]
  ·rw[q];exact⟨_,hz,i49⟩
  ·rw[q];exact⟨_,gX,i49⟩
  ·rw[q];exact⟨_,kD,i49⟩
  ·rw[q];exact⟨o1,aK,l32 (by rw[jW]at q;cases q)⟩
  ·rw[q];exact⟨o2,aG,l32 (by rw[iC]at q;cases q)⟩
 keep:=f52 (by obtain⟨hz,gX,⟨x,y,kD⟩,af,ak⟩:=st;exact⟨k z 19 _ hz,k TI 19 _ gX,⟨x,y,k TO 19 _ kD⟩,af.at (b60 (k i1 19 o q)),ak.at (b60 (k i2 19 o q))⟩)
 item:=by
  rw[A43];rw[A42];rw[D39];obtain⟨xs,ys,x,y,AA,AB,ai,aC⟩:=a4;obtain⟨a0,cV,p,_⟩:=678 AA;rw[C53 (678 AB)];rw[B37 ai];obtain⟨jP,kT,NZ⟩:=Ir.get aC;have Oz:z<18:=dm hz;refine wpAny_pyNext_zip_item D hz gX kD af ak d25 p02 (x:=u) (y:=jP) h76 (by simpa using kT) (fun h' j9 an5 oH qY bR hsz aS=>?_);refine 123 (wpAny_letOwnedTupleGo_zip (s:=538) j9 (fun vN an6 eX=>?_));have iZ:vN.get? 18=some (c01 #[u,jP]):=385 _ (lF Oz) bR;have new:fx 61 X.w (388 H 18 [x,y]) vN 18 (.tup [x,y]):=⟨681 (2≤bc),[u,jP],.cons gR (386 NZ),⟨_,iZ,rfl,_,rfl⟩⟩;have aX:aQ X 07 σ (388 H 18 [x,y]) {s with heap:=vN}:=I.Ys (t':=233) (ch:=[z,TI,TO,i1,i2]) (fun c o aa q=>385 c 994 (aS c o 994 994 994 994 q)) hf 64 new;refine⟨277,_,aX,rfl,⟨_,x,y,rfl,684,rfl,h40 (by rw[I.Hi ax AA];exact ai),h40 (by rw[I.Hi ax AB];exact aC)⟩,⟨an6,?_,⟨u,jP,?_⟩,?_,?_⟩,fun c It=>?_⟩
  ·exact 385 _ D.TIz (aS _ _ D.TIz D.TITO D.TIi1 D.TIi2 gX)
  ·exact 385 _ D.TOz an5
  ·exact oH.at (b60 (385 _ D.i1z q))
  ·exact qY.at (b60 (385 _ D.i2z q))
  ·have cM:c<18:=by
    have bZ:c=z∨c=TI∨c=TO∨c=i1∨c=i2:=r31;rw[D40]
    ·rw[q];exact Oz
    ·rw[q];exact dm gX
    ·rw[q];exact dm kD
    ·rw[q];obtain⟨_,aK,_⟩:=af;exact dm aK
    ·rw[q];obtain⟨_,aG,_⟩:=ak;exact dm aG
   rw[aE (fk cM)];exact(hf c It).1
 done:=by
  rw[A43];rw[A42];rw[D39];obtain⟨xs,ys,AA,AB,an7⟩:=a4;obtain⟨a0,cV,p,_⟩:=678 AA;rw[C53 (678 AB)];have eY:=cV.length;have dW:=Ir.length;have he:g52 i 00∨mc.toArray[i]?=00:=by
   rcases an7 with q|q
   ·rw[A17 b46]
   ·rw[A09 b46]
  exact wpAny_pyNext_zip_end 408 D hz gX kD af ak d25 p02 he (fun h' aS=>119 (I.anA (t':=233) (ch:=[z,TI,TO,i1,i2]) (fun c o aa q=>aS c o 994 994 994 994 q) hf))
 self:=i04 (wpAny_pyIter_zip st.1 h)
inductive YL(K:bo)(R:652)(vs:08)(H1:av):04|mk:∀a b xs ys,vs=349 281→aJ K H1 a xs→aJ K H1 b ys→R (DV K a b) H1→YL K R vs H1
def YM(K:bo)(bW:fG):TI:=a03 (bW σ H (728 (YL K R vs H1)))
theorem an8{bW:fG}{p:Pos}(a4:h1 X 380)(hm:X.ah 380=00)(aN:hZ X [e,aG] bW)(aL:406 [e,aG]=391::e70:=by rfl)(eH:f94 e70:=by rfl):lG X (d94 b0 tc) (e18 [e,aG]) (YM X.K bW):=by
 rw[A83];rw[B00 (qD I a4 hm YK (tH (988 (aN pos 07 s σ H _ I h) ?_) aL eH))];obtain⟨a,b,xs,ys,ex,AA,AB,q⟩:=bg;rw[A25]
 cases bU with
  |cons r eV=>
   cases eV with
    |cons dF eV=>
     cases eV;cases r;cases dF;obtain⟨a0,cV,fW,_⟩:=aX.list AA;rw[C53 (aX.list AB)];have oI:a<227:=fW.lt;have lN:b<227:=fD.lt;refine call_zip_2 fW.isList p02 (fun h' hz gX kD af ak hsz aS=>wpAny_pyIter_zip hz ?_);have b5:aQ X 07 σ H1 k98:=d47 aS;refine⟨227+4,[227+4,227+2,227+3,227,227+1],_,_,H1,rfl,b5,an3 (PySem.W.ktu_apart 227 a b oI lN),⟨hz,gX,⟨_,_,kD⟩,af,ak⟩,fun c It=>?_,q⟩;have bZ:c=227+4∨c=227+2∨c=227+3∨c=227∨c=227+1:=r31;have hle:227≤c:=by
      rcases bZ with z|z|z|z|z
      ·rw[z];exact Iq _ _
      ·rw[z];exact Iq _ _
      ·rw[z];exact Iq _ _
      ·rw[z];exact 64
      ·rw[z];exact Iq _ _
     exact aX.xQ hle (h32 hle)
end
section
variable{A:rT}{B:Prop}{I a b c d f p t:ag}{E Q:aH→aZ→Prop}{F:List (List Nat)}{K:bo}{N ps:List Str}{P:f3}{apos pos:Pos}{S:ag→Prop}{a0 us vs:List aH}{aG e:dn}{bx doc ek ig u:aH}{o:Obj}{ah:Str→Option aH}{pins:List (ag×Obj)}{an cQ func:Option ag}{i n t':Nat}{base h:dk}{g l:List Nat}{r:List Int}{dP k7:Array (Option aH)}{e8:Type}{fd:k6}{items:Array aH}{name qual x:Str}{outer:List Env}{pl:Sem Bool}{q:Search}{s:dt}{v:Word}{w:ff}{xs ys:List ae}{y:ae}{H H' H1 aB:av}{X:dT}{c7 to ty:ct}{sp:mM}
namespace Bits
end Bits
namespace TL
open PySem PySem.Builtin PySem.Builtin.Str PySem.StrLaws
abbrev c5(x:Str):06:=x.cps.toList
theorem AD{y:Str}(h:c5 x=c5 y):x=y:=Str.ext' (Array.toList_inj.mp h)
theorem OA(x y:Str):c5 (x++y)=c5 x++c5 y:=by show(x++y).cps.toList=_;rw[Str.cps_append,Array.toList_append]
theorem an9(s:String):c5 (iA s)=s.toList.map Char.toNat:=PyProof.Rows.signs_ofString s
def AE(S:06):30→06|[]=>[]|[p]=>p|p::q::r=>p++(S++AE S (q::r))
theorem OB(y:Str):∀parts:225,c5 (Str.join y parts)=AE (c5 y) (parts.map c5)|[]=>rfl|[_]=>rfl|x::z::r=>by show c5 (x++y++Str.join y (z::r))=c5 x++(c5 y++AE (c5 y) ((z::r).map c5));rw[OA,OA,OB y (z::r),jo]
theorem join_eq(y:Str)(parts:225):DW y parts=Str.join y parts:=glued_eq_join y parts
end TL
theorem YN{ys:225}(h:594 b72):StrsAre us ys:=cc.strs h
section
variable{σ:bq}{s:aZ}{Q:aW}
end
theorem aoa:qN X "str.join" (d24 (∃a p,∃ys:225,x=056∧xs=718∧(aJ X.K H p b72∨dX X.K H p b72)∧(m14).sum+675*733≤l29∧Q (.str (DW a ys)) H)):=by
 rw[C51];obtain⟨a,p,ys,rfl,rfl,au,hz,h⟩:=h;rw[A12]
 cases rs with
  |cons bU rs=>
   cases rs;cases bU;rcases au with au|au
   ·obtain⟨a0,r,⟨o,n,a8,ar,_,hd⟩,_⟩:=678 au;exact PyProof.Rows.join_list (items:=275) ⟨o,a8,ar,n,hd⟩ (by rw[aob];exact YN r) hz (fun t' k=>⟨.str _,H,I.tok k,612 t',h⟩)
   ·obtain⟨a0,r,bk,_⟩:=b26 au;exact PyProof.Rows.join_tuple (items:=275) bk (by rw[aob];exact YN r) hz (fun t' k=>⟨.str _,H,I.tok k,612 t',h⟩)
theorem OC{id:String}{g:Str→Str→ae}(rule:∀(a b:Str)(t u:Tok)(s:aZ)(Q:490),(∀(v:aH)(k:Nat),RelV (g a b) v→Q v {s with toks:=k})→a9 47 X.A (kZ 995 [.str a t,.str b u]) Q 68 s):qN X id (d24 (∃a b,x=056∧xs=[.str b]∧Q (g a b) H)):=by
 rw[C51];obtain⟨a,b,rfl,rfl,h⟩:=h;rw[A12]
 cases rs with|cons bU rs=>cases rs;obtain⟨u,rfl⟩:=bU;exact rule a b t u s _ (fun v k r=>⟨g a b,H,I.tok k,r,h⟩)
theorem aoc:qN X r24 (d24 (∃a b,x=056∧xs=[.str b]∧446 (DX a b))):=m02 (578 (.bN (DX a b))) (PySem.SC.startswith (h _ 233 rfl))
theorem aod:qN X "str.find" (d24 (∃a b,x=056∧xs=[.str b]∧662 (OD a b))):=m02 (578 (.int (OD a b))) (PySem.SC.find (h _ (233+1) 282))
theorem YO:qN X "str.count" (d24 (∃a b,x=056∧xs=[.str b]∧662 (YQ a b))):=m02 (578 (.int (YQ a b))) (PySem.SC.count (h _ (233+1) 282))
section
variable{o:dn}
def OE(r:ae→928)(to c7:ct):ct:=262 (to σ H (291 ((∃a,x=056)∧c7 σ H1 (891 (r x [y] aB Q)))))
theorem DY{id:String}{r:ae→928}(slot:Slot 090 234 id)(ty:typeOf 995=pure l82)(rule:qN X id r)(a8:c76)(he:530)(aL:406 [e]=[391]:=by rfl)(qO:tJ o 234 55 932=932:=by rfl)(qP:(n05)=01:=by rfl):bF X (.Call (481 234 apos) [e] [] pos) (OE r to c7):=by rw[A13];refine PySem.Call_method1 qO aL qP (875 (a8 07 s σ H _ I h));obtain⟨⟨a,rfl⟩,bg⟩:=bg;rw[B44 (_root_.id bU)];refine⟨090,_,F.plainAttrs_str,slot,ty,NH _ _ _,(m03),ama rfl (amb (Nu ?_))⟩;exact f64 (he 07 s1 σ H1 _ aX bg) (Nt (rule 07 s2 σ aB _ [y] _ [u] Q b5 bU (386 cT) cf))
theorem aoe(a8:c76)(he:530)(aL:406 [e]=[391]:=by rfl)(qO:tJ o "join" 55 932=932:=by rfl)(qP:(n05)=01:=by rfl):bF X (.Call (481 "join" apos) [e] [] pos) (OE (d24 (∃a p,∃ys:225,x=056∧xs=718∧(aJ X.K H p b72∨dX X.K H p b72)∧(m14).sum+675*733≤l29∧Q (.str (DW a ys)) H)) to c7):=DY F.slot_str_join F.type_str_join aoa a8 he aL qO qP
end
inductive YR(x:ae)(y:ae)(H:av)(Q:aW):04|mk:∀(c:Nat)(z:Str),x=a84→y=931→446 (! a43 c z.cps.toList)→YR x y H Q
theorem aof:j97 YR:=by rw[A45];obtain⟨c,z,rfl,rfl,q⟩:=h;rw[A12];rw[A19];exact PyProof.Rows.notIn_str (gJ I q (109 Bool.not (567 (PySem.StrLaws.found_one z c))))
theorem IsPart.raw{v:aH}{o:307}(p:IsPart v o):∃l:241 (Int×Tok),v=partValue l∧f90=o:=by cases p with|none=>rw[A44 00 rfl]|int i t=>rw[A44 (614 i) rfl]
def DZ(n d:Nat):307→Int|none=>15 d|some i=>max 0 (min (13 (i<0) (i+44) i) 44)
theorem YS(n d:Nat)(o:307):DZ n d o=52 (049 d o):=by
 cases o with
  |none=>rfl
  |some v=>
   show max 413 (min (13 (v<0) (v+44) v) 44)=52 (13 (v<0) (271 (v+44)) (min v.toNat n));by_cases a3:v<0
   ·simp only[21 a3];lia
   ·simp only[23 a3];lia
theorem aog(a b:307)(n:Nat):vT a b 1 n=AF (DZ n 0 a) (DZ n n b) 1:=by have af:(15 1>0)=625:=19;cases a<;>cases b<;>first|rfl|(simp only[vT,DZ,af,if_true];rfl)|simp[vT,DZ]
theorem aoh(a b:307)(n:Nat):vT a b 1 n=407 (049 n b-049 0 a) (450 (049 0 a+k)):=by
 rw[aog,YS,YS];generalize 049 0 a=p;generalize 049 n b=q;simp only[AF,88 ((15 1>0)=625) 19,if_true];by_cases cM:864<q
 ·have cp:271 ((15 q-p+1-1)/1)=q-p:=by first|lia|(simp;done)|(simp;lia)
  simp only[cM,if_true,cp];refine 215 ?_;lia
 ·have:q-p=0:=03;simp[cM,this]
def tP(z:Str)(lo hi:307):Str:=⟨810 (221 (r30 605) (027-605))⟩
theorem YT(z:Str)(lo hi:307):D0 z lo hi=tP z lo hi:=by
 have af:605≤431:=HT.Xv _ _ 229 _;have ak:027≤431:=HT.Xv _ _ 64 _;have au:605≤max 605 027:=Nat.le_max_left _ _;have aw:max 605 027≤431:=Nat.max_le.mpr ⟨af,ak⟩;have hd:max 605 027-605=027-605:=(Nat.le_total _ _).elim (100 (970 (Nat.max_eq_right e))) (100 (by rw[Nat.max_eq_left e,Nat.sub_self,Nat.sub_eq_zero_of_le e]));have e:vT lo hi 1 431=vT (921 (605:Nat)) (921 (max 605 027:Nat)) 1 431:=by rw[PySem.StrLaws.strSliceIndices_plain au aw,hd,aoh]
 have aG:D0 z lo hi=D0 z (921 (605:Nat)) (921 (max 605 027:Nat)):=by unfold D0;rw[e]
 rw[aG,PySem.StrLaws.sliceText_nat z au aw,hd];rfl
theorem aoi(z:Str)(lo hi:307):11 (tP z lo hi)≤431:=by show(810 (221 (r30 605) (027-605))).size≤z.cps.size;rw[gu,eS,fV,C_];exact cX (Af _ _) (Xz _ _)
inductive YU(x:ae)(lo:307)(hi:307)(H:av)(Q:aW):04|mk:∀z,x=931→431≤bc→Q (.str (tP z lo hi)) H→YU x lo hi H Q
theorem Iu:HO X YU:=by
 rw[D38];rw[C38];rw[A12];obtain⟨os,Iv,iD,Iw⟩:=aL;obtain⟨l,rfl,rfl⟩:=IsPart.raw pl;obtain⟨u,rfl,rfl⟩:=IsPart.raw pu;refine⟨090,_,F.slot_str_getitem.lookup,NH _ _ _,?_⟩;refine wpAny_getItem_str_slice (l:=l) (u:=u) (st:=00) ⟨os,Iv,iD,Iw⟩ rfl ?_;have ax:069 (D0 z f90 i87):=by rw[YT];exact cX (aoi z _ _) hz
 rw[←YT]at q;unfold D0 at q ax;show Made.post (39 (15 1==1&&11 (vT f90 i87 1 431)==431) (Made.val (.str z t)) (Made.str ⟨810 (h75 (vT f90 i87 1 431) (z.cps[·]?))⟩)) 497 s;by_cases c:(15 1==1&&11 (vT f90 i87 1 431)==431)=01
 ·rw[21 c]at q⊢;exact⟨931,H,I,612 t,q⟩
 ·rw[23 c]at q ax⊢;exact⟨ax,.str _,H,279,282,q⟩
namespace Att
open PySem PySem.W PySem.Calls PyProof.Rows
section
variable{s:aZ}{K:Frag}
end
end Att
abbrev aO:pJ:=n49 739
abbrev OF:bD:=a19
theorem bb:n5 aO X OF:=fun _ _ _ _ _ _ _ h=>h.elim
structure hC(K:bo)(x qual:Str)(st:bK)(f:ag)(fd:k6):04 where
 ex:∃(ig:aH)(cQ:639)(ec doc pm:aH)(an:639)(bx ek:aH)(k7:k09),fd=tK x 74 c37 033 844 87 ec doc pm an bx ek∧710 f (c52 ig cQ fd k7)∧Du K bx 74=01
 fC:066 K=01
theorem hC.ok{st:bK}{k:Nat}(F:hC K x 74 st f fd)(S:31 N ps st)(len:e08 (sp vs H Q E) f95)(Dv:q89 596 08 (f5 k (g22 74 844 f bx)→sp vs H Q E→∃t,mJ (x4 aO P w K ah 02 N 74 844 f bx A 91 s H E).Hj 033 t∧t j81 e62 H)):eP P w K ah 02 aO (k+1) f fd ps sp:=by rw[C16];refine Ny e5 ny S len (q88 ?_);obtain⟨t,h,q⟩:=Dv bx A 91 s H vs Q E aq pL;exact⟨t,h.Hj,q⟩
theorem hC.binds{st:bK}(F:hC K x 74 st f fd)(h:p63 639 53 (b79→bindArgs (tK x 74 c37 033 844 87 ec doc pm an bx ek) 916=pure 908)):lr K fd ps []:=by obtain⟨ig,cQ,ec,doc,pm,an,bx,ek,k7,rfl,e5,ny⟩:=F.ex;exact .all (h ec doc pm an bx ek)
theorem OG{st:bK}{ec pm:aH}(l:710 f (c52 ig cQ (tK x 74 c37 033 844 87 ec doc pm an bx ek) k7))(c:Du K bx 74=01)(k:066 K=01):hC K x 74 st f (tK x 74 c37 033 844 87 ec doc pm an bx ek):=⟨⟨ig,cQ,ec,doc,pm,an,bx,ek,k7,rfl,l,c⟩,k⟩
theorem D1{k:Nat}(aq:f5 k A):776 1<kb:=fL (Nat.add_le_add_left (14:1≤402) _) f05
theorem J(i:Nat)(fs:851=43:=by rfl)(a3:zU 628 x:=by first|exact aV rfl|exact en (aV rfl)|exact en (en rfl))(hd:(x==598)=09:=by decide)(ny:(x==(r29:Str))=09:=by decide):bF X c42 (iW i):=akc fs a3 hd ny
theorem b_{A:04}(h:B):39 09 A B:=p01 (23 hB)
theorem c8{A:04}(h:A):39 01 A B:=p01 101
theorem eb{c A:04}[Decidable c](af:c→A)(ak:¬c→B):13 c A B:=by
 by_cases h:c
 ·rw[114];exact af h
 ·rw[125];exact ak h
def aA(H H':av):04:=374 (H b) (244=25)
theorem aA.refl(H:av):aA H H:=a25
theorem aA.trans(a:c78)(b:aA H1 aB):aA H aB:=fun c o h=>b c o (a c o h)
theorem aA.free(e:49){l:ag}(h:H' l=Option.none):H l=Option.none:=by cases q:H l with|none=>rfl|some o=>rw[e l o q]at h;cases h
theorem aA.seq(e:49)(h:464):aJ K H' a xs:=by
 rw[C28]
 ·rw[A17 (.inl (e _ _ h))]
 ·rw[A17 (.inr ⟨o,e _ _ h⟩)]
 ·rw[A09 h]
section
variable[m61]
end
end
open TL(c5)
section
variable{A:rT}{G:Prop}{a b c d f me t:ag}{F:List (List Nat)}{K:bo}{loose ps:List Str}{P:f3}{R:Result→aZ→Prop}{XP:(Str→Option aH)→dk→Prop}{YP:ff→dk→Prop}{a0 us vals vs:List aH}{as:List ag}{aG e:dn}{aR:Array Il}{doc u:aH}{o:Obj}{ah:Str→Option aH}{c0 i n:Nat}{base h:dk}{l:List Nat}{cl:Str→Option ag}{cs ms ns r:List Int}{d':Drawn}{ds:List WData}{α:Type}{fd:k6}{x:Str}{q:Search}{s s':dt}{v:Word}{w:ff}{m:g0}{xs:List ae}{y:ae}{H H':av}{bC:dz}{CX:pJ}{sp:mM}
section
open PySem.W(WData Codec OpenSpec Well WellAll ReadsW ReadsAllW)
mutual inductive nF(K:bo)(H:av):ae→92 WData|b4:nF K H .b4 87|bN(b:Bool):nF K H a80 j87|int(i:Int):nF K H 260 260|str(x:Str):nF K H 765 765|lD(b:724 UInt8):nF K H (.lD b) (.bytes b.toList)|lst{a:ag}{xs:08}{ds:d87}:464→pS K H xs ds→nF K H 38 (.list ds)|tup{a:ag}{xs:08}{ds:d87}:956→pS K H xs ds→nF K H 38 (b52 ds)inductive pS(K:bo)(H:av):08→92 d87|nil:pS K H [] []|cons{v:ae}{vs:08}{d:WData}{ds:d87}:nF K H v d→pS K H vs ds→pS K H (v::vs) (d::ds)end
theorem OH{K:bo}{H:av}:∀ns:10,pS K H b74 d38|[]=>89|n::r=>.cons (.int n) (OH r)
theorem OI{K:bo}{H:av}:∀(ns:10)(xs:08),pS K H xs d38→xs=b74|[],xs,h=>by cases h;rfl|n::r,xs,h=>by cases h with|cons af ak=>cases af;rw[OI r _ ak]<;>rfl
section
variable{R:aoj}
theorem aok(bB:fy P w H h)(h7:055)(q:464):∃(a0:53)(o:Obj)(n:Nat),cc xs a0∧321=25∧781 901∧c07 (.seq 275 n):=by
 rcases q with q|⟨o,a0,n,e,ar,_,hd,_,a3⟩
 ·obtain⟨_,a0,n,a3,e⟩:=(88 (fx P w H h a (.lst xs)) (q.ok bB));exact⟨a0,_,n,a3,e,rfl,rfl⟩
 ·exact⟨i03,o,n,a3,h7 _ _ e,ar,by simp[hd]⟩
theorem aol{d:WData}(hd:d=k03)(bB:fy P w H h)(h7:055){v:ae}(x:nF K H v d)(r:466):∃as,ReadsW R cl h u d as:=by
 subst hd
 cases x with
  |lst aL aN=>
   cases r;obtain⟨a0,o,n,cV,a8,ar,hd⟩:=aok bB h7 aL;rw[OI ms _ aN]at cV;have key:∀(ms:10)(us:53),594 m37→∃as,ReadsAllW R cl h us p59 as:=by
    intro ms
    induction ms with
     |nil=>intro us r;cases r;rw[A08 ReadsAllW.nil]
     |cons m ms ih=>
      intro us r
      cases r with|cons bU cT=>rw[B86];obtain⟨bs,cf⟩:=ih _ cT;rw[A08 (ReadsAllW.cons (ReadsW.int m t) cf)]
   rw[C52 (key ms _ cV)];rw[A08 (ReadsW.list a8 ar hd aq)]
end
mutual def sr:482 WData|.none=>01|.bool _=>01|.int _=>01|.str _=>01|.bytes _=>01|.list xs=>ye xs|.tuple xs=>ye xs|_=>09 def ye:482 d87|[]=>01|x::r=>sr x&&ye r end
theorem YV{α:272}{f:α→WData}(h:∀a,sr (f a)=01):∀l:40,ye (363 f)=01|[]=>rfl|x::r=>p00 ((sr (f x)&&ye (r.map f))=01) (h x) (YV h r)
theorem vU:∀(c:Codec)(a:c.denote),j84 a=01|.unit,_=>rfl|.bool,_=>rfl|.int _ _,_=>rfl|.nat _ _,_=>rfl|.u8,_=>rfl|.bytes _ _,_=>rfl|.text _ _ _ _,_=>rfl|.list _ _ c,a=>YV (72 (vU c x)) a|.pair c d,a=>p00 ((j84 a.1&&(sr (d.enc a.2)&&01))=01) (vU c a.1) (vU d a.2)|.triple c d e,a=>by show(j84 a.1&&(sr (d.enc a.2.1)&&(sr (e.enc a.2.2)&&01)))=01;rw[vU c a.1,vU d a.2.1,vU e a.2.2]<;>rfl|.option c,none=>rfl|.option c,some x=>vU c x
theorem aom:∀(cs:List Codec)(a:k22 cs),ye (f51 cs a)=01|[],_=>rfl|c::cs,a=>p00 ((j84 a.1&&ye (f51 cs a.2))=01) (vU c a.1) (aom cs a.2)
def mv:aH→ae|.none=>.b4|.bool b=>a80|.int i _=>260|.str x _=>765|.bytes b _=>.lD b|.ref a=>38|_=>.b4
def vV(A:27):92 aH|.none=>625|.bool _=>625|.int _ _=>625|.str _ _=>625|.bytes _ _=>625|.ref a=>a∈A|_=>739
theorem aon{A:27}(x:vV A u):685 (mv u):=by cases u with|ref a=>rfl|none=>rfl|bool b=>rfl|int i t=>exact⟨t,rfl⟩|str s t=>exact⟨t,rfl⟩|bytes b t=>exact⟨t,rfl⟩|_=>exact gI x
theorem D2{A:27}:∀{vs:53},(b90 A u)→cc a31 vs|[],_=>89|u::r,h=>.cons (aon (127 u)) (D2 850)
def AG(h:dk)(A:27)(a:ag):04:=∃vs:53,a02≤bc∧(b90 A u)∧(321=some 008∨321=some c04)
theorem OJ{P:AH}{h:dk}:∀{vs:53}{ds:d87},023 P vs ds→a02=ds.length|_,_,.nil=>rfl|_,_,.cons _ b=>by show _+1=_+1;rw[OJ b]
theorem aoo{P:AH}{v:aH}(x:Well P h v (.list ds)):∃(a:ag)(vs:53),v=38∧321=some 008∧023 P vs ds:=by cases x with|list a8 dQ=>exact⟨_,_,rfl,a8,dQ⟩
theorem YW{P:AH}{d:WData}(x:023 P us (d::ds)):∃(v:aH)(vs:53),us=v::vs∧Well P h v d∧023 P vs ds:=by cases x with|cons a b=>exact⟨_,_,rfl,a,b⟩
theorem aop(h:n≤1048576):n≤bc:=478 h
section
variable{P:AH}
theorem YX(x:023 P vs d38):a31=b74∧∀(A:27),b90 A u:=by
 induction ns generalizing vs with
  |nil=>cases x;exact⟨rfl,fun A u m=>by cases m⟩
  |cons n ns ih=>
   obtain⟨v,vs,rfl,gr,gd⟩:=YW x;have q:=ih gd;cases gr;rw[A03 (by rw[eN,eN,q.1];rfl) (fun A u m=>?_)]
   cases m with|head=>trivial|tail _ m=>exact q.2 A u m
theorem YY(x:023 P vs [e04]):∃a us,vs=254∧321=some (990 (.seq l31))∧023 P us d38:=by obtain⟨v,vs,rfl,gr,gd⟩:=YW x;obtain⟨a,us,rfl,a8,dQ⟩:=aoo gr;cases gd;exact⟨a,us,rfl,a8,dQ⟩
theorem aoq(hd:ds=[e04])(x:023 P vs ds)(z:n28):∃A:27,(b90 A u)∧e01 h A a:=by
 subst hd;rw[D37 (YY x)];have es:WData.weightAll d38≤1048576:=z _ 237;refine⟨[a],fun u m=>?_,fun b m=>?_⟩
 ·rw[86 m];exact 237
 ·rw[86 m];exact⟨us,aop (364 (OJ dQ) (cX (PySem.W.length_le_weightAllW _) es)),(YX dQ).2 _,.inl a8⟩
end
def Iy(o:Obj):241 dz:=match o.data with|.seq vs _=>39 (o.cls==k07) (some (913 o (vs.toList.map mv))) (798 (.tup (vs.toList.map mv)))|_=>00
def md(K:bo)(h:dk)(A:27):av:=507 (13 (b∈A) (39 (545 (722 b)) (331 319 Iy) 00) 00)
def AI(H:av):04:=∀b,H b=00∨∃o u,H b=798 u
theorem YZ(vs:53):Iy 008=some (913 008 a31):=by show(39 (k07==k07) (j85 008 (.lst i33)) (j85 008 (.tup i33)))=_;rw[21 175]
theorem aor(vs:53):Iy c04=009 c04 (.tup a31):=by show(39 (vk 809==k07) (j85 c04 (.lst i33)) (j85 c04 (.tup i33)))=_;rw[107]
section
variable{A:27}
theorem OK(aa:b∈A)(aS:722 b=00)(e:319=25):md K h A b=Iy o:=by unfold md;rw[160,aS,21 (108 (00:831).isNone 01),e]<;>rfl
theorem aos{u:dz}(q:md K h A b=56):b∈A∧722 b=00:=by
 unfold md at q;by_cases aa:b∈A
 ·rw[160]at q
  cases aS:722 b with|none=>exact⟨aa,rfl⟩|some o=>rw[aS,142]at q;cases q
 ·rw[178]at q;cases q
theorem Iz(mO:e01 h A a){u:dz}(q:md K h A b=56):722 b=00∧∃vs:53,a02≤bc∧(b90 A u)∧((319=some 008∧u=913 008 a31)∨(319=some c04∧u=.eT c04 (.tup a31))):=by
 obtain⟨aa,aS⟩:=aos q;obtain⟨vs,af,ak,a6⟩:=mO b aa;refine⟨aS,vs,af,ak,?_⟩;rcases a6 with e|e
 ·rw[OK aa aS e,YZ]at q;rw[A23 e (129 q)]
 ·rw[OK aa aS e,aor]at q;rw[A09 ⟨e,129 q⟩]
theorem aot(mO:e01 h A a):AI (md K h A):=507 (by
 cases q:md K h A b with
  |none=>exact 253
  |some u=>
   obtain⟨_,vs,_,_,⟨_,e⟩|⟨_,e⟩⟩:=Iz mO q
   ·rw[A09 ⟨_,_,f20⟩]
   ·rw[A09 ⟨_,_,f20⟩])
theorem aou(mO:e01 h A a):fy P w (md K h A) h:=i01 (by
 obtain⟨_,vs,af,ak,⟨e,rfl⟩|⟨e,rfl⟩⟩:=Iz mO q
 ·exact⟨e,r28,vs,_,D2 ak,e⟩
 ·exact⟨e,r28,vs,D2 ak,_,e,rfl,_,rfl⟩)
theorem Y0{c jU:aH}(e:(some {cls:=c,data:=l61}:831)=some {cls:=jU,data:=.seq l31}):c=jU∧vs=us:=by have aK:=cI e;have aG:c=jU:=109 Obj.cls aK;have cp:OL l30=OL l31:=109 Obj.data aK;injection cp with ej;rw[A27 aG];have nv:=109 Wo ej;simpa using nv
theorem aov(h7:055)(mO:e01 h A a)(aN:a∈A)(e:321=some 008):(b90 A u)∧aJ K (md K h A) a a31:=by
 obtain⟨us,af,ak,a6⟩:=mO a aN;have bp:us=vs:=by
  rcases a6 with q|q
  ·rw[e]at q;exact(Y0 q).2.symm
  ·rw[e]at q;exact 69 (Value.type.inj (Y0 q).1) 14
 subst bp;rw[A27 ak]
 cases aS:899 with|none=>rw[A17 (.inr (404 (by rw[OK aN aS e,YZ])))]|some o=>have aG:=h7 a o aS;rw[e]at aG;obtain rfl:=cI aG;rw[A09 ⟨_,l31,_,aS,rfl,rfl,rfl,by rw[gu];exact af,080 (D2 ak)⟩]
theorem aow{jb:AH}(hd:ds=[e04])(h7:055)(mO:e01 h A a)(x:023 jb vs ds)(bp:b90 A u):pS K (md K h A) a31 ds:=by subst hd;rw[D37 (YY x)];have aL:=(aov h7 mO (bp _ 237) a8).2;rw[(YX dQ).1]at aL;exact 386 (.lst aL (OH ns))
end
theorem aox{cB:261}{k:Nat}{ep:aZ}{R:aoj}{d0:WData}(h7:K.In 626)(pT:ep.heap.Ns i6 ah)(aa:ep.heap.Ns V_ cB)(aoy:∀x:Str,g25 x→cB x=rS x)(aoz:ep.heap.NoLimit)(a4:ep.gens=#[])(yf:WellAll i02 626 vals ds)(Iw:ds=[e04])(IA:d0=k03)(aoA:n28)(aq:f5 k D3)(F:k23 (K.In 02→g47 i6→eP P w K ah 02 CX k me fd ps sp))(IB:f92 (b79→Ds s fd 916 908))(hlen:ds.length=744)(pL:∀(H:av)(xs:08),AI H→pS K H xs ds→sp xs H (h20 (nF K H' v d0)) a19)(D4:∀H e s',CX [] H ep a19 e s'→739):qI 289 D3 (.call (.ref me) (644 vals)) (fun r s'=>∃u as,r=.ok (.ret u)∧ReadsW R cl 543 u d0 as∧OldK 626 543∧s'.os=ep.os∧j67) ep:=by
 obtain⟨A,a8,mO⟩:=aoq Iw yf aoA;have su:AI (md K 626 A):=aot mO;have bB:fy P w (md K 626 A) 626:=aou mO;have aY:=aow Iw h7 mO yf a8;have aoB:=D2 a8;have cj:627 (md K 626 A b=56→722 b=00):=i01 (Iz mO q).1;have Ae:∀{b:ag}{o:Obj}{aR:724 Il}{c0:Nat},m60=25→a69→md K 626 A b=00:=fun{b o aR c0:_}e d=>by
  cases q:md K 626 A b with
   |none=>rfl
   |some u=>
    obtain⟨_,vs,_,_,⟨aG,_⟩|⟨aG,_⟩⟩:=Iz mO q
    ·rw[A67];cases e;have d':OL l30 _=Data.dict aR c0:=d;cases d'
    ·rw[A67];cases e;have d':OL l30 _=Data.dict aR c0:=d;cases d'
 generalize md K 626 A=H at su bB aY cj Ae;have Y1:∀{b:ag}{o:Obj},m60=25→H b=00→782 (tA 626 H)=25:=fun e n=>aj2 e n;have IC:∀{b:ag}{m:261},ep.heap.Ns b m→(tA 626 H).Ns b m:=fun{b m:_}⟨o,aR,c0,e,d,r⟩=>⟨o,aR,c0,Y1 e (Ae e d),d,r⟩;have aoC:300 (722 b=25) (H b=00):=351 (by cases q:H b with|none=>rfl|some u=>rw[cj b u q]at e;cases e);have Y2:K.In (tA 626 H):=351 (Y1 (h7 b o e) (aoC b o e));have jc:Mod K ah (tA 626 H):=⟨Y2,IC pT,⟨cB,IC aa,aoy⟩,let⟨jA,af,ak⟩:=aoz;⟨jA,IC af,ak⟩⟩;have dw:x2 P w K ah (tA 626 H) D3 [] ep H:=⟨rfl,jc,351 (aj3 e),Hz (aj1 _ _),trivial,350 (151 (show b∈([]:27)from aa)),bB,.of_eq a4⟩;have ax:vals.length=744:=by rw[OJ yf];exact hlen
 refine x3 ((F _ Y2 (IC pT)).run D3 [] ep H (644 vals) vals (vals.map mv) _ _ aq dw (IB ep vals ax) aoB (pL H _ su aY)) (fun r s' x=>?_)
 cases r with
  |error e=>exact(D4 H e s' x).elim
  |ok c9=>
   cases c9 with
    |next=>exact gI x
    |brk=>exact gI x
    |cont=>exact gI x
    |ret u=>
     obtain⟨v,H',os,bare,un,D5,dF,q⟩:=x;have kept:374 m60 (o65 b=25):=351 (by
      cases cf:H b with
       |none=>exact un.keep b o e cf (by intro z;exact 151 (l05 (b∈([]:27)))) 19
       |some jP=>
        rcases su b with z|⟨bC,AJ,z⟩
        ·rw[cf]at z;cases z
        ·have es:=un.nx b bC _ z;obtain⟨aK,_⟩:=bB b _ z;obtain⟨aG,_⟩:=D5 b _ es;rw[e]at aK;cases aK;exact aG);have aoD:K.In 543:=351 (kept b o (h7 b o e));obtain⟨as,jd⟩:=aol (R:=R) (cl:=cl) IA D5 aoD q dF;exact⟨u,as,rfl,jd,OldK.of_keep kept,os,bare⟩
theorem aoE(h:WData.layableAll ds=01):n28:=f28 (PySem.W.layableW_iff.mp (gB.mp h d hd)).2.2
theorem Y3:∀(cs:List Codec)(a:k22 cs),11 (f51 cs a)=383|[],_=>rfl|c::cs,a=>by show 11 (f51 cs a.2)+1=383+1;rw[Y3 cs a.2]
theorem aoF{r:OpenSpec}{k:Nat}{q:f3}{d:DefRec}{K:AH→bo}{CX:ff→pJ}{sp:ff→mM}(di:∀a:i48,∃ns:10,j40=[e04])(cH:∀y,∃ms:10,r.ret.enc y=k03)(OM:r.wellSaid=01)(Y4:m48 [])(hlen:r.args.length=744)(aq:f5 k D3)(ON:∀(w:ff)(h:dk),YP w h→e60 h)(F:r27 261 (YP w h→e60 h→h.Ns i6 ah→ah d.name=46 me→∃fd:k6,(f92 (b79→Ds s fd 916 908))∧k23 (e60 02→g47 i6→eP r.prog w a17 ah 02 (CX w) k me fd ps (sp w))))(pL:∀(w:ff)(H:av)(xs:08)(a:i48),AI H→m38 f50=01→i40 r.asked a=01→pS a17 H xs j40→sp w xs H (h20 (nF a17 H' v (m76 r.f a))) a19)(D4:∀(w:ff)(H:av)(s:aZ)(e:aH)(s':aZ),CX w [] H s a19 e s'→739):aoG q loose XP YP r d [] (fun f vs=>kZ f vs):=by intro w iU ep ah cB G Y me o pm cd doc Nz ec a8 hd ny cO OO a4 args vals as aoH aoI jd yf qZ;obtain⟨a,aK,aG⟩:=PySem.W.os_pre_some aoH;obtain⟨cp,ID⟩:=Codec.encAll_of_decAll f50 args a aK;subst cp;have h7:=ON w _ Y;obtain⟨ns,di⟩:=di a;obtain⟨ms,cH⟩:=cH (i40 r.f a);obtain⟨fd,aa,mP⟩:=F w ah me _ Y h7 G.T.g OO;refine PySem.W.enter_call (x3 (aox (R:=[]) (cl:=classAt iU.heap) (d0:=m76 r.f a) h7 G.T.g G.T.b G.T.builtins G.T.nolimit a4 yf di cH (aoE aoI) aq mP aa (by rw[Y3];exact hlen) (fun H xs su aY=>pL w H xs a su ID aG aY) (fun H e s'=>D4 w H ep e s')) (fun dF s' aw=>?_));obtain⟨u,as',rfl,af,ak,a6,bH⟩:=aw;exact⟨.inl ⟨u,_,as',rfl,525,af,(OpenSpec.post_iff OM ID _ _).mpr rfl,16 (Bool.noConfusion (l05 934))⟩,ak,a6,bH⟩
theorem aoJ{r:OpenSpec}{k:Nat}{q:f3}{d:DefRec}{K:AH→bo}{sp:bo→mM}(di:∀a:i48,∃ns:10,j40=[e04])(cH:∀y,∃ms:10,r.ret.enc y=k03)(OM:r.wellSaid=01)(Y4:m48 [])(hlen:r.args.length=744)(aq:f5 k D3)(ON:∀(w:ff)(h:dk),YP w h→e60 h)(F:r27 261 (YP w h→e60 h→h.Ns i6 ah→ah d.name=46 me→∃fd:k6,(f92 (b79→Ds s fd 916 908))∧k23 (e60 02→g47 i6→eP r.prog w a17 ah 02 CX k me fd ps (sp a17))))(pL:∀(K:bo)(H:av)(xs:08)(a:i48),AI H→m38 f50=01→i40 r.asked a=01→pS K H xs j40→sp K xs H (h20 (nF K H' v (m76 r.f a))) a19)(D4:∀(H:av)(s:aZ)(e:aH)(s':aZ),CX [] H s a19 e s'→739):aoG q loose XP YP r d [] (fun f vs=>kZ f vs):=aoF (K:=K) (CX:=290 CX) (sp:=452 (sp a17)) di cH OM Y4 568 aq ON F (fun w H xs a af ak a6 bH=>pL a17 H xs a af ak a6 bH) (fun _ H s e s'=>D4 H s e s')
end
end
section
variable{A:rT}{B:Prop}{C CM CS D I a b c d dx f p t:ag}{E Q:aH→aZ→Prop}{F:List (List Nat)}{K:bo}{M:Model}{N ps:List Str}{P:f3}{apos lK pos tc:Pos}{S:ag→Prop}{T:String}{a0 us vs:List aH}{as:List ag}{aG e eD:dn}{aR:Array Il}{acc:List (Str×ag)}{bx u:aH}{o:Obj}{ah:Str→Option aH}{pins:List (ag×Obj)}{b0 i j n:Nat}{base h h':dk}{ea g l ls:List Nat}{cl:Str→Option ag}{ns r:List Int}{α:Type}{elts:List dn}{fd:k6}{name x:Str}{outer:List Env}{own:List (Str×Nat)}{pl:Sem Bool}{q:Search}{s:dt}{sc:rp}{v:Word}{w:ff}{m:g0}{sy:cv}{xs ys:List ae}{y:ae}{H H' H1 aB:av}{qV:av→Prop}{X:dT}{bW c7 to:ct}{tt:j6}{CX:pJ}{sp:mM}
section
open PySem.W(Codec)
inductive Pr(P:f3)(w:ff)(K:bo)(ah:261)(base:dk)(CX:pJ)(k:Nat)(x:Str)(ps:225)(sp:mM):04|mk:d77 (ah x=46 f) (066 K=01→lr K fd ps []→eP P w K ah 02 CX k f fd ps sp→Pr P w K ah 02 CX k x ps sp)
theorem Pr.mono{P:f3}{w:ff}{K:bo}{ah:261}{base:dk}{CX:pJ}{j k:Nat}{x:Str}{ps:225}{sp:mM}(h:Pr P w K ah 02 CX j x ps sp)(aS:j≤k):Pr P w K ah 02 CX k x ps sp:=h48 ⟨f,fd,a,b,c,d.mono aS⟩
inductive jb(P:f3)(w:ff)(K:bo)(ah:261)(base:dk)(CX:pJ)(k:Nat)(C:ag)(m:Str)(ps:225)(sp:mM):04|mk:d77 (Ca K C m f) (lr K fd ps []→eP P w K ah 02 CX k f fd ps sp→jb P w K ah 02 CX k C m ps sp)
inductive mf(P:f3)(w:ff)(K:bo)(ah:261)(base:dk)(CX:pJ)(k:Nat)(C:ag)(x:Str)(ps:225)(sp:mM):04|mk:d77 (ah x=46 C) (HJ K C f→lr K fd ps []→eP P w K ah 02 CX k f fd ps sp→mf P w K ah 02 CX k C x ps sp)
section
variable{k:Nat}{E:bD}{m:Str}{p:Pos}{o:dn}{aR:439}{t:fG}
theorem bj(h:Pr 61 X.w X.K 508 341 CX k x ps sp)(aq:656 k)(ai:n5 CX X E)(aN:hZ X (e::aR) t)(a4:797:=by rfl)(lH:(x==598)=09:=by decide)(he:657=391::459:=by rfl)(eH:a70:=by rfl):a56 x (e::aR) (Xl sp [] E t):=h48 (alC d aq a4 a b c 89 ai aN lH he eH)
theorem pm(h:jb 61 X.w X.K 508 341 CX k C m ps sp)(c:946 C)(aq:656 k)(ai:n5 CX X E)(a8:757 o)(aN:hZ X (e::aR) t)(gq:657=391::459:=by rfl)(eH:a70:=by rfl)(bk:405 (.Call (481 m apos) (e::aR) [] pos)=(do
 let dA←cE o X.env
 xP apos.atName
 let(f,first)←nz [dA] (Ab dA m pl)
 Ad pos f first (hA pos (dc (e::aR) X.env)) (xZ pos (x1 [] X.env))):=by rfl):bF X (.Call (481 m apos) (e::aR) [] pos) (HF C m sp [] E bW t):=r26 (alD (pl:=pl) a8 c a d aq b 89 ai aN gq eH bk)
theorem gv(h:jb 61 X.w X.K 508 341 CX k C m ps sp)(c:946 C)(aq:656 k)(ai:n5 CX X E)(a8:757 o)(bk:405 (.Call (481 m apos) [] [] pos)=(do
 let dA←cE o X.env
 xP apos.atName
 let(f,first)←nz [dA] (Ab dA m pl)
 Ad pos f first (hA pos (dc [] X.env)) (xZ pos (x1 [] X.env))):=by rfl):bF X (.Call (481 m apos) [] [] pos) (HF C m sp [] E bW qK):=r26 (alE (pl:=pl) a8 c a d aq b 89 ai bk)
theorem pU(h:mf 61 X.w X.K 508 341 CX k C x ps sp)(aq:656 (k+1))(ai:n5 CX X E)(aN:hZ X (e::aR) t)(a4:797:=by rfl)(lH:(x==598)=09:=by decide)(he:657=391::459:=by rfl)(eH:a70:=by rfl):a56 x (e::aR) (HG C sp [] E t):=h48 (alG b d aq a4 a c 89 ai aN lH he eH)
theorem Y5(h:mf 61 X.w X.K 508 341 CX k C x ps sp)(aq:656 (k+1))(ai:n5 CX X E)(a4:797:=by rfl)(lH:(x==598)=09:=by decide):a56 x [] (HG C sp [] E qK):=h48 (alH b d aq a4 a c 89 ai lH)
inductive d7(ah:261)(x:Str)(v:ae):04|mk:∀u,ah x=56→466→d7 ah x v
theorem dq{v:ae}(h:d7 508 x v)(a4:797:=by rfl)(hd:(x==598)=09:=by decide):bF X c42 (qC v):=by obtain⟨u,a,r⟩:=h;exact akg a4 a r hd
end
structure cq(K:bo)(ah:261)(x:Str)(st:bK)(ps:225)(f:ag)(fd:k6):04 where
 F:hC K x x st f fd
 b:lr K fd ps []
 m:ah x=46 f
theorem cq.pr{k:Nat}{st:bK}(D:cq K ah x st ps f fd)(h:eP P w K ah 02 CX k f fd ps sp):Pr P w K ah 02 CX k x ps sp:=⟨f,fd,D.m,D.F.fC,D.b,h⟩
theorem Y6{g:iv}{vs:06}{σ:bq}(Pv:599)(h0:Pv 0 696)(aL:∀i c H,(c5 x)[i]?=73→617→g a84 297 H (fun c6 aB=>709=297∧tt c6 aB (fun b a5=>39 b (c7 c6 a5 (fun y bP=>∃acc,bP D=701∧707∧e77 (i+1) [y])) (Pv (i+1) a5))))(hd:∀H,Pv 607 H→qV H):∃W:240 599,(∃m,W 0 m 696)∧∀i m H,W i m H→(800 (vQ x)∧qV H)∨((vQ x).go i H∧∃hh:856,(c58 (eg<m∧W (i+1) eg H'))∧∀y H',(vQ x).mL i H y H'→g y 297 H' (fun c6 aB=>709=297∧c88 b (bP D=701∧707∧c29 [y]))):=by
 have aU:570=607:=by simp[c5]
 rw[B12 (m=607-i∧i≤607∧617) ⟨607,19,229,h0⟩];rw[B20];by_cases cM:i<607
 ·refine .inr ⟨a44 i 570,361,fun H' q=>⟨607-(i+1),03,rfl,03,q⟩,?_⟩;rw[D19];exact aL i c _ q68 p
 ·rw[A50 (i=607)];subst e;rw[A23 (636 570 _) (hd H p)]
section
variable{o a:dn}{aR:439}{t:fG}{f:Str}{id:String}{r:ae→928}
theorem bt(K:bo)(cj:X.K=K)(he:757 e)(aa:tJ e f 55 689=689):bF X (b92 f pos) (xY K bW f):=740 (vF he aa)
def Y7(K:bo)(bW:ct):j6:=262 (bW σ H (h95 (∃k,Nf K x H' k∧Q k H')))
theorem hl(K:bo)(cj:X.K=K)(aN:658)(he:∀whole,j66 a 511=(do
 let v←whole
 xP a.pos
 nz [v] (truthy v))):mI X a (Y7 K bW):=740 (Ng aN he)
theorem hD(K:bo)(cj:X.K=K)(lJ:PlainAttrs T)(slot:Slot T 234 id)(vJ:typeOf 995=pure l82)(hm:qN X id r)(a8:c76)(aN:hZ X (e::aR) t)(qO:tJ o 234 55 932=932:=by rfl)(HU:((hA lK 657).all (72 (! x.1))&&(xZ lK (x1 [] 55)).all (72 x.1.isSome)&&29 (11 (e::aR)+074 [] (List HK)+(13 ([]:List HK).isEmpty 0 1)<0x1e))=01:=by rfl)(qP:(i55 lK.line)=01:=by rfl)(aL:657=391::459:=by rfl)(NO:(hA lK 459).any 379=09:=by rfl):bF X (.Call (481 234 apos) (e::aR) [] lK) (NN K T r to t):=740 (al9 lJ slot vJ hm a8 aN qO HU qP aL NO)
theorem g9(K:bo)(cj:X.K=K):Ag X (HP K):=by subst cj;exact alU
theorem oJ(K:bo)(cj:X.K=K):Ag X (NG K):=by subst cj;exact alW
theorem D6(K:bo)(cj:X.K=K):j97 (NL K 01):=by subst cj;exact al4
theorem aoK(K:bo)(cj:X.K=K):qN X "list.index" (NX K):=by subst cj;exact aml
theorem hO(K:bo)(cj:X.K=K):g77 (HS K):=by subst cj;exact al6
theorem OP(K:bo)(cj:X.K=K)(a8:c76)(he:530)(aL:406 [e]=[391]:=by rfl)(qO:tJ o "join" 55 932=932:=by rfl)(qP:(n05)=01:=by rfl):bF X (.Call (481 "join" apos) [e] [] pos) (OE (d24 (∃a p,∃ys:225,x=056∧xs=718∧(aJ K H p b72∨dX K H p b72)∧(m14).sum+675*733≤l29∧Q (.str (DW a ys)) H)) to c7):=740 (aoe a8 he aL qO qP)
theorem eW(K:bo)(cj:X.K=K){l:dn}{c5:ct}(ax:bF X l c5):lG X eD l (Hr K c5):=740 (akQ ax)
theorem IE(K:bo)(cj:X.K=K){l:dn}{c5:ct}(ax:bF X l c5):lG X eD l (WB K c5):=740 (akR ax)
theorem IF(K:bo)(cj:X.K=K){bW:fG}{p:Pos}(a4:h1 X 893)(hm:X.ah 893=00)(aN:hZ X [e] bW)(aL:406 [e]=[391]:=by rfl):lG X (d94 b0 tc) (.Call (.Name 893 p) [e] [] pos) (YJ K bW):=740 (an2 a4 hm aN aL)
theorem Y8(K:bo)(cj:X.K=K){bW:fG}{p:Pos}(a4:h1 X 380)(hm:X.ah 380=00)(aN:hZ X [e,aG] bW)(aL:406 [e,aG]=391::e70:=by rfl)(eH:f94 e70:=by rfl):lG X (d94 b0 tc) (e18 [e,aG]) (YM K bW):=740 (an8 a4 hm aN aL eH)
theorem aoL(K:bo)(cj:X.K=K)(ar:394):iy X (399 "sum") (NU K):=740 (ami ar)
theorem aoM(K:bo)(cj:X.K=K)(ar:394):iy X (399 "all") (N0 K):=740 (amx ar)
theorem vW(K:bo)(cj:X.K=K):HO X (NJ K):=by subst cj;exact al1
theorem tQ(K:bo)(cj:X.K=K){aR:439}{k:Nat}{t:xN}(ar:394)(h:De X aR t)(aU:11 g69=n:=by rfl)(gq:(g69).findIdx? 379=00:=by rfl):rY X (.Tuple aR k pos) (MW K n t):=740 (akC ar h aU gq)
end
end
structure ki(ah:261):04 where
 len:ah "len"=00
 range:ah 510=00
 ord:ah "ord"=00
abbrev aP(l:06):Str:=⟨l.toArray⟩
theorem IG(l:06):c5 c87=l:=rfl
theorem dB(l:06):g24 c87:=r25
theorem q0(a b:06):aP a++aP b=aP (a++b):=TL.AD (by rw[TL.OA])
def aT(l:10):08:=363 b31
def a_(l:06):08:=363 j80
theorem dZ{α:272}:∀{l:40}{i:Nat}{x:α},115=43→l.take (i+1)=648++[x]|[],i,x,h=>501|a::l,0,x,h=>by have e:a=x:=cI h;subst e;rfl|a::l,i+1,x,h=>by have ih:=dZ (l:=l) (i:=i) (x:=x) h;show a::l.take (i+1)=a::648++[x];rw[ih];rfl
theorem eI{l:40}{x:α}(h:115=43):i<63:=159 h
theorem jB(h:n≤12):n≤bc:=478 h
theorem gY(h:n≤1000):n≤bc:=478 h
def iE(m:g0):324:=cC h84 (.bN m.e) (cC h85 (.bN m.b) (cC f35 (76 m.r) (cC d16 (76 m.l) [])))
structure nG(K:bo)(C:ag):04 where
 cl:h4 K C
 left:245 d16
 right:245 f35
 D7:245 h85
 D8:245 h84
inductive oK(C:ag)(H:av)(a:ag)(m:g0):04|mk:∀dx,H a=483 C 024→oK C H a m
theorem lO:c61 d16=653 m.l:=157
theorem yg:c61 f35=653 m.r:=157
theorem IH:c61 h85=c53 m.b:=157
theorem II:c61 h84=c53 m.e:=157
inductive OQ(x:ae)(xs:08)(H:av)(Q:aW):04|mk:∀(a b:Str)(i:Int),x=056→xs=[.str b,260]→446 (OR a b i)→OQ x xs H Q
theorem aoN:qN X r24 OQ:=by
 rw[C51];obtain⟨a,b,i,rfl,rfl,h⟩:=h;rw[A12]
 cases rs with|cons bU rs=>cases rs with|cons cT rs=>cases rs;obtain⟨u,rfl⟩:=bU;obtain⟨jP,rfl⟩:=cT;exact PySem.SC.startswith3 (128 _ H I h)
theorem aoO{w:06}{p:Nat}(h:p+63≤218):OR (aP w) c87 864=(j24==l):=by
 have e:fromIndex (11 (aP w)) 864=p:=by unfold fromIndex;rw[124];lia
 unfold OR;rw[e,Y9,dB,dB,188];rfl
abbrev Y_:bK:=bA 0x28
theorem Za:31 484 484 Y_:=⟨rfl,rfl,rfl,05,rfl,05,05⟩
inductive IJ(C:ag)(vs:08)(H:av)(Q:aW)(E:bD):04|mk:m19 (vs=349 460→oK C H a m→708→051→a87→662 c26→IJ C vs H Q E)
theorem aoP(D:cq K ah l25 Y_ 484 f fd)(O:443)(M:nG K C):Pr P w K ah 02 aO 1 l25 484 (IJ C):=by
 rw[A02 Za]
 ·rw[C50];rfl
 ·obtain⟨a,x,m,rfl,⟨dx,aN⟩,ai,ax,c1,k⟩:=h;have S:=Za;rw[A01 (65 (eu qH (eu r6 (d6 jY 66 O.len eJ 296) (064 (vF 252 rfl))) (064 (vF 252 rfl))))];refine⟨_,rfl,_,rfl,a12 ai,_,rfl,a,C,dx,_,_,rfl,aN,20,f47,lO,_,rfl,a12 ax,_,_,rfl,rfl,_,rfl,a,C,dx,_,_,rfl,aN,20,l17,yg,_,rfl,a12 c1,_,_,rfl,rfl,?_⟩;rw[dB,dB,dB];exact k
abbrev Zb:bK:=bA 0x29
theorem Zc:31 933 933 Zb:=⟨rfl,rfl,rfl,05,rfl,05,05⟩
inductive vX(C:ag)(vs:08)(H:av)(Q:aW)(E:bD):04|mk:∀(a:ag)(x:06)(m:g0)(p:Nat),vs=[38,48 p,460]→oK C H a m→e03→051→a87→e06 p→a86 720 H→vX C vs H Q E
theorem aoQ{x:06}{p:Nat}(h:p≤96):tP 714 00 e63=aP (814 p):=by refine TL.AD ?_;unfold tP;rw[HT.HL,HT.r_,dB];simp[TL.c5,sv h]
theorem OS{x:06}{p:Nat}(h:p≤96):tP 714 e63 00=aP (884 p):=by refine TL.AD ?_;unfold tP;rw[HT.HL,HT.r_,dB];simp[TL.c5,sv h];exact si f19
theorem aoR(D:cq K ah b39 Zb 933 f fd)(O:443)(M:nG K C):Pr P w K ah 02 aO 1 b39 933 (vX C):=by
 rw[A02 Zc]
 ·obtain⟨a,x,m,p,rfl,_⟩:=h;rfl
 ·obtain⟨a,x,m,p,rfl,⟨dx,aN⟩,ai,ax,c1,au,k⟩:=h;have S:=Zc;rw[A01 (65 (eu Nh (eu Nh (pM Iu 45 vH (ma 62)) (vF 252 rfl)) (pM Iu 45 (ma (eu qH 62 (064 (vF 252 rfl)))) vH)))];have fA:=aoQ (x:=x) (p:=p) 03;have kd:=OS (x:=x) (p:=p+580) 03;rw[show 52 (p+580)=864+320 (aP m.l)by rw[dB];lia]at kd;refine⟨_,rfl,_,rfl,_,rfl,_,rfl,h96 (gY e74),_,rfl,a,C,dx,_,_,rfl,aN,20,l17,yg,_,_,rfl,rfl,?_,_,rfl,_,rfl,_,rfl,a,C,dx,_,_,rfl,aN,20,f47,lO,_,rfl,a12 ax,_,_,rfl,rfl,_,rfl,_,rfl,h96 (gY e74),_,_,rfl,rfl,?_,?_⟩
  ·rw[fA,dB,dB,eS];rw[A56]
  ·rw[fA,kd,q0,dB,dB,cn,eS,fV];rw[A56]
  ·rw[fA,kd,q0,q0];have e:720=814 p++m.r++884 (p+580):=by unfold fJ;rw[rH,jo]
   rw[←e];exact k
theorem eo{b:Bool}{A:04}(af:b=01→A)(ak:b=09→B):39 b A B:=by cases b with|true=>exact af rfl|false=>exact ak rfl
theorem LA{α:272}{q:936}:922 (645 (q x=09)→f44 q=[])|[],_=>rfl|a::l,h=>by rw[iO,23 (c99 (h a 999))];exact LA (276 (h x (005 ai)))
theorem aoS{q:a71}{lo N:Nat}(h:lo+n≤N):d91 n q=909 N (400 (555 lo p&&29 (p<lo+n)&&q p)):=by
 obtain⟨r,rfl⟩:∃r,N=lo+n+r:=b71 (N-(lo+n));rw[aoT,aoT,s6,s6];rw[LA (l:=bz lo),LA (l:=407 r _),HW,nh]
 ·refine Cp 333;rw[A46 ai];have:=g4.mp aC;rw[102 (show lo≤lo+y by lia),102 (show lo+y<lo+n by lia)];rfl
 ·rw[A74];rw[A46 ai];rw[113 (show¬lo+n+y<lo+n by lia)];simp
 ·rw[A74];have:=g4.mp ai;rw[113 (show¬lo≤x by lia)];rfl
def AK(m:g0)(last:Nat):Nat:=13 m.e 544 0
def D9(m:g0)(last:Nat):Nat:=13 m.b 0 544
def m_(m:g0)(x:06)(p:Nat):Bool:=550 p 580==m.l
theorem OT{x:06}{p:Nat}(h:m_ m x p=01)(au:p≤96):e06 p:=by have e:=137 (a01 h);rw[eS,fV]at e;lia
theorem aoU{x:06}{last:Nat}(ax:544+580=96):582 (407 (D9 m 544+1-AK m 544) (AK m last+·)) (m_ m x)=375:=by
 have dh:D9 m 544≤544:=by unfold D9;split<;>lia
 have qZ:AK m 544≤544:=by unfold AK;split<;>lia
 rw[aoS (N:=e79) 03];unfold eR;refine Cp 263;have IK:=154;have key:uU m x p=(m_ m x p&&(! m.b||p==0)&&(! m.e||11 (884 p)==580)):=rfl;rw[key];by_cases hf:m_ m x p=01
 ·have af:=OT hf 03;have e:(96-p==580)=(p==544):=by rw[hu,beq_iff_eq,beq_iff_eq];lia
  have pl:p≤544:=03;rw[hf,fV,e];clear e af IK dh qZ ax key;unfold AK D9;rw[hu];cases m.b<;>cases m.e<;>simp<;>lia
 ·have aoV:m_ m x p=09:=r23;rw[aoV];simp
theorem aoW{x:06}(h:96<580):375=[]:=by
 refine LA 263;have IK:=154;have:m_ m x p=09:=by cases hf:m_ m x p with|false=>rfl|true=>have:=OT hf 03;lia
 show(m_ m x p&&_&&_)=09;rw[A16];rfl
theorem Zd{q:a71}{lo:Nat}:d91 (i+1) q=d91 i q++(39 (q (lo+i)) [lo+i] []):=by rw[ru,d5,s6];congr 1;show(Ux q [lo+i])=_;rw[iO];split<;>rfl
theorem aoX{q:a71}{lo:Nat}:11 (d91 i q)≤i:=by refine 164 _ _;simp
theorem IL{x:06}{Q:aW}(M:nG K C)(aN:H a=483 C 024)(ai:e03){lo hi:Nat}(Ze Zf Zg:ae)(aoY:Ze=48 lo)(aoZ:Zf=48 hi)(OU:e06 hi)(qZ:lo≤979)(k:∀p,H p=00→664 (322 H p (d91 (hi+1-lo) (m_ m x)))):vM (WG (r9 (iW 3) (r9 (r3 (r4 (h94 (426 (i+j)))) (iW 4) (qC (426 1))) qK))) (tE 5) (Y7 K (NN K 090 OQ (iW 1) (r9 (xY K (iW 0) (iA d16)) (r9 (iW 5) qK)))) (iW 5) [5] [248,494,some Zg,some Ze,some Zf,00] H Q:=by
 subst aoY aoZ;refine⟨_,rfl,_,rfl,_,_,rfl,rfl,15 lo,15 hi+1,rfl,⟨03,03,03,03⟩,436⟩;have aU:271 (15 hi+1-lo)=hi+1-lo:=03;have yh:a≠D:=bT aN cO;refine Oh (lo:=15 lo) (n:=271 (15 hi+1-lo)) (σ:=[248,494,some Zg,71 lo,71 hi,00]) (885 (H'=322 H D (d91 i (m_ m x)))) rfl ?_ ?_
 ·rintro i H' qr rfl;refine⟨rfl,_,rfl,rfl,_,rfl,a,C,dx,_,_,rfl,41 yh aN,20,f47,lO,_,rfl,_,_,_,rfl,rfl,_,rfl,?_⟩;have aR:OR 714 (aP m.l) (15 lo+(i:Nat))=m_ m x (lo+i):=364 (show 15 lo+(i:Nat)=52 (lo+i)by lia) (aoO 03);rw[aR];refine eo 356 356
  ·refine⟨_,rfl,_,aI,?_,?_⟩
   ·rw[a_,ba];exact fL aoX (fL (show i≤1000 by lia) 14)
   ·rw[gp,Zd,114,a_,a_,d5];rfl
  ·rw[Zd,208,nh]
 ·rw[B05];rw[aU];exact k D cO
abbrev OV:bK:=bA 0x27
theorem Zh:31 [313,235,h42,"lowest","highest",226] 484 OV:=⟨rfl,rfl,rfl,05,rfl,05,05⟩
inductive D_(C:ag)(vs:08)(H:av)(Q:aW)(E:bD):04|mk:m19 (vs=349 460→oK C H a m→e03→051→(∀p,H p=00→664 (322 H p 375))→D_ C vs H Q E)
theorem ao0(D:cq K ah h66 OV 484 f fd)(O:443)(M:nG K C):Pr P w K ah 02 aO 1 h66 484 (D_ C):=by
 rw[A02 Zh]
 ·rw[C50];rfl
 ·obtain⟨a,x,m,rfl,⟨dx,aN⟩,ai,ax,k⟩:=h;have S:=Zh;rw[A01 (90 2 (eu r6 (d6 jY 66 O.len eJ 296) (064 (vF 252 rfl))) (318 (bM ka (J 2) bu (bO _)) ay) (389 3 (pE (Ng (vF 252 rfl) 525) 45 bu) (94 4 (pE (Ng (vF 252 rfl) 525) bu 45)) (k9 rfl 242 (M1 rfl 971 (e36 3 (eu qH 327 bu))) (own:=[(226,5)]) (295 [313,235,h42,"lowest","highest",226] OV) h09 (e46 (348 (hD K rfl PySem.F.plainAttrs_str PySem.F.slot_str_startswith PySem.F.type_str_startswith aoN 62 (c35 59 5)))) (286 463))))];refine⟨_,rfl,_,rfl,h96 (gY e74),_,rfl,a,C,dx,_,_,rfl,aN,20,f47,lO,_,rfl,a12 ax,_,_,rfl,rfl,?_⟩;rw[dB,dB];refine⟨_,rfl,_,_,rfl,rfl,_,rfl,359⟩
  ·have h':=104;rw[A33 263];have:=k p au;rw[A73 (aoW 03)];rw[A10]
  ·have h':¬(m04<0):=952;obtain⟨last,tl⟩:∃last:Nat,m04=15 544:=b71 (96-580);have tj:544+580=96:=03;rw[←aoU tj]at k;refine⟨_,rfl,a,C,dx,_,_,rfl,aN,20,M.D8,II,_,rfl,eo (fun he=>951) n43⟩;all_goals refine⟨_,rfl,a,C,dx,_,_,rfl,aN,20,M.D7,IH,_,rfl,eo 486 (fun aa=>951)⟩
   all_goals rw[AK,D9,he,aa]at k
   ·exact IL (lo:=544) (hi:=0) M aN ai _ _ _ (f89 tl) rfl 03 03 k
   ·exact IL (lo:=544) (hi:=544) M aN ai _ _ _ (f89 tl) (f89 tl) 03 03 k
   ·exact IL (lo:=0) (hi:=0) M aN ai _ _ _ rfl rfl 03 03 k
   ·exact IL (lo:=0) (hi:=544) M aN ai _ _ _ rfl (f89 tl) 03 03 k
def tS:912→ae|none=>.b4|some w=>76 w
def nH(s:cv)(l:ag):324:=cC b51 (tS 083) (cC 984 (tS s.start) (238 506 l (cC 304 (76 60) [])))
structure gw(K:bo)(C:ag):04 where
 cl:h4 K C
 letters:245 304
 moves:245 506
 start:245 984
 goal:245 b51
theorem mg{s:cv}{l:ag}:273 (nH s l) 304=653 60:=h55
theorem kE{s:cv}{l:ag}:273 (nH s l) 506=46 l:=h55
theorem tT{s:cv}{l:ag}:273 (nH s l) 984=some (tS s.start):=h55
theorem tU{s:cv}{l:ag}:273 (nH s l) b51=some (tS 083):=h55
structure h8(CM CS:ag)(H:av)(a dx l:ag)(as:27)(s:cv):04 where
 at_:H a=483 CS (nH s l)
 lst:H l=247 317
 len:471=303
 cw:p95 (325=360→754=794→oK CM H b m)
inductive dK(CM:ag)(CS:ag)(H:av)(a:ag)(s:cv):04|mk:∀dx l as,h8 CM CS H a dx l as s→dK CM CS H a s
theorem dK.same{s:cv}(h:dK CM CS H a s)(e:49):dK CM CS H' a s:=by obtain⟨dx,l,as,h⟩:=h;refine⟨dx,l,as,e _ _ 674,e _ _ 572,h.len,k89 ?_⟩;obtain⟨d,q⟩:=h.cw i b m af ak;exact⟨d,e _ _ q⟩
theorem aA.upd{o:dz}(h:H p=00):aA H (Internal.upd H p o):=d08 (by rw[117 h];exact e)
theorem oL{l:10}(h:(aT l)[i]?=270):∃z,115=415∧y=489:=by
 rw[aT,cK]at h
 cases e:115 with|none=>rw[A49];cases h|some z=>rw[A49];rw[A76 z h]
theorem vY(h:k53 i=270):∃z:Nat,115=415∧y=48 z:=by
 rw[a_,cK]at h
 cases e:115 with|none=>rw[A49];cases h|some z=>rw[A49];rw[A76 z h]
theorem Ea(l:06):(a_ l).all oF=01:=by rw[a_,GG];exact gB.mpr 630
theorem IM(z:Int)(l:06):Ai 489 (a_ l)=l.any (807 (29 (44=z))):=by unfold Ai a_;rw[u4];rfl
theorem OW:∀ps:30,TL.AE [] ps=ps.flatten|[]=>rfl|[p]=>by simp[TL.AE]|p::q::r=>by show p++([]++TL.AE [] (q::r))=_;rw[OW (q::r)];rfl
theorem Zi(l:06):DW a73 (363 (575 (aP [c])))=c87:=by
 refine TL.AD ?_;rw[TL.join_eq];refine 35 (TL.OB _ _) ?_;rw[gP,show c5 a73=[]by rfl,OW];show _=l
 induction l with|nil=>rfl|cons a r ih=>rw[eN,qs,ih];rfl
theorem ao1{z:Int}(h:l.any (807 (29 (44=z)))=01):∃j:Nat,l[j]?=some 231∧52 231=z∧∀(m n:Nat),m<j→l[m]?=some n→¬44=z:=by
 induction l with
  |nil=>simp at h
  |cons a r ih=>
   rw[A06 b11 z]
   ·refine⟨0,?_,03,fun m n hm _=>69 hm 03⟩;show 533=some 231;congr 1;lia
   ·rw[pe,132,Cu]at h;obtain⟨j,af,ak,a6⟩:=ih h;refine⟨j+1,af,ak,fun m n hm aU=>?_⟩
    cases m with|zero=>have:a=n:=cI aU;rw[A48];exact e|succ m=>exact a6 m n 03 aU
abbrev OX:bK:=bA 0x25
theorem Zj:31 [576,818] 841 OX:=⟨rfl,rfl,rfl,05,rfl,05,05⟩
inductive AL(vs:08)(H:av)(Q:aW)(E:bD):04|mk:∀(x:06),vs=[460]→96≤bc→(∀p,H p=00→664 (322 H p x))→AL vs H Q E
theorem ao2(D:cq K ah f48 OX 841 f fd)(O:443):Pr P w K ah 02 aO 1 f48 841 AL:=by
 rw[A02 Zj]
 ·rw[C49];rfl
 ·rw[D33];have S:=Zj;rw[A01 (65 (k9 rfl 242 (Ik 252) (own:=[(818,1)]) (295 [576,818] OX) (925 1) 369 (286 (d6 ale 66 O.ord boot_ord 296))))];refine⟨_,rfl,_,rfl,436⟩;refine Y6 (885 (H'=322 H D d98)) rfl ?_ ?_
  ·rintro i c H' ar rfl;have ar:x[i]?=73:=ar;refine⟨rfl,_,rfl,_,rfl,rfl,_,aI,?_,?_⟩
   ·have:=eI ar;rw[a_,ba,eS];lia
   ·rw[gp,dZ ar,a_,a_,d5];rfl
  ·rw[B05];rw[IG,eK];exact k D cO
abbrev Zk:bK:=bA 0x2a
theorem Zl:31 484 484 Zk:=⟨rfl,rfl,rfl,05,rfl,05,05⟩
inductive IP(C:ag)(vs:08)(H:av)(Q:aW)(E:bD):04|mk:m19 (vs=349 460→oK C H a m→708→051→a87→(∀p,H p=00→664 (322 H p (gy m x)))→IP C vs H Q E)
theorem ao3(D:cq K ah l19 Zk 484 f fd)(O:443)(yi:220 i25 12)(AM:Pr P w K ah 02 aO 1 l25 484 (IJ C))(tV:Pr P w K ah 02 aO 1 h66 484 (D_ C)):Pr P w K ah 02 aO 2 l19 484 (IP C):=by
 rw[A02 Zl]
 ·rw[C50];rfl
 ·obtain⟨a,x,m,rfl,aN,ai,ax,c1,k⟩:=h;have S:=Zl;rw[A01 (239 (318 (bM oA (bj AM 22 bb (77 0 1 ay)) (dq yi) (bO _)) ay) (bj tV 22 bb (77 0 1 ay)))];refine⟨_,rfl,_,rfl,a,x,m,rfl,aN,ai,ax,c1,_,_,rfl,rfl,_,rfl,359⟩
  ·rw[A33 263];have:=k p au;rw[gy,21 104]at this;rw[A10]
  ·refine⟨_,rfl,_,rfl,a,x,m,rfl,aN,e74,ax,263⟩;have:=k p au;rw[gy,23 952]at this;rw[A10]
abbrev OY:bK:=bA 0x26
theorem Zm:31 [36,886,"known","code"] 549 OY:=⟨rfl,rfl,rfl,05,rfl,05,05⟩
inductive yj(K:bo)(CM:ag)(CS:ag)(vs:08)(H:av)(Q:aW)(E:bD):04|mk:∀(a c:ag)(sy:cv)(codes:10),vs=349 655→267→aJ K H c (aT codes)→81≤12→(842 (Q (tS (nd 75 codes)) H'))→yj K CM CS vs H Q E
theorem ao4(D:cq K ah d04 OY 549 f fd)(O:443)(M:268)(yi:220 i25 12)(pV:Pr P w K ah 02 aO 1 f48 841 AL):Pr P w K ah 02 aO 2 d04 549 (yj K CM CS):=by
 rw[A02 Zm]
 ·obtain⟨a,c,sy,codes,rfl,_⟩:=h;rfl
 ·obtain⟨a,c,sy,codes,rfl,⟨dx,l,as,aL⟩,ar,hlen,k⟩:=h;have S:=Zm;rw[A01 (aF (bX (bM oA j77 (dq yi) (bO _)) (65 et) b2) (aF (953 2 (bj pV 22 bb 010)) (239 (712 62 3 (bM (D6 K rfl) 85 45 rfl) et) (OP K rfl fl (k9 rfl 242 c08 (own:=[("code",3)]) (295 [36,886,"known","code"] OY) 927 369 (286 (e6 XF 59 (hD K rfl h9 ams PySem.F.type_list_index (aoK K rfl) 45 846) 630)))))))];refine⟨_,rfl,c,_,rfl,.inl ar,_,_,rfl,rfl,_,rfl,359⟩
  ·have h':045<320 j88:=104;have:=k H 518;rw[nd,21 r22]at this;rw[A10]
  ·have h':¬045<320 j88:=952;have ax:o99≤12:=r22;rw[nd,124]at k;refine⟨_,rfl,a,CS,dx,_,_,rfl,aL.at_,20,o83,mg,_,rfl,jB 568,458⟩;have s1:aA H (322 H q 75):=422 aw;refine⟨_,rfl,c,rfl,404 (s1.seq ar),hN (K:=K) (a:=c) (xs:=j88) (702 (σ=[248,959,874,v]∧H'=322 H q 75∧(m59).all (575 (sy.letters.any (973 (762 l c))))=01)) h04 (l28 (k30 (s1.seq ar))) ?_ ?_⟩
   ·rintro i y σ H' hi⟨v,rfl,rfl,dQ⟩;rw[B64 hi];refine⟨_,rfl,_,rfl,q,a_ 75,rfl,306 aI,rfl,Ea _,_,rfl,?_⟩;rw[IM]
    cases aa:sy.letters.any (807 (29 (44=z)))with
     |true=>rw[A21 (072 _ ?_)];rw[dZ hz,AN,dQ];simp[aa]
     |false=>
      refine c8 ?_;have:=k (322 H q 75) s1;rw[if_neg]at this
      ·rw[A10]
      ·intro q;have:=gB.mp q z (cG hz);rw[aa]at this;rw[A47]
   ·rintro σ H'⟨v,rfl,rfl,dQ⟩;rw[aT,ba,eK]at dQ;rw[A54 dQ];rw[A03 282 ⟨_,rfl,c,rfl,404 (s1.seq ar),436⟩];have s2:∀o,aA H (upd (322 H q 75) D o):=737 (808 833);have yk:q≠D:=bT aI cO;refine kC (K:=K) (a:=c) (xs:=j88) (h05 (322 H q 75) (g64 m59 (516 [231]))) rfl (fun i H' _ e=>k30 ((s2 _).seq ar)) ?_ ?_
    ·rw[B83];rw[B64 hi];obtain⟨j,af,ak,a6⟩:=ao1 (gB.mp dQ z (cG hz));have lP:334 (322 H q 75) D (g64 m59 (516 [231])) q=259 75:=o34 (aE yk);refine⟨rfl,_,rfl,a,CS,dx,_,_,rfl,s2 _ _ _ aL.at_,20,o83,mg,_,rfl,329 lP,_,rfl,q,a_ 75,489,j,48 231,rfl,rfl,32 lP,rfl,Ea _,?_,?_,?_,_,_,231,rfl,rfl,?_,?_,_,aI,?_,?_⟩
     ·rw[a_,cK,af];rfl
     ·show(52 231==z)=01;rw[ak];exact 201 z
     ·intro m j9 hm zp;obtain⟨n,aU,rfl⟩:=vY zp;show(44==z)=09;exact 963 (a6 m n hm aU)
     ·rw[dB];exact jB 568
     ·exact fm af
     ·rw[ba,eS];rw[A14 (show 255 by lia)]
     ·rw[gp,dZ hz,d5];rfl
    ·rw[B05];rw[aT,ba,eK];have tW:(codes.map (16 (516 [231])))=(e72 i88 [c]).map ae.str:=by rw[gP,gP];rfl
     refine⟨_,D,e72 i88 [c],rfl,rfl,306 (by rw[aI,tW]),?_,?_⟩
     ·have aK:(m90 (e72 i88 [c])).sum=o99:=by
       rw[gP,gP];clear tW k dQ h h' ar ax
       induction codes with|nil=>rfl|cons a r ih=>rw[eN,w6,ih,dR];show 1+230=_;lia
      rw[aK,show 11 a73=0 by rfl];lia
     ·rw[Zi];exact k _ (s2 _)
structure iF(ah:261):04 where
 zip:ah 380=00
 sum:ah "sum"=00
 abs:ah "abs"=00
 any:ah "any"=00
 all:ah "all"=00
 list:ah 500=00
 range:ah 510=00
 len:ah "len"=00
theorem Zn(w:06)(c:Nat):YQ (aP w) (001 c)=rm w c:=by
 rw[count_cnt];show PyProof.Rows.cnt c w=_;unfold rm
 induction w with
  |nil=>rfl
  |cons a r ih=>
   rw[iO,cnt_cons,ih];rw[A39 (a=c)]
   ·rw[114,21 (by rw[h];exact 201 c),dR];lia
   ·rw[125,23 (58 (h (a01 q)))];lia
theorem fa(l:10):g24 (aT l):=by rw[aT,ba]
theorem AO(a b:10):aT (a++b)=aT a++aT b:=r05
abbrev OZ:bK:=bA 6
theorem Zo:31 [304,257,256,h68] [304,257,256] OZ:=⟨rfl,rfl,rfl,05,rfl,05,05⟩
inductive IQ(vs:08)(H:av)(Q:aW)(E:bD):04|mk:∀(ls a b:06),vs=[76 ls,76 a,76 b]→284≤12→(∀p,H p=00→664 (521 H p (fO ls a b)))→IQ vs H Q E
theorem ao5(D:cq K ah k83 OZ [304,257,256] f fd):Pr P w K ah 02 aO 1 k83 [304,257,256] IQ:=by
 rw[A02 Zo]
 ·obtain⟨ls,a,b,rfl,_⟩:=h;rfl
 ·obtain⟨ls,a,b,rfl,ax,k⟩:=h;have S:=Zo;rw[A01 (65 (k9 rfl 242 (Ik 252) (own:=[(h68,3)]) (295 [304,257,256,h68] OZ) 927 369 (286 (eu r6 (DY r21 r20 YO 62 85) (DY r21 r20 YO 45 85)))))];refine⟨_,rfl,_,rfl,436⟩;refine Y6 (h05 H (aT (442 (fO ls a b)))) rfl ?_ ?_
  ·rintro i c H' ar rfl;have ar:ls[i]?=73:=ar;refine⟨rfl,_,rfl,282,_,rfl,_,_,rfl,rfl,_,rfl,282,_,rfl,_,_,rfl,rfl,_,_,rfl,rfl,_,aI,?_,?_⟩
   ·rw[fa,eS];rw[A14 (show 255 by have:=eI ar;lia)]
   ·have e:(fO ls a b)[i]?=some (rm a c-rm b c):=by rw[fO,cK,ar];rfl
    rw[gp,dZ e,AO,Zn,Zn];rfl
  ·rw[B05];rw[IG,show 284=11 (fO ls a b)by simp[fO],eK];exact k D cO
theorem Zp{g:iv}{vs:06}{σ:bq}(Pv:599)(h0:Pv 0 696)(ax:∀i H,617→464∧aJ K H b ys)(aL:∀i x y T H,441=43→ys[i]?=270→H T=00→617→g c51 297 (388 H T [x,y]) (fun c6 aB=>709=297∧tt c6 aB (fun b a5=>39 b (c7 c6 a5 (fun y bP=>∃acc,bP D=701∧707∧e77 (i+1) [y])) (Pv (i+1) a5))))(hd:∀H,Pv d73 H→qV H):∃W:240 599,(∃m,W 0 m 696)∧∀i m H,W i m H→(800 (DV K a b)∧qV H)∨((DV K a b).go i H∧∃hh:856,(c58 (eg<m∧W (i+1) eg H'))∧∀x H',(DV K a b).mL i H x H'→g x 297 H' (fun c6 aB=>709=297∧c88 b (bP D=701∧707∧c29 [y]))):=by
 rw[B12 (m=d73-i∧i≤d73∧617) ⟨_,rfl,229,h0⟩];rw[B20];obtain⟨eY,dW⟩:=ax i H p;by_cases cM:i<d73
 ·have af:i<57:=03;have ak:i<675:=03;refine .inr ⟨⟨xs,ys,xs[i],ys[i],eY,dW,cA af,cA ak⟩,361,fun H' q=>⟨d73-(i+1),03,rfl,03,q⟩,?_⟩;rintro v H'⟨T,x,y,rfl,bR,rfl,ai,aC⟩;exact aL i x y T H (ai xs eY) (aC ys dW) bR p
 ·rw[A50 (i=d73)];subst e;rw[A23 ⟨xs,ys,eY,dW,03⟩ (hd H p)]
abbrev O0:bK:=bA 8
theorem Zq:31 [573,b45,"weight",f45] b85 O0:=⟨rfl,rfl,rfl,05,rfl,05,05⟩
inductive AP(K:bo)(vs:08)(H:av)(Q:aW)(E:bD):04|mk:∀(p q:ag)(a b:10),vs=[280,a98]→aJ K H p (aT a)→aJ K H q (aT b)→733≤12→(∀x∈b,-(2^402)<x∧x<2^402)→(842 (Q (.int (hc a b)) H'))→AP K vs H Q E
theorem aAJ{a b:10}{x y:Int}(af:a[i]?=43)(ak:b[i]?=270):(kQ (fun x y=>x*y) a b)[i]?=some (x*y):=by rw[zB,af,ak]
theorem ao6(D:cq K ah f29 O0 b85 f fd)(O:347):Pr P w K ah 02 aO 1 f29 b85 (AP K):=by
 rw[A02 Zq]
 ·obtain⟨p,q,a,b,rfl,_⟩:=h;rfl
 ·obtain⟨p,q,a,b,rfl,au,aw,ax,aa,k⟩:=h;have S:=Zq;rw[A01 (65 (d6 (aoL K rfl rfl) 66 O.sum boot_sum (78 (k9 rfl 242 (Y8 K rfl rfl O.zip (462 0 1)) (own:=[("weight",2),(f45,3)]) (295 [573,b45,"weight",f45] O0) (f46 (tQ K rfl (n:=2) rfl (kX (98 2 rfl 70) (kX (98 3 rfl 70) tF)))) 369 (286 (eu vB 45 85))))))];refine⟨_,rfl,_,rfl,p,q,_,_,rfl,au,aw,436⟩;refine Zp (K:=K) (a:=p) (b:=q) (xs:=aT a) (ys:=aT b) (885 (49∧H' D=79 (442 (kQ (i00 (x*y)) a b)))) ⟨833,aI⟩ (fun i H' z=>⟨z.1.seq au,z.1.seq aw⟩) ?_ ?_
  ·rintro i x y T H' ai aC bR⟨s1,af⟩;obtain⟨x,so,rfl⟩:=oL ai;obtain⟨y,qR,rfl⟩:=oL aC;have yh:D≠T:=bT af bR;have hi:=eI so;refine⟨T,_,rfl,e34,rfl,_,_,rfl,_,_,rfl,rfl,rfl,_,rfl,_,rfl,_,_,rfl,rfl,.inr (aa y (cG qR)),_,41 yh af,?_,?_,?_⟩
   ·rw[fa,eS];rw[A14 (show 255 by lia)]
   ·refine k57 ?_;have aK:=s1 c o e;rw[aE (88 (c≠D) (16 (by rw[z,cO]at e;cases e))),110 aK bR];exact aK
   ·rw[aI,dZ (aAJ so qR),AO];rfl
  ·rintro H'⟨s1,af⟩;refine⟨D,kQ (i00 (x*y)) a b,rfl,32 ?_,k H' s1⟩;rw[af,fa,fa,←qw (f:=fun x y:Int=>x*y),eK];rfl
abbrev Zr:bK:=bA 9
theorem Zs:31 [381,726,365,"other","rest"] [381] Zr:=⟨rfl,rfl,rfl,05,rfl,05,05⟩
inductive O1(K:bo)(vs:08)(H:av)(Q:aW)(E:bD):04|mk:∀(p:ag)(r:10),vs=718→aJ K H p (aT r)→Q (48 767) H→O1 K vs H Q E
theorem ao7{z:Int}(h:r[i]?=415):g33 (i+1)=qm (g33 i) z.natAbs:=by rw[dZ h,gb,sZ];rfl
theorem Zt(z:Int):(13 (z<0) (-z) z)=15 z.natAbs:=q22
theorem ao8(D:cq K ah o97 Zr [381] f fd)(O:347):Pr P w K ah 02 aO 1 o97 [381] (O1 K):=by
 rw[A02 Zs]
 ·rw[D36];rfl
 ·obtain⟨p,r,rfl,au,k⟩:=h;have S:=Zs;rw[A01 (389 1 bu (e_ eL rfl (339 252) (98 2 rfl 70) (018 3 (d6 WY 66 O.abs boot_abs 699) (tG eL (bM k4 (J 3) bu (bO _)) (90 4 (eu Hw 62 85) (94 1 85) (aM (94 3 327)))))) 62)];refine⟨_,rfl,p,rfl,404 au,hN (K:=K) (a:=p) (xs:=aT r) (505 (∃v2 fb v4:93,σ=[444,71 (g33 i),v2,fb,v4]∧H'=H)) ⟨00,00,00,rfl,rfl⟩ (fun i σ H' _⟨_,_,_,_,e⟩=>by rw[e];exact au) ?_ ?_⟩
  ·rintro i y σ H' hi⟨v2,fb,v4,rfl,rfl⟩;rw[B64 hi];refine⟨_,rfl,_,rfl,?_⟩;rw[Zt];refine M7 (o79 (∃(g o:Nat)(v4:93),σ=[444,71 g,some 489,71 o,v4]∧H'=_∧qm g o=g33 (i+1))) (fun σ _=>match σ with|[_,_,_,some (.int o),_]=>o.toNat|_=>0) ⟨g33 i,z.natAbs,v4,rfl,rfl,567 (ao7 hz)⟩ ?_ ?_
   ·rintro σ aB⟨g,o,v4,rfl,rfl,a4⟩;refine⟨_,rfl,rfl,_,rfl,?_⟩;by_cases a8:o=0
    ·subst a8;rw[Nat.gcd_zero_right]at a4;rw[←a4];exact b_ ⟨some 489,71 (0:Nat),v4,rfl,rfl⟩
    ·have d9:¬(a37 o=426 0):=58 (a8 (by injection q with q;lia));rw[113 d9];refine c8 ⟨_,rfl,_,rfl,_,_,rfl,rfl,03,_,rfl,_,rfl,⟨o,g%o,601 (15 g%15 o),?_,rfl,?_⟩,?_⟩
     ·rw[Int.natCast_emod];rfl
     ·rw[Nat.gcd_comm,←Nat.gcd_rec,Nat.gcd_comm];exact a4
     ·show 271 (15 g%15 o)<(o:Int).toNat;have:=Nat.mod_lt g (show o>0 by lia);lia
   ·rintro σ aB Zu Zv aw⟨v,e,sc,k,mA,q⟩;exact⟨v,e,sc,k,mA,aw _ _ q⟩
  ·rintro σ H'⟨v2,fb,v4,rfl,rfl⟩;rw[fa,eK];rw[A15 k]
abbrev O2:bK:=bA 0xa
theorem Zw:31 [243,088,365] [243] O2:=⟨rfl,rfl,rfl,05,rfl,05,05⟩
theorem ao9:gs X (r5 o98) (e76 (fun _ j=>0<j∧j.natAbs.log2<9000) (i/j)):=l85 (by have af:413<j:=ar.1;exact WJ 03 (b59 (ak5 i 03)) (.inl (apa ar.2)))
theorem apb:gs X (r5 o98) (e76 (fun _ j=>j≠0∧j.natAbs.log2<9000) (i.fdiv j)):=Dm (r19 (WJ ar.1 q (.inl (apa ar.2))))
inductive IS(K:bo)(vs:08)(H:av)(Q:aW)(E:bD):04|mk:∀(p:ag)(r:10),vs=718→H p=716→n04→(767).log2<9000→(∀H' q,49→H' q=79 b02→435 q)→IS K vs H Q E
theorem apc(D:cq K ah l13 O2 [243] f fd)(O:347)(O3:Pr P w K ah 02 aO 1 o97 [381] (O1 K)):Pr P w K ah 02 aO 2 l13 [243] (IS K):=by
 rw[A02 Zw]
 ·rw[D36];rfl
 ·obtain⟨p,r,rfl,au,ax,apd,k⟩:=h;have S:=Zw;rw[A01 (517 (953 1 (340 O3)) (bX (bM ka (J 1) bu (bO _)) (65 252) b2) (k9 rfl 242 j82 (own:=[(365,2)]) (295 [243,088,365] O2) g98 369 (286 (eu ao9 45 62))))];refine⟨_,rfl,p,r,rfl,32 au,_,rfl,_,_,rfl,rfl,_,rfl,359⟩
  ·have h':52 767<2:=104;rw[jH,118]at k;rw[A15 (k H p 518 au)]
  ·have h':¬52 767<2:=952;rw[jH,124]at k;refine⟨_,rfl,p,rfl,223 au,436⟩;have yh:p≠D:=bT au cO;refine kC (K:=K) (a:=p) (xs:=aT r) (h05 H (aT (442 (j53 (n/929))))) rfl (i69 (41 yh au)) ?_ ?_
   ·rw[B83];rw[B64 hi];refine⟨rfl,_,rfl,_,rfl,_,_,rfl,rfl,⟨03,by rw[UG];exact apd⟩,_,aI,?_,?_⟩
    ·rw[fa,eS];rw[A14 (show 255 by have:=eI hz;lia)]
    ·have e:(r.map fun n=>n/(gb r:Int))[i]?=some (z/929):=by rw[cK,hz];rfl
     rw[gp,dZ e,AO];rfl
   ·rw[B05];refine k _ D 833 ?_;rw[aI,fa,show 230=11 (j53 (n/929))by simp,eK]
def mQ(c:ag)(i:Nat):324:=cC 730 (48 i) (238 d09 c [])
theorem O4:273 (mQ c i) d09=959:=r18
theorem yl:g10 (mQ c i)=71 i:=r18
theorem Zx{z:Int}(h:z=15 j):cC 730 489 (mQ c i)=mQ c j:=by subst h;unfold mQ;rfl
theorem ke{m:Str}(h:¬m=730:=by decide+kernel)(ak:¬m=d09:=by decide+kernel):805 (mQ c i) m=00:=by unfold mQ;rw[e2,125,e2,146];rfl
structure sx(K:bo)(C:ag):04 where
 cl:h4 K C
 calls:245 d09
 ea:245 730
inductive mh(C:ag)(H:av)(a:ag)(c:ag)(i:Nat):04|mk:∀dx,H a=483 C (mQ c i)→mh C H a c i
def gZ(a:ag)(H H':av):04:=374 (H b) (b≠a→244=25)
theorem gZ.trans(x:gZ a H H1)(y:gZ a H1 aB):gZ a H aB:=k90 (y b o (x b o e n) n)
theorem gZ.upd{o:dz}:gZ a H (Internal.upd H a o):=l88 (aE n)
theorem aA.but(h:49):802 a:=o49 (h b o e)
theorem gZ.seq{bl:324}(x:802 a)(aN:H a=854)(h:aJ K H c xs):aJ K H' c xs:=by
 rw[C28]
 ·rw[A17 (.inl (x _ _ h (355 h aN)))]
 ·rw[A17 (.inr ⟨o,x _ _ h (355 h aN)⟩)]
 ·rw[A09 h]
theorem Zy(h:759 (i+n)){z u:Int}(hz:z=249)(bp:u=52 (i+n)):mb xs 415 56=221 (xs.drop i) n:=by subst hz bp;unfold mb;rw[HT.r_,HT.r_];rw[177,177];congr 1;lia
abbrev Zz:bK:=343 0x78 1
theorem ape:31 251 251 Zz:=⟨rfl,rfl,rfl,05,rfl,05,05⟩
inductive O5(K:bo)(C:ag)(vs:08)(H:av)(Q:aW)(E:bD):04|mk:∀(a c:ag)(i:Nat)(ns:10),vs=254→mh C H a c i→063 c→446 (29 (i=314))→O5 K C vs H Q E
theorem apf(F:hC K "is_at_end" "CallReader.is_at_end" Zz f fd)(O:443)(M:sx K C):eP P w K ah 02 aO 1 f fd 251 (O5 K C):=by
 rw[A36 ape]
 ·obtain⟨a,c,i,ns,rfl,_⟩:=h;rfl
 ·obtain⟨a,c,i,ns,rfl,⟨dx,aN⟩,ar,k⟩:=h;rw[A01 (65 (z_ fv 59 c91 (bO _)))];refine⟨_,rfl,a,C,dx,_,_,rfl,aN,20,M.ea,yl,_,rfl,a,C,dx,_,_,rfl,aN,20,l16,O4,c,_,rfl,.inl ar,rfl,?_⟩;have e:a33 249 (320 039)=29 (i=314):=by
   rw[aT,ba];by_cases q:i=314
   ·rw[q];simp
   ·rw[113 q,decide_eq_false];intro z;injection z with z;lia
  rw[e];exact k
abbrev ZA:bK:=343 0x78 2
theorem apg:31 251 251 ZA:=⟨rfl,rfl,rfl,05,rfl,05,05⟩
inductive AQ(K:bo)(C:ag)(vs:08)(H:av)(Q:aW)(E:bD):04|mk:∀(a c:ag)(i:Nat)(ns:10)(z:Int),vs=254→mh C H a c i→063 c→ns[i]?=415→(∀H',mh C H' a c (i+1)→802 a→Q (.int z) H')→AQ K C vs H Q E
theorem aph(F:hC K h54 "CallReader.take_number" ZA f fd)(M:sx K C):eP P w K ah 02 aO 1 f fd 251 (AQ K C):=by
 rw[A36 apg]
 ·obtain⟨a,c,i,ns,z,rfl,_⟩:=h;rfl
 ·obtain⟨a,c,i,ns,z,rfl,⟨dx,aN⟩,ar,hz,k⟩:=h;rw[A01 (239 (Xe 252 bu Xg) (a51 (eu r6 59 bu)))];refine⟨_,rfl,a,C,dx,_,_,rfl,aN,20,M.ea,yl,_,_,rfl,rfl,dx,_,aN,298 2,?_⟩;rw[Zx (i:=i) (j:=i+1) 03];refine⟨_,rfl,a,C,dx,_,_,rfl,aI,20,l16,O4,_,rfl,a,C,dx,_,_,rfl,aI,20,M.ea,yl,_,_,rfl,rfl,c,039,_,489,rfl,rfl,gZ.upd.seq aN ar,?_,k _ ⟨dx,aI⟩ gZ.upd⟩;rw[show(52 (i+1)-1)=249 by lia];refine fm ?_;rw[aT,cK,hz];rfl
abbrev ZC:bK:=343 0x78 3
theorem ZD:31 [352,"size"] 251 ZC:=⟨rfl,rfl,rfl,05,rfl,05,05⟩
inductive AR(K:bo)(C:ag)(vs:08)(H:av)(Q:aW)(E:bD):04|mk:∀(a c:ag)(i n:Nat)(ns:10),vs=254→mh C H a c i→063 c→ns[i]?=some 44→i+1+n≤314→(g43 (mh C H' a c (i+1+n)) (802 a→H p=00→416=79 (221 (976 (i+1)) n)→412))→AR K C vs H Q E
theorem api(F:hC K h53 "CallReader.take_row" ZC f fd)(M:sx K C)(apj:jb P w K ah 02 aO 1 C h54 251 (AQ K C)):eP P w K ah 02 aO 2 f fd 251 (AR K C):=by
 rw[A36 ZD]
 ·obtain⟨a,c,i,n,ns,rfl,_⟩:=h;rfl
 ·obtain⟨a,c,i,n,ns,rfl,⟨dx,aN⟩,ar,aU,hi,k⟩:=h;have S:=ZD;rw[A01 (389 1 (gv apj 20 22 bb 252) (Xe 252 62 Xg) (pM b17 59 (ma (eu r6 59 62)) (ma 59)))];refine⟨_,rfl,a,dx,_,rfl,aN,ke,a,c,i,ns,_,rfl,⟨dx,aN⟩,ar,aU,fun H1⟨mi,je⟩b9=>?_⟩;rw[A96 aN ar];refine⟨_,rfl,a,C,mi,_,_,rfl,je,20,M.ea,yl,_,rfl,_,_,rfl,rfl,mi,_,je,298 2,?_⟩;rw[Zx (i:=i+1) (j:=i+1+n) 03];refine⟨_,rfl,a,C,mi,_,_,rfl,aI,20,l16,O4,_,rfl,a,C,mi,_,_,rfl,aI,20,M.ea,yl,_,rfl,_,_,rfl,rfl,_,rfl,_,rfl,a,C,mi,_,_,rfl,aI,20,M.ea,yl,_,rfl,c,039,rfl,gZ.upd.seq je lQ,263⟩;rw[Zy (i:=i+1) (n:=n) (by rw[aT,ba];lia) 03 rfl];have np:a≠p:=bT aI au;refine k _ p ⟨mi,o34 (aE np)⟩ ?_ ?_ ?_
  ·exact 35 (h83 gZ.upd) (aA.but 116)
  ·have ym:H1 p=00:=by rw[aE np.symm]at au;exact au
   cases e:H p with|none=>rfl|some o=>rw[b9 p o e np.symm]at ym;cases ym
  ·rw[aI,aT,←uX,←wR];rfl
theorem apk(K:bo)(cj:X.K=K):Ww X (fun o i H Q=>∃(p:ag)(xs:08)(j:Nat)(v:ae),o=280∧i=48 j∧aJ K H p xs∧xs[j]?=54∧Q v H):=by subst cj;intro pins s σ H o i dA gV Q I n9 Ah h;obtain⟨p,xs,j,v,rfl,rfl,aw,a3,q⟩:=h;cases n9;obtain⟨t,rfl⟩:=Ah;rw[B34 aw];rw[C06 a3];rw[B85];rw[B06];have bS:=eI a3;exact wpAny_getItem_list 965 03 03 r17 ⟨v,H,I,oE,q⟩
end
section
variable{b:ag}{op:CmpOp}
def gT(lw b1 lo dp lc:ag)(op dV:Bool):324:=cC l26 (.bN dV) (cC l27 (.bN op) (238 f49 lc (g35 dp (238 099 lo (238 381 b1 (238 574 lw []))))))
section
variable{lw b1 lo dp lc:ag}{op dV:Bool}
theorem AS:273 (gT lw b1 lo dp lc op dV) 574=46 lw:=a00
theorem IT:273 (gT lw b1 lo dp lc op dV) 381=46 b1:=a00
theorem O6:273 (gT lw b1 lo dp lc op dV) 099=46 lo:=a00
theorem ZE:273 (gT lw b1 lo dp lc op dV) "levels"=46 dp:=a00
theorem Eb:273 (gT lw b1 lo dp lc op dV) f49=46 lc:=a00
theorem O7:273 (gT lw b1 lo dp lc op dV) l27=c53 op:=a00
theorem O8:273 (gT lw b1 lo dp lc op dV) l26=c53 dV:=a00
theorem O9(b:Bool):cC l27 a80 (gT lw b1 lo dp lc op dV)=gT lw b1 lo dp lc b dV:=r16
theorem apl(b:Bool):cC l26 a80 (gT lw b1 lo dp lc op dV)=gT lw b1 lo dp lc op b:=r16
theorem ZF:273 (gT lw b1 lo dp lc op dV) l24=00:=a00
theorem apm:273 (gT lw b1 lo dp lc op dV) o00=00:=a00
theorem IU:11 (gT lw b1 lo dp lc op dV)<1000:=681 (7<1000)
end
end
section
variable{A:rT}{B:Prop}{C CM CS D I a b bG c dx f p t:ag}{E Q:aH→aZ→Prop}{F:List (List Nat)}{K:bo}{M:Model}{N ps:List Str}{P:f3}{R:Result→aZ→Prop}{fD pos:Pos}{S:ag→Prop}{T:String}{us vs:List aH}{as:List ag}{aG e:dn}{aR:Array Il}{acc:List (Str×ag)}{bx ek f1 u:aH}{o:Obj}{ah:Str→Option aH}{pins:List (ag×Obj)}{az:Option ag}{b0 c0 cR dS eh i j lv n t':Nat}{base h h':dk}{g l ls:List Nat}{cl:Str→Option ag}{cs ms r ws:List Int}{α β:Type}{fd:k6}{x:Str}{op:CmpOp}{outer:List Env}{own:List (Str×Nat)}{pl:Sem Bool}{q:Search}{s:dt}{sc:rp}{tk:Tok}{v:Word}{w:ff}{m:g0}{sy:cv}{cb:List (Option ae)}{xs ys:List ae}{y:ae}{H H' H1 aB eF:av}{X:dT}{r8:ae→ae→av→aW→Prop}{c7:ct}{tb:gH}
structure tX(K:bo)(C:ag):04 where
 cl:h4 K C
 words:245 574
 Ec:245 381
 origins:245 099
 levels:245 "levels"
 AU:245 f49
 yn:245 l27
 Ed:245 l26
def mj(ws:30):410:=ws.zipIdx.map (400 (a36 p.1,a37 p.2))
def AV(H:av)(v:ae):92 845|none=>v=.b4|some o=>∃t,v=784∧H t=294 [48 o.1,k11,k00]
def h_(ws:30):08:=ws.map (452 (516 w))
structure lR where
 a:ag
 dx:ag
 lw:ag
 b1:ag
 lo:ag
 dp:ag
 lc:ag
def lR.sz(R:lR)(b:ag):04:=b=R.a∨b=354∨b=368∨b=430∨b=476∨b=305
structure hP(C:ag)(H:av)(R:lR)(os:08)(q:d3):04 where
 at_:H R.a=711 228 (gT 354 368 430 476 305 q.op 732)
 eh:H 354=247 751
 nm:H 368=some (.e0 (mj 887))
 oM:H 430=247 os
 ol:k66=b34
 ok:∀(i:Nat)(v:ae)(o:845),os[i]?=54→j22=25→AV H v o
 lv:H 476=259 d23
 ek:H 305=259 453
 cR:354≠430
 dS:354≠476
 iX:354≠305
 sA:430≠476
 sk:430≠305
 xe:476≠305
def jk(R:lR)(H H':av):04:=374 (H b) (¬c86→244=25)
theorem jk.trans{R:lR}(x:jk R H H1)(y:jk R H1 aB):jk R H aB:=k90 (y b o (x b o e n) n)
theorem jk.upd{R:lR}{o:dz}(h:R.sz p):jk R H (Internal.upd H p o):=l88 (170 (n q70))
theorem O_{ws:30}{w:06}(h:w∉ws):ja (mj ws) (a36 w)=00:=by
 have key:∀(l:List (06×Nat)),(∀p∈l,p.1≠w)→ja (363 (400 ((a36 p.1:cF),a37 p.2))) (a36 w)=00:=by
  intro l
  induction l with
   |nil=>intro _;rfl
   |cons p r ih=>
    intro au;rw[eN,As]
    ·exact ih (fun ky IK=>au ky (005 IK))
    ·intro z;have j9:aP p.1=aP w:=MN z;exact au p 999 (q69 (109 c5 j9))
 refine key _ (fun p au z=>h ?_);have:=List.mem_zipIdx au;rw[←z];exact this.2.2▸141
theorem apn(ws:30)(w:06):mj (ws++[w])=mj ws++[(a36 w,a37 o21)]:=by unfold mj;rw[List.zipIdx_append,d5];simp
theorem hn(l:06):g24 (a_ l):=by rw[a_,ba]
theorem AW(a b:06):a_ (a++b)=a_ a++a_ b:=by rw[a_,a_,a_,d5]
theorem ZG(l:06)(i n:Nat):a_ (l.set i n)=(a_ l).set i b10:=by rw[a_,a_,List.map_set]
theorem apo(a b:30):h_ (a++b)=h_ a++h_ b:=by rw[h_,h_,h_,d5]
theorem IV(h:j<n):qM n (15 j)=some j:=by unfold qM;rw[118];first|(rw[118];simp)|simp[h]
theorem ZH(h:i<63):k53 i=71 (835 i:Nat):=i58 (cA h) h
theorem ZI(n:Nat):44+1=52 (n+1):=rfl
theorem Ee(h:n≤1000):n<bc:=fL h 14
abbrev ZJ:bK:=343 0x36 1
theorem ZK:31 [352,235,h98,f23] [352,235,h98,f23] ZJ:=⟨rfl,rfl,rfl,05,rfl,05,05⟩
inductive IW(C:ag)(vs:08)(H:av)(Q:aW)(E:bD):04|mk:∀(R:lR)(os:08)(q:d3)(x:06)(l:Nat)(dA:ae)(o:845),vs=[.ref R.a,460,48 l,dA]→hP C H R os q→AV H dA o→x∉887→l≤b58→302≤979→b34≤979→r14≤979→b58≤979→(∀H',hP C H' R (os++[dA]) (n_ q x l o)→jk R H H'→910)→IW C vs H Q E
theorem apq(F:hC K l24 "Search.note_word" ZJ f fd)(O:443)(M:tX K C):eP P w K ah 02 aO 1 f fd [352,235,h98,f23] (IW C):=by
 rw[A36 ZK]
 ·obtain⟨R,os,q,x,l,dA,o,rfl,_⟩:=h;rfl
 ·obtain⟨R,os,q,x,l,dA,o,rfl,h,a8,ai,ax,hQ,es,jC,tY,k⟩:=h;have S:=ZK;have bp:=D1 aq;rw[A01 (aF (anq bp 59 62 c91 rfl) (aF (fK (hD K rfl h9 sC sD qQ 59 296)) (aF (fK (hD K rfl h9 sC sD qQ 59 846)) (aF (fK (hD K rfl h9 sC sD qQ 59 699)) (434 (bX (bM fv (J 2) c91 (bO _)) (aM (fK (hD K rfl h9 sC sD qQ 59 755))) b2) (akH 59 45 (apk K rfl) bu z2 TS))))))];have Pa:R.a≠368:=836 h.nm;have Ef:R.a≠354:=836 h.eh;have IX:R.a≠430:=836 h.oM;have Pb:R.a≠476:=836 h.lv;have IY:R.a≠305:=836 h.ek;have ZL:368≠354:=355 h.nm h.eh;have ZM:368≠430:=355 h.nm h.oM;have ZN:368≠476:=355 h.nm h.lv;have ZO:368≠305:=355 h.nm h.ek;have wl:11 751=302:=l21;have nl:11 (mj 887)=302:=by rw[mj,ba,ZP]
  refine⟨_,rfl,R.a,C,228,_,_,rfl,674,20,d22,AS,354,751,rfl,306 h.eh,_,rfl,R.a,C,228,_,_,rfl,674,20,M.Ec,IT,_,rfl,368,_,rfl,DN.k (k:=c71) h.nm (by rw[nl];exact 176),?_⟩;rw[am8 _ (O_ ai),wl,←apn];have IZ:upd H 368 (.e0 e44) R.a=711 228 (gT 354 368 430 476 305 q.op 732):=41 Pa 674;have ZQ:upd H 368 (.e0 e44) 354=247 751:=41 ZL.symm h.eh;refine⟨_,rfl,R.a,C,228,_,_,rfl,IZ,20,d22,AS,329 ZQ,_,rfl,354,_,_,rfl,rfl,ZQ,by rw[wl];exact 176,?_⟩;have ZR:334 (e25 368 e44) 354 (751++[516 x]) 430=247 os:=by rw[aE h.cR.symm,aE ZM.symm];exact h.oM
  refine⟨_,rfl,R.a,C,228,_,_,rfl,41 Ef IZ,20,k65,O6,329 ZR,_,rfl,430,_,_,rfl,rfl,ZR,by rw[h.ol];exact 176,?_⟩;have ZS:334 (34 (e25 368 e44) 354 (751++[516 x])) 430 (os++[dA]) 476=259 d23:=by rw[aE h.sA.symm,aE h.dS.symm,aE ZN.symm];exact h.lv
  refine⟨_,rfl,R.a,C,228,_,_,rfl,41 IX (41 Ef IZ),20,M.levels,ZE,329 ZS,_,rfl,476,_,_,rfl,rfl,ZS,h38 176,?_⟩;generalize yo:34 (34 (34 (e25 368 e44) 354 (751++[516 x])) 430 (os++[dA])) 476 (a_ d23++[a37 l])=bP;have Eg:bP R.a=711 228 (gT 354 368 430 476 305 q.op 732):=by rw[←yo,aE Pb,aE IX,aE Ef];exact IZ
  have Eh:bP 305=259 453:=by rw[←yo,aE h.xe.symm,aE h.sk.symm,aE h.iX.symm,aE ZO.symm];exact h.ek
  have ZT:jk R H bP:=by rw[←yo];exact 547 (35 (g17 70) (jk.upd (en 70))) (g17 (en 70)) (g17 (en (en 70)))
  have fin:∀cs:06,n4 453 l=cs→hP C (322 bP 305 cs) R (os++[dA]) (n_ q x l o):=by
   intro cs iD;have apr:∀t u,H t=294 u→334 bP 305 (a_ cs) t=294 u:=fun t u e=>by
    have nm:¬R.sz t:=by
     rintro(z|z|z|z|z|z)<;>subst z
     ·rw[h.at_]at e;cases e
     ·rw[h.eh]at e;cases e
     ·rw[h.nm]at e;cases e
     ·rw[h.oM]at e;cases e
     ·rw[h.lv]at e;cases e
     ·rw[h.ek]at e;cases e
    exact(ZT.trans (g17 (en (en e92)))) t _ e nm
   have ZU:∀v dr,AV H v dr→AV (322 bP 305 cs) v dr:=fun v dr e=>by cases dr with|none=>exact e|some dr=>obtain⟨t,aK,aG⟩:=e;exact⟨t,aK,apr t _ aG⟩
   refine⟨41 IY Eg,?_,?_,?_,?_,?_,?_,?_,h.cR,h.dS,h.iX,h.sA,h.sk,h.xe⟩
   ·show _=j74 (h_ a78);rw[aE h.iX,←yo,aE h.dS,aE h.cR,aI,apo];rfl
   ·show _=some (dz.e0 e44);rw[aE ZO,←yo,aE ZN,aE ZM,aE ZL,aI]
   ·rw[aE h.sk,←yo,aE h.sA,aI]
   ·show _=11 (d06++[o]);rw[cn,cn,h.ol];rfl
   ·intro i v dr a3 ju;have ju:q12 i=some dr:=ju;rw[A65 (i<k66)]
    ·rw[mN hi]at a3;rw[mN (by rw[←h.ol];exact hi)]at ju;exact ZU v dr (h.ok i v dr a3 ju)
    ·have aBf:=h.ol;rw[166]at a3 ju;have dw:i-k66=0:=l81 a3;rw[dw]at a3;rw[←h.ol,dw]at ju;have aK:dA=v:=cI a3;have aG:o=dr:=cI ju;rw[B52];exact ZU dA o a8
   ·show _=j74 (a_ (d23++[l]));rw[aE h.xe,←yo,aI,AW];rfl
   ·show _=j74 (a_ (n4 453 l));rw[aI,iD]
  have ZV:∀o,jk R H (upd bP 305 o):=737 (ZT.trans (g17 (en (en e92))));refine⟨_,rfl,_,rfl,R.a,C,228,_,_,rfl,Eg,20,M.AU,Eb,305,_,rfl,306 Eh,rfl,_,rfl,eb (100 ?_) (100 ?_)⟩
  ·have tj:l=b58:=by have e:=121 e;injection e with e;rw[hn]at e;lia
   refine⟨_,rfl,R.a,C,228,_,_,rfl,Eg,20,M.AU,Eb,329 Eh,305,_,_,rfl,rfl,Eh,h38 176,?_⟩;have kU:a_ 453++[426 0]=a_ (453++[0]):=by rw[AW];rfl
   rw[kU];have cM:l<11 (453++[0]):=by rw[cn];simp;lia
   refine⟨_,rfl,R.a,C,228,_,_,rfl,41 IY Eg,20,M.AU,Eb,_,rfl,305,a_ (453++[0]),l,48 ((453++[0]).getD l 0:Nat),rfl,rfl,e42,ZH cM,_,_,rfl,rfl,305,_,_,l,rfl,rfl,aI,IV r15,?_⟩;rw[gp];show Q .b4 (34 bP 305 ((a_ (453++[0])).set l (426 (52 ((453++[0]).getD l 0)+1))));rw[ZI,←ZG];refine k _ (fin _ ?_) (ZV _);unfold n4;rw[21 tj]
  ·have tj:¬l=b58:=by intro z;refine e (102 ?_);rw[hn,z]
   have cM:l<b58:=03;refine⟨_,rfl,R.a,C,228,_,_,rfl,Eg,20,M.AU,Eb,_,rfl,305,a_ 453,l,48 (q.counts.getD l 0:Nat),rfl,rfl,32 Eh,ZH cM,_,_,rfl,rfl,305,_,_,l,rfl,rfl,Eh,IV r15,?_⟩;show Q .b4 (34 bP 305 ((a_ 453).set l (426 (52 (q.counts.getD l 0)+1))));rw[ZI,←ZG];refine k _ (fin _ ?_) (ZV _);unfold n4;rw[23 tj]
theorem I0{g:iv}{D:lY}{σ:bq}(Pv:647)(h0:Pv 0 σ H)(ax:h28 (560→464))(aL:∀i x T σ H,441=43→H T=00→560→g c51 σ (388 H T [309,x]) (fun c6 aB=>b67 361 361 c6 aB))(hd:c73 m68 659):∃W:240 647,(∃m,W 0 m σ H)∧∀i m σ H,W i m σ H→(800 (DU K a)∧659)∨((DU K a).go i H∧∃N:409,e99 (N cb H'→∃eg,eg<m∧W (i+1) eg cb H') ((DU K a).mL i H x H'→g x σ H' (fun c6 aB=>a11 c6 aB))):=by
 rw[B09 (m=57-i∧759 i∧560) ⟨_,rfl,229,h0⟩];rw[B18];have eY:=ax i σ H p;rw[B42 i]
 ·refine .inr ⟨⟨xs,xs[i],eY,cA cM⟩,361,fun cb H' q=>⟨57-(i+1),03,rfl,03,q⟩,?_⟩;rintro v H'⟨T,x,rfl,bR,rfl,ai⟩;exact aL i x T σ H (ai xs eY) bR p
 ·rw[B43 i];subst e;rw[A23 ⟨xs,eY,64⟩ (hd σ H p)]
structure o4(q:d3):04 where
 ol:b34=302
 dp:r14=302
 wl:302≤315
 cl:b58≤302
 lt:∀l∈q.levels,l<b58
 I1:∀x∈q.words,708
theorem aps(cs:06)(l:Nat):11 (n4 cs l)=13 (l=383) (383+1) 383:=by unfold n4;rw[mC];split<;>simp
theorem o4.note{q:d3}{x:06}{l:Nat}{o:845}(g:o4 q)(hw:302<315)(ax:l≤b58)(ai:708):o4 (n_ q x l o):=by
 have aa:=aps 453 l;have af:=g.cl;refine⟨?_,?_,?_,?_,?_,?_⟩
 ·show 11 (d06++[o])=11 a78;rw[cn,cn,g.ol];rfl
 ·show 11 (d23++[l])=11 a78;rw[cn,cn,g.dp];rfl
 ·show 11 a78≤315;rw[cn];simp;lia
 ·show 11 (n4 453 l)≤11 a78;rw[cn,aa];simp;rw[B53]
 ·rw[B23];show z<11 (n4 453 l);have hz:z∈d23++[l]:=hz;rw[aa];rw[B39 hz]
  ·have:=g.lt z hz;rw[B53]
  ·have:z=l:=86 hz;rw[A88];rw[B53]
 ·rw[B23];have hz:z∈a78:=hz;rw[B39 hz]
  ·exact g.I1 z hz
  ·rw[86 hz];exact ai
theorem ZW{n idx lv:Nat}{m:g0}{x:06}{q:d3}(h:732=01):∀ps:06,ps.foldl (ij n idx lv m x) q=q|[]=>rfl|p::r=>by rw[hv,show ij n idx lv m x q p=q by unfold ij;rw[114]];exact ZW h r
theorem ZX{n len lv:Nat}{x:06}{q:d3}(h:732=01):∀ms:List (g0×Nat),ms.foldl (gz n len lv x) q=q|[]=>rfl|p::r=>by rw[hv,show gz n len lv x q p=q by unfold gz;rw[114]];exact ZX h r
theorem AX(f:β→α→β)(b:β){l:40}{x:α}(h:115=43):(l.take (i+1)).foldl f b=f ((648).foldl f b) x:=by rw[dZ h,sZ];rfl
theorem Pc{x:06}{p:Nat}(au:p∈375):e06 p∧320 720=c26:=by
 have af:=ob.mp au;have ak:=g4.mp af.1;have a6:m_ m x p=01:=by have:=af.2;unfold uU at this;rw[hG,hG]at this;exact this.1.1
 have bH:=OT a6 03;rw[A27 bH];unfold fJ;rw[cn,cn,eS,fV,fV];lia
structure mR(q eU:d3):04 where
 lv:∀(i:Nat)(l:Nat),q.levels[i]?=some l→eU.levels[i]?=some l
 eh:∀(i:Nat)(x:06),q.words[i]?=43→eU.words[i]?=43
theorem mR.refl(q:d3):mR q q:=⟨a25,a25⟩
theorem mR.trans{a b c:d3}(x:mR a b)(y:mR b c):mR a c:=⟨fun i l h=>y.lv i l (x.lv i l h),fun i l h=>y.eh i l (x.eh i l h)⟩
theorem mR.note{q:d3}{x:06}{l:Nat}{o:845}:mR q (n_ q x l o):=by
 rw[A03 (fun i z h=>?_) (fun i z h=>?_)]
 ·show(q.levels++[l])[i]?=415;rw[mN (eI h)];exact h
 ·show(q.words++[x])[i]?=415;rw[mN (eI h)];exact h
theorem ZY{ws:30}{x:06}(h:x∈ws):736 (ja (mj ws) c71)=01:=by rw[←H9];rw[A86 h];refine 161 (c71,426 249) ?_ 19;unfold mj;refine 143 (x,i) ?_;refine List.mem_iff_getElem?.mpr (328 i);rw[Gk,hi];simp
theorem hP.same{R:lR}{os:08}{q:d3}(h:hP C H R os q)(e:49):hP C H' R os q:=by
 refine⟨e _ _ 674,e _ _ h.eh,e _ _ h.nm,e _ _ h.oM,h.ol,o94 ?_,e _ _ h.lv,e _ _ h.ek,h.cR,h.dS,h.iX,h.sA,h.sk,h.xe⟩;have:=h.ok i v o af ak
 cases o with|none=>rw[A10]|some o=>rw[D35];exact⟨t,aK,e _ _ aG⟩
theorem hP.has{R:lR}{os:08}{q:d3}(h:hP C H R os q)(m:c86):∃o,H b=25:=by
 rcases m with z|z|z|z|z|z<;>subst z
 ·rw[A08 674]
 ·rw[A08 h.eh]
 ·rw[A08 h.nm]
 ·rw[A08 h.oM]
 ·rw[A08 h.lv]
 ·rw[A08 h.ek]
theorem hP.fresh{R:lR}{os:08}{q:d3}(h:hP C H R os q)(n:H b=00):¬c86:=285 (by obtain⟨o,e⟩:=h.has m;rw[n]at e;cases e)
theorem jk.same{R:lR}(x:jk R H H')(s:aA eF H)(m:∀b,c86→eF b=00):480 eF:=351 (x b o (s b o e) (16 (by rw[m b z]at e;cases e)))
theorem hP.put{R:lR}{os:08}{q:d3}(h:hP C H R os q)(op dV:Bool):hP C (upd H R.a (.ins C 228 (gT 354 368 430 476 305 op dV))) R os {q with op:=op,dV:=dV}:=by
 have Pa:R.a≠368:=836 h.nm;have Ef:R.a≠354:=836 h.eh;have IX:R.a≠430:=836 h.oM;have Pb:R.a≠476:=836 h.lv;have IY:R.a≠305:=836 h.ek;refine⟨aI,41 Ef.symm h.eh,41 Pa.symm h.nm,41 IX.symm h.oM,h.ol,o94 ?_,41 Pb.symm h.lv,41 IY.symm h.ek,h.cR,h.dS,h.iX,h.sA,h.sk,h.xe⟩;have:=h.ok i v o af ak
 cases o with|none=>rw[A10]|some o=>rw[D35];exact⟨t,aK,553 aG 674 aG⟩
theorem jk.self{R:lR}{o:dz}:jk R H (Internal.upd H R.a o):=jk.upd 70
abbrev ZZ:bK:=bA 0x38
theorem Z0:31 [888,36,365,731,235,"index",313,"places",226,"given"] [888,36,365,731] ZZ:=⟨rfl,rfl,rfl,05,rfl,05,05⟩
inductive Pd(CM:ag)(CS:ag)(C:ag)(vs:08)(H:av)(Q:aW)(E:bD):04|mk:∀(R:lR)(os:08)(q:d3)(bG:ag)(sy:cv)(n len:Nat)(eF:av),vs=[.ref R.a,h03,b10,48 len]→hP C H R os q→o4 q→732=09→n<302→len≤12→dK CM CS eF bG sy→(j52 051 a87)→(∀b,c86→eF b=00)→aA eF H→(∀H' oD,hP C H' R oD (qn sy n len q)→o4 (qn sy n len q)→mR q (qn sy n len q)→480 eF→910)→Pd CM CS C vs H Q E
theorem apt(D:cq K ah o93 ZZ [888,36,365,731] f fd)(O:443)(yp:i93=00)(M:tX K C)(bJ:268)(apu:220 "MOST_FOUND" 315)(tV:Pr P w K ah 02 aO 1 h66 484 (D_ CM))(AM:Pr P w K ah 02 aO 1 l25 484 (IJ CM))(kF:Pr P w K ah 02 aO 1 b39 933 e57)(Pe:jb P w K ah 02 aO 1 C l24 [352,235,h98,f23] (IW C)):Pr P w K ah 02 aO 2 o93 [888,36,365,731] (Pd CM CS C):=by
 rw[A02 Z0]
 ·obtain⟨R,os,q,bG,sy,n,len,eF,rfl,_⟩:=h;rfl
 ·obtain⟨R,os,q,bG,sy,n,len,eF,rfl,h,g,kR,aU,hlen,⟨Ei,ls,as,aY⟩,q1,yq,s0,k⟩:=h;have S:=Z0;have bp:=D1 aq;rw[A01 (018 4 j79 (e_ eL rfl (IF K rfl rfl yp (78 358)) (tQ K rfl (n:=2) rfl (kX (98 5 rfl 70) (kX (98 6 rfl 70) tF))) (90 7 (bj tV 22 bb (77 6 4 ay)) (bX (bM oA (bj AM 22 bb (77 6 4 ay)) 85 (bO _)) (434 (557 (akr 59 (Wl (z_ oA (d6 (hO K rfl) 66 O.len eJ (384 7)) bu (bO _))))) Hl) b2) (aM (e_ eL rfl (339 (J 7)) (98 8 rfl 70) (90 9 (437 kF 6 8 4) (bX (MT (ano bp (J 9) 59)) (aM Hl) b2) (434 (bX (bM fv c91 (dq apu) (bO _)) (434 (557 l8) akA) b2) (fK (pm Pe 20 22 bb 252 (aj (J 9) (258 (eu qH j79 bu) (oC (77 2 5 (384 8))))))))))))))];obtain⟨x,ai⟩:∃x,q.words[n]?=43:=126 aU;obtain⟨lv,w4⟩:∃lv,q.levels[n]?=some lv:=126 (by rw[g.dp];exact aU);have ex:q.words.getD n []=x:=by rw[cZ,ai];rfl
  have c4:q.levels.getD n 0=lv:=by rw[cZ,w4];rfl
  have Pf:708:=g.I1 x (cG ai);have apv:∀{ws:30},ws[n]?=43→(h_ ws)[n]?=494:=100 (by rw[h_,cK,e];rfl);unfold qn at k;rw[ex,c4]at k;have Z1:=aY;refine⟨_,rfl,R.a,C,228,_,_,rfl,674,20,d22,AS,_,rfl,354,751,_,460,rfl,rfl,32 h.eh,fm (apv ai),?_⟩;refine⟨_,rfl,bG,CS,Ei,_,_,rfl,s0 _ _ 84,80,472,kE,ls,_,rfl,32 (s0 _ _ 301),I0 (K:=K) (a:=ls) (xs:=317) (505 (∃(ew v6 fM ia pW:93)(oD:08),σ=[a72,a95,610,71 len,494,ew,v6,fM,ia,pW]∧hP C H' R oD ((d44).foldl (gz n len lv x) q)∧o4 ((d44).foldl (gz n len lv x) q)∧mR q ((d44).foldl (gz n len lv x) q)∧((d44).foldl (gz n len lv x) q).dV=09∧480 eF)) ⟨00,00,00,00,00,os,rfl,h,g,mR.refl q,kR,s0⟩ (fun i σ H'⟨_,_,_,_,_,_,_,_,_,_,_,s1⟩=>32 (s1 _ _ 301)) ?_ ?_⟩
  ·rintro i y T σ H' aC bR⟨ew,v6,fM,ia,pW,vZ,rfl,af,g1,yr,yt,s1⟩;rw[B11 (325=360∧y=281) (by
    rw[A58]
    cases e:325 with|none=>rw[A30];cases aC|some b=>rw[A30];rw[A76 b aC])];have hi:i<098:=f67 aa;rw[B14 (g19=794) hi];have I2:r03 i=some 660:=r02;rw[B21 (aY.cw i b m aa hm)];obtain⟨oN,pX⟩:=q1 m a75;rw[AX _ _ I2];generalize pY:(d44).foldl (gz n len lv x) q=bg at af g1 yr yt⊢;have b0:∀H' oD,bg.dV=09→hP C H' R oD (gz n len lv x bg 660)→o4 (gz n len lv x bg 660)→mR q (gz n len lv x bg 660)→(gz n len lv x bg 660).dV=01→480 eF→910:=by
    intro H' oD _ aK aG cp ej nv;have:r13 (gz n len lv x) q=gz n len lv x bg 660:=by have e:o85=l18 (i+1)++sy.moves.zipIdx.drop (i+1):=162 _ _;rw[e,sZ,AX _ _ I2,pY];exact ZX ej _
    rw[this]at k;exact k H' oD aK aG cp nv
   have s2:aA eF (388 H' T [309,281]):=808 (422 bR);refine⟨T,_,rfl,e34,rfl,_,_,rfl,_,_,rfl,rfl,?_⟩;refine⟨_,rfl,_,rfl,b,x,m,rfl,948 (106 g_),478 Pf,oN,263⟩;generalize pR:322 (388 H' T [309,281]) p 375=a5;have Ej:aA (388 H' T [309,281]) a5:=by rw[←pR];exact 116
   have s3:aA eF a5:=b50 Ej;have a6:hP C a5 R vZ bg:=af.same (35 (422 bR) Ej);have sE:a5 p=259 375:=by rw[←pR];exact aI
   have np:¬R.sz p:=(af.same (422 bR)).fresh au;refine⟨_,rfl,_,rfl,b,x,m,rfl,948 (83 g_),Pf,oN,pX,_,rfl,_,_,rfl,rfl,_,rfl,eb e67 e67⟩
   ·have oy:=m09;have sF:gz n len lv x bg 660={bg with op:=bg.op||c27 0 m x}:=by unfold gz;rw[23 r12,21 oy]
    have fin:hP C (upd a5 R.a (.ins C 228 (gT 354 368 430 476 305 (bg.op||c27 0 m x) bg.dV))) R vZ (gz n len lv x bg 660):=o96 (a6.put _ _);have Ek:∃(El Pg Ph u8 Pj:93)(oD:08),([a72,a95,610,71 len,494,some 309,46 b,444,ia,pW]:bq)=[a72,a95,610,71 len,494,El,Pg,Ph,u8,Pj]∧hP C (upd a5 R.a (.ins C 228 (gT 354 368 430 476 305 (bg.op||c27 0 m x) bg.dV))) R oD (gz n len lv x bg 660)∧o4 (gz n len lv x bg 660)∧mR q (gz n len lv x bg 660)∧(gz n len lv x bg 660).dV=09∧aA eF (upd a5 R.a (.ins C 228 (gT 354 368 430 476 305 (bg.op||c27 0 m x) bg.dV))):=⟨_,_,_,ia,pW,vZ,rfl,fin,o96 ⟨g1.ol,g1.dp,g1.wl,g1.cl,g1.lt,g1.I1⟩,o96 ⟨yr.lv,yr.eh⟩,by rw[sF];exact yt,m63 s3⟩;refine⟨_,rfl,R.a,C,228,_,_,rfl,h97,20,M.yn,O7,_,rfl,eo g93 g93⟩
    ·refine⟨_,rfl,R.a,C,228,_,rfl,h97,20,M.yn,IU,?_⟩;rw[O9];rw[a8,VG]at Ek;exact Ek
    ·refine⟨_,rfl,p,_,rfl,306 sE,_,_,rfl,rfl,_,rfl,R.a,C,228,_,rfl,h97,20,M.yn,IU,?_⟩;rw[O9];rw[a8,Cu]at Ek;have e:29 (413<320 (a_ 375))=c27 0 m x:=by
      rw[hn];by_cases z:0<11 (eR m x)
      ·rw[139,145]
      ·rw[113 z,133]
     rw[←e]at Ek;exact Ek
   ·have oy:¬(15 len<c26):=16 (ar 139);have sF:gz n len lv x bg 660=(375).foldl (ij n i lv m x) bg:=by unfold gz;rw[23 r12,23 oy]
    rw[sF]at b0⊢;refine⟨_,rfl,p,rfl,223 sE,hN (K:=K) (a:=p) (xs:=a_ 375) (f16 (∃(ia pW:93)(oD:08),σ=[a72,a95,610,71 len,494,some 309,46 b,444,ia,pW]∧hP C H' R oD ((528 375).foldl (ij n i lv m x) bg)∧o4 ((528 375).foldl (ij n i lv m x) bg)∧mR q ((528 375).foldl (ij n i lv m x) bg)∧((528 375).foldl (ij n i lv m x) bg).dV=09∧480 eF∧416=259 375)) ⟨ia,pW,vZ,rfl,a6,g1,yr,yt,s3,sE⟩ (fun j σ H' _⟨_,_,_,_,_,_,_,_,_,e⟩=>32 e) ?_ ?_⟩
    ·rintro j y σ bP bS⟨u8,Pj,yu,rfl,bH,ey,q2,tZ,s4,t2⟩;obtain⟨pl,eH,rfl⟩:=vY bS;rw[AX _ _ eH];generalize I3:(528 375).foldl (ij n i lv m x) bg=fz at bH ey q2 tZ⊢;obtain⟨Em,En⟩:=Pc (cG eH);have I4:156 955:=03;refine⟨_,rfl,_,rfl,_,rfl,b,x,m,pl,rfl,948 (103 g_),478 Pf,oN,pX,Em,?_⟩;refine⟨_,rfl,_,rfl,R.a,C,228,_,_,rfl,h99,20,M.Ec,IT,368,_,rfl,qW.k (k:=a36 955) bH.nm,_,rfl,eo k19 k19⟩
     ·have fB:955∈fz.words:=by refine nk 522;rw[O_ z]at fc;cases fc
      have Eo:ij n i lv m x fz pl=fz:=by unfold ij;rw[205,21 fB]
      rw[Eo];exact⟨_,_,yu,rfl,bH,ey,q2,tZ,s4,t2⟩
     ·have fB:¬955∈fz.words:=16 (by rw[ZY z]at fc;cases fc);have Z2:11 (h_ fz.words)=o95:=l21;refine⟨_,rfl,R.a,C,228,_,_,rfl,h99,20,d22,AS,354,_,rfl,306 bH.eh,rfl,_,rfl,eb (fun I5=>?_) (fun I5=>?_)⟩
      ·have Pk:o95=315:=by have e:=121 I5;injection e with e;rw[Z2]at e;lia
       have Eo:ij n i lv m x fz pl=r11:=by unfold ij;rw[205,23 fB,21 Pk]
       refine⟨_,rfl,R.a,C,228,_,rfl,h99,20,M.Ed,IU,?_⟩;rw[apl];have apw:(375).foldl (ij n i lv m x) bg=r11:=by have e:375=221 375 (j+1)++473 375 (j+1):=162 _ _;rw[e,sZ,AX _ _ eH,I3,Eo];exact ZW rfl _
       rw[apw]at b0;exact b0 _ yu yt (bH.put _ _) ⟨ey.ol,ey.dp,ey.wl,ey.cl,ey.lt,ey.I1⟩ ⟨q2.lv,q2.eh⟩ rfl (m63 s4)
      ·have Pk:¬o95=315:=16 (I5 (102 (by rw[Z2,z];rfl)));have Eo:ij n i lv m x fz pl=n_ fz 955 (lv+1) (some (n,i,pl)):=by unfold ij;rw[205,23 fB,23 Pk]
       have Z3:fz.levels[n]?=some lv:=q2.lv n lv w4;have Z4:=ey.lt lv (cG Z3);have Ep:=ey.wl;have af:=ey.ol;have ak:=ey.dp;have fX:=ey.cl;rw[Eo];refine⟨_,rfl,R.a,228,_,rfl,h99,ZF,_,rfl,_,rfl,R.a,C,228,_,_,rfl,h99,20,M.levels,ZE,_,rfl,476,a_ fz.levels,_,48 lv,rfl,rfl,32 bH.lv,fm (by rw[a_,cK,Z3];rfl),_,_,rfl,rfl,_,rfl,_,rfl,_,rfl,895 3,698⟩;refine⟨R,yu,fz,955,lv+1,784,some (n,i,pl),rfl,bH.same n19,⟨t,rfl,aI⟩,fB,03,03,03,03,03,fun de iT aaa=>?_⟩;refine⟨_,_,_,rfl,iT,ey.note 03 03 I4,q2.trans mR.note,tZ,aaa.same (k28 n19) yq,aaa p _ (335 t2 bk t2) np⟩
    ·rintro σ bP⟨u8,Pj,yu,rfl,bH,ey,q2,tZ,s4,t2⟩;rw[hn,eK]at bH ey q2 tZ;exact⟨_,_,_,_,_,yu,rfl,bH,ey,q2,tZ,s4⟩
  ·rintro σ H'⟨ew,v6,fM,ia,pW,vZ,rfl,af,g1,yr,yt,s1⟩;have e:(l18 g16)=o85:=r01 (si ?_) 64;rw[e]at af g1 yr;exact k H' vZ af g1 yr s1
theorem AY{l:ag}{o u v:dz}(au:H p=25)(ax:H l=00):(761 l u p v) p=54∧(761 l u p v) l=56∧gZ p H (761 l u p v)∧l≠p:=by have n:l≠p:=16 (by rw[z,au]at ax;cases ax);refine⟨aI,862 n,fun b w e nb=>?_,n⟩;rw[aE nb,117 ax];exact e
abbrev aab:bK:=343 0x36 0
theorem apx:31 251 251 aab:=⟨rfl,rfl,rfl,05,rfl,05,05⟩
inductive Pl(C:ag)(vs:08)(H:av)(Q:aW)(E:bD):04|mk:∀(p dx:ag),vs=718→H p=c80→(∀(H':av)(R:lR),R.a=p→228=dx→hP C H' R [] o6→(∀b,c86→b≠p→H b=00)→802 p→910)→Pl C vs H Q E
theorem apy(F:hC K 421 "Search.__init__" aab f fd)(M:tX K C):eP P w K ah 02 aO 1 f fd 251 (Pl C):=by
 rw[A36 apx]
 ·rw[D12];rfl
 ·rw[D11];rw[A01 (a59 (557 556) anv (a59 (557 556) 556 (a59 (557 556) l8 (aM (557 l8)))))];rw[A33 (fun lw Pm=>⟨_,rfl,p,C,dx,_,rfl,335 au Pm au,20,d22,298 0,?_⟩)];obtain⟨fW,mG,b9,cR⟩:=g20 [] (799 (238 574 lw [])) au Pm;generalize 264 (34 H lw []) p C (238 574 lw [])=H1 at fW mG b9⊢;refine fun b1 sj=>⟨_,rfl,p,C,dx,_,rfl,335 fW sj fW,20,M.Ec,960,?_⟩;obtain⟨fD,rM,dj,dS⟩:=AY (u:=.e0 []) (v:=799 (238 381 b1 (238 574 lw []))) fW sj;generalize 264 (upd H1 b1 (.e0 [])) p C (238 381 b1 (238 574 lw []))=aB at fD rM dj⊢;rw[A33 (fun lo qZ=>⟨_,rfl,p,C,dx,_,rfl,335 fD qZ fD,20,k65,298 2,?_⟩)];obtain⟨pZ,mH,fo,iX⟩:=g20 [] (799 (238 099 lo (238 381 b1 (238 574 lw [])))) fD qZ;generalize 264 (34 aB lo []) p C (238 099 lo (238 381 b1 (238 574 lw [])))=a5 at pZ mH fo⊢;rw[A33 (fun dp v3=>⟨_,rfl,p,C,dx,_,rfl,335 pZ v3 pZ,20,M.levels,298 3,?_⟩)];obtain⟨mS,Ac,p0,sA⟩:=g20 [] (799 (g35 dp (238 099 lo (238 381 b1 (238 574 lw []))))) pZ v3;generalize 264 (34 a5 dp []) p C (g35 dp (238 099 lo (238 381 b1 (238 574 lw []))))=bP at mS Ac p0⊢;rw[A33 (fun lc AZ=>⟨_,rfl,p,C,dx,_,rfl,335 mS AZ mS,20,M.AU,298 4,?_⟩)];obtain⟨I6,Ar,p1,sk⟩:=g20 [] (799 (238 f49 lc (g35 dp (238 099 lo (238 381 b1 (238 574 lw [])))))) mS AZ;generalize 264 (34 bP lc []) p C (238 f49 lc (g35 dp (238 099 lo (238 381 b1 (238 574 lw [])))))=de at I6 Ar p1⊢;refine⟨_,rfl,p,C,dx,_,rfl,I6,20,M.yn,298 5,?_⟩;refine⟨_,rfl,p,C,dx,_,rfl,aI,20,M.Ed,298 6,?_⟩;rw[gp];have bg:=p1 lw _ (p0 lw _ (fo lw _ (dj lw _ mG cR) cR) cR) cR;have cf:=p1 b1 _ (p0 b1 _ (fo b1 _ rM dS) dS) dS;have eC:=p1 lo _ (p0 lo _ mH iX) iX;have fz:=p1 dp _ Ac sA;have apz:gZ p H de:=547 (35 830 fo) p0 p1;have fr:∀{H':av}{b:ag},802 p→244=00→b≠p→H b=00:=fun{H' b:_}x e n=>by cases q:H b with|none=>rfl|some o=>rw[x b o q n]at e;cases e
  refine k _ ⟨p,dx,lw,b1,lo,dp,lc⟩ rfl rfl ⟨aI,41 cR bg,41 dS cf,41 iX eC,rfl,o94 (by simp at af),41 sA fz,41 sk Ar,?_,?_,?_,?_,?_,?_⟩ ?_ (apz.trans gZ.upd)
  ·exact bT (dj lw _ mG cR) qZ
  ·exact bT (fo lw _ (dj lw _ mG cR) cR) v3
  ·exact bT (p0 lw _ (fo lw _ (dj lw _ mG cR) cR) cR) AZ
  ·exact bT mH v3
  ·exact bT (p0 lo _ mH iX) AZ
  ·exact bT Ac AZ
  ·rintro b(z|z|z|z|z|z)nb
   ·exact 69 z nb
   ·subst z;exact Pm
   ·subst z;exact fr b9 sj nb
   ·subst z;exact fr 830 qZ nb
   ·subst z;exact fr (35 830 fo) v3 nb
   ·subst z;exact fr (547 830 fo p0) AZ nb
abbrev aac:bK:=343 0x36 2
theorem apA:31 251 251 aac:=⟨rfl,rfl,rfl,05,rfl,05,05⟩
inductive Pn(C:ag)(vs:08)(H:av)(Q:aW)(E:bD):04|mk:∀(R:lR)(os:08)(q:d3),vs=[.ref R.a]→hP C H R os q→446 (! q.op&&! 732)→Pn C vs H Q E
theorem apB(F:hC K o00 "Search.is_closed" aac f fd)(M:tX K C):eP P w K ah 02 aO 1 f fd 251 (Pn C):=by
 rw[A36 apA]
 ·obtain⟨R,os,q,rfl,_⟩:=h;rfl
 ·obtain⟨R,os,q,rfl,h,k⟩:=h;rw[A01 (65 (akq (Wn 59) (Wl (Wn 59))))];refine⟨_,rfl,R.a,C,228,_,_,rfl,674,20,M.yn,O7,_,rfl,_,rfl,eo (fun a8=>⟨_,rfl,R.a,C,228,_,_,rfl,674,20,M.Ed,O8,_,rfl,?_⟩) g93⟩
  ·rw[a8,w3]at k;exact k
  ·rw[a8,zu]at k;exact k
theorem apC:o4 o6:=⟨rfl,rfl,14,14,j31,j31⟩
theorem apD{x:ag}(cz:H x=00)(az:H dx=00)(b:gZ x (264 (upd H dx 641) x C []) H'):49:=k57 (b c o (j06 (117 cz) az) (bT e cz))
abbrev aad:bK:=bA 0x37
theorem aae:31 [36,731,888,365] 433 aad:=⟨rfl,rfl,rfl,05,rfl,05,05⟩
inductive I7(CM:ag)(CS:ag)(C:ag)(vs:08)(H:av)(Q:aW)(E:bD):04|mk:∀(bG:ag)(sy:cv)(len:Nat)(x:06),vs=[h03,48 len]→dK CM CS H bG sy→034→708→len≤12→(j52 051 a87)→(∀H' R os,hP C H' R os (kj sy len x)→o4 (kj sy len x)→49→435 R.a)→I7 CM CS C vs H Q E
theorem apE(D:cq K ah k63 aad 433 f fd)(O:443)(M:tX K C)(bJ:268)(apF:mf P w K ah 02 aO 1 C "Search" 251 (Pl C))(Pe:jb P w K ah 02 aO 1 C l24 [352,235,h98,f23] (IW C))(Po:Pr P w K ah 02 aO 2 o93 [888,36,365,731] (Pd CM CS C)):Pr P w K ah 02 aO 3 k63 433 (I7 CM CS C):=by
 rw[A02 aae]
 ·obtain⟨bG,sy,len,x,rfl,_⟩:=h;rfl
 ·obtain⟨bG,sy,len,x,rfl,cg,gq,ai,hlen,q1,k⟩:=h;have S:=aae;rw[A01 (90 2 (Y5 apF 22 bb) (bX (bM oA 017 62 (bO _)) (239 (fS 45 l8 rfl) 45) b2) (aF (fK (pm Pe 20 22 bb 45 (aj 59 (258 bu et)))) (aF (94 3 bu) (239 (tG eL (vu (bM ka (J 3) (d6 (hO K rfl) 66 O.len eJ (78 646)) (bO _)) (xM (g91 646))).pt (434 (fK (bj Po 22 bb (77 2 0 (462 3 1)))) (Di (i:=3) 242 rfl 70 bu z2))) 45))))];refine fun p dx np az aBg=>⟨p,dx,rfl,aI,fun H1 R apG r8 af hf b9=>119 ?_⟩;subst apG r8;have s1:c78:=apD np az b9;have yq:∀b,c86→H b=00:=350 (by
   rw[A06 b R.a]
   ·rw[e];exact np
   ·have:=hf b aa e;rw[A73 (aE e)];by_cases aG:b=228
    ·rw[aG];exact az
    ·rw[A73 (aE aG)];rw[A10]);obtain⟨Ei,ls,as,aY⟩:=cg;have I8:273 (nH sy ls) 984=494:=by rw[tT,gq];rfl
  refine⟨_,rfl,bG,CS,Ei,_,_,rfl,s1 _ _ 84,80,880,I8,_,rfl,a12 ai,_,rfl,_,_,rfl,rfl,_,rfl,eb e67 e67⟩
  ·have oy:15 len<320 714:=m09;rw[dB]at oy;have Pp:kj sy len x=r09:=by unfold kj;rw[118]
   refine⟨_,rfl,R.a,C,228,_,rfl,b32,20,M.yn,IU,_,rfl,?_⟩;rw[O9];rw[Pp]at k;exact k _ R [] (af.put 01 09) ⟨rfl,rfl,14,14,j31,j31⟩ (m63 s1)
  ·have oy:¬15 len<320 714:=16 (ar 139);rw[dB]at oy;have Pp:kj sy len x=nf sy len 745 0 (n_ o6 x 0 00):=by unfold kj;rw[124]
   rw[Pp]at k;refine⟨_,rfl,R.a,228,_,rfl,b32,ZF,_,rfl,bG,CS,Ei,_,_,rfl,s1 _ _ 84,80,880,I8,R,[],o6,x,0,.b4,00,rfl,af,rfl,(b53),229,14,14,14,14,fun aB ak apH=>?_⟩;have s2:aA H aB:=apH.same s1 yq;have g2:o4 (n_ o6 x 0 00):=apC.note 14 229 ai;have dj:(n_ o6 x 0 00).dV=09:=rfl;generalize lP:n_ o6 x 0 00=cf at ak g2 dj k;refine M7 (o79 (∃(n:Nat)(q:d3)(os:08),σ=[a95,71 len,a72,610]∧hP C H' R os q∧o4 q∧49∧n≤302∧nf sy len (745-n) n q=nf sy len 745 0 cf)) (fun σ _=>match σ with|[_,_,_,some (.int n)]=>745-f31|_=>0) ⟨0,cf,_,rfl,ak,g2,s2,229,rfl⟩ ?_ ?_
   ·rintro σ a5⟨n,q,os,rfl,a6,g3,s3,aBh,cp⟩;have wl:11 751=302:=l21;have mH:=g3.wl;refine⟨_,rfl,_,rfl,R.a,C,228,_,_,rfl,h97,20,d22,AS,354,_,rfl,306 a6.eh,_,_,rfl,rfl,_,rfl,eo g92 g92⟩
    ·have yd:n<302:=by have:=210;rw[wl]at this;lia
     refine⟨_,rfl,R.a,C,228,_,_,rfl,h97,20,M.Ed,O8,_,rfl,?_⟩
     cases kR:q.dV with
      |true=>rw[A21 951];have eq:nf sy len (745-n) n q=q:=r08 (show 745-n=(315-n)+1 by lia) (23 o92);rw[←cp,eq]at k;exact k a5 R os a6 g3 s3
      |false=>
       refine c8 ⟨_,rfl,_,rfl,_,rfl,_,rfl,R,os,q,bG,sy,n,len,H,rfl,a6,g3,kR,yd,568,⟨Ei,ls,as,aY⟩,q1,yq,s3,fun bP yu bH ey q2 s4=>?_⟩;refine⟨_,rfl,_,_,rfl,rfl,⟨n+1,qn sy n len q,yu,?_,bH,ey,s4,?_,?_⟩,?_⟩
       ·rfl
       ·have:n<d07 (qn sy n len q):=by obtain⟨z,hz⟩:∃z,q.words[n]?=415:=126 yd;exact eI (q2.eh n z hz)
        lia
       ·rw[←cp,show 745-n=(745-(n+1))+1 by lia];conv=>rhs;unfold nf
        rw[21 ⟨yd,kR⟩]
       ·exact(88 (745-(n+1)<745-n) (apI 03 (zG n)))
    ·have yd:¬n<302:=by intro z;rw[102 (show 44<320 751 by rw[wl];lia)]at cM;cases cM
     rw[A21 951];have eq:nf sy len (745-n) n q=q:=r08 (show 745-n=(315-n)+1 by lia) (136 (yd z.1));rw[←cp,eq]at k;exact k a5 R os a6 g3 s3
   ·rintro σ a5 Zu Zv aw⟨v1,aK,v2,aG,a,apJ,Dr,bl,v,d1,jy,fA,kd,e5,pp,ys,c0,apK,i,j,hg,tW,b0,mA,yv⟩;refine⟨v1,aK,v2,aG,a,apJ,Dr,bl,v,d1,jy,fA,kd,e5,pp,ys,c0,apK,i,j,hg,tW,b0,mA,?_⟩
    cases b0 with|true=>rw[101]at yv⊢;obtain⟨fb,cp,lS,apL,Pq,apM,v4,apN,pR,iY,nI,apO,b0,l9,q⟩:=yv;exact⟨fb,cp,lS,apL,Pq,apM,v4,apN,pR,iY,nI,apO,b0,l9,aw _ _ q⟩|false=>rw[23 hB]at yv⊢;exact aw _ _ yv
def I9(X:dT)(aR:439)(t:Str→ct):04:=∀(acc:Str)(pins:224)(s:aZ)(σ:bq)(H:av)(Q:aW),24→t acc σ H Q→a9 47 X.A (joinParts acc (I_ aR 55)) 497 68 s
def apP:Str→ct:=fun acc _ H Q=>f07≤bc∧Q (.str acc) H
def apQ(c7:ct)(l9:Str→ct):Str→ct:=fun acc σ H Q=>c7 σ H (291 (∃y,x=.str y∧069 (acc++y)∧l9 (acc++y) σ H1 Q))
inductive aaf(Q:aW)(x:ae)(H1:av):04|mk:∀z,x=931→431≤bc→Q 931 H1→aaf Q x H1
def apR(c7:ct):ct:=262 (c7 σ H (291 (aaf Q x H1)))
section
variable{a b:dn}{aR rest:439}{t:Str→ct}
theorem Pt:I9 X [] apP:=fun acc pins s σ H Q I h=>joinParts_nil ⟨.str acc,H,279,282,h.2⟩ h.1
theorem nJ(he:530)(aq:I9 X aR t)(yw:I_ (e::aR) 55=689::I_ aR 55:=by rfl):I9 X (e::aR) (apQ c7 t):=by intro acc pins s σ H Q I h;rw[yw];refine joinParts_cons (bY (he 07 s σ H _ I h) (fun u s1⟨x,H1,aX,bU,y,f6,hz,q⟩=>?_));subst f6;rw[D34];exact⟨hz,aq (acc++y) 07 s1 σ H1 Q aX q⟩
theorem Pu(h:I9 X (a::861) t)(yw:I_ (a::861) 55=405 a::405 b::I_ 67 55:=by rfl):bF X (.JoinedStr (a::861) pos) (t Dq):=by intro pins s σ H Q I aw;refine JoinedStr_many ?_;rw[←yw];exact h Dq 07 s σ H Q I aw
theorem yx(he:530):bF X (.FormattedValue e (-1) 00 pos) (apR c7):=by rw[A13];refine FormattedValue_plain (bY (he 07 s σ H _ I h) (fun u s1⟨x,H1,aX,bU,z,qt,hz,q⟩=>?_));subst qt;rw[D34];exact formatField_str (fun t' k=>⟨931,H1,aX.tok k,612 t',q⟩) hz
end
abbrev aag:bK:=bA 420
theorem apS:31 697 697 aag:=⟨rfl,rfl,rfl,05,rfl,05,05⟩
inductive Ja(vs:08)(H:av)(Q:aW)(E:bD):04|mk:∀(x:06),vs=[460]→a86 (rq x) H→Ja vs H Q E
theorem Jb:aP []=a73:=66
theorem Jc{x y:06}(h:714=aP y):x=y:=109 c5 h
theorem apT(D:cq K ah l23 aag 697 f fd):Pr P w K ah 02 aO 1 l23 697 Ja:=by
 rw[A02 apS]
 ·rw[C49];rfl
 ·obtain⟨x,rfl,k⟩:=h;rw[A01 (65 (pE (bM fv (J 0) fl (bO _)) fl 252))];refine⟨_,rfl,rfl,_,rfl,eb 356 (312 951)⟩
  ·have e:=104;rw[A89];rw[←Jb]at e;rw[rq,21 (Jc e)]at k;exact k
  ·rw[rq,136 (d35 (by rw[z,Jb]))]at k;exact k
abbrev aah:bK:=bA 0x5c
theorem aai:31 [313,"beginning","end",d16,f35] [313] aah:=⟨rfl,rfl,rfl,05,rfl,05,05⟩
inductive Pw(C:ag)(vs:08)(H:av)(Q:aW)(E:bD):04|mk:∀(a:ag)(m:g0),vs=254→oK C H a m→051→a87→a86 (iK m) H→Pw C vs H Q E
theorem t4(s:String):iA s=aP 787:=TL.AD (TL.an9 s)
theorem yy:Dq=aP []:=rfl
theorem A0(x:06)(h:708):156 (rq x):=by
 unfold rq;split
 ·simp
 ·exact h
theorem apU(D:cq K ah o91 aah [313] f fd)(M:nG K C)(yz:Pr P w K ah 02 aO 1 l23 697 Ja):Pr P w K ah 02 aO 2 o91 [313] (Pw C):=by
 rw[A02 aai]
 ·obtain⟨a,m,rfl,_⟩:=h;rfl
 ·obtain⟨a,m,rfl,⟨dx,aN⟩,ax,c1,k⟩:=h;have S:=aai;rw[A01 (90 1 (pE (348 59) fl fl) (94 2 (pE (348 59) fl fl)) (389 3 (bj yz 22 bb 010) (94 4 (bj yz 22 bb 010)) (Pu (nJ fl (nJ (yx 62) (nJ (yx 85) (nJ (yx 45) (nJ fl (nJ (yx 327) (nJ fl Pt))))))))))];have wl:=A0 m.l ax;have wr:=A0 m.r c1;rw[B25 (025 "move " 5)];have a2:025 " -> " 4:=rfl;rw[B13 896 2];have v5:025 "^" 1:=rfl;have Jd:025 "$" 1:=rfl;have aBi:025 "" 0:=rfl;refine⟨_,rfl,a,C,dx,_,_,rfl,aN,20,M.D7,IH,_,rfl,eo 486 486⟩;all_goals refine⟨_,rfl,a,C,dx,_,_,rfl,aN,20,M.D8,II,_,rfl,eo n43 n43⟩
  all_goals refine⟨_,rfl,a,C,dx,_,_,rfl,aN,20,f47,lO,_,rfl,?_⟩
  all_goals refine⟨_,rfl,a,C,dx,_,_,rfl,aN,20,l17,yg,_,rfl,?_⟩
  all_goals refine⟨_,rfl,?_,_,rfl,_,rfl,?_,_,rfl,?_,_,rfl,_,rfl,?_,_,rfl,?_,_,rfl,_,rfl,?_,_,rfl,?_,_,rfl,?_,_,rfl,_,rfl,?_,_,rfl,?_,_,rfl,?_,?_,?_⟩
  all_goals rw[B24]
  all_goals first|rw[A56]|skip
  all_goals rw[iK,aa,he]at k
  all_goals simp only[jo,HW]
  all_goals exact k
abbrev aaj:bK:=bA 0x5d
theorem aak:31 ["name",235,"shown"] j15 aaj:=⟨rfl,rfl,rfl,05,rfl,05,05⟩
def gU(ws:30):08:=ws.map (452 (516 w))
inductive Px(vs:08)(H:av)(Q:aW)(E:bD):04|mk:∀(nm:06)(o:912),vs=[76 nm,tS o]→nm.length≤12→(∀x,o=43→708)→(∀p,H p=00→838 p H p (gU (kk nm o)))→Px vs H Q E
theorem apV(D:cq K ah o90 aaj j15 f fd)(yz:Pr P w K ah 02 aO 1 l23 697 Ja):Pr P w K ah 02 aO 2 o90 j15 Px:=by
 rw[A02 aak]
 ·obtain⟨nm,o,rfl,_⟩:=h;rfl
 ·obtain⟨nm,o,rfl,aU,a8,k⟩:=h;have S:=aak;rw[A01 (517 (318 (bM jX (J 1) et (bO _)) ay) (94 2 (d37 yz 1)) (c28 (Pu (nJ (yx 252) (nJ fl (nJ (yx 45) (nJ fl Pt)))))))]
  cases o with
   |none=>refine⟨_,rfl,rfl,_,rfl,e29 ⟨229,k⟩ (e07 rfl h)⟩
   |some x=>
    have ai:=A0 x (a8 x rfl);rw[B25 (025 " " 1)];rw[B13 896 2];refine⟨_,rfl,rfl,_,rfl,359⟩
    ·have e:516 x=817:=104;cases e
    ·refine⟨_,rfl,x,rfl,?_⟩;refine⟨_,rfl,_,rfl,?_,_,rfl,?_,_,rfl,?_,_,rfl,_,rfl,?_,_,rfl,?_,_,rfl,?_,?_,371,263⟩;all_goals rw[B24]
     all_goals first|rw[A56]|skip
     have:=k p au;simp only[HW,jo];rw[A10]
theorem v7(l:30):g24 (gU l):=by rw[gU,ba]
theorem Er(a b:30):gU (a++b)=gU a++gU b:=by rw[gU,gU,gU,d5]
theorem apW(l:30):DW a73 (363 aP)=aP n91:=by refine TL.AD ?_;rw[TL.join_eq];refine 35 (TL.OB _ _) ?_;rw[gP,show c5 a73=[]by rfl,OW];show _=n91;congr 1;exact List.map_id' l
theorem apX(af:051)(ak:a87):11 (iK m)≤0x28:=by have:=A0 m.l af;have:=A0 m.r ak;rw[B25 (025 "move " 5)];have a2:025 " -> " 4:=rfl;rw[B13 896 2];unfold iK;simp only[cn];have b9:074 (39 m.b 860 []) 06≤1:=r07;have dj:074 (39 m.e 857 []) 06≤1:=r07;lia
theorem Je{nm:06}{o:912}(aU:nm.length≤12)(a8:∀x,o=43→708):11 (kk nm o)≤1∧∀x∈kk nm o,96≤0x28:=by cases o with|none=>exact⟨229,fun x h=>806⟩|some x=>have:=A0 x (a8 x rfl);rw[B25 (025 " " 1)];rw[B13 896 2];rw[A03 64 (fun y h=>?_)];rw[86 h];simp only[cn];lia
theorem apY{l:30}{k:Nat}(h:l22 (96≤k)):(m90 (363 aP)).sum≤k*63:=by induction l with|nil=>simp|cons a r ih=>rw[eN,eN,w6,dR,dB];have af:=h a 999;have ak:=ih (276 (h x (005 ai)));rw[aal];lia
theorem aam(g:269):11 (zj sy)≤0xb∧∀x∈zj sy,96≤0x28:=by
 have af:=g.wQ;have ak:=g.jm;obtain⟨eY,hx⟩:=i53 d43 g.st;obtain⟨dW,ip⟩:=i53 006 g.gl;rw[B25 (11 548=8)];rw[B13 896 2];unfold zj;rw[A03 ?_ 333]
 ·simp only[cn,ba,amc];lia
 ·rw[B58 (362 ai)]
  ·rw[B58 (362 ai)]
   ·rw[B58 (362 ai)]
    ·rw[86 ai];simp only[cn];lia
    ·obtain⟨m,hm,rfl⟩:=171;exact apX (g.cw m hm).1 (g.cw m hm).2
   ·exact hx x ai
  ·exact ip x ai
abbrev Py:bK:=bA 0x5b
theorem aan:488 [36,304,"lines",313] Py:=⟨rfl,rfl,rfl,05,rfl,05,05⟩
inductive Pz(CM:ag)(CS:ag)(vs:08)(H:av)(Q:aW)(E:bD):04|mk:749 (vs=254) (267→269→(842 (a86 (uV sy) H'))→Pz CM CS vs H Q E)
theorem apZ(D:cq K ah o89 Py 50 f fd)(bJ:268)(PA:Pr P w K ah 02 aO 2 o91 [313] (Pw CM))(Jf:Pr P w K ah 02 aO 2 o90 j15 Px):Pr P w K ah 02 aO 3 o89 50 (Pz CM CS):=by
 rw[A02 aan]
 ·rw[A59];rfl
 ·rw[C27];have S:=aan;rw[A01 (90 1 59 (bX (bM fv (J 1) fl (bO _)) (65 fl) b2) (90 2 (c28 (Pu (nJ fl (nJ (yx 62) (nJ fl Pt))))) (fK (hD K rfl h9 nK nL nE 45 (78 (k9 rfl 242 (339 59) (own:=[(313,3)]) (295 [36,304,"lines",313] Py) 927 369 (286 (d37 PA 3)))))) (517 (fK (hD K rfl h9 nK nL nE 45 (78 (a58 Jf fl 59)))) (fK (hD K rfl h9 nK nL nE 45 (78 (a58 Jf fl 59)))) (OP K rfl fl 45))))];refine⟨_,rfl,a,CS,dx,_,_,rfl,84,80,727,mg,?_⟩;refine⟨_,rfl,rfl,_,rfl,359⟩
  ·have e:=104;rw[A89];rw[←Jb]at e;rw[uV,21 (Jc e)]at k;exact k H 518
  ·have d9:¬75=[]:=152 (by rw[z,Jb]);rw[uV,23 d9]at k;rw[B25 (11 548=8)];rw[B13 896 2];rw[A41];have aK:Dq++iA "letters "++aP 75++iA ";\n"=aP (548++717):=by simp only[t4,yy,q0,HW,jo]
   refine⟨_,rfl,?_,_,rfl,_,rfl,?_,_,rfl,?_,_,rfl,?_,?_,371,458⟩
   ·rw[B24];rw[A56]
   ·simp only[dB];rw[A56]
   ·rw[B24];rw[A56]
   ·rw[B24];rw[A56]
   ·rw[B24];rw[A56]
   rw[aK];have hE:∀{dM:av}{o:dz},786→aA H (upd dM q o):=fun{dM o:_}e b u z=>364 (110 z aw) (e b u z);have s1:aA H (34 H q [76 (548++717)]):=hE 518;have bg:(34 H q [76 (548++717)]) q=247 (gU [548++717]):=aI;generalize 34 H q [76 (548++717)]=H1 at s1 bg⊢;refine⟨_,rfl,329 bg,_,rfl,a,CS,dx,_,_,rfl,s1 _ _ 84,80,472,kE,ls,rfl,223 (s1 _ _ 301),436⟩;have yA:∀o,aA H1 (upd H1 D o):=737 833;refine kC (K:=K) (a:=ls) (xs:=317) (885 (H'=34 H1 D (gU (442 584)))) rfl (i69 (yA _ _ _ (s1 _ _ 301))) ?_ ?_
   ·rw[B83];rw[B11 (325=360∧y=281) (by
     rw[cK]at hi
     cases e:325 with|none=>rw[e]at hi;cases hi|some b=>rw[e]at hi;rw[A76 b hi])];have qr:i<098:=f67 aa;rw[B14 (g19=794) qr];rw[B21 (aY.cw i b m aa hm)];rw[B66 m a75];refine⟨rfl,_,rfl,b,m,rfl,948 (yA _ _ _ (s1 _ _ g_)),oN,pX,_,aI,?_,?_⟩
    ·rw[v7,eS,ba];rw[A14 (show 255 by have:=g.wQ;lia)]
    ·have e:(sy.moves.map iK)[i]?=some (iK m):=by rw[cK,hm];rfl
     rw[gp,dZ e,Er];rfl
   ·rw[B05];have ap0:221 584 g16=584:=o43 (si 19);rw[ap0];have cf:=yA (.lst (gU 584)) _ _ bg;obtain⟨eY,hx⟩:=i53 d43 g.st;obtain⟨dW,ip⟩:=i53 006 g.gl;have vg:=g.wQ;refine⟨q,D,_,_,rfl,rfl,cf,aI,?_,?_⟩
    ·rw[v7,v7,ba];exact 826
    rw[←Er];have s3:aA H (34 (34 H1 D (gU 584)) q (gU ([548++717]++584))):=hE (808 (yA _));have eC:(34 (34 H1 D (gU 584)) q (gU ([548++717]++584))) q=_:=aI;generalize 34 (34 H1 D (gU 584)) q (gU ([548++717]++584))=a5 at s3 eC⊢;refine⟨_,rfl,329 eC,_,rfl,a,CS,dx,_,_,rfl,83 84,80,880,tT,d43,d12,r06,14,g.st,263⟩;have fz:334 a5 p (gU 021) q=_:=335 eC au eC;refine⟨q,p,_,_,rfl,rfl,fz,aI,?_,?_⟩
    ·rw[v7,v7,cn,ba];exact 826
    rw[←Er];have s5:=hE (o:=.lst (gU ([548++717]++584++021))) (c98 (293 (gU 021) au));have qF:(34 (34 a5 p (gU 021)) q (gU ([548++717]++584++021))) q=_:=aI;generalize 34 (34 a5 p (gU 021)) q (gU ([548++717]++584++021))=de at s5 qF⊢;refine⟨_,rfl,329 qF,_,rfl,a,CS,dx,_,_,rfl,s5 _ _ 84,80,969,tU,006,673,r06,14,g.gl,fun fD l1=>?_⟩;have rZ:334 de fD (gU (kk 006 673)) q=_:=335 qF l1 qF;refine⟨q,fD,_,_,rfl,rfl,rZ,aI,?_,?_⟩
    ·rw[v7,v7,cn,cn,ba];exact 826
    rw[←Er];have e1:=hE (o:=.lst (gU ([548++717]++584++021++kk 006 673))) (s5.trans (293 (gU (kk 006 673)) l1));rw[B04 (aam g)];refine⟨282,_,rfl,_,q,(zj sy).map aP,rfl,rfl,306 (by rw[aI,gP];rfl),?_,?_⟩
    ·have:=apY dS;rw[ba,show 11 a73=0 by rfl];lia
    ·rw[apW];exact k _ e1
def gx(H:av)(Q:aW)(l:10):04:=c57 (H p=00→416=79 l→412)
theorem sG(x:06):a_ x=e91 x:=by rw[a_,aT,b6,gP];rfl
theorem nM(x:06):11 (b6 x)=96:=by rw[b6,ba]
theorem A1(l:10):g24 (aT l):=by rw[aT,ba]
theorem Jg(a b:10):aT a++aT b=aT (a++b):=r05
theorem ap1(g:269):11 (uV sy)≤0x1b8:=by
 unfold uV;split
 ·simp
 ·rw[B04 (aam g)];have:∀l:30,645 (96≤0x28)→n92≤0x28*63:=by
   intro l
   induction l with|nil=>intro _;simp|cons a r ih=>intro h;rw[qs,cn,dR,aal];have af:=h a 999;have ak:=ih (276 (h x (005 ai)));lia
  have:=this _ dS;lia
abbrev aao:bK:=bA 0x7f
theorem ap2:488 50 aao:=⟨rfl,rfl,rfl,05,rfl,05,05⟩
inductive PB(CM:ag)(CS:ag)(vs:08)(H:av)(Q:aW)(E:bD):04|mk:749 (vs=254) (267→269→gx H Q (0::b6 (uV sy))→PB CM CS vs H Q E)
theorem ap3(D:cq K ah o08 aao 50 f fd)(pV:Pr P w K ah 02 aO 1 f48 841 AL)(PC:Pr P w K ah 02 aO 3 o89 50 (Pz CM CS)):Pr P w K ah 02 aO 4 o08 50 (PB CM CS):=by
 rw[A02 ap2]
 ·rw[A59];rfl
 ·rw[C34];have ax:=ap1 g;rw[A01 (65 (eu pO e21 (e27 pV (340 PC))))];rw[A03 371 263];have s1:aA H (34 H p [372]):=116;refine⟨_,rfl,a,sy,rfl,aY.same s1,g,h57 ⟨_,rfl,i30,458⟩⟩;have l1:=s2 p _ (k52 (334 H p [372] p=_));refine⟨p,q,_,_,rfl,rfl,335 l1 aw l1,aI,?_,849⟩
  ·rw[hn];exact 826
  ·refine k _ r (d39 (35 (422 aw) i42)) ((d39 (422 aw)).free c1) ?_;rw[aI,sG];rfl
abbrev aap:bK:=bA 0x82
theorem ap4:31 697 697 aap:=⟨rfl,rfl,rfl,05,rfl,05,05⟩
inductive Es(vs:08)(H:av)(Q:aW)(E:bD):04|mk:∀(x:06),vs=[460]→e03→(c57 (H p=00→416=79 (kl x)→412))→Es vs H Q E
theorem ap5(D:cq K ah h60 aap 697 f fd)(O:443)(pV:Pr P w K ah 02 aO 1 f48 841 AL):Pr P w K ah 02 aO 2 h60 697 Es:=by
 rw[A02 ap4]
 ·rw[C49];rfl
 ·rw[D33];rw[A01 (65 (eu pO (c28 (d6 jY 66 O.len eJ 029)) (340 pV)))];refine⟨_,rfl,_,rfl,h96 i30,371,367 ⟨_,rfl,x,rfl,i30,458⟩⟩;refine⟨p,q,_,_,rfl,rfl,335 aI aw aI,aI,?_,849⟩
  ·rw[hn];exact 826
  ·have s1:=(293 [j50 714] au);have s2:=(593 x aw);refine k _ r g42 g70 ?_;rw[aI,sG,dB];rfl
abbrev aaq:bK:=bA 0x83
theorem ap6:31 433 433 aaq:=⟨rfl,rfl,rfl,05,rfl,05,05⟩
inductive Jh(CM:ag)(CS:ag)(vs:08)(H:av)(Q:aW)(E:bD):04|mk:i64 (vs=349 489) (267→662 954→Jh CM CS vs H Q E)
theorem ap7(D:cq K ah k64 aaq 433 f fd)(bJ:268)(yi:220 i25 12)(yB:220 i24 (-7))(PD:220 o20 (-6)):Pr P w K ah 02 aO 1 k64 433 (Jh CM CS):=by
 rw[A02 ap6]
 ·rw[B75];rfl
 ·obtain⟨a,sy,z,rfl,⟨dx,ls,as,aY⟩,k⟩:=h;rw[A01 (517 (bX (rW (bM ka (J 1) bu (bO _)) (rV (bM oA (J 1) (dq yi) (bO _)))).pt (65 (dq yB)) b2) (bX (bM jX 59 et (bO _)) (65 (dq PD)) b2) bu)];have later:¬(z<0∨12<z)→Hk (Ws (WT (r3 (o88 (y=817∧Q (d89 x 817) H)) (xY K (iW 0) (iA 984)) (qC 817))) (Dd (qC (426 (-6)))) Wq) (Dd (qC (426 0))) (o87 (h95 (Q 817 H'))) (Internal.start [iA 36,iA 731] [022,426 z]) H:=by
   intro hz;rw[km,23 hz]at k;refine⟨_,rfl,a,CS,dx,_,_,rfl,84,80,880,tT,rfl,_,rfl,359⟩
   ·have e:=104;have:d12=00:=by cases aG:sy.start with|none=>rfl|some x=>rw[A67];cases e
    rw[A54 246];exact k
   ·rw[A97 (100 (d35 f34))];exact k
  refine⟨_,rfl,_,_,rfl,rfl,_,rfl,359⟩
  ·rw[km,21 (aV 104)]at k;exact c8 k
  ·refine⟨_,rfl,_,_,rfl,rfl,_,rfl,eb 642 642⟩
   ·rw[km,21 (en d45)]at k;exact k
   ·exact later (j51 (152 z) (16 (ak 139)))
abbrev aar:bK:=bA 0x84
theorem aas:31 [36,731,f14,726,"outcome"] 433 aar:=⟨rfl,rfl,rfl,05,rfl,05,05⟩
inductive PE(CM:ag)(CS:ag)(vs:08)(H:av)(Q:aW)(E:bD):04|mk:i64 (vs=349 489) (267→269→gx H Q (Cd sy z)→PE CM CS vs H Q E)
theorem aat{z:Int}(h:¬954<0):∃(n:Nat)(x:06),z=44∧n≤12∧034:=by
 unfold km at h;rw[A72 (z<0∨12<z)]
 ·rw[169]at h;exact 69 14 h
 ·rw[153]at h
  cases e:sy.start with|none=>rw[155]at h;exact 69 14 h|some x=>exact⟨231,x,03,03,rfl⟩
theorem ap8(D:cq K ah 888 aar 433 f fd)(O:443)(M:tX K C)(A2:Pr P w K ah 02 aO 1 k64 433 (Jh CM CS))(A3:Pr P w K ah 02 aO 3 k63 433 (I7 CM CS C)):Pr P w K ah 02 aO 4 888 433 (PE CM CS):=by
 rw[A02 aas]
 ·rw[B75];rfl
 ·obtain⟨a,sy,z,rfl,aY,g,k⟩:=h;have S:=aas;rw[A01 (90 2 (bj A2 22 bb (77 0 1 ay)) (318 (bM ka (J 2) bu (bO _)) 699) (90 3 (bj A3 22 bb (77 0 1 ay)) (94 4 bu) (239 (bX (348 843) (aM (94 4 bu)) (aM (bX (348 843) (aM (94 4 bu)) b2))) (eu pO (cN (e36 4 (d6 (hO K rfl) 66 O.len eJ (78 843)))) 843))))];refine⟨_,rfl,_,rfl,a,sy,z,rfl,aY,_,rfl,_,_,rfl,rfl,_,rfl,359⟩
  ·have h':954<0:=104;rw[Cd,21 h']at k;exact⟨_,rfl,371,367 (k _ p 116 au aI)⟩
  ·have h':¬954<0:=952;obtain⟨n,x,rfl,aU,ai⟩:=aat h';rw[Cd,23 h',ai]at k;refine⟨_,rfl,_,rfl,a,sy,n,x,rfl,aY,ai,g.st x ai,aU,g.cw,q11 ?_⟩;have e:kj sy (n:Int).toNat ((43).getD [])=kj sy n x:=rfl;rw[e]at k;generalize kj sy n x=q at af g1 k;have wl:11 751=302:=l21;have g2:=g1.wl;have g3:=g1.cl;have k:gx H Q (sV q::m13::b6 453):=k;have fin:∀(o:Int)(aB:av),sV q=o→hP C aB R os q→aA H aB→Dd (r3 HV (HC (r9 (iW 4) (r9 (NA (HS K) (r9 (xY K (iW 3) (iA 574)) qK)) qK))) (xY K (iW 3) (iA f49))) (o87 (h95 (Q 817 H'))) [248,610,601 (km sy 44),a72,601 o] aB:=by intro o aB mA af s1;rw[mA]at k;refine⟨_,rfl,_,rfl,R.a,C,228,_,_,rfl,b32,20,d22,AS,354,_,rfl,306 af.eh,338,263⟩;rw[A77 [.int o,j50 751] au];refine⟨_,rfl,R.a,C,228,_,_,rfl,106 b32,20,M.AU,Eb,p,305,_,_,rfl,rfl,aI,106 af.ek,h38 826,849⟩;refine k _ r g42 g70 ?_;rw[aI,wl,sG];rfl
   refine⟨_,rfl,R.a,C,228,_,_,rfl,b32,20,M.Ed,O8,_,rfl,eo 486 486⟩
   ·exact fin 2 H1 (by unfold sV;rw[160]) af s1
   ·refine⟨_,rfl,R.a,C,228,_,_,rfl,b32,20,M.yn,O7,_,rfl,eo g93 g93⟩
    ·exact fin 1 H1 (by unfold sV;rw[206,21 a8]) af s1
    ·exact fin 0 H1 (by unfold sV;rw[206,23 (by rw[a8];decide)]) af s1
theorem aau{x:06}(h:nd ls cs=43):708:=by
 unfold nd at h;rw[A18]
 ·cases h
 ·rw[A18]
  ·have:b57 hT=x:=cI h;rw[←this,ba];lia
  ·cases h
abbrev aav:bK:=bA 0x80
theorem aaw:31 [36,365,226,886,235,313] j73 aav:=⟨rfl,rfl,rfl,05,rfl,05,05⟩
inductive PF(K:bo)(CM:ag)(CS:ag)(vs:08)(H:av)(Q:aW)(E:bD):04|mk:∀(a c:ag)(sy:cv)(z gM:Int)(cs:10),vs=[38,489,.int gM,655]→267→269→aJ K H c (aT cs)→gx H Q (F_ sy z gM cs)→PF K CM CS vs H Q E
theorem ap9(D:cq K ah "step" aav j73 f fd)(O:443)(bJ:268)(t5:g09 12)(aqa:220 "NO_MOVE" (-3))(ml:Pr P w K ah 02 aO 2 d04 549 (yj K CM CS))(A4:Pr P w K ah 02 aO 2 l19 484 (IP CM))(pV:Pr P w K ah 02 aO 1 f48 841 AL)(kF:Pr P w K ah 02 aO 1 b39 933 e57):Pr P w K ah 02 aO 3 "step" j73 (PF K CM CS):=by
 rw[A02 aaw]
 ·obtain⟨a,c,sy,z,gM,cs,rfl,_⟩:=h;rfl
 ·obtain⟨a,c,sy,z,gM,cs,rfl,aY,g,ar,k⟩:=h;have S:=aaw;rw[A01 (90 4 (bj ml 22 bb (77 0 3 ay)) (e35 4 t5) (aF (a49 (rW (bM ka (J 1) bu (bO _)) (rV (bM Nc (J 1) c91 (bO _)))).pt aqa) (aF (94 5 (a51 62)) (239 (318 (bM (D6 K rfl) 45 (bj A4 22 bb (77 5 4 ay)) rfl) 755) (eu pO e21 (e27 pV (437 kF 5 2 4)))))))];have one:q18 (786→dM p=00→gx H Q [v]→838 p dM p [.int v]):=q17 (b0 _ p i84 j18 aI);refine⟨_,rfl,_,rfl,a,c,sy,cs,rfl,aY,ar,478 g.jm,g90⟩;unfold F_ at k
  cases hw:nd 75 cs with
   |none=>rw[hw]at k;refine⟨_,rfl,rfl,_,rfl,e29 (387 1 (one s1 au k)) (e07 rfl h)⟩
   |some x=>
    rw[hw]at k;have k:gx H Q (13 (z<0∨f78≤z) [-3] (o86 (l20 231) [] (39 (a55 (gy m x) gM) (0::b6 m96) [1]))):=k;have ai:=aau hw;rw[D32];refine⟨_,rfl,rfl,_,rfl,j49 ?_⟩
    ·have e:516 x=817:=104;cases e
    ·refine⟨_,rfl,_,_,rfl,rfl,_,rfl,359⟩
     ·rw[A54 (aV 104)];exact h06 s1 k
     ·refine⟨_,rfl,_,rfl,a,CS,dx,_,_,rfl,s1 _ _ 84,80,472,kE,ls,_,rfl,306 (s1 _ _ 301),_,_,rfl,rfl,_,rfl,?_⟩;have aqb:¬z<0:=952;have c4:320 317=f78:=r00;refine eo 642 642
      ·have qY:f78≤z:=r04;rw[A54 (en qY)];exact 387 1 (one s1 au k)
      ·have qY:¬f78≤z:=r04;rw[A97 (58 (q.elim aqb qY))];rw[B69 (z=44) j05];have aU:n<098:=03;rw[B14 (l20 n=794) aU];obtain⟨b,aa⟩:∃b,as[n]?=360:=126 (by rw[aY.len];exact aU);rw[B21 (aY.cw n b m aa hm)];rw[B66 m a75];rw[kA,hm]at k;have k:gx H Q (39 (a55 (gy m x) gM) (0::b6 m96) [1]):=k;refine⟨_,rfl,a,CS,dx,_,_,rfl,s1 _ _ 84,80,472,kE,_,rfl,ls,317,_,281,rfl,rfl,32 (s1 _ _ 301),fm (by rw[cK,aa];rfl),?_⟩;refine⟨_,rfl,_,rfl,_,rfl,b,x,m,rfl,948 (s1 _ _ g_),ai,oN,pX,263⟩;have s2:aA H (322 H1 p (gy m x)):=828;refine⟨p,a_ (gy m x),rfl,306 aI,rfl,Ea _,_,rfl,?_⟩;rw[IM]
       cases fc:a55 (gy m x) gM with
        |false=>rw[fc]at k;exact c8 ⟨371,fun r c1=>one s2 c1 k⟩
        |true=>
         rw[fc,101]at k;obtain⟨pl,eH,e⟩:=ly.mp fc;have e:15 pl=gM:=121 e;subst e;have fB:pl∈375:=by
          unfold gy at eH;split at eH
          ·cases eH
          ·exact eH
         obtain⟨Em,En⟩:=Pc fB;have hlen:¬045<c26:=by intro q;unfold gy at eH;rw[182]at eH;cases eH
         rw[kA]at k;rw[A21 ⟨371,849⟩];rw[A87 [372] c1];refine⟨_,rfl,_,rfl,_,rfl,b,x,m,pl,rfl,948 (83 (s2 _ _ g_)),e74,oN,pX,Em,_,rfl,jB 03,698⟩;have s4:=593 955 bk;refine⟨r,t,_,_,rfl,rfl,103 aI,aI,h38 826,fun u kT=>?_⟩;refine k _ u (547 686 s4 (422 kT)) ((35 686 s4).free kT) ?_;rw[aI,sG];rfl
theorem aqc(m:g0)(x:06):11 (gy m x)≤e79:=by
 unfold gy;split
 ·simp
 ·refine 164 _ _;simp
theorem aqd{x:06}{pl:Nat}(h:pl∈gy m x):e06 pl∧156 955:=by
 unfold gy at h;rw[A18]
 ·cases h
 ·rw[A81 (Pc h)];exact⟨af,03⟩
theorem PG:∀(l:037),(∀s∈l,m36)→11 (kn l)≤0xf*63
 |[],_=>by simp[kn]
 |s::r,h=>by
  have af:=h s 999;have ak:=PG r (b35 (h z (005 hz)));have e:11 (Ce s)=3+s.2.2.length:=by show 11 (kl s.2.2)+1+1=_;rw[kl,dR,nM];lia
  have:kn (s::r)=Ce s++kn r:=rfl;rw[this,cn,e,dR,aal];lia
theorem aqe(a b:037):kn (a++b)=kn a++kn b:=by unfold kn;rw[w5]
theorem aqf(s:o7):kn [s]=Ce s:=by unfold kn;simp
theorem aax(f:α→523){l:40}{x:α}(h:115=43):671 (l.take (i+1)) f=671 648 f++f x:=by rw[dZ h,w5];simp
abbrev aay:bK:=bA 0x81
theorem aaz:31 [36,886,235,"count",f13,365,313,226] 549 aay:=⟨rfl,rfl,rfl,05,rfl,05,05⟩
inductive PH(K:bo)(CM:ag)(CS:ag)(vs:08)(H:av)(Q:aW)(E:bD):04|mk:∀(a c:ag)(sy:cv)(cs:10),vs=349 655→267→269→aJ K H c (aT cs)→gx H Q (Ga sy cs)→PH K CM CS vs H Q E
theorem aqg(D:cq K ah "steps" aay 549 f fd)(O:443)(yp:i93=00)(bJ:268)(t5:g09 12)(ml:Pr P w K ah 02 aO 2 d04 549 (yj K CM CS))(A4:Pr P w K ah 02 aO 2 l19 484 (IP CM))(t6:Pr P w K ah 02 aO 2 h60 697 Es)(kF:Pr P w K ah 02 aO 1 b39 933 e57):Pr P w K ah 02 aO 3 "steps" 549 (PH K CM CS):=by
 rw[A02 aaz]
 ·obtain⟨a,c,sy,cs,rfl,_⟩:=h;rfl
 ·obtain⟨a,c,sy,cs,rfl,aY,g,ar,k⟩:=h;have S:=aaz;rw[A01 (90 2 (bj ml 22 bb (77 0 1 ay)) (e35 2 t5) (90 3 bu (94 4 556) (239 (e_ eL rfl (IF K rfl rfl yp 010) (tQ K rfl (n:=2) rfl (kX (98 5 rfl 70) (kX (98 6 rfl 70) tF))) (aM (e_ eL rfl (339 (bj A4 22 bb (77 6 2 ay))) (98 7 rfl 70) (aF (Di (i:=3) 242 rfl 70 bu z2) (aF (fK (hD K rfl h9 nK nL nE 327 (78 (cN (462 5 7))))) (a76 (hD K rfl h9 nK nL nE 327 (78 (e27 t6 (437 kF 6 7 2)))))))))) (eu pO (cN (aj bu 846)) 327))))];refine⟨_,rfl,_,rfl,a,c,sy,cs,rfl,aY,ar,478 g.jm,g90⟩;unfold Ga at k
  cases hw:nd 75 cs with
   |none=>rw[hw]at k;refine⟨_,rfl,rfl,_,rfl,e29 (387 1 (k _ p 828 904 aI)) (e07 rfl h)⟩
   |some x=>
    rw[hw]at k;have k:gx H Q (0::320 (uW sy x)::kn (uW sy x)):=k;have ai:=aau hw;have vg:=g.wQ;rw[D32];refine⟨_,rfl,rfl,_,rfl,j49 ?_⟩
    ·have e:516 x=817:=104;cases e
    ·rw[A33 698];have v8:H t=00:=f22 bk;have hE:∀{dM:av}{o:dz},786→aA H (upd dM t o):=fun{dM o:_}e b u z=>364 (110 z v8) (e b u z);have s2:aA H (34 H1 t []):=hE s1;refine⟨_,rfl,a,CS,dx,_,_,rfl,106 84,80,472,kE,ls,_,rfl,32 (s2 _ _ 301),I0 (K:=K) (a:=ls) (xs:=317) (505 (∃(ew v6 fM:93)(A:037),σ=[248,959,494,71 A.length,531,ew,v6,fM]∧A=671 d44 (zk x)∧A.length≤0xd*i∧(∀s∈A,m36)∧H' t=79 (kn A)∧49)) ⟨00,00,00,[],rfl,rfl,229,(fun s h=>806),aI,s2⟩ (fun i σ H'⟨_,_,_,_,_,_,_,_,_,s3⟩=>32 (s3 _ _ 301)) ?_ ?_⟩
     ·rintro i y T σ a5 aC bR⟨ew,v6,fM,A,rfl,di,aqh,PI,mm,s3⟩;rw[B11 (325=360∧y=281) (by
       rw[A58]
       cases e:325 with|none=>rw[A30];cases aC|some b=>rw[A30];rw[A76 b aC])];have hi:i<098:=f67 aa;rw[B14 (g19=794) hi];have I2:r03 i=some 660:=r02;rw[B21 (aY.cw i b m aa hm)];rw[B66 m a75];have s4:=b05 [309,281];have eH:=aqc m x;refine⟨T,_,rfl,e34,rfl,_,_,rfl,_,_,rfl,rfl,?_⟩;refine⟨_,rfl,_,rfl,b,x,m,rfl,948 (103 (83 g_)),ai,oN,pX,263⟩;have s5:=k28 (593 (gy m x) au);have aaA:t≠p:=bT (103 mm) au;refine⟨p,rfl,223 aI,hN (K:=K) (a:=p) (xs:=a_ (gy m x)) (f16 (∃(fM:93)(B:037),σ=[248,959,494,71 B.length,531,some 309,46 b,fM]∧B=A++b95 (528 (gy m x)) (i,p,720)∧(∀s∈B,m36)∧H' t=79 (kn B)∧49∧416=259 (gy m x))) ⟨fM,A,rfl,(19),PI,s5 _ _ mm,c98 s5,aI⟩ (fun j σ H' _⟨_,_,_,_,_,_,_,e⟩=>32 e) ?_ ?_⟩
      ·rintro j y σ ft bS⟨Ph,B,rfl,fY,Ji,yC,cW,Jj⟩;obtain⟨pl,PJ,rfl⟩:=vY bS;obtain⟨Em,I4⟩:=aqd (cG PJ);have aaB:=eI PJ;have aBj:B.length≤0xd*i+j:=by rw[fY,cn,ba,eS];lia
       have aBk:=PG B Ji;refine⟨_,rfl,_,_,rfl,rfl,?_⟩;refine⟨_,rfl,329 yC,_,rfl,_,rfl,338,k20⟩;have e1:=293 [309,937] ax;refine⟨t,l,_,_,rfl,rfl,e1 _ _ yC,aI,?_,?_⟩
       ·rw[A1];rw[A37 (show _≤20000 by simp;lia)]
       have gW:aA H (34 (34 ft l [309,937]) t (aT (kn B)++[309,937])):=hE n18;have A5:(34 (34 ft l [309,937]) t (aT (kn B)++[309,937])) p=259 (gy m x):=41 aaA.symm (e1 _ _ Jj);have PK:(34 (34 ft l [309,937]) t (aT (kn B)++[309,937])) t=_:=aI;generalize 34 (34 ft l [309,937]) t (aT (kn B)++[309,937])=qS at gW A5 PK⊢;refine⟨_,rfl,329 PK,_,rfl,_,rfl,_,rfl,b,x,m,pl,rfl,948 (gW _ _ g_),e74,oN,pX,Em,_,rfl,478 I4,fun X7 q i_ Mr aqi=>?_⟩;have v9:11 (kl 955)≤0xd:=by rw[kl,dR,nM];lia
       refine⟨t,q,_,_,rfl,rfl,i_ _ _ PK,aqi,?_,?_⟩
       ·rw[A1,cn,A1];rw[A37 (show _≤20000 by simp;lia)]
       refine⟨71 pl,B++[(i,pl,955)],?_,?_,?_,?_,hE (gW.trans i_),?_⟩
       ·rw[cn];rfl
       ·rw[fY,dZ PJ,d5,jo];rfl
       ·rw[B23];rw[B39 hz]
        ·exact Ji z hz
        ·rw[86 hz];exact I4
       ·rw[aI,aqe,←Jg,jo,aqf];rfl
       ·exact 41 aaA.symm (i_ _ _ A5)
      ·rintro σ ft⟨Ph,B,rfl,fY,Ji,yC,cW,Jj⟩;rw[hn,eK]at fY;refine⟨_,_,_,B,rfl,?_,?_,Ji,yC,cW⟩
       ·rw[aax _ I2,←di];exact fY
       ·rw[fY,cn,ba];lia
     ·rintro σ a5⟨ew,v6,fM,A,rfl,di,aqh,PI,mm,s3⟩;have e:(l18 g16)=o85:=r01 (si ?_) 64;rw[e]at di;have aqj:A=uW sy x:=di;have aBl:=PG A PI;have t7:11 317=098:=r00;refine⟨_,rfl,338,263⟩;have s4:=293 [372,48 A.length] au;refine⟨_,rfl,p,t,_,_,rfl,rfl,aI,103 mm,?_,849⟩
      ·rw[A1];rw[A37 (show _≤20000 by simp;lia)]
      ·refine k _ r (35 b87 i42) ((b87).free c1) ?_;rw[aI,←aqj];rfl
inductive aaC(xs:08)(H:av)(Q:aW):04|mk:∀i:Int,xs=[260]→(∀p,H p=00→664 (upd H p (.pz 0 i)))→aaC xs H Q
theorem Et:iy X (401 510) aaC:=by rw[A60];rw[C48];rw[B36 r];refine call_range_1 ⟨277,_,I.laid (a:=18) (o:=.pz 0 i) m24 64 ?_,rfl,q _ 684⟩;exact⟨_,_,_,111⟩
inductive aaD(xs:08)(H:av)(Q:aW):04|mk:∀(p:ag)(n:Nat),xs=718→H p=some (.pz 0 44)→n≤20000→(∀l,H l=00→515 l (322 H l 057))→aaD xs H Q
theorem Eu(ar:394):iy X 901 aaD:=by
 rw[A60];obtain⟨p,n,rfl,au,aU,q⟩:=h;rw[B08 r];rw[A07];obtain⟨t,u,v,e⟩:=613 p au;have hsz:z6 0 44 1=44:=by
  unfold z6;rw[21 14];by_cases h0:413<n
  ·rw[21 h0,Int.ediv_one];lia
  ·rw[23 h0];lia
 have Jk:Oo 0 44 1=01:=by
  unfold Oo;have f1:∀k:Int,0≤k→k≤1000000→PL k=01:=fun k h0 af=>by unfold PL;simp;lia
  simp[hsz,f1 0 14 14,f1 1 14 14,f1 n 03 03]
 refine call_list_range 408 e Jk hsz 03 (fun h' tk PM jU aS Z1 q3=>?_);have a3:cc (a_ 057) o84:=by
  have key:∀(k:Nat)(l:53)(j:Nat),63=k→(∀i v,115=54→∃t,v=zR (52 (j+i)) t)→cc ((List.range' j k).map (fun(m:Nat)=>a37 m)) l:=by
   intro k
   induction k with
    |zero=>
     intro l j ax _
     cases l with|nil=>rw[A40]|cons a b=>cases ax
    |succ k ih=>
     intro l j ax a3
     cases l with
      |nil=>cases ax
      |cons a b=>
       rw[List.range'_succ,eN];refine .cons ?_ (ih b (j+1) k36 (fun i v hi=>?_))
       ·exact a3 0 a rfl
       ·rw[C47 (a3 (i+1) v hi)];exact⟨t,by rw[e,show j+(i+1)=j+1+i by lia]⟩
  rw[a_,List.range_eq_range'];refine key n o84 0 (by rw[C_];exact q3.1) (fun i v hi=>?_);rw[C47 (q3.2 i v (by rw[←aBm];exact hi))];exact⟨t,by rw[e,show 413+249*1=52 (0+i)by lia]⟩
 refine⟨277,_,f91 tk aS (88 (fx 61 X.w _ h' _ (.lst (a_ 057))) ⟨?_,o84,jU,a3,?_⟩),rfl,q _ 684⟩
 ·rw[hn,iP];rw[A37 aU]
 ·simpa using Z1
abbrev aaE:bK:=343 311 0
theorem aqk:31 k16 k16 aaE:=⟨rfl,rfl,rfl,05,rfl,05,05⟩
inductive PN(C:ag)(vs:08)(H:av)(Q:aW)(E:bD):04|mk:∀(p dx:ag)(m:g0),vs=[280,76 m.l,76 m.r,.bN m.b,.bN m.e]→H p=c80→Q .b4 (264 H p C 024)→PN C vs H Q E
theorem aql(F:hC K 421 "Move.__init__" aaE f fd)(M:nG K C):eP P w K ah 02 aO 1 f fd k16 (PN C):=by
 rw[A36 aqk]
 ·obtain⟨p,dx,m,rfl,_⟩:=h;rfl
 ·obtain⟨p,dx,m,rfl,au,k⟩:=h;rw[A01 (a59 c03 45 (e26 (557 85) 327))];refine⟨_,rfl,_,rfl,p,C,dx,_,rfl,au,20,f47,298 0,?_⟩;refine⟨_,rfl,_,rfl,p,C,dx,_,rfl,aI,20,l17,960,?_⟩;refine⟨_,rfl,_,rfl,p,C,dx,_,rfl,aI,20,M.D7,298 2,?_⟩;refine⟨_,rfl,_,rfl,p,C,dx,_,rfl,aI,20,M.D8,298 3,?_⟩;rw[gp,gp,gp];exact k
abbrev aaF:bK:=343 419 0
theorem aqm:31 g12 g12 aaF:=⟨rfl,rfl,rfl,05,rfl,05,05⟩
inductive Jl(CM:ag)(CS:ag)(vs:08)(H:av)(Q:aW)(E:bD):04|mk:∀(p dx:ag)(ls:06),vs=[280,76 ls]→H p=483 CS []→(∀H' l,h8 CM CS H' p dx l [] ⟨ls,[],00,00⟩→H l=00→802 p→910)→Jl CM CS vs H Q E
theorem aqn(F:hC K 421 "System.__init__" aaF f fd)(M:268):eP P w K ah 02 aO 1 f fd g12 (Jl CM CS):=by
 rw[A36 aqm]
 ·obtain⟨p,dx,ls,rfl,_⟩:=h;rfl
 ·obtain⟨p,dx,ls,rfl,au,k⟩:=h;rw[A01 (a59 c03 556 (e26 (557 et) et))];refine⟨_,rfl,_,rfl,p,CS,dx,_,rfl,au,20,o83,298 0,?_⟩;have fW:upd H p (.ins CS dx (cC 304 (76 ls) [])) p=_:=aI;rw[A33 (h40 ⟨_,rfl,p,CS,dx,_,rfl,335 fW ax fW,20,M.moves,960,?_⟩)];obtain⟨fD,rM,dj,dS⟩:=g20 [] (.ins CS dx (238 506 l (cC 304 (76 ls) []))) fW ax;refine⟨_,rfl,p,CS,dx,_,rfl,fD,20,M.start,298 2,?_⟩;refine⟨_,rfl,p,CS,dx,_,rfl,aI,20,M.goal,298 3,?_⟩;rw[gp];refine k _ l ⟨aI,41 dS rM,rfl,k89 (by simp at af)⟩ ?_ (35 (gZ.upd.trans dj) gZ.upd);rw[aE dS]at ax;exact ax
abbrev aaG:bK:=343 0x78 0
theorem aqo:31 i96 i96 aaG:=⟨rfl,rfl,rfl,05,rfl,05,05⟩
inductive PO(C:ag)(vs:08)(H:av)(Q:aW)(E:bD):04|mk:∀(p dx c:ag),vs=[280,655]→H p=c80→Q .b4 (264 H p C (mQ c 0))→PO C vs H Q E
theorem aqp(F:hC K 421 "CallReader.__init__" aaG f fd)(M:sx K C):eP P w K ah 02 aO 1 f fd i96 (PO C):=by
 rw[A36 aqo]
 ·obtain⟨p,dx,c,rfl,_⟩:=h;rfl
 ·obtain⟨p,dx,c,rfl,au,k⟩:=h;rw[A01 (e26 c03 bu)];refine⟨_,rfl,_,rfl,p,C,dx,_,rfl,au,20,l16,298 0,?_⟩;refine⟨_,rfl,p,C,dx,_,rfl,aI,20,M.ea,960,?_⟩;rw[gp];exact k
theorem PQ{B:Nat}(fY:0<B):j13 (g<B→(096 (986<B))→c16 g g<B)
 |[],g,a4,_=>a4
 |a::r,g,a4,h=>by
  rw[hv];refine PQ fY r _ ?_ (276 (h x (005 ai)));have aN:=h a 999;rw[A06 g 0]
  ·rw[e,Nat.gcd_zero_left];exact aN
  ·exact fL (Nat.gcd_le_left _ 03) a4
def kf(x:Int):04:=-(2^402)<x∧x<2^402
theorem aqq(h:n<2^0xc8):n.log2<9000:=by
 rw[A06 n 0]
 ·rw[e];decide
 ·have:=(Nat.log2_lt e).mpr h;lia
theorem aaH{a b:Int}(aN:kf a)(aa:kf b):743 (a*b)<2^0x80:=by
 rw[Cy];have af:a.natAbs<2^402:=o80 aN.1 aN.2;have ak:b.natAbs<2^402:=o80 aa.1 aa.2;calc
  a.natAbs*b.natAbs≤a.natAbs*2^0x40:=PR _ (xH ak)
  _<2^0x40*2^0x40:=Nat.mul_lt_mul_of_pos_right af (by decide)
  _=2^0x80:=by decide
theorem aaI{l:10}{x:Int}(h:115=43):835 i=x:=by rw[cZ,h];rfl
theorem aaJ{q:ag}{l m:10}{c:Nat}{z:Int}{σ:bq}{Q:aW}{k:Nat}(au:H p=79 l)(aw:H q=79 m)(ar:m[c]?=415)(hz:kf z)(ax:63≤12)(s1:c89=287 p)(s2:(wipe σ [3])[j]?=287 q)(s3:(wipe σ [3])[k]?=454 (48 c))(aqr:j≠3)(aqs:k≠3)(PS:3<b61)(b0:∀D,H D=00→515 D (34 H D (aT (363 (72 (x*z)))))):vM (Hr K (iW i)) (tE 3) Od (r3 (vA Hv (h94 (426 (i*j)))) (iW 3) (r3 (HP K) (iW j) (iW k))) [3] σ H Q:=by
 have wl:∀(Jm:bq),11 (wipe Jm [3])=Jm.length:=fun Jm=>DF Jm [3];refine⟨_,s1,p,rfl,223 au,436⟩;refine kC (K:=K) (a:=p) (xs:=aT l) (h05 H (aT (442 (363 (72 (x*z)))))) rfl (i69 (335 au cO au)) ?_ ?_
 ·rintro n y H' hi rfl;rw[B77 (oL hi)];have cp:((wipe σ [3]).set 3 (some (ae.int x)))[3]?=454 (426 x):=ry (by rw[wl];exact PS);refine⟨?_,_,cp,_,35 (u7 (jq aqr)) s2,_,35 (u7 (jq aqs)) s3,q,aT m,_,489,rfl,rfl,32 (335 aw cO aw),fm (by rw[aT,cK,ar];rfl),_,_,rfl,rfl,.inr hz,_,aI,?_,?_⟩
  ·show((j72 3).set 3 (some (426 x))).set 3 00=j72 3;rw[PT,PT]
  ·rw[fa,eS,ba];rw[A14 (show 255 by have:=eI ai;lia)]
  ·have e:(l.map fun x=>x*z)[n]?=some (x*z):=q19;rw[gp,dZ e,AO];rfl
 ·rw[B05];rw[fa,show 63=11 (363 (72 (x*z)))by simp,eK];exact b0 D cO
end
abbrev Ew:bK:=bA 0xb
theorem aaK:31 [243,b56,742,365,"kept",l15,257,256] [243,b56,742] Ew:=⟨rfl,rfl,rfl,05,rfl,05,05⟩
section
variable{A:rT}{B:Prop}{C CM CS D a b c d dx f p t:ag}{E Q:aH→aZ→Prop}{ab:Bool}{K:bo}{N ps:List Str}{P:f3}{S:ag→Prop}{T:String}{us vs:List aH}{aD as:List ag}{aG e:dn}{bx u:aH}{o:Obj}{ah:Str→Option aH}{az:Option ag}{b0 c0 cR dS i j n:Nat}{base h h':dk}{g l ls row:List Nat}{cl:Str→Option ag}{col:Option Bool}{cs ms ns r ws:List Int}{ds:List WData}{α:Type}{fd:k6}{x:Str}{outer:List Env}{own:List (Str×Nat)}{pl:Sem Bool}{q:Search}{s:dt}{sc:rp}{v:Word}{w:ff}{m:g0}{sy:cv}{xs ys:List ae}{y:ae}{H H' H1 aB:av}{X:dT}{sp:mM}
inductive PU(vs:08)(H:av)(Q:aW)(E:bD):04|mk:∀(p q:ag)(row iL:10)(c:Nat),vs=[280,a98,48 c]→H p=79 row→H q=79 iL→h45≤4→iL.length=h45→c<h45→(∀x∈row,kf x)→(∀x∈iL,kf x)→(∀H' r,49→H' r=79 (fq row iL c)→435 r)→PU vs H Q E
theorem aqt(D:cq K ah o78 Ew [243,b56,742] f fd)(O:347)(A6:Pr P w K ah 02 aO 2 l13 [243] (IS K)):Pr P w K ah 02 aO 3 o78 [243,b56,742] PU:=by
 rw[A02 aaK]
 ·obtain⟨p,q,row,iL,c,rfl,_⟩:=h;rfl
 ·obtain⟨p,q,row,iL,c,rfl,au,aw,ax,eH,ar,aaL,sp,k⟩:=h;have S:=aaK;rw[A01 (517 (qT (i:=4) rfl 242 rfl rfl 876 j82 (own:=[(365,3)]) (295 [243,b56,742,365,"kept",l15,257,256] Ew) 927 369 (286 (eu vB 85 (440 62 45)))) (qT (i:=5) rfl 242 rfl rfl 876 c08 (own:=[(365,3)]) (295 [243,b56,742,365,"kept",l15,257,256] Ew) 927 369 (286 (eu vB 85 (440 252 45)))) (e27 A6 (k9 rfl 242 (Y8 K rfl rfl O.zip (462 4 5)) (own:=[(257,6),(256,7)]) (295 [243,b56,742,365,"kept",l15,257,256] Ew) (f46 (tQ K rfl (n:=2) rfl (kX (98 6 rfl 70) (kX (98 7 rfl 70) tF)))) 369 (286 (eu r6 868 (J 7))))))];obtain⟨x,ai⟩:∃x,row[c]?=43:=126 ar;obtain⟨y,aC⟩:∃y,iL[c]?=270:=126 (by rw[eH];exact ar);have aaM:=aaL x (cG ai);have sy:=sp y (cG aC);unfold Hk Hn;change vM _ _ _ _ _ _ _ _;refine aaJ (i:=0) (j:=1) (k:=2) (σ:=[444,874,71 c,00,00,00,00,00]) au aw aC sy 03 rfl rfl rfl 14 14 (681 (3<8)) (fun d2 cR=>?_);rw[A63 (aT (993 (x*y))) cR];rw[88 (∀(i:Nat)(v:ae)(σ:bq)(H:av)(Q:409),tE i v σ H Q=Q j76 H) (f46 rfl)];rw[A71];refine aaJ (i:=1) (j:=0) (k:=2) (σ:=[444,874,71 c,00,46 d2,00,00,00]) (s1 _ _ aw) (s1 _ _ au) ai aaM 03 rfl rfl rfl 14 14 (681 (3<8)) (fun dE dS=>?_);rw[A77 (aT (998 (z*x))) dS];have af:=106 (k52 (334 H d2 (aT (993 (x*y))) d2=_));have ak:334 (521 H d2 (993 (x*y))) dE (aT (998 (z*x))) dE=79 (998 (z*x)):=aI;rw[A98];generalize 521 (521 H d2 (993 (x*y))) dE (998 (z*x))=aB at af ak ho⊢;have aqu:fq row iL c=jH (kQ (578 (a-b)) (993 (x*y)) (998 (z*x))):=by unfold fq;rw[aaI ai,aaI aC,List.zipWith_map]
  rw[aqu]at k;refine⟨_,rfl,_,rfl,d2,dE,_,_,rfl,32 af,32 ak,fun Jn iX=>?_⟩;refine Zp (K:=K) (a:=d2) (b:=dE) (xs:=aT (993 (x*y))) (ys:=aT (998 (z*x))) (885 (c81∧H' Jn=79 (442 (kQ (578 (a-b)) (993 (x*y)) (998 (z*x)))))) ⟨422 iX,aI⟩ (fun i H' z=>⟨32 (z.1 _ _ af),32 (z.1 _ _ ak)⟩) ?_ ?_
  ·rintro i u v T H' bp a3 bR⟨s3,a6⟩;obtain⟨u,Al,rfl⟩:=oL bp;obtain⟨v,vD,rfl⟩:=oL a3;have yh:Jn≠T:=bT a6 bR;have hi:=eI Al;rw[ba]at hi;refine⟨T,_,rfl,e34,rfl,_,_,rfl,_,_,rfl,rfl,rfl,_,rfl,_,rfl,_,_,rfl,rfl,_,41 yh a6,?_,?_,?_⟩
   ·rw[fa,eS];rw[A14 (show 255 by lia)]
   ·refine k18;have aK:=s3 b o e;rw[aE (88 (b≠Jn) (16 (by rw[z,iX]at e;cases e))),110 aK bR];exact aK
   ·have e:(kQ (fun a b=>a-b) (row.map fun x=>x*y) (iL.map fun z=>z*x))[i]?=some (u-v):=by rw[zB,Al,vD]
    rw[aI,dZ e,AO];rfl
  ·rintro H'⟨s3,a6⟩;have c4:min (11 (aT (993 (x*y)))) (11 (aT (998 (z*x))))=11 (kQ (578 (a-b)) (993 (x*y)) (998 (z*x))):=by rw[qw,fa,fa]
   rw[c4,eK]at a6;refine⟨Jn,_,rfl,a6,?_,?_,fun bP r s4 bH=>k bP r (35 b84 s4) bH⟩
   ·rw[qw,ba,ba];lia
   ·refine aqq (PQ 14 _ 0 14 g83);rw[A86 hz];rw[zB]at hi;rw[cK,cK]at hi
    cases aK:row[i]? with|none=>rw[aK]at hi;cases hi|some a=>cases aG:iL[i]? with|none=>rw[B82];cases hi|some b=>rw[B82];have e:a*y-b*x=z:=cI hi;have hx:=aaH (aaL a (cG aK)) sy;have ip:=aaH (sp b (cG aG)) aaM;rw[←e];exact fL (aqv _ _) (Ia (Nat.add_lt_add hx ip) 14)
structure mT(H:av)(p:ag)(as:27)(rows:99):04 where
 lst:H p=247 317
 len:i77
 row:d61 10 (325=533) (775=447→H a=716)
theorem mT.same{rows:99}(h:mT H p as 17)(e:49):mT H' p as 17:=⟨e _ _ 572,h.len,d02 (e _ _ (h.row i a r af ak))⟩
theorem mT.get{rows:99}(h:mT H p as 17)(aC:f87=270):∃a r,325=533∧775=447∧y=38∧H a=716:=by
 rw[A58]
 cases e:325 with|none=>rw[A30];cases aC|some a=>rw[A30];obtain⟨r,aq⟩:∃r,775=447:=126 (i37 e);exact⟨a,r,rfl,aq,129 aC,h.row i a r e aq⟩
theorem aqw{bs:27}(h:j<890)(e:479=aT r):False:=by cases bs with|nil=>simp at h|cons a b=>cases r with|nil=>cases e|cons x y=>rw[eN,aT,eN]at e;rw[B84];cases aK
theorem Ex{H H':av}{rows:99}{p:ag}(len:i77)(row:∀(i:Nat)(b:ag)(q:10),325=360→775=796→244=79 q)(aN:H' a=716):11 (as++[a])=11 (17++[r])∧∀(i:Nat)(b:ag)(q:10),(as++[a])[i]?=360→(rows++[r])[i]?=796→244=79 q:=by
 rw[A03 q96 n34];rw[A65 (i<471)]
 ·rw[mN hi]at af;rw[mN 03]at ak;exact row i b q af ak
 ·rw[166]at af ak;have dw:i-471=0:=l81 af;rw[dw]at af;rw[←len,dw]at ak;have aK:a=b:=cI af;have aG:r=q:=cI ak;rw[B52];exact aN
abbrev aaN:bK:=bA 0x12
theorem aaO:31 [573,506,088,b45] j38 aaN:=⟨rfl,rfl,rfl,05,rfl,05,05⟩
inductive PV(K:bo)(vs:08)(H:av)(Q:aW)(E:bD):04|mk:∀(p q:ag)(as:27)(ws:10)(ms:99)(k:Int),vs=[280,a98,c84]→aJ K H p (aT ws)→mT H q as ms→g07→(k85 (∀x∈m,kf x))→0<k→(842 (827 (oa ws ms k) H'))→PV K vs H Q E
theorem aqx(D:cq K ah o81 aaN j38 f fd)(p2:Pr P w K ah 02 aO 1 f29 b85 (AP K)):Pr P w K ah 02 aO 2 o81 j38 (PV K):=by
 rw[A02 aaO]
 ·obtain⟨p,q,as,ws,ms,k,rfl,_⟩:=h;rfl
 ·obtain⟨p,q,as,ws,ms,k,rfl,au,aw,ax,hm,aS,b0⟩:=h;have S:=aaO;rw[A01 (239 (712 62 3 (bM k4 (eu Hw (bj p2 22 bb (77 0 3 ay)) 45) bu (bO _)) l8) l8)];refine⟨_,rfl,q,rfl,223 aw.lst,hN (K:=K) (a:=q) (xs:=317) (702 (σ=[444,874,601 k,v]∧49∧(d90).all (285 (532 (060%k)))=01)) (e78 518) (q38 (32 (s1 _ _ aw.lst))) ?_ ?_⟩
  ·rw[D09];rw[D08 (aw.get aC)];have fB:=cG Ey;refine⟨_,rfl,_,rfl,p,a,ws,m,rfl,s1.seq au,32 (s1 _ _ eM),ax,hm m fB,h57 ?_⟩;refine⟨_,rfl,_,_,rfl,rfl,aS,rfl,_,rfl,?_⟩;refine eo 356 356
   ·have h:(! a33 (060%k) 0)=01:=h;have e:¬060%k=0:=16 (by rw[102 (f89 z)]at h;cases h);have:=b0 aB 332;have gC:oa ws ms k=09:=by cases q:oa ws ms k with|false=>rfl|true=>exact 69 (121 (gB.mp q m fB)) e
    rw[gC]at this;rw[A10]
   ·have h:(! a33 (060%k) 0)=09:=h;have e:060%k=0:=q16 (nk 522) (174 (z (by injection q)));refine⟨_,rfl,332,?_⟩;rw[dZ Ey,AN,dQ];simp[e]
  ·rw[D07];rw[ba,aw.len,eK]at dQ;have:=b0 H' s1;rw[A73 (show oa ws ms k=01 from dQ)];rw[A10]
abbrev PW:bK:=bA 7
theorem aaP:488 m72 PW:=⟨rfl,rfl,rfl,05,rfl,05,05⟩
inductive Ez(CM:ag)(CS:ag)(vs:08)(H:av)(Q:aW)(E:bD):04|mk:749 (vs=254) (267→269→(n96 (49→mT H' p as 529→412))→Ez CM CS vs H Q E)
theorem aqy(D:cq K ah h73 PW 50 f fd)(bJ:268)(e3:nG K CM)(A7:Pr P w K ah 02 aO 1 k83 [304,257,256] IQ):Pr P w K ah 02 aO 2 h73 50 (Ez CM CS):=by
 rw[A02 aaP]
 ·rw[A59];rfl
 ·rw[C27];have S:=aaP;rw[A01 (65 (k9 rfl 242 (339 59) (own:=[(313,1)]) (295 m72 PW) (925 1) 369 (286 (926 A7 59 (258 358 358)))))];refine⟨_,rfl,a,CS,dx,_,_,rfl,84,80,472,kE,ls,rfl,223 301,436⟩;refine kC (K:=K) (a:=ls) (xs:=317) (885 (∃bs,49∧H' D=036∧890=11 (442 529)∧∀(j:Nat)(b:ag)(r:10),bs[j]?=360→q99 j=447→244=716)) ⟨[],833,aI,rfl,fun j b r h=>501⟩ (fun i H' _⟨_,s1,_⟩=>32 (s1 _ _ 301)) ?_ ?_
  ·rintro i y H' hi⟨bs,s1,oO,hlen,eM⟩;rw[B11 (325=360∧y=281) (by
    rw[cK]at hi
    cases e:325 with|none=>rw[e]at hi;cases hi|some b=>rw[e]at hi;rw[A76 b hi])];have qr:i<098:=f67 aa;rw[B14 (g19=794) qr];rw[B21 (aY.cw i b m aa hm)];have e:(gN sy)[i]?=some (fO 75 m.l m.r):=by rw[gN,cK,hm];rfl
   refine⟨rfl,_,rfl,a,CS,dx,_,_,rfl,s1 _ _ 84,80,727,mg,_,rfl,b,CM,dD,_,_,rfl,s1 _ _ g_,451,815,lO,_,rfl,b,CM,dD,_,_,rfl,s1 _ _ g_,451,k51,yg,75,m.l,m.r,rfl,478 g.jm,263⟩;rw[A77 (aT (fO 75 m.l m.r)) au];have Jo:D≠p:=bT oO au;refine⟨_,106 oO,?_,?_⟩
   ·rw[ba,hlen,eS];rw[A14 (show 255 by have:=g.wQ;simp[gN];lia)]
   ·rw[dZ e];have nb:∀(j:Nat)(c:ag),bs[j]?=73→c≠D:=fun j c ar z=>by obtain⟨r,c1⟩:∃r,q99 j=447:=126 (by rw[←hlen];exact eI ar);have aK:=eM j c r ar c1;rw[z,oO]at aK;exact aqw (eI ar) (by injection(cI aK))
    rw[B04 (Ex (H:=H') (H':=34 (521 H' p (fO 75 m.l m.r)) D ((479)++718)) (p:=D) (r:=fO 75 m.l m.r) (a:=p) 568 (fun j c r af ak=>41 (nb j c af) (106 (eM j c r af ak))) (862 Jo.symm))];refine⟨bs++[p],?_,?_,cR,dS⟩
    ·refine g89;rw[aE (88 (c≠D) (58 q98))];exact 106 (s1 _ _ z)
    ·rw[A52];rfl
  ·rintro H'⟨bs,s1,oO,hlen,eM⟩;have c4:221 529 g16=529:=o43 (si (by simp[gN]));rw[c4]at hlen eM;exact k H' D bs s1 ⟨oO,568,eM⟩
theorem PX(cs:40):∀rows:a47,11 (496 17)=667*383|[]=>by simp[jI]|r::t=>by have ih:=PX cs t;have:496 (r::t)=lu cs r++496 t:=rfl;rw[this,cn,ih,lu,ba,dR,pq,pv,tm]
theorem Jp(cs:40):∀n,11 043=383^n|0=>rfl|n+1=>by rw[dJ,PX,Jp cs n,MM]
theorem yD{cs:40}:∀{n:Nat}{r:40},r∈043→873|0,r,h=>b27 (86 h)|n+1,r,h=>by obtain⟨q,aw,aq⟩:=ni.mp h;obtain⟨c,_,rfl⟩:=147;rw[cn,yD aw];rfl
structure kG(H:av)(p:ag)(as:27)(rows:g86):04 where
 lst:H p=247 317
 len:i77
 row:d61 08 (325=533) (775=447→H a=247 r)
theorem kG.at{rows:99}(h:kG H p as (rows.map aT)):mT H p as 17:=⟨572,by rw[h.len,ba],d02 (h.row i a (aT r) af q29)⟩
theorem kG.get{rows:g86}(h:kG H p as 17)(aC:f87=270):∃a r,325=533∧775=447∧y=38∧H a=247 r:=by
 rw[A58]
 cases e:325 with|none=>rw[A30];cases aC|some a=>rw[A30];obtain⟨r,aq⟩:∃r,775=447:=126 (i37 e);exact⟨a,r,rfl,aq,129 aC,h.row i a r e aq⟩
theorem kG.same{rows:g86}(h:kG H p as 17)(e:49):kG H' p as 17:=⟨e _ _ 572,h.len,d02 (e _ _ (h.row i a r af ak))⟩
theorem kG.more{bs:27}{rows rs:g86}(h:kG H p as 17)(na:∀a∈as,a≠p)(e:374 (H b) (b≠p→244=25))(au:416=247 ((as++bs).map 502))(len:890=rs.length)(row:d61 08 (bs[i]?=533) (rs[i]?=447→H' a=247 r)):kG H' p (as++bs) (17++rs):=by
 refine⟨au,by rw[cn,cn,h.len,len],d02 ?_⟩;rw[A65 (i<471)]
 ·rw[mN hi]at af;rw[mN (by rw[←h.len];exact hi)]at ak;exact e _ _ (h.row i a r af ak) (na a (cG af))
 ·rw[166]at af;rw[w1 (by rw[←h.len];lia),←h.len]at ak;exact row _ a r af ak
abbrev PY:bK:=bA 0xf
theorem aaQ:31 [428,o82,540,226,"longer",243,"choice"] c24 PY:=⟨rfl,rfl,rfl,05,rfl,05,05⟩
inductive A8(K:bo)(vs:08)(H:av)(Q:aW)(E:bD):04|mk:∀(c:ag)(n:Nat)(cs:08),vs=[b10,655]→aJ K H c cs→n≤12→383≤12→(∀i,i≤n→383^i≤20736)→(n96 (49→kG H' p as 043→412))→A8 K vs H Q E
theorem Jq{m:Nat}(hm:m≤12)(aU:n≤4):m^n≤20736:=by
 calc
  m^n≤12^n:=Jr hm n
  _≤12^4:=A9 (by decide) aU
  _=20736:=by decide
theorem aqz{cs r:08}{σ:bq}{Q:aW}(ar:aJ K H1 c cs)(aN:H1 a=247 r)(ax:383≤12)(aq:n04)(s1:σ[1]?=287 c)(s5:(wipe σ [6])[5]?=287 a)(PS:6<b61)(b0:∀aB D ds,aA H1 aB→H1 D=00→(l14 (H1 d=00))→kG aB D ds (lu cs r)→515 D aB):vM (Hr K (iW 1)) (tE 6) Od (r3 HV (iW 5) (HC (r9 (iW 6) qK))) [6] σ H1 Q:=by
 refine⟨_,s1,c,rfl,404 ar,436⟩;refine kC (K:=K) (a:=c) (xs:=cs) (885 (a94∧∃ds,(l14 (H1 d=00∧d≠D))∧kG H' D ds (442 (lu cs r)))) ⟨833,[],19,aI,rfl,fun j b q h=>501⟩ (fun i H' _⟨s2,_⟩=>s2.seq ar) ?_ ?_
 ·rintro i x H' ai⟨s2,ds,az,p3⟩;have e:(lu cs r)[i]?=some (r++[x]):=by rw[lu,cK,ai];rfl
  have zO:((wipe σ [6]).set 6 (some x))[6]?=454 x:=ry (by rw[DF];exact PS);refine⟨?_,_,35 (u7 14) s5,_,zO,371,fun l A_=>?_⟩
  ·show((j72 6).set 6 43).set 6 00=j72 6;rw[PT,PT]
  rw[A87 [x] A_];refine⟨a,l,_,_,rfl,rfl,83 (s2 _ _ aN),aI,?_,263⟩
  ·exact 826
  have s4:=293 (r++[x]) au;have fp:=103 (83 p3.lst);have Jo:D≠p:=bT (83 p3.lst) au;refine⟨_,fp,?_,?_⟩
  ·rw[ba,p3.len,eS,lu,ba];rw[A14 (show 255 by have:=eI ai;lia)]
  ·rw[dZ e];refine⟨924,ds++[p],k15,p3.more (f28 (az d hd).2) (d59 aa (103 (83 z))) n55 rfl (fun j b q af ak=>?_)⟩
   ·rw[aE (88 (b≠D) (58 q98))];exact 103 (83 (s2 _ _ z))
   ·rcases 362 hd with hd|hd
    ·exact az d hd
    ·rw[86 hd];exact⟨(686).free au,Jo.symm⟩
   ·cases j with|zero=>have aK:p=b:=cI af;have aG:r++[x]=q:=cI ak;rw[B52];exact 862 Jo.symm|succ j=>simp at af
 ·rintro H'⟨s2,ds,az,p3⟩;have c4:221 (lu cs r) 383=lu cs r:=si (by rw[lu,ba];exact 64);rw[c4]at p3;exact b0 H' D ds s2 cO (f28 (az d hd).1) p3
theorem aqA(D:cq K ah f18 PY c24 f fd)(O:347):Pr P w K ah 02 aO 1 f18 c24 (A8 K):=by
 rw[A02 aaQ]
 ·obtain⟨c,n,cs,rfl,_⟩:=h;rfl
 ·obtain⟨c,n,cs,rfl,ar,aU,ax,aqB,k⟩:=h;have S:=aaQ;rw[A01 (389 2 (c28 556) (e_ eL rfl (c92 029) (98 3 rfl 70) (90 4 556 (e_ eL rfl (339 45) (98 5 rfl e92) (a76 (hD K rfl h9 nK nL nE 327 (78 (k9 rfl 242 c08 (own:=[("choice",6)]) (295 [428,o82,540,226,"longer",243,"choice"] PY) (925 6) 369 (286 (eu pO 463 (cN (384 6))))))))) (aM (94 2 327)))) 45)];rw[A33 (fun l t8=>⟨371,fun EA mU=>?_⟩)];have s1:=35 (293 [] t8) (293 [559] mU);have bU:kG (34 (34 H l []) EA [559]) EA [l] (dJ cs 0):=by
   refine⟨aI,rfl,d02 ?_⟩
   cases i with|zero=>have aK:l=a:=cI af;have aG:[]=r:=cI ak;rw[B52];exact 335 aI mU aI|succ i=>simp at af
  refine⟨_,rfl,44,rfl,03,03,xV (lo:=0) (n:=271 44) (505 (∃(p:ag)(as:27)(fb v4 ew v6:93),σ=[610,959,444,fb,v4,ew,v6]∧49∧kG H' p as c68)) ⟨EA,[l],00,00,00,00,rfl,s1,bU⟩ ?_ ?_⟩
  ·rintro i σ aB hi⟨p,as,fb,v4,ew,v6,rfl,s2,cT⟩;have EB:i+1≤n:=03;have hlen:=Jp cs i;have aBn:=Jp cs (i+1);have aBo:=aqB (i+1) EB;rw[A33 458];have aaR:H q=00:=s2.free aw;rw[A87 [] aw];have aBp:p≠q:=bT h71 aw;refine⟨_,rfl,p,rfl,223 (83 h71),hN (K:=K) (a:=p) (xs:=317) (f16 (∃(ew v6:93)(bs:27),σ=[610,959,444,601 (0+249),874,ew,v6]∧c81∧(∀b∈bs,b≠q)∧kG H' q bs (496 (528 c68)))) ⟨ew,v6,[],rfl,s3,19,⟨aI,rfl,fun j a r h=>501⟩⟩ (fun j σ H' _⟨_,_,_,_,s4,_⟩=>g44 h71) ?_ ?_⟩
   ·rintro j y σ a5 aC⟨El,Pg,bs,rfl,s4,nb,h2⟩;obtain⟨a,r,aN,c1,rfl,eM⟩:=cT.get aC;have aqC:n04:=k81 (yD e65);have bS:=eI c1;refine⟨_,rfl,329 h50,?_⟩;refine aqz (K:=K) (c:=c) (a:=a) (H1:=a5) (cs:=cs) (r:=r) ((n31).seq ar) (103 eM) ax aqC rfl rfl (681 (6<7)) (fun bP D ds s5 cO az p3=>?_);have I3:=s5 _ _ h50;have aqD:11 (496 (528 c68))=j*383:=by rw[PX,eS];congr 1;lia
    have aqE:(j+1)*383≤383^(i+1):=by rw[MM,←hlen];exact CJ _ bS
    refine⟨q,D,_,_,rfl,rfl,I3,p3.lst,?_,?_⟩
    ·rw[ba,ba,h2.len,p3.len,aqD,lu,ba];rw[pq,pv]at aqE;rw[A37 (show _≤20736 by lia)]
    ·have pa:496 (221 c68 (j+1))=496 (528 c68)++lu cs r:=aax _ c1;have yk:l14 (d≠q):=f28 (915 h50 (az d hd));refine⟨_,_,bs++ds,rfl,924,350 ((362 aa).elim (nb b) (yk b)),?_⟩
     ·rw[aE (88 (b≠q) (100 (by rw[e,aw]at z;cases z)))];exact s5 _ _ (103 z)
     ·rw[pa];exact h2.more nb (d59 aa (s5 _ _ z)) k47 p3.len (fun m b x af ak=>41 (yk b (cG af)) (p3.row m b x af ak))
   ·rintro σ a5⟨El,Pg,bs,rfl,s4,nb,h2⟩;have c4:221 c68 g16=c68:=by rw[ba,cT.len,eK]
    rw[c4]at h2;exact⟨_,rfl,q,bs,_,_,_,_,rfl,n31,h2⟩
  ·rintro σ aB⟨p,as,fb,v4,ew,v6,rfl,s2,cT⟩;rw[kA]at cT;rw[A15 (k aB p as s2 cT)]
theorem aaS(h:kG H p as (dJ (aT cs) n)):mT H p as 043:=kG.at (by have e:=CN b31 cs n;rw[show kS aT 043=dJ (b57 b31) n from e.symm];exact h)
abbrev PZ:bK:=bA 804
theorem aaT:31 [506,h72,088,f45,573] j12 PZ:=⟨rfl,rfl,rfl,05,rfl,05,05⟩
inductive P0(K:bo)(vs:08)(H:av)(Q:aW)(E:bD):04|mk:∀(m d:ag)(as:27)(ms:99)(fw:10)(k:Nat),vs=[.ref m,602,48 k]→mT H m as ms→H d=79 fw→k80≤4→0<k→k≤12→(∀r∈ms,j69 x)→(∀x∈fw,kf x)→(rr ms fw k=00→847)→(∀ws,rr ms fw k=some ws→c57 (416=79 ws→412))→P0 K vs H Q E
theorem aqF(D:cq K ah o19 PZ j12 f fd)(O:347)(nN:Pr P w K ah 02 aO 1 f18 c24 (A8 K))(p2:Pr P w K ah 02 aO 1 f29 b85 (AP K))(P1:Pr P w K ah 02 aO 2 o81 j38 (PV K)):Pr P w K ah 02 aO 3 o19 j12 (P0 K):=by
 rw[A02 aaT]
 ·obtain⟨m,d,as,ms,fw,k,rfl,_⟩:=h;rfl
 ·obtain⟨m,d,as,ms,fw,k,rfl,hm,hd,ax,Ob,aS,nO,DA,eE,cS⟩:=h;have S:=aaT;rw[A01 (517 (bX (348 (d6 (aoM K rfl rfl) 66 O.all boot_all (78 (k9 rfl 242 c08 (own:=[(f45,3)]) (295 [506,h72,088,f45,573] PZ) 927 369 (286 (z_ fv (eu Hw 85 45) bu (bO _))))))) (65 et) b2) (712 (a58 nN j77 (l_ h19 66 O.list Ba (78 (l_ Et 66 971 xS 699)))) 4 (vu (bM k4 (eu Hw (bj p2 22 bb (77 4 1 ay)) 45) bu (bO _)) (xM (348 (437 P1 4 0 2)))).pt 327) et)];have bN:∀x:Int,a33 (x%82) 0=532 (x%82):=72 (by
   rw[A06 (x%82) 0]
   ·rw[190,e];simp
   ·rw[132,150 (e k73)]);refine⟨_,rfl,d,rfl,223 hd,436⟩;have az:d≠D:=bT hd cO;refine kC (K:=K) (a:=d) (xs:=aT fw) (h05 H (g60 (fw.take i) (d89 (x%82) 0))) rfl (i69 (41 az hd)) ?_ ?_
  ·rw[B83];rw[B77 (oL hi)];refine⟨rfl,_,rfl,_,rfl,_,_,rfl,rfl,(a44 413 82),rfl,_,aI,?_,?_⟩
   ·rw[ba,eS];rw[A14 (show 255 by lia)]
   ·rw[gp,dZ ai,d5];show _=upd H D (dz.lst (_++[d89 (x%82) 0]));rw[←bN x]
  ·rintro H1 rfl;rw[fa,eK];rw[A63 (d70 (d89 (x%82) 0)) cO];have aqG:(d70 (d89 (x%82) 0))=(d70 (532 (x%82))).map ae.bN:=by rw[gP];rfl
   refine⟨D,d70 (532 (x%82)),rfl,32 (by rw[aI,aqG]),_,rfl,?_⟩;have v_:(d70 (532 (x%82))).all id=fw.all (72 (532 (x%82))):=by rw[GG];rfl
   rw[v_];unfold rr at eE cS;refine eo 356 356
   ·rw[114]at eE;exact eE rfl _ s1
   ·rw[208]at eE cS;generalize 34 H D (d70 (d89 (x%82) 0))=H1 at s1⊢;refine⟨_,rfl,d,_,rfl,306 (s1 _ _ hd),_,rfl,82,rfl,g82⟩;have s2:=964 (.pz 0 82) rL;refine⟨t9,k,rfl,aI,03,g87⟩;have s3:=593 944 jz;rw[fa];refine⟨cl,k80,aT 763,rfl,32 (by rw[aI,sG]),478 ax,by rw[fa,nM,iP];exact aS,618 (q36 (Jq aS (cX hi ax))),q35 ?_⟩;replace i7:=aaS i7;have mV:=547 332 s3 s4;refine⟨p,rfl,223 i7.lst,hN (K:=K) (a:=p) (xs:=992) (505 (∃fb v4:93,σ=[46 m,872,71 k,fb,v4]∧480 bP∧g36 (442 c21) (! 532 (hc ws fw%82)&&oa ws ms 82)=00)) ⟨00,00,rfl,881 bP,rfl⟩ (fun i σ H' _⟨_,_,_,s5,_⟩=>32 (s5 _ _ i7.lst)) ?_ ?_⟩
    ·rintro i y σ de aC⟨fb,v4,rfl,s5,cy⟩;obtain⟨a,ws,aN,q4,rfl,eM⟩:=i7.get aC;have Ep:g07:=k81 (yD (cG q4));have yE:(! 532 (hc ws fw%82)&&oa ws ms 82)=09→g36 (221 c21 (i+1)) (! 532 (hc ws fw%82)&&oa ws ms 82)=00:=100 (by rw[dZ q4,EC,cy];simp[jK,e]);refine⟨_,rfl,_,rfl,a,d,ws,fw,rfl,32 (s5 _ _ eM),32 (s5 _ _ (mV _ _ hd)),Ep,DA,o09 ?_⟩;refine⟨_,rfl,_,_,rfl,rfl,(a44 413 82),rfl,_,rfl,eo a61 a61⟩
     ·have d9:(! a33 (hc ws fw%82) 0)=01:=d9;rw[bN]at d9;refine⟨_,rfl,_,rfl,_,rfl,a,m,as,ws,ms,82,rfl,32 (310 (s5 _ _ eM)),((hm.same mV).same s5).same cW,Ep,nO,03,fun gS e1=>123 (eo (fun gq=>?_) (fun gq=>?_))⟩
      ·refine 123 (cS ws ?_ gS a (547 j07 cW e1) (e1 _ _ (310 (s5 _ _ eM))));have e:c21=442 c21++ws::473 c21 (i+1):=f63 (162 (i+1) c21) q4;rw[e,EC,cy,jK,d9,gq];rfl
      ·exact⟨_,_,rfl,35 j08 e1,yE (by rw[d9,gq];rfl)⟩
     ·have d9:(! a33 (hc ws fw%82) 0)=09:=d9;rw[bN]at d9;exact b_ ⟨_,_,rfl,j08,yE (by rw[d9];rfl)⟩
    ·rintro σ de⟨fb,v4,rfl,s5,cy⟩;rw[ba,i7.len,eK]at cy;exact eE cy de j07
structure t_(H:av)(p:ag)(aD:27)(ps:336):04 where
 lst:H p=247 587
 len:n94=744
 pair:∀(i:Nat)(t:ag)(q:527),aD[i]?=some t→ps[i]?=796→∃a,H t=f00∧H a=e86
theorem t_.same{ps:336}(h:t_ H p aD ps)(e:49):t_ H' p aD ps:=⟨e _ _ 572,h.len,fun i t q af ak=>o77 (h.pair i t q af ak) ⟨a,e _ _ x,e _ _ y⟩⟩
theorem t_.get{ps:336}(h:t_ H p aD ps)(aC:q02 i=270):∃t q a,ps[i]?=796∧y=784∧H t=f00∧H a=e86:=by
 rw[A58]
 cases e:aD[i]? with|none=>rw[A30];cases aC|some t=>rw[A30];obtain⟨q,aw⟩:∃q,ps[i]?=796:=126 (i37 e);obtain⟨a,x,z⟩:=h.pair i t q e aw;exact⟨t,q,a,aw,129 aC,x,z⟩
structure P2(width:Nat)(q:527):04 where
 col:q.1<97
 len:q.2.length=97
 nO:∀x∈q.2,kf x
 iL:ik q≠0
theorem kf.abs{x:Int}(h:kf x):986<2^402:=o80 h.1 h.2
theorem uQ{l:10}(h:i<63):115=some (835 i):=165 h
theorem aaU:∀(ps:336)(s:Int),(097 (743 (ik q)<2^402))→743 (f85 (s*958) s)≤s.natAbs*(2^402)^744|[],s,_=>19|q::r,s,h=>by rw[hv,dR];refine cX (aaU r _ (b35 (h z (005 hz)))) ?_;rw[Cy,UG,MM,Nat.mul_assoc];refine PR _ ?_;rw[CG];exact PR _ (xH (h q 999))
theorem aaV(h:n<2^0x190):n.log2<9000:=by
 rw[A06 n 0]
 ·rw[e];decide
 ·have:=(Nat.log2_lt e).mpr h;lia
theorem ED:∀(ps:336)(g:527→Int)(w:10),11 (g84 (g q) w)=218|[],_,_=>rfl|q::r,g,w=>by rw[hv,ED r,mC]
theorem aaW{B:Nat}:∀(ps:336)(g:527→Int)(w:10),(097 (743 (g q)<B))→(∀x∈w,986<B)→∀x∈g84 (g q) w,986<B
 |[],_,_,_,hw=>hw
 |q::r,g,w,a4,hw=>by
  rw[hv];refine aaW r g _ (b35 (a4 z (005 hz))) 333;rcases aqH ai with h|h
  ·exact hw x h
  ·rw[h];exact a4 q 999
theorem aqI{ps:336}{free width:Nat}(h:097 (P2 97 q))(ax:744≤4)(hf:509<97):743 c50≤2^0x100∧∀x∈qo ps 509 97,986<2^0x190:=by
 have au:097 (743 (ik q)<2^402):=330 ((h q aw).nO _ (cG (uQ (364 (h q aw).len (h q aw).col)))).abs;have af:743 c50≤2^0x100:=by
  refine cX (aaU ps 1 au) ?_;rw[Int.natAbs_one,pv];calc
   (2^0x40)^ps.length≤(2^0x40)^4:=A9 (by decide) ax
   _=2^0x100:=by decide
 rw[A03 af (aaW ps _ _ 458 333)]
 ·unfold Gb;rw[Int.natAbs_neg];refine fL (Int.natAbs_fdiv_le_natAbs _ _) ?_;rw[Cy];have ak:743 (c13 509)<2^402:=((h q aw).nO _ (cG (uQ (by rw[(h q aw).len];exact hf)))).abs;calc
  (q.2.getD free 0).natAbs*(lZ ps).natAbs≤2^0x40*2^0x100:=wa (xH ak) af
  _<2^0x190:=by decide
 ·have big:(2:Nat)^0x100<2^0x190:=14;rcases aqH ai with ak|ak
  ·rw[(List.mem_replicate.mp ak).2];decide
  ·rw[ak];exact fL af big
abbrev aaX:bK:=bA 0xe
theorem aaY:31 [366,095,428,"scale",742,243,573] [366,095,428] aaX:=⟨rfl,rfl,rfl,05,rfl,05,05⟩
inductive P4(vs:08)(H:av)(Q:aW)(E:bD):04|mk:∀(p:ag)(aD:27)(ps:336)(free width:Nat),vs=[280,48 509,48 97]→t_ H p aD ps→(097 (P2 97 q))→744≤4→509<97→97≤4→(∀H' r,49→H' r=79 (o8 ps 509 97)→435 r)→P4 vs H Q E
theorem aqJ(D:cq K ah o73 aaX [366,095,428] f fd)(O:347)(A6:Pr P w K ah 02 aO 2 l13 [243] (IS K)):Pr P w K ah 02 aO 3 o73 [366,095,428] P4:=by
 rw[A02 aaY]
 ·obtain⟨p,aD,ps,free,width,rfl,_⟩:=h;rfl
 ·obtain⟨p,aD,ps,free,width,rfl,au,bB,ax,hf,hw,k⟩:=h;have S:=aaY;rw[A01 (90 3 bu (e_ eL rfl j82 (tQ K rfl (n:=2) rfl (kX (98 4 rfl 70) (kX (98 5 rfl 70) tF))) (aM (94 3 (eu vB 85 (d6 WY 66 O.abs boot_abs (78 (440 463 327))))))) (90 6 (eu amd e21 45) (Wv 85 (Wu 868 62 TS)) (239 (e_ eL rfl j82 (tQ K rfl (n:=2) rfl (kX (98 4 rfl 70) (kX (98 5 rfl 70) tF))) (aM (Wv (Na Nb (eu apb (eu vB (440 463 62) 85) (440 463 327))) (Wu 868 327 TS)))) (d37 A6 6))))];obtain⟨H2,aaZ⟩:=aqI bB ax hf;have gt:∀{q:527}{i:Nat},q∈ps→i<97→(aT q.2)[i]?=601 (c13 i):=fun{q i:_}aw hi=>by rw[aT,cK,uQ (l11 (bB q aw).len)];rfl
  have nO:∀{q:527}{i:Nat},q∈ps→i<97→kf (c13 i):=fun{q i:_}aw hi=>(bB q aw).nO _ (cG (uQ (l11 (bB q aw).len)));refine⟨_,rfl,p,rfl,223 au.lst,hN (K:=K) (a:=p) (xs:=587) (i66 93 (σ=[444,71 509,71 97,601 (lZ (ps.take i)),v4,ew,00]∧H'=H)) ⟨00,00,rfl,rfl⟩ (fun i σ H' _⟨_,_,_,e⟩=>683 au.lst) ?_ ?_⟩
  ·rintro i y σ H' aC⟨v4,ew,rfl,rfl⟩;rw[C46 (au.get aC)];have fB:=cG aw;have Bb:=(bB q fB).col;refine⟨t,_,rfl,g85,rfl,_,_,rfl,_,_,rfl,rfl,_,rfl,_,rfl,_,rfl,a,aT q.2,_,.int (ik q),rfl,rfl,32 aN,fm (gt fB Bb),_,rfl,?_⟩;rw[Zt];refine⟨_,_,rfl,rfl,.inr ?_,71 q.1,248,?_,rfl⟩
   ·have:=(nO fB Bb).abs;show-(2^402)<958∧958<2^402;unfold ik;lia
   ·have e:lZ (ps.take (i+1))=lZ (ps.take i)*958:=AX _ _ aw;rw[e];rfl
  ·rintro σ H1⟨v4,ew,rfl,rfl⟩;rw[ba,au.len,eK];rw[A03 371 (fun l t8=>⟨_,rfl,l,k12,_,rfl,rfl,aI,03,03,?_,fun wb aa0=>?_⟩)]
   ·rw[kA];exact 826
   have EE:c00 (271 k12) [426 0]=aT (iM 97 0):=by
    rw[kA,aT,List.map_replicate];clear k aaZ hf bB gt nO hw
    induction width with|zero=>rfl|succ n ih=>rw[Aj,Aj,qs,ih];rfl
   rw[EE];have aa1:∀(l:10)(i:Nat)(x:Int),(aT l).set i (.int x)=aT (l.set i x):=fun l i x=>by rw[aT,aT,List.map_set]
   have s2:=35 (293 [372] t8) (293 (aT (iM 97 0)) aa0);have aqK:H1 wb=00:=(293 [372] t8).free aa0;have hE:∀{dM:av}{o:dz},aA H1 dM→aA H1 (upd dM wb o):=fun{dM o:_}e b u z=>364 (110 z aqK) (e b u z);refine⟨_,rfl,_,rfl,_,rfl,wb,_,_,509,rfl,rfl,aI,IV (by rw[fa,ph];exact hf),?_⟩;rw[aa1];refine⟨_,rfl,p,rfl,223 (hE s2 _ _ au.lst),hN (K:=K) (a:=p) (xs:=587) (i66 93 (σ=[444,71 509,71 97,601 c50,v4,ew,46 wb]∧a94∧H' wb=79 ((ps.take i).foldl (fun w q=>i72 (Gb 509 c50 q)) ((iM 97 0).set 509 c50)))) ⟨v4,ew,rfl,hE s2,aI⟩ (l73 _ _ au.lst) ?_ ?_⟩
   ·rintro i y σ a5 aC⟨EF,El,rfl,s3,Bc⟩;rw[C46 (au.get aC)];have fB:=cG aw;have Bb:=(bB q fB).col;have aqL:=(bB q fB).iL;have Js:=(nO fB Bb).abs;refine⟨t,_,rfl,448 (83 bk),rfl,_,_,rfl,_,_,rfl,rfl,_,rfl,_,rfl,a,aT q.2,_,.int (c13 509),rfl,rfl,32 (s3 _ _ aN),fm (gt fB hf),_,rfl,_,_,rfl,rfl,.inl (nO fB hf),_,rfl,_,rfl,a,aT q.2,_,.int (ik q),rfl,rfl,32 (s3 _ _ aN),fm (gt fB Bb),_,_,rfl,rfl,⟨aqL,aaV (jN Js 14)⟩,_,rfl,_,rfl,_,rfl,wb,_,_,q.1,rfl,rfl,Bc,IV (by rw[fa,ED,mC,ph];exact Bb),?_⟩;refine⟨71 q.1,248,rfl,hE s3,?_⟩;rw[aI,AX _ _ aw];exact 824 (j74 z) (aa1 _ _ _)
   ·rintro σ a5⟨EF,El,rfl,s3,Bc⟩;rw[ba,au.len,eK]at Bc;have Bc:a5 wb=79 (qo ps 509 97):=Bc;refine⟨_,rfl,wb,qo ps 509 97,rfl,Bc,?_,aaV (PQ 14 _ 0 14 aaZ),fun bP r s4 bH=>k bP r b87 bH⟩;unfold qo;rw[ED,mC,ph];lia
theorem kH(a b:Int):a33 a b=29 (a=b):=by
 rw[A06 a b]
 ·rw[e];simp
 ·rw[132,150 (e k73)]
abbrev aa2:bK:=bA 0x4f
theorem aqM:31 e43 e43 aa2:=⟨rfl,rfl,rfl,05,rfl,05,05⟩
inductive Jt(vs:08)(H:av)(Q:aW)(E:bD):04|mk:∀b:Int,vs=[.int b]→446 (Cf b)→Jt vs H Q E
theorem aqN(D:cq K ah k94 aa2 e43 f fd)(P5:220 o51 535)(aqO:220 "LAST_LETTER" 0x7a):Pr P w K ah 02 aO 1 k94 e43 Jt:=by
 rw[A02 aqM]
 ·obtain⟨b,rfl,_⟩:=h;rfl
 ·obtain⟨b,rfl,k⟩:=h;rw[A01 (65 (ak9 z9 z9 (dq P5) 252 (dq aqO)))];refine⟨_,rfl,_,_,rfl,rfl,_,rfl,eo 356 356⟩
  ·rw[Cf,h,w3]at k;exact⟨_,_,rfl,rfl,k⟩
  ·rw[Cf,h,zu]at k;exact k
abbrev aa3:bK:=bA 0x4d
theorem aa4:31 [576,226,"in_remark",f37] 774 aa3:=⟨rfl,rfl,rfl,05,rfl,05,05⟩
inductive P6(K:bo)(vs:08)(H:av)(Q:aW)(E:bD):04|mk:∀(t:ag)(ns:10)(pl:Nat),vs=[784,937]→063 t→pl≤314→Q (48 (pl+mw 09 (976 pl):Nat)) H→P6 K vs H Q E
theorem aqP{pl:Nat}{b:Int}(h:ns[pl]?=360):976 pl=b::976 (pl+1):=by have:=eI h;rw[aa5 246];rw[cA 246]at h;rw[cI h]
theorem aqQ{ab:ag}(D:cq K ah o47 aa3 774 f fd)(O:443)(aqR:220 "LINE_FEED" 0xa)(aqS:220 "REMARK" 311)(aqT:d7 ah "BLANKS" (.ref ab))(fY:∀H,dX K H ab (a_ [9,0xa,0xd,0x20])):Pr P w K ah 02 aO 1 o47 774 (P6 K):=by
 rw[A02 aa4]
 ·obtain⟨t,ns,pl,rfl,_⟩:=h;rfl
 ·obtain⟨t,ns,P7,rfl,bk,aqU,k⟩:=h;have S:=aa4;rw[A01 (389 2 l8 (tG eL (bM ka (J 1) (d6 (hO K rfl) 66 O.len eJ 029) (bO _)) (90 3 (440 252 62) (bX (bM fv (J 3) (dq aqR) (bO _)) (aM (94 2 l8)) (aM (bX (bM fv (J 3) (dq aqS) (bO _)) (aM (94 2 l8)) (aM (bX (vu (g91 45) (xM (bM (D6 K rfl) 85 (dq aqT) rfl))).pt (aM akx) b2))))) (aM (Di (i:=1) 242 rfl 70 bu z2)))) 62)];generalize aqV:P7+mw 09 (976 P7)=fin at k;refine M7 (o79 (∃(pl:Nat)(inr:Bool)(v:93),σ=[531,71 pl,c53 inr,v]∧H'=H∧pl≤314∧pl+mw inr (976 pl)=fin)) (fun σ _=>match σ with|[_,some (.int n),_,_]=>314-f31|_=>0) ⟨P7,09,00,rfl,rfl,aqU,aqV⟩ ?_ ?_
  ·rintro σ H1⟨pl,inr,v,rfl,rfl,eH,hf⟩;refine⟨_,rfl,_,rfl,t,_,rfl,.inl bk,_,_,rfl,rfl,_,rfl,359⟩
   ·have cM:pl<314:=by have:=104;rw[fa]at this;lia
    obtain⟨b,aa⟩:∃b,ns[pl]?=360:=126 cM;have hd:=aqP aa;rw[hd]at hf;refine⟨_,rfl,_,rfl,t,039,_,.int b,rfl,rfl,bk,fm (by rw[aT,cK,aa];rfl),?_⟩;refine⟨_,rfl,rfl,_,rfl,?_⟩;rw[kH];have yE:∀Ju:Bool,pl+(mw Ju (976 (pl+1))+1)=fin→(∃(Jv:Nat)(aa6:Bool)(vr:93),([531,601 (15 pl+1),c53 Ju,601 b]:bq)=[531,71 Jv,c53 aa6,vr]∧H1=H1∧Jv≤314∧Jv+mw aa6 (976 Jv)=fin)∧314-271 (15 pl+1)<314-271 (15 pl):=fun Ju e=>⟨⟨pl+1,Ju,_,rfl,rfl,03,03⟩,(88 (314-(pl+1)<314-pl) (apI cM (zG pl)))⟩;refine eb (fun C0=>?_) (fun C0=>?_)
    ·have xB:b=0xa:=121 C0;rw[mw,21 xB]at hf;exact⟨_,rfl,_,_,rfl,rfl,yE 09 hf⟩
    ·have xB:¬b=0xa:=16 (C0 139);rw[mw,23 xB]at hf;refine⟨_,rfl,rfl,_,rfl,?_⟩;rw[kH];refine eb (fun P8=>?_) (fun P8=>?_)
     ·rw[21 (121 P8)]at hf;exact⟨_,rfl,_,_,rfl,rfl,yE 01 hf⟩
     ·rw[136 (P8 139)]at hf;refine⟨_,rfl,_,rfl,?_⟩
      cases inr with
       |true=>rw[142]at hf;exact b_ (b_ ⟨_,rfl,_,_,rfl,rfl,yE 01 hf⟩)
       |false=>
        refine c8 ⟨_,rfl,ab,a_ [9,0xa,0xd,0x20],rfl,.inr (fY H1),rfl,Ea _,_,rfl,?_⟩;rw[IM];have eG:([9,0xa,0xd,0x20].any (h29 (29 (44=b))))=zl b:=rfl;rw[eG]
        cases hR:zl b with|true=>rw[hR,142]at hf;exact b_ ⟨_,rfl,_,_,rfl,rfl,yE 09 hf⟩|false=>rw[hR,213]at hf;refine c8 951;rw[←hf]at k;exact k
   ·have qX:pl=314:=by have h':¬15 pl<320 039:=152 z;rw[fa]at h';lia
    rw[qX,aa7]at hf;have hf:314+0=fin:=hf;rw[A01 rfl];rw[←hf]at k;rw[qX];exact k
  ·rintro σ H1 Zu Zv aw⟨v1,aK,v2,aG,p,ys,c0,aL,i,j,hg,tW,b0,mA,q⟩;exact⟨v1,aK,v2,aG,p,ys,c0,aL,i,j,hg,tW,b0,mA,aw _ _ q⟩
theorem Jw{bs:27}(h:r≠[])(e:479=aT r):False:=by
 cases bs with
  |nil=>cases r with|nil=>exact h rfl|cons x y=>cases e
  |cons a b=>cases r with|nil=>cases e|cons x y=>injection e with e _;cases e
def iG:240 Nat|0=>12|n+1=>2*iG n*iG n
def jf(width B:Nat)(r:10):04:=230=97∧096 (986≤B)
structure sH(width i:Nat)(st:sW):04 where
 jg:565 st.2 (e71 i r)
 pl:c19 (e71 i q.2∧q.1<i)
 iQ:f43≤i
theorem aqW{B:Nat}(h:096 (986≤B)):∀x∈b02,986≤B:=by
 unfold jH;split
 ·exact h
 ·rw[A74];rw[A84 ai];exact cX (Int.natAbs_ediv_le_natAbs _ _) (h z hz)
theorem P9(r:10):11 b02=230:=q97
theorem Bd{w B:Nat}{J:10}{c:Nat}(aq:jf w B r)(au:jf w B J):jf w (2*B*B) (fq r J c):=by
 have lT:∀{l:10},jf w B l→743 (835 c)≤B:=fun{l:_}h=>by
  by_cases e:c<63
  ·exact h.2 _ (cG (uQ e))
  ·rw[cZ,140];exact 229
 rw[A27 ?_]
 ·unfold fq;rw[P9,qw,aq.1,au.1,Nat.min_self]
 ·refine aqW 333;rw[A86 ai];rw[zB]at hi
  cases aK:r[i]? with
   |none=>rw[aK]at hi;cases hi
   |some a=>
    cases aG:J[i]? with
     |none=>rw[B82];cases hi
     |some b=>
      rw[B82];have e:a*793-b*611=x:=cI hi;rw[←e];have hx:743 (a*793)≤B*B:=by rw[Cy];exact wa (aq.2 a (cG aK)) (lT au)
      have ip:743 (b*611)≤B*B:=by rw[Cy];exact wa (au.2 b (cG aG)) (lT aq)
      rw[Nat.two_mul,pq];exact cX (aqv _ _) (aa8 hx ip)
theorem aa9(n:Nat):iG n≤iG (n+1)∧12≤iG n:=by
 have iN:12≤iG n:=by
  induction n with
   |zero=>exact 64
   |succ n ih=>
    show 12≤2*iG n*iG n;calc
     12≤2*12*12:=by decide
     _≤2*iG n*iG n:=wa (PR 2 ih) ih
 rw[A03 ?_ iN];show iG n≤2*iG n*iG n;calc
  iG n=1*iG n:=(pv _).symm
  _≤2*iG n*iG n:=CJ _ (by lia)
theorem jf.up{w B C:Nat}(h:jf w B r)(e:B≤C):jf w C r:=⟨h.1,276 (cX (h.2 x ai) e)⟩
theorem sH.elim{width i:Nat}{st:sW}(h:sH 97 i st):sH 97 (i+1) (elim i st):=by
 have up:=(aa9 i).1;unfold Internal.elim
 cases e:f82 865 with
  |none=>exact⟨725 ((h.jg r aq).up up),330 ⟨(h.pl q aw).1.up up,564 (h.pl q aw).2⟩,cX h.iQ (xt i)⟩
  |some J=>
   have kq:=h.jg J (nq e);rw[A20 c23 458]
   ·rw[A84 aq];exact Bd (h.jg z hz) kq
   ·rw[A85 aw]
    ·rw[A84 aw];exact⟨Bd (h.pl z hz).1 kq,by have:=(h.pl z hz).2;show z.1<i+1;lia⟩
    ·rw[A78];exact⟨kq.up up,a44 i (i+1)⟩
   ·rw[cn,ba];have:=h.iQ;simp;lia
theorem Jx(h:i≤3){x:Int}(ai:986≤iG i):kf x:=by
 have af:iG i≤55037657088:=by match i,h with|0,_=>decide|1,_=>decide|2,_=>decide|3,_=>decide
 unfold kf;lia
theorem aba(K:bo)(cj:X.K=K)(bp:e38<kb):gs X (jv .Eq) (N1 K):=740 (amA bp)
abbrev EG:bK:=bA 12
theorem abb:31 [540,428,366,l10,742,243,l09,l08,974] [540,428] EG:=⟨rfl,rfl,rfl,05,rfl,05,05⟩
inductive P_(vs:08)(H:av)(Q:aW)(E:bD):04|mk:∀(p:ag)(as:27)(rows:99)(width:Nat),vs=[280,48 97]→mT H p as 17→667≤8→97≤4→(b44 (jf 97 12 r))→(∀H' pp aD,49→t_ H' pp aD (gO 17 97).1→435 pp)→P_ vs H Q E
theorem Qa{H:av}:∀(as:27)(rows:99),i77→(d61 10 (325=533) (775=447→H a=716))→tN K H 317 g41
 |[],[],_,_=>89
 |[],_::_,h,_=>806
 |_::_,[],h,_=>806
 |a::as,r::rows,h,aq=>by
  refine .cons (d85 (aq 0 a r rfl rfl) ?_) (Qa as 17 967 (fun i b q af ak=>aq (i+1) b q af ak));clear h aq
  induction r with|nil=>rw[A40]|cons x y ih=>exact 920 (.int x)
theorem abc{us:27}{ps:336}{u:ag}{q:527}(len:b79)(pr:∀(n:Nat)(v:ag)(z:527),us[n]?=54→ps[n]?=415→∃a,H' v=294 [769,38]∧H' a=79 z.2)(bp:∃a,H' u=f00∧H' a=e86):11 (us++[u])=11 (ps++[q])∧∀(n:Nat)(v:ag)(z:527),(us++[u])[n]?=54→(ps++[q])[n]?=415→∃a,H' v=294 [769,38]∧H' a=79 z.2:=by
 rw[A03 q96 (o76 ?_)];rw[A65 (n<892)]
 ·rw[mN hi]at af;rw[mN 03]at ak;exact pr n v z af ak
 ·rw[166]at af ak;have dw:n-892=0:=l81 af;rw[dw]at af;rw[←len,dw]at ak;have aK:u=v:=cI af;have aG:q=z:=cI ak;rw[B52];exact bp
theorem Jy{u:ag}{bs:27}{o:dz}{q:527}(cO:H D=036)(aw:q.2≠[])(h:∃a,H u=f00∧H a=e86):∃a,upd H D o u=f00∧upd H D o a=e86:=by obtain⟨a,af,ak⟩:=h;refine⟨a,553 af cO af,41 522 ak⟩;rw[z,cO]at ak;exact 189 aw (cI ak)
theorem abd(rows:99):vK (q5 g41)=01:=by
 have af:∀r:10,wc f72=01∧wd f72=0:=by
  intro r
  induction r with|nil=>rw[C13]|cons x y ih=>exact⟨by simp[wc,Jz,ih.1],by simp[wd,JA,ih.2]⟩
 have ak:wc g41=01∧wd g41≤1:=by induction rows with|nil=>rw[C13]|cons r t ih=>rw[A27 (by simp[wc,Jz,(af r).1,ih.1])];simp[wd,JA,(af r).2];have:=ih.2;lia
 unfold vK;simp[Jz,JA,ak.1];have:=ak.2;lia
theorem aqX(rows:99):vL (q5 g41) (q5 [])=rows.isEmpty:=by cases rows with|nil=>simp[vL,EH]|cons a b=>simp[vL,EH]
theorem Qb{α:272}(f:936):∀l:40,h74 f=(f44 f).head?
 |[]=>rfl
 |a::l=>by
  rw[jK,iO]
  cases h:f a with|true=>rfl|false=>exact Qb f l
theorem aqY(D:cq K ah o74 EG [540,428] f fd)(O:347)(JB:Pr P w K ah 02 aO 3 o78 [243,b56,742] PU):Pr P w K ah 02 aO 4 o74 [540,428] P_:=by
 rw[A02 abb]
 ·obtain⟨p,as,rows,width,rfl,_⟩:=h;rfl
 ·obtain⟨p,as,rows,width,rfl,au,vg,hw,eM,k⟩:=h;have S:=abb;rw[A01 (90 2 556 (94 3 252) (239 (e_ eL rfl (c92 296) (98 4 rfl e92) (aF (qT (i:=6) rfl 242 rfl rfl 876 (339 85) (own:=[(243,5)]) (295 [540,428,366,l10,742,243,l09,l08,974] EG) h09 (e46 (bM k4 (440 463 327) bu (bO _))) (286 463)) (aF (bX (bM (aba K rfl f05) (J 6) 556 (bO _)) (aM Hl) b2) (aF (953 7 (440 868 bu)) (aF (qT (i:=2) rfl 242 rfl rfl 876 (339 45) (own:=[(974,8)]) (295 [540,428,366,l10,742,243,l09,l08,974] EG) (925 8) 369 (286 (oC (258 (e6 (oJ K rfl) (J 8) bu 630) (926 JB (e6 (oJ K rfl) (J 8) bu 630) (462 7 4)))))) (434 (qT (i:=3) rfl 242 rfl rfl 876 (339 85) (own:=[(243,5)]) (295 [540,428,366,l10,742,243,l09,l08,974] EG) h09 369 (286 (437 JB 5 7 4))) (fK (hD K rfl h9 sC sD qQ 45 (78 (oC (462 4 7))))))))))) 45))];rw[A33 (fun aqZ aq0=>951)];have s0:=293 [] aq0;have LK:sH 97 0 (gO 17 0):=⟨eM,b86,229⟩;refine⟨_,rfl,k12,rfl,03,03,xV (lo:=0) (n:=271 k12) (505 (∃(pp eV:ag)(aD as':27)(v4 ew v6 fM ia:93),σ=[444,71 97,46 pp,46 eV,v4,ew,v6,fM,ia]∧49∧t_ H' pp aD (491).1∧mT H' eV as' (491).2∧sH 97 i 491∧(491).2.length≤8)) ⟨aqZ,p,[],as,00,00,00,00,00,rfl,s0,⟨aI,rfl,fun i t q h=>501⟩,au.same s0,LK,vg⟩ ?_ ?_⟩
  ·rintro i σ H1 hi⟨pp,eV,aD,as',v4,ew,v6,fM,ia,rfl,s1,dH,cH,ok,JC⟩;have EB:i≤3:=03;have ua:i<97:=03;have aq1:413+249=249:=03;rw[108 (gO 17 (i+1)) b04];generalize 491=st at dH cH ok JC⊢;rw[aq1];have we:=ok.elim;refine⟨_,rfl,eV,rfl,223 d00,436⟩;refine kC (K:=K) (a:=eV) (xs:=m53) (877 (∃cs:27,H'=g55∧383=11 (m70 j 865)∧∀(n:Nat)(a:ag)(r:10),cs[n]?=533→((st.2.take j).filter (fun r=>! decide (r.getD i 0=0)))[n]?=447→H1 a=716)) (072 [] (fun n a r h=>501)) (q32 (683 (335 d00 cO d00))) ?_ ?_
   ·rintro j y H' aC⟨cs,rfl,hlen,iD⟩;rw[D31 (cH.get aC)];have v9:=(ok.jg r e65).1;refine⟨rfl,_,rfl,_,rfl,a,aT r,_,.int b09,rfl,rfl,32 (335 EI cO EI),fm (by rw[aT,cK,uQ (by rw[v9];exact ua)];rfl),rfl,_,rfl,?_⟩;rw[kH];have gC:∀b,(865)=b→m70 (j+1) 865=m70 j 865++(39 b [r] []):=i27 (dZ c1);refine eo 486 486
    ·refine⟨_,rfl,_,aI,?_,cs++[a],?_,?_⟩
     ·rw[ba,hlen];refine fL (88 255 ?_) 14;refine 164 _ _;rw[eS];lia
     ·rw[gp,d5];rfl
     ·rw[gC 01 aa];exact Ex (H:=H1) (H':=H1) (p:=D) 568 iD EI
    ·rw[gC 09 aa];rw[C08 cs rfl q31]
   ·rintro aB⟨cs,rfl,hlen,iD⟩;rw[ba,cH.len,eK]at hlen iD;rw[A77 634 cO];have aBq:tN K g55 634 (688 (i59 865) m05):=Qa cs _ 568 (fun n a r af ak=>106 (iD n a r af ak));refine⟨_,rfl,229,h24 ?_⟩;have s3:=b50 (293 [] he);have oP:334 g55 e [] D=247 634:=335 aI he aI;have abe:334 g55 e [] e=247 []:=aI;generalize 34 g55 e []=a5 at s3 oP abe⊢;refine⟨_,_,d85 oP (Qa cs _ 568 (fun n a r af ak=>83 (iD n a r af ak))),d85 abe 89,abd _,abd [],_,rfl,?_⟩;rw[aqX];refine eo (fun JD=>?_) (fun JD=>?_)
    ·have hf:i59 865=[]:=aBr.mp JD;have JE:elim i st=st:=by unfold elim;rw[Qb,hf];rfl
     rw[JE]at we;rw[JE];exact⟨pp,eV,aD,as',_,_,_,_,_,rfl,j09,dH.same s3,g39,we,JC⟩
    ·obtain⟨J,rest,hf⟩:∃J rest,i59 865=J::67:=by cases q:i59 865 with|nil=>rw[q]at JD;cases JD|cons a b=>exact⟨a,b,rfl⟩
     have abf:f82 865=some J:=by rw[Qb,hf];rfl
     have JE:elim i st=(a18 (q.1,fq q.2 J i)++[(i,J)],st.2.map (429 (fq r J i))):=by unfold elim;rw[abf]
     obtain⟨lJ,Js⟩:∃lJ,cs[0]?=some lJ:=126 (by rw[hlen,hf];simp);have kq:=83 (iD 0 lJ J Js (by rw[hf];rfl));have Be:=ok.jg J (nq abf);rw[JE]at we⊢;have abg:∀x∈J,kf x:=276 (Jx EB (Be.2 x ai));refine⟨_,rfl,D,634,_,.ref lJ,rfl,rfl,32 oP,fm (j:=0) (by rw[cK,Js];rfl),?_⟩;have yF:=dH.same s3;have q6:=g39;have nonempty:∀{r:10}{B:Nat},jf 97 B r→r≠[]:=fun{r B:_}h z=>by have:=h.1;rw[z]at this;simp at this;lia
     refine⟨_,rfl,pp,rfl,223 yF.lst,fun d2 oO=>?_⟩;refine kC (K:=K) (a:=pp) (xs:=587) (877 (480 a5∧∃us:27,H' d2=247 a24∧892=11 (528 (a18 (q.1,fq q.2 J i)))∧∀(n:Nat)(u:ag)(q:527),us[n]?=56→((st.1.map (fun q=>(q.1,fq q.2 J i))).take j)[n]?=796→∃a,H' u=f00∧H' a=e86)) ⟨422 oO,[],aI,rfl,fun n u q h=>501⟩ (fun j H' _⟨s4,_⟩=>g44 yF.lst) ?_ ?_
     ·rintro j y H' aC⟨s4,us,fp,yG,yH⟩;rw[C46 (yF.get aC)];have EJ:=(ok.pl q (cG aw)).1;have p4:=103 bk;have eq:(st.1.map (fun q=>(q.1,fq q.2 J i)))[j]?=some (q.1,fq q.2 J i):=by rw[cK,aw];rfl
      refine⟨rfl,_,rfl,t,_,_,a38,rfl,rfl,448 p4,f02,_,rfl,t,_,_,38,rfl,rfl,448 p4,e61 1,_,rfl,_,rfl,a,lJ,q.2,J,i,rfl,103 aN,103 kq,by rw[EJ.1];exact hw,by rw[Be.1,EJ.1],by rw[EJ.1];exact ua,276 (Jx EB (EJ.2 x ai)),abg,fun de iw s5 JF=>⟨338,l07 ?_⟩⟩;have cW:=s5.trans (822 [a38,e87] bp);have abh:upd de u (.tup [a38,e87]) u=294 [a38,e87]:=aI;have Bf:=(822 [a38,e87] bp) _ _ JF;generalize 388 de u [a38,e87]=ft at cW abh Bf⊢;have wg:=310 fp;rw[dZ eq];rw[B04 (abc (H':=34 ft d2 (a24++[.ref u])) (u:=u) (q:=(q.1,fq q.2 J i)) yG (o76 (Jy wg (d21 (we.pl z (j57 (qp (cG ak)))).1) (o77 (yH n v z af ak) ⟨a,310 x,310 y⟩))) (Jy wg (d21 (Bd (c:=i) EJ Be)) ⟨iw,abh,Bf⟩))];refine⟨_,wg,?_,924,us++[u],?_,cR,dS⟩
      ·rw[ba,yG,eS,ba];rw[A14 (show 255 by have:=ok.iQ;lia)]
      ·rw[aE (88 (b≠d2) (452 (by rw[w,oO]at z;cases z)))];exact 310 (103 z)
      ·rw[A52];rfl
     ·rintro bP⟨s4,us,fp,yG,yH⟩;have c4:221 (a18 (q.1,fq q.2 J i)) (11 587)=a18 (q.1,fq q.2 J i):=si (by rw[ba,ba,yF.len];exact 64);rw[c4]at yG yH;have jD:=q6.same s4;have abi:=103 kq;refine⟨_,rfl,eV,rfl,223 jD.lst,fun dE Qc=>?_⟩;refine kC (K:=K) (a:=eV) (xs:=m53) (877 (480 bP∧∃bs:27,H' dE=036∧890=11 (528 (st.2.map (429 (fq r J i))))∧m10 (bs[n]?=360→((st.2.map fun r=>fq r J i).take j)[n]?=447→244=716))) ⟨422 Qc,[],aI,rfl,l80⟩ (fun j H' _⟨s5,_⟩=>32 (s5 _ _ jD.lst)) ?_ ?_
      ·rintro j y H' aC⟨s5,bs,wh,hR,f7⟩;rw[D31 (jD.get aC)];have k_:=ok.jg r e65;have eq:(st.2.map fun r=>fq r J i)[j]?=some (fq r J i):=by rw[cK,c1];rfl
       refine⟨rfl,_,rfl,_,rfl,_,rfl,a,lJ,r,J,i,rfl,s5 _ _ EI,s5 _ _ abi,by rw[k_.1];exact hw,by rw[Be.1,k_.1],by rw[k_.1];exact ua,276 (Jx EB (k_.2 x ai)),abg,fun ft EK cW Bf=>?_⟩;have abj:=310 wh;have nb:o72 10 (ft b=79 x→x≠[]→b≠dE):=o71 (by rw[z,abj]at aK;exact 189 aG (cI aK));rw[dZ eq];rw[B04 (Ex (H:=ft) (H':=34 ft dE (479++[.ref EK])) (p:=dE) (a:=EK) (r:=fq r J i) hR (fun n b z af ak=>41 (nb b z (310 (f7 n b z af ak)) (d21 (we.jg z (qp (cG ak))))) (310 (f7 n b z af ak))) (41 (nb EK _ Bf (d21 (Bd (c:=i) k_ Be))) Bf))];refine⟨_,abj,?_,924,bs++[EK],?_,cR,dS⟩
       ·rw[ba,hR,eS,ba];rw[A14 (show 255 by lia)]
       ·rw[aE (88 (b≠dE) (452 (by rw[w,Qc]at z;cases z)))];exact 310 (s5 _ _ z)
       ·rw[A52];rfl
      ·rintro de⟨s5,bs,wh,hR,f7⟩;have JG:221 (st.2.map (429 (fq r J i))) (11 m53)=st.2.map (429 (fq r J i)):=si (by rw[ba,ba,jD.len];exact 64);rw[JG]at hR f7;have Mg:d2≠dE:=bT fp Qc;have abk:=s5 _ _ fp;refine⟨_,rfl,329 abk,_,rfl,_,rfl,338,l07 ?_⟩;have cW:=822 [48 i,.ref lJ] bp;have wg:=310 abk;refine⟨d2,_,_,rfl,rfl,wg,?_,?_⟩
       ·rw[ba,yG,ba];rw[A14 (show 255 by have:=ok.iQ;lia)]
       rw[B04 (abc (H':=34 (388 de u [48 i,.ref lJ]) d2 (a24++[.ref u])) (u:=u) (q:=(i,J)) yG (o76 (Jy wg (d21 (we.pl z (j57 (cG ak))).1) (o77 (yH n v z af ak) ⟨a,310 (s5 _ _ x),310 (s5 _ _ y)⟩))) (Jy wg (d21 Be) ⟨lJ,aI,310 (s5 _ _ abi)⟩))];have aq2:o72 10 (upd de u (.tup [48 i,.ref lJ]) b=79 x→x≠[]→b≠d2):=o71 (by rw[z,wg]at aK;exact 189 aG (cI aK));refine⟨d2,dE,us++[u],bs,_,_,_,_,_,rfl,924,⟨?_,cR,dS⟩,⟨41 Mg.symm (310 wh),hR,fun n b r af ak=>?_⟩,we,by rw[ba];exact JC⟩
       ·have jC:=83 (s1 _ _ z);rw[aE (88 (b≠d2) (452 (by rw[w,oO]at jC;cases jC)))];exact 310 (s5 _ _ (103 jC))
       ·rw[A52];rfl
       ·have aK:=310 (f7 n b r af ak);exact 41 (aq2 b r aK (d21 (we.jg r (cG ak)))) aK
  ·rintro σ H1⟨pp,eV,aD,as',v4,ew,v6,fM,ia,rfl,s1,dH,cH,ok,JC⟩;rw[kA]at dH;rw[A15 (k H1 pp aD s1 dH)]
theorem abl:j13 (c16 g g∣g∧096 (c16 g g∣986))
 |[],g=>⟨UD g,fun x h=>806⟩
 |a::r,g=>by
  rw[hv];rw[A81 (abl r (qm g a.natAbs))];rw[A03 (Cx af (aie _ _)) 333];rw[C15 ai]
  ·rw[e];exact Cx af (aih _ _)
  ·exact ak x e
theorem aq3(r:10)(k:Nat):(b02).getD k 0=0↔608=0:=by
 unfold jH;split
 ·exact Iff.rfl
 ·rw[A66 (k<230)]
  ·have e:=uQ aS;have hd:929∣608:=aif.mpr ((abl r 0).2 _ (cG e));have aG:(j53 (n/929)).getD k 0=608/929:=by rw[cZ,cK,e];rfl
   rw[aG];rw[A04]
   ·intro h;obtain⟨m,hm⟩:=hd;rw[hm,aiu _ 03]at h;rw[hm,h,Cw]
   ·intro h;rw[h,Int.zero_ediv]
  ·rw[cZ,187,cZ,140]
theorem Qd{w B:Nat}{J:10}{c k:Nat}(aq:jf w B r)(au:jf w B J):(fq r J c).getD k 0=0↔608*793-750 k*611=0:=by
 unfold fq;rw[aq3];have e:(kQ (578 (a*793-b*611)) r J).getD k 0=608*793-750 k*611:=by
  rw[cZ,zB];rw[A66 (k<w)]
  ·rw[uQ (l:=r) (by rw[aq.1];exact aS),uQ (l:=J) (by rw[au.1];exact aS)];rfl
  ·have cR:608=0:=o75 (hH (564 aq.1));have dS:750 k=0:=o75 (hH (564 au.1));rw[hH (l:=r) (564 aq.1),cR,dS];simp
 rw[e]
structure yI(width:Nat)(st:sW):04 where
 jg:565 st.2 (e71 f43 r)
 pl:c19 (e71 f43 q.2∧q.1<97)
 z:c19 (565 st.2 (820 q.1=0))
 p:c19 (ik q≠0)
 aq4:c19 (∀eU∈st.1,q.1≠eU.1→c13 eU.1=0)
theorem yI.elim{width c:Nat}{st:sW}(h:yI 97 st)(ar:c<97):yI 97 (Internal.elim c st):=by
 unfold Internal.elim
 cases e:f82 (! 29 (820 c=0))with
  |none=>exact h
  |some J=>
   have fB:=nq e;have kq:=h.jg J fB;have d9:793≠0:=q95 (zE e);have up:=(aa9 f43).1;have hlen:11 (a18 (q.1,fq q.2 J c)++[(c,J)])=f43+1:=by rw[cn,ba];rfl
   have gM:c19 (750 q.1=0):=330 (h.z q aw J fB);refine⟨c23,458,fun q aw r aq=>?_,458,fun q aw eU iz aU=>?_⟩
   ·rw[B38 aq];show e71 (074 _ 336) _;rw[hlen];exact Bd (h.jg x ai) kq
   ·show e71 (074 _ 336) _∧_;rw[hlen];rw[A85 aw]
    ·rw[B38 aw];exact⟨Bd (h.pl x ai).1 kq,(h.pl x ai).2⟩
    ·rw[A78];exact⟨kq.up up,ar⟩
   ·rw[B38 aq];rw[Qd (h.jg x ai) kq];rw[A85 aw]
    ·rw[A46 aw];show x.getD y.1 0*_-750 y.1*_=0;rw[h.z y aC x ai,gM y aC];simp
    ·rw[A78];show x.getD c 0*_-793*_=0;rw[w7];lia
   ·rw[A85 aw]
    ·rw[A46 aw];show(fq y.2 J c).getD y.1 0≠0;intro z;rw[Qd (h.pl y aC).1 kq,gM y aC]at z;rw[Int.zero_mul,UN]at z;rw[A61 (UB.mp z)]
     ·exact h.p y aC z
     ·exact d9 z
    ·rw[A78];exact d9
   ·rw[A85 aw]
    ·rw[A46 aw];show(fq y.2 J c).getD eU.1 0=0;rw[Qd (h.pl y aC).1 kq];rcases 362 iz with iz|iz
     ·obtain⟨Bg,qR,rfl⟩:=112 iz;show 692 Bg.1*_-750 Bg.1*_=0;rw[h.aq4 y aC Bg qR aU,gM Bg qR];simp
     ·rw[86 iz];show 692 c*_-793*_=0;rw[w7];lia
    ·rw[86 aw]at aU⊢;rcases 362 iz with iz|iz
     ·obtain⟨Bg,qR,rfl⟩:=112 iz;exact gM Bg qR
     ·rw[86 iz]at aU;rw[A64 aU]
theorem yI.Bh{width:Nat}{rows:99}(h:b44 (jf 97 12 r)):∀i,i≤97→yI 97 491|0,_=>⟨h,b86,b86,b86,b86⟩|i+1,hi=>(yI.Bh h i 03).elim 03
theorem sH.Bh{width:Nat}{rows:99}(h:b44 (jf 97 12 r)):∀i,sH 97 i 491|0=>⟨h,b86,229⟩|i+1=>(sH.Bh h i).elim
theorem abm{width:Nat}{rows:99}(h:b44 (jf 97 12 r))(f:Nat):∀i,f<i→(539 (491).1 (q.1≠f))→h93 491+1≤i
 |0,hf,_=>03
 |i+1,hf,aw=>by
  have aU:=(sH.Bh h i).iQ;have ih:=abm h f i;rw[108 (gO 17 (i+1)) b04]at aw⊢;generalize 491=st at aU ih aw⊢;unfold elim at aw⊢
  cases e:f82 865 with|none=>rw[e]at aw;have aw:c19 (q.1≠f):=aw;show f43+1≤i+1;lia|some J=>rw[e]at aw;have aw:539 (a18 (q.1,fq q.2 J i)++[(i,J)]) (q.1≠f):=aw;have af:i≠f:=aw (i,J) (e4.mpr (en g75));have ak:=ih 03 (fun q lP=>aw (q.1,fq q.2 J i) (j57 (143 q lP)));show 11 (a18 (q.1,fq q.2 J i)++[(i,J)])+1≤i+1;rw[cn,ba];simp;lia
theorem JH(x:06)(c:Nat):0≤rm x c∧rm x c≤96:=by unfold rm;have:=tR (c95 (j==c)) x;lia
theorem EL(g:269):565 529 (jf 81 12 r):=by rw[A92];obtain⟨m,hm,rfl⟩:=147;rw[A81 (g.cw m hm)];rw[A03 (by rw[fO,ba]) 333];obtain⟨c,_,rfl⟩:=171;have:=JH m.l c;have:=JH m.r c;lia
theorem aq5(g:269){f:Nat}(hf:f<81)(oe:lX 390 f=01):(539 390 (P2 81 q))∧11 390≤4:=by
 have hd:=EL g;have fY:=yI.Bh hd 81 64;rw[A41];have d9:539 390 (q.1≠f):=fun q aw z=>by unfold lX at oe;have:a55 d95 (15 f)=01:=161 q.1 (143 q aw) (102 (by rw[z]));rw[this]at oe;cases oe
 have HU:=abm hd f 81 hf d9;have hlen:11 390≤3:=636 (h93 (gO 529 81)) 3;rw[A03 (330 ⟨(fY.pl q aw).2,(fY.pl q aw).1.1,276 (Jx 568 ((fY.pl q aw).1.2 x ai)),fY.p q aw⟩) 03]
abbrev JI:bK:=bA 0xd
theorem abn:488 [36,428,366,974,"bound",095] JI:=⟨rfl,rfl,rfl,05,rfl,05,05⟩
inductive JJ(CM:ag)(CS:ag)(vs:08)(H:av)(Q:aW)(E:bD):04|mk:749 (vs=254) (267→269→(k56 (49→mT H' p bs 705→412))→JJ CM CS vs H Q E)
theorem aq6(D:cq K ah k82 JI 50 f fd)(O:347)(bJ:268)(ub:Pr P w K ah 02 aO 2 h73 50 (Ez CM CS))(Qe:Pr P w K ah 02 aO 4 o74 [540,428] P_)(Qg:Pr P w K ah 02 aO 3 o73 [366,095,428] P4):Pr P w K ah 02 aO 5 k82 50 (JJ CM CS):=by
 rw[A02 abn]
 ·rw[A59];rfl
 ·rw[C33];have S:=abn;rw[A01 (aF (953 1 017) (aF (953 2 (926 Qe (340 ub) 296)) (239 (953 4 (k9 rfl 242 (339 45) (own:=[(974,3)]) (295 [36,428,366,974,"bound",095] JI) 927 369 (286 (e6 (oJ K rfl) 85 bu 630)))) (k9 rfl 242 (c92 296) (own:=[(095,5)]) (295 [36,428,366,974,"bound",095] JI) h09 (e46 (bM (D6 K rfl) 463 327 rfl)) (286 (bj Qg 22 bb (77 2 5 296)))))))];obtain⟨dx,ls,as,aY⟩:=cg;rw[A41];refine⟨_,rfl,a,CS,dx,_,_,rfl,84,80,727,mg,_,rfl,b82,?_⟩;rw[dB];refine⟨_,rfl,a,sy,rfl,⟨dx,ls,as,aY⟩,g,fun H1 fW EM s1 bU=>?_⟩;refine⟨_,rfl,fW,EM,529,81,rfl,bU,q33,bH,EL g,fun aB pp aD s2 dH=>?_⟩;have dH:t_ aB pp aD 390:=dH;refine⟨_,rfl,pp,rfl,223 dH.lst,436⟩;have aBs:11 390≤4:=cX (sH.Bh (EL g) 81).iQ bH;refine kC (K:=K) (a:=pp) (xs:=587) (877 (H'=322 aB D (a23 (528 390)))) rfl (n56 (683 (335 dH.lst cO dH.lst))) ?_ ?_
  ·rw[C19];obtain⟨t,q,b,aw,rfl,bk,aa⟩:=dH.get aC;refine⟨rfl,_,rfl,t,_,_,a38,rfl,rfl,448 (335 bk cO bk),f02,_,aI,?_,?_⟩
   ·rw[hn,ba,eS];rw[A14 (show 255 by lia)]
   ·rw[gp,dZ aw,d5,AW];rfl
  ·rintro a5 rfl;rw[ba,dH.len,eK];have s3:=593 d95 cO;have oP:334 aB D (a_ d95) D=259 d95:=aI;have yF:=dH.same s3;generalize 322 aB D d95=a5 at s3 oP yF⊢;refine⟨_,rfl,d52,rfl,03,03,n42⟩;refine Oh (lo:=0) (n:=271 d52) (885 (480 a5∧∃bs:27,H' dE=036∧890=11 ((909 i (lX 390)).map (fun f=>o8 390 f 81))∧m10 (bs[n]?=360→q94 n=447→244=716))) ⟨422 fp,[],aI,rfl,l80⟩ ?_ ?_
   ·rintro i bP hi⟨s4,bs,wh,hR,f7⟩;have ua:i<81:=03;refine⟨rfl,_,rfl,_,rfl,D,_,rfl,306 (103 oP),rfl,Ea _,_,rfl,?_⟩;rw[show 413+(i:Nat)=249 by lia,IM];have hg:(! a55 d95 249)=lX 390 i:=rfl;have i0:∀b,lX 390 i=b→909 (i+1) (lX 390)=909 i (lX 390)++(39 b [i] []):=350 (by rw[ru,s6];congr 1;rw[iO,aa];cases b<;>rfl);refine eo 486 486
    ·have aa:lX 390 i=01:=by rw[101]at aa;unfold lX;first|exact aa|simpa using aa
     obtain⟨po,pl⟩:=aq5 g ua aa;refine⟨_,rfl,_,rfl,_,rfl,pp,aD,390,i,81,rfl,yF.same s4,po,pl,ua,bH,fun de iw s5 JF=>?_⟩;have abo:=s5 _ _ wh;have abp:∀f,o8 390 f 81≠[]:=fun f z=>by have:=137 z;unfold o8 qo at this;rw[P9,ED,mC,ph,l4]at this;lia
     have nb:o72 10 (de b=79 x→x≠[]→b≠dE):=o71 (by rw[z,abo]at aK;exact 189 aG (cI aK));have eZ:∀(n:Nat)(r:10),q94 n=447→r≠[]:=fun n r h=>by obtain⟨f,_,rfl⟩:=112 (cG h);exact abp f
     rw[i0 01 aa,101,d5];rw[B04 (Ex (H:=de) (H':=34 de dE (479++[e87])) (p:=dE) (a:=iw) (r:=o8 390 i 81) hR (fun n b z af ak=>41 (nb b z (s5 _ _ (f7 n b z af ak)) (eZ n z ak)) (s5 _ _ (f7 n b z af ak))) (41 (nb iw _ JF (abp i)) JF))];refine⟨_,abo,?_,924,bs++[iw],?_,cR,dS⟩
     ·rw[ba,hR,ba];refine fL (88 255 ?_) 14;refine 164 _ _;rw[iP];lia
     ·rw[aE (88 (b≠dE) (452 (by rw[w,fp]at z;cases z)))];exact s5 _ _ (103 z)
     ·rw[A52];rfl
    ·have aa:lX 390 i=09:=by rw[101]at aa;unfold lX;first|exact aa|simpa using aa
     rw[i0 09 aa];exact⟨s4,bs,wh,by simpa using hR,by simpa using f7⟩
   ·rintro bP⟨s4,bs,wh,hR,f7⟩;rw[kA]at hR f7;exact k bP dE bs (547 332 s3 s4) ⟨wh,hR,f7⟩
theorem Qh:11 705≤81∧565 705 (230=81):=by
 rw[A03 ?_ c23]
 ·unfold lx;rw[ba];refine 164 _ _;rw[iP];exact 64
 ·obtain⟨f,_,rfl⟩:=147;unfold o8 qo;rw[P9,ED,mC,ph]
theorem Qi{k:Nat}:∀l:99,(k55 (230≤k))→n92≤63*k|[],_=>19|a::l,h=>by rw[qs,cn,dR,pq,pv,tm];exact aa8 (Qi l (725 (h r (005 aq)))) (h a 999)
abbrev abq:bK:=bA 0x88
theorem abr:488 [36,"basis",f13,243] abq:=⟨rfl,rfl,rfl,05,rfl,05,05⟩
inductive Qj(CM:ag)(CS:ag)(vs:08)(H:av)(Q:aW)(E:bD):04|mk:749 (vs=254) (267→269→gx H Q (LL sy)→Qj CM CS vs H Q E)
theorem aq7(D:cq K ah 573 abq 50 f fd)(O:347)(Bi:Pr P w K ah 02 aO 5 k82 50 (JJ CM CS)):Pr P w K ah 02 aO 6 573 50 (Qj CM CS):=by
 rw[A02 abr]
 ·rw[A59];rfl
 ·rw[C34];have S:=abr;rw[A01 (90 1 (340 Bi) (94 2 (a62 j77)) (239 (e_ eL rfl (339 62) (98 3 rfl 70) (a76 (hD K rfl h9 nK nL nE 45 846))) 45))];rw[C17 (Qh (sy:=sy))];rw[A41];refine⟨_,rfl,a,sy,rfl,aY,g,fun H1 p bs s1 bU=>?_⟩;refine⟨_,rfl,p,_,rfl,306 bU.lst,338,698⟩;have v8:H t=00:=f22 bk;rw[A77 [372,j50 479] bk];have dw:([372,j50 479]:08)=aT (0::320 705::541 (221 705 0)):=by rw[ba,bU.len];rfl
  rw[dw]at s2;rw[dw];refine⟨_,rfl,p,rfl,223 (106 bU.lst),hN (K:=K) (a:=p) (xs:=479) (702 (σ=[248,444,531,v]∧a94∧H' t=79 (0::320 705::541 (442 705)))) ⟨00,rfl,s2,aI⟩ (l78 _ _ bU.lst) ?_ ?_⟩
  ·rintro i y σ a5 aC⟨v,rfl,s3,mm⟩;rw[D05 (bU.get aC)];have hf:=Qi (k:=4) (442 705) (b35 (by rw[dj z (qp hz)];exact bH));have v9:=dj r e65;have hi:=eI c1;rw[eS]at hf;refine⟨_,rfl,329 mm,_,rfl,t,b,_,_,rfl,rfl,mm,83 eM,?_,_,rfl,?_,?_⟩
   ·rw[A1,A1,dR,dR];rw[A56]
   ·refine g89;rw[110 z bk];exact 83 z
   ·rw[aI,Jg,dZ c1,Cq];simp
  ·rintro σ a5⟨v,rfl,s3,mm⟩;rw[ba,bU.len,eK]at mm;rw[A15 (k a5 t j09 v8 mm)]
def abt:639→aH|none=>fh|some T=>c51
end
section
variable{A:rT}{B:Prop}{C D I a b bG c d dx f fI me p t:ag}{E Q:aH→aZ→Prop}{F cm:List (List Nat)}{ab expr:Bool}{K:bo}{M:Model}{N ps sn:List Str}{P prog:f3}{R:Result→aZ→Prop}{fD lK pos pos':Pos}{S:ag→Prop}{T newId:String}{sub us vs:List aH}{aD:List ag}{aG e value:dn}{aR:Array Il}{bx doc ek f1 ig u:aH}{o:Obj}{ah dG:Str→Option aH}{pins:List (ag×Obj)}{an az cQ dd:Option ag}{k0 k1 k2 k3 k5:Option aH}{ar7 body:List bK}{b0 cR dS i j n t':Nat}{base h h':dk}{g l:List Nat}{col:Option Bool}{ns r ws:List Int}{dP k7:Array (Option aH)}{done:List (Nat×List Int)}{env:Env}{fd:k6}{name qual x:Str}{outer:List Env}{own:List (Str×Nat)}{pl:Sem Bool}{q:Search}{s s':dt}{scope:rp}{tk:Tok}{v:Word}{w:ff}{m:g0}{kvs:List (List cF×ae)}{xs:List ae}{y:ae}{H H' H1 aB eF:av}{bC:dz}{X:dT}{bW h5 hj to ty:ct}{tb:gH}{sp:mM}
structure Bj(h:dk)(e C dx:ag)(tb:639):04 where
 ex:∃iH vs,654 e iH∧iH.cls=236∧iH.dict=a83∧l02=f66∧vs[1]?=some (abt tb)
 l9:∀T,tb=some T→T≠e∧∃mn aD,654 T mn∧mn.data=504 aD∧aD[3]?=some fh
theorem aq8(f:323→323)(o:Obj):(j1 f o).dict=o.dict:=by unfold j1;split<;>rfl
def Qk(fr:27)(e C dx:ag)(tb:639)(h h':dk):04:=∃gK,Bj h' e C dx (some gK)∧397≤gK∧(c56 (b≠e→tb≠360→b∉fr→219=25))∧(c56 (b∈fr→∃dP,219=j37))∧(c56 (∃dr,219=some dr))
section
variable{s:aZ}
theorem abu{L e:ag}{head:aH}{aU:Bool}{iH:Obj}{vs:323}{Q:592}(oG:l06=some 939)(ax:i50 939)(hf:o69=some L)(he:393 e iH)(ar:iH.cls=236)(JK:iH.dict=a83)(hd:l02=f66)(af:1<vs.size)(h:∀h',Qk (kv 939) e C dx 00 28 h'→Q () 538):a9 M A (do
 let a←frameOf env
 let pl←entryPlaceOf L aU
 let b←aq9 head a .none (hM L) .none pl
 setField (.ref e) 1 b) (f41 (a9 M A (Ql 768 00) Q E s')) E s:=by
 have abv:e∉kv 939:=fun hm=>by obtain⟨_,o,a8,uc⟩:=ax.mem hm;rw[he]at a8;cases a8;exact uc vs hd
 rw[A00 (wpAny_frameOf_fun oG ax hf (fun g1⟨qB,kJ,abw⟩=>a7 (wpAny_entryPlaceOf (fun pl eH=>?_))))];unfold aq9 newFields;rw[A00 (H5 ?_ (eH.sizeOk5 _ _ _ _ _))];have abx:g1.get? e=some iH:=138 e abv he;have neT:f42≠e:=lF (dm abx);generalize aU:(q63 (401 "traceback") (504 (810 ([head,.ref L,87,hM L,87]++(13 o70 (iM 6 fh) pl)))):Obj)=mn;have aby:=dY mn abx;refine DR aby hd af ?_;have wi:=DS hd q93;have abz:=x5 i28 aby (Io wi);have gf:mn.data=504 (810 ([head,.ref L,87,hM L,87]++(13 o70 (iM 6 fh) pl))):=by rw[←aU]
 have ara:(j55).get? f42=some mn:=gg g1 (by rw[←aU];rfl);have abA:=35 (vI j55 i28 (jq neT)) ara;unfold Ql;rw[A00 (lU abz wi (x:=.ref f42) (by simp[af]) ?_)];rw[21 (show(da f42 !=fh)=01 by simp)];have jC:3<n67 ([head,.ref L,87,hM L,87]++(13 o70 (iM 6 fh) pl)):=by simp only[gu,cn,dR,l4];lia
 refine DR abA gf jC (h _ ?_);have keep:374 (g1.get? b) (b≠e→782 (((j55).update e i28).update f42 i26)=25):=fun b o aa l6=>by rw[vI _ _ (lF (dm aa)),vI _ _ (jq l6)];exact dY _ aa
 have abB:=35 (vI ((j55).update e i28) i26 neT) abz;have abC:=DS gf q92;have arb:=x5 i26 abA (Io abC);refine⟨f42,⟨⟨_,_,abB,35 (anR _ _) ar,35 (aq8 _ _) JK,wi,by simp[af,abt]⟩,c32⟩,?_,fun b o aa l6 _ mq=>keep b o (138 b mq aa) l6,fun b o aa mq=>?_,n39⟩
 ·cases bR;refine⟨neT,_,_,arb,abC,?_⟩;have:=jC;simp[Array.getElem?_setIfInBounds_self,this]
 ·rw[←qB];exact 64
 ·obtain⟨dP,aL⟩:=abw b o aa;exact⟨dP,keep b _ aL (16 (abv (z▸mq)))⟩
 ·obtain⟨dP,aL⟩:=abw b o aa;by_cases l6:b=e
  ·subst l6;rw[A08 abB]
  ·rw[A08 (keep b _ aL l6)]
theorem abD{L e:ag}{tb:639}{Q:592}(oG:l06=some 939)(ax:i50 939)(hf:o69=some L)(x:Bj 28 e C dx tb)(h:∀h',Qk (kv 939) e C dx tb 28 h'→Q () 538):a9 M A (noteFrame 768 env) (f41 (a9 M A (Ql 768 00) Q E s')) E s:=by
 obtain⟨iH,vs,he,ar,JK,hd,af⟩:=x.ex;have hz:1<vs.size:=(Ox.mp af).1;unfold noteFrame;simp only[hf];rw[A00 (lU he hd af ?_)]
 cases tb with
  |none=>rw[107];exact abu oG ax hf he ar JK hd hz (fun h' ai=>h h' ai)
  |some T=>
   obtain⟨yJ,mn,aD,bR,gf,a6⟩:=x.l9 T rfl;have EN:3<aD.size:=(Ox.mp a6).1;show a9 M A (616 (da T !=fh)) _ _ _;rw[21 (show(da T !=fh)=01 by simp)];rw[A00 (lU bR gf a6 ?_)];rw[23 (show¬((fh==hM L)=01)by simp[hM])];rw[A00 (DR bR gf EN ?_)];have Qm:=DS gf o58;have nP:=x5 d36 bR (Io Qm);have kJ:∀b,b≠T→782 (982 T d36)=879 b:=350 (vI _ _ h02);have arc:300 346 ((∀ws,o.data≠504 ws)→b≠T):=fun b o aa uc z=>by rw[z,bR]at aa;cases aa;exact uc aD gf
   refine abu (s:=621 (982 T d36)) oG (ax.of_keeps (fun b o aa uc=>715 o (138 b (arc b o aa uc) aa))) hf (138 e yJ.symm he) ar JK hd hz (o54 (h h' ⟨gK,gr,?_,fun b o aa l6 ard mq=>?_,fun b o aa mq=>?_,n39⟩))
   ·have gd:424 (982 T d36)≤gK:=gd;rwa[Heap.size_update]at gd
   ·exact mD b o (138 b (16 (ard (by rw[z]))) aa) l6 19 mq
   ·have qv:b≠T:=by rintro rfl;obtain⟨_,dr,a8,uc⟩:=ax.mem mq;rw[bR]at a8;cases a8;exact uc aD gf
    exact pj b o (138 b qv aa) mq
   ·by_cases z:b=T
    ·subst z;exact pk b _ nP
    ·exact pk b o (138 b z aa)
theorem arf{L e:ag}{tb:639}{Q:592}(oG:l06=some 939)(ax:i50 939)(hf:o69=some L)(x:Bj 28 e C dx tb)(h:∀h',Qk (kv 939) e C dx tb 28 h'→Q () 538):a9 M A (leaving env 768) Q E s:=a7 (abD oG ax hf x h)
end
inductive gh(P:f3)(w:ff)(C:ag)(outer:596)(H:av)(s:aZ)(E:bD)(ev:aH)(s':aZ):04|mk(e T dx:ag)(H':av):ev=768→s'.os=s.os→j67→ir j89 [] H H' 28 543→fy P w H' 543→H' e=00→H' T=00→879 e=00→879 T=00→Bj 543 e C dx (some T)→E 236 a83 H'→gh P w C 91 H s E ev s'
section
variable{cd:aH}{s0:aZ}{E:bD}
abbrev la(P:f3)(w:ff)(K:bo)(ah:261)(base:dk)(C:ag)(N:225)(qual:Str)(scope:rp)(f:ag)(cd:aH)(A:rT)(outer:596)(s0:aZ)(eF:av)(E:bD):dT:=x4 (gh P w C) P w K ah 02 N 74 42 f cd A 91 s0 eF E
theorem abE{σ:bq}{s':aZ}{e:ag}{tb:639}(I:aQ (la P w K ah 02 C N 74 42 f cd A 91 s0 eF E) 07 σ H' s')(x:Bj 543 e C dx tb)(he:H' e=00)(bR:∀T,tb=some T→H' T=00)(dw:h92 e=00)(T0:∀T,tb=some T→h92 T=00)(q:E 236 a83 H'):(la P w K ah 02 C N 74 42 f cd A 91 s0 eF E).dC 768 s':=by
 refine arf (L:=h91) k99 I.stack rfl x (o54 ?_);have hsz:h91≤s'.heap.objs.size:=I.qB;have arh:374 (h92 b) (b∉j89→b∉kv (qL 74 42 h91 f cd::91)):=fun b o aa mq z=>by
  rw[A61 (j56 b z)]
  ·exact 69 (dm aa) (364 (l05 (b=h91)) (kV _))
  ·exact mq z
 refine⟨e,gK,dx,H',rfl,I.os,579,⟨q91 ?_,q91 ?_,q77 (a30 b aa aU ai),fun b o aa ai=>?_,o68,o67,o66⟩,fun b u aa=>?_,he,081 gd,dw,aj6 (cX hsz gd),gr,q⟩
 ·exact mD b o (I.base.keep b o aa aU mq b53) (16 q80) (16 (q79 (T0 b z))) (arh b o aa mq)
 ·obtain⟨dP,af⟩:=I.base.slot b o aa aU mq b53;have qv:b∈kv (qL 74 42 h91 f cd::91):=d4 _ mq;obtain⟨Qn,ak⟩:=pj b _ af qv;exact⟨Qn,ak⟩
 ·obtain⟨o1,af⟩:=i44 o aa b53;exact pk b o1 af
 ·have key:∀c v o,H' c=25→o65 c=54→h'.get? c=54:=fun c v o ar a3=>mD c v a3 (16 (by rw[z,he]at ar;cases ar)) (16 (q90 (bR c z))) (16 (q90 (I.Ha c z)));refine m69 (I.bB b u aa) ?_ r r;rw[B80]
  ·exact key c v u aa r
  ·exact key c v _ ar r
theorem ha:n5 (gh P w C) (la P w K ah 02 C N 74 42 f cd A 91 s0 eF E) E:=by intro pins σ H s ev s' I mP;obtain⟨e,T,dx,H',yw,a8,a4,un,bB,he,bR,dw,T0,x,q⟩:=mP;subst yw;have jV:aQ (la P w K ah 02 C N 74 42 f cd A 91 s0 eF E) 07 σ H' s':=I.Hd a8 un bB a4 o53;have old:∀b,879 b=00→h92 b=00:=350 (by cases aw:h92 b with|none=>rfl|some o=>obtain⟨dr,ak⟩:=i44 o aw b53;rw[ak]at aa;cases aa);exact abE jV x he (fun gK nP=>by cases nP;exact bR) (old e dw) (fun gK nP=>by cases nP;exact old T T0) q
theorem Qo:PassesOwn 289 (la P w K ah 02 C N 74 42 f cd A 91 s0 eF E).A (la P w K ah 02 C N 74 42 f cd A 91 s0 eF E).env (la P w K ah 02 C N 74 42 f cd A 91 s0 eF E).dC:=PassesOwn.leaving
end
theorem cq.ud{st:bK}{k:Nat}(D:cq K ah x st ps f fd)(S:31 N ps st)(len:e08 (sp vs H Q E) f95)(Dv:q89 596 08 (f5 k (g22 x 844 f bx)→sp vs H Q E→∃t,mJ (la P w K ah 02 C N x 844 f bx A 91 s H E) 033 t∧t j81 e62 H)):Pr P w K ah 02 (gh P w C) (k+1) x ps sp:=by refine D.pr ?_;obtain⟨ig,cQ,ec,doc,pm,an,bx,ek,k7,rfl,e5,ny⟩:=D.F.ex;exact Ny e5 ny S len (q88 (Dv bx A 91 s H vs Q E aq pL))
section
open PySem.Builtin PySem.Builtin.ObjectAttr
abbrev lb:53:=[989,f68,401 "object"]
section
variable{g:j90}{d:Drawn}{t:Nat}{os:ari}{nm q:Str}{N x:ag}{bs:53}{fT:261}{v:aH}{vs:323}
theorem arj{Q:456 Fin}(hp:654 C (p5 nm q C N bs lb 01 sn sub ab col dd k0 k1 k2 k3 k5 094))(aU:a77 N)(kK:c45=00)(fY:c38=520)(ai:558 x)(ar:783)(sj:e51)(iB:777)(aw:∀h' lM,940 x g63→m25 (131 (13 (y=234) 54 00))→(812 (b≠x→319=467→219=467))→Q (j35 87) ⟨h',g,d,lM,os⟩):a9 232 A (Builtin.«object.__setattr__» (644 [438,e88,v])) Q E 795:=by
 have mr:=JL;have pass:=mr.passes 438;have abF:x≠397:=fk (dm ai);unfold Builtin.«object.__setattr__»;repeat(first|(rw[refuse_eq])|(rw[refuseLoop_ref,pass])|(with_reducible refine wpAny_mroOf_exc hp ?_)|(with_reducible refine wj ai ?_;rw[ar])|(with_reducible refine JM hp aU h90 fY ?_;rw[kK])|wp_step)
 rw[sj,23 (by simp[typeHasDict]),iB];have fW:=dY (a48:Obj) ai;rw[A00 (wpAny_alloc' (a7 (wpAny_update' fW 345)))];generalize vb:(h.push (a48:Obj)).update x (737 g63)=U;have VQ:U.get? 397=some (a48:Obj):=q87 (35 (ark _ _ _ _ abF.symm) (Heap.get?_push_at rfl rfl));have jP:U.get? x=some g63:=by rw[←vb];refine x5 _ fW ?_;obtain⟨a1,a2,lS,v5⟩:=o;cases iB;rfl
 have AJ:812 (b≠x→319=467→U.get? b=467):=l04 (q87 (35 (ark _ _ _ _ aa) 130));have EF:U.Ns 397 d74:=⟨_,#[],_,VQ,rfl,h24 (151 he),525⟩;show a9 _ _ (storeInDict 397 e88 234 v) _ _ _;unfold storeInDict newKeyGuard;rw[A00 (cx (a7 (wpAny_nsSet1 (alv EF) (fun h' cR eX=>?_))))];obtain⟨alm,aBt,aBu,arl,arn,aro⟩:=cR.count (alq 234 v Within.nil);rw[A00 (wpAny_lookBehind arl (by rw[arn];exact pastItsLine_dict (cX aro (by rw[dR,l4,Aa];lia))) 345)];refine aw h' _ (385 x abF jP) cR (l04 (385 b e22 (AJ b bC aa e)))
theorem arp{bG owner B:String}(mr:StoreFacts B lb bG owner)(mW:bG=q86)(hp:654 C (p5 nm q C N bs lb 01 sn sub ab col dd k0 k1 k2 k3 k5 094))(aU:a77 N)(kK:c45=00)(fY:c38=520)(ai:558 x)(ar:783)(sj:e51)(iB:777)(aw:∀h' lM,940 x g63→m25 (131 (13 (y=234) 54 00))→(812 (b≠x→319=467→219=467))→R (.ok (.ret 87)) ⟨h',g,d,lM,os⟩):qI 232 A (.call (399 bG) (644 [438,e88,v])) R 795:=abG mr.slot.plain mr.entry (wpAny_check_sa mr hp ai ar (arj hp aU kK fY ai ar sj iB aw))
theorem arq{Q:592}(hp:654 C (p5 nm q C N bs lb 01 sn sub ab col dd k0 k1 k2 k3 k5 094))(aU:a77 N)(pT:fT b23=00)(kK:c45=00)(fY:c38=520)(ai:558 x)(ar:783)(sj:e51)(iB:777)(aw:∀h' lM,940 x g63→m25 (131 (13 (y=234) 54 00))→(812 (b≠x→319=467→219=467))→Q () ⟨h',g,d,lM,os⟩):a9 232 A (Dn 438 234 v) Q E 795:=by
 have mr:=JL;have Dz:=mr.slot.bind 438;unfold Dn callSpecial? specialOf;repeat(any_goals(first|rw[A34]|(with_reducible refine wj ai ?_;rw[ar])|(with_reducible refine JM hp aU h90 mr.slot.lookup ?_;rw[pT])|wp_step))
 refine arp mr rfl hp aU kK fY ai ar sj iB (fun h' lM a b c=>?_);repeat(any_goals(first|rw[A34]|wp_step))
 exact aw h' lM a b c
end
end
def nQ(a C:ag)(d:639):dz:=j63 (∃o vs,321=25∧783∧o.dict=d∧777∧vs[1]?=some fh)
def nR(dx:ag)(bl:324):dz:=j63 (∃dG,058∧(∀f,j8 000 (dG f))∧G7 dG b75)
theorem JN{fQ:92 dk}(x:fQ h)(ex:∃o,321=25)(st:∀af ak:dk,fQ af→(∀o,c59 a→ak.get? a=25)→fQ ak):fx P w H h a (.ext fQ):=⟨x,ex,st⟩
theorem Qq{d:639}{vs:323}(e:321=25)(c:783)(hd:o.dict=d)(jl:777)(af:vs[1]?=some fh):fx P w H h a (nQ a C d):=JN ⟨o,vs,e,c,hd,jl,af⟩ ⟨o,e⟩ (q81 ⟨o,vs,k o e,r⟩)
theorem abH{bl:324}(n:058)(r:∀f,j8 000 (dG f))(hL:G7 dG b75):fx P w H h dx (nR dx bl):=JN ⟨dG,n,r,hL⟩ (let⟨o,_,_,e,_⟩:=n;⟨o,e⟩) (fun _ _⟨dG,n,r⟩k=>⟨dG,n.at k,r⟩)
theorem fx.there{o:dz}(x:fx P w H h a o):∃u,321=56:=by cases o with|lst xs=>rw[C45];rw[A55]|tup xs=>obtain⟨_,_,_,o,e,_⟩:=x;rw[A55]|e0 kvs=>rw[B22];rw[A55]|gf kvs=>rw[B22];rw[A55]|set S n=>rw[C44];rw[A55]|ins C dx bl=>rw[C43];rw[A55]|own y=>exact x|zH bl=>rw[D30];rw[A55]|pz lo hi=>rw[D29];rw[A55]|eT bC u=>obtain⟨e,_⟩:=x;rw[A55]|vl ps=>rw[A08 x]|met f y=>rw[A08 x]|ext fQ=>obtain⟨_,e,_⟩:=x;exact e
theorem fy.free(ok:fy P w H h)(e:321=00):H a=00:=by cases q:H a with|none=>rfl|some o=>obtain⟨u,bp⟩:=fx.there (ok a o q);rw[e]at bp;cases bp
structure q7(K:bo)(C fI:ag):04 where
 ex:∃nm q N bs sn sub ab col dd k0 k1 k2 k3 k5 fT,710 C (p5 nm q C N bs lb 01 sn sub ab col dd k0 k1 k2 k3 k5 c94)∧(∀h,055→a77 N)∧fT 421=46 fI∧fT b23=00∧fT b22=00∧fT 226=00∧l96=00∧m29=00
 fn:∃Qr,710 fI Qr∧Qr.cls=f81
 fC:oB K 236=01
theorem ars:lI 989 b22=520:=f30
theorem art:lI 989 226=520:=f30
def yK(f:Str):04:=lI 989 f=520∧(f=b22∨f=226)
theorem abI:yK b22:=⟨ars,253⟩
theorem abJ:yK 226:=⟨art,e68⟩
section
variable{σ:bq}{s:aZ}{f:Str}{bl:324}
theorem aru{Q:592}(I:24)(M:q7 X.K C fI)(p6:yK f)(e:H a=some (nQ a C 00))(bQ:465)(h:∀d s',H d=00→d≠a→aQ X 07 σ (761 d (nR d [(f,y)]) a (nQ a C 867)) s'→Q () s'):a9 47 A (Dn 38 f u) Q E s:=by
 rw[D28 (613 a e)];rw[D27];have kK:fT f=00:=l64;have sh:=081 (cL 18);have abK:18≠a:=lF (dm d1);rw[C42];refine arq (I.gF _ _ e5) (ns _ I.gF) cR kK p6.1 d1 ar hd jl (fun h' lM HA az fC=>h o64 _ sh abK ?_);have ER:812 (H b=467→b≠o64):=fun b bC aa z=>by rw[z,sh]at aa;cases aa
 have na:812 (H b=467→(∀fQ,bC≠.ext fQ)→b≠a):=q83 (q84 (ai _ rfl));refine l91 lM ⟨l03 (fC b bC l68 aa),l03 (g26 (fC b bC l68 aa)),j46,l00 ?_,g61,j60,i79 #[]⟩ ?_
 ·rw[aE l68,aE (fk (dm aa))];exact aU
 ·by_cases z:b=a
  ·subst z;rw[A08 HA]
  ·rw[A08 (fC b bC z aa)]
 ·rw[aE (na b _ aa 513),aE (ER b _ aa)];exact aa
 ·rw[aE (na b _ aa 513),aE (ER b _ aa)];exact aa
 ·rw[aE (na b _ aa 513),aE (ER b _ aa),aa];simp
 ·by_cases z:b=a
  ·subst z;rw[B51];cases aa;exact Qq HA ar rfl jl af
  ·rw[aE z]at aa;by_cases es:b=o64
   ·subst es;rw[B51];cases aa;refine abH az (563 ?_) c33
    ·by_cases mX:g=f
     ·rw[21 mX,mX];rw[show qJ f [(f,y)]=270 by simp[qJ]];exact bQ
     ·rw[23 mX];rw[show qJ g [(f,y)]=00 by simp[qJ,88 ((g==f)=09) (963 mX)]];trivial
    ·by_cases mX:g=f
     ·rw[mX];exact 237
     ·exact 69 196 a4
   ·rw[aE es]at aa;refine f83 (I.bB b bC aa) (fun c v p7 r=>fC c v ?_ r) ?_ ?_
    ·rcases p7 with rfl|p7
     ·exact z
     ·exact na c _ p7 513
    ·rw[aE (na c _ r 513),aE (ER c _ r)];exact r
    ·rw[aE (na c _ r 513),aE (ER c _ r)];exact r
end
section
variable{σ:bq}{s:aZ}{f:Str}{bl:324}
theorem arv{Q:592}(I:24)(M:q7 X.K C fI)(p6:yK f)(e:H a=some (nQ a C a83))(kU:H dx=c64 dx bl)(ne:dx≠a)(ax:c20)(bQ:465)(h:∀s',aQ X 07 σ (upd H dx (nR dx (cC f y bl))) s'→Q () s'):a9 47 A (Dn 38 f u) Q E s:=by
 rw[D28 (613 a e)];rw[D25 (613 dx kU)];rw[D27];have kK:fT f=00:=l64;have Oe:a≠C:=16 (by have bg:=I.gF _ _ e5;rw[←z,d1]at bg;rw[cI bg]at jl;cases jl);rw[C42];refine store_attr (ns:=b75) JL (I.gF _ _ e5) (ns _ I.gF) cR kK p6.1 Oe ⟨o,d1,ar,fun c z=>(by rw[jl]at z;cases z),.inr ⟨dx,hd,ne,Qs⟩⟩ (fun h' lM fu fC nO=>h _ ?_) hL q85;obtain⟨o1,Qu,fA,jW,_,bg⟩:=nO o d1;obtain⟨o2,abL,_,_,arw⟩:=fu;rw[Qu]at abL;cases abL;have az:h'.Ns1 dx (563 (13 (g=f) 56 (dG g))):=by
  rcases arw with⟨z,_⟩|⟨iC,z,_,r⟩
  ·rw[bg dx hd]at z;cases z
  ·rw[bg dx hd]at z;cases z;exact r
 have yL:812 (b≠a→b≠dx→dh.get? b=467→219=467):=fun b bC ak a6 bH=>fC b bC ak (fun o0 d0 hQ es=>by have abM:dh.get? a=some o0:=hQ;rw[d1]at abM;cases abM;rw[hd]at es;cases es;exact a6) bH;have na:812 (H b=467→(∀fQ,bC≠.ext fQ)→b≠a∧b≠dx):=fun b bC aa ai=>⟨789 (q84 (ai _ rfl)),789 (by rw[z,kU]at aa;cases aa;exact ai _ rfl)⟩;have nn:∀b,H b=00→b≠a∧b≠dx:=350 ⟨789 (by rw[z,e]at aa;cases aa),789 (by rw[z,kU]at aa;cases aa)⟩;refine l91 lM ⟨l03 (yL b bC (nn b aU).1 (nn b aU).2 aa),l03 (g26 (yL b bC (nn b aU).1 (nn b aU).2 aa)),j46,l00 ?_,g61,j60,i79 #[]⟩ ?_
 ·rw[aE (nn b aU).2];exact aU
 ·by_cases z:b=a
  ·subst z;rw[A08 Qu]
  ·by_cases es:b=dx
   ·subst es;obtain⟨aBv,_,_,tM,_⟩:=az;rw[A08 tM]
   ·rw[A08 (yL b bC z es aa)]
 ·rw[aE (na b _ aa 513).2];exact aa
 ·rw[aE (na b _ aa 513).2];exact aa
 ·rw[aE (na b _ aa 513).2,aa];simp
 ·by_cases es:b=dx
  ·subst es;rw[B51];cases aa;refine abH az (563 ?_) c33
   ·rw[e2];by_cases mX:g=f
    ·rw[21 mX,21 mX];exact bQ
    ·rw[196,196];exact Qt g
   ·by_cases mX:g=f
    ·rw[mX];exact(Dp f y bl).1
    ·exact(Dp f y bl).2 g (hL g (16 (a4 (by rw[196];exact z))))
  ·rw[aE es]at aa;by_cases z:b=a
   ·subst z;rw[e]at aa;cases aa;exact Qq Qu (fA.trans ar) (bg dx hd) (jW.trans jl) af
   ·refine f83 (I.bB b bC aa) (fun c v p7 r=>?_) ?_ ?_
    ·rcases p7 with rfl|p7
     ·exact yL c v z es r
     ·exact yL c v (na c _ p7 513).1 (na c _ p7 513).2 r
    ·rw[aE (na c _ r 513).2];exact r
    ·rw[aE (na c _ r 513).2];exact r
end
section
variable{o:dn}{f:Str}
inductive abN(C:ag)(f:Str)(D:lY)(σ:bq)(y:ae)(x:ae)(aB:av):04|mk:∀a,x=38→aB a=some (nQ a C 00)→(∀d,aB d=00→d≠a→687 (upd (upd aB d (nR d [(f,y)])) a (nQ a C 867)))→abN C f D σ y x aB
def arx(C:ag)(bW h5:ct)(f:Str):gH:=475 (h5 σ H (d18 (bW σ H1 (d20 (abN C f D σ y x aB)))))
inductive abO(C:ag)(f:Str)(D:lY)(σ:bq)(y:ae)(x:ae)(aB:av):04|mk:∀a d bl,x=38→aB a=some (nQ a C 867)→aB d=c64 d bl→d≠a→c20→687 (upd aB d (nR d (cC f y bl)))→abO C f D σ y x aB
def ary(C:ag)(bW h5:ct)(f:Str):gH:=475 (h5 σ H (d18 (bW σ H1 (d20 (abO C f D σ y x aB)))))
theorem arz(M:q7 X.K C fI)(p6:yK f)(aN:757 o)(a3:g78 h5)(aL:g88 677 (e55 f)=911):iV X (d93 [e55 f] 677) (arx C bW h5 f):=by rw[A35];refine Nr (bY (a3 07 s σ H _ I h) (i32 (aN 07 s1 σ H1 _ aX q) (fun dA s2⟨x,aB,b5,bw,a,ex,d1,cf⟩=>?_))) aL;rw[A25];rw[A38 dA];exact aru b5 M p6 d1 bQ (fun d s3 cR dS el=>⟨σ,_,el,cf d cR dS⟩)
theorem arA(M:q7 X.K C fI)(p6:yK f)(aN:757 o)(a3:g78 h5)(aL:g88 677 (e55 f)=911):iV X (d93 [e55 f] 677) (ary C bW h5 f):=by rw[A35];refine Nr (bY (a3 07 s σ H _ I h) (i32 (aN 07 s1 σ H1 _ aX q) (fun dA s2⟨x,aB,b5,bw,a,d,bl,ex,d1,kU,ne,ax,cf⟩=>?_))) aL;rw[A25];rw[A38 dA];exact arv b5 M p6 d1 kU ne ax bQ (f38 ⟨σ,_,el,cf⟩)
end
def Bk(k p:Int):324:=cC 226 (.int p) [(b22,c84)]
abbrev yM:bK:=343 0x4a 0
theorem arB:31 c55 c55 yM:=⟨rfl,rfl,rfl,05,rfl,05,05⟩
inductive JO(C:ag)(vs:08)(H:av)(Q:aW)(E:bD):04|mk:∀(a:ag)(k p:Int),vs=[38,c84,.int p]→H a=some (nQ a C 00)→(∀d,H d=00→d≠a→Q .b4 (761 d (nR d (Bk k p)) a (nQ a C 867)))→JO C vs H Q E
theorem arC{x y z:dz}(h:a≠b):upd (761 a x b y) a z=761 a z b y:=by
 funext c;unfold upd;rw[A72 (c=a)]
 ·subst af;simp[h]
 ·simp[af]
theorem arD(F:hC K 421 f03 yM f fd)(M:q7 K C f):eP P w K ah 02 aO 1 f fd c55 (JO C):=by
 rw[A36 arB]
 ·obtain⟨a,k,p,rfl,_⟩:=h;rfl
 ·obtain⟨a,k,p,rfl,aN,q⟩:=h;rw[A01 (434 (arz (C:=C) (fI:=f) M abI 252 62 rfl) (arA (C:=C) (fI:=f) M abJ 252 45 rfl))];refine⟨_,rfl,_,rfl,a,rfl,aN,fun d hd na=>?_⟩;refine⟨_,rfl,_,rfl,a,d,_,rfl,aI,862 na,na,960,?_⟩;rw[arC na];exact q d hd na
section
variable{nm q:Str}{N:ag}{bs:53}
theorem arE{s:aZ}{x:054}{Q:456 Flow}(dh:595)(h:a9 M A x (h78 (∃e iH vs,v=768∧e33 C (some (p5 nm q C N bs lb 01 sn sub ab col dd k0 k1 k2 k3 k5 094))∧e33 e (some iH)∧iH.cls=236∧l02=f66∧vs[1]?=some fh∧E 768 s1)) E s):a9 M A (raiseStmt env 43 00) Q E s:=by
 have ES:(da C::lb).contains f68=01:=q82;unfold raiseStmt;rw[A00 (j_ h (fun v s1⟨e,iH,vs,a3,hp,he,ar,hd,af,ET⟩=>?_) d64)];subst a3;obtain⟨au,g,d,tk,os⟩:=s1;obtain⟨ig,cQ,jl,dP⟩:=iH;cases ar;cases hd;repeat(first|with_reducible refine wj he ?_|with_reducible refine wj hp ?_|(with_reducible refine arG hp ?_;rw[ES])|wp_step)
 rw[af];refine 345;rw[107];exact cx (wpAny_raiseNew_none dh ET)
end
section
variable{k:Nat}{σ:bq}{s:aZ}{vs:08}
theorem aQ.old(I:24)(ai:X.ex=[])(aa:879 b=00):d58=00:=by cases aw:d58 with|none=>rfl|some o=>obtain⟨dr,ak⟩:=i44 o aw (by rw[ai];intro z;cases z);rw[ak]at aa;cases aa
theorem arH{Q:546 ag}(M:q7 X.K C fI)(F:eP 61 X.w X.K 508 341 aO k fI fd ps sp)(aq:656 (k+1))(aa:lr X.K fd ps [])(ai:X.ex=[])(I:24)(r:a92)(hz:892≤bc)(h:∀a,H a=00→sp (38::vs) (upd H a (nQ a C 00)) (k95 (v=.b4∧Q a aB)) OF):a9 47 X.A (kZ 236 us) (fun u s'=>∃a H',u=38∧X.iU.heap.get? a=00∧050∧Q a H') 68 s:=by
 obtain⟨nm,q,N,bs,sn,sub,ab,col,dd,k0,k1,k2,k3,k5,fT,e5,ns,hi,cR,dS,iX,_⟩:=M.ex;obtain⟨Qr,arI,arJ⟩:=M.fn;have hp:=I.gF _ _ e5;have fs:=ns _ I.gF;have x_:=I.gF _ _ arI;have old:=507 (aQ.old I ai (b:=b));rw[C42];refine wpAny_call_exc_init PySem.F.excBase_Exception hp fs hi x_ arJ (fun h' e hm=>?_) hz;obtain⟨hq,tM,_,_⟩:=hm.there;have wZ:H e=00:=fy.free 274 hm.new;have b5:aQ X 07 σ (upd H e (nQ e C 00)) ⟨h',g,fF,t,os⟩:=by
  have ne:812 (H b=467→b≠e):=fun b bC aa z=>by rw[z,wZ]at aa;cases aa
  refine l91 t ⟨l01 (hm.keeps b bC aa),l01 (g26 (hm.keeps b bC aa)),j46,l00 ⟨bC,hm.keeps b bC aa⟩,g61,j60,i79 #[]⟩ ?_
  ·rw[170 (by have aa:dh.get? b=467:=aa;rw[z,hm.new]at aa;cases aa)];exact aU
  ·rw[aE (ne b _ aa)];exact aa
  ·rw[aE (ne b _ aa)];exact aa
  ·rw[aE (ne b _ aa),aa];simp
  ·by_cases z:b=e
   ·subst z;rw[B51];cases aa;exact Qq tM rfl rfl rfl rfl
   ·rw[aE z]at aa;exact f83 (I.bB b bC aa) (fun c v _ r=>hm.keeps c v r) (i70 (ne c _ r)) (i70 (ne c _ r))
 have aw:=h e wZ;have cT:cc (882 e::vs) (da e::us):=.cons rfl r;have ax:d69 (da e::us++[]):=by rw[nh,←cT.length];exact F.len _ _ _ _ aw
 have IB:=aa ⟨h',g,fF,t,os⟩ (da e::us) b5.gF ax;rw[nh]at IB;refine HH (x3 (F.run _ 676 _ _ (644 (da e::us)) (da e::us) _ _ OF (aq.make C us []) (b5.HE.make C us []) IB cT aw) (fun r s' iz=>?_))
 cases r with|error e=>exact gI iz|ok c9=>cases c9 with|ret u=>rw[D26 (b5.after iz)];subst ev;exact⟨cV,e,H',rfl,old e hm.new,el,eC⟩|next=>exact gI iz|brk=>exact gI iz|cont=>exact gI iz
end
def F6(H:av)(a:ag):av:=507 (13 (b=a) 00 (H b))
theorem ue(h:b≠a):F6 H a b=H b:=by unfold F6;rw[125]
theorem abP:F6 H a a=00:=by unfold F6;rw[101]
section
variable{cd:aH}{s0:aZ}{E:bD}{k:Nat}
inductive abQ(C:ag)(E:bD)(vs:08)(H1:av):04|mk:∀k p:Int,vs=[c84,.int p]→(∀d aB,aA H1 aB→aB d=c64 d (Bk k p)→E 236 867 aB)→abQ C E vs H1
def arK(C:ag)(E:bD)(t:fG):gH:=fun aBw σ H=>t σ H (728 (abQ C E vs H1))
theorem uf{t:fG}{aR:439}{p:Pos}{abR:Nat}(M:q7 K C fI)(F:eP P w K ah 02 aO abR fI fd c55 (JO C))(aq:f5 (abR+1) (la P w K ah 02 C N 74 42 f cd A 91 s0 eF E).A)(aa:lr K fd c55 [])(hm:ah 723=46 C)(aN:hZ (la P w K ah 02 C N 74 42 f cd A 91 s0 eF E) (e::aR) t)(a4:h1 (la P w K ah 02 C N 74 42 f cd A 91 s0 eF E) 723:=by rfl)(he:dc (e::aR) (la P w K ah 02 C N 74 42 f cd A 91 s0 eF E).env=(09,cE e (la P w K ah 02 C N 74 42 f cd A 91 s0 eF E).env)::dc aR (la P w K ah 02 C N 74 42 f cd A 91 s0 eF E).env:=by rfl)(eH:(hA lK (dc aR (la P w K ah 02 C N 74 42 f cd A 91 s0 eF E).env)).any 379=09:=by rfl):iV (la P w K ah 02 C N 74 42 f cd A 91 s0 eF E) (.Raise (some (.Call (.Name 723 p) (e::aR) [] lK)) 00 pos) (arK C E t):=by
 rw[A35];obtain⟨nm,q,JP,bs,sn,sub,ab,col,dd,k0,k1,k2,k3,k5,fT,e5,_⟩:=id M.ex;rw[arm_exec_Raise];rw[A00 (Hm ?_)];refine arE (C:=C) (nm:=nm) (q:=q) (N:=JP) (bs:=bs) (sn:=sn) (sub:=sub) (ab:=ab) (col:=col) (dd:=dd) (k0:=k0) (k1:=k1) (k2:=k2) (k3:=k3) (k5:=k5) (newId:=c94) (I.ok.hd rfl) ?_;rw[A00 (j_ (Q:=h78 (∃e iH vs,v=768∧e33 C (some (p5 nm q C JP bs lb 01 sn sub ab col dd k0 k1 k2 k3 k5 c94))∧e33 e (some iH)∧iH.cls=236∧l02=f66∧vs[1]?=some fh∧(la P w K ah 02 C N 74 42 f cd A 91 s0 eF E).dC 768 s1)) ?_ (k87 (a7 (Hm (cx af)))) d64)];refine vG (xJ I a4 hm ?_ 14);refine HI (h₀:=02) h87 M.fC (bY (aN lK 07 s σ H _ I h) (fun us s1⟨vs,H1,aX,r,b0,pp,a3,bg⟩=>j48)) he eH;subst a3;have hz:892≤bc:=by rw[←r.length];show 2≤bc;decide
 refine bY (arH (Q:=fun a aB=>∃d,aB=upd (upd (upd H1 a (nQ a C 00)) d (nR d (Bk b0 pp))) a (nQ a C 867)∧H1 a=00∧H1 d=00∧d≠a) M F aq aa rfl aX r hz (fun a je=>⟨a,b0,pp,rfl,aI,fun d hd na=>⟨rfl,d,rfl,je,by rw[aE na]at hd;exact hd,na⟩⟩)) (fun u s2⟨a,aB,bp,CL,b5,d,yb,me,arL,na⟩=>?_);subst bp;have d1:aB a=some (nQ a C 867):=by rw[yb];exact aI
 have kU:aB d=c64 d (Bk b0 pp):=by rw[yb,aE na];exact aI
 obtain⟨⟨o,ws,go,ar,hd,jl,af⟩,_,_⟩:=b5.bB a _ d1;refine⟨a,o,ws,rfl,b5.gF _ _ e5,go,ar,jl,af,?_⟩;have el:aQ (la P w K ah 02 C N 74 42 f cd A 91 s0 eF E) 07 σ (F6 aB a) s2:=by
  have cz:812 (aB b=467→(∀fQ,bC≠.ext fQ)→b≠a):=q83 (by rw[z,d1]at aa;cases aa;exact ai _ rfl);refine b5.un (t':=s2.toks) (h':=k97) ⟨l01 aa,l01 (g26 aa),j46,l00 ⟨bC,aa⟩,g61,j60,i79 #[]⟩ (o62 ?_)
  ·rw[ue (16 (by rw[z,d1]at aU;cases aU))];exact aU
  ·rw[ue (cz b _ aa 513)];exact aa
  ·rw[ue (cz b _ aa 513)];exact aa
  ·rw[ue (cz b _ aa 513),aa];simp
  ·by_cases z:b=a
   ·rw[z,abP]at aa;cases aa
   ·rw[ue z]at aa;exact f83 (b5.bB b bC aa) (fun c v _ r=>r) (o63 (ue (cz c _ r 513))) (o63 (ue (cz c _ r 513)))
 refine abE (e:=a) (dx:=d) (tb:=00) el ⟨⟨o,ws,go,ar,hd,jl,af⟩,l95⟩ abP l95 CL l95 (bg d _ (o62 ?_) ?_)
 ·have cR:b≠a:=bT aa me;have dS:b≠d:=bT aa arL;rw[ue cR,yb,aE cR,aE dS,aE cR];exact aa
 ·rw[ue na];exact kU
end
section
open PySem.Builtin PySem.Builtin.ObjectAttr
theorem Qv:Slot "Exception" h23 f40:=.of (owner:=o61) (n:=h23) f30 05 05 05 (by first|rw[A17 05]|rw[A09 05]) h79
theorem arM:lI 989 h22=520:=f30
section
variable{g:j90}{d:Drawn}{t:Nat}{os:ari}{nm q:Str}{N x:ag}{bs:53}{fT:261}{v:aH}{vs:323}
theorem arN{Q:456 Fin}(hp:654 C (p5 nm q C N bs lb 01 sn sub ab col dd k0 k1 k2 k3 k5 094))(aU:a77 N)(kK:c45=00)(fY:c38=520)(ai:558 x)(ar:783)(hd:e81)(iB:777)(pT:058)(a3:a63=54)(aw:Q (j35 v) 795):a9 232 A (p82 (644 [438,e88])) Q E 795:=by
 have mr:=JL;rw[C83];repeat(first|(with_reducible refine wj ai ?_;rw[ar])|(with_reducible refine JM hp aU h90 fY ?_;rw[kK])|wp_step)
 rw[iB];unfold instanceDict;repeat(first|(with_reducible refine wj ai ?_;rw[ar])|with_reducible refine wj hp ?_|wp_step)
 rw[hd];repeat(first|(with_reducible refine wpAny_nsGet pT.ns ?_;rw[a3])|wp_step)
 exact aw
theorem arO{abS:aH}{Q:592}(hp:654 C (p5 nm q C N bs lb 01 sn sub ab col dd k0 k1 k2 k3 k5 094))(ai:558 x)(ar:783)(aw:Q () 795):a9 M A (checkBuiltinCall f40 (644 [438,abS])) Q E 795:=by
 have f1:builtinKind f40=some .slot:=05;have f2:splitId f40=some (o61,"__getattribute__"):=05;have ES:(da C::lb).contains f68=01:=q82;have aN:=PySem.F.args_bexc_ga 438 abS;simp only[checkBuiltinCall,f1,f2];rw[A28];unfold isInstance;repeat(first|(with_reducible refine wj ai ?_;rw[ar])|(with_reducible refine arG hp ?_;rw[ES])|wp_step)
 exact aw
theorem arP(hp:654 C (p5 nm q C N bs lb 01 sn sub ab col dd k0 k1 k2 k3 k5 094))(aU:a77 N)(kK:c45=00)(fY:c38=520)(ai:558 x)(ar:783)(hd:e81)(iB:777)(pT:058)(a3:a63=54)(aw:R (.ok (.ret v)) 795):qI 232 A (.call (399 f40) (644 [438,e88])) R 795:=abG Qv.plain PySem.F.entry_bexc_ga (arO hp ai ar (arN hp aU kK fY ai ar hd iB pT a3 aw))
theorem arQ{fill:Bool}(hp:654 C (p5 nm q C N bs lb 01 sn sub ab col dd k0 k1 k2 k3 k5 094))(aU:a77 N)(kK:c45=00)(yN:l96=00)(xp:m29=00)(fY:c38=520)(ai:558 x)(ar:783)(hd:e81)(iB:777)(pT:058)(a3:a63=54)(dh:handedOut v=pure v)(aw:Q v 795):a9 232 A (getAttrBy 438 e88 fill expr) Q E 795:=by
 have mr:=JL;have e9:=Qv.bind 438;have f4:=Qv.lookup;have fR:=arM;have h0:(expr&&onTheHeap l66)=09:=by cases expr<;>rfl
 have ak:(l66==Ay n71)=09:=05;have af:(onTheHeap (da C)&&l66==Ay n71)=09:=by rw[ak];rfl
 repeat(any_goals(first|rw[A34]|(with_reducible refine wj ai ?_;rw[ar])|(with_reducible refine JM hp aU h90 f4 ?_;rw[yN])|(with_reducible refine JM hp aU h90 fR ?_;rw[xp])|wp_step))
 refine arP hp aU kK fY ai ar hd iB pT a3 ?_;repeat(any_goals(first|rw[A34]|(rw[dh])|wp_step))
theorem arR(hp:654 C (p5 nm q C N bs lb 01 sn sub ab col dd k0 k1 k2 k3 k5 094))(aU:a77 N)(kK:c45=00)(yN:l96=00)(xp:m29=00)(fY:c38=520)(ai:558 x)(ar:783)(hd:e81)(iB:777)(pT:058)(a3:a63=54)(dh:handedOut v=pure v)(aw:Q v ⟨h,g,d,t+1,os⟩):a9 232 A (Hy 438 234 expr) Q E 795:=by unfold Hy;repeat(any_goals(first|rw[A34]|with_reducible apply arQ hp aU kK yN xp fY ai ar hd iB pT a3 dh|wp_step))
end
end
def p8(a C dx:ag):dz:=j63 (∃o vs,321=25∧783∧e81∧777)
theorem arS{vs:323}(e:321=25)(c:783)(hd:e81)(jl:777):fx P w H h a (p8 a C dx):=JN ⟨o,vs,e,c,hd,jl⟩ ⟨o,e⟩ (q81 ⟨o,vs,k o e,r⟩)
theorem arT(i:Int)(t:Tok):handedOut 706=pure 706:=rfl
inductive abT(C:ag)(f:Str)(Q:aW)(x:ae)(H1:av):04|mk:∀a dx bl i,x=38→H1 a=some (p8 a C dx)→H1 dx=c64 dx bl→000=some 260→Q 260 H1→abT C f Q x H1
def arU(C:ag)(bW:ct)(f:Str):ct:=262 (bW σ H (291 (abT C f Q x H1)))
theorem abU{f:Str}(M:q7 X.K C fI)(p6:yK f)(he:757 e)(aa:tJ e f 55 689=689):bF X (b92 f pos) (arU C bW f):=by rw[A13];refine W9 aa (bY (he 07 s σ H _ I h) (fun u s1⟨x,H1,aX,bw,a,dx,bl,i,ex,d1,kU,l,q⟩=>?_));rw[A25];rw[A38 u];obtain⟨nm,cf,N,bs,sn,sub,ab,col,dd,k0,k1,k2,k3,k5,fT,e5,ns,_,cR,dS,iX,g1,g2⟩:=M.ex;have kK:fT f=00:=l64;obtain⟨⟨o,vs,go,ar,hd,jl⟩,_,_⟩:=aX.bB a _ d1;rw[D25 (aX.bB dx _ kU)];rw[B49 (o59 260 (dG f) (o60 (Qt f)))];obtain⟨t,rfl⟩:=gR;have hp:=aX.gF _ _ e5;have fs:=ns _ aX.gF;have b5:=aX.tok (b55+1);obtain⟨dh,g,fF,tk,os⟩:=s1;exact arR hp fs kK g1 g2 p6.1 go ar hd jl Qs bp (arT i t) ⟨260,H1,b5,612 t,q⟩
theorem arV{bl:27}{af aL:dk}{e T gK:ag}{mn:Obj}{aD:323}(un:ir bl [] H1 H' af aL)(bB:fy P w H' aL)(he:H' e=00)(bR:H' T=00)(dw:af.get? e=00)(T0:af.get? T=00)(arW:∀b∈bl,244=00)(gr:Bj h' e C dx (some gK))(gd:aL.objs.size≤gK)(mD:374 n17 (b≠e→some T≠360→b∉bl→219=25))(pj:374 n17 (b∈bl→∃dP,219=j37))(pk:374 n17 (∃dr,219=some dr))(EU:940 gK mn)(gf:mn.data=504 aD):ir bl [] H1 (upd H' e (p8 e C dx)) af g97∧fy P w (upd H' e (p8 e C dx)) g97:=by
 have arX:af.get? gK=00:=by cases z:af.get? gK with|none=>rfl|some o=>obtain⟨dr,es⟩:=un.there gK o z (by intro y;cases y);exact 69 (dm es) (Nat.not_lt.mpr gd)
 have kJ:∀b,b≠gK→782 g97=219:=350 (vI _ _ h02);have Qm:=DS gf o58;have aBx:=x5 d36 EU (Io Qm);have arY:H' gK=00:=bB.fresh gd;have neT:gK≠e:=(gr.l9 gK rfl).1;have ne1:300 (c59 b) (b≠e∧b≠T∧b≠gK):=o57 ⟨789 q80,789 (by rw[z,T0]at aa;cases aa),789 (by rw[z,arX]at aa;cases aa)⟩;have Bl:374 244 (b≠e∧b≠T∧b≠gK∧b∉bl):=o57 ⟨789 (by rw[z,he]at aa;cases aa),789 (by rw[z,bR]at aa;cases aa),789 (by rw[z,arY]at aa;cases aa),789 (q79 (arW b z))⟩;rw[A03 ⟨q78 ?_,q78 ?_,q77 ?_,fun b o aa ai=>?_,g61,fun b o xs aa=>?_,fun b ps aa=>?_⟩ n39]
 ·obtain⟨a1,a2,lS⟩:=ne1 b o aa;exact 138 b lS (mD b o (un.keep b o aa aU hf ai) a1 (16 (a2 (129 z))) hf)
 ·rw[B81 (un.slot b o aa aU hf ai)];obtain⟨Qn,aG⟩:=pj b _ aK hf;exact⟨Qn,138 b (ne1 b o aa).2.2 aG⟩
 ·rw[aE (ne1 b o aa).1];exact un.free b o aa aU ai
 ·obtain⟨o1,aK⟩:=un.there b o aa ai;obtain⟨o2,aG⟩:=pk b o1 aK;exact⟨o2,138 b (ne1 b o aa).2.2 aG⟩
 ·have:=un.pA b xs aa;rw[aE (Bl b _ 246).1];rw[A10]
 ·have:=un.nx b o xs aa;rw[aE (Bl b _ 246).1];rw[A10]
 ·obtain⟨more,this⟩:=un.pB b ps aa;exact⟨more,by rw[aE (Bl b _ 246).1];exact this⟩
 ·by_cases z:b=e
  ·subst z;rw[B51];cases aa;obtain⟨iH,vs,g1,fA,jW,f1,_⟩:=gr.ex;exact arS (138 b neT.symm g1) fA jW f1
  ·rw[aE z]at aa;have key:∀c v u,H' c=56→aL.get? c=54→(g97).get? c=54:=fun c v u ar a3=>by obtain⟨a1,a2,lS,v5⟩:=Bl c u ar;exact 138 c lS (mD c v a3 a1 (16 (a2 (129 z))) v5)
   refine m69 (bB b o aa) ?_ ?_ ?_
   ·rw[B80]
    ·exact key c v o aa r
    ·exact key c v _ ar r
   ·rw[aE (Bl c _ r).1];exact r
   ·rw[aE (Bl c _ r).1];exact r
section
variable{σ:bq}{s:aZ}
theorem arZ{Q:592}(I:24)(fs:X.N.Nodup)(hi:851=43)(aS:j01=492)(h:∀s',aQ X 07 (iM h86 00) H s'→Q () s'):a9 M A (do
 bindName X.env x .none
 ar0 X.env x pos) Q E s:=by
 rw[A00 (wpAny_bindName (C7 (v:=.b4) I fs hi (aV aS) rfl (fun s1 aX=>?_) (.inr aS)))];have xI:i<b61:=l99 hi;obtain⟨m,aU,ax⟩:=id aX.loc;obtain⟨u,_,lo⟩:=ax i x .b4 hi (ry xI) (aV aS);have hm:m x=56:=by
  rcases lo with⟨_,z⟩|⟨z,_⟩
  ·exact z
  ·rcases z with z|z<;>rw[aS]at z<;>cases z
 have MR:(h89==.class||(h89==.module&&474 !=o56))=09:=q76;unfold ar0;refine Qw (wpAny_unbindName_local aS aU hm MR (fun h' jT qE eX=>h _ ?_));have Qx:374 d58 053:=351 (fk g45);have fr:=aX.free;refine⟨aX.ok,aX.os,aX.bare,⟨q75 (385 b (Qx b o e) (aX.base.keep b o e n aa ai)),b93,aX.base.free,j92,aX.base.pA,aX.base.nx,aX.base.pB⟩,⟨_,qE,fun j y v aK aG cp=>?_⟩,k17,fr,aX.iS,263,k18,by rw[ph]⟩
 ·obtain⟨dP,q⟩:=aX.base.slot b o e n aa ai;exact⟨dP,385 b (Qx b o e) q⟩
 ·obtain⟨dr,q⟩:=aX.base.there b o e ai;exact⟨dr,385 b (Qx b o e) q⟩
 ·rw[Ma]at aG;split at aG<;>cases aG
 ·obtain⟨v,q⟩:=aX.cell y c e;exact⟨v,q.sameBut eX (aX.vo y c e)⟩
 ·obtain⟨bg,cf,eC,fz⟩:=aX.pin p au;exact⟨385 p.1 eC bg,cf,eC,fz⟩
 ·refine j42 (aX.bB b o e) (385 c ?_ q) g03 b78;rw[A91];rcases ar with z|ar
  ·rw[←z,fr]at e;cases e
  ·rw[fr]at ar;cases ar
abbrev dT.yO(X:dT)(e:ag):dT:={X with A:=X.A.mark (46 e),calm:=false,dC:=898}
theorem aQ.yO(I:24)(e:ag):aQ (dT.yO X e) 07 σ H s:=⟨⟨I.ok.mod,093,I.ok.glob,I.ok.blt,h88,I.ok.inj,I.ok.has,I.ok.zV,789 o55,k99,I.ok.C4,I.ok.C5,I.ok.bs,I.ok.qA,I.ok.zW,I.ok.zX,I.ok.ow,I.ok.vn⟩,I.os,579,f39,092,d19,741,I.iS,I.pin,274,b54⟩
theorem aQ.ar1{e:ag}(I:aQ (dT.yO X e) 07 σ H s)(ok:X.Ok):24:=⟨ok,I.os,579,f39,092,d19,741,I.iS,I.pin,274,b54⟩
end
def ar2(K:bo)(C:ag)(sp:mM)(t:fG)(to:ct)(c9:Str)(n i:Nat)(aD:gH):gH:=475 (t σ H (728 (sp vs H1 (891 (to σ aB (m11 (x=38∧a5 a=483 mY bl∧h4 K mY∧fi K mY c9∧c20∧687 (264 a5 a mY (cC c9 y bl)))))) (fun _ dx aB=>∀d e,dx=867→aB e=00→aD {cz:=898,l7:=D.l7} ((iM n 00).set i (46 e)) (upd aB e (p8 e C d))))))
theorem ar3{k:Nat}{g c9 nm:Str}{o:dn}{aR:439}{fW pZ mS I6 ar4 ar5:Pos}{vd:bK}{t:fG}{aD:gH}(M:q7 X.K C fI)(F:eP 61 X.w X.K 508 341 (gh 61 X.w C) k f fd ps sp)(aq:656 k)(hm:X.ah g=46 f)(aS:066 X.K=01)(aa:lr X.K fd ps [])(mP:X.ah 723=46 C)(aN:∀E,hZ c30 (e::aR) t)(a8:∀E,bF c30 o to)(ar6:∀c,mJ (dT.yO X c) (vd::ar7) aD)(fs:X.N.Nodup)(hi:851=some nm)(Qy:X.env.kindOf nm=492)(gq:676=55::091)(oG:X.env.frame=some 474)(a4:h1 X g:=by rfl)(ar8:h1 X 723:=by rfl)(lH:(g==598)=09:=by decide)(he:657=391::459:=by rfl)(eH:(hA pZ 459).any 379=09:=by rfl)(aL:tD (.Call (.Name g fD) (e::aR) [] pZ) (some (481 c9 fW)) mS.line 55=911:=by rfl):iV X (.Try [.Assign [481 c9 fW] (.Call (.Name g fD) (e::aR) [] pZ) mS] [.ExceptHandler (some (.Name 723 I6)) (some nm) (vd::ar7) ar4] [] [] ar5) (ar2 X.K C sp t to c9 h86 i aD):=by
 rw[A35];refine wpAny_Try_except ?_;generalize abV:(fun(_:aH)(dx:Option ag)(aB:av)=>∀d e,dx=867→aB e=00→aD {cz:=898,l7:=D.l7} ((iM h86 00).set i (46 e)) (upd aB e (p8 e C d)))=rx at*;let yP:490:=fun ev s'=>∃H1 s1,aQ X 07 σ H1 s1∧gh 61 X.w C 676 H1 s1 rx ev s';have body:a9 47 X.A (exec (.Assign [481 c9 fW] (.Call (.Name g fD) (e::aR) [] pZ) mS) 55) (tB X 07 D) yP s:=by
  have ar9:aQ (X.mK yP) 07 σ H s:=I.mK yP;have h':t σ H (728 (sp vs H1 (891 (to σ aB (m11 (x=38∧a5 a=483 mY bl∧946 mY∧fi X.K mY c9∧c20∧687 (264 a5 a mY (cC c9 y bl)))))) rx)):=by rw[←abV];exact h
  refine Nr (j_ (Q:=fun u s1=>hK (X.mK yP) 07 σ (891 (to σ aB (m11 (x=38∧a5 a=483 mY bl∧946 mY∧fi X.K mY c9∧c20∧687 (264 a5 a mY (cC c9 y bl)))))) u s1) ?_ (i32 (a8 yP 07 s1 σ H1 _ aX q) (fun dA s2⟨x,aB,b5,bw,a,mY,dx,bl,ex,d1,c,n,l,cf⟩=>?_)) i86) aL
  ·refine vG (xJ I a4 hm ?_ lH);refine HI (h₀:=341) h87 aS (l70 (aN yP pZ 07 s σ H _ ar9 h') j48) he eH;have ax:d69 (us++[]):=by rw[nh,←r.length];exact F.len _ _ _ _ q
   have abW:=aa s1 us aX.gF ax;rw[nh]at abW;refine HH (x3 (F.run X.A 676 s1 H1 916 us vs _ rx aq aX.HE abW r q) (fun r s' aw=>?_))
   cases r with|error ev=>exact⟨H1,s1,aX.rX,aw⟩|ok asa=>cases asa with|ret u=>exact aX.after aw|next=>exact gI aw|brk=>exact gI aw|cont=>exact gI aw
  ·rw[A25];rw[A38 dA];exact Np b5.rX d1 c n l bQ (f38 ⟨σ,_,el,cf⟩)
 refine j_ (Q:=tB X 07 D) (E:=yP) ?_ g51 (fun ev s1⟨H1,s0,aX,asb⟩=>?_)
 ·refine Wr (j_ body g51 i86)
  cases f with|next=>exact Dc q|brk=>exact q|cont=>exact q|ret u=>exact q
 ·cases f with|next=>exact Dc q|brk=>exact q|cont=>exact q|ret u=>exact q
 ·obtain⟨bZ,T,dx,H',yw,Iv,kR,un,bB,wZ,asd,dw,T0,x,q⟩:=asb;subst yw;have b5:aQ X 07 σ H' s1:=aX.Hd Iv un bB kR o53;have ase:X.A.frames=some (55::091):=by rw[←gq];exact I.ok.frames
  have z7:s1.heap.FunFrames 341 (55::091):=by rw[←gq];exact b5.stack
  refine abD (L:=474) ase z7 oG x (o54 ?_);rw[←gq]at mD pj;obtain⟨neT,mn,tz,EU,gf,a6⟩:=gr.l9 gK rfl;obtain⟨abX,D5⟩:=arV un bB wZ asd dw T0 b5.Ha gr gd mD pj pk EU gf;obtain⟨asf,cf,JP,bs,sn,sub,ab,col,dd,k0,k1,k2,k3,k5,fT,e5,_⟩:=id M.ex;obtain⟨iH,aBy,ge,ce,aBz,ash,asi⟩:=gr.ex;have asj:940 C (p5 asf cf C JP bs lb 01 sn sub ab col dd k0 k1 k2 k3 k5 c94):=by
   obtain⟨asl,aBA⟩:=b5.bs C _ (192 _ _);refine mD C _ asl 522 522 522
   ·have EV:=(aX.bs C _ (192 _ _)).1;rw[z,dw]at EV;cases EV
   ·have EV:=(aX.bs C _ (192 _ _)).1;rw[←cI z,T0]at EV;cases EV
   ·obtain⟨nb,_⟩:=b5.stack.mem z;rw[192 _ _]at nb;cases nb
  have ES:(lb).contains f68=01:=14;have abY:g97=h':=Heap.update_setField_same h' gK mn tz 3 fh EU gf a6;rw[abY]at abX D5;have el:aQ X 07 σ (upd H' bZ (p8 bZ C dx)) k98:=aX.Hd (s':=k98) Iv abX D5 kR o53;have eU:=q;rw[←abV]at eU;have dg:=eU dx bZ rfl wZ;refine wpAny_handleBy_cons (codeAny_handlers_test ?_) b53;have Is:=aQ.yO el bZ;refine j_ (Q:=fun c s2=>c=236∧k97=h'∧s2.gens=s1.gens∧s2.os=s1.os∧aQ X 07 σ (upd H' bZ (p8 bZ C dx)) s2) (E:=898) ?_ (fun c s2⟨ar,asm,_,_,jw⟩=>?_) h08
  ·exact xJ (X:=dT.yO X bZ) Is ar8 mP ⟨rfl,rfl,rfl,rfl,el⟩ 14
  subst ar;obtain⟨au,cm,fF,tk,os⟩:=s2;obtain rfl:au=h':=asm;refine wpAny_excMatches_sub_self asj ge ce ES ?_;refine codeAny_handlers_suite_as ?_;unfold Ql;rw[A00 (lU ge ash asi ?_)];show a9 _ _ (616 (da gK !=fh)) _ _ _;rw[21 (show(da gK !=fh)=01 by simp)];refine DR EU gf (Ox.mp a6).1 ?_;have asn:au.update gK i26=au:=abY;rw[108 ({heap:=au,gens:=cm,drawn:=fF,toks:=tk,os:=os}:aZ).heap au,asn];refine j_ (Q:=fun _ s5=>aQ X 07 (σ.set i (46 bZ)) (upd H' bZ (p8 bZ C dx)) s5) (E:=898) (C7 (v:=.ref bZ) jw fs hi (aV Qy) rfl (fun s5 nA=>nA) (.inr Qy)) (fun _ s5 nA=>?_) h08;have xI:i<b61:=l99 hi;have pG:aQ X 07 ((iM h86 00).set i (46 bZ)) (upd H' bZ (p8 bZ C dx)) s5:=nA.weak (by rw[mC,mC,ph,I.len]) (fun j v bS=>by
   by_cases z:i=j
   ·subst z;rw[ry (by rw[ph,←I.len];exact xI)]at bS;rw[ry xI];exact bS
   ·rw[u7 z,Ma]at bS;split at bS<;>cases bS);refine j_ (ar6 bZ 07 s5 _ _ _ (aQ.yO pG bZ) dg) (fun f cW rZ=>?_) h08
  cases f with|next=>rw[C41];exact gI z|brk=>rw[C41];exact gI z|cont=>rw[C41];exact gI z|ret u=>obtain⟨v,pI,gS,kY,cV,nC⟩:=rZ;exact arZ (aQ.ar1 kY I.ok) fs hi Qy (fun gW Og=>⟨v,_,gS,Og,cV,nC⟩)
structure JR(P:f3)(w:ff)(K:bo)(d:ag)(kvs:410):04 where
 sys:(d==l5)=09
 at_:∃vs,603∧∀h:dk,055→h.DictOf (fg P w) d vs
inductive abZ(P:f3)(w:ff)(K:bo)(Q:aW)(y:ae)(x:ae)(aB:av):04|mk:∀a kvs k,x=38→JR P w K a kvs→y=ec k→827 (736 068) aB→abZ P w K Q y x aB
def aso(P:f3)(w:ff)(K:bo)(ty hj:ct):ct:=262 (ty σ H (d18 (hj σ H1 (d20 (abZ P w K Q y x aB)))))
inductive ab0(P:f3)(w:ff)(K:bo)(Q:aW)(x:ae)(y:ae)(aB:av):04|mk:∀a kvs k v,x=38→JR P w K a kvs→y=ec k→068=54→Q v aB→ab0 P w K Q x y aB
def asp(P:f3)(w:ff)(K:bo)(hj ty:ct):ct:=262 (hj σ H (291 (ty σ H1 (891 (ab0 P w K Q x y aB)))))
section
variable{i o:dn}
theorem asq(hi:bF X i ty)(a8:bF X o hj):Hg X .In i o (aso 61 X.w X.K ty hj):=by rw[A13];refine bY (hi 07 s σ H _ I h) (l74 (a8 07 s1 σ H1 _ aX bg) (fun u s2⟨x,aB,b5,bw,a,kvs,k,ex,Bm,f6,cf⟩=>?_));subst ex f6;rw[A38 u];rw[D24];refine wpAny_in_of e58 Bm.sys (dd _ b5.gF).mapOf ?_;rw[←181];exact 128 _ aB (b5.tok _) cf
theorem asr(a8:bF X o hj)(hi:bF X i ty)(aL:Ol i):bF X (a26 o i) (asp 61 X.w X.K hj ty):=by rw[A13];refine Yi anm.lookup aL (bY (a8 07 s σ H _ I h) (q74 (bY (hi 07 s1 σ H1 _ aX bg) (fun gV s2⟨y,aB,b5,bQ,a,kvs,k,v,ex,Bm,f6,a3,cf⟩=>?_))));subst ex f6;rw[A38 u];rw[D24];rw[C01 v (ya vs k) (by rw[←a3];exact 186)];exact⟨(dd _ b5.gF).typeIs,wpAny_getItem_of e58 (dd _ b5.gF).mapOf hw ⟨v,aB,b5.tok _,oE,cf⟩⟩
end
end
section
variable{C b p t:ag}{K:bo}{ea hS row:List Nat}{cl:Str→Option ag}{r:List Int}
def q8(hS row:06)(p b:Nat):324:=cC 816 (48 b) (cC 226 (48 p) (cC 243 (76 row) (cC 818 (76 hS) [])))
structure sI(K:bo)(C:ag):04 where
 cl:h4 K C
 sign:245 818
 row:245 243
 place:245 226
 behind:245 816
theorem wk{p b:Nat}:273 (q8 hS row p b) 818=653 hS:=k96
theorem sJ{p b:Nat}:273 (q8 hS row p b) 243=653 row:=k96
theorem ug{p b:Nat}:273 (q8 hS row p b) 226=71 p:=k96
theorem ass{p b:Nat}:273 (q8 hS row p b) 816=71 b:=k96
def lV(t:ag)(r:Nat):324:=cC 730 (48 r) (238 576 t [])
structure yQ(K:bo)(C:ag):04 where
 cl:h4 K C
 text:245 576
 ea:245 730
theorem Qz{r:Nat}:273 (lV t r) 576=531:=o52
theorem asu{r:Nat}:g10 (lV t r)=71 r:=o52
theorem asv{r dF:Nat}:cC 730 (48 dF) (lV t r)=lV t dF:=by unfold lV;rfl
theorem oQ{r:Nat}:273 (lV t r) f32=00:=o52
end
abbrev ab1:bK:=343 0x4b 0
theorem asw:31 [352,818,304,226,816] [352,818,304,226,816] ab1:=⟨rfl,rfl,rfl,05,rfl,05,05⟩
section
variable{A:rT}{G:Prop}{C CS D a b bG c ck cu d dx f fI p t:ag}{E Q:aH→aZ→Prop}{F:List (List Nat)}{K:bo}{M:Model}{N:List Str}{P:f3}{S:ag→Prop}{vs:List aH}{aD:List ag}{aG e:dn}{bx doc ek ig u:aH}{o:Obj}{ah:Str→Option aH}{an cQ:Option ag}{k1 k2 k3:Option aH}{c0 i j n:Nat}{base h h':dk}{g hS l ls row:List Nat}{r:List Int}{dP k7:Array (Option aH)}{fd q9:k6}{x:Str}{outer:List Env}{own:List (Str×Nat)}{q:Search}{s s':dt}{sc:rp}{v:Word}{w:ff}{m:g0}{cb:List (Option ae)}{xs ys:List ae}{y:ae}{H H' H1 aB eF:av}{X:dT}{tb:gH}
inductive EW(C:ag)(vs:08)(H:av)(Q:aW)(E:bD):04|mk:∀(p dx:ag)(hS row:06)(a b:Nat),vs=[280,76 hS,76 row,48 a,48 b]→H p=c80→Q .b4 (264 H p C (q8 hS row a b))→EW C vs H Q E
theorem asx(F:hC K 421 "Token.__init__" ab1 f fd)(M:sI K C):eP P w K ah 02 aO 1 f fd [352,818,304,226,816] (EW C):=by
 rw[A36 asw]
 ·obtain⟨p,dx,hS,row,a,b,rfl,_⟩:=h;rfl
 ·obtain⟨p,dx,hS,row,a,b,rfl,au,k⟩:=h;rw[A01 (a59 c03 45 (e26 (557 85) 327))];refine⟨_,rfl,_,rfl,p,C,dx,_,rfl,au,20,M.sign,298 0,?_⟩;refine⟨_,rfl,_,rfl,p,C,dx,_,rfl,aI,20,M.row,960,?_⟩;refine⟨_,rfl,_,rfl,p,C,dx,_,rfl,aI,20,M.place,298 2,?_⟩;refine⟨_,rfl,_,rfl,p,C,dx,_,rfl,aI,20,M.behind,298 3,?_⟩;rw[gp,gp,gp];exact k
abbrev ab2:bK:=343 0x4c 0
theorem asy:31 j14 j14 ab2:=⟨rfl,rfl,rfl,05,rfl,05,05⟩
inductive QA(C:ag)(vs:08)(H:av)(Q:aW)(E:bD):04|mk:∀(p dx t:ag),vs=[280,784]→H p=c80→Q .b4 (264 H p C (lV t 0))→QA C vs H Q E
theorem asz(F:hC K 421 "Tokens.__init__" ab2 f fd)(M:yQ K C):eP P w K ah 02 aO 1 f fd j14 (QA C):=by
 rw[A36 asy]
 ·obtain⟨p,dx,t,rfl,_⟩:=h;rfl
 ·obtain⟨p,dx,t,rfl,au,k⟩:=h;rw[A01 (e26 c03 bu)];refine⟨_,rfl,_,rfl,p,C,dx,_,rfl,au,20,M.text,298 0,?_⟩;refine⟨_,rfl,p,C,dx,_,rfl,aI,20,M.ea,960,?_⟩;rw[gp];exact k
structure wm(P:f3)(w:ff)(K:bo)(ah:261)(base:dk)(C fI:ag)(fd:k6):04 where
 M:q7 K C fI
 F:eP P w K ah 02 aO 1 fI fd c55 (JO C)
 b:lr K fd c55 []
 m:ah 723=46 C
theorem asA{E F:04}(h:(E→F)→G)(f:E→F):G:=h f
def nS(C:ag)(H:av)(E:bD)(k p:Nat):04:=∀d H',49→H' d=c64 d (Bk 82 864)→E 236 867 H'
theorem nS.same{E:bD}{k p:Nat}(h:nS C H E k p)(s:c78):nS C H1 E k p:=fun d H' s' e=>h d H' (s.trans s') e
def n6(C:ag)(H:av)(Q:aW)(hS row:06)(p b:Nat):04:=∀H' a dx,49→H a=00→H dx=00→H' a=483 C (q8 hS row p b)→Q 38 H'
theorem n6.same{Q:aW}{p b:Nat}(h:n6 C H Q hS row p b)(s:c78):n6 C H1 Q hS row p b:=fun H' a dx s' aK aG e=>h H' a dx (s.trans s') (s.free aK) (s.free aG) e
theorem n6.make{Q:aW}{p b:Nat}{E:bD}(h:n6 C H Q hS row p b):∀x dx,H x=00→H dx=00→dx≠x→EW C [438,76 hS,76 row,48 p,48 b] (264 (upd H dx 641) x C []) (k95 (v=.b4∧515 x aB)) E:=fun x dx ai hd ne=>⟨x,dx,hS,row,p,b,rfl,aI,rfl,h _ x dx (k57 (j83 (117 ai) (117 ai) hd)) ai hd aI⟩
theorem QB{q:a71}:∀{l:06}{i c:Nat},i<11 f93→115=73→q c=01
 |[],i,c,h,_=>501
 |a::l,i,c,h,e=>by
  rw[CV]at h;rw[A18]
  ·next aN=>cases i with|zero=>have:a=c:=cI e;rw[A48];exact aN|succ i=>exact QB (l:=l) (i:=i) 967 e
  ·simp at h
theorem ahm{q:a71}:∀{l:06}{c:Nat},l[11 f93]?=73→q c=09
 |[],c,e=>k34
 |a::l,c,e=>by
  rw[CV]at e;rw[A22]
  ·exact ahm (l:=l) 566
  ·next aN=>have:a=c:=cI e;rw[A48];simpa using aN
theorem QC{q:a71}:∀{l:06},l.take (11 f93)=f93
 |[]=>rfl
 |a::l=>by
  rw[CV];split
  ·show a::l.take _=_;rw[QC]
  ·rfl
theorem ab3{q:a71}:∀{l:06},11 f93≤63
 |[]=>64
 |a::l=>by
  rw[CV];split
  ·exact Nat.succ_le_succ ab3
  ·exact 229
theorem ab4(c:Nat):Cf 337=fe c:=by unfold Cf fe;rw[hu];simp only[hG,decide_eq_true_eq];lia
def EX:06:=bV k24
theorem asB{c:Nat}(h:fe c=01):EX[c-535]?=73:=by rw[A81 ((GX c).mp h)];have:∀d,d<0x1a→EX[d]?=some (d+535):=14;have:=this (c-535) 03;rw[A16];congr 1;lia
abbrev QD:bK:=bA 0x50
theorem ab5:31 [576,226,816,f37,304] 774 QD:=⟨rfl,rfl,rfl,05,rfl,05,05⟩
def f_(bI:06)(p:Nat):06:=j20 012
inductive QE(K:bo)(cu:ag)(ck:ag)(vs:08)(H:av)(Q:aW)(E:bD):04|mk:q72 06 (vs=[784,48 p]→aJ K H t (aT a35)→p≤353→353≤5000→(12<609→nS ck H E 2 p)→(¬12<609→n6 cu H Q 640 561 p (p+609))→QE K cu ck vs H Q E)
structure JS(ah:261):04 where
 len:ah "len"=00
 tuple:ah 809=00
 set:ah b30=00
theorem asC(D:cq K ah "row_at" QD 774 f fd)(O:JS ah)(Z:wm P w K ah 02 ck fI q9)(yi:220 i25 12)(QF:220 o38 2)(asD:d7 ah "ALPHABET" (76 EX))(P5:220 o51 535)(Bn:Pr P w K ah 02 aO 1 k94 e43 Jt)(EY:mf P w K ah 02 aO 1 cu "Token" [352,818,304,226,816] (EW cu)):Pr P w K ah 02 299 3 "row_at" 774 (QE K cu ck):=by
 refine 038 ab5
 ·rw[D23];rfl
 ·obtain⟨t,bI,p,rfl,bk,au,hz,og,kt⟩:=h;have S:=ab5;rw[A01 (90 2 62 (tG Qo (vu (bM ka (J 2) (d6 (hO K rfl) 66 O.len eJ 029) (bO _)) (xM (348 (e27 Bn (440 252 45))))).pt (aM (Di (i:=2) 242 rfl 70 bu z2))) (517 (bX (bM oA (eu r6 45 62) (dq yi) (bO _)) (aM (uf Z.M Z.F 22 Z.b Z.m (aj (dq QF) 296))) b2) (qT (i:=4) rfl 242 rfl rfl 876 (339 (pM b17 252 (ma 62) (ma 45))) (own:=[(f37,3)]) (295 [576,226,816,f37,304] QD) 927 369 (286 (e6 XF (dq asD) (eu r6 85 (dq P5)) 630))) (pU EY 22 bb (aj fl (aj (OP K rfl fl 327) (462 1 2))))))];have v9:11 561≤353-p:=by have:=ab3 (q:=fe) (l:=012);rw[fV]at this;exact this
  have yR:11 a52=353:=by rw[fa,nM]
  have atT:∀{j c:Nat},bI[j]?=73→pN a52 (52 j)=71 c:=fun{j c:_}ar=>fm q71;refine 123 ⟨fun m σ H'=>∃(i:Nat),i≤609∧m=609-i∧σ=[531,71 p,71 (p+i:Nat),00,00]∧H'=H,⟨_,0,229,rfl,rfl,rfl⟩,?_⟩;rintro m σ H'⟨i,hi,rfl,rfl,rfl⟩;refine⟨_,rfl,_,rfl,t,_,rfl,.inl bk,_,_,rfl,rfl,_,rfl,?_⟩;rw[yR];refine' asA (E:=i=609) m52 ?b;case a=>
   refine eb 356 (312 (b_ (fin ?_)))
   ·have h':=104;have cM:p+i<353:=03;obtain⟨c,ar⟩:∃c,bI[p+i]?=73:=126 cM;have oy:o50 i=73:=by rw[aiY];exact ar
    refine⟨_,rfl,_,rfl,t,_,_,_,rfl,rfl,bk,atT ar,_,rfl,_,rfl,?_⟩;rw[ab4];by_cases aL:i<609
    ·rw[QB (l:=012) aL oy];refine c8 ⟨fun cb aB=>cb=[531,71 p,71 (p+(i+1):Nat),00,00]∧aB=H',?_,_,rfl,_,_,rfl,rfl,?_,rfl⟩
     ·rintro _ _⟨rfl,rfl⟩;exact⟨609-(i+1),03,i+1,aL,rfl,rfl,rfl⟩
     ·rfl
    ·have hg:i=609:=03;have p7:o50 (11 (j20 012))=73:=by rw[show 11 (j20 012)=i from hg.symm];exact oy
     rw[ahm p7];exact b_ (fin hg)
   ·have h':¬52 (p+i)<52 353:=152 z;lia
  case b=>
   intro hg;subst hg;refine⟨_,rfl,_,rfl,_,_,rfl,rfl,_,_,rfl,rfl,_,rfl,359⟩
   ·have h':=104;exact⟨_,rfl,_,_,rfl,og 03⟩
   ·have h':¬045<52 (p+609)-864:=152 z;have iN:¬12<609:=03;refine⟨_,rfl,_,rfl,_,rfl,_,rfl,_,rfl,t,_,rfl,bk,fun dP Dz=>?_⟩;rw[A63 (mb a52 e63 (921 (p+609:Nat))) Dz];have QG:mb a52 e63 (921 (p+609:Nat))=e91 561:=by unfold mb;rw[HT.r_,HT.r_,yR,sv au,177,asE,aT,b6,←uX,←uX,←wR,←wR];unfold f_;rw[QC];rfl
    rw[QG]at s1⊢;refine⟨dP,rfl,223 aI,fun JT ab6=>?_⟩;have asF:dP≠JT:=bT aI ab6;have t7:∀c∈561,fe c=01:=h63 (by
     obtain⟨j,bS⟩:=rv ar;have asG:o50 j=73:=by
      have aG:=QC (q:=fe) (l:=012);have:((bI.drop p).take (f_ bI p).length)[j]?=73:=n60 (show 221 012 609=561 from aG);rw[aiX]at this;split at this
      ·rw[A10]
      ·rw[A47]
     exact QB (eI bS) asG);refine kC (K:=K) (a:=dP) (xs:=e91 561) (fun i aB=>aB=34 (521 H' dP (b6 561)) JT (gU ((442 561).map (575 [c])))) rfl (fun i aB _ e=>683 (862 asF)) ?_ ?_
    ·rintro i y aB aC rfl;obtain⟨z,mZ,rfl⟩:=oL aC;obtain⟨c,ar,rfl⟩:∃c:Nat,(f_ bI p)[i]?=73∧z=337:=by
      rw[b6,cK]at mZ
      cases e:(f_ bI p)[i]? with|none=>rw[e]at mZ;cases mZ|some c=>rw[e]at mZ;rw[A76 c mZ]
     have Jk:=t7 c (cG ar);obtain⟨g1,g2⟩:=(GX c).mp Jk;refine⟨rfl,_,rfl,_,_,rfl,rfl,_,_,c,rfl,rfl,?_,?_,_,aI,?_,?_⟩
     ·show 0x1a≤bc;decide
     ·rw[show 337-535=52 (c-535)by lia];exact fm (asB Jk)
     ·rw[v7,ba,eS];rw[A14 (show 255 by lia)]
     ·rw[gp,dZ ar,d5,Er];rfl
    ·rintro aB rfl;rw[fa,nM,eK];have s2:aA H' (34 (521 H' dP (b6 561)) JT (gU ((561).map (575 [c])))):=808 (422 ab6);have tW:gU ((561).map (575 [c]))=(e72 561 [c]).map ae.str:=by rw[gU,gP,gP];rfl
     refine⟨282,_,rfl,_,JT,e72 561 [c],rfl,rfl,306 (by rw[aI,tW]),?_,?_⟩
     ·have aK:(m90 (e72 561 [c])).sum=609:=by
       rw[gP];generalize 561=l;clear tW
       induction l with|nil=>rfl|cons a r ih=>rw[eN,w6,ih,dR];show 1+230=_;lia
      rw[aK,show 11 a73=0 by rfl];lia
     ·rw[Zi];refine⟨_,rfl,_,rfl,?_⟩;exact((kt iN).same s2).make
theorem ab7(K:bo)(cj:X.K=K):iy X 748 (NM K):=by subst cj;exact al7
theorem asH(K:bo)(cj:X.K=K)(bp:e38<kb):gs X (jv .NotEq) (N2 K):=740 (amB bp)
theorem ab8{K:bo}{H:av}:∀L:06,tN K H (e91 L) (i68 (kI 337))|[]=>89|c::L=>.cons (.int _) (ab8 L)
def JU(t:06)(p:Nat):GW:=q73 (985 p) (.over p) (13 (fe c) (13 (12<c60 c) (.bad 2 p) (.word (c::f62) p (p+c60 c))) (13 (041 c) (.sign [c] p (p+1)) (13 ((c::g30)==ks) (.sign ks p (p+2)) (.bad 1 p))))
theorem ab9(t:06)(r:Nat):CT t r=JU t (r+c43):=rfl
def asI(cu ck:ag)(H:av)(Q:aW)(E:bD):92 GW|.bad k p=>nS ck H E k p|.over p=>n6 cu H Q 693 [] p p|.word w p b=>n6 cu H Q 640 w p b|.sign u p b=>n6 cu H Q u [] p b
def Bo:410:=[(gn 419,76 857),(gn 376,76 938),(gn 470,76 059),(gn 420,76 860)]
theorem aca(c:Nat):ja Bo a60=13 (041 c) (653 [c]) 00:=by
 have f:∀k:Nat,k≠c→591 (gn 82:cF) a60:=fun k e=>150 (e (564 (V7 z)));unfold ja Bo;rw[A72 (419=c)]
 ·subst af;rfl
 rw[A79 (376=c)]
 ·subst ak;rfl
 by_cases a6:470=c
 ·subst a6;rfl
 by_cases bH:420=c
 ·subst bH;rfl
 have k1:591 (gn 419:cF) a60:=f 419 af;have k2:591 (gn 376:cF) a60:=f 376 ak;have k3:591 (gn 470:cF) a60:=f 470 a6;have Bp:591 (gn 420:cF) a60:=f 420 bH;have ar:041 c=09:=by simp[jq af,jq ak,jq a6,jq bH]
 rw[ar];simp only[jK,k1,k2,k3,Bp];rfl
abbrev acb:bK:=bA 0x4e
theorem acd:31 [576,226,f37] 774 acb:=⟨rfl,rfl,rfl,05,rfl,05,05⟩
inductive QH(K:bo)(cu:ag)(ck:ag)(vs:08)(H:av)(Q:aW)(E:bD):04|mk:q72 06 (vs=[784,48 p]→aJ K H t (aT a35)→p≤353→353≤5000→asI cu ck H Q E (JU bI p)→QH K cu ck vs H Q E)
theorem asJ{JV QI:ag}(D:cq K ah o46 acb 774 f fd)(O:JS ah)(Z:wm P w K ah 02 ck fI q9)(asK:220 "NO_TOKEN" 1)(ace:d7 ah "SIGNS" (.ref JV))(acf:JR P w K JV Bo)(asL:d7 ah "ARROW" (.ref QI))(asM:∀H,dX K H QI [d99,d96])(Bn:Pr P w K ah 02 aO 1 k94 e43 Jt)(EY:mf P w K ah 02 aO 1 cu "Token" [352,818,304,226,816] (EW cu))(QJ:Pr P w K ah 02 299 3 "row_at" 774 (QE K cu ck)):Pr P w K ah 02 299 4 o46 774 (QH K cu ck):=by
 refine 038 acd
 ·rw[D23];rfl
 ·obtain⟨t,bI,p,rfl,bk,au,hz,k⟩:=h;have S:=acd;rw[A01 (aF (bX (bM fv (J 1) (d6 (hO K rfl) 66 O.len eJ 029) (bO _)) (65 (pU EY 22 bb (aj fl (aj fl (462 1 1))))) b2) (aF (94 2 (440 252 62)) (aF (bX (348 (d37 Bn 2)) (65 (bj QJ 22 ha (462 0 1))) b2) (aF (bX (MT (asq 45 (dq ace))) (65 (pU EY 22 bb (aj (asr (dq ace) 45 630) (aj fl (e36 1 (eu qH 62 bu)))))) b2) (434 (bX (bM (aba K rfl f05) (l_ (ab7 K rfl) 66 O.tuple boot_tuple (78 (pM b17 252 (ma 62) (ma (eu qH 62 bu))))) (dq asL) (bO _)) (65 (pU EY 22 bb (aj fl (aj fl (e36 1 (eu qH 62 bu)))))) b2) (uf Z.M Z.F 22 Z.b Z.m (aj (dq asK) 296)))))))];have yR:11 a52=353:=by rw[fa,nM]
  refine⟨_,rfl,_,rfl,t,_,rfl,.inl bk,rfl,_,rfl,?_⟩;rw[yR];unfold JU at k;refine 359
  ·have h':864=15 353:=by have:=104;injection this
   have hd:012=[]:=List.drop_eq_nil_of_le 03;rw[hd]at k;exact⟨_,rfl,_,rfl,n6.make k⟩
  ·have h':p≠353:=152 (by rw[z]);have cM:p<353:=03;obtain⟨c,ar⟩:∃c,bI[p]?=73:=126 cM;have hd:012=c::020 p 1:=by rw[aa5 cM];congr 1;have:=cA cM;rw[ar]at this;exact 129 246
   rw[hd]at k;simp only at k;have atT:pN a52 (52 p)=71 c:=fm q71;refine⟨_,rfl,_,rfl,t,_,_,_,rfl,rfl,bk,atT,?_⟩;refine⟨_,rfl,_,rfl,_,rfl,?_⟩;rw[ab4];have QK:561=13 (fe c) (c::j20 (020 p 1)) []:=by unfold f_;rw[hd,CV]
   refine eo a82 a82
   ·rw[21 aL]at k QK;refine⟨_,rfl,_,rfl,t,bI,p,rfl,bk,au,hz,fun iN=>?_,fun iN=>?_⟩
    ·rw[QK]at iN;rw[A54 iN];exact k
    ·rw[QK]at iN⊢;rw[A97 iN];exact k
   ·rw[A97 (by rw[aL];decide)];refine⟨_,rfl,JV,Bo,a60,rfl,acf,rfl,_,rfl,?_⟩;rw[aca];by_cases bH:041 c=01
    ·rw[21 bH]at k⊢;refine c8 ⟨_,rfl,JV,Bo,a60,_,rfl,acf,rfl,by rw[aca,21 bH],_,rfl,_,rfl,_,_,rfl,rfl,?_⟩;exact n6.make k
    ·rw[23 bH]at k⊢;rw[A21 ⟨_,rfl,_,rfl,_,rfl,_,rfl,_,_,rfl,rfl,_,rfl,t,_,rfl,bk,fun dP Dz=>?_⟩];rw[A63 (mb a52 e63 (some (864+2))) Dz];have QG:mb a52 e63 (some (864+2))=e91 (c::221 (020 p 1) 1):=by
      rw[show 864+2=52 (p+2)by lia];unfold mb;rw[HT.r_,HT.r_,yR,sv au,aT,b6,←uX,←uX,←wR,←wR,hd];have:min (p+2) 353-p=min 2 (353-p):=by rw[←Nat.sub_min_sub_right,asE]
      rw[A16];have eY:11 (020 p 1)=353-(p+1):=fV;have:221 (c::020 p 1) (min 2 (353-p))=c::221 (020 p 1) 1:=by
       cases e:020 p 1 with
        |nil=>
         rw[e]at eY;have:353-p=1:=by have:(0:Nat)=_:=eY;lia
         rw[A16];rfl
        |cons y ys=>
         rw[e]at eY;have:min 2 (353-p)=2:=by have:675+1=_:=eY;lia
         rw[A16];rfl
      rw[A16];rfl
     rw[QG]at s1⊢;generalize gG:(c::221 (020 p 1) 1)=L at*;refine⟨dP,_,rfl,.inl ⟨e42,fun JW asN=>?_⟩⟩;have s2:=822 (e91 L) asN;have asO:∀eF:av,jZ K eF (.ref QI) (b52 [d99,d96]):=fun eF=>jZ.tup (asM eF) (.cons d99 (386 d96));have JX:vK (b52 (i68 (kI 337)))=01∧vL (b52 (i68 (kI 337))) (b52 [d99,d96])=(L==ks):=by
      rw[←gG,show ks=[665,469]by decide]
      cases 020 p 1 with|nil=>rw[A27 rfl];show(((337==665)&&09):571)=((c==665)&&09);rw[Ak,Ak]|cons y ys=>rw[A27 rfl];show(((337==665)&&((15 y==469)&&01)):571)=((c==665)&&((y==469)&&01));rw[hu];simp;lia
     refine⟨b52 (i68 (kI 337)),b52 [d99,d96],jZ.tup (.inl (.inl aI)) (ab8 L),asO _,JX.1,14,_,rfl,?_⟩;rw[JX.2];refine eo (fun aN=>?_) (fun aN=>?_)
     ·rw[A54 aN];exact⟨_,rfl,_,rfl,_,_,rfl,rfl,n6.make (n6.same k 332)⟩
     ·rw[A97 (by rw[aN];decide)];exact⟨_,rfl,_,_,rfl,nS.same k 332⟩
abbrev hr:=Vainve.Tok
abbrev ei:=Vainve.Toks
def fN(S:92 ag)(H H':av):04:=374 (H b) (¬S b→244=25)
theorem fN.trans(a:fN S H H1)(b:fN S H1 aB):fN S H aB:=fun c o h n=>b c o (a c o h n) n
theorem fN.same(h:49):fN S H H':=o49 (h b o e)
variable{z:Nat×hr}
theorem fN.upd{o:dz}(h:S a):fN S H (Internal.upd H a o):=l88 (170 (n q70))
theorem fN.mono{EZ:92 ag}(h:fN S H H')(m:∀b,S b→EZ b):fN EZ H H':=k90 (h b o e (16 (n (m b z))))
def m1(C:ag)(S:92 ag)(H:av)(E:bD)(z:917):04:=∀d H',fN S H H'→H' d=c64 d (Bk 649 (15 z.2))→E 236 867 H'
theorem m1.step{E:bD}{z:917}(h:m1 C S H E z)(b:fN S H H1):m1 C S H1 E z:=fun d H' tL e=>h d H' (b.trans tL) e
theorem m1.c9{E:bD}{k p:Nat}(h:m1 C S H E (k,p)):nS C H E k p:=fun d H' s e=>h d H' (b48 s) e
def n7:hr→06|.word _=>640|.sign u=>u|.over=>693|.bad _=>[]
def jh:hr→06|.word w=>w|_=>[]
def wo:92 hr|.word w=>w≠[]∧j29∧f36 (535≤c∧c≤0x7a)|.sign u=>u∈[857,938,059,860,ks]|.over=>625|.bad _=>739
inductive uh(C:ag)(H:av)(q:ag)(z:411):04|mk:wo z.2→∀f9 b,H q=711 f9 (q8 (n7 z.2) g72 z.1 b)→uh C H q z
structure m2(K:bo)(C t:ag)(H:av)(a:ag)(aD:ei):04 where
 ex:∃dx bI r,H a=483 C (lV t r)∧H t=79 a35∧r≤353∧353≤5000∧aD=kr bI r
theorem asP(bI:06)(r:Nat):∀z∈kr bI r,∀w,z.2=032→wo 032:=fun z hz w e=>q69 (VP 353 (353+1) d80 z.1 w (by rw[←e];exact hz))
theorem asQ{t u:06}{r p b:Nat}(e:CT t r=.sign u p b):wo c36:=by
 rw[ab9]at e;unfold JU at e;rw[A22]
 ·cases e
 ·next c rest _=>
  rw[A22]
  ·split at e<;>cases e
  ·rw[A22]
   ·next bH=>
    have:[c]=u:=o48;rw[A48];show[c]∈[857,938,059,860,ks];have:c=419∨c=376∨c=470∨c=420:=by simpa using bH
    rcases this with z|z|z|z<;>rw[z]<;>decide
   ·rw[A22]
    ·have:ks=u:=o48;rw[A48];show ks∈[857,938,059,860,ks];decide
    ·cases e
abbrev acg:bK:=343 0x4c 1
theorem ach:31 [352,738] 251 acg:=⟨rfl,rfl,rfl,05,rfl,05,05⟩
def m3(z:411)(rest:ei):ei:=13 (z.2=.over) c69 67
inductive Bq(K:bo)(CS:ag)(cu:ag)(ck:ag)(vs:08)(H:av)(Q:aW)(E:bD):04|mk:q61 (vs=254→m2 K CS t H a aD→(∀k p rest,aD=(p,.bad k)::67→m1 ck (·=a) H E (k,p))→(∀z rest H' q,aD=c69→e48 H H'→H q=00→uh cu H' q z→m2 K CS t H' a e96→435 q)→Bq K CS cu ck vs H Q E)
theorem asR(F:hC K f32 "Tokens.take" acg f fd)(M:yQ K CS)(dN:sI K cu)(asS:Pr P w K ah 02 aO 1 o47 774 (P6 K))(QL:Pr P w K ah 02 299 4 o46 774 (QH K cu ck)):eP P w K ah 02 299 5 f fd 251 (Bq K CS cu ck):=by
 rw[C16];refine Ny e5 ny ach l60 (fun A outer s H vs Q E aq h=>?_)
 ·rw[D16];rfl
 ·obtain⟨a,t,aD,rfl,⟨dx,bI,r,aN,bk,p9,hz,rfl⟩,og,kt⟩:=h;have S:=ach;rw[A01 (389 1 (bj QL 22 ha (258 59 (a58 asS 59 59))) (557 358) 62)];refine⟨_,rfl,a,CS,dx,_,_,rfl,aN,20,M.text,Qz,_,rfl,a,CS,dx,_,_,rfl,aN,20,M.text,Qz,_,rfl,a,CS,dx,_,_,rfl,aN,20,M.ea,asu,t,a35,r,rfl,32 bk,by rw[nM];exact p9,?_⟩;have asT:mw 09 (473 a35 r)=308 d80:=by rw[show 473 a35 r=b6 d80 by unfold b6;rw[uX],GS]
  rw[asT];have asU:r+308 d80≤353:=by have:=xu d80 09;rw[fV]at this;lia
  refine⟨t,bI,r+308 d80,rfl,32 bk,asU,hz,?_⟩;have st:=aji bI r p9;have asV:t≠a:=355 bk aN;rw[←ab9];have go:∀(z:411)(b:Nat)(rest:ei),kr bI r=c69→b≤353→wo z.2→kr bI b=e96→n6 cu H (fun v H1=>(291 (tE 1 x [248,00] H1 (d17 (Hk (Xb K (iW 0) (xY K (iW 1) 816) 730) (Dd (iW 1)) j81 cb H')))) v H1) (n7 z.2) g72 z.1 b:=by intro z b rest asW aa iR i0 H1 q f9 s1 aw aBB eq;have je:=s1 _ _ aN;have asX:q≠a:=915 aN aw;refine⟨_,rfl,q,cu,f9,_,_,rfl,eq,316,dN.behind,ass,_,rfl,a,CS,dx,_,rfl,je,20,M.ea,298 2,_,rfl,?_⟩;rw[asv];refine kt z 67 _ q asW (fun c o e n=>41 n (s1 _ _ e)) aw ⟨iR,f9,b,41 asX eq⟩ ⟨dx,bI,b,aI,41 asV (s1 _ _ bk),aa,hz,i0.symm⟩
  cases e:CT bI r with|bad k p=>rw[A90];exact m1.c9 (og k p [] st)|over p=>rw[A90];obtain⟨c0,I8⟩:=st;refine go (p,.over) p [] I8 03 trivial ?_;rw[c0];unfold kr;rw[aa7];rfl|word w p b=>rw[A90];exact go (p,032) b _ st.2.2 st.1 (asP bI r _ (364 st.2.2 237) w rfl) rfl|sign u p b=>rw[A90];exact go (p,c36) b _ st.2.2 st.1 (asQ e) rfl
theorem p_(a b:06):b76 a b=29 (a=b):=by
 rw[A06 a b]
 ·rw[e];simp
 ·rw[132,decide_eq_false];intro z;have j9:aP a=aP b:=k73;exact e (109 c5 j9)
theorem aci{k:hr}(g:wo k)(p:Nat)(r:ei):29 (n7 k=693)=E0 (495::r):=by cases k with|word w=>show 591 640 693;decide|over=>show 29 (693=693)=01;decide|bad n=>exact gI g|sign u=>have g:u∈[857,938,059,860,ks]:=g;show 591 u 693;rw[D21];rw[D20]
theorem JY{k:hr}(g:wo k)(p:Nat)(r:ei){s:String}(aL:787≠640∧787≠693):29 (n7 k=787)=gm s (495::r):=by cases k with|word w=>show 591 640 787;exact 150 (aL.1 b25)|over=>show 591 693 787;exact 150 (aL.2 b25)|bad n=>exact gI g|sign u=>show 29 (u=787)=(u==zq s);rw[D22];rfl
theorem JZ{k:hr}(g:wo k)(p:Nat)(r:ei){s:String}(aL:787≠[]):29 (jh k=787)=nT s (495::r):=by cases k with|word w=>show 29 (w=787)=(w==zq s);rw[D22];rfl|over=>show 591 [] 787;exact 150 (aL b25)|bad n=>exact gI g|sign u=>show 591 [] 787;exact 150 (aL b25)
def E1:482 hr|.word _=>01|_=>09
theorem acj{k:hr}(g:wo k):29 (n7 k=640)=E1 k:=by cases k with|word w=>show 29 (640=640)=01;decide|over=>show 591 693 640;decide|bad n=>exact gI g|sign u=>have g:u∈[857,938,059,860,ks]:=g;show 591 u 640;rw[D21];rw[D20]
theorem QM(z:411)(r:ei):mF (z::r)=mF [z]:=k93
abbrev ack:bK:=bA 0x5a
theorem acm:31 a42 a42 ack:=⟨rfl,rfl,rfl,05,rfl,05,05⟩
inductive Bs(cu:ag)(ck:ag)(vs:08)(H:av)(Q:aW)(E:bD):04|mk:∀(q:ag)(z:411),vs=[a98]→uh cu H q z→nS ck H E (mF [z]).1 (mF [z]).2→Bs cu ck vs H Q E
theorem asY(D:cq K ah f33 ack a42 f fd)(dN:sI K cu)(Z:wm P w K ah 02 ck fI q9)(asZ:220 "ENDS_EARLY" 4)(as2:220 "MISPLACED" 3):Pr P w K ah 02 299 3 f33 a42 (Bs cu ck):=by
 refine 038 acm
 ·obtain⟨q,z,rfl,_⟩:=h;rfl
 ·obtain⟨q,⟨p,k⟩,rfl,⟨g,f9,b,aw⟩,og⟩:=h;have S:=acm;rw[A01 (434 (bX (bM fv 59 fl (bO _)) (aM (uf Z.M Z.F 22 Z.b Z.m (c40 asZ 59))) b2) (uf Z.M Z.F 22 Z.b Z.m (c40 as2 59)))];refine⟨_,rfl,q,cu,f9,_,_,rfl,aw,316,b49,wk,rfl,_,rfl,?_⟩;show 616 (c34 k 693);rw[p_,aci g p []]
  cases k with|over=>exact c8 ⟨_,rfl,q,cu,f9,_,_,rfl,aw,316,089,ug,_,_,rfl,og⟩|word w=>exact b_ ⟨_,rfl,q,cu,f9,_,_,rfl,aw,316,089,ug,_,_,rfl,og⟩|sign u=>exact b_ ⟨_,rfl,q,cu,f9,_,_,rfl,aw,316,089,ug,_,_,rfl,og⟩|bad n=>exact gI g
abbrev acn:bK:=bA 0x59
theorem aco:31 c06 c06 acn:=⟨rfl,rfl,rfl,05,rfl,05,05⟩
inductive E2(cu:ag)(ck:ag)(vs:08)(H:av)(Q:aW)(E:bD):04|mk:∀(q:ag)(z:411)(hS:String),vs=[a98,76 (bV hS)]→uh cu H q z→(bV hS≠640∧bV hS≠693)→(gm hS [z]=01→Q .b4 H)→(gm hS [z]=09→nS ck H E (mF [z]).1 (mF [z]).2)→E2 cu ck vs H Q E
theorem as3(D:cq K ah h81 acn c06 f fd)(dN:sI K cu)(oR:Pr P w K ah 02 299 3 f33 a42 (Bs cu ck)):Pr P w K ah 02 299 4 h81 c06 (E2 cu ck):=by
 refine 038 aco
 ·obtain⟨q,z,hS,rfl,_⟩:=h;rfl
 ·obtain⟨q,⟨p,k⟩,hS,rfl,⟨g,f9,b,aw⟩,aL,k1,k2⟩:=h;have S:=aco;rw[A01 (aM (bX (bM k4 59 62 (bO _)) (aM (026 oR 029)) b2))];refine⟨_,rfl,q,cu,f9,_,_,rfl,aw,316,b49,wk,_,rfl,rfl,_,rfl,?_⟩;rw[p_,JY g p [] aL]
  cases e:gm hS [495]with|true=>exact b_ (k1 e)|false=>exact c8 ⟨_,rfl,q,495,rfl,⟨g,f9,b,aw⟩,k2 e⟩
theorem acp{g:iv}{D:lY}{σ:bq}(Pv:647)(h0:Pv 0 σ H)(aL:∀i c σ H,(c5 x)[i]?=73→560→g a84 σ H (fun c6 aB=>b67 361 361 c6 aB))(hd:c73 (Pv 607 σ H) 659):∃W:240 647,(∃m,W 0 m σ H)∧∀i m σ H,W i m σ H→(800 (vQ x)∧659)∨((vQ x).go i H∧∃N:409,n26 (N cb H'→∃eg,eg<m∧W (i+1) eg cb H')∧∀y H',(vQ x).mL i H y H'→g y σ H' (fun c6 aB=>a11 c6 aB)):=by
 have aU:570=607:=by simp[c5]
 rw[B09 (m=607-i∧i≤607∧560) ⟨_,rfl,229,h0⟩];rw[B18];by_cases cM:i<607
 ·refine .inr ⟨a44 i 570,361,fun cb H' q=>⟨607-(i+1),03,rfl,03,q⟩,?_⟩;rw[D19];exact aL i c σ _ q68 p
 ·rw[A50 (i=607)];subst e;rw[A23 (636 570 _) (hd σ H p)]
def E3(ls:06)(z:411):f69 b7:=match z.2 with|.word w=>(d48 ls w (624 (7,z.1)) (.ok l))|_=>13 (070 [z]) (.ok []) (624 (mF [z]))
theorem Bt(ls:06)(z:411)(r:ei):ku ls (z::r)=(E3 ls z).map (452 (w,r)):=by
 rw[A82]
 cases k with
  |word w=>show(d48 ls w (tr (7,p)) (px (l,r)))=(d48 ls w (tr (7,p)) (px l)).map _;rw[B03 (qq ls w)]
  |over=>rfl
  |bad n=>rfl
  |sign u=>
   show(13 (070 ((p,c36)::r)) (px (([]:b7),r)) (tr (mF ((p,c36)::r))))=(13 (070 [(p,c36)]) (px ([]:b7)) (tr (mF [(p,c36)]))).map _;have aK:070 ((p,acq u)::r)=070 [(p,acq u)]:=rfl;rw[aK];rw[A39 (070 [(p,acq u)]=01)]
   ·rw[114,114];rfl
   ·rw[125,125];rfl
inductive yS(CS:ag)(H:av)(bG:ag)(ls:06):04|mk:∀dx bl,H bG=483 CS bl→d10 (304:Str)=653 ls→yS CS H bG ls
abbrev acr:bK:=bA 0x58
theorem acs:31 [738,36,h68] g14 acr:=⟨rfl,rfl,rfl,05,rfl,05,05⟩
inductive J0(cu:ag)(CS:ag)(ck:ag)(vs:08)(H:av)(Q:aW)(E:bD):04|mk:∀(q bG:ag)(z:411)(ls:06),vs=[a98,h03]→uh cu H q z→yS CS H bG ls→(∀x,E3 ls z=.ok x→a86 (370 x) H)→(∀y,E3 ls z=840→nS ck H E y.1 y.2)→J0 cu CS ck vs H Q E
theorem as4(D:cq K ah k92 acr g14 f fd)(dN:sI K cu)(bJ:268)(Z:wm P w K ah 02 ck fI q9)(as5:220 q67 7)(oR:Pr P w K ah 02 299 3 f33 a42 (Bs cu ck)):Pr P w K ah 02 299 4 k92 g14 (J0 cu CS ck):=by
 refine 038 acs
 ·obtain⟨q,bG,z,ls,rfl,_⟩:=h;rfl
 ·obtain⟨q,bG,⟨p,k⟩,ls,rfl,⟨g,f9,b,aw⟩,⟨dx,bl,mW,hle⟩,k1,k2⟩:=h;have S:=acs;rw[A01 (aF (bX (bM fv 59 fl (bO _)) (65 fl) b2) (aF (bX (bM k4 59 fl (bO _)) (aM (026 oR 029)) b2) (239 (e_ Qo rfl (Ik 59) (98 2 rfl 70) (aM (bX (bM aof 45 358 rfl) (aM (uf Z.M Z.F 22 Z.b Z.m (c40 as5 59))) b2))) 59)))];refine⟨_,rfl,q,cu,f9,_,_,rfl,aw,316,b49,wk,rfl,_,rfl,?_⟩;show 616 (c34 k (bV "."));rw[p_,JY g p [] 14];have acu:(∀w,k≠032)→E3 ls 495=13 (070 [495]) (.ok []) (624 (mF [495])):=fun aS=>by cases k with|word w=>rw[A64 (aS w)]|over=>rfl|bad n=>rfl|sign u=>rfl
  cases J1:070 [495]with
   |true=>
    have aS:∀w,k≠032:=fun w z=>by rw[z]at J1;cases J1
    refine c8 ?_;have:=k1 [] (by rw[acu aS,J1];rfl);rw[A10]
   |false=>
    rw[A21 ⟨_,rfl,q,cu,f9,_,_,rfl,aw,316,b49,wk,rfl,_,rfl,?_⟩];show 616 (! c34 k 640);rw[p_,acj g];by_cases hw:∃w,k=032
    ·obtain⟨w,rfl⟩:=hw;rw[A21 ⟨_,rfl,q,cu,f9,_,_,rfl,aw,316,983,sJ,_,rfl,acp (x:=aP w) (505 ((∃v,σ=[874,a95,v])∧H'=H∧∀c∈w.take i,c∈ls)) ⟨612 00,rfl,19⟩ ?_ ?_⟩]
     ·rintro i c σ H' ar⟨⟨v,rfl⟩,rfl,dQ⟩;have ar:w[i]?=73:=ar;refine⟨_,rfl,_,rfl,bG,CS,dx,_,_,rfl,mW,80,727,hle,c,aP ls,rfl,rfl,_,rfl,?_⟩;by_cases fc:c∈ls
      ·rw[102 (show c∈m67 ls from fc)];rw[A21 ⟨282,rfl,k15⟩];rw[dZ ar]at hd;rcases 362 hd with hd|hd
       ·exact dQ d hd
       ·rw[86 hd];exact fc
      ·rw[113 (show¬c∈m67 ls from fc)];refine c8 ⟨_,rfl,q,cu,f9,_,_,rfl,aw,316,089,ug,_,_,rfl,?_⟩;refine k2 (7,p) ?_;show(d48 ls w (tr (7,p)) (px l))=_;rw[Gf (16 (fc (z c (cG ar))))]
     ·rintro σ H'⟨⟨v,rfl⟩,rfl,dQ⟩;have dQ:f36 (c∈ls):=h63 (dQ c (by rw[108 (11 (c5 (aP w))) 218,eK];exact ar));obtain⟨x,af,ak,a6⟩:=Cj dQ;have:=k1 x (by show(d48 ls w (tr (7,p)) (px l))=_;rw[af]);rw[ak]at this;exact⟨_,rfl,q,cu,f9,_,_,rfl,aw,316,983,sJ,246⟩
    ·have aS:∀w,k≠032:=fun w z=>hw ⟨w,z⟩;have as6:E1 k=09:=by cases k with|word w=>rw[A64 (aS w)]|over=>rfl|bad n=>rfl|sign u=>rfl
     rw[as6];refine c8 ⟨_,rfl,q,495,rfl,⟨g,f9,b,aw⟩,?_⟩;exact k2 _ (by rw[acu aS,J1];rfl)
def Bu(ls:06)(f:Bool)(x:b7)(l:Bool)(aD:ei):949 ez:=331 (ku ls aD) (889 (.ok ({left:=x,right:=v.1,first:=f,last:=l},v.2)))
def E4(ls:06)(f:Bool)(x:b7)(l:Bool)(aD:ei):949 ez:=331 (hX "->" aD) (Bu ls f x l)
def J2(ls:06)(f:Bool)(x:b7)(aD:ei):949 ez:=E4 ls f x (067 aD) (13 (067 aD) 691 aD)
def Bv(ls:06)(f:Bool)(aD:ei):949 ez:=331 (ku ls aD) (fun u=>J2 ls f u.1 u.2)
def mu(ls:06)(aD:ei):949 ez:=Bv ls c85 (13 c85 691 aD)
theorem as7(ls:06)(z:411)(aD:ei):G0 ls (z::aD)=331 791 (285 (331 (hX ";" m.2) (k13 (m.1,e)))):=by
 unfold G0 mu Bv;show 373 (ku ls (39 c85 691 aD))=_
 cases ku ls (39 c85 691 aD)with
  |error y=>rfl
  |ok u=>
   show _=373 (J2 ls _ u.1 u.2);unfold J2 E4;show 331 (hX "->" (39 (067 u.2) (u.2.drop 1) u.2)) _=_
   cases hX "->" (39 (067 u.2) (u.2.drop 1) u.2)with
    |error y=>rfl
    |ok a=>
     show _=373 (Bu ls _ u.1 _ a);unfold Bu;show 373 (ku ls a)=_
     cases ku ls a with|error y=>rfl|ok v=>rfl
theorem J3{x:b7}(h:E3 ls z=.ok x)(r:ei):m3 z r=r:=by
 rw[A82]
 cases k with|over=>cases h|word w=>rfl|sign u=>rfl|bad n=>rfl
theorem E5{s:String}{r0:ei}(h:gm s (z::r0)=01)(r:ei):m3 z r=r:=by
 rw[A82]
 cases k with|over=>cases h|word w=>rfl|sign u=>rfl|bad n=>rfl
theorem J4(s:String)(z:411)(r:ei):gm s (z::r)=gm s [z]:=k93
theorem QN(s:String)(z:411)(r:ei):hX s (z::r)=13 (gm s [z]) (.ok r) (624 (mF [z])):=by unfold hX;rw[J4,QM];rfl
theorem yS.jE(h:yS CS H bG ls)(b:fN S H H')(n:¬S bG):yS CS H' bG ls:=let⟨dx,bl,e,l⟩:=h;⟨dx,bl,b _ _ e n,l⟩
theorem acv{E F:ag→a57}(h:(∀q f H,E q f H→F q f H)→G)(f:∀q f H,E q f H→F q f H):G:=h f
end
abbrev acw:bK:=bA 0x57
theorem acx:31 [577,36,738,h85,d16,h84,f35] [577,36] acw:=⟨rfl,rfl,rfl,05,rfl,05,05⟩
section
variable{A:rT}{G:Prop}{C CM CS D I a b bG c ck cu d dx er f fI fj p t:ag}{E Q:aH→aZ→Prop}{F:List (List Nat)}{K:bo}{M:Model}{P prog:f3}{R:Result→aZ→Prop}{Rd fD pos:Pos}{S:ag→Prop}{T:String}{a0 its' sub us vs:List aH}{aD as df:List ag}{aG e:dn}{aR:Array Il}{acc:List (Str×ag)}{bx f1 u:aH}{o:Obj}{ah:Str→Option aH}{pins:List (ag×Obj)}{dd:Option ag}{k0 k1 k2:Option aH}{b0 c0 cR dS i j n t':Nat}{base h h':dk}{g l ls:List Nat}{cl:Str→Option ag}{ns r:List Int}{d':Drawn}{dP:Array (Option aH)}{od α β:Type}{fd q9:k6}{items:Array aH}{x:Str}{outer:List Env}{own:List (Str×Nat)}{pl:Sem Bool}{q:Search}{s s':dt}{tk:Tok}{v:Word}{w:ff}{m:g0}{xs ys:List ae}{y:ae}{H H' H1 aB:av}{bC:dz}{X:dT}{bW c7 g7 h5 ty:ct}{tb:gH}{z:Nat×hr}
inductive QO(K:bo)(fj:ag)(cu:ag)(CS:ag)(CM:ag)(ck:ag)(vs:08)(H:av)(Q:aW)(E:bD):04|mk:∀(a bG t:ag)(aD:ei)(ls:06),vs=349 h03→m2 K fj t H a aD→yS CS H bG ls→bG≠a→(∀m rest,791=k08 m→∀H' q,e48 H H'→H q=00→oK CM H' q 930→m2 K fj t H' a 67→435 q)→(∀y,791=840→m1 ck (·=a) H E y)→QO K fj cu CS CM ck vs H Q E
theorem as8(D:cq K ah o44 acw [577,36] f fd)(dN:sI K cu)(M:yQ K fj)(j3:jb P w K ah 02 299 5 fj f32 251 (Bq K fj cu ck))(wq:Pr P w K ah 02 299 4 k92 g14 (J0 cu CS ck))(ui:Pr P w K ah 02 299 4 h81 c06 (E2 cu ck))(as9:mf P w K ah 02 aO 1 CM "Move" k16 (PN CM)):Pr P w K ah 02 299 6 o44 [577,36] (QO K fj cu CS CM ck):=by
 refine 038 acx
 ·obtain⟨a,bG,t,aD,ls,rfl,_⟩:=h;rfl
 ·obtain⟨a,bG,t,aD,ls,rfl,bR,gG,lg,k1,k2⟩:=h;have S:=acx;rw[A01 (90 2 863 (94 3 (z_ fv 646 fl (bO _))) (aF (bX (348 85) (aM (94 2 863)) b2) (aF (94 4 (bj wq 22 ha (462 2 1))) (90 2 863 (94 5 (z_ fv 646 fl (bO _))) (aF (bX (348 463) (aM (94 2 863)) b2) (aF (026 ui (e36 2 fl)) (239 (94 6 (bj wq 22 ha (aj 863 296))) (pU as9 22 bb (77 4 6 (462 3 5))))))))))];rw[D15 (id bR.ex)];refine' acv (E:=fun q f0 H1=>∃z rest,791=Bv ls f0 c69∧e48 H H1∧uh cu H1 q z∧q≠a∧m2 K fj t H1 a e96) m52 ?b;case a=>
   refine⟨_,rfl,a,Bw,_,rfl,q_,oQ,a,t,aD,rfl,bR,fun k p rest e=>?_,q59 ?_⟩
   ·subst e;exact k2 (k,p) rfl
   ·have yk:q≠a:=915 q_ aw;rw[D14 (id nU)];obtain⟨fW,wt⟩:=z;refine⟨_,rfl,q,cu,f9,_,_,rfl,eq1,316,b49,wk,rfl,?_⟩;have gC:29 (516 (n7 wt)=ae.str (iA "^"))=c85:=by show c34 wt (bV "^")=_;rw[p_,JY g1 fW 67 14,e]
    rw[gC];have E6:∀f0,f0=c85→791=Bv ls f0 (13 f0 691 aD):=fun f0 h=>by rw[h];rfl
    generalize hf:c85=f0;refine⟨_,rfl,_,rfl,eo 485 485⟩;rotate_left
    ·refine fin q f0 H1 ⟨(fW,wt),67,?_,b9,nU,yk,kL⟩;have hm:=k01 f0;rw[af]at hm⊢;rw[107]at hm;rw[hm,e]
    ·have i0:m3 (fW,wt) 67=67:=E5 (s:="^") (r0:=67) q66 67;rw[i0]at kL;have hm:=k01 f0;have kU:691=67:=f34;rw[af,101,kU]at hm;rw[B61 kL.ex];refine⟨_,rfl,a,mi,_,rfl,je,oQ,a,t,67,rfl,kL,fun k p qa bZ=>?_,fun es ji aB cf aG dj lP m4 iZ=>?_⟩
     ·subst bZ;exact 554 (k,p) (by rw[hm];rfl) b9
     ·refine fin cf f0 aB ⟨es,ji,?_,830,m4,?_,iZ⟩
      ·rw[hm,af,←aG]
      ·exact 915 je lP
  case b=>
   rintro q f0 H1⟨z,rest,hm,b9,nU,yk,kL⟩;refine⟨_,rfl,_,rfl,q,bG,z,ls,rfl,nU,gG.jE b9 lg,333,a74⟩
   ·have i0:e96=67:=J3 ai 67;rw[i0]at kL;have kM:791=J2 ls f0 x 67:=by rw[hm];unfold Bv;rw[Bt,ai];rfl
    rw[B61 kL.ex];refine' acv (E:=fun q f1 aB=>∃z rest,791=E4 ls f0 x f1 c69∧e48 H aB∧uh cu aB q z∧q≠a∧m2 K fj t aB a e96) (fun fin=>?c) ?d;case c=>
     refine⟨_,rfl,a,mi,_,rfl,je,oQ,a,t,67,rfl,kL,fun k p qa e=>?_,i76⟩
     ·subst e;exact 554 (k,p) (by rw[kM];rfl) b9
     ·have QP:cf≠a:=915 je lP;rw[D13 (id m4)];obtain⟨fD,jF⟩:=es;refine⟨_,rfl,cf,cu,uk,_,_,rfl,eq2,316,b49,wk,rfl,?_⟩;have gC:29 (516 (n7 jF)=ae.str (iA "$"))=067 67:=by show c34 jF (bV "$")=_;rw[p_,JY g2 fD ji 14,e]
      rw[gC];have E6:∀f1,f1=067 67→791=E4 ls f0 x f1 (13 f1 n37 67):=fun f1 h=>by rw[h,kM];rfl
      generalize hf:067 67=f1;refine⟨_,rfl,_,rfl,eo 485 485⟩;rotate_left
      ·refine fin cf f1 aB ⟨(fD,jF),ji,?_,830,m4,QP,iZ⟩;have hm:=k01 f1;rw[af]at hm⊢;rw[107]at hm;rw[hm,e]
      ·have atb:m3 (fD,jF) ji=ji:=E5 (s:="$") (r0:=ji) q66 ji;rw[atb]at iZ;have hm:=k01 f1;have kU:n37=ji:=f34;rw[af,101,kU]at hm;obtain⟨oT,wu,cT,nV,_⟩:=id iZ.ex;refine⟨_,rfl,a,oT,_,rfl,nV,oQ,a,t,ji,rfl,iZ,fun k p qa bZ=>?_,fun jC ra a5 eC cp fo wx E8 sL=>?_⟩
       ·subst bZ;exact 554 (k,p) (by rw[hm];rfl) 830
       ·refine fin eC f1 a5 ⟨jC,ra,?_,35 830 fo,E8,?_,sL⟩
        ·rw[hm,af,←cp]
        ·exact 915 nV wx
    case d=>
     rintro eC f1 a5⟨jC,ra,um,fo,E8,aBC,sL⟩;have Bx:791=13 (gm "->" [jC]) (Bu ls f0 x f1 ra) (624 (mF [jC])):=by rw[um];unfold E4;rw[QN];split<;>rfl
     refine⟨_,rfl,eC,jC,"->",rfl,E8,14,a82,a82⟩
     ·rw[aL,101]at Bx;have atc:m3 jC ra=ra:=207 "->" ra ra;rw[atc]at sL;obtain⟨Pq,aBD,h2,atd,_⟩:=id sL.ex;refine⟨_,rfl,a,Pq,_,rfl,atd,oQ,a,t,ra,rfl,sL,fun k p qa e=>?_,fun tY E9 bP fz ej p0 I3 QQ uo=>?_⟩
      ·subst e;exact 554 (k,p) (by rw[Bx];rfl) fo
      ·refine⟨_,rfl,fz,bG,tY,ls,rfl,QQ,gG.jE m75 lg,a74,a74⟩
       ·have ate:m3 tY E9=E9:=J3 aC E9;rw[ate]at uo;have QR:791=.ok (o45,E9):=q65;have p1:=m75;obtain⟨atf,atg,i7,By,p4,Bz⟩:=id uo.ex;refine⟨_,rfl,_,rfl,_,rfl,_,rfl,fun p dx cR dS d9=>?_⟩;refine⟨p,dx,cY ls o45,rfl,aI,rfl,?_⟩;have s1:aA bP (264 (264 (upd bP dx (.own p)) p CM []) p CM (iE (cY ls o45))):=351 (j83 (117 cR) (117 cR) dS);refine k1 _ E9 QR _ p (p1.trans (b48 s1)) ?_ ⟨dx,aI⟩ ⟨atf,atg,i7,s1 _ _ By,s1 _ _ p4,Bz⟩
        cases e:H p with
         |none=>rfl
         |some o=>
          exfalso;by_cases z:p=a
          ·rw[z]at cR;rw[By]at cR;cases cR
          ·have:=p1 p o e z;rw[cR]at this;rw[A47]
       ·have:791=840:=q65;exact(554 y 246 m75).c9
     ·rw[aL,107]at Bx;exact(554 _ Bx fo).c9
   ·have:791=840:=by rw[hm];unfold Bv;rw[Bt,aC];rfl
    exact(554 y 246 b9).c9
def yT(s:dt)(z:411)(aD:ei):949 dt:=13 (nT 313 [z]) (13 (8≤303) (624 (5,z.1)) (331 m50 (285 (.ok ({s with moves:=972++[m.1]},m.2))))) (13 (nT 984 [z]) (13 q58 (624 (6,z.1)) (331 a68 (452 (.ok (o42 (some w.1),w.2))))) (13 (nT b51 [z]) (13 s.goal.isSome (624 (6,z.1)) (331 a68 (452 (.ok (o41 (some w.1),w.2))))) (624 (mF [z]))))
def uq(s:dt)(z:411)(aD:ei):949 dt:=331 (yT s z aD) (400 (331 (hX ";" p.2) (k13 (p.1,e))))
theorem J5(s:String)(z:411)(r:ei):nT s (z::r)=nT s [z]:=k93
theorem ath(z:411)(r:ei):E0 (z::r)=E0 [z]:=k93
theorem acz(k:Nat)(s:dt)(z:411)(aD:ei):ts (k+1) s (z::aD)=13 (E0 [z]) (.ok s) (331 (uq s z aD) (400 (ts k p.1 p.2))):=by
 rw[ts,ath z aD,J5 313 z aD,J5 984 z aD,J5 b51 z aD,QM z aD,as7];unfold uq yT
 cases E0 [z]with
  |true=>rfl
  |false=>
   cases nT 313 [z]with
    |true=>
     show(13 (8≤303) _ _)=_;rw[A39 (8≤303)]
     ·rw[114];simp only[114];rfl
     ·rw[125];simp only[125];show _=373 (373 (373 m50))
      cases m50 with|error y=>rfl|ok m=>show(373 e94)=(373 e94);rw[B03 (b07 m.2)]
    |false=>
     cases nT 984 [z]with
      |true=>
       cases h:s.start.isSome with
        |true=>rfl
        |false=>
         show(373 a68)=373 (373 (373 a68))
         cases a68 with|error y=>rfl|ok m=>show e94=373 e94;rw[B03 (b07 m.2)]
      |false=>
       cases nT b51 [z]with
        |true=>
         cases h:s.goal.isSome with
          |true=>rfl
          |false=>
           show(373 a68)=373 (373 (373 a68))
           cases a68 with|error y=>rfl|ok m=>show e94=373 e94;rw[B03 (b07 m.2)]
        |false=>rfl
theorem ati{r:Nat}(e:024=lV t r):False:=by have h:c61 576=00:=157;rw[e,Qz]at h;cases h
theorem atj{s:cv}{l:ag}(e:024=nH s l):False:=by have h:c61 304=00:=157;rw[e,mg]at h;cases h
theorem h8.mem{l:ag}{s:cv}(h:h8 CM CS H bG dx l as s)(af:325=360)(ak:754=794):b≠bG∧b≠l:=by rw[B48 (h.cw i b m af ak)];rw[A03 522 (355 e 572)];rw[z,h.at_]at e;rw[A89];injection e with _ _ e;exact atj d14
theorem h8.atk{l f9:ag}{r:Nat}{s:cv}(h:h8 CM CS H bG dx l as s)(aN:H a=711 f9 (lV t r))(af:325=360)(ak:754=794):b≠a:=by obtain⟨d,e⟩:=h.cw i b m af ak;intro z;rw[z,aN]at e;injection e with e;injection e with _ _ e;exact ati d14
theorem h8.read{l f9:ag}{r:Nat}{s:cv}(h:h8 CM CS H bG dx l as s)(aN:H a=711 f9 (lV t r))(n:bG≠a)(b:e48 H H'):h8 CM CS H' bG dx l as s:=⟨b _ _ 674 n,b _ _ 572 (355 572 aN),h.len,fun i c m af ak=>let⟨d,e⟩:=h.cw i c m af ak;⟨d,b _ _ e (h.atk aN af ak)⟩⟩
theorem h8.add{l x:ag}{s:cv}(h:h8 CM CS H bG dx l as s)(ai:oK CM H x m):h8 CM CS (34 H l (317++[882 x])) bG dx l (as++[x]) {s with moves:=972++[m]}:=by
 have nl:bG≠l:=836 572;refine⟨41 nl 674,n55,by rw[cn,cn,h.len];rfl,fun i b y af ak=>?_⟩;have hi:=eI af;rw[cn]at hi;have hi:i<471+1:=hi;by_cases c:i<471
 ·rw[mN c]at af;have ak:(s.moves++[m])[i]?=270:=ak;rw[mN (by rw[←h.len];exact c)]at ak;rw[B48 (h.cw i b y af ak)];exact⟨d,41 (h.mem af ak).2 e⟩
 ·have hg:i=471:=03;subst hg;have ak:(s.moves++[m])[471]?=270:=ak;rw[atl]at af;rw[h.len,atl]at ak;injection af with af;injection ak with ak;subst af ak;obtain⟨d,e⟩:=ai;exact⟨d,553 e 572 e⟩
theorem h8.put{l:ag}{s s':cv}(h:h8 CM CS H bG dx l as s)(em:s'.moves=972):h8 CM CS (264 H bG CS (nH s' l)) bG dx l as s':=⟨aI,553 572 674 572,by rw[em];exact h.len,k89 (by rw[em]at ak;obtain⟨d,e⟩:=h.cw i b m af ak;exact⟨d,41 (h.mem af ak).1 e⟩)⟩
theorem atm{E F:856}(h:(∀H,E H→F H)→G)(f:∀H,E H→F H):G:=h f
theorem m1.mono{C:ag}{S EZ:92 ag}{H:av}{E:bD}{z:917}(h:m1 C EZ H E z)(m:∀b,S b→EZ b):m1 C S H E z:=fun d H' b e=>h d H' (b.mono m) e
abbrev acA:bK:=bA 0x56
theorem acB:31 [577,738,36] [577,738,36] acA:=⟨rfl,rfl,rfl,05,rfl,05,05⟩
inductive QS(K:bo)(fj:ag)(cu:ag)(CS:ag)(CM:ag)(ck:ag)(vs:08)(H:av)(Q:aW)(E:bD):04|mk:∀(a q bG t dx l:ag)(as:27)(z:411)(aD:ei)(s:dt),vs=[38,a98,h03]→uh cu H q z→m2 K fj t H a aD→h8 CM CS H bG dx l as 26→bG≠a→l≠t→303≤8→(∀s' rest,uq s z aD=k08 s'→∀H' as',fN (507 (b=a∨b=bG∨b=l)) H H'→h8 CM CS H' bG dx l as' (bh s')→m2 K fj t H' a 67→910)→(∀y,uq s z aD=840→m1 ck (507 (b=a∨b=bG∨b=l)) H E y)→QS K fj cu CS CM ck vs H Q E
theorem atn(D:cq K ah o36 acA [577,738,36] f fd)(O:443)(dN:sI K cu)(M:yQ K fj)(bJ:268)(Z:wm P w K ah 02 ck fI q9)(ato:220 "MOST_MOVES" 8)(atp:220 "NINTH_MOVE" 5)(acC:220 "SAID_TWICE" 6)(j3:jb P w K ah 02 299 5 fj f32 251 (Bq K fj cu ck))(wq:Pr P w K ah 02 299 4 k92 g14 (J0 cu CS ck))(ui:Pr P w K ah 02 299 4 h81 c06 (E2 cu ck))(oR:Pr P w K ah 02 299 3 f33 a42 (Bs cu ck))(QT:Pr P w K ah 02 299 6 o44 [577,36] (QO K fj cu CS CM ck)):Pr P w K ah 02 299 7 o36 [577,738,36] (QS K fj cu CS CM ck):=by
 refine 038 acB
 ·obtain⟨a,q,bG,t,dx,l,as,z,aD,s,rfl,_⟩:=h;rfl
 ·obtain⟨a,q,bG,t,dx,l,as,z,aD,s,rfl,tk,bR,aY,lg,QU,mx,k1,k2⟩:=h;have S:=acB;rw[A01 (434 (bX (bM fv 358 fl (bO _)) (434 (bX (bM fv (d6 (hO K rfl) 66 O.len eJ (78 646)) (dq ato) (bO _)) (aM (uf Z.M Z.F 22 Z.b Z.m (c40 atp 358))) b2) (fK (hD K rfl h9 sC sD qQ 646 (78 (bj QT 22 ha (462 0 2)))))) (aM (bX (bM fv 358 fl (bO _)) (434 (bX (bM tI 646 et (bO _)) (aM (uf Z.M Z.F 22 Z.b Z.m (c40 acC 358))) b2) (fS 45 (bj wq 22 ha (aj 863 699)) rfl)) (aM (bX (bM fv 358 fl (bO _)) (434 (bX (bM tI 646 et (bO _)) (aM (uf Z.M Z.F 22 Z.b Z.m (c40 acC 358))) b2) (fS 45 (bj wq 22 ha (aj 863 699)) rfl)) (aM (026 oR 296))))))) (026 ui (258 863 fl)))];obtain⟨g,f9,uj,aw⟩:=id tk;rw[A82];obtain⟨Bw,acy,r0,q_,acD,_⟩:=id bR.ex;have atq:l≠a:=355 301 q_;have QV:l≠bG:=355 301 84;have sub:∀b,b=a→(b=a∨b=bG∨b=l):=h80 a64;have QW:yS CS H bG 60:=⟨dx,_,84,mg⟩;refine' atm (E:=fun H1=>∃s1 rest,yT s 495 aD=k08 s1∧fN (507 (b=a∨b=bG∨b=l)) H H1∧(∃EM,h8 CM CS H1 bG dx l EM (bh s1))∧m2 K fj t H1 a 67) m52 ?b;case a=>
   have bad:∀y,yT s 495 aD=840→m1 ck (507 (b=a∨b=bG∨b=l)) H E y:=fun y h=>k2 y (by unfold uq;rw[h];rfl);refine⟨_,rfl,q,cu,f9,_,_,rfl,aw,316,983,sJ,rfl,_,rfl,?_⟩;show 616 (b76 (jh k) (bV 313));rw[p_,JZ g p [] 14];unfold yT at bad fin;generalize nT 313 [495]=fA at bad fin;refine eo 485 485
   ·subst af;rw[C40];refine⟨_,rfl,bG,CS,dx,_,_,rfl,84,80,472,kE,l,_,rfl,306 301,rfl,_,rfl,?_⟩;have c4:11 317=303:=o43 (ba ..);rw[c4];refine 359
    ·have h':303=8:=by have:=104;injection this;lia
     rw[118]at bad;exact⟨_,rfl,q,cu,f9,_,_,rfl,aw,316,089,ug,_,_,rfl,(bad _ rfl).c9⟩
    ·have h':¬8≤303:=152 (b27 (show 303=8 by lia));rw[23 h']at bad fin;refine⟨_,rfl,bG,CS,dx,_,_,rfl,84,80,472,kE,329 301,_,rfl,_,rfl,a,bG,t,aD,60,rfl,bR,QW,lg,fun m rest e H1 x b9 ai atr kL=>?_,k78 ((bad y f34).mono sub)⟩;have oU:=aY.read q_ lg b9;obtain⟨mi,E7,bU,je,wy,att⟩:=id kL.ex;refine⟨l,_,_,rfl,rfl,oU.lst,by rw[c4];exact jN (show 303<9 by lia) 14,?_⟩;refine fin _ ⟨_,67,f34,m81 (b9.mono sub) (.inr e68),328 (as++[x]),⟨mi,E7,bU,41 atq.symm je,41 QU.symm wy,att⟩⟩;have:=oU.add atr;rw[show bh {s with moves:=972++[m]}={26 with moves:=(26).moves++[853]}by unfold bh;simp];rw[A10]
   ·subst af;rw[C39];refine⟨_,rfl,q,cu,f9,_,_,rfl,aw,316,983,sJ,rfl,_,rfl,?_⟩;show 616 (b76 (jh k) d43);rw[p_,JZ g p [] 14];generalize nT 984 [495]=aBE at bad fin;refine eo 485 485
    ·subst af;rw[C40];refine⟨_,rfl,bG,CS,dx,_,_,rfl,84,80,880,tT,rfl,_,rfl,?_⟩
     cases aL:s.start with
      |some u=>rw[aL]at bad;rw[show b91=some b01 by unfold bh;rw[aL];rfl];exact c8 ⟨_,rfl,q,cu,f9,_,_,rfl,aw,316,089,ug,_,_,rfl,(bad _ rfl).c9⟩
      |none=>
       rw[aL]at bad fin;rw[D18];rw[show b91=00 by unfold bh;rw[aL];rfl];rw[A21 ⟨_,rfl,a,Bw,_,rfl,q_,oQ,a,t,aD,rfl,bR,c12,i76⟩]
       ·subst e;exact(bad (n,p) rfl).mono sub
       ·have ur:=aY.read q_ lg dj;rw[e,Bt]at bad fin;refine⟨_,rfl,cf,bG,es,60,rfl,m4,QW.jE dj lg,333,a74⟩
        ·rw[J3 ai]at iZ;rw[B59 iZ.ex];have QX:t≠bG:=355 m5 h36;refine⟨_,rfl,bG,CS,dx,_,rfl,h36,80,880,298 4,?_⟩;refine fin _ ⟨_,ji,by rw[ai];rfl,m81 d68 (.inr 253),328 as,⟨oT,wu,cT,41 lg.symm nV,41 QX m5,c1⟩⟩;exact ur.put (s':=bh (o42 43)) rfl
        ·exact((bad y (by rw[aC];rfl)).step d68).c9
    ·subst af;rw[C39];refine⟨_,rfl,q,cu,f9,_,_,rfl,aw,316,983,sJ,rfl,_,rfl,?_⟩;show 616 (b76 (jh k) 006);rw[p_,JZ g p [] 14];generalize nT b51 [495]=aBF at bad fin;refine eo 485 485
     ·subst af;rw[C40];refine⟨_,rfl,bG,CS,dx,_,_,rfl,84,80,969,tU,rfl,_,rfl,?_⟩
      cases aL:s.goal with
       |some u=>rw[aL]at bad;rw[show b99=some b01 by unfold bh;rw[aL];rfl];exact c8 ⟨_,rfl,q,cu,f9,_,_,rfl,aw,316,089,ug,_,_,rfl,(bad _ rfl).c9⟩
       |none=>
        rw[aL]at bad fin;rw[D18];rw[show b99=00 by unfold bh;rw[aL];rfl];rw[A21 ⟨_,rfl,a,Bw,_,rfl,q_,oQ,a,t,aD,rfl,bR,c12,i76⟩]
        ·subst e;exact(bad (n,p) rfl).mono sub
        ·have ur:=aY.read q_ lg dj;rw[e,Bt]at bad fin;refine⟨_,rfl,cf,bG,es,60,rfl,m4,QW.jE dj lg,333,a74⟩
         ·rw[J3 ai]at iZ;rw[B59 iZ.ex];have QX:t≠bG:=355 m5 h36;refine⟨_,rfl,bG,CS,dx,_,rfl,h36,80,969,298 4,?_⟩;refine fin _ ⟨_,ji,by rw[ai];rfl,m81 d68 (.inr 253),328 as,⟨oT,wu,cT,41 lg.symm nV,41 QX m5,c1⟩⟩;exact ur.put (s':=bh (o41 43)) rfl
         ·exact((bad y (by rw[aC];rfl)).step d68).c9
     ·subst af;rw[C39];exact⟨_,rfl,q,495,rfl,tk,(bad _ rfl).c9⟩
  case b=>
   rintro H1⟨s1,rest,ar,b9,⟨EM,oU⟩,kL⟩;rw[B61 kL.ex];have ax:uq s 495 aD=331 (hX ";" 67) (k13 (s1,e)):=by unfold uq;rw[ar];rfl
   refine⟨_,rfl,a,mi,_,rfl,je,oQ,a,t,67,rfl,kL,c12,i76⟩
   ·subst e;exact(554 (n,p) (by rw[ax];rfl) b9).mono sub
   ·rw[e,QN]at ax;refine⟨cf,es,";",rfl,m4,14,a82,a82⟩
    ·rw[aL,101]at ax;rw[207 ";" ji ji]at iZ;exact k1 s1 ji ax aB EM (h83 d68) (oU.read je lg dj) iZ
    ·rw[aL,107]at ax;exact(554 _ ax (h83 d68)).c9
def met{α:272}[i94](f:240 α):240 40|0=>[]|i+1=>13 (f i∈950) 950 (f i::950)
theorem QY{α:272}[i94](f:240 α):∀i,11 950≤i
 |0=>cL 0
 |i+1=>by
  have:=QY f i;unfold met;split
  ·lia
  ·rw[dR];lia
theorem QZ{α:272}[i94](f:240 α)(x:α):∀i,x∈950↔∃j,j<i∧f j=x
 |0=>⟨312 b68,fun⟨j,h,_⟩=>(03)⟩
 |i+1=>by
  have ih:=QZ f x i;have:x∈met f (i+1)↔(x∈950∨x=f i):=by
   conv=>lhs;unfold met
   split
   ·next h=>exact⟨.inl,j51 id (100 (by rw[e];exact h))⟩
   ·rw[ed];exact Or.comm
  rw[this,ih];rw[A04]
  ·rintro(⟨j,h,e⟩|e)
   ·exact⟨j,03,e⟩
   ·exact⟨i,03,d14⟩
  ·rintro⟨j,h,e⟩;by_cases z:j=i
   ·subst z;rw[A09 d14]
   ·rw[A17 ⟨j,03,e⟩]
theorem acE{α:272}[i94](f:240 α):∀i,11 950=i↔∀a b,a<b→b<i→f a≠f b
 |0=>⟨fun _ _ _ _ h=>03,525⟩
 |i+1=>by
  have ih:=acE f i;have l:=QY f i;conv=>lhs;unfold met
  split
  ·next h=>obtain⟨j,bS,e⟩:=(QZ f _ i).mp h;exact⟨16 03,16 (69 e (z j i bS 03))⟩
  ·next h=>
   rw[dR];rw[A04]
   ·intro z a b td aa e;have j9:11 950=i:=03;by_cases c:b=i
    ·subst c;exact h ((QZ f _ _).mpr ⟨a,td,e⟩)
    ·exact ih.mp j9 a b td 03 e
   ·intro z;have:=ih.mpr (fun a b td aa=>z a b td 03);lia
section
variable{fu:ag}{wr:27}{G:j90→92 j90}{T:Nat→92 aH}{bq:456 Nat}
def qb(P:f3)(w:ff)(h:dk)(z:ag)(l:225):04:=h.SetOf (strKind P w) z (450 (a43 k l)) 63
theorem qb.keep{z:ag}{l:225}(x:qb P w h z l)(k:∀o,558 z→b81 z):qb P w h' z l:=let⟨o,aR,c0,t,e,r⟩:=x;⟨o,aR,c0,t,k o e,r⟩
theorem atv(W:WalksS P w 503 fu df wr G n T bq)(z:ag)(eZ:z∉df)(f:240 Str)(hf:∀i v,T i v→∃t,v=.str (f i) t)(aa:n+1<yU):∀(d i:Nat)(s:aZ),n-i=d→i≤n→bq i s→qb P w 28 z 950→(∀s',Moved (z::wr) G s s'→qb P w 543 z (met f n)→R (.ok (.ret 87)) s')→qI 289 A (n22 "set.update.loop" [344,.ref fu]) R s:=by
 intro d
 induction d with
  |zero=>rw[D17];rw[A50 (i=n)];subst e;have nw:z∉wr:=72 (eZ (W.sub _ x));refine BA q64 ?_;rw[E_ o40 _];rw[A00 (W.done s _ _ st (fun s1 cw=>?_))];exact cx (q s1 (cw.mono (290 (d4 _))) (hz.keep (737 (cw.heap z o nw))))
  |succ d ih=>
   rw[D17];have lt:i<n:=03;have nw:z∉wr:=72 (eZ (W.sub _ x));refine BA q64 ?_;rw[E_ o40 _];rw[A00 (W.item i s _ _ lt st (fun v s1 h5 Q0 cw=>?_))];rw[B44 (hf i v h5)];have nW:=hz.keep (737 (cw.heap z o nw));rw[A99 ?_];unfold setAdd;refine oz ?_;rw[A00 ((strKind P w).pyHash (k:=f i) (strKind_is _ _ _ _) ?_)];have room:=QY f i;refine wpAny_setAddHashed_of (knd:=strKind P w) (strKind_is _ _ _ _) rfl nW 03 (fun ak eX mZ=>?_);have EN:qb P w ak z (met f (i+1)):=by
    refine SetOf_congr mZ 046 ?_
    ·rw[hu,Gi,decide_eq_true_eq,decide_eq_true_eq,decide_eq_true_eq];conv=>rhs;unfold met
     split
     ·next y=>exact⟨72 (x.elim id (100 (by rw[e];exact y))),.inl⟩
     ·rw[ed];exact Or.comm
    ·conv=>rhs;unfold met
     by_cases y:f i∈950
     ·rw[21 y,21 (102 y)]
     ·rw[23 y,23 (c99 (113 y))];rfl
   refine cx ⟨yV o40 _,ih (i+1) _ 03 lt (W.frame _ s1 _ _ Q0 163 (fun b Q1 o e=>?_)) EN (fun s2 atw Q2=>?_)⟩
   ·rw[eX.2 b (fun x:b=z=>eZ (x▸Q1))];exact e
   ·refine q s2 (Moved.trans W.gtrans ((cw.mono (290 (d4 _))).then_heap 163 (fun b o Q1 e=>?_)) atw) Q2;rw[eX.2 b (fun x:b=z=>Q1 (by rw[x];exact dO))];exact e
theorem aAK:isSubtype (401 090) d75=911:=h79
theorem atx:isSubtype (401 090) (401 "frozenset")=911:=h79
abbrev J6(b:Bool):Obj:=q63 d75 (.set #[] 0 (.fresh 0 0 b))
theorem aty{s:aZ}{atz:490}{t:Tok}{Q:592}(dh:595)(aa:570+1<yU)(z:ag)(lt:z<18)(hz:qb P w 28 z [])(q:q62 (qb P w af z (met (g74 i 0) 570)→(300 a99 (b≠z→346→c59 b))→Q () o39)):a9 289 A (vw 858) (fun a s1=>a9 289 A (do
 let _←runValue (Code.builtin "set.update.loop" ⟨[.ref z,a],[]⟩)
 pure ()) Q atz s1) E s:=by
 refine wpAny_pyIter_str (fun o bq W st=>?_);rw[A00 (wpAny_runValue ?_)];have a6:A.in1.handled=00:=o27;refine atv (W 503 a6).toS z n46 (g74 i 0) (fun i v y=>?_) aa _ 0 _ rfl 229 st (hz.keep (fun dr e=>130)) (fun s2 cw mZ=>?_)
 ·rw[86 y]at lt;exact kV _ lt
 ·obtain⟨c,u,e,rfl⟩:=y;exact⟨u,by simp[atA,e]⟩
 ·obtain⟨af,g1,jW,nU,vZ⟩:=s2;have aK:g1=d15:=cw.gens;have aG:jW=h82:=cw.drawn;have cp:vZ=s.os:=cw.os;subst aK aG cp;refine cx (q af nU mZ (fun b dr lN nb e=>cw.heap b dr n46 130));rcases 569 y with y|y
  ·exact nb y
  ·rw[86 y]at lN;exact kV _ lN
theorem atB{s:aZ}{t:Tok}(dh:595)(aa:570+1<yU)(q:q62 (qb P w af 18 (met (g74 i 0) 570)→(300 a99 (346→c59 b))→Q 277 o39)):a9 289 A (kZ d75 [858]) Q E s:=by
 obtain⟨c,c5,aBG⟩:=F.called_set.mro;have fA:=F.called_set.made;have kd:=F.called_set.sub;have iY:=F.called_set.notType;have nI:=F.called_set.canCreate;have aBH:=F.typeCall_set_1 858;refine HH (codeAny_of_tree (cx ⟨Code.quiet_builtin _ 05,BA F.entry_type_call ?_⟩));rw[Around.under_plain (weight_type_call_type b30 [858] []) rfl];repeat(any_goals(first|rw[A34]|wp_step))
 refine x3 (code_set_new_1 858 (E:=E) (Q₁:=h78 (∃b,v=277∧s1=621 (581 (J6 b)))) (507 (715 b rfl))) (fun r s1 aq=>?_)
 cases r with
  |error e=>exact aq
  |ok c9=>
   cases c9 with
    |ret v=>
     obtain⟨b,rfl,rfl⟩:=aq;have n8:(581 (J6 b)).get? 18=some (J6 b):=111;have ty:atD (621 (581 (J6 b))) 277 b30:=445 n8;have aBI:=F.called_set.init.lookup;have aBJ:=F.called_set.init.bind 277;repeat(any_goals(first|rw[A34]|wp_step))
     refine x3 (abG (R:=wants (fun r s2=>r=.none∧∃af tk,s2=o39∧qb P w af 18 (met (g74 i 0) 570)∧(300 a99 (346→c59 b))) E) F.called_set.init.plain F.entry_set_init (check_set_init_1 ty ?_)) (fun cT s2 c1=>?_)
     ·have jW:=aAK;have iC:=atx;have wi:(vk 090==vk 536)=09:=14;unfold Builtin.«set.__init__» noKeywords aBK;generalize iI:vw=pi;wp_walk;subst iI;have a6:A.in1.in1.handled=00:=o27;refine aty a6 aa 18 (by rw[kz];exact zG _) ?_ n27
      ·exact SetOf_congr ((setObjOf_fresh (knd:=strKind P w) b).setOf n8 n98) 525 rfl
      ·refine cx ⟨rfl,af,tk,rfl,y,fun tL o lt e=>fC tL o (by rw[kz];lia) (fk lt) 130⟩
     ·cases cT with
      |error e=>exact c1
      |ok atE=>
       cases atE with
        |ret r=>
         obtain⟨rfl,af,tk,rfl,y,fC⟩:=c1;repeat(any_goals(first|rw[A34]|wp_step))
         exact q _ _ y fC
        |_=>exact c1.elim
    |_=>exact aq.elim
end
def J7(P:f3)(w:ff)(a:ag)(l:225):dz:=j63 (qb P w h a l)
def Fb(x:Str):225:=met (g74 i 0) 570
theorem atF(L:06):11 (Fb (aP L))=k91↔L.Nodup:=by
 have e:(aP L).cps.size=k91:=by have:m67 L=L:=rfl;rw[←C_,this]
 have g:∀i,(aP L).cps.getD i 0=L.getD i 0:=425 (by have:(aP L).cps=L.toArray:=rfl;rw[this];simp[atA,cZ]);have lT:∀(i:Nat)(h:i<k91),L.getD i 0=L[i]:=619 (165 h);unfold Fb;rw[e,acE];have inj:∀a b:Nat,(001 a:Str)=001 b↔a=b:=578 ⟨312 (by injection h with h;injection h with h;injection h),312 (by rw[h])⟩;rw[A04]
 ·intro h;rw[Fc,atG];intro i j hi bS MC z;refine h i j MC bS ((inj _ _).mpr ?_);rw[g,g,lT _ hi,lT _ bS,z]
 ·intro h a b td aa z;rw[Fc,atG]at h;have j9:=(inj _ _).mp z;have aN:a<k91:=03;rw[g,g,lT _ aN,lT _ aa]at j9;exact h a b aN aa td j9
theorem atH(P:f3)(w:ff)(dH:61=P)(hw:X.w=w)(ar:394:=by rfl):iy X d75 (k61 (∃z:Str,xs=[931]∧z.cps.size<1000∧∀l,H l=00→515 l (upd H l (J7 P w l (Fb z))))):=by
 rw[A60];subst dH hw;rw[C38];rw[B36 r];refine atB 408 n98 n27;refine⟨277,_,f91 tk (351 (fC b o 105 e)) (JN y ?_ ?_),rfl,q _ 684⟩
 ·obtain⟨o,_,_,_,e,_⟩:=y;exact⟨o,e⟩
 ·exact fun af ak a k=>qb.keep a k
theorem atJ(P:f3)(w:ff)(dH:61=P)(hw:X.w=w):g77 (k61 (∃p l,xs=718∧H p=some (J7 P w p l)∧662 63)):=by
 rw[A60];subst dH hw;obtain⟨p,l,rfl,au,q⟩:=h;rw[B08 r];rw[A07];obtain⟨y,_,_⟩:=613 p au;obtain⟨o,aR,c0,tb,a8,hex,hd,_,_,aa,hf,aU⟩:=y;have e:52 d03=15 63:=by rw[aU]
 refine call_len_set a8 hex hd hf q10 ⟨.int 63,H,(279).tok _,404 f20,q⟩
def acF(z:411):f69 06:=13 (E1 z.2) (13 (xv g72&&29 (11 g72≤4)) (.ok g72) (624 (2,z.1))) (624 (mF [z]))
def BB(ls:06)(aD:ei):949 06:=331 (hX ";" aD) (k13 (ls,e))
def BC(aD:ei):949 06:=331 (G2 aD) (973 (BB l.1 l.2))
def Fd(aD:ei):949 06:=331 (CY 304 aD) BC
theorem atL(z:411)(r:ei):G2 (z::r)=331 (acF z) (973 (.ok (l,r))):=by
 rw[A82]
 cases k with|word w=>show(39 (xv w&&555 218 4) _ _)=G1 (616 (xv w&&555 218 4)) _;split<;>rfl|over=>rfl|sign u=>rfl|bad n=>rfl
theorem atM(s:String)(z:411)(r:ei):CY s (z::r)=13 (nT s [z]) (.ok r) (624 (mF [z])):=by unfold CY;rw[J5,QM];rfl
theorem atN{s:String}(h:nT s [z]=01)(r:ei):m3 z r=r:=by
 rw[A82]
 cases k with|over=>cases h|word w=>rfl|sign u=>rfl|bad n=>rfl
theorem atO(h:E1 z.2=01)(r:ei):m3 z r=r:=by
 rw[A82]
 cases k with|over=>cases h|word w=>rfl|sign u=>rfl|bad n=>rfl
abbrev acG:bK:=bA 0x55
theorem acH:31 [577,738] [577] acG:=⟨rfl,rfl,rfl,05,rfl,05,05⟩
inductive Q3(K:bo)(fj:ag)(ck:ag)(vs:08)(H:av)(Q:aW)(E:bD):04|mk:q61 (vs=254→m2 K fj t H a aD→(∀ls rest,Fd aD=k08 ls→∀H',e48 H H'→m2 K fj t H' a 67→a86 ls H')→(∀y,Fd aD=840→m1 ck (·=a) H E y)→Q3 K fj ck vs H Q E)
theorem atP(D:cq K ah o37 acG [577] f fd)(O:JS ah)(dN:sI K cu)(M:yQ K fj)(Z:wm P w K ah 02 ck fI q9)(atQ:220 q60 4)(QF:220 o38 2)(j3:jb P w K ah 02 299 5 fj f32 251 (Bq K fj cu ck))(ui:Pr P w K ah 02 299 4 h81 c06 (E2 cu ck))(oR:Pr P w K ah 02 299 3 f33 a42 (Bs cu ck)):Pr P w K ah 02 299 6 o37 [577] (Q3 K fj ck):=by
 refine 038 acH
 ·rw[D16];rfl
 ·obtain⟨a,t,aD,rfl,bR,k1,k2⟩:=h;have S:=acH;rw[A01 (90 1 863 (bX (bM k4 358 fl (bO _)) (aM (026 oR 296)) b2) (90 1 863 (bX (bM k4 358 fl (bO _)) (aM (026 oR 296)) b2) (517 (bX (rW (bM oA (064 358) (dq atQ) (bO _)) (rV (bM k4 (d6 (atJ P w rfl rfl) 66 O.len eJ (78 (l_ (atH P w rfl rfl) 66 O.set boot_set (78 358)))) (064 358) (bO _)))).pt (aM (uf Z.M Z.F 22 Z.b Z.m (c40 QF 358))) b2) (026 ui (258 863 fl)) 358)))];rw[D15 (id bR.ex)];refine⟨_,rfl,a,Bw,_,rfl,q_,oQ,a,t,aD,rfl,bR,c12,q59 ?_⟩
  ·subst e;exact k2 (n,p) rfl
  ·unfold Fd at k1 k2;rw[e,atM]at k1 k2;rw[D14 (id nU)];obtain⟨fW,wt⟩:=z;refine⟨_,rfl,q,cu,f9,_,_,rfl,eq1,316,983,sJ,rfl,_,rfl,?_⟩;show 616 (! b76 (jh wt) (bV 304));rw[p_,JZ g1 fW [] 14]
   cases hw:nT 304 [(fW,wt)]with
    |false=>rw[hw,107]at k2;exact c8 ⟨_,rfl,q,(fW,wt),rfl,nU,(554 _ rfl b9).c9⟩
    |true=>
     rw[hw,101]at k1 k2;rw[atN hw]at kL;rw[B61 kL.ex];rw[A21 ⟨_,rfl,a,mi,_,rfl,je,oQ,a,t,67,rfl,kL,c12,fun z ji aB cf e dj lP m4 iZ=>?_⟩]
     ·subst e;exact 554 (n,p) rfl b9
     ·have k1:∀ls dF,BC 67=.ok (ls,dF)→_:=k1;have k2:∀y,BC 67=840→_:=k2;unfold BC at k1 k2;rw[e,atL]at k1 k2;unfold acF at k1 k2;have BD:=830;rw[D13 (id m4)];obtain⟨fD,jF⟩:=z;refine⟨_,rfl,cf,cu,uk,_,_,rfl,eq2,316,b49,wk,rfl,_,rfl,?_⟩;show 616 (! c34 jF 640);rw[p_,acj g2]
      cases hw:E1 jF with
       |false=>rw[hw,107]at k2;exact c8 ⟨_,rfl,cf,(fD,jF),rfl,m4,(554 _ rfl BD).c9⟩
       |true=>
        rw[hw,101]at k1 k2;rw[atO hw]at iZ;have acI:156 703:=by cases jF with|word w=>exact g2.2.1|over=>exact 229|sign u=>exact 229|bad n=>exact 229
        rw[A21 ⟨_,rfl,cf,cu,uk,_,_,rfl,eq2,316,983,sJ,_,rfl,?_,?_⟩]
        ·rw[dB];rw[A37 acI]
        refine⟨_,_,rfl,rfl,_,rfl,?_⟩;rw[dB];refine eb (fun bH=>?_) (fun bH=>?_)
        ·have bH:15 4<320 703:=121 bH;rw[23 (by rw[113 (show¬11 703≤4 by lia),Ak];decide)]at k2;exact c8 ⟨_,rfl,cf,cu,uk,_,_,rfl,eq2,316,089,ug,_,_,rfl,(554 _ rfl BD).c9⟩
        ·have bH:11 703≤4:=by refine Nat.le_of_not_lt (16 (bH (102 ?_)));show 15 4<320 703;lia
         refine⟨_,rfl,cf,cu,uk,_,_,rfl,eq2,316,983,sJ,_,rfl,?_,k20⟩
         ·show n67 703<1000;rw[gu];lia
         have s3:aA aB (upd aB l (J7 P w l (Fb (aP 703)))):=422 ax;have J8:=BD.trans (b48 s3);have eq3:=83 eq2;refine⟨l,_,rfl,aI,_,rfl,cf,cu,uk,_,_,rfl,eq3,316,983,sJ,_,rfl,?_,rfl,_,rfl,?_⟩
         ·rw[dB];rw[A37 acI]
         rw[dB];have rb:=atF 703;refine eb (fun aU=>?_) (fun aU=>?_)
         ·have nn:¬668 703:=16 (by rw[rb.mpr z]at aU;simp at aU);rw[23 (by intro z;rw[hG]at z;exact nn (MD z.1))]at k2;exact⟨_,rfl,cf,cu,uk,_,_,rfl,eq3,316,089,ug,_,_,rfl,(554 _ rfl J8).c9⟩
         ·have nn:668 703:=rb.mp (by refine nk (16 (aU ?_));simp;exact 131 (z (acJ y)));rw[21 (by rw[VT nn,102 bH];rfl)]at k1 k2;have k1:∀ls dF,BB 703 ji=.ok (ls,dF)→_:=k1;have k2:∀y,BB 703 ji=840→_:=k2;unfold BB at k1 k2;rw[B59 iZ.ex];have sL:m2 K fj t (upd aB l (J7 P w l (Fb (aP 703)))) a ji:=⟨oT,wu,cT,83 nV,83 m5,c1⟩;have QP:cf≠a:=915 je lP;refine⟨_,rfl,a,oT,_,rfl,83 nV,oQ,a,t,ji,rfl,sL,c12,fun jC ra a5 eC e fo wx E8 uo=>?_⟩
          ·subst e;exact 554 (n,p) rfl J8
          ·rw[e,QN]at k1 k2;refine⟨eC,jC,";",rfl,E8,14,a82,a82⟩
           ·rw[aL,101]at k1;rw[207 ";" ra ra]at uo;exact⟨_,rfl,cf,cu,uk,_,_,rfl,fo _ _ eq3 QP,316,983,sJ,k1 _ _ rfl a5 (J8.trans fo) uo⟩
           ·rw[aL,107]at k2;exact(554 _ rfl (J8.trans fo)).c9
def J9(ls:06):dt:={letters:=ls,moves:=[],start:=none,goal:=none}
def Q4(ls:06)(aD:ei):f69 dt:=ts (VR+4) (J9 ls) aD
theorem acK(ls:06)(aD:ei):Q4 ls aD=ts (0xb+1) (J9 ls) aD:=by unfold Q4;rw[108 (VR+4) (0xb+1)]
def Q5(aD:ei):f69 dt:=331 (Fd aD) (973 (Q4 l.1 l.2))
theorem atR(bI:06):xw bI=Q5 (kr bI 0):=by
 show 373 (CY 304 (kr bI 0))=_;unfold Q5 Fd
 cases CY 304 (kr bI 0)with
  |error y=>rfl
  |ok r=>
   show 373 (G2 r)=373 (BC r);unfold BC
   cases G2 r with|error y=>rfl|ok l=>show 331 (hX ";" l.2) _=373 (BB l.1 l.2);unfold BB;rw[B03 (b07 l.2)]
theorem acL(a:α)(f:α→g81 β):331 (px a) f=f a:=rfl
theorem acM(e:od)(f:α→g81 β):(tr e:g81 α).bind f=c02:=rfl
theorem acN(k:Nat)(s:dt)(p n:Nat)(r:ei):ts (k+1) s ((p,.bad n)::r)=624 (n,p):=by rw[acz];rfl
def slots(s:dt):Nat:=(8-303)+(13 q58 0 1)+(13 s.goal.isSome 0 1)
theorem Fe{x:g81 α}{f:α→g81 β}{y:β}(h:x.bind f=.ok y):∃a,x=.ok a∧f a=.ok y:=by cases x with|error e=>cases h|ok a=>rw[A44 a h]
theorem atU{aD:ei}{r:ei}(h:yT s z aD=.ok (s',r))(mx:303≤8):slots s'+1≤slots s∧q57≤8:=by
 unfold yT at h;rw[A18]
 ·rw[A18]
  ·cases h
  ·next hm=>rw[C14 h];cases e;unfold slots;simp only[cn,dR,l4];exact⟨03,03⟩
 ·rw[A18]
  ·rw[A18]
   ·cases h
   ·next hm=>rw[C14 h];cases e;unfold slots;rw[23 hm];simp only[N_,if_true];exact⟨03,mx⟩
  ·rw[A18]
   ·rw[A18]
    ·cases h
    ·next hm=>rw[C14 h];cases e;unfold slots;rw[23 hm];simp only[N_,if_true];exact⟨03,mx⟩
   ·cases h
theorem atV{aD:ei}{r:ei}(h:uq s z aD=.ok (s',r))(mx:303≤8):slots s'+1≤slots s∧q57≤8:=by unfold uq at h;obtain⟨⟨s1,bU⟩,aK,h⟩:=Fe h;obtain⟨e,_,h⟩:=Fe h;cases h;exact atU aK mx
theorem nS.opened{E:bD}{y:917}(h:nS C H E y.1 y.2)(s:c78)(n:∀b,S b→H b=00):m1 C S H1 E y:=fun d H' b e=>h d H' (fun c o q=>b c o (s c o q) (16 (q56 (n c z)))) e
theorem fN.J_(s:c78)(n:∀b,S b→H b=00)(b:fN S H1 aB):aA H aB:=fun c o q=>b c o (s c o q) (16 (q56 (n c z)))
abbrev acO:bK:=bA 0x54
theorem acP:31 [576,577,36,738] 841 acO:=⟨rfl,rfl,rfl,05,rfl,05,05⟩
inductive Q6(CM:ag)(CS:ag)(ck:ag)(vs:08)(H:av)(Q:aW)(E:bD):04|mk:∀(t:ag)(bI:06),vs=[784]→H t=79 a35→353≤5000→(∀s,xw bI=.ok s→∀H' bG,49→H bG=00→dK CM CS H' bG 26→435 bG)→(∀y,xw bI=840→nS ck H E y.1 y.2)→Q6 CM CS ck vs H Q E
theorem atW(D:cq K ah o35 acO 841 f fd)(dN:sI K cu)(M:yQ K fj)(j3:jb P w K ah 02 299 5 fj f32 251 (Bq K fj cu ck))(atX:mf P w K ah 02 aO 1 fj "Tokens" j14 (QA fj))(Q7:mf P w K ah 02 aO 1 CS "System" g12 (Jl CM CS))(Q8:Pr P w K ah 02 299 6 o37 [577] (Q3 K fj ck))(Q9:Pr P w K ah 02 299 7 o36 [577,738,36] (QS K fj cu CS CM ck)):Pr P w K ah 02 299 8 o35 841 (Q6 CM CS ck):=by
 refine 038 acP
 ·obtain⟨t,bI,rfl,_⟩:=h;rfl
 ·obtain⟨t,bI,rfl,bk,fX,k1,k2⟩:=h;have S:=acP;rw[A01 (90 1 (pU atX 22 bb 029) (94 2 (pU Q7 22 bb (78 (bj Q8 22 ha 296)))) (389 3 (gv j3 20 22 ha 62) (tG Qo (bM k4 843 fl (bO _)) (434 (026 Q9 (77 1 3 699)) (94 3 (gv j3 20 22 ha 62)))) 45))];rw[atR]at k1 k2;unfold Q5 at k1 k2;refine 123 (fun a dx aN yW abK=>⟨a,dx,t,rfl,aI,rfl,?_⟩);have s1:aA H (264 (264 (upd H dx m07) a fj []) a fj (lV t 0)):=351 (j83 (117 aN) (117 aN) yW);generalize wz:264 (264 (upd H dx m07) a fj []) a fj (lV t 0)=H1 at s1⊢;have je:H1 a=483 fj (lV t 0):=by rw[←wz];exact aI
  have kL:m2 K fj t H1 a (kr bI 0):=⟨dx,bI,0,je,s1 _ _ bk,229,fX,rfl⟩;have BE:∀b,b=a→H b=00:=h80 (by rw[h];exact aN);refine⟨_,rfl,a,t,_,rfl,kL,fun ls rest e aB dj iZ=>?_,k78 ?_⟩
  ·rw[e]at k1 k2;rw[acL]at k1 k2;dsimp only at k1 k2;have s2:=dj.J_ s1 BE;refine q54 ⟨bG,wA,ls,rfl,aI,q55 (119 ?_)⟩;rw[B59 iZ.ex];have lg:bG≠a:=915 nV mW;have QV:l≠bG:=16 q50;have atZ:l≠wA:=16 (by rw[aE QV,z,aI]at ax;cases ax);have lL:aB l=00:=by rw[aE QV,aE atZ]at ax;exact ax
   have QU:l≠t:=915 m5 lL;have Ff:aA aB bP:=351 (jE b o (j06 (117 mW) Ka) (bT e mW));have s4:=b50 Ff;have back:∀b,aB b=00→H b=00:=h80 (by cases q:H b with|none=>rfl|some o=>rw[106 q]at h;cases h);have acQ:=back bG mW;have Kb:∀b,(b=a∨b=bG∨b=l)→H b=00:=h80 (by
    rcases h with h|h|h
    ·rw[h];exact aN
    ·rw[h];exact acQ
    ·rw[h];exact back l lL);have sub:∀b,b=a→(b=a∨b=bG∨b=l):=h80 a64;have uo:m2 K fj t bP a 67:=⟨oT,wu,cT,Ff _ _ nV,Ff _ _ m5,c1⟩;refine⟨_,rfl,a,oT,_,rfl,Ff _ _ nV,oQ,a,t,67,rfl,uo,c12,fun z at0 de q e p1 aw at3 BF=>?_⟩
   ·subst e;exact(k2 (n,p) (by rw[acK,acN])).opened s4 BE
   ·rw[acK]at k1 k2;rw[e]at k1 k2;rw[A20 (fun k σ H'=>∃q z rest as s,σ=[531,248,a95,874]∧49∧uh cu H' q z∧m2 K fj t H' a e96∧h8 CM CS H' bG wA l as 26∧303≤8∧slots s≤k∧(∀y,ts (k+1) s c69=.ok y→∀H' bG,49→H bG=00→dK CM CS H' bG (bh y)→435 bG)∧(∀y,ts (k+1) s c69=840→nS ck H E y.1 y.2)) ⟨0xb,q,z,at0,[],J9 ls,rfl,p1.J_ s4 BE,at3,BF,?_,229,?_,k1,k2⟩]
    ·exact h8.read (s:=bh (J9 ls)) aY (Ff _ _ nV) lg p1
    ·show 0xa≤0xb;decide
    ·clear k1 k2;rintro k σ H'⟨q,z,rest,as,s,rfl,qc,tk,bR,aY,mx,aS,k1,k2⟩;obtain⟨g,f9,uj,eq⟩:=id tk;obtain⟨p,b0⟩:=z;refine⟨_,rfl,q,cu,f9,_,_,rfl,eq,316,b49,wk,rfl,_,rfl,?_⟩;show 616 (! c34 b0 693);rw[p_,aci g p []];rw[acz]at k1 k2
     cases a8:E0 [(p,b0)]with
      |true=>rw[a8,101]at k1;exact b_ (123 (k1 s rfl H' bG qc acQ ⟨wA,l,as,aY⟩))
      |false=>
       rw[a8,107]at k1 k2;have i0:m3 (p,b0) 67=67:=by cases b0 with|over=>cases a8|word w=>rfl|sign u=>rfl|bad n=>rfl
       rw[i0]at bR;refine c8 ⟨_,a25,?_⟩;refine⟨_,rfl,_,rfl,_,rfl,a,q,bG,t,wA,l,as,(p,b0),67,s,rfl,tk,bR,aY,lg,QU,mx,fun s' qa e ft as' at5 at6 Fg=>?_,k78 ?_⟩
       ·obtain⟨dP,at7⟩:=atV e mx;obtain⟨fZ,rfl⟩:∃fZ,k=fZ+1:=b71 (k-1);rw[e,acL]at k1 k2;dsimp only at k1 k2;have yX:=at5.J_ qc Kb;obtain⟨at8,aBL,EK,acR,yC,Bf⟩:=id Fg.ex;refine⟨_,rfl,a,at8,_,rfl,acR,oQ,a,t,qa,rfl,Fg,fun n p r bZ=>?_,fun Kc at9 gS nC vi acS aBM aua Fh=>?_⟩
        ·rw[bZ,acN]at k2;exact(k2 (n,p) rfl).opened yX BE
        ·rw[vi]at k1 k2;exact⟨fZ,03,nC,Kc,at9,as',s',rfl,acS.J_ yX BE,aua,Fh,at6.read acR lg acS,at7,03,k1,k2⟩
       ·exact(k2 y (by rw[e,acM])).opened qc Kb
  ·exact(k2 y (by rw[e,acM])).opened s1 BE
def wB(bG:ag):324:=238 36 bG []
structure Kd(K:bo)(C:ag):04 where
 cl:h4 K C
 Fi:245 36
theorem Ke:273 (wB bG) 36=a95:=q15
abbrev acT:bK:=343 0x77 0
theorem acU:31 251 251 acT:=⟨rfl,rfl,rfl,05,rfl,05,05⟩
inductive lh(er:ag)(CM:ag)(CS:ag)(H:av)(h:ag)(s:cv):04|mk:∀hs bG,H h=e69 er hs (wB bG)→dK CM CS H bG s→lh er CM CS H h s
inductive Q_(er:ag)(CM:ag)(CS:ag)(vs:08)(H:av)(Q:aW)(E:bD):04|mk:∀(p dx:ag),vs=718→H p=483 er []→(∀H',lh er CM CS H' p ⟨[],[],00,00⟩→802 p→910)→Q_ er CM CS vs H Q E
theorem aub(F:hC K 421 "Holder.__init__" acT f fd)(M:Kd K er)(Q7:mf P w K ah 02 aO 1 CS "System" g12 (Jl CM CS)):eP P w K ah 02 aO 3 f fd 251 (Q_ er CM CS):=by
 rw[A36 acU]
 ·rw[D12];rfl
 ·rw[D11];have S:=acU;rw[A01 (aM (557 (pU Q7 22 bb (78 fl))))];refine q54 ⟨bG,wA,[],rfl,aI,q55 (119 ?_)⟩;have t2:bP p=483 er []:=jE p _ (by rw[110 au mW,110 au Ka];exact au) (bT au mW);have auc:p≠bG:=bT au mW;have aud:l≠p:=355 301 t2;refine⟨_,rfl,p,er,dx,_,rfl,t2,20,M.Fi,298 0,?_⟩;refine k _ ⟨dx,bG,aI,wA,l,[],41 auc.symm 84,41 aud 301,rfl,fun i b m af=>by cases af⟩ (k90 ?_);rw[aE n];exact jE b o (j06 (117 mW) Ka) (bT e mW)
def uu(s:dt)(x:10):dt×10:=13 (o_ x) (s,[-1]) (13 (4096<96) (s,[-2]) (l83 (d8 x) (s,acV f) (y,[0])))
theorem lh.same{er CM CS:ag}{H H':av}{h:ag}{s:cv}(x:lh er CM CS H h s)(e:49):lh er CM CS H' h s:=let⟨hs,bG,a,b⟩:=x;⟨hs,bG,e _ _ a,b.same e⟩
theorem aue(e:024=wB bG):False:=by have h:c61 36=00:=157;rw[e,Ke]at h;cases h
theorem ahn(s:49)(h:244=00):H b=00:=by cases q:H b with|none=>rfl|some o=>rw[s _ _ q]at h;cases h
theorem dK.held{h hs:ag}{s:cv}{o:dz}(x:dK CM CS H a s)(dh:H h=e69 er hs (wB bG))(n:a≠h):dK CM CS (upd H h o) a s:=by rw[C96];refine⟨dx,l,as,41 n 84,553 301 dh 301,aY.len,k89 ?_⟩;rw[B48 (aY.cw i b m af ak)];rw[A03 d (41 522 e)];rw[z,dh]at e;rw[A89];injection e with _ _ e;exact aue d14
theorem acW(a b:10):o_ (a++b)=(o_ a||o_ b):=by unfold o_;rw[acX]
theorem auf{x:10}(h:o_ x=09):b6 (d8 x)=x:=by
 unfold b6 d8;rw[gP];conv=>rhs;rw[←CO x]
 refine lz (fun n aU=>?_);have:=Gg.mp h n aU;have h0:¬n<0:=16 (this (b27 139));show 52 f31=n;lia
abbrev aho:bK:=bA 0x7e
theorem acY:31 [h52,576,365,"fault"] j23 aho:=⟨rfl,rfl,rfl,05,rfl,05,05⟩
inductive Ra(K:bo)(er:ag)(CM:ag)(CS:ag)(vs:08)(H:av)(Q:aW)(E:bD):04|mk:∀(h t:ag)(x:10)(s:dt),vs=[.ref h,784]→H t=79 x→lh er CM CS H h 26→96<bc→(∀H' l,fN (·=h) H H'→H l=00→lh er CM CS H' h (bh (uu s x).1)→H' l=79 (uu s x).2→435 l)→Ra K er CM CS vs H Q E
theorem auh(D:cq K ah "load" aho j23 f fd)(O:443)(M:Kd K er)(Z:wm P w K ah 02 ck fI q9)(aui:220 q53 0xff)(auj:220 "NO_BYTE" (-1))(auk:220 q52 4096)(aul:220 q51 (-2))(Rb:Pr P w K ah 02 299 8 o35 841 (Q6 CM CS ck)):Pr P w K ah 02 aO 9 "load" j23 (Ra K er CM CS):=by
 obtain⟨aBN,aBO,aum,aun,auo,FS⟩:=Rb;rw[A02 acY]
 ·obtain⟨h,t,x,s,rfl,_⟩:=h;rfl
 ·obtain⟨h,t,x,s,rfl,bk,dh,hz,k⟩:=h;have S:=acY;rw[A01 (aF (e_ eL rfl (339 62) (98 2 rfl 70) (aM (a49 (rW (bM ka (J 2) bu (bO _)) (rV (bM oA (J 2) (dq aui) (bO _)))).pt auj))) (aF (a49 (bM oA j77 (dq auk) (bO _)) aul) (239 (ar3 (i:=3) Z.M FS 22 aum aun auo Z.m (fun E=>296) (fun E=>252) (575 (65 (cN (aj bu (258 (abU Z.M abI 85 rfl) (abU Z.M abJ 85 rfl)))))) 242 rfl rfl rfl rfl) e21)))];refine⟨_,rfl,t,rfl,223 bk,hN (K:=K) (a:=t) (xs:=aT x) (702 (σ=[46 h,531,v,00]∧H'=H∧o_ d98=09)) h04 (l28 (683 bk)) ?_ ?_⟩
  ·rintro i y σ H' aC⟨v,rfl,rfl,nb⟩;obtain⟨n,aU,rfl⟩:∃n,x[i]?=some n∧426 n=y:=by
    rw[aT,cK]at aC
    cases e:x[i]? with|none=>rw[A30];cases aC|some n=>rw[A30];rw[A44 n (cI aC)]
   have acZ:o_ (814 (i+1))=(29 (n<0)||29 (0xff<n)):=by rw[dZ aU,acW,nb];show(09||((29 (n<0)||29 (0xff<n))||09))=_;rw[wU,Cu]
   have bad:(29 (n<0)||29 (0xff<n))=01→uu s x=(s,[-1]):=312 (by unfold uu;rw[if_pos];rw[←om (i+1) x,acW,acZ,h];rfl);have out:(29 (n<0)||29 (0xff<n))=01→Nv Q [.int (-1)] H':=312 ⟨14,367 (k _ p (b48 116) au (364 (bad h) (dh.same 116)) (o34 (bad h)))⟩;refine⟨_,rfl,_,_,rfl,rfl,_,rfl,eb 485 485⟩
   ·exact c8 (out (by rw[af];rfl))
   ·refine⟨_,rfl,_,_,rfl,rfl,_,rfl,eb 642 642⟩
    ·exact out (by rw[ak,ac0])
    ·refine⟨601 n,rfl,rfl,?_⟩;rw[acZ,216 af,216 ak];rfl
  ·rintro σ H'⟨v,rfl,rfl,nb⟩;have c4:11 (aT x)=96:=fa x;rw[c4,eK]at nb;refine⟨_,rfl,t,_,rfl,306 bk,_,_,rfl,rfl,_,rfl,eb 485 485⟩
   ·have fX:4096<96:=by have:=121 af;rw[c4]at this;lia
    have d1:uu s x=(s,[-2]):=by unfold uu;rw[nb,107,21 fX]
    exact⟨14,367 (k _ p (b48 116) au (by rw[d1];exact dh.same 116) o33)⟩
   ·have fX:¬4096<96:=16 (af (102 (by rw[c4];lia)));have d1:uu s x=(l83 (d8 x) (s,acV f) (y,[0])):=by unfold uu;rw[nb,107,23 fX]
    obtain⟨hs,aBP,Rc,aBQ⟩:=id dh;refine⟨_,rfl,t,d8 x,rfl,by rw[auf nb];exact bk,by unfold d8;rw[ba];lia,fun y aC aB bG s2 mW aY=>?_,a74⟩
    ·rw[aC]at d1;have lg:bG≠h:=915 Rc mW;refine⟨_,rfl,h,er,hs,_,rfl,106 Rc,20,M.Fi,960,14,k20⟩;have aup:l≠h:=16 q50;have lL:aB l=00:=by rw[aE aup]at ax;exact ax
     refine k _ l (547 (b48 s2) (fN.upd (S:=(·=h)) rfl) (b48 (422 ax))) (ahn s2 lL) ?_ o33;rw[d1];exact lh.same ⟨hs,bG,aI,aY.held (106 Rc) lg⟩ (422 ax)
    ·rw[aC]at d1;intro d aB s2 hd d' bZ q he;cases q;have s3:=b50 (964 (p8 bZ ck d) he);have BG:=aA.upd (o:=p8 bZ ck d) he _ _ hd;refine⟨_,rfl,bZ,d,_,_,rfl,aI,BG,rfl,_,rfl,bZ,d,_,_,rfl,aI,BG,rfl,895 3,k20⟩;have s4:=c98 (293 [942,48 y.1,48 y.2] ax);exact k _ l (b48 s4) (ahn s3 ax) (by rw[d1];exact dh.same s4) o33
theorem auq(e:Dx a0 ns):TruthOf P w A (f08 (g52 i 54)) (425 ((i85 (n !=0)).getD i 09)):=q49 (by
 have ac1:a0[i]?=54:=o32;rw[B44 (IntsAre.int_at e i v ac1)];have len:=e.length;have lt:=eI ac1;have a4:(i85 (n !=0)).getD i 09=(g80 i !=0):=by
  rw[cZ,cK,cZ]
  cases q:ns[i]? with|none=>rfl|some n=>rfl
 have pY:Q ((i85 (n !=0)).getD i 09) s:=aw;rw[a4]at pY;exact alc pY)
theorem aur(K:bo)(cj:X.K=K)(ar:394:=by rfl):iy X (399 "any") (k61 (∃(a:ag)(ns:10),xs=[022]∧063 a∧446 (ns.any (807 (n !=0))))):=by
 rw[B50];subst cj;rw[D10];rw[B33 aL];rw[cc.Dy r];have aa:Dx a0 ns:=cV.ints;refine call_any_walk (XT h51 (fun s2 aG st d9=>?_));subst aG;refine⟨_,_,_,_,_,_,_,rfl,Walks.list (A:=X.A.in1) 408 _ a d9 275,st,auq aa,fun af tk aS=>?_⟩;refine⟨.bN _,H,I.kept (fun b o tM=>aS b o n46 (dY _ tM)),?_,q⟩
 ·rcases 569 y with y|y
  ·rw[A62 (y▸dm tM) _]
  ·cases y
 ·show xD _=xD _;have len:b62=11 (i85 (n !=0)):=by rw[gu,ba];exact aa.length
  rw[len,ahj,u4];rfl
theorem aus(l:ag)(xs:323)(n:Nat)(b:ag)(ys:323)(m:Nat)(dd:639)(dP:k09)(h0:¬(d78&&Dw (xs.size+ys.size))=01)(af:xs.size≤bc)(ak:xs.size+ys.size≤bc+1):Meets (Builtin.«list.extend» (644 [559,281])) (fun _ R s=>393 l (l84 901 (b15 xs))∧393 b {cls:=748,dict:=dd,data:=.seq ys m,slots:=dP}∧R (.ok (.ret fh)) {s with heap:=982 l (sd (72 (x++ys))),toks:=s.toks}):=.of_wp (p79 (by
 rw[B45];obtain⟨ax,aa,h⟩:=h;have f2:=sub_tuple_tuple;have e9:=sub_list_list;have f4:=sub_tuple_list;have fR:=sub_list_tuple;have z:(xs++ys).size≤bc+1:=by rw[Array.size_append];exact ak
 wp_walk using(wpAny_updateSeq ax rfl (hz:=af) (_hz':=z)),wpAny_loadPart' ax,wpAny_loadPart' aa;rw[A15 h]))
inductive ac2(K:bo)(x:ae)(vs:08)(H:av)(Q:aW):04|mk:o31 (x=559→vs=[281]→H l=526→dX K H b zs→57+b33≤bc→Q .b4 (34 H l (xs++zs))→ac2 K x vs H Q)
theorem aut(K:bo)(cj:X.K=K):NP X "list.extend" (ac2 K):=by rw[C37];subst cj;rw[C36];rw[A07];rw[C35];cases gR;rw[B32 jy];obtain⟨mc,cT,⟨o,aG,ar,dS,hd⟩,_⟩:=b26 fY;obtain⟨c,dd,jl,dP⟩:=o;simp only at ar hd;subst ar hd;have eY:=r.length;have dW:=cT.length;have qB:i99≤bc:=o30;have nl:¬(! l41&&Dw i99)=01:=q48 (NS qB);refine x7 q47 e82 q46 (q45 _ _) (aus l 275 n b o29 dS dd dP nl k88 03) ⟨e,aG,?_⟩;refine⟨.b4,_,I.NR (its':=a0++mc) jy e 19 m54 ?_,rfl,q⟩;rw[cn];lia
theorem auu:lI (401 h77) (iA "__len__")=520:=f30
theorem auv:Slot h77 o28 q44:=.of (owner:=h77) (n:=o28) f30 05 05 05 (by first|rw[A17 05]|rw[A09 05]) h79
section
variable{s:aZ}{l:ag}
end
section
variable{s:aZ}{l:ag}
theorem auw{i:Int}{Q:456 571}(hit:s.heap.IsRevIter I l i)(h:Q 09 s):a9 289 A (auy c31) Q E s:=by unfold auy;rw[A00 (Yj 981 auu ?_)];show a9 _ _ (specialOf (da I) (iA o28)>>=_) _ _ _;rw[A00 (Yj 981 auv.lookup ?_)];generalize Kf:(q44:String)=auz;wp_delta;rw[88 (splitId auz=some (h77,"__length_hint__")) (by subst Kf;decide+kernel)];subst Kf;rw[A00 (YD (b:=01) 981 h79 ?_)];exact cx h
theorem auA(dh:595)(hit:s.heap.IsRevIter I l (i91-1))(ax:f12 l 966)(nl:l≠I)(aU:082≤bc)(q:∀h' tk acc c,(300 (b≠I) (346→219=25))→940 18 (l84 901 (.seq acc c))→ItemsOf (f08 (items[082-1-i]?=54)) acc 082→Q 277 620):a9 289 A (kZ 901 [c31]) Q E s:=by
 refine ac3 (Q₁:=h78 (v=277∧s1=621 e02)) PySem.F.called_list (PySem.F.typeCall_list_1 _) PySem.F.entry_list_init (code_list_new _ 149) (k87 ?_);obtain⟨rfl,rfl⟩:=af;have hz:(e02).get? 18=some (990 (.seq #[])):=111;have yY:18≠I:=100 (by obtain⟨o,aK,_⟩:=hit;rw[←e]at aK;exact 69 (dm aK) (kV _));have ac4:18≠l:=100 (by obtain⟨o,aK,_⟩:=ax;rw[←e]at aK;exact 69 (dm aK) (kV _));rw[A20 (445 hz) (PySem.F.args_list_init_2 _ _)];show a9 _ _ (do
  let old←auB (.ref s.heap.objs.size)
  Builtin.List.listUpdate (.ref s.heap.objs.size) (fun _=>#[])
  letGo old.toList.reverse
  ac5 (.ref s.heap.objs.size) (.ref I) .none) _ _ _;rw[A28];unfold auB;rw[A00 (uv hz rfl 345)];show a9 _ _ (updateSeq 18 (290 #[])>>=290 (letGo (#[]:323).toList.reverse>>=290 (ac5 277 c31 87))) _ _ _;rw[A00 (wpAny_updateSeq hz rfl ?_)];have mZ:=x5 (g32 (#[]:323)) hz rfl;have kJ:300 (b≠18) (346→782 ((e02).update 18 (g32 (#[]:323)))=25):=537 (35 (vI _ _ h02) 130);rw[A00 (ac6 ?_)];have Fj:=hit.at (h':=(e02).update 18 (g32 (#[]:323))) (878 (kJ I o yY.symm e));have lL:=ax.at (h':=(e02).update 18 (g32 (#[]:323))) (878 (kJ l o ac4.symm e));generalize(e02).update 18 (g32 (#[]:323))=ak at mZ kJ Fj lL⊢;unfold ac5;rw[B41 h77 Fj.typeIs ?_];have aK:auC 277 c31=09:=by simp[auC,yY]
 rw[23 (by rw[aK];decide)];rw[A00 (wpAny_pyIter_revIter Fj ?_)];rw[A99 (auw Fj ?_)];rw[107];have W:=Walks.listRev (prog:=P) (w:=w) (A:=n69) o27 I l nl 966;have nr:18∉[I,l]:=by simp only[ed,Br,or_false,not_or];exact⟨yY,ac4⟩
 have Kh:(fun i(h:dk)=>i≤082∧h.IsRevIter I l (i91-1-52 i)∧h.IsList l 966) 0 ak:=⟨229,by rw[show i91-1-52 0=i91-1 by lia];exact Fj,lL⟩;refine cx ⟨yV PySem.F.plain_extend_loop _,codeAny_extend_loopS W.toS aU _ nr 87 082 0 _ #[] _ rfl 229 Kh mZ (ItemsOf.nil _) (fun s' acc c hm aY q3=>?_)⟩;rw[Moved.eq_with hm];rw[A03 rfl (q 543 s'.toks acc c (537 (hm.heap b o (fun fB=>?_) (kJ b o e22 e))) aY q3)];rcases 569 fB with bZ|fB
 ·rw[A62 (bZ▸105) _]
 ·exact aa (86 fB)
end
inductive ac7(K:bo)(Q:aW)(vs:08)(H1:av):04|mk:∀(a:ag)(ys:08),vs=254→aJ K H1 a ys→(∀l,H1 l=00→838 l H1 l o26)→ac7 K Q vs H1
def auD(K:bo)(bW:fG):ct:=262 (bW σ H (728 (ac7 K Q vs H1)))
section
variable{bW:fG}{p:Pos}
theorem auE(K:bo)(cj:X.K=K)(En:h1 X 500)(HX:X.ah 500=00)(a4:h1 X 975)(hm:X.ah 975=00)(aN:hZ X [e] bW)(ar:394:=by rfl)(aL:406 [e]=[391]:=by rfl)(jx:406 [.Call (.Name 975 p) [e] [] pos]=[013 (.Call (.Name 975 p) [e] [] pos)]:=by rfl):bF X (.Call (.Name 500 fD) [.Call (.Name 975 p) [e] [] pos] [] Rd) (auD K bW):=by
 rw[A13];subst cj;refine vG (qD I En HX Ba ?_);refine tH ?_ n68 rfl;rw[jx];show a9 _ _ (spliced (013 (.Call (.Name 975 p) [e] [] pos)::hA Rd [])) _ _ s;refine Nu ?_;rw[B00 (qD I a4 hm anz (tH (988 (aN pos 07 s σ H _ I h) ?_) aL rfl))];obtain⟨a,ys,rfl,aw,q⟩:=bg;rw[B08 bU];rw[A07];rw[C22 j64];have hlen:=cV.length;refine call_reversed_list 965 (Nt ?_);have hsz:b62=b47:=19;have oI:a<227:=p76 105;refine auA (l:=a) (items:=275) (aX.ok.hd ar) b14 (pl.isList.at (878 130)) (fk oI) (by rw[hsz];lia) (fun h' tk acc c fC e q3=>?_);have yL:300 (e33 b 25) (219=25):=351 (fC b o e22 130);have big:227≤424 (s1.heap.push (revObj a (m17-1))):=by rw[kz];exact 163
 have Rf:cc o26 f06:=by
  have lL:f06=a0.reverse:=by
   obtain⟨rd,jx⟩:=q3;refine wY (c95 ?_);by_cases bS:j<b47
   ·have af:acc[j]?=some (acc[j]'(q43)):=YC q43;have ak:=jx j _ af;rw[List.getElem?_reverse bS];have a6:acc.toList[j]?=acc[j]?:=19;rw[a6,af,←ak];simp
   ·rw[hH (by simp[rd];lia),187]
  rw[lL];exact cV.reverse
 refine 839 _ _ (aX.laid (t':=tk) yL big (88 (fx 61 X.w _ h' _ (.lst o26)) ⟨by rw[auF];exact hz,f06,c,Rf,566⟩)) (q _ (h32 big))
end
def Ki(xs:08)(i k:Int):08:=h75 (AF (042).1 (042).2.1 (042).2.2) (xs[·]?)
theorem Rg{xs:08}{a0:53}(r:cc xs a0):∀i8:06,cc (o23 (xs[·]?)) (o23 q39)
 |[]=>89
 |j::i8=>by
  rw[w0,w0]
  cases e:xs[j]? with
   |none=>
    have aG:g52 j 00:=by have:57≤j:=List.getElem?_eq_none_iff.mp e;rw[r.length]at this;simp[this]
    rw[aG];exact Rg r i8
   |some x=>rw[B49 (r.get e)];have aG:g52 j 56:=h76;rw[aG];exact .cons gR (Rg r i8)
inductive ac8(K:bo)(Q:aW)(x:ae)(Kj:ae)(Kk:ae)(a5:av):04|mk:∀(a:ag)(xs:08)(i k:Int),x=38→Kj=260→Kk=c84→0<k→aJ K a5 a xs→(∀p,a5 p=00→838 p a5 p (Ki xs i k))→ac8 K Q x Kj Kk a5
def auG(K:bo)(c7 g7 tk:ct):ct:=262 (c7 σ H (291 (g7 σ H1 (fun Kj aB=>tk σ aB (fun Kk a5=>ac8 K Q x Kj Kk a5)))))
section
variable{lo st:dn}{tk:ct}
theorem auH(K:bo)(cj:X.K=K)(he:530)(ax:bF X lo g7)(aS:bF X st tk):bF X (a26 e (.Slice (some lo) 00 (some st) fD)) (auG K c7 g7 tk):=by
 rw[A13];subst cj;refine NB (875 (he 07 s σ H _ I h));refine wpAny_Slice ?_;rw[Xy,Xx,Xy];refine bY (ax 07 s1 σ H1 _ aX bg) (q41 (cx (bY (aS 07 s2 σ aB _ b5 cf) (q42 ?_))));obtain⟨a,xs,i,k,rfl,rfl,rfl,k0,ai,q⟩:=eC;cases bU;obtain⟨t1,rfl⟩:=pl;obtain⟨jt,rfl⟩:=pu;have jw:aQ X 07 σ a5 (g67 #[.int i t1,87,.int k jt]):=el.kept (t':=s3.toks) (g02 _ q);obtain⟨a0,r,bk,hz⟩:=jw.list ai;rw[B79];show a9 47 X.A (NC e (.Slice (some lo) 00 (some st) fD) 38 i47) 497 68 (g67 #[.int i t1,87,.int k jt]);refine tail_any (ops:=349 i47) (T:=500) q40 o25 ?_ (by with_unfolding_all rfl);refine al2 (lo:=604) (hi:=00) (st:=040) bk.isList (alQ ..) (.int ..) 87 (.int ..) b46 ?_ o24;have c0:NI 275 604 00 040=810 (h75 (AF (042).1 (042).2.1 (042).2.2) q39):=by unfold NI;rw[gu,←hlen]
 rw[c0];have auI:=Rg r (AF (042).1 (042).2.1 (042).2.2);refine 839 (424 (k86 (825 "slice" #[.int i t1,87,.int k jt]))) _ (jw.laid (t':=s3.toks) (o:=.lst (Ki xs i k)) (g02 _ q) 64 ?_) (q _ (jw.bB.fresh 64));refine⟨?_,_,0,auI,111⟩;refine cX (ac9 _ _) (cX (sliceRange_length_le _ _ _ 57 n47 (16 (69 k0 z))) hz);simp only[k8,UZ,k0,if_true];rw[A04]
 ·lia
 ·exact Vz _
end
theorem auJ{w:Nat}(ax:63=n*w)(hi:i<w)(aU:0<n):Ki (a_ l) 249 947=a_ (c15 n (q*w+i)):=by
 unfold Ki;have hw:0<947:=03;have le:w≤n*w:=Nat.le_mul_of_pos_left w aU;have b:k8 (some 249) 00 (921 w) (11 (a_ l))=(249,52 (n*w),947):=by simp only[k8,UZ,gt_iff_lt,hw,if_true,hn,ax];rw[124];congr 1;lia
 rw[b];have r:AF 249 (52 (n*w)) 947=407 n (58 (q*w+i)):=by
  unfold AF;simp only[gt_iff_lt,hw,if_true];rw[118];have e:(52 (n*w)-249+947-1)/947=44:=by
   have af:52 (n*w)-249+947-1=(947-1-249)+44*947:=by rw[u6];lia
   rw[af,auK _ _ 03,auL 03 03];lia
  rw[e,kA];refine lz (fun q _=>?_);have:249+947*15 q=52 (q*w+i):=by rw[Int.natCast_add,u6,w7];lia
  rw[this,kA]
 rw[r];have key:∀i8:06,(∀j∈i8,j<63)→o23 ((a_ l)[·]?)=a_ (i8.map (c95 (835 j))):=by
  intro i8
  induction i8 with|nil=>intro _;rfl|cons j t ih=>intro h;have bS:=127 j;have e:k53 j=71 (835 j:Nat):=i58 (cA bS) bS;rw[w0,e,ih 850];rfl
 rw[key,gP]
 ·rfl
 ·intro j bS;rw[C26 (112 bS)];rw[ax];exact Mq (g4.mp aw) hi
theorem Rh{w:Nat}(h:jf w 12 r):j69 x:=276 (by have:=h.2 x ai;unfold kf;lia)
theorem auM{a b:06}(aN:733≤12)(aa:d13≤12):jf 284 12 (fO ls a b):=by refine⟨by rw[fO,ba],333⟩;obtain⟨c,_,rfl⟩:=171;have:=JH a c;have:=JH b c;lia
end
abbrev ada:bK:=bA 0x14
theorem adb:31 [573,506,b45] j03 ada:=⟨rfl,rfl,rfl,05,rfl,05,05⟩
section
variable{A:rT}{C CM CS D a b c d dx f i1 i2 p t:ag}{E Q:aH→aZ→Prop}{F:List (List Nat)}{K:bo}{M:Model}{N ps:List Str}{P:f3}{R:Result→aZ→Prop}{S:ag→Prop}{T:String}{vs:List aH}{as:List ag}{aG e:dn}{aR:Array Il}{bx u:aH}{o:Obj}{ah:Str→Option aH}{az:Option ag}{b0 cR dS i j n:Nat}{base h:dk}{g l ls row:List Nat}{cl:Str→Option ag}{cs ms r ws:List Int}{dP:Array (Option aH)}{α β:Type}{fd:k6}{x:Str}{outer:List Env}{own:List (Str×Nat)}{pl:Sem Bool}{q:Search}{s:dt}{sc:rp}{v:Word}{w:ff}{m:g0}{sy:cv}{xs ys:List ae}{y:ae}{H H' H1 aB:av}{ty:ct}{z:Nat×hr}
inductive Ri(K:bo)(vs:08)(H:av)(Q:aW)(E:bD):04|mk:∀(p q:ag)(as:27)(ws:10)(ms:99),vs=[280,a98]→aJ K H p (aT ws)→mT H q as ms→g07→(k85 (∀x∈m,kf x))→(842 (827 (wM ws ms) H'))→Ri K vs H Q E
theorem auN(D:cq K ah o22 ada j03 f fd)(p2:Pr P w K ah 02 aO 1 f29 b85 (AP K)):Pr P w K ah 02 aO 2 o22 j03 (Ri K):=by
 rw[A02 adb]
 ·obtain⟨p,q,as,ws,ms,rfl,_⟩:=h;rfl
 ·obtain⟨p,q,as,ws,ms,rfl,au,aw,ax,hm,b0⟩:=h;have S:=adb;rw[A01 (239 (712 62 2 (bM z9 (bj p2 22 bb (77 0 2 ay)) bu (bO _)) l8) l8)];refine⟨_,rfl,q,rfl,223 aw.lst,hN (K:=K) (a:=q) (xs:=317) (702 (σ=[444,874,v]∧49∧wM ws d90=01)) (e78 518) (q38 (32 (s1 _ _ aw.lst))) ?_ ?_⟩
  ·rw[D09];rw[D08 (aw.get aC)];have fB:=cG Ey;refine⟨_,rfl,_,rfl,p,a,ws,m,rfl,s1.seq au,32 (s1 _ _ eM),ax,hm m fB,h57 ⟨_,_,rfl,rfl,_,rfl,359⟩⟩
   ·have h:555 060 0=01:=h;have:=b0 aB 332;have gC:wM ws ms=09:=by cases e:wM ws ms with|false=>rfl|true=>have z:=gB.mp e m fB;rw[h]at z;cases z
    rw[gC]at this;rw[A10]
   ·have h:¬555 060 0=01:=h;refine⟨_,rfl,332,?_⟩;rw[dZ Ey];unfold wM at dQ⊢;rw[AN,dQ];simp only[tf,ade,216 h];rfl
  ·rw[D07];rw[ba,aw.len,eK]at dQ;have:=b0 H' s1;rw[dQ]at this;rw[A10]
abbrev adf:bK:=bA 0x13
theorem adg:488 [36,506,573] adf:=⟨rfl,rfl,rfl,05,rfl,05,05⟩
inductive Kl(CM:ag)(CS:ag)(vs:08)(H:av)(Q:aW)(E:bD):04|mk:749 (vs=254) (267→269→(te sy=00→847)→(∀ws,te sy=some ws→c57 (416=79 ws→412))→Kl CM CS vs H Q E)
theorem auO(D:cq K ah k84 adf 50 f fd)(O:347)(bJ:268)(auP:220 q37 3)(ub:Pr P w K ah 02 aO 2 h73 50 (Ez CM CS))(nN:Pr P w K ah 02 aO 1 f18 c24 (A8 K))(Rj:Pr P w K ah 02 aO 2 o22 j03 (Ri K)):Pr P w K ah 02 aO 3 k84 50 (Kl CM CS):=by
 rw[A02 adg]
 ·rw[A59];rfl
 ·obtain⟨a,sy,rfl,cg,g,eE,cS⟩:=h;have S:=adg;rw[A01 (389 1 (340 ub) (712 (a58 nN 017 (l_ h19 66 O.list Ba (78 (l_ Et 66 971 xS (78 (eu qH (dq auP) bu)))))) 2 (348 (bj Rj 22 bb (77 2 1 ay))) 45) et)];rw[A41];refine⟨_,rfl,a,sy,rfl,cg,g,fun H1 m as s1 bU=>?_⟩;rw[B19 519];refine⟨_,rfl,a,CS,dx,_,_,rfl,84,80,727,mg,_,rfl,b82,?_⟩;refine⟨_,_,rfl,rfl,15 4,rfl,g82⟩;have s2:=964 (.pz 0 (15 4)) rL;refine⟨t9,4,rfl,aI,03,g87⟩;have s3:=593 (bz 4) jz;rw[dB];refine⟨cl,81,aT (b6 (bz 4)),rfl,32 (by rw[aI,sG]),478 bH,by rw[fa,nM,iP];decide,618 (q36 (Jq 14 (cX hi bH))),q35 ?_⟩;replace i7:=aaS i7;have mV:=35 686 s4;have auQ:=bU.same mV;have nO:565 529 (j69 x):=725 (Rh (EL g r aq));unfold te at eE cS;refine⟨p,rfl,223 i7.lst,hN (K:=K) (a:=p) (xs:=992) (702 (σ=[248,46 m,v]∧480 bP∧g36 (442 e97) (wM ws 529)=00)) (e78 (881 bP)) (fun i σ H' _⟨_,_,s5,_⟩=>32 (s5 _ _ i7.lst)) ?_ ?_⟩
  ·rintro i y σ de aC⟨v,rfl,s5,cy⟩;rw[D06 (i7.get aC)];have Ep:g07:=k81 (yD (cG q4));refine⟨_,rfl,_,rfl,b,m,as,ws,529,rfl,32 (s5 _ _ eM),auQ.same s5,Ep,nO,o09 (123 (eo (fun hd=>?_) (fun hd=>?_)))⟩
   ·refine 123 (cS ws ?_ ft b (547 (808 mV) s5 cW) (310 (s5 _ _ eM)));have e:e97=442 e97++ws::473 e97 (i+1):=f63 (162 (i+1) e97) q4;rw[e,EC,cy,jK,hd];rfl
   ·refine⟨_,rfl,j08,?_⟩;rw[dZ q4,EC,cy];simp[jK,hd]
  ·rintro σ de⟨v,rfl,s5,cy⟩;rw[ba,i7.len,eK]at cy;exact eE cy de (35 (808 mV) s5)
abbrev adh:bK:=bA 0x90
theorem adi:488 [36,726] adh:=⟨rfl,rfl,rfl,05,rfl,05,05⟩
theorem auR(h:te sy=some ws):o21=81:=by unfold te at h;exact yD (nq h)
inductive Rk(CM:ag)(CS:ag)(vs:08)(H:av)(Q:aW)(E:bD):04|mk:749 (vs=254) (267→269→gx H Q (GF sy)→Rk CM CS vs H Q E)
theorem auS(D:cq K ah "down" adh 50 f fd)(BI:Pr P w K ah 02 aO 3 k84 50 (Kl CM CS)):Pr P w K ah 02 aO 4 "down" 50 (Rk CM CS):=by
 rw[A02 adi]
 ·rw[A59];rfl
 ·rw[C34];have S:=adi;rw[A01 (389 1 (340 BI) (318 (bM jX (J 1) et (bO _)) 755) (eu pO e21 62))];rw[A41];unfold GF at k;refine⟨_,rfl,a,sy,rfl,aY,g,c11,q34 ?_⟩
  ·rw[e7]at k;exact⟨_,rfl,rfl,_,rfl,e29 (387 1 (k _ p 828 904 aI)) (e07 rfl h)⟩
  ·rw[aR]at k;refine⟨_,rfl,rfl,_,rfl,j49 ⟨371,458⟩⟩
   ·have e:882 p=817:=104;cases e
   ·rw[A77 [372] aw];have ax:=auR aR;refine⟨_,rfl,q,p,_,_,rfl,rfl,aI,106 au,n88 826,849⟩;refine k _ r g42 g70 ?_;rw[aI];rfl
abbrev adj:bK:=bA 0x89
theorem adk:488 50 adj:=⟨rfl,rfl,rfl,05,rfl,05,05⟩
def kN(sy:cv):Int:=13 (d12=00) (-6) (13 (673=00) (-8) 0)
inductive yZ(CM:ag)(CS:ag)(vs:08)(H:av)(Q:aW)(E:bD):04|mk:749 (vs=254) (267→662 790→yZ CM CS vs H Q E)
theorem Km{o:912}:29 (tS o=817)=29 (o=00):=by cases o with|none=>rfl|some x=>rfl
theorem auT(D:cq K ah c97 adj 50 f fd)(bJ:268)(PD:220 o20 (-6))(Rl:220 n99 (-8)):Pr P w K ah 02 aO 1 c97 50 (yZ CM CS):=by
 rw[A02 adk]
 ·rw[A59];rfl
 ·obtain⟨a,sy,rfl,⟨dx,ls,as,aY⟩,k⟩:=h;have S:=adk;rw[A01 (517 (bX (bM jX 59 et (bO _)) (65 (dq PD)) b2) (bX (bM jX 59 et (bO _)) (65 (dq Rl)) b2) bu)];unfold kN at k;refine⟨_,rfl,a,CS,dx,_,_,rfl,84,80,880,tT,rfl,_,rfl,359⟩
  ·rw[Km]at h;rw[A54 104];exact k
  ·rw[Km]at h;rw[136 (d35 z)]at k;refine⟨_,rfl,a,CS,dx,_,_,rfl,84,80,969,tU,rfl,_,rfl,359⟩
   ·rw[Km]at h;rw[A54 104];exact k
   ·rw[Km]at h;rw[136 (d35 z)]at k;exact k
abbrev adl:bK:=bA 0x91
theorem adm:488 m72 adl:=⟨rfl,rfl,rfl,05,rfl,05,05⟩
def wC(sy:cv):Int:=39 (sy.moves.any (285 (m.b||m.e))) (-9) (13 (te sy=00) 2 0)
inductive Fl(CM:ag)(CS:ag)(vs:08)(H:av)(Q:aW)(E:bD):04|mk:749 (vs=254) (267→269→(842 (Q (.int (wC sy)) H'))→Fl CM CS vs H Q E)
theorem auU(D:cq K ah h59 adl 50 f fd)(bJ:268)(e3:nG K CM)(auV:220 "BOUND_MOVE" (-9))(BI:Pr P w K ah 02 aO 3 k84 50 (Kl CM CS)):Pr P w K ah 02 aO 4 h59 50 (Fl CM CS):=by
 rw[A02 adm]
 ·rw[A59];rfl
 ·rw[C33];have S:=adm;rw[A01 (239 (712 59 1 (rW (348 358) (rV (348 358))).pt (dq auV)) (pE (bM jX (340 BI) et (bO _)) bu bu))];rw[B35 cg];refine⟨_,rfl,a,CS,dx,_,_,rfl,84,80,472,kE,ls,rfl,223 301,hN (K:=K) (a:=ls) (xs:=317) (702 (σ=[248,v]∧H'=H∧((m34).any (285 (m.b||m.e)))=09)) h04 (l28 (683 301)) ?_ ?_⟩
  ·rintro i y σ H' aC⟨v,rfl,rfl,cy⟩;rw[B11 (325=360∧y=281) (by
    rw[A58]
    cases e:325 with|none=>rw[A30];cases aC|some b=>rw[A30];rw[A76 b aC])];have hi:i<098:=f67 aa;rw[B14 (g19=794) hi];rw[B21 (aY.cw i b m aa hm)];have out:(m.b||m.e)=01→Q (.int (-9)) H':=100 (by have:=k H' (881 H');unfold wC at this;rw[21 (161 m a75 e)]at this;exact this);refine⟨_,rfl,b,CM,dD,_,_,rfl,g_,451,e3.D7,IH,_,rfl,eo 485 485⟩
   ·exact c8 (out (by rw[af];rfl))
   ·refine⟨_,rfl,b,CM,dD,_,_,rfl,g_,451,e3.D8,II,_,rfl,eo 642 642⟩
    ·exact out (by rw[ak,ac0])
    ·refine⟨_,rfl,rfl,?_⟩;rw[dZ hm,acX,cy];simp only[pe,VL,af,ak];rfl
  ·rw[D03];rw[C31];unfold wC at k;rw[cy,107]at k;refine⟨_,rfl,a,sy,rfl,cg,g,c11,q34 ?_⟩
   ·rw[A54 e7];exact⟨rfl,_,rfl,eb (290 (k H1 s1)) (e07 rfl h)⟩
   ·rw[A97 (by rw[aR];intro z;cases z)];refine⟨rfl,_,rfl,j49 (k H1 s1)⟩;have e:882 p=817:=104;cases e
theorem Fm{p:936}{l:40}{x:α}(ai:115=43)(cy:382 648 p=00)(h:p x=01):h74 p=43:=by have e:l=648++x::735 (i+1):=f63 (162 (i+1) l) ai;rw[e,EC,cy,jK,h];rfl
theorem y0{p:936}{l:40}{x:α}(ai:115=43)(cy:382 648 p=00)(h:p x=09):382 (l.take (i+1)) p=00:=by rw[dZ ai,EC,cy];simp[jK,h]
theorem Fn{f:α→241 β}{l:40}{x:α}{y:β}(ai:115=43)(cy:a67 648 f)(h:f x=270):d31 f=270:=by have e:l=648++x::735 (i+1):=f63 (162 (i+1) l) ai;rw[e,auW,cy,tg,h];rfl
theorem BJ{f:α→241 β}{l:40}{x:α}(ai:115=43)(cy:a67 648 f)(h:f x=00):a67 (l.take (i+1)) f:=by rw[dZ ai,auW,cy];simp[tg,h]
abbrev Rm:bK:=bA 377
theorem adn:31 [36,257,256,h72,573,b45,506,088] 753 Rm:=⟨rfl,rfl,rfl,05,rfl,05,05⟩
inductive Rn(CM:ag)(CS:ag)(vs:08)(H:av)(Q:aW)(E:bD):04|mk:q06 06 (vs=[38,460,76 y]→267→269→708→b43≤12→(rB sy x y=00→847)→(∀z,rB sy x y=415→∀H' t p,49→H' t=294 [769,280]→416=79 z.2→435 t)→Rn CM CS vs H Q E)
theorem auX{Kn:ag}(D:cq K ah o18 Rm 753 f fd)(O:347)(bJ:268)(auY:d7 ah n51 (.ref Kn))(ado:∀H,dX K H Kn (a_ rz))(A7:Pr P w K ah 02 aO 1 k83 [304,257,256] IQ)(Bi:Pr P w K ah 02 aO 5 k82 50 (JJ CM CS))(p2:Pr P w K ah 02 aO 1 f29 b85 (AP K))(ub:Pr P w K ah 02 aO 2 h73 50 (Ez CM CS))(Ro:Pr P w K ah 02 aO 3 o19 j12 (P0 K)):Pr P w K ah 02 aO 6 o18 753 (Rn CM CS):=by
 rw[A02 adn]
 ·rw[C93];rfl
 ·obtain⟨a,sy,x,y,rfl,cg,g,ai,aC,eE,cS⟩:=h;have S:=adn;rw[A01 (90 3 (926 A7 59 (462 1 2)) (712 (340 Bi) 4 (bM k4 (bj p2 22 bb (77 4 3 ay)) bu (bO _)) (oC (c35 bu 4))) (517 (qT (i:=6) rfl 242 rfl rfl 876 (339 (340 ub)) (own:=[(b45,5)]) (295 [36,257,256,h72,573,b45,506,088] Rm) h09 (e46 (348 (d6 (aur K rfl) 66 O.any boot_any (384 5)))) (286 463)) (e_ eL rfl (IE K rfl (dq auY)) (98 7 rfl 70) (018 4 (437 Ro 6 3 7) (bX (bM tI (J 4) et (bO _)) (65 (oC (462 7 4))) b2))) et))];rw[A41];rw[B19 (id cg)];refine⟨_,rfl,a,CS,dx,_,_,rfl,84,80,727,mg,_,rfl,_,rfl,75,x,y,rfl,03,k15⟩;rw[A63 (aT (fO 75 x y)) hd];have Ko:334 H d (aT (fO 75 x y)) d=79 (fO 75 x y):=aI;have Rp:=auM (ls:=75) ai aC;unfold rB at eE cS;generalize fO 75 x y=fw at Rp s1 Ko eE cS⊢;generalize 521 H d fw=H1 at s1 Ko⊢;have adp:=Rh Rp;refine⟨_,rfl,a,sy,rfl,519,g,fun aB p bs s2 cT=>⟨p,rfl,223 h71,hN (K:=K) (a:=p) (xs:=479) (702 (σ=[248,494,653 y,872,v,00,00,00]∧c81∧d86 (442 705) (! 532 (hc b fw))=00)) (e78 j32) (l78 _ _ h71) ?_ ?_⟩⟩
  ·rintro i z σ a5 hz⟨v,rfl,s3,cy⟩;rw[D06 (cT.get hz)];have yf:g07:=k81 (Qh.2 ws (cG q4));refine⟨_,rfl,_,rfl,b,d,ws,fw,rfl,32 (s3 _ _ eM),32 (s3 _ _ (106 Ko)),yf,adp,k58 ⟨rfl,_,rfl,?_⟩⟩;rw[kH];refine eo a61 a61
   ·refine⟨_,rfl,338,698⟩;have s5:=822 [372,281] bk;have gC:=Fm q4 cy d9;rw[gC]at cS;exact cS (0,ws) rfl _ t b (547 e73 s4 s5) aI (s5 _ _ (103 (83 eM)))
   ·exact⟨_,rfl,b87,y0 q4 cy d9⟩
  ·rintro σ a5⟨v,rfl,s3,cy⟩;rw[ba,cT.len,eK]at cy;rw[cy]at eE cS;have uw:=e73;have BG:=83 (s2 _ _ Ko);clear cy;refine⟨_,rfl,a,sy,rfl,622 uw,g,fun de q as s5 iw=>⟨q,rfl,223 iw.lst,436⟩⟩;have aBR:11 529≤8:=q33;refine kC (K:=K) (a:=q) (xs:=317) (877 (∃cs:27,H'=34 de D 634∧383=11 (016 (528 529))∧m10 (cs[n]?=360→(((gN sy).take j).filter eZ)[n]?=447→de b=716))) (072 [] l80) (q32 (683 (335 iw.lst cO iw.lst))) ?_ ?_
   ·rintro j z H' hz⟨cs,rfl,hlen,iD⟩;rw[D05 (iw.get hz)];refine⟨rfl,_,rfl,b,r,rfl,32 (335 eM cO eM),_,rfl,?_⟩;have e7:(r.any (807 (n !=0)))=eZ r:=rfl;rw[e7];have gC:∀b,eZ r=b→016 (221 529 (j+1))=016 (528 529)++(39 b [r] []):=i27 (dZ c1);refine eo 486 486
    ·refine⟨_,rfl,_,aI,?_,cs++[b],?_,?_⟩
     ·rw[ba,hlen];refine fL (88 255 ?_) 14;refine 164 _ _;rw[eS];lia
     ·rw[gp,d5];rfl
     ·rw[gC 01 aa];exact Ex (H:=de) (H':=de) (p:=D) 568 iD eM
    ·rw[gC 09 aa];rw[C08 cs rfl q31]
   ·rintro ft⟨cs,rfl,hlen,iD⟩;rw[ba,iw.len,eK]at hlen iD;have cW:=293 634 cO;have jg:mT (34 de D 634) D cs e98:=⟨aI,568,fun n b r af ak=>310 (iD n b r af ak)⟩;have dP:565 e98 (j69 x):=725 (Rh (EL g r (ob.mp aq).1));have adq:=310 (s5 _ _ BG);have ux:=35 (uw.trans s5) cW;generalize 34 de D 634=ft at jg adq ux⊢;refine⟨Kn,rfl,404 (ado _),M6 (K:=K) (a:=Kn) (xs:=a_ rz) (505 (∃v4 ew fM:93,σ=[248,494,653 y,872,v4,ew,46 D,fM]∧480 ft∧a67 (rz.take i) (450 (688 (rr e98 fw k) (k,r))))) ⟨_,_,_,rfl,881 ft,rfl⟩ (fun i σ H' _ _=>ado H') ?_ ?_⟩
    ·rintro i z σ gS hz⟨v4,ew,fM,rfl,e1,cy⟩;obtain⟨k,aS,rfl⟩:=vY hz;have wD:0<k∧k≤12:=by have:k∈rz:=cG aS;have dQ:∀k∈rz,0<k∧k≤12:=14;exact dQ k 246
     have jn:k80≤4:=by rw[Rp.1];exact bH
     refine⟨_,rfl,_,rfl,_,rfl,D,d,cs,e98,fw,k,rfl,jg.same e1,e1 _ _ adq,jn,wD.1,wD.2,dP,adp,fun e7 qS gW=>?_,fun ws aR qS ads gW A5=>?_⟩
     ·refine⟨_,rfl,rfl,_,rfl,b_ ⟨_,_,_,rfl,n15,BJ aS cy n81⟩⟩
     ·refine⟨_,rfl,rfl,_,rfl,c8 ⟨_,rfl,_,rfl,338,698⟩⟩;have i_:=822 [48 k,.ref ads] bk;exact cS (k,ws) (Fn aS cy n80) _ t ads (547 m74 gW i_) aI (i_ _ _ A5)
    ·rintro σ gS⟨v4,ew,fM,rfl,e1,cy⟩;exact eE cy gS m74
theorem auZ{x y:06}{z:527}(h:rB sy x y=415):h39=81:=by
 unfold rB at h
 cases e:d86 705 (! 532 (hc b (fO 75 x y)))with
  |some b=>rw[A49];have:(0,b)=z:=cI h;rw[A48];exact Qh.2 b (nq e)
  |none=>
   rw[A49];obtain⟨d,_,hd⟩:=Vy h
   cases i0:rr e98 (fO 75 x y) d with
    |none=>rw[i0]at hd;cases hd
    |some r=>
     rw[i0]at hd;have:(d,r)=z:=cI hd;rw[A48];unfold rr at i0;split at i0
     ·cases i0
     ·have:=yD (nq i0);rw[this,fO,ba]
abbrev adt:bK:=bA 0x8a
theorem adu:488 [36,f14,726] adt:=⟨rfl,rfl,rfl,05,rfl,05,05⟩
inductive Rq(CM:ag)(CS:ag)(vs:08)(H:av)(Q:aW)(E:bD):04|mk:749 (vs=254) (267→269→gx H Q (w_ sy)→Rq CM CS vs H Q E)
theorem Rr{f:06→06→10}:(790<0∧rC sy f=[790])∨(790=0∧d01 (034∧673=270∧rC sy f=f x y)):=by
 unfold kN rC
 cases aK:sy.start with|none=>rw[A23 (c99 101) (970 101)]|some x=>cases aG:sy.goal with|none=>rw[A23 (by rw[144,101];decide) (by rw[144,101])]|some y=>rw[A09 ⟨by rw[144,144],x,y,rfl,rfl,rfl⟩]
theorem au0:(790<0∧w_ sy=[790])∨(790=0∧d01 (034∧673=270∧(rB sy x y=00→w_ sy=[1])∧∀z,rB sy x y=415→w_ sy=0::649::z.2)):=by
 unfold w_;rcases m62 _ with⟨af,ak⟩|⟨af,x,y,ex,f6,ak⟩
 ·rw[A23 af ak]
 ·rw[A09 ⟨af,x,y,ex,f6,100 (by rw[ak,e]),fun z e=>by rw[ak,e]⟩]
theorem au1(D:cq K ah "parted" adt 50 f fd)(bJ:268)(m6:Pr P w K ah 02 aO 1 c97 50 (yZ CM CS))(Rt:Pr P w K ah 02 aO 6 o18 753 (Rn CM CS)):Pr P w K ah 02 aO 7 "parted" 50 (Rq CM CS):=by
 rw[A02 adu]
 ·rw[A59];rfl
 ·rw[C33];have S:=adu;rw[A01 (90 1 (340 m6) (318 (bM ka (J 1) bu (bO _)) 296) (389 2 (bj Rt 22 bb (aj (J 0) (258 59 59))) (318 (bM jX (J 2) et (bO _)) 755) (eu pO (a62 c63) c63)))];rw[A41];refine⟨_,rfl,a,sy,rfl,cg,_,rfl,_,_,rfl,rfl,_,rfl,?_⟩;rcases au0 (sy:=sy)with⟨af,ak⟩|⟨af,x,y,ex,f6,ak,a6⟩
  ·rw[A80];refine e29 ⟨_,rfl,371,367 (k _ p 116 au aI)⟩ (e07 af h)
  ·refine e29 (69 104 (by rw[af];decide)) 356;rw[B19 (id cg)];refine⟨_,rfl,_,rfl,a,CS,dx,_,_,rfl,84,80,880,tT,_,rfl,a,CS,dx,_,_,rfl,84,80,969,tU,?_⟩;rw[ex,f6];refine⟨a,sy,x,y,rfl,cg,g,g.st x ex,g.gl y f6,c11,fun z aR H1 t p s1 bk au=>?_⟩
   ·rw[ak e7]at k;exact⟨_,rfl,rfl,_,rfl,c8 (387 1 (k _ p 828 904 aI))⟩
   ·rw[a6 z aR]at k;have ax:=auZ aR;refine⟨_,rfl,rfl,_,rfl,b_ ⟨_,rfl,t,_,_,769,rfl,rfl,g85,f02,338,458⟩⟩;rw[A77 [372,769] aw];refine⟨_,rfl,t,_,_,280,rfl,rfl,448 (106 bk),e61 1,q,p,_,_,rfl,rfl,aI,106 au,n88 826,849⟩;refine k _ r g42 g70 ?_;rw[aI];rfl
def e5(c:Nat):cF:=jR (001 c:Str)
theorem adv{a b:Nat}(h:e5 a=e5 b):a=b:=by have af:(001 a:Str)=001 b:=MN h;have ak:=109 c5 af;have a6:[a]=[b]:=ak;injection a6
def hF(ls:06)(as:27):410:=kQ (fun c a=>(869,022)) ls as
theorem adw:∀{ls:06}{as:27}{c:Nat}{a:ag},c∈ls→as[a34]?=533→ja 606 869=248
 |[],_,_,_,h,_=>806
 |l::ls,[],c,a,h,e=>k34
 |l::ls,b::as,c,a,h,e=>by
  show ja ((e5 l,e45)::606) 869=_;by_cases q:l=c
  ·subst q;rw[au2]at e;have e:b=a:=cI e;rw[DL rfl,e]
  ·have eG:(l==c)=09:=q30;rw[Uq,eG]at e;have e:as[a34]?=533:=e;rw[As (16 (q (adv z)))];exact adw ((569 h).resolve_left (16 (q b25))) e
structure nX(H:av)(d:ag)(as:27)(ls:06)(rows:30):04 where
 y1:H d=some g46
 len:471=284
 oV:667=284
 row:d61 06 (325=533) (775=447→H a=259 r)
theorem nX.same{rows:30}(h:nX H d as ls 17)(e:49):nX H' d as ls 17:=⟨e _ _ h.y1,h.len,h.oV,d02 (e _ _ (h.row i a r af ak))⟩
def lj(n:Nat)(rows:30):04:=b44 (873∧h70 (q<n))
theorem adx{rows:30}(h:870){q:Nat}(hi:i<667)(aw:q<n):∃r,775=447∧r[q]?=some (014 i q q)∧014 i q q<n:=by
 have e:775=some rows[i]:=122;rw[A81 (h rows[i] 141)];have aG:i29 i=rows[i]:=by rw[cZ,e];rfl
 have cp:rows[i][q]?=some (rows[i][q]'(03)):=193;have ej:rows[i].getD q q=rows[i][q]'(03):=by rw[cZ,cp];rfl
 rw[aG,ej];exact⟨_,e,cp,ak _ 141⟩
theorem au3(ls:06)(rows:30)(x:06)(c y:Nat):hI ls 17 (x++[c]) y=014 a34 (661 y) (661 y):=by unfold hI;rw[sZ];rfl
theorem Ru{n:Nat}{ls:06}{rows:30}(h:870)(ax:667=284):∀{x:06}{y:Nat},(c10 c ls)→y<n→661 y<n|[],y,_,aC=>aC|c::x,y,ai,aC=>by show 661 (014 a34 y y)<n;obtain⟨_,_,_,a6⟩:=adx h (n84 (ady (ai c 237))) aC;exact Ru h ax (f28 (ai d (d4 _ hd))) a6
theorem adz{p:936}{l:40}{x:α}(ai:115=43)(cy:(648).findIdx? p=00)(h:p x=01):h69 p=604:=by have e:l=648++x::735 (i+1):=f63 (162 (i+1) l) ai;have hi:=eI ai;rw[e,au4,cy,zv,h];simp;lia
theorem adA{p:936}{l:40}{x:α}(ai:115=43)(cy:(648).findIdx? p=00)(h:p x=09):(l.take (i+1)).findIdx? p=00:=by rw[dZ ai,au4,cy,zv,h];rfl
structure wF(sy:cv):04 where
 az:sy.letters.Nodup
 cw:j52 (∀c∈m.l,c∈75) (∀c∈m.r,c∈75)
 st:∀x,034→c10 c 75
 gl:∀x,673=43→c10 c 75
theorem sM{w:06}(h:b89 i):∀c∈392,c∈ls:=h63 (by obtain⟨i,hi,rfl⟩:=112 ar;rw[cZ,cA (h i hi)];exact 141)
theorem c3.Rv(h:51):wF 26:=by
 refine⟨499,764,333,333⟩
 ·rw[C32 (112 hm)];have:=h.cw v a3;exact⟨sM this.1.2,sM this.2.2⟩
 ·cases e:s.start with|none=>rw[B78]|some w=>rw[B63 (461=x)];rw[A48];exact sM (h.st w e).2
 ·cases e:s.goal with|none=>rw[B78]|some w=>rw[B63 (461=x)];rw[A48];exact sM (h.gl w e).2
theorem h8.get{l:ag}{s:cv}(h:h8 CM CS H a dx l as s)(aC:f87=270):∃b m dD,325=360∧754=794∧y=281∧H b=e69 CM dD 024:=by
 rw[A58]
 cases e:325 with|none=>rw[A30];cases aC|some b=>rw[A30];have hi:i<303:=i37 e;have hm:754=some b80:=122;obtain⟨dD,hd⟩:=h.cw i b _ e hm;exact⟨b,_,dD,rfl,hm,129 aC,hd⟩
abbrev adB:bK:=bA 2
theorem adC:31 [396,235,"point",h68] c54 adB:=⟨rfl,rfl,rfl,05,rfl,05,05⟩
inductive BK(vs:08)(H:av)(Q:aW)(E:bD):04|mk:∀(d:ag)(as:27)(ls:06)(rows:30)(n:Nat)(x:06)(y:Nat),vs=[602,460,48 y]→nX H d as ls 17→870→(c10 c ls)→y<n→Q (a14 (661 y)) H→BK vs H Q E
theorem au5(D:cq K ah f17 adB c54 f fd):Pr P w K ah 02 aO 1 f17 c54 BK:=by
 rw[A02 adC]
 ·rw[D04];rfl
 ·obtain⟨d,as,ls,rows,n,x,y,rfl,di,ok,ai,aC,k⟩:=h;have S:=adC;have bp:=D1 aq;rw[A01 (239 (e_ eL rfl (Ik 62) (98 3 rfl 70) (aM (94 2 (440 (Yo bp 252 85 630) 45)))) 45)];refine⟨_,rfl,_,rfl,acp (x:=714) (702 (σ=[872,494,some (a14 (hI ls 17 d98 y)),v]∧H'=H)) (715 00 rfl) ?_ ?_⟩
  ·rintro i c σ H' ar⟨v,rfl,rfl⟩;rw[IG]at ar;have jz:=ai c (cG ar);have hi:=ady jz;have aw:=Ru ok di.oV (x:=d98) (h24 (ai e (qp he))) aC;obtain⟨r,af,ak,a6⟩:=adx ok (i:=a34) (by rw[di.oV];exact hi) aw;obtain⟨a,aN⟩:∃a,as[a34]?=533:=126 (by rw[di.len];exact hi);refine⟨_,rfl,_,rfl,d,38,rfl,.inl ⟨_,869,.inl di.y1,rfl,567 (adw jz aN)⟩,_,rfl,a,_,_,a14 (014 a34 (hI ls 17 d98 y) (hI ls 17 d98 y)),rfl,rfl,32 (di.row _ a r aN af),fm (by rw[a_,cK,ak];rfl),some a84,?_,rfl⟩;rw[dZ ar,au3];rfl
  ·rintro σ H'⟨v,rfl,rfl⟩;rw[IG,eK];rw[A15 k]
abbrev adD:bK:=bA 0x63
theorem adE:31 [396,623,257,256,"point"] [396,623,257,256] adD:=⟨rfl,rfl,rfl,05,rfl,05,05⟩
inductive Kp(vs:08)(H:av)(Q:aW)(E:bD):04|mk:∀(d:ag)(as:27)(ls:06)(rows:30)(n:Nat)(x y:06),vs=[602,b10,460,76 y]→nX H d as ls 17→870→n≤12→(c10 c ls)→(∀c∈y,c∈ls)→446 (apart ls 17 n x y)→Kp vs H Q E
theorem au6(D:cq K ah k79 adD [396,623,257,256] f fd)(O:347)(m7:Pr P w K ah 02 aO 1 f17 c54 BK):Pr P w K ah 02 aO 2 k79 [396,623,257,256] Kp:=by
 rw[A02 adE]
 ·rw[D04];rfl
 ·obtain⟨d,as,ls,rows,n,x,y,rfl,di,ok,aU,ai,aC,k⟩:=h;have S:=adE;rw[A01 (239 (e_ eL rfl (c92 296) (98 4 rfl 70) (aM (bX (bM k4 (437 m7 0 2 4) (437 m7 0 3 4) (bO _)) (65 l8) b2))) l8)];unfold apart at k;refine⟨_,rfl,44,rfl,03,03,xV (lo:=0) (n:=271 44) (702 (σ=[872,610,494,653 y,v]∧H'=H∧((bz i).any (400 (661 p !=hI ls 17 y p)))=09)) h04 ?_ ?_⟩
  ·rintro i σ H' hi⟨v,rfl,rfl,cy⟩;have fc:i<n:=03;rw[show 413+249=249 by lia];refine⟨_,rfl,_,rfl,_,rfl,d,as,ls,17,n,x,i,rfl,di,ok,ai,fc,_,rfl,_,rfl,_,rfl,d,as,ls,17,n,y,i,rfl,di,ok,aC,fc,rfl,_,rfl,?_⟩;rw[kH];have eG:(! 762 (661 i:Nat) (52 (hI ls 17 y i)))=(661 i !=hI ls 17 y i):=by
    rw[A06 (661 i) (hI ls 17 y i)]
    ·rw[e];simp
    ·rw[133];simp[e]
   rw[eG];refine eo 356 356
   ·have:((057).any (400 (661 p !=hI ls 17 y p)))=01:=161 i (g4.mpr fc) h;rw[this]at k;exact k
   ·refine⟨_,rfl,rfl,?_⟩;rw[ru,acX,cy];simp only[pe,VL,h];rfl
  ·rw[D03];rw[kA]at cy;rw[cy]at k;exact k
inductive Fo(K:bo)(CM:ag)(CS:ag)(vs:08)(H:av)(Q:aW)(E:bD):04|mk:∀(a r:ag)(sy:cv)(as:27),vs=349 (.ref r)→267→H r=247 317→m66 (m83→471≤12→(c57 (H p=00→416=some (.e0 (hF 75 as))→412))→Fo K CM CS vs H Q E)
abbrev sN(H:av)(p:ag)(as:27)(rows:30):04:=kG H p as (rows.map a_)
theorem sN.act{r:ag}{rows:30}(h:sN H r as 17)(e:49)(hd:H' d=some g46)(ax:667=284):nX H' d as ls 17:=⟨hd,by rw[h.len,ba];exact ax,ax,fun i a q af ak=>e _ _ (h.row i a (a_ q) af q29)⟩
abbrev adF:bK:=bA 0x64
theorem adG:31 [36,623,540,396,365,313] 588 adF:=⟨rfl,rfl,rfl,05,rfl,05,05⟩
inductive Fp(CM:ag)(CS:ag)(vs:08)(H:av)(Q:aW)(E:bD):04|mk:∀(a r:ag)(sy:cv)(as:27)(rows:30)(n:Nat),vs=[38,b10,.ref r]→267→269→wF sy→sN H r as 17→667=81→870→n≤12→(jL sy n 17=00→847)→(∀i,jL sy n 17=604→842 (Q 309 H'))→Fp CM CS vs H Q E
theorem au7(D:cq K ah h44 adF 588 f fd)(yp:i93=00)(bJ:268)(e3:nG K CM)(uy:Pr P w K ah 02 aO 1 h31 b83 (Fo K CM CS))(BL:Pr P w K ah 02 aO 2 k79 [396,623,257,256] Kp):Pr P w K ah 02 aO 3 h44 588 (Fp CM CS):=by
 rw[A02 adG]
 ·obtain⟨a,r,sy,as,rows,n,rfl,_⟩:=h;rfl
 ·obtain⟨a,r,sy,as,rows,n,rfl,cg,g,iI,cH,ax,ok,aU,eE,cS⟩:=h;have S:=adG;rw[A01 (389 3 (bj uy 22 bb (77 0 2 ay)) (e_ eL rfl (IF K rfl rfl yp 010) (tQ K rfl (n:=2) rfl (kX (98 4 rfl 70) (kX (98 5 rfl 70) tF))) (aM (bX (348 (bj BL 22 bb (77 3 1 (258 (633 5) (633 5))))) (65 327) b2))) et)];rw[A41];have t7:m83:=q28;unfold jL at eE cS;refine⟨_,rfl,_,rfl,a,r,sy,as,rfl,cg,d00,iI.az,t7,03,q27 ?_⟩;have di:=cH.act s1 hd ax;rw[B47 519];refine⟨_,rfl,a,CS,dx,_,_,rfl,84,80,472,kE,ls,_,rfl,d76,I0 (K:=K) (a:=ls) (xs:=ms.map 502) (i66 93 (σ=[248,610,46 r,872,v4,ew]∧a94∧(m34).findIdx? (285 (apart 75 17 n m.l m.r))=00)) ⟨00,00,rfl,881 H1,rfl⟩ (p94 (32 (s2 _ _ 301))) ?_ ?_⟩
  ·rintro i y T σ aB aC bR⟨v4,ew,rfl,s2,cy⟩;rw[D02 (aY.get aC)];have s3:=b50 (b05 [309,281]);obtain⟨i1,i2⟩:=iI.cw m a75;have adH:=83 g_;refine⟨T,_,rfl,e34,rfl,_,_,rfl,_,_,rfl,rfl,?_⟩;refine⟨_,rfl,_,rfl,_,rfl,b,CM,dD,_,_,rfl,adH,451,815,lO,_,rfl,b,CM,dD,_,_,rfl,adH,451,k51,yg,d,as,75,17,n,m.l,m.r,rfl,b28 s3,ok,aU,i1,i2,_,rfl,eo 356 356⟩
   ·rw[A15 (cS i (adz hm cy h) _ j09)]
   ·exact⟨_,_,rfl,s3,adA hm cy h⟩
  ·rintro σ aB⟨v4,ew,rfl,s2,cy⟩;rw[C31];exact eE cy aB 332
abbrev adI:bK:=bA 0x65
theorem adJ:31 588 588 adI:=⟨rfl,rfl,rfl,05,rfl,05,05⟩
inductive Kq(CM:ag)(CS:ag)(vs:08)(H:av)(Q:aW)(E:bD):04|mk:∀(a r:ag)(sy:cv)(as:27)(rows:30)(n:Nat)(x y:06),vs=[38,b10,.ref r]→267→269→wF sy→sN H r as 17→667=81→870→n≤12→034→673=270→(842 (827 (apart 75 17 n x y) H'))→Kq CM CS vs H Q E
theorem au8(D:cq K ah k54 adI 588 f fd)(bJ:268)(uy:Pr P w K ah 02 aO 1 h31 b83 (Fo K CM CS))(BL:Pr P w K ah 02 aO 2 k79 [396,623,257,256] Kp):Pr P w K ah 02 aO 3 k54 588 (Kq CM CS):=by
 rw[A02 adJ]
 ·obtain⟨a,r,sy,as,rows,n,x,y,rfl,_⟩:=h;rfl
 ·obtain⟨a,r,sy,as,rows,n,x,y,rfl,cg,g,iI,cH,ax,ok,aU,ex,f6,k⟩:=h;have S:=adJ;rw[A01 (65 (926 BL (bj uy 22 bb (77 0 2 ay)) (aj (J 1) (258 59 59))))];rw[A41];have t7:m83:=q28;refine⟨_,rfl,_,rfl,a,r,sy,as,rfl,cg,d00,iI.az,t7,03,q27 ?_⟩;have di:=cH.act s1 hd ax;rw[B47 519];refine⟨_,rfl,_,rfl,a,CS,dx,_,_,rfl,84,80,880,tT,_,rfl,a,CS,dx,_,_,rfl,84,80,969,tU,?_⟩;rw[ex,f6];exact⟨d,as,75,17,n,x,y,rfl,di,ok,aU,iI.st x ex,iI.gl y f6,k H1 s1⟩
theorem Rw{x:06}{p:Nat}(au:p≤96):au9 714 c87 (11 714) p↔(550 p 63==l)=01:=by
 unfold au9;rw[Y9,dB,dB];rw[A04]
 ·exact 312 h.2
 ·intro h;exact⟨wV au 967,h⟩
theorem ava(x l:06):OD 714 c87=o17 (sS l x) (-1) 864:=by
 unfold OD sS;rcases PySem.StrLaws.occ_head 714 c87 1 (cL 1)with⟨h0,aU⟩|⟨i,r,h0,aN,aU⟩
 ·rw[h0];have:382 (bz e79) (400 (550 p 63==l))=00:=by rw[w8];intro p au h;have au:=154;exact aU p ((Rw 03).mpr h)
  rw[A16]
 ·rw[h0];have hi:i≤96:=by have:=aN.1;rw[dB,dB]at this;lia
  have ai:(bz (x.length+1))[i]?=604:=970 (sY 03);have cy:382 (442 (bz e79)) (400 (550 p 63==l))=00:=by rw[w8];intro p au h;rw[adK]at au;have au:=154;exact aU p 03 ((Rw 03).mpr h)
  rw[Fm ai cy ((Rw hi).mp aN)]
theorem avb{x:06}{p:Nat}(h:sS l x=some p):p+63≤96:=by unfold sS at h;have af:=g4.mp (nq h);have ak:=zE h;exact wV 03 o16
def lk(i j:Nat)(x y z:06):324:=cC b40 (76 z) (cC b41 (76 y) (cC 235 460 (cC 256 (48 j) (cC 257 (48 i) []))))
structure Kr(K:bo)(C:ag):04 where
 cl:h4 K C
 first:245 257
 second:245 256
 word:245 235
 Rx:245 b41
 Ry:245 b40
theorem avc{x y z:06}:273 (lk i j x y z) 257=71 i:=h67
theorem avd{x y z:06}:273 (lk i j x y z) 256=71 j:=h67
theorem ave{x y z:06}:273 (lk i j x y z) 235=494:=h67
theorem adL{x y z:06}:273 (lk i j x y z) b41=653 y:=h67
theorem adM{x y z:06}:273 (lk i j x y z) b40=653 z:=h67
inductive sO(C:ag)(ls:06)(H:av)(a:ag)(z:nu):04|mk:∀dx,H a=483 C (lk 978 977 (370 b36) (370 h62) (370 h61))→sO C ls H a z
abbrev adN:bK:=343 0x2c 0
theorem avf:31 [352,257,256,235,b41,b40] [352,257,256,235,b41,b40] adN:=⟨rfl,rfl,rfl,05,rfl,05,05⟩
inductive Ks(C:ag)(vs:08)(H:av)(Q:aW)(E:bD):04|mk:∀(p dx:ag)(i j:Nat)(x y z:06),vs=[280,48 i,48 j,460,76 y,76 z]→H p=c80→Q .b4 (264 H p C (lk i j x y z))→Ks C vs H Q E
theorem avg(F:hC K 421 "Meeting.__init__" adN f fd)(M:Kr K C):eP P w K ah 02 aO 1 f fd [352,257,256,235,b41,b40] (Ks C):=by
 rw[A36 avf]
 ·obtain⟨p,dx,i,j,x,y,z,rfl,_⟩:=h;rfl
 ·obtain⟨p,dx,i,j,x,y,z,rfl,au,k⟩:=h;rw[A01 (a59 c03 45 (a59 (557 85) 327 (aM (557 463))))];refine⟨_,rfl,_,rfl,p,C,dx,_,rfl,au,20,M.first,298 0,?_⟩;refine⟨_,rfl,_,rfl,p,C,dx,_,rfl,aI,20,M.second,960,?_⟩;refine⟨_,rfl,_,rfl,p,C,dx,_,rfl,aI,20,M.word,298 2,?_⟩;refine⟨_,rfl,_,rfl,p,C,dx,_,rfl,aI,20,M.Rx,298 3,?_⟩;refine⟨_,rfl,_,rfl,p,C,dx,_,rfl,aI,20,M.Ry,298 4,?_⟩;rw[gp,gp,gp,gp];exact k
abbrev adO:bK:=bA 665
theorem adP:31 [36,235,313,226] 551 adO:=⟨rfl,rfl,rfl,05,rfl,05,05⟩
inductive Rz(CM:ag)(CS:ag)(vs:08)(H:av)(Q:aW)(E:bD):04|mk:∀(a:ag)(sy:cv)(x:06),vs=349 460→267→269→e03→Q (tS (iS sy x)) H→Rz CM CS vs H Q E
theorem avh(D:cq K ah o15 adO 551 f fd)(bJ:268)(e3:nG K CM)(kF:Pr P w K ah 02 aO 1 b39 933 e57):Pr P w K ah 02 aO 2 o15 551 (Rz CM CS):=by
 rw[A02 adP]
 ·obtain⟨a,sy,x,rfl,_⟩:=h;rfl
 ·obtain⟨a,sy,x,rfl,⟨dx,ls,as,aY⟩,g,ai,k⟩:=h;have eE:iS sy x=00→Q .b4 H:=100 q26;have cS:∀y,iS sy x=270→a86 y H:=k78 q26;have S:=adP;rw[A01 (239 (e_ eL rfl (339 59) (98 2 rfl 70) (018 3 (DY F.slot_str_find F.type_str_find aod 62 646) (bX (bM Nc (J 3) bu (bO _)) (65 (bj kF 22 bb (77 2 3 296))) b2))) et)];unfold iS at eE cS;refine⟨_,rfl,a,CS,dx,_,_,rfl,84,80,472,kE,ls,rfl,223 301,hN (K:=K) (a:=ls) (xs:=317) (m42 93 (σ=[248,494,v2,fb]∧H'=H∧a67 m34 (285 (b95 (sS m.l x) 720)))) ⟨00,00,rfl,rfl,rfl⟩ (q01 (683 301)) ?_ ?_⟩
  ·rintro i y σ H' aC⟨v2,fb,rfl,rfl,cy⟩;rw[D02 (aY.get aC)];rw[B66 m a75];refine⟨_,rfl,282,_,rfl,b,CM,dD,_,_,rfl,g_,451,815,lO,_,_,rfl,rfl,?_⟩;rw[ava]
   cases gC:sS m.l x with
    |none=>
     refine⟨_,rfl,_,_,rfl,rfl,_,rfl,359⟩
     ·have:=104;exact 69 246 14
     ·exact⟨_,_,rfl,rfl,BJ hm cy (by rw[gC];rfl)⟩
    |some p=>
     refine⟨_,rfl,_,_,rfl,rfl,_,rfl,359⟩
     ·exact⟨_,rfl,_,rfl,_,rfl,b,x,m,p,rfl,948 g_,ai,oN,pX,avb gC,cS _ (Fn hm cy (by rw[gC];rfl))⟩
     ·exact 69 (102 (Int.natCast_nonneg p)) h
  ·rintro σ H'⟨v2,fb,rfl,rfl,cy⟩;rw[C31];exact eE cy
abbrev adQ:bK:=bA 376
theorem adR:31 [36,235,574,k31] 551 adQ:=⟨rfl,rfl,rfl,05,rfl,05,05⟩
def wG(ls:06)(l:List b7):08:=363 (889 (516 855))
structure uR(s:dt)(ws:10)(v:b7):04 where
 wf:455 v
 Fq:734+12*js ws v≤979
theorem uR.step(h:51)(f:562){v u:b7}(t:uR s ws v)(e:hy s v=56):uR s ws u:=⟨VA h t.wf e,cX (VB h f e) t.Fq⟩
def adS(ls:06)(o:241 b7):ae:=match o with|none=>.b4|some u=>76 (370 u)
theorem adT(s:dt)(h:51){u:b7}(bp:455 u):tS (iS 26 b01)=adS 60 (hy s u):=by
 rw[ai7 h bp]
 cases hy s u with|none=>rfl|some y=>rfl
inductive Kt(CM:ag)(CS:ag)(vs:08)(H:av)(Q:aW)(E:bD):04|mk:q25 10 (vs=349 e47→597→51→562→uR s ws v→(c57 (416=247 (wG 60 (rI s ws v))→412))→Kt CM CS vs H Q E)
theorem avi(D:cq K ah k72 adQ 551 f fd)(Ku:Pr P w K ah 02 aO 2 o15 551 (Rz CM CS)):Pr P w K ah 02 aO 3 k72 551 (Kt CM CS):=by
 rw[A29 adR]
 ·rw[D01];rfl
 ·rw[D00];have S:=adR;rw[A01 (90 2 (cN 296) (94 3 (bj Ku 22 bb (77 0 1 ay))) (239 (tG eL (bM tI (J 3) et (bO _)) (434 (fK (hD K rfl h9 sC sD qQ 45 846)) (94 3 (bj Ku 22 bb (77 0 3 ay))))) 45))];have g:=wf.ok;refine⟨_,rfl,371,263⟩;rw[A63 [e47] au];have ym:334 H p [e47] p=247 [e47]:=aI;have hE:∀{dM:av}{o:dz},786→aA H (upd dM p o):=fun{dM o:_}e b u z=>364 (110 z au) (e b u z);generalize 34 H p [e47]=H1 at s1 ym⊢;refine⟨_,rfl,_,rfl,a,26,95,rfl,aY.same s1,g,by rw[eA];have:=uz.Fq;lia,?_⟩;rw[adT s wf uz.wf];rw[B72 (∃(b1:List b7)(u:b7),σ=[248,653 95,444,some (adS 60 (hy s u))]∧m=js ws u∧49∧416=247 (wG 60 (b1++[u]))∧rI s ws v=b1++rI s ws u∧uR s ws u∧o02+js ws u≤js ws v) ⟨_,[],v,rfl,rfl,s1,ym,rfl,uz,19⟩];rintro m σ aB⟨b1,u,rfl,rfl,s2,l1,hw,JW,ax⟩;have hlen:js ws v≤979:=by have:=uz.Fq;lia
  cases e:hy s u with
   |none=>refine⟨_,rfl,rfl,_,rfl,b_ (123 (k aB p s2 ?_))⟩;rw[hw,VC c9,e];exact l1
   |some y=>
    refine⟨_,rfl,rfl,_,rfl,c8 ⟨_,a25,?_⟩⟩;refine⟨_,rfl,329 l1,_,rfl,p,_,_,rfl,rfl,l1,?_,?_⟩
    ·rw[wG,ba,cn];rw[A14 (show 255 by simp;lia)]
    ·have ty:=JW.step wf c9 e;have wl:=GP c9 e;refine⟨_,rfl,_,rfl,a,26,292 y,rfl,aY.same (hE s2),g,by rw[eA];have:=ty.Fq;lia,?_⟩;rw[adT s wf ty.wf];refine⟨js ws y,wl,b1++[u],y,rfl,rfl,hE s2,?_,?_,ty,?_⟩
     ·rw[aI];congr 2;unfold wG;rw[d5 (l₂:=[y])];rfl
     ·rw[hw,VC c9 u,e,jo];rfl
     ·rw[cn];show o02+1+_≤_;lia
abbrev adU:bK:=bA 0x2f
theorem adV:31 551 551 adU:=⟨rfl,rfl,rfl,05,rfl,05,05⟩
inductive Fs(CM:ag)(CS:ag)(vs:08)(H:av)(Q:aW)(E:bD):04|mk:q25 10 (vs=349 e47→597→51→562→uR s ws v→(842 (a86 (292 780) H'))→Fs CM CS vs H Q E)
theorem adW(s:dt)(ws:10)(v:b7):pN (wG 60 (rI s ws v)) (-1)=653 (292 780):=by obtain⟨u,af,ak,a6⟩:=VE s ws v;obtain⟨ys,e⟩:=List.getLast?_eq_some_iff.mp af;rw[ak,e,wG,d5];exact alS _ _
theorem avj(D:cq K ah h58 adU 551 f fd)(BM:Pr P w K ah 02 aO 3 k72 551 (Kt CM CS)):Pr P w K ah 02 aO 4 h58 551 (Fs CM CS):=by
 rw[A29 adV]
 ·rw[D01];rfl
 ·rw[D00];have S:=adV;rw[A01 (65 (440 (bj BM 22 bb (77 0 1 ay)) (Na Nb bu)))];exact⟨_,rfl,_,rfl,a,s,ws,v,rfl,aY,wf,c9,uz,fun H1 p s1 au=>⟨_,rfl,p,_,_,_,rfl,rfl,32 au,adW s ws v,k H1 s1⟩⟩
theorem c2.len{R:713}{a:40}{b:523}(h:c2 R a b):m99:=by induction h with|nil=>rfl|cons _ _ ih=>rw[dR,dR,ih]
theorem c2.get{R:713}{a:40}{b:523}(h:c2 R a b):∀{i:Nat}{x:α},a[i]?=43→∃y,b[i]?=270∧R x y:=by
 induction h with
  |nil=>intro i x e;simp at e
  |cons r _ ih=>
   intro i x e
   cases i with|zero=>have e:=cI e;subst e;rw[A15 r]|succ i=>exact ih e
theorem c2.mono{R S:713}{a:40}{b:523}(h:c2 R a b)(f:∀x y,R x y→S x y):c2 S a b:=by induction h with|nil=>rw[A40]|cons r _ ih=>exact 920 (f _ _ r)
structure uA(C:ag)(ls:06)(H:av)(p:ag)(bs:27)(zs:c48):04 where
 lst:H p=036
 mt:c2 (sO C ls H) bs zs
theorem sO.keep{z:nu}(h:sO C ls H a z)(au:H p=526)(e:374 (H b) (b≠p→244=25)):sO C ls H' a z:=q24 ⟨dx,e _ _ h (355 h au)⟩
theorem sO.same{z:nu}(h:sO C ls H a z)(e:49):sO C ls H' a z:=q24 ⟨dx,e _ _ h⟩
theorem Kv{x:ag}{o0 o1 o2:dz}(ai:H x=00)(yW:H dx=00):aA H (upd (761 dx o0 x o1) x o2):=d08 (j83 (117 ai) (117 ai) yW)
theorem avk(x y:06):DX 714 (aP y)=(814 b43==y):=by
 unfold DX;rw[Y9,dB,dB];show(555 (0+b43) 96&&(550 0 b43==y))=_;rw[avl];rw[A39 (b43≤96)]
 ·rw[145];rfl
 ·rw[133];refine 567 (Ft.mpr (16 (h ?_)));have:=137 191;rw[eS]at this;lia
structure Kw(s:dt):04 where
 no:k77 (980=09∧670=09)
theorem Kx{l:ag}(h:h8 CM CS H a dx l as 26){m:ez}(hm:754=794):∃b dD,f87=46 b∧H b=e69 CM dD (iE 853):=by
 have kM:(26).moves[i]?=some 853:=by rw[Co,hm];rfl
 have hi:i<471:=by rw[h.len];exact eI kM
 obtain⟨dD,e⟩:=h.cw i _ _ 122 kM;exact⟨as[i],dD,by rw[cK,122];rfl,e⟩
abbrev RA:bK:=bA 0x31
theorem adX:31 [36,257,256,"outer",h43,235,226] 753 RA:=⟨rfl,rfl,rfl,05,rfl,05,05⟩
inductive Fu(C:ag)(CM:ag)(CS:ag)(f:240 (240 (ez→ez→c48)))(vs:08)(H:av)(Q:aW)(E:bD):04|mk:∀(a:ag)(s:dt)(i j:Nat)(b8 cB:ez),vs=[38,48 i,48 j]→597→51→Kw s→754=some b8→k74 j=some cB→(k56 (49→H p=00→uA C 60 H' p bs (f i j b8 cB)→412))→Fu C CM CS f vs H Q E
theorem avm(D:cq K ah o13 RA 753 f fd)(bJ:268)(e3:nG K CM)(RB:mf P w K ah 02 aO 1 C o14 [352,257,256,235,b41,b40] (Ks C))(tV:Pr P w K ah 02 aO 1 h66 484 (D_ CM))(kF:Pr P w K ah 02 aO 1 b39 933 e57):Pr P w K ah 02 aO 3 o13 753 (Fu C CM CS rJ):=by
 rw[A29 adX]
 ·rw[C99];rfl
 ·rw[C98];have S:=adX;rw[A01 (aF (318 (bM fv (J 1) 45 (bO _)) ay) (aF (953 3 (a51 62)) (517 (953 4 j79) (953 5 843) (k9 rfl 242 (339 (bj tV 22 bb (77 4 5 ay))) (own:=[(226,6)]) (295 [36,257,256,"outer",h43,235,226] RA) (925 6) 369 (286 (pU RB 22 bb (77 1 2 (aj (J 5) (258 843 (437 kF 4 6 5))))))))))];refine⟨_,rfl,_,rfl,rfl,_,rfl,?_⟩;rw[kH];refine eo 356 356
  ·have e:i=j:=564 104;subst e;have em:b8=cB:=cI (hi.symm.trans bS);subst em;rw[ajc]at k;exact⟨229,367 (k _ p [] 116 au ⟨aI,89⟩)⟩
  ·have ne:i≠j:=100 (by rw[e,167]at h;cases h);rw[B35 cg];obtain⟨b9,jW,af,sP⟩:=Kx aY hi;obtain⟨dj,iC,ak,kM⟩:=Kx aY bS;have jO:=g56 b8 hi;have l3:=g56 cB bS;have adY:=fr.no cB (cG bS);have eY:156 457:=by rw[eA];exact jO.1.1
   have dW:m55≤12:=d41 (cd _ _) 12 l3.1.1;have VK:i23 694≤12:=d41 (cd _ _) 12 l3.2.1;have sF:=ajd 813 ne adY.1 adY.2 jO.1.2 l3.1.2;rw[sF]at k;refine⟨_,rfl,a,CS,dx,_,_,rfl,84,80,472,kE,_,rfl,ls,_,_,.ref b9,rfl,rfl,d76,fm af,?_⟩;refine⟨_,rfl,a,CS,dx,_,_,rfl,84,80,472,kE,_,rfl,ls,_,_,.ref dj,rfl,rfl,d76,fm ak,?_⟩;refine⟨_,rfl,b9,CM,jW,_,_,rfl,sP,451,815,lO,?_⟩;refine⟨_,rfl,_,rfl,dj,457,694,rfl,⟨iC,kM⟩,03,dW,330 ⟨q,rfl,223 aI,436⟩⟩;have s1:=593 (eR 694 457) aw;have pY:334 H q (a_ (eR 694 457)) q=259 (eR 694 457):=aI;have pl:11 (eR 694 457)≤0xd:=by unfold eR;refine 164 _ _;rw[iP];lia
   have m_:∀p∈eR 694 457,p+m55≤11 457:=367 (Gp au);generalize eR 694 457=ps at pl m_ k s1 pY cO⊢;generalize 322 H q ps=H1 at s1 pY cO⊢;refine kC (K:=K) (a:=q) (xs:=a_ ps) (fun n H'=>a94∧∃bs:27,H' D=036∧890=n∧c2 (sO C 60 H') bs (221 (ps.map (400 (q23 (l67 p (b37++f79 p)):nu))) n)) ⟨833,[],aI,rfl,89⟩ (fun n H' _⟨s2,_⟩=>32 (s2 _ _ pY)) ?_ ?_
   ·rintro n y aB aC⟨s2,bs,fp,hR,f7⟩;obtain⟨p,au,rfl⟩:=vY aC;have qc:=332;refine⟨rfl,_,rfl,_,rfl,_,rfl,_,rfl,b9,CM,jW,_,_,rfl,qc _ _ sP,451,k51,yg,_,rfl,_,rfl,_,rfl,dj,457,694,p,rfl,⟨iC,qc _ _ kM⟩,03,dW,VK,m_ p (cG au),q21 ⟨x,dx,i,j,457,i92,_,rfl,aI,rfl,?_⟩⟩;rw[Cm];have s3:=k43 641 (799 []) (799 (lk i j 457 i92 (e41 p (b37++f79 p)))) ai yW;have aU:=eI au;have oP:=83 fp;have Fv:upd (264 (upd aB dx 641) x C []) x (799 (lk i j 457 i92 (e41 p (b37++f79 p)))) x=_:=aI;generalize 264 (264 (upd aB dx 641) x C []) x C (lk i j 457 i92 (e41 p (b37++f79 p)))=a5 at s3 oP Fv⊢;refine⟨_,oP,?_,924,bs++[x],?_,p98,?_⟩
    ·rw[ba,hR];rw[A14 (show 255 by lia)]
    ·rw[110 z cO];exact 83 (s2 _ _ z)
    ·rw[A52];rfl
    ·rw[dZ (x:=(q23 (l67 p (b37++f79 p)):nu)) (by rw[cK,au];rfl)];have avn:x≠D:=16 (by rw[z,fp]at ai;cases ai);refine e49 (f7.mono (k75 ((aa.same s3).keep oP (d59 aa z)))) ⟨dx,41 avn Fv⟩
   ·rintro aB⟨s2,bs,fp,hR,f7⟩;have c4:d69 (a_ ps):=hn ps;rw[c4,si (n95 64)]at f7;exact k aB D bs 332 (f22 cO) ⟨fp,f7⟩
theorem aAL:rS "min"=some (399 "min"):=05
def avo(i j:Nat)(a b:ez)(o:Nat):nu:=l89 (087++996) h65 996 (i62 o++d11)
theorem avp(az:ls.Nodup){a b:ez}(jO:905 087)(l3:905 f27){o:Nat}(a8:o≤542)(adZ:o≤b42):DX (aP (370 f27)) (aP (473 n07 (542-o)))=29 (i65 o=i90):=by rw[avk,fV,eA,show 542-(542-o)=o by lia,←Gd,←Ci];rw[hu,beq_iff_eq,decide_eq_true_eq,LM az (618 (l3 i (qp hi))) (618 (jO i (uY hi)))];exact⟨312 h.symm,312 h.symm⟩
theorem avq(ls:06)(a b:ez)(o:Nat):fJ (cY ls a) 0 (370 (087++996))=370 (h65++996):=by rw[Cm,List.take_zero,avl,GV];rfl
theorem avr(ls:06){a b:ez}{o:Nat}(a8:o≤542)(h:i65 o=i90):fJ (cY ls b) (542-o) (370 (087++996))=370 (i62 o++d11):=by rw[Cm,List.take_append_of_le_length 03,List.drop_append_of_le_length 03,h,om,aa7,nh]
theorem avs{o:Nat}(h:o≤n):44-15 o=52 (n-o):=03
abbrev ad0:bK:=bA 0x32
theorem ad1:31 [36,257,256,"ahead",816,726,"shared",226,235] 753 ad0:=⟨rfl,rfl,rfl,05,rfl,05,05⟩
theorem avt(D:cq K ah o12 ad0 753 f fd)(O:347)(avu:ah "min"=00)(bJ:268)(e3:nG K CM)(RB:mf P w K ah 02 aO 1 C o14 [352,257,256,235,b41,b40] (Ks C))(kF:Pr P w K ah 02 aO 1 b39 933 e57):Pr P w K ah 02 aO 3 o12 753 (Fu C CM CS vf):=by
 rw[A29 ad1]
 ·rw[C99];rfl
 ·rw[C98];have S:=ad1;rw[A01 (90 3 (a51 62) (94 4 j79) (389 5 556 (e_ eL rfl (M1 rfl 971 (258 bu (d6 (ald rfl) 66 avu aAL (258 (064 843) (064 (633 4)))))) (98 6 rfl 70) (018 7 (eu r6 (064 843) 868) (bX (348 (DY F.slot_str_startswith F.type_str_startswith aoc (633 4) (pM Iu 843 (ma (J 7)) vH))) (018 8 (eu Nh 843 (pM Iu (633 4) (ma 868) vH)) (fK (hD K rfl h9 sC sD qQ 463 (78 (pU RB 22 bb (77 1 2 (aj (J 8) (258 (bj kF 22 bb (aj (J 3) (c35 bu 8))) (437 kF 4 7 8))))))))) b2))) 463))];rw[B35 cg];obtain⟨b9,jW,af,sP⟩:=Kx aY hi;obtain⟨dj,iC,ak,kM⟩:=Kx aY bS;have jO:=g56 b8 hi;have l3:=g56 cB bS;have cR:=jO.1.1;have dS:=l3.1.1;have oI:11 (aP 457)=672:=by rw[dB,eA]
  have lN:11 (aP f99)=b38:=by rw[dB,eA]
  have bU:f26 i78≤12:=by show 156 (cd _ _);rw[eA];exact cR
  have cT:i23 i78≤12:=d41 (cd _ _) 12 jO.2.1;have h2:m55≤12:=by show 156 (cd _ _);rw[eA];exact dS
  have i7:i23 694≤12:=d41 (cd _ _) 12 l3.2.1;rw[aje]at k;refine⟨_,rfl,a,CS,dx,_,_,rfl,84,80,472,kE,_,rfl,ls,_,_,.ref b9,rfl,rfl,d76,fm af,?_⟩;refine⟨_,rfl,a,CS,dx,_,_,rfl,84,80,472,kE,_,rfl,ls,_,_,.ref dj,rfl,rfl,d76,fm ak,?_⟩;rw[A33 698];rw[A63 [] bk];have avv:=s1 _ _ sP;have avw:=s1 _ _ kM;have hE:∀{dM:av}{o:dz},786→aA H (upd dM t o):=fun{dM o:_}e b u z=>364 (110 z bk) (e b u z);refine⟨_,rfl,b9,CM,jW,_,_,rfl,avv,451,815,lO,_,rfl,jB (m18 c22),_,rfl,dj,CM,iC,_,_,rfl,avw,451,815,lO,_,rfl,jB (by rw[214 g73];exact dS),?_⟩;rw[204 c22,214 g73];have em:(13 (15 b38<15 672) (15 b38) (15 672))=52 i63:=q22;refine⟨_,_,rfl,?_⟩;rw[em];have avx:i63≤672:=Nat.min_le_left _ _;have avy:i63≤b38:=Af _ _;unfold TP at k;generalize i63=Fw at avx avy k⊢;refine⟨1,15 Fw,rfl,⟨03,03,03,03⟩,xV (lo:=1) (n:=271 (15 Fw-1)) (fun n σ H'=>∃(v6 fM ia:93)(bs:27),σ=[248,71 i,71 j,46 b9,46 dj,531,v6,fM,ia]∧49∧890≤n∧uA C 60 H' t bs ((g71 n (737 (i61 (i57 o) o))).map (avo i j b8 cB))) ⟨00,00,00,[],rfl,s1,229,aI,89⟩ ?_ ?_⟩
  ·rintro n σ aB aU⟨v6,fM,ia,bs,rfl,s2,hR,jc⟩;have Wd:n+1<Fw:=03;have RC:n+1≤672:=03;have adZ:n+1≤b38:=03;rw[show 15 1+44=52 (n+1)by lia];have i0:∀c,i61 (i57 (n+1)) (n+1)=c→(g71 (n+1) (737 (i61 (i57 o) o)))=(g71 n (737 (i61 (i57 o) o)))++(39 c [n+1] []):=h63 (by rw[ru,d5,s6];congr 1;show Ux _ [1+n]=_;rw[tm 1 n,iO,ar];cases c<;>rfl);have Ky:=106 sP;have RD:=106 kM;refine⟨_,rfl,b9,CM,jW,_,_,rfl,Ky,451,815,lO,_,rfl,jB (m18 c22),_,rfl,_,_,rfl,rfl,?_⟩;rw[204 c22];rw[A71];rw[avs RC];refine⟨_,rfl,dj,CM,iC,_,_,rfl,RD,451,815,lO,282,_,rfl,b9,CM,jW,_,_,rfl,Ky,451,815,lO,_,rfl,_,rfl,_,rfl,jB (m18 c22),_,_,rfl,rfl,_,rfl,?_⟩;rw[88 (tP c22 (921 (672-(n+1):Nat)) 00=aP (473 457 (672-(n+1)))) (OS (by rw[108 i80 457,eA];lia))];rw[88 (DX g73 _=_) (avp 813 jO.1.2 l3.1.2 RC adZ)];refine eo e67 e67
   ·have he:=m09;have lw:11 (086++829 n 1)≤534:=by rw[cn,fV];lia
    refine⟨_,rfl,b9,CM,jW,_,_,rfl,Ky,451,815,lO,_,rfl,dj,CM,iC,_,_,rfl,RD,451,815,lO,_,rfl,_,rfl,_,rfl,jB (by rw[214 g73];exact dS),?_⟩;rw[88 (tP g73 (921 (n+1:Nat)) 00=aP (473 f99 (n+1))) (OS (by rw[108 m41 f99,eA];lia))];have nj:c22++aP (473 f99 (n+1))=aP (292 (086++829 n 1)):=by rw[q0,T3,Ci];rfl
    refine⟨_,_,rfl,rfl,?_,?_⟩
    ·rw[dB,dB,fV,eA,108 i80 457,eA];rw[A56]
    rw[nj];have lc:11 (292 (086++829 n 1))≤534:=by rw[eA];exact lw
    refine⟨_,rfl,329 f24,_,rfl,_,rfl,_,rfl,_,rfl,_,rfl,b9,292 (086++829 n 1),i78,0,rfl,⟨jW,Ky⟩,03,bU,cT,?_,_,rfl,_,rfl,_,rfl,dj,292 (086++829 n 1),694,672-(n+1),rfl,⟨iC,RD⟩,03,h2,i7,?_,q21 ?_⟩
    ·rw[eA,cn,108 i80 457,eA];lia
    ·rw[eA,cn,fV,108 m41 f99,eA];lia
    ·rw[avq,avr 60 RC he];refine⟨x,dx,i,j,_,_,_,rfl,aI,rfl,?_⟩;have s3:=k43 641 (799 []) (799 (lk i j (292 (086++829 n 1)) (292 (k76++829 n 1)) (e41 (672-(n+1)) b37))) ai yW;have Fv:upd (264 (upd aB dx 641) x C []) x (799 (lk i j (292 (086++829 n 1)) (292 (k76++829 n 1)) (e41 (672-(n+1)) b37))) x=_:=aI;generalize 264 (264 (upd aB dx 641) x C []) x C (lk i j (292 (086++829 n 1)) (292 (k76++829 n 1)) (e41 (672-(n+1)) b37))=a5 at s3 Fv⊢;have mm:=83 f24;have avz:x≠t:=16 (by rw[z,jc.lst]at ai;cases ai);refine⟨t,_,_,rfl,rfl,mm,?_,_,_,_,bs++[x],rfl,hE 686,by rw[cn];show 890+1≤_;lia,?_,?_⟩
     ·rw[ba];rw[A14 (show 255 by lia)]
     ·rw[A52];rfl
     ·rw[i0 01 ar,d5];exact e49 (jc.mt.mono (k75 ((aa.same s3).keep mm (d59 aa z)))) ⟨dx,41 avz Fv⟩
   ·rw[i0 09 ar];exact⟨_,_,_,bs,rfl,s2,03,f24,by simpa using jc.mt⟩
  ·rintro σ aB⟨v6,fM,ia,bs,rfl,s2,hR,jc⟩;rw[A50 (271 (15 Fw-1)=Fw-1)];rw[e]at jc;rw[A15 (k aB t bs s2 bk jc)]
theorem uA.ext{bP:av}{bs ps:27}{zs ys:c48}(h:uA C ls aB t bs zs)(s4:aA aB bP)(g:uA C ls bP p ps ys):uA C ls (34 bP t (479++992)) t (bs++ps) (zs++ys):=by have bk:=103 572;rw[A03 k47 (((h.mt.mono (k75 ((aa.same s4).keep bk (d59 aa z))))).app (g.mt.mono (k75 (aa.keep bk (d59 aa z)))))]
theorem ad2{a b:ez}(h:542≤12):11 (rJ i j a b)≤0xd:=by unfold rJ;refine cX (ac9 _ _) ?_;rw[iP];lia
theorem ad3{a b:ez}(h:542≤12):156 (vf i j a b):=by unfold vf;refine cX (ac9 _ _) ?_;rw[iP];lia
theorem Fx{α β:272}{f:α→523}{k:Nat}:922 (645 (11 (f x)≤k)→11 g05≤63*k)|[],_=>19|a::l,h=>by rw[s9,cn,dR,pq,pv,tm];exact aa8 (Fx 850) (127 a)
theorem avA(h:51)(i j:Nat):11 (xr s i j)≤0x19:=by cases hi:754 with|none=>unfold xr;rw[hi];simp|some a=>cases bS:k74 j with|none=>unfold xr;rw[hi,bS];simp|some b=>have jO:=(h.cw a (cG hi)).1.1;have:=ad2 (i:=i) (j:=j) (b:=b) jO;have:=ad3 (i:=i) (j:=j) (b:=b) jO;rw[MB s hi bS,cn];lia
def uB(s:dt)(i j:Nat):c48:=671 (bz j) (131 (xr s i y))
def BN(s:dt)(i:Nat):c48:=671 (bz i) (72 (uB s x 303))
theorem ad4(h:51)(i j:Nat):11 (uB s i j)≤j*0x19:=by have:=Fx (f:=131 (xr s i y)) (k:=0x19) (l:=bz j) (fun y _=>avA h i y);rw[iP]at this;exact this
theorem avB(h:51)(i:Nat):11 (BN s i)≤i*0xc8:=by have:=Fx (f:=72 (uB s x 303)) (k:=0xc8) (l:=bz i) (k33 (by have:=ad4 h x 303;have:=h.mx;lia));rw[iP]at this;rw[A10]
theorem avC(s:dt)(i j:Nat):uB s i (j+1)=uB s i j++xr s i j:=by unfold uB;rw[ru,w5];simp
theorem avD(s:dt)(i:Nat):BN s (i+1)=BN s i++uB s i 303:=by unfold BN;rw[ru,w5];simp
theorem Kz(f:562){v:b7}(h:455 v∧734≤534):uR s ws v:=q20 (328 h.1) (VF f v) h.2
theorem RE(h:51)(f:10→Ck):(wC 26≠0∧wH s f=[wC 26])∨(wC 26=0∧Kw s∧∃ws,xd s=some ws∧562∧wH s f=f ws):=by
 have e:(m45 26 (m.b||m.e))=s.moves.any (285 (980||670)):=by show(f25 i95).any _=_;rw[u4];rfl
 unfold wC wH;rw[e,U5 h];rw[B16 (s.moves.any (285 (980||670)))]
 ·rw[160,160];rw[A23 14 rfl]
 ·rw[178,178]
  cases hd:xd s with|none=>rw[A23 (c99 101) (970 101)]|some ws=>refine .inr ⟨970 144,⟨764⟩,ws,rfl,ai9 hd,rfl⟩;have aa:=Ft.mpr aa;rw[Gg]at aa;have:=aa m hm;cases aK:m.first<;>cases aG:m.last<;>simp[aK,aG]at this⊢
abbrev ad5:bK:=bA 0x30
theorem ad6:488 [36,726,257,256] ad5:=⟨rfl,rfl,rfl,05,rfl,05,05⟩
inductive RF(C:ag)(CM:ag)(CS:ag)(vs:08)(H:av)(Q:aW)(E:bD):04|mk:o07 (vs=254→597→51→Kw s→(k56 (49→uA C 60 H' p bs (CR s)→412))→RF C CM CS vs H Q E)
theorem avE(D:cq K ah o11 ad5 50 f fd)(O:347)(bJ:268)(RG:Pr P w K ah 02 aO 3 o13 753 (Fu C CM CS rJ))(RH:Pr P w K ah 02 aO 3 o12 753 (Fu C CM CS vf)):Pr P w K ah 02 aO 4 o11 50 (RF C CM CS):=by
 rw[A29 ad6]
 ·rw[C25];rfl
 ·obtain⟨a,s,rfl,cg,wf,fr,k⟩:=h;have S:=ad6;rw[A01 (389 1 556 (e_ eL rfl (c92 (78 c91)) (98 2 rfl 70) (aM (e_ eL rfl (c92 (78 c91)) (98 3 rfl 70) (434 (fK (hD K rfl h9 nK nL nE 62 (78 (437 RG 0 2 3)))) (fK (hD K rfl h9 nK nL nE 62 (78 (437 RH 0 2 3)))))))) 62)];have vg:=wf.mx;rw[B35 cg];have t7:471=303:=by rw[aY.len];show 11 003=_;rw[ba]
  rw[A33 698];rw[A63 [] bk];have hE:∀{dM:av}{o:dz},786→aA H (upd dM t o):=fun{dM o:_}e b u z=>364 (110 z bk) (e b u z);refine⟨_,rfl,a,CS,dx,_,_,rfl,s1 _ _ 84,80,472,kE,ls,_,rfl,306 (s1 _ _ 301),?_⟩;rw[ba,t7];refine⟨f84,rfl,03,03,xV (lo:=0) (n:=271 f84) (505 (∃(v2 fb:93)(bs:27),σ=[248,531,v2,fb]∧49∧uA C 60 H' t bs (BN s i))) ⟨00,00,[],rfl,s1,aI,89⟩ ?_ ?_⟩
  ·rintro i σ aB hi⟨v2,fb,bs,rfl,s2,jc⟩;have qr:i<303:=03;have aBS:=avB wf i;refine⟨_,rfl,a,CS,dx,_,_,rfl,106 84,80,472,kE,ls,_,rfl,306 (106 301),?_⟩;rw[ba,t7];refine⟨f84,rfl,03,03,xV (lo:=0) (n:=271 f84) (f16 (∃(fb:93)(bs:27),σ=[248,531,601 (0+249),fb]∧49∧uA C 60 H' t bs (BN s i++uB s i j))) ⟨fb,bs,rfl,s2,f24,by simpa[uB]using jc.mt⟩ ?_ ?_⟩
   ·rintro j σ a5 bS⟨AJ,cs,rfl,s3,y2⟩;have aaB:j<303:=03;have aBT:=ad4 wf i j;have jz:=y2.mt.len;rw[cn]at jz;rw[show 413+249=249 by lia,show 413+15 j=15 j by lia];have iI:=cA qr;have RI:=cA aaB;have jO:=(g56 _ iI).1.1;have aBU:=ad2 (i:=i) (j:=j) (b:=j70) jO;have aBV:=ad3 (i:=i) (j:=j) (b:=j70) jO;have sF:=MB s iI RI;generalize b80=b8 at*;generalize j70=cB at*;refine⟨_,rfl,329 y2.lst,_,rfl,_,rfl,_,rfl,a,s,i,j,b8,cB,rfl,622 s3,wf,fr,iI,RI,fun bP p ps s4 mU dH=>?_⟩;have eH:=dH.mt.len;refine⟨t,p,_,_,rfl,rfl,103 y2.lst,dH.lst,?_,?_⟩
    ·rw[ba,ba];rw[A37 (show _≤3000 by lia)]
    have KA:=y2.ext s4 dH;have s5:aA H (34 bP t (634++992)):=hE b87;generalize 34 bP t (634++992)=de at KA s5⊢;refine⟨_,rfl,329 KA.lst,_,rfl,_,rfl,_,rfl,a,s,i,j,b8,cB,rfl,622 s5,wf,fr,iI,RI,fun ft q dg cW oW g6=>?_⟩;have avF:=g6.mt.len;refine⟨t,q,_,_,rfl,rfl,310 KA.lst,g6.lst,?_,_,(cs++ps)++dg,rfl,hE j08,?_⟩
    ·rw[ba,ba,cn];rw[A37 (show _≤3000 by lia)]
    ·rw[avC,sF,←jo,←jo];exact KA.ext cW g6
   ·rintro σ a5⟨AJ,cs,rfl,s3,y2⟩;rw[kA]at y2;rw[avD];exact⟨_,_,cs,rfl,s3,y2⟩
  ·rintro σ aB⟨v2,fb,bs,rfl,s2,jc⟩;rw[kA]at jc;rw[A15 (k aB t bs s2 jc)]
abbrev ad7:bK:=bA 0x33
theorem ad8:488 [36,"meeting"] ad7:=⟨rfl,rfl,rfl,05,rfl,05,05⟩
inductive KC(C:ag)(CM:ag)(CS:ag)(vs:08)(H:av)(Q:aW)(E:bD):04|mk:∀(a:ag)(s:dt)(ws:10),vs=254→597→51→Kw s→562→(uC s ws=00→847)→(∀z,uC s ws=415→∀H' b,49→sO C 60 H' b z→435 b)→KC C CM CS vs H Q E
theorem ad9{v u:06}(az:ls.Nodup)(a3:905 v)(bp:905 u):b76 855 (370 u)=29 (v=u):=by
 rw[A06 v u]
 ·rw[e,167,167]
 ·rw[132,150 (e (Cg az a3 bp (Jc k73)))]
theorem avG(D:cq K ah k71 ad7 50 f fd)(M:Kr K C)(RJ:Pr P w K ah 02 aO 4 o11 50 (RF C CM CS))(qd:Pr P w K ah 02 aO 4 h58 551 (Fs CM CS)):Pr P w K ah 02 aO 5 k71 50 (KC C CM CS):=by
 rw[A29 ad8]
 ·obtain⟨a,s,ws,rfl,_⟩:=h;rfl
 ·obtain⟨a,s,ws,rfl,cg,wf,fr,c9,eE,cS⟩:=h;have S:=ad8;rw[A01 (239 (712 (340 RJ) 1 (bM k4 (552 qd 0 358) (552 qd 0 358) (bO _)) 62) et)];unfold uC at eE cS;have aea:∀z∈CR s,VH 37 z:=b35 (VI wf hz);refine⟨_,rfl,a,s,rfl,cg,wf,fr,fun H1 p bs s1 jc=>?_⟩;generalize CR s=zs at eE cS aea jc;refine⟨p,rfl,223 f24,hN (K:=K) (a:=p) (xs:=479) (702 (σ=[248,v]∧a94∧382 (zs.take i) (16 (a39 !=a40))=00)) (e78 (881 H1)) (fun i σ H' _⟨_,_,s2,_⟩=>32 (s2 _ _ f24)) ?_ ?_⟩
  ·rintro i y σ aB aC⟨v,rfl,s2,cy⟩;rw[B11 (bs[i]?=360∧y=281) (by
    rw[A58]
    cases e:bs[i]? with|none=>rw[A30];cases aC|some b=>rw[A30];rw[A76 b aC])];obtain⟨z,hz,dD,g_⟩:=jc.mt.get aa;have ok:=aea z (cG hz);have t1:=Kz c9 ok.l;have jt:=Kz c9 ok.r;have kM:=106 g_;refine⟨_,rfl,_,rfl,b,C,dD,_,_,rfl,kM,20,M.Rx,adL,a,s,ws,h62,rfl,(519).same s2,wf,c9,t1,n86 ?_⟩;have um:=83 kM;refine⟨_,rfl,_,rfl,b,C,dD,_,_,rfl,um,20,M.Ry,adM,a,s,ws,h61,rfl,((519).same s2).same s3,wf,c9,jt,k58 ⟨rfl,_,rfl,?_⟩⟩;rw[ad9 813 (GQ wf ws ok.l.1) (GQ wf ws ok.r.1)];have eG:(! 29 (a39=a40))=(a39 !=a40):=by
    rw[A06 a39 a40]
    ·rw[e];simp
    ·rw[132];simp[e]
   rw[eG];refine eo 356 356
   ·rw[A15 (cS z (Fm hz cy h) bP b (547 332 s3 s4) (948 (103 um)))]
   ·exact⟨_,rfl,35 686 s4,y0 hz cy h⟩
  ·rintro σ aB⟨v,rfl,s2,cy⟩;rw[ba,jc.mt.len,eK]at cy;exact eE cy aB 332
theorem RK(h:51)(f:562){v:b7}(t:uR s ws v):11 (292 780)≤979:=by rw[eA];exact cX (ajb h f) t.Fq
theorem RL(f:562){v:b7}(h:a16 v):uR s ws v:=q20 (328 h.2) (VF f v) h.1
theorem RM(x:06):11 (kl x)=e79:=by rw[kl,dR,nM]
abbrev aeb:bK:=bA 0x92
theorem aec:488 [36,o10,"meeting",f13,235] aeb:=⟨rfl,rfl,rfl,05,rfl,05,05⟩
inductive RN(CM:ag)(CS:ag)(vs:08)(H:av)(Q:aW)(E:bD):04|mk:o07 (vs=254→597→51→gx H Q (il s .unique)→RN CM CS vs H Q E)
theorem avH(D:cq K ah "unique" aeb 50 f fd)(M:Kr K C)(uD:Pr P w K ah 02 aO 4 h59 50 (Fl CM CS))(BO:Pr P w K ah 02 aO 5 k71 50 (KC C CM CS))(qd:Pr P w K ah 02 aO 4 h58 551 (Fs CM CS))(t6:Pr P w K ah 02 aO 2 h60 697 Es):Pr P w K ah 02 aO 6 "unique" 50 (RN CM CS):=by
 rw[A29 aec]
 ·rw[C25];rfl
 ·rw[C88];have S:=aec;rw[A01 (90 1 (340 uD) (318 (bM k4 (J 1) bu (bO _)) 296) (90 2 (340 BO) (318 (bM jX (J 2) et (bO _)) 755) (389 3 (cN (aj bu (258 646 646))) (e_ eL rfl (IE K rfl (oC (aj 646 (258 (552 qd 0 646) (552 qd 0 646))))) (98 4 rfl 70) (a76 (hD K rfl h9 nK nL nE 85 (78 (d37 t6 4))))) 85)))];refine⟨_,rfl,a,26,rfl,cg,078,fun H1 s1=>⟨_,rfl,rfl,_,rfl,?_⟩⟩;rw[kH];have k:gx H Q (e09 s (d50 (uC s ws) 0 (1::pb [978,977]++(ng s b36++(ng s a39++ng s a40))))):=k;rw[B99 wf (h56 (d50 (uC s ws) 0 (1::pb [978,977]++(ng s b36++(ng s a39++ng s a40)))))]
  ·rw[A80];rw[113 af];exact c8 ⟨_,rfl,371,367 (k _ p 828 904 aI)⟩
  ·rw[A80];rw[102 af];rw[A21 ⟨_,rfl,a,s,ws,rfl,519,wf,fr,c9,j91,fun z qt aB b s2 aa=>?_⟩]
   ·rw[e7]at k;exact⟨_,rfl,rfl,_,rfl,c8 (387 1 (k _ p (d39 116) ((332).free au) aI))⟩
   ·rw[qt]at k;have avI:z∈CR s:=by unfold uC at qt;exact nq qt
    have ok:=VI wf avI;have t1:=Kz c9 ok.l;have jt:=Kz c9 ok.r;have bg:=RK wf c9 t1;have cf:=RK wf c9 jt;have i5:11 902≤979:=by rw[eA];have:=ok.w.2;lia
    obtain⟨dD,hm⟩:=aa;rw[A98];refine⟨_,rfl,rfl,_,rfl,b_ ⟨_,rfl,b,C,dD,_,_,rfl,hm,20,M.first,avc,_,rfl,b,C,dD,_,_,rfl,hm,20,M.second,avd,895 3,698⟩⟩;rw[A87 [942,48 978,48 977] bk];have v8:H t=00:=ho.free bk;have mm:334 aB t [942,48 978,48 977] t=79 ([1,15 978,15 977]++541 ([]:99)):=aI;have um:=83 hm;have RO:=(b97).same s3;have oX:=b84;have hE:∀{dM:av}{o:dz},786→aA H (upd dM t o):=fun{dM o:_}e b u z=>364 (110 z v8) (e b u z);generalize 34 aB t [942,48 978,48 977]=a5 at mm um RO oX⊢;refine⟨_,rfl,b,C,dD,_,_,rfl,um,20,M.word,ave,_,rfl,_,rfl,b,C,dD,_,_,rfl,um,20,M.Rx,adL,a,s,ws,h62,rfl,RO,wf,c9,t1,k58 ?_⟩;have QR:=103 um;refine⟨_,rfl,_,rfl,b,C,dD,_,_,rfl,QR,20,M.Ry,adM,a,s,ws,h61,rfl,RO.same s4,wf,c9,jt,fun de s5=>?_⟩;rw[A03 (895 3) c32];have cW:=b05 [76 902,76 e37,76 e28];have Fg:upd de T (.tup [76 902,76 e37,76 e28]) T=_:=aI;have yC:=310 (s5 _ _ (103 mm));have yX:=547 (k48 s4) s5 cW;have k:gx H Q ([1,15 978,15 977]++541 ([902,e37,e28].map kl)):=by have k:gx H Q (1::pb [978,977]++(ng s b36++(ng s a39++ng s a40))):=k;rw[Cn,Cn,Cn]at k;have e:541 ([902,e37,e28].map kl)=kl 902++(kl e37++kl e28):=19;rw[e];exact k
    generalize 902=x0 at*;generalize e37=gr at*;generalize e28=gd at*;generalize 388 de T [76 x0,76 gr,76 gd]=ft at*;have aed:∀x∈[x0,gr,gd],e03:=by intro x ai;simp only[ed,Br,or_false]at ai;rcases ai with rfl|rfl|rfl<;>assumption
    have avJ:∀n,(221 ([x0,gr,gd].map kl) n).flatten.length≤2703:=807 (by have:=Qi (k:=0x385) (221 ([x0,gr,gd].map kl) n) (725 (by obtain⟨x,ai,rfl⟩:=112 (qp aq);rw[RM];have:=aed x ai;lia));rw[eS,ba]at this;have a6:min n [x0,gr,gd].length≤3:=Af _ _;lia);refine⟨T,rfl,404 (448 Fg),M6 (K:=K) (a:=T) (xs:=[x0,gr,gd].map (72 (516 x))) (fun n σ H'=>∃v:93,σ=[248,601 (wC 26),46 b,531,v]∧49∧H' T=294 [76 x0,76 gr,76 gd]∧H' t=79 ([1,15 978,15 977]++541 (221 ([x0,gr,gd].map kl) n))) ⟨00,rfl,yX,Fg,yC⟩ (fun n σ H' _⟨_,_,_,e,_⟩=>448 e) ?_ ?_⟩
    ·rintro n y σ gS aC⟨v,rfl,e1,Fh,Fy⟩;rw[A58];rw[B77 (pP.mp aC)];have ax:=aed x (cG ai);have hf:=avJ n;refine⟨_,rfl,329 Fy,_,rfl,x,rfl,ax,fun qS p gW mU A5=>?_⟩;have yJ:T≠t:=355 Fh Fy;refine⟨t,p,_,_,rfl,rfl,gW _ _ Fy,A5,?_,_,rfl,hE n15,41 yJ (gW _ _ Fh),?_⟩
     ·rw[fa,fa,cn,RM];rw[A37 (show _≤4000 by show 3+_+(_+1)≤_;lia)]
     ·rw[aI,Jg,dZ (x:=kl x) q19,Cq,jo];simp
    ·rintro σ gS⟨v,rfl,e1,Fh,Fy⟩;rw[A15 (k gS t e1 v8 Fy)]
end
abbrev aee:bK:=bA 0x93
theorem aef:31 [36,886,235,o10,574] 549 aee:=⟨rfl,rfl,rfl,05,rfl,05,05⟩
section
variable{A:rT}{C CM CS D I a b bG c d dx er f p t:ag}{E Q:aH→aZ→Prop}{cm:List (List Nat)}{K:bo}{M:Model}{P:f3}{R:Result→aZ→Prop}{S:ag→Prop}{T:String}{a0 us vs:List aH}{aD as:List ag}{aG e:dn}{aR:Array Il}{bx u:aH}{o:Obj}{ah:Str→Option aH}{pins:List (ag×Obj)}{az cQ:Option ag}{k1:Option aH}{b0 c0 i j lv n t':Nat}{base h h':dk}{g l ls:List Nat}{cs ns r ws:List Int}{ds:List WData}{od α β:Type}{fd:k6}{h3:Nat→dk→Prop}{x:Str}{outer:List Env}{own:List (Str×Nat)}{q:Search}{s:dt}{tk:Tok}{v:Word}{w:ff}{m:g0}{sy:cv}{xs:List ae}{y:ae}{H H' H1 aB:av}{X:dT}{tb:gH}{z:Nat×hr}
inductive RP(K:bo)(CM:ag)(CS:ag)(vs:08)(H:av)(Q:aW)(E:bD):04|mk:∀(a c:ag)(s:dt)(cs:10),vs=349 655→597→51→aJ K H c (aT cs)→gx H Q (il s (.normal cs))→RP K CM CS vs H Q E
theorem avK(D:cq K ah "normal" aee 549 f fd)(O:347)(t5:g09 12)(ml:Pr P w K ah 02 aO 2 d04 549 (yj K CM CS))(uD:Pr P w K ah 02 aO 4 h59 50 (Fl CM CS))(BM:Pr P w K ah 02 aO 3 k72 551 (Kt CM CS))(t6:Pr P w K ah 02 aO 2 h60 697 Es):Pr P w K ah 02 aO 5 "normal" 549 (RP K CM CS):=by
 rw[A29 aef]
 ·obtain⟨a,c,s,cs,rfl,_⟩:=h;rfl
 ·obtain⟨a,c,s,cs,rfl,cg,wf,ar,k⟩:=h;have S:=aef;rw[A01 (90 2 (bj ml 22 bb (77 0 1 ay)) (e35 2 t5) (90 3 (340 uD) (318 (bM k4 (J 3) bu (bO _)) 846) (239 (94 4 (bj BM 22 bb (77 0 2 ay))) (eu pO (a62 (eu r6 (d6 (hO K rfl) 66 O.len eJ (384 4)) bu)) (e27 t6 (440 327 (Na Nb bu)))))))];have bH:=wf.jn;have k:gx H Q (sX s cs (889 (e09 s (0::15 (ee s ws v).2::ng s 780)))):=k;refine⟨_,rfl,_,rfl,a,c,26,cs,rfl,cg,ar,636 37 12,g90⟩;rw[C97 (zm wf cs (889 (e09 s (0::15 (ee s ws v).2::ng s 780))))]
  ·rw[aG]at k;rw[135,aK];exact⟨_,rfl,rfl,_,rfl,c8 (387 1 (k _ p 828 904 aI))⟩
  ·rw[aG]at k;rw[135,aK];refine⟨_,rfl,rfl,_,rfl,b_ ⟨_,rfl,a,26,rfl,519,078,h57 ⟨_,rfl,rfl,_,rfl,?_⟩⟩⟩;rw[kH];rw[A98];rw[B99 wf (h56 (0::15 (ee s ws v).2::ng s 780))]
   ·rw[A80];rw[113 af];exact c8 ⟨_,rfl,371,367 (k _ p (ho.trans 116) (ho.free au) aI)⟩
   ·rw[A80];rw[102 af];have uz:=RL c9 a3;rw[A21 ⟨_,rfl,_,rfl,a,s,ws,v,rfl,b97,wf,c9,uz,fun a5 p s3 au=>?_⟩];obtain⟨u,_,_,a6⟩:=VE s ws v;have lw:11 (wG 60 (rI s ws v))=(ee s ws v).2+1:=by rw[wG,ba,a6]
    refine⟨_,rfl,p,_,rfl,306 au,_,_,rfl,rfl,338,698⟩;rw[lw];rw[A71];rw[show 52 ((ee s ws v).2+1)-1=15 (ee s ws v).2 by lia];have s4:=293 [372,48 (ee s ws v).2] bk;have bg:=RK wf c9 uz;refine⟨_,rfl,_,rfl,p,_,_,_,rfl,rfl,g44 au,adW s ws v,_,rfl,bg,fun de q s5 oW aw=>?_⟩;refine⟨t,q,_,_,rfl,rfl,s5 _ _ aI,aw,?_,849⟩
    ·rw[fa,RM];rw[A37 (show 255 by simp;lia)]
    ·have qc:=547 b84 s4 s5;refine k _ r (qc.trans i42) (qc.free c1) ?_;rw[aI,Cn];rfl
abbrev ahp:bK:=bA 0x94
theorem aeg:31 [36,886,"other_codes",235,"other",o10] i97 ahp:=⟨rfl,rfl,rfl,05,rfl,05,05⟩
inductive RQ(K:bo)(CM:ag)(CS:ag)(vs:08)(H:av)(Q:aW)(E:bD):04|mk:∀(a c d:ag)(s:dt)(cs ds:10),vs=[38,655,602]→597→51→aJ K H c (aT cs)→aJ K H d (aT ds)→gx H Q (il s (.same cs ds))→RQ K CM CS vs H Q E
theorem avL(D:cq K ah "same" ahp i97 f fd)(t5:g09 12)(ml:Pr P w K ah 02 aO 2 d04 549 (yj K CM CS))(uD:Pr P w K ah 02 aO 4 h59 50 (Fl CM CS))(BO:Pr P w K ah 02 aO 5 k71 50 (KC C CM CS))(qd:Pr P w K ah 02 aO 4 h58 551 (Fs CM CS)):Pr P w K ah 02 aO 6 "same" i97 (RQ K CM CS):=by
 rw[A29 aeg]
 ·obtain⟨a,c,d,s,cs,ds,rfl,_⟩:=h;rfl
 ·obtain⟨a,c,d,s,cs,ds,rfl,cg,wf,ar,hd,k⟩:=h;have S:=aeg;rw[A01 (90 3 (bj ml 22 bb (77 0 1 ay)) (94 4 (bj ml 22 bb (77 0 2 ay))) (aF (a49 (rW (bM jX (J 3) et (bO _)) (rV (bM jX (J 4) et (bO _)))).pt t5) (aF (94 5 (340 uD)) (517 (318 (bM k4 (J 5) bu (bO _)) (384 5)) (318 (bM tI (340 BO) et (bO _)) 755) (c28 (pE (bM fv (bj qd 22 bb (77 0 3 ay)) (bj qd 22 bb (77 0 4 ay)) (bO _)) bu bu))))))];have bH:=wf.jn;have k:gx H Q (sX s cs (889 (sX s ds (fun u=>e09 s (13 (736 (uC s ws)) [3] [13 (780==e53) 1 0]))))):=k;have one:q18 (786→dM p=00→gx H Q [v]→838 p dM p [.int v]):=q17 (b0 _ p i84 j18 aI);refine⟨_,rfl,_,rfl,a,c,26,cs,rfl,cg,ar,636 37 12,g90⟩;refine⟨_,rfl,_,rfl,a,d,26,ds,rfl,519,s1.seq hd,636 37 12,h57 ?_⟩;rw[135];rw[A98];rw[C97 (zm wf cs (889 (sX s ds (fun u=>e09 s (13 (736 (uC s ws)) [3] [13 (780==e53) 1 0])))))]
  ·rw[aG]at k;rw[aK];exact⟨_,rfl,rfl,_,rfl,c8 (h06 ho k)⟩
  ·rw[aG]at k;rw[aK];rcases zm wf ds (fun u=>e09 s (13 (736 (uC s ws)) [3] [13 (780==e53) 1 0]))with⟨cp,ej⟩|⟨u,bp,cp,ej⟩
   ·rw[ej]at k;rw[cp];exact⟨_,rfl,rfl,_,rfl,b_ ⟨_,rfl,rfl,_,rfl,h06 ho k⟩⟩
   ·rw[ej]at k;rw[cp];refine⟨_,rfl,rfl,_,rfl,b_ ⟨_,rfl,rfl,_,rfl,b_ ?_⟩⟩;refine⟨_,rfl,a,26,rfl,b97,078,n86 ⟨_,rfl,rfl,_,rfl,?_⟩⟩;rw[kH];have uw:=b84;rw[B99 wf (h56 (13 (736 (uC s ws)) [3] [13 (780==e53) 1 0]))]
    ·rw[A80];rw[113 af];exact c8 ⟨_,rfl,371,367 (one uw au k)⟩
    ·rw[A80];rw[102 af];rw[A21 ⟨_,rfl,a,s,ws,rfl,622 uw,wf,fr,c9,fun e7 bP s4=>?_,fun z qt bP b s4 aa=>?_⟩]
     ·rw[e7]at k;have k:gx H Q [13 (780==e53) 1 0]:=k;have t1:=RL c9 a3;have jt:=RL c9 bp;have mV:=n16;refine⟨rfl,_,rfl,b_ ⟨_,rfl,_,rfl,a,s,ws,v,rfl,622 mV,wf,c9,t1,fun de s5=>?_⟩⟩;refine⟨_,rfl,_,rfl,a,s,ws,u,rfl,(622 mV).same s5,wf,c9,jt,o09 ⟨rfl,_,rfl,?_⟩⟩;rw[ad9 813 (GQ wf ws t1.wf) (GQ wf ws jt.wf)];have ux:=35 j07 cW;rw[A06 780 e53]
      ·rw[e,213]at k;rw[102 e];exact h06 ux k
      ·rw[185]at k;rw[132];exact b_ (387 1 (one ux au k))
     ·rw[qt]at k;exact⟨rfl,_,rfl,h06 n16 k⟩
theorem hb{l:10}{x:Int}(h:735 i=x::r):115=43∧735 (i+1)=r∧i+1+230=63:=by have hi:i<63:=q16 (nk 522) (List.drop_of_length_le 03);rw[aa5 hi]at h;rw[B76];rw[A20 (by rw[122,af]) ak];have:=137 ak;rw[fV]at this;lia
theorem uE{l w t:10}(h:735 i=635::(w++t)):115=some 635∧i+1+218≤63∧221 (735 (i+1)) 218=w∧735 (i+1+218)=t∧i+1+218+222=63:=by obtain⟨af,ak,a6⟩:=hb h;rw[cn]at a6;refine⟨af,03,by rw[ak,List.take_left],by rw[←rH,ak,GV],03⟩
theorem KD{bl:324}(h:d10 (730:Str)=00):mQ c i≠bl:=100 (by rw[←e,yl]at h;cases h)
theorem avM{s:cv}{l:ag}:g10 (nH s l)=00:=h55
theorem avN:g10 024=00:=157
theorem aeh:g10 (wB a)=00:=q15
theorem KG{r avO:ag}{bl cm:324}(h:H a=854)(g:H r=e69 D avO cm)(n:cm≠bl):a≠r:=100 (by rw[e,g]at h;injection h with h;injection h with _ _ h;exact n h)
theorem dK.but{dI r:ag}{s:cv}(x:dK CM CS H a s)(aq:mh dI H r c i)(b:802 r):dK CM CS H' a s:=by rw[C96];obtain⟨fF,aq⟩:=aq;refine⟨dx,l,as,b _ _ 84 (KG 84 aq (KD avM)),b _ _ 301 (355 301 aq),aY.len,fun n q m af ak=>?_⟩;rw[B48 (aY.cw n q m af ak)];exact⟨d,b _ _ e (KG e aq (KD avN))⟩
theorem gZ.free{r:ag}{o:dz}(b:802 r)(aq:H' r=25)(h:416=00):H p=00:=by cases q:H p with|none=>rfl|some u=>have n:p≠r:=16 (by rw[z,aq]at h;cases h);rw[b p u q n]at h;cases h
def LB(dI:ag)(H:av)(r c:ag)(j:Nat)(l:10)(Q:aW):04:=g43 (mh dI H' r c j) (802 r→H p=00→416=79 l→412)
theorem LB.ib{dI:ag}{a5:av}{r:ag}{l:10}{Q:aW}(k:LB dI H r c j l Q)(aq:mh dI a5 r c j)(b:gZ r H a5):gx a5 Q l:=fun H' p s mU au=>by obtain⟨dx,aq⟩:=aq;exact k H' p ⟨dx,s _ _ aq⟩ (b.trans (aA.but s)) (b.free aq mU) au
abbrev aei:bK:=bA 0x7b
theorem aej:31 589 589 aei:=⟨rfl,rfl,rfl,05,rfl,05,05⟩
inductive y3(K:bo)(dI:ag)(CM:ag)(CS:ag)(lo:Int)(hi:Int)(vs:08)(H:av)(Q:aW)(E:bD):04|mk:∀(a r c:ag)(i:Nat)(s:dt)(ns t:10)(n:Int)(k:oo),vs=[38,.int n,.ref r]→597→51→mh dI H r c (i+1)→063 c→hY g06 k t→ns[i]?=some n→lo≤n→n≤hi→LB dI H r c 342 (il s k) Q→y3 K dI CM CS lo hi vs H Q E
inductive RR(CM:ag)(CS:ag)(vs:08)(H:av)(Q:aW)(E:bD):04|mk:i64 (vs=349 489) (267→269→gx H Q (Gm sy z)→RR CM CS vs H Q E)
inductive RS(K:bo)(CM:ag)(CS:ag)(vs:08)(H:av)(Q:aW)(E:bD):04|mk:∀(a c:ag)(sy:cv)(z:Int)(cs:10),vs=[38,489,655]→267→269→aJ K H c (aT cs)→gx H Q (Gn sy z cs)→RS K CM CS vs H Q E
structure aek(P:f3)(w:ff)(K:bo)(ah:261)(base:dk)(CM CS:ag):04 where
 written:Pr P w K ah 02 aO 9 o08 50 (PB CM CS)
 step:Pr P w K ah 02 aO 9 "step" j73 (PF K CM CS)
 steps:Pr P w K ah 02 aO 9 "steps" 549 (PH K CM CS)
 search:Pr P w K ah 02 aO 9 888 433 (PE CM CS)
 way:Pr P w K ah 02 aO 9 "way" 433 (RR CM CS)
 reach:Pr P w K ah 02 aO 9 "reach" j04 (RS K CM CS)
theorem avP{dI:ag}(D:cq K ah o06 aei 589 f fd)(M:sx K dI)(p:aek P w K ah 02 CM CS)(rf:jb P w K ah 02 aO 1 dI h54 251 (AQ K dI))(qe:jb P w K ah 02 aO 2 dI h53 251 (AR K dI)):Pr P w K ah 02 aO 0xa o06 589 (y3 K dI CM CS 1 6):=by
 rw[A29 aej]
 ·rw[C30];rfl
 ·rw[C29];have S:=aej;rw[A01 (aF (e24 1 p.written) (aF (bX (bM fv (J 1) bu (bO _)) (65 (bj p.step 22 bb (aj (J 0) (aj a53 (258 a53 a50))))) b2) (aF (bX (bM fv (J 1) bu (bO _)) (65 (552 p.steps 0 a50)) b2) (aF (bX (bM fv (J 1) bu (bO _)) (65 (552 p.search 0 a53)) b2) (239 (bX (bM fv (J 1) bu (bO _)) (65 (552 p.way 0 a53)) b2) (bj p.reach 22 bb (aj (J 0) (258 a53 a50))))))))];have ok:=wf.ok;rw[C05];rw[B67 cH];have skip:m87 (l=m::r→n=m):=l77 (m21 (hb c4).1)
  cases jd with|written _=>rw[A32];rw[A95 c4];rw[show 342=i+1 by lia]at b0;refine⟨_,rfl,rfl,_,rfl,c8 ⟨_,rfl,a,26,rfl,aY,ok,?_⟩⟩;rw[ahM];exact b69 cH e|step m p w _=>rw[A32];rw[A70];rw[B65 aG];obtain⟨g2,zO,_⟩:=hb ej;rw[A93 zO];rw[show 342=i+1+1+1+1+218 by lia]at b0;refine⟨_,rfl,rfl,_,rfl,b_ ⟨_,rfl,rfl,_,rfl,c8 ⟨_,rfl,_,rfl,r,fF,_,rfl,kg,ke,r,c,i+1,ns,m,rfl,cH,ar,g1,a45⟩⟩⟩;rw[B10 fU];rw[A96 kg ar];refine⟨_,rfl,r,iC,_,rfl,nY,ke,r,c,i+1+1,ns,p,rfl,fU,lQ,g2,fun aB q6 dj=>?_⟩;obtain⟨wi,Fz⟩:=id q6;have p7:=dj.seq nY lQ;refine⟨_,rfl,r,wi,_,rfl,Fz,ke,r,c,i+1+1+1,218,ns,rfl,q6,p7,g3,ey,d81⟩;rw[B02];refine⟨a,q,26,m,p,w,rfl,(h01 fU dj).but q6 fo,ok,32 aw,?_⟩;rw[step_eq wf];exact b0.ib jD (35 830 fo)|steps w _=>rw[A32];rw[A70];rw[A93 aG];rw[show 342=i+1+1+218 by lia]at b0;refine⟨_,rfl,rfl,_,rfl,b_ ⟨_,rfl,rfl,_,rfl,b_ ⟨_,rfl,rfl,_,rfl,c8 ⟨_,rfl,_,rfl,r,fF,_,rfl,kg,ke,r,c,i+1,218,ns,rfl,cH,ar,g3,ey,d81⟩⟩⟩⟩;rw[B02];refine⟨a,q,26,w,rfl,aY.but cH fo,ok,32 aw,?_⟩;rw[ahJ wf];exact b0.ib jD fo|search b _=>rw[A32];rw[A70];rw[C11 aG];rw[show 342=i+1+1 by lia]at b0;refine⟨_,rfl,rfl,_,rfl,b_ ⟨_,rfl,rfl,_,rfl,b_ ⟨_,rfl,rfl,_,rfl,b_ ⟨_,rfl,rfl,_,rfl,c8 ⟨_,rfl,_,rfl,r,fF,_,rfl,kg,ke,r,c,i+1,ns,b,rfl,cH,ar,g1,a45⟩⟩⟩⟩⟩;refine⟨a,26,b,rfl,j62,ok,?_⟩;rw[ah6 wf];exact b0.ib fU b9|way b _=>rw[A32];rw[A70];rw[C11 aG];rw[show 342=i+1+1 by lia]at b0;refine⟨_,rfl,rfl,_,rfl,b_ ⟨_,rfl,rfl,_,rfl,b_ ⟨_,rfl,rfl,_,rfl,b_ ⟨_,rfl,rfl,_,rfl,b_ ⟨_,rfl,rfl,_,rfl,c8 ⟨_,rfl,_,rfl,r,fF,_,rfl,kg,ke,r,c,i+1,ns,b,rfl,cH,ar,g1,a45⟩⟩⟩⟩⟩⟩;refine⟨a,26,b,rfl,j62,ok,?_⟩;rw[ah9 wf];exact b0.ib fU b9|reach b w _=>rw[A32];rw[A70];rw[B65 aG];rw[A93 ej];rw[show 342=i+1+1+1+218 by lia]at b0;refine⟨_,rfl,rfl,_,rfl,b_ ⟨_,rfl,rfl,_,rfl,b_ ⟨_,rfl,rfl,_,rfl,b_ ⟨_,rfl,rfl,_,rfl,b_ ⟨_,rfl,rfl,_,rfl,b_ ⟨_,rfl,_,rfl,r,fF,_,rfl,kg,ke,r,c,i+1,ns,b,rfl,cH,ar,g1,a45⟩⟩⟩⟩⟩⟩;rw[B10 fU];rw[A96 kg ar];refine⟨_,rfl,r,iC,_,rfl,nY,ke,r,c,i+1+1,218,ns,rfl,fU,lQ,g3,ey,d81⟩;rw[B02];refine⟨a,q,26,b,w,rfl,h01 fU fo,ok,32 aw,?_⟩;rw[aia wf];exact i83 jD fo|load x _=>rw[A05];lia|weights _=>rw[A05];lia|parted _=>rw[A05];lia|turns _ _=>rw[A05];lia|turned _=>rw[A05];lia|keeps _ _ _=>rw[A05];lia|machine _ _ _=>rw[A05];lia|seek _=>rw[A05];lia|down _=>rw[A05];lia|unique _=>rw[A05];lia|normal _ _=>rw[A05];lia|same _ _ _=>rw[A05];lia
inductive FA(CM:ag)(CS:ag)(k:oo)(vs:08)(H:av)(Q:aW)(E:bD):04|mk:o07 (vs=254→597→51→gx H Q (il s k)→FA CM CS k vs H Q E)
inductive RT(CM:ag)(CS:ag)(k:Int→oo)(vs:08)(H:av)(Q:aW)(E:bD):04|mk:∀(a:ag)(s:dt)(z:Int),vs=349 489→597→51→gx H Q (il s (k z))→RT CM CS k vs H Q E
inductive FC(CM:ag)(CS:ag)(k:Int→10→oo)(vs:08)(H:av)(Q:aW)(E:bD):04|mk:∀(a c:ag)(s:dt)(z:Int)(x:10),vs=[38,489,655]→597→51→H c=79 x→gx H Q (il s (k z x))→FC CM CS k vs H Q E
abbrev ael:bK:=bA 0x7c
theorem aem:31 589 589 ael:=⟨rfl,rfl,rfl,05,rfl,05,05⟩
structure aen(P:f3)(w:ff)(K:bo)(ah:261)(base:dk)(CM CS:ag):04 where
 weights:Pr P w K ah 02 aO 9 573 50 (Qj CM CS)
 parted:Pr P w K ah 02 aO 9 "parted" 50 (Rq CM CS)
 turns:Pr P w K ah 02 aO 9 h49 585 (RT CM CS .turns)
 turned:Pr P w K ah 02 aO 9 "turned" 50 (FA CM CS k25)
 keeps:Pr P w K ah 02 aO 9 "keeps" a21 (FC CM CS .keeps)
 machine:Pr P w K ah 02 aO 9 h37 a29 (FC CM CS .machine)
 seek:Pr P w K ah 02 aO 9 "seek" 50 (FA CM CS .seek)
theorem avQ{dI:ag}(D:cq K ah o05 ael 589 f fd)(M:sx K dI)(p:aen P w K ah 02 CM CS)(rf:jb P w K ah 02 aO 1 dI h54 251 (AQ K dI))(qe:jb P w K ah 02 aO 2 dI h53 251 (AR K dI)):Pr P w K ah 02 aO 0xa o05 589 (y3 K dI CM CS 7 0xd):=by
 rw[A29 aem]
 ·rw[C30];rfl
 ·rw[C29];have S:=aem;rw[A01 (aF (e24 1 p.weights) (aF (e24 1 p.parted) (aF (bX (bM fv (J 1) bu (bO _)) (65 (552 p.turns 0 a53)) b2) (aF (e24 1 p.turned) (517 (bX (bM fv (J 1) bu (bO _)) (65 (bj p.keeps 22 bb (aj (J 0) (258 a53 a50)))) b2) (bX (bM fv (J 1) bu (bO _)) (65 (bj p.machine 22 bb (aj (J 0) (258 a53 a50)))) b2) (340 p.seek))))))];have ok:=wf.ok;rw[C05];rw[B67 cH];have skip:m87 (l=m::r→n=m):=l77 (m21 (hb c4).1)
  cases jd with|weights _=>rw[A32];rw[A95 c4];rw[show 342=i+1 by lia]at b0;refine⟨_,rfl,rfl,_,rfl,c8 ⟨_,rfl,a,26,rfl,aY,ok,?_⟩⟩;rw[aiy wf];exact b69 cH e|parted _=>rw[A32];rw[A95 c4];rw[show 342=i+1 by lia]at b0;refine⟨_,rfl,rfl,_,rfl,b_ ⟨_,rfl,rfl,_,rfl,c8 ⟨_,rfl,a,26,rfl,aY,ok,?_⟩⟩⟩;rw[aiD wf];exact b69 cH e|turns b _=>rw[A32];rw[A70];rw[C11 aG];rw[show 342=i+1+1 by lia]at b0;refine⟨_,rfl,rfl,_,rfl,b_ ⟨_,rfl,rfl,_,rfl,b_ ⟨_,rfl,rfl,_,rfl,c8 ⟨_,rfl,_,rfl,r,fF,_,rfl,kg,ke,r,c,i+1,ns,b,rfl,cH,ar,g1,a45⟩⟩⟩⟩;exact⟨a,s,b,rfl,j62,wf,b0.ib fU b9⟩|turned _=>rw[A32];rw[A95 c4];rw[show 342=i+1 by lia]at b0;exact⟨_,rfl,rfl,_,rfl,b_ ⟨_,rfl,rfl,_,rfl,b_ ⟨_,rfl,rfl,_,rfl,b_ ⟨_,rfl,rfl,_,rfl,c8 ⟨_,rfl,a,s,rfl,aY,wf,b69 cH e⟩⟩⟩⟩⟩|keeps b w _=>rw[A32];rw[A70];rw[B65 aG];rw[A93 ej];rw[show 342=i+1+1+1+218 by lia]at b0;refine⟨_,rfl,rfl,_,rfl,b_ ⟨_,rfl,rfl,_,rfl,b_ ⟨_,rfl,rfl,_,rfl,b_ ⟨_,rfl,rfl,_,rfl,b_ ⟨_,rfl,rfl,_,rfl,c8 ⟨_,rfl,_,rfl,r,fF,_,rfl,kg,ke,r,c,i+1,ns,b,rfl,cH,ar,g1,a45⟩⟩⟩⟩⟩⟩;rw[B10 fU];rw[A96 kg ar];refine⟨_,rfl,r,iC,_,rfl,nY,ke,r,c,i+1+1,218,ns,rfl,fU,lQ,g3,ey,d81⟩;rw[B02];exact⟨a,q,s,b,w,rfl,h01 fU fo,wf,aw,i83 jD fo⟩|machine b w _=>rw[A32];rw[A70];rw[B65 aG];rw[A93 ej];rw[show 342=i+1+1+1+218 by lia]at b0;refine⟨_,rfl,rfl,_,rfl,b_ ⟨_,rfl,rfl,_,rfl,b_ ⟨_,rfl,rfl,_,rfl,b_ ⟨_,rfl,rfl,_,rfl,b_ ⟨_,rfl,rfl,_,rfl,b_ ⟨_,rfl,rfl,_,rfl,c8 ⟨_,rfl,_,rfl,r,fF,_,rfl,kg,ke,r,c,i+1,ns,b,rfl,cH,ar,g1,a45⟩⟩⟩⟩⟩⟩⟩;rw[B10 fU];rw[A96 kg ar];refine⟨_,rfl,r,iC,_,rfl,nY,ke,r,c,i+1+1,218,ns,rfl,fU,lQ,g3,ey,d81⟩;rw[B02];exact⟨a,q,s,b,w,rfl,h01 fU fo,wf,aw,i83 jD fo⟩|seek _=>rw[A32];rw[A95 c4];rw[show 342=i+1 by lia]at b0;exact⟨_,rfl,rfl,_,rfl,b_ ⟨_,rfl,rfl,_,rfl,b_ ⟨_,rfl,rfl,_,rfl,b_ ⟨_,rfl,rfl,_,rfl,b_ ⟨_,rfl,rfl,_,rfl,b_ ⟨_,rfl,rfl,_,rfl,b_ ⟨_,rfl,a,s,rfl,aY,wf,b69 cH e⟩⟩⟩⟩⟩⟩⟩|load x _=>rw[A05];lia|written _=>rw[A05];lia|step _ _ _ _=>rw[A05];lia|steps _ _=>rw[A05];lia|search _ _=>rw[A05];lia|way _ _=>rw[A05];lia|reach _ _ _=>rw[A05];lia|down _=>rw[A05];lia|unique _=>rw[A05];lia|normal _ _=>rw[A05];lia|same _ _ _=>rw[A05];lia
abbrev aeo:bK:=bA 0x7d
theorem aep:31 589 589 aeo:=⟨rfl,rfl,rfl,05,rfl,05,05⟩
structure aeq(P:f3)(w:ff)(K:bo)(ah:261)(base:dk)(CM CS:ag):04 where
 down:Pr P w K ah 02 aO 9 "down" 50 (Rk CM CS)
 unique:Pr P w K ah 02 aO 9 "unique" 50 (RN CM CS)
 normal:Pr P w K ah 02 aO 9 "normal" 549 (RP K CM CS)
 same:Pr P w K ah 02 aO 9 "same" i97 (RQ K CM CS)
theorem avR{dI:ag}(D:cq K ah o04 aeo 589 f fd)(M:sx K dI)(p:aeq P w K ah 02 CM CS)(qe:jb P w K ah 02 aO 2 dI h53 251 (AR K dI)):Pr P w K ah 02 aO 0xa o04 589 (y3 K dI CM CS 0xe 804):=by
 rw[A29 aep]
 ·rw[C30];rfl
 ·rw[C29];have S:=aep;rw[A01 (aF (e24 1 p.down) (aF (e24 1 p.unique) (239 (bX (bM fv (J 1) bu (bO _)) (65 (552 p.normal 0 a50)) b2) (bj p.same 22 bb (aj (J 0) (258 a50 a50))))))];have ok:=wf.ok;rw[C05];rw[B67 cH];have skip:m87 (l=m::r→n=m):=l77 (m21 (hb c4).1)
  cases jd with|down _=>rw[A32];rw[A95 c4];rw[show 342=i+1 by lia]at b0;refine⟨_,rfl,rfl,_,rfl,c8 ⟨_,rfl,a,26,rfl,aY,ok,?_⟩⟩;rw[aAE wf];exact b69 cH e|unique _=>rw[A32];rw[A95 c4];rw[show 342=i+1 by lia]at b0;exact⟨_,rfl,rfl,_,rfl,b_ ⟨_,rfl,rfl,_,rfl,c8 ⟨_,rfl,a,s,rfl,aY,wf,b69 cH e⟩⟩⟩|normal w _=>rw[A32];rw[A70];rw[A93 aG];rw[show 342=i+1+1+218 by lia]at b0;refine⟨_,rfl,rfl,_,rfl,b_ ⟨_,rfl,rfl,_,rfl,b_ ⟨_,rfl,rfl,_,rfl,c8 ⟨_,rfl,_,rfl,r,fF,_,rfl,kg,ke,r,c,i+1,218,ns,rfl,cH,ar,g3,ey,d81⟩⟩⟩⟩;rw[B02];exact⟨a,q,s,w,rfl,aY.but cH fo,wf,32 aw,b0.ib jD fo⟩|same v w _=>rw[A32];rw[A70];obtain⟨g3,ey,gi,avS,rN⟩:=uE aG;obtain⟨e9,f4,fR,_,xB⟩:=uE avS;rw[show 342=i+1+1+734+1+218 by lia]at b0;refine⟨_,rfl,rfl,_,rfl,b_ ⟨_,rfl,rfl,_,rfl,b_ ⟨_,rfl,rfl,_,rfl,b_ ⟨_,rfl,_,rfl,r,fF,_,rfl,kg,ke,r,c,i+1,734,ns,rfl,cH,ar,g3,ey,fun H1 bg fU b9 oW pY=>?_⟩⟩⟩⟩;rw[gi]at pY;rw[B10 fU];rw[A96 kg ar];refine⟨_,rfl,r,iC,_,rfl,nY,ke,r,c,i+1+1+734,218,ns,rfl,fU,lQ,e9,f4,fun a5 cf jD fo aBW lP=>?_⟩;rw[fR]at lP;exact⟨a,bg,cf,s,v,w,rfl,h01 fU fo,wf,32 (fo _ _ pY (355 pY nY)),32 lP,i83 jD fo⟩|load x _=>rw[A05];lia|written _=>rw[A05];lia|step _ _ _ _=>rw[A05];lia|steps _ _=>rw[A05];lia|search _ _=>rw[A05];lia|way _ _=>rw[A05];lia|reach _ _ _=>rw[A05];lia|weights _=>rw[A05];lia|parted _=>rw[A05];lia|turns _ _=>rw[A05];lia|turned _=>rw[A05];lia|keeps _ _ _=>rw[A05];lia|machine _ _ _=>rw[A05];lia|seek _=>rw[A05];lia
theorem aer{l t:10}{k:oo}(h:hY l k t):∃n pre,l=n::(pre++t)∧0≤n∧n≤804:=by cases h with|load x _=>exact⟨0,583::x,rfl,14,14⟩|written _=>exact⟨1,[],rfl,14,14⟩|step m p w _=>exact⟨2,m::p::635::w,rfl,14,14⟩|steps w _=>exact⟨3,635::w,rfl,14,14⟩|search b _=>exact⟨4,[b],rfl,14,14⟩|way b _=>exact⟨5,[b],rfl,14,14⟩|reach b w _=>exact⟨6,b::635::w,rfl,14,14⟩|weights _=>exact⟨7,[],rfl,14,14⟩|parted _=>exact⟨8,[],rfl,14,14⟩|turns b _=>exact⟨9,[b],rfl,14,14⟩|turned _=>exact⟨0xa,[],rfl,14,14⟩|keeps b w _=>exact⟨0xb,b::635::w,rfl,14,14⟩|machine b w _=>exact⟨12,b::635::w,rfl,14,14⟩|seek _=>exact⟨0xd,[],rfl,14,14⟩|down _=>exact⟨0xe,[],rfl,14,14⟩|unique _=>exact⟨0xf,[],rfl,14,14⟩|normal w _=>exact⟨377,635::w,rfl,14,14⟩|same v w _=>exact⟨804,15 734::(v++(635::w)),19,14,14⟩
theorem avT{l t:10}{k:oo}(h:hY (0::l) k t):∃x,k=.load x∧l=583::(x++t):=by cases h with|load x _=>rw[A44 x rfl]
theorem avU{n:Int}{l t:10}{k:oo}(h:hY (n::l) k t)(h0:n≠0)(s:dt):oq s k=(s,il s k):=by cases h with|load x _=>rw[A64 h0]|_=>rfl
theorem avV(s:dt)(x:10):uu s x=oq s (.load x):=rfl
theorem avW(h:51)(k:oo):c3 (oq s k).1:=by
 cases k with
  |load x=>
   show c3 (13 (o_ x) (s,[-1]) (13 (Vainve.TEXT<96) (s,[-2]) (l83 (d8 x) (s,acV f) (y,[0])))).1;split
   ·exact h
   ·split
    ·exact h
    ·split
     ·exact h
     ·next y e=>exact ajn e
  |_=>exact h
theorem lh.but{er CM CS dI h r c:ag}{i:Nat}{H H':av}{s:cv}(x:lh er CM CS H h s)(aq:mh dI H r c i)(b:802 r):lh er CM CS H' h s:=by obtain⟨hs,bG,af,ak⟩:=x;obtain⟨fF,p9⟩:=id aq;exact⟨hs,bG,b _ _ af (KG af p9 (KD aeh)),ak.but aq b⟩
abbrev aes:bK:=bA 0x7a
theorem aet:31 [h52,k70,"call"] j21 aes:=⟨rfl,rfl,rfl,05,rfl,05,05⟩
inductive RU(K:bo)(dI:ag)(er:ag)(CM:ag)(CS:ag)(vs:08)(H:av)(Q:aW)(E:bD):04|mk:∀(h r c:ag)(i:Nat)(s:dt)(ns t:10)(k:oo),vs=[.ref h,.ref r]→lh er CM CS H h 26→51→mh dI H r c i→063 c→hY g06 k t→314≤bc→(g43 (mh dI H' r c 342) (lh er CM CS H' h (bh (oq s k).1)→fN (507 (b=h∨b=r)) H H'→H p=00→416=79 (oq s k).2→412))→RU K dI er CM CS vs H Q E
theorem avX{dI:ag}(D:cq K ah o03 aes j21 f fd)(M:sx K dI)(BP:Kd K er)(RV:Pr P w K ah 02 aO 9 "load" j23 (Ra K er CM CS))(rf:jb P w K ah 02 aO 1 dI h54 251 (AQ K dI))(qe:jb P w K ah 02 aO 2 dI h53 251 (AR K dI))(avY:Pr P w K ah 02 aO 0xa o06 589 (y3 K dI CM CS 1 6))(avZ:Pr P w K ah 02 aO 0xa o05 589 (y3 K dI CM CS 7 0xd))(av0:Pr P w K ah 02 aO 0xa o04 589 (y3 K dI CM CS 0xe 804)):Pr P w K ah 02 aO 0xb o03 j21 (RU K dI er CM CS):=by
 rw[A29 aet]
 ·obtain⟨h,r,c,i,s,ns,t,k,rfl,_⟩:=h;rfl
 ·obtain⟨h,r,c,i,s,ns,t,k,rfl,jy,wf,cH,ar,jd,hz,b0⟩:=h;have S:=aet;rw[A01 (90 2 (gv rf 20 22 bb 62) (bX (bM fv (J 2) bu (bO _)) (65 (552 RV 0 (gv qe 20 22 bb 62))) b2) (517 (bX (bM z9 (J 2) bu (bO _)) (65 (926 avY 59 (462 2 1))) b2) (bX (bM z9 (J 2) bu (bO _)) (65 (926 avZ 59 (462 2 1))) b2) (926 av0 59 (462 2 1))))];obtain⟨n,pre,c4,aBX,av1⟩:=aer jd;obtain⟨KH,aG,cp⟩:=hb c4;rw[B67 cH];refine⟨_,rfl,r,fF,_,rfl,kg,ke,r,c,i,ns,n,rfl,cH,ar,KH,a45⟩;rw[B10 fU];rw[A96 kg ar];have wz:=jy.but cH b9;refine⟨_,rfl,rfl,_,rfl,?_⟩;rw[kH];refine eo (fun h0=>?_) (fun h0=>?_)
  ·have h0:=121 h0;subst h0;rw[c4]at jd;obtain⟨x,rfl,ex⟩:=avT jd;rw[ex]at aG;rw[A93 aG];rw[show 342=i+1+1+96 by lia]at b0;refine⟨_,rfl,_,rfl,r,iC,_,rfl,nY,ke,r,c,i+1,96,ns,rfl,fU,lQ,g3,ey,fun aB q q6 dj oW aw=>?_⟩;rw[B02];obtain⟨wi,Fz⟩:=id q6;have BD:=830;have BQ:=wz.but fU dj;have av2:h≠r:=by obtain⟨hs,bG,af,_⟩:=BQ;exact KG af Fz (KD aeh)
   refine⟨h,q,x,s,rfl,aw,BQ,03,fun a5 l jE t8 pR ax=>?_⟩;rw[avV]at pR ax;exact b0 a5 l ⟨wi,jE _ _ Fz (16 (av2 b25))⟩ pR (fun b o e nb=>jE b o (BD b o e (16 (nb (.inr z)))) (16 (nb (.inl z)))) (BD.free Fz t8) ax
  ·have h0:n≠0:=16 (by rw[z,167]at h0;cases h0);have gq:=avU (c4▸jd) h0 s;rw[gq]at b0;obtain⟨hs,bG,af,oU⟩:=id wz;have fin:LB dI H1 r c 342 (il s k) Q:=fun H' p av3 tL mU au=>b0 H' p av3 (wz.but fU tL) (fun b o e nb=>tL b o (b9 b o e (16 (nb (.inr z)))) (16 (nb (.inr z)))) (b9.free nY mU) au;refine⟨_,rfl,_,_,rfl,rfl,_,rfl,eb (fun iT=>?_) (fun iT=>?_)⟩
   ·have iT:n≤6:=121 iT;exact⟨_,rfl,h,er,hs,_,_,rfl,af,BP.cl,BP.Fi,Ke,_,rfl,_,rfl,bG,r,c,i,s,ns,t,n,k,rfl,oU,wf,fU,lQ,jd,KH,03,iT,fin⟩
   ·have iT:¬n≤6:=16 (iT 139);refine⟨_,rfl,_,_,rfl,rfl,_,rfl,eb (fun vh=>?_) (fun vh=>?_)⟩
    ·have vh:n≤0xd:=121 vh;exact⟨_,rfl,h,er,hs,_,_,rfl,af,BP.cl,BP.Fi,Ke,_,rfl,_,rfl,bG,r,c,i,s,ns,t,n,k,rfl,oU,wf,fU,lQ,jd,KH,03,vh,fin⟩
    ·have vh:¬n≤0xd:=16 (vh 139);exact⟨_,rfl,h,er,hs,_,_,rfl,af,BP.cl,BP.Fi,Ke,_,rfl,_,rfl,bG,r,c,i,s,ns,t,n,k,rfl,oU,wf,fU,lQ,jd,KH,03,av1,fin⟩
theorem av4(a:10)(l:99):rO (a::l)=15 733::(a++rO l):=by unfold rO;rw[s9];rfl
theorem av5:c3 BR:=by refine⟨VS,14,fun c h=>b68,14,fun m h=>b68,fun w h=>b68,fun w h=>b68⟩
inductive m8(er:ag)(CM:ag)(CS:ag)(H:av)(h:ag)(g:ag)(s:cv):04|mk:∀hs bG dx l as,H h=e69 er hs (wB bG)→h8 CM CS H bG dx l as s→l≠g→m8 er CM CS H h g s
section
variable{h g:ag}{s:cv}
theorem m8.hold(x:m8 er CM CS H h g s):lh er CM CS H h s:=let⟨hs,bG,dx,l,as,a,b,_⟩:=x;⟨hs,bG,a,dx,l,as,b⟩
theorem m8.put{o:dz}(x:m8 er CM CS H h g s)(a4:k69 (H g≠711 d bl)):m8 er CM CS (upd H g o) h g s:=by rw[C95];have ne:∀{b C d:ag}{bl:324},H b=711 d bl→b≠g:=fun e z=>a4 _ _ _ (z▸e);refine⟨hs,bG,dx,l,as,41 (ne af) af,⟨41 (ne ak.at_) ak.at_,41 n ak.lst,ak.len,fun i b m aK aG=>?_⟩,n⟩;rw[B48 (ak.cw i b m aK aG)];exact⟨d,41 (ne e) e⟩
theorem lh.apart(x:lh er CM CS H h s)(a4:∀xs,H g≠526):m8 er CM CS H h g s:=by obtain⟨hs,bG,a,dx,l,as,b⟩:=x;exact⟨hs,bG,dx,l,as,a,b,16 (a4 _ (z▸b.lst))⟩
theorem m8.same(x:m8 er CM CS H h g s)(e:49):m8 er CM CS H' h g s:=by rw[C95];refine⟨hs,bG,dx,l,as,e _ _ af,⟨e _ _ ak.at_,e _ _ ak.lst,ak.len,fun i b m aK aG=>?_⟩,n⟩;obtain⟨d,q⟩:=ak.cw i b m aK aG;exact⟨d,e _ _ q⟩
end
def qf(K:bo)(c g:ag)(xs:08)(H:av):04:=(∃o,H c=25∧c≠g∧(o=.lst xs∨∃q,o=913 q xs))∨∀H',aJ K H' c xs
section
variable{g:ag}
theorem qf.seq(x:qf K c g xs H):aJ K H c xs:=by
 rcases x with⟨o,h,_,rfl|⟨q,rfl⟩⟩|h
 ·rw[A17 a64]
 ·rw[A17 (.inr ⟨q,h⟩)]
 ·exact h H
theorem qf.of(h:aJ K H c xs)(a4:H g=00):qf K c g xs H:=by
 rw[C28]
 ·rw[A17 ⟨_,h,bT h a4,253⟩]
 ·rw[A17 ⟨_,h,bT h a4,.inr (612 o)⟩]
 ·rw[A09 (fun H'=>.inr h)]
theorem qf.step(x:qf K c g xs H)(f:∀o,H c=25→c≠g→(k69 (o≠.ins C d bl))→H' c=25):qf K c g xs H':=by
 rcases x with⟨o,h,n,e⟩|h
 ·refine .inl ⟨o,f o h n (k68 ?_),n,e⟩;rcases e with rfl|⟨q,rfl⟩<;>cases z
 ·rw[A09 h]
end
abbrev RW:bK:=bA 0x79
theorem aeu:31 [d09,h52,k70,"given","answer"] 015 RW:=⟨rfl,rfl,rfl,05,rfl,05,05⟩
inductive BS(K:bo)(vs:08)(H:av)(Q:aW)(E:bD):04|mk:∀(c:ag)(ns:10)(cS:List oo),vs=[655]→063 c→xx ns cS→314≤bc→069 (rO (tu BR cS))→(g43 (416=79 (rO (tu BR cS))) 412)→BS K vs H Q E
theorem av6{dI:ag}(D:cq K ah k21 RW 015 f fd)(O:443)(M:sx K dI)(av7:mf P w K ah 02 aO 3 er "Holder" 251 (Q_ er CM CS))(av8:mf P w K ah 02 aO 1 dI "CallReader" i96 (PO dI))(av9:jb P w K ah 02 aO 1 dI "is_at_end" 251 (O5 K dI))(RX:Pr P w K ah 02 aO 0xb o03 j21 (RU K dI er CM CS)):eP P w K ah 02 aO 12 f fd 015 (BS K):=by
 refine p57 aeu ?_ ?_
 ·obtain⟨c,ns,cS,rfl,_⟩:=h;rfl
 ·obtain⟨c,ns,cS,rfl,ar,awa,hz,aBY,k⟩:=h;have S:=aeu;rw[A01 (90 1 (Y5 av7 22 bb) (94 2 (pU av8 22 bb 029)) (389 3 556 (tG eL (g91 (gv av9 20 22 bb 45)) (aF (Yt (94 4 (bj RX 22 bb (77 1 2 ay)))) (aF (fK (hD K rfl h9 sC sD qQ 85 (78 (d6 (hO K rfl) 66 O.len eJ (384 4))))) (a76 (hD K rfl h9 nK nL nE 85 (384 4)))))) 85))];refine fun h hs dh awb aBZ=>⟨h,hs,rfl,aI,fun H1 wz b9=>119 ?_⟩;have JX:aA H (upd (upd H hs (.own h)) h (.ins er hs [])):=d08 (j06 (117 dh) awb);have s1:c78:=d08 (b9 b u (JX b u e) (bT e dh));refine 123 (fun r fF c1 aev aB0=>⟨r,fF,c,rfl,aI,rfl,?_⟩);have s2:=k43 (.own r) (.ins dI fF []) (.ins dI fF (mQ c 0)) c1 aev;have fU:upd (upd (upd H1 fF (.own r)) r (.ins dI fF [])) r (.ins dI fF (mQ c 0)) r=_:=aI;have BQ:=wz.same s2;generalize upd (upd (upd H1 fF (.own r)) r (.ins dI fF [])) r (.ins dI fF (mQ c 0))=aB at s2 fU BQ⊢;rw[A33 c33];rw[A87 [] a4];have RY:334 aB g [] g=79 []:=aI;have pR:m8 er CM CS (34 aB g []) h g (bh BR):=m8.same (lh.apart (s:=⟨[],[],00,00⟩) BQ (fun xs z=>q14)) s3;have q6:=83 fU;have RZ:qf K c g 039 (34 aB g []):=(qf.of ((332).seq ar) a4).step (fun o e _ _=>83 e);generalize 34 aB g []=a5 at RY pR q6 RZ⊢;clear s1 s2 s3 BQ wz b9 fU a4 c1 aev;rw[B72 (∃(i:Nat)(s:dt)(cs:List oo)(b1:10)(v4:93),σ=[959,46 h,46 r,46 g,v4]∧mh dI H' r c i∧m8 er CM CS H' h g 26∧51∧qf K c g 039 H'∧xx g06 cs∧i≤314∧H' g=79 b1∧b1++rO (tu s cs)=rO (tu BR cS)∧m=383) ⟨_,0,BR,cS,[],00,rfl,⟨fF,q6⟩,pR,av5,RZ,awa,229,RY,rfl,rfl⟩];clear RY pR q6 RZ;rintro m σ bP⟨i,s,cs,b1,v4,rfl,cH,jy,wf,GH,aew,hi,a4,hw,rfl⟩;obtain⟨aex,jD⟩:=id cH;refine⟨_,rfl,r,aex,_,rfl,jD,ke,r,c,i,ns,rfl,cH,GH.seq,_,rfl,?_⟩;generalize c4:g06=l at aew
  cases aew with
   |nil=>
    have e:i=314:=by have:=137 c4;rw[fV,l4]at this;lia
    rw[102 e];rw[A21 (123 (k bP g ?_))];rw[←hw];show bP g=79 (b1++[]);rw[nh];exact a4
   |@cons _ k1 t cs jd awc=>
    obtain⟨n,pre,JG,_,_⟩:=aer jd;have dp:=137 c4;rw[fV,JG,dR,cn]at dp;have iB:976 342=t:=by rw[show 342=i+(1+pre.length)by lia,←rH,c4,JG,tm 1];show 473 (pre++t) pre.length=t;rw[GV]
    rw[133];have aey:k69 (bP g≠711 d bl):=k68 q14;refine c8 ⟨_,a25,⟨g,.lst 031,a4,xX,fun cQ=>?_⟩⟩;have awd:r≠g:=16 (aey _ _ _ (z▸jD));have R0:=jy.put (o:=913 cQ 031) aey;have R1:mh dI (upd bP g (913 cQ 031)) r c i:=⟨aex,41 awd jD⟩;have R2:qf K c g 039 (upd bP g (913 cQ 031)):=GH.step (fun o e n _=>41 n e);have FD:upd bP g (913 cQ 031) g=some (913 cQ 031):=aI;generalize upd bP g (913 cQ 031)=de at R0 R1 R2 FD⊢;rw[←c4]at jd;refine⟨_,rfl,_,rfl,h,r,c,i,s,ns,t,k1,rfl,R0.hold,wf,R1,R2.seq,jd,hz,fun ft p R3 awe jE mU au=>?_⟩;obtain⟨aB1,aez⟩:=id R1;obtain⟨aB2,aB3,aeA,_⟩:=R0.hold;have awf:g≠h:=355 FD aeA;have R4:g≠r:=355 FD aez;have R5:=jE _ _ FD (j51 awf R4);have aeB:p≠g:=16 (by rw[z,FD]at mU;cases mU);rw[A27 R5];have KI:334 ft g 031 g=79 b1:=aI;have R6:m8 er CM CS (521 ft g b1) h g (bh (oq s k1).1):=m8.put (lh.apart awe (fun xs z=>q13)) (k68 q13);have KJ:mh dI (521 ft g b1) r c 342:=by obtain⟨awg,R3⟩:=R3;exact⟨awg,41 R4.symm R3⟩
    have KL:=35 (aE (o:=.lst 031) (H:=ft) aeB) au;have aeC:qf K c g 039 (521 ft g b1):=R2.step (fun o e n no=>41 n (jE _ _ e (j51 (16 (no _ _ _ (cI (k29 (z▸e) aeA)))) (16 (no _ _ _ (cI (k29 (z▸e) aez)))))));generalize 521 ft g b1=gS at KI R6 KJ KL aeC⊢;have aeD:=avW wf k1;have KN:b1++(15 (oq s k1).2.length::((oq s k1).2++rO (tu (oq s k1).1 cs)))=rO (tu BR cS):=by rw[←hw,←av4];rfl
    generalize(oq s k1).2=ib at KL KN;generalize(oq s k1).1=e1 at R6 aeD KN;have hlen:=137 KN;rw[cn,dR,cn]at hlen;have awh:k69 (gS g≠711 d bl):=k68 (by rw[KI]at z;cases z);refine⟨_,rfl,329 KI,_,rfl,p,_,rfl,306 KL,g,_,_,rfl,rfl,KI,by rw[fa];lia,?_⟩;rw[fa];refine⟨_,rfl,329 aI,_,rfl,g,p,_,_,rfl,rfl,aI,41 aeB KL,?_,?_⟩
    ·rw[cn,fa,fa];show o02+1+ib.length≤_;lia
    ·refine⟨383,k67,342,e1,cs,b1++15 ib.length::ib,_,rfl,?_,?_,aeD,?_,by rw[iB];exact awc,Xz _ _,?_,?_,rfl⟩
     ·obtain⟨awi,KJ⟩:=KJ;exact⟨awi,by rw[gp];exact 41 R4.symm KJ⟩
     ·rw[gp];exact R6.put awh
     ·rw[gp];exact aeC.step (fun o e n _=>41 n e)
     ·rw[aI,AO b1];simp[aT]
     ·rw[jo];exact KN
structure nZ(q:d3):04 where
 ol:b34=302
 eO:∀(i:Nat)(o:Nat×917),j22=some 25→o.1<i
theorem nZ.note{q:d3}{x:06}{l:Nat}{o:845}(h:nZ q)(a8:∀z,o=415→z.1<302):nZ (n_ q x l o):=by
 rw[A03 ?_ (fun i z hz=>?_)]
 ·show 11 (d06++[o])=11 a78;rw[cn,cn,h.ol];rfl
 ·have hz:q12 i=454 z:=hz;rw[A65 (i<b34)]
  ·rw[mN hi]at hz;exact h.eO i z hz
  ·rw[166]at hz;have ax:=eI hz;have dw:i-b34=0:=by have:i-b34<1:=ax;lia
   rw[dw]at hz;have:=a8 z (cI hz);rw[h.ol]at dw hi;lia
theorem R7{α β:272}{f:β→α→β}{Pr:92 β}(h:∀b a,Pr b→Pr (f b a)):∀(l:40)(b:β),Pr b→Pr (l.foldl f b)|[],b,p=>p|a::l,b,p=>R7 h l (f b a) (h b a p)
theorem awj{idx:Nat}{x:06}{q:d3}{p:Nat}(h:nZ q∧n<302):nZ (ij n idx lv m x q p)∧n<d07 (ij n idx lv m x q p):=by
 unfold ij;split
 ·exact h
 ·split
  ·exact h
  ·split
   ·exact⟨⟨h.1.ol,h.1.eO⟩,h.2⟩
   ·rw[A27 (h.1.note g83)]
    ·rw[←cI hz];exact h.2
    ·show n<11 (887++[_]);rw[cn];have:=h.2;lia
theorem awk{len:Nat}{x:06}{q:d3}{gA:g0×Nat}(h:nZ q∧n<302):nZ (gz n len lv x q gA)∧n<d07 (gz n len lv x q gA):=by
 unfold gz;split
 ·exact h
 ·split
  ·exact⟨⟨h.1.ol,h.1.eO⟩,h.2⟩
  ·exact R7 (Pr:=58 (nZ q∧n<302)) (fun b a aa=>awj aa) _ _ h
theorem aeE{sy:cv}{len:Nat}:∀(k n:Nat)(q:d3),nZ q→nZ (nf sy len k n q)
 |0,_,q,h=>h
 |k+1,n,q,h=>by
  unfold nf;split
  ·next ar=>refine aeE k (n+1) _ ?_;unfold qn;exact(R7 (Pr:=58 (nZ q∧n<302)) (fun b a aa=>awk aa) _ _ ⟨h,ar.1⟩).1
  ·exact h
theorem awl(sy:cv)(len:Nat)(x:06):nZ (kj sy len x):=by
 have h0:nZ o6:=119 (fun i o h=>by simp[o6]at h);unfold kj;split
 ·exact⟨h0.ol,h0.eO⟩
 ·exact aeE _ _ _ (h0.note (b35 (by cases hz)))
theorem aeF{x:06}:∀(ws:30)(k:Nat),x∈ws→ja (b95 (ws.zipIdx k) ((a36 p.1:cF),a37 p.2)) c71=71 (k+ws.idxOf x:Nat)
 |[],_,h=>806
 |y::ws,k,h=>by
  rw[aeG,eN];rw[A06 y x]
  ·subst e;rw[DL rfl,au2,Nat.add_zero]
  ·have eG:(y==x)=09:=566;rw[As (e66 (Jc (MN z))),aeF ws (k+1) ((569 h).resolve_left (e66 b25)),Uq,eG];simp only[cond_false];rw[Nat.add_assoc,tm 1]
theorem awm{x:06}{ws:30}(h:x∈ws):ja (mj ws) c71=71 (ws.idxOf x:Nat):=by have:=aeF ws 0 h;rw[qx]at this;exact this
theorem c2.rev{R:713}{a:40}{b:523}(h:c2 R a b):c2 R a.reverse b.reverse:=by induction h with|nil=>rw[A40]|cons r _ ih=>rw[NQ,NQ];exact ih.app (386 r)
structure aeH(H:av)(p:ag)(aD:27)(zs:035):04 where
 lst:H p=247 587
 hq:c2 (fun t(z:Nat×Nat)=>H t=294 [769,48 z.2]) aD zs
abbrev aeI:bK:=bA 0x39
theorem aeJ:31 [888,235,366,f23] i81 aeI:=⟨rfl,rfl,rfl,05,rfl,05,05⟩
inductive R8(C:ag)(vs:08)(H:av)(Q:aW)(E:bD):04|mk:∀(R:lR)(os:08)(q:d3)(x:06),vs=[.ref R.a,460]→hP C H R os q→nZ q→x∈887→302≤315→(∀H' p aD,49→aeH H' p aD (rt q x)→11 (rt q x)≤315→412)→R8 C vs H Q E
theorem awn(D:cq K ah "way_to" aeI i81 f fd)(R9:ah 500=00)(awo:ah 975=00)(M:tX K C):Pr P w K ah 02 aO 1 "way_to" i81 (R8 C):=by
 rw[A02 aeJ]
 ·obtain⟨R,os,q,x,rfl,_⟩:=h;rfl
 ·obtain⟨R,os,q,x,rfl,aw,eO,ai,I5,k⟩:=h;have S:=aeJ;have bp:=D1 aq;rw[A01 (90 2 556 (94 3 (a51 (Yo bp 59 62 630))) (239 (tG eL (bM tI (J 3) et (bO _)) (434 (fK (hD K rfl h9 sC sD qQ 45 (78 (oC (258 (e6 (oJ K rfl) 85 bu 630) (e6 (oJ K rfl) 85 bu 630)))))) (94 3 (a51 (e6 (oJ K rfl) 85 bu 630))))) (auE K rfl rfl R9 rfl awo 699)))];have R_:i67<302:=ady ai;have aeK:∀i,i<302→∃v o,os[i]?=54∧j22=25∧AV H v o∧m23 i=o:=618 (by
   have af:i<k66:=by rw[aw.ol,eO.ol];exact hi
   have ak:i<b34:=by rw[eO.ol];exact hi
   refine⟨_,_,cA af,cA ak,aw.ok i _ _ (cA af) (cA ak),?_⟩;rw[cZ,cA ak];rfl);rw[A33 263];rw[A63 [] au];have hE:∀{dM:av}{o:dz},786→aA H (upd dM p o):=fun{dM o:_}e b u z=>364 (110 z au) (e b u z);obtain⟨v,o,a3,a8,su,a4⟩:=aeK _ R_;have bg:=aw.same s1;refine⟨_,rfl,R.a,C,228,_,_,rfl,bg.at_,20,k65,O6,_,rfl,R.a,C,228,_,_,rfl,bg.at_,20,M.Ec,IT,_,rfl,368,48 (i67:Nat),rfl,.inl ⟨_,c71,.inl bg.nm,rfl,567 (awm ai)⟩,430,_,_,v,rfl,rfl,32 bg.oM,fm a3,?_⟩;rw[B72 (∃(i rb:Nat)(v:ae)(o:845)(aD:27)(zs:035),σ=[a72,494,444,54]∧49∧aeH H' p aD zs∧AV H v o∧i<rb∧i<302∧j22=25∧Cr d06 rb o o01=rt q x∧b33+i<315∧m=i) ⟨_,i67,302,v,o,[],[],rfl,s1,⟨aI,89⟩,su,R_,R_,a8,?_,?_,rfl⟩]
  ·rw[←a4];rfl
  ·show 0+_<315;lia
  rintro m σ aB⟨i,rb,v,o,aD,zs,rfl,s2,j4,su,yv,ua,a8,hw,ax,rfl⟩;obtain⟨rb,rfl⟩:∃f,rb=f+1:=b71 (rb-1)
  cases o with
   |none=>
    have e:v=.b4:=su;subst e;refine⟨_,rfl,rfl,_,rfl,b_ ⟨_,rfl,p,_,rfl,32 d05,fun l lL=>?_⟩⟩;have hw:o01=rt q x:=hw;rw[A87 (587).reverse lL];refine k _ l aD.reverse 686 (328 (by rw[aI,List.map_reverse])) ?_
    ·rw[←hw];exact j4.hq.rev.mono (fun t z h=>83 h)
    ·rw[←hw,auF];lia
   |some o=>
    obtain⟨t,rfl,bk⟩:=su;have cM:=eO.eO _ o a8;obtain⟨vr,dr,vD,ju,awp,KO⟩:=aeK o.1 03;have m5:=106 bk;refine⟨_,rfl,rfl,_,rfl,c8 ⟨_,a25,?_⟩⟩;refine⟨_,rfl,329 d05,_,rfl,t,_,_,k11,rfl,rfl,448 m5,e61 1,_,rfl,t,_,_,k00,rfl,rfl,448 m5,e61 2,338,c32⟩;have s3:=b05 [k11,k00];have sE:=83 d05;have awq:T≠p:=16 (by rw[z,j4.lst]at bR;cases bR);refine⟨p,_,_,rfl,rfl,sE,?_,?_⟩
    ·have:=j4.hq.len;rw[ba];rw[A14 (show 255 by lia)]
    ·have s4:aA H (34 (388 aB T [k11,k00]) p (587++[c51])):=hE 686;have fz:=aw.same s4;have p4:=103 bk;refine⟨_,rfl,R.a,C,228,_,_,rfl,fz.at_,20,k65,O6,_,rfl,t,_,_,48 o.1,rfl,rfl,448 p4,f02,430,_,_,vr,rfl,rfl,32 fz.oM,fm vD,o.1,cM,o.1,rb,vr,dr,aD++[T],zs++[o.2],rfl,s4,328 ?_,awp,03,03,ju,?_,?_,rfl⟩
     ·rw[A52];rfl
     ·refine e49 (j4.hq.mono (fun t z h=>?_)) ?_
      ·exact 553 (83 h) sE (83 h)
      ·exact 862 awq
     ·rw[List.reverse_append];have hw:Cr d06 rb (m23 o.1) (o.2::o01)=rt q x:=hw;rw[KO]at hw;exact hw
     ·rw[cn];show b33+1+_<315;lia
abbrev aeL:bK:=bA 0x87
theorem aeM:31 [36,731,235,f14,726,366,f13,974] f98 aeL:=⟨rfl,rfl,rfl,05,rfl,05,05⟩
inductive KP(CM:ag)(CS:ag)(vs:08)(H:av)(Q:aW)(E:bD):04|mk:∀(a:ag)(sy:cv)(z:Int)(x:06),vs=[38,489,460]→267→269→gx H Q (Cs sy z x)→KP CM CS vs H Q E
theorem awr(l:035):11 (u2 l)=2*63:=by
 unfold u2
 induction l with|nil=>rfl|cons a t ih=>rw[s9,cn,ih];show 2+_=2*(e95);lia
theorem aws(l:035)(z:917):u2 (l++[z])=u2 l++[649,15 z.2]:=by unfold u2;rw[w5];simp
theorem awt(D:cq K ah k62 aeL f98 f fd)(O:443)(M:tX K C)(A2:Pr P w K ah 02 aO 1 k64 433 (Jh CM CS))(A3:Pr P w K ah 02 aO 3 k63 433 (I7 CM CS C))(Sa:jb P w K ah 02 aO 1 C o00 251 (Pn C))(Sb:Pr P w K ah 02 aO 1 "way_to" i81 (R8 C)):Pr P w K ah 02 aO 4 k62 f98 (KP CM CS):=by
 rw[A02 aeM]
 ·obtain⟨a,sy,z,x,rfl,_⟩:=h;rfl
 ·obtain⟨a,sy,z,x,rfl,aY,g,k⟩:=h;have S:=aeM;have bp:=D1 aq;rw[A01 (90 3 (bj A2 22 bb (77 0 1 ay)) (318 (bM ka (J 3) bu (bO _)) 846) (90 4 (bj A3 22 bb (77 0 1 ay)) (318 (MT (anp bp 45 (633 4))) (78 (pE (348 (gv Sa 20 22 bb 327)) bu bu))) (90 5 (bj Sb 22 bb (77 4 2 ay)) (94 6 (a62 (d6 (hO K rfl) 66 O.len eJ (384 5)))) (239 (e_ eL rfl (339 463) (98 7 rfl 70) (a76 (hD K rfl h9 nK nL (aut K rfl) 868 (384 7)))) 868))))];refine⟨_,rfl,_,rfl,a,sy,z,rfl,aY,_,rfl,_,_,rfl,rfl,_,rfl,359⟩
  ·have h':954<0:=104;rw[Cs,21 h']at k;exact⟨_,rfl,371,367 (k _ p 116 au aI)⟩
  ·have h':¬954<0:=952;obtain⟨n,y,rfl,aU,aC⟩:=aat h';rw[Cs,23 h',aC]at k;refine⟨_,rfl,_,rfl,a,sy,n,y,rfl,aY,aC,g.st y aC,aU,g.cw,q11 ?_⟩;have e:kj sy (n:Int).toNat ((270).getD [])=kj sy n y:=rfl;rw[e]at k;have eO:=awl sy n y;generalize kj sy n y=q at af g1 k eO;unfold zr at k;refine⟨_,rfl,_,rfl,R.a,C,228,_,_,rfl,b32,20,M.Ec,IT,368,_,rfl,qW.k (k:=c71) af.nm,_,rfl,?_⟩;by_cases ai:x∈887
   ·rw[A54 ai];rw[ZY ai];rw[A21 ⟨_,rfl,_,rfl,R,os,q,x,rfl,af,eO,ai,g1.wl,fun aB p aD s2 j4 a6=>?_⟩];have ax:=j4.hq.len;generalize rt q x=zs at j4 ax a6 k;refine⟨_,rfl,p,_,rfl,306 d05,338,698⟩;rw[ba,ax];rw[A87 [372,48 b33] bk];have qc:=332;have v8:H t=00:=qc.free bk;have sE:=83 d05;have aB4:p≠t:=bT d05 bk;refine⟨_,rfl,p,rfl,223 sE,hN (K:=K) (a:=p) (xs:=587) (702 (σ=[248,610,494,601 (km sy 44),a72,444,531,v]∧c81∧H' t=79 (0::15 b33::u2 (zs.take i)))) ⟨00,rfl,s3,aI⟩ (fun i σ H' _⟨_,_,s4,_⟩=>g44 d05) ?_ ?_⟩
    ·rintro i y σ bP aC⟨v,rfl,s4,p4⟩;rw[A58];obtain⟨u,kT,rfl⟩:=pP.mp aC;obtain⟨z,hz,awu⟩:=j4.hq.get kT;have hi:=eI hz;refine⟨_,rfl,329 p4,_,rfl,t,u,_,_,rfl,rfl,p4,448 (103 awu),?_,_,rfl,k18,?_⟩
     ·rw[fa,dR,dR,awr,eS];exact gY (636 (_+2) _)
     ·rw[117 bk];exact 103 e
     ·rw[aI,dZ hz,aws];simp[aT]
    ·rintro σ bP⟨v,rfl,s4,p4⟩;rw[ba,ax,eK]at p4;rw[A15 (k bP t (qc.trans s4) v8 p4)]
   ·rw[A97 ai];rw[O_ ai];refine c8 ⟨_,rfl,R.a,228,_,rfl,b32,apm,R,os,q,rfl,af,_,rfl,?_⟩
    cases aa:(! q.op&&! 732)with|true=>rw[aa]at k;exact c8 (387 1 (k _ p 828 904 aI))|false=>rw[aa]at k;exact b_ (387 1 (k _ p 828 904 aI))
abbrev aeN:bK:=bA 0x85
theorem aeO:31 433 433 aeN:=⟨rfl,rfl,rfl,05,rfl,05,05⟩
theorem awv(D:cq K ah "way" aeN 433 f fd)(bJ:268)(Rl:220 n99 (-8))(BU:Pr P w K ah 02 aO 4 k62 f98 (KP CM CS)):Pr P w K ah 02 aO 5 "way" 433 (RR CM CS):=by
 rw[A02 aeO]
 ·rw[B75];rfl
 ·obtain⟨a,sy,z,rfl,cg,g,k⟩:=h;have S:=aeO;rw[A01 (239 (a49 (bM jX 59 et (bO _)) Rl) (bj BU 22 bb (77 0 1 010)))];rw[B35 cg];unfold Gm at k;refine⟨_,rfl,a,CS,dx,_,_,rfl,84,80,969,tU,rfl,_,rfl,?_⟩
  cases e:sy.goal with|none=>rw[e]at k;exact c8 (387 1 (k _ p 116 au aI))|some x=>rw[e]at k;rw[A21 ⟨_,rfl,_,rfl,_,rfl,a,CS,dx,_,_,rfl,84,80,969,tU,?_⟩];rw[e];exact⟨a,sy,z,x,rfl,cg,g,k⟩
abbrev aeP:bK:=bA 0x86
theorem aeQ:31 [36,731,886,235] j04 aeP:=⟨rfl,rfl,rfl,05,rfl,05,05⟩
theorem aww(D:cq K ah "reach" aeP j04 f fd)(t5:g09 12)(ml:Pr P w K ah 02 aO 2 d04 549 (yj K CM CS))(BU:Pr P w K ah 02 aO 4 k62 f98 (KP CM CS)):Pr P w K ah 02 aO 5 "reach" j04 (RS K CM CS):=by
 rw[A02 aeQ]
 ·obtain⟨a,c,sy,z,cs,rfl,_⟩:=h;rfl
 ·obtain⟨a,c,sy,z,cs,rfl,cg,g,ar,k⟩:=h;have S:=aeQ;rw[A01 (389 3 (bj ml 22 bb (77 0 2 ay)) (e35 3 t5) (437 BU 0 1 3))];rw[A41];refine⟨_,rfl,_,rfl,a,c,sy,cs,rfl,cg,ar,03,g90⟩;unfold Gn at k
  cases e:nd 75 cs with|none=>rw[e]at k;exact⟨_,rfl,rfl,_,rfl,c8 (387 1 (k _ p 828 904 aI))⟩|some x=>rw[e]at k;exact⟨_,rfl,rfl,_,rfl,b_ ⟨_,rfl,_,rfl,_,rfl,a,sy,z,x,rfl,519,g,fun H' p s2 mU au=>k H' p 332 (f22 mU) au⟩⟩
def n0(ns:10):Nat:=11 (ns.foldl (fun σ k=>13 (σ.any (·==k)) σ (σ++[k])) ([]:10))
def Sd(ns:10):482 Int:=450 ((firstMet (425 (g80 i)) 314).any (·==k))
theorem aAM(ns:10):690 314 (g80 i)=ns:=by
 refine 194 ?_;rw[cK];rw[A39 (i<314)]
 ·rw[sY h,cA h];show some (g80 i)=_;rw[cZ,cA h];rfl
 ·rw[187,140];rfl
theorem awx(ns:10):11 (firstMet (425 (g80 i)) 314)=n0 ns:=by unfold firstMet n0;rw[aAM];rfl
theorem awy:rS b30=some d75:=05
theorem awz:rS f21=some (399 f21):=05
theorem awA(K:bo)(cj:X.K=K)(ar:394:=by rfl):iy X d75 (k61 (∃(a:ag)(ns:10),xs=254∧063 a∧314<1000∧∀p,H p=00→664 (upd H p (.set (Sd ns) (n0 ns))))):=by
 rw[A60];subst cj;obtain⟨a,ns,rfl,aL,hz,q⟩:=h;rw[B33 aL];rw[cc.Dy r];have hi:Dx a0 ns:=cV.ints;have c4:b62=314:=by rw[gu];exact hi.length
 refine call_set_list 408 h51 k60 n98 n27;rw[c4,awx]at y;refine⟨277,_,f91 tk (351 (fC b o 105 e)) (show fx 61 X.w _ af _ (.set (Sd ns) (n0 ns))from y),rfl,q _ 684⟩
inductive aeR(xs:08)(H:av)(Q:aW):04|mk:∀p S n,xs=718→H p=some (.set S n)→662 n→aeR xs H Q
theorem awB:g77 aeR:=by
 rw[A60];obtain⟨p,S,n,rfl,au,q⟩:=h;rw[B08 r];rw[A07];obtain⟨o,aR,c0,tb,a8,hex,hd,_,_,aa,hf,aU⟩:=(88 (s.heap.SetOf (intKind 61 X.w) p S n) (613 p au));have e:52 d03=44:=by rw[aU]
 refine call_len_set a8 hex hd hf q10 ⟨.int n,H,(279).tok _,404 f20,q⟩
theorem awC(K:bo)(cj:X.K=K):iy X (399 f21) (NV K):=by subst cj;exact amk
theorem aeS{k:Nat}(af:1≤k)(a6:k≤3):b73 (600 k k) c66=061:=by match k,af,a6 with|1,_,_=>decide|2,_,_=>decide|3,_,_=>decide
theorem awD{k:Nat}(af:1≤k)(a6:k≤3):lj k 061:=by rw[←aeS af a6];intro r aq;have:=xo (ob.mp aq).1;exact this
theorem aeT{k:Nat}(af:1≤k)(a6:k≤3):11 061≤6:=by match k,af,a6 with|1,_,_=>decide|2,_,_=>decide|3,_,_=>decide
theorem c2.flat{CB:272}{R:713}{S:od→92 CB}{f:α→List od}{g:β→List CB}{a:40}{b:523}(h:c2 R a b)(k:∀x y,R x y→c2 S (f x) (g y)):c2 S (a.flatMap f) (b.flatMap g):=by induction h with|nil=>rw[A40]|cons r _ ih=>rw[s9,s9];exact(k _ _ r).app ih
theorem c2.rows{α β:272}{R:713}{cs:40}{ds:523}(h:c2 R cs ds):∀n,c2 (c2 R) 043 (dJ ds n)|0=>386 89|n+1=>(c2.rows h n).flat (fun x y CI=>h.map (fun c d _ r=>CI.app (386 r)))
theorem awE{r:08}{rows:30}(aN:H a=247 r)(x:c2 (f73 (v=e45∧H b=259 t)) r 17):∃bs,sN H a bs 17:=by
 have key:∀{r:08}{rows:30},c2 (f73 (v=e45∧H b=259 t)) r 17→∃bs,r=479∧c2 (fun b(t:List Nat)=>H b=259 t) bs 17:=by
  intro r rows x
  induction x with|nil=>rw[A44 [] 89]|cons h _ ih=>obtain⟨b,rfl,aa⟩:=h;obtain⟨bs,rfl,f7⟩:=ih;rw[A44 (b::bs) (.cons aa f7)]
 obtain⟨bs,rfl,f7⟩:=key x;refine⟨bs,aN,by rw[f7.len,ba],n34⟩;obtain⟨t,bk,aa⟩:=f7.get af;rw[cK,bk]at ak;have:a_ t=q:=cI ak;rw[A48];exact aa
structure TU(H:av)(p:ag)(as:27)(n1:List 30):04 where
 lst:H p=247 317
 h3:c2 (fun a rows=>∃bs,sN H a bs 17) as n1
theorem TU.get{H:av}{p:ag}{as:27}{n1:List 30}(h:TU H p as n1){i:Nat}{y:ae}(aC:f87=270):∃a rows bs,n1[i]?=some 17∧y=38∧sN H a bs 17:=by rw[cK]at aC;obtain⟨a,aN,rfl⟩:=pP.mp aC;obtain⟨rows,aq,bs,aa⟩:=h.h3.get aN;exact⟨a,17,bs,aq,rfl,aa⟩
theorem Se{α:272}[BEq α][n25]:∀{l r:40},c75 (645 (x∈r)→230≤63→l.Perm r)|[],r,_,_,h=>by have:r=[]:=List.eq_nil_of_length_eq_zero 967;rw[this]|x::l,r,az,aL,ax=>by have ai:=aL x 237;have C2:=e39;have ih:=Se (l:=l) (r:=r.erase x) C2.2 (085 ((ajG (fun(e:y=x)=>C2.1 (e▸aC))).mpr (aL y 923))) (by rw[ajH ai];rw[dR]at ax;lia);exact 35 (List.Perm.cons x ih) (567 (List.perm_cons_erase ai))
end
section
variable{A:rT}{C CM CS D a b c d dx f p t:ag}{E Q:aH→aZ→Prop}{F cm:List (List Nat)}{K:bo}{M:Model}{N ps:List Str}{P:f3}{fD:Pos}{S:ag→Prop}{T:String}{us vs:List aH}{aD as:List ag}{aG e:dn}{aR:Array Il}{acc:List (Str×ag)}{bx u:aH}{o:Obj}{ah dG:Str→Option aH}{az:Option ag}{b0 cR eh i j lv n:Nat}{base h:dk}{c_ ea g l ls row:List Nat}{cl:Str→Option ag}{cs ms r:List Int}{fd:k6}{x:Str}{outer:List Env}{own:List (Str×Nat)}{pl:Sem Bool}{q:Search}{s:dt}{sc:rp}{v:Word}{w:ff}{m:g0}{sy:cv}{xs ys:List ae}{y:ae}{H H' H1 aB:av}{qV:av→Prop}{c7 g7 h5:ct}{tt:j6}{CX:pJ}{sp:mM}{z:Nat×hr}
theorem awF{k:Nat}{row:10}(ax:h45=k)(au:ms.Perm row)(aL:ms.Pairwise n97):ms=763↔u_ k row=01:=by
 have Sf:668 763:=q05 (awG (n:=k)) (this.imp (fun h e=>h 03));have awH:(763).Pairwise n97:=by unfold b6;rw[Mn];exact(List.pairwise_lt_range (n:=k)).imp (312 03)
 unfold u_;rw[hG,beq_iff_eq,gB];rw[A04]
 ·intro e;subst e;rw[A03 ax e31];rw[xi];exact au.subset (143 i hi)
 ·rintro⟨_,dQ⟩;have aeU:∀x∈763,x∈row:=276 (n89 171 (xi.mp (dQ i hi)));have pm:(763).Perm row:=by refine Se Sf aeU ?_;rw[ax];unfold b6;rw[ba,iP];exact 64
  exact List.Perm.eq_of_pairwise (fun a b _ _ af ak=>Int.le_antisymm af ak) aL awH (au.trans pm.symm)
theorem awI{lo c:Int}{g:iv}{vs:06}{σ:bq}(Pv:599)(h0:Pv 0 696)(aL:∀i H,i<n→617→g (.int (lo+(i:Nat)*c)) 297 H (fun c6 aB=>709=297∧tt c6 aB (fun b a5=>39 b (c7 c6 a5 (fun y bP=>∃acc,bP D=701∧707∧e77 (i+1) [y])) (Pv (i+1) a5))))(hd:∀H,Pv n H→qV H):∃W:240 599,(∃m,W 0 m 696)∧∀i m H,W i m H→(800 (DP lo c n)∧qV H)∨((DP lo c n).go i H∧∃hh:856,(c58 (eg<m∧W (i+1) eg H'))∧∀x H',(DP lo c n).mL i H x H'→g x 297 H' (fun c6 aB=>709=297∧c88 b (bP D=701∧707∧c29 [y]))):=by
 rw[B12 (m=n-i∧i≤n∧617) ⟨n,567 (Nat.sub_zero n),d_ n,h0⟩];rw[B20];by_cases cM:i<n
 ·refine .inr ⟨cM,361,fun H' q=>⟨n-(i+1),03,rfl,03,q⟩,?_⟩;rintro y H'⟨rfl,rfl⟩;exact aL i _ cM p
 ·rw[A50 (i=n)];subst e;rw[A23 (cL i) (hd H p)]
theorem awJ{k:Nat}(af:1≤k)(bH:k≤4)(aU:n≤4):Yu 0 (52 (n*k)) 82 n:=by
 have G3:n*k≤377:=478 (wa aU bH);have aq:z6 0 (52 (n*k)) 82=44:=by
  unfold z6;rw[21 (show 82>0 by lia)];by_cases h0:n=0
  ·subst h0;rw[124];rfl
  ·have au:1≤n*k:=UK 03 03;rw[118];have e:52 (n*k)-0-1=(82-1)+(44-1)*82:=by rw[u6,Int.sub_mul];lia
   rw[e,auK _ _ 03,auL 03 03];lia
 refine⟨03,03,?_,aq⟩;have f:∀z:Int,-0x64≤z→z≤0x64→PL z=01:=fun z a b=>by unfold PL;rw[145,145];rfl
 unfold Oo;rw[aq,180 0,180 (52 (n*k)),180 82,180 44,21 (show 82>0 by lia),180 (52 (n*k)+(82-1)),ac0];rfl
theorem Sg{K:bo}{H:av}:∀L:10,tN K H (L.map b31) (L.map kI)|[]=>89|x::l=>.cons (.int x) (Sg l)
theorem awK(r:10):wc f72=01∧wd f72=0:=by induction r with|nil=>rw[C13]|cons x y ih=>exact⟨by simp[wc,Jz,ih.1],by simp[wd,JA,ih.2]⟩
theorem ahq(r:10):vK m05=01:=by unfold vK;have:=awK r;simp[Jz,JA,183,this.2]
theorem awL:∀a b:10,vL (q5 (a.map kI)) (q5 (b.map kI))=29 (a=b):=by
 have key:∀a b:10,EH (a.map kI) (b.map kI)=29 (a=b):=by
  intro a
  induction a with
   |nil=>intro b;cases b<;>simp[EH]
   |cons x t ih=>
    intro b
    cases b with
     |nil=>simp[EH]
     |cons y u=>
      simp only[eN,EH,vL,ih];rw[A06 x y]
      ·subst e;simp
      ·simp[e]
 intro a b;simp only[vL,key]
abbrev Sh:bK:=bA 0x62
theorem aeV:31 [36,623,243,h49] 585 Sh:=⟨rfl,rfl,rfl,05,rfl,05,05⟩
inductive FE(CM:ag)(CS:ag)(vs:08)(H:av)(Q:aW)(E:bD):04|mk:q09 (vs=349 (48 k)→267→269→1≤k→k≤3→(n96 (49→TU H' p as a85→412))→FE CM CS vs H Q E)
theorem awM(D:cq K ah h47 Sh 585 f fd)(O:347)(Os:ah b30=00)(bJ:268)(nN:Pr P w K ah 02 aO 1 f18 c24 (A8 K)):Pr P w K ah 02 aO 2 h47 585 (FE CM CS):=by
 rw[A02 aeV]
 ·rw[C94];rfl
 ·obtain⟨a,sy,k,rfl,cg,g,af,a6,b0⟩:=h;have S:=aeV;rw[A01 (239 (qT (i:=3) rfl 242 rfl rfl 876 (339 (552 nN 1 (l_ h19 66 O.list Ba (78 (l_ Et 66 971 xS 296))))) (own:=[(243,2)]) (295 [36,623,243,h49] Sh) g98 (e46 (bM fv (d6 awB 66 O.len eJ (78 (l_ (awA K rfl) 66 Os awy 699))) 62 (bO _))) (286 45)) (926 nN 017 846))];rw[A41];refine⟨_,rfl,_,rfl,82,rfl,g82⟩;have s1:=964 (.pz 0 82) rL;refine⟨t9,k,rfl,aI,03,g87⟩;have s2:=593 944 jz;refine⟨cl,k,a_ 944,rfl,e42,03,p91,618 (p90 (Jq 03 03)),fun a5 p as s3 h2=>?_⟩;have i0:dJ (a_ 944) k=(600 k k).map a_:=CN j80 944 k;rw[i0]at h2;have uw:=e73;have aeW:=aeS af a6;have mem:565 (600 k k) (230=k):=725 (xo aq).1;have jg:11 (600 k k)≤0x1b:=by match k,af,a6 with|1,_,_=>decide|2,_,_=>decide|3,_,_=>decide
  generalize 600 k k=KQ at h2 aeW mem jg;refine⟨p,rfl,223 h50,436⟩;refine kC (K:=K) (a:=p) (xs:=317) (877 (∃cs:27,480 a5∧H' D=247 634∧c2 (fun c(t:List Nat)=>a5 c=259 t) cs (b73 n36 c66))) ⟨[],833,aI,89⟩ (fun j H' _⟨_,s4,_⟩=>g44 h50) ?_ ?_
  ·rintro j y bP aC⟨cs,s4,KR,iD⟩;obtain⟨c,cV,ar,FF,rfl,eM⟩:=h2.get aC;rw[cK]at FF;obtain⟨r,c1,rfl⟩:=pP.mp FF;have v9:=mem r e65;have bS:=eI c1;refine⟨rfl,_,rfl,c,b6 r,rfl,32 (by rw[←sG];exact 103 eM),by rw[nM];lia,330 ⟨q,_,_,rfl,aI,_,rfl,rfl,_,rfl,?_⟩⟩;rw[kH];have eG:762 (i89:Nat) 82=c66:=by
    rw[A06 i89 k]
    ·rw[190,145]
    ·rw[132,133]
   rw[eG];have s5:=964 (.set (Sd (b6 r)) i89) aw;have gC:∀b,c66=b→b73 (KQ.take (j+1)) c66=b73 n36 c66++(39 b [r] []):=i27 (dZ c1);have aB5:=iD.len;have FG:=tR (429 c66) n36;rw[eS]at FG;refine eo 486 486
   ·refine⟨_,rfl,_,s5 _ _ KR,?_,cs++[c],924,?_,?_⟩
    ·rw[ba];rw[A14 (show 255 by lia)]
    ·rw[110 z cO];exact s5 _ _ (103 z)
    ·rw[A52];rfl
    ·rw[gC 01 aa];exact iD.app (386 eM)
   ·rw[gC 09 aa];rw[C08 cs g21 (s5 _ _ KR)]
  ·rintro bP⟨cs,s4,KR,iD⟩;rw[ba,h2.len,ba,eK,aeW]at iD;have mV:=n16;rw[B19 (622 mV)];have hlen:=iD.len;have iT:=aeT af a6;refine⟨_,rfl,a,CS,dx,_,_,rfl,84,80,727,mg,_,rfl,b82,_,rfl,?_⟩;rw[dB];refine⟨D,81,634,rfl,32 KR,03,by rw[ba];lia,618 (n95 (Jq 03 03)),fun de q dg s5 iw=>b0 de q dg j07 ?_⟩;have cH:c2 (f73 (v=e45∧de b=259 t)) 634 061:=by have:=iD.map (f:=502) (g:=id) (S:=f73 (v=e45∧de b=259 t)) (fun c t _ h=>⟨c,rfl,s5 _ _ (103 h)⟩);rwa[CO]at this
   have di:=cH.rows 81;rw[←Mj]at di;rw[A27 iw.lst];have key:∀(dg:27)(eV:g86)(n1:List 30),n57=eV.length→(d61 08 (dg[i]?=533) (eV[i]?=447→de a=247 r))→c2 (c2 (f73 (v=e45∧de b=259 t))) eV n1→c2 (fun a rows=>∃bs,sN de a bs 17) dg n1:=by
    intro dg
    induction dg with
     |nil=>
      intro eV n1 ax _ ai
      cases eV with|nil=>cases ai;rw[A40]|cons _ _=>cases ax
     |cons q dg ih=>
      intro eV n1 ax eM ai
      cases eV with|nil=>cases ax|cons r eV=>cases ai with|cons h0 bk=>exact .cons (awE (eM 0 q r rfl rfl) h0) (ih eV _ k36 (d02 (eM (i+1) a r af ak)) bk)
   exact key dg _ _ iw.len iw.row di
abbrev Si:bK:=bA 0x66
theorem aeX:31 588 585 Si:=⟨rfl,rfl,rfl,05,rfl,05,05⟩
inductive Sj(CM:ag)(CS:ag)(vs:08)(H:av)(Q:aW)(E:bD):04|mk:q09 (vs=349 (48 k)→267→269→wF sy→1≤k→k≤3→(∀H' p xs,49→416=526→57=11 (582 a85 (fun aD=>545 (jL sy k aD)))→412)→Sj CM CS vs H Q E)
theorem aeY{k:Nat}(af:1≤k)(a6:k≤3){aD:30}(h:aD∈mE k n):n94=n∧lj k aD:=by
 rw[Mj]at h;rw[A03 (yD h) c23];have key:∀{n:Nat}{aD:30},aD∈dJ 061 n→∀r∈aD,r∈061:=by
  intro n
  induction n with
   |zero=>intro aD h r aq;rw[86 h]at aq;cases aq
   |succ n ih=>
    intro aD h r aq;obtain⟨q,aw,awN⟩:=ni.mp h;obtain⟨c,ar,rfl⟩:=112 awN;rcases 362 aq with aq|aq
    ·exact ih aw r aq
    ·rw[86 aq];exact ar
 exact awD af a6 r (key h r aq)
theorem awO{k:Nat}(af:1≤k)(a6:k≤3)(aU:n≤4):11 (mE k n)≤1296:=by
 rw[Mj,Jp];have:=aeT af a6;calc
  (ti k).length^n≤6^n:=Jr this n
  _≤6^4:=A9 (by decide) aU
  _=1296:=by decide
theorem awP(D:cq K ah n93 Si 585 f fd)(uF:Pr P w K ah 02 aO 2 h47 585 (FE CM CS))(uG:Pr P w K ah 02 aO 3 h44 588 (Fp CM CS)):Pr P w K ah 02 aO 4 n93 585 (Sj CM CS):=by
 rw[A02 aeX]
 ·rw[C94];rfl
 ·obtain⟨a,sy,k,rfl,cg,g,iI,af,a6,b0⟩:=h;have S:=aeX;rw[A01 (65 (k9 rfl 242 (339 (bj uF 22 bb (77 0 1 ay))) (own:=[(540,2)]) (295 588 Si) g98 (e46 (bM jX (437 uG 0 1 2) et (bO _))) (286 45)))];rw[A41];refine⟨_,rfl,_,rfl,a,sy,k,rfl,cg,g,af,a6,q07 ⟨p,rfl,223 h46,436⟩⟩;have mem:∀aD∈a85,m71∧lj k aD:=fun aD h=>aeY af a6 h;have yR:=awO af a6 bH;generalize a85=n1 at bR mem yR b0;refine kC (K:=K) (a:=p) (xs:=317) (877 (∃xs:08,a94∧H' D=526∧57=11 (582 n30 (fun aD=>545 (jL sy k aD))))) ⟨[],833,aI,rfl⟩ (fun j H' _⟨_,s2,_⟩=>32 (s2 _ _ h46)) ?_ ?_
  ·rintro j y aB aC⟨xs,s2,fp,ai⟩;rw[C92 (bR.get aC)];obtain⟨hx,ip⟩:=mem 17 (cG y4);have FG:=tR (fun aD=>545 (jL sy k aD)) n30;rw[eS]at FG;have gC:∀b,545 (jL sy k 17)=b→582 (n1.take (j+1)) (fun aD=>545 (jL sy k aD))=582 n30 (fun aD=>545 (jL sy k aD))++(39 b [17] []):=i27 (dZ y4);refine⟨rfl,_,rfl,_,rfl,_,rfl,a,b,sy,bs,17,k,rfl,(519).same s2,g,iI,cH.same s2,hx,ip,03,fun e7 a5 s3=>?_,fun i aR a5 s3=>?_⟩
   ·refine⟨rfl,_,rfl,c8 ⟨_,rfl,_,83 fp,fL (show _≤2000 by lia) 14,xs++[281],g89,aI,?_⟩⟩
    ·rw[110 z cO];exact 83 (s2 _ _ z)
    ·rw[gC 01 n81,cn,cn,ai];rfl
   ·refine⟨rfl,_,rfl,b_ ⟨xs,686,83 fp,?_⟩⟩;rw[gC 09 n80,ai];simp
  ·rintro aB⟨xs,s2,fp,ai⟩;rw[ba,bR.h3.len,eK]at ai;exact b0 aB D xs 332 fp ai
abbrev aeZ:bK:=bA 0x8b
theorem ae0:31 585 585 aeZ:=⟨rfl,rfl,rfl,05,rfl,05,05⟩
inductive Sk(CM:ag)(CS:ag)(vs:08)(H:av)(Q:aW)(E:bD):04|mk:i64 (vs=349 489) (267→269→wF sy→gx H Q (GI sy z)→Sk CM CS vs H Q E)
theorem awQ(D:cq K ah h49 aeZ 585 f fd)(O:347)(awR:220 q08 3)(yB:220 i24 (-7))(uF:Pr P w K ah 02 aO 2 h47 585 (FE CM CS))(Sl:Pr P w K ah 02 aO 4 n93 585 (Sj CM CS)):Pr P w K ah 02 aO 5 h49 585 (Sk CM CS):=by
 rw[A02 ae0]
 ·rw[B75];rfl
 ·obtain⟨a,sy,z,rfl,cg,g,iI,k⟩:=h;have S:=ae0;rw[A01 (239 (a49 (rW (bM ka (J 1) bu (bO _)) (rV (bM oA (J 1) (dq awR) (bO _)))).pt yB) (cN (aj bu (258 (d6 (hO K rfl) 66 O.len eJ (78 (bj uF 22 bb (77 0 1 ay)))) (d6 (hO K rfl) 66 O.len eJ (78 (bj Sl 22 bb (77 0 1 ay))))))))];unfold GI at k;refine⟨_,rfl,_,_,rfl,rfl,_,rfl,359⟩
  ·rw[A54 (.inl 104)];exact c8 (387 1 (k _ p 116 au aI))
  ·have h:¬z<1:=952;refine⟨_,rfl,_,_,rfl,rfl,_,rfl,eb 642 642⟩
   ·rw[A54 (.inr d45)];exact 387 1 (k _ p 116 au aI)
   ·have ak:¬3<z:=58 (ak i54);rw[124]at k;rw[B69 (z=44) j05];rw[kA]at k;refine⟨_,rfl,_,rfl,a,sy,n,rfl,cg,g,03,03,q07 ⟨p,_,rfl,306 h46,?_⟩⟩;rw[ba,bR.h3.len];refine⟨_,rfl,_,rfl,a,sy,n,rfl,519,g,iI,03,03,fun aB q xs s2 aw ai=>⟨q,_,rfl,306 aw,895 3,698⟩⟩;rw[ai];exact k _ t (d39 n19) ((332).free bk) aI
theorem Pr.imp{P:f3}{w:ff}{K:bo}{ah:261}{base:dk}{CX:pJ}{k:Nat}{x:Str}{ps:225}{sp Dt:mM}(h:Pr P w K ah 02 CX k x ps sp)(i:e08 (Dt vs H Q E) (sp vs H Q E)):Pr P w K ah 02 CX k x ps Dt:=h48 ⟨f,fd,a,b,c,d.imp i⟩
theorem ae1{k:Nat}:∀l:30,(k55 (230=k))→n92=63*k|[],_=>19|a::l,h=>by rw[qs,cn,ae1 l (725 (h r (d4 _ aq))),127 a,dR,pq,pv,tm]
theorem awS(l:30)(r:06):b6 (541 (l++[r]))=b6 n91++b6 r:=by rw[Cq];unfold b6;rw[d5];simp
theorem awT{f:06→06→10}(h:790<0):rC sy f=[790]:=by
 rcases m62 f with⟨_,ak⟩|⟨af,_⟩
 ·exact ak
 ·lia
theorem ae2(h:¬790<0):d01 (034∧673=270∧∀f,rC sy f=f x y):=by
 rcases m62 (k59 [])with⟨af,_⟩|⟨af,x,y,ex,f6,_⟩
 ·exact 69 af h
 ·refine⟨x,y,ex,f6,fun f=>?_⟩;unfold rC;rw[ex,f6]
abbrev ae3:bK:=bA 0x67
theorem ae4:488 588 ae3:=⟨rfl,rfl,rfl,05,rfl,05,05⟩
inductive Sm(CM:ag)(CS:ag)(vs:08)(H:av)(Q:aW)(E:bD):04|mk:q06 06 (vs=254→267→269→wF sy→034→673=270→(zK sy x y=00→847)→(∀z,zK sy x y=415→∀H' t p bs,49→H' t=294 [769,280]→sN H' p bs z.2→h39=81→lj z.1 z.2→z.1≤3→435 t)→Sm CM CS vs H Q E)
theorem awU{KS:ag}(D:cq K ah n90 ae3 50 f fd)(awV:d7 ah n50 (.ref KS))(dH:∀H,dX K H KS (a_ [2,3]))(uF:Pr P w K ah 02 aO 2 h47 585 (FE CM CS))(uG:Pr P w K ah 02 aO 3 h44 588 (Fp CM CS))(BV:Pr P w K ah 02 aO 3 k54 588 (Kq CM CS)):Pr P w K ah 02 aO 4 n90 50 (Sm CM CS):=by
 rw[A02 ae4]
 ·rw[C93];rfl
 ·obtain⟨a,sy,x,y,rfl,cg,g,iI,ex,f6,eE,cS⟩:=h;have S:=ae4;rw[A01 (239 (e_ eL rfl (IE K rfl (dq awV)) (98 1 rfl 70) (aM (712 (bj uF 22 bb (77 0 1 ay)) 2 (vu (348 (437 BV 0 1 2)) (xM (bM jX (437 uG 0 1 2) et (bO _)))).pt (oC (462 1 2))))) et)];unfold zK at eE cS;refine⟨KS,rfl,404 (dH _),M6 (K:=K) (a:=KS) (xs:=a_ [2,3]) (505 (∃v1 v2:93,σ=[248,v1,v2]∧49∧a67 (([2,3]:06).take i) (450 ((g31 a85 (apart 75 aD k x y&&545 (jL sy k aD))).map (fun aD=>(k,aD)))))) ⟨00,00,rfl,518,rfl⟩ (fun i σ H' _ _=>dH H') ?_ ?_⟩
  ·rintro i v σ H1 a3⟨v1,v2,rfl,s1,cy⟩;obtain⟨k,aS,rfl⟩:=vY a3;have wD:1≤k∧k≤3:=by have:k∈([2,3]:06):=cG aS;have dQ:∀k∈([2,3]:06),1≤k∧k≤3:=14;exact dQ k 246
   have mem:∀aD∈a85,m71∧lj k aD:=fun aD h=>aeY wD.1 wD.2 h;refine⟨_,rfl,_,rfl,a,sy,k,rfl,519,g,wD.1,wD.2,fun aB p as s2 bR=>⟨p,rfl,223 h46,hN (K:=K) (a:=p) (xs:=317) (f16 (∃v2:93,σ=[248,71 k,v2]∧c81∧g31 (528 a85) (apart 75 aD k x y&&545 (jL sy k aD))=00)) ⟨_,rfl,j32,rfl⟩ (fun j σ H' _⟨_,_,s3,_⟩=>32 (s3 _ _ h46)) ?_ ?_⟩⟩
   ·rintro j u σ a5 bp⟨v2,rfl,s3,n2⟩;rw[C92 (bR.get bp)];obtain⟨hx,ip⟩:=mem 17 (cG y4);have oX:=e73;refine⟨_,rfl,_,rfl,_,rfl,a,b,sy,bs,17,k,x,y,rfl,622 oX,g,iI,g39,hx,ip,03,ex,f6,k58 (123 (eo (fun y5=>?_) (fun y5=>?_)))⟩
    ·refine⟨_,rfl,_,rfl,_,rfl,a,b,sy,bs,17,k,rfl,(622 oX).same s4,g,iI,(g39).same s4,hx,ip,03,fun e7 de s5=>?_,fun q aR de s5=>?_⟩
     ·refine⟨rfl,_,rfl,c8 ⟨_,rfl,_,rfl,338,698⟩⟩;have cW:=822 [48 k,281] bk;exact cS (k,rows) (Fn aS cy (b27 (Fm y4 n2 (by rw[y5,e7];rfl)))) _ t b bs (547 (k48 s4) s5 cW) aI ((((g39).same s4).same s5).same cW) hx ip wD.2
     ·exact⟨rfl,_,rfl,b_ ⟨_,rfl,35 b87 s5,y0 y4 n2 (by rw[y5,aR];rfl)⟩⟩
    ·exact b_ ⟨_,rfl,b87,y0 y4 n2 (by rw[y5];rfl)⟩
   ·rintro σ a5⟨v2,rfl,s3,n2⟩;rw[ba,bR.h3.len,eK]at n2;exact⟨_,_,rfl,e73,BJ aS cy (by rw[n2];rfl)⟩
  ·rw[C89];exact eE cy H1 s1
abbrev ae5:bK:=bA 0x8c
theorem ae6:488 [36,f14,726,f13,243] ae5:=⟨rfl,rfl,rfl,05,rfl,05,05⟩
inductive Sn(CM:ag)(CS:ag)(vs:08)(H:av)(Q:aW)(E:bD):04|mk:749 (vs=254) (267→269→wF sy→gx H Q (GJ sy)→Sn CM CS vs H Q E)
theorem awW(D:cq K ah "turned" ae5 50 f fd)(m6:Pr P w K ah 02 aO 1 c97 50 (yZ CM CS))(So:Pr P w K ah 02 aO 4 n90 50 (Sm CM CS)):Pr P w K ah 02 aO 5 "turned" 50 (Sn CM CS):=by
 rw[A02 ae6]
 ·rw[A59];rfl
 ·obtain⟨a,sy,rfl,cg,g,iI,k⟩:=h;have S:=ae6;rw[A01 (90 1 (340 m6) (318 (bM ka (J 1) bu (bO _)) 296) (90 2 (340 So) (318 (bM jX (J 2) et (bO _)) 755) (389 3 (a62 c63) (e_ eL rfl (339 c63) (98 4 rfl 70) (a76 (hD K rfl h9 nK nL nE 85 (384 4)))) 85)))];rw[A41];unfold GJ at k;refine⟨_,rfl,a,sy,rfl,cg,_,rfl,_,_,rfl,rfl,_,rfl,359⟩
  ·rw[awT 104]at k;exact⟨_,rfl,371,367 (k _ p 116 au aI)⟩
  ·obtain⟨x,y,ex,f6,aa⟩:=ae2 (sy:=sy) (152 z);rw[aa]at k;refine⟨_,rfl,a,sy,x,y,rfl,cg,g,iI,ex,f6,c11,fun z aR H1 t p bs s1 bk cH Oz ae7 EN=>?_⟩
   ·rw[e7]at k;exact⟨_,rfl,rfl,_,rfl,c8 (387 1 (k _ p 828 904 aI))⟩
   ·rw[aR]at k;have k:gx H Q (0::649::m58):=k;refine⟨_,rfl,rfl,_,rfl,b_ ⟨_,rfl,t,_,_,769,rfl,rfl,g85,f02,338,458⟩⟩;rw[A77 [372,769] aw];have aaR:H q=00:=f22 aw;refine⟨_,rfl,t,_,_,280,rfl,rfl,448 (106 bk),e61 1,p,rfl,223 (106 d00),hN (K:=K) (a:=p) (xs:=479) (702 (σ=[248,601 790,531,874,v]∧a94∧H' q=79 (0::649::b6 (541 (z.2.take i))))) ⟨00,rfl,s2,aI⟩ (l78 _ _ d00) ?_ ?_⟩
    ·rintro i v σ a5 a3⟨w,rfl,s3,wx⟩;obtain⟨b,cV,aa,FF,rfl,eM⟩:=cH.get a3;rw[cK]at FF;obtain⟨r,c1,rfl⟩:=pP.mp FF;have v9:=(ae7 r e65).1;have FG:=ae1 (k:=z.1) (z.2.take i) (725 (ae7 r (qp aq)).1);have hi:=eI c1;rw[eS]at FG;have hm:min i h39*z.1≤4*3:=wa 03 EN;refine⟨_,rfl,329 wx,_,rfl,q,b,_,_,rfl,rfl,wx,83 eM,?_,_,rfl,k57 ?_,?_⟩
     ·rw[fa,hn,dR,dR,nM];rw[A56]
     ·rw[117 aw];exact 83 e
     ·rw[aI,sG,Jg,dZ c1,awS];rfl
    ·rintro σ a5⟨w,rfl,s3,wx⟩;rw[ba,cH.len,ba,eK]at wx;rw[A15 (k a5 q j09 aaR wx)]
abbrev Sp:bK:=bA 535
theorem ae8:31 [36,623,381,226,540,243] a21 Sp:=⟨rfl,rfl,rfl,05,rfl,05,05⟩
inductive Sq(CM:ag)(CS:ag)(vs:08)(H:av)(Q:aW)(E:bD):04|mk:∀(a c:ag)(sy:cv)(k:Nat)(x:10),vs=[38,48 k,655]→267→269→H c=79 x→1≤k→k≤4→(xh 81 k x=00→847)→(∀aD,xh 81 k x=some aD→k56 (49→sN H' p bs aD→m71→lj k aD→412))→Sq CM CS vs H Q E
theorem awX{k:Nat}{row:10}(h:u_ k row=01):h45=k∧aT row=a_ (d8 row)∧539 (d8 row) (q<k):=by
 have h0:=h;unfold u_ at h;rw[hG,beq_iff_eq,gB]at h;have Sf:668 763:=q05 (awG (n:=k)) (this.imp (fun h e=>h 03));have pm:(763).Perm row:=by
  refine Se Sf 333 ?_
  ·rw[B74 171];exact xi.mp (h.2 i hi)
  ·rw[h.1,nM,iP];exact 64
 have mem:∀x∈row,∃i,i<k∧x=249:=276 (n89 (112 (pm.symm.subset ai)) (715 i a41));refine⟨h.1,?_,458⟩
 ·unfold aT a_ d8;rw[gP];refine lz 333;obtain⟨i,_,rfl⟩:=mem x ai;rfl
 ·rw[B38 aw];rw[B74 (mem x ai)];exact hi
theorem awY(D:cq K ah n87 Sp a21 f fd)(O:347)(awZ:ah f21=00)(bJ:268):Pr P w K ah 02 aO 1 n87 a21 (Sq CM CS):=by
 rw[A02 ae8]
 ·obtain⟨a,c,sy,k,x,rfl,_⟩:=h;rfl
 ·obtain⟨a,c,sy,k,x,rfl,⟨dx,ls,BH,aY⟩,g,ar,af,bH,eE,cS⟩:=h;have S:=ae8;rw[A01 (aF (bX (bM k4 (d6 (hO K rfl) 66 O.len eJ 699) (eu vB 62 017) (bO _)) (65 et) b2) (aF (qT (i:=4) rfl 242 rfl rfl 876 (anE rfl 971 (aj bu (aj (d6 (hO K rfl) 66 O.len eJ 699) 296))) (own:=[(226,3)]) (295 [36,623,381,226,540,243] Sp) 927 369 (286 (pM b17 45 (ma 85) (ma (eu qH 85 62))))) (239 (712 327 5 (bM (asH K rfl f05) (d6 (awC K rfl) 66 awZ awz (384 5)) (l_ h19 66 O.list Ba (78 (l_ Et 66 971 xS 296))) (bO _)) et) 327)))];have jn:=g.jm;unfold xh at eE cS;refine⟨_,rfl,c,_,rfl,306 ar,_,rfl,_,rfl,a,CS,dx,_,_,rfl,84,80,727,mg,_,rfl,b82,_,_,rfl,rfl,.inl m27,rfl,_,rfl,?_⟩;rw[kH,fa,dB];generalize sy.letters.length=n at jn eE cS;have em:(82*44)=52 (n*k):=by rw[u6,w7]
  rw[em];refine eo a61 a61
  ·have ai:¬96=n*k:=16 (by rw[z,167]at d9;cases d9);refine eE ?_ H 518;rw[A11];rw[if_neg];simp[ai]
  ·have ai:96=n*k:=p93 (nk 522) 133;refine⟨_,rfl,c,_,rfl,306 ar,_,rfl,0,52 (n*k),82,n,by rw[fa,ai],awJ af bH jn,436⟩;have ae9:∀i,i<n→i*k+k≤96:=618 (q04 ((i+1)*k≤n*k) (CJ _ hi));refine awI (lo:=0) (c:=82) (n:=n) (885 (∃bs:27,49∧H' D=036∧(∀b∈bs,b≠D)∧m35 (244=716) bs (690 i (550 (i*k) k)))) ⟨[],833,aI,19,89⟩ ?_ ?_
   ·rintro i aB hi⟨bs,s2,fp,nb,f7⟩;have hlen:=f7.len;rw[ba,iP]at hlen;rw[show 413+(i:Nat)*82=52 (i*k)by rw[u6];lia];refine⟨rfl,_,rfl,_,rfl,_,rfl,_,rfl,_,rfl,_,_,rfl,rfl,_,rfl,c,_,rfl,32 (s2 _ _ ar),263⟩;have s8:=Zy (xs:=aT x) (i:=i*k) (n:=k) (n88 (ae9 i hi)) (z:=52 (i*k)) (u:=52 (i*k)+82) rfl 03;have hg:221 (473 (aT x) (i*k)) k=aT (550 (i*k) k):=by unfold aT;rw[wR,uX]
    rw[s8,hg];rw[A87 (aT (550 (i*k) k)) au];have FH:p≠D:=16 p99;refine⟨_,83 fp,?_,bs++[p],924,?_,773,?_⟩
    ·rw[ba];rw[A14 (show 255 by lia)]
    ·rw[110 z cO];exact 83 (s2 _ _ z)
    ·rw[A52];rfl
    ·rcases 362 aa with aa|aa
     ·exact nb b aa
     ·rw[86 aa];exact FH
    ·rw[ru,d5];refine c2.app ?_ (386 (862 FH));have key:∀(cs:27)(eV:99),(∀b∈cs,b≠D)→m35 (aB b=716) cs eV→m35 (334 (521 aB p (550 (i*k) k)) D (479++[882 p]) b=716) cs eV:=by
      intro cs eV aU h
      induction h with|nil=>rw[A40]|cons r _ ih=>exact .cons (41 (aU _ 237) (83 r)) (ih (350 (aU b (d4 _ aa))))
     exact key bs _ nb f7
   ·rintro aB⟨bs,s2,fp,nb,f7⟩;generalize c4:(690 n (550 (i*k) k))=l at f7 eE cS;have dp:k55 (230=k):=725 (by rw[←c4]at aq;obtain⟨i,hi,rfl⟩:=147;have:=ae9 i a41;rw[eS,fV];lia);have aw0:63=n:=by rw[←c4,ba,iP]
    have Sr:(96==n*k)=01:=by rw[ai];exact 175
    refine⟨_,rfl,D,rfl,223 fp,hN (K:=K) (a:=D) (xs:=479) (505 (∃fb ew:93,σ=[248,71 k,959,fb,46 D,ew]∧c81∧(648).all (u_ k)=01)) ⟨_,00,rfl,j32,rfl⟩ (l73 _ _ fp) ?_ ?_⟩
    ·rintro i v σ a5 a3⟨fb,ew,rfl,s3,dQ⟩;rw[cK]at a3;rw[B62 a3];obtain⟨row,eM,kR⟩:=f7.get aa;have v9:=dp row (cG eM);refine⟨_,rfl,b,row,rfl,32 (s3 _ _ kR),03,fun ms p aw1 gq au=>?_⟩;have s4:=293 m37 au;refine⟨_,rfl,82,rfl,g82⟩;have s5:=964 (.pz 0 82) rL;refine⟨t9,k,rfl,aI,03,g87⟩;have cW:=593 944 jz;have FI:=35 g21 cW;have Jj:=310 (s5 _ _ (k52 (334 a5 p m37 p=_)));refine⟨_,_,d85 Jj (Sg ms),d85 (by rw[aI,sG];rfl) (Sg 763),ahq _,ahq _,_,rfl,?_⟩;rw[awL];have iff:=awF v9 aw1 gq;refine eo (fun qv=>?_) (fun qv=>?_)
     ·have aw2:u_ k row=09:=q03 195 (102 (iff.mpr z));refine eE ?_ _ (35 686 FI);rw[A11];rw[if_neg];rw[hG,not_and];intro _ hz;have:=gB.mp hz row (cG eM);rw[aw2]at this;rw[A47]
     ·have bk:u_ k row=01:=q03 (iff.mp (nk 522)) (113 z);refine⟨_,_,rfl,c98 FI,?_⟩;rw[dZ eM,AN,dQ];simp[bk]
    ·rintro σ a5⟨fb,ew,rfl,s3,dQ⟩;rw[ba,f7.len,eK]at dQ;have afa:k55 (230=k∧aT r=a_ (d8 r)∧539 (d8 r) (q<k)):=725 (awX (gB.mp dQ r aq));refine 123 (cS (363 d8) ?_ a5 D bs 686 ⟨83 fp,by rw[ba,ba];exact f7.len,n34⟩ (by rw[ba];exact aw0) c23)
     ·rw[A11];rw[if_pos];rw[Sr,dQ];rfl
     ·obtain⟨row,eM,kR⟩:=f7.get af;rw[cK,cK,eM]at ak;have:a_ (d8 row)=q:=cI ak;rw[←this,←(afa row (cG eM)).2.1];exact 83 kR
     ·obtain⟨row,eM,rfl⟩:=147;obtain⟨bg,_,eC⟩:=afa row eM;exact⟨by unfold d8;rw[ba];exact bg,eC⟩
abbrev afb:bK:=bA 0x8d
theorem afc:31 [36,623,381,540,365] a21 afb:=⟨rfl,rfl,rfl,05,rfl,05,05⟩
inductive Ss(CM:ag)(CS:ag)(vs:08)(H:av)(Q:aW)(E:bD):04|mk:∀(a c:ag)(sy:cv)(z:Int)(x:10),vs=[38,489,655]→267→269→wF sy→H c=79 x→gx H Q (qy sy z x)→Ss CM CS vs H Q E
theorem aw3{x:10}(af:1≤n)(bH:n≤4):(xh 81 n x=00→qy sy 44 x=[-0xb])∧∀aD,xh 81 n x=some aD→(∀i,jL sy n aD=604→qy sy 44 x=[1,249])∧(jL sy n aD=00→(790<0→qy sy 44 x=[0,0])∧∀v w,d12=54→673=some w→qy sy 44 x=[0,39 (apart 75 aD n v w) 1 0]):=by
 unfold qy;rw[124,kA];rw[A03 (100 f20) (fun aD e=>⟨fun i hg=>by rw[e];simp only;rw[hg],fun e7=>⟨486,fun v w ev nj=>by rw[e];simp only;rw[e7,ev,nj]⟩⟩)];rw[e];rw[A11];rw[e7];unfold kN at aa
 cases aR:sy.start with|none=>rfl|some v=>cases pa:sy.goal with|none=>rfl|some w=>rw[aR,pa,144,144]at aa;lia
theorem aw4(D:cq K ah "keeps" afb a21 f fd)(aw5:220 "MOST_POINTS" 4)(yB:220 i24 (-7))(Su:220 n78 (-0xb))(Sv:Pr P w K ah 02 aO 1 n87 a21 (Sq CM CS))(uG:Pr P w K ah 02 aO 3 h44 588 (Fp CM CS))(m6:Pr P w K ah 02 aO 1 c97 50 (yZ CM CS))(BV:Pr P w K ah 02 aO 3 k54 588 (Kq CM CS)):Pr P w K ah 02 aO 4 "keeps" a21 (Ss CM CS):=by
 rw[A02 afc]
 ·obtain⟨a,c,sy,z,x,rfl,_⟩:=h;rfl
 ·obtain⟨a,c,sy,z,x,rfl,cg,g,iI,ar,k⟩:=h;have S:=afc;rw[A01 (aF (a49 (rW (bM ka (J 1) bu (bO _)) (rV (bM oA (J 1) (dq aw5) (bO _)))).pt yB) (aF (94 3 (437 Sv 0 1 2)) (aF (e35 3 Su) (aF (94 4 (437 uG 0 1 3)) (517 (318 (bM tI (J 4) et (bO _)) (c35 bu 4)) (318 (bM ka (340 m6) bu (bO _)) (258 bu bu)) (a62 (pE (348 (437 BV 0 1 3)) bu bu)))))))];have fin:∀{dM:av}{p:ag}{l:10},786→dM p=00→qy sy z x=l→664 (521 dM p l):=p88 (k _ p i84 j18 (by rw[aI,e]));have out:z<1∨4<z→qy sy z x=[-7]:=312 (by unfold qy;rw[114]);refine⟨_,rfl,_,_,rfl,rfl,_,rfl,359⟩
  ·exact e50 518 (out (.inl 104))
  ·have h:¬z<1:=952;refine⟨_,rfl,_,_,rfl,rfl,_,rfl,eb 642 642⟩
   ·exact 387 1 (fin 518 au (out (.inr d45)))
   ·have ak:¬4<z:=58 (ak i54);rw[B69 (z=44) j05];obtain⟨aw6,aw7⟩:=aw3 (sy:=sy) (n:=n) (x:=x) 03 03;refine⟨_,rfl,_,rfl,_,rfl,a,c,sy,n,x,rfl,cg,g,ar,03,03,c11,fun aD aR H1 p bs s1 cH ax ok=>?_⟩
    ·exact⟨_,rfl,rfl,_,rfl,e50 s1 (aw6 e7)⟩
    ·obtain⟨aw8,aw9⟩:=aw7 aD aR;refine⟨_,rfl,rfl,_,rfl,b_ ⟨_,rfl,_,rfl,_,rfl,a,p,sy,bs,aD,n,rfl,519,g,iI,cH,ax,ok,03,j91,fun i hg aB s2=>?_⟩⟩
     ·obtain⟨axa,axb⟩:=aw9 e7;rw[A98];refine⟨_,rfl,rfl,_,rfl,b_ ⟨_,rfl,a,sy,rfl,b97,_,_,rfl,rfl,_,rfl,eb 486 486⟩⟩
      ·exact⟨338,330 (fin ho aw (axa (121 aa)))⟩
      ·obtain⟨v,u,ev,kO,_⟩:=ae2 (sy:=sy) (58 (aa i54));refine⟨_,rfl,_,rfl,_,rfl,a,p,sy,bs,aD,n,v,u,rfl,b97,g,iI,cH.same s2,ax,ok,03,ev,kO,n86 951⟩;have KU:=axb v u ev kO
       cases y5:apart 75 aD n v u with|true=>rw[y5,101]at KU;exact c8 ⟨338,330 (fin b84 aw KU)⟩|false=>rw[y5,107]at KU;exact b_ ⟨338,330 (fin b84 aw KU)⟩
     ·exact⟨_,rfl,rfl,_,rfl,c8 ⟨_,rfl,338,330 (fin 332 aw (aw8 i hg))⟩⟩
def rg(d g:ag):324:=238 883 g (238 396 d [])
theorem afd{g:ag}:273 (rg d g) 396=872:=n85
theorem afe{g:ag}:273 (rg d g) 883=46 g:=n85
theorem aff{g:ag}:273 (rg d g) n76=00:=n85
structure FJ(K:bo)(C:ag):04 where
 cl:h4 K C
 action:245 396
 c_:245 883
structure jj(H:av)(p:ag)(aD:27)(cm:30):04 where
 lst:H p=247 587
 hq:f76 (H t=919 x) aD cm
theorem jj.same(h:jj H p aD cm)(e:49):jj H' p aD cm:=⟨e _ _ 572,h.hq.mono (k46 (e _ _ q))⟩
theorem jj.get{H:av}{p:ag}{aD:27}{cm:30}(h:jj H p aD cm){i:Nat}{y:ae}(aC:q02 i=270):∃t x,cm[i]?=43∧y=784∧H t=919 x:=by rw[cK]at aC;obtain⟨t,bk,rfl⟩:=pP.mp aC;obtain⟨x,ai,h⟩:=h.hq.get bk;exact⟨t,x,ai,rfl,h⟩
theorem BW(h:i<63):k53 i=71 (835 i:Nat):=i58 (cA h) h
theorem FK(n:Nat)(m:Nat):762 (n:Nat) (15 m)=(n==m):=by
 rw[A06 n m]
 ·rw[e,167];simp
 ·rw[133];exact(566:(n==m)=09).symm
abbrev afg:bK:=343 0x17 0
theorem axc:31 j61 j61 afg:=⟨rfl,rfl,rfl,05,rfl,05,05⟩
inductive Sw(C:ag)(vs:08)(H:av)(Q:aW)(E:bD):04|mk:∀(p dx d g:ag),vs=[280,602,.ref g]→H p=c80→Q .b4 (264 H p C (rg d g))→Sw C vs H Q E
theorem axd(F:hC K 421 "Machine.__init__" afg f fd)(M:FJ K C):eP P w K ah 02 aO 1 f fd j61 (Sw C):=by
 rw[A36 axc]
 ·obtain⟨p,dx,d,g,rfl,_⟩:=h;rfl
 ·obtain⟨p,dx,d,g,rfl,au,k⟩:=h;rw[A01 (e26 c03 45)];refine⟨_,rfl,_,rfl,p,C,dx,_,rfl,au,20,M.action,298 0,?_⟩;refine⟨_,rfl,_,rfl,p,C,dx,_,rfl,aI,20,M.c_,960,?_⟩;rw[gp];exact k
abbrev afh:bK:=343 0x17 1
theorem afi:31 j25 j25 afh:=⟨rfl,rfl,rfl,05,rfl,05,05⟩
inductive Sx(C:ag)(vs:08)(H:av)(Q:aW)(E:bD):04|mk:∀(a dx d g:ag)(as:27)(ls:06)(rows:30)(n:Nat)(c_ x:06),vs=349 460→H a=483 C (rg d g)→nX H d as ls 17→870→0<n→H g=259 c_→k45=n→(c10 c ls)→446 (643 (661 0)==1)→Sx C vs H Q E
theorem axe(F:hC K n76 "Machine.accepts" afh f fd)(M:FJ K C)(m7:Pr P w K ah 02 aO 1 f17 c54 BK):eP P w K ah 02 aO 2 f fd j25 (Sx C):=by
 rw[A36 afi]
 ·obtain⟨a,dx,d,g,as,ls,rows,n,c_,x,rfl,_⟩:=h;rfl
 ·obtain⟨a,dx,d,g,as,ls,rows,n,c_,x,rfl,aN,di,ok,h0,a4,gl,ai,k⟩:=h;have S:=afi;rw[A01 (65 (z_ fv (a51 (926 m7 59 (aj (J 1) 755))) bu (bO _)))];have cM:=Ru ok di.oV ai h0;refine⟨_,rfl,a,C,dx,_,_,rfl,aN,20,M.c_,afe,_,rfl,a,C,dx,_,_,rfl,aN,20,M.action,afd,_,rfl,d,as,ls,17,n,x,0,rfl,di,ok,ai,h0,g,_,_,_,rfl,rfl,32 a4,fm (BW (by rw[gl];exact cM)),rfl,?_⟩;rw[kH];have e:=FK (643 (661 0)) 1;rw[show 762 (643 (661 0):Nat) 1=_ from e];exact k
abbrev afj:bK:=bA 0x1b
theorem afk:31 [883,366,257,256] [883,366] afj:=⟨rfl,rfl,rfl,05,rfl,05,05⟩
inductive KV(vs:08)(H:av)(Q:aW)(E:bD):04|mk:∀(g p:ag)(aD:27)(cm:30)(c_:06)(n:Nat),vs=[.ref g,280]→H g=259 c_→k45=n→jj H p aD cm→(∀x∈cm,rP n 2 x)→446 (tn c_ cm)→KV vs H Q E
theorem axf(D:cq K ah k39 afj [883,366] f fd):Pr P w K ah 02 aO 1 k39 [883,366] KV:=by
 rw[A02 afk]
 ·obtain⟨g,p,aD,cm,c_,n,rfl,_⟩:=h;rfl
 ·obtain⟨g,p,aD,cm,c_,n,rfl,a4,gl,qg,ok,k⟩:=h;have S:=afk;rw[A01 (239 (e_ eL rfl c08 (tQ K rfl (n:=2) rfl (kX (98 2 rfl 70) (kX (98 3 rfl 70) tF))) (aM (bX (vu (bM fv (440 252 45) bu (bO _)) (xM (bM fv (440 252 85) bu (bO _)))).pt (65 l8) b2))) l8)];refine⟨_,rfl,p,rfl,223 qg.lst,hN (K:=K) (a:=p) (xs:=587) (m42 93 (σ=[46 g,444,v2,fb]∧H'=H∧tn c_ (cm.take i)=01)) ⟨00,00,rfl,rfl,rfl⟩ (q01 (683 qg.lst)) ?_ ?_⟩
  ·rintro i y σ H' aC⟨v2,fb,rfl,rfl,aS⟩;rw[C20 (qg.get aC)];have hm:=cG ai;obtain⟨o1,o2⟩:=ok x hm;obtain⟨u,v,rfl⟩:∃u v,x=[u,v]:=by match x,o1 with|[u,v],_=>exact⟨u,v,rfl⟩
   have bp:=o2 u 237;have a3:=o2 v (d4 _ 237);have bad:(643 u==1)=01→(643 v==0)=01→tn c_ cm=09:=fun af ak=>by refine 195;have:=gB.mp z [u,v] hm;simp only[Ms,Mt]at this;rw[af,ak]at this;cases this
   have good:((643 u==1)&&(643 v==0))=09→tn c_ (cm.take (i+1))=01:=312 (by rw[dZ ai];unfold tn at aS⊢;rw[AN,aS];simp only[tf,ade,Ms,Mt,h];rfl);refine⟨t,_,rfl,g85,rfl,_,_,rfl,_,_,rfl,rfl,?_⟩;refine⟨_,rfl,_,rfl,g,_,_,_,rfl,rfl,32 a4,fm (BW (by rw[gl];exact bp)),rfl,_,rfl,?_⟩;rw[kH,88 (762 (643 u:Nat) 1=_) (FK _ 1)];refine eo 485 485
   ·refine⟨_,rfl,_,rfl,g,_,_,_,rfl,rfl,32 a4,fm (BW (by rw[gl];exact a3)),rfl,_,rfl,?_⟩;rw[kH,88 (762 (643 v:Nat) 0=_) (FK _ 0)];refine eo 642 642
    ·rw[bad af ak]at k;exact k
    ·exact⟨_,_,rfl,rfl,good (by rw[ak,Ak])⟩
   ·exact b_ ⟨_,_,rfl,rfl,good (by rw[af,zu])⟩
  ·rintro σ H'⟨v2,fb,rfl,rfl,aS⟩;rw[ba,qg.hq.len,eK]at aS;rw[aS]at k;exact k
abbrev afl:bK:=bA 0x1f
theorem afm:488 50 afl:=⟨rfl,rfl,rfl,05,rfl,05,05⟩
inductive Sy(CM:ag)(CS:ag)(vs:08)(H:av)(Q:aW)(E:bD):04|mk:749 (vs=254) (267→269→Q (a14 (ve 81)) H→Sy CM CS vs H Q E)
theorem axg(D:cq K ah n83 afl 50 f fd)(O:347)(bJ:268)(axh:220 q00 2):Pr P w K ah 02 aO 1 n83 50 (Sy CM CS):=by
 rw[A02 afm]
 ·rw[A59];rfl
 ·rw[C27];have S:=afm;rw[A01 (65 (pE (bM z9 017 (dq axh) (bO _)) bu bu))];rw[A41];unfold ve at k;refine⟨_,rfl,a,CS,dx,_,_,rfl,84,80,727,mg,_,rfl,b82,_,_,rfl,rfl,_,rfl,?_⟩;rw[dB];rw[A39 (81≤2)]
  ·rw[114]at k;rw[145];exact c8 k
  ·rw[125]at k;rw[133];exact b_ k
abbrev Sz:bK:=bA 0x19
theorem afn:31 [36,k42,428,226] f75 Sz:=⟨rfl,rfl,rfl,05,rfl,05,05⟩
inductive KW(CM:ag)(CS:ag)(vs:08)(H:av)(Q:aW)(E:bD):04|mk:∀(a c:ag)(sy:cv)(n:Nat)(l:06),vs=349 655→267→269→m66 (H c=259 l→63=a81→0<n→n≤4→(∀H' d as,49→nX H' d as 75 (dy 81 n l)→435 d)→KW CM CS vs H Q E)
theorem axi(D:cq K ah k41 Sz f75 f fd)(O:347)(bJ:268)(uy:Pr P w K ah 02 aO 1 h31 b83 (Fo K CM CS)):Pr P w K ah 02 aO 2 k41 f75 (KW CM CS):=by
 rw[A02 afn]
 ·obtain⟨a,c,sy,n,l,rfl,_⟩:=h;rfl
 ·obtain⟨a,c,sy,n,l,rfl,cg,g,az,ar,ax,h0,uH,k⟩:=h;have S:=afn;rw[A01 (239 (953 2 017) (552 uy 0 (k9 rfl 242 (c92 699) (own:=[(226,3)]) (295 [36,k42,428,226] Sz) 927 369 (286 (auH K rfl 62 85 45)))))];rw[A41];rw[B19 (id cg)];refine⟨_,rfl,a,CS,dx,_,_,rfl,84,80,727,mg,_,rfl,b82,?_⟩;rw[dB];refine⟨_,rfl,_,rfl,d52,rfl,03,03,436⟩;refine Oh (lo:=0) (n:=271 d52) (885 (∃bs:27,49∧H' D=036∧(∀b∈bs,b≠D)∧890=i∧m26 (244=259 r) bs (690 i (c15 n (q*81+i))))) ⟨[],833,aI,19,rfl,89⟩ ?_ ?_
  ·rintro i aB hi⟨bs,s2,fp,nb,hR,f7⟩;have ua:i<81:=03;rw[show 413+249=249 by lia];refine⟨rfl,_,rfl,_,rfl,_,rfl,c,_,249,d52,rfl,rfl,rfl,03,32 (s2 _ _ ar),263⟩;rw[auJ ax ua h0];have s3:=593 (c15 n (q*81+i)) au;have FH:p≠D:=16 p99;refine⟨_,83 fp,?_,bs++[p],924,?_,773,p98,?_⟩
   ·rw[ba];rw[A14 (show 255 by lia)]
   ·rw[110 z cO];exact 83 (s2 _ _ z)
   ·rw[A52];rfl
   ·rcases 362 aa with aa|aa
    ·exact nb b aa
    ·rw[86 aa];exact FH
   ·rw[ru,d5];refine c2.app ?_ (386 (862 FH));have key:∀(cs:27)(eV:30)(o:dz),(∀b∈cs,b≠D)→m26 (aB b=259 r) cs eV→m26 (upd (322 aB p (c15 n (q*81+i))) D o b=259 r) cs eV:=by
     intro cs eV o aU h
     induction h with|nil=>rw[A40]|cons r _ ih=>exact .cons (41 (aU _ 237) (83 r)) (ih (350 (aU b (d4 _ aa))))
    exact key bs _ _ nb f7
  ·rintro aB⟨bs,s2,fp,nb,hR,f7⟩;rw[kA]at hR f7;refine⟨a,D,sy,bs,rfl,622 s2,fp,az,hR,03,fun a5 d s3 IA hd=>k a5 d bs 686 ⟨hd,hR,?_,fun i b r af ak=>?_⟩⟩
   ·unfold dy;rw[ba,iP]
   ·obtain⟨q,aw,aa⟩:=f7.get af;have:q=r:=cI (aw.symm.trans ak);rw[A48];exact 83 aa
theorem SA(ax:63=n*eh)(aa:e89 q n):lj n (dy eh n l):=725 (by unfold dy at aq;rw[B74 147];rw[A03 (by rw[ba,iP]) 458];rw[C04 aw];exact aa _ (Ly (n84 (Mq 154 a41))))
theorem axj{b:Bool}{σ:bq}{Q:aW}{r:ag}(aq:c89=287 r)(ax:H r=259 l)(k:∀p H',49→416=259 (39 b [0] l)→412):39 b (HC (r9 (qC 372) qK) σ H Q) (iW i σ H Q):=by cases b with|true=>exact 387 1 (k p _ 116 aI)|false=>exact⟨_,aq,k r H 518 ax⟩
theorem jj.ext{ps:27}{aL:30}(h:jj H t aD cm)(e:49)(g:jj H' p ps aL):jj (34 H' t (587++992)) t (aD++ps) (cm++aL):=by
 have bk:=e _ _ 572;rw[A03 k47 ((h.hq.mono (k27 ?_)).app (g.hq.mono (k27 ?_)))]
 ·exact 553 (e _ _ q) bk (e _ _ q)
 ·exact 553 q bk q
theorem jj.put(h:jj H p aD cm)(bk:H t=526)(n:p≠t):jj (34 H t ys) p aD cm:=⟨41 n 572,h.hq.mono (k27 (553 q bk q))⟩
inductive SD(vs:08)(H:av)(Q:aW)(E:bD):04|mk:∀(d p:ag)(as:27)(ls:06)(rows:30)(n L:Nat)(aD:27)(cm:30),vs=[602,280]→nX H d as ls 17→870→n≤4→284≤4→jj H p aD cm→(h27 (rP n L g))→1≤L→L≤2→cm.length≤0xc8→(∀H' q us F,49→jj H' q us F→(∀g,g∈F↔b03 g)→n29→435 q)→SD vs H Q E
abbrev KX:bK:=bA 0x1c
theorem afo:31 [396,506,b24,730,h43,h42,313,"before",079,366] g18 KX:=⟨rfl,rfl,rfl,05,rfl,05,05⟩
inductive KY(CM:ag)(vs:08)(H:av)(Q:aW)(E:bD):04|mk:∀(d m:ag)(as bs:27)(ls:06)(rows:30)(n:Nat)(ms:700),vs=[602,.ref m]→nX H d as ls 17→870→0<n→n≤4→H m=036→(c2 (fun b v=>oK CM H b (cY ls v)) bs ms)→ls.Nodup→284≤4→(∀v∈ms,905 084∧905 b29)→h41≤8→(∀H' q us cm,49→jj H' q us cm→(∀g,g∈cm↔CK 17 ms g)→435 q)→KY CM vs H Q E
theorem SE{rows:30}(h:m97)(m:ez):11 e80≤377:=by
 unfold rn rQ;rw[ba];split
 ·show 1≤377;decide
 ·exact h
theorem afp{rows:30}(h:m97)(ms:700):11 (xC 17 ea ms)≤h41*377:=Fx (fun m _=>by
 split
 ·simp
 ·exact SE h m)
theorem afq{rows:30}(h:m97)(ms:700):11 (zf 17 ea ms)≤h41*377:=Fx (fun m _=>by
 split
 ·exact SE h m
 ·simp)
theorem afr(rows:30)(ea:06)(ms:700)(m:ez):xC 17 ea (ms++[m])=xC 17 ea ms++(39 670 [] e80):=by unfold xC;rw[w5];simp
theorem afs(rows:30)(ea:06)(ms:700)(m:ez):zf 17 ea (ms++[m])=zf 17 ea ms++(39 670 e80 []):=by unfold zf;rw[w5];simp
theorem axk(D:cq K ah k40 KX g18 f fd)(e3:nG K CM)(KZ:Pr P w K ah 02 aO 1 n59 j00 SD)(m7:Pr P w K ah 02 aO 1 f17 c54 BK):Pr P w K ah 02 aO 2 k40 g18 (KY CM):=by
 rw[A02 afo]
 ·obtain⟨d,m,as,bs,ls,rows,n,ms,rfl,_⟩:=h;rfl
 ·obtain⟨d,m,as,bs,ls,rows,n,ms,rfl,di,ok,h0,uH,hm,aft,az,SF,axl,vg,k⟩:=h;have S:=afo;rw[A01 (aF (qT (i:=3) rfl 242 rfl rfl 876 (339 (552 KZ 0 (c28 (oC 755)))) (own:=[(b24,2)]) (295 [396,506,b24,730,h43,h42,313,"before",079,366] KX) g98 369 (286 c63)) (aF (94 4 556) (389 5 556 (e_ eL rfl c08 (98 6 rfl e92) (90 7 (pE (348 (633 6)) e21 85) (qT (i:=9) rfl 242 rfl rfl 876 (339 (J 7)) (own:=[(079,8)]) (295 [396,506,b24,730,h43,h42,313,"before",079,366] KX) (925 8) 369 (286 (oC (258 (bj m7 22 bb (aj (J 0) (c35 (633 6) 8))) (bj m7 22 bb (aj (J 0) (c35 (633 6) 8))))))) (aM (bX (348 (633 6)) (aM (fK (hD K rfl h9 nK nL nE 463 (384 9)))) (a76 (hD K rfl h9 nK nL nE 327 (384 9))))))) (eu pO (bj KZ 22 bb (77 0 4 ay)) 463))))];refine⟨_,rfl,371,fun t0 acD=>⟨371,fun va t8=>?_⟩⟩;have s1:=35 (822 [372] acD) (293 [.ref t0] t8);have axm:jj (34 (388 H t0 [372]) va [.ref t0]) va [t0] [[0]]:=⟨aI,386 (335 aI t8 aI)⟩;refine⟨d,va,as,ls,17,n,1,[t0],[[0]],rfl,b28 s1,ok,uH,SF,axm,c33,14,14,14,fun aB q us F s2 mP afu axn=>?_⟩
  ·rw[86 a4];exact⟨rfl,330 (by rw[86 aw];exact h0)⟩
  have axo:=332;have axp:∀g∈F,rP n 1 g:=f04 (by obtain⟨n8,axq,u,bp,rfl⟩:=G4.mp ((afu g).mp a4);rw[86 axq];exact 119 (330 (364 (86 aw) (ou ok u h0))));refine⟨q,rfl,223 mP.lst,436⟩;refine kC (K:=K) (a:=q) (xs:=a24) (877 (H'=322 aB D ((F.take j).map g95))) rfl (n56 (683 (335 mP.lst cO mP.lst))) ?_ ?_
  ·rw[C19];rw[C20 (mP.get aC)];have bS:=eI ai;refine⟨rfl,_,rfl,t,_,_,_,rfl,rfl,448 (335 bk cO bk),fm (j:=0) (BW (c99 (axp x (cG ai)).1)),_,aI,?_,?_⟩
   ·rw[hn,ba,eS];rw[A14 (show 255 by lia)]
   ·rw[gp,dZ ai,d5,AW];rfl
  ·rintro a5 rfl;rw[ba,mP.hq.len,eK];have SG:=ajM afu;have oV:11 (F.map g95)≤377:=by rw[ba];exact axn
   have SH:539 (F.map g95) (q<n):=330 (by obtain⟨u,_,rfl⟩:=(SG q).mp aw;exact ou ok u h0);generalize F.map g95=ea at SG oV SH;have s3:=593 ea cO;have oP:334 aB D (a_ ea) D=259 ea:=aI;have oX:=axo.trans s3;generalize 322 aB D ea=a5 at s3 oP oX⊢;rw[A33 (fun g7 afv=>?_)];have s4:=293 [] afv;rw[A33 (fun c5 SI=>?_)];have s5:=293 [] SI;have pC:g7≠c5:=bT (k52 (334 a5 g7 [] g7=247 [])) SI;have axr:a5 c5=00:=s4.free SI;have hE:∀{dM:av}{o:dz},aA a5 dM→aA a5 (upd dM g7 o):=fun{dM o:_}e b u z=>364 (110 z afv) (e b u z);have axs:∀{dM:av}{o:dz},aA a5 dM→aA a5 (upd dM c5 o):=fun{dM o:_}e b u z=>364 (110 z axr) (e b u z);have afw:=g21;have axt:=afw _ _ (oX _ _ hm);refine⟨_,rfl,m,rfl,223 axt,hN (K:=K) (a:=m) (xs:=479) (505 (∃(v2 v6 fM ia pW:93)(BX y6:27),σ=[872,46 m,v2,46 D,46 g7,46 c5,v6,fM,ia,pW]∧480 a5∧jj H' g7 BX (xC 17 ea d90)∧jj H' c5 y6 (zf 17 ea d90))) ⟨_,00,00,00,00,[],[],rfl,afw,⟨862 pC,89⟩,⟨aI,89⟩⟩ (fun i σ H' _⟨_,_,_,_,_,_,_,_,cW,_⟩=>32 (310 (oX _ _ hm))) ?_ ?_⟩
   ·rintro i y σ ft aC⟨v2,v6,fM,ia,pW,BX,y6,rfl,cW,BY,BZ⟩;rw[A58];rw[B62 aC];obtain⟨cw,q1,dD,FL⟩:=aft.get aa;have fB:=cG q1;obtain⟨wl,wr⟩:=axl cw fB;have axu:=310 (oX _ _ FL);have Ip:=afp (rows:=17) oV d90;have v3:=afq (rows:=17) oV d90;have aB6:=eI q1;rw[eS]at Ip v3;refine⟨_,rfl,b,CM,dD,_,_,rfl,axu,451,e3.D7,IH,_,rfl,?_⟩;refine axj (i:=3) (r:=D) (l:=ea) rfl (310 oP) (fun afx gS e1 SJ=>?_);have eG:(39 (cY ls cw).b [0] ea)=rQ ea cw:=rfl;rw[eG]at SJ;have axv:539 (rQ ea cw) (q<n):=330 (by
     unfold rQ at aw;split at aw
     ·rw[A78];exact h0
     ·exact SH q aw);have aB7:=SE (rows:=17) oV cw;have afy:rn 17 ea cw=(rQ ea cw).map (58 [266 k50 q,266 k49 q]):=rfl;refine⟨_,rfl,afx,rfl,223 SJ,n42⟩;have afz:=35 (k48 cW) e1;refine kC (K:=K) (a:=afx) (xs:=a_ (rQ ea cw)) (877 (∃ps:27,480 gS∧jj H' dE ps (528 (rn 17 ea cw)))) ⟨[],422 fp,aI,89⟩ (fun j H' _⟨_,gW,_⟩=>32 (gW _ _ SJ)) ?_ ?_
    ·rintro j y qS aC⟨ps,gW,rh⟩;rw[C18 (vY aC)];have cM:=axv st (cG gq);have FN:=afz.trans gW;have K0:=FN _ _ FL;have bS:=eI gq;have eH:=rh.hq.len;rw[eS]at eH;refine⟨rfl,_,rfl,_,rfl,b,CM,dD,_,_,rfl,K0,451,815,lO,_,rfl,d,as,ls,17,n,370 k50,st,rfl,b28 FN,ok,sM wl,cM,_,rfl,_,rfl,b,CM,dD,_,_,rfl,K0,451,k51,yg,_,rfl,d,as,ls,17,n,370 k49,st,rfl,b28 FN,ok,sM wr,cM,338,c32⟩;rw[th az 17 wl,th az 17 wr];have i_:=b05 [48 (266 k50 st:Nat),48 (266 k49 st:Nat)];have y7:=i_ _ _ rh.lst;have B0:T≠dE:=16 (by rw[z,rh.lst]at bR;cases bR);refine⟨_,y7,?_,ps++[T],g89,?_,?_⟩
     ·rw[ba];rw[A14 (show 255 by lia)]
     ·rw[110 z fp];exact i_ _ _ (gW _ _ z)
     ·rw[A52];rfl
     ·rw[dZ (x:=[266 k50 st,266 k49 st]) (by rw[afy,cK,gq];rfl)];refine e49 (rh.hq.mono (k46 (553 (i_ _ _ q) y7 (i_ _ _ q)))) (862 B0)
    ·rintro qS⟨ps,gW,rh⟩;have c4:11 (a_ (rQ ea cw))=11 (rn 17 ea cw):=by rw[hn,afy,ba]
     rw[c4,eK]at rh;have SK:=n15;have FN:=afz.trans gW;have K0:=FN _ _ FL;have eH:=rh.hq.len;have aB8:=BY.hq.len;have aB9:=BZ.hq.len;have afA:=(cW.trans SK);have FO:=BY.same SK;have FP:=BZ.same SK;have aCa:dE≠g7:=16 (p97 (e1 _ _ BY.lst));have aCb:dE≠c5:=16 (p97 (e1 _ _ BZ.lst));refine⟨_,rfl,b,CM,dD,_,_,rfl,K0,451,e3.D8,II,_,rfl,?_⟩;have axw:(cY ls cw).e=cw.last:=rfl;rw[axw];refine eo (fun FQ=>?_) (fun FQ=>?_)
     ·refine⟨_,rfl,329 FP.lst,_,rfl,c5,dE,_,_,rfl,rfl,FP.lst,rh.lst,?_,_,_,_,_,_,BX,y6++ps,rfl,axs afA,?_,?_⟩
      ·rw[ba,ba];rw[A37 (show 255 by lia)]
      ·rw[dZ q1,afr,21 FQ,nh];exact FO.put FP.lst pC
      ·rw[dZ q1,afs,21 FQ];exact FP.ext (881 qS) rh
     ·refine⟨_,rfl,329 FO.lst,_,rfl,g7,dE,_,_,rfl,rfl,FO.lst,rh.lst,?_,_,_,_,_,_,BX++ps,y6,rfl,hE afA,?_,?_⟩
      ·rw[ba,ba];rw[A37 (show 255 by lia)]
      ·rw[dZ q1,afr,23 p96];exact FO.ext (881 qS) rh
      ·rw[dZ q1,afs,23 p96,nh];exact FP.put FO.lst pC.symm
   ·rintro σ ft⟨v2,v6,fM,ia,pW,BX,y6,rfl,cW,BY,BZ⟩;have c4:11 479=h41:=by rw[ba,aft.len]
    rw[c4,eK]at BY BZ;have Ip:=afp (rows:=17) oV ms;have v3:=afq (rows:=17) oV ms;have yX:=k48 cW;refine⟨_,rfl,_,rfl,d,g7,as,ls,17,n,2,BX,xC 17 ea ms,rfl,b28 yX,ok,uH,SF,BY,c33,14,14,03,fun gS nC afB axx e1 SM axy aCc=>?_⟩
    ·obtain⟨cw,q1,a4⟩:=ni.mp a4;split at a4
     ·cases a4
     ·rw[C18 (112 a4)];have cM:st<n:=by
       unfold rQ at gq;split at gq
       ·rw[86 gq];exact h0
       ·exact SH st gq
      rw[A03 rfl g83];rw[C91];rw[C90]
      ·exact ou ok _ cM
      ·exact ou ok _ cM
    ·have SN:=BZ.same e1;have vi:=SM.hq.len;have zP:=SN.hq.len;refine⟨_,rfl,nC,c5,_,_,rfl,rfl,SM.lst,SN.lst,?_,849⟩
     ·rw[ba,ba];rw[A37 (show 255 by lia)]
     ·have gW:=293 (afB.map 502++y6.map 502) c1;refine k _ r (afB++y6) (axx++zf 17 ea ms) (35 (yX.trans e1) gW) (328 k47) (ajL SG axy);exact(SM.hq.mono (k46 (gW _ _ q))).app (SN.hq.mono (k46 (gW _ _ q)))
structure y8(eh n:Nat)(l c_:06):04 where
 nc:0<n
 sA:n≤4
 dp:63=n*eh
 lN:e89 q n
 gl:k45=n
 pw:∀x∈c_,x=0∨x=1
theorem c3.K1(h:51){v:ez}(a3:v∈972):455 084∧455 b29:=⟨(h.cw v a3).1.2,(h.cw v a3).2.2⟩
theorem afC{rows:30}(ok:870)(h0:0<n){ms:700}(h:∀g,g∈cm↔CK 17 ms g):h27 (rP n 2 g):=f04 (by
 obtain⟨m,_,u,_,_,x,_,_,rfl⟩:=(h g).mp a4;rw[A03 rfl g83];rw[C91];rw[C90]
 ·exact ou ok _ (ou ok _ (ou ok _ h0))
 ·exact ou ok _ (ou ok _ (ou ok _ h0)))
theorem axz(t:y8 eh n l c_){m:ez}(hm:fE eh 398∧fE eh 427)(h:∀g,g∈cm↔CK (dy eh n l) [m] g):tn c_ cm=jr (gD n eh l c_) m:=by rw[Vr t.nc t.dp t.lN t.pw t.gl (ms:=[m]) (k44 (by rw[86 a3];exact hm)) h];simp
theorem c2.refs{CM:ag}{H:av}{ls:06}:∀{as:27}{ms:700},471=h41→(p95 (325=360→(ms.map (cY ls))[i]?=794→oK CM H b m))→c2 (fun b v=>oK CM H b (cY ls v)) as ms|[],[],_,_=>89|[],_::_,h,_=>806|_::_,[],h,_=>806|a::as,m::ms,h,k=>.cons (k 0 a _ rfl rfl) (c2.refs 967 (fun i b v af ak=>k (i+1) b v af ak))
theorem h8.all{l:ag}(h:h8 CM CS H a dx l as 26):c2 (fun b v=>oK CM H b (cY 60 v)) as 972:=c2.refs (by rw[h.len];show 11 003=_;rw[ba]) h.cw
abbrev afD:bK:=bA 0x1a
theorem afE:31 [36,h37,365,313] i74 afD:=⟨rfl,rfl,rfl,05,rfl,05,05⟩
inductive SO(C:ag)(CM:ag)(CS:ag)(vs:08)(H:av)(Q:aW)(E:bD):04|mk:∀(a jA dD d g:ag)(as:27)(s:dt)(n:Nat)(l c_:06),vs=349 (.ref jA)→597→51→H jA=711 dD (rg d g)→nX H d as 60 (dy 37 n l)→H g=259 c_→y8 37 n l c_→((d30 (72 (! jr (gD n 37 l c_) x)))=00→847)→(∀i,(d30 (72 (! jr (gD n 37 l c_) x)))=604→842 (Q 309 H'))→SO C CM CS vs H Q E
theorem axA(D:cq K ah n75 afD i74 f fd)(yp:i93=00)(bJ:268)(M:FJ K C)(B1:Pr P w K ah 02 aO 1 k39 [883,366] KV)(B2:Pr P w K ah 02 aO 2 k40 g18 (KY CM)):Pr P w K ah 02 aO 3 n75 i74 (SO C CM CS):=by
 rw[A29 afE]
 ·obtain⟨a,jA,dD,d,g,as,s,n,l,c_,rfl,_⟩:=h;rfl
 ·obtain⟨a,jA,dD,d,g,as,s,n,l,c_,rfl,cg,wf,SP,di,a4,tt,eE,cS⟩:=h;have S:=afE;rw[A01 (239 (e_ eL rfl (IF K rfl rfl yp 010) (tQ K rfl (n:=2) rfl (kX (98 2 rfl 70) (kX (98 3 rfl 70) tF))) (aM (bX (g91 (a58 B1 358 (a58 B2 358 (cN 846)))) (65 45) b2))) et)];rw[B47 (id cg)];have dQ:=aY.all;have ok:=SA tt.dp tt.lN;have jn:=wf.jn;refine⟨_,rfl,a,CS,dx,_,_,rfl,84,80,472,kE,ls,_,rfl,d76,I0 (K:=K) (a:=ls) (xs:=ms.map 502) (m42 93 (σ=[248,46 jA,v2,fb]∧49∧(s.moves.take i).findIdx? (72 (! jr (gD n 37 l c_) x))=00)) ⟨00,00,rfl,518,rfl⟩ (p94 (32 (s2 _ _ 301))) ?_ ?_⟩
  ·rintro i y T σ aB aC bR⟨v2,fb,rfl,s2,cy⟩;rw[A58];rw[B62 aC];obtain⟨m,hm,zJ,FL⟩:=dQ.get aa;have vc:=a75;have s3:=b50 (b05 [309,281]);have SQ:=83 SP;have sL:upd aB T (.tup [309,281]) T=294 [309,281]:=aI;generalize 388 aB T [309,281]=a5 at s3 SQ sL⊢;refine⟨T,_,rfl,448 sL,rfl,_,_,rfl,_,_,rfl,rfl,?_⟩;refine⟨_,rfl,jA,C,dD,_,_,rfl,SQ,20,M.c_,afe,_,rfl,jA,C,dD,_,_,rfl,SQ,20,M.action,afd,_,rfl,371,263⟩;have s4:=c98 (293 [281] au);refine⟨d,p,as,[b],60,dy 37 n l,n,[m],rfl,b28 s4,ok,tt.nc,tt.sA,aI,386 ⟨zJ,103 FL⟩,813,jn,k44 (364 (86 a3) (wf.K1 vc)),(681 (1≤8)),fun de q us cm s5 qg j4=>?_⟩;have B3:=g21;refine⟨g,q,us,cm,c_,n,rfl,B3 _ _ a4,tt.gl,qg,afC ok tt.nc j4,_,rfl,?_⟩;rw[axz tt (wf.K1 vc) j4];refine eo 356 356
   ·rw[A15 (cS i (adz hm cy h) _ B3)]
   ·exact⟨_,_,rfl,B3,adA hm cy h⟩
  ·rintro σ aB⟨v2,fb,rfl,s2,cy⟩;rw[ba,dQ.len,eK]at cy;exact eE cy aB s2
abbrev afF:bK:=bA 534
theorem afG:31 [36,f15,381,"size",079,"mark"] a29 afF:=⟨rfl,rfl,rfl,05,rfl,05,05⟩
def qh(eh n:Nat)(x:10):Bool:=96==n*eh+n&&(814 (n*eh)).all (58 (555 0 q&&29 (q<44)))&&(884 (n*eh)).all (58 (q==0||q==1))
inductive SR(C:ag)(CM:ag)(CS:ag)(vs:08)(H:av)(Q:aW)(E:bD):04|mk:∀(a c:ag)(sy:cv)(n:Nat)(x:10),vs=[38,b10,655]→267→269→m66 (H c=79 x→1≤n→n≤4→(qh 81 n x=09→847)→(qh 81 n x=01→∀H' jA dD d g as,49→H' jA=711 dD (rg d g)→nX H' d as 75 (dy 81 n (d42 a81))→H' g=259 (a13 a81)→y8 81 n (d42 a81) (a13 a81)→435 jA)→SR C CM CS vs H Q E)
theorem afH{l:10}(h:∀q∈l,0≤q):aT l=a_ (d8 l):=by unfold aT a_ d8;rw[gP];refine lz 458;have:=h q aw;show 426 q=a37 (q.toNat:Nat);rw[Int.toNat_of_nonneg 246]
theorem axB{eh n:Nat}{x:10}(af:1≤n)(bH:n≤4)(h:qh eh n x=01):y8 eh n (d42 (n*eh)) (a13 (n*eh))∧(539 (814 (n*eh)) (0≤q))∧539 (884 (n*eh)) (0≤q):=by
 unfold qh at h;rw[hG,hG,beq_iff_eq,gB,gB]at h;obtain⟨⟨ax,bk⟩,hd⟩:=h;have afI:539 (814 (n*eh)) (0≤q∧q<44):=330 (by have:=bk q aw;rw[hG,decide_eq_true_eq,decide_eq_true_eq]at this;exact this);have kW:539 (884 (n*eh)) (q=0∨q=1):=330 (by have:=hd q aw;rw[Gi,beq_iff_eq,beq_iff_eq]at this;exact this);refine⟨⟨03,bH,?_,458,?_,458⟩,330 (afI q aw).1,330 (by rcases kW q aw with e|e<;>lia)⟩
 ·unfold d8;rw[ba,eS];lia
 ·rw[A84 aw];have:=afI z hz;lia
 ·unfold d8;rw[ba,fV];lia
 ·rw[A84 aw];rcases kW z hz with e|e<;>rw[e]
  ·exact 253
  ·rw[A09 rfl]
theorem afJ(h:759 n):mb xs 00 (some 44)=xs.take n:=by unfold mb;rw[HT.HL,HT.r_,sv h];simp
theorem afK(h:759 n):mb xs (some 44) 00=xs.drop n:=by unfold mb;rw[HT.HL,HT.r_,sv h];exact si f19
theorem afL(x:10)(n:Nat):221 (aT x) n=aT (814 n):=by unfold aT;rw[wR]
theorem afM(x:10)(n:Nat):473 (aT x) n=aT (884 n):=by unfold aT;rw[uX]
theorem axC(D:cq K ah n77 afF a29 f fd)(O:347)(bJ:268)(axD:mf P w K ah 02 aO 1 C "Machine" j61 (Sw C))(B4:Pr P w K ah 02 aO 2 k41 f75 (KW CM CS)):Pr P w K ah 02 aO 3 n77 a29 (SR C CM CS):=by
 rw[A02 afG]
 ·obtain⟨a,c,sy,n,x,rfl,_⟩:=h;rfl
 ·obtain⟨a,c,sy,n,x,rfl,cg,g,az,ar,af,uH,eE,cS⟩:=h;have S:=afG;rw[A01 (90 3 (eu vB 62 017) (bX (bM k4 (d6 (hO K rfl) 66 O.len eJ 699) (eu qH 85 62) (bO _)) (65 et) b2) (517 (712 (pM b17 45 vH (ma 85)) 4 (rW (bM ka (J 4) bu (bO _)) (rV (bM Nc (J 4) 62 (bO _)))).pt et) (712 (pM b17 45 (ma 85) vH) 5 (bM (D6 K rfl) 463 (oC (258 bu bu)) rfl) et) (pU axD 22 bb (258 (552 B4 0 (pM b17 45 vH (ma 85))) (pM b17 45 (ma 85) vH)))))];have jn:=g.jm;rw[B19 (id cg)];refine⟨_,rfl,_,rfl,a,CS,dx,_,_,rfl,84,80,727,mg,_,rfl,b82,_,_,rfl,rfl,.inl m27,?_⟩;rw[dB];rw[A71];rw[show(44*d52)=52 a81 by rw[u6]];have axE:a81≤377:=478 (wa uH jn);have told:=@axB 81 n x af uH;refine⟨_,rfl,c,_,rfl,306 ar,_,rfl,_,rfl,_,_,rfl,rfl,rfl,_,rfl,?_⟩;rw[kH,fa];generalize mA:a81=b0 at axE eE cS told⊢;unfold qh at eE cS told;rw[mA]at eE cS told;refine eo a61 a61
  ·refine eE ?_ H 518;have ai:¬96=b0+n:=16 (by rw[145]at d9;cases d9);simp[ai]
  ·have ai:96=b0+n:=p93 (nk 522) 133;have Sr:(96==b0+n)=01:=by rw[ai];exact 175
   rw[Sr,w3]at eE cS told;have K2:b0≤11 (aT x):=by rw[fa];lia
   refine⟨_,rfl,_,rfl,_,rfl,c,_,rfl,32 ar,fun fW ym=>?_⟩;rw[afJ K2,afL];rw[A63 (aT d84) ym];have SS:334 H fW (aT d84) fW=79 d84:=aI;generalize 521 H fW d84=H1 at s1 SS⊢;refine⟨fW,rfl,223 SS,hN (K:=K) (a:=fW) (xs:=aT d84) (505 (∃v4:93,σ=[248,610,959,71 b0,v4,00]∧H'=H1∧(442 d84).all (58 (555 0 q&&29 (q<44)))=01)) h04 (l28 (683 SS)) ?_ ?_⟩
   ·rintro i y σ H' aC⟨v4,rfl,rfl,dQ⟩;rw[C26 (oL aC)];have bad:(555 0 q&&29 (q<44))=09→910:=100 (by refine eE ?_ H' s1;refine 195;rw[hG]at z;have:=gB.mp z.1 q (cG aw);rw[e]at this;cases this);refine⟨_,rfl,_,_,rfl,rfl,_,rfl,eb g92 g92⟩
    ·exact c8 (bad (b27 (113 (564 210))))
    ·have cM:¬q<0:=16 (cM 139);refine⟨_,rfl,_,rfl,_,_,rfl,rfl,_,rfl,eb n41 n41⟩
     ·exact bad (by rw[decide_eq_false (p:=q<44) (564 (121 qX)),Ak])
     ·have qX:¬44≤q:=16 (qX 139);refine⟨_,rfl,rfl,?_⟩;rw[dZ aw,AN,dQ];simp;lia
   ·rintro σ H'⟨v4,rfl,rfl,dQ⟩;rw[fa,eK]at dQ;rw[dQ,w3]at eE cS told;refine⟨_,rfl,_,rfl,_,rfl,c,_,rfl,32 (s1 _ _ ar),fun fD l1=>?_⟩;rw[afK K2,afM];have s2:=808 (293 (aT g23) l1);have SU:334 H' fD (aT g23) fD=79 g23:=aI;generalize 521 H' fD g23=aB at s2 SU⊢;refine⟨fD,rfl,223 SU,hN (K:=K) (a:=fD) (xs:=aT g23) (i66 93 (σ=[248,610,959,71 b0,v4,ew]∧c81∧(550 b0 i).all (58 (q==0||q==1))=01)) ⟨_,00,rfl,j32,rfl⟩ (l73 _ _ SU) ?_ ?_⟩
    ·rintro i y σ a5 aC⟨Ac,Ar,rfl,s3,FR⟩;rw[C26 (oL aC)];refine⟨_,rfl,338,c32⟩;have s4:=c98 (b05 [372,942]);refine⟨T,[372,942],rfl,.inr e34,rfl,rfl,_,rfl,?_⟩;have axF:(39 01 (! Ai (.int q) [372,942]) (Ai (.int q) [372,942]))=!(q==0||q==1):=by rw[101];show(!(413==q||(15 1==q||09)))=_;rw[wU,BEq.comm (a:=413),BEq.comm (a:=15 1)]
     rw[axF];refine eo 486 486
     ·refine eE ?_ _ n31;refine 195;have:=gB.mp z q (cG aw);rw[this]at aa;cases aa
     ·refine⟨_,_,rfl,s4,?_⟩;rw[dZ aw,AN,FR];have oc:(q==0||q==1)=01:=by cases hz:(q==0||q==1)with|true=>rfl|false=>rw[hz]at aa;cases aa
      simp only[tf,ade,oc];rfl
    ·rintro σ a5⟨Ac,Ar,rfl,s3,FR⟩;rw[fa,eK]at FR;obtain⟨tt,axG,axH⟩:=told FR;have cS:=cS FR;have Ej:=686;refine⟨_,rfl,_,rfl,_,rfl,_,rfl,c,_,rfl,32 (Ej _ _ ar),fun pZ sE=>?_⟩;rw[afJ K2,afL,afH axG];have s4:=Ej.trans (593 (d42 b0) sE);refine⟨a,pZ,sy,n,d42 b0,rfl,622 s4,g,az,aI,tt.dp,tt.nc,uH,fun de d as s5 di=>?_⟩;have B3:=g21;refine⟨_,rfl,_,rfl,_,rfl,c,_,rfl,32 (B3 _ _ ar),fun mS t2=>?_⟩;rw[afK K2,afM,afH axH];have cW:=593 (a13 b0) t2;have afN:334 de mS (a_ (a13 b0)) mS=259 (a13 b0):=aI;have FI:=B3.trans cW;have afO:=b28 cW;generalize 322 de mS (a13 b0)=ft at FI afN afO⊢;refine fun jA dD SP axI aCd=>⟨jA,dD,d,mS,rfl,aI,rfl,?_⟩;have e1:=k43 (.own jA) (.ins C dD []) (.ins C dD (rg d mS)) SP axI;exact cS _ jA dD d mS as (FI.trans e1) aI (afO.same e1) (e1 _ _ afN) tt
structure SV(eh n:Nat):04 where
 cR:1≤n
 iX:n≤3
 axJ:∀i,i≤n*eh→n^i≤20736
 SW:n*eh≤12
theorem axK(af:1≤n)(h:n≤ve eh)(bH:eh≤4):SV eh n:=by
 unfold ve at h;rw[A79 (eh≤2)]
 ·rw[179]at h;have m:n*eh≤6:=478 (wa h ak);refine⟨af,h,e31,03⟩;calc
  n^i≤3^i:=Jr h i
  _≤3^6:=A9 (by decide) (by lia)
  _≤20736:=by decide
 ·rw[146]at h;have m:n*eh≤8:=478 (wa h bH);refine⟨af,03,e31,03⟩;calc
  n^i≤2^i:=Jr h i
  _≤2^8:=A9 (by decide) (by lia)
  _≤20736:=by decide
theorem axL(h:g∈dJ [0,1] n):g.length=n∧∀x∈g,x=0∨x=1:=by have h:g∈600 2 n:=h;obtain⟨af,ak⟩:=xo h;exact⟨af,276 (564 (ak x ai))⟩
theorem afP{v:b7}(e:f01):b91=some 95:=p92 (s.start.map _=_)
theorem afQ{v:b7}(e:083=54):b99=some 95:=p92 (s.goal.map _=_)
abbrev afR:bK:=bA 0x20
theorem afS:31 [36,f15,"all_goods",k42,396,257,256,366,883] i82 afR:=⟨rfl,rfl,rfl,05,rfl,05,05⟩
inductive SX(CM:ag)(CS:ag)(vs:08)(H:av)(Q:aW)(E:bD):04|mk:∀(a:ag)(s:dt)(n:Nat)(v u:b7),vs=349 b10→597→51→SV 37 n→f01→083=56→(xn s n v u=00→847)→(∀x,xn s n v u=43→c57 (416=259 x→96≤0x64→412))→SX CM CS vs H Q E
theorem axM(D:cq K ah n82 afR i82 f fd)(O:347)(bJ:268)(nN:Pr P w K ah 02 aO 1 f18 c24 (A8 K))(B4:Pr P w K ah 02 aO 2 k41 f75 (KW CM CS))(m7:Pr P w K ah 02 aO 1 f17 c54 BK)(B2:Pr P w K ah 02 aO 2 k40 g18 (KY CM))(B1:Pr P w K ah 02 aO 1 k39 [883,366] KV):Pr P w K ah 02 aO 3 n82 i82 (SX CM CS):=by
 rw[A29 afS]
 ·obtain⟨a,s,n,v,u,rfl,_⟩:=h;rfl
 ·obtain⟨a,s,n,v,u,rfl,cg,wf,l9,ev,kO,eE,cS⟩:=h;have S:=afS;rw[A01 (389 2 (552 nN 1 (a62 bu)) (e_ eL rfl (339 (a58 nN (eu vB 62 017) (l_ h19 66 O.list Ba (78 (l_ Et 66 971 xS 296))))) (98 3 rfl 70) (90 4 (bj B4 22 bb (77 0 3 ay)) (94 5 (bj m7 22 bb (aj (J 4) (258 59 bu)))) (90 6 (bj m7 22 bb (aj (J 4) (258 59 bu))) (bX (bM fv (J 5) 868 (bO _)) (aM Hl) b2) (018 7 (552 B2 4 59) (712 45 8 (vu (bM fv (440 (J 8) 463) bu (bO _)) (vu (bM fv (440 (J 8) 868) bu (bO _)) (xM (348 (bj B1 22 bb (77 8 7 ay)))))).pt (eu pO 85 (J 8))))))) et)];have jn:=wf.jn;have cR:=l9.cR;have iX:=l9.iX;have afT:=wf.st v ev;have afU:=wf.gl u kO;refine⟨_,rfl,338,fun EA mU=>?_⟩;rw[A63 [372,942] mU];refine⟨EA,n,a_ [0,1],rfl,e42,03,14,e31,fun aB dq axN s2 afV=>?_⟩
  ·show 2^i≤20736;calc
   2^i≤2^3:=A9 (by decide) (by lia)
   _≤20736:=by decide
  have pa:dJ (a_ [0,1]) n=(dJ [0,1] n).map a_:=CN j80 [0,1] n;rw[pa]at afV;rw[A98];rw[B47 b97];refine⟨_,rfl,_,rfl,a,CS,dx,_,_,rfl,84,80,727,mg,_,rfl,a12 (636 37 12),_,_,rfl,rfl,.inl m27,?_⟩;refine⟨_,rfl,44,rfl,g82⟩;have s3:=964 (.pz 0 44) rL;refine⟨t9,n,rfl,aI,03,g87⟩;have s4:=593 057 jz;refine⟨cl,897,a_ 057,(by show[426 (44*320 (aP 60)),882 cl]=_;rw[dB,u6]),e42,l9.SW,p91,618 (p90 (l9.axJ i hi)),fun de pl as s5 jg=>?_⟩;have i0:dJ (a_ 057) 897=(600 n 897).map a_:=CN j80 057 _;rw[i0]at jg;have afW:=547 b84 s4 s5;have axO:=((afV.same s3).same s4).same s5;unfold xn at eE cS;have axP:∀l∈600 n 897,63=897∧e89 q n:=h40 (xo ax);refine⟨pl,rfl,223 jg.lst,hN (K:=K) (a:=pl) (xs:=317) (505 (∃fb v4 ew v6 fM ia:93,σ=[248,610,46 dq,fb,v4,ew,v6,fM,ia]∧480 de∧a67 (442 (600 n 897)) (973 (13 (778=cP (dy 37 n l) u 0) 00 ((382 (dJ [0,1] n) (563 ((914 v 0==1)&&(914 u 0==0)&&019 l g))).map (563 (l++g))))))) ⟨00,00,00,00,00,00,rfl,881 de,rfl⟩ (fun i σ H' _⟨_,_,_,_,_,_,_,cW,_⟩=>32 (310 jg.lst)) ?_ ?_⟩
  ·rintro i y σ ft aC⟨fb,v4,ew,v6,fM,ia,rfl,cW,cy⟩;obtain⟨b,lv,aa,w4,rfl,eM⟩:=jg.get aC;rw[cK]at w4;obtain⟨l,ax,rfl⟩:=pP.mp w4;obtain⟨dp,lN⟩:=axP l (cG ax);have ux:=afW.trans cW;have k_:=SA dp lN;refine⟨_,rfl,_,rfl,a,b,26,n,l,rfl,622 ux,078,813,310 eM,dp,03,03,fun gS d ad e1 di=>?_⟩;have afX:=m74;obtain⟨SY,axQ,axR,FT⟩:=622 afX;have di:nX gS d ad 60 (dy 37 n l):=di;refine⟨_,rfl,_,rfl,a,CS,SY,_,_,rfl,FT.at_,80,880,tT,?_⟩;rw[afP ev];refine⟨d,ad,60,dy 37 n l,n,95,0,rfl,di,k_,sM afT.2,03,?_⟩;rw[th 813 _ afT.2];refine⟨_,rfl,_,rfl,a,CS,SY,_,_,rfl,FT.at_,80,969,tU,?_⟩;rw[afQ kO];refine⟨d,ad,60,dy 37 n l,n,b01,0,rfl,di,k_,sM afU.2,03,?_⟩;rw[th 813 _ afU.2];refine⟨_,rfl,_,rfl,rfl,_,rfl,?_⟩;rw[kH];have h5:778<n:=ou k_ v 03;have JW:cP (dy 37 n l) u 0<n:=ou k_ u 03;by_cases eq:778=cP (dy 37 n l) u 0
   ·rw[102 (by rw[eq])];exact c8 ⟨_,_,_,_,_,_,rfl,n18,BJ ax cy (970 (21 eq))⟩
   ·rw[133];rw[A21 ⟨_,rfl,_,rfl,a,CS,SY,_,_,rfl,FT.at_,80,472,kE,d,axQ,ad,axR,60,dy 37 n l,n,972,rfl,di,k_,03,03,FT.lst,FT.all,813,jn,k38 (wf.K1 hm),wf.mx,fun qS pp us cm gW qg j4=>?_⟩];have axS:=afC k_ 03 j4;have axT:=afX.trans gW;have S0:=35 n18 gW;have K3:=axO.same S0;have axU:=S0 _ _ eM;refine⟨_,rfl,dq,rfl,223 K3.lst,hN (K:=K) (a:=dq) (xs:=axN.map 502) (f16 (∃ia:93,σ=[248,610,46 dq,46 b,872,71 (778:Nat),71 (cP (dy 37 n l) u 0:Nat),46 pp,ia]∧H'=qS∧382 (528 (dJ [0,1] n)) (563 ((914 v 0==1)&&(914 u 0==0)&&019 l g))=00)) (072 _ rfl) (fun j σ H' _⟨_,_,e,_⟩=>683 K3.lst) ?_ ?_⟩
    ·rintro j y σ H' aC⟨axV,rfl,rfl,n2⟩;obtain⟨pw,L3,aCe,afY,rfl,K4⟩:=K3.get aC;rw[cK]at afY;obtain⟨lT,vS,rfl⟩:=pP.mp afY;obtain⟨gl,axW⟩:=axL (cG vS);have tt:y8 37 n l lT:=⟨03,03,dp,lN,gl,axW⟩;have mA:tn lT cm=019 l lT:=Vr tt.nc tt.dp tt.lN tt.pw tt.gl (k38 (wf.K1 hm)) j4;refine⟨_,rfl,_,rfl,pw,_,_,_,rfl,rfl,32 K4,fm (BW (by rw[gl];exact h5)),rfl,_,rfl,?_⟩;rw[kH,88 (762 (lT.getD 778 0:Nat) 1=_) (FK _ 1)];refine eo (fun fA=>?_) (fun fA=>?_)
     ·refine⟨_,rfl,_,rfl,pw,_,_,_,rfl,rfl,32 K4,fm (BW (by rw[gl];exact JW)),rfl,_,rfl,?_⟩;rw[kH,88 (762 (lT.getD (cP (dy 37 n l) u 0) 0:Nat) 0=_) (FK _ 0)];refine eo (fun kd=>?_) (fun kd=>?_)
      ·refine⟨_,rfl,_,rfl,pw,pp,us,cm,lT,n,rfl,K4,gl,qg,axS,_,rfl,?_⟩;rw[mA];refine eo (fun iY=>?_) (fun iY=>?_)
       ·have gC:=Fn ax cy (y:=l++lT) (by rw[23 eq,Fm vS n2 p89];rfl);refine⟨_,rfl,_,rfl,b,pw,_,_,rfl,rfl,axU,K4,?_,849⟩
        ·rw[hn,hn,dp,gl];have:=l9.SW;rw[A37 (show 255 by lia)]
        ·have i_:=293 (a_ l++a_ lT) c1;refine cS (l++lT) gC _ r (axT.trans i_) (by rw[aI,AW]) ?_;rw[cn,dp,gl];have:=l9.SW;lia
       ·exact⟨_,rfl,rfl,y0 vS n2 p89⟩
      ·exact b_ (072 _ (y0 vS n2 (by rw[fA,kd];rfl)))
     ·exact b_ (072 _ (y0 vS n2 (by rw[fA];rfl)))
    ·rintro σ H'⟨axV,rfl,rfl,n2⟩;rw[ba,K3.len,ba,eK]at n2;exact⟨_,_,_,_,_,_,rfl,S0,BJ ax cy (by rw[23 eq,n2];rfl)⟩
  ·rintro σ ft⟨fb,v4,ew,v6,fM,ia,rfl,cW,cy⟩;rw[ba,jg.len,ba,eK]at cy;exact eE cy ft (afW.trans cW)
abbrev afZ:bK:=bA 0x1e
theorem af0:488 [36,f15,726] afZ:=⟨rfl,rfl,rfl,05,rfl,05,05⟩
inductive S1(CM:ag)(CS:ag)(vs:08)(H:av)(Q:aW)(E:bD):04|mk:∀(a:ag)(s:dt)(v u:b7),vs=254→597→51→f01→083=56→(tp s v u=00→847)→(∀z,tp s v u=415→∀H' t p,49→H' t=294 [769,280]→416=259 z.2→h39≤0x64→435 t)→S1 CM CS vs H Q E
theorem axX(D:cq K ah n79 afZ 50 f fd)(O:347)(S2:Pr P w K ah 02 aO 1 n83 50 (Sy CM CS))(S3:Pr P w K ah 02 aO 3 n82 i82 (SX CM CS)):Pr P w K ah 02 aO 4 n79 50 (S1 CM CS):=by
 rw[A29 af0]
 ·obtain⟨a,s,v,u,rfl,_⟩:=h;rfl
 ·obtain⟨a,s,v,u,rfl,cg,wf,ev,kO,eE,cS⟩:=h;have S:=af0;rw[A01 (239 (e_ eL rfl (M1 rfl 971 (258 bu (eu qH (340 S2) bu))) (98 1 rfl 70) (018 2 (bj S3 22 bb (77 0 1 ay)) (bX (bM tI (J 2) et (bO _)) (65 (oC (462 1 2))) b2))) et)];have jn:=wf.jn;unfold tp at eE cS;refine⟨_,rfl,a,26,rfl,cg,078,_,_,rfl,rfl,?_⟩;rw[108 (26).letters.length 37];have axY:i51≤3:=by unfold ve;split<;>lia
  have af1:∀k,k<i51→SV 37 (k+1):=fun k aS=>axK 03 03 jn;generalize i51=mo at axY af1 eE cS;refine⟨1,(15 mo+1),rfl,⟨03,03,03,03⟩,xV (lo:=1) (n:=271 (15 mo+1-1)) (505 (∃v1 v2:93,σ=[248,v1,v2]∧49∧a67 (bz i) (450 (g60 (xn s (k+1) v u) (k+1,x))))) ⟨00,00,rfl,518,rfl⟩ ?_ ?_⟩
  ·rintro i σ H1 hi⟨v1,v2,rfl,s1,cy⟩;have hi:i<mo:=03;have ai:(bz mo)[i]?=604:=sY hi;have bk:442 (bz mo)=bz i:=by rw[adK,177]
   have wy:221 (bz mo) (i+1)=bz (i+1):=by rw[adK,177]
   rw[←bk]at cy;rw[show 15 1+249=52 (i+1)by lia];refine⟨_,rfl,_,rfl,a,s,i+1,v,u,rfl,519,wf,af1 i hi,ev,kO,j91,fun x aR aB p s2 au K5=>?_⟩
   ·refine⟨_,rfl,rfl,_,rfl,b_ ⟨_,_,rfl,332,?_⟩⟩;rw[←wy];exact BJ ai cy n81
   ·refine⟨_,rfl,rfl,_,rfl,c8 ⟨_,rfl,_,rfl,338,fun t m5=>?_⟩⟩;have s3:=822 [48 (i+1:Nat),280] m5;exact cS (i+1,x) (Fn ai cy n80) _ t p e73 aI (83 au) K5
  ·rw[C89];rw[show 271 (15 mo+1-1)=mo by lia]at cy;exact eE cy H1 s1
abbrev af2:bK:=bA 0x8f
theorem af3:488 [36,f14,726] af2:=⟨rfl,rfl,rfl,05,rfl,05,05⟩
theorem af4(f:b7→b7→Ck):(kN 26<0∧oh s f=[kN 26])∨(¬kN 26<0∧∃v u,f01∧083=56∧oh s f=f v u):=by
 unfold kN oh Gr Cv;rw[108 b91 d56,108 b99 d60]
 cases aK:s.start with
  |none=>rw[A23 (by rw[GN,101];decide) (by rw[GN,101])]
  |some v=>
   rw[wX,144]
   cases aG:s.goal with|none=>rw[A23 (by rw[GN,101];decide) (by rw[GN,101])]|some u=>rw[A09 ⟨by rw[wX,144];decide,v,u,rfl,rfl,rfl⟩]
theorem axZ(D:cq K ah "seek" af2 50 f fd)(m6:Pr P w K ah 02 aO 1 c97 50 (yZ CM CS))(S4:Pr P w K ah 02 aO 4 n79 50 (S1 CM CS)):Pr P w K ah 02 aO 5 "seek" 50 (FA CM CS .seek):=by
 rw[A29 af3]
 ·rw[C25];rfl
 ·rw[C88];have S:=af3;rw[A01 (90 1 (340 m6) (318 (bM ka (J 1) bu (bO _)) 296) (389 2 (340 S4) (318 (bM jX (J 2) et (bO _)) 755) (eu pO (a62 c63) c63)))];rw[←ai5 wf]at k;unfold Mu at k;refine⟨_,rfl,a,26,rfl,cg,_,rfl,_,_,rfl,rfl,_,rfl,?_⟩;rw[C87 (af4 (s:=s) (f:=_))]
  ·rw[A80];rw[102 af];exact c8 ⟨_,rfl,371,367 (k _ p 116 au aI)⟩
  ·rw[A80];rw[113 af];rw[A21 ⟨_,rfl,a,s,v,u,rfl,cg,wf,ev,kO,c11,fun z aR H1 t p s1 bk au hz=>?_⟩]
   ·rw[e7]at k;exact⟨_,rfl,rfl,_,rfl,c8 (387 1 (k _ p 828 904 aI))⟩
   ·rw[aR]at k;have k:gx H Q (0::649::b6 z.2):=k;refine⟨_,rfl,rfl,_,rfl,b_ ⟨_,rfl,t,_,_,769,rfl,rfl,g85,f02,338,458⟩⟩;rw[A77 [372,769] aw];refine⟨_,rfl,t,_,_,280,rfl,rfl,448 (106 bk),e61 1,q,p,_,_,rfl,rfl,aI,106 au,h38 (gY (636 (2+_) _)),849⟩;refine k _ r g42 g70 ?_;rw[aI,sG];rfl
theorem af5(t:y8 eh n l g){v:b7}(a3:669 (i<eh)):(747 (cP (dy eh n l) v 0)==1)=lC (gD n eh l g) v:=by unfold lC;rw[xm,←lB (g:=g) t.dp t.lN a3 t.nc]
structure ax0(s:dt)(n:Nat)(x:10)(v u:b7)(ib:10):04 where
 no:qh 37 n x=09→ib=[-0xb]
 st:qh 37 n x=01→lC a79 v=09→ib=[1]
 cw:∀i,qh 37 n x=01→lC a79 v=01→(d30 (131 (! jr a79 y)))=604→ib=[2,249]
 gl:qh 37 n x=01→lC a79 v=01→(d30 (131 (! jr a79 y)))=00→ib=[39 (lC a79 u) 3 0]
theorem ax1{x:10}{v u:b7}(af:1≤n)(bH:n≤4)(ev:f01)(kO:083=56):ax0 s n x v u (il s (g54 44)):=by
 have e:il s (g54 44)=39 (qh 37 n x) (match CQ s a79 v u with|none=>[0]|some (1,_)=>[1]|some (2,i)=>[2,249]|some _=>[3]) [-0xb]:=by unfold qh;show oh s _=_;unfold oh Gr Cv;rw[ev,kO];simp only;rw[124,kA];rfl
 rw[e];unfold CQ;refine⟨312 (970 208),fun h a=>?_,fun i h a b=>?_,fun h a b=>?_⟩
 ·rw[114,a];rfl
 ·rw[114,a,107,b];rfl
 ·rw[114,a,107,b];rw[A11]
  cases lC a79 u with|true=>rfl|false=>rfl
abbrev af6:bK:=bA 0x8e
theorem af7:31 [36,f15,381,f14,f13,365] a29 af6:=⟨rfl,rfl,rfl,05,rfl,05,05⟩
theorem ax2(D:cq K ah h37 af6 a29 f fd)(bJ:268)(M:FJ K C)(ax3:220 "MOST_STATES" 4)(yB:220 i24 (-7))(Su:220 n78 (-0xb))(m6:Pr P w K ah 02 aO 1 c97 50 (yZ CM CS))(S5:Pr P w K ah 02 aO 3 n77 a29 (SR C CM CS))(K6:jb P w K ah 02 aO 2 C n76 j25 (Sx C))(S6:Pr P w K ah 02 aO 3 n75 i74 (SO C CM CS)):Pr P w K ah 02 aO 4 h37 a29 (FC CM CS .machine):=by
 rw[A29 af7]
 ·obtain⟨a,c,s,z,x,rfl,_⟩:=h;rfl
 ·obtain⟨a,c,s,z,x,rfl,cg,wf,ar,k⟩:=h;have S:=af7;rw[A01 (90 3 (340 m6) (318 (bM ka (J 3) bu (bO _)) 846) (aF (a49 (rW (bM ka (J 1) bu (bO _)) (rV (bM oA (J 1) (dq ax3) (bO _)))).pt yB) (aF (94 4 (437 S5 0 1 2)) (aF (e35 4 Su) (aF (318 (g91 (pm K6 20 22 bb 327 010)) 755) (389 5 (bj S6 22 bb (77 0 4 ay)) (318 (bM tI (J 5) et (bO _)) (c35 bu 5)) (c28 (pE (348 (pm K6 20 22 bb 327 010)) bu bu))))))))];have fin:∀{dM:av}{p:ag}{l:10},786→dM p=00→il s (g54 z)=l→664 (521 dM p l):=p88 (k _ p i84 j18 (by rw[aI,e]));refine⟨_,rfl,a,26,rfl,cg,_,rfl,_,_,rfl,rfl,_,rfl,?_⟩;have v_:∃f,il s (g54 z)=oh s f∧((z<1∨4<z)→∀v u,f v u=[-7]):=123 (fun h v u=>by simp only;rw[114]);obtain⟨ax4,v_,EE⟩:=v_;rw[C87 (af4 (s:=s) ax4)]
  ·rw[102 af];exact c8 ⟨_,rfl,371,367 (fin 518 au (v_.trans ak))⟩
  ·rw[113 af];rw[A21 ⟨_,rfl,_,_,rfl,rfl,_,rfl,359⟩]
   ·exact e50 518 (v_.trans (ak.trans (EE (.inl 104) v u)))
   ·have h:¬z<1:=952;refine⟨_,rfl,_,_,rfl,rfl,_,rfl,eb (fun a6=>?_) (fun a6=>?_)⟩
    ·exact 387 1 (fin 518 au (v_.trans (ak.trans (EE (.inr (121 a6)) v u))))
    ·have a6:¬4<z:=58 (a6 i54);clear v_ EE ak;rw[B69 (z=44) j05];have jA:=ax1 (s:=s) (n:=n) (x:=x) 03 03 ev kO;have wv:=(wf.st v ev).2;have S7:=(wf.gl u kO).2;refine⟨_,rfl,_,rfl,_,rfl,a,c,26,n,x,rfl,cg,078,813,ar,03,03,c11,fun aR H1 dG dD d g as s1 g_ di a4 tt=>?_⟩
     ·exact⟨_,rfl,rfl,_,rfl,e50 s1 (jA.no e7)⟩
     ·have aR:qh 37 n x=01:=aR;have di:nX H1 d as 60 (dy 37 n i36):=di;have tt:y8 37 n i36 i39:=tt;have a4:H1 g=259 i39:=a4;have ax5:=jA.st aR;have ax6:=425 (jA.cw i aR);have ax7:=jA.gl aR;clear jA;generalize i36=l at*;generalize i39=c_ at*;have k_:=SA tt.dp tt.lN;rw[B47 519];refine⟨_,rfl,rfl,_,rfl,b_ ⟨_,rfl,dG,dD,_,rfl,g_,aff,_,rfl,a,CS,dx,_,_,rfl,84,80,880,tT,?_⟩⟩;rw[afP ev];refine⟨dG,dD,d,g,as,60,dy 37 n l,n,c_,95,rfl,g_,di,k_,tt.nc,a4,tt.gl,sM wv,_,rfl,?_⟩;rw[th 813 _ wv,af5 tt wv]
      cases a3:lC (gD n 37 l c_) v with
       |false=>exact e50 s1 (ax5 a3)
       |true=>
        rw[A21 ⟨_,rfl,_,rfl,a,dG,dD,d,g,as,s,n,l,c_,rfl,519,wf,g_,di,a4,tt,j91,fun i hg aB s2=>?_⟩]
        ·rw[A98];obtain⟨oT,aCf,aCg,ur⟩:=b97;refine⟨_,rfl,rfl,_,rfl,b_ ⟨_,rfl,dG,dD,_,rfl,106 g_,aff,_,rfl,a,CS,oT,_,_,rfl,h36,80,969,tU,?_⟩⟩;rw[afQ kO];refine⟨dG,dD,d,g,as,60,dy 37 n l,n,c_,b01,rfl,106 g_,b28 s2,k_,tt.nc,106 a4,tt.gl,sM S7,_,rfl,?_⟩;rw[th 813 _ S7,af5 tt S7];have K7:=ax7 a3 e7
         cases bp:lC (gD n 37 l c_) u with|true=>rw[bp,101]at K7;exact e50 ho K7|false=>rw[bp,107]at K7;exact b_ (387 1 (fin ho au K7))
        ·exact⟨_,rfl,rfl,_,rfl,c8 ⟨_,rfl,338,367 (fin 332 au (ax6 i a3 hg))⟩⟩
end
section
variable{A:rT}{C CM CS D I a b bG c d dx f i1 i2 it p t:ag}{E Q:aH→aZ→Prop}{F cm:List (List Nat)}{FX ab:Bool}{K:bo}{N ps sn:List Str}{P prog:f3}{R:Result→aZ→Prop}{Rd fD pos:Pos}{S:ag→Prop}{T:String}{a0 sub us vs:List aH}{aD as iJ jG:List ag}{aG e iter:dn}{aR:Array Il}{acc:List (Str×ag)}{agX bx doc ek f1 ig res u:aH}{agg o:Obj}{ah:Str→Option aH}{pins:List (ag×Obj)}{an az cQ dd func:Option ag}{k0 k1 k2 k3 k5:Option aH}{c0 cR dS i j n t':Nat}{base h h':dk}{g l ls:List Nat}{cl:Str→Option ag}{col:Option Bool}{ms ns r:List Int}{dP k7:Array (Option aH)}{done:List (Nat×List Int)}{e8 α β:Type}{fd:k6}{g':Array Qp}{gc ic:Nat→dk→Prop}{items:Array aH}{n3 ri:Nat→aH→Prop}{name qual x:Str}{outer:List Env}{own:List (Str×Nat)}{pl:Sem Bool}{q:Search}{s s':dt}{sc:rp}{tk:Tok}{v:Word}{w:ff}{m:g0}{sy:cv}{cb:List (Option ae)}{kvs:List (List cF×ae)}{xs ys:List ae}{y:ae}{H H' H1 aB:av}{bC:dz}{X:dT}{bW g7 to:ct}{tb:gH}{z:Nat×hr}
abbrev ll(h:dk)(z TI TO:ag)(f0 f1:aH):04:=654 z (l84 002 (504 #[f0,f1,004,g59,.ref TO]))
def ax8(h:dk)(f0:aH):04:=f0=.none∨∃(T:ag)(o:Obj),f0=a96∧558 T
section
variable{s:aZ}
theorem ax9{Q:456 831}(h:Q (879 a) s):a9 289 A (loadIfAlive a) Q E s:=by intro aCh p hΓ;exact h
structure uI(z TI TO i1 i2:ag)(iJ jG:27):04 where
 hQ:z∉iJ
 es:z∉jG
 o1:TO∉iJ
 o2:TO∉jG
 i12:i1∉jG
 af8:i2∉iJ
 TIz:TI≠z
 TOz:TO≠z
 aya:TI≠TO
 af9:TI≠i1
 aga:TI≠i2
 hx:i1∈iJ
 ip:i2∈jG
variable{z TI TO:ag}
theorem ayb{a b:aH}(D:uI z TI TO i1 i2 iJ jG)(d2:lW P w A i1 iJ cR n3 gc)(dE:lW P w A i2 jG dS ri ic)(hz:ll 28 z TI TO 87 f1)(gX:j2 28 TI 918 a46)(kD:j2 28 TO a b)(af:gc i 28)(ak:ic i 28)(eY:i<cR)(dW:i<dS)(g6:n73 (n3 i x→ri i y→ll h' z TI TO (hM 18) 004→j2 h' TO x y→gc (i+1) h'→ic (i+1) h'→j2 h' 18 x y→(729 (c≠z→c≠TO→c≠i1→c≠i2→586 c→957))→Q 277 620)):a9 289 A (i34 [344] []) (fun fin s'=>∃v,fin=j35 v∧Q v s') E s:=by
 rw[C86];have hQ:z≠i1:=g40;have es:z≠i2:=100 m28;have o1:TO≠i1:=100 (D.o1 (e▸D.hx));have o2:TO≠i2:=100 (D.o2 (e▸D.ip));show a9 _ _ (065 2>>=_) _ _ _;rw[A57 004];show a9 _ _ (065 3>>=_) _ _ _;rw[A57 g59];rw[A00 (uv gX rfl ?_)];show a9 _ _ (y9 344>>=_) _ _ _;rw[A28];unfold y9;rw[A00 (lU hz rfl (x:=87) rfl 345)];rw[C24];rw[A00 (S8 ?_)];rw[A57 (.ref TO)];rw[A00 (FU hz 19 (h33 ?_))];replace nW:ll g1 z TI TO h34 f1:=nW;replace aK:ox z au g1:=aK;have oH:gc i g1:=d2.frame _ _ _ af (d46 _ _ g04 e);have qY:ic i g1:=dE.frame _ _ _ ak (d46 _ _ m79 e);have ayd:j2 g1 TO a b:=g68 _ D.TOz kD;rw[A28];rw[C85];rw[B15 (Qw ?_)];show a9 _ _ (FV 918>>=_) _ _ _;rw[A00 (d2.item i _ _ _ eY oH (p86 345))];replace aG:ox i1 g1 g2:=aG;have agb:j2 g2 TO a b:=c25 _ o1 ayd;rw[A00 (uv agb rfl ?_)];rw[A00 (ayf agb (fun g3 S_ cp=>?_))];replace S_:j2 g3 TO x b:=S_;replace cp:ox TO g2 g3:=cp;rw[A00 (ac6 345)];have Ta:ic i g3:=dE.frame _ _ _ qY (512 (e32 _ (58 (D.o2 811)) (c25 _ (58 (D.i12 811)) e)));have ayg:gc (i+1) g3:=d2.frame _ _ _ S9 (512 (e32 _ (58 (D.o1 811)) e));rw[B15 (Qw ?_)];show a9 _ _ (FV a46>>=_) _ _ _;rw[A00 (dE.item i _ _ _ dW Ta (p85 345))];replace ej:ox i2 g3 ey:=ej;have agc:j2 ey TO x b:=c17 _ o2 S_;rw[A00 (uv agc rfl ?_)];rw[A00 (ayf agc (fun gi K8 nv=>?_))];replace K8:j2 gi TO x y:=K8;replace nv:ox TO ey gi:=nv;rw[A00 (ac6 (cx 345))];rw[A00 (uv K8 rfl ?_)];rw[A00 (wpAny_newTuple ?_)];have hsz:c96=au.objs.size:=by rw[nv.1,ej.1,cp.1,aG.1,aK.1]
 have agd:ll gi z TI TO h34 f1:=nv.extBut _ _ D.TOz.symm (c17 _ es (e32 _ D.TOz.symm (c25 _ hQ nW)));have ayh:729 (c≠z→c≠TO→c≠i1→c≠i2→au.get? c=25→gi.get? c=25):=p87 (nv.extBut _ _ kd (c17 _ nI (e32 _ kd (c25 _ iY (g68 _ fA e)))));have bg:gc (i+1) gi:=d2.frame _ _ _ ayg (512 (nv.extBut _ _ (58 (D.o1 811)) (c17 _ (58 (D.af8 811)) e)));have cf:ic (i+1) gi:=dE.frame _ _ _ Tb (512 (nv.extBut _ _ (58 (D.o2 811)) e));have age:z<c96:=dm agd;show a9 _ _ (ayi 344 (.ref c96)>>=_) _ _ _;rw[A28];unfold ayi;have ayj:ll (gi.push (c01 #[x,y])) z TI TO h34 f1:=dY _ agd;rw[A00 (FU ayj 19 (fun ayk Tc vi=>?_))];replace Tc:ll ayk z TI TO (hM c96) f1:=Tc;refine FU Tc 19 (fun K9 K_ zP=>?_);replace K_:ll K9 z TI TO (hM c96) 004:=K_;have up:729 (c≠z→gi.get? c=25→K9.get? c=25):=fun c o fA e=>zP.extBut _ _ fA (vi.extBut _ _ fA 130);have FW:j2 K9 c96 x y:=zP.extBut _ _ (lF age) (vi.extBut _ _ (lF age) 111);rw[hsz]at K_ FW;refine cx 951;show 515 c96 _;rw[hsz];exact g6 x y K9 _ y_ py K_ (up _ _ D.TOz K8) (d2.frame _ _ _ bg (512 (up _ _ g04 e))) (dE.frame _ _ _ cf (512 (up _ _ m79 e))) FW (p87 (up c o fA (ayh c o fA kd iY nI e)))
theorem agf{T:ag}(hz:ll 28 z TI TO a96 j58)(bR:393 T agg){Q:456 571}(q:∀g1,ll g1 z TI TO a96 d71→ox z 28 g1→Q 09 {s with heap:=g1}):a9 289 A (y9 344) Q E s:=by
 unfold y9;rw[A57 a96];show a9 _ _ (loadIfAlive (hT (15 T))>>=_) _ _ _;rw[A00 (ax9 ?_)];rw[kA,bR];show a9 _ _ (065 1>>=_) _ _ _;rw[A57 j58]
 cases FX with|true=>exact cx (q 28 hz (Heap.SameBut.refl _ _))|false=>show a9 _ _ (setField 344 1 d71>>=_) _ _ _;exact a7 (FU hz 19 (h33 (cx (q g1 nW aK))))
theorem ayl{T:ag}(D:uI z TI TO i1 i2 iJ jG)(d2:lW P w A i1 iJ cR n3 gc)(dE:lW P w A i2 jG dS ri ic)(hz:ll 28 z TI TO a96 j58)(bR:393 T agg)(gX:j2 28 TI 918 a46)(af:gc i 28)(ak:ic i 28)(eY:i<cR)(dW:i<dS)(g6:n73 (n3 i x→ri i y→ll h' z TI TO a96 d71→gc (i+1) h'→ic (i+1) h'→j2 h' 18 x y→(729 (c≠z→c≠i1→c≠i2→586 c→957))→Q 277 620)):a9 289 A (i34 [344] []) (fun fin s'=>∃v,fin=j35 v∧Q v s') E s:=by
 rw[C86];have hQ:z≠i1:=g40;have es:z≠i2:=100 m28;show a9 _ _ (065 2>>=_) _ _ _;rw[A57 004];show a9 _ _ (065 3>>=_) _ _ _;rw[A57 g59];rw[A00 (uv gX rfl ?_)];show a9 _ _ (y9 344>>=_) _ _ _;rw[A00 (agf hz bR (h33 ?_))];replace aK:ox z au g1:=aK;have oH:gc i g1:=d2.frame _ _ _ af (d46 _ _ g04 e);have qY:ic i g1:=dE.frame _ _ _ ak (d46 _ _ m79 e);rw[107];rw[C84];rw[B15 (a7 (oz ?_))];show a9 _ _ (FV 918>>=_) _ _ _;rw[A00 (d2.item i _ _ _ eY oH (p86 (cx 345)))];replace aG:ox i1 g1 g2:=aG;have Ta:ic i g2:=dE.frame _ _ _ qY (512 (c25 _ (58 (D.i12 811)) e));rw[B15 (oz ?_)];show a9 _ _ (FV a46>>=_) _ _ _;rw[A00 (dE.item i _ _ _ dW Ta (p85 (c49 345)))];replace ej:ox i2 g2 ey:=ej;show a9 _ _ (newTuple [x,y]>>=_) _ _ _;rw[A00 (wpAny_newTuple ?_)];have hsz:n74=au.objs.size:=by rw[ej.1,aG.1,aK.1]
 have Q2:ll ey z TI TO a96 d71:=c17 _ es (c25 _ hQ nW);have ayn:729 (c≠z→c≠i1→c≠i2→au.get? c=25→ey.get? c=25):=p84 (c17 _ nI (c25 _ iY (g68 _ fA e)));have bg:gc (i+1) ey:=d2.frame _ _ _ S9 (512 (c17 _ (58 (D.af8 811)) e));refine cx 951;have FW:j2 (ey.push (c01 #[x,y])) n74 x y:=111;rw[hsz]at FW;show 515 n74 _;rw[hsz];exact g6 x y _ _ y_ py (dY _ Q2) (d2.frame _ _ _ bg (512 130)) (dE.frame _ _ _ Tb (512 130)) FW (p84 (dY _ (ayn c o fA iY nI e)))
theorem ayo{Q:456 Fin}(D:uI z TI TO i1 i2 iJ jG)(d2:lW P w A i1 iJ cR n3 gc)(hz:ll 28 z TI TO 87 f1)(gX:j2 28 TI 918 a46)(af:gc cR 28)(ET:∀h' e,(729 (c≠z→c≠i1→586 c→957))→(∃o,b81 e∧781 i46)→E 768 538):a9 289 A (i34 [344] []) Q E s:=by have hQ:z≠i1:=g40;show a9 _ _ (065 2>>=_) _ _ _;rw[A57 004];show a9 _ _ (065 3>>=_) _ _ _;rw[A57 g59];rw[A00 (uv gX rfl ?_)];show a9 _ _ (y9 344>>=_) _ _ _;rw[A28];unfold y9;rw[A00 (lU hz rfl (x:=87) rfl 345)];rw[C24];rw[A00 (S8 ?_)];rw[A57 (.ref TO)];rw[A00 (FU hz 19 (h33 ?_))];replace nW:ll g1 z TI TO h34 f1:=nW;have oH:gc cR g1:=d2.frame _ _ _ af (d46 _ _ g04 e);rw[A28];rw[C85];rw[B15 (Qw ?_)];show a9 _ _ (FV 918>>=_) _ _ _;rw[A00 (d2.done _ _ _ oH (fun g2 e aG he=>?_))];obtain⟨iH,Td,H6⟩:=he;have mZ:ll g2 z TI TO h34 f1:=aG _ _ hQ nW;have ayp:e≠z:=72 (by subst x;rw[mZ]at Td;cases Td;simp at H6);exact FU mZ 19 (fun g3 _ cp=>ET g3 e (fun c o fA iY x=>e32 _ fA (aG _ _ iY (g68 _ fA x))) ⟨iH,e32 _ ayp Td,H6⟩)
theorem ayq{T:ag}{Q:456 Fin}(D:uI z TI TO i1 i2 iJ jG)(d2:lW P w A i1 iJ cR n3 gc)(hz:ll 28 z TI TO a96 j58)(bR:393 T agg)(gX:j2 28 TI 918 a46)(af:gc cR 28)(ET:∀h' e,(729 (c≠z→c≠i1→586 c→957))→(∃o,b81 e∧781 i46)→E 768 538):a9 289 A (i34 [344] []) Q E s:=by have hQ:z≠i1:=g40;show a9 _ _ (065 2>>=_) _ _ _;rw[A57 004];show a9 _ _ (065 3>>=_) _ _ _;rw[A57 g59];rw[A00 (uv gX rfl ?_)];show a9 _ _ (y9 344>>=_) _ _ _;rw[A00 (agf hz bR (h33 ?_))];have oH:gc cR g1:=d2.frame _ _ _ af (d46 _ _ g04 e);rw[107];rw[C84];rw[B15 (a7 (oz ?_))];show a9 _ _ (FV 918>>=_) _ _ _;exact a7 (d2.done _ _ _ oH (fun g2 e aG he=>ET g2 e (fun c o fA iY x=>aG _ _ iY (g68 _ fA x)) he))
structure rj(h:dk)(z TI TO i1 i2:ag)(gc ic:Nat→92 dk)(i:Nat):04 where
 agh:∃f0 b,ll h z TI TO f0 j87∧ax8 h f0
 g7:j2 h TI 918 a46
 to:∃a b,j2 h TO a b
 s1:gc i h
 s2:ic i h
theorem ayr{Q:e85}(D:uI z TI TO i1 i2 iJ jG)(d2:lW P w 503 i1 iJ cR n3 gc)(dE:lW P w 503 i2 jG dS ri ic)(st:rj 28 z TI TO i1 i2 gc ic i)(eY:i<cR)(dW:i<dS)(g6:n73 (n3 i x→ri i y→rj h' z TI TO i1 i2 gc ic (i+1)→j2 h' 18 x y→(729 (c≠z→c≠TO→c≠i1→c≠i2→586 c→957))→Q (46 18) 620)):a9 289 A (nB 344) Q E s:=by
 rw[C23];have bR:s.TypeIs 344 380:=445 hz;have hQ:z≠i1:=g40;have es:z≠i2:=100 m28;have o1:TO≠i1:=100 (D.o1 (e▸D.hx));have o2:TO≠i2:=100 (D.o2 (e▸D.ip));unfold nB;rw[A00 (j36 j10 bR La (DQ La bR ays ?_ (ayt _)))];rw[B73]
 ·exact ayb D d2 dE hz gX kD af ak eY dW (fun x y h' tk y_ py bg cf eC fz qF k=>cx (g6 x y h' tk y_ py ⟨⟨_,_,bg,en ⟨_,_,rfl,qF⟩⟩,k _ _ D.TIz D.aya D.af9 D.aga gX,⟨_,_,cf⟩,eC,fz⟩ qF k))
 ·refine ayl D d2 dE hz nP gX af ak eY dW (fun x y h' tk y_ py bg eC fz qF k=>cx (g6 x y h' tk y_ py ⟨⟨_,_,bg,en (328 T)⟩,k _ _ D.TIz D.af9 D.aga gX,⟨_,_,k _ _ D.TOz o1 o2 kD⟩,eC,fz⟩ qF (fun c o fA _ iY nI e=>k c o fA iY nI e)));by_cases t1:T=z
  ·rw[A15 (35 (109 h'.get? t1) bg)]
  by_cases jt:T=i1
  ·obtain⟨dr,bZ⟩:=d2.live _ _ eC;rw[A15 (35 (109 h'.get? jt) bZ)]
  by_cases t3:T=i2
  ·obtain⟨dr,bZ⟩:=dE.live _ _ fz;rw[A15 (35 (109 h'.get? t3) bZ)]
  rw[A15 (k _ _ t1 jt t3 nP)]
theorem ayu{Q:e85}(D:uI z TI TO i1 i2 iJ jG)(d2:lW P w 503 i1 iJ cR n3 gc)(st:rj 28 z TI TO i1 i2 gc ic cR)(g6:∀h',(729 (c≠z→c≠i1→586 c→957))→Q 00 538):a9 289 A (nB 344) Q E s:=by
 obtain⟨⟨f0,b,hz,gG⟩,gX,_,af,_⟩:=st;have bR:s.TypeIs 344 380:=445 hz;unfold nB;rw[A00 (j36 j10 bR La (DQ La bR ays ?_ (ayt _)))];have k:∀h' e,(729 (c≠z→c≠i1→586 c→957))→(∃o,b81 e∧781 i46)→a9 289 A (do if←isInstance (.ref e) (.type "StopIteration")then return none else throw (.ref e)) Q E 538:=fun h' e k⟨o,a8,ar⟩=>by refine a7 (YD (T:=n72) (b:=01) ⟨o,a8,ar⟩ p83 ?_);exact cx (g6 _ k)
 rw[B73]
 ·exact ayo D d2 hz gX af k
 ·exact ayq D d2 hz nP gX af k
end
theorem ayv:lI 002 968=520:=Yq (by first|rw[B46]|rfl)
theorem ayw:lI 002 h22=520:=Yq (by first|rw[B46]|rfl)
theorem ayx:entryFor table p80=some Builtin.«object.__getattribute__»:=entryFor_alias (id':=n71) 666 05 05 666
theorem ayy(a:ag)(xs:323)(dP:k09)(name:Str)(u:Tok)(Ig:lI 002 234=520)(DO:(m98:225).contains 234=09)(hsz:name.length+0x64≤bc:=by size_fits):Meets (p82 (644 (349 (.str 234 u)))) (fun A R s=>393 a (p81 002 (504 xs))∧raisesAttr 38 234 A R s):=Meets.of_wp (fun prog w A R s aL=>by
 rw[B45];obtain⟨ai,aL⟩:=aL;have bR:(⟨au,g,d,tk,os⟩:aZ).TypeIs 38 380:=445 ai;rw[C83];repeat(any_goals(first|rw[A34]|wp_step))
 simp only[DO,l0,if_false];repeat(any_goals(first|rw[A34]|wp_step))
 exact wpAny_raiseAttrError aL.1 aL.2 (attrMsg_fits 05 hsz))
theorem ayz{s:aZ}{xs:323}{Q:e85}(ai:393 a (p81 002 (504 xs)))(di:595)(h:f10 ((812 (393 b bC→219=467))→Q 00 620)):a9 289 A (getAttr? 38 968) Q E s:=by
 rw[B45];have bR:∀lM,(⟨au,g,d,lM,os⟩:aZ).TypeIs 38 380:=290 (445 ai);have Ig:=ayv;have DO:(m98:225).contains 968=09:=05;have hsz:074 968 Str+0x64≤bc:=by first|size_fits|rw[B46]
 rw[C82];have e9:=agi.lookup;have f4:=agi.bind 38;have fR:=ayw;rw[C81];repeat(any_goals(first|rw[A34]|exact bR _|((with_reducible show a9 _ _ (kZ (Ay p80) _ _) _ _ _);refine x7 agi (bR _) ayx (PySem.F.args_zip_getattribute_2 _ _) (ayy a xs dP 968 _ Ig DO hsz) ⟨ai,di,fun h' lM e so=>?_⟩)|wp_step))
 rw[C80];show a9 _ _ (Om _ _ _ _ _ _ _) _ _ _;unfold Om;repeat(any_goals(first|rw[A34]|wp_step))
 all_goals first|exact h _ _ k37|(rw[A71];repeat(any_goals(first|rw[A34]|exact h _ _ k37|wp_step)))
abbrev Lb(h:dk)(x:Str)(t:Tok):dk:=h.push (825 (Lc x) #[858,.int 0 0])
abbrev Ld(h:dk)(x:Str)(t:Tok)(dW:ag):dk:=(Lb h x t).push (825 p24 #[.ref dW,.int 0 0])
abbrev Le(h:dk)(x:Str)(t:Tok)(dW:ag):dk:=(Ld h x t dW).push (c01 #[.ref 397,j28 (Lb h x t)])
abbrev Lf(h:dk)(x:Str)(t:Tok)(dW:ag):dk:=(Le h x t dW).push (c01 #[87,87])
abbrev za(h:dk)(x:Str)(t:Tok)(dW:ag):dk:=(Lf h x t dW).push (825 380 #[87,004,004,j28 (Ld h x t dW),j28 (Le h x t dW)])
theorem ayA(x:Str)(t:Tok)(dW:ag)(ys:323):Meets (Builtin.«zip.__new__» (644 [002,858,.ref dW])) (fun _ R s=>f12 dW ys∧R (.ok (.ret (j28 (Lf 28 x t dW)))) (621 (za 28 x t dW))):=.of_wp (p79 (by rw[B45];obtain⟨lL,h⟩:=h;have aeU:=sub_zip;have Te:Heap.IsList (Shared.heap ⟨au.push (825 (Lc x) #[858,.int 0 0]),g,d,tk,os⟩) dW ys:=Heap.IsList.push lL _;wp_walk using wpAny_pyIter_strU,M0 Te;rw[A15 h]))
section
variable{s:aZ}
theorem ayB{t:Tok}{dW:ag}{ys:323}(lL:f12 dW ys)(h:∀h',IsZip h' (18+4) (18+2) (18+3) 87→j2 h' (18+2) 277 (.ref 288)→j2 h' (18+3) 87 87→h'.IsStrIter 18 (Lc x) x t 0→h'.IsListIter 288 dW 0→n70=18+5→(729 (586 c→957))→515 (18+4) 538):a9 289 A (kZ 002 [858,.ref dW]) Q E s:=by
 refine callType_new PySem.F.called_zip 14 (PySem.F.typeCall_zip_2 _ _) (PySem.F.newCall_zip_2 _ _) (fun obj=>PySem.F.args_object_init_3 obj _ _) PySem.F.entry_zip_new (ayA x t dW ys) (328 lL);have hQ:424 (Lb 28 x t)=288:=kz ..;have es:424 (Ld 28 x t dW)=18+2:=by rw[kz,hQ]
 have jC:424 (Le 28 x t dW)=18+3:=by rw[kz,es]
 have tY:424 (Lf 28 x t dW)=18+4:=by rw[kz,jC]
 have Tf:424 (za 28 x t dW)=18+5:=by rw[kz,tY]
 have gi:(za 28 x t dW).get? (424 (Lf 28 x t dW))=c90:=111;have ey:(za 28 x t dW).get? (424 (Le 28 x t dW))=c90:=dY _ 111;have g3:(za 28 x t dW).get? (424 (Ld 28 x t dW))=c90:=d97 111;have g2:(za 28 x t dW).get? (424 (Lb 28 x t))=c90:=d97 (dY _ 111);have g1:(za 28 x t dW).get? 18=c90:=d97 (d97 111);show _∧_;rw[es,jC,tY]at gi;rw[hQ,es]at g3;rw[jC]at ey;rw[hQ]at g2;rw[tY];exact⟨445 gi,h _ gi g3 ey ⟨_,g1,rfl,rfl⟩ ⟨_,g2,rfl,rfl⟩ Tf (fun c o x=>d97 (d97 (dY _ x)))⟩
theorem ayC(dh:595)(it:ag)(x:Str)(t:Tok):lW P w A it [it] 570 (f08 (∃c u,x.cps[i]?=73∧v=g58 c u)) (619 (h.IsStrIter it (Lc x) x t i)):=by
 unfold Lc;split
 ·exact Draws.strAscii dh it x t
 ·exact Draws.strWide dh it x t
end
section
variable{z TI TO S:ag}
theorem rj.keep(d2:lW P w A i1 iJ cR n3 gc)(dE:lW P w A i2 jG dS ri ic)(st:rj h z TI TO i1 i2 gc ic i)(n:S∉iJ)(qE:S∉jG)(eZ:S≠z)(yY:S≠TI)(Lg:S≠TO)(d:∃o,b81 S)(k:729 (c≠S→558 c→957)):rj h' z TI TO i1 i2 gc ic i:=by
 rw[C23];refine⟨⟨f0,b,k _ _ eZ.symm hz,?_⟩,k _ _ yY.symm gX,⟨a,c,k _ _ Lg.symm kD⟩,d2.frame _ _ _ af (512 (k _ _ (58 (n 811)) e)),dE.frame _ _ _ ak (512 (k _ _ (58 (qE 811)) e))⟩;rw[B73]
 ·exact 70
 ·by_cases t:T=S
  ·obtain⟨dr,bZ⟩:=d;exact en ⟨T,dr,rfl,35 (109 h'.get? t) bZ⟩
  ·exact en ⟨T,o,rfl,k _ _ t nP⟩
theorem ayD(D:uI z TI TO i1 i2 iJ jG)(d2:lW P w n69 i1 iJ n n3 gc)(dE:lW P w n69 i2 jG n ri ic)(ayE:S∉iJ)(ayF:S∉jG)(eZ:S≠z)(yY:S≠TI)(Lg:S≠TO)(agj:S≠i1)(ayG:S≠i2):p74 c79 c79 (n=i+746→f07+746≤bc→(∀(j:Nat)(q:cF×aH),rest[j]?=796→(∀u,n3 (i+j) u→vj q.1 u=01)∧∀y,ri (i+j) y→y=q.2)→rj 28 z TI TO i1 i2 gc ic i→s.heap.DictOf (fg P w) S acc→(f10 (h'.DictOf (fg P w) S (merged acc 67)→(300 (b≠S) (b≠z→b≠TO→b≠i1→b≠i2→346→219=25))→R (.ok (.ret res)) 620))→qI 289 A (n22 k35 [.ref S,344,.int i8 t,res]) R s):=by
 intro rest
 induction rest with
  |nil=>
   rw[C79];refine BA Ie ?_;rw[E_ sl _];show a9 _ 503 (nB 344>>=_) _ _ s;obtain rfl:n=i:=by simpa using hsz
   rw[A00 (ayu D d2 st (fun h' k=>?_))];show a9 _ 503 (ayH S []>>=_) _ _ _;rw[A00 (cx 345)];exact cH h' 233 (hm.at (878 (k _ _ eZ agj e))) (fun b o _ aa _ oc _ e=>k b o aa oc e)
  |cons q rest ih=>
   rw[C79];obtain⟨aS,aC⟩:=bk 0 q rfl;rw[dR]at hsz uJ;refine BA Ie ?_;rw[E_ sl _];show a9 _ 503 (nB 344>>=_) _ _ s;have aCi:S<18:=by obtain⟨o,e,_⟩:=hm.typeIs;exact 105
   rw[A00 (ayr D d2 dE st 03 03 (fun u y af nU pu py Q0 wy k1=>?_))];obtain rfl:=aC y py;replace aS:=aS u pu;have sP:af.DictOf (fg P w) S acc:=hm.at (878 (k1 _ _ eZ Lg agj ayG e));show a9 _ 503 (nz [da 18] _>>=_) _ _ _;rw[A99 ?_];rw[A00 (wpAny_tryCatch ?_)];unfold ayI;rw[B41 809 (445 wy) ?_];rw[21 (by first|decide|rfl|simp)];rw[A00 (uv wy rfl 345)];show a9 _ 503 (nz [u,q.2] (dictSet S u q.2)) _ _ _;refine oz (wpAny_dictSet_pairs (knd:=fg P w) (k:=q.1) aS sP (fun ak kM jx=>?_) 03);have iC:∃o,ak.get? S=25:=p78 (Heap.DictOf.typeIs (s:={s with heap:=ak}) kM) ⟨o,e⟩;refine cx ⟨yV sl _,ih (i+1) (stored acc q.1 q.2) (i8+1) 0 _ 03 ?_ j75 (Q0.keep d2 dE ayE ayF eZ yY Lg iC (fun c o ar e=>jx.extBut c o ar e)) kM m95⟩
   ·have z:=stored_length_le acc q.1 q.2;lia
   ·have:=bk (j+1) eU 566;rw[A73 (show i+(j+1)=i+1+j by lia)];rw[A10]
   ·exact cH h' tk kW (fun c ig a1 a2 lS v5 Jd e=>k c ig a1 a2 lS v5 Jd (jx.extBut c ig a1 (k1 c ig a2 lS v5 Jd e)))
end
section
variable{z TI TO:ag}
theorem ayJ{s:aZ}{f0:aH}(hz:ll 28 z TI TO f0 f1)(h:515 z s):a9 289 A (vw 344) Q E s:=by have bR:s.TypeIs 344 380:=445 hz;refine wpAny_pyIter_slot bR ayK (DQ ayK bR PySem.F.entry_zip_iter ?_ (PySem.F.args_zip_iter_1 _));show a9 _ _ (ret 344) _ _ s;exact cx ⟨_,rfl,380,_,bR,La.lookup,h⟩
theorem rj.keeps(d2:lW P w A i1 iJ cR n3 gc)(dE:lW P w A i2 jG dS ri ic)(st:rj h z TI TO i1 i2 gc ic i)(k:729 (558 c→957)):rj h' z TI TO i1 i2 gc ic i:=by
 rw[C23];refine⟨⟨f0,b,k _ _ hz,?_⟩,k _ _ gX,⟨a,c,k _ _ kD⟩,d2.frame _ _ _ af (512 (k _ _ e)),dE.frame _ _ _ ak (512 (k _ _ e))⟩;rw[B73]
 ·exact 70
 ·exact en ⟨T,o,rfl,k _ _ nP⟩
theorem ayL{s:aZ}{prs:c79}(dh:595)(D:uI z TI TO i1 i2 iJ jG)(d2:lW P w A.in1.in1.in1 i1 iJ n n3 gc)(dE:lW P w A.in1.in1.in1 i2 jG n ri ic)(b9:∀b∈iJ,a99)(dj:∀b∈jG,a99)(st:rj 28 z TI TO i1 i2 gc ic 0)(aU:n=h30)(uJ:h30≤bc)(bk:∀(j:Nat)(q:cF×aH),prs[j]?=796→(∀u,n3 j u→vj q.1 u=01)∧∀y,ri j y→y=q.2)(h:f10 (h'.DictOf (fg P w) 18 (merged [] prs)→(300 (b≠z) (b≠TO→b≠i1→b≠i2→346→219=25))→Q 277 620)):a9 289 A (kZ d67 [344]) Q E s:=by
 refine ac3 (Q₁:=fun obj ep=>obj=277∧ep=i56) ayM (ayN _) ayO (kt_code_dict_new _ 149) ?_;rw[C77];have sh:(834).DictOf (fg P w) 18 []:=ant 28;have k0:300 346 (782 834=25):=903 _ e;have ayP:z<18:=by obtain⟨_,_,e,_⟩:=st.agh;exact 105
 have ayQ:TI<18:=dm st.g7;have ayR:TO<18:=by obtain⟨_,_,e⟩:=st.to;exact 105
 have Kh:=st.keeps d2 dE k0;rw[A20 sh.typeIs (ayS _ _)];rw[C76];rw[A28];unfold ayT;rw[A00 (Yz sh.typeIs ?_)];show a9 _ _ (pure (18,[da z])) _ _ _;refine 345;show a9 _ _ (Tg p73 18 344 [] 87) _ _ _;unfold Tg;obtain⟨f0,FX,hz,gG⟩:=Kh.agh;rw[B41 380 (445 hz) ?_];rw[21 (by first|decide|rfl|simp)];rw[A00 (ayz hz dh (fun af nU oY=>?_))];rw[21 (108 (00:631).isNone 01)];rw[A00 (S8 ?_)];rw[A00 (ayJ (oY _ _ hz) ?_)];have key:=ayD (P:=P) (w:=w) (A:=503) (R:=wants (fun r iu=>r=.none∧Q 277 iu) E) (S:=18) (z:=z) (TI:=TI) (TO:=TO) (i1:=i1) (i2:=i2) (res:=fh) D d2 dE (58 (kV _ (b9 _ q))) (58 (kV _ (dj _ q))) (lF ayP) (lF ayQ) (lF ayR) (lF (b9 _ D.hx)) (lF (dj _ D.ip)) prs 0 [] 0 0 {s with heap:=af,toks:=nU} (by rw[aU,qx]) p72 (n61 (by rw[qx];exact bk j q e)) (Kh.keeps d2 dE oY) (sh.at (878 (oY _ _ e))) (n65 (119 (h h' tk kW (fun b o fA kd iY nI e=>k b o e22 fA kd iY nI (oY _ _ (k0 _ _ e))))));first|exact cx ⟨yV sl _,key⟩|exact a7 (c49 ⟨yV sl _,key⟩)
end
theorem agk:∀{ls:06}{as:27}{j:Nat}{q:cF×aH},(kQ (fun c a=>(e5 c,da a)) ls as)[j]?=796→∃c a,ls[j]?=73∧as[j]?=533∧q=(869,38)|[],_,_,_,h=>501|_::_,[],_,_,h=>501|l::ls,b::as,0,q,h=>⟨l,b,rfl,rfl,129 h⟩|l::ls,b::as,j+1,q,h=>by obtain⟨c,a,aK,aG,cp⟩:=agk (ls:=ls) (as:=as) (j:=j) (q:=q) 967;exact⟨c,a,p71,p77,cp⟩
theorem agl:∀(ls:06)(as:27),gE 606 (kQ (fun c a=>(869,da a)) ls as)|[],_=>89|_::_,[]=>89|l::ls,b::as=>.cons 149 (agl ls as)
theorem Th{x y z:Nat}(h:x≠y)(h':x≠z):x∉[y,z]:=58 (by
 rw[C15 q]
 ·exact h e
 ·exact h' (86 e))
theorem Ti{x y:Nat}(h:x≠y):x∉[y]:=58 (h (86 q))
theorem ayU(n a:Nat)(h:a<n):uI (n+4) (n+2) (n+3) n (n+1) [n] [n+1,a]:=⟨n14,Th 03 03,n14,Th 03 03,Th 03 03,n14,n33,n33,n33,lF 03,lF 03,237,237⟩
theorem Lh{m b:Nat}(e:m=n+5)(k:Nat)(aS:k<5)(h:b≤n+k):b<m:=03
theorem agm:rS 536=some d67:=05
inductive agn(K:bo)(Q:aW)(vs:08)(H1:av):04|mk:∀(ls:06)(a:ag)(as:27),vs=[76 ls,38]→aJ K H1 a 317→471=284→(∀p,H1 p=00→664 (upd H1 p (.e0 (tO [] 606))))→agn K Q vs H1
def ayV(K:bo)(bW:fG):ct:=262 (bW σ H (728 (agn K Q vs H1)))
section
variable{bW:fG}{p:Pos}
theorem ayW(K:bo)(cj:X.K=K)(En:h1 X 536)(HX:X.ah 536=00)(a4:h1 X 380)(hm:X.ah 380=00)(aN:hZ X [e,aG] bW)(ar:394:=by rfl)(aL:406 [e,aG]=391::e70:=by rfl)(au:f94 e70:=by rfl)(jx:406 [e18 [e,aG]]=[013 (e18 [e,aG])]:=by rfl):bF X (.Call (.Name 536 fD) [e18 [e,aG]] [] Rd) (ayV K bW):=by
 rw[A13];subst cj;refine vG (qD I En HX agm ?_);refine tH ?_ n68 rfl;rw[jx];show a9 _ _ (spliced (013 (e18 [e,aG])::hA Rd [])) _ _ s;refine Nu ?_;rw[B00 (qD I a4 hm YK (tH (988 (aN pos 07 s σ H _ I h) ?_) aL au))];obtain⟨ls,a,as,rfl,aw,ax,q⟩:=bg;obtain⟨u,v,rfl,gR,cV⟩:=TR bU;rw[B44 (show∃t,u=C3 (aP ls) t from gR)];cases(show v=da a from cV);rw[C22 j64];have hg:=Ih cV;subst hg;have oI:a<227:=p76 105;refine ayB 965 (fun af hQ es jC tY Tf Li Kc=>Nt ?_);have dh:=aX.ok.hd ar;have Mw:n67 (kS da as)=(aP ls).cps.size:=by simp[aP,ax]
 have d2:=ayC (P:=61) (w:=X.w) (A:=p75) dh 227 (aP ls) t;have dE:=Draws.list (prog:=61) (w:=X.w) (A:=p75) dh (227+1) a (fk (CD oI)) (810 (kS da as));rw[Mw]at dE;refine ayL (P:=61) (w:=X.w) (A:=X.A) (prs:=kQ (fun c a=>(869,da a)) ls as) dh (ayU _ _ oI) d2 dE ?_ ?_ ⟨⟨_,_,hQ,70⟩,es,⟨_,_,jC⟩,tY,Tf,pl.isList.at (878 (Kc _ _ e))⟩ ?_ ?_ ?_ ?_
 ·intro b aa;rw[86 aa];exact Lh Li 0 14 64
 ·intro b aa;rcases 569 aa with rfl|aa
  ·exact Lh Li 1 14 64
  ·rw[86 aa];exact Lh Li 0 14 (xH oI)
 ·simp[aP,ax]
 ·rw[ba]at hz;rw[qw];exact cX (Af _ _) hz
 ·intro j q e;obtain⟨c,W2,aK,aG,rfl⟩:=agk e;rw[A03 (fun u pu=>?_) (fun y py=>?_)]
  ·obtain⟨jU,jT,cp,rfl⟩:=pu;have:jU=c:=by
    have ej:ls[j]?=some jU:=by simpa[aP]using cp
    rw[aK]at ej;exact 129 ej
   rw[A88];exact vO (P:=61) (w:=X.w) (k:=e5 jU) (612 jT)
  ·have ej:as[j]?.map da=270:=by simpa using py
   rw[aG]at ej;exact 129 ej
 ·intro h' tk kW k;have fZ:300 (e33 b 25) (219=25):=351 (by have:=105;exact k b o (fk (ago 4 246)) (fk (ago 3 246)) (fk 246) (fk (ago 1 246)) (Kc _ _ e));have big:227≤f09:=xH (Lh Li 0 14 64);have hm:(f09==l5)=09:=963 (lF (jN aX.big big));rw[ba]at hz;have hlen:069 (tO [] 606):=by refine cX (Yp _ []) ?_;rw[l4,qx];unfold hF;rw[qw];exact cX (Af _ _) hz
  exact 839 f09 (upd H1 f09 (.e0 (tO [] 606))) (aX.laid (t':=tk) fZ big (88 (fx 61 X.w _ _ _ (.e0 (tO [] 606))) ⟨568,hm,_,gE.merge (agl ls as) 89,kW⟩)) (q _ (h32 big))
end
theorem agp{c:Nat}:∀{ls:06}{as:27},c∉ls→((606).any (g08 869))=09|[],_,_=>rfl|_::_,[],_=>rfl|l::ls,b::as,h=>by show(29 (e5 l=869)||(606).any _)=09;rw[agp (ls:=ls) (as:=as) (58 (h (d4 _ q))),wU,decide_eq_false_iff_not];exact 58 (h (364 (adv q) 237))
theorem agq{c:Nat}{a:ag}:∀{ls:06}{as:27},284=471→606++[(869,022)]=hF (ls++[c]) (as++[a])|[],[],_=>rfl|l::ls,b::as,h=>109 (_::·) (agq 967)
theorem agr:∀{m:06}{as':27}{ls:06}{as:27},284=471→668 (ls++m)→m.length=as'.length→tO 606 (hF m as')=hF (ls++m) (as++as')|[],[],ls,as,h,_,_=>by rw[nh,nh];rfl|c::m,a::as',ls,as,h,az,ax=>by show tO (ie 606 869 38) (hF m as')=_;have aU:c∉ls:=58 (by rw[L9]at az;exact az.2.2 c q c 237 rfl);unfold ie;rw[agp aU,107,agq h,agr n64 (by rw[jo];exact az) k36,jo,jo];rfl
abbrev ags:bK:=bA 1
theorem agt:31 b83 b83 ags:=⟨rfl,rfl,rfl,05,rfl,05,05⟩
theorem ayX(D:cq K ah h31 ags b83 f fd)(Tj:ah 536=00)(ayY:ah 380=00)(bJ:268):Pr P w K ah 02 aO 1 h31 b83 (Fo K CM CS):=by
 rw[A02 agt]
 ·obtain⟨a,r,sy,as,rfl,_⟩:=h;rfl
 ·obtain⟨a,r,sy,as,rfl,cg,p9,az,ax,aCj,k⟩:=h;have S:=agt;rw[A01 (65 (ayW K rfl rfl Tj rfl ayY (aj 59 296)))];obtain⟨dx,ls,ms,aY⟩:=cg;refine⟨_,rfl,a,CS,dx,_,_,rfl,84,80,727,mg,_,rfl,75,r,as,rfl,aV (aV p9),ax,263⟩;have e:=agr (m:=75) (as':=as) (ls:=[]) (as:=[]) rfl (by simpa using az) ax.symm;refine k _ p 116 au (aI.trans ?_);exact 109 (72 (some (dz.e0 x))) e
abbrev m9:=756×ag×aH
abbrev Lj(acc rest:848):848:=rest.foldl (fun a q=>Av a q.1 449 423) acc
theorem Lk{k:756}(x:(414).is h k a)(x_:558 I)(ar:781 e00)(yJ:T≠809)(e:300 (b≠I) (319=25→219=25)):(414).is h' k a:=by obtain⟨bC,a0,n,af,ak,a6⟩:=x;refine⟨bC,a0,n,e _ _ 522 af,ak,a6⟩;subst z;rw[x_]at af;cases af;rw[ar]at ak;exact yJ (by injection ak)
theorem agu{S:ag}{xs:848}(x:h.DictOfH 414 S xs)(x_:558 I)(ar:781 e00)(yJ:T≠809)(Kb:S≠I)(e:300 (b≠I) (319=25→219=25)):h'.DictOfH 414 S xs:=by obtain⟨cQ,aR,c0,af,ak,a6,bH,fX,iT⟩:=x;exact⟨cQ,aR,c0,e _ _ Kb af,ak,a6,bH,330 (Lk (fX q aw) x_ ar yJ e),iT⟩
theorem ayZ(acc:848)(k:756)(a:ag)(v:aH):11 (Av acc k a v)≤f07+1:=by unfold Av;split<;>simp
theorem ay0{S l:ag}(bp:776 2<kb)(dh:595)(ay1:l≠I)(Tn:S≠I)(ay2:S≠l):p74 848 848 (082=i+746→f07+746≤bc→(n62 (rest[j]?=796→∃(b:ag),items[i+j]?=46 b∧b≠S∧b≠I∧IsTup 28 b #[d88,423]∧(414).is 28 q.1 449))→s.heap.IsListIter I l i→f12 l 966→s.heap.DictOfH 414 S acc→(f10 (h'.DictOfH 414 S (Lj acc 67)→(300 (b≠S) (b≠I→346→219=25))→R (.ok (.ret res)) 620))→qI 289 A (n22 k35 [.ref S,c31,.int i8 t,res]) R s):=by
 intro rest
 induction rest with
  |nil=>rw[C78];refine BA Ie ?_;rw[E_ sl _];show a9 _ 503 (nB c31>>=_) _ _ s;obtain⟨yc,FY,FZ,_⟩:=id hit;rw[A00 (akL (A:=503) dh hit ax (by first|exact Yx (Hz hsz)|(simp at hsz;simp;lia)) (fun h' he=>?_))];show a9 _ 503 (ayH S []>>=_) _ _ _;rw[A00 (cx 345)];exact cH h' 233 (agu hm FY FZ 14 Tn he) (fun b o _ aa e=>he b o aa e)
  |cons q rest ih=>
   rw[C78];obtain⟨b,aa,aCk,ay3,ay4,aS⟩:=bk 0 q rfl;rw[dR]at hsz uJ;refine BA Ie ?_;rw[E_ sl _];show a9 _ 503 (nB c31>>=_) _ _ s;obtain⟨yc,FY,FZ,_⟩:=id hit;rw[A00 (akK (x:=281) hit ax 120 (fun af ay5 rd=>?_))];have wy:IsTup af b #[d88,423]:=ay4.extBut f11 ay3;have A_:af.IsList l 966:=ax.extBut f11 ay1;have sP:af.DictOfH 414 S acc:=agu hm FY FZ 14 Tn f11;have oY:(414).is af q.1 449:=Lk aS FY FZ 14 f11;obtain⟨o,a8,ar,n,hd⟩:=id wy;show a9 _ 503 (nz [da b] _>>=_) _ _ _;rw[A99 ?_];rw[A00 (wpAny_tryCatch ?_)];unfold ayI;rw[B41 809 ⟨o,a8,ar⟩ ?_];rw[21 (by first|decide|rfl|simp)];rw[A00 (uv a8 hd 345)];show a9 _ 503 (nz [d88,423] (dictSet S d88 423)) _ _ _;have ay6:=sP;obtain⟨cQ,_,_,sq,ay7,_⟩:=ay6;refine oz (wpAny_dictSet_heap (hsz:=03) (Ib (Nat.lt_of_succ_lt bp)) oY sP (fun ak kM jx=>?_));refine cx ⟨yV sl _,ih (i+1) (Av acc q.1 449 423) (i8+1) 0 _ (show 082=i+1+746 by lia) ?_ j75 ?_ ?_ kM m95⟩
   ·have z:=ayZ acc q.1 449 423;lia
   ·obtain⟨tL,oc,agv,agw,ay8,rK⟩:=bk (j+1) eU 566;refine⟨tL,?_,agv,agw,(ay8.extBut f11 agw).extBut n66 agv,Lk (Lk rK FY FZ 14 f11) sq ay7.1 14 n66⟩;rw[show i+1+j=i+(j+1)by lia];exact oc
   ·exact ay5.at (fun dr e=>jx.extBut I dr (jq Tn) e)
   ·exact A_.extBut n66 (jq ay2)
   ·exact cH h' tk kW (fun c ig a6 bH e=>k c ig a6 bH (jx.extBut c ig a6 (rd.extBut c ig bH e)))
variable{prs:List m9}
theorem ay9{s:aZ}{l:ag}{ol:Obj}(bp:776 4<kb)(dh:595)(ax:393 l ol)(ar:ol.cls=901)(hd:ol.dict=00)(sm:ol.data=b15 966)(hsz:082=h30)(uJ:h30≤bc)(bk:n62 (prs[j]?=796→∃(b:ag),items[j]?=46 b∧IsTup 28 b #[d88,423]∧(414).is 28 q.1 449))(h:f10 (h'.DictOfH 414 18 (Lj [] prs)→(300 346 (219=25))→Q 277 620)):a9 289 A (kZ d67 [559]) Q E s:=by
 refine ac3 (Q₁:=fun obj ep=>obj=277∧ep=i56) ayM (ayN _) ayO (kt_code_dict_new _ 149) ?_;rw[C77];have sh:(834).DictOfH 414 18 []:=Heap.DictOfH.new 28;have k0:300 346 (782 834=25):=903 _ e;have bR:atD i56 277 536:=445 111;rw[A20 bR (ayS _ _)];rw[C76];rw[A28];unfold ayT;rw[A00 (Yz bR ?_)];show a9 _ _ (pure (18,[da l])) _ _ _;refine 345;show a9 _ _ (Tg p73 18 559 [] 87) _ _ _;unfold Tg;rw[B41 500 ⟨ol,k0 _ _ ax,ar⟩ ?_];rw[21 (by first|decide|rfl|simp)];rw[A00 (anx (k0 _ _ ax) ar sm hd dh (fun af nU oY=>?_))];rw[21 (108 (00:631).isNone 01)];rw[A00 (S8 ?_)];have A_:af.IsList l 966:=⟨ol,oY _ _ (k0 _ _ ax),ar,n,sm⟩;have aK:af.get? 18=some a48:=oY _ _ 111;have oU:18<f09:=dm aK;rw[A00 (M0 A_ ?_)];have k2:300 (c59 b) (782 (m86 #[559,.int 0 0])=25):=903 _ e;have cM:l<18:=dm ax;have aza:(m86 #[559,.int 0 0]).DictOfH 414 18 []:=by obtain⟨cQ,aR,c0,oH,ak,a6,bH,fX,iT⟩:=sh;exact⟨cQ,aR,c0,k2 _ _ (oY _ _ oH),ak,a6,bH,b86,iT⟩
 have key:=ay0 (P:=P) (w:=w) (A:=503) (R:=wants (fun r iu=>r=.none∧Q 277 iu) E) (S:=18) (I:=f09) (l:=l) (items:=966) (res:=fh) (a44 (776 1+2) kb) dh (fk (Ia cM oU)) (fk oU) (lF cM) prs 0 [] 0 0 {s with heap:=m86 #[559,.int 0 0],toks:=nU} (by rw[hsz,qx]) p72 (n61 (by rw[C21 (bk j q e)];have aa:a99:=aG.lt;obtain⟨bC,a0,qE,oH,qY,LQ⟩:=cp;exact⟨b,by rw[qx];exact aK,fk aa,fk (Ia aa oU),aG.keeps (fun c o z=>k2 _ _ (oY _ _ (k0 _ _ z))),bC,a0,qE,k2 _ _ (oY _ _ (k0 _ _ oH)),qY,LQ⟩)) b14 (A_.at (878 (k2 _ _ e))) aza (n65 (119 (h h' tk kW (351 (k b o e22 (fk (Ia 105 oU)) (k2 _ _ (oY _ _ (k0 _ _ e))))))));first|exact cx ⟨yV sl _,key⟩|exact a7 (c49 ⟨yV sl _,key⟩)
theorem azb(dh:595)(I d:ag)(d9:d≠I){xs:848}(ai:o.ExactDict)(hd:a69)(he:n63=077 (MO 414)):Walks P w A I [I,d] [I] 57 (f08 (∃x,441=43∧v=.ref x.2.1)) (619 (h.IsKeyIter I d i 57 c0∧558 d))where
 sub:=350 (by simp at aa;simp[aa])
 frame:=fun i h h' st aS=>⟨st.1.at (878 (aS I 19 o e)),aS d 19 _ st.2⟩
 item:=fun i s Q E hi st g6=>by
  have aK:441=some xs[i]:=122;have aG:aR[i]?=some (MO 414 xs[i]):=by rw[entry_at he,aK];rfl
  refine anN st.1 st.2 hd (agx he) aG j59;exact g6 _ h' 233 (445 aK) ⟨kx,eX.extBut _ _ d9 st.2⟩ (537 (eX.extBut b o (312 (aa n64)) e))
 done:=fun s Q E st g6=>anT dh st.1 st.2 hd (agx he) 64 (fun h' eG=>g6 h' 233 (537 (eG b o (312 (aa n64)) e)))
 self:=fun i s Q E st h=>wpAny_pyIter_keyiter st.1 h
theorem azc(lo:(d==l5)=09){xs:848}(ai:o.ExactDict)(hd:a69)(he:n63=077 (MO 414)):PySem.W.KdlSrc P w 536 d d 57 (f08 (∃x,441=43∧v=.ref x.2.1)) (312 (558 d))where
 type:=fun _ hm=>⟨o,hm,ai.1⟩
 there:=fun _ hm=>⟨dm hm,dm hm⟩
 keep:=fun _ _ hm aS=>aS d 253 _ hm
 notList:=14
 notTuple:=14
 hint:=fun _ _ _ _ hm aw=>PySem.W.kdl_hint_dict ⟨o,hm,ai.1⟩ aw
 iter:=fun A s dh hm=>⟨_,_,(fun _ _ aw=>anL lo hm ai hd aw),azb dh 18 d (fk (dm hm)) ai hd he,⟨⟨_,111,rfl,b27 (agx he)⟩,dY _ hm⟩⟩
theorem agy:∀(l:27),cc (363 502) (363 da)|[]=>89|_::l=>.cons rfl (agy l)
theorem azd{xs:848}(r:b08 H):m00 (H q=294 m51) i75 kvs:=by induction r with|nil=>rw[A40]|cons h _ ih=>exact 920 h.2.1
abbrev rk:=ag×756×ae
def oZ(acc:028)(dg:c47):028:=dg.foldl (fun a q=>ie a 449 423) acc
abbrev agz(q:rk)(r:m9):04:=q.1=r.2.1∧449=r.1∧RelV 423 r.2.2
theorem kh.merge{dg:c47}{acc:848}(To:ov agz dg prs)(aw:∀q∈dg,H q.1=f86 ec)(r:kh H kvs acc):kh H (oZ kvs dg) (Lj acc prs):=by induction To generalizing kvs acc with|nil=>exact r|@cons q p _ _ h t ih=>obtain⟨aK,aG,cp⟩:=h;have ej:=aw q 237;have:=r.put (b:=q.1) 449 ej cp;rw[aK]at this;show kh H (oZ (ie kvs 449 423) _) (Lj (Av acc p.1 p.2.1 p.2.2) _);rw[←aG];exact ih (fun eU h'=>aw eU (d4 _ h')) 246
theorem agA:∀(dg:c47)(acc:028),11 (oZ acc dg)≤f07+n57|[],acc=>64|q::dg,acc=>by have af:=agA dg (ie acc 449 423);have ak:=H_ acc 449 423;show 11 (oZ (ie acc 449 423) dg)≤_;rw[dR];lia
theorem agB{pins:224}{σ:bq}{H:av}{s:aZ}(I:24):∀{ps:27}{dg:c47},ov (n58 (dX X.K H p [.ref q.1,423]∧H q.1=f86 ec)) ps dg→∃prs:848,ov agz dg prs∧h30=744∧n62 (prs[j]?=796→∃(b:ag),ps[j]?=360∧IsTup 28 b #[d88,423]∧(jS (fg 61 X.w)).is 28 q.1 449)
 |_,_,.nil=>⟨[],89,rfl,n61 k34⟩
 |_,_,.cons (a:=p) (b:=q) h t=>by
  obtain⟨prs,r,ax,au⟩:=agB I t;obtain⟨a0,cV,bk,_⟩:=b26 h.1;obtain⟨u,y,hg,gR,bQ⟩:=TR cV;subst hg;cases(show u=da q.1 from gR);refine⟨(449,q.1,y)::prs,.cons ⟨rfl,rfl,bQ⟩ r,by rw[dR,dR,ax],j75⟩
  cases j with|zero=>have bZ:(449,q.1,y)=eU:=cI e;subst bZ;exact⟨p,rfl,bk,Aw 274 h.2⟩|succ j=>rw[C21 (au j eU 566)];exact⟨b,p71,aG,cp⟩
inductive agC(K:bo)(xs:08)(H:av)(Q:aW):04|mk:∀(a:ag)(ps:27)(dg:c47),xs=254→aJ K H a 992→(ov (n58 (dX K H p [.ref q.1,423]∧H q.1=f86 ec)) ps dg)→(∀p,H p=00→664 (upd H p (e75 [] dg)))→agC K xs H Q
theorem aze(K:bo)(cj:X.K=K)(bp:e38<kb)(Tp:394):iy X d67 (agC K):=by
 subst cj;rw[C75];obtain⟨a,ps,dg,ex,aw,au,q⟩:=q;rw[A25];obtain⟨u,kO,bw⟩:=o3 r;subst kO;rw[A07];rw[C22 k05];have hg:=Ih cV;subst hg;rw[ba]at hz;obtain⟨prs,rel,ax,azf⟩:=agB I au;obtain⟨o,n,a8,ar,hd,sm⟩:=pl;have azg:∀q∈dg,H q.1=f86 ec:=by intro q aw;obtain⟨_,h⟩:=Paired.right au q aw;exact h.2
 refine ay9 (prs:=prs) 03 (I.ok.hd Tp) a8 ar hd sm (by simp[ax]) (by rw[ax];exact hz) j75 m95
 ·rw[C21 (azf j eU e)];exact⟨b,by simp[aK],aG,cp⟩
 ·have hm:(18==l5)=09:=963 (lF I.big);have hlen:069 (oZ [] dg):=by refine cX (agA dg []) ?_;rw[l4,qx,rR rel,ax];exact hz
  have fr:=081 (cL 18);obtain⟨cQ,aR,c0,af,ak,a6,bH,fX,iT⟩:=kW;refine⟨277,upd H 18 (e75 [] dg),f91 tk k (88 (fx 61 X.w _ _ _ (e75 [] dg)) ⟨568,hm,_,(kh.merge rel azg 89).keeps (fun b ys e=>?_),cQ,aR,c0,af,ak,a6,bH,iT⟩),rfl,q _ fr⟩;rw[117 fr];exact e
inductive agD(xs:08)(H:av)(Q:aW):04|mk:∀(d:ag)(kvs:028),xs=[602]→H d=some c05→(∀l dg,m00 (H q=294 m51) dg kvs→H l=00→838 l H l (dg.map 502))→agD xs H Q
theorem azh(Tp:394):iy X 901 agD:=by
 rw[C75];obtain⟨d,kvs,ex,hd,q⟩:=q;rw[A25];obtain⟨u,kO,bw⟩:=o3 r;subst kO;rw[A07];obtain⟨z,aL,xs,rel,o,aR,c0,af,ak,a6,bH,fX,iT⟩:=Ax 274 (.inl hd);have K5:57=378:=567 (rR rel);refine PySem.W.kdl_call (azc aL ak a6 bH) (I.ok.hd Tp) af (by rw[K5];exact z) (fun h' tk acc c k e q3=>?_);have Rf:f06=(i75).map da:=by
  refine wY (c95 ?_);by_cases bS:j<57
  ·have aK:acc[j]?=some (acc[j]'(n60 q3.1)):=YC (n60 q3.1);obtain⟨x,ex,ev⟩:=q3.2 j _ aK;have cp:acc.toList[j]?=acc[j]?:=19;rw[cp,aK,ev,cK,cK,ex];rfl
  ·rw[hH (by simp[q3.1];lia),187]
 have a3:cc ((i75).map 502) f06:=by rw[Rf];exact agy _
 refine 839 _ _ (f91 tk k (88 (fx 61 X.w _ h' _ (.lst ((i75).map 502))) ⟨by rw[ba,ba,K5];exact z,f06,c,a3,566⟩)) (q _ _ ?_ 684);exact azd rel
def j5(g:06):756:=g.map (h29 (gn 44:cF))
theorem Tq(g:06):(j5 g).map ec=a_ g:=by unfold j5 a_;rw[gP];rfl
theorem Tr:∀{g h:06},j5 g=j5 h→g=h|[],[],_=>rfl|[],_::_,e=>p70|_::_,[],e=>p70|a::g,b::h,e=>by have bZ:(gn b11:cF)::j5 g=(gn (15 b):cF)::j5 h:=e;have af:=agE bZ;have ak:b11=b:=V7 af.1;rw[Tr af.2,acJ ak]
theorem azi{h:06}(e:a_ g=a_ h):g=h:=by unfold a_ at e;exact(List.map_inj_right (fun a b h=>by have:b11=b:=ae.int.inj h;exact acJ 246)).mp e
def F0(H:av)(f:06)(u:aH):Bool:=match u with|.ref b=>(p69 (H b) (29 (ys=c72)) 09)|_=>09
theorem agF{f:06}(h:H b=919 g):F0 H f 281=29 (g=f):=by
 show(p69 (H b) (29 (ys=c72)) 09)=_;rw[h];show 29 (a_ g=c72)=_;rw[A06 g f]
 ·rw[e];simp
 ·rw[132,174 (e (azi q))]
theorem azj{f:06}(To:f76 (H t=919 x) aD cm):(k02).any (F0 H f)=a43 f cm:=by
 induction To with
  |nil=>simp
  |@cons t g _ _ h q ih=>
   rw[eN,pe,ih,agF h];rw[A06 g f]
   ·subst e;simp
   ·have:¬f=g:=e66 b25;simp[e,this]
theorem agG{Ts:f3}{gQ:ff}(ok:fy P w H h)(e:H a=919 g):IsTupleKey (fg Ts gQ) h (j5 g) a:=by rw[C74 (88 (fx P w H h a (.tup (a_ g))) (ok a _ e))];rw[←Tq]at r;exact⟨o,275,n,af,ak,a6,080 (Oj r)⟩
inductive agH(K:bo)(x:ae)(y:ae)(H:av)(Q:aW):04|mk:∀(b p:ag)(f:06)(aD:27)(cm:30),x=281→y=280→H b=919 f→aJ K H p 587→(f76 (H t=919 x) aD cm)→446 (! a43 f cm)→agH K x y H Q
theorem azk(K:bo)(cj:X.K=K)(bp:e38<kb):j97 (agH K):=by
 subst cj;rw[A45];obtain⟨b,p,f,aD,cm,rfl,rfl,aa,aw,aN,q⟩:=h;rw[A07];rw[A24];rw[B34 aw];have hg:=Ih r;subst hg;refine al5 (F0 H f) 965 (fun u Al=>?_) (128 _ H I ?_)
 ·have kT:u∈k02:=p68;obtain⟨t,bk,rfl⟩:=112 kT;rw[A86 bk];obtain⟨g,_,a4⟩:=aN.get hi;intro Ts gQ aCl tC eU;refine wpAny_eqBool_tuple (knd:=fg Ts gQ) ?_ (agG 274 a4) (agG 274 aa) ?_
  ·show d62 1<kb;lia
  ·rw[agF a4]at eU;have:29 (j5 g=j5 f)=29 (g=f):=by
    rw[A06 g f]
    ·rw[e];simp
    ·rw[132,174 (e (Tr q))]
   rw[A16];exact eU
 ·rw[show(k02).toArray.any (F0 H f)=(k02).any (F0 H f)by simp,azj aN];exact q
theorem azl[m61](kvs:524)(k:e8)(v:ae):a23 (ie kvs k v)=13 (k∈d63) d63 (d63++[k]):=by
 unfold ie;have e:(g15 k)=a43 k d63:=by
  rw[hu,ly,decide_eq_true_iff,cJ];rw[A04]
  ·rintro⟨x,af,ak⟩;exact⟨x,af,d45⟩
  ·rintro⟨x,af,ak⟩;exact⟨x,af,102 ak⟩
 rw[e];rw[A39 (k∈d63)]
 ·rw[188,101,114,gP];refine lz (k33 ?_);show(13 (x.1=k) (x.1,v) x).1=x.1;split<;>rfl
 ·rw[113 h,107,125,d5];rfl
theorem agI:j5 g∈F.map j5↔g∈F:=by
 rw[cJ];rw[A04]
 ·rintro⟨x,h,e⟩;rw[←Tr e];exact h
 ·exact 312 (715 g h)
theorem agJ:∀(dg:c47)(cm:30)(acc:028)(F:30),dg.map (·.2.1)=cm.map j5→acc.map 379=F.map j5→a23 (oZ acc dg)=(b94 F).map j5
 |[],[],acc,F,_,h=>h
 |[],_::_,_,_,h,_=>501
 |_::_,[],_,_,h,_=>501
 |q::dg,g::cm,acc,F,h,h'=>by
  rw[eN,eN]at h;have af:=agE h;show a23 (oZ (ie acc 449 423) dg)=(b94 (iq F g)).map j5;refine agJ dg cm _ _ af.2 ?_;rw[azl,h',af.1];unfold iq;by_cases hm:g∈F
  ·rw[21 (agI.mpr hm)];simp[hm]
  ·rw[136 (hm (agI.mp z))];simp[hm]
theorem azm{o:dz}(h:H a=25):upd H a o=H:=by
 funext b;unfold upd;split
 ·next e=>rw[e,h]
 ·rfl
theorem Tt{x y:dz}(h:a≠b):761 a x b y=761 b y a x:=by
 funext c;rw[A72 (c=b)]
 ·have ak:c≠a:=16 (h (z.symm.trans af));rw[af,aI,aE (af▸ak),aI]
 ·rw[aE af];rw[A79 (c=a)]
  ·rw[ak,aI,aI]
  ·rw[aE ak,aE ak,aE af]
theorem azn{kvs:410}{g:iv}{D:lY}{σ:bq}(Pv:647)(h0:Pv 0 σ H)(ax:h28 (i≤378→560→H d=798 900))(aL:∀i k x σ H,kvs[i]?=some (k,x)→560→g x σ H (fun c6 aB=>b67 361 361 c6 aB))(hd:c73 (Pv 378 σ H) 659):∃W:240 647,(∃m,W 0 m σ H)∧∀i m σ H,W i m σ H→(800 (DT d o kvs)∧659)∨((DT d o kvs).go i H∧∃N:409,e99 (N cb H'→∃eg,eg<m∧W (i+1) eg cb H') ((DT d o kvs).mL i H x H'→g x σ H' (fun c6 aB=>a11 c6 aB))):=by
 rw[B09 (m=378-i∧i≤378∧560) ⟨378,19,229,h0⟩];rw[B18];have q:=ax i σ H hi p;by_cases cM:i<378
 ·refine .inr ⟨⟨q,cM⟩,361,j11 (378-(i+1)) rfl cM ky,c14⟩;obtain⟨e,k,y⟩:=y;subst e;exact aL i k x σ _ y p
 ·rw[A50 (i=378)];subst e;rw[A23 ⟨q,64⟩ (hd σ H p)]
theorem agK{L:Nat}{rows:30}(ok:870)(h:h27 (rP n L g))(ar:b03 g):rP n L g:=by induction ar with|here ai=>exact h _ ai|step _ aC ih=>exact ajJ ok ih aC
theorem azo{L:Nat}(aU:n≤4)(gG:L≤2)(az:F.Nodup)(h:∀g∈F,rP n L g):n29:=by have af:=ajI az h;have ak:n^L≤4^L:=Jr aU L;have a6:4^L≤4^2:=A9 14 gG;have:(4:Nat)^2=377:=rfl;lia
theorem azp{k:cF}{x:ae}(h:(hF ls as)[i]?=some (k,x)):∃a,325=533∧x=38:=by
 unfold hF at h;rw[zB]at h
 cases af:ls[i]? with|none=>rw[af]at h;simp at h|some c=>cases ak:325 with|none=>rw[af,ak]at h;simp at h|some a=>rw[af,ak]at h;simp at h;rw[A44 a h.2.symm]
theorem agL{H:av}:∀{us:27}{kvs:028}{F:30},m00 (H q=294 m51) us kvs→d63=F.map j5→f76 (H t=919 x) us F|_,_,[],.nil,_=>89|_,_,_::_,.nil,h=>501|_,_,[],.cons _ _,h=>501|_,_,g::F,.cons h t,e=>by rw[eN,eN]at e;have bZ:=agE e;refine .cons ?_ (agL t bZ.2);rw[h,bZ.1,Tq]
abbrev Ll:bK:=bA 0x1d
theorem agM:31 [396,k32,b24,726,"done",243,079,k31] j00 Ll:=⟨rfl,rfl,rfl,05,rfl,05,05⟩
structure zb(rows cm F:30)(b1:Nat):04 where
 az:F.Nodup
 all:h27 (g∈F)
 B5:∀g∈F,b03 g
 Tu:∀i,i<b1→∀g,F[i]?=some g→∀y∈ot 17 g,y∈F
 le:b1≤k26
theorem zb.more{rows:30}{b1:Nat}(h:zb 17 cm F b1){f:06}(hf:f∉F)(ar:b03 f):zb 17 cm (F++[f]) b1:=by
 refine⟨?_,f04 (Hc _ (h.all g a4)),c33,fun i hi g a4 y aC=>?_,by rw[cn];have:=h.le;lia⟩
 ·rw[L9];exact⟨499,19,fun a aN b aa e=>hf (by rw[←86 aa,←e];exact aN)⟩
 ·rcases 362 a4 with q|q
  ·exact h.B5 g q
  ·rw[86 q];exact ar
 ·rw[mN (by have:=h.le;lia)]at a4;exact Hc _ (h.Tu i hi g a4 y aC)
theorem azq(D:cq K ah n59 Ll j00 f fd)(R9:ah 500=00)(Tj:ah 536=00)(azr:ah 809=00)(On:ah "len"=00):Pr P w K ah 02 aO 1 n59 j00 SD:=by
 rw[A02 agM]
 ·obtain⟨d,p,as,ls,rows,n,L,aD,cm,rfl,_⟩:=h;rfl
 ·obtain⟨d,p,as,ls,rows,n,L,aD,cm,rfl,di,ok,uH,SF,qg,bB,aCm,Te,aCn,k⟩:=h;have S:=agM;rw[A01 (90 3 (l_ (azh rfl) 66 R9 Ba (78 (l_ (aze K rfl f05 rfl) 66 Tj agm (78 (k9 rfl 242 c08 (own:=[(b24,2)]) (295 [396,k32,b24,726,"done",243,079,k31] Ll) g98 369 (286 (oC (e36 2 l8)))))))) (94 4 bu) (239 (tG eL (bM ka (J 4) (d6 (hO K rfl) 66 On eJ 846) (bO _)) (434 (Yt (e_ eL rfl (an0 252) (98 5 rfl e92) (018 7 (l_ (ab7 K rfl) 66 azr boot_tuple (78 (k9 rfl 242 (IE K rfl (440 85 327)) (own:=[(079,6)]) (295 [396,k32,b24,726,"done",243,079,k31] Ll) (925 6) 369 (286 (440 463 868))))) (bX (bM (azk K rfl f05) (J 7) 85 rfl) (aM (fK (hD K rfl h9 sC sD qQ 85 (384 7)))) b2)))) (Di (i:=4) 242 rfl 70 bu z2))) 85))];have agN:=qg.lst;refine⟨_,rfl,p,rfl,223 agN,fun d2 oO=>?_⟩;refine kC (K:=K) (a:=p) (xs:=587) (877 (∃(ps:27)(dg:c47),49∧H' d2=247 992∧ov (n58 (416=294 [.ref q.1,423]∧H' q.1=f86 ec)) ps dg∧dg.map (·.2.1)=(cm.take j).map j5)) ⟨[],[],422 oO,aI,89,rfl⟩ (fun j H' _⟨_,_,gW,_⟩=>32 (gW _ _ agN)) ?_ ?_
  ·rintro j y H' aC⟨ps,dg,s1,cO,dH,cj⟩;rw[C20 (qg.get aC)];have bS:=eI ai;refine⟨rfl,_,rfl,338,c32⟩;have i_:=b05 [784,.bN 01];have y7:=i_ _ _ cO;have B0:T≠d2:=16 (by rw[z,cO]at bR;cases bR);have eH:=rR dH;have avF:n57=j:=by have:=137 cj;rw[ba,ba,eS]at this;lia
   refine⟨_,y7,?_,ps++[T],dg++[(t,j5 x,.bN 01)],g89,?_,?_,?_⟩
   ·rw[ba];rw[A14 (show 255 by lia)]
   ·rw[110 z oO];exact i_ _ _ (s1 _ _ z)
   ·rw[A52];rfl
   ·refine Yd (Paired.G8 dH (fun a b q=>?_)) ?_
    ·exact⟨553 (i_ _ _ q.1) y7 (i_ _ _ q.1),553 (i_ _ _ q.2) y7 (i_ _ _ q.2)⟩
    ·rw[A27 (862 B0)];have af:=i_ _ _ (s1 _ _ bk);show upd _ _ _ t=294 ((j5 x).map ec);rw[Tq];exact 553 af y7 af
   ·rw[dZ ai,d5,d5,cj];rfl
  ·rintro H1⟨ps,dg,s1,cO,dH,cj⟩;rw[ba,qg.hq.len,eK]at cj;refine⟨d2,ps,dg,rfl,32 cO,Paired.G8 dH (fun a b q=>⟨448 q.1,q.2⟩),fun dd vR=>?_⟩;refine⟨dd,_,rfl,aI,fun q us yH aw=>?_⟩;have mP:=agJ dg cm [] [] cj rfl;have agO:668 (b94 []):=ajN;have Tv:∀g,g∈b94 []↔g∈cm:=563 ajO;generalize b94 []=Tw at mP agO Tv;have Tx:=964 (e75 [] dg) vR;have Tz:=293 a24 aw;have s2:=35 (808 Tx) Tz;have oW:H q=00:=(808 Tx).free aw;have agP:jj (34 (upd H1 dd (e75 [] dg)) q a24) q us Tw:=⟨aI,(agL yH mP).mono (fun t x h=>Tz _ _ h)⟩;generalize 34 (upd H1 dd (e75 [] dg)) q a24=aB at s2 agP⊢;clear yH mP Tx Tz aw vR cj dH cO s1 oO;have hE:∀{dM:av}{o:dz},786→aA H (upd dM q o):=fun{dM o:_}e b u z=>364 (110 z oW) (e b u z);have azs:zb 17 cm Tw 0:=⟨agO,h26 ((Tv g).mpr h),h26 (.here ((Tv g).mp h)),618 (03),229⟩;have TA:∀{F:30}{b1:Nat},zb 17 cm F b1→n29:=fun{F b1:_}h=>azo uH Te 499 (f04 (agK ok bB (h.B5 g a4)));rw[B72 (∃(b1:Nat)(us:27)(F:30)(v2 ew v6 fM:93),σ=[872,444,v2,874,71 b1,ew,v6,fM]∧49∧jj H' q us F∧zb 17 cm F b1∧m=377-b1) ⟨_,0,us,Tw,00,00,00,00,rfl,s2,agP,azs,rfl⟩];rintro m σ a5⟨b1,us,F,v2,ew,v6,fM,rfl,s3,Lm,zc,rfl⟩;refine⟨_,rfl,_,rfl,q,_,rfl,306 Lm.lst,b1,_,rfl,rfl,_,rfl,?_⟩;have yG:=Lm.hq.len;have G3:=TA zc;refine eo g92 n41
   ·have cM:b1<k26:=by have:=210;rw[ba]at this;lia
    rw[A01 a25];obtain⟨g,a4⟩:∃g,F[b1]?=some g:=⟨F[b1],cA cM⟩;have oM:=agK ok bB (zc.B5 g (cG a4));have BG:=83 di.y1;refine⟨d,_,BG,xX,fun cQ=>?_⟩;have F1:q≠d:=16 (by rw[z,di.y1]at oW;cases oW);refine⟨_,rfl,d,cQ,_,rfl,aI,azn (d:=d) (o:=cQ) (kvs:=606) (fun i σ TB=>∃(bP:av)(us:27)(F:30)(ew v6 fM:93),TB=upd bP d (.eT cQ g46)∧σ=[872,444,v2,874,71 b1,ew,v6,fM]∧aA H bP∧jj bP q us F∧zb 17 cm F b1∧F[b1]?=some g∧565 (rows.take i) ((g.map (72 (r.getD x x)))∈F)) ⟨a5,us,F,ew,v6,fM,rfl,rfl,s3,Lm,zc,a4,725 (by simp at aq)⟩ (fun i σ H' _⟨bP,_,_,_,_,_,e,_⟩=>by rw[e];exact aI) ?_ ?_⟩
    ·rintro i CE x σ TB ai⟨bP,us,F,ew,v6,fM,rfl,rfl,s4,B6,sQ,uK,Bz⟩;obtain⟨a,aN,rfl⟩:=azp ai;have hi:i<667:=by have:=eI aN;rw[di.oV,←di.len];exact this
     obtain⟨r,F2⟩:∃r,775=447:=⟨rows[i],122⟩;have azt:=di.row i a r aN F2;have By:=103 azt;have agQ:=103 di.y1;have k_:=ok r (cG F2);have agR:a≠d:=355 By agQ;have azu:=TA sQ;have aCo:=B6.hq.len;obtain⟨t,bk⟩:∃t,us[b1]?=some t:=⟨us[b1]'(564 (eI uK)),cA _⟩;obtain⟨g',KO,Ln⟩:=B6.hq.get bk;obtain rfl:g'=g:=by rw[uK]at KO;exact 129 KO
     have TC:t≠d:=355 Ln agQ;refine⟨_,rfl,_,rfl,q,_,_,784,rfl,rfl,32 (41 F1 B6.lst),fm (by rw[cK,bk];rfl),t,rfl,404 (448 (41 TC Ln)),n42⟩;have agS:dE≠d:=16 (by rw[z,aI]at fp;cases fp);have azv:bP dE=00:=k29 (aE agS) fp;refine am7 (K:=K) (a:=t) (xs:=a_ g') (877 (H'=322 (upd bP d (.eT cQ g46)) dE (g60 (g'.take j) (r.getD x x)))) rfl (n56 (k30 (448 (335 (41 TC Ln) fp (41 TC Ln))))) ?_ ?_
     ·rw[C19];rw[C18 (vY aC)];have cM:=oM.2 st (cG gq);have bS:=eI gq;rw[oM.1]at bS;have azw:(a_ r)[st]?=71 (r.getD st st:Nat):=i58 (cA (by rw[k_.1];exact cM)) (by rw[k_.1];exact cM);refine⟨rfl,_,rfl,_,rfl,a,_,_,_,rfl,rfl,32 (335 (41 agR By) fp (41 agR By)),fm azw,_,aI,?_,?_⟩
      ·rw[hn,ba,eS];rw[A14 (show 255 by lia)]
      ·rw[gp,dZ gq,d5,AW];rfl
     ·rintro de rfl;rw[hn,eK];refine⟨dE,_,rfl,aV ⟨e42,c32⟩⟩;have B0:T≠dE:=16 p67;rw[aE B0]at bR;have TF:T≠d:=16 p67;have uo:bP T=00:=k29 (aE TF) bR;rw[Tt agS.symm,Tt TF.symm];generalize TG:(g'.map (72 (r.getD x x)))=f;have yA:=593 f azv;have azx:334 bP dE c72 T=00:=41 B0 uo;have agT:=822 c72 azx;have s5:=35 (k28 yA) agT;have uL:=B6.same (yA.trans agT);have BF:upd (322 bP dE f) T (.tup c72) T=919 f:=aI;generalize 388 (322 bP dE f) T c72=de at s5 uL BF⊢;have azy:=s5 _ _ di.y1;have azz:b03 f:=by rw[←TG];exact .step (sQ.B5 g' (cG uK)) (143 r (cG F2))
      have azA:f76 (upd de d (.eT cQ g46) t=919 x) us F:=uL.hq.mono (k27 (553 q azy q));refine⟨_,rfl,_,rfl,T,q,f,us,F,rfl,rfl,41 TF BF,32 (41 F1 h25),azA,_,rfl,?_⟩;refine eo k19 k19
      ·have uc:f∉F:=p66;refine⟨_,rfl,329 (41 F1 h25),_,rfl,q,_,_,rfl,rfl,41 F1 h25,?_,?_⟩
       ·rw[ba];rw[A14 (show 255 by lia)]
       ·refine⟨34 de q (a24++[c51]),us++[T],F++[f],_,_,_,Tt F1.symm,rfl,hE s5,328 n55,sQ.more uc azz,?_,fun dF p9=>?_⟩
        ·refine e49 (uL.hq.mono (fun b x h=>?_)) ?_
         ·exact 553 h h25 h
         ·exact 553 BF h25 BF
        ·rw[mN (eI uK)];exact uK
        ·rw[dZ F2]at p9;rcases 362 p9 with h|h
         ·exact Hc _ (Bz dF h)
         ·rw[86 h,TG];exact vz _ g75
      ·have yv:f∈F:=p66;refine⟨de,us,F,_,_,_,rfl,rfl,s5,uL,sQ,uK,fun dF p9=>?_⟩;rw[dZ F2]at p9;rcases 362 p9 with h|h
       ·exact Bz dF h
       ·rw[86 h,TG];exact yv
    ·rintro σ TB⟨bP,us,F,ew,v6,fM,rfl,rfl,s4,B6,sQ,uK,Bz⟩;rw[A27 aI];rw[gp,azm (103 di.y1)];have azu:=TA sQ;have Z4:=eI uK;refine⟨_,rfl,_,_,rfl,rfl,377-(b1+1),03,b1+1,us,F,_,_,_,_,rfl,s4,B6,⟨sQ.az,sQ.all,sQ.B5,fun i hi g1 yN y aC=>?_,Z4⟩,rfl⟩;by_cases Kf:i=b1
     ·subst Kf;rw[uK]at yN;cases yN;obtain⟨r,aq,rfl⟩:=112 aC;refine Bz r ?_;have:11 606=667:=by unfold hF;rw[qw,di.len,di.oV,Nat.min_self]
      rw[this,eK];exact aq
     ·exact sQ.Tu i 03 g1 yN y aC
   ·have hle:b1=k26:=by have af:=of_decide_eq_false qX;rw[ba]at af;have:=zc.le;lia
    rw[A01 rfl];refine k a5 q us F s3 Lm (563 ⟨zc.B5 g,312 (ajF zc.all (n54 ?_) h)⟩) G3;rw[A86 ai];exact zc.Tu i (by rw[hle];exact eI hi) x hi y aC
inductive F3(K:bo)(x:Str)(st:bK):04|mk:d77 (lp K i6 x=871) (hC K x x st f fd→F3 K x st)
inductive Lo(K:bo)(C:ag)(m:Str)(qual:Str)(st:bK):04|mk:d77 (Ca K C m f) (hC K m 74 st f fd→Lo K C m 74 st)
structure Lp(K:bo)(x:Str)(C:ag):04 where
 ns:lp K i6 x=287 C
 cl:h4 K C
 azB:Nl K C=01
 fC:oB K 236=01
structure uM(K:bo)(x:Str)(a:ag)(xs:08):04 where
 ns:lp K i6 x=287 a
 at_:∀H,956
structure Lq(K:bo)(x:Str)(a:ag):04 where
 ns:lp K i6 x=287 a
 Bm:∀P w,JR P w K a Bo
inductive Lr(K:bo)(C:ag):04|mk:d77 (q7 K C f) (hC K 421 f03 yM f fd→Lr K C)
theorem azC{st:bK}{ec pm:aH}(a:lp K i6 x=871)(l:710 f (c52 ig cQ (tK x x c37 033 844 87 ec doc pm an bx ek) k7))(c:Du K bx x=01)(k:066 K=01):F3 K x st:=⟨f,_,a,OG l c k⟩
theorem azD{st:bK}{ec pm:aH}(a:r7 K 236 x=871)(i:Nk K 590=01)(l:710 f (c52 ig cQ (tK x 74 c37 033 844 87 ec doc pm an bx ek) k7))(c:Du K bx 74=01)(k:066 K=01):Lo K C x 74 st:=⟨f,_,⟨a,i,k⟩,OG l c k⟩
theorem azE(ns:lp K i6 x=287 C)(dq:Hx K C Dq=01)(hd:Nj K C=01)(po:W4 K C=01)(bG:r7 K 236 b23=c44)(mk:Nl K C=01)(fC:oB K 236=01):Lp K x C:=⟨ns,⟨dq,hd,po,bG⟩,mk,fC⟩
theorem agU{i j:Int}{t u:Tok}(ns:lp K i6 x=287 a)(l:899=some ⟨748,cQ,b15 #[706,785 j],dP⟩):uM K x a [260,859]:=⟨ns,fun H=>.inr ⟨_,_,_,l,rfl,rfl,338,752 rfl (386 282)⟩⟩
theorem azF{i j i2 F4:Int}{t u jt jP:Tok}(ns:lp K i6 x=287 a)(l:899=some ⟨748,cQ,b15 #[706,785 j,.int i2 jt,.int F4 jP],dP⟩):uM K x a [260,859,.int i2,.int F4]:=⟨ns,fun H=>.inr ⟨_,_,_,l,rfl,rfl,895 4,752 rfl (752 rfl (752 rfl (386 282)))⟩⟩
theorem azG{i j i2 F4 u9 agV Ls agW:Int}{t u jt jP t3 AJ azH EF:Tok}(ns:lp K i6 x=287 a)(l:899=some ⟨748,cQ,b15 #[706,785 j,.int i2 jt,.int F4 jP,.int u9 t3,.int agV AJ,.int Ls azH,.int agW EF],dP⟩):uM K x a [260,859,.int i2,.int F4,.int u9,.int agV,.int Ls,.int agW]:=⟨ns,fun H=>.inr ⟨_,_,_,l,rfl,rfl,895 8,752 rfl (752 rfl (752 rfl (752 rfl (752 rfl (752 rfl (752 rfl (386 282)))))))⟩⟩
theorem azI{k1 k2 k3 Bp v1 v2 fb v4:Tok}(ns:lp K i6 x=287 a)(sy:(a==l5)=09)(l:899=some ⟨d67,00,.dict #[770 419 419 k1 (758 857 v1),770 376 376 k2 (758 938 v2),770 470 470 k3 (758 059 fb),770 420 420 Bp (758 860 v4)] c0,#[]⟩):Lq K x a:=by
 rw[A03 ns (fun P w=>⟨sy,[(gn 419,758 857 v1),(gn 376,758 938 v2),(gn 470,758 059 fb),(gn 420,758 860 v4)],.cons (715 rfl _) (.cons (715 rfl _) (.cons (715 rfl _) (386 (715 rfl _)))),fun h h7=>⟨_,_,_,h7 _ _ l,715 rfl rfl,rfl,?_,?_,?_⟩⟩)]
 ·intro e he;have he:e∈[(770 419 419 k1 (758 857 v1):Il),770 376 376 k2 (758 938 v2),770 470 470 k3 (758 059 fb),770 420 420 Bp (758 860 v4)]:=p65;simp only[ed,Br,or_false]at he;rcases he with rfl|rfl|rfl|rfl
  ·exact⟨gn 419,tw P w 419 k1,66⟩
  ·exact⟨gn 376,tw P w 376 k2,66⟩
  ·exact⟨gn 470,tw P w 470 k3,66⟩
  ·exact⟨gn 420,tw P w 420 Bp,66⟩
 ·exact .cons (tw P w 419 k1) rfl (.cons (tw P w 376 k2) rfl (.cons (tw P w 470 k3) rfl (.cons (tw P w 420 Bp) rfl 89)))
 ·simp
theorem azJ(h:LC aR=01):StrKeys aR:=h24 (by
 have:=gB.mp h e p65;split at this
 ·next n t bZ=>exact⟨n,t,bZ⟩
 ·rw[A47])
theorem B7{N:ag}{n:Str}{v:631}(l:710 N ⟨agX,az,g13,dP⟩)(e:lp K N n=54):nsFind aR n=v:=by
 unfold lp at e;rw[l]at e;unfold nsFind findBy;rw[←alg];dsimp only at e;rw[A22]
 ·rename_i e7 he;cases e;rw[he];rfl
 ·rename_i he;rw[A22]
  ·cases e
  ·cases e;rw[he];rfl
theorem azK{nm q:Str}{N:ag}{bs:53}{ns:k09}{ec pm:aH}(azL:710 C (p5 nm q C N bs lb 01 sn sub ab col dd k0 k1 k2 k3 k5 c94))(zd:710 N ⟨agX,az,g13,ns⟩)(i1:lp K N 421=871)(GU:LC aR=01)(i2:lp K N b23=326)(u9:lp K N b22=326)(Ls:lp K N 226=326)(azM:lp K N h23=326)(azN:lp K N h22=326)(l:710 f (c52 f81 cQ (tK 421 f03 (ro yM) (o5 yM) (br yM) 87 ec doc pm an bx ek) k7))(c:Du K bx f03=01)(k:066 K=01)(azO:oB K 236=01):Lr K C:=⟨f,_,⟨⟨nm,q,N,bs,sn,sub,ab,col,dd,k0,k1,k2,k3,k5,807 (nsFind aR n),azL,fun h h7=>⟨_,aR,c0,h7 _ _ zd,rfl,azJ GU,525⟩,B7 zd i1,B7 zd i2,B7 zd u9,B7 zd Ls,B7 zd azM,B7 zd azN⟩,445 l,azO⟩,OG l c k⟩
theorem azP(vs:08)(H:av)(Q:aW)(E:bD)(h:RT CM CS .turns vs H Q E):Sk CM CS vs H Q E:=by obtain⟨a,s,z,e,aY,wf,k⟩:=h;exact⟨a,26,z,e,aY,078,wf.Rv,n53 (aiG wf)⟩
theorem azQ(vs:08)(H:av)(Q:aW)(E:bD)(h:FA CM CS k25 vs H Q E):Sn CM CS vs H Q E:=by obtain⟨a,s,e,aY,wf,k⟩:=h;exact⟨a,26,e,aY,078,wf.Rv,n53 (aiH wf)⟩
theorem azR(vs:08)(H:av)(Q:aW)(E:bD)(h:FC CM CS .keeps vs H Q E):Ss CM CS vs H Q E:=by obtain⟨a,c,s,z,x,e,aY,wf,ar,k⟩:=h;exact⟨a,c,26,z,x,e,aY,078,wf.Rv,ar,n53 (aiI wf)⟩
section
open PySem.W
theorem azS:(k24:Str)=aP EX:=666
theorem azT{v:Value}(h:LF v=01):v=.none:=by
 unfold LF at h;rw[A18]
 ·rfl
 ·cases h
theorem azU{K:Frag}{g:Addr→831}(a4:∀a o,g a=25→899=25){cd:Value}{q:Str}(h:LG g cd q=01):codeIn K cd q=01:=by
 unfold LG at h;rw[A18]
 ·rw[A18]
  ·next e=>unfold codeIn;rw[A71];rw[a4 _ _ e];exact h
  ·cases h
 ·cases h
theorem azV{q:Str}{lJ:Arguments}{agY:List Stmt}(af:fd.name=x)(ak:fd.qualname=q)(a6:fd.globals=962)(bH:fd.closure=[])(fX:fd.defaults=.none)(iT:fd.builtins=builtinsNs)(p:fd.params=lJ)(b:fd.body=.stmts agY)(c:fd.scope=sc):fd=fnOf x q lJ agY sc 87 fd.kwdefaults fd.doc fd.pyModule fd.annotations fd.code fd.closureTuple:=by rw[←af,←ak,←p,←c];cases fd;cases a6;cases bH;cases fX;cases iT;cases b;rfl
theorem TH{K:Frag}{g:Addr→831}(a4:∀a o,g a=25→899=25){q:Str}{v:907}{s:Stmt}(h:ql g x q v=sR s):∃(f:Addr)(cQ an:241 Addr)(k7:724 l63)(ec doc pm bx ek:Value),v=871∧710 f (c52 f81 cQ (fnOf x q (ro s) (o5 s) (br s) 87 ec doc pm an bx ek) k7)∧codeIn K bx q=01∧keepIn K 590=01∧isFn K 590=01:=by
 unfold ql at h;rw[A18]
 ·next f=>
  rw[A18]
  ·next aCp cQ fd k7 ax=>
   rw[A18]
   ·next ar=>simp only[Bool.and_eq_true,decide_eq_true_eq]at ar;obtain⟨⟨⟨⟨⟨⟨af,ak⟩,a6⟩,bH⟩,fX⟩,iT⟩,MJ⟩:=ar;have h:=b18 (173 h);have i:=b18 h.2;have j:=b18 i.2;have ax:=a4 _ _ ax;rw[h.1,azV af ak (p64 a6) (List.isEmpty_iff.mp bH) (azT fX) (p64 iT) i.1 j.1 j.2]at ax;exact⟨f,_,_,_,_,_,_,_,_,rfl,ax,azU a4 MJ,by unfold keepIn;dsimp only;rw[ax],by unfold isFn typeIn;dsimp only;rw[ax];rfl⟩
   ·cases h
  ·cases h
 ·cases h
theorem agZ:∀(l:List Obj)(i j:Nat)(x o:Obj),l[j]?=43→alive x=25→805 (fr l i) (i+j)=25
 |[],_,_,_,_,h,_=>806
 |y::l,i,0,x,o,h,k=>by cases h;rw[fr,k];show 805 ((i,o)::fr l (i+1)) i=25;rw[List.lookup_cons,beq_self_eq_true]
 |y::l,i,j+1,x,o,h,k=>by
  have q:=agZ l (i+1) j x o h k;rw[show i+1+j=i+(j+1)by lia]at q;rw[fr];split
  ·rw[List.lookup_cons,88 ((i+(j+1)==i)=09) (963 03)];exact q
  ·exact q
theorem ag0(a:Addr)(o:Obj)(e:321=25):805 (sT h) a=25:=by
 unfold Heap.get? at e
 cases q:h.objs[a]? with|none=>rw[q]at e;cases e|some x=>rw[q]at e;rw[←Array.getElem?_toList]at q;have:=agZ _ 0 a x o q (by rw[C73];cases jl<;>first|exact e|cases e);rw[Nat.zero_add]at this;rw[A10]
theorem azW(e:Cb h x=871):nsIn (sT h) 962 x=871:=by
 unfold Cb at e;rw[A22]
 ·next q=>
  unfold nsIn;rw[ag0 _ _ q];rw[A71];rw[A22]
  ·next w=>rw[w];exact e
  ·cases e
 ·cases e
theorem azX{st:Stmt}(e:ql h.get? x x (Cb h x)=sR st):F3 (sT h) x st:=by obtain⟨f,cQ,an,k7,ec,doc,pm,bx,ek,af,ak,a6,bH,_⟩:=TH ag0 e;exact azC (azW af) ak a6 bH
theorem azY{K:Frag}{q:Str}{st:Stmt}(h:ql a27 x q (findIn K 236 x)=sR st):Lo K C x q st:=by obtain⟨f,cQ,an,k7,ec,doc,pm,bx,ek,af,ak,a6,bH,fX⟩:=TH i86 h;exact azD af fX ak a6 bH
theorem azZ{K:Frag}(a:nsIn K 962 x=287 C)(b:F8 K C=(01,c44)):Lp K x C:=by rw[C17 (b18 b)];simp only[Bool.and_eq_true]at b9;exact azE a b9.1.1.1.1 b9.1.1.1.2 b9.1.1.2 dj b9.1.2 b9.2
theorem gt{f:α→β}{xs:40}{ys:523}(h:077 f=ys)(i:Nat){x:α}{y:β}(a:441=43)(b:ys[i]?=270):f x=y:=by rw[←h,List.getElem?_map,a]at b;exact 173 b
section
variable{K:Frag}
theorem af{xs:225}{A:Addr}{vs:List 907}(e:077 (nsIn K A)=vs)(i:Nat){v:907}(a:441=43)(b:vs[i]?=54):nsIn K A x=v:=gt e i a b
theorem ak(e:naL.map (16 (g27 K z.1 z.2))=naL.map j19)(i:Nat){f:Str}(a:naL[i]?=some (C,f)):245 f:=l69 e i a
theorem a6(e:zh.map (F8 K)=zh.map (290 (01,c44)))(i:Nat)(a:zh[i]?=some C):F8 K C=(01,c44):=l69 e i a
theorem bH(e:j33 (ql h.get? e54 e54 (Cb h e54))=j33 (sR (bA i)))(n:Nat)(a:m91=01):F3 (sT h) g99 (bA n):=by obtain⟨i,z⟩:=List.getElem?_of_mem (List.contains_iff_mem.mp a);exact azX (gt e i z (by rw[List.getElem?_map,z];rfl))
theorem fX(e:d66 (ql a27 e23 498 (g27 K z.1 e23))=d66 (sR i38))(i:Nat){q:Str}{k:Nat}(a:mtL[i]?=some (C,q,k,j)):Lo K C (c41 k j) q (343 k j):=azY (l69 e i a)
theorem az0(l:710 961 (excClassObj 723 723 961 b21 [989] lb 01 [] [] 09 00 00 (46 0x195) 00 (j93 0x32e) (j93 0x336) (some d71) c94))(s:ql a27 421 f03 (nsIn K b21 421)=sR yM)(e:F9.map (nsIn K b21)=F9.map j19)(b:(LH (722 b21)&&keepIn K (.ref 961))=01):Lr K 961:=by
 rw[C17 (n48 b)];obtain⟨f,cQ,an,k7,ec,doc,pm,bx,ek,a1,a2,lS,v5,Jd⟩:=TH i86 s;unfold LH at b9;split at b9
 ·next agX az aR c0 dP fs=>exact azK l fs a1 b9 (af e 0 rfl rfl) (af e 1 rfl rfl) (af e 2 rfl rfl) (af e 3 rfl rfl) (af e 4 rfl rfl) a2 lS v5 dj
 ·cases b9
structure Lu(K:Frag):04 where
 b:LI K=sU
 f:∀n,m91=01→F3 K g99 (bA n)
 m:d66 (ql a27 e23 498 (g27 K z.1 e23))=d66 (sR i38)
 a:Lr K 961
theorem az1{s:Shared}(e:Yf s=(sU,wO)):Lu (sT 28):=by have b:=824 z.1 e;have c:=824 z.2 e;have o:=824 z.2.2.2 b;exact⟨b,bH (824 z.1 c),824 498 c,az0 (gt o 5 rfl rfl) (824 z.2.2.1 c) (824 z.2.2.2.1 c) (824 z.2.2.2.2 c)⟩
end
end
end
section
variable{C CM D a c d f fI t:ag}{F:List (List Nat)}{K:bo}{ps:List Str}{P:f3}{us:List aH}{e:dn}{bx doc ek:aH}{o:Obj}{ah:Str→Option aH}{an:Option ag}{i j n:Nat}{base h:dk}{g:List Nat}{cl:Str→Option ag}{fd q9:k6}{x:Str}{q:Search}{s:dt}{v:Word}{w:ff}{m:g0}{xs:List ae}{X:dT}{CX:pJ}{sp:mM}{z:Nat×hr}
section
open PySem.W
theorem B8{F:92 53}(h:F [])(us:53)(ax:892=0):F us:=by cases us with|nil=>exact h|cons=>cases ax
theorem wJ{F:92 53}(h:∀a us,892=n→F (a::us))(us:53)(ax:892=n+1):F us:=by cases us with|nil=>cases ax|cons a us=>exact h a us (Nat.succ.inj ax)
abbrev TJ(x q:Str)(st:bK)(ps:225):04:=p63 639 53 (b79→bindArgs (tK x q c37 033 844 87 ec doc pm an bx ek) 916=pure 908)
structure qi(P:f3)(w:ff)(K:Frag)(ah:261)(base:dk)(fI:ag)(q9:k6):04 where
 g:∀{x:Str}{v:631},nsIn K i6 x=54→ah x=v
 X:Lu K
 Z:wm P w K ah 02 961 fI q9
section
variable(ao:qi P w K ah 02 fI q9){B9:Str}{ag1:241 631}{dU:Nat}{wK:225}
include ao
theorem qi.eO(i:Nat)(a:nsN[i]?=43:=by rfl)(c:zg[i]?=some ag1:=by rfl):nsIn K i6 x=ag1:=gt (j99 z.1) i a c
theorem qi.bn(i:Nat)(a:naL[i]?=some (C,x):=by rfl):245 x:=ak (j99 498) i a
theorem qi.uj{o:831}(i:Nat)(a:TY[i]?=some C:=by rfl)(c:sU.2.2.2[i]?=25:=by rfl):722 C=o:=gt (f:=a27) (j99 z.2.2.2) i a c
theorem qi.lq(i:Nat)(a:nsN[i]?=43:=by rfl)(c:zg[i]?=454 (46 C):=by rfl)(d:zh[i]?=some C:=by rfl):Lp K x C:=azZ (ao.eO i a c) (a6 (j99 z.2.2.1) i d)
theorem qi.ht(i:Nat)(a:nsN[i]?=43:=by rfl)(c:zg[i]?=454 00:=by rfl):ah x=00:=ao.g (ao.eO i a c)
theorem qi.bi(i:Nat){z:Int}{t:Tok}(a:nsN[i]?=43:=by rfl)(c:zg[i]?=454 (some (.int z t)):=by rfl):220 x z:=⟨_,ao.g (ao.eO i a c),t,rfl⟩
theorem qi.bs(i:Nat){t:Tok}(a:nsN[i]?=43:=by rfl)(c:zg[i]?=454 (some (.str k24 t)):=by rfl):d7 ah x (76 EX):=⟨_,ao.g (ao.eO i a c),t,109 (fun s=>C3 s t) azS⟩
theorem uM.jE(c:uM K x a xs):d7 ah x 38:=445 (ao.g c.ns)
theorem Lq.jE(c:Lq K x a):d7 ah x 38:=445 (ao.g c.ns)
theorem qi.cD(n:Nat)(F:n52 (cq K ah g99 (bA n) wK f fd→Pr P w K ah 02 CX dU x ps sp))(a:m91=01:=by rfl)(aa:TJ g99 g99 (bA n) wK:=by intro _ _ _ _ _ _;(repeat refine wJ fun _=>?_);exact B8 rfl):Pr P w K ah 02 CX dU x ps sp:=p62 (ao.X.f n a) (F ⟨e,e.binds aa,ao.g d⟩)
theorem qi.ze(i n j:Nat)(F:n52 (hC K (c41 n j) B9 (343 n j) f fd→eP P w K ah 02 CX dU f fd wK sp))(a:mtL[i]?=some (C,B9,n,j):=by rfl)(aa:TJ (c41 n j) B9 (343 n j) wK:=by intro _ _ _ _ _ _;(repeat refine wJ fun _=>?_);exact B8 rfl):jb P w K ah 02 CX dU C (c41 n j) wK sp:=p62 (fX ao.X.m i a) ⟨f,fd,d,e.binds aa,F e⟩
theorem qi.uN(i n j:Nat)(c:Lp K x C)(F:n52 (hC K (c41 n j) B9 (343 n j) f fd→eP P w K ah 02 CX dU f fd wK sp))(a:mtL[i]?=some (C,B9,n,j):=by rfl)(e:c41 n j=421:=by rfl)(aa:TJ (c41 n j) B9 (343 n j) wK:=by intro _ _ _ _ _ _;(repeat refine wJ fun _=>?_);exact B8 rfl):mf P w K ah 02 CX dU C x wK sp:=by obtain⟨f,fd,m,g⟩:=fX ao.X.m i a;rw[e]at m;exact⟨f,fd,ao.g c.ns,⟨c.azB,m.at_,m.fn,c.fC⟩,g.binds aa,F g⟩
omit ao
theorem Pr.up(h:Pr P w K ah 02 CX j x ps sp)(aS:j≤dU:=by decide):Pr P w K ah 02 CX dU x ps sp:=h.mono aS
def qj:nG K 417:=⟨007 0,283 0,283 1,283 2,283 3⟩
def gL:gw K 803:=⟨007 1,283 4,283 5,283 6,283 7⟩
def wL:tX K 721:=⟨007 2,283 8,283 9,283 0xa,283 0xb,283 12,283 0xd,283 0xe⟩
def uO:sx K 076:=⟨007 3,283 0xf,283 377⟩
def TK:Kd K 0x27b:=⟨007 4,283 804⟩
def uP:sI K b20:=⟨007 5,283 0x12,283 0x13,283 0x14,283 0x15⟩
def B_:yQ K c93:=⟨007 6,283 0x16,283 0x17⟩
def TM:Kr K 075:=⟨007 7,283 534,283 0x19,283 0x1a,283 0x1b,283 0x1c⟩
def Lv:FJ K 0x8a:=⟨007 8,283 0x1d,283 0x1e⟩
def kP:443:=⟨j54,418 0x38,418 0x39⟩
def i3:347:=⟨418 0x37,418 0x3a,418 470,418 0x3c,418 0x3d,n13,418 0x38,j54⟩
def TN:JS ah:=⟨j54,418 0x36,418 0x34⟩
def ag2:uM K "ARROW" 0x193 [d99,d96]:=agU (ao.eO 0xa) (ao.uj 0)
def ag3:uM K "BLANKS" 0x192 (a_ [9,0xa,0xd,0x20]):=azF (ao.eO 0xb) (ao.uj 1)
def ag4:uM K n51 0x1d (a_ rz):=azG (ao.eO 0xd) (ao.uj 2)
def ag5:uM K n50 0x23f (a_ [2,3]):=agU (ao.eO 0x27) (ao.uj 3)
def ag6:Lq K "SIGNS" 0x194:=azI (ao.eO 0x2a) 14 (ao.uj 4)
def AM:=33 0x28 (aoP D 487 766)
def kF:=33 0x29 (aoR D 487 766)
def tV:=33 0x27 (ao0 D 487 766)
def pV:=33 0x25 (ao2 D 487)
def A4:=33 0x2a (ao3 D 487 j16 (AM ao) (tV ao))
def ml:=33 0x26 (ao4 (CM:=417) D 487 265 j16 (pV ao))
def A7:=33 6 (ao5 D)
def p2:=33 8 (ao6 D 357)
def O3:=33 9 (ao8 D 357)
def A6:=33 0xa (apc D 357 (O3 ao))
def az2:=b96 0 0x78 1 (apf F 487 a66)
def Lw:=b96 1 0x78 2 (aph F a66)
def Lx:=b96 2 0x78 3 (api F a66 (Lw ao))
def ag7:=b96 3 0x36 1 (apq F 487 a65)
def Po:=33 0x38 (apt D 487 j17 a65 265 (250 0x16) (tV ao) (AM ao) e64 (ag7 ao))
def az3:=071 4 0x36 2 (apy F a65)
def Sa:=b96 5 0x36 2 (apB F a65)
def A3:=33 0x37 (apE D 487 a65 265 (az3 ao) (ag7 ao) (Po ao))
def yz:=33 420 (apT D)
def PA:=33 0x5c (apU D 766 (yz ao))
def Jf:=33 0x5d (apV D (yz ao))
def PC:=33 0x5b (apZ D 265 (PA ao) (Jf ao))
def az4:=33 0x7f (ap3 D (pV ao) (PC ao))
def t6:=33 0x82 (ap5 D 487 (pV ao))
def A2:=33 0x83 (ap7 (CM:=417) D 265 j16 j26 (250 0x22))
def az5:=33 0x84 (ap8 D 487 a65 (A2 ao) (A3 ao))
def az6:=33 0x80 (ap9 D 487 265 g00 (250 0x21) h18 (A4 ao) (pV ao) e64)
def az7:=33 0x81 (aqg D 487 j17 265 g00 h18 (A4 ao) (t6 ao) e64)
def az8:=071 6 311 0 (aql F 766)
def ag8:=071 7 419 1 (aqn (CM:=417) F 265)
def az9:=071 8 0x78 3 (aqp F a66)
def JB:=33 0xb (aqt D 357 (A6 ao))
def P1:=33 0x12 (aqx D (p2 ao))
def ub:=33 7 (aqy D 265 766 (A7 ao))
def nN:=33 0xf (aqA D 357)
def Ro:=33 804 (aqF D 357 (nN ao) (p2 ao) (P1 ao))
def Qg:=33 0xe (aqJ D 357 (A6 ao))
def Bn:=33 0x4f (aqN D (250 0xf) (250 0x12))
def aAa:=33 0x4d (aqQ D 487 (250 0x13) (250 0x28) ((ag3 ao).jE ao) (ag3 ao).at_)
def Qe:=33 12 (aqY D 357 (JB ao))
def Bi:=33 0xd (aq6 D 357 265 (ub ao) (Qe ao) (Qg ao))
def aAb:=33 0x88 (aq7 D 357 (Bi ao))
def ag9:=071 9 0x4b 5 (asx F 030)
def aAc:=071 0xa 0x4c 6 (asz F e56)
def QJ:=33 0x50 (asC D (TN ao) ao.Z j16 (250 665) (ao.bs 9) (250 0xf) (Bn ao) (ag9 ao))
def QL:=33 0x4e (asJ D (TN ao) ao.Z (250 419) ((ag6 ao).jE ao) ((ag6 ao).Bm P w) ((ag2 ao).jE ao) (ag2 ao).at_ (Bn ao) (ag9 ao) (QJ ao))
def j3:=b96 0xb 0x4c 1 (asR F e56 030 (aAa ao) (QL ao))
def oR:=33 0x5a (asY D 030 ao.Z (250 0xe) (250 0x15))
def ui:=33 0x59 (as3 D 030 (oR ao))
def wq:=33 0x58 (as4 D 030 265 ao.Z (250 0x2c) (oR ao))
def QT:=33 0x57 (as8 D 030 e56 (j3 ao) (wq ao) (ui ao) (az8 ao))
def Q9:=33 0x56 (atn D 487 030 e56 265 ao.Z (250 0x19) (250 0x1e) (250 0x29) (j3 ao) (wq ao) (ui ao) (oR ao) (QT ao))
def Q8:=33 0x55 (atP D (TN ao) 030 e56 ao.Z (250 0x1d) (250 665) (j3 ao) (ui ao) (oR ao))
def Rb:=33 0x54 (atW D 030 e56 (j3 ao) (aAc ao) (ag8 ao) (Q8 ao) (Q9 ao))
def aAd:=071 12 0x77 4 (aub F (TK ao) (ag8 ao))
def RV:=33 0x7e (auh D 487 (TK ao) ao.Z (250 804) (250 0x1f) (250 0x14) (250 0x2b) (Rb ao))
def Rj:=33 0x14 (auN D (p2 ao))
def BI:=33 0x13 (auO D 357 265 (250 377) (ub ao) (nN ao) (Rj ao))
def aAe:=33 0x90 (auS D (BI ao))
def m6:=33 0x89 (auT (CM:=417) D 265 (250 0x22) (250 0x20))
def uD:=33 0x91 (auU D 265 766 (250 12) (BI ao))
def Rt:=33 377 (auX D 357 265 ((ag4 ao).jE ao) (ag4 ao).at_ (A7 ao) (Bi ao) (p2 ao) (ub ao) (Ro ao))
def aAf:=33 0x8a (au1 D 265 h00 (Rt ao))
def m7:=33 2 (au5 D)
def BL:=33 0x63 (au6 D 357 (m7 ao))
def aha:=071 0xd 0x2c 7 (avg F (TM ao))
def Ku:=33 665 (avh D 265 766 e64)
def BM:=33 376 (avi D (Ku ao))
def qd:=33 0x2f (avj D (BM ao))
def RG:=33 0x31 (avm D 265 766 (aha ao) (tV ao) e64)
def RH:=33 0x32 (avt D 357 (418 0x32) 265 766 (aha ao) e64)
def RJ:=33 0x30 (avE D 357 265 (RG ao) (RH ao))
def BO:=33 0x33 (avG D (TM ao) (RJ ao) (qd ao))
def aAg:=33 0x92 (avH D (TM ao) (uD ao) (BO ao) (qd ao) (t6 ao))
def aAh:=33 0x93 (avK D 357 g00 h18 (uD ao) (BM ao) (t6 ao))
def aAi:=33 0x94 (avL D g00 h18 (uD ao) (BO ao) (qd ao))
def aAj:aeq P w K ah 02 417 803:=⟨(aAe ao).up,(aAg ao).up,(aAh ao).up,(aAi ao).up⟩
def aAk:=33 0x7d (avR D a66 (aAj ao) (Lx ao))
def Sb:=33 0x39 (awn D n13 (418 0x33) a65)
def BU:=33 0x87 (awt D 487 a65 (A2 ao) (A3 ao) (Sa ao) (Sb ao))
def aAl:=33 0x85 (awv D 265 (250 0x20) (BU ao))
def aAm:=33 0x86 (aww D g00 h18 (BU ao))
def uF:=33 0x62 (awM (CM:=417) D 357 (418 0x34) 265 (nN ao))
def Sv:=33 535 (awY (CM:=417) D 357 (418 0x35) 265)
def aAn:=071 0xe 0x17 8 (axd F (Lv ao))
def K6:=b96 0xf 0x17 1 (axe F (Lv ao) (m7 ao))
def B1:=33 0x1b (axf D)
def S2:=33 0x1f (axg (CM:=417) D 357 265 (250 534))
def uy:=33 1 (ayX (CM:=417) D (418 376) (418 0x37) 265)
def KZ:=33 0x1d (azq D n13 (418 376) (418 0x36) j54)
def uG:=33 0x64 (au7 D j17 265 766 (uy ao) (BL ao))
def BV:=33 0x65 (au8 D 265 (uy ao) (BL ao))
def aAo:aek P w K ah 02 417 803:=⟨(az4 ao).up,(az6 ao).up,(az7 ao).up,(az5 ao).up,(aAl ao).up,(aAm ao).up⟩
def aAp:=33 0x7b (avP D a66 (aAo ao) (Lw ao) (Lx ao))
def Sl:=33 0x66 (awP D (uF ao) (uG ao))
def aAq:=33 0x8b (awQ D 357 (250 0x1b) j26 (uF ao) (Sl ao))
def So:=33 0x67 (awU D ((ag5 ao).jE ao) (ag5 ao).at_ (uF ao) (uG ao) (BV ao))
def aAr:=33 0x8c (awW D h00 (So ao))
def aAs:=33 0x8d (aw4 D (250 0x1a) j26 (250 311) (Sv ao) (uG ao) h00 (BV ao))
def B4:=33 0x19 (axi D 357 265 (uy ao))
def B2:=33 0x1c (axk D 766 (KZ ao) (m7 ao))
def S6:=33 0x1a (axA D j17 265 (Lv ao) (B1 ao) (B2 ao))
def S5:=33 534 (axC D 357 265 (aAn ao) (B4 ao))
def S3:=33 0x20 (axM D 357 265 (nN ao) (B4 ao) (m7 ao) (B2 ao) (B1 ao))
def S4:=33 0x1e (axX D 357 (S2 ao) (S3 ao))
def aAt:=33 0x8f (axZ D h00 (S4 ao))
def aAu:=33 0x8e (ax2 D 265 (Lv ao) (250 0x1c) j26 (250 311) h00 (S5 ao) (K6 ao) (S6 ao))
def aAv:aen P w K ah 02 417 803:=⟨(aAb ao).up,(aAf ao).up,((aAq ao).imp azP).up,((aAr ao).imp azQ).up,((aAs ao).imp azR).up,(aAu ao).up,(aAt ao).up⟩
def aAw:=33 0x7c (avQ D a66 (aAv ao) (Lw ao) (Lx ao))
def RX:=33 0x7a (avX D a66 (TK ao) (RV ao) (Lw ao) (Lx ao) (aAp ao) (aAw ao) (aAk ao))
end
end
end
section
variable{B G:Prop}{CM CS D a b d f fI me p:ag}{F:List (List Nat)}{K:bo}{M:Model}{N loose ps:List Str}{XP:(Str→Option aH)→dk→Prop}{YP:ff→dk→Prop}{us vs:List aH}{e:dn}{bx doc ek ig:aH}{ah:Str→Option aH}{an cQ:Option ag}{base h h':dk}{g l:List Nat}{r:List Int}{k7:Array (Option aH)}{fd q9:k6}{x:Str}{q:Search}{s:dt}{v:Word}{w:ff}{xs:List ae}{y:ae}{H H':av}{X:dT}{CX:pJ}{sp:mM}{z:Nat×hr}
section
open PySem.W(WData Codec OpenSpec)
theorem aAx(h7:055)(G:h.Ns i6 ah)(hm:ah k21=46 me)(X:Lu K):∃fd:k6,(f92 (892=074 015 225→Ds s fd 916 ((015:225).zip us)))∧k23 (K.In 02→g47 i6→eP rl.prog w K ah 02 aO 12 me fd 015 (BS K)):=by
 have g:∀{x:Str}{v:631},lp K i6 x=54→ah x=v:=fun{x v:_}e=>by cases v with|some _=>exact PySem.W.mg_of h7 G e|none=>exact PySem.W.mg_none_of h7 G e
 obtain⟨f,fd,d,F⟩:=X.f 0x79 rfl;have e:=hm.symm.trans (g d);cases e;obtain⟨fI,q9,M,ahb⟩:=X.a;have B:∀base,qi rl.prog w K ah 02 fI q9:=fun base=>⟨g,X,⟨M,arD ahb M,ahb.binds (n49 (g79 (g79 (g79 (B8 rfl))))),g (gt (824 z.1 X.b) 469 rfl rfl)⟩⟩;have D:cq K ah k21 RW 015 me fd:=⟨F,F.binds (n49 (g79 (B8 rfl))),g d⟩;have k:∀base,eP rl.prog w K ah 02 aO 12 me fd 015 (BS K):=fun base=>av6 (CM:=417) (CS:=803) D (kP e20) (uO e20) (aAd e20) (az9 e20) (az2 e20) (RX e20);rw[C16];exact⟨_,fun s=>g79 (B8 (.of_eq rfl)),fun base _ _=>k 02⟩
theorem aAy(K:bo)(H:av)(xs:08)(a:k22 h21)(_:AI H)(ID:m38 h21=01)(aAz:Codec.app h21 rl.asked a=01)(ai:pS K H xs (f51 h21 a)):BS K xs H (h20 (nF K H' v (rl.ret.enc (Codec.app h21 rl.f a)))) a19:=by
 cases ai with
  |cons af ak=>
   cases ak
   cases af with
    |lst aL aN=>
     have e:=OI a.1 _ aN;subst e;have q:((Codec.inLen 0 17000 a.1&&a.1.all (Codec.inInt (-p61) p61))&&01)=01:=ID;rw[hG,hG]at q;obtain⟨cS,aS,he,ax⟩:=ajC (l:=a.1) aAz;refine⟨_,a.1,cS,rfl,aL,aS,478 (Codec.inNat_iff.mp q.1.1).2,?_,fun H' p au=>?_⟩
     ·rw[←he];rw[A37 ax]
     ·show nF K H' 280 (rl.ret.enc (ML a.1));rw[he];exact d85 au (OH _)
end
section
open PySem.W
abbrev ahc(_:World)(h:Heap):04:=∃K:Frag,055∧Lu K
theorem aAA:LeftO b19 i5 uT LJ Yf (290 (sU,wO)) 6600 01:=ahs (boot_open ahz rfl ahA) ahy (fun w os=>by obtain⟨s,af,ak,a6⟩:=ahx w os;have bH:=ahr _ _ _ af;rw[show(LD w os).abs=⟨d51,#[],boot_drawn,boot_toks,os⟩by unfold LD SharedT.abs;rw[ahv]]at bH;rw[bH];have fX:=b18 ak;exact d72 (Prod.ext fX.1 (Prod.ext fX.2 a6))) rfl
theorem aAB{d:DefRec}(hd:m48 [])(aU:d.name=k21):WalkOS i5 uT (XL i5 []) ahc p60 d [] (fun f vs=>PySem.call f vs):=fun w s0 s1 ah cB G⟨K,fc,X⟩=>aoJ (r:=p60) (k:=0xc) (CX:=aO) (ps:=015) (sp:=BS) (K:=290 K) (YP:=fun _ h=>055) (fun a=>612 a.1) (131 (612 y)) T2 hd rfl ⟨rfl,14,14⟩ (fun _ _ Y=>Y) (fun w ah me h Y h7 G OO=>aAx h7 G (aU▸OO) X) aAy (fun _ _ _ _ z=>z) w s0 s1 ah cB G fc
theorem aAC:PySem.Challenge.rw_wordmoves_s01_answers.Holds:=by refine holds_os (q:=i5) (loose:=uT) (Xt:=LJ) (XP:=XL i5 []) (Yf:=Yf) (Ya:=290 (sU,wO)) (YP:=ahc) (N:=6600) aAA (fun w s e=>⟨_,ahw _,az1 e⟩) (fun w h h'⟨K,a,b⟩k=>⟨K,a.keeps k,b⟩) (fun s e=>xl_of s (n48 e).1) XL.keeps 66 66 66 (fun s e=>recFacts_of (n48 e).2) os_shapes T2 LK ahB ⟨[.list [942]],05,05⟩ ?call;exact aAB rfl rfl
end
end
theorem PySem.Challenge.aCq:PySem.Challenge.rw_wordmoves_s01_answers.Holds:=aAC
end Internal
end Wm
theorem PySem.Challenge.cw_wordmoves_s01_answers_holds : PySem.Challenge.rw_wordmoves_s01_answers.Holds :=
 Wm.Internal.aAC
