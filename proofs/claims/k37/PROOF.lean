import PyProof.Rows.All
import Wide.All
import OpenK.AllK
import Wide.FinOn
import Lean
import PyProof.EqAt
import PyProof.EqKinds
import PyProof.TupleCall
import PySem.Challenge.RW_fewrooms_k37_sides_of_paths
open PyProof.Rows renaming wpS_bind→B61,wpS_pure→B62,pendingOf→B64,wpS_forRange→B70,IntsAre→B72,wpS_modify→B77,pairsOf→B80,wpS_mono→B84,SortKind→B88,wpS_get→B97,listUpdate_at→C05,AllBare→C10,seqEpoch_at→C16,reverseSlice'_eq→C20
open PySem renaming wpAny_bind→B57,wpAny_pure→B58,sizeLine→B59,Program→B60,mainGlobals→B63,FuncData→B65,sizeLine_eq→B66,bootBuiltins→B67,starEach→B68,wpAny_newObj_type→B69,wpAny_mono→B71,wpAny_field→B73,wpAny_call_entry→B74,compareOp→B75,wpAny_holding→B76,wpAny_truthy_bool→B78,wpAny_seqItems→B79,codeAny_builtin→B81,wpAny_setState_of→B82,SetTable→B83,wpAny_setField_rec→B85,binaryOp→B86,wpAny_rule→B87,sysModules→B89,wpAny_passesOwn→B90,wpAny_ite_false→B91,behindInMarks→B92,plainId_quiet→B93,wpAny_pyIter_list→B94,call_meets→B95,codeAny→B96,tupleKind_room_in1→B98,intKind→B99,codeAny_mono→C00,assignEach→C01,NameKind→C02,wpAny_askSetting→C03,wpAny_attempt→C04,sliceBounds→C06,wpAny_of_eq→C07,wpAny_letGo→C08,GenState→C09,wpAny_setField→C11,wpAny_newTuple→C12,wpAny_tryCatch→C13,foldedSetIterable→C14,wpAny_pyIter_enum→C15,wpAny_onRaise→C17,wpAny_isInstance→C18,ZipApart→C19,wpAny_execs_nil→C21,letOwnedTupleGo→C22,wpAny_loadPart'→C23,wpAny_updateSeq_pair→C24,wpAny_updateSeq→C25
open Array renaming length_toList→C3,getElem?_eq_getElem→C8,getElem?_toList→F2,getD_eq_getD_getElem?→F4,toList_append→F9,toList_reverse→V3,toList_push→W6,perm_iff_toList_perm→Z7,getElem?_setIfInBounds_ne→l0,toList_setIfInBounds→w6,size_map→A00,getElem_toList→A57,toList→B03,toList_zip→B14,toList_map→B15,replicate→B24
open Bool renaming false_ne_true→B5,and_eq_true→C0,false_eq_true→M4,eq_iff_iff→O7,eq_false_iff→Q1,and_false→U9,and_true→X5,false_and→X7,true_and→d9,or_eq_true→A45,and_eq_true_iff→A62,not_true→A85,not_false→B30,false_or→B40
open Classical renaming byContradiction→J9
open False renaming elim→Z3
open ForInStep renaming yield→O9,done→l8
open Int renaming toNat_natCast→K9,le_refl→M6,emod_lt_of_pos→U5,emod_nonneg→W7,fdiv_eq_ediv_of_nonneg→u8,fmod_eq_emod_of_nonneg→u9,negSucc→A27,le_of_lt→A46,one_mul→A73,natCast_nonneg→A89,zero_add→B06
open List renaming length_map→A0,getElem?_eq_some_iff→A3,length_append→A5,mem_singleton→A6,getElem?_eq_getElem→A7,mem_cons_self→A8,mem_cons_of_mem→B0,map_append→B2,length_singleton→B3,size_toArray→B4,mem_of_getElem?→B6,mem_append→B7,mem_cons→B8,getElem?_append_right→C2,getElem?_map→C4,getElem?_append_left→C5,take_add_one→C9,mem_append_right→D5,replicate→D6,mem_map→D7,length_cons→D8,length_take→E1,take_of_length_le→E6,all_eq_true→E7,map_cons→E8,mem_range→E9,take_length→F6,mem_filter→G3,pairwise_cons→G4,range→G5,mem_append_left→G6,length_replicate→G7,length_drop→G8,append_assoc→I0,map_congr_left→J2,nodup_cons→J4,append_nil→J8,getLastD_eq_getLast?→K0,mem_of_mem_drop→L3,getD_eq_getElem?_getD→L4,pairwise_append→L6,getElem?_of_mem→L7,flatten_cons→L9,length_nil→M7,pairwise_map→M9,mem_reverse→O1,any_eq_true→O2,eraseIdx_eq_take_drop_succ→O6,pairwise_iff_getElem→P0,map_map→P8,getElem?_eq_none→P9,length_filter_le→Q0,length_eq_zero_iff→Q2,replicate_succ→Q6,lookup_cons_self→Q9,mem_of_mem_take→R5,nodup_append→R8,forIn_cons→R9,getElem_of_mem→T3,length_pos_iff→T4,pairwise_lt_range→T5,filter_cons→T9,mem_flatten→U0,eq_nil_or_concat→U3,concat_eq_append→U4,filter_append→U6,getElem?_take_of_lt→V8,foldl_cons→W1,eraseIdxIfInBounds_toArray→W2,find?_cons→W4,length_erase_of_mem→W9,reverse_append→X2,getLast?_cons_cons→X4,getElem?_cons_succ→X6,find?_cons_of_neg→Y0,mem_filterMap→Y1,map_nil→Y6,take_append_drop→Y8,pairwise_reverse→Y9,take_sublist→Z4,drop_sublist→Z5,sum_cons→Z6,mem_iff_getElem→Z8,mem_erase_of_ne→Z9,drop_eq_getElem_cons→b7,lookup_cons→b8,not_mem_nil→b9,isEmpty_iff→c5,filterMap_cons→c6,any_cons→d5,nil_append→d6,pairwise_singleton→f9,filter_cons_of_neg→g8,filter_cons_of_pos→h9,getElem?_set_self→i8,drop_eq_nil_of_le→j6,reverse_perm→k6,getElem?_inj→l5,length_range→l6,perm_append_comm→m7,getElem_mem→o5,perm_middle→o9,reverse_reverse→p6,mem_of_getLast?→p7,range_succ→t9,length_eraseIdx_of_lt→w5,nodup_iff_pairwise_ne→x4,zip_cons_cons→x6,getElem?_drop→x9,drop_drop→z8,drop_zero→z9,getElem_drop→A10,getElem_take→A11,reverse_cons→A13,find?_isSome→A14,length→A18,getElem?_replicate→A19,eraseIdx_cons_succ→A21,pairwise_filterMap→A26,cons_append→A28,nodup_range→A32,map_reverse→A34,range_succ_eq_map→A39,length_pos_of_mem→A41,find?_cons_of_pos→A42,of_mem_zip→A44,getElem?_set_ne→A53,getLast?_append→A59,dropLast_concat→A61,toList_toArray→A71,mem_map_of_mem→A72,getElem?_range→A74,flatten_append→A75,length_reverse→A76,filterMap_map→A82,all_cons→A83,map_take→A86,map_drop→A87,map_singleton→A88,mapM_toArray→A99,ext_getElem?→B01,flatMap_cons→B02,all_map→B05,length_set→B19,map_id→B25,forIn_nil→B28,drop_take→B29,foldl_nil→B31,mapM_cons→B32,foldl→B34,findIdx?→B42,take_nil→B43,take_add→B44,map→B46
open List.Nodup renaming length_le_of_subset→D3
open List.Pairwise renaming imp_of_mem→A15
open List.Perm renaming append_left→m5
open List.cons renaming inj→Q3
open Nat renaming le_refl→A9,ne_of_lt→E3,zero_le→F8,lt_of_lt_of_le→G2,le_trans→M5,lt_succ_of_lt→P7,sub_self→R0,pow_succ→R6,pow_le_pow_right→V4,strongRecOn→W8,mul_comm→X0,lt_irrefl→X1,mul_assoc→X3,le_of_lt→Y3,ne_of_gt→d0,add_comm→d3,lt_of_le_of_lt→d7,add_sub_cancel→d8,le_succ→j7,mod_lt→j9,mul_add→k9,add_zero→m8,le_of_not_lt→n8,add_assoc→p9,not_lt_zero→u7,lt_trans→x8,lt_or_ge→y7,one_le_two_pow→y8,mul_left_comm→A12,succ_ne_self→A29,zero_testBit→A35,zero_add→A47,zero_div→A48,testBit_and→A52,eq_of_testBit_eq→A60,add_mod→A69,mul_mod→A70,lt_trichotomy→B00,le_add_right→B11,mod_eq_of_lt→B12,lt_succ_self→B13,add_mul→B21,one_mul→B22,two_pow_pos→B23,min_eq_left→B26
open Ne renaming symm→L8
open Option renaming toList_some→D0,isSome_map→O4,map_eq_some_iff→Q4,isSome_iff_exists→R1,map_some→W5,getD_some→o6,getD_none→B08,none→B54
open Option.some renaming inj→J3
open Or renaming inl→E5,inr→A64
open PyProof renaming noPylong_small→i9
open PyProof.Rows renaming callWith_type1→O0,slot_tuple_getitem→V9
open PyProof.Rows.IntsAre renaming int_at→t8
open PySem renaming mem_of_lookup→Q5,call→B35
open PySem.Around renaming under_plainId→N9
open PySem.AutoSeq1 renaming sub_tuple_tuple→A06
open PySem.Builtin renaming bitNot→V2,bitAnd→l7,bitOr→A79
open PySem.Builtin.Builtins renaming bindParams→t7
open PySem.Builtin.Frozenset renaming updateFrom→B16,newClass→B27,sizeOf→B37,slot0→B45
open PySem.Builtin.List renaming listTooLong→P6,listLengthHint→q9
open PySem.Builtin.Range renaming rangeSize→F5,small→c9
open PySem.Builtin.Slice renaming slicePlaces→U8,sliceAdjust→a8,sliceApplied→v8
open PySem.Builtin.SmallTypes renaming ownedTupleIsFree→T0,nextOf→V0,newRecord→Y2,calledThroughType→a9,ownedTupleFields→A68
open PySem.Builtin.Tuple renaming tupleExact→P3
open PySem.Calls renaming callWith_builtin→j4,spliced_cons→x5,call_function_entry→A01,evalArgs_plain→A54,spliced_nil→A95
open PySem.Data renaming cell→A04,fields→A17,seq→B56
open PySem.F renaming plainAttrs_list→C7,slot_list_append→G0,type_list_append→G1,slot_list_extend→R3,type_list_extend→R4,slot_tuple_iterator_next→T6,plain_max_loop→T8,slot_zip_next→Y7,called_set→Z0,slot_list_pop→Z1,type_list_pop→Z2,slot_dict_get→m4,args_tuple_iterator_next_1→p8,entry_tuple_iterator_next→r8,args_tuple_add_2→A07,args_zip_next_1→A09,entry_tuple_add→A20,args_dict_get_3→A22,plainAttrs_dict→A23,plain_list_iadd→A24,entry_zip_next→A30,entry_max_loop→A31,slot_tuple_add→A37,entry_dict_get→A38,slot_tuple_lt→A50,args_list_extend_2→A55,args_object_init_2→A56,called_tuple→A65,entry_list_extend→A67,slot_list_extend→A84,plain_tuple_new→A96,entry_list_pop→B09
open PySem.Heap renaming get?_push_of_some→A4,get?_push_size→B9,lt_size→C1,get?_update_other→J5,size_push→M8,get?_update_self→P4,get?_push_ne→k7,size_update→o8
open PySem.Heap.IsSliceOf renaming new→B55
open PySem.Heap.SameBut renaming update→S0
open PySem.IsRange renaming new→B53
open PySem.MeetsSeq.EqGives renaming int→B50
open PySem.NameKind renaming free→O5,cell→B41
open PySem.Obj renaming mapSeq→R7,data_mapFields→U2,isFreed_of_fields→m6,cls_mapFields→A08
open PySem.Paired renaming length→C6,snoc→c8
open PySem.PassesOwn renaming never→E4
open PySem.PyData renaming int→X9
open PySem.SeqAt renaming eq_tupleAt→A40
open PySem.SeqAt.EqAt renaming int_str→A77,str_int→A78,int_int→A81
open PySem.SeqAt.RcNeAt renaming tuples→A02,lists_lengths→A90,lists→B36
open PySem.SetTable renaming below→F0,insertAt→J1,bits→L5,runEnd→P2,turns→V1,sizeAbove→e7,fits→q0,fill→A25,grown→A66,layClean→A98,has→B49
open PySem.SetTable.below renaming go→j8
open PySem.SetTable.layClean renaming free→J6
open PySem.SetTable.probe renaming go→L0
open PySem.SetTable.sizeAbove renaming go→A49
open PySem.Str renaming ofString→J7,empty→Y4
open PySem.Value renaming ref→E2,int→U1,none→V5,bool→V6,type→V7,isInt→A16,isInt_shape→A91,str→B17,isStrOf→B39
open PySem.W renaming nsIn→D4,mg_none_of→F3,mg_of→F7,kitOne→G9,kia_one→O8,findIn→Q7,keepIn→Q8,fnOf→Y5,codeIn→y9,methodObj→A03,specialIn→A05,cellsFrom_some→A36,instObj→A43,kat_nil→A51,kas_first_eq→A58,lookIn→A63,mroIn→A80,hasDictIn→A92,kitx_list→A93,kitx_dict→A94,plainGet→B07,kdl_call→B10,takesIn→B18,kHook→B38,isFn→B48
open PySem.W.Looks renaming here→y4,ld→A33
open PySem.W.OpenLaw renaming wellSaid→B33,row→B51
open PySem.W.OpenRow renaming toRowW→B47
open PySem.Walks renaming list→A97
open PySem.pickOrder renaming go→B04
open StateT renaming run_pure→B20
open Sum renaming inl→D9,inr→O3
open Sum.inl renaming inj→U7
open Sum.inr renaming inj→B52
open True renaming intro→X8
set_option Elab.async false
set_option linter.all false
set_option maxRecDepth 100000
set_option maxHeartbeats 0
namespace Fw
open PySem
def top (i:Nat):Stmt:=PySem.Challenge.pw_fewrooms_k37_sides_of_paths.main.body.getD i (.Pass ⟨0,0,0,0⟩)
abbrev qDU:Stmt:=top 3
abbrev qDV:Stmt:=top 4
abbrev qF2:Stmt:=top 5
abbrev qD0:Stmt:=top 6
abbrev qGB:Stmt:=top 7
abbrev qF3:Stmt:=top 8
abbrev qIA:Stmt:=top 10
abbrev qKS:Stmt:=top 11
abbrev qIS:Stmt:=top 12
abbrev qCG:Stmt:=top 13
abbrev qDW:Stmt:=top 14
abbrev qP6:Stmt:=top 15
abbrev qKT:Stmt:=top 16
abbrev qCH:Stmt:=top 17
abbrev qI8:Stmt:=top 18
abbrev qP7:Stmt:=top 19
abbrev qF4:Stmt:=top 20
abbrev qD2:Stmt:=top 21
abbrev qCI:Stmt:=top 22
abbrev qD1:Stmt:=top 23
abbrev qF5:Stmt:=top 24
abbrev qI7:Stmt:=top 25
abbrev qI9:Stmt:=top 26
abbrev qJO:Stmt:=top 27
def dA (s:Stmt):Arguments:=match s with
 | .FunctionDef _ a _ _ _ _ _ _ _ _=>a
 | _=>{ posonlyargs:=[],args:=[],vararg:=none,kwonlyargs:=[],kw_defaults:=[],kwarg:=none,defaults:=[] }
def dB (s:Stmt):List Stmt:=match s with
 | .FunctionDef _ _ b _ _ _ _ _ _ _=>b
 | _=>[]
def dS (s:Stmt):Scope:=match s with
 | .FunctionDef _ _ _ _ _ _ sc _ _ _=>sc
 | _=>{ kind:=.function,names:=[],isGenerator:=false,isCoroutine:=false }
abbrev so (s:String):Str:=PySem.Str.ofString s
abbrev kh (P:Params) (s:Str):Int:=PySem.PyData.keyHash P s
abbrev hde (P:Params) (s:String) (n:Nat) (v:Value):DictEntry:=⟨kh P (so s),.str (so s) n,v⟩
abbrev hvs (s:String) (n:Nat):Value:=.str (so s) n
abbrev hcut (n:Nat):Value:=hvs "/claim/cut.py" n
abbrev hfd (x q:String) (s:Stmt) (a b c d:Value) (e:Option Addr) (f g:Value) (i:Addr):B65:=⟨so x,so q,dA s,.stmts (dB s),dS s,3,[],a,b,c,d,e,f,g,i⟩
abbrev htp (d:Data) (s:Array (Option Value)):Obj:=⟨.type "tuple",none,d,s⟩
abbrev hcd (d:Data) (s:Array (Option Value)):Obj:=⟨.type "code",none,d,s⟩
abbrev hfn (d:Data) (s:Array (Option Value)):Obj:=⟨.type "function",none,d,s⟩
def hpK:Params->PySem.W.Frag:=fun P=>
 (nat_lit 2,Obj.mk .none .none (.dict #[]) #[]) ::
 (nat_lit 3,Obj.mk (.type "dict") .none (.dict #[hde P "__name__" 165 (hvs "law_fewrooms_k37_sides_of_paths" 257),hde P "__doc__" 166 .none,hde P "__package__" 167 .none,hde P "__loader__" 168 (.builtin "__main__.__loader__#opaque"),hde P "__spec__" 169 .none,hde P "__annotations__" 170 (.ref 6),hde P "__builtins__" 171 (.ref 4),hde P "__file__" 173 (hcut 172),hde P "__cached__" 174 .none,hde P "SOURCE" 191 (.int (-1) 190),hde P "GOAL" 194 (.int (-2) 193),hde P "side_ends" 205 (.ref 21),hde P "free_ways" 218 (.ref 28),hde P "way_back" 230 (.ref 35),hde P "turn_round" 240 (.ref 42),hde P "side_to" 250 (.ref 49),hde P "sides_of" 256 (.ref 54),hde P "_law_begin" 266 (.ref 61),hde P "_law_take" 279 (.ref 68),hde P "_law_same" 285 (.ref 73),hde P "_law_some_needs" 296 (.ref 80),hde P "_law_tree_net" 308 (.ref 87),hde P "_law_net" 314 (.ref 92),hde P "_law_many" 323 (.ref 99),hde P "_law_path_count" 329 (.ref 104),hde P "_law_paths" 335 (.ref 109),hde P "_law_hit" 341 (.ref 114),hde P "_law_is_side" 347 (.ref 119),hde P "_law_are_sides" 353 (.ref 124),hde P "_law_most_sides" 359 (.ref 129),hde P "_law_full_tree" 370 (.ref 136),hde P "_law_is_full" 376 (.ref 141),hde P "_law_right" 386 (.ref 148),hde P "_law_chain" 398 (.ref 155),hde P "law" 414 (.ref 162)] 35) #[]) ::
 (nat_lit 15,htp (.seq #[]) #[]) ::
 (nat_lit 17,htp (.seq #[hvs "net" 198,hvs "path" 199,hvs "ends" 200,hvs "work" 201,hvs "need" 202]) #[]) ::
 (nat_lit 18,htp (.seq #[]) #[]) ::
 (nat_lit 20,hcd (.fields #[hvs "side_ends" 195,hvs "side_ends" 196,hcut 197,.int 4 0,.int 2 0,.int 0 0,.int 0 0,.int 3 0,.ref 15,.bool .true,.int 181 0,.ref 16,.none,.ref 17,.ref 18,.ref 19,.int 203 0,.int 4 0,hcut 204]) #[]) ::
 (nat_lit 21,hfn (.func (hfd "side_ends" "side_ends" qDU .none .none .none (hvs "fewrooms.paths" 187) .none (.ref 20) .none 0)) #[]) ::
 (nat_lit 22,htp (.seq #[]) #[]) ::
 (nat_lit 24,htp (.seq #[hvs "net" 209,hvs "path" 210,hvs "ends" 211,hvs "ways" 212,hvs "work" 213,hvs "needs" 214,hvs "need" 215]) #[]) ::
 (nat_lit 25,htp (.seq #[]) #[]) ::
 (nat_lit 27,hcd (.fields #[hvs "free_ways" 206,hvs "free_ways" 207,hcut 208,.int 11 0,.int 2 0,.int 0 0,.int 0 0,.int 3 0,.ref 22,.bool .true,.int 181 0,.ref 23,.none,.ref 24,.ref 25,.ref 26,.int 216 0,.int 11 0,hcut 217]) #[]) ::
 (nat_lit 28,hfn (.func (hfd "free_ways" "free_ways" qDV .none .none .none (hvs "fewrooms.paths" 187) .none (.ref 27) .none 0)) #[]) ::
 (nat_lit 29,htp (.seq #[]) #[]) ::
 (nat_lit 31,htp (.seq #[hvs "ways" 222,hvs "came_from" 223,hvs "due" 224,hvs "stop" 225,hvs "further" 226,hvs "stops" 227]) #[]) ::
 (nat_lit 32,htp (.seq #[]) #[]) ::
 (nat_lit 34,hcd (.fields #[hvs "way_back" 219,hvs "way_back" 220,hcut 221,.int 25 0,.int 1 0,.int 0 0,.int 0 0,.int 3 0,.ref 29,.bool .true,.int 181 0,.ref 30,.none,.ref 31,.ref 32,.ref 33,.int 228 0,.int 25 0,hcut 229]) #[]) ::
 (nat_lit 35,hfn (.func (hfd "way_back" "way_back" qF2 .none .none .none (hvs "fewrooms.paths" 187) .none (.ref 34) .none 0)) #[]) ::
 (nat_lit 36,htp (.seq #[]) #[]) ::
 (nat_lit 38,htp (.seq #[hvs "ways" 234,hvs "stops" 235,hvs "further" 236,hvs "stop" 237]) #[]) ::
 (nat_lit 39,htp (.seq #[]) #[]) ::
 (nat_lit 41,hcd (.fields #[hvs "turn_round" 231,hvs "turn_round" 232,hcut 233,.int 40 0,.int 2 0,.int 0 0,.int 0 0,.int 3 0,.ref 36,.bool .true,.int 181 0,.ref 37,.none,.ref 38,.ref 39,.ref 40,.int 238 0,.int 40 0,hcut 239]) #[]) ::
 (nat_lit 42,hfn (.func (hfd "turn_round" "turn_round" qD0 .none .none .none (hvs "fewrooms.paths" 187) .none (.ref 41) .none 0)) #[]) ::
 (nat_lit 43,htp (.seq #[]) #[]) ::
 (nat_lit 45,htp (.seq #[hvs "ways" 244,hvs "work" 245,hvs "side" 246,hvs "stop" 247]) #[]) ::
 (nat_lit 46,htp (.seq #[]) #[]) ::
 (nat_lit 48,hcd (.fields #[hvs "side_to" 241,hvs "side_to" 242,hcut 243,.int 44 0,.int 2 0,.int 0 0,.int 0 0,.int 3 0,.ref 43,.bool .true,.int 181 0,.ref 44,.none,.ref 45,.ref 46,.ref 47,.int 248 0,.int 44 0,hcut 249]) #[]) ::
 (nat_lit 49,hfn (.func (hfd "side_to" "side_to" qGB .none .none .none (hvs "fewrooms.paths" 187) .none (.ref 48) .none 0)) #[]) ::
 (nat_lit 50,htp (.seq #[]) #[]) ::
 (nat_lit 53,hcd (.fields #[hvs "sides_of" 251,hvs "sides_of" 252,hcut 253,.int 51 0,.int 2 0,.int 0 0,.int 0 0,.int 3 0,.ref 50,.bool .true,.int 181 0,.ref 51,.none,.none,.none,.ref 52,.int 254 0,.int 51 0,hcut 255]) #[]) ::
 (nat_lit 54,hfn (.func (hfd "sides_of" "sides_of" qF3 .none .none .none (hvs "fewrooms.paths" 187) .none (.ref 53) .none 0)) #[]) ::
 (nat_lit 55,htp (.seq #[]) #[]) ::
 (nat_lit 57,htp (.seq #[hvs "_law_script" 262,hvs "_law_cells" 263]) #[]) ::
 (nat_lit 58,htp (.seq #[]) #[]) ::
 (nat_lit 60,hcd (.fields #[hvs "_law_begin" 259,hvs "_law_begin" 260,hcut 261,.int 59 0,.int 1 0,.int 0 0,.int 0 0,.int 3 0,.ref 55,.bool .true,.int 181 0,.ref 56,.none,.ref 57,.ref 58,.ref 59,.int 264 0,.int 59 0,hcut 265]) #[]) ::
 (nat_lit 61,hfn (.func (hfd "_law_begin" "_law_begin" qIA .none .none .none (hvs "law_fewrooms_k37_sides_of_paths" 257) .none (.ref 60) .none 0)) #[]) ::
 (nat_lit 62,htp (.seq #[]) #[]) ::
 (nat_lit 64,htp (.seq #[hvs "_law_state" 270,hvs "_law_many_here" 271,hvs "_law_turn" 272,hvs "_law_place" 273,hvs "_law_cell" 274,hvs "_law_digit" 275,hvs "_law_mixed" 276]) #[]) ::
 (nat_lit 65,htp (.seq #[]) #[]) ::
 (nat_lit 67,hcd (.fields #[hvs "_law_take" 267,hvs "_law_take" 268,hcut 269,.int 64 0,.int 2 0,.int 0 0,.int 0 0,.int 3 0,.ref 62,.bool .true,.int 181 0,.ref 63,.none,.ref 64,.ref 65,.ref 66,.int 277 0,.int 64 0,hcut 278]) #[]) ::
 (nat_lit 68,hfn (.func (hfd "_law_take" "_law_take" qKS .none .none .none (hvs "law_fewrooms_k37_sides_of_paths" 257) .none (.ref 67) .none 0)) #[]) ::
 (nat_lit 69,htp (.seq #[]) #[]) ::
 (nat_lit 72,hcd (.fields #[hvs "_law_same" 280,hvs "_law_same" 281,hcut 282,.int 75 0,.int 2 0,.int 0 0,.int 0 0,.int 3 0,.ref 69,.bool .true,.int 181 0,.ref 70,.none,.none,.none,.ref 71,.int 283 0,.int 75 0,hcut 284]) #[]) ::
 (nat_lit 73,hfn (.func (hfd "_law_same" "_law_same" qIS .none .none .none (hvs "law_fewrooms_k37_sides_of_paths" 257) .none (.ref 72) .none 0)) #[]) ::
 (nat_lit 74,htp (.seq #[]) #[]) ::
 (nat_lit 76,htp (.seq #[hvs "_law_state" 289,hvs "_law_k" 290,hvs "_law_found" 291,hvs "_law_turn" 292,hvs "_law_far" 293]) #[]) ::
 (nat_lit 77,htp (.seq #[]) #[]) ::
 (nat_lit 79,hcd (.fields #[hvs "_law_some_needs" 286,hvs "_law_some_needs" 287,hcut 288,.int 87 0,.int 2 0,.int 0 0,.int 0 0,.int 3 0,.ref 74,.bool .true,.int 181 0,.ref 75,.none,.ref 76,.ref 77,.ref 78,.int 294 0,.int 87 0,hcut 295]) #[]) ::
 (nat_lit 80,hfn (.func (hfd "_law_some_needs" "_law_some_needs" qCG .none .none .none (hvs "law_fewrooms_k37_sides_of_paths" 257) .none (.ref 79) .none 0)) #[]) ::
 (nat_lit 81,htp (.seq #[]) #[]) ::
 (nat_lit 83,htp (.seq #[hvs "_law_state" 300,hvs "_law_many_here" 301,hvs "_law_open_ones" 302,hvs "_law_found" 303,hvs "_law_k" 304,hvs "_law_so_many" 305]) #[]) ::
 (nat_lit 84,htp (.seq #[]) #[]) ::
 (nat_lit 86,hcd (.fields #[hvs "_law_tree_net" 297,hvs "_law_tree_net" 298,hcut 299,.int 94 0,.int 2 0,.int 0 0,.int 0 0,.int 3 0,.ref 81,.bool .true,.int 181 0,.ref 82,.none,.ref 83,.ref 84,.ref 85,.int 306 0,.int 94 0,hcut 307]) #[]) ::
 (nat_lit 87,hfn (.func (hfd "_law_tree_net" "_law_tree_net" qDW .none .none .none (hvs "law_fewrooms_k37_sides_of_paths" 257) .none (.ref 86) .none 0)) #[]) ::
 (nat_lit 88,htp (.seq #[]) #[]) ::
 (nat_lit 91,hcd (.fields #[hvs "_law_net" 309,hvs "_law_net" 310,hcut 311,.int 102 0,.int 2 0,.int 0 0,.int 0 0,.int 3 0,.ref 88,.bool .true,.int 181 0,.ref 89,.none,.none,.none,.ref 90,.int 312 0,.int 102 0,hcut 313]) #[]) ::
 (nat_lit 92,hfn (.func (hfd "_law_net" "_law_net" qP6 .none .none .none (hvs "law_fewrooms_k37_sides_of_paths" 257) .none (.ref 91) .none 0)) #[]) ::
 (nat_lit 93,htp (.seq #[]) #[]) ::
 (nat_lit 95,htp (.seq #[hvs "_law_state" 318,hvs "_law_most" 319,hvs "_law_way" 320]) #[]) ::
 (nat_lit 96,htp (.seq #[]) #[]) ::
 (nat_lit 98,hcd (.fields #[hvs "_law_many" 315,hvs "_law_many" 316,hcut 317,.int 117 0,.int 2 0,.int 0 0,.int 0 0,.int 3 0,.ref 93,.bool .true,.int 181 0,.ref 94,.none,.ref 95,.ref 96,.ref 97,.int 321 0,.int 117 0,hcut 322]) #[]) ::
 (nat_lit 99,hfn (.func (hfd "_law_many" "_law_many" qKT .none .none .none (hvs "law_fewrooms_k37_sides_of_paths" 257) .none (.ref 98) .none 0)) #[]) ::
 (nat_lit 100,htp (.seq #[]) #[]) ::
 (nat_lit 103,hcd (.fields #[hvs "_law_path_count" 324,hvs "_law_path_count" 325,hcut 326,.int 122 0,.int 2 0,.int 0 0,.int 0 0,.int 3 0,.ref 100,.bool .true,.int 181 0,.ref 101,.none,.none,.none,.ref 102,.int 327 0,.int 122 0,hcut 328]) #[]) ::
 (nat_lit 104,hfn (.func (hfd "_law_path_count" "_law_path_count" qCH .none .none .none (hvs "law_fewrooms_k37_sides_of_paths" 257) .none (.ref 103) .none 0)) #[]) ::
 (nat_lit 105,htp (.seq #[]) #[]) ::
 (nat_lit 108,hcd (.fields #[hvs "_law_paths" 330,hvs "_law_paths" 331,hcut 332,.int 127 0,.int 2 0,.int 0 0,.int 0 0,.int 3 0,.ref 105,.bool .true,.int 181 0,.ref 106,.none,.none,.none,.ref 107,.int 333 0,.int 127 0,hcut 334]) #[]) ::
 (nat_lit 109,hfn (.func (hfd "_law_paths" "_law_paths" qI8 .none .none .none (hvs "law_fewrooms_k37_sides_of_paths" 257) .none (.ref 108) .none 0)) #[]) ::
 (nat_lit 110,htp (.seq #[]) #[]) ::
 (nat_lit 113,hcd (.fields #[hvs "_law_hit" 336,hvs "_law_hit" 337,hcut 338,.int 136 0,.int 2 0,.int 0 0,.int 0 0,.int 3 0,.ref 110,.bool .true,.int 181 0,.ref 111,.none,.none,.none,.ref 112,.int 339 0,.int 136 0,hcut 340]) #[]) ::
 (nat_lit 114,hfn (.func (hfd "_law_hit" "_law_hit" qP7 .none .none .none (hvs "law_fewrooms_k37_sides_of_paths" 257) .none (.ref 113) .none 0)) #[]) ::
 (nat_lit 115,htp (.seq #[]) #[]) ::
 (nat_lit 118,hcd (.fields #[hvs "_law_is_side" 342,hvs "_law_is_side" 343,hcut 344,.int 141 0,.int 3 0,.int 0 0,.int 0 0,.int 3 0,.ref 115,.bool .true,.int 181 0,.ref 116,.none,.none,.none,.ref 117,.int 345 0,.int 141 0,hcut 346]) #[]) ::
 (nat_lit 119,hfn (.func (hfd "_law_is_side" "_law_is_side" qF4 .none .none .none (hvs "law_fewrooms_k37_sides_of_paths" 257) .none (.ref 118) .none 0)) #[]) ::
 (nat_lit 120,htp (.seq #[]) #[]) ::
 (nat_lit 123,hcd (.fields #[hvs "_law_are_sides" 348,hvs "_law_are_sides" 349,hcut 350,.int 149 0,.int 3 0,.int 0 0,.int 0 0,.int 3 0,.ref 120,.bool .true,.int 181 0,.ref 121,.none,.none,.none,.ref 122,.int 351 0,.int 149 0,hcut 352]) #[]) ::
 (nat_lit 124,hfn (.func (hfd "_law_are_sides" "_law_are_sides" qD2 .none .none .none (hvs "law_fewrooms_k37_sides_of_paths" 257) .none (.ref 123) .none 0)) #[]) ::
 (nat_lit 125,htp (.seq #[]) #[]) ::
 (nat_lit 128,hcd (.fields #[hvs "_law_most_sides" 354,hvs "_law_most_sides" 355,hcut 356,.int 156 0,.int 2 0,.int 0 0,.int 0 0,.int 3 0,.ref 125,.bool .true,.int 181 0,.ref 126,.none,.none,.none,.ref 127,.int 357 0,.int 156 0,hcut 358]) #[]) ::
 (nat_lit 129,hfn (.func (hfd "_law_most_sides" "_law_most_sides" qCI .none .none .none (hvs "law_fewrooms_k37_sides_of_paths" 257) .none (.ref 128) .none 0)) #[]) ::
 (nat_lit 130,htp (.seq #[]) #[]) ::
 (nat_lit 132,htp (.seq #[hvs "_law_deep" 363,hvs "_law_found" 364,hvs "_law_ahead" 365,hvs "_law_now" 366,hvs "_law_k" 367]) #[]) ::
 (nat_lit 133,htp (.seq #[]) #[]) ::
 (nat_lit 135,hcd (.fields #[hvs "_law_full_tree" 360,hvs "_law_full_tree" 361,hcut 362,.int 166 0,.int 1 0,.int 0 0,.int 0 0,.int 3 0,.ref 130,.bool .true,.int 181 0,.ref 131,.none,.ref 132,.ref 133,.ref 134,.int 368 0,.int 166 0,hcut 369]) #[]) ::
 (nat_lit 136,hfn (.func (hfd "_law_full_tree" "_law_full_tree" qD1 .none .none .none (hvs "law_fewrooms_k37_sides_of_paths" 257) .none (.ref 135) .none 0)) #[]) ::
 (nat_lit 137,htp (.seq #[]) #[]) ::
 (nat_lit 140,hcd (.fields #[hvs "_law_is_full" 371,hvs "_law_is_full" 372,hcut 373,.int 176 0,.int 3 0,.int 0 0,.int 0 0,.int 3 0,.ref 137,.bool .true,.int 181 0,.ref 138,.none,.none,.none,.ref 139,.int 374 0,.int 176 0,hcut 375]) #[]) ::
 (nat_lit 141,hfn (.func (hfd "_law_is_full" "_law_is_full" qF5 .none .none .none (hvs "law_fewrooms_k37_sides_of_paths" 257) .none (.ref 140) .none 0)) #[]) ::
 (nat_lit 142,htp (.seq #[]) #[]) ::
 (nat_lit 144,htp (.seq #[hvs "_law_net_here" 380,hvs "_law_path" 381,hvs "_law_found" 382,hvs "_law_kept" 383]) #[]) ::
 (nat_lit 145,htp (.seq #[]) #[]) ::
 (nat_lit 147,hcd (.fields #[hvs "_law_right" 377,hvs "_law_right" 378,hcut 379,.int 189 0,.int 2 0,.int 0 0,.int 0 0,.int 3 0,.ref 142,.bool .true,.int 181 0,.ref 143,.none,.ref 144,.ref 145,.ref 146,.int 384 0,.int 189 0,hcut 385]) #[]) ::
 (nat_lit 148,hfn (.func (hfd "_law_right" "_law_right" qI7 .none .none .none (hvs "law_fewrooms_k37_sides_of_paths" 257) .none (.ref 147) .none 0)) #[]) ::
 (nat_lit 149,htp (.seq #[]) #[]) ::
 (nat_lit 151,htp (.seq #[hvs "_law_state" 390,hvs "_law_many_here" 391,hvs "_law_left" 392,hvs "_law_net_here" 393,hvs "_law_turn" 394,hvs "_law_k" 395]) #[]) ::
 (nat_lit 152,htp (.seq #[]) #[]) ::
 (nat_lit 154,hcd (.fields #[hvs "_law_chain" 387,hvs "_law_chain" 388,hcut 389,.int 198 0,.int 2 0,.int 0 0,.int 0 0,.int 3 0,.ref 149,.bool .true,.int 181 0,.ref 150,.none,.ref 151,.ref 152,.ref 153,.int 396 0,.int 198 0,hcut 397]) #[]) ::
 (nat_lit 155,hfn (.func (hfd "_law_chain" "_law_chain" qI9 .none .none .none (hvs "law_fewrooms_k37_sides_of_paths" 257) .none (.ref 154) .none 0)) #[]) ::
 (nat_lit 156,htp (.seq #[]) #[]) ::
 (nat_lit 158,htp (.seq #[hvs "_law_script" 402,hvs "_law_state" 403,hvs "_law_turn" 404,hvs "_law_net_here" 405,hvs "_law_work" 406,hvs "_law_paths_here" 407,hvs "_law_first" 408,hvs "_law_path" 409,hvs "_law_many_here" 410,hvs "_law_deep" 411]) #[]) ::
 (nat_lit 159,htp (.seq #[]) #[]) ::
 (nat_lit 161,hcd (.fields #[hvs "law" 399,hvs "law" 400,hcut 401,.int 205 0,.int 1 0,.int 0 0,.int 0 0,.int 3 0,.ref 156,.bool .true,.int 181 0,.ref 157,.none,.ref 158,.ref 159,.ref 160,.int 412 0,.int 205 0,hcut 413]) #[]) ::
 (nat_lit 162,hfn (.func (hfd "law" "law" qJO .none .none .none (hvs "law_fewrooms_k37_sides_of_paths" 257) .none (.ref 161) .none 0)) #[]) ::
 []
def hpA:List Addr:=[2,3,15,17,18,20,21,22,24,25,27,28,29,31,32,34,35,36,38,39,41,42,43,45,46,48,49,50,53,54,55,57,58,60,61,62,64,65,67,68,69,72,73,74,76,77,79,80,81,83,84,86,87,88,91,92,93,95,96,98,99,100,103,104,105,108,109,110,113,114,115,118,119,120,123,124,125,128,129,130,132,133,135,136,137,140,141,142,144,145,147,148,149,151,152,154,155,156,158,159,161,162]
def hpQ:B60:=PySem.W.view PySem.Challenge.pw_fewrooms_k37_sides_of_paths [1,2,3,4,5,6,7,8,10,11,12,13,14,15,16,17,18,19,20,21,22,23,24,25,26,27]
def hpN:Nat:=1670
theorem hpE (P:Params):hpA=(hpK P).map (·.1):=by kernel_rfl
def hpX (s:Shared):Bool:=PySem.W.xlAt hpQ [] s && PySem.W.recOk (PySem.W.RowW.records (B47 (B51 PySem.Challenge.rw_fewrooms_k37_sides_of_paths))) s
theorem hpLeft:PySem.W.LeftO PySem.Challenge.pw_fewrooms_k37_sides_of_paths hpQ [] hpX (B38 hpK hpA hpE).obs (B38 hpK hpA hpE).val hpN:=fun w=>by kernel_rfl
theorem hpSaid:B33 PySem.Challenge.rw_fewrooms_k37_sides_of_paths=true:=by kernel_rfl
end Fw
namespace L2
open PySem PySem.Spec PyProof.Rows
abbrev Key:=Sum Int Str
def qQS:Key->Value->Bool
 | .inl k,v=>A16 k v
 | .inr x,v=>B39 x v
def keyH (w:World):Key->Int
 | .inl k=>hashInt k
 | .inr x=>hashStr w x
theorem qBG:∀ {k:Key} {v:Value},qQS k v=true->(∃ i t,k=D9 i/\v=U1 i t)\/(∃ x t,k=O3 x/\v=B17 x t)
 | .inl i,v,h=>by
  obtain ⟨t,e⟩:=A91 (k:=i) (v:=v) h;exact .inl ⟨i,t,rfl,e⟩
 | .inr x,v,h=>by
  obtain ⟨t,e⟩:=Value.isStrOf_shape (x:=x) (v:=v) h;exact .inr ⟨x,t,rfl,e⟩
theorem qT3 (i:Int) (t:Tok):qQS (.inl i) (.int i t)=true:=by simp [qQS,A16]
theorem qT2 (x:Str) (t:Tok):qQS (.inr x) (.str x t)=true:=by simp [qQS,B39]
theorem qb7 (a b:Int):decide ((D9 a:Key)=D9 b)=(a == b):=by
 by_cases e:a=b
 ·subst e;simp
 ·have h:¬ (D9 a:Key)=D9 b:=fun q=>e (U7 q);rw [decide_eq_false h];exact (beq_eq_false_iff_ne.mpr e).symm
theorem qb4 (a b:Str):decide ((O3 a:Key)=O3 b)=decide (a=b):=by
 by_cases e:a=b
 ·subst e;simp
 ·have h:¬ (O3 a:Key)=O3 b:=fun q=>e (B52 q);rw [decide_eq_false h,decide_eq_false e]
theorem qb6 (a:Int) (b:Str):decide ((D9 a:Key)=O3 b)=false:=decide_eq_false (fun q=>nomatch q)
theorem qb5 (a:Str) (b:Int):decide ((O3 a:Key)=D9 b)=false:=decide_eq_false (fun q=>nomatch q)
def qBF (prog:B60) (w:World):PySem.KeyKind prog w Key where
 is:=qQS
 hash:=keyH w
 inj:=fun v a b ha hb=>by
  rcases qBG ha with ⟨i,t,rfl,rfl⟩ | ⟨x,t,rfl,rfl⟩
  ·rcases qBG hb with ⟨j,u,rfl,e⟩ | ⟨y,u,rfl,e⟩
   ·injection e with e1 _;rw [e1]
   ·exact nomatch e
  ·rcases qBG hb with ⟨j,u,rfl,e⟩ | ⟨y,u,rfl,e⟩
   ·exact nomatch e
   ·injection e with e1 _;rw [e1]
 byValue:=fun k v h=>by
  rcases qBG h with ⟨i,t,rfl,rfl⟩ | ⟨x,t,rfl,rfl⟩ <;> rfl
 pyHash:=fun hv h=>by
  rcases qBG hv with ⟨i,t,rfl,rfl⟩ | ⟨x,t,rfl,rfl⟩
  ·exact wpAny_pyHash_int h
  ·exact wpAny_pyHash_str h
 eqBool:=fun hu hv h=>by
  rcases qBG hu with ⟨i,t,rfl,rfl⟩ | ⟨x,t,rfl,rfl⟩
  ·rcases qBG hv with ⟨j,u,rfl,rfl⟩ | ⟨y,u,rfl,rfl⟩
   ·rw [qb7] at h;exact wpAny_eqBool_int h
   ·rw [qb6] at h;exact A77 i t y u _ _ _ _ h
  ·rcases qBG hv with ⟨j,u,rfl,rfl⟩ | ⟨y,u,rfl,rfl⟩
   ·rw [qb5] at h;exact A78 x t j u _ _ _ _ h
   ·rw [qb4] at h;exact wpAny_eqBool_str h
 «strs»:=fun k x t v h=>by
  rcases qBG h with ⟨i,u,rfl,e⟩ | ⟨y,u,rfl,e⟩
  ·exact nomatch e
  ·injection e with e1 _
   subst e1;cases v <;> rfl
theorem qNZ (prog:B60) (w:World) (i:Int) (t:Tok):(qBF prog w).is (.inl i) (.int i t)=true:=qT3 i t
theorem qNY (prog:B60) (w:World) (x:Str) (t:Tok):(qBF prog w).is (.inr x) (.str x t)=true:=qT2 x t
inductive V where
 | non | bl (b:Bool) | int (i:Int) | str (x:Str) | byt (b:Array UInt8) | flt (b:UInt64) | ref (a:Addr) | ty (n:String)
 deriving DecidableEq
def RelV:V->Value->Prop
 | .non,u=>u=V5
 | .bl b,u=>u=V6 b
 | .int i,u=>∃ t,u=U1 i t
 | .str x,u=>∃ t,u=B17 x t
 | .byt b,u=>∃ t,u=Value.bytes b t
 | .flt b,u=>∃ t,u=Value.float b t
 | .ref a,u=>u=E2 a
 | .ty n,u=>u=V7 n
abbrev Vals:List V->List Value->Prop:=Paired RelV
theorem Vals.length {xs:List V} {us:List Value} (r:Vals xs us):xs.length=us.length:=C6 r
theorem Vals.get:∀ {xs:List V} {us:List Value} {i:Nat} {x:V},Vals xs us->xs[i]?=some x->∃ u,us[i]?=some u/\RelV x u
 | _,_,_,_,.nil,e=>by simp at e
 | _,_,0,_,.cons r _,e=>by simp at e;subst e;exact ⟨_,rfl,r⟩
 | _,_,i+1,x,.cons _ t,e=>by
  obtain ⟨u,h1,h2⟩:=Vals.get (i:=i) (x:=x) t (by simpa using e)
  exact ⟨u,by simpa using h1,h2⟩
theorem Vals.set {x:V} {u:Value} (r:RelV x u):∀ {xs:List V} {us:List Value} (i:Nat),Vals xs us->Vals (xs.set i x) (us.set i u)
 | _,_,_,.nil=>.nil
 | _,_,0,.cons _ t=>.cons r t
 | _,_,i+1,.cons q t=>.cons q (Vals.set r i t)
theorem Vals.append:∀ {xs ys:List V} {us ws:List Value},Vals xs us->Vals ys ws->Vals (xs++ys) (us++ws)
 | _,_,_,_,.nil,s=>s
 | _,_,_,_,.cons r t,s=>.cons r (Vals.append t s)
theorem Vals.take:∀ {xs:List V} {us:List Value} (n:Nat),Vals xs us->Vals (xs.take n) (us.take n)
 | _,_,0,_=>.nil
 | _,_,_+1,.nil=>.nil
 | _,_,n+1,.cons r t=>.cons r (Vals.take n t)
theorem Vals.drop:∀ {xs:List V} {us:List Value} (n:Nat),Vals xs us->Vals (xs.drop n) (us.drop n)
 | _,_,0,r=>r
 | _,_,_+1,.nil=>.nil
 | _,_,n+1,.cons _ t=>Vals.drop n t
def RelO:Option V->Option Value->Prop
 | some v,some u=>RelV v u
 | none,none=>True
 | _,_=>False
def KV {κ:Type}:List (κ × V)->List (κ × Value)->Prop:=Paired fun (p:κ × V) (q:κ × Value)=>p.1=q.1/\RelV p.2 q.2
inductive CTb where
 | tab (q:Str)
 | cod (q:Str)
def kV:Key->V
 | .inl i=>.int i
 | .inr x=>.str x
inductive HO where
 | lst (xs:List V)
 | tup (xs:List V)
 | dK (Af:List (Key × V)) | dT (Af:List (List Key × V))
 | set (S:Int->Bool) (n:Nat)
 | ins (C dx:Addr) (fs:List (Str × V))
 | own (x:Addr)
 | xd (fs:List (Str × V))
 | met (f x:Addr)
 | rng (lo hi:Int)
 | frz (o:Obj) (u:HO)
 | tbl (t:CTb)
 | ext (φ:Heap->Prop)
abbrev Hp:=Addr->Option HO
def Ag (H:Hp) (a:Addr) (o:HO):Hp:=fun b=>if b=a then some o else H b
theorem qA1 {H:Hp} {a:Addr} {o:HO}:Ag H a o a=some o:=by unfold Ag;rw [if_pos rfl]
theorem qA7 {H:Hp} {a b:Addr} {o:HO} (h:b ≠ a):Ag H a o b=H b:=by unfold Ag;rw [if_neg h]
theorem qH2 {H:Hp} {a:Addr} {o u:HO}:Ag (Ag H a o) a u=Ag H a u:=by
 funext b;unfold Ag;split <;> rfl
theorem qC2 {H:Hp} {a b:Addr} {o u:HO} (h:H a=some o) (h':H b=some u) (d:o ≠ u):a ≠ b:=by
 intro e;subst e;rw [h] at h';exact d (J3 h')
theorem qA5 {H:Hp} {a b:Addr} {o:HO} (h:H a=some o) (h':H b=none):a ≠ b:=by
 intro e;subst e;rw [h] at h';cases h'
section
variable (P:B60) (w:World)
def ObjOk (H:Hp) (h:Heap) (a:Addr):HO->Prop
 | .lst xs=>xs.length<=B59/\∃ (its:List Value) (n:Nat),Vals xs its/\h.get? a=some { cls:=.type "list",data:=.seq its.toArray n }
 | .tup xs=>xs.length<=B59/\∃ its:List Value,Vals xs its/\IsTup h a its.toArray
 | .dK Af=>Af.length<=B59/\(a == B89)=false/\∃ vs,KV Af vs/\h.DictOf (qBF P w) a vs
 | .dT Af=>Af.length<=B59/\(a == B89)=false/\∃ xs:List (List Key × Addr × Value),
   Paired (fun (p:List Key × V) (q:List Key × Addr × Value)=>p.1=q.1/\H q.2.1=some (.tup (p.1.map kV))/\RelV p.2 q.2.2) Af xs/\
   ∃ o es ep,h.get? a=some o/\o.ExactDict/\o.data=.dict es ep/\es.toList=xs.map (entryOfKey (tupleKind (qBF P w)))/\(xs.map (·.1)).Nodup
 | .set S n=>h.SetOf (B99 P w) a S n
 | .ins C dx fs=>H dx=some (.own a)/\fs.length<=1000/\dx ≠ a/\h.get? a=some (A43 C dx)/\
   ∃ mA,h.Ns1 dx mA/\(∀ f,RelO (fs.lookup f) (mA f))/\PySem.Within mA (fs.map (·.1))
 | .own _=>∃ o,h.get? a=some o
 | .xd fs=>∃ mA,h.Ns1 a mA/\∀ f,RelO (fs.lookup f) (mA f)
 | .rng lo hi=>∃ t u v,h.get? a=some { cls:=.type "range",data:=.fields #[.int lo t,.int hi u,.int 1 v] }
 | .frz o u=>h.get? a=some o/\ObjOk H h a u
 | .tbl (.tab q)=>∃ more:Array Value,h.get? a=some { cls:=.none,data:=.fields more }/\TriplesOk more.toList/\∀ pos cv,codeAmong pos more.toList=some cv->∃ c,cv=.ref c/\H c=some (.tbl (.cod q))
 | .tbl (.cod q)=>h.CodeRec (.ref a) q
 | .met f x=>h.get? a=some (A03 (.ref f) (.ref x))
 | .ext φ=>φ h/\(∃ o,h.get? a=some o)/\∀ h1 h2:Heap,φ h1->(∀ o,h1.get? a=some o->h2.get? a=some o)->φ h2
def HOk (H:Hp) (h:Heap):Prop:=∀ a o,H a=some o->ObjOk P w H h a o
end
section
variable {P:B60} {w:World} {H H':Hp} {h h':Heap} {a:Addr} {o:HO}
theorem ObjOk.lt (x:ObjOk P w H h a o):a<h.objs.size:=by
 cases o with
 | lst xs=>obtain ⟨_,_,_,_,e⟩:=x;exact C1 e
 | tup xs=>obtain ⟨_,_,_,p⟩:=x;exact p.lt
 | dK Af=>obtain ⟨_,_,_,_,o,_,_,e,_⟩:=x;exact C1 e
 | dT Af=>obtain ⟨_,_,_,_,o,_,_,e,_⟩:=x;exact C1 e
 | set S n=>obtain ⟨o,_,_,_,e,_⟩:=x;exact C1 e
 | ins C dx fs=>obtain ⟨_,_,_,e,_⟩:=x;exact C1 e
 | own y=>obtain ⟨_,e⟩:=x;exact C1 e
 | xd fs=>obtain ⟨_,⟨_,_,_,e,_⟩,_⟩:=x;exact C1 e
 | rng lo hi=>obtain ⟨_,_,_,e⟩:=x;exact C1 e
 | frz ob u=>obtain ⟨e,_⟩:=x;exact C1 e
 | tbl t=>
  cases t with
  | tab q=>obtain ⟨_,e,_⟩:=x;exact C1 e
  | cod q=>obtain ⟨c,o,_,_,e,g,_⟩:=x;cases e;exact C1 g
 | met f y=>exact C1 (show h.get? a=some _ from x)
 | ext φ=>obtain ⟨_,⟨_,e⟩,_⟩:=x;exact C1 e
theorem Paired.mapP {α β:Type} {F G:α->β->Prop}:∀ {l₁:List α} {l₂:List β},Paired F l₁ l₂->(∀ a b,F a b->G a b)->Paired G l₁ l₂
 | _,_,.nil,_=>.nil
 | _,_,.cons r t,f=>.cons (f _ _ r) (Paired.mapP t f)
theorem ObjOk.stay (x:ObjOk P w H h a o) (k:∀ b u,(b=a\/H b=some (.own a))->h.get? b=some u->h'.get? b=some u)
  (ho:∀ b,H b=some (.own a)->H' b=some (.own a)) (ht:∀ b xs,H b=some (.tup xs)->H' b=some (.tup xs)) (hb:∀ b t,H b=some (.tbl t)->H' b=some (.tbl t):=by exact fun _ _ q=>q):ObjOk P w H' h' a o:=by
 induction o with
 | lst xs=>obtain ⟨z,its,n,r,e⟩:=x;exact ⟨z,its,n,r,k _ _ (.inl rfl) e⟩
 | tup xs=>obtain ⟨z,its,r,ob,e,c⟩:=x;exact ⟨z,its,r,ob,k _ _ (.inl rfl) e,c⟩
 | dK Af=>obtain ⟨z,y,vs,r,ob,es,ep,e,c⟩:=x;exact ⟨z,y,vs,r,ob,es,ep,k _ _ (.inl rfl) e,c⟩
 | dT Af=>
  obtain ⟨z,y,xs,r,ob,es,ep,e,c⟩:=x;exact ⟨z,y,xs,Paired.mapP r fun p q z=>⟨z.1,ht _ _ z.2.1,z.2.2⟩,ob,es,ep,k _ _ (.inl rfl) e,c⟩
 | set S n=>obtain ⟨ob,es,ep,t,e,c⟩:=x;exact ⟨ob,es,ep,t,k _ _ (.inl rfl) e,c⟩
 | ins C dx fs=>
  obtain ⟨d,z,ne,e,mA,⟨od,es,ep,e2,c⟩,r⟩:=x;exact ⟨ho _ d,z,ne,k _ _ (.inl rfl) e,mA,⟨od,es,ep,k _ _ (.inr d) e2,c⟩,r⟩
 | own y=>obtain ⟨ob,e⟩:=x;exact ⟨ob,k _ _ (.inl rfl) e⟩
 | xd fs=>obtain ⟨mA,⟨od,es,ep,e,c⟩,r⟩:=x;exact ⟨mA,⟨od,es,ep,k _ _ (.inl rfl) e,c⟩,r⟩
 | rng lo hi=>obtain ⟨t,u,v,e⟩:=x;exact ⟨t,u,v,k _ _ (.inl rfl) e⟩
 | frz ob u ih=>obtain ⟨e,q⟩:=x;exact ⟨k _ _ (.inl rfl) e,ih q⟩
 | tbl t=>
  cases t with
  | tab q=>obtain ⟨m,e,tr,c⟩:=x;exact ⟨m,k a _ (.inl rfl) e,tr,fun pos cv z=>let ⟨c',e1,e2⟩:=c pos cv z;⟨c',e1,hb _ _ e2⟩⟩
  | cod q=>obtain ⟨c,o,vs,t,e,g,r⟩:=x;cases e;exact ⟨a,o,vs,t,rfl,k a _ (.inl rfl) g,r⟩
 | met f y=>
  have e:h.get? a=some (A03 (.ref f) (.ref y)):=x;show h'.get? a=some (A03 (.ref f) (.ref y));exact k a _ (.inl rfl) e
 | ext φ=>obtain ⟨p,⟨o,e⟩,st⟩:=x;exact ⟨st _ _ p fun o q=>k _ _ (.inl rfl) q,⟨o,k _ _ (.inl rfl) e⟩,st⟩
theorem HOk.lt (x:HOk P w H h) (e:H a=some o):a<h.objs.size:=(x a o e).lt
theorem HOk.fresh (x:HOk P w H h) (e:h.objs.size<=a):H a=none:=by
 cases q:H a with
 | none=>rfl
 | some u=>exact absurd (G2 (x.lt q) e) (X1 _)
theorem HOk.kept (x:HOk P w H h) (k:∀ b u,h.get? b=some u->h'.get? b=some u):HOk P w H h':=fun a o e=>
 (x a o e).stay (fun b u _ q=>k b u q) (fun _ q=>q) fun _ _ q=>q
theorem HOk.laid (x:HOk P w H h) (k:∀ b u,h.get? b=some u->h'.get? b=some u) (hp:h.objs.size<=a) (new:ObjOk P w (Ag H a o) h' a o):HOk P w (Ag H a o) h':=fun b u e=>by
 have hn:=x.fresh hp;by_cases hb:b=a
 ·subst hb;rw [qA1] at e;cases e;exact new
 ·rw [qA7 hb] at e;exact (x b u e).stay (fun c v _ q=>k c v q) (fun c q=>by rw [qA7 (qA5 q hn)];exact q) (fun c xs q=>by rw [qA7 (qA5 q hn)];exact q) fun c t q=>by rw [qA7 (qA5 q hn)];exact q
end
def Rd (H:Hp) (a:Addr) (u:HO):Prop:=H a=some u\/∃ o,H a=some (.frz o u)
theorem Rd.ok {P:B60} {w:World} {H:Hp} {h:Heap} {a:Addr} {u:HO} (r:Rd H a u) (x:HOk P w H h):ObjOk P w H h a u:=by
 rcases r with r | ⟨o,r⟩
 ·exact x a u r
 ·obtain ⟨_,q⟩:=x a _ r;exact q
def Mut:Option HO->Prop
 | some (.lst _)=>True
 | some (.dK _)=>True
 | some (.dT _)=>True
 | some (.set _ _)=>True
 | some (.ins _ _ _)=>True
 | some (.ext _)=>True
 | _=>False
section
variable {P:B60} {w:World} {H:Hp} {h h':Heap} {x e:Addr} {o':HO}
theorem HOk.write (ok:HOk P w H h) (mu:Mut (H x)) (he:e=x\/H e=some (.own x)) (k:∀ b u,b ≠ e->h.get? b=some u->h'.get? b=some u) (heo:∃ u,h'.get? e=some u)
  (new:ObjOk P w (Ag H x o') h' x o'):HOk P w (Ag H x o') h':=fun b u q=>by
 have nown:∀ c y,H c=some (.own y)->c ≠ x:=fun c y r z=>by subst z;rw [r] at mu;exact mu
 have ntup:∀ c xs,H c=some (.tup xs)->c ≠ x:=fun c xs r z=>by subst z;rw [r] at mu;exact mu
 by_cases hb:b=x
 ·subst hb;rw [qA1] at q;cases q;exact new
 ·rw [qA7 hb] at q;by_cases hbe:b=e
  ·have q':H b=some (.own x):=by
    rcases he with z | z
    ·exact absurd (hbe.trans z) hb
    ·rw [hbe];exact z
   rw [q] at q';cases q';obtain ⟨v,hv⟩:=heo;exact ⟨v,by rw [hbe];exact hv⟩
  ·refine (ok b u q).stay (fun c v hc r=>k c v ?_ r) (fun c r=>by rw [qA7 (nown c b r)];exact r) (fun c xs r=>by rw [qA7 (ntup c xs r)];exact r) fun c t r=>by rw [qA7 (fun z=>by subst z;rw [r] at mu;exact mu)];exact r
   rcases hc with rfl | hc
   ·exact hbe
   ·rintro rfl;rcases he with z | z
    ·exact nown c b hc z
    ·rw [hc] at z;cases z;exact hb rfl
end
structure Un (fs ex:List Addr) (H H':Hp) (h h':Heap):Prop where
 keep:∀ b o,h.get? b=some o->H b=none->b ∉ fs->b ∉ ex->h'.get? b=some o
 slot:∀ b o,h.get? b=some o->H b=none->b ∈ fs->b ∉ ex->∃ sl,h'.get? b=some { o with slots:=sl }
 free:∀ b o,h.get? b=some o->H b=none->b ∉ ex->H' b=none
 there:∀ b o,h.get? b=some o->b ∉ ex->∃ o',h'.get? b=some o'
 tups:∀ b xs,H b=some (.tup xs)->H' b=some (.tup xs)
 frzs:∀ b o u,H b=some (.frz o u)->H' b=some (.frz o u)
 tbls:∀ b ps,H b=some (.tbl ps)->H' b=some (.tbl ps)
section
variable {fs fs' ex ex':List Addr} {H H1 H2:Hp} {h h1 h2 h':Heap} {a x e:Addr} {o:HO}
theorem Un.any (u:Un fs ex H H1 h h1) {b:Addr} {ob:Obj} (q:h.get? b=some ob) (n:H b=none) (hx:b ∉ ex):∃ sl,h1.get? b=some { ob with slots:=sl }:=by
 by_cases hb:b ∈ fs
 ·exact u.slot b ob q n hb hx
 ·exact ⟨ob.slots,u.keep b ob q n hb hx⟩
theorem Un.kept (k:∀ b u,h.get? b=some u->h'.get? b=some u):Un fs ex H H h h':=
 ⟨fun b ob q _ _ _=>k b ob q,fun b ob q _ _ _=>⟨ob.slots,k b ob q⟩,fun _ _ _ n _=>n,fun b ob q _=>⟨ob,k b ob q⟩,fun _ _ q=>q,fun _ _ _ q=>q,fun _ _ q=>q⟩
theorem Un.refl:Un fs ex H H h h:=Un.kept fun _ _ q=>q
theorem Un.laid (k:∀ b u,h.get? b=some u->h'.get? b=some u) (hp:h.objs.size<=a) (hn:H a=none):Un fs ex H (Ag H a o) h h' where
 keep:=fun b u q _ _ _=>k b u q
 slot:=fun b u q _ _ _=>⟨u.slots,k b u q⟩
 free:=fun b u q n _=>by rw [qA7 (E3 (G2 (C1 q) hp))];exact n
 there:=fun b u q _=>⟨u,k b u q⟩
 tups:=fun b xs q=>by rw [qA7 (qA5 q hn)];exact q
 frzs:=fun b u xs q=>by rw [qA7 (qA5 q hn)];exact q
 tbls:=fun b ps q=>by rw [qA7 (qA5 q hn)];exact q
theorem Un.write (mu:Mut (H x)) (he:e=x\/H e=some (.own x)) (k:∀ b u,b ≠ e->h.get? b=some u->h'.get? b=some u) (heo:∃ u,h'.get? e=some u):Un fs ex H (Ag H x o) h h':=by
 have hx:∀ b,H b=none->b ≠ x:=fun b n z=>by subst z;rw [n] at mu;exact mu
 have hb:∀ b,H b=none->b ≠ e:=fun b n z=>by
  subst z;rcases he with r | r
  ·exact hx b n r
  ·rw [n] at r;cases r
 have hm:∀ b u,H b=some u->¬ Mut (some u)->b ≠ x:=fun b u q nm z=>by subst z;rw [q] at mu;exact nm mu
 refine ⟨fun b u q n _ _=>k b u (hb b n) q,fun b u q n _ _=>⟨u.slots,k b u (hb b n) q⟩,fun b u q n _=>by rw [qA7 (hx b n)];exact n,fun b u q _=>?_,
  fun b xs q=>by rw [qA7 (hm b _ q fun z=>z)];exact q,fun b u xs q=>by rw [qA7 (hm b _ q fun z=>z)];exact q,fun b ps q=>by rw [qA7 (hm b _ q fun z=>z)];exact q⟩
 by_cases hbe:b=e
 ·subst hbe;exact heo
 ·exact ⟨u,k b u hbe q⟩
end
def trk (h:Heap) (H:Hp):List Addr:=(G5 h.objs.size).filter fun a=>(H a).isSome
def hidT (h:Heap) (H:Hp):Heap:=PySem.W.hideAll h (trk h H)
theorem qTC (h:Heap) (H:Hp):(hidT h H).objs.size=h.objs.size:=PySem.W.hideAll_size _ _
theorem qVT {h:Heap} {H:Hp} {b:Addr} {o:Obj} (e:h.get? b=some o) (n:H b=none):(hidT h H).get? b=some o:=
 PySem.W.hideAll_get _ e fun hm=>by
  have q:(H b).isSome=true:=(G3.mp hm).2;rw [n] at q;simp at q
theorem qYB {h:Heap} {H:Hp} {b:Addr} {o:Obj} (e:(hidT h H).get? b=some o):h.get? b=some o/\H b=none:=by
 have e':h.get? b=some o:=PySem.W.of_hideAll (trk h H) e;refine ⟨e',?_⟩;cases q:H b with
 | none=>rfl
 | some x=>
  have hm:b ∈ trk h H:=G3.mpr ⟨E9.mpr (C1 e'),by simp [q]⟩
  have z:(hidT h H).get? b=none:=PySem.W.hideAll_none (trk h H) hm;rw [z] at e;cases e
def qZH (g h:Heap) (L:Addr):List (Addr × Obj):=(G5 h.objs.size).filterMap fun a=>if a=L\/(g.get? a).isSome=true then none else (h.get? a).map fun o=>(a,o)
def rest (g h:Heap) (L d:Addr):List (Addr × Obj):=(qZH g h L).filter fun p=>decide (p.1 ≠ d)
structure Mod (K:PySem.W.Frag) (mg:Str->Option Value) (base:Heap):Prop where
 kin:K.In base
 glob:base.Ns B63 mg
 blt:∃ mb,base.Ns builtinsNs mb/\∀ x:Str,x ≠ "__name__"->mb x=B67 x
 nolimit:base.NoLimit
structure Cx where
 prog:B60
 w:World
 K:PySem.W.Frag
 mg:Str->Option Value
 base:Heap
 A:Around
 N:List Str
 s₀:Shared
 H₀:Hp
 env:Env
 outer:List Env
 stack:List Env
 ex:List Addr
 fn:Str->Bool
 calm:Bool
 pn:List (Addr × Obj)
 xe:Value->Shared->Prop
def frs (l:List Env):List Addr:=l.filterMap (·.frame)
abbrev Cx.fs (X:Cx):List Addr:=frs X.outer
def Vis (sc:Scope) (x:Str):Prop:=sc.names.lookup x=some .local\/sc.names.lookup x=some .cell\/sc.names.lookup x=some .free
def Loc (sc:Scope) (x:Str):Prop:=sc.names.lookup x=some .local\/sc.names.lookup x=some .cell
def Look (env:Env) (h:Heap) (m:Str->Option Value) (x:Str) (u:Value):Prop:=
 (env.kindOf x=some .local/\m x=some u)\/((env.kindOf x=some .cell\/env.kindOf x=some .free)/\∃ c,env.cells.lookup x=some c/\h.IsCell c (some u))
structure Cx.Ok (X:Cx):Prop where
 mod:Mod X.K X.mg X.base
 kind:X.env.scope.kind=.function
 glob:X.env.globals=B63
 blt:X.env.builtins=builtinsNs
 above:X.s₀.heap.objs.size<=X.env.locals
 inj:∀ x y c,X.env.cells.lookup x=some c->X.env.cells.lookup y=some c->x=y
 has:∀ x,(X.env.kindOf x=some .cell\/X.env.kindOf x=some .free)->∃ c,X.env.cells.lookup x=some c
 cab:∀ x c,X.fn x=true->X.env.cells.lookup x=some c->X.s₀.heap.objs.size<=c
 hd:X.calm=true->X.A.handled=none
 frames:X.A.frames=some X.stack
 stk:X.stack=X.outer\/(X.stack=X.env::X.outer/\X.env.frame=some X.env.locals)
 exf:∀ b ∈ X.ex,b ≠ X.env.locals/\∀ x c,X.env.cells.lookup x=some c->c ≠ b
 bs:∀ b o,X.base.get? b=some o->X.s₀.heap.get? b=some o/\X.H₀ b=none
 bsz:X.base.objs.size<=X.s₀.heap.objs.size
 noex:∀ b o,X.base.get? b=some o->b ∉ X.ex
 exfs:∀ b ∈ X.ex,b ∉ X.fs
 funs:X.s₀.heap.FunFrames X.base X.outer
 frf:∀ b ∈ X.fs,X.H₀ b=none
structure Inv (X:Cx) (Ab:List (Addr × Obj)) (σ:List (Option V)) (H:Hp) (s:Shared):Prop where
 ok:X.Ok
 os:s.os=X.s₀.os
 bare:C10 s.gens
 base:Un X.fs X.ex X.H₀ H X.s₀.heap s.heap
 loc:∃ m,s.heap.Ns X.env.locals m/\∀ (i:Nat) (x:Str) (v:V),X.N[i]?=some x->σ[i]?=some (some v)->Vis X.env.scope x->∃ u,RelV v u/\Look X.env s.heap m x u
 cell:∀ x c,X.env.cells.lookup x=some c->∃ v,s.heap.IsCell c v
 free:H X.env.locals=none
 freeC:∀ x c,X.env.cells.lookup x=some c->H c=none
 pin:∀ p ∈ X.pn++Ab,s.heap.get? p.1=some p.2/\H p.1=none/\p.1 ≠ X.env.locals/\p.1 ∉ X.fs/\∀ v,p.2.data ≠ .cell v
 hok:HOk X.prog X.w H s.heap
 len:σ.length=X.N.length
section
variable {X:Cx} {Ab:List (Addr × Obj)} {σ:List (Option V)} {H H':Hp} {s:Shared} {h':Heap}
theorem Cx.Ok.nofr (ok:X.Ok) {b:Addr} {o:Obj} (e:X.base.get? b=some o):b ∉ X.fs:=fun hb=>by
 have:=(ok.funs.mem hb).1;rw [e] at this;cases this
theorem Inv.bs (I:Inv X Ab σ H s):∀ b o,X.base.get? b=some o->s.heap.get? b=some o/\H b=none:=fun b o e=>
 ⟨I.base.keep b o (I.ok.bs b o e).1 (I.ok.bs b o e).2 (I.ok.nofr e) (I.ok.noex b o e),I.base.free b o (I.ok.bs b o e).1 (I.ok.bs b o e).2 (I.ok.noex b o e)⟩
theorem Inv.bk (I:Inv X Ab σ H s):∀ b o,X.base.get? b=some o->s.heap.get? b=some o:=fun b o e=>(I.bs b o e).1
theorem Inv.mod (I:Inv X Ab σ H s):Mod X.K X.mg X.base:=I.ok.mod
theorem Inv.kIn (I:Inv X Ab σ H s):X.K.In s.heap:=I.ok.mod.kin.keeps I.bk
theorem Inv.lt (I:Inv X Ab σ H s):X.env.locals<s.heap.objs.size:=let ⟨_,hn,_⟩:=I.loc;hn.lt
theorem Inv.sz (I:Inv X Ab σ H s):X.s₀.heap.objs.size<=s.heap.objs.size:=M5 I.ok.above (Y3 I.lt)
theorem Inv.nofs (I:Inv X Ab σ H s) {a:Addr} (h:s.heap.objs.size<=a):a ∉ X.fs:=fun hb=>by
 obtain ⟨_,o,ho,_⟩:=I.ok.funs.mem hb;exact absurd (G2 (C1 ho) (M5 I.sz h)) (X1 _)
theorem Inv.cne (I:Inv X Ab σ H s):∀ x c,X.env.cells.lookup x=some c->c ≠ X.env.locals:=fun x c e z=>by
 obtain ⟨v,o,ho,hd⟩:=I.cell x c e;obtain ⟨m,⟨o',es,ep,ho',hd',_⟩,_⟩:=I.loc;rw [z,ho'] at ho;cases ho;rw [hd'] at hd;cases hd
theorem Inv.funs (I:Inv X Ab σ H s):s.heap.FunFrames X.base X.outer:=by
 have all:∀ (l:List Env),(∀ b ∈ frs l,b ∈ X.fs)->X.s₀.heap.FunFrames X.base l->s.heap.FunFrames X.base l:=by
  intro l
  induction l with
  | nil=>intro _ _;trivial
  | cons env r ih=>
   intro hs hl;obtain ⟨hk,⟨L,o,hf,hn,ho,hd⟩,hr⟩:=hl;have hL:L ∈ X.fs:=hs L (by unfold frs;rw [c6,hf];exact A8)
   obtain ⟨sl,e⟩:=I.base.slot L o ho (I.ok.frf L hL) hL fun z=>I.ok.exfs L z hL;exact ⟨hk,⟨L,_,hf,hn,e,hd⟩,ih (fun b hb=>hs b (by unfold frs;rw [c6,hf];exact B0 _ hb)) hr⟩
 exact all X.outer (fun _ hb=>hb) I.ok.funs
theorem Inv.stack (I:Inv X Ab σ H s):s.heap.FunFrames X.base X.stack:=by
 rcases I.ok.stk with e | ⟨e,hf⟩
 ·rw [e];exact I.funs
 ·rw [e];obtain ⟨m,hn,_⟩:=I.loc;refine .cons (by rw [I.ok.kind];decide) hf hn ?_ I.funs
  exact Heap.get?_none_of_le (M5 I.ok.bsz I.ok.above)
theorem Inv.stkSub (I:Inv X Ab σ H s):∀ b ∈ frs X.stack,b ∈ X.env.locals::X.fs:=fun b hb=>by
 rcases I.ok.stk with e | ⟨e,hf⟩
 ·rw [e] at hb;exact B0 _ hb
 ·rw [e] at hb;unfold frs at hb;rw [c6,hf] at hb;exact hb
theorem Inv.stkFree (I:Inv X Ab σ H s):∀ b ∈ frs X.stack,H b=none:=fun b hb=>by
 rcases B8.mp (I.stkSub b hb) with e | hb
 ·rw [e];exact I.free
 ·obtain ⟨_,o,ho,_⟩:=I.ok.funs.mem hb;exact I.base.free b o ho (I.ok.frf b hb) fun z=>I.ok.exfs b z hb
theorem Inv.step {g':Array C09} {t':Nat} {d':Drawn} {ch:List Addr} (I:Inv X Ab σ H s)
  (hch:∀ b ∈ ch,(b ∈ X.ex\/X.s₀.heap.objs.size<=b)/\b ≠ X.env.locals/\(∀ x c,X.env.cells.lookup x=some c->c ≠ b)/\∀ p ∈ X.pn++Ab,p.1 ≠ b)
  (keep:∀ b o,b ≠ X.env.locals->b ∉ X.fs->b ∉ ch->s.heap.get? b=some o->H b=none->h'.get? b=some o)
  (slot:∀ b o,b ≠ X.env.locals->b ∈ X.fs->b ∉ ch->s.heap.get? b=some o->H b=none->∃ sl,h'.get? b=some { o with slots:=sl }) (free:∀ b o,b ∉ ch->s.heap.get? b=some o->H b=none->H' b=none)
  (there:∀ b o,b ∉ ch->s.heap.get? b=some o->∃ o',h'.get? b=some o')
  (tups:∀ b xs,H b=some (.tup xs)->H' b=some (.tup xs)) (frzs:∀ b o u,H b=some (.frz o u)->H' b=some (.frz o u)) (tbls:∀ b ps,H b=some (.tbl ps)->H' b=some (.tbl ps))
  (ns:∀ m,s.heap.Ns X.env.locals m->h'.Ns X.env.locals m) (hok:HOk X.prog X.w H' h') (hg:C10 g') :
  Inv X Ab σ H' { s with heap:=h',gens:=g',drawn:=d',toks:=t' }:=by
 have neL:∀ b o,X.s₀.heap.get? b=some o->b ≠ X.env.locals:=fun b o e=>E3 (G2 (C1 e) I.ok.above);have neC:∀ b o,X.s₀.heap.get? b=some o->b ∉ X.ex->b ∉ ch:=fun b o e hx hb=>by
  rcases (hch b hb).1 with z | z
  ·exact hx z
  ·exact absurd (G2 (C1 e) z) (X1 _)
 have cellK:∀ x c,X.env.cells.lookup x=some c->∀ v,s.heap.IsCell c v->h'.IsCell c v:=fun x c e v ⟨o,ho,hd⟩=>by
  have nch:c ∉ ch:=fun z=>(hch c z).2.2.1 x c e rfl;by_cases hc:c ∈ X.fs
  ·obtain ⟨sl,q⟩:=slot c o (I.cne x c e) hc nch ho (I.freeC x c e);exact ⟨_,q,hd⟩
  ·exact ⟨o,keep c o (I.cne x c e) hc nch ho (I.freeC x c e),hd⟩
 refine ⟨I.ok,I.os,hg,⟨fun b o e n hb hx=>?_,fun b o e n hb hx=>?_,fun b o e n hx=>?_,fun b o e hx=>?_,fun b xs e=>tups b xs (I.base.tups b xs e),fun b o xs e=>frzs b o xs (I.base.frzs b o xs e),fun b ps e=>?_⟩,?_,fun x c e=>?_,?_,fun x c e=>?_,fun p hp=>?_,hok,I.len⟩
 ·exact keep b o (neL b o e) hb (neC b o e hx) (I.base.keep b o e n hb hx) (I.base.free b o e n hx)
 ·obtain ⟨sl,e1⟩:=I.base.slot b o e n hb hx;obtain ⟨sl',e2⟩:=slot b _ (neL b o e) hb (neC b o e hx) e1 (I.base.free b o e n hx);exact ⟨sl',e2⟩
 ·obtain ⟨o',e1⟩:=I.base.there b o e hx;exact free b o' (neC b o e hx) e1 (I.base.free b o e n hx)
 ·obtain ⟨o',e1⟩:=I.base.there b o e hx;exact there b o' (neC b o e hx) e1
 ·exact tbls b ps (I.base.tbls b ps e)
 ·obtain ⟨m,hn,hl⟩:=I.loc;refine ⟨m,ns m hn,fun i x v e1 e2 e3=>?_⟩;obtain ⟨u,r,l⟩:=hl i x v e1 e2 e3;refine ⟨u,r,?_⟩;rcases l with l | ⟨k,c,e,z⟩
  ·exact .inl l
  ·exact .inr ⟨k,c,e,cellK x c e _ z⟩
 ·obtain ⟨v,z⟩:=I.cell x c e;exact ⟨v,cellK x c e v z⟩
 ·obtain ⟨m,⟨o,_,_,ho,_⟩,_⟩:=I.loc;exact free _ o (fun z=>(hch _ z).2.1 rfl) ho I.free
 ·obtain ⟨v,o,ho,hd⟩:=I.cell x c e;exact free c o (fun z=>(hch c z).2.2.1 x c e rfl) ho (I.freeC x c e)
 ·obtain ⟨e,n,ne,nf,d⟩:=I.pin p hp;have nch:p.1 ∉ ch:=fun z=>(hch p.1 z).2.2.2 p hp rfl;exact ⟨keep p.1 p.2 ne nf nch e n,free p.1 p.2 nch e n,ne,nf,d⟩
theorem Inv.un {t':Nat} (I:Inv X Ab σ H s) (u:Un X.fs [] H H' s.heap h') (hok:HOk X.prog X.w H' h'):Inv X Ab σ H' { s with heap:=h',toks:=t' }:=by
 obtain ⟨m,⟨o,es,ep,ho,r⟩,_⟩:=id I.loc;obtain ⟨sl,hL⟩:=u.any ho I.free (by simp)
 exact I.step (g':=s.gens) (d':=s.drawn) (ch:=[]) (fun _ z=>nomatch z) (fun b o _ hb _ e n=>u.keep b o e n hb (by simp)) (fun b o _ hb _ e n=>u.slot b o e n hb (by simp)) (fun b o _ e n=>u.free b o e n (by simp)) (fun b o _ e=>u.there b o e (by simp)) u.tups u.frzs u.tbls (fun m' hm=>by
  obtain ⟨o',es',ep',ho',r'⟩:=hm;rw [ho] at ho';cases ho';exact ⟨_,es',ep',hL,r'⟩) hok I.bare
theorem Inv.call {g':Array C09} {t':Nat} {d':Drawn} {ch:List Addr} (I:Inv X Ab σ H s) (u:Un (frs X.stack) ch H H' s.heap h') (hok:HOk X.prog X.w H' h') (hg:C10 g')
  (hch:∀ b ∈ ch,(b ∈ X.ex\/X.s₀.heap.objs.size<=b)/\b ≠ X.env.locals/\(∀ x c,X.env.cells.lookup x=some c->c ≠ b)/\∀ p ∈ X.pn++Ab,p.1 ≠ b) :
  Inv X Ab σ H' { s with heap:=h',gens:=g',drawn:=d',toks:=t' }:=by
 obtain ⟨m,⟨o,es,ep,ho,r⟩,_⟩:=id I.loc;obtain ⟨sl,hL⟩:=u.any ho I.free fun z=>(hch _ z).2.1 rfl;exact I.step (ch:=ch) hch (fun b o hL hb hc e n=>u.keep b o e n (fun z=>(B8.mp (I.stkSub b z)).elim hL hb) hc) (fun b o _ _ hc e n=>u.any e n hc) (fun b o hc e n=>u.free b o e n hc) (fun b o hc e=>u.there b o e hc) u.tups u.frzs u.tbls (fun m' hm=>by
  obtain ⟨o',es',ep',ho',r'⟩:=hm;rw [ho] at ho';cases ho';exact ⟨_,es',ep',hL,r'⟩) hok hg
theorem Inv.turned {t':Nat} {it:Addr} (I:Inv X Ab σ H s) (k:∀ b o,b ≠ it->s.heap.get? b=some o->h'.get? b=some o) (hn:H it=none) (hL:it ≠ X.env.locals)
  (h1:it ∈ X.ex\/X.s₀.heap.objs.size<=it) (h2:∀ x c,X.env.cells.lookup x=some c->c ≠ it) (h3:∀ p ∈ X.pn++Ab,p.1 ≠ it):Inv X Ab σ H { s with heap:=h',toks:=t' }:=by
 have nit:∀ b u,H b=some u->b ≠ it:=fun b u e z=>by rw [z,hn] at e;cases e
 refine I.step (g':=s.gens) (d':=s.drawn) (ch:=[it]) (fun b hb=>?_) (fun b o _ _ hc e _=>k b o (fun z=>hc (by simp [z])) e) (fun b o _ _ hc e _=>⟨o.slots,k b o (fun z=>hc (by simp [z])) e⟩) (fun _ _ _ _ n=>n)
  (fun b o hc e=>⟨o,k b o (fun z=>hc (by simp [z])) e⟩) (fun _ _ e=>e) (fun _ _ _ e=>e) (fun _ _ e=>e) (fun m hm=>?_) (fun b u e=>?_) I.bare
 ·have e:b=it:=by simpa using hb
  subst e;exact ⟨h1,hL,h2,h3⟩
 ·obtain ⟨o,es,ep,ho,r⟩:=hm;exact ⟨o,es,ep,k _ o (L8 hL) ho,r⟩
 ·refine (I.hok b u e).stay (fun c v hc q=>k c v ?_ q) (fun _ q=>q) fun _ _ q=>q;rcases hc with z | z
  ·rw [z];exact nit b u e
  ·exact nit c _ z
theorem Inv.tok (I:Inv X Ab σ H s) (t:Nat):Inv X Ab σ H { s with toks:=t }:=I.un (h':=s.heap) (t':=t) Un.refl I.hok
theorem Inv.kept {t':Nat} (I:Inv X Ab σ H s) (k:∀ b u,s.heap.get? b=some u->h'.get? b=some u):Inv X Ab σ H { s with heap:=h',toks:=t' }:=I.un (Un.kept k) (I.hok.kept k)
theorem Inv.laid {a:Addr} {o:HO} {t':Nat} (I:Inv X Ab σ H s) (k:∀ b u,s.heap.get? b=some u->h'.get? b=some u) (hp:s.heap.objs.size<=a) (new:ObjOk X.prog X.w (Ag H a o) h' a o) :
  Inv X Ab σ (Ag H a o) { s with heap:=h',toks:=t' }:=I.un (Un.laid k hp (I.hok.fresh hp)) (I.hok.laid k hp new)
theorem Inv.write {x e:Addr} {o:HO} {t':Nat} (I:Inv X Ab σ H s) (mu:Mut (H x)) (he:e=x\/H e=some (.own x)) (k:∀ b u,b ≠ e->s.heap.get? b=some u->h'.get? b=some u) (heo:∃ u,h'.get? e=some u)
  (new:ObjOk X.prog X.w (Ag H x o) h' x o):Inv X Ab σ (Ag H x o) { s with heap:=h',toks:=t' }:=I.un (Un.write mu he k heo) (I.hok.write mu he k heo new)
theorem Inv.pins_of {pins':List (Addr × Obj)} (I:Inv X Ab σ H s) (h:∀ p ∈ pins',s.heap.get? p.1=some p.2/\H p.1=none/\p.1 ≠ X.env.locals/\p.1 ∉ X.fs/\∀ v,p.2.data ≠ .cell v):Inv X pins' σ H s:=
 ⟨I.ok,I.os,I.bare,I.base,I.loc,I.cell,I.free,I.freeC,fun p hp=>(B7.mp hp).elim (fun z=>I.pin p (G6 _ z)) (h p),I.hok,I.len⟩
theorem qPO {N:List Str} (hN:N.Nodup) {i j:Nat} {x:Str} (a:N[i]?=some x) (b:N[j]?=some x):i=j:=by
 obtain ⟨h1,e1⟩:=A3.mp a;obtain ⟨h2,e2⟩:=A3.mp b;exact (List.getElem_inj hN).mp (e1.trans e2.symm)
theorem qLX {M:Model} {A:Around} {E:Value->Shared->Prop} {i:Nat} {x:Str} {v:V} {u:Value} {Q:Unit->Shared->Prop} (I:Inv X Ab σ H s) (hN:X.N.Nodup) (hi:X.N[i]?=some x) (hx:Loc X.env.scope x) (r:RelV v u)
  (h:∀ s',Inv X Ab (σ.set i (some v)) H s'->(∃ a,Heap.SameBut a s.heap s'.heap/\(a=X.env.locals\/X.env.cells.lookup x=some a))->Q () s') (hf:X.fn x=true\/X.env.scope.names.lookup x=some .local:=by first | exact .inl rfl | exact .inr rfl | assumption):wpAny M A (storeName X.env x u) Q E s:=by
 obtain ⟨m,hn,hl⟩:=id I.loc;have hcls:(X.env.scope.kind == .class || (X.env.scope.kind == .module && X.env.locals != X.env.globals))=false:=by rw [I.ok.kind];rfl
 have hiσ:i<σ.length:=by rw [I.len];exact (A3.mp hi).1
 have cne:=I.cne;have tracked:∀ {a:Addr} {h':Heap},(∃ o,s.heap.get? a=some o/\H a=none)->Heap.SameBut a s.heap h'->HOk X.prog X.w H h':=fun {a h'} ha hs b ob e=>by
  obtain ⟨_,_,hfree⟩:=ha;refine (I.hok b ob e).stay (fun c w' hc q=>(hs.2 c ?_).trans q) (fun _ q=>q) fun _ _ q=>q;rintro rfl;rcases hc with rfl | hc
  ·rw [hfree] at e;cases e
  ·rw [hfree] at hc;cases hc
 rcases hx with hk | hk
 ·refine wpAny_storeName_local hk hn (fun h' hn' hs=>?_) hcls;obtain ⟨oL,_,_,hoL,_⟩:=id hn;refine h _ ⟨I.ok,I.os,I.bare,⟨fun b o e n hb hx=>?_,fun b o e n hb hx=>?_,I.base.free,fun b o e hx=>?_,I.base.tups,I.base.frzs,I.base.tbls⟩,⟨_,hn',fun j y v' e1 e2 e3=>?_⟩,fun y c e=>?_,I.free,I.freeC,fun p hp=>?_,tracked ⟨oL,hoL,I.free⟩ hs,by simpa using I.len⟩ ⟨_,hs,.inl rfl⟩
  ·exact (hs.2 b (E3 (G2 (C1 e) I.ok.above))).trans (I.base.keep b o e n hb hx)
  ·obtain ⟨sl,e1⟩:=I.base.slot b o e n hb hx;exact ⟨sl,(hs.2 b (E3 (G2 (C1 e) I.ok.above))).trans e1⟩
  ·obtain ⟨o',e1⟩:=I.base.there b o e hx;exact ⟨o',(hs.2 b (E3 (G2 (C1 e) I.ok.above))).trans e1⟩
  ·by_cases hj:j=i
   ·subst hj;rw [hi] at e1;cases e1;rw [i8 hiσ] at e2;cases e2;exact ⟨u,r,.inl ⟨hk,by simp⟩⟩
   ·rw [A53 (L8 hj)] at e2;obtain ⟨u',r',q⟩:=hl j y v' e1 e2 e3;refine ⟨u',r',?_⟩;rcases q with ⟨k,e⟩ | ⟨k,c,e,z⟩
    ·refine .inl ⟨k,?_⟩;have:y ≠ x:=fun e=>hj (qPO hN e1 (e ▸ hi));simp [this,e]
    ·exact .inr ⟨k,c,e,z.sameBut hs (cne y c e)⟩
  ·obtain ⟨w',z⟩:=I.cell y c e;exact ⟨w',z.sameBut hs (cne y c e)⟩
  ·obtain ⟨e,n,ne,nf,d⟩:=I.pin p hp;exact ⟨(hs.2 p.1 ne).trans e,n,ne,nf,d⟩
 ·have hfn:X.fn x=true:=by
   rcases hf with z | z
   ·exact z
   ·rw [z] at hk;cases hk
  obtain ⟨c,hc⟩:=I.ok.has x (.inl hk);obtain ⟨w',z⟩:=I.cell x c hc;refine wpAny_storeName_cell I.ok.kind hk hc z (fun h' hc' hs=>?_);obtain ⟨oc,hoc,hocd⟩:=id z;refine h { s with heap:=h' } ⟨I.ok,I.os,I.bare,⟨fun b o e n hb hx=>?_,fun b o e n hb hx=>?_,I.base.free,fun b o e hx=>?_,I.base.tups,I.base.frzs,I.base.tbls⟩,⟨m,hn.sameBut hs (L8 (cne x c hc)),fun j y v' e1 e2 e3=>?_⟩,fun y c' e=>?_,I.free,I.freeC,fun p hp=>?_,tracked ⟨oc,hoc,I.freeC x c hc⟩ hs,by simpa using I.len⟩ ⟨c,hs,.inr hc⟩
  ·exact (hs.2 b (E3 (G2 (C1 e) (I.ok.cab x c hfn hc)))).trans (I.base.keep b o e n hb hx)
  ·obtain ⟨sl,e1⟩:=I.base.slot b o e n hb hx;exact ⟨sl,(hs.2 b (E3 (G2 (C1 e) (I.ok.cab x c hfn hc)))).trans e1⟩
  ·obtain ⟨o',e1⟩:=I.base.there b o e hx;exact ⟨o',(hs.2 b (E3 (G2 (C1 e) (I.ok.cab x c hfn hc)))).trans e1⟩
  ·by_cases hj:j=i
   ·subst hj;rw [hi] at e1;cases e1;rw [i8 hiσ] at e2;cases e2;exact ⟨u,r,.inr ⟨.inl hk,c,hc,hc'⟩⟩
   ·rw [A53 (L8 hj)] at e2;obtain ⟨u',r',q⟩:=hl j y v' e1 e2 e3;refine ⟨u',r',?_⟩;rcases q with q | ⟨k,c',e,z'⟩
    ·exact .inl q
    ·refine .inr ⟨k,c',e,z'.sameBut hs ?_⟩;rintro rfl;exact hj (qPO hN e1 (I.ok.inj _ _ _ e hc ▸ hi))
  ·by_cases hcc:c'=c
   ·subst hcc;exact ⟨_,hc'⟩
   ·obtain ⟨w2,z2⟩:=I.cell y c' e;exact ⟨w2,z2.sameBut hs hcc⟩
  ·obtain ⟨e,n,ne,nf,d⟩:=I.pin p hp;refine ⟨(hs.2 p.1 ?_).trans e,n,ne,nf,d⟩;intro q;rw [q,hoc] at e;have q':oc=p.2:=J3 e;exact d w' (by rw [<- q'];exact hocd)
theorem qOW {M:Model} {A:Around} {E:Value->Shared->Prop} {i:Nat} {x:Str} {v:V} {u:Value} {Q:Unit->Shared->Prop} (I:Inv X Ab σ H s) (hN:X.N.Nodup) (hi:X.N[i]?=some x) (hx:Loc X.env.scope x) (r:RelV v u)
  (h:∀ s',Inv X Ab (σ.set i (some v)) H s'->Q () s') (hf:X.fn x=true\/X.env.scope.names.lookup x=some .local:=by first | exact .inl rfl | exact .inr rfl | assumption):wpAny M A (storeName X.env x u) Q E s:=
 qLX I hN hi hx r (fun s' I' _=>h s' I') hf
theorem Inv.call' {s':Shared} {ch:List Addr} (I:Inv X Ab σ H s) (ho:s'.os=s.os) (u:Un (frs X.stack) ch H H' s.heap s'.heap) (hok:HOk X.prog X.w H' s'.heap) (hg:C10 s'.gens)
  (hch:∀ b ∈ ch,(b ∈ X.ex\/X.s₀.heap.objs.size<=b)/\b ≠ X.env.locals/\(∀ x c,X.env.cells.lookup x=some c->c ≠ b)/\∀ p ∈ X.pn++Ab,p.1 ≠ b):Inv X Ab σ H' s':=by
 obtain ⟨h',g',d',t',o'⟩:=s';have e:o'=s.os:=ho;subst e;exact I.call (g':=g') (t':=t') (d':=d') u hok hg hch
end
abbrev XK:=Value->Option Addr->Hp->Prop
abbrev St:=List (Option V)
abbrev VK:=V->Hp->Prop
abbrev TE:=St->Hp->VK->Prop
abbrev TT:=St->Hp->(Bool->Hp->Prop)->Prop
abbrev TA:=St->Hp->(List V->Hp->Prop)->Prop
structure Ends where
 nx:St->Hp->Prop
 rt:VK
 bk:St->Hp->Prop:=fun _ _=>False
 ct:St->Hp->Prop:=fun _ _=>False
abbrev TS:=Ends->St->Hp->Prop
def EP (X:Cx) (Ab:List (Addr × Obj)) (σ:St) (Q:VK) (u:Value) (s':Shared):Prop:=∃ v H',Inv X Ab σ H' s'/\RelV v u/\Q v H'
def TP (X:Cx) (Ab:List (Addr × Obj)) (σ:St) (Q:Bool->Hp->Prop) (b:Bool) (s':Shared):Prop:=∃ H',Inv X Ab σ H' s'/\Q b H'
def AP (X:Cx) (Ab:List (Addr × Obj)) (σ:St) (Q:List V->Hp->Prop) (us:List Value) (s':Shared):Prop:=∃ vs H',Inv X Ab σ H' s'/\Vals vs us/\Q vs H'
def SP (X:Cx) (Ab:List (Addr × Obj)) (D:Ends) (f:Flow) (s':Shared):Prop:=
 match f with
 | .next=>∃ σ' H',Inv X Ab σ' H' s'/\D.nx σ' H'
 | .brk=>∃ σ' H',Inv X Ab σ' H' s'/\D.bk σ' H'
 | .cont=>∃ σ' H',Inv X Ab σ' H' s'/\D.ct σ' H'
 | .ret u=>∃ v σ' H',Inv X Ab σ' H' s'/\RelV v u/\D.rt v H'
def PE (X:Cx) (e:Expr) (t:TE):Prop:=
 ∀ (Ab:List (Addr × Obj)) (s:Shared) (σ:St) (H:Hp) (Q:VK),Inv X Ab σ H s->t σ H Q->wpAny (model X.prog X.w) X.A (eval e X.env) (EP X Ab σ Q) X.xe s
def PT (X:Cx) (e:Expr) (t:TT):Prop:=
 ∀ (Ab:List (Addr × Obj)) (s:Shared) (σ:St) (H:Hp) (Q:Bool->Hp->Prop),Inv X Ab σ H s->t σ H Q->wpAny (model X.prog X.w) X.A (isTrue e X.env (eval e X.env)) (TP X Ab σ Q) X.xe s
def PW (X:Cx) (e:Expr) (t:TT):Prop:=
 ∀ (whole:Sem Value) (Ab:List (Addr × Obj)) (s:Shared) (σ:St) (H:Hp) (Q:Bool->Hp->Prop),Inv X Ab σ H s->t σ H Q->wpAny (model X.prog X.w) X.A (isTrue e X.env whole) (TP X Ab σ Q) X.xe s
theorem PW.pt {X:Cx} {e:Expr} {t:TT} (h:PW X e t):PT X e t:=h _
def PA (X:Cx) (es:List Expr) (t:TA):Prop:=
 ∀ (pos:Pos) (Ab:List (Addr × Obj)) (s:Shared) (σ:St) (H:Hp) (Q:List V->Hp->Prop),Inv X Ab σ H s->t σ H Q->wpAny (model X.prog X.w) X.A (spliced (backTo pos (B68 es X.env))) (AP X Ab σ Q) X.xe s
def PS (X:Cx) (st:Stmt) (t:TS):Prop:=
 ∀ (Ab:List (Addr × Obj)) (s:Shared) (σ:St) (H:Hp) (D:Ends),Inv X Ab σ H s->t D σ H->wpAny (model X.prog X.w) X.A (exec st X.env) (SP X Ab D) X.xe s
def PSs (X:Cx) (st:List Stmt) (t:TS):Prop:=
 ∀ (Ab:List (Addr × Obj)) (s:Shared) (σ:St) (H:Hp) (D:Ends),Inv X Ab σ H s->t D σ H->wpAny (model X.prog X.w) X.A (execs st X.env) (SP X Ab D) X.xe s
theorem thn {α:Type} {t:Sem α} {Q Q':α->Shared->Prop} {M:Model} {A:Around} {E:Value->Shared->Prop} {s:Shared} (h:wpAny M A t Q E s) (hQ:∀ a s,Q a s->Q' a s):wpAny M A t Q' E s:=B71 h hQ fun _ _ x=>x
section
variable {X:Cx}
theorem bin {a b:Expr} {ta tb:TE} (ha:PE X a ta) (hb:PE X b tb) {Ab:List (Addr × Obj)} {s:Shared} {σ:St} {H:Hp} {R:V->V->Hp->Prop} (I:Inv X Ab σ H s) (h:ta σ H fun x H1=>tb σ H1 fun y H2=>R x y H2)
  {α:Type} {Q:α->Shared->Prop} {f:Value->Value->Sem α}
  (hf:∀ v u s2 x y H2,Inv X Ab σ H2 s2->RelV x v->RelV y u->R x y H2->wpAny (model X.prog X.w) X.A (f v u) Q X.xe s2) :
  wpAny (model X.prog X.w) X.A (eval a X.env) (fun v s₁=>wpAny (model X.prog X.w) X.A (eval b X.env) (fun u s₂=>wpAny (model X.prog X.w) X.A (f v u) Q X.xe s₂) X.xe s₁) X.xe s:=by
 refine thn (ha Ab s σ H _ I h) fun v s1 ⟨x,H1,I1,r1,q1⟩=>?_;refine thn (hb Ab s1 σ H1 _ I1 q1) fun u s2 ⟨y,H2,I2,r2,q2⟩=>?_;exact hf v u s2 x y H2 I2 r1 r2 q2
def tVar (i:Nat):TE:=fun σ H Q=>∃ v,σ[i]?=some (some v)/\Q v H
def tC (v:V):TE:=fun _ H Q=>Q v H
theorem qaD {i:Nat} {x:Str} {pos:Pos} (hN:X.N[i]?=some x) (hv:Vis X.env.scope x) (hd:(x == ("__debug__" : Str))=false:=by decide) (hcd:(x == ("__classdict__" : Str))=false:=by decide):PE X (.Name x pos) (tVar i):=by
 intro Ab s σ H Q I h;obtain ⟨v,e,h⟩:=h;obtain ⟨m,hn,hl⟩:=I.loc;obtain ⟨u,r,l⟩:=hl i x v hN e hv;have fin:EP X Ab σ Q u s:=⟨v,H,I,r,h⟩;rcases l with ⟨hk,hm⟩ | ⟨hk,c,hc,hcell⟩
 ·exact wpAny_Name (wpAny_loadName_local I.ok.kind hk hn hm fin) hd
 ·rcases hk with hk | hk
  ·exact wpAny_Name (wpAny_loadName_cell I.ok.kind hk hc hcell fin) hd
  ·exact wpAny_Name (wpAny_loadName_free I.ok.kind hk hc hcell fin hcd) hd
theorem qA6 {i j pos}:PE X (.Constant (.int i) j pos) (tC (.int i)):=fun _ _ _ H _ I h=>wpAny_Constant_int ⟨.int i,H,I.tok _,⟨_,rfl⟩,h⟩
theorem qGD {b j pos}:PE X (.Constant (.bool b) j pos) (tC (.bl b)):=fun _ _ _ H _ I h=>Constant_bool ⟨.bl b,H,I,rfl,h⟩
theorem qaE {j pos}:PE X (.Constant .none j pos) (tC .non):=fun _ _ _ H _ I h=>Constant_none ⟨.non,H,I,rfl,h⟩
theorem qIV {x j pos}:PE X (.Constant (.str x) j pos) (tC (.str x)):=fun _ _ _ H _ I h=>Calls.Constant_str ⟨.str x,H,I.tok _,⟨_,rfl⟩,h⟩
def Gl (X:Cx) (x:Str):Prop:=X.env.kindOf x=some .globalImplicit
theorem qSY {E:Value->Shared->Prop} {Ab:List (Addr × Obj)} {s:Shared} {σ:St} {H:Hp} {x:Str} {u:Value} {pos:Pos} {Q:Value->Shared->Prop} (I:Inv X Ab σ H s) (hg:Gl X x) (hm:X.mg x=some u) (h:Q u s)
  (hd:(x == ("__debug__" : Str))=false:=by decide):wpAny (model X.prog X.w) X.A (eval (.Name x pos) X.env) Q E s:=
 Calls.Name_function_global I.ok.kind hg (Calls.loadGlobal_global (by rw [I.ok.glob];exact I.mod.glob.keeps I.bk) hm h) hd
theorem qHN {E:Value->Shared->Prop} {Ab:List (Addr × Obj)} {s:Shared} {σ:St} {H:Hp} {x:Str} {u:Value} {pos:Pos} {Q:Value->Shared->Prop} (I:Inv X Ab σ H s) (hg:Gl X x) (hm:X.mg x=none) (hv:B67 x=some u) (h:Q u s)
  (hn:x ≠ "__name__":=by decide) (hd:(x == ("__debug__" : Str))=false:=by decide):wpAny (model X.prog X.w) X.A (eval (.Name x pos) X.env) Q E s:=by
 obtain ⟨mb,h1,h2⟩:=I.mod.blt;exact Calls.Name_function_global I.ok.kind hg (Calls.loadGlobal_builtin (by rw [I.ok.glob];exact I.mod.glob.keeps I.bk) hm (by rw [I.ok.blt];exact h1.keeps I.bk) ((h2 x hn).trans hv) h) hd
theorem qCE {x:Str} {v:V} {u:Value} {pos:Pos} (hg:Gl X x) (hm:X.mg x=some u) (r:RelV v u) (hd:(x == ("__debug__" : Str))=false:=by decide):PE X (.Name x pos) (tC v):=
 fun _ _ _ H _ I h=>qSY I hg hm ⟨v,H,I,r,h⟩ hd
theorem qBZ {x:Str} {v:V} {u:Value} {pos:Pos} (hg:Gl X x) (hm:X.mg x=none) (hv:B67 x=some u) (r:RelV v u) (hn:x ≠ "__name__":=by decide) (hd:(x == ("__debug__" : Str))=false:=by decide):PE X (.Name x pos) (tC v):=
 fun _ _ _ H _ I h=>qHN I hg hm hv ⟨v,H,I,r,h⟩ hn hd
variable {a b:Expr} {ta tb:TE} {pos:Pos}
def PC (X:Cx) (op:CmpOp) (a b:Expr) (t:TE):Prop:=
 ∀ (Ab:List (Addr × Obj)) (s:Shared) (σ:St) (H:Hp) (Q:VK),Inv X Ab σ H s->t σ H Q->
  wpAny (model X.prog X.w) X.A (eval a X.env) (fun v s₁=>wpAny (model X.prog X.w) X.A (eval b X.env) (fun u s₂=>wpAny (model X.prog X.w) X.A (B75 op v u) (EP X Ab σ Q) X.xe s₂) X.xe s₁) X.xe s
theorem qPP (b:Expr) {op:CmpOp} (h:op ≠ .In) (h2:op ≠ .NotIn):B92 op b=false:=by
 have e1:(op == CmpOp.In)=false:=by cases op <;> first | rfl | exact absurd rfl h
 have e2:(op == CmpOp.NotIn)=false:=by cases op <;> first | rfl | exact absurd rfl h2
 cases b <;> simp [B92,e1,e2]
def tIsN (ta:TE):TE:=fun σ H Q=>ta σ H fun x H1=>Q (.bl (decide (x=.non))) H1
theorem RelV.none_iff {x:V} {v:Value} (r:RelV x v):(v == V5)=decide (x=.non):=by
 cases x with
 | non=>cases r;rfl
 | bl _=>cases r;rfl
 | int _=>obtain ⟨t,rfl⟩:=r;rfl
 | str _=>obtain ⟨t,rfl⟩:=r;rfl
 | byt _=>obtain ⟨t,rfl⟩:=r;rfl
 | flt _=>obtain ⟨t,rfl⟩:=r;rfl
 | ref _=>cases r;rfl
 | ty _=>cases r;rfl
theorem qX0 {j pos'} (ha:PE X a ta):PC X .Is a (.Constant .none j pos') (tIsN ta):=by
 intro Ab s σ H Q I h;refine thn (ha Ab s σ H _ I h) fun v s1 ⟨x,H1,I1,r1,q1⟩=>?_;exact Constant_none (is_none_gen ⟨.bl _,H1,I1,by rw [r1.none_iff];rfl,q1⟩)
def tB (t:TE):TT:=fun σ H Q=>t σ H fun x H1=>∃ c,x=.bl c/\Q c H1
theorem qaF {op:CmpOp} {t:TE} (h:PC X op a b t) (h1:B92 op b=false:=by first | exact qPP _ (by decide) (by decide) | rfl):PE X (.Compare a [op] [b] pos) t:=fun Ab s σ H Q I hw=>wpAny_Compare1 (h Ab s σ H Q I hw) h1
theorem qK1 {op:CmpOp} {t:TE} (h:PC X op a b t) (h1:B92 op b=false:=by first | exact qPP _ (by decide) (by decide) | rfl):PT X (.Compare a [op] [b] pos) (tB t):=by
 intro Ab s σ H Q I hw;refine wpAny_isTrue_Compare1 (thn (h Ab s σ H _ I hw) fun v s1 h1=>thn h1 fun u s2 h2=>thn h2 fun c s3 ⟨x,H1,I1,r1,q1⟩=>?_) h1;obtain ⟨d,rfl,q⟩:=q1;cases r1;exact B78 ⟨H1,I1,q⟩
theorem qDL {e:Expr} {t:TE} (h:PE X e t) (he:∀ whole,isTrue e X.env whole=(do let v <- whole;standAt e.pos;holding [v] (truthy v)):=by intro _;rfl):PT X e (tB t):=by
 intro Ab s σ H Q I hw;refine isTrue_plain (thn (h Ab s σ H _ I hw) fun v s1 ⟨x,H1,I1,r1,q1⟩=>?_) (he _);obtain ⟨d,rfl,q⟩:=q1;cases r1;exact B78 ⟨H1,I1,q⟩
variable {tA tB':TT} {rest:List Expr}
def tAnd (t u:TT):TT:=fun σ H Q=>t σ H fun c H1=>if c=true then u σ H1 Q else Q false H1
def tOr (t u:TT):TT:=fun σ H Q=>t σ H fun c H1=>if c=true then Q true H1 else u σ H1 Q
def tNot (t:TT):TT:=fun σ H Q=>t σ H fun c H1=>Q (!c) H1
theorem qNR (ha:PT X a tA):PW X (.BoolOp .And [a] pos) tA:=by
 intro wh Ab s σ H Q I h;refine isTrue_and (thn (ha Ab s σ H Q I h) fun c s1 e=>?_);cases c with
 | true=>exact isTrue_and_nil e
 | false=>exact e
theorem qIU (ha:PT X a tA):PW X (.BoolOp .Or [a] pos) tA:=by
 intro wh Ab s σ H Q I h;refine isTrue_or (thn (ha Ab s σ H Q I h) fun c s1 e=>?_);cases c with
 | false=>exact isTrue_or_nil e
 | true=>exact e
theorem qPB (ha:PT X a tA) (hb:PW X (.BoolOp .And (b::rest) pos) tB'):PW X (.BoolOp .And (a::b::rest) pos) (tAnd tA tB'):=by
 intro wh Ab s σ H Q I h;refine isTrue_and (thn (ha Ab s σ H _ I h) fun c s1 ⟨H1,I1,q1⟩=>?_);cases c with
 | true=>exact hb wh Ab s1 σ H1 Q I1 q1
 | false=>exact ⟨H1,I1,q1⟩
theorem qM8 (ha:PT X a tA) (hb:PW X (.BoolOp .Or (b::rest) pos) tB'):PW X (.BoolOp .Or (a::b::rest) pos) (tOr tA tB'):=by
 intro wh Ab s σ H Q I h;refine isTrue_or (thn (ha Ab s σ H _ I h) fun c s1 ⟨H1,I1,q1⟩=>?_);cases c with
 | true=>exact ⟨H1,I1,q1⟩
 | false=>exact hb wh Ab s1 σ H1 Q I1 q1
theorem qFM (ha:PT X a tA):PT X (.UnaryOp .Not a pos) (tNot tA):=by
 intro Ab s σ H Q I h;exact isTrue_not (ha Ab s σ H (fun c H1=>Q (!c) H1) I h)
def qc0 (ta tb:TE):TE:=fun σ H Q=>ta σ H fun x H1=>∃ c,x=.bl c/\if c=true then tb σ H1 Q else Q (.bl false) H1
def qbS (ta:TE):TE:=fun σ H Q=>ta σ H fun x H1=>∃ c,x=.bl c/\Q (.bl (!c)) H1
theorem qPF {op} {t:TE} (h:PE X a t):PE X (.BoolOp op [a] pos) t:=fun Ab s σ H Q I hw=>BoolOp_one (h Ab s σ H Q I hw)
theorem qK2 (ha:PE X a ta) (hb:PE X (.BoolOp .And (b::rest) pos) tb):PE X (.BoolOp .And (a::b::rest) pos) (qc0 ta tb):=by
 intro Ab s σ H Q I h;refine BoolOp_and (thn (ha Ab s σ H _ I h) fun v s1 ⟨x,H1,I1,r1,q1⟩=>?_);obtain ⟨c,rfl,q1⟩:=q1;cases r1;refine B78 ?_;cases c with
 | true=>exact hb Ab s1 σ H1 Q I1 q1
 | false=>exact ⟨.bl false,H1,I1,rfl,q1⟩
theorem qWZ (ha:PE X a ta):PE X (.UnaryOp .Not a pos) (qbS ta):=by
 intro Ab s σ H Q I h;refine UnaryOp_ (thn (ha Ab s σ H _ I h) fun v s1 ⟨x,H1,I1,r1,q1⟩=>?_);obtain ⟨c,rfl,q1⟩:=q1;cases r1;exact not_of (B78 ⟨.bl (!c),H1,I1,rfl,q1⟩)
def tIf (t:TT) (ta tb:TE):TE:=fun σ H Q=>t σ H fun c H1=>if c=true then ta σ H1 Q else tb σ H1 Q
theorem qIB {c:Expr} (hc:PT X c tA) (ha:PE X a ta) (hb:PE X b tb):PE X (.IfExp c a b pos) (tIf tA ta tb):=by
 intro Ab s σ H Q I h;refine wpAny_IfExp (thn (hc Ab s σ H _ I h) fun d s1 ⟨H1,I1,q1⟩=>?_);cases d with
 | true=>exact ha Ab s1 σ H1 Q I1 q1
 | false=>exact hb Ab s1 σ H1 Q I1 q1
end
def SqL (K:PySem.W.Frag) (H:Hp) (a:Addr) (xs:List V):Prop:=
 Rd H a (.lst xs)\/
  ∃ (o:Obj) (its:Array Value) (n:Nat),K.lookup a=some o/\o.cls=.type "list"/\o.dict=none/\o.data=.seq its n/\its.size<=B59/\Vals xs its.toList
def SqT (K:PySem.W.Frag) (H:Hp) (a:Addr) (xs:List V):Prop:=
 Rd H a (.tup xs)\/
  ∃ (o:Obj) (its:Array Value) (n:Nat),K.lookup a=some o/\o.cls=.type "tuple"/\o.data=.seq its n/\its.size<=B59/\Vals xs its.toList
def absV:Value->Option V
 | .none=>some .non
 | .bool b=>some (.bl b)
 | .int i _=>some (.int i)
 | .str x _=>some (.str x)
 | .bytes b _=>some (.byt b)
 | .float b _=>some (.flt b)
 | .ref a=>some (.ref a)
 | .type n=>some (.ty n)
 | _=>none
theorem RelV.abs {x:V} {u:Value} (r:RelV x u):absV u=some x:=by
 cases x with
 | non=>cases r;rfl
 | bl _=>cases r;rfl
 | int _=>obtain ⟨t,rfl⟩:=r;rfl
 | str _=>obtain ⟨t,rfl⟩:=r;rfl
 | byt _=>obtain ⟨t,rfl⟩:=r;rfl
 | flt _=>obtain ⟨t,rfl⟩:=r;rfl
 | ref _=>cases r;rfl
 | ty _=>cases r;rfl
theorem RelV.inj {x y:V} {u:Value} (r:RelV x u) (q:RelV y u):x=y:=J3 (r.abs.symm.trans q.abs)
theorem Vals.inj:∀ {xs ys:List V} {us:List Value},Vals xs us->Vals ys us->xs=ys
 | _,_,_,.nil,.nil=>rfl
 | _,_,_,.cons r t,.cons r' t'=>by rw [r.inj r',Vals.inj t t']
section
variable {X:Cx} {Ab:List (Addr × Obj)} {σ:St} {H:Hp} {s:Shared} {a:Addr} {xs ys:List V}
theorem SqL.of {K:PySem.W.Frag} (h:H a=some (.lst xs)):SqL K H a xs:=.inl (.inl h)
theorem SqT.of {K:PySem.W.Frag} (h:H a=some (.tup xs)):SqT K H a xs:=.inl (.inl h)
theorem Inv.list (I:Inv X Ab σ H s) (h:SqL X.K H a xs):∃ its:List Value,Vals xs its/\PlainL s.heap a its.toArray/\xs.length<=B59:=by
 rcases h with h | ⟨o,its,n,hk,hc,hd,hs,hz,r⟩
 ·obtain ⟨z,its,n,r,e⟩:=h.ok I.hok;exact ⟨its,r,⟨_,n,e,rfl,rfl,rfl⟩,z⟩
 ·refine ⟨its.toList,r,⟨o,n,I.kIn a o hk,hc,hd,by simpa using hs⟩,?_⟩
  have e:=r.length;simp only [C3] at e
  lia
theorem Inv.tuple (I:Inv X Ab σ H s) (h:SqT X.K H a xs):∃ its:List Value,Vals xs its/\IsTup s.heap a its.toArray/\xs.length<=B59:=by
 rcases h with h | ⟨o,its,n,hk,hc,hs,hz,r⟩
 ·obtain ⟨z,its,r,p⟩:=h.ok I.hok;exact ⟨its,r,p,z⟩
 ·refine ⟨its.toList,r,⟨o,I.kIn a o hk,hc,n,by simpa using hs⟩,?_⟩
  have e:=r.length;simp only [C3] at e
  lia
theorem Inv.list_inj (I:Inv X Ab σ H s) (h:SqL X.K H a xs) (h':SqL X.K H a ys):xs=ys:=by
 obtain ⟨its,r,⟨o,n,e,_,_,d⟩,_⟩:=I.list h;obtain ⟨its',r',⟨o',n',e',_,_,d'⟩,_⟩:=I.list h';rw [e] at e';cases e';rw [d] at d'
 injection d' with d1 _
 have:its=its':=by simpa using congrArg B03 d1
 subst this;exact r.inj r'
theorem Inv.tuple_inj (I:Inv X Ab σ H s) (h:SqT X.K H a xs) (h':SqT X.K H a ys):xs=ys:=by
 obtain ⟨its,r,⟨o,e,_,n,d⟩,_⟩:=I.tuple h;obtain ⟨its',r',⟨o',e',_,n',d'⟩,_⟩:=I.tuple h';rw [e] at e';cases e';rw [d] at d'
 injection d' with d1 _
 have:its=its':=by simpa using congrArg B03 d1
 subst this;exact r.inj r'
end
abbrev Cx.wish (X:Cx) (E:Value->Shared->Prop):Cx:={ X with xe:=E }
abbrev Cx.nox (X:Cx):Cx:=X.wish fun _ _=>False
theorem Cx.Ok.wish {X:Cx} (ok:X.Ok) (E:Value->Shared->Prop):(X.wish E).Ok:=
 ⟨ok.mod,ok.kind,ok.glob,ok.blt,ok.above,ok.inj,ok.has,ok.cab,ok.hd,ok.frames,ok.stk,ok.exf,ok.bs,ok.bsz,ok.noex,ok.exfs,ok.funs,ok.frf⟩
theorem Cx.Ok.unwish {X:Cx} {E:Value->Shared->Prop} (ok:(X.wish E).Ok):X.Ok:=
 ⟨ok.mod,ok.kind,ok.glob,ok.blt,ok.above,ok.inj,ok.has,ok.cab,ok.hd,ok.frames,ok.stk,ok.exf,ok.bs,ok.bsz,ok.noex,ok.exfs,ok.funs,ok.frf⟩
section
variable {X:Cx} {Ab:List (Addr × Obj)} {σ:St} {H:Hp} {s:Shared} {E:Value->Shared->Prop}
theorem Inv.wish (I:Inv X Ab σ H s) (E:Value->Shared->Prop):Inv (X.wish E) Ab σ H s:=⟨I.ok.wish E,I.os,I.bare,I.base,I.loc,I.cell,I.free,I.freeC,I.pin,I.hok,I.len⟩
theorem Inv.unwish (I:Inv (X.wish E) Ab σ H s):Inv X Ab σ H s:=⟨I.ok.unwish,I.os,I.bare,I.base,I.loc,I.cell,I.free,I.freeC,I.pin,I.hok,I.len⟩
theorem SP.unwish {D:Ends} {f:Flow} {s':Shared} (h:SP (X.wish E) Ab D f s'):SP X Ab D f s':=by
 cases f with
 | next=>obtain ⟨σ',H',I,q⟩:=h;exact ⟨σ',H',I.unwish,q⟩
 | brk=>obtain ⟨σ',H',I,q⟩:=h;exact ⟨σ',H',I.unwish,q⟩
 | cont=>obtain ⟨σ',H',I,q⟩:=h;exact ⟨σ',H',I.unwish,q⟩
 | ret u=>obtain ⟨v,σ',H',I,r,q⟩:=h;exact ⟨v,σ',H',I.unwish,r,q⟩
theorem PSs.nox {st:List Stmt} {t:TS} (h:PSs X.nox st t):PSs X st t:=fun Ab s σ H D I hw=>
 B71 (h Ab s σ H D (I.wish _) hw) (fun _ _ q=>q.unwish) fun _ _ z=>Z3 z
end
section
variable {X:Cx} {st:Stmt} {rest:List Stmt} {t u:TS} {e:Expr} {te:TE} {pos:Pos}
def qbT:TS:=fun D σ H=>D.nx σ H
def tSeq (t u:TS):TS:=fun D σ H=>t { D with nx:=u D } σ H
theorem qAP:PSs X [] qbT:=fun _ _ σ H _ I h=>C21 ⟨σ,H,I,h⟩
theorem qA4 (h1:PS X st t) (h2:PSs X rest u):PSs X (st::rest) (tSeq t u):=by
 intro Ab s σ H D I h;refine wpAny_execs_cons (thn (h1 Ab s σ H { D with nx:=u D } I h) fun f s1 q=>?_);cases f with
 | next=>
  obtain ⟨σ',H',I',q⟩:=q;exact h2 Ab s1 σ' H' D I' q
 | ret v=>exact q
 | brk=>exact q
 | cont=>exact q
theorem qA8 (h1:PS X st t):PSs X [st] t:=by
 intro Ab s σ H D I h;refine wpAny_execs_cons (thn (h1 Ab s σ H D I h) fun f s1 q=>?_);cases f with
 | next=>exact C21 q
 | ret v=>exact q
 | brk=>exact q
 | cont=>exact q
def qbY:TS:=fun D σ H=>D.ct σ H
theorem qNT:PS X (.Continue pos) qbY:=fun _ _ σ H _ I h=>wpAny_Continue ⟨σ,H,I,h⟩
theorem Inv.quiet {Ab:List (Addr × Obj)} {σ:St} {H:Hp} {s:Shared} (I:Inv X Ab σ H s):interactive X.env=false:=by simp [interactive,I.ok.kind]
def qbV (te:TE):TS:=fun D σ H=>te σ H fun _ H1=>D.nx σ H1
theorem qB9 (he:PE X e te) (hs:swapsWith e none pos.line X.env=pure false:=by rfl):PS X (.Expr e pos) (qbV te):=by
 intro Ab s σ H D I h;exact wpAny_Expr_any (thn (he Ab s σ H _ I h) fun v s1 ⟨x,H1,I1,r1,q1⟩=>⟨σ,H1,I1,q1⟩) I.quiet hs
def tRet (te:TE):TS:=fun D σ H=>te σ H D.rt
theorem qAO (he:PE X e te):PS X (.Return (some e) pos) (tRet te):=by
 intro Ab s σ H D I h;exact wpAny_Return_some (thn (he Ab s σ H _ I h) fun v s1 ⟨x,H1,I1,r1,q1⟩=>⟨x,σ,H1,I1,r1,q1⟩)
def tIfS (c:TT) (t u:TS):TS:=fun D σ H=>c σ H fun b H1=>if b=true then t D σ H1 else u D σ H1
theorem qBP {c:Expr} {a b:List Stmt} {tc:TT} (hc:PT X c tc) (ha:PSs X a t) (hb:PSs X b u):PS X (.If c a b pos) (tIfS tc t u):=by
 intro Ab s σ H D I h;refine wpAny_If (thn (hc Ab s σ H _ I h) fun d s1 ⟨H1,I1,q1⟩=>?_);cases d with
 | true=>exact ha Ab s1 σ H1 D I1 q1
 | false=>exact hb Ab s1 σ H1 D I1 q1
end
abbrev TG:=V->St->Hp->(St->Hp->Prop)->Prop
abbrev TGs:=List V->St->Hp->(St->Hp->Prop)->Prop
def PG (X:Cx) (target:Expr) (t:TG):Prop:=
 ∀ (Ab:List (Addr × Obj)) (s:Shared) (σ:St) (H:Hp) (v:V) (u:Value) (Q:St->Hp->Prop),Inv X Ab σ H s->RelV v u->t v σ H Q->
  wpAny (model X.prog X.w) X.A (assign target X.env u) (fun _ s'=>∃ σ' H',Inv X Ab σ' H' s'/\Q σ' H') X.xe s
def PGs (X:Cx) (ts:List Expr) (t:TGs):Prop:=
 ∀ (Ab:List (Addr × Obj)) (s:Shared) (σ:St) (H:Hp) (vs:List V) (us:List Value) (Q:St->Hp->Prop),Inv X Ab σ H s->Vals vs us->t vs σ H Q->
  wpAny (model X.prog X.w) X.A (assignInOrder ((C01 ts X.env).map (·.2)) us) (fun _ s'=>∃ σ' H',Inv X Ab σ' H' s'/\Q σ' H') X.xe s
abbrev TSet:=V->V->V->Hp->(Hp->Prop)->Prop
def PSet (X:Cx) (t:TSet):Prop:=
 ∀ (Ab:List (Addr × Obj)) (s:Shared) (σ:St) (H:Hp) (o i v:V) (ov iv u:Value) (Q:Hp->Prop),Inv X Ab σ H s->RelV o ov->RelV i iv->RelV v u->t o i v H Q->
  wpAny (model X.prog X.w) X.A (setItem ov iv u) (fun _ s'=>∃ H',Inv X Ab σ H' s'/\Q H') X.xe s
section
variable {X:Cx} {pos:Pos}
def qW3 (i:Nat):TG:=fun v σ H Q=>Q (σ.set i (some v)) H
theorem qAG {i:Nat} {x:Str} (hN:X.N.Nodup) (hi:X.N[i]?=some x) (hx:Loc X.env.scope x) (hf:X.fn x=true\/X.env.scope.names.lookup x=some .local:=by first | exact .inl rfl | exact .inr rfl | assumption):PG X (.Name x pos) (qW3 i):=by
 intro Ab s σ H v u Q I r h;exact wpAny_assign_Name (qOW I hN hi hx r (fun s' I'=>⟨_,H,I',h⟩) hf)
def gNil:TGs:=fun vs σ H Q=>vs=[]/\Q σ H
def qcG (t:TG) (u:TGs):TGs:=fun vs σ H Q=>∃ v r,vs=v::r/\t v σ H fun σ' H'=>u r σ' H' Q
theorem qH5:PGs X [] gNil:=by
 intro Ab s σ H vs us Q I r h;obtain ⟨e,h⟩:=h;subst e;cases r;exact assignInOrder_nil ⟨σ,H,I,h⟩
theorem qBR {e:Expr} {es:List Expr} {t:TG} {u:TGs} (h1:PG X e t) (h2:PGs X es u)
  (hs:(C01 (e::es) X.env).map (·.2)=assign e X.env::(C01 es X.env).map (·.2):=by rfl):PGs X (e::es) (qcG t u):=by
 intro Ab s σ H vs us Q I r h;obtain ⟨v,vr,e1,h⟩:=h;subst e1;cases r with
 | cons r rr=>
  rw [hs];refine assignInOrder_cons (thn (h1 Ab s σ H _ _ _ I r h) fun _ s1 ⟨σ1,H1,I1,q1⟩=>?_);exact h2 Ab s1 σ1 H1 _ _ Q I1 rr q1
def gTup (K:PySem.W.Frag) (n:Nat) (t:TGs):TG:=fun v σ H Q=>∃ a xs,v=.ref a/\SqT K H a xs/\xs.length=n/\t xs σ H Q
theorem qPE {es:List Expr} {k:Nat} {t:TGs} {n:Nat} (hc:X.calm=true) (h:PGs X es t)
  (hn:(C01 es X.env).length=n:=by rfl) (hst:(C01 es X.env).findIdx? (·.1)=none:=by rfl):PG X (.Tuple es k pos) (gTup X.K n t):=by
 intro Ab s σ H v u Q I r hw;obtain ⟨a,xs,e1,hq,hl,hw⟩:=hw;subst e1;cases r;obtain ⟨its,rv,ht,hz⟩:=I.tuple hq;refine assign_Tuple_tuple (I.ok.hd hc) ht (by simp [hn,<- hl,rv.length]) hst fun h' hx=>?_
 have I1:Inv X Ab σ H { s with heap:=h' }:=I.kept (t':=s.toks) fun b o e=>hx b o (E3 (C1 e)) e;exact h Ab _ σ H xs _ Q I1 (by simpa using rv) hw
def gSub (to ti:TE) (t:TSet):TG:=fun v σ H Q=>to σ H fun o H1=>ti σ H1 fun i H2=>t o i v H2 fun H3=>Q σ H3
theorem qaC {o i:Expr} {to ti:TE} {t:TSet} (ho:PE X o to) (hi:PE X i ti) (hs:PSet X t)
  (ha:∀ v,assign (.Subscript o i pos) X.env v=(do
   let ov <- holding [v] (eval o X.env)
   let iv <- holding [v,ov] (eval i X.env)
   standAt pos
   holding [v,ov,iv] (setItem ov iv v)
   release [v,ov,iv] []):=by intro _;rfl):PG X (.Subscript o i pos) (gSub to ti t):=by
 intro Ab s σ H v u Q I r h;rw [ha];refine B57 (B76 (thn (ho Ab s σ H _ I h) fun ov s1 ⟨x,H1,I1,r1,q1⟩=>?_));refine B57 (B76 (thn (hi Ab s1 σ H1 _ I1 q1) fun iv s2 ⟨y,H2,I2,r2,q2⟩=>?_));refine B57 (wpAny_standAt (B57 (B76 (thn (hs Ab s2 σ H2 x y v ov iv u _ I2 r1 r2 r q2) fun _ s3 ⟨H3,I3,q3⟩=>?_))));exact wpAny_release ⟨σ,H3,I3,q3⟩
def tAsg (te:TE) (g:TG):TS:=fun D σ H=>te σ H fun x H1=>g x σ H1 D.nx
theorem qaA {tg e:Expr} {te:TE} {g:TG} (he:PE X e te) (hg:PG X tg g) (hs:swapsWithSole [tg] e pos.line X.env=pure false:=by rfl) (hw:swappedStores [tg] e X.env=pure none:=by rfl)
  (h1:(C01 [tg] X.env).map (·.2)=[assign tg X.env]:=by rfl):PS X (.Assign [tg] e pos) (tAsg te g):=by
 intro Ab s σ H D I h;refine wpAny_Assign_stores (thn (he Ab s σ H _ I h) fun v s1 ⟨x,H1,I1,r1,q1⟩=>?_) hs hw;rw [h1];exact thn (hg Ab s1 σ H1 x v _ I1 r1 q1) fun _ s2 q=>q
theorem qAF {i:Nat} {x:Str} {e:Expr} {te:TE} {pos':Pos} (hN:X.N.Nodup) (hi:X.N[i]?=some x) (hx:Loc X.env.scope x) (he:PE X e te) (hs:swapsWith e (some (.Name x pos')) pos.line X.env=pure false:=by rfl) (hf:X.fn x=true\/X.env.scope.names.lookup x=some .local:=by first | exact .inl rfl | exact .inr rfl | assumption) :
  PS X (.Assign [.Name x pos'] e pos) (tAsg te (qW3 i)):=by
 intro Ab s σ H D I h;refine wpAny_Assign_Name (thn (he Ab s σ H _ I h) fun v s1 ⟨y,H1,I1,r1,q1⟩=>?_) hs;exact qOW I1 hN hi hx r1 (fun s2 I2=>⟨_,H1,I2,q1⟩) hf
def qZR (c:TT) (tb:TS):TS:=fun D σ H=>∃ W:Nat->St->Hp->Prop,(∃ m,W m σ H)/\∀ m σ H,W m σ H->
 c σ H fun b H1=>if b=true then ∃ N:St->Hp->Prop,(∀ σ' H',N σ' H'->∃ m',m'<m/\W m' σ' H')/\tb { D with nx:=N,ct:=N,bk:=D.nx } σ H1 else D.nx σ H1
theorem qDY {c:Expr} {body:List Stmt} {tc:TT} {tb:TS} (hp:PassesOwn (model X.prog X.w) X.A X.env X.xe) (hc:PT X c tc) (hb:PSs X body tb):PS X (.While c body [] pos) (qZR tc tb):=by
 intro Ab s σ H D I h;obtain ⟨W,⟨m0,w0⟩,turn⟩:=h;refine wpAny_While (codeAny_whileLoop (fun n s'=>∃ σ' H',Inv X Ab σ' H' s'/\W n σ' H') ?_ m0 ⟨σ,H,I,w0⟩);rintro n s1 ⟨σ1,H1,I1,w1⟩;refine B90 hp (thn (hc Ab s1 σ1 H1 _ I1 (turn n σ1 H1 w1)) fun b s2 ⟨H2,I2,q2⟩=>?_);cases b with
 | true=>
  obtain ⟨N,hN,q2⟩:=q2;rw [if_pos rfl];refine B90 hp (thn (hb Ab s2 σ1 H2 _ I2 q2) fun f s3 q3=>?_);cases f with
  | next=>
   obtain ⟨σ3,H3,I3,n3⟩:=q3;obtain ⟨m',hm,w3⟩:=hN σ3 H3 n3;exact ⟨m',hm,σ3,H3,I3,w3⟩
  | cont=>
   obtain ⟨σ3,H3,I3,n3⟩:=q3;obtain ⟨m',hm,w3⟩:=hN σ3 H3 n3;exact ⟨m',hm,σ3,H3,I3,w3⟩
  | brk=>exact q3
  | ret v=>exact q3
 | false=>
  rw [if_neg B5];exact C21 ⟨σ1,H2,I2,q2⟩
end
structure It where
 go:Nat->Hp->Prop
 yld:Nat->Hp->V->Hp->Prop
 stop:Nat->Hp->Prop
def FpOk (X:Cx) (Ab:List (Addr × Obj)) (H:Hp) (b:Addr):Prop:=
 H b=none/\b ≠ X.env.locals/\b ∉ X.fs/\(b ∈ X.ex\/X.s₀.heap.objs.size<=b)/\(∀ x c,X.env.cells.lookup x=some c->c ≠ b)/\∀ p ∈ X.pn++Ab,p.1 ≠ b
theorem Inv.fpOk {X:Cx} {Ab:List (Addr × Obj)} {σ:St} {H H':Hp} {s:Shared} {b:Addr} (I:Inv X Ab σ H s) (hb:s.heap.objs.size<=b) (hn:H' b=none):FpOk X Ab H' b:=by
 refine ⟨hn,d0 (G2 I.lt hb),I.nofs hb,.inr (M5 I.sz hb),fun x c e z=>?_,fun p hp z=>?_⟩
 ·obtain ⟨v,q⟩:=I.cell x c e;exact absurd (G2 q.lt (by rw [z];exact hb)) (X1 _)
 ·exact absurd (G2 (C1 (I.pin p hp).1) (by rw [z];exact hb)) (X1 _)
structure Turn (P:B60) (w:World) (K:PySem.W.Frag) (tg:Expr) (J:It) (fp:List Addr) (it:Addr) (tn:Nat->Heap->Prop):Prop where
 mem:it ∈ fp
 obj:∀ i h,tn i h->∀ b ∈ fp,∃ o,h.get? b=some o/\∀ v,o.data ≠ .cell v
 keep:∀ i h h',tn i h->(∀ b ∈ fp,∀ o,h.get? b=some o->h'.get? b=some o)->tn i h'
 item:∀ (X:Cx),X.prog=P->X.w=w->X.K=K->X.calm=true->∀ (i:Nat) (Ab:List (Addr × Obj)) (s:Shared) (σ:St) (H:Hp) (E:Value->Shared->Prop),Inv X Ab σ H s->(∀ b ∈ fp,FpOk X Ab H b)->tn i s.heap->J.go i H->
  wpAny (model P w) X.A (pyNext (.ref it)) (fun r s1=>∃ u,r=some u/\
   wpAny (model P w) X.A (C22 tg (.ref it) u) (fun _ s2=>∃ x H',Inv X Ab σ H' s2/\RelV x u/\J.yld i H x H'/\tn (i+1) s2.heap/\∀ b ∈ fp,H' b=none) E s1) E s
 done:∀ (X:Cx),X.prog=P->X.w=w->X.K=K->X.calm=true->∀ (i:Nat) (Ab:List (Addr × Obj)) (s:Shared) (σ:St) (H:Hp) (E:Value->Shared->Prop),Inv X Ab σ H s->(∀ b ∈ fp,FpOk X Ab H b)->tn i s.heap->J.stop i H->
  wpAny (model P w) X.A (pyNext (.ref it)) (fun r s1=>r=none/\Inv X Ab σ H s1) E s
 self:∀ (A:Around) (i:Nat) (s:Shared) (Q:Value->Shared->Prop) (E:Value->Shared->Prop),tn i s.heap->Q (.ref it) s->wpAny (model P w) A (pyIter (.ref it)) Q E s
abbrev TI:=St->Hp->(It->Hp->Prop)->Prop
def PIE (X:Cx) (Ab:List (Addr × Obj)) (σ:St) (tg:Expr) (R:It->Hp->Prop) (itv:Value) (s2:Shared):Prop:=
 ∃ (it:Addr) (fp:List Addr) (tn:Nat->Heap->Prop) (J:It) (H':Hp),itv=.ref it/\Inv X Ab σ H' s2/\Turn X.prog X.w X.K tg J fp it tn/\tn 0 s2.heap/\(∀ b ∈ fp,FpOk X Ab H' b)/\R J H'
def PI (X:Cx) (tg iter:Expr) (wi:TI):Prop:=
 ∀ (Ab:List (Addr × Obj)) (s:Shared) (σ:St) (H:Hp) (R:It->Hp->Prop),Inv X Ab σ H s->wi σ H R->
  wpAny (model X.prog X.w) X.A (eval iter X.env) (fun v s1=>wpAny (model X.prog X.w) X.A (pyIter v) (PIE X Ab σ tg R) X.xe s1) X.xe s
theorem qW1 {M:Model} {A:Around} {E:Value->Shared->Prop} {s:Shared} {tg:Expr} {it:Addr} {u:Value} {o:Obj} {n:String} {vs:Array Value} {Q:Unit->Shared->Prop} (ho:s.heap.get? it=some o) (hc:o.cls=.type n) (hd:o.data=.fields vs)
  (hn:["enumerate","zip","dict_itemiterator","dict_reverseitemiterator","odict_iterator","itertools.zip_longest","itertools.pairwise"].contains n=false) (hQ:Q () s):wpAny M A (C22 tg (.ref it) u) Q E s:=by
 unfold C22;cases tg <;> first
  | exact B58 hQ
  | (cases u <;> first
    | exact B58 hQ
    | (refine B57 (wpAny_load ho ?_)
       rw [hc,hd];show wpAny M A (if (["enumerate","zip","dict_itemiterator","dict_reverseitemiterator","odict_iterator","itertools.zip_longest","itertools.pairwise"].contains n && vs[0]? == some (rawInt _))=true then _ else _) Q E s
       rw [if_neg (by intro h;rw [hn,X7] at h;cases h)]
       exact B58 hQ))
def Itl (K:PySem.W.Frag) (a:Addr):It:=
 ⟨fun i H=>∃ xs x,SqL K H a xs/\xs[i]?=some x,fun i H x H'=>H'=H/\∀ xs,SqL K H a xs->xs[i]?=some x,fun i H=>∃ xs,SqL K H a xs/\xs.length<=i⟩
def Itt (K:PySem.W.Frag) (a:Addr):It:=
 ⟨fun i H=>∃ xs x,SqT K H a xs/\xs[i]?=some x,fun i H x H'=>H'=H/\∀ xs,SqT K H a xs->xs[i]?=some x,fun i H=>∃ xs,SqT K H a xs/\xs.length<=i⟩
def Itr (lo:Int) (n:Nat):It:=⟨fun i _=>i<n,fun i H x H'=>H'=H/\x=.int (lo+i),fun i _=>n<=i⟩
theorem qRR {P:B60} {w:World} {K:PySem.W.Frag} {tg:Expr} (a it:Addr):Turn P w K tg (Itl K a) [it] it (fun i h=>h.IsListIter it a i) where
 mem:=by simp
 obj:=fun i h st b hb=>by
  have e:b=it:=by simpa using hb
  subst e;obtain ⟨o,e,c,d⟩:=st;exact ⟨o,e,fun v z=>by rw [d] at z;cases z⟩
 keep:=fun i h h' st k=>st.at fun o e=>k it (by simp) o e
 item:=by
  intro X hP hw hK hc i Ab s σ H E I hf st hg;subst hP hw hK;obtain ⟨xs,x,hq,hx⟩:=hg;obtain ⟨its,rv,p,hz⟩:=I.list hq;obtain ⟨u,hu,ru⟩:=rv.get hx;obtain ⟨f0,f1,f2,f3,f4,f5⟩:=hf it (by simp)
  refine wpAny_pyNext_list_item st p.isList (x:=u) (by simpa using hu) fun h' st' sb=>?_
  have I1:Inv X Ab σ H { s with heap:=h' }:=I.turned (t':=s.toks) (fun b o hb e=>(sb.2 b hb).trans e) f0 f1 f3 f4 f5;obtain ⟨o,e,c,d⟩:=id st';exact ⟨u,rfl,qW1 (s:={ s with heap:=h' }) e c d (by decide) ⟨x,H,I1,ru,⟨rfl,fun ys hy=>by rw [I.list_inj hy hq];exact hx⟩,st',fun b hb=>(hf b hb).1⟩⟩
 done:=by
  intro X hP hw hK hc i Ab s σ H E I hf st hg;subst hP hw hK;obtain ⟨xs,hq,hx⟩:=hg;obtain ⟨its,rv,p,hz⟩:=I.list hq;obtain ⟨f0,f1,f2,f3,f4,f5⟩:=hf it (by simp)
  have hl:=rv.length;exact wpAny_pyNext_list_end (I.ok.hd hc) st p.isList (by simp;lia) fun h' eb=>⟨rfl,I.turned (t':=s.toks) (fun b o hb e=>eb b o hb e) f0 f1 f3 f4 f5⟩
 self:=fun _ _ _ _ _ st h=>wpAny_pyIter_listiter st h
theorem qQB {P:B60} {w:World} {K:PySem.W.Frag} {tg:Expr} (a it:Addr):Turn P w K tg (Itt K a) [it] it (fun i h=>h.IsTupleIter it a i) where
 mem:=by simp
 obj:=fun i h st b hb=>by
  have e:b=it:=by simpa using hb
  subst e;obtain ⟨o,e,c,d⟩:=st;exact ⟨o,e,fun v z=>by rw [d] at z;cases z⟩
 keep:=fun i h h' st k=>st.at fun o e=>k it (by simp) o e
 item:=by
  intro X hP hw hK hc i Ab s σ H E I hf st hg;subst hP hw hK;obtain ⟨xs,x,hq,hx⟩:=hg;obtain ⟨its,rv,p,hz⟩:=I.tuple hq;obtain ⟨u,hu,ru⟩:=rv.get hx;obtain ⟨f0,f1,f2,f3,f4,f5⟩:=hf it (by simp)
  refine wpAny_pyNext_tuple_item st (show s.heap.IsTuple a its.toArray from p) (x:=u) (by simpa using hu) fun h' st' sb=>?_
  have I1:Inv X Ab σ H { s with heap:=h' }:=I.turned (t':=s.toks) (fun b o hb e=>(sb.2 b hb).trans e) f0 f1 f3 f4 f5;obtain ⟨o,e,c,d⟩:=id st';exact ⟨u,rfl,qW1 (s:={ s with heap:=h' }) e c d (by decide) ⟨x,H,I1,ru,⟨rfl,fun ys hy=>by rw [I.tuple_inj hy hq];exact hx⟩,st',fun b hb=>(hf b hb).1⟩⟩
 done:=by
  intro X hP hw hK hc i Ab s σ H E I hf st hg;subst hP hw hK;obtain ⟨xs,hq,hx⟩:=hg;obtain ⟨its,rv,p,hz⟩:=I.tuple hq;obtain ⟨f0,f1,f2,f3,f4,f5⟩:=hf it (by simp)
  have hl:=rv.length;exact wpAny_pyNext_tuple_end (I.ok.hd hc) st (show s.heap.IsTuple a its.toArray from p) (by simp;lia) fun h' eb=>⟨rfl,I.turned (t':=s.toks) (fun b o hb e=>eb b o hb e) f0 f1 f3 f4 f5⟩
 self:=fun _ _ _ _ _ st h=>wpAny_pyIter_tupleiter st h
theorem qQC {P:B60} {w:World} {K:PySem.W.Frag} {tg:Expr} (it:Addr) (lo:Int) (n:Nat):Turn P w K tg (Itr lo n) [it] it (fun i h=>IsRangeIter h it (lo+(i:Nat) * 1) ((n:Int) - (i:Nat)) 1) where
 mem:=by simp
 obj:=fun i h st b hb=>by
  have e:b=it:=by simpa using hb
  subst e;exact ⟨_,st,fun v z=>by
   have z':A17 _=A04 v:=z;cases z'⟩
 keep:=fun i h h' st k=>k it (by simp) _ st
 item:=by
  intro X hP hw hK hc i Ab s σ H E I hf st hg;subst hP hw hK;obtain ⟨f0,f1,f2,f3,f4,f5⟩:=hf it (by simp)
  have W:=Walks.range (prog:=X.prog) (w:=X.w) (I.ok.hd hc) it lo 1 n;refine W.item i s _ _ hg st fun v h' tk hv st' kk=>?_;obtain ⟨t,rfl⟩:=hv;have I1:Inv X Ab σ H { s with heap:=h',toks:=tk }:=I.turned (fun b o hb e=>kk b o (by simpa using hb) e) f0 f1 f3 f4 f5
  refine ⟨_,rfl,qW1 (s:={ s with heap:=h',toks:=tk }) (n:="range_iterator") st' rfl rfl (by decide) ⟨.int (lo+i),H,I1,⟨t,?_⟩,⟨rfl,rfl⟩,st',fun b hb=>(hf b hb).1⟩⟩
  rw [Int.mul_one]
 done:=by
  intro X hP hw hK hc i Ab s σ H E I hf st hg;subst hP hw hK;obtain ⟨f0,f1,f2,f3,f4,f5⟩:=hf it (by simp)
  exact wpAny_pyNext_range_end (I.ok.hd hc) st (by have:n<=i:=hg;lia) fun h' eb=>⟨rfl,I.turned (t':=s.toks) (fun b o hb e=>eb b o hb e) f0 f1 f3 f4 f5⟩
 self:=fun _ _ _ _ _ st h=>wpAny_pyIter_rangeiter st h
section
variable {X:Cx} {tg:Expr}
def qcE (K:PySem.W.Frag) (tl:TE):TI:=fun σ H R=>tl σ H fun x H1=>∃ a,x=.ref a/\(∃ xs,SqL K H1 a xs)/\R (Itl K a) H1
def iTup (K:PySem.W.Frag) (tl:TE):TI:=fun σ H R=>tl σ H fun x H1=>∃ a,x=.ref a/\(∃ xs,SqT K H1 a xs)/\R (Itt K a) H1
theorem qCS {l:Expr} {tl:TE} (hl:PE X l tl):PI X tg l (qcE X.K tl):=by
 intro Ab s σ H R I h;refine thn (hl Ab s σ H _ I h) fun v s1 ⟨x,H1,I1,r1,q1⟩=>?_;obtain ⟨a,e,⟨xs,hq⟩,q⟩:=q1;subst e;cases r1;obtain ⟨its,rv,p,hz⟩:=I1.list hq;refine B94 p.isList ?_;refine ⟨s1.heap.objs.size,[s1.heap.objs.size],_,_,H1,rfl,I1.kept (t':=s1.toks) fun b o e=>A4 _ e,qRR a _,⟨_,B9 _ rfl,rfl,rfl⟩,fun b hb=>?_,q⟩;have e:b=s1.heap.objs.size:=by simpa using hb
 subst e;exact I1.fpOk (A9 _) (I1.hok.fresh (A9 _))
theorem qD3 {l:Expr} {tl:TE} (hl:PE X l tl):PI X tg l (iTup X.K tl):=by
 intro Ab s σ H R I h;refine thn (hl Ab s σ H _ I h) fun v s1 ⟨x,H1,I1,r1,q1⟩=>?_;obtain ⟨a,e,⟨xs,hq⟩,q⟩:=q1;subst e;cases r1;obtain ⟨its,rv,p,hz⟩:=I1.tuple hq;refine wpAny_pyIter_tuple (show s1.heap.IsTuple a its.toArray from p) ?_;refine ⟨s1.heap.objs.size,[s1.heap.objs.size],_,_,H1,rfl,I1.kept (t':=s1.toks) fun b o e=>A4 _ e,qQB a _,⟨_,B9 _ rfl,rfl,rfl⟩,fun b hb=>?_,q⟩;have e:b=s1.heap.objs.size:=by simpa using hb
 subst e;exact I1.fpOk (A9 _) (I1.hok.fresh (A9 _))
theorem range_it {Ab:List (Addr × Obj)} {σ:St} {H:Hp} {s:Shared} {R:It->Hp->Prop} {E:Value->Shared->Prop} {lo hi:Int} {t u v:Tok} {tk:Nat} (I:Inv X Ab σ H s) (h1 : -(2 ^ 62)<=lo) (h2:lo<2 ^ 62) (h3 : -(2 ^ 62)<=hi) (h4:hi<2 ^ 62)
  (q:R (Itr lo (hi - lo).toNat) H):wpAny (model X.prog X.w) X.A (pyIter (.ref s.heap.objs.size)) (PIE X Ab σ tg R) E { s with heap:=s.heap.push { cls:=.type "range",data:=.fields #[.int lo t,.int hi u,.int 1 v] },toks:=tk }:=by
 refine wpAny_pyIter_range (B53 ..) (small_one h1 h2 h3 h4) ?_;have I1:Inv X Ab σ H { s with heap:=s.heap.push { cls:=.type "range",data:=.fields #[.int lo t,.int hi u,.int 1 v] },toks:=tk }:=I.kept fun b o e=>A4 _ e;refine ⟨(s.heap.push { cls:=.type "range",data:=.fields #[.int lo t,.int hi u,.int 1 v] }).objs.size,[(s.heap.push { cls:=.type "range",data:=.fields #[.int lo t,.int hi u,.int 1 v] }).objs.size],_,_,H,rfl,
  I1.kept (t':=tk) fun b o e=>A4 _ e,qQC _ lo (hi - lo).toNat,?_,fun b hb=>?_,q⟩
 ·have e1:lo+((0:Nat):Int) * 1=lo:=by simp
  have e2:(((hi - lo).toNat:Nat):Int) - ((0:Nat):Int)=F5 lo hi 1:=by rw [rangeSize_one];split <;> lia
  show IsRangeIter _ _ (lo+((0:Nat):Int) * 1) ((((hi - lo).toNat:Nat):Int) - ((0:Nat):Int)) 1;rw [e1,e2];exact B9 _ rfl
 ·have e:b=(s.heap.push { cls:=.type "range",data:=.fields #[.int lo t,.int hi u,.int 1 v] }).objs.size:=by simpa using hb
  subst e;exact I1.fpOk (A9 _) (I1.hok.fresh (A9 _))
def qcD (ta:TA):TI:=fun σ H R=>ta σ H fun vs H1=>∃ j:Int,vs=[.int j]/\-(2 ^ 62)<=j/\j<2 ^ 62/\R (Itr 0 j.toNat) H1
theorem qCC {a:Expr} {ta:TA} {p pos:Pos} (hg:Gl X "range") (hm:X.mg "range" = none) (ha:PA X [a] ta) (hs:B68 [a] X.env=[(false,eval a X.env)]:=by rfl):PI X tg (.Call (.Name "range" p) [a] [] pos) (qcD ta):=by
 intro Ab s σ H R I h;refine Call_ (qHN I hg hm boot_range (O0 (thn (ha pos Ab s σ H _ I h) fun us s1 ⟨vs,H1,I1,r1,q1⟩=>?_) hs rfl));obtain ⟨j,e,q1,q2,q⟩:=q1;subst e;cases r1 with
 | cons r rr=>
  cases rr;obtain ⟨t,rfl⟩:=r;exact call_range_1 (range_it I1 (by lia) (by lia) q1 q2 (by simpa using q))
def tFor (wi:TI) (g:TG) (tb:TS):TS:=fun D σ H=>wi σ H fun J H1=>∃ W:Nat->Nat->St->Hp->Prop,(∃ m,W 0 m σ H1)/\∀ i m σ H,W i m σ H->
 (J.stop i H/\D.nx σ H)\/(J.go i H/\∃ N:St->Hp->Prop,(∀ σ' H',N σ' H'->∃ m',m'<m/\W (i+1) m' σ' H')/\∀ x H',J.yld i H x H'->g x σ H' fun σ2 H2=>tb { D with nx:=N,ct:=N,bk:=D.nx } σ2 H2)
def qM9 (fp:List Addr) (h:Heap):List (Addr × Obj):=fp.filterMap fun b=>(h.get? b).map fun o=>(b,o)
theorem qF7 {fp:List Addr} {h:Heap} {b:Addr} {o:Obj} (hb:b ∈ fp) (e:h.get? b=some o):(b,o) ∈ qM9 fp h:=Y1.mpr ⟨b,hb,by rw [e];rfl⟩
theorem qSN {fp:List Addr} {h:Heap} {p:Addr × Obj} (hp:p ∈ qM9 fp h):p.1 ∈ fp/\h.get? p.1=some p.2:=by
 obtain ⟨b,hb,e⟩:=Y1.mp hp;cases q:h.get? b with
 | none=>rw [q] at e;cases e
 | some o=>
  rw [q] at e;have e':(b,o)=p:=J3 e;subst e';exact ⟨hb,q⟩
theorem Inv.pinned {Ab:List (Addr × Obj)} {σ:St} {H:Hp} {s:Shared} {fp:List Addr} (I:Inv X Ab σ H s) (hf:∀ b ∈ fp,FpOk X Ab H b) (ho:∀ b ∈ fp,∃ o,s.heap.get? b=some o/\∀ v,o.data ≠ .cell v):Inv X (Ab++qM9 fp s.heap) σ H s:=
 I.pins_of fun p hp=>(B7.mp hp).elim (fun z=>I.pin p (D5 _ z)) fun z=>by
  obtain ⟨hb,e⟩:=qSN z;obtain ⟨f0,f1,f2,_⟩:=hf p.1 hb;obtain ⟨o,e',d⟩:=ho p.1 hb;rw [e] at e';cases e';exact ⟨e,f0,f1,f2,d⟩
theorem Inv.unpinned {Ab pl:List (Addr × Obj)} {σ:St} {H:Hp} {s:Shared} (I:Inv X (Ab++pl) σ H s):Inv X Ab σ H s:=I.pins_of fun p hp=>I.pin p (D5 _ (G6 _ hp))
theorem qBX {iter:Expr} {body:List Stmt} {wi:TI} {g:TG} {tb:TS} {pos:Pos} (hp:PassesOwn (model X.prog X.w) X.A X.env X.xe) (hc:X.calm=true) (hi:PI X tg iter wi) (hg:PG X tg g) (hb:PSs X body tb)
  (hs:∀ x,C14 iter X.env x=pure x:=by intro _;rfl):PS X (.For tg iter body [] pos) (tFor wi g tb):=by
 intro Ab s σ H D I h;refine wpAny_For (thn (hi Ab s σ H _ I h) fun v s1 h1=>thn h1 fun itv s2 h2=>?_) hs;obtain ⟨it,fp,tn,J,H2,e,I2,T,st2,f2,W,⟨m0,w0⟩,turn⟩:=h2;subst e
 -- what stays true of the iterator's objects through the loop
 have stat:∀ {H':Hp},(∀ b ∈ fp,H' b=none)->∀ b ∈ fp,FpOk X Ab H' b:=fun hn b hb=>⟨hn b hb,(f2 b hb).2⟩;refine codeAny_forLoop_any (fun n s'=>∃ i σ' H',Inv X Ab σ' H' s'/\tn i s'.heap/\(∀ b ∈ fp,H' b=none)/\W i n σ' H') ?_ m0 ⟨0,σ,H2,I2,st2,fun b hb=>(f2 b hb).1,w0⟩;rintro n s3 ⟨i,σ3,H3,I3,st3,fr3,w3⟩;rcases turn i n σ3 H3 w3 with ⟨stop,qn⟩ | ⟨go,N,hN,step⟩
 ·refine B90 hp (thn (T.done X rfl rfl rfl hc i Ab s3 σ3 H3 X.xe I3 (stat fr3) st3 stop) fun r s4 ⟨hr,I4⟩=>?_);subst hr;exact C21 ⟨σ3,H3,I4,qn⟩
 ·refine B90 hp (thn (T.item X rfl rfl rfl hc i Ab s3 σ3 H3 X.xe I3 (stat fr3) st3 go) fun r s4 ⟨u,hr,h4⟩=>?_);subst hr;refine B90 hp (thn h4 fun _ s5 ⟨x,H5,I5,r5,y5,st5,fr5⟩=>?_);have I5':=I5.pinned (stat fr5) (T.obj _ _ st5);refine B90 hp (thn (hg _ s5 σ3 H5 x u _ I5' r5 (step x H5 y5)) fun _ s6 ⟨σ6,H6,I6,q6⟩=>?_);refine B90 hp (thn (hb _ s6 σ6 H6 _ I6 q6) fun f s7 q7=>?_);have again:∀ {σ7:St} {H7:Hp},Inv X (Ab++qM9 fp s5.heap) σ7 H7 s7->N σ7 H7->∃ m,m<n/\∃ i σ' H',Inv X Ab σ' H' s7/\tn i s7.heap/\(∀ b ∈ fp,H' b=none)/\W i m σ' H':=fun {σ7 H7} I7 n7=>by
   obtain ⟨m',hm,w7⟩:=hN σ7 H7 n7;refine ⟨m',hm,i+1,σ7,H7,I7.unpinned,T.keep _ _ _ st5 fun b hb o e=>(I7.pin (b,o) (D5 _ (D5 _ (qF7 hb e)))).1,fun b hb=>?_,w7⟩;obtain ⟨o,e,d⟩:=T.obj _ _ st5 b hb;exact (I7.pin (b,o) (D5 _ (D5 _ (qF7 hb e)))).2.1
  cases f with
  | next=>obtain ⟨σ7,H7,I7,n7⟩:=q7;exact again I7 n7
  | cont=>obtain ⟨σ7,H7,I7,n7⟩:=q7;exact again I7 n7
  | brk=>obtain ⟨σ7,H7,I7,q7⟩:=q7;exact ⟨σ7,H7,I7.unpinned,q7⟩
  | ret v=>obtain ⟨x7,σ7,H7,I7,r7,q7⟩:=q7;exact ⟨x7,σ7,H7,I7.unpinned,r7,q7⟩
end
theorem qE3 {K:PySem.W.Frag} {a:Addr} {xs:List V} {g:TG} {tb:TS} {D:Ends} {σ:St} {H:Hp} (Pv:Nat->St->Hp->Prop) (h0:Pv 0 σ H) (hl:∀ i σ H,i<=xs.length->Pv i σ H->SqL K H a xs)
  (hs:∀ i x σ H,xs[i]?=some x->Pv i σ H->g x σ H fun σ2 H2=>tb { D with nx:=Pv (i+1),ct:=Pv (i+1),bk:=D.nx } σ2 H2) (hd:∀ σ H,Pv xs.length σ H->D.nx σ H) :
  ∃ W:Nat->Nat->St->Hp->Prop,(∃ m,W 0 m σ H)/\∀ i m σ H,W i m σ H->
   ((Itl K a).stop i H/\D.nx σ H)\/((Itl K a).go i H/\∃ N:St->Hp->Prop,(∀ σ' H',N σ' H'->∃ m',m'<m/\W (i+1) m' σ' H')/\∀ x H',(Itl K a).yld i H x H'->g x σ H' fun σ2 H2=>tb { D with nx:=N,ct:=N,bk:=D.nx } σ2 H2):=by
 refine ⟨fun i m σ H=>m=xs.length - i/\i<=xs.length/\Pv i σ H,⟨xs.length,by simp,F8 _,h0⟩,?_⟩
 rintro i m σ H ⟨rfl,hi,p⟩;have q:=hl i σ H hi p;by_cases hlt:i<xs.length
 ·refine .inr ⟨⟨xs,xs[i],q,by simp [hlt]⟩,Pv (i+1),fun σ' H' p'=>⟨xs.length - (i+1),by lia,rfl,hlt,p'⟩,fun x H' y=>?_⟩
  obtain ⟨e,y⟩:=y;subst e;exact hs i x σ _ (y xs q) p
 ·have e:i=xs.length:=by lia
  subst e;exact .inl ⟨⟨xs,q,A9 _⟩,hd σ H p⟩
theorem qJA {K:PySem.W.Frag} {a:Addr} {xs:List V} {g:TG} {tb:TS} {D:Ends} {σ:St} {H:Hp} (Pv:Nat->St->Hp->Prop) (h0:Pv 0 σ H) (hl:∀ i σ H,i<=xs.length->Pv i σ H->SqT K H a xs)
  (hs:∀ i x σ H,xs[i]?=some x->Pv i σ H->g x σ H fun σ2 H2=>tb { D with nx:=Pv (i+1),ct:=Pv (i+1),bk:=D.nx } σ2 H2) (hd:∀ σ H,Pv xs.length σ H->D.nx σ H) :
  ∃ W:Nat->Nat->St->Hp->Prop,(∃ m,W 0 m σ H)/\∀ i m σ H,W i m σ H->
   ((Itt K a).stop i H/\D.nx σ H)\/((Itt K a).go i H/\∃ N:St->Hp->Prop,(∀ σ' H',N σ' H'->∃ m',m'<m/\W (i+1) m' σ' H')/\∀ x H',(Itt K a).yld i H x H'->g x σ H' fun σ2 H2=>tb { D with nx:=N,ct:=N,bk:=D.nx } σ2 H2):=by
 refine ⟨fun i m σ H=>m=xs.length - i/\i<=xs.length/\Pv i σ H,⟨xs.length,by simp,F8 _,h0⟩,?_⟩
 rintro i m σ H ⟨rfl,hi,p⟩;have q:=hl i σ H hi p;by_cases hlt:i<xs.length
 ·refine .inr ⟨⟨xs,xs[i],q,by simp [hlt]⟩,Pv (i+1),fun σ' H' p'=>⟨xs.length - (i+1),by lia,rfl,hlt,p'⟩,fun x H' y=>?_⟩
  obtain ⟨e,y⟩:=y;subst e;exact hs i x σ _ (y xs q) p
 ·have e:i=xs.length:=by lia
  subst e;exact .inl ⟨⟨xs,q,A9 _⟩,hd σ H p⟩
theorem qGQ {lo:Int} {n:Nat} {g:TG} {tb:TS} {D:Ends} {σ:St} {H:Hp} (Pv:Nat->St->Hp->Prop) (h0:Pv 0 σ H)
  (hs:∀ i σ H,i<n->Pv i σ H->g (.int (lo+i)) σ H fun σ2 H2=>tb { D with nx:=Pv (i+1),ct:=Pv (i+1),bk:=D.nx } σ2 H2) (hd:∀ σ H,Pv n σ H->D.nx σ H) :
  ∃ W:Nat->Nat->St->Hp->Prop,(∃ m,W 0 m σ H)/\∀ i m σ H,W i m σ H->
   ((Itr lo n).stop i H/\D.nx σ H)\/((Itr lo n).go i H/\∃ N:St->Hp->Prop,(∀ σ' H',N σ' H'->∃ m',m'<m/\W (i+1) m' σ' H')/\∀ x H',(Itr lo n).yld i H x H'->g x σ H' fun σ2 H2=>tb { D with nx:=N,ct:=N,bk:=D.nx } σ2 H2):=by
 refine ⟨fun i m σ H=>m=n - i/\i<=n/\Pv i σ H,⟨n,by simp,F8 _,h0⟩,?_⟩
 rintro i m σ H ⟨rfl,hi,p⟩;by_cases hlt:i<n
 ·refine .inr ⟨hlt,Pv (i+1),fun σ' H' p'=>⟨n - (i+1),by lia,rfl,hlt,p'⟩,fun x H' y=>?_⟩
  obtain ⟨e,y⟩:=y;subst e y;exact hs i σ _ hlt p
 ·have e:i=n:=by lia
  subst e;exact .inl ⟨A9 _,hd σ H p⟩
abbrev R2:=V->V->Hp->VK->Prop
def OpR (X:Cx) (f:Value->Value->Sem Value) (r:R2):Prop:=
 ∀ (Ab:List (Addr × Obj)) (s:Shared) (σ:St) (H:Hp) (x y:V) (v u:Value) (Q:VK),Inv X Ab σ H s->RelV x v->RelV y u->r x y H Q->
  wpAny (model X.prog X.w) X.A (f v u) (EP X Ab σ Q) X.xe s
def UnR (X:Cx) (f:Value->Sem Value) (r:V->Hp->VK->Prop):Prop:=
 ∀ (Ab:List (Addr × Obj)) (s:Shared) (σ:St) (H:Hp) (x:V) (v:Value) (Q:VK),Inv X Ab σ H s->RelV x v->r x H Q->
  wpAny (model X.prog X.w) X.A (f v) (EP X Ab σ Q) X.xe s
def qC5 (X:Cx) (f:Value) (r:List V->Hp->VK->Prop):Prop:=
 ∀ (Ab:List (Addr × Obj)) (s:Shared) (σ:St) (H:Hp) (xs:List V) (us:List Value) (Q:VK),Inv X Ab σ H s->Vals xs us->r xs H Q->
  wpAny (model X.prog X.w) X.A (call f us) (EP X Ab σ Q) X.xe s
def TruR (X:Cx) (r:V->Hp->(Bool->Hp->Prop)->Prop):Prop:=
 ∀ (Ab:List (Addr × Obj)) (s:Shared) (σ:St) (H:Hp) (x:V) (v:Value) (Q:Bool->Hp->Prop),Inv X Ab σ H s->RelV x v->r x H Q->
  wpAny (model X.prog X.w) X.A (truthy v) (TP X Ab σ Q) X.xe s
def tOp (r:R2) (ta tb:TE):TE:=fun σ H Q=>ta σ H fun x H1=>tb σ H1 fun y H2=>r x y H2 Q
def tUn (r:V->Hp->VK->Prop) (ta:TE):TE:=fun σ H Q=>ta σ H fun x H1=>r x H1 Q
def rI (C:Int->Int->Prop) (g:Int->Int->V):R2:=fun x y H Q=>∃ i j,x=.int i/\y=.int j/\C i j/\Q (g i j) H
def rI0 (g:Int->Int->V):R2:=fun x y H Q=>∃ i j,x=.int i/\y=.int j/\Q (g i j) H
def rU (g:Int->V):V->Hp->VK->Prop:=fun x H Q=>∃ i,x=.int i/\Q (g i) H
section
variable {X:Cx} {a b c:Expr} {ta tb tc:TE} {pos:Pos}
theorem binT (ha:PE X a ta) (hb:PE X b tb) {Ab:List (Addr × Obj)} {s:Shared} {σ:St} {H:Hp} {R:V->V->Hp->Prop} (I:Inv X Ab σ H s)
  (h:ta σ H fun x H1=>tb σ H1 fun y H2=>R x y H2) {Q:Value->Shared->Prop} {f:Value->Value->Sem Value}
  (hf:∀ v u s2 x y H2,Inv X Ab σ H2 s2->RelV x v->RelV y u->R x y H2->wpAny (model X.prog X.w) X.A (f v u) Q X.xe s2) :
  wpAny (model X.prog X.w) X.A (eval a X.env) (fun v s₁=>wpAny (model X.prog X.w) X.A (eval b X.env) (fun u s₂=>wpAny (model X.prog X.w) X.A (f v u) Q X.xe s₂) X.xe s₁) X.xe s:=by
 refine thn (ha Ab s σ H _ I h) fun v s1 ⟨x,H1,I1,r1,q1⟩=>?_;refine thn (hb Ab s1 σ H1 _ I1 q1) fun u s2 ⟨y,H2,I2,r2,q2⟩=>?_;exact hf v u s2 x y H2 I2 r1 r2 q2
theorem qAH {op:Operator} {r:R2} (ho:OpR X (B86 op) r) (ha:PE X a ta) (hb:PE X b tb):PE X (.BinOp a op b pos) (tOp r ta tb):=by
 intro Ab s σ H Q I h;exact wpAny_BinOp (binT ha hb I h fun v u s2 x y H2 I2 rx ry q=>ho Ab s2 σ H2 x y v u Q I2 rx ry q)
theorem qY9 {op:UnaryOp} {r:V->Hp->VK->Prop} (ho:UnR X (unaryOp op) r) (ha:PE X a ta):PE X (.UnaryOp op a pos) (tUn r ta):=by
 intro Ab s σ H Q I h;exact UnaryOp_ (thn (ha Ab s σ H _ I h) fun v s1 ⟨x,H1,I1,r1,q1⟩=>ho Ab s1 σ H1 x v Q I1 r1 q1)
theorem opI {f:Value->Value->Sem Value} {C:Int->Int->Prop} {g:Int->Int->Int}
  (rule:∀ (i j:Int) (t u:Tok) (s:Shared) (Q:Value->Shared->Prop) (E:Value->Shared->Prop),C i j->Q (.int (g i j) s.toks) { s with toks:=s.toks+1 }->wpAny (model X.prog X.w) X.A (f (.int i t) (.int j u)) Q E s) :
  OpR X f (rI C fun i j=>.int (g i j)):=by
 intro Ab s σ H x y v u Q I rx ry h;obtain ⟨i,j,rfl,rfl,hc,q⟩:=h;obtain ⟨t,rfl⟩:=rx;obtain ⟨t',rfl⟩:=ry;exact rule i j t t' s _ _ hc ⟨.int (g i j),H,I.tok _,⟨_,rfl⟩,q⟩
theorem opI0 {f:Value->Value->Sem Value} {g:Int->Int->Int}
  (rule:∀ (i j:Int) (t u:Tok) (s:Shared) (Q:Value->Shared->Prop) (E:Value->Shared->Prop),Q (.int (g i j) s.toks) { s with toks:=s.toks+1 }->wpAny (model X.prog X.w) X.A (f (.int i t) (.int j u)) Q E s) :
  OpR X f (rI0 fun i j=>.int (g i j)):=by
 intro Ab s σ H x y v u Q I rx ry h;obtain ⟨i,j,rfl,rfl,q⟩:=h;obtain ⟨t,rfl⟩:=rx;obtain ⟨t',rfl⟩:=ry;exact rule i j t t' s _ _ ⟨.int (g i j),H,I.tok _,⟨_,rfl⟩,q⟩
theorem opB0 {f:Value->Value->Sem Value} {g:Int->Int->Bool}
  (rule:∀ (i j:Int) (t u:Tok) (s:Shared) (Q:Value->Shared->Prop) (E:Value->Shared->Prop),Q (.bool (g i j)) s->wpAny (model X.prog X.w) X.A (f (.int i t) (.int j u)) Q E s) :
  OpR X f (rI0 fun i j=>.bl (g i j)):=by
 intro Ab s σ H x y v u Q I rx ry h;obtain ⟨i,j,rfl,rfl,q⟩:=h;obtain ⟨t,rfl⟩:=rx;obtain ⟨t',rfl⟩:=ry;exact rule i j t t' s _ _ ⟨.bl (g i j),H,I,rfl,q⟩
def CDiv (i j:Int):Prop:=0<j/\j<1073741824
def CPow (i j:Int):Prop:=0<=j/\j<=1000000/\i.natAbs<2 ^ 64
def CMul (i j:Int):Prop:=(-(2 ^ 64)<i/\i<2 ^ 64)\/(-(2 ^ 64)<j/\j<2 ^ 64)
theorem CMul.ok {i j:Int} (h:CMul i j):IntMulOk i j:=by
 rcases h with ⟨h1,h2⟩ | ⟨h1,h2⟩
 ·exact .of_left (intBits_le_64 h1 h2)
 ·exact .of_right (intBits_le_64 h1 h2)
theorem qC0:OpR X (B86 .Add) (rI0 fun i j=>.int (i+j)):=opI0 fun _ _ _ _ _ _ _ q=>add_int q
theorem qCU:OpR X (B86 .Sub) (rI0 fun i j=>.int (i - j)):=opI0 fun _ _ _ _ _ _ _ q=>sub_int q
theorem qCD:OpR X (B86 .Mult) (rI CMul fun i j=>.int (i * j)):=opI fun _ _ _ _ _ _ _ hc q=>mul_int q hc.ok
theorem qFY:OpR X (B86 .FloorDiv) (rI CDiv fun i j=>.int (i / j)):=opI fun i j _ _ _ _ _ hc q=>by
 have h1:(0:Int)<j:=hc.1;have h2:j<1073741824:=hc.2;exact floordiv_int (by lia) (by rw [u8 i (by lia)];exact q) (.inl (i9 (by lia)))
theorem qIX:OpR X (B86 .Mod) (rI (fun _ j=>0<j) fun i j=>.int (i % j)):=opI fun i j _ _ _ _ _ hc q=>by
 have h1:(0:Int)<j:=hc;exact mod_int' (by lia) (by rw [u9 i (by lia)];exact q)
theorem qaK:OpR X (B86 .Pow) (rI CPow fun i j=>.int (i ^ j.toNat)):=opI fun _ _ _ _ _ _ _ hc q=>pow_int_small hc.1 hc.2.1 hc.2.2 q
theorem qPM:OpR X (B86 .LShift) (rI CPow fun i j=>.int (i * 2 ^ j.toNat)):=opI fun _ _ _ _ _ _ _ hc q=>lshift_int_small hc.1 hc.2.1 hc.2.2 q
theorem qaO:OpR X (B86 .BitAnd) (rI0 fun i j=>.int (l7 i j)):=opI0 fun _ _ _ _ _ _ _ q=>and_int q
theorem qaL:OpR X (B86 .BitOr) (rI0 fun i j=>.int (A79 i j)):=opI0 fun _ _ _ _ _ _ _ q=>or_int q
theorem unI {f:Value->Sem Value} {g:Int->Int}
  (rule:∀ (i:Int) (t:Tok) (s:Shared) (Q:Value->Shared->Prop) (E:Value->Shared->Prop),Q (.int (g i) s.toks) { s with toks:=s.toks+1 }->wpAny (model X.prog X.w) X.A (f (.int i t)) Q E s) :
  UnR X f (rU fun i=>.int (g i)):=by
 intro Ab s σ H x v Q I rx h;obtain ⟨i,rfl,q⟩:=h;obtain ⟨t,rfl⟩:=rx;exact rule i t s _ _ ⟨.int (g i),H,I.tok _,⟨_,rfl⟩,q⟩
theorem qRO:UnR X (unaryOp .USub) (rU fun i=>.int (-i)):=unI fun _ _ _ _ _ q=>neg_int q
end
def scal:V->V->Bool
 | .non,.non=>true | .non,.int _=>true | .int _,.non=>true | .non,.bl _=>true | .bl _,.non=>true | .non,.str _=>true | .str _,.non=>true
 | .int _,.int _=>true | .bl _,.bl _=>true | .str _,.str _=>true | .byt _,.byt _=>true
 | .int _,.str _=>true | .str _,.int _=>true | .bl _,.str _=>true | .str _,.bl _=>true
 | _,_=>false
def rEq:R2:=fun x y H Q=>scal x y=true/\Q (.bl (decide (x=y))) H
def rNe:R2:=fun x y H Q=>scal x y=true/\Q (.bl (!decide (x=y))) H
theorem qTT {i j:Int}:decide (V.int i=V.int j)=(i == j):=by
 rw [O7];simp
theorem qXD {i j:Bool}:decide (V.bl i=V.bl j)=(i == j):=by
 rw [O7];simp
theorem qTS {i j:Str}:decide (V.str i=V.str j)=(i == j):=by
 rw [O7];simp
theorem qTU {i j:Array UInt8}:decide (V.byt i=V.byt j)=(i.toList == j.toList):=by
 rw [O7];cases i;cases j;simp
section
variable {X:Cx} {a b c:Expr} {ta tb tc:TE} {pos:Pos}
theorem qB3 {Ab:List (Addr × Obj)} {σ:St} {H:Hp} {s:Shared} {Q:VK} {k k':Bool} (I:Inv X Ab σ H s) (q:Q (.bl k) H) (e:k=k'):EP X Ab σ Q (.bool k') s:=by
 subst e;exact ⟨.bl k,H,I,rfl,q⟩
theorem qIY:OpR X (B75 .Eq) rEq:=by
 intro Ab s σ H x y v u Q I rx ry h;obtain ⟨hs,q⟩:=h;cases x with
 | non=>
  cases rx;cases y with
  | non=>cases ry;exact PySem.EqNone.eq_none_none (qB3 I q (by simp))
  | bl j=>cases ry;exact PySem.EqNone.eq_none_bool (qB3 I q (by simp))
  | int j=>obtain ⟨t',rfl⟩:=ry;exact PySem.EqNone.eq_none_int (qB3 I q (by simp))
  | str j=>obtain ⟨t',rfl⟩:=ry;exact PySem.EqNone.eq_none_str (qB3 I q (by simp))
  | _=>exact absurd (show false=true from hs) B5
 | bl i=>
  cases rx;cases y with
  | non=>cases ry;exact PySem.EqNone.eq_bool_none (qB3 I q (by simp))
  | bl j=>cases ry;exact eq_bool (qB3 I q qXD)
  | str j=>obtain ⟨t',rfl⟩:=ry;exact PySem.EqMixed.eq_bool_str (qB3 I q (by simp))
  | _=>exact absurd (show false=true from hs) B5
 | int i=>
  obtain ⟨t,rfl⟩:=rx;cases y with
  | non=>cases ry;exact PySem.EqNone.eq_int_none (qB3 I q (by simp))
  | int j=>obtain ⟨t',rfl⟩:=ry;exact eq_int (qB3 I q qTT)
  | str j=>obtain ⟨t',rfl⟩:=ry;exact PySem.EqMixed.eq_int_str (qB3 I q (by simp))
  | _=>exact absurd (show false=true from hs) B5
 | str i=>
  obtain ⟨t,rfl⟩:=rx;cases y with
  | non=>cases ry;exact PySem.EqNone.eq_str_none (qB3 I q (by simp))
  | bl j=>cases ry;exact PySem.EqMixed.eq_str_bool (qB3 I q (by simp))
  | int j=>obtain ⟨t',rfl⟩:=ry;exact PySem.EqMixed.eq_str_int (qB3 I q (by simp))
  | str j=>obtain ⟨t',rfl⟩:=ry;exact eq_str (qB3 I q qTS)
  | _=>exact absurd (show false=true from hs) B5
 | byt i=>
  obtain ⟨t,rfl⟩:=rx;cases y with
  | byt j=>obtain ⟨t',rfl⟩:=ry;exact PySem.W.eq_bytes (qB3 I q qTU)
  | _=>exact absurd (show false=true from hs) B5
 | _=>cases y <;> exact absurd (show false=true from hs) B5
theorem qNW:OpR X (B75 .NotEq) rNe:=by
 intro Ab s σ H x y v u Q I rx ry h;obtain ⟨hs,q⟩:=h;cases x with
 | non=>
  cases rx;cases y with
  | non=>cases ry;exact PySem.EqNone.ne_none_none (qB3 I q (by simp))
  | bl j=>cases ry;exact PySem.EqNone.ne_none_bool (qB3 I q (by simp))
  | int j=>obtain ⟨t',rfl⟩:=ry;exact PySem.EqNone.ne_none_int (qB3 I q (by simp))
  | str j=>obtain ⟨t',rfl⟩:=ry;exact PySem.EqNone.ne_none_str (qB3 I q (by simp))
  | _=>exact absurd (show false=true from hs) B5
 | bl i=>
  cases rx;cases y with
  | non=>cases ry;exact PySem.EqNone.ne_bool_none (qB3 I q (by simp))
  | bl j=>cases ry;exact ne_bool (qB3 I q (congrArg not qXD))
  | str j=>obtain ⟨t',rfl⟩:=ry;exact PySem.EqMixed.ne_bool_str (qB3 I q (by simp))
  | _=>exact absurd (show false=true from hs) B5
 | int i=>
  obtain ⟨t,rfl⟩:=rx;cases y with
  | non=>cases ry;exact PySem.EqNone.ne_int_none (qB3 I q (by simp))
  | int j=>obtain ⟨t',rfl⟩:=ry;exact ne_int (qB3 I q (congrArg not qTT))
  | str j=>obtain ⟨t',rfl⟩:=ry;exact PySem.EqMixed.ne_int_str (qB3 I q (by simp))
  | _=>exact absurd (show false=true from hs) B5
 | str i=>
  obtain ⟨t,rfl⟩:=rx;cases y with
  | non=>cases ry;exact PySem.EqNone.ne_str_none (qB3 I q (by simp))
  | bl j=>cases ry;exact PySem.EqMixed.ne_str_bool (qB3 I q (by simp))
  | int j=>obtain ⟨t',rfl⟩:=ry;exact PySem.EqMixed.ne_str_int (qB3 I q (by simp))
  | str j=>obtain ⟨t',rfl⟩:=ry;exact ne_str (qB3 I q (congrArg not qTS))
  | _=>exact absurd (show false=true from hs) B5
 | byt i=>
  obtain ⟨t,rfl⟩:=rx;cases y with
  | byt j=>obtain ⟨t',rfl⟩:=ry;exact PySem.W.ne_bytes (qB3 I q (congrArg not qTU))
  | _=>exact absurd (show false=true from hs) B5
 | _=>cases y <;> exact absurd (show false=true from hs) B5
theorem qVA:OpR X (B75 .Lt) (rI0 fun i j=>.bl (decide (i<j))):=opB0 fun _ _ _ _ _ _ _ q=>lt_int q
theorem qaM:OpR X (B75 .LtE) (rI0 fun i j=>.bl (decide (i<=j))):=opB0 fun _ _ _ _ _ _ _ q=>le_int q
theorem qVB:OpR X (B75 .Gt) (rI0 fun i j=>.bl (decide (j<i))):=opB0 fun _ _ _ _ _ _ _ q=>gt_int q
theorem qaN:OpR X (B75 .GtE) (rI0 fun i j=>.bl (decide (j<=i))):=opB0 fun _ _ _ _ _ _ _ q=>ge_int q
theorem qAW (b:Expr) {op:CmpOp} (h:op ≠ .In:=by decide) (h2:op ≠ .NotIn:=by decide):B92 op b=false:=by
 have e1:(op == CmpOp.In)=false:=by cases op <;> first | rfl | exact absurd rfl h
 have e2:(op == CmpOp.NotIn)=false:=by cases op <;> first | rfl | exact absurd rfl h2
 cases b <;> simp [B92,e1,e2]
theorem qDH {op:CmpOp} {r:R2} (ho:OpR X (B75 op) r) (ha:PE X a ta) (hb:PE X b tb) (hm:B92 op b=false):PE X (.Compare a [op] [b] pos) (tOp r ta tb):=by
 intro Ab s σ H Q I h;exact wpAny_Compare1 (binT ha hb I h fun v u s2 x y H2 I2 rx ry q=>ho Ab s2 σ H2 x y v u Q I2 rx ry q) hm
def qbQ (t:TE):TT:=fun σ H Q=>t σ H fun x H'=>∃ k,x=.bl k/\Q k H'
theorem qAL {op:CmpOp} {r:R2} (ho:OpR X (B75 op) r) (ha:PE X a ta) (hb:PE X b tb) (hm:B92 op b=false):PT X (.Compare a [op] [b] pos) (qbQ (tOp r ta tb)):=by
 intro Ab s σ H Q I h;refine wpAny_isTrue_Compare1 (thn (ha Ab s σ H _ I h) fun v s1 ⟨x,H1,I1,r1,q1⟩=>thn (hb Ab s1 σ H1 _ I1 q1) fun u s2 ⟨y,H2,I2,r2,q2⟩=>
  thn (ho Ab s2 σ H2 x y v u _ I2 r1 r2 q2) fun c s3 ⟨z,H3,I3,r3,k,e,q3⟩=>?_) hm
 subst e;cases r3;exact B78 ⟨H3,I3,q3⟩
def qZU (r r':R2) (ta tb tc:TE):TE:=fun σ H Q=>ta σ H fun x H1=>tb σ H1 fun y H2=>r x y H2 fun z H3=>∃ k,z=.bl k/\
 (if k=true then tc σ H3 fun w' H4=>r' y w' H4 Q else Q (.bl false) H3)
theorem qV8 {op op':CmpOp} {r r':R2} (ho:OpR X (B75 op) r) (ho':OpR X (B75 op') r') (ha:PE X a ta) (hb:PE X b tb) (hc:PE X c tc)
  (hm:lastMarks [op,op'] [b,c]=false:=by with_unfolding_all rfl):PE X (.Compare a [op,op'] [b,c] pos) (qZU r r' ta tb tc):=by
 intro Ab s σ H Q I h;refine Compare_chain (thn (ha Ab s σ H _ I h) fun v s1 ⟨x,H1,I1,r1,q1⟩=>chain_link (thn (hb Ab s1 σ H1 _ I1 q1) fun u s2 ⟨y,H2,I2,r2,q2⟩=>
  thn (ho Ab s2 σ H2 x y v u _ I2 r1 r2 q2) fun d s3 ⟨z,H3,I3,r3,k,e,q3⟩=>?_)) hm
 subst e;cases r3;refine B78 ?_;cases k with
 | false=>exact ite_ff ⟨.bl false,H3,I3,rfl,q3⟩
 | true=>exact ite_tt (chain_last (thn (hc Ab s3 σ H3 _ I3 q3) fun w' s4 ⟨z',H4,I4,r4,q4⟩=>ho' Ab s4 σ H4 y z' u w' Q I4 r2 r4 q4))
def TruV (K:PySem.W.Frag) (x:V) (H:Hp) (k:Bool):Prop:=
 match x with
 | .non=>k=false
 | .bl b=>k=b
 | .int i=>k=(i != 0)
 | .str y=>y.length<=B59/\k=((y.length:Int) != 0)
 | .byt y=>y.size<=B59/\k=((y.size:Int) != 0)
 | .ref p=>(∃ xs,SqL K H p xs/\k=!xs.isEmpty)\/(∃ xs,SqT K H p xs/\k=!xs.isEmpty)\/∃ Af,H p=some (.dK Af)/\k=!Af.isEmpty
 | _=>False
theorem qQT {κ:Type} {Af:List (κ × V)} {vs:List (κ × Value)} (r:KV Af vs):(!vs.isEmpty)=!Af.isEmpty:=by
 cases r <;> rfl
theorem qKA {xs:List V} {its:List Value} (r:Vals xs its):(!its.toArray.isEmpty)=!xs.isEmpty:=by
 cases r <;> simp
theorem qMK:(B59:Nat)<2 ^ 63:=by rw [B66];decide
theorem qZQ:TruR X (fun x H Q=>∃ k,TruV X.K x H k/\Q k H):=by
 intro Ab s σ H x v Q I rx h;obtain ⟨k,e,q⟩:=h;have hl:=qMK;have hs:B59=16777216:=B66;cases x with
 | non=>
  cases rx;have e':k=false:=e;subst e';exact truthy_none ⟨H,I,q⟩
 | bl b=>
  cases rx;have e':k=b:=e;subst e';exact B78 ⟨H,I,q⟩
 | int i=>
  obtain ⟨t,rfl⟩:=rx;have e':k=(i != 0):=e;subst e';exact PySem.P.truthy_int ⟨H,I,q⟩
 | str y=>
  obtain ⟨t,rfl⟩:=rx;obtain ⟨hy,e'⟩:y.length<=B59/\k=((y.length:Int) != 0):=e;subst e';exact PySem.P.truthy_str (by lia) ⟨H,I.tok _,q⟩
 | byt y=>
  obtain ⟨t,rfl⟩:=rx;obtain ⟨hy,e'⟩:y.size<=B59/\k=((y.size:Int) != 0):=e;subst e';exact PySem.W.truthy_bytes (by lia) ⟨H,I.tok _,q⟩
 | ref p=>
  cases rx;have e':(∃ xs,SqL X.K H p xs/\k=!xs.isEmpty)\/(∃ xs,SqT X.K H p xs/\k=!xs.isEmpty)\/∃ Af,H p=some (.dK Af)/\k=!Af.isEmpty:=e;rcases e' with ⟨xs,hx,e'⟩ | ⟨xs,hx,e'⟩ | ⟨Af,hx,e'⟩
  ·subst e';obtain ⟨its,r,pl,hz⟩:=I.list hx;have hlen:=r.length;exact wpAny_truthy_list pl.isList (by simp only [B4];lia) ⟨H,I.tok _,by rw [qKA r];exact q⟩
  ·subst e';obtain ⟨its,r,pl,hz⟩:=I.tuple hx;have hlen:=r.length;exact truthy_tuple pl (by simp only [B4];lia) ⟨H,I.tok _,by rw [qKA r];exact q⟩
  ·subst e';obtain ⟨hz,hS,vs,r,m⟩:Af.length<=B59/\(p == B89)=false/\∃ vs,KV Af vs/\s.heap.DictOf (qBF X.prog X.w) p vs:=I.hok p _ hx;have hlen:Af.length=vs.length:=C6 r;exact wpAny_truthy_dict hS m (by lia) ⟨H,I.tok _,by rw [qQT r];exact q⟩
 | _=>exact (show False from e).elim
theorem qKW (ha:PE X a ta) (he:∀ whole,isTrue a X.env whole=(do let v <- whole;standAt a.pos;holding [v] (truthy v))) :
  PT X a (fun σ H Q=>ta σ H fun x H'=>∃ k,TruV X.K x H' k/\Q k H'):=by
 intro Ab s σ H Q I h;exact isTrue_plain (thn (ha Ab s σ H _ I h) fun v s1 ⟨x,H1,I1,r1,q1⟩=>qZQ Ab s1 σ H1 x v Q I1 r1 q1) (he _)
theorem qDK {x:V} {us:List Value} (r:Vals [x] us):∃ u,us=[u]/\RelV x u:=by
 cases r with
 | cons r1 r2=>cases r2;exact ⟨_,rfl,r1⟩
theorem qNG {x y:V} {us:List Value} (r:Vals [x,y] us):∃ u w',us=[u,w']/\RelV x u/\RelV y w':=by
 cases r with
 | cons r1 r2=>
  cases r2 with
  | cons r3 r4=>cases r4;exact ⟨_,_,rfl,r1,r3⟩
theorem qJK (hc:X.calm=true):qC5 X (.builtin "max") (fun xs H Q=>∃ i j,xs=[.int i,.int j]/\Q (.int (if j > i then j else i)) H):=by
 intro Ab s σ H xs us Q I r h;obtain ⟨i,j,rfl,q⟩:=h;obtain ⟨u,w',rfl,⟨t,rfl⟩,⟨t',rfl⟩⟩:=qNG r;refine max_two_ints (I.ok.hd hc) fun h' tk k=>⟨_,H,I.kept k,?_,q⟩;by_cases hj:j > i
 ·rw [if_pos hj,if_pos hj];exact ⟨_,rfl⟩
 ·rw [if_neg hj,if_neg hj];exact ⟨_,rfl⟩
theorem qJJ (hc:X.calm=true):qC5 X (.builtin "min") (fun xs H Q=>∃ i j,xs=[.int i,.int j]/\Q (.int (if j<i then j else i)) H):=by
 intro Ab s σ H xs us Q I r h;obtain ⟨i,j,rfl,q⟩:=h;obtain ⟨u,w',rfl,⟨t,rfl⟩,⟨t',rfl⟩⟩:=qNG r;refine min_two_ints (I.ok.hd hc) fun h' tk k=>⟨_,H,I.kept k,?_,q⟩;by_cases hj:j<i
 ·rw [if_pos hj,if_pos hj];exact ⟨_,rfl⟩
 ·rw [if_neg hj,if_neg hj];exact ⟨_,rfl⟩
theorem qJL:qC5 X (.type "int") (fun xs H Q=>(∃ i,xs=[.int i]/\Q (.int i) H)\/∃ k,xs=[.bl k]/\Q (.int (if k then 1 else 0)) H):=by
 intro Ab s σ H xs us Q I r h;rcases h with ⟨i,rfl,q⟩ | ⟨k,rfl,q⟩
 ·obtain ⟨u,rfl,t,rfl⟩:=qDK r;exact call_int_int ⟨.int i,H,I,⟨_,rfl⟩,q⟩
 ·obtain ⟨u,rfl,r1⟩:=qDK r;cases r1;exact call_int_bool ⟨.int (if k then 1 else 0),H,I.tok _,⟨_,rfl⟩,q⟩
theorem qOE:qC5 X (.builtin "divmod") (fun xs H Q=>∃ i j,xs=[.int i,.int j]/\CDiv i j/\∀ p,H p=none->Q (.ref p) (Ag H p (.tup [.int (i / j),.int (i % j)]))):=by
 intro Ab s σ H xs us Q I r h;obtain ⟨i,j,rfl,⟨h1,h2⟩,q⟩:=h;obtain ⟨u,w',rfl,⟨t,rfl⟩,⟨t',rfl⟩⟩:=qNG r;refine divmod_int (by lia) ?_ (.inl (i9 (by lia)))
 rw [u8 i (by lia),u9 i (by lia)]
 have hn:H s.heap.objs.size=none:=I.hok.fresh (A9 _);refine ⟨.ref s.heap.objs.size,_,?_,rfl,q _ hn⟩;refine I.laid (fun b o e=>A4 _ e) (A9 _) ⟨by simp only [D8,M7];rw [B66];decide,[.int (i / j) s.toks,.int (i % j) (s.toks+1)],.cons ⟨_,rfl⟩ (.cons ⟨_,rfl⟩ .nil),?_⟩
 exact ⟨_,B9 s.heap rfl,rfl,0,rfl⟩
end
structure ObjM (h:Heap) (x dx C:Addr) (mA:Str->Option Value):Prop where
 obj:h.get? x=some (A43 C dx)
 ns:h.Ns1 dx mA
 ne:dx ≠ x
theorem qSX {h:Heap} {dx:Addr} {mA:Str->Option Value} (n:h.Ns1 dx mA):∃ od,h.get? dx=some od/\∀ name,A63 name od=some (mA name):=by
 obtain ⟨o,es,ep,ho,hd,hk,_,hm⟩:=n;refine ⟨o,ho,fun name=>?_⟩;have e:=hm name;unfold nsFind findBy at e;rw [<- Array.find?_toList] at e;unfold A63;rw [hd];dsimp only
 split
 ·rename_i y q
  rw [q] at e;exact congrArg some e
 ·rename_i q
  rw [q] at e;have a:es.toList.any (·.refKey)=false:=by
   rw [List.any_eq_false];intro y hy;obtain ⟨z,t,hkey⟩:=hk y (Array.mem_toList_iff.mp hy);simp [DictEntry.refKey,hkey]
  have a':¬ es.toList.any (·.refKey)=true:=by rw [a];exact B5
  rw [if_neg a'];exact congrArg some e
theorem ObjM.look {h:Heap} {x dx C:Addr} {mA:Str->Option Value} (I:ObjM h x dx C mA):∃ od,PySem.W.InstAt h x (A43 C dx) C (some od)/\∀ name,A63 name od=some (mA name):=
 let ⟨od,ho,hl⟩:=qSX I.ns
 ⟨od,⟨I.obj,rfl,rfl,ho⟩,hl⟩
section
variable {prog:B60} {w:World} {A:Around} {E:Value->Shared->Prop} {s:Shared} {K:PySem.W.Frag} {x dx C f:Addr} {mA:Str->Option Value} {name:Str} {v:Value}
end
def putF (f:Str) (v:V):List (Str × V)->List (Str × V)
 | []=>[(f,v)]
 | (g,x)::r=>if g=f then (g,v)::r else (g,x)::putF f v r
theorem RelO.some_of {v:V} {o:Option Value} (r:RelO (some v) o):∃ u,o=some u/\RelV v u:=by
 cases o with
 | none=>exact (show False from r).elim
 | some u=>exact ⟨u,rfl,r⟩
section
variable {P:B60} {w:World} {H H':Hp} {h h':Heap} {a C dx:Addr} {fs fs':List (Str × V)}
theorem qYW (hok:HOk P w H h) (e:H a=some (.ins C dx fs)):∃ mA,ObjM h a dx C mA/\(∀ f,RelO (fs.lookup f) (mA f))/\PySem.Within mA (fs.map (·.1))/\fs.length<=1000/\H dx=some (.own a):=by
 obtain ⟨d,z,ne,ob,mA,n,r,q⟩:=(show ObjOk P w H h a (.ins C dx fs) from hok a _ e);exact ⟨mA,⟨ob,n,ne⟩,r,q,z,d⟩
end
structure Cls (K:PySem.W.Frag) (C:Addr):Prop where
 pg:B07 K C Y4=true
 hd:A92 K C=true
 po:PySem.W.plainOver K C=true
 sa:Q7 K (.ref C) "__setattr__" = some (some (.builtin "object.__setattr__"))
theorem Cls.get {K:PySem.W.Frag} {C:Addr} (c:Cls K C) (f:Str):B07 K C f=true:=c.pg
def qQ9 (K:PySem.W.Frag) (C:Addr) (f:Str):Prop:=Q7 K (.ref C) f=some none
structure Con (K:PySem.W.Frag) (C:Addr) (f:Str) (v:V) (u:Value):Prop where
 at_:Q7 K (.ref C) f=some (some u)
 rel:RelV v u
 get:A05 K u "__get__" = some none
 cp:PySem.W.copiedNames.contains f=false
structure Meth (K:PySem.W.Frag) (C:Addr) (m:Str) (f:Addr):Prop where
 at_:Q7 K (.ref C) m=some (some (.ref f))
 fn:B48 K (.ref f)=true
 kp:Q8 K (.ref f)=true
section
variable {X:Cx} {Ab:List (Addr × Obj)} {σ:St} {H:Hp} {s:Shared} {a C dx:Addr} {fs:List (Str × V)} {f:Str} {v:V} {A:Around} {E:Value->Shared->Prop}
end
section
variable {X:Cx} {o e value:Expr} {f:Str} {pos pos' tpos:Pos} {ta tv:TE}
end
section
variable {X:Cx} {Ab:List (Addr × Obj)} {σ:St} {H:Hp} {s:Shared} {A:Around} {E:Value->Shared->Prop} {Q:Value->Shared->Prop} {c:Value} {b:Bool}
inductive TyOf (K:PySem.W.Frag) (H:Hp):V->Value->Prop where
 | non:TyOf K H .non (.type "NoneType")
 | bl (x:Bool):TyOf K H (.bl x) (.type "bool")
 | int (i:Int):TyOf K H (.int i) (.type "int")
 | str (x:Str):TyOf K H (.str x) (.type "str")
 | flt (x:UInt64):TyOf K H (.flt x) (.type "float")
 | lst {a:Addr} {xs:List V} (e:H a=some (.lst xs)):TyOf K H (.ref a) (.type "list")
 | frz {a:Addr} {o:Obj} {xs:List V} (e:H a=some (.frz o (.lst xs))):TyOf K H (.ref a) (.type "list")
 | tup {a:Addr} {xs:List V} (e:H a=some (.tup xs)):TyOf K H (.ref a) (.type "tuple")
 | dK {a:Addr} {Af:List (Key × V)} (e:H a=some (.dK Af)):TyOf K H (.ref a) (.type "dict")
 | dT {a:Addr} {Af:List (List Key × V)} (e:H a=some (.dT Af)):TyOf K H (.ref a) (.type "dict")
 | ins {a C dx:Addr} {fs:List (Str × V)} (e:H a=some (.ins C dx fs)) (cl:Cls K C) (ha:Q7 K (.ref C) "__class__" = some (some (.builtin "object.__class__")))
   (hn:A05 K (.builtin "object.__class__") "__get__" = some (some (.builtin "getset_descriptor.__get__"))) (htk:B18 K (.builtin "object.__class__")=some true)
   (hm:A80 K C (.type "object")=some true):TyOf K H (.ref a) (.ref C)
theorem qT6 {x:V} {u t:Value} (I:Inv X Ab σ H s) (rx:RelV x u) (ty:TyOf X.K H x t) (e:G9 X.K t c=some b) (h:∀ tk,Q (.bool b) { s with toks:=tk }) :
  wpAny (model X.prog X.w) A (call (.builtin "isinstance") [u,c]) Q E s:=by
 cases ty with
 | non=>cases (show u=V5 from rx);exact O8 PySem.W.kitx_none I.kIn X8 e (fun z=>nomatch z) h
 | bl y=>cases (show u=V6 y from rx);exact O8 PySem.W.kitx_bool I.kIn X8 e (fun z=>nomatch z) h
 | int i=>obtain ⟨t,q⟩:=(show ∃ t,u=U1 i t from rx);cases q;exact O8 PySem.W.kitx_int I.kIn X8 e (fun z=>nomatch z) h
 | str y=>obtain ⟨t,q⟩:=(show ∃ t,u=B17 y t from rx);cases q;exact O8 PySem.W.kitx_str I.kIn X8 e (fun z=>nomatch z) h
 | flt y=>obtain ⟨t,q⟩:=(show ∃ t,u=Value.float y t from rx);cases q;exact O8 PySem.W.kitx_float I.kIn X8 e (fun z=>nomatch z) h
 | @lst a xs ea=>
  cases (show u=E2 a from rx);obtain ⟨_,_,n,_,h1⟩:=(show ObjOk X.prog X.w H s.heap a (.lst xs) from I.hok a _ ea);exact O8 A93 I.kIn ⟨_,h1,rfl⟩ e (fun z=>nomatch z) h
 | @frz a ob xs ea=>
  cases (show u=E2 a from rx);obtain ⟨_,_,_,n,_,h1⟩:=(show ObjOk X.prog X.w H s.heap a (.frz ob (.lst xs)) from I.hok a _ ea);exact O8 A93 I.kIn ⟨_,h1,rfl⟩ e (fun z=>nomatch z) h
 | @tup a xs ea=>
  cases (show u=E2 a from rx);obtain ⟨_,_,_,p⟩:=(show ObjOk X.prog X.w H s.heap a (.tup xs) from I.hok a _ ea);obtain ⟨o,h1,h2,_⟩:=p;exact O8 PySem.W.kitx_tuple I.kIn ⟨o,h1,h2⟩ e (fun z=>nomatch z) h
 | @dK a Af ea=>
  cases (show u=E2 a from rx);obtain ⟨_,_,vs,_,p⟩:=(show ObjOk X.prog X.w H s.heap a (.dK Af) from I.hok a _ ea);obtain ⟨o,es,ep,h1,h2,_⟩:=p;exact O8 A94 I.kIn ⟨o,h1,h2.1⟩ e (fun z=>nomatch z) h
 | @dT a Af ea=>
  cases (show u=E2 a from rx);obtain ⟨_,_,xs,_,o,es,ep,h1,h2,_⟩:=(show ObjOk X.prog X.w H s.heap a (.dT Af) from I.hok a _ ea);exact O8 A94 I.kIn ⟨o,h1,h2.1⟩ e (fun z=>nomatch z) h
 | @ins a C dx fs ea cl ha hn htk hm=>
  cases (show u=E2 a from rx);obtain ⟨mA,O,_⟩:=qYW I.hok ea;obtain ⟨od,J,_⟩:=O.look;exact O8 (PySem.W.kitx_own (cl.get _) cl.hd ha hn htk hm) I.kIn J e (fun z=>nomatch z) h
end
structure Room (k:Nat) (A:Around):Prop where
 hd:A.handled=none
 dp:A.depth+3 * k+5<recursionLimit
 un:A.units+16 * k+200<cLine
 gd:A.guards=some []
theorem Room.mono {j k:Nat} {A:Around} (r:Room k A) (h:j<=k):Room j A:=⟨r.hd,by have:=r.dp;lia,by have:=r.un;lia,r.gd⟩
theorem Room.deeper {k:Nat} {A:Around} (r:Room (k+1) A) (env:Env):Room k (A.deeper env):=
 ⟨r.hd,by have:=r.dp;show A.depth+1+3 * k+5<_;lia,by have:=r.un;show A.units+3+16 * k+200<_;lia,r.gd⟩
theorem Room.depth {k:Nat} {A:Around} (r:Room k A):A.depth<recursionLimit:=by have:=r.dp;lia
theorem Room.units {k:Nat} {A:Around} (r:Room k A):A.units+64<cLine:=by have:=r.un;lia
theorem Room.units0 {k:Nat} {A:Around} (r:Room k A):A.units<cLine:=by have:=r.un;lia
def tNil:TA:=fun _ H Q=>Q [] H
def qbZ (ta:TE) (tr:TA):TA:=fun σ H Q=>ta σ H fun x H1=>tr σ H1 fun xs H2=>Q (x::xs) H2
section
variable {X:Cx} {e:Expr} {es:List Expr} {te:TE} {t:TA} {pos:Pos}
theorem qA3:PA X [] tNil:=fun _ _ _ _ H Q I h=>A95 ⟨[],H,I,.nil,h⟩
theorem qA0 (ha:PE X e te) (hr:PA X es t) (hs:B68 (e::es) X.env=(false,eval e X.env)::B68 es X.env:=by rfl):PA X (e::es) (qbZ te t):=by
 intro pos Ab s σ H Q I h;rw [hs];show wpAny _ _ (spliced ((false,eval e X.env)::backTo pos (B68 es X.env))) _ _ s;refine x5 (thn (ha Ab s σ H _ I h) fun u s1 ⟨x,H1,I1,r1,q1⟩=>?_);exact thn (hr pos Ab s1 σ H1 _ I1 q1) fun us s2 ⟨xs,H2,I2,r2,q2⟩=>⟨x::xs,H2,I2,.cons r1 r2,q2⟩
def tTup (t:TA):TE:=fun σ H Q=>t σ H fun xs H1=>xs.length<=B59/\∀ p,H1 p=none->Q (.ref p) (Ag H1 p (.tup xs))
def tLst (t:TA):TE:=fun σ H Q=>t σ H fun xs H1=>xs.length<=B59/\∀ p,H1 p=none->Q (.ref p) (Ag H1 p (.lst xs))
theorem qCT {x1} (h:PA X es t):PE X (.Tuple es x1 pos) (tTup t):=by
 intro Ab s σ H Q I hq;refine wpAny_Tuple_spliced (thn (h pos Ab s σ H _ I hq) fun us s1 ⟨xs,H1,I1,r,z,q⟩=>⟨by rw [<- r.length];exact z,?_⟩)
 have hf:H1 s1.heap.objs.size=none:=I1.hok.fresh (A9 _);refine ⟨.ref s1.heap.objs.size,Ag H1 s1.heap.objs.size (.tup xs),I1.laid (t':=s1.toks) (fun b u e=>A4 _ e) (A9 _) ?_,rfl,q _ hf⟩;exact ⟨z,us,r,⟨_,B9 _ rfl,rfl,_,rfl⟩⟩
theorem qAY (h:PA X es t):PE X (.List es pos) (tLst t):=by
 intro Ab s σ H Q I hq;refine wpAny_List_spliced (thn (h pos Ab s σ H _ I hq) fun us s1 ⟨xs,H1,I1,r,z,q⟩=>⟨by rw [<- r.length];exact z,?_⟩)
 have hf:H1 s1.heap.objs.size=none:=I1.hok.fresh (A9 _);refine ⟨.ref s1.heap.objs.size,Ag H1 s1.heap.objs.size (.lst xs),I1.laid (t':=s1.toks) (fun b u e=>A4 _ e) (A9 _) ?_,rfl,q _ hf⟩;exact ⟨z,us,0,r,B9 _ rfl⟩
end
abbrev Sp:=List V->Hp->VK->XK->Prop
abbrev CXT:=List Env->Hp->Shared->XK->Value->Shared->Prop
structure Env0 (P:B60) (w:World) (K:PySem.W.Frag) (mg:Str->Option Value) (base:Heap) (A:Around) (outer:List Env) (s:Shared) (H:Hp):Prop where
 frames:A.frames=some outer
 mod:Mod K mg base
 bs:∀ b o,base.get? b=some o->s.heap.get? b=some o/\H b=none
 bsz:base.objs.size<=s.heap.objs.size
 funs:s.heap.FunFrames base outer
 frf:∀ b ∈ frs outer,H b=none
 hok:HOk P w H s.heap
 bare:C10 s.gens
def CE (outer:List Env) (P:B60) (w:World) (H:Hp) (s:Shared) (Q:VK) (u:Value) (s':Shared):Prop:=
 ∃ v H',s'.os=s.os/\C10 s'.gens/\Un (frs outer) [] H H' s.heap s'.heap/\HOk P w H' s'.heap/\RelV v u/\Q v H'
def CR (CX:CXT) (outer:List Env) (P:B60) (w:World) (H:Hp) (s:Shared) (Q:VK) (E:XK) (r:Result) (s':Shared):Prop:=
 match r with
 | .ok (.ret u)=>CE outer P w H s Q u s'
 | .ok _=>False
 | .error e=>CX outer H s E e s'
structure FnOk (P:B60) (w:World) (K:PySem.W.Frag) (mg:Str->Option Value) (base:Heap) (CX:CXT) (k:Nat) (f:Addr) (fd:B65) (ps:List Str) (sp:Sp):Prop where
 len:∀ vs H Q E,sp vs H Q E->vs.length=ps.length
 run:∀ (A:Around) (outer:List Env) (s:Shared) (H:Hp) (args:Args) (us:List Value) (vs:List V) (Q:VK) (E:XK),Room k A->Env0 P w K mg base A outer s H->BindsTo s fd args (ps.zip us)->Vals vs us->sp vs H Q E->
  B96 (model P w) A (.call (.ref f) args) (CR CX outer P w H s Q E) s
section
variable {X:Cx} {Ab:List (Addr × Obj)} {σ:St} {H:Hp} {s s':Shared}
theorem Inv.env0 (I:Inv X Ab σ H s):Env0 X.prog X.w X.K X.mg X.base X.A X.stack s H:=
 ⟨I.ok.frames,I.ok.mod,I.bs,M5 I.ok.bsz I.sz,I.stack,I.stkFree,I.hok,I.bare⟩
theorem Inv.after {Q:VK} {u:Value} (I:Inv X Ab σ H s) (h:CE X.stack X.prog X.w H s Q u s'):EP X Ab σ Q u s':=by
 obtain ⟨v,H',os,bare,un,hok,r,q⟩:=h;obtain ⟨hh,g,d,t,os'⟩:=s';obtain rfl:os'=s.os:=os;exact ⟨v,H',I.call (h':=hh) (g':=g) (d':=d) (t':=t) (ch:=[]) un hok bare (fun b z=>absurd z (by simp)),r,q⟩
end
def qZV (sp:Sp) (dvs:List V) (E:XK) (t:TA):TE:=fun σ H Q=>t σ H fun vs H1=>sp (vs++dvs) H1 Q E
def Binds (K:PySem.W.Frag) (fd:B65) (ps:List Str) (ds:List Value):Prop:=
 ∀ (s:Shared) (us:List Value),K.In s.heap->(us++ds).length=ps.length->BindsTo s fd ⟨us,[]⟩ (ps.zip (us++ds))
theorem Binds.all {K:PySem.W.Frag} {fd:B65} {ps:List Str} (h:∀ us:List Value,us.length=ps.length->bindArgs fd ⟨us,[]⟩=pure (ps.zip us)):Binds K fd ps []:=fun s us _ hl=>by
 rw [J8] at hl ⊢;exact .of_eq (h us hl)
def qUO (CX:CXT) (X:Cx) (E:XK):Prop:=∀ (Ab:List (Addr × Obj)) (σ:St) (H:Hp) (s:Shared) (e:Value) (s':Shared),Inv X Ab σ H s->CX X.stack H s E e s'->X.xe e s'
section
variable {X:Cx} {CX:CXT} {k:Nat} {f C:Addr} {fd:B65} {ps:List Str} {sp:Sp} {dvs:List V} {ds:List Value} {E:XK} {x m:Str} {p pos apos:Pos} {e o:Expr} {es:List Expr} {ta:TE} {t:TA}
theorem qa3 {Ab:List (Addr × Obj)} {σ:St} {H:Hp} {s:Shared} {Q:VK} {us:List Value} {vs:List V} (F:FnOk X.prog X.w X.K X.mg X.base CX k f fd ps sp) (hr:Room k X.A) (hb:Binds X.K fd ps ds) (hd:Vals dvs ds) (hx:qUO CX X E)
  (I:Inv X Ab σ H s) (r:Vals vs us) (h:sp (vs++dvs) H Q E):wpAny (model X.prog X.w) X.A (call (.ref f) us) (EP X Ab σ Q) X.xe s:=by
 have r2:Vals (vs++dvs) (us++ds):=r.append hd;have hl:(us++ds).length=ps.length:=by rw [<- r2.length];exact F.len _ _ _ _ h
 refine wpAny_call (C00 (F.run X.A X.stack s H ⟨us,[]⟩ (us++ds) (vs++dvs) Q E hr I.env0 (hb s us I.kIn hl) r2 h) fun r s' hq=>?_);cases r with
 | error e=>exact hx Ab σ H s e s' I hq
 | ok fl=>
  cases fl with
  | ret u=>exact I.after hq
  | next=>exact Z3 hq
  | brk=>exact Z3 hq
  | cont=>exact Z3 hq
theorem qSF (F:FnOk X.prog X.w X.K X.mg X.base CX k f fd ps sp) (hr:Room k X.A) (hg:Gl X x) (hm:X.mg x=some (.ref f)) (hk:Q8 X.K (.ref f)=true) (hb:Binds X.K fd ps ds) (hd:Vals dvs ds) (hx:qUO CX X E)
  (ha:PA X (e::es) t) (hdb:(x == ("__debug__" : Str))=false:=by decide) (he:B68 (e::es) X.env=(false,eval e X.env)::B68 es X.env:=by rfl) (hpl:(backTo pos (B68 es X.env)).any (·.1)=false:=by rfl) :
  PE X (.Call (.Name x p) (e::es) [] pos) (qZV sp dvs E t):=by
 intro Ab s σ H Q I h;refine wpAny_Call_Name_kw (qSY I hg hm ?_ hdb);refine PySem.W.callWith_K (h₀:=X.base) I.ok.mod.kin hk (thn (ha pos Ab s σ H _ I h) fun us s1 ⟨vs,H1,I1,r,q⟩=>⟨I1.kIn,?_⟩) he hpl;exact qa3 F hr hb hd hx I1 r q
structure Mk (K:PySem.W.Frag) (C f:Addr):Prop where
 makes:PySem.W.makesIn K C=true
 init:Q7 K (.ref C) "__init__" = some (some (.ref f))
 fn:B48 K (.ref f)=true
 kp:Q8 K (.ref C)=true
end
section
variable {X:Cx} {CX:CXT} {k:Nat} {f C:Addr} {fd:B65} {ps ks:List Str} {sp:Sp} {E:XK} {x m:Str} {p pos apos kpos:Pos} {e o:Expr} {es:List Expr} {kws:List Keyword} {te ta:TE} {t tk:TA} {nm:Option Str}
structure KBinds (K:PySem.W.Frag) (fd:B65) (ps ks:List Str) (g:List Value->List Value->List Value) (gV:List V->List V->List V):Prop where
 to:∀ (s:Shared) (us ws:List Value),K.In s.heap->(g us ws).length=ps.length->BindsTo s fd ⟨us,ks.zip ws⟩ (ps.zip (g us ws))
 rel:∀ {vs:List V} {us:List Value} {zs:List V} {ws:List Value},Vals vs us->Vals zs ws->Vals (gV vs zs) (g us ws)
variable {g:List Value->List Value->List Value} {gV:List V->List V->List V}
end
structure FnScope (N P:List Str) (sc:Scope):Prop where
 kind:sc.kind=.function
 co:sc.isCoroutine=false
 gen:sc.isGenerator=false
 nd:N.Nodup
 pre:N.take P.length=P
 par:∀ x ∈ P,sc.names.lookup x=some .local\/sc.names.lookup x=some .cell
 nofree:∀ y ∈ sc.names,y.2 ≠ .free
theorem qN6 {kindOf:Str->Option C02} {x:Str}:∀ {binds:List (Str × Value)} {m:Str->Option Value},(∀ v,(x,v) ∉ binds)->bindL kindOf binds m x=m x
 | [],_,_=>rfl
 | (n,v)::r,m,h=>by
  unfold bindL;rw [qN6 fun w hw=>h w (B0 _ hw)]
  split
  ·have:x ≠ n:=by rintro rfl;exact h v A8
   simp [this]
  ·rfl
theorem qN8 {kindOf:Str->Option C02} {x:Str}:∀ {binds:List (Str × Value)} {m:Str->Option Value},(∀ v,(x,v) ∉ binds)->bindC kindOf binds m x=m x
 | [],_,_=>rfl
 | (n,v)::r,m,h=>by
  unfold bindC;rw [qN8 fun w hw=>h w (B0 _ hw)]
  split
  ·rfl
  ·have:x ≠ n:=by rintro rfl;exact h v A8
   simp [this]
theorem qN7 {kindOf:Str->Option C02} {x:Str} {v:Value}:∀ {P:List Str} {vs:List Value} {i:Nat} {m:Str->Option Value},P.Nodup->P[i]?=some x->vs[i]?=some v->kindOf x=some .local->
  bindL kindOf (P.zip vs) m x=some v
 | [],_,_,_,_,h,_,_=>by simp at h
 | _::_,[],_,_,_,_,h,_=>by simp at h
 | p::P,w::vs,0,m,nd,h1,h2,hk=>by
  simp at h1 h2;subst h1;subst h2;show bindL kindOf ((p,w)::P.zip vs) m p=_;unfold bindL;rw [qN6 fun v hv=>(J4.mp nd).1 (A44 hv).1,if_pos hk];simp
 | p::P,w::vs,i+1,m,nd,h1,h2,hk=>by
  show bindL kindOf ((p,w)::P.zip vs) m x=_;unfold bindL;exact qN7 (i:=i) (J4.mp nd).2 (by simpa using h1) (by simpa using h2) hk
theorem qN9 {kindOf:Str->Option C02} {x:Str} {v:Value}:∀ {P:List Str} {vs:List Value} {i:Nat} {m:Str->Option Value},P.Nodup->P[i]?=some x->vs[i]?=some v->kindOf x ≠ some .local->
  bindC kindOf (P.zip vs) m x=some v
 | [],_,_,_,_,h,_,_=>by simp at h
 | _::_,[],_,_,_,_,h,_=>by simp at h
 | p::P,w::vs,0,m,nd,h1,h2,hk=>by
  simp at h1 h2;subst h1;subst h2;show bindC kindOf ((p,w)::P.zip vs) m p=_;unfold bindC;rw [qN8 fun v hv=>(J4.mp nd).1 (A44 hv).1,if_neg hk];simp
 | p::P,w::vs,i+1,m,nd,h1,h2,hk=>by
  show bindC kindOf ((p,w)::P.zip vs) m x=_;unfold bindC;exact qN9 (i:=i) (J4.mp nd).2 (by simpa using h1) (by simpa using h2) hk
def start (N:List Str) (vs:List V):St:=vs.map some++D6 (N.length - vs.length) none
def cxOf (CX:CXT) (P:B60) (w:World) (K:PySem.W.Frag) (mg:Str->Option Value) (base:Heap) (N:List Str) (qual:Str) (scope:Scope) (f:Addr) (cd:Value) (A:Around) (outer:List Env) (s:Shared) (H:Hp) (E:XK):Cx where
 prog:=P
 w:=w
 K:=K
 mg:=mg
 base:=base
 A:=A.deeper (envOfC qual scope s.heap.objs.size f cd)
 N:=N
 s₀:=s
 H₀:=H
 env:=envOfC qual scope s.heap.objs.size f cd
 outer:=outer
 stack:=envOfC qual scope s.heap.objs.size f cd::outer
 ex:=[]
 calm:=true
 fn:=fun _=>true
 pn:=[]
 xe:=fun e s'=>wpAny (model P w) (A.deeper (envOfC qual scope s.heap.objs.size f cd)) (leaving (envOfC qual scope s.heap.objs.size f cd) e) (fun _ s''=>CX outer H s E e s'') (fun e' s''=>CX outer H s E e' s'') s'
theorem qQ2 {sc:Scope} {n:Nat} {x:Str} (h:sc.names.lookup x=some .cell):∃ c,(cellsFrom n sc.names []).lookup x=some c:=by
 have q:=A36 sc.names n [] (.inl h);exact R1.mp q
theorem qT7 {CX:CXT} {P:B60} {w:World} {K:PySem.W.Frag} {mg:Str->Option Value} {base:Heap} {N ps:List Str} {qual:Str} {scope:Scope} {f:Addr} {cd:Value} {A:Around} {outer:List Env} {s s1:Shared} {H:Hp} {E:XK} {us:List Value} {vs:List V}
  (S:FnScope N ps scope) (hd:A.handled=none) (e0:Env0 P w K mg base A outer s H) (hl:vs.length=ps.length) (r:Vals vs us)
  (x:InCallC s s.heap.objs.size (bindL (envOfC qual scope s.heap.objs.size f cd).kindOf (ps.zip us) fun _=>none) (cellsFrom (s.heap.objs.size+1) scope.names []) (bindC (envOfC qual scope s.heap.objs.size f cd).kindOf (ps.zip us) fun _=>none) s1) :
  Inv (cxOf CX P w K mg base N qual scope f cd A outer s H E) [] (start N vs) H s1:=by
 have hpl:ps.length<=N.length:=by have:=congrArg A18 S.pre;rw [E1] at this;lia
 obtain ⟨h1,tk,rfl,hk⟩:=x.done;have noA:∀ b:Addr,b ∉ (cxOf CX P w K mg base N qual scope f cd A outer s H E).ex:=fun b z=>absurd (show b ∈ ([]:List Addr) from z) (by simp)
 refine ⟨⟨e0.mod,S.kind,rfl,rfl,A9 _,fun y z c h1 h2=>?_,fun y hy=>?_,fun y c _ h=>?_,fun _=>hd,Around.frames_deeper e0.frames,.inr ⟨rfl,rfl⟩,fun b z=>absurd z (noA b),e0.bs,e0.bsz,fun b _ _=>noA b,fun b z=>absurd z (noA b),e0.funs,e0.frf⟩,
  rfl,e0.bare,Un.kept hk,⟨_,x.toInCall.ns,fun i y v h1 h2 h3=>?_⟩,fun y c h=>⟨_,x.cell y c h⟩,e0.hok.fresh (A9 _),fun y c h=>?_,fun p hp=>absurd (show p ∈ ([]:List (Addr × Obj)) from hp) (by simp),e0.hok.kept hk,?_⟩
 ·exact name_of_addr x.apart (Q5 h1) (Q5 h2)
 ·have hy:scope.names.lookup y=some .cell\/scope.names.lookup y=some .free:=hy;rcases hy with hy | hy
  ·exact qQ2 hy
  ·exact absurd rfl (S.nofree _ (Q5 hy))
 ·exact Y3 (x.above y c (Q5 h))
 ·have hi:i<vs.length:=by
   unfold start at h2;by_cases hi:i<vs.length
   ·exact hi
   ·rw [C2 (by simpa using hi)] at h2
    rw [A19] at h2
    split at h2 <;> cases h2
  have ha:vs[i]?=some v:=by
   unfold start at h2;rw [C5 (by simpa using hi),C4] at h2
   cases e:vs[i]? with
   | none=>rw [e] at h2;cases h2
   | some a=>rw [e] at h2;cases h2;rfl
  obtain ⟨u,hu,rv⟩:=r.get ha;have hp:ps[i]?=some y:=by
   rw [<- S.pre,V8 (by lia)];exact h1
  have ndP:ps.Nodup:=by rw [<- S.pre];exact S.nd.sublist (Z4 _ _)
  refine ⟨u,rv,?_⟩;rcases S.par y (B6 hp) with k | k
  ·exact .inl ⟨k,qN7 ndP hp hu k⟩
  ·obtain ⟨c,e⟩:=qQ2 (n:=s.heap.objs.size+1) k;refine .inr ⟨.inl k,c,e,?_⟩;have q:=x.cell y c e;rw [qN9 ndP hp hu (by show scope.names.lookup y ≠ _;rw [k];decide)] at q
   exact q
 ·exact e0.hok.fresh (Y3 (x.above y c (Q5 h)))
 ·unfold start;show _=N.length;rw [A5,A0,G7]
  lia
theorem qcJ {CX:CXT} {P:B60} {w:World} {K:PySem.W.Frag} {mg:Str->Option Value} {base:Heap} {k:Nat} {f:Addr} {name qual:Str} {params:Arguments} {body:List Stmt} {scope:Scope} {dV kV doc pm cdv ct oc:Value} {an od:Option Addr}
  {osl:Array (Option Value)} {N ps:List Str} {sp:Sp} (lk:K.lookup f=some ⟨oc,od,.func (Y5 name qual params body scope dV kV doc pm an cdv ct),osl⟩) (hcd:y9 K cdv qual=true) (S:FnScope N ps scope)
  (len:∀ vs H Q E,sp vs H Q E->vs.length=ps.length)
  (hbody:∀ (A:Around) (outer:List Env) (s:Shared) (H:Hp) (vs:List V) (Q:VK) (E:XK),Room k (A.deeper (envOfC qual scope s.heap.objs.size f cdv))->sp vs H Q E->
   ∃ t,PSs (cxOf CX P w K mg base N qual scope f cdv A outer s H E) body t/\t { nx:=fun _ H'=>Q .non H',rt:=Q } (start N vs) H) :
  FnOk P w K mg base CX (k+1) f (Y5 name qual params body scope dV kV doc pm an cdv ct) ps sp:=by
 refine ⟨len,fun A outer s H args us vs Q E hr e0 hb r hsp=>?_⟩;have hl:=len _ _ _ _ hsp;have KX:K.In s.heap:=e0.mod.kin.keeps fun b o e=>(e0.bs b o e).1;have lim:s.heap.NoLimit:=e0.mod.nolimit.keeps fun b o e=>(e0.bs b o e).1;have hkind:∀ y ∈ ps.zip us,scope.names.lookup y.1=some .local\/(scope.names.lookup y.1=some .cell/\((cellsFrom (s.heap.objs.size+1) scope.names []).lookup y.1).isSome=true):=fun ⟨n,v⟩ hy=>by
  rcases S.par n (A44 hy).1 with q | q
  ·exact .inl q
  ·exact .inr ⟨q,A36 _ _ _ (.inl q)⟩
 refine codeAny_call_function hr.depth (KX _ _ lk) rfl S.co S.gen rfl (PySem.W.codeRec_of KX hcd) (hb _ _ _ _ ?_);refine wpAny_newFunctionEnv_cells S.kind hkind fun env he s1 x=>?_;subst he;refine ⟨lim.keeps x.toInCall.keep,codeAny_func ?_⟩;obtain ⟨t,ht,hq⟩:=hbody A outer s H vs Q E (hr.deeper _) hsp;have I:Inv (cxOf CX P w K mg base N qual scope f cdv A outer s H E) [] (start N vs) H s1:=qT7 S hr.hd e0 hl r x;refine B71 (ht [] s1 (start N vs) H _ I hq) (fun fl s' hs=>?_) fun e s' hs=>hs;have fin:∀ {σ':St} {H':Hp} {v:V} {u:Value},Inv (cxOf CX P w K mg base N qual scope f cdv A outer s H E) [] σ' H' s'->RelV v u->Q v H'->CE outer P w H s Q u s':=
  fun {σ' H' v u} J rv q=>⟨v,H',J.os,J.bare,J.base,J.hok,rv,q⟩
 cases fl with
 | ret u=>
  obtain ⟨v,σ',H',J,rv,q⟩:=hs;exact fin J rv q
 | next=>
  obtain ⟨σ',H',J,q⟩:=hs;exact fin (v:=V.non) (u:=V5) J rfl q
 | brk=>
  obtain ⟨_,_,_,q⟩:=hs;exact Z3 q
 | cont=>
  obtain ⟨_,_,_,q⟩:=hs;exact Z3 q
section
variable {X:Cx} {x:Str} {p pos:Pos} {e:Expr} {es:List Expr} {t:TA} {id T:String} {r:List V->Hp->VK->Prop}
def tCB (r:List V->Hp->VK->Prop) (t:TA):TE:=fun σ H Q=>t σ H fun vs H1=>r vs H1 Q
theorem qA9 (hc:qC5 X (.builtin id) r) (hg:Gl X x) (hm:X.mg x=none) (hv:B67 x=some (.builtin id)) (ha:PA X (e::es) t) (hn:x ≠ "__name__":=by decide) (hdb:(x == ("__debug__" : Str))=false:=by decide)
  (he:B68 (e::es) X.env=(false,eval e X.env)::B68 es X.env:=by rfl) (hpl:(backTo pos (B68 es X.env)).any (·.1)=false:=by rfl):PE X (.Call (.Name x p) (e::es) [] pos) (tCB r t):=by
 intro Ab s σ H Q I h;refine wpAny_Call_Name_kw (qHN I hg hm hv ?_ hn hdb);exact PyProof.Rows.callWith_builtin1 (thn (ha pos Ab s σ H _ I h) fun us s1 ⟨vs,H1,I1,r1,q1⟩=>hc Ab s1 σ H1 vs us Q I1 r1 q1) he hpl
theorem qAD (hc:qC5 X (.type T) r) (hg:Gl X x) (hm:X.mg x=none) (hv:B67 x=some (.type T)) (ha:PA X (e::es) t) (hn:x ≠ "__name__":=by decide) (hdb:(x == ("__debug__" : Str))=false:=by decide)
  (he:B68 (e::es) X.env=(false,eval e X.env)::B68 es X.env:=by rfl) (hpl:(backTo pos (B68 es X.env)).any (·.1)=false:=by rfl):PE X (.Call (.Name x p) (e::es) [] pos) (tCB r t):=by
 intro Ab s σ H Q I h;refine wpAny_Call_Name_kw (qHN I hg hm hv ?_ hn hdb);exact O0 (thn (ha pos Ab s σ H _ I h) fun us s1 ⟨vs,H1,I1,r1,q1⟩=>hc Ab s1 σ H1 vs us Q I1 r1 q1) he hpl
end
end L2
namespace HT
open PySem PyProof.Rows
def lexLt:List Int->List Int->Bool
 | [],[]=>false
 | [],_::_=>true
 | _::_,[]=>false
 | x::xs,y::ys=>if x=y then lexLt xs ys else decide (x<y)
theorem lexLt_cons (x y:Int) (xs ys:List Int):lexLt (x::xs) (y::ys)=if x=y then lexLt xs ys else decide (x<y):=rfl
theorem qL4:lexLt [] []=false:=rfl
theorem qJP (y:Int) (ys:List Int):lexLt [] (y::ys)=true:=rfl
theorem qJQ (x:Int) (xs:List Int):lexLt (x::xs) []=false:=rfl
theorem qWA (A:Around) (s:Shared) (a:Int) (t:Tok) (c:Int) (u:Tok):∃ e,SeqAt.EqAt A s (.int a t) (.int c u) e/\(e=true ↔ a=c):=
 ⟨(a == c),A81 a t c u,by simp⟩
theorem qV2 (A:Around) (s:Shared) (a:Int) (t:Tok) (c:Int) (u:Tok) (prog:B60) (w:World) (E:Value->Shared->Prop) (Q:Value->Shared->Prop) (h:Q (.bool (decide (a<c))) s) :
  wpAny (model prog w) A (richCompare .Lt (.int a t) (.int c u)) Q E s:=
 (PyProof.Rows.lt_int h:wpAny (model prog w) A (B75 .Lt (.int a t) (.int c u)) Q E s)
section
open PySem.SeqAt
open PySem.AutoSeq1 (wpAny_loadPart')
open PySem.MeetsSeq PySem.MeetsSeq2 PySem.MeetsSeq3
theorem tuple_lt_ints (l b:Addr) (items items2:Array Value) (n n2:Nat) (dd dd2:Option Addr) (sl sl2:Array (Option Value)) (ns ms:List Int) (hi:B72 items.toList ns) (hj:B72 items2.toList ms) :
  Meets (Builtin.«tuple.__lt__» ⟨[.ref l,.ref b],[]⟩)
   (fun _ R s=>s.heap.get? l=some { cls:=.type "tuple",dict:=dd,data:=.seq items n,slots:=sl }/\s.heap.get? b=some { cls:=.type "tuple",dict:=dd2,data:=.seq items2 n2,slots:=sl2 }/\
    R (.ok (.ret (.bool (lexLt ns ms)))) s):=
 .of_wp fun prog w A R s h=>by
  obtain ⟨hp,g,d,tk,os⟩:=s;obtain ⟨hl,hb,h⟩:=h;have f2:=A06;have z1:items.size=ns.length:=by rw [<- hi.length];simp
  have z2:items2.size=ms.length:=by rw [<- hj.length];simp
  wp_walk using C23 hl,C23 hb,wpAny_forIn_list _ (fun rest b s'=>b.1=none/\s'=⟨hp,g,d,tk,os⟩/\∃ (vs ws:List Value) (ns' ms':List Int),rest=vs.zip ws/\
   B72 vs ns'/\B72 ws ms'/\ns'.length+items2.size=ms'.length+items.size/\R (.ok (.ret (.bool (lexLt ns' ms')))) ⟨hp,g,d,tk,os⟩) _
  case turn=>
   rintro ⟨y,x⟩ rest b s' ⟨hb',rfl,vs,ws,ns',ms',hz,hvi,hwi,hlen,hR⟩;cases hvi with
   | nil=>rw [List.zip_nil_left] at hz;cases hz
   | cons a t hvi'=>
    cases hwi with
    | nil=>rw [List.zip_nil_right] at hz;cases hz
    | cons c u hwi'=>
     rw [x6] at hz
     injection hz with hyx hrest
     injection hyx with hy hx
     subst hy hx;rw [lexLt_cons] at hR;simp only [D8] at hlen;obtain ⟨e,he,hiff⟩:=qWA A.in1 ⟨hp,g,d,tk,os⟩ a t c u;refine B57 (he prog w _ _ ?_);cases e with
     | true=>
      rw [if_pos (hiff.mp rfl)] at hR
      wp_walk
      exact ⟨rfl,rfl,_,_,_,_,hrest,hvi',hwi',by lia,hR⟩
     | false=>
      rw [if_neg (fun q=>absurd (hiff.mpr q) B5)] at hR;have hri:=qV2 A.in1 ⟨hp,g,d,tk,os⟩ a t c u prog w
      wp_walk using hri
      exact ⟨_,rfl,by simpa using hR⟩
  case fin=>
   rintro ⟨b1,b2⟩ s' ⟨hb',rfl,vs,ws,ns',ms',hz,hvi,hwi,hlen,hR⟩;simp only at hb';subst hb';have hv:lexLt ns' ms'=decide (items.size<items2.size):=by
    cases hvi with
    | nil=>
     cases hwi with
     | nil=>
      simp only [M7] at hlen;rw [qL4];exact (decide_eq_false (by lia)).symm
     | cons c u hw=>
      simp only [M7,D8] at hlen;rw [qJP];exact (decide_eq_true (by lia)).symm
    | cons a t hv=>
     cases hwi with
     | nil=>
      simp only [M7,D8] at hlen;rw [qJQ];exact (decide_eq_false (by lia)).symm
     | cons c u hw=>
      rw [x6] at hz;cases hz
   rw [hv] at hR
   wp_walk
   exact ⟨_,rfl,by simpa [Builtin.Tuple.tupleCompareSizes] using hR⟩
  case h=>
   exact ⟨rfl,rfl,items.toList,items2.toList,ns,ms,rfl,hi,hj,by lia,h⟩
end
section
variable {prog:B60} {w:World} {A:Around} {E:Value->Shared->Prop} {s:Shared}
theorem cat_tup {t b:Addr} {vs ws:List Value} {Q:Value->Shared->Prop} (ht:IsTup s.heap t vs.toArray) (hb:IsTup s.heap b ws.toArray) (hv:vs ≠ [])
  (h1:ws=[]->Q (.ref t) s) (h2:ws ≠ []->Q (.ref s.heap.objs.size) { s with heap:=s.heap.push { cls:=.type "tuple",data:=.seq (vs++ws).toArray } })
  (hsz:vs.length+ws.length<=B59):wpAny (model prog w) A (B86 .Add (.ref t) (.ref b)) Q E s:=by
 obtain ⟨⟨cls,dd,data,sl⟩,ho,hc,n,hd⟩:=id ht;obtain ⟨⟨cls2,dd2,data2,sl2⟩,ho2,hc2,n2,hd2⟩:=id hb;simp only at hc hd hc2 hd2;subst hc hd hc2 hd2;have e:vs.toArray++ws.toArray=(vs++ws).toArray:=by simp
 by_cases hw:ws=[]
 ·exact concat_meets ⟨_,ho,rfl⟩ ⟨_,ho2,rfl⟩ noFill_tuple_add seq_tuple_add A37 A20 (A07 _ _)
   (tuple_addW1 t b vs.toArray ws.toArray n n2 dd dd2 sl sl2 (by simpa using hv) (by simp [hw])) ⟨ho,ho2,h1 hw⟩
 ·refine concat_meets ⟨_,ho,rfl⟩ ⟨_,ho2,rfl⟩ noFill_tuple_add seq_tuple_add A37 A20 (A07 _ _)
   (tuple_addW2 t b vs.toArray ws.toArray n n2 dd dd2 sl sl2 (by simpa using hv) (by simpa using hw) (by rw [B4,B4];exact hsz)) ⟨ho,ho2,?_⟩
  rw [e];exact h2 hw
def sIx (n d:Nat):Option Int->Nat
 | none=>d
 | some v=>if v<0 then (v+(n:Int)).toNat else min v.toNat n
theorem sIx_none (n d:Nat):sIx n d none=d:=rfl
theorem sIx_nat (n d k:Nat):sIx n d (some (k:Int))=min k n:=by
 show (if (k:Int)<0 then ((k:Int)+(n:Int)).toNat else min (k:Int).toNat n)=min k n
 rw [if_neg (by lia),K9]
theorem qa2 (n d:Nat) (hd:d<=n) (o:Option Int):sIx n d o<=n:=by
 cases o with
 | none=>exact hd
 | some v=>
  show (if v<0 then (v+(n:Int)).toNat else min v.toNat n)<=n
  by_cases hv:v<0
  ·rw [if_pos hv];lia
  ·rw [if_neg hv];exact Nat.min_le_right _ _
theorem qU2 (v:Int) (n d:Nat):(if v<0 then max (v+(n:Int)) 0 else min v (n:Int))=((sIx n d (some v):Nat):Int):=by
 show (if v<0 then max (v+(n:Int)) 0 else min v (n:Int))=(((if v<0 then (v+(n:Int)).toNat else min v.toNat n):Nat):Int)
 by_cases hv:v<0
 ·simp only [if_pos hv];lia
 ·simp only [if_neg hv];lia
theorem qRB (lo hi:Option Int) (n:Nat):a8 lo hi 1 (n:Int)=(((sIx n 0 lo:Nat):Int),((sIx n n hi:Nat):Int)):=by
 have h1:¬ ((1:Int)<0):=by lia
 unfold a8;simp only [h1,if_false];refine Prod.ext ?_ ?_
 ·cases lo with
  | none=>rfl
  | some v=>exact qU2 v n 0
 ·cases hi with
  | none=>rfl
  | some v=>exact qU2 v n n
theorem qQH (i j:Nat):U8 (i:Int) (j:Int) 1=j - i:=by
 unfold U8;have h1:(1:Int) > 0:=by lia
 simp only [h1,if_true,Int.ediv_one]
 split <;> lia
theorem qJZ {v:Value} {o:Option Int} {Q:Option Int->Shared->Prop} (p:IsPart v o) (h:Q o s):wpAny (model prog w) A (Builtin.Slice.slicePartIndex v) Q E s:=by
 cases p with
 | none=>exact slicePart_none h
 | int i t=>exact slicePart_int h
theorem qHZ {sl:Addr} {vl vu:Value} {lo hi:Option Int} {n:Nat} {Q:Int × Int × Nat->Shared->Prop} (hs:s.heap.IsSliceOf sl vl vu .none) (pl:IsPart vl lo) (pu:IsPart vu hi)
  (h:Q (((sIx n 0 lo:Nat):Int),1,sIx n n hi - sIx n 0 lo) s):wpAny (model prog w) A (v8 (.ref sl) (pure (n:Int))) Q E s:=by
 obtain ⟨os,hos,hcs,hds⟩:=id hs;unfold v8 Builtin.Slice.sliceFields;refine B57 (B57 (B73 hos hds (x:=vl) rfl (B57 (B73 hos hds (x:=vu) rfl (B57 (B73 hos hds (x:=.none) rfl (B58 ?_)))))));refine B57 (slicePart_none ?_);show wpAny _ _ (if ((1:Int) == 0)=true then _ else _) _ _ s
 rw [if_neg (by decide)]
 refine B57 (qJZ pl (B57 (qJZ pu (B57 (B58 ?_)))));show wpAny _ _ (match a8 lo hi 1 (n:Int) with | (lo,hi)=>pure (lo,(1:Int),U8 lo hi 1)) _ _ s
 rw [qRB lo hi n];show wpAny _ _ (pure (((sIx n 0 lo:Nat):Int),(1:Int),U8 ((sIx n 0 lo:Nat):Int) ((sIx n n hi:Nat):Int) 1)) _ _ s;rw [qQH];exact B58 h
theorem qV5 (xs:Array Value) (i k:Nat):((G5 k).filterMap fun (m:Nat)=>xs[((i:Int)+(m:Int) * 1).toNat]?).toArray=((xs.toList.drop i).take k).toArray:=by
 have e:(fun (m:Nat)=>xs[((i:Int)+(m:Int) * 1).toNat]?)=fun m=>xs[i+m]?:=by
  funext m
  have:((i:Int)+(m:Int) * 1).toNat=i+m:=by lia
  rw [this]
 rw [e];have:=pick_run xs i k;rw [A82] at this;have e2:((fun x=>xs[x]?) ∘ fun x=>i+x)=fun m=>xs[i+m]?:=rfl;rw [e2] at this;rw [this]
theorem getItem_tuple_cut {t sl:Addr} {items:Array Value} {vl vu:Value} {lo hi:Option Int} {Q:Value->Shared->Prop} (ht:IsTup s.heap t items) (hs:s.heap.IsSliceOf sl vl vu .none) (pl:IsPart vl lo) (pu:IsPart vu hi)
  (hw:¬ (sIx items.size 0 lo=0/\sIx items.size items.size hi=items.size))
  (h:Q (.ref s.heap.objs.size) { s with heap:=s.heap.push { cls:=.type "tuple",data:=.seq ((items.toList.drop (sIx items.size 0 lo)).take (sIx items.size items.size hi - sIx items.size 0 lo)).toArray } })
  (hsz:items.size<=B59):wpAny (model prog w) A (getItem (.ref t) (.ref sl)) Q E s:=by
 have htake:sizeOk (.seq ((items.toList.drop (sIx items.size 0 lo)).take (sIx items.size items.size hi - sIx items.size 0 lo)).toArray):=by
  show ((items.toList.drop (sIx items.size 0 lo)).take (sIx items.size items.size hi - sIx items.size 0 lo)).toArray.size<=B59;rw [B4,E1,G8,C3]
  lia
 have hj:sIx items.size items.size hi<=items.size:=qa2 _ _ (A9 _) hi;obtain ⟨os,hos,hcs,hds⟩:=id hs;have hTs:s.TypeIs (.ref sl) "slice":=⟨os,hos,hcs⟩;unfold getItem
 try with_reducible refine B76 ?_
 first | refine B57 (B58 ?_) | skip
 refine B57 (wpAny_sequenceKey ht.typeIs (by decide) ?_)
 refine B57 (wpAny_callSpecial?_slot (name:=J7 "__getitem__") ht.typeIs V9
  (B74 V9 ht.typeIs entry_tuple_getitem ?_ (args_tuple_getitem _ _)))
 show wpAny _ _ (Builtin.Tuple.tupleItemsOf (.ref t) >>= _) _ _ s;refine B57 (tupleItemsOf_ ht ?_);refine B57 (wpAny_typeOf hTs ?_);rw [if_pos (by decide)]
 refine B57 (qHZ hs pl pu ?_);have hno:¬ ((((sIx items.size 0 lo:Nat):Int) == 0 && (1:Int) == 1 && (sIx items.size items.size hi - sIx items.size 0 lo) == items.size)=true):=by
  intro q;rw [C0,C0] at q;have q1:((sIx items.size 0 lo:Nat):Int)=0:=eq_of_beq q.1.1;have q2:sIx items.size items.size hi - sIx items.size 0 lo=items.size:=eq_of_beq q.2;exact hw ⟨by lia,by lia⟩
 show wpAny _ _ (if (((sIx items.size 0 lo:Nat):Int) == 0 && (1:Int) == 1 && (sIx items.size items.size hi - sIx items.size 0 lo) == items.size)=true then _ else _) _ _ s
 rw [if_neg hno,qV5]
 first
  | exact B57 (m:=P3 _) (B69 (B58 ⟨_,rfl,B58 h⟩) htake)
  | exact B57 (m:=P3 _) (B69 (B57 (B58 (B58 ⟨_,rfl,B58 h⟩))) htake)
  | exact B57 (B57 (m:=P3 _) (B69 (B58 (B58 ⟨_,rfl,B58 h⟩)) htake))
  | exact B57 (B57 (m:=P3 _) (B69 (B58 ⟨_,rfl,B58 h⟩) htake))
end
end HT
namespace L2
open PySem PySem.Spec PyProof.Rows
abbrev TO:=St->Hp->(Option Int->Hp->Prop)->Prop
def PO (X:Cx) (e:Option Expr) (t:TO):Prop:=
 ∀ (Ab:List (Addr × Obj)) (s:Shared) (σ:St) (H:Hp) (Q:Option Int->Hp->Prop),Inv X Ab σ H s->t σ H Q->
  wpAny (model X.prog X.w) X.A (evalPart e X.env) (fun u s'=>∃ o H',Inv X Ab σ H' s'/\IsPart u o/\Q o H') X.xe s
def qXT:TO:=fun _ H Q=>Q none H
def qbR (t:TE):TO:=fun σ H Q=>t σ H fun x H1=>∃ i,x=.int i/\Q (some i) H1
theorem qQU {ns:List Int}:∀ {us:List Value},Vals (ns.map V.int) us->B72 us ns:=by
 induction ns with
 | nil=>intro us r;rw [Y6] at r;cases r;exact .nil
 | cons n ns ih=>
  intro us r;rw [E8] at r;cases r with
  | cons r1 r2=>
   obtain ⟨t,e⟩:=r1;subst e;exact .cons n t (ih r2)
section
variable {X:Cx} {e:Expr} {te:TE} {lo hi:Option Expr} {tl th:TO} {pos p2:Pos}
theorem qDG:PO X none qXT:=by
 intro Ab s σ H Q I h;rw [evalPart_none];exact B58 ⟨none,H,I,.none,h⟩
theorem qDF (h:PE X e te):PO X (some e) (qbR te):=by
 intro Ab s σ H Q I hw;rw [evalPart_some];refine thn (h Ab s σ H _ I hw) fun u s1 ⟨x,H1,I1,r1,q1⟩=>?_;obtain ⟨i,rfl,q⟩:=q1;obtain ⟨t,rfl⟩:=r1;exact ⟨some i,H1,I1,.int i t,q⟩
def SlR (X:Cx) (r:V->Option Int->Option Int->Hp->VK->Prop):Prop:=
 ∀ (Ab:List (Addr × Obj)) (s:Shared) (σ:St) (H:Hp) (x:V) (v vl vu:Value) (lo hi:Option Int) (sl:Addr) (Q:VK),Inv X Ab σ H s->RelV x v->s.heap.IsSliceOf sl vl vu .none->IsPart vl lo->IsPart vu hi->r x lo hi H Q->
  ∃ T id,typeLookup (.type T) "__getitem__" = pure (some (.builtin id))/\s.TypeIs v T/\wpAny (model X.prog X.w) X.A (getItem v (.ref sl)) (EP X Ab σ Q) X.xe s
def tSl (r:V->Option Int->Option Int->Hp->VK->Prop) (te:TE) (tl th:TO):TE:=fun σ H Q=>te σ H fun x H1=>tl σ H1 fun l H2=>th σ H2 fun u H3=>r x l u H3 Q
theorem qCB {r:V->Option Int->Option Int->Hp->VK->Prop} (hr:SlR X r) (he:PE X e te) (hl:PO X lo tl) (hu:PO X hi th):PE X (.Subscript e (.Slice lo hi none p2) pos) (tSl r te tl th):=by
 intro Ab s σ H Q I h;refine Subscript_ (thn (he Ab s σ H _ I h) fun v s1 ⟨x,H1,I1,r1,q1⟩=>?_);refine wpAny_Slice (thn (hl Ab s1 σ H1 _ I1 q1) fun vl s2 ⟨l,H2,I2,pl,q2⟩=>thn (hu Ab s2 σ H2 _ I2 q2) fun vu s3 ⟨u,H3,I3,pu,q3⟩=>?_);rw [evalPart_none];refine B58 ?_;have I4:Inv X Ab σ H3 { s3 with heap:=s3.heap.push { cls:=.type "slice",data:=.fields #[vl,vu,.none] } }:=I3.kept (t':=s3.toks) fun b ob q=>A4 _ q;obtain ⟨T,id,hT,ht,hg⟩:=hr Ab { s3 with heap:=s3.heap.push { cls:=.type "slice",data:=.fields #[vl,vu,.none] } } σ H3 x v vl vu l u s3.heap.objs.size Q I4 r1 (B55 ..) pl pu q3;show wpAny (model X.prog X.w) X.A (subscriptTail e (.Slice lo hi none p2) v (.ref s3.heap.objs.size)) (EP X Ab σ Q) X.xe { s3 with heap:=s3.heap.push { cls:=.type "slice",data:=.fields #[vl,vu,.none] } };exact tail_any (ops:=[.ref s3.heap.objs.size,v]) ht hT hg (by with_unfolding_all rfl)
def cutV (xs:List V) (lo hi:Option Int):List V:=(xs.drop (HT.sIx xs.length 0 lo)).take (HT.sIx xs.length xs.length hi - HT.sIx xs.length 0 lo)
theorem qE9 (xs:List V) (lo hi:Option Int):(cutV xs lo hi).length<=xs.length:=by
 unfold cutV;rw [E1,G8]
 lia
def rSlT (K:PySem.W.Frag):V->Option Int->Option Int->Hp->VK->Prop:=fun x lo hi H Q=>∃ a xs,x=.ref a/\SqT K H a xs/\
 ¬ (HT.sIx xs.length 0 lo=0/\HT.sIx xs.length xs.length hi=xs.length)/\∀ p,H p=none->Q (.ref p) (Ag H p (.tup (cutV xs lo hi)))
theorem qS4:SlR X (rSlT X.K):=by
 intro Ab s σ H x v vl vu lo hi sl Q I rx hs pl pu h;obtain ⟨a,xs,rfl,hx,hw,q⟩:=h;cases rx;obtain ⟨its,r,ht,hz⟩:=I.tuple hx;have hlen:its.toArray.size=xs.length:=by rw [B4];exact r.length.symm
 refine ⟨"tuple",_,V9.lookup,ht.typeIs,?_⟩;refine HT.getItem_tuple_cut ht hs pl pu (by rw [hlen];exact hw) ?_ (by rw [hlen];exact hz)
 rw [hlen];refine ⟨.ref s.heap.objs.size,_,I.laid (t':=s.toks) (o:=.tup (cutV xs lo hi)) (fun b ob q=>A4 _ q) (A9 _) ?_,rfl,q _ (I.hok.fresh (A9 _))⟩;exact ⟨M5 (qE9 xs lo hi) hz,_,(r.drop (HT.sIx xs.length 0 lo)).take (HT.sIx xs.length xs.length hi - HT.sIx xs.length 0 lo),IsTup.new _ _⟩
def qa9 (K:PySem.W.Frag):R2:=fun x y H Q=>∃ a b xs ys,x=.ref a/\y=.ref b/\SqT K H a xs/\SqT K H b ys/\xs ≠ []/\xs.length+ys.length<=B59/\
 (ys=[]->Q (.ref a) H)/\(ys ≠ []->∀ p,H p=none->Q (.ref p) (Ag H p (.tup (xs++ys))))
theorem Vals.nil_iff {xs:List V} {us:List Value} (r:Vals xs us):us=[] ↔ xs=[]:=by
 cases r with
 | nil=>simp
 | cons _ _=>simp
theorem qSL:OpR X (B86 .Add) (qa9 X.K):=by
 intro Ab s σ H x y v u Q I rx ry h;obtain ⟨a,b,xs,ys,rfl,rfl,ha,hb,hx,hz,q1,q2⟩:=h;cases rx;cases ry;obtain ⟨its,r1,p1,_⟩:=I.tuple ha;obtain ⟨its2,r2,p2,_⟩:=I.tuple hb;refine HT.cat_tup p1 p2 (fun z=>hx (r1.nil_iff.mp z)) (fun z=>⟨.ref a,H,I,rfl,q1 (r2.nil_iff.mp z)⟩) (fun z=>?_) (by rw [<- r1.length,<- r2.length];exact hz)
 refine ⟨.ref s.heap.objs.size,_,I.laid (t':=s.toks) (o:=.tup (xs++ys)) (fun b ob q=>A4 _ q) (A9 _) ?_,rfl,q2 (fun w=>z (r2.nil_iff.mpr w)) _ (I.hok.fresh (A9 _))⟩;exact ⟨by rw [A5];exact hz,_,r1.append r2,IsTup.new _ _⟩
end
def ixN (n:Nat) (i:Int):Option Nat:=if 0<=i then (if i<n then some i.toNat else none) else if -(n:Int)<=i then some (i+n).toNat else none
def atI {α:Type} (xs:List α) (i:Int):Option α:=(ixN xs.length i).bind fun j=>xs[j]?
theorem qT4 {n:Nat} {i:Int} {j:Nat} (h:ixN n i=some j):seqIndex? i n=some j/\j<n/\-(n:Int)<=i/\i<n:=by
 unfold ixN at h;by_cases h0:0<=i
 ·rw [if_pos h0] at h;by_cases h1:i<n
  ·rw [if_pos h1] at h;have e:i.toNat=j:=J3 h;exact ⟨by rw [seqIndex_of h0 h1,e],by lia,by lia,h1⟩
  ·rw [if_neg h1] at h;cases h
 ·rw [if_neg h0] at h;by_cases h1 : -(n:Int)<=i
  ·rw [if_pos h1] at h;have e:(i+n).toNat=j:=J3 h;exact ⟨by rw [seqIndex_neg (by lia) h1,e],by lia,h1,by lia⟩
  ·rw [if_neg h1] at h;cases h
theorem qUI {α:Type} {xs:List α} {i:Int} {v:α} (h:atI xs i=some v):∃ j,seqIndex? i xs.length=some j/\xs[j]?=some v/\j<xs.length/\-(xs.length:Int)<=i/\i<xs.length:=by
 unfold atI at h;cases e:ixN xs.length i with
 | none=>rw [e] at h;cases h
 | some j=>
  rw [e] at h;obtain ⟨h1,h2,h3,h4⟩:=qT4 e;exact ⟨j,h1,h,h2,h3,h4⟩
theorem qUH {α:Type} {xs:List α} {j:Nat} {v:α} (h:xs[j]?=some v):atI xs (j:Int)=some v:=by
 have hj:j<xs.length:=(A3.mp h).1;have e:ixN xs.length (j:Int)=some j:=by
  unfold ixN;rw [if_pos (by lia),if_pos (by lia)];simp
 unfold atI;rw [e];exact h
theorem qLM {α:Type} (xs:List α) (v:α):atI (xs++[v]) (-1)=some v:=by
 have hl:(xs++[v]).length=xs.length+1:=by simp
 have e:ixN (xs++[v]).length (-1)=some xs.length:=by
  unfold ixN;rw [hl,if_neg (by decide),if_pos (by lia)]
  congr 1
  lia
 unfold atI;rw [e];show (xs++[v])[xs.length]?=some v;simp
def qZJ (b:Expr):Prop:=∀ o i,subscripted b false o i=operate [o,i] (getItem o i)
def IxR (X:Cx) (r:R2):Prop:=
 ∀ (value slice:Expr) (Ab:List (Addr × Obj)) (s:Shared) (σ:St) (H:Hp) (x y:V) (v u:Value) (Q:VK),Inv X Ab σ H s->RelV x v->RelV y u->r x y H Q->
  subscripted slice false v u=operate [v,u] (getItem v u)->wpAny (model X.prog X.w) X.A (subscriptTail value slice v u) (EP X Ab σ Q) X.xe s
def MtR (X:Cx) (id:String) (r:V->List V->Hp->VK->Prop):Prop:=
 ∀ (Ab:List (Addr × Obj)) (s:Shared) (σ:St) (H:Hp) (x:V) (xs:List V) (v:Value) (us:List Value) (Q:VK),Inv X Ab σ H s->RelV x v->Vals xs us->r x xs H Q->
  wpAny (model X.prog X.w) X.A (call (.builtin id) (v::us)) (EP X Ab σ Q) X.xe s
section
variable {X:Cx} {a b:Expr} {ta tb:TE} {pos:Pos}
theorem qC7 {r:R2} (hr:IxR X r) (ha:PE X a ta) (hb:PE X b tb) (hs:qZJ b):PE X (.Subscript a b pos) (tOp r ta tb):=by
 intro Ab s σ H Q I h;exact Subscript_ (binT ha hb I h fun v u s2 x y H2 I2 rx ry q=>hr a b Ab s2 σ H2 x y v u Q I2 rx ry q (hs _ _))
def rIxL (K:PySem.W.Frag):R2:=fun x y H Q=>∃ p xs i v,x=.ref p/\y=.int i/\SqL K H p xs/\atI xs i=some v/\Q v H
def rIxT (K:PySem.W.Frag):R2:=fun x y H Q=>∃ p xs i v,x=.ref p/\y=.int i/\SqT K H p xs/\atI xs i=some v/\Q v H
theorem qBT:IxR X (rIxL X.K):=by
 intro value slice Ab s σ H x y v u Q I rx ry h hs;obtain ⟨p,xs,i,z,rfl,rfl,hq,he,q⟩:=h;cases rx;obtain ⟨t,rfl⟩:=ry;obtain ⟨its,r,pl,hz⟩:=I.list hq;obtain ⟨j,h1,h2,h3,h4,h5⟩:=qUI he;obtain ⟨w,ew,rw'⟩:=r.get h2;have hl:=r.length;have hn:=qMK;have fin:EP X Ab σ Q w s:=⟨z,H,I,rw',q⟩;by_cases h0:0<=i
 ·have hj:i.toNat=j:=by
   rw [seqIndex_of h0 h5] at h1;exact J3 h1
  exact item_listR pl.isList h0 (by lia) (by rw [hj];simpa using ew) fin hs
 ·have hj:(i+(its.toArray.size:Int)).toNat=j:=by
   rw [seqIndex_neg (by lia) h4] at h1
   rw [B4,<- hl];exact J3 h1
  exact subscriptTail_builtinR (x:=w) pl.isList.typeIs slot_list_getitem.lookup
   (wpAny_getItem_list_neg (Q:=fun r s'=>r=w/\EP X Ab σ Q r s') pl.isList (by lia) (by rw [B4] <;> lia) (by lia) (by rw [hj];simpa using ew) ⟨rfl,fin⟩) hs
theorem qDO:IxR X (rIxT X.K):=by
 intro value slice Ab s σ H x y v u Q I rx ry h hs;obtain ⟨p,xs,i,z,rfl,rfl,hq,he,q⟩:=h;cases rx;obtain ⟨t,rfl⟩:=ry;obtain ⟨its,r,pl,hz⟩:=I.tuple hq;obtain ⟨j,h1,h2,h3,h4,h5⟩:=qUI he;obtain ⟨w,ew,rw'⟩:=r.get h2;have hl:=r.length;have hn:=qMK;have fin:EP X Ab σ Q w s:=⟨z,H,I,rw',q⟩;exact subscriptTail_builtinR (x:=w) pl.typeIs slot_tuple_getitem.lookup
  (getItem_tuple (j:=j) (Q:=fun r s'=>r=w/\EP X Ab σ Q r s') pl (by lia) (by lia) (by rw [B4,<- hl];exact h1) (by simpa using ew) ⟨rfl,fin⟩) hs
theorem qQL (its:List Value) (n j:Nat) (u:Value):R7 (·.setIfInBounds j u) { cls:=.type "list",data:=.seq its.toArray n }={ cls:=.type "list",data:=.seq (its.set j u).toArray n }:=by
 simp [R7]
theorem Inv.lst {Ab:List (Addr × Obj)} {σ:St} {H:Hp} {s:Shared} {p:Addr} {xs:List V} (I:Inv X Ab σ H s) (h:H p=some (.lst xs)) :
  ∃ (its:List Value) (n:Nat),Vals xs its/\s.heap.get? p=some { cls:=.type "list",data:=.seq its.toArray n }/\xs.length<=B59:=by
 obtain ⟨z,its,n,r,e⟩:=I.hok p _ h;exact ⟨its,n,r,e,z⟩
theorem Inv.lstUpd {Ab:List (Addr × Obj)} {σ:St} {H:Hp} {s:Shared} {p:Addr} {xs ys:List V} {its its':List Value} {n n':Nat} {f:Obj->Obj} (I:Inv X Ab σ H s) (h:H p=some (.lst xs))
  (ho:s.heap.get? p=some { cls:=.type "list",data:=.seq its.toArray n }) (hf:f { cls:=.type "list",data:=.seq its.toArray n }={ cls:=.type "list",data:=.seq its'.toArray n' }) (r:Vals ys its') (hz:ys.length<=B59) (t:Nat) :
  Inv X Ab σ (Ag H p (.lst ys)) { s with heap:=s.heap.update p f,toks:=t }:=by
 have e:(s.heap.update p f).get? p=some { cls:=.type "list",data:=.seq its'.toArray n' }:=by
  rw [P4 f ho (by rw [hf] <;> rfl),hf]
 refine I.write (x:=p) (e:=p) (by rw [h];trivial) (.inl rfl) (fun b u hb q=>(J5 _ _ (L8 hb)).trans q) ⟨_,e⟩ ?_
 exact ⟨hz,its',n',r,e⟩
def qc3:V->V->V->Hp->(Hp->Prop)->Prop:=fun o i v H Q=>∃ p xs k j,o=.ref p/\i=.int k/\H p=some (.lst xs)/\ixN xs.length k=some j/\Q (Ag H p (.lst (xs.set j v)))
theorem qUY:PSet X qc3:=by
 intro Ab s σ H o i v ov iv u Q I ro ri rv h;obtain ⟨p,xs,k,j,rfl,rfl,hp,hj,q⟩:=h;cases ro;obtain ⟨t,rfl⟩:=ri;obtain ⟨its,n,r,ho,hz⟩:=I.lst hp;obtain ⟨h1,h2,h3,h4⟩:=qT4 hj;have hl:=r.length;have hn:=qMK;have I':Inv X Ab σ (Ag H p (.lst (xs.set j v))) { s with heap:=s.heap.update p (R7 (·.setIfInBounds j u)) }:=
  I.lstUpd hp ho (qQL its n j u) (r.set rv j) (by rw [B19];exact hz) s.toks
 by_cases h0:0<=k
 ·have hk:k.toNat=j:=by
   rw [seqIndex_of h0 h4] at h1;exact J3 h1
  exact PySem.W.ki_setAt ho h0 (by lia) (by rw [B4,<- hl];exact h4) (by rw [hk];exact ⟨_,I',q⟩)
 ·have hk:(k+(its.toArray.size:Int)).toNat=j:=by
   rw [seqIndex_neg (by lia) h3] at h1
   rw [B4,<- hl];exact J3 h1
  exact PySem.W.ki_setBack ho (by lia) (by rw [B4,<- hl];exact h3) (by lia) (by rw [hk];exact ⟨_,I',q⟩)
theorem qLZ (lo hi:Option Int) (n:Nat):(C06 lo hi none n).1=((HT.sIx n 0 lo:Nat):Int)/\(C06 lo hi none n).2.1=((HT.sIx n n hi:Nat):Int)/\(C06 lo hi none n).2.2=1:=by
 refine ⟨?_,?_,rfl⟩
 ·cases lo with
  | none=>simp [C06,HT.sIx]
  | some i=>
   simp only [C06,HT.sIx,B08,show (1:Int) > 0 by decide,if_true]
   by_cases h:i<0
   ·simp only [h,if_true] <;> lia
   ·simp only [h,if_false] <;> lia
 ·cases hi with
  | none=>simp [C06,HT.sIx]
  | some i=>
   simp only [C06,HT.sIx,B08,show (1:Int) > 0 by decide,if_true]
   by_cases h:i<0
   ·simp only [h,if_true] <;> lia
   ·simp only [h,if_false] <;> lia
theorem qKR (its:List Value) (lo hi:Option Int):slicePick its.toArray lo hi none=((its.drop (HT.sIx its.length 0 lo)).take (HT.sIx its.length its.length hi - HT.sIx its.length 0 lo)).toArray:=by
 obtain ⟨h1,h2,h3⟩:=qLZ lo hi its.toArray.size;unfold slicePick;rw [h1,h2,h3];simp only [sliceRange_one,pick_run,B4] <;> rfl
def rSlL (K:PySem.W.Frag):V->Option Int->Option Int->Hp->VK->Prop:=fun x lo hi H Q=>∃ a xs,x=.ref a/\SqL K H a xs/\∀ p,H p=none->Q (.ref p) (Ag H p (.lst (cutV xs lo hi)))
theorem qFV:SlR X (rSlL X.K):=by
 intro Ab s σ H x v vl vu lo hi sl Q I rx hs pl pu h;obtain ⟨a,xs,rfl,hx,q⟩:=h;cases rx;obtain ⟨its,r,ht,hz⟩:=I.list hx;have hlen:=r.length;refine ⟨"list",_,slot_list_getitem.lookup,ht.isList.typeIs,?_⟩;refine wpAny_getItem_list_slice ht.isList hs pl pu .none (by simp) ?_ (by rw [B4] <;> lia)
 rw [qKR,<- hlen];refine ⟨.ref s.heap.objs.size,_,I.laid (t':=s.toks) (o:=.lst (cutV xs lo hi)) (fun b ob q=>A4 _ q) (A9 _) ?_,rfl,q _ (I.hok.fresh (A9 _))⟩;exact ⟨M5 (qE9 xs lo hi) hz,_,0,(r.drop (HT.sIx xs.length 0 lo)).take (HT.sIx xs.length xs.length hi - HT.sIx xs.length 0 lo),B9 _ rfl⟩
def qL9:V->Bool
 | .non=>true
 | .bl _=>true
 | .int _=>true
 | .str _=>true
 | _=>false
def eqV:V->V->Bool
 | .non,.non=>true
 | .bl a,.bl b=>a == b
 | .bl a,.int b=>(if a then 1 else 0) == b
 | .int a,.bl b=>a == (if b then 1 else 0)
 | .int a,.int b=>a == b
 | .str a,.str b=>a == b
 | _,_=>false
theorem qbJ {A:Around} {s:Shared} {y x:V} {u v:Value} (ry:RelV y u) (rx:RelV x v) (fy:qL9 y=true) (fx:qL9 x=true):SeqAt.EqAt A s u v (eqV y x):=by
 cases y with
 | non=>
  cases ry;cases x with
  | non=>cases rx;exact SeqAt.EqAt.same _
  | bl b=>cases rx;exact SeqAt.EqAt.none_bool b
  | int b=>obtain ⟨t,rfl⟩:=rx;exact SeqAt.EqAt.none_int b t
  | str b=>obtain ⟨t,rfl⟩:=rx;exact SeqAt.EqAt.none_str b t
  | _=>exact absurd (show false=true from fx) B5
 | bl a=>
  cases ry;cases x with
  | non=>cases rx;exact SeqAt.EqAt.bool_none a
  | bl b=>cases rx;exact SeqAt.EqAt.bool_bool a b
  | int b=>obtain ⟨t,rfl⟩:=rx;exact SeqAt.EqAt.bool_int a b t
  | str b=>obtain ⟨t,rfl⟩:=rx;exact SeqAt.EqAt.bool_str a b t
  | _=>exact absurd (show false=true from fx) B5
 | int a=>
  obtain ⟨t',rfl⟩:=ry;cases x with
  | non=>cases rx;exact SeqAt.EqAt.int_none a t'
  | bl b=>cases rx;exact SeqAt.EqAt.int_bool a t' b
  | int b=>obtain ⟨t,rfl⟩:=rx;exact A81 a t' b t
  | str b=>obtain ⟨t,rfl⟩:=rx;exact A77 a t' b t
  | _=>exact absurd (show false=true from fx) B5
 | str a=>
  obtain ⟨t',rfl⟩:=ry;cases x with
  | non=>cases rx;exact SeqAt.EqAt.str_none a t'
  | bl b=>cases rx;exact SeqAt.EqAt.str_bool a t' b
  | int b=>obtain ⟨t,rfl⟩:=rx;exact A78 a t' b t
  | str b=>obtain ⟨t,rfl⟩:=rx;exact SeqAt.EqAt.str_str a t' b t
  | _=>exact absurd (show false=true from fx) B5
 | _=>exact absurd (show false=true from fy) B5
def eqU (x:V) (u:Value):Bool:=match u with
 | .none=>eqV .non x
 | .bool b=>eqV (.bl b) x
 | .int i _=>eqV (.int i) x
 | .str z _=>eqV (.str z) x
 | _=>false
theorem qXA {x y:V} {u:Value} (r:RelV y u) (f:qL9 y=true):eqU x u=eqV y x:=by
 cases y with
 | non=>cases r;rfl
 | bl b=>cases r;rfl
 | int i=>obtain ⟨t,rfl⟩:=r;rfl
 | str z=>obtain ⟨t,rfl⟩:=r;rfl
 | _=>exact absurd (show false=true from f) B5
theorem qJM {x:V}:∀ {xs:List V} {us:List Value},Vals xs us->xs.all qL9=true->us.any (eqU x)=xs.any fun y=>eqV y x
 | _,_,.nil,_=>rfl
 | y::xs,u::us,.cons r t,f=>by
  rw [A83,C0] at f;rw [d5,d5,qXA r f.1,qJM t f.2]
theorem qGH {A:Around} {s:Shared} {x:V} {v:Value} (rx:RelV x v) (fx:qL9 x=true):∀ {xs:List V} {us:List Value},Vals xs us->xs.all qL9=true->∀ u ∈ us,SeqAt.EqAt A s u v (eqU x u)
 | _,_,.nil,_=>fun u hu=>by cases hu
 | y::xs,u::us,.cons r t,f=>fun u' hu=>by
  rw [A83,C0] at f;rcases B8.mp hu with rfl | hu
  ·rw [qXA r f.1];exact qbJ r rx f.1 fx
  ·exact qGH rx fx t f.2 u' hu
def inV (x:V) (xs:List V):Bool:=xs.any fun y=>eqV y x
def rIn (K:PySem.W.Frag) (neg:Bool):R2:=fun x y H Q=>∃ p xs,y=.ref p/\(SqL K H p xs\/SqT K H p xs)/\qL9 x=true/\xs.all qL9=true/\Q (.bl (if neg then !inV x xs else inV x xs)) H
theorem qMD:OpR X (B75 .In) (rIn X.K false):=by
 intro Ab s σ H x y v u Q I rx ry h;obtain ⟨p,xs,rfl,hq,fx,fs,q⟩:=h;cases ry;rcases hq with hq | hq
 ·obtain ⟨its,r,pl,hz⟩:=I.list hq;refine SeqAt.in_listAt (eqU x) pl.isList (fun w hw=>qGH rx fx r fs w (by simpa using hw)) ⟨.bl _,H,I,rfl,?_⟩
  rw [show its.toArray.any (eqU x)=its.any (eqU x) by simp,qJM r fs]
  exact q
 ·obtain ⟨its,r,pl,hz⟩:=I.tuple hq;refine SeqAt.in_tupleAt (eqU x) pl (fun w hw=>qGH rx fx r fs w (by simpa using hw)) ⟨.bl _,H,I,rfl,?_⟩
  rw [show its.toArray.any (eqU x)=its.any (eqU x) by simp,qJM r fs]
  exact q
theorem qD4:OpR X (B75 .NotIn) (rIn X.K true):=by
 intro Ab s σ H x y v u Q I rx ry h;obtain ⟨p,xs,rfl,hq,fx,fs,q⟩:=h;cases ry;rcases hq with hq | hq
 ·obtain ⟨its,r,pl,hz⟩:=I.list hq;refine SeqAt.notIn_listAt (eqU x) pl.isList (fun w hw=>qGH rx fx r fs w (by simpa using hw)) ⟨.bl _,H,I,rfl,?_⟩
  rw [show its.toArray.any (eqU x)=its.any (eqU x) by simp,qJM r fs]
  exact q
 ·obtain ⟨its,r,pl,hz⟩:=I.tuple hq;refine SeqAt.notIn_tupleAt (eqU x) pl (fun w hw=>qGH rx fx r fs w (by simpa using hw)) ⟨.bl _,H,I,rfl,?_⟩
  rw [show its.toArray.any (eqU x)=its.any (eqU x) by simp,qJM r fs]
  exact q
theorem qAE:qC5 X (.builtin "len") (fun xs H Q=>∃ p ys,xs=[.ref p]/\(SqL X.K H p ys\/SqT X.K H p ys)/\Q (.int ys.length) H):=by
 intro Ab s σ H xs us Q I r h;obtain ⟨p,ys,rfl,hq,q⟩:=h;obtain ⟨u,rfl,rx⟩:=qDK r;cases rx;have hn:=qMK;rcases hq with hq | hq
 ·obtain ⟨its,r',pl,hz⟩:=I.list hq;have hlen:=r'.length;exact Calls.call_len_list pl.isList (by simp only [B4] <;> lia) ⟨.int ys.length,H,I.tok _,⟨s.toks+1,by rw [B4,hlen]⟩,q⟩
 ·obtain ⟨its,r',pl,hz⟩:=I.tuple hq;have hlen:=r'.length;exact len_tuple pl (by simp only [B4] <;> lia) ⟨.int ys.length,H,I.tok _,⟨s.toks+1,by rw [B4,hlen]⟩,q⟩
theorem qHT:qC5 X (.type "list") (fun xs H Q=>∃ p ys,xs=[.ref p]/\(SqL X.K H p ys\/SqT X.K H p ys)/\∀ l,H l=none->Q (.ref l) (Ag H l (.lst ys))):=by
 intro Ab s σ H xs us Q I r h;obtain ⟨p,ys,rfl,hq,q⟩:=h;obtain ⟨u,rfl,rx⟩:=qDK r;cases rx;have fin:∀ (its:List Value),Vals ys its->ys.length<=B59->∀ (h':Heap) (c':Nat),(∀ b o',s.heap.get? b=some o'->h'.get? b=some o')->
   h'.get? s.heap.objs.size=some { cls:=.type "list",dict:=none,data:=.seq its.toArray c',slots:=#[] }->EP X Ab σ Q (.ref s.heap.objs.size) { s with heap:=h' }:=fun its r' hz h' c' kp e=>
  ⟨.ref s.heap.objs.size,_,I.laid (t':=s.toks) kp (A9 _) (show ObjOk X.prog X.w _ h' _ (.lst ys) from ⟨hz,its,c',r',e⟩),rfl,q _ (I.hok.fresh (A9 _))⟩
 rcases hq with hq | hq
 ·obtain ⟨its,r',pl,hz⟩:=I.list hq;have hlen:=r'.length;obtain ⟨o,ho,hc,n,hd⟩:=pl.isList;exact call_list_seq p (.inl rfl) ho hc hd (fun h' c' kp e=>fin its r' hz h' c' kp e) (by simp only [B4] <;> lia)
 ·obtain ⟨its,r',pl,hz⟩:=I.tuple hq;have hlen:=r'.length;obtain ⟨o,ho,hc,n,hd⟩:=pl;exact call_list_seq p (.inr rfl) ho hc hd (fun h' c' kp e=>fin its r' hz h' c' kp e) (by simp only [B4] <;> lia)
theorem qAS:qC5 X (.type "tuple") (fun xs H Q=>∃ p ys,xs=[.ref p]/\((SqL X.K H p ys/\∀ l,H l=none->Q (.ref l) (Ag H l (.tup ys)))\/(SqT X.K H p ys/\Q (.ref p) H))):=by
 intro Ab s σ H xs us Q I r h;obtain ⟨p,ys,rfl,h⟩:=h;obtain ⟨u,rfl,rx⟩:=qDK r;cases rx;rcases h with ⟨hq,q⟩ | ⟨hq,q⟩
 ·obtain ⟨its,r',pl,hz⟩:=I.list hq;have hlen:=r'.length;refine call_tuple_list pl.isList (fun h' kp=>?_) (by simp only [B4] <;> lia)
  have I1:Inv X Ab σ H { s with heap:=h' }:=I.kept (t':=s.toks) kp;have I2:Inv X Ab σ (Ag H h'.objs.size (.tup ys)) { s with heap:=h'.push { cls:=.type "tuple",data:=.seq its.toArray } }:=
   I1.laid (t':=s.toks) (fun b o e=>A4 _ e) (A9 _) (show ObjOk X.prog X.w _ _ _ (.tup ys) from ⟨hz,its,r',IsTup.new _ _⟩)
  exact ⟨.ref h'.objs.size,_,I2,rfl,q _ (I1.hok.fresh (A9 _))⟩
 ·obtain ⟨its,r',pl,hz⟩:=I.tuple hq;exact call_tuple_same pl ⟨.ref p,H,I,rfl,q⟩
def tyV (K:PySem.W.Frag) (T:String) (x:V) (H:Hp):Prop:=match x with
 | .str _=>T = "str"
 | .int _=>T = "int"
 | .ref p=>(T = "list"/\∃ xs,SqL K H p xs)\/(T = "tuple"/\∃ o,K.lookup p=some o/\o.cls=.type "tuple"/\o.dict=none)\/
   (T = "dict"/\((∃ Af,H p=some (.dK Af))\/∃ Af,H p=some (.dT Af)))\/(T = "set"/\∃ S n,H p=some (.set S n))
 | _=>False
theorem qWQ {Ab:List (Addr × Obj)} {σ:St} {H:Hp} {s:Shared} {T:String} {x:V} {v:Value} (I:Inv X Ab σ H s) (r:RelV x v) (ty:tyV X.K T x H) :
  s.TypeIs v T/\∀ a,v=.ref a->∃ ob,s.heap.get? a=some ob/\ob.dict=none:=by
 cases x with
 | str z=>
  obtain ⟨t,rfl⟩:=r;cases (show T = "str" from ty);exact ⟨typeIs_str s z t,fun _ e=>nomatch e⟩
 | int i=>
  obtain ⟨t,rfl⟩:=r;cases (show T = "int" from ty);exact ⟨typeIs_int s i t,fun _ e=>nomatch e⟩
 | ref p=>
  cases r;rcases ty with ⟨rfl,xs,hq⟩ | ⟨rfl,o,hk,hc,hd⟩ | ⟨rfl,hk⟩ | ⟨rfl,S,n,hk⟩
  ·obtain ⟨its,_,pl,_⟩:=I.list hq;refine ⟨pl.isList.typeIs,fun a e=>?_⟩;cases e;obtain ⟨o,n,e,c,hd,_⟩:=pl;exact ⟨o,e,hd⟩
  ·refine ⟨⟨o,I.kIn p o hk,hc⟩,fun a e=>?_⟩;cases e;exact ⟨o,I.kIn _ o hk,hd⟩
  ·have z:∃ o,s.heap.get? p=some o/\o.ExactDict:=by
    rcases hk with ⟨Af,hk⟩ | ⟨Af,hk⟩
    ·obtain ⟨_,_,_,_,o,_,_,e,ex,_⟩:=I.hok p _ hk;exact ⟨o,e,ex⟩
    ·obtain ⟨_,_,_,_,o,_,_,e,ex,_⟩:=I.hok p _ hk;exact ⟨o,e,ex⟩
   obtain ⟨o,e,ex⟩:=z;refine ⟨⟨o,e,ex.1⟩,fun a e2=>?_⟩;cases e2;exact ⟨o,e,ex.2.1⟩
  ·obtain ⟨o,_,_,_,e,ex,_⟩:=I.hok p _ hk;refine ⟨⟨o,e,ex.1⟩,fun a e2=>?_⟩;cases e2;exact ⟨o,e,ex.2.1⟩
 | _=>exact Z3 ty
def tBM0 (K:PySem.W.Frag) (T:String) (r:V->List V->Hp->VK->Prop) (to:TE):TE:=fun σ H Q=>to σ H fun x H1=>tyV K T x H1/\r x [] H1 Q
def tBM (K:PySem.W.Frag) (T:String) (r:V->List V->Hp->VK->Prop) (to:TE) (t:TA):TE:=fun σ H Q=>to σ H fun x H1=>tyV K T x H1/\t σ H1 fun xs H2=>r x xs H2 Q
variable {o e:Expr} {es:List Expr} {to:TE} {t:TA} {name:Str} {apos cpos:Pos} {T id:String} {r:V->List V->Hp->VK->Prop}
theorem qMA (pa:PlainAttrs T) (slot:Slot T name id) (hty:typeOf (.builtin id)=pure (.type "method_descriptor")) (hm:MtR X id r) (ho:PE X o to)
  (hbase:attributeBase o name X.env (eval o X.env)=eval o X.env:=by rfl) (hline:(apos.endLine == cpos.line)=true:=by rfl):PE X (.Call (.Attribute o name apos) [] [] cpos) (tBM0 X.K T r to):=by
 intro Ab s σ H Q I h;refine wpAny_Call_method0_late hbase hline (thn (ho Ab s σ H _ I h) fun v s1 ⟨x,H1,I1,r1,ty,q1⟩=>?_);obtain ⟨h1,h2⟩:=qWQ I1 r1 ty;exact ⟨T,id,pa,slot,hty,h1,h2,j4 rfl (PySem.evalArgs_none (hm Ab s1 σ H1 x [] v [] Q I1 r1 .nil q1))⟩
theorem qDZ (pa:PlainAttrs T) (slot:Slot T name id) (hty:typeOf (.builtin id)=pure (.type "method_descriptor")) (hm:MtR X id r) (ho:PE X o to) (ha:PA X (e::es) t)
  (hbase:attributeBase o name X.env (eval o X.env)=eval o X.env:=by rfl)
  (hfew:((backTo cpos (B68 (e::es) X.env)).all (fun x=>!x.1) && (backToKw cpos (keywordEach [] X.env)).all (fun x=>x.1.isSome)
   && decide ((e::es).length+([]:List Keyword).length+(if ([]:List Keyword).isEmpty then 0 else 1)<30))=true:=by rfl)
  (hline:(apos.endLine == cpos.line)=true:=by rfl) (hs:B68 (e::es) X.env=(false,eval e X.env)::B68 es X.env:=by rfl) (hplain:(backTo cpos (B68 es X.env)).any (·.1)=false:=by rfl) :
  PE X (.Call (.Attribute o name apos) (e::es) [] cpos) (tBM X.K T r to t):=by
 intro Ab s σ H Q I h;refine wpAny_Call_method_late hbase hfew hline rfl (thn (ho Ab s σ H _ I h) fun v s1 ⟨x,H1,I1,r1,ty,q1⟩=>?_);obtain ⟨h1,h2⟩:=qWQ I1 r1 ty;refine ⟨T,id,pa,slot,hty,h1,h2,?_⟩;have hA:=ha cpos Ab s1 σ H1 _ I1 q1;rw [hs] at hA ⊢;refine j4 (by show (false || (backTo cpos (B68 es X.env)).any (·.1))=false;rw [hplain] <;> rfl) (A54 ?_)
 exact thn hA fun us s2 ⟨vs,H2,I2,r2,q2⟩=>hm Ab s2 σ H2 x vs v us Q I2 r1 r2 q2
end
def MtM (X:Cx) (id:String) (r:V->List V->Hp->VK->Prop):Prop:=
 ∀ (Ab:List (Addr × Obj)) (s:Shared) (σ:St) (H:Hp) (x:V) (xs:List V) (v:Value) (us:List Value) (Q:VK),Inv X Ab σ H s->RelV x v->Vals xs us->r x xs H Q->
  wpAny (model X.prog X.w) X.A (call (.builtin id) (v::us)) (EP X Ab σ Q) X.xe s
theorem Vals.one:∀ {x:V} {us:List Value},Vals [x] us->∃ u,us=[u]/\RelV x u
 | _,_,.cons r .nil=>⟨_,rfl,r⟩
theorem Vals.zero:∀ {us:List Value},Vals [] us->us=[]
 | _,.nil=>rfl
theorem Vals.dropLast {xs:List V} {us:List Value} (h:Vals xs us):Vals xs.dropLast us.dropLast:=by
 induction h with
 | nil=>exact .nil
 | cons r t ih=>
  cases t with
  | nil=>exact .nil
  | cons q t'=>exact .cons r ih
theorem Vals.eraseIdx:∀ {xs:List V} {us:List Value} (i:Nat),Vals xs us->Vals (xs.eraseIdx i) (us.eraseIdx i)
 | _,_,_,.nil=>.nil
 | _,_,0,.cons _ t=>t
 | _,_,i+1,.cons r t=>.cons r (Vals.eraseIdx i t)
theorem Vals.rep {xs:List V} {us:List Value} (h:Vals xs us):∀ k:Nat,Vals (D6 k xs).flatten (D6 k us).flatten
 | 0=>.nil
 | k+1=>by
  rw [Q6,Q6,L9,L9];exact Vals.append h (Vals.rep h k)
theorem qQY {α:Type} (l:List α):l.eraseIdx (l.length - 1)=l.dropLast:=by
 induction l with
 | nil=>rfl
 | cons a r ih=>
  cases r with
  | nil=>rfl
  | cons b r=>
   have e:(a::b::r).length - 1=((b::r).length - 1)+1:=by
    have h1:(a::b::r).length=r.length+2:=rfl;have h2:(b::r).length=r.length+1:=rfl
    lia
   rw [e,A21,ih]
   all_goals rfl
theorem qJ2 {α:Type}:∀ (l:List α) (i:Nat),(l.eraseIdx i).length<=l.length
 | [],_=>A9 _
 | _::_,0=>j7 _
 | _::r,i+1=>Nat.succ_le_succ (qJ2 r i)
theorem qMU (its:List Value):∀ (k:Nat) (acc:List Value),
  B34 (fun x1 x2=>x1++x2) acc.toArray (D6 k its.toArray)=(acc++(D6 k its).flatten).toArray
 | 0,acc=>by simp
 | k+1,acc=>by
  have e:acc.toArray++its.toArray=(acc++its).toArray:=by simp
  have e2:(acc++its)++(D6 k its).flatten=acc++(D6 (k+1) its).flatten:=by
   rw [Q6,L9,I0]
  rw [<- e2,<- qMU its k (acc++its),<- e,Q6,W1]
section
variable {X:Cx} {Ab:List (Addr × Obj)} {σ:St} {H:Hp} {s:Shared} {l b:Addr} {xs ys zs:List V}
theorem Inv.lset {its its':List Value} {n:Nat} {f:Array Value->Array Value} {t':Nat} (I:Inv X Ab σ H s) (hH:H l=some (.lst xs))
  (e:s.heap.get? l=some { cls:=.type "list",data:=.seq its.toArray n }) (hf:f its.toArray=its'.toArray) (hv:Vals ys its') (hz:ys.length<=B59) :
  Inv X Ab σ (Ag H l (.lst ys)) { s with heap:=s.heap.update l (R7 f),toks:=t' }:=by
 have q:=PySem.IsL.update e f;rw [hf] at q;refine I.write (x:=l) (e:=l) (by rw [hH];exact trivial) (.inl rfl) (fun b' u hb hu=>(J5 s.heap (R7 f) (L8 hb)).trans hu) ⟨_,q⟩ ?_
 exact ⟨hz,its',_,hv,q⟩
theorem Inv.lnew {its:List Value} {t':Nat} (I:Inv X Ab σ H s) (hv:Vals ys its) (hz:ys.length<=B59) :
  Inv X Ab σ (Ag H s.heap.objs.size (.lst ys)) { s with heap:=s.heap.push { cls:=.type "list",data:=.seq its.toArray },toks:=t' }:=
 I.laid (fun _ _ q=>A4 _ q) (A9 _) ⟨hz,its,0,hv,B9 _ rfl⟩
theorem Inv.fresh (I:Inv X Ab σ H s):H s.heap.objs.size=none:=I.hok.fresh (A9 _)
theorem Inv.lstM (I:Inv X Ab σ H s) (hH:H l=some (.lst xs)):xs.length<=B59/\∃ (its:List Value) (n:Nat),Vals xs its/\xs.length=its.length/\s.heap.get? l=some { cls:=.type "list",data:=.seq its.toArray n }:=by
 obtain ⟨z,its,n,r,e⟩:=I.hok l _ hH;exact ⟨z,its,n,r,r.length,e⟩
theorem qKZ {n:Nat} (h:n<=B59):P6 n=false:=by
 unfold P6;exact decide_eq_false (by lia)
end
section
variable {X:Cx}
def qY2:V->List V->Hp->VK->Prop:=fun x vs H Q=>∃ l xs y,x=.ref l/\vs=[y]/\H l=some (.lst xs)/\xs.length<B59/\Q .non (Ag H l (.lst (xs++[y])))
theorem qBB:MtM X "list.append" qY2:=by
 intro Ab s σ H x vs v us Q I rx rv h;obtain ⟨l,xs,y,rfl,rfl,hH,hz,q⟩:=h;cases rx;obtain ⟨u,rfl,ru⟩:=rv.one;obtain ⟨z,its,n,r,hl,e⟩:=I.lstM hH;refine B95 F.slot_list_append ⟨_,e,rfl⟩ F.entry_list_append (F.args_list_append_2 _ _) (PySem.list_append l its.toArray n u (by rw [B4];lia)) ⟨e,?_⟩
 refine ⟨.non,_,I.lset (its':=its++[u]) hH e (by simp) (r.append (.cons ru .nil)) ?_,rfl,q⟩
 rw [A5,B3]
 lia
def qY1:V->List V->Hp->VK->Prop:=fun x vs H Q=>∃ l b xs zs,x=.ref l/\vs=[.ref b]/\H l=some (.lst xs)/\H b=some (.lst zs)/\xs.length+zs.length<=B59/\Q .non (Ag H l (.lst (xs++zs)))
theorem qJ0:MtM X "list.extend" qY1:=by
 intro Ab s σ H x vs v us Q I rx rv h;obtain ⟨l,b,xs,zs,rfl,rfl,hH,hB,hz,q⟩:=h;cases rx;obtain ⟨u,rfl,ru⟩:=rv.one;cases ru;obtain ⟨z,its,n,r,hl,e⟩:=I.lstM hH;obtain ⟨z2,its2,n2,r2,hl2,e2⟩:=I.lstM hB;have hsz:its.toArray.size+its2.toArray.size<=B59:=by rw [B4,B4];lia
 have hlong:¬ (!its.toArray.isEmpty && P6 (its.toArray.size+its2.toArray.size))=true:=by
  rw [qKZ hsz,U9];exact B5
 refine B95 A84 ⟨_,e,rfl⟩ A67 (A55 _ _)
  (AutoSeq1.list_extend_list_list_0 l its.toArray n b its2.toArray n2 hlong (by rw [B4];lia) (by lia)) ⟨e,e2,?_⟩
 refine ⟨.non,_,I.lset (its':=its++its2) hH e (by simp) (r.append r2) ?_,rfl,q⟩
 rw [A5]
 lia
def rPop:V->List V->Hp->VK->Prop:=fun x vs H Q=>∃ l xs y,x=.ref l/\vs=[]/\H l=some (.lst xs)/\xs[xs.length - 1]?=some y/\Q y (Ag H l (.lst xs.dropLast))
theorem qSR:MtM X "list.pop" rPop:=by
 intro Ab s σ H x vs v us Q I rx rv h;obtain ⟨l,xs,y,rfl,rfl,hH,hy,q⟩:=h;cases rx;have hus:=rv.zero;subst hus;obtain ⟨z,its,n,r,hl,e⟩:=I.lstM hH;obtain ⟨u,hu,ru⟩:=r.get hy;have hy':its.toArray[its.toArray.size - 1]?=some u:=by
  show its.toArray[its.length - 1]?=some u;rw [<- F2,<- hl];exact hu
 refine B95 F.slot_list_pop ⟨_,e,rfl⟩ B09 (F.args_list_pop_1 _) (MeetsSeq.list_pop_last l its.toArray n u hy' (by rw [B4];lia)) ⟨e,?_⟩
 refine ⟨y,_,I.lset (its':=its.dropLast) hH e ?_ r.dropLast ?_,ru,q⟩
 ·show its.toArray.eraseIdxIfInBounds (its.toArray.size - 1)=its.dropLast.toArray;rw [B4,W2,qQY]
 ·rw [List.length_dropLast]
  lia
def qa7:V->List V->Hp->VK->Prop:=fun x vs H Q=>∃ l xs i k y,x=.ref l/\vs=[.int i]/\H l=some (.lst xs)/\-(2 ^ 63)<=i/\i<2 ^ 63/\seqIndex? i xs.length=some k/\xs[k]?=some y/\Q y (Ag H l (.lst (xs.eraseIdx k)))
theorem qVE:MtM X "list.pop" qa7:=by
 intro Ab s σ H x vs v us Q I rx rv h;obtain ⟨l,xs,i,k,y,rfl,rfl,hH,h1,h2,hk,hy,q⟩:=h;cases rx;obtain ⟨u,rfl,ru⟩:=rv.one;obtain ⟨t,rfl⟩:=ru;obtain ⟨z,its,n,r,hl,e⟩:=I.lstM hH;obtain ⟨w,hw,rw'⟩:=r.get hy;refine B95 F.slot_list_pop ⟨_,e,rfl⟩ B09 (F.args_list_pop_2 _ _)
  (MeetsSeq.list_pop_at l its.toArray n i t k w (fitsIndex_both h1 h2) (by rw [B4,<- hl];exact hk) (by rw [<- F2];exact hw) (by rw [B4];lia)) ⟨e,?_⟩
 refine ⟨y,_,I.lset (its':=its.eraseIdx k) hH e ?_ (r.eraseIdx k) ?_,rw',q⟩
 ·show its.toArray.eraseIdxIfInBounds k=(its.eraseIdx k).toArray;rw [W2]
 ·have:=qJ2 xs k
  lia
def qa8:V->List V->Hp->VK->Prop:=fun x vs H Q=>∃ l xs,x=.ref l/\vs=[]/\H l=some (.lst xs)/\Q .non (Ag H l (.lst []))
theorem qVF:MtM X "list.clear" qa8:=by
 intro Ab s σ H x vs v us Q I rx rv h;obtain ⟨l,xs,rfl,rfl,hH,q⟩:=h;cases rx;have hus:=rv.zero;subst hus;obtain ⟨z,its,n,r,hl,e⟩:=I.lstM hH;refine B95 F.slot_list_clear ⟨_,e,rfl⟩ F.entry_list_clear (F.args_list_clear_1 _) (AutoSeq1.list_clear_list_0 l its.toArray n (by rw [B4];lia)) ⟨e,?_⟩
 exact ⟨.non,_,I.lset (its':=[]) (ys:=[]) hH e rfl .nil (F8 _),rfl,q⟩
def rCat:R2:=fun x y H Q=>∃ l b xs zs,x=.ref l/\y=.ref b/\H l=some (.lst xs)/\H b=some (.lst zs)/\xs.length+zs.length<=B59/\∀ p,H p=none->Q (.ref p) (Ag H p (.lst (xs++zs)))
theorem qME:OpR X (B86 .Add) rCat:=by
 intro Ab s σ H x y v u Q I rx ry h;obtain ⟨l,b,xs,zs,rfl,rfl,hH,hB,hz,q⟩:=h;cases rx;cases ry;obtain ⟨z,its,n,r,hl,e⟩:=I.lstM hH;obtain ⟨z2,its2,n2,r2,hl2,e2⟩:=I.lstM hB;refine PySem.P.add_list e e2 ?_ (by rw [B4,B4];lia)
 have ea:its.toArray++its2.toArray=(its++its2).toArray:=by simp
 rw [ea];exact ⟨.ref _,_,I.lnew (t':=s.toks) (r.append r2) (by rw [A5];lia),rfl,q _ I.fresh⟩
def rRep:R2:=fun x y H Q=>∃ l k xs,x=.ref l/\y=.int k/\H l=some (.lst xs)/\-(2 ^ 63)<=k/\k<2 ^ 63/\xs.length * k.toNat<=B59/\
 ∀ p,H p=none->Q (.ref p) (Ag H p (.lst (D6 k.toNat xs).flatten))
theorem qYL {α:Type} (xs:List α) (k:Nat):(D6 k xs).flatten.length=k * xs.length:=by
 induction k with
 | zero=>simp
 | succ k ih=>rw [Q6,L9,A5,ih,Nat.succ_mul,d3]
theorem qPN:OpR X (B86 .Mult) rRep:=by
 intro Ab s σ H x y v u Q I rx ry h;obtain ⟨l,k,xs,rfl,rfl,hH,h1,h2,hz,q⟩:=h;cases rx;obtain ⟨t,rfl⟩:=ry;obtain ⟨z,its,n,r,hl,e⟩:=I.lstM hH;have hlen:its.toArray.size * k.toNat<=B59:=by rw [B4,<- hl];exact hz
 have hcap:¬ its.toArray.size * k.toNat > (2 ^ 63 - 1) / 8:=by
  have:(B59:Nat)<=(2 ^ 63 - 1) / 8:=by decide
  lia
 have hfit:¬ (!Builtin.List.listFitsIndex k)=true:=by
  rw [fitsIndex_both h1 h2];exact B5
 have hlong:¬ P6 (its.toArray.size * k.toNat)=true:=by
  rw [qKZ hlen];exact B5
 have hnew:B34 (fun x1 x2=>x1++x2) #[] (D6 (if its.toArray.isEmpty=true then 0 else k.toNat) its.toArray)=(D6 k.toNat its).flatten.toArray:=by
  have f0:∀ m:Nat,B34 (fun x1 x2=>x1++x2) #[] (D6 m its.toArray)=(D6 m its).flatten.toArray:=fun m=>by
   have:=qMU its m [];rw [d6] at this;exact this
  rw [f0];cases its with
  | nil=>simp
  | cons a r'=>rw [if_neg (by simp)]
 refine wpAny_binaryOp_repeat_ref (T:="list") (U:="int") (by decide) ⟨_,e,rfl⟩ (fun s'=>typeIs_int s' k t) noFill_list_mul F.fills_int_mul F.slot_int_rmul repeat_list F.slot_int_index.lookup
  (B95 F.slot_int_rmul (typeIs_int s k t) F.entry_int_rmul (F.args_int_rmul_2 _ _) (int___rmul___int_list k t l its.toArray n)
   ⟨e,rfl,⟨_,e,rfl⟩,B95 F.slot_list_mul ⟨_,e,rfl⟩ F.entry_list_mul (F.args_list_mul_2 _ _) (AutoListH.list___mul___list_int_3 l its.toArray n k t hfit hcap hlong) ⟨e,?_⟩⟩)
 rw [hnew];exact ⟨.ref _,_,I.lnew (t':=s.toks) (r.rep k.toNat) (by rw [qYL,X0];exact hz),rfl,q _ I.fresh⟩
end
section
variable {prog:B60} {w:World} {A:Around} {E:Value->Shared->Prop} {s:Shared}
set_option maxRecDepth 100000 in
end
section
variable {X:Cx}
end
end L2
namespace Att
open PySem PySem.W PySem.Calls PyProof.Rows
theorem qJ5 {P:Params} {h:Heap}:∀ (ns:List Int) (vs:List Value),WellAll P h vs (ns.map WData.int)->B72 vs ns:=by
 intro ns
 induction ns with
 | nil=>
  intro vs w;rw [Y6] at w;cases w;exact .nil
 | cons n ns ih=>
  intro vs w;rw [E8] at w;cases w with
  | cons a b=>
   cases a;exact .cons _ _ (ih _ b)
theorem qS6 {l:OpenLaw} {n:Nat} (hn:l.most=some n) {P:Params} {h:Heap} {args:List WData} {vals:List Value}
  (hpre:l.row.toRowW.claim.pre args=true) (hwl:WellAll P h vals args) :
  ∃ a vs ns,vals=[E2 a]/\args=[WData.list (ns.map WData.int)]/\h.get? a=some { cls:=.type "list",data:=.seq vs.toArray }/\B72 vs ns/\ns.length<=n:=by
 have hsh:WShape.hasAll [] args [.list .int]=true:=(pre_splitW hpre).1;have hc:l.pre.holds [] { args:=args }=true:=(pre_splitW hpre).2;obtain ⟨d,r,rfl,h1,h2⟩:=hasAllW_cons hsh;obtain rfl:=hasAllW_nil h2;obtain ⟨xs,rfl,h3⟩:=hasW_list h1;obtain ⟨ns,rfl⟩:=items_int h3;have hlen:ns.length<=n:=by
  unfold OpenLaw.pre at hc;have h4:(WTm.not (.lt (.lit (.int (n:Int))) (.len (.arg 0)))).holds [] { args:=[.list (ns.map .int)] }=true:=by
   have h4:=(holds_andW hc).1;rw [hn] at h4;exact h4
  have h5:=condW_of h4 (w_not (w_lt w_lit (w_len_list (w_arg rfl))));rw [A0] at h5;refine n8 fun q=>?_;have q':(n:Int)<((ns.length:Nat):Int):=by lia
  first
   | (rw [decide_eq_true q'] at h5;exact absurd h5 (by decide))
   | (simp at h5;lia)
 cases hwl with
 | cons w1 w2=>
  cases w2;cases w1 with
  | list ho hall=>exact ⟨_,_,ns,rfl,rfl,ho,qJ5 ns _ hall,hlen⟩
theorem qSA (l:OpenLaw) (args:List WData):l.row.toRowW.claim.post args (.bool true) args=true:=
 postW_of (r:=l.row.toRowW) (X:=(true == true))
  (show WShape.has [] (.bool true) .bool=true by first | rfl | decide | simp [WShape.has,WShape.arms,WShape.armsAll])
  (show (WTm.eq .res (.lit (.bool true))).value [] { args:=args,res:=some (.bool true),after:=args }=some (.bool (true == true)) from w_eq_bool (w_res rfl) w_lit) rfl
theorem attach_call {l:OpenLaw} {n:Nat} {q:B60} {loose:List Str} {XP:(Str->Option Value)->Heap->Prop} {YP:World->Heap->Prop} {d:DefRec}
  (hn:l.most=some n) (hdf:d.params.defaults=[])
  (call:∀ (w:World) (s₀ s₁:Shared) (mg mb:Str->Option Value) (fa:Addr) (o:Obj) (pm cd doc:Value) (a:Addr) (vs:List Value) (ns:List Int),
   Ground q loose [] XP w s₀ mg mb s₁.heap->YP w s₁.heap->
   s₁.heap.get? fa=some o->o.data=.func (docDef d.name d.params d.body d.scope pm cd doc)->s₁.heap.CodeRec cd d.name->mg d.name=some (.ref fa)->
   s₁.heap.get? a=some { cls:=.type "list",data:=.seq vs.toArray }->B72 vs ns->ns.length<=n->s₁.gens=#[]->
   B96 (model l.prog w) callerA (.call (.ref fa) ⟨[.ref a],[]⟩) (fun r s'=>r=.ok (.ret (.bool true))/\OldK s₁.heap s'.heap/\s'.os=s₁.os/\C10 s'.gens) s₁) :
  WalkO q loose XP YP l.row.toRowW d [] (fun f vs=>B35 f vs):=by
 intro w s₀ s₁ mg mb G Y fa o pm cd doc dV kV ho hd hcd hD hmg hg args vals as hpre hlay hrd hwl hlo;obtain rfl:dV=.none:=Dflts.none hD hdf;obtain rfl:kV=.none:=Dflts.noKw hD;obtain ⟨a,vs,ns,rfl,rfl,hobj,hints,hlen⟩:=qS6 hn hpre hwl;refine enter_call (C00 (call w s₀ s₁ mg mb fa o pm cd doc a vs ns G Y ho (fd_plain hd) hcd hmg hobj hints hlen hg) fun r s' hq=>?_);obtain ⟨rfl,h2,h3,h4⟩:=hq;exact ⟨.inl ⟨.bool true,.bool true,[],rfl,fun _=>rfl,.bool true,qSA l _,fun _=>⟨List.Pairwise.nil,fun _ hm=>(nomatch hm)⟩⟩,h2,h3,h4⟩
section
variable {prog:B60} {w:World} {A:Around} {E:Value->Shared->Prop} {s:Shared} {K:Frag}
end
end Att
namespace L2
open PySem PySem.Spec PyProof.Rows
theorem qIO:∀ {vs:List Value} {ns:List Int},B72 vs ns->Vals (ns.map V.int) vs
 | _,_,.nil=>.nil
 | _,_,.cons n t h=>.cons ⟨t,rfl⟩ (qIO h)
def Only (H:Hp):Prop:=∀ b,H b=none\/∃ o xs,H b=some (.frz o (.lst xs))
theorem qVO {P:B60} {w:World} {K:PySem.W.Frag} {mg mb:Str->Option Value} {CX:CXT} {k:Nat} {fa a:Addr} {fd:B65} {x:Str} {sp:Sp} {s₁:Shared} {vs:List Value} {ns:List Int}
  (KX:K.In s₁.heap) (hns:s₁.heap.Ns B63 mg) (hb:s₁.heap.Ns builtinsNs mb) (hbb:∀ x:Str,x ≠ "__name__"->mb x=B67 x) (hlim:s₁.heap.NoLimit) (hg:s₁.gens=#[])
  (ha:s₁.heap.get? a=some { cls:=.type "list",data:=.seq vs.toArray }) (hi:B72 vs ns) (hl:ns.length<=B59) (hr:Room k callerA)
  (F:∀ base:Heap,K.In base->base.Ns B63 mg->FnOk P w K mg base CX k fa fd [x] sp) (hbind:∀ (s:Shared) (u:Value),BindsTo s fd ⟨[u],[]⟩ [(x,u)])
  (hsp:∀ H:Hp,Only H->SqL K H a (ns.map V.int)->sp [.ref a] H (fun v _=>v=.bl true) fun _ _ _=>False)
  (hCX:∀ H e s',CX [] H s₁ (fun _ _ _=>False) e s'->False) :
  B96 (model P w) callerA (.call (.ref fa) ⟨[.ref a],[]⟩) (fun r s'=>r=.ok (.ret (.bool true))/\OldK s₁.heap s'.heap/\s'.os=s₁.os/\C10 s'.gens) s₁:=by
 have rv:=qIO hi;have lenV:=hi.length
 -- from an abstract heap in which nothing but the script may be tracked
 have core:∀ H:Hp,Only H->SqL K H a (ns.map V.int)->HOk P w H s₁.heap->(∀ b,H b ≠ none->b=a)->(H a ≠ none->K.lookup a=none)->
   B96 (model P w) callerA (.call (.ref fa) ⟨[.ref a],[]⟩) (fun r s'=>r=.ok (.ret (.bool true))/\OldK s₁.heap s'.heap/\s'.os=s₁.os/\C10 s'.gens) s₁:=by
  intro H hO hS hok hA hK;have base_of:∀ {b:Addr} {o:Obj},s₁.heap.get? b=some o->H b=none->(hidT s₁.heap H).get? b=some o:=fun e n=>qVT e n;have noA:∀ {b:Addr} {o:Obj} {es:Array DictEntry} {ep:Nat},s₁.heap.get? b=some o->o.data=.dict es ep->H b=none:=fun {b o es ep} e d=>by
   cases q:H b with
   | none=>rfl
   | some u=>
    have e':b=a:=hA b (by rw [q];simp)
    subst e';rw [ha] at e;cases e;have d':B56 vs.toArray _=Data.dict es ep:=d;cases d'
  have nsK:∀ {b:Addr} {m:Str->Option Value},s₁.heap.Ns b m->(hidT s₁.heap H).Ns b m:=fun {b m} ⟨o,es,ep,e,d,r⟩=>⟨o,es,ep,base_of e (noA e d),d,r⟩;have hKb:K.In (hidT s₁.heap H):=fun b o e=>base_of (KX b o e) (by
   cases q:H b with
   | none=>rfl
   | some u=>
    have e':b=a:=hA b (by rw [q];simp)
    subst e';rw [hK (by rw [q];simp)] at e;cases e)
  have hM:Mod K mg (hidT s₁.heap H):=⟨hKb,nsK hns,⟨mb,nsK hb,hbb⟩,let ⟨mc,h1,h2⟩:=hlim;⟨mc,nsK h1,h2⟩⟩
  have e0:Env0 P w K mg (hidT s₁.heap H) callerA [] s₁ H:=⟨rfl,hM,fun b o e=>qYB e,Nat.le_of_eq (qTC _ _),trivial,fun b hb=>absurd (show b ∈ ([]:List Addr) from hb) (by simp),hok,.of_eq hg⟩
  refine C00 ((F _ hKb (nsK hns)).run callerA [] s₁ H ⟨[.ref a],[]⟩ [.ref a] [.ref a] _ _ hr e0 (hbind s₁ (.ref a)) (.cons rfl .nil) (hsp H hO hS)) fun r s' h=>?_;cases r with
  | error e=>exact (hCX H e s' h).elim
  | ok fl=>
   cases fl with
   | next=>exact Z3 h
   | brk=>exact Z3 h
   | cont=>exact Z3 h
   | ret u=>
    obtain ⟨v,H',os,bare,un,hok',r',q⟩:=h;have q':v=.bl true:=q;subst q';obtain rfl:u=V6 true:=r';refine ⟨rfl,OldK.of_keep fun b o e=>?_,os,bare⟩;cases q:H b with
    | none=>exact un.keep b o e q (by intro z;exact absurd (show b ∈ ([]:List Addr) from z) (by simp)) (by simp)
    | some u=>
     rcases hO b with z | ⟨ob,xs,z⟩
     ·rw [q] at z;cases z
     ·have z2:=un.frzs b ob _ z;obtain ⟨e1,_⟩:=hok b _ z;obtain ⟨e2,_⟩:=hok' b _ z2;rw [e] at e1;cases e1;exact e2
 cases hk:K.lookup a with
 | some o=>
  -- the script is one of the module's own objects
  have e:=KX a o hk;rw [ha] at e;cases e;refine core (fun _=>none) (fun _=>.inl rfl) (.inr ⟨_,vs.toArray,_,hk,rfl,rfl,rfl,by rw [B4,lenV];exact hl,by simpa using rv⟩) (fun b u z=>by have z':(none:Option HO)=some u:=z;cases z') (fun b z=>absurd rfl z) fun z=>absurd rfl z
 | none=>
  refine core (fun b=>if b=a then some (.frz { cls:=.type "list",data:=.seq vs.toArray } (.lst (ns.map V.int))) else none) (fun b=>?_) (.inl (.inr ⟨{ cls:=.type "list",data:=.seq vs.toArray },if_pos rfl⟩)) (fun b u z=>?_) (fun b z=>?_) fun _=>hk
  ·by_cases hb:b=a
   ·exact .inr ⟨_,_,if_pos hb⟩
   ·exact .inl (if_neg hb)
  ·by_cases hb:b=a
   ·have z':=(if_pos hb).symm.trans z;cases z';subst hb;exact ⟨ha,by rw [A0];exact hl,vs,_,rv,ha⟩
   ·have z':=(if_neg hb).symm.trans z;cases z'
  ·by_cases hb:b=a
   ·exact hb
   ·exact absurd (if_neg hb) z
theorem walk_of {l:PySem.W.OpenLaw} {n k:Nat} {q:B60} {loose:List Str} {XP:(Str->Option Value)->Heap->Prop} {YP:World->Heap->Prop} {d:DefRec} {K:Params->PySem.W.Frag} {CX:World->CXT} {sp:World->Sp} {x:Str}
  (hn:l.most=some n) (hn2:n<=B59) (hdf:d.params.defaults=[]) (hr:Room k callerA)
  (hY:∀ (w:World) (h:Heap),YP w h->(K w.params).In h)
  (F:∀ (w:World) (mg:Str->Option Value) (fa:Addr) (h:Heap),(K w.params).In h->h.Ns B63 mg->mg d.name=some (.ref fa)->
   ∃ fd:B65,(∀ (s:Shared) (u:Value),BindsTo s fd ⟨[u],[]⟩ [(x,u)])/\
    ∀ base:Heap,(K w.params).In base->base.Ns B63 mg->FnOk l.prog w (K w.params) mg base (CX w) k fa fd [x] (sp w))
  (hsp:∀ (w:World) (H:Hp) (a:Addr) (ns:List Int),ns.length<=n->Only H->SqL (K w.params) H a (ns.map V.int)->sp w [.ref a] H (fun v _=>v=.bl true) fun _ _ _=>False)
  (hCX:∀ (w:World) (H:Hp) (s:Shared) (e:Value) (s':Shared),CX w [] H s (fun _ _ _=>False) e s'->False) :
  PySem.W.WalkO q loose XP YP l.row.toRowW d [] (fun f vs=>B35 f vs):=by
 refine Att.attach_call hn hdf fun w s₀ s₁ mg mb fa o pm cd doc a vs ns G Y ho hd hcd hmg hobj hints hlen hg=>?_;have KX:=hY w _ Y;obtain ⟨fd,hb,hF⟩:=F w mg fa _ KX G.T.g hmg;exact qVO KX G.T.g G.T.b G.T.builtins G.T.nolimit hg hobj hints (M5 hlen hn2) hr hF hb (fun H hO hS=>hsp w H a ns hlen hO hS) fun H e s'=>hCX w H s₁ e s'
def qHC (s:Stmt):Arguments:=match s with
 | .FunctionDef _ a _ _ _ _ _ _ _ _=>a
 | _=>{ posonlyargs:=[],args:=[],vararg:=none,kwonlyargs:=[],kw_defaults:=[],kwarg:=none,defaults:=[] }
def qG3 (s:Stmt):List Stmt:=match s with
 | .FunctionDef _ _ b _ _ _ _ _ _ _=>b
 | _=>[]
def qAI (s:Stmt):Scope:=match s with
 | .FunctionDef _ _ _ _ _ _ sc _ _ _=>sc
 | _=>{ kind:=.function,names:=[],isGenerator:=false,isCoroutine:=false }
abbrev CX0:CXT:=fun _ _ _ _ _ _=>False
abbrev E0:XK:=fun _ _ _=>False
theorem qaH {X:Cx}:qUO CX0 X E0:=fun _ _ _ _ _ _ _ h=>h.elim
structure Fun (K:PySem.W.Frag) (x qual:Str) (st:Stmt) (f:Addr) (fd:B65):Prop where
 ex:∃ (oc:Value) (od:Option Addr) (kV doc pm:Value) (an:Option Addr) (cdv ct:Value) (osl:Array (Option Value)),
  fd=Y5 x qual (qHC st) (qG3 st) (qAI st) .none kV doc pm an cdv ct/\K.lookup f=some ⟨oc,od,.func fd,osl⟩/\y9 K cdv qual=true
 kp:Q8 K (.ref f)=true
section
variable {P:B60} {w:World} {K:PySem.W.Frag} {mg:Str->Option Value} {base:Heap}
theorem Fun.ok {x qual:Str} {st:Stmt} {f:Addr} {fd:B65} {N ps:List Str} {k:Nat} {sp:Sp} (F:Fun K x qual st f fd) (S:FnScope N ps (qAI st)) (len:∀ vs H Q E,sp vs H Q E->vs.length=ps.length)
  (hbody:∀ (cdv:Value) (A:Around) (outer:List Env) (s:Shared) (H:Hp) (vs:List V) (Q:VK) (E:XK),Room k (A.deeper (envOfC qual (qAI st) s.heap.objs.size f cdv))->sp vs H Q E->
   ∃ t,PSs (cxOf CX0 P w K mg base N qual (qAI st) f cdv A outer s H E).nox (qG3 st) t/\t { nx:=fun _ H'=>Q .non H',rt:=Q } (start N vs) H):FnOk P w K mg base CX0 (k+1) f fd ps sp:=by
 obtain ⟨oc,od,kV,doc,pm,an,cdv,ct,osl,rfl,lk,hcd⟩:=F.ex;refine qcJ lk hcd S len fun A outer s H vs Q E hr hsp=>?_;obtain ⟨t,h,q⟩:=hbody cdv A outer s H vs Q E hr hsp;exact ⟨t,h.nox,q⟩
theorem Fun.binds {x qual:Str} {st:Stmt} {f:Addr} {fd:B65} {ps:List Str} (F:Fun K x qual st f fd)
  (h:∀ (kV doc pm:Value) (an:Option Addr) (cdv ct:Value) (us:List Value),us.length=ps.length->bindArgs (Y5 x qual (qHC st) (qG3 st) (qAI st) .none kV doc pm an cdv ct) ⟨us,[]⟩=pure (ps.zip us)):Binds K fd ps []:=by
 obtain ⟨oc,od,kV,doc,pm,an,cdv,ct,osl,rfl,lk,hcd⟩:=F.ex;exact .all (h kV doc pm an cdv ct)
theorem fun_mk {x qual:Str} {st:Stmt} {f:Addr} {oc:Value} {od an:Option Addr} {osl:Array (Option Value)} {kV doc pm cdv ct:Value} (l:K.lookup f=some ⟨oc,od,.func (Y5 x qual (qHC st) (qG3 st) (qAI st) .none kV doc pm an cdv ct),osl⟩)
  (c:y9 K cdv qual=true) (k:Q8 K (.ref f)=true):Fun K x qual st f (Y5 x qual (qHC st) (qG3 st) (qAI st) .none kV doc pm an cdv ct):=⟨⟨oc,od,kV,doc,pm,an,cdv,ct,osl,rfl,l,c⟩,k⟩
end
theorem qH9 {A:Around} {k:Nat} (hr:Room k A):A.units+1<cLine:=d7 (Nat.add_le_add_left (by decide:1<=64) _) hr.units
theorem qB8 {n:Nat} (h:n<=1000):n<B59:=d7 h (by decide)
section
variable {X:Cx}
theorem pv (i:Nat) {x:Str} {pos:Pos} (hN:X.N[i]?=some x:=by rfl) (hv:Vis X.env.scope x:=by first | exact E5 rfl | exact A64 (E5 rfl) | exact A64 (A64 rfl)) (hd:(x == ("__debug__" : Str))=false:=by decide)
  (hcd:(x == ("__classdict__" : Str))=false:=by decide):PE X (.Name x pos) (tVar i):=qaD hN hv hd hcd
end
theorem iteF {A B:Prop} (h:B):if false=true then A else B:=by
 rw [if_neg B5];exact h
theorem iteT {A B:Prop} (h:A):if true=true then A else B:=by
 rw [if_pos rfl];exact h
theorem ite2 {c A B:Prop} [Decidable c] (h1:c->A) (h2:¬ c->B):if c then A else B:=by
 by_cases h:c
 ·rw [if_pos h];exact h1 h
 ·rw [if_neg h];exact h2 h
def Same (H H':Hp):Prop:=∀ b o,H b=some o->H' b=some o
theorem Same.refl (H:Hp):Same H H:=fun _ _ h=>h
theorem Same.trans {H H1 H2:Hp} (a:Same H H1) (b:Same H1 H2):Same H H2:=fun c o h=>b c o (a c o h)
theorem Same.free {H H':Hp} (e:Same H H') {l:Addr} (h:H' l=B54):H l=B54:=by
 cases q:H l with
 | none=>rfl
 | some o=>
  rw [e l o q] at h;cases h
section
variable {κ:Type} [DecidableEq κ]
def valV (Af:List (κ × V)) (k:κ):Option V:=(Af.find? fun kv=>decide (kv.1=k)).map (·.2)
def putK (Af:List (κ × V)) (k:κ) (v:V):List (κ × V):=
 if (Af.any fun kv=>decide (kv.1=k))=true then Af.map (fun kv=>if kv.1=k then (kv.1,v) else kv) else Af++[(k,v)]
theorem qBD {p:κ × V} {r:List (κ × V)} {k:κ} (e:p.1=k):valV (p::r) k=some p.2:=by simp [valV,W4,e]
theorem qBE {p:κ × V} {r:List (κ × V)} {k:κ} (e:¬ p.1=k):valV (p::r) k=valV r k:=by simp [valV,W4,e]
theorem qI4 (k:κ):∀ Af:List (κ × V),(Af.any fun kv=>decide (kv.1=k))=(valV Af k).isSome
 | []=>rfl
 | p::r=>by
  rw [d5];by_cases e:p.1=k
  ·simp only [qBD e,decide_eq_true e,Bool.true_or,Option.isSome_some]
  ·rw [qBE e,decide_eq_false e,B40];exact qI4 k r
theorem qOR (k j:κ) (y:V):∀ Af:List (κ × V),valV (Af.map fun kv=>if kv.1=k then (kv.1,y) else kv) j=(valV Af j).map fun x=>if j=k then y else x
 | []=>rfl
 | p::r=>by
  have ih:=qOR k j y r;rw [E8];by_cases h:p.1=k
  ·rw [if_pos h];by_cases e:p.1=j
   ·rw [qBD (p:=(p.1,y)) e,qBD e,W5,if_pos (e.symm.trans h)]
   ·rw [qBE (p:=(p.1,y)) e,qBE e,ih]
  ·rw [if_neg h];by_cases e:p.1=j
   ·rw [qBD (p:=p) e,qBD e,W5,if_neg (fun z=>h (e.trans z))]
   ·rw [qBE (p:=p) e,qBE e,ih]
theorem qLT (k j:κ) (y:V):∀ Af:List (κ × V),valV Af k=none->valV (Af++[(k,y)]) j=if j=k then some y else valV Af j
 | [],_=>by
  by_cases e:k=j
  ·rw [if_pos e.symm];exact qBD (p:=(k,y)) e
  ·rw [if_neg (fun z=>e z.symm)];exact qBE (p:=(k,y)) e
 | p::r,hn=>by
  rw [A28];have hk:¬ p.1=k:=fun z=>by rw [qBD z] at hn;cases hn
  rw [qBE hk] at hn;have ih:=qLT k j y r hn;by_cases e:p.1=j
  ·rw [qBD e,qBD e,if_neg (fun z=>hk (e.trans z))]
  ·rw [qBE e,qBE e,ih]
theorem qKN (Af:List (κ × V)) (k j:κ) (y:V):valV (putK Af k y) j=if j=k then some y else valV Af j:=by
 unfold putK;by_cases a:(Af.any fun kv=>decide (kv.1=k))=true
 ·rw [if_pos a,qOR];rw [qI4] at a;by_cases e:j=k
  ·obtain ⟨x,hx⟩:=R1.mp a;rw [if_pos e,e,hx,W5,if_pos rfl]
  ·rw [if_neg e];cases valV Af j with
   | none=>rfl
   | some x=>rw [W5,if_neg e]
 ·rw [if_neg a];refine qLT k j y Af ?_;rw [qI4] at a;cases q:valV Af k with
  | none=>rfl
  | some x=>rw [q] at a;exact (a rfl).elim
theorem qCW (Af:List (κ × V)) (k:κ) (v:V):(putK Af k v).length<=Af.length+1:=by
 unfold putK
 split
 ·rw [A0];lia
 ·rw [A5,D8,M7];lia
theorem RelO.isSome_eq {o:Option V} {u:Option Value} (r:RelO o u):o.isSome=u.isSome:=by
 cases o with
 | none=>cases u with
  | none=>rfl
  | some _=>exact (show False from r).elim
 | some _=>cases u with
  | none=>exact (show False from r).elim
  | some _=>rfl
theorem RelO.getD {o:Option V} {u:Option Value} {d:V} {d':Value} (r:RelO o u) (rd:RelV d d'):RelV (o.getD d) (u.getD d'):=by
 cases o with
 | none=>cases u with
  | none=>exact rd
  | some _=>exact (show False from r).elim
 | some _=>cases u with
  | none=>exact (show False from r).elim
  | some _=>exact r
theorem KV.val {Af:List (κ × V)} {vs:List (κ × Value)} (r:KV Af vs) (k:κ):RelO (valV Af k) (valueAt vs k):=by
 unfold KV at r
 induction r with
 | nil=>exact X8
 | @cons p q ps qs h t ih=>
  obtain ⟨h1,h2⟩:=h;by_cases e:p.1=k
  ·have e':q.1=k:=h1.symm.trans e;have b:valueAt (q::qs) k=some q.2:=by simp [valueAt,W4,e']
   rw [qBD e,b];exact h2
  ·have e':¬ q.1=k:=fun z=>e (h1.trans z);have b:valueAt (q::qs) k=valueAt qs k:=by simp [valueAt,W4,e']
   rw [qBE e,b];exact ih
theorem KV.any {Af:List (κ × V)} {vs:List (κ × Value)} (r:KV Af vs) (k:κ):(Af.any fun kv=>decide (kv.1=k))=vs.any fun kv=>decide (kv.1=k):=by
 unfold KV at r
 induction r with
 | nil=>rfl
 | cons h t ih=>rw [d5,d5,ih,h.1]
theorem KV.repl {Af:List (κ × V)} {vs:List (κ × Value)} (r:KV Af vs) (k:κ) {y:V} {u:Value} (ry:RelV y u) :
  KV (Af.map fun kv=>if kv.1=k then (kv.1,y) else kv) (vs.map fun kv=>if kv.1=k then (kv.1,u) else kv):=by
 unfold KV at r ⊢
 induction r with
 | nil=>exact .nil
 | @cons p q ps qs h t ih=>
  rw [E8,E8];refine .cons ?_ ih;obtain ⟨h1,h2⟩:=h;by_cases e:p.1=k
  ·rw [if_pos e,if_pos (h1.symm.trans e)];exact ⟨h1,ry⟩
  ·rw [if_neg e,if_neg (fun z=>e (h1.trans z))];exact ⟨h1,h2⟩
theorem KV.put {Af:List (κ × V)} {vs:List (κ × Value)} (r:KV Af vs) (k:κ) {y:V} {u:Value} (ry:RelV y u):KV (putK Af k y) (stored vs k u):=by
 unfold putK stored;rw [r.any k];by_cases e:(vs.any fun kv=>decide (kv.1=k))=true
 ·rw [if_pos e,if_pos e];exact r.repl k ry
 ·rw [if_neg e,if_neg e];exact c8 r ⟨rfl,ry⟩
theorem KV.length {Af:List (κ × V)} {vs:List (κ × Value)} (r:KV Af vs):Af.length=vs.length:=C6 r
end
theorem qO4 {P:B60} {w:World} {k:Key} {u:Value} (r:RelV (kV k) u):(qBF P w).is k u=true:=by
 cases k with
 | inl i=>obtain ⟨t,e⟩:=(show ∃ t,u=U1 i t from r);subst e;exact qNZ P w i t
 | inr x=>obtain ⟨t,e⟩:=(show ∃ t,u=B17 x t from r);subst e;exact qNY P w x t
theorem qMM {P:B60} {w:World}:∀ {ks:List Key} {us:List Value},Vals (ks.map kV) us->ItemsAre (qBF P w) ks us
 | [],_,r=>by rw [Y6] at r;cases r;exact .nil
 | k::ks,_,r=>by
  rw [E8] at r;cases r with
  | cons h t=>exact .cons (qO4 h) (qMM t)
abbrev KT (H:Hp):List (List Key × V)->List (List Key × Addr × Value)->Prop:=Paired fun p q=>p.1=q.1/\H q.2.1=some (.tup (p.1.map kV))/\RelV p.2 q.2.2
theorem KT.val {H:Hp} {Af:List (List Key × V)} {xs:List (List Key × Addr × Value)} (r:KT H Af xs) (k:List Key):RelO (valV Af k) ((atKey xs k).map (·.2)):=by
 induction r with
 | nil=>exact X8
 | @cons p q ps qs h t ih=>
  obtain ⟨h1,_,h2⟩:=h;by_cases e:p.1=k
  ·have e':q.1=k:=h1.symm.trans e;have b:atKey (q::qs) k=some q.2:=by simp [atKey,W4,e']
   rw [qBD e,b];exact h2
  ·have e':¬ q.1=k:=fun z=>e (h1.trans z);have b:atKey (q::qs) k=atKey qs k:=by simp [atKey,W4,e']
   rw [qBE e,b];exact ih
theorem KT.repl {H:Hp} {Af:List (List Key × V)} {xs:List (List Key × Addr × Value)} (r:KT H Af xs) (k:List Key) {y:V} {u:Value} (ry:RelV y u) :
  KT H (Af.map fun kv=>if kv.1=k then (kv.1,y) else kv) (xs.map (putAt k u)):=by
 induction r with
 | nil=>exact .nil
 | @cons p q ps qs h t ih=>
  rw [E8,E8];refine .cons ?_ ih;obtain ⟨h1,h2,h3⟩:=h;unfold putAt;by_cases e:p.1=k
  ·rw [if_pos e,if_pos (h1.symm.trans e)];exact ⟨h1,h2,ry⟩
  ·rw [if_neg e,if_neg (fun z=>e (h1.trans z))];exact ⟨h1,h2,h3⟩
theorem KT.put {H:Hp} {Af:List (List Key × V)} {xs:List (List Key × Addr × Value)} (r:KT H Af xs) (k:List Key) {b:Addr} {y:V} {u:Value} (hb:H b=some (.tup (k.map kV))) (ry:RelV y u) :
  KT H (putK Af k y) (storedH xs k b u):=by
 have e:(Af.any fun kv=>decide (kv.1=k))=(atKey xs k).isSome:=by
  rw [qI4,(r.val k).isSome_eq,O4]
 unfold putK storedH;rw [e];by_cases q:(atKey xs k).isSome=true
 ·rw [if_pos q,if_pos q];exact r.repl k ry
 ·rw [if_neg q,if_neg q];exact c8 r ⟨rfl,hb,ry⟩
theorem KT.keeps {H H':Hp} {Af:List (List Key × V)} {xs:List (List Key × Addr × Value)} (r:KT H Af xs) (ht:∀ b ys,H b=some (.tup ys)->H' b=some (.tup ys)):KT H' Af xs:=
 Paired.mapP r fun _ _ z=>⟨z.1,ht _ _ z.2.1,z.2.2⟩
section
variable {P:B60} {w:World} {H:Hp} {h:Heap} {a:Addr}
theorem qa6 {u:HO} (ok:HOk P w H h) (e:Rd H a u):ObjOk P w H h a u:=e.ok ok
theorem qO9 {Af:List (Key × V)} (ok:HOk P w H h) (e:Rd H a (.dK Af)):Af.length<=B59/\(a == B89)=false/\∃ vs,KV Af vs/\h.DictOf (qBF P w) a vs:=
 show ObjOk P w H h a (.dK Af) from qa6 ok e
theorem qTP {Af:List (Key × V)} (ok:HOk P w H h) (e:H a=some (.dK Af)):Af.length<=B59/\(a == B89)=false/\∃ vs,KV Af vs/\h.DictOf (qBF P w) a vs:=qO9 ok (.inl e)
theorem qK9 {ks:List Key} (ok:HOk P w H h) (e:H a=some (.tup (ks.map kV))):(tupleKind (qBF P w)).is h ks a:=by
 obtain ⟨_,its,r,o,h1,h2,n,h3⟩:=(show ObjOk P w H h a (.tup (ks.map kV)) from ok a _ e);exact ⟨o,its.toArray,n,h1,h2,h3,by simpa using qMM r⟩
theorem qO8 {Af:List (List Key × V)} (ok:HOk P w H h) (e:Rd H a (.dT Af)):Af.length<=B59/\(a == B89)=false/\
  ∃ xs,KT H Af xs/\h.DictOfH (tupleKind (qBF P w)) a xs:=by
 obtain ⟨z,y,xs,r,o,es,ep,h1,h2,h3,h4,h5⟩:=(show ObjOk P w H h a (.dT Af) from qa6 ok e);refine ⟨z,y,xs,r,o,es,ep,h1,h2,h3,h4,fun x hx=>?_,h5⟩;have all:∀ {l:List (List Key × V)} {m:List (List Key × Addr × Value)},KT H l m->∀ x ∈ m,(tupleKind (qBF P w)).is h x.1 x.2.1:=by
  intro l m q
  induction q with
  | nil=>intro x hx;exact nomatch hx
  | @cons p q ps qs hq t ih=>
   intro x hx;rcases B8.mp hx with e | hx
   ·subst e;exact qK9 ok (by rw [<- hq.1];exact hq.2.1)
   ·exact ih x hx
 exact all r x hx
theorem qcL {Af:List (List Key × V)} (ok:HOk P w H h) (e:H a=some (.dT Af)):Af.length<=B59/\(a == B89)=false/\
  ∃ xs,KT H Af xs/\h.DictOfH (tupleKind (qBF P w)) a xs:=qO8 ok (.inl e)
end
def DGet (H:Hp) (a:Addr) (y:V) (r:Option V):Prop:=
 (∃ Af k,Rd H a (.dK Af)/\y=kV k/\r=valV Af k)\/∃ Af k b,Rd H a (.dT Af)/\y=.ref b/\H b=some (.tup (k.map kV))/\r=valV Af k
def DPut (H:Hp) (a:Addr) (y v:V) (H':Hp):Prop:=
 (∃ Af k,H a=some (.dK Af)/\y=kV k/\Af.length<B59/\H'=Ag H a (.dK (putK Af k v)))\/
 ∃ Af k b,H a=some (.dT Af)/\y=.ref b/\H b=some (.tup (k.map kV))/\Af.length<B59/\H'=Ag H a (.dT (putK Af k v))
theorem DGet.k {H:Hp} {a:Addr} {Af:List (Key × V)} {k:Key} (e:H a=some (.dK Af)):DGet H a (kV k) (valV Af k):=.inl ⟨Af,k,.inl e,rfl,rfl⟩
theorem DPut.k {H:Hp} {a:Addr} {Af:List (Key × V)} {k:Key} {v:V} (e:H a=some (.dK Af)) (hl:Af.length<B59):DPut H a (kV k) v (Ag H a (.dK (putK Af k v))):=.inl ⟨Af,k,e,rfl,hl,rfl⟩
section
variable {X:Cx} {Ab:List (Addr × Obj)} {σ:St} {H:Hp} {s:Shared} {a:Addr} {y v:V} {u r:Value} {o:Option V} {A:Around} {E:Value->Shared->Prop}
theorem Inv.big (I:Inv X Ab σ H s):B89<s.heap.objs.size:=by
 have h:B63<s.heap.objs.size:=(I.mod.glob.keeps I.bk).lt;exact x8 (by decide) h
theorem qTX {Q:Value->Shared->Prop} (hu:A.units+1<cLine) (I:Inv X Ab σ H s) (g:DGet H a y (some v)) (ry:RelV y u) (h:∀ w' s',Inv X Ab σ H s'->RelV v w'->Q w' s') :
  wpAny (model X.prog X.w) A (getItem (.ref a) u) Q E s:=by
 rcases g with ⟨Af,k,e,ey,l⟩ | ⟨Af,k,b,e,ey,eb,l⟩
 ·subst ey;obtain ⟨z,hd,vs,rel,dd⟩:=qO9 I.hok e;obtain ⟨w',hw,rw'⟩:=RelO.some_of (v:=v) (o:=valueAt vs k) (by rw [l];exact rel.val k)
  exact wpAny_getItem_of (qO4 ry) dd.mapOf hw (h w' _ (I.tok _) rw')
 ·subst ey;cases (show u=E2 b from ry);obtain ⟨z,hd,xs,rel,dd⟩:=qO8 I.hok e;obtain ⟨w',hw,rw'⟩:=RelO.some_of (v:=v) (o:=(atKey xs k).map (·.2)) (by rw [l];exact rel.val k)
  obtain ⟨p,hp,hp2⟩:=Q4.mp hw;refine wpAny_getItem_heap (B98 hu) (qK9 I.hok eb) dd hp ?_;rw [hp2];exact h w' _ (I.tok _) rw'
theorem d_in {Q:Value->Shared->Prop} (hu:A.units+1<cLine) (I:Inv X Ab σ H s) (g:DGet H a y o) (ry:RelV y u) (h:∀ s',Inv X Ab σ H s'->Q (.bool o.isSome) s') :
  wpAny (model X.prog X.w) A (B75 .In u (.ref a)) Q E s:=by
 rcases g with ⟨Af,k,e,ey,l⟩ | ⟨Af,k,b,e,ey,eb,l⟩
 ·subst ey;obtain ⟨z,hd,vs,rel,dd⟩:=qO9 I.hok e;refine wpAny_in_of (qO4 ry) hd dd.mapOf ?_;rw [<- (rel.val k).isSome_eq,<- l];exact h _ (I.tok _)
 ·subst ey;cases (show u=E2 b from ry);obtain ⟨z,hd,xs,rel,dd⟩:=qO8 I.hok e;refine wpAny_in_heap (B98 hu) (qK9 I.hok eb) hd dd ?_;have q:=(rel.val k).isSome_eq;rw [O4] at q;rw [<- q,<- l];exact h _ (I.tok _)
theorem qZ6 {Q:Value->Shared->Prop} (hu:A.units+1<cLine) (I:Inv X Ab σ H s) (g:DGet H a y o) (ry:RelV y u) (h:∀ s',Inv X Ab σ H s'->Q (.bool (!o.isSome)) s') :
  wpAny (model X.prog X.w) A (B75 .NotIn u (.ref a)) Q E s:=by
 rcases g with ⟨Af,k,e,ey,l⟩ | ⟨Af,k,b,e,ey,eb,l⟩
 ·subst ey;obtain ⟨z,hd,vs,rel,dd⟩:=qO9 I.hok e;refine wpAny_notIn_of (qO4 ry) hd dd.mapOf ?_;rw [<- (rel.val k).isSome_eq,<- l];exact h _ (I.tok _)
 ·subst ey;cases (show u=E2 b from ry);obtain ⟨z,hd,xs,rel,dd⟩:=qO8 I.hok e;refine wpAny_notIn_heap (B98 hu) (qK9 I.hok eb) hd dd ?_;have q:=(rel.val k).isSome_eq;rw [O4] at q;rw [<- q,<- l];exact h _ (I.tok _)
theorem qOC {h':Heap} {t':Nat} {ob:HO} (I:Inv X Ab σ H s) (mu:Mut (H a)) (hs:Heap.SameBut a s.heap h') (he:∃ q,h'.get? a=some q) (new:ObjOk X.prog X.w (Ag H a ob) h' a ob) :
  Inv X Ab σ (Ag H a ob) { s with heap:=h',toks:=t' }:=
 I.write (x:=a) (e:=a) mu (.inl rfl) (fun b q hb z=>(hs.2 b hb).trans z) he new
theorem qXC {P:B60} {w:World} {H':Hp} {h':Heap} {Af:List (Key × V)} {vs:List (Key × Value)} (z:Af.length<=B59) (hd:(a == B89)=false) (rel:KV Af vs) (dd:h'.DictOf (qBF P w) a vs) :
  ObjOk P w H' h' a (.dK Af):=⟨z,hd,vs,rel,dd⟩
theorem qTW {H':Hp} {Q:Unit->Shared->Prop} (hu:A.units+1<cLine) (I:Inv X Ab σ H s) (g:DPut H a y v H') (ry:RelV y u) (rv:RelV v r) (h:∀ s',Inv X Ab σ H' s'->Q () s') :
  wpAny (model X.prog X.w) A (setItem (.ref a) u r) Q E s:=by
 rcases g with ⟨Af,k,e,ey,l,eH⟩ | ⟨Af,k,b,e,ey,eb,l,eH⟩
 ·subst ey eH;obtain ⟨z,hd,vs,rel,dd⟩:=qTP I.hok e;have hz:vs.length<=B59:=by rw [<- rel.length];exact z
  have hl:(putK Af k v).length<=B59:=by have:=qCW Af k v;lia
  refine wpAny_setItem_pairs (hsz:=hz) (qO4 ry) dd fun h' dd' hs=>h _ ?_;have he:∃ q,h'.get? a=some q:=let ⟨q,_,_,hq,_⟩:=dd';⟨q,hq⟩
  exact qOC I (by rw [e];exact X8) hs he (qXC hl hd (rel.put k rv) dd')
 ·subst ey eH;cases (show u=E2 b from ry);obtain ⟨z,hd,xs,rel,dd⟩:=qcL I.hok e;have hz:xs.length<=B59:=by rw [<- C6 rel];exact z
  have hl:(putK Af k v).length<=B59:=by have:=qCW Af k v;lia
  refine wpAny_setItem_heap (hsz:=hz) (B98 hu) (qK9 I.hok eb) dd fun h' dd' hs=>h _ ?_;obtain ⟨q,es,ep,hq,h2,h3,h4,_,h5⟩:=dd';refine qOC I (by rw [e];exact X8) hs ⟨q,hq⟩ ⟨hl,hd,_,(rel.put k eb rv).keeps fun c ys ec=>?_,q,es,ep,hq,h2,h3,h4,h5⟩
  rw [qA7 (qC2 ec e (fun z=>nomatch z))];exact ec
end
section
variable {X:Cx} {Ab:List (Addr × Obj)} {σ:St} {H:Hp} {s:Shared} {a:Addr} {Af:List (Key × V)} {k:Key} {u:Value} {A:Around} {E:Value->Shared->Prop}
end
def NoSl (i:Expr):Prop:=∀ ov iv,subscripted i false ov iv=operate [ov,iv] (getItem ov iv)
theorem qXV {prog:B60} {w:World} {A:Around} {E:Value->Shared->Prop} {s:Shared} {env:Env} {value slice:Expr} {pos:Pos} {T id:String} {Q:Value->Shared->Prop}
  (hl:typeLookup (.type T) "__getitem__" = pure (some (.builtin id))) (hs:NoSl slice)
  (h:wpAny (model prog w) A (eval value env) (fun o s₁=>wpAny (model prog w) A (eval slice env) (fun i s₂=>s₂.TypeIs o T/\wpAny (model prog w) A (getItem o i) Q E s₂) E s₁) E s) :
  wpAny (model prog w) A (eval (.Subscript value slice pos) env) Q E s:=by
 refine Subscript_ (B71 h (fun o s₁ h₁=>B71 h₁ (fun i s₂ h₂=>?_) fun _ _ x=>x) fun _ _ x=>x);obtain ⟨hT,h₂⟩:=h₂;unfold subscriptTail;refine B57 ?_;rw [getitemInPython_of_ne hT.not_modules];refine B57 (wpAny_specialOf hT hl ?_);have fin:wpAny (model prog w) A (subscripted slice false o i) (fun r s₃=>wpAny (model prog w) A (letTemporaryGo value o r >>= fun _=>pure r) Q E s₃) E s₂:=by
  rw [hs o i];exact wpAny_operating (B71 h₂ (fun r s₃ h₃=>B57 (wpAny_letTemporaryGo (B58 h₃))) fun _ _ x=>x)
 first
  | exact B58 (B57 fin)
  | exact B57 (B58 (B57 fin))
  | exact B57 fin
theorem qOA {X:Cx} {Ab:List (Addr × Obj)} {σ:St} {H:Hp} {s:Shared} {a:Addr} {y:V} {o:Option V} (I:Inv X Ab σ H s) (g:DGet H a y o):s.TypeIs (.ref a) "dict":=by
 rcases g with ⟨Af,k,e,_,_⟩ | ⟨Af,k,b,e,_,_,_⟩
 ·obtain ⟨_,_,vs,_,dd⟩:=qO9 I.hok e;exact dd.typeIs
 ·obtain ⟨_,_,xs,_,dd⟩:=qO8 I.hok e;exact dd.typeIs
def qbX (td ty:TE):TE:=fun σ H Q=>td σ H fun x H1=>ty σ H1 fun y H2=>∃ a v,x=.ref a/\DGet H2 a y (some v)/\Q v H2
def tDIn (ty td:TE):TE:=fun σ H Q=>ty σ H fun y H1=>td σ H1 fun x H2=>∃ a o,x=.ref a/\DGet H2 a y o/\Q (.bl o.isSome) H2
def qXU (ty td:TE):TE:=fun σ H Q=>ty σ H fun y H1=>td σ H1 fun x H2=>∃ a o,x=.ref a/\DGet H2 a y o/\Q (.bl (!o.isSome)) H2
def qc1 (td ty tv:TE):TS:=fun D σ H=>tv σ H fun v H1=>td σ H1 fun x H2=>ty σ H2 fun y H3=>∃ a H4,x=.ref a/\DPut H3 a y v H4/\D.nx σ H4
section
variable {X:Cx} {o i e value:Expr} {pos pos' tpos:Pos} {td ty tv:TE}
theorem qBY (hu:X.A.units+1<cLine) (ho:PE X o td) (hi:PE X i ty) (hs:NoSl i):PE X (.Subscript o i pos) (qbX td ty):=by
 intro Ab s σ H Q I h;refine qXV PySem.F.slot_dict_getitem.lookup hs (thn (ho Ab s σ H _ I h) fun u s1 ⟨x,H1,I1,rx,q1⟩=>thn (hi Ab s1 σ H1 _ I1 q1) fun iv s2 ⟨y,H2,I2,ry,a,v,ex,g,q2⟩=>?_);subst ex;obtain rfl:u=E2 a:=rx;exact ⟨qOA I2 g,qTX hu I2 g ry fun w' s3 I3 rw'=>⟨v,H2,I3,rw',q2⟩⟩
theorem qaG (hu:X.A.units+1<cLine) (hi:PE X i ty) (ho:PE X o td):PC X .In i o (tDIn ty td):=by
 intro Ab s σ H Q I h;refine thn (hi Ab s σ H _ I h) fun iv s1 ⟨y,H1,I1,ry,q1⟩=>thn (ho Ab s1 σ H1 _ I1 q1) fun u s2 ⟨x,H2,I2,rx,a,ov,ex,g,q2⟩=>?_;subst ex;obtain rfl:u=E2 a:=rx;exact d_in hu I2 g ry fun s3 I3=>⟨.bl ov.isSome,H2,I3,rfl,q2⟩
theorem qGE (hu:X.A.units+1<cLine) (hi:PE X i ty) (ho:PE X o td):PC X .NotIn i o (qXU ty td):=by
 intro Ab s σ H Q I h;refine thn (hi Ab s σ H _ I h) fun iv s1 ⟨y,H1,I1,ry,q1⟩=>thn (ho Ab s1 σ H1 _ I1 q1) fun u s2 ⟨x,H2,I2,rx,a,ov,ex,g,q2⟩=>?_;subst ex;obtain rfl:u=E2 a:=rx;exact qZ6 hu I2 g ry fun s3 I3=>⟨.bl (!ov.isSome),H2,I3,rfl,q2⟩
theorem qFX (hu:X.A.units+1<cLine) (ho:PE X o td) (hi:PE X i ty) (hv:PE X value tv) (hs:swapsWith value (some (.Subscript o i pos')) pos.line X.env=pure false) :
  PS X (.Assign [.Subscript o i pos'] value pos) (qc1 td ty tv):=by
 intro Ab s σ H D I h;refine wpAny_Assign_Subscript (thn (hv Ab s σ H _ I h) fun r s1 ⟨v,H1,I1,rv,q1⟩=>thn (ho Ab s1 σ H1 _ I1 q1) fun u s2 ⟨x,H2,I2,rx,q2⟩=>thn (hi Ab s2 σ H2 _ I2 q2) fun iv s3 ⟨y,H3,I3,ry,a,H4,ex,g,q3⟩=>?_) hs;subst ex;obtain rfl:u=E2 a:=rx;exact qTW hu I3 g ry rv fun s4 I4=>⟨σ,H4,I4,q3⟩
end
theorem qPZ {P:B60} {w:World} {H:Hp} (h:Heap) (hb:B89<h.objs.size):ObjOk P w H (h.push { cls:=.type "dict",data:=.dict #[] }) h.objs.size (.dK []):=
 ⟨F8 _,beq_eq_false_iff_ne.mpr (L8 (E3 hb)),[],.nil,Heap.DictOf.new h⟩
def qZS:TE:=fun _ H Q=>∀ p,H p=none->Q (.ref p) (Ag H p (.dK []))
section
variable {X:Cx} {pos:Pos}
theorem qPG:PE X (.Dict [] [] pos) qZS:=fun Ab s σ H Q I h=>
 wpAny_Dict_empty ⟨.ref s.heap.objs.size,_,I.laid (a:=s.heap.objs.size) (o:=.dK []) (t':=s.toks) (fun _ _ q=>A4 _ q) (A9 _) (qPZ s.heap I.big),rfl,h _ (I.hok.fresh (A9 _))⟩
end
def qRV:List (TE × TE)->St->Hp->(List (V × V)->Hp->Prop)->Prop
 | [],_,H,Q=>Q [] H
 | (tk,tv)::r,σ,H,Q=>tk σ H fun x H1=>tv σ H1 fun y H2=>qRV r σ H2 fun ps H3=>Q ((x,y)::ps) H3
abbrev VV:List (V × V)->List (Value × Value)->Prop:=Paired fun p q=>RelV p.1 q.1/\RelV p.2 q.2
def PPs (X:Cx) (pos:Pos) (keys:List (Option Expr)) (values:List Expr) (trs:List (TE × TE)):Prop:=
 ∀ (Ab:List (Addr × Obj)) (s:Shared) (σ:St) (H:Hp) (Q:List (V × V)->Hp->Prop),Inv X Ab σ H s->qRV trs σ H Q->
  wpAny (model X.prog X.w) X.A (evalPairs (pairTrees keys values X.env pos)) (fun vs s'=>∃ ps H',Inv X Ab σ H' s'/\VV ps vs/\Q ps H') X.xe s
theorem qKX {X:Cx} {pos:Pos}:PPs X pos [] [] []:=fun Ab s σ H Q I h=>pairTrees_nil_walk ⟨[],H,I,.nil,h⟩
theorem qF6 {X:Cx} {pos:Pos} {k v:Expr} {ks:List (Option Expr)} {vs:List Expr} {tk tv:TE} {trs:List (TE × TE)} (hk:PE X k tk) (hv:PE X v tv) (hr:PPs X pos ks vs trs) :
  PPs X pos (some k::ks) (v::vs) ((tk,tv)::trs):=fun Ab s σ H Q I h=>
 pairTrees_cons_walk (thn (hk Ab s σ H _ I h) fun u s1 ⟨x,H1,I1,rx,q1⟩=>thn (hv Ab s1 σ H1 _ I1 q1) fun w2 s2 ⟨y,H2,I2,ry,q2⟩=>
  thn (hr Ab s2 σ H2 _ I2 q2) fun ws s3 ⟨ps,H3,I3,rel,q3⟩=>⟨(x,y)::ps,H3,I3,.cons ⟨rx,ry⟩ rel,q3⟩)
def qDN (Af more:List (Key × V)):List (Key × V):=more.foldl (fun acc kv=>putK acc kv.1 kv.2) Af
theorem KV.merge:∀ {more:List (Key × V)} {rs:List (Key × Value)} {Af:List (Key × V)} {vs:List (Key × Value)},KV more rs->KV Af vs->KV (qDN Af more) (merged vs rs):=by
 intro more rs Af vs r;unfold KV at r
 induction r generalizing Af vs with
 | nil=>intro q;exact q
 | @cons p q ps qs h t ih=>
  intro r0;have e:KV (putK Af p.1 p.2) (stored vs q.1 q.2):=by
   have:=r0.put p.1 h.2;rw [<- h.1];exact this
  exact ih e
theorem qGI:∀ (more Af:List (Key × V)),(qDN Af more).length<=Af.length+more.length
 | [],Af=>by show Af.length<=Af.length+0;lia
 | p::r,Af=>by
  have h1:=qGI r (putK Af p.1 p.2);have h2:=qCW Af p.1 p.2;show (qDN (putK Af p.1 p.2) r).length<=_;rw [D8];lia
theorem qKH {P:B60} {w:World}:∀ {Af:List (Key × V)} {ws:List (Value × Value)},VV (Af.map fun kv=>(kV kv.1,kv.2)) ws->∃ rs,Carries (qBF P w) ws rs/\KV Af rs
 | [],_,r=>by rw [Y6] at r;cases r;exact ⟨[],X8,.nil⟩
 | p::Af,_,r=>by
  rw [E8] at r;cases r with
  | @cons a b as bs h t=>
   obtain ⟨rs,c,q⟩:=qKH (P:=P) (w:=w) t;obtain ⟨b1,b2⟩:=b;exact ⟨(p.1,b2)::rs,⟨qO4 h.1,rfl,c⟩,.cons ⟨rfl,h.2⟩ q⟩
def qbW (trs:List (TE × TE)):TE:=fun σ H Q=>∀ p,H p=none->qRV trs σ (Ag H p (.dK [])) fun ps H2=>H2 p=some (.dK [])/\∃ Af:List (Key × V),ps=Af.map (fun kv=>(kV kv.1,kv.2))/\Af.length<=15/\Q (.ref p) (Ag H2 p (.dK (qDN [] Af)))
theorem qKY {X:Cx} {pos:Pos} {keys:List (Option Expr)} {values:List Expr} {trs:List (TE × TE)} (h:PPs X pos keys values trs) (hall:keys.all (·.isSome)=true) (hl:keys.length=values.length) (h0:keys ≠ [])
  (h15:keys.length<=15):PE X (.Dict keys values pos) (qbW trs):=by
 intro Ab s σ H Q I q;have hn:=I.hok.fresh (A9 s.heap.objs.size);have I1:=I.laid (a:=s.heap.objs.size) (o:=.dK []) (h':=s.heap.push { cls:=.type "dict",data:=.dict #[] }) (t':=s.toks) (fun _ _ q=>A4 _ q) (A9 _) (qPZ s.heap I.big);refine wpAny_Dict_walk (knd:=qBF X.prog X.w) hall hl h0 h15 (thn (h Ab _ σ _ _ I1 (q _ hn)) fun ws s2 ⟨ps,H2,I2,rel,e,Af,ep,lk,q2⟩=>?_);subst ep;obtain ⟨rs,c,rk⟩:=qKH (P:=X.prog) (w:=X.w) rel;obtain ⟨z,hd,vs0,r0,dd⟩:=qTP I2.hok e;cases r0;refine ⟨rs,c,dd,fun h' dd' hs=>⟨.ref s.heap.objs.size,_,?_,rfl,q2⟩⟩;have hz:(qDN [] Af).length<=B59:=by
  have h1:=qGI Af [];rw [M7] at h1;rw [B66];lia
 have he:∃ q,h'.get? s.heap.objs.size=some q:=let ⟨q,_,_,hq,_⟩:=dd';⟨q,hq⟩
 exact qOC I2 (by rw [e];exact X8) hs he (qXC hz hd (rk.merge .nil) dd')
structure M1 (X:Cx) (o:Expr) (m:Str) (apos:Pos) (e:Expr) (cpos:Pos):Prop where
 base:attributeBase o m X.env (eval o X.env)=eval o X.env
 few:((backTo cpos (B68 [e] X.env)).all (fun x=>!x.1) && (backToKw cpos (keywordEach [] X.env)).all (fun x=>x.1.isSome)
  && decide (([e]:List Expr).length+([]:List Keyword).length+(if ([]:List Keyword).isEmpty then 0 else 1)<30))=true
 line:(apos.endLine == cpos.line)=true
 trees:backTo cpos (B68 [e] X.env)=[(false,eval e X.env)]
structure M2 (X:Cx) (o:Expr) (m:Str) (apos:Pos) (e f:Expr) (cpos:Pos):Prop where
 base:attributeBase o m X.env (eval o X.env)=eval o X.env
 few:((backTo cpos (B68 [e,f] X.env)).all (fun x=>!x.1) && (backToKw cpos (keywordEach [] X.env)).all (fun x=>x.1.isSome)
  && decide (([e,f]:List Expr).length+([]:List Keyword).length+(if ([]:List Keyword).isEmpty then 0 else 1)<30))=true
 line:(apos.endLine == cpos.line)=true
 trees:backTo cpos (B68 [e,f] X.env)=[(false,eval e X.env),(false,eval f X.env)]
def IsD (H:Hp) (a:Addr):Prop:=(∃ Af,Rd H a (.dK Af))\/∃ Af,Rd H a (.dT Af)
theorem qb9 {X:Cx} {Ab:List (Addr × Obj)} {σ:St} {H:Hp} {s:Shared} {a:Addr} (I:Inv X Ab σ H s) (d:IsD H a) :
  s.TypeIs (.ref a) "dict"/\(∀ b,E2 a=.ref b->∃ ob,s.heap.get? b=some ob/\ob.dict=none)/\(a == B89)=false:=by
 rcases d with ⟨Af,e⟩ | ⟨Af,e⟩
 ·obtain ⟨_,hd,vs,_,dd⟩:=qO9 I.hok e;refine ⟨dd.typeIs,fun b q=>?_,hd⟩;cases q;obtain ⟨ob,_,_,h1,h2,_⟩:=dd;exact ⟨ob,h1,h2.2.1⟩
 ·obtain ⟨_,hd,xs,_,dd⟩:=qO8 I.hok e;refine ⟨dd.typeIs,fun b q=>?_,hd⟩;cases q;obtain ⟨ob,_,_,h1,h2,_⟩:=dd;exact ⟨ob,h1,h2.2.1⟩
section
variable {X:Cx} {Ab:List (Addr × Obj)} {σ:St} {H:Hp} {s:Shared} {a:Addr} {y d:V} {u r:Value} {o:Option V} {A:Around} {E:Value->Shared->Prop}
theorem qbK {Q:Value->Shared->Prop} (hu:A.units+1<cLine) (I:Inv X Ab σ H s) (g:DGet H a y o) (ry:RelV y u) (rd:RelV d r) (h:∀ w' s',Inv X Ab σ H s'->RelV (o.getD d) w'->Q w' s') :
  wpAny (model X.prog X.w) A (call (.builtin "dict.get") [.ref a,u,r]) Q E s:=by
 rcases g with ⟨Af,k,e,ey,l⟩ | ⟨Af,k,b,e,ey,eb,l⟩
 ·subst ey;obtain ⟨z,hd,vs,rel,dd⟩:=qO9 I.hok e;refine call_meetsIn m4 dd.typeIs A38 (A22 _ _ _) (meets_dict_get_default (qBF X.prog X.w) a (qO4 ry) hd r) ⟨_,dd.mapOf,h _ _ (I.tok _) ?_⟩;rw [l];exact (rel.val k).getD rd
 ·subst ey;cases (show u=E2 b from ry);obtain ⟨z,hd,xs,rel,dd⟩:=qO8 I.hok e;refine call_meetsIn m4 dd.typeIs A38 (A22 _ _ _) (meetsH_dict_get_default (tupleKind (qBF X.prog X.w)) a b hd r) ⟨B98 hu,k,xs,qK9 I.hok eb,dd,h _ _ (I.tok _) ?_⟩;rw [l];exact (rel.val k).getD rd
end
def qZT (td ty tx:TE):TE:=fun σ H Q=>td σ H fun x H1=>∃ a,x=.ref a/\IsD H1 a/\ty σ H1 fun y H2=>tx σ H2 fun z H3=>∃ o,DGet H3 a y o/\Q (o.getD z) H3
section
variable {X:Cx} {o e f:Expr} {apos cpos:Pos} {td ty tx:TE}
theorem qV7 (hu:X.A.units+1<cLine) (ho:PE X o td) (he:PE X e ty) (hf:PE X f tx) (m:M2 X o "get" apos e f cpos):PE X (.Call (.Attribute o "get" apos) [e,f] [] cpos) (qZT td ty tx):=by
 intro Ab s σ H Q I h;refine wpAny_Call_method m.base m.few m.line A23 m4 PySem.F.type_dict_get (thn (ho Ab s σ H _ I h) fun u s1 ⟨x,H1,I1,rx,a,ex,d,q1⟩=>?_);subst ex;obtain rfl:u=E2 a:=rx;obtain ⟨t1,t2,_⟩:=qb9 I1 d;refine ⟨t1,t2,?_⟩;rw [m.trees];refine j4 rfl (A54 (x5 (thn (he Ab s1 σ H1 _ I1 q1) fun iv s2 ⟨y,H2,I2,ry,q2⟩=>
  x5 (thn (hf Ab s2 σ H2 _ I2 q2) fun fv s3 ⟨z,H3,I3,rz,ov,g,q3⟩=>A95 ?_))))
 exact qbK hu I3 g ry rz fun w' s4 I4 rw'=>⟨_,H3,I4,rw',q3⟩
end
section
variable {X:Cx} {Ab:List (Addr × Obj)} {σ:St} {H:Hp} {s:Shared} {a:Addr} {Af:List (Key × V)} {A:Around} {E:Value->Shared->Prop}
end
section
variable {X:Cx} {Ab:List (Addr × Obj)} {σ:St} {H:Hp} {s:Shared} {a:Addr} {y:V} {u:Value} {A:Around} {E:Value->Shared->Prop}
end
section
variable {X:Cx}
end
section
variable {κ:Type} [DecidableEq κ]
theorem qL0:∀ {l:List κ} {k:κ},l.Nodup->¬ k ∈ l->(l++[k]).Nodup
 | [],k,_,_=>by simp
 | a::r,k,h,hk=>by
  obtain ⟨h1,h2⟩:=J4.mp h;show (a::(r++[k])).Nodup;refine J4.mpr ⟨fun m=>?_,qL0 h2 fun m=>hk (B8.mpr (A64 m))⟩;rcases B7.mp m with q | q
  ·exact h1 q
  ·exact hk (B8.mpr (E5 (A6.mp q).symm))
end
def noX:Value->Shared->Prop:=fun _ _=>False
def qI3 (env:Env):List (Str × C02)->List (Str × Addr)->List (Str × Addr)
 | [],acc=>acc
 | (n,k)::r,acc=>qI3 env r (if (k == O5)=true then (n,(env.cells.lookup n).getD 0)::acc else acc)
theorem qJG {env:Env}:∀ {names:List (Str × C02)} {acc:List (Str × Addr)},(∀ x,(x,O5) ∈ names->∃ c,env.cells.lookup x=some c)->(∀ x c,acc.lookup x=some c->env.cells.lookup x=some c)->
  ∀ x c,(qI3 env names acc).lookup x=some c->env.cells.lookup x=some c
 | [],acc,_,ha,x,c,h=>ha x c h
 | (n,k)::r,acc,hf,ha,x,c,h=>by
  refine qJG (names:=r) (fun y hy=>hf y (B0 _ hy)) (fun y d hd=>?_) x c h
  split at hd
  ·rename_i hk
   have hk':k=O5:=by simpa using hk
   subst hk';obtain ⟨e,he⟩:=hf n A8;by_cases hyn:y=n
   ·subst hyn;rw [Q9,he] at hd;rw [he];exact hd
   ·rw [b8,beq_eq_false_iff_ne.mpr hyn] at hd;exact ha y d hd
  ·exact ha y d hd
theorem qJH {env:Env}:∀ {names:List (Str × C02)} {acc:List (Str × Addr)} {x:Str},((x,O5) ∈ names\/∃ c,acc.lookup x=some c)->∃ c,(qI3 env names acc).lookup x=some c
 | [],acc,x,h=>by
  rcases h with h | h
  ·exact absurd h (by simp)
  ·exact h
 | (n,k)::r,acc,x,h=>by
  refine qJH (names:=r) ?_;rcases h with h | ⟨c,h⟩
  ·rcases B8.mp h with e | h
   ·cases e;refine .inr ⟨(env.cells.lookup n).getD 0,?_⟩;rw [if_pos (by rfl),Q9]
   ·exact .inl h
  ·refine .inr ?_
   split
   ·by_cases hyn:x=n
    ·subst hyn;exact ⟨_,Q9⟩
    ·refine ⟨c,?_⟩;rw [b8,beq_eq_false_iff_ne.mpr hyn];exact h
   ·exact ⟨c,h⟩
theorem qJF {env:Env} (f:Str × C02->List (Str × Addr)->Sem (ForInStep (List (Str × Addr))))
  (hf:∀ n k c,f (n,k) c=(if (k == O5)=true then (do let a <- cellOf env n;pure (O9 ((n,a)::c))) else pure (O9 c))) :
  ∀ (names:List (Str × C02)) (acc:List (Str × Addr)),(∀ x,(x,O5) ∈ names->∃ c,env.cells.lookup x=some c)->forIn names acc f=(pure (qI3 env names acc):Sem _)
 | [],acc,_=>rfl
 | (n,k)::r,acc,h=>by
  have ih:=fun acc=>qJF f hf r acc fun x hx=>h x (B0 _ hx);rw [R9,hf];by_cases hk:(k == O5)=true
  ·have hk':k=O5:=by simpa using hk
   subst hk';obtain ⟨c,hc⟩:=h n A8;rw [if_pos hk];unfold cellOf qI3;rw [hc,if_pos hk];exact ih _
  ·rw [if_neg hk];unfold qI3;rw [if_neg hk];exact ih _
theorem qQZ {scope:Scope} {env:Env} (h:∀ x,(x,O5) ∈ scope.names->∃ c,env.cells.lookup x=some c):closureFor scope env=pure (qI3 env scope.names []):=by
 unfold closureFor;dsimp only;rw [qJF (env:=env) _ (fun n k c=>?_) scope.names [] h]
 ·rfl
 ·rfl
theorem qDE {env:Env} {x:Str}:∀ {names:List (Str × C02)},
  (names.map fun (n,k)=>if (k == O5 && env.scope.kind == .function && env.kindOf n == some .cell)=true then (n,B41) else (n,k)).lookup x =
   (names.lookup x).map fun k=>if (k == O5 && env.scope.kind == .function && env.kindOf x == some .cell)=true then B41 else k
 | []=>rfl
 | (n,k)::r=>by
  have ih:=@qDE env x r;rw [E8];by_cases hx:x=n
  ·subst hx;dsimp only;rw [Q9 (b:=k),W5]
   split
   ·rw [Q9]
   ·rw [Q9]
  ·have hb:(x == n)=false:=beq_eq_false_iff_ne.mpr hx;dsimp only;rw [b8 (k:=n) (b:=k),hb];dsimp only;rw [<- ih]
   split
   ·rw [b8,hb]
   ·rw [b8,hb]
structure LcZ where
 L:Addr
 cl:List (Str × Addr)
 ex:List Addr
 s₀:Shared
 H₀:Hp
def lcCx (X:Cx) (scope:Scope) (own:List Str) (fv:List Nat) (z:LcZ):Cx where
 prog:=X.prog
 w:=X.w
 K:=X.K
 mg:=X.mg
 base:=X.base
 A:=X.A
 N:=own++fv.map fun i=>X.N.getD i Y4
 s₀:=z.s₀
 H₀:=z.H₀
 env:=compEnvC scope z.cl z.L X.env
 outer:=X.stack
 stack:=X.stack
 ex:=z.ex
 fn:=fun _=>false
 calm:=X.calm
 pn:=[]
 xe:=noX
structure LcScope (X:Cx) (scope:Scope) (own:List Str) (fv:List Nat):Prop where
 kind:scope.kind=.function
 nocell:∀ y ∈ scope.names,y.2 ≠ .cell
 names:∀ y ∈ scope.names,y.2=.local->scope.names.lookup y.1=some .local
 free:∀ y ∈ scope.names,y.2=.free->X.env.kindOf y.1=some .cell\/X.env.kindOf y.1=some .free
 nd:(own++fv.map fun i=>X.N.getD i Y4).Nodup
 fvs:∀ i ∈ fv,i<X.N.length/\scope.names.lookup (X.N.getD i Y4)=some .free
def qJ3 (own:List Str) (fv:List Nat) (σ:St):St:=(own.map fun _=>none)++fv.map fun i=>(σ[i]?).join
theorem qN0 {prog:B60} {w:World} {A:Around} {R:Result->Shared->Prop} {s:Shared} {elt target iter:Expr} {ifs:List Expr} {scope:Scope} {pos:Pos} {it acc:Value} {env:Env} (I:Nat->Shared->Prop)
  (turn:∀ n s,I n s->wpAny (model prog w) A (pyNext it) (fun r s₁=>match r with
   | none=>R (.ok .next) s₁
   | some v=>wpAny (model prog w) A (C22 target it v) (fun _ s₁=>wpAny (model prog w) A (assign target env v) (fun _ s₂=>
     wpAny (model prog w) A (forIn ifs true fun c r=>if r=true then do let ok <- isTrue c env (eval c env);pure (O9 ok) else pure (O9 r)) (fun ok s₃=>
      if ok=true then wpAny (model prog w) A (eval elt env) (fun x s₄=>
       wpAny (model prog w) A (call (.builtin "list.append") [acc,x]) (fun _ s₅=>∃ m,m<n/\I m s₅) noX s₄) noX s₃
      else ∃ m,m<n/\I m s₃) noX s₂) noX s₁) noX s₁) noX s)
  (n:Nat) (h:I n s) :
  B96 (model prog w) A (.compLoop (.ListComp elt [⟨target,iter,ifs,0⟩] scope pos) 0 it acc env) R s:=by
 refine codeAny_loop rfl I (fun n s hI=>?_) n h;show wpAny _ A ((compTurn (.ListComp elt [⟨target,iter,ifs,0⟩] scope pos) 0 it acc env).onRaise (fun x=>do noteFrame x env;theTreesLotGoes x)) _ _ s
 refine wpAny_noted ?_;rw [compTurn_list];refine B57 (wpAny_standAt (B57 (B71 (turn n s hI) (fun r s₁ h₁=>?_) fun _ _ h'=>h'.elim)));cases r with
 | none=>exact B58 h₁
 | some v=>
  refine B57 (B71 h₁ (fun _ s₁ h₁=>?_) fun _ _ h'=>h'.elim);refine B57 (B71 h₁ (fun _ s₂ h₂=>B57 (B71 h₂ (fun ok s₃ h₃=>?_) fun _ _ h'=>h'.elim)) fun _ _ h'=>h'.elim);cases ok with
  | false=>exact B58 ⟨rfl,h₃⟩
  | true=>
   exact B57 (B57 (B71 h₃ (fun x s₄ h₄=>B57 (B71 h₄ (fun _ s₅ h₅=>B58 (B58 ⟨rfl,h₅⟩)) fun _ _ h'=>h'.elim)) fun _ _ h'=>h'.elim))
section
variable {X:Cx} {Ab:List (Addr × Obj)} {σ:St} {H:Hp} {s:Shared}
theorem Inv.other {h':Heap} {L:Addr} {n:Nat} (I:Inv X Ab σ H s) (hb:X.s₀.heap.objs.size<=L) (h0:H L=none) (h1:L ≠ X.env.locals) (h2:∀ x c,X.env.cells.lookup x=some c->c ≠ L) (h3:∀ p ∈ X.pn++Ab,p.1 ≠ L)
  (k:Heap.SameBut L s.heap h'):Inv X Ab σ H { s with heap:=h' }:=
 I.turned (t':=s.toks) (fun b o hb e=>(k.2 b hb).trans e) h0 h1 (.inr hb) h2 h3
theorem qaV {scope:Scope} {own:List Str} {fv:List Nat} {fp:List Addr} (I:Inv X Ab σ H s) (S:LcScope X scope own fv) (hf:∀ b ∈ fp,FpOk X Ab H b) (hsz:∀ b ∈ fp,b<s.heap.objs.size) :
  (lcCx X scope own fv ⟨s.heap.objs.size,qI3 X.env scope.names [],fp,s,H⟩).Ok:=by
 have hfr:∀ x,(x,O5) ∈ scope.names->∃ c,X.env.cells.lookup x=some c:=fun x hx=>I.ok.has x (S.free _ hx rfl);have sub:=qJG (env:=X.env) (names:=scope.names) (acc:=[]) hfr (fun x c z=>by simp at z)
 refine ⟨I.ok.mod,S.kind,I.ok.glob,I.ok.blt,A9 _,fun x y c h1 h2=>I.ok.inj x y c (sub _ _ h1) (sub _ _ h2),fun x hx=>?_,fun x c hx=>?_,I.ok.hd,I.ok.frames,.inl rfl,fun b hb=>⟨?_,fun x c e=>?_⟩,I.bs,M5 I.ok.bsz I.sz,fun b o e hb=>?_,fun b hb hb'=>?_,I.stack,I.stkFree⟩
 ·refine qJH (.inl ?_);have hx':(relabel scope X.env).names.lookup x=some .cell\/(relabel scope X.env).names.lookup x=some .free:=hx;unfold relabel at hx';rw [qDE] at hx';cases e:scope.names.lookup x with
  | none=>rw [e] at hx';simp at hx'
  | some k=>
   have hm:=Q5 e;have nc:=S.nocell _ hm;rw [e] at hx';simp only [W5,Option.some.injEq] at hx';cases k with
   | free=>exact hm
   | cell=>exact absurd rfl nc
   | _=>simp at hx'
 ·cases hx
 ·exact E3 (hsz b hb)
 ·exact (hf b hb).2.2.2.2.1 x c (sub _ _ e)
 ·rcases (hf b hb).2.2.2.1 with z | z
  ·exact I.ok.noex b o e z
  ·exact absurd (G2 (C1 (I.ok.bs b o e).1) z) (X1 _)
 ·rcases B8.mp (I.stkSub b hb') with z | z
  ·exact (hf b hb).2.1 z
  ·exact (hf b hb).2.2.1 z
theorem qVN {scope:Scope} {own:List Str} {fv:List Nat} {fp:List Addr} {h₁:Heap} {tk:Nat} (I:Inv X Ab σ H s) (S:LcScope X scope own fv) (hf:∀ b ∈ fp,FpOk X Ab H b) (hsz:∀ b ∈ fp,b<s.heap.objs.size)
  (hns:h₁.Ns s.heap.objs.size (fun _=>none)) (hk:∀ b o,s.heap.get? b=some o->h₁.get? b=some o) :
  Inv (lcCx X scope own fv ⟨s.heap.objs.size,qI3 X.env scope.names [],fp,s,H⟩) [] (qJ3 own fv σ) H { s with heap:=h₁,toks:=tk }:=by
 have hfr:∀ x,(x,O5) ∈ scope.names->∃ c,X.env.cells.lookup x=some c:=fun x hx=>I.ok.has x (S.free _ hx rfl);have sub:=qJG (env:=X.env) (names:=scope.names) (acc:=[]) hfr (fun x c z=>by simp at z)
 refine ⟨qaV I S hf hsz,rfl,I.bare,Un.kept hk,⟨_,hns,fun i x v h1 h2 h3=>?_⟩,fun x c e=>?_,I.hok.fresh (A9 _),fun x c e=>I.freeC x c (sub _ _ e),fun p hp=>absurd (show p ∈ ([]:List (Addr × Obj)) from hp) (by simp),I.hok.kept hk,?_⟩
 ·have h1:(own++fv.map fun i=>X.N.getD i Y4)[i]?=some x:=h1;unfold qJ3 at h2;have hi:own.length<=i:=by
   apply n8;intro hi;rw [C5 (by simpa using hi),C4] at h2
   cases e:own[i]? with
   | none=>rw [e] at h2;cases h2
   | some z=>rw [e] at h2;cases h2
  rw [C2 (by simpa using hi),A0,C4] at h2
  rw [C2 hi,C4] at h1;cases e:fv[i - own.length]? with
  | none=>rw [e] at h1;cases h1
  | some j=>
   rw [e] at h1 h2;have hj:=S.fvs j (B6 e);have h1:X.N.getD j Y4=x:=J3 h1;have h2:(σ[j]?).join=some v:=J3 h2;have h2':σ[j]?=some (some v):=by
    cases q:σ[j]? with
    | none=>rw [q] at h2;cases h2
    | some y=>rw [q] at h2;exact congrArg some h2
   have hx:X.N[j]?=some x:=by
    rw [L4] at h1;rw [A7 hj.1] at h1 ⊢;exact congrArg some h1
   have hlk:scope.names.lookup x=some .free:=h1 ▸ hj.2;have hmem:=Q5 hlk;obtain ⟨m,hn,hl⟩:=id I.loc;have hkd:=S.free _ hmem rfl;obtain ⟨u,ru,lk⟩:=hl j x v hx h2' (by
    rcases hkd with z | z
    ·exact .inr (.inl z)
    ·exact .inr (.inr z))
   refine ⟨u,ru,?_⟩;rcases lk with ⟨z,_⟩ | ⟨_,c,e1,z⟩
   ·rcases hkd with y | y
    ·have y':X.env.kindOf x=some .cell:=y;rw [z] at y';cases y'
    ·have y':X.env.kindOf x=some .free:=y;rw [z] at y';cases y'
   ·obtain ⟨c',e2⟩:=qJH (env:=X.env) (names:=scope.names) (acc:=[]) (x:=x) (.inl hmem);have e3:=sub _ _ e2;rw [e1] at e3;cases e3;obtain ⟨o,ho,hd⟩:=z;refine .inr ⟨?_,c,e2,o,hk _ _ ho,hd⟩;show (relabel scope X.env).names.lookup x=some .cell\/(relabel scope X.env).names.lookup x=some .free;unfold relabel;rw [qDE,hlk,W5]
    split
    ·exact .inl rfl
    ·exact .inr rfl
 ·obtain ⟨v,o,ho,hd⟩:=I.cell x c (sub _ _ e);exact ⟨v,o,hk _ _ ho,hd⟩
 ·unfold qJ3;show _=(own++fv.map fun i=>X.N.getD i Y4).length;rw [A5,A5,A0,A0,A0]
theorem qYO {scope:Scope} {own:List Str} {fv:List Nat} {fp:List Addr} {pins':List (Addr × Obj)} {σ':St} {H':Hp} {s':Shared} {cl:List (Str × Addr)} (I:Inv X Ab σ H s) (hf:∀ b ∈ fp,FpOk X Ab H b)
  (J:Inv (lcCx X scope own fv ⟨s.heap.objs.size,cl,fp,s,H⟩) pins' σ' H' s'):Inv X Ab σ H' s':=
 I.call' (ch:=fp) J.os J.base J.hok J.bare fun b hb=>⟨(hf b hb).2.2.2.1,(hf b hb).2.1,(hf b hb).2.2.2.2.1,(hf b hb).2.2.2.2.2⟩
end
def PTs (X:Cx) (ifs:List Expr) (t:TT):Prop:=
 ∀ (Ab:List (Addr × Obj)) (s:Shared) (σ:St) (H:Hp) (Q:Bool->Hp->Prop),Inv X Ab σ H s->t σ H Q->
  wpAny (model X.prog X.w) X.A (forIn ifs true fun c r=>if r=true then do let ok <- isTrue c X.env (eval c X.env);pure (O9 ok) else pure (O9 r)) (TP X Ab σ Q) X.xe s
def qbP:TT:=fun _ H Q=>Q true H
theorem qBI {X:Cx}:PTs X [] qbP:=fun Ab s σ H Q I h=>wpAny_tests_nil ⟨H,I,h⟩
theorem qNS {X:Cx} {c:Expr} {t:TT} (h:PT X c t):PTs X [c] t:=fun Ab s σ H Q I hq=>wpAny_tests_one (h Ab s σ H Q I hq)
def qaW (own:List Str) (fv:List Nat) (wi:TI) (g:TG) (tc:TT) (te:TE) (K:Addr->Hp->Prop):St->Hp->Prop:=fun σ H=>wi σ H fun J H1=>∀ p,H1 p=none->
 ∃ W:Nat->Nat->St->Hp->Prop,(∃ m,W 0 m (qJ3 own fv σ) (Ag H1 p (.lst [])))/\∀ i m σ H,W i m σ H->
  (J.stop i H/\K p H)\/(J.go i H/\∃ N:St->Hp->Prop,(∀ σ' H',N σ' H'->∃ m',m'<m/\W (i+1) m' σ' H')/\∀ x H',J.yld i H x H'->g x σ H' fun σ2 H2=>tc σ2 H2 fun b H3=>
   if b=true then te σ2 H3 fun y H4=>∃ ys,H4 p=some (.lst ys)/\ys.length<B59/\N σ2 (Ag H4 p (.lst (ys++[y])))
   else N σ2 H3)
def tLc (own:List Str) (fv:List Nat) (wi:TI) (g:TG) (tc:TT) (te:TE):TE:=fun σ H Q=>qaW own fv wi g tc te (fun p H'=>Q (.ref p) H') σ H
section
variable {X:Cx} {tg iter elt:Expr} {ifs:List Expr} {scope:Scope} {pos:Pos} {own:List Str} {fv:List Nat} {wi:TI} {g:TG} {tc:TT} {te:TE}
theorem qSZ {Ab:List (Addr × Obj)} {s:Shared} {σ:St} {H:Hp} {K:Addr->Hp->Prop} {use:Option (Value->Sem Unit)} {Q:Value->Shared->Prop} {E:Value->Shared->Prop} (hc:X.calm=true) (S:LcScope X scope own fv) (hi:PI X tg iter wi)
  (hg:∀ z,PG (lcCx X scope own fv z) tg g) (ht:∀ z,PTs (lcCx X scope own fv z) ifs tc) (he:∀ z,PE (lcCx X scope own fv z) elt te)
  (I:Inv X Ab σ H s) (h:qaW own fv wi g tc te K σ H) (hxe:∀ e s,X.xe e s->E e s)
  (fin:∀ (p:Addr) (L:Addr) (H':Hp) (s':Shared) (m:Str->Option Value),Inv X Ab σ H' s'->K p H'->s'.heap.Ns L m->X.s₀.heap.objs.size<=L->H' L=none->L ≠ X.env.locals->(∀ x c,X.env.cells.lookup x=some c->c ≠ L)->(∀ q ∈ X.pn++Ab,q.1 ≠ L)->
   compPost (model X.prog X.w) X.A E use Q (.ref p) L (.ok .next) s') (hs:∀ x,C14 iter X.env x=pure x:=by intro _;rfl) :
  wpAny (model X.prog X.w) X.A (comprehension (.ListComp elt [⟨tg,iter,ifs,0⟩] scope pos) scope X.env (firstIterPos [⟨tg,iter,ifs,0⟩] pos) (newList []) false (eval iter X.env) use) Q E s:=by
 have hfr:∀ x,(x,O5) ∈ scope.names->∃ c,X.env.cells.lookup x=some c:=fun x hx=>I.ok.has x (S.free _ hx rfl);refine wpAny_comprehension_free rfl hs (qQZ hfr) S.kind S.names (B71 (hi Ab s σ H _ I h) (fun v s1 h1=>B71 h1 (fun itv s2 h2=>?_) hxe) hxe);obtain ⟨it,fp,tn,J,H2,e,I2,T,st2,f2,q2⟩:=h2;subst e
 -- the list
 refine B69 ?_;have fresh2:H2 s2.heap.objs.size=none:=I2.hok.fresh (A9 _);have I3:Inv X Ab σ (Ag H2 s2.heap.objs.size (.lst [])) { s2 with heap:=s2.heap.push { cls:=.type "list",dict:=none,data:=.seq ([]:List Value).toArray } }:=
  I2.laid (t':=s2.toks) (fun b u e=>A4 _ e) (A9 _) ⟨F8 _,[],0,.nil,B9 _ rfl⟩
 obtain ⟨W,⟨m0,w0⟩,turn⟩:=q2 s2.heap.objs.size fresh2;have lt2:∀ b ∈ fp,b<s2.heap.objs.size:=fun b hb=>by
  obtain ⟨o,e,_⟩:=T.obj 0 _ st2 b hb;exact C1 e
 have f3:∀ b ∈ fp,FpOk X Ab (Ag H2 s2.heap.objs.size (.lst [])) b:=fun b hb=>⟨by rw [qA7 (E3 (lt2 b hb))];exact (f2 b hb).1,(f2 b hb).2⟩
 generalize hp:s2.heap.objs.size=p at *;generalize hH3:Ag H2 p (.lst [])=H3 at *;have st3:tn 0 (s2.heap.push { cls:=.type "list",dict:=none,data:=.seq ([]:List Value).toArray }):=T.keep _ _ _ st2 fun b _ o e=>A4 _ e;have lt3:∀ b ∈ fp,b<(s2.heap.push { cls:=.type "list",dict:=none,data:=.seq ([]:List Value).toArray }).objs.size:=fun b hb=>by
  rw [M8];have:=lt2 b hb;rw [hp];exact P7 this
 generalize hs3:({ s2 with heap:=s2.heap.push { cls:=.type "list",dict:=none,data:=.seq ([]:List Value).toArray } }:Shared)=s3 at *;have st3':tn 0 s3.heap:=by rw [<- hs3];exact st3
 have lt3':∀ b ∈ fp,b<s3.heap.objs.size:=by rw [<- hs3];exact lt3
 -- the block's frame
 refine wpAny_newFunctionEnv S.nocell (by intro y hy;simp at hy) (fun h₁ hns₁ hsb₁=>?_) S.kind
 have keep1:∀ b o,s3.heap.get? b=some o->h₁.get? b=some o:=fun b o e=>hsb₁.extBut b o (E3 (C1 e)) (A4 _ e);have J0:Inv (lcCx X scope own fv ⟨s3.heap.objs.size,qI3 X.env scope.names [],fp,s3,H3⟩) [] (qJ3 own fv σ) H3 { s3 with heap:=h₁,toks:=s3.toks+([]:List (Str × Value)).length }:=qVN I3 S f3 lt3' hns₁ keep1;have cOk:=qaV I3 S f3 lt3';generalize hz:(⟨s3.heap.objs.size,qI3 X.env scope.names [],fp,s3,H3⟩:LcZ)=z at *;have st4:tn 0 h₁:=T.keep _ _ _ st3' fun b _ o e=>keep1 b o e;have fr4:∀ b ∈ fp,H3 b=none:=fun b hb=>(f3 b hb).1;have stat:∀ {H':Hp},(∀ b ∈ fp,H' b=none)->∀ b ∈ fp,FpOk (lcCx X scope own fv z) [] H' b:=fun hn b hb=>by
  subst hz;refine ⟨hn b hb,(cOk.exf b hb).1,cOk.exfs b hb,.inl hb,(cOk.exf b hb).2,fun q hq=>absurd (show q ∈ ([]:List (Addr × Obj)) from hq) (by simp)⟩
 have envE:({ newEnv scope s3.heap.objs.size X.env.globals (qI3 X.env scope.names []) X.env.qual none .none (some X.env) builtinsNs with scope:=relabel scope X.env }:Env)=(lcCx X scope own fv z).env:=by
  subst hz
  rfl
 have loop:∀ sA:Shared,sA={ s3 with heap:=h₁,toks:=s3.toks+([]:List (Str × Value)).length }->B96 (model X.prog X.w) X.A (.compLoop (.ListComp elt [⟨tg,iter,ifs,0⟩] scope pos) 0 (.ref it) (.ref p) (lcCx X scope own fv z).env)
   (compPost (model X.prog X.w) X.A E use Q (.ref p) s3.heap.objs.size) sA:=by
  rintro sA rfl;refine qN0 (fun n s'=>∃ i σ' H',Inv (lcCx X scope own fv z) [] σ' H' s'/\tn i s'.heap/\(∀ b ∈ fp,H' b=none)/\W i n σ' H') ?_ m0 ⟨0,_,H3,J0,st4,fr4,w0⟩;rintro n s4 ⟨i,σ4,H4,I4,st4,fr4,w4⟩;rcases turn i n σ4 H4 w4 with ⟨stop,qn⟩ | ⟨go,Nx,hNx,step⟩
  ·refine thn (T.done (lcCx X scope own fv z) rfl rfl rfl hc i [] s4 σ4 H4 noX I4 (stat fr4) st4 stop) fun r s5 ⟨hr,I5⟩=>?_;subst hr;subst hz;have I6:Inv X Ab σ H4 s5:=qYO I3 f3 I5;obtain ⟨m,hn,_⟩:=id I5.loc;have fpL:=I3.fpOk (H':=H4) (b:=s3.heap.objs.size) (A9 _) I5.free;refine fin p s3.heap.objs.size H4 s5 m I6 qn hn I3.sz fpL.1 fpL.2.1 fpL.2.2.2.2.1 fpL.2.2.2.2.2
  ·refine thn (T.item (lcCx X scope own fv z) rfl rfl rfl hc i [] s4 σ4 H4 noX I4 (stat fr4) st4 go) fun r s5 ⟨u,hr,h5⟩=>?_;subst hr;refine thn h5 fun _ s6 ⟨x,H6,I6,r6,y6,st6,fr6⟩=>?_;have I6':=I6.pinned (stat fr6) (T.obj _ _ st6);have again:∀ {σ7:St} {H7:Hp} {s7:Shared} {m':Nat},m'<n->Inv (lcCx X scope own fv z) ([]++qM9 fp s6.heap) σ7 H7 s7->W (i+1) m' σ7 H7->
     ∃ m,m<n/\∃ i σ' H',Inv (lcCx X scope own fv z) [] σ' H' s7/\tn i s7.heap/\(∀ b ∈ fp,H' b=none)/\W i m σ' H':=fun {σ7 H7 s7 m'} hm I7 w7=>by
    refine ⟨m',hm,i+1,σ7,H7,I7.unpinned,T.keep _ _ _ st6 fun b hb o e=>(I7.pin (b,o) (D5 _ (D5 _ (qF7 hb e)))).1,fun b hb=>?_,w7⟩;obtain ⟨o,e,d⟩:=T.obj _ _ st6 b hb;exact (I7.pin (b,o) (D5 _ (D5 _ (qF7 hb e)))).2.1
   refine thn (hg z _ s6 σ4 H6 x u _ I6' r6 (step x H6 y6)) fun _ s7 ⟨σ7,H7,I7,q7⟩=>?_;refine thn (ht z _ s7 σ7 H7 _ I7 q7) fun b s8 ⟨H8,I8,q8⟩=>?_;cases b with
   | false=>
    obtain ⟨m',hm,w8⟩:=hNx _ _ q8;exact again hm I8 w8
   | true=>
    refine thn (he z _ s8 σ7 H8 _ I8 q8) fun v s9 ⟨y,H9,I9,r9,ys,ep,hl,w9⟩=>?_;refine thn (qBB (X:=lcCx X scope own fv z) _ s9 σ7 H9 (.ref p) [y] (.ref p) [v] (fun _ H'=>Nx σ7 H') I9 rfl (.cons r9 .nil) ⟨p,ys,y,rfl,rfl,ep,hl,w9⟩) fun _ s10 ⟨_,H10,I10,_,q10⟩=>?_;obtain ⟨m',hm,w10⟩:=hNx _ _ q10;exact again hm I10 w10
 rw [envE];exact codeAny_compStart_list (loop _ rfl) (T.self _ _ _ _ _ st4 (loop _ rfl))
theorem qEQ (hc:X.calm=true) (S:LcScope X scope own fv) (hi:PI X tg iter wi) (hg:∀ z,PG (lcCx X scope own fv z) tg g) (ht:∀ z,PTs (lcCx X scope own fv z) ifs tc) (he:∀ z,PE (lcCx X scope own fv z) elt te)
  (hs:∀ x,C14 iter X.env x=pure x:=by intro _;rfl):PE X (.ListComp elt [⟨tg,iter,ifs,0⟩] scope pos) (tLc own fv wi g tc te):=by
 intro Ab s σ H Q I h;rw [eval_ListComp];refine qSZ (use:=none) (K:=fun p H'=>Q (.ref p) H') hc S hi hg ht he I h (fun _ _ q=>q) (fun p L H' s' m I' q hn h1 h2 h3 h4 h5=>?_) hs;exact ⟨m,hn,fun h' hs'=>⟨.ref p,H',I'.other (n:=0) h1 h2 h3 h4 h5 hs',rfl,q⟩⟩
theorem qY3 {i:Nat} {x:Str} {pos' spos:Pos} (hN:X.N.Nodup) (hx:X.N[i]?=some x) (hl:X.env.scope.names.lookup x=some .local) (hc:X.calm=true) (S:LcScope X scope own fv) (hi:PI X tg iter wi) (hg:∀ z,PG (lcCx X scope own fv z) tg g)
  (ht:∀ z,PTs (lcCx X scope own fv z) ifs tc) (he:∀ z,PE (lcCx X scope own fv z) elt te) (hsw:swapsWith (.ListComp elt [⟨tg,iter,ifs,0⟩] scope pos) (some (.Name x pos')) spos.line X.env=pure true)
  (hs:∀ x,C14 iter X.env x=pure x:=by intro _;rfl):PS X (.Assign [.Name x pos'] (.ListComp elt [⟨tg,iter,ifs,0⟩] scope pos) spos) (tAsg (tLc own fv wi g tc te) (qW3 i)):=by
 intro Ab s σ H D I h;rw [exec_Assign_Name_used _ _ _ _ hsw];refine B57 (wpAny_standAt (B57 ?_));show wpAny _ X.A (do let _ <- comprehension (.ListComp elt [⟨tg,iter,ifs,0⟩] scope pos) scope X.env _ (newList []) false (eval iter X.env) (some (assign (.Name x pos') X.env))) _ _ s
 refine B57 (B71 (qSZ (use:=some (assign (.Name x pos') X.env)) (K:=fun p H'=>D.nx (σ.set i (some (.ref p))) H') (Q:=fun _ s'=>SP X Ab D .next s') (E:=X.xe) hc S hi hg ht he I h (fun _ _ q=>q) (fun p L H' s' m I' q hn h1 h2 h3 h4 h5=>?_) hs)
  (fun _ s' hq=>B58 (B58 hq)) fun _ _ e=>e)
 show wpAny _ X.A (assign (.Name x pos') X.env (.ref p)) _ _ _;refine wpAny_assign_Name (qLX (v:=.ref p) I' hN hx (.inl hl) rfl (fun s2 I2 ⟨a,hsb,ha⟩=>?_) (.inr hl));have hLa:L ≠ a:=by
  rcases ha with z | z
  ·rw [z];exact h3
  ·exact fun y=>h4 x a z y.symm
 exact ⟨m,hn.sameBut hsb hLa,fun h' hs'=>⟨_,H',I2.other (n:=0) h1 h2 h3 h4 h5 hs',q⟩⟩
end
theorem qIC {lo:Int} {n:Nat} {g:TG} {tc:TT} {te:TE} {Kf:Hp->Prop} {σ0:St} {H0:Hp} {p:Addr} (Pv:Nat->St->Hp->Prop) (h0:Pv 0 σ0 H0)
  (hs:∀ i σ H,i<n->Pv i σ H->g (.int (lo+i)) σ H fun σ2 H2=>tc σ2 H2 fun b H3=>if b=true then te σ2 H3 fun y H4=>∃ ys,H4 p=some (.lst ys)/\ys.length<B59/\Pv (i+1) σ2 (Ag H4 p (.lst (ys++[y]))) else Pv (i+1) σ2 H3)
  (hd:∀ σ H,Pv n σ H->Kf H) :
  ∃ W:Nat->Nat->St->Hp->Prop,(∃ m,W 0 m σ0 H0)/\∀ i m σ H,W i m σ H->
   ((Itr lo n).stop i H/\Kf H)\/((Itr lo n).go i H/\∃ N:St->Hp->Prop,(∀ σ' H',N σ' H'->∃ m',m'<m/\W (i+1) m' σ' H')/\∀ x H',(Itr lo n).yld i H x H'->g x σ H' fun σ2 H2=>tc σ2 H2 fun b H3=>
    if b=true then te σ2 H3 fun y H4=>∃ ys,H4 p=some (.lst ys)/\ys.length<B59/\N σ2 (Ag H4 p (.lst (ys++[y]))) else N σ2 H3):=by
 refine ⟨fun i m σ H=>m=n - i/\i<=n/\Pv i σ H,⟨n,by simp,F8 _,h0⟩,?_⟩
 rintro i m σ H ⟨rfl,hi,q⟩;by_cases hlt:i<n
 ·refine .inr ⟨hlt,Pv (i+1),fun σ' H' p'=>⟨n - (i+1),by omega,rfl,hlt,p'⟩,fun x H' y=>?_⟩
  obtain ⟨e,y⟩:=y;subst e y;exact hs i σ _ hlt q
 ·have e:i=n:=by omega
  subst e;exact .inl ⟨A9 _,hd σ H q⟩
theorem qL5 {K:PySem.W.Frag} {a:Addr} {xs:List V} {g:TG} {tc:TT} {te:TE} {Kf:Hp->Prop} {σ0:St} {H0:Hp} {p:Addr} (Pv:Nat->St->Hp->Prop) (h0:Pv 0 σ0 H0) (hl:∀ i σ H,i<=xs.length->Pv i σ H->SqL K H a xs)
  (hs:∀ i x σ H,xs[i]?=some x->Pv i σ H->g x σ H fun σ2 H2=>tc σ2 H2 fun b H3=>if b=true then te σ2 H3 fun y H4=>∃ ys,H4 p=some (.lst ys)/\ys.length<B59/\Pv (i+1) σ2 (Ag H4 p (.lst (ys++[y]))) else Pv (i+1) σ2 H3)
  (hd:∀ σ H,Pv xs.length σ H->Kf H) :
  ∃ W:Nat->Nat->St->Hp->Prop,(∃ m,W 0 m σ0 H0)/\∀ i m σ H,W i m σ H->
   ((Itl K a).stop i H/\Kf H)\/((Itl K a).go i H/\∃ N:St->Hp->Prop,(∀ σ' H',N σ' H'->∃ m',m'<m/\W (i+1) m' σ' H')/\∀ x H',(Itl K a).yld i H x H'->g x σ H' fun σ2 H2=>tc σ2 H2 fun b H3=>
    if b=true then te σ2 H3 fun y H4=>∃ ys,H4 p=some (.lst ys)/\ys.length<B59/\N σ2 (Ag H4 p (.lst (ys++[y]))) else N σ2 H3):=by
 refine ⟨fun i m σ H=>m=xs.length - i/\i<=xs.length/\Pv i σ H,⟨xs.length,by simp,F8 _,h0⟩,?_⟩
 rintro i m σ H ⟨rfl,hi,q⟩;have hq:=hl i σ H hi q;by_cases hlt:i<xs.length
 ·refine .inr ⟨⟨xs,xs[i],hq,by simp [hlt]⟩,Pv (i+1),fun σ' H' p'=>⟨xs.length - (i+1),by omega,rfl,hlt,p'⟩,fun x H' y=>?_⟩
  obtain ⟨e,y⟩:=y;subst e;exact hs i x σ _ (y xs hq) q
 ·have e:i=xs.length:=by omega
  subst e;exact .inl ⟨⟨xs,hq,A9 _⟩,hd σ H q⟩
theorem qGK {K:PySem.W.Frag} {a:Addr} {xs:List V} {g:TG} {tc:TT} {te:TE} {Kf:Hp->Prop} {σ0:St} {H0:Hp} {p:Addr} (Pv:Nat->St->Hp->Prop) (h0:Pv 0 σ0 H0) (hl:∀ i σ H,i<=xs.length->Pv i σ H->SqT K H a xs)
  (hs:∀ i x σ H,xs[i]?=some x->Pv i σ H->g x σ H fun σ2 H2=>tc σ2 H2 fun b H3=>if b=true then te σ2 H3 fun y H4=>∃ ys,H4 p=some (.lst ys)/\ys.length<B59/\Pv (i+1) σ2 (Ag H4 p (.lst (ys++[y]))) else Pv (i+1) σ2 H3)
  (hd:∀ σ H,Pv xs.length σ H->Kf H) :
  ∃ W:Nat->Nat->St->Hp->Prop,(∃ m,W 0 m σ0 H0)/\∀ i m σ H,W i m σ H->
   ((Itt K a).stop i H/\Kf H)\/((Itt K a).go i H/\∃ N:St->Hp->Prop,(∀ σ' H',N σ' H'->∃ m',m'<m/\W (i+1) m' σ' H')/\∀ x H',(Itt K a).yld i H x H'->g x σ H' fun σ2 H2=>tc σ2 H2 fun b H3=>
    if b=true then te σ2 H3 fun y H4=>∃ ys,H4 p=some (.lst ys)/\ys.length<B59/\N σ2 (Ag H4 p (.lst (ys++[y]))) else N σ2 H3):=by
 refine ⟨fun i m σ H=>m=xs.length - i/\i<=xs.length/\Pv i σ H,⟨xs.length,by simp,F8 _,h0⟩,?_⟩
 rintro i m σ H ⟨rfl,hi,q⟩;have hq:=hl i σ H hi q;by_cases hlt:i<xs.length
 ·refine .inr ⟨⟨xs,xs[i],hq,by simp [hlt]⟩,Pv (i+1),fun σ' H' p'=>⟨xs.length - (i+1),by omega,rfl,hlt,p'⟩,fun x H' y=>?_⟩
  obtain ⟨e,y⟩:=y;subst e;exact hs i x σ _ (y xs hq) q
 ·have e:i=xs.length:=by omega
  subst e;exact .inl ⟨⟨xs,hq,A9 _⟩,hd σ H q⟩
def qT0 (scope:Scope) (own:List Str) (fv:List Nat) (osc:Scope) (N:List Str):Bool:=
 decide (scope.kind=.function) && scope.names.all (fun y=>decide (y.2 ≠ .cell)) && scope.names.all (fun y=>decide (y.2 ≠ .local) || decide (scope.names.lookup y.1=some .local)) &&
 scope.names.all (fun y=>decide (y.2 ≠ .free) || (decide (osc.names.lookup y.1=some .cell) || decide (osc.names.lookup y.1=some .free))) && decide ((own++fv.map fun i=>N.getD i Y4).Nodup) &&
 fv.all fun i=>decide (i<N.length) && decide (scope.names.lookup (N.getD i Y4)=some .free)
theorem lcs {X:Cx} {scope:Scope} {own:List Str} {fv:List Nat} (h:qT0 scope own fv X.env.scope X.N=true):LcScope X scope own fv:=by
 unfold qT0 at h;simp only [C0,decide_eq_true_eq,E7,A45] at h;obtain ⟨⟨⟨⟨⟨h1,h2⟩,h3⟩,h4⟩,h5⟩,h6⟩:=h;exact ⟨h1,h2,fun y hy e=>(h3 y hy).resolve_left fun z=>z e,fun y hy e=>(h4 y hy).resolve_left fun z=>z e,h5,h6⟩
theorem qCV {N:List Str} (h:decide N.Nodup=true):N.Nodup:=of_decide_eq_true h
theorem qNU {X:Cx} {K:PySem.W.Frag} {es:List Expr} {k n:Nat} {t:TGs} {pos:Pos} (hK:X.K=K) (hc:X.calm=true) (h:PGs X es t) (hn:(C01 es X.env).length=n) (hst:(C01 es X.env).findIdx? (·.1)=none):PG X (.Tuple es k pos) (gTup K n t):=by
 subst hK hn;exact qPE hc h rfl hst
theorem qY6 {X:Cx} {K:PySem.W.Frag} {tg l:Expr} {tl:TE} (hK:X.K=K) (hl:PE X l tl):PI X tg l (iTup K tl):=by subst hK;exact qD3 hl
theorem qYT {X:Cx} {K:PySem.W.Frag} (hK:X.K=K):IxR X (rIxT K):=by subst hK;exact qDO
theorem qVP {X:Cx} {K:PySem.W.Frag} (hK:X.K=K):IxR X (rIxL K):=by subst hK;exact qBT
theorem qSJ {X:Cx} {K:PySem.W.Frag} (hK:X.K=K):OpR X (B75 .In) (rIn K false):=by subst hK;exact qMD
theorem qGF {X:Cx} {K:PySem.W.Frag} (hK:X.K=K):OpR X (B75 .NotIn) (rIn K true):=by subst hK;exact qD4
theorem qU9 {X:Cx} {K:PySem.W.Frag} (hK:X.K=K):qC5 X (.builtin "len") (fun xs H Q=>∃ p ys,xs=[.ref p]/\(SqL K H p ys\/SqT K H p ys)/\Q (.int ys.length) H):=by subst hK;exact qAE
theorem qJI {X:Cx} {K:PySem.W.Frag} (hK:X.K=K):qC5 X (.type "tuple") (fun xs H Q=>∃ p ys,xs=[.ref p]/\((SqL K H p ys/\∀ l,H l=none->Q (.ref l) (Ag H l (.tup ys)))\/(SqT K H p ys/\Q (.ref p) H))):=by subst hK;exact qAS
theorem qLI {xs:Array Nat} {j:Nat} (up:∀ a b,a<b->b<xs.size->xs.getD a j<xs.getD b j):∀ (fuel lo hi:Nat),lo<=hi->hi<=xs.size->hi - lo<=fuel->(∀ i,i<lo->xs.getD i j<j)->(∀ i,hi<=i->i<xs.size->j<=xs.getD i j)->
  j8 xs j fuel lo hi<=xs.size/\(∀ i,i<j8 xs j fuel lo hi->xs.getD i j<j)/\(∀ i,j8 xs j fuel lo hi<=i->i<xs.size->j<=xs.getD i j)
 | 0,lo,hi,h1,h2,h3,a,b=>by
  have e:lo=hi:=by lia
  subst e;exact ⟨h2,a,b⟩
 | fuel+1,lo,hi,h1,h2,h3,a,b=>by
  unfold j8;by_cases hlt:lo<hi
  ·rw [if_pos hlt];dsimp only;have hm1:lo<=(lo+hi) / 2:=by lia
   have hm2:(lo+hi) / 2<hi:=by lia
   by_cases hc:xs.getD ((lo+hi) / 2) j<j
   ·rw [if_pos hc];refine qLI up fuel _ _ (by lia) h2 (by lia) (fun i hi'=>?_) b
    by_cases e:i=(lo+hi) / 2
    ·rw [e];exact hc
    ·exact x8 (up i ((lo+hi) / 2) (by lia) (by lia)) hc
   ·rw [if_neg hc];refine qLI up fuel _ _ (by lia) (by lia) (by lia) a (fun i hi' hs=>?_)
    by_cases e:i=(lo+hi) / 2
    ·rw [e];lia
    ·have:=up ((lo+hi) / 2) i (by lia) hs
     lia
  ·rw [if_neg hlt];have e:lo=hi:=by lia
   subst e;exact ⟨h2,a,b⟩
theorem qXP {xs:Array Nat} (j:Nat) (h:xs.toList.Pairwise (·<·)):∀ a b,a<b->b<xs.size->xs.getD a j<xs.getD b j:=fun a b hab hb=>by
 have:=P0.mp h a b (by simpa using x8 hab hb) (by simpa using hb) hab
 rw [F4,F4,C8 (x8 hab hb),C8 hb];simpa using this
theorem qHF {xs:Array Nat} {j:Nat} (h:xs.toList.Pairwise (·<·)):F0 xs j<=xs.size/\(∀ i,i<F0 xs j->xs.getD i j<j)/\(∀ i,F0 xs j<=i->i<xs.size->j<=xs.getD i j):=by
 unfold F0;exact qLI (qXP j h) xs.size 0 xs.size (F8 _) (A9 _) (by lia) (fun i hi=>absurd hi (by lia)) (fun i hi hs=>absurd hs (by lia))
theorem qCX {α:Type} (xs:Array α) (p:Nat) (x:α):(J1 xs p x).toList=xs.toList.take p++x::xs.toList.drop p:=by
 unfold J1;simp [Array.toList_extract,E6]
structure T7 (byText:Bool) (t:B83) (n:Nat):Prop where
 mask:t.mask=7
 dum:t.dummies=#[]
 plain:t.plain=true
 led:t.led=!byText
 size:t.place.size=n
 up:t.place.toList.Pairwise (·<·)
 le:∀ j ∈ t.place.toList,j<=7
section
variable {byText:Bool} {t:B83} {n:Nat}
def pr (i pt:Nat):SetTable.Probe:={ j:=i,more:=0,i:=i,perturb:=pt,dummy:=none }
end
theorem qKF {α:Type}:∀ (l:List α) (i:Nat) (h:i<l.length),(l[i]::l.eraseIdx i).Perm l
 | [],i,h=>absurd h (by simp)
 | a::r,0,h=>.refl _
 | a::r,i+1,h=>by
  have hi:i<r.length:=by simpa using h
  have ih:=qKF r i hi;show (r[i]::a::r.eraseIdx i).Perm (a::r);exact (List.Perm.swap _ _ _).trans (ih.cons a)
theorem qSC {α:Type} (next:Nat->Nat):∀ (fuel k:Nat) (left:List α) (out:Array α),fuel=left.length->(B04 next fuel k left out).toList.Perm (out.toList++left)
 | 0,k,left,out,h=>by
  have:left=[]:=Q2.mp h.symm;subst this;unfold B04;simp
 | fuel+1,k,left,out,h=>by
  have hl:0<left.length:=by lia
  have hm:next k % left.length<left.length:=j9 _ hl;unfold B04;rw [A7 hm];dsimp only;refine (qSC next fuel (k+1) _ _ (by rw [w5 hm];lia)).trans ?_
  rw [W6,I0];exact m5 _ (qKF left _ hm)
theorem qSB {α:Type} (next:Nat->Nat) (xs:Array α):(pickOrder next xs).toList.Perm xs.toList:=by
 unfold pickOrder;have:=qSC next xs.size 0 xs.toList #[] (by simp)
 simpa using this
abbrev Ents:List Int->List (Int × Value)->Prop:=Paired fun k e=>∃ tk,e=(hashInt k,U1 k tk)
theorem Ents.perm:∀ {es es':List (Int × Value)} {ks:List Int},Ents ks es->es'.Perm es->∃ ks',Ents ks' es'/\ks'.Perm ks:=by
 intro es es' ks h p;have key:∀ {a b:List (Int × Value)},a.Perm b->∀ ks,Ents ks b->∃ ks',Ents ks' a/\ks'.Perm ks:=by
  intro a b p
  induction p with
  | nil=>intro ks h;exact ⟨ks,h,.refl _⟩
  | cons x p ih=>
   intro ks h;cases h with
   | cons r t=>
    obtain ⟨ks',h1,h2⟩:=ih _ t;exact ⟨_::ks',.cons r h1,h2.cons _⟩
  | swap x y l=>
   intro ks h;cases h with
   | cons r t=>
    cases t with
    | cons r' t'=>exact ⟨_,.cons r' (.cons r t'),.swap _ _ _⟩
  | trans p q ih1 ih2=>
   intro ks h;obtain ⟨k1,h1,h2⟩:=ih2 ks h;obtain ⟨k2,h3,h4⟩:=ih1 k1 h1;exact ⟨k2,h3,h4.trans h2⟩
 exact key p ks h
theorem Ents.elems {prog:B60} {w:World} {es:List (Int × Value)} {ks:List Int} (h:Ents ks es):ElemsOf (B99 prog w) es:=by
 intro e he;have key:∀ {ks:List Int} {es:List (Int × Value)},Ents ks es->∀ e ∈ es,∃ k tk,e=(hashInt k,U1 k tk):=by
  intro ks es h
  induction h with
  | nil=>intro e he;cases he
  | cons r t ih=>
   intro e he;rcases B8.mp he with z | z
   ·subst z;obtain ⟨tk,e⟩:=r;exact ⟨_,tk,e⟩
   ·exact ih e z
 obtain ⟨k,tk,rfl⟩:=key h e he;exact ⟨⟨k,by simp [B99,A16],rfl⟩,rfl⟩
theorem Ents.find {prog:B60} {w:World} {k:Int}:∀ {es:List (Int × Value)} {ks:List Int},Ents ks es->((B42 (fun e=>(B99 prog w).is k e.2) es).isSome=true ↔ k ∈ ks)
 | _,_,.nil=>by simp
 | _,_,.cons r t=>by
  obtain ⟨tk,rfl⟩:=r
  rename_i k' ks' es'
  have ih:=Ents.find (prog:=prog) (w:=w) (k:=k) t;rw [List.findIdx?_cons,B8];have hi:(B99 prog w).is k (U1 k' tk)=decide (k=k'):=by
   by_cases e:k=k'
   ·simp [B99,A16,e]
   ·have e':¬ k'=k:=fun z=>e z.symm;simp [B99,A16,e,e']
  dsimp only;rw [hi];by_cases e:k=k'
  ·simp [e]
  ·simp only [e,decide_false,M4,if_false,false_or,O4];exact ih
def byT (w:World):Bool:=w.params.followText "set-order"
def SetI (w:World) (a:Addr) (zs:List Int) (h:Heap):Prop:=
 ∃ (es:Array (Int × Value)) (ep:Nat) (t:B83) (ks:List Int),h.get? a=some { cls:=.type "set",data:=.set es ep t }/\T7 (byT w) t es.size/\Ents ks es.toList/\ks.Perm zs/\zs.Nodup/\zs.length<=4
def addI (zs:List Int) (k:Int):List Int:=if k ∈ zs then zs else zs++[k]
section
variable {prog:B60} {w:World} {A:Around} {E:Value->Shared->Prop} {s:Shared}
theorem SetI.size {a:Addr} {zs:List Int} {h:Heap} {es:Array (Int × Value)} {ks:List Int} (he:Ents ks es.toList) (hp:ks.Perm zs):es.size=zs.length:=by
 rw [<- hp.length_eq,C6 he,C3]
end
def dedI:List Int->List Int:=fun l=>l.foldl addI []
theorem qWK (zs:List Int) (k:Int):(addI zs k).length<=zs.length+1:=by
 unfold addI
 split <;> simp
theorem qDI:∀ (l zs:List Int),(l.foldl addI zs).length<=zs.length+l.length
 | [],zs=>by simp
 | k::r,zs=>by
  have h1:=qDI r (addI zs k);have h2:=qWK zs k;rw [W1,D8]
  lia
section
variable {prog:B60} {w:World} {A:Around} {R:Result->Shared->Prop} {I:Addr} {fp wr:List Addr} {G:Array C09->Array C09->Prop} {n:Nat} {P:Nat->Value->Prop} {St:Nat->Shared->Prop}
end
abbrev qC3 (w:World):Obj:={ cls:=.type "set",dict:=none,data:=.set #[] 0 (.fresh 0 0 (!byT w)) }
section
variable {prog:B60} {w:World} {A:Around} {E:Value->Shared->Prop} {s:Shared}
theorem qS5 (a:Value) {Q₁:Value->Shared->Prop} (h:Q₁ (.ref s.heap.objs.size) { s with heap:=s.heap.push (qC3 w) }) :
  B96 (model prog w) A (.call (.builtin "set.__new__") ⟨[.type "set",a],[]⟩) (wants Q₁ E) s:=by
 refine codeAny_of_tree ?_;show wpAny _ A.in1 (do checkBuiltinCall "set.__new__" ⟨[.type "set",a],[]⟩;again (.builtin "set.__new__" ⟨[.type "set",a],[]⟩)) _ _ s
 refine B57 (C07 (F.newCall_set_1 a) (B58 ⟨B93 F.plain_set_new _,B81 F.entry_set_new ?_⟩));rw [N9 F.plain_set_new _];unfold Builtin.«set.__new__» B27;have hsub:=sub_set_self;obtain ⟨hp,g,d,tk,os⟩:=s;dsimp only
 wp_walk
 refine C03 (B58 ?_);dsimp only;simp only [newObj];refine B57 (wpAny_alloc (B58 ?_));exact B58 h
set_option maxHeartbeats 3200000 in
end
theorem slot_si_next:Slot "set_iterator" "__next__" "set_iterator.__next__":=
 .of (owner:="set_iterator") (n:="__next__") (by rw [typeLookup_type,builtinLookup_eq_fast];kernel_rfl) (by decide +kernel) (by decide +kernel) (by decide +kernel)
  (by first | exact .inl (by decide +kernel) | exact .inr (by decide +kernel)) (by rw [isSubtype_type];kernel_rfl)
theorem qHL:Slot "set_iterator" "__iter__" "set_iterator.__iter__":=
 .of (owner:="set_iterator") (n:="__iter__") (by rw [typeLookup_type,builtinLookup_eq_fast];kernel_rfl) (by decide +kernel) (by decide +kernel) (by decide +kernel)
  (by first | exact .inl (by decide +kernel) | exact .inr (by decide +kernel)) (by rw [isSubtype_type];kernel_rfl)
theorem qGX:entryFor table "set_iterator.__next__" = some Builtin.«set_iterator.__next__»:=entryFor_of_tree (by kernel_rfl)
theorem qLB:entryFor table "set_iterator.__iter__" = some Builtin.«dict_keyiterator.__iter__»:=
 entryFor_alias (id':="dict_keyiterator.__iter__") (by kernel_rfl) rfl (by decide +kernel) (by kernel_rfl)
theorem qJS:entryFor table "set.__iter__" = some Builtin.«frozenset.__iter__»:=
 entryFor_alias (id':="frozenset.__iter__") (by kernel_rfl) rfl (by decide +kernel) (by kernel_rfl)
theorem qPJ:Manifest.owners.lookup (String.ofList "set_iterator".toList.reverse.reverse)=some Manifest.sig_set_iterator:=by kernel_rfl
theorem qHW (a:Value):argsOk "set_iterator.__next__" ⟨[a],[]⟩:=by
 unfold argsOk;rw [signature?_of (id:="set_iterator.__next__") (n:="__next__".toList.reverse) (o:="set_iterator".toList.reverse) (by kernel_rfl) qPJ];kernel_rfl
theorem qND (a:Value):argsOk "set_iterator.__iter__" ⟨[a],[]⟩:=by
 unfold argsOk;rw [signature?_of (id:="set_iterator.__iter__") (n:="__iter__".toList.reverse) (o:="set_iterator".toList.reverse) (by kernel_rfl) qPJ];kernel_rfl
def qEM (w:World) (a:Addr) (ep:Nat) (es:Array (Int × Value)):List (Int × Value):=if byT w=true then (pickOrder (w.params.setOrder a ep) es).toList else es.toList
def qEO (w:World) (t:B83) (i:Nat):Nat:=if byT w=true then 0 else if i=0 then 0 else t.place.getD (i - 1) 0+1
theorem qEL (w:World) (a:Addr) (ep:Nat) (es:Array (Int × Value)):(qEM w a ep es).Perm es.toList:=by
 unfold qEM
 split
 ·exact qSB _ _
 ·exact .refl _
def SetIt (w:World) (a I:Addr) (es:Array (Int × Value)) (ep:Nat) (t:B83) (i:Nat) (h:Heap):Prop:=
 (∃ o,h.get? I=some o/\o.cls=.type "set_iterator"/\o.data=.fields #[.int (qEO w t i) 0,.int i 0,.ref a,.int es.size 0,.int ep 0])/\h.get? a=some { cls:=.type "set",data:=.set es ep t }
section
variable {prog:B60} {w:World} {A:Around} {E:Value->Shared->Prop} {s:Shared} {a I:Addr} {es:Array (Int × Value)} {ep:Nat} {t:B83} {i:Nat}
theorem SetIt.typeIs (x:SetIt w a I es ep t i s.heap):s.TypeIs (.ref I) "set_iterator":=let ⟨⟨o,h1,h2,_⟩,_⟩:=x;⟨o,h1,h2⟩
theorem qXW {Q:Value->Shared->Prop} (hit:SetIt w a I es ep t i s.heap) (h:Q (.ref I) s):wpAny (model prog w) A (pyIter (.ref I)) Q E s:=by
 refine wpAny_pyIter_slot hit.typeIs qHL (B74 qHL hit.typeIs qLB ?_ (qND _));show wpAny _ _ (ret (.ref I)) _ _ s;exact B58 ⟨_,rfl,"set_iterator",_,hit.typeIs,slot_si_next.lookup,h⟩
theorem qXX {Q:Bool->Shared->Prop} (hT:s.TypeIs (.ref a) "set") (h:Q false s):wpAny (model prog w) A (q9 (.ref a)) Q E s:=by
 unfold q9;refine B57 (wpAny_specialOf hT PySem.F.slot_set_len.lookup ?_);generalize hid:("set.__len__" : String)=id0
 wp_delta
 rw [show splitId id0=some ("set","__len__") from by subst hid;decide +kernel]
 subst hid;refine B57 (C18 (T:="set") (b:=true) hT (by rw [isSubtype_type];kernel_rfl) ?_)
 refine wpAny_ite_split (fun hab=>absurd hab (by decide)) (fun _=>?_)
 refine wpAny_ite_split (fun _=>?_) (fun hab=>absurd (by decide +kernel) hab)
 refine B57 (wpAny_typeOf hT ?_);exact B58 h
end
theorem qE1 {ns:List Int}:∀ {us:List Value},Vals (ns.map V.int) us->B72 us ns:=by
 induction ns with
 | nil=>intro us h;cases h;exact .nil
 | cons n r ih=>
  intro us h;cases h with
  | cons r1 r2=>
   obtain ⟨t,rfl⟩:=r1;exact IntsAre.cons _ _ (ih r2)
theorem qEN:∀ {us:List Value} {ns:List Int},B72 us ns->Vals (ns.map V.int) us:=qIO
section
variable {X:Cx}
def SetO (w:World) (a:Addr) (zs:List Int):HO:=.ext (SetI w a zs)
theorem Inv.track {Ab:List (Addr × Obj)} {s:Shared} {σ:St} {H:Hp} {T:Addr} {o:HO} (I:Inv X Ab σ H s) (h0:H T=none) (h1:X.s₀.heap.objs.size<=T) (h2:T ≠ X.env.locals) (h3:∀ x c,X.env.cells.lookup x=some c->c ≠ T) (h4:∀ p ∈ X.pn++Ab,p.1 ≠ T)
  (new:ObjOk X.prog X.w (Ag H T o) s.heap T o):Inv X Ab σ (Ag H T o) s:=by
 have old:∀ b ob,X.s₀.heap.get? b=some ob->b ≠ T:=fun b ob e=>E3 (G2 (C1 e) h1);have some':∀ b u,H b=some u->(Ag H T o) b=some u:=fun b u e=>by rw [qA7 (qA5 e h0)];exact e
 refine ⟨I.ok,I.os,I.bare,⟨I.base.keep,I.base.slot,fun b ob e n hx=>?_,I.base.there,fun b xs e=>some' _ _ (I.base.tups b xs e),fun b ob u e=>some' _ _ (I.base.frzs b ob u e),fun b ps e=>?_⟩,I.loc,I.cell,?_,fun x c e=>?_,fun p hp=>?_,fun b u e=>?_,I.len⟩
 ·rw [qA7 (old b ob e)];exact I.base.free b ob e n hx
 ·exact some' _ _ (I.base.tbls b ps e)
 ·rw [qA7 (L8 h2)];exact I.free
 ·rw [qA7 (h3 x c e)];exact I.freeC x c e
 ·obtain ⟨e1,n,r⟩:=I.pin p hp;exact ⟨e1,by rw [qA7 (h4 p hp)];exact n,r⟩
 ·by_cases hb:b=T
  ·subst hb;rw [qA1] at e;cases e;exact new
  ·rw [qA7 hb] at e;exact (I.hok b u e).stay (fun c v _ q=>q) (fun c q=>some' _ _ q) (fun c ys q=>some' _ _ q) fun c t q=>some' _ _ q
theorem qQK {Ab:List (Addr × Obj)} {s:Shared} {σ:St} {H:Hp} {vs:List Value} {ns:List Int} (I:Inv X Ab σ H s) (hv:B72 vs ns) (hz:ns.length<=B59) :
  Inv X Ab σ (Ag H s.heap.objs.size (.lst (ns.map V.int))) { s with heap:=s.heap.push { cls:=.type "list",data:=.seq vs.toArray } }:=
 I.lnew (t':=s.toks) (qEN hv) (by rw [A0];exact hz)
def qFL (lo hi:Int):List V:=(G5 (hi - lo).toNat).map fun (i:Nat)=>V.int (lo+i)
theorem qN3:qC5 X (.type "range") (fun xs H Q=>∃ j,xs=[.int j]/\∀ p,H p=none->Q (.ref p) (Ag H p (.rng 0 j))):=by
 intro Ab s σ H xs us Q I r h;obtain ⟨j,rfl,q⟩:=h;obtain ⟨u,rfl,t,rfl⟩:=qDK r;refine call_range_1 ⟨.ref s.heap.objs.size,_,I.laid (fun b o e=>A4 _ e) (A9 _) ?_,rfl,q _ (I.hok.fresh (A9 _))⟩;exact ⟨_,_,_,B9 _ rfl⟩
theorem qN2:qC5 X (.type "range") (fun xs H Q=>∃ i j,xs=[.int i,.int j]/\∀ p,H p=none->Q (.ref p) (Ag H p (.rng i j))):=by
 intro Ab s σ H xs us Q I r h;obtain ⟨i,j,rfl,q⟩:=h;obtain ⟨u,v,rfl,⟨t,rfl⟩,⟨t',rfl⟩⟩:=qNG r;refine call_range_2 ⟨.ref s.heap.objs.size,_,I.laid (fun b o e=>A4 _ e) (A9 _) ?_,rfl,q _ (I.hok.fresh (A9 _))⟩;exact ⟨_,_,_,B9 _ rfl⟩
theorem qP8 {lo hi:Int} {n:Nat} {acc:List Value} (hn:n=(hi - lo).toNat) (hl:acc.length=n) (h:∀ (i:Nat) (v:Value),acc[i]?=some v->∃ t,v=.int (lo+i * 1) t):Vals (qFL lo hi) acc:=by
 have key:∀ (m:Nat) (acc:List Value),acc.length=m->∀ lo:Int,(∀ (i:Nat) (v:Value),acc[i]?=some v->∃ t,v=.int (lo+i) t)->Vals ((G5 m).map fun (i:Nat)=>V.int (lo+i)) acc:=by
  intro m
  induction m with
  | zero=>
   intro acc hl lo h;have:acc=[]:=Q2.mp hl;subst this;exact .nil
  | succ m ih=>
   intro acc hl lo h;cases acc with
   | nil=>simp at hl
   | cons v acc=>
    rw [A39,E8,P8];have h0:=h 0 v rfl;refine .cons h0 ?_;have h1:=ih acc (by simpa using hl) (lo+1) fun i v hi=>by
     have:=h (i+1) v (by simpa using hi)
     obtain ⟨t,e⟩:=this;refine ⟨t,?_⟩;rw [e];congr 1
     push_cast
     lia
    have e:((fun (i:Nat)=>V.int (lo+i)) ∘ Nat.succ)=fun (i:Nat)=>V.int (lo+1+i):=by
     funext i
     simp only [Function.comp];congr 1
     push_cast
     lia
    rw [e];exact h1
 unfold qFL;rw [<- hn];refine key n acc hl lo fun i v hi=>?_;obtain ⟨t,e⟩:=h i v hi;exact ⟨t,by rw [e,Int.mul_one]⟩
theorem qK0 (lo hi:Int):(qFL lo hi).length=(hi - lo).toNat:=by unfold qFL;simp
theorem qa4 {lo hi:Int}:F5 lo hi 1=((hi - lo).toNat:Nat):=by rw [rangeSize_one];split <;> lia
theorem qGZ (hc:X.calm=true):qC5 X (.type "list") (fun xs H Q=>∃ p lo hi,xs=[.ref p]/\H p=some (.rng lo hi)/\-1000000<=lo/\lo<=1000000/\-1000000<=hi/\hi<=1000000/\∀ l,H l=none->Q (.ref l) (Ag H l (.lst (qFL lo hi)))):=by
 intro Ab s σ H xs us Q I r h;obtain ⟨p,lo,hi,rfl,hp,l1,l2,l3,l4,q⟩:=h;obtain ⟨u,rfl,rx⟩:=qDK r;cases rx;obtain ⟨t,u,v,e⟩:=(show ∃ t u v,s.heap.get? p=some { cls:=.type "range",data:=.fields #[.int lo t,.int hi u,.int 1 v] } from I.hok p _ hp);refine call_list_range (n:=(hi - lo).toNat) (I.ok.hd hc) (show IsRange s.heap p lo hi 1 t u v from e) (small_one (by lia) (by lia) (by lia) (by lia)) qa4 (by lia) fun h' tk acc c' hk hS hacc=>?_
 obtain ⟨a1,a2⟩:=hacc;refine ⟨.ref s.heap.objs.size,_,I.laid (t':=tk) hk (A9 _) (show ObjOk X.prog X.w _ h' _ (.lst (qFL lo hi)) from ⟨?_,acc.toList,c',qP8 rfl (by simpa using a1) fun i v hi=>a2 i v (by rw [<- F2];exact hi),by simpa using hS⟩),rfl,q _ (I.hok.fresh (A9 _))⟩
 rw [qK0,B66]
 lia
theorem qLF {prog:B60} {w:World} {A:Around} {E:Value->Shared->Prop} {s:Shared} {R:List Value->Shared->Prop} {r:Addr} {a b:Int} {t u v:Tok} {n:Nat} (hh:A.handled=none) (hr:IsRange s.heap r a b 1 t u v) (hsmall:c9 a b 1=true)
  (hn:F5 a b 1=n) (hlen:n<=2 ^ 24)
  (h:∀ (h':Heap) (tk:Nat) (acc:Array Value),(∀ b o,s.heap.get? b=some o->h'.get? b=some o)->ItemsOf (fun i v=>∃ t,v=.int (a+i * 1) t) acc n->R acc.toList { s with heap:=h',toks:=tk }) :
  wpAny (model prog w) A (collect (.ref r)) R E s:=by
 unfold collect;refine B57 (wpAny_runValue (B81 entry_proto_collect' ?_));rw [N9 PySem.F.plain_proto_collect _];show wpAny _ A.in1 (newList [] >>= fun l=>again (.builtin "list.__iadd__" ⟨[l,.ref r],[]⟩)) _ _ s;refine B57 (B69 ?_);refine B58 ⟨B93 A24 _,B81 entry_list_iadd' ?_⟩;rw [N9 A24 _];have hS₁:(s.heap.push { cls:=.type "list",data:=.seq ([]:List Value).toArray }).get? s.heap.objs.size=some { cls:=.type "list",data:=.seq #[] }:=B9 _ rfl;show wpAny _ A.in1 (Builtin.List.listExtendWith (.ref s.heap.objs.size) (.ref r) (.ref s.heap.objs.size)) _ _ _;have key:=wpAny_extend_range (prog:=prog) (w:=w) (A:=A) (s:={ s with heap:=s.heap.push { cls:=.type "list",data:=.seq ([]:List Value).toArray } })
  (R:=fun (q:Result) (s':Shared)=>∃ (h':Heap) (tk:Nat) (acc':Array Value) (c':Nat),q=.ok (.ret (.ref s.heap.objs.size))/\s'={ s with heap:=h',toks:=tk }/\
   (∀ b o,s.heap.get? b=some o->h'.get? b=some o)/\h'.get? s.heap.objs.size=some { cls:=.type "list",dict:=none,data:=.seq acc' c',slots:=#[] }/\ItemsOf (fun i v=>∃ t,v=.int (a+i * 1) t) acc' n)
  hh (A4 _ hr) hsmall hn hlen s.heap.objs.size (.ref s.heap.objs.size) 0 hS₁
  (fun h' tk acc' c' hk hS' hacc=>⟨h',tk,acc',c',rfl,rfl,fun b o e=>hk b o (E3 (C1 e)) (A4 _ e),hS',hacc⟩)
 refine B71 key (fun fin s' x=>?_) fun e s' x=>?_
 ·cases fin with
  | done f=>
   obtain ⟨h',tk,acc',c',e,rfl,hk,hS',hacc⟩:=x;cases e;show wpAny _ A (load s.heap.objs.size >>= _) _ _ _;refine B57 (wpAny_load hS' ?_);exact B58 (h h' tk acc' hk hacc)
  | again c₁=>
   refine ⟨x.1,C00 x.2 fun q s₂ y=>?_⟩;obtain ⟨h',tk,acc',c',rfl,rfl,hk,hS',hacc⟩:=y;show wpAny _ A (load s.heap.objs.size >>= _) _ _ _;refine B57 (wpAny_load hS' ?_);exact B58 (h h' tk acc' hk hacc)
 ·obtain ⟨_,_,_,_,e',_⟩:=x;cases e'
theorem qNI {prog:B60} {w:World} {A:Around} {E:Value->Shared->Prop} {s:Shared} {Q:Value->Shared->Prop} {r:Addr} {a b:Int} {t u v:Tok} {n:Nat} (hh:A.handled=none) (hr:IsRange s.heap r a b 1 t u v) (hsmall:c9 a b 1=true)
  (hn:F5 a b 1=n) (hlen:n<=2 ^ 24)
  (h:∀ (h':Heap) (tk:Nat) (acc:Array Value),(∀ b o,s.heap.get? b=some o->h'.get? b=some o)->ItemsOf (fun i v=>∃ t,v=.int (a+i * 1) t) acc n->Q (.ref h'.objs.size) { s with heap:=h'.push { cls:=.type "tuple",data:=.seq acc },toks:=tk }) :
  wpAny (model prog w) A (call (.type "tuple") [.ref r]) Q E s:=by
 have hcode:B96 (model prog w) A.in1 (.call (.builtin "tuple.__new__") ⟨[.type "tuple",.ref r],[]⟩) (wants (fun obj s₁=>s₁.TypeIs obj "tuple"/\Q obj s₁) E) s:=by
  refine codeAny_of_tree ?_;show wpAny _ A.in1.in1 (do checkBuiltinCall "tuple.__new__" ⟨[.type "tuple",.ref r],[]⟩;again (.builtin "tuple.__new__" ⟨[.type "tuple",.ref r],[]⟩)) _ _ s
  refine B57 (C07 (F.newCall_tuple_1 _) (B58 ⟨B93 A96 _,B81 F.entry_tuple_new ?_⟩));rw [N9 A96 _];have hsub:=sub_tuple_self;have hinit:=init_tuple_lookup;have hmh:=madeHere_tuple;have hTI:s.TypeIs (.ref r) "range":=⟨_,hr,rfl⟩
  wp_walk using wpAny_typeOf hTI,qLF (prog:=prog) (w:=w) (A:=A.in1.in1) hh hr hsmall hn hlen
  intro h' tk acc hk hacc;show wpAny _ _ (P3 acc.toList.toArray >>= fun v=>ret v) _ _ _;unfold P3;refine B57 (B69 ?_ (by show acc.toList.toArray.size<=B59;simp only [Array.toArray_toList];rw [hacc.1,B66];lia))
  refine B58 ?_;have e:acc.toList.toArray=acc:=by simp
  rw [e];exact ⟨⟨_,B9 _ rfl,rfl⟩,h h' tk acc hk hacc⟩
 refine callType_codes (Q₁:=fun obj s₁=>s₁.TypeIs obj "tuple"/\Q obj s₁) A65 (F.typeCall_tuple_1 _) F.entry_object_init hcode fun obj s₁ h₁=>?_;exact ⟨h₁.1,A56 obj _,object_init_meets A65.init.lookup A65.made (by decide) prog w A.in1 _ s₁ ⟨h₁.1,rfl,h₁.2⟩⟩
theorem qFQ (hc:X.calm=true):qC5 X (.type "tuple") (fun xs H Q=>∃ p lo hi,xs=[.ref p]/\H p=some (.rng lo hi)/\-1000000<=lo/\lo<=1000000/\-1000000<=hi/\hi<=1000000/\∀ l,H l=none->Q (.ref l) (Ag H l (.tup (qFL lo hi)))):=by
 intro Ab s σ H xs us Q I r h;obtain ⟨p,lo,hi,rfl,hp,l1,l2,l3,l4,q⟩:=h;obtain ⟨u,rfl,rx⟩:=qDK r;cases rx;obtain ⟨t,u,v,e⟩:=(show ∃ t u v,s.heap.get? p=some { cls:=.type "range",data:=.fields #[.int lo t,.int hi u,.int 1 v] } from I.hok p _ hp);refine qNI (n:=(hi - lo).toNat) (I.ok.hd hc) (show IsRange s.heap p lo hi 1 t u v from e) (small_one (by lia) (by lia) (by lia) (by lia)) qa4 (by lia) fun h' tk acc hk hacc=>?_
 obtain ⟨a1,a2⟩:=hacc;have I1:Inv X Ab σ H { s with heap:=h',toks:=tk }:=I.kept hk;refine ⟨.ref h'.objs.size,_,I1.laid (t':=tk) (fun b o e=>A4 _ e) (A9 _) (show ObjOk X.prog X.w _ _ _ (.tup (qFL lo hi)) from ⟨?_,acc.toList,qP8 rfl (by simpa using a1) fun i v hi=>a2 i v (by rw [<- F2];exact hi),?_⟩),rfl,q _ (I1.hok.fresh (A9 _))⟩
 ·rw [qK0,B66]
  lia
 ·have:=IsTup.new h' acc;simpa using this
theorem qQG:∀ (bs:List Bool),((G5 bs.length).all fun i=>(bs[i]?).getD true)=bs.all id:=by
 intro bs;rw [O7,E7,E7]
 constructor
 ·intro h b hb;obtain ⟨i,hi,e⟩:=Z8.mp hb;have:=h i (E9.mpr hi);rw [A7 hi,e] at this;exact this
 ·intro h i hi;have hi':=E9.mp hi;rw [A7 hi'];exact h _ (o5 hi')
theorem qIJ (hc:X.calm=true):qC5 X (.builtin "all") (fun xs H Q=>∃ (p:Addr) (bs:List Bool),xs=[.ref p]/\SqL X.K H p (bs.map V.bl)/\Q (.bl (bs.all id)) H):=by
 intro Ab s σ H xs us Q I r h;obtain ⟨p,bs,rfl,hq,q⟩:=h;obtain ⟨u,rfl,rx⟩:=qDK r;cases rx;obtain ⟨its,rv,pl,hz⟩:=I.list hq;have hl:=pl.isList;have hlt:p<s.heap.objs.size:=by obtain ⟨_,e,_⟩:=hl;exact C1 e
 have hlen:=rv.length;rw [A0] at hlen;refine call_all_walk (B94 hl ?_);refine ⟨s.heap.objs.size,[s.heap.objs.size,p],[s.heap.objs.size],its.toArray.size,_,_,fun i=>(bs[i]?).getD true,rfl,A97 (A:=X.A.in1) (I.ok.hd hc) _ p (E3 hlt) its.toArray,
  ⟨⟨_,B9 _ rfl,rfl,rfl⟩,hl.push _⟩,fun i v s' Q' E' hP hQ=>?_,fun h' tk hk=>?_⟩
 ·have hP':its[i]?=some v:=by simpa using hP
  have hi:i<bs.length:=by rw [hlen];exact (A3.mp hP').1
  obtain ⟨u,hu,ru⟩:=rv.get (i:=i) (x:=.bl bs[i]) (by rw [C4,A7 hi];rfl)
  rw [hP'] at hu;cases hu;cases ru;dsimp only at hQ;rw [A7 hi,o6] at hQ;exact B78 hQ
 ·have e:((G5 its.toArray.size).all fun i=>(bs[i]?).getD true)=bs.all id:=by
   rw [B4,<- hlen];exact qQG bs
  refine ⟨.bl (bs.all id),H,I.kept fun b x e=>hk b x (fun hm=>by rw [A6.mp hm] at e;exact X1 _ (C1 e)) (A4 _ e),?_,q⟩
  rw [e]
  rfl
theorem qAV:qC5 X (.builtin "isinstance") (fun xs H Q=>∃ x T t b,xs=[x,.ty T]/\TyOf X.K H x t/\G9 X.K t (.type T)=some b/\Q (.bl b) H):=by
 intro Ab s σ H xs us Q I r h;obtain ⟨x,T,t,b,rfl,ht,hk,q⟩:=h;obtain ⟨u,v,rfl,r1,r2⟩:=qNG r;cases r2;exact qT6 I r1 ht hk fun tk=>⟨.bl b,H,I.tok _,rfl,q⟩
theorem qSK (hu:X.A.units<cLine):OpR X (B75 .Eq) (fun x y H Q=>∃ p l xs,x=.ref p/\y=.ref l/\SqL X.K H p xs/\SqL X.K H l []/\Q (.bl xs.isEmpty) H):=by
 intro Ab s σ H x y v u Q I rx ry h;obtain ⟨p,l,xs,rfl,rfl,h1,h2,q⟩:=h;cases rx;cases ry;obtain ⟨its,r1,p1,z1⟩:=I.list h1;obtain ⟨its2,r2,p2,z2⟩:=I.list h2;cases r2;cases xs with
 | nil=>
  cases r1;exact SeqAt.eq_listAt (e:=fun _=>true) p1.isList p2.isList rfl hu (fun j h _=>absurd h (by simp)) ⟨.bl true,H,I,rfl,q⟩
 | cons a r=>
  cases r1;exact SeqAt.eq_list_lengthsAt p1.isList p2.isList (by simp) hu ⟨.bl false,H,I,rfl,q⟩
end
def Ite (K:PySem.W.Frag) (l:Addr):It:=
 ⟨fun i H=>∃ xs x,SqL K H l xs/\xs[i]?=some x,fun i H v H'=>∃ T x,H T=none/\v=.ref T/\H'=Ag H T (.tup [.int (i:Int),x])/\∀ xs,SqL K H l xs->xs[i]?=some x,fun i H=>∃ xs,SqL K H l xs/\xs.length<=i⟩
section
variable {X:Cx}
theorem Inv.turnedL {Ab:List (Addr × Obj)} {s:Shared} {σ:St} {H:Hp} {h':Heap} {t':Nat} {ch:List Addr} (I:Inv X Ab σ H s) (k:∀ b o,b ∉ ch->s.heap.get? b=some o->h'.get? b=some o) (hc:∀ b ∈ ch,FpOk X Ab H b):Inv X Ab σ H { s with heap:=h',toks:=t' }:=by
 have nit:∀ b u,H b=some u->b ∉ ch:=fun b u e z=>by rw [(hc b z).1] at e;cases e
 refine I.step (g':=s.gens) (d':=s.drawn) (ch:=ch) (fun b hb=>⟨(hc b hb).2.2.2.1,(hc b hb).2.1,(hc b hb).2.2.2.2.1,(hc b hb).2.2.2.2.2⟩) (fun b o _ _ hc' e _=>k b o hc' e) (fun b o _ _ hc' e _=>⟨o.slots,k b o hc' e⟩) (fun _ _ _ _ n=>n)
  (fun b o hc' e=>⟨o,k b o hc' e⟩) (fun _ _ e=>e) (fun _ _ _ e=>e) (fun _ _ e=>e) (fun m hm=>?_) (fun b u e=>?_) I.bare
 ·obtain ⟨o,es,ep,ho,r⟩:=hm;exact ⟨o,es,ep,k _ o (fun z=>(hc _ z).2.1 rfl) ho,r⟩
 ·refine (I.hok b u e).stay (fun c v hc' q=>k c v ?_ q) (fun _ q=>q) fun _ _ q=>q;rcases hc' with z | z
  ·rw [z];exact nit b u e
  ·exact nit c _ z
theorem qRS {P:B60} {w:World} {K:PySem.W.Frag} {elts:List Expr} {k:Nat} {pos:Pos} (l it e:Addr) (hne:e ≠ it):Turn P w K (.Tuple elts k pos) (Ite K l) [e,it] e (fun i h=>(∃ old,IsEnum h e it i old)/\h.IsListIter it l i) where
 mem:=by simp
 obj:=fun i h st b hb=>by
  obtain ⟨⟨old,h1⟩,o,h2,_,h4⟩:=st;have e':b=e\/b=it:=by simpa using hb
  rcases e' with rfl | rfl
  ·exact ⟨_,h1,fun v z=>by
    have z':A17 _=A04 v:=z;cases z'⟩
  ·exact ⟨o,h2,fun v z=>by rw [h4] at z;cases z⟩
 keep:=fun i h h' st kk=>by
  obtain ⟨⟨old,h1⟩,h2⟩:=st;exact ⟨⟨old,kk e (by simp) _ h1⟩,h2.at fun o q=>kk it (by simp) o q⟩
 item:=by
  intro X hP hw hK hc i Ab s σ H E I hf st hg;subst hP hw hK;obtain ⟨xs,x,hq,hx⟩:=hg;obtain ⟨its,rv,p,hz⟩:=I.list hq;obtain ⟨u,hu,ru⟩:=rv.get hx;obtain ⟨⟨old,h1⟩,h2⟩:=st;refine wpAny_pyNext_enum_item h1 h2 p.isList (x:=u) (by simpa using hu) hne fun h' a1 a2 a3 a4 a5=>?_
  refine ⟨_,rfl,wpAny_letOwnedTupleGo_enum a1 fun h2 b1 b2=>?_⟩;have ltE:e<s.heap.objs.size:=C1 h1;have I1:Inv X Ab σ H { s with heap:=h2,toks:=s.toks+1 }:=I.turnedL (ch:=[e,it]) (fun b o hb q=>by
   have hb1:b ≠ e:=fun z=>hb (by simp [z])
   have hb2:b ≠ it:=fun z=>hb (by simp [z])
   exact (b2.2 b hb1).trans (a5 b o hb1 hb2 q)) hf
  have hT:H s.heap.objs.size=none:=I.hok.fresh (A9 _);have fT:=I.fpOk (H':=H) (b:=s.heap.objs.size) (A9 _) hT;have gT:h2.get? s.heap.objs.size=some { cls:=.type "tuple",data:=.seq #[.int i s.toks,u] }:=(b2.2 _ (d0 ltE)).trans a3;refine ⟨.ref s.heap.objs.size,Ag H s.heap.objs.size (.tup [.int (i:Int),x]),I1.track hT I.sz fT.2.1 fT.2.2.2.2.1 fT.2.2.2.2.2 ⟨by simp only [D8,M7];rw [B66];decide,[.int (i:Int) s.toks,u],.cons ⟨_,rfl⟩ (.cons ru .nil),⟨_,gT,rfl,_,rfl⟩⟩,rfl,
   ⟨_,x,hT,rfl,rfl,fun ys hy=>by rw [I.list_inj hy hq];exact hx⟩,⟨⟨_,b1⟩,a2.at fun o q=>(b2.2 it (L8 hne)).trans q⟩,fun b hb=>?_⟩
  have ltb:b<s.heap.objs.size:=by
   have e':b=e\/b=it:=by simpa using hb
   rcases e' with rfl | rfl
   ·exact ltE
   ·obtain ⟨o,q,_⟩:=h2;exact C1 (by assumption)
  rw [qA7 (E3 ltb)];exact (hf b hb).1
 done:=by
  intro X hP hw hK hc i Ab s σ H E I hf st hg;subst hP hw hK;obtain ⟨xs,hq,hx⟩:=hg;obtain ⟨its,rv,p,hz⟩:=I.list hq;have hl:=rv.length;obtain ⟨⟨old,h1⟩,h2⟩:=st;exact wpAny_pyNext_enum_end (I.ok.hd hc) h1 h2 p.isList (by simp;lia) fun h' eb=>⟨rfl,I.turnedL (t':=s.toks) (ch:=[e,it]) (fun b o hb q=>eb b o (fun z=>hb (by simp [z])) q) hf⟩
 self:=fun _ _ _ _ _ st h=>by
  obtain ⟨⟨old,h1⟩,h2⟩:=st;exact C15 h1 h
def qcF (K:PySem.W.Frag) (ta:TA):TI:=fun σ H R=>ta σ H fun vs H1=>∃ l,vs=[.ref l]/\(∃ xs,SqL K H1 l xs)/\R (Ite K l) H1
theorem qY8 {elts:List Expr} {k:Nat} {tpos:Pos} {a:Expr} {ta:TA} {p pos:Pos} (hg:Gl X "enumerate") (hm:X.mg "enumerate" = none) (hv:B67 "enumerate" = some (.type "enumerate")) (ha:PA X [a] ta) (hs:B68 [a] X.env=[(false,eval a X.env)]:=by rfl) :
  PI X (.Tuple elts k tpos) (.Call (.Name "enumerate" p) [a] [] pos) (qcF X.K ta):=by
 intro Ab s σ H R I h;refine Call_ (qHN I hg hm hv (O0 (thn (ha pos Ab s σ H _ I h) fun us s1 ⟨vs,H1,I1,r1,q1⟩=>?_) hs rfl));obtain ⟨l,e,⟨xs,hq⟩,q⟩:=q1;subst e;obtain ⟨u,rfl,rx⟩:=qDK r1;cases rx;obtain ⟨its,rv,pl,hz⟩:=I1.list hq;refine call_enumerate_list pl.isList fun h' he hi hsz hk=>?_;refine C15 he ?_;have I2:Inv X Ab σ H1 { s1 with heap:=h' }:=I1.kept (t':=s1.toks) hk;refine ⟨s1.heap.objs.size+1,[s1.heap.objs.size+1,s1.heap.objs.size],_,_,H1,rfl,I2,qRS l s1.heap.objs.size (s1.heap.objs.size+1) (A29 _),⟨⟨_,he⟩,hi⟩,fun b hb=>?_,q⟩;have e':b=s1.heap.objs.size+1\/b=s1.heap.objs.size:=by simpa using hb
 rcases e' with rfl | rfl
 ·exact I1.fpOk (j7 _) (I1.hok.fresh (j7 _))
 ·exact I1.fpOk (A9 _) (I1.hok.fresh (A9 _))
end
theorem qYN {K:PySem.W.Frag} {a:Addr} {xs:List V} {g:TG} {tc:TT} {te:TE} {Kf:Hp->Prop} {σ0:St} {H0:Hp} {p:Addr} (Pv:Nat->St->Hp->Prop) (h0:Pv 0 σ0 H0) (hl:∀ i σ H,i<=xs.length->Pv i σ H->SqL K H a xs)
  (hs:∀ i x σ H T,xs[i]?=some x->Pv i σ H->H T=none->g (.ref T) σ (Ag H T (.tup [.int (i:Int),x])) fun σ2 H2=>tc σ2 H2 fun b H3=>if b=true then te σ2 H3 fun y H4=>∃ ys,H4 p=some (.lst ys)/\ys.length<B59/\Pv (i+1) σ2 (Ag H4 p (.lst (ys++[y]))) else Pv (i+1) σ2 H3)
  (hd:∀ σ H,Pv xs.length σ H->Kf H) :
  ∃ W:Nat->Nat->St->Hp->Prop,(∃ m,W 0 m σ0 H0)/\∀ i m σ H,W i m σ H->
   ((Ite K a).stop i H/\Kf H)\/((Ite K a).go i H/\∃ N:St->Hp->Prop,(∀ σ' H',N σ' H'->∃ m',m'<m/\W (i+1) m' σ' H')/\∀ x H',(Ite K a).yld i H x H'->g x σ H' fun σ2 H2=>tc σ2 H2 fun b H3=>
    if b=true then te σ2 H3 fun y H4=>∃ ys,H4 p=some (.lst ys)/\ys.length<B59/\N σ2 (Ag H4 p (.lst (ys++[y]))) else N σ2 H3):=by
 refine ⟨fun i m σ H=>m=xs.length - i/\i<=xs.length/\Pv i σ H,⟨xs.length,by simp,F8 _,h0⟩,?_⟩
 rintro i m σ H ⟨rfl,hi,q⟩;have hq:=hl i σ H hi q;by_cases hlt:i<xs.length
 ·refine .inr ⟨⟨xs,xs[i],hq,by simp [hlt]⟩,Pv (i+1),fun σ' H' p'=>⟨xs.length - (i+1),by lia,rfl,hlt,p'⟩,fun v H' y=>?_⟩
  obtain ⟨T,x,hT,e1,e2,y⟩:=y;subst e1 e2;exact hs i x σ H T (y xs hq) q hT
 ·have e:i=xs.length:=by lia
  subst e;exact .inl ⟨⟨xs,hq,A9 _⟩,hd σ H q⟩
theorem qDM {prog:B60} {w:World} {A:Around} {E:Value->Shared->Prop} {s:Shared} {it t:Addr} {i:Nat} {items:Array Value} {x:Value} {Q:Value->Shared->Prop} (hit:s.heap.IsTupleIter it t i) (ht:s.heap.IsTuple t items) (hx:items[i]?=some x)
  (hQ:∀ h':Heap,h'.IsTupleIter it t (i+1)->Heap.SameBut it s.heap h'->Q x { s with heap:=h' }):wpAny (model prog w) A (V0 (.ref it)) Q E s:=by
 obtain ⟨o,ho,hc,hd⟩:=id hit;obtain ⟨ol,hol,_,nl,hdl⟩:=ht;refine B57 (wpAny_callSpecial?_slot hit.typeIs T6 (B74 T6 hit.typeIs r8 ?_ (p8 _)));show wpAny _ _ (field (.ref it) 0 >>= _) _ _ _;refine B57 (B73 ho hd rfl ?_);refine B91 rfl ?_;show wpAny _ _ (field (.ref it) 1 >>= _) _ _ _;refine B57 (B73 ho hd rfl ?_);show wpAny _ _ (seqItems? (.ref t) >>= _) _ _ _;refine B57 (B79 hol hdl ?_);show wpAny _ _ (match items[i]? with | some x=>_ | none=>_) _ _ _
 rw [hx];refine B57 (C11 ho hd (by simp) ?_)
 refine B58 ⟨x,rfl,B58 (hQ _ ⟨_,P4 _ ho (m6 (U2 hd _)),(A08 o _).trans hc,?_⟩ (S0 _ _ _))⟩;rw [U2 hd];simp
 rfl
theorem qEG {prog:B60} {w:World} {A:Around} {E:Value->Shared->Prop} {s:Shared} {it t:Addr} {i:Nat} {items:Array Value} {Q:Value->Shared->Prop} (hh:A.handled=none) (hit:s.heap.IsTupleIter it t i) (ht:s.heap.IsTuple t items) (hx:items[i]?=none)
  (hE:∀ (h':Heap) (e:Addr),Heap.ExtBut it s.heap h'->(∃ o,h'.get? e=some o/\o.cls=.type "StopIteration")->E (.ref e) { s with heap:=h' }):wpAny (model prog w) A (V0 (.ref it)) Q E s:=by
 obtain ⟨o,ho,hc,hd⟩:=id hit;obtain ⟨ol,hol,_,nl,hdl⟩:=ht;refine B57 (wpAny_callSpecial?_slot hit.typeIs T6 (B74 T6 hit.typeIs r8 ?_ (p8 _)));show wpAny _ _ (field (.ref it) 0 >>= _) _ _ _;refine B57 (B73 ho hd rfl ?_);refine B91 rfl ?_;show wpAny _ _ (field (.ref it) 1 >>= _) _ _ _;refine B57 (B73 ho hd rfl ?_);show wpAny _ _ (seqItems? (.ref t) >>= _) _ _ _;refine B57 (B79 hol hdl ?_);show wpAny _ _ (match items[i]? with | some x=>_ | none=>_) _ _ _
 rw [hx];refine B57 (B87 ?_);refine B57 (C11 ho hd (by simp) ?_)
 show wpAny _ _ (newExc (.type "StopIteration") [] >>= _) _ _ _;refine B57 ?_;simp only [newExc,newTuple];refine B57 (B69 ?_ (by size_fits))
 refine B57 (m:=firstArgMember _ _) (C07 (a:=V5) (by first | rfl | (simp only [firstArgMember];rfl)) ?_)
 refine B69 ?_ (by size_fits)
 simp only [raiseNew];refine B57 (wpAny_handled ?_);rw [show A.in1.handled=none from hh];refine B57 (B58 (wpAny_throw ?_));exact hE _ _ (((S0 ..).extBut.push _).push _) ⟨_,B9 _ rfl,rfl⟩
def SIt (b:Bool) (h:Heap) (it l:Addr) (i:Nat):Prop:=match b with | true=>h.IsTupleIter it l i | false=>h.IsListIter it l i
def SSq (b:Bool) (h:Heap) (l:Addr) (xs:Array Value):Prop:=match b with | true=>h.IsTuple l xs | false=>h.IsList l xs
theorem SIt.at {b:Bool} {h h':Heap} {it l:Addr} {i:Nat} (q:SIt b h it l i) (k:∀ o,h.get? it=some o->h'.get? it=some o):SIt b h' it l i:=by
 cases b
 ·exact Heap.IsListIter.at q k
 ·exact Heap.IsTupleIter.at q k
theorem SSq.at {b:Bool} {h h':Heap} {l:Addr} {xs:Array Value} (q:SSq b h l xs) (k:∀ o,h.get? l=some o->h'.get? l=some o):SSq b h' l xs:=by
 cases b
 ·obtain ⟨o,e,r⟩:=q;exact ⟨o,k o e,r⟩
 ·obtain ⟨o,e,r⟩:=q;exact ⟨o,k o e,r⟩
theorem qFZ {b:Bool} {prog:B60} {w:World} {A:Around} {E:Value->Shared->Prop} {s:Shared} {it t:Addr} {i:Nat} {items:Array Value} {x:Value} {Q:Value->Shared->Prop} (hit:SIt b s.heap it t i) (ht:SSq b s.heap t items) (hx:items[i]?=some x)
  (hQ:∀ h':Heap,SIt b h' it t (i+1)->Heap.SameBut it s.heap h'->Q x { s with heap:=h' }):wpAny (model prog w) A (V0 (.ref it)) Q E s:=by
 cases b
 ·exact wpAny_nextOf_list_item hit ht hx hQ
 ·exact qDM hit ht hx hQ
theorem qK5 {b:Bool} {prog:B60} {w:World} {A:Around} {E:Value->Shared->Prop} {s:Shared} {it t:Addr} {i:Nat} {items:Array Value} {Q:Value->Shared->Prop} (hh:A.handled=none) (hit:SIt b s.heap it t i) (ht:SSq b s.heap t items) (hx:items[i]?=none)
  (hE:∀ (h':Heap) (e:Addr),Heap.ExtBut it s.heap h'->(∃ o,h'.get? e=some o/\o.cls=.type "StopIteration")->E (.ref e) { s with heap:=h' }):wpAny (model prog w) A (V0 (.ref it)) Q E s:=by
 cases b
 ·exact wpAny_nextOf_list_end hh hit ht hx hE
 ·exact qEG hh hit ht hx hE
theorem qRJ {b:Bool} {prog:B60} {w:World} {A:Around} {E:Value->Shared->Prop} {s:Shared} {z TI TO i1 i2 l1 l2:Addr} {k1 k2:Nat} {xs ys:Array Value} {x y a c:Value} {Q:Value->Shared->Prop} (D:C19 z TI TO i1 i2 l1 l2) (hz:IsZip s.heap z TI TO .none) (hTI:IsPair s.heap TI (.ref i1) (.ref i2)) (hTO:IsPair s.heap TO a c)
  (h1:SIt b s.heap i1 l1 k1) (h2:SIt b s.heap i2 l2 k2) (hl1:SSq b s.heap l1 xs) (hl2:SSq b s.heap l2 ys) (hx:xs[k1]?=some x) (hy:ys[k2]?=some y)
  (hQ:∀ h':Heap,IsZip h' z TI TO (rawInt (s.heap.objs.size:Int))->IsPair h' TO x y->SIt b h' i1 l1 (k1+1)->SIt b h' i2 l2 (k2+1)->IsPair h' s.heap.objs.size x y->h'.objs.size=s.heap.objs.size+1->
   (∀ (c:Addr) (o:Obj),c ≠ z->c ≠ TO->c ≠ i1->c ≠ i2->s.heap.get? c=some o->h'.get? c=some o)->Q (.ref s.heap.objs.size) { s with heap:=h' }) :
  wpAny (model prog w) A (Builtin.«zip.__next__» { pos:=[.ref z] }) (fun fin s'=>∃ v,fin=.done (.ret v)/\Q v s') E s:=by
 show wpAny _ _ (field (.ref z) 2 >>= _) _ _ _;refine B57 (B73 hz rfl rfl ?_);show wpAny _ _ (field (.ref z) 3 >>= _) _ _ _;refine B57 (B73 hz rfl rfl ?_);refine B57 (B79 hTI rfl ?_);show wpAny _ _ (T0 (.ref z) >>= _) _ _ _;refine B57 ?_;show wpAny _ _ (field (.ref z) 0 >>= _) _ _ _;refine B57 (B73 hz rfl rfl (B58 ?_));refine wpAny_ite_true rfl ?_;refine B57 (B87 ?_);refine B57 (B73 hz rfl rfl ?_);refine B57 (B85 hz (by simp) fun hA gz sb=>?_)
 refine B57 ?_;show wpAny _ _ (forIn [(E2 i1,0),(E2 i2,1)] _ _) _ _ _;rw [R9];refine B57 ?_;dsimp only;refine B57 (C17 ?_);have e:((#[V5,V6 false,V6 false,E2 TI,E2 TO][2] == V6 true)=false):=rfl;rw [e];have sA1:SIt b hA i1 l1 k1:=h1.at fun o q=>(sb.2 _ D.i1z).trans q;have sL1:SSq b hA l1 xs:=hl1.at fun o q=>(sb.2 _ D.l1z).trans q;refine B57 (qFZ (s:={ s with heap:=hA }) sA1 sL1 hx fun hB nB sB=>?_);refine B58 ?_;have tB:IsPair hB TO a c:=(sB.2 _ D.TOi1).trans ((sb.2 _ D.TOz).trans hTO);refine B57 (B79 tB rfl ?_);refine B57 (C24 tB fun hC tC sC=>?_);refine B57 (C08 (B58 ?_));dsimp only;rw [R9];refine B57 ?_;refine B57 (C17 ?_);have sC2:SIt b hC i2 l2 k2:=h2.at fun o q=>(sC.2 _ (L8 D.TOi2)).trans ((sB.2 _ (L8 D.i12)).trans ((sb.2 _ D.i2z).trans q));have sL2:SSq b hC l2 ys:=hl2.at fun o q=>(sC.2 _ D.l2TO).trans ((sB.2 _ D.l2i1).trans ((sb.2 _ D.l2z).trans q));refine B57 (qFZ (s:={ s with heap:=hC }) sC2 sL2 hy fun hD nD sD=>?_);refine B58 ?_;have tD:IsPair hD TO x c:=(sD.2 _ D.TOi2).trans tC;refine B57 (B79 tD rfl ?_);refine B57 (C24 tD fun hF tF sF=>?_);refine B57 (C08 (B58 ?_));dsimp only;rw [B28];refine B58 ?_;dsimp only;have tF':IsPair hF TO x y:=tF;refine B57 (B79 tF' rfl ?_);refine B57 (C12 ?_ (by show 2<=B59;decide))
 have gzF:hF.get? z=some { cls:=.type "zip",data:=.fields #[.ellipsis,.bool false,.bool false,.ref TI,.ref TO] }:=(sF.2 _ (L8 D.TOz)).trans ((sD.2 _ (L8 D.i2z)).trans ((sC.2 _ (L8 D.TOz)).trans ((sB.2 _ (L8 D.i1z)).trans gz)));have szF:hF.objs.size=s.heap.objs.size:=sF.1.trans (sD.1.trans (sC.1.trans (sB.1.trans sb.1)));have ltz:z<hF.objs.size:=C1 gzF;have gzG:(hF.push { cls:=.type "tuple",data:=.seq #[x,y] }).get? z=some { cls:=.type "zip",data:=.fields #[.ellipsis,.bool false,.bool false,.ref TI,.ref TO] }:=A4 _ gzF;refine B57 ?_;show wpAny _ _ (setField (.ref z) 0 (rawInt _) >>= _) _ _ _;refine B57 (B85 gzG (by simp) fun hG gG sG=>?_)
 refine B85 gG (by simp) fun hI gI sI=>?_
 refine B58 ⟨_,rfl,?_⟩;have o4:∀ (c:Addr) (o:Obj),c ≠ z->c ≠ TO->c ≠ i1->c ≠ i2->s.heap.get? c=some o->hI.get? c=some o:=fun c o n1 n2 n3 n4 e=>
  (sI.2 _ n1).trans ((sG.2 _ n1).trans (A4 _ ((sF.2 _ n2).trans ((sD.2 _ n4).trans ((sC.2 _ n2).trans ((sB.2 _ n3).trans ((sb.2 _ n1).trans e)))))))
 have nz:hF.objs.size ≠ z:=d0 ltz;have gT:hI.get? hF.objs.size=some { cls:=.type "tuple",data:=.seq #[x,y] }:=(sI.2 _ nz).trans ((sG.2 _ nz).trans (B9 _ rfl));have szI:hI.objs.size=hF.objs.size+1:=sI.1.trans (sG.1.trans (M8 ..));have pz:∀ {c:Addr} {o:Obj},c ≠ z->hF.get? c=some o->hI.get? c=some o:=fun n e=>(sI.2 _ n).trans ((sG.2 _ n).trans (A4 _ e));have q:=hQ hI;rw [<- szF] at q;refine q gI (pz D.TOz tF') (nB.at fun o e=>pz D.i1z ((sF.2 _ (L8 D.TOi1)).trans ((sD.2 _ D.i12).trans ((sC.2 _ (L8 D.TOi1)).trans e)))) (nD.at fun o e=>pz D.i2z ((sF.2 _ (L8 D.TOi2)).trans e)) gT szI o4
theorem qUR {b:Bool} {prog:B60} {w:World} {A:Around} {E:Value->Shared->Prop} {s:Shared} {z TI TO i1 i2 l1 l2:Addr} {k1:Nat} {xs:Array Value} {Q:PySem.Fin->Shared->Prop} (hh:A.handled=none) (D:C19 z TI TO i1 i2 l1 l2) (hz:IsZip s.heap z TI TO .none) (hTI:IsPair s.heap TI (.ref i1) (.ref i2))
  (h1:SIt b s.heap i1 l1 k1) (hl1:SSq b s.heap l1 xs) (hx:xs[k1]?=none)
  (hE:∀ (h':Heap) (e:Addr),(∀ (c:Addr) (o:Obj),c ≠ z->c ≠ i1->s.heap.get? c=some o->h'.get? c=some o)->(∃ o,h'.get? e=some o/\o.cls=.type "StopIteration")->E (.ref e) { s with heap:=h' }) :
  wpAny (model prog w) A (Builtin.«zip.__next__» { pos:=[.ref z] }) Q E s:=by
 show wpAny _ _ (field (.ref z) 2 >>= _) _ _ _;refine B57 (B73 hz rfl rfl ?_);show wpAny _ _ (field (.ref z) 3 >>= _) _ _ _;refine B57 (B73 hz rfl rfl ?_);refine B57 (B79 hTI rfl ?_);show wpAny _ _ (T0 (.ref z) >>= _) _ _ _;refine B57 ?_;show wpAny _ _ (field (.ref z) 0 >>= _) _ _ _;refine B57 (B73 hz rfl rfl (B58 ?_));refine wpAny_ite_true rfl ?_;refine B57 (B87 ?_);refine B57 (B73 hz rfl rfl ?_);refine B57 (B85 hz (by simp) fun hA gz sb=>?_)
 refine B57 ?_;show wpAny _ _ (forIn [(E2 i1,0),(E2 i2,1)] _ _) _ _ _;rw [R9];refine B57 ?_;dsimp only;refine B57 (C17 ?_);have e:((#[V5,V6 false,V6 false,E2 TI,E2 TO][2] == V6 true)=false):=rfl;rw [e];have sA1:SIt b hA i1 l1 k1:=h1.at fun o q=>(sb.2 _ D.i1z).trans q;have sL1:SSq b hA l1 xs:=hl1.at fun o q=>(sb.2 _ D.l1z).trans q;refine B57 (qK5 (s:={ s with heap:=hA }) hh sA1 sL1 hx fun hB ea xB ⟨ob,gb,cb⟩=>?_);have gzB:=xB z _ (L8 D.i1z) gz;refine B85 gzB (by simp) fun hC gC sC=>?_
 have nez:ea ≠ z:=fun q=>by
  rw [q,gzB] at gb;cases gb;exact absurd (show V7 "zip" = V7 "StopIteration" from cb) (by decide)
 exact hE hC ea (fun c o n1 n2 q=>(sC.2 _ n1).trans (xB c o n2 ((sb.2 _ n1).trans q))) ⟨ob,(sC.2 _ nez).trans gb,cb⟩
theorem qRK {b:Bool} {prog:B60} {w:World} {A:Around} {E:Value->Shared->Prop} {s:Shared} {z TI TO i1 i2 l1 l2:Addr} {k1 k2:Nat} {xs ys:Array Value} {x a c:Value} {Q:PySem.Fin->Shared->Prop} (hh:A.handled=none) (D:C19 z TI TO i1 i2 l1 l2) (hz:IsZip s.heap z TI TO .none) (hTI:IsPair s.heap TI (.ref i1) (.ref i2)) (hTO:IsPair s.heap TO a c)
  (h1:SIt b s.heap i1 l1 k1) (h2:SIt b s.heap i2 l2 k2) (hl1:SSq b s.heap l1 xs) (hl2:SSq b s.heap l2 ys) (hx:xs[k1]?=some x) (hy:ys[k2]?=none)
  (hE:∀ (h':Heap) (e:Addr),(∀ (c:Addr) (o:Obj),c ≠ z->c ≠ TO->c ≠ i1->c ≠ i2->s.heap.get? c=some o->h'.get? c=some o)->(∃ o,h'.get? e=some o/\o.cls=.type "StopIteration")->E (.ref e) { s with heap:=h' }) :
  wpAny (model prog w) A (Builtin.«zip.__next__» { pos:=[.ref z] }) Q E s:=by
 show wpAny _ _ (field (.ref z) 2 >>= _) _ _ _;refine B57 (B73 hz rfl rfl ?_);show wpAny _ _ (field (.ref z) 3 >>= _) _ _ _;refine B57 (B73 hz rfl rfl ?_);refine B57 (B79 hTI rfl ?_);show wpAny _ _ (T0 (.ref z) >>= _) _ _ _;refine B57 ?_;show wpAny _ _ (field (.ref z) 0 >>= _) _ _ _;refine B57 (B73 hz rfl rfl (B58 ?_));refine wpAny_ite_true rfl ?_;refine B57 (B87 ?_);refine B57 (B73 hz rfl rfl ?_);refine B57 (B85 hz (by simp) fun hA gz sb=>?_)
 refine B57 ?_;show wpAny _ _ (forIn [(E2 i1,0),(E2 i2,1)] _ _) _ _ _;rw [R9];refine B57 ?_;dsimp only;refine B57 (C17 ?_);have e:((#[V5,V6 false,V6 false,E2 TI,E2 TO][2] == V6 true)=false):=rfl;rw [e];have sA1:SIt b hA i1 l1 k1:=h1.at fun o q=>(sb.2 _ D.i1z).trans q;have sL1:SSq b hA l1 xs:=hl1.at fun o q=>(sb.2 _ D.l1z).trans q;refine B57 (qFZ (s:={ s with heap:=hA }) sA1 sL1 hx fun hB nB sB=>?_);refine B58 ?_;have tB:IsPair hB TO a c:=(sB.2 _ D.TOi1).trans ((sb.2 _ D.TOz).trans hTO);refine B57 (B79 tB rfl ?_);refine B57 (C24 tB fun hC tC sC=>?_);refine B57 (C08 (B58 ?_));dsimp only;rw [R9];refine B57 ?_;refine B57 (C17 ?_);have sC2:SIt b hC i2 l2 k2:=h2.at fun o q=>(sC.2 _ (L8 D.TOi2)).trans ((sB.2 _ (L8 D.i12)).trans ((sb.2 _ D.i2z).trans q));have sL2:SSq b hC l2 ys:=hl2.at fun o q=>(sC.2 _ D.l2TO).trans ((sB.2 _ D.l2i1).trans ((sb.2 _ D.l2z).trans q));refine B57 (qK5 (s:={ s with heap:=hC }) hh sC2 sL2 hy fun hD ea xD ⟨ob,gb,cb⟩=>?_);have gzC:hC.get? z=some { cls:=.type "zip",data:=.fields #[.ellipsis,.bool false,.bool false,.ref TI,.ref TO] }:=(sC.2 _ (L8 D.TOz)).trans ((sB.2 _ (L8 D.i1z)).trans gz);have gzD:=xD z _ (L8 D.i2z) gzC;refine B85 gzD (by simp) fun hF gF sF=>?_
 have nez:ea ≠ z:=fun q=>by
  rw [q,gzD] at gb;cases gb;exact absurd (show V7 "zip" = V7 "StopIteration" from cb) (by decide)
 exact hE hF ea (fun c o n1 n2 n3 n4 q=>(sF.2 _ n1).trans (xD c o n4 ((sC.2 _ n2).trans ((sB.2 _ n3).trans ((sb.2 _ n1).trans q))))) ⟨ob,(sF.2 _ nez).trans gb,cb⟩
section
variable {b:Bool} {prog:B60} {w:World} {A:Around} {E:Value->Shared->Prop} {s:Shared} {z TI TO i1 i2 l1 l2:Addr} {k1 k2:Nat} {xs ys:Array Value}
theorem qI1 {x y a c:Value} {Q:Option Value->Shared->Prop} (D:C19 z TI TO i1 i2 l1 l2) (hz:IsZip s.heap z TI TO .none) (hTI:IsPair s.heap TI (.ref i1) (.ref i2)) (hTO:IsPair s.heap TO a c)
  (h1:SIt b s.heap i1 l1 k1) (h2:SIt b s.heap i2 l2 k2) (hl1:SSq b s.heap l1 xs) (hl2:SSq b s.heap l2 ys) (hx:xs[k1]?=some x) (hy:ys[k2]?=some y)
  (hQ:∀ h':Heap,IsZip h' z TI TO (rawInt (s.heap.objs.size:Int))->IsPair h' TO x y->SIt b h' i1 l1 (k1+1)->SIt b h' i2 l2 (k2+1)->IsPair h' s.heap.objs.size x y->h'.objs.size=s.heap.objs.size+1->
   (∀ (c:Addr) (o:Obj),c ≠ z->c ≠ TO->c ≠ i1->c ≠ i2->s.heap.get? c=some o->h'.get? c=some o)->Q (some (.ref s.heap.objs.size)) { s with heap:=h' }) :
  wpAny (model prog w) A (pyNext (.ref z)) Q E s:=by
 have hT:s.TypeIs (.ref z) "zip":=⟨_,hz,rfl⟩;unfold pyNext;refine B57 (C04 (wpAny_callSpecial?_slot (name:=J7 "__next__") hT Y7 (B74 Y7 hT A30 ?_ (A09 _))));exact qRJ (Q:=fun v s'=>wpAny (model prog w) A (pure (some v)) Q E s') D hz hTI hTO h1 h2 hl1 hl2 hx hy fun h' q1 q2 q3 q4 q5 q6 q7=>B58 (hQ h' q1 q2 q3 q4 q5 q6 q7)
theorem qIT {Q:Option Value->Shared->Prop} (hh:A.handled=none) (D:C19 z TI TO i1 i2 l1 l2) (hz:IsZip s.heap z TI TO .none) (hTI:IsPair s.heap TI (.ref i1) (.ref i2))
  (h1:SIt b s.heap i1 l1 k1) (hl1:SSq b s.heap l1 xs) (hx:xs[k1]?=none)
  (hQ:∀ h':Heap,(∀ (c:Addr) (o:Obj),c ≠ z->c ≠ i1->s.heap.get? c=some o->h'.get? c=some o)->Q none { s with heap:=h' }) :
  wpAny (model prog w) A (pyNext (.ref z)) Q E s:=by
 have hT:s.TypeIs (.ref z) "zip":=⟨_,hz,rfl⟩;unfold pyNext;refine B57 (C04 (wpAny_callSpecial?_slot (name:=J7 "__next__") hT Y7 (B74 Y7 hT A30 ?_ (A09 _))));refine qUR hh D hz hTI h1 hl1 hx fun h' e k ⟨o,g,c⟩=>?_;refine B57 (C18 (T:="StopIteration") (b:=true) ⟨_,g,c⟩ isSubtype_stop ?_);exact B58 (hQ h' k)
theorem qI2 {x a c:Value} {Q:Option Value->Shared->Prop} (hh:A.handled=none) (D:C19 z TI TO i1 i2 l1 l2) (hz:IsZip s.heap z TI TO .none) (hTI:IsPair s.heap TI (.ref i1) (.ref i2)) (hTO:IsPair s.heap TO a c)
  (h1:SIt b s.heap i1 l1 k1) (h2:SIt b s.heap i2 l2 k2) (hl1:SSq b s.heap l1 xs) (hl2:SSq b s.heap l2 ys) (hx:xs[k1]?=some x) (hy:ys[k2]?=none)
  (hQ:∀ h':Heap,(∀ (c:Addr) (o:Obj),c ≠ z->c ≠ TO->c ≠ i1->c ≠ i2->s.heap.get? c=some o->h'.get? c=some o)->Q none { s with heap:=h' }) :
  wpAny (model prog w) A (pyNext (.ref z)) Q E s:=by
 have hT:s.TypeIs (.ref z) "zip":=⟨_,hz,rfl⟩;unfold pyNext;refine B57 (C04 (wpAny_callSpecial?_slot (name:=J7 "__next__") hT Y7 (B74 Y7 hT A30 ?_ (A09 _))));refine qRK hh D hz hTI hTO h1 h2 hl1 hl2 hx hy fun h' e k ⟨o,g,c⟩=>?_;refine B57 (C18 (T:="StopIteration") (b:=true) ⟨_,g,c⟩ isSubtype_stop ?_);exact B58 (hQ h' k)
end
abbrev qJR (b:Bool) (l:Addr):Obj:={ cls:=.type (match b with | true=>"tuple_iterator" | false=>"list_iterator"),data:=.fields #[.ref l,.int 0 0] }
theorem qH4 {b:Bool} {prog:B60} {w:World} {A:Around} {E:Value->Shared->Prop} {s:Shared} {l:Addr} {xs:Array Value} {Q:Value->Shared->Prop} (h:SSq b s.heap l xs) (hQ:Q (.ref s.heap.objs.size) { s with heap:=s.heap.push (qJR b l) }):wpAny (model prog w) A (pyIter (.ref l)) Q E s:=by
 cases b
 ·exact B94 h hQ
 ·exact wpAny_pyIter_tuple h hQ
abbrev zb1 (b:Bool) (h:Heap) (l1:Addr):Heap:=h.push (qJR b l1)
abbrev zb2 (b:Bool) (h:Heap) (l1 l2:Addr):Heap:=(zb1 b h l1).push (qJR b l2)
abbrev zb3 (b:Bool) (h:Heap) (l1 l2:Addr):Heap:=(zb2 b h l1 l2).push { cls:=.type "tuple",data:=.seq #[.ref h.objs.size,.ref (zb1 b h l1).objs.size] }
abbrev zb4 (b:Bool) (h:Heap) (l1 l2:Addr):Heap:=(zb3 b h l1 l2).push { cls:=.type "tuple",data:=.seq #[.none,.none] }
abbrev zb5 (b:Bool) (h:Heap) (l1 l2:Addr):Heap:=(zb4 b h l1 l2).push { cls:=.type "zip",data:=.fields #[.none,.bool false,.bool false,.ref (zb2 b h l1 l2).objs.size,.ref (zb3 b h l1 l2).objs.size] }
theorem qUQ (b:Bool) (l1 l2:Addr) (xs ys:Array Value):Meets (Builtin.«zip.__new__» { pos:=[.type "zip",.ref l1,.ref l2] }) fun _ R s=>
  SSq b s.heap l1 xs/\SSq b s.heap l2 ys/\R (.ok (.ret (.ref (zb4 b s.heap l1 l2).objs.size))) { s with heap:=zb5 b s.heap l1 l2 }:=by
 refine Meets.of_wp fun prog w A R s h=>?_;obtain ⟨hp,g,d,tk,os⟩:=s;obtain ⟨hl1,hl2,h⟩:=h;have hL2:SSq b (hp.push (qJR b l1)) l2 ys:=SSq.at hl2 fun o q=>A4 _ q;refine B57 ?_;refine B57 (B58 ?_);refine B91 rfl ?_;refine B57 (C07 sub_zip ?_);refine B91 rfl ?_;refine B58 ?_;refine B91 rfl ?_;refine B57 ?_;refine B57 ?_;show wpAny _ _ (forIn [E2 l1,E2 l2] #[] _) _ _ _;rw [R9];refine B57 (B57 (B76 (qH4 hl1 (B58 ?_))));dsimp only;rw [R9];refine B57 (B57 (B76 (qH4 hL2 (B58 ?_))));dsimp only;rw [B28];refine B58 (B58 ?_);refine B57 (C12 ?_ (by show 2<=B59;decide))
 refine B57 (C12 ?_ (by show 2<=B59;decide))
 refine B57 ?_;unfold Y2;dsimp only;refine B69 ?_ (by first | rfl | (show (5:Nat)<=_;decide) | (show (5:Nat)<=B59+2;rw [B66];decide))
 refine B58 ⟨_,rfl,h⟩
theorem qU6 {b:Bool} {prog:B60} {w:World} {A:Around} {E:Value->Shared->Prop} {s:Shared} {l1 l2:Addr} {xs ys:Array Value} {Q:Value->Shared->Prop} (hl1:SSq b s.heap l1 xs) (hl2:SSq b s.heap l2 ys)
  (hQ:∀ (h':Heap) (z TI TO i1 i2:Addr),C19 z TI TO i1 i2 l1 l2->IsZip h' z TI TO .none->IsPair h' TI (.ref i1) (.ref i2)->IsPair h' TO .none .none->SIt b h' i1 l1 0->SIt b h' i2 l2 0->(∀ c ∈ [z,TI,TO,i1,i2],s.heap.objs.size<=c)->
   (∀ (c:Addr) (o:Obj),s.heap.get? c=some o->h'.get? c=some o)->Q (.ref z) { s with heap:=h' }) :
  wpAny (model prog w) A (call (.type "zip") [.ref l1,.ref l2]) Q E s:=by
 refine callType_new F.called_zip (by decide) (F.typeCall_zip_2 _ _) (F.newCall_zip_2 _ _) (fun obj=>F.args_object_init_3 obj _ _) F.entry_zip_new (qUQ b l1 l2 xs ys) ⟨hl1,hl2,?_⟩
 have z1:(zb1 b s.heap l1).objs.size=s.heap.objs.size+1:=M8 ..;have z2:(zb2 b s.heap l1 l2).objs.size=s.heap.objs.size+2:=(M8 ..).trans (by rw [z1])
 have z3:(zb3 b s.heap l1 l2).objs.size=s.heap.objs.size+3:=(M8 ..).trans (by rw [z2])
 have z4:(zb4 b s.heap l1 l2).objs.size=s.heap.objs.size+4:=(M8 ..).trans (by rw [z3])
 have g5:(zb5 b s.heap l1 l2).get? (zb4 b s.heap l1 l2).objs.size=some { cls:=.type "zip",data:=.fields #[.none,.bool false,.bool false,.ref (zb2 b s.heap l1 l2).objs.size,.ref (zb3 b s.heap l1 l2).objs.size] }:=B9 _ rfl;have g4:(zb5 b s.heap l1 l2).get? (zb3 b s.heap l1 l2).objs.size=some { cls:=.type "tuple",data:=.seq #[.none,.none] }:=A4 _ (B9 _ rfl);have g3:(zb5 b s.heap l1 l2).get? (zb2 b s.heap l1 l2).objs.size=some { cls:=.type "tuple",data:=.seq #[.ref s.heap.objs.size,.ref (zb1 b s.heap l1).objs.size] }:=A4 _ (A4 _ (B9 _ rfl));have g2:(zb5 b s.heap l1 l2).get? (zb1 b s.heap l1).objs.size=some (qJR b l2):=A4 _ (A4 _ (A4 _ (B9 _ rfl)));have g1:(zb5 b s.heap l1 l2).get? s.heap.objs.size=some (qJR b l1):=A4 _ (A4 _ (A4 _ (A4 _ (B9 _ rfl))));have lt:∀ {l:Addr} {zs:Array Value},SSq b s.heap l zs->l<s.heap.objs.size:=fun {l zs} q=>by
  cases b
  ·obtain ⟨o,e,_⟩:=q;exact C1 e
  ·obtain ⟨o,e,_⟩:=q;exact C1 e
 refine ⟨⟨_,g5,rfl⟩,?_⟩;have D:=zipApart_new (n:=s.heap.objs.size) (lt hl1) (lt hl2);rw [<- z4,<- z3,<- z2,<- z1] at D;refine hQ _ _ _ _ _ _ D g5 g3 g4 ?_ ?_ ?_ fun c o e=>A4 _ (A4 _ (A4 _ (A4 _ (A4 _ e))))
 ·cases b
  ·exact ⟨_,g1,rfl,rfl⟩
  ·exact ⟨_,g1,rfl,rfl⟩
 ·cases b
  ·exact ⟨_,g2,rfl,rfl⟩
  ·exact ⟨_,g2,rfl,rfl⟩
 ·intro c hc;have e':c=(zb4 b s.heap l1 l2).objs.size\/c=(zb2 b s.heap l1 l2).objs.size\/c=(zb3 b s.heap l1 l2).objs.size\/c=s.heap.objs.size\/c=(zb1 b s.heap l1).objs.size:=by simpa using hc
  rcases e' with rfl | rfl | rfl | rfl | rfl
  ·lia
  ·lia
  ·lia
  ·exact A9 _
  ·lia
def SqB (b:Bool) (K:PySem.W.Frag) (H:Hp) (a:Addr) (xs:List V):Prop:=match b with | true=>SqT K H a xs | false=>SqL K H a xs
def Itz (K:PySem.W.Frag) (b:Bool) (l1 l2:Addr):It:=
 ⟨fun i H=>∃ xs ys x y,SqB b K H l1 xs/\SqB b K H l2 ys/\xs[i]?=some x/\ys[i]?=some y,fun i H v H'=>∃ T x y,H T=none/\v=.ref T/\H'=Ag H T (.tup [x,y])/\∀ xs ys,SqB b K H l1 xs->SqB b K H l2 ys->xs[i]?=some x/\ys[i]?=some y,fun i H=>∃ xs,SqB b K H l1 xs/\(xs.length<=i\/∃ ys x,SqB b K H l2 ys/\xs[i]?=some x/\ys.length<=i)⟩
section
variable {X:Cx}
theorem Inv.seqB {b:Bool} {Ab:List (Addr × Obj)} {s:Shared} {σ:St} {H:Hp} {a:Addr} {xs:List V} (I:Inv X Ab σ H s) (h:SqB b X.K H a xs):∃ its:List Value,Vals xs its/\SSq b s.heap a its.toArray:=by
 cases b
 ·obtain ⟨its,rv,p,_⟩:=I.list h;exact ⟨its,rv,p.isList⟩
 ·obtain ⟨its,rv,p,_⟩:=I.tuple h;exact ⟨its,rv,p⟩
theorem Inv.seqB_inj {b:Bool} {Ab:List (Addr × Obj)} {s:Shared} {σ:St} {H:Hp} {a:Addr} {xs ys:List V} (I:Inv X Ab σ H s) (h:SqB b X.K H a xs) (h':SqB b X.K H a ys):xs=ys:=by
 cases b
 ·exact I.list_inj h h'
 ·exact I.tuple_inj h h'
theorem qUS {P:B60} {w:World} {K:PySem.W.Frag} {elts:List Expr} {k:Nat} {pos:Pos} {b:Bool} {z TI TO i1 i2 l1 l2:Addr} (D:C19 z TI TO i1 i2 l1 l2):Turn P w K (.Tuple elts k pos) (Itz K b l1 l2) [z,TI,TO,i1,i2] z (fun i h=>IsZip h z TI TO .none/\IsPair h TI (.ref i1) (.ref i2)/\(∃ a c,IsPair h TO a c)/\SIt b h i1 l1 i/\SIt b h i2 l2 i) where
 mem:=by simp
 obj:=fun i h ⟨h1,h2,⟨a,c,h3⟩,h4,h5⟩ d hd=>by
  have it:∀ {j l:Addr},SIt b h j l i->∃ o,h.get? j=some o/\∀ v,o.data ≠ .cell v:=fun {j l} q=>by
   cases b
   ·obtain ⟨o,e,_,q⟩:=q;exact ⟨o,e,fun v z=>by rw [q] at z;cases z⟩
   ·obtain ⟨o,e,_,q⟩:=q;exact ⟨o,e,fun v z=>by rw [q] at z;cases z⟩
  have e':d=z\/d=TI\/d=TO\/d=i1\/d=i2:=by simpa using hd
  rcases e' with rfl | rfl | rfl | rfl | rfl
  ·exact ⟨_,h1,fun v z=>by
    have z':A17 _=A04 v:=z;cases z'⟩
  ·exact ⟨_,h2,fun v z=>by
    have z':B56 _=A04 v:=z;cases z'⟩
  ·exact ⟨_,h3,fun v z=>by
    have z':B56 _=A04 v:=z;cases z'⟩
  ·exact it h4
  ·exact it h5
 keep:=fun i h h' ⟨h1,h2,⟨a,c,h3⟩,h4,h5⟩ kk=>⟨kk z (by simp) _ h1,kk TI (by simp) _ h2,⟨a,c,kk TO (by simp) _ h3⟩,h4.at fun o q=>kk i1 (by simp) o q,h5.at fun o q=>kk i2 (by simp) o q⟩
 item:=by
  intro X hP hw hK hc i Ab s σ H E I hf st hg;subst hP hw hK;obtain ⟨xs,ys,x,y,hq1,hq2,hx,hy⟩:=hg;obtain ⟨its,rv,p1⟩:=I.seqB hq1;obtain ⟨jts,rw',p2⟩:=I.seqB hq2;obtain ⟨u,hu,ru⟩:=rv.get hx;obtain ⟨v,hv,rv'⟩:=rw'.get hy;obtain ⟨h1,h2,⟨a,c,h3⟩,h4,h5⟩:=st;refine qI1 D h1 h2 h3 h4 h5 p1 p2 (x:=u) (y:=v) (by simpa using hu) (by simpa using hv) fun h' a1 a2 a3 a4 a5 a6 a7=>?_
  refine ⟨_,rfl,wpAny_letOwnedTupleGo_zip a1 fun h2' b1 b2=>?_⟩;have ltz:z<s.heap.objs.size:=C1 h1;have nz:s.heap.objs.size ≠ z:=d0 ltz;have I1:Inv X Ab σ H { s with heap:=h2',toks:=s.toks }:=I.turnedL (ch:=[z,TI,TO,i1,i2]) (fun d o hd q=>by
   have e1:d ≠ z:=fun q=>hd (by simp [q])
   exact (b2.2 d e1).trans (a7 d o e1 (fun q=>hd (by simp [q])) (fun q=>hd (by simp [q])) (fun q=>hd (by simp [q])) q)) hf
  have hT:H s.heap.objs.size=none:=I.hok.fresh (A9 _);have fT:=I.fpOk (H':=H) (b:=s.heap.objs.size) (A9 _) hT;have gT:h2'.get? s.heap.objs.size=some { cls:=.type "tuple",data:=.seq #[u,v] }:=(b2.2 _ nz).trans a5;refine ⟨.ref s.heap.objs.size,Ag H s.heap.objs.size (.tup [x,y]),I1.track hT I.sz fT.2.1 fT.2.2.2.2.1 fT.2.2.2.2.2 ⟨by simp only [D8,M7];rw [B66];decide,[u,v],.cons ru (.cons rv' .nil),⟨_,gT,rfl,_,rfl⟩⟩,rfl,
   ⟨_,x,y,hT,rfl,rfl,fun xs' ys' e1 e2=>by rw [I.seqB_inj e1 hq1,I.seqB_inj e2 hq2];exact ⟨hx,hy⟩⟩,⟨b1,(b2.2 _ D.TIz).trans (a7 _ _ D.TIz D.TITO D.TIi1 D.TIi2 h2),⟨u,v,(b2.2 _ D.TOz).trans a2⟩,a3.at fun o q=>(b2.2 _ D.i1z).trans q,a4.at fun o q=>(b2.2 _ D.i2z).trans q⟩,fun d hd=>?_⟩
  have ltb:d<s.heap.objs.size:=by
   have it:∀ {j l:Addr} {n:Nat},SIt b s.heap j l n->j<s.heap.objs.size:=fun {j l n} q=>by
    cases b
    ·obtain ⟨o,e,_,q⟩:=q;exact C1 e
    ·obtain ⟨o,e,_,q⟩:=q;exact C1 e
   have e':d=z\/d=TI\/d=TO\/d=i1\/d=i2:=by simpa using hd
   rcases e' with rfl | rfl | rfl | rfl | rfl
   ·exact ltz
   ·exact C1 h2
   ·exact C1 h3
   ·exact it h4
   ·exact it h5
  rw [qA7 (E3 ltb)];exact (hf d hd).1
 done:=by
  intro X hP hw hK hc i Ab s σ H E I hf st hg;subst hP hw hK;obtain ⟨xs,hq,hx⟩:=hg;obtain ⟨its,rv,p⟩:=I.seqB hq;have hl:=rv.length;obtain ⟨h1,h2,⟨a,c,h3⟩,h4,h5⟩:=st;rcases hx with hx | ⟨ys,x,hq2,hxx,hy⟩
  rotate_left
  ·obtain ⟨jts,rw',p2⟩:=I.seqB hq2;have hl2:=rw'.length;obtain ⟨u,hu,ru⟩:=rv.get hxx;exact qI2 (I.ok.hd hc) D h1 h2 h3 h4 h5 p p2 (x:=u) (by simpa using hu) (by simp;lia) fun h' eb=>⟨rfl,I.turnedL (t':=s.toks) (ch:=[z,TI,TO,i1,i2]) (fun d o hd q=>eb d o (fun z=>hd (by simp [z])) (fun z=>hd (by simp [z])) (fun z=>hd (by simp [z])) (fun z=>hd (by simp [z])) q) hf⟩
  exact qIT (I.ok.hd hc) D h1 h2 h4 p (by simp;lia) fun h' eb=>⟨rfl,I.turnedL (t':=s.toks) (ch:=[z,TI,TO,i1,i2]) (fun d o hd q=>eb d o (fun z=>hd (by simp [z])) (fun z=>hd (by simp [z])) q) hf⟩
 self:=fun _ _ _ _ _ ⟨h1,_⟩ h=>wpAny_pyIter_zip h1 h
def iZip (K:PySem.W.Frag) (ta:TA):TI:=fun σ H R=>ta σ H fun vs H1=>∃ b l m,vs=[.ref l,.ref m]/\(∃ xs,SqB b K H1 l xs)/\(∃ xs,SqB b K H1 m xs)/\R (Itz K b l m) H1
theorem qSD {elts:List Expr} {k:Nat} {tpos:Pos} {a b:Expr} {ta:TA} {p pos:Pos} (hg:Gl X "zip") (hm:X.mg "zip" = none) (hv:B67 "zip" = some (.type "zip")) (ha:PA X [a,b] ta) (hs:B68 [a,b] X.env=[(false,eval a X.env),(false,eval b X.env)]:=by rfl) (hs2:B68 [b] X.env=[(false,eval b X.env)]:=by rfl) :
  PI X (.Tuple elts k tpos) (.Call (.Name "zip" p) [a,b] [] pos) (iZip X.K ta):=by
 intro Ab s σ H R I h;refine Call_ (qHN I hg hm hv (O0 (thn (ha pos Ab s σ H _ I h) fun us s1 ⟨vs,H1,I1,r1,q1⟩=>?_) (by rw [hs,hs2]) (by rw [hs2];rfl)))
 obtain ⟨bb,l,m,e,⟨xs,hq⟩,⟨ys,hq2⟩,q⟩:=q1;subst e;obtain ⟨u,v,rfl,rx,ry⟩:=qNG r1;cases rx;cases ry;obtain ⟨its,rv,pl⟩:=I1.seqB hq;obtain ⟨jts,rw',pm⟩:=I1.seqB hq2;refine qU6 pl pm fun h' z TI TO i1 i2 D hz hTI hTO hi1 hi2 hfr hk=>?_;refine wpAny_pyIter_zip hz ?_;have I2:Inv X Ab σ H1 { s1 with heap:=h' }:=I1.kept (t':=s1.toks) hk;exact ⟨z,[z,TI,TO,i1,i2],_,_,H1,rfl,I2,qUS (b:=bb) D,⟨hz,hTI,⟨_,_,hTO⟩,hi1,hi2⟩,fun c hc=>I1.fpOk (hfr c hc) (I1.hok.fresh (hfr c hc)),q⟩
end
theorem qX2 {K:PySem.W.Frag} {b:Bool} {l m:Addr} {xs ys:List V} {g:TG} {tc:TT} {te:TE} {Kf:Hp->Prop} {σ0:St} {H0:Hp} {p:Addr} (hlen:xs.length=ys.length) (Pv:Nat->St->Hp->Prop) (h0:Pv 0 σ0 H0) (hl:∀ i σ H,i<=xs.length->Pv i σ H->SqB b K H l xs/\SqB b K H m ys)
  (hs:∀ i x y σ H T,xs[i]?=some x->ys[i]?=some y->Pv i σ H->H T=none->g (.ref T) σ (Ag H T (.tup [x,y])) fun σ2 H2=>tc σ2 H2 fun b H3=>if b=true then te σ2 H3 fun y H4=>∃ ys,H4 p=some (.lst ys)/\ys.length<B59/\Pv (i+1) σ2 (Ag H4 p (.lst (ys++[y]))) else Pv (i+1) σ2 H3)
  (hd:∀ σ H,Pv xs.length σ H->Kf H) :
  ∃ W:Nat->Nat->St->Hp->Prop,(∃ m,W 0 m σ0 H0)/\∀ i n σ H,W i n σ H->
   ((Itz K b l m).stop i H/\Kf H)\/((Itz K b l m).go i H/\∃ N:St->Hp->Prop,(∀ σ' H',N σ' H'->∃ m',m'<n/\W (i+1) m' σ' H')/\∀ x H',(Itz K b l m).yld i H x H'->g x σ H' fun σ2 H2=>tc σ2 H2 fun b H3=>
    if b=true then te σ2 H3 fun y H4=>∃ ys,H4 p=some (.lst ys)/\ys.length<B59/\N σ2 (Ag H4 p (.lst (ys++[y]))) else N σ2 H3):=by
 refine ⟨fun i n σ H=>n=xs.length - i/\i<=xs.length/\Pv i σ H,⟨xs.length,by simp,F8 _,h0⟩,?_⟩
 rintro i n σ H ⟨rfl,hi,q⟩;have hq:=hl i σ H hi q;by_cases hlt:i<xs.length
 ·refine .inr ⟨⟨xs,ys,xs[i],ys[i]'(by lia),hq.1,hq.2,by simp [hlt],A7 _⟩,Pv (i+1),fun σ' H' p'=>⟨xs.length - (i+1),by lia,rfl,hlt,p'⟩,fun v H' y=>?_⟩
  obtain ⟨T,x,y,hT,e1,e2,yy⟩:=y;subst e1 e2;exact hs i x y σ H T (yy xs ys hq.1 hq.2).1 (yy xs ys hq.1 hq.2).2 q hT
 ·have e:i=xs.length:=by lia
  subst e;exact .inl ⟨⟨xs,hq.1,.inl (A9 _)⟩,hd σ H q⟩
theorem qYM {K:PySem.W.Frag} {b:Bool} {l m:Addr} {xs ys:List V} {g:TG} {tc:TT} {te:TE} {Kf:Hp->Prop} {σ0:St} {H0:Hp} {p:Addr} (hlen:ys.length<=xs.length) (Pv:Nat->St->Hp->Prop) (h0:Pv 0 σ0 H0) (hl:∀ i σ H,i<=ys.length->Pv i σ H->SqB b K H l xs/\SqB b K H m ys)
  (hs:∀ i x y σ H T,xs[i]?=some x->ys[i]?=some y->Pv i σ H->H T=none->g (.ref T) σ (Ag H T (.tup [x,y])) fun σ2 H2=>tc σ2 H2 fun b H3=>if b=true then te σ2 H3 fun y H4=>∃ ys,H4 p=some (.lst ys)/\ys.length<B59/\Pv (i+1) σ2 (Ag H4 p (.lst (ys++[y]))) else Pv (i+1) σ2 H3)
  (hd:∀ σ H,Pv ys.length σ H->Kf H) :
  ∃ W:Nat->Nat->St->Hp->Prop,(∃ m,W 0 m σ0 H0)/\∀ i n σ H,W i n σ H->
   ((Itz K b l m).stop i H/\Kf H)\/((Itz K b l m).go i H/\∃ N:St->Hp->Prop,(∀ σ' H',N σ' H'->∃ m',m'<n/\W (i+1) m' σ' H')/\∀ x H',(Itz K b l m).yld i H x H'->g x σ H' fun σ2 H2=>tc σ2 H2 fun b H3=>
    if b=true then te σ2 H3 fun y H4=>∃ ys,H4 p=some (.lst ys)/\ys.length<B59/\N σ2 (Ag H4 p (.lst (ys++[y]))) else N σ2 H3):=by
 refine ⟨fun i n σ H=>n=ys.length - i/\i<=ys.length/\Pv i σ H,⟨ys.length,by simp,F8 _,h0⟩,?_⟩
 rintro i n σ H ⟨rfl,hi,q⟩;have hq:=hl i σ H hi q;by_cases hlt:i<ys.length
 ·refine .inr ⟨⟨xs,ys,xs[i]'(by lia),ys[i],hq.1,hq.2,A7 _,by simp [hlt]⟩,Pv (i+1),fun σ' H' p'=>⟨ys.length - (i+1),by lia,rfl,hlt,p'⟩,fun v H' y=>?_⟩
  obtain ⟨T,x,y,hT,e1,e2,yy⟩:=y;subst e1 e2;exact hs i x y σ H T (yy xs ys hq.1 hq.2).1 (yy xs ys hq.1 hq.2).2 q hT
 ·have e:i=ys.length:=by lia
  subst e;by_cases c:ys.length<xs.length
  ·exact .inl ⟨⟨xs,hq.1,.inr ⟨ys,xs[ys.length],hq.2,A7 _,A9 _⟩⟩,hd σ H q⟩
  ·exact .inl ⟨⟨xs,hq.1,.inl (by lia)⟩,hd σ H q⟩
theorem qR0 {M:Model} {A:Around} {E:Value->Shared->Prop} {s:Shared} {c:Value} {Q:Bool->Shared->Prop} (h:∀ b,Q b s):wpAny M A (a9 c) Q E s:=by
 unfold a9;exact B57 (wpAny_stack_any fun st=>B58 (h _))
theorem qTN (l:Addr) (items:Array Value):Meets (Builtin.«enumerate.__new__» { pos:=[.type "enumerate",.ref l] }) fun _ R s=>
  s.heap.IsTuple l items/\R (.ok (.ret (.ref (s.heap.push (qJR true l)).objs.size))) { s with heap:=(s.heap.push (qJR true l)).push { cls:=.type "enumerate",data:=.fields #[.none,.bool false,.ref s.heap.objs.size,rawInt 0,.none,.none] } }:=by
 refine Meets.of_wp fun prog w A R s h=>?_;obtain ⟨hl,h⟩:=h;refine B57 ?_;refine B57 (B58 ?_);refine B91 rfl ?_;refine B57 (C07 sub_enumerate ?_);refine B91 rfl ?_;refine B58 ?_;refine wpAny_ite_true rfl ?_;refine B57 (qR0 fun sh=>?_);have go:wpAny (model prog w) A.in1 (pyIter (.ref l) >>= fun it=>Y2 (.type "enumerate") (A68++[it,rawInt 0,.none,.none]) >>= fun v=>ret v) (fun fin s'=>∃ v,fin=.done (.ret v)/\R (.ok (.ret v)) s') (fun e s'=>R (.error e) s') s:=by
  refine B57 (qH4 (b:=true) hl ?_);refine B57 ?_;unfold Y2;dsimp only;refine B69 ?_ (by first | rfl | (show (6:Nat)<=B59+2;rw [B66];decide))
  exact B58 ⟨_,rfl,h⟩
 cases sh
 ·exact go
 ·exact go
theorem qR5 {prog:B60} {w:World} {A:Around} {E:Value->Shared->Prop} {s:Shared} {l:Addr} {items:Array Value} {Q:Value->Shared->Prop} (hl:s.heap.IsTuple l items)
  (h:∀ h':Heap,IsEnum h' (s.heap.objs.size+1) s.heap.objs.size 0 .none->h'.IsTupleIter s.heap.objs.size l 0->h'.objs.size=s.heap.objs.size+2->(∀ (b:Addr) (o:Obj),s.heap.get? b=some o->h'.get? b=some o)->Q (.ref (s.heap.objs.size+1)) { s with heap:=h' }) :
  wpAny (model prog w) A (call (.type "enumerate") [.ref l]) Q E s:=by
 refine callType_new F.called_enumerate (by decide) (F.typeCall_enumerate_1 _) (F.newCall_enumerate_1 _) (fun obj=>A56 obj _) F.entry_enumerate_new (qTN l items) ⟨hl,?_⟩
 have z1:(s.heap.push (qJR true l)).objs.size=s.heap.objs.size+1:=M8 ..;rw [z1];have g:((s.heap.push (qJR true l)).push { cls:=.type "enumerate",data:=.fields #[.none,.bool false,.ref s.heap.objs.size,rawInt 0,.none,.none] }).get? (s.heap.objs.size+1)=some { cls:=.type "enumerate",data:=.fields #[.none,.bool false,.ref s.heap.objs.size,rawInt 0,.none,.none] }:=by
  rw [<- z1];exact B9 _ rfl
 exact ⟨⟨_,g,rfl⟩,h _ g ⟨_,A4 _ (B9 _ rfl),rfl,rfl⟩ ((M8 ..).trans (by rw [z1])) fun b o e=>A4 _ (A4 _ e)⟩
theorem qXB {prog:B60} {w:World} {A:Around} (hh:A.handled=none) (it l:Addr) (hne:l ≠ it) (items:Array Value):Draws prog w A it [it,l] items.size (fun i v=>items[i]?=some v) fun i h=>h.IsTupleIter it l i/\h.IsTuple l items where
 live:=fun i h ⟨⟨o,e,_⟩,_⟩=>⟨o,e⟩
 frame:=fun i h h' ⟨⟨o,e,r⟩,⟨o2,e2,r2⟩⟩ k=>⟨⟨o,k it (by simp) _ e,r⟩,⟨o2,k l (by simp) _ e2,r2⟩⟩
 item:=fun i s Q E hi ⟨h1,h2⟩ hQ=>qDM h1 h2 (C8 hi) fun h' a b=>hQ _ h' s.toks (C8 hi) ⟨a,by obtain ⟨o,e,r⟩:=h2;exact ⟨o,(b.2 l hne).trans e,r⟩⟩ b
 done:=fun s Q E ⟨h1,h2⟩ hE=>qEG hh h1 h2 (by simp) hE
def IteT (K:PySem.W.Frag) (l:Addr):It:=
 ⟨fun i H=>∃ xs x,SqT K H l xs/\xs[i]?=some x,fun i H v H'=>∃ T x,H T=none/\v=.ref T/\H'=Ag H T (.tup [.int (i:Int),x])/\∀ xs,SqT K H l xs->xs[i]?=some x,fun i H=>∃ xs,SqT K H l xs/\xs.length=i⟩
section
variable {X:Cx}
theorem qQD {P:B60} {w:World} {K:PySem.W.Frag} {elts:List Expr} {k:Nat} {pos:Pos} (l it e:Addr) (hne:e ≠ it) (hl:l ≠ it) (hle:l ≠ e):Turn P w K (.Tuple elts k pos) (IteT K l) [e,it] e (fun i h=>(∃ old,IsEnum h e it i old)/\h.IsTupleIter it l i) where
 mem:=by simp
 obj:=fun i h st b hb=>by
  obtain ⟨⟨old,h1⟩,o,h2,_,h4⟩:=st;have e':b=e\/b=it:=by simpa using hb
  rcases e' with rfl | rfl
  ·exact ⟨_,h1,fun v z=>by
    have z':A17 _=A04 v:=z;cases z'⟩
  ·exact ⟨o,h2,fun v z=>by rw [h4] at z;cases z⟩
 keep:=fun i h h' st kk=>by
  obtain ⟨⟨old,h1⟩,h2⟩:=st;exact ⟨⟨old,kk e (by simp) _ h1⟩,h2.at fun o q=>kk it (by simp) o q⟩
 item:=by
  intro X hP hw hK hc i Ab s σ H E I hf st hg;subst hP hw hK;obtain ⟨xs,x,hq,hx⟩:=hg;obtain ⟨its,rv,p,hz⟩:=I.tuple hq;obtain ⟨u,hu,ru⟩:=rv.get hx;obtain ⟨⟨old,h1⟩,h2⟩:=st;have hsz:i<its.toArray.size:=by have:=(A3.mp hu).1;simpa using this
  refine wpAny_pyNext_enum_itemD (qXB (A:=X.A.in1) (I.ok.hd hc) it l hl its.toArray) h1 ⟨h2,p⟩ hsz hne (by simp [hne,L8 hle]) fun u' h' tk a0 a1 a2 a3 a4 a5=>?_
  have eu:u'=u:=by
   have:its[i]?=some u':=by simpa using a0
   rw [hu] at this;exact (J3 this).symm
  subst eu;refine ⟨_,rfl,wpAny_letOwnedTupleGo_enum a1 fun h2' b1 b2=>?_⟩;have ltE:e<s.heap.objs.size:=C1 h1;have I1:Inv X Ab σ H { s with heap:=h2',toks:=tk+1 }:=I.turnedL (ch:=[e,it]) (fun b o hb q=>by
   have hb1:b ≠ e:=fun z=>hb (by simp [z])
   have hb2:b ≠ it:=fun z=>hb (by simp [z])
   exact (b2.2 b hb1).trans (a5 b o hb1 hb2 q)) hf
  have hT:H s.heap.objs.size=none:=I.hok.fresh (A9 _);have fT:=I.fpOk (H':=H) (b:=s.heap.objs.size) (A9 _) hT;have gT:h2'.get? s.heap.objs.size=some { cls:=.type "tuple",data:=.seq #[.int i tk,u'] }:=(b2.2 _ (d0 ltE)).trans a3;refine ⟨.ref s.heap.objs.size,Ag H s.heap.objs.size (.tup [.int (i:Int),x]),I1.track hT I.sz fT.2.1 fT.2.2.2.2.1 fT.2.2.2.2.2 ⟨by simp only [D8,M7];rw [B66];decide,[.int (i:Int) tk,u'],.cons ⟨_,rfl⟩ (.cons ru .nil),⟨_,gT,rfl,_,rfl⟩⟩,rfl,
   ⟨_,x,hT,rfl,rfl,fun ys hy=>by rw [I.tuple_inj hy hq];exact hx⟩,⟨⟨_,b1⟩,a2.1.at fun o q=>(b2.2 it (L8 hne)).trans q⟩,fun b hb=>?_⟩
  have ltb:b<s.heap.objs.size:=by
   have e':b=e\/b=it:=by simpa using hb
   rcases e' with rfl | rfl
   ·exact ltE
   ·obtain ⟨o,q,_⟩:=h2;exact C1 q
  rw [qA7 (E3 ltb)];exact (hf b hb).1
 done:=by
  intro X hP hw hK hc i Ab s σ H E I hf st hg;subst hP hw hK;obtain ⟨xs,hq,hx⟩:=hg;obtain ⟨its,rv,p,hz⟩:=I.tuple hq;have hl':=rv.length;obtain ⟨⟨old,h1⟩,h2⟩:=st;have hsz:i=its.toArray.size:=by simp;lia
  subst hsz;exact wpAny_pyNext_enum_endD (qXB (A:=X.A.in1) (I.ok.hd hc) it l hl its.toArray) h1 ⟨h2,p⟩ fun h' eb=>⟨rfl,I.turnedL (t':=s.toks) (ch:=[e,it]) (fun b o hb q=>eb b o (fun z=>hb (by simp [z])) q) hf⟩
 self:=fun _ _ _ _ _ st h=>by
  obtain ⟨⟨old,h1⟩,h2⟩:=st;exact C15 h1 h
def qbA (K:PySem.W.Frag) (ta:TA):TI:=fun σ H R=>ta σ H fun vs H1=>∃ l,vs=[.ref l]/\(∃ xs,SqT K H1 l xs)/\R (IteT K l) H1
theorem qV6 {elts:List Expr} {k:Nat} {tpos:Pos} {a:Expr} {ta:TA} {p pos:Pos} (hg:Gl X "enumerate") (hm:X.mg "enumerate" = none) (hv:B67 "enumerate" = some (.type "enumerate")) (ha:PA X [a] ta) (hs:B68 [a] X.env=[(false,eval a X.env)]:=by rfl) :
  PI X (.Tuple elts k tpos) (.Call (.Name "enumerate" p) [a] [] pos) (qbA X.K ta):=by
 intro Ab s σ H R I h;refine Call_ (qHN I hg hm hv (O0 (thn (ha pos Ab s σ H _ I h) fun us s1 ⟨vs,H1,I1,r1,q1⟩=>?_) hs rfl));obtain ⟨l,e,⟨xs,hq⟩,q⟩:=q1;subst e;obtain ⟨u,rfl,rx⟩:=qDK r1;cases rx;obtain ⟨its,rv,pl,hz⟩:=I1.tuple hq;have ltl:l<s1.heap.objs.size:=by obtain ⟨o,e,_⟩:=pl;exact C1 e
 refine qR5 pl fun h' he hi hsz hk=>?_;refine C15 he ?_;have I2:Inv X Ab σ H1 { s1 with heap:=h' }:=I1.kept (t':=s1.toks) hk;refine ⟨s1.heap.objs.size+1,[s1.heap.objs.size+1,s1.heap.objs.size],_,_,H1,rfl,I2,qQD l s1.heap.objs.size (s1.heap.objs.size+1) (A29 _) (E3 ltl) (E3 (P7 ltl)),⟨⟨_,he⟩,hi⟩,fun b hb=>?_,q⟩;have e':b=s1.heap.objs.size+1\/b=s1.heap.objs.size:=by simpa using hb
 rcases e' with rfl | rfl
 ·exact I1.fpOk (j7 _) (I1.hok.fresh (j7 _))
 ·exact I1.fpOk (A9 _) (I1.hok.fresh (A9 _))
end
theorem qTL {K:PySem.W.Frag} {a:Addr} {xs:List V} {g:TG} {tb:TS} {D:Ends} {σ0:St} {H0:Hp} (Pv:Nat->St->Hp->Prop) (h0:Pv 0 σ0 H0) (hl:∀ i σ H,i<=xs.length->Pv i σ H->SqT K H a xs)
  (hs:∀ i x σ H T,xs[i]?=some x->Pv i σ H->H T=none->g (.ref T) σ (Ag H T (.tup [.int (i:Int),x])) fun σ2 H2=>tb { D with nx:=Pv (i+1),ct:=Pv (i+1),bk:=D.nx } σ2 H2)
  (hd:∀ σ H,Pv xs.length σ H->D.nx σ H) :
  ∃ W:Nat->Nat->St->Hp->Prop,(∃ m,W 0 m σ0 H0)/\∀ i m σ H,W i m σ H->
   ((IteT K a).stop i H/\D.nx σ H)\/((IteT K a).go i H/\∃ N:St->Hp->Prop,(∀ σ' H',N σ' H'->∃ m',m'<m/\W (i+1) m' σ' H')/\∀ x H',(IteT K a).yld i H x H'->g x σ H' fun σ2 H2=>tb { D with nx:=N,ct:=N,bk:=D.nx } σ2 H2):=by
 refine ⟨fun i m σ H=>m=xs.length - i/\i<=xs.length/\Pv i σ H,⟨xs.length,by simp,F8 _,h0⟩,?_⟩
 rintro i m σ H ⟨rfl,hi,q⟩;have hq:=hl i σ H hi q;by_cases hlt:i<xs.length
 ·refine .inr ⟨⟨xs,xs[i],hq,by simp [hlt]⟩,Pv (i+1),fun σ' H' p'=>⟨xs.length - (i+1),by lia,rfl,hlt,p'⟩,fun v H' y=>?_⟩
  obtain ⟨T,x,hT,e1,e2,y⟩:=y;subst e1 e2;exact hs i x σ H T (y xs hq) q hT
 ·have e:i=xs.length:=by lia
  subst e;exact .inl ⟨⟨xs,hq,rfl⟩,hd σ H q⟩
open PySem
section
variable {es:List Expr} {env:Env} {p:Pos}
end
@[irreducible] def cst (i:Int) (p:Pos):Expr:=.Constant (.int i) 0 p
@[elab_as_elim] theorem us0 {α:Type} {P:List α->Prop} (us:List α) (hl:us.length=0) (h:P []):P us:=by
 match us,hl with
 | [],_=>exact h
@[elab_as_elim] theorem us1 {α:Type} {P:List α->Prop} (us:List α) (hl:us.length=1) (h:∀ a,P [a]):P us:=by
 match us,hl with
 | [a],_=>exact h a
@[elab_as_elim] theorem us2 {α:Type} {P:List α->Prop} (us:List α) (hl:us.length=2) (h:∀ a b,P [a,b]):P us:=by
 match us,hl with
 | [a,b],_=>exact h a b
@[elab_as_elim] theorem us3 {α:Type} {P:List α->Prop} (us:List α) (hl:us.length=3) (h:∀ a b c,P [a,b,c]):P us:=by
 match us,hl with
 | [a,b,c],_=>exact h a b c
@[elab_as_elim] theorem us4 {α:Type} {P:List α->Prop} (us:List α) (hl:us.length=4) (h:∀ a b c d,P [a,b,c,d]):P us:=by
 match us,hl with
 | [a,b,c,d],_=>exact h a b c d
end L2
namespace L2.G
open PySem PyProof.Rows
abbrev gSM:=StateT SortSt Sem
class NM where
 nm:Value->Int
 good:Value->Prop
variable [NM]
def gkv (p:Keyed):Int:=NM.nm p.1
def gIK (p:Keyed):Prop:=NM.good p.1
class LtOk (prog:B60) (w:World) (A:Around) (s:Shared) (κ0:B88):Prop where
 lt:∀ {x y:Value} {Q:Bool->Shared->Prop} {E:Value->Shared->Prop},NM.good x->NM.good y->Q (decide (NM.nm x<NM.nm y)) s->wpAny (model prog w) A (keyLt' κ0 x y) Q E s
def gK (xs:Array Keyed) (i:Nat):Int:=match xs[i]? with
 | some p=>NM.nm p.1
 | none=>0
def gSortedTo (xs:Array Keyed) (k:Nat):Prop:=∀ i j,i<=j->j<k->gK xs i<=gK xs j
def qBS (xs:Array Keyed):Prop:=∀ p,p ∈ xs.toList->NM.good p.1
theorem qYY {xs:Array Keyed} {i:Nat} (hi:i<xs.size):gK xs i=NM.nm xs[i].1:=by unfold gK;rw [getElem?_pos xs i hi]
theorem qFA {xs ys:Array Keyed} {i j:Nat} (h:xs[i]?=ys[j]?):gK xs i=gK ys j:=by unfold gK;rw [h]
theorem qJ9 {xs:Array Keyed} {src d:Nat} (hs:src<xs.size) (hd:d<=src) (k:Nat) :
  gK (bubble xs src d) k=if k=src - d then gK xs src else if src - d<k/\k<=src then gK xs (k - 1) else gK xs k:=by
 have e:=getElem?_bubble hs d hd k;by_cases h1:k=src - d
 ·rw [if_pos h1] at e ⊢;exact qFA e
 ·rw [if_neg h1] at e ⊢;by_cases h2:src - d<k/\k<=src
  ·rw [if_pos h2] at e ⊢;exact qFA e
  ·rw [if_neg h2] at e ⊢;exact qFA e
theorem qGP {xs:Array Keyed} {i j:Nat} (hj:j<=xs.size) (k:Nat) :
  gK (mirror xs i j ((j - i) / 2)) k=if i<=k/\k<j then gK xs (i+j - 1 - k) else gK xs k:=by
 have e:=getElem?_mirror_all (i:=i) hj k;by_cases h1:i<=k/\k<j
 ·rw [if_pos h1] at e ⊢;exact qFA e
 ·rw [if_neg h1] at e ⊢;exact qFA e
theorem qAX {xs:Array Keyed} {i j:Nat} (hj:j<=xs.size) (heq:∀ k,i<=k->k<j->gK xs k=gK xs (j - 1)) (k:Nat) :
  gK (mirror xs i j ((j - i) / 2)) k=gK xs k:=by
 rw [qGP hj]
 split
 ·rw [heq _ (by omega) (by omega),heq k (by omega) (by omega)]
 ·rfl
def qW2:Bool->Keyed->Array Keyed->Nat->Nat->Nat->gSM (Option Nat):=sortPriv% PySem.Builtin.gallop
def gbey (left:Bool) (key:Keyed) (arr:Array Keyed) (base i:Nat):gSM (Option Bool):=do
 let x <- elem' arr (base+i)
 if left=true then lt' x key else do
  let r <- lt' key x
  pure (r.map fun b=>!b)
section
variable {prog:B60} {w:World} {A:Around} {E:Value->Shared->Prop} {s:Shared} {κ0:B88} [LtOk prog w A s κ0]
theorem qGM {st:SortSt} {x y:Keyed} {Q:Option Bool->SortSt->Prop} (hk:kindOf st=κ0) (hx:gIK x) (hy:gIK y) (h:Q (some (decide (gkv x<gkv y))) st):wpS (model prog w) A E s (lt' x y) Q st:=by
 rw [lt'_eq];refine B61 (B97 ?_);rw [hk];refine B61 (wpS_lift (C04 (LtOk.lt hx hy ⟨rfl,?_⟩)));exact B62 h
theorem qB0 {st:SortSt} {arr:Array Keyed} {i:Nat} {x:Keyed} {Q:Keyed->SortSt->Prop} (h:arr[i]?=some x) (hQ:Q x st):wpS (model prog w) A E s (elem' arr i) Q st:=by
 rw [elem'_eq,h];exact B62 hQ
def qAM (left:Bool) (key:Keyed) (arr:Array Keyed) (base i:Nat):Bool:=match arr[base+i]? with
 | some x=>if left=true then decide (gkv x<gkv key) else decide (gkv x<=gkv key)
 | none=>false
theorem qGN {st:SortSt} {left:Bool} {key:Keyed} {arr:Array Keyed} {base i:Nat} {Q:Option Bool->SortSt->Prop} (hk:kindOf st=κ0) (hkey:gIK key) (ha:∀ x ∈ arr.toList,gIK x) (hi:base+i<arr.size) (h:Q (some (qAM left key arr base i)) st) :
  wpS (model prog w) A E s (gbey left key arr base i) Q st:=by
 unfold gbey;have e:arr[base+i]?=some (arr[base+i]'hi):=C8 hi;have hx:gIK (arr[base+i]'hi):=ha _ (by simp)
 unfold qAM at h;rw [e] at h;refine B61 (qB0 e ?_);cases left with
 | true=>exact qGM hk hx hkey h
 | false=>
  refine B61 (qGM hk hkey hx ?_);refine B62 ?_;have:(!decide (gkv key<gkv arr[base+i]))=decide (gkv arr[base+i]<=gkv key):=by
   by_cases q:gkv key<gkv arr[base+i]
   ·rw [decide_eq_true q,decide_eq_false (by omega)];rfl
   ·rw [decide_eq_false q,decide_eq_true (by omega)];rfl
  show Q (some (!decide (gkv key<gkv arr[base+i]))) st;rw [this];exact h
theorem qF8 {st:SortSt} {left:Bool} {key:Keyed} {arr:Array Keyed} {base n hint:Nat} {Q:Option Nat->SortSt->Prop} (hk:kindOf st=κ0) (hkey:gIK key) (ha:∀ x ∈ arr.toList,gIK x) (hn:base+n<=arr.size) (hh:hint<n)
  (mono:∀ i j,i<=j->j<n->qAM left key arr base j=true->qAM left key arr base i=true)
  (h:∀ k,k<=n->(∀ i,i<k->qAM left key arr base i=true)->(∀ i,k<=i->i<n->qAM left key arr base i=false)->Q (some k) st) :
  wpS (model prog w) A E s (qW2 left key arr base n hint) Q st:=by
 have mono':∀ i j,i<=j->j<n->qAM left key arr base i=false->qAM left key arr base j=false:=fun i j hij hj e=>by
  cases q:qAM left key arr base j with
  | false=>rfl
  | true=>rw [mono i j hij hj q] at e;cases e
 unfold qW2;show wpS _ _ _ _ (gbey left key arr base hint >>= _) _ _;refine B61 (qGN hk hkey ha (by omega) ?_)
 dsimp only;cases e:qAM left key arr base hint with
 | true=>
  rw [if_pos rfl];refine B61 (B84 (B70 (I:=fun x c st'=>st'=st/\∃ l o,c=(none,l,o)/\l<o/\x+1<=o/\hint+l<n/\qAM left key arr base (hint+l)=true)
   (Q:=fun c st'=>st'=st/\∃ l o,c=(none,l,o)/\l<o/\hint+l<n/\qAM left key arr base (hint+l)=true/\(o >= n - hint\/qAM left key arr base (hint+o)=false)) ?step ?fin ⟨rfl,0,1,rfl,by omega,by omega,by omega,e⟩) ?post)
  case fin=>
   rintro c st' ⟨rfl,l,o,rfl,h1,h2,h3,h4⟩;exact ⟨rfl,l,o,rfl,h1,h3,h4,.inl (by omega)⟩
  case step=>
   rintro x c st' _ hx ⟨rfl,l,o,rfl,h1,h2,h3,h4⟩;dsimp only;by_cases hge:o >= n - hint
   ·rw [if_pos hge];exact B62 ⟨rfl,l,o,rfl,h1,h3,h4,.inl hge⟩
   ·rw [if_neg hge];show wpS _ _ _ _ (gbey left key arr base (hint+o) >>= _) _ _;refine B61 (qGN hk hkey ha (by omega) ?_)
    dsimp only;cases e2:qAM left key arr base (hint+o) with
    | false=>
     rw [if_pos (by rfl)]
     exact B62 ⟨rfl,l,o,rfl,h1,h3,h4,.inr e2⟩
    | true=>
     rw [if_neg (by simp)]
     exact B62 ⟨rfl,o,2 * o+1,rfl,by omega,by omega,by omega,e2⟩
  case post=>
   rintro c st' ⟨rfl,l,o,rfl,h1,h3,h4,h5⟩;dsimp only;have hl':∀ i,i<hint+l+1->qAM left key arr base i=true:=fun i hi=>mono i (hint+l) (by omega) h3 h4
   have hr':∀ i,hint+min o (n - hint)<=i->i<n->qAM left key arr base i=false:=fun i hi hin=>by
    rcases h5 with h5 | h5
    ·omega
    ·exact mono' (hint+o) i (by omega) hin h5
   refine B61 (B84 (B70 (I:=fun x c st''=>st''=st'/\∃ l r,c=(none,l,r)/\l<=r/\r<=n/\r - l<=n - x/\(∀ i,i<l->qAM left key arr base i=true)/\∀ i,r<=i->i<n->qAM left key arr base i=false)
    (Q:=fun c st''=>st''=st'/\∃ l,c=(none,l,l)/\l<=n/\(∀ i,i<l->qAM left key arr base i=true)/\∀ i,l<=i->i<n->qAM left key arr base i=false) ?bstep ?bfin ⟨rfl,hint+l+1,hint+min o (n - hint),rfl,by omega,by omega,by omega,hl',hr'⟩) ?bpost)
   case bfin=>
    rintro c st'' ⟨rfl,l,r,rfl,h1,h2,h3,h4,h5⟩;have:l=r:=by omega
    subst this;exact ⟨rfl,l,rfl,h2,h4,h5⟩
   case bpost=>
    rintro c st'' ⟨rfl,l,rfl,h1,h2,h3⟩;exact B62 (h l h1 h2 h3)
   case bstep=>
    rintro x c st'' _ hx ⟨rfl,l,r,rfl,h1,h2,h3,h4,h5⟩;dsimp only;by_cases hge:l >= r
    ·rw [if_pos hge];have:l=r:=by omega
     subst this;exact B62 ⟨rfl,l,rfl,h2,h4,h5⟩
    ·rw [if_neg hge];show wpS _ _ _ _ (gbey left key arr base (l+(r - l) / 2) >>= _) _ _;refine B61 (qGN hk hkey ha (by omega) ?_)
     dsimp only;cases e9:qAM left key arr base (l+(r - l) / 2) with
     | true=>
      rw [if_pos rfl];exact B62 ⟨rfl,_,_,rfl,by omega,h2,by omega,fun i hi=>mono i _ (by omega) (by omega) e9,h5⟩
     | false=>
      rw [if_neg B5];exact B62 ⟨rfl,_,_,rfl,by omega,by omega,by omega,h4,fun i hi hin=>mono' _ i hi hin e9⟩
 | false=>
  rw [if_neg B5];refine B61 (B84 (B70 (I:=fun x c st'=>st'=st/\∃ l o,c=(none,l,o)/\l<o/\x+1<=o/\l<=hint/\qAM left key arr base (hint - l)=false)
   (Q:=fun c st'=>st'=st/\∃ l o,c=(none,l,o)/\l<o/\l<=hint/\qAM left key arr base (hint - l)=false/\(o >= hint+1\/qAM left key arr base (hint - o)=true)) ?step ?fin ⟨rfl,0,1,rfl,by omega,by omega,by omega,e⟩) ?post)
  case fin=>
   rintro c st' ⟨rfl,l,o,rfl,h1,h2,h3,h4⟩;exact ⟨rfl,l,o,rfl,h1,h3,h4,.inl (by omega)⟩
  case step=>
   rintro x c st' _ hx ⟨rfl,l,o,rfl,h1,h2,h3,h4⟩;dsimp only;by_cases hge:o >= hint+1
   ·rw [if_pos hge];exact B62 ⟨rfl,l,o,rfl,h1,h3,h4,.inl hge⟩
   ·rw [if_neg hge];show wpS _ _ _ _ (gbey left key arr base (hint - o) >>= _) _ _;refine B61 (qGN hk hkey ha (by omega) ?_)
    dsimp only;cases e2:qAM left key arr base (hint - o) with
    | true=>
     rw [if_pos rfl];exact B62 ⟨rfl,l,o,rfl,h1,h3,h4,.inr e2⟩
    | false=>
     rw [if_neg B5];exact B62 ⟨rfl,o,2 * o+1,rfl,by omega,by omega,by omega,e2⟩
  case post=>
   rintro c st' ⟨rfl,l,o,rfl,h1,h3,h4,h5⟩;dsimp only;have hl':∀ i,i<hint+1 - min o (hint+1)->qAM left key arr base i=true:=fun i hi=>by
    rcases h5 with h5 | h5
    ·omega
    ·exact mono i (hint - o) (by omega) (by omega) h5
   have hr':∀ i,hint - l<=i->i<n->qAM left key arr base i=false:=fun i hi hin=>mono' (hint - l) i hi hin h4;refine B61 (B84 (B70 (I:=fun x c st''=>st''=st'/\∃ l r,c=(none,l,r)/\l<=r/\r<=n/\r - l<=n - x/\(∀ i,i<l->qAM left key arr base i=true)/\∀ i,r<=i->i<n->qAM left key arr base i=false)
    (Q:=fun c st''=>st''=st'/\∃ l,c=(none,l,l)/\l<=n/\(∀ i,i<l->qAM left key arr base i=true)/\∀ i,l<=i->i<n->qAM left key arr base i=false) ?bstep ?bfin ⟨rfl,hint+1 - min o (hint+1),hint - l,rfl,by omega,by omega,by omega,hl',hr'⟩) ?bpost)
   case bfin=>
    rintro c st'' ⟨rfl,l,r,rfl,h1,h2,h3,h4,h5⟩;have:l=r:=by omega
    subst this;exact ⟨rfl,l,rfl,h2,h4,h5⟩
   case bpost=>
    rintro c st'' ⟨rfl,l,rfl,h1,h2,h3⟩;exact B62 (h l h1 h2 h3)
   case bstep=>
    rintro x c st'' _ hx ⟨rfl,l,r,rfl,h1,h2,h3,h4,h5⟩;dsimp only;by_cases hge:l >= r
    ·rw [if_pos hge];have:l=r:=by omega
     subst this;exact B62 ⟨rfl,l,rfl,h2,h4,h5⟩
    ·rw [if_neg hge];show wpS _ _ _ _ (gbey left key arr base (l+(r - l) / 2) >>= _) _ _;refine B61 (qGN hk hkey ha (by omega) ?_)
     dsimp only;cases e9:qAM left key arr base (l+(r - l) / 2) with
     | true=>
      rw [if_pos rfl];exact B62 ⟨rfl,_,_,rfl,by omega,h2,by omega,fun i hi=>mono i _ (by omega) (by omega) e9,h5⟩
     | false=>
      rw [if_neg B5];exact B62 ⟨rfl,_,_,rfl,by omega,by omega,by omega,h4,fun i hi hin=>mono' _ i hi hin e9⟩
end
end L2.G
namespace L2.G
open PySem PyProof.Rows
variable [NM]
structure gMR (R:Keyed->Keyed->Prop) (all out ra rb:List Keyed):Prop where
 perm:(out++(ra++rb)).Perm all
 up:out.Pairwise R
 ua:ra.Pairwise R
 ub:rb.Pairwise R
 la:∀ x ∈ out,∀ y ∈ ra,R x y
 lb:∀ x ∈ out,∀ y ∈ rb,R x y
section
variable {R:Keyed->Keyed->Prop} {all out ra rb xs:List Keyed}
theorem gMR.symm (h:gMR R all out ra rb):gMR R all out rb ra:=⟨((List.Perm.refl out).append (m7)).trans h.perm,h.up,h.ub,h.ua,h.lb,h.la⟩
theorem gMR.takeA (h:gMR R all out (xs++ra) rb) (c:∀ x ∈ xs,∀ y ∈ rb,R x y):gMR R all (out++xs) ra rb:=by
 have ua:=L6.mp h.ua;refine ⟨?_,L6.mpr ⟨h.up,ua.1,fun x hx y hy=>h.la x hx y (B7.mpr (.inl hy))⟩,ua.2.1,h.ub,fun x hx y hy=>?_,fun x hx y hy=>?_⟩
 ·have e:out++xs++(ra++rb)=out++((xs++ra)++rb):=by simp [I0]
  rw [e];exact h.perm
 ·rcases B7.mp hx with hx | hx
  ·exact h.la x hx y (B7.mpr (.inr hy))
  ·exact ua.2.2 x hx y hy
 ·rcases B7.mp hx with hx | hx
  ·exact h.lb x hx y hy
  ·exact c x hx y hy
theorem gMR.takeB (h:gMR R all out ra (xs++rb)) (c:∀ x ∈ xs,∀ y ∈ ra,R x y):gMR R all (out++xs) ra rb:=(gMR.takeA h.symm c).symm
theorem gMR.allA (h:gMR R all out ra []):(out++ra).Perm all/\(out++ra).Pairwise R:=by
 have h':gMR R all out (ra++[]) []:=by rw [J8];exact h
 have q:=h'.takeA fun _ _ _ z=>nomatch z;exact ⟨by have:=q.perm;simpa using this,q.up⟩
theorem gMR.allB (h:gMR R all out [] rb):(out++rb).Perm all/\(out++rb).Pairwise R:=h.symm.allA
theorem gMR.lastA {z:Keyed} (h:gMR R all out [z] rb) (c:∀ y ∈ rb,R y z):(out++rb++[z]).Perm all/\(out++rb++[z]).Pairwise R:=by
 have h':gMR R all out [z] (rb++[]):=by rw [J8];exact h
 exact (h'.takeB fun x hx y hy=>by rw [A6.mp hy];exact c x hx).allA
end
abbrev grUp (x y:Keyed):Prop:=gkv x<=gkv y
abbrev grDn (x y:Keyed):Prop:=gkv y<=gkv x
def gRes (all r:List Keyed):Prop:=r.Perm all/\r.Pairwise grUp
def gSE (st st':SortSt):Prop:=kindOf st'=kindOf st/\arrOf st'=arrOf st/\B64 st'=B64 st/\failedOf st'=failedOf st
theorem gSE.refl (st:SortSt):gSE st st:=⟨rfl,rfl,rfl,rfl⟩
def gmLo:Array Keyed->Array Keyed->gSM (Array Keyed):=sortPriv% PySem.Builtin.mergeLo
def gmHi:Array Keyed->Array Keyed->gSM (Array Keyed):=sortPriv% PySem.Builtin.mergeHi
theorem qCQ {l:List Keyed} {i:Nat} {x:Keyed} (h:l[i]?=some x):l.drop i=[x]++l.drop (i+1):=by
 obtain ⟨hi,e⟩:=A3.mp h;rw [b7 hi,e]
 rfl
theorem qBO {a:Array Keyed} {i:Nat} (h:i<a.size):∃ x,a[i]?=some x/\a.toList[i]?=some x/\x ∈ a.toList:=⟨a[i],C8 h,by simp [h],by simp⟩
theorem qAQ (a:Array Keyed) (i j:Nat):(a.extract i j).toList=(a.toList.drop i).take (j - i):=by simp
theorem qG2 {l:List Keyed} {i k:Nat}:l.drop i=(l.drop i).take k++l.drop (i+k):=by
 rw [<- z8,Y8]
theorem qE2 {left:Bool} {key:Keyed} {arr:Array Keyed} {base n:Nat} (hn:base+n<=arr.size) (u:(arr.toList.drop base).Pairwise grUp):∀ i j,i<=j->j<n->qAM left key arr base j=true->qAM left key arr base i=true:=by
 intro i j hij hj e;by_cases hij':i=j
 ·subst hij';exact e
 have hj':base+j<arr.size:=by omega
 have hi':base+i<arr.size:=by omega
 have le:gkv arr[base+i]<=gkv arr[base+j]:=by
  have:=P0.mp u i j (by simp;omega) (by simp;omega) (by omega)
  simpa using this
 unfold qAM at e ⊢;rw [C8 hj'] at e;rw [C8 hi'];cases left with
 | true=>
  have e':decide (gkv arr[base+j]<gkv key)=true:=e;show decide (gkv arr[base+i]<gkv key)=true;have:=of_decide_eq_true e';exact decide_eq_true (by omega)
 | false=>
  have e':decide (gkv arr[base+j]<=gkv key)=true:=e;show decide (gkv arr[base+i]<=gkv key)=true;have:=of_decide_eq_true e';exact decide_eq_true (by omega)
theorem qMS {key:Keyed} {arr:Array Keyed} {base n k:Nat} (hk:k<=n) (hn:base+n<=arr.size) (h:∀ i,i<k->qAM true key arr base i=true):∀ x ∈ (arr.toList.drop base).take k,gkv x<gkv key:=by
 intro x hx;obtain ⟨i,hi,rfl⟩:=T3 hx;simp only [E1,G8,C3] at hi;have e:=h i (by omega)
 unfold qAM at e;rw [C8 (show base+i<arr.size by omega)] at e
 have e':decide (gkv arr[base+i]<gkv key)=true:=e;simpa using of_decide_eq_true e'
theorem qMT {key:Keyed} {arr:Array Keyed} {base n k:Nat} (hk:k<=n) (hn:base+n<=arr.size) (h:∀ i,i<k->qAM false key arr base i=true):∀ x ∈ (arr.toList.drop base).take k,gkv x<=gkv key:=by
 intro x hx;obtain ⟨i,hi,rfl⟩:=T3 hx;simp only [E1,G8,C3] at hi;have e:=h i (by omega)
 unfold qAM at e;rw [C8 (show base+i<arr.size by omega)] at e
 have e':decide (gkv arr[base+i]<=gkv key)=true:=e;simpa using of_decide_eq_true e'
theorem qKC {key:Keyed} {arr:Array Keyed} {base n k:Nat} (hn:base+n<=arr.size) (h:∀ i,k<=i->i<n->qAM true key arr base i=false):∀ x ∈ ((arr.toList.drop base).take n).drop k,gkv key<=gkv x:=by
 intro x hx;obtain ⟨i,hi,rfl⟩:=T3 hx;simp only [E1,G8,C3] at hi;have e:=h (k+i) (by omega) (by omega)
 unfold qAM at e;rw [C8 (show base+(k+i)<arr.size by omega)] at e
 have e':decide (gkv arr[base+(k+i)]<gkv key)=false:=e;have:=of_decide_eq_false e';simp only [A10,A11,A57];omega
theorem qKB {key:Keyed} {arr:Array Keyed} {base n k:Nat} (hn:base+n<=arr.size) (h:∀ i,k<=i->i<n->qAM false key arr base i=false):∀ x ∈ ((arr.toList.drop base).take n).drop k,gkv key<gkv x:=by
 intro x hx;obtain ⟨i,hi,rfl⟩:=T3 hx;simp only [E1,G8,C3] at hi;have e:=h (k+i) (by omega) (by omega)
 unfold qAM at e;rw [C8 (show base+(k+i)<arr.size by omega)] at e
 have e':decide (gkv arr[base+(k+i)]<=gkv key)=false:=e;have:=of_decide_eq_false e';simp only [A10,A11,A57];omega
end L2.G
namespace L2.G
open PySem PyProof.Rows
variable [NM]
theorem gifT {prog:B60} {w:World} {A:Around} {E:Value->Shared->Prop} {s:Shared} {α:Type} {c:Prop} [Decidable c] {x y:gSM α} {Q:α->SortSt->Prop} {st:SortSt} (h:c) (k:wpS (model prog w) A E s x Q st):wpS (model prog w) A E s (if c then x else y) Q st:=by rw [if_pos h];exact k
theorem gifF {prog:B60} {w:World} {A:Around} {E:Value->Shared->Prop} {s:Shared} {α:Type} {c:Prop} [Decidable c] {x y:gSM α} {Q:α->SortSt->Prop} {st:SortSt} (h:¬ c) (k:wpS (model prog w) A E s y Q st):wpS (model prog w) A E s (if c then x else y) Q st:=by rw [if_neg h];exact k
theorem gtwo {α:Type} {A:Prop} {M G:α->Prop} (h1:(∀ o,M o->G o)->A) (h2:∀ o,M o->G o):A:=h1 h2
section
variable {prog:B60} {w:World} {A:Around} {E:Value->Shared->Prop} {s:Shared} {κ0:B88} [LtOk prog w A s κ0]
theorem qVV {st:SortSt} {a b:Array Keyed} {Q:Array Keyed->SortSt->Prop} (hk:kindOf st=κ0) (ka:∀ x ∈ a.toList,gIK x) (kb:∀ x ∈ b.toList,gIK x) (ua:a.toList.Pairwise grUp) (ub:b.toList.Pairwise grUp) (na:0<a.size) (nb:0<b.size)
  (first:∀ y,b.toList[0]?=some y->∀ x ∈ a.toList,gkv y<=gkv x) (last:∀ z,a.toList[a.size - 1]?=some z->∀ y ∈ b.toList,gkv y<=gkv z)
  (h:∀ r st',gSE st st'->gRes (a.toList++b.toList) r.toList->Q r st'):wpS (model prog w) A E s (gmLo a b) Q st:=by
 have tl:(a.toList++b.toList).length=a.size+b.size:=by simp
 -- ways out
 have outB:∀ (out:Array Keyed) (ia:Nat),gMR grUp (a.toList++b.toList) out.toList (a.toList.drop ia) (b.toList.drop b.size)->gRes (a.toList++b.toList) (out++a.extract ia a.size++b.extract b.size b.size).toList:=by
  intro out ia m;have e:b.toList.drop b.size=[]:=j6 (by simp)
  rw [e] at m;have q:=m.allA;have e2:(out++a.extract ia a.size++b.extract b.size b.size).toList=out.toList++a.toList.drop ia:=by
   rw [F9,F9,qAQ,qAQ,e,B43,J8,E6 (by simp)]
  rw [e2];exact q
 have outA:∀ (out:Array Keyed) (ib:Nat),gMR grUp (a.toList++b.toList) out.toList (a.toList.drop a.size) (b.toList.drop ib)->gRes (a.toList++b.toList) (out++a.extract a.size a.size++b.extract ib b.size).toList:=by
  intro out ib m;have e:a.toList.drop a.size=[]:=j6 (by simp)
  rw [e] at m;have q:=m.allB;have e2:(out++a.extract a.size a.size++b.extract ib b.size).toList=out.toList++b.toList.drop ib:=by
   rw [F9,F9,qAQ,qAQ,e,B43,J8,E6 (by simp)]
  rw [e2];exact q
 have outL:∀ (out:Array Keyed) (ia ib:Nat),ia+1=a.size->gMR grUp (a.toList++b.toList) out.toList (a.toList.drop ia) (b.toList.drop ib)->gRes (a.toList++b.toList) (out++b.extract ib b.size++a.extract ia a.size).toList:=by
  intro out ia ib hia m;obtain ⟨z,_,hz,_⟩:=qBO (a:=a) (i:=ia) (by lia)
  have e:a.toList.drop ia=[z]:=by rw [qCQ hz,j6 (by simp;lia)];rfl
  rw [e] at m;have q:=m.lastA fun y hy=>last z (by rw [show a.size - 1=ia by lia];exact hz) y (L3 hy)
  have e2:(out++b.extract ib b.size++a.extract ia a.size).toList=out.toList++b.toList.drop ib++[z]:=by
   rw [F9,F9,qAQ,qAQ,e,E6 (by simp),E6 (by simp;lia)]
  rw [e2];exact q
 -- the first of b
 obtain ⟨y0,hy0,hy0',_⟩:=qBO (a:=b) (i:=0) nb;have m0:gMR grUp (a.toList++b.toList) #[y0].toList (a.toList.drop 0) (b.toList.drop 1):=by
  have m:gMR grUp (a.toList++b.toList) [] a.toList ([y0]++b.toList.drop 1):=by
   rw [<- qCQ hy0'];exact ⟨.refl _,.nil,ua,ub,(fun _ z=>nomatch z),(fun _ z=>nomatch z)⟩
  exact m.takeB fun x hx y hy=>by rw [A6.mp hx];exact first y0 hy0' y hy
 -- a step of b,a step of a
 have stepB:∀ {out:Array Keyed} {ia ib:Nat} {y:Keyed},gMR grUp (a.toList++b.toList) out.toList (a.toList.drop ia) (b.toList.drop ib)->b.toList[ib]?=some y->(∀ x ∈ a.toList.drop ia,gkv y<=gkv x)->gMR grUp (a.toList++b.toList) (out.push y).toList (a.toList.drop ia) (b.toList.drop (ib+1)):=by
  intro out ia ib y m hy c;rw [qCQ hy] at m;rw [W6];exact m.takeB fun x hx z hz=>by rw [A6.mp hx];exact c z hz
 have stepA:∀ {out:Array Keyed} {ia ib:Nat} {x:Keyed},gMR grUp (a.toList++b.toList) out.toList (a.toList.drop ia) (b.toList.drop ib)->a.toList[ia]?=some x->(∀ y ∈ b.toList.drop ib,gkv x<=gkv y)->gMR grUp (a.toList++b.toList) (out.push x).toList (a.toList.drop (ia+1)) (b.toList.drop ib):=by
  intro out ia ib x m hx c;rw [qCQ hx] at m;rw [W6];exact m.takeA fun z hz y hy=>by rw [A6.mp hz];exact c y hy
 have least:∀ {l:List Keyed} {i:Nat} {x:Keyed},l.Pairwise grUp->l[i]?=some x->∀ y ∈ l.drop i,gkv x<=gkv y:=by
  intro l i x u hx y hy;have u':=u.sublist (Z5 i l);rw [qCQ hx] at u' hy;rcases B7.mp hy with hy | hy
  ·rw [A6.mp hy];exact M6 _
  ·exact (L6.mp u').2.2 x (by simp) y hy
 have room:∀ {out:Array Keyed} {ia ib:Nat},gMR grUp (a.toList++b.toList) out.toList (a.toList.drop ia) (b.toList.drop ib)->ia<a.size->ib<b.size->ia+ib<a.size+b.size:=fun _ _ _=>by lia
 unfold gmLo;show wpS _ _ _ _ (liftM (rule "list.sort.merge-lo") >>= _) _ _;refine B61 (wpS_lift (B87 ⟨rfl,?_⟩));refine B61 (qB0 hy0 ?_);dsimp only;by_cases hb1:b.size=1
 ·refine gifT (by simp [hb1]) ?_
  refine B62 (h _ _ (.refl st) ?_);have:=outB #[y0] 0 (by rw [hb1];exact m0)
  rw [hb1] at this ⊢;exact this
 refine gifF (by simp;lia) ?_
 by_cases ha1:a.size=1
 ·refine gifT (by simp [ha1]) ?_
  exact B62 (h _ _ (.refl st) (outL #[y0] 0 1 (by lia) m0))
 refine gifF (by simp;lia) ?_
 refine B61 (B97 ?_);refine B61 (B84 (B70
  (I:=fun x c st'=>gSE st st'/\∃ (out:Array Keyed) (ia ib mg:Nat),c=(none,out,ia,ib,mg)/\gMR grUp (a.toList++b.toList) out.toList (a.toList.drop ia) (b.toList.drop ib)/\ia+1<a.size/\ib<b.size/\x+1<=ia+ib)
  (Q:=fun c st'=>gSE st st'/\∃ r rest,c=(some r,rest)/\gRes (a.toList++b.toList) r.toList) ?ostep ?ofin ⟨.refl st,_,0,1,_,rfl,m0,by lia,by lia,by lia⟩) ?opost)
 case opost=>
  rintro c st' ⟨se,r,rest,rfl,hr⟩;exact B62 (h r st' se hr)
 case ofin=>
  rintro c st' ⟨se,out,ia,ib,mg,rfl,m,h1,h2,h3⟩
  lia
 case ostep=>
  rintro x c st1 _ hx ⟨se,out,ia,ib,mg,rfl,m,h1,h2,h3⟩;dsimp only;refine B61 (B84 (B70
   (I:=fun y c st'=>gSE st st'/\∃ (out:Array Keyed) (ia' ib' ac bc:Nat),c=(none,out,ia',ib',ac,bc)/\gMR grUp (a.toList++b.toList) out.toList (a.toList.drop ia') (b.toList.drop ib')/\ia'+1<a.size/\ib'<b.size/\ia+ib+y<=ia'+ib')
   (Q:=fun c st'=>gSE st st'/\((∃ r rest,c=(some r,rest)/\gRes (a.toList++b.toList) r.toList)\/∃ (out:Array Keyed) (ia' ib' ac bc:Nat),c=(none,out,ia',ib',ac,bc)/\gMR grUp (a.toList++b.toList) out.toList (a.toList.drop ia') (b.toList.drop ib')/\ia'+1<a.size/\ib'<b.size/\ia+ib+1<=ia'+ib')) ?istep ?ifin ⟨se,out,ia,ib,0,0,rfl,m,h1,h2,by lia⟩) ?ipost)
  case ifin=>
   rintro c st' ⟨se,out,ia',ib',ac,bc,rfl,m,g1,g2,g3⟩
   lia
  case istep=>
   rintro y c st' _ hy ⟨se,out,ia',ib',ac,bc,rfl,m,g1,g2,g3⟩;dsimp only;obtain ⟨yb,e1,e1',mb⟩:=qBO (a:=b) (i:=ib') g2;obtain ⟨xa,e2,e2',ma⟩:=qBO (a:=a) (i:=ia') (by lia)
   have hk':kindOf st'=κ0:=se.1.trans hk;refine B61 (qB0 e1 (B61 (qB0 e2 (B61 (qGM hk' (kb _ mb) (ka _ ma) ?_)))));dsimp only;by_cases hw:gkv yb<gkv xa
   ·rw [decide_eq_true hw,if_pos rfl];refine B61 (qB0 e1 ?_);have m':=stepB m e1' fun x hx=>by have:=least ua e2' x hx;lia
    by_cases hbe:ib'+1=b.size
    ·refine gifT (by simp [hbe]) ?_
     refine B62 ⟨se,.inl ⟨_,_,rfl,?_⟩⟩;rw [hbe] at m' ⊢;exact outB _ _ m'
    ·refine gifF (by simp;exact hbe) ?_
     split
     ·exact B62 ⟨se,.inr ⟨_,_,_,_,_,rfl,m',g1,by lia,by lia⟩⟩
     ·exact B62 ⟨se,_,_,_,_,_,rfl,m',g1,by lia,by lia⟩
   ·rw [decide_eq_false hw,if_neg B5];refine B61 (qB0 e2 ?_);have m':=stepA m e2' fun y hy=>by have:=least ub e1' y hy;lia
    by_cases hae:ia'+1+1=a.size
    ·refine gifT (by simp [hae]) ?_
     exact B62 ⟨se,.inl ⟨_,_,rfl,outL _ _ _ hae m'⟩⟩
    ·refine gifF (by simp;exact hae) ?_
     split
     ·exact B62 ⟨se,.inr ⟨_,_,_,_,_,rfl,m',by lia,g2,by lia⟩⟩
     ·exact B62 ⟨se,_,_,_,_,_,rfl,m',by lia,g2,by lia⟩
  case ipost=>
   rintro c st2 ⟨se,⟨r,rest,rfl,hr⟩ | ⟨out,ia1,ib1,ac,bc,rfl,m,g1,g2,g3⟩⟩
   ·exact B62 ⟨se,r,_,rfl,hr⟩
   dsimp only;refine B61 (wpS_lift (B87 ⟨rfl,?_⟩));refine B61 (B84 (B70
    (I:=fun y c st'=>gSE st st'/\∃ (out:Array Keyed) (ia' ib' mg ac bc:Nat),c=(none,out,ia',ib',mg,ac,bc)/\gMR grUp (a.toList++b.toList) out.toList (a.toList.drop ia') (b.toList.drop ib')/\ia'+1<a.size/\ib'<b.size/\ia1+ib1+y<=ia'+ib')
    (Q:=fun c st'=>gSE st st'/\((∃ r rest,c=(some r,rest)/\gRes (a.toList++b.toList) r.toList)\/∃ (out:Array Keyed) (ia' ib' mg ac bc:Nat),c=(none,out,ia',ib',mg,ac,bc)/\gMR grUp (a.toList++b.toList) out.toList (a.toList.drop ia') (b.toList.drop ib')/\ia'+1<a.size/\ib'<b.size/\ia1+ib1<=ia'+ib')) ?gstep ?gfin ⟨se,out,ia1,ib1,_,ac,bc,rfl,m,g1,g2,by lia⟩) ?gpost)
   case gfin=>
    rintro c st' ⟨se,out,ia',ib',mg,ac,bc,rfl,m,q1,q2,q3⟩
    lia
   case gpost=>
    rintro c st3 ⟨se,⟨r,rest,rfl,hr⟩ | ⟨out,ia',ib',mg,ac,bc,rfl,m,q1,q2,q3⟩⟩
    ·exact B62 ⟨se,r,_,rfl,hr⟩
    dsimp only;refine B61 (B77 (B62 ?_));exact ⟨⟨se.1,se.2.1,se.2.2.1,se.2.2.2⟩,out,ia',ib',_,rfl,m,q1,q2,by lia⟩
   case gstep=>
    rintro y c st0 _ hy ⟨se,out,ia',ib',mg,ac,bc,rfl,m,q1,q2,q3⟩;dsimp only;obtain ⟨yb,e1,e1',mb⟩:=qBO (a:=b) (i:=ib') q2;have hm:b.toList.drop ib'=[yb]++b.toList.drop (ib'+1):=qCQ e1';apply gtwo (α:=Nat) (M:=fun _=>True)
    ·intro J;by_cases hmg:mg > 1
     ·refine gifT hmg ?_;refine B61 (B77 ?_);generalize mg - 1=n;exact J n trivial
     ·refine gifF hmg ?_;refine B61 (B77 ?_);generalize mg=n;exact J n trivial
    ·intro n _;have se':gSE st st0:=se;refine B61 (qB0 e1 ?_);refine B61 (qF8 (left:=false) (n:=a.size - ia') (hint:=0) (se.1.trans hk) (kb _ mb) ka (by lia) (by lia) (qE2 (by lia) (ua.sublist (Z5 _ _))) fun k k1 k2 k3=>?_)
     dsimp only;have gt1:∀ x ∈ a.toList.drop (ia'+k),gkv yb<=gkv x:=fun x hx=>by
      have q:=qKB (base:=ia') (n:=a.size - ia') (by lia) k3 x
      rw [E6 (by simp),z8] at q
      exact A46 (q hx)
     apply gtwo (α:=Array Keyed) (M:=fun o=>gMR grUp (a.toList++b.toList) o.toList (a.toList.drop (ia'+k)) (b.toList.drop ib')/\ia'+k+1<a.size)
     ·intro J;by_cases k0:k > 0
      ·refine gifT k0 ?_;have mk:gMR grUp (a.toList++b.toList) (out++a.extract ia' (ia'+k)).toList (a.toList.drop (ia'+k)) (b.toList.drop ib'):=by
        rw [F9,qAQ,show ia'+k - ia'=k by lia]
        rw [qG2 (l:=a.toList) (i:=ia') (k:=k)] at m;exact m.takeA fun x hx z hz=>by
         have q1:=qMT k1 (by lia) k2 x hx
         have q2:=least ub e1' z hz;show gkv x<=gkv z
         lia
       by_cases c1:ia'+k+1=a.size
       ·refine gifT (by simp [c1]) ?_
        exact B62 ⟨se',.inl ⟨_,_,rfl,outL _ _ _ c1 mk⟩⟩
       refine gifF (by simp;exact c1) ?_
       by_cases c2:ia'+k=a.size
       ·refine gifT (by simp [c2]) ?_
        refine B62 ⟨se',.inl ⟨_,_,rfl,?_⟩⟩;rw [c2] at mk ⊢;exact outA _ _ mk
       refine gifF (by simp;exact c2) ?_
       generalize out++a.extract ia' (ia'+k)=o at mk ⊢;exact J o ⟨mk,by lia⟩
      ·refine gifF k0 ?_;have k00:k=0:=by lia
       subst k00;exact J out ⟨m,by lia⟩
     ·rintro o ⟨mk,kp⟩;refine B61 (qB0 e1 ?_);have m1:=stepB mk e1' gt1;by_cases hbe:ib'+1=b.size
      ·refine gifT (by simp [hbe]) ?_
       refine B62 ⟨se',.inl ⟨_,_,rfl,?_⟩⟩;rw [hbe] at m1 ⊢;exact outB _ _ m1
      refine gifF (by simp;exact hbe) ?_
      obtain ⟨xa,e2,e2',ma⟩:=qBO (a:=a) (i:=ia'+k) (by lia)
      refine B61 (qB0 e2 ?_);refine B61 (qF8 (left:=true) (n:=b.size - (ib'+1)) (hint:=0) (se.1.trans hk) (ka _ ma) kb (by lia) (by lia) (qE2 (by lia) (ub.sublist (Z5 _ _))) fun k' j1 j2 j3=>?_)
      dsimp only;have ge2:∀ y ∈ b.toList.drop (ib'+1+k'),gkv xa<=gkv y:=fun y hy=>by
       have q:=qKC (base:=ib'+1) (n:=b.size - (ib'+1)) (by lia) j3 y
       rw [E6 (by simp),z8] at q
       exact q hy
      generalize o.push yb=o1 at m1 ⊢;apply gtwo (α:=Array Keyed) (M:=fun o=>gMR grUp (a.toList++b.toList) o.toList (a.toList.drop (ia'+k)) (b.toList.drop (ib'+1+k'))/\ib'+1+k'<b.size)
      ·intro J;by_cases k0':k' > 0
       ·rw [if_pos k0'];have m2:gMR grUp (a.toList++b.toList) (o1++b.extract (ib'+1) (ib'+1+k')).toList (a.toList.drop (ia'+k)) (b.toList.drop (ib'+1+k')):=by
         rw [F9,qAQ,show ib'+1+k' - (ib'+1)=k' by lia]
         rw [qG2 (l:=b.toList) (i:=ib'+1) (k:=k')] at m1;exact m1.takeB fun x hx z hz=>by
          have q1:=qMS j1 (by lia) j2 x hx
          have q2:=least ua e2' z hz;show gkv x<=gkv z
          lia
        by_cases hb2:ib'+1+k'=b.size
        ·refine gifT (by simp [hb2]) ?_
         refine B62 ⟨se',.inl ⟨_,_,rfl,?_⟩⟩;rw [hb2] at m2 ⊢;exact outB _ _ m2
        refine gifF (by simp;exact hb2) ?_
        generalize o1++b.extract (ib'+1) (ib'+1+k')=o2 at m2 ⊢;exact J o2 ⟨m2,by lia⟩
       ·rw [if_neg k0'];have k0'':k'=0:=by lia
        subst k0'';exact J o1 ⟨m1,by lia⟩
      ·rintro o2 ⟨m2,kp'⟩;refine B61 (qB0 e2 ?_);have m3:=stepA m2 e2' ge2;by_cases hae:ia'+k+1+1=a.size
       ·refine gifT (by simp [hae]) ?_
        exact B62 ⟨se',.inl ⟨_,_,rfl,outL _ _ _ hae m3⟩⟩
       refine gifF (by simp;exact hae) ?_
       split
       ·exact B62 ⟨se',.inr ⟨_,_,_,_,_,_,rfl,m3,by lia,by lia,by lia⟩⟩
       ·exact B62 ⟨se',_,_,_,_,_,_,rfl,m3,by lia,by lia,by lia⟩
end
end L2.G
namespace L2.G
open PySem PyProof.Rows
variable [NM]
theorem qCZ {l:List Keyed} {i:Nat} {x:Keyed} (h0:0<i) (h:l[i - 1]?=some x):(l.take i).reverse=[x]++(l.take (i - 1)).reverse:=by
 obtain ⟨j,rfl⟩:∃ j,i=j+1:=⟨i - 1,by lia⟩
 have h':l[j]?=some x:=h;rw [C9,h',D0,X2]
 rfl
theorem qJ6 {l:List Keyed} {i j:Nat} (h:i<=j):(l.take j).reverse=((l.drop i).take (j - i)).reverse++(l.take i).reverse:=by
 rw [<- X2];congr 1;have e:=B44 (l:=l) (i:=i) (j:=j - i);rw [show i+(j - i)=j by lia] at e
 exact e
section
variable {prog:B60} {w:World} {A:Around} {E:Value->Shared->Prop} {s:Shared} {κ0:B88} [LtOk prog w A s κ0]
theorem qVW {st:SortSt} {a b:Array Keyed} {Q:Array Keyed->SortSt->Prop} (hk:kindOf st=κ0) (ka:∀ x ∈ a.toList,gIK x) (kb:∀ x ∈ b.toList,gIK x) (ua:a.toList.Pairwise grUp) (ub:b.toList.Pairwise grUp) (na:0<a.size) (nb:0<b.size)
  (first:∀ y,b.toList[0]?=some y->∀ x ∈ a.toList,gkv y<=gkv x) (last:∀ z,a.toList[a.size - 1]?=some z->∀ y ∈ b.toList,gkv y<=gkv z)
  (h:∀ r st',gSE st st'->gRes (a.toList++b.toList) r.toList->Q r st'):wpS (model prog w) A E s (gmHi a b) Q st:=by
 have back:∀ {l:List Keyed},l.Perm (a.toList++b.toList)/\l.Pairwise grDn->gRes (a.toList++b.toList) l.reverse:=fun {l} q=>⟨(k6 l).trans q.1,Y9.mpr q.2⟩;have outA:∀ (out:Array Keyed) (nb':Nat),gMR grDn (a.toList++b.toList) out.toList (a.toList.take 0).reverse (b.toList.take nb').reverse->gRes (a.toList++b.toList) (a.extract 0 0++b.extract 0 nb'++out.reverse).toList:=by
  intro out nb' m;have q:=back (gMR.allB m);have e2:(a.extract 0 0++b.extract 0 nb'++out.reverse).toList=(out.toList++(b.toList.take nb').reverse).reverse:=by
   rw [F9,F9,qAQ,qAQ,V3,X2,p6];simp
  rw [e2];exact q
 have outB:∀ (out:Array Keyed) (na':Nat),gMR grDn (a.toList++b.toList) out.toList (a.toList.take na').reverse (b.toList.take 0).reverse->gRes (a.toList++b.toList) (a.extract 0 na'++b.extract 0 0++out.reverse).toList:=by
  intro out na' m;have q:=back (gMR.allA m);have e2:(a.extract 0 na'++b.extract 0 0++out.reverse).toList=(out.toList++(a.toList.take na').reverse).reverse:=by
   rw [F9,F9,qAQ,qAQ,V3,X2,p6];simp
  rw [e2];exact q
 obtain ⟨y0,hy0,hy0',_⟩:=qBO (a:=b) (i:=0) nb;have outF:∀ (out:Array Keyed) (na':Nat),gMR grDn (a.toList++b.toList) out.toList (a.toList.take na').reverse (b.toList.take 1).reverse->gRes (a.toList++b.toList) (b.extract 0 1++a.extract 0 na'++out.reverse).toList:=by
  intro out na' m;have e:(b.toList.take 1).reverse=[y0]:=by rw [qCZ (by decide) hy0'];simp
  rw [e] at m;have q:=back (m.symm.lastA fun y hy=>first y0 hy0' y (R5 (O1.mp hy)));have e1:b.toList.take 1=[y0]:=by have:=congrArg List.reverse e;simpa using this
  have e2:(b.extract 0 1++a.extract 0 na'++out.reverse).toList=(out.toList++(a.toList.take na').reverse++[y0]).reverse:=by
   rw [F9,F9,qAQ,qAQ,V3];simp only [z9,Nat.sub_zero,e1];simp
  rw [e2];exact q
 obtain ⟨z0,hz0,hz0',_⟩:=qBO (a:=a) (i:=a.size - 1) (by lia)
 have m0:gMR grDn (a.toList++b.toList) #[z0].toList (a.toList.take (a.size - 1)).reverse (b.toList.take b.size).reverse:=by
  have m:gMR grDn (a.toList++b.toList) [] ([z0]++(a.toList.take (a.size - 1)).reverse) (b.toList.take b.size).reverse:=by
   rw [<- qCZ na hz0',E6 (by simp),E6 (by simp)]
   refine ⟨?_,.nil,Y9.mpr ua,Y9.mpr ub,(fun _ z=>nomatch z),(fun _ z=>nomatch z)⟩;exact (k6 _).append (k6 _)
  exact m.takeA fun x hx y hy=>by rw [A6.mp hx];exact last z0 hz0' y (R5 (O1.mp hy))
 have stepB:∀ {out:Array Keyed} {na' nb':Nat} {y:Keyed},gMR grDn (a.toList++b.toList) out.toList (a.toList.take na').reverse (b.toList.take nb').reverse->0<nb'->b.toList[nb' - 1]?=some y->(∀ x ∈ (a.toList.take na').reverse,gkv x<=gkv y)->gMR grDn (a.toList++b.toList) (out.push y).toList (a.toList.take na').reverse (b.toList.take (nb' - 1)).reverse:=by
  intro out na' nb' y m h0 hy c;rw [qCZ h0 hy] at m;rw [W6];exact m.takeB fun x hx z hz=>by rw [A6.mp hx];exact c z hz
 have stepA:∀ {out:Array Keyed} {na' nb':Nat} {x:Keyed},gMR grDn (a.toList++b.toList) out.toList (a.toList.take na').reverse (b.toList.take nb').reverse->0<na'->a.toList[na' - 1]?=some x->(∀ y ∈ (b.toList.take nb').reverse,gkv y<=gkv x)->gMR grDn (a.toList++b.toList) (out.push x).toList (a.toList.take (na' - 1)).reverse (b.toList.take nb').reverse:=by
  intro out na' nb' x m h0 hx c;rw [qCZ h0 hx] at m;rw [W6];exact m.takeA fun z hz y hy=>by rw [A6.mp hz];exact c y hy
 have most:∀ {l:List Keyed} {i:Nat} {x:Keyed},l.Pairwise grUp->0<i->l[i - 1]?=some x->∀ y ∈ (l.take i).reverse,gkv y<=gkv x:=by
  intro l i x u h0 hx y hy;have u':((l.take i).reverse).Pairwise grDn:=Y9.mpr (u.sublist (Z4 i l));rw [qCZ h0 hx] at u' hy;rcases B7.mp hy with hy | hy
  ·rw [A6.mp hy];exact M6 _
  ·exact (L6.mp u').2.2 x (by simp) y hy
 unfold gmHi;show wpS _ _ _ _ (liftM (rule "list.sort.merge-hi") >>= _) _ _;refine B61 (wpS_lift (B87 ⟨rfl,?_⟩));refine B61 (qB0 hz0 ?_);dsimp only;by_cases ha1:a.size - 1=0
 ·refine gifT (by simp [ha1]) ?_
  refine B62 (h _ _ (.refl st) ?_);rw [ha1] at m0 ⊢;exact outA _ _ m0
 refine gifF (by simp;lia) ?_
 by_cases hb1:b.size=1
 ·refine gifT (by simp [hb1]) ?_
  refine B62 (h _ _ (.refl st) ?_);rw [hb1] at m0 ⊢;exact outF _ _ m0
 refine gifF (by simp;lia) ?_
 refine B61 (B97 ?_);refine B61 (B84 (B70
  (I:=fun x c st'=>gSE st st'/\∃ (na' nb':Nat) (out:Array Keyed) (mg:Nat),c=(none,na',nb',out,mg)/\gMR grDn (a.toList++b.toList) out.toList (a.toList.take na').reverse (b.toList.take nb').reverse/\(0<na'/\na'<=a.size)/\(1<nb'/\nb'<=b.size)/\na'+nb'+x+1<=a.size+b.size)
  (Q:=fun c st'=>gSE st st'/\∃ r rest,c=(some r,rest)/\gRes (a.toList++b.toList) r.toList) ?ostep ?ofin ⟨.refl st,_,_,_,_,rfl,m0,by lia,by lia,by lia⟩) ?opost)
 case opost=>
  rintro c st' ⟨se,r,rest,rfl,hr⟩;exact B62 (h r st' se hr)
 case ofin=>
  rintro c st' ⟨se,na',nb',out,mg,rfl,m,h1,h2,h3⟩
  lia
 case ostep=>
  rintro x c st1 _ hx ⟨se,na1,nb1,out,mg,rfl,m,h1,h2,h3⟩;dsimp only;refine B61 (B84 (B70
   (I:=fun y c st'=>gSE st st'/\∃ (na' nb':Nat) (out:Array Keyed) (ac bc:Nat),c=(none,na',nb',out,ac,bc)/\gMR grDn (a.toList++b.toList) out.toList (a.toList.take na').reverse (b.toList.take nb').reverse/\(0<na'/\na'<=a.size)/\(1<nb'/\nb'<=b.size)/\na'+nb'+y<=na1+nb1)
   (Q:=fun c st'=>gSE st st'/\((∃ r rest,c=(some r,rest)/\gRes (a.toList++b.toList) r.toList)\/∃ (na' nb':Nat) (out:Array Keyed) (ac bc:Nat),c=(none,na',nb',out,ac,bc)/\gMR grDn (a.toList++b.toList) out.toList (a.toList.take na').reverse (b.toList.take nb').reverse/\(0<na'/\na'<=a.size)/\(1<nb'/\nb'<=b.size)/\na'+nb'+1<=na1+nb1)) ?istep ?ifin ⟨se,na1,nb1,out,0,0,rfl,m,h1,h2,by lia⟩) ?ipost)
  case ifin=>
   rintro c st' ⟨se,na',nb',out,ac,bc,rfl,m,g1,g2,g3⟩
   lia
  case istep=>
   rintro y c st' _ hy ⟨se,na',nb',out,ac,bc,rfl,m,g1,g2,g3⟩;dsimp only;obtain ⟨yb,e1,e1',mb⟩:=qBO (a:=b) (i:=nb' - 1) (by lia)
   obtain ⟨xa,e2,e2',ma⟩:=qBO (a:=a) (i:=na' - 1) (by lia)
   have hk':kindOf st'=κ0:=se.1.trans hk;refine B61 (qB0 e1 (B61 (qB0 e2 (B61 (qGM hk' (kb _ mb) (ka _ ma) ?_)))));dsimp only;by_cases hw:gkv yb<gkv xa
   ·rw [decide_eq_true hw,if_pos rfl];refine B61 (qB0 e2 ?_);have m':=stepA m (by lia) e2' fun z hz=>by have:=most ub (by lia) e1' z hz;lia
    by_cases hae:na' - 1=0
    ·refine gifT (by simp [hae]) ?_
     refine B62 ⟨se,.inl ⟨_,_,rfl,?_⟩⟩;rw [hae] at m' ⊢;exact outA _ _ m'
    ·refine gifF (by simp;lia) ?_
     split
     ·exact B62 ⟨se,.inr ⟨_,_,_,_,_,rfl,m',by lia,by lia,by lia⟩⟩
     ·exact B62 ⟨se,_,_,_,_,_,rfl,m',by lia,by lia,by lia⟩
   ·rw [decide_eq_false hw,if_neg B5];refine B61 (qB0 e1 ?_);have m':=stepB m (by lia) e1' fun z hz=>by have:=most ua (by lia) e2' z hz;lia
    by_cases hbe:nb' - 1=1
    ·refine gifT (by simp [hbe]) ?_
     refine B62 ⟨se,.inl ⟨_,_,rfl,?_⟩⟩;rw [hbe] at m' ⊢;exact outF _ _ m'
    ·refine gifF (by simp;lia) ?_
     split
     ·exact B62 ⟨se,.inr ⟨_,_,_,_,_,rfl,m',by lia,by lia,by lia⟩⟩
     ·exact B62 ⟨se,_,_,_,_,_,rfl,m',by lia,by lia,by lia⟩
  case ipost=>
   rintro c st2 ⟨se,⟨r,rest,rfl,hr⟩ | ⟨na2,nb2,out,ac,bc,rfl,m,g1,g2,g3⟩⟩
   ·exact B62 ⟨se,r,_,rfl,hr⟩
   dsimp only;refine B61 (wpS_lift (B87 ⟨rfl,?_⟩));refine B61 (B84 (B70
    (I:=fun y c st'=>gSE st st'/\∃ (na' nb':Nat) (out:Array Keyed) (mg ac bc:Nat),c=(none,na',nb',out,mg,ac,bc)/\gMR grDn (a.toList++b.toList) out.toList (a.toList.take na').reverse (b.toList.take nb').reverse/\(0<na'/\na'<=a.size)/\(1<nb'/\nb'<=b.size)/\na'+nb'+y<=na2+nb2)
    (Q:=fun c st'=>gSE st st'/\((∃ r rest,c=(some r,rest)/\gRes (a.toList++b.toList) r.toList)\/∃ (na' nb':Nat) (out:Array Keyed) (mg ac bc:Nat),c=(none,na',nb',out,mg,ac,bc)/\gMR grDn (a.toList++b.toList) out.toList (a.toList.take na').reverse (b.toList.take nb').reverse/\(0<na'/\na'<=a.size)/\(1<nb'/\nb'<=b.size)/\na'+nb'<=na2+nb2)) ?gstep ?gfin ⟨se,na2,nb2,out,_,ac,bc,rfl,m,g1,g2,by lia⟩) ?gpost)
   case gfin=>
    rintro c st' ⟨se,na',nb',out,mg,ac,bc,rfl,m,q1,q2,q3⟩
    lia
   case gpost=>
    rintro c st3 ⟨se,⟨r,rest,rfl,hr⟩ | ⟨na',nb',out,mg,ac,bc,rfl,m,q1,q2,q3⟩⟩
    ·exact B62 ⟨se,r,_,rfl,hr⟩
    dsimp only;refine B61 (B77 (B62 ?_));exact ⟨⟨se.1,se.2.1,se.2.2.1,se.2.2.2⟩,na',nb',out,_,rfl,m,q1,q2,by lia⟩
   case gstep=>
    rintro y c st0 _ hy ⟨se,na',nb',out,mg,ac,bc,rfl,m,q1,q2,q3⟩;dsimp only;obtain ⟨yb,e1,e1',mb⟩:=qBO (a:=b) (i:=nb' - 1) (by lia)
    apply gtwo (α:=Nat) (M:=fun _=>True)
    ·intro J;by_cases hmg:mg > 1
     ·refine gifT hmg ?_;refine B61 (B77 ?_);generalize mg - 1=n;exact J n trivial
     ·refine gifF hmg ?_;refine B61 (B77 ?_);generalize mg=n;exact J n trivial
    ·intro n _;have se':gSE st st0:=se;refine B61 (qB0 e1 ?_);refine B61 (qF8 (left:=false) (base:=0) (n:=na') (hint:=na' - 1) (se.1.trans hk) (kb _ mb) ka (by lia) (by lia) (qE2 (by lia) ua) fun k k1 k2 k3=>?_)
     dsimp only;have le1:∀ x ∈ (a.toList.take k).reverse,gkv x<=gkv yb:=fun x hx=>qMT (base:=0) k1 (by lia) k2 x (by simpa using hx)
     apply gtwo (α:=Array Keyed) (M:=fun o=>gMR grDn (a.toList++b.toList) o.toList (a.toList.take k).reverse (b.toList.take nb').reverse/\0<k)
     ·intro J;by_cases k0:na' - k > 0
      ·refine gifT k0 ?_;have mk:gMR grDn (a.toList++b.toList) (out++(a.extract k na').reverse).toList (a.toList.take k).reverse (b.toList.take nb').reverse:=by
        rw [F9,V3,qAQ];rw [qJ6 (l:=a.toList) (i:=k) (j:=na') (by lia)] at m
        exact m.takeA fun x hx z hz=>by
         have q1:=qKB (base:=0) (n:=na') (by lia) k3 x (by rw [z9,B29];exact O1.mp hx)
         have q2:=most ub (by lia) e1' z hz
         show gkv z<=gkv x
         lia
       by_cases c1:k=0
       ·refine gifT (by simp [c1]) ?_
        refine B62 ⟨se',.inl ⟨_,_,rfl,?_⟩⟩;subst c1;exact outA _ _ mk
       refine gifF (by simp;exact c1) ?_
       generalize out++(a.extract k na').reverse=o at mk ⊢;exact J o ⟨mk,by lia⟩
      ·refine gifF k0 ?_;have k00:k=na':=by lia
       subst k00;exact J out ⟨m,by lia⟩
     ·rintro o ⟨mk,kp⟩;refine B61 (qB0 e1 ?_);have m1:=stepB mk (by lia) e1' le1
      by_cases hbe:nb' - 1=1
      ·refine gifT (by simp [hbe]) ?_
       refine B62 ⟨se',.inl ⟨_,_,rfl,?_⟩⟩;rw [hbe] at m1 ⊢;exact outF _ _ m1
      refine gifF (by simp;lia) ?_
      obtain ⟨xa,e2,e2',ma⟩:=qBO (a:=a) (i:=k - 1) (by lia)
      refine B61 (qB0 e2 ?_);refine B61 (qF8 (left:=true) (base:=0) (n:=nb' - 1) (hint:=nb' - 1 - 1) (se.1.trans hk) (ka _ ma) kb (by lia) (by lia) (qE2 (by lia) ub) fun k' j1 j2 j3=>?_)
      dsimp only;have lt2:∀ y ∈ (b.toList.take k').reverse,gkv y<=gkv xa:=fun y hy=>by
       have q:=qMS (base:=0) j1 (by lia) j2 y (by simpa using hy)
       lia
      generalize o.push yb=o1 at m1 ⊢;apply gtwo (α:=Array Keyed) (M:=fun o=>gMR grDn (a.toList++b.toList) o.toList (a.toList.take k).reverse (b.toList.take k').reverse/\1<k')
      ·intro J;by_cases k0':nb' - 1 - k' > 0
       ·rw [if_pos k0'];have m2:gMR grDn (a.toList++b.toList) (o1++(b.extract k' (nb' - 1)).reverse).toList (a.toList.take (k)).reverse (b.toList.take k').reverse:=by
         rw [F9,V3,qAQ];rw [qJ6 (l:=b.toList) (i:=k') (j:=nb' - 1) (by lia)] at m1
         exact m1.takeB fun x hx z hz=>by
          have q1:=qKC (base:=0) (n:=nb' - 1) (by lia) j3 x (by rw [z9,B29];exact O1.mp hx)
          have q2:=most ua (by lia) e2' z hz
          show gkv z<=gkv x
          lia
        by_cases hb1':k'=1
        ·refine gifT (by simp [hb1']) ?_
         refine B62 ⟨se',.inl ⟨_,_,rfl,?_⟩⟩;subst hb1';exact outF _ _ m2
        refine gifF (by simp;exact hb1') ?_
        by_cases hb0':k'=0
        ·refine gifT (by simp [hb0']) ?_
         refine B62 ⟨se',.inl ⟨_,_,rfl,?_⟩⟩;subst hb0';exact outB _ _ m2
        refine gifF (by simp;exact hb0') ?_
        generalize o1++(b.extract k' (nb' - 1)).reverse=o2 at m2 ⊢;exact J o2 ⟨m2,by lia⟩
       ·rw [if_neg k0'];have k0'':k'=nb' - 1:=by lia
        subst k0'';exact J o1 ⟨m1,by lia⟩
      ·rintro o2 ⟨m2,kp'⟩;refine B61 (qB0 e2 ?_);have m3:=stepA m2 (by lia) e2' lt2
       by_cases hae:k - 1=0
       ·refine gifT (by simp [hae]) ?_
        refine B62 ⟨se',.inl ⟨_,_,rfl,?_⟩⟩;rw [hae] at m3 ⊢;exact outA _ _ m3
       refine gifF (by simp;lia) ?_
       split
       ·exact B62 ⟨se',.inr ⟨_,_,_,_,_,_,rfl,m3,by lia,by lia,by lia⟩⟩
       ·exact B62 ⟨se',_,_,_,_,_,_,rfl,m3,by lia,by lia,by lia⟩
end
end L2.G
namespace L2.G
open PySem PyProof.Rows
variable [NM]
theorem qMR (b:Nat):∀ (r:List Keyed) (k:Nat) (xs:Array Keyed),b+k+r.length<=xs.size->((r.zipIdx k).foldl (fun a (p:Keyed × Nat)=>a.setIfInBounds (b+p.2) p.1) xs).toList=xs.toList.take (b+k)++r++xs.toList.drop (b+k+r.length)
 | [],k,xs,_=>by simp
 | p::r,k,xs,h=>by
  have hl:b+k<xs.toList.length:=by simp at h ⊢;lia
  rw [List.zipIdx_cons,W1,qMR b r (k+1) _ (by simp at h ⊢;lia)]
  simp only [w6,D8];have e1:(xs.toList.set (b+k) p).take (b+(k+1))=xs.toList.take (b+k)++[p]:=by
   rw [<- p9,C9,List.take_set_of_le (A9 _),i8 hl]
   rfl
  have e2:(xs.toList.set (b+k) p).drop (b+(k+1)+r.length)=xs.toList.drop (b+k+(r.length+1)):=by
   rw [List.drop_set_of_lt (by lia)]
   congr 1
   lia
  rw [e1,e2];simp
def gSeg (xs:Array Keyed) (lo hi:Nat):Prop:=∀ i j,lo<=i->i<=j->j<hi->gK xs i<=gK xs j
theorem qTH {xs:Array Keyed} {i:Nat} (h:i<xs.size):gK xs i=gkv (xs[i]'h):=qYY h
theorem qJ8 {xs:Array Keyed} {i:Nat} {x:Keyed} (h:xs[i]?=some x):gK xs i=gkv x:=by
 unfold gK;rw [h]
 rfl
theorem qGO {left:Bool} {key:Keyed} {arr:Array Keyed} {base i:Nat} (h:base+i<arr.size):qAM left key arr base i=if left=true then decide (gK arr (base+i)<gkv key) else decide (gK arr (base+i)<=gkv key):=by
 unfold qAM;rw [C8 h,qTH h]
theorem qHO {left:Bool} {key:Keyed} {arr:Array Keyed} {base n:Nat} (hn:base+n<=arr.size) (u:gSeg arr base (base+n)):∀ i j,i<=j->j<n->qAM left key arr base j=true->qAM left key arr base i=true:=by
 intro i j hij hj e;have le:=u (base+i) (base+j) (by lia) (by lia) (by lia)
 rw [qGO (by lia)] at e ⊢
 cases left with
 | true=>
  have:=of_decide_eq_true e;exact decide_eq_true (by lia)
 | false=>
  have:=of_decide_eq_true e;exact decide_eq_true (by lia)
theorem qMO {xs:Array Keyed} {lo hi:Nat} (h:hi<=xs.size) (u:gSeg xs lo hi):(xs.extract lo hi).toList.Pairwise grUp:=by
 rw [P0];intro i j hi' hj' hij;have e:(xs.extract lo hi).size=hi - lo:=by simp;lia
 have hi2:i<hi - lo:=by simp at hi';lia
 have hj2:j<hi - lo:=by simp at hj';lia
 have:=u (lo+i) (lo+j) (by lia) (by lia) (by lia)
 rw [qTH (by lia),qTH (by lia)] at this
 simpa using this
theorem qF9 {xs:Array Keyed} {lo hi:Nat} {x:Keyed} (m:x ∈ (xs.extract lo hi).toList):∃ j,lo<=j/\j<hi/\j<xs.size/\gK xs j=gkv x:=by
 obtain ⟨i,hi',e⟩:=T3 m;have h2:i<hi - lo/\i<xs.size - lo:=by simp at hi';lia
 refine ⟨lo+i,by lia,by lia,by lia,?_⟩
 rw [qTH (by lia),<- e]
 simp
theorem qTG {xs:Array Keyed} {lo hi i:Nat} {x:Keyed} (m:(xs.extract lo hi).toList[i]?=some x):gK xs (lo+i)=gkv x:=by
 obtain ⟨hi',e⟩:=A3.mp m;have h2:i<hi - lo/\i<xs.size - lo:=by simp at hi';lia
 rw [qTH (by lia),<- e]
 simp
theorem qbC {xs ys:Array Keyed} {b:Nat} {r:List Keyed} (e:ys.toList=xs.toList.take b++r++xs.toList.drop (b+r.length)) (hb:b+r.length<=xs.size) (j:Nat) :
  (j<b\/b+r.length<=j->gK ys j=gK xs j)/\(b<=j->j<b+r.length->∃ x,r[j - b]?=some x/\gK ys j=gkv x):=by
 have lt:(xs.toList.take b).length=b:=by simp;lia
 constructor
 ·intro hj;apply qFA;rw [<- F2,<- F2,e,I0];rcases hj with hj | hj
  ·rw [C5 (by lia),V8 hj]
  ·rw [C2 (by lia),lt,C2 (by lia),x9]
   congr 1
   lia
 ·intro h1 h2;refine ⟨r[j - b]'(by lia),A7 _,qJ8 ?_⟩
  rw [<- F2,e,I0,C2 (by lia),lt,C5 (by lia)]
  exact A7 _
section
variable {prog:B60} {w:World} {A:Around} {E:Value->Shared->Prop} {s:Shared} {κ0:B88} [LtOk prog w A s κ0]
theorem qVU {st st':SortSt} {Q:PUnit->SortSt->Prop} (h:Q ⟨⟩ st'):wpS (model prog w) A E s (set st':StateT SortSt Sem PUnit) Q st:=by
 unfold wpS;rw [StateT.run_set];exact B58 ⟨rfl,h⟩
structure gSG (κ0:B88) (a₀:Array Keyed) (st:SortSt):Prop where
 perm:(arrOf st).Perm a₀
 kind:kindOf st=κ0
 failed:failedOf st=none
theorem gSG.size {a₀:Array Keyed} {st:SortSt} (h:gSG κ0 a₀ st):(arrOf st).size=a₀.size:=h.perm.size_eq
theorem gSG.ik {a₀:Array Keyed} {st:SortSt} (h:gSG κ0 a₀ st) (h0:qBS a₀):∀ x ∈ (arrOf st).toList,gIK x:=fun x hx=>h0 x ((Z7.mp h.perm).mem_iff.mp hx)
theorem qVX {a₀:Array Keyed} {st:SortSt} {i sa na p nb q:Nat} {pre post:List (Nat × Nat × Nat)} {Q:Bool->SortSt->Prop} (h0:qBS a₀) (g:gSG κ0 a₀ st)
  (hp:(B64 st).toList=pre++(sa,na,p)::(sa+na,nb,q)::post) (hi:i=pre.length) (hna:0<na) (hnb:0<nb) (hsz:sa+na+nb<=a₀.size)
  (ua:gSeg (arrOf st) sa (sa+na)) (ub:gSeg (arrOf st) (sa+na) (sa+na+nb))
  (h:∀ st',gSG κ0 a₀ st'->(B64 st').toList=pre++(sa,na+nb,p)::post->gSeg (arrOf st') sa (sa+na+nb)->(∀ k,k<sa\/sa+na+nb<=k->gK (arrOf st') k=gK (arrOf st) k)->Q true st') :
  wpS (model prog w) A E s (mergeAt' i) Q st:=by
 have p1:(B64 st)[i]?=some (sa,na,p):=by
  rw [<- F2,hp,hi,C2 (A9 _),R0]
  rfl
 have p2:(B64 st)[i+1]?=some (sa+na,nb,q):=by
  rw [<- F2,hp,hi,C2 (by lia),show pre.length+1 - pre.length=1 by lia]
  rfl
 have p3:(((B64 st).setIfInBounds i (sa,na+nb,p)).eraseIdxIfInBounds (i+1)).toList=pre++(sa,na+nb,p)::post:=by
  rw [Array.toList_eraseIdxIfInBounds,w6,hp,hi];rw [List.set_append_right _ _ (A9 _),R0,List.eraseIdx_append_of_length_le (by lia),show pre.length+1 - pre.length=1 by lia]
  rfl
 have size:=g.size;have ik:=g.ik h0;unfold mergeAt';refine B61 (B97 ?_);dsimp only;rw [p1,p2];dsimp only;obtain ⟨kb,ekb,_,mkb⟩:=qBO (a:=arrOf st) (i:=sa+na) (by lia)
 have kkb:gK (arrOf st) (sa+na)=gkv kb:=qJ8 ekb;refine B61 (qVU (B61 (qB0 ekb ?_)));have g1:gSG κ0 a₀ (setPending st (((B64 st).setIfInBounds i (sa,na+nb,p)).eraseIdxIfInBounds (i+1))):=⟨g.perm,g.kind,g.failed⟩;show wpS _ _ _ _ (qW2 false kb (arrOf st) sa na 0 >>= _) _ _;refine B61 (qF8 g1.kind (ik kb mkb) ik (by lia) hna (qHO (by lia) ua) fun k hk h1 h2=>?_)
 have a1:∀ j,sa<=j->j<sa+k->gK (arrOf st) j<=gkv kb:=fun j hl hj=>by
  have e:=h1 (j - sa) (by lia)
  rw [qGO (by lia),show sa+(j - sa)=j by lia] at e
  exact of_decide_eq_true e
 have a2:∀ j,sa+k<=j->j<sa+na->gkv kb<gK (arrOf st) j:=fun j hl hj=>by
  have e:=h2 (j - sa) (by lia) (by lia)
  rw [qGO (by lia),show sa+(j - sa)=j by lia] at e
  have:=of_decide_eq_false e
  lia
 dsimp only;by_cases ek:na - k=0
 ·refine gifT (by simpa using ek) ?_
  refine B62 (h _ g1 p3 (fun i j hl hij hj=>?_) fun _ _=>rfl);show gK (arrOf st) i<=gK (arrOf st) j;by_cases c1:j<sa+na
  ·exact ua i j hl hij c1
  ·by_cases c2:i<sa+na
   ·have q1:=a1 i hl (by lia)
    have q2:=ub (sa+na) j (by lia) (by lia) hj
    lia
   ·exact ub i j (by lia) hij hj
 refine gifF (by simpa using ek) ?_
 rw [show sa+k+(na - k) - 1=sa+na - 1 by lia]
 obtain ⟨kz,ekz,_,mkz⟩:=qBO (a:=arrOf st) (i:=sa+na - 1) (by lia)
 have kkz:gK (arrOf st) (sa+na - 1)=gkv kz:=qJ8 ekz;refine B61 (qB0 ekz ?_);show wpS _ _ _ _ (qW2 true kz (arrOf st) (sa+na) nb (nb - 1) >>= _) _ _;refine B61 (qF8 g1.kind (ik kz mkz) ik (by lia) (by lia) (qHO (by lia) ub) fun m hm h3 h4=>?_)
 have b1:∀ j,sa+na<=j->j<sa+na+m->gK (arrOf st) j<gkv kz:=fun j hl hj=>by
  have e:=h3 (j - (sa+na)) (by lia)
  rw [qGO (by lia),show sa+na+(j - (sa+na))=j by lia] at e
  exact of_decide_eq_true e
 have b2:∀ j,sa+na+m<=j->j<sa+na+nb->gkv kz<=gK (arrOf st) j:=fun j hl hj=>by
  have e:=h4 (j - (sa+na)) (by lia) (by lia)
  rw [qGO (by lia),show sa+na+(j - (sa+na))=j by lia] at e
  have:=of_decide_eq_false e
  lia
 dsimp only;by_cases em:m=0
 ·refine gifT (by simpa using em) ?_
  refine B62 (h _ g1 p3 (fun i j hl hij hj=>?_) fun _ _=>rfl);show gK (arrOf st) i<=gK (arrOf st) j;by_cases c1:j<sa+na
  ·exact ua i j hl hij c1
  ·by_cases c2:i<sa+na
   ·have q1:=ua i (sa+na - 1) hl (by lia) (by lia)
    have q2:=b2 j (by lia) hj
    lia
   ·exact ub i j (by lia) hij hj
 refine gifF (by simpa using em) ?_
 have sx:((arrOf st).extract (sa+k) (sa+na)).size=na - k:=by simp;lia
 have sy:((arrOf st).extract (sa+na) (sa+na+m)).size=m:=by simp;lia
 have ux:=qMO (xs:=arrOf st) (lo:=sa+k) (hi:=sa+na) (by lia) fun i j hl hij hj=>ua i j (by lia) hij hj
 have uy:=qMO (xs:=arrOf st) (lo:=sa+na) (hi:=sa+na+m) (by lia) fun i j hl hij hj=>ub i j hl hij (by lia)
 have kx:∀ x ∈ ((arrOf st).extract (sa+k) (sa+na)).toList,gIK x:=fun x hx=>ik x (by rw [qAQ] at hx;exact L3 (R5 hx))
 have ky:∀ x ∈ ((arrOf st).extract (sa+na) (sa+na+m)).toList,gIK x:=fun x hx=>ik x (by rw [qAQ] at hx;exact L3 (R5 hx))
 have fst:∀ y,((arrOf st).extract (sa+na) (sa+na+m)).toList[0]?=some y->∀ x ∈ ((arrOf st).extract (sa+k) (sa+na)).toList,gkv y<=gkv x:=by
  intro y hy x hx;have e:=qTG hy;obtain ⟨j,j1,j2,_,ej⟩:=qF9 hx;have:=a2 j j1 j2;rw [m8] at e
  lia
 have lst:∀ z,((arrOf st).extract (sa+k) (sa+na)).toList[((arrOf st).extract (sa+k) (sa+na)).size - 1]?=some z->∀ y ∈ ((arrOf st).extract (sa+na) (sa+na+m)).toList,gkv y<=gkv z:=by
  intro z hz y hy;have e:=qTG hz;obtain ⟨j,j1,j2,_,ej⟩:=qF9 hy;have:=b1 j j1 j2;rw [sx,show sa+k+(na - k - 1)=sa+na - 1 by lia] at e
  lia
 have fin:∀ (r:Array Keyed) (st2:SortSt),gSE (setPending st (((B64 st).setIfInBounds i (sa,na+nb,p)).eraseIdxIfInBounds (i+1))) st2->gRes (((arrOf st).extract (sa+k) (sa+na)).toList++((arrOf st).extract (sa+na) (sa+na+m)).toList) r.toList->
   Q true (setArr st2 (r.toList.zipIdx.foldl (fun a (p:Keyed × Nat)=>a.setIfInBounds (sa+k+p.2) p.1) (arrOf st2))):=by
  rintro r st2 ⟨q1,q2,q3,q4⟩ ⟨rp,ru⟩;have q2':arrOf st2=arrOf st:=q2;have rl:r.toList.length=na - k+m:=by
   rw [rp.length_eq,A5,C3,C3,sx,sy]
  have e:=qMR (sa+k) r.toList 0 (arrOf st2) (by rw [q2',rl];lia)
  rw [m8,q2'] at e;have LK:=qbC e (by rw [rl];lia)
  have e0:(arrOf st).toList=(arrOf st).toList.take (sa+k)++(((arrOf st).extract (sa+k) (sa+na)).toList++((arrOf st).extract (sa+na) (sa+na+m)).toList)++(arrOf st).toList.drop (sa+k+r.toList.length):=by
   rw [qAQ,qAQ,rl,show sa+na - (sa+k)=na - k by lia,show sa+na+m - (sa+na)=m by lia]
   have t1:(arrOf st).toList.drop (sa+na)=((arrOf st).toList.drop (sa+k)).drop (na - k):=by rw [z8];congr 1;lia
   have t2:(arrOf st).toList.drop (sa+k)=((arrOf st).toList.drop (sa+k)).take (na - k+m)++(arrOf st).toList.drop (sa+k+(na - k+m)):=qG2;rw [t1,<- B44,I0,<- t2,Y8]
  have gp:(r.toList.zipIdx.foldl (fun a (p:Keyed × Nat)=>a.setIfInBounds (sa+k+p.2) p.1) (arrOf st)).Perm (arrOf st):=by
   rw [Z7,e]
   conv=>rhs;rw [e0]
   exact (m5 _ rp).append_right _
  have lowR:∀ x ∈ r.toList,∀ i,sa<=i->i<sa+k->gK (arrOf st) i<=gkv x:=by
   intro x hx i hl hi;rcases B7.mp (rp.mem_iff.mp hx) with hx | hx
   ·obtain ⟨j,j1,j2,_,ej⟩:=qF9 hx;rw [<- ej];exact ua i j hl (by lia) j2
   ·obtain ⟨j,j1,j2,_,ej⟩:=qF9 hx;have z1:=a1 i hl hi;have z2:=ub (sa+na) j (by lia) j1 (by lia)
    lia
  have highR:∀ x ∈ r.toList,∀ j,sa+na+m<=j->j<sa+na+nb->gkv x<=gK (arrOf st) j:=by
   intro x hx j hl hj;rcases B7.mp (rp.mem_iff.mp hx) with hx | hx
   ·obtain ⟨i,j1,j2,_,ej⟩:=qF9 hx;have z1:=ua i (sa+na - 1) (by lia) (by lia) (by lia)
    have z2:=b2 j hl hj
    lia
   ·obtain ⟨i,j1,j2,_,ej⟩:=qF9 hx;rw [<- ej];exact ub i j j1 (by lia) hj
  rw [q2'];refine h _ ⟨gp.trans g.perm,q1.trans g.kind,q4.trans g.failed⟩ ((congrArg B03 q3).trans p3) ?_ fun j hj=>(LK j).1 (by rw [rl];lia)
  intro i j hl hij hj;show gK (r.toList.zipIdx.foldl (fun a (p:Keyed × Nat)=>a.setIfInBounds (sa+k+p.2) p.1) (arrOf st)) i<=gK (r.toList.zipIdx.foldl (fun a (p:Keyed × Nat)=>a.setIfInBounds (sa+k+p.2) p.1) (arrOf st)) j;have K1:∀ j,j<sa+k\/sa+k+(na - k+m)<=j->gK (r.toList.zipIdx.foldl (fun a (p:Keyed × Nat)=>a.setIfInBounds (sa+k+p.2) p.1) (arrOf st)) j=gK (arrOf st) j:=fun j hj=>(LK j).1 (by rw [rl];exact hj)
  have K2:∀ j,sa+k<=j->j<sa+k+(na - k+m)->∃ x,r.toList[j - (sa+k)]?=some x/\gK (r.toList.zipIdx.foldl (fun a (p:Keyed × Nat)=>a.setIfInBounds (sa+k+p.2) p.1) (arrOf st)) j=gkv x:=fun j h1 h2=>(LK j).2 h1 (by rw [rl];exact h2)
  by_cases c1:i<sa+k
  ·rw [K1 i (.inl c1)];by_cases c2:j<sa+k
   ·rw [K1 j (.inl c2)];exact ua i j hl hij (by lia)
   ·by_cases c3:j<sa+k+(na - k+m)
    ·obtain ⟨x,ex,kx2⟩:=K2 j (by lia) c3
     rw [kx2];exact lowR x (B6 ex) i hl c1
    ·rw [K1 j (.inr (by lia))]
     have z1:=a1 i hl c1;have z2:=ub (sa+na) j (by lia) (by lia) hj
     lia
  ·by_cases c2:i<sa+k+(na - k+m)
   ·obtain ⟨x,ex,kx2⟩:=K2 i (by lia) c2
    rw [kx2];by_cases c3:j<sa+k+(na - k+m)
    ·obtain ⟨y,ey,ky2⟩:=K2 j (by lia) c3
     rw [ky2];by_cases c4:i=j
     ·rw [c4] at ex;rw [ex] at ey;cases ey;exact M6 _
     ·obtain ⟨x1,x2⟩:=A3.mp ex;obtain ⟨y1,y2⟩:=A3.mp ey;have:=P0.mp ru (i - (sa+k)) (j - (sa+k)) x1 y1 (by lia)
      rw [x2,y2] at this;exact this
    ·rw [K1 j (.inr (by lia))]
     exact highR x (B6 ex) j (by lia) hj
   ·rw [K1 i (.inr (by lia)),K1 j (.inr (by lia))]
    exact ub i j (by lia) hij hj
 by_cases c:na - k<=m
 ·refine gifT c ?_;show wpS _ _ _ _ (gmLo ((arrOf st).extract (sa+k) (sa+na)) ((arrOf st).extract (sa+na) (sa+na+m)) >>= _) _ _;refine B61 (qVV g1.kind kx ky ux uy (by rw [sx];lia) (by rw [sy];lia) fst lst fun r st2 se rs=>?_)
  refine B61 (B77 (B61 (B97 (B62 ?_))));have e:(failedOf st2).isNone=true:=by rw [se.2.2.2,g1.failed];rfl
  show Q (failedOf st2).isNone _;rw [e];exact fin r st2 se rs
 ·refine gifF c ?_;show wpS _ _ _ _ (gmHi ((arrOf st).extract (sa+k) (sa+na)) ((arrOf st).extract (sa+na) (sa+na+m)) >>= _) _ _;refine B61 (qVW g1.kind kx ky ux uy (by rw [sx];lia) (by rw [sy];lia) fst lst fun r st2 se rs=>?_)
  refine B61 (B77 (B61 (B97 (B62 ?_))));have e:(failedOf st2).isNone=true:=by rw [se.2.2.2,g1.failed];rfl
  show Q (failedOf st2).isNone _;rw [e];exact fin r st2 se rs
end
end L2.G
namespace L2.G
open PySem PyProof.Rows
variable [NM]
def gOut (xs ys:Array Keyed) (lo hi:Nat):Prop:=∀ k,k<lo\/hi<=k->gK ys k=gK xs k
theorem gOut.refl (xs:Array Keyed) (lo hi:Nat):gOut xs xs lo hi:=fun _ _=>rfl
theorem gOut.trans {xs ys zs:Array Keyed} {lo hi:Nat} (h1:gOut xs ys lo hi) (h2:gOut ys zs lo hi):gOut xs zs lo hi:=fun k hk=>(h2 k hk).trans (h1 k hk)
theorem gOut.wide {xs ys:Array Keyed} {lo hi lo' hi':Nat} (h:gOut xs ys lo hi) (a:lo'<=lo) (b:hi<=hi'):gOut xs ys lo' hi':=fun k hk=>h k (by lia)
theorem gSG.lay {κ0:B88} {a₀:Array Keyed} {st:SortSt} (g:gSG κ0 a₀ st) {ys:Array Keyed} (p:ys.Perm (arrOf st)):gSG κ0 a₀ (setArr st ys):=⟨p.trans g.perm,g.kind,g.failed⟩
theorem qO5 {xs:Array Keyed} {i j:Nat} (hj:j<=xs.size):gOut xs (mirror xs i j ((j - i) / 2)) i j:=fun k hk=>by rw [qGP hj,if_neg (by lia)]
section
variable {prog:B60} {w:World} {A:Around} {E:Value->Shared->Prop} {s:Shared} {κ0:B88} [LtOk prog w A s κ0] {a₀:Array Keyed}
theorem qGL {st:SortSt} {i j:Nat} {Q:Option Bool->SortSt->Prop} (h0:qBS a₀) (g:gSG κ0 a₀ st) (hi:i<a₀.size) (hj:j<a₀.size) (h:Q (some (decide (gK (arrOf st) i<gK (arrOf st) j))) st):wpS (model prog w) A E s (ltAt' i j) Q st:=by
 have hi2:i<(arrOf st).size:=by rw [g.size];exact hi
 have hj2:j<(arrOf st).size:=by rw [g.size];exact hj
 obtain ⟨x,ex,_,mx⟩:=qBO hi2;obtain ⟨y,ey,_,my⟩:=qBO hj2;rw [qJ8 ex,qJ8 ey] at h;rw [ltAt'_eq];refine B61 (B97 ?_);exact B61 (qB0 ex (B61 (qB0 ey (qGM g.kind (g.ik h0 x mx) (g.ik h0 y my) h))))
theorem qW0 {st:SortSt} {lo n ok:Nat} {Q:Bool->SortSt->Prop} (h0:qBS a₀) (g:gSG κ0 a₀ st) (hn:lo+n<=a₀.size) (hok:ok<=n) (u:gSeg (arrOf st) lo (lo+ok))
  (h:∀ st2,gSG κ0 a₀ st2->B64 st2=B64 st->gSeg (arrOf st2) lo (lo+n)->gOut (arrOf st) (arrOf st2) lo (lo+n)->Q true st2):wpS (model prog w) A E s (binarySort' lo n ok) Q st:=by
 rw [binarySort'_eq];refine B61 (B84 (B70 (I:=fun k c st2=>c=(none,())/\gSG κ0 a₀ st2/\B64 st2=B64 st/\gSeg (arrOf st2) lo (lo+min k n)/\gOut (arrOf st) (arrOf st2) lo (lo+n))
  (Q:=fun c st2=>c=(none,())/\gSG κ0 a₀ st2/\B64 st2=B64 st/\gSeg (arrOf st2) lo (lo+n)/\gOut (arrOf st) (arrOf st2) lo (lo+n)) ?step ?fin ?init) ?post)
 case post=>
  rintro c st2 ⟨rfl,g2,pe,u2,o2⟩;exact B62 (h st2 g2 pe u2 o2)
 case init=>
  refine ⟨rfl,g,rfl,fun i j hl hij hj=>?_,.refl _ _ _⟩;by_cases h1:ok=0
  ·rw [show i=j by lia]
   exact M6 _
  ·exact u i j hl hij (by lia)
 case fin=>
  rintro c st2 ⟨hc,g2,pe,u2,o2⟩;rw [show min (max (max ok 1) n) n=n by lia] at u2
  exact ⟨hc,g2,pe,u2,o2⟩
 case step=>
  rintro k c st2 hak hkn ⟨rfl,g2,pe,u2,o2⟩;rw [show min k n=k by lia] at u2
  have hk:lo+k<a₀.size:=by lia
  refine B61 (B84 (B70 (I:=fun x c st3=>st3=st2/\∃ l r,c=(none,l,r)/\l<=r/\r<=k/\r - l<=k - x/\
    (∀ i,lo<=i->i<lo+l->gK (arrOf st2) i<=gK (arrOf st2) (lo+k))/\(∀ i,lo+r<=i->i<lo+k->gK (arrOf st2) (lo+k)<gK (arrOf st2) i))
   (Q:=fun c st3=>st3=st2/\∃ l r,c=(none,l,r)/\l<=k/\
    (∀ i,lo<=i->i<lo+l->gK (arrOf st2) i<=gK (arrOf st2) (lo+k))/\(∀ i,lo+l<=i->i<lo+k->gK (arrOf st2) (lo+k)<gK (arrOf st2) i)) ?istep ?ifin ?iinit) ?ipost)
  case iinit=>exact ⟨rfl,0,k,rfl,by lia,by lia,by lia,fun i _ hi=>by lia,fun i h1 h2=>by lia⟩
  case ifin=>
   rintro c st3 ⟨rfl,l,r,rfl,hlr,hrk,hm,ha,hb⟩;have e:l=r:=by lia
   rw [<- e] at hb hrk;exact ⟨rfl,l,r,rfl,hrk,ha,hb⟩
  case istep=>
   rintro x c st3 _ hxk ⟨rfl,l,r,rfl,hlr,hrk,hm,ha,hb⟩;dsimp only;by_cases hge:l >= r
   ·refine gifT hge ?_;have e:l=r:=by lia
    rw [<- e] at hb hrk;exact B62 ⟨rfl,l,r,rfl,hrk,ha,hb⟩
   ·refine gifF hge ?_;refine B61 (qGL h0 g2 hk (by lia) ?_)
    by_cases less:gK (arrOf st3) (lo+k)<gK (arrOf st3) (lo+(l+r) / 2)
    ·rw [decide_eq_true less];dsimp only;refine gifT rfl ?_;refine B62 ⟨rfl,l,(l+r) / 2,rfl,by lia,by lia,by lia,ha,fun i h1 h2=>?_⟩
     have:=u2 (lo+(l+r) / 2) i (by lia) h1 h2
     lia
    ·rw [decide_eq_false less];dsimp only;rw [if_neg B5];refine B62 ⟨rfl,(l+r) / 2+1,r,rfl,by lia,by lia,by lia,fun i h3 h1=>?_,hb⟩
     have:=u2 i (lo+(l+r) / 2) h3 (by lia) (by lia)
     lia
  case ipost=>
   rintro c st3 ⟨rfl,l,r,rfl,hlk,ha,hb⟩;have hks:lo+k<(arrOf st3).size:=by rw [g2.size];exact hk
   show wpS _ _ _ _ (moveDown' (lo+k) (lo+l) >>= fun _=>pure (O9 (none,()))) _ _;rw [moveDown'_eq];refine B61 (B77 (B62 ⟨rfl,g2.lay (bubble_perm _ _ _),pe,?_,o2.trans ?_⟩))
   ·rw [show min (k+1) n=k+1 by lia]
    intro i j hl hij hj;show gK (bubble (arrOf st3) (lo+k) (lo+k - (lo+l))) i<=gK (bubble (arrOf st3) (lo+k) (lo+k - (lo+l))) j;rw [qJ9 hks (by lia),qJ9 hks (by lia),show lo+k - (lo+k - (lo+l))=lo+l by lia]
    repeat' split
    all_goals first
     | (exfalso;lia)
     | exact M6 _
     | exact ha _ (by lia) (by lia)
     | exact A46 (hb _ (by lia) (by lia))
     | exact u2 _ _ (by lia) (by lia) (by lia)
   ·intro i hi;show gK (bubble (arrOf st3) (lo+k) (lo+k - (lo+l))) i=gK (arrOf st3) i;rw [qJ9 hks (by lia),if_neg (by lia),if_neg (by lia)]
abbrev gCUp:=Option (Option Nat) × Nat
abbrev gCDn:=Option (Option Nat) × Nat × Nat
def gupL (lo a m:Nat):gSM gCUp:=
 forIn [a:m] ((none,a):gCUp) fun _ c=>do
  let t <- ltAt' (lo+c.snd) (lo+c.snd - 1)
  match t with
  | some less=>if less=true then pure (l8 (none,c.snd)) else pure (O9 (none,c.snd+1))
  | _=>pure (l8 (some none,c.snd))
def qTE (lo n m:Nat):gSM (Option Nat):=do
 reverseSlice' lo (lo+n)
 let c <- gupL lo n m
 match c.fst with
 | some r=>pure r
 | none=>pure (some c.snd)
def gdnL (lo n m:Nat):gSM gCDn:=
 forIn [n:m] ((none,n,0):gCDn) fun _ c=>do
  let t <- ltAt' (lo+c.snd.fst) (lo+c.snd.fst - 1)
  match t with
  | some less=>
   if less=true then
    if c.snd.snd > 0 then do
     reverseSlice' (lo+c.snd.fst - (c.snd.snd+1)) (lo+c.snd.fst)
     pure (O9 (none,c.snd.fst+1,0))
    else pure (O9 (none,c.snd.fst+1,0))
   else do
    let t <- ltAt' (lo+c.snd.fst - 1) (lo+c.snd.fst)
    match t with
    | some more=>
     if more=true then pure (l8 (none,c.snd.fst,c.snd.snd))
     else pure (O9 (none,c.snd.fst+1,c.snd.snd+1))
    | _=>pure (l8 (some none,c.snd.fst,c.snd.snd))
  | _=>pure (l8 (some none,c.snd.fst,c.snd.snd))
def gdnP (lo n m:Nat):gSM (Option Nat):=do
 liftM (rule "list.sort.descending-run")
 let c <- gdnL lo (n+1) m
 match c.fst with
 | some r=>pure r
 | none=>
  if c.snd.snd > 0 then do
   reverseSlice' (lo+c.snd.fst - (c.snd.snd+1)) (lo+c.snd.fst)
   qTE lo c.snd.fst m
  else qTE lo c.snd.fst m
theorem qB7 {α β:Type} {x y:gSM α} {f g:α->gSM β} (h:x=y) (k:∀ a,f a=g a):(x >>= f)=(y >>= g):=by rw [h,show f=g from funext k]
theorem qTF (lo m:Nat):countRun' lo m=(do
  let c <- gupL lo 1 m
  match c.fst with
  | some r=>pure r
  | none=>
   if (c.snd == m)=true then pure (some c.snd)
   else if c.snd > 1 then do
    let t <- ltAt' lo (lo+c.snd - 1)
    match t with
    | some rose=>if rose=true then pure (some c.snd) else do
      reverseSlice' lo (lo+c.snd)
      gdnP lo c.snd m
    | _=>pure none
   else gdnP lo c.snd m):=by
 rw [countRun'_eq];unfold gdnP qTE gdnL gupL;refine qB7 rfl fun c=>?_;obtain ⟨r,n⟩:=c;cases r with
 | some r=>rfl
 | none=>
  have last:∀ c3:gCUp,(match c3.fst with | some r=>pure r | none=>pure (some c3.snd):gSM (Option Nat))=(match c3.fst with | some r=>pure r | none=>pure (some c3.snd)):=fun _=>rfl
  dsimp only
  split
  ·rfl
  ·split
   ·refine qB7 rfl fun x=>?_;cases x with
    | none=>rfl
    | some rose=>
     dsimp only
     split
     ·rfl
     ·refine qB7 rfl fun _=>qB7 rfl fun _=>qB7 rfl fun c2=>?_;obtain ⟨r2,n2,q2⟩:=c2;cases r2 with
      | some r2=>rfl
      | none=>
       dsimp only
       split
       ·refine qB7 rfl fun _=>qB7 rfl fun _=>qB7 rfl fun c3=>?_;obtain ⟨r3,n3⟩:=c3;cases r3 <;> rfl
       ·refine qB7 rfl fun _=>qB7 rfl fun c3=>?_;obtain ⟨r3,n3⟩:=c3;cases r3 <;> rfl
   ·refine qB7 rfl fun _=>qB7 rfl fun c2=>?_;obtain ⟨r2,n2,q2⟩:=c2;cases r2 with
    | some r2=>rfl
    | none=>
     dsimp only
     split
     ·refine qB7 rfl fun _=>qB7 rfl fun _=>qB7 rfl fun c3=>?_;obtain ⟨r3,n3⟩:=c3;cases r3 <;> rfl
     ·refine qB7 rfl fun _=>qB7 rfl fun c3=>?_;obtain ⟨r3,n3⟩:=c3;cases r3 <;> rfl
def gFal (xs:Array Keyed) (lo hi:Nat):Prop:=∀ i j,lo<=i->i<=j->j<hi->gK xs j<=gK xs i
theorem qPU {st:SortSt} {lo a m:Nat} {Q:gCUp->SortSt->Prop} (h0:qBS a₀) (g:gSG κ0 a₀ st) (hm:lo+m<=a₀.size) (ha:1<=a) (han:a<=m) (u:gSeg (arrOf st) lo (lo+a))
  (h:∀ n,a<=n->n<=m->gSeg (arrOf st) lo (lo+n)->(n=m\/gK (arrOf st) (lo+n)<gK (arrOf st) (lo+n - 1))->Q (none,n) st):wpS (model prog w) A E s (gupL lo a m) Q st:=by
 unfold gupL;refine B70 (I:=fun x c st2=>st2=st/\c=(none,x)/\gSeg (arrOf st) lo (lo+x)) ?step ?fin ⟨rfl,rfl,u⟩
 case fin=>
  rintro c st2 ⟨rfl,rfl,u2⟩;rw [show max a m=m by lia] at u2 ⊢
  exact h m han (A9 _) u2 (.inl rfl)
 case step=>
  rintro x c st2 hax hxn ⟨rfl,rfl,u2⟩;dsimp only;refine B61 (qGL h0 g (by lia) (by lia) ?_)
  by_cases less:gK (arrOf st2) (lo+x)<gK (arrOf st2) (lo+x - 1)
  ·rw [decide_eq_true less];dsimp only;refine gifT rfl ?_;exact B62 (h x hax (by lia) u2 (.inr less))
  ·rw [decide_eq_false less];dsimp only;rw [if_neg B5];refine B62 ⟨rfl,rfl,fun i j hl hij hj=>?_⟩;by_cases hjx:j<lo+x
   ·exact u2 i j hl hij hjx
   ·have ej:j=lo+x:=by lia
    rw [ej];by_cases ei:i=lo+x
    ·rw [ei];exact M6 _
    ·have:=u2 i (lo+x - 1) hl (by lia) (by lia)
     lia
theorem qMN {st:SortSt} {lo n m:Nat} {Q:Option Nat->SortSt->Prop} (h0:qBS a₀) (g:gSG κ0 a₀ st) (hm:lo+m<=a₀.size) (h1:1<=n) (hnm:n<=m) (u:gFal (arrOf st) lo (lo+n))
  (h:∀ k st2,gSG κ0 a₀ st2->B64 st2=B64 st->1<=k->k<=m->gSeg (arrOf st2) lo (lo+k)->gOut (arrOf st) (arrOf st2) lo (lo+m)->Q (some k) st2):wpS (model prog w) A E s (qTE lo n m) Q st:=by
 unfold qTE;have hsz:lo+n<=(arrOf st).size:=by rw [g.size];lia
 rw [C20];refine B61 (B77 ?_);have g2:gSG κ0 a₀ (setArr st (mirror (arrOf st) lo (lo+n) ((lo+n - lo) / 2))):=g.lay (mirror_perm _ _ _ _);refine B61 (qPU h0 g2 hm h1 hnm ?_ fun k hk1 hk2 uk _=>B62 (h k _ g2 rfl (by lia) hk2 uk ((qO5 hsz).wide (A9 _) (by lia))))
 intro i j hl hij hj;show gK (mirror (arrOf st) lo (lo+n) ((lo+n - lo) / 2)) i<=gK (mirror (arrOf st) lo (lo+n) ((lo+n - lo) / 2)) j;rw [qGP hsz,qGP hsz,if_pos (by lia),if_pos (by lia)]
 exact u _ _ (by lia) (by lia) (by lia)
theorem qVY {st:SortSt} {lo n m:Nat} {Q:gCDn->SortSt->Prop} (h0:qBS a₀) (g:gSG κ0 a₀ st) (hm:lo+m<=a₀.size) (h1:1<=n) (hnm:n<=m) (u:gFal (arrOf st) lo (lo+n))
  (h:∀ k e st2,gSG κ0 a₀ st2->B64 st2=B64 st->n<=k->k<=m->gFal (arrOf st2) lo (lo+k)->e+1<=k->(∀ i,lo+k - (e+1)<=i->i<lo+k->gK (arrOf st2) i=gK (arrOf st2) (lo+k - 1))->gOut (arrOf st) (arrOf st2) lo (lo+m)->Q (none,k,e) st2) :
  wpS (model prog w) A E s (gdnL lo n m) Q st:=by
 unfold gdnL;refine B70 (I:=fun x c st2=>∃ e,c=(none,x,e)/\gSG κ0 a₀ st2/\B64 st2=B64 st/\gFal (arrOf st2) lo (lo+x)/\e+1<=x/\
   (∀ i,lo+x - (e+1)<=i->i<lo+x->gK (arrOf st2) i=gK (arrOf st2) (lo+x - 1))/\gOut (arrOf st) (arrOf st2) lo (lo+m)) ?step ?fin ⟨0,rfl,g,rfl,u,by lia,fun i h1 h2=>by congr 1;lia,.refl _ _ _⟩
 case fin=>
  rintro c st2 ⟨e,rfl,g2,pe,u2,hq,he,o2⟩;rw [show max n m=m by lia] at u2 hq he ⊢
  exact h m e st2 g2 pe hnm (A9 _) u2 hq he o2
 case step=>
  rintro x c st2 hax hxn ⟨e,rfl,g2,pe,u2,hq,he,o2⟩;dsimp only;have hsz:lo+x<=(arrOf st2).size:=by rw [g2.size];lia
  refine B61 (qGL h0 g2 (by lia) (by lia) ?_)
  by_cases less:gK (arrOf st2) (lo+x)<gK (arrOf st2) (lo+x - 1)
  ·rw [decide_eq_true less];dsimp only;refine gifT rfl ?_;have more:∀ ys:Array Keyed,(∀ k,gK ys k=gK (arrOf st2) k)->gFal ys lo (lo+(x+1)):=by
    intro ys hk i j hl hij hj;rw [hk,hk];by_cases hjx:j<lo+x
    ·exact u2 i j hl hij hjx
    ·have ej:j=lo+x:=by lia
     rw [ej];by_cases ei:i=lo+x
     ·rw [ei];exact M6 _
     ·have:=u2 i (lo+x - 1) hl (by lia) (by lia)
      lia
   by_cases hpos:e > 0
   ·rw [if_pos hpos,C20];refine B61 (B77 (B62 ⟨0,rfl,g2.lay (mirror_perm _ _ _ _),pe,more _ (qAX hsz he),by lia,fun i h1 h2=>by congr 1;lia,o2.trans ?_⟩))
    exact fun k _=>qAX hsz he k
   ·refine gifF hpos ?_;exact B62 ⟨0,rfl,g2,pe,more _ (fun _=>rfl),by lia,fun i h1 h2=>by congr 1;lia,o2⟩
  ·rw [decide_eq_false less];dsimp only;rw [if_neg B5];refine B61 (qGL h0 g2 (by lia) (by lia) ?_)
   by_cases big:gK (arrOf st2) (lo+x - 1)<gK (arrOf st2) (lo+x)
   ·rw [decide_eq_true big];dsimp only;refine gifT rfl ?_;exact B62 (h x e st2 g2 pe hax (by lia) u2 hq he o2)
   ·rw [decide_eq_false big];dsimp only;rw [if_neg B5];have ex:gK (arrOf st2) (lo+x)=gK (arrOf st2) (lo+x - 1):=by lia
    refine B62 ⟨e+1,rfl,g2,pe,fun i j hl hij hj=>?_,by lia,fun i h1 h2=>?_,o2⟩
    ·by_cases hjx:j<lo+x
     ·exact u2 i j hl hij hjx
     ·have ej:j=lo+x:=by lia
      rw [ej];by_cases ei:i=lo+x
      ·rw [ei];exact M6 _
      ·rw [ex];exact u2 i (lo+x - 1) hl (by lia) (by lia)
    ·rw [show lo+(x+1) - 1=lo+x by lia]
     by_cases ei:i=lo+x
     ·rw [ei]
     ·rw [ex];exact he i (by lia) (by lia)
theorem qPV {st:SortSt} {lo n m:Nat} {Q:Option Nat->SortSt->Prop} (h0:qBS a₀) (g:gSG κ0 a₀ st) (hm:lo+m<=a₀.size) (hnm:n+1<=m) (u:gFal (arrOf st) lo (lo+(n+1)))
  (h:∀ k st2,gSG κ0 a₀ st2->B64 st2=B64 st->1<=k->k<=m->gSeg (arrOf st2) lo (lo+k)->gOut (arrOf st) (arrOf st2) lo (lo+m)->Q (some k) st2):wpS (model prog w) A E s (gdnP lo n m) Q st:=by
 unfold gdnP;refine B61 (wpS_lift (B87 ⟨rfl,?_⟩));refine B61 (qVY h0 g hm (by lia) hnm u fun k e st2 g2 pe hk1 hk2 u2 hq he o2=>?_)
 dsimp only;have hsz:lo+k<=(arrOf st2).size:=by rw [g2.size];lia
 by_cases hpos:e > 0
 ·rw [if_pos hpos,C20];refine B61 (B77 (qMN h0 (g2.lay (mirror_perm _ _ _ _)) hm (by lia) hk2 ?_ fun k2 st3 g3 pe3 a1 a2 u3 o3=>h k2 st3 g3 (pe3.trans pe) a1 a2 u3 ?_))
  ·intro i j hl hij hj;show gK (mirror (arrOf st2) _ _ _) j<=gK (mirror (arrOf st2) _ _ _) i;rw [qAX hsz he,qAX hsz he];exact u2 i j hl hij hj
  ·exact o2.trans (gOut.trans (fun k _=>qAX hsz he k) o3)
 ·refine gifF hpos ?_;exact qMN h0 g2 hm (by lia) hk2 u2 fun k2 st3 g3 pe3 a1 a2 u3 o3=>h k2 st3 g3 (pe3.trans pe) a1 a2 u3 (o2.trans o3)
theorem qVZ {st:SortSt} {lo m:Nat} {Q:Option Nat->SortSt->Prop} (h0:qBS a₀) (g:gSG κ0 a₀ st) (hm:lo+m<=a₀.size) (h1:1<=m)
  (h:∀ k st2,gSG κ0 a₀ st2->B64 st2=B64 st->1<=k->k<=m->gSeg (arrOf st2) lo (lo+k)->gOut (arrOf st) (arrOf st2) lo (lo+m)->Q (some k) st2):wpS (model prog w) A E s (countRun' lo m) Q st:=by
 rw [qTF];refine B61 (qPU h0 g hm (A9 1) h1 (fun i j hl hij hj=>by rw [show i=j by lia];exact M6 _) fun n hn1 hn2 un or=>?_)
 dsimp only;by_cases e:n=m
 ·refine gifT (by simpa using e) ?_
  exact B62 (h n st g rfl hn1 hn2 un (.refl _ _ _))
 ·refine gifF (by simpa using e) ?_
  have hlt:gK (arrOf st) (lo+n)<gK (arrOf st) (lo+n - 1):=or.resolve_left e;by_cases hgt:n > 1
  ·refine gifT hgt ?_;refine B61 (qGL h0 g (by lia) (by lia) ?_)
   by_cases rose:gK (arrOf st) lo<gK (arrOf st) (lo+n - 1)
   ·rw [decide_eq_true rose];dsimp only;refine gifT rfl ?_;exact B62 (h n st g rfl hn1 hn2 un (.refl _ _ _))
   ·rw [decide_eq_false rose];dsimp only;rw [if_neg B5,C20];have hsz:lo+n<=(arrOf st).size:=by rw [g.size];lia
    have same:∀ k,lo<=k->k<lo+n->gK (arrOf st) k=gK (arrOf st) (lo+n - 1):=by
     intro k hl hk;have a1:=un lo k (by lia) hl hk
     have a2:=un k (lo+n - 1) hl (by lia) (by lia)
     lia
    refine B61 (B77 (qPV h0 (g.lay (mirror_perm _ _ _ _)) hm (by lia) ?_ fun k st2 g2 pe a1 a2 u2 o2=>h k st2 g2 pe a1 a2 u2 (gOut.trans (fun k _=>qAX hsz same k) o2)))
    intro i j hl hij hj;show gK (mirror (arrOf st) _ _ _) j<=gK (mirror (arrOf st) _ _ _) i;rw [qAX hsz same,qAX hsz same];by_cases hjn:j<lo+n
    ·rw [same i hl (by lia),same j (by lia) hjn]
     exact M6 _
    ·have ej:j=lo+n:=by lia
     rw [ej];by_cases ei:i=lo+n
     ·rw [ei];exact M6 _
     ·rw [same i hl (by lia)]
      exact A46 hlt
  ·refine gifF hgt ?_;have e1:n=1:=by lia
   rw [e1] at hlt;rw [e1];refine qPV h0 g hm (by lia) ?_ h
   intro i j hl hij hj;by_cases ei:i=j
   ·rw [ei];exact M6 _
   ·have ei:i=lo:=by lia
    have ej:j=lo+1:=by lia
    rw [ei,ej];exact A46 hlt
end
end L2.G
namespace L2.G
open PySem PyProof.Rows
variable [NM]
def qCJ (xs:Array Keyed):List (Nat × Nat × Nat)->Nat->Nat->Prop
 | [],a,b=>a=b
 | r::rs,a,b=>r.1=a/\0<r.2.1/\gSeg xs a (a+r.2.1)/\qCJ xs rs (a+r.2.1) b
theorem qIE {xs:Array Keyed}:∀ {l:List (Nat × Nat × Nat)} {a b:Nat},qCJ xs l a b->a+l.length<=b
 | [],a,b,h=>by
  have:a=b:=h;simp
  lia
 | r::rs,a,b,h=>by
  have:=qIE h.2.2.2;have:=h.2.1;simp
  lia
theorem gruns_app {xs:Array Keyed}:∀ {l m:List (Nat × Nat × Nat)} {a b:Nat},qCJ xs (l++m) a b ↔ ∃ c,qCJ xs l a c/\qCJ xs m c b
 | [],m,a,b=>⟨fun h=>⟨a,rfl,h⟩,fun ⟨c,e,h⟩=>by cases (show a=c from e);exact h⟩
 | r::rs,m,a,b=>by
  constructor
  ·rintro ⟨h1,h2,h3,h4⟩;obtain ⟨c,q1,q2⟩:=gruns_app.mp h4;exact ⟨c,⟨h1,h2,h3,q1⟩,q2⟩
  ·rintro ⟨c,⟨h1,h2,h3,q1⟩,q2⟩;exact ⟨h1,h2,h3,gruns_app.mpr ⟨c,q1,q2⟩⟩
theorem qJ7 {xs ys:Array Keyed}:∀ {l:List (Nat × Nat × Nat)} {a b:Nat},(∀ k,a<=k->k<b->gK ys k=gK xs k)->qCJ xs l a b->qCJ ys l a b
 | [],a,b,_,h=>h
 | r::rs,a,b,e,h=>by
  have le:=qIE h.2.2.2;refine ⟨h.1,h.2.1,fun i j hl hij hj=>?_,qJ7 (fun k h1 h2=>e k (by lia) h2) h.2.2.2⟩
  rw [e i hl (by lia),e j (by lia) (by lia)]
  exact h.2.2.1 i j hl hij hj
theorem qTD {α:Type}:∀ {l:List α} {i:Nat},i+1<l.length->∃ pre x y post,l=pre++x::y::post/\pre.length=i
 | [],_,h=>by simp at h
 | [x],_,h=>by simp at h
 | x::y::r,0,_=>⟨[],x,y,r,rfl,rfl⟩
 | x::y::r,i+1,h=>by
  obtain ⟨pre,a,b,post,e,el⟩:=qTD (l:=y::r) (i:=i) (by simp at h ⊢;lia)
  exact ⟨x::pre,a,b,post,by rw [e];rfl,by simp [el]⟩
section
variable {prog:B60} {w:World} {A:Around} {E:Value->Shared->Prop} {s:Shared} {κ0:B88} [LtOk prog w A s κ0] {a₀:Array Keyed}
theorem qHA {st:SortSt} {i b:Nat} {Q:Bool->SortSt->Prop} (h0:qBS a₀) (g:gSG κ0 a₀ st) (r:qCJ (arrOf st) (B64 st).toList 0 b) (hb:b<=a₀.size) (hi:i+1<(B64 st).size)
  (h:∀ st2,gSG κ0 a₀ st2->qCJ (arrOf st2) (B64 st2).toList 0 b->(B64 st2).size+1=(B64 st).size->(∀ k,b<=k->gK (arrOf st2) k=gK (arrOf st) k)->Q true st2):wpS (model prog w) A E s (mergeAt' i) Q st:=by
 obtain ⟨pre,⟨sa,na,p⟩,⟨sb,nb,q⟩,post,e,el⟩:=qTD (l:=(B64 st).toList) (i:=i) (by simpa using hi)
 rw [e] at r;obtain ⟨c,r1,r2⟩:=gruns_app.mp r;obtain ⟨x1,x2,x3,y1,y2,y3,r4⟩:=r2;dsimp only at x1 x2 x3 y1 y2 y3 r4;subst x1;subst y1;have le:=qIE r4;refine qVX h0 g e el.symm x2 y2 (by lia) x3 y3 fun st2 g2 pe u o=>h st2 g2 ?_ ?_ fun k hk=>o k (.inr (by lia))
 ·rw [pe];refine gruns_app.mpr ⟨sa,qJ7 (fun k _ hk=>o k (.inl hk)) r1,rfl,by show 0<na+nb;lia,?_,?_⟩
  ·show gSeg _ sa (sa+(na+nb));rw [<- p9];exact u
  ·show qCJ _ post (sa+(na+nb)) b;rw [<- p9];exact qJ7 (fun k hk _=>o k (.inr hk)) r4
 ·have l1:=congrArg A18 pe;have l2:=congrArg A18 e;simp at l1 l2
  lia
theorem qMQ (f:Nat × Nat × Nat->Nat × Nat × Nat) (y:Nat × Nat × Nat):∀ l:List (Nat × Nat × Nat),(l++[y]).modify l.length f=l++[f y]
 | []=>rfl
 | z::l=>by
  show z::(l++[y]).modify l.length f=z::(l++[f y]);rw [qMQ f y l]
theorem qMP {xs:Array Keyed} {p:Array (Nat × Nat × Nat)} {b pw:Nat} {f:Nat × Nat × Nat->Nat × Nat × Nat} (hf:∀ y,(f y).1=y.1/\(f y).2.1=y.2.1) (r:qCJ xs p.toList 0 b):qCJ xs (p.modify (p.size - 1) f).toList 0 b:=by
 rw [Array.toList_modify,<- C3];generalize p.toList=l at r;rcases U3 l with e | ⟨l',y,e⟩
 ·rw [e] at r ⊢;exact r
 ·rw [e] at r ⊢;rw [U4] at r ⊢;obtain ⟨c,q1,q2⟩:=gruns_app.mp r;rw [A5,B3,d8,qMQ];refine gruns_app.mpr ⟨c,q1,?_⟩;obtain ⟨z1,z2,z3,z4⟩:=q2;have h1:=(hf y).1;have h2:=(hf y).2;refine ⟨h1.trans z1,by rw [h2];exact z2,by rw [h2];exact z3,by rw [h2];exact z4⟩
theorem gwpS_runs {st:SortSt} {Q:Unit->SortSt->Prop} (h0:qBS a₀) (g:gSG κ0 a₀ st) (hp:B64 st=#[]) (h:∀ st2,gSG κ0 a₀ st2->gSortedTo (arrOf st2) a₀.size->Q () st2):wpS (model prog w) A E s sortRuns' Q st:=by
 rw [sortRuns'_eq];refine B61 (B97 ?_);dsimp only;rw [g.size];refine B61 (B84 (B70
  (I:=fun x c st2=>∃ lo,c=(none,lo)/\x<=lo/\lo<=a₀.size/\gSG κ0 a₀ st2/\qCJ (arrOf st2) (B64 st2).toList 0 lo)
  (Q:=fun c st2=>c.1=none/\gSG κ0 a₀ st2/\qCJ (arrOf st2) (B64 st2).toList 0 a₀.size) ?step ?fin ⟨0,rfl,A9 _,F8 _,g,by rw [hp];rfl⟩) ?post)
 case fin=>
  rintro c st2 ⟨lo,rfl,h1,h2,g2,r2⟩;have e:lo=a₀.size:=by lia
  rw [e] at r2;exact ⟨rfl,g2,r2⟩
 case post=>
  rintro ⟨c,lo⟩ st2 ⟨e,g2,r2⟩;cases (show c=none from e);dsimp only;have le:=qIE r2;refine B61 (B84 (B70 (I:=fun x c st3=>c=(none,())/\gSG κ0 a₀ st3/\qCJ (arrOf st3) (B64 st3).toList 0 a₀.size/\(B64 st3).size+x<=a₀.size)
   (Q:=fun c st3=>c=(none,())/\gSG κ0 a₀ st3/\qCJ (arrOf st3) (B64 st3).toList 0 a₀.size/\(B64 st3).size<=1) ?_ ?_ ⟨rfl,g2,r2,by simpa using le⟩) ?_)
  ·rintro x c st3 _ _ ⟨rfl,g3,r3,le3⟩;refine B61 (B97 ?_);by_cases c1:(B64 st3).size<=1
   ·rw [if_pos c1];exact B62 ⟨rfl,g3,r3,c1⟩
   ·rw [if_neg c1];refine B61 (qHA h0 g3 r3 (A9 _) ?_ fun st4 g4 r4 l4 _=>?_)
    ·repeat' split
     all_goals lia
    ·rw [if_neg (by simp)]
     exact B62 ⟨rfl,g4,r4,by lia⟩
  ·rintro c st3 ⟨e,g3,r3,le3⟩;exact ⟨e,g3,r3,by lia⟩
  ·rintro c st3 ⟨rfl,g3,r3,le3⟩;refine B62 (h st3 g3 ?_);have l3:(B64 st3).toList.length<=1:=by simpa using le3
   generalize (B64 st3).toList=l at r3 l3
   match l,r3,l3 with
   | [],r3,_=>
    have e:0=a₀.size:=r3;intro i j _ hj
    lia
   | [r],r3,_=>
    have e:0+r.2.1=a₀.size:=r3.2.2.2;intro i j hij hj;exact r3.2.2.1 i j (F8 _) hij (by lia)
   | _::_::_,_,l3=>simp at l3
 case step=>
  rintro x c st2 _ hx ⟨lo,rfl,hxl,hlo,g2,r2⟩;dsimp only;by_cases c1:lo >= a₀.size
  ·rw [if_pos c1];have e:lo=a₀.size:=by lia
   rw [e] at r2;exact B62 ⟨rfl,g2,r2⟩
  rw [if_neg c1];refine B61 (qVZ h0 g2 (by lia) (by lia) fun k st3 g3 pe3 k1 k2 u3 o3=>?_)
  have r3:qCJ (arrOf st3) (B64 st3).toList 0 lo:=by
   rw [pe3];exact qJ7 (fun j _ hj=>o3 j (.inl hj)) r2
  dsimp only;have tail:∀ (st5:SortSt) (n:Nat),gSG κ0 a₀ st5->1<=n->lo+n<=a₀.size->gSeg (arrOf st5) lo (lo+n)->qCJ (arrOf st5) (B64 st5).toList 0 lo->
    gSG κ0 a₀ (setPending st5 ((B64 st5).push (lo,n,0)))/\qCJ (arrOf st5) ((B64 st5).push (lo,n,0)).toList 0 (lo+n):=by
   intro st5 n g5 h1 h2 u5 r5;refine ⟨⟨g5.perm,g5.kind,g5.failed⟩,?_⟩;rw [W6];exact gruns_app.mpr ⟨lo,r5,rfl,h1,u5,rfl⟩
  by_cases c2:k<minRun' a₀.size a₀.size 0
  ·rw [if_pos c2];refine B61 (wpS_lift (B87 ⟨rfl,?_⟩));refine B61 (qW0 h0 g3 (by lia) (by lia) u3 fun st4 g4 pe4 u4 o4=>?_)
   have r4:qCJ (arrOf st4) (B64 st4).toList 0 lo:=by
    rw [pe4];exact qJ7 (fun j _ hj=>o4 j (.inl hj)) r3
   rw [if_neg (by simp)]
   refine B61 (B97 ?_);cases eb:(B64 st4).back? with
   | none=>
    dsimp only;refine B61 (B77 (B62 ?_));obtain ⟨g9,r9⟩:=tail st4 (min (a₀.size - lo) (minRun' a₀.size a₀.size 0)) g4 (by lia) (by lia) u4 r4
    exact ⟨_,rfl,by lia,by lia,g9,r9⟩
   | some t=>
    obtain ⟨s1,n1,q1⟩:=t;dsimp only;refine B61 (B84 (B70 (I:=fun _ c st6=>c=(none,())/\gSG κ0 a₀ st6/\qCJ (arrOf st6) (B64 st6).toList 0 lo/\gSeg (arrOf st6) lo (lo+(min (a₀.size - lo) (minRun' a₀.size a₀.size 0))))
     (Q:=fun c st6=>c=(none,())/\gSG κ0 a₀ st6/\qCJ (arrOf st6) (B64 st6).toList 0 lo/\gSeg (arrOf st6) lo (lo+(min (a₀.size - lo) (minRun' a₀.size a₀.size 0)))) ?_ (fun _ _ q=>q) ⟨rfl,g4,r4,u4⟩) ?_)
    ·rintro x c st6 _ _ ⟨rfl,g6,r6,u6⟩;refine B61 (B97 ?_);by_cases c7:(B64 st6).size > 1
     ·rw [if_pos c7];cases ep:(B64 st6)[(B64 st6).size - 2]? with
      | none=>
       dsimp only;exact B62 ⟨rfl,g6,r6,u6⟩
      | some t=>
       obtain ⟨s2,n2,old⟩:=t;dsimp only
       split
       ·exact B62 ⟨rfl,g6,r6,u6⟩
       ·refine B61 (qHA h0 g6 r6 (by lia) (by lia) fun st7 g7 r7 _ o7=>?_)
        rw [if_neg (by simp)]
        refine B62 ⟨rfl,g7,r7,fun i j hl hij hj=>?_⟩;rw [o7 i hl,o7 j (by lia)]
        exact u6 i j hl hij hj
     ·rw [if_neg c7];exact B62 ⟨rfl,g6,r6,u6⟩
    ·rintro c st6 ⟨rfl,g6,r6,u6⟩;dsimp only;refine B61 (B77 (B61 (B77 (B62 ?_))));obtain ⟨g9,r9⟩:=tail (setPending st6 ((B64 st6).modify ((B64 st6).size - 1) fun x=>(x.fst,x.2.fst,power' a₀.size (2 * s1+n1) (2 * s1+n1+n1+(min (a₀.size - lo) (minRun' a₀.size a₀.size 0))) a₀.size))) (min (a₀.size - lo) (minRun' a₀.size a₀.size 0)) ⟨g6.perm,g6.kind,g6.failed⟩ (by lia) (by lia) u6 (qMP (pw:=0) (fun _=>⟨rfl,rfl⟩) r6)
     exact ⟨_,rfl,by lia,by lia,g9,r9⟩
  ·rw [if_neg c2];refine B61 (B97 ?_);cases eb:(B64 st3).back? with
   | none=>
    dsimp only;refine B61 (B77 (B62 ?_));obtain ⟨g9,r9⟩:=tail st3 k g3 (by lia) (by lia) u3 r3
    exact ⟨_,rfl,by lia,by lia,g9,r9⟩
   | some t=>
    obtain ⟨s1,n1,q1⟩:=t;dsimp only;refine B61 (B84 (B70 (I:=fun _ c st6=>c=(none,())/\gSG κ0 a₀ st6/\qCJ (arrOf st6) (B64 st6).toList 0 lo/\gSeg (arrOf st6) lo (lo+k))
     (Q:=fun c st6=>c=(none,())/\gSG κ0 a₀ st6/\qCJ (arrOf st6) (B64 st6).toList 0 lo/\gSeg (arrOf st6) lo (lo+k)) ?_ (fun _ _ q=>q) ⟨rfl,g3,r3,u3⟩) ?_)
    ·rintro x c st6 _ _ ⟨rfl,g6,r6,u6⟩;refine B61 (B97 ?_);by_cases c7:(B64 st6).size > 1
     ·rw [if_pos c7];cases ep:(B64 st6)[(B64 st6).size - 2]? with
      | none=>
       dsimp only;exact B62 ⟨rfl,g6,r6,u6⟩
      | some t=>
       obtain ⟨s2,n2,old⟩:=t;dsimp only
       split
       ·exact B62 ⟨rfl,g6,r6,u6⟩
       ·refine B61 (qHA h0 g6 r6 (by lia) (by lia) fun st7 g7 r7 _ o7=>?_)
        rw [if_neg (by simp)]
        refine B62 ⟨rfl,g7,r7,fun i j hl hij hj=>?_⟩;rw [o7 i hl,o7 j (by lia)]
        exact u6 i j hl hij hj
     ·rw [if_neg c7];exact B62 ⟨rfl,g6,r6,u6⟩
    ·rintro c st6 ⟨rfl,g6,r6,u6⟩;dsimp only;refine B61 (B77 (B61 (B77 (B62 ?_))));obtain ⟨g9,r9⟩:=tail (setPending st6 ((B64 st6).modify ((B64 st6).size - 1) fun x=>(x.fst,x.2.fst,power' a₀.size (2 * s1+n1) (2 * s1+n1+n1+k) a₀.size))) k ⟨g6.perm,g6.kind,g6.failed⟩ (by lia) (by lia) u6 (qMP (pw:=0) (fun _=>⟨rfl,rfl⟩) r6)
     exact ⟨_,rfl,by lia,by lia,g9,r9⟩
end
end L2.G
namespace L2
open PySem PySem.Spec PyProof.Rows
section
variable {prog:B60} {w:World} {A:Around} {E:Value->Shared->Prop} {s:Shared}
theorem qS3 {a:Addr} {vs:List Value} {ns:List Int} {n:Nat} {P:Fin->Shared->Prop} (e0:s.heap.get? a=some (seqObj "list" vs.toArray n)) (ia:B72 vs ns) (hz:vs.length<=B59)
  (h:∀ (out:Array Value) (zs:List Int),B72 out.toList zs->zs.Perm ns->zs.Pairwise (·<=·)->P (.done (.ret .none)) { s with heap:=sortedHeap s.heap a vs out }):wpAny (model prog w) A (Builtin.«list.sort» ⟨[.ref a],[]⟩) P E s:=by
 have la:=C1 e0;have z0:vs.toArray.size<=B59:=by simpa using hz
 rw [list_sort_plain];refine B57 (listItems_at e0 rfl (B57 (C05 e0 rfl ?_ z0 (F8 _))));have e1:∃ k,(s.heap.update a (R7 fun _=>#[])).get? a=some (seqObj "list" #[] k):=⟨_,get?_update_seq e0 fun _=>#[]⟩;obtain ⟨k,e1⟩:=e1;refine B57 (C16 e1 rfl (B57 (C12 ?_ (by simpa using hz))))
 refine B57 (wpAny_newList (B76 ?_));have e2:(((s.heap.update a (R7 fun _=>#[])).push (seqObj "tuple" vs.toArray 0)).push (seqObj "list" #[] 0)).get? a=some (seqObj "list" #[] k):=by
  rw [k7,k7]
  ·exact e1
  ·rw [o8];exact E3 la
  ·rw [size_push',o8];exact E3 (P7 la)
 have last:∀ xs:Array Keyed,xs.Perm (B80 vs)->SortedTo xs (B80 vs).size->P (.done (.ret .none)) { s with heap:=sortedHeap s.heap a vs (xs.map (·.2)) }:=by
  intro xs px sx;obtain ⟨zs,q1,q2,q3⟩:=sorted_out ia px sx;exact h _ zs q1 q2 q3
 have sz:∀ xs:Array Keyed,xs.Perm (B80 vs)->(xs.map (·.2)).size<=B59+1:=by
  intro xs px;rw [A00,px.size_eq,pairsOf_size]
  lia
 show wpAny _ A _ P E { s with heap:=((s.heap.update a (R7 fun _=>#[])).push (seqObj "tuple" vs.toArray 0)).push (seqObj "list" #[] 0) };dsimp only;by_cases few:vs.toArray.size<2
 ·simp only [if_pos few];refine B57 (B58 ?_);rw [B20];refine B57 (B58 (B57 (C16 e2 rfl (B57 (C05 e2 rfl ?_ (F8 _) (sz (B80 vs) (.refl _)))))));simp only [bne_self_eq_false,M4,if_false];refine B58 (last (B80 vs) (.refl _) fun i j hij hj=>?_);rw [pairsOf_size] at hj;rw [B4] at few;rw [show i=j by lia]
  exact M6 _
 ·simp only [if_neg few];have kk:keyKind' vs.toArray=pure oneType':=by
   match vs,few,ia with
   | [],few,_=>exact absurd (by simp) few
   | [_],few,_=>exact absurd (by simp) few
   | _::_::_,_,ia=>exact keyKind_ints ia
  rw [kk]
  letI:G.NM:=⟨numOf,fun v=>∃ n t,v=.int n t⟩
  haveI:G.LtOk prog w A { s with heap:=((s.heap.update a (R7 fun _=>#[])).push (seqObj "tuple" vs.toArray 0)).push (seqObj "list" #[] 0) } oneType':=⟨fun {x y Q E} hx hy h=>by
   obtain ⟨n,t,rfl⟩:=hx;obtain ⟨m,u,rfl⟩:=hy;rw [keyLt'_oneType];exact oneLt_int h⟩
  refine B57 (B58 (B57 (B71 (G.gwpS_runs (κ0:=oneType') (a₀:=B80 vs) (Q:=fun _ st2=>G.gSG oneType' (B80 vs) st2/\G.gSortedTo (arrOf st2) (B80 vs).size) ia.intKeys ⟨.refl _,rfl,rfl⟩ rfl fun st2 g u=>⟨g,u⟩) ?_ fun _ _ x=>x)));rintro ⟨_,st2⟩ s2 ⟨es,g,u⟩;cases (show s2=_ from es);refine B57 (C16 e2 rfl (B57 (C05 e2 rfl ?_ (F8 _) (sz _ g.perm))));dsimp only;rw [g.failed];simp only [bne_self_eq_false,M4,if_false];exact B58 (last _ g.perm u)
end
section
variable {X:Cx}
theorem qS2 {Ab:List (Addr × Obj)} {s:Shared} {σ:St} {H:Hp} {Q:VK} {A:Around} {E:Value->Shared->Prop} {ns:List Int} {D:Addr} (I:Inv X Ab σ (Ag H D (.lst (ns.map V.int))) s)
  (q:∀ zs:List Int,zs.Perm ns->zs.Pairwise (·<=·)->Q (.ref D) (Ag H D (.lst (zs.map V.int)))) :
  wpAny (model X.prog X.w) A (call (.builtin "list.sort") [.ref D]) (fun _ s'=>EP X Ab σ Q (.ref D) s') E s:=by
 obtain ⟨z,its,n,rv,hl,e⟩:=I.lstM qA1;have ia:=qE1 rv;have hlen:=rv.length;refine B74 slot_list_sort ⟨_,e,rfl⟩ entry_list_sort (qS3 (ns:=ns) (n:=n) e ia (by rw [<- hlen];exact z) fun out zs a1 a2 a3=>⟨_,rfl,?_⟩) (args_list_sort _)
 obtain ⟨e2,hat⟩:=sortedHeap_at (vs:=its) (out:=out) e;refine ⟨.ref D,Ag H D (.lst (zs.map V.int)),?_,rfl,q zs a2 a3⟩;have hu:Ag (Ag H D (.lst (ns.map V.int))) D (.lst (zs.map V.int))=Ag H D (.lst (zs.map V.int)):=qH2;rw [<- hu];refine I.write (x:=D) (e:=D) (t':=s.toks) (by rw [qA1];exact trivial) (.inl rfl) (fun b u hb hbu=>?_) ⟨_,hat⟩ ?_
 ·rw [sortedHeap_old hb (C1 hbu)];exact hbu
 ·refine ⟨?_,out.toList,e2,qEN a1,by simpa using hat⟩
  rw [A0,a2.length_eq,<- A0 (f:=V.int)];exact z
theorem qT9:∀ {vs:List Value} {ns:List Int},vs.length=ns.length->(∀ (i:Nat) (v:Value),vs[i]?=some v->∃ n t,ns[i]?=some n/\v=.int n t)->B72 vs ns
 | [],[],_,_=>.nil
 | [],_::_,h,_=>by simp at h
 | _::_,[],h,_=>by simp at h
 | v::vs,n::ns,h,f=>by
  obtain ⟨m,t,e1,e2⟩:=f 0 v rfl;cases (show n=m from J3 e1);rw [e2];exact .cons _ _ (qT9 (by simpa using h) fun i u hu=>by simpa using f (i+1) u (by simpa using hu))
theorem qYR {κ:Type}:∀ {Af:List (κ × V)} {vs:List (κ × Value)},KV Af vs->Af.map (·.1)=vs.map (·.1):=by
 intro Af vs r;unfold KV at r
 induction r with
 | nil=>rfl
 | cons h t ih=>rw [E8,E8,ih,h.1]
theorem qMC (hu:X.A.units<cLine):OpR X (B75 .NotEq) (fun x y H Q=>∃ p l xs,x=.ref p/\y=.ref l/\SqL X.K H p xs/\SqL X.K H l []/\Q (.bl (!xs.isEmpty)) H):=by
 intro Ab s σ H x y v u Q I rx ry h;obtain ⟨p,l,xs,rfl,rfl,h1,h2,q⟩:=h;cases rx;cases ry;obtain ⟨its,r1,p1,z1⟩:=I.list h1;obtain ⟨its2,r2,p2,z2⟩:=I.list h2;cases r2;cases r1 with
 | nil=>exact B36 (e:=fun _=>true) p1.isList p2.isList rfl hu (fun j h _=>absurd h (by simp)) _ _ _ _ ⟨.bl false,H,I,rfl,q⟩
 | cons a r=>exact A90 p1.isList p2.isList (by simp) hu _ _ _ _ ⟨.bl true,H,I,rfl,q⟩
end
open PySem.AutoSeq1 in
theorem qQX (l:Addr) (items:Array Value) (n:Nat) (b:Addr) (items2:Array Value) (n2:Nat) (dd:Option Addr) (sl:Array (Option Value)) (hs0:¬(!items.isEmpty && P6 (items.size+items2.size))=true) (hs1:items.size<=B59) (hs2:items.size+items2.size<=B59+1) :
  Meets (Builtin.«list.extend» ⟨[.ref l,.ref b],[]⟩) (fun _ R s=>s.heap.get? l=some { cls:=.type "list",data:=.seq items n }/\s.heap.get? b=some ⟨.type "tuple",dd,.seq items2 n2,sl⟩/\R (.ok (.ret V5)) { s with heap:=s.heap.update l (R7 fun x=>x++items2),toks:=s.toks }):=
 .of_wp fun prog w A R s h=>by
  obtain ⟨hp,g,d,tk,os⟩:=s;obtain ⟨hl,hb,h⟩:=h;have f1:=idx_int;have f2:=A06;have f3:=AutoSeq1.sub_list_list;have f4:=AutoSeq1.sub_tuple_list;have f5:=AutoSeq1.sub_list_tuple;have hz':(items++items2).size<=B59+1:=by rw [Array.size_append];exact hs2
  wp_walk using (C25 hl rfl (hz:=hs1) (_hz':=hz')),C23 hl,C23 hb
  exact ⟨_,rfl,h⟩
section
variable {X:Cx}
def qV3 (K:PySem.W.Frag):V->List V->Hp->VK->Prop:=fun x vs H Q=>∃ l b xs zs,x=.ref l/\vs=[.ref b]/\H l=some (.lst xs)/\SqT K H b zs/\xs.length+zs.length<=B59/\Q .non (Ag H l (.lst (xs++zs)))
theorem qK6:MtM X "list.extend" (qV3 X.K):=by
 intro Ab s σ H x vs v us Q I rx rv h;obtain ⟨l,b,xs,zs,rfl,rfl,hH,hB,hz,q⟩:=h;cases rx;obtain ⟨u,rfl,ru⟩:=rv.one;cases ru;obtain ⟨z,its,n,r,hl,e⟩:=I.lstM hH;obtain ⟨its2,r2,p2,z2⟩:=I.tuple hB;have hl2:=r2.length;obtain ⟨⟨cls,dd,data,sl⟩,ho,hc,n2,hd⟩:=id p2;simp only at hc hd;subst hc hd;have hsz:its.toArray.size+its2.toArray.size<=B59:=by rw [B4,B4];lia
 have hlong:¬ (!its.toArray.isEmpty && P6 (its.toArray.size+its2.toArray.size))=true:=by
  rw [qKZ hsz,U9];exact B5
 refine B95 A84 ⟨_,e,rfl⟩ A67 (A55 _ _)
  (qQX l its.toArray n b its2.toArray n2 dd sl hlong (by rw [B4];lia) (by lia)) ⟨e,ho,?_⟩
 refine ⟨.non,_,I.lset (its':=its++its2) hH e (by simp) (r.append r2) ?_,rfl,q⟩
 rw [A5]
 lia
end
def topI (b:Int) (l:List Int):Int:=l.foldl (fun b x=>if x > b then x else b) b
theorem qRU:∀ (l:List Int) (b:Int),b<=topI b l/\(∀ x ∈ l,x<=topI b l)/\(topI b l=b\/topI b l ∈ l)
 | [],b=>⟨M6 _,(fun _ z=>nomatch z),.inl rfl⟩
 | y::l,b=>by
  obtain ⟨h1,h2,h3⟩:=qRU l (if y > b then y else b)
  have e:topI b (y::l)=topI (if y > b then y else b) l:=rfl
  rw [e];have hb:b<=(if y > b then y else b)/\y<=(if y > b then y else b):=by split <;> omega
  refine ⟨by omega,fun x hx=>?_,?_⟩
  ·rcases B8.mp hx with hx | hx
   ·omega
   ·exact h2 x hx
  ·rcases h3 with h3 | h3
   ·split at h3
    ·rw [if_pos (by assumption)]
     exact .inr (by rw [h3];exact A8)
    ·rw [if_neg (by assumption)]
     exact .inl h3
   ·exact .inr (B0 _ h3)
section
variable {prog:B60} {w:World} {A:Around} {R:Result->Shared->Prop} {I:Addr} {fp wr:List Addr} {n:Nat} {P:Nat->Value->Prop} {St:Nat->Heap->Prop}
theorem qYG (W:Walks prog w A.in1 I fp wr n P St) (kw:List (Str × Value)) (ns:List Int) (hn:ns.length=n) (hval:∀ i v,P i v->∃ t,v=.int (ns.getD i 0) t) (S:Addr) (hSf:S ∉ fp) :
  ∀ (k j:Nat) (s:Shared) (b:Int) (t:Tok) (c:Nat),n - j=k->j<=n->St j s.heap->s.heap.get? S=some { cls:=.type "list",dict:=none,data:=.seq #[.int b t,.int b t] c,slots:=#[] }->
  (∀ t' h' tk,(∀ x o,x ∉ wr->x ≠ S->s.heap.get? x=some o->h'.get? x=some o)->R (.ok (.ret (.int (topI b (ns.drop j)) t'))) { s with heap:=h',toks:=tk })->
  B96 (model prog w) A (.builtin "max.loop" ⟨[.ref I,.none,.ref S],kw⟩) R s:=by
 have hSw:S ∉ wr:=fun h=>hSf (W.sub _ h);have hname:(toString "max" ++ toString ".loop" : String) = "max.loop":=by decide
 intro k
 induction k with
 | zero=>
  intro j s b t c hk hj st hS hR;have e:j=n:=by omega
  refine B81 A31 ?_;rw [N9 T8 _];show wpAny _ A.in1 (seqItems? (.ref S) >>= _) _ _ s;refine B57 (B79 hS rfl ?_);show wpAny _ A.in1 (tryCatch (pyNext (.ref I)) _ >>= _) _ _ s;refine B57 (C13 (W.done s _ _ (e ▸ st) fun h' tk hk'=>?_));show wpAny _ A.in1 (updateSeq S (fun _=>#[]) >>= _) _ _ _;refine B57 (C25 (hk' S _ hSw hS) rfl (B57 (C08 (B58 ?_))));rw [List.drop_of_length_le (by omega)] at hR
  exact hR t _ tk fun x o hx hxS ex=>(J5 _ _ (L8 hxS)).trans (hk' x o hx ex)
 | succ k ih=>
  intro j s b t c hk hj st hS hR;have hlt:j<n:=by omega
  refine B81 A31 ?_;rw [N9 T8 _];show wpAny _ A.in1 (seqItems? (.ref S) >>= _) _ _ s;refine B57 (B79 hS rfl ?_);show wpAny _ A.in1 (tryCatch (pyNext (.ref I)) _ >>= _) _ _ s;refine B57 (C13 (W.item j s _ _ hlt st fun v h' tk hP st' hk'=>?_));have hS':=hk' S _ hSw hS;obtain ⟨u,rfl⟩:=hval j v hP;have ed:ns.drop j=ns.getD j 0::ns.drop (j+1):=by
   have hj':j<ns.length:=by omega
   rw [b7 hj',L4,A7 hj']
   rfl
  rw [ed] at hR;generalize ns.getD j 0=y at hR hP ⊢;show wpAny _ A.in1 (tryCatch (holding [U1 y u,U1 y u] (richCompare .Gt (.int y u) (.int b t) >>= _)) _ >>= _) _ _ _;refine B57 (C13 (B76 (B57 (richCompare_gives (op:=.Gt) (typeIs_int _ _ u) (typeIs_int _ _ t) F.slot_int_gt F.entry_int_gt (F.args_int_gt_2 _ _) (gives_int_gt _ _ u t) (fun x=>nomatch x) ?_))));refine B57 (B76 (B78 (B57 (C08 (B58 ?_)))));by_cases hb:y > b
  ·rw [decide_eq_true hb,if_pos rfl];have et:topI b (y::ns.drop (j+1))=topI y (ns.drop (j+1)):=by show topI (if y > b then y else b) _=_;rw [if_pos hb]
   rw [et] at hR;refine B57 (C25 hS' rfl (B57 (C08 ?_)));rw [hname];refine B58 ⟨B93 T8 _,ih (j+1) _ y u _ (by omega) hlt (W.frame _ _ _ st' fun x hx o ex=>?_) (P4 _ hS' rfl) fun t' h2 tk2 hk2=>?_⟩
   ·exact (J5 _ _ (fun z:S=x=>hSf (by rw [z];exact hx))).trans ex
   ·exact hR t' h2 tk2 fun x o hx hxS ex=>hk2 x o hx hxS ((J5 _ _ (L8 hxS)).trans (hk' x o hx ex))
  ·rw [decide_eq_false hb,if_neg B5];have et:topI b (y::ns.drop (j+1))=topI b (ns.drop (j+1)):=by show topI (if y > b then y else b) _=_;rw [if_neg hb]
   rw [et] at hR;refine B57 (C08 ?_);rw [hname];exact B58 ⟨B93 T8 _,ih (j+1) _ b t c (by omega) hlt st' hS' fun t' h2 tk2 hk2=>hR t' h2 tk2 fun x o hx hxS ex=>hk2 x o hx hxS (hk' x o hx ex)⟩
theorem qSU (W:Walks prog w A.in1 I fp wr n P St) (kw:List (Str × Value)) (ns:List Int) (hn:ns.length=n) (hval:∀ i v,P i v->∃ t,v=.int (ns.getD i 0) t) (S:Addr) (hSf:S ∉ fp) {s:Shared} {c:Nat} (st:St 0 s.heap)
  (hS:s.heap.get? S=some { cls:=.type "list",dict:=none,data:=.seq #[] c,slots:=#[] })
  (h1:∀ y r,ns=y::r->∀ t' h' tk,(∀ x o,x ∉ wr->x ≠ S->s.heap.get? x=some o->h'.get? x=some o)->R (.ok (.ret (.int (topI y r) t'))) { s with heap:=h',toks:=tk })
  (h2:ns=[]->∃ nm dv,kw=[(nm,dv)]/\∀ h' tk,(∀ x o,x ∉ wr->x ≠ S->s.heap.get? x=some o->h'.get? x=some o)->R (.ok (.ret dv)) { s with heap:=h',toks:=tk }) :
  B96 (model prog w) A (.builtin "max.loop" ⟨[.ref I,.none,.ref S],kw⟩) R s:=by
 have hSw:S ∉ wr:=fun h=>hSf (W.sub _ h);have hname:(toString "max" ++ toString ".loop" : String) = "max.loop":=by decide
 refine B81 A31 ?_;rw [N9 T8 _];show wpAny _ A.in1 (seqItems? (.ref S) >>= _) _ _ s;refine B57 (B79 hS rfl ?_);show wpAny _ A.in1 (tryCatch (pyNext (.ref I)) _ >>= _) _ _ s;cases ns with
 | nil=>
  obtain ⟨nm,dv,rfl,h3⟩:=h2 rfl;refine B57 (C13 (W.done s _ _ (hn ▸ st) fun h' tk hk'=>?_));show wpAny _ A.in1 (rule _ >>= fun _=>ret dv) _ _ _;exact B57 (B87 (B58 (h3 _ tk fun x o hx _ ex=>hk' x o hx ex)))
 | cons y r=>
  refine B57 (C13 (W.item 0 s _ _ (by rw [<- hn];simp) st fun v h' tk hP st' hk'=>?_))
  have hS':=hk' S _ hSw hS;obtain ⟨u,rfl⟩:=hval 0 v hP;show wpAny _ A.in1 (updateSeq S (fun _=>#[U1 y u,U1 y u]) >>= _) _ _ _;refine B57 (C25 hS' rfl ?_);rw [hname];refine B58 ⟨B93 T8 _,qYG W kw (y::r) hn hval S hSf _ 1 _ y u _ rfl (by rw [<- hn];simp) (W.frame _ _ _ st' fun x hx o ex=>?_) (P4 _ hS' rfl) fun t' h2 tk2 hk2=>?_⟩
  ·exact (J5 _ _ (fun z:S=x=>hSf (by rw [z];exact hx))).trans ex
  ·exact h1 y r rfl t' h2 tk2 fun x o hx hxS ex=>hk2 x o hx hxS ((J5 _ _ (L8 hxS)).trans (hk' x o hx ex))
end
section
variable {prog:B60} {w:World} {A:Around} {E:Value->Shared->Prop} {s:Shared}
theorem qN1 {id:String} {b:Builtin} {args:List Value} {kw:List (Str × Value)} {Q:Value->Shared->Prop} (hk:builtinKind id=none) (hp:plainId id=true) (hb:entryFor table id=some b) (ha:argsOk id ⟨args,kw⟩)
  (hc:wpAny (model prog w) A.in1 (b ⟨args,kw⟩) (fun fin s'=>∃ c',fin=.again c'/\c'.quiet=true/\B96 (model prog w) A c' (fun r s'=>∃ v,r=.ok (.ret v)/\Q v s') s') E s):wpAny (model prog w) A (call (.builtin id) args kw) Q E s:=by
 refine wpAny_call (codeAny_call_builtin hp hb ?_);have h2:=B71 hc (Q':=fun fin s'=>match fin with
   | .done f=>(match (Except.ok f:Result) with | .ok (.ret v)=>Q v s' | .ok _=>False | .error e=>E e s')
   | .again c'=>c'.quiet=true/\B96 (model prog w) A c' (fun r s'=>match r with | .ok (.ret v)=>Q v s' | .ok _=>False | .error e=>E e s') s')
  (fun fin s' ⟨c',e,h1,h2⟩=>by subst e;exact ⟨h1,C00 h2 fun r s' ⟨v,e,q⟩=>by subst e;exact q⟩) fun _ _ h'=>h'
 simp only [checkBuiltinCall,hk];cases sg:Manifest.signature? id with
 | none=>exact B58 h2
 | some sig=>
  have ha':Bind.checkArgs id sig ⟨args,kw⟩=pure ():=by simpa only [argsOk,sg] using ha
  simp only [ha'];exact B58 h2
end
section
variable {X:Cx}
def topD (dv:Option Int):List Int->Option Int
 | []=>dv
 | y::r=>some (topI y r)
theorem qYH {Ab:List (Addr × Obj)} {s:Shared} {σ:St} {H:Hp} {Q:VK} {p:Addr} {ns:List Int} {kw:List (Str × Value)} {dv:Option Int} (hc:X.calm=true) (I:Inv X Ab σ H s) (hq:SqL X.K H p (ns.map V.int))
  (ok:argsOk "max" ⟨[.ref p],kw⟩) (df:Option Value) (hb:t7 "max" ["key","default"] 0 ⟨[],kw⟩=pure [none,df]) (hdf:df=none/\dv=none\/∃ d t,df=some (.int d t)/\dv=some d)
  (m:Int) (em:topD dv ns=some m) (q:Q (.int m) H):wpAny (model X.prog X.w) X.A (call (.builtin "max") [.ref p] kw) (EP X Ab σ Q) X.xe s:=by
 obtain ⟨its,rv,pl,hz⟩:=I.list hq;have hl:=pl.isList;have hlt:p<s.heap.objs.size:=by obtain ⟨_,e,_⟩:=hl;exact C1 e
 have hlen:=rv.length;rw [A0] at hlen;have ia:=qE1 rv;have hname:(toString "max" ++ toString ".loop" : String) = "max.loop":=by decide
 refine qN1 F.kind_max F.plain_max F.entry_max ok ?_;show wpAny _ _ (t7 "max" ["key","default"] 0 ⟨[],kw⟩ >>= _) _ _ s;refine B57 (C07 hb ?_);refine B57 (B58 ?_);refine B57 (B94 hl ?_);refine B57 (B69 ?_);rw [hname];have w0:X.A.in1.handled=none:=I.ok.hd hc;refine B58 ⟨_,rfl,B93 T8 _,?_⟩;refine qSU (A97 w0 _ p (E3 hlt) its.toArray) _ ns (by simpa using hlen) (fun i v hv=>?_) _ ?_ (c:=0) ?_ (B9 _ rfl) ?_ ?_
 ·exact t8 ia i v (by simpa using hv)
 ·simp only [M8,B8,b9,or_false,not_or];exact ⟨A29 _,d0 (P7 hlt)⟩
 ·exact ⟨⟨_,A4 _ (B9 _ rfl),rfl,rfl⟩,(hl.push _).push _⟩
 ·intro y r e t' h' tk hk;subst e;cases em;refine ⟨_,rfl,.int _,H,I.kept (t':=tk) fun b o eb=>hk b o ?_ ?_ (A4 _ (A4 _ eb)),⟨t',rfl⟩,q⟩
  ·simp only [B8,b9,or_false];exact E3 (C1 eb)
  ·rw [M8];exact E3 (P7 (C1 eb))
 ·intro e;subst e;rcases hdf with ⟨_,e2⟩ | ⟨d,t,rfl,rfl⟩
  ·rw [e2] at em;cases em
  ·cases em;refine ⟨_,_,rfl,fun h' tk hk=>⟨_,rfl,.int _,H,I.kept (t':=tk) fun b o eb=>hk b o ?_ ?_ (A4 _ (A4 _ eb)),⟨t,rfl⟩,q⟩⟩
   ·simp only [B8,b9,or_false];exact E3 (C1 eb)
   ·rw [M8];exact E3 (P7 (C1 eb))
theorem qU7 (hc:X.calm=true):qC5 X (.builtin "max") (fun xs H Q=>∃ p ns m,xs=[.ref p]/\SqL X.K H p (ns.map V.int)/\topD none ns=some m/\Q (.int m) H):=by
 intro Ab s σ H xs us Q I r h;obtain ⟨p,ns,m,rfl,hq,em,q⟩:=h;obtain ⟨u,rfl,rx⟩:=qDK r;cases rx;exact qYH hc I hq (F.args_max1 _) none rfl (.inl ⟨rfl,rfl⟩) m em q
end
section
variable {prog:B60} {w:World} {A:Around} {E:Value->Shared->Prop} {s:Shared}
end
section
variable {prog:B60} {w:World} {A:Around} {R:Result->Shared->Prop} {I:Addr} {fp wr:List Addr} {n:Nat} {P:Nat->Value->Prop} {St:Nat->Heap->Prop}
end
section
variable {prog:B60} {w:World} {A:Around} {E:Value->Shared->Prop} {s:Shared}
end
section
variable {X:Cx}
theorem qR4 (hc:X.calm=true):qC5 X (.type "list") (fun xs H Q=>∃ (d:Addr) (Af:List (Key × V)) (ns:List Int),xs=[.ref d]/\H d=some (.dK Af)/\Af.map (·.1)=ns.map D9/\∀ l,H l=none->Q (.ref l) (Ag H l (.lst (ns.map V.int)))):=by
 intro Ab s σ H xs us Q I r h;obtain ⟨d,Af,ns,rfl,hq,hk,q⟩:=h;obtain ⟨u,rfl,rx⟩:=qDK r;cases rx;obtain ⟨hz,hd,vs,rel,dd⟩:=qTP I.hok hq;obtain ⟨ep,da⟩:=dd.dictAt;have lv:vs.length=Af.length:=rel.length.symm;have ln:ns.length=Af.length:=by
  have:=congrArg A18 hk;simpa using this.symm
 refine B10 (PySem.W.kdl_dict (ep:=ep) hd) (I.ok.hd hc) da (by rw [lv];exact hz) fun h' tk acc c' kept got items=>?_
 obtain ⟨l1,l2⟩:=items;have ia:B72 acc.toList ns:=by
  refine qT9 (by rw [C3,l1,lv,ln]) fun i v hv=>?_
  obtain ⟨k,x,e1,e2⟩:=l2 i v (by rw [<- F2];exact hv)
  have ek:(Af.map (·.1))[i]?=some k:=by rw [qYR rel,C4,e1];rfl
  rw [hk,C4] at ek;cases en:ns[i]? with
  | none=>rw [en] at ek;cases ek
  | some n=>
   rw [en] at ek;cases ek;obtain ⟨t,e3⟩:=A91 (k:=n) (v:=v) e2;exact ⟨n,t,rfl,e3⟩
 refine ⟨.ref s.heap.objs.size,_,I.laid (a:=s.heap.objs.size) (o:=.lst (ns.map V.int)) (t':=tk) kept (A9 _) ⟨by rw [A0,ln];exact hz,acc.toList,c',qEN ia,by simpa using got⟩,rfl,q _ (I.hok.fresh (A9 _))⟩
theorem qH8 (hu:X.A.units<cLine):OpR X (B75 .Eq) (fun x y H Q=>∃ p l xs,x=.ref p/\y=.ref l/\SqT X.K H p xs/\SqT X.K H l []/\Q (.bl xs.isEmpty) H):=by
 intro Ab s σ H x y v u Q I rx ry h;obtain ⟨p,l,xs,rfl,rfl,h1,h2,q⟩:=h;cases rx;cases ry;obtain ⟨its,r1,p1,z1⟩:=I.tuple h1;obtain ⟨its2,r2,p2,z2⟩:=I.tuple h2;cases r2;cases r1 with
 | nil=>exact A40 (e:=fun _=>true) p1 p2 hu (fun j h _=>absurd h (by simp)) ⟨.bl true,H,I,rfl,q⟩
 | cons a r=>exact A40 (e:=fun _=>true) p1 p2 hu (fun j _ h=>absurd h (by simp)) ⟨.bl false,H,I,rfl,q⟩
end
open PySem
def g5:Nat->Nat
 | 0=>0
 | n+1=>5 * g5 n+1
theorem qPD:∀ n:Nat,5 ^ n=4 * g5 n+1
 | 0=>rfl
 | n+1=>by
  rw [R6,qPD n,g5]
  lia
theorem qTI (m:Nat):∀ n:Nat,g5 (m+n)=5 ^ n * g5 m+g5 n
 | 0=>by simp [g5]
 | n+1=>by
  rw [<- p9,g5,qTI m n,g5,R6,k9,<- X3,X0 5 (5 ^ n)]
  lia
theorem qX8 (n:Nat):g5 (n+n)=2 * (g5 n * (2 * g5 n+1)):=by
 rw [qTI,qPD,B21,k9 (g5 n),k9 2];have e1:4 * g5 n * g5 n=2 * (g5 n * (2 * g5 n)):=by
  rw [A12 (g5 n) 2,<- X3 2 2,X3 4]
 rw [e1]
 lia
theorem qNX (k m:Nat) (h:m % 2=1):Nat.Coprime (2 ^ k) m:=by
 refine Nat.Coprime.pow_left k ?_;have:Nat.gcd 2 m=1:=by
  rw [Nat.gcd_rec,h]
  rfl
 exact this
theorem qX7:∀ (k n:Nat),2 ^ k ∣ g5 n->2 ^ k ∣ n
 | 0,n,_=>by simp
 | k+1,n,h=>by
  rcases Nat.mod_two_eq_zero_or_one n with e | e
  ·obtain ⟨m,rfl⟩:∃ m,n=m+m:=⟨n / 2,by lia⟩
   rw [qX8,R6,X0 (2 ^ k)] at h;have h2:2 ^ k ∣ g5 m * (2 * g5 m+1):=Nat.dvd_of_mul_dvd_mul_left (by decide) h
   have h3:2 ^ k ∣ g5 m:=(qNX k (2 * g5 m+1) (by lia)).dvd_of_dvd_mul_right h2
   obtain ⟨c,hc⟩:=qX7 k m h3;exact ⟨c,by rw [R6,X0 (2 ^ k) 2,X3,<- hc];lia⟩
  ·obtain ⟨m,rfl⟩:∃ m,n=m+m+1:=⟨n / 2,by lia⟩
   exfalso
   rw [g5,qX8] at h;have h2:2 ∣ 5 * (2 * (g5 m * (2 * g5 m+1)))+1:=Nat.dvd_trans ⟨2 ^ k,by rw [R6,X0]⟩ h
   lia
def it5 (i n:Nat):Nat:=5 ^ n * i+g5 n
theorem qPR (i n:Nat):it5 i (n+1)=5 * it5 i n+1:=by
 unfold it5;rw [R6,g5,k9,<- X3,X0 5 (5 ^ n)]
 lia
theorem qYV {k i n d:Nat} (hd:0<d) (hlt:d<2 ^ k) (h:it5 i n % 2 ^ k=it5 i (n+d) % 2 ^ k):False:=by
 have e:it5 i (n+d)=it5 i n+5 ^ n * (g5 d * (4 * i+1)):=by
  unfold it5;rw [d3 n d,qTI d n,Nat.pow_add,qPD d,k9 (g5 d),Nat.mul_one,k9 (5 ^ n)];have:(4 * g5 d+1) * 5 ^ n * i=5 ^ n * i+5 ^ n * (g5 d * (4 * i)):=by
   rw [B21,B22,B21,d3];congr 1;rw [X0 4,X3,X3,A12 (5 ^ n),A12 4 (5 ^ n)]
  rw [this]
  lia
 have h2:2 ^ k ∣ 5 ^ n * (g5 d * (4 * i+1)):=by
  rw [e] at h;have:=(Nat.dvd_iff_mod_eq_zero ..).mpr (Nat.sub_mod_eq_zero_of_mod_eq h.symm)
  rwa [Nat.add_sub_cancel_left] at this
 have h3:2 ^ k ∣ g5 d * (4 * i+1):=(qNX k (5 ^ n) (by rw [qPD];lia)).dvd_of_dvd_mul_left h2
 have h4:2 ^ k ∣ g5 d:=(qNX k (4 * i+1) (by lia)).dvd_of_dvd_mul_right h3
 have h5:=Nat.le_of_dvd hd (qX7 k d h4)
 lia
theorem qT5 {k i j:Nat} (hj:j<2 ^ k):∃ n,n<2 ^ k/\it5 i n % 2 ^ k=j:=by
 apply J9;intro no;have nd:((G5 (2 ^ k)).map fun n=>it5 i n % 2 ^ k).Nodup:=by
  rw [x4,M9];refine T5.imp_of_mem fun {a b} ha hb hab e=>?_;have hb':=E9.mp hb;refine qYV (k:=k) (i:=i) (n:=a) (d:=b - a) (by lia) (by lia) ?_
  rw [show a+(b - a)=b by lia]
  exact e
 have sub:((G5 (2 ^ k)).map fun n=>it5 i n % 2 ^ k) ⊆ (G5 (2 ^ k)).filter fun x=>decide (x ≠ j):=fun x hx=>by
  obtain ⟨n,hn,e⟩:=D7.mp hx;refine G3.mpr ⟨E9.mpr (by rw [<- e];exact j9 _ (B23 k)),decide_eq_true fun z=>no ⟨n,E9.mp hn,e.trans z⟩⟩
 have l1:=D3 nd sub;have l2:((G5 (2 ^ k)).filter fun x=>decide (x ≠ j)).length<(G5 (2 ^ k)).length:=by
  refine List.length_filter_lt_length_iff_exists.mpr ⟨j,E9.mpr hj,by simp⟩
 rw [A0] at l1
 lia
structure TabG (byText:Bool) (t:B83) (n:Nat):Prop where
 pow:∃ k,3<=k/\t.mask+1=2 ^ k
 dum:t.dummies=#[]
 plain:t.plain=true
 led:t.led=!byText
 size:t.place.size=n
 up:t.place.toList.Pairwise (·<·)
 le:∀ j ∈ t.place.toList,j<=t.mask
def qIW (mask i pt:Nat):SetTable.Probe:={ j:=i,more:=P2 mask i - i,i:=i,perturb:=pt,dummy:=none }
theorem qM4 {mask i:Nat} (h:i<=mask):P2 mask i<=mask/\i<=P2 mask i/\P2 mask i<=i+9:=by
 unfold P2
 split <;> lia
section
variable {byText:Bool} {t:B83} {n:Nat}
theorem TabG.slot (T:TabG byText t n) (j:Nat):(t.slot j=.empty/\j ∉ t.place.toList)\/(∃ i,t.slot j=.live i/\j ∈ t.place.toList):=by
 have hd:B49 t.dummies j=false:=by rw [T.dum];rfl
 obtain ⟨b1,b2,b3⟩:=qHF (j:=j) T.up;unfold SetTable.slot;dsimp only;by_cases hc:t.place[F0 t.place j]?=some j
 ·rw [if_pos (by rw [hc];simp)]
  exact .inr ⟨_,rfl,by rw [<- Array.mem_def];exact Array.mem_of_getElem? hc⟩
 ·rw [if_neg (by simpa using hc),hd,if_neg (by simp)]
  refine .inl ⟨rfl,fun hm=>hc ?_⟩;obtain ⟨i,hi,he⟩:=Z8.mp hm;have hi':i<t.place.size:=by simpa using hi
  have he':t.place.getD i j=j:=by
   rw [F4,C8 hi'];simpa using he
  have h1:¬ i<F0 t.place j:=fun z=>by have:=b2 i z;lia
  have h2:F0 t.place j=i:=by
   apply Nat.le_antisymm (n8 h1);apply n8;intro z;have:=b3 (F0 t.place j) (A9 _) (by lia)
   have:=qXP j T.up _ _ z hi'
   lia
  rw [h2,C8 hi'];simpa using he
theorem TabG.run (T:TabG byText t n) (h:Int) (i pt:Nat):∀ (more j f:Nat),(∃ j',L0 t (fun _=>h+1) h (more+1+f) { j:=j,more:=more,i:=i,perturb:=pt,dummy:=none }=some (.empty j' none)/\j' ∉ t.place.toList/\j'<=j+more)\/
  (L0 t (fun _=>h+1) h (more+1+f) { j:=j,more:=more,i:=i,perturb:=pt,dummy:=none }=L0 t (fun _=>h+1) h f (qIW t.mask ((i * 5+1+pt / 32) % (t.mask+1)) (pt / 32))/\j ∈ t.place.toList):=by
 intro more
 induction more with
 | zero=>
  intro j f;rw [A47,d3 1 f];rcases T.slot j with ⟨e,m⟩ | ⟨k,e,m⟩
  ·left
   refine ⟨j,?_,m,A9 _⟩;unfold L0;dsimp only;rw [e]
  ·right
   refine ⟨?_,m⟩;rw [L0];dsimp only;rw [e];dsimp only;rw [if_neg (by simp;lia)]
   rfl
 | succ more ih=>
  intro j f;rw [show more+1+1+f=more+1+f+1 by lia]
  rcases T.slot j with ⟨e,m⟩ | ⟨k,e,m⟩
  ·left
   refine ⟨j,?_,m,B11 _ _⟩;unfold L0;dsimp only;rw [e]
  ·have st:L0 t (fun _=>h+1) h (more+1+f+1) { j:=j,more:=more+1,i:=i,perturb:=pt,dummy:=none }=L0 t (fun _=>h+1) h (more+1+f) { j:=j+1,more:=more,i:=i,perturb:=pt,dummy:=none }:=by
    rw [L0];dsimp only;rw [e];dsimp only;rw [if_neg (by simp;lia)]
    unfold SetTable.advance;dsimp only;rw [if_pos (by lia)]
    rfl
   rw [st];rcases ih (j+1) f with ⟨j',e1,e2,e3⟩ | ⟨e1,_⟩
   ·exact .inl ⟨j',e1,e2,by lia⟩
   ·exact .inr ⟨e1,m⟩
theorem TabG.leap (T:TabG byText t n) (h:Int) (i pt F:Nat) (hi:i<=t.mask) (hF:10<=F):(∃ j',L0 t (fun _=>h+1) h F (qIW t.mask i pt)=some (.empty j' none)/\j' ∉ t.place.toList/\j'<=t.mask)\/
  (∃ F',F<=F'+10/\L0 t (fun _=>h+1) h F (qIW t.mask i pt)=L0 t (fun _=>h+1) h F' (qIW t.mask ((i * 5+1+pt / 32) % (t.mask+1)) (pt / 32))/\i ∈ t.place.toList):=by
 obtain ⟨r1,r2,r3⟩:=qM4 hi;have e:F=(P2 t.mask i - i)+1+(F - 1 - (P2 t.mask i - i)):=by lia
 rcases T.run h i pt (P2 t.mask i - i) i (F - 1 - (P2 t.mask i - i)) with ⟨j',e1,e2,e3⟩ | ⟨e1,e2⟩
 ·refine .inl ⟨j',?_,e2,by lia⟩
  rw [e];exact e1
 ·refine .inr ⟨F - 1 - (P2 t.mask i - i),by lia,?_,e2⟩
  conv=>lhs;rw [e]
  exact e1
theorem TabG.go0 (T:TabG byText t n) (h:Int):∀ (m q i F:Nat),i<=t.mask->10 * m<=F->(∃ j',L0 t (fun _=>h+1) h F (qIW t.mask (it5 i q % (t.mask+1)) 0)=some (.empty j' none)/\j' ∉ t.place.toList/\j'<=t.mask)\/(∀ c,c<m->it5 i (q+c) % (t.mask+1) ∈ t.place.toList)
 | 0,q,i,F,hi,hF=>.inr fun c hc=>absurd hc (by lia)
 | m+1,q,i,F,hi,hF=>by
  have lt:it5 i q % (t.mask+1)<t.mask+1:=j9 _ (by lia)
  rcases T.leap h (it5 i q % (t.mask+1)) 0 F (by lia) (by lia) with ok | ⟨F',hF',e,z⟩
  ·exact .inl ok
  ·have e2:((it5 i q % (t.mask+1)) * 5+1+0 / 32) % (t.mask+1)=it5 i (q+1) % (t.mask+1):=by
    rw [qPR,A48,m8,X0,A69,A70,Nat.mod_mod,<- A70,<- A69]
   rw [e2,A48] at e;rw [e];rcases T.go0 h m (q+1) i F' hi (by lia) with ok | all
   ·exact .inl ok
   ·refine .inr fun c hc=>?_;cases c with
    | zero=>exact z
    | succ c=>
     have:=all c (by lia)
     rw [show q+(c+1)=q+1+c by lia]
     exact this
theorem TabG.goK (T:TabG byText t n) (hn:n<=t.mask) (h:Int):∀ (k i pt F:Nat),i<=t.mask->pt<32 ^ k->10 * (k+(t.mask+1))<=F->∃ j',L0 t (fun _=>h+1) h F (qIW t.mask i pt)=some (.empty j' none)/\j' ∉ t.place.toList/\j'<=t.mask
 | 0,i,pt,F,hi,hp,hF=>by
  have e:pt=0:=by lia
  subst e;have e0:it5 i 0 % (t.mask+1)=i:=by
   unfold it5 g5;rw [Nat.pow_zero,B22,m8,B12 (by lia)]
  have q:=T.go0 h (t.mask+1) 0 i F hi (by lia)
  rw [e0] at q;rcases q with ok | all
  ·exact ok
  ·exfalso
   obtain ⟨k,_,hk⟩:=T.pow;have sub:G5 (t.mask+1) ⊆ t.place.toList:=fun j hj=>by
    have hj':=E9.mp hj;rw [hk] at hj';obtain ⟨m,hm,e⟩:=qT5 (i:=i) hj';rw [<- hk] at hm e;have:=all m hm;rw [A47,e] at this;exact this
   have:=D3 A32 sub;have hs:=T.size;simp at this
   lia
 | k+1,i,pt,F,hi,hp,hF=>by
  rcases T.leap h i pt F hi (by lia) with ok | ⟨F',hF',e,z⟩
  ·exact ok
  ·rw [e];have lt:(i * 5+1+pt / 32) % (t.mask+1)<t.mask+1:=j9 _ (by lia)
   refine T.goK hn h k _ _ F' (by lia) ?_ (by lia)
   rw [R6] at hp
   lia
theorem qUF (h:Int):L5 h<32 ^ 13:=by
 unfold L5;have h1:0<=h % (2 ^ 64:Int):=W7 _ (by decide)
 have h2:h % (2 ^ 64:Int)<2 ^ 64:=U5 _ (by decide)
 have:((2:Int) ^ 64)=18446744073709551616:=by decide
 rw [this] at h1 h2 ⊢;have h3:(32:Nat) ^ 13=36893488147419103232:=by decide
 lia
theorem TabG.free (T:TabG byText t n) (hn:n<=t.mask) (h:Int):∃ j,t.freeSlot h=some (j,false)/\j ∉ t.place.toList/\j<=t.mask:=by
 have lt:L5 h % (t.mask+1)<t.mask+1:=j9 _ (by lia)
 obtain ⟨j,e,z,l⟩:=T.goK hn h 13 (L5 h % (t.mask+1)) (L5 h) (10 * V1 t.mask) (by lia) (qUF h) (by unfold V1;lia)
 refine ⟨j,?_,z,l⟩;unfold SetTable.freeSlot SetTable.probe;have hst:t.probeStart h=qIW t.mask (L5 h % (t.mask+1)) (L5 h):=rfl;rw [hst,e]
 rfl
theorem TabG.lay (T:TabG byText t n) (hn:n<t.mask) {es:Array (Int × Value)} (he:es.size=n) (h:Int) (x:Value) :
  ∃ p t',layNew t es h x=(J1 es p (h,x),t',false,false)/\TabG byText t' (n+1)/\t'.mask=t.mask/\p<=es.size:=by
 obtain ⟨j,e,z,l⟩:=T.free (by lia) h
 obtain ⟨b1,b2,b3⟩:=qHF (j:=j) T.up;have hd:B49 t.dummies j=false:=by rw [T.dum];rfl
 have tl:(J1 t.place (F0 t.place j) j).toList=t.place.toList.take (F0 t.place j)++j::t.place.toList.drop (F0 t.place j):=qCX _ _ _;have sz:(J1 t.place (F0 t.place j) j).size=n+1:=by
  rw [<- C3,tl,A5,D8,E1,G8,C3,T.size];rw [T.size] at b1
  lia
 have T':TabG byText { t with place:=J1 t.place (F0 t.place j) j,dummies:=t.dummies } (n+1):=by
  refine ⟨T.pow,T.dum,T.plain,T.led,sz,?_,?_⟩
  ·show (J1 t.place (F0 t.place j) j).toList.Pairwise (·<·);rw [tl];have lo:∀ a ∈ t.place.toList.take (F0 t.place j),a<j:=fun a ha=>by
    obtain ⟨i,hi,hai⟩:=Z8.mp ha;rw [E1,C3] at hi;have hi2:i<t.place.size:=by lia
    have:=b2 i (by lia)
    rw [F4,C8 hi2] at this;rw [A11] at hai;rw [<- hai];simpa using this
   have hi:∀ a ∈ t.place.toList.drop (F0 t.place j),j<a:=fun a ha=>by
    have hm:a ∈ t.place.toList:=L3 ha;obtain ⟨i,hi,hai⟩:=Z8.mp ha;rw [G8,C3] at hi;have hi2:F0 t.place j+i<t.place.size:=by lia
    have:=b3 _ (B11 _ i) hi2;rw [F4,C8 hi2] at this;rw [A10] at hai;have h3:j<=a:=by
     rw [<- hai];simpa using this
    rcases Nat.lt_or_eq_of_le h3 with h4 | h4
    ·exact h4
    ·exact absurd (h4 ▸ hm) z
   refine L6.mpr ⟨T.up.sublist (Z4 _ _),G4.mpr ⟨hi,T.up.sublist (Z5 _ _)⟩,fun a ha b hb=>?_⟩;rcases B8.mp hb with e | hb
   ·rw [e];exact lo a ha
   ·exact x8 (lo a ha) (hi b hb)
  ·show ∀ i ∈ (J1 t.place (F0 t.place j) j).toList,i<=t.mask;rw [tl];intro i hi;rcases B7.mp hi with hi | hi
   ·exact T.le i (R5 hi)
   ·rcases B8.mp hi with e | hi
    ·lia
    ·exact T.le i (L3 hi)
 have fits:q0 { t with place:=J1 t.place (F0 t.place j) j,dummies:=t.dummies } (n+1)=true:=by
  unfold q0 A25;dsimp only;rw [sz,T.dum];have:((#[]:Array Nat)).size=0:=rfl;simp only [this,beq_self_eq_true,d9,decide_eq_true_eq]
  lia
 have szE:(J1 es (F0 t.place j) (h,x)).size=n+1:=by
  rw [<- C3,qCX,A5,D8,E1,G8,C3];rw [T.size] at b1
  lia
 refine ⟨F0 t.place j,{ t with place:=J1 t.place (F0 t.place j) j,dummies:=t.dummies },?_,T',rfl,by rw [he,<- T.size];exact b1⟩
 unfold layNew;rw [e];dsimp only;unfold SetTable.put;rw [hd];dsimp only;rw [szE];unfold SetTable.orStandIn;simp only [M4,if_false];rw [fits];simp
end
theorem qSE {α:Type}:∀ {l m:List α},l.Nodup->m.Nodup->(∀ x,x ∈ l ↔ x ∈ m)->l.Perm m
 | [],[],_,_,_=>.refl _
 | [],y::m,_,_,h=>absurd ((h y).mpr A8) (by simp)
 | x::l,m,hl,hm,h=>by
  obtain ⟨s,t,rfl⟩:=List.append_of_mem ((h x).mp A8);have l1:=J4.mp hl;have m1:(x::(s++t)).Nodup:=(o9.nodup_iff).mp hm;have m2:=J4.mp m1;refine ((qSE l1.2 m2.2 fun y=>?_).cons x).trans o9.symm;have key:=h y;rw [B8,o9.mem_iff,B8] at key
  constructor
  ·intro hy;rcases key.mp (.inr hy) with e | e
   ·exact absurd (e ▸ hy) l1.1
   ·exact e
  ·intro hy;rcases key.mpr (.inr hy) with e | e
   ·exact absurd (e ▸ hy) m2.1
   ·exact e
theorem qHM:∀ (fuel k n:Nat),3<=k->n<2 ^ k * 2 ^ fuel->∃ k',3<=k'/\A49 n fuel (2 ^ k)=2 ^ k'/\n<2 ^ k'
 | 0,k,n,hk,h=>⟨k,hk,rfl,by simpa using h⟩
 | fuel+1,k,n,hk,h=>by
  rw [A49];by_cases c:2 ^ k<=n
  ·rw [if_pos c,<- R6];exact qHM fuel (k+1) n (by lia) (by rw [R6,X3,<- Nat.pow_succ'];exact h)
  ·rw [if_neg c];exact ⟨k,hk,rfl,by lia⟩
theorem qM0 {n:Nat} (h:n<=1000000):∃ k,3<=k/\e7 n=2 ^ k/\n<2 ^ k:=by
 unfold e7;exact qHM 64 3 n (A9 _) (d7 h (by decide))
section
variable {mask:Nat} {owner:Array (Option Nat)}
theorem qbH (i pt F:Nat) (hi:i<=mask):(∃ j,J6 mask owner (F+1) i pt=some j/\owner.getD j (some 0)=none/\j<=mask)\/
  (J6 mask owner (F+1) i pt=J6 mask owner F ((i * 5+1+pt / 32) % (mask+1)) (pt / 32)/\owner.getD i (some 0) ≠ none):=by
 obtain ⟨r1,r2,r3⟩:=qM4 hi;cases e:(G5 (P2 mask i+1 - i)).find? fun k=>(owner.getD (i+k) (some 0)).isNone with
 | some k=>
  left
  have h1:=List.find?_some e;have h2:=E9.mp (List.mem_of_find?_eq_some e);refine ⟨i+k,?_,by simpa using h1,by lia⟩
  rw [J6,e]
 | none=>
  right
  refine ⟨?_,?_⟩
  ·rw [J6,e]
   rfl
  ·have:=List.find?_eq_none.mp e 0 (E9.mpr (by lia))
   simpa using this
theorem qbI:∀ (m q i F:Nat),i<=mask->m<=F->(∃ j,J6 mask owner F (it5 i q % (mask+1)) 0=some j/\owner.getD j (some 0)=none/\j<=mask)\/(∀ c,c<m->owner.getD (it5 i (q+c) % (mask+1)) (some 0) ≠ none)
 | 0,q,i,F,hi,hF=>.inr fun c hc=>absurd hc (by lia)
 | m+1,q,i,F,hi,hF=>by
  have lt:it5 i q % (mask+1)<mask+1:=j9 _ (by lia)
  obtain ⟨F',rfl⟩:∃ F',F=F'+1:=⟨F - 1,by lia⟩
  rcases qbH (mask:=mask) (owner:=owner) (it5 i q % (mask+1)) 0 F' (by lia) with ok | ⟨e,z⟩
  ·exact .inl ok
  ·have e2:((it5 i q % (mask+1)) * 5+1+0 / 32) % (mask+1)=it5 i (q+1) % (mask+1):=by
    rw [qPR,A48,m8,X0,A69,A70,Nat.mod_mod,<- A70,<- A69]
   rw [e2,A48] at e;rw [e];rcases qbI m (q+1) i F' hi (by lia) with ok | all
   ·exact .inl ok
   ·refine .inr fun c hc=>?_;cases c with
    | zero=>exact z
    | succ c=>
     have:=all c (by lia)
     rw [show q+(c+1)=q+1+c by lia]
     exact this
theorem qbG {p:Nat} (hp:mask+1=2 ^ p) {j0:Nat} (h0:j0<=mask) (hj0:owner.getD j0 (some 0)=none):∀ (k i pt F:Nat),i<=mask->pt<32 ^ k->k+(mask+1)<=F->∃ j,J6 mask owner F i pt=some j/\owner.getD j (some 0)=none/\j<=mask
 | 0,i,pt,F,hi,hpt,hF=>by
  have e:pt=0:=by lia
  subst e;have e0:it5 i 0 % (mask+1)=i:=by
   unfold it5 g5;rw [Nat.pow_zero,B22,m8,B12 (by lia)]
  have q:=qbI (mask:=mask) (owner:=owner) (mask+1) 0 i F hi (by lia)
  rw [e0] at q;rcases q with ok | all
  ·exact ok
  ·exfalso
   obtain ⟨m,hm,e⟩:=qT5 (k:=p) (i:=i) (j:=j0) (by lia)
   rw [<- hp] at hm e;have:=all m hm;rw [A47,e] at this;exact this hj0
 | k+1,i,pt,F,hi,hpt,hF=>by
  obtain ⟨F',rfl⟩:∃ F',F=F'+1:=⟨F - 1,by lia⟩
  rcases qbH (mask:=mask) (owner:=owner) i pt F' hi with ok | ⟨e,z⟩
  ·exact ok
  ·rw [e];have lt:(i * 5+1+pt / 32) % (mask+1)<mask+1:=j9 _ (by lia)
   refine qbG hp h0 hj0 k _ _ F' (by lia) ?_ (by lia)
   rw [R6] at hpt
   lia
end
structure Own (N:Nat) (L:List Nat) (owner:Array (Option Nat)):Prop where
 size:owner.size=N
 nd:L.Nodup
 lt:∀ j ∈ L,j<N
 at_:∀ (m j:Nat),L[m]?=some j->owner[j]?=some (some m)
 no:∀ j,j<N->j ∉ L->owner[j]?=some none
theorem Own.put {N:Nat} {L:List Nat} {owner:Array (Option Nat)} (o:Own N L owner) {j:Nat} (hj:j<N) (hn:j ∉ L):Own N (L++[j]) (owner.setIfInBounds j (some L.length)):=by
 refine ⟨by simp [o.size],qL0 o.nd hn,fun i hi=>?_,fun m i h=>?_,fun i hi hni=>?_⟩
 ·rcases B7.mp hi with hi | hi
  ·exact o.lt i hi
  ·rw [A6.mp hi];exact hj
 ·by_cases c:m<L.length
  ·rw [C5 c] at h;have ne:j ≠ i:=fun z=>hn (z ▸ B6 h);rw [l0 ne];exact o.at_ m i h
  ·rw [C2 (by lia)] at h
   have hm:m=L.length:=by
    have:=(A3.mp h).1;simp at this
    lia
   subst hm;rw [R0] at h;cases h;rw [Array.getElem?_setIfInBounds_self_of_lt (by rw [o.size];exact hj)]
 ·have ne:j ≠ i:=fun z=>hni (B7.mpr (.inr (by rw [z];exact A6.mpr rfl)))
  rw [l0 ne];exact o.no i hi fun z=>hni (B7.mpr (.inl z))
theorem qPK {mask p:Nat} (hp:mask+1=2 ^ p):∀ (hs:List Int) (L:List Nat) (owner:Array (Option Nat)),Own (mask+1) L owner->L.length+hs.length<=mask->
  ∃ L' owner',hs.foldl (fun (acc:Option (Array (Option Nat) × Nat)) (h:Int)=>acc >>= fun x=>J6 mask x.1 (V1 mask) (L5 h % (mask+1)) (L5 h) >>= fun j=>some (x.1.setIfInBounds j (some x.2),x.2+1)) (some (owner,L.length))=some (owner',L'.length)/\Own (mask+1) L' owner'/\L'.length=L.length+hs.length
 | [],L,owner,o,_=>⟨L,owner,rfl,o,by simp⟩
 | h::hs,L,owner,o,hl=>by
  rw [D8] at hl;obtain ⟨j0,hj0,hjn⟩:∃ j0,j0<mask+1/\j0 ∉ L:=by
   apply J9;intro no;have sub:G5 (mask+1) ⊆ L:=fun j hj=>J9 fun z=>no ⟨j,E9.mp hj,z⟩;have:=D3 A32 sub;simp at this
   lia
  have g0:owner.getD j0 (some 0)=none:=by
   rw [F4,o.no j0 hj0 hjn]
   rfl
  have lt:L5 h % (mask+1)<mask+1:=j9 _ (by lia)
  obtain ⟨j,e,z,l⟩:=qbG hp (by lia) g0 13 (L5 h % (mask+1)) (L5 h) (V1 mask) (by lia) (qUF h) (by unfold V1;lia)
  have jn:j ∉ L:=fun hm=>by
   obtain ⟨m,hm⟩:=L7 hm;rw [F4,o.at_ m j hm] at z;cases z
  have st:=o.put (show j<mask+1 by lia) jn
  obtain ⟨L',owner',e1,o',e2⟩:=qPK hp hs (L++[j]) _ st (by rw [A5,B3];lia)
  refine ⟨L',owner',?_,o',by rw [e2,A5,B3,D8];lia⟩
  rw [W1];have e3:((some (owner,L.length):Option (Array (Option Nat) × Nat)) >>= fun x=>J6 mask x.1 (V1 mask) (L5 h % (mask+1)) (L5 h) >>= fun j=>some (x.1.setIfInBounds j (some x.2),x.2+1))=some (owner.setIfInBounds j (some L.length),(L++[j]).length):=by
   show (J6 mask owner (V1 mask) (L5 h % (mask+1)) (L5 h) >>= _)=_;rw [e,A5,B3]
   rfl
  rw [e3];exact e1
theorem qYA (N:Nat):Own N [] (B24 N none):=⟨by simp,.nil,fun _ h=>(nomatch h),fun m j h=>by simp at h,fun j hj _=>by simp [hj]⟩
theorem qO3 {mask p:Nat} (hp:mask+1=2 ^ p) (hashes:Array Int) (hl:hashes.size<=mask):∃ L owner,A98 mask hashes=some owner/\Own (mask+1) L owner/\L.length=hashes.size:=by
 obtain ⟨L,owner,e,o,l⟩:=qPK hp hashes.toList [] _ (qYA (mask+1)) (by simpa using hl)
 refine ⟨L,owner,?_,o,by simpa using l⟩
 unfold A98;rw [<- Array.foldl_toList];have:(hashes.toList.foldl (fun (acc:Option (Array (Option Nat) × Nat)) (h:Int)=>do
   let (owner,k) <- acc
   let j <- J6 mask owner (V1 mask) (L5 h % (mask+1)) (L5 h)
   pure (owner.setIfInBounds j (some k),k+1)) (some (B24 (mask+1) none,0)))=some (owner,L.length):=e
 rw [this]
 rfl
theorem qM6 {α:Type}:∀ l:List α,(G5 l.length).filterMap (fun i=>l[i]?)=l
 | []=>rfl
 | a::l=>by
  rw [D8,A39,c6];show a::((G5 l.length).map Nat.succ).filterMap (fun i=>(a::l)[i]?)=a::l;rw [A82];congr 1;exact qM6 l
theorem qV1 {b:Bool} {t:B83} {n:Nat} (T:TabG b t n) {es:Array (Int × Value)} (he:es.size=n) {wanted:Nat} (hw:wanted<=1000000) (hn:n<wanted) :
  ∃ es' t',relayAll t es wanted=(es',t',false)/\es'.toList.Perm es.toList/\TabG b t' n/\wanted<=t'.mask:=by
 obtain ⟨k,k3,hk,hlt⟩:=qM0 hw;have hmk:e7 wanted - 1+1=2 ^ k:=by rw [hk];have:=B23 k;lia
 have h8:8<=2 ^ k:=by
  have:=V4 (n:=2) (by decide) k3
  exact this
 obtain ⟨L,owner,e,o,l⟩:=qO3 hmk (es.map (·.1)) (by rw [A00,he,hk];lia)
 rw [A00,he] at l;generalize hM:e7 wanted - 1=M at *;have fa:∀ j m,(owner.getD j none).map (fun x=>(j,x))=some (j,m) ↔ L[m]?=some j:=by
  intro j m;rw [F4];by_cases hj:j<M+1
  ·by_cases hjL:j ∈ L
   ·obtain ⟨m',hm'⟩:=L7 hjL;rw [o.at_ m' j hm']
    constructor
    ·intro z;have:m'=m:=by simpa using z
     rw [<- this];exact hm'
    ·intro z;have:some (some m')=some (some m):=(o.at_ m' j hm').symm.trans (o.at_ m j z);cases this
     rfl
   ·rw [o.no j hj hjL]
    constructor
    ·intro z;simp at z
    ·intro z;exact absurd (B6 z) hjL
  ·rw [Array.getElem?_eq_none (by rw [o.size];lia)]
   constructor
   ·intro z;simp at z
   ·intro z;exact absurd (o.lt j (B6 z)) hj
 have sh:∀ j x,x ∈ ((owner.getD j none).map fun y=>(j,y))->x.1=j/\L[x.2]?=some j:=by
  intro j x hx;have hx':(owner.getD j none).map (fun y=>(j,y))=some x:=hx;obtain ⟨y,hy,e⟩:=Q4.mp hx';subst e;exact ⟨rfl,(fa j y).mp hx'⟩
 generalize hlive:(G5 (M+1)).filterMap (fun j=>(owner.getD j none).map (fun x=>(j,x)))=live;have p1:live.Pairwise fun a c=>a.1<c.1:=by
  rw [<- hlive,A26];refine T5.imp fun {a c} hac x hx y hy=>?_;rw [(sh a x hx).1,(sh c y hy).1];exact hac
 have p2:live.Pairwise fun a c=>a.2 ≠ c.2:=by
  rw [<- hlive,A26];refine T5.imp fun {a c} hac x hx y hy z=>?_;have h1:=(sh a x hx).2;have h2:=(sh c y hy).2;rw [z,h2] at h1;cases h1
  lia
 have mem:∀ m,m ∈ live.map (·.2) ↔ m ∈ G5 n:=by
  intro m;rw [D7,E9]
  constructor
  ·rintro ⟨x,hx,rfl⟩;rw [<- hlive] at hx;obtain ⟨j,_,hj⟩:=Y1.mp hx;have:=(A3.mp (sh j x hj).2).1
   lia
  ·intro hm;have hm':m<L.length:=by lia
   have hL:=A7 hm';refine ⟨(L[m],m),?_,rfl⟩;rw [<- hlive];exact Y1.mpr ⟨L[m],E9.mpr (o.lt _ (o5 hm')),(fa L[m] m).mpr hL⟩
 have pm:(live.map (·.2)).Perm (G5 n):=qSE (by rw [x4,M9];exact p2) A32 mem
 have ll:live.length=n:=by have:=pm.length_eq;simpa using this
 have es':((live.map (·.2)).toArray.filterMap (fun i=>es[i]?)).toList.Perm es.toList:=by
  rw [Array.toList_filterMap];have:=pm.filterMap (fun i=>es[i]?);have e2:(G5 n).filterMap (fun i=>es[i]?)=es.toList:=by
   have:=qM6 es.toList;rw [C3,he] at this;simpa using this
  rw [e2] at this;simpa using this
 have szE:((live.map (·.2)).toArray.filterMap (fun i=>es[i]?)).size=n:=by
  rw [<- C3,es'.length_eq,C3,he]
 refine ⟨(live.map (·.2)).toArray.filterMap (fun i=>es[i]?),{ mask:=M,place:=(live.map (·.1)).toArray,dummies:=#[],finger:=t.finger,led:=t.led,moves:=t.movedTo M,plain:=t.plain },?_,es',⟨⟨k,k3,hmk⟩,rfl,T.plain,T.led,by simp [ll],?_,?_⟩,?_⟩
 ·have er:t.relaid (es.map (·.1)) wanted=some ({ mask:=M,place:=(live.map (·.1)).toArray,dummies:=#[],finger:=t.finger,led:=t.led,moves:=t.movedTo M,plain:=t.plain },(live.map (·.2)).toArray):=by
   unfold SetTable.relaid SetTable.laid;rw [hM,e];show some _=some _;rw [<- hlive]
  unfold relayAll;rw [er];dsimp only;have c1:coversAll (live.map (·.2)).toArray es.size=true:=by
   unfold coversAll;rw [he];exact List.isPerm_iff.mpr pm
  have c2:q0 { mask:=M,place:=(live.map (·.1)).toArray,dummies:=#[],finger:=t.finger,led:=t.led,moves:=t.movedTo M,plain:=t.plain } ((live.map (·.2)).toArray.filterMap (fun i=>es[i]?)).size=true:=by
   unfold q0 A25;rw [szE];simp [ll]
   lia
  rw [c1,c2]
  rfl
 ·show (live.map (·.1)).toArray.toList.Pairwise (·<·);rw [A71,M9];exact p1
 ·show ∀ j ∈ (live.map (·.1)).toArray.toList,j<=M;intro j hj;rw [A71] at hj;obtain ⟨x,hx,rfl⟩:=D7.mp hj;rw [<- hlive] at hx;obtain ⟨i,hi,hx⟩:=Y1.mp hx;rw [(sh i x hx).1];have:=E9.mp hi
  lia
 ·show wanted<=M
  lia
def SetG (w:World) (a:Addr) (zs:List Int) (h:Heap):Prop:=
 ∃ (es:Array (Int × Value)) (ep:Nat) (t:B83) (ks:List Int),h.get? a=some { cls:=.type "set",data:=.set es ep t }/\TabG (byT w) t es.size/\Ents ks es.toList/\ks.Perm zs/\zs.Nodup/\zs.length<4095/\es.size * 5<t.mask * 3
theorem SetG.at {w:World} {a:Addr} {zs:List Int} {h h':Heap} (x:SetG w a zs h) (k:∀ o,h.get? a=some o->h'.get? a=some o):SetG w a zs h':=
 let ⟨es,ep,t,ks,h1,r⟩:=x;⟨es,ep,t,ks,k _ h1,r⟩
theorem TabG.fits {b:Bool} {t:B83} {n:Nat} (T:TabG b t n) (hn:n<=t.mask):t.fits n=true:=by
 unfold q0 A25;rw [T.size,T.dum];have:((#[]:Array Nat)).size=0:=rfl;simp only [this,beq_self_eq_true,d9,decide_eq_true_eq]
 lia
theorem TabG.mask7 {b:Bool} {t:B83} {n:Nat} (T:TabG b t n):7<=t.mask:=by
 obtain ⟨k,k3,hk⟩:=T.pow;have:=V4 (n:=2) (by decide) k3
 lia
theorem insertAt_perm {es:Array (Int × Value)} {p:Nat} {x:Int × Value}:(J1 es p x).toList.Perm (es.toList++[x]):=by
 rw [qCX];have e3:es.toList++[x]=es.toList.take p++(es.toList.drop p++[x]):=by
  rw [<- I0,Y8]
 rw [e3];exact m5 _ (List.perm_append_singleton _ _).symm
section
variable {prog:B60} {w:World} {A:Around} {E:Value->Shared->Prop} {s:Shared}
theorem qWU {a:Addr} {es es':Array (Int × Value)} {ep:Nat} {t t':B83} {h:Heap} (ho:h.get? a=some { cls:=.type "set",data:=.set es ep t }) :
  (h.update a (Obj.putSet es' t')).get? a=some { cls:=.type "set",data:=.set es' (ep+1) t' }:=by
 have:=P4 (Obj.putSet es' t') ho (by rw [putSet_of _ _ (ep:=ep) (es:=es) (t:=t) rfl];rfl)
 rw [putSet_of _ _ (ep:=ep) (es:=es) (t:=t) rfl] at this;exact this
theorem qUZ {a:Addr} {zs:List Int} {k:Int} {tk:Tok} {Q:Bool->Shared->Prop} (hS:SetG w a zs s.heap) (hroom:zs.length<4094)
  (h:∀ h',Heap.SameBut a s.heap h'->SetG w a (addI zs k) h'->∀ b,Q b { s with heap:=h' }):wpAny (model prog w) A (setAddHashed a (.int k tk) (hashInt k)) Q E s:=by
 obtain ⟨es,ep,t,ks,ho,T,he,hp,hnd,hlen,hroom2⟩:=id hS;have hsz:es.size=zs.length:=SetI.size (a:=a) (h:=s.heap) he hp;have hel:ElemsOf (B99 prog w) es.toList:=he.elems;have h7:=T.mask7;have hb:es.size<scanBound:=by rw [hsz];unfold scanBound;lia
 have hf:t.fits es.size=true:=T.fits (by lia)
 unfold setAddHashed setAddHashedIn;refine B76 (B57 (B82 ho rfl hf ?_));dsimp only;rw [byScan_of (knd:=B99 prog w) (x:=.int k tk) rfl hb hel];simp only [↓reduceIte];unfold setAddByScan;refine B57 ?_;refine B57 (B87 ?_);refine B57 (wpAny_setScan_of (knd:=B99 prog w) (k:=k) (intKind_is _ _ _ _) ho rfl hf hel ?_);have hfd:=Ents.find (prog:=prog) (w:=w) (k:=k) he;cases hr:B42 (fun e=>(B99 prog w).is k e.2) es.toList with
 | some j=>
  dsimp only;rw [hr] at hfd;have hk:k ∈ zs:=hp.mem_iff.mp (hfd.mp rfl);refine B58 (B58 ?_);have e:s={ s with heap:=s.heap }:=by cases s;rfl
  rw [e];refine h s.heap (Heap.SameBut.refl a s.heap) ?_ _;unfold addI;rw [if_pos hk];exact hS
 | none=>
  dsimp only;rw [hr] at hfd;have hk:¬ k ∈ zs:=fun z=>by have:=hfd.mpr (hp.mem_iff.mpr z);cases this
  obtain ⟨p,t',e1,T',tm,hpe⟩:=T.lay (by lia) rfl (hashInt k) (.int k tk)
  rw [e1];dsimp only;refine B57 (B58 ?_);rw [T'.plain];simp only [↓reduceIte];rw [hashByValue_scannable 8 (x:=.int k tk) rfl];refine B57 (B58 ?_);have hszE:(J1 es p (hashInt k,U1 k tk)).size=es.size+1:=by
   rw [<- C3,insertAt_perm.length_eq,A5,C3]
   rfl
  rw [show plainKind (U1 k tk)=true from rfl];simp only [↓reduceIte];show wpAny _ _ (storeSet a (J1 es p (hashInt k,.int k tk)) t' >>= _) _ _ _;refine B57 (wpAny_storeSet_of ho rfl ?_ (by rw [hszE,hsz,B66];lia))
  have fin:∀ (es2:Array (Int × Value)) (ep2:Nat) (t2:B83) (h2:Heap),h2.get? a=some { cls:=.type "set",data:=.set es2 ep2 t2 }->es2.toList.Perm (J1 es p (hashInt k,U1 k tk)).toList->TabG (byT w) t2 (es.size+1)->(es.size+1) * 5<t2.mask * 3->SetG w a (addI zs k) h2:=by
   intro es2 ep2 t2 h2 g2 pm T2 full;obtain ⟨ks',h4,h5⟩:=Ents.perm (ks:=ks++[k]) (c8 he ⟨tk,rfl⟩) (pm.trans insertAt_perm);have hs2:es2.size=es.size+1:=by rw [<- hszE,<- C3,pm.length_eq,C3]
   refine ⟨es2,ep2,t2,ks',g2,by rw [hs2];exact T2,h4,?_,?_,?_,by rw [hs2];exact full⟩
   ·unfold addI;rw [if_neg hk];exact h5.trans (hp.append_right _)
   ·unfold addI;rw [if_neg hk];exact qL0 hnd hk
   ·unfold addI;rw [if_neg hk,A5,B3]
    lia
  have hg:=qWU (es':=J1 es p (hashInt k,.int k tk)) (t':=t') ho;have fill:t'.fill=es.size+1:=by
   unfold A25;rw [T'.size,T'.dum]
   rfl
  cases tf:t'.tooFull with
  | false=>
   simp only [U9,M4,↓reduceIte];refine B58 (B58 ?_);refine h _ (S0 s.heap a _) (fin _ _ _ _ hg (.refl _) T' ?_) _;unfold SetTable.tooFull at tf;rw [fill] at tf;have:=of_decide_eq_false tf
   lia
  | true=>
   simp only [B30,Bool.and_self,↓reduceIte];rw [hszE];have gr:A66 (es.size+1)=(es.size+1) * 4:=by
    unfold A66;rw [if_neg (by lia)]
   obtain ⟨es2,t2,e2,p2,T2,m2⟩:=qV1 T' hszE (wanted:=A66 (es.size+1)) (by rw [gr];lia) (by rw [gr];lia)
   rw [gr] at m2;rw [e2];dsimp only;refine B57 (B58 ?_);refine B57 (wpAny_storeSet_of hg rfl ?_ (by rw [<- C3,p2.length_eq,C3,hszE,hsz,B66];lia))
   refine B58 (B58 ?_);exact h _ ((S0 s.heap a _).trans (S0 _ a _)) (fin _ _ _ _ (qWU hg) p2 T2 (by lia)) _
end
section
variable {prog:B60} {w:World} {A:Around} {R:Result->Shared->Prop} {I:Addr} {fp wr:List Addr} {G:Array C09->Array C09->Prop} {n:Nat} {P:Nat->Value->Prop} {St:Nat->Shared->Prop}
theorem qM2 (W:WalksS prog w A.in1 I fp wr G n P St) (S:Addr) (hSf:S ∉ fp) (ns:List Int) (hnn:ns.length=n) (h4:n<=4000) (hval:∀ i v,P i v->∃ t,v=.int (ns.getD i 0) t) :
  ∀ (k i:Nat) (s:Shared),n - i=k->i<=n->St i s->SetG w S (dedI (ns.take i)) s.heap->
   (∀ s',Moved (S::wr) G s s'->SetG w S (dedI ns) s'.heap->R (.ok (.ret .none)) s')->
   B96 (model prog w) A (.builtin "set.update.loop" ⟨[.ref S,.ref I],[]⟩) R s:=by
 have hSw:S ∉ wr:=fun h=>hSf (W.sub _ h);have hsub:∀ b ∈ wr,b ∈ S::wr:=fun b hb=>B0 _ hb;intro k
 induction k with
 | zero=>
  intro i s hk hi hst hS hR;have hin:i=n:=by lia
  subst hin;refine B81 F.entry_set_update_loop ?_;rw [N9 F.plain_set_update_loop _];show wpAny _ A.in1 (pyNext (.ref I) >>= _) _ _ s;refine B57 (W.done s _ _ hst fun s' hm=>?_);show wpAny _ A.in1 (ret V5) _ _ s';rw [E6 (by lia)] at hS
  exact B58 (hR s' (hm.mono hsub) (hS.at fun o e=>hm.heap S _ hSw e))
 | succ k ih=>
  intro i s hk hi hst hS hR;have hlt:i<n:=by lia
  refine B81 F.entry_set_update_loop ?_;rw [N9 F.plain_set_update_loop _];show wpAny _ A.in1 (pyNext (.ref I) >>= _) _ _ s;refine B57 (W.item i s _ _ hlt hst fun v s' hP hst' hm=>?_);obtain ⟨t,rfl⟩:=hval i v hP;have hS':SetG w S (dedI (ns.take i)) s'.heap:=hS.at fun o e=>hm.heap S _ hSw e;show wpAny _ A.in1 (holding [U1 (ns.getD i 0) t] (setAdd S (.int (ns.getD i 0) t)) >>= _) _ _ s';refine B57 (B76 ?_);unfold setAdd;refine B76 ?_;refine B57 ((B99 prog w).pyHash (k:=ns.getD i 0) (intKind_is _ _ _ _) ?_);have hroom:(dedI (ns.take i)).length<4094:=by
   have:=qDI (ns.take i) [];rw [E1] at this;unfold dedI;simp at this
   lia
  refine qUZ (s:={ s' with toks:=s'.toks+1 }) hS' hroom fun h' hsb hS2 b=>?_;have e2:addI (dedI (ns.take i)) (ns.getD i 0)=dedI (ns.take (i+1)):=by
   have hi':i<ns.length:=by lia
   rw [C9,A7 hi',D0];unfold dedI;rw [List.foldl_append,W1,B31,L4,A7 hi',o6]
  rw [e2] at hS2;refine B58 ⟨B93 F.plain_set_update_loop _,ih (i+1) _ (by lia) hlt (W.frame _ s' _ _ hst' (j7 _) fun b hb o e=>?_) hS2 fun s'' hm'' hS''=>?_⟩
  ·rw [hsb.2 b (fun h:b=S=>hSf (by rw [<- h];exact hb))];exact e
  ·refine hR s'' (Moved.trans W.gtrans ((hm.mono hsub).then_heap (j7 _) fun b o hb e=>?_) hm'') hS'';rw [hsb.2 b (fun h:b=S=>hb (by rw [h];exact A8))];exact e
end
section
variable {prog:B60} {w:World} {A:Around} {E:Value->Shared->Prop} {s:Shared}
theorem SetG.fresh {a:Addr} {h:Heap} (e:h.get? a=some (qC3 w)):SetG w a [] h:=
 ⟨#[],0,_,[],e,⟨⟨3,A9 _,rfl⟩,rfl,rfl,rfl,rfl,.nil,fun _ z=>nomatch z⟩,.nil,.refl _,.nil,by decide,by show 0 * 5<7 * 3;decide⟩
theorem qR1 {l:Addr} {items:Array Value} {ns:List Int} {Q:Value->Shared->Prop} (hh:A.handled=none) (hl:s.heap.IsList l items) (hi:B72 items.toList ns) (h4:items.size<=4000)
  (h:∀ (h':Heap) (tk:Nat),SetG w s.heap.objs.size (dedI ns) h'->(∀ b o,s.heap.get? b=some o->h'.get? b=some o)->Q (.ref s.heap.objs.size) { s with heap:=h',toks:=tk }) :
  wpAny (model prog w) A (call (.type "set") [.ref l]) Q E s:=by
 have hlen:ns.length=items.size:=by have:=IntsAre.length hi;simpa using this.symm
 obtain ⟨c,tl,hmro⟩:=Z0.mro;have hmade:=Z0.made;have hsub:=Z0.sub;refine wpAny_call (codeAny_of_tree ?_);show wpAny _ _ (callAny (.type "set") _) _ _ _;refine B58 ⟨Code.quiet_builtin _ (by decide +kernel),B81 F.entry_type_call ?_⟩
 rw [Around.under_plain (weight_type_call_type "set" [.ref l] []) rfl];have h1:=Z0.notType;have h2:=Z0.canCreate;have hct:=F.typeCall_set_1 (.ref l)
 repeat (any_goals (first | assumption | wp_step))
 refine C00 (qS5 (.ref l) (E:=E) (Q₁:=fun obj s₁=>obj=.ref s.heap.objs.size/\s₁={ s with heap:=s.heap.push (qC3 w) }) ⟨rfl,rfl⟩) fun r s₁ hr=>?_;cases r with
 | error e=>exact hr
 | ok fl=>
  cases fl with
  | ret obj=>
   obtain ⟨rfl,rfl⟩:=hr;have hS:(s.heap.push (qC3 w)).get? s.heap.objs.size=some (qC3 w):=B9 _ rfl;have hT:Shared.TypeIs { s with heap:=s.heap.push (qC3 w) } (.ref s.heap.objs.size) "set":=⟨_,hS,rfl⟩;have hli:=Z0.init.lookup;have hbi:=Z0.init.bind (.ref s.heap.objs.size)
   repeat (any_goals (first | assumption | wp_step))
   refine C00 (codeAny_call_builtin (R:=wants (fun r s₂=>r=.none/\∃ h' tk,s₂={ s with heap:=h',toks:=tk }/\SetG w s.heap.objs.size (dedI ns) h'/\
     (∀ b o,s.heap.get? b=some o->h'.get? b=some o)) E) Z0.init.plain F.entry_set_init (check_set_init_1 hT ?_)) fun r₂ s₂ hr₂=>?_
   ·obtain ⟨ol,hol,hcl,nl,hdl⟩:=hl;obtain ⟨ocls,odict,odata,oslots⟩:=ol;simp only at hcl hdl;subst hcl;subst hdl;have hol':(s.heap.push (qC3 w)).get? l=some { cls:=.type "list",dict:=odict,data:=.seq items nl,slots:=oslots }:=A4 _ hol;have hsls:=F.sub_list_set;have hslf:=F.sub_list_frozenset;have hne:(V7 "list" == V7 "dict")=false:=by decide
    have hl1:(s.heap.push (qC3 w)).IsList l items:=⟨_,hol',rfl,nl,rfl⟩;unfold Builtin.«set.__init__» noKeywords B16;generalize hPI:pyIter=PI
    wp_walk
    subst hPI;refine B94 hl1 ?_;refine B57 (wpAny_runValue ?_);have hlS:l<s.heap.objs.size:=C1 hol;have hh3:A.in1.in1.in1.handled=none:=by simp [hh]
    have hneI:l ≠ (s.heap.push (qC3 w)).objs.size:=by
     rw [M8];exact E3 (P7 hlS)
    have hSf:s.heap.objs.size ∉ [(s.heap.push (qC3 w)).objs.size,l]:=by
     rw [M8];simp only [B8,A6,b9,or_false,not_or];exact ⟨E3 (B13 _),d0 hlS⟩
    have hval:∀ (i:Nat) (v:Value),items[i]?=some v->∃ t,v=.int (ns.getD i 0) t:=fun i v hv=>
     t8 hi i v (by rw [F2];exact hv)
    refine qM2 ((A97 hh3 _ l hneI items).toS) s.heap.objs.size hSf ns hlen h4 hval (items.size - 0) 0 _ (by lia) (F8 _)
     ⟨⟨_,B9 _ rfl,rfl,rfl⟩,(hl1.push _)⟩ ?hS0 ?hR
    case hS0=>exact SetG.fresh (A4 _ hS)
    case hR=>
     intro s' hm hS';obtain ⟨h',g',d',tk',os'⟩:=s';have eg:g'=s.gens:=hm.gens;have ed:d'=s.drawn:=hm.drawn;have eo:os'=s.os:=hm.os;subst eg;subst ed;subst eo;show wpAny _ _ _ _ _ _;refine B58 ?_;show wpAny _ _ (ret V5) _ _ _;refine B58 ⟨rfl,h',tk',rfl,hS',fun b o e=>?_⟩;have hb:=C1 e;have hb1:b ≠ s.heap.objs.size:=E3 hb;have hb2:b ≠ (s.heap.push (qC3 w)).objs.size:=by
      rw [M8];exact E3 (P7 hb)
     exact hm.heap b o (by simp only [B8,A6,b9,or_false,not_or];exact ⟨hb1,hb2⟩) (A4 _ (A4 _ e))
   ·cases r₂ with
    | error e=>exact hr₂
    | ok fl₂=>
     cases fl₂ with
     | ret r=>
      obtain ⟨rfl,h',tk,rfl,hS',hk'⟩:=hr₂
      repeat (any_goals (first | assumption | wp_step))
      exact h _ _ hS' hk'
     | next=>exact hr₂
     | brk=>exact hr₂
     | cont=>exact hr₂
  | next=>exact hr
  | brk=>exact hr
  | cont=>exact hr
end
theorem TabG.below_at {b:Bool} {t:B83} {n:Nat} (T:TabG b t n) (i:Nat) (hi:i<=n):F0 t.place (if i=0 then 0 else t.place.getD (i - 1) 0+1)=i:=by
 obtain ⟨b1,b2,b3⟩:=qHF (j:=if i=0 then 0 else t.place.getD (i - 1) 0+1) T.up
 have hs:=T.size;have gd:∀ a c d,a<t.place.size->t.place.getD a c=t.place.getD a d:=fun a c d ha=>by
  rw [F4,F4,C8 ha]
  rfl
 by_cases h0:i=0
 ·rw [if_pos h0] at b1 b2 b3 ⊢;subst h0;apply Nat.eq_zero_of_not_pos;intro z;have:=b2 0 z
  lia
 ·rw [if_neg h0] at b1 b2 b3 ⊢;have h1:¬ F0 t.place (t.place.getD (i - 1) 0+1)<i:=fun z=>by
   have:=b3 (i - 1) (by lia) (by lia)
   rw [gd (i - 1) (t.place.getD (i - 1) 0+1) 0 (by lia)] at this
   lia
  have h2:¬ i<F0 t.place (t.place.getD (i - 1) 0+1):=fun z=>by
   have q:=b2 i z;have:=qXP 0 T.up (i - 1) i (by lia) (by lia)
   rw [gd i (t.place.getD (i - 1) 0+1) 0 (by lia)] at q
   lia
  lia
section
variable {prog:B60} {w:World} {A:Around} {E:Value->Shared->Prop} {s:Shared} {a I:Addr} {es:Array (Int × Value)} {ep:Nat} {t:B83} {i:Nat}
theorem qM3 {Q:Option (Value × Nat)->Shared->Prop} (T:TabG (byT w) t es.size) (h8:es.size<=t.mask) (ho:s.heap.get? a=some { cls:=.type "set",data:=.set es ep t }) (hi:i<=es.size)
  (h:Q (match (qEM w a ep es)[i]? with | some e=>some (e.2,qEO w t (i+1)) | none=>none) s):wpAny (model prog w) A (setNext a (qEO w t i) i ep) Q E s:=by
 have hf:=T.fits h8;unfold setNext;refine B57 (B82 ho rfl hf ?_);dsimp only;unfold setsByText;refine B57 (B57 (C03 (B58 ?_)));show wpAny _ _ (if byT w=true then _ else _) _ _ _
 cases hb:byT w with
 | true=>
  rw [if_pos rfl];simp only [bne_self_eq_false,M4,if_false];refine B57 ?_;unfold setWalk;refine B57 (B82 ho rfl hf ?_);dsimp only;unfold setsByText;refine B57 (B57 (C03 (B58 ?_)));show wpAny _ _ (if byT w=true then _ else _) _ _ _
  rw [hb,if_pos rfl];refine B57 (C03 (B58 (B58 ?_)));have e:qEM w a ep es=(pickOrder (w.params.setOrder a ep) es).toList:=by unfold qEM;rw [if_pos hb]
  have e2:∀ j,qEO w t j=0:=fun j=>by unfold qEO;rw [if_pos hb]
  rw [e,F2,e2] at h;rw [e2];show Q (Option.map _ (pickOrder (w.params.setOrder a ep) es)[i]?) s;cases hx:(pickOrder (w.params.setOrder a ep) es)[i]? with
  | none=>rw [hx] at h;exact h
  | some v=>rw [hx] at h;exact h
 | false=>
  rw [if_neg (by simp)]
  show wpAny _ _ (if (!t.plain && decide (es.size > 1))=true then _ else _) _ _ _
  rw [T.plain];simp only [A85,X7,M4,if_false];refine B57 ?_;show wpAny _ _ (if (!t.led && !es.isEmpty)=true then _ else _) _ _ _
  rw [T.led,hb];simp only [B30,A85,X7,M4,if_false];refine B58 (B58 ?_);have e:qEM w a ep es=es.toList:=by unfold qEM;rw [if_neg (by rw [hb];simp)]
  have e2:∀ j,qEO w t j=if j=0 then 0 else t.place.getD (j - 1) 0+1:=fun j=>by unfold qEO;rw [if_neg (by rw [hb];simp)]
  rw [e,F2] at h;rw [e2,T.below_at i hi];cases hx:es[i]? with
  | none=>rw [hx] at h;exact h
  | some v=>
   rw [hx] at h;have hlt:i<t.place.size:=by rw [T.size];exact (Array.getElem?_eq_some_iff.mp hx).1
   rw [C8 hlt];dsimp only at h ⊢;have e3:qEO w t (i+1)=t.place[i]+1:=by
    rw [e2,if_neg (by lia),d8,F4,C8 hlt]
    rfl
   rw [e3] at h;exact h
theorem qXY {Q:Option Value->Shared->Prop} (T:TabG (byT w) t es.size) (h8:es.size<=t.mask) (hit:SetIt w a I es ep t i s.heap) (hne:a ≠ I) {e:Int × Value} (hx:(qEM w a ep es)[i]?=some e)
  (hQ:∀ h',SetIt w a I es ep t (i+1) h'->(∀ b o,b ≠ I->s.heap.get? b=some o->h'.get? b=some o)->Q (some e.2) { s with heap:=h' }):wpAny (model prog w) A (pyNext (.ref I)) Q E s:=by
 obtain ⟨⟨o,ho,hc,hd⟩,hs⟩:=id hit;have hi:i<es.size:=by
  have:=(A3.mp hx).1;rw [(qEL w a ep es).length_eq,C3] at this;exact this
 unfold pyNext;refine B57 (C04 (wpAny_callSpecial?_slot (name:=J7 "__next__") hit.typeIs slot_si_next (B74 slot_si_next hit.typeIs qGX ?_ (qHW _))));unfold Builtin.«set_iterator.__next__»;refine B57 (B58 ?_);refine B57 (wpAny_fieldsOf ho hd ?_);dsimp only;unfold setEntries;refine B57 (B57 (B82 hs rfl (T.fits h8) (B58 ?_)));rw [if_neg (by simp)]
 simp only [K9];refine B57 (qM3 T h8 hs (Y3 hi) ?_);rw [hx];dsimp only;show wpAny _ _ (setField (.ref I) 0 (rawInt _) >>= _) _ _ s;refine B57 (C11 ho hd (by simp) ?_)
 have g1:=P4 (Obj.mapFields (·.setIfInBounds 0 (rawInt ((qEO w t (i+1):Nat):Int)))) ho (m6 (U2 hd _));have d1:=U2 hd (·.setIfInBounds 0 (rawInt ((qEO w t (i+1):Nat):Int)));refine B57 (C11 g1 d1 (by simp) ?_)
 have g2:=P4 (Obj.mapFields (·.setIfInBounds 1 (rawInt ((i:Int)+1)))) g1 (m6 (U2 d1 _));have d2:=U2 d1 (·.setIfInBounds 1 (rawInt ((i:Int)+1)));refine B58 ⟨_,rfl,B58 (hQ _ ⟨⟨_,g2,(A08 ..).trans ((A08 ..).trans hc),?_⟩,?_⟩ fun b o' hb e=>?_)⟩
 ·rw [d2];simp [rawInt]
 ·exact (J5 _ _ (L8 hne)).trans ((J5 _ _ (L8 hne)).trans hs)
 ·exact (J5 _ _ (L8 hb)).trans ((J5 _ _ (L8 hb)).trans e)
theorem qa1 {Q:Option Value->Shared->Prop} (hh:A.handled=none) (T:TabG (byT w) t es.size) (h8:es.size<=t.mask) (hit:SetIt w a I es ep t es.size s.heap)
  (hQ:∀ h',(∀ b o,b ≠ I->s.heap.get? b=some o->h'.get? b=some o)->Q none { s with heap:=h' }):wpAny (model prog w) A (pyNext (.ref I)) Q E s:=by
 obtain ⟨⟨o,ho,hc,hd⟩,hs⟩:=id hit;unfold pyNext;refine B57 (C04 (wpAny_callSpecial?_slot (name:=J7 "__next__") hit.typeIs slot_si_next (B74 slot_si_next hit.typeIs qGX ?_ (qHW _))));unfold Builtin.«set_iterator.__next__»;refine B57 (B58 ?_);refine B57 (wpAny_fieldsOf ho hd ?_);dsimp only;unfold setEntries;refine B57 (B57 (B82 hs rfl (T.fits h8) (B58 ?_)));rw [if_neg (by simp)]
 simp only [K9];have hx:(qEM w a ep es)[es.size]?=none:=P9 (by rw [(qEL w a ep es).length_eq,C3];exact A9 _)
 refine B57 (qM3 T h8 hs (A9 _) ?_);rw [hx];dsimp only;show wpAny _ _ (setField (.ref I) 2 .none >>= _) _ _ s;refine B57 (C11 ho hd (by simp) ?_)
 show wpAny _ _ (newExc (.type "StopIteration") [] >>= _) _ _ _;refine B57 ?_;simp only [newExc,newTuple];refine B57 (B69 ?_ (by size_fits))
 refine B57 (m:=firstArgMember _ _) (C07 (a:=V5) (by first | rfl | (simp only [firstArgMember];rfl)) ?_)
 refine B69 ?_ (by size_fits)
 simp only [raiseNew];refine B57 (wpAny_handled ?_);rw [show A.in1.handled=none from hh];refine B57 (B58 (wpAny_throw ?_));refine B57 (C18 (T:="StopIteration") (b:=true) ⟨_,B9 _ rfl,rfl⟩ isSubtype_stop ?_);exact B58 (hQ _ (((S0 ..).extBut.push _).push _))
theorem qa0 {Q:Value->Shared->Prop} (T:TabG (byT w) t es.size) (h8:es.size<=t.mask) (hs:s.heap.get? a=some { cls:=.type "set",data:=.set es ep t })
  (hQ:Q (.ref s.heap.objs.size) { s with heap:=s.heap.push { cls:=.type "set_iterator",data:=.fields #[.int 0 0,.int 0 0,.ref a,.int es.size 0,.int ep 0] } }):wpAny (model prog w) A (pyIter (.ref a)) Q E s:=by
 have hT:s.TypeIs (.ref a) "set":=⟨_,hs,rfl⟩;have hf:=T.fits h8;refine wpAny_pyIter_slot hT F.slot_set_iter (B74 F.slot_set_iter hT qJS ?_ (F.args_set_iter_1 _));unfold Builtin.«frozenset.__iter__» B45 B37 setEntries;refine B57 (B57 (B58 ?_));show wpAny _ _ (pure a) _ _ s;refine B58 ?_;refine B57 (B57 (B57 (B82 hs rfl hf (B58 (B58 ?_)))));unfold setDrawn setsByText;refine B57 (B57 (B82 hs rfl hf ?_));dsimp only;refine B57 (B57 (C03 (B58 (B58 ?_))));show wpAny _ _ (if (!byT w && (!t.plain && decide (es.size > 1)))=true then _ else _) _ _ _
 rw [T.plain];simp only [A85,X7,U9,M4,if_false];refine B57 (B58 ?_);unfold setEpoch;refine B57 (B57 (B82 hs rfl hf (B58 ?_)));refine B57 (B69 (B58 ⟨_,rfl,"set_iterator",_,⟨_,B9 _ rfl,rfl⟩,slot_si_next.lookup,?_⟩));simpa [rawInt] using hQ
theorem qZZ (T:TabG (byT w) t es.size) (h8:es.size<=t.mask):PySem.W.KdlSrc prog w "set" a a es.size (fun i v=>∃ e,(qEM w a ep es)[i]?=some e/\v=e.2) (fun h=>h.get? a=some { cls:=.type "set",data:=.set es ep t }) where
 type:=fun s h=>⟨_,h,rfl⟩
 there:=fun h x=>⟨C1 x,C1 x⟩
 keep:=fun h h' x k=>k a (.inl rfl) _ x
 notList:=by decide
 notTuple:=by decide
 hint:=fun A E s Q x q=>qXX ⟨_,x,rfl⟩ q
 iter:=fun A s hh x=>by
  have hne:a ≠ s.heap.objs.size:=E3 (C1 x);refine ⟨_,fun i h=>SetIt w a s.heap.objs.size es ep t i h,fun E Q q=>qa0 T h8 x q,?_,⟨⟨_,B9 _ rfl,rfl,?_⟩,A4 _ x⟩⟩
  ·refine ⟨fun b hb=>?_,fun i h h' st k=>?_,fun i s' Q E hi st q=>?_,fun s' Q E st q=>?_,fun i s' Q E st q=>qXW st q⟩
   ·have e:b=s.heap.objs.size:=by simpa using hb
    simp [e]
   ·obtain ⟨⟨o,h1,h2,h3⟩,h4⟩:=st;exact ⟨⟨o,k _ (by simp) _ h1,h2,h3⟩,k _ (by simp) _ h4⟩
   ·have hl:i<(qEM w a ep es).length:=by rw [(qEL w a ep es).length_eq,C3];exact hi
    refine qXY T h8 st hne (A7 hl) fun h' st' k=>?_;exact q _ h' s'.toks ⟨_,A7 hl,rfl⟩ st' fun b o hb e=>k b o (fun z=>hb (by simp [z])) e
   ·refine qa1 hh T h8 st fun h' k=>?_;exact q h' s'.toks fun b o hb e=>k b o (fun z=>hb (by simp [z])) e
  ·unfold qEO
   split <;> rfl
end
section
variable {X:Cx}
def SetM (w:World) (a:Addr) (zs:List Int):HO:=.ext (SetG w a zs)
theorem qGY (hc:X.calm=true):qC5 X (.type "set") (fun xs H Q=>∃ p ns,xs=[.ref p]/\SqL X.K H p (ns.map V.int)/\ns.length<=4000/\∀ a,H a=none->Q (.ref a) (Ag H a (SetM X.w a (dedI ns)))):=by
 intro Ab s σ H xs us Q I r h;obtain ⟨p,ns,rfl,hq,h4,q⟩:=h;obtain ⟨u,rfl,rx⟩:=qDK r;cases rx;obtain ⟨its,rv,pl,hz⟩:=I.list hq;have hlen:=rv.length;rw [A0] at hlen;refine qR1 (ns:=ns) (I.ok.hd hc) pl.isList (by simpa using qE1 rv) (by simp;lia) fun h' tk hS hk=>?_
 refine ⟨.ref s.heap.objs.size,_,I.laid (t':=tk) hk (A9 _) ?_,rfl,q _ (I.hok.fresh (A9 _))⟩;obtain ⟨es,ep,t,ks,e,_⟩:=id hS;exact ⟨hS,⟨_,e⟩,fun h1 h2 x k=>x.at k⟩
theorem qTO {ks:List Int} {l:List (Int × Value)} (h:Ents ks l):∀ vs:List Value,vs.length=l.length->(∀ (i:Nat) (v:Value),vs[i]?=some v->∃ e:Int × Value,l[i]?=some e/\v=e.2)->B72 vs ks:=by
 induction h with
 | nil=>
  intro vs hl _;have:vs=[]:=Q2.mp hl;subst this;exact .nil
 | cons r t ih=>
  intro vs hl hv;cases vs with
  | nil=>simp at hl
  | cons v vs=>
   obtain ⟨tk,rfl⟩:=r;obtain ⟨e,he,rfl⟩:=hv 0 v rfl;simp at he;subst he;exact IntsAre.cons _ _ (ih vs (by simpa using hl) fun i v hi=>by simpa using hv (i+1) v (by simpa using hi))
theorem qEV (hc:X.calm=true):qC5 X (.builtin "sorted") (fun xs H Q=>∃ p ns,xs=[.ref p]/\H p=some (SetM X.w p ns)/\
  ∀ (a:Addr) (zs:List Int),H a=none->zs.Perm ns->zs.Pairwise (·<=·)->Q (.ref a) (Ag H a (.lst (zs.map V.int)))):=by
 intro Ab s σ H xs us Q I r h;obtain ⟨p,ns,rfl,hq,q⟩:=h;obtain ⟨u,rfl,rx⟩:=qDK r;cases rx;refine A01 kind_sorted plain_sorted entry_sorted (args_sorted1 _) ?_;unfold Builtin.«sorted»;refine B57 (m:=checkCount "sorted" 1 1 _) (B58 ?_);have fin:∀ (s1:Shared) (vs:List Value) (zs:List Int),Inv X Ab σ H s1->B72 vs zs->zs.length<=B59->zs.Perm ns->wpAny (model X.prog X.w) X.A.in1 (do
   let l <- newList vs
   let _ <- holding [l] (call (.builtin "list.sort") [l] [])
   ret l) (fun fin s'=>∃ r,fin=.done (.ret r)/\EP X Ab σ Q r s') X.xe s1:=by
  intro s1 vs zs I1 hv hz hp;have hlen:=IntsAre.length hv;refine B57 (wpAny_newList ?_ (by rw [hlen];exact hz))
  have hf:=I1.hok.fresh (A9 s1.heap.objs.size);refine B57 (B76 (B71 (qS2 (E:=X.xe) (qQK I1 hv hz) fun zs a b=>q _ zs hf (a.trans hp) b) (fun _ s' x=>?_) fun _ _ e=>e));exact B58 ⟨_,rfl,x⟩
 obtain ⟨hS,_,_⟩:=(show ObjOk X.prog X.w H s.heap p (.ext (SetG X.w p ns)) from I.hok p _ hq);obtain ⟨es,ep,t,ks,e,T,he,hp,hnd,h4,full⟩:=hS;have hsz:es.size=ns.length:=SetI.size (a:=p) (h:=s.heap) he hp;obtain ⟨ks',h1,h2⟩:=he.perm (qEL X.w p ep es);have h7:=T.mask7;refine B57 (PySem.W.kdu_collect (A:=X.A.in1) (qZZ (ep:=ep) T (by lia)) (I.ok.hd hc) e (by rw [hsz,B66];lia) fun h' tk acc hk hacc=>?_)
 refine fin _ _ ks' (I.kept (t':=tk) hk) ?_ (by rw [h2.length_eq,hp.length_eq,B66];lia) (h2.trans hp)
 obtain ⟨l1,l2⟩:=hacc;refine qTO h1 acc.toList ?_ fun i v hi=>l2 i v (by rw [<- F2];exact hi)
 rw [C3,l1,(qEL X.w p ep es).length_eq,C3]
theorem qR2 {K:PySem.W.Frag} {w:World} (hK:X.K=K) (hw:X.w=w) (hc:X.calm=true):qC5 X (.type "set") (fun xs H Q=>∃ p ns,xs=[.ref p]/\SqL K H p (ns.map V.int)/\ns.length<=4000/\∀ a,H a=none->Q (.ref a) (Ag H a (SetM w a (dedI ns)))):=by
 subst hK hw;exact qGY hc
theorem qLH {w:World} (hw:X.w=w) (hc:X.calm=true):qC5 X (.builtin "sorted") (fun xs H Q=>∃ p ns,xs=[.ref p]/\H p=some (SetM w p ns)/\
  ∀ (a:Addr) (zs:List Int),H a=none->zs.Perm ns->zs.Pairwise (·<=·)->Q (.ref a) (Ag H a (.lst (zs.map V.int)))):=by
 subst hw;exact qEV hc
end
section
variable {prog:B60} {w:World} {A:Around} {E:Value->Shared->Prop} {s:Shared}
end
section
variable {X:Cx}
end
structure Ex (B:Heap) (l:List Env) (e:Addr) (cls:Value) (dd:Option Addr) (nt:Bool) (h:Heap):Prop where
 stays:B.StaysIn h
 new:B.get? e=none
 frames:h.FunFrames B l
 rec_:∃ (oe:Obj) (vs:Array Value) (x1:Value),h.get? e=some oe/\oe.cls=cls/\oe.dict=dd/\oe.data=.fields vs/\vs[1]?=some x1/\
  ((x1=.none/\nt=false)\/∃ (T:Addr) (oT:Obj) (ts:Array Value) (x3:Value),x1=.ref T/\B.get? T=none/\T ≠ e/\h.get? T=some oT/\oT.data=.fields ts/\ts[3]?=some x3)
section
variable {M:Model} {A:Around} {E:Value->Shared->Prop} {s:Shared} {B:Heap} {env:Env} {outer l:List Env} {L e:Addr} {cls:Value} {dd:Option Addr} {nt:Bool} {Q:Unit->Shared->Prop}
end
def Kp (outer:List Env) (H':Hp) (h0:Heap) (b:Addr):Prop:=(∃ o,H' b=some o)\/((∃ o,h0.get? b=some o)/\b ∉ frs outer)
structure XD (P:B60) (w:World) (outer l:List Env) (H:Hp) (h0:Heap) (e:Addr) (cls:Value) (dd:Option Addr) (H':Hp) (B:Heap) (nt:Bool) (h:Heap):Prop where
 un:Un (frs outer) [] H H' h0 h
 hok:HOk P w H' h
 ex:Ex B l e cls dd nt h
 kp:∀ b o,h.get? b=some o->Kp outer H' h0 b->B.get? b=some o
 ne:H' e=none
 ge:h0.objs.size<=e
def XP (X:Cx) (G:XK) (ev:Value) (s':Shared):Prop:=X.A.frames=some X.stack/\∃ (e:Addr) (cls:Value) (dd:Option Addr) (H':Hp) (B:Heap) (nt:Bool),ev=.ref e/\s'.os=X.s₀.os/\C10 s'.gens/\XD X.prog X.w X.outer X.stack X.H₀ X.s₀.heap e cls dd H' B nt s'.heap/\G cls dd H'
section
variable {X:Cx} {E:XK} {G:XK} {Ab:List (Addr × Obj)} {σ:St} {H:Hp} {s s':Shared}
end
section
variable {P:B60} {w:World} {K:PySem.W.Frag} {mg:Str->Option Value} {base:Heap}
end
section
variable {X:Cx} {Ab:List (Addr × Obj)} {σ:St} {H:Hp} {s:Shared} {ev:Value}
end
section
variable {X:Cx}
end
def bmV:List Value:=[.type "ValueError",.type "Exception",.type "BaseException",.type "object"]
def xcIn (K:PySem.W.Frag) (C:Addr) (init:Option Value):Bool:=match K.lookup C with
 | some ⟨.type "type",_,.cls cd,sl⟩=>(match cd.mro,sl.toList with
  | .ref C'::bm,[_,_,_,_,some (.builtin n),_]=>C' == C && n == "ValueError.__new__" && !cd.hasDel && cd.hasDict && PySem.W.tailIn K bmV bm && PySem.W.nsOkIn K cd.ns && D4 K cd.ns "__init__" == some init
  | _,_=>false)
 | _=>false
structure XCls (K:PySem.W.Frag) (C:Addr) (init:Option Value):Prop where
 cls:xcIn K C init=true
 set:Q7 K (.ref C) "__setattr__" = some (some (.builtin "object.__setattr__"))
 kp:Q8 K (.ref C)=true
section
variable {prog:B60} {w:World} {A:Around} {E:Value->Shared->Prop} {h:Heap} {g:Array C09} {d:Drawn} {t:Nat} {os:OsState} {K:PySem.W.Frag} {C x:Addr} {init:Option Value} {mA:Str->Option Value} {name:Str} {v:Value} {ns:List Str}
end
section
variable {prog:B60} {w:World} {A:Around} {R:Result->Shared->Prop} {h:Heap} {g:Array C09} {d:Drawn} {t:Nat} {os:OsState} {K:PySem.W.Frag} {C fI:Addr} {rest:List Value}
end
section
variable {M:Model} {A:Around} {E:Value->Shared->Prop} {env:Env} {K:PySem.W.Frag} {C:Addr} {init:Option Value}
end
section
variable {X:Cx} {Ab:List (Addr × Obj)} {σ:St} {H:Hp} {s:Shared}
end
section
variable {X:Cx}
end
structure XGet (K:PySem.W.Frag) (C:Addr):Prop where
 ga:Q7 K (.ref C) "__getattribute__" = some (some (.builtin "BaseException.__getattribute__"))
 gt:Q7 K (.ref C) "__getattr__" = some none
 be:A80 K C (.type "BaseException")=some true
 hd:A92 K C=true
section
variable {prog:B60} {w:World} {A:Around} {E:Value->Shared->Prop} {s:Shared} {K:PySem.W.Frag} {x C:Addr} {ox:Obj} {od:Option Obj} {name:Str} {tk:Tok}
end
structure XTy (K:PySem.W.Frag) (C:Addr):Prop extends XGet K C where
 ca:Q7 K (.ref C) "__class__" = some (some (.builtin "object.__class__"))
 cn:A05 K (.builtin "object.__class__") "__get__" = some (some (.builtin "getset_descriptor.__get__"))
 ct:B18 K (.builtin "object.__class__")=some true
 cm:A80 K C (.type "object")=some true
section
variable {K:PySem.W.Frag}
end
section
variable {X:Cx}
end
structure RoomH (k:Nat) (A:Around):Prop where
 dp:A.depth+3 * k+5<recursionLimit
 un:A.units+16 * k+200<cLine
structure FnOkH (P:B60) (w:World) (K:PySem.W.Frag) (mg:Str->Option Value) (base:Heap) (CX:CXT) (k:Nat) (f:Addr) (fd:B65) (ps:List Str) (sp:Sp):Prop where
 len:∀ vs H Q E,sp vs H Q E->vs.length=ps.length
 run:∀ (A:Around) (outer:List Env) (s:Shared) (H:Hp) (args:Args) (us:List Value) (vs:List V) (Q:VK) (E:XK),RoomH k A->Env0 P w K mg base A outer s H->BindsTo s fd args (ps.zip us)->Vals vs us->sp vs H Q E->
  B96 (model P w) A (.call (.ref f) args) (CR CX outer P w H s Q E) s
section
variable {P:B60} {w:World} {K:PySem.W.Frag} {mg:Str->Option Value} {base:Heap}
end
section
variable {X:Cx} {CX:CXT} {k:Nat} {f C:Addr} {fd:B65} {ps:List Str} {sp:Sp} {dvs:List V} {ds:List Value} {E:XK} {x m:Str} {p pos apos:Pos} {e o:Expr} {es:List Expr} {ta:TE} {t:TA}
end
section
variable {X:Cx}
end
section
variable {prog:B60} {w:World} {A:Around} {E:Value->Shared->Prop} {s:Shared}
end
section
variable {X:Cx}
theorem qQ3 (hc:X.calm=true):qC5 X (.builtin "sum") (fun xs H Q=>∃ (p:Addr) (ns:List Int),xs=[.ref p]/\SqL X.K H p (ns.map V.int)/\Q (.int ns.sum) H):=by
 intro Ab s σ H xs us Q I r h;obtain ⟨p,ns,rfl,hq,q⟩:=h;obtain ⟨u,rfl,rx⟩:=qDK r;cases rx;obtain ⟨its,rv,pl,hz⟩:=I.list hq;have hi:=qE1 rv;obtain ⟨xs,hx⟩:=hi.allInts.items;have hl':s.heap.IsList p (intItems xs):=hx ▸ pl.isList;refine sum_intListG (I.ok.hd hc) hl' fun h' tk t' hk=>?_;have e1:ns=xs.toList.map (·.1):=by
  rw [<- nums_intItems,<- hx];exact (show numsOf its.toArray.toList=ns from hi.numsOf).symm
 have e2:preSum (numAt xs) xs.size=ns.sum:=by
  rw [preSum_eq,E6 (by simp),e1]
 rw [e2];exact ⟨.int ns.sum,H,I.kept fun b o e=>hk b o e,⟨_,rfl⟩,q⟩
end
structure LcScopeO (X:Cx) (scope:Scope) (own:List Str) (fv:List Nat):Prop where
 kind:scope.kind=.function
 names:∀ y ∈ scope.names,y.2=.local->scope.names.lookup y.1=some .local
 cells:∀ y ∈ scope.names,y.2=.cell->scope.names.lookup y.1=some .cell
 frees:∀ y ∈ scope.names,y.2=.free->scope.names.lookup y.1=some .free
 free:∀ y ∈ scope.names,y.2=.free->X.env.kindOf y.1=some .cell\/X.env.kindOf y.1=some .free
 nd:(own++fv.map fun i=>X.N.getD i Y4).Nodup
 fvs:∀ i ∈ fv,i<X.N.length/\scope.names.lookup (X.N.getD i Y4)=some .free
 owns:∀ x ∈ own,scope.names.lookup x=some .local\/scope.names.lookup x=some .cell
section
variable {X:Cx} {Ab:List (Addr × Obj)} {σ:St} {H:Hp} {s:Shared}
end
section
variable {X:Cx} {tg iter elt:Expr} {ifs:List Expr} {scope:Scope} {pos:Pos} {own:List Str} {fv:List Nat} {wi:TI} {g:TG} {tc:TT} {te:TE}
end
section
variable {prog:B60} {w:World} {A:Around} {R:Result->Shared->Prop} {I:Addr} {fp wr:List Addr} {n:Nat} {P:Nat->Value->Prop} {St:Nat->Heap->Prop}
end
section
variable {prog:B60} {w:World} {A:Around} {E:Value->Shared->Prop} {s:Shared}
end
section
variable {X:Cx}
end
theorem qXK:B67 "any" = some (.builtin "any"):=by decide +kernel
theorem qXI:B67 "sum" = some (.builtin "sum"):=by decide +kernel
theorem qQF (bs:List Bool):((G5 bs.length).any fun i=>(bs[i]?).getD false)=bs.any id:=by
 rw [O7,O2,O2]
 constructor
 ·rintro ⟨i,hi,h⟩;have hi':=E9.mp hi;rw [A7 hi'] at h;exact ⟨_,o5 hi',h⟩
 ·rintro ⟨b,hb,h⟩;obtain ⟨i,hi,e⟩:=T3 hb;exact ⟨i,E9.mpr hi,by rw [A7 hi,e];exact h⟩
section
variable {X:Cx}
theorem qQ4 (hc:X.calm=true):qC5 X (.builtin "any") (fun xs H Q=>∃ (p:Addr) (bs:List Bool),xs=[.ref p]/\SqL X.K H p (bs.map V.bl)/\Q (.bl (bs.any id)) H):=by
 intro Ab s σ H xs us Q I r h;obtain ⟨p,bs,rfl,hq,q⟩:=h;obtain ⟨u,rfl,rx⟩:=qDK r;cases rx;obtain ⟨its,rv,pl,hz⟩:=I.list hq;have hl:=pl.isList;have hlt:p<s.heap.objs.size:=by obtain ⟨_,e,_⟩:=hl;exact C1 e
 have hlen:=rv.length;rw [A0] at hlen;refine call_any_walk (B94 hl ?_);refine ⟨s.heap.objs.size,[s.heap.objs.size,p],[s.heap.objs.size],its.toArray.size,_,_,fun i=>(bs[i]?).getD false,rfl,A97 (A:=X.A.in1) (I.ok.hd hc) _ p (E3 hlt) its.toArray,
  ⟨⟨_,B9 _ rfl,rfl,rfl⟩,hl.push _⟩,fun i v s' Q' E' hP hQ=>?_,fun h' tk hk=>?_⟩
 ·have hP':its[i]?=some v:=by simpa using hP
  have hi:i<bs.length:=by rw [hlen];exact (A3.mp hP').1
  obtain ⟨u,hu,ru⟩:=rv.get (i:=i) (x:=.bl bs[i]) (by rw [C4,A7 hi];rfl)
  rw [hP'] at hu;cases hu;cases ru;dsimp only at hQ;rw [A7 hi,o6] at hQ;exact B78 hQ
 ·have e:((G5 its.toArray.size).any fun i=>(bs[i]?).getD false)=bs.any id:=by
   rw [B4,<- hlen];exact qQF bs
  refine ⟨.bl (bs.any id),H,I.kept fun b x e=>hk b x (fun hm=>by rw [A6.mp hm] at e;exact X1 _ (C1 e)) (A4 _ e),?_,q⟩
  rw [e]
  rfl
end
section
variable {prog:B60} {w:World} {A:Around} {E:Value->Shared->Prop} {s:Shared}
end
section
variable {X:Cx}
def qcR (H:Hp) (a:Addr) (xs:List V):Prop:=∃ o:Obj,H a=some (.frz o (.tup xs))/\o.cls=.type "tuple"/\o.dict=none
theorem qQJ (hu:X.A.units<cLine):OpR X (B75 .NotEq) (fun x y H Q=>∃ p l xs,x=.ref p/\y=.ref l/\SqT X.K H p xs/\SqT X.K H l []/\Q (.bl (!xs.isEmpty)) H):=by
 intro Ab s σ H x y v u Q I rx ry h;obtain ⟨p,l,xs,rfl,rfl,h1,h2,q⟩:=h;cases rx;cases ry;obtain ⟨its,r1,p1,z1⟩:=I.tuple h1;obtain ⟨its2,r2,p2,z2⟩:=I.tuple h2;cases r2;cases r1 with
 | nil=>exact A02 (e:=fun _=>true) p1 p2 hu (fun j h _=>absurd h (by simp)) _ _ _ _ ⟨.bl false,H,I,rfl,q⟩
 | cons a r=>exact A02 (e:=fun _=>true) p1 p2 hu (fun j _ h=>absurd h (by simp)) _ _ _ _ ⟨.bl true,H,I,rfl,q⟩
def qY0:V->List V->Hp->VK->Prop:=fun x vs H Q=>∃ (l:Addr) (zs:List Int) (y:Int) (j:Nat),x=.ref l/\vs=[.int y]/\H l=some (.lst (zs.map V.int))/\zs[j]?=some y/\(∀ i,i<j->zs[i]? ≠ some y)/\Q .non (Ag H l (.lst ((zs.eraseIdx j).map V.int)))
theorem qSQ:MtM X "list.remove" qY0:=by
 intro Ab s σ H x vs v us Q I rx rv h;obtain ⟨l,zs,y,j,rfl,rfl,hH,hj,hn,q⟩:=h;cases rx;obtain ⟨u,rfl,ru⟩:=rv.one;obtain ⟨t,rfl⟩:=ru;obtain ⟨z,its,n,r,hl,e⟩:=I.lstM hH;have hlen:=r.length;rw [A0] at hlen;have hj1:j<zs.length:=(A3.mp hj).1;have hjs:j<its.toArray.size:=by simp;lia
 have isz:∀ (m:Nat) (hm:m<its.toArray.size),∃ (k:Int) (tk:Tok),its.toArray[m]=.int k tk/\zs[m]?=some k:=by
  intro m hm;have hm':m<zs.length:=by simp at hm;lia
  obtain ⟨u,eu,tk,ru⟩:=r.get (i:=m) (x:=.int zs[m]) (by rw [C4,A7 hm'];rfl)
  refine ⟨zs[m],tk,?_,A7 hm'⟩;rw [List.getElem_toArray,<- ru];exact (A3.mp eu).2
 let ev:Value->Bool:=fun v=>match v with | .int k _=>k == y | _=>false
 refine B95 F.slot_list_remove ⟨_,e,rfl⟩ F.entry_list_remove (F.args_list_remove_2 _ _) (MeetsSeq.list_remove l its.toArray n (.int y t) ev (fun v hv=>?_) j hjs ?_ (fun m hm hlt=>?_) (by rw [B4,<- hl];exact z)) ⟨e,?_⟩
 ·obtain ⟨m,hm,em⟩:=Array.getElem_of_mem hv;obtain ⟨k,tk,e1,e2⟩:=isz m hm;rw [<- em,e1];exact B50 k y tk t
 ·obtain ⟨k,tk,e1,e2⟩:=isz j hjs;rw [e1];rw [hj] at e2;cases e2;exact beq_self_eq_true _
 ·obtain ⟨k,tk,e1,e2⟩:=isz m hm;rw [e1];have:k ≠ y:=fun z=>hn m hlt (by rw [e2,z])
  show (k == y)=false;simpa using this
 ·have er:((zs.map V.int).eraseIdx j)=(zs.eraseIdx j).map V.int:=by rw [O6,O6,B2,A86,A87]
  rw [<- er] at q;refine ⟨.non,_,I.lset (its':=its.eraseIdx j) hH e ?_ (r.eraseIdx j) ?_,rfl,q⟩
  ·show its.toArray.eraseIdxIfInBounds j=(its.eraseIdx j).toArray;rw [W2]
  ·have:=qJ2 (zs.map V.int) j
   lia
end
end L2
namespace HT
open PySem PySem.Spec PyProof.Rows
section
variable {prog:B60} {w:World} {A:Around} {E:Value->Shared->Prop} {s:Shared}
end
end HT
namespace L2
open PySem PySem.Spec PyProof.Rows
section
variable {X:Cx}
end
section
variable {A:Around} {s:Shared}
end
section
variable {X:Cx}
end
section
variable {X:Cx} {e:Expr} {te:TE} {st:Option Expr} {tst:TO} {pos p2:Pos}
end
section
variable {X:Cx}
end
section
variable {prog:B60} {w:World} {A:Around} {E:Value->Shared->Prop} {s:Shared}
end
section
variable {X:Cx}
theorem qIN:∀ (as:List Addr),Vals (as.map V.ref) (as.map E2)
 | []=>.nil
 | _::as=>.cons rfl (qIN as)
end
section
variable {prog:B60} {w:World} {A:Around} {R:Result->Shared->Prop} {h:Heap} {g:Array C09} {d:Drawn} {t:Nat} {os:OsState} {K:PySem.W.Frag} {C fI:Addr} {rest:List Value}
end
section
variable {X:Cx}
def TB:Type:=(St->XK)->TS
end
section
variable {prog:B60} {w:World} {A:Around} {E:Value->Shared->Prop} {s:Shared}
end
section
variable {X:Cx} {pos:Pos}
end
section
variable {X:Cx} {tg:Expr}
end
section
variable {prog:B60} {w:World} {A:Around} {E:Value->Shared->Prop} {s:Shared} {it d:Addr} {i n ep:Nat} {od:Obj} {es:Array DictEntry}
end
section
variable {X:Cx} {tg:Expr}
end
section
variable {X:Cx} {k v:Expr} {tk tv:TE} {pos:Pos}
end
section
variable {X:Cx} {Ab:List (Addr × Obj)} {σ:St} {H:Hp} {s:Shared}
structure LmScope (X:Cx) (scope:Scope) (p:Str) (fv:List Nat):Prop where
 kind:scope.kind=.function
 co:scope.isCoroutine=false
 gen:scope.isGenerator=false
 nocell:∀ y ∈ scope.names,y.2 ≠ .cell
 par:scope.names.lookup p=some .local
 free:∀ y ∈ scope.names,y.2=.free->X.env.kindOf y.1=some .cell\/X.env.kindOf y.1=some .free
 fvs:∀ i ∈ fv,i<X.N.length/\scope.names.lookup (X.N.getD i Y4)=some .free
structure LmZ where
 A:Around
 f:Addr
 cd:Value
 s₀:Shared
 H₀:Hp
 rm:Room 0 A
def qYK (fv:List Nat) (σ:St) (x:V):St:=some x::fv.map fun i=>(σ[i]?).join
end
abbrev Sm0 (H H':Hp):Prop:=∀ b o,H b=some o->H' b=some o
section
variable {X:Cx}
structure KCmp (X:Cx) (KR:Hp->V->List Int->Prop):Prop where
 mono:∀ H H' y k,Sm0 H H'->KR H y k->KR H' y k
 cmp:∀ (Ab:List (Addr × Obj)) (σ:St) (s:Shared) (H:Hp) (y y':V) (u u':Value) (k k':List Int) (Q:Value->Shared->Prop) (E:Value->Shared->Prop),Inv X Ab σ H s->RelV y u->RelV y' u'->KR H y k->KR H y' k'->Q (.bool (HT.lexLt k k')) s->
  wpAny (model X.prog X.w) X.A.in1 (richCompare .Lt u u') Q E s
structure KeyAt (X:Cx) (σ:St) (fv:List Nat) (te:TE) (KR:Hp->V->List Int->Prop) (H0:Hp) (xs:List V) (ks:List (List Int)):Prop where
 len:ks.length=xs.length
 key:∀ (i:Nat) (x:V) (k:List Int),xs[i]?=some x->ks[i]?=some k->∀ Hc,Sm0 H0 Hc->te (qYK fv σ x) Hc fun y H'=>Sm0 Hc H'/\KR H' y k
section
variable {Ab:List (Addr × Obj)} {σ:St} {params:Arguments} {body:Expr} {scope:Scope} {p:Str} {fv:List Nat} {q:Str} {te:TE} {KR:Hp->V->List Int->Prop} {l f cc:Addr} {ctv:Value} {H0:Hp} {xs:List V} {ks:List (List Int)} {Q:VK}
end
end
structure LTab where
 x:Str
 c:Addr
 P:Addr
 q:Str
section
variable {prog:B60} {w:World} {A:Around} {E:Value->Shared->Prop} {s:Shared}
end
section
variable {X:Cx}
end
section
open PySem.SeqAt
open PySem.AutoSeq1 (wpAny_loadPart')
open PySem.MeetsSeq PySem.MeetsSeq2 PySem.MeetsSeq3
end
section
variable {X:Cx}
end
end L2
namespace L2.G
open PySem PySem.Spec PyProof.Rows
section
variable [NM]
variable {prog:B60} {w:World} {A:Around} {E:Value->Shared->Prop} {s:Shared}
theorem qH6 {vs:List Value}:∀ p ∈ (B80 vs).toList,p.1=p.2:=by
 intro p hp;unfold B80 at hp;rw [B14] at hp
 induction vs with
 | nil=>cases hp
 | cons v vs ih=>
  rcases B8.mp hp with h | h
  ·rw [h]
  ·exact ih h
theorem qMB (vs:List Value):(B80 vs).toList.map (·.2)=vs:=by
 unfold B80;rw [B14,List.map_snd_zip (by simp)]
theorem qSH {vs:List Value} {xs:Array Keyed} (px:xs.Perm (B80 vs)) (sx:gSortedTo xs (B80 vs).size):(xs.map (·.2)).toList.Perm vs/\(xs.map (·.2)).toList.Pairwise (fun u v=>NM.nm u<=NM.nm v):=by
 have p2:=Z7.mp px
 constructor
 ·have:=p2.map (·.2);rw [qMB] at this;rw [B15];exact this
 ·rw [B15,M9,P0];intro i j hi hj hij;have hs:=px.size_eq;have hi2:i<xs.size:=by simpa using hi
  have hj2:j<xs.size:=by simpa using hj
  have a:=sx i j (Y3 hij) (by lia)
  rw [qYY hi2,qYY hj2] at a;have ei:=qH6 _ (p2.mem_iff.mp (show xs[i] ∈ xs.toList by simp))
  have ej:=qH6 _ (p2.mem_iff.mp (show xs[j] ∈ xs.toList by simp))
  rw [ei,ej] at a;simpa using a
theorem qP3 {κ0:B88} {a:Addr} {vs:List Value} {n:Nat} {P:Fin->Shared->Prop} (e0:s.heap.get? a=some (seqObj "list" vs.toArray n)) (hz:vs.length<=B59) (gd:∀ v ∈ vs,NM.good v)
  (hk:∀ h':Heap,(∀ (b:Addr) (o:Obj),b ≠ a->s.heap.get? b=some o->h'.get? b=some o)->2<=vs.length->(∀ {Q:B88->Shared->Prop},Q κ0 { s with heap:=h' }->wpAny (model prog w) A (keyKind' vs.toArray) Q E { s with heap:=h' })/\LtOk prog w A { s with heap:=h' } κ0)
  (h:∀ (out:Array Value),out.toList.Perm vs->out.toList.Pairwise (fun u v=>NM.nm u<=NM.nm v)->P (.done (.ret .none)) { s with heap:=sortedHeap s.heap a vs out }):wpAny (model prog w) A (Builtin.«list.sort» ⟨[.ref a],[]⟩) P E s:=by
 have la:=C1 e0;have z0:vs.toArray.size<=B59:=by simpa using hz
 rw [list_sort_plain];refine B57 (listItems_at e0 rfl (B57 (C05 e0 rfl ?_ z0 (F8 _))));have e1:∃ k,(s.heap.update a (R7 fun _=>#[])).get? a=some (seqObj "list" #[] k):=⟨_,get?_update_seq e0 fun _=>#[]⟩;obtain ⟨k,e1⟩:=e1;refine B57 (C16 e1 rfl (B57 (C12 ?_ (by simpa using hz))))
 refine B57 (wpAny_newList (B76 ?_));have e2:(((s.heap.update a (R7 fun _=>#[])).push (seqObj "tuple" vs.toArray 0)).push (seqObj "list" #[] 0)).get? a=some (seqObj "list" #[] k):=by
  rw [k7,k7]
  ·exact e1
  ·rw [o8];exact E3 la
  ·rw [size_push',o8];exact E3 (P7 la)
 have kept:∀ (b:Addr) (o:Obj),b ≠ a->s.heap.get? b=some o->(((s.heap.update a (R7 fun _=>#[])).push (seqObj "tuple" vs.toArray 0)).push (seqObj "list" #[] 0)).get? b=some o:=fun b o hb q=>
  A4 _ (A4 _ ((Heap.get?_update_ne _ _ _ _ hb).trans q))
 have last:∀ xs:Array Keyed,xs.Perm (B80 vs)->gSortedTo xs (B80 vs).size->P (.done (.ret .none)) { s with heap:=sortedHeap s.heap a vs (xs.map (·.2)) }:=by
  intro xs px sx;obtain ⟨q1,q2⟩:=qSH px sx;exact h _ q1 q2
 have sz:∀ xs:Array Keyed,xs.Perm (B80 vs)->(xs.map (·.2)).size<=B59+1:=by
  intro xs px;rw [A00,px.size_eq,pairsOf_size]
  lia
 show wpAny _ A _ P E { s with heap:=((s.heap.update a (R7 fun _=>#[])).push (seqObj "tuple" vs.toArray 0)).push (seqObj "list" #[] 0) };dsimp only;by_cases few:vs.toArray.size<2
 ·simp only [if_pos few];refine B57 (B58 ?_);rw [B20];refine B57 (B58 (B57 (C16 e2 rfl (B57 (C05 e2 rfl ?_ (F8 _) (sz (B80 vs) (.refl _)))))));simp only [bne_self_eq_false,M4,if_false];refine B58 (last (B80 vs) (.refl _) fun i j hij hj=>?_);rw [pairsOf_size] at hj;rw [B4] at few;rw [show i=j by lia]
  exact M6 _
 ·simp only [if_neg few];rw [B4] at few;obtain ⟨hk1,hk2⟩:=hk _ kept (by lia)
  have ik:qBS (B80 vs):=fun p hp=>by
   have m:=A72 (f:=(·.2)) hp;rw [qMB] at m;rw [qH6 p hp];exact gd _ m
  refine B57 (hk1 (B57 (B71 (gwpS_runs (κ0:=κ0) (a₀:=B80 vs) (Q:=fun _ st2=>gSG κ0 (B80 vs) st2/\gSortedTo (arrOf st2) (B80 vs).size) ik ⟨.refl _,rfl,rfl⟩ rfl fun st2 g u=>⟨g,u⟩) ?_ fun _ _ x=>x)));rintro ⟨_,st2⟩ s2 ⟨es,g,u⟩;cases (show s2=_ from es);refine B57 (C16 e2 rfl (B57 (C05 e2 rfl ?_ (F8 _) (sz _ g.perm))));dsimp only;rw [g.failed];simp only [bne_self_eq_false,M4,if_false];exact B58 (last _ g.perm u)
end
theorem qK7:∀ a:List Int,HT.lexLt a a=false
 | []=>rfl
 | x::a=>by rw [HT.lexLt_cons,if_pos rfl];exact qK7 a
theorem qJ1:∀ a b c:List Int,HT.lexLt a b=true->HT.lexLt b c=true->HT.lexLt a c=true
 | [],[],_,h,_=>by cases h
 | [],_::_,[],_,h=>by cases h
 | [],_::_,_::_,_,_=>rfl
 | _::_,[],_,h,_=>by cases h
 | _::_,_::_,[],_,h=>by cases h
 | x::a,y::b,z::c,h1,h2=>by
  rw [HT.lexLt_cons] at h1 h2 ⊢;by_cases e1:x=y
  ·subst e1;rw [if_pos rfl] at h1;by_cases e2:x=z
   ·rw [if_pos e2] at h2 ⊢;exact qJ1 a b c h1 h2
   ·rw [if_neg e2] at h2 ⊢;exact h2
  ·rw [if_neg e1] at h1;have h1:=of_decide_eq_true h1;by_cases e2:y=z
   ·subst e2;rw [if_neg e1];exact decide_eq_true h1
   ·rw [if_neg e2] at h2;have h2:=of_decide_eq_true h2;rw [if_neg (by lia)]
    exact decide_eq_true (by lia)
theorem lexLt_tri:∀ a b:List Int,HT.lexLt a b=false->HT.lexLt b a=false->a=b
 | [],[],_,_=>rfl
 | [],_::_,h,_=>by cases h
 | _::_,[],_,h=>by cases h
 | x::a,y::b,h1,h2=>by
  rw [HT.lexLt_cons] at h1 h2;by_cases e:x=y
  ·subst e;rw [if_pos rfl] at h1 h2;rw [lexLt_tri a b h1 h2]
  ·rw [if_neg e] at h1;rw [if_neg (fun z=>e z.symm)] at h2;have:=of_decide_eq_false h1;have:=of_decide_eq_false h2
   lia
def qI0 (L:List (List Int)) (a:List Int):Int:=(((L.filter fun x=>HT.lexLt x a).length:Nat):Int)
theorem qGJ {α:Type} {p q:α->Bool}:∀ {L:List α},(∀ x ∈ L,p x=true->q x=true)->(∃ x ∈ L,p x=false/\q x=true)->(L.filter p).length<(L.filter q).length
 | [],_,⟨x,hx,_⟩=>nomatch hx
 | y::L,h,⟨x,hx,h1,h2⟩=>by
  have le:∀ {M:List α},(∀ x ∈ M,p x=true->q x=true)->(M.filter p).length<=(M.filter q).length:=by
   intro M hM
   induction M with
   | nil=>exact A9 _
   | cons z M ih=>
    have i:=ih fun x hx=>hM x (B0 _ hx);rw [T9,T9];cases ep:p z
    ·cases q z
     ·simpa using i
     ·simp;lia
    ·rw [hM z (by simp) ep]
     simpa using i
  rw [T9,T9];rcases B8.mp hx with e | e
  ·subst e;have:=le fun x hx=>h x (B0 _ hx);rw [h1,h2];simp
   lia
  ·have i:=qGJ (fun x hx=>h x (B0 _ hx)) ⟨x,e,h1,h2⟩;cases ep:p y
   ·cases q y
    ·simpa using i
    ·simp;lia
   ·rw [h y (by simp) ep]
    simpa using i
theorem qS8 {L:List (List Int)} {a b:List Int} (ha:a ∈ L) (h:HT.lexLt a b=true):qI0 L a<qI0 L b:=by
 unfold qI0;have:=qGJ (p:=fun x=>HT.lexLt x a) (q:=fun x=>HT.lexLt x b) (L:=L) (fun x _ hx=>qJ1 _ _ _ hx h) ⟨a,ha,qK7 a,h⟩
 lia
theorem qPA {L:List (List Int)} {a b:List Int} (ha:a ∈ L) (hb:b ∈ L):decide (qI0 L a<qI0 L b)=HT.lexLt a b:=by
 cases h:HT.lexLt a b with
 | true=>exact decide_eq_true (qS8 ha h)
 | false=>
  refine decide_eq_false fun z=>?_;cases h2:HT.lexLt b a with
  | true=>have:=qS8 hb h2;lia
  | false=>rw [lexLt_tri a b h h2] at z;lia
def qVR (xs:List V):List Int:=xs.map fun | .int i=>i | _=>0
theorem qTA (t:List Int):qVR (t.map V.int)=t:=by
 unfold qVR;rw [P8];exact (J2 fun x _=>rfl).trans (B25 _)
def keyH (H:Hp):Value->List Int
 | .ref r=>match H r with
  | some (.tup xs)=>qVR xs
  | _=>[]
 | _=>[]
@[reducible] def tupNM (H:Hp) (L:List (List Int)):NM:=⟨fun v=>qI0 L (keyH H v),fun v=>∃ r t,v=.ref r/\H r=some (.tup (t.map V.int))/\t ∈ L⟩
theorem qL6 {H:Hp} {r:Addr} {t:List Int} (h:H r=some (.tup (t.map V.int))):keyH H (.ref r)=t:=by
 show (match H r with | some (.tup xs)=>qVR xs | _=>[])=t
 rw [h];exact qTA t
section
variable {prog:B60} {w:World} {A:Around} {E:Value->Shared->Prop} {s:Shared}
theorem qSM {x y:Addr} {xs ys:Array Value} {ns ms:List Int} {Q:Bool->Shared->Prop} (hu:A.units<cLine) (hx:IsTup s.heap x xs) (hy:IsTup s.heap y ys) (ix:B72 xs.toList ns) (iy:B72 ys.toList ms) (h:Q (HT.lexLt ns ms) s):wpAny (model prog w) A (oneLt' true (.ref x) (.ref y)) Q E s:=by
 rw [oneLt'_eq];simp only [if_true];obtain ⟨⟨cls,dd,data,sl⟩,ho,hc,n,hd⟩:=id hx;obtain ⟨⟨cls2,dd2,data2,sl2⟩,ho2,hc2,n2,hd2⟩:=id hy;simp only at hc hd hc2 hd2;subst hc hd hc2 hd2;refine B57 (wpAny_cRoomFor hu ?_);refine B57 (wpAny_callSpecialIfBound?_slot ⟨_,ho,rfl⟩ A50 (B95 A50 ⟨_,ho,rfl⟩ PySem.F.entry_tuple_lt (PySem.F.args_tuple_lt_2 _ _) (HT.tuple_lt_ints x y xs ys n n2 dd dd2 sl sl2 ns ms ix iy) ⟨ho,ho2,?_⟩));exact B78 h
theorem qJ4 {b:Bool} {Q:Bool->Shared->Prop}:∀ {vs ws:List Value} {ns ms:List Int} {i:Nat} {fin:Bool},B72 vs ns->B72 ws ms->
  (fin=decide (vs.length<ws.length))->Q (HT.lexLt ns ms) s->PySem.W.KatLex prog w A b fin Q (vs.zip ws) i s
 | _,_,_,_,i,fin,.nil,.nil,ef,h=>by
  rw [ef];exact A51 h
 | _,_,_,_,i,fin,.nil,.cons _ _ _,ef,h=>by
  rw [ef];exact A51 h
 | _,_,_,_,i,fin,.cons _ _ _,.nil,ef,h=>by
  rw [ef];exact A51 h
 | _,_,_,_,i,fin,.cons (vs:=vs) (ns:=ns) x t hv,.cons (vs:=ws) (ns:=ms) y u hw,ef,h=>by
  rw [x6];refine PySem.W.kat_cons (wpAny_eqBool_int ?_);rw [HT.lexLt_cons] at h;by_cases e:x=y
  ·rw [if_pos e] at h;rw [beq_iff_eq.mpr e];refine PySem.W.kat_yes (qJ4 hv hw ?_ h);rw [ef];simp
  ·rw [if_neg e] at h;rw [beq_eq_false_iff_ne.mpr e];refine PySem.W.kat_no ?_;cases eb:(b && i == 0) with
   | true=>exact oneLt_int h
   | false=>exact PySem.W.kat_one _ _ (lt_int h)
theorem qQR {x y:Addr} {xs ys:Array Value} {ns ms:List Int} {b:Bool} {Q:Bool->Shared->Prop} (hx:IsTup s.heap x xs) (hy:IsTup s.heap y ys) (ix:B72 xs.toList ns) (iy:B72 ys.toList ms) (h:Q (HT.lexLt ns ms) s):wpAny (model prog w) A (keyLt' (tuples' b) (.ref x) (.ref y)) Q E s:=by
 obtain ⟨o,ho,hc,n,hd⟩:=id hx;obtain ⟨o2,ho2,hc2,n2,hd2⟩:=id hy;refine PySem.W.kat_lt ho hd ho2 hd2 (qJ4 ix iy ?_ h);simp
theorem qT1 {rs:List Addr} {ts:List (List Int)} {Q:B88->Shared->Prop} (h:Paired (fun (r:Addr) (t:List Int)=>∃ xs:Array Value,IsTup s.heap r xs/\B72 xs.toList t) rs ts) (hne:∀ t ∈ ts,t ≠ []) (h2:2<=rs.length)
  (q:Q (tuples' true) s):wpAny (model prog w) A (keyKind' (rs.map E2).toArray) Q E s:=by
 have tu:∃ fs,PySem.W.KatTups s.heap (rs.map E2) fs/\fs.length=rs.length/\∀ v ∈ fs,∃ n t,v=.int n t:=by
  clear h2
  induction h with
  | nil=>exact ⟨[],trivial,rfl,fun _ z=>nomatch z⟩
  | @cons r t l1 l2 a _ ih=>
   obtain ⟨fs,k1,k2,k3⟩:=ih fun t ht=>hne t (B0 _ ht);obtain ⟨xs,⟨o,ho,hc,n,hd⟩,ia⟩:=a;have ht:t ≠ []:=hne t (by simp)
   obtain ⟨xs⟩:=xs;cases ia with
   | nil=>exact absurd rfl ht
   | cons x tk rest=>
    refine ⟨.int x tk::fs,.cons ho hc hd rfl k1,by simp [k2],fun v hv=>?_⟩
    rcases B8.mp hv with e | e
    ·exact ⟨x,tk,e⟩
    ·exact k3 v e
 obtain ⟨fs,k1,k2,k3⟩:=tu;refine PySem.W.kat_kind (T:=.type "int") k1 (by lia) (fun v hv=>?_) rfl ?_
 ·obtain ⟨n,t,rfl⟩:=k3 v hv;exact .now
 ·exact q
theorem qKD:∀ (rs:List Addr) {Q:List (Option Value)->Shared->Prop},(∀ r ∈ rs,∃ xs:Array Value,IsTup s.heap r xs)->(∀ L,Q L s)->wpAny (model prog w) A ((rs.map E2).mapM firstOfTuple') Q E s
 | [],_,_,h=>by rw [Y6,List.mapM_nil];exact B58 (h _)
 | r::rs,Q,t,h=>by
  obtain ⟨xs,o,ho,hc,n,hd⟩:=t r (by simp)
  rw [E8,B32];refine B57 ?_;rw [A58];refine B57 (y4 (show PySem.W.Looks (model prog w) s.heap (typeOf (.ref r)) o.cls from (A33 ho).andThen .now) ?_);rw [hc,if_neg (by first | decide | simp)]
  refine B57 (listItems_at ho hd (B58 ?_));exact B57 (qKD rs (Q:=fun bs s'=>wpAny (model prog w) A (pure (xs[0]?::bs)) Q E s') (fun r hr=>t r (B0 _ hr)) fun L=>B58 (h _))
theorem qQQ {r0:Addr} {rs:List Addr} {Q:B88->Shared->Prop} (h0:IsTup s.heap r0 #[]) (h:∀ r ∈ rs,∃ xs:Array Value,IsTup s.heap r xs)
  (q:Q oneType' s):wpAny (model prog w) A (keyKind' ((r0::rs).map E2).toArray) Q E s:=by
 rw [kat_kind_eq,A99,map_eq_pure_bind,E8,B32];obtain ⟨o,ho,hc,n,hd⟩:=id h0;refine B57 (B57 (B57 ?_));rw [A58];refine B57 (y4 (show PySem.W.Looks (model prog w) s.heap (typeOf (.ref r0)) o.cls from (A33 ho).andThen .now) ?_);rw [hc,if_neg (by first | decide | simp)]
 refine B57 (listItems_at ho hd (B58 ?_));refine B57 (qKD rs h fun L=>B58 (B58 ?_));have e1:((((#[]:Array Value)[0]?)::L).toArray.all fun x=>x.isSome)=false:=by simp
 have e2:((((((#[]:Array Value)[0]?)::L).toArray)[0]?).bind id).isSome=false:=by simp
 rw [if_neg (by rw [e1];exact B5),if_neg (by rw [e2];exact B5)]
 rw [oneTypeOnly'_eq,A99,map_eq_pure_bind];refine B57 (B57 (B57 (PySem.W.kas_mapM (r:=V7 "tuple") _ (fun v hv Q' hq=>?_) (B58 ?_))))
 ·rw [<- E8] at hv;obtain ⟨r,hr,rfl⟩:=D7.mp hv;have:∃ xs:Array Value,IsTup s.heap r xs:=by
   rcases B8.mp hr with e | e
   ·rw [e];exact ⟨_,h0⟩
   ·exact h r e
  obtain ⟨xs,o2,ho2,hc2,n2,hd2⟩:=this;refine y4 (show PySem.W.Looks (model prog w) s.heap (typeOf (.ref r)) o2.cls from (A33 ho2).andThen .now) ?_;rw [hc2];exact hq
 ·have h0':(B46 (fun _=>V7 "tuple") (E2 r0::B46 E2 rs)).toArray[0]?=some (V7 "tuple"):=by simp
  have hall2:((B46 (fun _=>V7 "tuple") (E2 r0::B46 E2 rs)).toArray.all fun x=>x == V7 "tuple")=true:=by
   simp only [List.all_toArray,B05,E7];intro _ _
   rfl
  rw [h0'];simp only [hall2,if_true];exact B58 (B58 q)
end
section
variable {X:Cx}
abbrev TupsAt (H:Hp) (rs:List Addr) (ts:List (List Int)):Prop:=Paired (fun (r:Addr) (t:List Int)=>H r=some (.tup (t.map V.int))) rs ts
theorem qDT:∀ {rs:List Addr} {its:List Value},Vals (rs.map V.ref) its->its=rs.map E2
 | [],_,.nil=>rfl
 | r::rs,_,.cons h t=>by
  rw [E8,<- qDT t];have:_=E2 r:=h;rw [this]
def qHY:Value->Addr
 | .ref a=>a
 | _=>0
theorem qM5:∀ {vs:List Value},(∀ v ∈ vs,∃ a,v=.ref a)->(vs.map qHY).map E2=vs
 | [],_=>rfl
 | v::vs,h=>by
  obtain ⟨a,rfl⟩:=h v (by simp)
  rw [E8,E8,qM5 fun v hv=>h v (B0 _ hv)]
  rfl
theorem qOT {H:Hp}:∀ {rs:List Addr} {ts:List (List Int)},TupsAt H rs ts->ts=rs.map fun r=>keyH H (.ref r)
 | _,_,.nil=>rfl
 | _,_,.cons h t=>by rw [E8,qL6 h,<- qOT t]
theorem qRT {H:Hp}:∀ {rs:List Addr},(∀ r ∈ rs,∃ t:List Int,H r=some (.tup (t.map V.int)))->TupsAt H rs (rs.map fun r=>keyH H (.ref r))
 | [],_=>.nil
 | r::rs,h=>by
  obtain ⟨t,e⟩:=h r (by simp)
  exact .cons (by dsimp only;rw [qL6 e];exact e) (qRT fun r hr=>h r (B0 _ hr))
theorem qI5 {H:Hp}:∀ {rs:List Addr} {ts:List (List Int)},TupsAt H rs ts->∀ {r:Addr},r ∈ rs->∃ t,t ∈ ts/\H r=some (.tup (t.map V.int))
 | _,_,.nil,_,h=>nomatch h
 | _,_,.cons (b:=t) g T,r,h=>by
  rcases B8.mp h with e | e
  ·exact ⟨t,by simp,by rw [e];exact g⟩
  ·obtain ⟨t,h1,h2⟩:=qI5 T e;exact ⟨t,B0 _ h1,h2⟩
theorem qS1 {Ab:List (Addr × Obj)} {s:Shared} {σ:St} {H:Hp} {Q:VK} {A:Around} {E:Value->Shared->Prop} {rs:List Addr} {ts:List (List Int)} {D:Addr} (I:Inv X Ab σ (Ag H D (.lst (rs.map V.ref))) s) (hD:H D=none) (T:TupsAt H rs ts)
  (hk:(∀ t ∈ ts,t ≠ [])\/∃ ts',ts=[]::ts') (hu:A.units+8<cLine)
  (q:∀ rs' ts',rs'.Perm rs->TupsAt H rs' ts'->ts'.Perm ts->ts'.Pairwise (fun a b=>HT.lexLt b a=false)->Q (.ref D) (Ag H D (.lst (rs'.map V.ref)))) :
  wpAny (model X.prog X.w) A (call (.builtin "list.sort") [.ref D]) (fun _ s'=>EP X Ab σ Q (.ref D) s') E s:=by
 obtain ⟨z,its,n,rv,hl,e⟩:=I.lstM qA1;have ei:=qDT rv;subst ei;have hz:(rs.map E2).length<=B59:=by simpa using z
 letI:NM:=tupNM H ts
 have gd:∀ v ∈ rs.map E2,NM.good v:=fun v hv=>by
  obtain ⟨r,hr,rfl⟩:=D7.mp hv;obtain ⟨t,ht,g⟩:=qI5 T hr;exact ⟨r,t,rfl,g,ht⟩
 have tat:∀ (h':Heap),(∀ (b:Addr) (o:Obj),b ≠ D->s.heap.get? b=some o->h'.get? b=some o)->∀ (r:Addr) (t:List Int),H r=some (.tup (t.map V.int))->∃ xs:Array Value,IsTup h' r xs/\B72 xs.toList t:=by
  intro h' kept r t g;have nr:r ≠ D:=qA5 g hD;obtain ⟨its,r1,⟨o,ho,hc,n,hd⟩,_⟩:=I.tuple (SqT.of (show (Ag H D (.lst (rs.map V.ref))) r=some (.tup (t.map V.int)) by rw [qA7 nr];exact g))
  exact ⟨its.toArray,⟨o,kept r o nr ho,hc,n,hd⟩,qQU r1⟩
 have lt_ok:∀ (A':Around) (h':Heap) (κ:B88),(∀ (x y:Addr) (xs ys:Array Value) (ns ms:List Int) (Q:Bool->Shared->Prop) (E:Value->Shared->Prop),IsTup h' x xs->IsTup h' y ys->B72 xs.toList ns->B72 ys.toList ms->Q (HT.lexLt ns ms) { s with heap:=h' }->wpAny (model X.prog X.w) A' (keyLt' κ (.ref x) (.ref y)) Q E { s with heap:=h' })->
   (∀ (b:Addr) (o:Obj),b ≠ D->s.heap.get? b=some o->h'.get? b=some o)->LtOk X.prog X.w A' { s with heap:=h' } κ:=by
  intro A' h' κ rule kept;refine ⟨fun {x y Q E} hx hy h=>?_⟩;obtain ⟨r1,t1,rfl,g1,m1⟩:=hx;obtain ⟨r2,t2,rfl,g2,m2⟩:=hy;obtain ⟨xs,i1,j1⟩:=tat h' kept r1 t1 g1;obtain ⟨ys,i2,j2⟩:=tat h' kept r2 t2 g2;refine rule r1 r2 xs ys t1 t2 Q E i1 i2 j1 j2 ?_;have e1:NM.nm (E2 r1)=qI0 ts t1:=by show qI0 ts (keyH H (.ref r1))=_;rw [qL6 g1]
  have e2:NM.nm (E2 r2)=qI0 ts t2:=by show qI0 ts (keyH H (.ref r2))=_;rw [qL6 g2]
  rw [e1,e2,qPA m1 m2] at h;exact h
 have fin:∀ out:Array Value,out.toList.Perm (rs.map E2)->out.toList.Pairwise (fun u v=>NM.nm u<=NM.nm v)->EP X Ab σ Q (.ref D) { s with heap:=sortedHeap s.heap D (rs.map E2) out }:=by
  intro out p1 p2;have refs:∀ v ∈ out.toList,∃ a,v=E2 a:=fun v hv=>by
   obtain ⟨r,_,er⟩:=D7.mp (p1.mem_iff.mp hv);exact ⟨r,er.symm⟩
  have back:=qM5 refs;have p3:(out.toList.map qHY).Perm rs:=by
   have:=p1.map qHY;rw [P8] at this;have e:rs.map (qHY ∘ E2)=rs:=(J2 fun x _=>rfl).trans (B25 _)
   rwa [e] at this
  obtain ⟨e2,hat⟩:=sortedHeap_at (vs:=rs.map E2) (out:=out) e;have T':TupsAt H (out.toList.map qHY) ((out.toList.map qHY).map fun r=>keyH H (.ref r)):=qRT fun r hr=>by
   obtain ⟨t,_,g⟩:=qI5 T (p3.mem_iff.mp hr);exact ⟨t,g⟩
  have p4:((out.toList.map qHY).map fun r=>keyH H (.ref r)).Perm ts:=by
   have:=p3.map fun r=>keyH H (.ref r);rw [<- qOT T] at this;exact this
  have p5:((out.toList.map qHY).map fun r=>keyH H (.ref r)).Pairwise (fun a b=>HT.lexLt b a=false):=by
   rw [<- back,M9] at p2;rw [M9];refine p2.imp_of_mem fun {a b} ha hb le=>?_;have ma:keyH H (.ref a) ∈ ts:=p4.mem_iff.mp (D7.mpr ⟨a,ha,rfl⟩);have mb:keyH H (.ref b) ∈ ts:=p4.mem_iff.mp (D7.mpr ⟨b,hb,rfl⟩);have le:qI0 ts (keyH H (.ref a))<=qI0 ts (keyH H (.ref b)):=le;rw [<- qPA mb ma];exact decide_eq_false (by lia)
  refine ⟨.ref D,Ag H D (.lst ((out.toList.map qHY).map V.ref)),?_,rfl,q _ _ p3 T' p4 p5⟩;have hu:Ag (Ag H D (.lst (rs.map V.ref))) D (.lst ((out.toList.map qHY).map V.ref))=Ag H D (.lst ((out.toList.map qHY).map V.ref)):=qH2;rw [<- hu];refine I.write (x:=D) (e:=D) (t':=s.toks) (by rw [qA1];exact trivial) (.inl rfl) (fun b u hb hbu=>?_) ⟨_,hat⟩ ?_
  ·rw [sortedHeap_old hb (C1 hbu)];exact hbu
  ·refine ⟨?_,out.toList,e2,?_,by simpa using hat⟩
   ·rw [A0,p3.length_eq];simpa using z
   ·have:=qIN (out.toList.map qHY);rw [back] at this;exact this
 rcases hk with hk | ⟨ts',hk⟩
 ·refine B74 slot_list_sort ⟨_,e,rfl⟩ entry_list_sort (qP3 (κ0:=tuples' true) (n:=n) e hz gd (fun h' kept h2=>⟨fun {Q} hq=>?_,lt_ok _ h' _ (fun x y xs ys ns ms Q E i1 i2 j1 j2 hq=>qQR i1 i2 j1 j2 hq) kept⟩) fun out p1 p2=>⟨_,rfl,fin out p1 p2⟩) (args_list_sort _);refine qT1 (s:={ s with heap:=h' }) (ts:=ts) ?_ hk (by simpa using h2) hq
  exact Paired.mapP T fun r t g=>tat h' kept r t g
 ·refine B74 slot_list_sort ⟨_,e,rfl⟩ entry_list_sort (qP3 (κ0:=oneType') (n:=n) e hz gd (fun h' kept h2=>⟨fun {Q} hq=>?_,lt_ok _ h' _ (fun x y xs ys ns ms Q E i1 i2 j1 j2 hq=>?_) kept⟩) fun out p1 p2=>⟨_,rfl,fin out p1 p2⟩) (args_list_sort _)
  ·cases T with
   | nil=>cases hk
   | @cons r t l1 l2 g T=>
    have et:t=[]:=by cases hk;rfl
    subst et;obtain ⟨xs,i1,j1⟩:=tat h' kept r [] g;obtain ⟨xs⟩:=xs;cases j1;refine qQQ (s:={ s with heap:=h' }) i1 (fun r hr=>?_) hq;obtain ⟨t,_,g⟩:=qI5 T hr;obtain ⟨xs,i,_⟩:=tat h' kept r t g;exact ⟨xs,i⟩
  ·rw [keyLt'_oneType];exact qSM (s:={ s with heap:=h' }) (by first | exact d7 (by show _<=A.units+8;simp [Around.in1]) hu | (show A.units+1<cLine;lia) | (show A.units<cLine;lia)) i1 i2 j1 j2 hq
theorem qNM {Ab:List (Addr × Obj)} {σ:St} {H:Hp} {Q:VK} {rs:List Addr} {ts:List (List Int)} (hu:X.A.units+64<cLine) {s1:Shared} (I1:Inv X Ab σ H s1) (T:TupsAt H rs ts) (hk:(∀ t ∈ ts,t ≠ [])\/∃ ts',ts=[]::ts') (hz:rs.length<=B59)
  (q:∀ a rs' ts',H a=none->rs'.Perm rs->TupsAt H rs' ts'->ts'.Perm ts->ts'.Pairwise (fun a b=>HT.lexLt b a=false)->Q (.ref a) (Ag H a (.lst (rs'.map V.ref)))):wpAny (model X.prog X.w) X.A.in1 (do
   let l <- newList (rs.map E2)
   let _ <- holding [l] (call (.builtin "list.sort") [l] [])
   ret l) (fun fin s'=>∃ r,fin=.done (.ret r)/\EP X Ab σ Q r s') X.xe s1:=by
 refine B57 (wpAny_newList ?_ (by rw [A0];exact hz))
 have hf:=I1.hok.fresh (A9 s1.heap.objs.size);have I2:=I1.laid (a:=s1.heap.objs.size) (t':=s1.toks) (o:=.lst (rs.map V.ref)) (h':=s1.heap.push { cls:=.type "list",data:=.seq (rs.map E2).toArray }) (fun b u e=>A4 _ e) (A9 _) ⟨by rw [A0];exact hz,_,0,qIN rs,B9 _ rfl⟩
 refine B57 (B76 (B71 (qS1 (E:=X.xe) I2 hf T hk (by show X.A.units+1+8<cLine;lia) fun rs' ts' a b c d=>q _ rs' ts' hf a b c d) (fun _ s' x=>?_) fun _ _ e=>e))
 exact B58 ⟨_,rfl,x⟩
theorem call_sortedTL (hc:X.calm=true) (hu:X.A.units+64<cLine):qC5 X (.builtin "sorted") (fun xs H Q=>∃ p rs ts,xs=[.ref p]/\SqL X.K H p (rs.map V.ref)/\TupsAt H rs ts/\(∀ t ∈ ts,t ≠ [])/\
  ∀ a rs' ts',H a=none->rs'.Perm rs->TupsAt H rs' ts'->ts'.Perm ts->ts'.Pairwise (fun a b=>HT.lexLt b a=false)->Q (.ref a) (Ag H a (.lst (rs'.map V.ref)))):=by
 intro Ab s σ H xs us Q I r h;obtain ⟨p,rs,ts,rfl,hq,T,hne,q⟩:=h;obtain ⟨u,rfl,rx⟩:=qDK r;cases rx;refine A01 kind_sorted plain_sorted entry_sorted (args_sorted1 _) ?_;unfold Builtin.«sorted»;refine B57 (m:=checkCount "sorted" 1 1 _) (B58 ?_);obtain ⟨its,rv,pl,hz⟩:=I.list hq;obtain ⟨o,ho,hc',n,hd⟩:=pl.isList;have hlen:=rv.length;have ei:=qDT rv;subst ei;refine B57 (wpAny_collect_seq p (.inl rfl) ho hc' hd (fun h' hk=>?_) (by rw [B4,<- hlen];exact hz))
 have:=qNM (s1:={ s with heap:=h' }) hu (I.kept (t':=s.toks) hk) T (.inl hne) (by rw [A0] at hz;exact hz) q
 exact this
end
open PySem PySem.Spec PyProof.Rows PySem.W
section
variable {X:Cx} {Ab:List (Addr × Obj)} {σ:St} {params:Arguments} {body:Expr} {scope:Scope} {p:Str} {fv:List Nat} {q:Str} {te:TE} {l f cc:Addr} {ctv:Value} {H0:Hp} {xs:List V} {ks:List (List Int)} {Q:VK}
end
end L2.G
namespace L2
open PySem PySem.Spec PyProof.Rows
section
variable {X:Cx}
def qUN (r d:Addr):HO:=.ext fun h=>h.get? r=some { cls:=.type "dict_values",data:=.fields #[.ref d] }
def qXZ:V->List V->Hp->VK->Prop:=fun x vs H Q=>∃ (d:Addr) (Af:List (Key × V)),x=.ref d/\vs=[]/\H d=some (.dK Af)/\∀ r,H r=none->Q (.ref r) (Ag H r (qUN r d))
theorem qSP:MtM X "dict.values" qXZ:=by
 intro Ab s σ H x vs v us Q I rx rv h;obtain ⟨d,Af,rfl,rfl,hH,q⟩:=h;cases rx;cases rv;obtain ⟨hz,hd,ws,rel,dd⟩:=qTP I.hok hH;refine call_meetsIn F.slot_dict_values dd.typeIs F.entry_dict_values (F.args_dict_values_1 _) (meets_dict_values (qBF X.prog X.w) d hd) ⟨⟨_,dd⟩,?_⟩;refine ⟨.ref s.heap.objs.size,_,I.laid (a:=s.heap.objs.size) (o:=qUN s.heap.objs.size d) (t':=s.toks) (fun b u e=>A4 _ e) (A9 _) ?_,rfl,q _ (I.hok.fresh (A9 _))⟩;exact ⟨B9 _ rfl,⟨_,B9 _ rfl⟩,fun h1 h2 a b=>b _ a⟩
theorem qOP {κ:Type}:∀ {Af:List (κ × V)} {vs:List (κ × Value)},KV Af vs->Vals (Af.map (·.2)) (vs.map (·.2))
 | [],[],_=>.nil
 | _::_,_::_,.cons h r=>.cons h.2 (qOP r)
theorem qR3 (hc:X.calm=true):qC5 X (.type "list") (fun xs H Q=>∃ (r d:Addr) (Af:List (Key × V)),xs=[.ref r]/\H r=some (qUN r d)/\H d=some (.dK Af)/\
  ∀ l,H l=none->Q (.ref l) (Ag H l (.lst (Af.map (·.2))))):=by
 intro Ab s σ H xs us Q I rr h;obtain ⟨r,d,Af,rfl,hr,hq,q⟩:=h;obtain ⟨u,rfl,rx⟩:=qDK rr;cases rx;obtain ⟨hz,hd,vs,rel,dd⟩:=qTP I.hok hq;obtain ⟨ep,da⟩:=dd.dictAt;have lv:vs.length=Af.length:=rel.length.symm;have hv:s.heap.get? r=some { cls:=.type "dict_values",data:=.fields #[.ref d] }:=(show ObjOk X.prog X.w H s.heap r (qUN r d) from I.hok r _ hr).1;refine B10 (PySem.W.kdl_values (r:=r) (ep:=ep)) (I.ok.hd hc) ⟨⟨_,hv,rfl,rfl⟩,da⟩ (by rw [lv];exact hz) fun h' tk acc c' kept got items=>?_
 obtain ⟨l1,l2⟩:=items;have ea:acc.toList=vs.map (·.2):=PySem.W.kdl_vals_eq _ (by rw [C3,l1]) fun j v hv=>l2 j v (by rw [<- F2];exact hv)
 refine ⟨.ref s.heap.objs.size,_,I.laid (a:=s.heap.objs.size) (o:=.lst (Af.map (·.2))) (t':=tk) kept (A9 _) ⟨by rw [A0];exact hz,acc.toList,c',by rw [ea];exact qOP rel,by simpa using got⟩,rfl,q _ (I.hok.fresh (A9 _))⟩
theorem qU8:qC5 X (.builtin "len") (fun xs H Q=>∃ p zs,xs=[V.ref p]/\H p=some (SetM X.w p zs)/\Q (.int (zs.length:Nat)) H):=by
 intro Ab s σ H xs us Q I r h;obtain ⟨p,zs,rfl,hq,q⟩:=h;obtain ⟨u,rfl,ru⟩:=qDK r;cases ru;obtain ⟨hS,_⟩:=(show ObjOk X.prog X.w H s.heap p (SetM X.w p zs) from I.hok p _ hq);obtain ⟨es,ep,t,ks,ho,T,en,pm,nd,l4,h5⟩:=hS;have le:es.size=zs.length:=by
  have:=C6 en;simp at this;rw [<- pm.length_eq,<- this]
 refine call_len_set ho ?_ rfl (T.fits (by lia)) (by lia) ?_
 ·exact ⟨rfl,rfl,rfl⟩
 ·rw [le];exact ⟨.int zs.length,H,I.tok _,⟨_,rfl⟩,q⟩
end
section
variable {prog:B60} {w:World} {A:Around} {R:Result->Shared->Prop} {I:Addr} {fp wr:List Addr} {n:Nat} {P:Nat->Value->Prop} {St:Nat->Heap->Prop}
end
section
variable {X:Cx}
end
structure Clb (P:B60) (w:World) (K:PySem.W.Frag) (mg:Str->Option Value) (base:Heap) (n:Nat) (f:Addr) (fd:B65) (x:Str) (ps:List Str) (sp:Sp):Prop where
 G:FnOk P w K mg base CX0 n f fd ps sp
 b:Binds K fd ps []
 k:Q8 K (.ref f)=true
 m:mg x=some (.ref f)
theorem qAZ {X:Cx} {n k:Nat} {f:Addr} {fd:B65} {x:Str} {ps:List Str} {sp:Sp} {e:Expr} {es:List Expr} {t:TA} {p pos:Pos} (C:Clb X.prog X.w X.K X.mg X.base n f fd x ps sp) (hr:Room k X.A) (hg:Gl X x)
  (ha:PA X (e::es) t) (hnk:n<=k:=by decide) (hdb:(x == ("__debug__" : Str))=false:=by decide) (he:B68 (e::es) X.env=(false,eval e X.env)::B68 es X.env:=by rfl) (hpl:(backTo pos (B68 es X.env)).any (·.1)=false:=by rfl) :
  PE X (.Call (.Name x p) (e::es) [] pos) (qZV sp [] E0 t):=qSF C.G (hr.mono hnk) hg C.m C.k C.b .nil qaH ha hdb he hpl
theorem nmD {i:Nat} {t u:TS} {D:Ends} {x:V} {σ:St} {H:Hp} (h:∀ D':Ends,(∀ σ H,D.nx σ H->D'.nx σ H)->(∀ v H,D.rt v H->D'.rt v H)->tSeq t u D' (σ.set i (some x)) H):qW3 i x σ H fun σ2 H2=>tSeq t u D σ2 H2:=h D (fun _ _ z=>z) fun _ _ z=>z
theorem nmT {t u:TS} {D:Ends} {σ:St} {H:Hp} (h:∀ D':Ends,(∀ σ H,D.nx σ H->D'.nx σ H)->(∀ v H,D.rt v H->D'.rt v H)->tSeq t u D' σ H):tSeq t u D σ H:=h D (fun _ _ z=>z) fun _ _ z=>z
theorem nmI {g:TG} {c:TT} {t u:TS} {D:Ends} {x:V} {σ:St} {H:Hp} (h:∀ D':Ends,(∀ σ H,D.nx σ H->D'.nx σ H)->(∀ v H,D.rt v H->D'.rt v H)->g x σ H fun σ2 H2=>tIfS c t u D' σ2 H2):g x σ H fun σ2 H2=>tIfS c t u D σ2 H2:=h D (fun _ _ z=>z) fun _ _ z=>z
section
variable {prog:B60} {w:World} {A:Around} {E:Value->Shared->Prop} {s:Shared}
end
section
variable {X:Cx}
end
section
variable {X:Cx} {tg:Expr}
end
section
variable {X:Cx}
theorem qVC {K:PySem.W.Frag} (hK:X.K=K):OpR X (B86 .Add) (qa9 K):=by subst hK;exact qSL
def Its (lo c:Int) (n:Nat):It:=⟨fun i _=>i<n,fun i H x H'=>H'=H/\x=.int (lo+i * c),fun i _=>n<=i⟩
theorem qRQ {P:B60} {w:World} {K:PySem.W.Frag} {tg:Expr} (it:Addr) (lo c:Int) (n:Nat):Turn P w K tg (Its lo c n) [it] it (fun i h=>IsRangeIter h it (lo+(i:Nat) * c) ((n:Int) - (i:Nat)) c) where
 mem:=A6.mpr rfl
 obj:=fun i h st b hb=>by
  cases A6.mp hb;exact ⟨_,st,fun v z=>nomatch (show A17 _=A04 v from z)⟩
 keep:=fun i h h' st k=>k it (A6.mpr rfl) _ st
 item:=by
  intro X hP hw hK hc i Ab s σ H E I hf st hg;subst hP hw hK;obtain ⟨f0,f1,f2,f3,f4,f5⟩:=hf it (A6.mpr rfl);refine (Walks.range (prog:=X.prog) (w:=X.w) (I.ok.hd hc) it lo c n).item i s _ _ hg st fun v h' tk hv st' kk=>?_;obtain ⟨t,rfl⟩:=hv;have I1:Inv X Ab σ H { s with heap:=h',toks:=tk }:=I.turned (fun b o hb e=>kk b o (by simpa using hb) e) f0 f1 f3 f4 f5
  exact ⟨_,rfl,qW1 (s:={ s with heap:=h',toks:=tk }) (n:="range_iterator") st' rfl rfl (by decide) ⟨.int (lo+i * c),H,I1,⟨t,rfl⟩,⟨rfl,rfl⟩,st',fun b hb=>(hf b hb).1⟩⟩
 done:=by
  intro X hP hw hK hc i Ab s σ H E I hf st hg;subst hP hw hK;obtain ⟨f0,f1,f2,f3,f4,f5⟩:=hf it (A6.mpr rfl);have hle:n<=i:=hg;exact wpAny_pyNext_range_end (I.ok.hd hc) st (by lia) fun h' eb=>⟨rfl,I.turned (t':=s.toks) (fun b o hb e=>eb b o hb e) f0 f1 f3 f4 f5⟩
 self:=fun _ _ _ _ _ st h=>wpAny_pyIter_rangeiter st h
def qcC (ta:TA):TI:=fun σ H R=>ta σ H fun vs H1=>∃ (i j c:Int) (n:Nat),vs=[.int i,.int j,.int c]/\(0<=i/\i<2 ^ 40/\0<=j/\j<2 ^ 40/\0<c/\c<2 ^ 20)/\F5 i j c=(n:Int)/\R (Its i c n) H1
theorem qQE {a b c:Int} (h:0<=a/\a<2 ^ 40/\0<=b/\b<2 ^ 40/\0<c/\c<2 ^ 20):c9 a b c=true:=by
 obtain ⟨h1,h2,h3,h4,h5,h6⟩:=h;have hs:F5 a b c * c<=2 ^ 41/\0<=F5 a b c/\F5 a b c<=2 ^ 40:=by
  unfold F5;rw [if_pos h5]
  split
  ·have e:=Int.mul_ediv_add_emod (b - a - 1) c;have e1:=W7 (b - a - 1) (b:=c) (by lia)
   have e2:0<=(b - a - 1) / c:=Int.ediv_nonneg (by lia) (by lia)
   have e3:(b - a - 1) / c<=b - a - 1:=Int.ediv_le_self _ (by lia)
   rw [Int.add_mul,Int.mul_comm];generalize (b - a - 1) / c=q at *
   lia
  ·lia
 unfold c9;simp only [Builtin.Range.rangeFitsLong,C0,A45,decide_eq_true_eq,beq_iff_eq,show c > 0 from h5,if_true];have hs1:=hs.1;have hs2:=hs.2.2;have hs3:=hs.2.1;have h0:0<=F5 a b c * c:=Int.mul_nonneg hs.2.1 (by lia)
 generalize F5 a b c=y at *;have e1:(y - 1) * c=y * c - c:=by rw [Int.sub_mul,A73]
 generalize y * c=z at *
 lia
theorem qY7 {tg a b c:Expr} {ta:TA} {p pos:Pos} (hg:Gl X "range") (hm:X.mg "range" = none) (ha:PA X [a,b,c] ta) (hs:B68 [a,b,c] X.env=[(false,eval a X.env),(false,eval b X.env),(false,eval c X.env)]:=by rfl)
  (hs2:B68 [b,c] X.env=[(false,eval b X.env),(false,eval c X.env)]:=by rfl):PI X tg (.Call (.Name "range" p) [a,b,c] [] pos) (qcC ta):=by
 intro Ab s σ H R I h;refine Call_ (qHN I hg hm boot_range (O0 (thn (ha pos Ab s σ H _ I h) fun us s1 ⟨vs,H1,I1,r1,q1⟩=>?_) (by rw [hs,hs2]) (by rw [hs2];rfl)))
 obtain ⟨i,j,c,n,e,bb,en,q⟩:=q1;subst e;obtain ⟨u1,rr,rfl,⟨t1,rfl⟩,r2⟩:∃ u rr,us=u::rr/\RelV (.int i) u/\Vals [.int j,.int c] rr:=by cases r1 with | cons r rr=>exact ⟨_,_,rfl,r,rr⟩
 obtain ⟨u2,u3,rfl,⟨t2,rfl⟩,⟨t3,rfl⟩⟩:=qNG r2;refine call_range_3 (by lia) ?_ (E5 (i9 (by lia)))
 refine wpAny_pyIter_range (B53 ..) (qQE bb) ?_;have I2:Inv X Ab σ H1 { s1 with heap:=s1.heap.push { cls:=.type "range",data:=.fields #[.int i t1,.int j t2,.int c t3] },toks:=s1.toks }:=I1.kept fun b o e=>A4 _ e;refine ⟨(s1.heap.push { cls:=.type "range",data:=.fields #[.int i t1,.int j t2,.int c t3] }).objs.size,[(s1.heap.push { cls:=.type "range",data:=.fields #[.int i t1,.int j t2,.int c t3] }).objs.size],_,_,H1,rfl,
  I2.kept (t':=s1.toks) fun b o e=>A4 _ e,qRQ _ i c n,?_,fun b hb=>?_,q⟩
 ·have e1:i+((0:Nat):Int) * c=i:=by simp
  have e2:(n:Int) - ((0:Nat):Int)=F5 i j c:=by rw [en];simp
  show IsRangeIter _ _ (i+((0:Nat):Int) * c) ((n:Int) - ((0:Nat):Int)) c;rw [e1,e2];exact B9 _ rfl
 ·cases A6.mp hb;exact I2.fpOk (A9 _) (I2.hok.fresh (A9 _))
end
theorem qW6 {K:PySem.W.Frag} {b:Bool} {l m:Addr} {xs ys:List V} {g:TG} {tb:TS} {D:Ends} {σ0:St} {H0:Hp} (hlen:ys.length<=xs.length) (Pv:Nat->St->Hp->Prop) (h0:Pv 0 σ0 H0) (hl:∀ i σ H,i<=ys.length->Pv i σ H->SqB b K H l xs/\SqB b K H m ys)
  (hs:∀ i x y σ H T,xs[i]?=some x->ys[i]?=some y->Pv i σ H->H T=none->g (.ref T) σ (Ag H T (.tup [x,y])) fun σ2 H2=>tb { D with nx:=Pv (i+1),ct:=Pv (i+1),bk:=D.nx } σ2 H2)
  (hd:∀ σ H,Pv ys.length σ H->D.nx σ H) :
  ∃ W:Nat->Nat->St->Hp->Prop,(∃ m,W 0 m σ0 H0)/\∀ i n σ H,W i n σ H->
   ((Itz K b l m).stop i H/\D.nx σ H)\/((Itz K b l m).go i H/\∃ N:St->Hp->Prop,(∀ σ' H',N σ' H'->∃ m',m'<n/\W (i+1) m' σ' H')/\∀ x H',(Itz K b l m).yld i H x H'->g x σ H' fun σ2 H2=>tb { D with nx:=N,ct:=N,bk:=D.nx } σ2 H2):=by
 refine ⟨fun i n σ H=>n=ys.length - i/\i<=ys.length/\Pv i σ H,⟨ys.length,by simp,F8 _,h0⟩,?_⟩
 rintro i n σ H ⟨rfl,hi,q⟩;have hq:=hl i σ H hi q;by_cases hlt:i<ys.length
 ·refine .inr ⟨⟨xs,ys,xs[i]'(by lia),ys[i],hq.1,hq.2,A7 _,by simp [hlt]⟩,Pv (i+1),fun σ' H' p'=>⟨ys.length - (i+1),by lia,rfl,hlt,p'⟩,fun v H' y=>?_⟩
  obtain ⟨T,x,y,hT,e1,e2,yy⟩:=y;subst e1 e2;exact hs i x y σ H T (yy xs ys hq.1 hq.2).1 (yy xs ys hq.1 hq.2).2 q hT
 ·have e:i=ys.length:=by lia
  subst e;by_cases c:ys.length<xs.length
  ·exact .inl ⟨⟨xs,hq.1,.inr ⟨ys,xs[ys.length],hq.2,A7 _,A9 _⟩⟩,hd σ H q⟩
  ·exact .inl ⟨⟨xs,hq.1,.inl (by lia)⟩,hd σ H q⟩
end L2
namespace Fw
open PySem L2
theorem qBQ:B67 "len" = some (.builtin "len"):=by decide +kernel
theorem qUB:B67 "min" = some (.builtin "min"):=by decide +kernel
theorem qQ6:B67 "max" = some (.builtin "max"):=by decide +kernel
theorem qEW:B67 "sorted" = some (.builtin "sorted"):=by decide +kernel
theorem qUC:B67 "divmod" = some (.builtin "divmod"):=by decide +kernel
theorem qQ7:B67 "all" = some (.builtin "all"):=by decide +kernel
theorem qAK:B67 "isinstance" = some (.builtin "isinstance"):=by decide +kernel
theorem qN4:B67 "int" = some (.type "int"):=by decide +kernel
theorem qUD:B67 "bool" = some (.type "bool"):=by decide +kernel
theorem qXJ:B67 "str" = some (.type "str"):=by decide +kernel
theorem qDJ:B67 "list" = some (.type "list"):=by decide +kernel
theorem qB2:B67 "tuple" = some (.type "tuple"):=by decide +kernel
theorem qQ5:B67 "set" = some (.type "set"):=by decide +kernel
theorem qIK:B67 "range" = some (.type "range"):=by decide +kernel
theorem qHV:B67 "enumerate" = some (.type "enumerate"):=by decide +kernel
structure StAt (H:Hp) (d c:Addr) (t:Int) (ns:List Int):Prop where
 dict:H d=some (.dK [(O3 "cells",.ref c),(O3 "turn",.int t)])
 list:H c=some (.lst (ns.map V.int))
 ne:0<ns.length
 len:ns.length<=63
 pos:0<=t
def Keep (d c:Addr) (H H':Hp):Prop:=∀ b o,H b=some o->b ≠ d->b ≠ c->H' b=some o
theorem Keep.refl {d c:Addr} {H:Hp}:Keep d c H H:=fun _ _ h _ _=>h
theorem Keep.trans {d c:Addr} {H H1 H2:Hp} (a:Keep d c H H1) (b:Keep d c H1 H2):Keep d c H H2:=fun x o h n m=>b x o (a x o h n m) n m
theorem Keep.of_same {d c:Addr} {H H':Hp} (h:Same H H'):Keep d c H H':=fun b o e _ _=>h b o e
theorem qA2 {H:Hp} {p:Addr} (h:H p=none) (o:HO):Same H (Ag H p o):=fun b u q=>by rw [qA7 (qA5 q h)];exact q
theorem qE0 {d c:Addr} {H:Hp} {p:Addr} (h:H p=none) (o:HO):Keep d c H (Ag H p o):=.of_same (qA2 h o)
theorem StAt.ndc {H:Hp} {d c:Addr} {t:Int} {ns:List Int} (S:StAt H d c t ns):d ≠ c:=qC2 S.dict S.list (by intro z;cases z)
theorem StAt.same {H H':Hp} {d c:Addr} {t:Int} {ns:List Int} (S:StAt H d c t ns) (h:Same H H'):StAt H' d c t ns:=⟨h _ _ S.dict,h _ _ S.list,S.ne,S.len,S.pos⟩
theorem StAt.new {H:Hp} {d c p:Addr} {t:Int} {ns:List Int} (S:StAt H d c t ns) (h:H p=none) (o:HO):StAt (Ag H p o) d c t ns:=S.same (qA2 h o)
theorem s_cs:¬ (J7 "cells" = J7 "turn"):=by decide +kernel
theorem s_ct:¬ ((O3 (J7 "cells"):Key)=O3 (J7 "turn")):=fun h=>s_cs (B52 h)
theorem qZ4 {H:Hp} {d c:Addr} {t:Int} {ns:List Int} (S:StAt H d c t ns):DGet H d (.str "turn") (some (.int t)):=by
 have h:=DGet.k (k:=O3 "turn") S.dict;rw [qBE s_ct,qBD rfl] at h;exact h
theorem qLC {H:Hp} {d c:Addr} {t:Int} {ns:List Int} (S:StAt H d c t ns):DGet H d (.str "cells") (some (.ref c)):=by
 have h:=DGet.k (k:=O3 "cells") S.dict;rw [qBD rfl] at h;exact h
theorem qV4 (c:Addr) (t u:Int):putK [((O3 "cells" : Key),V.ref c),(O3 "turn",V.int t)] (O3 "turn") (V.int u)=[((O3 "cells" : Key),V.ref c),(O3 "turn",V.int u)]:=by
 unfold putK;simp [s_cs]
theorem qZ3 {H:Hp} {d c:Addr} {t u:Int} {ns:List Int} (S:StAt H d c t ns):DPut H d (.str "turn") (.int u) (Ag H d (.dK [(O3 "cells",.ref c),(O3 "turn",.int u)])):=by
 have h:=DPut.k (k:=O3 "turn") (v:=.int u) S.dict (by rw [B66];exact (by decide:2<16777216))
 rw [qV4] at h;exact h
theorem StAt.turn {H:Hp} {d c:Addr} {t u:Int} {ns:List Int} (S:StAt H d c t ns) (h:0<=u):StAt (Ag H d (.dK [(O3 "cells",.ref c),(O3 "turn",.int u)])) d c u ns:=
 ⟨qA1,by rw [qA7 (L8 S.ndc)];exact S.list,S.ne,S.len,h⟩
theorem StAt.put {H:Hp} {d c:Addr} {t:Int} {ns ms:List Int} (S:StAt H d c t ns) (h:ms.length=ns.length):StAt (Ag H c (.lst (ms.map V.int))) d c t ms:=
 ⟨by rw [qA7 S.ndc];exact S.dict,qA1,by rw [h];exact S.ne,by rw [h];exact S.len,S.pos⟩
abbrev TB:Int:=1000000000
def qIR:Sp:=fun vs H Q _=>∃ d c t ns m,vs=[.ref d,.int m]/\StAt H d c t ns/\t<=TB/\1<=m/\m<=1000000/\∀ k ns' H',0<=k->k<m->StAt H' d c (t+1) ns'->Keep d c H H'->Q (.int k) H'
def qS0 (K:PySem.W.Frag):Sp:=fun vs H Q _=>∃ (a:Addr) (ns:List Int),vs=[.ref a]/\SqL K H a (ns.map V.int)/\ns.length<=63/\∀ d c ms H',StAt H' d c 0 ms->Same H H'->H d=none->H c=none->Q (.ref d) H'
def cutI {α:Type} (xs:List α) (lo hi:Option Int):List α:=(xs.drop (HT.sIx xs.length 0 lo)).take (HT.sIx xs.length xs.length hi - HT.sIx xs.length 0 lo)
theorem qE8 {α:Type} (f:α->V) (xs:List α) (lo hi:Option Int):cutV (xs.map f) lo hi=(cutI xs lo hi).map f:=by
 unfold cutV cutI;rw [A0,<- A87,<- A86]
theorem qWB {α:Type} (xs:List α) (lo hi:Option Int):(cutI xs lo hi).length<=xs.length:=by
 unfold cutI;rw [E1,G8]
 lia
theorem qX1 (c:Addr) (t:Int):qDN [] [((O3 (J7 "cells"):Key),V.ref c),(O3 (J7 "turn"),V.int t)]=[((O3 (J7 "cells"):Key),V.ref c),(O3 (J7 "turn"),V.int t)]:=by
 unfold qDN;simp only [W1,B31];unfold putK;simp [s_cs]
theorem qYU {xs:List V} {j:Nat} (h:j<xs.length):ixN xs.length (j:Int)=some j:=by
 unfold ixN;rw [if_pos (by lia),if_pos (by lia),K9]
def qUW (K:PySem.W.Frag):Sp:=fun vs H Q _=>∃ (a:Addr) (ns:List Int),vs=[.ref a]/\SqL K H a (ns.map V.int)/\ns.length<=63/\∀ H',Q (.bl true) H'
theorem cut {t u:TS} {D:Ends} {σ:St} {H:Hp} (h:∀ N:St->Hp->Prop,(∀ σ H,u D σ H->N σ H)->t { D with nx:=N } σ H):tSeq t u D σ H:=h _ fun _ _ z=>z
theorem opq {A:Prop} (h:∀ G:Prop,(A->G)->G):A:=h A id
structure Rise (k:Int) (zs:List Int):Prop where
 up:zs.Pairwise (·<·)
 in_:∀ x ∈ zs,0<=x/\x<k
theorem Rise.nil {k:Int}:Rise k []:=⟨.nil,fun _ h=>nomatch h⟩
theorem Rise.mono {j k:Int} {zs:List Int} (h:Rise j zs) (l:j<=k):Rise k zs:=⟨h.up,fun x hx=>⟨(h.in_ x hx).1,by have:=(h.in_ x hx).2;lia⟩⟩
theorem Rise.sub {k:Int} {zs ys:List Int} (h:Rise k zs) (s:ys.Sublist zs):Rise k ys:=⟨h.up.sublist s,fun x hx=>h.in_ x (s.subset hx)⟩
theorem Rise.snoc {k:Int} {zs:List Int} (h:Rise k zs) (h0:0<=k):Rise (k+1) (zs++[k]):=by
 refine ⟨L6.mpr ⟨h.up,f9 _ _,fun a ha b hb=>?_⟩,fun x hx=>?_⟩
 ·rw [A6.mp hb];exact (h.in_ a ha).2
 ·rcases B7.mp hx with hx | hx
  ·have:=h.in_ x hx;lia
  ·rw [A6.mp hx];lia
theorem Rise.shift {k j:Int} {zs:List Int} (h:Rise k zs) (hj:0<=j):Rise (k+j) (zs.map (·+j)):=by
 refine ⟨M9.mpr (h.up.imp fun {a b} hab=>by lia),fun x hx=>?_⟩
 obtain ⟨y,hy,e⟩:=D7.mp hx;have:=h.in_ y hy
 lia
theorem Rise.nodup {k:Int} {zs:List Int} (h:Rise k zs):zs.Nodup:=h.up.imp fun {a b} hab=>by lia
theorem Rise.len {zs:List Int} {k:Nat} (h:Rise (k:Int) zs):zs.length<=k:=by
 have sub:zs ⊆ (G5 k).map fun (i:Nat)=>(i:Int):=fun x hx=>by
  have:=h.in_ x hx;exact D7.mpr ⟨x.toNat,E9.mpr (by lia),by lia⟩
 have:=D3 h.nodup sub;simpa using this
theorem qVH {zs:List Int} {k x:Int}:x ∈ addI zs k ↔ x ∈ zs\/x=k:=by
 unfold addI
 split
 ·rename_i h
  constructor
  ·exact .inl
  ·rintro (z | rfl)
   ·exact z
   ·exact h
 ·simp
theorem qYC {zs:List Int} {k:Int} (h:zs.Nodup):(addI zs k).Nodup:=by
 unfold addI
 split
 ·exact h
 ·rename_i hk
  exact qL0 h hk
theorem qTQ:∀ (l zs:List Int),zs.Nodup->(l.foldl addI zs).Nodup/\∀ x,x ∈ l.foldl addI zs ↔ x ∈ zs\/x ∈ l
 | [],zs,h=>⟨h,fun x=>by simp⟩
 | k::r,zs,h=>by
  obtain ⟨a,b⟩:=qTQ r (addI zs k) (qYC h);refine ⟨a,fun x=>?_⟩;rw [W1,b x,qVH,B8,or_assoc]
theorem qKG (l:List Int):(dedI l).Nodup:=(qTQ l [] .nil).1
theorem mem_dedI {l:List Int} {x:Int}:x ∈ dedI l ↔ x ∈ l:=by
 have:=(qTQ l [] .nil).2 x;unfold dedI;rw [this];simp
theorem qMJ {zs:List Int} (h1:zs.Pairwise (·<=·)) (h2:zs.Nodup):zs.Pairwise (·<·):=by
 have h3:zs.Pairwise (fun a b=>a<=b/\a ≠ b):=List.pairwise_and_iff.mpr ⟨h1,h2⟩;exact h3.imp fun {a b} ⟨x,y⟩=>by lia
theorem qP9 {k:Int} {fs zs:List Int} (hp:zs.Perm (dedI fs)) (hs:zs.Pairwise (·<=·)) (h:∀ x ∈ fs,0<=x/\x<k):Rise k zs:=
 ⟨qMJ hs (hp.nodup_iff.mpr (qKG fs)),fun x hx=>h x (mem_dedI.mp (hp.mem_iff.mp hx))⟩
def qAC (lo hi:Int):List Int:=(G5 (hi - lo).toNat).map fun (i:Nat)=>lo+i
theorem qDX (lo hi:Int):qFL lo hi=(qAC lo hi).map V.int:=by
 unfold qFL qAC;rw [P8]
 rfl
theorem mem_rangeI {lo hi x:Int}:x ∈ qAC lo hi ↔ lo<=x/\x<hi:=by
 unfold qAC;rw [D7]
 constructor
 ·rintro ⟨i,hi',e⟩;have:=E9.mp hi'
  lia
 ·intro h;exact ⟨(x - lo).toNat,E9.mpr (by lia),by lia⟩
theorem qBL (lo hi:Int):(qAC lo hi).length=(hi - lo).toNat:=by unfold qAC;simp
theorem qEP (lo hi:Int):(qAC lo hi).Pairwise (·<·):=by
 unfold qAC;exact M9.mpr (T5.imp fun {a b} h=>by lia)
theorem qNQ {lo hi:Int} (h:0<=lo):Rise hi (qAC lo hi):=⟨qEP _ _,fun x hx=>by have:=mem_rangeI.mp hx;lia⟩
theorem qEU {α:Type} (xs:List α) (k:Nat) (h:k<=xs.length):cutI xs (some (k:Int)) none=xs.drop k:=by
 unfold cutI;rw [HT.sIx_nat,HT.sIx_none,B26 h];exact E6 (by rw [G8];exact A9 _)
theorem qZ7 {α:Type} (xs:List α) (k:Nat):cutI xs none (some (k:Int))=xs.take k:=by
 unfold cutI;rw [HT.sIx_nat,HT.sIx_none,z9,Nat.sub_zero];rcases Nat.le_total k xs.length with h | h
 ·rw [B26 h]
 ·rw [Nat.min_eq_right h,E6 h,E6 (A9 _)]
abbrev NetL (H:Hp):List Addr->List (List Int)->Prop:=Paired fun r zs=>H r=some (.tup (zs.map V.int))
theorem NetL.keep {d c:Addr} {H H':Hp} {rs:List Addr} {Ae:List (List Int)} (h:NetL H rs Ae) (hd:∀ r zs,H r=some (.tup zs)->r ≠ d/\r ≠ c) (k:Keep d c H H'):NetL H' rs Ae:=by
 induction h with
 | nil=>exact .nil
 | cons r t ih=>exact .cons (k _ _ r (hd _ _ r).1 (hd _ _ r).2) ih
theorem NetL.same {H H':Hp} {rs:List Addr} {Ae:List (List Int)} (h:NetL H rs Ae) (k:∀ r zs,H r=some (.tup zs)->H' r=some (.tup zs)):NetL H' rs Ae:=by
 induction h with
 | nil=>exact .nil
 | cons r t ih=>exact .cons (k _ _ r) ih
theorem NetL.get {H:Hp}:∀ {rs:List Addr} {Ae:List (List Int)} {i:Nat} {zs:List Int},NetL H rs Ae->Ae[i]?=some zs->∃ r,rs[i]?=some r/\H r=some (.tup (zs.map V.int))
 | _,_,_,_,.nil,e=>by simp at e
 | _,_,0,_,.cons r _,e=>by simp at e;subst e;exact ⟨_,rfl,r⟩
 | _,_,i+1,zs,.cons _ t,e=>by
  obtain ⟨r,h1,h2⟩:=NetL.get (i:=i) (zs:=zs) t (by simpa using e)
  exact ⟨r,by simpa using h1,h2⟩
def NetAt (H:Hp) (a:Addr) (Ae:List (List Int)):Prop:=∃ rs:List Addr,H a=some (.tup (rs.map V.ref))/\NetL H rs Ae
theorem StAt.tup {H:Hp} {d c:Addr} {t:Int} {ns:List Int} (S:StAt H d c t ns) {r:Addr} {zs:List V} (h:H r=some (.tup zs)):r ≠ d/\r ≠ c:=
 ⟨qC2 h S.dict (by intro z;cases z),qC2 h S.list (by intro z;cases z)⟩
theorem NetAt.keep {H H':Hp} {d c:Addr} {t:Int} {ns:List Int} (S:StAt H d c t ns) {a:Addr} {Ae:List (List Int)} (h:NetAt H a Ae) (k:Keep d c H H'):NetAt H' a Ae:=by
 obtain ⟨rs,h1,h2⟩:=h;exact ⟨rs,k _ _ h1 (S.tup h1).1 (S.tup h1).2,h2.keep (fun r zs e=>S.tup e) k⟩
theorem NetAt.same {H H':Hp} {a:Addr} {Ae:List (List Int)} (h:NetAt H a Ae) (k:Same H H'):NetAt H' a Ae:=by
 obtain ⟨rs,h1,h2⟩:=h;exact ⟨rs,k _ _ h1,h2.same fun r zs e=>k _ _ e⟩
theorem NetAt.len {H:Hp} {rs:List Addr} {Ae:List (List Int)} (h:NetL H rs Ae):rs.length=Ae.length:=C6 h
def WFn (Ae:List (List Int)):Prop:=∀ (i:Nat) zs,Ae[i]?=some zs->Rise (i:Int) zs
theorem WFn.snoc {Ae:List (List Int)} {zs:List Int} (h:WFn Ae) (hz:Rise (Ae.length:Int) zs):WFn (Ae++[zs]):=by
 intro i ys e;rcases B00 i Ae.length with l | l | l
 ·rw [C5 l] at e;exact h i ys e
 ·subst l;simp at e;subst e;exact hz
 ·rw [P9 (by rw [A5,B3];lia)] at e
  cases e
theorem WFn.nil:WFn []:=fun i zs e=>by simp at e
theorem qBN {α β:Type} {F:α->β->Prop} {a:α} {b:β} {l₁:List α} {l₂:List β} (h:Paired F l₁ l₂) (r:F a b):Paired F (l₁++[a]) (l₂++[b]):=c8 h r
def qNL:Sp:=fun vs H Q _=>∃ d c t ns k,vs=[.ref d,.int k]/\StAt H d c t ns/\t<=TB - 20/\0<=k/\k<=1000/\
 ∀ r zs t' ns' H',StAt H' d c t' ns'->t<=t'->t'<=t+9->Keep d c H H'->H' r=some (.tup (zs.map V.int))->Rise k zs->Q (.ref r) H'
def qZX:Sp:=fun vs H Q _=>∃ d c t ns m,vs=[.ref d,.int m]/\StAt H d c t ns/\t<=TB - 10000/\1<=m/\m<=400/\
 ∀ a Ae t' ns' H',StAt H' d c t' ns'->t<=t'->t'<=t+10 * m+10->Keep d c H H'->NetAt H' a Ae->WFn Ae->(Ae.length:Int)=m->Q (.ref a) H'
def qWS:Sp:=fun vs H Q _=>∃ d c t ns m,vs=[.ref d,.int m]/\StAt H d c t ns/\t<=TB - 1000/\1<=m/\m<=400/\
 ∀ a Ae t' ns' H',StAt H' d c t' ns'->t<=t'->t'<=t+m->Keep d c H H'->NetAt H' a Ae->WFn Ae->(Ae.length:Int)=m->Q (.ref a) H'
theorem qc6 {a b k:Int} (h0:0<=k) (h1:k<4):∃ v,atI [V.int a,V.int b] (k / 3)=some (.int v)/\(v=a\/v=b):=by
 rcases (by lia:k=0\/k=1\/k=2\/k=3) with rfl | rfl | rfl | rfl
 ·exact ⟨a,rfl,.inl rfl⟩
 ·exact ⟨a,rfl,.inl rfl⟩
 ·exact ⟨a,rfl,.inl rfl⟩
 ·exact ⟨b,rfl,.inr rfl⟩
theorem qc5 {k:Int} (h0:0<=k) (h1:k<6):∃ v,atI [V.int 0,V.int 0,V.int 1,V.int 2,V.int 2,V.int 3] k=some (.int v)/\0<=v/\v<=3:=by
 rcases (by lia:k=0\/k=1\/k=2\/k=3\/k=4\/k=5) with rfl | rfl | rfl | rfl | rfl | rfl
 all_goals exact ⟨_,rfl,by decide,by decide⟩
theorem qAB {H Hc:Hp} {p:Addr} {o:HO} (h:Same H Hc) (hp:H p=none):Same H (Ag Hc p o):=fun b u e=>by rw [qA7 (qA5 e hp)];exact h b u e
theorem qID {d c:Addr} {H Hc:Hp} {p:Addr} {o:HO} (h:Keep d c H Hc) (hp:H p=none):Keep d c H (Ag Hc p o):=fun b u e n1 n2=>by rw [qA7 (qA5 e hp)];exact h b u e n1 n2
theorem qC1 {H:Hp} {p:Addr} {xs:List V} {o:HO} {rs:List Addr} {Ae:List (List Int)} (h:NetL H rs Ae) (hp:H p=some (.lst xs)):NetL (Ag H p o) rs Ae:=
 h.same fun r zs e=>by rw [qA7 (qC2 e hp (by intro z;cases z))];exact e
theorem qBM (rs:List Addr) (r:Addr):rs.map V.ref++[V.ref r]=(rs++[r]).map V.ref:=by rw [B2];rfl
theorem qa5 (b:Bool) (x:Int):(D6 (if b=true then (1:Int) else 0).toNat [V.int x]).flatten=(if b=true then [x] else []).map V.int:=by cases b <;> rfl
theorem qBA {α β:Type} {F:α->β->Prop}:∀ {l₁:List α} {l₂:List β} {i:Nat} {a:α},Paired F l₁ l₂->l₁[i]?=some a->∃ b,l₂[i]?=some b/\F a b
 | _,_,_,_,.nil,e=>by simp at e
 | _,_,0,_,.cons r _,e=>by simp at e;subst e;exact ⟨_,rfl,r⟩
 | _,_,i+1,a,.cons _ t,e=>by
  obtain ⟨b,h1,h2⟩:=qBA (i:=i) (a:=a) t (by simpa using e)
  exact ⟨b,by simpa using h1,h2⟩
theorem qH7 {α β:Type} {F G:α->β->Prop} {l₁:List α} {l₂:List β} (h:Paired F l₁ l₂) (k:∀ a b,F a b->G a b):Paired G l₁ l₂:=by
 induction h with
 | nil=>exact .nil
 | cons r t ih=>exact .cons (k _ _ r) ih
theorem qES {rs:List Addr} {i:Nat} {x:V} (h:(rs.map V.ref)[i]?=some x):∃ r,rs[i]?=some r/\x=.ref r:=by
 rw [C4] at h;cases e:rs[i]? with
 | none=>rw [e] at h;cases h
 | some r=>rw [e] at h;exact ⟨r,rfl,(J3 h).symm⟩
theorem qB4 {zs:List Int} {i:Nat} {x:V} (h:(zs.map V.int)[i]?=some x):∃ z,zs[i]?=some z/\x=.int z:=by
 rw [C4] at h;cases e:zs[i]? with
 | none=>rw [e] at h;cases h
 | some r=>rw [e] at h;exact ⟨r,rfl,(J3 h).symm⟩
theorem qP4 {α:Type} {l:List α} {a b:α} {j:Nat} (h:(l++[a])[j]?=some b):l[j]?=some b\/(j=l.length/\b=a):=by
 rcases B00 j l.length with z | z | z
 ·rw [C5 z] at h;exact .inl h
 ·subst z;simp at h;exact .inr ⟨rfl,h.symm⟩
 ·rw [P9 (by rw [A5,B3];lia)] at h
  cases h
theorem qCY (a:Int) (zs:List Int):inV (.int a) (zs.map V.int)=decide (a ∈ zs):=by
 unfold inV
 induction zs with
 | nil=>simp
 | cons z r ih=>
  rw [E8,d5,ih];have e:eqV (.int z) (.int a)=decide (a=z):=by
   by_cases h:z=a
   ·subst h;simp [eqV]
   ·have h':¬ a=z:=fun q=>h q.symm;simp [eqV,h,h']
  rw [e];simp [B8]
theorem qBK (zs:List Int):(zs.map V.int).all qL9=true:=by
 rw [E7];intro x hx;obtain ⟨z,_,rfl⟩:=D7.mp hx
 rfl
def qZN (ns st:List Int) (Aa wk:Int):V:=if wk ∈ st then .str "there" else if ∀ x ∈ ns,x ∈ st then (if Aa<=(st.length:Int) then .str "full" else .non) else .str "needs"
def qRL (st:List Int) (wk:Int):V:=if wk ∈ st then .non else .str "empty"
def qZM (ns st:List Int) (Aa:Int) (Ac:Str) (wk:Int):V:=if Ac = "do" then qZN ns st Aa wk else qRL st wk
theorem qD6 {xs:List V} {i:Int} {x:V} (h0:0<=i) (h:xs[i.toNat]?=some x):atI xs i=some x:=by
 have e:i=((i.toNat:Nat):Int):=by lia
 rw [e];exact qUH (by simpa using h)
theorem NetAt.get {H:Hp} {a:Addr} {Ae:List (List Int)} {ns:List Int} {i:Nat} (h:NetAt H a Ae) (e:Ae[i]?=some ns):∃ (rs:List Addr) (r:Addr),H a=some (.tup (rs.map V.ref))/\rs.length=Ae.length/\(rs.map V.ref)[i]?=some (.ref r)/\H r=some (.tup (ns.map V.int)):=by
 obtain ⟨rs,h1,h2⟩:=h;obtain ⟨r,h3,h4⟩:=h2.get e;exact ⟨rs,r,h1,C6 h2,by rw [C4,h3];rfl,h4⟩
theorem qUA:B67 "zip" = some (.type "zip"):=by decide +kernel
def seqO (b:Bool) (xs:List V):HO:=match b with | true=>.tup xs | false=>.lst xs
def Leaf (x:V):Prop:=x=.non\/(∃ i,x=.int i)\/∃ y,x=.str y
def Alike (H:Hp):Nat->V->V->Prop
 | 0,x,y=>x=y/\Leaf x
 | n+1,x,y=>(x=y/\Leaf x)\/∃ (b:Bool) (a c:Addr) (xs ys:List V),x=.ref a/\y=.ref c/\H a=some (seqO b xs)/\H c=some (seqO b ys)/\xs.length=ys.length/\xs.length<=100000/\∀ (i:Nat) (x' y':V),xs[i]?=some x'->ys[i]?=some y'->Alike H n x' y'
theorem Alike.same {H H':Hp} (s:Same H H'):∀ {n:Nat} {x y:V},Alike H n x y->Alike H' n x y:=by
 intro n
 induction n with
 | zero=>exact fun {x y} h=>show x=y/\Leaf x from h
 | succ n ih=>
  rintro x y (h | ⟨b,a,c,xs,ys,e1,e2,h1,h2,hl,hb,h⟩)
  ·exact .inl h
  ·exact .inr ⟨b,a,c,xs,ys,e1,e2,s _ _ h1,s _ _ h2,hl,hb,fun i x' y' q1 q2=>ih (h i x' y' q1 q2)⟩
def qZW (n:Nat):Sp:=fun vs H Q _=>∃ x y:V,vs=[x,y]/\Alike H n x y/\∀ H',Same H H'->Q (.bl true) H'
theorem SqB.of {b:Bool} {K:PySem.W.Frag} {H:Hp} {a:Addr} {xs:List V} (h:H a=some (seqO b xs)):SqB b K H a xs:=by
 cases b
 ·exact SqL.of h
 ·exact SqT.of h
def tyOf (b:Bool):Value:=match b with | true=>.type "tuple" | false=>.type "list"
theorem qIP {b:Bool} {K:PySem.W.Frag} {H:Hp} {a:Addr} {xs:List V} (h:H a=some (seqO b xs)):TyOf K H (.ref a) (tyOf b):=by
 cases b
 ·exact TyOf.lst h
 ·exact TyOf.tup h
section
variable {K:PySem.W.Frag}
theorem qK8 (b:Bool):G9 K (tyOf b) (.type "list")=some (!b):=by cases b <;> rfl
theorem qML (b:Bool):G9 K (tyOf b) (.type "tuple")=some b:=by cases b <;> rfl
theorem qaY:G9 K (.type "str") (.type "list")=some false:=by rfl
theorem qaX:G9 K (.type "str") (.type "tuple")=some false:=by rfl
theorem qX4:G9 K (.type "str") (.type "str")=some true:=by rfl
theorem qb1:G9 K (.type "int") (.type "list")=some false:=by rfl
theorem qaZ:G9 K (.type "int") (.type "tuple")=some false:=by rfl
theorem qb0:G9 K (.type "int") (.type "str")=some false:=by rfl
theorem qb2:G9 K (.type "int") (.type "int")=some true:=by rfl
theorem qb3:G9 K (.type "int") (.type "bool")=some false:=by rfl
end
theorem qUE {i:Nat}:((D6 i true).map V.bl)++[V.bl true]=(D6 (i+1) true).map V.bl:=by
 rw [List.replicate_succ',B2];rfl
theorem qUJ {n:Nat}:(D6 n true).all id=true:=by simp
def qNE (x:V) (d:PyData):Prop:=(x=.non/\d=.none)\/(∃ b,x=.bl b/\d=.bool b)\/(∃ i,x=.int i/\d=.int i)\/∃ y,x=.str y/\d=.str y
def seqD (b:Bool) (ds:List PyData):PyData:=match b with | true=>.tuple ds | false=>.list ds
def DatN (H:Hp):Nat->V->PyData->Prop
 | 0,x,d=>qNE x d
 | n+1,x,d=>qNE x d\/∃ (b:Bool) (a:Addr) (xs:List V) (ds:List PyData),x=.ref a/\d=seqD b ds/\H a=some (seqO b xs)/\xs.length=ds.length/\∀ (i:Nat) (x':V) (d':PyData),xs[i]?=some x'->ds[i]?=some d'->DatN H n x' d'
theorem DatN.same {H H':Hp} (s:Same H H'):∀ {n:Nat} {x:V} {d:PyData},DatN H n x d->DatN H' n x d:=by
 intro n
 induction n with
 | zero=>exact fun {x d} h=>show qNE x d from h
 | succ n ih=>
  rintro x d (h | ⟨b,a,xs,ds,e1,e2,h1,hl,h⟩)
  ·exact .inl h
  ·exact .inr ⟨b,a,xs,ds,e1,e2,s _ _ h1,hl,fun i x' d' q1 q2=>ih (h i x' d' q1 q2)⟩
end Fw
namespace L2
open PySem PySem.Spec PyProof.Rows Fw
section
variable {X:Cx} {Ab:List (Addr × Obj)} {σ:St} {H:Hp} {s:Shared}
end
open PySem PySem.Spec PyProof.Rows
section
variable {X:Cx}
end
end L2
namespace HT
open PySem PySem.Spec PyProof.Rows
section
variable {prog:B60} {w:World} {A:Around} {E:Value->Shared->Prop} {s:Shared}
end
end HT
namespace L2
open PySem PySem.Spec PyProof.Rows Fw
section
variable {X:Cx} {e:Expr} {te:TE} {st:Option Expr} {tst:TO} {pos p2:Pos}
theorem qHU {K:PySem.W.Frag} (hK:X.K=K):qC5 X (.builtin "isinstance") (fun xs H Q=>∃ x T t b,xs=[x,.ty T]/\TyOf K H x t/\G9 K t (.type T)=some b/\Q (.bl b) H):=by subst hK;exact qAV
end
end L2
namespace Fw
open PySem L2
abbrev MovL (H:Hp):List Addr->List (Str × Int)->Prop:=Paired fun r m=>H r=some (.tup [.str m.1,.int m.2])
theorem qQI {α β:Type} {F:α->β->Prop} {a c:List α} {b d:List β} (h:Paired F a b) (k:Paired F c d):Paired F (a++c) (b++d):=by
 induction h with
 | nil=>exact k
 | cons r t ih=>exact .cons r ih
theorem qK4 {α β:Type} {F:α->β->Prop}:∀ {l₁:List α} {l₂:List β} {i:Nat} {b:β},Paired F l₁ l₂->l₂[i]?=some b->∃ a,l₁[i]?=some a/\F a b
 | _,_,_,_,.nil,e=>by simp at e
 | _,_,0,_,.cons r _,e=>by simp at e;subst e;exact ⟨_,rfl,r⟩
 | _,_,i+1,b,.cons _ t,e=>by
  obtain ⟨a,h1,h2⟩:=qK4 (i:=i) (b:=b) t (by simpa using e)
  exact ⟨a,by simpa using h1,h2⟩
def qaS (w:Str) (n:Nat):List (Str × Int):=(G5 n).map fun (i:Nat)=>(w,(i:Int))
def wd (Ae:List (List Int)) (st:List Int) (Aa:Int) (m:Str × Int):V:=qZM ((Ae[m.2.toNat]?).getD []) st Aa m.1 m.2
def qcK (n:Nat):List (Str × Int):=qaS "do" n++qaS "clear" n
def qZ2 (Ae:List (List Int)) (st:List Int) (Aa:Int):List (Str × Int):=(qcK Ae.length).filter fun m=>decide (wd Ae st Aa m=.non)
theorem qOU {α:Type} {l:List α} {n:Nat} (h:l.length=n):l.take n=l:=E6 (by lia)
structure Cnt (n:Nat) (cs:List Int) (seen:List Int):Prop where
 len:cs.length=n
 at_:∀ x:Nat,x<n->∃ c,cs[x]?=some c/\0<=c/\(c=0 ↔ (x:Int) ∉ seen)
def qWT:Sp:=fun vs H Q _=>∃ d c t ns m,vs=[.ref d,.int m]/\StAt H d c t ns/\t<=TB - 100/\9<=m/\m<=400/\∀ k t' ns' H',1<=k->k<=m->StAt H' d c t' ns'->t<=t'->t'<=t+3->Keep d c H H'->Q (.int k) H'
theorem qc4 {a b k:Int} (h0:0<=k) (h1:k<7) (ha:1<=a/\a<=9) (hb:1<=b/\b<=9):∃ v,atI [V.int a,V.int 3,V.int 4,V.int 5,V.int 6,V.int 7,V.int b] k=some (.int v)/\1<=v/\v<=9:=by
 rcases (by lia:k=0\/k=1\/k=2\/k=3\/k=4\/k=5\/k=6) with rfl | rfl | rfl | rfl | rfl | rfl | rfl
 ·exact ⟨a,rfl,ha⟩
 ·exact ⟨3,rfl,by decide,by decide⟩
 ·exact ⟨4,rfl,by decide,by decide⟩
 ·exact ⟨5,rfl,by decide,by decide⟩
 ·exact ⟨6,rfl,by decide,by decide⟩
 ·exact ⟨7,rfl,by decide,by decide⟩
 ·exact ⟨b,rfl,hb⟩
theorem qAR {n:Nat} (h:n<=1000000):n<B59:=by rw [B66];lia
inductive Nd (Ae:List (List Int)) (Ad:List Int):Int->Prop
 | ask {x:Int}:x ∈ Ad->Nd Ae Ad x
 | need {w y:Int} {zs:List Int}:Nd Ae Ad w->Ae[w.toNat]?=some zs->y ∈ zs->Nd Ae Ad y
structure KeysI (Af:List (Key × V)) (ks:List Int):Prop where
 keys:Af.map (·.1)=ks.map D9
 nd:ks.Nodup
theorem qaR {ks:List Int} {n:Nat} (h:ks.Nodup) (b:∀ x ∈ ks,0<=x/\x<(n:Int)):ks.length<=n:=by
 have sub:ks ⊆ (G5 n).map fun (i:Nat)=>(i:Int):=fun x hx=>by
  have:=b x hx;exact D7.mpr ⟨x.toNat,E9.mpr (by lia),by lia⟩
 have:=D3 h sub;simpa using this
structure Fnd (Ae:List (List Int)) (Ad ks:List Int) (j:Int):Prop where
 in_:∀ x ∈ ks,(0<=x/\x<(Ae.length:Int))/\Nd Ae Ad x
 ask:∀ x ∈ Ad,x ∈ ks
 clo:∀ (w:Nat) zs,j<=(w:Int)->(w:Int) ∈ ks->Ae[w]?=some zs->∀ y ∈ zs,y ∈ ks
def qWM (Ae:List (List Int)) (Ad zs:List Int):Prop:=Rise (Ae.length:Int) zs/\∀ x,x ∈ zs ↔ Nd Ae Ad x
theorem qZO:∀ {l m:List Int},l.Pairwise (·<·)->m.Pairwise (·<·)->(∀ x,x ∈ l ↔ x ∈ m)->l=m
 | [],[],_,_,_=>rfl
 | [],y::m,_,_,h=>absurd ((h y).mpr (by simp)) (by simp)
 | x::l,[],_,_,h=>absurd ((h x).mp (by simp)) (by simp)
 | x::l,y::m,hl,hm,h=>by
  have l1:=G4.mp hl;have m1:=G4.mp hm;have exy:x=y:=by
   rcases B8.mp ((h x).mp (by simp)) with e | e
   ·exact e
   ·rcases B8.mp ((h y).mpr (by simp)) with e2 | e2
    ·exact e2.symm
    ·have:=m1.1 x e;have:=l1.1 y e2
     lia
  subst exy;rw [qZO l1.2 m1.2 fun z=>?_]
  constructor
  ·intro hz;rcases B8.mp ((h z).mp (by simp [hz])) with e | e
   ·have:=l1.1 z hz;lia
   ·exact e
  ·intro hz;rcases B8.mp ((h z).mpr (by simp [hz])) with e | e
   ·have:=m1.1 z hz;lia
   ·exact e
theorem qSO {Ae:List (List Int)} (wf:WFn Ae) (w:Nat):Rise (w:Int) ((Ae[w]?).getD []):=by
 cases e:Ae[w]? with
 | none=>exact Rise.nil
 | some zs=>exact wf w zs e
abbrev Mv:=Str × Int
def nd (Ae:List (List Int)) (w:Int):List Int:=(Ae[w.toNat]?).getD []
theorem qBJ {Ae:List (List Int)} {w:Int} {zs:List Int} (h:Ae[w.toNat]?=some zs):nd Ae w=zs:=by unfold nd;rw [h];rfl
def qX3 (Ae:List (List Int)):List Int->Int->Option Int
 | [],_=>none
 | w::r,y=>match qX3 Ae r y with
  | some v=>some v
  | none=>if y ∈ nd Ae w then some w else none
def qYP (Ae:List (List Int)) (zs:List Int) (j:Nat) (x:Int):Prop:=∃ v ∈ zs.drop j,x ∈ nd Ae v
instance (Ae:List (List Int)) (zs:List Int) (j:Nat) (x:Int):Decidable (qYP Ae zs j x):=by unfold qYP;infer_instance
def clrs (Ae:List (List Int)) (Ad zs:List Int) (w:Int):List Int:=(nd Ae w).filter fun y=>decide (qX3 Ae zs y=some w/\y ∉ Ad)
def qc7 (Ae:List (List Int)) (Ad zs:List Int) (w:Int):List Mv:=("do",w)::(clrs Ae Ad zs w).map fun y=>("clear",y)
def qaB (Ae:List (List Int)) (Ad zs:List Int):List Mv:=zs.flatMap (qc7 Ae Ad zs)
inductive Run (Ae:List (List Int)) (Aa:Int):List Int->List Mv->List Int->Prop
 | nil {s:List Int}:Run Ae Aa s [] s
 | do_ {s s' t:List Int} {w:Int} {ms:List Mv}:w ∉ s->(∀ y ∈ nd Ae w,y ∈ s)->(s.length:Int)<Aa->s'.Perm (s++[w])->s'.Pairwise (·<·)->Run Ae Aa s' ms t->Run Ae Aa s (("do",w)::ms) t
 | clear {s t:List Int} {w:Int} {ms:List Mv}:w ∈ s->Run Ae Aa (s.filter fun x=>decide (x ≠ w)) ms t->Run Ae Aa s (("clear",w)::ms) t
section
variable {Ae:List (List Int)} {Ad zs:List Int}
theorem qc8 (wf:WFn Ae) (w:Int):(nd Ae w).Pairwise (·<·):=(qSO wf w.toNat).up
end
def qXN (H:Hp) (l:Addr) (ms:List Mv):Prop:=∃ rs:List Addr,H l=some (.lst (rs.map V.ref))/\MovL H rs ms
def lv (L:List Int) (x:Int):Int:=(L[x.toNat]?).getD 0
structure Lev (Ae:List (List Int)) (L:List Int):Prop where
 len:L.length=Ae.length
 at_:∀ (i:Nat) zs,Ae[i]?=some zs->∃ l,L[i]?=some l/\0<=l/\l<=(i:Int)/\(∀ y ∈ zs,lv L y+1<=l)/\(l=0\/∃ y ∈ zs,lv L y+1=l)
structure Fd (n:Nat) (L:List Int) (S:Int->Prop) (fs:List Int):Prop where
 len:fs.length=n
 at_:∀ w:Nat,w<n->(S w->fs[w]?=some (lv L w))/\(¬ S w->fs[w]?=some 0)
structure CntX (n:Nat) (cs:List Int) (seen:List Int):Prop where
 len:cs.length=n
 at_:∀ x:Nat,x<n->cs[x]?=some ((seen.count (x:Int):Nat):Int)
def Beh (st st':List Int) (Ac:Str) (wk:Int):Prop:=(Ac = "do"->st'.Perm (st++[wk])/\st'.Pairwise (·<=·))/\(Ac = "clear"->st'=st.filter fun x=>decide (x ≠ wk))
theorem qKV (e:Addr):∀ k:Nat,(D6 k [V.ref e]).flatten=(D6 k e).map V.ref
 | 0=>rfl
 | k+1=>by rw [Q6,L9,qKV e k,Q6];rfl
theorem qIZ {H:Hp} {e:Addr} (h:H e=some (.tup (([]:List Int).map V.int))):∀ k:Nat,NetL H (D6 k e) (D6 k [])
 | 0=>.nil
 | k+1=>.cons h (qIZ h k)
inductive Play (Ae:List (List Int)) (Aa:Int):List Int->List Mv->List (List Int)->V->Prop
 | nil {st}:Play Ae Aa st [] [] .non
 | stop {st m ms w0}:wd Ae st Aa m=.str w0->Play Ae Aa st (m::ms) [] (.str w0)
 | go {st st' m ms sts v}:wd Ae st Aa m=.non->Beh st st' m.1 m.2->Play Ae Aa st' ms sts v->Play Ae Aa st (m::ms) (st'::sts) v
def MvOk (Ae:List (List Int)) (ms:List Mv):Prop:=∀ m ∈ ms,(m.1 = "do"\/m.1 = "clear")/\0<=m.2/\m.2<(Ae.length:Int)
def qWL (H:Hp) (l:Addr) (sts:List (List Int)):Prop:=∃ rs:List Addr,H l=some (.lst (rs.map V.ref))/\NetL H rs sts
def lens (sts:List (List Int)):List Int:=sts.map fun z=>(z.length:Int)
structure YNa (K:PySem.W.Frag) (C:Addr):Prop where
 Ae:qQ9 K C "net"
 Aa:qQ9 K C "rooms"
 made:qQ9 K C "made"
 stands:qQ9 K C "stands"
def yfs (a:Addr) (Aa:Int) (lm ls:Addr):List (Str × V):=putF "stands" (.ref ls) (putF "made" (.ref lm) (putF "rooms" (.int Aa) (putF "net" (.ref a) [])))
structure YardAt (C:Addr) (H:Hp) (y a lm ls:Addr) (Ae:List (List Int)) (Aa:Int) (ms:List Mv) (sts:List (List Int)):Prop where
 obj:∃ dx,H y=some (.ins C dx (yfs a Aa lm ls))
 nat:NetAt H a Ae
 wf:WFn Ae
 n400:Ae.length<=400
 r0:0<=Aa
 r62:Aa<=62
 made:qXN H lm ms
 ok:MvOk Ae ms
 len:ms.length<=10000
 stands:qWL H ls ([]::sts)
 play:Play Ae Aa [] ms sts .non
 ne:lm ≠ ls
abbrev qb8 (s:Nat × Nat):List Key:=[D9 (s.1:Int),D9 (s.2:Int)]
structure NumP (rs:List Addr) (ss:List (Nat × Nat)) (j:Nat) (ps:List (List Key × Addr × V)):Prop where
 keys:ps.map (·.1)=(ss.take j).map qb8
 at_:∀ (k:Nat) (s:Nat × Nat),k<j->ss[k]?=some s->∃ a,ps[k]?=some (qb8 s,a,.int (k:Int))
def qYX (ins:List (Int × Int)) (x:Int):Option Int:=(ins.find? fun q=>decide (q.1=x)).map (·.2)
def qc2 (ins:List (Int × Int)) (i:Nat):Nat:=((G5 i).filter fun (x:Nat)=>(qYX ins (x:Int)).isNone).length
def numO (m:Nat) (ins:List (Int × Int)) (x:Nat):Int:=match qYX ins (x:Int) with | some v=>v | none=>((m+qc2 ins x:Nat):Int)
structure InsAt (H:Hp) (i:Addr) (ins:List (Int × Int)):Prop where
 at_:∃ rs:List Addr,qcR H i (rs.map V.ref)/\Paired (fun r (q:Int × Int)=>H r=some (.tup [.int q.1,.int q.2])) rs ins
 nodup:(ins.map (·.1)).Nodup
structure InsOk (m:Nat) (other:List (List Int)) (k:Nat) (ins:List (Int × Int)) (fs:List Int):Prop where
 st:∀ q ∈ ins,(0<=q.1/\q.1<(k:Int))/\other[q.1.toNat]?=some []/\0<=q.2/\q.2<(m:Int)
 nd1:(ins.map (·.1)).Nodup
 nd2:(ins.map (·.2)).Nodup
 fr:fs.Nodup
 fin:∀ x ∈ fs,(0<=x/\x<(m:Int))/\x ∉ ins.map (·.2)
 len:ins.length<=k
def pm (m:Mv):Int:=if m.1 = "do" then 1 else -1
def peak:Int->List Mv->Int
 | n,[]=>n
 | n,m::ms=>max n (peak (n+pm m) ms)
def less (th s:List Int):List Int:=s.filter fun x=>decide (x ∉ th)
def qcA (th:List Int) (ms:List Mv):List Mv:=ms.filter fun m=>decide (m.2 ∉ th)
def pbGo (num:Int->Int) (jn:Int->Bool) (pl:Int->List Mv):List Int->List Mv->List Mv
 | _,[]=>[]
 | th,m::ms=>if m.1 = "clear" then ("clear",num m.2)::pbGo num jn pl (th.filter fun x=>decide (x ≠ num m.2)) ms else (if jn m.2 then qcA th (pl (num m.2)) else [("do",num m.2)])++pbGo num jn pl (th++[num m.2]) ms
structure ThOk (n:Nat) (num:Int->Int) (th s:List Int):Prop where
 perm:th.Perm (s.map num)
 rise:Rise (n:Int) s
structure TopO (Ae:List (List Int)) (zs:List Int):Prop where
 nodup:zs.Nodup
 in_:∀ x ∈ zs,0<=x/\x<(Ae.length:Int)
 bef:∀ (p:Nat) (o:Int),zs[p]?=some o->∀ x ∈ nd Ae o,x ∈ zs.take p
 aft:∀ (p:Nat) (o:Int),zs[p]?=some o->p+1<zs.length->qYP Ae zs (p+1) o
structure Begun (Ae:List (List Int)) (some_ ord:List Int):Prop where
 nodup:ord.Nodup
 sub:∀ x ∈ ord,x ∈ some_
 bef:∀ (p:Nat) (o:Int),ord[p]?=some o->∀ x ∈ nd Ae o,x ∈ ord.take p
noncomputable def ndOf (Ae:List (List Int)) (Ad:List Int):List Int:=by
 classical
 exact if h:∃ zs,qWM Ae Ad zs then Classical.choose h else []
noncomputable def qWY (Ae:List (List Int)) (w:Int):List Mv:=qaB Ae [w] (ndOf Ae [w])
def numF (m:Nat) (ins:List (Int × Int)) (x:Int):Int:=numO m ins x.toNat
def qcB (ins:List (Int × Int)) (x:Int):Bool:=(qYX ins x).isSome
noncomputable def qcT (one:List (List Int)) (ins:List (Int × Int)) (ms:List Mv):List Mv:=pbGo (numF one.length ins) (qcB ins) (qWY one) [] ms
noncomputable def qc9 (one:List (List Int)) (ins:List (Int × Int)):Int:=(topD (some 1) (ins.map fun q=>peak 0 (qWY one q.2))).getD 0
noncomputable def qcS (one:List (List Int)) (ins:List (Int × Int)) (ms:List Mv):Int:=match ins with | []=>peak 0 ms | _::_=>qc9 one ins+peak 0 ms - 1
structure BehIn (H:Hp) (a b i l:Addr) (one other:List (List Int)) (ins:List (Int × Int)) (ms:List Mv) (st:List Int):Prop where
 gA:NetAt H a one
 wf1:WFn one
 gB:NetAt H b other
 wf2:WFn other
 gI:InsAt H i ins
 ok:∃ fs,InsOk one.length other other.length ins fs
 plan:qXN H l ms
 mv:MvOk other ms
 len:ms.length<=400
 run:Run other (other.length:Int) [] ms st
 o1:1<=one.length
 o2:one.length<=60
 o3:1<=other.length
 o4:other.length<=60
structure TwoIn (H:Hp) (a b i:Addr) (one other:List (List Int)) (ins:List (Int × Int)):Prop where
 gA:NetAt H a one
 wf1:WFn one
 gB:NetAt H b other
 wf2:WFn other
 gI:InsAt H i ins
 ok:∃ fs,InsOk one.length other other.length ins fs
 o1:1<=one.length
 o2:one.length<=40
 o3:1<=other.length
 o4:other.length<=7
theorem qNV {α β:Type} {F:α->β->Prop} {l₁:List α} {l₂:List β} (h:Paired F l₁ l₂):Paired F l₁.reverse l₂.reverse:=by
 induction h with
 | nil=>exact .nil
 | cons r _ ih=>rw [A13,A13];exact qBN ih r
section
variable {Ae:List (List Int)}
theorem qC9 (wf:WFn Ae) {w y:Int} (h0:0<=w) (h:y ∈ nd Ae w):0<=y/\y<w:=by
 unfold nd at h;cases e:Ae[w.toNat]? with
 | none=>rw [e] at h;cases h
 | some zs=>
  rw [e] at h;have:=(wf _ _ e).in_ y h
  lia
def qFK (Ae:List (List Int)):Nat->List Int
 | 0=>[]
 | i+1=>qFK Ae i++[if nd Ae (i:Int)=[] then 1 else ((nd Ae (i:Int)).map fun z=>(qFK Ae i).getD z.toNat 0).sum]
def cn (Ae:List (List Int)) (z:Int):Int:=(qFK Ae (z.toNat+1)).getD z.toNat 0
theorem qDP:∀ i,(qFK Ae i).length=i
 | 0=>rfl
 | i+1=>by rw [qFK,A5,qDP i];rfl
theorem qII:∀ i,qFK Ae i=(G5 i).map fun (k:Nat)=>cn Ae (k:Int)
 | 0=>rfl
 | i+1=>by
  have e:cn Ae (i:Int)=if nd Ae (i:Int)=[] then 1 else ((nd Ae (i:Int)).map fun z=>(qFK Ae i).getD z.toNat 0).sum:=by
   unfold cn;rw [K9,qFK,L4,C2 (by rw [qDP];exact A9 _),qDP,R0]
   rfl
  rw [t9,B2,<- qII i,qFK,A88,e]
theorem qJE {i:Nat} {z:Int} (h0:0<=z) (h1:z<(i:Int)):(qFK Ae i)[z.toNat]?=some (cn Ae z):=by
 rw [qII,C4,A74 (by lia)]
 show some (cn Ae ((z.toNat:Nat):Int))=_;rw [show ((z.toNat:Nat):Int)=z by lia]
theorem qWC (wf:WFn Ae) {z:Int} (h:0<=z):cn Ae z=if nd Ae z=[] then 1 else ((nd Ae z).map (cn Ae)).sum:=by
 obtain ⟨i,rfl⟩:∃ i:Nat,z=(i:Int):=⟨z.toNat,by lia⟩
 have e:cn Ae (i:Int)=if nd Ae (i:Int)=[] then 1 else ((nd Ae (i:Int)).map fun z=>(qFK Ae i).getD z.toNat 0).sum:=by
  unfold cn;rw [K9,qFK,L4,C2 (by rw [qDP];exact A9 _),qDP,R0]
  rfl
 rw [e];congr 2;refine J2 fun y hy=>?_;have b:=qC9 wf h hy;rw [L4,qJE b.1 b.2]
 rfl
theorem qNJ:∀ {l:List Int},(∀ x ∈ l,1<=x)->(l.length:Int)<=l.sum
 | [],_=>by simp
 | x::l,h=>by
  have a:=h x A8;have b:=qNJ fun y hy=>h y (B0 _ hy);rw [Z6,D8]
  lia
theorem qU0 (wf:WFn Ae):∀ (n:Nat) (z:Int),z.toNat=n->0<=z->1<=cn Ae z:=by
 intro n
 induction n using W8 with
 | ind n ih=>
  intro z hn h0;rw [qWC wf h0]
  split
  ·exact M6 _
  ·rename_i c
   have:=qNJ (l:=(nd Ae z).map (cn Ae)) fun x hx=>by
    obtain ⟨y,hy,rfl⟩:=D7.mp hx;have b:=qC9 wf h0 hy;exact ih y.toNat (by lia) y rfl b.1
   have l:0<(nd Ae z).length:=T4.mpr c;rw [A0] at this
   lia
theorem qbL (wf:WFn Ae) {z:Int} (h:0<=z):cn Ae z=if ((nd Ae z).map (cn Ae)).sum > 1 then ((nd Ae z).map (cn Ae)).sum else 1:=by
 rw [qWC wf h];by_cases c:nd Ae z=[]
 ·rw [if_pos c,c];rfl
 ·rw [if_neg c];have:=qNJ (l:=(nd Ae z).map (cn Ae)) fun x hx=>by
   obtain ⟨y,hy,rfl⟩:=D7.mp hx;exact qU0 wf _ y rfl (qC9 wf h hy).1
  have l:0<(nd Ae z).length:=T4.mpr c;rw [A0] at this
  split <;> lia
def hd (p:List Int):Int:=p.headD 0
def apF (Ae:List (List Int)):Nat->List Int->List (List Int)
 | 0,p=>[p]
 | n+1,p=>if nd Ae (hd p)=[] then [p] else ((nd Ae (hd p)).reverse.map fun z=>apF Ae n (z::p)).flatten
theorem qZG (wf:WFn Ae):∀ (k n m:Nat) (p:List Int),(hd p).toNat=k->0<=hd p->k<n->k<m->apF Ae n p=apF Ae m p:=by
 intro k
 induction k using W8 with
 | ind k ih=>
  intro n m p hk h0 hn hm;obtain ⟨n,rfl⟩:∃ n',n=n'+1:=⟨n - 1,by lia⟩
  obtain ⟨m,rfl⟩:∃ m',m=m'+1:=⟨m - 1,by lia⟩
  unfold apF;congr 2;refine J2 fun z hz=>?_;have b:=qC9 wf h0 (O1.mp hz);exact ih z.toNat (by lia) n m (z::p) rfl b.1 (by lia) (by lia)
def aP (Ae:List (List Int)) (p:List Int):List (List Int):=apF Ae ((hd p).toNat+1) p
theorem qRC (wf:WFn Ae) {p:List Int} (h0:0<=hd p):aP Ae p=if nd Ae (hd p)=[] then [p] else ((nd Ae (hd p)).reverse.map fun z=>aP Ae (z::p)).flatten:=by
 unfold aP;rw [apF];congr 2;refine J2 fun z hz=>?_;have b:=qC9 wf h0 (O1.mp hz);exact qZG wf z.toNat _ _ (z::p) rfl b.1 (by lia) (by show z.toNat<z.toNat+1;lia)
theorem qVM {α:Type} (l:List (List α)):((l.flatten.length:Nat):Int)=(l.map fun x=>(x.length:Int)).sum:=by
 induction l with
 | nil=>rfl
 | cons x l ih=>rw [L9,A5,E8,Z6,<- ih];lia
theorem qUV {l m:List Int} (p:l.Perm m):l.sum=m.sum:=by
 induction p with
 | nil=>rfl
 | cons x _ ih=>rw [Z6,Z6,ih]
 | swap x y l=>simp only [Z6];lia
 | trans _ _ h1 h2=>rw [h1,h2]
theorem qUM (wf:WFn Ae):∀ (k:Nat) (p:List Int),(hd p).toNat=k->0<=hd p->((aP Ae p).length:Int)=cn Ae (hd p):=by
 intro k
 induction k using W8 with
 | ind k ih=>
  intro p hk h0;rw [qRC wf h0,qWC wf h0];by_cases c:nd Ae (hd p)=[]
  ·rw [if_pos c,if_pos c];rfl
  ·rw [if_neg c,if_neg c,qVM,P8];rw [qUV ((k6 (nd Ae (hd p))).map (cn Ae)).symm];congr 1;refine J2 fun z hz=>?_;have b:=qC9 wf h0 (O1.mp hz);exact ih z.toNat (by lia) (z::p) rfl b.1
def tmF (Ae:List (List Int)):Nat->Int->Nat
 | 0,_=>1
 | n+1,w=>1+((nd Ae w).map (tmF Ae n)).sum
theorem qXS (wf:WFn Ae):∀ (k n m:Nat) (w:Int),w.toNat=k->0<=w->k<n->k<m->tmF Ae n w=tmF Ae m w:=by
 intro k
 induction k using W8 with
 | ind k ih=>
  intro n m w hk h0 hn hm;obtain ⟨n,rfl⟩:∃ n',n=n'+1:=⟨n - 1,by lia⟩
  obtain ⟨m,rfl⟩:∃ m',m=m'+1:=⟨m - 1,by lia⟩
  unfold tmF;congr 2;refine J2 fun z hz=>?_;have b:=qC9 wf h0 hz;exact ih z.toNat (by lia) n m z rfl b.1 (by lia) (by lia)
def tM (Ae:List (List Int)) (w:Int):Nat:=tmF Ae (w.toNat+1) w
theorem qbU (wf:WFn Ae) {w:Int} (h0:0<=w):tM Ae w=1+((nd Ae w).map (tM Ae)).sum:=by
 unfold tM;rw [tmF];congr 2;refine J2 fun z hz=>?_;have b:=qC9 wf h0 hz;exact qXS wf z.toNat _ _ z rfl b.1 (by lia) (by lia)
structure POk (Ae:List (List Int)) (p:List Int):Prop where
 ne:p ≠ []
 h0:0<=hd p
 h1:hd p<(Ae.length:Int)
 len:(p.length:Int)+hd p<=(Ae.length:Int)
structure PWay (Ae:List (List Int)) (work:Int) (fs st:List (List Int)):Prop where
 all:fs++(st.map (aP Ae)).flatten=aP Ae [work]
 ok:∀ p ∈ st,POk Ae p
 fok:∀ p ∈ fs,POk Ae p
def msP (Ae:List (List Int)) (st:List (List Int)):Nat:=(st.map fun p=>tM Ae (hd p)).sum
theorem PWay.start {work:Int} (h0:0<=work) (h1:work<(Ae.length:Int)):PWay Ae work [] [[work]]:=by
 have e:hd [work]=work:=rfl;refine ⟨by simp,fun p hp=>?_,fun p hp=>nomatch hp⟩
 rw [A6.mp hp];exact ⟨by simp,by rw [e];exact h0,by rw [e];exact h1,by rw [e,B3];lia⟩
theorem POk.more (wf:WFn Ae) {p:List Int} (h:POk Ae p) {z:Int} (hz:z ∈ nd Ae (hd p)):POk Ae (z::p):=by
 have b:=qC9 wf h.h0 hz;have e:hd (z::p)=z:=rfl;exact ⟨by simp,by rw [e];exact b.1,by rw [e];have:=h.h1;lia,by rw [e,D8];have:=h.len;lia⟩
def nxF (Ae:List (List Int)) (fs:List (List Int)) (p:List Int):List (List Int):=if nd Ae (hd p)=[] then fs++[p] else fs
def nxS (Ae:List (List Int)) (p:List Int) (st:List (List Int)):List (List Int):=((nd Ae (hd p)).map fun z=>z::p).reverse++st
theorem PWay.step (wf:WFn Ae) {work:Int} {fs st:List (List Int)} {p:List Int} (h:PWay Ae work fs (p::st)):PWay Ae work (nxF Ae fs p) (nxS Ae p st)/\msP Ae (nxS Ae p st)<msP Ae (p::st):=by
 have P:=h.ok p A8;refine ⟨⟨?_,fun r hr=>?_,fun r hr=>?_⟩,?_⟩
 ·rw [<- h.all,E8,L9,qRC wf P.h0];unfold nxF nxS;by_cases c:nd Ae (hd p)=[]
  ·rw [if_pos c,if_pos c,c];simp
  ·rw [if_neg c,if_neg c,B2,A75,<- A34,P8]
   rfl
 ·unfold nxS at hr;rcases B7.mp hr with q | q
  ·obtain ⟨z,hz,rfl⟩:=D7.mp (O1.mp q);exact P.more wf hz
  ·exact h.ok r (B0 _ q)
 ·unfold nxF at hr
  split at hr
  ·rcases B7.mp hr with q | q
   ·exact h.fok r q
   ·rw [A6.mp q];exact P
  ·exact h.fok r hr
 ·unfold msP nxS;rw [B2,List.sum_append,E8,Z6,qbU wf P.h0,<- A34,P8,A34];have e:((nd Ae (hd p)).map ((fun q=>tM Ae (hd q)) ∘ fun z=>z::p))=(nd Ae (hd p)).map (tM Ae):=J2 fun z _=>rfl;rw [e,List.sum_reverse]
  lia
theorem PWay.lens (wf:WFn Ae) {work:Int} {fs st:List (List Int)} (h:PWay Ae work fs st) (h0:0<=work) (hc:cn Ae work<=300):fs.length+st.length<=300:=by
 have l:=qUM wf _ [work] rfl h0;rw [<- h.all,A5] at l;have e:hd [work]=work:=rfl;rw [e] at l;have b:st.length<=((st.map (aP Ae)).flatten).length:=by
  have hk:=h.ok;clear l h e
  induction st with
  | nil=>simp
  | cons p st ih=>
   rw [E8,L9,A5,D8];have P:=hk p A8;have a:=qUM wf _ p rfl P.h0;have c:=qU0 wf _ (hd p) rfl P.h0;have d:=ih fun r hr=>hk r (B0 _ hr)
   lia
 lia
theorem PWay.done {work:Int} {fs:List (List Int)} (h:PWay Ae work fs []):fs=aP Ae [work]:=by
 have:=h.all;simpa using this
theorem PWay.lens1 (wf:WFn Ae) {work:Int} {fs st:List (List Int)} {p:List Int} (h:PWay Ae work fs (p::st)) (h0:0<=work) (hc:cn Ae work<=300):fs.length+st.length+(nd Ae (hd p)).length<=300/\fs.length+st.length+1<=300:=by
 have a:=(h.step wf).1.lens wf h0 hc;have b:=h.lens wf h0 hc;unfold nxS at a;rw [A5,A76,A0] at a;rw [D8] at b;unfold nxF at a
 split at a
 ·rename_i c
  rw [c] at a ⊢;rw [A5] at a;simp only [M7,B3] at a ⊢
  lia
 ·lia
end
def qOZ:Sp:=fun vs H Q _=>∃ (a:Addr) (Ae:List (List Int)) (work:Int),vs=[.ref a,.int work]/\NetAt H a Ae/\WFn Ae/\Ae.length<=401/\0<=work/\work<(Ae.length:Int)/\∀ H',Same H H'->Q (.int (cn Ae work)) H'
def SortP (Ae:List (List Int)) (work:Int) (ts:List (List Int)):Prop:=ts.Perm (aP Ae [work])/\ts.Pairwise (fun a b=>HT.lexLt b a=false)
def TLAt (H:Hp) (l:Addr) (ts:List (List Int)):Prop:=∃ rs:List Addr,H l=some (.lst (rs.map V.ref))/\NetL H rs ts
def qKQ:Sp:=fun vs H Q _=>∃ (a:Addr) (Ae:List (List Int)) (work:Int),vs=[.ref a,.int work]/\NetAt H a Ae/\WFn Ae/\Ae.length<=401/\0<=work/\work<(Ae.length:Int)/\cn Ae work<=300/\∀ l ts H',Same H H'->H l=none->TLAt H' l ts->SortP Ae work ts->ts.length<=300->(∀ t ∈ ts,t.length<=401)->Q (.ref l) H'
theorem qOJ {H:Hp} {a b:Addr} {zs:List Int} (h1:H a=some (.tup (zs.map V.int))) (h2:H b=some (.tup (zs.map V.int))) (hl:zs.length<=100000):Alike H 1 (.ref a) (.ref b):=by
 refine .inr ⟨true,a,b,_,_,rfl,rfl,h1,h2,rfl,by rw [A0];exact hl,fun i x y hx hy=>?_⟩
 rw [hx] at hy;cases hy;obtain ⟨z,_,rfl⟩:=qB4 hx;exact ⟨rfl,.inr (.inl ⟨_,rfl⟩)⟩
theorem qWJ {H:Hp} {a b:Addr} {ts:List (List Int)} (h1:TLAt H a ts) (h2:TLAt H b ts) (hl:ts.length<=100000) (hz:∀ t ∈ ts,t.length<=100000):Alike H 2 (.ref a) (.ref b):=by
 obtain ⟨rs,ha,N1⟩:=h1;obtain ⟨ss,hb,N2⟩:=h2;refine .inr ⟨false,a,b,_,_,rfl,rfl,ha,hb,by rw [A0,A0,C6 N1,C6 N2],by rw [A0,C6 N1];exact hl,fun i x y hx hy=>?_⟩
 obtain ⟨r,hr,rfl⟩:=qES hx;obtain ⟨r',hr',rfl⟩:=qES hy;obtain ⟨z,ez,gz⟩:=qBA N1 hr;obtain ⟨z',ez',gz'⟩:=qBA N2 hr';rw [ez] at ez';cases ez';exact qOJ gz gz' (hz z (B6 ez))
def oV:Option Int->V
 | none=>.non
 | some i=>.int i
structure Mo where
 dk:Bool
 wk:Int
 rm:Int
def Mo.vs (m:Mo):List V:=match m.dk with | true=>[.str "do",.int m.wk,.int m.rm] | false=>[.str "clear",.int m.rm]
def Mo.res (m:Mo):Option Int:=match m.dk with | true=>some m.wk | false=>none
structure TIn (H:Hp) (a wd sz la mv:Addr) (Ae:List (List Int)) (wides sizes:List Int) (lay:List (Option Int)) (m:Mo) (ns:List Int) (o:Option Int) (s w:Int):Prop where
 net_:NetAt H a Ae
 wides_:H wd=some (.tup (wides.map V.int))
 sizes_:H sz=some (.tup (sizes.map V.int))
 lay_:H la=some (.tup (lay.map oV))
 move:H mv=some (.tup m.vs)
 work:m.dk=true->0<=m.wk/\Ae[m.wk.toNat]?=some ns/\ns.length<=1000/\wides[m.wk.toNat]?=some w
 rm0:0<=m.rm
 at_:lay[m.rm.toNat]?=some o
 size:sizes[m.rm.toNat]?=some s
 len:lay.length<=1000
structure TKit (H:Hp) (a wd sz:Addr) (Ae:List (List Int)) (wides sizes:List Int):Prop where
 net_:NetAt H a Ae
 wf:WFn Ae
 n1:1<=Ae.length
 n6:Ae.length<=6
 wides_:H wd=some (.tup (wides.map V.int))
 lw:wides.length=Ae.length
 w9:∀ x ∈ wides,0<=x/\x<=99
 sizes_:H sz=some (.tup (sizes.map V.int))
 k1:1<=sizes.length
 k5:sizes.length<=5
 s9:∀ x ∈ sizes,0<=x/\x<=99
structure Sm (W:Nat) (d:PyData):Prop where
 sh:d.showable=true
 nd:d.hasDict=false
 ls:d.leavesShort 8=true
 wt:d.weight<=W
def numB:PyData->Bool | .int _=>true | _=>false
def qR6:PyData->Bool | .bool _=>true | _=>false
def tupB:PyData->Bool | .tuple _=>true | _=>false
def qFR (e:Int):PyData->Bool | .int i=>decide (0<=i) && decide (i<e) | _=>false
section
variable {K:PySem.W.Frag} {H:Hp}
theorem qWP {n:Nat} {x:V} {d:PyData} (h:DatN H n x d):∃ t,TyOf K H x t/\G9 K t (.type "int")=some (numB d || qR6 d)/\G9 K t (.type "bool")=some (qR6 d)/\G9 K t (.type "tuple")=some (tupB d):=by
 have leaf:qNE x d->∃ t,TyOf K H x t/\G9 K t (.type "int")=some (numB d || qR6 d)/\G9 K t (.type "bool")=some (qR6 d)/\G9 K t (.type "tuple")=some (tupB d):=by
  rintro (⟨rfl,rfl⟩ | ⟨b,rfl,rfl⟩ | ⟨i,rfl,rfl⟩ | ⟨y,rfl,rfl⟩)
  ·exact ⟨_,.non,rfl,rfl,rfl⟩
  ·exact ⟨_,.bl b,rfl,rfl,rfl⟩
  ·exact ⟨_,.int i,rfl,rfl,rfl⟩
  ·exact ⟨_,.str y,rfl,rfl,rfl⟩
 cases n with
 | zero=>exact leaf h
 | succ n=>
  rcases h with h | ⟨b,a,xs,ds,rfl,rfl,h1,_⟩
  ·exact leaf h
  ·cases b
   ·exact ⟨_,.lst h1,rfl,rfl,rfl⟩
   ·exact ⟨_,.tup h1,rfl,rfl,rfl⟩
theorem qOB {n:Nat} {x:V} {d:PyData} (h:DatN H n x d) (hn:numB d=true):∃ i,x=.int i/\d=.int i:=by
 have leaf:qNE x d->∃ i,x=.int i/\d=.int i:=by
  rintro (⟨rfl,rfl⟩ | ⟨b,rfl,rfl⟩ | ⟨i,rfl,rfl⟩ | ⟨y,rfl,rfl⟩)
  ·cases hn
  ·cases hn
  ·exact ⟨i,rfl,rfl⟩
  ·cases hn
 cases n with
 | zero=>exact leaf h
 | succ n=>
  rcases h with h | ⟨b,a,xs,ds,rfl,rfl,h1,_⟩
  ·exact leaf h
  ·cases b <;> cases hn
theorem qTV {n:Nat} {x:V} {d:PyData} (h:DatN H n x d) (hn:tupB d=true):∃ m a xs ds,n=m+1/\x=.ref a/\d=.tuple ds/\H a=some (.tup xs)/\xs.length=ds.length/\∀ (i:Nat) (x':V) (d':PyData),xs[i]?=some x'->ds[i]?=some d'->DatN H m x' d':=by
 have leaf:qNE x d->False:=by
  rintro (⟨rfl,rfl⟩ | ⟨b,rfl,rfl⟩ | ⟨i,rfl,rfl⟩ | ⟨y,rfl,rfl⟩) <;> cases hn
 cases n with
 | zero=>exact (leaf h).elim
 | succ n=>
  rcases h with h | ⟨b,a,xs,ds,rfl,rfl,h1,h2,h3⟩
  ·exact (leaf h).elim
  ·cases b
   ·cases hn
   ·exact ⟨n,a,xs,ds,rfl,rfl,rfl,h1,h2,h3⟩
end
theorem qT8:∀ {ds:List PyData},ds.all numB=true->∃ zs:List Int,ds=zs.map X9
 | [],_=>⟨[],rfl⟩
 | d::ds,h=>by
  rw [A83,C0] at h;obtain ⟨zs,rfl⟩:=qT8 h.2;cases d with
  | int i=>exact ⟨i::zs,rfl⟩
  | _=>cases h.1
def LenN:Nat->PyData->Prop
 | 0,_=>True
 | n+1,d=>∀ (b:Bool) (ds:List PyData),d=seqD b ds->ds.length<=2000/\∀ d' ∈ ds,LenN n d'
section
variable {H H':Hp} {n W:Nat} {x:V}
end
abbrev Wy:=Int->List Int
def upW (W:Wy) (a b:Int):Wy:=fun x=>if x=a then (W a).erase b else if x=b then W b++[a] else W x
structure Fl0 (W0 W:Wy):Prop where
 nd:∀ x,(W x).Nodup
 ex:∀ x y,y ∈ W0 x->(y ∈ W x ↔ x ∉ W y)
 on:∀ x y,y ∈ W x->y ∈ W0 x\/x ∈ W0 y
structure Anti (W0:Wy):Prop where
 nd:∀ x,(W0 x).Nodup
 no:∀ x y,y ∈ W0 x->x ∉ W0 y
section
variable {W0 W:Wy}
theorem Anti.self (A:Anti W0):Fl0 W0 W0:=⟨A.nd,fun x y h=>⟨fun _=>A.no x y h,fun _=>h⟩,fun _ _ h=>.inl h⟩
theorem qLU {a b x:Int} (h1:x ≠ a) (h2:x ≠ b):upW W a b x=W x:=by unfold upW;rw [if_neg h1,if_neg h2]
theorem qXR {a b:Int}:upW W a b a=(W a).erase b:=by unfold upW;rw [if_pos rfl]
theorem qXQ {a b:Int} (h:b ≠ a):upW W a b b=W b++[a]:=by unfold upW;rw [if_neg h,if_pos rfl]
theorem Fl0.turn (F:Fl0 W0 W) {a b:Int} (h:b ∈ W a) (ne:b ≠ a):Fl0 W0 (upW W a b):=by
 have na:a ∉ W b:=by
  intro z;rcases F.on a b h with e | e
  ·exact (F.ex a b e).mp h z
  ·exact (F.ex b a e).mp z h
 -- who is in the new one
 have mem:∀ x y,y ∈ upW W a b x ↔ (y ∈ W x/\¬ (x=a/\y=b))\/(x=b/\y=a):=by
  intro x y;by_cases e1:x=a
  ·subst e1;rw [qXR,(F.nd x).mem_erase_iff]
   constructor
   ·rintro ⟨h1,h2⟩;exact .inl ⟨h2,fun z=>h1 z.2⟩
   ·rintro (⟨h1,h2⟩ | ⟨h1,h2⟩)
    ·exact ⟨fun z=>h2 ⟨rfl,z⟩,h1⟩
    ·exact absurd h1.symm ne
  ·by_cases e2:x=b
   ·subst e2;rw [qXQ e1,B7,A6]
    constructor
    ·rintro (h | h)
     ·exact .inl ⟨h,fun z=>e1 z.1⟩
     ·exact .inr ⟨rfl,h⟩
    ·rintro (⟨h,_⟩ | ⟨_,h⟩)
     ·exact .inl h
     ·exact .inr h
   ·rw [qLU e1 e2];exact ⟨fun h=>.inl ⟨h,fun z=>e1 z.1⟩,fun h=>h.elim (fun z=>z.1) fun z=>absurd z.1 e2⟩
 refine ⟨fun x=>?_,fun x y hy=>?_,fun x y hy=>?_⟩
 ·by_cases e1:x=a
  ·subst e1;rw [qXR];exact (F.nd x).erase _
  ·by_cases e2:x=b
   ·subst e2;rw [qXQ e1,R8];exact ⟨F.nd x,by simp,fun u hu v hv z=>na (by rw [A6.mp hv] at z;exact z ▸ hu)⟩
   ·rw [qLU e1 e2];exact F.nd x
 ·rw [mem,mem];have:=F.ex x y hy;by_cases c1:x=a/\y=b
  ·obtain ⟨rfl,rfl⟩:=c1
   constructor
   ·rintro (⟨_,z⟩ | ⟨z,_⟩)
    ·exact absurd ⟨rfl,rfl⟩ z
    ·exact absurd z.symm ne
   ·intro z;exact absurd (.inr ⟨rfl,rfl⟩) z
  ·by_cases c2:x=b/\y=a
   ·obtain ⟨rfl,rfl⟩:=c2
    constructor
    ·rintro _ (⟨_,z⟩ | ⟨z,_⟩)
     ·exact z ⟨rfl,rfl⟩
     ·exact ne z.symm
    ·exact fun _=>.inr ⟨rfl,rfl⟩
   ·constructor
    ·rintro (⟨z,_⟩ | z)
     ·rintro (⟨u,_⟩ | ⟨u,v⟩)
      ·exact this.mp z u
      ·exact c1 ⟨v,u⟩
     ·exact absurd z c2
    ·intro z;refine .inl ⟨this.mpr fun u=>z (.inl ⟨u,fun v=>c2 ⟨v.2,v.1⟩⟩),c1⟩
 ·rcases (mem x y).mp hy with ⟨z,_⟩ | ⟨rfl,rfl⟩
  ·exact F.on x y z
  ·exact (F.on y x h).symm
def Pth (W:Wy):List Int->Prop
 | f::s::r=>f ∈ W s/\Pth W (s::r)
 | _=>True
def qC8:List Int->Wy->Wy
 | f::s::r,W=>qC8 (s::r) (upW W s f)
 | _,W=>W
theorem qWV {W W':Wy}:∀ {r:List Int},Pth W r->(∀ x ∈ r.tail,W' x=W x)->Pth W' r
 | [],_,_=>trivial
 | [_],_,_=>trivial
 | f::s::r,h,e=>⟨by rw [e s A8];exact h.1,qWV h.2 fun x hx=>e x (B0 _ hx)⟩
def oneI (p:Prop) [Decidable p]:Nat:=if p then 1 else 0
theorem qKP:∀ (st:List Int) (W:Wy),Fl0 W0 W->Pth W st->st.Nodup->∀ g l,st.head?=some g->st.getLast?=some l->Fl0 W0 (qC8 st W)/\∀ x,(qC8 st W x).length+oneI (x=l)=(W x).length+oneI (x=g)
 | [],_,_,_,_,_,_,h,_=>by cases h
 | [s],W,F,_,_,g,l,h1,h2=>by cases h1;cases h2;exact ⟨F,fun x=>rfl⟩
 | f::s::r,W,F,P,n,g,l,h1,h2=>by
  cases h1;obtain ⟨n1,n2⟩:=J4.mp n;have nfs:f ≠ s:=fun z=>n1 (by rw [z];exact A8)
  have F1:=F.turn P.1 nfs;have P1:Pth (upW W s f) (s::r):=qWV P.2 fun x hx=>by
   have hx:x ∈ r:=hx;exact qLU (fun z=>(J4.mp n2).1 (z ▸ hx)) fun z=>n1 (z ▸ B0 _ hx)
  obtain ⟨k1,k2⟩:=qKP (s::r) (upW W s f) F1 P1 n2 s l rfl (by rw [X4] at h2;exact h2)
  refine ⟨k1,fun x=>?_⟩;have:=k2 x;show (qC8 (s::r) (upW W s f) x).length+_=_;rw [this];unfold oneI;by_cases e1:x=s
  ·subst e1;rw [qXR,W9 P.1,if_pos rfl,if_neg (fun z=>nfs z.symm)];have:=A41 P.1
   lia
  ·by_cases e2:x=f
   ·subst e2;rw [qXQ e1,A5,if_neg e1,if_pos rfl]
    rfl
   ·rw [qLU e1 e2,if_neg e1,if_neg e2]
end
section
variable (Ae:List (List Int)) (path:List Int)
def qAU (w:Int):Bool:=decide (0<=w) && decide (w<(Ae.length:Int)) && decide (w ∉ path)
def qBU (n:Int):Bool:=decide (n ∉ path) && (path.drop 1).any fun w=>decide (n ∈ nd Ae w)
def fwW (i:Nat):Wy:=fun x=>
 if x = -1 then ((qAC 0 i).filter fun w=>qAU Ae path w && (nd Ae w).isEmpty).map (2 * ·)
 else if x % 2=0 then (if qAU Ae path (x / 2) && decide (x / 2<(i:Int)) then [x+1] else [])
 else (if qAU Ae path (x / 2) && decide (x / 2<(i:Int)) then (if qBU Ae path (x / 2) then [-2] else [])++((qAC 0 i).filter fun u=>qAU Ae path u && decide (x / 2 ∈ nd Ae u)).map (2 * ·) else [])
end
section
variable {Ae:List (List Int)} {path:List Int}
theorem free_in {w:Int}:qAU Ae path w=true ↔ (0<=w/\w<(Ae.length:Int))/\w ∉ path:=by
 unfold qAU;rw [C0,C0,decide_eq_true_eq,decide_eq_true_eq,decide_eq_true_eq]
abbrev W0 (Ae:List (List Int)) (path:List Int):Wy:=fwW Ae path Ae.length
theorem w0_s {y:Int}:y ∈ W0 Ae path (-1) ↔ ∃ w,y=2 * w/\qAU Ae path w=true/\nd Ae w=[]:=by
 show y ∈ (if (-1:Int) = -1 then _ else _) ↔ _
 rw [if_pos rfl,D7]
 constructor
 ·rintro ⟨w,hw,rfl⟩;obtain ⟨_,h2⟩:=G3.mp hw;rw [C0,c5] at h2;exact ⟨w,rfl,h2⟩
 ·rintro ⟨w,rfl,h1,h2⟩;refine ⟨w,G3.mpr ⟨mem_rangeI.mpr (free_in.mp h1).1,?_⟩,rfl⟩;rw [C0,c5];exact ⟨h1,h2⟩
theorem w0_e {w:Int} (h0:0<=w):W0 Ae path (2 * w)=if qAU Ae path w=true then [2 * w+1] else []:=by
 show (if 2 * w = -1 then _ else if 2 * w % 2=0 then _ else _)=_
 rw [if_neg (by lia),if_pos (by lia),show 2 * w / 2=w by lia]
 cases e:qAU Ae path w with
 | false=>rfl
 | true=>rw [decide_eq_true (free_in.mp e).1.2];rfl
theorem w0_o {w y:Int} (h0:0<=w):y ∈ W0 Ae path (2 * w+1) ↔ qAU Ae path w=true/\((y = -2/\qBU Ae path w=true)\/∃ u,y=2 * u/\qAU Ae path u=true/\w ∈ nd Ae u):=by
 show y ∈ (if 2 * w+1 = -1 then _ else if (2 * w+1) % 2=0 then _ else _) ↔ _
 rw [if_neg (by lia),if_neg (by lia),show (2 * w+1) / 2=w by lia]
 cases e:qAU Ae path w with
 | false=>simp
 | true=>
  rw [decide_eq_true (free_in.mp e).1.2,if_pos (by rfl),B7,D7]
  constructor
  ·rintro (h | ⟨u,hu,rfl⟩)
   ·refine ⟨rfl,.inl ?_⟩
    split at h
    ·rename_i c;exact ⟨A6.mp h,c⟩
    ·cases h
   ·obtain ⟨_,h2⟩:=G3.mp hu;rw [C0,decide_eq_true_eq] at h2;exact ⟨rfl,.inr ⟨u,rfl,h2⟩⟩
  ·rintro ⟨_,⟨rfl,c⟩ | ⟨u,rfl,h1,h2⟩⟩
   ·left;rw [if_pos c];exact A8
   ·right
    refine ⟨u,G3.mpr ⟨mem_rangeI.mpr (free_in.mp h1).1,?_⟩,rfl⟩;rw [C0,decide_eq_true_eq];exact ⟨h1,h2⟩
theorem qCF {x y:Int} (h:y ∈ W0 Ae path x):(x = -1/\∃ w,y=2 * w/\qAU Ae path w=true/\nd Ae w=[])\/(∃ w,x=2 * w/\y=2 * w+1/\qAU Ae path w=true)\/∃ w,x=2 * w+1/\0<=w/\qAU Ae path w=true/\((y = -2/\qBU Ae path w=true)\/∃ u,y=2 * u/\qAU Ae path u=true/\w ∈ nd Ae u):=by
 by_cases e1:x = -1
 ·subst e1;exact .inl ⟨rfl,w0_s.mp h⟩
 ·by_cases e2:x % 2=0
  ·right;left
   have h':=h;unfold W0 fwW at h;rw [if_neg e1,if_pos e2] at h
   split at h
   ·rename_i c
    rw [C0] at c;exact ⟨x / 2,by lia,by rw [A6.mp h];lia,c.1⟩
   ·cases h
  ·right;right
   have h':=h;unfold W0 fwW at h;rw [if_neg e1,if_neg e2] at h
   split at h
   ·rename_i c
    rw [C0] at c;have b:=(free_in.mp c.1).1;have ex:x=2 * (x / 2)+1:=by lia
    refine ⟨x / 2,ex,b.1,?_⟩;rw [ex] at h';exact (w0_o b.1).mp h'
   ·cases h
theorem qGC (a b:Int):(qAC a b).Nodup:=(qEP a b).imp fun h e=>by lia
theorem qL8 {a b:Int} (h:2 * a=2 * b):a=b:=by lia
theorem qMF {l:List Int} (h:l.Nodup):(l.map (2 * ·)).Nodup:=by
 rw [List.Nodup,M9];exact h.imp fun z e=>z (by lia)
theorem qRM (wf:WFn Ae):Anti (W0 Ae path):=by
 constructor
 ·intro x;unfold W0 fwW
  split
  ·exact qMF ((qGC _ _).filter _)
  ·split
   ·split
    ·simp
    ·exact .nil
   ·split
    ·rw [R8];refine ⟨by split <;> simp,qMF ((qGC _ _).filter _),fun a ha b hb z=>?_⟩
     obtain ⟨u,hu,rfl⟩:=D7.mp hb;have:=(mem_rangeI.mp (G3.mp hu).1).1
     split at ha
     ·rw [A6.mp ha] at z;lia
     ·cases ha
    ·exact .nil
 ·intro x y h z;rcases qCF h with ⟨rfl,w,rfl,_⟩ | ⟨w,rfl,rfl,f⟩ | ⟨w,rfl,w0,f,⟨rfl,_⟩ | ⟨u,rfl,g,hu⟩⟩
  ·rcases qCF z with ⟨_,v,e,_⟩ | ⟨v,e,e2,f2⟩ | ⟨v,e,_,_,⟨e2,_⟩ | ⟨u,e2,_⟩⟩
   ·lia
   ·have:=(free_in.mp f2).1.1;lia
   ·cases e2
   ·lia
  ·have w0:=(free_in.mp f).1.1;rcases (w0_o w0).mp z with ⟨_,⟨e,_⟩ | ⟨u,e,_,hu⟩⟩
   ·lia
   ·have e:=qL8 e;subst e;have:=qC9 wf w0 hu
    lia
  ·rcases qCF z with ⟨e,_⟩ | ⟨v,e,e2,f2⟩ | ⟨v,e,_⟩
   ·lia
   ·have:=(free_in.mp f2).1.1;lia
   ·lia
  ·have u0:=(free_in.mp g).1.1;rw [w0_e u0,if_pos g] at z;have:=A6.mp z;have e:w=u:=by lia
   subst e;have:=qC9 wf w0 hu
   lia
structure Fl (Ae:List (List Int)) (path:List Int) (W:Wy):Prop where
 fl:Fl0 (W0 Ae path) W
 len:∀ x,x ≠ -1->x ≠ -2->(W x).length=(W0 Ae path x).length
theorem qW8 (wf:WFn Ae):Fl Ae path (W0 Ae path):=⟨(qRM wf).self,fun _ _ _=>rfl⟩
theorem Fl.turn {W:Wy} (F:Fl Ae path W) {st:List Int} (P:Pth W st) (n:st.Nodup) (h1:st.head?=some (-2)) (h2:st.getLast?=some (-1)):Fl Ae path (qC8 st W)/\(qC8 st W (-2)).length=(W (-2)).length+1:=by
 obtain ⟨k1,k2⟩:=qKP st W F.fl P n _ _ h1 h2;refine ⟨⟨k1,fun x a b=>?_⟩,?_⟩
 ·have:=k2 x;unfold oneI at this;rw [if_neg a,if_neg b] at this;rw [<- F.len x a b];exact this
 ·have:=k2 (-2);unfold oneI at this;rw [if_neg (by decide),if_pos rfl] at this
  exact this
def Flw (W:Wy) (w:Int):Prop:=2 * w+1 ∉ W (2 * w)
variable {W:Wy}
theorem Fl.in1 (F:Fl Ae path W) {w:Int} (f:qAU Ae path w=true):∃ p,W (2 * w)=[p]:=by
 have b:=(free_in.mp f).1.1;have:=F.len (2 * w) (by lia) (by lia)
 rw [w0_e b,if_pos f] at this
 match e:W (2 * w),this with
 | [p],_=>exact ⟨p,rfl⟩
theorem Fl.pred (F:Fl Ae path W) {w:Int} (f:qAU Ae path w=true) (h:Flw W w):∃ p,W (2 * w)=[p]/\2 * w ∉ W p/\((p = -1/\nd Ae w=[])\/∃ n,p=2 * n+1/\qAU Ae path n=true/\n ∈ nd Ae w):=by
 obtain ⟨p,e⟩:=F.in1 f;have b:=(free_in.mp f).1.1;have hp:p ∈ W (2 * w):=by rw [e];exact A8
 have n1:p ≠ 2 * w+1:=fun z=>h (z ▸ hp);rcases F.fl.on _ _ hp with z | z
 ·rw [w0_e b,if_pos f] at z;exact absurd (A6.mp z) n1
 ·refine ⟨p,e,fun y=>(F.fl.ex _ _ z).mp y hp,?_⟩;rcases qCF z with ⟨rfl,v,e1,_,e2⟩ | ⟨v,e1,e2,_⟩ | ⟨v,rfl,v0,g,⟨e1,_⟩ | ⟨u,e1,_,hu⟩⟩
  ·rw [<- qL8 e1] at e2;exact .inl ⟨rfl,e2⟩
  ·lia
  ·lia
  ·rw [<- qL8 e1] at hu;exact .inr ⟨v,rfl,g,hu⟩
theorem Fl.out (F:Fl Ae path W) {n y:Int} (f:qAU Ae path n=true) (h1:y ∈ W0 Ae path (2 * n+1)) (h2:y ∉ W (2 * n+1)):Flw W n/\∀ z ∈ W0 Ae path (2 * n+1),z ∉ W (2 * n+1)->z=y:=by
 have b:=(free_in.mp f).1.1;have ln:=F.len (2 * n+1) (by lia) (by lia)
 have new:∀ z ∈ W (2 * n+1),z ∉ W0 Ae path (2 * n+1)->z=2 * n:=by
  intro z hz no;rcases F.fl.on _ _ hz with u | u
  ·exact absurd u no
  ·rcases qCF u with ⟨rfl,v,e1,_⟩ | ⟨v,rfl,e2,_⟩ | ⟨v,rfl,_,_,⟨e1,_⟩ | ⟨u,e1,_⟩⟩ <;> lia
 have has:2 * n ∈ W (2 * n+1):=by
  refine J9 fun no=>?_;have sub:∀ z ∈ W (2 * n+1),z ∈ (W0 Ae path (2 * n+1)).erase y:=fun z hz=>by
   refine (Z9 (show z ≠ y from fun e=>h2 (e ▸ hz))).mpr ?_;refine J9 fun nz=>no ?_;have:=new z hz nz;subst this;exact hz
  have:=D3 (F.fl.nd (2 * n+1)) sub;rw [W9 h1] at this;have:=A41 h1
  lia
 constructor
 ·have e0:2 * n+1 ∈ W0 Ae path (2 * n):=by rw [w0_e b,if_pos f];exact A8
  exact fun z=>(F.fl.ex _ _ e0).mp z has
 ·intro z hz no;refine J9 fun ne=>?_;have sub:∀ v ∈ W (2 * n+1),v ∈ 2 * n::((W0 Ae path (2 * n+1)).erase y).erase z:=fun v hv=>by
   by_cases c:v ∈ W0 Ae path (2 * n+1)
   ·refine B0 _ ((Z9 (show v ≠ z from fun e=>no (e ▸ hv))).mpr ((Z9 (show v ≠ y from fun e=>h2 (e ▸ hv))).mpr c))
   ·rw [new v hv c];exact A8
  have l1:=D3 (F.fl.nd (2 * n+1)) sub;rw [D8,W9 ((Z9 ne).mpr hz),W9 h1] at l1;have:2<=(W0 Ae path (2 * n+1)).length:=by
   have:=D3 (l₁:=[y,z]) (l₂:=W0 Ae path (2 * n+1)) (by simp;exact fun e=>ne e.symm) (by intro v hv;simp at hv;rcases hv with rfl | rfl <;> assumption)
   simpa using this
  lia
inductive Sd (W:Wy):Int->List Int->Prop
 | top {w:Int}:W (2 * w)=[-1]->Sd W w [w]
 | step {w n:Int} {s:List Int}:0<=n->W (2 * w)=[2 * n+1]->Sd W n s->Sd W w (s++[w])
theorem qNN {w:Int} {s:List Int} (h:Sd W w s):s.getLast?=some w:=by
 cases h with
 | top _=>rfl
 | step _ _ _=>rw [A59];rfl
theorem Fl.side (F:Fl Ae path W) (wf:WFn Ae):∀ (k:Nat) (w:Int),w.toNat<k->qAU Ae path w=true->Flw W w->∃ s,Sd W w s
 | 0,_,h,_,_=>absurd h (u7 _)
 | k+1,w,h,f,fl=>by
  obtain ⟨p,e1,e2,⟨rfl,_⟩ | ⟨n,rfl,g,hn⟩⟩:=F.pred f fl
  ·exact ⟨[w],.top e1⟩
  ·have b:=(free_in.mp f).1.1;have bn:=qC9 wf b hn;have gn:=(free_in.mp g).1.1;obtain ⟨fn,_⟩:=F.out g (y:=2 * w) ((w0_o gn).mpr ⟨g,.inr ⟨w,rfl,f,hn⟩⟩) e2;obtain ⟨s,hs⟩:=Fl.side F wf k n (by lia) g fn
   exact ⟨s++[w],.step gn e1 hs⟩
theorem Sd.one {w:Int} {s s':List Int} (h:Sd W w s):Sd W w s'->s=s':=by
 induction h generalizing s' with
 | top e=>
  intro h';cases h' with
  | top _=>rfl
  | step h0 e' _=>
   rw [e] at e';have:=(Q3 e').1
   exfalso;lia
 | @step w n s h0 e _ ih=>
  intro h';cases h' with
  | top e'=>rw [e] at e';have:=(Q3 e').1;exfalso;lia
  | @step _ n' _ h0' e' k=>
   rw [e] at e';have:=(Q3 e').1;have en:n=n':=by lia
   subst en;rw [ih k]
structure SdIs (Ae:List (List Int)) (path:List Int) (W:Wy) (w:Int) (s:List Int):Prop where
 up:s.Pairwise (·<·)
 le:∀ x ∈ s,x<=w
 fr:∀ x ∈ s,qAU Ae path x=true/\Flw W x
 hd:∃ t r,s=t::r/\nd Ae t=[]
 nx:∀ x ∈ s,x=w\/∃ u ∈ s,x<u/\W (2 * u)=[2 * x+1]
 co:∀ i a b,s[i]?=some a->s[i+1]?=some b->a ∈ nd Ae b
theorem Fl.sdIs (F:Fl Ae path W) (wf:WFn Ae) {w:Int} {s:List Int} (h:Sd W w s):qAU Ae path w=true->Flw W w->SdIs Ae path W w s:=by
 induction h with
 | @top w e=>
  intro f fl;obtain ⟨p,e1,_,⟨rfl,nn⟩ | ⟨n,rfl,g,_⟩⟩:=F.pred f fl
  ·exact ⟨by simp,by simp,by simp;exact ⟨f,fl⟩,⟨w,[],rfl,nn⟩,by simp,fun i a b h1 h2=>by simp at h2⟩
  ·rw [e] at e1;have:=(Q3 e1).1;have:=(free_in.mp g).1.1;exfalso;lia
 | @step w n s h0 e hs ih=>
  intro f fl;obtain ⟨p,e1,e2,⟨rfl,nn⟩ | ⟨n',rfl,g,hn⟩⟩:=F.pred f fl
  ·rw [e] at e1;have:=(Q3 e1).1
   exfalso;lia
  ·have en:n=n':=by rw [e] at e1;have:=(Q3 e1).1;lia
   subst en;have b:=(free_in.mp f).1.1;have bn:=qC9 wf b hn;have gn:=(free_in.mp g).1.1;obtain ⟨fn,_⟩:=F.out g (y:=2 * w) ((w0_o gn).mpr ⟨g,.inr ⟨w,rfl,f,hn⟩⟩) e2;have k:=ih g fn;have hl:=qNN hs;have nin:n ∈ s:=p7 hl;refine ⟨?_,fun x hx=>?_,fun x hx=>?_,?_,fun x hx=>?_,fun i a c h1 h2=>?_⟩
   ·rw [L6];exact ⟨k.up,by simp,fun x hx y hy=>by rw [A6.mp hy];have:=k.le x hx;lia⟩
   ·rcases B7.mp hx with z | z
    ·have:=k.le x z;lia
    ·rw [A6.mp z];exact M6 _
   ·rcases B7.mp hx with z | z
    ·exact k.fr x z
    ·rw [A6.mp z];exact ⟨f,fl⟩
   ·obtain ⟨t,r,rfl,ht⟩:=k.hd;exact ⟨t,r++[w],rfl,ht⟩
   ·rcases B7.mp hx with z | z
    ·rcases k.nx x z with rfl | ⟨u,hu,h1,h2⟩
     ·exact .inr ⟨w,D5 _ A8,by lia,e⟩
     ·exact .inr ⟨u,G6 _ hu,h1,h2⟩
    ·exact .inl (A6.mp z)
   ·by_cases c1:i+1<s.length
    ·rw [C5 (by lia)] at h1
     rw [C5 c1] at h2;exact k.co i a c h1 h2
    ·have li:=(A3.mp h2).1;rw [A5,B3] at li;have ei:i+1=s.length:=by lia
     rw [C2 (by lia),ei,R0] at h2
     cases h2;rw [C5 (by lia)] at h1
     rw [List.getLast?_eq_getElem?,show s.length - 1=i by lia,h1] at hl
     cases hl;exact hn
theorem Fl.apart (F:Fl Ae path W) (wf:WFn Ae) {w w':Int} {s s':List Int} (k:SdIs Ae path W w s) (k':SdIs Ae path W w' s') (h:2 * w+1 ∈ W (-2)) (h':2 * w'+1 ∈ W (-2)):∀ (m:Nat) (x:Int),(w - x).toNat<m->x ∈ s->x ∈ s'->w=w'
 | 0,_,hm,_,_=>absurd hm (u7 _)
 | m+1,x,hm,hx,hx'=>by
  have fx:=(k.fr x hx).1;have bx:=(free_in.mp fx).1.1
  -- what is turned behind x
  have out:∀ {v:Int} {t:List Int},SdIs Ae path W v t->2 * v+1 ∈ W (-2)->x ∈ t->(x=v/\(-2:Int) ∈ W0 Ae path (2 * x+1)/\(-2:Int) ∉ W (2 * x+1))\/∃ u ∈ t,x<u/\2 * u ∈ W0 Ae path (2 * x+1)/\2 * u ∉ W (2 * x+1):=by
   intro v t kt hv ht;rcases kt.nx x ht with rfl | ⟨u,hu,h1,h2⟩
   ·left
    rcases F.fl.on _ _ hv with z | z
    ·rcases qCF z with ⟨e,_⟩ | ⟨v,e,e2,_⟩ | ⟨v,e,_⟩ <;> lia
    ·exact ⟨rfl,z,fun y=>(F.fl.ex _ _ z).mp y hv⟩
   ·right
    have fu:=kt.fr u hu;obtain ⟨p,e1,e2,⟨rfl,nn⟩ | ⟨n,rfl,g,hn⟩⟩:=F.pred fu.1 fu.2
    ·rw [h2] at e1;have:=(Q3 e1).1;exfalso;lia
    ·have en:x=n:=by rw [h2] at e1;have:=(Q3 e1).1;lia
     subst en;exact ⟨u,hu,h1,(w0_o bx).mpr ⟨fx,.inr ⟨u,rfl,fu.1,hn⟩⟩,e2⟩
  rcases out k h hx with ⟨rfl,a1,a2⟩ | ⟨u,hu,lt,a1,a2⟩
  ·rcases out k' h' hx' with ⟨rfl,_⟩ | ⟨u',hu',_,b1,b2⟩
   ·rfl
   ·have:=(F.out fx a1 a2).2 _ b1 b2;have:=(free_in.mp (k'.fr u' hu').1).1.1
    lia
  ·rcases out k' h' hx' with ⟨rfl,b1,b2⟩ | ⟨u',hu',_,b1,b2⟩
   ·have:=(F.out fx b1 b2).2 _ a1 a2;have:=(free_in.mp (k.fr u hu).1).1.1
    lia
   ·have e:=(F.out fx a1 a2).2 _ b1 b2;have e:u'=u:=by lia
    subst e;have:=k.le u' hu;exact Fl.apart F wf k k' h h' m u' (by lia) hu hu'
theorem Fl.ends (F:Fl Ae path W) {x:Int} (h:x ∈ W (-2)):∃ w,x=2 * w+1/\qAU Ae path w=true/\qBU Ae path w=true/\Flw W w:=by
 rcases F.fl.on _ _ h with z | z
 ·rcases qCF z with ⟨e,_⟩ | ⟨v,e,e2,f⟩ | ⟨v,e,b,_⟩
  ·cases e
  ·have:=(free_in.mp f).1.1;lia
  ·lia
 ·rcases qCF z with ⟨e,v,e2,f,_⟩ | ⟨v,e,e2,f⟩ | ⟨w,rfl,b,f,⟨_,c⟩ | ⟨u,e2,f2,_⟩⟩
  ·have:=(free_in.mp f).1.1;lia
  ·have:=(free_in.mp f).1.1;lia
  ·exact ⟨w,rfl,f,c,(F.out f z fun y=>(F.fl.ex _ _ z).mp y h).1⟩
  ·have:=(free_in.mp f2).1.1;lia
end
abbrev Cm:=List (Int × Int)
def vis (cm:Cm) (x:Int):Bool:=decide (x = -1) || cm.any fun p=>decide (p.1=x)
def look (cm:Cm) (x:Int):Option Int:=(cm.find? fun p=>decide (p.1=x)).map (·.2)
def dfsF (stop:Int):List Int->Cm × List Int->Cm × List Int
 | [],s=>s
 | f::r,s=>dfsF stop r (if vis s.1 f then s else (s.1++[(f,stop)],s.2++[f]))
def dfsC (s:Cm × List Int):Bool:=!s.2.isEmpty && !vis s.1 (-2)
inductive Dfs (W:Wy):Cm × List Int->Cm × List Int->Prop
 | stop {s}:dfsC s=false->Dfs W s s
 | go {cm:Cm} {due:List Int} {x:Int} {t}:vis cm (-2)=false->Dfs W (dfsF x (W x) (cm,due)) t->Dfs W (cm,due++[x]) t
inductive Back (cm:Cm):Int->List Int->Prop
 | src:Back cm (-1) [-1]
 | step {x p:Int} {r:List Int}:x ≠ -1->look cm x=some p->Back cm p r->Back cm x (x::r)
def WB (W:Wy) (st:List Int):Prop:=∃ cm due,Dfs W ([],[-1]) (cm,due)/\((vis cm (-2)=false/\st=[])\/(vis cm (-2)=true/\Back cm (-2) st))
theorem Dfs.one {W:Wy} {s t t':Cm × List Int} (h:Dfs W s t):Dfs W s t'->t=t':=by
 induction h with
 | stop c=>
  intro k;cases k with
  | stop _=>rfl
  | go v _=>simp [dfsC,v] at c
 | @go cm due x t v _ ih=>
  intro k;generalize e:(cm,due++[x])=s at k;cases k with
  | stop c=>subst e;simp [dfsC,v] at c
  | @go cm' due' x' t' v' k'=>
   have e1:=congrArg Prod.fst e;have e2:=congrArg Prod.snd e;dsimp only at e1 e2;subst e1;obtain ⟨e3,e4⟩:=List.append_inj' e2 rfl;subst e3;cases e4;exact ih k'
theorem Back.one {cm:Cm} {x:Int} {r r':List Int} (h:Back cm x r):Back cm x r'->r=r':=by
 induction h generalizing r' with
 | src=>
  intro k;cases k with
  | src=>rfl
  | step h _ _=>exact absurd rfl h
 | step h1 h2 _ ih=>
  intro k;cases k with
  | src=>exact absurd rfl h1
  | step _ k2 k3=>
   have:=J3 (h2.symm.trans k2);subst this;rw [ih k3]
theorem WB.one {W:Wy} {st st':List Int}:WB W st->WB W st'->st=st':=by
 rintro ⟨cm,due,h,k⟩ ⟨cm',due',h',k'⟩;have e:=h.one h';cases e;rcases k with ⟨a,rfl⟩ | ⟨a,b⟩
 ·rcases k' with ⟨_,rfl⟩ | ⟨c,_⟩
  ·rfl
  ·rw [a] at c;cases c
 ·rcases k' with ⟨c,_⟩ | ⟨_,d⟩
  ·rw [a] at c;cases c
  ·exact b.one d
structure Gd (W:Wy) (cm:Cm):Prop where
 nd:(cm.map (·.1)).Nodup
 at_:∀ (i:Nat) f p,cm[i]?=some (f,p)->f ∈ W p/\f ≠ -1/\(p = -1\/∃ j q,j<i/\cm[j]?=some (p,q))
theorem vis_iff {cm:Cm} {x:Int}:vis cm x=true ↔ x = -1\/∃ (i:Nat) (q:Int),cm[i]?=some (x,q):=by
 unfold vis;rw [A45,decide_eq_true_eq,O2];refine or_congr_right ⟨?_,?_⟩
 ·rintro ⟨⟨y,q⟩,h1,h2⟩;have:=of_decide_eq_true h2;dsimp only at this;subst this;obtain ⟨i,hi⟩:=L7 h1;exact ⟨i,q,hi⟩
 ·rintro ⟨i,q,h⟩;exact ⟨(x,q),B6 h,decide_eq_true rfl⟩
theorem Gd.snoc {W:Wy} {cm:Cm} (G:Gd W cm) {f p:Int} (h1:f ∈ W p) (h2:vis cm f=false) (h3:vis cm p=true):Gd W (cm++[(f,p)]):=by
 have nv:¬ (f = -1\/∃ (i:Nat) (q:Int),cm[i]?=some (f,q)):=fun z=>by rw [vis_iff.mpr z] at h2;cases h2
 refine ⟨?_,fun i g q e=>?_⟩
 ·rw [B2,R8];refine ⟨G.nd,by simp,fun a ha b hb z=>?_⟩
  obtain ⟨⟨y,q⟩,hy,rfl⟩:=D7.mp ha;obtain ⟨i,hi⟩:=L7 hy;simp at hb;rw [hb] at z;dsimp only at z;subst z;exact nv (.inr ⟨i,q,hi⟩)
 ·by_cases c:i<cm.length
  ·rw [C5 c] at e;obtain ⟨a,b,d⟩:=G.at_ i g q e;refine ⟨a,b,d.imp id ?_⟩;rintro ⟨j,r,hj,ej⟩;exact ⟨j,r,hj,by rw [C5 (by lia)];exact ej⟩
  ·have li:=(A3.mp e).1;rw [A5,B3] at li;have ei:i=cm.length:=by lia
   subst ei;rw [C2 (A9 _),R0] at e;cases e;refine ⟨h1,fun z=>nv (.inl z),?_⟩;rcases vis_iff.mp h3 with z | ⟨j,r,ej⟩
   ·exact .inl z
   ·have hj:=(A3.mp ej).1;exact .inr ⟨j,r,hj,by rw [C5 hj];exact ej⟩
theorem qSW {cm:Cm} (n:(cm.map (·.1)).Nodup) {i:Nat} {f p:Int} (h:cm[i]?=some (f,p)):look cm f=some p:=by
 unfold look
 induction cm generalizing i with
 | nil=>cases h
 | cons q cm ih=>
  obtain ⟨n1,n2⟩:=J4.mp n;cases i with
  | zero=>
   cases h;simp [W4]
  | succ i=>
   have hm:=B6 (l:=cm) (i:=i) h;rw [Y0 fun z=>?_]
   ·exact ih n2 h
   ·have:=of_decide_eq_true z;exact n1 (D7.mpr ⟨(f,p),hm,this.symm⟩)
theorem Gd.back {W:Wy} {cm:Cm} (G:Gd W cm):∀ (i:Nat) (f p:Int),cm[i]?=some (f,p)->∃ r,Back cm f r/\Pth W r/\r.Nodup/\r.head?=some f/\r.getLast?=some (-1)/\∀ x ∈ r,x = -1\/∃ j q,j<=i/\cm[j]?=some (x,q)
 | i,f,p,h=>by
  obtain ⟨h1,h2,h3⟩:=G.at_ i f p h;have hl:=qSW G.nd h;rcases h3 with rfl | ⟨j,q,hj,ej⟩
  ·refine ⟨[f,-1],.step h2 hl .src,⟨h1,trivial⟩,by simp;exact h2,rfl,rfl,fun x hx=>?_⟩
   simp at hx;rcases hx with rfl | rfl
   ·exact .inr ⟨i,-1,A9 _,h⟩
   ·exact .inl rfl
  ·obtain ⟨r,b1,b2,b3,b4,b5,b6⟩:=Gd.back G j p q ej;obtain ⟨r',rfl⟩:∃ r',r=p::r':=by
    cases r with
    | nil=>cases b4
    | cons y r'=>cases b4;exact ⟨r',rfl⟩
   refine ⟨f::p::r',.step h2 hl b1,⟨h1,b2⟩,J4.mpr ⟨fun z=>?_,b3⟩,rfl,by rw [X4];exact b5,fun x hx=>?_⟩
   ·rcases b6 f z with e | ⟨k,s,hk,ek⟩
    ·exact h2 e
    ·have n:=G.nd;have e1:(cm.map (·.1))[i]?=some f:=by rw [C4,h];rfl
     have e2:(cm.map (·.1))[k]?=some f:=by rw [C4,ek];rfl
     have:=(l5 (A3.mp e1).1 n).mp (e1.trans e2.symm)
     lia
   ·rcases B8.mp hx with rfl | hx
    ·exact .inr ⟨i,p,A9 _,h⟩
    ·exact (b6 x hx).imp id fun ⟨k,s,hk,ek⟩=>⟨k,s,by lia,ek⟩
 termination_by i=>i
def StOk (W:Wy) (st:List Int):Prop:=st=[]\/(Pth W st/\st.Nodup/\st.head?=some (-2)/\st.getLast?=some (-1))
theorem qbD {W:Wy}:Gd W []:=⟨by simp,fun i f p e=>by cases e⟩
structure Sk (W:Wy) (s:Cm × List Int):Prop where
 gd:Gd W s.1
 due:∀ x ∈ s.2,vis s.1 x=true
theorem qNF {cm:Cm} {x:Int} {q:Int × Int} (h:vis cm x=true):vis (cm++[q]) x=true:=by
 rcases vis_iff.mp h with z | ⟨i,r,e⟩
 ·exact vis_iff.mpr (.inl z)
 ·exact vis_iff.mpr (.inr ⟨i,r,by rw [C5 (A3.mp e).1];exact e⟩)
theorem qRN {cm:Cm} {x q:Int}:vis (cm++[(x,q)]) x=true:=vis_iff.mpr (.inr ⟨cm.length,q,by rw [C2 (A9 _),R0];rfl⟩)
def dfsO (stop f:Int) (s:Cm × List Int):Cm × List Int:=if vis s.1 f then s else (s.1++[(f,stop)],s.2++[f])
theorem qMZ {stop f:Int}:∀ (r:List Int) (s:Cm × List Int),dfsF stop (r++[f]) s=dfsO stop f (dfsF stop r s)
 | [],s=>rfl
 | g::r,s=>by
  show dfsF stop (r++[f]) _=dfsO stop f (dfsF stop r _);exact qMZ r _
theorem Sk.one {W:Wy} {s:Cm × List Int} (h:Sk W s) {stop f:Int} (h1:f ∈ W stop) (h2:vis s.1 stop=true):Sk W (dfsO stop f s)/\vis (dfsO stop f s).1 stop=true:=by
 unfold dfsO;cases e:vis s.1 f with
 | true=>rw [if_pos rfl];exact ⟨h,h2⟩
 | false=>
  rw [if_neg (by simp)]
  refine ⟨⟨h.gd.snoc h1 e h2,fun x hx=>?_⟩,qNF h2⟩;rcases B7.mp hx with z | z
  ·exact qNF (h.due x z)
  ·rw [A6.mp z];exact qRN
def inK (Ae:List (List Int)) (path:List Int) (i:Nat) (k:Int):Prop:=k = -1\/k = -2\/∃ w,qAU Ae path w=true/\w<(i:Int)/\(k=2 * w\/k=2 * w+1)
theorem qJT {Ae:List (List Int)} {path:List Int} {x y:Int} (h:y ∈ W0 Ae path x):inK Ae path Ae.length x/\inK Ae path Ae.length y:=by
 rcases qCF h with ⟨rfl,w,rfl,f,_⟩ | ⟨w,rfl,rfl,f⟩ | ⟨w,rfl,w0,f,⟨rfl,_⟩ | ⟨u,rfl,g,_⟩⟩
 ·exact ⟨.inl rfl,.inr (.inr ⟨w,f,(free_in.mp f).1.2,.inl rfl⟩)⟩
 ·exact ⟨.inr (.inr ⟨w,f,(free_in.mp f).1.2,.inl rfl⟩),.inr (.inr ⟨w,f,(free_in.mp f).1.2,.inr rfl⟩)⟩
 ·exact ⟨.inr (.inr ⟨w,f,(free_in.mp f).1.2,.inr rfl⟩),.inr (.inl rfl)⟩
 ·exact ⟨.inr (.inr ⟨w,f,(free_in.mp f).1.2,.inr rfl⟩),.inr (.inr ⟨u,g,(free_in.mp g).1.2,.inl rfl⟩)⟩
theorem Fl0.dom {Ae:List (List Int)} {path:List Int} {W:Wy} (F:Fl0 (W0 Ae path) W) {x y:Int} (h:y ∈ W x):inK Ae path Ae.length y:=by
 rcases F.on x y h with z | z
 ·exact (qJT z).2
 ·exact (qJT z).1
theorem qPS {Ae:List (List Int)} {path:List Int} {i:Nat} {k:Int} (h:inK Ae path i k):k ∈ qAC (-2) (2 * (Ae.length:Int)):=by
 rw [mem_rangeI];rcases h with rfl | rfl | ⟨w,f,_,rfl | rfl⟩
 ·lia
 ·lia
 ·have:=(free_in.mp f).1;lia
 ·have:=(free_in.mp f).1;lia
theorem qGG {Ae:List (List Int)} {path:List Int} {l:List Int} (n:l.Nodup) (h:∀ x ∈ l,inK Ae path Ae.length x):l.length<=2 * Ae.length+2:=by
 have:=D3 n fun x hx=>qPS (h x hx);rw [qBL] at this
 lia
structure WaysAt (H0 H:Hp) (d:Addr) (m:Nat) (P:Int->Prop) (W:Wy) (ad:Int->Addr):Prop where
 dict:∃ Af,H d=some (.dK Af)/\Af.length<=m/\∀ k,P k->valV Af (D9 k)=some (.ref (ad k))
 lst:∀ k,P k->H (ad k)=some (.lst ((W k).map V.int))
 inj:∀ k k',P k->P k'->ad k=ad k'->k=k'
 fr:∀ k,P k->H0 (ad k)=none
 frd:H0 d=none
 old:Same H0 H
section
variable {H0 H H':Hp} {d:Addr} {m:Nat} {P:Int->Prop} {W:Wy} {ad:Int->Addr}
theorem WaysAt.same (h:WaysAt H0 H d m P W ad) (s:Same H H'):WaysAt H0 H' d m P W ad:=by
 obtain ⟨Af,a,b,c⟩:=h.dict;exact ⟨⟨Af,s _ _ a,b,c⟩,fun k hk=>s _ _ (h.lst k hk),h.inj,h.fr,h.frd,h.old.trans s⟩
theorem WaysAt.nd (h:WaysAt H0 H d m P W ad) {k:Int} (hk:P k):ad k ≠ d:=by
 obtain ⟨Af,a,_⟩:=h.dict;exact qC2 (h.lst k hk) a (by intro z;cases z)
theorem WaysAt.put (h:WaysAt H0 H d m P W ad) {k:Int} (hk:P k) (zs:List Int):WaysAt H0 (Ag H (ad k) (.lst (zs.map V.int))) d m P (fun x=>if x=k then zs else W x) ad:=by
 obtain ⟨Af,a,b,c⟩:=h.dict;refine ⟨⟨Af,by rw [qA7 (h.nd hk).symm];exact a,b,c⟩,fun x hx=>?_,h.inj,h.fr,h.frd,qAB h.old (h.fr k hk)⟩
 by_cases e:x=k
 ·subst e;rw [qA1,if_pos rfl]
 ·rw [qA7 fun z=>e (h.inj _ _ hx hk z),if_neg e];exact h.lst x hx
theorem WaysAt.congr {W':Wy} (h:WaysAt H0 H d m P W ad) (e:∀ x,P x->W' x=W x):WaysAt H0 H d m P W' ad:=⟨h.dict,fun k hk=>by rw [e k hk];exact h.lst k hk,h.inj,h.fr,h.frd,h.old⟩
end
theorem WaysAt.add {H0 H:Hp} {d:Addr} {m:Nat} {P:Int->Prop} {W:Wy} {ad:Int->Addr} (h:WaysAt H0 H d m P W ad) {k:Int} (hk:¬ P k) {e:Addr} {zs:List Int} {Af:List (Key × V)} (fe:H0 e=none) (ge:H e=some (.lst (zs.map V.int))) (na:∀ x,P x->ad x ≠ e) (hd:H d=some (.dK Af)) (hl:Af.length<=m) (hv:∀ x,P x->valV Af (D9 x)=some (.ref (ad x))):WaysAt H0 (Ag H d (.dK (putK Af (D9 k) (.ref e)))) d (m+1) (fun x=>P x\/x=k) (fun x=>if x=k then zs else W x) (fun x=>if x=k then e else ad x):=by
 have ned:e ≠ d:=qC2 ge hd (by intro z;cases z)
 refine ⟨⟨_,qA1,M5 (qCW _ _ _) (by lia),fun x hx=>?_⟩,fun x hx=>?_,fun x y hx hy z=>?_,fun x hx=>?_,h.frd,qAB h.old h.frd⟩
 ·rw [qKN];by_cases c:x=k
  ·rw [if_pos (by rw [c]),if_pos c]
  ·rw [if_neg fun u=>c (U7 u),if_neg c];exact hv x (hx.resolve_right c)
 ·by_cases c:x=k
  ·rw [if_pos c,if_pos c,qA7 ned];exact ge
  ·rw [if_neg c,if_neg c,qA7 (h.nd (hx.resolve_right c))];exact h.lst x (hx.resolve_right c)
 ·by_cases c:x=k
  ·by_cases c':y=k
   ·rw [c,c']
   ·rw [if_pos c,if_neg c'] at z;exact absurd z.symm (na y (hy.resolve_right c'))
  ·by_cases c':y=k
   ·rw [if_neg c,if_pos c'] at z;exact absurd z (na x (hx.resolve_right c))
   ·rw [if_neg c,if_neg c'] at z;exact h.inj x y (hx.resolve_right c) (hy.resolve_right c') z
 ·by_cases c:x=k
  ·rw [if_pos c];exact fe
  ·rw [if_neg c];exact h.fr x (hx.resolve_right c)
theorem WaysAt.dom {H0 H:Hp} {d:Addr} {m m':Nat} {P P':Int->Prop} {W:Wy} {ad:Int->Addr} (h:WaysAt H0 H d m P W ad) (hm:m<=m') (hp:∀ x,P' x->P x):WaysAt H0 H d m' P' W ad:=by
 obtain ⟨Af,a,b,c⟩:=h.dict;exact ⟨⟨Af,a,by lia,fun k hk=>c k (hp k hk)⟩,fun k hk=>h.lst k (hp k hk),fun k k' a b=>h.inj k k' (hp k a) (hp k' b),fun k hk=>h.fr k (hp k hk),h.frd,h.old⟩
section
variable {Ae:List (List Int)} {path:List Int} {i:Nat}
theorem qKU (i:Nat):qAC 0 ((i+1:Nat):Int)=qAC 0 (i:Int)++[(i:Int)]:=by
 refine qZO (qEP _ _) ?_ fun x=>?_
 ·rw [L6];exact ⟨qEP _ _,by simp,fun a ha b hb=>by rw [A6.mp hb];exact (mem_rangeI.mp ha).2⟩
 ·rw [B7,mem_rangeI,mem_rangeI,A6]
  lia
theorem qbE (h:qAU Ae path (i:Int)=false) (x:Int):fwW Ae path (i+1) x=fwW Ae path i x:=by
 have fl:∀ p:Int->Bool,((qAC 0 ((i+1:Nat):Int)).filter fun w=>qAU Ae path w && p w)=(qAC 0 (i:Int)).filter fun w=>qAU Ae path w && p w:=fun p=>by
  rw [qKU,U6,T9,h];simp
 unfold fwW;have lt:(qAU Ae path (x / 2) && decide (x / 2<((i+1:Nat):Int)))=(qAU Ae path (x / 2) && decide (x / 2<(i:Int))):=by
  by_cases c:x / 2=(i:Int)
  ·rw [c,h];rfl
  ·congr 1;exact decide_eq_decide.mpr (by lia)
 rw [lt,fl,fl]
theorem fw_s (h:qAU Ae path (i:Int)=true):fwW Ae path (i+1) (-1)=fwW Ae path i (-1)++if (nd Ae (i:Int)).isEmpty then [2 * (i:Int)] else []:=by
 unfold fwW;rw [if_pos rfl,if_pos rfl,qKU,U6,B2,T9,h];cases (nd Ae (i:Int)).isEmpty <;> rfl
theorem fw_g (k:Nat):fwW Ae path k (-2)=[]:=by
 unfold fwW;rw [if_neg (by decide),if_pos (by decide)]
 have:qAU Ae path (-2 / 2)=false:=by unfold qAU;rfl
 rw [this]
 rfl
theorem qO6 (k:Nat) {n:Int} (h0:0<=n):fwW Ae path k (2 * n)=if qAU Ae path n && decide (n<(k:Int)) then [2 * n+1] else []:=by
 show (if 2 * n = -1 then _ else if 2 * n % 2=0 then _ else _)=_
 rw [if_neg (show ¬ 2 * n = -1 by lia),if_pos (show 2 * n % 2=0 by lia),show 2 * n / 2=n by lia]
theorem qTJ (k:Nat) {n:Int} (h0:0<=n):fwW Ae path k (2 * n+1)=if qAU Ae path n && decide (n<(k:Int)) then (if qBU Ae path n then [-2] else [])++((qAC 0 k).filter fun u=>qAU Ae path u && decide (n ∈ nd Ae u)).map (2 * ·) else []:=by
 show (if 2 * n+1 = -1 then _ else if (2 * n+1) % 2=0 then _ else _)=_
 rw [if_neg (show ¬ 2 * n+1 = -1 by lia),if_neg (show ¬ (2 * n+1) % 2=0 by lia),show (2 * n+1) / 2=n by lia]
theorem qcI (h:qAU Ae path (i:Int)=true):fwW Ae path (i+1) (2 * (i:Int))=[2 * (i:Int)+1]:=by
 rw [qO6 _ (by lia),h,decide_eq_true (by lia)]
 rfl
theorem qcH (wf:WFn Ae) (h:qAU Ae path (i:Int)=true):fwW Ae path (i+1) (2 * (i:Int)+1)=if qBU Ae path (i:Int) then [-2] else []:=by
 have:((qAC 0 ((i+1:Nat):Int)).filter fun u=>qAU Ae path u && decide ((i:Int) ∈ nd Ae u))=[]:=List.filter_eq_nil_iff.mpr fun u hu z=>by
  rw [C0,decide_eq_true_eq] at z;have b:=mem_rangeI.mp hu;have:=qC9 wf b.1 z.2
  lia
 rw [qTJ _ (by lia),h,decide_eq_true (by lia),if_pos (by rfl),this,Y6,J8]
theorem fw_e {n:Int} (h0:0<=n) (h1:n<(i:Int)):fwW Ae path (i+1) (2 * n)=fwW Ae path i (2 * n):=by
 rw [qO6 _ h0,qO6 _ h0,decide_eq_true (show n<((i+1:Nat):Int) by lia),decide_eq_true h1]
theorem fw_o (h:qAU Ae path (i:Int)=true) {n:Int} (h0:qAU Ae path n=true) (h1:n<(i:Int)):fwW Ae path (i+1) (2 * n+1)=fwW Ae path i (2 * n+1)++if n ∈ nd Ae (i:Int) then [2 * (i:Int)] else []:=by
 have b:=(free_in.mp h0).1.1;rw [qTJ _ b,qTJ _ b,decide_eq_true (show n<((i+1:Nat):Int) by lia),decide_eq_true h1,h0]
 generalize (if qBU Ae path n then [(-2:Int)] else [])=E
 rw [if_pos (show (true && true)=true from rfl),if_pos (show (true && true)=true from rfl),qKU,U6,B2,I0,T9,h];by_cases c:n ∈ nd Ae (i:Int)
 ·rw [decide_eq_true c,if_pos c];rfl
 ·rw [decide_eq_false c,if_neg c];rfl
theorem qTK (k:Nat) (x:Int):(fwW Ae path k x).length<=k+1:=by
 have fl:∀ p:Int->Bool,(((qAC 0 (k:Int)).filter p).map (2 * ·)).length<=k:=fun p=>by
  rw [A0];have:=Q0 p (qAC 0 (k:Int));rw [qBL] at this
  lia
 unfold fwW
 split
 ·have:=fl fun w=>qAU Ae path w && (nd Ae w).isEmpty
  lia
 ·split
  ·split <;> simp
  ·split
   ·rw [A5];have:=fl fun u=>qAU Ae path u && decide (x / 2 ∈ nd Ae u)
    split <;> simp <;> simp at this <;> lia
   ·simp
theorem qX9 (wf:WFn Ae) (h:qAU Ae path (i:Int)=true) {zs:List Int} (en:nd Ae (i:Int)=zs) {W3:Wy} (e1:W3 (-1)=fwW Ae path i (-1)++if zs.isEmpty then [2 * (i:Int)] else []) (e2:W3 (2 * (i:Int))=[2 * (i:Int)+1]) (e3:W3 (2 * (i:Int)+1)=if qBU Ae path (i:Int) then [-2] else []) (e4:∀ x,x ≠ -1->x ≠ 2 * (i:Int)->x ≠ 2 * (i:Int)+1->W3 x=fwW Ae path i x) {k:Int} (hk:inK Ae path (i+1) k):W3 k++(if (0<=k/\k % 2=1/\k / 2 ∈ zs) then [2 * (i:Int)] else [])=fwW Ae path (i+1) k:=by
 rcases hk with rfl | rfl | ⟨v,f,hv,rfl | rfl⟩
 ·rw [if_neg (by lia),J8,e1,fw_s h,en]
 ·rw [if_neg (by lia),J8,e4 _ (by lia) (by lia) (by lia),fw_g,fw_g]
 ·have b:=(free_in.mp f).1.1;rw [if_neg (by lia),J8]
  by_cases e:v=(i:Int)
  ·rw [e,e2,qcI h]
  ·rw [e4 _ (by lia) (by lia) (by lia),fw_e b (by lia)]
 ·have b:=(free_in.mp f).1.1;by_cases e:v=(i:Int)
  ·have no:¬ (0<=2 * (i:Int)+1/\(2 * (i:Int)+1) % 2=1/\(2 * (i:Int)+1) / 2 ∈ zs):=by
    rintro ⟨_,_,z⟩;rw [show (2 * (i:Int)+1) / 2=(i:Int) by lia,<- en] at z
    have:=qC9 wf (by lia) z
    lia
   rw [e,e3,qcH wf h,if_neg no,J8]
  ·rw [e4 _ (by lia) (by lia) (by lia),fw_o h f (by lia),en]
   congr 1;rw [show (2 * v+1) / 2=v by lia]
   by_cases c:v ∈ zs
   ·rw [if_pos ⟨by lia,by lia,c⟩,if_pos c]
   ·rw [if_neg fun z=>c z.2.2,if_neg c]
end
def qDA (H:Hp) (a t:Addr) (Ae:List (List Int)) (path:List Int):Prop:=NetAt H a Ae/\WFn Ae/\Ae.length<=400/\H t=some (.tup (path.map V.int))/\path ≠ []/\path.length<=400/\∀ x ∈ path,0<=x/\x<(Ae.length:Int)
def qJW:Sp:=fun vs H Q _=>∃ (a t:Addr) (Ae:List (List Int)) (path:List Int),vs=[.ref a,.ref t]/\qDA H a t Ae path/\
 ∀ d Af H',Same H H'->H d=none->H' d=some (.dK Af)->(∀ z:Int,(valV Af (D9 z)).isSome=true ↔ qBU Ae path z=true)->Q (.ref d) H'
def qJX:Sp:=fun vs H Q _=>∃ (a t:Addr) (Ae:List (List Int)) (path:List Int),vs=[.ref a,.ref t]/\qDA H a t Ae path/\
 ∀ d ad H',WaysAt H H' d 2002 (inK Ae path Ae.length) (W0 Ae path) ad->Q (.ref d) H'
def qLY:Sp:=fun vs H Q _=>∃ (d:Addr) (H0:Hp) (Ae:List (List Int)) (path:List Int) (W:Wy) (ad:Int->Addr),vs=[.ref d]/\Ae.length<=400/\WaysAt H0 H d 2002 (inK Ae path Ae.length) W ad/\Fl0 (W0 Ae path) W/\
 ∀ l st H',Same H H'->H l=none->H' l=some (.lst (st.map V.int))->WB W st->StOk W st->Q (.ref l) H'
def qWR:Sp:=fun vs H Q _=>∃ (d l:Addr) (H0:Hp) (Ae:List (List Int)) (path:List Int) (W:Wy) (ad:Int->Addr) (st:List Int),vs=[.ref d,.ref l]/\Ae.length<=400/\WaysAt H0 H d 2002 (inK Ae path Ae.length) W ad/\Fl0 (W0 Ae path) W/\H l=some (.lst (st.map V.int))/\(∀ k,inK Ae path Ae.length k->ad k ≠ l)/\Pth W st/\st.Nodup/\st.head?=some (-2)/\
 ∀ H',WaysAt H0 H' d 2002 (inK Ae path Ae.length) (qC8 st W) ad->Q .non H'
def qOX:Sp:=fun vs H Q _=>∃ (d:Addr) (H0:Hp) (Ae:List (List Int)) (path:List Int) (W:Wy) (ad:Int->Addr) (w:Int) (s:List Int),vs=[.ref d,.int w]/\Ae.length<=400/\WaysAt H0 H d 2002 (inK Ae path Ae.length) W ad/\Fl Ae path W/\WFn Ae/\qAU Ae path w=true/\Flw W w/\Sd W w s/\
 ∀ T H',Same H H'->H' T=some (.tup (s.map V.int))->Q (.ref T) H'
inductive SW:Wy->Wy->Prop
 | stop {W:Wy}:WB W []->SW W W
 | go {W W':Wy} {st:List Int}:WB W st->st ≠ []->SW (qC8 st W) W'->SW W W'
theorem SW.one {W W' W'':Wy} (h:SW W W'):SW W W''->W'=W'':=by
 induction h with
 | stop b=>
  intro k;cases k with
  | stop _=>rfl
  | go b' ne _=>exact absurd (b'.one b) ne
 | go b ne _ ih=>
  intro k;cases k with
  | stop b'=>exact absurd (b.one b') ne
  | go b' _ k'=>
   have:=b.one b';subst this;exact ih k'
def SidesOf (Ae:List (List Int)) (path:List Int) (ts:List (List Int)):Prop:=∃ (W:Wy) (ss:List (List Int)),SW (W0 Ae path) W/\Fl Ae path W/\Paired (fun x s=>Sd W (x / 2) s) (W (-2)) ss/\ts.Perm ss/\ts.Pairwise fun a b=>HT.lexLt b a=false
def qNK:Sp:=fun vs H Q _=>∃ (a t:Addr) (Ae:List (List Int)) (path:List Int),vs=[.ref a,.ref t]/\qDA H a t Ae path/\Ae.length<=60/\
 ∀ l rs ts H',Same H H'->H l=none->H' l=some (.lst (rs.map V.ref))->L2.G.TupsAt H' rs ts->SidesOf Ae path ts->Q (.ref l) H'
def cmK (cm:Cm):List (Key × V):=(D9 (-1),.non)::cm.map fun p=>(D9 p.1,.int p.2)
theorem qU1 (cm:Cm) (x:Int):valV (cmK cm) (D9 x)=if x = -1 then some .non else (look cm x).map V.int:=by
 unfold valV cmK look;by_cases c:x = -1
 ·rw [if_pos c,c];rfl
 ·rw [if_neg c,Y0 (by simp;exact fun z=>c z.symm)]
  induction cm with
  | nil=>rfl
  | cons q cm ih=>
   rw [E8];by_cases e:q.1=x
   ·rw [A42 (by simp [e]),A42 (by simp [e])];rfl
   ·rw [Y0 (by simp [e]),Y0 (by simp [e])];exact ih
theorem qOD (cm:Cm) (x:Int):(valV (cmK cm) (D9 x)).isSome=vis cm x:=by
 rw [qU1];unfold vis look;by_cases c:x = -1
 ·rw [if_pos c,decide_eq_true c];rfl
 ·rw [if_neg c,decide_eq_false c,B40,O4,O4,O7,A14,O2]
theorem qZ8 {cm:Cm} {f p:Int} (h:vis cm f=false):putK (cmK cm) (D9 f) (.int p)=cmK (cm++[(f,p)]):=by
 unfold putK;rw [if_neg]
 ·unfold cmK;simp
 ·intro z;obtain ⟨kv,h1,h2⟩:=O2.mp z;have e:=of_decide_eq_true h2;have:vis cm f=true:=by
   unfold cmK at h1;rcases B8.mp h1 with rfl | h1
   ·exact vis_iff.mpr (.inl (U7 e).symm)
   ·obtain ⟨q,hq,rfl⟩:=D7.mp h1;obtain ⟨i,hi⟩:=L7 hq;have:=U7 e;exact vis_iff.mpr (.inr ⟨i,q.2,by rw [hi,<- this]⟩)
  rw [h] at this;cases this
structure SkI (Ae:List (List Int)) (path:List Int) (W:Wy) (s:Cm × List Int):Prop where
 sk:Sk W s
 go:∀ t,Dfs W s t->Dfs W ([],[-1]) t
 dom:∀ q ∈ s.1,inK Ae path Ae.length q.1
theorem SkI.few {Ae:List (List Int)} {path:List Int} {W:Wy} {s:Cm × List Int} (h:SkI Ae path W s):s.1.length<=2 * Ae.length+2:=by
 have:=qGG (Ae:=Ae) (path:=path) h.sk.gd.nd fun x hx=>by
  obtain ⟨q,hq,rfl⟩:=D7.mp hx;exact h.dom q hq
 rw [A0] at this;exact this
theorem SkI.inK {Ae:List (List Int)} {path:List Int} {W:Wy} {s:Cm × List Int} (h:SkI Ae path W s) {x:Int} (hx:vis s.1 x=true):Fw.inK Ae path Ae.length x:=by
 rcases vis_iff.mp hx with rfl | ⟨i,q,e⟩
 ·exact .inl rfl
 ·exact h.dom (x,q) (B6 e)
structure SkF (Ae:List (List Int)) (path:List Int) (W:Wy) (stop:Int) (s:Cm × List Int):Prop where
 sk:Sk W s
 dom:∀ q ∈ s.1,Fw.inK Ae path Ae.length q.1
 at_:vis s.1 stop=true
theorem SkF.one {Ae:List (List Int)} {path:List Int} {W:Wy} {stop f:Int} {s:Cm × List Int} (F:Fl0 (W0 Ae path) W) (h:SkF Ae path W stop s) (hf:f ∈ W stop):SkF Ae path W stop (dfsO stop f s)/\(dfsO stop f s).2.length+s.1.length=s.2.length+(dfsO stop f s).1.length:=by
 obtain ⟨a,b⟩:=h.sk.one hf h.at_;refine ⟨⟨a,fun q hq=>?_,b⟩,?_⟩
 ·unfold dfsO at hq
  split at hq
  ·exact h.dom q hq
  ·rcases B7.mp hq with z | z
   ·exact h.dom q z
   ·rw [A6.mp z];exact F.dom hf
 ·unfold dfsO
  split
  ·lia
  ·rw [A5,A5];show _+1+_=_+(_+1);lia
theorem qLV {a b:Int}:∀ (r:List Int) (W:Wy),qC8 (r++[a]++[b]) W=upW (qC8 (r++[a]) W) b a
 | [],W=>rfl
 | [f],W=>rfl
 | f::s::r,W=>by
  show qC8 ((s::r)++[a]++[b]) (upW W s f)=upW (qC8 ((s::r)++[a]) (upW W s f)) b a;exact qLV (s::r) (upW W s f)
theorem qRP {st:List Int} {W:Wy} {j:Nat} {f s:Int} (h1:st[j]?=some f) (h2:st[j+1]?=some s):qC8 (st.take (j+1+1)) W=upW (qC8 (st.take (j+1)) W) s f:=by
 have e1:st.take (j+1)=st.take j++[f]:=by rw [C9,h1];rfl
 have e2:st.take (j+1+1)=st.take j++[f]++[s]:=by rw [C9,h2,e1];rfl
 rw [e2,e1];exact qLV _ W
theorem qOS {x:Int}:∀ (st:List Int) (W:Wy),x ∉ st->qC8 st W x=W x
 | [],_,_=>rfl
 | [_],_,_=>rfl
 | f::s::r,W,h=>by
  show qC8 (s::r) (upW W s f) x=W x;rw [qOS (s::r) _ fun z=>h (B0 _ z)];exact qLU (fun z=>h (by rw [z];simp)) fun z=>h (by rw [z];simp)
theorem qWW {W:Wy}:∀ {st:List Int} {j:Nat} {f s:Int},Pth W st->st[j]?=some f->st[j+1]?=some s->f ∈ W s
 | f'::s'::r,0,f,s,h,h1,h2=>by cases h1;cases h2;exact h.1
 | f'::s'::r,j+1,f,s,h,h1,h2=>qWW (j:=j) h.2 h1 h2
 | [_],0,f,s,h,h1,h2=>by cases h2
 | [_],j+1,f,s,h,h1,h2=>by cases h1
 | [],_,_,_,_,h1,_=>by cases h1
theorem qPC {W:Wy}:∀ (st:List Int) (k:Nat),Pth W st->Pth W (st.take k)
 | [],_,_=>by simp [Pth]
 | [_],k,_=>by cases k <;> simp [Pth]
 | f::s::r,0,_=>trivial
 | f::s::r,1,_=>trivial
 | f::s::r,k+2,h=>⟨h.1,qPC (s::r) (k+1) h.2⟩
theorem qPY:∀ {zs:List Int} {y:Int},y ∈ zs->∃ j:Nat,zs[j]?=some y/\(∀ i,i<j->zs[i]? ≠ some y)/\zs.eraseIdx j=zs.erase y
 | z::zs,y,h=>by
  by_cases e:z=y
  ·exact ⟨0,by rw [e];rfl,fun i hi=>absurd hi (u7 _),by rw [e];simp⟩
  ·obtain ⟨j,h1,h2,h3⟩:=qPY ((B8.mp h).resolve_left fun z=>e z.symm);refine ⟨j+1,h1,fun i hi=>?_,?_⟩
   ·cases i with
    | zero=>exact fun z=>e (J3 z)
    | succ i=>exact h2 i (by lia)
   ·rw [A21,h3,List.erase_cons_tail (by simpa using e)]
theorem end_iff {Ae:List (List Int)} {path:List Int} {z:Int}:qBU Ae path z=true ↔ z ∉ path/\∃ w ∈ path.drop 1,z ∈ nd Ae w:=by
 unfold qBU;rw [C0,decide_eq_true_eq,O2];exact and_congr_right fun _=>⟨fun ⟨w,h1,h2⟩=>⟨w,h1,of_decide_eq_true h2⟩,fun ⟨w,h1,h2⟩=>⟨w,h1,decide_eq_true h2⟩⟩
def qQV:PyData->Int | .int i=>i | _=>0
def qD5:PyData->List Int | .tuple ds=>ds.map qQV | _=>[]
def qBW (Ae:List (List Int)):List Int->Bool
 | a::b::r=>decide (a ∈ nd Ae b) && qBW Ae (b::r)
 | _=>true
def qFJ (Ae:List (List Int)) (zs:List Int):Bool:=qBW Ae zs && (nd Ae (zs.headD 0)).isEmpty
def qV9 (Ae:List (List Int)):PyData->Bool
 | .tuple ds=>!ds.isEmpty && ds.all (qFR (Ae.length:Int)) && qFJ Ae (ds.map qQV)
 | _=>false
def qFW (Ae:List (List Int)) (path:List Int) (d:PyData):Bool:=qV9 Ae d && qBU Ae path ((qD5 d).getLastD 0) && (qD5 d).all fun x=>decide (x ∉ path)
def qP5 (Ae:List (List Int)) (path:List Int):PyData->Bool
 | .list ds=>ds.all (qFW Ae path) && decide ((ds.flatMap qD5).Nodup)
 | _=>false
theorem qER {zs:List Int}:(zs.map X9).map qQV=zs:=by rw [P8];exact (J2 fun x _=>rfl).trans (B25 _)
theorem qKJ {ds:List PyData} {e:Int} (h:ds.all (qFR e)=true):∃ zs:List Int,ds=zs.map X9/\∀ z ∈ zs,0<=z/\z<e:=by
 obtain ⟨zs,rfl⟩:=qT8 (ds:=ds) (E7.mpr fun d hd=>by
  have:=E7.mp h d hd;cases d <;> first | rfl | cases this)
 refine ⟨zs,rfl,fun z hz=>?_⟩;have:=E7.mp h (.int z) (A72 hz);have this:(decide (0<=z) && decide (z<e))=true:=this;rw [C0,decide_eq_true_eq,decide_eq_true_eq] at this;exact this
theorem chain_iff {Ae:List (List Int)}:∀ {zs:List Int},qBW Ae zs=true ↔ ∀ (i:Nat) a b,zs[i]?=some a->zs[i+1]?=some b->a ∈ nd Ae b
 | []=>by simp [qBW]
 | [_]=>by simp [qBW]
 | a::b::r=>by
  show (decide (a ∈ nd Ae b) && qBW Ae (b::r))=true ↔ _;rw [C0,decide_eq_true_eq,chain_iff]
  constructor
  ·rintro ⟨h1,h2⟩ i c e h3 h4;cases i with
   | zero=>cases h3;cases h4;exact h1
   | succ i=>exact h2 i c e h3 h4
  ·exact fun h=>⟨h 0 a b rfl rfl,fun i c e h3 h4=>h (i+1) c e h3 h4⟩
def lstB:PyData->Bool | .list _=>true | _=>false
theorem qZP {K:PySem.W.Frag} {H:Hp} {n:Nat} {x:V} {d:PyData} (h:DatN H n x d):∃ t,TyOf K H x t/\G9 K t (.type "list")=some (lstB d):=by
 have leaf:qNE x d->∃ t,TyOf K H x t/\G9 K t (.type "list")=some (lstB d):=by
  rintro (⟨rfl,rfl⟩ | ⟨b,rfl,rfl⟩ | ⟨i,rfl,rfl⟩ | ⟨y,rfl,rfl⟩)
  ·exact ⟨_,.non,rfl⟩
  ·exact ⟨_,.bl b,rfl⟩
  ·exact ⟨_,.int i,rfl⟩
  ·exact ⟨_,.str y,rfl⟩
 cases n with
 | zero=>exact leaf h
 | succ n=>
  rcases h with h | ⟨b,a,xs,ds,rfl,rfl,h1,_⟩
  ·exact leaf h
  ·cases b
   ·exact ⟨_,.lst h1,rfl⟩
   ·exact ⟨_,.tup h1,rfl⟩
theorem qZ5 {H:Hp} {n:Nat} {x:V} {d:PyData} (h:DatN H n x d) (hn:lstB d=true):∃ m a xs ds,n=m+1/\x=.ref a/\d=.list ds/\H a=some (.lst xs)/\xs.length=ds.length/\∀ (i:Nat) (x':V) (d':PyData),xs[i]?=some x'->ds[i]?=some d'->DatN H m x' d':=by
 have leaf:qNE x d->False:=by
  rintro (⟨rfl,rfl⟩ | ⟨b,rfl,rfl⟩ | ⟨i,rfl,rfl⟩ | ⟨y,rfl,rfl⟩) <;> cases hn
 cases n with
 | zero=>exact (leaf h).elim
 | succ n=>
  rcases h with h | ⟨b,a,xs,ds,rfl,rfl,h1,h2,h3⟩
  ·exact (leaf h).elim
  ·cases b
   ·exact ⟨n,a,xs,ds,rfl,rfl,rfl,h1,h2,h3⟩
   ·cases hn
theorem qW9 {H:Hp} {m:Nat} {xs:List V} {zs:List Int} (lx:xs.length=(zs.map X9).length) (el:∀ (i:Nat) (x':V) (d':PyData),xs[i]?=some x'->(zs.map X9)[i]?=some d'->DatN H m x' d'):xs=zs.map V.int:=B01 fun i=>by
 by_cases hi:i<xs.length
 ·have hx:=A7 hi;have hz:i<zs.length:=by rw [lx,A0] at hi;exact hi
  have ed:(zs.map X9)[i]?=some (.int zs[i]):=by rw [C4,A7 hz];rfl
  obtain ⟨j,e1,e2⟩:=qOB (el i _ _ hx ed) rfl;rw [hx,C4,A7 hz,e1];cases e2
  rfl
 ·rw [P9 (by lia),P9 (by rw [A0];rw [lx,A0] at hi;lia)]
theorem qM1 {Ae:List (List Int)} {path zs:List Int} (ne:zs ≠ []) (zin:∀ z ∈ zs,0<=z/\z<(Ae.length:Int)):qFW Ae path (.tuple (zs.map .int))=(qFJ Ae zs && qBU Ae path (zs.getLastD 0) && zs.all fun x=>decide (x ∉ path)):=by
 unfold qFW;have e1:qD5 (.tuple (zs.map .int))=zs:=qER;have e2:qV9 Ae (.tuple (zs.map .int))=qFJ Ae zs:=by
  show (!(zs.map X9).isEmpty && _ && qFJ Ae ((zs.map .int).map qQV))=_;have:(zs.map X9).isEmpty=false:=by cases zs with | nil=>exact absurd rfl ne | cons _ _=>rfl
  have ab:(zs.map X9).all (qFR (Ae.length:Int))=true:=E7.mpr fun d hd=>by
   obtain ⟨z,hz,rfl⟩:=D7.mp hd;show (decide (0<=z) && decide (z<(Ae.length:Int)))=true;rw [decide_eq_true (zin z hz).1,decide_eq_true (zin z hz).2]
   rfl
  rw [this,ab,qER]
  rfl
 rw [e1,e2]
theorem qSG {H:Hp} {Ae:List (List Int)} {n:Nat} {x:V} {d:PyData} (h:DatN H n x d) (hp:qV9 Ae d=true):∃ t zs,x=.ref t/\d=.tuple (zs.map .int)/\qD5 d=zs/\H t=some (.tup (zs.map V.int))/\zs ≠ []/\∀ z ∈ zs,0<=z/\z<(Ae.length:Int):=by
 have c:tupB d=true:=by cases d <;> first | rfl | cases hp
 obtain ⟨m,tt,xs,ds,rfl,rfl,rfl,ga,lx,el⟩:=qTV h c;have hp:(!ds.isEmpty && ds.all (qFR (Ae.length:Int)) && qFJ Ae (ds.map qQV))=true:=hp;rw [C0,C0] at hp;obtain ⟨zs,rfl,zin⟩:=qKJ hp.1.2;have ex:xs=zs.map V.int:=B01 fun i=>by
  by_cases hi:i<xs.length
  ·have hx:=A7 hi;have hz:i<zs.length:=by rw [lx,A0] at hi;exact hi
   have ed:(zs.map X9)[i]?=some (.int zs[i]):=by rw [C4,A7 hz];rfl
   obtain ⟨j,e1,e2⟩:=qOB (el i _ _ hx ed) rfl;rw [hx,C4,A7 hz,e1];cases e2
   rfl
  ·rw [P9 (by lia),P9 (by rw [A0];rw [lx,A0] at hi;lia)]
 subst ex;refine ⟨tt,zs,rfl,rfl,qER,ga,?_,zin⟩;rintro rfl;have:=hp.1.1;cases this
theorem qOI {xs:List V} {x:V} (h:xs.getLast?=some x):atI xs (-1)=some x:=by
 obtain ⟨ys,rfl⟩:=List.getLast?_eq_some_iff.mp h;exact qLM _ _
theorem qTR:∀ (l zs:List Int),(l.foldl addI zs).length=zs.length+l.length ↔ l.Nodup/\∀ x ∈ l,x ∉ zs
 | [],zs=>by simp
 | k::l,zs=>by
  show (l.foldl addI (addI zs k)).length=zs.length+(l.length+1) ↔ _;by_cases c:k ∈ zs
  ·have e:addI zs k=zs:=by unfold addI;rw [if_pos c]
   rw [e];have:=qDI l zs;exact ⟨fun h=>by lia,fun h=>absurd c (h.2 k A8)⟩
  ·have e:addI zs k=zs++[k]:=by unfold addI;rw [if_neg c]
   have ih:=qTR l (zs++[k]);rw [A5,B3] at ih;rw [e,show zs.length+(l.length+1)=zs.length+1+l.length by lia,ih,J4]
   constructor
   ·rintro ⟨h1,h2⟩;refine ⟨⟨fun z=>h2 k z (by simp),h1⟩,fun x hx=>?_⟩
    rcases B8.mp hx with rfl | hx
    ·exact c
    ·exact fun z=>h2 x hx (G6 _ z)
   ·rintro ⟨⟨h1,h2⟩,h3⟩;refine ⟨h2,fun x hx z=>?_⟩;rcases B7.mp z with z | z
    ·exact h3 x (B0 _ hx) z
    ·exact h1 (A6.mp z ▸ hx)
theorem ded_nodup {l:List Int}:(dedI l).length=l.length ↔ l.Nodup:=by
 have:=qTR l [];rw [M7,A47] at this;show (l.foldl addI []).length=l.length ↔ _;rw [this];exact ⟨fun h=>h.1,fun h=>⟨h,fun x _=>by simp⟩⟩
theorem qUX {Ae:List (List Int)} {path:List Int} (wf:WFn Ae) {H:Hp} {n:Nat} {x:V} {d:PyData} (h:DatN H n x d) (hs:qFW Ae path d=true):∃ t zs,x=.ref t/\qD5 d=zs/\H t=some (.tup (zs.map V.int))/\zs.length<=Ae.length:=by
 unfold qFW at hs;rw [C0,C0] at hs;obtain ⟨t,zs,rfl,rfl,ei,g,ne,zin⟩:=qSG h hs.1.1;refine ⟨t,zs,rfl,ei,g,?_⟩;have hp:(_ && _ && qFJ Ae ((zs.map X9).map qQV))=true:=hs.1.1;rw [C0,qER] at hp;have hc:qBW Ae zs=true:=by have:=hp.2;unfold qFJ at this;rw [C0] at this;exact this.1
 have up:zs.Pairwise (·<·):=by
  have key:∀ (l:List Int),qBW Ae l=true->(∀ z ∈ l,0<=z/\z<(Ae.length:Int))->l.Pairwise (·<·)/\True:=by
   intro l
   induction l with
   | nil=>exact fun _ _=>⟨.nil,trivial⟩
   | cons a r ih=>
    intro hc hin;cases r with
    | nil=>exact ⟨by simp,trivial⟩
    | cons b r=>
     have hc:(decide (a ∈ nd Ae b) && qBW Ae (b::r))=true:=hc;rw [C0,decide_eq_true_eq] at hc;have k:=(ih hc.2 fun z hz=>hin z (B0 _ hz)).1;have ab:=qC9 wf (hin b (by simp)).1 hc.1
     refine ⟨G4.mpr ⟨fun z hz=>?_,k⟩,trivial⟩;rcases B8.mp hz with rfl | hz
     ·exact ab.2
     ·have:=(G4.mp k).1 z hz;lia
  exact (key zs hc zin).1
 have:=(⟨up,zin⟩:Rise (Ae.length:Int) zs).len
 lia
def qP0:Sp:=fun vs H Q _=>∃ (a t:Addr) (Ae:List (List Int)) (path:List Int) (x:V) (n:Nat) (d:PyData),vs=[.ref a,.ref t,x]/\qDA H a t Ae path/\Ae.length<60/\path.length<=60/\DatN H n x d/\LenN 1 d/\∀ H',Same H H'->Q (.bl (qFW Ae path d)) H'
def qJY:Sp:=fun vs H Q _=>∃ (a t:Addr) (Ae:List (List Int)) (path:List Int) (x:V) (n:Nat) (d:PyData),vs=[.ref a,.ref t,x]/\qDA H a t Ae path/\Ae.length<60/\path.length<=60/\(∀ ds,d=.list ds->ds.length<=60)/\DatN H n x d/\LenN 2 d/\∀ H',Same H H'->Q (.bl (qP5 Ae path d)) H'
def tupI (s:List Int):PyData:=.tuple (s.map .int)
section
variable {Ae:List (List Int)} {path:List Int} {W:Wy}
theorem qJU (F:Fl Ae path W) (wf:WFn Ae) {xs:List Int} {ss:List (List Int)} (h:Paired (fun x s=>Sd W (x / 2) s) xs ss):xs.Nodup->(∀ x ∈ xs,x ∈ W (-2))->ss.flatten.Nodup/\∀ s ∈ ss,∃ w,2 * w+1 ∈ xs/\qBU Ae path w=true/\SdIs Ae path W w s/\s.getLast?=some w:=by
 induction h with
 | nil=>exact fun _ _=>⟨.nil,fun s hs=>nomatch hs⟩
 | @cons x s xs ss h0 _ ih=>
  intro n hin;obtain ⟨n1,n2⟩:=J4.mp n;obtain ⟨k1,k2⟩:=ih n2 fun y hy=>hin y (B0 _ hy);obtain ⟨w,rfl,f,e,fl⟩:=F.ends (hin x A8);rw [show (2 * w+1) / 2=w by lia] at h0
  have I:=F.sdIs wf h0 f fl
  constructor
  ·rw [L9,R8];refine ⟨I.up.imp fun h=>by lia,k1,fun a ha b hb=>?_⟩
   rintro rfl;obtain ⟨s',hs',ha'⟩:=U0.mp hb;obtain ⟨w',hw',_,I',_⟩:=k2 s' hs';have:=F.apart wf I I' (hin _ A8) (hin _ (B0 _ hw')) _ a (B13 _) ha ha';exact n1 (this ▸ hw')
  ·intro t ht;rcases B8.mp ht with rfl | ht
   ·exact ⟨w,A8,e,I,qNN h0⟩
   ·obtain ⟨v,hv,r⟩:=k2 t ht;exact ⟨v,B0 _ hv,r⟩
theorem qQW (ts:List (List Int)):(ts.map tupI).flatMap qD5=ts.flatten:=by
 induction ts with
 | nil=>rfl
 | cons s ts ih=>
  rw [E8,B02,ih,L9];congr 1;exact qER
theorem qMV:∀ {ts:List (List Int)},(∀ s ∈ ts,s ≠ [])->ts.length<=ts.flatten.length
 | [],_=>F8 _
 | s::ts,h=>by
  have:=qMV fun t ht=>h t (B0 _ ht);have l:=T4.mpr (h s A8);rw [L9,A5,D8]
  lia
theorem SidesOf.are {ts:List (List Int)} (wf:WFn Ae) (h:SidesOf Ae path ts):qP5 Ae path (.list (ts.map tupI))=true/\(∀ s ∈ ts,s ≠ []/\s.length<=Ae.length/\∀ z ∈ s,0<=z/\z<(Ae.length:Int))/\ts.length<=Ae.length:=by
 obtain ⟨W,ss,_,F,P,pm,_⟩:=h;obtain ⟨k1,k2⟩:=qJU F wf P (F.fl.nd _) fun _ h=>h;have each:∀ s ∈ ts,∃ w,qBU Ae path w=true/\SdIs Ae path W w s/\s.getLast?=some w:=fun s hs=>by
  obtain ⟨w,_,r⟩:=k2 s (pm.mem_iff.mp hs);exact ⟨w,r⟩
 have zin:∀ s ∈ ts,s ≠ []/\∀ z ∈ s,0<=z/\z<(Ae.length:Int):=fun s hs=>by
  obtain ⟨w,_,I,_⟩:=each s hs;obtain ⟨t,r,e,_⟩:=I.hd;exact ⟨by rw [e];simp,fun z hz=>(free_in.mp (I.fr z hz).1).1⟩
 have ndp:ts.flatten.Nodup:=(pm.flatten.nodup_iff).mpr k1;refine ⟨?_,fun s hs=>⟨(zin s hs).1,?_,(zin s hs).2⟩,?_⟩
 ·show ((ts.map tupI).all (qFW Ae path) && decide (((ts.map tupI).flatMap qD5).Nodup))=true;rw [qQW,decide_eq_true ndp,X5,E7];intro d hd;obtain ⟨s,hs,rfl⟩:=D7.mp hd;obtain ⟨w,e,I,gl⟩:=each s hs;have zz:=zin s hs;show qFW Ae path (.tuple (s.map .int))=true;rw [qM1 zz.1 zz.2,K0,gl];show (qFJ Ae s && qBU Ae path w && _)=true;rw [e,X5,C0]
  constructor
  ·unfold qFJ;rw [chain_iff.mpr I.co,d9];obtain ⟨t,r,rfl,en⟩:=I.hd;show (nd Ae t).isEmpty=true;rw [en]
   rfl
  ·exact E7.mpr fun x hx=>decide_eq_true (free_in.mp (I.fr x hx).1).2
 ·obtain ⟨w,_,I,_⟩:=each s hs;exact Rise.len ⟨I.up,(zin s hs).2⟩
 ·refine M5 (qMV fun s hs=>(zin s hs).1) (qaR ndp fun x hx=>?_);obtain ⟨s,hs,hx⟩:=U0.mp hx;exact (zin s hs).2 x hx
theorem p2 {a b:Nat} (h:a<=b):(2:Int) ^ a<=(2:Int) ^ b:=by
 have:=V4 (n:=2) (by decide) h
 exact_mod_cast this
theorem qS9 {f:Int->Int}:∀ {l:List Int} {lo m:Nat},l.Pairwise (·<·)->(∀ y ∈ l,(lo:Int)<=y/\y<(m:Int))->lo<=m->(∀ y ∈ l,f y<=(2:Int) ^ y.toNat)->(l.map f).sum+(2:Int) ^ lo<=(2:Int) ^ m
 | [],lo,m,_,_,h,_=>by
  rw [Y6,List.sum_nil,B06];exact p2 h
 | y::l,lo,m,up,hin,h,hf=>by
  have a:=hin y A8;have b:=hf y A8;obtain ⟨u1,u2⟩:=G4.mp up;have k:=qS9 (f:=f) (l:=l) (lo:=y.toNat+1) (m:=m) u2 (fun z hz=>by have:=u1 z hz;have:=hin z (B0 _ hz);lia) (by lia) fun z hz=>hf z (B0 _ hz)
  have c:(2:Int) ^ lo<=(2:Int) ^ y.toNat:=p2 (by lia)
  rw [Int.pow_succ] at k;rw [E8,Z6]
  lia
theorem qcM (wf:WFn Ae):∀ (n:Nat) (z:Int),z.toNat=n->0<=z->cn Ae z<=(2:Int) ^ z.toNat:=by
 intro n
 induction n using W8 with
 | ind n ih=>
  intro z hn h0;rw [qWC wf h0];have p:(1:Int)<=(2:Int) ^ z.toNat:=p2 (a:=0) (F8 _)
  split
  ·exact p
  ·have:=qS9 (f:=cn Ae) (l:=nd Ae z) (lo:=0) (m:=z.toNat) (qc8 wf z) (fun y hy=>by have:=qC9 wf h0 hy;lia) (F8 _) fun y hy=>by
    have b:=qC9 wf h0 hy;exact ih y.toNat (by lia) y rfl b.1
   have e:(2:Int) ^ 0=1:=rfl
   lia
theorem qcP (wf:WFn Ae):∀ (k:Nat) (p:List Int),(hd p).toNat=k->0<=hd p->p ≠ []->Rise (Ae.length:Int) p->∀ t ∈ aP Ae p,t ≠ []/\Rise (Ae.length:Int) t:=by
 intro k
 induction k using W8 with
 | ind k ih=>
  intro p hk h0 ne R t ht;rw [qRC wf h0] at ht
  split at ht
  ·rw [A6.mp ht];exact ⟨ne,R⟩
  ·obtain ⟨l,hl,ht⟩:=U0.mp ht;obtain ⟨z,hz,rfl⟩:=D7.mp hl;have b:=qC9 wf h0 (O1.mp hz);refine ih z.toNat (by lia) (z::p) rfl b.1 (by simp) ⟨G4.mpr ⟨fun y hy=>?_,R.up⟩,fun y hy=>?_⟩ t ht
   ·cases p with
    | nil=>exact absurd rfl ne
    | cons a p=>
     have b2:z<a:=b.2;rcases B8.mp hy with rfl | hy
     ·exact b2
     ·have:=(G4.mp R.up).1 y hy;lia
   ·rcases B8.mp hy with rfl | hy
    ·cases p with
     | nil=>exact absurd rfl ne
     | cons a p=>
      have b2:y<a:=b.2;have:=R.in_ a A8
      lia
    ·exact R.in_ y hy
theorem SortP.some {work:Int} {ts:List (List Int)} (wf:WFn Ae) (h0:0<=work) (h1:work<(Ae.length:Int)) (h:SortP Ae work ts):1<=ts.length/\∀ t ∈ ts,t ≠ []/\Rise (Ae.length:Int) t:=by
 constructor
 ·have a:=qUM wf _ [work] rfl h0;have b:1<=cn Ae (hd [work]):=qU0 wf _ work rfl h0;rw [h.1.length_eq]
  lia
 ·exact fun t ht=>qcP wf _ [work] rfl h0 (by simp) ⟨by simp,fun x hx=>by rw [A6.mp hx];exact ⟨h0,h1⟩⟩ t (h.1.mem_iff.mp ht)
end
theorem qUU {H:Hp} {l:Addr} {rs:List Addr} {ts:List (List Int)} (g:H l=some (.lst (rs.map V.ref))) (T:L2.G.TupsAt H rs ts):DatN H 2 (.ref l) (.list (ts.map tupI)):=by
 have le:=C6 T;have at_:∀ (i:Nat) r s,rs[i]?=some r->ts[i]?=some s->H r=some (.tup (s.map V.int)):=by
  clear g le
  induction T with
  | nil=>exact fun i r s h=>by simp at h
  | cons h _ ih=>
   intro i r s e1 e2;cases i with
   | zero=>cases e1;cases e2;exact h
   | succ i=>exact ih i r s e1 e2
 refine .inr ⟨false,l,_,_,rfl,rfl,g,by rw [A0,A0];exact le,fun i x' d' e1 e2=>?_⟩
 rw [C4] at e1 e2;obtain ⟨r,er,rfl⟩:=Q4.mp e1;obtain ⟨s,es,rfl⟩:=Q4.mp e2;refine .inr ⟨true,r,_,_,rfl,rfl,at_ i r s er es,by rw [A0,A0],fun j y' z' f1 f2=>?_⟩
 rw [C4] at f1 f2;obtain ⟨u,eu,rfl⟩:=Q4.mp f1;obtain ⟨v,ev,rfl⟩:=Q4.mp f2;rw [eu] at ev;cases ev;exact .inr (.inr (.inl ⟨u,rfl,rfl⟩))
theorem qUT {ts:List (List Int)} (h:ts.length<=2000) (h2:∀ s ∈ ts,s.length<=2000):LenN 2 (.list (ts.map tupI)):=fun b ds e=>by
 cases b with
 | true=>cases e
 | false=>
  cases e;refine ⟨by rw [A0];exact h,fun d hd b' ds' e'=>?_⟩
  obtain ⟨s,hs,rfl⟩:=D7.mp hd;cases b' with
  | false=>cases e'
  | true=>
   cases e';exact ⟨by rw [A0];exact h2 s hs,fun _ _=>trivial⟩
def sumI (f:Int->Int):List Int->Int
 | []=>0
 | x::r=>f x+sumI f r
theorem qBV {f g:Int->Int}:∀ {l:List Int},(∀ x ∈ l,f x=g x)->sumI f l=sumI g l
 | [],_=>rfl
 | x::r,h=>by
  show f x+sumI f r=g x+sumI g r;rw [h x A8,qBV fun y hy=>h y (B0 _ hy)]
theorem sumI_zero:∀ {l:List Int},sumI (fun _=>0) l=0
 | []=>rfl
 | x::r=>by show 0+sumI _ r=0;rw [sumI_zero];rfl
theorem qGA {f g:Int->Int}:∀ {l:List Int},sumI (fun x=>f x+g x) l=sumI f l+sumI g l
 | []=>rfl
 | x::r=>by
  show f x+g x+sumI _ r=f x+sumI f r+(g x+sumI g r);rw [qGA]
  lia
theorem qI6 {f:Int->Int}:∀ {l:List Int},sumI (fun x=>- f x) l = - sumI f l
 | []=>rfl
 | x::r=>by
  show - f x+sumI _ r = - (f x+sumI f r);rw [qI6]
  lia
theorem qLW {f:Int->Int->Int}:∀ {A B:List Int},sumI (fun x=>sumI (f x) B) A=sumI (fun y=>sumI (fun x=>f x y) A) B
 | [],B=>by rw [show sumI (fun x=>sumI (f x) B) []=0 from rfl];exact sumI_zero.symm
 | a::A,B=>by
  show sumI (f a) B+sumI (fun x=>sumI (f x) B) A=sumI (fun y=>f a y+sumI (fun x=>f x y) A) B;rw [qLW,qGA]
theorem qRW {a:Int->Int->Int} (h:∀ x y,a x y = - a y x) (C:List Int):sumI (fun x=>sumI (a x) C) C=0:=by
 have e1:sumI (fun x=>sumI (a x) C) C=sumI (fun y=>sumI (fun x=>a x y) C) C:=qLW;have e2:sumI (fun y=>sumI (fun x=>a x y) C) C=sumI (fun y=>- sumI (a y) C) C:=qBV fun y _=>by
  rw [<- qI6];exact qBV fun x _=>h x y
 rw [qI6] at e2
 lia
theorem qJV {f:Int->Int} (p:Int->Bool):∀ (l:List Int),sumI f l=sumI f (l.filter fun x=>!p x)+sumI f (l.filter p)
 | []=>rfl
 | x::r=>by
  have:=qJV (f:=f) p r;show f x+sumI f r=_;cases e:p x with
  | true=>
   rw [g8 (by rw [e];decide),h9 e]
   show _=_+(f x+_)
   lia
  | false=>
   rw [h9 (by rw [e];rfl),g8 (by rw [e];decide)]
   show _=(f x+_)+_
   lia
theorem qOV {f:Int->Int} {a:Int}:∀ {l:List Int},l.Nodup->a ∈ l->(∀ x ∈ l,x ≠ a->f x=0)->sumI f l=f a
 | [],_,h,_=>nomatch h
 | x::r,n,h,z=>by
  obtain ⟨n1,n2⟩:=J4.mp n;show f x+sumI f r=f a;rcases B8.mp h with e | e
  ·subst e;rw [qBV (g:=fun _=>0) fun y hy=>z y (B0 _ hy) fun w=>n1 (w ▸ hy),sumI_zero]
   lia
  ·rw [z x A8 fun w=>n1 (w ▸ e),qOV n2 e fun y hy=>z y (B0 _ hy)]
   lia
theorem qH3 (p:Int->Bool):∀ (l:List Int),sumI (fun y=>if p y=true then 1 else 0) l=((l.filter p).length:Int)
 | []=>rfl
 | x::r=>by
  show (if p x=true then (1:Int) else 0)+sumI _ r=_
  rw [qH3];cases e:p x with
  | true=>rw [h9 e,if_pos rfl,D8];lia
  | false=>rw [g8 (by rw [e];decide),if_neg (by decide)];lia
def ind (W:Wy) (x y:Int):Int:=if decide (y ∈ W x)=true then 1 else 0
theorem qTB {W:Wy} {x:Int} {K:List Int} (n:(W x).Nodup) (nK:K.Nodup) (h:∀ y ∈ W x,y ∈ K):sumI (ind W x) K=((W x).length:Int):=by
 have e:=qH3 (fun y=>decide (y ∈ W x)) K;have pm:(K.filter fun y=>decide (y ∈ W x)).Perm (W x):=(List.perm_ext_iff_of_nodup (nK.filter _) n).mpr fun y=>by
  rw [G3,decide_eq_true_eq];exact ⟨fun z=>z.2,fun z=>⟨h y z,z⟩⟩
 rw [pm.length_eq] at e;exact e
theorem qTY {W0 W:Wy} {K:List Int} (A:Anti W0) (F:Fl0 W0 W) (nK:K.Nodup) (k1:∀ x,∀ y ∈ W x,y ∈ K) (k0:∀ x,∀ y ∈ W0 x,y ∈ K) (p:Int->Bool) (cl:∀ x,p x=true->∀ y ∈ W x,p y=true) :
  sumI (fun x=>((W x).length:Int) - ((W0 x).length:Int)) (K.filter fun x=>!p x)=sumI (fun x=>sumI (fun y=>ind W0 y x) (K.filter p)) (K.filter fun x=>!p x):=by
 have anti:∀ x y,ind W x y - ind W0 x y = - (ind W y x - ind W0 y x):=fun x y=>by
  unfold ind;by_cases e1:y ∈ W0 x
  ·have e2:=A.no x y e1;have e3:=F.ex x y e1;by_cases e4:y ∈ W x
   ·have:=e3.mp e4;simp [e1,e2,e4,this]
   ·have:x ∈ W y:=J9 fun z=>e4 (e3.mpr z);simp [e1,e2,e4,this]
  ·by_cases e2:x ∈ W0 y
   ·have e3:=F.ex y x e2;by_cases e4:x ∈ W y
    ·have:=e3.mp e4;simp [e1,e2,e4,this]
    ·have:y ∈ W x:=J9 fun z=>e4 (e3.mpr z);simp [e1,e2,e4,this]
   ·have n1:y ∉ W x:=fun z=>(F.on x y z).elim e1 e2;have n2:x ∉ W y:=fun z=>(F.on y x z).elim e2 e1;simp [e1,e2,n1,n2]
 have e1:sumI (fun x=>((W x).length:Int) - ((W0 x).length:Int)) (K.filter fun x=>!p x)=sumI (fun x=>sumI (fun y=>ind W x y - ind W0 x y) (K.filter fun x=>!p x)+sumI (fun y=>ind W x y - ind W0 x y) (K.filter p)) (K.filter fun x=>!p x):=qBV fun x _=>by
  rw [<- qJV p K,<- qTB (F.nd x) nK (k1 x),<- qTB (A.nd x) nK (k0 x)];have:sumI (fun y=>ind W x y - ind W0 x y) K=sumI (fun y=>ind W x y + - ind W0 x y) K:=qBV fun y _=>by lia
  rw [this,qGA,qI6]
  lia
 rw [e1,qGA,qRW anti,B06];refine qBV fun x hx=>qBV fun y hy=>?_;have px:p x=false:=by
  have:=(G3.mp hx).2;cases e:p x with
  | true=>rw [e] at this;cases this
  | false=>rfl
 have py:=(G3.mp hy).2;rw [anti];have:ind W y x=0:=by
  unfold ind;rw [if_neg fun z=>by rw [cl y py x (of_decide_eq_true z)] at px;cases px]
 rw [this]
 lia
def outP (W0:Wy) (R:List Int):List Int->List (Int × Int)
 | []=>[]
 | x::r=>(R.filter fun y=>decide (x ∈ W0 y)).map (fun y=>(y,x))++outP W0 R r
theorem qPL {W0:Wy} {R:List Int}:∀ (C:List Int),((outP W0 R C).length:Int)=sumI (fun x=>sumI (fun y=>ind W0 y x) R) C
 | []=>rfl
 | x::r=>by
  show (((R.filter fun y=>decide (x ∈ W0 y)).map (fun y=>(y,x))++outP W0 R r).length:Int)=sumI (fun y=>ind W0 y x) R+_;rw [A5,A0,<- qPL r];have:=qH3 (fun y=>decide (x ∈ W0 y)) R;rw [show sumI (fun y=>ind W0 y x) R=sumI (fun y=>if decide (x ∈ W0 y)=true then 1 else 0) R from rfl,this]
  lia
theorem qSI {W0:Wy} {R:List Int} {y x:Int}:∀ {C:List Int},x ∈ C->y ∈ R->x ∈ W0 y->(y,x) ∈ outP W0 R C
 | [],h,_,_=>nomatch h
 | z::r,h,hy,hw=>by
  rcases B8.mp h with e | e
  ·subst e;exact G6 _ (D7.mpr ⟨y,G3.mpr ⟨hy,decide_eq_true hw⟩,rfl⟩)
  ·exact D5 _ (qSI e hy hw)
theorem qLD {stop:Int}:∀ (r:List Int) (s:Cm × List Int),(∀ z,vis s.1 z=true->vis (dfsF stop r s).1 z=true)/\(∀ y ∈ r,vis (dfsF stop r s).1 y=true)/\(∀ z ∈ s.2,z ∈ (dfsF stop r s).2)/\∀ z,vis (dfsF stop r s).1 z=true->vis s.1 z=true\/z ∈ (dfsF stop r s).2
 | [],s=>⟨fun _ h=>h,(fun _ h=>nomatch h),fun _ h=>h,fun _ h=>.inl h⟩
 | f::r,s=>by
  show (∀ z,vis s.1 z=true->vis (dfsF stop r (if vis s.1 f then s else (s.1++[(f,stop)],s.2++[f]))).1 z=true)/\(∀ y ∈ f::r,vis (dfsF stop r (if vis s.1 f then s else (s.1++[(f,stop)],s.2++[f]))).1 y=true)/\(∀ z ∈ s.2,z ∈ (dfsF stop r (if vis s.1 f then s else (s.1++[(f,stop)],s.2++[f]))).2)/\∀ z,vis (dfsF stop r (if vis s.1 f then s else (s.1++[(f,stop)],s.2++[f]))).1 z=true->vis s.1 z=true\/z ∈ (dfsF stop r (if vis s.1 f then s else (s.1++[(f,stop)],s.2++[f]))).2
  cases e:vis s.1 f with
  | true=>
   rw [if_pos rfl];obtain ⟨a,b,c,d⟩:=qLD (stop:=stop) r s;exact ⟨a,fun y hy=>(B8.mp hy).elim (fun z=>by rw [z];exact a f e) (b y),c,d⟩
  | false=>
   rw [if_neg (by decide)]
   obtain ⟨a,b,c,d⟩:=qLD (stop:=stop) r (s.1++[(f,stop)],s.2++[f]);refine ⟨fun z hz=>a z (qNF hz),fun y hy=>(B8.mp hy).elim (fun z=>by rw [z];exact a f qRN) (b y),fun z hz=>c z (G6 _ hz),fun z hz=>?_⟩
   rcases d z hz with h | h
   ·rcases vis_iff.mp h with k | ⟨i,q,k⟩
    ·exact .inl (vis_iff.mpr (.inl k))
    ·rcases y7 i s.1.length with l | l
     ·exact .inl (vis_iff.mpr (.inr ⟨i,q,by rw [C5 l] at k;exact k⟩))
     ·rw [C2 l] at k;have:z=f:=by
       have:=B6 k;have:=A6.mp this;exact congrArg Prod.fst this
      rw [this];exact .inr (c f (D5 _ A8))
   ·exact .inr h
theorem Dfs.closed {W:Wy} {s t:Cm × List Int} (h:Dfs W s t):(∀ x,vis s.1 x=true->x ∉ s.2->∀ y ∈ W x,vis s.1 y=true)->vis t.1 (-2)=false->∀ x,vis t.1 x=true->∀ y ∈ W x,vis t.1 y=true:=by
 induction h with
 | @stop s e=>
  intro I v x hx y hy;have due:s.2=[]:=by
   unfold dfsC at e;rw [v] at e;cases e2:s.2 with
   | nil=>rfl
   | cons a b=>rw [e2] at e;cases e
  exact I x hx (by rw [due];exact fun z=>nomatch z) y hy
 | @go cm due x t v d ih=>
  intro I;refine ih fun z hz nz y hy=>?_;obtain ⟨a,b,c,e⟩:=qLD (stop:=x) (W x) (cm,due);rcases e z hz with h | h
  ·by_cases zx:z=x
   ·exact b y (zx ▸ hy)
   ·exact a y (I z h (fun k=>(B7.mp k).elim (fun k=>nz (c z k)) fun k=>zx (A6.mp k)) y hy)
  ·exact absurd h nz
theorem SW.last {W W':Wy} (h:SW W W'):WB W' []:=by
 induction h with
 | stop b=>exact b
 | go _ _ _ ih=>exact ih
theorem WB.closed {W:Wy} (h:WB W []):∃ p:Int->Bool,p (-1)=true/\p (-2)=false/\∀ x,p x=true->∀ y ∈ W x,p y=true:=by
 obtain ⟨cm,due,d,⟨v,_⟩ | ⟨_,b⟩⟩:=h
 ·refine ⟨vis cm,vis_iff.mpr (.inl rfl),v,d.closed (fun x hx nx=>?_) v⟩;rcases vis_iff.mp hx with k | ⟨i,q,k⟩
  ·exact absurd (by rw [k];exact A8) nx
  ·cases k
 ·cases b
def Row2 (Ae:List (List Int)):List Int->Prop
 | a::b::r=>a ∈ nd Ae b/\Row2 Ae (b::r)
 | _=>True
structure IsS (Ae:List (List Int)) (path t:List Int):Prop where
 free:∀ x ∈ t,qAU Ae path x=true
 row:Row2 Ae t
 first:∃ a,t.head?=some a/\nd Ae a=[]
 last:∃ z,t.getLast?=some z/\qBU Ae path z=true
def wkE (e:Int × Int):Int:=if e.2 = -2 then e.1 / 2 else e.2 / 2
section
variable {Ae:List (List Int)} {path:List Int} {p:Int->Bool}
def Crs (Ae:List (List Int)) (path:List Int) (p:Int->Bool) (t:List Int) (e:Int × Int):Prop:=e.2 ∈ W0 Ae path e.1/\p e.1=true/\p e.2=false/\wkE e ∈ t
theorem qQ0 (g:p (-2)=false):∀ (t:List Int) (a:Int),(∀ x ∈ a::t,qAU Ae path x=true)->Row2 Ae (a::t)->(∃ z,(a::t).getLast?=some z/\qBU Ae path z=true)->p (2 * a)=true->∃ e,Crs Ae path p (a::t) e
 | t,a,fr,rw_,la,h=>by
  have fa:=fr a A8;have a0:0<=a:=(free_in.mp fa).1.1;cases h1:p (2 * a+1) with
  | false=>
   refine ⟨(2 * a,2 * a+1),?_,h,h1,?_⟩
   ·show 2 * a+1 ∈ W0 Ae path (2 * a);rw [w0_e a0,if_pos fa];exact A8
   ·unfold wkE;dsimp only;rw [if_neg (by lia),show (2 * a+1) / 2=a by lia]
    exact A8
  | true=>
   cases t with
   | nil=>
    obtain ⟨z,e1,e2⟩:=la;cases e1;refine ⟨(2 * a+1,-2),(w0_o a0).mpr ⟨fa,.inl ⟨rfl,e2⟩⟩,h1,g,?_⟩;unfold wkE;dsimp only;rw [if_pos rfl,show (2 * a+1) / 2=a by lia]
    exact A8
   | cons b t=>
    have fb:=fr b (B0 _ A8);have b0:0<=b:=(free_in.mp fb).1.1;cases h2:p (2 * b) with
    | false=>
     refine ⟨(2 * a+1,2 * b),(w0_o a0).mpr ⟨fa,.inr ⟨b,rfl,fb,rw_.1⟩⟩,h1,h2,?_⟩;unfold wkE;dsimp only;rw [if_neg (by lia),show 2 * b / 2=b by lia]
     exact B0 _ A8
    | true=>
     obtain ⟨e,c1,c2,c3,c4⟩:=qQ0 g t b (fun x hx=>fr x (B0 _ hx)) rw_.2 (by rw [X4] at la;exact la) h2
     exact ⟨e,c1,c2,c3,B0 _ c4⟩
theorem IsS.crs (s:p (-1)=true) (g:p (-2)=false) {t:List Int} (h:IsS Ae path t):∃ e,Crs Ae path p t e:=by
 obtain ⟨a,e1,e2⟩:=h.first;cases t with
 | nil=>cases e1
 | cons b t=>
  cases e1;have fa:=h.free a A8;have a0:0<=a:=(free_in.mp fa).1.1;cases h2:p (2 * a) with
  | true=>exact qQ0 g t a h.free h.row h.last h2
  | false=>
   refine ⟨(-1,2 * a),w0_s.mpr ⟨a,rfl,fa,e2⟩,s,h2,?_⟩;unfold wkE;dsimp only;rw [if_neg (by lia),show 2 * a / 2=a by lia]
   exact A8
theorem qTZ:∀ (T:List (List Int)),(∀ t ∈ T,∃ e,Crs Ae path p t e)->T.Pairwise (fun a b=>∀ x ∈ a,x ∉ b)->∃ es:List (Int × Int),es.length=T.length/\es.Nodup/\∀ e ∈ es,∃ t ∈ T,Crs Ae path p t e
 | [],_,_=>⟨[],rfl,by simp,fun _ h=>nomatch h⟩
 | t::T,h,d=>by
  obtain ⟨d1,d2⟩:=G4.mp d;obtain ⟨es,l,n,k⟩:=qTZ T (fun u hu=>h u (B0 _ hu)) d2;obtain ⟨e,c⟩:=h t A8;refine ⟨e::es,by rw [D8,D8,l],J4.mpr ⟨fun z=>?_,n⟩,fun f hf=>?_⟩
  ·obtain ⟨u,hu,c'⟩:=k e z;exact d1 u hu _ c.2.2.2 c'.2.2.2
  ·rcases B8.mp hf with z | z
   ·subst z;exact ⟨t,A8,c⟩
   ·obtain ⟨u,hu,c'⟩:=k f z;exact ⟨u,B0 _ hu,c'⟩
end
theorem SidesOf.most {Ae:List (List Int)} {path:List Int} {ts:List (List Int)} (wf:WFn Ae) (h:SidesOf Ae path ts) {T:List (List Int)} (hs:∀ t ∈ T,IsS Ae path t) (ap:T.Pairwise fun a b=>∀ x ∈ a,x ∉ b):T.length<=ts.length:=by
 obtain ⟨W,ss,sw,F,P,pm,_⟩:=h;obtain ⟨p,s,g,cl⟩:=sw.last.closed;obtain ⟨es,l,n,k⟩:=qTZ (p:=p) T (fun t ht=>(hs t ht).crs s g) ap;obtain ⟨K,eK⟩:∃ K,K=qAC (-2) (2 * (Ae.length:Int)):=⟨_,rfl⟩;have nK:K.Nodup:=by rw [eK];exact qGC _ _
 have k1:∀ x,∀ y ∈ W x,y ∈ K:=fun x y hy=>by rw [eK];exact qPS (F.fl.dom hy)
 have k0:∀ x,∀ y ∈ W0 Ae path x,y ∈ K:=fun x y hy=>by rw [eK];exact qPS (qJT hy).2
 have ct:=qTY (qRM wf) F.fl nK k1 k0 p cl;have g2:(-2:Int) ∈ K.filter fun x=>!p x:=G3.mpr ⟨by rw [eK,mem_rangeI];lia,by rw [g];rfl⟩
 rw [qOV (nK.filter _) g2 fun x hx ne=>by
  have:x ≠ -1:=fun z=>by
   have:=(G3.mp hx).2;rw [z,s] at this;cases this
  rw [F.len x this ne]
  lia,<- qPL] at ct
 have w2:W0 Ae path (-2)=[]:=fw_g _;rw [w2] at ct;have sub:∀ e ∈ es,e ∈ outP (W0 Ae path) (K.filter p) (K.filter fun x=>!p x):=fun e he=>by
  obtain ⟨t,_,c1,c2,c3,_⟩:=k e he;refine qSI (G3.mpr ⟨k0 _ _ c1,by rw [c3];rfl⟩) (G3.mpr ⟨?_,c2⟩) c1
  rw [eK];exact qPS (qJT c1).1
 have le:=D3 n sub;have l1:=C6 P;have l2:=pm.length_eq;simp at ct
 lia
def mskN (zs:List Int):Nat:=(zs.map fun z=>2 ^ z.toNat).sum
def cntN (n b:Nat):Nat:=((G5 n).map fun k=>b / 2 ^ k % 2).sum
def clrb (b k:Nat):Nat:=b - 2 ^ k * (b / 2 ^ k % 2)
def nxt (Ae:List (List Int)) (k:Nat):Nat:=mskN ((Ae[k]?).getD [])
def can (Ae:List (List Int)) (Aa:Int) (b k:Nat):Prop:=(cntN Ae.length b:Int)<Aa/\k<Ae.length/\b &&& nxt Ae k=nxt Ae k
inductive Rm (Ae:List (List Int)) (Aa:Int):Nat->Nat->Prop
 | zero:Rm Ae Aa 0 0
 | clr {m b k:Nat}:Rm Ae Aa m b->k<Ae.length->Rm Ae Aa m (clrb b k)
 | do_ {m b k:Nat}:Rm Ae Aa m b->can Ae Aa b k->Rm Ae Aa (m+1) (b ||| 2 ^ k)
def Mn (Ae:List (List Int)) (Aa:Int) (m b:Nat):Prop:=Rm Ae Aa m b/\∀ m',m'<m->¬ Rm Ae Aa m' b
structure FdC (Ae:List (List Int)) (Aa:Int) (many:Nat) (ks:List Nat) (f:Nat->Nat):Prop where
 nd:ks.Nodup
 snd:∀ b ∈ ks,f b<=many/\Mn Ae Aa (f b) b
 zero:0 ∈ ks
 full:∀ m,m<many->∀ b,Rm Ae Aa m b->b ∈ ks
section
variable {Ae:List (List Int)} {Aa:Int} {many:Nat} {ks cl ly:List Nat} {f:Nat->Nat} {at_ wk:Nat}
structure A1 (Ae:List (List Int)) (Aa:Int) (many:Nat) (ks:List Nat) (f:Nat->Nat) (cl:List Nat) (at_ wk:Nat):Prop where
 fd:FdC Ae Aa many ks f
 dos:∀ m b k,m+1=many->Rm Ae Aa m b->can Ae Aa b k->b ||| 2 ^ k ∈ ks
 clm:∀ b,b ∈ cl ↔ b ∈ ks/\f b=many
 nd:cl.Nodup
 done:∀ i b,cl[i]?=some b->i<at_->∀ k,k<Ae.length->clrb b k ∈ ks
 dk:∀ b,cl[at_]?=some b->∀ k,k<wk->clrb b k ∈ ks
structure A2 (Ae:List (List Int)) (Aa:Int) (many:Nat) (ks:List Nat) (f:Nat->Nat) (cl ly:List Nat) (at_ wk:Nat):Prop where
 fd:FdC Ae Aa (many+1) ks f
 clm:∀ b,b ∈ cl ↔ b ∈ ks/\f b=many
 lym:∀ b,b ∈ ly ↔ b ∈ ks/\f b=many+1
 nd:ly.Nodup
 done:∀ i b,cl[i]?=some b->i<at_->∀ k,can Ae Aa b k->b ||| 2 ^ k ∈ ks
 dk:∀ b,cl[at_]?=some b->∀ k,k<wk->can Ae Aa b k->b ||| 2 ^ k ∈ ks
structure Come (Ae:List (List Int)) (Aa:Int) (ks:List Nat) (f:Nat->Nat):Prop where
 nd:ks.Nodup
 snd:∀ b ∈ ks,Mn Ae Aa (f b) b
 all:∀ m b,Rm Ae Aa m b->b ∈ ks
end
theorem qKI (a b:Nat):l7 (a:Int) (b:Int)=((a &&& b:Nat):Int):=by
 unfold l7;rw [decide_eq_true (A89 a),decide_eq_true (A89 b)]
 rfl
theorem qN5 (a b:Nat):A79 (a:Int) (b:Int)=((a ||| b:Nat):Int):=by
 have h1:∀ c:Nat,V2 (c:Int)=A27 c:=fun c=>by unfold V2;lia
 have h2:∀ c:Nat,decide (0<=A27 c)=false:=fun c=>decide_eq_false (by lia)
 have h3:∀ c:Nat,V2 (A27 c)=(c:Int):=fun c=>by unfold V2;lia
 unfold A79 l7;rw [h1,h1,h2,h2];show V2 (V2 (((V2 (A27 a)).toNat ||| (V2 (A27 b)).toNat:Nat)))=_;rw [h3,h3,h1,h3]
 rfl
theorem qSS {k:Nat}:∀ {st:List Int},(∀ x ∈ st,(k:Int)<=x)->∃ a,mskN st=2 ^ k * a
 | [],_=>⟨0,rfl⟩
 | z::st,h=>by
  obtain ⟨a,ha⟩:=qSS (st:=st) fun x hx=>h x (B0 _ hx);have hz:=h z (by simp)
  refine ⟨2 ^ (z.toNat - k)+a,?_⟩;show 2 ^ z.toNat+mskN st=_;rw [ha,k9,<- Nat.pow_add,show k+(z.toNat - k)=z.toNat by lia]
theorem qG0:∀ {st:List Int},st.Pairwise (·<·)->(∀ x ∈ st,0<=x)->∀ j:Nat,(mskN st).testBit j=decide ((j:Int) ∈ st)
 | [],_,_,j=>by show (0:Nat).testBit j=_;simp
 | z::st,up,nn,j=>by
  have up':=G4.mp up;have hz:=nn z (by simp)
  obtain ⟨a,ha⟩:=qSS (k:=z.toNat+1) (st:=st) fun x hx=>by have:=up'.1 x hx;lia
  have ih:=qG0 up'.2 (fun x hx=>nn x (B0 _ hx)) j;have e:mskN (z::st)=2 ^ (z.toNat+1) * a+2 ^ z.toNat:=by show 2 ^ z.toNat+mskN st=_;rw [ha,d3]
  rw [e,Nat.testBit_two_pow_mul_add a (Nat.pow_lt_pow_right (by decide) (by lia)) j]
  by_cases c:j<z.toNat+1
  ·rw [if_pos c,Nat.testBit_two_pow];refine decide_eq_decide.mpr ⟨fun h=>?_,fun h=>?_⟩
   ·rw [B8];left;lia
   ·rcases B8.mp h with h | h
    ·lia
    ·have:=up'.1 _ h;lia
  ·rw [if_neg c];rw [ha,Nat.testBit_two_pow_mul] at ih;have:decide (j >= z.toNat+1)=true:=decide_eq_true (by lia)
   rw [this,d9] at ih;rw [ih];refine decide_eq_decide.mpr ⟨fun h=>B0 _ h,fun h=>?_⟩;rcases B8.mp h with h | h
   ·lia
   ·exact h
def insL:List Int->Int->List Int
 | [],k=>[k]
 | x::r,k=>if k<x then k::x::r else x::insL r k
def behL (st:List Int) (m:Mv):List Int:=if m.1=J7 "do" then insL st m.2 else st.filter fun x=>decide (x ≠ m.2)
section
variable {Ae:List (List Int)} {Aa:Int}
inductive Pt (Ae:List (List Int)) (Aa:Int):Nat->List Int->Prop
 | zero:Pt Ae Aa 0 []
 | step {t:Nat} {st:List Int} {m:Mv}:Pt Ae Aa t st->m ∈ qZ2 Ae st Aa->Pt Ae Aa (t+1) (behL st m)
def Mt (Ae:List (List Int)) (Aa:Int) (t:Nat) (st:List Int):Prop:=Pt Ae Aa t st/\∀ u,u<t->¬ Pt Ae Aa u st
structure BF (Ae:List (List Int)) (Aa:Int) (t:Nat) (ks due ly:List (List Int)) (f:List Int->Nat) (i k:Nat):Prop where
 nd:ks.Nodup
 snd:∀ s ∈ ks,∃ u,u<=t+1/\Mt Ae Aa u s/\2 * f s=u+s.length
 full:∀ u s,u<=t->Pt Ae Aa u s->s ∈ ks
 duem:∀ s,s ∈ due ↔ Mt Ae Aa t s
 lym:∀ s,s ∈ ly ↔ s ∈ ks/\Mt Ae Aa (t+1) s
 done:∀ j s,due[j]?=some s->j<i->∀ m ∈ qZ2 Ae s Aa,behL s m ∈ ks
 dk:∀ s,due[i]?=some s->∀ m ∈ (qZ2 Ae s Aa).take k,behL s m ∈ ks
section
variable {t:Nat} {ks due ly:List (List Int)} {f:List Int->Nat} {i k:Nat}
structure Rch (Ae:List (List Int)) (Aa:Int) (ks:List (List Int)) (f:List Int->Nat):Prop where
 nd:ks.Nodup
 snd:∀ s ∈ ks,∃ u,Mt Ae Aa u s/\2 * f s=u+s.length
 all:∀ u s,Pt Ae Aa u s->s ∈ ks
end
end
section
variable {Ae:List (List Int)}
end
theorem qNP {Ae:List (List Int)}:∀ {s:List Int},(∀ (i:Nat) (a b:Int),s[i]?=some a->s[i+1]?=some b->a ∈ nd Ae b)->Row2 Ae s
 | [],_=>trivial
 | [_],_=>trivial
 | a::b::r,h=>⟨h 0 a b rfl rfl,qNP fun i x y e1 e2=>h (i+1) x y (by rw [X6];exact e1) (by rw [X6];exact e2)⟩
theorem qFF:∀ {T:List (List Int)},T.flatten.Nodup->T.Pairwise fun a b=>∀ x ∈ a,x ∉ b
 | [],_=>.nil
 | t::T,h=>by
  rw [L9,R8] at h;refine G4.mpr ⟨fun u hu x hx hx2=>?_,qFF h.2.1⟩;exact h.2.2 x hx x (U0.mpr ⟨u,hu,hx2⟩) rfl
section
variable {Ae:List (List Int)} {path:List Int} {ts:List (List Int)}
theorem SidesOf.isS (wf:WFn Ae) (h:SidesOf Ae path ts):(∀ t ∈ ts,IsS Ae path t)/\ts.flatten.Nodup/\(∀ t ∈ ts,t.Pairwise (·<·)):=by
 obtain ⟨W,ss,_,F,P,pm,_⟩:=h;obtain ⟨k1,k2⟩:=qJU F wf P (F.fl.nd _) fun _ h=>h;refine ⟨fun s hs=>?_,(pm.flatten.nodup_iff).mpr k1,fun s hs=>?_⟩
 ·obtain ⟨w,_,e,I,gl⟩:=k2 s (pm.mem_iff.mp hs);obtain ⟨t,r,es,en⟩:=I.hd;exact ⟨fun x hx=>(I.fr x hx).1,qNP I.co,⟨t,by rw [es];rfl,en⟩,⟨w,gl,e⟩⟩
 ·obtain ⟨w,_,e,I,gl⟩:=k2 s (pm.mem_iff.mp hs);exact I.up
structure Tl (Ae:List (List Int)) (path used:List Int) (x:Int) (r:List Int):Prop where
 free:∀ z ∈ x::r,qAU Ae path z=true/\z ∉ used
 row:Row2 Ae (x::r)
 last:∃ z,(x::r).getLast?=some z/\qBU Ae path z=true
theorem Tl.down {used:List Int} {x y:Int} {r:List Int} (h:Tl Ae path used x r) (f:qAU Ae path y=true) (u:y ∉ used) (n:y ∈ nd Ae x):Tl Ae path used y (x::r):=
 ⟨fun z hz=>(B8.mp hz).elim (fun e=>by rw [e];exact ⟨f,u⟩) (h.free z),⟨n,h.row⟩,by rw [X4];exact h.last⟩
theorem Tl.needs (wf:WFn Ae) (h:SidesOf Ae path ts) {x:Int} {r:List Int} (k:Tl Ae path ts.flatten x r):nd Ae x ≠ []:=fun e=>by
 obtain ⟨a,b,_⟩:=h.isS wf;have:=h.most wf (T:=(x::r)::ts) (fun t ht=>(B8.mp ht).elim (fun z=>by rw [z];exact ⟨fun y hy=>(k.free y hy).1,k.row,⟨x,rfl,e⟩,k.last⟩) (a t)) (G4.mpr ⟨fun u hu y hy hy2=>(k.free y hy).2 (U0.mpr ⟨u,hu,hy2⟩),qFF b⟩)
 rw [D8] at this
 lia
end
def uni:List (List Int)->Nat
 | []=>0
 | s::r=>mskN s ||| uni r
theorem qKO:∀ (T:List (List Int)) (s:List Int),uni (T++[s])=uni T ||| mskN s
 | [],s=>by show mskN s ||| 0=0 ||| mskN s;simp
 | t::T,s=>by show mskN t ||| uni (T++[s])=(mskN t ||| uni T) ||| mskN s;rw [qKO T s,Nat.or_assoc]
def Apt (T:List (List Int)):Prop:=T.Pairwise fun a b=>∀ x ∈ a,x ∉ b
def Ups (T:List (List Int)):Prop:=∀ s ∈ T,s ≠ []/\s.Pairwise (·<·)/\∀ x ∈ s,0<=x
theorem qWI {s t:List Int} (hs:s.Pairwise (·<·)) (ps:∀ x ∈ s,0<=x) (ht:t.Pairwise (·<·)) (pt:∀ x ∈ t,0<=x):mskN s &&& mskN t=0 ↔ ∀ x ∈ s,x ∉ t:=by
 constructor
 ·intro h x hx hx2;have e:=congrArg (fun b=>Nat.testBit b x.toNat) h;have x0:=ps x hx;simp only [A52,qG0 hs ps,qG0 ht pt,A35] at e;rw [show ((x.toNat:Nat):Int)=x by lia,decide_eq_true hx,decide_eq_true hx2] at e
  cases e
 ·intro h;refine A60 fun j=>?_;rw [A52,qG0 hs ps,qG0 ht pt,A35];by_cases e:(j:Int) ∈ s
  ·rw [decide_eq_false (h _ e),U9]
  ·rw [decide_eq_false e,X7]
theorem qNH {s:List Int} (hs:s.Pairwise (·<·)) (ps:∀ x ∈ s,0<=x):∀ {T:List (List Int)},Ups T->(uni T &&& mskN s=0 ↔ ∀ t ∈ T,∀ x ∈ t,x ∉ s)
 | [],_=>⟨fun _ t ht=>(nomatch ht),fun _=>by show 0 &&& mskN s=0;simp⟩
 | t::T,u=>by
  have ut:=u t A8;have ih:=qNH hs ps (T:=T) fun x hx=>u x (B0 _ hx);have a:=qWI ut.2.1 ut.2.2 hs ps;show (mskN t ||| uni T) &&& mskN s=0 ↔ _;rw [Nat.and_or_distrib_right,Nat.or_eq_zero_iff,a,ih];exact ⟨fun h v hv=>(B8.mp hv).elim (fun e=>by rw [e];exact h.1) (h.2 v),fun h=>⟨h t A8,fun v hv=>h v (B0 _ hv)⟩⟩
structure DpS (L:List (List Int)) (M:Nat->Option Nat):Prop where
 ok:∀ b v,M b=some v->∃ T,T.Sublist L/\Apt T/\uni T=b/\T.length=v
 all:∀ T,T.Sublist L->Apt T->∃ v,M (uni T)=some v/\T.length<=v
theorem DpS.start:DpS [] fun b=>if b=0 then some 0 else none:=by
 refine ⟨fun b v e=>?_,fun T h _=>?_⟩
 ·by_cases z:b=0
  ·rw [if_pos z] at e;cases e;exact ⟨[],.slnil,.nil,z.symm,rfl⟩
  ·rw [if_neg z] at e;cases e
 ·rw [List.sublist_nil.mp h];exact ⟨0,if_pos rfl,A9 _⟩
structure DpI (M:Nat->Option Nat) (β:Nat) (ks:List Nat) (N:Nat->Option Nat):Prop where
 new:∀ u ∈ ks,∀ v,M u=some v->u &&& β=0->∃ v',N (u ||| β)=some v'/\v+1<=v'
 old:∀ b v,M b=some v->∃ v',N b=some v'/\v<=v'
 src:∀ b v',N b=some v'->M b=some v'\/∃ u v,M u=some v/\u &&& β=0/\b=u ||| β/\v'=v+1
theorem DpI.start {M:Nat->Option Nat} {β:Nat}:DpI M β [] M:=⟨fun _ h=>(nomatch h),fun b v e=>⟨v,e,A9 _⟩,fun _ _ e=>.inl e⟩
theorem qaI {u β:Nat}:(u ||| β) &&& β=β:=by
 refine A60 fun j=>?_;rw [A52,Nat.testBit_or];cases u.testBit j <;> cases β.testBit j <;> rfl
theorem DpI.same {M N:Nat->Option Nat} {β u v:Nat} {ks:List Nat} (h:DpI M β ks N) (b0:β ≠ 0) (e:M u=some v) (z:u &&& β=0):N u=some v:=by
 obtain ⟨v',e',l⟩:=h.old u v e;rcases h.src u v' e' with k | ⟨w,_,_,_,k,_⟩
 ·rw [e] at k;cases k;exact e'
 ·rw [k,qaI] at z;exact absurd z b0
theorem DpI.skip {M N:Nat->Option Nat} {β u:Nat} {ks:List Nat} (h:DpI M β ks N) (z:u &&& β ≠ 0):DpI M β (ks++[u]) N:=
 ⟨fun w hw v e c=>(B7.mp hw).elim (fun k=>h.new w k v e c) fun k=>absurd (by rw [<- A6.mp k];exact c) z,h.old,h.src⟩
theorem DpI.next {M N:Nat->Option Nat} {β u v:Nat} {ks:List Nat} (h:DpI M β ks N) (e:M u=some v) (z:u &&& β=0):DpI M β (ks++[u]) fun b=>if b=u ||| β then some (max ((N b).getD 0) (v+1)) else N b:=by
 refine ⟨fun w hw v2 e2 c=>?_,fun b v2 e2=>?_,fun b v2 e2=>?_⟩
 ·rcases B7.mp hw with k | k
  ·obtain ⟨v3,e3,l3⟩:=h.new w k v2 e2 c;by_cases q:w ||| β=u ||| β
   ·refine ⟨_,if_pos q,?_⟩;rw [e3];show v2+1<=max v3 (v+1)
    lia
   ·exact ⟨v3,by rw [if_neg q];exact e3,l3⟩
  ·have:=A6.mp k;subst this;rw [e] at e2;cases e2;exact ⟨_,if_pos rfl,Nat.le_max_right _ _⟩
 ·obtain ⟨v3,e3,l3⟩:=h.old b v2 e2;by_cases q:b=u ||| β
  ·refine ⟨_,if_pos q,?_⟩;rw [e3];show v2<=max v3 (v+1)
   lia
  ·exact ⟨v3,by rw [if_neg q];exact e3,l3⟩
 ·by_cases q:b=u ||| β
  ·rw [if_pos q] at e2;cases e3:N b with
   | none=>
    rw [e3] at e2;have:v2=v+1:=by
     have:max 0 (v+1)=v2:=by injection e2
     lia
    exact .inr ⟨u,v,e,z,q,this⟩
   | some v3=>
    rw [e3] at e2;have m:max v3 (v+1)=v2:=by injection e2
    by_cases c:v+1<=v3
    ·have:v2=v3:=by lia
     rw [this];exact h.src b v3 e3
    ·exact .inr ⟨u,v,e,z,q,by lia⟩
  ·rw [if_neg q] at e2;exact h.src b v2 e2
theorem DpS.next {L:List (List Int)} {M N:Nat->Option Nat} {s:List Int} {ks:List Nat} (h:DpS L M) (uL:Ups L) (us:s ≠ []/\s.Pairwise (·<·)/\∀ x ∈ s,0<=x) (k:DpI M (mskN s) ks N) (all:∀ b v,M b=some v->b ∈ ks):DpS (L++[s]) N:=by
 have up:∀ {T:List (List Int)},T.Sublist L->Ups T:=fun z x hx=>uL x (z.subset hx);refine ⟨fun b v e=>?_,fun T hT aT=>?_⟩
 ·rcases k.src b v e with z | ⟨u,v0,e0,c,eb,ev⟩
  ·obtain ⟨T,t1,t2,t3,t4⟩:=h.ok b v z;exact ⟨T,t1.trans (List.sublist_append_left _ _),t2,t3,t4⟩
  ·obtain ⟨T,t1,t2,t3,t4⟩:=h.ok u v0 e0;refine ⟨T++[s],t1.append (List.Sublist.refl _),?_,by rw [qKO,t3,eb],by rw [A5,t4,ev];rfl⟩
   rw [<- t3] at c;have:=(qNH us.2.1 us.2.2 (up t1)).mp c;refine L6.mpr ⟨t2,f9 _ _,fun a ha b hb=>?_⟩;rw [A6.mp hb];exact this a ha
 ·obtain ⟨T1,T2,e,h1,h2⟩:=List.sublist_append_iff.mp hT;subst e;obtain ⟨a1,a2,a3⟩:=L6.mp aT;obtain ⟨v,e1,l1⟩:=h.all T1 h1 a1;cases T2 with
  | nil=>
   obtain ⟨v',e2,l2⟩:=k.old _ v e1;rw [J8];exact ⟨v',e2,by lia⟩
  | cons t r=>
   have hr:r=[]:=by
    have:=h2.length_le;simp at this;cases r with | nil=>rfl | cons _ _=>simp at this
   subst hr;have ht:t=s:=A6.mp (h2.subset A8);subst ht;obtain ⟨v',e2,l2⟩:=k.new (uni T1) (all _ v e1) v e1 ((qNH us.2.1 us.2.2 (up h1)).mpr fun a ha x hx=>a3 a ha t A8 x hx);exact ⟨v',by rw [qKO];exact e2,by rw [A5];show _+1<=_;lia⟩
theorem qIQ:∀ {L ts:List (List Int)},ts.Nodup->(∀ t ∈ ts,t ∈ L)->∃ T:List (List Int),T.Sublist L/\T.Perm ts
 | [],ts,_,h=>by
  have:ts=[]:=by
   cases ts with
   | nil=>rfl
   | cons t r=>exact nomatch h t A8
  subst this;exact ⟨[],.slnil,.refl _⟩
 | x::L,ts,n,h=>by
  by_cases e:x ∈ ts
  ·obtain ⟨T,a,b⟩:=qIQ (L:=L) (ts:=ts.erase x) (n.erase x) fun t ht=>by
    obtain ⟨z1,z2⟩:=(n.mem_erase_iff).mp ht;exact (B8.mp (h t z2)).elim (fun w=>absurd w z1) id
   exact ⟨x::T,a.cons₂ x,(b.cons x).trans (List.perm_cons_erase e).symm⟩
  ·obtain ⟨T,a,b⟩:=qIQ (L:=L) (ts:=ts) n fun t ht=>(B8.mp (h t ht)).elim (fun w=>absurd (w ▸ ht) e) id;exact ⟨T,a.cons x,b⟩
theorem DpS.most {Ae:List (List Int)} {path:List Int} {ts L:List (List Int)} {M:Nat->Option Nat} (wf:WFn Ae) (S:SidesOf Ae path ts) (h:DpS L M) (hL:∀ t ∈ L,IsS Ae path t) (al:∀ t,IsS Ae path t->t ∈ L):(∀ b v,M b=some v->v<=ts.length)/\∃ b,M b=some ts.length:=by
 obtain ⟨i1,i2,i3⟩:=S.isS wf;have le:∀ b v,M b=some v->v<=ts.length:=fun b v e=>by
  obtain ⟨T,t1,t2,_,t4⟩:=h.ok b v e;rw [<- t4];exact S.most wf (fun t ht=>hL t (t1.subset ht)) t2
 refine ⟨le,?_⟩;have ap:=qFF i2;have nd:ts.Nodup:=by
  have:∀ {l:List (List Int)},l.Pairwise (fun a b=>∀ x ∈ a,x ∉ b)->(∀ t ∈ l,t ≠ [])->l.Nodup:=fun {l} p ne=>by
   induction l with
   | nil=>exact .nil
   | cons a l ih=>
    obtain ⟨p1,p2⟩:=G4.mp p;refine J4.mpr ⟨fun z=>?_,ih p2 fun t ht=>ne t (B0 _ ht)⟩;cases e:a with
    | nil=>exact ne a A8 e
    | cons y r=>exact p1 a z y (by rw [e];exact A8) (by rw [e];exact A8)
  exact this ap fun t ht e=>by
   obtain ⟨a,ea,_⟩:=(i1 t ht).first;rw [e] at ea;cases ea
 obtain ⟨T,s1,s2⟩:=qIQ nd fun t ht=>al t (i1 t ht);have aT:Apt T:=by
  have sy:∀ {a b:List Int},(∀ x ∈ a,x ∉ b)->∀ x ∈ b,x ∉ a:=fun h x hx hx2=>h x hx2 hx;exact (s2.pairwise_iff (R:=fun a b:List Int=>∀ x ∈ a,x ∉ b) (fun h=>sy h)).mpr ap
 obtain ⟨v,e,l⟩:=h.all T s1 aT;have:=le _ _ e;rw [s2.length_eq] at l;exact ⟨_,by rw [e,show v=ts.length by lia]⟩
structure PlF (Ae:List (List Int)) (path used pile met:List Int):Prop where
 tl:∀ x ∈ pile,∃ r,Tl Ae path used x r
 due:∀ (i:Nat) (y:Int),pile[i]?=some y->y ∈ met->∀ n ∈ nd Ae y,n ∉ used->n ∉ path->n ∈ met\/∃ j,i<j/\pile[j]?=some n
 nd:met.Nodup
 fr:∀ x ∈ met,0<=x/\x<(Ae.length:Int)
section
variable {Ae:List (List Int)} {path used:List Int}
def newF (Ae:List (List Int)) (path used met:List Int) (x:Int):List Int:=(nd Ae x).filter fun n=>decide (n ∉ used) && decide (n ∉ path) && decide (n ∉ met)
theorem mem_newF {met:List Int} {x n:Int}:n ∈ newF Ae path used met x ↔ n ∈ nd Ae x/\n ∉ used/\n ∉ path/\n ∉ met:=by
 unfold newF;rw [G3,C0,C0,decide_eq_true_eq,decide_eq_true_eq,decide_eq_true_eq,and_assoc]
theorem PlF.start {pile:List Int} (h:∀ x ∈ pile,qAU Ae path x=true/\qBU Ae path x=true/\x ∉ used):PlF Ae path used pile []:=
 ⟨fun x hx=>⟨[],fun z hz=>by rw [A6.mp hz];exact ⟨(h x hx).1,(h x hx).2.2⟩,trivial,⟨x,rfl,(h x hx).2.1⟩⟩,fun _ _ _ hm=>(nomatch hm),.nil,fun _ hm=>(nomatch hm)⟩
theorem PlF.range {pile met:List Int} (h:PlF Ae path used pile met) {x:Int} (hx:x ∈ pile):0<=x/\x<(Ae.length:Int):=by
 obtain ⟨r,t⟩:=h.tl x hx;exact (free_in.mp (t.free x A8).1).1
theorem PlF.again {p met:List Int} {x:Int} (h:PlF Ae path used (p++[x]) met) (hx:x ∈ met):newF Ae path used met x=[]/\PlF Ae path used p met:=by
 have top:(p++[x])[p.length]?=some x:=by rw [C2 (A9 _),R0];rfl
 have lt:∀ {j:Nat} {y:Int},(p++[x])[j]?=some y->j<p.length+1:=fun {j y} e=>by
  have:=(A3.mp e).1;rw [A5] at this;exact this
 refine ⟨List.eq_nil_iff_forall_not_mem.mpr fun n hn=>?_,fun z hz=>h.tl z (G6 _ hz),fun i y e hy n hn u1 u2=>?_,h.nd,h.fr⟩
 ·obtain ⟨a,b,c,d⟩:=mem_newF.mp hn;rcases h.due _ x top hx n a b c with k | ⟨j,l,k⟩
  ·exact d k
  ·have:=lt k
   lia
 ·have hi:=(A3.mp e).1;rcases h.due i y (by rw [C5 hi];exact e) hy n hn u1 u2 with k | ⟨j,l,k⟩
  ·exact .inl k
  ·rcases y7 j p.length with c | c
   ·exact .inr ⟨j,l,by rw [C5 c] at k;exact k⟩
   ·have:=lt k;have ej:j=p.length:=by lia
    rw [ej,top] at k;cases k;exact .inl hx
theorem PlF.next (wf:WFn Ae) {p met:List Int} {x:Int} (h:PlF Ae path used (p++[x]) met) (hx:x ∉ met):PlF Ae path used (p++newF Ae path used (met++[x]) x) (met++[x]):=by
 have rg:=h.range (D5 p A8);have lt:∀ {j:Nat} {y:Int},(p++[x])[j]?=some y->j<p.length+1:=fun {j y} e=>by
  have:=(A3.mp e).1;rw [A5] at this;exact this
 have inn:∀ {n:Int},n ∈ newF Ae path used (met++[x]) x->∃ j,p.length<=j/\(p++newF Ae path used (met++[x]) x)[j]?=some n:=fun {n} hn=>by
  obtain ⟨k,hk⟩:=L7 hn;exact ⟨p.length+k,by lia,by rw [C2 (by lia),show p.length+k - p.length=k by lia];exact hk⟩
 refine ⟨fun z hz=>?_,fun i y e hy n hn u1 u2=>?_,R8.mpr ⟨h.nd,by simp,fun a ha b hb z=>hx (by rw [A6.mp hb] at z;exact z ▸ ha)⟩,fun z hz=>?_⟩
 ·rcases B7.mp hz with k | k
  ·exact h.tl z (G6 _ k)
  ·obtain ⟨a,b,c,_⟩:=mem_newF.mp k;obtain ⟨r,t⟩:=h.tl x (D5 _ A8);have:=qC9 wf rg.1 a;exact ⟨_,t.down (free_in.mpr ⟨⟨this.1,by lia⟩,c⟩) b a⟩
 ·by_cases em:n ∈ met++[x]
  ·exact .inl em
  ·refine .inr ?_;by_cases ex:y=x
   ·subst ex
    -- whose needs were put on top just now
    obtain ⟨j,l,k⟩:=inn (mem_newF.mpr ⟨hn,u1,u2,em⟩);rcases y7 i p.length with c | c
    ·exact ⟨j,by lia,k⟩
    ·rw [C2 c] at e;have:=(mem_newF.mp (B6 e)).2.2.2;exact absurd (D5 _ A8) this
   ·have hy':y ∈ met:=(B7.mp hy).elim id fun z=>absurd (A6.mp z) ex;rcases y7 i p.length with c | c
    ·rw [C5 c] at e;rcases h.due i y (by rw [C5 c];exact e) hy' n hn u1 u2 with k | ⟨j,l,k⟩
     ·exact absurd (G6 _ k) em
     ·rcases y7 j p.length with c2 | c2
      ·exact ⟨j,l,by rw [C5 c2] at k ⊢;exact k⟩
      ·have:=lt k;have ej:j=p.length:=by lia
       rw [ej,C2 (A9 _),R0] at k;cases k;exact absurd (D5 _ A8) em
    ·rw [C2 c] at e;have:=(mem_newF.mp (B6 e)).2.2.2;exact absurd hy this
 ·rcases B7.mp hz with k | k
  ·exact h.fr z k
  ·rw [A6.mp k];exact rg
theorem PlF.few {pile met:List Int} (h:PlF Ae path used pile met):met.length<=Ae.length:=by
 have:=D3 h.nd (l₂:=qAC 0 (Ae.length:Int)) fun z hz=>by rw [mem_rangeI];have:=h.fr z hz;lia
 rw [qBL] at this
 lia
theorem qVD {met:List Int} {x:Int}:(newF Ae path used met x).length<=(nd Ae x).length:=Q0 _ _
end
def metK (met:List Int):List (Key × V):=met.map fun x=>((D9 x:Key),V.bl true)
theorem qST {z:Int}:∀ {met:List Int},(valV (metK met) (D9 z)).isSome=decide (z ∈ met)
 | []=>rfl
 | x::r=>by
  show (valV (((D9 x:Key),V.bl true)::metK r) (D9 z)).isSome=_;by_cases e:x=z
  ·rw [qBD (by rw [e]),e,decide_eq_true A8];rfl
  ·rw [qBE fun h=>e (U7 h),qST];have:z ∈ x::r ↔ z ∈ r:=⟨fun h=>(B8.mp h).elim (fun w=>absurd w.symm e) id,B0 _⟩;exact decide_eq_decide.mpr this.symm
theorem qVG {met:List Int} {x:Int}:putK (metK met) (D9 x) (.bl true)=metK (if x ∈ met then met else met++[x]):=by
 have any_:((metK met).any fun kv=>decide (kv.1=(D9 x:Key)))=decide (x ∈ met):=by
  rw [O7,O2,decide_eq_true_eq]
  constructor
  ·rintro ⟨kv,h1,h2⟩;obtain ⟨y,hy,rfl⟩:=D7.mp h1;have:=U7 (of_decide_eq_true h2);exact this ▸ hy
  ·intro h;exact ⟨_,D7.mpr ⟨x,h,rfl⟩,decide_eq_true rfl⟩
 unfold putK;rw [any_];by_cases e:x ∈ met
 ·rw [decide_eq_true e,if_pos rfl,if_pos e];unfold metK;rw [P8];refine J2 fun y _=>?_;show (if (D9 y:Key)=D9 x then ((D9 y:Key),V.bl true) else (D9 y,V.bl true))=_
  rw [ite_self]
 ·rw [decide_eq_false e,if_neg (by decide),if_neg e]
  unfold metK;rw [B2]
  rfl
def qP2:Sp:=fun vs H Q _=>∃ (a t:Addr) (Ae:List (List Int)) (path:List Int),vs=[.ref a,.ref t]/\qDA H a t Ae path/\Ae.length<60/\path.length<=60/\∀ (l:Addr) (zs:List Int) (H':Hp),Same H H'->H' l=some (.lst (zs.map V.int))->zs.length<=60->(∀ z,z ∈ zs ↔ qBU Ae path z=true)->Q (.ref l) H'
def qP1:Sp:=fun vs H Q _=>∃ (a t l:Addr) (Ae:List (List Int)) (path:List Int) (rs:List Addr) (ts:List (List Int)),vs=[.ref a,.ref t,.ref l]/\qDA H a t Ae path/\Ae.length<60/\path.length<=60/\H l=some (.lst (rs.map V.ref))/\L2.G.TupsAt H rs ts/\SidesOf Ae path ts/\∀ H',Same H H'->Q (.bl true) H'
def qRX:Sp:=fun vs H Q _=>∃ (a t:Addr) (Ae:List (List Int)) (path:List Int) (ts:List (List Int)),vs=[.ref a,.ref t]/\qDA H a t Ae path/\Ae.length<10/\path.length<=60/\SidesOf Ae path ts/\∀ H',Same H H'->Q (.int (ts.length:Nat)) H'
section
variable {Ae:List (List Int)}
theorem qHD:∀ (l:List Int) (z a:Int),qBW Ae (l++[z,a])=(qBW Ae (l++[z]) && decide (z ∈ nd Ae a))
 | [],z,a=>by show (decide (z ∈ nd Ae a) && true)=(true && _);rw [X5,d9]
 | [x],z,a=>by show (decide (x ∈ nd Ae z) && (decide (z ∈ nd Ae a) && true))=((decide (x ∈ nd Ae z) && true) && _);rw [X5,X5]
 | x::y::l,z,a=>by
  show (decide (x ∈ nd Ae y) && qBW Ae (y::l++[z,a]))=((decide (x ∈ nd Ae y) && qBW Ae (y::l++[z])) && _);rw [qHD (y::l) z a,Bool.and_assoc]
theorem qcO (wf:WFn Ae):∀ (k:Nat) (p:List Int),(hd p).toNat=k->0<=hd p->p ≠ []->∀ t ∈ aP Ae p,∃ pre,t=pre++p/\qBW Ae (pre++[hd p])=true/\nd Ae ((pre++[hd p]).headD 0)=[]:=by
 intro k
 induction k using W8 with
 | ind k ih=>
  intro p hk h0 ne t ht;rw [qRC wf h0] at ht
  split at ht
  ·rename_i e
   exact ⟨[],A6.mp ht,rfl,e⟩
  ·obtain ⟨l,hl,ht⟩:=U0.mp ht;obtain ⟨z,hz,rfl⟩:=D7.mp hl;have hz:=O1.mp hz;have b:=qC9 wf h0 hz;obtain ⟨pre,e,c,n⟩:=ih z.toNat (by lia) (z::p) rfl b.1 (by simp) t ht
   have c:qBW Ae (pre++[z])=true:=c;have n:nd Ae ((pre++[z]).headD 0)=[]:=n;refine ⟨pre++[z],by rw [e];simp,?_,?_⟩
   ·rw [I0];show qBW Ae (pre++[z,hd p])=true;rw [qHD,c,decide_eq_true hz]
    rfl
   ·cases pre with
    | nil=>exact n
    | cons x pre=>exact n
theorem qbO (wf:WFn Ae):∀ (n:Nat) (pre p:List Int),pre.length=n->0<=hd p->p ≠ []->qBW Ae (pre++[hd p])=true->nd Ae ((pre++[hd p]).headD 0)=[]->pre++p ∈ aP Ae p
 | 0,pre,p,e,h0,ne,_,en=>by
  cases Q2.mp e;have en:nd Ae (hd p)=[]:=en;rw [qRC wf h0,if_pos en];exact A6.mpr rfl
 | n+1,pre,p,e,h0,ne,c,en=>by
  rcases U3 pre with z | ⟨pre',z,z'⟩
  ·rw [z] at e;cases e
  ·rw [U4] at z';subst z';rw [I0] at c en;have c:qBW Ae (pre'++[z,hd p])=true:=c;rw [qHD,C0,decide_eq_true_eq] at c;have b:=qC9 wf h0 c.2;have m:=qbO wf n pre' (z::p) (by simpa using e) b.1 (by simp) c.1 (by cases pre' with | nil=>exact en | cons _ _=>exact en)
   rw [qRC wf h0,if_neg (fun q=>by rw [q] at c;exact nomatch c.2),I0]
   exact U0.mpr ⟨_,D7.mpr ⟨z,O1.mpr c.2,rfl⟩,m⟩
theorem qPH (wf:WFn Ae) {work:Int} {ts:List (List Int)} (S:SortP Ae work ts) (h0:0<=work) (zs:List Int):zs ∈ ts ↔ zs ≠ []/\qFJ Ae zs=true/\zs.getLastD 0=work:=by
 rw [S.1.mem_iff]
 constructor
 ·intro h;obtain ⟨pre,rfl,c,n⟩:=qcO wf _ [work] rfl h0 (by simp) zs h
  have c:qBW Ae (pre++[work])=true:=c;have n:nd Ae ((pre++[work]).headD 0)=[]:=n;refine ⟨by simp,?_,by rw [K0];simp⟩
  unfold qFJ;rw [c,n]
  rfl
 ·rintro ⟨ne,hp,hl⟩;obtain ⟨pre,a,rfl⟩:∃ pre a,zs=pre++[a]:=by
   rcases U3 zs with z | ⟨l,x,z⟩
   ·exact absurd z ne
   ·exact ⟨l,x,by rw [z,U4]⟩
  have ea:a=work:=by rw [K0] at hl;simpa using hl
  subst ea;unfold qFJ at hp;rw [C0,c5] at hp;exact qbO wf _ pre [a] rfl h0 (by simp) hp.1 hp.2
end
section
variable {H H':Hp} {n W:Nat} {x:V}
end
def nP (Ae:List (List Int)) (work:Int):Nat:=(aP Ae [work]).length
section
variable {Ae:List (List Int)} {path:List Int}
theorem row2_iff:∀ {s:List Int},Row2 Ae s ↔ ∀ (i:Nat) (a b:Int),s[i]?=some a->s[i+1]?=some b->a ∈ nd Ae b
 | []=>⟨fun _ i a b e=>by simp at e,fun _=>trivial⟩
 | [x]=>⟨fun _ i a b e f=>by simp at f,fun _=>trivial⟩
 | x::y::r=>by
  constructor
  ·intro h i a b e f;cases i with
   | zero=>cases e;cases f;exact h.1
   | succ i=>exact row2_iff.mp h.2 i a b (by rw [X6] at e;exact e) (by rw [X6] at f;exact f)
  ·exact qNP
theorem pathI_iff {s:List Int}:qFJ Ae s=true ↔ Row2 Ae s/\nd Ae (s.headD 0)=[]:=by
 unfold qFJ;rw [C0,chain_iff,row2_iff,c5]
theorem qPI (wf:WFn Ae) {z:Int} {ts:List (List Int)} (S:SortP Ae z ts) (z0:0<=z) (z1:z<(Ae.length:Int)) (he:qBU Ae path z=true) {t:List Int} (ht:t ∈ ts):IsS Ae path t ↔ ∀ x ∈ t,x ∉ path:=by
 obtain ⟨ne,pi,la⟩:=(qPH wf S z0 t).mp ht;obtain ⟨r2,hd0⟩:=pathI_iff.mp pi;obtain ⟨_,R⟩:=(S.some wf z0 z1).2 t ht
 constructor
 ·intro h x hx;exact (free_in.mp (h.free x hx)).2
 ·intro h;refine ⟨fun x hx=>free_in.mpr ⟨by have:=R.in_ x hx;lia,h x hx⟩,r2,?_,?_⟩
  ·cases t with
   | nil=>exact absurd rfl ne
   | cons a r=>exact ⟨a,rfl,hd0⟩
  ·rw [K0] at la;cases e:t.getLast? with
   | none=>rw [List.getLast?_eq_none_iff] at e;exact absurd e ne
   | some y=>rw [e] at la;exact ⟨y,rfl,by rw [show y=z from la];exact he⟩
theorem qVQ (wf:WFn Ae) {z:Int} {ts:List (List Int)} (S:SortP Ae z ts) (z0:0<=z) {t:List Int} (h:IsS Ae path t) (la:t.getLast?=some z):t ∈ ts:=by
 obtain ⟨a,e1,e2⟩:=h.first;refine (qPH wf S z0 t).mpr ⟨(fun e=>by rw [e] at e1;cases e1),pathI_iff.mpr ⟨h.row,?_⟩,by rw [K0,la];rfl⟩
 cases t with
 | nil=>cases e1
 | cons x r=>cases e1;exact e2
theorem qS7 (wf:WFn Ae):∀ {t:List Int},(∀ x ∈ t,0<=x)->Row2 Ae t->t.Pairwise (·<·)
 | [],_,_=>.nil
 | [x],_,_=>f9 _ _
 | x::y::r,h,c=>by
  have ih:=qS7 wf (t:=y::r) (fun z hz=>h z (B0 _ hz)) c.2;have xy:=(qC9 wf (h y (B0 _ A8)) c.1).2;refine G4.mpr ⟨fun z hz=>?_,ih⟩;rcases B8.mp hz with e | e
  ·rw [e];exact xy
  ·exact Int.lt_trans xy ((G4.mp ih).1 z e)
theorem IsS.ups (wf:WFn Ae) {t:List Int} (h:IsS Ae path t):t ≠ []/\t.Pairwise (·<·)/\∀ x ∈ t,0<=x:=by
 have p:∀ x ∈ t,0<=x:=fun x hx=>(free_in.mp (h.free x hx)).1.1;refine ⟨fun e=>?_,qS7 wf p h.row,p⟩;obtain ⟨a,e1,_⟩:=h.first;rw [e] at e1;cases e1
end
structure DkM (Af:List (Key × V)) (M:Nat->Option Nat) (ns:List Nat):Prop where
 keys:Af.map (·.1)=ns.map fun n:Nat=>(D9 (n:Int):Key)
 nd:ns.Nodup
 val:∀ b:Nat,valV Af (D9 (b:Int))=(M b).map fun v:Nat=>V.int (v:Int)
theorem DkM.start:DkM [((D9 0:Key),V.int 0)] (fun b=>if b=0 then some 0 else none) [0]:=by
 refine ⟨rfl,by simp,fun b=>?_⟩
 by_cases e:b=0
 ·subst e;rfl
 ·rw [if_neg e,qBE (fun h=>e (by have:=U7 h;lia))];rfl
theorem DkM.mem {Af:List (Key × V)} {M:Nat->Option Nat} {ns:List Nat} (h:DkM Af M ns) {b:Nat}:(M b).isSome=true ↔ b ∈ ns:=by
 have e:=h.val b;have k:(valV Af (D9 (b:Int))).isSome=true ↔ (D9 (b:Int):Key) ∈ Af.map (·.1):=by
  unfold valV;rw [O4,A14,D7];exact ⟨fun ⟨x,a,b⟩=>⟨x,a,of_decide_eq_true b⟩,fun ⟨x,a,b⟩=>⟨x,a,decide_eq_true b⟩⟩
 rw [h.keys,D7,e,O4] at k;rw [k];exact ⟨fun ⟨n,a,c⟩=>by have:=U7 c;rw [show b=n by lia];exact a,fun a=>⟨b,a,rfl⟩⟩
theorem DkM.put {Af:List (Key × V)} {M:Nat->Option Nat} {ns:List Nat} (h:DkM Af M ns) (b v:Nat):DkM (putK Af (D9 (b:Int)) (.int (v:Int))) (fun c=>if c=b then some v else M c) (if b ∈ ns then ns else ns++[b]):=by
 have an:(Af.any fun kv=>decide (kv.1=(D9 (b:Int):Key)))=decide (b ∈ ns):=by
  rw [O7,decide_eq_true_eq,<- h.mem,<- O4 (f:=fun v:Nat=>V.int (v:Int)),<- h.val b];unfold valV;rw [O4,A14,O2]
 refine ⟨?_,?_,fun c=>?_⟩
 ·unfold putK;rw [an];by_cases e:b ∈ ns
  ·rw [decide_eq_true e,if_pos rfl,if_pos e,<- h.keys,P8];refine J2 fun kv _=>?_;show (if kv.1=D9 (b:Int) then (kv.1,V.int (v:Int)) else kv).1=kv.1
   split <;> rfl
  ·rw [decide_eq_false e,if_neg (by decide),if_neg e,B2,B2,h.keys]
   rfl
 ·by_cases e:b ∈ ns
  ·rw [if_pos e];exact h.nd
  ·rw [if_neg e];exact R8.mpr ⟨h.nd,by simp,fun x hx y hy z=>e (by rw [A6.mp hy] at z;exact z ▸ hx)⟩
 ·rw [qKN];by_cases e:c=b
  ·rw [e,if_pos rfl,if_pos rfl];rfl
  ·rw [if_neg e,if_neg (fun z=>e (by have:=U7 z;lia)),h.val c]
theorem qOQ {κ:Type} [DecidableEq κ]:∀ {Af:List (κ × V)} {kv:κ × V},(Af.map (·.1)).Nodup->kv ∈ Af->valV Af kv.1=some kv.2
 | [],_,_,h=>nomatch h
 | x::r,kv,n,h=>by
  rw [E8,J4] at n;rcases B8.mp h with e | e
  ·rw [e];exact qBD rfl
  ·rw [qBE fun z=>n.1 (by rw [z];exact D7.mpr ⟨kv,e,rfl⟩)]
   exact qOQ n.2 e
theorem DkM.vals {Af:List (Key × V)} {M:Nat->Option Nat} {ns:List Nat} (h:DkM Af M ns):Af.map (·.2)=(ns.map fun n:Nat=>(((M n).getD 0:Nat):Int)).map V.int:=by
 have n1:(Af.map (·.1)).Nodup:=by
  rw [h.keys];refine List.Pairwise.map _ (fun a b ne z=>ne ?_) h.nd;have:=U7 z
  lia
 have e1:Af.map (·.2)=(Af.map (·.1)).map fun k=>(valV Af k).getD V.non:=by
  rw [P8];refine J2 fun kv hkv=>?_;show kv.2=(valV Af kv.1).getD V.non;rw [qOQ n1 hkv]
  rfl
 rw [e1,h.keys,P8,P8];refine J2 fun n hn=>?_;show (valV Af (D9 (n:Int))).getD V.non=V.int (((M n).getD 0:Nat):Int);rw [h.val n];obtain ⟨v,e⟩:=R1.mp (h.mem.mpr hn);rw [e]
 rfl
theorem qQ8:∀ (s:List Int),(s.map fun x:Int=>(1:Int) * 2 ^ x.toNat).sum=((mskN s:Nat):Int)
 | []=>rfl
 | x::r=>by
  show (1:Int) * 2 ^ x.toNat+(r.map fun x:Int=>(1:Int) * 2 ^ x.toNat).sum=(((2 ^ x.toNat+mskN r:Nat)):Int);rw [qQ8 r,A73];simp
theorem qYE {ns:List Nat} (n:ns.Nodup) (h:∀ x ∈ ns,x<512):ns.length<=512:=by
 have:=D3 n (l₂:=G5 512) fun x hx=>E9.mpr (h x hx);rw [l6] at this;exact this
theorem qYF {s:List Int} (u:s.Pairwise (·<·)) (h:∀ x ∈ s,0<=x/\x<9):mskN s<512:=by
 have:mskN s<2 ^ 9:=Nat.lt_pow_two_of_testBit _ fun j hj=>by
  rw [qG0 u (fun x hx=>(h x hx).1)];refine decide_eq_false fun z=>?_;have:=h _ z
  lia
 exact this
theorem qaJ {a b:Nat} (h:a<512) (k:b<512):a ||| b<512:=Nat.or_lt_two_pow (n:=9) h k
end Fw
namespace L2
open PySem PySem.Spec PyProof.Rows
theorem qW7 {lo c:Int} {n:Nat} {g:TG} {tb:TS} {D:Ends} {σ:St} {H:Hp} (Pv:Nat->St->Hp->Prop) (h0:Pv 0 σ H)
  (hs:∀ i σ H,i<n->Pv i σ H->g (.int (lo+i * c)) σ H fun σ2 H2=>tb { D with nx:=Pv (i+1),ct:=Pv (i+1),bk:=D.nx } σ2 H2) (hd:∀ σ H,Pv n σ H->D.nx σ H) :
  ∃ W:Nat->Nat->St->Hp->Prop,(∃ m,W 0 m σ H)/\∀ i m σ H,W i m σ H->
   ((Its lo c n).stop i H/\D.nx σ H)\/((Its lo c n).go i H/\∃ N:St->Hp->Prop,(∀ σ' H',N σ' H'->∃ m',m'<m/\W (i+1) m' σ' H')/\∀ x H',(Its lo c n).yld i H x H'->g x σ H' fun σ2 H2=>tb { D with nx:=N,ct:=N,bk:=D.nx } σ2 H2):=by
 refine ⟨fun i m σ H=>m=n - i/\i<=n/\Pv i σ H,⟨n,by simp,F8 _,h0⟩,?_⟩
 rintro i m σ H ⟨rfl,hi,p⟩;by_cases hlt:i<n
 ·refine .inr ⟨hlt,Pv (i+1),fun σ' H' p'=>⟨n - (i+1),by lia,rfl,hlt,p'⟩,fun x H' y=>?_⟩
  obtain ⟨e,y⟩:=y;subst e y;exact hs i σ _ hlt p
 ·have e:i=n:=by lia
  subst e;exact .inl ⟨A9 _,hd σ H p⟩
end L2
namespace Fw
open PySem L2
section
variable {Ae:List (List Int)} {path:List Int} {ts:List (List Int)}
theorem SidesOf.count (wf:WFn Ae) (h:SidesOf Ae path ts) {T:List (List Int)} {es:List Int} (hT:∀ t ∈ T,IsS Ae path t) (ap:T.Pairwise fun a b=>∀ x ∈ a,x ∉ b) (he:∀ z,qBU Ae path z=true->z ∈ es) (el:es.length<=T.length):ts.length=T.length:=by
 have a:=h.most wf hT ap;obtain ⟨i1,i2,_⟩:=h.isS wf;have b:ts.length<=es.length:=by
  have p:=qFF i2;have nd:(ts.map fun t=>t.getLastD 0).Nodup:=by
   rw [List.Nodup,M9];refine A15 (fun {t u} ht hu d e=>?_) p;obtain ⟨x,e1,_⟩:=(i1 t ht).last;obtain ⟨y,e2,_⟩:=(i1 u hu).last;rw [K0,K0,e1,e2] at e;have exy:x=y:=e;subst exy;exact d x (p7 e1) (p7 e2)
  have:=D3 nd (l₂:=es) fun z hz=>by
   obtain ⟨t,ht,rfl⟩:=D7.mp hz;obtain ⟨x,e1,e2⟩:=(i1 t ht).last;rw [K0,e1];exact he x e2
  rw [A0] at this;exact this
 lia
end
def qZ9 (Ae:List (List Int)):Bool:=(G5 Ae.length).all fun i=>decide ((Ae.getD i []).Pairwise (·<·)) && (Ae.getD i []).all fun x=>decide (0<=x/\x<(i:Int))
theorem qXO {Ae:List (List Int)} (h:qZ9 Ae=true):WFn Ae:=fun i zs e=>by
 unfold qZ9 at h;have hi:=(A3.mp e).1;have:=E7.mp h i (E9.mpr hi);rw [L4,e,o6,C0,decide_eq_true_eq,E7] at this;exact ⟨this.1,fun x hx=>of_decide_eq_true (this.2 x hx)⟩
def ftP (d j:Nat):List (List Int):=D6 (2 ^ d) []++(G5 j).map fun i:Nat=>[2 * (i:Int),2 * (i:Int)+1]
def ftN (d:Nat):List (List Int):=ftP d (2 ^ d - 1)
theorem qO7 (d j:Nat):(ftP d j).length=2 ^ d+j:=by unfold ftP;rw [A5,G7,A0,l6]
theorem qW5 (d j:Nat):ftP d (j+1)=ftP d j++[[2 * (j:Int),2 * (j:Int)+1]]:=by
 unfold ftP;rw [t9,B2,I0]
 rfl
def dwnL (Ae:List (List Int)):Nat->Int->List Int
 | 0,_=>[]
 | n+1,z=>match nd Ae z with
  | []=>[z]
  | y::_=>dwnL Ae n y++[z]
def sbl (Ae:List (List Int)) (path:List Int):List Int:=(path.drop 1).flatMap fun w=>(nd Ae w).filter fun n=>decide (n ∉ path)
def chkS (Ae:List (List Int)) (path t:List Int):Bool:=t.all (qAU Ae path) && qBW Ae t && (match t with | []=>false | a::_=>(nd Ae a).isEmpty) && (match t.getLast? with | none=>false | some z=>qBU Ae path z)
def chkA:List (List Int)->Bool
 | []=>true
 | t::r=>(r.all fun u=>t.all fun x=>decide (x ∉ u)) && chkA r
theorem qU3:∀ {T:List (List Int)},chkA T=true->T.Pairwise fun a b=>∀ x ∈ a,x ∉ b
 | [],_=>.nil
 | t::r,h=>by
  unfold chkA at h;rw [C0,E7] at h;exact G4.mpr ⟨fun u hu x hx=>of_decide_eq_true (E7.mp (h.1 u hu) x hx),qU3 h.2⟩
theorem qZA {Ae:List (List Int)} {path t:List Int} (h:chkS Ae path t=true):IsS Ae path t:=by
 unfold chkS at h;rw [C0,C0,C0,E7] at h;obtain ⟨⟨⟨h1,h2⟩,h3⟩,h4⟩:=h;refine ⟨h1,row2_iff.mpr (chain_iff.mp h2),?_,?_⟩
 ·cases t with
  | nil=>cases h3
  | cons a r=>exact ⟨a,rfl,c5.mp h3⟩
 ·cases e:t.getLast? with
  | none=>rw [e] at h4;cases h4
  | some z=>rw [e] at h4;exact ⟨z,rfl,h4⟩
theorem qZ1 {Ae:List (List Int)} {path:List Int} {z:Int} (h:qBU Ae path z=true):z ∈ sbl Ae path:=by
 obtain ⟨h1,w,h2,h3⟩:=end_iff.mp h;exact List.mem_flatMap.mpr ⟨w,h2,G3.mpr ⟨h3,decide_eq_true h1⟩⟩
def chkF (d:Nat) (p:List Int):Bool:=((sbl (ftN d) p).map (dwnL (ftN d) (d+1))).all (chkS (ftN d) p) && chkA ((sbl (ftN d) p).map (dwnL (ftN d) (d+1))) && decide ((sbl (ftN d) p).length=d)
theorem qQ1:([1,2,3,4].all fun d=>(aP (ftN d) [(2:Int) ^ (d+1) - 2]).all (chkF d) && qZ9 (ftN d))=true:=by decide +kernel
theorem qcN:([1,2,3,4].all fun d=>decide ((aP (ftN d) [(2:Int) ^ (d+1) - 2]).length=2 ^ d) && decide (cn (ftN d) ((2:Int) ^ (d+1) - 2)<=300))=true:=by decide +kernel
theorem qYZ {d:Nat} (h1:1<=d) (h4:d<=4):(aP (ftN d) [(2:Int) ^ (d+1) - 2]).length=2 ^ d/\cn (ftN d) ((2:Int) ^ (d+1) - 2)<=300:=by
 have:=E7.mp qcN d (by simp;lia)
 rw [C0,decide_eq_true_eq,decide_eq_true_eq] at this;exact this
theorem qbF {d:Nat} (h1:1<=d) (h4:d<=4):WFn (ftN d):=by
 have:=E7.mp qQ1 d (by simp;lia)
 rw [C0] at this;exact qXO this.2
theorem qW4 {d:Nat} (h1:1<=d) (h4:d<=4) {p:List Int} {ts:List (List Int)} (hp:p ∈ aP (ftN d) [(2:Int) ^ (d+1) - 2]) (h:SidesOf (ftN d) p ts):ts.length=d:=by
 have c:=E7.mp qQ1 d (by simp;lia)
 rw [C0] at c;have k:=E7.mp c.1 p hp;unfold chkF at k;rw [C0,C0,E7,decide_eq_true_eq] at k;obtain ⟨⟨k1,k2⟩,k3⟩:=k;have:=h.count (qbF h1 h4) (fun t ht=>qZA (k1 t ht)) (qU3 k2) (es:=sbl (ftN d) p) (fun z hz=>qZ1 hz) (by rw [A0];exact A9 _)
 rw [this,A0,k3]
def prK (k:Int):List Int:=if k > 0 then [k - 1,k] else [0]
def chN (m:Nat) (ks:List Int):List (List Int):=D6 (m+1) []++ks.map prK++[qAC m (2 * m+1)]
section
variable {m:Nat} {ks:List Int}
theorem qHE (l:ks.length=m):(chN m ks).length=2 * m+2:=by
 unfold chN;rw [A5,A5,G7,A0,l];show m+1+m+1=_
 lia
theorem qLG (l:ks.length=m) {i:Nat} {zs:List Int} (e:(chN m ks)[i]?=some zs):(i<=m/\zs=[])\/(∃ k,m<i/\i<=2 * m/\ks[i - (m+1)]?=some k/\zs=prK k)\/(i=2 * m+1/\zs=qAC m (2 * m+1)):=by
 have hi:=(A3.mp e).1;rw [qHE l] at hi;unfold chN at e;by_cases c1:i<=m
 ·rw [I0,C5 (by rw [G7];lia),A19,if_pos (by lia)] at e
  cases e;exact .inl ⟨c1,rfl⟩
 ·by_cases c2:i<=2 * m
  ·rw [C5 (by rw [A5,G7,A0,l];lia),C2 (by rw [G7];lia),G7,C4] at e
   cases ek:ks[i - (m+1)]? with
   | none=>rw [ek] at e;cases e
   | some k=>rw [ek] at e;cases e;exact .inr (.inl ⟨k,by lia,c2,rfl,rfl⟩)
  ·rw [C2 (by rw [A5,G7,A0,l];lia),A5,G7,A0,l,show i - (m+1+m)=0 by lia] at e
   cases e;exact .inr (.inr ⟨by lia,rfl⟩)
theorem qXH (l:ks.length=m) (hk:∀ k ∈ ks,0<=k/\k<(m:Int)):WFn (chN m ks):=fun i zs e=>by
 rcases qLG l e with ⟨_,rfl⟩ | ⟨k,h1,h2,h3,rfl⟩ | ⟨h1,rfl⟩
 ·exact ⟨.nil,fun x hx=>nomatch hx⟩
 ·have b:=hk k (B6 h3);unfold prK
  split
  ·refine ⟨by simp;lia,fun x hx=>?_⟩
   simp at hx
   lia
  ·refine ⟨by simp,fun x hx=>?_⟩
   simp at hx
   lia
 ·refine ⟨qEP _ _,fun x hx=>?_⟩;rw [mem_rangeI] at hx
  lia
theorem qZC (l:ks.length=m) {x:Int} (h0:0<=x) (h1:x<=(m:Int)):nd (chN m ks) x=[]:=by
 have hlt:x.toNat<(chN m ks).length:=by rw [qHE l];lia
 have e:=A7 hlt;rw [qBJ e];rcases qLG l e with ⟨_,z⟩ | ⟨k,a,b,_,_⟩ | ⟨a,_⟩
 ·exact z
 ·lia
 ·lia
theorem qZB (l:ks.length=m) {j:Nat} {k:Int} (e:ks[j]?=some k):nd (chN m ks) ((m:Int)+1+(j:Int))=prK k:=by
 have hj:=(A3.mp e).1;have ej:((m:Int)+1+(j:Int)).toNat=m+1+j:=by lia
 have hlt:((m:Int)+1+(j:Int)).toNat<(chN m ks).length:=by rw [qHE l];lia
 have g:=A7 hlt;rw [qBJ g];rcases qLG l g with ⟨a,_⟩ | ⟨k',a,b,c,z⟩ | ⟨a,_⟩
 ·lia
 ·rw [ej,show m+1+j - (m+1)=j by lia,e] at c
  cases c;exact z
 ·lia
theorem qU4 (l:ks.length=m):nd (chN m ks) (2 * (m:Int)+1)=qAC m (2 * m+1):=by
 have hlt:(2 * (m:Int)+1).toNat<(chN m ks).length:=by rw [qHE l];lia
 have g:=A7 hlt;rw [qBJ g];rcases qLG l g with ⟨a,_⟩ | ⟨k',a,b,c,z⟩ | ⟨a,z⟩
 ·lia
 ·lia
 ·exact z
theorem qXG (l:ks.length=m) {z:Int}:qBU (chN m ks) [(m:Int),2 * (m:Int)+1] z=true ↔ (m:Int)<z/\z<=2 * (m:Int):=by
 rw [end_iff]
 constructor
 ·rintro ⟨h1,w,h2,h3⟩;have:w=2 * (m:Int)+1:=A6.mp h2;rw [this,qU4 l,mem_rangeI] at h3;simp at h1
  lia
 ·intro h;refine ⟨by simp;lia,2 * (m:Int)+1,A6.mpr rfl,?_⟩
  rw [qU4 l,mem_rangeI]
  lia
theorem qWD (l:ks.length=m) (nk:ks.Nodup) (hk:∀ k ∈ ks,0<=k/\k<(m:Int)) {ts:List (List Int)} (h:SidesOf (chN m ks) [(m:Int),2 * (m:Int)+1] ts):ts.length=m:=by
 have kg:∀ j,j<m->∃ k,ks[j]?=some k/\ks.getD j 0=k/\0<=k/\k<(m:Int):=fun j hj=>by
  have e:=A7 (l:=ks) (i:=j) (by lia)
  exact ⟨_,e,by rw [L4,e];rfl,hk _ (o5 _)⟩
 have:=h.count (qXH l hk) (T:=(G5 m).map fun j:Nat=>[ks.getD j 0,(m:Int)+1+(j:Int)]) (es:=qAC ((m:Int)+1) (2 * (m:Int)+1)) (fun t ht=>?_) ?_ (fun z hz=>?_) ?_
 ·rw [this,A0,l6]
 ·obtain ⟨j,hj,rfl⟩:=D7.mp ht;have hj:=E9.mp hj;obtain ⟨k,e,ek,k0,k1⟩:=kg j hj;rw [ek];refine ⟨fun x hx=>?_,⟨?_,trivial⟩,⟨k,rfl,qZC l k0 (by lia)⟩,⟨(m:Int)+1+(j:Int),rfl,(qXG l).mpr (by lia)⟩⟩
  ·rw [free_in,qHE l];simp at hx ⊢
   lia
  ·rw [qZB l e];unfold prK
   split
   ·simp
   ·simp;lia
 ·rw [M9];refine A15 (fun {i j} hi hj hij x hx hx2=>?_) (T5);have hi:=E9.mp hi;have hj:=E9.mp hj;obtain ⟨k,e,ek,k0,k1⟩:=kg i hi;obtain ⟨k',e',ek',k0',k1'⟩:=kg j hj;rw [ek] at hx;rw [ek'] at hx2;have ne:k ≠ k':=fun z=>by
   rw [z] at e;have:=(l5 (by lia) nk).mp (e.trans e'.symm)
   lia
  simp at hx hx2
  lia
 ·have:=(qXG l).mp hz;rw [mem_rangeI]
  lia
 ·rw [qBL,A0,l6]
  lia
end
theorem qK3 {α β:Type} {R:α->β->Prop} (u:∀ x s s',R x s->R x s'->s=s'):∀ {xs:List α} {ss ss':List β},Paired R xs ss->Paired R xs ss'->ss=ss'
 | [],_,_,.nil,.nil=>rfl
 | _::_,_,_,.cons a b,.cons a' b'=>by rw [u _ _ _ a a',qK3 u b b']
theorem SidesOf.one {Ae:List (List Int)} {path:List Int} {a b:List (List Int)} (h:SidesOf Ae path a) (h':SidesOf Ae path b):a=b:=by
 obtain ⟨W,ss,s1,_,P,pm,so⟩:=h;obtain ⟨W',ss',s1',_,P',pm',so'⟩:=h';have e:=s1.one s1';subst e;have e2:=qK3 (fun x s s' (k:Sd W (x / 2) s) k'=>k.one k') P P';subst e2;exact (pm.trans pm'.symm).eq_of_pairwise (fun x y _ _ h1 h2=>L2.G.lexLt_tri x y h2 h1) so so'
def qRY:Sp:=fun vs H Q _=>∃ dp:Nat,vs=[.int (dp:Int)]/\1<=dp/\dp<=4/\∀ a H',Same H H'->NetAt H' a (ftN dp)->Q (.ref a) H'
def qRZ:Sp:=fun vs H Q _=>∃ (d c:Addr) (t:Int) (ns:List Int) (m:Nat),vs=[.ref d,.int (m:Int)]/\StAt H d c t ns/\t<=TB - 100/\1<=m/\m<=20/\∀ a ks t' ns' H',StAt H' d c t' ns'->t<=t'->t'<=t+20->Keep d c H H'->NetAt H' a (chN m ks)->ks.length=m->ks.Nodup->(∀ k ∈ ks,0<=k/\k<(m:Int))->Q (.ref a) H'
def qOY:Sp:=fun vs H Q _=>∃ (a t:Addr) (Ae:List (List Int)) (path:List Int),vs=[.ref a,.ref t]/\qDA H a t Ae path/\Ae.length<60/\path.length<=60/\∀ H',Same H H'->Q (.bl true) H'
section
variable {P:B60} {w:World} {K:PySem.W.Frag} {mg:Str->Option Value} {base:Heap} {f:Addr} {fd:B65}
theorem sc_Lbegin:FnScope ["_law_script","_law_cells"] ["_law_script"] (qAI qIA):=⟨rfl,rfl,rfl,by decide +kernel,rfl,by decide +kernel,by decide +kernel⟩
theorem ok_Lbegin (F:Fun K "_law_begin" "_law_begin" qIA f fd) (qB5:mg "list" = none):FnOk P w K mg base CX0 1 f fd ["_law_script"] (qS0 K):=by
 refine F.ok sc_Lbegin (fun vs H Q E h=>?_) (fun cdv A outer s H vs Q E hr h=>?_)
 ·obtain ⟨a,ns,rfl,_⟩:=h
  rfl
 obtain ⟨a,ns,rfl,hS,h63,q⟩:=h;have hu:=qH9 hr;have hu0:=hr.units0;refine ⟨_,(qA4 (qAF (i:=1) sc_Lbegin.nd rfl (E5 rfl) (qAD qHT rfl qB5 qDJ (qA0 (qCB qFV (pv 0) qDG (qDF qA6)) qA3))) (qA4 (qBP (qAL (qSK hu0) (pv 1) (qAY qA3) (qAW _)) (qA8 (qAF (i:=1) sc_Lbegin.nd rfl (E5 rfl) (qAY (qA0 qA6 qA3)))) qAP) (qA8 (qAO (qKY (qF6 qIV (pv 1) (qF6 qIV qA6 qKX)) rfl rfl (by simp) (by decide)))))),?_⟩
 try dsimp only [Cx.nox,Cx.wish,cxOf]
 refine ⟨_,rfl,_,rfl,a,_,rfl,hS,fun p hp=>?_⟩;rw [qE8];have hl:(cutI ns none (some 63)).length<=63:=M5 (qWB _ _ _) h63;refine ⟨p,_,rfl,.inl (SqL.of qA1),fun c hc=>?_⟩;have s1:Same H (Ag (Ag H p (.lst ((cutI ns none (some 63)).map V.int))) c (.lst ((cutI ns none (some 63)).map V.int))):=(qA2 hp _).trans (qA2 hc _);refine ⟨_,rfl,(by show 0<=B59;decide),fun e he=>?_⟩
 have hce:c ≠ e:=qA5 qA1 he;refine ⟨c,e,_,rfl,rfl,SqL.of (by rw [qA7 hce];exact qA1),SqL.of qA1,_,rfl,?_⟩
 have s2:=s1.trans (qA2 he (.lst []));cases hm:cutI ns none (some 63) with
 | nil=>
  rw [hm] at s2 he;refine iteT ?_;refine ⟨(by show 1<=B59;decide),fun c2 hc2=>?_⟩
  have s3:=s2.trans (qA2 hc2 (.lst [.int 7]));intro d hd;refine ⟨_,rfl,?_⟩;have s4:=s3.trans (qA2 hd (.dK []));refine ⟨qA1,[(O3 (J7 "cells"),.ref c2),(O3 (J7 "turn"),.int 0)],rfl,(by show 2<=15;decide),?_⟩
  have ncd:c2 ≠ d:=qA5 qA1 hd;refine q d c2 [7] _ ⟨?_,?_,by decide,by decide,by decide⟩ ?_ ?_ ?_
  ·rw [qA1,qX1]
  ·rw [qA7 ncd,qA7 ncd];exact qA1
  ·rw [qH2];exact s3.trans (qA2 hd _)
  ·exact s3.free hd
  ·exact s2.free hc2
 | cons x r=>
  rw [hm] at s2 he hl;refine iteF ?_;intro d hd;refine ⟨_,rfl,?_⟩;refine ⟨qA1,[(O3 (J7 "cells"),.ref c),(O3 (J7 "turn"),.int 0)],rfl,(by show 2<=15;decide),?_⟩
  have gc:(Ag (Ag (Ag H p (.lst ((x::r).map V.int))) c (.lst ((x::r).map V.int))) e (.lst [])) c=some (.lst ((x::r).map V.int)):=by rw [qA7 hce];exact qA1
  have ncd:c ≠ d:=qA5 gc hd;refine q d c (x::r) _ ⟨?_,?_,by simp,hl,by decide⟩ ?_ ?_ ?_
  ·rw [qA1,qX1]
  ·rw [qA7 ncd,qA7 ncd];exact gc
  ·rw [qH2];exact s2.trans (qA2 hd _)
  ·exact s2.free hd
  ·rw [hm] at hc;exact (qA2 hp _).free hc
theorem sc_Ltake:FnScope ["_law_state","_law_many_here","_law_turn","_law_place","_law_cell","_law_digit","_law_mixed"] ["_law_state","_law_many_here"] (qAI qKS):=⟨rfl,rfl,rfl,by decide +kernel,rfl,by decide +kernel,by decide +kernel⟩
theorem ok_Ltake (F:Fun K "_law_take" "_law_take" qKS f fd) (qB6:mg "len" = none) (qF1:mg "divmod" = none):FnOk P w K mg base CX0 1 f fd ["_law_state","_law_many_here"] qIR:=by
 refine F.ok sc_Ltake (fun vs H Q E h=>?_) (fun cdv A outer s H vs Q E hr h=>?_)
 ·obtain ⟨d,c,t,ns,m,rfl,_⟩:=h
  rfl
 obtain ⟨d,c,t,ns,m,rfl,S,ht,hm1,hm2,q⟩:=h;have hu:=qH9 hr;refine ⟨_,(qA4 (qAF (i:=2) sc_Ltake.nd rfl (E5 rfl) (qAH qC0 (qBY hu (pv 0) qIV (fun _ _=>rfl)) qA6)) (qA4 (qFX hu (pv 0) qIV (pv 2) rfl) (qA4 (qAF (i:=3) sc_Ltake.nd rfl (E5 rfl) (qAH qIX (pv 2) (qA9 qAE rfl qB6 qBQ (qA0 (qBY hu (pv 0) qIV (fun _ _=>rfl)) qA3)))) (qA4 (qAF (i:=4) sc_Ltake.nd rfl (E5 rfl) (qC7 qBT (qBY hu (pv 0) qIV (fun _ _=>rfl)) (pv 3) (fun _ _=>rfl))) (qA4 (qBP (qAL qaN (pv 4) (qAH qaK qA6 qA6) (qAW _)) (qA4 (qaA (qA9 qOE rfl qF1 qUC (qA0 (pv 4) (qA0 (pv 1) qA3))) (qPE rfl (qBR (qaC (qBY hu (pv 0) qIV (fun _ _=>rfl)) (pv 3) qUY) (qBR (qAG (i:=5) sc_Ltake.nd rfl (E5 rfl)) qH5)))) (qA8 (qAO (pv 5)))) qAP) (qA4 (qAF (i:=6) sc_Ltake.nd rfl (E5 rfl) (qAH qIX (qAH qCD (qAH qC0 (qAH qC0 (qAH qIX (pv 4) qA6) (qAH qCD (qAH qCD (pv 2) (pv 2)) qA6)) qA6) qA6) qA6)) (qA4 (qAF (i:=6) sc_Ltake.nd rfl (E5 rfl) (qAH qIX (qAH qCD (pv 6) (pv 6)) qA6)) (qA8 (qAO (qAH qIX (qAH qFY (qAH qIX (qAH qCD (qAH qC0 (pv 6) (qAH qCD (pv 2) qA6)) qA6) qA6) qA6) (pv 1))))))))))),?_⟩
 try dsimp only [Cx.nox,Cx.wish,cxOf]
 have hpos:=S.pos;have hne:=S.ne;have ht':t<=1000000000:=ht;refine ⟨_,rfl,d,_,rfl,qZ4 S,_,_,rfl,rfl,?_⟩;refine ⟨_,rfl,_,rfl,d,_,rfl,qZ3 S,?_⟩;have S1:=S.turn (u:=t+1) (by lia)
 have k1:Keep d c H (Ag H d (.dK [(O3 (J7 "cells"),.ref c),(O3 (J7 "turn"),.int (t+1))])):=fun b o e n _=>by rw [qA7 n];exact e
 generalize Ag H d (.dK [(O3 (J7 "cells"),.ref c),(O3 (J7 "turn"),.int (t+1))])=H1 at S1 k1;have hlen:(((ns.map V.int).length:Nat):Int)=(ns.length:Int):=by rw [A0]
 refine ⟨_,rfl,_,rfl,d,_,rfl,qLC S1,c,_,rfl,.inl (SqL.of S1.list),_,_,rfl,rfl,(by rw [hlen];lia),?_⟩
 have p0:0<=(t+1) % (((ns.map V.int).length:Nat):Int):=W7 _ (by rw [hlen];lia)
 have p1:(t+1) % (((ns.map V.int).length:Nat):Int)<(ns.length:Int):=by
  have:=U5 (t+1) (b:=(((ns.map V.int).length:Nat):Int)) (by rw [hlen];lia)
  rw [hlen] at this ⊢;exact this
 dsimp only;generalize (t+1) % (((ns.map V.int).length:Nat):Int)=pl at p0 p1;obtain ⟨j,rfl⟩:∃ j:Nat,pl=(j:Int):=⟨pl.toNat,by lia⟩
 have hj:j<ns.length:=by lia
 have hat:atI (ns.map V.int) (j:Int)=some (.int ns[j]):=qUH (by rw [C4,A7 hj];rfl)
 refine ⟨_,rfl,d,_,rfl,qLC S1,_,rfl,c,_,_,_,rfl,rfl,SqL.of S1.list,hat,?_⟩;generalize hx:ns[j]=x at hat ⊢;refine ⟨_,rfl,_,_,rfl,rfl,⟨by decide,by decide,by decide⟩,_,_,rfl,rfl,_,rfl,?_⟩
 refine ite2 (fun _=>?_) (fun _=>?_)
 ·-- a great cell
  refine ⟨_,rfl,_,rfl,x,m,rfl,⟨by lia,by lia⟩,fun p hp=>?_⟩
  have S2:=S1.new hp (.tup [.int (x / m),.int (x % m)]);have npc:p ≠ c:=(qA5 S1.list hp).symm;refine ⟨p,_,rfl,SqT.of qA1,rfl,_,_,rfl,?_⟩;refine ⟨_,rfl,d,_,rfl,qLC S2,_,rfl,c,_,_,j,rfl,rfl,S2.list,qYU (by rw [A0];exact hj),?_⟩
  refine ⟨_,_,rfl,rfl,?_⟩;refine ⟨_,rfl,?_⟩;have e1:(ns.map V.int).set j (.int (x / m))=(ns.set j (x / m)).map V.int:=by rw [List.map_set]
  rw [e1];refine q (x % m) (ns.set j (x / m)) _ (W7 _ (by lia)) (U5 _ (by lia)) (S2.put (by rw [B19])) ?_
  have k2:=k1.trans (qE0 (d:=d) (c:=c) hp (.tup [.int (x / m),.int (x % m)]));exact fun b o e n1 n2=>by rw [qA7 n2];exact k2 b o e n1 n2
 ·have b1:0<=x % 2147483629:=W7 _ (by decide)
  have b2:x % 2147483629<2147483629:=U5 _ (by decide)
  refine ⟨_,rfl,_,_,rfl,rfl,(by show (0:Int)<2147483629;decide),_,rfl,_,rfl,_,_,rfl,rfl,.inl ⟨by lia,by lia⟩,_,_,rfl,rfl,.inr ⟨by decide,by decide⟩,_,_,rfl,rfl,_,_,rfl,rfl,_,_,rfl,rfl,.inr ⟨by decide,by decide⟩,_,_,rfl,rfl,(by show (0:Int)<2147483647;decide),?_⟩
  have c1:=W7 ((x % 2147483629+(t+1) * (t+1) * 7919+11) * 48271) (b:=2147483647) (by decide)
  have c2:=U5 ((x % 2147483629+(t+1) * (t+1) * 7919+11) * 48271) (b:=2147483647) (by decide)
  dsimp only;generalize ((x % 2147483629+(t+1) * (t+1) * 7919+11) * 48271) % 2147483647=y at c1 c2;refine ⟨_,rfl,_,rfl,_,_,rfl,rfl,.inl ⟨by lia,by lia⟩,_,_,rfl,rfl,(by show (0:Int)<2147483587;decide),?_⟩
  dsimp only;generalize y * y % 2147483587=z;refine ⟨_,rfl,_,rfl,_,_,rfl,rfl,.inr ⟨by decide,by decide⟩,_,_,rfl,rfl,_,_,rfl,rfl,.inr ⟨by decide,by decide⟩,_,_,rfl,rfl,(by show (0:Int)<2147483629;decide),_,_,rfl,rfl,⟨by decide,by decide⟩,_,rfl,_,_,rfl,rfl,(by lia),?_⟩
  exact q _ ns _ (W7 _ (by lia)) (U5 _ (by lia)) S1 k1
end
section
variable {P:B60} {w:World} {K:PySem.W.Frag} {mg:Str->Option Value} {base:Heap} {f:Addr} {fd:B65} {qCA:Addr} {qC4:B65}
theorem sc_Lsome_needs:FnScope ["_law_state","_law_k","_law_found","_law_turn","_law_far"] ["_law_state","_law_k"] (qAI qCG):=⟨rfl,rfl,rfl,by decide +kernel,rfl,by decide +kernel,by decide +kernel⟩
theorem ok_Lsome_needs (F:Fun K "_law_some_needs" "_law_some_needs" qCG f fd) (qAN:Clb P w K mg base 1 qCA qC4 "_law_take" ["_law_state","_law_many_here"] qIR)
  (qAT:mg "range" = none) (qHX:mg "min" = none) (qAJ:mg "tuple" = none) (qB1:mg "sorted" = none) (qFT:mg "set" = none):FnOk P w K mg base CX0 2 f fd ["_law_state","_law_k"] qNL:=by
 refine F.ok sc_Lsome_needs (fun vs H Q E h=>?_) (fun cdv A outer s H vs Q E hr h=>?_)
 ·obtain ⟨d,c,t,ns,k,rfl,_⟩:=h
  rfl
 obtain ⟨d,c,t,ns,k,rfl,S,ht,hk0,hk1,q⟩:=h;have ht':t<=1000000000 - 20:=ht;have qPT:Room 1 _:=hr;refine ⟨_,(qA4 (qAF (i:=2) sc_Lsome_needs.nd rfl (E5 rfl) (qAY qA3)) (qA4 (qBX E4 rfl (qCC rfl qAT (qA0 (qAZ qAN hr rfl (qA0 (pv 0) (qA0 qA6 qA3))) qA3)) (qAG (i:=3) sc_Lsome_needs.nd rfl (E5 rfl)) (qA4 (qAF (i:=4) sc_Lsome_needs.nd rfl (E5 rfl) (qC7 qBT (qAY (qA0 (qA9 (qJJ rfl) rfl qHX qUB (qA0 (pv 1) (qA0 qA6 qA3))) (qA0 (pv 1) qA3))) (qAH qFY (qAZ qAN hr rfl (qA0 (pv 0) (qA0 qA6 qA3))) qA6) (fun _ _=>rfl))) (qA8 (qBP (qAL qVB (pv 1) qA6 (qAW _)) (qA8 (qB9 (qDZ C7 G0 G1 qBB (pv 2) (qA0 (qAH qCU (qAH qCU (pv 1) qA6) (qAZ qAN hr rfl (qA0 (pv 0) (qA0 (pv 4) qA3)))) qA3)))) qAP)))) (qA8 (qAO (qAD qAS rfl qAJ qB2 (qA0 (qA9 (qEV rfl) rfl qB1 qEW (qA0 (qAD (qGY rfl) rfl qFT qQ5 (qA0 (pv 2) qA3)) qA3)) qA3)))))),?_⟩
 try dsimp only [Cx.nox,Cx.wish,cxOf]
 refine cut fun N0 hN0=>?_;refine ⟨(by show 0<=B59;decide),fun fo hfo=>?_⟩
 have S1:=S.new hfo (.lst []);have nd:fo ≠ d:=(qA5 S.dict hfo).symm;have nc:fo ≠ c:=(qA5 S.list hfo).symm;refine hN0 _ _ (cut fun N1 hN1=>?_);refine ⟨_,rfl,d,c,t,ns,5,rfl,S1,(by show t<=1000000000;lia),by decide,by decide,fun j ns1 H1 j0 j5 S2 K2=>?_⟩
 refine ⟨j,rfl,by lia,by lia,qGQ (lo:=0) (n:=j.toNat) (fun i σ Hc=>∃ (t':Int) (ms fs:List Int) (v1 v2:Option V),σ=[some (.ref d),some (.int k),some (.ref fo),v1,v2]/\StAt Hc d c t' ms/\t<=t'/\t'<=t+1+2 * i/\Keep d c H Hc/\
  Hc fo=some (.lst (fs.map V.int))/\fs.length<=i/\∀ x ∈ fs,0<=x/\x<k)
  ⟨t+1,ns1,[],none,none,rfl,S2,by lia,by lia,(qE0 hfo _).trans K2,K2 _ _ qA1 nd nc,A9 _,fun _ z=>nomatch z⟩ ?_ ?_⟩
 ·refine fun i σ Hc hi hI_1=>opq fun G_1 hG_1=>?_;obtain ⟨t',ms,fs,v1,v2,rfl,S3,a1,a2,K3,h3,l3,m3⟩:=hI_1;refine hG_1 ?_;have hi5:(i:Int)<5:=by lia
  -- far
  refine nmD fun D1 d1 dr=>cut fun M0 hM0=>?_;refine ⟨_,rfl,k,4,rfl,_,rfl,(by show 2<=B59;decide),fun p hp=>?_⟩
  have S4:=S3.new hp (.lst [.int (if (4:Int)<k then 4 else k),.int k])
  have npd:p ≠ d:=(qA5 S3.dict hp).symm;have npc:p ≠ c:=(qA5 S3.list hp).symm;refine ⟨_,rfl,d,c,t',ms,4,rfl,S4,(by show t'<=1000000000;lia),by decide,by decide,fun k2 ms2 H2 g0 g4 S5 K5=>?_⟩
  obtain ⟨far,hfar,ef⟩:=qc6 (a:=if (4:Int)<k then 4 else k) (b:=k) g0 g4
  have far1:far<=k:=by rcases ef with e | e <;> (subst e;first | lia | (split <;> lia))
  have far2:0<k->1<=far:=fun hk=>by rcases ef with e | e <;> (subst e;first | lia | (split <;> lia))
  refine ⟨_,_,rfl,rfl,⟨by decide,by decide⟩,p,_,_,_,rfl,rfl,SqL.of (K5 _ _ qA1 npd npc),hfar,?_⟩
  have K6:=K3.trans ((qE0 (d:=d) (c:=c) hp (.lst [.int (if (4:Int)<k then 4 else k),.int k])).trans K5)
  have h6:H2 fo=some (.lst (fs.map V.int)):=K5 _ _ (by rw [qA7 (qA5 h3 hp)];exact h3) nd nc
  refine hM0 _ _ ?_;refine ⟨_,rfl,_,_,rfl,rfl,_,rfl,?_⟩;refine ite2 (fun ck=>?_) (fun ck=>?_)
  ·have hk:0<k:=of_decide_eq_true ck;refine ⟨_,rfl,.inl ⟨rfl,_,SqL.of h6⟩,_,rfl,_,_,rfl,rfl,_,rfl,_,rfl,d,c,t'+1,ms2,far,rfl,S5,(by show t'+1<=1000000000;lia),far2 hk,by lia,fun k3 ms3 H3 c0 c1 S6 K7=>?_⟩
   have h7:=K7 _ _ h6 nd nc;refine ⟨_,_,rfl,rfl,fo,_,_,rfl,rfl,h7,qB8 (by rw [A0];lia),?_⟩
   have S8:StAt (Ag H3 fo (.lst (fs.map V.int++[.int (k - 1 - k3)]))) d c (t'+1+1) ms3:=⟨by rw [qA7 (L8 nd)];exact S6.dict,by rw [qA7 (L8 nc)];exact S6.list,S6.ne,S6.len,S6.pos⟩
   have hH:H fo=none:=hfo;refine d1 _ _ ⟨t'+1+1,ms3,fs++[k - 1 - k3],_,_,rfl,S8,by lia,by lia,fun b o e n1 n2=>?_,?_,?_,fun x hx=>?_⟩
   ·rw [qA7 (qA5 e hH)];exact (K6.trans K7) b o e n1 n2
   ·rw [qA1,B2];rfl
   ·rw [A5,B3];lia
   ·rcases B7.mp hx with hx | hx
    ·exact m3 x hx
    ·rw [A6.mp hx];lia
  ·exact d1 _ _ ⟨t'+1,ms2,fs,_,_,rfl,S5,by lia,by lia,K6,h6,by lia,m3⟩
 ·refine fun σ Hc hI_2=>opq fun G_2 hG_2=>?_;obtain ⟨t',ms,fs,v1,v2,rfl,S3,a1,a2,K3,h3,l3,m3⟩:=hI_2;refine hG_2 ?_;refine hN1 _ _ ?_;refine ⟨_,rfl,fo,fs,rfl,SqL.of h3,by lia,fun a ha=>?_⟩
  have sm1:=qA2 ha (SetM w a (dedI fs));refine ⟨a,dedI fs,rfl,qA1,fun b zs hb hp hs=>?_⟩;have sm2:=sm1.trans (qA2 hb (.lst (zs.map V.int)));refine ⟨b,_,rfl,.inl ⟨SqL.of qA1,fun r hr'=>?_⟩⟩;have sm3:=sm2.trans (qA2 hr' (.tup (zs.map V.int)));exact q r zs t' ms _ (S3.same sm3) (by lia) (by lia) (K3.trans (.of_same sm3)) qA1 (qP9 hp hs m3)
theorem sc_Ltree_net:FnScope ["_law_state","_law_many_here","_law_open_ones","_law_found","_law_k","_law_so_many"] ["_law_state","_law_many_here"] (qAI qDW):=⟨rfl,rfl,rfl,by decide +kernel,rfl,by decide +kernel,by decide +kernel⟩
theorem ok_Ltree_net (F:Fun K "_law_tree_net" "_law_tree_net" qDW f fd) (qAN:Clb P w K mg base 1 qCA qC4 "_law_take" ["_law_state","_law_many_here"] qIR)
  (qAT:mg "range" = none) (qHX:mg "min" = none) (qAJ:mg "tuple" = none) (qB6:mg "len" = none):FnOk P w K mg base CX0 2 f fd ["_law_state","_law_many_here"] qWS:=by
 refine F.ok sc_Ltree_net (fun vs H Q E h=>?_) (fun cdv A outer s H vs Q E hr h=>?_)
 ·obtain ⟨d,c,t,ns,m,rfl,_⟩:=h
  rfl
 obtain ⟨d,c,t,ns,m,rfl,S,ht,hm0,hm1,q⟩:=h;have ht':t<=1000000000 - 1000:=ht;have qPT:Room 1 _:=hr;refine ⟨_,(qA4 (qAF (i:=2) sc_Ltree_net.nd rfl (E5 rfl) (qAY qA3)) (qA4 (qAF (i:=3) sc_Ltree_net.nd rfl (E5 rfl) (qAY qA3)) (qA4 (qBX E4 rfl (qCC rfl qAT (qA0 (qAH qCU (pv 1) qA6) qA3)) (qAG (i:=4) sc_Ltree_net.nd rfl (E5 rfl)) (qA4 (qAF (i:=5) sc_Ltree_net.nd rfl (E5 rfl) (qA9 (qJJ rfl) rfl qHX qUB (qA0 (qA9 qAE rfl qB6 qBQ (qA0 (pv 2) qA3)) (qA0 (qC7 qBT (qAY (qA0 qA6 (qA0 qA6 (qA0 qA6 (qA0 qA6 (qA0 qA6 (qA0 qA6 qA3))))))) (qAZ qAN hr rfl (qA0 (pv 0) (qA0 qA6 qA3))) (fun _ _=>rfl)) qA3)))) (qA4 (qB9 (qDZ C7 G0 G1 qBB (pv 3) (qA0 (qAD qAS rfl qAJ qB2 (qA0 (qCB qFV (pv 2) (qDF (qAH qCU (qA9 qAE rfl qB6 qBQ (qA0 (pv 2) qA3)) (pv 5))) qDG) qA3)) qA3))) (qA8 (qAF (i:=2) sc_Ltree_net.nd rfl (E5 rfl) (qAH qME (qCB qFV (pv 2) qDG (qDF (qAH qCU (qA9 qAE rfl qB6 qBQ (qA0 (pv 2) qA3)) (pv 5)))) (qAY (qA0 (pv 4) qA3)))))))) (qA8 (qAO (qAD qAS rfl qAJ qB2 (qA0 (qAH qME (pv 3) (qAY (qA0 (qAD qAS rfl qAJ qB2 (qA0 (pv 2) qA3)) qA3))) qA3))))))),?_⟩
 try dsimp only [Cx.nox,Cx.wish,cxOf]
 refine cut fun N0 hN0=>?_;refine ⟨(by show 0<=B59;decide),fun o0 ho0=>?_⟩
 refine hN0 _ _ (cut fun N1 hN1=>?_);have S1:=S.new ho0 (.lst []);refine ⟨(by show 0<=B59;decide),fun fo hfo=>?_⟩
 have S2:=S1.new hfo (.lst []);have nd:fo ≠ d:=(qA5 S1.dict hfo).symm;have nc:fo ≠ c:=(qA5 S1.list hfo).symm;have no0:o0 ≠ fo:=qA5 qA1 hfo;have hF:H fo=none:=(qA2 ho0 _).free hfo;refine hN1 _ _ (cut fun N2 hN2=>?_);refine ⟨_,rfl,_,_,rfl,rfl,m - 1,rfl,by lia,by lia,qGQ (lo:=0) (n:=(m - 1).toNat) (fun i σ Hc=>∃ (t':Int) (ms os:List Int) (o:Addr) (rs:List Addr) (Ae:List (List Int)) (v1 v2:Option V),σ=[some (.ref d),some (.int m),some (.ref o),some (.ref fo),v1,v2]/\StAt Hc d c t' ms/\t<=t'/\t'<=t+i/\Keep d c H Hc/\
  Hc o=some (.lst (os.map V.int))/\(o ≠ fo/\o ≠ c)/\Hc fo=some (.lst (rs.map V.ref))/\NetL Hc rs Ae/\Ae.length=i/\WFn Ae/\Rise (i:Int) os)
  ⟨t,ns,[],o0,[],[],none,none,rfl,S2,by lia,by lia,(qE0 ho0 _).trans (qE0 hfo _),by rw [qA7 no0];exact qA1,⟨no0,(qA5 S.list ho0).symm⟩,qA1,.nil,rfl,WFn.nil,Rise.nil⟩ ?_ ?_⟩
 ·refine fun i σ Hc hi hI_3=>opq fun G_3 hG_3=>?_;obtain ⟨t',ms,os,o,rs,Ae,v1,v2,rfl,S3,a1,a2,K3,h3,⟨n3,n3c⟩,f3,N3,l3,w3,r3⟩:=hI_3;refine hG_3 ?_;have hlo:os.length<=i:=r3.len;refine nmD fun D1 d1 dr=>cut fun M0 hM0=>?_;refine ⟨_,rfl,o,_,rfl,.inl (SqL.of h3),(by show 6<=B59;decide),fun p hp=>?_⟩
  have S4:=S3.new hp (.lst [.int 0,.int 0,.int 1,.int 2,.int 2,.int 3]);have npd:p ≠ d:=(qA5 S3.dict hp).symm;have npc:p ≠ c:=(qA5 S3.list hp).symm;refine ⟨_,rfl,d,c,t',ms,6,rfl,S4,(by show t'<=1000000000;lia),by decide,by decide,fun k2 ms2 H2 g0 g6 S5 K5=>?_⟩
  obtain ⟨v,hv,v0,v3⟩:=qc5 g0 g6;refine ⟨p,_,_,_,rfl,rfl,SqL.of (K5 _ _ qA1 npd npc),hv,?_⟩;have sm:Same Hc (Ag Hc p (.lst [.int 0,.int 0,.int 1,.int 2,.int 2,.int 3])):=qA2 hp _;have K6:=(Keep.of_same (d:=d) (c:=c) sm).trans K5;have nod:o ≠ d:=qC2 h3 S3.dict (by intro z;cases z)
  have h6:H2 o=some (.lst (os.map V.int)):=K6 _ _ h3 nod n3c;have f6:H2 fo=some (.lst (rs.map V.ref)):=K6 _ _ f3 nd nc;have N6:NetL H2 rs Ae:=N3.keep (fun r zs e=>S3.tup e) K6;refine ⟨_,_,rfl,?_⟩;dsimp only;have so0:0<=(if v<(((os.map V.int).length:Nat):Int) then v else (((os.map V.int).length:Nat):Int)):=by split <;> lia
  have so1:(if v<(((os.map V.int).length:Nat):Int) then v else (((os.map V.int).length:Nat):Int))<=(os.length:Int):=by rw [A0];split <;> lia
  generalize (if v<(((os.map V.int).length:Nat):Int) then v else (((os.map V.int).length:Nat):Int))=so at so0 so1
  obtain ⟨kk,ek⟩:∃ kk:Nat,(os.length:Int) - so=(kk:Int):=⟨((os.length:Int) - so).toNat,by lia⟩
  have ek':(((os.map V.int).length:Nat):Int) - so=(kk:Int):=by rw [A0];exact ek
  have hkk:kk<=os.length:=by lia
  -- found.append(tuple(open_ones[len(open_ones) - so_many:]))
  refine hM0 _ _ (cut fun M1 hM1=>?_);refine ⟨_,rfl,.inl ⟨rfl,_,SqL.of f6⟩,_,rfl,_,rfl,o,_,rfl,.inl (SqL.of h6),_,rfl,_,_,rfl,rfl,_,rfl,o,_,rfl,SqL.of h6,fun p1 hp1=>?_⟩;refine ⟨p1,_,rfl,.inl ⟨SqL.of qA1,fun r hr1=>?_⟩⟩;rw [ek',qE8,qEU _ _ hkk] at hr1 ⊢;have sm1:=(qA2 hp1 (.lst ((os.drop kk).map V.int))).trans (qA2 hr1 (.tup ((os.drop kk).map V.int)));have f7:=sm1 _ _ f6;have h7:=sm1 _ _ h6;have N7:NetL _ (rs++[r]) (Ae++[os.drop kk]):=qBN (N6.same fun r zs e=>sm1 _ _ e) (show (Ag (Ag H2 p1 (.lst ((os.drop kk).map V.int))) r (.tup ((os.drop kk).map V.int))) r=some (.tup ((os.drop kk).map V.int)) from qA1);have S7:=S5.same sm1;have K7:=K6.trans (.of_same sm1);generalize (Ag (Ag H2 p1 (.lst ((os.drop kk).map V.int))) r (.tup ((os.drop kk).map V.int)))=H7 at f7 h7 N7 S7 K7 ⊢;refine ⟨fo,_,_,rfl,rfl,f7,qB8 (by rw [A0,NetAt.len N3];lia),?_⟩
  have e8:rs.map V.ref++[V.ref r]=(rs++[r]).map V.ref:=by rw [B2];rfl
  rw [e8];have S8:StAt (Ag H7 fo (.lst ((rs++[r]).map V.ref))) d c (t'+1) ms2:=⟨by rw [qA7 (L8 nd)];exact S7.dict,by rw [qA7 (L8 nc)];exact S7.list,S7.ne,S7.len,S7.pos⟩
  have h8:(Ag H7 fo (.lst ((rs++[r]).map V.ref))) o=some (.lst (os.map V.int)):=by rw [qA7 n3];exact h7
  have N8:NetL (Ag H7 fo (.lst ((rs++[r]).map V.ref))) (rs++[r]) (Ae++[os.drop kk]):=N7.same fun r' zs e=>by rw [qA7 (qC2 e f7 (by intro z;cases z))];exact e
  have K8:Keep d c H (Ag H7 fo (.lst ((rs++[r]).map V.ref))):=fun b u e n1 n2=>by rw [qA7 (qA5 e hF)];exact (K3.trans K7) b u e n1 n2
  have f8:(Ag H7 fo (.lst ((rs++[r]).map V.ref))) fo=some (.lst ((rs++[r]).map V.ref)):=qA1;generalize Ag H7 fo (.lst ((rs++[r]).map V.ref))=H8 at S8 h8 N8 K8 f8 ⊢
  -- open_ones=open_ones[:len(open_ones) - so_many]+[k]
  refine hM1 _ _ ?_;refine ⟨_,rfl,_,rfl,o,_,rfl,.inl (SqL.of h8),_,rfl,_,_,rfl,rfl,_,rfl,o,_,rfl,SqL.of h8,fun p2 hp2=>?_⟩;rw [ek',qE8,qZ7];refine ⟨_,rfl,(by show 1<=B59;decide),fun p3 hp3=>?_⟩
  have n23:p2 ≠ p3:=qA5 qA1 hp3;refine ⟨p2,p3,_,_,rfl,rfl,by rw [qA7 n23];exact qA1,qA1,Y3 (qB8 (by rw [A0,E1,B3];lia)),fun p4 hp4=>?_⟩
  have sm2:=((qA2 hp2 (.lst ((os.take kk).map V.int))).trans (qA2 hp3 (.lst [.int (0+(i:Int))]))).trans (qA2 hp4 (.lst ((os.take kk).map V.int++[.int (0+(i:Int))])));have e9:(os.take kk).map V.int++[V.int (0+(i:Int))]=(os.take kk++[(i:Int)]).map V.int:=by rw [B2,B06];rfl
  have nf4:p4 ≠ fo:=(qA5 ((qA2 hp3 _) _ _ ((qA2 hp2 _) _ _ f8)) hp4).symm;have nc4:p4 ≠ c:=(qA5 ((qA2 hp3 _) _ _ ((qA2 hp2 _) _ _ S8.list)) hp4).symm;refine d1 _ _ ⟨t'+1,ms2,os.take kk++[(i:Int)],p4,rs++[r],Ae++[os.drop kk],_,_,rfl,S8.same sm2,by lia,by lia,K8.trans (.of_same sm2),by rw [<- e9];exact qA1,⟨nf4,nc4⟩,sm2 _ _ f8,N8.same fun r' zs e=>sm2 _ _ e,by rw [A5,B3,l3],w3.snoc ?_,?_⟩
  ·rw [l3];exact r3.sub (Z5 _ _)
  ·have:=(r3.sub (Z4 kk os)).snoc (by lia)
   rw [show ((i+1:Nat):Int)=(i:Int)+1 by lia]
   exact this
 ·refine fun σ Hc hI_4=>opq fun G_4 hG_4=>?_;obtain ⟨t',ms,os,o,rs,Ae,v1,v2,rfl,S3,a1,a2,K3,h3,⟨n3,n3c⟩,f3,N3,l3,w3,r3⟩:=hI_4;refine hG_4 ?_;refine hN2 _ _ ?_;refine ⟨_,rfl,_,rfl,o,_,rfl,.inl ⟨SqL.of h3,fun r hr1=>?_⟩⟩;refine ⟨(by show 1<=B59;decide),fun p hp=>?_⟩
  have sm1:=(qA2 hr1 (.tup (os.map V.int))).trans (qA2 hp (.lst [.ref r]));refine ⟨fo,p,_,_,rfl,rfl,sm1 _ _ f3,qA1,Y3 (qB8 (by rw [A0,NetAt.len N3,B3];lia)),fun p2 hp2=>?_⟩
  refine ⟨p2,_,rfl,.inl ⟨SqL.of qA1,fun a ha=>?_⟩⟩;have sm2:=(sm1.trans (qA2 hp2 (.lst (rs.map V.ref++[.ref r])))).trans (qA2 ha (.tup (rs.map V.ref++[.ref r])));have gr:=(qA2 ha (.tup (rs.map V.ref++[.ref r]))) _ _ ((qA2 hp2 (.lst (rs.map V.ref++[.ref r]))) _ _ ((qA2 hp (.lst [.ref r])) r _ (qA1 (H:=Hc) (o:=.tup (os.map V.int)))));have e8:rs.map V.ref++[V.ref r]=(rs++[r]).map V.ref:=by rw [B2];rfl
  refine q a (Ae++[os]) t' ms _ (S3.same sm2) (by lia) (by lia) (K3.trans (.of_same sm2)) ⟨rs++[r],by rw [<- e8];exact qA1,qBN (N3.same fun r' zs e=>sm2 _ _ e) gr⟩ (w3.snoc (by rw [l3];exact r3)) ?_
  rw [A5,B3,l3]
  lia
end
section
variable {P:B60} {w:World} {K:PySem.W.Frag} {mg:Str->Option Value} {base:Heap} {f:Addr} {fd:B65} {qCA:Addr} {qC4:B65} {qCK:Addr} {qFN:B65} {qE7:Addr} {qHR:B65}
theorem sc_Lnet:FnScope ["_law_state","_law_many_here","_law_way","_law_wide","_law_some","_law_half"] ["_law_state","_law_many_here"] (qAI qP6):=⟨rfl,rfl,rfl,by decide +kernel,rfl,by decide +kernel,by decide +kernel⟩
theorem ok_Lnet (F:Fun K "_law_net" "_law_net" qP6 f fd) (qAN:Clb P w K mg base 1 qCA qC4 "_law_take" ["_law_state","_law_many_here"] qIR)
  (qC6:Clb P w K mg base 2 qCK qFN "_law_some_needs" ["_law_state","_law_k"] qNL)
  (qEF:Clb P w K mg base 2 qE7 qHR "_law_tree_net" ["_law_state","_law_many_here"] qWS)
  (qAT:mg "range" = none) (qH1:mg "max" = none) (qEI:mg "int" = none) (qBC:mg "enumerate" = none) (qAJ:mg "tuple" = none) (qB1:mg "sorted" = none) (qFT:mg "set" = none):FnOk P w K mg base CX0 3 f fd ["_law_state","_law_many_here"] qZX:=by
 refine F.ok sc_Lnet (fun vs H Q E h=>?_) (fun cdv A outer s H vs Q E hr h=>?_)
 ·obtain ⟨d,c,t,ns,m,rfl,_⟩:=h
  rfl
 obtain ⟨d,c,t,ns,m,rfl,S,ht,hm0,hm1,q⟩:=h;have ht':t<=1000000000 - 10000:=ht;have qUP:Room 2 _:=hr;have qX6:Room 2 _:=hr;refine ⟨_,(qA4 (qAF (i:=2) sc_Lnet.nd rfl (E5 rfl) (qAZ qAN hr rfl (qA0 (pv 0) (qA0 qA6 qA3)))) (qA4 (qAF (i:=3) sc_Lnet.nd rfl (A64 rfl) (qAH qC0 qA6 (qAZ qAN hr rfl (qA0 (pv 0) (qA0 qA6 qA3))))) (qA4 (qBP (qAL qIY (pv 2) qA6 (qAW _)) (qA8 (qAO (qAD qAS rfl qAJ qB2 (qA0 (qEQ rfl (lcs (own:=["_law_k"]) (fv:=[3]) (by kernel_rfl)) (qCC rfl qAT (qA0 (pv 1) qA3)) (fun z1=>qAG (i:=0) (qCV (by kernel_rfl)) rfl (E5 rfl)) (fun z1=>qBI) (fun z1=>(qAD (qFQ rfl) rfl qAJ qB2 (qA0 (qAD qN2 rfl qAT qIK (qA0 (qA9 (qJK rfl) rfl qH1 qQ6 (qA0 qA6 (qA0 (qAH qCU (pv 0) (pv 1)) qA3))) (qA0 (pv 0) qA3))) qA3)))) qA3)))) qAP) (qA4 (qBP (qAL qIY (pv 2) qA6 (qAW _)) (qA4 (qY3 (i:=4) sc_Lnet.nd rfl rfl rfl (lcs (own:=["_law_k"]) (fv:=[3]) (by kernel_rfl)) (qCC rfl qAT (qA0 (pv 1) qA3)) (fun z2=>qAG (i:=0) (qCV (by kernel_rfl)) rfl (E5 rfl)) (fun z2=>qBI) (fun z2=>(qAH qME (qAH qPN (qAY (qA0 (qAH qCU (pv 0) (pv 1)) qA3)) (qAD qJL rfl qEI qN4 (qA0 (qDH qaN (pv 0) (pv 1) (qAW _)) qA3))) (qAH qPN (qAY (qA0 (qAH qCU (pv 0) qA6) qA3)) (qAD qJL rfl qEI qN4 (qA0 (qDH qVB (qAH qIX (pv 0) (pv 1)) qA6 (qAW _)) qA3))))) (by kernel_rfl)) (qA8 (qAO (qAD qAS rfl qAJ qB2 (qA0 (qEQ rfl (lcs (own:=["_law_needs"]) (fv:=[]) (by kernel_rfl)) (qCS (pv 4)) (fun z3=>qAG (i:=0) (qCV (by kernel_rfl)) rfl (E5 rfl)) (fun z3=>qBI) (fun z3=>(qAD (qJI (K:=K) rfl) rfl qAJ qB2 (qA0 (qA9 (qLH (w:=w) rfl rfl) rfl qB1 qEW (qA0 (qAD (qR2 (K:=K) (w:=w) rfl rfl rfl) rfl qFT qQ5 (qA0 (pv 0) qA3)) qA3)) qA3)))) qA3))))) qAP) (qA4 (qBP (qAL qIY (pv 2) qA6 (qAW _)) (qA8 (qAO (qAZ qEF hr rfl (qA0 (pv 0) (qA0 (pv 1) qA3))))) qAP) (qA4 (qBP (qAL qIY (pv 2) qA6 (qAW _)) (qA4 (qAF (i:=5) sc_Lnet.nd rfl (A64 rfl) (qAH qFY (pv 1) qA6)) (qA4 (qY3 (i:=4) sc_Lnet.nd rfl rfl rfl (lcs (own:=["_law_k"]) (fv:=[0,5]) (by kernel_rfl)) (qCC rfl qAT (qA0 (pv 1) qA3)) (fun z4=>qAG (i:=0) (qCV (by kernel_rfl)) rfl (E5 rfl)) (fun z4=>qBI) (fun z4=>(qAZ qC6 hr rfl (qA0 (pv 1) (qA0 (qIB (qAL qVA (pv 0) (pv 2) (qAW _)) (pv 0) (qAH qCU (pv 0) (pv 2))) qA3)))) (by kernel_rfl)) (qA8 (qAO (qAD qAS rfl qAJ qB2 (qA0 (qEQ rfl (lcs (own:=["_law_k","_law_needs"]) (fv:=[5]) (by kernel_rfl)) (qY8 rfl qBC qHV (qA0 (pv 4) qA3)) (fun z5=>qNU (K:=K) (n:=2) rfl rfl (qBR (qAG (i:=0) (qCV (by kernel_rfl)) rfl (E5 rfl)) (qBR (qAG (i:=1) (qCV (by kernel_rfl)) rfl (E5 rfl)) qH5)) rfl rfl) (fun z5=>qBI) (fun z5=>(qIB (qAL qVA (pv 0) (pv 2) (qAW _)) (pv 1) (qAD (qJI (K:=K) rfl) rfl qAJ qB2 (qA0 (qEQ (X:=lcCx _ _ _ _ z5) rfl (lcs (own:=["_law_n"]) (fv:=[2]) (by kernel_rfl)) (qY6 (K:=K) rfl (pv 1)) (fun z6=>qAG (i:=0) (qCV (by kernel_rfl)) rfl (E5 rfl)) (fun z6=>qBI) (fun z6=>(qAH qC0 (pv 0) (pv 1)))) qA3))))) qA3)))))) qAP) (qA8 (qAO (qAD qAS rfl qAJ qB2 (qA0 (qEQ rfl (lcs (own:=["_law_k"]) (fv:=[0]) (by kernel_rfl)) (qCC rfl qAT (qA0 (pv 1) qA3)) (fun z7=>qAG (i:=0) (qCV (by kernel_rfl)) rfl (E5 rfl)) (fun z7=>qBI) (fun z7=>(qAZ qC6 hr rfl (qA0 (pv 1) (qA0 (pv 0) qA3))))) qA3)))))))))),?_⟩
 try dsimp only [Cx.nox,Cx.wish,cxOf]
 refine cut fun N1 hN1=>?_;refine ⟨_,rfl,d,c,t,ns,8,rfl,S,(by show t<=1000000000;lia),by decide,by decide,fun way ns1 H1 w0 w8 S1 K1=>?_⟩
 refine hN1 _ _ (cut fun N2 hN2=>?_);refine ⟨_,rfl,d,c,t+1,ns1,4,rfl,S1,(by show t+1<=1000000000;lia),by decide,by decide,fun wd ns2 H2 wd0 wd4 S2 K2=>⟨_,_,rfl,rfl,?_⟩⟩
 dsimp only;have K12:=K1.trans K2;generalize hwide:(1:Int)+wd=wide;have wi0:1<=wide:=by lia
 have wi4:wide<=4:=by lia
 refine hN2 _ _ (cut fun N3 hN3=>?_);refine ⟨_,rfl,rfl,_,rfl,?_⟩;refine ite2 (fun _=>?_) (fun _=>?_)
 ·refine ⟨_,rfl,m,rfl,by lia,by lia,fun p hp=>?_⟩
  refine qIC (p:=p) (lo:=0) (n:=m.toNat) (fun i σ Hc=>∃ (v:Option V) (rs:List Addr) (Ae:List (List Int)),σ=[v,some (.int wide)]/\Same H2 Hc/\Hc p=some (.lst (rs.map V.ref))/\NetL Hc rs Ae/\Ae.length=i/\WFn Ae) ?_ ?_ ?_
  ·exact ⟨none,[],[],rfl,qA2 hp _,qA1,.nil,rfl,WFn.nil⟩
  ·refine fun i σ Hc hi hI_1=>opq fun G_1 hG_1=>?_;obtain ⟨v,rs,Ae,rfl,sm,hpc,N,hl,wf⟩:=hI_1;refine hG_1 ?_;refine ⟨_,rfl,_,rfl,_,_,rfl,rfl,0,_,rfl,_,rfl,_,_,rfl,fun p1 hp1=>?_⟩;refine ⟨p1,_,_,rfl,qA1,by split <;> lia,by split <;> lia,by lia,by lia,fun r hr1=>?_⟩
   have lo0:0<=(if (0+(i:Int)) - wide > 0 then (0+(i:Int)) - wide else 0):=by split <;> lia
   have hri:=qNQ (hi:=0+(i:Int)) lo0;dsimp only;rw [qDX];generalize qAC (if (0+(i:Int)) - wide > 0 then (0+(i:Int)) - wide else 0) (0+(i:Int))=zs at hri ⊢
   generalize HO.rng (if (0+(i:Int)) - wide > 0 then (0+(i:Int)) - wide else 0) (0+(i:Int))=ho at hp1 hr1 ⊢
   have s1:=(qA2 hp1 ho).trans (qA2 hr1 (.tup (zs.map V.int)));have g1:=s1 _ _ hpc;refine ⟨_,g1,qB8 (by rw [A0,NetAt.len N];lia),?_⟩
   rw [qBM];refine ⟨_,rs++[r],Ae++[zs],rfl,qAB (sm.trans s1) hp,qA1,qC1 (qBN (N.same fun r' ys e=>s1 _ _ e) qA1) g1,by rw [A5,B3,hl],wf.snoc ?_⟩
   rw [hl];exact hri.mono (by lia)
  ·refine fun σ Hc hI_2=>opq fun G_2 hG_2=>?_;obtain ⟨v,rs,Ae,rfl,sm,hpc,N,hl,wf⟩:=hI_2;refine hG_2 ?_;refine ⟨p,_,rfl,.inl ⟨SqL.of hpc,fun a ha=>?_⟩⟩;have s1:=qA2 ha (.tup (rs.map V.ref));exact q a Ae (t+1+1) ns2 _ (S2.same (sm.trans s1)) (by lia) (by lia) (K12.trans (.of_same (sm.trans s1))) ⟨rs,qA1,N.same fun r ys e=>s1 _ _ e⟩ wf (by rw [hl];lia)
 refine hN3 _ _ (cut fun N4 hN4=>?_);refine ⟨_,rfl,rfl,_,rfl,?_⟩;refine ite2 (fun _=>?_) (fun _=>?_)
 ·refine ⟨_,rfl,m,rfl,by lia,by lia,fun p hp=>?_⟩
  refine qIC (p:=p) (lo:=0) (n:=m.toNat) (fun i σ Hc=>∃ (v:Option V) (rs:List Addr) (ls:List (List Int)),σ=[v,some (.int wide)]/\Same H2 Hc/\Hc p=some (.lst (rs.map V.ref))/\Paired (fun r zs=>r ≠ p/\Hc r=some (.lst (zs.map V.int))) rs ls/\ls.length=i/\
   ∀ (j:Nat) zs,ls[j]?=some zs->zs.length<=2/\∀ x ∈ zs,0<=x/\x<(j:Int)) ?_ ?_ ?_
  ·exact ⟨none,[],[],rfl,qA2 hp _,qA1,.nil,rfl,fun j zs e=>by simp at e⟩
  ·refine fun i σ Hc hi hI_3=>opq fun G_3 hG_3=>?_;obtain ⟨v,rs,ls,rfl,sm,hpc,N,hl,wf⟩:=hI_3;refine hG_3 ?_;refine ⟨_,rfl,_,rfl,_,_,rfl,rfl,(by show 1<=B59;decide),fun a1 ha1=>?_⟩
   refine ⟨_,rfl,_,rfl,_,_,rfl,rfl,.inr ⟨_,rfl,?_⟩⟩;refine ⟨a1,_,_,rfl,rfl,qA1,by split <;> decide,by split <;> decide,?_,fun a2 ha2=>?_⟩
   ·have:∀ b:Bool,[V.int (0+(i:Int) - wide)].length * (if b=true then (1:Int) else 0).toNat<=B59:=by intro b;cases b <;> simp [B66]
    exact this _
   dsimp only;rw [qa5];refine ⟨_,rfl,_,_,rfl,rfl,(by show 1<=B59;decide),fun a3 ha3=>?_⟩
   refine ⟨_,rfl,_,rfl,_,_,rfl,rfl,(by show 0<wide;lia),_,_,rfl,rfl,.inr ⟨_,rfl,?_⟩⟩
   refine ⟨a3,_,_,rfl,rfl,qA1,by split <;> decide,by split <;> decide,?_,fun a4 ha4=>?_⟩
   ·have:∀ b:Bool,[V.int (0+(i:Int) - 1)].length * (if b=true then (1:Int) else 0).toNat<=B59:=by intro b;cases b <;> simp [B66]
    exact this _
   dsimp only;rw [qa5];have b1:∀ x ∈ (if decide (wide<=0+(i:Int))=true then [0+(i:Int) - wide] else []),0<=x/\x<(i:Int):=by
    intro x hx
    split at hx
    ·rename_i hd
     have:=of_decide_eq_true hd;rw [A6.mp hx];lia
    ·cases hx
   have b2:∀ x ∈ (if decide (0<(0+(i:Int)) % wide)=true then [0+(i:Int) - 1] else []),0<=x/\x<(i:Int):=by
    intro x hx
    split at hx
    ·rename_i hd
     have hd':=of_decide_eq_true hd;have:(i:Int) ≠ 0:=by
      intro e;rw [e] at hd';simp at hd'
     rw [A6.mp hx];lia
    ·cases hx
   have c1:(if decide (wide<=0+(i:Int))=true then [0+(i:Int) - wide] else []).length<=1:=by split <;> simp
   have c2:(if decide (0<(0+(i:Int)) % wide)=true then [0+(i:Int) - 1] else []).length<=1:=by split <;> simp
   generalize (if decide (wide<=0+(i:Int))=true then [0+(i:Int) - wide] else [])=z1 at b1 c1 ha3 ha4 ⊢
   generalize (if decide (0<(0+(i:Int)) % wide)=true then [0+(i:Int) - 1] else [])=z2 at b2 c2 ⊢
   have s2:=(qA2 ha3 (.lst [.int (0+(i:Int) - 1)])).trans (qA2 ha4 (.lst (z2.map V.int)));refine ⟨a2,a4,_,_,rfl,rfl,s2 _ _ qA1,qA1,Y3 (qB8 (by rw [A0,A0];lia)),fun a5 ha5=>?_⟩
   have s1:=(qA2 ha1 (.lst [.int (0+(i:Int) - wide)])).trans (qA2 ha2 (.lst (z1.map V.int)));have s3:=(s1.trans s2).trans (qA2 ha5 (.lst (z1.map V.int++z2.map V.int)));have e5:z1.map V.int++z2.map V.int=(z1++z2).map V.int:=by rw [B2]
   rw [e5] at s3 ⊢;have g1:=s3 _ _ hpc;have n5:a5 ≠ p:=(qA5 ((s1.trans s2) _ _ hpc) ha5).symm;refine ⟨_,g1,qB8 (by rw [A0,C6 N];lia),?_⟩
   rw [qBM];refine ⟨_,rs++[a5],ls++[z1++z2],rfl,qAB (sm.trans s3) hp,qA1,c8 (qH7 N fun r zs e=>⟨e.1,by rw [qA7 e.1];exact s3 _ _ e.2⟩) ⟨n5,by rw [qA7 n5];exact qA1⟩,by rw [A5,B3,hl],fun j zs e=>?_⟩
   rcases qP4 e with e | ⟨rfl,rfl⟩
   ·exact wf j zs e
   ·rw [hl];refine ⟨by rw [A5];lia,fun x hx=>?_⟩
    rcases B7.mp hx with hx | hx
    ·exact b1 x hx
    ·exact b2 x hx
  ·refine fun σ Hc hI_4=>opq fun G_4 hG_4=>?_;obtain ⟨v,rs,ls,rfl,sm,hpc,N,hl,wf⟩:=hI_4;refine hG_4 ?_;refine ⟨_,rfl,p,rfl,⟨_,SqL.of hpc⟩,fun p' hp'=>?_⟩;refine qL5 (p:=p') (a:=p) (xs:=rs.map V.ref) (fun i σ Hd=>∃ (v:Option V) (rs':List Addr) (Ae:List (List Int)),σ=[v]/\Same Hc Hd/\Hd p'=some (.lst (rs'.map V.ref))/\NetL Hd rs' Ae/\Ae.length=i/\WFn Ae) ?_ ?_ ?_ ?_
   ·exact ⟨none,[],[],rfl,qA2 hp' _,qA1,.nil,rfl,WFn.nil⟩
   ·rintro i σ Hd hi ⟨v,rs',Ae,rfl,sm2,_⟩;exact SqL.of (sm2 _ _ hpc)
   ·refine fun i x σ Hd hx hI_6=>opq fun G_6 hG_6=>?_;obtain ⟨v,rs',Ae,rfl,sm2,hpd,N2,hl2,wf2⟩:=hI_6;obtain ⟨r,hr1,rfl⟩:=qES hx;obtain ⟨zs,hz,_,hr2⟩:=qBA N hr1;obtain ⟨l2,m2⟩:=wf i zs hz;refine hG_6 ?_;refine ⟨_,rfl,r,zs,rfl,SqL.of (sm2 _ _ hr2),by lia,fun a ha=>?_⟩
    refine ⟨a,dedI zs,rfl,qA1,fun b ys hb hpm hs=>?_⟩;refine ⟨b,_,rfl,.inl ⟨SqL.of qA1,fun r2 hr3=>?_⟩⟩;have s1:=((qA2 ha (SetM w a (dedI zs))).trans (qA2 hb (.lst (ys.map V.int)))).trans (qA2 hr3 (.tup (ys.map V.int)));have g1:=s1 _ _ hpd;have lrs:rs.length=m.toNat:=by rw [C6 N,hl]
    have hi:i<rs.length:=(A3.mp hr1).1;refine ⟨_,g1,qB8 (by rw [A0,NetAt.len N2];lia),?_⟩
    rw [qBM];refine ⟨_,rs'++[r2],Ae++[ys],rfl,qAB (sm2.trans s1) hp',qA1,qC1 (qBN (N2.same fun r' zs' e=>s1 _ _ e) qA1) g1,by rw [A5,B3,hl2],wf2.snoc ?_⟩
    rw [hl2];exact qP9 hpm hs m2
   ·refine fun σ Hd hI_7=>opq fun G_7 hG_7=>?_;obtain ⟨v,rs',Ae,rfl,sm2,hpd,N2,hl2,wf2⟩:=hI_7;refine hG_7 ?_;refine ⟨p',_,rfl,.inl ⟨SqL.of hpd,fun a ha=>?_⟩⟩;have s1:=qA2 ha (.tup (rs'.map V.ref));refine q a Ae (t+1+1) ns2 _ (S2.same ((sm.trans sm2).trans s1)) (by lia) (by lia) (K12.trans (.of_same ((sm.trans sm2).trans s1))) ⟨rs',qA1,N2.same fun r ys e=>s1 _ _ e⟩ wf2 ?_
    rw [hl2,A0,C6 N,hl]
    lia
 refine hN4 _ _ (cut fun N5 hN5=>?_);refine ⟨_,rfl,rfl,_,rfl,?_⟩;refine ite2 (fun _=>?_) (fun _=>?_)
 ·refine ⟨_,rfl,_,rfl,d,c,t+1+1,ns2,m,rfl,S2,?_,hm0,hm1,fun a Ae t' ms H' a1 a2 a3 a4 a5 a6 a7=>?_⟩
  ·show t+1+1<=1000000000 - 1000;lia
  ·exact q a Ae t' ms H' a1 (by lia) (by lia) (K12.trans a4) a5 a6 a7
 refine hN5 _ _ (cut fun N6 hN6=>?_);refine ⟨_,rfl,rfl,_,rfl,?_⟩;refine ite2 (fun _=>?_) (fun _=>?_)
 ·refine ⟨_,rfl,_,_,rfl,rfl,⟨by decide,by decide⟩,?_⟩
  dsimp only;have hf0:0<=m / 2:=by lia
  have hf1:m / 2<=m:=by lia
  generalize m / 2=half at hf0 hf1;refine ⟨_,rfl,m,rfl,by lia,by lia,fun p hp=>?_⟩
  refine qIC (p:=p) (lo:=0) (n:=m.toNat) (fun i σ Hc=>∃ (v:Option V) (t':Int) (ms:List Int) (rs:List Addr) (Ae:List (List Int)),σ=[v,some (.ref d),some (.int half)]/\StAt Hc d c t' ms/\t+2<=t'/\t'<=t+2+9 * i/\Keep d c H2 Hc/\Hc p=some (.lst (rs.map V.ref))/\NetL Hc rs Ae/\Ae.length=i/\
   ∀ (j:Nat) zs,Ae[j]?=some zs->Rise (if (j:Int)<half then (j:Int) else (j:Int) - half) zs) ?_ ?_ ?_
  ·exact ⟨none,t+1+1,ns2,[],[],rfl,S2.new hp _,by lia,by lia,qE0 hp _,qA1,.nil,rfl,fun j zs e=>by simp at e⟩
  ·refine fun i σ Hc hi hI_8=>opq fun G_8 hG_8=>?_;obtain ⟨v,t',ms,rs,Ae,rfl,S3,b1,b2,k3,hpc,N,hl,wf⟩:=hI_8;refine hG_8 ?_;have npd:p ≠ d:=(qA5 S2.dict hp).symm;have npc:p ≠ c:=(qA5 S2.list hp).symm;have nx:∀ (kk:Int),kk=(if (i:Int)<half then (i:Int) else (i:Int) - half)->qNL [.ref d,.int kk] Hc (fun y H4=>∃ ys,H4 p=some (.lst ys)/\ys.length<B59/\∃ (v:Option V) (t':Int) (ms:List Int) (rs:List Addr) (Ae:List (List Int)),[some (V.int (0+(i:Int))),some (.ref d),some (.int half)]=[v,some (.ref d),some (.int half)]/\StAt (Ag H4 p (.lst (ys++[y]))) d c t' ms/\t+2<=t'/\t'<=t+2+9 * (i+1:Nat)/\Keep d c H2 (Ag H4 p (.lst (ys++[y])))/\(Ag H4 p (.lst (ys++[y]))) p=some (.lst (rs.map V.ref))/\NetL (Ag H4 p (.lst (ys++[y]))) rs Ae/\Ae.length=i+1/\
     ∀ (j:Nat) zs,Ae[j]?=some zs->Rise (if (j:Int)<half then (j:Int) else (j:Int) - half) zs) E0:=by
    intro kk ek;refine ⟨d,c,t',ms,kk,rfl,S3,(by show t'<=1000000000 - 20;lia),by rw [ek];split <;> lia,by rw [ek];split <;> lia,fun r zs t'' ms2 H3 e1 e2 e3 e4 e5 e6=>?_⟩
    have g1:=e4 _ _ hpc npd npc;refine ⟨_,g1,qB8 (by rw [A0,NetAt.len N];lia),?_⟩
    rw [qBM];refine ⟨_,t'',ms2,rs++[r],Ae++[zs],rfl,⟨by rw [qA7 (L8 npd)];exact e1.dict,by rw [qA7 (L8 npc)];exact e1.list,e1.ne,e1.len,e1.pos⟩,by lia,by lia,qID (k3.trans e4) hp,qA1,qC1 (qBN (N.keep (fun r ys e=>S3.tup e) e4) e5) g1,by rw [A5,B3,hl],fun j ys e=>?_⟩
    rcases qP4 e with e | ⟨rfl,rfl⟩
    ·exact wf j ys e
    ·rw [hl,<- ek];exact e6
   refine ⟨_,rfl,_,rfl,_,rfl,_,_,rfl,rfl,_,rfl,?_⟩;refine ite2 (fun ck=>?_) (fun ck=>?_)
   ·have ck':0+(i:Int)<half:=of_decide_eq_true ck;exact ⟨_,rfl,nx _ (by rw [if_pos (by lia)];lia)⟩
   ·have ck':¬ 0+(i:Int)<half:=of_decide_eq_false (Q1.mpr ck);exact ⟨_,rfl,_,rfl,_,_,rfl,rfl,nx _ (by rw [if_neg (by lia)];lia)⟩
  ·refine fun σ Hc hI_9=>opq fun G_9 hG_9=>?_;obtain ⟨v,t',ms,rs,Ae,rfl,S3,b1,b2,k3,hpc,N,hl,wf⟩:=hI_9;refine hG_9 ?_;have lrs:rs.length=m.toNat:=by rw [C6 N,hl]
   refine ⟨_,rfl,p,rfl,⟨_,SqL.of hpc⟩,fun p' hp'=>?_⟩;refine qYN (p:=p') (a:=p) (xs:=rs.map V.ref) (fun i σ Hd=>∃ (v1 v2:Option V) (rs':List Addr) (net':List (List Int)),σ=[v1,v2,some (.int half)]/\Same Hc Hd/\Hd p'=some (.lst (rs'.map V.ref))/\NetL Hd rs' net'/\net'.length=i/\WFn net') ?_ ?_ ?_ ?_
   ·exact ⟨none,none,[],[],rfl,qA2 hp' _,qA1,.nil,rfl,WFn.nil⟩
   ·rintro i σ Hd hi ⟨v1,v2,rs',net',rfl,sm2,_⟩;exact SqL.of (sm2 _ _ hpc)
   ·refine fun i x σ Hd T hx hI_11 hT=>opq fun G_11 hG_11=>?_;obtain ⟨v1,v2,rs',net',rfl,sm2,hpd,N2,hl2,wf2⟩:=hI_11;obtain ⟨r,hr1,rfl⟩:=qES hx;obtain ⟨zs,hz,hr2⟩:=qBA N hr1;refine hG_11 ?_;have hi:i<rs.length:=(A3.mp hr1).1;have rz:=wf i zs hz;have sT:=qA2 hT (.tup [.int (i:Int),.ref r]);have hrT:=sT _ _ (sm2 _ _ hr2);have hpT:=sT _ _ hpd;have NT:=N2.same fun r' zs' e=>sT _ _ e;have smT:=sm2.trans sT;have gT:SqT K (Ag Hd T (.tup [.int (i:Int),.ref r])) T [.int (i:Int),.ref r]:=SqT.of qA1;generalize Ag Hd T (.tup [.int (i:Int),.ref r])=HT' at hrT hpT NT smT gT ⊢;refine ⟨T,_,rfl,gT,rfl,_,_,rfl,_,_,rfl,rfl,?_⟩;refine ⟨_,rfl,_,rfl,_,_,rfl,rfl,_,rfl,?_⟩;refine ite2 (fun ck=>?_) (fun ck=>?_)
    ·have ck':(i:Int)<half:=of_decide_eq_true ck;rw [if_pos ck'] at rz;refine ⟨_,rfl,_,hpT,qB8 (by rw [A0,NetAt.len N2];lia),?_⟩
     rw [qBM];refine ⟨_,_,rs'++[r],net'++[zs],rfl,qAB smT hp',qA1,qC1 (qBN NT hrT) hpT,by rw [A5,B3,hl2],wf2.snoc ?_⟩
     rw [hl2];exact rz
    ·have ck':¬ (i:Int)<half:=of_decide_eq_false (Q1.mpr ck);rw [if_neg ck'] at rz;have lz:zs.length<=i:=by
      have e:((i:Int) - half)=(((i:Int) - half).toNat:Nat):=by lia
      rw [e] at rz;have:=rz.len
      lia
     refine ⟨_,rfl,r,rfl,⟨_,SqT.of hrT⟩,fun p2 hp2=>?_⟩;refine qGK (p:=p2) (a:=r) (xs:=zs.map V.int) (fun j σ He=>∃ (v:Option V),σ=[v,some (.int half)]/\Same HT' He/\He p2=some (.lst (((zs.take j).map (·+half)).map V.int))) ?_ ?_ ?_ ?_
     ·exact ⟨none,rfl,qA2 hp2 _,qA1⟩
     ·rintro j σ He hj ⟨v,rfl,sm3,_⟩;exact SqT.of (sm3 _ _ hrT)
     ·refine fun j x σ He hx2 hI_13=>opq fun G_13 hG_13=>?_;obtain ⟨v,rfl,sm3,hp3⟩:=hI_13;obtain ⟨z,hz2,rfl⟩:=qB4 hx2;refine hG_13 ?_;refine ⟨_,rfl,_,rfl,_,_,rfl,rfl,_,hp3,qB8 (by rw [A0,A0,E1];lia),_,rfl,qAB sm3 hp2,?_⟩
      rw [qA1,C9,hz2,D0,B2,B2]
      rfl
     ·refine fun σ He hI_14=>opq fun G_14 hG_14=>?_;obtain ⟨v,rfl,sm3,hp3⟩:=hI_14;refine hG_14 ?_;rw [A0,E6 (A9 _)] at hp3;refine ⟨p2,_,rfl,.inl ⟨SqL.of hp3,fun r2 hr3=>?_⟩⟩;have s1:=qA2 hr3 (.tup ((zs.map (·+half)).map V.int));have s2:=sm3.trans s1;have g1:=s2 _ _ hpT;refine ⟨_,g1,qB8 (by rw [A0,NetAt.len N2];lia),?_⟩
      rw [qBM];refine ⟨_,_,rs'++[r2],net'++[zs.map (·+half)],rfl,qAB (smT.trans s2) hp',qA1,qC1 (qBN (NT.same fun r' zs' e=>s2 _ _ e) qA1) g1,by rw [A5,B3,hl2],wf2.snoc ?_⟩
      rw [hl2];have:=rz.shift hf0;rw [show (i:Int) - half+half=(i:Int) by lia] at this
      exact this
   ·refine fun σ Hd hI_15=>opq fun G_15 hG_15=>?_;obtain ⟨v1,v2,rs',net',rfl,sm2,hpd,N2,hl2,wf2⟩:=hI_15;refine hG_15 ?_;refine ⟨p',_,rfl,.inl ⟨SqL.of hpd,fun a ha=>?_⟩⟩;have s1:=qA2 ha (.tup (rs'.map V.ref));refine q a net' t' ms _ (S3.same (sm2.trans s1)) (by lia) (by lia) (K12.trans (k3.trans (.of_same (sm2.trans s1)))) ⟨rs',qA1,N2.same fun r ys e=>s1 _ _ e⟩ wf2 ?_
    rw [hl2,A0,C6 N,hl]
    lia
 refine hN6 _ _ ?_;refine ⟨_,rfl,m,rfl,by lia,by lia,fun p hp=>?_⟩
 refine qIC (p:=p) (lo:=0) (n:=m.toNat) (fun i σ Hc=>∃ (v:Option V) (t':Int) (ms:List Int) (rs:List Addr) (Ae:List (List Int)),σ=[v,some (.ref d)]/\StAt Hc d c t' ms/\t+2<=t'/\t'<=t+2+9 * i/\Keep d c H2 Hc/\Hc p=some (.lst (rs.map V.ref))/\NetL Hc rs Ae/\Ae.length=i/\WFn Ae) ?_ ?_ ?_
 ·exact ⟨none,t+1+1,ns2,[],[],rfl,S2.new hp _,by lia,by lia,qE0 hp _,qA1,.nil,rfl,WFn.nil⟩
 ·refine fun i σ Hc hi hI_16=>opq fun G_16 hG_16=>?_;obtain ⟨v,t',ms,rs,Ae,rfl,S3,b1,b2,k3,hpc,N,hl,wf⟩:=hI_16;refine hG_16 ?_;have npd:p ≠ d:=(qA5 S2.dict hp).symm;have npc:p ≠ c:=(qA5 S2.list hp).symm;refine ⟨_,rfl,_,rfl,d,c,t',ms,0+(i:Int),rfl,S3,(by show t'<=1000000000 - 20;lia),by lia,by lia,fun r zs t'' ms2 H3 e1 e2 e3 e4 e5 e6=>?_⟩
  have g1:=e4 _ _ hpc npd npc;refine ⟨_,g1,qB8 (by rw [A0,NetAt.len N];lia),?_⟩
  rw [qBM];refine ⟨_,t'',ms2,rs++[r],Ae++[zs],rfl,⟨by rw [qA7 (L8 npd)];exact e1.dict,by rw [qA7 (L8 npc)];exact e1.list,e1.ne,e1.len,e1.pos⟩,by lia,by lia,qID (k3.trans e4) hp,qA1,qC1 (qBN (N.keep (fun r ys e=>S3.tup e) e4) e5) g1,by rw [A5,B3,hl],wf.snoc ?_⟩
  rw [hl];exact e6.mono (by lia)
 ·refine fun σ Hc hI_17=>opq fun G_17 hG_17=>?_;obtain ⟨v,t',ms,rs,Ae,rfl,S3,b1,b2,k3,hpc,N,hl,wf⟩:=hI_17;refine hG_17 ?_;refine ⟨p,_,rfl,.inl ⟨SqL.of hpc,fun a ha=>?_⟩⟩;have s1:=qA2 ha (.tup (rs.map V.ref));exact q a Ae t' ms _ (S3.same s1) (by lia) (by lia) (K12.trans (k3.trans (.of_same s1))) ⟨rs,qA1,N.same fun r ys e=>s1 _ _ e⟩ wf (by rw [hl];lia)
end
section
variable {P:B60} {w:World} {K:PySem.W.Frag} {mg:Str->Option Value} {base:Heap} {f:Addr} {fd:B65}
theorem qV0:FnScope ["_law_found","_law_due"] ["_law_found","_law_due"] (qAI qIS):=⟨rfl,rfl,rfl,by decide +kernel,rfl,by decide +kernel,by decide +kernel⟩
def spS:Nat->Sp
 | 0=>fun _ _ _ _=>False
 | n+1=>qZW n
theorem ok_Lsame_step {n:Nat} {qET:Addr} {qGS:B65} (F:Fun K "_law_same" "_law_same" qIS f fd) (qZK:FnOk P w K mg base CX0 n qET qGS ["_law_found","_law_due"] (spS n)) (qG4:Binds K qGS ["_law_found","_law_due"] []) (qL7:Q8 K (.ref qET)=true) (qG1:mg "_law_same" = some (.ref qET))
  (qAA:mg "isinstance" = none) (qB5:mg "list" = none) (qAJ:mg "tuple" = none) (qKL:mg "str" = none) (qEI:mg "int" = none) (qEK:mg "bool" = none) (qB6:mg "len" = none) (qFU:mg "all" = none) (qG9:mg "zip" = none):FnOk P w K mg base CX0 (n+1) f fd ["_law_found","_law_due"] (spS (n+1)):=by
 refine F.ok qV0 (fun vs H Q E h=>?_) (fun cdv A outer s H vs Q E hr h=>?_)
 ·obtain ⟨x,y,rfl,_⟩:=h
  rfl
 obtain ⟨x,y,rfl,hal,q⟩:=h;have qVS:Room n _:=hr;refine ⟨_,(qA4 (qBP (qK1 (qX0 (pv 1))) (qA8 (qAO (qaF (qX0 (pv 0))))) qAP) (qA4 (qBP (PW.pt (qM8 (qDL (qA9 qAV rfl qAA qAK (qA0 (pv 1) (qA0 (qBZ (v:=.ty "list") rfl qB5 qDJ rfl) qA3)))) (qIU (qDL (qA9 qAV rfl qAA qAK (qA0 (pv 1) (qA0 (qBZ (v:=.ty "tuple") rfl qAJ qB2 rfl) qA3))))))) (qA4 (qBP (qAL qNW (qA9 qAV rfl qAA qAK (qA0 (pv 0) (qA0 (qBZ (v:=.ty "list") rfl qB5 qDJ rfl) qA3))) (qA9 qAV rfl qAA qAK (qA0 (pv 1) (qA0 (qBZ (v:=.ty "list") rfl qB5 qDJ rfl) qA3))) (qAW _)) (qA8 (qAO qGD)) qAP) (qA4 (qBP (PW.pt (qM8 (qAL qNW (qA9 qAV rfl qAA qAK (qA0 (pv 0) (qA0 (qBZ (v:=.ty "tuple") rfl qAJ qB2 rfl) qA3))) (qA9 qAV rfl qAA qAK (qA0 (pv 1) (qA0 (qBZ (v:=.ty "tuple") rfl qAJ qB2 rfl) qA3))) (qAW _)) (qIU (qAL qNW (qA9 qAE rfl qB6 qBQ (qA0 (pv 0) qA3)) (qA9 qAE rfl qB6 qBQ (qA0 (pv 1) qA3)) (qAW _))))) (qA8 (qAO qGD)) qAP) (qA8 (qAO (qA9 (qIJ rfl) rfl qFU qQ7 (qA0 (qEQ rfl (lcs (own:=["_law_one","_law_other"]) (fv:=[]) (by kernel_rfl)) (qSD rfl qG9 qUA (qA0 (pv 0) (qA0 (pv 1) qA3))) (fun z1=>qNU (K:=K) (n:=2) rfl rfl (qBR (qAG (i:=0) (qCV (by kernel_rfl)) rfl (E5 rfl)) (qBR (qAG (i:=1) (qCV (by kernel_rfl)) rfl (E5 rfl)) qH5)) rfl rfl) (fun z1=>qBI) (fun z1=>(qSF qZK qVS rfl qG1 qL7 qG4 .nil qaH (qA0 (pv 0) (qA0 (pv 1) qA3))))) qA3)))))) qAP) (qA4 (qBP (qDL (qA9 qAV rfl qAA qAK (qA0 (pv 1) (qA0 (qBZ (v:=.ty "str") rfl qKL qXJ rfl) qA3)))) (qA8 (qAO (qK2 (qA9 qAV rfl qAA qAK (qA0 (pv 0) (qA0 (qBZ (v:=.ty "str") rfl qKL qXJ rfl) qA3))) (qPF (qDH qIY (pv 0) (pv 1) (qAW _)))))) qAP) (qA8 (qAO (qK2 (qA9 qAV rfl qAA qAK (qA0 (pv 0) (qA0 (qBZ (v:=.ty "int") rfl qEI qN4 rfl) qA3))) (qK2 (qWZ (qA9 qAV rfl qAA qAK (qA0 (pv 0) (qA0 (qBZ (v:=.ty "bool") rfl qEK qUD rfl) qA3)))) (qPF (qDH qIY (pv 0) (pv 1) (qAW _)))))))))),?_⟩
 try dsimp only [Cx.nox,Cx.wish,cxOf]
 have leaf:x=y/\Leaf x\/∃ (m:Nat) (b:Bool) (a c:Addr) (xs ys:List V),n=m+1/\x=.ref a/\y=.ref c/\H a=some (seqO b xs)/\H c=some (seqO b ys)/\xs.length=ys.length/\xs.length<=100000/\∀ (i:Nat) (x' y':V),xs[i]?=some x'->ys[i]?=some y'->Alike H m x' y':=by
  cases n with
  | zero=>exact .inl hal
  | succ m=>
   rcases hal with h | ⟨b,a,c,xs,ys,h⟩
   ·exact .inl h
   ·exact .inr ⟨m,b,a,c,xs,ys,rfl,h⟩
 rcases leaf with ⟨rfl,hl⟩ | ⟨m,b,a,c,xs,ys,rfl,rfl,rfl,ha,hc,hlen,hbd,hel⟩
 ·refine ⟨_,rfl,_,rfl,?_⟩;rcases hl with rfl | ⟨i,rfl⟩ | ⟨y,rfl⟩
  ·exact ⟨_,rfl,q H (Same.refl H)⟩
  ·refine ⟨_,rfl,_,"list",_,false,rfl,TyOf.int i,qb1,_,rfl,?_⟩;refine ⟨_,rfl,_,"tuple",_,false,rfl,TyOf.int i,qaZ,_,rfl,?_⟩;refine ⟨_,rfl,_,"str",_,false,rfl,TyOf.int i,qb0,_,rfl,?_⟩;refine ⟨_,rfl,_,"int",_,true,rfl,TyOf.int i,qb2,_,rfl,?_⟩;refine ⟨_,rfl,_,"bool",_,false,rfl,TyOf.int i,qb3,_,rfl,_,rfl,?_⟩;refine ⟨_,rfl,_,rfl,rfl,?_⟩;have e:decide (V.int i=V.int i)=true:=decide_eq_true rfl;have q':Q (.bl (decide (V.int i=V.int i))) H:=by rw [e];exact q H (Same.refl H)
   exact q'
  ·refine ⟨_,rfl,_,"list",_,false,rfl,TyOf.str y,qaY,_,rfl,?_⟩;refine ⟨_,rfl,_,"tuple",_,false,rfl,TyOf.str y,qaX,_,rfl,?_⟩;refine ⟨_,rfl,_,"str",_,true,rfl,TyOf.str y,qX4,_,rfl,?_⟩;refine ⟨_,rfl,_,"str",_,true,rfl,TyOf.str y,qX4,_,rfl,?_⟩;refine ⟨_,rfl,_,rfl,rfl,?_⟩;have e:decide (V.str y=V.str y)=true:=decide_eq_true rfl;have q':Q (.bl (decide (V.str y=V.str y))) H:=by rw [e];exact q H (Same.refl H)
   exact q'
 ·have step:∀ (i:Nat) (x' y':V) (Hi:Hp) (Q':VK) (E':XK),Same H Hi->xs[i]?=some x'->ys[i]?=some y'->(∀ H',Same Hi H'->Q' (.bl true) H')->spS (m+1) [x',y'] Hi Q' E':=fun i x' y' Hi Q' E' s e1 e2 k=>⟨x',y',rfl,(hel i x' y' e1 e2).same s,k⟩;have fin:∀ (H1:Hp),Same H H1->Q (.bl true) H1:=q;have el:(!decide (V.int ((xs.length:Nat):Int)=V.int ((ys.length:Nat):Int)))=false:=by rw [hlen];simp
  cases b
  ·refine ⟨_,rfl,_,rfl,_,rfl,_,"list",_,true,rfl,qIP hc,qK8 false,_,rfl,?_⟩;refine ⟨_,rfl,_,"list",_,true,rfl,qIP ha,qK8 false,_,rfl,_,"list",_,true,rfl,qIP hc,qK8 false,rfl,_,rfl,?_⟩;refine ⟨_,rfl,_,"tuple",_,false,rfl,qIP ha,qML false,_,rfl,_,"tuple",_,false,rfl,qIP hc,qML false,rfl,_,rfl,?_⟩;refine ⟨_,rfl,a,_,rfl,.inl (SqL.of ha),_,rfl,c,_,rfl,.inl (SqL.of hc),rfl,?_⟩;rw [el];refine ⟨_,rfl,_,rfl,_,rfl,false,a,c,rfl,⟨_,SqB.of ha⟩,⟨_,SqB.of hc⟩,fun p hp=>?_⟩;refine qX2 (b:=false) (p:=p) (xs:=xs) (ys:=ys) hlen (fun i σ Hi=>∃ (v0 v1:Option V),σ=[v0,v1]/\Same H Hi/\Hi p=some (.lst ((D6 i true).map V.bl))) ⟨none,none,rfl,qA2 hp _,qA1⟩ (fun i σ Hi _ ⟨_,_,_,sm,_⟩=>⟨SqB.of (sm _ _ ha),SqB.of (sm _ _ hc)⟩) ?_ ?_
   ·refine fun i x' y' σ Hi T ex ey hI_1 hT=>opq fun G_1 hG_1=>?_;obtain ⟨v0,v1,rfl,sm,hpi⟩:=hI_1;refine hG_1 ?_;have li:i<xs.length:=(A3.mp ex).1;refine ⟨T,_,rfl,SqT.of qA1,rfl,_,_,rfl,_,_,rfl,rfl,?_⟩;have s1:=sm.trans (qA2 hT (.tup [x',y']));refine ⟨_,rfl,_,rfl,?_⟩;dsimp only [tNil,A28,d6];refine step i x' y' _ _ _ s1 ex ey fun H' sm'=>?_;refine ⟨_,(sm' _ _ ((qA2 hT _) _ _ hpi)),?_,_,_,rfl,(fun b u e=>by rw [qA7 (qA5 e hp)];exact (s1.trans sm') b u e),?_⟩
    ·rw [A0,G7,B66];lia
    ·rw [qA1,qUE]
   ·refine fun σ Hi hI_2=>opq fun G_2 hG_2=>?_;obtain ⟨v0,v1,rfl,sm,hpi⟩:=hI_2;refine hG_2 ?_;refine ⟨p,_,rfl,SqL.of hpi,?_⟩;rw [qUJ];exact q Hi sm
  ·refine ⟨_,rfl,_,rfl,_,rfl,_,"list",_,false,rfl,qIP hc,qK8 true,_,rfl,?_⟩;refine ⟨_,rfl,_,"tuple",_,true,rfl,qIP hc,qML true,_,rfl,?_⟩;refine ⟨_,rfl,_,"list",_,false,rfl,qIP ha,qK8 true,_,rfl,_,"list",_,false,rfl,qIP hc,qK8 true,rfl,_,rfl,?_⟩;refine ⟨_,rfl,_,"tuple",_,true,rfl,qIP ha,qML true,_,rfl,_,"tuple",_,true,rfl,qIP hc,qML true,rfl,_,rfl,?_⟩;refine ⟨_,rfl,a,_,rfl,.inr (SqT.of ha),_,rfl,c,_,rfl,.inr (SqT.of hc),rfl,?_⟩;rw [el];refine ⟨_,rfl,_,rfl,_,rfl,true,a,c,rfl,⟨_,SqB.of ha⟩,⟨_,SqB.of hc⟩,fun p hp=>?_⟩;refine qX2 (b:=true) (p:=p) (xs:=xs) (ys:=ys) hlen (fun i σ Hi=>∃ (v0 v1:Option V),σ=[v0,v1]/\Same H Hi/\Hi p=some (.lst ((D6 i true).map V.bl))) ⟨none,none,rfl,qA2 hp _,qA1⟩ (fun i σ Hi _ ⟨_,_,_,sm,_⟩=>⟨SqB.of (sm _ _ ha),SqB.of (sm _ _ hc)⟩) ?_ ?_
   ·refine fun i x' y' σ Hi T ex ey hI_3 hT=>opq fun G_3 hG_3=>?_;obtain ⟨v0,v1,rfl,sm,hpi⟩:=hI_3;refine hG_3 ?_;have li:i<xs.length:=(A3.mp ex).1;refine ⟨T,_,rfl,SqT.of qA1,rfl,_,_,rfl,_,_,rfl,rfl,?_⟩;have s1:=sm.trans (qA2 hT (.tup [x',y']));refine ⟨_,rfl,_,rfl,?_⟩;dsimp only [tNil,A28,d6];refine step i x' y' _ _ _ s1 ex ey fun H' sm'=>?_;refine ⟨_,(sm' _ _ ((qA2 hT _) _ _ hpi)),?_,_,_,rfl,(fun b u e=>by rw [qA7 (qA5 e hp)];exact (s1.trans sm') b u e),?_⟩
    ·rw [A0,G7,B66];lia
    ·rw [qA1,qUE]
   ·refine fun σ Hi hI_4=>opq fun G_4 hG_4=>?_;obtain ⟨v0,v1,rfl,sm,hpi⟩:=hI_4;refine hG_4 ?_;refine ⟨p,_,rfl,SqL.of hpi,?_⟩;rw [qUJ];exact q Hi sm
theorem ok_Lsame (F:Fun K "_law_same" "_law_same" qIS f fd) (qG4:Binds K fd ["_law_found","_law_due"] []) (qL7:Q8 K (.ref f)=true) (qG1:mg "_law_same" = some (.ref f))
  (qAA:mg "isinstance" = none) (qB5:mg "list" = none) (qAJ:mg "tuple" = none) (qKL:mg "str" = none) (qEI:mg "int" = none) (qEK:mg "bool" = none) (qB6:mg "len" = none) (qFU:mg "all" = none) (qG9:mg "zip" = none) (n:Nat):FnOk P w K mg base CX0 n f fd ["_law_found","_law_due"] (spS n):=by
 induction n with
 | zero=>exact ⟨fun _ _ _ _ h=>h.elim,fun _ _ _ _ _ _ _ _ _ _ _ _ _ h=>h.elim⟩
 | succ n ih=>exact ok_Lsame_step F ih qG4 qL7 qG1 qAA qB5 qAJ qKL qEI qEK qB6 qFU qG9
end
section
variable {P:B60} {w:World} {K:PySem.W.Frag} {mg:Str->Option Value} {base:Heap} {f:Addr} {fd:B65} {qCA:Addr} {qC4:B65}
theorem sc_Lmany:FnScope ["_law_state","_law_most","_law_way"] ["_law_state","_law_most"] (qAI qKT):=⟨rfl,rfl,rfl,by decide +kernel,rfl,by decide +kernel,by decide +kernel⟩
theorem ok_Lmany (F:Fun K "_law_many" "_law_many" qKT f fd) (qAN:Clb P w K mg base 1 qCA qC4 "_law_take" ["_law_state","_law_many_here"] qIR):FnOk P w K mg base CX0 2 f fd ["_law_state","_law_most"] qWT:=by
 refine F.ok sc_Lmany (fun vs H Q E h=>?_) (fun cdv A outer s H vs Q E hr h=>?_)
 ·obtain ⟨d,c,t,ns,m,rfl,_⟩:=h
  rfl
 obtain ⟨d,c,t,ns,m,rfl,S,ht,m9,m400,q⟩:=h;have ht':t<=1000000000 - 100:=ht;have qPT:Room 1 _:=hr;refine ⟨_,(qA4 (qAF (i:=2) sc_Lmany.nd rfl (E5 rfl) (qAZ qAN hr rfl (qA0 (pv 0) (qA0 qA6 qA3)))) (qA4 (qBP (qAL qIY (pv 2) qA6 (qAW _)) (qA8 (qAO (qAH qCU (pv 1) (qAZ qAN hr rfl (qA0 (pv 0) (qA0 (qAH qFY (pv 1) qA6) qA3)))))) qAP) (qA8 (qAO (qC7 qBT (qAY (qA0 (qAH qC0 qA6 (qAZ qAN hr rfl (qA0 (pv 0) (qA0 qA6 qA3)))) (qA0 qA6 (qA0 qA6 (qA0 qA6 (qA0 qA6 (qA0 qA6 (qA0 (qAH qC0 qA6 (qAZ qAN hr rfl (qA0 (pv 0) (qA0 qA6 qA3)))) qA3)))))))) (qAH qCU (pv 2) qA6) (fun _ _=>rfl)))))),?_⟩
 try dsimp only [Cx.nox,Cx.wish,cxOf]
 refine ⟨_,rfl,d,c,t,ns,8,rfl,S,(by show t<=1000000000;lia),by decide,by decide,fun k ns1 H1 k0 k8 S1 K1=>?_⟩
 refine ⟨_,rfl,rfl,_,rfl,?_⟩;refine ite2 (fun ck=>?_) (fun ck=>?_)
 ·refine ⟨_,rfl,_,rfl,_,rfl,_,_,rfl,rfl,⟨by decide,by decide⟩,d,c,t+1,ns1,m / 2,rfl,S1,(by show t+1<=1000000000;lia),by lia,by lia,fun k2 ns2 H2 a0 a1 S2 K2=>⟨_,_,rfl,rfl,?_⟩⟩
  exact q _ _ ns2 H2 (by lia) (by lia) S2 (by lia) (by lia) (K1.trans K2)
 ·have nk:¬ k=0:=fun e=>(of_decide_eq_false (Q1.mpr ck)) (by rw [e])
  refine ⟨_,rfl,d,c,t+1,ns1,2,rfl,S1,(by show t+1<=1000000000;lia),by decide,by decide,fun k2 ns2 H2 a0 a1 S2 K2=>⟨_,_,rfl,rfl,?_⟩⟩
  refine ⟨_,rfl,d,c,t+1+1,ns2,2,rfl,S2,(by show t+1+1<=1000000000;lia),by decide,by decide,fun k3 ns3 H3 b0 b1 S3 K3=>⟨_,_,rfl,rfl,?_⟩⟩
  refine ⟨(by show 7<=B59;decide),fun p hp=>?_⟩
  have sp:=qA2 hp (.lst [.int (1+k2),.int 3,.int 4,.int 5,.int 6,.int 7,.int (8+k3)]);obtain ⟨v,hv,v1,v9⟩:=qc4 (a:=1+k2) (b:=8+k3) (k:=k - 1) (by lia) (by lia) (by lia) (by lia)
  refine ⟨_,rfl,_,_,rfl,rfl,p,_,_,_,rfl,rfl,SqL.of qA1,hv,?_⟩;exact q v _ ns3 _ v1 (by lia) (S3.same sp) (by lia) (by lia) (((K1.trans K2).trans K3).trans (.of_same sp))
end
section
variable {P:B60} {w:World} {K:PySem.W.Frag} {mg:Str->Option Value} {base:Heap} {f:Addr} {fd:B65}
theorem sc_Lpath_count:FnScope ["_law_net_here","_law_work","_law_many_here","_law_needs"] ["_law_net_here","_law_work"] (qAI qCH):=⟨rfl,rfl,rfl,by decide +kernel,rfl,by decide +kernel,by decide +kernel⟩
theorem ok_Lpath_count (F:Fun K "_law_path_count" "_law_path_count" qCH f fd) (qKK:mg "sum" = none) (qH1:mg "max" = none):FnOk P w K mg base CX0 1 f fd ["_law_net_here","_law_work"] qOZ:=by
 refine F.ok sc_Lpath_count (fun vs H Q E h=>?_) (fun cdv A outer s H vs Q E hr h=>?_)
 ·obtain ⟨a,Ae,work,rfl,_⟩:=h
  rfl
 obtain ⟨a,Ae,work,rfl,hN,wf,n401,w0,w1,q⟩:=h;refine ⟨_,(qA4 (qAF (i:=2) sc_Lpath_count.nd rfl (A64 rfl) (qAY qA3)) (qA4 (qBX E4 rfl (qD3 (pv 0)) (qAG (i:=3) sc_Lpath_count.nd rfl (E5 rfl)) (qA8 (qB9 (qDZ C7 G0 G1 qBB (pv 2) (qA0 (qA9 (qJK rfl) rfl qH1 qQ6 (qA0 qA6 (qA0 (qA9 (qQ3 rfl) rfl qKK qXI (qA0 (qEQ rfl (lcs (own:=["_law_need"]) (fv:=[2]) (by kernel_rfl)) (qD3 (pv 3)) (fun z1=>qAG (i:=0) (qCV (by kernel_rfl)) rfl (E5 rfl)) (fun z1=>qBI) (fun z1=>(qC7 (qVP (K:=K) rfl) (pv 1) (pv 0) (fun _ _=>rfl)))) qA3)) qA3))) qA3))))) (qA8 (qAO (qC7 qBT (pv 2) (pv 1) (fun _ _=>rfl)))))),?_⟩
 try dsimp only [Cx.nox,Cx.wish,cxOf]
 obtain ⟨rs,hA,NL⟩:=id hN;have lrs:=C6 NL;refine cut fun N0 hN0=>?_;refine ⟨(by show 0<=B59;decide),fun lc hlc=>?_⟩
 have s1:=qA2 hlc (.lst []);have g1:(Ag H lc (.lst [])) lc=some (.lst ((qFK Ae 0).map V.int)):=qA1;generalize Ag H lc (.lst [])=H1 at s1 g1 ⊢;refine hN0 _ _ (cut fun N1 hN1=>?_);refine ⟨_,rfl,a,rfl,⟨_,SqT.of (s1 _ _ hA)⟩,qJA (a:=a) (xs:=rs.map V.ref) (fun i σ Hc=>∃ v3:Option V,σ=[some (.ref a),some (.int work),some (.ref lc),v3]/\Same H Hc/\Hc lc=some (.lst ((qFK Ae i).map V.int))) ⟨none,rfl,s1,g1⟩ (fun i σ Hc _ hP=>by obtain ⟨_,_,sc,_⟩:=hP;exact SqT.of (sc _ _ hA)) ?_ ?_⟩
 ·refine fun i x σ Hc hx hI_1=>opq fun G_1 hG_1=>?_;obtain ⟨v3,rfl,sc,gc⟩:=hI_1;obtain ⟨r,er,rfl⟩:=qES hx;refine hG_1 ?_;have hi:=(A3.mp er).1;obtain ⟨ys,eys,hr2⟩:=qBA NL er;have rz:=wf i ys eys;have en:nd Ae (i:Int)=ys:=qBJ (by rw [K9];exact eys)
  have lys:=rz.len;refine ⟨_,rfl,.inl ⟨rfl,_,SqL.of gc⟩,_,rfl,r,rfl,⟨_,SqT.of (sc _ _ hr2)⟩,fun p hp=>?_⟩;refine qGK (p:=p) (a:=r) (xs:=ys.map V.int) (fun j σ Hd=>∃ (v:Option V),σ=[v,some (.ref lc)]/\Same Hc Hd/\Hd p=some (.lst (((ys.take j).map (cn Ae)).map V.int))) ?_ ?_ ?_ ?_
  ·exact ⟨none,rfl,qA2 hp _,qA1⟩
  ·rintro j σ Hd hj ⟨v,rfl,sd,_⟩;exact SqT.of (sd _ _ (sc _ _ hr2))
  ·refine fun j x σ Hd hx hI_3=>opq fun G_3 hG_3=>?_;obtain ⟨v,rfl,sd,hpd⟩:=hI_3;obtain ⟨y,ey,rfl⟩:=qB4 hx;refine hG_3 ?_;have hj:=(A3.mp ey).1;have yb:=rz.in_ y (B6 ey);have hg:atI ((qFK Ae i).map V.int) y=some (.int (cn Ae y)):=qD6 yb.1 (by rw [C4,qJE yb.1 yb.2];rfl)
   refine ⟨_,rfl,_,rfl,lc,_,_,_,rfl,rfl,SqL.of (sd _ _ gc),hg,_,hpd,qAR (by rw [A0,A0,E1];lia),?_⟩
   refine ⟨_,rfl,qAB sd hp,?_⟩;rw [qA1,C9,ey,D0,B2,B2]
   rfl
  refine fun σ Hd hI_4=>opq fun G_4 hG_4=>?_;obtain ⟨v,rfl,sd,hpd⟩:=hI_4;refine hG_4 ?_;rw [A0,qOU rfl] at hpd;refine ⟨p,_,rfl,SqL.of hpd,1,_,rfl,lc,_,_,rfl,rfl,sd _ _ gc,qAR (by rw [A0,qDP];lia),?_⟩
  refine ⟨_,rfl,qAB (sc.trans sd) hlc,?_⟩;rw [qA1];have e1:=qbL wf (z:=(i:Int)) (by lia)
  rw [en] at e1;rw [<- e1,qII,qII,t9,B2,B2]
  rfl
 ·refine fun σ Hc hI_5=>opq fun G_5 hG_5=>?_;obtain ⟨v3,rfl,sc,gc⟩:=hI_5;refine hG_5 ?_;refine hN1 _ _ ?_;rw [A0,lrs] at gc;have hg:atI ((qFK Ae Ae.length).map V.int) work=some (.int (cn Ae work)):=qD6 w0 (by rw [C4,qJE w0 w1];rfl)
  exact ⟨_,rfl,_,rfl,lc,_,_,_,rfl,rfl,SqL.of gc,hg,q _ sc⟩
theorem qbB {p:List Int} (h:p ≠ []):atI (p.map V.int) 0=some (.int (hd p)):=by
 cases p with
 | nil=>exact absurd rfl h
 | cons x p=>exact qD6 (M6 _) rfl
theorem qPQ {r:Addr} {rs:List Addr}:(((r::rs).reverse.map V.ref)[((r::rs).reverse.map V.ref).length - 1]?=some (V.ref r))/\((r::rs).reverse.map V.ref).dropLast=rs.reverse.map V.ref:=by
 rw [A13,B2]
 constructor
 ·rw [A5,A0,A0];simp
 ·simp
theorem sc_Lpaths:FnScope ["_law_net_here","_law_work","_law_found","_law_pile","_law_path"] ["_law_net_here","_law_work"] (qAI qI8):=⟨rfl,rfl,rfl,by decide +kernel,rfl,by decide +kernel,by decide +kernel⟩
theorem ok_Lpaths (F:Fun K "_law_paths" "_law_paths" qI8 f fd) (qB1:mg "sorted" = none):FnOk P w K mg base CX0 1 f fd ["_law_net_here","_law_work"] qKQ:=by
 refine F.ok sc_Lpaths (fun vs H Q E h=>?_) (fun cdv A outer s H vs Q E hr h=>?_)
 ·obtain ⟨a,Ae,work,rfl,_⟩:=h
  rfl
 obtain ⟨a,Ae,work,rfl,hN,wf,n401,w0,w1,few,q⟩:=h;have hu64:=hr.units;have hu0:=hr.units0;refine ⟨_,(qA4 (qAF (i:=2) sc_Lpaths.nd rfl (E5 rfl) (qAY qA3)) (qA4 (qAF (i:=3) sc_Lpaths.nd rfl (E5 rfl) (qAY (qA0 (qCT (qA0 (pv 1) qA3)) qA3))) (qA4 (qDY E4 (qAL (qMC hu0) (pv 3) (qAY qA3) (qAW _)) (qA4 (qAF (i:=4) sc_Lpaths.nd rfl (A64 rfl) (qMA C7 Z1 Z2 qSR (pv 3))) (qA4 (qBP (qAL (qH8 hu0) (qC7 qDO (pv 0) (qC7 qDO (pv 4) qA6 (fun _ _=>rfl)) (fun _ _=>rfl)) (qCT qA3) (qAW _)) (qA8 (qB9 (qDZ C7 G0 G1 qBB (pv 2) (qA0 (pv 4) qA3)))) qAP) (qA8 (qB9 (qDZ C7 R3 R4 qJ0 (pv 3) (qA0 (qEQ rfl (lcs (own:=["_law_need"]) (fv:=[4]) (by kernel_rfl)) (qD3 (qC7 qDO (pv 0) (qC7 qDO (pv 4) qA6 (fun _ _=>rfl)) (fun _ _=>rfl))) (fun z1=>qAG (i:=0) (qCV (by kernel_rfl)) rfl (E5 rfl)) (fun z1=>qBI) (fun z1=>(qAH (qVC (K:=K) rfl) (qCT (qA0 (pv 0) qA3)) (pv 1)))) qA3))))))) (qA8 (qAO (qA9 (L2.G.call_sortedTL rfl hu64) rfl qB1 qEW (qA0 (pv 2) qA3))))))),?_⟩
 try dsimp only [Cx.nox,Cx.wish,cxOf]
 obtain ⟨rs,hA,NL⟩:=id hN;have lrs:=C6 NL;refine cut fun N1 hN1=>?_;refine ⟨(by show 0<=B59;decide),fun lp hlp=>?_⟩
 have s2:=qA2 hlp (.lst []);have flp:H lp=none:=hlp;have g2:(Ag H lp (.lst [])) lp=some (.lst (([]:List Addr).map V.ref)):=qA1;generalize Ag H lp (.lst [])=H2 at s2 g2 ⊢;refine hN1 _ _ (cut fun N2 hN2=>?_);refine ⟨_,rfl,(by show 1<=B59;decide),fun r0 hr0=>?_⟩
 have t3:=qA2 hr0 (.tup [.int work]);have g3:(Ag H2 r0 (.tup [.int work])) r0=some (.tup ([work].map V.int)):=qA1;generalize Ag H2 r0 (.tup [.int work])=H3 at t3 g3 ⊢;refine ⟨(by show 1<=B59;decide),fun lb hlb=>?_⟩
 have t4:=qA2 hlb (.lst [.ref r0]);have s4:=s2.trans (t3.trans t4);have flb:H lb=none:=(s2.trans t3).free hlb;have g4:(Ag H3 lb (.lst [.ref r0])) lb=some (.lst ([r0].reverse.map V.ref)):=qA1;have g4p:=(t3.trans t4) _ _ g2;have N4:NetL (Ag H3 lb (.lst [.ref r0])) [r0] [[work]]:=.cons (t4 _ _ g3) .nil;have npb:lp ≠ lb:=qA5 (t3 _ _ g2) hlb;generalize Ag H3 lb (.lst [.ref r0])=H4 at s4 g4 g4p N4 ⊢;refine hN2 _ _ (cut fun N3 hN3=>?_);refine ⟨fun m σ Hc=>∃ (fs st:List (List Int)) (frs srs:List Addr) (v4:Option V),σ=[some (.ref a),some (.int work),some (.ref lp),some (.ref lb),v4]/\m=msP Ae st/\Same H Hc/\Hc lp=some (.lst (frs.map V.ref))/\NetL Hc frs fs/\Hc lb=some (.lst (srs.reverse.map V.ref))/\NetL Hc srs st/\PWay Ae work fs st,
  ⟨_,[],[[work]],[],[r0],none,rfl,rfl,s4,g4p,.nil,g4,N4,PWay.start w0 w1⟩,?_⟩
 refine fun m σ Hb hI_1=>opq fun G_1 hG_1=>?_;obtain ⟨fs,st,frs,srs,v4,rfl,rfl,sb,gp0,NF0,gb0,NS0,PW⟩:=hI_1;refine hG_1 ?_;refine ⟨_,rfl,(by show 0<=B59;decide),fun en hen=>?_⟩
 have t0:=qA2 hen (.lst []);have gen:(Ag Hb en (.lst [])) en=some (.lst []):=qA1;have sc:=sb.trans t0;have gp:=t0 _ _ gp0;have gb:=t0 _ _ gb0;have NF:NetL (Ag Hb en (.lst [])) frs fs:=NF0.same fun r ys e=>t0 _ _ e;have NS:NetL (Ag Hb en (.lst [])) srs st:=NS0.same fun r ys e=>t0 _ _ e;clear gp0 NF0 gb0 NS0;generalize Ag Hb en (.lst [])=Hc at gen sc gp gb NF NS ⊢;refine ⟨lb,en,_,rfl,rfl,SqL.of gb,SqL.of gen,_,rfl,?_⟩;cases NS with
 | nil=>
  refine iteF ?_;refine hN3 _ _ ?_;have lf:=PW.lens wf w0 few;have fok:=PW.fok;have ef:=PW.done;refine ⟨_,rfl,lp,frs,fs,rfl,SqL.of gp,NF,(fun t ht=>(fok t ht).ne),fun l rs' ts' hl pr T pm so=>?_⟩;have sl:=qA2 hl (.lst (rs'.map V.ref));refine q l ts' _ (sc.trans sl) (sc.free hl) ⟨rs',qA1,NetL.same T fun r ys e=>sl _ _ e⟩ ⟨by rw [<- ef];exact pm,so⟩ ?_ fun t ht=>?_
  ·rw [pm.length_eq]
   lia
  ·have P:=fok t (pm.mem_iff.mp ht);have:=P.len;have:=P.h0
   lia
 | @cons r p srs st gr NS=>
  have nr:(!((r::srs).reverse.map V.ref).isEmpty)=true:=by simp
  rw [if_pos nr];have P:=PW.ok p A8;have lens:=PW.lens1 wf w0 few;obtain ⟨PW2,ms2⟩:=PW.step wf;have lfr:=C6 NF;have lsr:=C6 NS;refine ⟨fun σ' H'=>∃ (fs' st':List (List Int)) (frs srs:List Addr) (v4:Option V),σ'=[some (.ref a),some (.int work),some (.ref lp),some (.ref lb),v4]/\msP Ae st'<msP Ae (p::st)/\Same H H'/\H' lp=some (.lst (frs.map V.ref))/\NetL H' frs fs'/\H' lb=some (.lst (srs.reverse.map V.ref))/\NetL H' srs st'/\PWay Ae work fs' st',
   fun σ' H' ⟨fs',st',frs,srs,v4,e,ms,z⟩=>⟨_,ms,fs',st',frs,srs,v4,e,rfl,z⟩,?_⟩
  refine cut fun M0 hM0=>?_;refine ⟨_,rfl,.inl ⟨rfl,_,SqL.of gb⟩,lb,_,_,rfl,rfl,gb,qPQ.1,?_⟩;rw [qPQ.2];have k5:∀ (b:Addr) (xs:List V),Hc b=some (.tup xs)->(Ag Hc lb (.lst (srs.reverse.map V.ref))) b=some (.tup xs):=fun b xs e=>by rw [qA7 (qC2 e gb (by intro z;cases z))];exact e
  have s5:Same H (Ag Hc lb (.lst (srs.reverse.map V.ref))):=qAB sc flb;have gb5:(Ag Hc lb (.lst (srs.reverse.map V.ref))) lb=some (.lst (srs.reverse.map V.ref)):=qA1;have gp5:(Ag Hc lb (.lst (srs.reverse.map V.ref))) lp=some (.lst (frs.map V.ref)):=by rw [qA7 npb];exact gp
  have NF5:=NF.same k5;have NS5:=NetL.same NS k5;have gr5:=k5 _ _ gr;generalize Ag Hc lb (.lst (srs.reverse.map V.ref))=H5 at s5 gb5 gp5 NF5 NS5 gr5 ⊢;have hw:(hd p).toNat<Ae.length:=by have:=P.h0;have:=P.h1;lia
  obtain ⟨rs',rn,h1,l1,h2,h3⟩:=hN.get (A7 hw);have ey:=qBJ (A7 hw);generalize Ae[(hd p).toNat]=ys at h3 ey;refine hM0 _ _ (cut fun M1 hM1=>?_);refine ⟨_,rfl,_,rfl,r,_,_,_,rfl,rfl,SqT.of gr5,qbB P.ne,a,_,_,_,rfl,rfl,SqT.of (s5 _ _ h1),qD6 P.h0 h2,(by show 0<=B59;decide),fun et het=>?_⟩
  have t6:=qA2 het (.tup []);refine ⟨rn,et,_,rfl,rfl,SqT.of (t6 _ _ (s5 _ _ h3)),SqT.of qA1,_,rfl,?_⟩;have s5:=s5.trans t6;have gb5:=t6 _ _ gb5;have gp5:=t6 _ _ gp5;have NF5:=NF5.same fun r ys e=>t6 _ _ e;have NS5:=NetL.same NS5 fun r ys e=>t6 _ _ e;have gr5:=t6 _ _ gr5;generalize Ag H5 et (.tup [])=H5 at s5 gb5 gp5 NF5 NS5 gr5 ⊢;have rest:∀ (frs':List Addr) (H6:Hp),Same H H6->H6 lp=some (.lst (frs'.map V.ref))->NetL H6 frs' (nxF Ae fs p)->H6 lb=some (.lst (srs.reverse.map V.ref))->NetL H6 srs st->H6 r=some (.tup (p.map V.int))->M1 [some (.ref a),some (.int work),some (.ref lp),some (.ref lb),some (.ref r)] H6:=by
   intro frs' H6 s6 gp6 NF6 gb6 NS6 gr6;refine hM1 _ _ ?_;refine ⟨_,rfl,.inl ⟨rfl,_,SqL.of gb6⟩,_,rfl,_,rfl,r,_,_,_,rfl,rfl,SqT.of gr6,qbB P.ne,a,_,_,_,rfl,rfl,SqT.of (s6 _ _ h1),qD6 P.h0 h2,rn,rfl,⟨_,SqT.of (s6 _ _ h3)⟩,fun lq hlq=>?_⟩;refine qGK (p:=lq) (a:=rn) (xs:=ys.map V.int) (fun j σ Hd=>∃ (v:Option V) (qs:List Addr),σ=[v,some (.ref r)]/\Same H6 Hd/\Hd lq=some (.lst (qs.map V.ref))/\NetL Hd qs ((ys.take j).map fun z=>z::p)) ?_ ?_ ?_ ?_
   ·exact ⟨none,[],rfl,qA2 hlq _,qA1,.nil⟩
   ·rintro j σ Hd hj ⟨v,qs,rfl,sd,_⟩;exact SqT.of (sd _ _ (s6 _ _ h3))
   ·refine fun j x σ Hd hx hI_3=>opq fun G_3 hG_3=>?_;obtain ⟨v,qs,rfl,sd,gqd,NQ⟩:=hI_3;obtain ⟨y,eyy,rfl⟩:=qB4 hx;refine hG_3 ?_;have hj:=(A3.mp eyy).1;have lqs:=C6 NQ;rw [A0,E1] at lqs;rw [ey] at lens;have grd:=sd _ _ gr6;refine ⟨_,rfl,(by show 1<=B59;decide),fun t1 ht1=>?_⟩
    have u1:=qA2 ht1 (.tup [.int y]);have pl:=P.len;have p0:=P.h0;refine ⟨_,rfl,t1,r,_,_,rfl,rfl,SqT.of qA1,SqT.of (u1 _ _ grd),by simp,by simp only [D8,M7,A0,B66];lia,fun z=>?_,fun _ t2 ht2=>?_⟩
    ·exact absurd (List.map_eq_nil_iff.mp z) P.ne
    have u2:=qA2 ht2 (.tup ([.int y]++p.map V.int));have uu:=u1.trans u2;have gq2:=uu _ _ gqd;have gt2:(Ag (Ag Hd t1 (.tup [.int y])) t2 (.tup ([.int y]++p.map V.int))) t2=some (.tup ((y::p).map V.int)):=qA1;generalize Ag (Ag Hd t1 (.tup [.int y])) t2 (.tup ([.int y]++p.map V.int))=He at uu gq2 gt2 ⊢;refine ⟨_,gq2,qAR (by rw [A0];lia),?_⟩
    rw [qBM];have eT:(ys.take (j+1)).map (fun z=>z::p)=(ys.take j).map (fun z=>z::p)++[y::p]:=by rw [C9,eyy,D0,B2];rfl
    rw [eT];exact ⟨_,qs++[t2],rfl,qAB (sd.trans uu) hlq,qA1,qC1 (qBN (NQ.same fun r ys e=>uu _ _ e) gt2) gq2⟩
   ·refine fun σ Hd hI_4=>opq fun G_4 hG_4=>?_;obtain ⟨v,qs,rfl,sd,gqd,NQ⟩:=hI_4;refine hG_4 ?_;rw [A0,qOU rfl] at NQ;have lqs:=C6 NQ;rw [A0] at lqs;rw [ey] at lens;have gbd:=sd _ _ gb6;refine ⟨lb,lq,_,_,rfl,rfl,gbd,gqd,by rw [A0,A0,A76,B66];lia,?_⟩
    rw [<- B2];refine ⟨nxF Ae fs p,nxS Ae p st,frs',qs.reverse++srs,_,rfl,ms2,qAB (s6.trans sd) flb,by rw [qA7 npb];exact sd _ _ gp6,qC1 (NF6.same fun r ys e=>sd _ _ e) gbd,by rw [qA1,X2,p6],?_,PW2⟩
    unfold nxS;rw [ey];exact qC1 (qQI (qNV NQ) (NetL.same NS6 fun r ys e=>sd _ _ e)) gbd
  unfold nxF at rest;rw [ey] at rest;cases ys with
  | nil=>
   refine iteT ?_;have l1:=lens.2;refine ⟨_,rfl,.inl ⟨rfl,_,SqL.of gp5⟩,_,rfl,lp,_,_,rfl,rfl,gp5,qAR (by rw [A0];lia),?_⟩
   rw [qBM];refine rest (frs++[r]) _ (qAB s5 flp) qA1 ?_ (by rw [qA7 npb.symm];exact gb5) (qC1 NS5 gp5) (by rw [qA7 (qC2 gr5 gp5 (by intro z;cases z))];exact gr5)
   rw [if_pos rfl];exact qC1 (qBN NF5 gr5) gp5
  | cons y ys=>
   refine iteF ?_;refine rest frs _ s5 gp5 ?_ gb5 NS5 gr5;rw [if_neg (by simp)]
   exact NF5
theorem sc_side_ends:FnScope ["net","path","ends","work","need"] ["net","path"] (qAI qDU):=⟨rfl,rfl,rfl,by decide +kernel,rfl,by decide +kernel,by decide +kernel⟩
theorem ok_side_ends (F:Fun K "side_ends" "side_ends" qDU f fd):FnOk P w K mg base CX0 1 f fd ["net","path"] qJW:=by
 refine F.ok sc_side_ends (fun vs H Q E h=>?_) (fun cdv A outer s H vs Q E hr h=>?_)
 ·obtain ⟨a,t,Ae,path,rfl,_⟩:=h
  rfl
 obtain ⟨a,t,Ae,path,rfl,⟨hN,wf,n400,hT,pne,lp,pin⟩,q⟩:=h;have hu:=qH9 hr;refine ⟨_,(qA4 (qAF (i:=2) sc_side_ends.nd rfl (E5 rfl) qPG) (qA4 (qBX E4 rfl (qD3 (qCB qS4 (pv 1) (qDF qA6) qDG)) (qAG (i:=3) sc_side_ends.nd rfl (E5 rfl)) (qA8 (qBX E4 rfl (qD3 (qC7 qDO (pv 0) (pv 3) (fun _ _=>rfl))) (qAG (i:=4) sc_side_ends.nd rfl (E5 rfl)) (qA8 (qBP (qAL qD4 (pv 4) (pv 1) (by with_unfolding_all rfl)) (qA8 (qFX hu (pv 2) (pv 4) qGD rfl)) qAP))))) (qA8 (qAO (pv 2))))),?_⟩
 try dsimp only [Cx.nox,Cx.wish,cxOf]
 obtain ⟨rs,hA,NL⟩:=id hN;have lrs:=C6 NL;refine cut fun N0 hN0=>?_;refine fun d hd=>?_;have s1:=qA2 hd (.dK []);have gd1:(Ag H d (.dK [])) d=some (.dK []):=qA1;generalize Ag H d (.dK [])=H1 at s1 gd1 ⊢;refine hN0 _ _ (cut fun N1 hN1=>?_);have lpath:1<=path.length:=T4.mpr pne;refine ⟨_,rfl,_,rfl,t,_,rfl,SqT.of (s1 _ _ hT),?_,fun t1 ht1=>?_⟩
 ·rw [A0,show (1:Int)=((1:Nat):Int) from rfl,HT.sIx_nat]
  lia
 rw [qE8,show (1:Int)=((1:Nat):Int) from rfl,qEU _ _ lpath];have s2:=qA2 ht1 (.tup ((path.drop 1).map V.int));have g2:(Ag H1 t1 (.tup ((path.drop 1).map V.int))) t1=some (.tup ((path.drop 1).map V.int)):=qA1;have gd2:=s2 _ _ gd1;generalize Ag H1 t1 (.tup ((path.drop 1).map V.int))=H2 at s2 g2 gd2 ⊢;have s02:=s1.trans s2;have nt1:t1 ≠ d:=qC2 g2 gd2 (by intro z;cases z)
 refine ⟨t1,rfl,⟨_,SqT.of g2⟩,qJA (a:=t1) (xs:=(path.drop 1).map V.int) (fun i σ Hc=>∃ (Af:List (Key × V)) (v3 v4:Option V),σ=[some (.ref a),some (.ref t),some (.ref d),v3,v4]/\Same H Hc/\Hc t1=some (.tup ((path.drop 1).map V.int))/\Hc d=some (.dK Af)/\Af.length<=400 * i/\∀ z:Int,(valV Af (D9 z)).isSome=true ↔ z ∉ path/\∃ w ∈ (path.drop 1).take i,z ∈ nd Ae w)
  ⟨[],none,none,rfl,s02,g2,gd2,F8 _,fun z=>by simp [valV]⟩ (fun i σ Hc _ hP=>by obtain ⟨_,_,_,_,_,g,_⟩:=hP;exact SqT.of g) ?_ ?_⟩
 ·refine fun i x σ Hc hx hI_1=>opq fun G_1 hG_1=>?_;obtain ⟨Af,v3,v4,rfl,sc,gt,gd,lk,hv⟩:=hI_1;obtain ⟨wk,ew,rfl⟩:=qB4 hx;refine hG_1 ?_;have hi:=(A3.mp ew).1;rw [G8] at hi;have wb:=pin wk (L3 (B6 ew));have hw:wk.toNat<Ae.length:=by lia
  have hz:=A7 hw;obtain ⟨r,h3,h4⟩:=NL.get hz;have en:=qBJ hz;have ln:=(wf wk.toNat _ hz).len;generalize Ae[wk.toNat]=zs at h4 hz en ln;refine ⟨_,rfl,_,rfl,a,_,_,_,rfl,rfl,SqT.of (sc _ _ hA),qD6 wb.1 (by rw [C4,h3];rfl),r,rfl,⟨_,SqT.of (sc _ _ h4)⟩,qJA (a:=r) (xs:=zs.map V.int) (fun j σ Hd=>∃ (Af:List (Key × V)) (v4:Option V),σ=[some (.ref a),some (.ref t),some (.ref d),some (.int wk),v4]/\Same H Hd/\Hd t1=some (.tup ((path.drop 1).map V.int))/\Hd d=some (.dK Af)/\Af.length<=400 * i+j/\∀ z:Int,(valV Af (D9 z)).isSome=true ↔ z ∉ path/\((∃ w ∈ (path.drop 1).take i,z ∈ nd Ae w)\/z ∈ zs.take j))
   ⟨Af,v4,rfl,sc,gt,gd,by lia,fun z=>by rw [hv z];simp⟩ (fun j σ Hd _ hP=>by obtain ⟨_,_,_,sd,_⟩:=hP;exact SqT.of (sd _ _ h4)) ?_ ?_⟩
  ·refine fun j x σ Hd hx hI_2=>opq fun G_2 hG_2=>?_;obtain ⟨Af,v4,rfl,sd,gtd,gd,lk,hv⟩:=hI_2;obtain ⟨y,ey,rfl⟩:=qB4 hx;refine hG_2 ?_;have hj:=(A3.mp ey).1;refine ⟨_,rfl,_,rfl,t,_,rfl,.inr (SqT.of (sd _ _ hT)),rfl,qBK path,_,rfl,?_⟩;rw [qCY];by_cases c:y ∈ path
   ·rw [decide_eq_true c];refine iteF ?_;refine ⟨Af,_,rfl,sd,gtd,gd,by lia,fun z=>?_⟩
    rw [hv z,C9,ey,D0,B7,A6];refine and_congr_right fun nz=>⟨fun h=>h.imp id .inl,fun h=>h.imp id fun h=>h.resolve_right fun e=>nz (e ▸ c)⟩
   ·rw [decide_eq_false c];refine iteT ?_;refine ⟨_,rfl,_,rfl,d,_,rfl,DPut.k (k:=D9 y) gd (qAR (by lia)),?_⟩
    refine ⟨_,_,rfl,qAB sd hd,by rw [qA7 nt1];exact gtd,qA1,M5 (qCW _ _ _) (by lia),fun z=>?_⟩
    rw [qKN,C9,ey,D0,B7,A6];by_cases e:z=y
    ·rw [e,if_pos rfl];exact ⟨fun _=>⟨c,.inr (.inr rfl)⟩,fun _=>rfl⟩
    ·rw [if_neg fun u=>e (U7 u),hv z];exact and_congr_right fun _=>or_congr_right ⟨.inl,fun h=>h.resolve_right e⟩
  ·refine fun σ Hd hI_3=>opq fun G_3 hG_3=>?_;obtain ⟨Af,v4,rfl,sd,gtd,gd,lk,hv⟩:=hI_3;refine hG_3 ?_;rw [A0] at lk hv;rw [F6] at hv;refine ⟨Af,_,_,rfl,sd,gtd,gd,by lia,fun z=>?_⟩
   rw [hv z,C9,ew,D0];refine and_congr_right fun _=>⟨?_,?_⟩
   ·rintro (⟨u,h1,h2⟩ | h)
    ·exact ⟨u,G6 _ h1,h2⟩
    ·exact ⟨wk,D5 _ A8,by rw [en];exact h⟩
   ·refine fun hI_4=>opq fun G_4 hG_4=>?_;obtain ⟨u,h1,h2⟩:=hI_4;refine hG_4 ?_;rcases B7.mp h1 with h | h
    ·exact .inl ⟨u,h,h2⟩
    ·rw [A6.mp h,en] at h2;exact .inr h2
 ·refine fun σ Hc hI_5=>opq fun G_5 hG_5=>?_;obtain ⟨Af,v3,v4,rfl,sc,gt,gd,lk,hv⟩:=hI_5;refine hG_5 ?_;rw [A0,F6] at hv;exact hN1 _ _ ⟨_,rfl,q d Af Hc sc hd gd fun z=>(hv z).trans end_iff.symm⟩
end
section
variable {P:B60} {w:World} {K:PySem.W.Frag} {mg:Str->Option Value} {base:Heap} {f:Addr} {fd:B65} {qE5:Addr} {qHP:B65} {tk_SOURCE tk_GOAL:Tok}
theorem sc_free_ways:FnScope ["net","path","ends","ways","work","needs","need"] ["net","path"] (qAI qDV):=⟨rfl,rfl,rfl,by decide +kernel,rfl,by decide +kernel,by decide +kernel⟩
theorem ok_free_ways (F:Fun K "free_ways" "free_ways" qDV f fd) (m_SOURCE:mg "SOURCE" = some (.int (-1) tk_SOURCE)) (m_GOAL:mg "GOAL" = some (.int (-2) tk_GOAL)) (qED:Clb P w K mg base 1 qE5 qHP "side_ends" ["net","path"] qJW) (qBC:mg "enumerate" = none):FnOk P w K mg base CX0 2 f fd ["net","path"] qJX:=by
 refine F.ok sc_free_ways (fun vs H Q E h=>?_) (fun cdv A outer s H vs Q E hr h=>?_)
 ·obtain ⟨a,t,Ae,path,rfl,_⟩:=h
  rfl
 obtain ⟨a,t,Ae,path,rfl,PI,q⟩:=h;have hu:=qH9 hr;refine ⟨_,(qA4 (qAF (i:=2) sc_free_ways.nd rfl (E5 rfl) (qAZ qED hr rfl (qA0 (pv 0) (qA0 (pv 1) qA3)))) (qA4 (qAF (i:=3) sc_free_ways.nd rfl (E5 rfl) (qKY (qF6 (qCE (v:=.int (-1)) rfl m_SOURCE ⟨_,rfl⟩) (qAY qA3) (qF6 (qCE (v:=.int (-2)) rfl m_GOAL ⟨_,rfl⟩) (qAY qA3) qKX)) rfl rfl (by simp) (by decide))) (qA4 (qBX E4 rfl (qV6 rfl qBC qHV (qA0 (pv 0) qA3)) (qPE rfl (qBR (qAG (i:=4) sc_free_ways.nd rfl (E5 rfl)) (qBR (qAG (i:=5) sc_free_ways.nd rfl (E5 rfl)) qH5))) (qA4 (qBP (qAL qMD (pv 4) (pv 1) (by with_unfolding_all rfl)) (qA8 qNT) qAP) (qA4 (qFX hu (pv 3) (qAH qCD qA6 (pv 4)) (qAY (qA0 (qAH qC0 (qAH qCD qA6 (pv 4)) qA6) qA3)) rfl) (qA4 (qFX hu (pv 3) (qAH qC0 (qAH qCD qA6 (pv 4)) qA6) (qIB (qK1 (qaG hu (pv 4) (pv 2))) (qAY (qA0 (qCE (v:=.int (-2)) rfl m_GOAL ⟨_,rfl⟩) qA3)) (qAY qA3)) rfl) (qA4 (qBP (qFM (qKW (pv 5) (fun _=>rfl))) (qA8 (qB9 (qDZ C7 G0 G1 qBB (qBY hu (pv 3) (qCE (v:=.int (-1)) rfl m_SOURCE ⟨_,rfl⟩) (fun _ _=>rfl)) (qA0 (qAH qCD qA6 (pv 4)) qA3)))) qAP) (qA8 (qBX E4 rfl (qD3 (pv 5)) (qAG (i:=6) sc_free_ways.nd rfl (E5 rfl)) (qA8 (qBP (qAL qD4 (pv 6) (pv 1) (by with_unfolding_all rfl)) (qA8 (qB9 (qDZ C7 G0 G1 qBB (qBY hu (pv 3) (qAH qC0 (qAH qCD qA6 (pv 6)) qA6) (fun _ _=>rfl)) (qA0 (qAH qCD qA6 (pv 4)) qA3)))) qAP))))))))) (qA8 (qAO (pv 3)))))),?_⟩
 try dsimp only [Cx.nox,Cx.wish,cxOf]
 obtain ⟨hN,wf,n400,hT,pne,lp,pin⟩:=id PI;obtain ⟨rs,hA,NL⟩:=id hN;have lrs:=C6 NL;refine cut fun N0 hN0=>?_;refine ⟨_,rfl,_,rfl,a,t,Ae,path,rfl,PI,fun de kve H1 s1 fde gde hve=>?_⟩;refine hN0 _ _ (cut fun N1 hN1=>?_);refine fun d hd=>?_;have sd:=qA2 hd (.dK []);refine ⟨(by show 0<=B59;decide),fun l1 hl1=>⟨(by show 0<=B59;decide),fun l2 hl2=>?_⟩⟩
 have sl1:=qA2 hl1 (.lst []);have sl2:=qA2 hl2 (.lst []);have gd3:=(sl1.trans sl2) _ _ (qA1 (H:=H1) (a:=d) (o:=.dK []));refine ⟨gd3,[(D9 (-1),.ref l1),(D9 (-2),.ref l2)],rfl,(by show 2<=15;decide),?_⟩
 have em:qDN [] [((D9 (-1):Key),V.ref l1),(D9 (-2),V.ref l2)]=[(D9 (-1),.ref l1),(D9 (-2),.ref l2)]:=by
  unfold qDN;simp [putK]
 rw [em];have g1:=sl2 _ _ (qA1 (H:=Ag H1 d (.dK [])) (a:=l1) (o:=.lst []));have g2:(Ag (Ag (Ag H1 d (.dK [])) l1 (.lst [])) l2 (.lst [])) l2=some (.lst []):=qA1;have s13:=sd.trans (sl1.trans sl2);have n12:l1 ≠ l2:=qA5 (qA1 (H:=Ag H1 d (.dK [])) (a:=l1) (o:=.lst [])) hl2;have fl1:H l1=none:=(s1.trans sd).free hl1;have fl2:H l2=none:=(s1.trans (sd.trans sl1)).free hl2;have fd0:H d=none:=s1.free hd;have n1d:l1 ≠ d:=qC2 g1 gd3 (by intro z;cases z)
 have n2d:l2 ≠ d:=qC2 g2 gd3 (by intro z;cases z)
 have gde3:=s13 _ _ gde;generalize Ag (Ag (Ag H1 d (.dK [])) l1 (.lst [])) l2 (.lst [])=H2 at gd3 g1 g2 s13 gde3 ⊢;have s02:=s1.trans s13;have ndd:de ≠ d:=fun z=>by rw [z,hd] at gde;cases gde
 have WA0:WaysAt H (Ag H2 d (.dK [(D9 (-1),.ref l1),(D9 (-2),.ref l2)])) d (2 * 0+2) (inK Ae path 0) (fwW Ae path 0) (fun k=>if k = -1 then l1 else l2):=by
  have only:∀ k,inK Ae path 0 k->k = -1\/k = -2:=fun k hk=>by
   rcases hk with h | h | ⟨v,f,h,_⟩
   ·exact .inl h
   ·exact .inr h
   ·have:=(free_in.mp f).1.1;lia
  refine ⟨⟨_,qA1,A9 _,fun k hk=>?_⟩,fun k hk=>?_,fun k k' hk hk' z=>?_,fun k hk=>?_,fd0,qAB s02 fd0⟩
  ·rcases only k hk with rfl | rfl <;> rfl
  ·rcases only k hk with rfl | rfl
   ·rw [if_pos rfl,qA7 n1d];exact g1
   ·rw [if_neg (by decide),qA7 n2d,fw_g];exact g2
  ·rcases only k hk with rfl | rfl <;> rcases only k' hk' with rfl | rfl
   ·rfl
   ·exact absurd z n12
   ·exact absurd z.symm n12
   ·rfl
  ·rcases only k hk with rfl | rfl
   ·exact fl1
   ·exact fl2
 have gde4:(Ag H2 d (.dK [(D9 (-1),.ref l1),(D9 (-2),.ref l2)])) de=some (.dK kve):=by rw [qA7 ndd];exact gde3
 generalize Ag H2 d (.dK [(D9 (-1),.ref l1),(D9 (-2),.ref l2)])=H3 at WA0 gde4 ⊢;refine hN1 _ _ (cut fun N2 hN2=>?_);refine ⟨_,rfl,a,rfl,⟨_,SqT.of (WA0.old _ _ hA)⟩,qTL (a:=a) (xs:=rs.map V.ref) (fun i σ Hc=>∃ (ad:Int->Addr) (v4 v5 v6:Option V),σ=[some (.ref a),some (.ref t),some (.ref de),some (.ref d),v4,v5,v6]/\WaysAt H Hc d (2 * i+2) (inK Ae path i) (fwW Ae path i) ad/\Hc de=some (.dK kve)/\∀ k,inK Ae path i k->ad k ≠ de)
  ⟨_,none,none,none,rfl,WA0,gde4,?_⟩ (fun i σ Hc _ hP=>by obtain ⟨_,_,_,_,_,WA,_⟩:=hP;exact SqT.of (WA.old _ _ hA)) ?_ ?_⟩
 ·intro k hk z;have:=WA0.lst k hk;rw [z,gde4] at this;cases this
 ·refine fun i x σ Hc T hx hI_1 hT0=>opq fun G_1 hG_1=>?_;obtain ⟨ad,v4,v5,v6,rfl,WA,gd,nde⟩:=hI_1;obtain ⟨r,er,rfl⟩:=qES hx;obtain ⟨zs,hz,hr0⟩:=qBA NL er;refine hG_1 ?_;have hi:=(A3.mp hz).1;have rz:=wf i _ hz;have en:nd Ae (i:Int)=zs:=by have:=qBJ (Ae:=Ae) (w:=(i:Int)) (zs:=zs) (by rw [K9];exact hz);exact this
  have sT:=qA2 hT0 (.tup [.int (i:Int),.ref r]);have gT:SqT K (Ag Hc T (.tup [.int (i:Int),.ref r])) T [.int (i:Int),.ref r]:=SqT.of qA1;have WA1:=WA.same sT;have gd1:=sT _ _ gd;generalize Ag Hc T (.tup [.int (i:Int),.ref r])=H4 at sT gT WA1 gd1 ⊢;refine ⟨T,_,rfl,gT,rfl,_,_,rfl,_,_,rfl,rfl,?_⟩;refine cut fun N3 hN3=>?_;refine ⟨_,rfl,_,rfl,t,_,rfl,.inr (SqT.of (WA1.old _ _ hT)),rfl,qBK path,_,rfl,?_⟩;rw [qCY];by_cases c:(i:Int) ∈ path
  ·have nf:qAU Ae path (i:Int)=false:=Q1.mpr fun z=>(free_in.mp z).2 c;have dm:∀ k,inK Ae path (i+1) k->inK Ae path i k:=by
    rintro k (h | h | ⟨v,f,h,hk⟩)
    ·exact .inl h
    ·exact .inr (.inl h)
    ·refine .inr (.inr ⟨v,f,?_,hk⟩);rcases Int.lt_trichotomy v (i:Int) with z | z | z
     ·exact z
     ·rw [z,nf] at f;cases f
     ·lia
   rw [decide_eq_true c];refine iteT ?_;exact ⟨ad,_,_,_,rfl,(WA1.dom (by lia) dm).congr fun x _=>qbE nf x,gd1,fun k hk=>nde k (dm k hk)⟩
  ·rw [decide_eq_false c];refine iteF ?_;have fr:qAU Ae path (i:Int)=true:=free_in.mpr ⟨⟨by lia,by lia⟩,c⟩
   refine hN3 _ _ (cut fun N4 hN4=>?_);have cm2:∀ j:Int,CMul 2 j:=fun j=>.inl ⟨by decide,by decide⟩
   -- the work's own two
   refine ⟨_,rfl,_,_,rfl,rfl,cm2 _,_,_,rfl,rfl,(by show 1<=B59;decide),fun e1 he1=>?_⟩
   have se1:=qA2 he1 (.lst [.int (2 * (i:Int)+1)]);have ge1:(Ag H4 e1 (.lst [.int (2 * (i:Int)+1)])) e1=some (.lst (([2 * (i:Int)+1]:List Int).map V.int)):=qA1;have WA2:=WA1.same se1;have fe1:H e1=none:=WA1.old.free he1;have ne1:∀ x,inK Ae path i x->ad x ≠ e1:=fun x hx z=>by have:=WA1.lst x hx;rw [z,he1] at this;cases this
   have gd2:=se1 _ _ gd1;have nee:e1 ≠ de:=fun z=>by rw [z,gd1] at he1;cases he1
   generalize Ag H4 e1 (.lst [.int (2 * (i:Int)+1)])=H5 at se1 ge1 WA2 gd2 ⊢;obtain ⟨Af,gkv,lkv,hkv⟩:=WA2.dict;refine ⟨_,rfl,_,rfl,_,_,rfl,rfl,cm2 _,d,_,rfl,DPut.k (k:=D9 (2 * (i:Int))) gkv (qAR (by lia)),?_⟩
   have out1:¬ inK Ae path i (2 * (i:Int)):=by
    rintro (h | h | ⟨v,f,h,hk | hk⟩) <;> lia
   have WA3:=WA2.add out1 fe1 ge1 ne1 gkv lkv hkv;have gd3':(Ag H5 d (.dK (putK Af (D9 (2 * (i:Int))) (.ref e1)))) de=some (.dK kve):=by rw [qA7 ndd];exact gd2
   generalize Ag H5 d (.dK (putK Af (D9 (2 * (i:Int))) (.ref e1)))=H6 at WA3 gd3' ⊢;clear hkv gkv lkv Af;refine hN4 _ _ (cut fun N5 hN5=>?_);refine ⟨_,rfl,_,rfl,de,_,rfl,DGet.k (k:=D9 (i:Int)) gd3',_,rfl,?_⟩;have nde3:∀ k,(inK Ae path i k\/k=2 * (i:Int))->(if k=2 * (i:Int) then e1 else ad k) ≠ de:=fun k hk z=>by
    by_cases e:k=2 * (i:Int)
    ·rw [if_pos e] at z;exact nee z
    ·rw [if_neg e] at z;exact nde k (hk.resolve_right e) z
   have two:∀ (zs2:List Int) (e2:Addr),zs2=(if qBU Ae path (i:Int) then [-2] else [])->H6 e2=none->∃ H7,DPut (Ag H6 e2 (.lst (zs2.map V.int))) d (.int (2 * (i:Int)+1)) (.ref e2) H7/\N5 [some (.ref a),some (.ref t),some (.ref de),some (.ref d),some (.int (i:Int)),some (.ref r),v6] H7:=by
    intro zs2 e2 ez he2;have se2:=qA2 he2 (.lst (zs2.map V.int));have ge2:(Ag H6 e2 (.lst (zs2.map V.int))) e2=some (.lst (zs2.map V.int)):=qA1;have WA4:=WA3.same se2;have fe2:H e2=none:=WA3.old.free he2;have ne2:∀ x,(inK Ae path i x\/x=2 * (i:Int))->(if x=2 * (i:Int) then e1 else ad x) ≠ e2:=fun x hx z=>by have:=WA3.lst x hx;rw [z,he2] at this;cases this
    have gd4:=se2 _ _ gd3';have nee2:e2 ≠ de:=fun z=>by rw [z,gd3'] at he2;cases he2
    generalize Ag H6 e2 (.lst (zs2.map V.int))=H7 at se2 ge2 WA4 gd4 ⊢;obtain ⟨Af,gkv,lkv,hkv⟩:=WA4.dict;refine ⟨_,DPut.k (k:=D9 (2 * (i:Int)+1)) gkv (qAR (by lia)),?_⟩
    have out2:¬ (inK Ae path i (2 * (i:Int)+1)\/2 * (i:Int)+1=2 * (i:Int)):=by
     rintro ((h | h | ⟨v,f,h,hk | hk⟩) | h) <;> lia
    have WA5:=WA4.add out2 fe2 ge2 ne2 gkv lkv hkv;have gd5:(Ag H7 d (.dK (putK Af (D9 (2 * (i:Int)+1)) (.ref e2)))) de=some (.dK kve):=by rw [qA7 ndd];exact gd4
    generalize Ag H7 d (.dK (putK Af (D9 (2 * (i:Int)+1)) (.ref e2)))=H8 at WA5 gd5 ⊢;have dm:∀ k,inK Ae path (i+1) k->(inK Ae path i k\/k=2 * (i:Int))\/k=2 * (i:Int)+1:=by
     rintro k (h | h | ⟨v,f,h,hk⟩)
     ·exact .inl (.inl (.inl h))
     ·exact .inl (.inl (.inr (.inl h)))
     ·by_cases e:v=(i:Int)
      ·subst e;rcases hk with hk | hk
       ·exact .inl (.inr hk)
       ·exact .inr hk
      ·exact .inl (.inl (.inr (.inr ⟨v,f,by lia,hk⟩)))
    obtain ⟨ad3,ead⟩:∃ ad3:Int->Addr,ad3=fun x=>if x=2 * (i:Int)+1 then e2 else if x=2 * (i:Int) then e1 else ad x:=⟨_,rfl⟩
    have nde5:∀ k,inK Ae path (i+1) k->ad3 k ≠ de:=fun k hk z=>by
     rw [ead] at z;dsimp only at z;by_cases e:k=2 * (i:Int)+1
     ·rw [if_pos e] at z;exact nee2 z
     ·rw [if_neg e] at z;exact nde3 k ((dm k hk).resolve_right e) z
    have WA6:=WA5.dom (m':=2 * (i+1)+2) (by lia) dm
    rw [<- ead] at WA6;clear WA5 WA4 gkv lkv hkv Af ead ne2 fe2 ge2;refine hN5 _ _ (cut fun N6 hN6=>?_);have hrr:=WA6.old _ _ hr0
    -- the rest,with the ways from the beginning laid
    have needs:∀ (W3:Wy) (H9:Hp),WaysAt H H9 d (2 * (i+1)+2) (inK Ae path (i+1)) W3 ad3->(∀ k,inK Ae path (i+1) k->W3 k++(if (0<=k/\k % 2=1/\k / 2 ∈ zs) then [2 * (i:Int)] else [])=fwW Ae path (i+1) k)->(∀ k,inK Ae path (i+1) k->(W3 k).length<=900)->H9 de=some (.dK kve)->N6 [some (.ref a),some (.ref t),some (.ref de),some (.ref d),some (.int (i:Int)),some (.ref r),v6] H9:=by
     intro W3 H9 WB eqW lenW gd9;refine hN6 _ _ ?_;refine ⟨_,rfl,r,rfl,⟨_,SqT.of (WB.old _ _ hr0)⟩,qJA (a:=r) (xs:=zs.map V.int) (fun j σ Hd=>∃ (v6:Option V),σ=[some (.ref a),some (.ref t),some (.ref de),some (.ref d),some (.int (i:Int)),some (.ref r),v6]/\WaysAt H Hd d (2 * (i+1)+2) (inK Ae path (i+1)) (fun k=>W3 k++(if (0<=k/\k % 2=1/\k / 2 ∈ zs.take j) then [2 * (i:Int)] else [])) ad3/\Hd de=some (.dK kve))
      ⟨v6,rfl,WB.congr fun x _=>by rw [if_neg (by simp)];simp,gd9⟩ (fun j σ Hd _ hP=>by obtain ⟨_,_,WD,_⟩:=hP;exact SqT.of (WD.old _ _ hr0)) ?_ ?_⟩
     ·refine fun j x σ Hd hx hI_2=>opq fun G_2 hG_2=>?_;obtain ⟨v6,rfl,WD,gdd⟩:=hI_2;obtain ⟨y,ey,rfl⟩:=qB4 hx;refine hG_2 ?_;have hj:=(A3.mp ey).1;have yb:=rz.in_ y (B6 ey);have ynew:y ∉ zs.take j:=fun z=>by
       obtain ⟨m,hm⟩:=L7 z;have hm2:=(A3.mp hm).1;rw [E1] at hm2;rw [V8 (by lia)] at hm
       have up:=P0.mp rz.up m j (by lia) hj (by lia)
       have e1:=(A3.mp hm).2;have e2:=(A3.mp ey).2
       lia
      refine ⟨_,rfl,_,rfl,t,_,rfl,.inr (SqT.of (WD.old _ _ hT)),rfl,qBK path,_,rfl,?_⟩;rw [qCY];by_cases cy:y ∈ path
      ·rw [decide_eq_true cy];refine iteF ?_;refine ⟨_,rfl,WD.congr fun k hk=>?_,gdd⟩;rw [C9,ey,D0];congr 1;by_cases e:0<=k/\k % 2=1/\k / 2=y
       ·exfalso
        rcases hk with h | h | ⟨v,f,_,h | h⟩
        ·lia
        ·lia
        ·lia
        ·exact (free_in.mp f).2 (by rw [show v=y by lia];exact cy)
       ·have:(0<=k/\k % 2=1/\k / 2 ∈ zs.take j++[y]) ↔ (0<=k/\k % 2=1/\k / 2 ∈ zs.take j):=by
         rw [B7,A6];exact ⟨fun ⟨a,b,c⟩=>⟨a,b,c.resolve_right fun z=>e ⟨a,b,z⟩⟩,fun ⟨a,b,c⟩=>⟨a,b,.inl c⟩⟩
        simp only [this]
      ·rw [decide_eq_false cy];refine iteT ?_;have fy:qAU Ae path y=true:=free_in.mpr ⟨⟨yb.1,by lia⟩,cy⟩
       have hk:inK Ae path (i+1) (2 * y+1):=.inr (.inr ⟨y,fy,by lia,.inr rfl⟩)
       obtain ⟨Af,gkv,lkv,hkv⟩:=WD.dict;have gl:=WD.lst _ hk;rw [if_neg (by rw [show (2 * y+1) / 2=y by lia];exact fun z=>ynew z.2.2),J8] at gl
       have hgk:=DGet.k (k:=D9 (2 * y+1)) gkv;rw [hkv _ hk] at hgk;refine ⟨_,rfl,_,rfl,_,_,rfl,rfl,cm2 _,_,_,rfl,rfl,d,_,rfl,hgk,.inl ⟨rfl,_,SqL.of gl⟩,_,rfl,_,_,rfl,rfl,cm2 _,ad3 (2 * y+1),_,_,rfl,rfl,gl,qAR (by rw [A0];have:=lenW _ hk;lia),?_⟩
       have:=WD.put hk (W3 (2 * y+1)++[2 * (i:Int)]);rw [B2] at this;refine ⟨_,rfl,this.congr fun k hk2=>?_,by rw [qA7 (nde5 _ hk).symm];exact gdd⟩
       rw [C9,ey,D0];by_cases e:k=2 * y+1
       ·subst e;rw [if_pos rfl,if_pos ⟨by lia,by lia,by rw [show (2 * y+1) / 2=y by lia];simp⟩]
       ·rw [if_neg e];congr 1;have:(0<=k/\k % 2=1/\k / 2 ∈ zs.take j++[y]) ↔ (0<=k/\k % 2=1/\k / 2 ∈ zs.take j):=by
         rw [B7,A6];exact ⟨fun ⟨a,b,c⟩=>⟨a,b,c.resolve_right fun z=>e (by lia)⟩,fun ⟨a,b,c⟩=>⟨a,b,.inl c⟩⟩
        simp only [this]
     ·refine fun σ Hd hI_3=>opq fun G_3 hG_3=>?_;obtain ⟨v6,rfl,WD,gdd⟩:=hI_3;refine hG_3 ?_;rw [A0,F6] at WD;exact ⟨ad3,_,_,_,rfl,WD.congr fun k hk=>(eqW k hk).symm,gdd,nde5⟩
    have W6e:∀ k,inK Ae path (i+1) k->((fun x=>if x=2 * (i:Int)+1 then zs2 else if x=2 * (i:Int) then [2 * (i:Int)+1] else fwW Ae path i x) k).length<=800:=fun k hk=>by
     dsimp only
     split
     ·rw [ez];split <;> simp
     ·split
      ·simp
      ·have:=qTK (Ae:=Ae) (path:=path) i k;lia
    have k1:inK Ae path (i+1) (-1):=.inl rfl;refine ⟨_,rfl,_,.inr (.inl ⟨_,SqT.of hrr,rfl⟩),?_⟩;cases zs with
    | cons z0 zr=>
     refine iteF ?_;refine needs _ _ WA6 (fun k hk=>?_) (fun k hk=>M5 (W6e k hk) (by lia)) gd5
     refine qX9 (W3:=fun x=>if x=2 * (i:Int)+1 then zs2 else if x=2 * (i:Int) then [2 * (i:Int)+1] else fwW Ae path i x) wf fr en ?_ ?_ ?_ (fun x h1 h2 h3=>?_) hk
     ·rw [if_neg (by lia),if_neg (by lia)];simp
     ·rw [if_neg (by lia),if_pos rfl]
     ·rw [if_pos rfl,ez]
     ·rw [if_neg h3,if_neg h2]
    | nil=>
     refine iteT ?_;obtain ⟨Af,gkv,lkv,hkv⟩:=WA6.dict;have gl:=WA6.lst _ k1;rw [if_neg (by lia),if_neg (by lia)] at gl
     have hgk:=DGet.k (k:=D9 (-1)) gkv;rw [hkv _ k1] at hgk;refine ⟨_,rfl,d,_,rfl,hgk,.inl ⟨rfl,_,SqL.of gl⟩,_,rfl,_,_,rfl,rfl,cm2 _,ad3 (-1),_,_,rfl,rfl,gl,qAR (by rw [A0];have:=qTK (Ae:=Ae) (path:=path) i (-1);lia),?_⟩
     have pu:=WA6.put k1 (fwW Ae path i (-1)++[2 * (i:Int)]);rw [B2] at pu;refine needs _ _ pu (fun k hk=>?_) (fun k hk=>?_) (by rw [qA7 (nde5 _ k1).symm];exact gd5)
     ·refine qX9 (W3:=fun x=>if x = -1 then fwW Ae path i (-1)++[2 * (i:Int)] else if x=2 * (i:Int)+1 then zs2 else if x=2 * (i:Int) then [2 * (i:Int)+1] else fwW Ae path i x) wf fr en ?_ ?_ ?_ (fun x h1 h2 h3=>?_) hk
      ·rw [if_pos rfl];rfl
      ·rw [if_neg (by lia),if_neg (by lia),if_pos rfl]
      ·rw [if_neg (by lia),if_pos rfl,ez]
      ·rw [if_neg h1,if_neg h3,if_neg h2]
     ·split
      ·rw [A5];have:=qTK (Ae:=Ae) (path:=path) i (-1);show _+1<=_;lia
      ·exact M5 (W6e k hk) (by lia)
   cases ie:(valV kve (D9 (i:Int))).isSome with
   | true=>
    have e0:qBU Ae path (i:Int)=true:=(hve _).mp ie;refine iteT ?_;refine ⟨(by show 1<=B59;decide),fun e2 he2=>?_⟩
    obtain ⟨H7,dp,n5⟩:=two [-2] e2 (by rw [e0];rfl) he2
    exact ⟨_,rfl,_,rfl,_,_,rfl,rfl,cm2 _,_,_,rfl,rfl,d,H7,rfl,dp,n5⟩
   | false=>
    have e0:qBU Ae path (i:Int)=false:=Q1.mpr fun z=>by rw [(hve _).mpr z] at ie;cases ie
    refine iteF ?_;refine ⟨(by show 0<=B59;decide),fun e2 he2=>?_⟩
    obtain ⟨H7,dp,n5⟩:=two [] e2 (by rw [e0];rfl) he2
    exact ⟨_,rfl,_,rfl,_,_,rfl,rfl,cm2 _,_,_,rfl,rfl,d,H7,rfl,dp,n5⟩
 ·refine fun σ Hc hI_4=>opq fun G_4 hG_4=>?_;obtain ⟨ad,v4,v5,v6,rfl,WA,gd,nde⟩:=hI_4;refine hG_4 ?_;rw [A0,lrs] at WA;exact hN2 _ _ ⟨_,rfl,q d ad Hc (WA.dom (by lia) fun _ h=>h)⟩
end
section
variable {P:B60} {w:World} {K:PySem.W.Frag} {mg:Str->Option Value} {base:Heap} {f:Addr} {fd:B65} {tk_SOURCE tk_GOAL:Tok}
theorem sc_way_back:FnScope ["ways","came_from","due","stop","further","stops"] ["ways"] (qAI qF2):=⟨rfl,rfl,rfl,by decide +kernel,rfl,by decide +kernel,by decide +kernel⟩
theorem ok_way_back (F:Fun K "way_back" "way_back" qF2 f fd) (m_SOURCE:mg "SOURCE" = some (.int (-1) tk_SOURCE)) (m_GOAL:mg "GOAL" = some (.int (-2) tk_GOAL)):FnOk P w K mg base CX0 1 f fd ["ways"] qLY:=by
 refine F.ok sc_way_back (fun vs H Q E h=>?_) (fun cdv A outer s H vs Q E hr h=>?_)
 ·obtain ⟨d,H0,Ae,path,W,ad,rfl,_⟩:=h
  rfl
 obtain ⟨d,H0,Ae,path,W,ad,rfl,n400,WA,FL,q⟩:=h;have hu:=qH9 hr;refine ⟨_,(qA4 (qAF (i:=1) sc_way_back.nd rfl (E5 rfl) (qKY (qF6 (qCE (v:=.int (-1)) rfl m_SOURCE ⟨_,rfl⟩) qaE qKX) rfl rfl (by simp) (by decide))) (qA4 (qAF (i:=2) sc_way_back.nd rfl (E5 rfl) (qAY (qA0 (qCE (v:=.int (-1)) rfl m_SOURCE ⟨_,rfl⟩) qA3))) (qA4 (qDY E4 (PW.pt (qPB (qKW (pv 2) (fun _=>rfl)) (qNR (qK1 (qGE hu (qCE (v:=.int (-2)) rfl m_GOAL ⟨_,rfl⟩) (pv 1)))))) (qA4 (qAF (i:=3) sc_way_back.nd rfl (E5 rfl) (qMA C7 Z1 Z2 qSR (pv 2))) (qA8 (qBX E4 rfl (qCS (qBY hu (pv 0) (pv 3) (fun _ _=>rfl))) (qAG (i:=4) sc_way_back.nd rfl (E5 rfl)) (qA8 (qBP (qK1 (qGE hu (pv 4) (pv 1))) (qA4 (qFX hu (pv 1) (pv 4) (pv 3) rfl) (qA8 (qB9 (qDZ C7 G0 G1 qBB (pv 2) (qA0 (pv 4) qA3))))) qAP)))))) (qA4 (qBP (qK1 (qGE hu (qCE (v:=.int (-2)) rfl m_GOAL ⟨_,rfl⟩) (pv 1))) (qA8 (qAO (qAY qA3))) qAP) (qA4 (qAF (i:=5) sc_way_back.nd rfl (E5 rfl) (qAY (qA0 (qCE (v:=.int (-2)) rfl m_GOAL ⟨_,rfl⟩) qA3))) (qA4 (qDY E4 (qAL qNW (qC7 qBT (pv 5) (qY9 qRO qA6) (fun _ _=>rfl)) (qCE (v:=.int (-1)) rfl m_SOURCE ⟨_,rfl⟩) (qAW _)) (qA8 (qB9 (qDZ C7 G0 G1 qBB (pv 5) (qA0 (qBY hu (pv 1) (qC7 qBT (pv 5) (qY9 qRO qA6) (fun _ _=>rfl)) (fun _ _=>rfl)) qA3))))) (qA8 (qAO (pv 5))))))))),?_⟩
 try dsimp only [Cx.nox,Cx.wish,cxOf]
 refine cut fun N0 hN0=>?_;refine fun cd hcd=>?_;refine ⟨qA1,[(D9 (-1),.non)],rfl,(by show 1<=15;decide),?_⟩
 have em:qDN [] [((D9 (-1):Key),V.non)]=cmK []:=by
  unfold qDN;simp [putK]
  rfl
 rw [em,qH2];have s1:=qA2 hcd (.dK (cmK []));have g1:(Ag H cd (.dK (cmK []))) cd=some (.dK (cmK [])):=qA1;generalize Ag H cd (.dK (cmK []))=H1 at s1 g1 ⊢;refine hN0 _ _ (cut fun N1 hN1=>?_);refine ⟨(by show 1<=B59;decide),fun ld hld=>?_⟩
 have s2:=qA2 hld (.lst [.int (-1)]);have g2:(Ag H1 ld (.lst [.int (-1)])) ld=some (.lst (([-1]:List Int).map V.int)):=qA1;have gc2:=s2 _ _ g1;have fld:H ld=none:=s1.free hld;have ncl:cd ≠ ld:=qC2 gc2 g2 (by intro z;cases z)
 have s02:=s1.trans s2;generalize Ag H1 ld (.lst [.int (-1)])=H2 at s2 g2 gc2 s02 ⊢;refine hN1 _ _ (cut fun N2 hN2=>?_);obtain ⟨I,eI⟩:∃ I:Nat->St->Hp->Prop,I=fun m σ Hc=>∃ (cm:Cm) (due:List Int) (v3 v4:Option V),σ=[some (.ref d),some (.ref cd),some (.ref ld),v3,v4,none]/\Same H Hc/\Hc cd=some (.dK (cmK cm))/\Hc ld=some (.lst (due.map V.int))/\SkI Ae path W (cm,due)/\m=2 * (2 * Ae.length+2 - cm.length)+due.length/\due.length<=cm.length+1:=⟨_,rfl⟩;refine ⟨I,⟨_,by rw [eI];exact ⟨[],[-1],none,none,rfl,s02,gc2,g2,⟨⟨qbD,fun x hx=>by rw [A6.mp hx];rfl⟩,fun t h=>h,fun q hq=>nomatch hq⟩,rfl,A9 _⟩⟩,?_⟩
 intro m σ Hc hI;rw [eI] at hI;obtain ⟨cm,due,v3,v4,rfl,sc,gc,gl,SK,rfl,dul⟩:=hI;have few:cm.length<=2 * Ae.length+2:=SK.few
 -- behind the search
 have behind:dfsC (cm,due)=false->N2 [some (.ref d),some (.ref cd),some (.ref ld),v3,v4,none] Hc:=by
  intro ce;refine hN2 _ _ (cut fun N3 hN3=>?_);have DF:=SK.go _ (.stop ce);refine ⟨_,rfl,cd,_,rfl,DGet.k (k:=D9 (-2)) gc,_,rfl,?_⟩;rw [qOD];cases vg:vis cm (-2) with
  | false=>
   refine iteT ?_;refine ⟨(by show 0<=B59;decide),fun lr hlr=>?_⟩
   exact q lr [] _ (sc.trans (qA2 hlr _)) (sc.free hlr) qA1 ⟨cm,due,DF,.inl ⟨vg,rfl⟩⟩ (.inl rfl)
  | true=>
   refine iteF ?_;refine hN3 _ _ (cut fun N4 hN4=>?_);refine ⟨(by show 1<=B59;decide),fun lr hlr=>?_⟩
   have s3:=qA2 hlr (.lst [.int (-2)]);have g3:(Ag Hc lr (.lst [.int (-2)])) lr=some (.lst (([]++[-2]:List Int).map V.int)):=qA1;have gc3:=s3 _ _ gc;have flr:H lr=none:=sc.free hlr;have nlc:cd ≠ lr:=qC2 gc3 g3 (by intro z;cases z)
   have sc3:=sc.trans s3;generalize Ag Hc lr (.lst [.int (-2)])=H3 at s3 g3 gc3 sc3 ⊢;refine hN4 _ _ (cut fun N5 hN5=>?_);obtain ⟨i0,p0,e0⟩:∃ (i:Nat) (p:Int),cm[i]?=some (-2,p):=(vis_iff.mp vg).resolve_left (by decide)
   obtain ⟨r0,b1,b2,b3,b4,b5,_⟩:=SK.sk.gd.back i0 (-2) p0 e0;have hi0:=(A3.mp e0).1;refine ⟨fun m σ Hd=>∃ (pre:List Int) (x:Int),σ=[some (.ref d),some (.ref cd),some (.ref ld),v3,v4,some (.ref lr)]/\Same H Hd/\Hd cd=some (.dK (cmK cm))/\Hd lr=some (.lst ((pre++[x]).map V.int))/\(∀ r,Back cm x r->Back cm (-2) (pre++r))/\((x = -1/\m=0)\/∃ (i:Nat) (p:Int),cm[i]?=some (x,p)/\m=i+1)/\pre.length+m<=cm.length,⟨_,[],-2,rfl,sc3,gc3,g3,fun r h=>h,.inr ⟨i0,p0,e0,rfl⟩,by simp;lia⟩,?_⟩
   refine fun m σ Hd hI_1=>opq fun G_1 hG_1=>?_;obtain ⟨pre,x,rfl,sd,gcd,gld,bk,hm,lm⟩:=hI_1;refine hG_1 ?_;refine ⟨_,rfl,_,rfl,lr,_,_,_,rfl,rfl,SqL.of gld,(by rw [B2];exact qLM _ _),rfl,_,rfl,?_⟩
   rcases hm with ⟨rfl,rfl⟩ | ⟨i,p,ei,rfl⟩
   ·refine iteF ?_;have bf:=bk _ .src;have er:=bf.one b1;refine hN5 _ _ ⟨_,rfl,q lr (pre++[-1]) Hd sd flr gld ⟨cm,due,DF,.inr ⟨vg,bf⟩⟩ (.inr ?_)⟩;rw [er];exact ⟨b2,b3,b4,b5⟩
   ·obtain ⟨_,nx,r3⟩:=SK.sk.gd.at_ i x p ei;have hlk:look cm x=some p:=qSW SK.sk.gd.nd ei;rw [decide_eq_false (show ¬ V.int x=V.int (-1) from fun z=>nx (V.int.inj z))];refine iteT ?_;obtain ⟨m',hm',lt⟩:∃ m':Nat,((p = -1/\m'=0)\/∃ (j:Nat) (q:Int),cm[j]?=some (p,q)/\m'=j+1)/\m'<=i:=by
     rcases r3 with rfl | ⟨j,q,hj,ej⟩
     ·exact ⟨0,.inl ⟨rfl,rfl⟩,F8 _⟩
     ·exact ⟨j+1,.inr ⟨j,q,ej,rfl⟩,hj⟩
    refine ⟨_,fun σ' H' h=>⟨m',by lia,h⟩,?_⟩
    have hg:=DGet.k (k:=D9 x) gcd;rw [qU1,if_neg nx,hlk] at hg;refine ⟨_,rfl,.inl ⟨rfl,_,SqL.of gld⟩,_,rfl,_,rfl,_,rfl,lr,_,_,_,rfl,rfl,SqL.of gld,(by rw [B2];exact qLM _ _),cd,_,rfl,hg,lr,_,_,rfl,rfl,gld,qAR (by rw [A0,A5,B3];lia),?_⟩
    refine ⟨pre++[x],p,rfl,qAB sd flr,by rw [qA7 nlc];exact gcd,by rw [qA1,B2 (l₁:=pre++[x])];rfl,fun r h=>?_,hm',by rw [A5,B3];lia⟩
    rw [I0];exact bk _ (.step nx hlk h)
 refine ⟨_,rfl,_,.inl ⟨_,SqL.of gl,rfl⟩,?_⟩;rcases U3 due with rfl | ⟨pre,x,rfl⟩
 ·refine iteF ?_;refine iteF ?_;exact behind rfl
 rw [U4] at gl SK behind dul ⊢;rw [A5,B3] at dul;have tru:(!((pre++[x]).map V.int).isEmpty)=true:=by simp
 rw [tru];refine iteT ?_;refine ⟨_,rfl,cd,_,rfl,DGet.k (k:=D9 (-2)) gc,_,rfl,?_⟩;rw [qOD];cases vg:vis cm (-2) with
 | true=>
  refine iteF ?_;exact behind (by unfold dfsC;rw [vg];simp)
 | false=>
  refine iteT ?_;refine ⟨fun σ' H'=>∃ m',m'<2 * (2 * Ae.length+2 - cm.length)+(pre++[x]).length/\I m' σ' H',fun _ _ h=>h,?_⟩;refine cut fun M1 hM1=>?_;have lastx:((pre++[x]).map V.int)[((pre++[x]).map V.int).length - 1]?=some (.int x):=by
   rw [A0,C4,A5,B3,d8,C2 (A9 _),R0]
   rfl
  have hx:vis cm x=true:=SK.sk.due x (by simp)
  have kx:=SK.inK hx;refine ⟨_,rfl,.inl ⟨rfl,_,SqL.of gl⟩,ld,_,_,rfl,rfl,gl,lastx,?_⟩;have dl:((pre++[x]).map V.int).dropLast=pre.map V.int:=by rw [B2];exact A61
  rw [dl];have sc4:=qAB (o:=.lst (pre.map V.int)) sc fld;have gl4:(Ag Hc ld (.lst (pre.map V.int))) ld=some (.lst (pre.map V.int)):=qA1;have gc4:(Ag Hc ld (.lst (pre.map V.int))) cd=some (.dK (cmK cm)):=by rw [qA7 ncl];exact gc
  generalize Ag Hc ld (.lst (pre.map V.int))=H4 at sc4 gl4 gc4 ⊢;refine hM1 _ _ ?_;have SF0:SkF Ae path W x (cm,pre):=⟨⟨SK.sk.gd,fun y hy=>SK.sk.due y (G6 _ hy)⟩,SK.dom,hx⟩;have WA4:=WA.same sc4;obtain ⟨Af,gkv,lkv,hkv⟩:=WA4.dict;have hgk:=DGet.k (k:=D9 x) gkv;rw [hkv _ kx] at hgk;have fewF:∀ {s:Cm × List Int},SkF Ae path W x s->s.1.length<=2 * Ae.length+2:=fun {s} h=>by
   have:=qGG (Ae:=Ae) (path:=path) h.sk.gd.nd fun y hy=>by
    obtain ⟨q,hq,rfl⟩:=D7.mp hy;exact h.dom q hq
   rw [A0] at this;exact this
  refine ⟨_,rfl,_,rfl,d,_,rfl,hgk,ad x,rfl,⟨_,SqL.of (WA4.lst _ kx)⟩,qE3 (a:=ad x) (xs:=(W x).map V.int) (fun j σ Hd=>∃ (v4:Option V) (s:Cm × List Int),σ=[some (.ref d),some (.ref cd),some (.ref ld),some (.int x),v4,none]/\Same H Hd/\s=dfsF x ((W x).take j) (cm,pre)/\Hd cd=some (.dK (cmK s.1))/\Hd ld=some (.lst (s.2.map V.int))/\SkF Ae path W x s/\s.2.length+cm.length=pre.length+s.1.length/\cm.length<=s.1.length)
   ⟨v4,_,rfl,sc4,rfl,gc4,gl4,SF0,rfl,A9 _⟩ (fun j σ Hd _ hP=>by obtain ⟨_,_,_,sd,_⟩:=hP;exact SqL.of ((WA.same sd).lst _ kx)) ?_ ?_⟩
  ·refine fun j y σ Hd hy hI_2=>opq fun G_2 hG_2=>?_;obtain ⟨v4,s,rfl,sd,es,gcd,gld,SF,ln,mo⟩:=hI_2;obtain ⟨f1,ef,rfl⟩:=qB4 hy;refine hG_2 ?_;have hf:=B6 ef;have es1:dfsO x f1 s=dfsF x ((W x).take (j+1)) (cm,pre):=by rw [C9,ef,D0,qMZ,es]
   obtain ⟨SF1,ln1⟩:=SF.one FL hf;have b1:=fewF SF;refine ⟨_,rfl,_,rfl,cd,_,rfl,DGet.k (k:=D9 f1) gcd,_,rfl,?_⟩;rw [qOD];cases vf:vis s.1 f1 with
   | true=>
    refine iteF ?_;have e0:dfsO x f1 s=s:=by unfold dfsO;rw [if_pos vf]
    rw [e0] at es1;exact ⟨_,s,rfl,sd,es1,gcd,gld,SF,ln,mo⟩
   | false=>
    refine iteT ?_;have e0:dfsO x f1 s=(s.1++[(f1,x)],s.2++[f1]):=by unfold dfsO;rw [if_neg (by rw [vf];simp)]
    rw [e0] at es1 SF1 ln1;refine cut fun M2 hM2=>?_;refine ⟨_,rfl,_,rfl,_,rfl,cd,_,rfl,DPut.k (k:=D9 f1) gcd (qAR (by unfold cmK;rw [D8,A0];lia)),?_⟩
    rw [qZ8 vf];have sd5:=qAB (o:=.dK (cmK (s.1++[(f1,x)]))) sd hcd;have gc5:(Ag Hd cd (.dK (cmK (s.1++[(f1,x)])))) cd=some (.dK (cmK (s.1++[(f1,x)]))):=qA1;have gl5:(Ag Hd cd (.dK (cmK (s.1++[(f1,x)])))) ld=some (.lst (s.2.map V.int)):=by rw [qA7 ncl.symm];exact gld
    generalize Ag Hd cd (.dK (cmK (s.1++[(f1,x)])))=H5 at sd5 gc5 gl5 ⊢;refine hM2 _ _ ?_;refine ⟨_,rfl,.inl ⟨rfl,_,SqL.of gl5⟩,_,rfl,ld,_,_,rfl,rfl,gl5,qAR (by rw [A0];lia),?_⟩
    refine ⟨_,_,rfl,qAB sd5 fld,es1,by rw [qA7 ncl];exact gc5,by rw [qA1,B2];rfl,SF1,by lia,by rw [A5];lia⟩
  ·refine fun σ Hd hI_3=>opq fun G_3 hG_3=>?_;obtain ⟨v4,s,rfl,sd,es,gcd,gld,SF,ln,mo⟩:=hI_3;refine hG_3 ?_;rw [A0,F6] at es;have b1:=fewF SF;rw [eI];refine ⟨2 * (2 * Ae.length+2 - s.1.length)+s.2.length,?_,s.1,s.2,_,_,rfl,sd,gcd,gld,⟨SF.sk,fun t h=>SK.go t (.go vg (by rw [<- es];exact h)),SF.dom⟩,rfl,by lia⟩
   rw [A5,B3]
   lia
end
section
variable {P:B60} {w:World} {K:PySem.W.Frag} {mg:Str->Option Value} {base:Heap} {f:Addr} {fd:B65} {tk_SOURCE:Tok}
theorem sc_turn_round:FnScope ["ways","stops","further","stop"] ["ways","stops"] (qAI qD0):=⟨rfl,rfl,rfl,by decide +kernel,rfl,by decide +kernel,by decide +kernel⟩
theorem ok_turn_round (F:Fun K "turn_round" "turn_round" qD0 f fd) (qG9:mg "zip" = none):FnOk P w K mg base CX0 1 f fd ["ways","stops"] qWR:=by
 refine F.ok sc_turn_round (fun vs H Q E h=>?_) (fun cdv A outer s H vs Q E hr h=>?_)
 ·obtain ⟨d,l,H0,Ae,path,W,ad,st,rfl,_⟩:=h
  rfl
 obtain ⟨d,l,H0,Ae,path,W,ad,st,rfl,n400,WA,FL,hl,nl,PT,ND,hh,q⟩:=h;have hu:=qH9 hr;have hu0:=hr.units0;refine ⟨_,(qA8 (qBX E4 rfl (qSD rfl qG9 qUA (qA0 (pv 1) (qA0 (qCB qFV (pv 1) (qDF qA6) qDG) qA3))) (qPE rfl (qBR (qAG (i:=2) sc_turn_round.nd rfl (E5 rfl)) (qBR (qAG (i:=3) sc_turn_round.nd rfl (E5 rfl)) qH5))) (qA4 (qB9 (qDZ C7 PySem.F.slot_list_remove PySem.F.type_list_remove qSQ (qBY hu (pv 0) (pv 3) (fun _ _=>rfl)) (qA0 (pv 2) qA3))) (qA8 (qB9 (qDZ C7 G0 G1 qBB (qBY hu (pv 0) (pv 2) (fun _ _=>rfl)) (qA0 (pv 3) qA3))))))),?_⟩
 try dsimp only [Cx.nox,Cx.wish,cxOf]
 have lst1:1<=st.length:=by cases st with | nil=>cases hh | cons _ _=>simp
 -- the ways behind some of it
 have flp:∀ j,j<st.length->Fl0 (W0 Ae path) (qC8 (st.take (j+1)) W):=fun j hj=>by
  have hd1:(st.take (j+1)).head?=some (-2):=by cases st with | nil=>cases hh | cons a r=>exact hh
  exact (qKP (st.take (j+1)) W FL (qPC _ _ PT) (ND.sublist (Z4 _ _)) _ st[j] hd1 (by rw [C9,A7 hj,D0,A59];rfl)).1
 have few:∀ {V:Wy},Fl0 (W0 Ae path) V->∀ x,(V x).length<=802:=fun {V} F x=>by
  have:=qGG (F.nd x) fun y hy=>F.dom hy
  lia
 refine ⟨_,rfl,_,rfl,_,rfl,l,_,rfl,SqL.of hl,fun l2 hl2=>?_⟩;rw [qE8,show (1:Int)=((1:Nat):Int) from rfl,qEU _ _ lst1];have s1:=qA2 hl2 (.lst ((st.drop 1).map V.int));have g2:(Ag H l2 (.lst ((st.drop 1).map V.int))) l2=some (.lst ((st.drop 1).map V.int)):=qA1;have WA1:=WA.same s1;have nl2:∀ k,inK Ae path Ae.length k->ad k ≠ l2:=fun k hk z=>by have:=WA.lst k hk;rw [z,hl2] at this;cases this
 have gl1:=s1 _ _ hl;generalize Ag H l2 (.lst ((st.drop 1).map V.int))=H1 at s1 g2 WA1 gl1 ⊢;refine ⟨false,l,l2,rfl,⟨_,SqL.of gl1⟩,⟨_,SqL.of g2⟩,qW6 (b:=false) (l:=l) (m:=l2) (xs:=st.map V.int) (ys:=(st.drop 1).map V.int) (by rw [A0,A0,G8];lia) (fun j σ Hc=>∃ (v2 v3:Option V),σ=[some (.ref d),some (.ref l),v2,v3]/\WaysAt H0 Hc d 2002 (inK Ae path Ae.length) (qC8 (st.take (j+1)) W) ad/\Hc l=some (.lst (st.map V.int))/\Hc l2=some (.lst ((st.drop 1).map V.int)))
  ⟨none,none,rfl,?_,gl1,g2⟩ (fun j σ Hc _ ⟨_,_,_,_,a,b⟩=>⟨SqL.of a,SqL.of b⟩) ?_ ?_⟩
 ·cases st with
  | nil=>cases hh
  | cons a r=>exact WA1
 ·refine fun j x y σ Hc T hx hy hI_1 hT=>opq fun G_1 hG_1=>?_;obtain ⟨v2,v3,rfl,WC,glc,g2c⟩:=hI_1;obtain ⟨f1,ef,rfl⟩:=qB4 hx;obtain ⟨s1',es,rfl⟩:=qB4 hy;refine hG_1 ?_;rw [x9,d3] at es;have hj:=(A3.mp es).1;have sT:=qA2 hT (.tup [.int f1,.int s1']);have gT:SqT K (Ag Hc T (.tup [.int f1,.int s1'])) T [.int f1,.int s1']:=SqT.of qA1;have WD:=WC.same sT;have gld:=sT _ _ glc;have g2d:=sT _ _ g2c;generalize Ag Hc T (.tup [.int f1,.int s1'])=H2 at sT gT WD gld g2d ⊢;refine ⟨T,_,rfl,gT,rfl,_,_,rfl,_,_,rfl,rfl,?_⟩;refine nmT fun D1 d1 _=>?_;have FJ:=flp j (by lia)
  have inW:=qWW PT ef es
  -- the next stop isn't touched yet
  have nin:s1' ∉ st.take (j+1):=fun z=>by
   obtain ⟨m,hm⟩:=L7 z;have hm2:=(A3.mp hm).1;rw [E1] at hm2;rw [V8 (by lia)] at hm
   have:=(l5 (A3.mp hm).1 ND).mp (hm.trans es.symm)
   lia
  have eWs:qC8 (st.take (j+1)) W s1'=W s1':=qOS _ _ nin;have inJ:f1 ∈ qC8 (st.take (j+1)) W s1':=by rw [eWs];exact inW
  have nfs:f1 ≠ s1':=fun z=>by
   have:=(l5 (A3.mp ef).1 ND).mp ((ef.trans (congrArg some z)).trans es.symm)
   lia
  have kf:=FL.dom inW;have ks:inK Ae path Ae.length s1':=by
   rcases FL.on _ _ inW with z | z
   ·exact (qJT z).1
   ·exact (qJT z).2
  obtain ⟨k1,h1,h2,h3⟩:=qPY inJ;obtain ⟨Af,gkv,lkv,hkv⟩:=WD.dict;have hgs:=DGet.k (k:=D9 s1') gkv;rw [hkv _ ks] at hgs;have gls:=WD.lst _ ks;refine cut fun M1 hM1=>?_;refine ⟨_,rfl,_,rfl,d,_,rfl,hgs,.inl ⟨rfl,_,SqL.of gls⟩,_,rfl,ad s1',_,f1,k1,rfl,rfl,gls,h1,h2,?_⟩;rw [h3];have WE:=WD.put ks ((qC8 (st.take (j+1)) W s1').erase f1);have glE:(Ag H2 (ad s1') (.lst (((qC8 (st.take (j+1)) W s1').erase f1).map V.int))) l=some (.lst (st.map V.int)):=by rw [qA7 (nl _ ks).symm];exact gld
  have g2E:(Ag H2 (ad s1') (.lst (((qC8 (st.take (j+1)) W s1').erase f1).map V.int))) l2=some (.lst ((st.drop 1).map V.int)):=by rw [qA7 (nl2 _ ks).symm];exact g2d
  generalize Ag H2 (ad s1') (.lst (((qC8 (st.take (j+1)) W s1').erase f1).map V.int))=H3 at WE glE g2E ⊢;refine hM1 _ _ ?_;obtain ⟨kvs2,gkv2,lkv2,hkv2⟩:=WE.dict;have hgf:=DGet.k (k:=D9 f1) gkv2;rw [hkv2 _ kf] at hgf;have glf:=WE.lst _ kf;rw [if_neg nfs] at glf;refine ⟨_,rfl,_,rfl,d,_,rfl,hgf,.inl ⟨rfl,_,SqL.of glf⟩,_,rfl,ad f1,_,_,rfl,rfl,glf,qAR (by rw [A0];have:=few FJ f1;lia),?_⟩
  have WF:=WE.put kf (qC8 (st.take (j+1)) W f1++[s1']);rw [B2] at WF;refine d1 _ _ ⟨_,_,rfl,WF.congr fun x _=>?_,by rw [qA7 (nl _ kf).symm];exact glE,by rw [qA7 (nl2 _ kf).symm];exact g2E⟩
  rw [qRP ef es];unfold upW;by_cases c1:x=s1'
  ·subst c1;rw [if_pos rfl,if_neg fun z=>nfs z.symm,if_pos rfl]
  ·by_cases c2:x=f1
   ·rw [if_neg c1,if_pos c2,if_pos c2]
   ·rw [if_neg c1,if_neg c2,if_neg c2,if_neg c1]
 ·refine fun σ Hc hI_2=>opq fun G_2 hG_2=>?_;obtain ⟨v2,v3,rfl,WC,glc,g2c⟩:=hI_2;refine hG_2 ?_;rw [A0,G8,show st.length - 1+1=st.length by lia,F6] at WC
  exact q Hc WC
theorem sc_side_to:FnScope ["ways","work","side","stop"] ["ways","work"] (qAI qGB):=⟨rfl,rfl,rfl,by decide +kernel,rfl,by decide +kernel,by decide +kernel⟩
theorem ok_side_to (F:Fun K "side_to" "side_to" qGB f fd) (m_SOURCE:mg "SOURCE" = some (.int (-1) tk_SOURCE)):FnOk P w K mg base CX0 1 f fd ["ways","work"] qOX:=by
 refine F.ok sc_side_to (fun vs H Q E h=>?_) (fun cdv A outer s H vs Q E hr h=>?_)
 ·obtain ⟨d,H0,Ae,path,W,ad,w,s,rfl,_⟩:=h
  rfl
 obtain ⟨d,H0,Ae,path,W,ad,wk,sd,rfl,n400,WA,FL,wf,fw,fl,SD,q⟩:=h;have hu:=qH9 hr;refine ⟨_,(qA4 (qAF (i:=2) sc_side_to.nd rfl (E5 rfl) (qCT (qA0 (pv 1) qA3))) (qA4 (qAF (i:=3) sc_side_to.nd rfl (E5 rfl) (qC7 qBT (qBY hu (pv 0) (qAH qCD qA6 (pv 1)) (fun _ _=>rfl)) qA6 (fun _ _=>rfl))) (qA4 (qDY E4 (qAL qNW (pv 3) (qCE (v:=.int (-1)) rfl m_SOURCE ⟨_,rfl⟩) (qAW _)) (qA4 (qAF (i:=2) sc_side_to.nd rfl (E5 rfl) (qAH qSL (qCT (qA0 (qAH qFY (pv 3) qA6) qA3)) (pv 2))) (qA8 (qAF (i:=3) sc_side_to.nd rfl (E5 rfl) (qC7 qBT (qBY hu (pv 0) (qAH qCD qA6 (qC7 qDO (pv 2) qA6 (fun _ _=>rfl))) (fun _ _=>rfl)) qA6 (fun _ _=>rfl)))))) (qA8 (qAO (pv 2)))))),?_⟩
 try dsimp only [Cx.nox,Cx.wish,cxOf]
 have cm2:∀ j:Int,CMul 2 j:=fun j=>.inl ⟨by decide,by decide⟩
 have k2:∀ {u:Int},qAU Ae path u=true->inK Ae path Ae.length (2 * u):=fun {u} h=>.inr (.inr ⟨u,h,(free_in.mp h).1.2,.inl rfl⟩);have cdv2:∀ j:Int,CDiv (2 * j+1) 2:=fun j=>by unfold CDiv;decide
 -- what stands first at a work's way in
 have rd:∀ {Hz:Hp} {u p:Int},Same H Hz->qAU Ae path u=true->W (2 * u)=[p]->DGet Hz d (.int (2 * u)) (some (.ref (ad (2 * u))))/\Hz (ad (2 * u))=some (.lst [.int p]):=fun {Hz u p} sz h e=>by
  have WZ:=WA.same sz;obtain ⟨Af,gkv,_,hkv⟩:=WZ.dict;have hg:=DGet.k (k:=D9 (2 * u)) gkv;rw [hkv _ (k2 h)] at hg;have gl:=WZ.lst _ (k2 h);rw [e] at gl;exact ⟨hg,gl⟩
 refine cut fun N0 hN0=>?_;refine ⟨_,rfl,(by show 1<=B59;decide),fun t1 ht1=>?_⟩
 have s1:=qA2 ht1 (.tup [.int wk]);have g1:(Ag H t1 (.tup [.int wk])) t1=some (.tup (([wk]:List Int).map V.int)):=qA1;generalize Ag H t1 (.tup [.int wk])=H1 at s1 g1 ⊢;refine hN0 _ _ (cut fun N1 hN1=>?_);obtain ⟨p0,ep0⟩:=FL.in1 fw;obtain ⟨hg0,gl0⟩:=rd s1 fw ep0;refine ⟨_,rfl,_,rfl,_,_,rfl,rfl,cm2 _,d,_,rfl,hg0,?_⟩;refine ⟨ad (2 * wk),_,_,_,rfl,rfl,SqL.of gl0,rfl,?_⟩;refine hN1 _ _ (cut fun N2 hN2=>?_);refine ⟨fun m σ Hc=>∃ (T:Addr) (u p:Int) (r s1:List Int),σ=[some (.ref d),some (.int wk),some (.ref T),some (.int p)]/\m=u.toNat/\Same H Hc/\Hc T=some (.tup ((u::r).map V.int))/\qAU Ae path u=true/\Flw W u/\W (2 * u)=[p]/\Sd W u s1/\sd=s1++r/\r.length+u.toNat<=400,⟨_,t1,wk,p0,[],sd,rfl,rfl,s1,g1,fw,fl,ep0,SD,by simp,?_⟩,?_⟩
 ·have:=(free_in.mp fw).1;simp;lia
 refine fun m σ Hc hI_1=>opq fun G_1 hG_1=>?_;obtain ⟨T,u,p,r,s1',rfl,rfl,sc,gT,fu,flu,ep,SU,es,lr⟩:=hI_1;refine hG_1 ?_;refine ⟨_,rfl,rfl,_,rfl,?_⟩;have b:=(free_in.mp fu).1;cases SU with
 | top e=>
  rw [ep] at e;have e1:=(Q3 e).1;subst e1;refine iteF ?_;refine hN2 _ _ ⟨_,rfl,q T Hc sc ?_⟩;rw [gT,es]
  rfl
 | @step _ n s2' n0 e SN=>
  rw [ep] at e;have e1:=(Q3 e).1;subst e1;obtain ⟨p',e2,e3,⟨rfl,_⟩ | ⟨n',rfl,g,hn⟩⟩:=FL.pred fu flu
  ·rw [ep] at e2;have:=(Q3 e2).1;exfalso;lia
  have en:n=n':=by rw [ep] at e2;have:=(Q3 e2).1;lia
  subst en;obtain ⟨fn,_⟩:=FL.out g (y:=2 * u) ((w0_o n0).mpr ⟨g,.inr ⟨u,rfl,fu,hn⟩⟩) e3;have bn:=qC9 wf b.1 hn;rw [decide_eq_false (show ¬ V.int (2 * n+1)=V.int (-1) from fun z=>by have:=V.int.inj z;lia)]
  refine iteT ?_;refine ⟨_,fun σ' H' h=>⟨n.toNat,by lia,h⟩,?_⟩
  refine cut fun M1 hM1=>?_;refine ⟨_,rfl,_,_,rfl,rfl,cdv2 n,?_⟩;dsimp only;rw [show (2 * n+1) / 2=n by lia]
  refine ⟨(by show 1<=B59;decide),fun t2 ht2=>?_⟩
  have s2:=qA2 ht2 (.tup [.int n]);have g2:(Ag Hc t2 (.tup [.int n])) t2=some (.tup [.int n]):=qA1;have gT2:=s2 _ _ gT;have sc2:=sc.trans s2;generalize Ag Hc t2 (.tup [.int n])=H2 at s2 g2 gT2 sc2 ⊢;refine ⟨_,rfl,t2,T,_,_,rfl,rfl,SqT.of g2,SqT.of gT2,by simp,by rw [B66];simp;lia,fun z=>(nomatch z),fun _ t3 ht3=>?_⟩
  have s3:=qA2 ht3 (.tup ([.int n]++(u::r).map V.int));have g3:(Ag H2 t3 (.tup ([.int n]++(u::r).map V.int))) t3=some (.tup ((n::u::r).map V.int)):=qA1;have sc3:=sc2.trans s3;generalize Ag H2 t3 (.tup ([.int n]++(u::r).map V.int))=H3 at s3 g3 sc3 ⊢;refine hM1 _ _ ?_;obtain ⟨p1,ep1⟩:=FL.in1 g;obtain ⟨hg1,gl1⟩:=rd sc3 g ep1;refine ⟨_,rfl,_,rfl,t3,_,_,_,rfl,rfl,SqT.of g3,qD6 (M6 0) rfl,_,_,rfl,rfl,cm2 _,d,_,rfl,hg1,?_⟩;refine ⟨ad (2 * n),_,_,_,rfl,rfl,SqL.of gl1,rfl,?_⟩;refine ⟨t3,n,p1,u::r,s2',rfl,rfl,sc3,g3,g,fn,ep1,SN,by rw [es];simp,?_⟩
  rw [D8]
  lia
end
section
variable {P:B60} {w:World} {K:PySem.W.Frag} {mg:Str->Option Value} {base:Heap} {f:Addr} {fd:B65} {qE6 qFB qD7 qGW:Addr} {qHQ qJB qGR qKE:B65} {tk_GOAL:Tok}
theorem sc_sides_of:FnScope ["net","path","ways","stops"] ["net","path"] (qAI qF3):=⟨rfl,rfl,rfl,by decide +kernel,rfl,by decide +kernel,by decide +kernel⟩
theorem ok_sides_of (F:Fun K "sides_of" "sides_of" qF3 f fd) (m_GOAL:mg "GOAL" = some (.int (-2) tk_GOAL)) (qEE:Clb P w K mg base 2 qE6 qHQ "free_ways" ["net","path"] qJX) (qDQ:Clb P w K mg base 1 qFB qJB "way_back" ["ways"] qLY) (qDB:Clb P w K mg base 1 qD7 qGR "turn_round" ["ways","stops"] qWR) (qH0:Clb P w K mg base 1 qGW qKE "side_to" ["ways","work"] qOX) (qB1:mg "sorted" = none):FnOk P w K mg base CX0 3 f fd ["net","path"] qNK:=by
 refine F.ok sc_sides_of (fun vs H Q E h=>?_) (fun cdv A outer s H vs Q E hr h=>?_)
 ·obtain ⟨a,t,Ae,path,rfl,_⟩:=h
  rfl
 obtain ⟨a,t,Ae,path,rfl,PI,n60,q⟩:=h;have hu:=qH9 hr;have hu64:=hr.units;refine ⟨_,(qA4 (qAF (i:=2) sc_sides_of.nd rfl (A64 rfl) (qAZ qEE hr rfl (qA0 (pv 0) (qA0 (pv 1) qA3)))) (qA4 (qAF (i:=3) sc_sides_of.nd rfl (E5 rfl) (qAZ qDQ hr rfl (qA0 (pv 2) qA3))) (qA4 (qDY E4 (qKW (pv 3) (fun _=>rfl)) (qA4 (qB9 (qAZ qDB hr rfl (qA0 (pv 2) (qA0 (pv 3) qA3)))) (qA8 (qAF (i:=3) sc_sides_of.nd rfl (E5 rfl) (qAZ qDQ hr rfl (qA0 (pv 2) qA3)))))) (qA8 (qAO (qA9 (L2.G.call_sortedTL rfl hu64) rfl qB1 qEW (qA0 (qEQ rfl (lcs (own:=["stop"]) (fv:=[2]) (by kernel_rfl)) (qCS (qBY hu (pv 2) (qCE (v:=.int (-2)) rfl m_GOAL ⟨_,rfl⟩) (fun _ _=>rfl))) (fun z1=>qAG (i:=0) (qCV (by kernel_rfl)) rfl (E5 rfl)) (fun z1=>qBI) (fun z1=>(qAZ qH0 hr rfl (qA0 (pv 1) (qA0 (qAH qFY (pv 0) qA6) qA3))))) qA3))))))),?_⟩
 try dsimp only [Cx.nox,Cx.wish,cxOf]
 obtain ⟨hN,wf,n400,hT,pne,lp,pin⟩:=id PI;refine cut fun N0 hN0=>?_;refine ⟨_,rfl,_,rfl,a,t,Ae,path,rfl,PI,fun d ad H1 WA1=>?_⟩;refine hN0 _ _ (cut fun N1 hN1=>?_);have FL1:=qW8 (Ae:=Ae) (path:=path) wf;refine ⟨_,rfl,d,H,Ae,path,W0 Ae path,ad,rfl,n400,WA1,FL1.fl,fun l1 st1 H2 s2 fl1 gl1 wb1 ok1=>?_⟩;refine hN1 _ _ (cut fun N2 hN2=>?_);refine ⟨fun m σ Hc=>∃ (l:Addr) (st:List Int) (W:Wy),σ=[some (.ref a),some (.ref t),some (.ref d),some (.ref l)]/\WaysAt H Hc d 2002 (inK Ae path Ae.length) W ad/\Fl Ae path W/\Hc l=some (.lst (st.map V.int))/\(∀ k,inK Ae path Ae.length k->ad k ≠ l)/\WB W st/\StOk W st/\(∀ W',SW W W'->SW (W0 Ae path) W')/\m+(W (-2)).length=2 * Ae.length+2,⟨2 * Ae.length+2,l1,st1,W0 Ae path,rfl,WA1.same s2,FL1,gl1,fun k hk z=>?_,wb1,ok1,fun _ h=>h,?_⟩,?_⟩
 ·have:=WA1.lst k hk;rw [z,fl1] at this;cases this
 ·show 2 * Ae.length+2+(fwW Ae path Ae.length (-2)).length=_;rw [fw_g];rfl
 refine fun m σ Hc hI_2=>opq fun G_2 hG_2=>?_;obtain ⟨l,st,W,rfl,WA,FL,gl,nl,wb,ok,go,em⟩:=hI_2;refine hG_2 ?_;refine ⟨_,rfl,_,.inl ⟨_,SqL.of gl,rfl⟩,?_⟩;rcases ok with rfl | ⟨PT,ND,hh,hl⟩
 ·refine iteF ?_;refine hN2 _ _ ?_;have SWE:=go W (.stop wb);have k2:inK Ae path Ae.length (-2):=.inr (.inl rfl);obtain ⟨Af,gkv,lkv,hkv⟩:=WA.dict;have hgk:=DGet.k (k:=D9 (-2)) gkv;rw [hkv _ k2] at hgk;have gl2:=WA.lst _ k2;have few:(W (-2)).length<=Ae.length:=by
   have sub:∀ x ∈ W (-2),x ∈ (qAC 0 (Ae.length:Int)).map (fun w=>2 * w+1):=fun x hx=>by
    obtain ⟨v,rfl,f,_⟩:=FL.ends hx;exact D7.mpr ⟨v,mem_rangeI.mpr (free_in.mp f).1,rfl⟩
   have:=D3 (FL.fl.nd (-2)) sub;rw [A0,qBL] at this
   lia
  refine ⟨_,rfl,d,_,rfl,hgk,ad (-2),rfl,⟨_,SqL.of gl2⟩,fun px hpx=>?_⟩;refine qL5 (p:=px) (a:=ad (-2)) (xs:=(W (-2)).map V.int) (fun j σ Hd=>∃ (v:Option V) (rs:List Addr) (ss:List (List Int)),σ=[v,some (.ref d)]/\Same Hc Hd/\Hd px=some (.lst (rs.map V.ref))/\L2.G.TupsAt Hd rs ss/\Paired (fun x s=>Sd W (x / 2) s) ((W (-2)).take j) ss) ?_ ?_ ?_ ?_
  ·exact ⟨none,[],[],rfl,qA2 hpx _,qA1,.nil,.nil⟩
  ·rintro j σ Hd hj ⟨v,rs,ss,rfl,sd,_⟩;exact SqL.of (sd _ _ gl2)
  ·refine fun j x σ Hd hx hI_4=>opq fun G_4 hG_4=>?_;obtain ⟨v,rs,ss,rfl,sd,gp,TA,PA⟩:=hI_4;obtain ⟨y,ey,rfl⟩:=qB4 hx;obtain ⟨u,rfl,fu,eu,flu⟩:=FL.ends (B6 ey);obtain ⟨sd0,SD⟩:=FL.side wf (u.toNat+1) u (by lia) fu flu
   refine hG_4 ?_;have hj:=(A3.mp ey).1;have lrs:=C6 TA;have lss:=C6 PA;rw [E1] at lss;refine ⟨_,rfl,_,rfl,_,_,rfl,rfl,(by unfold CDiv;decide),?_⟩
   dsimp only;rw [show (2 * u+1) / 2=u by lia]
   refine ⟨d,H,Ae,path,W,ad,u,sd0,rfl,n400,WA.same sd,FL,wf,fu,flu,SD,fun T Hx sx gT=>?_⟩;refine ⟨_,sx _ _ gp,qAR (by rw [A0];lia),?_⟩
   have gp':=sx _ _ gp;refine ⟨_,rs++[T],ss++[sd0],rfl,qAB (sd.trans sx) hpx,by rw [qA1,B2];rfl,qBN (qH7 TA fun b m e=>?_) ?_,?_⟩
   ·rw [qA7 (qC2 (sx _ _ e) gp' (by intro z;cases z))];exact sx _ _ e
   ·rw [qA7 (qC2 gT gp' (by intro z;cases z))];exact gT
   ·rw [C9,ey,D0];exact qBN PA (by rw [show (2 * u+1) / 2=u by lia];exact SD)
  refine fun σ Hd hI_5=>opq fun G_5 hG_5=>?_;obtain ⟨v,rs,ss,rfl,sd,gp,TA,PA⟩:=hI_5;refine hG_5 ?_;rw [A0,F6] at PA;have lrs:=C6 TA;have lss:=C6 PA;have ne0:∀ t ∈ ss,t ≠ []:=fun t ht=>by
   obtain ⟨i,hi⟩:=L7 ht;obtain ⟨x,_,hS⟩:=qK4 PA hi;have:=qNN hS;intro z;rw [z] at this;cases this
  refine ⟨px,rs,ss,rfl,SqL.of gp,TA,ne0,fun lz rs' ts' flz pm TA' pt st'=>?_⟩;have s9:=qA2 flz (.lst (rs'.map V.ref));have sHd:=(WA.same sd).old;exact q lz rs' ts' _ (sHd.trans s9) (sHd.free flz) qA1 (qH7 TA' fun b m e=>s9 _ _ e) ⟨W,ss,SWE,FL,PA,pt,st'⟩
 have tru:(!(st.map V.int).isEmpty)=true:=by cases st with | nil=>cases hh | cons _ _=>rfl
 rw [tru];refine iteT ?_;have ne:st ≠ []:=fun z=>by rw [z] at hh;cases hh
 obtain ⟨FL',len'⟩:=FL.turn PT ND hh hl;have few:=qGG (FL'.fl.nd (-2)) fun y hy=>FL'.fl.dom hy;refine ⟨_,fun σ' H' h=>⟨m - 1,by lia,h⟩,?_⟩
 refine cut fun M1 hM1=>?_;refine ⟨_,rfl,_,rfl,d,l,H,Ae,path,W,ad,st,rfl,n400,WA,FL.fl,gl,nl,PT,ND,hh,fun H3 WA3=>?_⟩;refine hM1 _ _ ?_;refine ⟨_,rfl,d,H,Ae,path,qC8 st W,ad,rfl,n400,WA3,FL'.fl,fun l2 st2 H4 s4 fl2 gl2 wb2 ok2=>?_⟩;refine ⟨l2,st2,qC8 st W,rfl,WA3.same s4,FL',gl2,fun k hk z=>?_,wb2,ok2,fun W' h=>go W' (.go wb ne h),by lia⟩
 have:=WA3.lst k hk;rw [z,fl2] at this;cases this
end
section
variable {P:B60} {w:World} {K:PySem.W.Frag} {mg:Str->Option Value} {base:Heap} {f:Addr} {fd:B65}
theorem sc_Lhit:FnScope ["_law_net_here","_law_path","_law_found","_law_work"] ["_law_net_here","_law_path"] (qAI qP7):=⟨rfl,rfl,rfl,by decide +kernel,rfl,by decide +kernel,by decide +kernel⟩
theorem ok_Lhit (F:Fun K "_law_hit" "_law_hit" qP7 f fd) (qB1:mg "sorted" = none) (qFT:mg "set" = none):FnOk P w K mg base CX0 1 f fd ["_law_net_here","_law_path"] qP2:=by
 refine F.ok sc_Lhit (fun vs H Q E h=>?_) (fun cdv A outer s H vs Q E hr h=>?_)
 ·obtain ⟨a,t,Ae,path,rfl,_⟩:=h
  rfl
 obtain ⟨a,t,Ae,path,rfl,⟨hN,wf,n400,hT,pne,lp,pin⟩,n60,p60,q⟩:=h;have hu:=qH9 hr;have hu0:=hr.units0;refine ⟨_,(qA4 (qAF (i:=2) sc_Lhit.nd rfl (E5 rfl) (qAY qA3)) (qA4 (qBX E4 rfl (qD3 (qCB qS4 (pv 1) (qDF qA6) qDG)) (qAG (i:=3) sc_Lhit.nd rfl (E5 rfl)) (qA8 (qB9 (qDZ C7 R3 R4 qJ0 (pv 2) (qA0 (qEQ rfl (lcs (own:=["_law_need"]) (fv:=[1]) (by kernel_rfl)) (qD3 (qC7 qDO (pv 0) (pv 3) (fun _ _=>rfl))) (fun z1=>qAG (i:=0) (qCV (by kernel_rfl)) rfl (E5 rfl)) (fun z1=>(qNS (qAL (qGF (K:=K) rfl) (pv 0) (pv 1) (by with_unfolding_all rfl)))) (fun z1=>(pv 0))) qA3))))) (qA8 (qAO (qA9 (qEV rfl) rfl qB1 qEW (qA0 (qAD (qGY rfl) rfl qFT qQ5 (qA0 (pv 2) qA3)) qA3)))))),?_⟩
 try dsimp only [Cx.nox,Cx.wish,cxOf]
 obtain ⟨rs,hA,NL⟩:=id hN;have lrs:=C6 NL;refine cut fun N0 hN0=>?_;refine ⟨(by show 0<=B59;decide),fun l hl=>?_⟩
 have s1:=qA2 hl (.lst []);have g1:(Ag H l (.lst [])) l=some (.lst (([]:List Int).map V.int)):=qA1;generalize Ag H l (.lst [])=H1 at s1 g1 ⊢;refine hN0 _ _ (cut fun N1 hN1=>?_);have lpath:1<=path.length:=T4.mpr pne;refine ⟨_,rfl,_,rfl,t,_,rfl,SqT.of (s1 _ _ hT),?_,fun t1 ht1=>?_⟩
 ·rw [A0,show (1:Int)=((1:Nat):Int) from rfl,HT.sIx_nat]
  lia
 rw [qE8,show (1:Int)=((1:Nat):Int) from rfl,qEU _ _ lpath];have s2:=qA2 ht1 (.tup ((path.drop 1).map V.int));have g2:(Ag H1 t1 (.tup ((path.drop 1).map V.int))) t1=some (.tup ((path.drop 1).map V.int)):=qA1;have gl2:=s2 _ _ g1;generalize Ag H1 t1 (.tup ((path.drop 1).map V.int))=H2 at s2 g2 gl2 ⊢;have s02:=s1.trans s2;have nt1:t1 ≠ l:=qC2 g2 gl2 (by intro z;cases z)
 refine ⟨t1,rfl,⟨_,SqT.of g2⟩,qJA (a:=t1) (xs:=(path.drop 1).map V.int) (fun i σ Hc=>∃ (fs:List Int) (v3:Option V),σ=[some (.ref a),some (.ref t),some (.ref l),v3]/\Same H Hc/\Hc t1=some (.tup ((path.drop 1).map V.int))/\Hc l=some (.lst (fs.map V.int))/\fs.length<=60 * i/\∀ z:Int,z ∈ fs ↔ z ∉ path/\∃ w ∈ (path.drop 1).take i,z ∈ nd Ae w)
  ⟨[],none,rfl,s02,g2,gl2,F8 _,fun z=>by simp⟩ (fun i σ Hc _ hP=>by obtain ⟨_,_,_,_,g,_⟩:=hP;exact SqT.of g) ?_ ?_⟩
 ·refine fun i x σ Hc hx hI_1=>opq fun G_1 hG_1=>?_;obtain ⟨fs,v3,rfl,sc,gt,gl,lf,hv⟩:=hI_1;obtain ⟨wk,ew,rfl⟩:=qB4 hx;refine hG_1 ?_;have hi:=(A3.mp ew).1;rw [G8] at hi;have wb:=pin wk (L3 (B6 ew));have hw:wk.toNat<Ae.length:=by lia
  have hz:=A7 hw;obtain ⟨r,h3,h4⟩:=NL.get hz;have en:=qBJ hz;have ln:=(wf wk.toNat _ hz).len;generalize Ae[wk.toNat]=zs at h4 hz en ln;refine ⟨_,rfl,.inl ⟨rfl,_,SqL.of gl⟩,?_⟩;refine ⟨_,rfl,_,rfl,a,_,_,_,rfl,rfl,SqT.of (sc _ _ hA),qD6 wb.1 (by rw [C4,h3];rfl),r,rfl,⟨_,SqT.of (sc _ _ h4)⟩,fun px hpx=>?_⟩
  have nlp:l ≠ px:=qA5 gl hpx;have ntp:t1 ≠ px:=qA5 gt hpx;refine qGK (p:=px) (a:=r) (xs:=zs.map V.int) (fun j σ Hd=>∃ (v:Option V),σ=[v,some (.ref t)]/\Same Hc Hd/\Hd px=some (.lst (((zs.take j).filter fun z=>decide (z ∉ path)).map V.int))) ?_ ?_ ?_ ?_
  ·exact ⟨none,rfl,qA2 hpx _,qA1⟩
  ·rintro j σ Hd hj ⟨v,rfl,sd,_⟩;exact SqT.of (sd _ _ (sc _ _ h4))
  ·refine fun j y σ Hd hy hI_3=>opq fun G_3 hG_3=>?_;obtain ⟨v,rfl,sd,gp⟩:=hI_3;obtain ⟨z0,ez,rfl⟩:=qB4 hy;refine hG_3 ?_;have hj:=(A3.mp ez).1;have lfl:=Q0 (fun z=>decide (z ∉ path)) (zs.take j);rw [E1] at lfl;refine ⟨_,rfl,_,rfl,t,_,rfl,.inr (SqT.of ((sc.trans sd) _ _ hT)),rfl,qBK path,_,rfl,?_⟩;rw [qCY,C9,ez,D0,U6];by_cases cz:z0 ∈ path
   ·rw [decide_eq_true cz];refine iteF ?_;exact ⟨_,rfl,sd,by rw [gp];simp [cz]⟩
   ·rw [decide_eq_false cz];refine iteT ?_;exact ⟨_,rfl,_,gp,qAR (by rw [A0];lia),_,rfl,qAB sd hpx,by rw [qA1];simp [cz]⟩
  refine fun σ Hd hI_4=>opq fun G_4 hG_4=>?_;obtain ⟨v,rfl,sd,gp⟩:=hI_4;refine hG_4 ?_;rw [A0,F6] at gp;have lfl:=Q0 (fun z=>decide (z ∉ path)) zs;refine ⟨l,px,_,_,rfl,rfl,sd _ _ gl,gp,by rw [B66,A0,A0];lia,?_⟩
  rw [<- B2];refine ⟨_,_,rfl,qAB (sc.trans sd) hl,by rw [qA7 nt1];exact sd _ _ gt,qA1,by rw [A5];lia,fun z=>?_⟩
  rw [B7,hv z,G3,decide_eq_true_eq,C9,ew,D0]
  constructor
  ·rintro (⟨h1,u,h2,h3⟩ | ⟨h1,h2⟩)
   ·exact ⟨h1,u,G6 _ h2,h3⟩
   ·exact ⟨h2,wk,D5 _ A8,by rw [en];exact h1⟩
  ·refine fun hI_5=>opq fun G_5 hG_5=>?_;obtain ⟨h1,u,h2,h3⟩:=hI_5;refine hG_5 ?_;rcases B7.mp h2 with h | h
   ·exact .inl ⟨h1,u,h,h3⟩
   ·rw [A6.mp h,en] at h3;exact .inr ⟨h3,h1⟩
 ·refine fun σ Hc hI_6=>opq fun G_6 hG_6=>?_;obtain ⟨fs,v3,rfl,sc,gt,gl,lf,hv⟩:=hI_6;refine hG_6 ?_;rw [A0] at lf hv;rw [F6] at hv;rw [G8] at lf;refine hN1 _ _ ?_;refine ⟨_,rfl,l,fs,rfl,SqL.of gl,by lia,fun e he=>?_⟩
  have h60:(dedI fs).length<=60:=by
   have:=D3 (qKG fs) (l₂:=qAC 0 (Ae.length:Int)) fun z hz=>by
    obtain ⟨_,u,hu,hz2⟩:=(hv z).mp (mem_dedI.mp hz);have:=pin u (L3 hu);have:=qC9 wf this.1 hz2;rw [mem_rangeI]
    lia
   rw [qBL] at this
   lia
  refine ⟨e,dedI fs,rfl,qA1,fun b ys hb hpm hs=>?_⟩;refine q b ys _ ((sc.trans (qA2 he _)).trans (qA2 hb _)) qA1 (by rw [hpm.length_eq];exact h60) fun z=>?_
  rw [hpm.mem_iff,mem_dedI,hv z,end_iff]
end
section
variable {P:B60} {w:World} {K:PySem.W.Frag} {mg:Str->Option Value} {base:Heap} {f:Addr} {fd:B65} {qHS:Addr} {qHB:B65}
theorem qNO:FnScope ["_law_net_here","_law_path","_law_thing"] ["_law_net_here","_law_path","_law_thing"] (qAI qF4):=⟨rfl,rfl,rfl,by decide +kernel,rfl,by decide +kernel,by decide +kernel⟩
theorem ok_Lis_side (F:Fun K "_law_is_side" "_law_is_side" qF4 f fd) (qEH:Clb P w K mg base 1 qHS qHB "_law_hit" ["_law_net_here","_law_path"] qP2) (qAA:mg "isinstance" = none) (qAJ:mg "tuple" = none) (qEI:mg "int" = none) (qEK:mg "bool" = none) (qB6:mg "len" = none) (qFU:mg "all" = none) (qKM:mg "any" = none) (qG9:mg "zip" = none):FnOk P w K mg base CX0 2 f fd ["_law_net_here","_law_path","_law_thing"] qP0:=by
 refine F.ok qNO (fun vs H Q E h=>?_) (fun cdv A outer s H vs Q E hr h=>?_)
 ·obtain ⟨a,t,Ae,path,x,n,dt,rfl,_⟩:=h
  rfl
 obtain ⟨a,t,Ae,path,x,n,dt,rfl,PI,n60,p60,D,LD,q⟩:=h;have hu:=qH9 hr;have hu0:=hr.units0;refine ⟨_,(qA4 (qBP (PW.pt (qM8 (qFM (qDL (qA9 qAV rfl qAA qAK (qA0 (pv 2) (qA0 (qBZ (v:=.ty "tuple") rfl qAJ qB2 rfl) qA3))))) (qIU (qAL (qH8 hu0) (pv 2) (qCT qA3) (qAW _))))) (qA8 (qAO qGD)) qAP) (qA4 (qBP (qFM (qDL (qA9 (qIJ rfl) rfl qFU qQ7 (qA0 (qEQ rfl (lcs (own:=["_law_work"]) (fv:=[0]) (by kernel_rfl)) (qD3 (pv 2)) (fun z2=>qAG (i:=0) (qCV (by kernel_rfl)) rfl (E5 rfl)) (fun z2=>qBI) (fun z2=>(qK2 (qA9 (qHU (K:=K) rfl) rfl qAA qAK (qA0 (pv 0) (qA0 (qBZ (v:=.ty "int") rfl qEI qN4 rfl) qA3))) (qK2 (qWZ (qA9 (qHU (K:=K) rfl) rfl qAA qAK (qA0 (pv 0) (qA0 (qBZ (v:=.ty "bool") rfl qEK qUD rfl) qA3)))) (qPF (qV8 qaM qVA qA6 (pv 0) (qA9 (qU9 (K:=K) rfl) rfl qB6 qBQ (qA0 (pv 1) qA3)))))))) qA3)))) (qA8 (qAO qGD)) qAP) (qA4 (qBP (PW.pt (qM8 (qAL (qQJ hu0) (qC7 qDO (pv 0) (qC7 qDO (pv 2) qA6 (fun _ _=>rfl)) (fun _ _=>rfl)) (qCT qA3) (qAW _)) (qM8 (qDL (qA9 (qQ4 rfl) rfl qKM qXK (qA0 (qEQ rfl (lcs (own:=["_law_work"]) (fv:=[1]) (by kernel_rfl)) (qD3 (pv 2)) (fun z3=>qAG (i:=0) (qCV (by kernel_rfl)) rfl (E5 rfl)) (fun z3=>qBI) (fun z3=>(qDH (qSJ (K:=K) rfl) (pv 0) (pv 1) (by with_unfolding_all rfl)))) qA3))) (qIU (qAL qD4 (qC7 qDO (pv 2) (qY9 qRO qA6) (fun _ _=>rfl)) (qAZ qEH hr rfl (qA0 (pv 0) (qA0 (pv 1) qA3))) (by with_unfolding_all rfl)))))) (qA8 (qAO qGD)) qAP) (qA8 (qAO (qA9 (qIJ rfl) rfl qFU qQ7 (qA0 (qEQ rfl (lcs (own:=["_law_one","_law_other"]) (fv:=[0]) (by kernel_rfl)) (qSD rfl qG9 qUA (qA0 (pv 2) (qA0 (qCB qS4 (pv 2) (qDF qA6) qDG) qA3))) (fun z4=>qNU (K:=K) (n:=2) rfl rfl (qBR (qAG (i:=0) (qCV (by kernel_rfl)) rfl (E5 rfl)) (qBR (qAG (i:=1) (qCV (by kernel_rfl)) rfl (E5 rfl)) qH5)) rfl rfl) (fun z4=>qBI) (fun z4=>(qDH (qSJ (K:=K) rfl) (pv 0) (qC7 (qYT (K:=K) rfl) (pv 2) (pv 1) (fun _ _=>rfl)) (by with_unfolding_all rfl)))) qA3))))))),?_⟩
 try dsimp only [Cx.nox,Cx.wish,cxOf]
 obtain ⟨hN,wf,n400,hT,pne,lp,pin⟩:=id PI;obtain ⟨rs,hA,NL⟩:=id hN;have lrs:=C6 NL;obtain ⟨ty,tyo,k1,k2,k3⟩:=qWP (K:=K) D;have no:∀ {b:Bool},qFW Ae path dt=b->∀ Hx,Same H Hx->Q (.bl b) Hx:=fun e Hx sx=>by rw [<- e];exact q Hx sx
 refine cut fun N0 hN0=>?_;refine ⟨_,rfl,x,"tuple",ty,_,rfl,tyo,k3,_,rfl,?_⟩;cases c:tupB dt with
 | false=>
  refine iteT ?_;refine iteT ?_;exact no (by cases dt <;> first | rfl | cases c) H (.refl _)
 | true=>
  refine iteF ?_;obtain ⟨m,tt,xs,ds,rfl,rfl,rfl,ga,lx,el⟩:=qTV D c;have ld:ds.length<=2000:=(LD true ds rfl).1;refine ⟨_,rfl,(by show 0<=B59;decide),fun e0 he0=>?_⟩
  have s1:=qA2 he0 (.tup []);refine ⟨tt,e0,xs,rfl,rfl,SqT.of (s1 _ _ ga),SqT.of qA1,_,rfl,?_⟩;generalize Ag H e0 (.tup [])=H1 at s1 ⊢;by_cases ne0:ds=[]
  ·subst ne0;have ex:xs=[]:=Q2.mp lx;subst ex;refine iteT ?_;exact no rfl H1 s1
  have xne:xs.isEmpty=false:=by cases xs with | nil=>exact absurd (Q2.mp lx.symm) ne0 | cons _ _=>rfl
  have emp:ds.isEmpty=false:=by cases ds with | nil=>exact absurd rfl ne0 | cons _ _=>rfl
  rw [xne];refine iteF ?_;refine hN0 _ _ (cut fun N1 hN1=>?_);refine ⟨_,rfl,tt,rfl,⟨_,SqT.of (s1 _ _ ga)⟩,fun px hpx=>?_⟩;refine qGK (p:=px) (a:=tt) (xs:=xs) (fun i σ Hd=>∃ (v:Option V),σ=[v,some (.ref a)]/\Same H1 Hd/\Hd px=some (.lst (((ds.take i).map (qFR (Ae.length:Int))).map V.bl))) ?_ ?_ ?_ ?_
  ·exact ⟨none,rfl,qA2 hpx _,qA1⟩
  ·rintro i σ Hd hi ⟨v,rfl,sd,_⟩;exact SqT.of ((s1.trans sd) _ _ ga)
  ·refine fun i x' σ Hd hx hI_8=>opq fun G_8 hG_8=>?_;obtain ⟨v,rfl,sd,gp⟩:=hI_8;refine hG_8 ?_;have hi:=(A3.mp hx).1;have ed:=A7 (show i<ds.length by lia)
   generalize ds[i]=d1 at ed;have sd1:=s1.trans sd;have Di:=DatN.same sd1 (el i x' _ hx ed);obtain ⟨ty1,tyo1,j1,j2,j3⟩:=qWP (K:=K) Di;have fin:∀ b:Bool,qFR (Ae.length:Int) d1=b->∃ ys,Hd px=some (.lst ys)/\ys.length<B59/\∃ v:Option V,[some x',some (.ref a)]=[v,some (.ref a)]/\Same H1 (Ag Hd px (.lst (ys++[.bl b])))/\(Ag Hd px (.lst (ys++[.bl b]))) px=some (.lst (((ds.take (i+1)).map (qFR (Ae.length:Int))).map V.bl)):=by
    intro b eb;refine ⟨_,gp,qAR (by rw [A0,A0,E1];lia),_,rfl,qAB sd hpx,?_⟩
    rw [qA1,C9,ed,D0,B2,B2,<- eb]
    rfl
   refine ⟨_,rfl,x',"int",ty1,_,rfl,tyo1,j1,_,rfl,?_⟩;cases c1:(numB d1 || qR6 d1) with
   | false=>
    refine iteF ?_;exact fin false (by cases d1 <;> first | rfl | cases c1)
   | true=>
    refine iteT ?_;refine ⟨_,rfl,x',"bool",ty1,_,rfl,tyo1,j2,?_⟩;refine ⟨_,rfl,_,rfl,?_⟩;cases c2:qR6 d1 with
    | true=>
     refine iteF ?_;exact fin false (by cases d1 <;> first | rfl | cases c2)
    | false=>
     refine iteT ?_;have num:numB d1=true:=by rw [c2,Bool.or_false] at c1;exact c1
     obtain ⟨i1,rfl,rfl⟩:=qOB Di num;refine ⟨_,rfl,_,_,rfl,rfl,_,rfl,?_⟩;cases c3:decide ((0:Int)<=i1) with
     | false=>
      refine iteF ?_;exact fin false (by show (decide (0<=i1) && _)=false;rw [c3];rfl)
     | true=>
      refine iteT ?_;refine ⟨_,rfl,a,_,rfl,.inr (SqT.of (sd1 _ _ hA)),?_⟩;rw [A0,lrs];refine ⟨_,_,rfl,rfl,?_⟩;exact fin _ (by show (decide (0<=i1) && decide (i1<_))=_;rw [c3];rfl)
  refine fun σ Hd hI_9=>opq fun G_9 hG_9=>?_;obtain ⟨v,rfl,sd,gp⟩:=hI_9;refine hG_9 ?_;rw [lx,F6] at gp;refine ⟨px,_,rfl,SqL.of gp,_,rfl,?_⟩;have ea:((ds.map (qFR (Ae.length:Int))).all id)=ds.all (qFR (Ae.length:Int)):=by rw [B05];rfl
  rw [ea];have s01:=s1.trans sd;cases cb:ds.all (qFR (Ae.length:Int)) with
  | false=>
   refine iteT ?_;refine no ?_ Hd s01;unfold qFW;have:qV9 Ae (.tuple ds)=false:=by
    show (!ds.isEmpty && _ && _)=false;rw [cb,U9,X7]
   rw [this];rfl
  | true=>
   refine iteF ?_;obtain ⟨zs,rfl,zin⟩:=qKJ cb;have ex:=qW9 lx el;subst ex;have zne:zs ≠ []:=fun z=>by subst z;exact ne0 rfl
   have es:=qM1 (path:=path) zne zin;rw [es] at no;obtain ⟨zl,hzl⟩:∃ zl,zs.getLast?=some zl:=⟨_,List.getLast?_eq_some_getLast zne⟩;have el1:(zs.map V.int).getLast?=some (.int zl):=by rw [List.getLast?_map,hzl];rfl
   have eld:zs.getLastD 0=zl:=by rw [K0,hzl];rfl
   rw [eld] at no;have lz:zs.length<=2000:=by rw [A0] at ld;exact ld
   obtain ⟨z0,zr,ezs⟩:∃ z0 zr,zs=z0::zr:=by cases zs with | nil=>exact absurd rfl zne | cons a b=>exact ⟨a,b,rfl⟩
   have h0z:(zs.map V.int)[(0:Int).toNat]?=some (.int z0):=by rw [ezs];rfl
   refine hN1 _ _ (cut fun N2 hN2=>?_);have sb:=zin z0 (by rw [ezs];exact A8)
   have hw:z0.toNat<Ae.length:=by lia
   have hz:=A7 hw;obtain ⟨r,h3,h4⟩:=NL.get hz;have en:=qBJ hz;generalize Ae[z0.toNat]=ys at h4 hz en;refine ⟨_,rfl,_,rfl,tt,_,_,_,rfl,rfl,SqT.of (s01 _ _ ga),qD6 (M6 0) h0z,a,_,_,_,rfl,rfl,SqT.of (s01 _ _ hA),qD6 sb.1 (by rw [C4,h3];rfl),(by show 0<=B59;decide),fun e2 he2=>?_⟩
   have s2:=qA2 he2 (.tup []);have s02:=s01.trans s2;refine ⟨r,e2,_,rfl,rfl,SqT.of (s02 _ _ h4),SqT.of qA1,_,rfl,?_⟩;generalize Ag Hd e2 (.tup [])=H2 at s2 s02 ⊢;cases ys with
   | cons y0 yr=>
    refine iteT ?_;refine iteT ?_;refine no ?_ H2 s02;unfold qFJ;rw [show zs.headD 0=z0 by rw [ezs];rfl,en]
    simp
   | nil=>
    refine iteF ?_;refine ⟨_,rfl,tt,rfl,⟨_,SqT.of (s02 _ _ ga)⟩,fun pa hpa=>?_⟩;refine qGK (p:=pa) (a:=tt) (xs:=zs.map V.int) (fun i σ He=>∃ (v:Option V),σ=[v,some (.ref t)]/\Same H2 He/\He pa=some (.lst (((zs.take i).map fun z=>decide (z ∈ path)).map V.bl))) ?_ ?_ ?_ ?_
    ·exact ⟨none,rfl,qA2 hpa _,qA1⟩
    ·rintro i σ He hi ⟨v,rfl,se,_⟩;exact SqT.of ((s02.trans se) _ _ ga)
    ·refine fun i x' σ He hx hI_11=>opq fun G_11 hG_11=>?_;obtain ⟨v,rfl,se,gpa⟩:=hI_11;obtain ⟨y1,ey,rfl⟩:=qB4 hx;refine hG_11 ?_;have hi:=(A3.mp ey).1;refine ⟨_,rfl,_,rfl,t,_,rfl,.inr (SqT.of ((s02.trans se) _ _ hT)),rfl,qBK path,_,gpa,qAR (by rw [A0,A0,E1];lia),_,rfl,qAB se hpa,?_⟩
     rw [qA1,C9,ey,D0,B2,B2];show some (HO.lst (_++[V.bl (inV (.int y1) (path.map V.int))]))=_;rw [qCY]
     rfl
    refine fun σ He hI_12=>opq fun G_12 hG_12=>?_;obtain ⟨v,rfl,se,gpa⟩:=hI_12;refine hG_12 ?_;rw [A0,F6] at gpa;refine ⟨pa,_,rfl,SqL.of gpa,_,rfl,?_⟩;have s03:=s02.trans se;have eany:((zs.map fun z=>decide (z ∈ path)).any id)=!(zs.all fun x=>decide (x ∉ path)):=by
     rw [List.any_map,O7,Bool.not_eq_true',O2,Q1,ne_eq,E7]
     constructor
     ·refine fun hI_13 h3=>opq fun G_13 hG_13=>?_;obtain ⟨z,h1,h2⟩:=hI_13;refine hG_13 ?_;exact of_decide_eq_true (h3 z h1) (of_decide_eq_true h2)
     ·intro h;refine J9 fun n=>h fun z hz=>decide_eq_true fun y=>n ⟨z,hz,decide_eq_true y⟩
    rw [eany];cases call:(zs.all fun x=>decide (x ∉ path)) with
    | false=>
     refine iteT ?_;refine iteT ?_;exact no (by rw [call,U9]) He s03
    | true=>
     rw [call,X5] at no;refine iteF ?_;refine ⟨_,rfl,_,rfl,tt,_,_,_,rfl,rfl,SqT.of (s03 _ _ ga),qOI el1,?_⟩;have PI3:qDA He a t Ae path:=⟨hN.same s03,wf,n400,s03 _ _ hT,pne,lp,pin⟩;refine ⟨_,rfl,_,rfl,a,t,Ae,path,rfl,PI3,n60,p60,fun lh hz2 H4 s4 glh _ hmem=>?_⟩;refine ⟨lh,_,rfl,.inl (SqL.of glh),rfl,qBK hz2,_,rfl,?_⟩;rw [qCY];have s04:=s03.trans s4;by_cases ce:zl ∈ hz2
     ·have ie:=(hmem zl).mp ce;rw [ie,X5] at no;rw [decide_eq_true ce];refine iteF ?_;refine hN2 _ _ ?_;have lz1:1<=zs.length:=T4.mpr zne;refine ⟨_,rfl,_,rfl,_,rfl,tt,_,rfl,SqT.of (s04 _ _ ga),?_,fun t2 ht2=>?_⟩
      ·rw [A0,show (1:Int)=((1:Nat):Int) from rfl,HT.sIx_nat]
       lia
      rw [qE8,show (1:Int)=((1:Nat):Int) from rfl,qEU _ _ lz1];have s5:=qA2 ht2 (.tup ((zs.drop 1).map V.int));have g5:(Ag H4 t2 (.tup ((zs.drop 1).map V.int))) t2=some (.tup ((zs.drop 1).map V.int)):=qA1;have s05:=s04.trans s5;generalize Ag H4 t2 (.tup ((zs.drop 1).map V.int))=H5 at s5 g5 s05 ⊢;refine ⟨true,tt,t2,rfl,⟨_,SqT.of (s05 _ _ ga)⟩,⟨_,SqT.of g5⟩,fun pz hpz=>?_⟩;refine qYM (p:=pz) (b:=true) (l:=tt) (m:=t2) (xs:=zs.map V.int) (ys:=(zs.drop 1).map V.int) (by rw [A0,A0,G8];lia) (fun j σ Hy=>∃ (v1 v2:Option V) (bs:List Bool),σ=[v1,v2,some (.ref a)]/\Same H5 Hy/\Hy pz=some (.lst (bs.map V.bl))/\bs.length=j/\(bs.all id=true ↔ ∀ (i:Nat) x y,i<j->zs[i]?=some x->zs[i+1]?=some y->x ∈ nd Ae y)) ?_ (fun j σ Hy _ h=>?_) ?_ ?_
      ·exact ⟨none,none,[],rfl,qA2 hpz _,qA1,rfl,⟨fun _ i _ _ h=>absurd h (u7 _),fun _=>rfl⟩⟩
      ·obtain ⟨_,_,_,_,sy,_⟩:=h;exact ⟨SqT.of ((s05.trans sy) _ _ ga),SqT.of (sy _ _ g5)⟩
      ·refine fun j x y σ Hy T hx hy hI_14 hT0=>opq fun G_14 hG_14=>?_;obtain ⟨v1,v2,bs,rfl,sy,gpz,lb,ab⟩:=hI_14;obtain ⟨f1,ef,rfl⟩:=qB4 hx;obtain ⟨s1',es1,rfl⟩:=qB4 hy;refine hG_14 ?_;rw [x9,d3] at es1;have hj:=(A3.mp es1).1;have sT:=qA2 hT0 (.tup [.int f1,.int s1']);have gT:SqT K (Ag Hy T (.tup [.int f1,.int s1'])) T [.int f1,.int s1']:=SqT.of qA1;have gpz2:=sT _ _ gpz;have sy2:=sy.trans sT;generalize Ag Hy T (.tup [.int f1,.int s1'])=H6 at sT gT gpz2 sy2 ⊢;refine ⟨T,_,rfl,gT,rfl,_,_,rfl,_,_,rfl,rfl,?_⟩;have sb1:=zin s1' (B6 es1);have hw1:s1'.toNat<Ae.length:=by lia
       have hz1:=A7 hw1;obtain ⟨r1,h31,h41⟩:=NL.get hz1;have en1:=qBJ hz1;generalize Ae[s1'.toNat]=ys1 at h41 hz1 en1;have s06:=s05.trans sy2;refine ⟨_,rfl,_,rfl,_,rfl,a,_,_,_,rfl,rfl,SqT.of (s06 _ _ hA),qD6 sb1.1 (by rw [C4,h31];rfl),r1,_,rfl,.inr (SqT.of (s06 _ _ h41)),rfl,qBK ys1,_,gpz2,qAR (by rw [A0];lia),?_⟩
       refine ⟨_,_,bs++[decide (f1 ∈ ys1)],rfl,qAB sy2 hpz,?_,by rw [A5,lb];rfl,?_⟩
       ·rw [qA1,B2];show some (HO.lst (_++[V.bl (inV (.int f1) (ys1.map V.int))]))=_;rw [qCY]
        rfl
       ·rw [List.all_append,C0,ab]
        constructor
        ·refine fun hI_15 i x y hi e1 e2=>opq fun G_15 hG_15=>?_;obtain ⟨h1,h2⟩:=hI_15;refine hG_15 ?_;by_cases e:i=j
         ·subst e;rw [ef] at e1;rw [es1] at e2;cases e1;cases e2;rw [en1];simpa using h2
         ·exact h1 i x y (by lia) e1 e2
        ·intro h;refine ⟨fun i x y hi e1 e2=>h i x y (by lia) e1 e2,?_⟩
         have:=h j f1 s1' (by lia) ef es1
         rw [en1] at this;simpa using this
      ·refine fun σ Hy hI_16=>opq fun G_16 hG_16=>?_;obtain ⟨v1,v2,bs,rfl,sy,gpz,lb,ab⟩:=hI_16;refine hG_16 ?_;rw [A0,G8] at ab;refine ⟨pz,bs,rfl,SqL.of gpz,?_⟩;refine no ?_ Hy (s05.trans sy);unfold qFJ;rw [show zs.headD 0=z0 by rw [ezs];rfl,en,List.isEmpty_nil,X5,O7,ab,chain_iff]
       exact ⟨fun h i x y _ e1 e2=>h i x y e1 e2,fun h i x y e1 e2=>h i x y (by have:=(A3.mp e2).1;lia) e1 e2⟩
     ·rw [decide_eq_false ce];refine iteT ?_;have ie:qBU Ae path zl=false:=Q1.mpr fun z=>ce ((hmem zl).mpr z);exact no (by rw [ie,U9]) H4 s04
end
section
variable {P:B60} {w:World} {K:PySem.W.Frag} {mg:Str->Option Value} {base:Heap} {f:Addr} {fd:B65} {qFD:Addr} {qJC:B65}
theorem sc_Lare_sides:FnScope ["_law_net_here","_law_path","_law_thing","_law_works","_law_side"] ["_law_net_here","_law_path","_law_thing"] (qAI qD2):=⟨rfl,rfl,rfl,by decide +kernel,rfl,by decide +kernel,by decide +kernel⟩
theorem ok_Lare_sides (F:Fun K "_law_are_sides" "_law_are_sides" qD2 f fd) (qFH:Clb P w K mg base 2 qFD qJC "_law_is_side" ["_law_net_here","_law_path","_law_thing"] qP0) (qAA:mg "isinstance" = none) (qB5:mg "list" = none) (qB6:mg "len" = none) (qFU:mg "all" = none) (qFT:mg "set" = none):FnOk P w K mg base CX0 3 f fd ["_law_net_here","_law_path","_law_thing"] qJY:=by
 refine F.ok sc_Lare_sides (fun vs H Q E h=>?_) (fun cdv A outer s H vs Q E hr h=>?_)
 ·obtain ⟨a,t,Ae,path,x,n,dt,rfl,_⟩:=h
  rfl
 obtain ⟨a,t,Ae,path,x,n,dt,rfl,PI,n60,p60,l60,D,LD,q⟩:=h;have hu:=qH9 hr;have hu0:=hr.units0;refine ⟨_,(qA4 (qBP (PW.pt (qM8 (qFM (qDL (qA9 qAV rfl qAA qAK (qA0 (pv 2) (qA0 (qBZ (v:=.ty "list") rfl qB5 qDJ rfl) qA3))))) (qIU (qFM (qDL (qA9 (qIJ rfl) rfl qFU qQ7 (qA0 (qEQ rfl (lcs (own:=["_law_side"]) (fv:=[0,1]) (by kernel_rfl)) (qCS (pv 2)) (fun z1=>qAG (i:=0) (qCV (by kernel_rfl)) rfl (E5 rfl)) (fun z1=>qBI) (fun z1=>(qAZ qFH hr rfl (qA0 (pv 1) (qA0 (pv 2) (qA0 (pv 0) qA3)))))) qA3))))))) (qA8 (qAO qGD)) qAP) (qA4 (qAF (i:=3) sc_Lare_sides.nd rfl (E5 rfl) (qAY qA3)) (qA4 (qBX E4 rfl (qCS (pv 2)) (qAG (i:=4) sc_Lare_sides.nd rfl (E5 rfl)) (qA8 (qB9 (qDZ C7 R3 R4 qK6 (pv 3) (qA0 (pv 4) qA3))))) (qA8 (qAO (qDH qIY (qA9 qAE rfl qB6 qBQ (qA0 (pv 3) qA3)) (qA9 qU8 rfl qB6 qBQ (qA0 (qAD (qGY rfl) rfl qFT qQ5 (qA0 (pv 3) qA3)) qA3)) (qAW _))))))),?_⟩
 try dsimp only [Cx.nox,Cx.wish,cxOf]
 obtain ⟨hN,wf,n400,hT,pne,lp,pin⟩:=id PI;obtain ⟨ty,tyo,k1⟩:=qZP (K:=K) D;have PIs:∀ {H':Hp},Same H H'->qDA H' a t Ae path:=fun k=>⟨hN.same k,wf,n400,k _ _ hT,pne,lp,pin⟩;refine cut fun N0 hN0=>?_;refine ⟨_,rfl,x,"list",ty,_,rfl,tyo,k1,_,rfl,?_⟩;cases c:lstB dt with
 | false=>
  refine iteT ?_;refine iteT ?_;have e1:qP5 Ae path dt=false:=by cases dt <;> first | rfl | cases c
  rw [e1] at q;exact q H (.refl _)
 | true=>
  refine iteF ?_;obtain ⟨m,ll,xs,ds,rfl,rfl,rfl,ga,lx,el⟩:=qZ5 D c;have ld:=LD false ds rfl;have ld60:=l60 ds rfl;refine ⟨_,rfl,ll,rfl,⟨_,SqL.of ga⟩,fun px hpx=>?_⟩;refine qL5 (p:=px) (a:=ll) (xs:=xs) (fun i σ Hd=>∃ (v:Option V),σ=[v,some (.ref a),some (.ref t)]/\Same H Hd/\Hd px=some (.lst (((ds.take i).map (qFW Ae path)).map V.bl))) ?_ ?_ ?_ ?_
  ·exact ⟨none,rfl,qA2 hpx _,qA1⟩
  ·rintro i σ Hd hi ⟨v,rfl,sd,_⟩;exact SqL.of (sd _ _ ga)
  ·refine fun i x' σ Hd hx hI_2=>opq fun G_2 hG_2=>?_;obtain ⟨v,rfl,sd,gp⟩:=hI_2;refine hG_2 ?_;have hi:=(A3.mp hx).1;have ed:=A7 (show i<ds.length by lia)
   have hmem:=B6 ed;generalize ds[i]=d1 at ed hmem;have Di:=DatN.same sd (el i x' _ hx ed);refine ⟨_,rfl,_,rfl,_,rfl,a,t,Ae,path,x',m,d1,rfl,PIs sd,n60,p60,Di,ld.2 d1 hmem,fun H2 s2=>?_⟩;have gp2:=s2 _ _ gp;refine ⟨_,gp2,qAR (by rw [A0,A0,E1];lia),_,rfl,qAB (sd.trans s2) hpx,?_⟩
   rw [qA1,C9,ed,D0,B2,B2]
   rfl
  refine fun σ Hd hI_3=>opq fun G_3 hG_3=>?_;obtain ⟨v,rfl,sd,gp⟩:=hI_3;refine hG_3 ?_;rw [lx,F6] at gp;refine ⟨px,_,rfl,SqL.of gp,_,rfl,?_⟩;have ea:((ds.map (qFW Ae path)).all id)=ds.all (qFW Ae path):=by rw [B05];rfl
  rw [ea];have eq0:qP5 Ae path (.list ds)=(ds.all (qFW Ae path) && decide ((ds.flatMap qD5).Nodup)):=rfl;rw [eq0] at q;cases ca:ds.all (qFW Ae path) with
  | false=>
   refine iteT ?_;rw [ca,X7] at q;exact q Hd sd
  | true=>
   rw [ca,d9] at q;refine iteF ?_;refine hN0 _ _ (cut fun N1 hN1=>?_);refine ⟨(by show 0<=B59;decide),fun lw hlw=>?_⟩
   have s2:=qA2 hlw (.lst []);have g2:(Ag Hd lw (.lst [])) lw=some (.lst (([]:List Int).map V.int)):=qA1;have flw:H lw=none:=sd.free hlw;have sd2:=sd.trans s2;generalize Ag Hd lw (.lst [])=H2 at s2 g2 sd2 ⊢;refine hN1 _ _ (cut fun N2 hN2=>?_);refine ⟨_,rfl,ll,rfl,⟨_,SqL.of (sd2 _ _ ga)⟩,qE3 (a:=ll) (xs:=xs) (fun i σ Hc=>∃ (v4:Option V),σ=[some (.ref a),some (.ref t),some (.ref ll),some (.ref lw),v4]/\Same H Hc/\Hc lw=some (.lst (((ds.take i).flatMap qD5).map V.int))/\((ds.take i).flatMap qD5).length<=60 * i)
    ⟨none,rfl,sd2,g2,A9 _⟩ (fun i σ Hc _ hP=>by obtain ⟨_,_,sc,_⟩:=hP;exact SqL.of (sc _ _ ga)) ?_ ?_⟩
   ·refine fun i x' σ Hc hx hI_4=>opq fun G_4 hG_4=>?_;obtain ⟨v4,rfl,sc,gl,lf⟩:=hI_4;refine hG_4 ?_;have hi:=(A3.mp hx).1;have ed:=A7 (show i<ds.length by lia)
    have hmem:=B6 ed;generalize ds[i]=d1 at ed hmem;have Di:=DatN.same sc (el i x' _ hx ed);obtain ⟨tz,zs,rfl,ei,gz,lz⟩:=qUX wf Di (E7.mp ca d1 hmem);have ef:(ds.take (i+1)).flatMap qD5=(ds.take i).flatMap qD5++zs:=by rw [C9,ed,D0,List.flatMap_append,B02,ei,List.flatMap_nil,J8]
    refine ⟨_,rfl,.inl ⟨rfl,_,SqL.of gl⟩,_,rfl,lw,tz,_,_,rfl,rfl,gl,SqT.of gz,by rw [B66,A0,A0];lia,?_⟩
    refine ⟨_,rfl,qAB sc flw,by rw [qA1,ef,B2],by rw [ef,A5];lia⟩
   ·refine fun σ Hc hI_5=>opq fun G_5 hG_5=>?_;obtain ⟨v4,rfl,sc,gl,lf⟩:=hI_5;refine hG_5 ?_;rw [lx] at gl lf;rw [F6] at gl lf;refine hN2 _ _ ?_;generalize ds.flatMap qD5=zs at gl lf q;refine ⟨_,rfl,lw,_,rfl,.inl (SqL.of gl),?_⟩;rw [A0];refine ⟨_,rfl,lw,zs,rfl,SqL.of gl,by lia,fun e he=>?_⟩
    refine ⟨e,dedI zs,rfl,qA1,rfl,?_⟩;have ev:decide (V.int ((zs.length:Nat):Int)=V.int (((dedI zs).length:Nat):Int))=decide zs.Nodup:=by
     refine decide_eq_decide.mpr ⟨fun z=>?_,fun z=>?_⟩
     ·have:=V.int.inj z;exact ded_nodup.mp (by lia)
     ·rw [ded_nodup.mpr z]
    rw [ev];exact q _ (sc.trans (qA2 he _))
end
section
variable {P:B60} {w:World} {K:PySem.W.Frag} {mg:Str->Option Value} {base:Heap} {f:Addr} {fd:B65} {qHS:Addr} {qHB:B65}
theorem sc_Lis_full:FnScope ["_law_net_here","_law_path","_law_sides","_law_used","_law_side","_law_pile","_law_met","_law_work"] ["_law_net_here","_law_path","_law_sides"] (qAI qF5):=⟨rfl,rfl,rfl,by decide +kernel,rfl,by decide +kernel,by decide +kernel⟩
theorem ok_Lis_full (F:Fun K "_law_is_full" "_law_is_full" qF5 f fd) (qEH:Clb P w K mg base 1 qHS qHB "_law_hit" ["_law_net_here","_law_path"] qP2):FnOk P w K mg base CX0 2 f fd ["_law_net_here","_law_path","_law_sides"] qP1:=by
 refine F.ok sc_Lis_full (fun vs H Q E h=>?_) (fun cdv A outer s H vs Q E hr h=>?_)
 ·obtain ⟨a,t,l,Ae,path,rs,ts,rfl,_⟩:=h
  rfl
 obtain ⟨a,t,l,Ae,path,rs,ts,rfl,PI,n60,p60,gl,TT,SO,q⟩:=h;have hu:=qH9 hr;have hu0:=hr.units0;refine ⟨_,(qA4 (qAF (i:=3) sc_Lis_full.nd rfl (A64 rfl) (qAY qA3)) (qA4 (qBX E4 rfl (qCS (pv 2)) (qAG (i:=4) sc_Lis_full.nd rfl (E5 rfl)) (qA8 (qB9 (qDZ C7 R3 R4 qK6 (pv 3) (qA0 (pv 4) qA3))))) (qA4 (qY3 (i:=5) sc_Lis_full.nd rfl rfl rfl (lcs (own:=["_law_work"]) (fv:=[3]) (by kernel_rfl)) (qCS (qAZ qEH hr rfl (qA0 (pv 0) (qA0 (pv 1) qA3)))) (fun z1=>qAG (i:=0) (qCV (by kernel_rfl)) rfl (E5 rfl)) (fun z1=>(qNS (qAL (qGF (K:=K) rfl) (pv 0) (pv 1) (by with_unfolding_all rfl)))) (fun z1=>(pv 0)) (by kernel_rfl)) (qA4 (qAF (i:=6) sc_Lis_full.nd rfl (A64 rfl) qPG) (qA4 (qDY E4 (qAL (qMC hu0) (pv 5) (qAY qA3) (qAW _)) (qA4 (qAF (i:=7) sc_Lis_full.nd rfl (E5 rfl) (qMA C7 Z1 Z2 qSR (pv 5))) (qA4 (qBP (qAL (qH8 hu0) (qC7 qDO (pv 0) (pv 7) (fun _ _=>rfl)) (qCT qA3) (qAW _)) (qA8 (qAO qGD)) qAP) (qA4 (qFX hu (pv 6) (pv 7) qGD rfl) (qA8 (qB9 (qDZ C7 R3 R4 qJ0 (pv 5) (qA0 (qEQ rfl (lcs (own:=["_law_need"]) (fv:=[3,1,6]) (by kernel_rfl)) (qD3 (qC7 qDO (pv 0) (pv 7) (fun _ _=>rfl))) (fun z2=>qAG (i:=0) (qCV (by kernel_rfl)) rfl (E5 rfl)) (fun z2=>(qNS (PW.pt (qPB (qAL (qGF (K:=K) rfl) (pv 0) (pv 1) (by with_unfolding_all rfl)) (qPB (qAL (qGF (K:=K) rfl) (pv 0) (pv 2) (by with_unfolding_all rfl)) (qNR (qK1 (qGE hu (pv 0) (pv 3))))))))) (fun z2=>(pv 0))) qA3)))))))) (qA8 (qAO qGD))))))),?_⟩
 try dsimp only [Cx.nox,Cx.wish,cxOf]
 obtain ⟨hN,wf,n400,hT,pne,lp,pin⟩:=id PI;obtain ⟨ra,hA,NL⟩:=id hN;have lra:=C6 NL;obtain ⟨_,tin,tl⟩:=SO.are wf;have lts:=C6 TT;refine cut fun N0 hN0=>?_;refine ⟨(by show 0<=B59;decide),fun lu hlu=>?_⟩
 have s1:=qA2 hlu (.lst []);have g1:(Ag H lu (.lst [])) lu=some (.lst (((ts.take 0).flatten).map V.int)):=qA1;generalize Ag H lu (.lst [])=H1 at s1 g1 ⊢;refine hN0 _ _ (cut fun N1 hN1=>?_);refine ⟨_,rfl,l,rfl,⟨_,SqL.of (s1 _ _ gl)⟩,qE3 (a:=l) (xs:=rs.map V.ref) (fun i σ Hc=>∃ v4:Option V,σ=[some (.ref a),some (.ref t),some (.ref l),some (.ref lu),v4,none,none,none]/\Same H Hc/\Hc lu=some (.lst (((ts.take i).flatten).map V.int))/\((ts.take i).flatten).length<=60 * i)
  ⟨none,rfl,s1,g1,F8 _⟩ (fun i σ Hc _ hP=>by obtain ⟨_,_,sc,_⟩:=hP;exact SqL.of (sc _ _ gl)) ?_ ?_⟩
 ·refine fun i x σ Hc hx hI_1=>opq fun G_1 hG_1=>?_;obtain ⟨v4,rfl,sc,gu,lf⟩:=hI_1;obtain ⟨r,er,rfl⟩:=qES hx;obtain ⟨s0,es,gs⟩:=qBA TT er;refine hG_1 ?_;have hi:=(A3.mp es).1;have ls0:=(tin s0 (B6 es)).2.1;refine ⟨_,rfl,.inl ⟨rfl,_,SqL.of gu⟩,_,rfl,lu,r,_,_,rfl,rfl,gu,SqT.of (sc _ _ gs),by rw [B66,A0,A0];lia,?_⟩
  rw [<- B2];have e:(ts.take i).flatten++s0=(ts.take (i+1)).flatten:=by rw [C9,es,D0,A75];simp
  rw [e];exact ⟨_,rfl,qAB sc hlu,qA1,by rw [<- e,A5];lia⟩
 refine fun σ Hc hI_2=>opq fun G_2 hG_2=>?_;obtain ⟨v4,rfl,sc,gu,lf⟩:=hI_2;refine hG_2 ?_;rw [A0,lts,F6] at gu lf;obtain ⟨U,eU⟩:∃ U,U=ts.flatten:=⟨_,rfl⟩;rw [<- eU] at gu lf;refine hN1 _ _ (cut fun N2 hN2=>?_);refine ⟨_,rfl,_,rfl,a,t,Ae,path,rfl,⟨hN.same sc,wf,n400,sc _ _ hT,pne,lp,pin⟩,n60,p60,fun lh zs H2 s2 gh l60 hm=>?_⟩;have gu2:=s2 _ _ gu;refine ⟨lh,rfl,⟨_,SqL.of gh⟩,fun px hpx=>?_⟩;have npu:px ≠ lu:=(qA5 gu2 hpx).symm;refine qL5 (p:=px) (a:=lh) (xs:=zs.map V.int) (fun i σ Hd=>∃ (v:Option V),σ=[v,some (.ref lu)]/\Same H2 Hd/\Hd px=some (.lst (((zs.take i).filter fun z=>decide (z ∉ U)).map V.int))) ?_ ?_ ?_ ?_
 ·exact ⟨none,rfl,qA2 hpx _,qA1⟩
 ·rintro i σ Hd hi ⟨v,rfl,sd,_⟩;exact SqL.of (sd _ _ gh)
 ·refine fun i x' σ Hd hx hI_4=>opq fun G_4 hG_4=>?_;obtain ⟨v,rfl,sd,gp⟩:=hI_4;obtain ⟨z0,ez,rfl⟩:=qB4 hx;refine hG_4 ?_;have lfl:=Q0 (fun z=>decide (z ∉ U)) (zs.take i);rw [E1] at lfl;refine ⟨_,rfl,_,rfl,lu,_,rfl,.inl (SqL.of (sd _ _ gu2)),rfl,qBK U,_,rfl,?_⟩;rw [qCY,C9,ez,D0,U6];by_cases cz:z0 ∈ U
  ·rw [decide_eq_true cz];refine iteF ?_;exact ⟨_,rfl,sd,by rw [gp];simp [cz]⟩
  ·rw [decide_eq_false cz];refine iteT ?_;exact ⟨_,rfl,_,gp,qAR (by rw [A0];lia),_,rfl,qAB sd hpx,by rw [qA1];simp [cz]⟩
 refine fun σ H3 hI_5=>opq fun G_5 hG_5=>?_;obtain ⟨v,rfl,s3,gp⟩:=hI_5;refine hG_5 ?_;rw [A0,F6] at gp;have lfl:=Q0 (fun z=>decide (z ∉ U)) zs;have pst:PlF Ae path U (zs.filter fun z=>decide (z ∉ U)) []:=PlF.start fun x hx=>by
  obtain ⟨h1,h2⟩:=G3.mp hx;have he:=(hm x).mp h1;obtain ⟨h3,w,h4,h5⟩:=end_iff.mp he;have wb:=pin w (L3 h4);have xb:=qC9 wf wb.1 h5;exact ⟨free_in.mpr ⟨⟨xb.1,by lia⟩,h3⟩,he,of_decide_eq_true h2⟩
 generalize zs.filter (fun z=>decide (z ∉ U))=pile0 at gp lfl pst;have gu3:=s3 _ _ gu2;have fpx:H px=none:=(sc.trans s2).free hpx;have S3:=sc.trans (s2.trans s3);clear gh hm gu2 gu;refine hN2 _ _ (cut fun N3 hN3=>?_);refine fun dm hdm=>?_;have s4:=qA2 hdm (.dK []);have gd4:(Ag H3 dm (.dK [])) dm=some (.dK (metK [])):=qA1;have fdm:H dm=none:=S3.free hdm;have ndp:dm ≠ px:=(qA5 gp hdm).symm;have ndu:dm ≠ lu:=(qA5 gu3 hdm).symm;have S4:=S3.trans s4;have gp4:=s4 _ _ gp;have gu4:=s4 _ _ gu3;generalize Ag H3 dm (.dK [])=H4 at gd4 S4 gp4 gu4 ⊢;refine hN3 _ _ (cut fun N4 hN4=>?_);obtain ⟨I,eI⟩:∃ I:Nat->St->Hp->Prop,I=fun m σ Hc=>∃ (pile met:List Int) (v7:Option V),σ=[some (.ref a),some (.ref t),some (.ref l),some (.ref lu),v4,some (.ref px),some (.ref dm),v7]/\m=(Ae.length - met.length) * 61+pile.length/\Same H Hc/\Hc px=some (.lst (pile.map V.int))/\Hc dm=some (.dK (metK met))/\Hc lu=some (.lst (U.map V.int))/\PlF Ae path U pile met/\pile.length<=60+60 * met.length:=⟨_,rfl⟩;refine ⟨I,⟨_,by rw [eI];exact ⟨pile0,[],none,rfl,rfl,S4,gp4,gd4,gu4,pst,by show _<=60+60 * 0;lia⟩⟩,?_⟩
 intro m σ Hb hI;rw [eI] at hI;obtain ⟨pile,met,v7,rfl,rfl,sb,gpb,gdb,gub,PL,pl⟩:=hI;refine ⟨_,rfl,(by show 0<=B59;decide),fun en hen=>?_⟩
 have t0:=qA2 hen (.lst []);have gen:(Ag Hb en (.lst [])) en=some (.lst []):=qA1;have sd:=sb.trans t0;have gpd:=t0 _ _ gpb;have gdd:=t0 _ _ gdb;have gud:=t0 _ _ gub;generalize Ag Hb en (.lst [])=Hd at gen sd gpd gdd gud ⊢;refine ⟨px,en,_,rfl,rfl,SqL.of gpd,SqL.of gen,_,rfl,?_⟩;have fm:=PL.few;rcases U3 pile with rfl | ⟨pre,x,rfl⟩
 ·refine iteF ?_;exact hN4 _ _ (q _ sd)
 rw [U4] at gpd PL pl ⊢;have tru:(!((pre++[x]).map V.int).isEmpty)=true:=by simp
 rw [tru];refine iteT ?_;refine ⟨fun σ' H'=>∃ m',m'<(Ae.length - met.length) * 61+(pre++[x]).length/\I m' σ' H',fun _ _ h=>h,?_⟩;refine cut fun M1 hM1=>?_;have lastx:((pre++[x]).map V.int)[((pre++[x]).map V.int).length - 1]?=some (.int x):=by
  rw [A0,C4,A5,B3,d8,C2 (A9 _),R0]
  rfl
 have rg:=PL.range (D5 pre A8);refine ⟨_,rfl,.inl ⟨rfl,_,SqL.of gpd⟩,px,_,_,rfl,rfl,gpd,lastx,?_⟩;have dl:((pre++[x]).map V.int).dropLast=pre.map V.int:=by rw [B2];exact A61
 rw [dl];have s5:=qAB (o:=.lst (pre.map V.int)) sd fpx;have gp5:(Ag Hd px (.lst (pre.map V.int))) px=some (.lst (pre.map V.int)):=qA1;have gd5:(Ag Hd px (.lst (pre.map V.int))) dm=some (.dK (metK met)):=by rw [qA7 ndp];exact gdd
 have gu5:(Ag Hd px (.lst (pre.map V.int))) lu=some (.lst (U.map V.int)):=by rw [qA7 npu.symm];exact gud
 generalize Ag Hd px (.lst (pre.map V.int))=H5 at s5 gp5 gd5 gu5 ⊢;refine hM1 _ _ (cut fun M2 hM2=>?_);have hw:x.toNat<Ae.length:=by lia
 have hz:=A7 hw;obtain ⟨r,h3,h4⟩:=NL.get hz;have enx:=qBJ hz;have ln:=(wf x.toNat _ hz).len;generalize Ae[x.toNat]=zs2 at h4 hz enx ln;obtain ⟨rr,tlx⟩:=PL.tl x (D5 pre A8);have ne2:zs2 ≠ []:=by rw [<- enx];rw [eU] at tlx;exact tlx.needs wf SO
 have get_r:atI (ra.map V.ref) x=some (.ref r):=qD6 rg.1 (by rw [C4,h3];rfl)
 refine ⟨_,rfl,_,rfl,a,_,_,_,rfl,rfl,SqT.of (s5 _ _ hA),get_r,(by show 0<=B59;decide),fun te hte=>?_⟩
 have t6:=qA2 hte (.tup []);have g6:(Ag H5 te (.tup [])) te=some (.tup []):=qA1;have s6:=s5.trans t6;have gp6:=t6 _ _ gp5;have gd6:=t6 _ _ gd5;have gu6:=t6 _ _ gu5;generalize Ag H5 te (.tup [])=H6 at g6 s6 gp6 gd6 gu6 ⊢;refine ⟨r,te,_,rfl,rfl,SqT.of (s6 _ _ h4),SqT.of g6,_,rfl,?_⟩;have fls:(zs2.map V.int).isEmpty=false:=by cases zs2 with | nil=>exact absurd rfl ne2 | cons _ _=>rfl
 rw [fls];refine iteF ?_;refine hM2 _ _ (cut fun M3 hM3=>?_);refine ⟨_,rfl,_,rfl,dm,_,rfl,DPut.k (k:=D9 x) gd6 (qAR (by unfold metK;rw [A0];lia)),?_⟩
 rw [qVG];obtain ⟨mt,em⟩:∃ mt,mt=if x ∈ met then met else met++[x]:=⟨_,rfl⟩
 rw [<- em];have s7:=qAB (o:=.dK (metK mt)) s6 fdm;have gd7:(Ag H6 dm (.dK (metK mt))) dm=some (.dK (metK mt)):=qA1;have gp7:(Ag H6 dm (.dK (metK mt))) px=some (.lst (pre.map V.int)):=by rw [qA7 ndp.symm];exact gp6
 have gu7:(Ag H6 dm (.dK (metK mt))) lu=some (.lst (U.map V.int)):=by rw [qA7 ndu.symm];exact gu6
 generalize Ag H6 dm (.dK (metK mt))=H7 at s7 gd7 gp7 gu7 ⊢;refine hM3 _ _ ?_;refine ⟨_,rfl,.inl ⟨rfl,_,SqL.of gp7⟩,?_⟩;refine ⟨_,rfl,_,rfl,a,_,_,_,rfl,rfl,SqT.of (s7 _ _ hA),get_r,r,rfl,⟨_,SqT.of (s7 _ _ h4)⟩,fun pn hpn=>?_⟩;refine qGK (p:=pn) (a:=r) (xs:=zs2.map V.int) (fun j σ He=>∃ (v:Option V),σ=[v,some (.ref lu),some (.ref t),some (.ref dm)]/\Same H7 He/\He pn=some (.lst (((zs2.take j).filter fun n=>decide (n ∉ U) && decide (n ∉ path) && decide (n ∉ mt)).map V.int))) ?_ ?_ ?_ ?_
 ·exact ⟨none,rfl,qA2 hpn _,qA1⟩
 ·rintro j σ He hj ⟨v,rfl,se,_⟩;exact SqT.of (se _ _ (s7 _ _ h4))
 ·refine fun j x' σ He hx hI_7=>opq fun G_7 hG_7=>?_;obtain ⟨v,rfl,se,gq⟩:=hI_7;obtain ⟨z0,ez,rfl⟩:=qB4 hx;refine hG_7 ?_;have hj:=(A3.mp ez).1;have lfl:=Q0 (fun n=>decide (n ∉ U) && decide (n ∉ path) && decide (n ∉ mt)) (zs2.take j);rw [E1] at lfl;refine ⟨_,rfl,_,rfl,lu,_,rfl,.inl (SqL.of (se _ _ gu7)),rfl,qBK U,_,rfl,?_⟩;rw [qCY,C9,ez,D0,U6];by_cases c1:z0 ∈ U
  ·rw [decide_eq_true c1];refine iteF ?_;refine iteF ?_;exact ⟨_,rfl,se,by rw [gq];simp [c1]⟩
  rw [decide_eq_false c1];refine iteT ?_;refine ⟨_,rfl,_,rfl,t,_,rfl,.inr (SqT.of (se _ _ (s7 _ _ hT))),rfl,qBK path,_,rfl,?_⟩;rw [qCY];by_cases c2:z0 ∈ path
  ·rw [decide_eq_true c2];refine iteF ?_;refine iteF ?_;exact ⟨_,rfl,se,by rw [gq];simp [c1,c2]⟩
  rw [decide_eq_false c2];refine iteT ?_;refine ⟨_,rfl,_,rfl,dm,_,rfl,DGet.k (k:=D9 z0) (se _ _ gd7),_,rfl,?_⟩;rw [qST];by_cases c3:z0 ∈ mt
  ·rw [decide_eq_true c3];refine iteF ?_;exact ⟨_,rfl,se,by rw [gq];simp [c1,c2,c3]⟩
  rw [decide_eq_false c3];refine iteT ?_;exact ⟨_,rfl,_,gq,qAR (by rw [A0];lia),_,rfl,qAB se hpn,by rw [qA1];simp [c1,c2,c3]⟩
 refine fun σ H8 hI_8=>opq fun G_8 hG_8=>?_;obtain ⟨v,rfl,s8,gq⟩:=hI_8;refine hG_8 ?_;rw [A0,F6] at gq;have gq8:H8 pn=some (.lst ((newF Ae path U mt x).map V.int)):=by unfold newF;rw [enx];exact gq
 have nl:(newF Ae path U mt x).length<=zs2.length:=by rw [<- enx];exact qVD
 rw [A5,B3] at pl;refine ⟨px,pn,_,_,rfl,rfl,s8 _ _ gp7,gq8,by rw [B66,A0,A0];lia,?_⟩
 rw [<- B2];have fin:PlF Ae path U (pre++newF Ae path U mt x) mt/\(Ae.length - mt.length) * 61+(pre++newF Ae path U mt x).length<(Ae.length - met.length) * 61+(pre++[x]).length/\(pre++newF Ae path U mt x).length<=60+60 * mt.length:=by
  rw [A5,A5,B3];by_cases cx:x ∈ met
  ·rw [if_pos cx] at em;obtain ⟨e0,PL2⟩:=PL.again cx;rw [em,e0,J8,M7];exact ⟨PL2,by lia,by lia⟩
  ·rw [if_neg cx] at em;have PL2:=PL.next wf cx;rw [<- em] at PL2;have f2:=PL2.few;have lm:mt.length=met.length+1:=by rw [em,A5];rfl
   refine ⟨PL2,?_,by lia⟩
   lia
 refine ⟨_,fin.2.1,?_⟩;rw [eI];exact ⟨_,mt,_,rfl,rfl,qAB (s7.trans s8) fpx,qA1,by rw [qA7 ndp];exact s8 _ _ gd7,by rw [qA7 npu.symm];exact s8 _ _ gu7,fin.1,fin.2.2⟩
end
section
variable {P:B60} {w:World} {K:PySem.W.Frag} {mg:Str->Option Value} {base:Heap} {f:Addr} {fd:B65} {qHS qFC:Addr} {qHB qGT:B65}
theorem qYD {ns:List Nat} {k:Nat} {y:Int} (h:(ns.map fun n:Nat=>(n:Int))[k]?=some y):∃ n:Nat,ns[k]?=some n/\y=(n:Int):=by
 rw [C4] at h;cases e:ns[k]? with
 | none=>rw [e] at h;cases h
 | some n=>rw [e] at h;cases h;exact ⟨n,rfl,rfl⟩
theorem sc_Lmost_sides:FnScope ["_law_net_here","_law_path","_law_most","_law_work","_law_side","_law_bits","_law_used"] ["_law_net_here","_law_path"] (qAI qCI):=⟨rfl,rfl,rfl,by decide +kernel,rfl,by decide +kernel,by decide +kernel⟩
theorem ok_Lmost_sides (F:Fun K "_law_most_sides" "_law_most_sides" qCI f fd) (qEH:Clb P w K mg base 1 qHS qHB "_law_hit" ["_law_net_here","_law_path"] qP2) (qCN:Clb P w K mg base 1 qFC qGT "_law_paths" ["_law_net_here","_law_work"] qKQ) (qKK:mg "sum" = none) (qKM:mg "any" = none) (qB5:mg "list" = none) (qH1:mg "max" = none):FnOk P w K mg base CX0 2 f fd ["_law_net_here","_law_path"] qRX:=by
 refine F.ok sc_Lmost_sides (fun vs H Q E h=>?_) (fun cdv A outer s H vs Q E hr h=>?_)
 ·obtain ⟨a,t,Ae,path,ts,rfl,_⟩:=h
  rfl
 obtain ⟨a,t,Ae,path,ts,rfl,PI,n9,p60,SO,q⟩:=h;have hu:=qH9 hr;have hu0:=hr.units0;refine ⟨_,(qA4 (qAF (i:=2) sc_Lmost_sides.nd rfl (E5 rfl) (qKY (qF6 qA6 qA6 qKX) rfl rfl (by simp) (by decide))) (qA4 (qBX E4 rfl (qCS (qAZ qEH hr rfl (qA0 (pv 0) (qA0 (pv 1) qA3)))) (qAG (i:=3) sc_Lmost_sides.nd rfl (E5 rfl)) (qA8 (qBX E4 rfl (qCS (qAZ qCN hr rfl (qA0 (pv 0) (qA0 (pv 3) qA3)))) (qAG (i:=4) sc_Lmost_sides.nd rfl (E5 rfl)) (qA4 (qAF (i:=5) sc_Lmost_sides.nd rfl (E5 rfl) (qA9 (qQ3 rfl) rfl qKK qXI (qA0 (qEQ rfl (lcs (own:=["_law_one"]) (fv:=[]) (by kernel_rfl)) (qD3 (pv 4)) (fun z1=>qAG (i:=0) (qCV (by kernel_rfl)) rfl (E5 rfl)) (fun z1=>qBI) (fun z1=>(qAH qPM qA6 (pv 0)))) qA3))) (qA8 (qBP (qFM (qDL (qA9 (qQ4 rfl) rfl qKM qXK (qA0 (qEQ rfl (lcs (own:=["_law_one"]) (fv:=[1]) (by kernel_rfl)) (qD3 (pv 4)) (fun z2=>qAG (i:=0) (qCV (by kernel_rfl)) rfl (E5 rfl)) (fun z2=>qBI) (fun z2=>(qDH (qSJ (K:=K) rfl) (pv 0) (pv 1) (by with_unfolding_all rfl)))) qA3)))) (qA8 (qBX E4 rfl (qCS (qAD (qR4 rfl) rfl qB5 qDJ (qA0 (pv 2) qA3))) (qAG (i:=6) sc_Lmost_sides.nd rfl (E5 rfl)) (qA8 (qBP (qAL qIY (qAH qaO (pv 6) (pv 5)) qA6 (qAW _)) (qA8 (qFX hu (pv 2) (qAH qaL (pv 6) (pv 5)) (qA9 (qJK rfl) rfl qH1 qQ6 (qA0 (qV7 hu (pv 2) (qAH qaL (pv 6) (pv 5)) qA6 ⟨rfl,rfl,rfl,rfl⟩) (qA0 (qAH qC0 (qBY hu (pv 2) (pv 6) (fun _ _=>rfl)) qA6) qA3))) rfl)) qAP)))) qAP)))))) (qA8 (qAO (qA9 (qU7 rfl) rfl qH1 qQ6 (qA0 (qAD (qR3 rfl) rfl qB5 qDJ (qA0 (qMA A23 PySem.F.slot_dict_values PySem.F.type_dict_values qSP (pv 2)) qA3)) qA3)))))),?_⟩
 try dsimp only [Cx.nox,Cx.wish,cxOf]
 obtain ⟨hN,wf,n400,hT,pne,lp,pin⟩:=id PI;refine cut fun N0 hN0=>?_;refine fun dm hdm=>?_;refine ⟨qA1,[(D9 0,.int 0)],rfl,(by show 1<=15;decide),?_⟩
 have em:qDN [] [((D9 0:Key),V.int 0)]=[((D9 0:Key),V.int 0)]:=by
  unfold qDN;simp [putK]
 rw [em,qH2];have s1:=qA2 hdm (.dK [((D9 0:Key),V.int 0)]);have g1:(Ag H dm (.dK [((D9 0:Key),V.int 0)])) dm=some (.dK [((D9 0:Key),V.int 0)]):=qA1;generalize Ag H dm (.dK [((D9 0:Key),V.int 0)])=H1 at s1 g1 ⊢;refine hN0 _ _ (cut fun N1 hN1=>?_);refine ⟨_,rfl,_,rfl,a,t,Ae,path,rfl,⟨hN.same s1,wf,n400,s1 _ _ hT,pne,lp,pin⟩,by lia,p60,fun lh zs H2 s2 gh l60 hm=>?_⟩
 have g2:=s2 _ _ g1;have nhd:lh ≠ dm:=qC2 gh g2 (by intro z;cases z)
 have S2:=s1.trans s2;have hz:∀ z ∈ zs,(0<=z/\z<(Ae.length:Int))/\qBU Ae path z=true:=fun z hz=>by
  have he:=(hm z).mp hz;obtain ⟨_,w,h4,h5⟩:=end_iff.mp he;have wb:=pin w (L3 h4);have xb:=qC9 wf wb.1 h5;exact ⟨⟨xb.1,by lia⟩,he⟩
 obtain ⟨D,eD⟩:∃ D:(List Int->Prop)->Hp->Prop,D=fun P Hc=>∃ (Af:List (Key × V)) (M:Nat->Option Nat) (ns:List Nat) (L:List (List Int)),Same H Hc/\Keep dm dm H2 Hc/\Hc dm=some (.dK Af)/\DkM Af M ns/\(∀ n ∈ ns,n<512)/\DpS L M/\(∀ u ∈ L,IsS Ae path u)/\∀ u,IsS Ae path u->P u->u ∈ L:=⟨_,rfl⟩;refine ⟨lh,rfl,⟨_,SqL.of gh⟩,qE3 (a:=lh) (xs:=zs.map V.int) (fun i σ Hc=>∃ v3 v4 v5 v6:Option V,σ=[some (.ref a),some (.ref t),some (.ref dm),v3,v4,v5,v6]/\D (fun u=>∃ z ∈ zs.take i,u.getLast?=some z) Hc)
  ⟨none,none,none,none,rfl,by rw [eD];exact ⟨_,_,_,[],S2,Keep.refl,g2,DkM.start,(fun n hn=>by rw [A6.mp hn];decide),DpS.start,(fun u hu=>nomatch hu),fun u _ ⟨z,h,_⟩=>nomatch h⟩⟩ (fun i σ Hc _ ⟨_,_,_,_,_,d⟩=>by rw [eD] at d;obtain ⟨_,_,_,_,_,k,_⟩:=d;exact SqL.of (k _ _ gh nhd nhd)) ?_ ?_⟩
 ·refine fun i x σ Hc hx hI_1=>opq fun G_1 hG_1=>?_;obtain ⟨v3,v4,v5,v6,rfl,d⟩:=hI_1;obtain ⟨z,ez,rfl⟩:=qB4 hx;obtain ⟨⟨z0,z1⟩,he⟩:=hz z (B6 ez);refine hG_1 ?_;have few:cn Ae z<=300:=by
   have a:=qcM wf _ z rfl z0;have b:(2:Int) ^ z.toNat<=(2:Int) ^ 8:=p2 (by lia)
   have e:(2:Int) ^ 8=256:=rfl
   lia
  rw [eD] at d;obtain ⟨Af,M,ns,L,sc,kc,gd,dk,n512,dp,lS,lA⟩:=d;refine ⟨_,rfl,_,rfl,a,Ae,z,rfl,hN.same sc,wf,by lia,z0,z1,few,fun lq tz H3 s3 flq TL SP _ _=>?_⟩
  obtain ⟨rp,gP,NP⟩:=TL;have gd3:=s3 _ _ gd;have nqd:lq ≠ dm:=qC2 gP gd3 (by intro z;cases z)
  refine ⟨lq,rfl,⟨_,SqL.of gP⟩,qE3 (a:=lq) (xs:=rp.map V.ref) (fun j σ Hd=>∃ v4 v5 v6:Option V,σ=[some (.ref a),some (.ref t),some (.ref dm),some (.int z),v4,v5,v6]/\Keep dm dm H3 Hd/\D (fun u=>(∃ z ∈ zs.take i,u.getLast?=some z)\/u ∈ tz.take j) Hd)
   ⟨v4,v5,v6,rfl,Keep.refl,by rw [eD];exact ⟨Af,M,ns,L,sc.trans s3,kc.trans (Keep.of_same s3),gd3,dk,n512,dp,lS,fun u hu h=>h.elim (lA u hu) fun h=>by simp at h⟩⟩ (fun j σ Hd _ hP=>by obtain ⟨_,_,_,_,k,_⟩:=hP;exact SqL.of (k _ _ gP nqd nqd)) ?_ ?_⟩
  ·refine fun j x σ Hd hx hI_2=>opq fun G_2 hG_2=>?_;obtain ⟨v4,v5,v6,rfl,kd,d⟩:=hI_2;obtain ⟨r,er,rfl⟩:=qES hx;obtain ⟨u,eu,gu⟩:=qBA NP er;refine hG_2 ?_;have hut:u ∈ tz:=B6 eu;obtain ⟨une,R⟩:=(SP.some wf z0 z1).2 u hut;have lu:=R.len;have nrd:r ≠ dm:=qC2 gu gd3 (by intro z;cases z)
   have gur:=kd _ _ gu nrd nrd;rw [eD] at d;obtain ⟨Af,M,ns,L,sd,kc2,gdd,dk,n512,dp,lS,lA⟩:=d;refine cut fun M1 hM1=>?_;refine ⟨_,rfl,r,rfl,⟨_,SqT.of gur⟩,fun px hpx=>?_⟩;refine qGK (p:=px) (a:=r) (xs:=u.map V.int) (fun k σ He=>∃ (v:Option V),σ=[v]/\Same Hd He/\He px=some (.lst (((u.take k).map fun x:Int=>(1:Int) * 2 ^ x.toNat).map V.int))) ?_ ?_ ?_ ?_
   ·exact ⟨none,rfl,qA2 hpx _,qA1⟩
   ·rintro k σ He hk ⟨v,rfl,se,_⟩;exact SqT.of (se _ _ gur)
   ·refine fun k x' σ He hx hI_4=>opq fun G_4 hG_4=>?_;obtain ⟨v,rfl,se,gq⟩:=hI_4;obtain ⟨y,ey,rfl⟩:=qB4 hx;refine hG_4 ?_;have yb:=R.in_ y (B6 ey);refine ⟨_,rfl,_,_,rfl,rfl,⟨yb.1,by lia,by decide⟩,_,gq,qAR (by rw [A0,A0,E1];lia),_,rfl,qAB se hpx,by rw [qA1,C9,ey,D0,B2,B2];rfl⟩
   refine fun σ H4 hI_5=>opq fun G_5 hG_5=>?_;obtain ⟨v,rfl,s4,gq⟩:=hI_5;refine hG_5 ?_;rw [A0,F6] at gq;refine ⟨px,_,rfl,SqL.of gq,?_⟩;rw [qQ8];refine hM1 _ _ ?_;refine ⟨_,rfl,r,rfl,⟨_,SqT.of (s4 _ _ gur)⟩,fun py hpy=>?_⟩;refine qGK (p:=py) (a:=r) (xs:=u.map V.int) (fun k σ He=>∃ (v:Option V),σ=[v,some (.ref t)]/\Same H4 He/\He py=some (.lst (((u.take k).map fun x:Int=>decide (x ∈ path)).map V.bl))) ?_ ?_ ?_ ?_
   ·exact ⟨none,rfl,qA2 hpy _,qA1⟩
   ·rintro k σ He hk ⟨v,rfl,se,_⟩;exact SqT.of (se _ _ (s4 _ _ gur))
   ·refine fun k x' σ He hx hI_7=>opq fun G_7 hG_7=>?_;obtain ⟨v,rfl,se,gq⟩:=hI_7;obtain ⟨y,ey,rfl⟩:=qB4 hx;refine hG_7 ?_;refine ⟨_,rfl,_,rfl,t,_,rfl,.inr (SqT.of (se _ _ (s4 _ _ (sd _ _ hT)))),rfl,qBK path,_,gq,qAR (by rw [A0,A0,E1];lia),_,rfl,qAB se hpy,by rw [qA1,C9,ey,D0,B2,B2,qCY];rfl⟩
   refine fun σ H5 hI_8=>opq fun G_8 hG_8=>?_;obtain ⟨v,rfl,s5,gb⟩:=hI_8;refine hG_8 ?_;rw [A0,F6] at gb;refine ⟨py,_,rfl,SqL.of gb,?_⟩;refine ⟨_,rfl,?_⟩;have S5:Same Hd H5:=s4.trans s5;have gd5:=S5 _ _ gdd;cases an:((u.map fun x:Int=>decide (x ∈ path)).any id) with
   | true=>
    refine iteF ?_;refine ⟨_,_,_,rfl,kd.trans (Keep.of_same S5),?_⟩;rw [eD];refine ⟨Af,M,ns,L,sd.trans S5,kc2.trans (Keep.of_same S5),gd5,dk,n512,dp,lS,fun w hw h=>lA w hw ?_⟩;rcases h with h | h
    ·exact .inl h
    ·rw [C9,eu,D0] at h;rcases B7.mp h with k | k
     ·exact .inr k
     ·exfalso
      have no:=(qPI wf SP z0 z1 he hut).mp (by rw [<- A6.mp k];exact hw)
      obtain ⟨b,hb,eb⟩:=O2.mp an;obtain ⟨x,hx,rfl⟩:=D7.mp hb;exact no x hx (of_decide_eq_true eb)
   | false=>
    refine iteT ?_;have hS:IsS Ae path u:=(qPI wf SP z0 z1 he hut).mpr fun x hx hp=>by
     have:((u.map fun x:Int=>decide (x ∈ path)).any id)=true:=O2.mpr ⟨true,D7.mpr ⟨x,hx,decide_eq_true hp⟩,rfl⟩;rw [an] at this;cases this
    have ups:=hS.ups wf;have b512:=qYF ups.2.1 fun x hx=>by have:=R.in_ x hx;lia
    refine ⟨_,rfl,dm,Af,ns.map (fun n:Nat=>(n:Int)),rfl,gd5,by rw [dk.keys,P8];rfl,fun lk hlk=>?_⟩
    have bne:mskN u ≠ 0:=fun e=>by
     cases u with
     | nil=>exact une rfl
     | cons y w=>
      have b:=qG0 ups.2.1 ups.2.2 y.toNat;have y0:=ups.2.2 y A8;rw [e,A35,show ((y.toNat:Nat):Int)=y by lia,decide_eq_true A8] at b
      cases b
    have s6:=qA2 hlk (.lst ((ns.map (fun n:Nat=>(n:Int))).map V.int));have gk:(Ag H5 lk (.lst ((ns.map (fun n:Nat=>(n:Int))).map V.int))) lk=some (.lst ((ns.map (fun n:Nat=>(n:Int))).map V.int)):=qA1;have S6:=S5.trans s6;have gd6:=s6 _ _ gd5;generalize Ag H5 lk (.lst ((ns.map (fun n:Nat=>(n:Int))).map V.int))=H6 at s6 gk S6 gd6 ⊢;have nkd:lk ≠ dm:=qC2 gk gd6 (by intro z;cases z)
    refine ⟨lk,rfl,⟨_,SqL.of gk⟩,qE3 (a:=lk) (xs:=(ns.map (fun n:Nat=>(n:Int))).map V.int) (fun k σ He=>∃ (v6:Option V) (kvs2:List (Key × V)) (N:Nat->Option Nat) (ns2:List Nat),σ=[some (.ref a),some (.ref t),some (.ref dm),some (.int z),some (.ref r),some (.int (mskN u:Nat)),v6]/\Keep dm dm H6 He/\Same H He/\He dm=some (.dK kvs2)/\DkM kvs2 N ns2/\(∀ n ∈ ns2,n<512)/\DpI M (mskN u) (ns.take k) N)
     ⟨v6,Af,M,ns,rfl,Keep.refl,sd.trans S6,gd6,dk,n512,DpI.start⟩ (fun k σ He _ hP=>by obtain ⟨_,_,_,_,_,ke,_⟩:=hP;exact SqL.of (ke _ _ gk nkd nkd)) ?_ ?_⟩
    ·refine fun k x' σ He hx hI_9=>opq fun G_9 hG_9=>?_;obtain ⟨v6,kvs2,N,ns2,rfl,ke,se,gde,dk2,n2,di⟩:=hI_9;obtain ⟨y,ey,rfl⟩:=qB4 hx;obtain ⟨n,en,rfl⟩:=qYD ey;obtain ⟨v,ev⟩:=R1.mp (dk.mem.mpr (B6 en));refine hG_9 ?_;have tk:ns.take (k+1)=ns.take k++[n]:=by rw [C9,en];rfl
     refine ⟨_,rfl,_,rfl,_,_,rfl,rfl,rfl,_,rfl,?_⟩;dsimp only;have dec:decide (V.int (l7 (n:Int) ((mskN u:Nat):Int))=V.int 0)=decide (n &&& mskN u=0):=decide_eq_decide.mpr ⟨fun z=>by have:=V.int.inj z;rw [qKI] at this;lia,fun z=>by rw [qKI,z];rfl⟩
     rw [dec];by_cases c:n &&& mskN u=0
     ·rw [decide_eq_true c];refine iteT ?_;have Nu:=di.same bne ev c;have vn:valV kvs2 (D9 (n:Int))=some (.int (v:Int)):=by rw [dk2.val,Nu];rfl
      refine ⟨_,rfl,dm,rfl,.inl ⟨_,.inl gde⟩,_,rfl,_,rfl,_,_,rfl,rfl,?_⟩;dsimp only;rw [qN5];have dg:DGet He dm (.int (n:Int)) (some (.int (v:Int))):=vn ▸ DGet.k (k:=D9 (n:Int)) gde;have go:(valV kvs2 (D9 ((n ||| mskN u:Nat):Int))).getD (.int 0)=.int (((N (n ||| mskN u)).getD 0:Nat):Int):=by
       rw [dk2.val];cases N (n ||| mskN u) <;> rfl
      have mx:(if (v:Int)+1 > (((N (n ||| mskN u)).getD 0:Nat):Int) then (v:Int)+1 else (((N (n ||| mskN u)).getD 0:Nat):Int))=((max ((N (n ||| mskN u)).getD 0) (v+1):Nat):Int):=by
       split <;> lia
      have few:kvs2.length<=512:=by
       have:=qYE dk2.nd n2;have e:=congrArg A18 dk2.keys;rw [A0,A0] at e
       lia
      refine ⟨_,DGet.k (k:=D9 ((n ||| mskN u:Nat):Int)) gde,_,rfl,_,rfl,dm,_,rfl,dg,_,_,rfl,rfl,_,_,by rw [go],?_⟩
      rw [mx];refine ⟨_,rfl,_,rfl,_,rfl,_,_,rfl,rfl,?_⟩;dsimp only;rw [qN5];refine ⟨dm,_,rfl,DPut.k (k:=D9 ((n ||| mskN u:Nat):Int)) gde (qAR (by lia)),?_⟩
      have e9:(fun c=>if c=n ||| mskN u then some (max ((N (n ||| mskN u)).getD 0) (v+1)) else N c)=fun b=>if b=n ||| mskN u then some (max ((N b).getD 0) (v+1)) else N b:=by
       funext b
       by_cases eb:b=n ||| mskN u
       ·rw [if_pos eb,if_pos eb,eb]
       ·rw [if_neg eb,if_neg eb]
      have P:=dk2.put (n ||| mskN u) (max ((N (n ||| mskN u)).getD 0) (v+1));rw [e9] at P;refine ⟨_,_,_,_,rfl,fun b o e n1 n2=>by rw [qA7 n1];exact ke b o e n1 n2,qAB se hdm,qA1,P,fun x hx=>?_,by rw [tk];exact di.next ev c⟩
      by_cases eb:n ||| mskN u ∈ ns2
      ·rw [if_pos eb] at hx;exact n2 x hx
      ·rw [if_neg eb] at hx;rcases B7.mp hx with k | k
       ·exact n2 x k
       ·rw [A6.mp k];exact qaJ (n512 n (B6 en)) b512
     ·rw [decide_eq_false c];refine iteF ?_;exact ⟨_,_,_,_,rfl,ke,se,gde,dk2,n2,by rw [tk];exact di.skip c⟩
    ·refine fun σ He hI_10=>opq fun G_10 hG_10=>?_;obtain ⟨v6,kvs2,N,ns2,rfl,ke,se,gde,dk2,n2,di⟩:=hI_10;refine hG_10 ?_;rw [A0,A0,F6] at di;refine ⟨_,_,_,rfl,(kd.trans (Keep.of_same S6)).trans ke,?_⟩;rw [eD];refine ⟨kvs2,N,ns2,L++[u],se,(kc2.trans (Keep.of_same S6)).trans ke,gde,dk2,n2,dp.next (fun w hw=>(lS w hw).ups wf) ups di (fun b v e=>dk.mem.mp (by rw [e];rfl)),fun w hw=>?_,fun w hw h=>?_⟩
     ·exact (B7.mp hw).elim (lS w) fun k=>by rw [A6.mp k];exact hS
     ·rcases h with h | h
      ·exact G6 _ (lA w hw (.inl h))
      ·rw [C9,eu,D0] at h;exact (B7.mp h).elim (fun k=>G6 _ (lA w hw (.inr k))) fun k=>D5 _ k
  ·refine fun σ Hd hI_11=>opq fun G_11 hG_11=>?_;obtain ⟨v4,v5,v6,rfl,kd,d⟩:=hI_11;refine hG_11 ?_;rw [eD] at d;obtain ⟨Af,M,ns,L,sc,kc,gd,dk,n512,dp,lS,lA⟩:=d;refine ⟨_,_,_,_,rfl,?_⟩;rw [eD];refine ⟨Af,M,ns,L,sc,kc,gd,dk,n512,dp,lS,fun u hu h=>lA u hu ?_⟩;obtain ⟨y,hy,ey⟩:=h;rw [C9,ez,D0] at hy;rcases B7.mp hy with k | k
   ·exact .inl ⟨y,k,ey⟩
   ·rw [A6.mp k] at ey;refine .inr ?_;rw [A0,C6 NP,F6];exact qVQ wf SP z0 hu ey
 refine fun σ Hc hI_12=>opq fun G_12 hG_12=>?_;obtain ⟨v3,v4,v5,v6,rfl,d⟩:=hI_12;refine hG_12 ?_;rw [eD] at d;obtain ⟨Af,M,ns,L,sc,kc,gd,dk,n512,dp,lS,lA⟩:=d;refine hN1 _ _ ?_;obtain ⟨top1,b0,top2⟩:=dp.most wf SO lS fun u hu=>by
  obtain ⟨z,ez,he⟩:=hu.last;exact lA u hu ⟨z,by rw [A0,F6];exact (hm z).mpr he,ez⟩
 have top:topD none (ns.map fun n:Nat=>(((M n).getD 0:Nat):Int))=some (ts.length:Int):=by
  have mem:(ts.length:Int) ∈ ns.map fun n:Nat=>(((M n).getD 0:Nat):Int):=D7.mpr ⟨b0,dk.mem.mp (by rw [top2];rfl),by rw [top2];rfl⟩
  have le:∀ y ∈ ns.map fun n:Nat=>(((M n).getD 0:Nat):Int),y<=(ts.length:Int):=fun y hy=>by
   obtain ⟨n,hn,rfl⟩:=D7.mp hy;obtain ⟨v,ev⟩:=R1.mp (dk.mem.mpr hn);rw [ev];have:=top1 n v ev;show (v:Int)<=_
   lia
  cases e:ns.map fun n:Nat=>(((M n).getD 0:Nat):Int) with
  | nil=>rw [e] at mem;cases mem
  | cons y l=>
   rw [e] at mem le;show some (topI y l)=_;obtain ⟨a1,a2,a3⟩:=qRU l y;have h1:topI y l<=(ts.length:Int):=a3.elim (fun q=>by rw [q];exact le y A8) fun q=>le _ (B0 _ q)
   have h2:(ts.length:Int)<=topI y l:=(B8.mp mem).elim (fun q=>by rw [q];exact a1) fun q=>a2 _ q
   exact congrArg some (Int.le_antisymm h1 h2)
 refine ⟨_,rfl,.inr (.inr (.inl ⟨rfl,.inl ⟨_,gd⟩⟩)),dm,Af,rfl,rfl,gd,fun rv hrv=>?_⟩;have sv:=qA2 hrv (qUN rv dm);refine ⟨rv,dm,Af,rfl,qA1,sv _ _ gd,fun lv hlv=>?_⟩;rw [dk.vals];exact ⟨lv,_,_,rfl,SqL.of qA1,top,q _ (sc.trans (sv.trans (qA2 hlv _)))⟩
end
section
variable {P:B60} {w:World} {K:PySem.W.Frag} {mg:Str->Option Value} {base:Heap} {f:Addr} {fd:B65}
theorem qM7 {a b:Int} (h:a<=b):qAC a (b+1)=qAC a b++[b]:=by
 unfold qAC;rw [show (b+1 - a).toNat=(b - a).toNat+1 by lia,t9,B2]
 congr 1;rw [A88];congr 1
 lia
theorem qXL {a b k:Int} (h0:0<=k) (h1:a+k<b):atI ((qAC a b).map V.int) k=some (.int (a+k)):=by
 refine qD6 h0 ?_;unfold qAC;rw [C4,C4,A74 (by lia)]
 show some (V.int (a+(k.toNat:Int)))=_;rw [show ((k.toNat:Nat):Int)=k by lia]
theorem sc_Lfull_tree:FnScope ["_law_deep","_law_found","_law_ahead","_law_now","_law_k"] ["_law_deep"] (qAI qD1):=⟨rfl,rfl,rfl,by decide +kernel,rfl,by decide +kernel,by decide +kernel⟩
theorem ok_Lfull_tree (F:Fun K "_law_full_tree" "_law_full_tree" qD1 f fd) (qB5:mg "list" = none) (qAT:mg "range" = none) (qB6:mg "len" = none) (qAJ:mg "tuple" = none):FnOk P w K mg base CX0 1 f fd ["_law_deep"] qRY:=by
 refine F.ok sc_Lfull_tree (fun vs H Q E h=>?_) (fun cdv A outer s H vs Q E hr h=>?_)
 ·obtain ⟨dp,rfl,_⟩:=h
  rfl
 obtain ⟨dp,rfl,d1,d4,q⟩:=h;refine ⟨_,(qA4 (qAF (i:=1) sc_Lfull_tree.nd rfl (E5 rfl) (qAH qPN (qAY (qA0 (qCT qA3) qA3)) (qAH qPM qA6 (pv 0)))) (qA4 (qAF (i:=2) sc_Lfull_tree.nd rfl (E5 rfl) (qAD (qGZ rfl) rfl qB5 qDJ (qA0 (qAD qN3 rfl qAT qIK (qA0 (qAH qPM qA6 (pv 0)) qA3)) qA3))) (qA4 (qDY E4 (qAL qVB (qA9 qAE rfl qB6 qBQ (qA0 (pv 2) qA3)) qA6 (qAW _)) (qA4 (qAF (i:=3) sc_Lfull_tree.nd rfl (E5 rfl) (qAY qA3)) (qA4 (qBX E4 rfl (qY7 rfl qAT (qA0 qA6 (qA0 (qA9 qAE rfl qB6 qBQ (qA0 (pv 2) qA3)) (qA0 qA6 qA3)))) (qAG (i:=4) sc_Lfull_tree.nd rfl (E5 rfl)) (qA4 (qB9 (qDZ C7 G0 G1 qBB (pv 3) (qA0 (qA9 qAE rfl qB6 qBQ (qA0 (pv 1) qA3)) qA3))) (qA8 (qB9 (qDZ C7 G0 G1 qBB (pv 1) (qA0 (qCT (qA0 (qC7 qBT (pv 2) (pv 4) (fun _ _=>rfl)) (qA0 (qC7 qBT (pv 2) (qAH qC0 (pv 4) qA6) (fun _ _=>rfl)) qA3))) qA3)))))) (qA8 (qAF (i:=2) sc_Lfull_tree.nd rfl (E5 rfl) (pv 3)))))) (qA8 (qAO (qAD qAS rfl qAJ qB2 (qA0 (pv 1) qA3))))))),?_⟩
 try dsimp only [Cx.nox,Cx.wish,cxOf]
 have p4:2 ^ dp<=16:=M5 (V4 (by decide) d4) (by decide)
 have p1:1<=2 ^ dp:=y8;have sh:(1:Int) * 2 ^ ((dp:Int)).toNat=((2 ^ dp:Nat):Int):=by rw [A73,K9];simp
 obtain ⟨M,eM⟩:∃ M:Nat,M=2 ^ dp:=⟨_,rfl⟩;rw [<- eM] at p4 p1 sh;refine cut fun N0 hN0=>?_;refine ⟨(by show 0<=B59;decide),fun e he=>⟨(by show 1<=B59;decide),fun p0 hp0=>?_⟩⟩
 have u1:=qA2 he (.tup []);have ge:(Ag H e (.tup [])) e=some (.tup (([]:List Int).map V.int)):=qA1;generalize Ag H e (.tup [])=Ha at u1 ge hp0 ⊢;have u2:=qA2 hp0 (.lst [.ref e]);refine ⟨_,rfl,_,_,rfl,rfl,⟨by lia,by lia,by decide⟩,?_⟩
 dsimp only;rw [sh];refine ⟨p0,_,_,rfl,rfl,qA1,by lia,by lia,by rw [B3,K9,B66];lia,fun p1' hp1=>?_⟩
 rw [K9,qKV];have u3:=qA2 hp1 (.lst ((D6 M e).map V.ref));have gp1:(Ag (Ag Ha p0 (.lst [.ref e])) p1' (.lst ((D6 M e).map V.ref))) p1'=some (.lst ((D6 M e).map V.ref)):=qA1;have uA:=u1.trans (u2.trans u3);have geA:=(u2.trans u3) _ _ ge;have f1:H p1'=none:=(u1.trans u2).free hp1;generalize Ag (Ag Ha p0 (.lst [.ref e])) p1' (.lst ((D6 M e).map V.ref))=Hb at gp1 uA geA ⊢;refine hN0 _ _ (cut fun N1 hN1=>?_);refine ⟨_,rfl,_,_,rfl,rfl,⟨by lia,by lia,by decide⟩,?_⟩
 dsimp only;rw [sh];refine ⟨_,rfl,fun pr hpr=>?_⟩;refine ⟨pr,_,_,rfl,qA1,by decide,by decide,by lia,by lia,fun la hla=>?_⟩
 rw [qDX];have u4:=(qA2 hpr (.rng 0 (M:Int))).trans (qA2 hla (.lst ((qAC 0 (M:Int)).map V.int)));have gla:(Ag (Ag Hb pr (.rng 0 (M:Int))) la (.lst ((qAC 0 (M:Int)).map V.int))) la=some (.lst ((qAC 0 (M:Int)).map V.int)):=qA1;have fla:H la=none:=(uA.trans (qA2 hpr (.rng 0 (M:Int)))).free hla;have nla:la ≠ p1':=(qA5 (qA2 hpr (.rng 0 (M:Int)) _ _ gp1) hla).symm;generalize Ag (Ag Hb pr (.rng 0 (M:Int))) la (.lst ((qAC 0 (M:Int)).map V.int))=Hc at u4 gla ⊢;have uC:=uA.trans u4;refine hN1 _ _ (cut fun N2 hN2=>?_);obtain ⟨I,eI⟩:∃ I:Nat->St->Hp->Prop,I=fun m σ Hx=>∃ (j ex:Nat) (la:Addr) (rs:List Addr) (v3 v4:Option V),σ=[some (.int (dp:Int)),some (.ref p1'),some (.ref la),v3,v4]/\m=2 ^ ex/\j+2 ^ ex=M/\Same H Hx/\H la=none/\la ≠ p1'/\Hx la=some (.lst ((qAC (2 * (j:Int)) (2 * (j:Int)+((2 ^ ex:Nat):Int))).map V.int))/\Hx p1'=some (.lst (rs.map V.ref))/\NetL Hx rs (ftP dp j):=⟨_,rfl⟩;refine ⟨I,⟨_,by rw [eI];exact ⟨0,dp,la,_,none,none,rfl,rfl,by lia,uC,fla,nla,by rw [<- eM];simpa using gla,u4 _ _ gp1,by show NetL Hc _ (D6 (2 ^ dp) []++[]);rw [J8,<- eM];exact qIZ (u4 _ _ geA) M⟩⟩,?_⟩
 intro m σ Hx hI;rw [eI] at hI;obtain ⟨j,ex,la,rs,v3,v4,rfl,rfl,ej,sx,fla,nla,gla,gp,NX⟩:=hI;have lrs:=C6 NX;rw [qO7,<- eM] at lrs;have l2:(qAC (2 * (j:Int)) (2 * (j:Int)+((2 ^ ex:Nat):Int))).length=2 ^ ex:=by
  rw [qBL,show 2 * (j:Int)+((2 ^ ex:Nat):Int) - 2 * (j:Int)=((2 ^ ex:Nat):Int) by generalize ((2 ^ ex:Nat):Int)=z;lia,K9]
 refine ⟨_,rfl,la,_,rfl,.inl (SqL.of gla),_,_,rfl,rfl,_,rfl,?_⟩;dsimp only;rw [A0,l2];refine ite2 (fun c1=>?_) (fun c1=>?_)
 ·have c1:1<((2 ^ ex:Nat):Int):=of_decide_eq_true c1;have hex:∃ ey,ex=ey+1:=⟨ex - 1,by cases ex with | zero=>simp at c1 | succ n=>rfl⟩
  obtain ⟨ey,rfl⟩:=hex;obtain ⟨B,eB⟩:∃ B:Nat,B=2 ^ ey:=⟨_,rfl⟩;have e2:2 ^ (ey+1)=2 * B:=by rw [R6,<- eB];lia
  rw [e2] at ej gla l2 c1 ⊢;have B1:1<=B:=by lia
  refine ⟨fun σ' H'=>∃ m',m'<2 * B/\I m' σ' H',fun _ _ h=>h,?_⟩;refine cut fun M0 hM0=>?_;refine ⟨(by show 0<=B59;decide),fun ln hln=>?_⟩
  have t1:=qA2 hln (.lst []);have gln:(Ag Hx ln (.lst [])) ln=some (.lst ((qAC ((M:Int)+j) ((M:Int)+j+((0:Nat):Int))).map V.int)):=by rw [qA1];simp [qAC]
  have fln:H ln=none:=sx.free hln;have nlp:ln ≠ p1':=(qA5 gp hln).symm;have nla2:ln ≠ la:=(qA5 gla hln).symm;have gla1:=t1 _ _ gla;have gp1:=t1 _ _ gp;have NX1:NetL (Ag Hx ln (.lst [])) rs (ftP dp j):=Paired.mapP NX fun r z e=>t1 _ _ e;have sx1:=sx.trans t1;generalize Ag Hx ln (.lst [])=Hy at gln gla1 gp1 NX1 sx1 ⊢;refine hM0 _ _ (cut fun M1 hM1=>?_);refine ⟨_,rfl,la,_,rfl,.inl (SqL.of gla1),0,_,2,B,rfl,⟨by decide,by decide,by lia,by rw [A0,l2];lia,by decide,by decide⟩,?_,qW7 (lo:=0) (c:=2) (n:=B) (fun i σ Hz=>∃ (rs:List Addr) (v4:Option V),σ=[some (.int (dp:Int)),some (.ref p1'),some (.ref la),some (.ref ln),v4]/\Same H Hz/\Hz la=some (.lst ((qAC (2 * (j:Int)) (2 * (j:Int)+((2 * B:Nat):Int))).map V.int))/\Hz ln=some (.lst ((qAC ((M:Int)+j) ((M:Int)+j+(i:Int))).map V.int))/\Hz p1'=some (.lst (rs.map V.ref))/\NetL Hz rs (ftP dp (j+i)))
   ⟨rs,v4,rfl,sx1,gla1,gln,gp1,NX1⟩ ?_ ?_⟩
  ·rw [A0,l2];unfold F5;rw [if_pos (by decide),if_pos (by lia)]
   lia
  ·refine fun i σ Hz hi hI_1=>opq fun G_1 hG_1=>?_;obtain ⟨rs,v4,rfl,sz,gla,gln,gp,NZ⟩:=hI_1;refine hG_1 ?_;have lr2:=C6 NZ;rw [qO7,<- eM] at lr2;refine cut fun L1 hL1=>?_;refine ⟨_,rfl,.inl ⟨rfl,_,SqL.of gln⟩,_,rfl,p1',_,rfl,.inl (SqL.of gp),ln,_,_,rfl,rfl,gln,qAR (by rw [A0,qBL];lia),?_⟩
   rw [A0,lr2];have ns:(qAC ((M:Int)+j) ((M:Int)+j+(i:Int))).map V.int++[V.int ((M+(j+i):Nat):Int)]=(qAC ((M:Int)+j) ((M:Int)+j+((i+1:Nat):Int))).map V.int:=by
    rw [show ((M:Int)+j+((i+1:Nat):Int))=(M:Int)+j+(i:Int)+1 by lia,qM7 (by lia),B2,show ((M+(j+i):Nat):Int)=(M:Int)+j+(i:Int) by lia]
    rfl
   rw [ns];have sz1:=qAB (o:=.lst ((qAC ((M:Int)+j) ((M:Int)+j+((i+1:Nat):Int))).map V.int)) sz fln;have gln1:(Ag Hz ln (.lst ((qAC ((M:Int)+j) ((M:Int)+j+((i+1:Nat):Int))).map V.int))) ln=some (.lst ((qAC ((M:Int)+j) ((M:Int)+j+((i+1:Nat):Int))).map V.int)):=qA1;have gla1:(Ag Hz ln (.lst ((qAC ((M:Int)+j) ((M:Int)+j+((i+1:Nat):Int))).map V.int))) la=some (.lst ((qAC (2 * (j:Int)) (2 * (j:Int)+((2 * B:Nat):Int))).map V.int)):=by rw [qA7 nla2.symm];exact gla
   have gp1:(Ag Hz ln (.lst ((qAC ((M:Int)+j) ((M:Int)+j+((i+1:Nat):Int))).map V.int))) p1'=some (.lst (rs.map V.ref)):=by rw [qA7 nlp.symm];exact gp
   have NZ1:NetL (Ag Hz ln (.lst ((qAC ((M:Int)+j) ((M:Int)+j+((i+1:Nat):Int))).map V.int))) rs (ftP dp (j+i)):=Paired.mapP NZ fun r z e=>by rw [qA7 (qC2 e gln (fun z=>nomatch z))];exact e
   generalize Ag Hz ln (.lst ((qAC ((M:Int)+j) ((M:Int)+j+((i+1:Nat):Int))).map V.int))=Hw at sz1 gln1 gla1 gp1 NZ1 ⊢;refine hL1 _ _ ?_;have at0:atI ((qAC (2 * (j:Int)) (2 * (j:Int)+((2 * B:Nat):Int))).map V.int) (0+(i:Int) * 2)=some (.int (2 * ((j+i:Nat):Int))):=by
    rw [show (2 * ((j+i:Nat):Int))=2 * (j:Int)+(0+(i:Int) * 2) by lia]
    exact qXL (by lia) (by lia)
   have at1:atI ((qAC (2 * (j:Int)) (2 * (j:Int)+((2 * B:Nat):Int))).map V.int) (0+(i:Int) * 2+1)=some (.int (2 * ((j+i:Nat):Int)+1)):=by
    rw [show (2 * ((j+i:Nat):Int)+1)=2 * (j:Int)+(0+(i:Int) * 2+1) by lia]
    exact qXL (by lia) (by lia)
   refine ⟨_,rfl,.inl ⟨rfl,_,SqL.of gp1⟩,?_⟩;refine ⟨_,rfl,_,rfl,la,_,_,_,rfl,rfl,SqL.of gla1,at0,?_⟩;refine ⟨_,rfl,_,rfl,_,_,rfl,rfl,la,_,_,_,rfl,rfl,SqL.of gla1,at1,?_⟩;refine ⟨(by show 2<=B59;decide),fun T hT=>?_⟩
   have sT:=qA2 hT (.tup [.int (2 * ((j+i:Nat):Int)),.int (2 * ((j+i:Nat):Int)+1)]);have gT:=qA1 (H:=Hw) (a:=T) (o:=.tup [.int (2 * ((j+i:Nat):Int)),.int (2 * ((j+i:Nat):Int)+1)]);refine ⟨p1',_,_,rfl,rfl,sT _ _ gp1,qAR (by rw [A0];lia),?_⟩
   rw [qBM];have nT:T ≠ p1':=(qA5 gp1 hT).symm;refine ⟨rs++[T],_,rfl,qAB (sz1.trans sT) f1,by rw [qA7 nla];exact sT _ _ gla1,by rw [qA7 nlp];exact sT _ _ gln1,qA1,?_⟩
   rw [<- p9,qW5];refine c8 (Paired.mapP NZ1 fun r z e=>?_) (by rw [qA7 nT];exact gT)
   have e2:=sT _ _ e;rw [qA7 (qC2 e2 (sT _ _ gp1) (fun z=>nomatch z))];exact e2
  ·refine fun σ Hz hI_2=>opq fun G_2 hG_2=>?_;obtain ⟨rs,v4,rfl,sz,gla,gln,gp,NZ⟩:=hI_2;refine hG_2 ?_;refine hM1 _ _ ?_;refine ⟨_,rfl,B,by lia,?_⟩
   rw [eI];refine ⟨j+B,ey,ln,rs,_,_,rfl,eB,by lia,sz,fln,nlp,?_,gp,NZ⟩
   rw [gln,<- eB,show 2 * ((j+B:Nat):Int)=(M:Int)+j by lia]
 ·have c1:¬ 1<((2 ^ ex:Nat):Int):=of_decide_eq_false (Q1.mpr c1);have e1:2 ^ ex=1:=by have:=y8 (n:=ex);generalize 2 ^ ex=z at *;lia
  have e0:j=2 ^ dp - 1:=by rw [<- eM];lia
  subst e0;refine hN2 _ _ ?_;refine ⟨_,rfl,p1',_,rfl,.inl ⟨SqL.of gp,fun a2 ha2=>?_⟩⟩;exact q _ _ (sx.trans (qA2 ha2 _)) ⟨rs,qA1,Paired.mapP NX fun r z e=>qA2 ha2 _ _ _ e⟩
end
section
variable {P:B60} {w:World} {K:PySem.W.Frag} {mg:Str->Option Value} {base:Heap} {f:Addr} {fd:B65} {qCA:Addr} {qC4:B65}
theorem sc_Lchain:FnScope ["_law_state","_law_many_here","_law_left","_law_net_here","_law_turn","_law_k"] ["_law_state","_law_many_here"] (qAI qI9):=⟨rfl,rfl,rfl,by decide +kernel,rfl,by decide +kernel,by decide +kernel⟩
theorem ok_Lchain (F:Fun K "_law_chain" "_law_chain" qI9 f fd) (qAN:Clb P w K mg base 1 qCA qC4 "_law_take" ["_law_state","_law_many_here"] qIR) (qB5:mg "list" = none) (qAT:mg "range" = none) (qB6:mg "len" = none) (qAJ:mg "tuple" = none):FnOk P w K mg base CX0 2 f fd ["_law_state","_law_many_here"] qRZ:=by
 refine F.ok sc_Lchain (fun vs H Q E h=>?_) (fun cdv A outer s H vs Q E hr h=>?_)
 ·obtain ⟨d,c,t,ns,m,rfl,_⟩:=h
  rfl
 obtain ⟨d,c,t,ns,m,rfl,S,tb,m1,m20,q⟩:=h;have tb:t<=1000000000 - 100:=tb;refine ⟨_,(qA4 (qAF (i:=2) sc_Lchain.nd rfl (E5 rfl) (qAD (qGZ rfl) rfl qB5 qDJ (qA0 (qAD qN3 rfl qAT qIK (qA0 (pv 1) qA3)) qA3))) (qA4 (qAF (i:=3) sc_Lchain.nd rfl (E5 rfl) (qAH qPN (qAY (qA0 (qCT qA3) qA3)) (qAH qC0 (pv 1) qA6))) (qA4 (qBX E4 rfl (qCC rfl qAT (qA0 (pv 1) qA3)) (qAG (i:=4) sc_Lchain.nd rfl (E5 rfl)) (qA4 (qAF (i:=5) sc_Lchain.nd rfl (E5 rfl) (qDZ C7 Z1 Z2 qVE (pv 2) (qA0 (qAZ qAN hr rfl (qA0 (pv 0) (qA0 (qA9 qAE rfl qB6 qBQ (qA0 (pv 2) qA3)) qA3))) qA3))) (qA8 (qB9 (qDZ C7 G0 G1 qBB (pv 3) (qA0 (qIB (qAL qVB (pv 5) qA6 (qAW _)) (qCT (qA0 (qAH qCU (pv 5) qA6) (qA0 (pv 5) qA3))) (qCT (qA0 qA6 qA3))) qA3)))))) (qA8 (qAO (qAD qAS rfl qAJ qB2 (qA0 (qAH qME (pv 3) (qAY (qA0 (qAD (qFQ rfl) rfl qAJ qB2 (qA0 (qAD qN2 rfl qAT qIK (qA0 (pv 1) (qA0 (qAH qC0 (qAH qCD qA6 (pv 1)) qA6) qA3))) qA3)) qA3))) qA3))))))),?_⟩
 try dsimp only [Cx.nox,Cx.wish,cxOf]
 refine cut fun N0 hN0=>?_;refine ⟨_,rfl,_,rfl,fun pr hpr=>?_⟩;refine ⟨pr,_,_,rfl,qA1,by decide,by decide,by lia,by lia,fun la hla=>?_⟩
 rw [qDX];have u4:=(qA2 hpr (.rng 0 (m:Int))).trans (qA2 hla (.lst ((qAC 0 (m:Int)).map V.int)));have gla:(Ag (Ag H pr (.rng 0 (m:Int))) la (.lst ((qAC 0 (m:Int)).map V.int))) la=some (.lst ((qAC 0 (m:Int)).map V.int)):=qA1;have fla:H la=none:=(qA2 hpr (.rng 0 (m:Int))).free hla;generalize Ag (Ag H pr (.rng 0 (m:Int))) la (.lst ((qAC 0 (m:Int)).map V.int))=H1 at u4 gla ⊢;refine hN0 _ _ (cut fun N1 hN1=>?_);refine ⟨(by show 0<=B59;decide),fun e he=>⟨(by show 1<=B59;decide),fun p0 hp0=>?_⟩⟩
 have u1:=qA2 he (.tup []);have ge:(Ag H1 e (.tup [])) e=some (.tup (([]:List Int).map V.int)):=qA1;generalize Ag H1 e (.tup [])=Ha at u1 ge hp0 ⊢;have u2:=qA2 hp0 (.lst [.ref e]);refine ⟨_,rfl,_,_,rfl,rfl,?_⟩;refine ⟨p0,_,_,rfl,rfl,qA1,by lia,by lia,by rw [B3,B66];lia,fun lf hlf=>?_⟩
 rw [show ((m:Int)+1).toNat=m+1 by lia,qKV]
 have u3:=qA2 hlf (.lst ((D6 (m+1) e).map V.ref));have gf:(Ag (Ag Ha p0 (.lst [.ref e])) lf (.lst ((D6 (m+1) e).map V.ref))) lf=some (.lst ((D6 (m+1) e).map V.ref)):=qA1;have uA:=u1.trans (u2.trans u3);have geA:=(u2.trans u3) _ _ ge;have flf:H lf=none:=(u4.trans (u1.trans u2)).free hlf;generalize Ag (Ag Ha p0 (.lst [.ref e])) lf (.lst ((D6 (m+1) e).map V.ref))=H2 at gf uA geA ⊢;have S2:=u4.trans uA;have nr:la ≠ d/\la ≠ c:=⟨(qA5 S.dict fla).symm,(qA5 S.list fla).symm⟩;have nf:lf ≠ d/\lf ≠ c:=⟨(qA5 S.dict flf).symm,(qA5 S.list flf).symm⟩;have naf:la ≠ lf:=qA5 (u1.trans u2 _ _ gla) hlf;refine hN1 _ _ (cut fun N2 hN2=>?_);obtain ⟨I,eI⟩:∃ I:Nat->St->Hp->Prop,I=fun (k:Nat) σ Hx=>∃ (t':Int) (ns' fs ks:List Int) (rs:List Addr) (v4 v5:Option V),σ=[some (.ref d),some (.int (m:Int)),some (.ref la),some (.ref lf),v4,v5]/\StAt Hx d c t' ns'/\t'=t+(k:Int)/\Keep d c H Hx/\Hx la=some (.lst (fs.map V.int))/\Hx lf=some (.lst (rs.map V.ref))/\NetL Hx rs (D6 (m+1) []++ks.map prK)/\ks.length=k/\(ks++fs).Nodup/\(∀ x ∈ ks++fs,0<=x/\x<(m:Int))/\fs.length+k=m:=⟨_,rfl⟩;refine ⟨_,rfl,_,rfl,by lia,by lia,qGQ (lo:=0) (n:=(m:Int).toNat) I
  (by rw [eI];exact ⟨t,ns,_,[],_,none,none,rfl,S.same S2,by lia,.of_same S2,uA _ _ gla,gf,by rw [Y6,J8];exact qIZ geA (m+1),rfl,by rw [d6];exact qGC _ _,fun x hx=>by rw [d6,mem_rangeI] at hx;exact hx,by rw [qBL];lia⟩) ?_ ?_⟩
 ·intro k σ Hx hk hI;rw [eI] at hI;obtain ⟨t',ns',fs,ks,rs,v4,v5,rfl,Sx,et,Kx,gx,gfx,NX,lk,nd,bd,lfs⟩:=hI;have hk':k<m:=by lia
  refine ⟨_,rfl,.inl ⟨rfl,_,SqL.of gx⟩,_,rfl,_,rfl,la,_,rfl,.inl (SqL.of gx),?_⟩;rw [A0];refine ⟨d,c,t',ns',_,rfl,Sx,(by show t'<=1000000000;lia),by lia,by lia,fun j ns4 H4 j0 j1 S4 K4=>?_⟩
  have hj:j.toNat<fs.length:=by lia
  have ey:fs[j.toNat]?=some fs[j.toNat]:=A7 hj;generalize fs[j.toNat]=y at ey;have gr4:=K4 _ _ gx nr.1 nr.2;have gf4:=K4 _ _ gfx nf.1 nf.2;refine ⟨la,_,j,j.toNat,.int y,rfl,rfl,gr4,by lia,by lia,?_,by rw [C4,ey];rfl,?_⟩
  ·unfold seqIndex?;rw [A0];simp
   lia
  have er:(fs.map V.int).eraseIdx j.toNat=(fs.eraseIdx j.toNat).map V.int:=by rw [O6,O6,B2,A86,A87]
  rw [er];have S5:StAt (Ag H4 la (.lst ((fs.eraseIdx j.toNat).map V.int))) d c (t'+1) ns4:=⟨by rw [qA7 nr.1.symm];exact S4.dict,by rw [qA7 nr.2.symm];exact S4.list,S4.ne,S4.len,S4.pos⟩
  have g5:(Ag H4 la (.lst ((fs.eraseIdx j.toNat).map V.int))) la=some (.lst ((fs.eraseIdx j.toNat).map V.int)):=qA1;have gf5:(Ag H4 la (.lst ((fs.eraseIdx j.toNat).map V.int))) lf=some (.lst (rs.map V.ref)):=by rw [qA7 naf.symm];exact gf4
  have K5:Keep d c H (Ag H4 la (.lst ((fs.eraseIdx j.toNat).map V.int))):=qID (Kx.trans K4) fla;have P5:NetL (Ag H4 la (.lst ((fs.eraseIdx j.toNat).map V.int))) rs (D6 (m+1) []++ks.map prK):=Paired.mapP NX fun r q e=>by
   have e4:=K4 _ _ e (Sx.tup e).1 (Sx.tup e).2;rw [qA7 (qC2 e4 gr4 (fun z=>nomatch z))];exact e4
  generalize Ag H4 la (.lst ((fs.eraseIdx j.toNat).map V.int))=H5 at S5 g5 gf5 K5 P5 ⊢;have lrs:=C6 P5;rw [A5,G7,A0,lk] at lrs;have fin:∀ (T:Addr) (H6:Hp) (v4 v5:Option V),Same H5 H6->H6 T=some (.tup ((prK y).map V.int))->I (k+1) [some (.ref d),some (.int (m:Int)),some (.ref la),some (.ref lf),v4,v5] (Ag H6 lf (.lst ((rs++[T]).map V.ref))):=fun T H6 v4 v5 s6 gT=>by
   have S6:=S5.same s6;have gf6:=s6 _ _ gf5;have pm:(fs.eraseIdx j.toNat++[y]).Perm fs:=by
    obtain ⟨hj',ej'⟩:=A3.mp ey;have fe:fs.take j.toNat++y::fs.drop (j.toNat+1)=fs:=by rw [<- ej',<- b7 hj',Y8]
    have:=o9 (a:=y) (l₁:=fs.take j.toNat) (l₂:=fs.drop (j.toNat+1));rw [fe] at this;rw [O6];exact m7.trans this.symm
   have pm2:((ks++[y])++fs.eraseIdx j.toNat).Perm (ks++fs):=by
    rw [I0];exact ((m7 (l₁:=[y])).trans pm).append_left ks
   have le:=w5 hj;rw [eI];refine ⟨t'+1,ns4,fs.eraseIdx j.toNat,ks++[y],rs++[T],_,_,rfl,⟨by rw [qA7 nf.1.symm];exact S6.dict,by rw [qA7 nf.2.symm];exact S6.list,S6.ne,S6.len,S6.pos⟩,by lia,qID (K5.trans (.of_same s6)) flf,by rw [qA7 naf];exact s6 _ _ g5,qA1,?_,by rw [A5,lk];rfl,pm2.nodup_iff.mpr nd,fun x hx=>bd x (pm2.mem_iff.mp hx),by lia⟩
   rw [show (ks++[y]).map prK=ks.map prK++[prK y] from B2 ..,<- I0];refine c8 (Paired.mapP P5 fun r q e=>?_) ?_
   ·have e6:=s6 _ _ e;rw [qA7 (qC2 e6 gf6 (fun z=>nomatch z))];exact e6
   ·rw [qA7 (qC2 gT gf6 (fun z=>nomatch z))];exact gT
  refine ⟨_,rfl,.inl ⟨rfl,_,SqL.of gf5⟩,?_⟩;refine ⟨_,rfl,_,_,rfl,rfl,_,rfl,?_⟩;refine ite2 (fun c0=>?_) (fun c0=>?_)
  ·have c0:y > 0:=of_decide_eq_true c0;have pk:prK y=[y - 1,y]:=if_pos c0;refine ⟨_,rfl,_,_,rfl,rfl,_,rfl,(by show 2<=B59;decide),fun T hT=>?_⟩
   refine ⟨lf,_,_,rfl,rfl,qA2 hT _ _ _ gf5,qAR (by rw [A0];lia),?_⟩
   rw [qBM];exact fin T _ _ _ (qA2 hT _) (by rw [pk];exact qA1)
  ·have c0:¬ y > 0:=of_decide_eq_false (Q1.mpr c0);have pk:prK y=[0]:=if_neg c0;refine ⟨(by show 1<=B59;decide),fun T hT=>?_⟩
   refine ⟨lf,_,_,rfl,rfl,qA2 hT _ _ _ gf5,qAR (by rw [A0];lia),?_⟩
   rw [qBM];exact fin T _ _ _ (qA2 hT _) (by rw [pk];exact qA1)
 ·intro σ Hx hI;rw [eI] at hI;obtain ⟨t',ns',fs,ks,rs,v4,v5,rfl,Sx,et,Kx,gx,gfx,NX,lk,nd,bd,lfs⟩:=hI;refine hN2 _ _ ?_;have mm:(m:Int).toNat=m:=K9 m;rw [mm] at lfs lk;have ef:fs=[]:=List.eq_nil_of_length_eq_zero (by lia)
  subst ef;rw [J8] at nd bd;have lrs:=C6 NX;rw [A5,G7,A0,lk] at lrs;refine ⟨_,rfl,_,rfl,_,rfl,_,_,rfl,rfl,.inl ⟨by decide,by decide⟩,_,_,rfl,rfl,_,_,rfl,fun pr hpr=>?_⟩
  refine ⟨pr,_,_,rfl,qA1,by lia,by lia,by lia,by lia,fun r hr1=>?_⟩
  rw [qDX];have u4:=(qA2 hpr (.rng (m:Int) (2 * (m:Int)+1))).trans (qA2 hr1 (.tup ((qAC (m:Int) (2 * (m:Int)+1)).map V.int)));have grr:(Ag (Ag Hx pr (.rng (m:Int) (2 * (m:Int)+1))) r (.tup ((qAC (m:Int) (2 * (m:Int)+1)).map V.int))) r=some (.tup ((qAC (m:Int) (2 * (m:Int)+1)).map V.int)):=qA1;generalize Ag (Ag Hx pr (.rng (m:Int) (2 * (m:Int)+1))) r (.tup ((qAC (m:Int) (2 * (m:Int)+1)).map V.int))=Hc2 at u4 grr ⊢;refine ⟨(by show 1<=B59;decide),fun p3 hp3=>?_⟩
  have u5:=qA2 hp3 (.lst [.ref r]);refine ⟨lf,p3,_,_,rfl,rfl,u5 _ _ (u4 _ _ gfx),qA1,by rw [A0,B3,B66];lia,fun p4 hp4=>?_⟩
  rw [qBM];have u6:=qA2 hp4 (.lst ((rs++[r]).map V.ref));refine ⟨p4,_,rfl,.inl ⟨SqL.of qA1,fun a2 ha2=>?_⟩⟩;have uB:=u5.trans (u6.trans (qA2 ha2 (.tup ((rs++[r]).map V.ref))));have uF:=u4.trans uB;exact q a2 ks t' ns' _ (Sx.same uF) (by lia) (by lia) (Kx.trans (.of_same uF)) ⟨_,qA1,c8 (Paired.mapP NX fun r q e=>uF _ _ e) (uB _ _ grr)⟩ lk nd bd
end
section
variable {P:B60} {w:World} {K:PySem.W.Frag} {mg:Str->Option Value} {base:Heap} {f:Addr} {fd:B65} {qCR qD9 qFE qCM qET:Addr} {qE4 qGV qJD qFP qGS:B65}
theorem sc_Lright:FnScope ["_law_net_here","_law_path","_law_found","_law_kept"] ["_law_net_here","_law_path"] (qAI qI7):=⟨rfl,rfl,rfl,by decide +kernel,rfl,by decide +kernel,by decide +kernel⟩
theorem ok_Lright (F:Fun K "_law_right" "_law_right" qI7 f fd) (qBH:Clb P w K mg base 3 qCR qE4 "sides_of" ["net","path"] qNK) (qDD:Clb P w K mg base 3 qD9 qGV "_law_are_sides" ["_law_net_here","_law_path","_law_thing"] qJY) (qFI:Clb P w K mg base 2 qFE qJD "_law_is_full" ["_law_net_here","_law_path","_law_sides"] qP1) (qCP:Clb P w K mg base 2 qCM qFP "_law_most_sides" ["_law_net_here","_law_path"] qRX) (qLR:Clb P w K mg base 3 qET qGS "_law_same" ["_law_found","_law_due"] (spS 3)) (qB6:mg "len" = none) (qB5:mg "list" = none):FnOk P w K mg base CX0 4 f fd ["_law_net_here","_law_path"] qOY:=by
 refine F.ok sc_Lright (fun vs H Q E h=>?_) (fun cdv A outer s H vs Q E hr h=>?_)
 ·obtain ⟨a,t,Ae,path,rfl,_⟩:=h
  rfl
 obtain ⟨a,t,Ae,path,rfl,PI,n60,p60,q⟩:=h;refine ⟨_,(qA4 (qAF (i:=2) sc_Lright.nd rfl (E5 rfl) (qAZ qBH hr rfl (qA0 (pv 0) (qA0 (pv 1) qA3)))) (qA4 (qBP (PW.pt (qM8 (qFM (qDL (qAZ qDD hr rfl (qA0 (pv 0) (qA0 (pv 1) (qA0 (pv 2) qA3)))))) (qIU (qFM (qDL (qAZ qFI hr rfl (qA0 (pv 0) (qA0 (pv 1) (qA0 (pv 2) qA3))))))))) (qA8 (qAO qGD)) qAP) (qA4 (qBP (PW.pt (qPB (qAL qVA (qA9 qAE rfl qB6 qBQ (qA0 (pv 0) qA3)) qA6 (qAW _)) (qNR (qAL qNW (qA9 qAE rfl qB6 qBQ (qA0 (pv 2) qA3)) (qAZ qCP hr rfl (qA0 (pv 0) (qA0 (pv 1) qA3))) (qAW _))))) (qA8 (qAO qGD)) qAP) (qA4 (qAF (i:=3) sc_Lright.nd rfl (E5 rfl) (qAD qHT rfl qB5 qDJ (qA0 (pv 2) qA3))) (qA4 (qB9 (qMA C7 PySem.F.slot_list_clear PySem.F.type_list_clear qVF (pv 2))) (qA8 (qAO (qAZ qLR hr rfl (qA0 (qAZ qBH hr rfl (qA0 (pv 0) (qA0 (pv 1) qA3))) (qA0 (pv 3) qA3)))))))))),?_⟩
 try dsimp only [Cx.nox,Cx.wish,cxOf]
 obtain ⟨hN,wf,n400,hT,pne,lp,pin⟩:=id PI;obtain ⟨ra,hA,NL⟩:=id hN;have lra:=C6 NL;have PIs:∀ {H':Hp},Same H H'->qDA H' a t Ae path:=fun k=>⟨hN.same k,wf,n400,k _ _ hT,pne,lp,pin⟩;refine cut fun N0 hN0=>?_;refine ⟨_,rfl,_,rfl,a,t,Ae,path,rfl,PI,by lia,fun l rs ts H1 s1 fl gl TT SO=>?_⟩
 obtain ⟨all,tin,tl⟩:=SO.are wf;have lrs:=C6 TT;refine hN0 _ _ (cut fun N1 hN1=>?_);refine ⟨_,rfl,_,rfl,_,rfl,a,t,Ae,path,_,2,_,rfl,PIs s1,n60,p60,fun ds e=>?_,qUU gl TT,qUT (by lia) (fun s hs=>by have:=(tin s hs).2.1;lia),fun H2 s2=>?_⟩
 ·cases e;rw [A0]
  lia
 rw [all];refine ⟨_,rfl,?_⟩;refine ⟨_,rfl,_,rfl,_,rfl,a,t,l,Ae,path,rs,ts,rfl,PIs (s1.trans s2),n60,p60,s2 _ _ gl,Paired.mapP TT fun r s e=>s2 _ _ e,SO,fun H3 s3=>?_⟩;refine ⟨_,rfl,?_⟩;have s13:=s1.trans (s2.trans s3);have gl3:=s3 _ _ (s2 _ _ gl);have TT3:L2.G.TupsAt H3 rs ts:=Paired.mapP TT fun r s e=>s3 _ _ (s2 _ _ e);refine hN1 _ _ (cut fun N2 hN2=>?_);have rest:∀ H4,Same H3 H4->N2 [some (.ref a),some (.ref t),some (.ref l),none] H4:=fun H4 s4=>by
  have gl4:=s4 _ _ gl3;have TT4:L2.G.TupsAt H4 rs ts:=Paired.mapP TT3 fun r s e=>s4 _ _ e;refine hN2 _ _ (cut fun N3 hN3=>?_);refine ⟨_,rfl,l,_,rfl,.inl (SqL.of gl4),fun lk hlk=>?_⟩;have s5:=qA2 hlk (.lst (rs.map V.ref));have gk5:(Ag H4 lk (.lst (rs.map V.ref))) lk=some (.lst (rs.map V.ref)):=qA1;have gl5:=s5 _ _ gl4;have nkl:lk ≠ l:=(qA5 gl4 hlk).symm;have TT5:L2.G.TupsAt (Ag H4 lk (.lst (rs.map V.ref))) rs ts:=Paired.mapP TT4 fun r s e=>s5 _ _ e;have S5:=s13.trans (s4.trans s5);generalize Ag H4 lk (.lst (rs.map V.ref))=H5 at s5 gk5 gl5 TT5 S5 ⊢;refine hN3 _ _ (cut fun N4 hN4=>?_);refine ⟨_,rfl,.inl ⟨rfl,_,SqL.of gl5⟩,l,_,rfl,rfl,gl5,?_⟩;have S6:=qAB (o:=.lst []) S5 fl;have gk6:(Ag H5 l (.lst [])) lk=some (.lst (rs.map V.ref)):=by rw [qA7 nkl];exact gk5
  have TT6:L2.G.TupsAt (Ag H5 l (.lst [])) rs ts:=Paired.mapP TT5 fun r s e=>by rw [qA7 (qC2 e gl5 (fun z=>nomatch z))];exact e
  generalize Ag H5 l (.lst [])=H6 at S6 gk6 TT6 ⊢;refine hN4 _ _ ?_;refine ⟨_,rfl,_,rfl,a,t,Ae,path,rfl,PIs S6,by lia,fun l2 rs2 ts2 H7 s7 fl7 gl7 TT7 SO7=>?_⟩
  have e:=SO7.one SO;subst e;refine ⟨_,rfl,.ref l2,.ref lk,rfl,qWJ ⟨_,gl7,TT7⟩ ⟨_,s7 _ _ gk6,Paired.mapP TT6 fun r s e=>s7 _ _ e⟩ (by lia) (fun t ht=>M5 (tin t ht).2.1 (by lia)),fun H8 s8=>?_⟩
  exact q _ (S6.trans (s7.trans s8))
 refine ⟨_,rfl,a,_,rfl,.inr (SqT.of (s13 _ _ hA)),_,_,rfl,rfl,_,rfl,?_⟩;refine ite2 (fun c10=>?_) (fun c10=>?_)
 ·have c10:((ra.map V.ref).length:Int)<10:=of_decide_eq_true c10;rw [A0,lra] at c10;refine ⟨_,rfl,l,_,rfl,.inl (SqL.of gl3),_,rfl,_,rfl,a,t,Ae,path,ts,rfl,PIs s13,by lia,p60,SO,fun H4 s4=>?_⟩
  rw [A0,lrs];refine ⟨rfl,_,rfl,?_⟩;rw [decide_eq_true rfl];exact rest H4 s4
 ·exact rest _ (.refl _)
end
section
variable {P:B60} {w:World} {K:PySem.W.Frag} {mg:Str->Option Value} {base:Heap} {f:Addr} {fd:B65} {qIH qCA qPX qLA qCL qFC qCR qIF qIG qD8:Addr} {qMY qC4 qTM qPW qFO qGT qE4 qMW qMX qGU:B65}
theorem qY4 (b:Bool):∃ m,atI [V.int 9,V.int 40] (if b=true then (1:Int) else 0)=some (.int m)/\9<=m/\m<=40:=by
 cases b
 ·exact ⟨9,rfl,by decide,by decide⟩
 ·exact ⟨40,rfl,by decide,by decide⟩
theorem qY5 {k:Int} (h0:0<=k) (h1:k<8):∃ m,atI [V.int 5,V.int 17] (k / 7)=some (.int m)/\1<=m/\m<=17:=by
 rcases (by lia:k / 7=0\/k / 7=1) with e | e
 ·exact ⟨5,by rw [e];rfl,by decide,by decide⟩
 ·exact ⟨17,by rw [e];rfl,by decide,by decide⟩
theorem qLE {xs:List V} {lo hi:Option Int} {x:V} (h:x ∈ cutV xs lo hi):x ∈ xs:=by
 unfold cutV at h;exact L3 (R5 h)
theorem sc_law:FnScope ["_law_script","_law_state","_law_turn","_law_net_here","_law_work","_law_paths_here","_law_first","_law_path","_law_many_here","_law_deep"] ["_law_script"] (qAI qJO):=⟨rfl,rfl,rfl,by decide +kernel,rfl,by decide +kernel,by decide +kernel⟩
theorem ok_law (F:Fun K "law" "law" qJO f fd) (qIM:Clb P w K mg base 1 qIH qMY "_law_begin" ["_law_script"] (qS0 K)) (qAN:Clb P w K mg base 1 qCA qC4 "_law_take" ["_law_state","_law_many_here"] qIR) (qQA:Clb P w K mg base 3 qPX qTM "_law_net" ["_law_state","_law_many_here"] qZX) (qLS:Clb P w K mg base 2 qLA qPW "_law_many" ["_law_state","_law_most"] qWT) (qCO:Clb P w K mg base 1 qCL qFO "_law_path_count" ["_law_net_here","_law_work"] qOZ) (qCN:Clb P w K mg base 1 qFC qGT "_law_paths" ["_law_net_here","_law_work"] qKQ) (qBH:Clb P w K mg base 3 qCR qE4 "sides_of" ["net","path"] qNK) (qFG:Clb P w K mg base 4 qIF qMW "_law_right" ["_law_net_here","_law_path"] qOY) (qIL:Clb P w K mg base 2 qIG qMX "_law_chain" ["_law_state","_law_many_here"] qRZ) (qDC:Clb P w K mg base 1 qD8 qGU "_law_full_tree" ["_law_deep"] qRY) (qAT:mg "range" = none) (qEI:mg "int" = none) (qB6:mg "len" = none) (qHX:mg "min" = none):FnOk P w K mg base CX0 6 f fd ["_law_script"] (qUW K):=by
 refine F.ok sc_law (fun vs H Q E h=>?_) (fun cdv A outer s H vs Q E hr h=>?_)
 ·obtain ⟨sc,ns,rfl,_⟩:=h
  rfl
 obtain ⟨sc,ns,rfl,hS,h63,q⟩:=h;refine ⟨_,(qA4 (qAF (i:=1) sc_law.nd rfl (E5 rfl) (qAZ qIM hr rfl (qA0 (pv 0) qA3))) (qA4 (qBX E4 rfl (qCC rfl qAT (qA0 qA6 qA3)) (qAG (i:=2) sc_law.nd rfl (E5 rfl)) (qA4 (qAF (i:=3) sc_law.nd rfl (E5 rfl) (qAZ qQA hr rfl (qA0 (pv 1) (qA0 (qAZ qLS hr rfl (qA0 (pv 1) (qA0 (qC7 qBT (qAY (qA0 qA6 (qA0 qA6 qA3))) (qAD qJL rfl qEI qN4 (qA0 (qDH qIY (pv 2) qA6 (qAW _)) qA3)) (fun _ _=>rfl)) qA3))) qA3)))) (qA4 (qAF (i:=4) sc_law.nd rfl (E5 rfl) (qAH qCU (qAH qCU (qA9 qAE rfl qB6 qBQ (qA0 (pv 3) qA3)) qA6) (qAZ qAN hr rfl (qA0 (pv 1) (qA0 (qA9 (qJJ rfl) rfl qHX qUB (qA0 (qA9 qAE rfl qB6 qBQ (qA0 (pv 3) qA3)) (qA0 qA6 qA3))) qA3))))) (qA8 (qBP (qAL qaM (qAZ qCO hr rfl (qA0 (pv 3) (qA0 (pv 4) qA3))) qA6 (qAW _)) (qA4 (qAF (i:=5) sc_law.nd rfl (E5 rfl) (qAZ qCN hr rfl (qA0 (pv 3) (qA0 (pv 4) qA3)))) (qA4 (qAF (i:=6) sc_law.nd rfl (E5 rfl) (qAZ qAN hr rfl (qA0 (pv 1) (qA0 (qA9 qAE rfl qB6 qBQ (qA0 (pv 5) qA3)) qA3)))) (qA8 (qBX E4 rfl (qCS (qCB qFV (qAH qME (qCB qFV (pv 5) (qDF (pv 6)) qDG) (qCB qFV (pv 5) qDG (qDF (pv 6)))) qDG (qDF qA6))) (qAG (i:=7) sc_law.nd rfl (E5 rfl)) (qA8 (qBP (qFM (qDL (qAZ qFG hr rfl (qA0 (pv 3) (qA0 (pv 7) qA3))))) (qA8 (qAO qGD)) qAP)))))) qAP))))) (qA4 (qAF (i:=8) sc_law.nd rfl (E5 rfl) (qAH qC0 qA6 (qAZ qAN hr rfl (qA0 (pv 1) (qA0 (qC7 qBT (qAY (qA0 qA6 (qA0 qA6 qA3))) (qAH qFY (qAZ qAN hr rfl (qA0 (pv 1) (qA0 qA6 qA3))) qA6) (fun _ _=>rfl)) qA3))))) (qA4 (qAF (i:=3) sc_law.nd rfl (E5 rfl) (qAZ qIL hr rfl (qA0 (pv 1) (qA0 (pv 8) qA3)))) (qA4 (qBP (PW.pt (qM8 (qAL qNW (qA9 qAE rfl qB6 qBQ (qA0 (qAZ qBH hr rfl (qA0 (pv 3) (qA0 (qCT (qA0 (pv 8) (qA0 (qAH qC0 (qAH qCD qA6 (pv 8)) qA6) qA3))) qA3))) qA3)) (pv 8) (qAW _)) (qIU (qFM (qDL (qAZ qFG hr rfl (qA0 (pv 3) (qA0 (qCT (qA0 (pv 8) (qA0 (qAH qC0 (qAH qCD qA6 (pv 8)) qA6) qA3))) qA3)))))))) (qA8 (qAO qGD)) qAP) (qA4 (qAF (i:=9) sc_law.nd rfl (E5 rfl) (qAH qC0 qA6 (qAZ qAN hr rfl (qA0 (pv 1) (qA0 qA6 qA3))))) (qA4 (qAF (i:=3) sc_law.nd rfl (E5 rfl) (qAZ qDC hr rfl (qA0 (pv 9) qA3))) (qA4 (qAF (i:=7) sc_law.nd rfl (E5 rfl) (qC7 qBT (qAZ qCN hr rfl (qA0 (pv 3) (qA0 (qAH qCU (qA9 qAE rfl qB6 qBQ (qA0 (pv 3) qA3)) qA6) qA3))) (qAZ qAN hr rfl (qA0 (pv 1) (qA0 (qAH qPM qA6 (pv 9)) qA3))) (fun _ _=>rfl))) (qA8 (qAO (qK2 (qDH qIY (qA9 qAE rfl qB6 qBQ (qA0 (qAZ qBH hr rfl (qA0 (pv 3) (qA0 (pv 7) qA3))) qA3)) (pv 9) (qAW _)) (qPF (qAZ qFG hr rfl (qA0 (pv 3) (qA0 (pv 7) qA3))))))))))))))),?_⟩
 try dsimp only [Cx.nox,Cx.wish,cxOf]
 refine cut fun N0 hN0=>?_;refine ⟨_,rfl,sc,ns,rfl,hS,h63,fun d c ms1 H1 S1 sm0 hd0 hc0=>?_⟩;refine hN0 _ _ (cut fun N1 hN1=>?_);refine ⟨4,rfl,by decide,by decide,qGQ (lo:=0) (n:=4) (fun i σ Hc=>∃ (t:Int) (ms:List Int) (v2 v3 v4 v5 v6 v7:Option V),σ=[some (.ref sc),some (.ref d),v2,v3,v4,v5,v6,v7,none,none]/\StAt Hc d c t ms/\t<=1000 * i)
  ⟨0,ms1,none,none,none,none,none,none,rfl,S1,by lia⟩ ?_ ?_⟩
 ·refine fun i σ Hc hi hI_1=>opq fun G_1 hG_1=>?_;obtain ⟨t,ms,v2,v3,v4,v5,v6,v7,rfl,S2,t1⟩:=hI_1;refine hG_1 ?_;refine nmD fun D1 d1 dr=>?_;refine cut fun M0 hM0=>?_;refine ⟨_,rfl,_,rfl,(by show 2<=B59;decide),fun p hp=>?_⟩
  have sp:=qA2 hp (.lst [.int 9,.int 40]);refine ⟨_,rfl,rfl,.inr ⟨_,rfl,?_⟩⟩;obtain ⟨m,hm,m9,m40⟩:=qY4 (decide (V.int (0+(i:Int))=V.int 0));refine ⟨p,_,_,_,rfl,rfl,SqL.of qA1,hm,?_⟩;refine ⟨d,c,t,ms,m,rfl,S2.same sp,(by show t<=1000000000 - 100;lia),m9,by lia,fun k t2 ms2 H2 k1 km S3 g1 g2 K2=>?_⟩
  refine ⟨d,c,t2,ms2,k,rfl,S3,(by show t2<=1000000000 - 10000;lia),k1,by lia,fun a Ae t3 ms3 H3 S4 g3 g4 K3 hN wf nk=>?_⟩
  obtain ⟨ra,hA,NL⟩:=id hN;have lra:=C6 NL;refine hM0 _ _ (cut fun M1 hM1=>?_);refine ⟨_,rfl,a,_,rfl,.inr (SqT.of hA),_,_,rfl,rfl,_,rfl,_,rfl,a,_,rfl,.inr (SqT.of hA),_,_,rfl,?_⟩;rw [A0,lra];obtain ⟨mn,emn⟩:∃ mn:Int,mn=if (2:Int)<(Ae.length:Int) then 2 else (Ae.length:Int):=⟨_,rfl⟩
  rw [<- emn];have mb:1<=mn/\mn<=2/\mn<=(Ae.length:Int):=by rw [emn];split <;> lia
  refine ⟨d,c,t3,ms3,_,rfl,S4,(by show t3<=1000000000;lia),by lia,by lia,fun k2 ms4 H4 b0 b1 S5 K4=>⟨_,_,rfl,rfl,?_⟩⟩
  obtain ⟨wk,ewk⟩:∃ wk:Int,wk=(Ae.length:Int) - 1 - k2:=⟨_,rfl⟩;dsimp only;rw [<- ewk];have hN4:=hN.keep S4 K4;have w0:0<=wk:=by lia
  have w1:wk<(Ae.length:Int):=by lia
  refine hM1 _ _ ?_;refine ⟨_,rfl,_,rfl,a,Ae,wk,rfl,hN4,wf,by lia,w0,w1,fun H5 s5=>⟨_,_,rfl,rfl,_,rfl,?_⟩⟩
  refine ite2 (fun ck=>?_) (fun ck=>?_)
  ·have few:cn Ae wk<=300:=of_decide_eq_true ck;refine cut fun M2 hM2=>?_;refine ⟨_,rfl,_,rfl,a,Ae,wk,rfl,hN4.same s5,wf,by lia,w0,w1,few,fun lP tsP H6 s6 fl6 TL SP _ _=>?_⟩
   obtain ⟨rp,gP,NP⟩:=TL;obtain ⟨p1,pr⟩:=SP.some wf w0 w1;have lrp:=C6 NP;have S6:=(S5.same s5).same s6;have nP:lP ≠ d/\lP ≠ c:=⟨(qA5 (S5.same s5).dict fl6).symm,(qA5 (S5.same s5).list fl6).symm⟩;refine hM2 _ _ (cut fun M3 hM3=>?_);refine ⟨_,rfl,_,rfl,lP,_,rfl,.inl (SqL.of gP),?_⟩;rw [A0,lrp];refine ⟨d,c,t3+1,ms4,_,rfl,S6,(by show t3+1<=1000000000;lia),by lia,by lia,fun j ms5 H7 j0 j1 S7 K7=>?_⟩
   have gP7:=K7 _ _ gP nP.1 nP.2;have NP7:NetL H7 rp tsP:=Paired.mapP NP fun r z e=>K7 _ _ e (S6.tup e).1 (S6.tup e).2;have hN7:=((hN4.same s5).same s6).keep S6 K7;refine hM3 _ _ ?_;refine ⟨_,rfl,_,rfl,_,rfl,lP,_,rfl,SqL.of gP7,fun l1 hl1=>?_⟩;have u1:=qA2 hl1 (.lst (cutV (rp.map V.ref) (some j) none));refine ⟨_,rfl,_,rfl,_,rfl,lP,_,rfl,SqL.of (u1 _ _ gP7),fun l2 hl2=>?_⟩;have u2:=qA2 hl2 (.lst (cutV (rp.map V.ref) none (some j)));have c1:=qE9 (rp.map V.ref) (some j) none;have c2:=qE9 (rp.map V.ref) none (some j);rw [A0] at c1 c2;refine ⟨l1,l2,_,_,rfl,rfl,u2 _ _ qA1,qA1,by rw [B66];lia,fun l3 hl3=>?_⟩
   have u3:=qA2 hl3 (.lst (cutV (rp.map V.ref) (some j) none++cutV (rp.map V.ref) none (some j)));refine ⟨_,rfl,l3,_,rfl,SqL.of qA1,fun l4 hl4=>?_⟩;have inn:∀ x ∈ cutV (cutV (rp.map V.ref) (some j) none++cutV (rp.map V.ref) none (some j)) none (some 4),x ∈ rp.map V.ref:=fun x hx=>(B7.mp (qLE hx)).elim qLE qLE;generalize cutV (cutV (rp.map V.ref) (some j) none++cutV (rp.map V.ref) none (some j)) none (some 4)=xs at inn;have u4:=qA2 hl4 (.lst xs);have U:=u1.trans (u2.trans (u3.trans u4));have g4:=qA1 (H:=Ag (Ag (Ag H7 l1 (.lst (cutV (rp.map V.ref) (some j) none))) l2 (.lst (cutV (rp.map V.ref) none (some j)))) l3 (.lst (cutV (rp.map V.ref) (some j) none++cutV (rp.map V.ref) none (some j)))) (a:=l4) (o:=.lst xs);generalize Ag (Ag (Ag (Ag H7 l1 (.lst (cutV (rp.map V.ref) (some j) none))) l2 (.lst (cutV (rp.map V.ref) none (some j)))) l3 (.lst (cutV (rp.map V.ref) (some j) none++cutV (rp.map V.ref) none (some j)))) l4 (.lst xs)=H8 at U g4 ⊢;refine ⟨l4,rfl,⟨_,SqL.of g4⟩,qE3 (a:=l4) (xs:=xs) (fun k σ Hd=>∃ v7:Option V,σ=[some (.ref sc),some (.ref d),some (.int (0+(i:Int))),some (.ref a),some (.int wk),some (.ref lP),some (.int j),v7,none,none]/\Same H8 Hd)
    ⟨v7,rfl,.refl _⟩ (fun k σ Hd _ hP=>by obtain ⟨_,_,sd⟩:=hP;exact SqL.of (sd _ _ g4)) ?_ ?_⟩
   ·refine fun k x σ Hd hx hI_2=>opq fun G_2 hG_2=>?_;obtain ⟨v7,rfl,sd⟩:=hI_2;obtain ⟨r,hr1,rfl⟩:=D7.mp (inn x (B6 hx));obtain ⟨kr,ekr⟩:=L7 hr1;obtain ⟨path,epa,gtp⟩:=qBA NP7 ekr;obtain ⟨pne,R⟩:=pr path (B6 epa);refine hG_2 ?_;have lpa:=R.len;have UU:=U.trans sd;refine nmI fun D2 e1 er=>?_;refine ⟨_,rfl,_,rfl,a,r,Ae,path,rfl,⟨hN7.same UU,wf,by lia,UU _ _ gtp,pne,by lia,R.in_⟩,by lia,by lia,fun He se=>?_⟩
    refine ⟨_,rfl,?_⟩;exact e1 _ _ ⟨_,rfl,sd.trans se⟩
   ·refine fun σ Hd hI_3=>opq fun G_3 hG_3=>?_;obtain ⟨v7,rfl,sd⟩:=hI_3;refine hG_3 ?_;exact d1 _ _ ⟨t3+1+1,ms5,_,_,_,_,_,_,rfl,S7.same (U.trans sd),by lia⟩
  ·exact d1 _ _ ⟨t3+1,ms4,_,_,_,_,_,_,rfl,S5.same s5,by lia⟩
 ·refine fun σ Hc hI_4=>opq fun G_4 hG_4=>?_;obtain ⟨t,ms,v2,v3,v4,v5,v6,v7,rfl,S2,t1⟩:=hI_4;refine hG_4 ?_;have t1:t<=4000:=by lia
  refine hN1 _ _ (cut fun N2 hN2=>?_);refine ⟨_,rfl,(by show 2<=B59;decide),fun p hp=>?_⟩
  have sp:=qA2 hp (.lst [.int 5,.int 17]);have gp:(Ag Hc p (.lst [.int 5,.int 17])) p=some (.lst [.int 5,.int 17]):=qA1;generalize Ag Hc p (.lst [.int 5,.int 17])=H2 at sp gp ⊢;have S3:=S2.same sp;have np:p ≠ d/\p ≠ c:=⟨(qA5 S2.dict (by assumption)).symm,(qA5 S2.list (by assumption)).symm⟩
  refine ⟨_,rfl,d,c,t,ms,8,rfl,S3,(by show t<=1000000000;lia),by decide,by decide,fun k ms3 H3 k0 k1 S4 K3=>⟨_,_,rfl,rfl,⟨by decide,by decide⟩,?_⟩⟩
  obtain ⟨m,hm,m1,m17⟩:=qY5 k0 k1;refine ⟨p,_,_,_,rfl,rfl,SqL.of (K3 _ _ gp np.1 np.2),hm,?_⟩;refine ⟨d,c,t+1,ms3,m,rfl,S4,(by show t+1<=1000000000;lia),m1,by lia,fun k2 ms4 H4 b0 b1 S5 K4=>⟨_,_,rfl,rfl,?_⟩⟩
  obtain ⟨mm,em⟩:∃ mm:Nat,2+k2=(mm:Int):=⟨(2+k2).toNat,by lia⟩
  dsimp only;rw [em];refine hN2 _ _ (cut fun N3 hN3=>?_);refine ⟨_,rfl,_,rfl,d,c,t+1+1,ms4,mm,rfl,S5,(by show t+1+1<=1000000000 - 100;lia),by lia,by lia,fun a ks t5 ms5 H5 S6 g1 g2 K5 hN lk nk bk=>?_⟩
  have wf:=qXH lk bk;have ln:=qHE lk;refine hN3 _ _ (cut fun N4 hN4=>?_);have tup:∀ {T:Addr} {Hx:Hp},Same H5 Hx->Hx T=some (.tup [.int (mm:Int),.int (2 * (mm:Int)+1)])->qDA Hx a T (chN mm ks) [(mm:Int),2 * (mm:Int)+1]:=fun {T Hx} sx gT=>⟨hN.same sx,wf,by lia,gT,by simp,by show 2<=400;decide,fun x hx=>by rw [ln];simp at hx;lia⟩
  refine ⟨_,rfl,_,rfl,_,rfl,_,_,rfl,rfl,.inl ⟨by decide,by decide⟩,_,_,rfl,rfl,(by show 2<=B59;decide),fun T hT=>?_⟩
  have sT:=qA2 hT (.tup [.int (mm:Int),.int (2 * (mm:Int)+1)]);refine ⟨a,T,_,_,rfl,tup sT qA1,by lia,fun l rs ts H6 s6 fl6 gl TT SO=>?_⟩
  have cnt:=qWD lk nk bk SO;refine ⟨l,_,rfl,.inl (SqL.of gl),_,rfl,?_⟩;rw [A0,C6 TT,cnt];refine ⟨rfl,_,rfl,?_⟩;rw [decide_eq_true rfl];refine ⟨_,rfl,_,rfl,_,rfl,_,_,rfl,rfl,.inl ⟨by decide,by decide⟩,_,_,rfl,rfl,(by show 2<=B59;decide),fun T2 hT2=>?_⟩
  have sT2:=sT.trans (s6.trans (qA2 hT2 (.tup [.int (mm:Int),.int (2 * (mm:Int)+1)])));refine ⟨a,T2,_,_,rfl,tup sT2 qA1,by lia,(by show 2<=60;decide),fun H7 s7=>?_⟩
  refine ⟨_,rfl,?_⟩;have S7:=S6.same (sT2.trans s7);clear tup TT SO gl sT2 sT;refine hN4 _ _ (cut fun N5 hN5=>?_);refine ⟨_,rfl,d,c,t5,ms5,4,rfl,S7,(by show t5<=1000000000;lia),by decide,by decide,fun k3 ms8 H8 e0 e1 S8 K8=>⟨_,_,rfl,rfl,?_⟩⟩
  obtain ⟨dp,ed⟩:∃ dp:Nat,1+k3=(dp:Int):=⟨(1+k3).toNat,by lia⟩
  dsimp only;rw [ed];have d1:1<=dp:=by lia
  have d4:dp<=4:=by lia
  refine hN5 _ _ (cut fun N6 hN6=>?_);refine ⟨_,rfl,dp,rfl,d1,d4,fun a2 H9 s9 hN9=>?_⟩;have wf9:=qbF d1 d4;have p4:2 ^ dp<=16:=M5 (V4 (by decide) d4) (by decide)
  have p1:1<=2 ^ dp:=y8;have l9:(ftN dp).length=2 ^ dp+(2 ^ dp - 1):=qO7 dp _;have rt:((ftN dp).length:Int) - 1=(2:Int) ^ (dp+1) - 2:=by
   rw [l9,Int.pow_succ,show (2:Int) ^ dp=((2 ^ dp:Nat):Int) by simp]
   lia
  have rt2:((ftN dp).length:Int) - 1=2 * ((2 ^ dp:Nat):Int) - 2:=by rw [l9];lia
  obtain ⟨ra,hA,NL⟩:=id hN9;have lra:=C6 NL;refine hN6 _ _ (cut fun N7 hN7=>?_);refine ⟨_,rfl,_,rfl,a2,_,rfl,.inr (SqT.of hA),_,_,rfl,rfl,?_⟩;dsimp only;rw [A0,lra];obtain ⟨mp,cl⟩:=qYZ d1 d4;rw [<- rt] at mp cl;refine ⟨a2,_,_,rfl,hN9,wf9,by lia,by lia,by lia,cl,fun lP tsP H10 s10 fl10 TL SP _ _=>?_⟩
  obtain ⟨rp,gP,NP⟩:=TL;obtain ⟨q1,pr⟩:=SP.some wf9 (by lia) (by lia)
  have lrp:=C6 NP;have ltp:tsP.length=2 ^ dp:=by rw [SP.1.length_eq,mp]
  have S9:=S8.same s9;have S10:=S9.same s10;have nP:lP ≠ d/\lP ≠ c:=⟨(qA5 S9.dict fl10).symm,(qA5 S9.list fl10).symm⟩;have sh:(1:Int) * 2 ^ ((dp:Int)).toNat=((2 ^ dp:Nat):Int):=by rw [A73,K9];simp
  refine ⟨_,rfl,_,rfl,_,_,rfl,rfl,⟨by lia,by lia,by decide⟩,?_⟩
  dsimp only;rw [sh];refine ⟨d,c,t5+1,ms8,_,rfl,S10,(by show t5+1<=1000000000;lia),by lia,by lia,fun k4 ms11 H11 f0 f1 S11 K11=>?_⟩
  obtain ⟨tp,etp⟩:∃ tp,rp[k4.toNat]?=some tp:=⟨_,A7 (by lia)⟩
  obtain ⟨path,epa,gtp⟩:=qBA NP etp;obtain ⟨pne,R⟩:=pr path (B6 epa);have lpa:=R.len;have gt11:=K11 _ _ gtp (S10.tup gtp).1 (S10.tup gtp).2;have hp:path ∈ aP (ftN dp) [(2:Int) ^ (dp+1) - 2]:=by rw [<- rt];exact SP.1.mem_iff.mp (B6 epa)
  have PI:qDA H11 a2 tp (ftN dp) path:=⟨(hN9.same s10).keep S10 K11,wf9,by lia,gt11,pne,by lia,R.in_⟩
  refine ⟨lP,_,k4,_,rfl,rfl,SqL.of (K11 _ _ gP nP.1 nP.2),qD6 f0 (x:=.ref tp) (by rw [C4,etp];rfl),?_⟩
  refine hN7 _ _ ?_;refine ⟨_,rfl,_,rfl,a2,tp,_,path,rfl,PI,by lia,fun l2 rs2 ts2 H12 s12 fl12 gl2 TT2 SO2=>?_⟩
  have cn2:=qW4 d1 d4 hp SO2;refine ⟨l2,_,rfl,.inl (SqL.of gl2),_,rfl,?_⟩;rw [A0,C6 TT2,cn2];refine ⟨rfl,_,rfl,?_⟩;rw [decide_eq_true rfl];obtain ⟨i1,i2,i3,i4,i5,i6,i7⟩:=PI;refine ⟨_,rfl,_,rfl,a2,tp,_,path,rfl,⟨i1.same s12,i2,i3,s12 _ _ i4,i5,i6,i7⟩,by lia,by lia,fun H13 s13=>?_⟩
  exact q H13
end
theorem all_mk {l:PySem.W.OpenLaw} {w:World} {K:PySem.W.Frag} {h:Heap} {mg:Str->Option Value} {fa qE5 qE6 qFB qD7 qGW qCR qIH qCA qET qCK qE7 qPX qLA qCL qFC qHS qFD qD9 qCM qD8 qFE qIF qIG qZ0:Addr} (X:K.In h) (G:h.Ns B63 mg) (hfa:mg "law" = some (.ref fa))
  {qaP qXM:Option Addr} {qZY:Array (Option Value)} {qaQ qX5 qXE qWX qU5 qXF:Value}
  {tk_GOAL:Tok} (a_GOAL:D4 K B63 "GOAL" = some (some (.int (-2) tk_GOAL)))
  {tk_SOURCE:Tok} (a_SOURCE:D4 K B63 "SOURCE" = some (some (.int (-1) tk_SOURCE)))
  (qG5:D4 K B63 "side_ends" = some (some (.ref qE5))) (F_side_ends:∃ fd,Fun K "side_ends" "side_ends" qDU qE5 fd)
  (qG6:D4 K B63 "free_ways" = some (some (.ref qE6))) (F_free_ways:∃ fd,Fun K "free_ways" "free_ways" qDV qE6 fd)
  (qHG:D4 K B63 "way_back" = some (some (.ref qFB))) (F_way_back:∃ fd,Fun K "way_back" "way_back" qF2 qFB fd)
  (qEX:D4 K B63 "turn_round" = some (some (.ref qD7))) (F_turn_round:∃ fd,Fun K "turn_round" "turn_round" qD0 qD7 fd)
  (qJN:D4 K B63 "side_to" = some (some (.ref qGW))) (F_side_to:∃ fd,Fun K "side_to" "side_to" qGB qGW fd)
  (qHH:D4 K B63 "sides_of" = some (some (.ref qCR))) (F_sides_of:∃ fd,Fun K "sides_of" "sides_of" qF3 qCR fd)
  (qLQ:D4 K B63 "_law_begin" = some (some (.ref qIH))) (F_Lbegin:∃ fd,Fun K "_law_begin" "_law_begin" qIA qIH fd)
  (qOK:D4 K B63 "_law_take" = some (some (.ref qCA))) (F_Ltake:∃ fd,Fun K "_law_take" "_law_take" qKS qCA fd)
  (qOL:D4 K B63 "_law_same" = some (some (.ref qET))) (F_Lsame:∃ fd,Fun K "_law_same" "_law_same" qIS qET fd)
  (qEA:D4 K B63 "_law_some_needs" = some (some (.ref qCK))) (F_Lsome_needs:∃ fd,Fun K "_law_some_needs" "_law_some_needs" qCG qCK fd)
  (qG7:D4 K B63 "_law_tree_net" = some (some (.ref qE7))) (F_Ltree_net:∃ fd,Fun K "_law_tree_net" "_law_tree_net" qDW qE7 fd)
  (qUK:D4 K B63 "_law_net" = some (some (.ref qPX))) (F_Lnet:∃ fd,Fun K "_law_net" "_law_net" qP6 qPX fd)
  (qOM:D4 K B63 "_law_many" = some (some (.ref qLA))) (F_Lmany:∃ fd,Fun K "_law_many" "_law_many" qKT qLA fd)
  (qEB:D4 K B63 "_law_path_count" = some (some (.ref qCL))) (F_Lpath_count:∃ fd,Fun K "_law_path_count" "_law_path_count" qCH qCL fd)
  (qLO:D4 K B63 "_law_paths" = some (some (.ref qFC))) (F_Lpaths:∃ fd,Fun K "_law_paths" "_law_paths" qI8 qFC fd)
  (qUL:D4 K B63 "_law_hit" = some (some (.ref qHS))) (F_Lhit:∃ fd,Fun K "_law_hit" "_law_hit" qP7 qHS fd)
  (qHI:D4 K B63 "_law_is_side" = some (some (.ref qFD))) (F_Lis_side:∃ fd,Fun K "_law_is_side" "_law_is_side" qF4 qFD fd)
  (qEZ:D4 K B63 "_law_are_sides" = some (some (.ref qD9))) (F_Lare_sides:∃ fd,Fun K "_law_are_sides" "_law_are_sides" qD2 qD9 fd)
  (qEC:D4 K B63 "_law_most_sides" = some (some (.ref qCM))) (F_Lmost_sides:∃ fd,Fun K "_law_most_sides" "_law_most_sides" qCI qCM fd)
  (qEY:D4 K B63 "_law_full_tree" = some (some (.ref qD8))) (F_Lfull_tree:∃ fd,Fun K "_law_full_tree" "_law_full_tree" qD1 qD8 fd)
  (qHJ:D4 K B63 "_law_is_full" = some (some (.ref qFE))) (F_Lis_full:∃ fd,Fun K "_law_is_full" "_law_is_full" qF5 qFE fd)
  (qLN:D4 K B63 "_law_right" = some (some (.ref qIF))) (F_Lright:∃ fd,Fun K "_law_right" "_law_right" qI7 qIF fd)
  (qLP:D4 K B63 "_law_chain" = some (some (.ref qIG))) (F_Lchain:∃ fd,Fun K "_law_chain" "_law_chain" qI9 qIG fd)
  (qZI:D4 K B63 "law" = some (some (.ref qZ0))) (qYQ:K.lookup qZ0=some ⟨qaQ,qaP,.func (Y5 "law" "law" (qHC qJO) (qG3 qJO) (qAI qJO) .none qX5 qXE qWX qXM qU5 qXF),qZY⟩) (qZD:y9 K qU5 "law" = true) (qYS:Q8 K (.ref qZ0)=true)
  (qFU:D4 K B63 "all" = some none)
  (qKM:D4 K B63 "any" = some none)
  (qEK:D4 K B63 "bool" = some none)
  (qF1:D4 K B63 "divmod" = some none)
  (qBC:D4 K B63 "enumerate" = some none)
  (qEI:D4 K B63 "int" = some none)
  (qAA:D4 K B63 "isinstance" = some none)
  (qB6:D4 K B63 "len" = some none)
  (qB5:D4 K B63 "list" = some none)
  (qH1:D4 K B63 "max" = some none)
  (qHX:D4 K B63 "min" = some none)
  (qAT:D4 K B63 "range" = some none)
  (qFT:D4 K B63 "set" = some none)
  (qB1:D4 K B63 "sorted" = some none)
  (qKL:D4 K B63 "str" = some none)
  (qKK:D4 K B63 "sum" = some none)
  (qAJ:D4 K B63 "tuple" = some none)
  (qG9:D4 K B63 "zip" = some none)
  : ∃ fd:B65,(∀ (s:Shared) (v:Value),BindsTo s fd ⟨[v],[]⟩ [("_law_script",v)])/\∀ base:Heap,K.In base->base.Ns B63 mg->FnOk l.prog w K mg base CX0 6 fa fd ["_law_script"] (qUW K):=by
 have e:=hfa.symm.trans (F7 X G qZI);cases e;obtain ⟨qHP,F_side_ends⟩:=F_side_ends;have qOF:=F_side_ends.binds (ps:=["net","path"]) fun _ _ _ _ _ _ us hl=>us2 us hl (fun _ _=>rfl);have qO0:=F7 X G qG5;obtain ⟨qHQ,F_free_ways⟩:=F_free_ways;have qOG:=F_free_ways.binds (ps:=["net","path"]) fun _ _ _ _ _ _ us hl=>us2 us hl (fun _ _=>rfl);have qO1:=F7 X G qG6;obtain ⟨qJB,F_way_back⟩:=F_way_back;have qR7:=F_way_back.binds (ps:=["ways"]) fun _ _ _ _ _ _ us hl=>us1 us hl (fun _=>rfl);have qQM:=F7 X G qHG;obtain ⟨qGR,F_turn_round⟩:=F_turn_round;have qNA:=F_turn_round.binds (ps:=["ways","stops"]) fun _ _ _ _ _ _ us hl=>us2 us hl (fun _ _=>rfl);have qMG:=F7 X G qEX;obtain ⟨qKE,F_side_to⟩:=F_side_to;have qUG:=F_side_to.binds (ps:=["ways","work"]) fun _ _ _ _ _ _ us hl=>us2 us hl (fun _ _=>rfl);have qSV:=F7 X G qJN;obtain ⟨qE4,F_sides_of⟩:=F_sides_of;have qR8:=F_sides_of.binds (ps:=["net","path"]) fun _ _ _ _ _ _ us hl=>us2 us hl (fun _ _=>rfl);have qQN:=F7 X G qHH;obtain ⟨qMY,F_Lbegin⟩:=F_Lbegin;have qWH:=F_Lbegin.binds (ps:=["_law_script"]) fun _ _ _ _ _ _ us hl=>us1 us hl (fun _=>rfl);have qVL:=F7 X G qLQ;obtain ⟨qC4,F_Ltake⟩:=F_Ltake;have qZE:=F_Ltake.binds (ps:=["_law_state","_law_many_here"]) fun _ _ _ _ _ _ us hl=>us2 us hl (fun _ _=>rfl);have qYI:=F7 X G qOK;obtain ⟨qGS,F_Lsame⟩:=F_Lsame;have qG4:=F_Lsame.binds (ps:=["_law_found","_law_due"]) fun _ _ _ _ _ _ us hl=>us2 us hl (fun _ _=>rfl);have qG1:=F7 X G qOL;obtain ⟨qFN,F_Lsome_needs⟩:=F_Lsome_needs;have qLJ:=F_Lsome_needs.binds (ps:=["_law_state","_law_k"]) fun _ _ _ _ _ _ us hl=>us2 us hl (fun _ _=>rfl);have qL1:=F7 X G qEA;obtain ⟨qHR,F_Ltree_net⟩:=F_Ltree_net;have qOH:=F_Ltree_net.binds (ps:=["_law_state","_law_many_here"]) fun _ _ _ _ _ _ us hl=>us2 us hl (fun _ _=>rfl);have qO2:=F7 X G qG7;obtain ⟨qTM,F_Lnet⟩:=F_Lnet;have qbM:=F_Lnet.binds (ps:=["_law_state","_law_many_here"]) fun _ _ _ _ _ _ us hl=>us2 us hl (fun _ _=>rfl);have qaT:=F7 X G qUK;obtain ⟨qPW,F_Lmany⟩:=F_Lmany;have qZF:=F_Lmany.binds (ps:=["_law_state","_law_most"]) fun _ _ _ _ _ _ us hl=>us2 us hl (fun _ _=>rfl);have qYJ:=F7 X G qOM;obtain ⟨qFO,F_Lpath_count⟩:=F_Lpath_count;have qLK:=F_Lpath_count.binds (ps:=["_law_net_here","_law_work"]) fun _ _ _ _ _ _ us hl=>us2 us hl (fun _ _=>rfl);have qL2:=F7 X G qEB;obtain ⟨qGT,F_Lpaths⟩:=F_Lpaths;have qWF:=F_Lpaths.binds (ps:=["_law_net_here","_law_work"]) fun _ _ _ _ _ _ us hl=>us2 us hl (fun _ _=>rfl);have qVJ:=F7 X G qLO;obtain ⟨qHB,F_Lhit⟩:=F_Lhit;have qbN:=F_Lhit.binds (ps:=["_law_net_here","_law_path"]) fun _ _ _ _ _ _ us hl=>us2 us hl (fun _ _=>rfl);have qaU:=F7 X G qUL;obtain ⟨qJC,F_Lis_side⟩:=F_Lis_side;have qR9:=F_Lis_side.binds (ps:=["_law_net_here","_law_path","_law_thing"]) fun _ _ _ _ _ _ us hl=>us3 us hl (fun _ _ _=>rfl);have qQO:=F7 X G qHI;obtain ⟨qGV,F_Lare_sides⟩:=F_Lare_sides;have qNC:=F_Lare_sides.binds (ps:=["_law_net_here","_law_path","_law_thing"]) fun _ _ _ _ _ _ us hl=>us3 us hl (fun _ _ _=>rfl);have qMI:=F7 X G qEZ;obtain ⟨qFP,F_Lmost_sides⟩:=F_Lmost_sides;have qLL:=F_Lmost_sides.binds (ps:=["_law_net_here","_law_path"]) fun _ _ _ _ _ _ us hl=>us2 us hl (fun _ _=>rfl);have qL3:=F7 X G qEC;obtain ⟨qGU,F_Lfull_tree⟩:=F_Lfull_tree;have qNB:=F_Lfull_tree.binds (ps:=["_law_deep"]) fun _ _ _ _ _ _ us hl=>us1 us hl (fun _=>rfl);have qMH:=F7 X G qEY;obtain ⟨qJD,F_Lis_full⟩:=F_Lis_full;have qRA:=F_Lis_full.binds (ps:=["_law_net_here","_law_path","_law_sides"]) fun _ _ _ _ _ _ us hl=>us3 us hl (fun _ _ _=>rfl);have qQP:=F7 X G qHJ;obtain ⟨qMW,F_Lright⟩:=F_Lright;have qWE:=F_Lright.binds (ps:=["_law_net_here","_law_path"]) fun _ _ _ _ _ _ us hl=>us2 us hl (fun _ _=>rfl);have qVI:=F7 X G qLN;obtain ⟨qMX,F_Lchain⟩:=F_Lchain;have qWG:=F_Lchain.binds (ps:=["_law_state","_law_many_here"]) fun _ _ _ _ _ _ us hl=>us2 us hl (fun _ _=>rfl);have qVK:=F7 X G qLP;have qcQ:=fun_mk (st:=qJO) qYQ qZD qYS;have m_GOAL:=F7 X G a_GOAL;have m_SOURCE:=F7 X G a_SOURCE;have qRI:=F3 X G qFU;have qWO:=F3 X G qKM;have qRH:=F3 X G qEK;have qRG:=F3 X G qF1;have qHK:=F3 X G qBC;have qOO:=F3 X G qEI;have qDS:=F3 X G qAA;have qG8:=F3 X G qB6;have qFS:=F3 X G qB5;have qRF:=F3 X G qH1;have qRE:=F3 X G qHX;have qF0:=F3 X G qAT;have qON:=F3 X G qFT;have qEJ:=F3 X G qB1;have qZL:=F3 X G qKL;have qWN:=F3 X G qKK;have qDR:=F3 X G qAJ;have qRD:=F3 X G qG9;refine ⟨Y5 "law" "law" (qHC qJO) (qG3 qJO) (qAI qJO) .none qX5 qXE qWX qXM qU5 qXF,fun s v=>.of_eq rfl,fun base _ _=>?_⟩;have qED:=Clb.mk (ok_side_ends (P:=l.prog) (w:=w) (mg:=mg) (base:=base) (F:=F_side_ends)) qOF F_side_ends.kp qO0;have qEE:=Clb.mk (ok_free_ways (P:=l.prog) (w:=w) (mg:=mg) (base:=base) (F:=F_free_ways) (qED:=qED) (qBC:=qHK) (m_SOURCE:=m_SOURCE) (m_GOAL:=m_GOAL)) qOG F_free_ways.kp qO1;have qDQ:=Clb.mk (ok_way_back (P:=l.prog) (w:=w) (mg:=mg) (base:=base) (F:=F_way_back) (m_SOURCE:=m_SOURCE) (m_GOAL:=m_GOAL)) qR7 F_way_back.kp qQM;have qDB:=Clb.mk (ok_turn_round (P:=l.prog) (w:=w) (mg:=mg) (base:=base) (F:=F_turn_round) (qG9:=qRD)) qNA F_turn_round.kp qMG;have qH0:=Clb.mk (ok_side_to (P:=l.prog) (w:=w) (mg:=mg) (base:=base) (F:=F_side_to) (m_SOURCE:=m_SOURCE)) qUG F_side_to.kp qSV;have qBH:=Clb.mk (ok_sides_of (P:=l.prog) (w:=w) (mg:=mg) (base:=base) (F:=F_sides_of) (qEE:=qEE) (qDQ:=qDQ) (qDB:=qDB) (qH0:=qH0) (qB1:=qEJ) (m_GOAL:=m_GOAL)) qR8 F_sides_of.kp qQN;have qIM:=Clb.mk (ok_Lbegin (P:=l.prog) (w:=w) (mg:=mg) (base:=base) (F:=F_Lbegin) (qB5:=qFS)) qWH F_Lbegin.kp qVL;have qAN:=Clb.mk (ok_Ltake (P:=l.prog) (w:=w) (mg:=mg) (base:=base) (F:=F_Ltake) (qF1:=qRG) (qB6:=qG8)) qZE F_Ltake.kp qYI;have qLR:=Clb.mk (ok_Lsame (P:=l.prog) (w:=w) (mg:=mg) (base:=base) (F:=F_Lsame) (qG4:=qG4) (qL7:=F_Lsame.kp) (qG1:=qG1) (n:=3) (qFU:=qRI) (qEK:=qRH) (qEI:=qOO) (qAA:=qDS) (qB6:=qG8) (qB5:=qFS) (qKL:=qZL) (qAJ:=qDR) (qG9:=qRD)) qG4 F_Lsame.kp qG1;have qC6:=Clb.mk (ok_Lsome_needs (P:=l.prog) (w:=w) (mg:=mg) (base:=base) (F:=F_Lsome_needs) (qAN:=qAN) (qHX:=qRE) (qAT:=qF0) (qFT:=qON) (qB1:=qEJ) (qAJ:=qDR)) qLJ F_Lsome_needs.kp qL1;have qEF:=Clb.mk (ok_Ltree_net (P:=l.prog) (w:=w) (mg:=mg) (base:=base) (F:=F_Ltree_net) (qAN:=qAN) (qB6:=qG8) (qHX:=qRE) (qAT:=qF0) (qAJ:=qDR)) qOH F_Ltree_net.kp qO2;have qQA:=Clb.mk (ok_Lnet (P:=l.prog) (w:=w) (mg:=mg) (base:=base) (F:=F_Lnet) (qAN:=qAN) (qEF:=qEF) (qC6:=qC6) (qBC:=qHK) (qEI:=qOO) (qH1:=qRF) (qAT:=qF0) (qFT:=qON) (qB1:=qEJ) (qAJ:=qDR)) qbM F_Lnet.kp qaT;have qLS:=Clb.mk (ok_Lmany (P:=l.prog) (w:=w) (mg:=mg) (base:=base) (F:=F_Lmany) (qAN:=qAN)) qZF F_Lmany.kp qYJ;have qCO:=Clb.mk (ok_Lpath_count (P:=l.prog) (w:=w) (mg:=mg) (base:=base) (F:=F_Lpath_count) (qH1:=qRF) (qKK:=qWN)) qLK F_Lpath_count.kp qL2;have qCN:=Clb.mk (ok_Lpaths (P:=l.prog) (w:=w) (mg:=mg) (base:=base) (F:=F_Lpaths) (qB1:=qEJ)) qWF F_Lpaths.kp qVJ;have qEH:=Clb.mk (ok_Lhit (P:=l.prog) (w:=w) (mg:=mg) (base:=base) (F:=F_Lhit) (qFT:=qON) (qB1:=qEJ)) qbN F_Lhit.kp qaU;have qFH:=Clb.mk (ok_Lis_side (P:=l.prog) (w:=w) (mg:=mg) (base:=base) (F:=F_Lis_side) (qEH:=qEH) (qFU:=qRI) (qKM:=qWO) (qEK:=qRH) (qEI:=qOO) (qAA:=qDS) (qB6:=qG8) (qAJ:=qDR) (qG9:=qRD)) qR9 F_Lis_side.kp qQO;have qDD:=Clb.mk (ok_Lare_sides (P:=l.prog) (w:=w) (mg:=mg) (base:=base) (F:=F_Lare_sides) (qFH:=qFH) (qFU:=qRI) (qAA:=qDS) (qB6:=qG8) (qB5:=qFS) (qFT:=qON)) qNC F_Lare_sides.kp qMI;have qCP:=Clb.mk (ok_Lmost_sides (P:=l.prog) (w:=w) (mg:=mg) (base:=base) (F:=F_Lmost_sides) (qEH:=qEH) (qCN:=qCN) (qKM:=qWO) (qB5:=qFS) (qH1:=qRF) (qKK:=qWN)) qLL F_Lmost_sides.kp qL3;have qDC:=Clb.mk (ok_Lfull_tree (P:=l.prog) (w:=w) (mg:=mg) (base:=base) (F:=F_Lfull_tree) (qB6:=qG8) (qB5:=qFS) (qAT:=qF0) (qAJ:=qDR)) qNB F_Lfull_tree.kp qMH;have qFI:=Clb.mk (ok_Lis_full (P:=l.prog) (w:=w) (mg:=mg) (base:=base) (F:=F_Lis_full) (qEH:=qEH)) qRA F_Lis_full.kp qQP;have qFG:=Clb.mk (ok_Lright (P:=l.prog) (w:=w) (mg:=mg) (base:=base) (F:=F_Lright) (qBH:=qBH) (qFI:=qFI) (qDD:=qDD) (qCP:=qCP) (qLR:=qLR) (qB6:=qG8) (qB5:=qFS)) qWE F_Lright.kp qVI;have qIL:=Clb.mk (ok_Lchain (P:=l.prog) (w:=w) (mg:=mg) (base:=base) (F:=F_Lchain) (qAN:=qAN) (qB6:=qG8) (qB5:=qFS) (qAT:=qF0) (qAJ:=qDR)) qWG F_Lchain.kp qVK;exact ok_law (P:=l.prog) (w:=w) (mg:=mg) (base:=base) (F:=qcQ) (qIM:=qIM) (qQA:=qQA) (qLS:=qLS) (qAN:=qAN) (qCO:=qCO) (qCN:=qCN) (qFG:=qFG) (qIL:=qIL) (qBH:=qBH) (qDC:=qDC) (qEI:=qOO) (qB6:=qG8) (qHX:=qRE) (qAT:=qF0)
theorem walk {l:PySem.W.OpenLaw} {q:B60} {loose:List Str} {XP:(Str->Option Value)->Heap->Prop} {YP:World->Heap->Prop} {d:DefRec} {K:Params->PySem.W.Frag} (hn:l.most=some 63) (hdf:d.params.defaults=[])
  (hY:∀ (w:World) (h:Heap),YP w h->(K w.params).In h)
  (F:∀ (w:World) (mg:Str->Option Value) (fa:Addr) (h:Heap),(K w.params).In h->h.Ns B63 mg->mg d.name=some (.ref fa)->
   ∃ fd:B65,(∀ (s:Shared) (u:Value),BindsTo s fd ⟨[u],[]⟩ [("_law_script",u)])/\∀ base:Heap,(K w.params).In base->base.Ns B63 mg->FnOk l.prog w (K w.params) mg base CX0 6 fa fd ["_law_script"] (qUW (K w.params))) :
  PySem.W.WalkO q loose XP YP l.row.toRowW d [] (fun f vs=>B35 f vs):=
 L2.walk_of (n:=63) (k:=6) (x:="_law_script") (CX:=fun _=>CX0) (sp:=fun w=>qUW (K w.params)) hn (by decide) hdf ⟨rfl,by decide,by decide,rfl⟩ hY F (fun _ _ a ns hl _ hS=>⟨a,ns,rfl,hS,hl,fun _=>rfl⟩) fun _ _ _ _ _ z=>z
end Fw
open PySem PySem.W PyProof.Rows
set_option maxRecDepth 100000 in
set_option maxHeartbeats 0 in
theorem PySem.Challenge.cw_fewrooms_k37_sides_of_paths_holds : PySem.Challenge.rw_fewrooms_k37_sides_of_paths.Holds := by
 w_on;refine holds_law Fw.hpSaid fun said=>?_
 refine holds_open (q:=Fw.hpQ) (Xt:=Fw.hpX) (XP:=XL Fw.hpQ []) (YP:=(kHook Fw.hpK Fw.hpA Fw.hpE).says)
  Fw.hpLeft (kHook Fw.hpK Fw.hpA Fw.hpE).of (kHook Fw.hpK Fw.hpA Fw.hpE).keeps (fun s e=>xl_of s (A62.mp e).1) XL.keeps
  (by rfl) (by rfl) (by rfl) (fun s e=>recFacts_of (A62.mp e).2) (by rfl)
  (by first | assumption | decide +kernel) (by decide +kernel) ⟨rfl,rfl,rfl,rfl,rfl,by decide +kernel⟩ ?hw ?hc
 case hw=>w_witness2
 k_fill
 refine Fw.walk (l:=PySem.Challenge.rw_fewrooms_k37_sides_of_paths) rfl rfl (fun w h Y=>PySem.W.kIn_of Y) ?F
 case F=>
  intro w mg fa h KX G hmg;refine' Fw.all_mk KX G hmg ?a_GOAL ?a_SOURCE ?qG5 ?F_side_ends ?qG6 ?F_free_ways ?qHG ?F_way_back ?qEX ?F_turn_round ?qJN ?F_side_to ?qHH ?F_sides_of ?qLQ ?F_Lbegin ?qOK ?F_Ltake ?qOL ?F_Lsame ?qEA ?F_Lsome_needs ?qG7 ?F_Ltree_net ?qUK ?F_Lnet ?qOM ?F_Lmany ?qEB ?F_Lpath_count ?qLO ?F_Lpaths ?qUL ?F_Lhit ?qHI ?F_Lis_side ?qEZ ?F_Lare_sides ?qEC ?F_Lmost_sides ?qEY ?F_Lfull_tree ?qHJ ?F_Lis_full ?qLN ?F_Lright ?qLP ?F_Lchain ?qZI ?qYQ ?qZD ?qYS ?qFU ?qKM ?qEK ?qF1 ?qBC ?qEI ?qAA ?qB6 ?qB5 ?qH1 ?qHX ?qAT ?qFT ?qB1 ?qKL ?qKK ?qAJ ?qG9
  (case a_GOAL=>k_is)
  (case a_SOURCE=>k_is)
  (case qG5=>k_is)
  (case F_side_ends=>exact ⟨_,L2.fun_mk (by k_is) (by k_is) (by k_is)⟩)
  (case qG6=>k_is)
  (case F_free_ways=>exact ⟨_,L2.fun_mk (by k_is) (by k_is) (by k_is)⟩)
  (case qHG=>k_is)
  (case F_way_back=>exact ⟨_,L2.fun_mk (by k_is) (by k_is) (by k_is)⟩)
  (case qEX=>k_is)
  (case F_turn_round=>exact ⟨_,L2.fun_mk (by k_is) (by k_is) (by k_is)⟩)
  (case qJN=>k_is)
  (case F_side_to=>exact ⟨_,L2.fun_mk (by k_is) (by k_is) (by k_is)⟩)
  (case qHH=>k_is)
  (case F_sides_of=>exact ⟨_,L2.fun_mk (by k_is) (by k_is) (by k_is)⟩)
  (case qLQ=>k_is)
  (case F_Lbegin=>exact ⟨_,L2.fun_mk (by k_is) (by k_is) (by k_is)⟩)
  (case qOK=>k_is)
  (case F_Ltake=>exact ⟨_,L2.fun_mk (by k_is) (by k_is) (by k_is)⟩)
  (case qOL=>k_is)
  (case F_Lsame=>exact ⟨_,L2.fun_mk (by k_is) (by k_is) (by k_is)⟩)
  (case qEA=>k_is)
  (case F_Lsome_needs=>exact ⟨_,L2.fun_mk (by k_is) (by k_is) (by k_is)⟩)
  (case qG7=>k_is)
  (case F_Ltree_net=>exact ⟨_,L2.fun_mk (by k_is) (by k_is) (by k_is)⟩)
  (case qUK=>k_is)
  (case F_Lnet=>exact ⟨_,L2.fun_mk (by k_is) (by k_is) (by k_is)⟩)
  (case qOM=>k_is)
  (case F_Lmany=>exact ⟨_,L2.fun_mk (by k_is) (by k_is) (by k_is)⟩)
  (case qEB=>k_is)
  (case F_Lpath_count=>exact ⟨_,L2.fun_mk (by k_is) (by k_is) (by k_is)⟩)
  (case qLO=>k_is)
  (case F_Lpaths=>exact ⟨_,L2.fun_mk (by k_is) (by k_is) (by k_is)⟩)
  (case qUL=>k_is)
  (case F_Lhit=>exact ⟨_,L2.fun_mk (by k_is) (by k_is) (by k_is)⟩)
  (case qHI=>k_is)
  (case F_Lis_side=>exact ⟨_,L2.fun_mk (by k_is) (by k_is) (by k_is)⟩)
  (case qEZ=>k_is)
  (case F_Lare_sides=>exact ⟨_,L2.fun_mk (by k_is) (by k_is) (by k_is)⟩)
  (case qEC=>k_is)
  (case F_Lmost_sides=>exact ⟨_,L2.fun_mk (by k_is) (by k_is) (by k_is)⟩)
  (case qEY=>k_is)
  (case F_Lfull_tree=>exact ⟨_,L2.fun_mk (by k_is) (by k_is) (by k_is)⟩)
  (case qHJ=>k_is)
  (case F_Lis_full=>exact ⟨_,L2.fun_mk (by k_is) (by k_is) (by k_is)⟩)
  (case qLN=>k_is)
  (case F_Lright=>exact ⟨_,L2.fun_mk (by k_is) (by k_is) (by k_is)⟩)
  (case qLP=>k_is)
  (case F_Lchain=>exact ⟨_,L2.fun_mk (by k_is) (by k_is) (by k_is)⟩)
  (case qZI=>k_is)
  (case qYQ=>k_is)
  (case qZD=>k_is)
  (case qYS=>k_is)
  (case qFU=>k_is)
  (case qKM=>k_is)
  (case qEK=>k_is)
  (case qF1=>k_is)
  (case qBC=>k_is)
  (case qEI=>k_is)
  (case qAA=>k_is)
  (case qB6=>k_is)
  (case qB5=>k_is)
  (case qH1=>k_is)
  (case qHX=>k_is)
  (case qAT=>k_is)
  (case qFT=>k_is)
  (case qB1=>k_is)
  (case qKL=>k_is)
  (case qKK=>k_is)
  (case qAJ=>k_is)
  (case qG9=>k_is)

