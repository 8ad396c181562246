import PyProof.Rows.All
import Wide.All
import OpenK.AllK
import Wide.FinOn
import Lean
import PyProof.EqAt
import PyProof.EqKinds
import PyProof.TupleCall
import PySem.Challenge.RW_fewrooms_k27_fewest_of_all_orders
open Array renaming getElem?_eq_getElem→D2,length_toList→D7,getD_eq_getD_getElem?→F4,getElem?_toList→J6,getElem_toList→Q5,perm_iff_toList_perm→W8,size_zip→X2,forIn_toList→Y4,size_map→y9,toList_append→A03,toList_zip→A41,toList_inj→A42,toList_map→A43,size_push→A54,toList→A75
open Bool renaming false_ne_true→B8,false_eq_true→E1,and_eq_true→O4,eq_iff_iff→R3,or_eq_true→V9,eq_false_iff→Z6,false_and→j8,and_eq_true_iff→x8,and_false→y3,true_and→A12,not_true→A13,not_eq_true'→A30,not_eq_true→A44
open Classical renaming propDecidable→Y6,em→A78
open False renaming elim→V3
open ForInStep renaming yield→O1,done→Z7
open Function renaming comp→n8
open Int renaming le_refl→E6,toNat_natCast→F7,emod_lt_of_pos→T5,emod_nonneg→W0,fdiv_eq_ediv_of_nonneg→i0,fmod_eq_emod_of_nonneg→i4,zero_add→j7,add_zero→t9,natCast_nonneg→A14,add_comm→A35
open List renaming length_map→A0,getElem?_eq_getElem→A1,mem_singleton→A3,getElem?_eq_some_iff→A4,mem_cons_of_mem→A5,mem_cons_self→A6,length_append→A7,size_toArray→A8,map_append→A9,getElem?_map→B1,mem_of_getElem?→B4,mem_cons→B6,map_cons→B9,replicate→C1,length_singleton→C3,take_add_one→C4,length_take→D1,mem_append→D6,getElem?_append_left→D8,mem_map→E2,length_cons→E3,flatten_cons→E9,mem_append_right→F1,pairwise_iff_getElem→F3,getElem?_eq_none→F5,range→F6,zip_cons_cons→F9,take_of_length_le→G0,getElem?_append_right→G1,getElem?_of_mem→G2,pairwise_map→G4,nodup_append→G5,mem_filter→G6,nodup_cons→G7,all_eq_true→G8,replicate_succ→I0,mem_flatten→J2,map_congr_left→K0,reverse_cons→K9,pairwise_cons→L6,take_append_drop→M3,filter_cons→M5,mem_of_mem_take→M7,mem_range→M8,getElem?_zip_eq_some→O2,length_drop→O3,take_append_of_le_length→O5,length_replicate→O6,append_assoc→O7,mem_of_mem_drop→P3,cons_append→P4,map_map→P5,getD_eq_getElem?_getD→P6,lookup_cons_self→P9,forIn_cons→Q0,not_mem_nil→Q1,mem_append_left→Q2,pairwise_append→Q4,flatten_append→R5,perm_ext_iff_of_nodup→R7,getElem_mem→R9,drop_eq_getElem_cons→T9,mem_iff_getElem→U0,getElem_toArray→U1,length_eq_zero_iff→U7,getElem_of_mem→U9,pairwise_singleton→V0,filter_sublist→V1,take_length→V2,getElem?_set_self→V4,append_nil→V7,find?_cons→V8,length_filter_le→W4,pairwise_flatten→W5,any_cons→W6,length_range→W7,getElem?_set_ne→W9,replicate_succ'→X0,lookup_cons→X3,getElem?_range→X5,getElem?_take_of_lt→X7,length_nil→Y0,of_mem_zip→Y1,foldl_cons→Y2,mem_replicate→Y7,take_sublist→Z1,ext_getElem?→Z4,pairwise_and_iff→a9,filterMap_cons→d0,length_set→d3,length_reverse→d4,nil_append→d5,length_zip→e7,filter_append→i8,count_eq_zero→i9,count_pos_iff→j6,mem_of_find?_eq_some→k5,mem_take_iff_getElem→k6,getElem_drop→l0,count_append→m6,all_cons→m8,filter_cons_of_pos→o1,filter_cons_of_neg→o3,any_eq_true→o7,perm_middle→o8,drop_of_length_le→p9,map_nil→t0,eq_nil_or_concat→u8,map_set→u9,nodup_nil→y4,forIn_nil→y8,length→A00,toList_toArray→A04,mem_map_of_mem→A05,mem_filterMap→A08,forIn_toArray→A15,append_of_mem→A16,getElem_take→A24,drop_sublist→A25,foldl_append→A26,flatMap_cons→A31,mem_reverse→A45,mem_flatMap→A46,find?_some→A53,range_succ→A56,foldl_nil→A58,take_zero→A60,take_left→A61,foldl→A64,findIdx?→A70
open List.Nodup renaming length_le_of_subset→J7
open List.Perm renaming append_left→t6
open Nat renaming le_refl→B0,zero_le→D3,ne_of_lt→D4,lt_of_lt_of_le→D5,le_trans→G9,zero_add→L4,lt_succ_of_lt→O8,lt_irrefl→Q6,le_of_lt→Q8,ne_of_gt→S9,lt_of_le_of_lt→V6,le_succ→X4,strongRecOn→Y5,lt_trichotomy→Z5,le_of_not_lt→b7,lt_trans→i7,mod_lt→A23,sub_self→A32,le_of_eq→A34,succ_ne_self→A38,min_eq_left→A55
open Ne renaming symm→G3
open Option renaming toList_some→C0,map_some→P8,getD_some→R8,some→U5,isSome_iff_exists→X6,isSome_map→k9,map_eq_some_iff→p7,getD_none→A37,none→A82
open Option.some renaming inj→C6
open Or renaming inl→D0,inr→b9
open PyProof renaming noPylong_small→Y8
open PyProof.Rows renaming callWith_type1→P0,callWith_kw→m5
open PyProof.Rows.IntsAre renaming int_at→d6
open PySem renaming mem_of_lookup→J8,call→A65
open PySem.Around renaming under_plainId→L5,frames_deeper→w6
open PySem.Builtin.Builtins renaming bindParams→d9
open PySem.Builtin.Dict_items renaming ownsTuple→c8
open PySem.Builtin.Frozenset renaming updateFrom→A47,newClass→A57,sizeOf→A66,slot0→A71
open PySem.Builtin.List renaming listTooLong→U4,listLengthHint→d7
open PySem.Builtin.Range renaming rangeSize→Q7,small→A02
open PySem.Builtin.SmallTypes renaming ownedTupleIsFree→R4,nextOf→T8,newRecord→A48
open PySem.Builtin.Tuple renaming tupleExact→l8
open PySem.Calls renaming callWith_builtin→Y9,spliced_cons→i5,call_function_entry→j9,evalArgs_plain→x6,spliced_nil→A22
open PySem.ClassData renaming mk→A74
open PySem.Data renaming cell→r8,fields→z9
open PySem.F renaming plainAttrs_list→E8,slot_list_append→L7,type_list_append→L8,slot_dict_keyiterator_next→O9,slot_tuple_iterator_next→R6,plain_max_loop→S0,args_tuple_add_2→U3,entry_tuple_add→U6,slot_tuple_add→V5,called_set→W2,slot_zip_next→W3,slot_list_extend→X8,type_list_extend→X9,slot_dict_get→Z8,args_dict_keyiterator_next_1→a8,entry_dict_keyiterator_next→b8,args_tuple_iterator_next_1→c7,entry_tuple_iterator_next→d8,args_zip_next_1→l9,args_dict_get_3→n6,plain_list_iadd→n9,entry_zip_next→o5,entry_max_loop→o6,entry_dict_get→p8,called_tuple→y7,plain_tuple_new→A28,slot_dict_iter→A40
open PySem.Heap renaming get?_push_of_some→A2,get?_push_size→B5,lt_size→B7,get?_update_other→C2,size_push→L0,get?_update_self→L9,get?_push_ne→A29,size_update→A39
open PySem.Heap.IsSliceOf renaming new→A83
open PySem.Heap.SameBut renaming update→U8
open PySem.IsRange renaming new→A81
open PySem.NameKind renaming free→J9,cell→A69
open PySem.Obj renaming mapSeq→F2,data_mapFields→T6,isFreed_of_fields→Z9,mapFields→c6,cls_mapFields→l7,mk→A62
open PySem.Paired renaming length→C7,snoc→Z2
open PySem.PassesOwn renaming never→C9
open PySem.SeqAt renaming eq_tupleAt→q0,eq_listAt→A52
open PySem.SeqAt.EqAt renaming int_int→i6,int_str→A06,str_int→A07
open PySem.SeqAt.RcNeAt renaming lists→m4,lists_lengths→A17
open PySem.SetTable renaming below→D9,insertAt→F0,bits→Y3,fits→A10,fill→A11,runEnd→A51,has→A77
open PySem.SetTable.below renaming go→Z3
open PySem.SetTable.probe renaming go→R1
open PySem.Str renaming ofString→E4,empty→Q3
open PySem.Value renaming ref→C8,int→J5,none→P1,bool→R0,type→c9,isInt→m7,isInt_shape→A18,str→A49,isStrOf→A68
open PySem.W renaming nsIn→C5,mg_none_of→E5,mg_of→E7,kitOne→M4,keepIn→M9,kia_one→O0,kla_fn→P7,findIn→Q9,fnOf→T3,codeIn→X1,methodObj→k7,specialIn→k8,cellsFrom_some→o9,instObj→q9,kat_nil→t8,lookIn→x9,noTabs→z8,kdu_collect→A01,mroIn→A09,hasDictIn→A19,kitx_list→A20,kitx_dict→A21,plainGet→A36,takesIn→A50,tabObj→A59,kHook→A67,tabIn→A72,isFn→A76
open PySem.W.OpenLaw renaming wellSaid→A63,row→A79
open PySem.W.OpenRow renaming toRowW→A73
open PySem.Walks renaming list→A27
open PySem.pickOrder renaming go→A33
open StateT renaming run_pure→t7
open Sum renaming inl→J1,inr→M6
open Sum.inl renaming inj→Z0
open Sum.inr renaming inj→A80
open True renaming intro→U2
set_option Elab.async false
set_option linter.all false
set_option maxRecDepth 100000
set_option maxHeartbeats 0
namespace Fw
open PySem
def top (i:Nat):Stmt:=PySem.Challenge.pw_fewrooms_k27_fewest_of_all_orders.main.body.getD i (.Pass ⟨0,0,0,0⟩)
abbrev qDQ:Stmt:=top 1
abbrev qDP:Stmt:=top 2
abbrev qG4:Stmt:=top 3
abbrev qD5:Stmt:=top 8
abbrev qFH:Stmt:=top 10
abbrev qC9:Stmt:=top 11
abbrev qHW:Stmt:=top 12
abbrev qCQ:Stmt:=top 13
abbrev qBV:Stmt:=top 14
abbrev qDO:Stmt:=top 15
abbrev qDN:Stmt:=top 16
abbrev qHZ:Stmt:=top 18
abbrev qKW:Stmt:=top 19
abbrev qIL:Stmt:=top 20
abbrev qD6:Stmt:=top 21
abbrev qE7:Stmt:=top 22
abbrev qP8:Stmt:=top 23
abbrev qG5:Stmt:=top 24
abbrev qHX:Stmt:=top 25
abbrev qG6:Stmt:=top 26
abbrev qHY:Stmt:=top 27
abbrev qE8:Stmt:=top 28
abbrev qBA:Stmt:=top 29
abbrev qKV:Stmt:=top 30
abbrev qJM:Stmt:=top 31
end Fw
namespace Fw
open PySem
def dA (s:Stmt):Arguments:=match s with
 | .FunctionDef _ a _ _ _ _ _ _ _ _=>a
 | _=>{ posonlyargs:=[],args:=[],vararg:=none,kwonlyargs:=[],kw_defaults:=[],kwarg:=none,defaults:=[] }
def dB (s:Stmt):List Stmt:=match s with
 | .FunctionDef _ _ b _ _ _ _ _ _ _=>b
 | _=>[]
def dS (s:Stmt):Scope:=match s with
 | .FunctionDef _ _ _ _ _ _ sc _ _ _=>sc
 | _=>{ kind:=.function,names:=[],isGenerator:=false,isCoroutine:=false }
abbrev so (s:String):Str:=PySem.Str.ofString s
abbrev kh (P:Params) (s:Str):Int:=PySem.PyData.keyHash P s
abbrev hde (P:Params) (s:String) (n:Nat) (v:Value):DictEntry:=⟨kh P (so s),.str (so s) n,v⟩
abbrev hvs (s:String) (n:Nat):Value:=.str (so s) n
abbrev hcut (n:Nat):Value:=hvs "/claim/cut.py" n
abbrev hfd (x q:String) (s:Stmt) (a b c d:Value) (e:Option Addr) (f g:Value) (i:Addr):FuncData:=⟨so x,so q,dA s,.stmts (dB s),dS s,3,[],a,b,c,d,e,f,g,i⟩
abbrev htp (d:Data) (s:Array (Option Value)):Obj:=⟨.type "tuple",none,d,s⟩
abbrev hcd (d:Data) (s:Array (Option Value)):Obj:=⟨.type "code",none,d,s⟩
abbrev hfn (d:Data) (s:Array (Option Value)):Obj:=⟨.type "function",none,d,s⟩
def hpK:Params->PySem.W.Frag:=fun P=>
 (nat_lit 2,A62 .none .none (.dict #[]) #[]) ::
 (nat_lit 3,A62 (.type "dict") .none (.dict #[hde P "__name__" 165 (hvs "law_fewrooms_k27_fewest_of_all_orders" 340),hde P "__doc__" 166 .none,hde P "__package__" 167 .none,hde P "__loader__" 168 (.builtin "__main__.__loader__#opaque"),hde P "__spec__" 169 .none,hde P "__annotations__" 170 (.ref 6),hde P "__builtins__" 171 (.ref 4),hde P "__file__" 173 (hcut 172),hde P "__cached__" 174 .none,hde P "all_needed" 199 (.ref 21),hde P "use_counts" 210 (.ref 28),hde P "is_tree" 216 (.ref 33),hde P "RoomError" 236 (.ref 43),hde P "NoTree" 252 (.ref 56),hde P "demand_tree" 262 (.ref 65),hde P "taken_by" 279 (.ref 72),hde P "stretched" 293 (.ref 79),hde P "joined" 301 (.ref 86),hde P "joined_parts" 311 (.ref 93),hde P "parts_over" 317 (.ref 98),hde P "wide_order" 330 (.ref 105),hde P "wide_rooms" 339 (.ref 112),hde P "_law_begin" 349 (.ref 119),hde P "_law_take" 362 (.ref 126),hde P "_law_same" 368 (.ref 131),hde P "_law_some_needs" 379 (.ref 138),hde P "_law_tree_net" 391 (.ref 145),hde P "_law_net" 397 (.ref 150),hde P "_law_needed" 403 (.ref 155),hde P "_law_wides" 409 (.ref 160),hde P "_law_ground" 415 (.ref 165),hde P "_law_taken" 421 (.ref 170),hde P "_law_is_order" 427 (.ref 175),hde P "_law_fewest" 433 (.ref 180),hde P "_law_used" 439 (.ref 185),hde P "law" 445 (.ref 190)] 36) #[]) ::
 (nat_lit 15,htp (.seq #[]) #[]) ::
 (nat_lit 17,htp (.seq #[hvs "net" 192,hvs "asked" 193,hvs "wanted" 194,hvs "work" 195,hvs "need" 196]) #[]) ::
 (nat_lit 18,htp (.seq #[]) #[]) ::
 (nat_lit 20,hcd (.fields #[hvs "all_needed" 189,hvs "all_needed" 190,hcut 191,.int 2 0,.int 2 0,.int 0 0,.int 0 0,.int 3 0,.ref 15,.bool .true,.int 181 0,.ref 16,.none,.ref 17,.ref 18,.ref 19,.int 197 0,.int 2 0,hcut 198]) #[]) ::
 (nat_lit 21,hfn (.func (hfd "all_needed" "all_needed" qDQ .none .none .none (hvs "fewrooms.nets" 187) .none (.ref 20) .none 0)) #[]) ::
 (nat_lit 22,htp (.seq #[]) #[]) ::
 (nat_lit 24,htp (.seq #[hvs "net" 203,hvs "works" 204,hvs "counts" 205,hvs "work" 206,hvs "need" 207]) #[]) ::
 (nat_lit 25,htp (.seq #[]) #[]) ::
 (nat_lit 27,hcd (.fields #[hvs "use_counts" 200,hvs "use_counts" 201,hcut 202,.int 11 0,.int 2 0,.int 0 0,.int 0 0,.int 3 0,.ref 22,.bool .true,.int 181 0,.ref 23,.none,.ref 24,.ref 25,.ref 26,.int 208 0,.int 11 0,hcut 209]) #[]) ::
 (nat_lit 28,hfn (.func (hfd "use_counts" "use_counts" qDP .none .none .none (hvs "fewrooms.nets" 187) .none (.ref 27) .none 0)) #[]) ::
 (nat_lit 29,htp (.seq #[]) #[]) ::
 (nat_lit 32,hcd (.fields #[hvs "is_tree" 211,hvs "is_tree" 212,hcut 213,.int 17 0,.int 2 0,.int 0 0,.int 0 0,.int 3 0,.ref 29,.bool .true,.int 181 0,.ref 30,.none,.none,.none,.ref 31,.int 214 0,.int 17 0,hcut 215]) #[]) ::
 (nat_lit 33,hfn (.func (hfd "is_tree" "is_tree" qG4 .none .none .none (hvs "fewrooms.nets" 187) .none (.ref 32) .none 0)) #[]) ::
 (nat_lit 34,htp (.seq #[.type "ValueError"]) #[]) ::
 (nat_lit 41,htp (.seq #[]) #[]) ::
 (nat_lit 42,A62 (.type "dict") .none (.dict #[hde P "__module__" 226 (hvs "fewrooms.errors" 217),hde P "__firstlineno__" 230 (.int 22 229),hde P "__static_attributes__" 231 (.ref 41),hde P "__weakref__" 233 (.ref 44),hde P "__doc__" 234 .none] 3) #[]) ::
 (nat_lit 43,A62 (.type "type") .none (.cls (A74 (so "RoomError") [.type "ValueError"] [.ref 43,.type "ValueError",.type "Exception",.type "BaseException",.type "object"] 42 (so "RoomError") .true [] [.ref 56] .false .none .false)) #[U5 (.ref 34),.none,U5 (hvs "RoomError" 219),U5 (hvs "RoomError" 227),U5 (.builtin "ValueError.__new__"),U5 (.bool .true)]) ::
 (nat_lit 44,A62 (.type "getset_descriptor") .none (.fields #[hvs "__weakref__" 232,.ref 43,.builtin "ExceptionGroup.__weakref__",.none]) #[]) ::
 (nat_lit 47,htp (.seq #[.ref 43]) #[]) ::
 (nat_lit 54,htp (.seq #[]) #[]) ::
 (nat_lit 55,A62 (.type "dict") .none (.dict #[hde P "__module__" 244 (hvs "fewrooms.errors" 217),hde P "__firstlineno__" 248 (.int 24 247),hde P "__static_attributes__" 249 (.ref 54),hde P "__doc__" 250 .none] 2) #[]) ::
 (nat_lit 56,A62 (.type "type") .none (.cls (A74 (so "NoTree") [.ref 43] [.ref 56,.ref 43,.type "ValueError",.type "Exception",.type "BaseException",.type "object"] 55 (so "NoTree") .true [] [] .false .none .false)) #[U5 (.ref 47),.none,U5 (hvs "NoTree" 237),U5 (hvs "NoTree" 245),U5 (.builtin "ValueError.__new__"),U5 (.bool .true)]) ::
 (nat_lit 59,htp (.seq #[]) #[]) ::
 (nat_lit 61,htp (.seq #[hvs "net" 258,hvs "work" 259]) #[]) ::
 (nat_lit 62,htp (.seq #[]) #[]) ::
 (nat_lit 64,hcd (.fields #[hvs "demand_tree" 255,hvs "demand_tree" 256,hcut 257,.int 27 0,.int 2 0,.int 0 0,.int 0 0,.int 3 0,.ref 59,.bool .true,.int 181 0,.ref 60,.none,.ref 61,.ref 62,.ref 63,.int 260 0,.int 27 0,hcut 261]) #[]) ::
 (nat_lit 65,hfn (.func (hfd "demand_tree" "demand_tree" qD5 .none .none .none (hvs "fewrooms.trees" 253) .none (.ref 64) .none 0)) #[]) ::
 (nat_lit 66,htp (.seq #[]) #[]) ::
 (nat_lit 68,htp (.seq #[hvs "net" 268,hvs "wides" 269,hvs "work" 270,hvs "order" 271,hvs "last_user" 272,hvs "other" 273,hvs "need" 274,hvs "told" 275,hvs "kept" 276]) #[]) ::
 (nat_lit 69,htp (.seq #[]) #[]) ::
 (nat_lit 71,hcd (.fields #[hvs "taken_by" 265,hvs "taken_by" 266,hcut 267,.int 31 0,.int 4 0,.int 0 0,.int 0 0,.int 3 0,.ref 66,.bool .true,.int 181 0,.ref 67,.none,.ref 68,.ref 69,.ref 70,.int 277 0,.int 31 0,hcut 278]) #[]) ::
 (nat_lit 72,hfn (.func (hfd "taken_by" "taken_by" qFH .none .none .none (hvs "fewrooms.wides" 263) .none (.ref 71) .none 0)) #[]) ::
 (nat_lit 73,htp (.seq #[]) #[]) ::
 (nat_lit 75,htp (.seq #[hvs "net" 283,hvs "wides" 284,hvs "work" 285,hvs "other" 286,hvs "order" 287,hvs "need" 288]) #[]) ::
 (nat_lit 76,htp (.seq #[hvs "wides" 289,hvs "own" 290]) #[]) ::
 (nat_lit 78,hcd (.fields #[hvs "stretched" 280,hvs "stretched" 281,hcut 282,.int 45 0,.int 3 0,.int 0 0,.int 0 0,.int 3 0,.ref 73,.bool .true,.int 181 0,.ref 74,.none,.ref 75,.ref 76,.ref 77,.int 291 0,.int 45 0,hcut 292]) #[]) ::
 (nat_lit 79,hfn (.func (hfd "stretched" "stretched" qC9 .none .none .none (hvs "fewrooms.wides" 263) .none (.ref 78) .none 0)) #[]) ::
 (nat_lit 80,htp (.seq #[]) #[]) ::
 (nat_lit 82,htp (.seq #[hvs "one" 297,hvs "other" 298]) #[]) ::
 (nat_lit 83,htp (.seq #[]) #[]) ::
 (nat_lit 85,hcd (.fields #[hvs "joined" 294,hvs "joined" 295,hcut 296,.int 55 0,.int 2 0,.int 0 0,.int 0 0,.int 3 0,.ref 80,.bool .true,.int 181 0,.ref 81,.none,.ref 82,.ref 83,.ref 84,.int 299 0,.int 55 0,hcut 300]) #[]) ::
 (nat_lit 86,hfn (.func (hfd "joined" "joined" qHW .none .none .none (hvs "fewrooms.wides" 263) .none (.ref 85) .none 0)) #[]) ::
 (nat_lit 87,htp (.seq #[]) #[]) ::
 (nat_lit 89,htp (.seq #[hvs "parts" 305,hvs "told" 306,hvs "part" 307,hvs "last" 308]) #[]) ::
 (nat_lit 90,htp (.seq #[]) #[]) ::
 (nat_lit 92,hcd (.fields #[hvs "joined_parts" 302,hvs "joined_parts" 303,hcut 304,.int 57 0,.int 1 0,.int 0 0,.int 0 0,.int 3 0,.ref 87,.bool .true,.int 181 0,.ref 88,.none,.ref 89,.ref 90,.ref 91,.int 309 0,.int 57 0,hcut 310]) #[]) ::
 (nat_lit 93,hfn (.func (hfd "joined_parts" "joined_parts" qCQ .none .none .none (hvs "fewrooms.wides" 263) .none (.ref 92) .none 0)) #[]) ::
 (nat_lit 94,htp (.seq #[]) #[]) ::
 (nat_lit 97,hcd (.fields #[hvs "parts_over" 312,hvs "parts_over" 313,hcut 314,.int 65 0,.int 4 0,.int 0 0,.int 0 0,.int 3 0,.ref 94,.bool .true,.int 181 0,.ref 95,.none,.none,.none,.ref 96,.int 315 0,.int 65 0,hcut 316]) #[]) ::
 (nat_lit 98,hfn (.func (hfd "parts_over" "parts_over" qBV .none .none .none (hvs "fewrooms.wides" 263) .none (.ref 97) .none 0)) #[]) ::
 (nat_lit 99,htp (.seq #[]) #[]) ::
 (nat_lit 101,htp (.seq #[hvs "net" 321,hvs "wides" 322,hvs "work" 323,hvs "own" 324,hvs "other" 325,hvs "order" 326,hvs "part" 327]) #[]) ::
 (nat_lit 102,htp (.seq #[]) #[]) ::
 (nat_lit 104,hcd (.fields #[hvs "wide_order" 318,hvs "wide_order" 319,hcut 320,.int 72 0,.int 3 0,.int 0 0,.int 0 0,.int 3 0,.ref 99,.bool .true,.int 181 0,.ref 100,.none,.ref 101,.ref 102,.ref 103,.int 328 0,.int 72 0,hcut 329]) #[]) ::
 (nat_lit 105,hfn (.func (hfd "wide_order" "wide_order" qDO .none .none .none (hvs "fewrooms.wides" 263) .none (.ref 104) .none 0)) #[]) ::
 (nat_lit 106,htp (.seq #[]) #[]) ::
 (nat_lit 108,htp (.seq #[hvs "net" 334,hvs "wides" 335,hvs "work" 336]) #[]) ::
 (nat_lit 109,htp (.seq #[]) #[]) ::
 (nat_lit 111,hcd (.fields #[hvs "wide_rooms" 331,hvs "wide_rooms" 332,hcut 333,.int 81 0,.int 3 0,.int 0 0,.int 0 0,.int 3 0,.ref 106,.bool .true,.int 181 0,.ref 107,.none,.ref 108,.ref 109,.ref 110,.int 337 0,.int 81 0,hcut 338]) #[]) ::
 (nat_lit 112,hfn (.func (hfd "wide_rooms" "wide_rooms" qDN .none .none .none (hvs "fewrooms.wides" 263) .none (.ref 111) .none 0)) #[]) ::
 (nat_lit 113,htp (.seq #[]) #[]) ::
 (nat_lit 115,htp (.seq #[hvs "_law_script" 345,hvs "_law_cells" 346]) #[]) ::
 (nat_lit 116,htp (.seq #[]) #[]) ::
 (nat_lit 118,hcd (.fields #[hvs "_law_begin" 342,hvs "_law_begin" 343,hcut 344,.int 84 0,.int 1 0,.int 0 0,.int 0 0,.int 3 0,.ref 113,.bool .true,.int 181 0,.ref 114,.none,.ref 115,.ref 116,.ref 117,.int 347 0,.int 84 0,hcut 348]) #[]) ::
 (nat_lit 119,hfn (.func (hfd "_law_begin" "_law_begin" qHZ .none .none .none (hvs "law_fewrooms_k27_fewest_of_all_orders" 340) .none (.ref 118) .none 0)) #[]) ::
 (nat_lit 120,htp (.seq #[]) #[]) ::
 (nat_lit 122,htp (.seq #[hvs "_law_state" 353,hvs "_law_many" 354,hvs "_law_turn" 355,hvs "_law_place" 356,hvs "_law_cell" 357,hvs "_law_digit" 358,hvs "_law_mixed" 359]) #[]) ::
 (nat_lit 123,htp (.seq #[]) #[]) ::
 (nat_lit 125,hcd (.fields #[hvs "_law_take" 350,hvs "_law_take" 351,hcut 352,.int 89 0,.int 2 0,.int 0 0,.int 0 0,.int 3 0,.ref 120,.bool .true,.int 181 0,.ref 121,.none,.ref 122,.ref 123,.ref 124,.int 360 0,.int 89 0,hcut 361]) #[]) ::
 (nat_lit 126,hfn (.func (hfd "_law_take" "_law_take" qKW .none .none .none (hvs "law_fewrooms_k27_fewest_of_all_orders" 340) .none (.ref 125) .none 0)) #[]) ::
 (nat_lit 127,htp (.seq #[]) #[]) ::
 (nat_lit 130,hcd (.fields #[hvs "_law_same" 363,hvs "_law_same" 364,hcut 365,.int 100 0,.int 2 0,.int 0 0,.int 0 0,.int 3 0,.ref 127,.bool .true,.int 181 0,.ref 128,.none,.none,.none,.ref 129,.int 366 0,.int 100 0,hcut 367]) #[]) ::
 (nat_lit 131,hfn (.func (hfd "_law_same" "_law_same" qIL .none .none .none (hvs "law_fewrooms_k27_fewest_of_all_orders" 340) .none (.ref 130) .none 0)) #[]) ::
 (nat_lit 132,htp (.seq #[]) #[]) ::
 (nat_lit 134,htp (.seq #[hvs "_law_state" 372,hvs "_law_k" 373,hvs "_law_found" 374,hvs "_law_turn" 375,hvs "_law_far" 376]) #[]) ::
 (nat_lit 135,htp (.seq #[]) #[]) ::
 (nat_lit 137,hcd (.fields #[hvs "_law_some_needs" 369,hvs "_law_some_needs" 370,hcut 371,.int 112 0,.int 2 0,.int 0 0,.int 0 0,.int 3 0,.ref 132,.bool .true,.int 181 0,.ref 133,.none,.ref 134,.ref 135,.ref 136,.int 377 0,.int 112 0,hcut 378]) #[]) ::
 (nat_lit 138,hfn (.func (hfd "_law_some_needs" "_law_some_needs" qD6 .none .none .none (hvs "law_fewrooms_k27_fewest_of_all_orders" 340) .none (.ref 137) .none 0)) #[]) ::
 (nat_lit 139,htp (.seq #[]) #[]) ::
 (nat_lit 141,htp (.seq #[hvs "_law_state" 383,hvs "_law_many" 384,hvs "_law_open_ones" 385,hvs "_law_found" 386,hvs "_law_k" 387,hvs "_law_so_many" 388]) #[]) ::
 (nat_lit 142,htp (.seq #[]) #[]) ::
 (nat_lit 144,hcd (.fields #[hvs "_law_tree_net" 380,hvs "_law_tree_net" 381,hcut 382,.int 119 0,.int 2 0,.int 0 0,.int 0 0,.int 3 0,.ref 139,.bool .true,.int 181 0,.ref 140,.none,.ref 141,.ref 142,.ref 143,.int 389 0,.int 119 0,hcut 390]) #[]) ::
 (nat_lit 145,hfn (.func (hfd "_law_tree_net" "_law_tree_net" qE7 .none .none .none (hvs "law_fewrooms_k27_fewest_of_all_orders" 340) .none (.ref 144) .none 0)) #[]) ::
 (nat_lit 146,htp (.seq #[]) #[]) ::
 (nat_lit 149,hcd (.fields #[hvs "_law_net" 392,hvs "_law_net" 393,hcut 394,.int 127 0,.int 2 0,.int 0 0,.int 0 0,.int 3 0,.ref 146,.bool .true,.int 181 0,.ref 147,.none,.none,.none,.ref 148,.int 395 0,.int 127 0,hcut 396]) #[]) ::
 (nat_lit 150,hfn (.func (hfd "_law_net" "_law_net" qP8 .none .none .none (hvs "law_fewrooms_k27_fewest_of_all_orders" 340) .none (.ref 149) .none 0)) #[]) ::
 (nat_lit 151,htp (.seq #[]) #[]) ::
 (nat_lit 154,hcd (.fields #[hvs "_law_needed" 398,hvs "_law_needed" 399,hcut 400,.int 142 0,.int 2 0,.int 0 0,.int 0 0,.int 3 0,.ref 151,.bool .true,.int 181 0,.ref 152,.none,.none,.none,.ref 153,.int 401 0,.int 142 0,hcut 402]) #[]) ::
 (nat_lit 155,hfn (.func (hfd "_law_needed" "_law_needed" qG5 .none .none .none (hvs "law_fewrooms_k27_fewest_of_all_orders" 340) .none (.ref 154) .none 0)) #[]) ::
 (nat_lit 156,htp (.seq #[]) #[]) ::
 (nat_lit 159,hcd (.fields #[hvs "_law_wides" 404,hvs "_law_wides" 405,hcut 406,.int 151 0,.int 2 0,.int 0 0,.int 0 0,.int 3 0,.ref 156,.bool .true,.int 181 0,.ref 157,.none,.none,.none,.ref 158,.int 407 0,.int 151 0,hcut 408]) #[]) ::
 (nat_lit 160,hfn (.func (hfd "_law_wides" "_law_wides" qHX .none .none .none (hvs "law_fewrooms_k27_fewest_of_all_orders" 340) .none (.ref 159) .none 0)) #[]) ::
 (nat_lit 161,htp (.seq #[]) #[]) ::
 (nat_lit 164,hcd (.fields #[hvs "_law_ground" 410,hvs "_law_ground" 411,hcut 412,.int 160 0,.int 2 0,.int 0 0,.int 0 0,.int 3 0,.ref 161,.bool .true,.int 181 0,.ref 162,.none,.none,.none,.ref 163,.int 413 0,.int 160 0,hcut 414]) #[]) ::
 (nat_lit 165,hfn (.func (hfd "_law_ground" "_law_ground" qG6 .none .none .none (hvs "law_fewrooms_k27_fewest_of_all_orders" 340) .none (.ref 164) .none 0)) #[]) ::
 (nat_lit 166,htp (.seq #[]) #[]) ::
 (nat_lit 169,hcd (.fields #[hvs "_law_taken" 416,hvs "_law_taken" 417,hcut 418,.int 174 0,.int 3 0,.int 0 0,.int 0 0,.int 3 0,.ref 166,.bool .true,.int 181 0,.ref 167,.none,.none,.none,.ref 168,.int 419 0,.int 174 0,hcut 420]) #[]) ::
 (nat_lit 170,hfn (.func (hfd "_law_taken" "_law_taken" qHY .none .none .none (hvs "law_fewrooms_k27_fewest_of_all_orders" 340) .none (.ref 169) .none 0)) #[]) ::
 (nat_lit 171,htp (.seq #[]) #[]) ::
 (nat_lit 174,hcd (.fields #[hvs "_law_is_order" 422,hvs "_law_is_order" 423,hcut 424,.int 183 0,.int 3 0,.int 0 0,.int 0 0,.int 3 0,.ref 171,.bool .true,.int 181 0,.ref 172,.none,.none,.none,.ref 173,.int 425 0,.int 183 0,hcut 426]) #[]) ::
 (nat_lit 175,hfn (.func (hfd "_law_is_order" "_law_is_order" qE8 .none .none .none (hvs "law_fewrooms_k27_fewest_of_all_orders" 340) .none (.ref 174) .none 0)) #[]) ::
 (nat_lit 176,htp (.seq #[]) #[]) ::
 (nat_lit 179,hcd (.fields #[hvs "_law_fewest" 428,hvs "_law_fewest" 429,hcut 430,.int 194 0,.int 3 0,.int 0 0,.int 0 0,.int 3 0,.ref 176,.bool .true,.int 181 0,.ref 177,.none,.none,.none,.ref 178,.int 431 0,.int 194 0,hcut 432]) #[]) ::
 (nat_lit 180,hfn (.func (hfd "_law_fewest" "_law_fewest" qBA .none .none .none (hvs "law_fewrooms_k27_fewest_of_all_orders" 340) .none (.ref 179) .none 0)) #[]) ::
 (nat_lit 181,htp (.seq #[]) #[]) ::
 (nat_lit 184,hcd (.fields #[hvs "_law_used" 434,hvs "_law_used" 435,hcut 436,.int 208 0,.int 4 0,.int 0 0,.int 0 0,.int 3 0,.ref 181,.bool .true,.int 181 0,.ref 182,.none,.none,.none,.ref 183,.int 437 0,.int 208 0,hcut 438]) #[]) ::
 (nat_lit 185,hfn (.func (hfd "_law_used" "_law_used" qKV .none .none .none (hvs "law_fewrooms_k27_fewest_of_all_orders" 340) .none (.ref 184) .none 0)) #[]) ::
 (nat_lit 186,htp (.seq #[]) #[]) ::
 (nat_lit 189,hcd (.fields #[hvs "law" 440,hvs "law" 441,hcut 442,.int 210 0,.int 1 0,.int 0 0,.int 0 0,.int 3 0,.ref 186,.bool .true,.int 181 0,.ref 187,.none,.none,.none,.ref 188,.int 443 0,.int 210 0,hcut 444]) #[]) ::
 (nat_lit 190,hfn (.func (hfd "law" "law" qJM .none .none .none (hvs "law_fewrooms_k27_fewest_of_all_orders" 340) .none (.ref 189) .none 0)) #[]) ::
 []
def hpA:List Addr:=[2,3,15,17,18,20,21,22,24,25,27,28,29,32,33,34,41,42,43,44,47,54,55,56,59,61,62,64,65,66,68,69,71,72,73,75,76,78,79,80,82,83,85,86,87,89,90,92,93,94,97,98,99,101,102,104,105,106,108,109,111,112,113,115,116,118,119,120,122,123,125,126,127,130,131,132,134,135,137,138,139,141,142,144,145,146,149,150,151,154,155,156,159,160,161,164,165,166,169,170,171,174,175,176,179,180,181,184,185,186,189,190]
def hpQ:Program:=PySem.W.view PySem.Challenge.pw_fewrooms_k27_fewest_of_all_orders [1,2,3,5,6,8,10,11,12,13,14,15,16,18,19,20,21,22,23,24,25,26,27,28,29,30,31]
def hpN:Nat:=2496
theorem hpE (P:Params):hpA=(hpK P).map (·.1):=by kernel_rfl
def hpX (s:Shared):Bool:=PySem.W.xlAt hpQ [] s && PySem.W.recOk (PySem.W.RowW.records (A73 (A79 PySem.Challenge.rw_fewrooms_k27_fewest_of_all_orders))) s
theorem hpLeft:PySem.W.LeftO PySem.Challenge.pw_fewrooms_k27_fewest_of_all_orders hpQ [] hpX (A67 hpK hpA hpE).obs (A67 hpK hpA hpE).val hpN:=fun w=>by kernel_rfl
theorem hpSaid:A63 PySem.Challenge.rw_fewrooms_k27_fewest_of_all_orders=true:=by kernel_rfl
end Fw
namespace L2
open PySem PySem.Spec PyProof.Rows
abbrev Key:=Sum Int Str
def qQW:Key->Value->Bool
 | .inl k,v=>m7 k v
 | .inr x,v=>A68 x v
def keyH (w:World):Key->Int
 | .inl k=>hashInt k
 | .inr x=>hashStr w x
theorem qBM:∀ {k:Key} {v:Value},qQW k v=true->(∃ i t,k=J1 i/\v=J5 i t)\/(∃ x t,k=M6 x/\v=A49 x t)
 | .inl i,v,h=>by
  obtain ⟨t,e⟩:=A18 (k:=i) (v:=v) h;exact .inl ⟨i,t,rfl,e⟩
 | .inr x,v,h=>by
  obtain ⟨t,e⟩:=Value.isStrOf_shape (x:=x) (v:=v) h;exact .inr ⟨x,t,rfl,e⟩
theorem qT4 (i:Int) (t:Tok):qQW (.inl i) (.int i t)=true:=by simp [qQW,m7]
theorem qT3 (x:Str) (t:Tok):qQW (.inr x) (.str x t)=true:=by simp [qQW,A68]
theorem qaA (a b:Int):decide ((J1 a:Key)=J1 b)=(a == b):=by
 by_cases e:a=b
 ·subst e;simp
 ·have h:¬ (J1 a:Key)=J1 b:=fun q=>e (Z0 q);rw [decide_eq_false h];exact (beq_eq_false_iff_ne.mpr e).symm
theorem qa7 (a b:Str):decide ((M6 a:Key)=M6 b)=decide (a=b):=by
 by_cases e:a=b
 ·subst e;simp
 ·have h:¬ (M6 a:Key)=M6 b:=fun q=>e (A80 q);rw [decide_eq_false h,decide_eq_false e]
theorem qa9 (a:Int) (b:Str):decide ((J1 a:Key)=M6 b)=false:=decide_eq_false (fun q=>nomatch q)
theorem qa8 (a:Str) (b:Int):decide ((M6 a:Key)=J1 b)=false:=decide_eq_false (fun q=>nomatch q)
def qBF (prog:Program) (w:World):PySem.KeyKind prog w Key where
 is:=qQW
 hash:=keyH w
 inj:=fun v a b ha hb=>by
  rcases qBM ha with ⟨i,t,rfl,rfl⟩ | ⟨x,t,rfl,rfl⟩
  ·rcases qBM hb with ⟨j,u,rfl,e⟩ | ⟨y,u,rfl,e⟩
   ·injection e with e1 _;rw [e1]
   ·exact nomatch e
  ·rcases qBM hb with ⟨j,u,rfl,e⟩ | ⟨y,u,rfl,e⟩
   ·exact nomatch e
   ·injection e with e1 _;rw [e1]
 byValue:=fun k v h=>by
  rcases qBM h with ⟨i,t,rfl,rfl⟩ | ⟨x,t,rfl,rfl⟩ <;> rfl
 pyHash:=fun hv h=>by
  rcases qBM hv with ⟨i,t,rfl,rfl⟩ | ⟨x,t,rfl,rfl⟩
  ·exact wpAny_pyHash_int h
  ·exact wpAny_pyHash_str h
 eqBool:=fun hu hv h=>by
  rcases qBM hu with ⟨i,t,rfl,rfl⟩ | ⟨x,t,rfl,rfl⟩
  ·rcases qBM hv with ⟨j,u,rfl,rfl⟩ | ⟨y,u,rfl,rfl⟩
   ·rw [qaA] at h;exact wpAny_eqBool_int h
   ·rw [qa9] at h;exact A06 i t y u _ _ _ _ h
  ·rcases qBM hv with ⟨j,u,rfl,rfl⟩ | ⟨y,u,rfl,rfl⟩
   ·rw [qa8] at h;exact A07 x t j u _ _ _ _ h
   ·rw [qa7] at h;exact wpAny_eqBool_str h
 «strs»:=fun k x t v h=>by
  rcases qBM h with ⟨i,u,rfl,e⟩ | ⟨y,u,rfl,e⟩
  ·exact nomatch e
  ·injection e with e1 _
   subst e1;cases v <;> rfl
theorem qOC (prog:Program) (w:World) (i:Int) (t:Tok):(qBF prog w).is (.inl i) (.int i t)=true:=qT4 i t
theorem qOB (prog:Program) (w:World) (x:Str) (t:Tok):(qBF prog w).is (.inr x) (.str x t)=true:=qT3 x t
end L2
namespace L2
open PySem PySem.Spec PyProof.Rows
inductive V where
 | non | bl (b:Bool) | int (i:Int) | str (x:Str) | byt (b:Array UInt8) | flt (b:UInt64) | ref (a:Addr) | ty (n:String)
 deriving DecidableEq
def RelV:V->Value->Prop
 | .non,u=>u=P1
 | .bl b,u=>u=R0 b
 | .int i,u=>∃ t,u=J5 i t
 | .str x,u=>∃ t,u=A49 x t
 | .byt b,u=>∃ t,u=Value.bytes b t
 | .flt b,u=>∃ t,u=Value.float b t
 | .ref a,u=>u=C8 a
 | .ty n,u=>u=c9 n
abbrev Vals:List V->List Value->Prop:=Paired RelV
theorem Vals.length {xs:List V} {us:List Value} (r:Vals xs us):xs.length=us.length:=C7 r
theorem Vals.get:∀ {xs:List V} {us:List Value} {i:Nat} {x:V},Vals xs us->xs[i]?=some x->∃ u,us[i]?=some u/\RelV x u
 | _,_,_,_,.nil,e=>by simp at e
 | _,_,0,_,.cons r _,e=>by simp at e;subst e;exact ⟨_,rfl,r⟩
 | _,_,i+1,x,.cons _ t,e=>by
  obtain ⟨u,h1,h2⟩:=Vals.get (i:=i) (x:=x) t (by simpa using e)
  exact ⟨u,by simpa using h1,h2⟩
theorem Vals.set {x:V} {u:Value} (r:RelV x u):∀ {xs:List V} {us:List Value} (i:Nat),Vals xs us->Vals (xs.set i x) (us.set i u)
 | _,_,_,.nil=>.nil
 | _,_,0,.cons _ t=>.cons r t
 | _,_,i+1,.cons q t=>.cons q (Vals.set r i t)
theorem Vals.append:∀ {xs ys:List V} {us ws:List Value},Vals xs us->Vals ys ws->Vals (xs++ys) (us++ws)
 | _,_,_,_,.nil,s=>s
 | _,_,_,_,.cons r t,s=>.cons r (Vals.append t s)
theorem Vals.take:∀ {xs:List V} {us:List Value} (n:Nat),Vals xs us->Vals (xs.take n) (us.take n)
 | _,_,0,_=>.nil
 | _,_,_+1,.nil=>.nil
 | _,_,n+1,.cons r t=>.cons r (Vals.take n t)
theorem Vals.drop:∀ {xs:List V} {us:List Value} (n:Nat),Vals xs us->Vals (xs.drop n) (us.drop n)
 | _,_,0,r=>r
 | _,_,_+1,.nil=>.nil
 | _,_,n+1,.cons _ t=>Vals.drop n t
def RelO:Option V->Option Value->Prop
 | some v,some u=>RelV v u
 | none,none=>True
 | _,_=>False
def KV {κ:Type}:List (κ × V)->List (κ × Value)->Prop:=Paired fun (p:κ × V) (q:κ × Value)=>p.1=q.1/\RelV p.2 q.2
inductive CTb where
 | tab (q:Str)
 | cod (q:Str)
def kV:Key->V
 | .inl i=>.int i
 | .inr x=>.str x
inductive HO where
 | lst (xs:List V)
 | tup (xs:List V)
 | dK (Af:List (Key × V)) | dT (Af:List (List Key × V))
 | set (S:Int->Bool) (n:Nat)
 | ins (C dx:Addr) (fs:List (Str × V))
 | own (x:Addr)
 | xd (fs:List (Str × V))
 | met (f x:Addr)
 | rng (lo hi:Int)
 | frz (o:Obj) (u:HO)
 | tbl (t:CTb)
 | ext (φ:Heap->Prop)
abbrev Hp:=Addr->Option HO
def upd (H:Hp) (a:Addr) (o:HO):Hp:=fun b=>if b=a then some o else H b
theorem qA1 {H:Hp} {a:Addr} {o:HO}:upd H a o a=some o:=by unfold upd;rw [if_pos rfl]
theorem qA8 {H:Hp} {a b:Addr} {o:HO} (h:b ≠ a):upd H a o b=H b:=by unfold upd;rw [if_neg h]
theorem qKM {H:Hp} {a:Addr} {o u:HO}:upd (upd H a o) a u=upd H a u:=by
 funext b;unfold upd;split <;> rfl
theorem qBS {H:Hp} {a b:Addr} {o u:HO} (h:H a=some o) (h':H b=some u) (d:o ≠ u):a ≠ b:=by
 intro e;subst e;rw [h] at h';exact d (C6 h')
theorem qA5 {H:Hp} {a b:Addr} {o:HO} (h:H a=some o) (h':H b=none):a ≠ b:=by
 intro e;subst e;rw [h] at h';cases h'
section
variable (P:Program) (w:World)
def ObjOk (H:Hp) (h:Heap) (a:Addr):HO->Prop
 | .lst xs=>xs.length<=sizeLine/\∃ (its:List Value) (n:Nat),Vals xs its/\h.get? a=some { cls:=.type "list",data:=.seq its.toArray n }
 | .tup xs=>xs.length<=sizeLine/\∃ its:List Value,Vals xs its/\IsTup h a its.toArray
 | .dK Af=>Af.length<=sizeLine/\(a == sysModules)=false/\∃ vs,KV Af vs/\h.DictOf (qBF P w) a vs
 | .dT Af=>Af.length<=sizeLine/\(a == sysModules)=false/\∃ xs:List (List Key × Addr × Value),
   Paired (fun (p:List Key × V) (q:List Key × Addr × Value)=>p.1=q.1/\H q.2.1=some (.tup (p.1.map kV))/\RelV p.2 q.2.2) Af xs/\
   ∃ o es ep,h.get? a=some o/\o.ExactDict/\o.data=.dict es ep/\es.toList=xs.map (entryOfKey (tupleKind (qBF P w)))/\(xs.map (·.1)).Nodup
 | .set S n=>h.SetOf (intKind P w) a S n
 | .ins C dx fs=>H dx=some (.own a)/\fs.length<=1000/\dx ≠ a/\h.get? a=some (q9 C dx)/\
   ∃ mA,h.Ns1 dx mA/\(∀ f,RelO (fs.lookup f) (mA f))/\PySem.Within mA (fs.map (·.1))
 | .own _=>∃ o,h.get? a=some o
 | .xd fs=>∃ mA,h.Ns1 a mA/\∀ f,RelO (fs.lookup f) (mA f)
 | .rng lo hi=>∃ t u v,h.get? a=some { cls:=.type "range",data:=.fields #[.int lo t,.int hi u,.int 1 v] }
 | .frz o u=>h.get? a=some o/\ObjOk H h a u
 | .tbl (.tab q)=>∃ more:Array Value,h.get? a=some { cls:=.none,data:=.fields more }/\TriplesOk more.toList/\∀ pos cv,codeAmong pos more.toList=some cv->∃ c,cv=.ref c/\H c=some (.tbl (.cod q))
 | .tbl (.cod q)=>h.CodeRec (.ref a) q
 | .met f x=>h.get? a=some (k7 (.ref f) (.ref x))
 | .ext φ=>φ h/\(∃ o,h.get? a=some o)/\∀ h1 h2:Heap,φ h1->(∀ o,h1.get? a=some o->h2.get? a=some o)->φ h2
def HOk (H:Hp) (h:Heap):Prop:=∀ a o,H a=some o->ObjOk P w H h a o
end
section
variable {P:Program} {w:World} {H H':Hp} {h h':Heap} {a:Addr} {o:HO}
theorem ObjOk.lt (x:ObjOk P w H h a o):a<h.objs.size:=by
 cases o with
 | lst xs=>obtain ⟨_,_,_,_,e⟩:=x;exact B7 e
 | tup xs=>obtain ⟨_,_,_,p⟩:=x;exact p.lt
 | dK Af=>obtain ⟨_,_,_,_,o,_,_,e,_⟩:=x;exact B7 e
 | dT Af=>obtain ⟨_,_,_,_,o,_,_,e,_⟩:=x;exact B7 e
 | set S n=>obtain ⟨o,_,_,_,e,_⟩:=x;exact B7 e
 | ins C dx fs=>obtain ⟨_,_,_,e,_⟩:=x;exact B7 e
 | own y=>obtain ⟨_,e⟩:=x;exact B7 e
 | xd fs=>obtain ⟨_,⟨_,_,_,e,_⟩,_⟩:=x;exact B7 e
 | rng lo hi=>obtain ⟨_,_,_,e⟩:=x;exact B7 e
 | frz ob u=>obtain ⟨e,_⟩:=x;exact B7 e
 | tbl t=>
  cases t with
  | tab q=>obtain ⟨_,e,_⟩:=x;exact B7 e
  | cod q=>obtain ⟨c,o,_,_,e,g,_⟩:=x;cases e;exact B7 g
 | met f y=>exact B7 (show h.get? a=some _ from x)
 | ext φ=>obtain ⟨_,⟨_,e⟩,_⟩:=x;exact B7 e
theorem Paired.mapP {α β:Type} {F G:α->β->Prop}:∀ {l₁:List α} {l₂:List β},Paired F l₁ l₂->(∀ a b,F a b->G a b)->Paired G l₁ l₂
 | _,_,.nil,_=>.nil
 | _,_,.cons r t,f=>.cons (f _ _ r) (Paired.mapP t f)
theorem ObjOk.stay (x:ObjOk P w H h a o) (k:∀ b u,(b=a\/H b=some (.own a))->h.get? b=some u->h'.get? b=some u)
  (ho:∀ b,H b=some (.own a)->H' b=some (.own a)) (ht:∀ b xs,H b=some (.tup xs)->H' b=some (.tup xs)) (hb:∀ b t,H b=some (.tbl t)->H' b=some (.tbl t):=by exact fun _ _ q=>q):ObjOk P w H' h' a o:=by
 induction o with
 | lst xs=>obtain ⟨z,its,n,r,e⟩:=x;exact ⟨z,its,n,r,k _ _ (.inl rfl) e⟩
 | tup xs=>obtain ⟨z,its,r,ob,e,c⟩:=x;exact ⟨z,its,r,ob,k _ _ (.inl rfl) e,c⟩
 | dK Af=>obtain ⟨z,y,vs,r,ob,es,ep,e,c⟩:=x;exact ⟨z,y,vs,r,ob,es,ep,k _ _ (.inl rfl) e,c⟩
 | dT Af=>
  obtain ⟨z,y,xs,r,ob,es,ep,e,c⟩:=x;exact ⟨z,y,xs,Paired.mapP r fun p q z=>⟨z.1,ht _ _ z.2.1,z.2.2⟩,ob,es,ep,k _ _ (.inl rfl) e,c⟩
 | set S n=>obtain ⟨ob,es,ep,t,e,c⟩:=x;exact ⟨ob,es,ep,t,k _ _ (.inl rfl) e,c⟩
 | ins C dx fs=>
  obtain ⟨d,z,ne,e,mA,⟨od,es,ep,e2,c⟩,r⟩:=x;exact ⟨ho _ d,z,ne,k _ _ (.inl rfl) e,mA,⟨od,es,ep,k _ _ (.inr d) e2,c⟩,r⟩
 | own y=>obtain ⟨ob,e⟩:=x;exact ⟨ob,k _ _ (.inl rfl) e⟩
 | xd fs=>obtain ⟨mA,⟨od,es,ep,e,c⟩,r⟩:=x;exact ⟨mA,⟨od,es,ep,k _ _ (.inl rfl) e,c⟩,r⟩
 | rng lo hi=>obtain ⟨t,u,v,e⟩:=x;exact ⟨t,u,v,k _ _ (.inl rfl) e⟩
 | frz ob u ih=>obtain ⟨e,q⟩:=x;exact ⟨k _ _ (.inl rfl) e,ih q⟩
 | tbl t=>
  cases t with
  | tab q=>obtain ⟨m,e,tr,c⟩:=x;exact ⟨m,k a _ (.inl rfl) e,tr,fun pos cv z=>let ⟨c',e1,e2⟩:=c pos cv z;⟨c',e1,hb _ _ e2⟩⟩
  | cod q=>obtain ⟨c,o,vs,t,e,g,r⟩:=x;cases e;exact ⟨a,o,vs,t,rfl,k a _ (.inl rfl) g,r⟩
 | met f y=>
  have e:h.get? a=some (k7 (.ref f) (.ref y)):=x;show h'.get? a=some (k7 (.ref f) (.ref y));exact k a _ (.inl rfl) e
 | ext φ=>obtain ⟨p,⟨o,e⟩,st⟩:=x;exact ⟨st _ _ p fun o q=>k _ _ (.inl rfl) q,⟨o,k _ _ (.inl rfl) e⟩,st⟩
theorem HOk.lt (x:HOk P w H h) (e:H a=some o):a<h.objs.size:=(x a o e).lt
theorem HOk.fresh (x:HOk P w H h) (e:h.objs.size<=a):H a=none:=by
 cases q:H a with
 | none=>rfl
 | some u=>exact absurd (D5 (x.lt q) e) (Q6 _)
theorem HOk.kept (x:HOk P w H h) (k:∀ b u,h.get? b=some u->h'.get? b=some u):HOk P w H h':=fun a o e=>
 (x a o e).stay (fun b u _ q=>k b u q) (fun _ q=>q) fun _ _ q=>q
theorem HOk.laid (x:HOk P w H h) (k:∀ b u,h.get? b=some u->h'.get? b=some u) (hp:h.objs.size<=a) (new:ObjOk P w (upd H a o) h' a o):HOk P w (upd H a o) h':=fun b u e=>by
 have hn:=x.fresh hp;by_cases hb:b=a
 ·subst hb;rw [qA1] at e;cases e;exact new
 ·rw [qA8 hb] at e;exact (x b u e).stay (fun c v _ q=>k c v q) (fun c q=>by rw [qA8 (qA5 q hn)];exact q) (fun c xs q=>by rw [qA8 (qA5 q hn)];exact q) fun c t q=>by rw [qA8 (qA5 q hn)];exact q
end
def Rd (H:Hp) (a:Addr) (u:HO):Prop:=H a=some u\/∃ o,H a=some (.frz o u)
theorem Rd.ok {P:Program} {w:World} {H:Hp} {h:Heap} {a:Addr} {u:HO} (r:Rd H a u) (x:HOk P w H h):ObjOk P w H h a u:=by
 rcases r with r | ⟨o,r⟩
 ·exact x a u r
 ·obtain ⟨_,q⟩:=x a _ r;exact q
def Mut:Option HO->Prop
 | some (.lst _)=>True
 | some (.dK _)=>True
 | some (.dT _)=>True
 | some (.set _ _)=>True
 | some (.ins _ _ _)=>True
 | some (.ext _)=>True
 | _=>False
section
variable {P:Program} {w:World} {H:Hp} {h h':Heap} {x e:Addr} {o':HO}
theorem HOk.write (ok:HOk P w H h) (mu:Mut (H x)) (he:e=x\/H e=some (.own x)) (k:∀ b u,b ≠ e->h.get? b=some u->h'.get? b=some u) (heo:∃ u,h'.get? e=some u)
  (new:ObjOk P w (upd H x o') h' x o'):HOk P w (upd H x o') h':=fun b u q=>by
 have nown:∀ c y,H c=some (.own y)->c ≠ x:=fun c y r z=>by subst z;rw [r] at mu;exact mu
 have ntup:∀ c xs,H c=some (.tup xs)->c ≠ x:=fun c xs r z=>by subst z;rw [r] at mu;exact mu
 by_cases hb:b=x
 ·subst hb;rw [qA1] at q;cases q;exact new
 ·rw [qA8 hb] at q;by_cases hbe:b=e
  ·have q':H b=some (.own x):=by
    rcases he with z | z
    ·exact absurd (hbe.trans z) hb
    ·rw [hbe];exact z
   rw [q] at q';cases q';obtain ⟨v,hv⟩:=heo;exact ⟨v,by rw [hbe];exact hv⟩
  ·refine (ok b u q).stay (fun c v hc r=>k c v ?_ r) (fun c r=>by rw [qA8 (nown c b r)];exact r) (fun c xs r=>by rw [qA8 (ntup c xs r)];exact r) fun c t r=>by rw [qA8 (fun z=>by subst z;rw [r] at mu;exact mu)];exact r
   rcases hc with rfl | hc
   ·exact hbe
   ·rintro rfl;rcases he with z | z
    ·exact nown c b hc z
    ·rw [hc] at z;cases z;exact hb rfl
end
structure Un (fs ex:List Addr) (H H':Hp) (h h':Heap):Prop where
 keep:∀ b o,h.get? b=some o->H b=none->b ∉ fs->b ∉ ex->h'.get? b=some o
 slot:∀ b o,h.get? b=some o->H b=none->b ∈ fs->b ∉ ex->∃ sl,h'.get? b=some { o with slots:=sl }
 free:∀ b o,h.get? b=some o->H b=none->b ∉ ex->H' b=none
 there:∀ b o,h.get? b=some o->b ∉ ex->∃ o',h'.get? b=some o'
 tups:∀ b xs,H b=some (.tup xs)->H' b=some (.tup xs)
 frzs:∀ b o u,H b=some (.frz o u)->H' b=some (.frz o u)
 tbls:∀ b ps,H b=some (.tbl ps)->H' b=some (.tbl ps)
section
variable {fs fs' ex ex':List Addr} {H H1 H2:Hp} {h h1 h2 h':Heap} {a x e:Addr} {o:HO}
theorem Un.any (u:Un fs ex H H1 h h1) {b:Addr} {ob:Obj} (q:h.get? b=some ob) (n:H b=none) (hx:b ∉ ex):∃ sl,h1.get? b=some { ob with slots:=sl }:=by
 by_cases hb:b ∈ fs
 ·exact u.slot b ob q n hb hx
 ·exact ⟨ob.slots,u.keep b ob q n hb hx⟩
theorem Un.kept (k:∀ b u,h.get? b=some u->h'.get? b=some u):Un fs ex H H h h':=
 ⟨fun b ob q _ _ _=>k b ob q,fun b ob q _ _ _=>⟨ob.slots,k b ob q⟩,fun _ _ _ n _=>n,fun b ob q _=>⟨ob,k b ob q⟩,fun _ _ q=>q,fun _ _ _ q=>q,fun _ _ q=>q⟩
theorem Un.refl:Un fs ex H H h h:=Un.kept fun _ _ q=>q
theorem Un.laid (k:∀ b u,h.get? b=some u->h'.get? b=some u) (hp:h.objs.size<=a) (hn:H a=none):Un fs ex H (upd H a o) h h' where
 keep:=fun b u q _ _ _=>k b u q
 slot:=fun b u q _ _ _=>⟨u.slots,k b u q⟩
 free:=fun b u q n _=>by rw [qA8 (D4 (D5 (B7 q) hp))];exact n
 there:=fun b u q _=>⟨u,k b u q⟩
 tups:=fun b xs q=>by rw [qA8 (qA5 q hn)];exact q
 frzs:=fun b u xs q=>by rw [qA8 (qA5 q hn)];exact q
 tbls:=fun b ps q=>by rw [qA8 (qA5 q hn)];exact q
theorem Un.write (mu:Mut (H x)) (he:e=x\/H e=some (.own x)) (k:∀ b u,b ≠ e->h.get? b=some u->h'.get? b=some u) (heo:∃ u,h'.get? e=some u):Un fs ex H (upd H x o) h h':=by
 have hx:∀ b,H b=none->b ≠ x:=fun b n z=>by subst z;rw [n] at mu;exact mu
 have hb:∀ b,H b=none->b ≠ e:=fun b n z=>by
  subst z;rcases he with r | r
  ·exact hx b n r
  ·rw [n] at r;cases r
 have hm:∀ b u,H b=some u->¬ Mut (some u)->b ≠ x:=fun b u q nm z=>by subst z;rw [q] at mu;exact nm mu
 refine ⟨fun b u q n _ _=>k b u (hb b n) q,fun b u q n _ _=>⟨u.slots,k b u (hb b n) q⟩,fun b u q n _=>by rw [qA8 (hx b n)];exact n,fun b u q _=>?_,
  fun b xs q=>by rw [qA8 (hm b _ q fun z=>z)];exact q,fun b u xs q=>by rw [qA8 (hm b _ q fun z=>z)];exact q,fun b ps q=>by rw [qA8 (hm b _ q fun z=>z)];exact q⟩
 by_cases hbe:b=e
 ·subst hbe;exact heo
 ·exact ⟨u,k b u hbe q⟩
end
def trk (h:Heap) (H:Hp):List Addr:=(F6 h.objs.size).filter fun a=>(H a).isSome
def hidT (h:Heap) (H:Hp):Heap:=PySem.W.hideAll h (trk h H)
theorem qTF (h:Heap) (H:Hp):(hidT h H).objs.size=h.objs.size:=PySem.W.hideAll_size _ _
theorem qVY {h:Heap} {H:Hp} {b:Addr} {o:Obj} (e:h.get? b=some o) (n:H b=none):(hidT h H).get? b=some o:=
 PySem.W.hideAll_get _ e fun hm=>by
  have q:(H b).isSome=true:=(G6.mp hm).2;rw [n] at q;simp at q
theorem qY0 {h:Heap} {H:Hp} {b:Addr} {o:Obj} (e:(hidT h H).get? b=some o):h.get? b=some o/\H b=none:=by
 have e':h.get? b=some o:=PySem.W.of_hideAll (trk h H) e;refine ⟨e',?_⟩;cases q:H b with
 | none=>rfl
 | some x=>
  have hm:b ∈ trk h H:=G6.mpr ⟨M8.mpr (B7 e'),by simp [q]⟩
  have z:(hidT h H).get? b=none:=PySem.W.hideAll_none (trk h H) hm;rw [z] at e;cases e
def qYQ (g h:Heap) (L:Addr):List (Addr × Obj):=(F6 h.objs.size).filterMap fun a=>if a=L\/(g.get? a).isSome=true then none else (h.get? a).map fun o=>(a,o)
def rest (g h:Heap) (L d:Addr):List (Addr × Obj):=(qYQ g h L).filter fun p=>decide (p.1 ≠ d)
end L2
namespace L2
open PySem PySem.Spec PyProof.Rows
structure Mod (K:PySem.W.Frag) (mg:Str->Option Value) (base:Heap):Prop where
 kin:K.In base
 glob:base.Ns mainGlobals mg
 blt:∃ mb,base.Ns builtinsNs mb/\∀ x:Str,x ≠ "__name__"->mb x=bootBuiltins x
 nolimit:base.NoLimit
structure Cx where
 prog:Program
 w:World
 K:PySem.W.Frag
 mg:Str->Option Value
 base:Heap
 A:Around
 N:List Str
 s₀:Shared
 H₀:Hp
 env:Env
 outer:List Env
 stack:List Env
 ex:List Addr
 fn:Str->Bool
 calm:Bool
 pn:List (Addr × Obj)
 xe:Value->Shared->Prop
def frs (l:List Env):List Addr:=l.filterMap (·.frame)
abbrev Cx.fs (X:Cx):List Addr:=frs X.outer
def Vis (sc:Scope) (x:Str):Prop:=sc.names.lookup x=some .local\/sc.names.lookup x=some .cell\/sc.names.lookup x=some .free
def Loc (sc:Scope) (x:Str):Prop:=sc.names.lookup x=some .local\/sc.names.lookup x=some .cell
def Look (env:Env) (h:Heap) (m:Str->Option Value) (x:Str) (u:Value):Prop:=
 (env.kindOf x=some .local/\m x=some u)\/((env.kindOf x=some .cell\/env.kindOf x=some .free)/\∃ c,env.cells.lookup x=some c/\h.IsCell c (some u))
structure Cx.Ok (X:Cx):Prop where
 mod:Mod X.K X.mg X.base
 kind:X.env.scope.kind=.function
 glob:X.env.globals=mainGlobals
 blt:X.env.builtins=builtinsNs
 above:X.s₀.heap.objs.size<=X.env.locals
 inj:∀ x y c,X.env.cells.lookup x=some c->X.env.cells.lookup y=some c->x=y
 has:∀ x,(X.env.kindOf x=some .cell\/X.env.kindOf x=some .free)->∃ c,X.env.cells.lookup x=some c
 cab:∀ x c,X.fn x=true->X.env.cells.lookup x=some c->X.s₀.heap.objs.size<=c
 hd:X.calm=true->X.A.handled=none
 frames:X.A.frames=some X.stack
 stk:X.stack=X.outer\/(X.stack=X.env::X.outer/\X.env.frame=some X.env.locals)
 exf:∀ b ∈ X.ex,b ≠ X.env.locals/\∀ x c,X.env.cells.lookup x=some c->c ≠ b
 bs:∀ b o,X.base.get? b=some o->X.s₀.heap.get? b=some o/\X.H₀ b=none
 bsz:X.base.objs.size<=X.s₀.heap.objs.size
 noex:∀ b o,X.base.get? b=some o->b ∉ X.ex
 exfs:∀ b ∈ X.ex,b ∉ X.fs
 funs:X.s₀.heap.FunFrames X.base X.outer
 frf:∀ b ∈ X.fs,X.H₀ b=none
structure Inv (X:Cx) (Ab:List (Addr × Obj)) (σ:List (Option V)) (H:Hp) (s:Shared):Prop where
 ok:X.Ok
 os:s.os=X.s₀.os
 bare:AllBare s.gens
 base:Un X.fs X.ex X.H₀ H X.s₀.heap s.heap
 loc:∃ m,s.heap.Ns X.env.locals m/\∀ (i:Nat) (x:Str) (v:V),X.N[i]?=some x->σ[i]?=some (some v)->Vis X.env.scope x->∃ u,RelV v u/\Look X.env s.heap m x u
 cell:∀ x c,X.env.cells.lookup x=some c->∃ v,s.heap.IsCell c v
 free:H X.env.locals=none
 freeC:∀ x c,X.env.cells.lookup x=some c->H c=none
 pin:∀ p ∈ X.pn++Ab,s.heap.get? p.1=some p.2/\H p.1=none/\p.1 ≠ X.env.locals/\p.1 ∉ X.fs/\∀ v,p.2.data ≠ .cell v
 hok:HOk X.prog X.w H s.heap
 len:σ.length=X.N.length
section
variable {X:Cx} {Ab:List (Addr × Obj)} {σ:List (Option V)} {H H':Hp} {s:Shared} {h':Heap}
theorem Cx.Ok.nofr (ok:X.Ok) {b:Addr} {o:Obj} (e:X.base.get? b=some o):b ∉ X.fs:=fun hb=>by
 have:=(ok.funs.mem hb).1;rw [e] at this;cases this
theorem Inv.bs (I:Inv X Ab σ H s):∀ b o,X.base.get? b=some o->s.heap.get? b=some o/\H b=none:=fun b o e=>
 ⟨I.base.keep b o (I.ok.bs b o e).1 (I.ok.bs b o e).2 (I.ok.nofr e) (I.ok.noex b o e),I.base.free b o (I.ok.bs b o e).1 (I.ok.bs b o e).2 (I.ok.noex b o e)⟩
theorem Inv.bk (I:Inv X Ab σ H s):∀ b o,X.base.get? b=some o->s.heap.get? b=some o:=fun b o e=>(I.bs b o e).1
theorem Inv.mod (I:Inv X Ab σ H s):Mod X.K X.mg X.base:=I.ok.mod
theorem Inv.kIn (I:Inv X Ab σ H s):X.K.In s.heap:=I.ok.mod.kin.keeps I.bk
theorem Inv.nolimit (I:Inv X Ab σ H s):s.heap.NoLimit:=I.ok.mod.nolimit.keeps I.bk
theorem Inv.lt (I:Inv X Ab σ H s):X.env.locals<s.heap.objs.size:=let ⟨_,hn,_⟩:=I.loc;hn.lt
theorem Inv.sz (I:Inv X Ab σ H s):X.s₀.heap.objs.size<=s.heap.objs.size:=G9 I.ok.above (Q8 I.lt)
theorem Inv.nofs (I:Inv X Ab σ H s) {a:Addr} (h:s.heap.objs.size<=a):a ∉ X.fs:=fun hb=>by
 obtain ⟨_,o,ho,_⟩:=I.ok.funs.mem hb;exact absurd (D5 (B7 ho) (G9 I.sz h)) (Q6 _)
theorem Inv.cne (I:Inv X Ab σ H s):∀ x c,X.env.cells.lookup x=some c->c ≠ X.env.locals:=fun x c e z=>by
 obtain ⟨v,o,ho,hd⟩:=I.cell x c e;obtain ⟨m,⟨o',es,ep,ho',hd',_⟩,_⟩:=I.loc;rw [z,ho'] at ho;cases ho;rw [hd'] at hd;cases hd
theorem Inv.funs (I:Inv X Ab σ H s):s.heap.FunFrames X.base X.outer:=by
 have all:∀ (l:List Env),(∀ b ∈ frs l,b ∈ X.fs)->X.s₀.heap.FunFrames X.base l->s.heap.FunFrames X.base l:=by
  intro l
  induction l with
  | nil=>intro _ _;trivial
  | cons env r ih=>
   intro hs hl;obtain ⟨hk,⟨L,o,hf,hn,ho,hd⟩,hr⟩:=hl;have hL:L ∈ X.fs:=hs L (by unfold frs;rw [d0,hf];exact A6)
   obtain ⟨sl,e⟩:=I.base.slot L o ho (I.ok.frf L hL) hL fun z=>I.ok.exfs L z hL;exact ⟨hk,⟨L,_,hf,hn,e,hd⟩,ih (fun b hb=>hs b (by unfold frs;rw [d0,hf];exact A5 _ hb)) hr⟩
 exact all X.outer (fun _ hb=>hb) I.ok.funs
theorem Inv.stack (I:Inv X Ab σ H s):s.heap.FunFrames X.base X.stack:=by
 rcases I.ok.stk with e | ⟨e,hf⟩
 ·rw [e];exact I.funs
 ·rw [e];obtain ⟨m,hn,_⟩:=I.loc;refine .cons (by rw [I.ok.kind];decide) hf hn ?_ I.funs
  exact Heap.get?_none_of_le (G9 I.ok.bsz I.ok.above)
theorem Inv.stkSub (I:Inv X Ab σ H s):∀ b ∈ frs X.stack,b ∈ X.env.locals::X.fs:=fun b hb=>by
 rcases I.ok.stk with e | ⟨e,hf⟩
 ·rw [e] at hb;exact A5 _ hb
 ·rw [e] at hb;unfold frs at hb;rw [d0,hf] at hb;exact hb
theorem Inv.stkFree (I:Inv X Ab σ H s):∀ b ∈ frs X.stack,H b=none:=fun b hb=>by
 rcases B6.mp (I.stkSub b hb) with e | hb
 ·rw [e];exact I.free
 ·obtain ⟨_,o,ho,_⟩:=I.ok.funs.mem hb;exact I.base.free b o ho (I.ok.frf b hb) fun z=>I.ok.exfs b z hb
theorem Inv.step {g':Array GenState} {t':Nat} {d':Drawn} {ch:List Addr} (I:Inv X Ab σ H s)
  (hch:∀ b ∈ ch,(b ∈ X.ex\/X.s₀.heap.objs.size<=b)/\b ≠ X.env.locals/\(∀ x c,X.env.cells.lookup x=some c->c ≠ b)/\∀ p ∈ X.pn++Ab,p.1 ≠ b)
  (keep:∀ b o,b ≠ X.env.locals->b ∉ X.fs->b ∉ ch->s.heap.get? b=some o->H b=none->h'.get? b=some o)
  (slot:∀ b o,b ≠ X.env.locals->b ∈ X.fs->b ∉ ch->s.heap.get? b=some o->H b=none->∃ sl,h'.get? b=some { o with slots:=sl }) (free:∀ b o,b ∉ ch->s.heap.get? b=some o->H b=none->H' b=none)
  (there:∀ b o,b ∉ ch->s.heap.get? b=some o->∃ o',h'.get? b=some o')
  (tups:∀ b xs,H b=some (.tup xs)->H' b=some (.tup xs)) (frzs:∀ b o u,H b=some (.frz o u)->H' b=some (.frz o u)) (tbls:∀ b ps,H b=some (.tbl ps)->H' b=some (.tbl ps))
  (ns:∀ m,s.heap.Ns X.env.locals m->h'.Ns X.env.locals m) (hok:HOk X.prog X.w H' h') (hg:AllBare g') :
  Inv X Ab σ H' { s with heap:=h',gens:=g',drawn:=d',toks:=t' }:=by
 have neL:∀ b o,X.s₀.heap.get? b=some o->b ≠ X.env.locals:=fun b o e=>D4 (D5 (B7 e) I.ok.above);have neC:∀ b o,X.s₀.heap.get? b=some o->b ∉ X.ex->b ∉ ch:=fun b o e hx hb=>by
  rcases (hch b hb).1 with z | z
  ·exact hx z
  ·exact absurd (D5 (B7 e) z) (Q6 _)
 have cellK:∀ x c,X.env.cells.lookup x=some c->∀ v,s.heap.IsCell c v->h'.IsCell c v:=fun x c e v ⟨o,ho,hd⟩=>by
  have nch:c ∉ ch:=fun z=>(hch c z).2.2.1 x c e rfl;by_cases hc:c ∈ X.fs
  ·obtain ⟨sl,q⟩:=slot c o (I.cne x c e) hc nch ho (I.freeC x c e);exact ⟨_,q,hd⟩
  ·exact ⟨o,keep c o (I.cne x c e) hc nch ho (I.freeC x c e),hd⟩
 refine ⟨I.ok,I.os,hg,⟨fun b o e n hb hx=>?_,fun b o e n hb hx=>?_,fun b o e n hx=>?_,fun b o e hx=>?_,fun b xs e=>tups b xs (I.base.tups b xs e),fun b o xs e=>frzs b o xs (I.base.frzs b o xs e),fun b ps e=>?_⟩,?_,fun x c e=>?_,?_,fun x c e=>?_,fun p hp=>?_,hok,I.len⟩
 ·exact keep b o (neL b o e) hb (neC b o e hx) (I.base.keep b o e n hb hx) (I.base.free b o e n hx)
 ·obtain ⟨sl,e1⟩:=I.base.slot b o e n hb hx;obtain ⟨sl',e2⟩:=slot b _ (neL b o e) hb (neC b o e hx) e1 (I.base.free b o e n hx);exact ⟨sl',e2⟩
 ·obtain ⟨o',e1⟩:=I.base.there b o e hx;exact free b o' (neC b o e hx) e1 (I.base.free b o e n hx)
 ·obtain ⟨o',e1⟩:=I.base.there b o e hx;exact there b o' (neC b o e hx) e1
 ·exact tbls b ps (I.base.tbls b ps e)
 ·obtain ⟨m,hn,hl⟩:=I.loc;refine ⟨m,ns m hn,fun i x v e1 e2 e3=>?_⟩;obtain ⟨u,r,l⟩:=hl i x v e1 e2 e3;refine ⟨u,r,?_⟩;rcases l with l | ⟨k,c,e,z⟩
  ·exact .inl l
  ·exact .inr ⟨k,c,e,cellK x c e _ z⟩
 ·obtain ⟨v,z⟩:=I.cell x c e;exact ⟨v,cellK x c e v z⟩
 ·obtain ⟨m,⟨o,_,_,ho,_⟩,_⟩:=I.loc;exact free _ o (fun z=>(hch _ z).2.1 rfl) ho I.free
 ·obtain ⟨v,o,ho,hd⟩:=I.cell x c e;exact free c o (fun z=>(hch c z).2.2.1 x c e rfl) ho (I.freeC x c e)
 ·obtain ⟨e,n,ne,nf,d⟩:=I.pin p hp;have nch:p.1 ∉ ch:=fun z=>(hch p.1 z).2.2.2 p hp rfl;exact ⟨keep p.1 p.2 ne nf nch e n,free p.1 p.2 nch e n,ne,nf,d⟩
theorem Inv.un {t':Nat} (I:Inv X Ab σ H s) (u:Un X.fs [] H H' s.heap h') (hok:HOk X.prog X.w H' h'):Inv X Ab σ H' { s with heap:=h',toks:=t' }:=by
 obtain ⟨m,⟨o,es,ep,ho,r⟩,_⟩:=id I.loc;obtain ⟨sl,hL⟩:=u.any ho I.free (by simp)
 exact I.step (g':=s.gens) (d':=s.drawn) (ch:=[]) (fun _ z=>nomatch z) (fun b o _ hb _ e n=>u.keep b o e n hb (by simp)) (fun b o _ hb _ e n=>u.slot b o e n hb (by simp)) (fun b o _ e n=>u.free b o e n (by simp)) (fun b o _ e=>u.there b o e (by simp)) u.tups u.frzs u.tbls (fun m' hm=>by
  obtain ⟨o',es',ep',ho',r'⟩:=hm;rw [ho] at ho';cases ho';exact ⟨_,es',ep',hL,r'⟩) hok I.bare
theorem Inv.call {g':Array GenState} {t':Nat} {d':Drawn} {ch:List Addr} (I:Inv X Ab σ H s) (u:Un (frs X.stack) ch H H' s.heap h') (hok:HOk X.prog X.w H' h') (hg:AllBare g')
  (hch:∀ b ∈ ch,(b ∈ X.ex\/X.s₀.heap.objs.size<=b)/\b ≠ X.env.locals/\(∀ x c,X.env.cells.lookup x=some c->c ≠ b)/\∀ p ∈ X.pn++Ab,p.1 ≠ b) :
  Inv X Ab σ H' { s with heap:=h',gens:=g',drawn:=d',toks:=t' }:=by
 obtain ⟨m,⟨o,es,ep,ho,r⟩,_⟩:=id I.loc;obtain ⟨sl,hL⟩:=u.any ho I.free fun z=>(hch _ z).2.1 rfl;exact I.step (ch:=ch) hch (fun b o hL hb hc e n=>u.keep b o e n (fun z=>(B6.mp (I.stkSub b z)).elim hL hb) hc) (fun b o _ _ hc e n=>u.any e n hc) (fun b o hc e n=>u.free b o e n hc) (fun b o hc e=>u.there b o e hc) u.tups u.frzs u.tbls (fun m' hm=>by
  obtain ⟨o',es',ep',ho',r'⟩:=hm;rw [ho] at ho';cases ho';exact ⟨_,es',ep',hL,r'⟩) hok hg
theorem Inv.turned {t':Nat} {it:Addr} (I:Inv X Ab σ H s) (k:∀ b o,b ≠ it->s.heap.get? b=some o->h'.get? b=some o) (hn:H it=none) (hL:it ≠ X.env.locals)
  (h1:it ∈ X.ex\/X.s₀.heap.objs.size<=it) (h2:∀ x c,X.env.cells.lookup x=some c->c ≠ it) (h3:∀ p ∈ X.pn++Ab,p.1 ≠ it):Inv X Ab σ H { s with heap:=h',toks:=t' }:=by
 have nit:∀ b u,H b=some u->b ≠ it:=fun b u e z=>by rw [z,hn] at e;cases e
 refine I.step (g':=s.gens) (d':=s.drawn) (ch:=[it]) (fun b hb=>?_) (fun b o _ _ hc e _=>k b o (fun z=>hc (by simp [z])) e) (fun b o _ _ hc e _=>⟨o.slots,k b o (fun z=>hc (by simp [z])) e⟩) (fun _ _ _ _ n=>n)
  (fun b o hc e=>⟨o,k b o (fun z=>hc (by simp [z])) e⟩) (fun _ _ e=>e) (fun _ _ _ e=>e) (fun _ _ e=>e) (fun m hm=>?_) (fun b u e=>?_) I.bare
 ·have e:b=it:=by simpa using hb
  subst e;exact ⟨h1,hL,h2,h3⟩
 ·obtain ⟨o,es,ep,ho,r⟩:=hm;exact ⟨o,es,ep,k _ o (G3 hL) ho,r⟩
 ·refine (I.hok b u e).stay (fun c v hc q=>k c v ?_ q) (fun _ q=>q) fun _ _ q=>q;rcases hc with z | z
  ·rw [z];exact nit b u e
  ·exact nit c _ z
theorem Inv.tok (I:Inv X Ab σ H s) (t:Nat):Inv X Ab σ H { s with toks:=t }:=I.un (h':=s.heap) (t':=t) Un.refl I.hok
theorem Inv.kept {t':Nat} (I:Inv X Ab σ H s) (k:∀ b u,s.heap.get? b=some u->h'.get? b=some u):Inv X Ab σ H { s with heap:=h',toks:=t' }:=I.un (Un.kept k) (I.hok.kept k)
theorem Inv.laid {a:Addr} {o:HO} {t':Nat} (I:Inv X Ab σ H s) (k:∀ b u,s.heap.get? b=some u->h'.get? b=some u) (hp:s.heap.objs.size<=a) (new:ObjOk X.prog X.w (upd H a o) h' a o) :
  Inv X Ab σ (upd H a o) { s with heap:=h',toks:=t' }:=I.un (Un.laid k hp (I.hok.fresh hp)) (I.hok.laid k hp new)
theorem Inv.write {x e:Addr} {o:HO} {t':Nat} (I:Inv X Ab σ H s) (mu:Mut (H x)) (he:e=x\/H e=some (.own x)) (k:∀ b u,b ≠ e->s.heap.get? b=some u->h'.get? b=some u) (heo:∃ u,h'.get? e=some u)
  (new:ObjOk X.prog X.w (upd H x o) h' x o):Inv X Ab σ (upd H x o) { s with heap:=h',toks:=t' }:=I.un (Un.write mu he k heo) (I.hok.write mu he k heo new)
theorem Inv.pins_of {pins':List (Addr × Obj)} (I:Inv X Ab σ H s) (h:∀ p ∈ pins',s.heap.get? p.1=some p.2/\H p.1=none/\p.1 ≠ X.env.locals/\p.1 ∉ X.fs/\∀ v,p.2.data ≠ .cell v):Inv X pins' σ H s:=
 ⟨I.ok,I.os,I.bare,I.base,I.loc,I.cell,I.free,I.freeC,fun p hp=>(D6.mp hp).elim (fun z=>I.pin p (Q2 _ z)) (h p),I.hok,I.len⟩
theorem qPL {N:List Str} (hN:N.Nodup) {i j:Nat} {x:Str} (a:N[i]?=some x) (b:N[j]?=some x):i=j:=by
 obtain ⟨h1,e1⟩:=A4.mp a;obtain ⟨h2,e2⟩:=A4.mp b;exact (List.getElem_inj hN).mp (e1.trans e2.symm)
theorem qLZ {M:Model} {A:Around} {E:Value->Shared->Prop} {i:Nat} {x:Str} {v:V} {u:Value} {Q:Unit->Shared->Prop} (I:Inv X Ab σ H s) (hN:X.N.Nodup) (hi:X.N[i]?=some x) (hx:Loc X.env.scope x) (r:RelV v u)
  (h:∀ s',Inv X Ab (σ.set i (some v)) H s'->(∃ a,Heap.SameBut a s.heap s'.heap/\(a=X.env.locals\/X.env.cells.lookup x=some a))->Q () s') (hf:X.fn x=true\/X.env.scope.names.lookup x=some .local:=by first | exact .inl rfl | exact .inr rfl | assumption):wpAny M A (storeName X.env x u) Q E s:=by
 obtain ⟨m,hn,hl⟩:=id I.loc;have hcls:(X.env.scope.kind == .class || (X.env.scope.kind == .module && X.env.locals != X.env.globals))=false:=by rw [I.ok.kind];rfl
 have hiσ:i<σ.length:=by rw [I.len];exact (A4.mp hi).1
 have cne:=I.cne;have tracked:∀ {a:Addr} {h':Heap},(∃ o,s.heap.get? a=some o/\H a=none)->Heap.SameBut a s.heap h'->HOk X.prog X.w H h':=fun {a h'} ha hs b ob e=>by
  obtain ⟨_,_,hfree⟩:=ha;refine (I.hok b ob e).stay (fun c w' hc q=>(hs.2 c ?_).trans q) (fun _ q=>q) fun _ _ q=>q;rintro rfl;rcases hc with rfl | hc
  ·rw [hfree] at e;cases e
  ·rw [hfree] at hc;cases hc
 rcases hx with hk | hk
 ·refine wpAny_storeName_local hk hn (fun h' hn' hs=>?_) hcls;obtain ⟨oL,_,_,hoL,_⟩:=id hn;refine h _ ⟨I.ok,I.os,I.bare,⟨fun b o e n hb hx=>?_,fun b o e n hb hx=>?_,I.base.free,fun b o e hx=>?_,I.base.tups,I.base.frzs,I.base.tbls⟩,⟨_,hn',fun j y v' e1 e2 e3=>?_⟩,fun y c e=>?_,I.free,I.freeC,fun p hp=>?_,tracked ⟨oL,hoL,I.free⟩ hs,by simpa using I.len⟩ ⟨_,hs,.inl rfl⟩
  ·exact (hs.2 b (D4 (D5 (B7 e) I.ok.above))).trans (I.base.keep b o e n hb hx)
  ·obtain ⟨sl,e1⟩:=I.base.slot b o e n hb hx;exact ⟨sl,(hs.2 b (D4 (D5 (B7 e) I.ok.above))).trans e1⟩
  ·obtain ⟨o',e1⟩:=I.base.there b o e hx;exact ⟨o',(hs.2 b (D4 (D5 (B7 e) I.ok.above))).trans e1⟩
  ·by_cases hj:j=i
   ·subst hj;rw [hi] at e1;cases e1;rw [V4 hiσ] at e2;cases e2;exact ⟨u,r,.inl ⟨hk,by simp⟩⟩
   ·rw [W9 (G3 hj)] at e2;obtain ⟨u',r',q⟩:=hl j y v' e1 e2 e3;refine ⟨u',r',?_⟩;rcases q with ⟨k,e⟩ | ⟨k,c,e,z⟩
    ·refine .inl ⟨k,?_⟩;have:y ≠ x:=fun e=>hj (qPL hN e1 (e ▸ hi));simp [this,e]
    ·exact .inr ⟨k,c,e,z.sameBut hs (cne y c e)⟩
  ·obtain ⟨w',z⟩:=I.cell y c e;exact ⟨w',z.sameBut hs (cne y c e)⟩
  ·obtain ⟨e,n,ne,nf,d⟩:=I.pin p hp;exact ⟨(hs.2 p.1 ne).trans e,n,ne,nf,d⟩
 ·have hfn:X.fn x=true:=by
   rcases hf with z | z
   ·exact z
   ·rw [z] at hk;cases hk
  obtain ⟨c,hc⟩:=I.ok.has x (.inl hk);obtain ⟨w',z⟩:=I.cell x c hc;refine wpAny_storeName_cell I.ok.kind hk hc z (fun h' hc' hs=>?_);obtain ⟨oc,hoc,hocd⟩:=id z;refine h { s with heap:=h' } ⟨I.ok,I.os,I.bare,⟨fun b o e n hb hx=>?_,fun b o e n hb hx=>?_,I.base.free,fun b o e hx=>?_,I.base.tups,I.base.frzs,I.base.tbls⟩,⟨m,hn.sameBut hs (G3 (cne x c hc)),fun j y v' e1 e2 e3=>?_⟩,fun y c' e=>?_,I.free,I.freeC,fun p hp=>?_,tracked ⟨oc,hoc,I.freeC x c hc⟩ hs,by simpa using I.len⟩ ⟨c,hs,.inr hc⟩
  ·exact (hs.2 b (D4 (D5 (B7 e) (I.ok.cab x c hfn hc)))).trans (I.base.keep b o e n hb hx)
  ·obtain ⟨sl,e1⟩:=I.base.slot b o e n hb hx;exact ⟨sl,(hs.2 b (D4 (D5 (B7 e) (I.ok.cab x c hfn hc)))).trans e1⟩
  ·obtain ⟨o',e1⟩:=I.base.there b o e hx;exact ⟨o',(hs.2 b (D4 (D5 (B7 e) (I.ok.cab x c hfn hc)))).trans e1⟩
  ·by_cases hj:j=i
   ·subst hj;rw [hi] at e1;cases e1;rw [V4 hiσ] at e2;cases e2;exact ⟨u,r,.inr ⟨.inl hk,c,hc,hc'⟩⟩
   ·rw [W9 (G3 hj)] at e2;obtain ⟨u',r',q⟩:=hl j y v' e1 e2 e3;refine ⟨u',r',?_⟩;rcases q with q | ⟨k,c',e,z'⟩
    ·exact .inl q
    ·refine .inr ⟨k,c',e,z'.sameBut hs ?_⟩;rintro rfl;exact hj (qPL hN e1 (I.ok.inj _ _ _ e hc ▸ hi))
  ·by_cases hcc:c'=c
   ·subst hcc;exact ⟨_,hc'⟩
   ·obtain ⟨w2,z2⟩:=I.cell y c' e;exact ⟨w2,z2.sameBut hs hcc⟩
  ·obtain ⟨e,n,ne,nf,d⟩:=I.pin p hp;refine ⟨(hs.2 p.1 ?_).trans e,n,ne,nf,d⟩;intro q;rw [q,hoc] at e;have q':oc=p.2:=C6 e;exact d w' (by rw [<- q'];exact hocd)
theorem qKN {M:Model} {A:Around} {E:Value->Shared->Prop} {i:Nat} {x:Str} {v:V} {u:Value} {Q:Unit->Shared->Prop} (I:Inv X Ab σ H s) (hN:X.N.Nodup) (hi:X.N[i]?=some x) (hx:Loc X.env.scope x) (r:RelV v u)
  (h:∀ s',Inv X Ab (σ.set i (some v)) H s'->Q () s') (hf:X.fn x=true\/X.env.scope.names.lookup x=some .local:=by first | exact .inl rfl | exact .inr rfl | assumption):wpAny M A (storeName X.env x u) Q E s:=
 qLZ I hN hi hx r (fun s' I' _=>h s' I') hf
theorem Inv.call' {s':Shared} {ch:List Addr} (I:Inv X Ab σ H s) (ho:s'.os=s.os) (u:Un (frs X.stack) ch H H' s.heap s'.heap) (hok:HOk X.prog X.w H' s'.heap) (hg:AllBare s'.gens)
  (hch:∀ b ∈ ch,(b ∈ X.ex\/X.s₀.heap.objs.size<=b)/\b ≠ X.env.locals/\(∀ x c,X.env.cells.lookup x=some c->c ≠ b)/\∀ p ∈ X.pn++Ab,p.1 ≠ b):Inv X Ab σ H' s':=by
 obtain ⟨h',g',d',t',o'⟩:=s';have e:o'=s.os:=ho;subst e;exact I.call (g':=g') (t':=t') (d':=d') u hok hg hch
end
abbrev XK:=Value->Option Addr->Hp->Prop
abbrev St:=List (Option V)
abbrev VK:=V->Hp->Prop
abbrev TE:=St->Hp->VK->Prop
abbrev TT:=St->Hp->(Bool->Hp->Prop)->Prop
abbrev TA:=St->Hp->(List V->Hp->Prop)->Prop
structure Ends where
 nx:St->Hp->Prop
 rt:VK
 bk:St->Hp->Prop:=fun _ _=>False
 ct:St->Hp->Prop:=fun _ _=>False
abbrev TS:=Ends->St->Hp->Prop
def EP (X:Cx) (Ab:List (Addr × Obj)) (σ:St) (Q:VK) (u:Value) (s':Shared):Prop:=∃ v H',Inv X Ab σ H' s'/\RelV v u/\Q v H'
def TP (X:Cx) (Ab:List (Addr × Obj)) (σ:St) (Q:Bool->Hp->Prop) (b:Bool) (s':Shared):Prop:=∃ H',Inv X Ab σ H' s'/\Q b H'
def AP (X:Cx) (Ab:List (Addr × Obj)) (σ:St) (Q:List V->Hp->Prop) (us:List Value) (s':Shared):Prop:=∃ vs H',Inv X Ab σ H' s'/\Vals vs us/\Q vs H'
def SP (X:Cx) (Ab:List (Addr × Obj)) (D:Ends) (f:Flow) (s':Shared):Prop:=
 match f with
 | .next=>∃ σ' H',Inv X Ab σ' H' s'/\D.nx σ' H'
 | .brk=>∃ σ' H',Inv X Ab σ' H' s'/\D.bk σ' H'
 | .cont=>∃ σ' H',Inv X Ab σ' H' s'/\D.ct σ' H'
 | .ret u=>∃ v σ' H',Inv X Ab σ' H' s'/\RelV v u/\D.rt v H'
def PE (X:Cx) (e:Expr) (t:TE):Prop:=
 ∀ (Ab:List (Addr × Obj)) (s:Shared) (σ:St) (H:Hp) (Q:VK),Inv X Ab σ H s->t σ H Q->wpAny (model X.prog X.w) X.A (eval e X.env) (EP X Ab σ Q) X.xe s
def PT (X:Cx) (e:Expr) (t:TT):Prop:=
 ∀ (Ab:List (Addr × Obj)) (s:Shared) (σ:St) (H:Hp) (Q:Bool->Hp->Prop),Inv X Ab σ H s->t σ H Q->wpAny (model X.prog X.w) X.A (isTrue e X.env (eval e X.env)) (TP X Ab σ Q) X.xe s
def PW (X:Cx) (e:Expr) (t:TT):Prop:=
 ∀ (whole:Sem Value) (Ab:List (Addr × Obj)) (s:Shared) (σ:St) (H:Hp) (Q:Bool->Hp->Prop),Inv X Ab σ H s->t σ H Q->wpAny (model X.prog X.w) X.A (isTrue e X.env whole) (TP X Ab σ Q) X.xe s
theorem PW.pt {X:Cx} {e:Expr} {t:TT} (h:PW X e t):PT X e t:=h _
def PA (X:Cx) (es:List Expr) (t:TA):Prop:=
 ∀ (pos:Pos) (Ab:List (Addr × Obj)) (s:Shared) (σ:St) (H:Hp) (Q:List V->Hp->Prop),Inv X Ab σ H s->t σ H Q->wpAny (model X.prog X.w) X.A (spliced (backTo pos (starEach es X.env))) (AP X Ab σ Q) X.xe s
def PS (X:Cx) (st:Stmt) (t:TS):Prop:=
 ∀ (Ab:List (Addr × Obj)) (s:Shared) (σ:St) (H:Hp) (D:Ends),Inv X Ab σ H s->t D σ H->wpAny (model X.prog X.w) X.A (exec st X.env) (SP X Ab D) X.xe s
def PSs (X:Cx) (st:List Stmt) (t:TS):Prop:=
 ∀ (Ab:List (Addr × Obj)) (s:Shared) (σ:St) (H:Hp) (D:Ends),Inv X Ab σ H s->t D σ H->wpAny (model X.prog X.w) X.A (execs st X.env) (SP X Ab D) X.xe s
theorem thn {α:Type} {t:Sem α} {Q Q':α->Shared->Prop} {M:Model} {A:Around} {E:Value->Shared->Prop} {s:Shared} (h:wpAny M A t Q E s) (hQ:∀ a s,Q a s->Q' a s):wpAny M A t Q' E s:=wpAny_mono h hQ fun _ _ x=>x
end L2
namespace L2
open PySem PySem.Spec PyProof.Rows
section
variable {X:Cx}
theorem bin {a b:Expr} {ta tb:TE} (ha:PE X a ta) (hb:PE X b tb) {Ab:List (Addr × Obj)} {s:Shared} {σ:St} {H:Hp} {R:V->V->Hp->Prop} (I:Inv X Ab σ H s) (h:ta σ H fun x H1=>tb σ H1 fun y H2=>R x y H2)
  {α:Type} {Q:α->Shared->Prop} {f:Value->Value->Sem α}
  (hf:∀ v u s2 x y H2,Inv X Ab σ H2 s2->RelV x v->RelV y u->R x y H2->wpAny (model X.prog X.w) X.A (f v u) Q X.xe s2) :
  wpAny (model X.prog X.w) X.A (eval a X.env) (fun v s₁=>wpAny (model X.prog X.w) X.A (eval b X.env) (fun u s₂=>wpAny (model X.prog X.w) X.A (f v u) Q X.xe s₂) X.xe s₁) X.xe s:=by
 refine thn (ha Ab s σ H _ I h) fun v s1 ⟨x,H1,I1,r1,q1⟩=>?_;refine thn (hb Ab s1 σ H1 _ I1 q1) fun u s2 ⟨y,H2,I2,r2,q2⟩=>?_;exact hf v u s2 x y H2 I2 r1 r2 q2
def tVar (i:Nat):TE:=fun σ H Q=>∃ v,σ[i]?=some (some v)/\Q v H
def tC (v:V):TE:=fun _ H Q=>Q v H
theorem qZO {i:Nat} {x:Str} {pos:Pos} (hN:X.N[i]?=some x) (hv:Vis X.env.scope x) (hd:(x == ("__debug__" : Str))=false:=by decide) (hcd:(x == ("__classdict__" : Str))=false:=by decide):PE X (.Name x pos) (tVar i):=by
 intro Ab s σ H Q I h;obtain ⟨v,e,h⟩:=h;obtain ⟨m,hn,hl⟩:=I.loc;obtain ⟨u,r,l⟩:=hl i x v hN e hv;have fin:EP X Ab σ Q u s:=⟨v,H,I,r,h⟩;rcases l with ⟨hk,hm⟩ | ⟨hk,c,hc,hcell⟩
 ·exact wpAny_Name (wpAny_loadName_local I.ok.kind hk hn hm fin) hd
 ·rcases hk with hk | hk
  ·exact wpAny_Name (wpAny_loadName_cell I.ok.kind hk hc hcell fin) hd
  ·exact wpAny_Name (wpAny_loadName_free I.ok.kind hk hc hcell fin hcd) hd
theorem qA7 {i j pos}:PE X (.Constant (.int i) j pos) (tC (.int i)):=fun _ _ _ H _ I h=>wpAny_Constant_int ⟨.int i,H,I.tok _,⟨_,rfl⟩,h⟩
theorem qFM {b j pos}:PE X (.Constant (.bool b) j pos) (tC (.bl b)):=fun _ _ _ H _ I h=>Constant_bool ⟨.bl b,H,I,rfl,h⟩
theorem qIS {x j pos}:PE X (.Constant (.str x) j pos) (tC (.str x)):=fun _ _ _ H _ I h=>Calls.Constant_str ⟨.str x,H,I.tok _,⟨_,rfl⟩,h⟩
def Gl (X:Cx) (x:Str):Prop:=X.env.kindOf x=some .globalImplicit
theorem qY8 {E:Value->Shared->Prop} {Ab:List (Addr × Obj)} {s:Shared} {σ:St} {H:Hp} {x:Str} {u:Value} {pos:Pos} {Q:Value->Shared->Prop} (I:Inv X Ab σ H s) (hg:Gl X x) (hm:X.mg x=some u) (h:Q u s)
  (hd:(x == ("__debug__" : Str))=false:=by decide):wpAny (model X.prog X.w) X.A (eval (.Name x pos) X.env) Q E s:=
 Calls.Name_function_global I.ok.kind hg (Calls.loadGlobal_global (by rw [I.ok.glob];exact I.mod.glob.keeps I.bk) hm h) hd
theorem qGD {E:Value->Shared->Prop} {Ab:List (Addr × Obj)} {s:Shared} {σ:St} {H:Hp} {x:Str} {u:Value} {pos:Pos} {Q:Value->Shared->Prop} (I:Inv X Ab σ H s) (hg:Gl X x) (hm:X.mg x=none) (hv:bootBuiltins x=some u) (h:Q u s)
  (hn:x ≠ "__name__":=by decide) (hd:(x == ("__debug__" : Str))=false:=by decide):wpAny (model X.prog X.w) X.A (eval (.Name x pos) X.env) Q E s:=by
 obtain ⟨mb,h1,h2⟩:=I.mod.blt;exact Calls.Name_function_global I.ok.kind hg (Calls.loadGlobal_builtin (by rw [I.ok.glob];exact I.mod.glob.keeps I.bk) hm (by rw [I.ok.blt];exact h1.keeps I.bk) ((h2 x hn).trans hv) h) hd
theorem qCM {x:Str} {v:V} {u:Value} {pos:Pos} (hg:Gl X x) (hm:X.mg x=none) (hv:bootBuiltins x=some u) (r:RelV v u) (hn:x ≠ "__name__":=by decide) (hd:(x == ("__debug__" : Str))=false:=by decide):PE X (.Name x pos) (tC v):=
 fun _ _ _ H _ I h=>qGD I hg hm hv ⟨v,H,I,r,h⟩ hn hd
variable {a b:Expr} {ta tb:TE} {pos:Pos}
def PC (X:Cx) (op:CmpOp) (a b:Expr) (t:TE):Prop:=
 ∀ (Ab:List (Addr × Obj)) (s:Shared) (σ:St) (H:Hp) (Q:VK),Inv X Ab σ H s->t σ H Q->
  wpAny (model X.prog X.w) X.A (eval a X.env) (fun v s₁=>wpAny (model X.prog X.w) X.A (eval b X.env) (fun u s₂=>wpAny (model X.prog X.w) X.A (compareOp op v u) (EP X Ab σ Q) X.xe s₂) X.xe s₁) X.xe s
theorem qPM (b:Expr) {op:CmpOp} (h:op ≠ .In) (h2:op ≠ .NotIn):behindInMarks op b=false:=by
 have e1:(op == CmpOp.In)=false:=by cases op <;> first | rfl | exact absurd rfl h
 have e2:(op == CmpOp.NotIn)=false:=by cases op <;> first | rfl | exact absurd rfl h2
 cases b <;> simp [behindInMarks,e1,e2]
def tIsN (ta:TE):TE:=fun σ H Q=>ta σ H fun x H1=>Q (.bl (decide (x=.non))) H1
theorem RelV.none_iff {x:V} {v:Value} (r:RelV x v):(v == P1)=decide (x=.non):=by
 cases x with
 | non=>cases r;rfl
 | bl _=>cases r;rfl
 | int _=>obtain ⟨t,rfl⟩:=r;rfl
 | str _=>obtain ⟨t,rfl⟩:=r;rfl
 | byt _=>obtain ⟨t,rfl⟩:=r;rfl
 | flt _=>obtain ⟨t,rfl⟩:=r;rfl
 | ref _=>cases r;rfl
 | ty _=>cases r;rfl
theorem qWU {j pos'} (ha:PE X a ta):PC X .Is a (.Constant .none j pos') (tIsN ta):=by
 intro Ab s σ H Q I h;refine thn (ha Ab s σ H _ I h) fun v s1 ⟨x,H1,I1,r1,q1⟩=>?_;exact Constant_none (is_none_gen ⟨.bl _,H1,I1,by rw [r1.none_iff];rfl,q1⟩)
def tB (t:TE):TT:=fun σ H Q=>t σ H fun x H1=>∃ c,x=.bl c/\Q c H1
theorem qWS {op:CmpOp} {t:TE} (h:PC X op a b t) (h1:behindInMarks op b=false:=by first | exact qPM _ (by decide) (by decide) | rfl):PE X (.Compare a [op] [b] pos) t:=fun Ab s σ H Q I hw=>wpAny_Compare1 (h Ab s σ H Q I hw) h1
theorem qS2 {op:CmpOp} {t:TE} (h:PC X op a b t) (h1:behindInMarks op b=false:=by first | exact qPM _ (by decide) (by decide) | rfl):PT X (.Compare a [op] [b] pos) (tB t):=by
 intro Ab s σ H Q I hw;refine wpAny_isTrue_Compare1 (thn (h Ab s σ H _ I hw) fun v s1 h1=>thn h1 fun u s2 h2=>thn h2 fun c s3 ⟨x,H1,I1,r1,q1⟩=>?_) h1;obtain ⟨d,rfl,q⟩:=q1;cases r1;exact wpAny_truthy_bool ⟨H1,I1,q⟩
theorem qDE {e:Expr} {t:TE} (h:PE X e t) (he:∀ whole,isTrue e X.env whole=(do let v <- whole;standAt e.pos;holding [v] (truthy v)):=by intro _;rfl):PT X e (tB t):=by
 intro Ab s σ H Q I hw;refine isTrue_plain (thn (h Ab s σ H _ I hw) fun v s1 ⟨x,H1,I1,r1,q1⟩=>?_) (he _);obtain ⟨d,rfl,q⟩:=q1;cases r1;exact wpAny_truthy_bool ⟨H1,I1,q⟩
variable {tA tB':TT} {rest:List Expr}
def tAnd (t u:TT):TT:=fun σ H Q=>t σ H fun c H1=>if c=true then u σ H1 Q else Q false H1
def tOr (t u:TT):TT:=fun σ H Q=>t σ H fun c H1=>if c=true then Q true H1 else u σ H1 Q
def tNot (t:TT):TT:=fun σ H Q=>t σ H fun c H1=>Q (!c) H1
theorem qO2 (ha:PT X a tA):PW X (.BoolOp .And [a] pos) tA:=by
 intro wh Ab s σ H Q I h;refine isTrue_and (thn (ha Ab s σ H Q I h) fun c s1 e=>?_);cases c with
 | true=>exact isTrue_and_nil e
 | false=>exact e
theorem qHG (ha:PT X a tA):PW X (.BoolOp .Or [a] pos) tA:=by
 intro wh Ab s σ H Q I h;refine isTrue_or (thn (ha Ab s σ H Q I h) fun c s1 e=>?_);cases c with
 | false=>exact isTrue_or_nil e
 | true=>exact e
theorem qS1 (ha:PT X a tA) (hb:PW X (.BoolOp .And (b::rest) pos) tB'):PW X (.BoolOp .And (a::b::rest) pos) (tAnd tA tB'):=by
 intro wh Ab s σ H Q I h;refine isTrue_and (thn (ha Ab s σ H _ I h) fun c s1 ⟨H1,I1,q1⟩=>?_);cases c with
 | true=>exact hb wh Ab s1 σ H1 Q I1 q1
 | false=>exact ⟨H1,I1,q1⟩
theorem qM4 (ha:PT X a tA) (hb:PW X (.BoolOp .Or (b::rest) pos) tB'):PW X (.BoolOp .Or (a::b::rest) pos) (tOr tA tB'):=by
 intro wh Ab s σ H Q I h;refine isTrue_or (thn (ha Ab s σ H _ I h) fun c s1 ⟨H1,I1,q1⟩=>?_);cases c with
 | true=>exact ⟨H1,I1,q1⟩
 | false=>exact hb wh Ab s1 σ H1 Q I1 q1
theorem qIP (ha:PT X a tA):PT X (.UnaryOp .Not a pos) (tNot tA):=by
 intro Ab s σ H Q I h;exact isTrue_not (ha Ab s σ H (fun c H1=>Q (!c) H1) I h)
def qb1 (ta tb:TE):TE:=fun σ H Q=>ta σ H fun x H1=>∃ c,x=.bl c/\if c=true then tb σ H1 Q else Q (.bl false) H1
def qaT (ta:TE):TE:=fun σ H Q=>ta σ H fun x H1=>∃ c,x=.bl c/\Q (.bl (!c)) H1
theorem qSG {op} {t:TE} (h:PE X a t):PE X (.BoolOp op [a] pos) t:=fun Ab s σ H Q I hw=>BoolOp_one (h Ab s σ H Q I hw)
theorem qPG (ha:PE X a ta) (hb:PE X (.BoolOp .And (b::rest) pos) tb):PE X (.BoolOp .And (a::b::rest) pos) (qb1 ta tb):=by
 intro Ab s σ H Q I h;refine BoolOp_and (thn (ha Ab s σ H _ I h) fun v s1 ⟨x,H1,I1,r1,q1⟩=>?_);obtain ⟨c,rfl,q1⟩:=q1;cases r1;refine wpAny_truthy_bool ?_;cases c with
 | true=>exact hb Ab s1 σ H1 Q I1 q1
 | false=>exact ⟨.bl false,H1,I1,rfl,q1⟩
theorem qZP (ha:PE X a ta):PE X (.UnaryOp .Not a pos) (qaT ta):=by
 intro Ab s σ H Q I h;refine UnaryOp_ (thn (ha Ab s σ H _ I h) fun v s1 ⟨x,H1,I1,r1,q1⟩=>?_);obtain ⟨c,rfl,q1⟩:=q1;cases r1;exact not_of (wpAny_truthy_bool ⟨.bl (!c),H1,I1,rfl,q1⟩)
def tIf (t:TT) (ta tb:TE):TE:=fun σ H Q=>t σ H fun c H1=>if c=true then ta σ H1 Q else tb σ H1 Q
theorem qPF {c:Expr} (hc:PT X c tA) (ha:PE X a ta) (hb:PE X b tb):PE X (.IfExp c a b pos) (tIf tA ta tb):=by
 intro Ab s σ H Q I h;refine wpAny_IfExp (thn (hc Ab s σ H _ I h) fun d s1 ⟨H1,I1,q1⟩=>?_);cases d with
 | true=>exact ha Ab s1 σ H1 Q I1 q1
 | false=>exact hb Ab s1 σ H1 Q I1 q1
end
end L2
namespace L2
open PySem PySem.Spec PyProof.Rows
def SqL (K:PySem.W.Frag) (H:Hp) (a:Addr) (xs:List V):Prop:=
 Rd H a (.lst xs)\/
  ∃ (o:Obj) (its:Array Value) (n:Nat),K.lookup a=some o/\o.cls=.type "list"/\o.dict=none/\o.data=.seq its n/\its.size<=sizeLine/\Vals xs its.toList
def SqT (K:PySem.W.Frag) (H:Hp) (a:Addr) (xs:List V):Prop:=
 Rd H a (.tup xs)\/
  ∃ (o:Obj) (its:Array Value) (n:Nat),K.lookup a=some o/\o.cls=.type "tuple"/\o.data=.seq its n/\its.size<=sizeLine/\Vals xs its.toList
def absV:Value->Option V
 | .none=>some .non
 | .bool b=>some (.bl b)
 | .int i _=>some (.int i)
 | .str x _=>some (.str x)
 | .bytes b _=>some (.byt b)
 | .float b _=>some (.flt b)
 | .ref a=>some (.ref a)
 | .type n=>some (.ty n)
 | _=>none
theorem RelV.abs {x:V} {u:Value} (r:RelV x u):absV u=some x:=by
 cases x with
 | non=>cases r;rfl
 | bl _=>cases r;rfl
 | int _=>obtain ⟨t,rfl⟩:=r;rfl
 | str _=>obtain ⟨t,rfl⟩:=r;rfl
 | byt _=>obtain ⟨t,rfl⟩:=r;rfl
 | flt _=>obtain ⟨t,rfl⟩:=r;rfl
 | ref _=>cases r;rfl
 | ty _=>cases r;rfl
theorem RelV.inj {x y:V} {u:Value} (r:RelV x u) (q:RelV y u):x=y:=C6 (r.abs.symm.trans q.abs)
theorem Vals.inj:∀ {xs ys:List V} {us:List Value},Vals xs us->Vals ys us->xs=ys
 | _,_,_,.nil,.nil=>rfl
 | _,_,_,.cons r t,.cons r' t'=>by rw [r.inj r',Vals.inj t t']
section
variable {X:Cx} {Ab:List (Addr × Obj)} {σ:St} {H:Hp} {s:Shared} {a:Addr} {xs ys:List V}
theorem SqL.of {K:PySem.W.Frag} (h:H a=some (.lst xs)):SqL K H a xs:=.inl (.inl h)
theorem SqT.of {K:PySem.W.Frag} (h:H a=some (.tup xs)):SqT K H a xs:=.inl (.inl h)
theorem Inv.list (I:Inv X Ab σ H s) (h:SqL X.K H a xs):∃ its:List Value,Vals xs its/\PlainL s.heap a its.toArray/\xs.length<=sizeLine:=by
 rcases h with h | ⟨o,its,n,hk,hc,hd,hs,hz,r⟩
 ·obtain ⟨z,its,n,r,e⟩:=h.ok I.hok;exact ⟨its,r,⟨_,n,e,rfl,rfl,rfl⟩,z⟩
 ·refine ⟨its.toList,r,⟨o,n,I.kIn a o hk,hc,hd,by simpa using hs⟩,?_⟩
  have e:=r.length;simp only [D7] at e;omega
theorem Inv.tuple (I:Inv X Ab σ H s) (h:SqT X.K H a xs):∃ its:List Value,Vals xs its/\IsTup s.heap a its.toArray/\xs.length<=sizeLine:=by
 rcases h with h | ⟨o,its,n,hk,hc,hs,hz,r⟩
 ·obtain ⟨z,its,r,p⟩:=h.ok I.hok;exact ⟨its,r,p,z⟩
 ·refine ⟨its.toList,r,⟨o,I.kIn a o hk,hc,n,by simpa using hs⟩,?_⟩
  have e:=r.length;simp only [D7] at e;omega
theorem Inv.list_inj (I:Inv X Ab σ H s) (h:SqL X.K H a xs) (h':SqL X.K H a ys):xs=ys:=by
 obtain ⟨its,r,⟨o,n,e,_,_,d⟩,_⟩:=I.list h;obtain ⟨its',r',⟨o',n',e',_,_,d'⟩,_⟩:=I.list h';rw [e] at e';cases e';rw [d] at d'
 injection d' with d1 _
 have:its=its':=by simpa using congrArg A75 d1
 subst this;exact r.inj r'
theorem Inv.tuple_inj (I:Inv X Ab σ H s) (h:SqT X.K H a xs) (h':SqT X.K H a ys):xs=ys:=by
 obtain ⟨its,r,⟨o,e,_,n,d⟩,_⟩:=I.tuple h;obtain ⟨its',r',⟨o',e',_,n',d'⟩,_⟩:=I.tuple h';rw [e] at e';cases e';rw [d] at d'
 injection d' with d1 _
 have:its=its':=by simpa using congrArg A75 d1
 subst this;exact r.inj r'
end
abbrev Cx.wish (X:Cx) (E:Value->Shared->Prop):Cx:={ X with xe:=E }
abbrev Cx.nox (X:Cx):Cx:=X.wish fun _ _=>False
theorem Cx.Ok.wish {X:Cx} (ok:X.Ok) (E:Value->Shared->Prop):(X.wish E).Ok:=
 ⟨ok.mod,ok.kind,ok.glob,ok.blt,ok.above,ok.inj,ok.has,ok.cab,ok.hd,ok.frames,ok.stk,ok.exf,ok.bs,ok.bsz,ok.noex,ok.exfs,ok.funs,ok.frf⟩
theorem Cx.Ok.unwish {X:Cx} {E:Value->Shared->Prop} (ok:(X.wish E).Ok):X.Ok:=
 ⟨ok.mod,ok.kind,ok.glob,ok.blt,ok.above,ok.inj,ok.has,ok.cab,ok.hd,ok.frames,ok.stk,ok.exf,ok.bs,ok.bsz,ok.noex,ok.exfs,ok.funs,ok.frf⟩
section
variable {X:Cx} {Ab:List (Addr × Obj)} {σ:St} {H:Hp} {s:Shared} {E:Value->Shared->Prop}
theorem Inv.wish (I:Inv X Ab σ H s) (E:Value->Shared->Prop):Inv (X.wish E) Ab σ H s:=⟨I.ok.wish E,I.os,I.bare,I.base,I.loc,I.cell,I.free,I.freeC,I.pin,I.hok,I.len⟩
theorem Inv.unwish (I:Inv (X.wish E) Ab σ H s):Inv X Ab σ H s:=⟨I.ok.unwish,I.os,I.bare,I.base,I.loc,I.cell,I.free,I.freeC,I.pin,I.hok,I.len⟩
theorem SP.unwish {D:Ends} {f:Flow} {s':Shared} (h:SP (X.wish E) Ab D f s'):SP X Ab D f s':=by
 cases f with
 | next=>obtain ⟨σ',H',I,q⟩:=h;exact ⟨σ',H',I.unwish,q⟩
 | brk=>obtain ⟨σ',H',I,q⟩:=h;exact ⟨σ',H',I.unwish,q⟩
 | cont=>obtain ⟨σ',H',I,q⟩:=h;exact ⟨σ',H',I.unwish,q⟩
 | ret u=>obtain ⟨v,σ',H',I,r,q⟩:=h;exact ⟨v,σ',H',I.unwish,r,q⟩
theorem PSs.nox {st:List Stmt} {t:TS} (h:PSs X.nox st t):PSs X st t:=fun Ab s σ H D I hw=>
 wpAny_mono (h Ab s σ H D (I.wish _) hw) (fun _ _ q=>q.unwish) fun _ _ z=>V3 z
end
section
variable {X:Cx} {st:Stmt} {rest:List Stmt} {t u:TS} {e:Expr} {te:TE} {pos:Pos}
def qaU:TS:=fun D σ H=>D.nx σ H
def tSeq (t u:TS):TS:=fun D σ H=>t { D with nx:=u D } σ H
theorem qAV:PSs X [] qaU:=fun _ _ σ H _ I h=>wpAny_execs_nil ⟨σ,H,I,h⟩
theorem qA4 (h1:PS X st t) (h2:PSs X rest u):PSs X (st::rest) (tSeq t u):=by
 intro Ab s σ H D I h;refine wpAny_execs_cons (thn (h1 Ab s σ H { D with nx:=u D } I h) fun f s1 q=>?_);cases f with
 | next=>
  obtain ⟨σ',H',I',q⟩:=q;exact h2 Ab s1 σ' H' D I' q
 | ret v=>exact q
 | brk=>exact q
 | cont=>exact q
theorem qA6 (h1:PS X st t):PSs X [st] t:=by
 intro Ab s σ H D I h;refine wpAny_execs_cons (thn (h1 Ab s σ H D I h) fun f s1 q=>?_);cases f with
 | next=>exact wpAny_execs_nil q
 | ret v=>exact q
 | brk=>exact q
 | cont=>exact q
theorem Inv.quiet {Ab:List (Addr × Obj)} {σ:St} {H:Hp} {s:Shared} (I:Inv X Ab σ H s):interactive X.env=false:=by simp [interactive,I.ok.kind]
def qaX (te:TE):TS:=fun D σ H=>te σ H fun _ H1=>D.nx σ H1
theorem qCL (he:PE X e te) (hs:swapsWith e none pos.line X.env=pure false:=by rfl):PS X (.Expr e pos) (qaX te):=by
 intro Ab s σ H D I h;exact wpAny_Expr_any (thn (he Ab s σ H _ I h) fun v s1 ⟨x,H1,I1,r1,q1⟩=>⟨σ,H1,I1,q1⟩) I.quiet hs
def tRet (te:TE):TS:=fun D σ H=>te σ H D.rt
theorem qAS (he:PE X e te):PS X (.Return (some e) pos) (tRet te):=by
 intro Ab s σ H D I h;exact wpAny_Return_some (thn (he Ab s σ H _ I h) fun v s1 ⟨x,H1,I1,r1,q1⟩=>⟨x,σ,H1,I1,r1,q1⟩)
def tIfS (c:TT) (t u:TS):TS:=fun D σ H=>c σ H fun b H1=>if b=true then t D σ H1 else u D σ H1
theorem qCF {c:Expr} {a b:List Stmt} {tc:TT} (hc:PT X c tc) (ha:PSs X a t) (hb:PSs X b u):PS X (.If c a b pos) (tIfS tc t u):=by
 intro Ab s σ H D I h;refine wpAny_If (thn (hc Ab s σ H _ I h) fun d s1 ⟨H1,I1,q1⟩=>?_);cases d with
 | true=>exact ha Ab s1 σ H1 D I1 q1
 | false=>exact hb Ab s1 σ H1 D I1 q1
def qZ3:TS:=fun _ _ _=>False
theorem qS3 {sts:List Stmt}:PSs X sts qZ3:=fun _ _ _ _ _ _ h=>h.elim
end
abbrev TG:=V->St->Hp->(St->Hp->Prop)->Prop
abbrev TGs:=List V->St->Hp->(St->Hp->Prop)->Prop
def PG (X:Cx) (target:Expr) (t:TG):Prop:=
 ∀ (Ab:List (Addr × Obj)) (s:Shared) (σ:St) (H:Hp) (v:V) (u:Value) (Q:St->Hp->Prop),Inv X Ab σ H s->RelV v u->t v σ H Q->
  wpAny (model X.prog X.w) X.A (assign target X.env u) (fun _ s'=>∃ σ' H',Inv X Ab σ' H' s'/\Q σ' H') X.xe s
def PGs (X:Cx) (ts:List Expr) (t:TGs):Prop:=
 ∀ (Ab:List (Addr × Obj)) (s:Shared) (σ:St) (H:Hp) (vs:List V) (us:List Value) (Q:St->Hp->Prop),Inv X Ab σ H s->Vals vs us->t vs σ H Q->
  wpAny (model X.prog X.w) X.A (assignInOrder ((assignEach ts X.env).map (·.2)) us) (fun _ s'=>∃ σ' H',Inv X Ab σ' H' s'/\Q σ' H') X.xe s
abbrev TSet:=V->V->V->Hp->(Hp->Prop)->Prop
def PSet (X:Cx) (t:TSet):Prop:=
 ∀ (Ab:List (Addr × Obj)) (s:Shared) (σ:St) (H:Hp) (o i v:V) (ov iv u:Value) (Q:Hp->Prop),Inv X Ab σ H s->RelV o ov->RelV i iv->RelV v u->t o i v H Q->
  wpAny (model X.prog X.w) X.A (setItem ov iv u) (fun _ s'=>∃ H',Inv X Ab σ H' s'/\Q H') X.xe s
abbrev TIp:=V->V->Hp->VK->Prop
def PIp (X:Cx) (op:Operator) (t:TIp):Prop:=
 ∀ (Ab:List (Addr × Obj)) (s:Shared) (σ:St) (H:Hp) (x y:V) (v u:Value) (Q:VK),Inv X Ab σ H s->RelV x v->RelV y u->t x y H Q->
  wpAny (model X.prog X.w) X.A (inplaceOp op v u) (EP X Ab σ Q) X.xe s
section
variable {X:Cx} {pos:Pos}
def qYG (i:Nat):TG:=fun v σ H Q=>Q (σ.set i (some v)) H
theorem qAA {i:Nat} {x:Str} (hN:X.N.Nodup) (hi:X.N[i]?=some x) (hx:Loc X.env.scope x) (hf:X.fn x=true\/X.env.scope.names.lookup x=some .local:=by first | exact .inl rfl | exact .inr rfl | assumption):PG X (.Name x pos) (qYG i):=by
 intro Ab s σ H v u Q I r h;exact wpAny_assign_Name (qKN I hN hi hx r (fun s' I'=>⟨_,H,I',h⟩) hf)
def gNil:TGs:=fun vs σ H Q=>vs=[]/\Q σ H
def qbL (t:TG) (u:TGs):TGs:=fun vs σ H Q=>∃ v r,vs=v::r/\t v σ H fun σ' H'=>u r σ' H' Q
theorem qH0:PGs X [] gNil:=by
 intro Ab s σ H vs us Q I r h;obtain ⟨e,h⟩:=h;subst e;cases r;exact assignInOrder_nil ⟨σ,H,I,h⟩
theorem qC6 {e:Expr} {es:List Expr} {t:TG} {u:TGs} (h1:PG X e t) (h2:PGs X es u)
  (hs:(assignEach (e::es) X.env).map (·.2)=assign e X.env::(assignEach es X.env).map (·.2):=by rfl):PGs X (e::es) (qbL t u):=by
 intro Ab s σ H vs us Q I r h;obtain ⟨v,vr,e1,h⟩:=h;subst e1;cases r with
 | cons r rr=>
  rw [hs];refine assignInOrder_cons (thn (h1 Ab s σ H _ _ _ I r h) fun _ s1 ⟨σ1,H1,I1,q1⟩=>?_);exact h2 Ab s1 σ1 H1 _ _ Q I1 rr q1
def gTup (K:PySem.W.Frag) (n:Nat) (t:TGs):TG:=fun v σ H Q=>∃ a xs,v=.ref a/\SqT K H a xs/\xs.length=n/\t xs σ H Q
theorem qM8 {es:List Expr} {k:Nat} {t:TGs} {n:Nat} (hc:X.calm=true) (h:PGs X es t)
  (hn:(assignEach es X.env).length=n:=by rfl) (hst:(assignEach es X.env).findIdx? (·.1)=none:=by rfl):PG X (.Tuple es k pos) (gTup X.K n t):=by
 intro Ab s σ H v u Q I r hw;obtain ⟨a,xs,e1,hq,hl,hw⟩:=hw;subst e1;cases r;obtain ⟨its,rv,ht,hz⟩:=I.tuple hq;refine assign_Tuple_tuple (I.ok.hd hc) ht (by simp [hn,<- hl,rv.length]) hst fun h' hx=>?_
 have I1:Inv X Ab σ H { s with heap:=h' }:=I.kept (t':=s.toks) fun b o e=>hx b o (D4 (B7 e)) e;exact h Ab _ σ H xs _ Q I1 (by simpa using rv) hw
def gSub (to ti:TE) (t:TSet):TG:=fun v σ H Q=>to σ H fun o H1=>ti σ H1 fun i H2=>t o i v H2 fun H3=>Q σ H3
theorem qSF {o i:Expr} {to ti:TE} {t:TSet} (ho:PE X o to) (hi:PE X i ti) (hs:PSet X t)
  (ha:∀ v,assign (.Subscript o i pos) X.env v=(do
   let ov <- holding [v] (eval o X.env)
   let iv <- holding [v,ov] (eval i X.env)
   standAt pos
   holding [v,ov,iv] (setItem ov iv v)
   release [v,ov,iv] []):=by intro _;rfl):PG X (.Subscript o i pos) (gSub to ti t):=by
 intro Ab s σ H v u Q I r h;rw [ha];refine wpAny_bind (wpAny_holding (thn (ho Ab s σ H _ I h) fun ov s1 ⟨x,H1,I1,r1,q1⟩=>?_));refine wpAny_bind (wpAny_holding (thn (hi Ab s1 σ H1 _ I1 q1) fun iv s2 ⟨y,H2,I2,r2,q2⟩=>?_));refine wpAny_bind (wpAny_standAt (wpAny_bind (wpAny_holding (thn (hs Ab s2 σ H2 x y v ov iv u _ I2 r1 r2 r q2) fun _ s3 ⟨H3,I3,q3⟩=>?_))));exact wpAny_release ⟨σ,H3,I3,q3⟩
def tAsg (te:TE) (g:TG):TS:=fun D σ H=>te σ H fun x H1=>g x σ H1 D.nx
theorem qM5 {tg e:Expr} {te:TE} {g:TG} (he:PE X e te) (hg:PG X tg g) (hs:swapsWithSole [tg] e pos.line X.env=pure false:=by rfl) (hw:swappedStores [tg] e X.env=pure none:=by rfl)
  (h1:(assignEach [tg] X.env).map (·.2)=[assign tg X.env]:=by rfl):PS X (.Assign [tg] e pos) (tAsg te g):=by
 intro Ab s σ H D I h;refine wpAny_Assign_stores (thn (he Ab s σ H _ I h) fun v s1 ⟨x,H1,I1,r1,q1⟩=>?_) hs hw;rw [h1];exact thn (hg Ab s1 σ H1 x v _ I1 r1 q1) fun _ s2 q=>q
theorem qAE {i:Nat} {x:Str} {e:Expr} {te:TE} {pos':Pos} (hN:X.N.Nodup) (hi:X.N[i]?=some x) (hx:Loc X.env.scope x) (he:PE X e te) (hs:swapsWith e (some (.Name x pos')) pos.line X.env=pure false:=by rfl) (hf:X.fn x=true\/X.env.scope.names.lookup x=some .local:=by first | exact .inl rfl | exact .inr rfl | assumption) :
  PS X (.Assign [.Name x pos'] e pos) (tAsg te (qYG i)):=by
 intro Ab s σ H D I h;refine wpAny_Assign_Name (thn (he Ab s σ H _ I h) fun v s1 ⟨y,H1,I1,r1,q1⟩=>?_) hs;exact qKN I1 hN hi hx r1 (fun s2 I2=>⟨_,H1,I2,q1⟩) hf
def tAug (i:Nat) (te:TE) (ti:TIp):TS:=fun D σ H=>∃ x,σ[i]?=some (some x)/\te σ H fun y H1=>ti x y H1 fun z H2=>D.nx (σ.set i (some z)) H2
theorem qWN {i:Nat} {x:Str} {e:Expr} {te:TE} {op:Operator} {ti:TIp} {pos':Pos} (hN:X.N.Nodup) (hi:X.N[i]?=some x) (hx:Loc X.env.scope x) (he:PE X e te) (ho:PIp X op ti) (hf:X.fn x=true\/X.env.scope.names.lookup x=some .local:=by first | exact .inl rfl | exact .inr rfl | assumption) :
  PS X (.AugAssign (.Name x pos') op e pos) (tAug i te ti):=by
 intro Ab s σ H D I h;obtain ⟨v,e1,h⟩:=h;obtain ⟨m,hn,hl⟩:=I.loc;have vis:Vis X.env.scope x:=by rcases hx with k | k;exact .inl k;exact .inr (.inl k)
 obtain ⟨u,r,l⟩:=hl i x v hi e1 vis;refine wpAny_AugAssign_Name ?_;have go:wpAny (model X.prog X.w) X.A (eval e X.env) (fun w s₂=>wpAny (model X.prog X.w) X.A (inplaceOp op u w) (fun r s₃=>wpAny (model X.prog X.w) X.A (storeName X.env x r) (fun _=>SP X Ab D .next) X.xe s₃) X.xe s₂) X.xe s:=by
  refine thn (he Ab s σ H _ I h) fun w s1 ⟨y,H1,I1,r1,q1⟩=>?_;refine thn (ho Ab s1 σ H1 v y u w _ I1 r r1 q1) fun z s2 ⟨zv,H2,I2,r2,q2⟩=>?_;exact qKN I2 hN hi hx r2 (fun s3 I3=>⟨_,H2,I3,q2⟩) hf
 rcases l with ⟨hk,hm⟩ | ⟨hk,c,hc,hcell⟩
 ·exact wpAny_loadName_local I.ok.kind hk hn hm go
 ·rcases hk with hk | hk
  ·exact wpAny_loadName_cell I.ok.kind hk hc hcell go
  ·rcases hx with k | k
   ·have:X.env.scope.names.lookup x=some .free:=hk;rw [k] at this;cases this
   ·have:X.env.scope.names.lookup x=some .free:=hk;rw [k] at this;cases this
def qb0 (to ti te:TE) (tget:V->V->Hp->VK->Prop) (tip:TIp) (tset:TSet):TS:=fun D σ H=>to σ H fun o H1=>ti σ H1 fun i H2=>tget o i H2 fun x H3=>te σ H3 fun y H4=>tip x y H4 fun z H5=>tset o i z H5 fun H6=>D.nx σ H6
def PGet (X:Cx) (t:V->V->Hp->VK->Prop):Prop:=
 ∀ (Ab:List (Addr × Obj)) (s:Shared) (σ:St) (H:Hp) (o i:V) (ov iv:Value) (Q:VK),Inv X Ab σ H s->RelV o ov->RelV i iv->t o i H Q->
  wpAny (model X.prog X.w) X.A (getItem ov iv) (EP X Ab σ Q) X.xe s
theorem qXQ {o i e:Expr} {to ti te:TE} {tget:V->V->Hp->VK->Prop} {tip:TIp} {tset:TSet} {op:Operator} {tpos:Pos} (ho:PE X o to) (hi:PE X i ti) (hg:PGet X tget) (he:PE X e te) (hp:PIp X op tip) (hs:PSet X tset)
  (ha:∀ ov iv new,augStore i ov iv new=(do holding [new,ov,iv] (setItem ov iv new);release [new,ov,iv] [];pure .next):=by intros;rfl):PS X (.AugAssign (.Subscript o i tpos) op e pos) (qb0 to ti te tget tip tset):=by
 intro Ab s σ H D I h;refine wpAny_AugAssign_SubscriptAny (thn (ho Ab s σ H _ I h) fun ov s1 ⟨x1,H1,I1,r1,q1⟩=>?_) ha;refine thn (hi Ab s1 σ H1 _ I1 q1) fun iv s2 ⟨x2,H2,I2,r2,q2⟩=>?_;refine thn (hg Ab s2 σ H2 x1 x2 ov iv _ I2 r1 r2 q2) fun old s3 ⟨x3,H3,I3,r3,q3⟩=>?_;refine thn (he Ab s3 σ H3 _ I3 q3) fun v s4 ⟨x4,H4,I4,r4,q4⟩=>?_;refine thn (hp Ab s4 σ H4 x3 x4 old v _ I4 r3 r4 q4) fun new s5 ⟨x5,H5,I5,r5,q5⟩=>?_;exact thn (hs Ab s5 σ H5 x1 x2 x5 ov iv new _ I5 r1 r2 r5 q5) fun _ s6 ⟨H6,I6,q6⟩=>⟨σ,H6,I6,q6⟩
def ipI (f:Int->Int->Int):TIp:=fun x y H Q=>∃ i j,x=.int i/\y=.int j/\Q (.int (f i j)) H
theorem qX0:PIp X .Add (ipI fun i j=>i+j):=by
 intro Ab s σ H x y v u Q I r1 r2 h;obtain ⟨i,j,e1,e2,q⟩:=h;subst e1;subst e2;obtain ⟨t,rfl⟩:=r1;obtain ⟨t',rfl⟩:=r2;exact iadd_int ⟨.int _,H,I.tok _,⟨_,rfl⟩,q⟩
theorem qaC:PIp X .Sub (ipI fun i j=>i - j):=by
 intro Ab s σ H x y v u Q I r1 r2 h;obtain ⟨i,j,e1,e2,q⟩:=h;subst e1;subst e2;obtain ⟨t,rfl⟩:=r1;obtain ⟨t',rfl⟩:=r2;exact isub_int ⟨.int _,H,I.tok _,⟨_,rfl⟩,q⟩
end
section
variable {X:Cx} {pos:Pos}
def qZ0 (c:TT) (tb:TS):TS:=fun D σ H=>∃ W:Nat->St->Hp->Prop,(∃ m,W m σ H)/\∀ m σ H,W m σ H->
 c σ H fun b H1=>if b=true then ∃ N:St->Hp->Prop,(∀ σ' H',N σ' H'->∃ m',m'<m/\W m' σ' H')/\tb { D with nx:=N,ct:=N,bk:=D.nx } σ H1 else D.nx σ H1
theorem qV7 {c:Expr} {body:List Stmt} {tc:TT} {tb:TS} (hp:PassesOwn (model X.prog X.w) X.A X.env X.xe) (hc:PT X c tc) (hb:PSs X body tb):PS X (.While c body [] pos) (qZ0 tc tb):=by
 intro Ab s σ H D I h;obtain ⟨W,⟨m0,w0⟩,turn⟩:=h;refine wpAny_While (codeAny_whileLoop (fun n s'=>∃ σ' H',Inv X Ab σ' H' s'/\W n σ' H') ?_ m0 ⟨σ,H,I,w0⟩);rintro n s1 ⟨σ1,H1,I1,w1⟩;refine wpAny_passesOwn hp (thn (hc Ab s1 σ1 H1 _ I1 (turn n σ1 H1 w1)) fun b s2 ⟨H2,I2,q2⟩=>?_);cases b with
 | true=>
  obtain ⟨N,hN,q2⟩:=q2;rw [if_pos rfl];refine wpAny_passesOwn hp (thn (hb Ab s2 σ1 H2 _ I2 q2) fun f s3 q3=>?_);cases f with
  | next=>
   obtain ⟨σ3,H3,I3,n3⟩:=q3;obtain ⟨m',hm,w3⟩:=hN σ3 H3 n3;exact ⟨m',hm,σ3,H3,I3,w3⟩
  | cont=>
   obtain ⟨σ3,H3,I3,n3⟩:=q3;obtain ⟨m',hm,w3⟩:=hN σ3 H3 n3;exact ⟨m',hm,σ3,H3,I3,w3⟩
  | brk=>exact q3
  | ret v=>exact q3
 | false=>
  rw [if_neg B8];exact wpAny_execs_nil ⟨σ1,H2,I2,q2⟩
end
structure It where
 go:Nat->Hp->Prop
 yld:Nat->Hp->V->Hp->Prop
 stop:Nat->Hp->Prop
def FpOk (X:Cx) (Ab:List (Addr × Obj)) (H:Hp) (b:Addr):Prop:=
 H b=none/\b ≠ X.env.locals/\b ∉ X.fs/\(b ∈ X.ex\/X.s₀.heap.objs.size<=b)/\(∀ x c,X.env.cells.lookup x=some c->c ≠ b)/\∀ p ∈ X.pn++Ab,p.1 ≠ b
theorem Inv.fpOk {X:Cx} {Ab:List (Addr × Obj)} {σ:St} {H H':Hp} {s:Shared} {b:Addr} (I:Inv X Ab σ H s) (hb:s.heap.objs.size<=b) (hn:H' b=none):FpOk X Ab H' b:=by
 refine ⟨hn,S9 (D5 I.lt hb),I.nofs hb,.inr (G9 I.sz hb),fun x c e z=>?_,fun p hp z=>?_⟩
 ·obtain ⟨v,q⟩:=I.cell x c e;exact absurd (D5 q.lt (by rw [z];exact hb)) (Q6 _)
 ·exact absurd (D5 (B7 (I.pin p hp).1) (by rw [z];exact hb)) (Q6 _)
structure Turn (P:Program) (w:World) (K:PySem.W.Frag) (tg:Expr) (J:It) (fp:List Addr) (it:Addr) (tn:Nat->Heap->Prop):Prop where
 mem:it ∈ fp
 obj:∀ i h,tn i h->∀ b ∈ fp,∃ o,h.get? b=some o/\∀ v,o.data ≠ .cell v
 keep:∀ i h h',tn i h->(∀ b ∈ fp,∀ o,h.get? b=some o->h'.get? b=some o)->tn i h'
 item:∀ (X:Cx),X.prog=P->X.w=w->X.K=K->X.calm=true->∀ (i:Nat) (Ab:List (Addr × Obj)) (s:Shared) (σ:St) (H:Hp) (E:Value->Shared->Prop),Inv X Ab σ H s->(∀ b ∈ fp,FpOk X Ab H b)->tn i s.heap->J.go i H->
  wpAny (model P w) X.A (pyNext (.ref it)) (fun r s1=>∃ u,r=some u/\
   wpAny (model P w) X.A (letOwnedTupleGo tg (.ref it) u) (fun _ s2=>∃ x H',Inv X Ab σ H' s2/\RelV x u/\J.yld i H x H'/\tn (i+1) s2.heap/\∀ b ∈ fp,H' b=none) E s1) E s
 done:∀ (X:Cx),X.prog=P->X.w=w->X.K=K->X.calm=true->∀ (i:Nat) (Ab:List (Addr × Obj)) (s:Shared) (σ:St) (H:Hp) (E:Value->Shared->Prop),Inv X Ab σ H s->(∀ b ∈ fp,FpOk X Ab H b)->tn i s.heap->J.stop i H->
  wpAny (model P w) X.A (pyNext (.ref it)) (fun r s1=>r=none/\Inv X Ab σ H s1) E s
 self:∀ (A:Around) (i:Nat) (s:Shared) (Q:Value->Shared->Prop) (E:Value->Shared->Prop),tn i s.heap->Q (.ref it) s->wpAny (model P w) A (pyIter (.ref it)) Q E s
abbrev TI:=St->Hp->(It->Hp->Prop)->Prop
def PIE (X:Cx) (Ab:List (Addr × Obj)) (σ:St) (tg:Expr) (R:It->Hp->Prop) (itv:Value) (s2:Shared):Prop:=
 ∃ (it:Addr) (fp:List Addr) (tn:Nat->Heap->Prop) (J:It) (H':Hp),itv=.ref it/\Inv X Ab σ H' s2/\Turn X.prog X.w X.K tg J fp it tn/\tn 0 s2.heap/\(∀ b ∈ fp,FpOk X Ab H' b)/\R J H'
def PI (X:Cx) (tg iter:Expr) (wi:TI):Prop:=
 ∀ (Ab:List (Addr × Obj)) (s:Shared) (σ:St) (H:Hp) (R:It->Hp->Prop),Inv X Ab σ H s->wi σ H R->
  wpAny (model X.prog X.w) X.A (eval iter X.env) (fun v s1=>wpAny (model X.prog X.w) X.A (pyIter v) (PIE X Ab σ tg R) X.xe s1) X.xe s
theorem qTK {M:Model} {A:Around} {E:Value->Shared->Prop} {s:Shared} {tg:Expr} {it:Addr} {u:Value} {o:Obj} {n:String} {vs:Array Value} {Q:Unit->Shared->Prop} (ho:s.heap.get? it=some o) (hc:o.cls=.type n) (hd:o.data=.fields vs)
  (hn:["enumerate","zip","dict_itemiterator","dict_reverseitemiterator","odict_iterator","itertools.zip_longest","itertools.pairwise"].contains n=false) (hQ:Q () s):wpAny M A (letOwnedTupleGo tg (.ref it) u) Q E s:=by
 unfold letOwnedTupleGo;cases tg <;> first
  | exact wpAny_pure hQ
  | (cases u <;> first
    | exact wpAny_pure hQ
    | (refine wpAny_bind (wpAny_load ho ?_)
       rw [hc,hd];show wpAny M A (if (["enumerate","zip","dict_itemiterator","dict_reverseitemiterator","odict_iterator","itertools.zip_longest","itertools.pairwise"].contains n && vs[0]? == some (rawInt _))=true then _ else _) Q E s
       rw [if_neg (by intro h;rw [hn,j8] at h;cases h)]
       exact wpAny_pure hQ))
def Itl (K:PySem.W.Frag) (a:Addr):It:=
 ⟨fun i H=>∃ xs x,SqL K H a xs/\xs[i]?=some x,fun i H x H'=>H'=H/\∀ xs,SqL K H a xs->xs[i]?=some x,fun i H=>∃ xs,SqL K H a xs/\xs.length<=i⟩
def Itt (K:PySem.W.Frag) (a:Addr):It:=
 ⟨fun i H=>∃ xs x,SqT K H a xs/\xs[i]?=some x,fun i H x H'=>H'=H/\∀ xs,SqT K H a xs->xs[i]?=some x,fun i H=>∃ xs,SqT K H a xs/\xs.length<=i⟩
def Itr (lo:Int) (n:Nat):It:=⟨fun i _=>i<n,fun i H x H'=>H'=H/\x=.int (lo+i),fun i _=>n<=i⟩
theorem qRL {P:Program} {w:World} {K:PySem.W.Frag} {tg:Expr} (a it:Addr):Turn P w K tg (Itl K a) [it] it (fun i h=>h.IsListIter it a i) where
 mem:=by simp
 obj:=fun i h st b hb=>by
  have e:b=it:=by simpa using hb
  subst e;obtain ⟨o,e,c,d⟩:=st;exact ⟨o,e,fun v z=>by rw [d] at z;cases z⟩
 keep:=fun i h h' st k=>st.at fun o e=>k it (by simp) o e
 item:=by
  intro X hP hw hK hc i Ab s σ H E I hf st hg;subst hP hw hK;obtain ⟨xs,x,hq,hx⟩:=hg;obtain ⟨its,rv,p,hz⟩:=I.list hq;obtain ⟨u,hu,ru⟩:=rv.get hx;obtain ⟨f0,f1,f2,f3,f4,f5⟩:=hf it (by simp)
  refine wpAny_pyNext_list_item st p.isList (x:=u) (by simpa using hu) fun h' st' sb=>?_
  have I1:Inv X Ab σ H { s with heap:=h' }:=I.turned (t':=s.toks) (fun b o hb e=>(sb.2 b hb).trans e) f0 f1 f3 f4 f5;obtain ⟨o,e,c,d⟩:=id st';exact ⟨u,rfl,qTK (s:={ s with heap:=h' }) e c d (by decide) ⟨x,H,I1,ru,⟨rfl,fun ys hy=>by rw [I.list_inj hy hq];exact hx⟩,st',fun b hb=>(hf b hb).1⟩⟩
 done:=by
  intro X hP hw hK hc i Ab s σ H E I hf st hg;subst hP hw hK;obtain ⟨xs,hq,hx⟩:=hg;obtain ⟨its,rv,p,hz⟩:=I.list hq;obtain ⟨f0,f1,f2,f3,f4,f5⟩:=hf it (by simp)
  have hl:=rv.length;exact wpAny_pyNext_list_end (I.ok.hd hc) st p.isList (by simp;omega) fun h' eb=>⟨rfl,I.turned (t':=s.toks) (fun b o hb e=>eb b o hb e) f0 f1 f3 f4 f5⟩
 self:=fun _ _ _ _ _ st h=>wpAny_pyIter_listiter st h
theorem qQB {P:Program} {w:World} {K:PySem.W.Frag} {tg:Expr} (a it:Addr):Turn P w K tg (Itt K a) [it] it (fun i h=>h.IsTupleIter it a i) where
 mem:=by simp
 obj:=fun i h st b hb=>by
  have e:b=it:=by simpa using hb
  subst e;obtain ⟨o,e,c,d⟩:=st;exact ⟨o,e,fun v z=>by rw [d] at z;cases z⟩
 keep:=fun i h h' st k=>st.at fun o e=>k it (by simp) o e
 item:=by
  intro X hP hw hK hc i Ab s σ H E I hf st hg;subst hP hw hK;obtain ⟨xs,x,hq,hx⟩:=hg;obtain ⟨its,rv,p,hz⟩:=I.tuple hq;obtain ⟨u,hu,ru⟩:=rv.get hx;obtain ⟨f0,f1,f2,f3,f4,f5⟩:=hf it (by simp)
  refine wpAny_pyNext_tuple_item st (show s.heap.IsTuple a its.toArray from p) (x:=u) (by simpa using hu) fun h' st' sb=>?_
  have I1:Inv X Ab σ H { s with heap:=h' }:=I.turned (t':=s.toks) (fun b o hb e=>(sb.2 b hb).trans e) f0 f1 f3 f4 f5;obtain ⟨o,e,c,d⟩:=id st';exact ⟨u,rfl,qTK (s:={ s with heap:=h' }) e c d (by decide) ⟨x,H,I1,ru,⟨rfl,fun ys hy=>by rw [I.tuple_inj hy hq];exact hx⟩,st',fun b hb=>(hf b hb).1⟩⟩
 done:=by
  intro X hP hw hK hc i Ab s σ H E I hf st hg;subst hP hw hK;obtain ⟨xs,hq,hx⟩:=hg;obtain ⟨its,rv,p,hz⟩:=I.tuple hq;obtain ⟨f0,f1,f2,f3,f4,f5⟩:=hf it (by simp)
  have hl:=rv.length;exact wpAny_pyNext_tuple_end (I.ok.hd hc) st (show s.heap.IsTuple a its.toArray from p) (by simp;omega) fun h' eb=>⟨rfl,I.turned (t':=s.toks) (fun b o hb e=>eb b o hb e) f0 f1 f3 f4 f5⟩
 self:=fun _ _ _ _ _ st h=>wpAny_pyIter_tupleiter st h
theorem qQC {P:Program} {w:World} {K:PySem.W.Frag} {tg:Expr} (it:Addr) (lo:Int) (n:Nat):Turn P w K tg (Itr lo n) [it] it (fun i h=>IsRangeIter h it (lo+(i:Nat) * 1) ((n:Int) - (i:Nat)) 1) where
 mem:=by simp
 obj:=fun i h st b hb=>by
  have e:b=it:=by simpa using hb
  subst e;exact ⟨_,st,fun v z=>by
   have z':z9 _=r8 v:=z;cases z'⟩
 keep:=fun i h h' st k=>k it (by simp) _ st
 item:=by
  intro X hP hw hK hc i Ab s σ H E I hf st hg;subst hP hw hK;obtain ⟨f0,f1,f2,f3,f4,f5⟩:=hf it (by simp)
  have W:=Walks.range (prog:=X.prog) (w:=X.w) (I.ok.hd hc) it lo 1 n;refine W.item i s _ _ hg st fun v h' tk hv st' kk=>?_;obtain ⟨t,rfl⟩:=hv;have I1:Inv X Ab σ H { s with heap:=h',toks:=tk }:=I.turned (fun b o hb e=>kk b o (by simpa using hb) e) f0 f1 f3 f4 f5
  refine ⟨_,rfl,qTK (s:={ s with heap:=h',toks:=tk }) (n:="range_iterator") st' rfl rfl (by decide) ⟨.int (lo+i),H,I1,⟨t,?_⟩,⟨rfl,rfl⟩,st',fun b hb=>(hf b hb).1⟩⟩
  rw [Int.mul_one]
 done:=by
  intro X hP hw hK hc i Ab s σ H E I hf st hg;subst hP hw hK;obtain ⟨f0,f1,f2,f3,f4,f5⟩:=hf it (by simp)
  exact wpAny_pyNext_range_end (I.ok.hd hc) st (by have:n<=i:=hg;omega) fun h' eb=>⟨rfl,I.turned (t':=s.toks) (fun b o hb e=>eb b o hb e) f0 f1 f3 f4 f5⟩
 self:=fun _ _ _ _ _ st h=>wpAny_pyIter_rangeiter st h
end L2
namespace L2
open PySem PySem.Spec PyProof.Rows
section
variable {X:Cx} {tg:Expr}
def qbJ (K:PySem.W.Frag) (tl:TE):TI:=fun σ H R=>tl σ H fun x H1=>∃ a,x=.ref a/\(∃ xs,SqL K H1 a xs)/\R (Itl K a) H1
def iTup (K:PySem.W.Frag) (tl:TE):TI:=fun σ H R=>tl σ H fun x H1=>∃ a,x=.ref a/\(∃ xs,SqT K H1 a xs)/\R (Itt K a) H1
theorem qBR {l:Expr} {tl:TE} (hl:PE X l tl):PI X tg l (qbJ X.K tl):=by
 intro Ab s σ H R I h;refine thn (hl Ab s σ H _ I h) fun v s1 ⟨x,H1,I1,r1,q1⟩=>?_;obtain ⟨a,e,⟨xs,hq⟩,q⟩:=q1;subst e;cases r1;obtain ⟨its,rv,p,hz⟩:=I1.list hq;refine wpAny_pyIter_list p.isList ?_;refine ⟨s1.heap.objs.size,[s1.heap.objs.size],_,_,H1,rfl,I1.kept (t':=s1.toks) fun b o e=>A2 _ e,qRL a _,⟨_,B5 _ rfl,rfl,rfl⟩,fun b hb=>?_,q⟩;have e:b=s1.heap.objs.size:=by simpa using hb
 subst e;exact I1.fpOk (B0 _) (I1.hok.fresh (B0 _))
theorem qDF {l:Expr} {tl:TE} (hl:PE X l tl):PI X tg l (iTup X.K tl):=by
 intro Ab s σ H R I h;refine thn (hl Ab s σ H _ I h) fun v s1 ⟨x,H1,I1,r1,q1⟩=>?_;obtain ⟨a,e,⟨xs,hq⟩,q⟩:=q1;subst e;cases r1;obtain ⟨its,rv,p,hz⟩:=I1.tuple hq;refine wpAny_pyIter_tuple (show s1.heap.IsTuple a its.toArray from p) ?_;refine ⟨s1.heap.objs.size,[s1.heap.objs.size],_,_,H1,rfl,I1.kept (t':=s1.toks) fun b o e=>A2 _ e,qQB a _,⟨_,B5 _ rfl,rfl,rfl⟩,fun b hb=>?_,q⟩;have e:b=s1.heap.objs.size:=by simpa using hb
 subst e;exact I1.fpOk (B0 _) (I1.hok.fresh (B0 _))
theorem range_it {Ab:List (Addr × Obj)} {σ:St} {H:Hp} {s:Shared} {R:It->Hp->Prop} {E:Value->Shared->Prop} {lo hi:Int} {t u v:Tok} {tk:Nat} (I:Inv X Ab σ H s) (h1 : -(2 ^ 62)<=lo) (h2:lo<2 ^ 62) (h3 : -(2 ^ 62)<=hi) (h4:hi<2 ^ 62)
  (q:R (Itr lo (hi - lo).toNat) H):wpAny (model X.prog X.w) X.A (pyIter (.ref s.heap.objs.size)) (PIE X Ab σ tg R) E { s with heap:=s.heap.push { cls:=.type "range",data:=.fields #[.int lo t,.int hi u,.int 1 v] },toks:=tk }:=by
 refine wpAny_pyIter_range (A81 ..) (small_one h1 h2 h3 h4) ?_;have I1:Inv X Ab σ H { s with heap:=s.heap.push { cls:=.type "range",data:=.fields #[.int lo t,.int hi u,.int 1 v] },toks:=tk }:=I.kept fun b o e=>A2 _ e;refine ⟨(s.heap.push { cls:=.type "range",data:=.fields #[.int lo t,.int hi u,.int 1 v] }).objs.size,[(s.heap.push { cls:=.type "range",data:=.fields #[.int lo t,.int hi u,.int 1 v] }).objs.size],_,_,H,rfl,
  I1.kept (t':=tk) fun b o e=>A2 _ e,qQC _ lo (hi - lo).toNat,?_,fun b hb=>?_,q⟩
 ·have e1:lo+((0:Nat):Int) * 1=lo:=by simp
  have e2:(((hi - lo).toNat:Nat):Int) - ((0:Nat):Int)=Q7 lo hi 1:=by rw [rangeSize_one];split <;> omega
  show IsRangeIter _ _ (lo+((0:Nat):Int) * 1) ((((hi - lo).toNat:Nat):Int) - ((0:Nat):Int)) 1;rw [e1,e2];exact B5 _ rfl
 ·have e:b=(s.heap.push { cls:=.type "range",data:=.fields #[.int lo t,.int hi u,.int 1 v] }).objs.size:=by simpa using hb
  subst e;exact I1.fpOk (B0 _) (I1.hok.fresh (B0 _))
def qbI (ta:TA):TI:=fun σ H R=>ta σ H fun vs H1=>∃ j:Int,vs=[.int j]/\-(2 ^ 62)<=j/\j<2 ^ 62/\R (Itr 0 j.toNat) H1
theorem qBW {a:Expr} {ta:TA} {p pos:Pos} (hg:Gl X "range") (hm:X.mg "range" = none) (ha:PA X [a] ta) (hs:starEach [a] X.env=[(false,eval a X.env)]:=by rfl):PI X tg (.Call (.Name "range" p) [a] [] pos) (qbI ta):=by
 intro Ab s σ H R I h;refine Call_ (qGD I hg hm boot_range (P0 (thn (ha pos Ab s σ H _ I h) fun us s1 ⟨vs,H1,I1,r1,q1⟩=>?_) hs rfl));obtain ⟨j,e,q1,q2,q⟩:=q1;subst e;cases r1 with
 | cons r rr=>
  cases rr;obtain ⟨t,rfl⟩:=r;exact call_range_1 (range_it I1 (by omega) (by omega) q1 q2 (by simpa using q))
def tFor (wi:TI) (g:TG) (tb:TS):TS:=fun D σ H=>wi σ H fun J H1=>∃ W:Nat->Nat->St->Hp->Prop,(∃ m,W 0 m σ H1)/\∀ i m σ H,W i m σ H->
 (J.stop i H/\D.nx σ H)\/(J.go i H/\∃ N:St->Hp->Prop,(∀ σ' H',N σ' H'->∃ m',m'<m/\W (i+1) m' σ' H')/\∀ x H',J.yld i H x H'->g x σ H' fun σ2 H2=>tb { D with nx:=N,ct:=N,bk:=D.nx } σ2 H2)
def qM7 (fp:List Addr) (h:Heap):List (Addr × Obj):=fp.filterMap fun b=>(h.get? b).map fun o=>(b,o)
theorem qFJ {fp:List Addr} {h:Heap} {b:Addr} {o:Obj} (hb:b ∈ fp) (e:h.get? b=some o):(b,o) ∈ qM7 fp h:=A08.mpr ⟨b,hb,by rw [e];rfl⟩
theorem qSO {fp:List Addr} {h:Heap} {p:Addr × Obj} (hp:p ∈ qM7 fp h):p.1 ∈ fp/\h.get? p.1=some p.2:=by
 obtain ⟨b,hb,e⟩:=A08.mp hp;cases q:h.get? b with
 | none=>rw [q] at e;cases e
 | some o=>
  rw [q] at e;have e':(b,o)=p:=C6 e;subst e';exact ⟨hb,q⟩
theorem Inv.pinned {Ab:List (Addr × Obj)} {σ:St} {H:Hp} {s:Shared} {fp:List Addr} (I:Inv X Ab σ H s) (hf:∀ b ∈ fp,FpOk X Ab H b) (ho:∀ b ∈ fp,∃ o,s.heap.get? b=some o/\∀ v,o.data ≠ .cell v):Inv X (Ab++qM7 fp s.heap) σ H s:=
 I.pins_of fun p hp=>(D6.mp hp).elim (fun z=>I.pin p (F1 _ z)) fun z=>by
  obtain ⟨hb,e⟩:=qSO z;obtain ⟨f0,f1,f2,_⟩:=hf p.1 hb;obtain ⟨o,e',d⟩:=ho p.1 hb;rw [e] at e';cases e';exact ⟨e,f0,f1,f2,d⟩
theorem Inv.unpinned {Ab pl:List (Addr × Obj)} {σ:St} {H:Hp} {s:Shared} (I:Inv X (Ab++pl) σ H s):Inv X Ab σ H s:=I.pins_of fun p hp=>I.pin p (F1 _ (Q2 _ hp))
theorem qBE {iter:Expr} {body:List Stmt} {wi:TI} {g:TG} {tb:TS} {pos:Pos} (hp:PassesOwn (model X.prog X.w) X.A X.env X.xe) (hc:X.calm=true) (hi:PI X tg iter wi) (hg:PG X tg g) (hb:PSs X body tb)
  (hs:∀ x,foldedSetIterable iter X.env x=pure x:=by intro _;rfl):PS X (.For tg iter body [] pos) (tFor wi g tb):=by
 intro Ab s σ H D I h;refine wpAny_For (thn (hi Ab s σ H _ I h) fun v s1 h1=>thn h1 fun itv s2 h2=>?_) hs;obtain ⟨it,fp,tn,J,H2,e,I2,T,st2,f2,W,⟨m0,w0⟩,turn⟩:=h2;subst e
 -- what stays true of the iterator's objects through the loop
 have stat:∀ {H':Hp},(∀ b ∈ fp,H' b=none)->∀ b ∈ fp,FpOk X Ab H' b:=fun hn b hb=>⟨hn b hb,(f2 b hb).2⟩;refine codeAny_forLoop_any (fun n s'=>∃ i σ' H',Inv X Ab σ' H' s'/\tn i s'.heap/\(∀ b ∈ fp,H' b=none)/\W i n σ' H') ?_ m0 ⟨0,σ,H2,I2,st2,fun b hb=>(f2 b hb).1,w0⟩;rintro n s3 ⟨i,σ3,H3,I3,st3,fr3,w3⟩;rcases turn i n σ3 H3 w3 with ⟨stop,qn⟩ | ⟨go,N,hN,step⟩
 ·refine wpAny_passesOwn hp (thn (T.done X rfl rfl rfl hc i Ab s3 σ3 H3 X.xe I3 (stat fr3) st3 stop) fun r s4 ⟨hr,I4⟩=>?_);subst hr;exact wpAny_execs_nil ⟨σ3,H3,I4,qn⟩
 ·refine wpAny_passesOwn hp (thn (T.item X rfl rfl rfl hc i Ab s3 σ3 H3 X.xe I3 (stat fr3) st3 go) fun r s4 ⟨u,hr,h4⟩=>?_);subst hr;refine wpAny_passesOwn hp (thn h4 fun _ s5 ⟨x,H5,I5,r5,y5,st5,fr5⟩=>?_);have I5':=I5.pinned (stat fr5) (T.obj _ _ st5);refine wpAny_passesOwn hp (thn (hg _ s5 σ3 H5 x u _ I5' r5 (step x H5 y5)) fun _ s6 ⟨σ6,H6,I6,q6⟩=>?_);refine wpAny_passesOwn hp (thn (hb _ s6 σ6 H6 _ I6 q6) fun f s7 q7=>?_);have again:∀ {σ7:St} {H7:Hp},Inv X (Ab++qM7 fp s5.heap) σ7 H7 s7->N σ7 H7->∃ m,m<n/\∃ i σ' H',Inv X Ab σ' H' s7/\tn i s7.heap/\(∀ b ∈ fp,H' b=none)/\W i m σ' H':=fun {σ7 H7} I7 n7=>by
   obtain ⟨m',hm,w7⟩:=hN σ7 H7 n7;refine ⟨m',hm,i+1,σ7,H7,I7.unpinned,T.keep _ _ _ st5 fun b hb o e=>(I7.pin (b,o) (F1 _ (F1 _ (qFJ hb e)))).1,fun b hb=>?_,w7⟩;obtain ⟨o,e,d⟩:=T.obj _ _ st5 b hb;exact (I7.pin (b,o) (F1 _ (F1 _ (qFJ hb e)))).2.1
  cases f with
  | next=>obtain ⟨σ7,H7,I7,n7⟩:=q7;exact again I7 n7
  | cont=>obtain ⟨σ7,H7,I7,n7⟩:=q7;exact again I7 n7
  | brk=>obtain ⟨σ7,H7,I7,q7⟩:=q7;exact ⟨σ7,H7,I7.unpinned,q7⟩
  | ret v=>obtain ⟨x7,σ7,H7,I7,r7,q7⟩:=q7;exact ⟨x7,σ7,H7,I7.unpinned,r7,q7⟩
end
theorem qCJ {K:PySem.W.Frag} {a:Addr} {xs:List V} {g:TG} {tb:TS} {D:Ends} {σ:St} {H:Hp} (Pv:Nat->St->Hp->Prop) (h0:Pv 0 σ H) (hl:∀ i σ H,i<=xs.length->Pv i σ H->SqL K H a xs)
  (hs:∀ i x σ H,xs[i]?=some x->Pv i σ H->g x σ H fun σ2 H2=>tb { D with nx:=Pv (i+1),ct:=Pv (i+1),bk:=D.nx } σ2 H2) (hd:∀ σ H,Pv xs.length σ H->D.nx σ H) :
  ∃ W:Nat->Nat->St->Hp->Prop,(∃ m,W 0 m σ H)/\∀ i m σ H,W i m σ H->
   ((Itl K a).stop i H/\D.nx σ H)\/((Itl K a).go i H/\∃ N:St->Hp->Prop,(∀ σ' H',N σ' H'->∃ m',m'<m/\W (i+1) m' σ' H')/\∀ x H',(Itl K a).yld i H x H'->g x σ H' fun σ2 H2=>tb { D with nx:=N,ct:=N,bk:=D.nx } σ2 H2):=by
 refine ⟨fun i m σ H=>m=xs.length - i/\i<=xs.length/\Pv i σ H,⟨xs.length,by simp,D3 _,h0⟩,?_⟩
 rintro i m σ H ⟨rfl,hi,p⟩;have q:=hl i σ H hi p;by_cases hlt:i<xs.length
 ·refine .inr ⟨⟨xs,xs[i],q,by simp [hlt]⟩,Pv (i+1),fun σ' H' p'=>⟨xs.length - (i+1),by omega,rfl,hlt,p'⟩,fun x H' y=>?_⟩
  obtain ⟨e,y⟩:=y;subst e;exact hs i x σ _ (y xs q) p
 ·have e:i=xs.length:=by omega
  subst e;exact .inl ⟨⟨xs,q,B0 _⟩,hd σ H p⟩
theorem qEY {K:PySem.W.Frag} {a:Addr} {xs:List V} {g:TG} {tb:TS} {D:Ends} {σ:St} {H:Hp} (Pv:Nat->St->Hp->Prop) (h0:Pv 0 σ H) (hl:∀ i σ H,i<=xs.length->Pv i σ H->SqT K H a xs)
  (hs:∀ i x σ H,xs[i]?=some x->Pv i σ H->g x σ H fun σ2 H2=>tb { D with nx:=Pv (i+1),ct:=Pv (i+1),bk:=D.nx } σ2 H2) (hd:∀ σ H,Pv xs.length σ H->D.nx σ H) :
  ∃ W:Nat->Nat->St->Hp->Prop,(∃ m,W 0 m σ H)/\∀ i m σ H,W i m σ H->
   ((Itt K a).stop i H/\D.nx σ H)\/((Itt K a).go i H/\∃ N:St->Hp->Prop,(∀ σ' H',N σ' H'->∃ m',m'<m/\W (i+1) m' σ' H')/\∀ x H',(Itt K a).yld i H x H'->g x σ H' fun σ2 H2=>tb { D with nx:=N,ct:=N,bk:=D.nx } σ2 H2):=by
 refine ⟨fun i m σ H=>m=xs.length - i/\i<=xs.length/\Pv i σ H,⟨xs.length,by simp,D3 _,h0⟩,?_⟩
 rintro i m σ H ⟨rfl,hi,p⟩;have q:=hl i σ H hi p;by_cases hlt:i<xs.length
 ·refine .inr ⟨⟨xs,xs[i],q,by simp [hlt]⟩,Pv (i+1),fun σ' H' p'=>⟨xs.length - (i+1),by omega,rfl,hlt,p'⟩,fun x H' y=>?_⟩
  obtain ⟨e,y⟩:=y;subst e;exact hs i x σ _ (y xs q) p
 ·have e:i=xs.length:=by omega
  subst e;exact .inl ⟨⟨xs,q,B0 _⟩,hd σ H p⟩
theorem qEZ {lo:Int} {n:Nat} {g:TG} {tb:TS} {D:Ends} {σ:St} {H:Hp} (Pv:Nat->St->Hp->Prop) (h0:Pv 0 σ H)
  (hs:∀ i σ H,i<n->Pv i σ H->g (.int (lo+i)) σ H fun σ2 H2=>tb { D with nx:=Pv (i+1),ct:=Pv (i+1),bk:=D.nx } σ2 H2) (hd:∀ σ H,Pv n σ H->D.nx σ H) :
  ∃ W:Nat->Nat->St->Hp->Prop,(∃ m,W 0 m σ H)/\∀ i m σ H,W i m σ H->
   ((Itr lo n).stop i H/\D.nx σ H)\/((Itr lo n).go i H/\∃ N:St->Hp->Prop,(∀ σ' H',N σ' H'->∃ m',m'<m/\W (i+1) m' σ' H')/\∀ x H',(Itr lo n).yld i H x H'->g x σ H' fun σ2 H2=>tb { D with nx:=N,ct:=N,bk:=D.nx } σ2 H2):=by
 refine ⟨fun i m σ H=>m=n - i/\i<=n/\Pv i σ H,⟨n,by simp,D3 _,h0⟩,?_⟩
 rintro i m σ H ⟨rfl,hi,p⟩;by_cases hlt:i<n
 ·refine .inr ⟨hlt,Pv (i+1),fun σ' H' p'=>⟨n - (i+1),by omega,rfl,hlt,p'⟩,fun x H' y=>?_⟩
  obtain ⟨e,y⟩:=y;subst e y;exact hs i σ _ hlt p
 ·have e:i=n:=by omega
  subst e;exact .inl ⟨B0 _,hd σ H p⟩
end L2
namespace L2
open PySem PySem.Spec PyProof.Rows
abbrev R2:=V->V->Hp->VK->Prop
def OpR (X:Cx) (f:Value->Value->Sem Value) (r:R2):Prop:=
 ∀ (Ab:List (Addr × Obj)) (s:Shared) (σ:St) (H:Hp) (x y:V) (v u:Value) (Q:VK),Inv X Ab σ H s->RelV x v->RelV y u->r x y H Q->
  wpAny (model X.prog X.w) X.A (f v u) (EP X Ab σ Q) X.xe s
def UnR (X:Cx) (f:Value->Sem Value) (r:V->Hp->VK->Prop):Prop:=
 ∀ (Ab:List (Addr × Obj)) (s:Shared) (σ:St) (H:Hp) (x:V) (v:Value) (Q:VK),Inv X Ab σ H s->RelV x v->r x H Q->
  wpAny (model X.prog X.w) X.A (f v) (EP X Ab σ Q) X.xe s
def qDM (X:Cx) (f:Value) (r:List V->Hp->VK->Prop):Prop:=
 ∀ (Ab:List (Addr × Obj)) (s:Shared) (σ:St) (H:Hp) (xs:List V) (us:List Value) (Q:VK),Inv X Ab σ H s->Vals xs us->r xs H Q->
  wpAny (model X.prog X.w) X.A (call f us) (EP X Ab σ Q) X.xe s
def TruR (X:Cx) (r:V->Hp->(Bool->Hp->Prop)->Prop):Prop:=
 ∀ (Ab:List (Addr × Obj)) (s:Shared) (σ:St) (H:Hp) (x:V) (v:Value) (Q:Bool->Hp->Prop),Inv X Ab σ H s->RelV x v->r x H Q->
  wpAny (model X.prog X.w) X.A (truthy v) (TP X Ab σ Q) X.xe s
def tOp (r:R2) (ta tb:TE):TE:=fun σ H Q=>ta σ H fun x H1=>tb σ H1 fun y H2=>r x y H2 Q
def tUn (r:V->Hp->VK->Prop) (ta:TE):TE:=fun σ H Q=>ta σ H fun x H1=>r x H1 Q
def rI (C:Int->Int->Prop) (g:Int->Int->V):R2:=fun x y H Q=>∃ i j,x=.int i/\y=.int j/\C i j/\Q (g i j) H
def rI0 (g:Int->Int->V):R2:=fun x y H Q=>∃ i j,x=.int i/\y=.int j/\Q (g i j) H
def rU (g:Int->V):V->Hp->VK->Prop:=fun x H Q=>∃ i,x=.int i/\Q (g i) H
section
variable {X:Cx} {a b c:Expr} {ta tb tc:TE} {pos:Pos}
theorem binT (ha:PE X a ta) (hb:PE X b tb) {Ab:List (Addr × Obj)} {s:Shared} {σ:St} {H:Hp} {R:V->V->Hp->Prop} (I:Inv X Ab σ H s)
  (h:ta σ H fun x H1=>tb σ H1 fun y H2=>R x y H2) {Q:Value->Shared->Prop} {f:Value->Value->Sem Value}
  (hf:∀ v u s2 x y H2,Inv X Ab σ H2 s2->RelV x v->RelV y u->R x y H2->wpAny (model X.prog X.w) X.A (f v u) Q X.xe s2) :
  wpAny (model X.prog X.w) X.A (eval a X.env) (fun v s₁=>wpAny (model X.prog X.w) X.A (eval b X.env) (fun u s₂=>wpAny (model X.prog X.w) X.A (f v u) Q X.xe s₂) X.xe s₁) X.xe s:=by
 refine thn (ha Ab s σ H _ I h) fun v s1 ⟨x,H1,I1,r1,q1⟩=>?_;refine thn (hb Ab s1 σ H1 _ I1 q1) fun u s2 ⟨y,H2,I2,r2,q2⟩=>?_;exact hf v u s2 x y H2 I2 r1 r2 q2
theorem qAP {op:Operator} {r:R2} (ho:OpR X (binaryOp op) r) (ha:PE X a ta) (hb:PE X b tb):PE X (.BinOp a op b pos) (tOp r ta tb):=by
 intro Ab s σ H Q I h;exact wpAny_BinOp (binT ha hb I h fun v u s2 x y H2 I2 rx ry q=>ho Ab s2 σ H2 x y v u Q I2 rx ry q)
theorem qQK {op:UnaryOp} {r:V->Hp->VK->Prop} (ho:UnR X (unaryOp op) r) (ha:PE X a ta):PE X (.UnaryOp op a pos) (tUn r ta):=by
 intro Ab s σ H Q I h;exact UnaryOp_ (thn (ha Ab s σ H _ I h) fun v s1 ⟨x,H1,I1,r1,q1⟩=>ho Ab s1 σ H1 x v Q I1 r1 q1)
theorem opI {f:Value->Value->Sem Value} {C:Int->Int->Prop} {g:Int->Int->Int}
  (rule:∀ (i j:Int) (t u:Tok) (s:Shared) (Q:Value->Shared->Prop) (E:Value->Shared->Prop),C i j->Q (.int (g i j) s.toks) { s with toks:=s.toks+1 }->wpAny (model X.prog X.w) X.A (f (.int i t) (.int j u)) Q E s) :
  OpR X f (rI C fun i j=>.int (g i j)):=by
 intro Ab s σ H x y v u Q I rx ry h;obtain ⟨i,j,rfl,rfl,hc,q⟩:=h;obtain ⟨t,rfl⟩:=rx;obtain ⟨t',rfl⟩:=ry;exact rule i j t t' s _ _ hc ⟨.int (g i j),H,I.tok _,⟨_,rfl⟩,q⟩
theorem opI0 {f:Value->Value->Sem Value} {g:Int->Int->Int}
  (rule:∀ (i j:Int) (t u:Tok) (s:Shared) (Q:Value->Shared->Prop) (E:Value->Shared->Prop),Q (.int (g i j) s.toks) { s with toks:=s.toks+1 }->wpAny (model X.prog X.w) X.A (f (.int i t) (.int j u)) Q E s) :
  OpR X f (rI0 fun i j=>.int (g i j)):=by
 intro Ab s σ H x y v u Q I rx ry h;obtain ⟨i,j,rfl,rfl,q⟩:=h;obtain ⟨t,rfl⟩:=rx;obtain ⟨t',rfl⟩:=ry;exact rule i j t t' s _ _ ⟨.int (g i j),H,I.tok _,⟨_,rfl⟩,q⟩
theorem opB0 {f:Value->Value->Sem Value} {g:Int->Int->Bool}
  (rule:∀ (i j:Int) (t u:Tok) (s:Shared) (Q:Value->Shared->Prop) (E:Value->Shared->Prop),Q (.bool (g i j)) s->wpAny (model X.prog X.w) X.A (f (.int i t) (.int j u)) Q E s) :
  OpR X f (rI0 fun i j=>.bl (g i j)):=by
 intro Ab s σ H x y v u Q I rx ry h;obtain ⟨i,j,rfl,rfl,q⟩:=h;obtain ⟨t,rfl⟩:=rx;obtain ⟨t',rfl⟩:=ry;exact rule i j t t' s _ _ ⟨.bl (g i j),H,I,rfl,q⟩
def CDiv (i j:Int):Prop:=0<j/\j<1073741824
def CPow (i j:Int):Prop:=0<=j/\j<=1000000/\i.natAbs<2 ^ 64
def CMul (i j:Int):Prop:=(-(2 ^ 64)<i/\i<2 ^ 64)\/(-(2 ^ 64)<j/\j<2 ^ 64)
theorem CMul.ok {i j:Int} (h:CMul i j):IntMulOk i j:=by
 rcases h with ⟨h1,h2⟩ | ⟨h1,h2⟩
 ·exact .of_left (intBits_le_64 h1 h2)
 ·exact .of_right (intBits_le_64 h1 h2)
theorem qCA:OpR X (binaryOp .Add) (rI0 fun i j=>.int (i+j)):=opI0 fun _ _ _ _ _ _ _ q=>add_int q
theorem qDG:OpR X (binaryOp .Sub) (rI0 fun i j=>.int (i - j)):=opI0 fun _ _ _ _ _ _ _ q=>sub_int q
theorem qK1:OpR X (binaryOp .Mult) (rI CMul fun i j=>.int (i * j)):=opI fun _ _ _ _ _ _ _ hc q=>mul_int q hc.ok
theorem qO7:OpR X (binaryOp .FloorDiv) (rI CDiv fun i j=>.int (i / j)):=opI fun i j _ _ _ _ _ hc q=>by
 have h1:(0:Int)<j:=hc.1;have h2:j<1073741824:=hc.2;exact floordiv_int (by omega) (by rw [i0 i (by omega)];exact q) (.inl (Y8 (by omega)))
theorem qIU:OpR X (binaryOp .Mod) (rI (fun _ j=>0<j) fun i j=>.int (i % j)):=opI fun i j _ _ _ _ _ hc q=>by
 have h1:(0:Int)<j:=hc;exact mod_int' (by omega) (by rw [i4 i (by omega)];exact q)
theorem qZR:OpR X (binaryOp .Pow) (rI CPow fun i j=>.int (i ^ j.toNat)):=opI fun _ _ _ _ _ _ _ hc q=>pow_int_small hc.1 hc.2.1 hc.2.2 q
theorem unI {f:Value->Sem Value} {g:Int->Int}
  (rule:∀ (i:Int) (t:Tok) (s:Shared) (Q:Value->Shared->Prop) (E:Value->Shared->Prop),Q (.int (g i) s.toks) { s with toks:=s.toks+1 }->wpAny (model X.prog X.w) X.A (f (.int i t)) Q E s) :
  UnR X f (rU fun i=>.int (g i)):=by
 intro Ab s σ H x v Q I rx h;obtain ⟨i,rfl,q⟩:=h;obtain ⟨t,rfl⟩:=rx;exact rule i t s _ _ ⟨.int (g i),H,I.tok _,⟨_,rfl⟩,q⟩
theorem qJV:UnR X (unaryOp .USub) (rU fun i=>.int (-i)):=unI fun _ _ _ _ _ q=>neg_int q
end
def scal:V->V->Bool
 | .non,.non=>true | .non,.int _=>true | .int _,.non=>true | .non,.bl _=>true | .bl _,.non=>true | .non,.str _=>true | .str _,.non=>true
 | .int _,.int _=>true | .bl _,.bl _=>true | .str _,.str _=>true | .byt _,.byt _=>true
 | .int _,.str _=>true | .str _,.int _=>true | .bl _,.str _=>true | .str _,.bl _=>true
 | _,_=>false
def rEq:R2:=fun x y H Q=>scal x y=true/\Q (.bl (decide (x=y))) H
def rNe:R2:=fun x y H Q=>scal x y=true/\Q (.bl (!decide (x=y))) H
theorem qU0 {i j:Int}:decide (V.int i=V.int j)=(i == j):=by
 rw [R3];simp
theorem qX5 {i j:Bool}:decide (V.bl i=V.bl j)=(i == j):=by
 rw [R3];simp
theorem qTZ {i j:Str}:decide (V.str i=V.str j)=(i == j):=by
 rw [R3];simp
theorem qU1 {i j:Array UInt8}:decide (V.byt i=V.byt j)=(i.toList == j.toList):=by
 rw [R3];cases i;cases j;simp
section
variable {X:Cx} {a b c:Expr} {ta tb tc:TE} {pos:Pos}
theorem qB9 {Ab:List (Addr × Obj)} {σ:St} {H:Hp} {s:Shared} {Q:VK} {k k':Bool} (I:Inv X Ab σ H s) (q:Q (.bl k) H) (e:k=k'):EP X Ab σ Q (.bool k') s:=by
 subst e;exact ⟨.bl k,H,I,rfl,q⟩
theorem qG9:OpR X (compareOp .Eq) rEq:=by
 intro Ab s σ H x y v u Q I rx ry h;obtain ⟨hs,q⟩:=h;cases x with
 | non=>
  cases rx;cases y with
  | non=>cases ry;exact PySem.EqNone.eq_none_none (qB9 I q (by simp))
  | bl j=>cases ry;exact PySem.EqNone.eq_none_bool (qB9 I q (by simp))
  | int j=>obtain ⟨t',rfl⟩:=ry;exact PySem.EqNone.eq_none_int (qB9 I q (by simp))
  | str j=>obtain ⟨t',rfl⟩:=ry;exact PySem.EqNone.eq_none_str (qB9 I q (by simp))
  | _=>exact absurd (show false=true from hs) B8
 | bl i=>
  cases rx;cases y with
  | non=>cases ry;exact PySem.EqNone.eq_bool_none (qB9 I q (by simp))
  | bl j=>cases ry;exact eq_bool (qB9 I q qX5)
  | str j=>obtain ⟨t',rfl⟩:=ry;exact PySem.EqMixed.eq_bool_str (qB9 I q (by simp))
  | _=>exact absurd (show false=true from hs) B8
 | int i=>
  obtain ⟨t,rfl⟩:=rx;cases y with
  | non=>cases ry;exact PySem.EqNone.eq_int_none (qB9 I q (by simp))
  | int j=>obtain ⟨t',rfl⟩:=ry;exact eq_int (qB9 I q qU0)
  | str j=>obtain ⟨t',rfl⟩:=ry;exact PySem.EqMixed.eq_int_str (qB9 I q (by simp))
  | _=>exact absurd (show false=true from hs) B8
 | str i=>
  obtain ⟨t,rfl⟩:=rx;cases y with
  | non=>cases ry;exact PySem.EqNone.eq_str_none (qB9 I q (by simp))
  | bl j=>cases ry;exact PySem.EqMixed.eq_str_bool (qB9 I q (by simp))
  | int j=>obtain ⟨t',rfl⟩:=ry;exact PySem.EqMixed.eq_str_int (qB9 I q (by simp))
  | str j=>obtain ⟨t',rfl⟩:=ry;exact eq_str (qB9 I q qTZ)
  | _=>exact absurd (show false=true from hs) B8
 | byt i=>
  obtain ⟨t,rfl⟩:=rx;cases y with
  | byt j=>obtain ⟨t',rfl⟩:=ry;exact PySem.W.eq_bytes (qB9 I q qU1)
  | _=>exact absurd (show false=true from hs) B8
 | _=>cases y <;> exact absurd (show false=true from hs) B8
theorem qQN:OpR X (compareOp .NotEq) rNe:=by
 intro Ab s σ H x y v u Q I rx ry h;obtain ⟨hs,q⟩:=h;cases x with
 | non=>
  cases rx;cases y with
  | non=>cases ry;exact PySem.EqNone.ne_none_none (qB9 I q (by simp))
  | bl j=>cases ry;exact PySem.EqNone.ne_none_bool (qB9 I q (by simp))
  | int j=>obtain ⟨t',rfl⟩:=ry;exact PySem.EqNone.ne_none_int (qB9 I q (by simp))
  | str j=>obtain ⟨t',rfl⟩:=ry;exact PySem.EqNone.ne_none_str (qB9 I q (by simp))
  | _=>exact absurd (show false=true from hs) B8
 | bl i=>
  cases rx;cases y with
  | non=>cases ry;exact PySem.EqNone.ne_bool_none (qB9 I q (by simp))
  | bl j=>cases ry;exact ne_bool (qB9 I q (congrArg not qX5))
  | str j=>obtain ⟨t',rfl⟩:=ry;exact PySem.EqMixed.ne_bool_str (qB9 I q (by simp))
  | _=>exact absurd (show false=true from hs) B8
 | int i=>
  obtain ⟨t,rfl⟩:=rx;cases y with
  | non=>cases ry;exact PySem.EqNone.ne_int_none (qB9 I q (by simp))
  | int j=>obtain ⟨t',rfl⟩:=ry;exact ne_int (qB9 I q (congrArg not qU0))
  | str j=>obtain ⟨t',rfl⟩:=ry;exact PySem.EqMixed.ne_int_str (qB9 I q (by simp))
  | _=>exact absurd (show false=true from hs) B8
 | str i=>
  obtain ⟨t,rfl⟩:=rx;cases y with
  | non=>cases ry;exact PySem.EqNone.ne_str_none (qB9 I q (by simp))
  | bl j=>cases ry;exact PySem.EqMixed.ne_str_bool (qB9 I q (by simp))
  | int j=>obtain ⟨t',rfl⟩:=ry;exact PySem.EqMixed.ne_str_int (qB9 I q (by simp))
  | str j=>obtain ⟨t',rfl⟩:=ry;exact ne_str (qB9 I q (congrArg not qTZ))
  | _=>exact absurd (show false=true from hs) B8
 | byt i=>
  obtain ⟨t,rfl⟩:=rx;cases y with
  | byt j=>obtain ⟨t',rfl⟩:=ry;exact PySem.W.ne_bytes (qB9 I q (congrArg not qU1))
  | _=>exact absurd (show false=true from hs) B8
 | _=>cases y <;> exact absurd (show false=true from hs) B8
theorem qXV:OpR X (compareOp .Lt) (rI0 fun i j=>.bl (decide (i<j))):=opB0 fun _ _ _ _ _ _ _ q=>lt_int q
theorem qbD:OpR X (compareOp .LtE) (rI0 fun i j=>.bl (decide (i<=j))):=opB0 fun _ _ _ _ _ _ _ q=>le_int q
theorem qZS:OpR X (compareOp .Gt) (rI0 fun i j=>.bl (decide (j<i))):=opB0 fun _ _ _ _ _ _ _ q=>gt_int q
theorem qXW:OpR X (compareOp .GtE) (rI0 fun i j=>.bl (decide (j<=i))):=opB0 fun _ _ _ _ _ _ _ q=>ge_int q
theorem qB1 (b:Expr) {op:CmpOp} (h:op ≠ .In:=by decide) (h2:op ≠ .NotIn:=by decide):behindInMarks op b=false:=by
 have e1:(op == CmpOp.In)=false:=by cases op <;> first | rfl | exact absurd rfl h
 have e2:(op == CmpOp.NotIn)=false:=by cases op <;> first | rfl | exact absurd rfl h2
 cases b <;> simp [behindInMarks,e1,e2]
theorem qE0 {op:CmpOp} {r:R2} (ho:OpR X (compareOp op) r) (ha:PE X a ta) (hb:PE X b tb) (hm:behindInMarks op b=false):PE X (.Compare a [op] [b] pos) (tOp r ta tb):=by
 intro Ab s σ H Q I h;exact wpAny_Compare1 (binT ha hb I h fun v u s2 x y H2 I2 rx ry q=>ho Ab s2 σ H2 x y v u Q I2 rx ry q) hm
def qaR (t:TE):TT:=fun σ H Q=>t σ H fun x H'=>∃ k,x=.bl k/\Q k H'
theorem qAU {op:CmpOp} {r:R2} (ho:OpR X (compareOp op) r) (ha:PE X a ta) (hb:PE X b tb) (hm:behindInMarks op b=false):PT X (.Compare a [op] [b] pos) (qaR (tOp r ta tb)):=by
 intro Ab s σ H Q I h;refine wpAny_isTrue_Compare1 (thn (ha Ab s σ H _ I h) fun v s1 ⟨x,H1,I1,r1,q1⟩=>thn (hb Ab s1 σ H1 _ I1 q1) fun u s2 ⟨y,H2,I2,r2,q2⟩=>
  thn (ho Ab s2 σ H2 x y v u _ I2 r1 r2 q2) fun c s3 ⟨z,H3,I3,r3,k,e,q3⟩=>?_) hm
 subst e;cases r3;exact wpAny_truthy_bool ⟨H3,I3,q3⟩
def TruV (K:PySem.W.Frag) (x:V) (H:Hp) (k:Bool):Prop:=
 match x with
 | .non=>k=false
 | .bl b=>k=b
 | .int i=>k=(i != 0)
 | .str y=>y.length<=sizeLine/\k=((y.length:Int) != 0)
 | .byt y=>y.size<=sizeLine/\k=((y.size:Int) != 0)
 | .ref p=>(∃ xs,SqL K H p xs/\k=!xs.isEmpty)\/(∃ xs,SqT K H p xs/\k=!xs.isEmpty)\/∃ Af,H p=some (.dK Af)/\k=!Af.isEmpty
 | _=>False
theorem qR0 {κ:Type} {Af:List (κ × V)} {vs:List (κ × Value)} (r:KV Af vs):(!vs.isEmpty)=!Af.isEmpty:=by
 cases r <;> rfl
theorem qK9 {xs:List V} {its:List Value} (r:Vals xs its):(!its.toArray.isEmpty)=!xs.isEmpty:=by
 cases r <;> simp
theorem qK5:(sizeLine:Nat)<2 ^ 63:=by rw [sizeLine_eq];decide
theorem qYZ:TruR X (fun x H Q=>∃ k,TruV X.K x H k/\Q k H):=by
 intro Ab s σ H x v Q I rx h;obtain ⟨k,e,q⟩:=h;have hl:=qK5;have hs:sizeLine=16777216:=sizeLine_eq;cases x with
 | non=>
  cases rx;have e':k=false:=e;subst e';exact truthy_none ⟨H,I,q⟩
 | bl b=>
  cases rx;have e':k=b:=e;subst e';exact wpAny_truthy_bool ⟨H,I,q⟩
 | int i=>
  obtain ⟨t,rfl⟩:=rx;have e':k=(i != 0):=e;subst e';exact PySem.P.truthy_int ⟨H,I,q⟩
 | str y=>
  obtain ⟨t,rfl⟩:=rx;obtain ⟨hy,e'⟩:y.length<=sizeLine/\k=((y.length:Int) != 0):=e;subst e';exact PySem.P.truthy_str (by omega) ⟨H,I.tok _,q⟩
 | byt y=>
  obtain ⟨t,rfl⟩:=rx;obtain ⟨hy,e'⟩:y.size<=sizeLine/\k=((y.size:Int) != 0):=e;subst e';exact PySem.W.truthy_bytes (by omega) ⟨H,I.tok _,q⟩
 | ref p=>
  cases rx;have e':(∃ xs,SqL X.K H p xs/\k=!xs.isEmpty)\/(∃ xs,SqT X.K H p xs/\k=!xs.isEmpty)\/∃ Af,H p=some (.dK Af)/\k=!Af.isEmpty:=e;rcases e' with ⟨xs,hx,e'⟩ | ⟨xs,hx,e'⟩ | ⟨Af,hx,e'⟩
  ·subst e';obtain ⟨its,r,pl,hz⟩:=I.list hx;have hlen:=r.length;exact wpAny_truthy_list pl.isList (by simp only [A8];omega) ⟨H,I.tok _,by rw [qK9 r];exact q⟩
  ·subst e';obtain ⟨its,r,pl,hz⟩:=I.tuple hx;have hlen:=r.length;exact truthy_tuple pl (by simp only [A8];omega) ⟨H,I.tok _,by rw [qK9 r];exact q⟩
  ·subst e';obtain ⟨hz,hS,vs,r,m⟩:Af.length<=sizeLine/\(p == sysModules)=false/\∃ vs,KV Af vs/\s.heap.DictOf (qBF X.prog X.w) p vs:=I.hok p _ hx;have hlen:Af.length=vs.length:=C7 r;exact wpAny_truthy_dict hS m (by omega) ⟨H,I.tok _,by rw [qR0 r];exact q⟩
 | _=>exact (show False from e).elim
theorem qV6 (ha:PE X a ta) (he:∀ whole,isTrue a X.env whole=(do let v <- whole;standAt a.pos;holding [v] (truthy v))) :
  PT X a (fun σ H Q=>ta σ H fun x H'=>∃ k,TruV X.K x H' k/\Q k H'):=by
 intro Ab s σ H Q I h;exact isTrue_plain (thn (ha Ab s σ H _ I h) fun v s1 ⟨x,H1,I1,r1,q1⟩=>qYZ Ab s1 σ H1 x v Q I1 r1 q1) (he _)
theorem qEO {x:V} {us:List Value} (r:Vals [x] us):∃ u,us=[u]/\RelV x u:=by
 cases r with
 | cons r1 r2=>cases r2;exact ⟨_,rfl,r1⟩
theorem qNS {x y:V} {us:List Value} (r:Vals [x,y] us):∃ u w',us=[u,w']/\RelV x u/\RelV y w':=by
 cases r with
 | cons r1 r2=>
  cases r2 with
  | cons r3 r4=>cases r4;exact ⟨_,_,rfl,r1,r3⟩
theorem qJE (hc:X.calm=true):qDM X (.builtin "max") (fun xs H Q=>∃ i j,xs=[.int i,.int j]/\Q (.int (if j > i then j else i)) H):=by
 intro Ab s σ H xs us Q I r h;obtain ⟨i,j,rfl,q⟩:=h;obtain ⟨u,w',rfl,⟨t,rfl⟩,⟨t',rfl⟩⟩:=qNS r;refine max_two_ints (I.ok.hd hc) fun h' tk k=>⟨_,H,I.kept k,?_,q⟩;by_cases hj:j > i
 ·rw [if_pos hj,if_pos hj];exact ⟨_,rfl⟩
 ·rw [if_neg hj,if_neg hj];exact ⟨_,rfl⟩
theorem qJC (hc:X.calm=true):qDM X (.builtin "min") (fun xs H Q=>∃ i j,xs=[.int i,.int j]/\Q (.int (if j<i then j else i)) H):=by
 intro Ab s σ H xs us Q I r h;obtain ⟨i,j,rfl,q⟩:=h;obtain ⟨u,w',rfl,⟨t,rfl⟩,⟨t',rfl⟩⟩:=qNS r;refine min_two_ints (I.ok.hd hc) fun h' tk k=>⟨_,H,I.kept k,?_,q⟩;by_cases hj:j<i
 ·rw [if_pos hj,if_pos hj];exact ⟨_,rfl⟩
 ·rw [if_neg hj,if_neg hj];exact ⟨_,rfl⟩
theorem qNF:qDM X (.type "int") (fun xs H Q=>(∃ i,xs=[.int i]/\Q (.int i) H)\/∃ k,xs=[.bl k]/\Q (.int (if k then 1 else 0)) H):=by
 intro Ab s σ H xs us Q I r h;rcases h with ⟨i,rfl,q⟩ | ⟨k,rfl,q⟩
 ·obtain ⟨u,rfl,t,rfl⟩:=qEO r;exact call_int_int ⟨.int i,H,I,⟨_,rfl⟩,q⟩
 ·obtain ⟨u,rfl,r1⟩:=qEO r;cases r1;exact call_int_bool ⟨.int (if k then 1 else 0),H,I.tok _,⟨_,rfl⟩,q⟩
theorem qON:qDM X (.builtin "divmod") (fun xs H Q=>∃ i j,xs=[.int i,.int j]/\CDiv i j/\∀ p,H p=none->Q (.ref p) (upd H p (.tup [.int (i / j),.int (i % j)]))):=by
 intro Ab s σ H xs us Q I r h;obtain ⟨i,j,rfl,⟨h1,h2⟩,q⟩:=h;obtain ⟨u,w',rfl,⟨t,rfl⟩,⟨t',rfl⟩⟩:=qNS r;refine divmod_int (by omega) ?_ (.inl (Y8 (by omega)))
 rw [i0 i (by omega),i4 i (by omega)]
 have hn:H s.heap.objs.size=none:=I.hok.fresh (B0 _);refine ⟨.ref s.heap.objs.size,_,?_,rfl,q _ hn⟩;refine I.laid (fun b o e=>A2 _ e) (B0 _) ⟨by simp only [E3,Y0];rw [sizeLine_eq];decide,[.int (i / j) s.toks,.int (i % j) (s.toks+1)],.cons ⟨_,rfl⟩ (.cons ⟨_,rfl⟩ .nil),?_⟩
 exact ⟨_,B5 s.heap rfl,rfl,0,rfl⟩
end
end L2
namespace L2
open PySem PySem.Spec PyProof.Rows
structure ObjM (h:Heap) (x dx C:Addr) (mA:Str->Option Value):Prop where
 obj:h.get? x=some (q9 C dx)
 ns:h.Ns1 dx mA
 ne:dx ≠ x
theorem qSX {h:Heap} {dx:Addr} {mA:Str->Option Value} (n:h.Ns1 dx mA):∃ od,h.get? dx=some od/\∀ name,x9 name od=some (mA name):=by
 obtain ⟨o,es,ep,ho,hd,hk,_,hm⟩:=n;refine ⟨o,ho,fun name=>?_⟩;have e:=hm name;unfold nsFind findBy at e;rw [<- Array.find?_toList] at e;unfold x9;rw [hd];dsimp only
 split
 ·rename_i y q
  rw [q] at e;exact congrArg some e
 ·rename_i q
  rw [q] at e;have a:es.toList.any (·.refKey)=false:=by
   rw [List.any_eq_false];intro y hy;obtain ⟨z,t,hkey⟩:=hk y (Array.mem_toList_iff.mp hy);simp [DictEntry.refKey,hkey]
  have a':¬ es.toList.any (·.refKey)=true:=by rw [a];exact B8
  rw [if_neg a'];exact congrArg some e
theorem ObjM.look {h:Heap} {x dx C:Addr} {mA:Str->Option Value} (I:ObjM h x dx C mA):∃ od,PySem.W.InstAt h x (q9 C dx) C (some od)/\∀ name,x9 name od=some (mA name):=
 let ⟨od,ho,hl⟩:=qSX I.ns
 ⟨od,⟨I.obj,rfl,rfl,ho⟩,hl⟩
section
variable {prog:Program} {w:World} {A:Around} {E:Value->Shared->Prop} {s:Shared} {K:PySem.W.Frag} {x dx C f:Addr} {mA:Str->Option Value} {name:Str} {v:Value}
end
theorem RelO.some_of {v:V} {o:Option Value} (r:RelO (some v) o):∃ u,o=some u/\RelV v u:=by
 cases o with
 | none=>exact (show False from r).elim
 | some u=>exact ⟨u,rfl,r⟩
section
variable {P:Program} {w:World} {H H':Hp} {h h':Heap} {a C dx:Addr} {fs fs':List (Str × V)}
theorem qYE (hok:HOk P w H h) (e:H a=some (.ins C dx fs)):∃ mA,ObjM h a dx C mA/\(∀ f,RelO (fs.lookup f) (mA f))/\PySem.Within mA (fs.map (·.1))/\fs.length<=1000/\H dx=some (.own a):=by
 obtain ⟨d,z,ne,ob,mA,n,r,q⟩:=(show ObjOk P w H h a (.ins C dx fs) from hok a _ e);exact ⟨mA,⟨ob,n,ne⟩,r,q,z,d⟩
end
structure Cls (K:PySem.W.Frag) (C:Addr):Prop where
 pg:A36 K C Q3=true
 hd:A19 K C=true
 po:PySem.W.plainOver K C=true
 sa:Q9 K (.ref C) "__setattr__" = some (some (.builtin "object.__setattr__"))
theorem Cls.get {K:PySem.W.Frag} {C:Addr} (c:Cls K C) (f:Str):A36 K C f=true:=c.pg
structure Con (K:PySem.W.Frag) (C:Addr) (f:Str) (v:V) (u:Value):Prop where
 at_:Q9 K (.ref C) f=some (some u)
 rel:RelV v u
 get:k8 K u "__get__" = some none
 cp:PySem.W.copiedNames.contains f=false
structure Meth (K:PySem.W.Frag) (C:Addr) (m:Str) (f:Addr):Prop where
 at_:Q9 K (.ref C) m=some (some (.ref f))
 fn:A76 K (.ref f)=true
 kp:M9 K (.ref f)=true
section
variable {X:Cx} {Ab:List (Addr × Obj)} {σ:St} {H:Hp} {s:Shared} {a C dx:Addr} {fs:List (Str × V)} {f:Str} {v:V} {A:Around} {E:Value->Shared->Prop}
end
section
variable {X:Cx} {o e value:Expr} {f:Str} {pos pos' tpos:Pos} {ta tv:TE}
end
section
variable {X:Cx} {Ab:List (Addr × Obj)} {σ:St} {H:Hp} {s:Shared} {A:Around} {E:Value->Shared->Prop} {Q:Value->Shared->Prop} {c:Value} {b:Bool}
inductive TyOf (K:PySem.W.Frag) (H:Hp):V->Value->Prop where
 | non:TyOf K H .non (.type "NoneType")
 | bl (x:Bool):TyOf K H (.bl x) (.type "bool")
 | int (i:Int):TyOf K H (.int i) (.type "int")
 | str (x:Str):TyOf K H (.str x) (.type "str")
 | flt (x:UInt64):TyOf K H (.flt x) (.type "float")
 | lst {a:Addr} {xs:List V} (e:H a=some (.lst xs)):TyOf K H (.ref a) (.type "list")
 | frz {a:Addr} {o:Obj} {xs:List V} (e:H a=some (.frz o (.lst xs))):TyOf K H (.ref a) (.type "list")
 | tup {a:Addr} {xs:List V} (e:H a=some (.tup xs)):TyOf K H (.ref a) (.type "tuple")
 | dK {a:Addr} {Af:List (Key × V)} (e:H a=some (.dK Af)):TyOf K H (.ref a) (.type "dict")
 | dT {a:Addr} {Af:List (List Key × V)} (e:H a=some (.dT Af)):TyOf K H (.ref a) (.type "dict")
 | ins {a C dx:Addr} {fs:List (Str × V)} (e:H a=some (.ins C dx fs)) (cl:Cls K C) (ha:Q9 K (.ref C) "__class__" = some (some (.builtin "object.__class__")))
   (hn:k8 K (.builtin "object.__class__") "__get__" = some (some (.builtin "getset_descriptor.__get__"))) (htk:A50 K (.builtin "object.__class__")=some true)
   (hm:A09 K C (.type "object")=some true):TyOf K H (.ref a) (.ref C)
theorem qT9 {x:V} {u t:Value} (I:Inv X Ab σ H s) (rx:RelV x u) (ty:TyOf X.K H x t) (e:M4 X.K t c=some b) (h:∀ tk,Q (.bool b) { s with toks:=tk }) :
  wpAny (model X.prog X.w) A (call (.builtin "isinstance") [u,c]) Q E s:=by
 cases ty with
 | non=>cases (show u=P1 from rx);exact O0 PySem.W.kitx_none I.kIn U2 e (fun z=>nomatch z) h
 | bl y=>cases (show u=R0 y from rx);exact O0 PySem.W.kitx_bool I.kIn U2 e (fun z=>nomatch z) h
 | int i=>obtain ⟨t,q⟩:=(show ∃ t,u=J5 i t from rx);cases q;exact O0 PySem.W.kitx_int I.kIn U2 e (fun z=>nomatch z) h
 | str y=>obtain ⟨t,q⟩:=(show ∃ t,u=A49 y t from rx);cases q;exact O0 PySem.W.kitx_str I.kIn U2 e (fun z=>nomatch z) h
 | flt y=>obtain ⟨t,q⟩:=(show ∃ t,u=Value.float y t from rx);cases q;exact O0 PySem.W.kitx_float I.kIn U2 e (fun z=>nomatch z) h
 | @lst a xs ea=>
  cases (show u=C8 a from rx);obtain ⟨_,_,n,_,h1⟩:=(show ObjOk X.prog X.w H s.heap a (.lst xs) from I.hok a _ ea);exact O0 A20 I.kIn ⟨_,h1,rfl⟩ e (fun z=>nomatch z) h
 | @frz a ob xs ea=>
  cases (show u=C8 a from rx);obtain ⟨_,_,_,n,_,h1⟩:=(show ObjOk X.prog X.w H s.heap a (.frz ob (.lst xs)) from I.hok a _ ea);exact O0 A20 I.kIn ⟨_,h1,rfl⟩ e (fun z=>nomatch z) h
 | @tup a xs ea=>
  cases (show u=C8 a from rx);obtain ⟨_,_,_,p⟩:=(show ObjOk X.prog X.w H s.heap a (.tup xs) from I.hok a _ ea);obtain ⟨o,h1,h2,_⟩:=p;exact O0 PySem.W.kitx_tuple I.kIn ⟨o,h1,h2⟩ e (fun z=>nomatch z) h
 | @dK a Af ea=>
  cases (show u=C8 a from rx);obtain ⟨_,_,vs,_,p⟩:=(show ObjOk X.prog X.w H s.heap a (.dK Af) from I.hok a _ ea);obtain ⟨o,es,ep,h1,h2,_⟩:=p;exact O0 A21 I.kIn ⟨o,h1,h2.1⟩ e (fun z=>nomatch z) h
 | @dT a Af ea=>
  cases (show u=C8 a from rx);obtain ⟨_,_,xs,_,o,es,ep,h1,h2,_⟩:=(show ObjOk X.prog X.w H s.heap a (.dT Af) from I.hok a _ ea);exact O0 A21 I.kIn ⟨o,h1,h2.1⟩ e (fun z=>nomatch z) h
 | @ins a C dx fs ea cl ha hn htk hm=>
  cases (show u=C8 a from rx);obtain ⟨mA,O,_⟩:=qYE I.hok ea;obtain ⟨od,J,_⟩:=O.look;exact O0 (PySem.W.kitx_own (cl.get _) cl.hd ha hn htk hm) I.kIn J e (fun z=>nomatch z) h
end
end L2
namespace L2
open PySem PySem.Spec PyProof.Rows
structure Room (k:Nat) (A:Around):Prop where
 hd:A.handled=none
 dp:A.depth+3 * k+5<recursionLimit
 un:A.units+16 * k+200<cLine
 gd:A.guards=some []
theorem Room.mono {j k:Nat} {A:Around} (r:Room k A) (h:j<=k):Room j A:=⟨r.hd,by have:=r.dp;omega,by have:=r.un;omega,r.gd⟩
theorem Room.deeper {k:Nat} {A:Around} (r:Room (k+1) A) (env:Env):Room k (A.deeper env):=
 ⟨r.hd,by have:=r.dp;show A.depth+1+3 * k+5<_;omega,by have:=r.un;show A.units+3+16 * k+200<_;omega,r.gd⟩
theorem Room.in1 {k:Nat} {A:Around} (r:Room (k+1) A):Room k A.in1:=
 ⟨r.hd,by have:=r.dp;show A.depth+3 * k+5<_;omega,by have:=r.un;show A.units+1+16 * k+200<_;omega,r.gd⟩
theorem Room.depth {k:Nat} {A:Around} (r:Room k A):A.depth<recursionLimit:=by have:=r.dp;omega
theorem Room.units {k:Nat} {A:Around} (r:Room k A):A.units+64<cLine:=by have:=r.un;omega
theorem Room.units0 {k:Nat} {A:Around} (r:Room k A):A.units<cLine:=by have:=r.un;omega
def tNil:TA:=fun _ H Q=>Q [] H
def qZ7 (ta:TE) (tr:TA):TA:=fun σ H Q=>ta σ H fun x H1=>tr σ H1 fun xs H2=>Q (x::xs) H2
section
variable {X:Cx} {e:Expr} {es:List Expr} {te:TE} {t:TA} {pos:Pos}
theorem qA3:PA X [] tNil:=fun _ _ _ _ H Q I h=>A22 ⟨[],H,I,.nil,h⟩
theorem qA0 (ha:PE X e te) (hr:PA X es t) (hs:starEach (e::es) X.env=(false,eval e X.env)::starEach es X.env:=by rfl):PA X (e::es) (qZ7 te t):=by
 intro pos Ab s σ H Q I h;rw [hs];show wpAny _ _ (spliced ((false,eval e X.env)::backTo pos (starEach es X.env))) _ _ s;refine i5 (thn (ha Ab s σ H _ I h) fun u s1 ⟨x,H1,I1,r1,q1⟩=>?_);exact thn (hr pos Ab s1 σ H1 _ I1 q1) fun us s2 ⟨xs,H2,I2,r2,q2⟩=>⟨x::xs,H2,I2,.cons r1 r2,q2⟩
def tTup (t:TA):TE:=fun σ H Q=>t σ H fun xs H1=>xs.length<=sizeLine/\∀ p,H1 p=none->Q (.ref p) (upd H1 p (.tup xs))
def tLst (t:TA):TE:=fun σ H Q=>t σ H fun xs H1=>xs.length<=sizeLine/\∀ p,H1 p=none->Q (.ref p) (upd H1 p (.lst xs))
theorem qC5 {x1} (h:PA X es t):PE X (.Tuple es x1 pos) (tTup t):=by
 intro Ab s σ H Q I hq;refine wpAny_Tuple_spliced (thn (h pos Ab s σ H _ I hq) fun us s1 ⟨xs,H1,I1,r,z,q⟩=>⟨by rw [<- r.length];exact z,?_⟩)
 have hf:H1 s1.heap.objs.size=none:=I1.hok.fresh (B0 _);refine ⟨.ref s1.heap.objs.size,upd H1 s1.heap.objs.size (.tup xs),I1.laid (t':=s1.toks) (fun b u e=>A2 _ e) (B0 _) ?_,rfl,q _ hf⟩;exact ⟨z,us,r,⟨_,B5 _ rfl,rfl,_,rfl⟩⟩
theorem qBH (h:PA X es t):PE X (.List es pos) (tLst t):=by
 intro Ab s σ H Q I hq;refine wpAny_List_spliced (thn (h pos Ab s σ H _ I hq) fun us s1 ⟨xs,H1,I1,r,z,q⟩=>⟨by rw [<- r.length];exact z,?_⟩)
 have hf:H1 s1.heap.objs.size=none:=I1.hok.fresh (B0 _);refine ⟨.ref s1.heap.objs.size,upd H1 s1.heap.objs.size (.lst xs),I1.laid (t':=s1.toks) (fun b u e=>A2 _ e) (B0 _) ?_,rfl,q _ hf⟩;exact ⟨z,us,0,r,B5 _ rfl⟩
end
abbrev Sp:=List V->Hp->VK->XK->Prop
abbrev CXT:=List Env->Hp->Shared->XK->Value->Shared->Prop
structure Env0 (P:Program) (w:World) (K:PySem.W.Frag) (mg:Str->Option Value) (base:Heap) (A:Around) (outer:List Env) (s:Shared) (H:Hp):Prop where
 frames:A.frames=some outer
 mod:Mod K mg base
 bs:∀ b o,base.get? b=some o->s.heap.get? b=some o/\H b=none
 bsz:base.objs.size<=s.heap.objs.size
 funs:s.heap.FunFrames base outer
 frf:∀ b ∈ frs outer,H b=none
 hok:HOk P w H s.heap
 bare:AllBare s.gens
def CE (outer:List Env) (P:Program) (w:World) (H:Hp) (s:Shared) (Q:VK) (u:Value) (s':Shared):Prop:=
 ∃ v H',s'.os=s.os/\AllBare s'.gens/\Un (frs outer) [] H H' s.heap s'.heap/\HOk P w H' s'.heap/\RelV v u/\Q v H'
def CR (CX:CXT) (outer:List Env) (P:Program) (w:World) (H:Hp) (s:Shared) (Q:VK) (E:XK) (r:Result) (s':Shared):Prop:=
 match r with
 | .ok (.ret u)=>CE outer P w H s Q u s'
 | .ok _=>False
 | .error e=>CX outer H s E e s'
structure FnOk (P:Program) (w:World) (K:PySem.W.Frag) (mg:Str->Option Value) (base:Heap) (CX:CXT) (k:Nat) (f:Addr) (fd:FuncData) (ps:List Str) (sp:Sp):Prop where
 len:∀ vs H Q E,sp vs H Q E->vs.length=ps.length
 run:∀ (A:Around) (outer:List Env) (s:Shared) (H:Hp) (args:Args) (us:List Value) (vs:List V) (Q:VK) (E:XK),Room k A->Env0 P w K mg base A outer s H->BindsTo s fd args (ps.zip us)->Vals vs us->sp vs H Q E->
  codeAny (model P w) A (.call (.ref f) args) (CR CX outer P w H s Q E) s
section
variable {X:Cx} {Ab:List (Addr × Obj)} {σ:St} {H:Hp} {s s':Shared}
theorem Inv.env0 (I:Inv X Ab σ H s):Env0 X.prog X.w X.K X.mg X.base X.A X.stack s H:=
 ⟨I.ok.frames,I.ok.mod,I.bs,G9 I.ok.bsz I.sz,I.stack,I.stkFree,I.hok,I.bare⟩
theorem Inv.after {Q:VK} {u:Value} (I:Inv X Ab σ H s) (h:CE X.stack X.prog X.w H s Q u s'):EP X Ab σ Q u s':=by
 obtain ⟨v,H',os,bare,un,hok,r,q⟩:=h;obtain ⟨hh,g,d,t,os'⟩:=s';obtain rfl:os'=s.os:=os;exact ⟨v,H',I.call (h':=hh) (g':=g) (d':=d) (t':=t) (ch:=[]) un hok bare (fun b z=>absurd z (by simp)),r,q⟩
end
def qZ8 (sp:Sp) (dvs:List V) (E:XK) (t:TA):TE:=fun σ H Q=>t σ H fun vs H1=>sp (vs++dvs) H1 Q E
def Binds (K:PySem.W.Frag) (fd:FuncData) (ps:List Str) (ds:List Value):Prop:=
 ∀ (s:Shared) (us:List Value),K.In s.heap->(us++ds).length=ps.length->BindsTo s fd ⟨us,[]⟩ (ps.zip (us++ds))
theorem Binds.all {K:PySem.W.Frag} {fd:FuncData} {ps:List Str} (h:∀ us:List Value,us.length=ps.length->bindArgs fd ⟨us,[]⟩=pure (ps.zip us)):Binds K fd ps []:=fun s us _ hl=>by
 rw [V7] at hl ⊢;exact .of_eq (h us hl)
def qUN (CX:CXT) (X:Cx) (E:XK):Prop:=∀ (Ab:List (Addr × Obj)) (σ:St) (H:Hp) (s:Shared) (e:Value) (s':Shared),Inv X Ab σ H s->CX X.stack H s E e s'->X.xe e s'
section
variable {X:Cx} {CX:CXT} {k:Nat} {f C:Addr} {fd:FuncData} {ps:List Str} {sp:Sp} {dvs:List V} {ds:List Value} {E:XK} {x m:Str} {p pos apos:Pos} {e o:Expr} {es:List Expr} {ta:TE} {t:TA}
theorem qZI {Ab:List (Addr × Obj)} {σ:St} {H:Hp} {s:Shared} {Q:VK} {us:List Value} {vs:List V} (F:FnOk X.prog X.w X.K X.mg X.base CX k f fd ps sp) (hr:Room k X.A) (hb:Binds X.K fd ps ds) (hd:Vals dvs ds) (hx:qUN CX X E)
  (I:Inv X Ab σ H s) (r:Vals vs us) (h:sp (vs++dvs) H Q E):wpAny (model X.prog X.w) X.A (call (.ref f) us) (EP X Ab σ Q) X.xe s:=by
 have r2:Vals (vs++dvs) (us++ds):=r.append hd;have hl:(us++ds).length=ps.length:=by rw [<- r2.length];exact F.len _ _ _ _ h
 refine wpAny_call (codeAny_mono (F.run X.A X.stack s H ⟨us,[]⟩ (us++ds) (vs++dvs) Q E hr I.env0 (hb s us I.kIn hl) r2 h) fun r s' hq=>?_);cases r with
 | error e=>exact hx Ab σ H s e s' I hq
 | ok fl=>
  cases fl with
  | ret u=>exact I.after hq
  | next=>exact V3 hq
  | brk=>exact V3 hq
  | cont=>exact V3 hq
theorem qSI (F:FnOk X.prog X.w X.K X.mg X.base CX k f fd ps sp) (hr:Room k X.A) (hg:Gl X x) (hm:X.mg x=some (.ref f)) (hk:M9 X.K (.ref f)=true) (hb:Binds X.K fd ps ds) (hd:Vals dvs ds) (hx:qUN CX X E)
  (ha:PA X (e::es) t) (hdb:(x == ("__debug__" : Str))=false:=by decide) (he:starEach (e::es) X.env=(false,eval e X.env)::starEach es X.env:=by rfl) (hpl:(backTo pos (starEach es X.env)).any (·.1)=false:=by rfl) :
  PE X (.Call (.Name x p) (e::es) [] pos) (qZ8 sp dvs E t):=by
 intro Ab s σ H Q I h;refine wpAny_Call_Name_kw (qY8 I hg hm ?_ hdb);refine PySem.W.callWith_K (h₀:=X.base) I.ok.mod.kin hk (thn (ha pos Ab s σ H _ I h) fun us s1 ⟨vs,H1,I1,r,q⟩=>⟨I1.kIn,?_⟩) he hpl;exact qZI F hr hb hd hx I1 r q
structure Mk (K:PySem.W.Frag) (C f:Addr):Prop where
 makes:PySem.W.makesIn K C=true
 init:Q9 K (.ref C) "__init__" = some (some (.ref f))
 fn:A76 K (.ref f)=true
 kp:M9 K (.ref C)=true
end
def PK (X:Cx) (kws:List Keyword) (t:TA):Prop:=
 ∀ (pos:Pos) (Ab:List (Addr × Obj)) (s:Shared) (σ:St) (H:Hp) (Q:List V->Hp->Prop),Inv X Ab σ H s->t σ H Q->wpAny (model X.prog X.w) X.A (evalAll ((backToKw pos (keywordEach kws X.env)).map (·.2))) (AP X Ab σ Q) X.xe s
section
variable {X:Cx} {CX:CXT} {k:Nat} {f C:Addr} {fd:FuncData} {ps ks:List Str} {sp:Sp} {E:XK} {x m:Str} {p pos apos kpos:Pos} {e o:Expr} {es:List Expr} {kws:List Keyword} {te ta:TE} {t tk:TA} {nm:Option Str}
theorem qWP:PK X [] tNil:=fun _ _ _ _ H Q I h=>wpAny_evalAll_nil ⟨[],H,I,.nil,h⟩
theorem qS8 (ha:PE X e te) (hr:PK X kws t):PK X (⟨nm,e,kpos⟩::kws) (qZ7 te t):=by
 intro pos Ab s σ H Q I h;show wpAny _ _ (evalAll ((do let v <- eval e X.env;standAt pos;pure v)::(backToKw pos (keywordEach kws X.env)).map (·.2))) _ _ s
 refine wpAny_evalAll_cons (wpAny_bind (thn (ha Ab s σ H _ I h) fun u s1 ⟨x,H1,I1,r1,q1⟩=>wpAny_bind (wpAny_standAt (wpAny_pure ?_))));exact thn (hr pos Ab s1 σ H1 _ I1 q1) fun us s2 ⟨xs,H2,I2,r2,q2⟩=>⟨x::xs,H2,I2,.cons r1 r2,q2⟩
structure KBinds (K:PySem.W.Frag) (fd:FuncData) (ps ks:List Str) (g:List Value->List Value->List Value) (gV:List V->List V->List V):Prop where
 to:∀ (s:Shared) (us ws:List Value),K.In s.heap->(g us ws).length=ps.length->BindsTo s fd ⟨us,ks.zip ws⟩ (ps.zip (g us ws))
 rel:∀ {vs:List V} {us:List Value} {zs:List V} {ws:List Value},Vals vs us->Vals zs ws->Vals (gV vs zs) (g us ws)
variable {g:List Value->List Value->List Value} {gV:List V->List V->List V}
end
structure FnScope (N P:List Str) (sc:Scope):Prop where
 kind:sc.kind=.function
 co:sc.isCoroutine=false
 gen:sc.isGenerator=false
 nd:N.Nodup
 pre:N.take P.length=P
 par:∀ x ∈ P,sc.names.lookup x=some .local\/sc.names.lookup x=some .cell
 nofree:∀ y ∈ sc.names,y.2 ≠ .free
theorem qNG {kindOf:Str->Option NameKind} {x:Str}:∀ {binds:List (Str × Value)} {m:Str->Option Value},(∀ v,(x,v) ∉ binds)->bindL kindOf binds m x=m x
 | [],_,_=>rfl
 | (n,v)::r,m,h=>by
  unfold bindL;rw [qNG fun w hw=>h w (A5 _ hw)]
  split
  ·have:x ≠ n:=by rintro rfl;exact h v A6
   simp [this]
  ·rfl
theorem qNI {kindOf:Str->Option NameKind} {x:Str}:∀ {binds:List (Str × Value)} {m:Str->Option Value},(∀ v,(x,v) ∉ binds)->bindC kindOf binds m x=m x
 | [],_,_=>rfl
 | (n,v)::r,m,h=>by
  unfold bindC;rw [qNI fun w hw=>h w (A5 _ hw)]
  split
  ·rfl
  ·have:x ≠ n:=by rintro rfl;exact h v A6
   simp [this]
theorem qNH {kindOf:Str->Option NameKind} {x:Str} {v:Value}:∀ {P:List Str} {vs:List Value} {i:Nat} {m:Str->Option Value},P.Nodup->P[i]?=some x->vs[i]?=some v->kindOf x=some .local->
  bindL kindOf (P.zip vs) m x=some v
 | [],_,_,_,_,h,_,_=>by simp at h
 | _::_,[],_,_,_,_,h,_=>by simp at h
 | p::P,w::vs,0,m,nd,h1,h2,hk=>by
  simp at h1 h2;subst h1;subst h2;show bindL kindOf ((p,w)::P.zip vs) m p=_;unfold bindL;rw [qNG fun v hv=>(G7.mp nd).1 (Y1 hv).1,if_pos hk];simp
 | p::P,w::vs,i+1,m,nd,h1,h2,hk=>by
  show bindL kindOf ((p,w)::P.zip vs) m x=_;unfold bindL;exact qNH (i:=i) (G7.mp nd).2 (by simpa using h1) (by simpa using h2) hk
theorem qNJ {kindOf:Str->Option NameKind} {x:Str} {v:Value}:∀ {P:List Str} {vs:List Value} {i:Nat} {m:Str->Option Value},P.Nodup->P[i]?=some x->vs[i]?=some v->kindOf x ≠ some .local->
  bindC kindOf (P.zip vs) m x=some v
 | [],_,_,_,_,h,_,_=>by simp at h
 | _::_,[],_,_,_,_,h,_=>by simp at h
 | p::P,w::vs,0,m,nd,h1,h2,hk=>by
  simp at h1 h2;subst h1;subst h2;show bindC kindOf ((p,w)::P.zip vs) m p=_;unfold bindC;rw [qNI fun v hv=>(G7.mp nd).1 (Y1 hv).1,if_neg hk];simp
 | p::P,w::vs,i+1,m,nd,h1,h2,hk=>by
  show bindC kindOf ((p,w)::P.zip vs) m x=_;unfold bindC;exact qNJ (i:=i) (G7.mp nd).2 (by simpa using h1) (by simpa using h2) hk
def start (N:List Str) (vs:List V):St:=vs.map some++C1 (N.length - vs.length) none
def cxOf (CX:CXT) (P:Program) (w:World) (K:PySem.W.Frag) (mg:Str->Option Value) (base:Heap) (N:List Str) (qual:Str) (scope:Scope) (f:Addr) (cd:Value) (A:Around) (outer:List Env) (s:Shared) (H:Hp) (E:XK):Cx where
 prog:=P
 w:=w
 K:=K
 mg:=mg
 base:=base
 A:=A.deeper (envOfC qual scope s.heap.objs.size f cd)
 N:=N
 s₀:=s
 H₀:=H
 env:=envOfC qual scope s.heap.objs.size f cd
 outer:=outer
 stack:=envOfC qual scope s.heap.objs.size f cd::outer
 ex:=[]
 calm:=true
 fn:=fun _=>true
 pn:=[]
 xe:=fun e s'=>wpAny (model P w) (A.deeper (envOfC qual scope s.heap.objs.size f cd)) (leaving (envOfC qual scope s.heap.objs.size f cd) e) (fun _ s''=>CX outer H s E e s'') (fun e' s''=>CX outer H s E e' s'') s'
theorem qQ5 {sc:Scope} {n:Nat} {x:Str} (h:sc.names.lookup x=some .cell):∃ c,(cellsFrom n sc.names []).lookup x=some c:=by
 have q:=o9 sc.names n [] (.inl h);exact X6.mp q
theorem qTB {CX:CXT} {P:Program} {w:World} {K:PySem.W.Frag} {mg:Str->Option Value} {base:Heap} {N ps:List Str} {qual:Str} {scope:Scope} {f:Addr} {cd:Value} {A:Around} {outer:List Env} {s s1:Shared} {H:Hp} {E:XK} {us:List Value} {vs:List V}
  (S:FnScope N ps scope) (hd:A.handled=none) (e0:Env0 P w K mg base A outer s H) (hl:vs.length=ps.length) (r:Vals vs us)
  (x:InCallC s s.heap.objs.size (bindL (envOfC qual scope s.heap.objs.size f cd).kindOf (ps.zip us) fun _=>none) (cellsFrom (s.heap.objs.size+1) scope.names []) (bindC (envOfC qual scope s.heap.objs.size f cd).kindOf (ps.zip us) fun _=>none) s1) :
  Inv (cxOf CX P w K mg base N qual scope f cd A outer s H E) [] (start N vs) H s1:=by
 have hpl:ps.length<=N.length:=by have:=congrArg A00 S.pre;rw [D1] at this;omega
 obtain ⟨h1,tk,rfl,hk⟩:=x.done;have noA:∀ b:Addr,b ∉ (cxOf CX P w K mg base N qual scope f cd A outer s H E).ex:=fun b z=>absurd (show b ∈ ([]:List Addr) from z) (by simp)
 refine ⟨⟨e0.mod,S.kind,rfl,rfl,B0 _,fun y z c h1 h2=>?_,fun y hy=>?_,fun y c _ h=>?_,fun _=>hd,w6 e0.frames,.inr ⟨rfl,rfl⟩,fun b z=>absurd z (noA b),e0.bs,e0.bsz,fun b _ _=>noA b,fun b z=>absurd z (noA b),e0.funs,e0.frf⟩,
  rfl,e0.bare,Un.kept hk,⟨_,x.toInCall.ns,fun i y v h1 h2 h3=>?_⟩,fun y c h=>⟨_,x.cell y c h⟩,e0.hok.fresh (B0 _),fun y c h=>?_,fun p hp=>absurd (show p ∈ ([]:List (Addr × Obj)) from hp) (by simp),e0.hok.kept hk,?_⟩
 ·exact name_of_addr x.apart (J8 h1) (J8 h2)
 ·have hy:scope.names.lookup y=some .cell\/scope.names.lookup y=some .free:=hy;rcases hy with hy | hy
  ·exact qQ5 hy
  ·exact absurd rfl (S.nofree _ (J8 hy))
 ·exact Q8 (x.above y c (J8 h))
 ·have hi:i<vs.length:=by
   unfold start at h2;by_cases hi:i<vs.length
   ·exact hi
   ·rw [G1 (by simpa using hi)] at h2
    rw [List.getElem?_replicate] at h2
    split at h2 <;> cases h2
  have ha:vs[i]?=some v:=by
   unfold start at h2;rw [D8 (by simpa using hi),B1] at h2
   cases e:vs[i]? with
   | none=>rw [e] at h2;cases h2
   | some a=>rw [e] at h2;cases h2;rfl
  obtain ⟨u,hu,rv⟩:=r.get ha;have hp:ps[i]?=some y:=by
   rw [<- S.pre,X7 (by omega)];exact h1
  have ndP:ps.Nodup:=by rw [<- S.pre];exact S.nd.sublist (Z1 _ _)
  refine ⟨u,rv,?_⟩;rcases S.par y (B4 hp) with k | k
  ·exact .inl ⟨k,qNH ndP hp hu k⟩
  ·obtain ⟨c,e⟩:=qQ5 (n:=s.heap.objs.size+1) k;refine .inr ⟨.inl k,c,e,?_⟩;have q:=x.cell y c e;rw [qNJ ndP hp hu (by show scope.names.lookup y ≠ _;rw [k];decide)] at q
   exact q
 ·exact e0.hok.fresh (Q8 (x.above y c (J8 h)))
 ·unfold start;show _=N.length;rw [A7,A0,O6];omega
theorem qaE {CX:CXT} {P:Program} {w:World} {K:PySem.W.Frag} {mg:Str->Option Value} {base:Heap} {k:Nat} {f:Addr} {name qual:Str} {params:Arguments} {body:List Stmt} {scope:Scope} {dV kV doc pm cdv ct oc:Value} {an od:Option Addr}
  {osl:Array (Option Value)} {N ps:List Str} {sp:Sp} (lk:K.lookup f=some ⟨oc,od,.func (T3 name qual params body scope dV kV doc pm an cdv ct),osl⟩) (hcd:X1 K cdv qual=true) (S:FnScope N ps scope)
  (len:∀ vs H Q E,sp vs H Q E->vs.length=ps.length)
  (hbody:∀ (A:Around) (outer:List Env) (s:Shared) (H:Hp) (vs:List V) (Q:VK) (E:XK),Room k (A.deeper (envOfC qual scope s.heap.objs.size f cdv))->sp vs H Q E->
   ∃ t,PSs (cxOf CX P w K mg base N qual scope f cdv A outer s H E) body t/\t { nx:=fun _ H'=>Q .non H',rt:=Q } (start N vs) H) :
  FnOk P w K mg base CX (k+1) f (T3 name qual params body scope dV kV doc pm an cdv ct) ps sp:=by
 refine ⟨len,fun A outer s H args us vs Q E hr e0 hb r hsp=>?_⟩;have hl:=len _ _ _ _ hsp;have KX:K.In s.heap:=e0.mod.kin.keeps fun b o e=>(e0.bs b o e).1;have lim:s.heap.NoLimit:=e0.mod.nolimit.keeps fun b o e=>(e0.bs b o e).1;have hkind:∀ y ∈ ps.zip us,scope.names.lookup y.1=some .local\/(scope.names.lookup y.1=some .cell/\((cellsFrom (s.heap.objs.size+1) scope.names []).lookup y.1).isSome=true):=fun ⟨n,v⟩ hy=>by
  rcases S.par n (Y1 hy).1 with q | q
  ·exact .inl q
  ·exact .inr ⟨q,o9 _ _ _ (.inl q)⟩
 refine codeAny_call_function hr.depth (KX _ _ lk) rfl S.co S.gen rfl (PySem.W.codeRec_of KX hcd) (hb _ _ _ _ ?_);refine wpAny_newFunctionEnv_cells S.kind hkind fun env he s1 x=>?_;subst he;refine ⟨lim.keeps x.toInCall.keep,codeAny_func ?_⟩;obtain ⟨t,ht,hq⟩:=hbody A outer s H vs Q E (hr.deeper _) hsp;have I:Inv (cxOf CX P w K mg base N qual scope f cdv A outer s H E) [] (start N vs) H s1:=qTB S hr.hd e0 hl r x;refine wpAny_mono (ht [] s1 (start N vs) H _ I hq) (fun fl s' hs=>?_) fun e s' hs=>hs;have fin:∀ {σ':St} {H':Hp} {v:V} {u:Value},Inv (cxOf CX P w K mg base N qual scope f cdv A outer s H E) [] σ' H' s'->RelV v u->Q v H'->CE outer P w H s Q u s':=
  fun {σ' H' v u} J rv q=>⟨v,H',J.os,J.bare,J.base,J.hok,rv,q⟩
 cases fl with
 | ret u=>
  obtain ⟨v,σ',H',J,rv,q⟩:=hs;exact fin J rv q
 | next=>
  obtain ⟨σ',H',J,q⟩:=hs;exact fin (v:=V.non) (u:=P1) J rfl q
 | brk=>
  obtain ⟨_,_,_,q⟩:=hs;exact V3 q
 | cont=>
  obtain ⟨_,_,_,q⟩:=hs;exact V3 q
end L2
namespace L2
open PySem PySem.Spec PyProof.Rows
section
variable {X:Cx} {x:Str} {p pos:Pos} {e:Expr} {es:List Expr} {t:TA} {id T:String} {r:List V->Hp->VK->Prop}
def tCB (r:List V->Hp->VK->Prop) (t:TA):TE:=fun σ H Q=>t σ H fun vs H1=>r vs H1 Q
theorem qA9 (hc:qDM X (.builtin id) r) (hg:Gl X x) (hm:X.mg x=none) (hv:bootBuiltins x=some (.builtin id)) (ha:PA X (e::es) t) (hn:x ≠ "__name__":=by decide) (hdb:(x == ("__debug__" : Str))=false:=by decide)
  (he:starEach (e::es) X.env=(false,eval e X.env)::starEach es X.env:=by rfl) (hpl:(backTo pos (starEach es X.env)).any (·.1)=false:=by rfl):PE X (.Call (.Name x p) (e::es) [] pos) (tCB r t):=by
 intro Ab s σ H Q I h;refine wpAny_Call_Name_kw (qGD I hg hm hv ?_ hn hdb);exact PyProof.Rows.callWith_builtin1 (thn (ha pos Ab s σ H _ I h) fun us s1 ⟨vs,H1,I1,r1,q1⟩=>hc Ab s1 σ H1 vs us Q I1 r1 q1) he hpl
theorem qAK (hc:qDM X (.type T) r) (hg:Gl X x) (hm:X.mg x=none) (hv:bootBuiltins x=some (.type T)) (ha:PA X (e::es) t) (hn:x ≠ "__name__":=by decide) (hdb:(x == ("__debug__" : Str))=false:=by decide)
  (he:starEach (e::es) X.env=(false,eval e X.env)::starEach es X.env:=by rfl) (hpl:(backTo pos (starEach es X.env)).any (·.1)=false:=by rfl):PE X (.Call (.Name x p) (e::es) [] pos) (tCB r t):=by
 intro Ab s σ H Q I h;refine wpAny_Call_Name_kw (qGD I hg hm hv ?_ hn hdb);exact P0 (thn (ha pos Ab s σ H _ I h) fun us s1 ⟨vs,H1,I1,r1,q1⟩=>hc Ab s1 σ H1 vs us Q I1 r1 q1) he hpl
end
end L2
namespace HT
open PySem PyProof.Rows
def lexLt:List Int->List Int->Bool
 | [],[]=>false
 | [],_::_=>true
 | _::_,[]=>false
 | x::xs,y::ys=>if x=y then lexLt xs ys else decide (x<y)
theorem lexLt_cons (x y:Int) (xs ys:List Int):lexLt (x::xs) (y::ys)=if x=y then lexLt xs ys else decide (x<y):=rfl
section
open PySem.SeqAt
open PySem.AutoSeq1 (wpAny_loadPart')
open PySem.MeetsSeq PySem.MeetsSeq2 PySem.MeetsSeq3
end
section
variable {prog:Program} {w:World} {A:Around} {E:Value->Shared->Prop} {s:Shared}
theorem cat_tup {t b:Addr} {vs ws:List Value} {Q:Value->Shared->Prop} (ht:IsTup s.heap t vs.toArray) (hb:IsTup s.heap b ws.toArray) (hv:vs ≠ [])
  (h1:ws=[]->Q (.ref t) s) (h2:ws ≠ []->Q (.ref s.heap.objs.size) { s with heap:=s.heap.push { cls:=.type "tuple",data:=.seq (vs++ws).toArray } })
  (hsz:vs.length+ws.length<=sizeLine):wpAny (model prog w) A (binaryOp .Add (.ref t) (.ref b)) Q E s:=by
 obtain ⟨⟨cls,dd,data,sl⟩,ho,hc,n,hd⟩:=id ht;obtain ⟨⟨cls2,dd2,data2,sl2⟩,ho2,hc2,n2,hd2⟩:=id hb;simp only at hc hd hc2 hd2;subst hc hd hc2 hd2;have e:vs.toArray++ws.toArray=(vs++ws).toArray:=by simp
 by_cases hw:ws=[]
 ·exact concat_meets ⟨_,ho,rfl⟩ ⟨_,ho2,rfl⟩ noFill_tuple_add seq_tuple_add V5 U6 (U3 _ _)
   (tuple_addW1 t b vs.toArray ws.toArray n n2 dd dd2 sl sl2 (by simpa using hv) (by simp [hw])) ⟨ho,ho2,h1 hw⟩
 ·refine concat_meets ⟨_,ho,rfl⟩ ⟨_,ho2,rfl⟩ noFill_tuple_add seq_tuple_add V5 U6 (U3 _ _)
   (tuple_addW2 t b vs.toArray ws.toArray n n2 dd dd2 sl sl2 (by simpa using hv) (by simpa using hw) (by rw [A8,A8];exact hsz)) ⟨ho,ho2,?_⟩
  rw [e];exact h2 hw
def sIx (n d:Nat):Option Int->Nat
 | none=>d
 | some v=>if v<0 then (v+(n:Int)).toNat else min v.toNat n
theorem sIx_none (n d:Nat):sIx n d none=d:=rfl
theorem sIx_nat (n d k:Nat):sIx n d (some (k:Int))=min k n:=by
 show (if (k:Int)<0 then ((k:Int)+(n:Int)).toNat else min (k:Int).toNat n)=min k n
 rw [if_neg (by omega),F7]
end
end HT
namespace L2
open PySem PySem.Spec PyProof.Rows
abbrev TO:=St->Hp->(Option Int->Hp->Prop)->Prop
def PO (X:Cx) (e:Option Expr) (t:TO):Prop:=
 ∀ (Ab:List (Addr × Obj)) (s:Shared) (σ:St) (H:Hp) (Q:Option Int->Hp->Prop),Inv X Ab σ H s->t σ H Q->
  wpAny (model X.prog X.w) X.A (evalPart e X.env) (fun u s'=>∃ o H',Inv X Ab σ H' s'/\IsPart u o/\Q o H') X.xe s
def qXE:TO:=fun _ H Q=>Q none H
def qaS (t:TE):TO:=fun σ H Q=>t σ H fun x H1=>∃ i,x=.int i/\Q (some i) H1
theorem qR1 {ns:List Int}:∀ {us:List Value},Vals (ns.map V.int) us->IntsAre us ns:=by
 induction ns with
 | nil=>intro us r;rw [t0] at r;cases r;exact .nil
 | cons n ns ih=>
  intro us r;rw [B9] at r;cases r with
  | cons r1 r2=>
   obtain ⟨t,e⟩:=r1;subst e;exact .cons n t (ih r2)
section
variable {X:Cx} {e:Expr} {te:TE} {lo hi:Option Expr} {tl th:TO} {pos p2:Pos}
theorem qIR:PO X none qXE:=by
 intro Ab s σ H Q I h;rw [evalPart_none];exact wpAny_pure ⟨none,H,I,.none,h⟩
theorem qIQ (h:PE X e te):PO X (some e) (qaS te):=by
 intro Ab s σ H Q I hw;rw [evalPart_some];refine thn (h Ab s σ H _ I hw) fun u s1 ⟨x,H1,I1,r1,q1⟩=>?_;obtain ⟨i,rfl,q⟩:=q1;obtain ⟨t,rfl⟩:=r1;exact ⟨some i,H1,I1,.int i t,q⟩
def SlR (X:Cx) (r:V->Option Int->Option Int->Hp->VK->Prop):Prop:=
 ∀ (Ab:List (Addr × Obj)) (s:Shared) (σ:St) (H:Hp) (x:V) (v vl vu:Value) (lo hi:Option Int) (sl:Addr) (Q:VK),Inv X Ab σ H s->RelV x v->s.heap.IsSliceOf sl vl vu .none->IsPart vl lo->IsPart vu hi->r x lo hi H Q->
  ∃ T id,typeLookup (.type T) "__getitem__" = pure (some (.builtin id))/\s.TypeIs v T/\wpAny (model X.prog X.w) X.A (getItem v (.ref sl)) (EP X Ab σ Q) X.xe s
def tSl (r:V->Option Int->Option Int->Hp->VK->Prop) (te:TE) (tl th:TO):TE:=fun σ H Q=>te σ H fun x H1=>tl σ H1 fun l H2=>th σ H2 fun u H3=>r x l u H3 Q
theorem qG8 {r:V->Option Int->Option Int->Hp->VK->Prop} (hr:SlR X r) (he:PE X e te) (hl:PO X lo tl) (hu:PO X hi th):PE X (.Subscript e (.Slice lo hi none p2) pos) (tSl r te tl th):=by
 intro Ab s σ H Q I h;refine Subscript_ (thn (he Ab s σ H _ I h) fun v s1 ⟨x,H1,I1,r1,q1⟩=>?_);refine wpAny_Slice (thn (hl Ab s1 σ H1 _ I1 q1) fun vl s2 ⟨l,H2,I2,pl,q2⟩=>thn (hu Ab s2 σ H2 _ I2 q2) fun vu s3 ⟨u,H3,I3,pu,q3⟩=>?_);rw [evalPart_none];refine wpAny_pure ?_;have I4:Inv X Ab σ H3 { s3 with heap:=s3.heap.push { cls:=.type "slice",data:=.fields #[vl,vu,.none] } }:=I3.kept (t':=s3.toks) fun b ob q=>A2 _ q;obtain ⟨T,id,hT,ht,hg⟩:=hr Ab { s3 with heap:=s3.heap.push { cls:=.type "slice",data:=.fields #[vl,vu,.none] } } σ H3 x v vl vu l u s3.heap.objs.size Q I4 r1 (A83 ..) pl pu q3;show wpAny (model X.prog X.w) X.A (subscriptTail e (.Slice lo hi none p2) v (.ref s3.heap.objs.size)) (EP X Ab σ Q) X.xe { s3 with heap:=s3.heap.push { cls:=.type "slice",data:=.fields #[vl,vu,.none] } };exact tail_any (ops:=[.ref s3.heap.objs.size,v]) ht hT hg (by with_unfolding_all rfl)
def cutV (xs:List V) (lo hi:Option Int):List V:=(xs.drop (HT.sIx xs.length 0 lo)).take (HT.sIx xs.length xs.length hi - HT.sIx xs.length 0 lo)
theorem qOM (xs:List V) (lo hi:Option Int):(cutV xs lo hi).length<=xs.length:=by
 unfold cutV;rw [D1,O3];omega
def qb8 (K:PySem.W.Frag):R2:=fun x y H Q=>∃ a b xs ys,x=.ref a/\y=.ref b/\SqT K H a xs/\SqT K H b ys/\xs ≠ []/\xs.length+ys.length<=sizeLine/\
 (ys=[]->Q (.ref a) H)/\(ys ≠ []->∀ p,H p=none->Q (.ref p) (upd H p (.tup (xs++ys))))
theorem Vals.nil_iff {xs:List V} {us:List Value} (r:Vals xs us):us=[] ↔ xs=[]:=by
 cases r with
 | nil=>simp
 | cons _ _=>simp
theorem qSN:OpR X (binaryOp .Add) (qb8 X.K):=by
 intro Ab s σ H x y v u Q I rx ry h;obtain ⟨a,b,xs,ys,rfl,rfl,ha,hb,hx,hz,q1,q2⟩:=h;cases rx;cases ry;obtain ⟨its,r1,p1,_⟩:=I.tuple ha;obtain ⟨its2,r2,p2,_⟩:=I.tuple hb;refine HT.cat_tup p1 p2 (fun z=>hx (r1.nil_iff.mp z)) (fun z=>⟨.ref a,H,I,rfl,q1 (r2.nil_iff.mp z)⟩) (fun z=>?_) (by rw [<- r1.length,<- r2.length];exact hz)
 refine ⟨.ref s.heap.objs.size,_,I.laid (t':=s.toks) (o:=.tup (xs++ys)) (fun b ob q=>A2 _ q) (B0 _) ?_,rfl,q2 (fun w=>z (r2.nil_iff.mpr w)) _ (I.hok.fresh (B0 _))⟩;exact ⟨by rw [A7];exact hz,_,r1.append r2,IsTup.new _ _⟩
end
end L2
namespace L2
open PySem PySem.Spec PyProof.Rows
def ixN (n:Nat) (i:Int):Option Nat:=if 0<=i then (if i<n then some i.toNat else none) else if -(n:Int)<=i then some (i+n).toNat else none
def atI {α:Type} (xs:List α) (i:Int):Option α:=(ixN xs.length i).bind fun j=>xs[j]?
theorem qT8 {n:Nat} {i:Int} {j:Nat} (h:ixN n i=some j):seqIndex? i n=some j/\j<n/\-(n:Int)<=i/\i<n:=by
 unfold ixN at h;by_cases h0:0<=i
 ·rw [if_pos h0] at h;by_cases h1:i<n
  ·rw [if_pos h1] at h;have e:i.toNat=j:=C6 h;exact ⟨by rw [seqIndex_of h0 h1,e],by omega,by omega,h1⟩
  ·rw [if_neg h1] at h;cases h
 ·rw [if_neg h0] at h;by_cases h1 : -(n:Int)<=i
  ·rw [if_pos h1] at h;have e:(i+n).toNat=j:=C6 h;exact ⟨by rw [seqIndex_neg (by omega) h1,e],by omega,h1,by omega⟩
  ·rw [if_neg h1] at h;cases h
theorem qOS {α:Type} {xs:List α} {i:Int} {v:α} (h:atI xs i=some v):∃ j,seqIndex? i xs.length=some j/\xs[j]?=some v/\j<xs.length/\-(xs.length:Int)<=i/\i<xs.length:=by
 unfold atI at h;cases e:ixN xs.length i with
 | none=>rw [e] at h;cases h
 | some j=>
  rw [e] at h;obtain ⟨h1,h2,h3,h4⟩:=qT8 e;exact ⟨j,h1,h,h2,h3,h4⟩
theorem qUI {α:Type} {xs:List α} {j:Nat} {v:α} (h:xs[j]?=some v):atI xs (j:Int)=some v:=by
 have hj:j<xs.length:=(A4.mp h).1;have e:ixN xs.length (j:Int)=some j:=by
  unfold ixN;rw [if_pos (by omega),if_pos (by omega)];simp
 unfold atI;rw [e];exact h
theorem qWF {α:Type} (xs:List α) (v:α):atI (xs++[v]) (-1)=some v:=by
 have hl:(xs++[v]).length=xs.length+1:=by simp
 have e:ixN (xs++[v]).length (-1)=some xs.length:=by
  unfold ixN;rw [hl,if_neg (by decide),if_pos (by omega)]
  congr 1;omega
 unfold atI;rw [e];show (xs++[v])[xs.length]?=some v;simp
def qYS (b:Expr):Prop:=∀ o i,subscripted b false o i=operate [o,i] (getItem o i)
def IxR (X:Cx) (r:R2):Prop:=
 ∀ (value slice:Expr) (Ab:List (Addr × Obj)) (s:Shared) (σ:St) (H:Hp) (x y:V) (v u:Value) (Q:VK),Inv X Ab σ H s->RelV x v->RelV y u->r x y H Q->
  subscripted slice false v u=operate [v,u] (getItem v u)->wpAny (model X.prog X.w) X.A (subscriptTail value slice v u) (EP X Ab σ Q) X.xe s
def MtR (X:Cx) (id:String) (r:V->List V->Hp->VK->Prop):Prop:=
 ∀ (Ab:List (Addr × Obj)) (s:Shared) (σ:St) (H:Hp) (x:V) (xs:List V) (v:Value) (us:List Value) (Q:VK),Inv X Ab σ H s->RelV x v->Vals xs us->r x xs H Q->
  wpAny (model X.prog X.w) X.A (call (.builtin id) (v::us)) (EP X Ab σ Q) X.xe s
section
variable {X:Cx} {a b:Expr} {ta tb:TE} {pos:Pos}
theorem qB0 {r:R2} (hr:IxR X r) (ha:PE X a ta) (hb:PE X b tb) (hs:qYS b):PE X (.Subscript a b pos) (tOp r ta tb):=by
 intro Ab s σ H Q I h;exact Subscript_ (binT ha hb I h fun v u s2 x y H2 I2 rx ry q=>hr a b Ab s2 σ H2 x y v u Q I2 rx ry q (hs _ _))
def rIxL (K:PySem.W.Frag):R2:=fun x y H Q=>∃ p xs i v,x=.ref p/\y=.int i/\SqL K H p xs/\atI xs i=some v/\Q v H
def rIxT (K:PySem.W.Frag):R2:=fun x y H Q=>∃ p xs i v,x=.ref p/\y=.int i/\SqT K H p xs/\atI xs i=some v/\Q v H
theorem qEF:IxR X (rIxL X.K):=by
 intro value slice Ab s σ H x y v u Q I rx ry h hs;obtain ⟨p,xs,i,z,rfl,rfl,hq,he,q⟩:=h;cases rx;obtain ⟨t,rfl⟩:=ry;obtain ⟨its,r,pl,hz⟩:=I.list hq;obtain ⟨j,h1,h2,h3,h4,h5⟩:=qOS he;obtain ⟨w,ew,rw'⟩:=r.get h2;have hl:=r.length;have hn:=qK5;have fin:EP X Ab σ Q w s:=⟨z,H,I,rw',q⟩;by_cases h0:0<=i
 ·have hj:i.toNat=j:=by
   rw [seqIndex_of h0 h5] at h1;exact C6 h1
  exact item_listR pl.isList h0 (by omega) (by rw [hj];simpa using ew) fin hs
 ·have hj:(i+(its.toArray.size:Int)).toNat=j:=by
   rw [seqIndex_neg (by omega) h4] at h1
   rw [A8,<- hl];exact C6 h1
  exact subscriptTail_builtinR (x:=w) pl.isList.typeIs slot_list_getitem.lookup
   (wpAny_getItem_list_neg (Q:=fun r s'=>r=w/\EP X Ab σ Q r s') pl.isList (by omega) (by rw [A8] <;> omega) (by omega) (by rw [hj];simpa using ew) ⟨rfl,fin⟩) hs
theorem qB3:IxR X (rIxT X.K):=by
 intro value slice Ab s σ H x y v u Q I rx ry h hs;obtain ⟨p,xs,i,z,rfl,rfl,hq,he,q⟩:=h;cases rx;obtain ⟨t,rfl⟩:=ry;obtain ⟨its,r,pl,hz⟩:=I.tuple hq;obtain ⟨j,h1,h2,h3,h4,h5⟩:=qOS he;obtain ⟨w,ew,rw'⟩:=r.get h2;have hl:=r.length;have hn:=qK5;have fin:EP X Ab σ Q w s:=⟨z,H,I,rw',q⟩;exact subscriptTail_builtinR (x:=w) pl.typeIs slot_tuple_getitem.lookup
  (getItem_tuple (j:=j) (Q:=fun r s'=>r=w/\EP X Ab σ Q r s') pl (by omega) (by omega) (by rw [A8,<- hl];exact h1) (by simpa using ew) ⟨rfl,fin⟩) hs
theorem qQS (its:List Value) (n j:Nat) (u:Value):F2 (·.setIfInBounds j u) { cls:=.type "list",data:=.seq its.toArray n }={ cls:=.type "list",data:=.seq (its.set j u).toArray n }:=by
 simp [F2]
theorem Inv.lst {Ab:List (Addr × Obj)} {σ:St} {H:Hp} {s:Shared} {p:Addr} {xs:List V} (I:Inv X Ab σ H s) (h:H p=some (.lst xs)) :
  ∃ (its:List Value) (n:Nat),Vals xs its/\s.heap.get? p=some { cls:=.type "list",data:=.seq its.toArray n }/\xs.length<=sizeLine:=by
 obtain ⟨z,its,n,r,e⟩:=I.hok p _ h;exact ⟨its,n,r,e,z⟩
theorem Inv.lstUpd {Ab:List (Addr × Obj)} {σ:St} {H:Hp} {s:Shared} {p:Addr} {xs ys:List V} {its its':List Value} {n n':Nat} {f:Obj->Obj} (I:Inv X Ab σ H s) (h:H p=some (.lst xs))
  (ho:s.heap.get? p=some { cls:=.type "list",data:=.seq its.toArray n }) (hf:f { cls:=.type "list",data:=.seq its.toArray n }={ cls:=.type "list",data:=.seq its'.toArray n' }) (r:Vals ys its') (hz:ys.length<=sizeLine) (t:Nat) :
  Inv X Ab σ (upd H p (.lst ys)) { s with heap:=s.heap.update p f,toks:=t }:=by
 have e:(s.heap.update p f).get? p=some { cls:=.type "list",data:=.seq its'.toArray n' }:=by
  rw [L9 f ho (by rw [hf] <;> rfl),hf]
 refine I.write (x:=p) (e:=p) (by rw [h];trivial) (.inl rfl) (fun b u hb q=>(C2 _ _ (G3 hb)).trans q) ⟨_,e⟩ ?_
 exact ⟨hz,its',n',r,e⟩
def qb6:V->V->V->Hp->(Hp->Prop)->Prop:=fun o i v H Q=>∃ p xs k j,o=.ref p/\i=.int k/\H p=some (.lst xs)/\ixN xs.length k=some j/\Q (upd H p (.lst (xs.set j v)))
theorem qHV:PSet X qb6:=by
 intro Ab s σ H o i v ov iv u Q I ro ri rv h;obtain ⟨p,xs,k,j,rfl,rfl,hp,hj,q⟩:=h;cases ro;obtain ⟨t,rfl⟩:=ri;obtain ⟨its,n,r,ho,hz⟩:=I.lst hp;obtain ⟨h1,h2,h3,h4⟩:=qT8 hj;have hl:=r.length;have hn:=qK5;have I':Inv X Ab σ (upd H p (.lst (xs.set j v))) { s with heap:=s.heap.update p (F2 (·.setIfInBounds j u)) }:=
  I.lstUpd hp ho (qQS its n j u) (r.set rv j) (by rw [d3];exact hz) s.toks
 by_cases h0:0<=k
 ·have hk:k.toNat=j:=by
   rw [seqIndex_of h0 h4] at h1;exact C6 h1
  exact PySem.W.ki_setAt ho h0 (by omega) (by rw [A8,<- hl];exact h4) (by rw [hk];exact ⟨_,I',q⟩)
 ·have hk:(k+(its.toArray.size:Int)).toNat=j:=by
   rw [seqIndex_neg (by omega) h3] at h1
   rw [A8,<- hl];exact C6 h1
  exact PySem.W.ki_setBack ho (by omega) (by rw [A8,<- hl];exact h3) (by omega) (by rw [hk];exact ⟨_,I',q⟩)
theorem qM0 (lo hi:Option Int) (n:Nat):(sliceBounds lo hi none n).1=((HT.sIx n 0 lo:Nat):Int)/\(sliceBounds lo hi none n).2.1=((HT.sIx n n hi:Nat):Int)/\(sliceBounds lo hi none n).2.2=1:=by
 refine ⟨?_,?_,rfl⟩
 ·cases lo with
  | none=>simp [sliceBounds,HT.sIx]
  | some i=>
   simp only [sliceBounds,HT.sIx,A37,show (1:Int) > 0 by decide,if_true]
   by_cases h:i<0
   ·simp only [h,if_true] <;> omega
   ·simp only [h,if_false] <;> omega
 ·cases hi with
  | none=>simp [sliceBounds,HT.sIx]
  | some i=>
   simp only [sliceBounds,HT.sIx,A37,show (1:Int) > 0 by decide,if_true]
   by_cases h:i<0
   ·simp only [h,if_true] <;> omega
   ·simp only [h,if_false] <;> omega
theorem qKR (its:List Value) (lo hi:Option Int):slicePick its.toArray lo hi none=((its.drop (HT.sIx its.length 0 lo)).take (HT.sIx its.length its.length hi - HT.sIx its.length 0 lo)).toArray:=by
 obtain ⟨h1,h2,h3⟩:=qM0 lo hi its.toArray.size;unfold slicePick;rw [h1,h2,h3];simp only [sliceRange_one,pick_run,A8] <;> rfl
def rSlL (K:PySem.W.Frag):V->Option Int->Option Int->Hp->VK->Prop:=fun x lo hi H Q=>∃ a xs,x=.ref a/\SqL K H a xs/\∀ p,H p=none->Q (.ref p) (upd H p (.lst (cutV xs lo hi)))
theorem qIK:SlR X (rSlL X.K):=by
 intro Ab s σ H x v vl vu lo hi sl Q I rx hs pl pu h;obtain ⟨a,xs,rfl,hx,q⟩:=h;cases rx;obtain ⟨its,r,ht,hz⟩:=I.list hx;have hlen:=r.length;refine ⟨"list",_,slot_list_getitem.lookup,ht.isList.typeIs,?_⟩;refine wpAny_getItem_list_slice ht.isList hs pl pu .none (by simp) ?_ (by rw [A8] <;> omega)
 rw [qKR,<- hlen];refine ⟨.ref s.heap.objs.size,_,I.laid (t':=s.toks) (o:=.lst (cutV xs lo hi)) (fun b ob q=>A2 _ q) (B0 _) ?_,rfl,q _ (I.hok.fresh (B0 _))⟩;exact ⟨G9 (qOM xs lo hi) hz,_,0,(r.drop (HT.sIx xs.length 0 lo)).take (HT.sIx xs.length xs.length hi - HT.sIx xs.length 0 lo),B5 _ rfl⟩
def qLB:V->Bool
 | .non=>true
 | .bl _=>true
 | .int _=>true
 | .str _=>true
 | _=>false
def eqV:V->V->Bool
 | .non,.non=>true
 | .bl a,.bl b=>a == b
 | .bl a,.int b=>(if a then 1 else 0) == b
 | .int a,.bl b=>a == (if b then 1 else 0)
 | .int a,.int b=>a == b
 | .str a,.str b=>a == b
 | _,_=>false
theorem qaG {A:Around} {s:Shared} {y x:V} {u v:Value} (ry:RelV y u) (rx:RelV x v) (fy:qLB y=true) (fx:qLB x=true):SeqAt.EqAt A s u v (eqV y x):=by
 cases y with
 | non=>
  cases ry;cases x with
  | non=>cases rx;exact SeqAt.EqAt.same _
  | bl b=>cases rx;exact SeqAt.EqAt.none_bool b
  | int b=>obtain ⟨t,rfl⟩:=rx;exact SeqAt.EqAt.none_int b t
  | str b=>obtain ⟨t,rfl⟩:=rx;exact SeqAt.EqAt.none_str b t
  | _=>exact absurd (show false=true from fx) B8
 | bl a=>
  cases ry;cases x with
  | non=>cases rx;exact SeqAt.EqAt.bool_none a
  | bl b=>cases rx;exact SeqAt.EqAt.bool_bool a b
  | int b=>obtain ⟨t,rfl⟩:=rx;exact SeqAt.EqAt.bool_int a b t
  | str b=>obtain ⟨t,rfl⟩:=rx;exact SeqAt.EqAt.bool_str a b t
  | _=>exact absurd (show false=true from fx) B8
 | int a=>
  obtain ⟨t',rfl⟩:=ry;cases x with
  | non=>cases rx;exact SeqAt.EqAt.int_none a t'
  | bl b=>cases rx;exact SeqAt.EqAt.int_bool a t' b
  | int b=>obtain ⟨t,rfl⟩:=rx;exact i6 a t' b t
  | str b=>obtain ⟨t,rfl⟩:=rx;exact A06 a t' b t
  | _=>exact absurd (show false=true from fx) B8
 | str a=>
  obtain ⟨t',rfl⟩:=ry;cases x with
  | non=>cases rx;exact SeqAt.EqAt.str_none a t'
  | bl b=>cases rx;exact SeqAt.EqAt.str_bool a t' b
  | int b=>obtain ⟨t,rfl⟩:=rx;exact A07 a t' b t
  | str b=>obtain ⟨t,rfl⟩:=rx;exact SeqAt.EqAt.str_str a t' b t
  | _=>exact absurd (show false=true from fx) B8
 | _=>exact absurd (show false=true from fy) B8
def eqU (x:V) (u:Value):Bool:=match u with
 | .none=>eqV .non x
 | .bool b=>eqV (.bl b) x
 | .int i _=>eqV (.int i) x
 | .str z _=>eqV (.str z) x
 | _=>false
theorem qX3 {x y:V} {u:Value} (r:RelV y u) (f:qLB y=true):eqU x u=eqV y x:=by
 cases y with
 | non=>cases r;rfl
 | bl b=>cases r;rfl
 | int i=>obtain ⟨t,rfl⟩:=r;rfl
 | str z=>obtain ⟨t,rfl⟩:=r;rfl
 | _=>exact absurd (show false=true from f) B8
theorem qJG {x:V}:∀ {xs:List V} {us:List Value},Vals xs us->xs.all qLB=true->us.any (eqU x)=xs.any fun y=>eqV y x
 | _,_,.nil,_=>rfl
 | y::xs,u::us,.cons r t,f=>by
  rw [m8,O4] at f;rw [W6,W6,qX3 r f.1,qJG t f.2]
theorem qGA {A:Around} {s:Shared} {x:V} {v:Value} (rx:RelV x v) (fx:qLB x=true):∀ {xs:List V} {us:List Value},Vals xs us->xs.all qLB=true->∀ u ∈ us,SeqAt.EqAt A s u v (eqU x u)
 | _,_,.nil,_=>fun u hu=>by cases hu
 | y::xs,u::us,.cons r t,f=>fun u' hu=>by
  rw [m8,O4] at f;rcases B6.mp hu with rfl | hu
  ·rw [qX3 r f.1];exact qaG r rx f.1 fx
  ·exact qGA rx fx t f.2 u' hu
def inV (x:V) (xs:List V):Bool:=xs.any fun y=>eqV y x
def rIn (K:PySem.W.Frag) (neg:Bool):R2:=fun x y H Q=>∃ p xs,y=.ref p/\(SqL K H p xs\/SqT K H p xs)/\qLB x=true/\xs.all qLB=true/\Q (.bl (if neg then !inV x xs else inV x xs)) H
theorem qMC:OpR X (compareOp .In) (rIn X.K false):=by
 intro Ab s σ H x y v u Q I rx ry h;obtain ⟨p,xs,rfl,hq,fx,fs,q⟩:=h;cases ry;rcases hq with hq | hq
 ·obtain ⟨its,r,pl,hz⟩:=I.list hq;refine SeqAt.in_listAt (eqU x) pl.isList (fun w hw=>qGA rx fx r fs w (by simpa using hw)) ⟨.bl _,H,I,rfl,?_⟩
  rw [show its.toArray.any (eqU x)=its.any (eqU x) by simp,qJG r fs]
  exact q
 ·obtain ⟨its,r,pl,hz⟩:=I.tuple hq;refine SeqAt.in_tupleAt (eqU x) pl (fun w hw=>qGA rx fx r fs w (by simpa using hw)) ⟨.bl _,H,I,rfl,?_⟩
  rw [show its.toArray.any (eqU x)=its.any (eqU x) by simp,qJG r fs]
  exact q
theorem qMB:OpR X (compareOp .NotIn) (rIn X.K true):=by
 intro Ab s σ H x y v u Q I rx ry h;obtain ⟨p,xs,rfl,hq,fx,fs,q⟩:=h;cases ry;rcases hq with hq | hq
 ·obtain ⟨its,r,pl,hz⟩:=I.list hq;refine SeqAt.notIn_listAt (eqU x) pl.isList (fun w hw=>qGA rx fx r fs w (by simpa using hw)) ⟨.bl _,H,I,rfl,?_⟩
  rw [show its.toArray.any (eqU x)=its.any (eqU x) by simp,qJG r fs]
  exact q
 ·obtain ⟨its,r,pl,hz⟩:=I.tuple hq;refine SeqAt.notIn_tupleAt (eqU x) pl (fun w hw=>qGA rx fx r fs w (by simpa using hw)) ⟨.bl _,H,I,rfl,?_⟩
  rw [show its.toArray.any (eqU x)=its.any (eqU x) by simp,qJG r fs]
  exact q
theorem qAL:qDM X (.builtin "len") (fun xs H Q=>∃ p ys,xs=[.ref p]/\(SqL X.K H p ys\/SqT X.K H p ys)/\Q (.int ys.length) H):=by
 intro Ab s σ H xs us Q I r h;obtain ⟨p,ys,rfl,hq,q⟩:=h;obtain ⟨u,rfl,rx⟩:=qEO r;cases rx;have hn:=qK5;rcases hq with hq | hq
 ·obtain ⟨its,r',pl,hz⟩:=I.list hq;have hlen:=r'.length;exact Calls.call_len_list pl.isList (by simp only [A8] <;> omega) ⟨.int ys.length,H,I.tok _,⟨s.toks+1,by rw [A8,hlen]⟩,q⟩
 ·obtain ⟨its,r',pl,hz⟩:=I.tuple hq;have hlen:=r'.length;exact len_tuple pl (by simp only [A8] <;> omega) ⟨.int ys.length,H,I.tok _,⟨s.toks+1,by rw [A8,hlen]⟩,q⟩
theorem qHK:qDM X (.type "list") (fun xs H Q=>∃ p ys,xs=[.ref p]/\(SqL X.K H p ys\/SqT X.K H p ys)/\∀ l,H l=none->Q (.ref l) (upd H l (.lst ys))):=by
 intro Ab s σ H xs us Q I r h;obtain ⟨p,ys,rfl,hq,q⟩:=h;obtain ⟨u,rfl,rx⟩:=qEO r;cases rx;have fin:∀ (its:List Value),Vals ys its->ys.length<=sizeLine->∀ (h':Heap) (c':Nat),(∀ b o',s.heap.get? b=some o'->h'.get? b=some o')->
   h'.get? s.heap.objs.size=some { cls:=.type "list",dict:=none,data:=.seq its.toArray c',slots:=#[] }->EP X Ab σ Q (.ref s.heap.objs.size) { s with heap:=h' }:=fun its r' hz h' c' kp e=>
  ⟨.ref s.heap.objs.size,_,I.laid (t':=s.toks) kp (B0 _) (show ObjOk X.prog X.w _ h' _ (.lst ys) from ⟨hz,its,c',r',e⟩),rfl,q _ (I.hok.fresh (B0 _))⟩
 rcases hq with hq | hq
 ·obtain ⟨its,r',pl,hz⟩:=I.list hq;have hlen:=r'.length;obtain ⟨o,ho,hc,n,hd⟩:=pl.isList;exact call_list_seq p (.inl rfl) ho hc hd (fun h' c' kp e=>fin its r' hz h' c' kp e) (by simp only [A8] <;> omega)
 ·obtain ⟨its,r',pl,hz⟩:=I.tuple hq;have hlen:=r'.length;obtain ⟨o,ho,hc,n,hd⟩:=pl;exact call_list_seq p (.inr rfl) ho hc hd (fun h' c' kp e=>fin its r' hz h' c' kp e) (by simp only [A8] <;> omega)
theorem qAM:qDM X (.type "tuple") (fun xs H Q=>∃ p ys,xs=[.ref p]/\((SqL X.K H p ys/\∀ l,H l=none->Q (.ref l) (upd H l (.tup ys)))\/(SqT X.K H p ys/\Q (.ref p) H))):=by
 intro Ab s σ H xs us Q I r h;obtain ⟨p,ys,rfl,h⟩:=h;obtain ⟨u,rfl,rx⟩:=qEO r;cases rx;rcases h with ⟨hq,q⟩ | ⟨hq,q⟩
 ·obtain ⟨its,r',pl,hz⟩:=I.list hq;have hlen:=r'.length;refine call_tuple_list pl.isList (fun h' kp=>?_) (by simp only [A8] <;> omega)
  have I1:Inv X Ab σ H { s with heap:=h' }:=I.kept (t':=s.toks) kp;have I2:Inv X Ab σ (upd H h'.objs.size (.tup ys)) { s with heap:=h'.push { cls:=.type "tuple",data:=.seq its.toArray } }:=
   I1.laid (t':=s.toks) (fun b o e=>A2 _ e) (B0 _) (show ObjOk X.prog X.w _ _ _ (.tup ys) from ⟨hz,its,r',IsTup.new _ _⟩)
  exact ⟨.ref h'.objs.size,_,I2,rfl,q _ (I1.hok.fresh (B0 _))⟩
 ·obtain ⟨its,r',pl,hz⟩:=I.tuple hq;exact call_tuple_same pl ⟨.ref p,H,I,rfl,q⟩
def tyV (K:PySem.W.Frag) (T:String) (x:V) (H:Hp):Prop:=match x with
 | .str _=>T = "str"
 | .int _=>T = "int"
 | .ref p=>(T = "list"/\∃ xs,SqL K H p xs)\/(T = "tuple"/\∃ o,K.lookup p=some o/\o.cls=.type "tuple"/\o.dict=none)\/
   (T = "dict"/\((∃ Af,H p=some (.dK Af))\/∃ Af,H p=some (.dT Af)))\/(T = "set"/\∃ S n,H p=some (.set S n))
 | _=>False
theorem qWK {Ab:List (Addr × Obj)} {σ:St} {H:Hp} {s:Shared} {T:String} {x:V} {v:Value} (I:Inv X Ab σ H s) (r:RelV x v) (ty:tyV X.K T x H) :
  s.TypeIs v T/\∀ a,v=.ref a->∃ ob,s.heap.get? a=some ob/\ob.dict=none:=by
 cases x with
 | str z=>
  obtain ⟨t,rfl⟩:=r;cases (show T = "str" from ty);exact ⟨typeIs_str s z t,fun _ e=>nomatch e⟩
 | int i=>
  obtain ⟨t,rfl⟩:=r;cases (show T = "int" from ty);exact ⟨typeIs_int s i t,fun _ e=>nomatch e⟩
 | ref p=>
  cases r;rcases ty with ⟨rfl,xs,hq⟩ | ⟨rfl,o,hk,hc,hd⟩ | ⟨rfl,hk⟩ | ⟨rfl,S,n,hk⟩
  ·obtain ⟨its,_,pl,_⟩:=I.list hq;refine ⟨pl.isList.typeIs,fun a e=>?_⟩;cases e;obtain ⟨o,n,e,c,hd,_⟩:=pl;exact ⟨o,e,hd⟩
  ·refine ⟨⟨o,I.kIn p o hk,hc⟩,fun a e=>?_⟩;cases e;exact ⟨o,I.kIn _ o hk,hd⟩
  ·have z:∃ o,s.heap.get? p=some o/\o.ExactDict:=by
    rcases hk with ⟨Af,hk⟩ | ⟨Af,hk⟩
    ·obtain ⟨_,_,_,_,o,_,_,e,ex,_⟩:=I.hok p _ hk;exact ⟨o,e,ex⟩
    ·obtain ⟨_,_,_,_,o,_,_,e,ex,_⟩:=I.hok p _ hk;exact ⟨o,e,ex⟩
   obtain ⟨o,e,ex⟩:=z;refine ⟨⟨o,e,ex.1⟩,fun a e2=>?_⟩;cases e2;exact ⟨o,e,ex.2.1⟩
  ·obtain ⟨o,_,_,_,e,ex,_⟩:=I.hok p _ hk;refine ⟨⟨o,e,ex.1⟩,fun a e2=>?_⟩;cases e2;exact ⟨o,e,ex.2.1⟩
 | _=>exact V3 ty
def tBM0 (K:PySem.W.Frag) (T:String) (r:V->List V->Hp->VK->Prop) (to:TE):TE:=fun σ H Q=>to σ H fun x H1=>tyV K T x H1/\r x [] H1 Q
def tBM (K:PySem.W.Frag) (T:String) (r:V->List V->Hp->VK->Prop) (to:TE) (t:TA):TE:=fun σ H Q=>to σ H fun x H1=>tyV K T x H1/\t σ H1 fun xs H2=>r x xs H2 Q
variable {o e:Expr} {es:List Expr} {to:TE} {t:TA} {name:Str} {apos cpos:Pos} {T id:String} {r:V->List V->Hp->VK->Prop}
theorem qWT (pa:PlainAttrs T) (slot:Slot T name id) (hty:typeOf (.builtin id)=pure (.type "method_descriptor")) (hm:MtR X id r) (ho:PE X o to)
  (hbase:attributeBase o name X.env (eval o X.env)=eval o X.env:=by rfl) (hline:(apos.endLine == cpos.line)=true:=by rfl):PE X (.Call (.Attribute o name apos) [] [] cpos) (tBM0 X.K T r to):=by
 intro Ab s σ H Q I h;refine wpAny_Call_method0_late hbase hline (thn (ho Ab s σ H _ I h) fun v s1 ⟨x,H1,I1,r1,ty,q1⟩=>?_);obtain ⟨h1,h2⟩:=qWK I1 r1 ty;exact ⟨T,id,pa,slot,hty,h1,h2,Y9 rfl (PySem.evalArgs_none (hm Ab s1 σ H1 x [] v [] Q I1 r1 .nil q1))⟩
theorem qJN (pa:PlainAttrs T) (slot:Slot T name id) (hty:typeOf (.builtin id)=pure (.type "method_descriptor")) (hm:MtR X id r) (ho:PE X o to) (ha:PA X (e::es) t)
  (hbase:attributeBase o name X.env (eval o X.env)=eval o X.env:=by rfl)
  (hfew:((backTo cpos (starEach (e::es) X.env)).all (fun x=>!x.1) && (backToKw cpos (keywordEach [] X.env)).all (fun x=>x.1.isSome)
   && decide ((e::es).length+([]:List Keyword).length+(if ([]:List Keyword).isEmpty then 0 else 1)<30))=true:=by rfl)
  (hline:(apos.endLine == cpos.line)=true:=by rfl) (hs:starEach (e::es) X.env=(false,eval e X.env)::starEach es X.env:=by rfl) (hplain:(backTo cpos (starEach es X.env)).any (·.1)=false:=by rfl) :
  PE X (.Call (.Attribute o name apos) (e::es) [] cpos) (tBM X.K T r to t):=by
 intro Ab s σ H Q I h;refine wpAny_Call_method_late hbase hfew hline rfl (thn (ho Ab s σ H _ I h) fun v s1 ⟨x,H1,I1,r1,ty,q1⟩=>?_);obtain ⟨h1,h2⟩:=qWK I1 r1 ty;refine ⟨T,id,pa,slot,hty,h1,h2,?_⟩;have hA:=ha cpos Ab s1 σ H1 _ I1 q1;rw [hs] at hA ⊢;refine Y9 (by show (false || (backTo cpos (starEach es X.env)).any (·.1))=false;rw [hplain] <;> rfl) (x6 ?_)
 exact thn hA fun us s2 ⟨vs,H2,I2,r2,q2⟩=>hm Ab s2 σ H2 x vs v us Q I2 r1 r2 q2
end
end L2
namespace L2
open PySem PySem.Spec PyProof.Rows
def MtM (X:Cx) (id:String) (r:V->List V->Hp->VK->Prop):Prop:=
 ∀ (Ab:List (Addr × Obj)) (s:Shared) (σ:St) (H:Hp) (x:V) (xs:List V) (v:Value) (us:List Value) (Q:VK),Inv X Ab σ H s->RelV x v->Vals xs us->r x xs H Q->
  wpAny (model X.prog X.w) X.A (call (.builtin id) (v::us)) (EP X Ab σ Q) X.xe s
theorem Vals.one:∀ {x:V} {us:List Value},Vals [x] us->∃ u,us=[u]/\RelV x u
 | _,_,.cons r .nil=>⟨_,rfl,r⟩
theorem Vals.zero:∀ {us:List Value},Vals [] us->us=[]
 | _,.nil=>rfl
theorem Vals.dropLast {xs:List V} {us:List Value} (h:Vals xs us):Vals xs.dropLast us.dropLast:=by
 induction h with
 | nil=>exact .nil
 | cons r t ih=>
  cases t with
  | nil=>exact .nil
  | cons q t'=>exact .cons r ih
theorem Vals.reverse {xs:List V} {us:List Value} (h:Vals xs us):Vals xs.reverse us.reverse:=by
 induction h with
 | nil=>exact .nil
 | cons r t ih=>rw [K9,K9];exact Vals.append ih (.cons r .nil)
theorem Vals.rep {xs:List V} {us:List Value} (h:Vals xs us):∀ k:Nat,Vals (C1 k xs).flatten (C1 k us).flatten
 | 0=>.nil
 | k+1=>by
  rw [I0,I0,E9,E9];exact Vals.append h (Vals.rep h k)
theorem qR4 {α:Type} (l:List α):l.eraseIdx (l.length - 1)=l.dropLast:=by
 induction l with
 | nil=>rfl
 | cons a r ih=>
  cases r with
  | nil=>rfl
  | cons b r=>
   have e:(a::b::r).length - 1=((b::r).length - 1)+1:=by
    have h1:(a::b::r).length=r.length+2:=rfl;have h2:(b::r).length=r.length+1:=rfl;omega
   rw [e,List.eraseIdx_cons_succ,ih]
   all_goals rfl
theorem qN0 (its:List Value):∀ (k:Nat) (acc:List Value),
  A64 (fun x1 x2=>x1++x2) acc.toArray (C1 k its.toArray)=(acc++(C1 k its).flatten).toArray
 | 0,acc=>by simp
 | k+1,acc=>by
  have e:acc.toArray++its.toArray=(acc++its).toArray:=by simp
  have e2:(acc++its)++(C1 k its).flatten=acc++(C1 (k+1) its).flatten:=by
   rw [I0,E9,O7]
  rw [<- e2,<- qN0 its k (acc++its),<- e,I0,Y2]
section
variable {X:Cx} {Ab:List (Addr × Obj)} {σ:St} {H:Hp} {s:Shared} {l b:Addr} {xs ys zs:List V}
theorem Inv.lset {its its':List Value} {n:Nat} {f:Array Value->Array Value} {t':Nat} (I:Inv X Ab σ H s) (hH:H l=some (.lst xs))
  (e:s.heap.get? l=some { cls:=.type "list",data:=.seq its.toArray n }) (hf:f its.toArray=its'.toArray) (hv:Vals ys its') (hz:ys.length<=sizeLine) :
  Inv X Ab σ (upd H l (.lst ys)) { s with heap:=s.heap.update l (F2 f),toks:=t' }:=by
 have q:=PySem.IsL.update e f;rw [hf] at q;refine I.write (x:=l) (e:=l) (by rw [hH];exact trivial) (.inl rfl) (fun b' u hb hu=>(C2 s.heap (F2 f) (G3 hb)).trans hu) ⟨_,q⟩ ?_
 exact ⟨hz,its',_,hv,q⟩
theorem Inv.lnew {its:List Value} {t':Nat} (I:Inv X Ab σ H s) (hv:Vals ys its) (hz:ys.length<=sizeLine) :
  Inv X Ab σ (upd H s.heap.objs.size (.lst ys)) { s with heap:=s.heap.push { cls:=.type "list",data:=.seq its.toArray },toks:=t' }:=
 I.laid (fun _ _ q=>A2 _ q) (B0 _) ⟨hz,its,0,hv,B5 _ rfl⟩
theorem Inv.fresh (I:Inv X Ab σ H s):H s.heap.objs.size=none:=I.hok.fresh (B0 _)
theorem Inv.lstM (I:Inv X Ab σ H s) (hH:H l=some (.lst xs)):xs.length<=sizeLine/\∃ (its:List Value) (n:Nat),Vals xs its/\xs.length=its.length/\s.heap.get? l=some { cls:=.type "list",data:=.seq its.toArray n }:=by
 obtain ⟨z,its,n,r,e⟩:=I.hok l _ hH;exact ⟨z,its,n,r,r.length,e⟩
theorem qPK {n:Nat} (h:n<=sizeLine):U4 n=false:=by
 unfold U4;exact decide_eq_false (by omega)
end
section
variable {X:Cx}
def qXP:V->List V->Hp->VK->Prop:=fun x vs H Q=>∃ l xs y,x=.ref l/\vs=[y]/\H l=some (.lst xs)/\xs.length<sizeLine/\Q .non (upd H l (.lst (xs++[y])))
theorem qCV:MtM X "list.append" qXP:=by
 intro Ab s σ H x vs v us Q I rx rv h;obtain ⟨l,xs,y,rfl,rfl,hH,hz,q⟩:=h;cases rx;obtain ⟨u,rfl,ru⟩:=rv.one;obtain ⟨z,its,n,r,hl,e⟩:=I.lstM hH;refine call_meets F.slot_list_append ⟨_,e,rfl⟩ F.entry_list_append (F.args_list_append_2 _ _) (PySem.list_append l its.toArray n u (by rw [A8];omega)) ⟨e,?_⟩
 refine ⟨.non,_,I.lset (its':=its++[u]) hH e (by simp) (r.append (.cons ru .nil)) ?_,rfl,q⟩
 rw [A7,C3];omega
def qXO:V->List V->Hp->VK->Prop:=fun x vs H Q=>∃ l b xs zs,x=.ref l/\vs=[.ref b]/\H l=some (.lst xs)/\H b=some (.lst zs)/\xs.length+zs.length<=sizeLine/\Q .non (upd H l (.lst (xs++zs)))
theorem qIX:MtM X "list.extend" qXO:=by
 intro Ab s σ H x vs v us Q I rx rv h;obtain ⟨l,b,xs,zs,rfl,rfl,hH,hB,hz,q⟩:=h;cases rx;obtain ⟨u,rfl,ru⟩:=rv.one;cases ru;obtain ⟨z,its,n,r,hl,e⟩:=I.lstM hH;obtain ⟨z2,its2,n2,r2,hl2,e2⟩:=I.lstM hB;have hsz:its.toArray.size+its2.toArray.size<=sizeLine:=by rw [A8,A8];omega
 have hlong:¬ (!its.toArray.isEmpty && U4 (its.toArray.size+its2.toArray.size))=true:=by
  rw [qPK hsz,y3];exact B8
 refine call_meets F.slot_list_extend ⟨_,e,rfl⟩ F.entry_list_extend (F.args_list_extend_2 _ _)
  (AutoSeq1.list_extend_list_list_0 l its.toArray n b its2.toArray n2 hlong (by rw [A8];omega) (by omega)) ⟨e,e2,?_⟩
 refine ⟨.non,_,I.lset (its':=its++its2) hH e (by simp) (r.append r2) ?_,rfl,q⟩
 rw [A7];omega
def rPop:V->List V->Hp->VK->Prop:=fun x vs H Q=>∃ l xs y,x=.ref l/\vs=[]/\H l=some (.lst xs)/\xs[xs.length - 1]?=some y/\Q y (upd H l (.lst xs.dropLast))
theorem qZW:MtM X "list.pop" rPop:=by
 intro Ab s σ H x vs v us Q I rx rv h;obtain ⟨l,xs,y,rfl,rfl,hH,hy,q⟩:=h;cases rx;have hus:=rv.zero;subst hus;obtain ⟨z,its,n,r,hl,e⟩:=I.lstM hH;obtain ⟨u,hu,ru⟩:=r.get hy;have hy':its.toArray[its.toArray.size - 1]?=some u:=by
  show its.toArray[its.length - 1]?=some u;rw [<- J6,<- hl];exact hu
 refine call_meets F.slot_list_pop ⟨_,e,rfl⟩ F.entry_list_pop (F.args_list_pop_1 _) (MeetsSeq.list_pop_last l its.toArray n u hy' (by rw [A8];omega)) ⟨e,?_⟩
 refine ⟨y,_,I.lset (its':=its.dropLast) hH e ?_ r.dropLast ?_,ru,q⟩
 ·show its.toArray.eraseIdxIfInBounds (its.toArray.size - 1)=its.dropLast.toArray;rw [A8,List.eraseIdxIfInBounds_toArray,qR4]
 ·rw [List.length_dropLast];omega
def qV3:V->List V->Hp->VK->Prop:=fun x vs H Q=>∃ l xs,x=.ref l/\vs=[]/\H l=some (.lst xs)/\Q .non (upd H l (.lst xs.reverse))
theorem qQR:MtM X "list.reverse" qV3:=by
 intro Ab s σ H x vs v us Q I rx rv h;obtain ⟨l,xs,rfl,rfl,hH,q⟩:=h;cases rx;have hus:=rv.zero;subst hus;obtain ⟨z,its,n,r,hl,e⟩:=I.lstM hH;refine call_meets F.slot_list_reverse ⟨_,e,rfl⟩ F.entry_list_reverse (F.args_list_reverse_1 _) (AutoSeq1.list_reverse_list_0 l its.toArray n (by rw [A8];omega)) ⟨e,?_⟩
 refine ⟨.non,_,I.lset (its':=its.reverse) hH e (by simp) r.reverse ?_,rfl,q⟩
 rw [d4];omega
def rCat:R2:=fun x y H Q=>∃ l b xs zs,x=.ref l/\y=.ref b/\H l=some (.lst xs)/\H b=some (.lst zs)/\xs.length+zs.length<=sizeLine/\∀ p,H p=none->Q (.ref p) (upd H p (.lst (xs++zs)))
theorem qMD:OpR X (binaryOp .Add) rCat:=by
 intro Ab s σ H x y v u Q I rx ry h;obtain ⟨l,b,xs,zs,rfl,rfl,hH,hB,hz,q⟩:=h;cases rx;cases ry;obtain ⟨z,its,n,r,hl,e⟩:=I.lstM hH;obtain ⟨z2,its2,n2,r2,hl2,e2⟩:=I.lstM hB;refine PySem.P.add_list e e2 ?_ (by rw [A8,A8];omega)
 have ea:its.toArray++its2.toArray=(its++its2).toArray:=by simp
 rw [ea];exact ⟨.ref _,_,I.lnew (t':=s.toks) (r.append r2) (by rw [A7];omega),rfl,q _ I.fresh⟩
def rRep:R2:=fun x y H Q=>∃ l k xs,x=.ref l/\y=.int k/\H l=some (.lst xs)/\-(2 ^ 63)<=k/\k<2 ^ 63/\xs.length * k.toNat<=sizeLine/\
 ∀ p,H p=none->Q (.ref p) (upd H p (.lst (C1 k.toNat xs).flatten))
theorem qY7 {α:Type} (xs:List α) (k:Nat):(C1 k xs).flatten.length=k * xs.length:=by
 induction k with
 | zero=>simp
 | succ k ih=>rw [I0,E9,A7,ih,Nat.succ_mul,Nat.add_comm]
theorem qMA:OpR X (binaryOp .Mult) rRep:=by
 intro Ab s σ H x y v u Q I rx ry h;obtain ⟨l,k,xs,rfl,rfl,hH,h1,h2,hz,q⟩:=h;cases rx;obtain ⟨t,rfl⟩:=ry;obtain ⟨z,its,n,r,hl,e⟩:=I.lstM hH;have hlen:its.toArray.size * k.toNat<=sizeLine:=by rw [A8,<- hl];exact hz
 have hcap:¬ its.toArray.size * k.toNat > (2 ^ 63 - 1) / 8:=by
  have:(sizeLine:Nat)<=(2 ^ 63 - 1) / 8:=by decide
  omega
 have hfit:¬ (!Builtin.List.listFitsIndex k)=true:=by
  rw [fitsIndex_both h1 h2];exact B8
 have hlong:¬ U4 (its.toArray.size * k.toNat)=true:=by
  rw [qPK hlen];exact B8
 have hnew:A64 (fun x1 x2=>x1++x2) #[] (C1 (if its.toArray.isEmpty=true then 0 else k.toNat) its.toArray)=(C1 k.toNat its).flatten.toArray:=by
  have f0:∀ m:Nat,A64 (fun x1 x2=>x1++x2) #[] (C1 m its.toArray)=(C1 m its).flatten.toArray:=fun m=>by
   have:=qN0 its m [];rw [d5] at this;exact this
  rw [f0];cases its with
  | nil=>simp
  | cons a r'=>rw [if_neg (by simp)]
 refine wpAny_binaryOp_repeat_ref (T:="list") (U:="int") (by decide) ⟨_,e,rfl⟩ (fun s'=>typeIs_int s' k t) noFill_list_mul F.fills_int_mul F.slot_int_rmul repeat_list F.slot_int_index.lookup
  (call_meets F.slot_int_rmul (typeIs_int s k t) F.entry_int_rmul (F.args_int_rmul_2 _ _) (int___rmul___int_list k t l its.toArray n)
   ⟨e,rfl,⟨_,e,rfl⟩,call_meets F.slot_list_mul ⟨_,e,rfl⟩ F.entry_list_mul (F.args_list_mul_2 _ _) (AutoListH.list___mul___list_int_3 l its.toArray n k t hfit hcap hlong) ⟨e,?_⟩⟩)
 rw [hnew];exact ⟨.ref _,_,I.lnew (t':=s.toks) (r.rep k.toNat) (by rw [qY7,Nat.mul_comm];exact hz),rfl,q _ I.fresh⟩
end
section
variable {prog:Program} {w:World} {A:Around} {E:Value->Shared->Prop} {s:Shared}
set_option maxRecDepth 100000 in
end
section
variable {X:Cx}
end
end L2
namespace Att
open PySem PySem.W PySem.Calls PyProof.Rows
theorem qJ6 {P:Params} {h:Heap}:∀ (ns:List Int) (vs:List Value),WellAll P h vs (ns.map WData.int)->IntsAre vs ns:=by
 intro ns
 induction ns with
 | nil=>
  intro vs w;rw [t0] at w;cases w;exact .nil
 | cons n ns ih=>
  intro vs w;rw [B9] at w;cases w with
  | cons a b=>
   cases a;exact .cons _ _ (ih _ b)
theorem qRY {l:OpenLaw} {n:Nat} (hn:l.most=some n) {P:Params} {h:Heap} {args:List WData} {vals:List Value}
  (hpre:l.row.toRowW.claim.pre args=true) (hwl:WellAll P h vals args) :
  ∃ a vs ns,vals=[C8 a]/\args=[WData.list (ns.map WData.int)]/\h.get? a=some { cls:=.type "list",data:=.seq vs.toArray }/\IntsAre vs ns/\ns.length<=n:=by
 have hsh:WShape.hasAll [] args [.list .int]=true:=(pre_splitW hpre).1;have hc:l.pre.holds [] { args:=args }=true:=(pre_splitW hpre).2;obtain ⟨d,r,rfl,h1,h2⟩:=hasAllW_cons hsh;obtain rfl:=hasAllW_nil h2;obtain ⟨xs,rfl,h3⟩:=hasW_list h1;obtain ⟨ns,rfl⟩:=items_int h3;have hlen:ns.length<=n:=by
  unfold OpenLaw.pre at hc;have h4:(WTm.not (.lt (.lit (.int (n:Int))) (.len (.arg 0)))).holds [] { args:=[.list (ns.map .int)] }=true:=by
   have h4:=(holds_andW hc).1;rw [hn] at h4;exact h4
  have h5:=condW_of h4 (w_not (w_lt w_lit (w_len_list (w_arg rfl))));rw [A0] at h5;refine b7 fun q=>?_;have q':(n:Int)<((ns.length:Nat):Int):=by omega
  first
   | (rw [decide_eq_true q'] at h5;exact absurd h5 (by decide))
   | (simp at h5;omega)
 cases hwl with
 | cons w1 w2=>
  cases w2;cases w1 with
  | list ho hall=>exact ⟨_,_,ns,rfl,rfl,ho,qJ6 ns _ hall,hlen⟩
theorem qS6 (l:OpenLaw) (args:List WData):l.row.toRowW.claim.post args (.bool true) args=true:=
 postW_of (r:=l.row.toRowW) (X:=(true == true))
  (show WShape.has [] (.bool true) .bool=true by first | rfl | decide | simp [WShape.has,WShape.arms,WShape.armsAll])
  (show (WTm.eq .res (.lit (.bool true))).value [] { args:=args,res:=some (.bool true),after:=args }=some (.bool (true == true)) from w_eq_bool (w_res rfl) w_lit) rfl
theorem attach_call {l:OpenLaw} {n:Nat} {q:Program} {loose:List Str} {XP:(Str->Option Value)->Heap->Prop} {YP:World->Heap->Prop} {d:DefRec}
  (hn:l.most=some n) (hdf:d.params.defaults=[])
  (call:∀ (w:World) (s₀ s₁:Shared) (mg mb:Str->Option Value) (fa:Addr) (o:Obj) (pm cd doc:Value) (a:Addr) (vs:List Value) (ns:List Int),
   Ground q loose [] XP w s₀ mg mb s₁.heap->YP w s₁.heap->
   s₁.heap.get? fa=some o->o.data=.func (docDef d.name d.params d.body d.scope pm cd doc)->s₁.heap.CodeRec cd d.name->mg d.name=some (.ref fa)->
   s₁.heap.get? a=some { cls:=.type "list",data:=.seq vs.toArray }->IntsAre vs ns->ns.length<=n->s₁.gens=#[]->
   codeAny (model l.prog w) callerA (.call (.ref fa) ⟨[.ref a],[]⟩) (fun r s'=>r=.ok (.ret (.bool true))/\OldK s₁.heap s'.heap/\s'.os=s₁.os/\AllBare s'.gens) s₁) :
  WalkO q loose XP YP l.row.toRowW d [] (fun f vs=>A65 f vs):=by
 intro w s₀ s₁ mg mb G Y fa o pm cd doc dV kV ho hd hcd hD hmg hg args vals as hpre hlay hrd hwl hlo;obtain rfl:dV=.none:=Dflts.none hD hdf;obtain rfl:kV=.none:=Dflts.noKw hD;obtain ⟨a,vs,ns,rfl,rfl,hobj,hints,hlen⟩:=qRY hn hpre hwl;refine enter_call (codeAny_mono (call w s₀ s₁ mg mb fa o pm cd doc a vs ns G Y ho (fd_plain hd) hcd hmg hobj hints hlen hg) fun r s' hq=>?_);obtain ⟨rfl,h2,h3,h4⟩:=hq;exact ⟨.inl ⟨.bool true,.bool true,[],rfl,fun _=>rfl,.bool true,qS6 l _,fun _=>⟨List.Pairwise.nil,fun _ hm=>(nomatch hm)⟩⟩,h2,h3,h4⟩
section
variable {prog:Program} {w:World} {A:Around} {E:Value->Shared->Prop} {s:Shared} {K:Frag}
end
end Att
namespace L2
open PySem PySem.Spec PyProof.Rows
theorem qID:∀ {vs:List Value} {ns:List Int},IntsAre vs ns->Vals (ns.map V.int) vs
 | _,_,.nil=>.nil
 | _,_,.cons n t h=>.cons ⟨t,rfl⟩ (qID h)
end L2
namespace L2
open PySem PySem.Spec PyProof.Rows
end L2
namespace L2
open PySem PySem.Spec PyProof.Rows
def qF4 (s:Stmt):Arguments:=match s with
 | .FunctionDef _ a _ _ _ _ _ _ _ _=>a
 | _=>{ posonlyargs:=[],args:=[],vararg:=none,kwonlyargs:=[],kw_defaults:=[],kwarg:=none,defaults:=[] }
def qBG (s:Stmt):List Stmt:=match s with
 | .FunctionDef _ _ b _ _ _ _ _ _ _=>b
 | _=>[]
def qAD (s:Stmt):Scope:=match s with
 | .FunctionDef _ _ _ _ _ _ sc _ _ _=>sc
 | _=>{ kind:=.function,names:=[],isGenerator:=false,isCoroutine:=false }
abbrev CX0:CXT:=fun _ _ _ _ _ _=>False
abbrev E0:XK:=fun _ _ _=>False
theorem qZQ {X:Cx}:qUN CX0 X E0:=fun _ _ _ _ _ _ _ h=>h.elim
structure Fun (K:PySem.W.Frag) (x qual:Str) (st:Stmt) (f:Addr) (fd:FuncData):Prop where
 ex:∃ (oc:Value) (od:Option Addr) (kV doc pm:Value) (an:Option Addr) (cdv ct:Value) (osl:Array (Option Value)),
  fd=T3 x qual (qF4 st) (qBG st) (qAD st) .none kV doc pm an cdv ct/\K.lookup f=some ⟨oc,od,.func fd,osl⟩/\X1 K cdv qual=true
 kp:M9 K (.ref f)=true
section
variable {P:Program} {w:World} {K:PySem.W.Frag} {mg:Str->Option Value} {base:Heap}
theorem Fun.ok {x qual:Str} {st:Stmt} {f:Addr} {fd:FuncData} {N ps:List Str} {k:Nat} {sp:Sp} (F:Fun K x qual st f fd) (S:FnScope N ps (qAD st)) (len:∀ vs H Q E,sp vs H Q E->vs.length=ps.length)
  (hbody:∀ (cdv:Value) (A:Around) (outer:List Env) (s:Shared) (H:Hp) (vs:List V) (Q:VK) (E:XK),Room k (A.deeper (envOfC qual (qAD st) s.heap.objs.size f cdv))->sp vs H Q E->
   ∃ t,PSs (cxOf CX0 P w K mg base N qual (qAD st) f cdv A outer s H E).nox (qBG st) t/\t { nx:=fun _ H'=>Q .non H',rt:=Q } (start N vs) H):FnOk P w K mg base CX0 (k+1) f fd ps sp:=by
 obtain ⟨oc,od,kV,doc,pm,an,cdv,ct,osl,rfl,lk,hcd⟩:=F.ex;refine qaE lk hcd S len fun A outer s H vs Q E hr hsp=>?_;obtain ⟨t,h,q⟩:=hbody cdv A outer s H vs Q E hr hsp;exact ⟨t,h.nox,q⟩
theorem Fun.binds {x qual:Str} {st:Stmt} {f:Addr} {fd:FuncData} {ps:List Str} (F:Fun K x qual st f fd)
  (h:∀ (kV doc pm:Value) (an:Option Addr) (cdv ct:Value) (us:List Value),us.length=ps.length->bindArgs (T3 x qual (qF4 st) (qBG st) (qAD st) .none kV doc pm an cdv ct) ⟨us,[]⟩=pure (ps.zip us)):Binds K fd ps []:=by
 obtain ⟨oc,od,kV,doc,pm,an,cdv,ct,osl,rfl,lk,hcd⟩:=F.ex;exact .all (h kV doc pm an cdv ct)
theorem fun_mk {x qual:Str} {st:Stmt} {f:Addr} {oc:Value} {od an:Option Addr} {osl:Array (Option Value)} {kV doc pm cdv ct:Value} (l:K.lookup f=some ⟨oc,od,.func (T3 x qual (qF4 st) (qBG st) (qAD st) .none kV doc pm an cdv ct),osl⟩)
  (c:X1 K cdv qual=true) (k:M9 K (.ref f)=true):Fun K x qual st f (T3 x qual (qF4 st) (qBG st) (qAD st) .none kV doc pm an cdv ct):=⟨⟨oc,od,kV,doc,pm,an,cdv,ct,osl,rfl,l,c⟩,k⟩
end
theorem qJP {A:Around} {k:Nat} (hr:Room k A):A.units+1<cLine:=V6 (Nat.add_le_add_left (by decide:1<=64) _) hr.units
theorem qAO {n:Nat} (h:n<=1000):n<sizeLine:=V6 h (by decide)
section
variable {X:Cx}
theorem pv (i:Nat) {x:Str} {pos:Pos} (hN:X.N[i]?=some x:=by rfl) (hv:Vis X.env.scope x:=by first | exact D0 rfl | exact b9 (D0 rfl) | exact b9 (b9 rfl)) (hd:(x == ("__debug__" : Str))=false:=by decide)
  (hcd:(x == ("__classdict__" : Str))=false:=by decide):PE X (.Name x pos) (tVar i):=qZO hN hv hd hcd
end
theorem iteF {A B:Prop} (h:B):if false=true then A else B:=by
 rw [if_neg B8];exact h
theorem iteT {A B:Prop} (h:A):if true=true then A else B:=by
 rw [if_pos rfl];exact h
theorem ite2 {c A B:Prop} [Decidable c] (h1:c->A) (h2:¬ c->B):if c then A else B:=by
 by_cases h:c
 ·rw [if_pos h];exact h1 h
 ·rw [if_neg h];exact h2 h
def Same (H H':Hp):Prop:=∀ b o,H b=some o->H' b=some o
theorem Same.refl (H:Hp):Same H H:=fun _ _ h=>h
theorem Same.trans {H H1 H2:Hp} (a:Same H H1) (b:Same H1 H2):Same H H2:=fun c o h=>b c o (a c o h)
theorem Same.free {H H':Hp} (e:Same H H') {l:Addr} (h:H' l=A82):H l=A82:=by
 cases q:H l with
 | none=>rfl
 | some o=>
  rw [e l o q] at h;cases h
end L2
namespace L2
open PySem PySem.Spec PyProof.Rows
section
variable {κ:Type} [DecidableEq κ]
def valV (Af:List (κ × V)) (k:κ):Option V:=(Af.find? fun kv=>decide (kv.1=k)).map (·.2)
def putK (Af:List (κ × V)) (k:κ) (v:V):List (κ × V):=
 if (Af.any fun kv=>decide (kv.1=k))=true then Af.map (fun kv=>if kv.1=k then (kv.1,v) else kv) else Af++[(k,v)]
theorem qBK {p:κ × V} {r:List (κ × V)} {k:κ} (e:p.1=k):valV (p::r) k=some p.2:=by simp [valV,V8,e]
theorem qBL {p:κ × V} {r:List (κ × V)} {k:κ} (e:¬ p.1=k):valV (p::r) k=valV r k:=by simp [valV,V8,e]
theorem qE5 (k:κ):∀ Af:List (κ × V),(Af.any fun kv=>decide (kv.1=k))=(valV Af k).isSome
 | []=>rfl
 | p::r=>by
  rw [W6];by_cases e:p.1=k
  ·simp only [qBK e,decide_eq_true e,Bool.true_or,Option.isSome_some]
  ·rw [qBL e,decide_eq_false e,Bool.false_or];exact qE5 k r
theorem qOX (k j:κ) (y:V):∀ Af:List (κ × V),valV (Af.map fun kv=>if kv.1=k then (kv.1,y) else kv) j=(valV Af j).map fun x=>if j=k then y else x
 | []=>rfl
 | p::r=>by
  have ih:=qOX k j y r;rw [B9];by_cases h:p.1=k
  ·rw [if_pos h];by_cases e:p.1=j
   ·rw [qBK (p:=(p.1,y)) e,qBK e,P8,if_pos (e.symm.trans h)]
   ·rw [qBL (p:=(p.1,y)) e,qBL e,ih]
  ·rw [if_neg h];by_cases e:p.1=j
   ·rw [qBK (p:=p) e,qBK e,P8,if_neg (fun z=>h (e.trans z))]
   ·rw [qBL (p:=p) e,qBL e,ih]
theorem qLW (k j:κ) (y:V):∀ Af:List (κ × V),valV Af k=none->valV (Af++[(k,y)]) j=if j=k then some y else valV Af j
 | [],_=>by
  by_cases e:k=j
  ·rw [if_pos e.symm];exact qBK (p:=(k,y)) e
  ·rw [if_neg (fun z=>e z.symm)];exact qBL (p:=(k,y)) e
 | p::r,hn=>by
  rw [P4];have hk:¬ p.1=k:=fun z=>by rw [qBK z] at hn;cases hn
  rw [qBL hk] at hn;have ih:=qLW k j y r hn;by_cases e:p.1=j
  ·rw [qBK e,qBK e,if_neg (fun z=>hk (e.trans z))]
  ·rw [qBL e,qBL e,ih]
theorem qKL (Af:List (κ × V)) (k j:κ) (y:V):valV (putK Af k y) j=if j=k then some y else valV Af j:=by
 unfold putK;by_cases a:(Af.any fun kv=>decide (kv.1=k))=true
 ·rw [if_pos a,qOX];rw [qE5] at a;by_cases e:j=k
  ·obtain ⟨x,hx⟩:=X6.mp a;rw [if_pos e,e,hx,P8,if_pos rfl]
  ·rw [if_neg e];cases valV Af j with
   | none=>rfl
   | some x=>rw [P8,if_neg e]
 ·rw [if_neg a];refine qLW k j y Af ?_;rw [qE5] at a;cases q:valV Af k with
  | none=>rfl
  | some x=>rw [q] at a;exact (a rfl).elim
theorem qCN (Af:List (κ × V)) (k:κ) (v:V):(putK Af k v).length<=Af.length+1:=by
 unfold putK
 split
 ·rw [A0];omega
 ·rw [A7,E3,Y0];omega
theorem qV5 {Af:List (κ × V)} {k:κ} (v:V) (h:valV Af k=none):putK Af k v=Af++[(k,v)]:=by
 unfold putK;rw [qE5,h];exact if_neg (by decide)
theorem RelO.isSome_eq {o:Option V} {u:Option Value} (r:RelO o u):o.isSome=u.isSome:=by
 cases o with
 | none=>cases u with
  | none=>rfl
  | some _=>exact (show False from r).elim
 | some _=>cases u with
  | none=>exact (show False from r).elim
  | some _=>rfl
theorem RelO.getD {o:Option V} {u:Option Value} {d:V} {d':Value} (r:RelO o u) (rd:RelV d d'):RelV (o.getD d) (u.getD d'):=by
 cases o with
 | none=>cases u with
  | none=>exact rd
  | some _=>exact (show False from r).elim
 | some _=>cases u with
  | none=>exact (show False from r).elim
  | some _=>exact r
theorem KV.val {Af:List (κ × V)} {vs:List (κ × Value)} (r:KV Af vs) (k:κ):RelO (valV Af k) (valueAt vs k):=by
 unfold KV at r
 induction r with
 | nil=>exact U2
 | @cons p q ps qs h t ih=>
  obtain ⟨h1,h2⟩:=h;by_cases e:p.1=k
  ·have e':q.1=k:=h1.symm.trans e;have b:valueAt (q::qs) k=some q.2:=by simp [valueAt,V8,e']
   rw [qBK e,b];exact h2
  ·have e':¬ q.1=k:=fun z=>e (h1.trans z);have b:valueAt (q::qs) k=valueAt qs k:=by simp [valueAt,V8,e']
   rw [qBL e,b];exact ih
theorem KV.any {Af:List (κ × V)} {vs:List (κ × Value)} (r:KV Af vs) (k:κ):(Af.any fun kv=>decide (kv.1=k))=vs.any fun kv=>decide (kv.1=k):=by
 unfold KV at r
 induction r with
 | nil=>rfl
 | cons h t ih=>rw [W6,W6,ih,h.1]
theorem KV.repl {Af:List (κ × V)} {vs:List (κ × Value)} (r:KV Af vs) (k:κ) {y:V} {u:Value} (ry:RelV y u) :
  KV (Af.map fun kv=>if kv.1=k then (kv.1,y) else kv) (vs.map fun kv=>if kv.1=k then (kv.1,u) else kv):=by
 unfold KV at r ⊢
 induction r with
 | nil=>exact .nil
 | @cons p q ps qs h t ih=>
  rw [B9,B9];refine .cons ?_ ih;obtain ⟨h1,h2⟩:=h;by_cases e:p.1=k
  ·rw [if_pos e,if_pos (h1.symm.trans e)];exact ⟨h1,ry⟩
  ·rw [if_neg e,if_neg (fun z=>e (h1.trans z))];exact ⟨h1,h2⟩
theorem KV.put {Af:List (κ × V)} {vs:List (κ × Value)} (r:KV Af vs) (k:κ) {y:V} {u:Value} (ry:RelV y u):KV (putK Af k y) (stored vs k u):=by
 unfold putK stored;rw [r.any k];by_cases e:(vs.any fun kv=>decide (kv.1=k))=true
 ·rw [if_pos e,if_pos e];exact r.repl k ry
 ·rw [if_neg e,if_neg e];exact Z2 r ⟨rfl,ry⟩
theorem KV.length {Af:List (κ × V)} {vs:List (κ × Value)} (r:KV Af vs):Af.length=vs.length:=C7 r
end
theorem qQX {P:Program} {w:World} {k:Key} {u:Value} (r:RelV (kV k) u):(qBF P w).is k u=true:=by
 cases k with
 | inl i=>obtain ⟨t,e⟩:=(show ∃ t,u=J5 i t from r);subst e;exact qOC P w i t
 | inr x=>obtain ⟨t,e⟩:=(show ∃ t,u=A49 x t from r);subst e;exact qOB P w x t
theorem qMW {P:Program} {w:World}:∀ {ks:List Key} {us:List Value},Vals (ks.map kV) us->ItemsAre (qBF P w) ks us
 | [],_,r=>by rw [t0] at r;cases r;exact .nil
 | k::ks,_,r=>by
  rw [B9] at r;cases r with
  | cons h t=>exact .cons (qQX h) (qMW t)
abbrev KT (H:Hp):List (List Key × V)->List (List Key × Addr × Value)->Prop:=Paired fun p q=>p.1=q.1/\H q.2.1=some (.tup (p.1.map kV))/\RelV p.2 q.2.2
theorem KT.val {H:Hp} {Af:List (List Key × V)} {xs:List (List Key × Addr × Value)} (r:KT H Af xs) (k:List Key):RelO (valV Af k) ((atKey xs k).map (·.2)):=by
 induction r with
 | nil=>exact U2
 | @cons p q ps qs h t ih=>
  obtain ⟨h1,_,h2⟩:=h;by_cases e:p.1=k
  ·have e':q.1=k:=h1.symm.trans e;have b:atKey (q::qs) k=some q.2:=by simp [atKey,V8,e']
   rw [qBK e,b];exact h2
  ·have e':¬ q.1=k:=fun z=>e (h1.trans z);have b:atKey (q::qs) k=atKey qs k:=by simp [atKey,V8,e']
   rw [qBL e,b];exact ih
theorem KT.repl {H:Hp} {Af:List (List Key × V)} {xs:List (List Key × Addr × Value)} (r:KT H Af xs) (k:List Key) {y:V} {u:Value} (ry:RelV y u) :
  KT H (Af.map fun kv=>if kv.1=k then (kv.1,y) else kv) (xs.map (putAt k u)):=by
 induction r with
 | nil=>exact .nil
 | @cons p q ps qs h t ih=>
  rw [B9,B9];refine .cons ?_ ih;obtain ⟨h1,h2,h3⟩:=h;unfold putAt;by_cases e:p.1=k
  ·rw [if_pos e,if_pos (h1.symm.trans e)];exact ⟨h1,h2,ry⟩
  ·rw [if_neg e,if_neg (fun z=>e (h1.trans z))];exact ⟨h1,h2,h3⟩
theorem KT.put {H:Hp} {Af:List (List Key × V)} {xs:List (List Key × Addr × Value)} (r:KT H Af xs) (k:List Key) {b:Addr} {y:V} {u:Value} (hb:H b=some (.tup (k.map kV))) (ry:RelV y u) :
  KT H (putK Af k y) (storedH xs k b u):=by
 have e:(Af.any fun kv=>decide (kv.1=k))=(atKey xs k).isSome:=by
  rw [qE5,(r.val k).isSome_eq,k9]
 unfold putK storedH;rw [e];by_cases q:(atKey xs k).isSome=true
 ·rw [if_pos q,if_pos q];exact r.repl k ry
 ·rw [if_neg q,if_neg q];exact Z2 r ⟨rfl,hb,ry⟩
theorem KT.keeps {H H':Hp} {Af:List (List Key × V)} {xs:List (List Key × Addr × Value)} (r:KT H Af xs) (ht:∀ b ys,H b=some (.tup ys)->H' b=some (.tup ys)):KT H' Af xs:=
 Paired.mapP r fun _ _ z=>⟨z.1,ht _ _ z.2.1,z.2.2⟩
section
variable {P:Program} {w:World} {H:Hp} {h:Heap} {a:Addr}
theorem qZK {u:HO} (ok:HOk P w H h) (e:Rd H a u):ObjOk P w H h a u:=e.ok ok
theorem qR6 {Af:List (Key × V)} (ok:HOk P w H h) (e:Rd H a (.dK Af)):Af.length<=sizeLine/\(a == sysModules)=false/\∃ vs,KV Af vs/\h.DictOf (qBF P w) a vs:=
 show ObjOk P w H h a (.dK Af) from qZK ok e
theorem qYK {Af:List (Key × V)} (ok:HOk P w H h) (e:H a=some (.dK Af)):Af.length<=sizeLine/\(a == sysModules)=false/\∃ vs,KV Af vs/\h.DictOf (qBF P w) a vs:=qR6 ok (.inl e)
theorem qK8 {ks:List Key} (ok:HOk P w H h) (e:H a=some (.tup (ks.map kV))):(tupleKind (qBF P w)).is h ks a:=by
 obtain ⟨_,its,r,o,h1,h2,n,h3⟩:=(show ObjOk P w H h a (.tup (ks.map kV)) from ok a _ e);exact ⟨o,its.toArray,n,h1,h2,h3,by simpa using qMW r⟩
theorem qR5 {Af:List (List Key × V)} (ok:HOk P w H h) (e:Rd H a (.dT Af)):Af.length<=sizeLine/\(a == sysModules)=false/\
  ∃ xs,KT H Af xs/\h.DictOfH (tupleKind (qBF P w)) a xs:=by
 obtain ⟨z,y,xs,r,o,es,ep,h1,h2,h3,h4,h5⟩:=(show ObjOk P w H h a (.dT Af) from qZK ok e);refine ⟨z,y,xs,r,o,es,ep,h1,h2,h3,h4,fun x hx=>?_,h5⟩;have all:∀ {l:List (List Key × V)} {m:List (List Key × Addr × Value)},KT H l m->∀ x ∈ m,(tupleKind (qBF P w)).is h x.1 x.2.1:=by
  intro l m q
  induction q with
  | nil=>intro x hx;exact nomatch hx
  | @cons p q ps qs hq t ih=>
   intro x hx;rcases B6.mp hx with e | hx
   ·subst e;exact qK8 ok (by rw [<- hq.1];exact hq.2.1)
   ·exact ih x hx
 exact all r x hx
theorem qaH {Af:List (List Key × V)} (ok:HOk P w H h) (e:H a=some (.dT Af)):Af.length<=sizeLine/\(a == sysModules)=false/\
  ∃ xs,KT H Af xs/\h.DictOfH (tupleKind (qBF P w)) a xs:=qR5 ok (.inl e)
end
def DGet (H:Hp) (a:Addr) (y:V) (r:Option V):Prop:=
 (∃ Af k,Rd H a (.dK Af)/\y=kV k/\r=valV Af k)\/∃ Af k b,Rd H a (.dT Af)/\y=.ref b/\H b=some (.tup (k.map kV))/\r=valV Af k
def DPut (H:Hp) (a:Addr) (y v:V) (H':Hp):Prop:=
 (∃ Af k,H a=some (.dK Af)/\y=kV k/\Af.length<sizeLine/\H'=upd H a (.dK (putK Af k v)))\/
 ∃ Af k b,H a=some (.dT Af)/\y=.ref b/\H b=some (.tup (k.map kV))/\Af.length<sizeLine/\H'=upd H a (.dT (putK Af k v))
theorem DGet.k {H:Hp} {a:Addr} {Af:List (Key × V)} {k:Key} (e:H a=some (.dK Af)):DGet H a (kV k) (valV Af k):=.inl ⟨Af,k,.inl e,rfl,rfl⟩
theorem DPut.k {H:Hp} {a:Addr} {Af:List (Key × V)} {k:Key} {v:V} (e:H a=some (.dK Af)) (hl:Af.length<sizeLine):DPut H a (kV k) v (upd H a (.dK (putK Af k v))):=.inl ⟨Af,k,e,rfl,hl,rfl⟩
theorem DPut.t {H:Hp} {a b:Addr} {Af:List (List Key × V)} {k:List Key} {v:V} (e:H a=some (.dT Af)) (eb:H b=some (.tup (k.map kV))) (hl:Af.length<sizeLine) :
  DPut H a (.ref b) v (upd H a (.dT (putK Af k v))):=.inr ⟨Af,k,b,e,rfl,eb,hl,rfl⟩
section
variable {X:Cx} {Ab:List (Addr × Obj)} {σ:St} {H:Hp} {s:Shared} {a:Addr} {y v:V} {u r:Value} {o:Option V} {A:Around} {E:Value->Shared->Prop}
theorem Inv.big (I:Inv X Ab σ H s):sysModules<s.heap.objs.size:=by
 have h:mainGlobals<s.heap.objs.size:=(I.mod.glob.keeps I.bk).lt;exact i7 (by decide) h
theorem qU3 {Q:Value->Shared->Prop} (hu:A.units+1<cLine) (I:Inv X Ab σ H s) (g:DGet H a y (some v)) (ry:RelV y u) (h:∀ w' s',Inv X Ab σ H s'->RelV v w'->Q w' s') :
  wpAny (model X.prog X.w) A (getItem (.ref a) u) Q E s:=by
 rcases g with ⟨Af,k,e,ey,l⟩ | ⟨Af,k,b,e,ey,eb,l⟩
 ·subst ey;obtain ⟨z,hd,vs,rel,dd⟩:=qR6 I.hok e;obtain ⟨w',hw,rw'⟩:=RelO.some_of (v:=v) (o:=valueAt vs k) (by rw [l];exact rel.val k)
  exact wpAny_getItem_of (qQX ry) dd.mapOf hw (h w' _ (I.tok _) rw')
 ·subst ey;cases (show u=C8 b from ry);obtain ⟨z,hd,xs,rel,dd⟩:=qR5 I.hok e;obtain ⟨w',hw,rw'⟩:=RelO.some_of (v:=v) (o:=(atKey xs k).map (·.2)) (by rw [l];exact rel.val k)
  obtain ⟨p,hp,hp2⟩:=p7.mp hw;refine wpAny_getItem_heap (tupleKind_room_in1 hu) (qK8 I.hok eb) dd hp ?_;rw [hp2];exact h w' _ (I.tok _) rw'
theorem d_in {Q:Value->Shared->Prop} (hu:A.units+1<cLine) (I:Inv X Ab σ H s) (g:DGet H a y o) (ry:RelV y u) (h:∀ s',Inv X Ab σ H s'->Q (.bool o.isSome) s') :
  wpAny (model X.prog X.w) A (compareOp .In u (.ref a)) Q E s:=by
 rcases g with ⟨Af,k,e,ey,l⟩ | ⟨Af,k,b,e,ey,eb,l⟩
 ·subst ey;obtain ⟨z,hd,vs,rel,dd⟩:=qR6 I.hok e;refine wpAny_in_of (qQX ry) hd dd.mapOf ?_;rw [<- (rel.val k).isSome_eq,<- l];exact h _ (I.tok _)
 ·subst ey;cases (show u=C8 b from ry);obtain ⟨z,hd,xs,rel,dd⟩:=qR5 I.hok e;refine wpAny_in_heap (tupleKind_room_in1 hu) (qK8 I.hok eb) hd dd ?_;have q:=(rel.val k).isSome_eq;rw [k9] at q;rw [<- q,<- l];exact h _ (I.tok _)
theorem qLH {h':Heap} {t':Nat} {ob:HO} (I:Inv X Ab σ H s) (mu:Mut (H a)) (hs:Heap.SameBut a s.heap h') (he:∃ q,h'.get? a=some q) (new:ObjOk X.prog X.w (upd H a ob) h' a ob) :
  Inv X Ab σ (upd H a ob) { s with heap:=h',toks:=t' }:=
 I.write (x:=a) (e:=a) mu (.inl rfl) (fun b q hb z=>(hs.2 b hb).trans z) he new
theorem qX4 {P:Program} {w:World} {H':Hp} {h':Heap} {Af:List (Key × V)} {vs:List (Key × Value)} (z:Af.length<=sizeLine) (hd:(a == sysModules)=false) (rel:KV Af vs) (dd:h'.DictOf (qBF P w) a vs) :
  ObjOk P w H' h' a (.dK Af):=⟨z,hd,vs,rel,dd⟩
theorem qU2 {H':Hp} {Q:Unit->Shared->Prop} (hu:A.units+1<cLine) (I:Inv X Ab σ H s) (g:DPut H a y v H') (ry:RelV y u) (rv:RelV v r) (h:∀ s',Inv X Ab σ H' s'->Q () s') :
  wpAny (model X.prog X.w) A (setItem (.ref a) u r) Q E s:=by
 rcases g with ⟨Af,k,e,ey,l,eH⟩ | ⟨Af,k,b,e,ey,eb,l,eH⟩
 ·subst ey eH;obtain ⟨z,hd,vs,rel,dd⟩:=qYK I.hok e;have hz:vs.length<=sizeLine:=by rw [<- rel.length];exact z
  have hl:(putK Af k v).length<=sizeLine:=by have:=qCN Af k v;omega
  refine wpAny_setItem_pairs (hsz:=hz) (qQX ry) dd fun h' dd' hs=>h _ ?_;have he:∃ q,h'.get? a=some q:=let ⟨q,_,_,hq,_⟩:=dd';⟨q,hq⟩
  exact qLH I (by rw [e];exact U2) hs he (qX4 hl hd (rel.put k rv) dd')
 ·subst ey eH;cases (show u=C8 b from ry);obtain ⟨z,hd,xs,rel,dd⟩:=qaH I.hok e;have hz:xs.length<=sizeLine:=by rw [<- C7 rel];exact z
  have hl:(putK Af k v).length<=sizeLine:=by have:=qCN Af k v;omega
  refine wpAny_setItem_heap (hsz:=hz) (tupleKind_room_in1 hu) (qK8 I.hok eb) dd fun h' dd' hs=>h _ ?_;obtain ⟨q,es,ep,hq,h2,h3,h4,_,h5⟩:=dd';refine qLH I (by rw [e];exact U2) hs ⟨q,hq⟩ ⟨hl,hd,_,(rel.put k eb rv).keeps fun c ys ec=>?_,q,es,ep,hq,h2,h3,h4,h5⟩
  rw [qA8 (qBS ec e (fun z=>nomatch z))];exact ec
end
section
variable {X:Cx} {Ab:List (Addr × Obj)} {σ:St} {H:Hp} {s:Shared} {a:Addr} {Af:List (Key × V)} {k:Key} {u:Value} {A:Around} {E:Value->Shared->Prop}
end
def NoSl (i:Expr):Prop:=∀ ov iv,subscripted i false ov iv=operate [ov,iv] (getItem ov iv)
theorem qXG {prog:Program} {w:World} {A:Around} {E:Value->Shared->Prop} {s:Shared} {env:Env} {value slice:Expr} {pos:Pos} {T id:String} {Q:Value->Shared->Prop}
  (hl:typeLookup (.type T) "__getitem__" = pure (some (.builtin id))) (hs:NoSl slice)
  (h:wpAny (model prog w) A (eval value env) (fun o s₁=>wpAny (model prog w) A (eval slice env) (fun i s₂=>s₂.TypeIs o T/\wpAny (model prog w) A (getItem o i) Q E s₂) E s₁) E s) :
  wpAny (model prog w) A (eval (.Subscript value slice pos) env) Q E s:=by
 refine Subscript_ (wpAny_mono h (fun o s₁ h₁=>wpAny_mono h₁ (fun i s₂ h₂=>?_) fun _ _ x=>x) fun _ _ x=>x);obtain ⟨hT,h₂⟩:=h₂;unfold subscriptTail;refine wpAny_bind ?_;rw [getitemInPython_of_ne hT.not_modules];refine wpAny_bind (wpAny_specialOf hT hl ?_);have fin:wpAny (model prog w) A (subscripted slice false o i) (fun r s₃=>wpAny (model prog w) A (letTemporaryGo value o r >>= fun _=>pure r) Q E s₃) E s₂:=by
  rw [hs o i];exact wpAny_operating (wpAny_mono h₂ (fun r s₃ h₃=>wpAny_bind (wpAny_letTemporaryGo (wpAny_pure h₃))) fun _ _ x=>x)
 first
  | exact wpAny_pure (wpAny_bind fin)
  | exact wpAny_bind (wpAny_pure (wpAny_bind fin))
  | exact wpAny_bind fin
theorem qOL {X:Cx} {Ab:List (Addr × Obj)} {σ:St} {H:Hp} {s:Shared} {a:Addr} {y:V} {o:Option V} (I:Inv X Ab σ H s) (g:DGet H a y o):s.TypeIs (.ref a) "dict":=by
 rcases g with ⟨Af,k,e,_,_⟩ | ⟨Af,k,b,e,_,_,_⟩
 ·obtain ⟨_,_,vs,_,dd⟩:=qR6 I.hok e;exact dd.typeIs
 ·obtain ⟨_,_,xs,_,dd⟩:=qR5 I.hok e;exact dd.typeIs
def qaZ (td ty:TE):TE:=fun σ H Q=>td σ H fun x H1=>ty σ H1 fun y H2=>∃ a v,x=.ref a/\DGet H2 a y (some v)/\Q v H2
def tDIn (ty td:TE):TE:=fun σ H Q=>ty σ H fun y H1=>td σ H1 fun x H2=>∃ a o,x=.ref a/\DGet H2 a y o/\Q (.bl o.isSome) H2
def qb4 (td ty tv:TE):TS:=fun D σ H=>tv σ H fun v H1=>td σ H1 fun x H2=>ty σ H2 fun y H3=>∃ a H4,x=.ref a/\DPut H3 a y v H4/\D.nx σ H4
section
variable {X:Cx} {o i e value:Expr} {pos pos' tpos:Pos} {td ty tv:TE}
theorem qD1 (hu:X.A.units+1<cLine) (ho:PE X o td) (hi:PE X i ty) (hs:NoSl i):PE X (.Subscript o i pos) (qaZ td ty):=by
 intro Ab s σ H Q I h;refine qXG PySem.F.slot_dict_getitem.lookup hs (thn (ho Ab s σ H _ I h) fun u s1 ⟨x,H1,I1,rx,q1⟩=>thn (hi Ab s1 σ H1 _ I1 q1) fun iv s2 ⟨y,H2,I2,ry,a,v,ex,g,q2⟩=>?_);subst ex;obtain rfl:u=C8 a:=rx;exact ⟨qOL I2 g,qU3 hu I2 g ry fun w' s3 I3 rw'=>⟨v,H2,I3,rw',q2⟩⟩
theorem qSJ (hu:X.A.units+1<cLine) (hi:PE X i ty) (ho:PE X o td):PC X .In i o (tDIn ty td):=by
 intro Ab s σ H Q I h;refine thn (hi Ab s σ H _ I h) fun iv s1 ⟨y,H1,I1,ry,q1⟩=>thn (ho Ab s1 σ H1 _ I1 q1) fun u s2 ⟨x,H2,I2,rx,a,ov,ex,g,q2⟩=>?_;subst ex;obtain rfl:u=C8 a:=rx;exact d_in hu I2 g ry fun s3 I3=>⟨.bl ov.isSome,H2,I3,rfl,q2⟩
theorem qE9 (hu:X.A.units+1<cLine) (ho:PE X o td) (hi:PE X i ty) (hv:PE X value tv) (hs:swapsWith value (some (.Subscript o i pos')) pos.line X.env=pure false) :
  PS X (.Assign [.Subscript o i pos'] value pos) (qb4 td ty tv):=by
 intro Ab s σ H D I h;refine wpAny_Assign_Subscript (thn (hv Ab s σ H _ I h) fun r s1 ⟨v,H1,I1,rv,q1⟩=>thn (ho Ab s1 σ H1 _ I1 q1) fun u s2 ⟨x,H2,I2,rx,q2⟩=>thn (hi Ab s2 σ H2 _ I2 q2) fun iv s3 ⟨y,H3,I3,ry,a,H4,ex,g,q3⟩=>?_) hs;subst ex;obtain rfl:u=C8 a:=rx;exact qU2 hu I3 g ry rv fun s4 I4=>⟨σ,H4,I4,q3⟩
end
theorem qQ3 {P:Program} {w:World} {H:Hp} (h:Heap) (hb:sysModules<h.objs.size):ObjOk P w H (h.push { cls:=.type "dict",data:=.dict #[] }) h.objs.size (.dK []):=
 ⟨D3 _,beq_eq_false_iff_ne.mpr (G3 (D4 hb)),[],.nil,Heap.DictOf.new h⟩
theorem qQ1 {P:Program} {w:World} {H:Hp} (h:Heap) (hb:sysModules<h.objs.size):ObjOk P w H (h.push { cls:=.type "dict",data:=.dict #[] }) h.objs.size (.dT []):=
 ⟨D3 _,beq_eq_false_iff_ne.mpr (G3 (D4 hb)),[],.nil,_,#[],0,B5 _ rfl,⟨rfl,rfl,rfl⟩,rfl,rfl,y4⟩
def qZ5:TE:=fun _ H Q=>∀ p,H p=none->Q (.ref p) (upd H p (.dK []))
def qZ4:TE:=fun _ H Q=>∀ p,H p=none->Q (.ref p) (upd H p (.dT []))
section
variable {X:Cx} {pos:Pos}
theorem qFI:PE X (.Dict [] [] pos) qZ5:=fun Ab s σ H Q I h=>
 wpAny_Dict_empty ⟨.ref s.heap.objs.size,_,I.laid (a:=s.heap.objs.size) (o:=.dK []) (t':=s.toks) (fun _ _ q=>A2 _ q) (B0 _) (qQ3 s.heap I.big),rfl,h _ (I.hok.fresh (B0 _))⟩
theorem qVD:PE X (.Dict [] [] pos) qZ4:=fun Ab s σ H Q I h=>
 wpAny_Dict_empty ⟨.ref s.heap.objs.size,_,I.laid (a:=s.heap.objs.size) (o:=.dT []) (t':=s.toks) (fun _ _ q=>A2 _ q) (B0 _) (qQ1 s.heap I.big),rfl,h _ (I.hok.fresh (B0 _))⟩
end
def qRP:List (TE × TE)->St->Hp->(List (V × V)->Hp->Prop)->Prop
 | [],_,H,Q=>Q [] H
 | (tk,tv)::r,σ,H,Q=>tk σ H fun x H1=>tv σ H1 fun y H2=>qRP r σ H2 fun ps H3=>Q ((x,y)::ps) H3
abbrev VV:List (V × V)->List (Value × Value)->Prop:=Paired fun p q=>RelV p.1 q.1/\RelV p.2 q.2
def PPs (X:Cx) (pos:Pos) (keys:List (Option Expr)) (values:List Expr) (trs:List (TE × TE)):Prop:=
 ∀ (Ab:List (Addr × Obj)) (s:Shared) (σ:St) (H:Hp) (Q:List (V × V)->Hp->Prop),Inv X Ab σ H s->qRP trs σ H Q->
  wpAny (model X.prog X.w) X.A (evalPairs (pairTrees keys values X.env pos)) (fun vs s'=>∃ ps H',Inv X Ab σ H' s'/\VV ps vs/\Q ps H') X.xe s
theorem qXR {X:Cx} {pos:Pos}:PPs X pos [] [] []:=fun Ab s σ H Q I h=>pairTrees_nil_walk ⟨[],H,I,.nil,h⟩
theorem qPE {X:Cx} {pos:Pos} {k v:Expr} {ks:List (Option Expr)} {vs:List Expr} {tk tv:TE} {trs:List (TE × TE)} (hk:PE X k tk) (hv:PE X v tv) (hr:PPs X pos ks vs trs) :
  PPs X pos (some k::ks) (v::vs) ((tk,tv)::trs):=fun Ab s σ H Q I h=>
 pairTrees_cons_walk (thn (hk Ab s σ H _ I h) fun u s1 ⟨x,H1,I1,rx,q1⟩=>thn (hv Ab s1 σ H1 _ I1 q1) fun w2 s2 ⟨y,H2,I2,ry,q2⟩=>
  thn (hr Ab s2 σ H2 _ I2 q2) fun ws s3 ⟨ps,H3,I3,rel,q3⟩=>⟨(x,y)::ps,H3,I3,.cons ⟨rx,ry⟩ rel,q3⟩)
def qIY (Af more:List (Key × V)):List (Key × V):=more.foldl (fun acc kv=>putK acc kv.1 kv.2) Af
theorem KV.merge:∀ {more:List (Key × V)} {rs:List (Key × Value)} {Af:List (Key × V)} {vs:List (Key × Value)},KV more rs->KV Af vs->KV (qIY Af more) (merged vs rs):=by
 intro more rs Af vs r;unfold KV at r
 induction r generalizing Af vs with
 | nil=>intro q;exact q
 | @cons p q ps qs h t ih=>
  intro r0;have e:KV (putK Af p.1 p.2) (stored vs q.1 q.2):=by
   have:=r0.put p.1 h.2;rw [<- h.1];exact this
  exact ih e
theorem qGB:∀ (more Af:List (Key × V)),(qIY Af more).length<=Af.length+more.length
 | [],Af=>by show Af.length<=Af.length+0;omega
 | p::r,Af=>by
  have h1:=qGB r (putK Af p.1 p.2);have h2:=qCN Af p.1 p.2;show (qIY (putK Af p.1 p.2) r).length<=_;rw [E3];omega
theorem qKF {P:Program} {w:World}:∀ {Af:List (Key × V)} {ws:List (Value × Value)},VV (Af.map fun kv=>(kV kv.1,kv.2)) ws->∃ rs,Carries (qBF P w) ws rs/\KV Af rs
 | [],_,r=>by rw [t0] at r;cases r;exact ⟨[],U2,.nil⟩
 | p::Af,_,r=>by
  rw [B9] at r;cases r with
  | @cons a b as bs h t=>
   obtain ⟨rs,c,q⟩:=qKF (P:=P) (w:=w) t;obtain ⟨b1,b2⟩:=b;exact ⟨(p.1,b2)::rs,⟨qQX h.1,rfl,c⟩,.cons ⟨rfl,h.2⟩ q⟩
def qaY (trs:List (TE × TE)):TE:=fun σ H Q=>∀ p,H p=none->qRP trs σ (upd H p (.dK [])) fun ps H2=>H2 p=some (.dK [])/\∃ Af:List (Key × V),ps=Af.map (fun kv=>(kV kv.1,kv.2))/\Af.length<=15/\Q (.ref p) (upd H2 p (.dK (qIY [] Af)))
theorem qXU {X:Cx} {pos:Pos} {keys:List (Option Expr)} {values:List Expr} {trs:List (TE × TE)} (h:PPs X pos keys values trs) (hall:keys.all (·.isSome)=true) (hl:keys.length=values.length) (h0:keys ≠ [])
  (h15:keys.length<=15):PE X (.Dict keys values pos) (qaY trs):=by
 intro Ab s σ H Q I q;have hn:=I.hok.fresh (B0 s.heap.objs.size);have I1:=I.laid (a:=s.heap.objs.size) (o:=.dK []) (h':=s.heap.push { cls:=.type "dict",data:=.dict #[] }) (t':=s.toks) (fun _ _ q=>A2 _ q) (B0 _) (qQ3 s.heap I.big);refine wpAny_Dict_walk (knd:=qBF X.prog X.w) hall hl h0 h15 (thn (h Ab _ σ _ _ I1 (q _ hn)) fun ws s2 ⟨ps,H2,I2,rel,e,Af,ep,lk,q2⟩=>?_);subst ep;obtain ⟨rs,c,rk⟩:=qKF (P:=X.prog) (w:=X.w) rel;obtain ⟨z,hd,vs0,r0,dd⟩:=qYK I2.hok e;cases r0;refine ⟨rs,c,dd,fun h' dd' hs=>⟨.ref s.heap.objs.size,_,?_,rfl,q2⟩⟩;have hz:(qIY [] Af).length<=sizeLine:=by
  have h1:=qGB Af [];rw [Y0] at h1;rw [sizeLine_eq];omega
 have he:∃ q,h'.get? s.heap.objs.size=some q:=let ⟨q,_,_,hq,_⟩:=dd';⟨q,hq⟩
 exact qLH I2 (by rw [e];exact U2) hs he (qX4 hz hd (rk.merge .nil) dd')
structure M1 (X:Cx) (o:Expr) (m:Str) (apos:Pos) (e:Expr) (cpos:Pos):Prop where
 base:attributeBase o m X.env (eval o X.env)=eval o X.env
 few:((backTo cpos (starEach [e] X.env)).all (fun x=>!x.1) && (backToKw cpos (keywordEach [] X.env)).all (fun x=>x.1.isSome)
  && decide (([e]:List Expr).length+([]:List Keyword).length+(if ([]:List Keyword).isEmpty then 0 else 1)<30))=true
 line:(apos.endLine == cpos.line)=true
 trees:backTo cpos (starEach [e] X.env)=[(false,eval e X.env)]
structure M2 (X:Cx) (o:Expr) (m:Str) (apos:Pos) (e f:Expr) (cpos:Pos):Prop where
 base:attributeBase o m X.env (eval o X.env)=eval o X.env
 few:((backTo cpos (starEach [e,f] X.env)).all (fun x=>!x.1) && (backToKw cpos (keywordEach [] X.env)).all (fun x=>x.1.isSome)
  && decide (([e,f]:List Expr).length+([]:List Keyword).length+(if ([]:List Keyword).isEmpty then 0 else 1)<30))=true
 line:(apos.endLine == cpos.line)=true
 trees:backTo cpos (starEach [e,f] X.env)=[(false,eval e X.env),(false,eval f X.env)]
def IsD (H:Hp) (a:Addr):Prop:=(∃ Af,Rd H a (.dK Af))\/∃ Af,Rd H a (.dT Af)
theorem qaB {X:Cx} {Ab:List (Addr × Obj)} {σ:St} {H:Hp} {s:Shared} {a:Addr} (I:Inv X Ab σ H s) (d:IsD H a) :
  s.TypeIs (.ref a) "dict"/\(∀ b,C8 a=.ref b->∃ ob,s.heap.get? b=some ob/\ob.dict=none)/\(a == sysModules)=false:=by
 rcases d with ⟨Af,e⟩ | ⟨Af,e⟩
 ·obtain ⟨_,hd,vs,_,dd⟩:=qR6 I.hok e;refine ⟨dd.typeIs,fun b q=>?_,hd⟩;cases q;obtain ⟨ob,_,_,h1,h2,_⟩:=dd;exact ⟨ob,h1,h2.2.1⟩
 ·obtain ⟨_,hd,xs,_,dd⟩:=qR5 I.hok e;refine ⟨dd.typeIs,fun b q=>?_,hd⟩;cases q;obtain ⟨ob,_,_,h1,h2,_⟩:=dd;exact ⟨ob,h1,h2.2.1⟩
section
variable {X:Cx} {Ab:List (Addr × Obj)} {σ:St} {H:Hp} {s:Shared} {a:Addr} {y d:V} {u r:Value} {o:Option V} {A:Around} {E:Value->Shared->Prop}
theorem qaI {Q:Value->Shared->Prop} (hu:A.units+1<cLine) (I:Inv X Ab σ H s) (g:DGet H a y o) (ry:RelV y u) (rd:RelV d r) (h:∀ w' s',Inv X Ab σ H s'->RelV (o.getD d) w'->Q w' s') :
  wpAny (model X.prog X.w) A (call (.builtin "dict.get") [.ref a,u,r]) Q E s:=by
 rcases g with ⟨Af,k,e,ey,l⟩ | ⟨Af,k,b,e,ey,eb,l⟩
 ·subst ey;obtain ⟨z,hd,vs,rel,dd⟩:=qR6 I.hok e;refine call_meetsIn Z8 dd.typeIs p8 (n6 _ _ _) (meets_dict_get_default (qBF X.prog X.w) a (qQX ry) hd r) ⟨_,dd.mapOf,h _ _ (I.tok _) ?_⟩;rw [l];exact (rel.val k).getD rd
 ·subst ey;cases (show u=C8 b from ry);obtain ⟨z,hd,xs,rel,dd⟩:=qR5 I.hok e;refine call_meetsIn Z8 dd.typeIs p8 (n6 _ _ _) (meetsH_dict_get_default (tupleKind (qBF X.prog X.w)) a b hd r) ⟨tupleKind_room_in1 hu,k,xs,qK8 I.hok eb,dd,h _ _ (I.tok _) ?_⟩;rw [l];exact (rel.val k).getD rd
end
def qZ6 (td ty tx:TE):TE:=fun σ H Q=>td σ H fun x H1=>∃ a,x=.ref a/\IsD H1 a/\ty σ H1 fun y H2=>tx σ H2 fun z H3=>∃ o,DGet H3 a y o/\Q (o.getD z) H3
section
variable {X:Cx} {o e f:Expr} {apos cpos:Pos} {td ty tx:TE}
theorem qVE (hu:X.A.units+1<cLine) (ho:PE X o td) (he:PE X e ty) (hf:PE X f tx) (m:M2 X o "get" apos e f cpos):PE X (.Call (.Attribute o "get" apos) [e,f] [] cpos) (qZ6 td ty tx):=by
 intro Ab s σ H Q I h;refine wpAny_Call_method m.base m.few m.line PySem.F.plainAttrs_dict Z8 PySem.F.type_dict_get (thn (ho Ab s σ H _ I h) fun u s1 ⟨x,H1,I1,rx,a,ex,d,q1⟩=>?_);subst ex;obtain rfl:u=C8 a:=rx;obtain ⟨t1,t2,_⟩:=qaB I1 d;refine ⟨t1,t2,?_⟩;rw [m.trees];refine Y9 rfl (x6 (i5 (thn (he Ab s1 σ H1 _ I1 q1) fun iv s2 ⟨y,H2,I2,ry,q2⟩=>
  i5 (thn (hf Ab s2 σ H2 _ I2 q2) fun fv s3 ⟨z,H3,I3,rz,ov,g,q3⟩=>A22 ?_))))
 exact qaI hu I3 g ry rz fun w' s4 I4 rw'=>⟨_,H3,I4,rw',q3⟩
end
section
variable {X:Cx} {Ab:List (Addr × Obj)} {σ:St} {H:Hp} {s:Shared} {a:Addr} {Af:List (Key × V)} {A:Around} {E:Value->Shared->Prop}
end
section
variable {X:Cx} {Ab:List (Addr × Obj)} {σ:St} {H:Hp} {s:Shared} {a:Addr} {y:V} {u:Value} {A:Around} {E:Value->Shared->Prop}
end
end L2
namespace L2
open PySem PySem.Spec PyProof.Rows
section
variable {X:Cx}
end
section
variable {κ:Type} [DecidableEq κ]
theorem qL3:∀ {l:List κ} {k:κ},l.Nodup->¬ k ∈ l->(l++[k]).Nodup
 | [],k,_,_=>by simp
 | a::r,k,h,hk=>by
  obtain ⟨h1,h2⟩:=G7.mp h;show (a::(r++[k])).Nodup;refine G7.mpr ⟨fun m=>?_,qL3 h2 fun m=>hk (B6.mpr (b9 m))⟩;rcases D6.mp m with q | q
  ·exact h1 q
  ·exact hk (B6.mpr (D0 (A3.mp q).symm))
end
end L2
namespace L2
open PySem PySem.Spec PyProof.Rows
def noX:Value->Shared->Prop:=fun _ _=>False
def qGS (env:Env):List (Str × NameKind)->List (Str × Addr)->List (Str × Addr)
 | [],acc=>acc
 | (n,k)::r,acc=>qGS env r (if (k == J9)=true then (n,(env.cells.lookup n).getD 0)::acc else acc)
theorem qF5 {env:Env}:∀ {names:List (Str × NameKind)} {acc:List (Str × Addr)},(∀ x,(x,J9) ∈ names->∃ c,env.cells.lookup x=some c)->(∀ x c,acc.lookup x=some c->env.cells.lookup x=some c)->
  ∀ x c,(qGS env names acc).lookup x=some c->env.cells.lookup x=some c
 | [],acc,_,ha,x,c,h=>ha x c h
 | (n,k)::r,acc,hf,ha,x,c,h=>by
  refine qF5 (names:=r) (fun y hy=>hf y (A5 _ hy)) (fun y d hd=>?_) x c h
  split at hd
  ·rename_i hk
   have hk':k=J9:=by simpa using hk
   subst hk';obtain ⟨e,he⟩:=hf n A6;by_cases hyn:y=n
   ·subst hyn;rw [P9,he] at hd;rw [he];exact hd
   ·rw [X3,beq_eq_false_iff_ne.mpr hyn] at hd;exact ha y d hd
  ·exact ha y d hd
theorem qF6 {env:Env}:∀ {names:List (Str × NameKind)} {acc:List (Str × Addr)} {x:Str},((x,J9) ∈ names\/∃ c,acc.lookup x=some c)->∃ c,(qGS env names acc).lookup x=some c
 | [],acc,x,h=>by
  rcases h with h | h
  ·exact absurd h (by simp)
  ·exact h
 | (n,k)::r,acc,x,h=>by
  refine qF6 (names:=r) ?_;rcases h with h | ⟨c,h⟩
  ·rcases B6.mp h with e | h
   ·cases e;refine .inr ⟨(env.cells.lookup n).getD 0,?_⟩;rw [if_pos (by rfl),P9]
   ·exact .inl h
  ·refine .inr ?_
   split
   ·by_cases hyn:x=n
    ·subst hyn;exact ⟨_,P9⟩
    ·refine ⟨c,?_⟩;rw [X3,beq_eq_false_iff_ne.mpr hyn];exact h
   ·exact ⟨c,h⟩
theorem qJA {env:Env} (f:Str × NameKind->List (Str × Addr)->Sem (ForInStep (List (Str × Addr))))
  (hf:∀ n k c,f (n,k) c=(if (k == J9)=true then (do let a <- cellOf env n;pure (O1 ((n,a)::c))) else pure (O1 c))) :
  ∀ (names:List (Str × NameKind)) (acc:List (Str × Addr)),(∀ x,(x,J9) ∈ names->∃ c,env.cells.lookup x=some c)->forIn names acc f=(pure (qGS env names acc):Sem _)
 | [],acc,_=>rfl
 | (n,k)::r,acc,h=>by
  have ih:=fun acc=>qJA f hf r acc fun x hx=>h x (A5 _ hx);rw [Q0,hf];by_cases hk:(k == J9)=true
  ·have hk':k=J9:=by simpa using hk
   subst hk';obtain ⟨c,hc⟩:=h n A6;rw [if_pos hk];unfold cellOf qGS;rw [hc,if_pos hk];exact ih _
  ·rw [if_neg hk];unfold qGS;rw [if_neg hk];exact ih _
theorem qH8 {scope:Scope} {env:Env} (h:∀ x,(x,J9) ∈ scope.names->∃ c,env.cells.lookup x=some c):closureFor scope env=pure (qGS env scope.names []):=by
 unfold closureFor;dsimp only;rw [qJA (env:=env) _ (fun n k c=>?_) scope.names [] h]
 ·rfl
 ·rfl
theorem qDZ {env:Env} {x:Str}:∀ {names:List (Str × NameKind)},
  (names.map fun (n,k)=>if (k == J9 && env.scope.kind == .function && env.kindOf n == some .cell)=true then (n,A69) else (n,k)).lookup x =
   (names.lookup x).map fun k=>if (k == J9 && env.scope.kind == .function && env.kindOf x == some .cell)=true then A69 else k
 | []=>rfl
 | (n,k)::r=>by
  have ih:=@qDZ env x r;rw [B9];by_cases hx:x=n
  ·subst hx;dsimp only;rw [P9 (b:=k),P8]
   split
   ·rw [P9]
   ·rw [P9]
  ·have hb:(x == n)=false:=beq_eq_false_iff_ne.mpr hx;dsimp only;rw [X3 (k:=n) (b:=k),hb];dsimp only;rw [<- ih]
   split
   ·rw [X3,hb]
   ·rw [X3,hb]
structure LcZ where
 L:Addr
 cl:List (Str × Addr)
 ex:List Addr
 s₀:Shared
 H₀:Hp
def lcCx (X:Cx) (scope:Scope) (own:List Str) (fv:List Nat) (z:LcZ):Cx where
 prog:=X.prog
 w:=X.w
 K:=X.K
 mg:=X.mg
 base:=X.base
 A:=X.A
 N:=own++fv.map fun i=>X.N.getD i Q3
 s₀:=z.s₀
 H₀:=z.H₀
 env:=compEnvC scope z.cl z.L X.env
 outer:=X.stack
 stack:=X.stack
 ex:=z.ex
 fn:=fun _=>false
 calm:=X.calm
 pn:=[]
 xe:=noX
structure LcScope (X:Cx) (scope:Scope) (own:List Str) (fv:List Nat):Prop where
 kind:scope.kind=.function
 nocell:∀ y ∈ scope.names,y.2 ≠ .cell
 names:∀ y ∈ scope.names,y.2=.local->scope.names.lookup y.1=some .local
 free:∀ y ∈ scope.names,y.2=.free->X.env.kindOf y.1=some .cell\/X.env.kindOf y.1=some .free
 nd:(own++fv.map fun i=>X.N.getD i Q3).Nodup
 fvs:∀ i ∈ fv,i<X.N.length/\scope.names.lookup (X.N.getD i Q3)=some .free
def qJ0 (own:List Str) (fv:List Nat) (σ:St):St:=(own.map fun _=>none)++fv.map fun i=>(σ[i]?).join
theorem qNB {prog:Program} {w:World} {A:Around} {R:Result->Shared->Prop} {s:Shared} {elt target iter:Expr} {ifs:List Expr} {scope:Scope} {pos:Pos} {it acc:Value} {env:Env} (I:Nat->Shared->Prop)
  (turn:∀ n s,I n s->wpAny (model prog w) A (pyNext it) (fun r s₁=>match r with
   | none=>R (.ok .next) s₁
   | some v=>wpAny (model prog w) A (letOwnedTupleGo target it v) (fun _ s₁=>wpAny (model prog w) A (assign target env v) (fun _ s₂=>
     wpAny (model prog w) A (forIn ifs true fun c r=>if r=true then do let ok <- isTrue c env (eval c env);pure (O1 ok) else pure (O1 r)) (fun ok s₃=>
      if ok=true then wpAny (model prog w) A (eval elt env) (fun x s₄=>
       wpAny (model prog w) A (call (.builtin "list.append") [acc,x]) (fun _ s₅=>∃ m,m<n/\I m s₅) noX s₄) noX s₃
      else ∃ m,m<n/\I m s₃) noX s₂) noX s₁) noX s₁) noX s)
  (n:Nat) (h:I n s) :
  codeAny (model prog w) A (.compLoop (.ListComp elt [⟨target,iter,ifs,0⟩] scope pos) 0 it acc env) R s:=by
 refine codeAny_loop rfl I (fun n s hI=>?_) n h;show wpAny _ A ((compTurn (.ListComp elt [⟨target,iter,ifs,0⟩] scope pos) 0 it acc env).onRaise (fun x=>do noteFrame x env;theTreesLotGoes x)) _ _ s
 refine wpAny_noted ?_;rw [compTurn_list];refine wpAny_bind (wpAny_standAt (wpAny_bind (wpAny_mono (turn n s hI) (fun r s₁ h₁=>?_) fun _ _ h'=>h'.elim)));cases r with
 | none=>exact wpAny_pure h₁
 | some v=>
  refine wpAny_bind (wpAny_mono h₁ (fun _ s₁ h₁=>?_) fun _ _ h'=>h'.elim);refine wpAny_bind (wpAny_mono h₁ (fun _ s₂ h₂=>wpAny_bind (wpAny_mono h₂ (fun ok s₃ h₃=>?_) fun _ _ h'=>h'.elim)) fun _ _ h'=>h'.elim);cases ok with
  | false=>exact wpAny_pure ⟨rfl,h₃⟩
  | true=>
   exact wpAny_bind (wpAny_bind (wpAny_mono h₃ (fun x s₄ h₄=>wpAny_bind (wpAny_mono h₄ (fun _ s₅ h₅=>wpAny_pure (wpAny_pure ⟨rfl,h₅⟩)) fun _ _ h'=>h'.elim)) fun _ _ h'=>h'.elim))
section
variable {X:Cx} {Ab:List (Addr × Obj)} {σ:St} {H:Hp} {s:Shared}
theorem Inv.other {h':Heap} {L:Addr} {n:Nat} (I:Inv X Ab σ H s) (hb:X.s₀.heap.objs.size<=L) (h0:H L=none) (h1:L ≠ X.env.locals) (h2:∀ x c,X.env.cells.lookup x=some c->c ≠ L) (h3:∀ p ∈ X.pn++Ab,p.1 ≠ L)
  (k:Heap.SameBut L s.heap h'):Inv X Ab σ H { s with heap:=h' }:=
 I.turned (t':=s.toks) (fun b o hb e=>(k.2 b hb).trans e) h0 h1 (.inr hb) h2 h3
theorem qZY {scope:Scope} {own:List Str} {fv:List Nat} {fp:List Addr} (I:Inv X Ab σ H s) (S:LcScope X scope own fv) (hf:∀ b ∈ fp,FpOk X Ab H b) (hsz:∀ b ∈ fp,b<s.heap.objs.size) :
  (lcCx X scope own fv ⟨s.heap.objs.size,qGS X.env scope.names [],fp,s,H⟩).Ok:=by
 have hfr:∀ x,(x,J9) ∈ scope.names->∃ c,X.env.cells.lookup x=some c:=fun x hx=>I.ok.has x (S.free _ hx rfl);have sub:=qF5 (env:=X.env) (names:=scope.names) (acc:=[]) hfr (fun x c z=>by simp at z)
 refine ⟨I.ok.mod,S.kind,I.ok.glob,I.ok.blt,B0 _,fun x y c h1 h2=>I.ok.inj x y c (sub _ _ h1) (sub _ _ h2),fun x hx=>?_,fun x c hx=>?_,I.ok.hd,I.ok.frames,.inl rfl,fun b hb=>⟨?_,fun x c e=>?_⟩,I.bs,G9 I.ok.bsz I.sz,fun b o e hb=>?_,fun b hb hb'=>?_,I.stack,I.stkFree⟩
 ·refine qF6 (.inl ?_);have hx':(relabel scope X.env).names.lookup x=some .cell\/(relabel scope X.env).names.lookup x=some .free:=hx;unfold relabel at hx';rw [qDZ] at hx';cases e:scope.names.lookup x with
  | none=>rw [e] at hx';simp at hx'
  | some k=>
   have hm:=J8 e;have nc:=S.nocell _ hm;rw [e] at hx';simp only [P8,U5.injEq] at hx';cases k with
   | free=>exact hm
   | cell=>exact absurd rfl nc
   | _=>simp at hx'
 ·cases hx
 ·exact D4 (hsz b hb)
 ·exact (hf b hb).2.2.2.2.1 x c (sub _ _ e)
 ·rcases (hf b hb).2.2.2.1 with z | z
  ·exact I.ok.noex b o e z
  ·exact absurd (D5 (B7 (I.ok.bs b o e).1) z) (Q6 _)
 ·rcases B6.mp (I.stkSub b hb') with z | z
  ·exact (hf b hb).2.1 z
  ·exact (hf b hb).2.2.1 z
theorem qVN {scope:Scope} {own:List Str} {fv:List Nat} {fp:List Addr} {h₁:Heap} {tk:Nat} (I:Inv X Ab σ H s) (S:LcScope X scope own fv) (hf:∀ b ∈ fp,FpOk X Ab H b) (hsz:∀ b ∈ fp,b<s.heap.objs.size)
  (hns:h₁.Ns s.heap.objs.size (fun _=>none)) (hk:∀ b o,s.heap.get? b=some o->h₁.get? b=some o) :
  Inv (lcCx X scope own fv ⟨s.heap.objs.size,qGS X.env scope.names [],fp,s,H⟩) [] (qJ0 own fv σ) H { s with heap:=h₁,toks:=tk }:=by
 have hfr:∀ x,(x,J9) ∈ scope.names->∃ c,X.env.cells.lookup x=some c:=fun x hx=>I.ok.has x (S.free _ hx rfl);have sub:=qF5 (env:=X.env) (names:=scope.names) (acc:=[]) hfr (fun x c z=>by simp at z)
 refine ⟨qZY I S hf hsz,rfl,I.bare,Un.kept hk,⟨_,hns,fun i x v h1 h2 h3=>?_⟩,fun x c e=>?_,I.hok.fresh (B0 _),fun x c e=>I.freeC x c (sub _ _ e),fun p hp=>absurd (show p ∈ ([]:List (Addr × Obj)) from hp) (by simp),I.hok.kept hk,?_⟩
 ·have h1:(own++fv.map fun i=>X.N.getD i Q3)[i]?=some x:=h1;unfold qJ0 at h2;have hi:own.length<=i:=by
   apply b7;intro hi;rw [D8 (by simpa using hi),B1] at h2
   cases e:own[i]? with
   | none=>rw [e] at h2;cases h2
   | some z=>rw [e] at h2;cases h2
  rw [G1 (by simpa using hi),A0,B1] at h2
  rw [G1 hi,B1] at h1;cases e:fv[i - own.length]? with
  | none=>rw [e] at h1;cases h1
  | some j=>
   rw [e] at h1 h2;have hj:=S.fvs j (B4 e);have h1:X.N.getD j Q3=x:=C6 h1;have h2:(σ[j]?).join=some v:=C6 h2;have h2':σ[j]?=some (some v):=by
    cases q:σ[j]? with
    | none=>rw [q] at h2;cases h2
    | some y=>rw [q] at h2;exact congrArg some h2
   have hx:X.N[j]?=some x:=by
    rw [P6] at h1;rw [A1 hj.1] at h1 ⊢;exact congrArg some h1
   have hlk:scope.names.lookup x=some .free:=h1 ▸ hj.2;have hmem:=J8 hlk;obtain ⟨m,hn,hl⟩:=id I.loc;have hkd:=S.free _ hmem rfl;obtain ⟨u,ru,lk⟩:=hl j x v hx h2' (by
    rcases hkd with z | z
    ·exact .inr (.inl z)
    ·exact .inr (.inr z))
   refine ⟨u,ru,?_⟩;rcases lk with ⟨z,_⟩ | ⟨_,c,e1,z⟩
   ·rcases hkd with y | y
    ·have y':X.env.kindOf x=some .cell:=y;rw [z] at y';cases y'
    ·have y':X.env.kindOf x=some .free:=y;rw [z] at y';cases y'
   ·obtain ⟨c',e2⟩:=qF6 (env:=X.env) (names:=scope.names) (acc:=[]) (x:=x) (.inl hmem);have e3:=sub _ _ e2;rw [e1] at e3;cases e3;obtain ⟨o,ho,hd⟩:=z;refine .inr ⟨?_,c,e2,o,hk _ _ ho,hd⟩;show (relabel scope X.env).names.lookup x=some .cell\/(relabel scope X.env).names.lookup x=some .free;unfold relabel;rw [qDZ,hlk,P8]
    split
    ·exact .inl rfl
    ·exact .inr rfl
 ·obtain ⟨v,o,ho,hd⟩:=I.cell x c (sub _ _ e);exact ⟨v,o,hk _ _ ho,hd⟩
 ·unfold qJ0;show _=(own++fv.map fun i=>X.N.getD i Q3).length;rw [A7,A7,A0,A0,A0]
theorem qYA {scope:Scope} {own:List Str} {fv:List Nat} {fp:List Addr} {pins':List (Addr × Obj)} {σ':St} {H':Hp} {s':Shared} {cl:List (Str × Addr)} (I:Inv X Ab σ H s) (hf:∀ b ∈ fp,FpOk X Ab H b)
  (J:Inv (lcCx X scope own fv ⟨s.heap.objs.size,cl,fp,s,H⟩) pins' σ' H' s'):Inv X Ab σ H' s':=
 I.call' (ch:=fp) J.os J.base J.hok J.bare fun b hb=>⟨(hf b hb).2.2.2.1,(hf b hb).2.1,(hf b hb).2.2.2.2.1,(hf b hb).2.2.2.2.2⟩
end
def PTs (X:Cx) (ifs:List Expr) (t:TT):Prop:=
 ∀ (Ab:List (Addr × Obj)) (s:Shared) (σ:St) (H:Hp) (Q:Bool->Hp->Prop),Inv X Ab σ H s->t σ H Q->
  wpAny (model X.prog X.w) X.A (forIn ifs true fun c r=>if r=true then do let ok <- isTrue c X.env (eval c X.env);pure (O1 ok) else pure (O1 r)) (TP X Ab σ Q) X.xe s
def qaQ:TT:=fun _ H Q=>Q true H
theorem qBQ {X:Cx}:PTs X [] qaQ:=fun Ab s σ H Q I h=>wpAny_tests_nil ⟨H,I,h⟩
theorem qIO {X:Cx} {c:Expr} {t:TT} (h:PT X c t):PTs X [c] t:=fun Ab s σ H Q I hq=>wpAny_tests_one (h Ab s σ H Q I hq)
def qZZ (own:List Str) (fv:List Nat) (wi:TI) (g:TG) (tc:TT) (te:TE) (K:Addr->Hp->Prop):St->Hp->Prop:=fun σ H=>wi σ H fun J H1=>∀ p,H1 p=none->
 ∃ W:Nat->Nat->St->Hp->Prop,(∃ m,W 0 m (qJ0 own fv σ) (upd H1 p (.lst [])))/\∀ i m σ H,W i m σ H->
  (J.stop i H/\K p H)\/(J.go i H/\∃ N:St->Hp->Prop,(∀ σ' H',N σ' H'->∃ m',m'<m/\W (i+1) m' σ' H')/\∀ x H',J.yld i H x H'->g x σ H' fun σ2 H2=>tc σ2 H2 fun b H3=>
   if b=true then te σ2 H3 fun y H4=>∃ ys,H4 p=some (.lst ys)/\ys.length<sizeLine/\N σ2 (upd H4 p (.lst (ys++[y])))
   else N σ2 H3)
def tLc (own:List Str) (fv:List Nat) (wi:TI) (g:TG) (tc:TT) (te:TE):TE:=fun σ H Q=>qZZ own fv wi g tc te (fun p H'=>Q (.ref p) H') σ H
section
variable {X:Cx} {tg iter elt:Expr} {ifs:List Expr} {scope:Scope} {pos:Pos} {own:List Str} {fv:List Nat} {wi:TI} {g:TG} {tc:TT} {te:TE}
theorem qSZ {Ab:List (Addr × Obj)} {s:Shared} {σ:St} {H:Hp} {K:Addr->Hp->Prop} {use:Option (Value->Sem Unit)} {Q:Value->Shared->Prop} {E:Value->Shared->Prop} (hc:X.calm=true) (S:LcScope X scope own fv) (hi:PI X tg iter wi)
  (hg:∀ z,PG (lcCx X scope own fv z) tg g) (ht:∀ z,PTs (lcCx X scope own fv z) ifs tc) (he:∀ z,PE (lcCx X scope own fv z) elt te)
  (I:Inv X Ab σ H s) (h:qZZ own fv wi g tc te K σ H) (hxe:∀ e s,X.xe e s->E e s)
  (fin:∀ (p:Addr) (L:Addr) (H':Hp) (s':Shared) (m:Str->Option Value),Inv X Ab σ H' s'->K p H'->s'.heap.Ns L m->X.s₀.heap.objs.size<=L->H' L=none->L ≠ X.env.locals->(∀ x c,X.env.cells.lookup x=some c->c ≠ L)->(∀ q ∈ X.pn++Ab,q.1 ≠ L)->
   compPost (model X.prog X.w) X.A E use Q (.ref p) L (.ok .next) s') (hs:∀ x,foldedSetIterable iter X.env x=pure x:=by intro _;rfl) :
  wpAny (model X.prog X.w) X.A (comprehension (.ListComp elt [⟨tg,iter,ifs,0⟩] scope pos) scope X.env (firstIterPos [⟨tg,iter,ifs,0⟩] pos) (newList []) false (eval iter X.env) use) Q E s:=by
 have hfr:∀ x,(x,J9) ∈ scope.names->∃ c,X.env.cells.lookup x=some c:=fun x hx=>I.ok.has x (S.free _ hx rfl);refine wpAny_comprehension_free rfl hs (qH8 hfr) S.kind S.names (wpAny_mono (hi Ab s σ H _ I h) (fun v s1 h1=>wpAny_mono h1 (fun itv s2 h2=>?_) hxe) hxe);obtain ⟨it,fp,tn,J,H2,e,I2,T,st2,f2,q2⟩:=h2;subst e
 -- the list
 refine wpAny_newObj_type ?_;have fresh2:H2 s2.heap.objs.size=none:=I2.hok.fresh (B0 _);have I3:Inv X Ab σ (upd H2 s2.heap.objs.size (.lst [])) { s2 with heap:=s2.heap.push { cls:=.type "list",dict:=none,data:=.seq ([]:List Value).toArray } }:=
  I2.laid (t':=s2.toks) (fun b u e=>A2 _ e) (B0 _) ⟨D3 _,[],0,.nil,B5 _ rfl⟩
 obtain ⟨W,⟨m0,w0⟩,turn⟩:=q2 s2.heap.objs.size fresh2;have lt2:∀ b ∈ fp,b<s2.heap.objs.size:=fun b hb=>by
  obtain ⟨o,e,_⟩:=T.obj 0 _ st2 b hb;exact B7 e
 have f3:∀ b ∈ fp,FpOk X Ab (upd H2 s2.heap.objs.size (.lst [])) b:=fun b hb=>⟨by rw [qA8 (D4 (lt2 b hb))];exact (f2 b hb).1,(f2 b hb).2⟩
 generalize hp:s2.heap.objs.size=p at *;generalize hH3:upd H2 p (.lst [])=H3 at *;have st3:tn 0 (s2.heap.push { cls:=.type "list",dict:=none,data:=.seq ([]:List Value).toArray }):=T.keep _ _ _ st2 fun b _ o e=>A2 _ e;have lt3:∀ b ∈ fp,b<(s2.heap.push { cls:=.type "list",dict:=none,data:=.seq ([]:List Value).toArray }).objs.size:=fun b hb=>by
  rw [L0];have:=lt2 b hb;rw [hp];exact O8 this
 generalize hs3:({ s2 with heap:=s2.heap.push { cls:=.type "list",dict:=none,data:=.seq ([]:List Value).toArray } }:Shared)=s3 at *;have st3':tn 0 s3.heap:=by rw [<- hs3];exact st3
 have lt3':∀ b ∈ fp,b<s3.heap.objs.size:=by rw [<- hs3];exact lt3
 -- the block's frame
 refine wpAny_newFunctionEnv S.nocell (by intro y hy;simp at hy) (fun h₁ hns₁ hsb₁=>?_) S.kind
 have keep1:∀ b o,s3.heap.get? b=some o->h₁.get? b=some o:=fun b o e=>hsb₁.extBut b o (D4 (B7 e)) (A2 _ e);have J0:Inv (lcCx X scope own fv ⟨s3.heap.objs.size,qGS X.env scope.names [],fp,s3,H3⟩) [] (qJ0 own fv σ) H3 { s3 with heap:=h₁,toks:=s3.toks+([]:List (Str × Value)).length }:=qVN I3 S f3 lt3' hns₁ keep1;have cOk:=qZY I3 S f3 lt3';generalize hz:(⟨s3.heap.objs.size,qGS X.env scope.names [],fp,s3,H3⟩:LcZ)=z at *;have st4:tn 0 h₁:=T.keep _ _ _ st3' fun b _ o e=>keep1 b o e;have fr4:∀ b ∈ fp,H3 b=none:=fun b hb=>(f3 b hb).1;have stat:∀ {H':Hp},(∀ b ∈ fp,H' b=none)->∀ b ∈ fp,FpOk (lcCx X scope own fv z) [] H' b:=fun hn b hb=>by
  subst hz;refine ⟨hn b hb,(cOk.exf b hb).1,cOk.exfs b hb,.inl hb,(cOk.exf b hb).2,fun q hq=>absurd (show q ∈ ([]:List (Addr × Obj)) from hq) (by simp)⟩
 have envE:({ newEnv scope s3.heap.objs.size X.env.globals (qGS X.env scope.names []) X.env.qual none .none (some X.env) builtinsNs with scope:=relabel scope X.env }:Env)=(lcCx X scope own fv z).env:=by
  subst hz
  rfl
 have loop:∀ sA:Shared,sA={ s3 with heap:=h₁,toks:=s3.toks+([]:List (Str × Value)).length }->codeAny (model X.prog X.w) X.A (.compLoop (.ListComp elt [⟨tg,iter,ifs,0⟩] scope pos) 0 (.ref it) (.ref p) (lcCx X scope own fv z).env)
   (compPost (model X.prog X.w) X.A E use Q (.ref p) s3.heap.objs.size) sA:=by
  rintro sA rfl;refine qNB (fun n s'=>∃ i σ' H',Inv (lcCx X scope own fv z) [] σ' H' s'/\tn i s'.heap/\(∀ b ∈ fp,H' b=none)/\W i n σ' H') ?_ m0 ⟨0,_,H3,J0,st4,fr4,w0⟩;rintro n s4 ⟨i,σ4,H4,I4,st4,fr4,w4⟩;rcases turn i n σ4 H4 w4 with ⟨stop,qn⟩ | ⟨go,Nx,hNx,step⟩
  ·refine thn (T.done (lcCx X scope own fv z) rfl rfl rfl hc i [] s4 σ4 H4 noX I4 (stat fr4) st4 stop) fun r s5 ⟨hr,I5⟩=>?_;subst hr;subst hz;have I6:Inv X Ab σ H4 s5:=qYA I3 f3 I5;obtain ⟨m,hn,_⟩:=id I5.loc;have fpL:=I3.fpOk (H':=H4) (b:=s3.heap.objs.size) (B0 _) I5.free;refine fin p s3.heap.objs.size H4 s5 m I6 qn hn I3.sz fpL.1 fpL.2.1 fpL.2.2.2.2.1 fpL.2.2.2.2.2
  ·refine thn (T.item (lcCx X scope own fv z) rfl rfl rfl hc i [] s4 σ4 H4 noX I4 (stat fr4) st4 go) fun r s5 ⟨u,hr,h5⟩=>?_;subst hr;refine thn h5 fun _ s6 ⟨x,H6,I6,r6,y6,st6,fr6⟩=>?_;have I6':=I6.pinned (stat fr6) (T.obj _ _ st6);have again:∀ {σ7:St} {H7:Hp} {s7:Shared} {m':Nat},m'<n->Inv (lcCx X scope own fv z) ([]++qM7 fp s6.heap) σ7 H7 s7->W (i+1) m' σ7 H7->
     ∃ m,m<n/\∃ i σ' H',Inv (lcCx X scope own fv z) [] σ' H' s7/\tn i s7.heap/\(∀ b ∈ fp,H' b=none)/\W i m σ' H':=fun {σ7 H7 s7 m'} hm I7 w7=>by
    refine ⟨m',hm,i+1,σ7,H7,I7.unpinned,T.keep _ _ _ st6 fun b hb o e=>(I7.pin (b,o) (F1 _ (F1 _ (qFJ hb e)))).1,fun b hb=>?_,w7⟩;obtain ⟨o,e,d⟩:=T.obj _ _ st6 b hb;exact (I7.pin (b,o) (F1 _ (F1 _ (qFJ hb e)))).2.1
   refine thn (hg z _ s6 σ4 H6 x u _ I6' r6 (step x H6 y6)) fun _ s7 ⟨σ7,H7,I7,q7⟩=>?_;refine thn (ht z _ s7 σ7 H7 _ I7 q7) fun b s8 ⟨H8,I8,q8⟩=>?_;cases b with
   | false=>
    obtain ⟨m',hm,w8⟩:=hNx _ _ q8;exact again hm I8 w8
   | true=>
    refine thn (he z _ s8 σ7 H8 _ I8 q8) fun v s9 ⟨y,H9,I9,r9,ys,ep,hl,w9⟩=>?_;refine thn (qCV (X:=lcCx X scope own fv z) _ s9 σ7 H9 (.ref p) [y] (.ref p) [v] (fun _ H'=>Nx σ7 H') I9 rfl (.cons r9 .nil) ⟨p,ys,y,rfl,rfl,ep,hl,w9⟩) fun _ s10 ⟨_,H10,I10,_,q10⟩=>?_;obtain ⟨m',hm,w10⟩:=hNx _ _ q10;exact again hm I10 w10
 rw [envE];exact codeAny_compStart_list (loop _ rfl) (T.self _ _ _ _ _ st4 (loop _ rfl))
theorem qEA (hc:X.calm=true) (S:LcScope X scope own fv) (hi:PI X tg iter wi) (hg:∀ z,PG (lcCx X scope own fv z) tg g) (ht:∀ z,PTs (lcCx X scope own fv z) ifs tc) (he:∀ z,PE (lcCx X scope own fv z) elt te)
  (hs:∀ x,foldedSetIterable iter X.env x=pure x:=by intro _;rfl):PE X (.ListComp elt [⟨tg,iter,ifs,0⟩] scope pos) (tLc own fv wi g tc te):=by
 intro Ab s σ H Q I h;rw [eval_ListComp];refine qSZ (use:=none) (K:=fun p H'=>Q (.ref p) H') hc S hi hg ht he I h (fun _ _ q=>q) (fun p L H' s' m I' q hn h1 h2 h3 h4 h5=>?_) hs;exact ⟨m,hn,fun h' hs'=>⟨.ref p,H',I'.other (n:=0) h1 h2 h3 h4 h5 hs',rfl,q⟩⟩
theorem qV8 {i:Nat} {x:Str} {pos' spos:Pos} (hN:X.N.Nodup) (hx:X.N[i]?=some x) (hl:X.env.scope.names.lookup x=some .local) (hc:X.calm=true) (S:LcScope X scope own fv) (hi:PI X tg iter wi) (hg:∀ z,PG (lcCx X scope own fv z) tg g)
  (ht:∀ z,PTs (lcCx X scope own fv z) ifs tc) (he:∀ z,PE (lcCx X scope own fv z) elt te) (hsw:swapsWith (.ListComp elt [⟨tg,iter,ifs,0⟩] scope pos) (some (.Name x pos')) spos.line X.env=pure true)
  (hs:∀ x,foldedSetIterable iter X.env x=pure x:=by intro _;rfl):PS X (.Assign [.Name x pos'] (.ListComp elt [⟨tg,iter,ifs,0⟩] scope pos) spos) (tAsg (tLc own fv wi g tc te) (qYG i)):=by
 intro Ab s σ H D I h;rw [exec_Assign_Name_used _ _ _ _ hsw];refine wpAny_bind (wpAny_standAt (wpAny_bind ?_));show wpAny _ X.A (do let _ <- comprehension (.ListComp elt [⟨tg,iter,ifs,0⟩] scope pos) scope X.env _ (newList []) false (eval iter X.env) (some (assign (.Name x pos') X.env))) _ _ s
 refine wpAny_bind (wpAny_mono (qSZ (use:=some (assign (.Name x pos') X.env)) (K:=fun p H'=>D.nx (σ.set i (some (.ref p))) H') (Q:=fun _ s'=>SP X Ab D .next s') (E:=X.xe) hc S hi hg ht he I h (fun _ _ q=>q) (fun p L H' s' m I' q hn h1 h2 h3 h4 h5=>?_) hs)
  (fun _ s' hq=>wpAny_pure (wpAny_pure hq)) fun _ _ e=>e)
 show wpAny _ X.A (assign (.Name x pos') X.env (.ref p)) _ _ _;refine wpAny_assign_Name (qLZ (v:=.ref p) I' hN hx (.inl hl) rfl (fun s2 I2 ⟨a,hsb,ha⟩=>?_) (.inr hl));have hLa:L ≠ a:=by
  rcases ha with z | z
  ·rw [z];exact h3
  ·exact fun y=>h4 x a z y.symm
 exact ⟨m,hn.sameBut hsb hLa,fun h' hs'=>⟨_,H',I2.other (n:=0) h1 h2 h3 h4 h5 hs',q⟩⟩
end
theorem qFK {lo:Int} {n:Nat} {g:TG} {tc:TT} {te:TE} {Kf:Hp->Prop} {σ0:St} {H0:Hp} {p:Addr} (Pv:Nat->St->Hp->Prop) (h0:Pv 0 σ0 H0)
  (hs:∀ i σ H,i<n->Pv i σ H->g (.int (lo+i)) σ H fun σ2 H2=>tc σ2 H2 fun b H3=>if b=true then te σ2 H3 fun y H4=>∃ ys,H4 p=some (.lst ys)/\ys.length<sizeLine/\Pv (i+1) σ2 (upd H4 p (.lst (ys++[y]))) else Pv (i+1) σ2 H3)
  (hd:∀ σ H,Pv n σ H->Kf H) :
  ∃ W:Nat->Nat->St->Hp->Prop,(∃ m,W 0 m σ0 H0)/\∀ i m σ H,W i m σ H->
   ((Itr lo n).stop i H/\Kf H)\/((Itr lo n).go i H/\∃ N:St->Hp->Prop,(∀ σ' H',N σ' H'->∃ m',m'<m/\W (i+1) m' σ' H')/\∀ x H',(Itr lo n).yld i H x H'->g x σ H' fun σ2 H2=>tc σ2 H2 fun b H3=>
    if b=true then te σ2 H3 fun y H4=>∃ ys,H4 p=some (.lst ys)/\ys.length<sizeLine/\N σ2 (upd H4 p (.lst (ys++[y]))) else N σ2 H3):=by
 refine ⟨fun i m σ H=>m=n - i/\i<=n/\Pv i σ H,⟨n,by simp,D3 _,h0⟩,?_⟩
 rintro i m σ H ⟨rfl,hi,q⟩;by_cases hlt:i<n
 ·refine .inr ⟨hlt,Pv (i+1),fun σ' H' p'=>⟨n - (i+1),by omega,rfl,hlt,p'⟩,fun x H' y=>?_⟩
  obtain ⟨e,y⟩:=y;subst e y;exact hs i σ _ hlt q
 ·have e:i=n:=by omega
  subst e;exact .inl ⟨B0 _,hd σ H q⟩
theorem qFR {K:PySem.W.Frag} {a:Addr} {xs:List V} {g:TG} {tc:TT} {te:TE} {Kf:Hp->Prop} {σ0:St} {H0:Hp} {p:Addr} (Pv:Nat->St->Hp->Prop) (h0:Pv 0 σ0 H0) (hl:∀ i σ H,i<=xs.length->Pv i σ H->SqL K H a xs)
  (hs:∀ i x σ H,xs[i]?=some x->Pv i σ H->g x σ H fun σ2 H2=>tc σ2 H2 fun b H3=>if b=true then te σ2 H3 fun y H4=>∃ ys,H4 p=some (.lst ys)/\ys.length<sizeLine/\Pv (i+1) σ2 (upd H4 p (.lst (ys++[y]))) else Pv (i+1) σ2 H3)
  (hd:∀ σ H,Pv xs.length σ H->Kf H) :
  ∃ W:Nat->Nat->St->Hp->Prop,(∃ m,W 0 m σ0 H0)/\∀ i m σ H,W i m σ H->
   ((Itl K a).stop i H/\Kf H)\/((Itl K a).go i H/\∃ N:St->Hp->Prop,(∀ σ' H',N σ' H'->∃ m',m'<m/\W (i+1) m' σ' H')/\∀ x H',(Itl K a).yld i H x H'->g x σ H' fun σ2 H2=>tc σ2 H2 fun b H3=>
    if b=true then te σ2 H3 fun y H4=>∃ ys,H4 p=some (.lst ys)/\ys.length<sizeLine/\N σ2 (upd H4 p (.lst (ys++[y]))) else N σ2 H3):=by
 refine ⟨fun i m σ H=>m=xs.length - i/\i<=xs.length/\Pv i σ H,⟨xs.length,by simp,D3 _,h0⟩,?_⟩
 rintro i m σ H ⟨rfl,hi,q⟩;have hq:=hl i σ H hi q;by_cases hlt:i<xs.length
 ·refine .inr ⟨⟨xs,xs[i],hq,by simp [hlt]⟩,Pv (i+1),fun σ' H' p'=>⟨xs.length - (i+1),by omega,rfl,hlt,p'⟩,fun x H' y=>?_⟩
  obtain ⟨e,y⟩:=y;subst e;exact hs i x σ _ (y xs hq) q
 ·have e:i=xs.length:=by omega
  subst e;exact .inl ⟨⟨xs,hq,B0 _⟩,hd σ H q⟩
theorem qHI {K:PySem.W.Frag} {a:Addr} {xs:List V} {g:TG} {tc:TT} {te:TE} {Kf:Hp->Prop} {σ0:St} {H0:Hp} {p:Addr} (Pv:Nat->St->Hp->Prop) (h0:Pv 0 σ0 H0) (hl:∀ i σ H,i<=xs.length->Pv i σ H->SqT K H a xs)
  (hs:∀ i x σ H,xs[i]?=some x->Pv i σ H->g x σ H fun σ2 H2=>tc σ2 H2 fun b H3=>if b=true then te σ2 H3 fun y H4=>∃ ys,H4 p=some (.lst ys)/\ys.length<sizeLine/\Pv (i+1) σ2 (upd H4 p (.lst (ys++[y]))) else Pv (i+1) σ2 H3)
  (hd:∀ σ H,Pv xs.length σ H->Kf H) :
  ∃ W:Nat->Nat->St->Hp->Prop,(∃ m,W 0 m σ0 H0)/\∀ i m σ H,W i m σ H->
   ((Itt K a).stop i H/\Kf H)\/((Itt K a).go i H/\∃ N:St->Hp->Prop,(∀ σ' H',N σ' H'->∃ m',m'<m/\W (i+1) m' σ' H')/\∀ x H',(Itt K a).yld i H x H'->g x σ H' fun σ2 H2=>tc σ2 H2 fun b H3=>
    if b=true then te σ2 H3 fun y H4=>∃ ys,H4 p=some (.lst ys)/\ys.length<sizeLine/\N σ2 (upd H4 p (.lst (ys++[y]))) else N σ2 H3):=by
 refine ⟨fun i m σ H=>m=xs.length - i/\i<=xs.length/\Pv i σ H,⟨xs.length,by simp,D3 _,h0⟩,?_⟩
 rintro i m σ H ⟨rfl,hi,q⟩;have hq:=hl i σ H hi q;by_cases hlt:i<xs.length
 ·refine .inr ⟨⟨xs,xs[i],hq,by simp [hlt]⟩,Pv (i+1),fun σ' H' p'=>⟨xs.length - (i+1),by omega,rfl,hlt,p'⟩,fun x H' y=>?_⟩
  obtain ⟨e,y⟩:=y;subst e;exact hs i x σ _ (y xs hq) q
 ·have e:i=xs.length:=by omega
  subst e;exact .inl ⟨⟨xs,hq,B0 _⟩,hd σ H q⟩
def qT0 (scope:Scope) (own:List Str) (fv:List Nat) (osc:Scope) (N:List Str):Bool:=
 decide (scope.kind=.function) && scope.names.all (fun y=>decide (y.2 ≠ .cell)) && scope.names.all (fun y=>decide (y.2 ≠ .local) || decide (scope.names.lookup y.1=some .local)) &&
 scope.names.all (fun y=>decide (y.2 ≠ .free) || (decide (osc.names.lookup y.1=some .cell) || decide (osc.names.lookup y.1=some .free))) && decide ((own++fv.map fun i=>N.getD i Q3).Nodup) &&
 fv.all fun i=>decide (i<N.length) && decide (scope.names.lookup (N.getD i Q3)=some .free)
theorem lcs {X:Cx} {scope:Scope} {own:List Str} {fv:List Nat} (h:qT0 scope own fv X.env.scope X.N=true):LcScope X scope own fv:=by
 unfold qT0 at h;simp only [O4,decide_eq_true_eq,G8,V9] at h;obtain ⟨⟨⟨⟨⟨h1,h2⟩,h3⟩,h4⟩,h5⟩,h6⟩:=h;exact ⟨h1,h2,fun y hy e=>(h3 y hy).resolve_left fun z=>z e,fun y hy e=>(h4 y hy).resolve_left fun z=>z e,h5,h6⟩
theorem qD2 {N:List Str} (h:decide N.Nodup=true):N.Nodup:=of_decide_eq_true h
theorem qSE {X:Cx} {K:PySem.W.Frag} {es:List Expr} {k n:Nat} {t:TGs} {pos:Pos} (hK:X.K=K) (hc:X.calm=true) (h:PGs X es t) (hn:(assignEach es X.env).length=n) (hst:(assignEach es X.env).findIdx? (·.1)=none):PG X (.Tuple es k pos) (gTup K n t):=by
 subst hK hn;exact qM8 hc h rfl hst
theorem qSB {X:Cx} {K:PySem.W.Frag} {tg l:Expr} {tl:TE} (hK:X.K=K) (hl:PE X l tl):PI X tg l (iTup K tl):=by subst hK;exact qDF hl
theorem qEE {X:Cx} {K:PySem.W.Frag} (hK:X.K=K):IxR X (rIxT K):=by subst hK;exact qB3
theorem qL9 {X:Cx} {K:PySem.W.Frag} (hK:X.K=K):IxR X (rIxL K):=by subst hK;exact qEF
theorem qSL {X:Cx} {K:PySem.W.Frag} (hK:X.K=K):OpR X (compareOp .In) (rIn K false):=by subst hK;exact qMC
theorem qFV {X:Cx} {K:PySem.W.Frag} (hK:X.K=K):qDM X (.type "tuple") (fun xs H Q=>∃ p ys,xs=[.ref p]/\((SqL K H p ys/\∀ l,H l=none->Q (.ref l) (upd H l (.tup ys)))\/(SqT K H p ys/\Q (.ref p) H))):=by subst hK;exact qAM
end L2
namespace L2
open PySem PySem.Spec PyProof.Rows
theorem qLL {xs:Array Nat} {j:Nat} (up:∀ a b,a<b->b<xs.size->xs.getD a j<xs.getD b j):∀ (fuel lo hi:Nat),lo<=hi->hi<=xs.size->hi - lo<=fuel->(∀ i,i<lo->xs.getD i j<j)->(∀ i,hi<=i->i<xs.size->j<=xs.getD i j)->
  Z3 xs j fuel lo hi<=xs.size/\(∀ i,i<Z3 xs j fuel lo hi->xs.getD i j<j)/\(∀ i,Z3 xs j fuel lo hi<=i->i<xs.size->j<=xs.getD i j)
 | 0,lo,hi,h1,h2,h3,a,b=>by
  have e:lo=hi:=by omega
  subst e;exact ⟨h2,a,b⟩
 | fuel+1,lo,hi,h1,h2,h3,a,b=>by
  unfold Z3;by_cases hlt:lo<hi
  ·rw [if_pos hlt];dsimp only;have hm1:lo<=(lo+hi) / 2:=by omega
   have hm2:(lo+hi) / 2<hi:=by omega
   by_cases hc:xs.getD ((lo+hi) / 2) j<j
   ·rw [if_pos hc];refine qLL up fuel _ _ (by omega) h2 (by omega) (fun i hi'=>?_) b
    by_cases e:i=(lo+hi) / 2
    ·rw [e];exact hc
    ·exact i7 (up i ((lo+hi) / 2) (by omega) (by omega)) hc
   ·rw [if_neg hc];refine qLL up fuel _ _ (by omega) (by omega) (by omega) a (fun i hi' hs=>?_)
    by_cases e:i=(lo+hi) / 2
    ·rw [e];omega
    ·have:=up ((lo+hi) / 2) i (by omega) hs
     omega
  ·rw [if_neg hlt];have e:lo=hi:=by omega
   subst e;exact ⟨h2,a,b⟩
theorem qXD {xs:Array Nat} (j:Nat) (h:xs.toList.Pairwise (·<·)):∀ a b,a<b->b<xs.size->xs.getD a j<xs.getD b j:=fun a b hab hb=>by
 have:=F3.mp h a b (by simpa using i7 hab hb) (by simpa using hb) hab
 rw [F4,F4,D2 (i7 hab hb),D2 hb];simpa using this
theorem qHA {xs:Array Nat} {j:Nat} (h:xs.toList.Pairwise (·<·)):D9 xs j<=xs.size/\(∀ i,i<D9 xs j->xs.getD i j<j)/\(∀ i,D9 xs j<=i->i<xs.size->j<=xs.getD i j):=by
 unfold D9;exact qLL (qXD j h) xs.size 0 xs.size (D3 _) (B0 _) (by omega) (fun i hi=>absurd hi (by omega)) (fun i hi hs=>absurd hs (by omega))
theorem qCH {α:Type} (xs:Array α) (p:Nat) (x:α):(F0 xs p x).toList=xs.toList.take p++x::xs.toList.drop p:=by
 unfold F0;simp [Array.toList_extract,G0]
structure T7 (byText:Bool) (t:SetTable) (n:Nat):Prop where
 mask:t.mask=7
 dum:t.dummies=#[]
 plain:t.plain=true
 led:t.led=!byText
 size:t.place.size=n
 up:t.place.toList.Pairwise (·<·)
 le:∀ j ∈ t.place.toList,j<=7
section
variable {byText:Bool} {t:SetTable} {n:Nat}
theorem T7.slot (T:T7 byText t n) (j:Nat):(t.slot j=.empty/\j ∉ t.place.toList)\/(∃ i,t.slot j=.live i/\j ∈ t.place.toList):=by
 unfold SetTable.slot;dsimp only;have hd:A77 t.dummies j=false:=by rw [T.dum];rfl
 obtain ⟨b1,b2,b3⟩:=qHA (j:=j) T.up;by_cases hc:t.place[D9 t.place j]?=some j
 ·rw [if_pos (by rw [hc];simp)]
  exact .inr ⟨_,rfl,by rw [<- Array.mem_def];exact Array.mem_of_getElem? hc⟩
 ·rw [if_neg (by simpa using hc),hd,if_neg (by simp)]
  refine .inl ⟨rfl,fun hm=>?_⟩;obtain ⟨i,hi,he⟩:=U0.mp hm;have hi':i<t.place.size:=by simpa using hi
  have he':t.place.getD i j=j:=by
   rw [F4,D2 hi'];simpa using he
  have h1:¬ i<D9 t.place j:=fun z=>by have:=b2 i z;omega
  have h2:D9 t.place j=i:=by
   apply Nat.le_antisymm (b7 h1);apply b7;intro z;have:=b3 (D9 t.place j) (B0 _) (by omega)
   have:=qXD j T.up _ _ z hi';omega
  apply hc;rw [h2,D2 hi'];simpa using he
def pr (i pt:Nat):SetTable.Probe:={ j:=i,more:=0,i:=i,perturb:=pt,dummy:=none }
theorem T7.adv (T:T7 byText t n) (i pt:Nat):t.advance (pr i pt)=pr ((i * 5+1+pt / 32) % 8) (pt / 32):=by
 unfold SetTable.advance pr SetTable.leap A51;rw [T.mask];dsimp only;rw [if_neg (by omega),if_neg (by omega),A32]
theorem T7.go1 (T:T7 byText t n) (h:Int) (f i pt:Nat) :
  (R1 t (fun _=>h+1) h (f+1) (pr i pt)=some (.empty i none)/\i ∉ t.place.toList)\/
  (R1 t (fun _=>h+1) h (f+1) (pr i pt)=R1 t (fun _=>h+1) h f (pr ((i * 5+1+pt / 32) % 8) (pt / 32))/\i ∈ t.place.toList):=by
 rcases T.slot i with ⟨e,m⟩ | ⟨k,e,m⟩
 ·left
  refine ⟨?_,m⟩;unfold R1;rw [show (pr i pt).j=i from rfl,e]
  rfl
 ·right
  refine ⟨?_,m⟩;rw [R1];rw [show (pr i pt).j=i from rfl,e];dsimp only;rw [if_neg (by simp;omega),T.adv]
def F8 (i:Nat):Nat:=(i * 5+1) % 8
def F8n:Nat->Nat->Nat
 | 0,i=>i
 | m+1,i=>F8n m (F8 i)
theorem T7.go0 (T:T7 byText t n) (h:Int) (f:Nat):∀ (m i:Nat),(∃ j,R1 t (fun _=>h+1) h (m+f) (pr i 0)=some (.empty j none)/\j ∉ t.place.toList/\∃ q,q<m/\j=F8n q i)\/(∀ q,q<m->F8n q i ∈ t.place.toList)
 | 0,i=>.inr fun q hq=>absurd hq (by omega)
 | m+1,i=>by
  rcases T.go1 h (m+f) i 0 with ⟨e,z⟩ | ⟨e,z⟩
  ·exact .inl ⟨i,by rw [show m+1+f=m+f+1 by omega];exact e,z,0,by omega,rfl⟩
  ·rw [show m+1+f=m+f+1 by omega,e]
   have e2:(i * 5+1+0 / 32) % 8=F8 i:=by unfold F8;omega
   rw [e2];rcases T.go0 h f m (F8 i) with ⟨j,e3,z3,q,hq,e4⟩ | e3
   ·exact .inl ⟨j,e3,z3,q+1,by omega,e4⟩
   ·refine .inr fun q hq=>?_;cases q with
    | zero=>exact z
    | succ q=>exact e3 q (by omega)
theorem qaP:∀ i:_root_.Fin 8,∀ j:_root_.Fin 8,∃ q:_root_.Fin 8,F8n q.1 i.1=j.1:=by decide
theorem qaO:∀ (q i:Nat),i<8->F8n q i<8
 | 0,i,h=>h
 | q+1,i,h=>qaO q (F8 i) (A23 _ (by decide))
theorem T7.goK (T:T7 byText t n) (hn:n<=7) (h:Int) (f:Nat):∀ (k i pt:Nat),i<8->pt<32 ^ k->∃ j,R1 t (fun _=>h+1) h (k+(8+f)) (pr i pt)=some (.empty j none)/\j ∉ t.place.toList/\j<=7
 | 0,i,pt,hi,hp=>by
  have e:pt=0:=by omega
  subst e;rw [L4];rcases T.go0 h f 8 i with ⟨j,e,z,q,hq,e2⟩ | e
  ·exact ⟨j,e,z,by have:=qaO q i hi;omega⟩
  ·exfalso
   have sub:[0,1,2,3,4,5,6,7] ⊆ t.place.toList:=fun j hj=>by
    have hj8:j<8:=by
     simp at hj;omega
    obtain ⟨q,hq⟩:=qaP ⟨i,hi⟩ ⟨j,hj8⟩;rw [<- show F8n q.1 i=j from hq];exact e q.1 q.2
   have:=J7 (by decide:[0,1,2,3,4,5,6,7].Nodup) sub
   have hs:=T.size;simp at this;omega
 | k+1,i,pt,hi,hp=>by
  rw [show k+1+(8+f)=k+(8+f)+1 by omega]
  rcases T.go1 h (k+(8+f)) i pt with ⟨e,z⟩ | ⟨e,z⟩
  ·exact ⟨i,e,z,by omega⟩
  ·rw [e];refine T.goK hn h f k _ _ (A23 _ (by decide)) ?_
   rw [Nat.pow_succ] at hp;omega
theorem T7.free (T:T7 byText t n) (hn:n<=7) (h:Int):∃ j,t.freeSlot h=some (j,false)/\j ∉ t.place.toList/\j<=7:=by
 have hb:Y3 h<32 ^ 13:=by
  unfold Y3;have h1:0<=h % (2 ^ 64:Int):=W0 _ (by decide)
  have h2:h % (2 ^ 64:Int)<2 ^ 64:=T5 _ (by decide)
  have:((2:Int) ^ 64)=18446744073709551616:=by decide
  rw [this] at h1 h2 ⊢;have h3:(32:Nat) ^ 13=36893488147419103232:=by decide
  omega
 obtain ⟨j,e,z,l⟩:=T.goK hn h 199 13 (Y3 h % 8) (Y3 h) (A23 _ (by decide)) hb
 refine ⟨j,?_,z,l⟩;have hst:t.probeStart h=pr (Y3 h % 8) (Y3 h):=by
  unfold SetTable.probeStart pr A51;rw [T.mask];dsimp only;rw [if_neg (by omega),A32]
 unfold SetTable.freeSlot SetTable.probe;rw [hst,show 10 * SetTable.turns t.mask=13+(8+199) by rw [T.mask];rfl,e]
 rfl
theorem T7.lay (T:T7 byText t n) (hn:n<=3) {es:Array (Int × Value)} (he:es.size=n) (h:Int) (x:Value) :
  ∃ p t',layNew t es h x=(F0 es p (h,x),t',false,false)/\T7 byText t' (n+1)/\t'.tooFull=false/\p<=es.size:=by
 obtain ⟨j,e,z,l⟩:=T.free (by omega) h
 obtain ⟨b1,b2,b3⟩:=qHA (j:=j) T.up;have hd:A77 t.dummies j=false:=by rw [T.dum];rfl
 have tl:(F0 t.place (D9 t.place j) j).toList=t.place.toList.take (D9 t.place j)++j::t.place.toList.drop (D9 t.place j):=qCH _ _ _;have sz:(F0 t.place (D9 t.place j) j).size=n+1:=by
  rw [<- D7,tl,A7,E3,D1,O3,D7,T.size];rw [T.size] at b1;omega
 have T':T7 byText { t with place:=F0 t.place (D9 t.place j) j,dummies:=t.dummies } (n+1):=by
  refine ⟨T.mask,T.dum,T.plain,T.led,sz,?_,?_⟩
  ·show (F0 t.place (D9 t.place j) j).toList.Pairwise (·<·);rw [tl];have geti:∀ i,i<t.place.size->t.place.getD i j=t.place.toList.getD i j:=fun i hi=>by
    rw [F4,P6,J6]
   have lo:∀ a ∈ t.place.toList.take (D9 t.place j),a<j:=fun a ha=>by
    obtain ⟨i,hi,hai⟩:=U0.mp ha;rw [D1,D7] at hi;have hi1:i<D9 t.place j:=by omega
    have hi2:i<t.place.size:=by omega
    have:=b2 i hi1;rw [F4,D2 hi2] at this;rw [A24] at hai;rw [<- hai];simpa using this
   have hi:∀ a ∈ t.place.toList.drop (D9 t.place j),j<a:=fun a ha=>by
    have hm:a ∈ t.place.toList:=P3 ha;obtain ⟨i,hi,hai⟩:=U0.mp ha;rw [O3,D7] at hi;have hi2:D9 t.place j+i<t.place.size:=by omega
    have:=b3 _ (Nat.le_add_right _ i) hi2;rw [F4,D2 hi2] at this;rw [l0] at hai;have h3:j<=a:=by
     rw [<- hai];simpa using this
    rcases Nat.lt_or_eq_of_le h3 with h4 | h4
    ·exact h4
    ·exact absurd (h4 ▸ hm) z
   refine Q4.mpr ⟨T.up.sublist (Z1 _ _),L6.mpr ⟨hi,T.up.sublist (A25 _ _)⟩,fun a ha b hb=>?_⟩;rcases B6.mp hb with e | hb
   ·rw [e];exact lo a ha
   ·exact i7 (lo a ha) (hi b hb)
  ·show ∀ i ∈ (F0 t.place (D9 t.place j) j).toList,i<=7;rw [tl];intro i hi;rcases D6.mp hi with hi | hi
   ·exact T.le i (M7 hi)
   ·rcases B6.mp hi with e | hi
    ·omega
    ·exact T.le i (P3 hi)
 have fits:A10 { t with place:=F0 t.place (D9 t.place j) j,dummies:=t.dummies } (n+1)=true:=by
  unfold A10 A11;dsimp only;rw [sz,T.dum,T.mask];have:((#[]:Array Nat)).size=0:=rfl;simp only [this,beq_self_eq_true,A12,decide_eq_true_eq];omega
 have szE:(F0 es (D9 t.place j) (h,x)).size=n+1:=by
  rw [<- D7,qCH,A7,E3,D1,O3,D7];rw [T.size] at b1;omega
 refine ⟨D9 t.place j,{ t with place:=F0 t.place (D9 t.place j) j,dummies:=t.dummies },?_,T',?_,by rw [he,<- T.size];exact b1⟩
 ·unfold layNew;rw [e];dsimp only;unfold SetTable.put;rw [hd];dsimp only;rw [szE];unfold SetTable.orStandIn;simp only [E1,if_false];rw [fits];simp
 ·unfold SetTable.tooFull A11;dsimp only;rw [sz,T.dum,T.mask];have:((#[]:Array Nat)).size=0:=rfl;rw [this];exact decide_eq_false (by omega)
end
end L2
namespace L2
open PySem PySem.Spec PyProof.Rows
theorem qH7 {α:Type}:∀ (l:List α) (i:Nat) (h:i<l.length),(l[i]::l.eraseIdx i).Perm l
 | [],i,h=>absurd h (by simp)
 | a::r,0,h=>.refl _
 | a::r,i+1,h=>by
  have hi:i<r.length:=by simpa using h
  have ih:=qH7 r i hi;show (r[i]::a::r.eraseIdx i).Perm (a::r);exact (List.Perm.swap _ _ _).trans (ih.cons a)
theorem qSA {α:Type} (next:Nat->Nat):∀ (fuel k:Nat) (left:List α) (out:Array α),fuel=left.length->(A33 next fuel k left out).toList.Perm (out.toList++left)
 | 0,k,left,out,h=>by
  have:left=[]:=U7.mp h.symm;subst this;unfold A33;simp
 | fuel+1,k,left,out,h=>by
  have hl:0<left.length:=by omega
  have hm:next k % left.length<left.length:=A23 _ hl;unfold A33;rw [A1 hm];dsimp only;refine (qSA next fuel (k+1) _ _ (by rw [List.length_eraseIdx_of_lt hm];omega)).trans ?_
  rw [Array.toList_push,O7];exact t6 _ (qH7 left _ hm)
theorem qS9 {α:Type} (next:Nat->Nat) (xs:Array α):(pickOrder next xs).toList.Perm xs.toList:=by
 unfold pickOrder;have:=qSA next xs.size 0 xs.toList #[] (by simp)
 simpa using this
abbrev Ents:List Int->List (Int × Value)->Prop:=Paired fun k e=>∃ tk,e=(hashInt k,J5 k tk)
theorem Ents.perm:∀ {es es':List (Int × Value)} {ks:List Int},Ents ks es->es'.Perm es->∃ ks',Ents ks' es'/\ks'.Perm ks:=by
 intro es es' ks h p;have key:∀ {a b:List (Int × Value)},a.Perm b->∀ ks,Ents ks b->∃ ks',Ents ks' a/\ks'.Perm ks:=by
  intro a b p
  induction p with
  | nil=>intro ks h;exact ⟨ks,h,.refl _⟩
  | cons x p ih=>
   intro ks h;cases h with
   | cons r t=>
    obtain ⟨ks',h1,h2⟩:=ih _ t;exact ⟨_::ks',.cons r h1,h2.cons _⟩
  | swap x y l=>
   intro ks h;cases h with
   | cons r t=>
    cases t with
    | cons r' t'=>exact ⟨_,.cons r' (.cons r t'),.swap _ _ _⟩
  | trans p q ih1 ih2=>
   intro ks h;obtain ⟨k1,h1,h2⟩:=ih2 ks h;obtain ⟨k2,h3,h4⟩:=ih1 k1 h1;exact ⟨k2,h3,h4.trans h2⟩
 exact key p ks h
theorem Ents.elems {prog:Program} {w:World} {es:List (Int × Value)} {ks:List Int} (h:Ents ks es):ElemsOf (intKind prog w) es:=by
 intro e he;have key:∀ {ks:List Int} {es:List (Int × Value)},Ents ks es->∀ e ∈ es,∃ k tk,e=(hashInt k,J5 k tk):=by
  intro ks es h
  induction h with
  | nil=>intro e he;cases he
  | cons r t ih=>
   intro e he;rcases B6.mp he with z | z
   ·subst z;obtain ⟨tk,e⟩:=r;exact ⟨_,tk,e⟩
   ·exact ih e z
 obtain ⟨k,tk,rfl⟩:=key h e he;exact ⟨⟨k,by simp [intKind,m7],rfl⟩,rfl⟩
theorem Ents.find {prog:Program} {w:World} {k:Int}:∀ {es:List (Int × Value)} {ks:List Int},Ents ks es->((A70 (fun e=>(intKind prog w).is k e.2) es).isSome=true ↔ k ∈ ks)
 | _,_,.nil=>by simp
 | _,_,.cons r t=>by
  obtain ⟨tk,rfl⟩:=r
  rename_i k' ks' es'
  have ih:=Ents.find (prog:=prog) (w:=w) (k:=k) t;rw [List.findIdx?_cons,B6];have hi:(intKind prog w).is k (J5 k' tk)=decide (k=k'):=by
   by_cases e:k=k'
   ·simp [intKind,m7,e]
   ·have e':¬ k'=k:=fun z=>e z.symm;simp [intKind,m7,e,e']
  dsimp only;rw [hi];by_cases e:k=k'
  ·simp [e]
  ·simp only [e,decide_false,E1,if_false,false_or,k9];exact ih
def byT (w:World):Bool:=w.params.followText "set-order"
def SetI (w:World) (a:Addr) (zs:List Int) (h:Heap):Prop:=
 ∃ (es:Array (Int × Value)) (ep:Nat) (t:SetTable) (ks:List Int),h.get? a=some { cls:=.type "set",data:=.set es ep t }/\T7 (byT w) t es.size/\Ents ks es.toList/\ks.Perm zs/\zs.Nodup/\zs.length<=4
theorem SetI.at {w:World} {a:Addr} {zs:List Int} {h h':Heap} (x:SetI w a zs h) (k:∀ o,h.get? a=some o->h'.get? a=some o):SetI w a zs h':=
 let ⟨es,ep,t,ks,h1,r⟩:=x;⟨es,ep,t,ks,k _ h1,r⟩
theorem T7.fits {b:Bool} {t:SetTable} {n:Nat} (T:T7 b t n) (hn:n<=7):t.fits n=true:=by
 unfold A10 A11;rw [T.size,T.dum,T.mask];have:((#[]:Array Nat)).size=0:=rfl;simp only [this,beq_self_eq_true,A12,decide_eq_true_eq];omega
def addI (zs:List Int) (k:Int):List Int:=if k ∈ zs then zs else zs++[k]
section
variable {prog:Program} {w:World} {A:Around} {E:Value->Shared->Prop} {s:Shared}
theorem SetI.size {a:Addr} {zs:List Int} {h:Heap} {es:Array (Int × Value)} {ks:List Int} (he:Ents ks es.toList) (hp:ks.Perm zs):es.size=zs.length:=by
 rw [<- hp.length_eq,C7 he,D7]
theorem qUZ {a:Addr} {zs:List Int} {k:Int} {tk:Tok} {Q:Bool->Shared->Prop} (hS:SetI w a zs s.heap) (hroom:zs.length<=3\/k ∈ zs)
  (h:∀ h',Heap.SameBut a s.heap h'->SetI w a (addI zs k) h'->∀ b,Q b { s with heap:=h' }):wpAny (model prog w) A (setAddHashed a (.int k tk) (hashInt k)) Q E s:=by
 obtain ⟨es,ep,t,ks,ho,T,he,hp,hnd,hlen⟩:=id hS;have hsz:es.size=zs.length:=SetI.size (a:=a) (h:=s.heap) he hp;have hel:ElemsOf (intKind prog w) es.toList:=he.elems;have hb:es.size<scanBound:=by rw [hsz];unfold scanBound;omega
 have hf:t.fits es.size=true:=T.fits (by omega)
 unfold setAddHashed setAddHashedIn;refine wpAny_holding (wpAny_bind (wpAny_setState_of ho rfl hf ?_));dsimp only;rw [byScan_of (knd:=intKind prog w) (x:=.int k tk) rfl hb hel];simp only [↓reduceIte];unfold setAddByScan;refine wpAny_bind ?_;refine wpAny_bind (wpAny_rule ?_);refine wpAny_bind (wpAny_setScan_of (knd:=intKind prog w) (k:=k) (intKind_is _ _ _ _) ho rfl hf hel ?_);have hfd:=Ents.find (prog:=prog) (w:=w) (k:=k) he;cases hr:A70 (fun e=>(intKind prog w).is k e.2) es.toList with
 | some j=>
  dsimp only;rw [hr] at hfd;have hk:k ∈ zs:=hp.mem_iff.mp (hfd.mp rfl);refine wpAny_pure (wpAny_pure ?_);have e:s={ s with heap:=s.heap }:=by cases s;rfl
  rw [e];refine h s.heap (Heap.SameBut.refl a s.heap) ?_ _;unfold addI;rw [if_pos hk];exact hS
 | none=>
  dsimp only;rw [hr] at hfd;have hk:¬ k ∈ zs:=fun z=>by have:=hfd.mpr (hp.mem_iff.mpr z);cases this
  have h3:zs.length<=3:=hroom.resolve_right hk;obtain ⟨p,t',e1,T',tf,hpe⟩:=T.lay (by omega) rfl (hashInt k) (.int k tk)
  rw [e1];dsimp only;refine wpAny_bind (wpAny_pure ?_);rw [T'.plain];simp only [↓reduceIte];rw [hashByValue_scannable 8 (x:=.int k tk) rfl];refine wpAny_bind (wpAny_pure ?_);have hszE:(F0 es p (hashInt k,J5 k tk)).size=es.size+1:=by
   rw [<- D7,qCH,A7,E3,D1,O3,D7];omega
  rw [show plainKind (J5 k tk)=true from rfl];simp only [↓reduceIte];show wpAny _ _ (storeSet a (F0 es p (hashInt k,.int k tk)) t' >>= _) _ _ _;refine wpAny_bind (wpAny_storeSet_of ho rfl ?_ (by rw [hszE,hsz,sizeLine_eq];omega))
  rw [tf];simp only [y3,E1,↓reduceIte];refine wpAny_pure (wpAny_pure ?_);refine h _ (U8 s.heap a _) ?_ _;have hg:(s.heap.update a (Obj.putSet (F0 es p (hashInt k,.int k tk)) t')).get? a=some { cls:=.type "set",data:=.set (F0 es p (hashInt k,.int k tk)) (ep+1) t' }:=by
   have:=L9 (Obj.putSet (F0 es p (hashInt k,.int k tk)) t') ho (by rw [putSet_of _ _ (ep:=ep) (es:=es) (t:=t) rfl];rfl)
   rw [putSet_of _ _ (ep:=ep) (es:=es) (t:=t) rfl] at this;exact this
  have hpm:(F0 es p (hashInt k,J5 k tk)).toList.Perm (es.toList++[(hashInt k,.int k tk)]):=by
   rw [qCH];have e3:es.toList++[(hashInt k,J5 k tk)]=es.toList.take p++(es.toList.drop p++[(hashInt k,J5 k tk)]):=by
    rw [<- O7,M3]
   rw [e3];exact t6 _ (List.perm_append_singleton _ _).symm
  obtain ⟨ks',h4,h5⟩:=Ents.perm (ks:=ks++[k]) (Z2 he ⟨tk,rfl⟩) hpm;refine ⟨_,_,t',ks',hg,by rw [hszE];exact T',h4,?_,?_,?_⟩
  ·unfold addI;rw [if_neg hk];exact h5.trans (hp.append_right _)
  ·unfold addI;rw [if_neg hk];exact qL3 hnd hk
  ·unfold addI;rw [if_neg hk,A7,C3];omega
end
def dedI:List Int->List Int:=fun l=>l.foldl addI []
theorem qWH (zs:List Int) (k:Int):(addI zs k).length<=zs.length+1:=by
 unfold addI
 split <;> simp
theorem qE1:∀ (l zs:List Int),(l.foldl addI zs).length<=zs.length+l.length
 | [],zs=>by simp
 | k::r,zs=>by
  have h1:=qE1 r (addI zs k);have h2:=qWH zs k;rw [Y2,E3];omega
section
variable {prog:Program} {w:World} {A:Around} {R:Result->Shared->Prop} {I:Addr} {fp wr:List Addr} {G:Array GenState->Array GenState->Prop} {n:Nat} {P:Nat->Value->Prop} {St:Nat->Shared->Prop}
theorem qM2 (W:WalksS prog w A.in1 I fp wr G n P St) (S:Addr) (hSf:S ∉ fp) (ns:List Int) (hnn:ns.length=n) (h4:n<=4) (hval:∀ i v,P i v->∃ t,v=.int (ns.getD i 0) t) :
  ∀ (k i:Nat) (s:Shared),n - i=k->i<=n->St i s->SetI w S (dedI (ns.take i)) s.heap->
   (∀ s',Moved (S::wr) G s s'->SetI w S (dedI ns) s'.heap->R (.ok (.ret .none)) s')->
   codeAny (model prog w) A (.builtin "set.update.loop" ⟨[.ref S,.ref I],[]⟩) R s:=by
 have hSw:S ∉ wr:=fun h=>hSf (W.sub _ h);have hsub:∀ b ∈ wr,b ∈ S::wr:=fun b hb=>A5 _ hb;intro k
 induction k with
 | zero=>
  intro i s hk hi hst hS hR;have hin:i=n:=by omega
  subst hin;refine codeAny_builtin F.entry_set_update_loop ?_;rw [L5 F.plain_set_update_loop _];show wpAny _ A.in1 (pyNext (.ref I) >>= _) _ _ s;refine wpAny_bind (W.done s _ _ hst fun s' hm=>?_);show wpAny _ A.in1 (ret P1) _ _ s';rw [G0 (by omega)] at hS
  exact wpAny_pure (hR s' (hm.mono hsub) (hS.at fun o e=>hm.heap S _ hSw e))
 | succ k ih=>
  intro i s hk hi hst hS hR;have hlt:i<n:=by omega
  refine codeAny_builtin F.entry_set_update_loop ?_;rw [L5 F.plain_set_update_loop _];show wpAny _ A.in1 (pyNext (.ref I) >>= _) _ _ s;refine wpAny_bind (W.item i s _ _ hlt hst fun v s' hP hst' hm=>?_);obtain ⟨t,rfl⟩:=hval i v hP;have hS':SetI w S (dedI (ns.take i)) s'.heap:=hS.at fun o e=>hm.heap S _ hSw e;show wpAny _ A.in1 (holding [J5 (ns.getD i 0) t] (setAdd S (.int (ns.getD i 0) t)) >>= _) _ _ s';refine wpAny_bind (wpAny_holding ?_);unfold setAdd;refine wpAny_holding ?_;refine wpAny_bind ((intKind prog w).pyHash (k:=ns.getD i 0) (intKind_is _ _ _ _) ?_);have hroom:(dedI (ns.take i)).length<=3:=by
   have:=qE1 (ns.take i) [];rw [D1] at this;unfold dedI;simp at this;omega
  refine qUZ (s:={ s' with toks:=s'.toks+1 }) hS' (.inl hroom) fun h' hsb hS2 b=>?_;have e2:addI (dedI (ns.take i)) (ns.getD i 0)=dedI (ns.take (i+1)):=by
   have hi':i<ns.length:=by omega
   rw [C4,A1 hi',C0];unfold dedI;rw [A26,Y2,A58,P6,A1 hi',R8]
  rw [e2] at hS2;refine wpAny_pure ⟨plainId_quiet F.plain_set_update_loop _,ih (i+1) _ (by omega) hlt (W.frame _ s' _ _ hst' (X4 _) fun b hb o e=>?_) hS2 fun s'' hm'' hS''=>?_⟩
  ·rw [hsb.2 b (fun h:b=S=>hSf (by rw [<- h];exact hb))];exact e
  ·refine hR s'' (Moved.trans W.gtrans ((hm.mono hsub).then_heap (X4 _) fun b o hb e=>?_) hm'') hS'';rw [hsb.2 b (fun h:b=S=>hb (by rw [h];exact A6))];exact e
end
end L2
namespace L2
open PySem PySem.Spec PyProof.Rows
abbrev qCI (w:World):Obj:={ cls:=.type "set",dict:=none,data:=.set #[] 0 (.fresh 0 0 (!byT w)) }
section
variable {prog:Program} {w:World} {A:Around} {E:Value->Shared->Prop} {s:Shared}
theorem qRX (a:Value) {Q₁:Value->Shared->Prop} (h:Q₁ (.ref s.heap.objs.size) { s with heap:=s.heap.push (qCI w) }) :
  codeAny (model prog w) A (.call (.builtin "set.__new__") ⟨[.type "set",a],[]⟩) (wants Q₁ E) s:=by
 refine codeAny_of_tree ?_;show wpAny _ A.in1 (do checkBuiltinCall "set.__new__" ⟨[.type "set",a],[]⟩;again (.builtin "set.__new__" ⟨[.type "set",a],[]⟩)) _ _ s
 refine wpAny_bind (wpAny_of_eq (F.newCall_set_1 a) (wpAny_pure ⟨plainId_quiet F.plain_set_new _,codeAny_builtin F.entry_set_new ?_⟩));rw [L5 F.plain_set_new _];unfold Builtin.«set.__new__» A57;have hsub:=sub_set_self;obtain ⟨hp,g,d,tk,os⟩:=s;dsimp only
 wp_walk
 refine wpAny_askSetting (wpAny_pure ?_);dsimp only;simp only [newObj];refine wpAny_bind (wpAny_alloc (wpAny_pure ?_));exact wpAny_pure h
theorem SetI.fresh {a:Addr} {h:Heap} (e:h.get? a=some (qCI w)):SetI w a [] h:=
 ⟨#[],0,_,[],e,⟨rfl,rfl,rfl,rfl,rfl,.nil,fun _ z=>nomatch z⟩,.nil,.refl _,.nil,D3 _⟩
set_option maxHeartbeats 3200000 in
theorem qR8 {l:Addr} {items:Array Value} {ns:List Int} {Q:Value->Shared->Prop} (hh:A.handled=none) (hl:s.heap.IsList l items) (hi:IntsAre items.toList ns) (h4:items.size<=4)
  (h:∀ (h':Heap) (tk:Nat),SetI w s.heap.objs.size (dedI ns) h'->(∀ b o,s.heap.get? b=some o->h'.get? b=some o)->Q (.ref s.heap.objs.size) { s with heap:=h',toks:=tk }) :
  wpAny (model prog w) A (call (.type "set") [.ref l]) Q E s:=by
 have hlen:ns.length=items.size:=by have:=IntsAre.length hi;simpa using this.symm
 obtain ⟨c,tl,hmro⟩:=W2.mro;have hmade:=W2.made;have hsub:=W2.sub;refine wpAny_call (codeAny_of_tree ?_);show wpAny _ _ (callAny (.type "set") _) _ _ _;refine wpAny_pure ⟨Code.quiet_builtin _ (by decide +kernel),codeAny_builtin F.entry_type_call ?_⟩
 rw [Around.under_plain (weight_type_call_type "set" [.ref l] []) rfl];have h1:=W2.notType;have h2:=W2.canCreate;have hct:=F.typeCall_set_1 (.ref l)
 repeat (any_goals (first | assumption | wp_step))
 refine codeAny_mono (qRX (.ref l) (E:=E) (Q₁:=fun obj s₁=>obj=.ref s.heap.objs.size/\s₁={ s with heap:=s.heap.push (qCI w) }) ⟨rfl,rfl⟩) fun r s₁ hr=>?_;cases r with
 | error e=>exact hr
 | ok fl=>
  cases fl with
  | ret obj=>
   obtain ⟨rfl,rfl⟩:=hr;have hS:(s.heap.push (qCI w)).get? s.heap.objs.size=some (qCI w):=B5 _ rfl;have hT:Shared.TypeIs { s with heap:=s.heap.push (qCI w) } (.ref s.heap.objs.size) "set":=⟨_,hS,rfl⟩;have hli:=W2.init.lookup;have hbi:=W2.init.bind (.ref s.heap.objs.size)
   repeat (any_goals (first | assumption | wp_step))
   refine codeAny_mono (codeAny_call_builtin (R:=wants (fun r s₂=>r=.none/\∃ h' tk,s₂={ s with heap:=h',toks:=tk }/\SetI w s.heap.objs.size (dedI ns) h'/\
     (∀ b o,s.heap.get? b=some o->h'.get? b=some o)) E) W2.init.plain F.entry_set_init (check_set_init_1 hT ?_)) fun r₂ s₂ hr₂=>?_
   ·obtain ⟨ol,hol,hcl,nl,hdl⟩:=hl;obtain ⟨ocls,odict,odata,oslots⟩:=ol;simp only at hcl hdl;subst hcl;subst hdl;have hol':(s.heap.push (qCI w)).get? l=some { cls:=.type "list",dict:=odict,data:=.seq items nl,slots:=oslots }:=A2 _ hol;have hsls:=F.sub_list_set;have hslf:=F.sub_list_frozenset;have hne:(c9 "list" == c9 "dict")=false:=by decide
    have hl1:(s.heap.push (qCI w)).IsList l items:=⟨_,hol',rfl,nl,rfl⟩;unfold Builtin.«set.__init__» noKeywords A47;generalize hPI:pyIter=PI
    wp_walk
    subst hPI;refine wpAny_pyIter_list hl1 ?_;refine wpAny_bind (wpAny_runValue ?_);have hlS:l<s.heap.objs.size:=B7 hol;have hh3:A.in1.in1.in1.handled=none:=by simp [hh]
    have hneI:l ≠ (s.heap.push (qCI w)).objs.size:=by
     rw [L0];exact D4 (O8 hlS)
    have hSf:s.heap.objs.size ∉ [(s.heap.push (qCI w)).objs.size,l]:=by
     rw [L0];simp only [B6,A3,Q1,or_false,not_or];exact ⟨D4 (Nat.lt_succ_self _),S9 hlS⟩
    have hval:∀ (i:Nat) (v:Value),items[i]?=some v->∃ t,v=.int (ns.getD i 0) t:=fun i v hv=>
     d6 hi i v (by rw [J6];exact hv)
    refine qM2 ((A27 hh3 _ l hneI items).toS) s.heap.objs.size hSf ns hlen h4 hval (items.size - 0) 0 _ (by omega) (D3 _)
     ⟨⟨_,B5 _ rfl,rfl,rfl⟩,(hl1.push _)⟩ ?hS0 ?hR
    case hS0=>exact SetI.fresh (A2 _ hS)
    case hR=>
     intro s' hm hS';obtain ⟨h',g',d',tk',os'⟩:=s';have eg:g'=s.gens:=hm.gens;have ed:d'=s.drawn:=hm.drawn;have eo:os'=s.os:=hm.os;subst eg;subst ed;subst eo;show wpAny _ _ _ _ _ _;refine wpAny_pure ?_;show wpAny _ _ (ret P1) _ _ _;refine wpAny_pure ⟨rfl,h',tk',rfl,hS',fun b o e=>?_⟩;have hb:=B7 e;have hb1:b ≠ s.heap.objs.size:=D4 hb;have hb2:b ≠ (s.heap.push (qCI w)).objs.size:=by
      rw [L0];exact D4 (O8 hb)
     exact hm.heap b o (by simp only [B6,A3,Q1,or_false,not_or];exact ⟨hb1,hb2⟩) (A2 _ (A2 _ e))
   ·cases r₂ with
    | error e=>exact hr₂
    | ok fl₂=>
     cases fl₂ with
     | ret r=>
      obtain ⟨rfl,h',tk,rfl,hS',hk'⟩:=hr₂
      repeat (any_goals (first | assumption | wp_step))
      exact h _ _ hS' hk'
     | next=>exact hr₂
     | brk=>exact hr₂
     | cont=>exact hr₂
  | next=>exact hr
  | brk=>exact hr
  | cont=>exact hr
end
end L2
namespace L2
open PySem PySem.Spec PyProof.Rows
theorem slot_si_next:Slot "set_iterator" "__next__" "set_iterator.__next__":=
 .of (owner:="set_iterator") (n:="__next__") (by rw [typeLookup_type,builtinLookup_eq_fast];kernel_rfl) (by decide +kernel) (by decide +kernel) (by decide +kernel)
  (by first | exact .inl (by decide +kernel) | exact .inr (by decide +kernel)) (by rw [isSubtype_type];kernel_rfl)
theorem qHE:Slot "set_iterator" "__iter__" "set_iterator.__iter__":=
 .of (owner:="set_iterator") (n:="__iter__") (by rw [typeLookup_type,builtinLookup_eq_fast];kernel_rfl) (by decide +kernel) (by decide +kernel) (by decide +kernel)
  (by first | exact .inl (by decide +kernel) | exact .inr (by decide +kernel)) (by rw [isSubtype_type];kernel_rfl)
theorem qGQ:entryFor table "set_iterator.__next__" = some Builtin.«set_iterator.__next__»:=entryFor_of_tree (by kernel_rfl)
theorem qLE:entryFor table "set_iterator.__iter__" = some Builtin.«dict_keyiterator.__iter__»:=
 entryFor_alias (id':="dict_keyiterator.__iter__") (by kernel_rfl) rfl (by decide +kernel) (by kernel_rfl)
theorem qJQ:entryFor table "set.__iter__" = some Builtin.«frozenset.__iter__»:=
 entryFor_alias (id':="frozenset.__iter__") (by kernel_rfl) rfl (by decide +kernel) (by kernel_rfl)
theorem qPJ:Manifest.owners.lookup (String.ofList "set_iterator".toList.reverse.reverse)=some Manifest.sig_set_iterator:=by kernel_rfl
theorem qHN (a:Value):argsOk "set_iterator.__next__" ⟨[a],[]⟩:=by
 unfold argsOk;rw [signature?_of (id:="set_iterator.__next__") (n:="__next__".toList.reverse) (o:="set_iterator".toList.reverse) (by kernel_rfl) qPJ];kernel_rfl
theorem qNQ (a:Value):argsOk "set_iterator.__iter__" ⟨[a],[]⟩:=by
 unfold argsOk;rw [signature?_of (id:="set_iterator.__iter__") (n:="__iter__".toList.reverse) (o:="set_iterator".toList.reverse) (by kernel_rfl) qPJ];kernel_rfl
def qER (w:World) (a:Addr) (ep:Nat) (es:Array (Int × Value)):List (Int × Value):=if byT w=true then (pickOrder (w.params.setOrder a ep) es).toList else es.toList
def qEU (w:World) (t:SetTable) (i:Nat):Nat:=if byT w=true then 0 else if i=0 then 0 else t.place.getD (i - 1) 0+1
theorem qEQ (w:World) (a:Addr) (ep:Nat) (es:Array (Int × Value)):(qER w a ep es).Perm es.toList:=by
 unfold qER
 split
 ·exact qS9 _ _
 ·exact .refl _
theorem T7.below_at {b:Bool} {t:SetTable} {n:Nat} (T:T7 b t n) (i:Nat) (hi:i<=n):D9 t.place (if i=0 then 0 else t.place.getD (i - 1) 0+1)=i:=by
 obtain ⟨b1,b2,b3⟩:=qHA (j:=if i=0 then 0 else t.place.getD (i - 1) 0+1) T.up
 have hs:=T.size;have gd:∀ a c d,a<t.place.size->t.place.getD a c=t.place.getD a d:=fun a c d ha=>by
  rw [F4,F4,D2 ha]
  rfl
 by_cases h0:i=0
 ·rw [if_pos h0] at b1 b2 b3 ⊢;subst h0;apply Nat.eq_zero_of_not_pos;intro z;have:=b2 0 z;omega
 ·rw [if_neg h0] at b1 b2 b3 ⊢;have h1:¬ D9 t.place (t.place.getD (i - 1) 0+1)<i:=fun z=>by
   have:=b3 (i - 1) (by omega) (by omega)
   rw [gd (i - 1) (t.place.getD (i - 1) 0+1) 0 (by omega)] at this
   omega
  have h2:¬ i<D9 t.place (t.place.getD (i - 1) 0+1):=fun z=>by
   have q:=b2 i z;have:=qXD 0 T.up (i - 1) i (by omega) (by omega)
   rw [gd i (t.place.getD (i - 1) 0+1) 0 (by omega)] at q
   omega
  omega
def SetIt (w:World) (a I:Addr) (es:Array (Int × Value)) (ep:Nat) (t:SetTable) (i:Nat) (h:Heap):Prop:=
 (∃ o,h.get? I=some o/\o.cls=.type "set_iterator"/\o.data=.fields #[.int (qEU w t i) 0,.int i 0,.ref a,.int es.size 0,.int ep 0])/\h.get? a=some { cls:=.type "set",data:=.set es ep t }
section
variable {prog:Program} {w:World} {A:Around} {E:Value->Shared->Prop} {s:Shared} {a I:Addr} {es:Array (Int × Value)} {ep:Nat} {t:SetTable} {i:Nat}
theorem SetIt.typeIs (x:SetIt w a I es ep t i s.heap):s.TypeIs (.ref I) "set_iterator":=let ⟨⟨o,h1,h2,_⟩,_⟩:=x;⟨o,h1,h2⟩
theorem qM3 {Q:Option (Value × Nat)->Shared->Prop} (T:T7 (byT w) t es.size) (h8:es.size<=7) (ho:s.heap.get? a=some { cls:=.type "set",data:=.set es ep t }) (hi:i<=es.size)
  (h:Q (match (qER w a ep es)[i]? with | some e=>some (e.2,qEU w t (i+1)) | none=>none) s):wpAny (model prog w) A (setNext a (qEU w t i) i ep) Q E s:=by
 have hf:=T.fits h8;unfold setNext;refine wpAny_bind (wpAny_setState_of ho rfl hf ?_);dsimp only;unfold setsByText;refine wpAny_bind (wpAny_bind (wpAny_askSetting (wpAny_pure ?_)));show wpAny _ _ (if byT w=true then _ else _) _ _ _
 cases hb:byT w with
 | true=>
  rw [if_pos rfl];simp only [bne_self_eq_false,E1,if_false];refine wpAny_bind ?_;unfold setWalk;refine wpAny_bind (wpAny_setState_of ho rfl hf ?_);dsimp only;unfold setsByText;refine wpAny_bind (wpAny_bind (wpAny_askSetting (wpAny_pure ?_)));show wpAny _ _ (if byT w=true then _ else _) _ _ _
  rw [hb,if_pos rfl];refine wpAny_bind (wpAny_askSetting (wpAny_pure (wpAny_pure ?_)));have e:qER w a ep es=(pickOrder (w.params.setOrder a ep) es).toList:=by unfold qER;rw [if_pos hb]
  have e2:∀ j,qEU w t j=0:=fun j=>by unfold qEU;rw [if_pos hb]
  rw [e,J6,e2] at h;rw [e2];show Q (Option.map _ (pickOrder (w.params.setOrder a ep) es)[i]?) s;cases hx:(pickOrder (w.params.setOrder a ep) es)[i]? with
  | none=>rw [hx] at h;exact h
  | some v=>rw [hx] at h;exact h
 | false=>
  rw [if_neg (by simp)]
  show wpAny _ _ (if (!t.plain && decide (es.size > 1))=true then _ else _) _ _ _
  rw [T.plain];simp only [A13,j8,E1,if_false];refine wpAny_bind ?_;show wpAny _ _ (if (!t.led && !es.isEmpty)=true then _ else _) _ _ _
  rw [T.led,hb];simp only [Bool.not_false,A13,j8,E1,if_false];refine wpAny_pure (wpAny_pure ?_);have e:qER w a ep es=es.toList:=by unfold qER;rw [if_neg (by rw [hb];simp)]
  have e2:∀ j,qEU w t j=if j=0 then 0 else t.place.getD (j - 1) 0+1:=fun j=>by unfold qEU;rw [if_neg (by rw [hb];simp)]
  rw [e,J6] at h;rw [e2,T.below_at i hi];cases hx:es[i]? with
  | none=>rw [hx] at h;exact h
  | some v=>
   rw [hx] at h;have hlt:i<t.place.size:=by rw [T.size];exact (Array.getElem?_eq_some_iff.mp hx).1
   rw [D2 hlt];dsimp only at h ⊢;have e3:qEU w t (i+1)=t.place[i]+1:=by
    rw [e2,if_neg (by omega),Nat.add_sub_cancel,F4,D2 hlt]
    rfl
   rw [e3] at h;exact h
theorem qXL {Q:Option Value->Shared->Prop} (T:T7 (byT w) t es.size) (h8:es.size<=7) (hit:SetIt w a I es ep t i s.heap) (hne:a ≠ I) {e:Int × Value} (hx:(qER w a ep es)[i]?=some e)
  (hQ:∀ h',SetIt w a I es ep t (i+1) h'->(∀ b o,b ≠ I->s.heap.get? b=some o->h'.get? b=some o)->Q (some e.2) { s with heap:=h' }):wpAny (model prog w) A (pyNext (.ref I)) Q E s:=by
 obtain ⟨⟨o,ho,hc,hd⟩,hs⟩:=id hit;have hi:i<es.size:=by
  have:=(A4.mp hx).1;rw [(qEQ w a ep es).length_eq,D7] at this;exact this
 unfold pyNext;refine wpAny_bind (wpAny_attempt (wpAny_callSpecial?_slot (name:=E4 "__next__") hit.typeIs slot_si_next (wpAny_call_entry slot_si_next hit.typeIs qGQ ?_ (qHN _))));unfold Builtin.«set_iterator.__next__»;refine wpAny_bind (wpAny_pure ?_);refine wpAny_bind (wpAny_fieldsOf ho hd ?_);dsimp only;unfold setEntries;refine wpAny_bind (wpAny_bind (wpAny_setState_of hs rfl (T.fits h8) (wpAny_pure ?_)));rw [if_neg (by simp)]
 simp only [F7];refine wpAny_bind (qM3 T h8 hs (Q8 hi) ?_);rw [hx];dsimp only;show wpAny _ _ (setField (.ref I) 0 (rawInt _) >>= _) _ _ s;refine wpAny_bind (wpAny_setField ho hd (by simp) ?_)
 have g1:=L9 (c6 (·.setIfInBounds 0 (rawInt ((qEU w t (i+1):Nat):Int)))) ho (Z9 (T6 hd _));have d1:=T6 hd (·.setIfInBounds 0 (rawInt ((qEU w t (i+1):Nat):Int)));refine wpAny_bind (wpAny_setField g1 d1 (by simp) ?_)
 have g2:=L9 (c6 (·.setIfInBounds 1 (rawInt ((i:Int)+1)))) g1 (Z9 (T6 d1 _));have d2:=T6 d1 (·.setIfInBounds 1 (rawInt ((i:Int)+1)));refine wpAny_pure ⟨_,rfl,wpAny_pure (hQ _ ⟨⟨_,g2,(l7 ..).trans ((l7 ..).trans hc),?_⟩,?_⟩ fun b o' hb e=>?_)⟩
 ·rw [d2];simp [rawInt]
 ·exact (C2 _ _ (G3 hne)).trans ((C2 _ _ (G3 hne)).trans hs)
 ·exact (C2 _ _ (G3 hb)).trans ((C2 _ _ (G3 hb)).trans e)
theorem qZG {Q:Option Value->Shared->Prop} (hh:A.handled=none) (T:T7 (byT w) t es.size) (h8:es.size<=7) (hit:SetIt w a I es ep t es.size s.heap)
  (hQ:∀ h',(∀ b o,b ≠ I->s.heap.get? b=some o->h'.get? b=some o)->Q none { s with heap:=h' }):wpAny (model prog w) A (pyNext (.ref I)) Q E s:=by
 obtain ⟨⟨o,ho,hc,hd⟩,hs⟩:=id hit;unfold pyNext;refine wpAny_bind (wpAny_attempt (wpAny_callSpecial?_slot (name:=E4 "__next__") hit.typeIs slot_si_next (wpAny_call_entry slot_si_next hit.typeIs qGQ ?_ (qHN _))));unfold Builtin.«set_iterator.__next__»;refine wpAny_bind (wpAny_pure ?_);refine wpAny_bind (wpAny_fieldsOf ho hd ?_);dsimp only;unfold setEntries;refine wpAny_bind (wpAny_bind (wpAny_setState_of hs rfl (T.fits h8) (wpAny_pure ?_)));rw [if_neg (by simp)]
 simp only [F7];have hx:(qER w a ep es)[es.size]?=none:=F5 (by rw [(qEQ w a ep es).length_eq,D7];exact B0 _)
 refine wpAny_bind (qM3 T h8 hs (B0 _) ?_);rw [hx];dsimp only;show wpAny _ _ (setField (.ref I) 2 .none >>= _) _ _ s;refine wpAny_bind (wpAny_setField ho hd (by simp) ?_)
 show wpAny _ _ (newExc (.type "StopIteration") [] >>= _) _ _ _;refine wpAny_bind ?_;simp only [newExc,newTuple];refine wpAny_bind (wpAny_newObj_type ?_ (by size_fits))
 refine wpAny_bind (m:=firstArgMember _ _) (wpAny_of_eq (a:=P1) (by first | rfl | (simp only [firstArgMember];rfl)) ?_)
 refine wpAny_newObj_type ?_ (by size_fits)
 simp only [raiseNew];refine wpAny_bind (wpAny_handled ?_);rw [show A.in1.handled=none from hh];refine wpAny_bind (wpAny_pure (wpAny_throw ?_));refine wpAny_bind (wpAny_isInstance (T:="StopIteration") (b:=true) ⟨_,B5 _ rfl,rfl⟩ isSubtype_stop ?_);exact wpAny_pure (hQ _ (((U8 ..).extBut.push _).push _))
theorem qXK {Q:Value->Shared->Prop} (hit:SetIt w a I es ep t i s.heap) (h:Q (.ref I) s):wpAny (model prog w) A (pyIter (.ref I)) Q E s:=by
 refine wpAny_pyIter_slot hit.typeIs qHE (wpAny_call_entry qHE hit.typeIs qLE ?_ (qNQ _));show wpAny _ _ (ret (.ref I)) _ _ s;exact wpAny_pure ⟨_,rfl,"set_iterator",_,hit.typeIs,slot_si_next.lookup,h⟩
theorem qZF {Q:Value->Shared->Prop} (T:T7 (byT w) t es.size) (h8:es.size<=7) (hs:s.heap.get? a=some { cls:=.type "set",data:=.set es ep t })
  (hQ:Q (.ref s.heap.objs.size) { s with heap:=s.heap.push { cls:=.type "set_iterator",data:=.fields #[.int 0 0,.int 0 0,.ref a,.int es.size 0,.int ep 0] } }):wpAny (model prog w) A (pyIter (.ref a)) Q E s:=by
 have hT:s.TypeIs (.ref a) "set":=⟨_,hs,rfl⟩;have hf:=T.fits h8;refine wpAny_pyIter_slot hT F.slot_set_iter (wpAny_call_entry F.slot_set_iter hT qJQ ?_ (F.args_set_iter_1 _));unfold Builtin.«frozenset.__iter__» A71 A66 setEntries;refine wpAny_bind (wpAny_bind (wpAny_pure ?_));show wpAny _ _ (pure a) _ _ s;refine wpAny_pure ?_;refine wpAny_bind (wpAny_bind (wpAny_bind (wpAny_setState_of hs rfl hf (wpAny_pure (wpAny_pure ?_)))));unfold setDrawn setsByText;refine wpAny_bind (wpAny_bind (wpAny_setState_of hs rfl hf ?_));dsimp only;refine wpAny_bind (wpAny_bind (wpAny_askSetting (wpAny_pure (wpAny_pure ?_))));show wpAny _ _ (if (!byT w && (!t.plain && decide (es.size > 1)))=true then _ else _) _ _ _
 rw [T.plain];simp only [A13,j8,y3,E1,if_false];refine wpAny_bind (wpAny_pure ?_);unfold setEpoch;refine wpAny_bind (wpAny_bind (wpAny_setState_of hs rfl hf (wpAny_pure ?_)));refine wpAny_bind (wpAny_newObj_type (wpAny_pure ⟨_,rfl,"set_iterator",_,⟨_,B5 _ rfl,rfl⟩,slot_si_next.lookup,?_⟩));simpa [rawInt] using hQ
theorem qXM {Q:Bool->Shared->Prop} (hT:s.TypeIs (.ref a) "set") (h:Q false s):wpAny (model prog w) A (d7 (.ref a)) Q E s:=by
 unfold d7;refine wpAny_bind (wpAny_specialOf hT PySem.F.slot_set_len.lookup ?_);generalize hid:("set.__len__" : String)=id0
 wp_delta
 rw [show splitId id0=some ("set","__len__") from by subst hid;decide +kernel]
 subst hid;refine wpAny_bind (wpAny_isInstance (T:="set") (b:=true) hT (by rw [isSubtype_type];kernel_rfl) ?_)
 refine wpAny_ite_split (fun hab=>absurd hab (by decide)) (fun _=>?_)
 refine wpAny_ite_split (fun _=>?_) (fun hab=>absurd (by decide +kernel) hab)
 refine wpAny_bind (wpAny_typeOf hT ?_);exact wpAny_pure h
theorem qZE (T:T7 (byT w) t es.size) (h8:es.size<=7):PySem.W.KdlSrc prog w "set" a a es.size (fun i v=>∃ e,(qER w a ep es)[i]?=some e/\v=e.2) (fun h=>h.get? a=some { cls:=.type "set",data:=.set es ep t }) where
 type:=fun s h=>⟨_,h,rfl⟩
 there:=fun h x=>⟨B7 x,B7 x⟩
 keep:=fun h h' x k=>k a (.inl rfl) _ x
 notList:=by decide
 notTuple:=by decide
 hint:=fun A E s Q x q=>qXM ⟨_,x,rfl⟩ q
 iter:=fun A s hh x=>by
  have hne:a ≠ s.heap.objs.size:=D4 (B7 x);refine ⟨_,fun i h=>SetIt w a s.heap.objs.size es ep t i h,fun E Q q=>qZF T h8 x q,?_,⟨⟨_,B5 _ rfl,rfl,?_⟩,A2 _ x⟩⟩
  ·refine ⟨fun b hb=>?_,fun i h h' st k=>?_,fun i s' Q E hi st q=>?_,fun s' Q E st q=>?_,fun i s' Q E st q=>qXK st q⟩
   ·have e:b=s.heap.objs.size:=by simpa using hb
    simp [e]
   ·obtain ⟨⟨o,h1,h2,h3⟩,h4⟩:=st;exact ⟨⟨o,k _ (by simp) _ h1,h2,h3⟩,k _ (by simp) _ h4⟩
   ·have hl:i<(qER w a ep es).length:=by rw [(qEQ w a ep es).length_eq,D7];exact hi
    refine qXL T h8 st hne (A1 hl) fun h' st' k=>?_;exact q _ h' s'.toks ⟨_,A1 hl,rfl⟩ st' fun b o hb e=>k b o (fun z=>hb (by simp [z])) e
   ·refine qZG hh T h8 st fun h' k=>?_;exact q h' s'.toks fun b o hb e=>k b o (fun z=>hb (by simp [z])) e
  ·unfold qEU
   split <;> rfl
end
end L2
namespace L2
open PySem PySem.Spec PyProof.Rows
theorem qBN {ns:List Int}:∀ {us:List Value},Vals (ns.map V.int) us->IntsAre us ns:=by
 induction ns with
 | nil=>intro us h;cases h;exact .nil
 | cons n r ih=>
  intro us h;cases h with
  | cons r1 r2=>
   obtain ⟨t,rfl⟩:=r1;exact IntsAre.cons _ _ (ih r2)
theorem qES:∀ {us:List Value} {ns:List Int},IntsAre us ns->Vals (ns.map V.int) us:=qID
section
variable {X:Cx}
def SetO (w:World) (a:Addr) (zs:List Int):HO:=.ext (SetI w a zs)
theorem qQ6 (hc:X.calm=true):qDM X (.type "set") (fun xs H Q=>∃ p ns,xs=[.ref p]/\SqL X.K H p (ns.map V.int)/\ns.length<=4/\∀ a,H a=none->Q (.ref a) (upd H a (SetO X.w a (dedI ns)))):=by
 intro Ab s σ H xs us Q I r h;obtain ⟨p,ns,rfl,hq,h4,q⟩:=h;obtain ⟨u,rfl,rx⟩:=qEO r;cases rx;obtain ⟨its,rv,pl,hz⟩:=I.list hq;have hlen:=rv.length;rw [A0] at hlen;refine qR8 (ns:=ns) (I.ok.hd hc) pl.isList (by simpa using qBN rv) (by simp;omega) fun h' tk hS hk=>?_
 refine ⟨.ref s.heap.objs.size,_,I.laid (t':=tk) hk (B0 _) ?_,rfl,q _ (I.hok.fresh (B0 _))⟩;obtain ⟨es,ep,t,ks,e,_⟩:=id hS;exact ⟨hS,⟨_,e⟩,fun h1 h2 x k=>x.at k⟩
theorem Inv.track {Ab:List (Addr × Obj)} {s:Shared} {σ:St} {H:Hp} {T:Addr} {o:HO} (I:Inv X Ab σ H s) (h0:H T=none) (h1:X.s₀.heap.objs.size<=T) (h2:T ≠ X.env.locals) (h3:∀ x c,X.env.cells.lookup x=some c->c ≠ T) (h4:∀ p ∈ X.pn++Ab,p.1 ≠ T)
  (new:ObjOk X.prog X.w (upd H T o) s.heap T o):Inv X Ab σ (upd H T o) s:=by
 have old:∀ b ob,X.s₀.heap.get? b=some ob->b ≠ T:=fun b ob e=>D4 (D5 (B7 e) h1);have some':∀ b u,H b=some u->(upd H T o) b=some u:=fun b u e=>by rw [qA8 (qA5 e h0)];exact e
 refine ⟨I.ok,I.os,I.bare,⟨I.base.keep,I.base.slot,fun b ob e n hx=>?_,I.base.there,fun b xs e=>some' _ _ (I.base.tups b xs e),fun b ob u e=>some' _ _ (I.base.frzs b ob u e),fun b ps e=>?_⟩,I.loc,I.cell,?_,fun x c e=>?_,fun p hp=>?_,fun b u e=>?_,I.len⟩
 ·rw [qA8 (old b ob e)];exact I.base.free b ob e n hx
 ·exact some' _ _ (I.base.tbls b ps e)
 ·rw [qA8 (G3 h2)];exact I.free
 ·rw [qA8 (h3 x c e)];exact I.freeC x c e
 ·obtain ⟨e1,n,r⟩:=I.pin p hp;exact ⟨e1,by rw [qA8 (h4 p hp)];exact n,r⟩
 ·by_cases hb:b=T
  ·subst hb;rw [qA1] at e;cases e;exact new
  ·rw [qA8 hb] at e;exact (I.hok b u e).stay (fun c v _ q=>q) (fun c q=>some' _ _ q) (fun c ys q=>some' _ _ q) fun c t q=>some' _ _ q
theorem qUX {Ab:List (Addr × Obj)} {s:Shared} {σ:St} {H:Hp} {Q:VK} {A:Around} {E:Value->Shared->Prop} {vs:List Value} {ns:List Int} {D:Addr} (I:Inv X Ab σ (upd H D (.lst (ns.map V.int))) s) (hD:H D=none) (h64:ns.length<64)
  (q:∀ ns':List Int,ns'.Perm ns->ns'.Pairwise (·<=·)->Q (.ref D) (upd H D (.lst (ns'.map V.int)))) :
  wpAny (model X.prog X.w) A (call (.builtin "list.sort") [.ref D]) (fun _ s'=>EP X Ab σ Q (.ref D) s') E s:=by
 obtain ⟨z,its,n,rv,hl,e⟩:=I.lstM qA1;have hI:=qBN rv;have hlen:=rv.length;rw [A0] at hlen;refine wpAny_call_entry slot_list_sort ⟨_,e,rfl⟩ entry_list_sort (list_sort_tree (ns:=ns) (n:=n) e hI (by omega) fun out ns' a1 a2 a3=>⟨_,rfl,?_⟩) (args_list_sort _)
 have hat:=sortedHeap_at (vs:=its) (out:=out) e;obtain ⟨e2,hat⟩:=hat;refine ⟨.ref D,upd H D (.lst (ns'.map V.int)),?_,rfl,q ns' a2 a3⟩;have hu:upd (upd H D (.lst (ns.map V.int))) D (.lst (ns'.map V.int))=upd H D (.lst (ns'.map V.int)):=qKM;rw [<- hu];refine I.write (x:=D) (e:=D) (t':=s.toks) (by rw [qA1];exact trivial) (.inl rfl) (fun b u hb hbu=>?_) ⟨_,hat⟩ ?_
 ·rw [sortedHeap_old hb (B7 hbu)];exact hbu
 ·refine ⟨?_,out.toList,e2,qES a1,by simpa using hat⟩
  rw [A0,a2.length_eq,<- A0 (f:=V.int)];exact z
theorem qK3 {Ab:List (Addr × Obj)} {s:Shared} {σ:St} {H:Hp} {vs:List Value} {ns:List Int} (I:Inv X Ab σ H s) (hv:IntsAre vs ns) (hz:ns.length<=sizeLine) :
  Inv X Ab σ (upd H s.heap.objs.size (.lst (ns.map V.int))) { s with heap:=s.heap.push { cls:=.type "list",data:=.seq vs.toArray } }:=
 I.lnew (t':=s.toks) (qES hv) (by rw [A0];exact hz)
theorem qJB (hc:X.calm=true):qDM X (.builtin "sorted") (fun xs H Q=>∃ p ns,xs=[.ref p]/\(SqL X.K H p (ns.map V.int)\/SqT X.K H p (ns.map V.int)\/H p=some (SetO X.w p ns))/\ns.length<64/\
  ∀ (a:Addr) (ns':List Int),H a=none->ns'.Perm ns->ns'.Pairwise (·<=·)->Q (.ref a) (upd H a (.lst (ns'.map V.int)))):=by
 intro Ab s σ H xs us Q I r h;obtain ⟨p,ns,rfl,hq,h64,q⟩:=h;obtain ⟨u,rfl,rx⟩:=qEO r;cases rx;refine j9 kind_sorted plain_sorted entry_sorted (args_sorted1 _) ?_;unfold Builtin.«sorted»;refine wpAny_bind (m:=checkCount "sorted" 1 1 _) (wpAny_pure ?_);have fin:∀ (s1:Shared) (vs:List Value) (zs:List Int),Inv X Ab σ H s1->IntsAre vs zs->zs.Perm ns->wpAny (model X.prog X.w) X.A.in1 (do
   let l <- newList vs
   let _ <- holding [l] (call (.builtin "list.sort") [l] [])
   ret l) (fun fin s'=>∃ r,fin=.done (.ret r)/\EP X Ab σ Q r s') X.xe s1:=by
  intro s1 vs zs I1 hv hp;have hlen:=IntsAre.length hv;have hz:zs.length<=sizeLine:=by rw [hp.length_eq,sizeLine_eq];omega
  refine wpAny_bind (wpAny_newList ?_ (by rw [hlen];exact hz))
  have hf:=I1.hok.fresh (B0 s1.heap.objs.size);refine wpAny_bind (wpAny_holding (wpAny_mono (qUX (E:=X.xe) (vs:=vs) (qK3 I1 hv hz) hf (by rw [hp.length_eq];exact h64) fun ns' a b=>q _ ns' hf (a.trans hp) b) (fun _ s' x=>?_) fun _ _ e=>e))
  exact wpAny_pure ⟨_,rfl,x⟩
 rcases hq with hq | hq | hq
 ·obtain ⟨its,rv,pl,hz⟩:=I.list hq;obtain ⟨o,ho,hc',n,hd⟩:=pl.isList;have hlen:=rv.length;refine wpAny_bind (wpAny_collect_seq p (.inl rfl) ho hc' hd (fun h' hk=>?_) (by simp;omega))
  exact fin _ _ ns (I.kept (t':=s.toks) hk) (by simpa using qBN rv) (.refl _)
 ·obtain ⟨its,rv,pl,hz⟩:=I.tuple hq;obtain ⟨o,ho,hc',n,hd⟩:=pl;have hlen:=rv.length;refine wpAny_bind (wpAny_collect_seq p (.inr rfl) ho hc' hd (fun h' hk=>?_) (by simp;omega))
  exact fin _ _ ns (I.kept (t':=s.toks) hk) (by simpa using qBN rv) (.refl _)
 ·obtain ⟨hS,_,_⟩:=(show ObjOk X.prog X.w H s.heap p (.ext (SetI X.w p ns)) from I.hok p _ hq);obtain ⟨es,ep,t,ks,e,T,he,hp,hnd,h4⟩:=hS;have hsz:es.size=ns.length:=SetI.size (a:=p) (h:=s.heap) he hp;obtain ⟨ks',h1,h2⟩:=he.perm (qEQ X.w p ep es);refine wpAny_bind (A01 (A:=X.A.in1) (qZE (ep:=ep) T (by omega)) (I.ok.hd hc) e (by rw [hsz,sizeLine_eq];omega) fun h' tk acc hk hacc=>?_)
  refine fin _ _ ks' (I.kept (t':=tk) hk) ?_ (h2.trans hp);obtain ⟨l1,l2⟩:=hacc;have key:∀ {ks:List Int} {l:List (Int × Value)},Ents ks l->∀ vs:List Value,vs.length=l.length->(∀ (i:Nat) (v:Value),vs[i]?=some v->∃ e:Int × Value,l[i]?=some e/\v=e.2)->IntsAre vs ks:=by
   intro ks l h
   induction h with
   | nil=>
    intro vs hl _;have:vs=[]:=U7.mp hl;subst this;exact .nil
   | cons r t ih=>
    intro vs hl hv;cases vs with
    | nil=>simp at hl
    | cons v vs=>
     obtain ⟨tk,rfl⟩:=r;obtain ⟨e,he,rfl⟩:=hv 0 v rfl;simp at he;subst he;exact IntsAre.cons _ _ (ih vs (by simpa using hl) fun i v hi=>by simpa using hv (i+1) v (by simpa using hi))
  refine key h1 acc.toList ?_ fun i v hi=>l2 i v (by rw [<- J6];exact hi)
  rw [D7,l1,(qEQ X.w p ep es).length_eq,D7]
end
end L2
namespace L2
open PySem PySem.Spec PyProof.Rows
section
variable {X:Cx}
def qHF (lo hi:Int):List V:=(F6 (hi - lo).toNat).map fun (i:Nat)=>V.int (lo+i)
theorem qU8:qDM X (.type "range") (fun xs H Q=>∃ i j,xs=[.int i,.int j]/\∀ p,H p=none->Q (.ref p) (upd H p (.rng i j))):=by
 intro Ab s σ H xs us Q I r h;obtain ⟨i,j,rfl,q⟩:=h;obtain ⟨u,v,rfl,⟨t,rfl⟩,⟨t',rfl⟩⟩:=qNS r;refine call_range_2 ⟨.ref s.heap.objs.size,_,I.laid (fun b o e=>A2 _ e) (B0 _) ?_,rfl,q _ (I.hok.fresh (B0 _))⟩;exact ⟨_,_,_,B5 _ rfl⟩
theorem qV2 {lo hi:Int} {n:Nat} {acc:List Value} (hn:n=(hi - lo).toNat) (hl:acc.length=n) (h:∀ (i:Nat) (v:Value),acc[i]?=some v->∃ t,v=.int (lo+i * 1) t):Vals (qHF lo hi) acc:=by
 have key:∀ (m:Nat) (acc:List Value),acc.length=m->∀ lo:Int,(∀ (i:Nat) (v:Value),acc[i]?=some v->∃ t,v=.int (lo+i) t)->Vals ((F6 m).map fun (i:Nat)=>V.int (lo+i)) acc:=by
  intro m
  induction m with
  | zero=>
   intro acc hl lo h;have:acc=[]:=U7.mp hl;subst this;exact .nil
  | succ m ih=>
   intro acc hl lo h;cases acc with
   | nil=>simp at hl
   | cons v acc=>
    rw [List.range_succ_eq_map,B9,P5];have h0:=h 0 v rfl;refine .cons h0 ?_;have h1:=ih acc (by simpa using hl) (lo+1) fun i v hi=>by
     have:=h (i+1) v (by simpa using hi)
     obtain ⟨t,e⟩:=this;refine ⟨t,?_⟩;rw [e];congr 1
     push_cast
     omega
    have e:((fun (i:Nat)=>V.int (lo+i)) ∘ Nat.succ)=fun (i:Nat)=>V.int (lo+1+i):=by
     funext i
     simp only [n8];congr 1
     push_cast
     omega
    rw [e];exact h1
 unfold qHF;rw [<- hn];refine key n acc hl lo fun i v hi=>?_;obtain ⟨t,e⟩:=h i v hi;exact ⟨t,by rw [e,Int.mul_one]⟩
theorem qQI (lo hi:Int):(qHF lo hi).length=(hi - lo).toNat:=by unfold qHF;simp
theorem qb5 {lo hi:Int}:Q7 lo hi 1=((hi - lo).toNat:Nat):=by rw [rangeSize_one];split <;> omega
theorem qLJ {prog:Program} {w:World} {A:Around} {E:Value->Shared->Prop} {s:Shared} {R:List Value->Shared->Prop} {r:Addr} {a b:Int} {t u v:Tok} {n:Nat} (hh:A.handled=none) (hr:IsRange s.heap r a b 1 t u v) (hsmall:A02 a b 1=true)
  (hn:Q7 a b 1=n) (hlen:n<=2 ^ 24)
  (h:∀ (h':Heap) (tk:Nat) (acc:Array Value),(∀ b o,s.heap.get? b=some o->h'.get? b=some o)->ItemsOf (fun i v=>∃ t,v=.int (a+i * 1) t) acc n->R acc.toList { s with heap:=h',toks:=tk }) :
  wpAny (model prog w) A (collect (.ref r)) R E s:=by
 unfold collect;refine wpAny_bind (wpAny_runValue (codeAny_builtin entry_proto_collect' ?_));rw [L5 PySem.F.plain_proto_collect _];show wpAny _ A.in1 (newList [] >>= fun l=>again (.builtin "list.__iadd__" ⟨[l,.ref r],[]⟩)) _ _ s;refine wpAny_bind (wpAny_newObj_type ?_);refine wpAny_pure ⟨plainId_quiet n9 _,codeAny_builtin entry_list_iadd' ?_⟩;rw [L5 n9 _];have hS₁:(s.heap.push { cls:=.type "list",data:=.seq ([]:List Value).toArray }).get? s.heap.objs.size=some { cls:=.type "list",data:=.seq #[] }:=B5 _ rfl;show wpAny _ A.in1 (Builtin.List.listExtendWith (.ref s.heap.objs.size) (.ref r) (.ref s.heap.objs.size)) _ _ _;have key:=wpAny_extend_range (prog:=prog) (w:=w) (A:=A) (s:={ s with heap:=s.heap.push { cls:=.type "list",data:=.seq ([]:List Value).toArray } })
  (R:=fun (q:Result) (s':Shared)=>∃ (h':Heap) (tk:Nat) (acc':Array Value) (c':Nat),q=.ok (.ret (.ref s.heap.objs.size))/\s'={ s with heap:=h',toks:=tk }/\
   (∀ b o,s.heap.get? b=some o->h'.get? b=some o)/\h'.get? s.heap.objs.size=some { cls:=.type "list",dict:=none,data:=.seq acc' c',slots:=#[] }/\ItemsOf (fun i v=>∃ t,v=.int (a+i * 1) t) acc' n)
  hh (A2 _ hr) hsmall hn hlen s.heap.objs.size (.ref s.heap.objs.size) 0 hS₁
  (fun h' tk acc' c' hk hS' hacc=>⟨h',tk,acc',c',rfl,rfl,fun b o e=>hk b o (D4 (B7 e)) (A2 _ e),hS',hacc⟩)
 refine wpAny_mono key (fun fin s' x=>?_) fun e s' x=>?_
 ·cases fin with
  | done f=>
   obtain ⟨h',tk,acc',c',e,rfl,hk,hS',hacc⟩:=x;cases e;show wpAny _ A (load s.heap.objs.size >>= _) _ _ _;refine wpAny_bind (wpAny_load hS' ?_);exact wpAny_pure (h h' tk acc' hk hacc)
  | again c₁=>
   refine ⟨x.1,codeAny_mono x.2 fun q s₂ y=>?_⟩;obtain ⟨h',tk,acc',c',rfl,rfl,hk,hS',hacc⟩:=y;show wpAny _ A (load s.heap.objs.size >>= _) _ _ _;refine wpAny_bind (wpAny_load hS' ?_);exact wpAny_pure (h h' tk acc' hk hacc)
 ·obtain ⟨_,_,_,_,e',_⟩:=x;cases e'
theorem qNT {prog:Program} {w:World} {A:Around} {E:Value->Shared->Prop} {s:Shared} {Q:Value->Shared->Prop} {r:Addr} {a b:Int} {t u v:Tok} {n:Nat} (hh:A.handled=none) (hr:IsRange s.heap r a b 1 t u v) (hsmall:A02 a b 1=true)
  (hn:Q7 a b 1=n) (hlen:n<=2 ^ 24)
  (h:∀ (h':Heap) (tk:Nat) (acc:Array Value),(∀ b o,s.heap.get? b=some o->h'.get? b=some o)->ItemsOf (fun i v=>∃ t,v=.int (a+i * 1) t) acc n->Q (.ref h'.objs.size) { s with heap:=h'.push { cls:=.type "tuple",data:=.seq acc },toks:=tk }) :
  wpAny (model prog w) A (call (.type "tuple") [.ref r]) Q E s:=by
 have hcode:codeAny (model prog w) A.in1 (.call (.builtin "tuple.__new__") ⟨[.type "tuple",.ref r],[]⟩) (wants (fun obj s₁=>s₁.TypeIs obj "tuple"/\Q obj s₁) E) s:=by
  refine codeAny_of_tree ?_;show wpAny _ A.in1.in1 (do checkBuiltinCall "tuple.__new__" ⟨[.type "tuple",.ref r],[]⟩;again (.builtin "tuple.__new__" ⟨[.type "tuple",.ref r],[]⟩)) _ _ s
  refine wpAny_bind (wpAny_of_eq (F.newCall_tuple_1 _) (wpAny_pure ⟨plainId_quiet A28 _,codeAny_builtin F.entry_tuple_new ?_⟩));rw [L5 A28 _];have hsub:=sub_tuple_self;have hinit:=init_tuple_lookup;have hmh:=madeHere_tuple;have hTI:s.TypeIs (.ref r) "range":=⟨_,hr,rfl⟩
  wp_walk using wpAny_typeOf hTI,qLJ (prog:=prog) (w:=w) (A:=A.in1.in1) hh hr hsmall hn hlen
  intro h' tk acc hk hacc;show wpAny _ _ (l8 acc.toList.toArray >>= fun v=>ret v) _ _ _;unfold l8;refine wpAny_bind (wpAny_newObj_type ?_ (by show acc.toList.toArray.size<=sizeLine;simp only [Array.toArray_toList];rw [hacc.1,sizeLine_eq];omega))
  refine wpAny_pure ?_;have e:acc.toList.toArray=acc:=by simp
  rw [e];exact ⟨⟨_,B5 _ rfl,rfl⟩,h h' tk acc hk hacc⟩
 refine callType_codes (Q₁:=fun obj s₁=>s₁.TypeIs obj "tuple"/\Q obj s₁) y7 (F.typeCall_tuple_1 _) F.entry_object_init hcode fun obj s₁ h₁=>?_;exact ⟨h₁.1,F.args_object_init_2 obj _,object_init_meets y7.init.lookup y7.made (by decide) prog w A.in1 _ s₁ ⟨h₁.1,rfl,h₁.2⟩⟩
theorem qJR (hc:X.calm=true):qDM X (.type "tuple") (fun xs H Q=>∃ p lo hi,xs=[.ref p]/\H p=some (.rng lo hi)/\-1000000<=lo/\lo<=1000000/\-1000000<=hi/\hi<=1000000/\∀ l,H l=none->Q (.ref l) (upd H l (.tup (qHF lo hi)))):=by
 intro Ab s σ H xs us Q I r h;obtain ⟨p,lo,hi,rfl,hp,l1,l2,l3,l4,q⟩:=h;obtain ⟨u,rfl,rx⟩:=qEO r;cases rx;obtain ⟨t,u,v,e⟩:=(show ∃ t u v,s.heap.get? p=some { cls:=.type "range",data:=.fields #[.int lo t,.int hi u,.int 1 v] } from I.hok p _ hp);refine qNT (n:=(hi - lo).toNat) (I.ok.hd hc) (show IsRange s.heap p lo hi 1 t u v from e) (small_one (by omega) (by omega) (by omega) (by omega)) qb5 (by omega) fun h' tk acc hk hacc=>?_
 obtain ⟨a1,a2⟩:=hacc;have I1:Inv X Ab σ H { s with heap:=h',toks:=tk }:=I.kept hk;refine ⟨.ref h'.objs.size,_,I1.laid (t':=tk) (fun b o e=>A2 _ e) (B0 _) (show ObjOk X.prog X.w _ _ _ (.tup (qHF lo hi)) from ⟨?_,acc.toList,qV2 rfl (by simpa using a1) fun i v hi=>a2 i v (by rw [<- J6];exact hi),?_⟩),rfl,q _ (I1.hok.fresh (B0 _))⟩
 ·rw [qQI,sizeLine_eq];omega
 ·have:=IsTup.new h' acc;simpa using this
theorem qQH:∀ (bs:List Bool),((F6 bs.length).all fun i=>(bs[i]?).getD true)=bs.all id:=by
 intro bs;rw [R3,G8,G8]
 constructor
 ·intro h b hb;obtain ⟨i,hi,e⟩:=U0.mp hb;have:=h i (M8.mpr hi);rw [A1 hi,e] at this;exact this
 ·intro h i hi;have hi':=M8.mp hi;rw [A1 hi'];exact h _ (R9 hi')
theorem qEI (hc:X.calm=true):qDM X (.builtin "all") (fun xs H Q=>∃ (p:Addr) (bs:List Bool),xs=[.ref p]/\SqL X.K H p (bs.map V.bl)/\Q (.bl (bs.all id)) H):=by
 intro Ab s σ H xs us Q I r h;obtain ⟨p,bs,rfl,hq,q⟩:=h;obtain ⟨u,rfl,rx⟩:=qEO r;cases rx;obtain ⟨its,rv,pl,hz⟩:=I.list hq;have hl:=pl.isList;have hlt:p<s.heap.objs.size:=by obtain ⟨_,e,_⟩:=hl;exact B7 e
 have hlen:=rv.length;rw [A0] at hlen;refine call_all_walk (wpAny_pyIter_list hl ?_);refine ⟨s.heap.objs.size,[s.heap.objs.size,p],[s.heap.objs.size],its.toArray.size,_,_,fun i=>(bs[i]?).getD true,rfl,A27 (A:=X.A.in1) (I.ok.hd hc) _ p (D4 hlt) its.toArray,
  ⟨⟨_,B5 _ rfl,rfl,rfl⟩,hl.push _⟩,fun i v s' Q' E' hP hQ=>?_,fun h' tk hk=>?_⟩
 ·have hP':its[i]?=some v:=by simpa using hP
  have hi:i<bs.length:=by rw [hlen];exact (A4.mp hP').1
  obtain ⟨u,hu,ru⟩:=rv.get (i:=i) (x:=.bl bs[i]) (by rw [B1,A1 hi];rfl)
  rw [hP'] at hu;cases hu;cases ru;dsimp only at hQ;rw [A1 hi,R8] at hQ;exact wpAny_truthy_bool hQ
 ·have e:((F6 its.toArray.size).all fun i=>(bs[i]?).getD true)=bs.all id:=by
   rw [A8,<- hlen];exact qQH bs
  refine ⟨.bl (bs.all id),H,I.kept fun b x e=>hk b x (fun hm=>by rw [A3.mp hm] at e;exact Q6 _ (B7 e)) (A2 _ e),?_,q⟩
  rw [e]
  rfl
theorem qB2:qDM X (.builtin "isinstance") (fun xs H Q=>∃ x T t b,xs=[x,.ty T]/\TyOf X.K H x t/\M4 X.K t (.type T)=some b/\Q (.bl b) H):=by
 intro Ab s σ H xs us Q I r h;obtain ⟨x,T,t,b,rfl,ht,hk,q⟩:=h;obtain ⟨u,v,rfl,r1,r2⟩:=qNS r;cases r2;exact qT9 I r1 ht hk fun tk=>⟨.bl b,H,I.tok _,rfl,q⟩
theorem qSM (hu:X.A.units<cLine):OpR X (compareOp .Eq) (fun x y H Q=>∃ p l xs,x=.ref p/\y=.ref l/\SqL X.K H p xs/\SqL X.K H l []/\Q (.bl xs.isEmpty) H):=by
 intro Ab s σ H x y v u Q I rx ry h;obtain ⟨p,l,xs,rfl,rfl,h1,h2,q⟩:=h;cases rx;cases ry;obtain ⟨its,r1,p1,z1⟩:=I.list h1;obtain ⟨its2,r2,p2,z2⟩:=I.list h2;cases r2;cases xs with
 | nil=>
  cases r1;exact A52 (e:=fun _=>true) p1.isList p2.isList rfl hu (fun j h _=>absurd h (by simp)) ⟨.bl true,H,I,rfl,q⟩
 | cons a r=>
  cases r1;exact SeqAt.eq_list_lengthsAt p1.isList p2.isList (by simp) hu ⟨.bl false,H,I,rfl,q⟩
end
theorem qNE {X:Cx} {K:PySem.W.Frag} {w:World} (hK:X.K=K) (hw:X.w=w) (hc:X.calm=true):qDM X (.builtin "sorted") (fun xs H Q=>∃ p ns,xs=[.ref p]/\(SqL K H p (ns.map V.int)\/SqT K H p (ns.map V.int)\/H p=some (SetO w p ns))/\ns.length<64/\
  ∀ (a:Addr) (ns':List Int),H a=none->ns'.Perm ns->ns'.Pairwise (·<=·)->Q (.ref a) (upd H a (.lst (ns'.map V.int)))):=by subst hK hw;exact qJB hc
theorem qU7 {X:Cx} {K:PySem.W.Frag} {w:World} (hK:X.K=K) (hw:X.w=w) (hc:X.calm=true):qDM X (.type "set") (fun xs H Q=>∃ p ns,xs=[.ref p]/\SqL K H p (ns.map V.int)/\ns.length<=4/\∀ a,H a=none->Q (.ref a) (upd H a (SetO w a (dedI ns)))):=by subst hK hw;exact qQ6 hc
end L2
namespace L2
open PySem PySem.Spec PyProof.Rows
def Ite (K:PySem.W.Frag) (l:Addr):It:=
 ⟨fun i H=>∃ xs x,SqL K H l xs/\xs[i]?=some x,fun i H v H'=>∃ T x,H T=none/\v=.ref T/\H'=upd H T (.tup [.int (i:Int),x])/\∀ xs,SqL K H l xs->xs[i]?=some x,fun i H=>∃ xs,SqL K H l xs/\xs.length<=i⟩
section
variable {X:Cx}
theorem Inv.turnedL {Ab:List (Addr × Obj)} {s:Shared} {σ:St} {H:Hp} {h':Heap} {t':Nat} {ch:List Addr} (I:Inv X Ab σ H s) (k:∀ b o,b ∉ ch->s.heap.get? b=some o->h'.get? b=some o) (hc:∀ b ∈ ch,FpOk X Ab H b):Inv X Ab σ H { s with heap:=h',toks:=t' }:=by
 have nit:∀ b u,H b=some u->b ∉ ch:=fun b u e z=>by rw [(hc b z).1] at e;cases e
 refine I.step (g':=s.gens) (d':=s.drawn) (ch:=ch) (fun b hb=>⟨(hc b hb).2.2.2.1,(hc b hb).2.1,(hc b hb).2.2.2.2.1,(hc b hb).2.2.2.2.2⟩) (fun b o _ _ hc' e _=>k b o hc' e) (fun b o _ _ hc' e _=>⟨o.slots,k b o hc' e⟩) (fun _ _ _ _ n=>n)
  (fun b o hc' e=>⟨o,k b o hc' e⟩) (fun _ _ e=>e) (fun _ _ _ e=>e) (fun _ _ e=>e) (fun m hm=>?_) (fun b u e=>?_) I.bare
 ·obtain ⟨o,es,ep,ho,r⟩:=hm;exact ⟨o,es,ep,k _ o (fun z=>(hc _ z).2.1 rfl) ho,r⟩
 ·refine (I.hok b u e).stay (fun c v hc' q=>k c v ?_ q) (fun _ q=>q) fun _ _ q=>q;rcases hc' with z | z
  ·rw [z];exact nit b u e
  ·exact nit c _ z
theorem qRM {P:Program} {w:World} {K:PySem.W.Frag} {elts:List Expr} {k:Nat} {pos:Pos} (l it e:Addr) (hne:e ≠ it):Turn P w K (.Tuple elts k pos) (Ite K l) [e,it] e (fun i h=>(∃ old,IsEnum h e it i old)/\h.IsListIter it l i) where
 mem:=by simp
 obj:=fun i h st b hb=>by
  obtain ⟨⟨old,h1⟩,o,h2,_,h4⟩:=st;have e':b=e\/b=it:=by simpa using hb
  rcases e' with rfl | rfl
  ·exact ⟨_,h1,fun v z=>by
    have z':z9 _=r8 v:=z;cases z'⟩
  ·exact ⟨o,h2,fun v z=>by rw [h4] at z;cases z⟩
 keep:=fun i h h' st kk=>by
  obtain ⟨⟨old,h1⟩,h2⟩:=st;exact ⟨⟨old,kk e (by simp) _ h1⟩,h2.at fun o q=>kk it (by simp) o q⟩
 item:=by
  intro X hP hw hK hc i Ab s σ H E I hf st hg;subst hP hw hK;obtain ⟨xs,x,hq,hx⟩:=hg;obtain ⟨its,rv,p,hz⟩:=I.list hq;obtain ⟨u,hu,ru⟩:=rv.get hx;obtain ⟨⟨old,h1⟩,h2⟩:=st;refine wpAny_pyNext_enum_item h1 h2 p.isList (x:=u) (by simpa using hu) hne fun h' a1 a2 a3 a4 a5=>?_
  refine ⟨_,rfl,wpAny_letOwnedTupleGo_enum a1 fun h2 b1 b2=>?_⟩;have ltE:e<s.heap.objs.size:=B7 h1;have I1:Inv X Ab σ H { s with heap:=h2,toks:=s.toks+1 }:=I.turnedL (ch:=[e,it]) (fun b o hb q=>by
   have hb1:b ≠ e:=fun z=>hb (by simp [z])
   have hb2:b ≠ it:=fun z=>hb (by simp [z])
   exact (b2.2 b hb1).trans (a5 b o hb1 hb2 q)) hf
  have hT:H s.heap.objs.size=none:=I.hok.fresh (B0 _);have fT:=I.fpOk (H':=H) (b:=s.heap.objs.size) (B0 _) hT;have gT:h2.get? s.heap.objs.size=some { cls:=.type "tuple",data:=.seq #[.int i s.toks,u] }:=(b2.2 _ (S9 ltE)).trans a3;refine ⟨.ref s.heap.objs.size,upd H s.heap.objs.size (.tup [.int (i:Int),x]),I1.track hT I.sz fT.2.1 fT.2.2.2.2.1 fT.2.2.2.2.2 ⟨by simp only [E3,Y0];rw [sizeLine_eq];decide,[.int (i:Int) s.toks,u],.cons ⟨_,rfl⟩ (.cons ru .nil),⟨_,gT,rfl,_,rfl⟩⟩,rfl,
   ⟨_,x,hT,rfl,rfl,fun ys hy=>by rw [I.list_inj hy hq];exact hx⟩,⟨⟨_,b1⟩,a2.at fun o q=>(b2.2 it (G3 hne)).trans q⟩,fun b hb=>?_⟩
  have ltb:b<s.heap.objs.size:=by
   have e':b=e\/b=it:=by simpa using hb
   rcases e' with rfl | rfl
   ·exact ltE
   ·obtain ⟨o,q,_⟩:=h2;exact B7 (by assumption)
  rw [qA8 (D4 ltb)];exact (hf b hb).1
 done:=by
  intro X hP hw hK hc i Ab s σ H E I hf st hg;subst hP hw hK;obtain ⟨xs,hq,hx⟩:=hg;obtain ⟨its,rv,p,hz⟩:=I.list hq;have hl:=rv.length;obtain ⟨⟨old,h1⟩,h2⟩:=st;exact wpAny_pyNext_enum_end (I.ok.hd hc) h1 h2 p.isList (by simp;omega) fun h' eb=>⟨rfl,I.turnedL (t':=s.toks) (ch:=[e,it]) (fun b o hb q=>eb b o (fun z=>hb (by simp [z])) q) hf⟩
 self:=fun _ _ _ _ _ st h=>by
  obtain ⟨⟨old,h1⟩,h2⟩:=st;exact wpAny_pyIter_enum h1 h
def qbK (K:PySem.W.Frag) (ta:TA):TI:=fun σ H R=>ta σ H fun vs H1=>∃ l,vs=[.ref l]/\(∃ xs,SqL K H1 l xs)/\R (Ite K l) H1
theorem qSC {elts:List Expr} {k:Nat} {tpos:Pos} {a:Expr} {ta:TA} {p pos:Pos} (hg:Gl X "enumerate") (hm:X.mg "enumerate" = none) (hv:bootBuiltins "enumerate" = some (.type "enumerate")) (ha:PA X [a] ta) (hs:starEach [a] X.env=[(false,eval a X.env)]:=by rfl) :
  PI X (.Tuple elts k tpos) (.Call (.Name "enumerate" p) [a] [] pos) (qbK X.K ta):=by
 intro Ab s σ H R I h;refine Call_ (qGD I hg hm hv (P0 (thn (ha pos Ab s σ H _ I h) fun us s1 ⟨vs,H1,I1,r1,q1⟩=>?_) hs rfl));obtain ⟨l,e,⟨xs,hq⟩,q⟩:=q1;subst e;obtain ⟨u,rfl,rx⟩:=qEO r1;cases rx;obtain ⟨its,rv,pl,hz⟩:=I1.list hq;refine call_enumerate_list pl.isList fun h' he hi hsz hk=>?_;refine wpAny_pyIter_enum he ?_;have I2:Inv X Ab σ H1 { s1 with heap:=h' }:=I1.kept (t':=s1.toks) hk;refine ⟨s1.heap.objs.size+1,[s1.heap.objs.size+1,s1.heap.objs.size],_,_,H1,rfl,I2,qRM l s1.heap.objs.size (s1.heap.objs.size+1) (A38 _),⟨⟨_,he⟩,hi⟩,fun b hb=>?_,q⟩;have e':b=s1.heap.objs.size+1\/b=s1.heap.objs.size:=by simpa using hb
 rcases e' with rfl | rfl
 ·exact I1.fpOk (X4 _) (I1.hok.fresh (X4 _))
 ·exact I1.fpOk (B0 _) (I1.hok.fresh (B0 _))
end
theorem qY9 {K:PySem.W.Frag} {a:Addr} {xs:List V} {g:TG} {tc:TT} {te:TE} {Kf:Hp->Prop} {σ0:St} {H0:Hp} {p:Addr} (Pv:Nat->St->Hp->Prop) (h0:Pv 0 σ0 H0) (hl:∀ i σ H,i<=xs.length->Pv i σ H->SqL K H a xs)
  (hs:∀ i x σ H T,xs[i]?=some x->Pv i σ H->H T=none->g (.ref T) σ (upd H T (.tup [.int (i:Int),x])) fun σ2 H2=>tc σ2 H2 fun b H3=>if b=true then te σ2 H3 fun y H4=>∃ ys,H4 p=some (.lst ys)/\ys.length<sizeLine/\Pv (i+1) σ2 (upd H4 p (.lst (ys++[y]))) else Pv (i+1) σ2 H3)
  (hd:∀ σ H,Pv xs.length σ H->Kf H) :
  ∃ W:Nat->Nat->St->Hp->Prop,(∃ m,W 0 m σ0 H0)/\∀ i m σ H,W i m σ H->
   ((Ite K a).stop i H/\Kf H)\/((Ite K a).go i H/\∃ N:St->Hp->Prop,(∀ σ' H',N σ' H'->∃ m',m'<m/\W (i+1) m' σ' H')/\∀ x H',(Ite K a).yld i H x H'->g x σ H' fun σ2 H2=>tc σ2 H2 fun b H3=>
    if b=true then te σ2 H3 fun y H4=>∃ ys,H4 p=some (.lst ys)/\ys.length<sizeLine/\N σ2 (upd H4 p (.lst (ys++[y]))) else N σ2 H3):=by
 refine ⟨fun i m σ H=>m=xs.length - i/\i<=xs.length/\Pv i σ H,⟨xs.length,by simp,D3 _,h0⟩,?_⟩
 rintro i m σ H ⟨rfl,hi,q⟩;have hq:=hl i σ H hi q;by_cases hlt:i<xs.length
 ·refine .inr ⟨⟨xs,xs[i],hq,by simp [hlt]⟩,Pv (i+1),fun σ' H' p'=>⟨xs.length - (i+1),by omega,rfl,hlt,p'⟩,fun v H' y=>?_⟩
  obtain ⟨T,x,hT,e1,e2,y⟩:=y;subst e1 e2;exact hs i x σ H T (y xs hq) q hT
 ·have e:i=xs.length:=by omega
  subst e;exact .inl ⟨⟨xs,hq,B0 _⟩,hd σ H q⟩
end L2
namespace L2
open PySem PySem.Spec PyProof.Rows
theorem qH2 {prog:Program} {w:World} {A:Around} {E:Value->Shared->Prop} {s:Shared} {it t:Addr} {i:Nat} {items:Array Value} {x:Value} {Q:Value->Shared->Prop} (hit:s.heap.IsTupleIter it t i) (ht:s.heap.IsTuple t items) (hx:items[i]?=some x)
  (hQ:∀ h':Heap,h'.IsTupleIter it t (i+1)->Heap.SameBut it s.heap h'->Q x { s with heap:=h' }):wpAny (model prog w) A (T8 (.ref it)) Q E s:=by
 obtain ⟨o,ho,hc,hd⟩:=id hit;obtain ⟨ol,hol,_,nl,hdl⟩:=ht;refine wpAny_bind (wpAny_callSpecial?_slot hit.typeIs R6 (wpAny_call_entry R6 hit.typeIs d8 ?_ (c7 _)));show wpAny _ _ (field (.ref it) 0 >>= _) _ _ _;refine wpAny_bind (wpAny_field ho hd rfl ?_);refine wpAny_ite_false rfl ?_;show wpAny _ _ (field (.ref it) 1 >>= _) _ _ _;refine wpAny_bind (wpAny_field ho hd rfl ?_);show wpAny _ _ (seqItems? (.ref t) >>= _) _ _ _;refine wpAny_bind (wpAny_seqItems hol hdl ?_);show wpAny _ _ (match items[i]? with | some x=>_ | none=>_) _ _ _
 rw [hx];refine wpAny_bind (wpAny_setField ho hd (by simp) ?_)
 refine wpAny_pure ⟨x,rfl,wpAny_pure (hQ _ ⟨_,L9 _ ho (Z9 (T6 hd _)),(l7 o _).trans hc,?_⟩ (U8 _ _ _))⟩;rw [T6 hd];simp
 rfl
theorem qHT {prog:Program} {w:World} {A:Around} {E:Value->Shared->Prop} {s:Shared} {it t:Addr} {i:Nat} {items:Array Value} {Q:Value->Shared->Prop} (hh:A.handled=none) (hit:s.heap.IsTupleIter it t i) (ht:s.heap.IsTuple t items) (hx:items[i]?=none)
  (hE:∀ (h':Heap) (e:Addr),Heap.ExtBut it s.heap h'->(∃ o,h'.get? e=some o/\o.cls=.type "StopIteration")->E (.ref e) { s with heap:=h' }):wpAny (model prog w) A (T8 (.ref it)) Q E s:=by
 obtain ⟨o,ho,hc,hd⟩:=id hit;obtain ⟨ol,hol,_,nl,hdl⟩:=ht;refine wpAny_bind (wpAny_callSpecial?_slot hit.typeIs R6 (wpAny_call_entry R6 hit.typeIs d8 ?_ (c7 _)));show wpAny _ _ (field (.ref it) 0 >>= _) _ _ _;refine wpAny_bind (wpAny_field ho hd rfl ?_);refine wpAny_ite_false rfl ?_;show wpAny _ _ (field (.ref it) 1 >>= _) _ _ _;refine wpAny_bind (wpAny_field ho hd rfl ?_);show wpAny _ _ (seqItems? (.ref t) >>= _) _ _ _;refine wpAny_bind (wpAny_seqItems hol hdl ?_);show wpAny _ _ (match items[i]? with | some x=>_ | none=>_) _ _ _
 rw [hx];refine wpAny_bind (wpAny_rule ?_);refine wpAny_bind (wpAny_setField ho hd (by simp) ?_)
 show wpAny _ _ (newExc (.type "StopIteration") [] >>= _) _ _ _;refine wpAny_bind ?_;simp only [newExc,newTuple];refine wpAny_bind (wpAny_newObj_type ?_ (by size_fits))
 refine wpAny_bind (m:=firstArgMember _ _) (wpAny_of_eq (a:=P1) (by first | rfl | (simp only [firstArgMember];rfl)) ?_)
 refine wpAny_newObj_type ?_ (by size_fits)
 simp only [raiseNew];refine wpAny_bind (wpAny_handled ?_);rw [show A.in1.handled=none from hh];refine wpAny_bind (wpAny_pure (wpAny_throw ?_));exact hE _ _ (((U8 ..).extBut.push _).push _) ⟨_,B5 _ rfl,rfl⟩
def SIt (b:Bool) (h:Heap) (it l:Addr) (i:Nat):Prop:=match b with | true=>h.IsTupleIter it l i | false=>h.IsListIter it l i
def SSq (b:Bool) (h:Heap) (l:Addr) (xs:Array Value):Prop:=match b with | true=>h.IsTuple l xs | false=>h.IsList l xs
theorem SIt.at {b:Bool} {h h':Heap} {it l:Addr} {i:Nat} (q:SIt b h it l i) (k:∀ o,h.get? it=some o->h'.get? it=some o):SIt b h' it l i:=by
 cases b
 ·exact Heap.IsListIter.at q k
 ·exact Heap.IsTupleIter.at q k
theorem SSq.at {b:Bool} {h h':Heap} {l:Addr} {xs:Array Value} (q:SSq b h l xs) (k:∀ o,h.get? l=some o->h'.get? l=some o):SSq b h' l xs:=by
 cases b
 ·obtain ⟨o,e,r⟩:=q;exact ⟨o,k o e,r⟩
 ·obtain ⟨o,e,r⟩:=q;exact ⟨o,k o e,r⟩
theorem qFO {b:Bool} {prog:Program} {w:World} {A:Around} {E:Value->Shared->Prop} {s:Shared} {it t:Addr} {i:Nat} {items:Array Value} {x:Value} {Q:Value->Shared->Prop} (hit:SIt b s.heap it t i) (ht:SSq b s.heap t items) (hx:items[i]?=some x)
  (hQ:∀ h':Heap,SIt b h' it t (i+1)->Heap.SameBut it s.heap h'->Q x { s with heap:=h' }):wpAny (model prog w) A (T8 (.ref it)) Q E s:=by
 cases b
 ·exact wpAny_nextOf_list_item hit ht hx hQ
 ·exact qH2 hit ht hx hQ
theorem qK2 {b:Bool} {prog:Program} {w:World} {A:Around} {E:Value->Shared->Prop} {s:Shared} {it t:Addr} {i:Nat} {items:Array Value} {Q:Value->Shared->Prop} (hh:A.handled=none) (hit:SIt b s.heap it t i) (ht:SSq b s.heap t items) (hx:items[i]?=none)
  (hE:∀ (h':Heap) (e:Addr),Heap.ExtBut it s.heap h'->(∃ o,h'.get? e=some o/\o.cls=.type "StopIteration")->E (.ref e) { s with heap:=h' }):wpAny (model prog w) A (T8 (.ref it)) Q E s:=by
 cases b
 ·exact wpAny_nextOf_list_end hh hit ht hx hE
 ·exact qHT hh hit ht hx hE
theorem qRG {b:Bool} {prog:Program} {w:World} {A:Around} {E:Value->Shared->Prop} {s:Shared} {z TI TO i1 i2 l1 l2:Addr} {k1 k2:Nat} {xs ys:Array Value} {x y a c:Value} {Q:Value->Shared->Prop} (D:ZipApart z TI TO i1 i2 l1 l2) (hz:IsZip s.heap z TI TO .none) (hTI:IsPair s.heap TI (.ref i1) (.ref i2)) (hTO:IsPair s.heap TO a c)
  (h1:SIt b s.heap i1 l1 k1) (h2:SIt b s.heap i2 l2 k2) (hl1:SSq b s.heap l1 xs) (hl2:SSq b s.heap l2 ys) (hx:xs[k1]?=some x) (hy:ys[k2]?=some y)
  (hQ:∀ h':Heap,IsZip h' z TI TO (rawInt (s.heap.objs.size:Int))->IsPair h' TO x y->SIt b h' i1 l1 (k1+1)->SIt b h' i2 l2 (k2+1)->IsPair h' s.heap.objs.size x y->h'.objs.size=s.heap.objs.size+1->
   (∀ (c:Addr) (o:Obj),c ≠ z->c ≠ TO->c ≠ i1->c ≠ i2->s.heap.get? c=some o->h'.get? c=some o)->Q (.ref s.heap.objs.size) { s with heap:=h' }) :
  wpAny (model prog w) A (Builtin.«zip.__next__» { pos:=[.ref z] }) (fun fin s'=>∃ v,fin=.done (.ret v)/\Q v s') E s:=by
 show wpAny _ _ (field (.ref z) 2 >>= _) _ _ _;refine wpAny_bind (wpAny_field hz rfl rfl ?_);show wpAny _ _ (field (.ref z) 3 >>= _) _ _ _;refine wpAny_bind (wpAny_field hz rfl rfl ?_);refine wpAny_bind (wpAny_seqItems hTI rfl ?_);show wpAny _ _ (R4 (.ref z) >>= _) _ _ _;refine wpAny_bind ?_;show wpAny _ _ (field (.ref z) 0 >>= _) _ _ _;refine wpAny_bind (wpAny_field hz rfl rfl (wpAny_pure ?_));refine wpAny_ite_true rfl ?_;refine wpAny_bind (wpAny_rule ?_);refine wpAny_bind (wpAny_field hz rfl rfl ?_);refine wpAny_bind (wpAny_setField_rec hz (by simp) fun hA gz sb=>?_)
 refine wpAny_bind ?_;show wpAny _ _ (forIn [(C8 i1,0),(C8 i2,1)] _ _) _ _ _;rw [Q0];refine wpAny_bind ?_;dsimp only;refine wpAny_bind (wpAny_onRaise ?_);have e:((#[P1,R0 false,R0 false,C8 TI,C8 TO][2] == R0 true)=false):=rfl;rw [e];have sA1:SIt b hA i1 l1 k1:=h1.at fun o q=>(sb.2 _ D.i1z).trans q;have sL1:SSq b hA l1 xs:=hl1.at fun o q=>(sb.2 _ D.l1z).trans q;refine wpAny_bind (qFO (s:={ s with heap:=hA }) sA1 sL1 hx fun hB nB sB=>?_);refine wpAny_pure ?_;have tB:IsPair hB TO a c:=(sB.2 _ D.TOi1).trans ((sb.2 _ D.TOz).trans hTO);refine wpAny_bind (wpAny_seqItems tB rfl ?_);refine wpAny_bind (wpAny_updateSeq_pair tB fun hC tC sC=>?_);refine wpAny_bind (wpAny_letGo (wpAny_pure ?_));dsimp only;rw [Q0];refine wpAny_bind ?_;refine wpAny_bind (wpAny_onRaise ?_);have sC2:SIt b hC i2 l2 k2:=h2.at fun o q=>(sC.2 _ (G3 D.TOi2)).trans ((sB.2 _ (G3 D.i12)).trans ((sb.2 _ D.i2z).trans q));have sL2:SSq b hC l2 ys:=hl2.at fun o q=>(sC.2 _ D.l2TO).trans ((sB.2 _ D.l2i1).trans ((sb.2 _ D.l2z).trans q));refine wpAny_bind (qFO (s:={ s with heap:=hC }) sC2 sL2 hy fun hD nD sD=>?_);refine wpAny_pure ?_;have tD:IsPair hD TO x c:=(sD.2 _ D.TOi2).trans tC;refine wpAny_bind (wpAny_seqItems tD rfl ?_);refine wpAny_bind (wpAny_updateSeq_pair tD fun hF tF sF=>?_);refine wpAny_bind (wpAny_letGo (wpAny_pure ?_));dsimp only;rw [y8];refine wpAny_pure ?_;dsimp only;have tF':IsPair hF TO x y:=tF;refine wpAny_bind (wpAny_seqItems tF' rfl ?_);refine wpAny_bind (wpAny_newTuple ?_ (by show 2<=sizeLine;decide))
 have gzF:hF.get? z=some { cls:=.type "zip",data:=.fields #[.ellipsis,.bool false,.bool false,.ref TI,.ref TO] }:=(sF.2 _ (G3 D.TOz)).trans ((sD.2 _ (G3 D.i2z)).trans ((sC.2 _ (G3 D.TOz)).trans ((sB.2 _ (G3 D.i1z)).trans gz)));have szF:hF.objs.size=s.heap.objs.size:=sF.1.trans (sD.1.trans (sC.1.trans (sB.1.trans sb.1)));have ltz:z<hF.objs.size:=B7 gzF;have gzG:(hF.push { cls:=.type "tuple",data:=.seq #[x,y] }).get? z=some { cls:=.type "zip",data:=.fields #[.ellipsis,.bool false,.bool false,.ref TI,.ref TO] }:=A2 _ gzF;refine wpAny_bind ?_;show wpAny _ _ (setField (.ref z) 0 (rawInt _) >>= _) _ _ _;refine wpAny_bind (wpAny_setField_rec gzG (by simp) fun hG gG sG=>?_)
 refine wpAny_setField_rec gG (by simp) fun hI gI sI=>?_
 refine wpAny_pure ⟨_,rfl,?_⟩;have o4:∀ (c:Addr) (o:Obj),c ≠ z->c ≠ TO->c ≠ i1->c ≠ i2->s.heap.get? c=some o->hI.get? c=some o:=fun c o n1 n2 n3 n4 e=>
  (sI.2 _ n1).trans ((sG.2 _ n1).trans (A2 _ ((sF.2 _ n2).trans ((sD.2 _ n4).trans ((sC.2 _ n2).trans ((sB.2 _ n3).trans ((sb.2 _ n1).trans e)))))))
 have nz:hF.objs.size ≠ z:=S9 ltz;have gT:hI.get? hF.objs.size=some { cls:=.type "tuple",data:=.seq #[x,y] }:=(sI.2 _ nz).trans ((sG.2 _ nz).trans (B5 _ rfl));have szI:hI.objs.size=hF.objs.size+1:=sI.1.trans (sG.1.trans (L0 ..));have pz:∀ {c:Addr} {o:Obj},c ≠ z->hF.get? c=some o->hI.get? c=some o:=fun n e=>(sI.2 _ n).trans ((sG.2 _ n).trans (A2 _ e));have q:=hQ hI;rw [<- szF] at q;refine q gI (pz D.TOz tF') (nB.at fun o e=>pz D.i1z ((sF.2 _ (G3 D.TOi1)).trans ((sD.2 _ D.i12).trans ((sC.2 _ (G3 D.TOi1)).trans e)))) (nD.at fun o e=>pz D.i2z ((sF.2 _ (G3 D.TOi2)).trans e)) gT szI o4
theorem qUR {b:Bool} {prog:Program} {w:World} {A:Around} {E:Value->Shared->Prop} {s:Shared} {z TI TO i1 i2 l1 l2:Addr} {k1:Nat} {xs:Array Value} {Q:PySem.Fin->Shared->Prop} (hh:A.handled=none) (D:ZipApart z TI TO i1 i2 l1 l2) (hz:IsZip s.heap z TI TO .none) (hTI:IsPair s.heap TI (.ref i1) (.ref i2))
  (h1:SIt b s.heap i1 l1 k1) (hl1:SSq b s.heap l1 xs) (hx:xs[k1]?=none)
  (hE:∀ (h':Heap) (e:Addr),(∀ (c:Addr) (o:Obj),c ≠ z->c ≠ i1->s.heap.get? c=some o->h'.get? c=some o)->(∃ o,h'.get? e=some o/\o.cls=.type "StopIteration")->E (.ref e) { s with heap:=h' }) :
  wpAny (model prog w) A (Builtin.«zip.__next__» { pos:=[.ref z] }) Q E s:=by
 show wpAny _ _ (field (.ref z) 2 >>= _) _ _ _;refine wpAny_bind (wpAny_field hz rfl rfl ?_);show wpAny _ _ (field (.ref z) 3 >>= _) _ _ _;refine wpAny_bind (wpAny_field hz rfl rfl ?_);refine wpAny_bind (wpAny_seqItems hTI rfl ?_);show wpAny _ _ (R4 (.ref z) >>= _) _ _ _;refine wpAny_bind ?_;show wpAny _ _ (field (.ref z) 0 >>= _) _ _ _;refine wpAny_bind (wpAny_field hz rfl rfl (wpAny_pure ?_));refine wpAny_ite_true rfl ?_;refine wpAny_bind (wpAny_rule ?_);refine wpAny_bind (wpAny_field hz rfl rfl ?_);refine wpAny_bind (wpAny_setField_rec hz (by simp) fun hA gz sb=>?_)
 refine wpAny_bind ?_;show wpAny _ _ (forIn [(C8 i1,0),(C8 i2,1)] _ _) _ _ _;rw [Q0];refine wpAny_bind ?_;dsimp only;refine wpAny_bind (wpAny_onRaise ?_);have e:((#[P1,R0 false,R0 false,C8 TI,C8 TO][2] == R0 true)=false):=rfl;rw [e];have sA1:SIt b hA i1 l1 k1:=h1.at fun o q=>(sb.2 _ D.i1z).trans q;have sL1:SSq b hA l1 xs:=hl1.at fun o q=>(sb.2 _ D.l1z).trans q;refine wpAny_bind (qK2 (s:={ s with heap:=hA }) hh sA1 sL1 hx fun hB ea xB ⟨ob,gb,cb⟩=>?_);have gzB:=xB z _ (G3 D.i1z) gz;refine wpAny_setField_rec gzB (by simp) fun hC gC sC=>?_
 have nez:ea ≠ z:=fun q=>by
  rw [q,gzB] at gb;cases gb;exact absurd (show c9 "zip" = c9 "StopIteration" from cb) (by decide)
 exact hE hC ea (fun c o n1 n2 q=>(sC.2 _ n1).trans (xB c o n2 ((sb.2 _ n1).trans q))) ⟨ob,(sC.2 _ nez).trans gb,cb⟩
theorem qRH {b:Bool} {prog:Program} {w:World} {A:Around} {E:Value->Shared->Prop} {s:Shared} {z TI TO i1 i2 l1 l2:Addr} {k1 k2:Nat} {xs ys:Array Value} {x a c:Value} {Q:PySem.Fin->Shared->Prop} (hh:A.handled=none) (D:ZipApart z TI TO i1 i2 l1 l2) (hz:IsZip s.heap z TI TO .none) (hTI:IsPair s.heap TI (.ref i1) (.ref i2)) (hTO:IsPair s.heap TO a c)
  (h1:SIt b s.heap i1 l1 k1) (h2:SIt b s.heap i2 l2 k2) (hl1:SSq b s.heap l1 xs) (hl2:SSq b s.heap l2 ys) (hx:xs[k1]?=some x) (hy:ys[k2]?=none)
  (hE:∀ (h':Heap) (e:Addr),(∀ (c:Addr) (o:Obj),c ≠ z->c ≠ TO->c ≠ i1->c ≠ i2->s.heap.get? c=some o->h'.get? c=some o)->(∃ o,h'.get? e=some o/\o.cls=.type "StopIteration")->E (.ref e) { s with heap:=h' }) :
  wpAny (model prog w) A (Builtin.«zip.__next__» { pos:=[.ref z] }) Q E s:=by
 show wpAny _ _ (field (.ref z) 2 >>= _) _ _ _;refine wpAny_bind (wpAny_field hz rfl rfl ?_);show wpAny _ _ (field (.ref z) 3 >>= _) _ _ _;refine wpAny_bind (wpAny_field hz rfl rfl ?_);refine wpAny_bind (wpAny_seqItems hTI rfl ?_);show wpAny _ _ (R4 (.ref z) >>= _) _ _ _;refine wpAny_bind ?_;show wpAny _ _ (field (.ref z) 0 >>= _) _ _ _;refine wpAny_bind (wpAny_field hz rfl rfl (wpAny_pure ?_));refine wpAny_ite_true rfl ?_;refine wpAny_bind (wpAny_rule ?_);refine wpAny_bind (wpAny_field hz rfl rfl ?_);refine wpAny_bind (wpAny_setField_rec hz (by simp) fun hA gz sb=>?_)
 refine wpAny_bind ?_;show wpAny _ _ (forIn [(C8 i1,0),(C8 i2,1)] _ _) _ _ _;rw [Q0];refine wpAny_bind ?_;dsimp only;refine wpAny_bind (wpAny_onRaise ?_);have e:((#[P1,R0 false,R0 false,C8 TI,C8 TO][2] == R0 true)=false):=rfl;rw [e];have sA1:SIt b hA i1 l1 k1:=h1.at fun o q=>(sb.2 _ D.i1z).trans q;have sL1:SSq b hA l1 xs:=hl1.at fun o q=>(sb.2 _ D.l1z).trans q;refine wpAny_bind (qFO (s:={ s with heap:=hA }) sA1 sL1 hx fun hB nB sB=>?_);refine wpAny_pure ?_;have tB:IsPair hB TO a c:=(sB.2 _ D.TOi1).trans ((sb.2 _ D.TOz).trans hTO);refine wpAny_bind (wpAny_seqItems tB rfl ?_);refine wpAny_bind (wpAny_updateSeq_pair tB fun hC tC sC=>?_);refine wpAny_bind (wpAny_letGo (wpAny_pure ?_));dsimp only;rw [Q0];refine wpAny_bind ?_;refine wpAny_bind (wpAny_onRaise ?_);have sC2:SIt b hC i2 l2 k2:=h2.at fun o q=>(sC.2 _ (G3 D.TOi2)).trans ((sB.2 _ (G3 D.i12)).trans ((sb.2 _ D.i2z).trans q));have sL2:SSq b hC l2 ys:=hl2.at fun o q=>(sC.2 _ D.l2TO).trans ((sB.2 _ D.l2i1).trans ((sb.2 _ D.l2z).trans q));refine wpAny_bind (qK2 (s:={ s with heap:=hC }) hh sC2 sL2 hy fun hD ea xD ⟨ob,gb,cb⟩=>?_);have gzC:hC.get? z=some { cls:=.type "zip",data:=.fields #[.ellipsis,.bool false,.bool false,.ref TI,.ref TO] }:=(sC.2 _ (G3 D.TOz)).trans ((sB.2 _ (G3 D.i1z)).trans gz);have gzD:=xD z _ (G3 D.i2z) gzC;refine wpAny_setField_rec gzD (by simp) fun hF gF sF=>?_
 have nez:ea ≠ z:=fun q=>by
  rw [q,gzD] at gb;cases gb;exact absurd (show c9 "zip" = c9 "StopIteration" from cb) (by decide)
 exact hE hF ea (fun c o n1 n2 n3 n4 q=>(sF.2 _ n1).trans (xD c o n4 ((sC.2 _ n2).trans ((sB.2 _ n3).trans ((sb.2 _ n1).trans q))))) ⟨ob,(sF.2 _ nez).trans gb,cb⟩
section
variable {b:Bool} {prog:Program} {w:World} {A:Around} {E:Value->Shared->Prop} {s:Shared} {z TI TO i1 i2 l1 l2:Addr} {k1 k2:Nat} {xs ys:Array Value}
theorem qHR {x y a c:Value} {Q:Option Value->Shared->Prop} (D:ZipApart z TI TO i1 i2 l1 l2) (hz:IsZip s.heap z TI TO .none) (hTI:IsPair s.heap TI (.ref i1) (.ref i2)) (hTO:IsPair s.heap TO a c)
  (h1:SIt b s.heap i1 l1 k1) (h2:SIt b s.heap i2 l2 k2) (hl1:SSq b s.heap l1 xs) (hl2:SSq b s.heap l2 ys) (hx:xs[k1]?=some x) (hy:ys[k2]?=some y)
  (hQ:∀ h':Heap,IsZip h' z TI TO (rawInt (s.heap.objs.size:Int))->IsPair h' TO x y->SIt b h' i1 l1 (k1+1)->SIt b h' i2 l2 (k2+1)->IsPair h' s.heap.objs.size x y->h'.objs.size=s.heap.objs.size+1->
   (∀ (c:Addr) (o:Obj),c ≠ z->c ≠ TO->c ≠ i1->c ≠ i2->s.heap.get? c=some o->h'.get? c=some o)->Q (some (.ref s.heap.objs.size)) { s with heap:=h' }) :
  wpAny (model prog w) A (pyNext (.ref z)) Q E s:=by
 have hT:s.TypeIs (.ref z) "zip":=⟨_,hz,rfl⟩;unfold pyNext;refine wpAny_bind (wpAny_attempt (wpAny_callSpecial?_slot (name:=E4 "__next__") hT W3 (wpAny_call_entry W3 hT o5 ?_ (l9 _))));exact qRG (Q:=fun v s'=>wpAny (model prog w) A (pure (some v)) Q E s') D hz hTI hTO h1 h2 hl1 hl2 hx hy fun h' q1 q2 q3 q4 q5 q6 q7=>wpAny_pure (hQ h' q1 q2 q3 q4 q5 q6 q7)
theorem qIN {Q:Option Value->Shared->Prop} (hh:A.handled=none) (D:ZipApart z TI TO i1 i2 l1 l2) (hz:IsZip s.heap z TI TO .none) (hTI:IsPair s.heap TI (.ref i1) (.ref i2))
  (h1:SIt b s.heap i1 l1 k1) (hl1:SSq b s.heap l1 xs) (hx:xs[k1]?=none)
  (hQ:∀ h':Heap,(∀ (c:Addr) (o:Obj),c ≠ z->c ≠ i1->s.heap.get? c=some o->h'.get? c=some o)->Q none { s with heap:=h' }) :
  wpAny (model prog w) A (pyNext (.ref z)) Q E s:=by
 have hT:s.TypeIs (.ref z) "zip":=⟨_,hz,rfl⟩;unfold pyNext;refine wpAny_bind (wpAny_attempt (wpAny_callSpecial?_slot (name:=E4 "__next__") hT W3 (wpAny_call_entry W3 hT o5 ?_ (l9 _))));refine qUR hh D hz hTI h1 hl1 hx fun h' e k ⟨o,g,c⟩=>?_;refine wpAny_bind (wpAny_isInstance (T:="StopIteration") (b:=true) ⟨_,g,c⟩ isSubtype_stop ?_);exact wpAny_pure (hQ h' k)
theorem qHS {x a c:Value} {Q:Option Value->Shared->Prop} (hh:A.handled=none) (D:ZipApart z TI TO i1 i2 l1 l2) (hz:IsZip s.heap z TI TO .none) (hTI:IsPair s.heap TI (.ref i1) (.ref i2)) (hTO:IsPair s.heap TO a c)
  (h1:SIt b s.heap i1 l1 k1) (h2:SIt b s.heap i2 l2 k2) (hl1:SSq b s.heap l1 xs) (hl2:SSq b s.heap l2 ys) (hx:xs[k1]?=some x) (hy:ys[k2]?=none)
  (hQ:∀ h':Heap,(∀ (c:Addr) (o:Obj),c ≠ z->c ≠ TO->c ≠ i1->c ≠ i2->s.heap.get? c=some o->h'.get? c=some o)->Q none { s with heap:=h' }) :
  wpAny (model prog w) A (pyNext (.ref z)) Q E s:=by
 have hT:s.TypeIs (.ref z) "zip":=⟨_,hz,rfl⟩;unfold pyNext;refine wpAny_bind (wpAny_attempt (wpAny_callSpecial?_slot (name:=E4 "__next__") hT W3 (wpAny_call_entry W3 hT o5 ?_ (l9 _))));refine qRH hh D hz hTI hTO h1 h2 hl1 hl2 hx hy fun h' e k ⟨o,g,c⟩=>?_;refine wpAny_bind (wpAny_isInstance (T:="StopIteration") (b:=true) ⟨_,g,c⟩ isSubtype_stop ?_);exact wpAny_pure (hQ h' k)
end
abbrev qQZ (b:Bool) (l:Addr):Obj:={ cls:=.type (match b with | true=>"tuple_iterator" | false=>"list_iterator"),data:=.fields #[.ref l,.int 0 0] }
theorem qJZ {b:Bool} {prog:Program} {w:World} {A:Around} {E:Value->Shared->Prop} {s:Shared} {l:Addr} {xs:Array Value} {Q:Value->Shared->Prop} (h:SSq b s.heap l xs) (hQ:Q (.ref s.heap.objs.size) { s with heap:=s.heap.push (qQZ b l) }):wpAny (model prog w) A (pyIter (.ref l)) Q E s:=by
 cases b
 ·exact wpAny_pyIter_list h hQ
 ·exact wpAny_pyIter_tuple h hQ
abbrev zb1 (b:Bool) (h:Heap) (l1:Addr):Heap:=h.push (qQZ b l1)
abbrev zb2 (b:Bool) (h:Heap) (l1 l2:Addr):Heap:=(zb1 b h l1).push (qQZ b l2)
abbrev zb3 (b:Bool) (h:Heap) (l1 l2:Addr):Heap:=(zb2 b h l1 l2).push { cls:=.type "tuple",data:=.seq #[.ref h.objs.size,.ref (zb1 b h l1).objs.size] }
abbrev zb4 (b:Bool) (h:Heap) (l1 l2:Addr):Heap:=(zb3 b h l1 l2).push { cls:=.type "tuple",data:=.seq #[.none,.none] }
abbrev zb5 (b:Bool) (h:Heap) (l1 l2:Addr):Heap:=(zb4 b h l1 l2).push { cls:=.type "zip",data:=.fields #[.none,.bool false,.bool false,.ref (zb2 b h l1 l2).objs.size,.ref (zb3 b h l1 l2).objs.size] }
theorem qUQ (b:Bool) (l1 l2:Addr) (xs ys:Array Value):Meets (Builtin.«zip.__new__» { pos:=[.type "zip",.ref l1,.ref l2] }) fun _ R s=>
  SSq b s.heap l1 xs/\SSq b s.heap l2 ys/\R (.ok (.ret (.ref (zb4 b s.heap l1 l2).objs.size))) { s with heap:=zb5 b s.heap l1 l2 }:=by
 refine Meets.of_wp fun prog w A R s h=>?_;obtain ⟨hp,g,d,tk,os⟩:=s;obtain ⟨hl1,hl2,h⟩:=h;have hL2:SSq b (hp.push (qQZ b l1)) l2 ys:=SSq.at hl2 fun o q=>A2 _ q;refine wpAny_bind ?_;refine wpAny_bind (wpAny_pure ?_);refine wpAny_ite_false rfl ?_;refine wpAny_bind (wpAny_of_eq sub_zip ?_);refine wpAny_ite_false rfl ?_;refine wpAny_pure ?_;refine wpAny_ite_false rfl ?_;refine wpAny_bind ?_;refine wpAny_bind ?_;show wpAny _ _ (forIn [C8 l1,C8 l2] #[] _) _ _ _;rw [Q0];refine wpAny_bind (wpAny_bind (wpAny_holding (qJZ hl1 (wpAny_pure ?_))));dsimp only;rw [Q0];refine wpAny_bind (wpAny_bind (wpAny_holding (qJZ hL2 (wpAny_pure ?_))));dsimp only;rw [y8];refine wpAny_pure (wpAny_pure ?_);refine wpAny_bind (wpAny_newTuple ?_ (by show 2<=sizeLine;decide))
 refine wpAny_bind (wpAny_newTuple ?_ (by show 2<=sizeLine;decide))
 refine wpAny_bind ?_;unfold A48;dsimp only;refine wpAny_newObj_type ?_ (by first | rfl | (show (5:Nat)<=_;decide) | (show (5:Nat)<=sizeLine+2;rw [sizeLine_eq];decide))
 refine wpAny_pure ⟨_,rfl,h⟩
end L2
namespace L2
open PySem PySem.Spec PyProof.Rows
theorem qU6 {b:Bool} {prog:Program} {w:World} {A:Around} {E:Value->Shared->Prop} {s:Shared} {l1 l2:Addr} {xs ys:Array Value} {Q:Value->Shared->Prop} (hl1:SSq b s.heap l1 xs) (hl2:SSq b s.heap l2 ys)
  (hQ:∀ (h':Heap) (z TI TO i1 i2:Addr),ZipApart z TI TO i1 i2 l1 l2->IsZip h' z TI TO .none->IsPair h' TI (.ref i1) (.ref i2)->IsPair h' TO .none .none->SIt b h' i1 l1 0->SIt b h' i2 l2 0->(∀ c ∈ [z,TI,TO,i1,i2],s.heap.objs.size<=c)->
   (∀ (c:Addr) (o:Obj),s.heap.get? c=some o->h'.get? c=some o)->Q (.ref z) { s with heap:=h' }) :
  wpAny (model prog w) A (call (.type "zip") [.ref l1,.ref l2]) Q E s:=by
 refine callType_new F.called_zip (by decide) (F.typeCall_zip_2 _ _) (F.newCall_zip_2 _ _) (fun obj=>F.args_object_init_3 obj _ _) F.entry_zip_new (qUQ b l1 l2 xs ys) ⟨hl1,hl2,?_⟩
 have z1:(zb1 b s.heap l1).objs.size=s.heap.objs.size+1:=L0 ..;have z2:(zb2 b s.heap l1 l2).objs.size=s.heap.objs.size+2:=(L0 ..).trans (by rw [z1])
 have z3:(zb3 b s.heap l1 l2).objs.size=s.heap.objs.size+3:=(L0 ..).trans (by rw [z2])
 have z4:(zb4 b s.heap l1 l2).objs.size=s.heap.objs.size+4:=(L0 ..).trans (by rw [z3])
 have g5:(zb5 b s.heap l1 l2).get? (zb4 b s.heap l1 l2).objs.size=some { cls:=.type "zip",data:=.fields #[.none,.bool false,.bool false,.ref (zb2 b s.heap l1 l2).objs.size,.ref (zb3 b s.heap l1 l2).objs.size] }:=B5 _ rfl;have g4:(zb5 b s.heap l1 l2).get? (zb3 b s.heap l1 l2).objs.size=some { cls:=.type "tuple",data:=.seq #[.none,.none] }:=A2 _ (B5 _ rfl);have g3:(zb5 b s.heap l1 l2).get? (zb2 b s.heap l1 l2).objs.size=some { cls:=.type "tuple",data:=.seq #[.ref s.heap.objs.size,.ref (zb1 b s.heap l1).objs.size] }:=A2 _ (A2 _ (B5 _ rfl));have g2:(zb5 b s.heap l1 l2).get? (zb1 b s.heap l1).objs.size=some (qQZ b l2):=A2 _ (A2 _ (A2 _ (B5 _ rfl)));have g1:(zb5 b s.heap l1 l2).get? s.heap.objs.size=some (qQZ b l1):=A2 _ (A2 _ (A2 _ (A2 _ (B5 _ rfl))));have lt:∀ {l:Addr} {zs:Array Value},SSq b s.heap l zs->l<s.heap.objs.size:=fun {l zs} q=>by
  cases b
  ·obtain ⟨o,e,_⟩:=q;exact B7 e
  ·obtain ⟨o,e,_⟩:=q;exact B7 e
 refine ⟨⟨_,g5,rfl⟩,?_⟩;have D:=zipApart_new (n:=s.heap.objs.size) (lt hl1) (lt hl2);rw [<- z4,<- z3,<- z2,<- z1] at D;refine hQ _ _ _ _ _ _ D g5 g3 g4 ?_ ?_ ?_ fun c o e=>A2 _ (A2 _ (A2 _ (A2 _ (A2 _ e))))
 ·cases b
  ·exact ⟨_,g1,rfl,rfl⟩
  ·exact ⟨_,g1,rfl,rfl⟩
 ·cases b
  ·exact ⟨_,g2,rfl,rfl⟩
  ·exact ⟨_,g2,rfl,rfl⟩
 ·intro c hc;have e':c=(zb4 b s.heap l1 l2).objs.size\/c=(zb2 b s.heap l1 l2).objs.size\/c=(zb3 b s.heap l1 l2).objs.size\/c=s.heap.objs.size\/c=(zb1 b s.heap l1).objs.size:=by simpa using hc
  rcases e' with rfl | rfl | rfl | rfl | rfl
  ·omega
  ·omega
  ·omega
  ·exact B0 _
  ·omega
def SqB (b:Bool) (K:PySem.W.Frag) (H:Hp) (a:Addr) (xs:List V):Prop:=match b with | true=>SqT K H a xs | false=>SqL K H a xs
def Itz (K:PySem.W.Frag) (b:Bool) (l1 l2:Addr):It:=
 ⟨fun i H=>∃ xs ys x y,SqB b K H l1 xs/\SqB b K H l2 ys/\xs[i]?=some x/\ys[i]?=some y,fun i H v H'=>∃ T x y,H T=none/\v=.ref T/\H'=upd H T (.tup [x,y])/\∀ xs ys,SqB b K H l1 xs->SqB b K H l2 ys->xs[i]?=some x/\ys[i]?=some y,fun i H=>∃ xs,SqB b K H l1 xs/\(xs.length<=i\/∃ ys x,SqB b K H l2 ys/\xs[i]?=some x/\ys.length<=i)⟩
section
variable {X:Cx}
theorem Inv.seqB {b:Bool} {Ab:List (Addr × Obj)} {s:Shared} {σ:St} {H:Hp} {a:Addr} {xs:List V} (I:Inv X Ab σ H s) (h:SqB b X.K H a xs):∃ its:List Value,Vals xs its/\SSq b s.heap a its.toArray:=by
 cases b
 ·obtain ⟨its,rv,p,_⟩:=I.list h;exact ⟨its,rv,p.isList⟩
 ·obtain ⟨its,rv,p,_⟩:=I.tuple h;exact ⟨its,rv,p⟩
theorem Inv.seqB_inj {b:Bool} {Ab:List (Addr × Obj)} {s:Shared} {σ:St} {H:Hp} {a:Addr} {xs ys:List V} (I:Inv X Ab σ H s) (h:SqB b X.K H a xs) (h':SqB b X.K H a ys):xs=ys:=by
 cases b
 ·exact I.list_inj h h'
 ·exact I.tuple_inj h h'
theorem qUU {P:Program} {w:World} {K:PySem.W.Frag} {elts:List Expr} {k:Nat} {pos:Pos} {b:Bool} {z TI TO i1 i2 l1 l2:Addr} (D:ZipApart z TI TO i1 i2 l1 l2):Turn P w K (.Tuple elts k pos) (Itz K b l1 l2) [z,TI,TO,i1,i2] z (fun i h=>IsZip h z TI TO .none/\IsPair h TI (.ref i1) (.ref i2)/\(∃ a c,IsPair h TO a c)/\SIt b h i1 l1 i/\SIt b h i2 l2 i) where
 mem:=by simp
 obj:=fun i h ⟨h1,h2,⟨a,c,h3⟩,h4,h5⟩ d hd=>by
  have it:∀ {j l:Addr},SIt b h j l i->∃ o,h.get? j=some o/\∀ v,o.data ≠ .cell v:=fun {j l} q=>by
   cases b
   ·obtain ⟨o,e,_,q⟩:=q;exact ⟨o,e,fun v z=>by rw [q] at z;cases z⟩
   ·obtain ⟨o,e,_,q⟩:=q;exact ⟨o,e,fun v z=>by rw [q] at z;cases z⟩
  have e':d=z\/d=TI\/d=TO\/d=i1\/d=i2:=by simpa using hd
  rcases e' with rfl | rfl | rfl | rfl | rfl
  ·exact ⟨_,h1,fun v z=>by
    have z':z9 _=r8 v:=z;cases z'⟩
  ·exact ⟨_,h2,fun v z=>by
    have z':Data.seq _=r8 v:=z;cases z'⟩
  ·exact ⟨_,h3,fun v z=>by
    have z':Data.seq _=r8 v:=z;cases z'⟩
  ·exact it h4
  ·exact it h5
 keep:=fun i h h' ⟨h1,h2,⟨a,c,h3⟩,h4,h5⟩ kk=>⟨kk z (by simp) _ h1,kk TI (by simp) _ h2,⟨a,c,kk TO (by simp) _ h3⟩,h4.at fun o q=>kk i1 (by simp) o q,h5.at fun o q=>kk i2 (by simp) o q⟩
 item:=by
  intro X hP hw hK hc i Ab s σ H E I hf st hg;subst hP hw hK;obtain ⟨xs,ys,x,y,hq1,hq2,hx,hy⟩:=hg;obtain ⟨its,rv,p1⟩:=I.seqB hq1;obtain ⟨jts,rw',p2⟩:=I.seqB hq2;obtain ⟨u,hu,ru⟩:=rv.get hx;obtain ⟨v,hv,rv'⟩:=rw'.get hy;obtain ⟨h1,h2,⟨a,c,h3⟩,h4,h5⟩:=st;refine qHR D h1 h2 h3 h4 h5 p1 p2 (x:=u) (y:=v) (by simpa using hu) (by simpa using hv) fun h' a1 a2 a3 a4 a5 a6 a7=>?_
  refine ⟨_,rfl,wpAny_letOwnedTupleGo_zip a1 fun h2' b1 b2=>?_⟩;have ltz:z<s.heap.objs.size:=B7 h1;have nz:s.heap.objs.size ≠ z:=S9 ltz;have I1:Inv X Ab σ H { s with heap:=h2',toks:=s.toks }:=I.turnedL (ch:=[z,TI,TO,i1,i2]) (fun d o hd q=>by
   have e1:d ≠ z:=fun q=>hd (by simp [q])
   exact (b2.2 d e1).trans (a7 d o e1 (fun q=>hd (by simp [q])) (fun q=>hd (by simp [q])) (fun q=>hd (by simp [q])) q)) hf
  have hT:H s.heap.objs.size=none:=I.hok.fresh (B0 _);have fT:=I.fpOk (H':=H) (b:=s.heap.objs.size) (B0 _) hT;have gT:h2'.get? s.heap.objs.size=some { cls:=.type "tuple",data:=.seq #[u,v] }:=(b2.2 _ nz).trans a5;refine ⟨.ref s.heap.objs.size,upd H s.heap.objs.size (.tup [x,y]),I1.track hT I.sz fT.2.1 fT.2.2.2.2.1 fT.2.2.2.2.2 ⟨by simp only [E3,Y0];rw [sizeLine_eq];decide,[u,v],.cons ru (.cons rv' .nil),⟨_,gT,rfl,_,rfl⟩⟩,rfl,
   ⟨_,x,y,hT,rfl,rfl,fun xs' ys' e1 e2=>by rw [I.seqB_inj e1 hq1,I.seqB_inj e2 hq2];exact ⟨hx,hy⟩⟩,⟨b1,(b2.2 _ D.TIz).trans (a7 _ _ D.TIz D.TITO D.TIi1 D.TIi2 h2),⟨u,v,(b2.2 _ D.TOz).trans a2⟩,a3.at fun o q=>(b2.2 _ D.i1z).trans q,a4.at fun o q=>(b2.2 _ D.i2z).trans q⟩,fun d hd=>?_⟩
  have ltb:d<s.heap.objs.size:=by
   have it:∀ {j l:Addr} {n:Nat},SIt b s.heap j l n->j<s.heap.objs.size:=fun {j l n} q=>by
    cases b
    ·obtain ⟨o,e,_,q⟩:=q;exact B7 e
    ·obtain ⟨o,e,_,q⟩:=q;exact B7 e
   have e':d=z\/d=TI\/d=TO\/d=i1\/d=i2:=by simpa using hd
   rcases e' with rfl | rfl | rfl | rfl | rfl
   ·exact ltz
   ·exact B7 h2
   ·exact B7 h3
   ·exact it h4
   ·exact it h5
  rw [qA8 (D4 ltb)];exact (hf d hd).1
 done:=by
  intro X hP hw hK hc i Ab s σ H E I hf st hg;subst hP hw hK;obtain ⟨xs,hq,hx⟩:=hg;obtain ⟨its,rv,p⟩:=I.seqB hq;have hl:=rv.length;obtain ⟨h1,h2,⟨a,c,h3⟩,h4,h5⟩:=st;rcases hx with hx | ⟨ys,x,hq2,hxx,hy⟩
  rotate_left
  ·obtain ⟨jts,rw',p2⟩:=I.seqB hq2;have hl2:=rw'.length;obtain ⟨u,hu,ru⟩:=rv.get hxx;exact qHS (I.ok.hd hc) D h1 h2 h3 h4 h5 p p2 (x:=u) (by simpa using hu) (by simp;omega) fun h' eb=>⟨rfl,I.turnedL (t':=s.toks) (ch:=[z,TI,TO,i1,i2]) (fun d o hd q=>eb d o (fun z=>hd (by simp [z])) (fun z=>hd (by simp [z])) (fun z=>hd (by simp [z])) (fun z=>hd (by simp [z])) q) hf⟩
  exact qIN (I.ok.hd hc) D h1 h2 h4 p (by simp;omega) fun h' eb=>⟨rfl,I.turnedL (t':=s.toks) (ch:=[z,TI,TO,i1,i2]) (fun d o hd q=>eb d o (fun z=>hd (by simp [z])) (fun z=>hd (by simp [z])) q) hf⟩
 self:=fun _ _ _ _ _ ⟨h1,_⟩ h=>wpAny_pyIter_zip h1 h
def iZip (K:PySem.W.Frag) (ta:TA):TI:=fun σ H R=>ta σ H fun vs H1=>∃ b l m,vs=[.ref l,.ref m]/\(∃ xs,SqB b K H1 l xs)/\(∃ xs,SqB b K H1 m xs)/\R (Itz K b l m) H1
theorem qZN {elts:List Expr} {k:Nat} {tpos:Pos} {a b:Expr} {ta:TA} {p pos:Pos} (hg:Gl X "zip") (hm:X.mg "zip" = none) (hv:bootBuiltins "zip" = some (.type "zip")) (ha:PA X [a,b] ta) (hs:starEach [a,b] X.env=[(false,eval a X.env),(false,eval b X.env)]:=by rfl) (hs2:starEach [b] X.env=[(false,eval b X.env)]:=by rfl) :
  PI X (.Tuple elts k tpos) (.Call (.Name "zip" p) [a,b] [] pos) (iZip X.K ta):=by
 intro Ab s σ H R I h;refine Call_ (qGD I hg hm hv (P0 (thn (ha pos Ab s σ H _ I h) fun us s1 ⟨vs,H1,I1,r1,q1⟩=>?_) (by rw [hs,hs2]) (by rw [hs2];rfl)))
 obtain ⟨bb,l,m,e,⟨xs,hq⟩,⟨ys,hq2⟩,q⟩:=q1;subst e;obtain ⟨u,v,rfl,rx,ry⟩:=qNS r1;cases rx;cases ry;obtain ⟨its,rv,pl⟩:=I1.seqB hq;obtain ⟨jts,rw',pm⟩:=I1.seqB hq2;refine qU6 pl pm fun h' z TI TO i1 i2 D hz hTI hTO hi1 hi2 hfr hk=>?_;refine wpAny_pyIter_zip hz ?_;have I2:Inv X Ab σ H1 { s1 with heap:=h' }:=I1.kept (t':=s1.toks) hk;exact ⟨z,[z,TI,TO,i1,i2],_,_,H1,rfl,I2,qUU (b:=bb) D,⟨hz,hTI,⟨_,_,hTO⟩,hi1,hi2⟩,fun c hc=>I1.fpOk (hfr c hc) (I1.hok.fresh (hfr c hc)),q⟩
end
theorem qWX {K:PySem.W.Frag} {b:Bool} {l m:Addr} {xs ys:List V} {g:TG} {tc:TT} {te:TE} {Kf:Hp->Prop} {σ0:St} {H0:Hp} {p:Addr} (hlen:xs.length=ys.length) (Pv:Nat->St->Hp->Prop) (h0:Pv 0 σ0 H0) (hl:∀ i σ H,i<=xs.length->Pv i σ H->SqB b K H l xs/\SqB b K H m ys)
  (hs:∀ i x y σ H T,xs[i]?=some x->ys[i]?=some y->Pv i σ H->H T=none->g (.ref T) σ (upd H T (.tup [x,y])) fun σ2 H2=>tc σ2 H2 fun b H3=>if b=true then te σ2 H3 fun y H4=>∃ ys,H4 p=some (.lst ys)/\ys.length<sizeLine/\Pv (i+1) σ2 (upd H4 p (.lst (ys++[y]))) else Pv (i+1) σ2 H3)
  (hd:∀ σ H,Pv xs.length σ H->Kf H) :
  ∃ W:Nat->Nat->St->Hp->Prop,(∃ m,W 0 m σ0 H0)/\∀ i n σ H,W i n σ H->
   ((Itz K b l m).stop i H/\Kf H)\/((Itz K b l m).go i H/\∃ N:St->Hp->Prop,(∀ σ' H',N σ' H'->∃ m',m'<n/\W (i+1) m' σ' H')/\∀ x H',(Itz K b l m).yld i H x H'->g x σ H' fun σ2 H2=>tc σ2 H2 fun b H3=>
    if b=true then te σ2 H3 fun y H4=>∃ ys,H4 p=some (.lst ys)/\ys.length<sizeLine/\N σ2 (upd H4 p (.lst (ys++[y]))) else N σ2 H3):=by
 refine ⟨fun i n σ H=>n=xs.length - i/\i<=xs.length/\Pv i σ H,⟨xs.length,by simp,D3 _,h0⟩,?_⟩
 rintro i n σ H ⟨rfl,hi,q⟩;have hq:=hl i σ H hi q;by_cases hlt:i<xs.length
 ·refine .inr ⟨⟨xs,ys,xs[i],ys[i]'(by omega),hq.1,hq.2,by simp [hlt],A1 _⟩,Pv (i+1),fun σ' H' p'=>⟨xs.length - (i+1),by omega,rfl,hlt,p'⟩,fun v H' y=>?_⟩
  obtain ⟨T,x,y,hT,e1,e2,yy⟩:=y;subst e1 e2;exact hs i x y σ H T (yy xs ys hq.1 hq.2).1 (yy xs ys hq.1 hq.2).2 q hT
 ·have e:i=xs.length:=by omega
  subst e;exact .inl ⟨⟨xs,hq.1,.inl (B0 _)⟩,hd σ H q⟩
end L2
namespace L2
open PySem PySem.Spec PyProof.Rows
section
variable {X:Cx}
theorem qW2:PGet X (rIxL X.K):=by
 intro Ab s σ H o i ov iv Q I ro ri h;obtain ⟨p,xs,i,z,rfl,rfl,hq,he,q⟩:=h;cases ro;obtain ⟨t,rfl⟩:=ri;obtain ⟨its,r,pl,hz⟩:=I.list hq;obtain ⟨j,h1,h2,h3,h4,h5⟩:=qOS he;obtain ⟨w,ew,rw'⟩:=r.get h2;have hl:=r.length;have hn:=qK5;have fin:EP X Ab σ Q w s:=⟨z,H,I,rw',q⟩;by_cases h0:0<=i
 ·have hj:i.toNat=j:=by
   rw [seqIndex_of h0 h5] at h1;exact C6 h1
  exact wpAny_getItem_list pl.isList h0 (by omega) (by rw [hj];simpa using ew) fin
 ·have hj:(i+(its.toArray.size:Int)).toNat=j:=by
   rw [seqIndex_neg (by omega) h4] at h1
   rw [A8,<- hl];exact C6 h1
  exact wpAny_getItem_list_neg pl.isList (by omega) (by rw [A8] <;> omega) (by omega) (by rw [hj];simpa using ew) fin
end
end L2
namespace L2
open PySem
section
variable {es:List Expr} {env:Env} {p:Pos}
end
end L2
namespace L2
open PySem
@[irreducible] def cst (i:Int) (p:Pos):Expr:=.Constant (.int i) 0 p
end L2
namespace L2
open PySem
end L2
namespace L2
open PySem
@[elab_as_elim] theorem us0 {α:Type} {P:List α->Prop} (us:List α) (hl:us.length=0) (h:P []):P us:=by
 match us,hl with
 | [],_=>exact h
@[elab_as_elim] theorem us1 {α:Type} {P:List α->Prop} (us:List α) (hl:us.length=1) (h:∀ a,P [a]):P us:=by
 match us,hl with
 | [a],_=>exact h a
@[elab_as_elim] theorem us2 {α:Type} {P:List α->Prop} (us:List α) (hl:us.length=2) (h:∀ a b,P [a,b]):P us:=by
 match us,hl with
 | [a,b],_=>exact h a b
@[elab_as_elim] theorem us3 {α:Type} {P:List α->Prop} (us:List α) (hl:us.length=3) (h:∀ a b c,P [a,b,c]):P us:=by
 match us,hl with
 | [a,b,c],_=>exact h a b c
@[elab_as_elim] theorem us4 {α:Type} {P:List α->Prop} (us:List α) (hl:us.length=4) (h:∀ a b c d,P [a,b,c,d]):P us:=by
 match us,hl with
 | [a,b,c,d],_=>exact h a b c d
end L2
namespace L2.G
open PySem PyProof.Rows
abbrev gSM:=StateT SortSt Sem
class NM where
 nm:Value->Int
 good:Value->Prop
variable [NM]
def gkv (p:Keyed):Int:=NM.nm p.1
def gIK (p:Keyed):Prop:=NM.good p.1
class LtOk (prog:Program) (w:World) (A:Around) (s:Shared) (κ0:SortKind):Prop where
 lt:∀ {x y:Value} {Q:Bool->Shared->Prop} {E:Value->Shared->Prop},NM.good x->NM.good y->Q (decide (NM.nm x<NM.nm y)) s->wpAny (model prog w) A (keyLt' κ0 x y) Q E s
def gK (xs:Array Keyed) (i:Nat):Int:=match xs[i]? with
 | some p=>NM.nm p.1
 | none=>0
def gSortedTo (xs:Array Keyed) (k:Nat):Prop:=∀ i j,i<=j->j<k->gK xs i<=gK xs j
def qC8 (xs:Array Keyed):Prop:=∀ p,p ∈ xs.toList->NM.good p.1
theorem qR3 {xs:Array Keyed} {i:Nat} (hi:i<xs.size):gK xs i=NM.nm xs[i].1:=by unfold gK;rw [getElem?_pos xs i hi]
theorem qGJ {xs ys:Array Keyed} {i j:Nat} (h:xs[i]?=ys[j]?):gK xs i=gK ys j:=by unfold gK;rw [h]
theorem qTQ {xs:Array Keyed} {src d:Nat} (hs:src<xs.size) (hd:d<=src) (k:Nat) :
  gK (bubble xs src d) k=if k=src - d then gK xs src else if src - d<k/\k<=src then gK xs (k - 1) else gK xs k:=by
 have e:=getElem?_bubble hs d hd k;by_cases h1:k=src - d
 ·rw [if_pos h1] at e ⊢;exact qGJ e
 ·rw [if_neg h1] at e ⊢;by_cases h2:src - d<k/\k<=src
  ·rw [if_pos h2] at e ⊢;exact qGJ e
  ·rw [if_neg h2] at e ⊢;exact qGJ e
theorem qJ9 {xs:Array Keyed} {i j:Nat} (hj:j<=xs.size) (k:Nat) :
  gK (mirror xs i j ((j - i) / 2)) k=if i<=k/\k<j then gK xs (i+j - 1 - k) else gK xs k:=by
 have e:=getElem?_mirror_all (i:=i) hj k;by_cases h1:i<=k/\k<j
 ·rw [if_pos h1] at e ⊢;exact qGJ e
 ·rw [if_neg h1] at e ⊢;exact qGJ e
theorem qJ8 {xs:Array Keyed} {i j:Nat} (hj:j<=xs.size) (heq:∀ k,i<=k->k<j->gK xs k=gK xs (j - 1)) (k:Nat) :
  gK (mirror xs i j ((j - i) / 2)) k=gK xs k:=by
 rw [qJ9 hj]
 split
 ·rw [heq _ (by omega) (by omega),heq k (by omega) (by omega)]
 ·rfl
section
variable {prog:Program} {w:World} {A:Around} {E:Value->Shared->Prop} {s:Shared} {κ0:SortKind} [LtOk prog w A s κ0]
theorem qVZ {st:SortSt} {x y:Keyed} {Q:Option Bool->SortSt->Prop} (hk:kindOf st=κ0) (hx:gIK x) (hy:gIK y) (h:Q (some (decide (gkv x<gkv y))) st):wpS (model prog w) A E s (lt' x y) Q st:=by
 rw [lt'_eq];refine wpS_bind (wpS_get ?_);rw [hk];refine wpS_bind (wpS_lift (wpAny_attempt (LtOk.lt hx hy ⟨rfl,?_⟩)));exact wpS_pure h
theorem qTH {st:SortSt} {arr:Array Keyed} {i:Nat} {x:Keyed} {Q:Keyed->SortSt->Prop} (h:arr[i]?=some x) (hQ:Q x st):wpS (model prog w) A E s (elem' arr i) Q st:=by
 rw [elem'_eq,h];exact wpS_pure hQ
end
end L2.G
namespace L2.G
open PySem PyProof.Rows
variable [NM]
structure gMR (R:Keyed->Keyed->Prop) (all out ra rb:List Keyed):Prop where
 perm:(out++(ra++rb)).Perm all
 up:out.Pairwise R
 ua:ra.Pairwise R
 ub:rb.Pairwise R
 la:∀ x ∈ out,∀ y ∈ ra,R x y
 lb:∀ x ∈ out,∀ y ∈ rb,R x y
section
variable {R:Keyed->Keyed->Prop} {all out ra rb xs:List Keyed}
end
theorem qTN {a:Array Keyed} {i:Nat} (h:i<a.size):∃ x,a[i]?=some x/\a.toList[i]?=some x/\x ∈ a.toList:=⟨a[i],D2 h,by simp [h],by simp⟩
end L2.G
namespace L2.G
open PySem PyProof.Rows
variable [NM]
theorem gifT {prog:Program} {w:World} {A:Around} {E:Value->Shared->Prop} {s:Shared} {α:Type} {c:Prop} [Decidable c] {x y:gSM α} {Q:α->SortSt->Prop} {st:SortSt} (h:c) (k:wpS (model prog w) A E s x Q st):wpS (model prog w) A E s (if c then x else y) Q st:=by rw [if_pos h];exact k
theorem gifF {prog:Program} {w:World} {A:Around} {E:Value->Shared->Prop} {s:Shared} {α:Type} {c:Prop} [Decidable c] {x y:gSM α} {Q:α->SortSt->Prop} {st:SortSt} (h:¬ c) (k:wpS (model prog w) A E s y Q st):wpS (model prog w) A E s (if c then x else y) Q st:=by rw [if_neg h];exact k
section
variable {prog:Program} {w:World} {A:Around} {E:Value->Shared->Prop} {s:Shared} {κ0:SortKind} [LtOk prog w A s κ0]
end
end L2.G
namespace L2.G
open PySem PyProof.Rows
variable [NM]
section
variable {prog:Program} {w:World} {A:Around} {E:Value->Shared->Prop} {s:Shared} {κ0:SortKind} [LtOk prog w A s κ0]
end
end L2.G
namespace L2.G
open PySem PyProof.Rows
variable [NM]
theorem qTP {xs:Array Keyed} {i:Nat} {x:Keyed} (h:xs[i]?=some x):gK xs i=gkv x:=by
 unfold gK;rw [h]
 rfl
section
variable {prog:Program} {w:World} {A:Around} {E:Value->Shared->Prop} {s:Shared} {κ0:SortKind} [LtOk prog w A s κ0]
structure gSG (κ0:SortKind) (a₀:Array Keyed) (st:SortSt):Prop where
 perm:(arrOf st).Perm a₀
 kind:kindOf st=κ0
 failed:failedOf st=none
theorem gSG.size {a₀:Array Keyed} {st:SortSt} (h:gSG κ0 a₀ st):(arrOf st).size=a₀.size:=h.perm.size_eq
theorem gSG.ik {a₀:Array Keyed} {st:SortSt} (h:gSG κ0 a₀ st) (h0:qC8 a₀):∀ x ∈ (arrOf st).toList,gIK x:=fun x hx=>h0 x ((W8.mp h.perm).mem_iff.mp hx)
end
end L2.G
namespace L2.G
open PySem PyProof.Rows
variable [NM]
theorem gSG.lay {κ0:SortKind} {a₀:Array Keyed} {st:SortSt} (g:gSG κ0 a₀ st) {ys:Array Keyed} (p:ys.Perm (arrOf st)):gSG κ0 a₀ (setArr st ys):=⟨p.trans g.perm,g.kind,g.failed⟩
section
variable {prog:Program} {w:World} {A:Around} {E:Value->Shared->Prop} {s:Shared} {κ0:SortKind} [LtOk prog w A s κ0] {a₀:Array Keyed}
theorem qGG {st:SortSt} {i j:Nat} {Q:Option Bool->SortSt->Prop} (h0:qC8 a₀) (g:gSG κ0 a₀ st) (hi:i<a₀.size) (hj:j<a₀.size) (h:Q (some (decide (gK (arrOf st) i<gK (arrOf st) j))) st):wpS (model prog w) A E s (ltAt' i j) Q st:=by
 have hi2:i<(arrOf st).size:=by rw [g.size];exact hi
 have hj2:j<(arrOf st).size:=by rw [g.size];exact hj
 obtain ⟨x,ex,_,mx⟩:=qTN hi2;obtain ⟨y,ey,_,my⟩:=qTN hj2;rw [qTP ex,qTP ey] at h;rw [ltAt'_eq];refine wpS_bind (wpS_get ?_);exact wpS_bind (qTH ex (wpS_bind (qTH ey (qVZ g.kind (g.ik h0 x mx) (g.ik h0 y my) h))))
abbrev gCUp:=Option (Option Nat) × Nat
abbrev gCDn:=Option (Option Nat) × Nat × Nat
def gupL (lo a m:Nat):gSM gCUp:=
 forIn [a:m] ((none,a):gCUp) fun _ c=>do
  let t <- ltAt' (lo+c.snd) (lo+c.snd - 1)
  match t with
  | some less=>if less=true then pure (Z7 (none,c.snd)) else pure (O1 (none,c.snd+1))
  | _=>pure (Z7 (some none,c.snd))
def qTL (lo n m:Nat):gSM (Option Nat):=do
 reverseSlice' lo (lo+n)
 let c <- gupL lo n m
 match c.fst with
 | some r=>pure r
 | none=>pure (some c.snd)
def gdnL (lo n m:Nat):gSM gCDn:=
 forIn [n:m] ((none,n,0):gCDn) fun _ c=>do
  let t <- ltAt' (lo+c.snd.fst) (lo+c.snd.fst - 1)
  match t with
  | some less=>
   if less=true then
    if c.snd.snd > 0 then do
     reverseSlice' (lo+c.snd.fst - (c.snd.snd+1)) (lo+c.snd.fst)
     pure (O1 (none,c.snd.fst+1,0))
    else pure (O1 (none,c.snd.fst+1,0))
   else do
    let t <- ltAt' (lo+c.snd.fst - 1) (lo+c.snd.fst)
    match t with
    | some more=>
     if more=true then pure (Z7 (none,c.snd.fst,c.snd.snd))
     else pure (O1 (none,c.snd.fst+1,c.snd.snd+1))
    | _=>pure (Z7 (some none,c.snd.fst,c.snd.snd))
  | _=>pure (Z7 (some none,c.snd.fst,c.snd.snd))
def gdnP (lo n m:Nat):gSM (Option Nat):=do
 liftM (rule "list.sort.descending-run")
 let c <- gdnL lo (n+1) m
 match c.fst with
 | some r=>pure r
 | none=>
  if c.snd.snd > 0 then do
   reverseSlice' (lo+c.snd.fst - (c.snd.snd+1)) (lo+c.snd.fst)
   qTL lo c.snd.fst m
  else qTL lo c.snd.fst m
theorem qBB {α β:Type} {x y:gSM α} {f g:α->gSM β} (h:x=y) (k:∀ a,f a=g a):(x >>= f)=(y >>= g):=by rw [h,show f=g from funext k]
theorem qTM (lo m:Nat):countRun' lo m=(do
  let c <- gupL lo 1 m
  match c.fst with
  | some r=>pure r
  | none=>
   if (c.snd == m)=true then pure (some c.snd)
   else if c.snd > 1 then do
    let t <- ltAt' lo (lo+c.snd - 1)
    match t with
    | some rose=>if rose=true then pure (some c.snd) else do
      reverseSlice' lo (lo+c.snd)
      gdnP lo c.snd m
    | _=>pure none
   else gdnP lo c.snd m):=by
 rw [countRun'_eq];unfold gdnP qTL gdnL gupL;refine qBB rfl fun c=>?_;obtain ⟨r,n⟩:=c;cases r with
 | some r=>rfl
 | none=>
  have last:∀ c3:gCUp,(match c3.fst with | some r=>pure r | none=>pure (some c3.snd):gSM (Option Nat))=(match c3.fst with | some r=>pure r | none=>pure (some c3.snd)):=fun _=>rfl
  dsimp only
  split
  ·rfl
  ·split
   ·refine qBB rfl fun x=>?_;cases x with
    | none=>rfl
    | some rose=>
     dsimp only
     split
     ·rfl
     ·refine qBB rfl fun _=>qBB rfl fun _=>qBB rfl fun c2=>?_;obtain ⟨r2,n2,q2⟩:=c2;cases r2 with
      | some r2=>rfl
      | none=>
       dsimp only
       split
       ·refine qBB rfl fun _=>qBB rfl fun _=>qBB rfl fun c3=>?_;obtain ⟨r3,n3⟩:=c3;cases r3 <;> rfl
       ·refine qBB rfl fun _=>qBB rfl fun c3=>?_;obtain ⟨r3,n3⟩:=c3;cases r3 <;> rfl
   ·refine qBB rfl fun _=>qBB rfl fun c2=>?_;obtain ⟨r2,n2,q2⟩:=c2;cases r2 with
    | some r2=>rfl
    | none=>
     dsimp only
     split
     ·refine qBB rfl fun _=>qBB rfl fun _=>qBB rfl fun c3=>?_;obtain ⟨r3,n3⟩:=c3;cases r3 <;> rfl
     ·refine qBB rfl fun _=>qBB rfl fun c3=>?_;obtain ⟨r3,n3⟩:=c3;cases r3 <;> rfl
end
end L2.G
namespace L2.G
open PySem PyProof.Rows
variable [NM]
def gX (ix:Keyed->Int) (xs:Array Keyed) (i:Nat):Int:=match xs[i]? with
 | some p=>ix p
 | none=>0
section
variable {ix:Keyed->Int}
theorem qGI {xs ys:Array Keyed} {i j:Nat} (h:xs[i]?=ys[j]?):gX ix xs i=gX ix ys j:=by unfold gX;rw [h]
theorem qTO {xs:Array Keyed} {src d:Nat} (hs:src<xs.size) (hd:d<=src) (k:Nat) :
  gX ix (bubble xs src d) k=if k=src - d then gX ix xs src else if src - d<k/\k<=src then gX ix xs (k - 1) else gX ix xs k:=by
 have e:=getElem?_bubble hs d hd k;by_cases h1:k=src - d
 ·rw [if_pos h1] at e ⊢;exact qGI e
 ·rw [if_neg h1] at e ⊢;by_cases h2:src - d<k/\k<=src
  ·rw [if_pos h2] at e ⊢;exact qGI e
  ·rw [if_neg h2] at e ⊢;exact qGI e
theorem qCX {xs:Array Keyed} {i j:Nat} (hj:j<=xs.size) (k:Nat) :
  gX ix (mirror xs i j ((j - i) / 2)) k=if i<=k/\k<j then gX ix xs (i+j - 1 - k) else gX ix xs k:=by
 have e:=getElem?_mirror_all (i:=i) hj k;by_cases h1:i<=k/\k<j
 ·rw [if_pos h1] at e ⊢;exact qGI e
 ·rw [if_neg h1] at e ⊢;exact qGI e
def gLe (ix:Keyed->Int) (xs:Array Keyed) (i j:Nat):Prop:=gK xs i<gK xs j\/gK xs i=gK xs j/\gX ix xs i<=gX ix xs j
theorem gLe.refl {xs:Array Keyed} (i:Nat):gLe ix xs i i:=.inr ⟨rfl,E6 _⟩
theorem gLe.k {xs:Array Keyed} {i j:Nat} (h:gLe ix xs i j):gK xs i<=gK xs j:=by
 rcases h with h | h <;> omega
theorem gLe.trans {xs:Array Keyed} {i j k:Nat} (h:gLe ix xs i j) (h2:gLe ix xs j k):gLe ix xs i k:=by
 unfold gLe at *;omega
theorem gLe.of {xs:Array Keyed} {i j:Nat} (h:gK xs i<=gK xs j) (h2:gX ix xs i<=gX ix xs j):gLe ix xs i j:=by
 unfold gLe;omega
theorem gLe.to {xs ys:Array Keyed} {i j i' j':Nat} (h:gLe ix xs i j) (a:gK ys i'=gK xs i) (b:gX ix ys i'=gX ix xs i) (c:gK ys j'=gK xs j) (d:gX ix ys j'=gX ix xs j):gLe ix ys i' j':=by
 unfold gLe at *;omega
def qEX (ix:Keyed->Int) (xs:Array Keyed) (hi:Nat):Prop:=∀ i j,i<=j->j<hi->gLe ix xs i j
def qTR (ix:Keyed->Int) (xs:Array Keyed) (hi:Nat):Prop:=∀ i j,i<=j->j<hi->gLe ix xs j i
def gMon (ix:Keyed->Int) (xs:Array Keyed) (n:Nat):Prop:=∀ i j,i<=j->n<=j->j<xs.size->gX ix xs i<=gX ix xs j
theorem gMon.up {xs:Array Keyed} {n m:Nat} (h:gMon ix xs n) (k:n<=m):gMon ix xs m:=fun i j a b c=>h i j a (G9 k b) c
theorem gMon.mirror {xs:Array Keyed} {i j:Nat} (hj:j<=xs.size) (h:gMon ix xs j):gMon ix (mirror xs i j ((j - i) / 2)) j:=by
 intro a b hab hb hs;have hs:b<xs.size:=by rw [(mirror_perm xs i j ((j - i) / 2)).size_eq] at hs;exact hs
 rw [qCX hj,qCX hj,if_neg (show ¬ (i<=b/\b<j) by omega)]
 split
 ·exact h _ _ (by omega) hb hs
 ·exact h _ _ hab hb hs
variable {prog:Program} {w:World} {A:Around} {E:Value->Shared->Prop} {s:Shared} {κ0:SortKind} [LtOk prog w A s κ0] {a₀:Array Keyed}
theorem qTJ {st:SortSt} {n ok:Nat} {Q:Bool->SortSt->Prop} (h0:qC8 a₀) (g:gSG κ0 a₀ st) (hn:n<=a₀.size) (hok:ok<=n) (u:qEX ix (arrOf st) ok) (mo:gMon ix (arrOf st) ok)
  (h:∀ st2,gSG κ0 a₀ st2->pendingOf st2=pendingOf st->qEX ix (arrOf st2) n->Q true st2):wpS (model prog w) A E s (binarySort' 0 n ok) Q st:=by
 rw [binarySort'_eq];refine wpS_bind (wpS_mono (wpS_forRange (I:=fun k c st2=>c=(none,())/\gSG κ0 a₀ st2/\pendingOf st2=pendingOf st/\qEX ix (arrOf st2) (min k n)/\gMon ix (arrOf st2) k)
  (Q:=fun c st2=>c=(none,())/\gSG κ0 a₀ st2/\pendingOf st2=pendingOf st/\qEX ix (arrOf st2) n) ?step ?fin ?init) ?post)
 case post=>
  rintro c st2 ⟨rfl,g2,pe,u2⟩;exact wpS_pure (h st2 g2 pe u2)
 case init=>
  refine ⟨rfl,g,rfl,fun i j hij hj=>?_,mo.up (by omega)⟩
  by_cases h1:ok=0
  ·rw [show i=j by omega]
   exact .refl _
  ·exact u i j hij (by omega)
 case fin=>
  rintro c st2 ⟨hc,g2,pe,u2,_⟩;rw [show min (max (max ok 1) n) n=n by omega] at u2
  exact ⟨hc,g2,pe,u2⟩
 case step=>
  rintro k c st2 hak hkn ⟨rfl,g2,pe,u2,mo2⟩;rw [show min k n=k by omega] at u2
  have hk:0+k<a₀.size:=by omega
  refine wpS_bind (wpS_mono (wpS_forRange (I:=fun x c st3=>st3=st2/\∃ l r,c=(none,l,r)/\l<=r/\r<=k/\r - l<=k - x/\
    (∀ i,i<l->gK (arrOf st2) i<=gK (arrOf st2) k)/\(∀ i,r<=i->i<k->gK (arrOf st2) k<gK (arrOf st2) i))
   (Q:=fun c st3=>st3=st2/\∃ l r,c=(none,l,r)/\l<=k/\
    (∀ i,i<l->gK (arrOf st2) i<=gK (arrOf st2) k)/\(∀ i,l<=i->i<k->gK (arrOf st2) k<gK (arrOf st2) i)) ?istep ?ifin ?iinit) ?ipost)
  case iinit=>exact ⟨rfl,0,k,rfl,by omega,by omega,by omega,fun i hi=>by omega,fun i h1 h2=>by omega⟩
  case ifin=>
   rintro c st3 ⟨rfl,l,r,rfl,hlr,hrk,hm,ha,hb⟩;have e:l=r:=by omega
   rw [<- e] at hb hrk;exact ⟨rfl,l,r,rfl,hrk,ha,hb⟩
  case istep=>
   rintro x c st3 _ hxk ⟨rfl,l,r,rfl,hlr,hrk,hm,ha,hb⟩;dsimp only;by_cases hge:l >= r
   ·refine gifT hge ?_;have e:l=r:=by omega
    rw [<- e] at hb hrk;exact wpS_pure ⟨rfl,l,r,rfl,hrk,ha,hb⟩
   ·refine gifF hge ?_;refine wpS_bind (qGG h0 g2 hk (by omega) ?_)
    rw [L4,L4];by_cases less:gK (arrOf st3) k<gK (arrOf st3) ((l+r) / 2)
    ·rw [decide_eq_true less];dsimp only;refine gifT rfl ?_;refine wpS_pure ⟨rfl,l,(l+r) / 2,rfl,by omega,by omega,by omega,ha,fun i h1 h2=>?_⟩
     have:=(u2 ((l+r) / 2) i h1 h2).k;omega
    ·rw [decide_eq_false less];dsimp only;rw [if_neg B8];refine wpS_pure ⟨rfl,(l+r) / 2+1,r,rfl,by omega,by omega,by omega,fun i h1=>?_,hb⟩
     have:=(u2 i ((l+r) / 2) (by omega) (by omega)).k
     omega
  case ipost=>
   rintro c st3 ⟨rfl,l,r,rfl,hlk,ha,hb⟩;have hks:0+k<(arrOf st3).size:=by rw [g2.size];exact hk
   show wpS _ _ _ _ (moveDown' (0+k) (0+l) >>= fun _=>pure (O1 (none,()))) _ _;rw [moveDown'_eq];have KB:=fun i=>qTQ hks (show 0+k - (0+l)<=0+k by omega) i
   have XB:=fun i=>qTO (ix:=ix) hks (show 0+k - (0+l)<=0+k by omega) i
   rw [show 0+k - (0+k - (0+l))=l by omega,L4] at KB XB
   refine wpS_bind (wpS_modify (wpS_pure ⟨rfl,g2.lay (bubble_perm _ _ _),pe,?_,?_⟩))
   ·rw [show min (k+1) n=k+1 by omega]
    intro i j hij hj;show gLe ix (bubble (arrOf st3) (0+k) (0+k - (0+l))) i j;rw [L4] at hks ⊢;have Ki:=KB i;have Kj:=KB j;have Xi:=XB i;have Xj:=XB j;by_cases c1:i=j
    ·subst c1;exact .refl _
    by_cases c2:i=l
    ·rw [if_pos c2] at Ki Xi;rw [if_neg (show ¬ j=l by omega),if_pos (show l<j/\j<=k by omega)] at Kj Xj
     have:=hb (j - 1) (by omega) (by omega)
     exact .inl (by omega)
    ·rw [if_neg c2] at Ki Xi;by_cases c3:l<i/\i<=k
     ·rw [if_pos c3] at Ki Xi;rw [if_neg (show ¬ j=l by omega),if_pos (show l<j/\j<=k by omega)] at Kj Xj
      exact (u2 (i - 1) (j - 1) (by omega) (by omega)).to Ki Xi Kj Xj
     ·rw [if_neg c3] at Ki Xi;by_cases c4:j=l
      ·rw [if_pos c4] at Kj Xj;have k1:=ha i (by omega)
       have k2:=mo2 i k (by omega) (B0 _) hks
       exact .of (by omega) (by omega)
      ·rw [if_neg c4] at Kj Xj;by_cases c5:l<j/\j<=k
       ·rw [if_pos c5] at Kj Xj;exact (u2 i (j - 1) (by omega) (by omega)).to Ki Xi Kj Xj
       ·rw [if_neg c5] at Kj Xj;exact (u2 i j (by omega) (by omega)).to Ki Xi Kj Xj
   ·intro i j hij hj hs;have hs:j<(arrOf st3).size:=by have z:=(bubble_perm (arrOf st3) (0+k) (0+k - (0+l))).size_eq;rw [<- z];exact hs
    show gX ix (bubble (arrOf st3) (0+k) (0+k - (0+l))) i<=gX ix (bubble (arrOf st3) (0+k) (0+k - (0+l))) j;rw [L4,XB i,XB j,if_neg (show ¬ j=l by omega),if_neg (show ¬ (l<j/\j<=k) by omega)]
    repeat' split
    ·exact mo2 _ _ (by omega) (by omega) hs
    ·exact mo2 _ _ (by omega) (by omega) hs
    ·exact mo2 _ _ hij (by omega) hs
theorem qPS {st:SortSt} {a m:Nat} {Q:gCUp->SortSt->Prop} (h0:qC8 a₀) (g:gSG κ0 a₀ st) (hm:m<=a₀.size) (ha:1<=a) (han:a<=m) (u:qEX ix (arrOf st) a) (mo:gMon ix (arrOf st) a)
  (h:∀ n,a<=n->n<=m->qEX ix (arrOf st) n->(n=m\/gK (arrOf st) n<gK (arrOf st) (n - 1))->Q (none,n) st):wpS (model prog w) A E s (gupL 0 a m) Q st:=by
 unfold gupL;refine wpS_forRange (I:=fun x c st2=>st2=st/\c=(none,x)/\qEX ix (arrOf st) x) ?step ?fin ⟨rfl,rfl,u⟩
 case fin=>
  rintro c st2 ⟨rfl,rfl,u2⟩;rw [show max a m=m by omega] at u2 ⊢
  exact h m han (B0 _) u2 (.inl rfl)
 case step=>
  rintro x c st2 hax hxn ⟨rfl,rfl,u2⟩;dsimp only;refine wpS_bind (qGG h0 g (by omega) (by omega) ?_)
  rw [L4];by_cases less:gK (arrOf st2) x<gK (arrOf st2) (x - 1)
  ·rw [decide_eq_true less];dsimp only;refine gifT rfl ?_;exact wpS_pure (h x hax (by omega) u2 (.inr less))
  ·rw [decide_eq_false less];dsimp only;rw [if_neg B8];refine wpS_pure ⟨rfl,rfl,fun i j hij hj=>?_⟩;by_cases hjx:j<x
   ·exact u2 i j hij hjx
   ·have ej:j=x:=by omega
    rw [ej];by_cases ei:i=x
    ·rw [ei];exact .refl _
    ·have h1:=u2 i (x - 1) (by omega) (by omega)
     have h2:=mo (x - 1) x (by omega) hax (by rw [g.size];omega)
     exact h1.trans (.of (by omega) h2)
theorem qMZ {st:SortSt} {n m:Nat} {Q:Option Nat->SortSt->Prop} (h0:qC8 a₀) (g:gSG κ0 a₀ st) (hm:m<=a₀.size) (h1:1<=n) (hnm:n<=m) (u:qTR ix (arrOf st) n) (mo:gMon ix (arrOf st) n)
  (h:∀ k st2,gSG κ0 a₀ st2->pendingOf st2=pendingOf st->1<=k->k<=m->qEX ix (arrOf st2) k->gMon ix (arrOf st2) k->Q (some k) st2):wpS (model prog w) A E s (qTL 0 n m) Q st:=by
 unfold qTL;have hsz:0+n<=(arrOf st).size:=by rw [g.size];omega
 rw [reverseSlice'_eq];refine wpS_bind (wpS_modify ?_);have g2:gSG κ0 a₀ (setArr st (mirror (arrOf st) 0 (0+n) ((0+n - 0) / 2))):=g.lay (mirror_perm _ _ _ _);have mo2:gMon ix (mirror (arrOf st) 0 (0+n) ((0+n - 0) / 2)) n:=by
  have:=gMon.mirror (ix:=ix) (i:=0) hsz (by rw [L4];exact mo)
  rw [L4] at this ⊢;exact this
 refine wpS_bind (qPS h0 g2 hm h1 hnm ?_ mo2 fun k hk1 hk2 uk _=>wpS_pure (h k _ g2 rfl (by omega) hk2 uk (mo2.up hk1)))
 intro i j hij hj;show gLe ix (mirror (arrOf st) 0 (0+n) ((0+n - 0) / 2)) i j;have Ki:=qJ9 (i:=0) hsz i;have Kj:=qJ9 (i:=0) hsz j;have Xi:=qCX (ix:=ix) (i:=0) hsz i;have Xj:=qCX (ix:=ix) (i:=0) hsz j;rw [if_pos (by omega)] at Ki Kj Xi Xj
 exact (u _ _ (show 0+(0+n) - 1 - j<=0+(0+n) - 1 - i by omega) (by omega)).to Ki Xi Kj Xj
structure gDn (ix:Keyed->Int) (xs:Array Keyed) (x e:Nat):Prop where
 le:e+1<=x
 fal:qTR ix xs (x - (e+1))
 les:∀ i j,i<x - (e+1)->x - (e+1)<=j->j<x->gK xs j<gK xs i
 eq:∀ j,x - (e+1)<=j->j<x->gK xs j=gK xs (x - 1)
 mon:gMon ix xs (x - (e+1))
theorem gDn.turn {xs:Array Keyed} {x e:Nat} (h:gDn ix xs x e) (hx:x<=xs.size):qTR ix (mirror xs (x - (e+1)) x ((x - (x - (e+1))) / 2)) x/\gMon ix (mirror xs (x - (e+1)) x ((x - (x - (e+1))) / 2)) x/\∀ k,gK (mirror xs (x - (e+1)) x ((x - (x - (e+1))) / 2)) k=gK xs k:=by
 have KE:=qJ8 (i:=x - (e+1)) hx h.eq;refine ⟨fun i j hij hj=>?_,gMon.mirror hx (h.mon.up (by omega)),KE⟩
 have Ki:=KE i;have Kj:=KE j;by_cases c:j<x - (e+1)
 ·have Xi:=qCX (ix:=ix) (i:=x - (e+1)) hx i;have Xj:=qCX (ix:=ix) (i:=x - (e+1)) hx j;rw [if_neg (by omega)] at Xi Xj
  exact (h.fal i j hij c).to Kj Xj Ki Xi
 ·by_cases c2:i<x - (e+1)
  ·have:=h.les i j c2 (by omega) hj
   exact .inl (by omega)
  ·have Xi:=qCX (ix:=ix) (i:=x - (e+1)) hx i;have Xj:=qCX (ix:=ix) (i:=x - (e+1)) hx j;rw [if_pos (by omega)] at Xi Xj
   have k1:=h.eq i (by omega) (by omega)
   have k2:=h.eq j (by omega) hj
   have k3:=h.mon (x - (e+1)+x - 1 - j) (x - (e+1)+x - 1 - i) (by omega) (by omega) (by omega)
   exact .of (by omega) (by omega)
theorem gDn.whole {xs:Array Keyed} {x:Nat} (h:gDn ix xs x 0):qTR ix xs x/\gMon ix xs x:=by
 have le:=h.le;refine ⟨fun i j hij hj=>?_,h.mon.up (by omega)⟩
 by_cases c:j<x - 1
 ·exact h.fal i j hij c
 ·by_cases c2:i=j
  ·subst c2;exact .refl _
  ·have:=h.les i j (by omega) (by omega) hj
   exact .inl this
theorem gDn.less {xs:Array Keyed} {x:Nat} (h1:1<=x) (f:qTR ix xs x) (m:gMon ix xs x) (l:gK xs x<gK xs (x - 1)):gDn ix xs (x+1) 0:=by
 refine ⟨by omega,?_,?_,?_,?_⟩
 ·exact f
 ·intro i j hi hj1 hj2;have:=(f i (x - 1) (by omega) (by omega)).k
  rw [show j=x by omega]
  omega
 ·intro j hj1 hj2;congr 1;omega
 ·exact m
theorem qW0 {st:SortSt} {n m:Nat} {Q:gCDn->SortSt->Prop} (h0:qC8 a₀) (g:gSG κ0 a₀ st) (hm:m<=a₀.size) (hnm:n<=m) (u:gDn ix (arrOf st) n 0)
  (h:∀ k e st2,gSG κ0 a₀ st2->pendingOf st2=pendingOf st->n<=k->k<=m->gDn ix (arrOf st2) k e->Q (none,k,e) st2) :
  wpS (model prog w) A E s (gdnL 0 n m) Q st:=by
 unfold gdnL;refine wpS_forRange (I:=fun x c st2=>∃ e,c=(none,x,e)/\gSG κ0 a₀ st2/\pendingOf st2=pendingOf st/\gDn ix (arrOf st2) x e) ?step ?fin ⟨0,rfl,g,rfl,u⟩
 case fin=>
  rintro c st2 ⟨e,rfl,g2,pe,u2⟩;rw [show max n m=m by omega] at u2 ⊢
  exact h m e st2 g2 pe hnm (B0 _) u2
 case step=>
  rintro x c st2 hax hxn ⟨e,rfl,g2,pe,u2⟩;dsimp only;have hle:=u2.le;have hsz:x<=(arrOf st2).size:=by rw [g2.size];omega
  refine wpS_bind (qGG h0 g2 (by omega) (by omega) ?_)
  rw [L4];by_cases less:gK (arrOf st2) x<gK (arrOf st2) (x - 1)
  ·rw [decide_eq_true less];dsimp only;refine gifT rfl ?_;by_cases hpos:e > 0
   ·rw [if_pos hpos,reverseSlice'_eq];obtain ⟨t1,t2,t3⟩:=u2.turn hsz;refine wpS_bind (wpS_modify (wpS_pure ⟨0,rfl,g2.lay (mirror_perm _ _ _ _),pe,?_⟩));exact gDn.less (by omega) t1 t2 (by show gK (mirror _ _ _ _) x<gK (mirror _ _ _ _) (x - 1);rw [t3,t3];exact less)
   ·refine gifF hpos ?_;have e0:e=0:=by omega
    subst e0;obtain ⟨t1,t2⟩:=u2.whole;exact wpS_pure ⟨0,rfl,g2,pe,gDn.less (by omega) t1 t2 less⟩
  ·rw [decide_eq_false less];dsimp only;rw [if_neg B8];refine wpS_bind (qGG h0 g2 (by omega) (by omega) ?_)
   by_cases big:gK (arrOf st2) (x - 1)<gK (arrOf st2) x
   ·rw [decide_eq_true big];dsimp only;refine gifT rfl ?_;exact wpS_pure (h x e st2 g2 pe hax (by omega) u2)
   ·rw [decide_eq_false big];dsimp only;rw [if_neg B8];have ex:gK (arrOf st2) x=gK (arrOf st2) (x - 1):=by omega
    have ee:x+1 - (e+1+1)=x - (e+1):=by omega
    refine wpS_pure ⟨e+1,rfl,g2,pe,by omega,by rw [ee];exact u2.fal,fun i j hi hj1 hj2=>?_,fun j hj1 hj2=>?_,by rw [ee];exact u2.mon⟩
    ·rw [ee] at hi hj1;by_cases c:j=x
     ·have:=u2.les i (x - 1) hi (by omega) (by omega)
      rw [c];omega
     ·exact u2.les i j hi hj1 (by omega)
    ·rw [ee] at hj1;rw [show x+1 - 1=x by omega]
     by_cases c:j=x
     ·rw [c]
     ·have:=u2.eq j hj1 (by omega)
      omega
theorem qPT {st:SortSt} {n m:Nat} {Q:Option Nat->SortSt->Prop} (h0:qC8 a₀) (g:gSG κ0 a₀ st) (hm:m<=a₀.size) (hnm:n+1<=m) (u:gDn ix (arrOf st) (n+1) 0)
  (h:∀ k st2,gSG κ0 a₀ st2->pendingOf st2=pendingOf st->1<=k->k<=m->qEX ix (arrOf st2) k->gMon ix (arrOf st2) k->Q (some k) st2):wpS (model prog w) A E s (gdnP 0 n m) Q st:=by
 unfold gdnP;refine wpS_bind (wpS_lift (wpAny_rule ⟨rfl,?_⟩));refine wpS_bind (qW0 h0 g hm hnm u fun k e st2 g2 pe hk1 hk2 u2=>?_);dsimp only;have hle:=u2.le;have hsz:k<=(arrOf st2).size:=by rw [g2.size];omega
 by_cases hpos:e > 0
 ·rw [if_pos hpos,reverseSlice'_eq];obtain ⟨t1,t2,_⟩:=u2.turn hsz;refine wpS_bind (wpS_modify ?_);rw [L4];exact qMZ h0 (g2.lay (mirror_perm _ _ _ _)) hm (by omega) hk2 t1 t2 fun k2 st3 g3 pe3 a1 a2 u3 m3=>h k2 st3 g3 (pe3.trans pe) a1 a2 u3 m3
 ·refine gifF hpos ?_;have e0:e=0:=by omega
  subst e0;obtain ⟨t1,t2⟩:=u2.whole;exact qMZ h0 g2 hm (by omega) hk2 t1 t2 fun k2 st3 g3 pe3 a1 a2 u3 m3=>h k2 st3 g3 (pe3.trans pe) a1 a2 u3 m3
theorem qTI {st:SortSt} {m:Nat} {Q:Option Nat->SortSt->Prop} (h0:qC8 a₀) (g:gSG κ0 a₀ st) (hm:m<=a₀.size) (h1:1<=m) (mo:gMon ix (arrOf st) 0)
  (h:∀ k st2,gSG κ0 a₀ st2->pendingOf st2=pendingOf st->1<=k->k<=m->qEX ix (arrOf st2) k->gMon ix (arrOf st2) k->Q (some k) st2):wpS (model prog w) A E s (countRun' 0 m) Q st:=by
 rw [qTM];refine wpS_bind (qPS h0 g hm (B0 1) h1 (fun i j hij hj=>by rw [show i=j by omega];exact .refl _) (mo.up (D3 _)) fun n hn1 hn2 un or=>?_)
 dsimp only;by_cases e:n=m
 ·refine gifT (by simpa using e) ?_
  exact wpS_pure (h n st g rfl hn1 hn2 un (mo.up (D3 _)))
 ·refine gifF (by simpa using e) ?_
  have hlt:gK (arrOf st) n<gK (arrOf st) (n - 1):=or.resolve_left e;by_cases hgt:n > 1
  ·refine gifT hgt ?_;refine wpS_bind (qGG h0 g (by omega) (by omega) ?_)
   rw [L4];by_cases rose:gK (arrOf st) 0<gK (arrOf st) (n - 1)
   ·rw [decide_eq_true rose];dsimp only;refine gifT rfl ?_;exact wpS_pure (h n st g rfl hn1 hn2 un (mo.up (D3 _)))
   ·rw [decide_eq_false rose];dsimp only;rw [if_neg B8,reverseSlice'_eq];have hsz:n<=(arrOf st).size:=by rw [g.size];omega
    have same:∀ k,0<=k->k<n->gK (arrOf st) k=gK (arrOf st) (n - 1):=by
     intro k _ hk;have a1:=(un 0 k (D3 _) hk).k;have a2:=(un k (n - 1) (by omega) (by omega)).k
     omega
    refine wpS_bind (wpS_modify ?_);have D:gDn ix (arrOf st) n (n - 1):=⟨by omega,fun i j _ hj=>by omega,fun i j hi=>by omega,fun j _ hj=>same j (D3 _) hj,mo.up (D3 _)⟩
    obtain ⟨t1,t2,t3⟩:=D.turn hsz;rw [show n - (n - 1+1)=0 by omega] at t1 t2 t3
    refine qPT h0 (g.lay (mirror_perm _ _ _ _)) hm (by omega) ?_ fun k st2 g2 pe a1 a2 u2 m2=>h k st2 g2 pe a1 a2 u2 m2
    exact gDn.less (by omega) t1 t2 (by rw [t3,t3];exact hlt)
  ·refine gifF hgt ?_;have e1:n=1:=by omega
   rw [e1] at hlt;rw [e1];refine qPT h0 g hm (by omega) (gDn.less (B0 1) (fun i j hij hj=>by rw [show i=j by omega];exact .refl _) (mo.up (D3 _)) hlt) h
theorem qW1:∀ n:Nat,n<64->minRun' n n 0=n
 | 0,_=>rfl
 | n+1,h=>if_pos h
theorem qKA (hs:a₀.size<64) {st:SortSt} {Q:Unit->SortSt->Prop} (h0:qC8 a₀) (g:gSG κ0 a₀ st) (mo:gMon ix (arrOf st) 0) (hp:pendingOf st=#[]) (h:∀ st2,gSG κ0 a₀ st2->qEX ix (arrOf st2) a₀.size->Q () st2):wpS (model prog w) A E s sortRuns' Q st:=by
 rw [sortRuns'_eq];refine wpS_bind (wpS_get ?_);dsimp only;rw [g.size,qW1 _ hs];refine wpS_bind (wpS_mono (wpS_forRange
  (I:=fun x c st2=>gSG κ0 a₀ st2/\(c=(none,0)/\x=0/\gMon ix (arrOf st2) 0/\pendingOf st2=#[]\/c=(none,a₀.size)/\qEX ix (arrOf st2) a₀.size/\(pendingOf st2).size<=1))
  (Q:=fun c st2=>c.1=none/\gSG κ0 a₀ st2/\qEX ix (arrOf st2) a₀.size/\(pendingOf st2).size<=1) ?step ?fin ⟨g,.inl ⟨rfl,rfl,mo,hp⟩⟩) ?post)
 case fin=>
  rintro c st2 ⟨g2,⟨rfl,h1,_,pe⟩ | ⟨rfl,u,pe⟩⟩
  ·exact ⟨rfl,g2,fun i j _ hj=>by omega,by rw [pe];exact D3 _⟩
  ·exact ⟨rfl,g2,u,pe⟩
 case post=>
  rintro ⟨c,lo⟩ st2 ⟨e,g2,r2,le2⟩;cases (show c=none from e);dsimp only;refine wpS_bind (wpS_mono (wpS_forRange (I:=fun x c st3=>c=(none,())/\st3=st2)
   (Q:=fun c st3=>c=(none,())/\st3=st2) ?_ ?_ ⟨rfl,rfl⟩) ?_)
  ·rintro x c st3 _ _ ⟨rfl,rfl⟩;refine wpS_bind (wpS_get ?_);rw [if_pos le2];exact wpS_pure ⟨rfl,rfl⟩
  ·rintro c st3 ⟨e,g3⟩;exact ⟨e,g3⟩
  ·rintro c st3 ⟨rfl,rfl⟩;exact wpS_pure (h st3 g2 r2)
 case step=>
  rintro x c st2 _ hx ⟨g2,⟨rfl,h1,mo2,pe2⟩ | ⟨rfl,u,pe⟩⟩
  ·dsimp only;rw [if_neg (by omega)]
   refine wpS_bind (qTI h0 g2 (B0 _) (by omega) mo2 fun k st3 g3 pe3 k1 k2 u3 m3=>?_)
   rw [pe2] at pe3;dsimp only;have tail:∀ (st5:SortSt) (n:Nat),gSG κ0 a₀ st5->n=a₀.size->qEX ix (arrOf st5) n->pendingOf st5=#[]->
     gSG κ0 a₀ (setPending st5 ((pendingOf st5).push (0,n,0)))/\(((none,0+n):Option Unit × Nat)=(none,0)/\x+1=0/\gMon ix (arrOf st5) 0/\(pendingOf st5).push (0,n,0)=#[]\/((none,0+n):Option Unit × Nat)=(none,a₀.size)/\qEX ix (arrOf st5) a₀.size/\((pendingOf st5).push (0,n,0)).size<=1):=by
    intro st5 n g5 en u5 pe5;subst en;refine ⟨⟨g5.perm,g5.kind,g5.failed⟩,.inr ⟨by rw [L4],u5,?_⟩⟩
    rw [pe5];exact B0 _
   by_cases c2:k<a₀.size
   ·rw [if_pos c2];refine wpS_bind (wpS_lift (wpAny_rule ⟨rfl,?_⟩));refine wpS_bind (qTJ h0 g3 (by omega) (by omega) u3 m3 fun st4 g4 pe4 u4=>?_)
    rw [pe3] at pe4;rw [if_neg (by simp)]
    refine wpS_bind (wpS_get ?_);rw [show (pendingOf st4).back?=none by rw [pe4];rfl]
    dsimp only;refine wpS_bind (wpS_modify (wpS_pure ?_));exact tail st4 _ g4 (by omega) u4 pe4
   ·rw [if_neg c2];refine wpS_bind (wpS_get ?_);rw [show (pendingOf st3).back?=none by rw [pe3];rfl]
    dsimp only;refine wpS_bind (wpS_modify (wpS_pure ?_));exact tail st3 _ g3 (by omega) u3 pe3
  ·dsimp only;rw [if_pos (B0 _)];exact wpS_pure ⟨rfl,g2,u,pe⟩
theorem gwpS_runs (hs:a₀.size<64) {st:SortSt} {Q:Unit->SortSt->Prop} (h0:qC8 a₀) (g:gSG κ0 a₀ st) (hp:pendingOf st=#[]) (h:∀ st2,gSG κ0 a₀ st2->gSortedTo (arrOf st2) a₀.size->Q () st2):wpS (model prog w) A E s sortRuns' Q st:=
 qKA (ix:=fun _=>0) hs h0 g (fun i j _ _ _=>by
  have e:∀ k,gX (fun _=>0) (arrOf st) k=0:=fun k=>by unfold gX;split <;> rfl
  rw [e,e];exact E6 _) hp fun st2 g2 u=>h st2 g2 fun i j hij hj=>(u i j hij hj).k
end
end L2.G
namespace L2
open PySem PySem.Spec PyProof.Rows
section
variable {prog:Program} {w:World} {A:Around} {E:Value->Shared->Prop} {s:Shared}
theorem qRW {a:Addr} {vs:List Value} {ns:List Int} {n:Nat} {P:Fin->Shared->Prop} (e0:s.heap.get? a=some (seqObj "list" vs.toArray n)) (ia:IntsAre vs ns) (hs:vs.length<64) (hz:vs.length<=sizeLine)
  (h:∀ (out:Array Value) (zs:List Int),IntsAre out.toList zs->zs.Perm ns->zs.Pairwise (·<=·)->P (.done (.ret .none)) { s with heap:=sortedHeap s.heap a vs out }):wpAny (model prog w) A (Builtin.«list.sort» ⟨[.ref a],[]⟩) P E s:=by
 have la:=B7 e0;have z0:vs.toArray.size<=sizeLine:=by simpa using hz
 rw [list_sort_plain];refine wpAny_bind (listItems_at e0 rfl (wpAny_bind (listUpdate_at e0 rfl ?_ z0 (D3 _))));have e1:∃ k,(s.heap.update a (F2 fun _=>#[])).get? a=some (seqObj "list" #[] k):=⟨_,get?_update_seq e0 fun _=>#[]⟩;obtain ⟨k,e1⟩:=e1;refine wpAny_bind (seqEpoch_at e1 rfl (wpAny_bind (wpAny_newTuple ?_ (by simpa using hz))))
 refine wpAny_bind (wpAny_newList (wpAny_holding ?_));have e2:(((s.heap.update a (F2 fun _=>#[])).push (seqObj "tuple" vs.toArray 0)).push (seqObj "list" #[] 0)).get? a=some (seqObj "list" #[] k):=by
  rw [A29,A29]
  ·exact e1
  ·rw [A39];exact D4 la
  ·rw [size_push',A39];exact D4 (O8 la)
 have last:∀ xs:Array Keyed,xs.Perm (pairsOf vs)->SortedTo xs (pairsOf vs).size->P (.done (.ret .none)) { s with heap:=sortedHeap s.heap a vs (xs.map (·.2)) }:=by
  intro xs px sx;obtain ⟨zs,q1,q2,q3⟩:=sorted_out ia px sx;exact h _ zs q1 q2 q3
 have sz:∀ xs:Array Keyed,xs.Perm (pairsOf vs)->(xs.map (·.2)).size<=sizeLine+1:=by
  intro xs px;rw [y9,px.size_eq,pairsOf_size];omega
 show wpAny _ A _ P E { s with heap:=((s.heap.update a (F2 fun _=>#[])).push (seqObj "tuple" vs.toArray 0)).push (seqObj "list" #[] 0) };dsimp only;by_cases few:vs.toArray.size<2
 ·simp only [if_pos few];refine wpAny_bind (wpAny_pure ?_);rw [t7];refine wpAny_bind (wpAny_pure (wpAny_bind (seqEpoch_at e2 rfl (wpAny_bind (listUpdate_at e2 rfl ?_ (D3 _) (sz (pairsOf vs) (.refl _)))))));simp only [bne_self_eq_false,E1,if_false];refine wpAny_pure (last (pairsOf vs) (.refl _) fun i j hij hj=>?_);rw [pairsOf_size] at hj;rw [A8] at few;rw [show i=j by omega]
  exact E6 _
 ·simp only [if_neg few];have kk:keyKind' vs.toArray=pure oneType':=by
   match vs,few,ia with
   | [],few,_=>exact absurd (by simp) few
   | [_],few,_=>exact absurd (by simp) few
   | _::_::_,_,ia=>exact keyKind_ints ia
  rw [kk]
  letI:G.NM:=⟨numOf,fun v=>∃ n t,v=.int n t⟩
  haveI:G.LtOk prog w A { s with heap:=((s.heap.update a (F2 fun _=>#[])).push (seqObj "tuple" vs.toArray 0)).push (seqObj "list" #[] 0) } oneType':=⟨fun {x y Q E} hx hy h=>by
   obtain ⟨n,t,rfl⟩:=hx;obtain ⟨m,u,rfl⟩:=hy;rw [keyLt'_oneType];exact oneLt_int h⟩
  refine wpAny_bind (wpAny_pure (wpAny_bind (wpAny_mono (G.gwpS_runs (κ0:=oneType') (a₀:=pairsOf vs) (Q:=fun _ st2=>G.gSG oneType' (pairsOf vs) st2/\G.gSortedTo (arrOf st2) (pairsOf vs).size) (by simpa [pairsOf] using hs) ia.intKeys ⟨.refl _,rfl,rfl⟩ rfl fun st2 g u=>⟨g,u⟩) ?_ fun _ _ x=>x)))
  rintro ⟨_,st2⟩ s2 ⟨es,g,u⟩;cases (show s2=_ from es);refine wpAny_bind (seqEpoch_at e2 rfl (wpAny_bind (listUpdate_at e2 rfl ?_ (D3 _) (sz _ g.perm))));dsimp only;rw [g.failed];simp only [bne_self_eq_false,E1,if_false];exact wpAny_pure (last _ g.perm u)
end
section
variable {X:Cx}
theorem qRV {Ab:List (Addr × Obj)} {s:Shared} {σ:St} {H:Hp} {Q:VK} {A:Around} {E:Value->Shared->Prop} {ns:List Int} {D:Addr} (I:Inv X Ab σ (upd H D (.lst (ns.map V.int))) s) (hs:ns.length<64)
  (q:∀ zs:List Int,zs.Perm ns->zs.Pairwise (·<=·)->Q (.ref D) (upd H D (.lst (zs.map V.int)))) :
  wpAny (model X.prog X.w) A (call (.builtin "list.sort") [.ref D]) (fun _ s'=>EP X Ab σ Q (.ref D) s') E s:=by
 obtain ⟨z,its,n,rv,hl,e⟩:=I.lstM qA1;have ia:=qBN rv;have hlen:=rv.length;refine wpAny_call_entry slot_list_sort ⟨_,e,rfl⟩ entry_list_sort (qRW (ns:=ns) (n:=n) e ia (by rw [<- hlen,A0];exact hs) (by rw [<- hlen];exact z) fun out zs a1 a2 a3=>⟨_,rfl,?_⟩) (args_list_sort _)
 obtain ⟨e2,hat⟩:=sortedHeap_at (vs:=its) (out:=out) e;refine ⟨.ref D,upd H D (.lst (zs.map V.int)),?_,rfl,q zs a2 a3⟩;have hu:upd (upd H D (.lst (ns.map V.int))) D (.lst (zs.map V.int))=upd H D (.lst (zs.map V.int)):=qKM;rw [<- hu];refine I.write (x:=D) (e:=D) (t':=s.toks) (by rw [qA1];exact trivial) (.inl rfl) (fun b u hb hbu=>?_) ⟨_,hat⟩ ?_
 ·rw [sortedHeap_old hb (B7 hbu)];exact hbu
 ·refine ⟨?_,out.toList,e2,qES a1,by simpa using hat⟩
  rw [A0,a2.length_eq,<- A0 (f:=V.int)];exact z
theorem qTD:∀ {vs:List Value} {ns:List Int},vs.length=ns.length->(∀ (i:Nat) (v:Value),vs[i]?=some v->∃ n t,ns[i]?=some n/\v=.int n t)->IntsAre vs ns
 | [],[],_,_=>.nil
 | [],_::_,h,_=>by simp at h
 | _::_,[],h,_=>by simp at h
 | v::vs,n::ns,h,f=>by
  obtain ⟨m,t,e1,e2⟩:=f 0 v rfl;cases (show n=m from C6 e1);rw [e2];exact .cons _ _ (qTD (by simpa using h) fun i u hu=>by simpa using f (i+1) u (by simpa using hu))
theorem qYC {κ:Type}:∀ {Af:List (κ × V)} {vs:List (κ × Value)},KV Af vs->Af.map (·.1)=vs.map (·.1):=by
 intro Af vs r;unfold KV at r
 induction r with
 | nil=>rfl
 | cons h t ih=>rw [B9,B9,ih,h.1]
theorem qF7 (hc:X.calm=true):qDM X (.builtin "sorted") (fun xs H Q=>∃ p ns,xs=[.ref p]/\(SqL X.K H p (ns.map V.int)\/SqT X.K H p (ns.map V.int)\/∃ Af,H p=some (.dK Af)/\Af.map (·.1)=ns.map J1)/\ns.length<64/\
  ∀ (a:Addr) (zs:List Int),H a=none->zs.Perm ns->zs.Pairwise (·<=·)->Q (.ref a) (upd H a (.lst (zs.map V.int)))):=by
 intro Ab s σ H xs us Q I r h;obtain ⟨p,ns,rfl,hq,hs64,q⟩:=h;obtain ⟨u,rfl,rx⟩:=qEO r;cases rx;refine j9 kind_sorted plain_sorted entry_sorted (args_sorted1 _) ?_;unfold Builtin.«sorted»;refine wpAny_bind (m:=checkCount "sorted" 1 1 _) (wpAny_pure ?_);have fin:∀ (s1:Shared) (vs:List Value) (zs:List Int),Inv X Ab σ H s1->IntsAre vs zs->zs.length<=sizeLine->zs.Perm ns->wpAny (model X.prog X.w) X.A.in1 (do
   let l <- newList vs
   let _ <- holding [l] (call (.builtin "list.sort") [l] [])
   ret l) (fun fin s'=>∃ r,fin=.done (.ret r)/\EP X Ab σ Q r s') X.xe s1:=by
  intro s1 vs zs I1 hv hz hp;have hlen:=IntsAre.length hv;refine wpAny_bind (wpAny_newList ?_ (by rw [hlen];exact hz))
  have hf:=I1.hok.fresh (B0 s1.heap.objs.size);refine wpAny_bind (wpAny_holding (wpAny_mono (qRV (E:=X.xe) (qK3 I1 hv hz) (by rw [hp.length_eq];exact hs64) fun zs a b=>q _ zs hf (a.trans hp) b) (fun _ s' x=>?_) fun _ _ e=>e))
  exact wpAny_pure ⟨_,rfl,x⟩
 rcases hq with hq | hq | ⟨Af,hq,hk⟩
 ·obtain ⟨its,rv,pl,hz⟩:=I.list hq;obtain ⟨o,ho,hc',n,hd⟩:=pl.isList;have hlen:=rv.length;refine wpAny_bind (wpAny_collect_seq p (.inl rfl) ho hc' hd (fun h' hk=>?_) (by rw [A8,<- hlen];exact hz))
  exact fin _ _ ns (I.kept (t':=s.toks) hk) (by simpa using qBN rv) (by rw [A0] at hz;exact hz) (.refl _)
 ·obtain ⟨its,rv,pl,hz⟩:=I.tuple hq;obtain ⟨o,ho,hc',n,hd⟩:=pl;have hlen:=rv.length;refine wpAny_bind (wpAny_collect_seq p (.inr rfl) ho hc' hd (fun h' hk=>?_) (by rw [A8,<- hlen];exact hz))
  exact fin _ _ ns (I.kept (t':=s.toks) hk) (by simpa using qBN rv) (by rw [A0] at hz;exact hz) (.refl _)
 ·obtain ⟨hz,hd,vs,rel,dd⟩:=qYK I.hok hq;obtain ⟨ep,da⟩:=dd.dictAt;have lv:vs.length=Af.length:=rel.length.symm;have ln:ns.length=Af.length:=by
   have:=congrArg A00 hk;simpa using this.symm
  refine wpAny_bind (A01 (A:=X.A.in1) (PySem.W.kdl_dict (ep:=ep) hd) (I.ok.hd hc) da (by rw [lv];exact hz) fun h' tk acc kept items=>?_)
  refine fin _ _ ns (I.kept (t':=tk) kept) ?_ (by rw [ln];exact hz) (.refl _)
  obtain ⟨l1,l2⟩:=items;refine qTD (by rw [D7,l1,lv,ln]) fun i v hv=>?_
  obtain ⟨k,x,e1,e2⟩:=l2 i v (by rw [<- J6];exact hv)
  have ek:(Af.map (·.1))[i]?=some k:=by rw [qYC rel,B1,e1];rfl
  rw [hk,B1] at ek;cases en:ns[i]? with
  | none=>rw [en] at ek;cases ek
  | some n=>
   rw [en] at ek;cases ek;obtain ⟨t,e3⟩:=A18 (k:=n) (v:=v) e2;exact ⟨n,t,rfl,e3⟩
def Itd (lo:Int) (n:Nat):It:=⟨fun i _=>i<n,fun i H x H'=>H'=H/\x=.int (lo - i),fun i _=>n<=i⟩
theorem qRN {P:Program} {w:World} {K:PySem.W.Frag} {tg:Expr} (it:Addr) (lo:Int) (n:Nat):Turn P w K tg (Itd lo n) [it] it (fun i h=>IsRangeIter h it (lo+(i:Nat) * (-1)) ((n:Int) - (i:Nat)) (-1)) where
 mem:=A3.mpr rfl
 obj:=fun i h st b hb=>by
  cases A3.mp hb;exact ⟨_,st,fun v z=>nomatch (show z9 _=r8 v from z)⟩
 keep:=fun i h h' st k=>k it (A3.mpr rfl) _ st
 item:=by
  intro X hP hw hK hc i Ab s σ H E I hf st hg;subst hP hw hK;obtain ⟨f0,f1,f2,f3,f4,f5⟩:=hf it (A3.mpr rfl);refine (Walks.range (prog:=X.prog) (w:=X.w) (I.ok.hd hc) it lo (-1) n).item i s _ _ hg st fun v h' tk hv st' kk=>?_;obtain ⟨t,rfl⟩:=hv;have I1:Inv X Ab σ H { s with heap:=h',toks:=tk }:=I.turned (fun b o hb e=>kk b o (by simpa using hb) e) f0 f1 f3 f4 f5
  refine ⟨_,rfl,qTK (s:={ s with heap:=h',toks:=tk }) (n:="range_iterator") st' rfl rfl (by decide) ⟨.int (lo - i),H,I1,⟨t,?_⟩,⟨rfl,rfl⟩,st',fun b hb=>(hf b hb).1⟩⟩
  rw [show lo+(i:Int) * (-1)=lo - i by omega]
 done:=by
  intro X hP hw hK hc i Ab s σ H E I hf st hg;subst hP hw hK;obtain ⟨f0,f1,f2,f3,f4,f5⟩:=hf it (A3.mpr rfl);have hle:n<=i:=hg;exact wpAny_pyNext_range_end (I.ok.hd hc) st (by omega) fun h' eb=>⟨rfl,I.turned (t':=s.toks) (fun b o hb e=>eb b o hb e) f0 f1 f3 f4 f5⟩
 self:=fun _ _ _ _ _ st h=>wpAny_pyIter_rangeiter st h
def qbH (ta:TA):TI:=fun σ H R=>ta σ H fun vs H1=>∃ i j:Int,vs=[.int i,.int j,.int (-1)]/\(-(2 ^ 62)<=i/\i<2 ^ 62/\-(2 ^ 62)<=j/\j<2 ^ 62)/\R (Itd i (i - j).toNat) H1
theorem qSD {tg a b c:Expr} {ta:TA} {p pos:Pos} (hg:Gl X "range") (hm:X.mg "range" = none) (ha:PA X [a,b,c] ta) (hs:starEach [a,b,c] X.env=[(false,eval a X.env),(false,eval b X.env),(false,eval c X.env)]:=by rfl)
  (hs2:starEach [b,c] X.env=[(false,eval b X.env),(false,eval c X.env)]:=by rfl):PI X tg (.Call (.Name "range" p) [a,b,c] [] pos) (qbH ta):=by
 intro Ab s σ H R I h;refine Call_ (qGD I hg hm boot_range (P0 (thn (ha pos Ab s σ H _ I h) fun us s1 ⟨vs,H1,I1,r1,q1⟩=>?_) (by rw [hs,hs2]) (by rw [hs2];rfl)))
 obtain ⟨i,j,e,⟨q1,q2,q3,q4⟩,q⟩:=q1;subst e;obtain ⟨u1,rr,rfl,⟨t1,rfl⟩,r2⟩:∃ u rr,us=u::rr/\RelV (.int i) u/\Vals [.int j,.int (-1)] rr:=by cases r1 with | cons r rr=>exact ⟨_,_,rfl,r,rr⟩
 obtain ⟨u2,u3,rfl,⟨t2,rfl⟩,⟨t3,rfl⟩⟩:=qNS r2;refine call_range_3 (by decide) ?_ (D0 (Y8 (by omega)))
 refine wpAny_pyIter_range (A81 ..) (PySem.W.small_down q1 q2 q3 q4) ?_;have I2:Inv X Ab σ H1 { s1 with heap:=s1.heap.push { cls:=.type "range",data:=.fields #[.int i t1,.int j t2,.int (-1) t3] },toks:=s1.toks }:=I1.kept fun b o e=>A2 _ e;refine ⟨(s1.heap.push { cls:=.type "range",data:=.fields #[.int i t1,.int j t2,.int (-1) t3] }).objs.size,[(s1.heap.push { cls:=.type "range",data:=.fields #[.int i t1,.int j t2,.int (-1) t3] }).objs.size],_,_,H1,rfl,
  I2.kept (t':=s1.toks) fun b o e=>A2 _ e,qRN _ i (i - j).toNat,?_,fun b hb=>?_,q⟩
 ·have e1:i+((0:Nat):Int) * (-1)=i:=by simp
  have e2:(((i - j).toNat:Nat):Int) - ((0:Nat):Int)=Q7 i j (-1):=by rw [PySem.W.rangeSize_downNat];simp
  show IsRangeIter _ _ (i+((0:Nat):Int) * (-1)) ((((i - j).toNat:Nat):Int) - ((0:Nat):Int)) (-1);rw [e1,e2];exact B5 _ rfl
 ·cases A3.mp hb;exact I2.fpOk (B0 _) (I2.hok.fresh (B0 _))
theorem qPW {lo:Int} {n:Nat} {g:TG} {tb:TS} {D:Ends} {σ:St} {H:Hp} (Pv:Nat->St->Hp->Prop) (h0:Pv 0 σ H)
  (hs:∀ i σ H,i<n->Pv i σ H->g (.int (lo - i)) σ H fun σ2 H2=>tb { D with nx:=Pv (i+1),ct:=Pv (i+1),bk:=D.nx } σ2 H2) (hd:∀ σ H,Pv n σ H->D.nx σ H) :
  ∃ W:Nat->Nat->St->Hp->Prop,(∃ m,W 0 m σ H)/\∀ i m σ H,W i m σ H->
   ((Itd lo n).stop i H/\D.nx σ H)\/((Itd lo n).go i H/\∃ N:St->Hp->Prop,(∀ σ' H',N σ' H'->∃ m',m'<m/\W (i+1) m' σ' H')/\∀ x H',(Itd lo n).yld i H x H'->g x σ H' fun σ2 H2=>tb { D with nx:=N,ct:=N,bk:=D.nx } σ2 H2):=by
 refine ⟨fun i m σ H=>m=n - i/\i<=n/\Pv i σ H,⟨n,by simp,D3 _,h0⟩,fun i m σ H ⟨e,hi,p⟩=>?_⟩
 rcases Nat.lt_or_ge i n with hlt | hge
 ·refine .inr ⟨hlt,Pv (i+1),fun σ' H' p'=>⟨n - (i+1),by omega,rfl,hlt,p'⟩,fun x H' y=>?_⟩
  rw [y.1,y.2];exact hs i σ H hlt p
 ·have e2:i=n:=by omega
  rw [e2] at p;exact .inl ⟨hge,hd σ H p⟩
end
end L2
namespace L2
open PySem PySem.Spec PyProof.Rows
open PySem.AutoSeq1 in
section
variable {X:Cx}
end
end L2
namespace L2
open PySem PySem.Spec PyProof.Rows
def topI (b:Int) (l:List Int):Int:=l.foldl (fun b x=>if x > b then x else b) b
theorem qNV:∀ (l:List Int) (b:Int),b<=topI b l/\(∀ x ∈ l,x<=topI b l)/\(topI b l=b\/topI b l ∈ l)
 | [],b=>⟨E6 _,(fun _ z=>nomatch z),.inl rfl⟩
 | y::l,b=>by
  obtain ⟨h1,h2,h3⟩:=qNV l (if y > b then y else b)
  have e:topI b (y::l)=topI (if y > b then y else b) l:=rfl
  rw [e];have hb:b<=(if y > b then y else b)/\y<=(if y > b then y else b):=by split <;> omega
  refine ⟨by omega,fun x hx=>?_,?_⟩
  ·rcases B6.mp hx with hx | hx
   ·omega
   ·exact h2 x hx
  ·rcases h3 with h3 | h3
   ·split at h3
    ·rw [if_pos (by assumption)]
     exact .inr (by rw [h3];exact A6)
    ·rw [if_neg (by assumption)]
     exact .inl h3
   ·exact .inr (A5 _ h3)
section
variable {prog:Program} {w:World} {A:Around} {R:Result->Shared->Prop} {I:Addr} {fp wr:List Addr} {n:Nat} {P:Nat->Value->Prop} {St:Nat->Heap->Prop}
theorem qY2 (W:Walks prog w A.in1 I fp wr n P St) (kw:List (Str × Value)) (ns:List Int) (hn:ns.length=n) (hval:∀ i v,P i v->∃ t,v=.int (ns.getD i 0) t) (S:Addr) (hSf:S ∉ fp) :
  ∀ (k j:Nat) (s:Shared) (b:Int) (t:Tok) (c:Nat),n - j=k->j<=n->St j s.heap->s.heap.get? S=some { cls:=.type "list",dict:=none,data:=.seq #[.int b t,.int b t] c,slots:=#[] }->
  (∀ t' h' tk,(∀ x o,x ∉ wr->x ≠ S->s.heap.get? x=some o->h'.get? x=some o)->R (.ok (.ret (.int (topI b (ns.drop j)) t'))) { s with heap:=h',toks:=tk })->
  codeAny (model prog w) A (.builtin "max.loop" ⟨[.ref I,.none,.ref S],kw⟩) R s:=by
 have hSw:S ∉ wr:=fun h=>hSf (W.sub _ h);have hname:(toString "max" ++ toString ".loop" : String) = "max.loop":=by decide
 intro k
 induction k with
 | zero=>
  intro j s b t c hk hj st hS hR;have e:j=n:=by omega
  refine codeAny_builtin o6 ?_;rw [L5 S0 _];show wpAny _ A.in1 (seqItems? (.ref S) >>= _) _ _ s;refine wpAny_bind (wpAny_seqItems hS rfl ?_);show wpAny _ A.in1 (tryCatch (pyNext (.ref I)) _ >>= _) _ _ s;refine wpAny_bind (wpAny_tryCatch (W.done s _ _ (e ▸ st) fun h' tk hk'=>?_));show wpAny _ A.in1 (updateSeq S (fun _=>#[]) >>= _) _ _ _;refine wpAny_bind (wpAny_updateSeq (hk' S _ hSw hS) rfl (wpAny_bind (wpAny_letGo (wpAny_pure ?_))));rw [p9 (by omega)] at hR
  exact hR t _ tk fun x o hx hxS ex=>(C2 _ _ (G3 hxS)).trans (hk' x o hx ex)
 | succ k ih=>
  intro j s b t c hk hj st hS hR;have hlt:j<n:=by omega
  refine codeAny_builtin o6 ?_;rw [L5 S0 _];show wpAny _ A.in1 (seqItems? (.ref S) >>= _) _ _ s;refine wpAny_bind (wpAny_seqItems hS rfl ?_);show wpAny _ A.in1 (tryCatch (pyNext (.ref I)) _ >>= _) _ _ s;refine wpAny_bind (wpAny_tryCatch (W.item j s _ _ hlt st fun v h' tk hP st' hk'=>?_));have hS':=hk' S _ hSw hS;obtain ⟨u,rfl⟩:=hval j v hP;have ed:ns.drop j=ns.getD j 0::ns.drop (j+1):=by
   have hj':j<ns.length:=by omega
   rw [T9 hj',P6,A1 hj']
   rfl
  rw [ed] at hR;generalize ns.getD j 0=y at hR hP ⊢;show wpAny _ A.in1 (tryCatch (holding [J5 y u,J5 y u] (richCompare .Gt (.int y u) (.int b t) >>= _)) _ >>= _) _ _ _;refine wpAny_bind (wpAny_tryCatch (wpAny_holding (wpAny_bind (richCompare_gives (op:=.Gt) (typeIs_int _ _ u) (typeIs_int _ _ t) F.slot_int_gt F.entry_int_gt (F.args_int_gt_2 _ _) (gives_int_gt _ _ u t) (fun x=>nomatch x) ?_))));refine wpAny_bind (wpAny_holding (wpAny_truthy_bool (wpAny_bind (wpAny_letGo (wpAny_pure ?_)))));by_cases hb:y > b
  ·rw [decide_eq_true hb,if_pos rfl];have et:topI b (y::ns.drop (j+1))=topI y (ns.drop (j+1)):=by show topI (if y > b then y else b) _=_;rw [if_pos hb]
   rw [et] at hR;refine wpAny_bind (wpAny_updateSeq hS' rfl (wpAny_bind (wpAny_letGo ?_)));rw [hname];refine wpAny_pure ⟨plainId_quiet S0 _,ih (j+1) _ y u _ (by omega) hlt (W.frame _ _ _ st' fun x hx o ex=>?_) (L9 _ hS' rfl) fun t' h2 tk2 hk2=>?_⟩
   ·exact (C2 _ _ (fun z:S=x=>hSf (by rw [z];exact hx))).trans ex
   ·exact hR t' h2 tk2 fun x o hx hxS ex=>hk2 x o hx hxS ((C2 _ _ (G3 hxS)).trans (hk' x o hx ex))
  ·rw [decide_eq_false hb,if_neg B8];have et:topI b (y::ns.drop (j+1))=topI b (ns.drop (j+1)):=by show topI (if y > b then y else b) _=_;rw [if_neg hb]
   rw [et] at hR;refine wpAny_bind (wpAny_letGo ?_);rw [hname];exact wpAny_pure ⟨plainId_quiet S0 _,ih (j+1) _ b t c (by omega) hlt st' hS' fun t' h2 tk2 hk2=>hR t' h2 tk2 fun x o hx hxS ex=>hk2 x o hx hxS (hk' x o hx ex)⟩
theorem qSS (W:Walks prog w A.in1 I fp wr n P St) (kw:List (Str × Value)) (ns:List Int) (hn:ns.length=n) (hval:∀ i v,P i v->∃ t,v=.int (ns.getD i 0) t) (S:Addr) (hSf:S ∉ fp) {s:Shared} {c:Nat} (st:St 0 s.heap)
  (hS:s.heap.get? S=some { cls:=.type "list",dict:=none,data:=.seq #[] c,slots:=#[] })
  (h1:∀ y r,ns=y::r->∀ t' h' tk,(∀ x o,x ∉ wr->x ≠ S->s.heap.get? x=some o->h'.get? x=some o)->R (.ok (.ret (.int (topI y r) t'))) { s with heap:=h',toks:=tk })
  (h2:ns=[]->∃ nm dv,kw=[(nm,dv)]/\∀ h' tk,(∀ x o,x ∉ wr->x ≠ S->s.heap.get? x=some o->h'.get? x=some o)->R (.ok (.ret dv)) { s with heap:=h',toks:=tk }) :
  codeAny (model prog w) A (.builtin "max.loop" ⟨[.ref I,.none,.ref S],kw⟩) R s:=by
 have hSw:S ∉ wr:=fun h=>hSf (W.sub _ h);have hname:(toString "max" ++ toString ".loop" : String) = "max.loop":=by decide
 refine codeAny_builtin o6 ?_;rw [L5 S0 _];show wpAny _ A.in1 (seqItems? (.ref S) >>= _) _ _ s;refine wpAny_bind (wpAny_seqItems hS rfl ?_);show wpAny _ A.in1 (tryCatch (pyNext (.ref I)) _ >>= _) _ _ s;cases ns with
 | nil=>
  obtain ⟨nm,dv,rfl,h3⟩:=h2 rfl;refine wpAny_bind (wpAny_tryCatch (W.done s _ _ (hn ▸ st) fun h' tk hk'=>?_));show wpAny _ A.in1 (rule _ >>= fun _=>ret dv) _ _ _;exact wpAny_bind (wpAny_rule (wpAny_pure (h3 _ tk fun x o hx _ ex=>hk' x o hx ex)))
 | cons y r=>
  refine wpAny_bind (wpAny_tryCatch (W.item 0 s _ _ (by rw [<- hn];simp) st fun v h' tk hP st' hk'=>?_))
  have hS':=hk' S _ hSw hS;obtain ⟨u,rfl⟩:=hval 0 v hP;show wpAny _ A.in1 (updateSeq S (fun _=>#[J5 y u,J5 y u]) >>= _) _ _ _;refine wpAny_bind (wpAny_updateSeq hS' rfl ?_);rw [hname];refine wpAny_pure ⟨plainId_quiet S0 _,qY2 W kw (y::r) hn hval S hSf _ 1 _ y u _ rfl (by rw [<- hn];simp) (W.frame _ _ _ st' fun x hx o ex=>?_) (L9 _ hS' rfl) fun t' h2 tk2 hk2=>?_⟩
  ·exact (C2 _ _ (fun z:S=x=>hSf (by rw [z];exact hx))).trans ex
  ·exact h1 y r rfl t' h2 tk2 fun x o hx hxS ex=>hk2 x o hx hxS ((C2 _ _ (G3 hxS)).trans (hk' x o hx ex))
end
section
variable {prog:Program} {w:World} {A:Around} {E:Value->Shared->Prop} {s:Shared}
theorem qND {id:String} {b:Builtin} {args:List Value} {kw:List (Str × Value)} {Q:Value->Shared->Prop} (hk:builtinKind id=none) (hp:plainId id=true) (hb:entryFor table id=some b) (ha:argsOk id ⟨args,kw⟩)
  (hc:wpAny (model prog w) A.in1 (b ⟨args,kw⟩) (fun fin s'=>∃ c',fin=.again c'/\c'.quiet=true/\codeAny (model prog w) A c' (fun r s'=>∃ v,r=.ok (.ret v)/\Q v s') s') E s):wpAny (model prog w) A (call (.builtin id) args kw) Q E s:=by
 refine wpAny_call (codeAny_call_builtin hp hb ?_);have h2:=wpAny_mono hc (Q':=fun fin s'=>match fin with
   | .done f=>(match (Except.ok f:Result) with | .ok (.ret v)=>Q v s' | .ok _=>False | .error e=>E e s')
   | .again c'=>c'.quiet=true/\codeAny (model prog w) A c' (fun r s'=>match r with | .ok (.ret v)=>Q v s' | .ok _=>False | .error e=>E e s') s')
  (fun fin s' ⟨c',e,h1,h2⟩=>by subst e;exact ⟨h1,codeAny_mono h2 fun r s' ⟨v,e,q⟩=>by subst e;exact q⟩) fun _ _ h'=>h'
 simp only [checkBuiltinCall,hk];cases sg:Manifest.signature? id with
 | none=>exact wpAny_pure h2
 | some sig=>
  have ha':Bind.checkArgs id sig ⟨args,kw⟩=pure ():=by simpa only [argsOk,sg] using ha
  simp only [ha'];exact wpAny_pure h2
end
section
variable {X:Cx}
def topD (dv:Option Int):List Int->Option Int
 | []=>dv
 | y::r=>some (topI y r)
theorem qY3 {Ab:List (Addr × Obj)} {s:Shared} {σ:St} {H:Hp} {Q:VK} {p:Addr} {ns:List Int} {kw:List (Str × Value)} {dv:Option Int} (hc:X.calm=true) (I:Inv X Ab σ H s) (hq:SqL X.K H p (ns.map V.int))
  (ok:argsOk "max" ⟨[.ref p],kw⟩) (df:Option Value) (hb:d9 "max" ["key","default"] 0 ⟨[],kw⟩=pure [none,df]) (hdf:df=none/\dv=none\/∃ d t,df=some (.int d t)/\dv=some d)
  (m:Int) (em:topD dv ns=some m) (q:Q (.int m) H):wpAny (model X.prog X.w) X.A (call (.builtin "max") [.ref p] kw) (EP X Ab σ Q) X.xe s:=by
 obtain ⟨its,rv,pl,hz⟩:=I.list hq;have hl:=pl.isList;have hlt:p<s.heap.objs.size:=by obtain ⟨_,e,_⟩:=hl;exact B7 e
 have hlen:=rv.length;rw [A0] at hlen;have ia:=qBN rv;have hname:(toString "max" ++ toString ".loop" : String) = "max.loop":=by decide
 refine qND F.kind_max F.plain_max F.entry_max ok ?_;show wpAny _ _ (d9 "max" ["key","default"] 0 ⟨[],kw⟩ >>= _) _ _ s;refine wpAny_bind (wpAny_of_eq hb ?_);refine wpAny_bind (wpAny_pure ?_);refine wpAny_bind (wpAny_pyIter_list hl ?_);refine wpAny_bind (wpAny_newObj_type ?_);rw [hname];have w0:X.A.in1.handled=none:=I.ok.hd hc;refine wpAny_pure ⟨_,rfl,plainId_quiet S0 _,?_⟩;refine qSS (A27 w0 _ p (D4 hlt) its.toArray) _ ns (by simpa using hlen) (fun i v hv=>?_) _ ?_ (c:=0) ?_ (B5 _ rfl) ?_ ?_
 ·exact d6 ia i v (by simpa using hv)
 ·simp only [L0,B6,Q1,or_false,not_or];exact ⟨A38 _,S9 (O8 hlt)⟩
 ·exact ⟨⟨_,A2 _ (B5 _ rfl),rfl,rfl⟩,(hl.push _).push _⟩
 ·intro y r e t' h' tk hk;subst e;cases em;refine ⟨_,rfl,.int _,H,I.kept (t':=tk) fun b o eb=>hk b o ?_ ?_ (A2 _ (A2 _ eb)),⟨t',rfl⟩,q⟩
  ·simp only [B6,Q1,or_false];exact D4 (B7 eb)
  ·rw [L0];exact D4 (O8 (B7 eb))
 ·intro e;subst e;rcases hdf with ⟨_,e2⟩ | ⟨d,t,rfl,rfl⟩
  ·rw [e2] at em;cases em
  ·cases em;refine ⟨_,_,rfl,fun h' tk hk=>⟨_,rfl,.int _,H,I.kept (t':=tk) fun b o eb=>hk b o ?_ ?_ (A2 _ (A2 _ eb)),⟨t,rfl⟩,q⟩⟩
   ·simp only [B6,Q1,or_false];exact D4 (B7 eb)
   ·rw [L0];exact D4 (O8 (B7 eb))
theorem qJD (hc:X.calm=true):qDM X (.builtin "max") (fun xs H Q=>∃ p ns m,xs=[.ref p]/\SqL X.K H p (ns.map V.int)/\topD none ns=some m/\Q (.int m) H):=by
 intro Ab s σ H xs us Q I r h;obtain ⟨p,ns,m,rfl,hq,em,q⟩:=h;obtain ⟨u,rfl,rx⟩:=qEO r;cases rx;exact qY3 hc I hq (F.args_max1 _) none rfl (.inl ⟨rfl,rfl⟩) m em q
end
end L2
namespace L2
open PySem PySem.Spec PyProof.Rows
section
variable {prog:Program} {w:World} {A:Around} {E:Value->Shared->Prop} {s:Shared}
end
section
variable {prog:Program} {w:World} {A:Around} {R:Result->Shared->Prop} {I:Addr} {fp wr:List Addr} {n:Nat} {P:Nat->Value->Prop} {St:Nat->Heap->Prop}
end
section
variable {prog:Program} {w:World} {A:Around} {E:Value->Shared->Prop} {s:Shared}
end
theorem qPI {α β:Type} {F:α->β->Prop}:∀ {l₁:List α} {l₂:List β} {i:Nat} {a:α},Paired F l₁ l₂->l₁[i]?=some a->∃ b,l₂[i]?=some b/\F a b
 | _,_,_,_,.nil,e=>by simp at e
 | _,_,0,_,.cons r _,e=>by simp at e;subst e;exact ⟨_,rfl,r⟩
 | _,_,i+1,a,.cons _ t,e=>by
  obtain ⟨b,h1,h2⟩:=qPI (i:=i) (a:=a) t (by simpa using e)
  exact ⟨b,by simpa using h1,h2⟩
section
variable {X:Cx}
theorem qQO (hu:X.A.units<cLine):OpR X (compareOp .Eq) (fun x y H Q=>∃ p l xs,x=.ref p/\y=.ref l/\SqT X.K H p xs/\SqT X.K H l []/\Q (.bl xs.isEmpty) H):=by
 intro Ab s σ H x y v u Q I rx ry h;obtain ⟨p,l,xs,rfl,rfl,h1,h2,q⟩:=h;cases rx;cases ry;obtain ⟨its,r1,p1,z1⟩:=I.tuple h1;obtain ⟨its2,r2,p2,z2⟩:=I.tuple h2;cases r2;cases r1 with
 | nil=>exact q0 (e:=fun _=>true) p1 p2 hu (fun j h _=>absurd h (by simp)) ⟨.bl true,H,I,rfl,q⟩
 | cons a r=>exact q0 (e:=fun _=>true) p1 p2 hu (fun j _ h=>absurd h (by simp)) ⟨.bl false,H,I,rfl,q⟩
end
end L2
namespace L2
open PySem PySem.Spec PyProof.Rows
section
variable {X:Cx}
theorem qTC {A:Around} {s:Shared} {zs:List Int} {us vs:List Value} (h1:Vals (zs.map V.int) us) (h2:Vals (zs.map V.int) vs):∀ j (j1:j<us.toArray.size) (j2:j<vs.toArray.size),SeqAt.EqAt A s us.toArray[j] vs.toArray[j] true:=by
 intro j j1 j2;have l1:=h1.length;rw [A0] at l1;have hj:j<zs.length:=by simp at j1;omega
 have e0:(zs.map V.int)[j]?=some (.int zs[j]):=by rw [B1,A1 hj];rfl
 obtain ⟨u,eu,t,ru⟩:=h1.get e0;obtain ⟨v,ev,t',rv⟩:=h2.get e0;have hu:us.toArray[j]=u:=by
  rw [U1];exact (A4.mp eu).2
 have hv:vs.toArray[j]=v:=by
  rw [U1];exact (A4.mp ev).2
 rw [hu,hv,ru,rv];have h:=i6 (A:=A) (s:=s) zs[j] t zs[j] t';rw [beq_self_eq_true] at h;exact h
theorem qO5 (hu:X.A.units<cLine):OpR X (compareOp .NotEq) (fun x y H Q=>∃ (p l:Addr) (zs:List Int),x=.ref p/\y=.ref l/\SqL X.K H p (zs.map V.int)/\SqL X.K H l (zs.map V.int)/\Q (.bl false) H):=by
 intro Ab s σ H x y v u Q I rx ry h;obtain ⟨p,l,zs,rfl,rfl,h1,h2,q⟩:=h;cases rx;cases ry;obtain ⟨us,r1,p1,z1⟩:=I.list h1;obtain ⟨vs,r2,p2,z2⟩:=I.list h2;refine m4 (e:=fun _=>true) p1.isList p2.isList (by simp [<- r1.length,<- r2.length]) hu (qTC r1 r2) _ _ _ _ ⟨.bl false,H,I,?_,q⟩
 have:(F6 us.toArray.size).all (fun _=>true)=true:=by simp
 rw [this]
 rfl
def qb9 (K:PySem.W.Frag):R2:=fun x y H Q=>∃ a b xs ys,x=.ref a/\y=.ref b/\SqT K H a xs/\SqT K H b ys/\ys ≠ []/\xs.length+ys.length<=sizeLine/\(xs=[]->Q (.ref b) H)/\(xs ≠ []->∀ p,H p=none->Q (.ref p) (upd H p (.tup (xs++ys))))
theorem qXY:OpR X (binaryOp .Add) (qb9 X.K):=by
 intro Ab s σ H x y v u Q I rx ry h;obtain ⟨a,b,xs,ys,rfl,rfl,ha,hb,hy,hz,q1,q2⟩:=h;by_cases hx:xs=[]
 ·subst hx;cases rx;cases ry;obtain ⟨its,r1,p1,_⟩:=I.tuple ha;obtain ⟨its2,r2,p2,_⟩:=I.tuple hb;cases r1;obtain ⟨⟨cls,dd,data,sl⟩,ho,hc,n,hd⟩:=id p1;obtain ⟨⟨cls2,dd2,data2,sl2⟩,ho2,hc2,n2,hd2⟩:=id p2;simp only at hc hd hc2 hd2;subst hc hd hc2 hd2;exact concat_meets ⟨_,ho,rfl⟩ ⟨_,ho2,rfl⟩ noFill_tuple_add seq_tuple_add V5 U6 (U3 _ _) (tuple_addW0 a b #[] its2.toArray n n2 dd dd2 sl sl2 rfl) ⟨ho,ho2,.ref b,H,I,rfl,q1 rfl⟩
 ·exact qSN Ab s σ H (.ref a) (.ref b) v u Q I rx ry ⟨a,b,xs,ys,rfl,rfl,ha,hb,hx,hz,fun z=>absurd z hy,fun _=>q2 hx⟩
end
theorem qW3 {K:PySem.W.Frag} {a:Addr} {xs:List V} {g:TG} {tb:TS} {D:Ends} {σ0:St} {H0:Hp} (Pv:Nat->St->Hp->Prop) (h0:Pv 0 σ0 H0) (hl:∀ i σ H,i<=xs.length->Pv i σ H->SqL K H a xs)
  (hs:∀ i x σ H T,xs[i]?=some x->Pv i σ H->H T=none->g (.ref T) σ (upd H T (.tup [.int (i:Int),x])) fun σ2 H2=>tb { D with nx:=Pv (i+1),ct:=Pv (i+1),bk:=D.nx } σ2 H2)
  (hd:∀ σ H,Pv xs.length σ H->D.nx σ H) :
  ∃ W:Nat->Nat->St->Hp->Prop,(∃ m,W 0 m σ0 H0)/\∀ i m σ H,W i m σ H->
   ((Ite K a).stop i H/\D.nx σ H)\/((Ite K a).go i H/\∃ N:St->Hp->Prop,(∀ σ' H',N σ' H'->∃ m',m'<m/\W (i+1) m' σ' H')/\∀ x H',(Ite K a).yld i H x H'->g x σ H' fun σ2 H2=>tb { D with nx:=N,ct:=N,bk:=D.nx } σ2 H2):=by
 refine ⟨fun i m σ H=>m=xs.length - i/\i<=xs.length/\Pv i σ H,⟨xs.length,by simp,D3 _,h0⟩,?_⟩
 rintro i m σ H ⟨rfl,hi,q⟩;have hq:=hl i σ H hi q;by_cases hlt:i<xs.length
 ·refine .inr ⟨⟨xs,xs[i],hq,by simp [hlt]⟩,Pv (i+1),fun σ' H' p'=>⟨xs.length - (i+1),by omega,rfl,hlt,p'⟩,fun v H' y=>?_⟩
  obtain ⟨T,x,hT,e1,e2,y⟩:=y;subst e1 e2;exact hs i x σ H T (y xs hq) q hT
 ·have e:i=xs.length:=by omega
  subst e;exact .inl ⟨⟨xs,hq,B0 _⟩,hd σ H q⟩
end L2
namespace L2
open PySem
def g5:Nat->Nat
 | 0=>0
 | n+1=>5 * g5 n+1
end L2
namespace L2
open PySem PySem.Spec PyProof.Rows
structure TabG (byText:Bool) (t:SetTable) (n:Nat):Prop where
 pow:∃ k,3<=k/\t.mask+1=2 ^ k
 dum:t.dummies=#[]
 plain:t.plain=true
 led:t.led=!byText
 size:t.place.size=n
 up:t.place.toList.Pairwise (·<·)
 le:∀ j ∈ t.place.toList,j<=t.mask
section
variable {byText:Bool} {t:SetTable} {n:Nat}
end
end L2
namespace L2
open PySem PySem.Spec PyProof.Rows
section
variable {mask:Nat} {owner:Array (Option Nat)}
end
structure Own (N:Nat) (L:List Nat) (owner:Array (Option Nat)):Prop where
 size:owner.size=N
 nd:L.Nodup
 lt:∀ j ∈ L,j<N
 at_:∀ (m j:Nat),L[m]?=some j->owner[j]?=some (some m)
 no:∀ j,j<N->j ∉ L->owner[j]?=some none
end L2
namespace L2
open PySem PySem.Spec PyProof.Rows
section
variable {prog:Program} {w:World} {A:Around} {E:Value->Shared->Prop} {s:Shared}
end
section
variable {prog:Program} {w:World} {A:Around} {R:Result->Shared->Prop} {I:Addr} {fp wr:List Addr} {G:Array GenState->Array GenState->Prop} {n:Nat} {P:Nat->Value->Prop} {St:Nat->Shared->Prop}
end
section
variable {prog:Program} {w:World} {A:Around} {E:Value->Shared->Prop} {s:Shared}
end
section
variable {prog:Program} {w:World} {A:Around} {E:Value->Shared->Prop} {s:Shared} {a I:Addr} {es:Array (Int × Value)} {ep:Nat} {t:SetTable} {i:Nat}
end
section
variable {X:Cx}
end
end L2
namespace L2
open PySem PySem.Spec PyProof.Rows
section
variable {X:Cx}
theorem qO9 (hu:X.A.units<cLine):OpR X (compareOp .Eq) (fun x y H Q=>∃ (p l:Addr) (zs:List Int),x=.ref p/\y=.ref l/\SqL X.K H p (zs.map V.int)/\SqL X.K H l (zs.map V.int)/\Q (.bl true) H):=by
 intro Ab s σ H x y v u Q I rx ry h;obtain ⟨p,l,zs,rfl,rfl,h1,h2,q⟩:=h;cases rx;cases ry;obtain ⟨us,r1,p1,z1⟩:=I.list h1;obtain ⟨vs,r2,p2,z2⟩:=I.list h2;refine A52 (e:=fun _=>true) p1.isList p2.isList (by simp [<- r1.length,<- r2.length]) hu (qTC r1 r2) ⟨.bl true,H,I,?_,q⟩
 have:(F6 us.toArray.size).all (fun _=>true)=true:=by simp
 rw [this]
 rfl
def qb7 (K:PySem.W.Frag):R2:=fun x y H Q=>∃ a b xs ys,x=.ref a/\y=.ref b/\SqT K H a xs/\SqT K H b ys/\((xs ≠ []/\H a=some (.tup xs))\/(ys ≠ []/\H b=some (.tup ys)))/\xs.length+ys.length<=sizeLine/\∀ p H',Same H H'->H' p=some (.tup (xs++ys))->Q (.ref p) H'
theorem qXX:OpR X (binaryOp .Add) (qb7 X.K):=by
 intro Ab s σ H x y v u Q I rx ry h;obtain ⟨a,b,xs,ys,rfl,rfl,ha,hb,hd,hz,q⟩:=h;have nw:∀ p,H p=none->Q (.ref p) (upd H p (.tup (xs++ys))):=fun p hp=>q p _ (fun b u e=>by rw [qA8 (qA5 e hp)];exact e) qA1
 rcases hd with ⟨hx,ga⟩ | ⟨hy,gb⟩
 ·exact qSN Ab s σ H (.ref a) (.ref b) v u Q I rx ry ⟨a,b,xs,ys,rfl,rfl,ha,hb,hx,hz,fun z=>q a H (fun _ _ e=>e) (by rw [z,V7];exact ga),fun _=>nw⟩
 ·exact qXY Ab s σ H (.ref a) (.ref b) v u Q I rx ry ⟨a,b,xs,ys,rfl,rfl,ha,hb,hy,hz,fun z=>q b H (fun _ _ e=>e) (by rw [z];exact gb),fun _=>nw⟩
end
section
variable {prog:Program} {w:World} {A:Around} {E:Value->Shared->Prop} {s:Shared}
end
section
variable {X:Cx}
end
end L2
namespace L2
open PySem PySem.Spec PyProof.Rows
structure Ex (B:Heap) (l:List Env) (e:Addr) (cls:Value) (dd:Option Addr) (nt:Bool) (h:Heap):Prop where
 stays:B.StaysIn h
 new:B.get? e=none
 frames:h.FunFrames B l
 rec_:∃ (oe:Obj) (vs:Array Value) (x1:Value),h.get? e=some oe/\oe.cls=cls/\oe.dict=dd/\oe.data=.fields vs/\vs[1]?=some x1/\
  ((x1=.none/\nt=false)\/∃ (T:Addr) (oT:Obj) (ts:Array Value) (x3:Value),x1=.ref T/\B.get? T=none/\T ≠ e/\h.get? T=some oT/\oT.data=.fields ts/\ts[3]?=some x3)
section
variable {M:Model} {A:Around} {E:Value->Shared->Prop} {s:Shared} {B:Heap} {env:Env} {outer l:List Env} {L e:Addr} {cls:Value} {dd:Option Addr} {nt:Bool} {Q:Unit->Shared->Prop}
end
end L2
namespace L2
open PySem PySem.Spec PyProof.Rows
def Kp (outer:List Env) (H':Hp) (h0:Heap) (b:Addr):Prop:=(∃ o,H' b=some o)\/((∃ o,h0.get? b=some o)/\b ∉ frs outer)
structure XD (P:Program) (w:World) (outer l:List Env) (H:Hp) (h0:Heap) (e:Addr) (cls:Value) (dd:Option Addr) (H':Hp) (B:Heap) (nt:Bool) (h:Heap):Prop where
 un:Un (frs outer) [] H H' h0 h
 hok:HOk P w H' h
 ex:Ex B l e cls dd nt h
 kp:∀ b o,h.get? b=some o->Kp outer H' h0 b->B.get? b=some o
 ne:H' e=none
 ge:h0.objs.size<=e
def XP (X:Cx) (G:XK) (ev:Value) (s':Shared):Prop:=X.A.frames=some X.stack/\∃ (e:Addr) (cls:Value) (dd:Option Addr) (H':Hp) (B:Heap) (nt:Bool),ev=.ref e/\s'.os=X.s₀.os/\AllBare s'.gens/\XD X.prog X.w X.outer X.stack X.H₀ X.s₀.heap e cls dd H' B nt s'.heap/\G cls dd H'
section
variable {X:Cx} {E:XK} {G:XK} {Ab:List (Addr × Obj)} {σ:St} {H:Hp} {s s':Shared}
end
section
variable {P:Program} {w:World} {K:PySem.W.Frag} {mg:Str->Option Value} {base:Heap}
end
end L2
namespace L2
open PySem PySem.Spec PyProof.Rows
section
variable {X:Cx} {Ab:List (Addr × Obj)} {σ:St} {H:Hp} {s:Shared} {ev:Value}
end
section
variable {X:Cx}
def Ends.off (D:Ends):Option Nat->Ends
 | none=>D
 | some j=>{ nx:=fun σ H=>D.nx (σ.set j none) H,rt:=D.rt,bk:=fun σ H=>D.bk (σ.set j none) H,ct:=fun σ H=>D.ct (σ.set j none) H }
end
end L2
namespace L2
open PySem PySem.Spec PyProof.Rows
def bmV:List Value:=[.type "ValueError",.type "Exception",.type "BaseException",.type "object"]
def xcIn (K:PySem.W.Frag) (C:Addr) (init:Option Value):Bool:=match K.lookup C with
 | some ⟨.type "type",_,.cls cd,sl⟩=>(match cd.mro,sl.toList with
  | .ref C'::bm,[_,_,_,_,some (.builtin n),_]=>C' == C && n == "ValueError.__new__" && !cd.hasDel && cd.hasDict && PySem.W.tailIn K bmV bm && PySem.W.nsOkIn K cd.ns && C5 K cd.ns "__init__" == some init
  | _,_=>false)
 | _=>false
structure XCls (K:PySem.W.Frag) (C:Addr) (init:Option Value):Prop where
 cls:xcIn K C init=true
 set:Q9 K (.ref C) "__setattr__" = some (some (.builtin "object.__setattr__"))
 kp:M9 K (.ref C)=true
section
variable {prog:Program} {w:World} {A:Around} {E:Value->Shared->Prop} {h:Heap} {g:Array GenState} {d:Drawn} {t:Nat} {os:OsState} {K:PySem.W.Frag} {C x:Addr} {init:Option Value} {mA:Str->Option Value} {name:Str} {v:Value} {ns:List Str}
end
end L2
namespace L2
open PySem PySem.Spec PyProof.Rows
section
variable {prog:Program} {w:World} {A:Around} {R:Result->Shared->Prop} {h:Heap} {g:Array GenState} {d:Drawn} {t:Nat} {os:OsState} {K:PySem.W.Frag} {C fI:Addr} {rest:List Value}
end
section
variable {M:Model} {A:Around} {E:Value->Shared->Prop} {env:Env} {K:PySem.W.Frag} {C:Addr} {init:Option Value}
end
section
variable {X:Cx} {Ab:List (Addr × Obj)} {σ:St} {H:Hp} {s:Shared}
end
section
variable {X:Cx}
end
end L2
namespace L2
open PySem PySem.Spec PyProof.Rows
structure XGet (K:PySem.W.Frag) (C:Addr):Prop where
 ga:Q9 K (.ref C) "__getattribute__" = some (some (.builtin "BaseException.__getattribute__"))
 gt:Q9 K (.ref C) "__getattr__" = some none
 be:A09 K C (.type "BaseException")=some true
 hd:A19 K C=true
section
variable {prog:Program} {w:World} {A:Around} {E:Value->Shared->Prop} {s:Shared} {K:PySem.W.Frag} {x C:Addr} {ox:Obj} {od:Option Obj} {name:Str} {tk:Tok}
end
structure XTy (K:PySem.W.Frag) (C:Addr):Prop extends XGet K C where
 ca:Q9 K (.ref C) "__class__" = some (some (.builtin "object.__class__"))
 cn:k8 K (.builtin "object.__class__") "__get__" = some (some (.builtin "getset_descriptor.__get__"))
 ct:A50 K (.builtin "object.__class__")=some true
 cm:A09 K C (.type "object")=some true
section
variable {K:PySem.W.Frag}
end
section
variable {X:Cx}
end
end L2
namespace L2
open PySem PySem.Spec PyProof.Rows
structure RoomH (k:Nat) (A:Around):Prop where
 dp:A.depth+3 * k+5<recursionLimit
 un:A.units+16 * k+200<cLine
structure FnOkH (P:Program) (w:World) (K:PySem.W.Frag) (mg:Str->Option Value) (base:Heap) (CX:CXT) (k:Nat) (f:Addr) (fd:FuncData) (ps:List Str) (sp:Sp):Prop where
 len:∀ vs H Q E,sp vs H Q E->vs.length=ps.length
 run:∀ (A:Around) (outer:List Env) (s:Shared) (H:Hp) (args:Args) (us:List Value) (vs:List V) (Q:VK) (E:XK),RoomH k A->Env0 P w K mg base A outer s H->BindsTo s fd args (ps.zip us)->Vals vs us->sp vs H Q E->
  codeAny (model P w) A (.call (.ref f) args) (CR CX outer P w H s Q E) s
section
variable {P:Program} {w:World} {K:PySem.W.Frag} {mg:Str->Option Value} {base:Heap}
end
section
variable {X:Cx} {CX:CXT} {k:Nat} {f C:Addr} {fd:FuncData} {ps:List Str} {sp:Sp} {dvs:List V} {ds:List Value} {E:XK} {x m:Str} {p pos apos:Pos} {e o:Expr} {es:List Expr} {ta:TE} {t:TA}
end
end L2
namespace L2
open PySem PySem.Spec PyProof.Rows
section
variable {X:Cx}
end
end L2
namespace L2
open PySem PySem.Spec PyProof.Rows
section
variable {prog:Program} {w:World} {A:Around} {E:Value->Shared->Prop} {s:Shared}
end
end L2
namespace L2
open PySem PySem.Spec PyProof.Rows
section
variable {X:Cx}
theorem qLK (hc:X.calm=true):qDM X (.builtin "sum") (fun xs H Q=>∃ (p:Addr) (ns:List Int),xs=[.ref p]/\SqL X.K H p (ns.map V.int)/\Q (.int ns.sum) H):=by
 intro Ab s σ H xs us Q I r h;obtain ⟨p,ns,rfl,hq,q⟩:=h;obtain ⟨u,rfl,rx⟩:=qEO r;cases rx;obtain ⟨its,rv,pl,hz⟩:=I.list hq;have hi:=qBN rv;obtain ⟨xs,hx⟩:=hi.allInts.items;have hl':s.heap.IsList p (intItems xs):=hx ▸ pl.isList;refine sum_intListG (I.ok.hd hc) hl' fun h' tk t' hk=>?_;have e1:ns=xs.toList.map (·.1):=by
  rw [<- nums_intItems,<- hx];exact (show numsOf its.toArray.toList=ns from hi.numsOf).symm
 have e2:preSum (numAt xs) xs.size=ns.sum:=by
  rw [preSum_eq,G0 (by simp),e1]
 rw [e2];exact ⟨.int ns.sum,H,I.kept fun b o e=>hk b o e,⟨_,rfl⟩,q⟩
end
end L2
namespace L2
open PySem PySem.Spec PyProof.Rows
section
variable {X:Cx}
end
end L2
namespace L2
open PySem PySem.Spec PyProof.Rows
structure LcScopeO (X:Cx) (scope:Scope) (own:List Str) (fv:List Nat):Prop where
 kind:scope.kind=.function
 names:∀ y ∈ scope.names,y.2=.local->scope.names.lookup y.1=some .local
 cells:∀ y ∈ scope.names,y.2=.cell->scope.names.lookup y.1=some .cell
 frees:∀ y ∈ scope.names,y.2=.free->scope.names.lookup y.1=some .free
 free:∀ y ∈ scope.names,y.2=.free->X.env.kindOf y.1=some .cell\/X.env.kindOf y.1=some .free
 nd:(own++fv.map fun i=>X.N.getD i Q3).Nodup
 fvs:∀ i ∈ fv,i<X.N.length/\scope.names.lookup (X.N.getD i Q3)=some .free
 owns:∀ x ∈ own,scope.names.lookup x=some .local\/scope.names.lookup x=some .cell
section
variable {X:Cx} {Ab:List (Addr × Obj)} {σ:St} {H:Hp} {s:Shared}
end
section
variable {X:Cx} {tg iter elt:Expr} {ifs:List Expr} {scope:Scope} {pos:Pos} {own:List Str} {fv:List Nat} {wi:TI} {g:TG} {tc:TT} {te:TE}
end
end L2
namespace L2
open PySem PySem.Spec PyProof.Rows
section
variable {prog:Program} {w:World} {A:Around} {R:Result->Shared->Prop} {I:Addr} {fp wr:List Addr} {n:Nat} {P:Nat->Value->Prop} {St:Nat->Heap->Prop}
end
section
variable {prog:Program} {w:World} {A:Around} {E:Value->Shared->Prop} {s:Shared}
end
section
variable {X:Cx}
theorem qOA:OpR X (binaryOp .Add) (fun x y H Q=>∃ a b xs ys,x=.ref a/\y=.ref b/\H a=some (.tup xs)/\H b=some (.tup ys)/\xs.length+ys.length<=sizeLine/\∀ p H',Same H H'->H' p=some (.tup (xs++ys))->Q (.ref p) H'):=by
 intro Ab s σ H x y v u Q I rx ry h;obtain ⟨a,b,xs,ys,rfl,rfl,ga,gb,hz,q⟩:=h;by_cases hx:xs=[]
 ·subst hx;cases rx;cases ry;obtain ⟨its,r1,p1,_⟩:=I.tuple (SqT.of ga);obtain ⟨its2,r2,p2,_⟩:=I.tuple (SqT.of gb);cases r1;obtain ⟨⟨cls,dd,data,sl⟩,ho,hc,n,hd⟩:=id p1;obtain ⟨⟨cls2,dd2,data2,sl2⟩,ho2,hc2,n2,hd2⟩:=id p2;simp only at hc hd hc2 hd2;subst hc hd hc2 hd2;exact concat_meets ⟨_,ho,rfl⟩ ⟨_,ho2,rfl⟩ noFill_tuple_add seq_tuple_add V5 U6 (U3 _ _) (tuple_addW0 a b #[] its2.toArray n n2 dd dd2 sl sl2 rfl) ⟨ho,ho2,.ref b,H,I,rfl,q b H (fun _ _ e=>e) gb⟩
 ·exact qXX Ab s σ H (.ref a) (.ref b) v u Q I rx ry ⟨a,b,xs,ys,rfl,rfl,SqT.of ga,SqT.of gb,.inl ⟨hx,ga⟩,hz,q⟩
end
end L2
namespace L2
open PySem PySem.Spec PyProof.Rows
theorem qaK:bootBuiltins "any" = some (.builtin "any"):=by decide +kernel
theorem qU9:bootBuiltins "sum" = some (.builtin "sum"):=by decide +kernel
theorem qQG (bs:List Bool):((F6 bs.length).any fun i=>(bs[i]?).getD false)=bs.any id:=by
 rw [R3,o7,o7]
 constructor
 ·rintro ⟨i,hi,h⟩;have hi':=M8.mp hi;rw [A1 hi'] at h;exact ⟨_,R9 hi',h⟩
 ·rintro ⟨b,hb,h⟩;obtain ⟨i,hi,e⟩:=U9 hb;exact ⟨i,M8.mpr hi,by rw [A1 hi,e];exact h⟩
section
variable {X:Cx}
theorem qW8 (hc:X.calm=true):qDM X (.builtin "any") (fun xs H Q=>∃ (p:Addr) (bs:List Bool),xs=[.ref p]/\SqL X.K H p (bs.map V.bl)/\Q (.bl (bs.any id)) H):=by
 intro Ab s σ H xs us Q I r h;obtain ⟨p,bs,rfl,hq,q⟩:=h;obtain ⟨u,rfl,rx⟩:=qEO r;cases rx;obtain ⟨its,rv,pl,hz⟩:=I.list hq;have hl:=pl.isList;have hlt:p<s.heap.objs.size:=by obtain ⟨_,e,_⟩:=hl;exact B7 e
 have hlen:=rv.length;rw [A0] at hlen;refine call_any_walk (wpAny_pyIter_list hl ?_);refine ⟨s.heap.objs.size,[s.heap.objs.size,p],[s.heap.objs.size],its.toArray.size,_,_,fun i=>(bs[i]?).getD false,rfl,A27 (A:=X.A.in1) (I.ok.hd hc) _ p (D4 hlt) its.toArray,
  ⟨⟨_,B5 _ rfl,rfl,rfl⟩,hl.push _⟩,fun i v s' Q' E' hP hQ=>?_,fun h' tk hk=>?_⟩
 ·have hP':its[i]?=some v:=by simpa using hP
  have hi:i<bs.length:=by rw [hlen];exact (A4.mp hP').1
  obtain ⟨u,hu,ru⟩:=rv.get (i:=i) (x:=.bl bs[i]) (by rw [B1,A1 hi];rfl)
  rw [hP'] at hu;cases hu;cases ru;dsimp only at hQ;rw [A1 hi,R8] at hQ;exact wpAny_truthy_bool hQ
 ·have e:((F6 its.toArray.size).any fun i=>(bs[i]?).getD false)=bs.any id:=by
   rw [A8,<- hlen];exact qQG bs
  refine ⟨.bl (bs.any id),H,I.kept fun b x e=>hk b x (fun hm=>by rw [A3.mp hm] at e;exact Q6 _ (B7 e)) (A2 _ e),?_,q⟩
  rw [e]
  rfl
end
end L2
namespace L2
open PySem PySem.Spec PyProof.Rows
section
variable {prog:Program} {w:World} {A:Around} {E:Value->Shared->Prop} {s:Shared}
end
section
variable {prog:Program} {w:World} {A:Around} {E:Value->Shared->Prop} {s:Shared}
end
section
variable {X:Cx}
end
end L2
namespace L2
open PySem PySem.Spec PyProof.Rows
section
variable {X:Cx}
end
end L2
namespace HT
open PySem PySem.Spec PyProof.Rows
section
variable {prog:Program} {w:World} {A:Around} {E:Value->Shared->Prop} {s:Shared}
end
end HT
namespace L2
open PySem PySem.Spec PyProof.Rows
section
variable {X:Cx}
end
section
variable {A:Around} {s:Shared}
end
section
variable {X:Cx}
end
end L2
namespace L2
open PySem PySem.Spec PyProof.Rows
section
variable {X:Cx}
end
end L2
namespace L2
open PySem PySem.Spec PyProof.Rows
section
variable {X:Cx} {e:Expr} {te:TE} {st:Option Expr} {tst:TO} {pos p2:Pos}
end
end L2
namespace L2
open PySem PySem.Spec PyProof.Rows
section
variable {X:Cx}
end
end L2
namespace L2
open PySem PySem.Spec PyProof.Rows
section
variable {prog:Program} {w:World} {A:Around} {E:Value->Shared->Prop} {s:Shared}
end
section
variable {X:Cx}
end
end L2
namespace L2
open PySem PySem.Spec PyProof.Rows
end L2
namespace L2
open PySem PySem.Spec PyProof.Rows
section
variable {prog:Program} {w:World} {A:Around} {R:Result->Shared->Prop} {h:Heap} {g:Array GenState} {d:Drawn} {t:Nat} {os:OsState} {K:PySem.W.Frag} {C fI:Addr} {rest:List Value}
end
end L2
namespace L2
open PySem PySem.Spec PyProof.Rows
section
variable {X:Cx}
def TB:Type:=(St->XK)->TS
end
end L2
namespace L2
open PySem PySem.Spec PyProof.Rows
section
variable {prog:Program} {w:World} {A:Around} {E:Value->Shared->Prop} {s:Shared}
end
section
variable {X:Cx} {pos:Pos}
end
end L2
namespace L2
open PySem PySem.Spec PyProof.Rows
section
variable {X:Cx} {tg:Expr}
end
end L2
namespace L2
open PySem PySem.Spec PyProof.Rows
section
variable {prog:Program} {w:World} {A:Around} {E:Value->Shared->Prop} {s:Shared} {it d:Addr} {i n ep:Nat} {od:Obj} {es:Array DictEntry}
theorem qTV {Q:Value->Shared->Prop} (hT:s.TypeIs (.ref d) "dict") (hd:(d == sysModules)=false) (ho:s.heap.get? d=some od) (he:od.data=.dict es ep)
  (hQ:Q (.ref s.heap.objs.size) { s with heap:=s.heap.push { cls:=.type "dict_keyiterator",data:=.fields #[.ref d,rawInt 0,rawInt es.size,rawInt ep] } }):wpAny (model prog w) A (pyIter (.ref d)) Q E s:=by
 apply wpAny_pyIter_slot hT A40;refine wpAny_call_entry A40 hT F.entry_dict_iter ?go (F.args_dict_iter_1 (.ref d));unfold Builtin.«dict.__iter__»;apply wpAny_bind;unfold Builtin.Dict.dictSlotNone;apply wpAny_bind;apply wpAny_notOrdered_dict hT;apply wpAny_pure;apply wpAny_bind;apply wpAny_pure;apply wpAny_bind;unfold Builtin.Dict.showsAll;rw [hd];apply wpAny_pure;apply wpAny_bind;apply wpAny_dictEntries ho he;apply wpAny_bind;apply wpAny_dictEpoch ho he;apply wpAny_bind;refine wpAny_newObj_type ?made;apply wpAny_pure;exact ⟨_,rfl,"dict_keyiterator",_,⟨_,B5 _ rfl,rfl⟩,O9.lookup,hQ⟩
def qUO (h:Heap) (it d:Addr) (i n ep:Nat):Prop:=h.get? it=some { cls:=.type "dict_keyiterator",data:=.fields #[.ref d,rawInt i,rawInt n,rawInt ep] }
theorem qTW {Q:Option Value->Shared->Prop} (hit:qUO s.heap it d i es.size ep) (ho:s.heap.get? d=some od) (he:od.data=.dict es ep) (hi:i<es.size)
  (hQ:∀ h',qUO h' it d (i+1) es.size ep->Heap.SameBut it s.heap h'->Q (some es[i].key) { s with heap:=h' }):wpAny (model prog w) A (pyNext (.ref it)) Q E s:=by
 have hT:s.TypeIs (.ref it) "dict_keyiterator":=⟨_,hit,rfl⟩;unfold pyNext;apply wpAny_bind;apply wpAny_attempt;apply wpAny_callSpecial?_slot (name:=E4 "__next__") hT O9;refine wpAny_call_entry O9 hT b8 ?go (a8 (.ref it));apply wpAny_bind;apply wpAny_pure;apply wpAny_bind;apply wpAny_bind;apply wpAny_bind
 first | apply wpAny_typeNameOfWhole_keyiter hT | apply wpAny_typeNameOf_keyiter hT
 apply wpAny_pure;apply wpAny_bind;refine wpAny_fieldsOf hit rfl ?fs;have own0:c8 "dict_keyiterator" = false:=by decide
 have nn:((C8 d == P1)=true)->False:=fun z=>by cases z
 simp only [own0,E1,if_false];show wpAny _ _ (if (C8 d == P1)=true then _ else _) _ _ s
 rw [if_neg nn];apply wpAny_bind;apply wpAny_pure;apply wpAny_bind;apply wpAny_dictEntries ho he;rw [if_neg (by simp)]
 apply wpAny_bind;apply wpAny_pure;apply wpAny_bind;apply wpAny_dictEpoch ho he;rw [if_neg (by simp)]
 apply wpAny_pure;have pos:¬ ((i:Int)<0):=Int.not_lt.mpr (A14 i);simp only [pos,if_false,F7,D2 hi];apply wpAny_bind;apply wpAny_bind
 first | apply wpAny_typeNameOfWhole_keyiter hT | apply wpAny_typeNameOf_keyiter hT
 apply wpAny_pure;apply wpAny_bind;apply wpAny_isOneOf_keyiter hT;show wpAny _ _ (setField (.ref it) 1 (rawInt ((i:Int)+1)) >>= _) _ _ s;apply wpAny_bind;refine wpAny_setField hit rfl (by show 1<4;decide) ?set
 have hit':qUO (s.heap.update it (c6 (·.setIfInBounds 1 (rawInt ((i:Int)+1))))) it d (i+1) es.size ep:=L9 _ hit rfl;apply wpAny_bind;apply wpAny_holding;apply wpAny_bind;refine wpAny_isOneOf_keyiter (s:={ s with heap:=s.heap.update it (c6 (·.setIfInBounds 1 (rawInt ((i:Int)+1)))) }) ⟨_,hit',rfl⟩ ?one;apply wpAny_pure;apply wpAny_pure;exact ⟨_,rfl,wpAny_pure (hQ _ hit' (U8 ..))⟩
theorem qW6 {Q:Option Value->Shared->Prop} (hh:A.handled=none) (hit:qUO s.heap it d i es.size ep) (hi:es.size<=i) (ho:s.heap.get? d=some od) (he:od.data=.dict es ep)
  (hQ:∀ h',Heap.ExtBut it s.heap h'->Q none { s with heap:=h' }):wpAny (model prog w) A (pyNext (.ref it)) Q E s:=by
 have hT:s.TypeIs (.ref it) "dict_keyiterator":=⟨_,hit,rfl⟩;unfold pyNext;apply wpAny_bind;apply wpAny_attempt;apply wpAny_callSpecial?_slot (name:=E4 "__next__") hT O9;refine wpAny_call_entry O9 hT b8 ?go (a8 (.ref it));apply wpAny_bind;apply wpAny_pure;apply wpAny_bind;apply wpAny_bind;apply wpAny_bind
 first | apply wpAny_typeNameOfWhole_keyiter hT | apply wpAny_typeNameOf_keyiter hT
 apply wpAny_pure;apply wpAny_bind;refine wpAny_fieldsOf hit rfl ?fs;have own0:c8 "dict_keyiterator" = false:=by decide
 have nn:((C8 d == P1)=true)->False:=fun z=>by cases z
 simp only [own0,E1,if_false];show wpAny _ _ (if (C8 d == P1)=true then _ else _) _ _ s
 rw [if_neg nn];apply wpAny_bind;apply wpAny_pure;apply wpAny_bind;apply wpAny_dictEntries ho he;rw [if_neg (by simp)]
 apply wpAny_bind;apply wpAny_pure;apply wpAny_bind;apply wpAny_dictEpoch ho he;rw [if_neg (by simp)]
 apply wpAny_pure;have pos:¬ ((i:Int)<0):=Int.not_lt.mpr (A14 _);simp only [pos,if_false,F7,Array.getElem?_eq_none hi];apply wpAny_bind;apply wpAny_bind
 first | apply wpAny_typeNameOfWhole_keyiter hT | apply wpAny_typeNameOf_keyiter hT
 apply wpAny_pure;show wpAny _ _ (setField (.ref it) 0 .none >>= _) _ _ s;apply wpAny_bind;refine wpAny_setField hit rfl (by show 0<4;decide) ?set
 have eb:Heap.ExtBut it s.heap (s.heap.update it (c6 (·.setIfInBounds 0 P1))):=fun b o hb e=>(C2 _ _ (G3 hb)).trans e;show wpAny _ _ (newExc (.type "StopIteration") [] >>= _) _ _ _;apply wpAny_bind;simp only [newExc,newTuple];apply wpAny_bind;refine wpAny_newObj_type ?t1 (by size_fits)
 refine wpAny_bind (m:=firstArgMember _ _) (wpAny_of_eq (a:=P1) (by first | rfl | (simp only [firstArgMember];rfl)) ?t2)
 refine wpAny_newObj_type ?t3 (by size_fits)
 simp only [raiseNew];apply wpAny_bind;apply wpAny_handled;rw [show A.in1.handled=none from hh]
 first | apply wpAny_throw | (apply wpAny_bind;apply wpAny_pure;apply wpAny_throw)
 apply wpAny_bind;refine wpAny_isInstance (T:="StopIteration") (b:=true) ⟨_,B5 _ rfl,rfl⟩ isSubtype_stop ?t4;exact wpAny_pure (hQ _ ((eb.push _).push _))
end
section
variable {X:Cx} {tg:Expr}
def qaW (t:TE):TE:=fun σ H Q=>t σ H fun v H1=>∃ d Af,v=.ref d/\H1 d=some (.dT Af)/\∀ o,Q v (upd H1 d (.frz o (.dT Af)))
theorem Inv.freezeT {Ab:List (Addr × Obj)} {σ:St} {H:Hp} {s:Shared} {d:Addr} {Af:List (List Key × V)} (I:Inv X Ab σ H s) (h:H d=some (.dT Af)):∃ o,Inv X Ab σ (upd H d (.frz o (.dT Af))) s:=by
 have ok:=I.hok d _ h;obtain ⟨hz,hd,xs,rel,o,es,ep,ho,r⟩:=id ok;refine ⟨o,I.write (h':=s.heap) (t':=s.toks) (x:=d) (e:=d) (o:=.frz o (.dT Af)) (by rw [h];trivial) (.inl rfl) (fun b u _ q=>q) ⟨o,ho⟩ ⟨ho,?_⟩⟩
 refine (show ObjOk X.prog X.w H s.heap d (.dT Af) from ok).stay (fun b u _ q=>q) (fun b q=>?_) (fun b ys q=>?_) fun b t q=>?_
 ·rw [qA8 (qBS q h (by intro z;cases z))];exact q
 ·rw [qA8 (qBS q h (by intro z;cases z))];exact q
 ·rw [qA8 (qBS q h (by intro z;cases z))];exact q
theorem qXT {e:Expr} {t:TE} (he:PE X e t):PE X e (qaW t):=by
 intro Ab s σ H Q I h;refine thn (he Ab s σ H _ I h) fun v s1 ⟨x,H1,I1,r1,d,Af,e,hd,q⟩=>?_;obtain ⟨o,I2⟩:=I1.freezeT hd;exact ⟨x,_,I2,r1,q o⟩
def ItT (a:Addr) (o:Obj) (Af:List (List Key × V)):It:=
 ⟨fun i H=>i<Af.length/\H a=some (.frz o (.dT Af)),fun i H x H'=>H'=H/\∃ k v r,Af[i]?=some (k,v)/\x=.ref r/\H r=some (.tup (k.map kV)),fun i H=>Af.length<=i/\H a=some (.frz o (.dT Af))⟩
theorem Inv.heldT {Ab:List (Addr × Obj)} {σ:St} {H:Hp} {s:Shared} {d:Addr} {o:Obj} {Af:List (List Key × V)} (I:Inv X Ab σ H s) (h:H d=some (.frz o (.dT Af))) :
  s.heap.get? d=some o/\(d == sysModules)=false/\o.cls=.type "dict"/\∃ es ep,o.data=.dict es ep/\es.size=Af.length/\∀ (i:Nat) (hi:i<es.size),∃ k v r,Af[i]?=some (k,v)/\es[i].key=.ref r/\H r=some (.tup (k.map kV)):=by
 obtain ⟨ho,hz,hd,xs,rel,o',es,ep,ho',hc,hdat,eq,nd⟩:=(show ObjOk X.prog X.w H s.heap d (.frz o (.dT Af)) from I.hok d _ h);rw [ho] at ho';cases ho';have lx:xs.length=Af.length:=rel.length.symm;have le:es.size=xs.length:=by rw [<- D7,eq,A0]
 refine ⟨ho,hd,hc.1,es,ep,hdat,le.trans lx,fun i hi=>?_⟩;have hi2:i<xs.length:=by omega
 have hi3:i<Af.length:=by omega
 have h1:=A1 hi3;obtain ⟨x,hx,e1,e2,e3⟩:=qPI rel h1;refine ⟨Af[i].1,Af[i].2,x.2.1,h1,?_,e2⟩;have h3:es[i]?=some (entryOfKey (tupleKind (qBF X.prog X.w)) x):=by rw [<- J6,eq,B1,hx];rfl
 rw [D2 hi] at h3;rw [C6 h3]
 rfl
theorem qQD {P:Program} {w:World} {K:PySem.W.Frag} {tg:Expr} (a it:Addr) (o:Obj) (Af:List (List Key × V)) (ep:Nat) (es:_) (ho:o.data=.dict es ep):Turn P w K tg (ItT a o Af) [it] it (fun i h=>qUO h it a i Af.length ep) where
 mem:=by simp
 obj:=fun i h st b hb=>by
  have e:b=it:=by simpa using hb
  subst e;exact ⟨_,st,fun v z=>by cases z⟩
 keep:=fun i h h' st k=>k it (by simp) _ st
 item:=by
  intro X hP hw hK hc i Ab s σ H E I hf st hg;subst hP hw hK;obtain ⟨hi,hq⟩:=hg;obtain ⟨e1,e2,e3,es',ep',e4,e5,get⟩:=I.heldT hq;rw [ho] at e4;cases e4;obtain ⟨f0,f1,f2,f3,f4,f5⟩:=hf it (by simp)
  rw [<- e5] at st;have hi2:i<es.size:=by omega
  obtain ⟨k,v,r,g1,g2,g3⟩:=get i hi2;refine qTW st e1 ho hi2 fun h' hit' hs'=>?_;have I1:Inv X Ab σ H { s with heap:=h' }:=I.turned (t':=s.toks) (fun b o hb e=>(hs'.2 b hb).trans e) f0 f1 f3 f4 f5;rw [e5] at hit';rw [g2];exact ⟨.ref r,rfl,qTK (s:={ s with heap:=h' }) hit' rfl rfl (by decide) ⟨.ref r,H,I1,rfl,⟨rfl,k,v,r,g1,rfl,g3⟩,hit',fun b hb=>(hf b hb).1⟩⟩
 done:=by
  intro X hP hw hK hc i Ab s σ H E I hf st hg;subst hP hw hK;obtain ⟨hi,hq⟩:=hg;obtain ⟨e1,e2,e3,es',ep',e4,e5,get⟩:=I.heldT hq;rw [ho] at e4;cases e4;obtain ⟨f0,f1,f2,f3,f4,f5⟩:=hf it (by simp)
  rw [<- e5] at st;exact qW6 (I.ok.hd hc) st (by omega) e1 ho fun h' eb=>⟨rfl,I.turned (t':=s.toks) (fun b o hb e=>eb b o hb e) f0 f1 f3 f4 f5⟩
 self:=fun _ _ _ _ _ st h=>wpAny_pyIter_keyiter ⟨_,st,rfl,rfl⟩ h
def qaD (tl:TE):TI:=fun σ H R=>tl σ H fun x H1=>∃ a o Af,x=.ref a/\H1 a=some (.frz o (.dT Af))/\R (ItT a o Af) H1
theorem qV9 {l:Expr} {tl:TE} (hl:PE X l tl):PI X tg l (qaD tl):=by
 intro Ab s σ H R I h;refine thn (hl Ab s σ H _ I h) fun v s1 ⟨x,H1,I1,r1,q1⟩=>?_;obtain ⟨a,o,Af,e,hq,q⟩:=q1;subst e;cases r1;obtain ⟨e1,e2,e3,es,ep,e4,e5,get⟩:=I1.heldT hq;refine qTV ⟨_,e1,e3⟩ e2 e1 e4 ?_;refine ⟨s1.heap.objs.size,[s1.heap.objs.size],_,_,H1,rfl,I1.kept (t':=s1.toks) fun b o e=>A2 _ e,qQD a _ o Af ep es e4,by rw [e5];exact B5 _ rfl,fun b hb=>?_,q⟩
 have e:b=s1.heap.objs.size:=by simpa using hb
 subst e;exact I1.fpOk (B0 _) (I1.hok.fresh (B0 _))
end
section
variable {X:Cx} {k v:Expr} {tk tv:TE} {pos:Pos}
def qXF (tk tv:TE):TE:=fun σ H Q=>∀ p,H p=none->tk σ (upd H p (.dT [])) fun x H1=>tv σ H1 fun y H2=>H2 p=some (.dT [])/\∃ b ks,x=.ref b/\H2 b=some (.tup (ks.map kV))/\Q (.ref p) (upd H2 p (.dT [(ks,y)]))
theorem qSH (hu:X.A.units+1<cLine) (hk:PE X k tk) (hv:PE X v tv):PE X (.Dict [some k] [v] pos) (qXF tk tv):=by
 intro Ab s σ H Q I q;have hn:=I.hok.fresh (B0 s.heap.objs.size);have I1:=I.laid (a:=s.heap.objs.size) (o:=.dT []) (h':=s.heap.push { cls:=.type "dict",data:=.dict #[] }) (t':=s.toks) (fun _ _ q=>A2 _ q) (B0 _) (qQ1 s.heap I.big);rw [arm_eval_Dict,zip_pairTrees [some k] [v] X.env pos rfl rfl,dictDisplay_pairs _ (by intro z;cases z) (by show 1<17;decide)]
 apply wpAny_bind;apply wpAny_standAt;apply wpAny_bind;unfold subDict;apply wpAny_bind;refine wpAny_alloc ?_;apply wpAny_bind;apply wpAny_holding;rw [if_pos (show (pairTrees [some k] [v] X.env pos).length<=15 by show 1<=15;decide)]
 apply wpAny_bind;refine pairTrees_cons_walk (thn (hk Ab _ σ _ _ I1 (q _ hn)) fun u s1 ⟨x,H1,I2,rx,q1⟩=>thn (hv Ab _ σ _ _ I2 q1) fun r s2 ⟨y,H2,I3,ry,e,b,ks,ex,eb,q2⟩=>pairTrees_nil_walk ?_);subst ex;obtain rfl:u=C8 b:=rx;apply wpAny_holding;obtain ⟨z,hd,xs,rel,dd⟩:=qaH I3.hok e;have hz:xs.length<=sizeLine:=by rw [<- C7 rel];exact z
 apply wpAny_bind;simp only [Q0,y8];apply wpAny_bind;apply wpAny_bind;refine wpAny_dictSet_heap (knd:=tupleKind (qBF X.prog X.w)) (hsz:=hz) ?_ (qK8 I3.hok eb) dd fun h' dd' hs=>?_
 ·exact Nat.lt_of_succ_lt hu
 apply wpAny_pure;apply wpAny_pure;apply wpAny_pure;apply wpAny_pure;apply wpAny_pure;refine ⟨.ref s.heap.objs.size,_,?_,rfl,q2⟩;obtain ⟨o2,es,ep,hq,h2,h3,h4,_,h5⟩:=dd';refine qLH I3 (by rw [e];exact U2) hs ⟨o2,hq⟩ ⟨G9 (show 1<=2 by decide) (by decide),hd,_,(rel.put ks eb ry).keeps fun c ys ec=>?_,o2,es,ep,hq,h2,h3,h4,h5⟩
 rw [qA8 (qBS ec e (fun z=>nomatch z))];exact ec
end
def kOf:Stmt->Expr
 | .Assign _ (.Dict [some k] _ _) _=>k
 | _=>.Name "" ⟨0,0,0,0⟩
def vOf:Stmt->Expr
 | .Assign _ (.Dict _ [v] _) _=>v
 | _=>.Name "" ⟨0,0,0,0⟩
theorem qXS {X:Cx} {e:Expr} (h:∃ n p,e=.Tuple [] n p):PE X e (tTup tNil):=by
 obtain ⟨n,p,rfl⟩:=h;exact qC5 qA3
end L2
namespace L2
open PySem PySem.Spec PyProof.Rows
theorem qUJ {p:Pos} {a b:Int} {c cv:Value}:∀ {l:List Value},TriplesOk l->codeAmong p (l++[rawInt a,rawInt b,c])=some cv->codeAmong p l=some cv\/cv=c:=by
 intro l h e
 fun_induction TriplesOk l with
 | case1=>
  simp only [d5,rawInt,codeAmong] at e
  split at e
  ·exact .inr (C6 e).symm
  ·cases e
 | case2 a' t b' u x rest ih=>
  simp only [P4,codeAmong] at e ⊢
  split at e
  ·rename_i hc
   rw [if_pos hc];exact .inl e
  ·rename_i hc
   rw [if_neg hc];exact ih h e
 | case3 l h1 h2=>exact h.elim
def BM (mg:Str->Option Value) (h:Heap):Prop:=∃ bm ob,mg "__builtins__" = some (.ref bm)/\bm ≠ builtinsNs/\h.get? bm=some ob/\ob.cls=.type "module"/\ob.dict=some builtinsNs/\ob.data=.plain
section
variable {X:Cx} {Ab:List (Addr × Obj)} {σ:St} {H:Hp} {s:Shared}
abbrev lamO (X:Cx) (q:Str) (params:Arguments) (body:Expr) (scope:Scope) (cc:Addr) (ctv:Value):Obj:=
 { cls:=.type "function",data:=.func (P7 "<lambda>" q params body scope (qGS X.env scope.names []) ((X.mg "__name__").getD .none) (.ref cc) ctv) }
theorem qaF {params:Arguments} {body:Expr} {scope:Scope} {pos:Pos} {c P:Addr} {q:Str} {Q:Value->Shared->Prop} {E:Value->Shared->Prop}
  (I:Inv X Ab σ H s) (hb:BM X.mg X.base) (hcode:X.env.code=.ref c) (C:PySem.W.CodeHd X.base c P) (hP:H P=some (.tbl (.tab q))) (hq:X.env.qual ++ "<lambda>" = q)
  (hfr:∀ x,(x,J9) ∈ scope.names->∃ c,X.env.cells.lookup x=some c) (hdef:defaultsOf params X.env=([],[]))
  (h:∀ (f cc:Addr) (ctv:Value) (s':Shared) (H':Hp),Inv X Ab σ H' s'->(∀ b o,H b=some o->H' b=some o)->H' cc=some (.tbl (.cod q))->
   s'.heap.get? f=some (lamO X q params body scope cc ctv)->s.heap.objs.size<=f->H' f=none->Q (.ref f) s') :
  wpAny (model X.prog X.w) X.A (eval (.Lambda params body scope pos) X.env) Q E s:=by
 obtain ⟨more,hPo,tr,ent⟩:=(show ObjOk X.prog X.w H s.heap P (.tbl (.tab q)) from I.hok P _ hP);have hg:s.heap.Ns mainGlobals X.mg:=I.ok.mod.glob.keeps I.bk;have nP:∀ b o,X.base.get? b=some o->b ≠ P:=fun b o e z=>by
  have:=(I.bs b o e).2;rw [z,hP] at this;cases this
 have hgP:mainGlobals ≠ P:=by
  obtain ⟨o,es,ep,e,_⟩:=I.ok.mod.glob;exact nP _ _ e
 have hbP:s.heap.BuiltinsAt X.mg P:=by
  obtain ⟨bm,ob,b1,b2,b3,b4,b5,b6⟩:=hb;refine ⟨bm,ob,b1,b2,?_,nP _ _ b3,I.bk _ _ b3,b4,b5,b6⟩;rintro rfl;obtain ⟨o,es,ep,e,hd,_⟩:=I.ok.mod.glob;rw [e] at b3;cases b3;rw [hd] at b6;cases b6
 refine PySem.W.kla_eval hdef ?_;rw [hq];cases hca:codeAmong pos more.toList with
 | some cv=>
  obtain ⟨cc,rfl,hcc⟩:=ent pos cv hca;refine PySem.W.kla_makeFunctionHit (qH8 hfr) I.ok.glob hg hcode (C.keeps I.bk) hPo tr hca hbP fun ctv h' tk hk hsz=>?_;exact h h'.objs.size cc ctv _ H (I.kept (t':=tk) fun b u e=>A2 _ (hk b u e)) (fun _ _ z=>z) hcc (B5 _ rfl) hsz (I.hok.fresh hsz)
 | none=>
  refine PySem.W.kla_makeFunction (qH8 hfr) I.ok.glob hg hcode (C.keeps I.bk) hPo tr hca hgP hbP fun c' ctv h' tk hx hge hlt hrec htb=>?_;have hc0:H c'=none:=I.hok.fresh hge;have up:∀ b o,H b=some o->(upd H c' (.tbl (.cod q))) b=some o:=fun b o e=>by rw [qA8 (qA5 e hc0)];exact e
  have neP:∀ b,H b=none->b ≠ P:=fun b n z=>by rw [z,hP] at n;cases n
  have I':Inv X Ab σ (upd H c' (.tbl (.cod q))) { s with heap:=h'.push (lamO X q params body scope c' ctv),toks:=tk }:=by
   refine I.step (g':=s.gens) (d':=s.drawn) (ch:=[]) (fun _ z=>nomatch z) (fun b o _ _ _ e n=>A2 _ (hx b o (neP b n) e)) (fun b o _ _ _ e n=>⟨o.slots,A2 _ (hx b o (neP b n) e)⟩)
    (fun b o _ e n=>by rw [qA8 (D4 (D5 (B7 e) hge))];exact n) (fun b o _ e=>?_) (fun b xs e=>up _ _ e) (fun b o u e=>up _ _ e) (fun b t e=>up _ _ e) (fun m hm=>(hm.extBut hx (neP _ I.free)).push _) (fun b u e=>?_) I.bare
   ·by_cases hb':b=P
    ·exact ⟨_,A2 _ (hb' ▸ htb)⟩
    ·exact ⟨o,A2 _ (hx b o hb' e)⟩
   ·by_cases hbc:b=c'
    ·subst hbc;rw [qA1] at e;cases e;obtain ⟨c₂,oc,vs,t,e2,hoc,r⟩:=hrec;cases e2;exact ⟨b,oc,vs,t,rfl,A2 _ hoc,r⟩
    ·rw [qA8 hbc] at e;by_cases hb':b=P
     ·subst hb';rw [hP] at e;cases e;refine ⟨_,A2 _ htb,?_,fun pos' cv z=>?_⟩
      ·rw [A03];exact TriplesOk_snoc _ _ _ _ tr
      ·rw [A03] at z;rcases qUJ tr z with z | z
       ·obtain ⟨c2,e1,e2⟩:=ent pos' cv z;exact ⟨c2,e1,up _ _ e2⟩
       ·exact ⟨c',z,qA1⟩
     ·refine (I.hok b u e).stay (fun c2 v hc2 z=>A2 _ (hx c2 v ?_ z)) (fun c2 z=>up _ _ z) (fun c2 xs z=>up _ _ z) fun c2 t z=>up _ _ z;rcases hc2 with z | z
      ·rw [z];exact hb'
      ·intro z2;rw [z2,hP] at z;cases z
  exact h h'.objs.size c' ctv _ _ I' up qA1 (B5 _ rfl) (by omega) (by rw [qA8 (S9 hlt)];exact I.hok.fresh (by omega))
structure LmScope (X:Cx) (scope:Scope) (p:Str) (fv:List Nat):Prop where
 kind:scope.kind=.function
 co:scope.isCoroutine=false
 gen:scope.isGenerator=false
 nocell:∀ y ∈ scope.names,y.2 ≠ .cell
 par:scope.names.lookup p=some .local
 free:∀ y ∈ scope.names,y.2=.free->X.env.kindOf y.1=some .cell\/X.env.kindOf y.1=some .free
 fvs:∀ i ∈ fv,i<X.N.length/\scope.names.lookup (X.N.getD i Q3)=some .free
structure LmZ where
 A:Around
 f:Addr
 cd:Value
 s₀:Shared
 H₀:Hp
 rm:Room 0 A
abbrev qY6 (X:Cx) (scope:Scope) (q:Str) (z:LmZ):Env:=PySem.W.envX q scope z.s₀.heap.objs.size z.f z.cd (qGS X.env scope.names [])
def lmCx (X:Cx) (scope:Scope) (p:Str) (fv:List Nat) (q:Str) (z:LmZ):Cx where
 prog:=X.prog
 w:=X.w
 K:=X.K
 mg:=X.mg
 base:=X.base
 A:=z.A.deeper (qY6 X scope q z)
 N:=p::fv.map fun i=>X.N.getD i Q3
 s₀:=z.s₀
 H₀:=z.H₀
 env:=qY6 X scope q z
 outer:=X.stack
 stack:=qY6 X scope q z::X.stack
 ex:=[]
 fn:=fun _=>false
 calm:=true
 pn:=[]
 xe:=noX
theorem LmScope.fr {scope:Scope} {p:Str} {fv:List Nat} (S:LmScope X scope p fv) (I:Inv X Ab σ H s):∀ x,(x,J9) ∈ scope.names->∃ c,X.env.cells.lookup x=some c:=fun x hx=>I.ok.has x (S.free _ hx rfl)
theorem qbF {scope:Scope} {p:Str} {fv:List Nat} {q:Str} {A:Around} {f:Addr} {cd:Value} (rm:Room 0 A) (I:Inv X Ab σ H s) (S:LmScope X scope p fv) (hA:A.frames=some X.stack) :
  (lmCx X scope p fv q ⟨A,f,cd,s,H,rm⟩).Ok:=by
 have hfr:=S.fr I;have sub:=qF5 (env:=X.env) (names:=scope.names) (acc:=[]) hfr (fun x c z=>by simp at z)
 have noA:∀ b:Addr,b ∉ (lmCx X scope p fv q ⟨A,f,cd,s,H,rm⟩).ex:=fun b z=>absurd (show b ∈ ([]:List Addr) from z) (by simp)
 refine ⟨I.ok.mod,S.kind,rfl,rfl,B0 _,fun x y c h1 h2=>I.ok.inj x y c (sub _ _ h1) (sub _ _ h2),fun x hx=>?_,fun x c hx=>(nomatch hx),fun _=>rm.hd,w6 hA,.inr ⟨rfl,rfl⟩,fun b z=>absurd z (noA b),I.bs,G9 I.ok.bsz I.sz,fun b _ _=>noA b,fun b z=>absurd z (noA b),I.stack,I.stkFree⟩;have hx':scope.names.lookup x=some .cell\/scope.names.lookup x=some .free:=hx;rcases hx' with z | z
 ·exact absurd rfl (S.nocell _ (J8 z))
 ·exact qF6 (.inl (J8 z))
def qFQ (fv:List Nat) (σ:St) (x:V):St:=some x::fv.map fun i=>(σ[i]?).join
theorem qVM {scope:Scope} {p:Str} {fv:List Nat} {q:Str} {A:Around} {f:Addr} {cd:Value} {x:V} {u:Value} {h₁:Heap} {tk:Nat} (rm:Room 0 A) (I:Inv X Ab σ H s) (S:LmScope X scope p fv) (hA:A.frames=some X.stack) (hx:RelV x u)
  (hns:h₁.Ns s.heap.objs.size (fun y=>[(p,u)].reverse.lookup y)) (hk:∀ b o,s.heap.get? b=some o->h₁.get? b=some o) :
  Inv (lmCx X scope p fv q ⟨A,f,cd,s,H,rm⟩) [] (qFQ fv σ x) H { s with heap:=h₁,toks:=tk }:=by
 have hfr:=S.fr I;have sub:=qF5 (env:=X.env) (names:=scope.names) (acc:=[]) hfr (fun x c z=>by simp at z)
 refine ⟨qbF rm I S hA,rfl,I.bare,Un.kept hk,⟨_,hns,fun i y v h1 h2 h3=>?_⟩,fun y c e=>?_,I.hok.fresh (B0 _),fun y c e=>I.freeC y c (sub _ _ e),fun p hp=>absurd (show p ∈ ([]:List (Addr × Obj)) from hp) (by simp),I.hok.kept hk,?_⟩
 ·have h1:(p::fv.map fun i=>X.N.getD i Q3)[i]?=some y:=h1;unfold qFQ at h2;cases i with
  | zero=>
   cases h1;cases h2;refine ⟨u,hx,.inl ⟨S.par,?_⟩⟩;simp
  | succ i=>
   rw [List.getElem?_cons_succ,B1] at h1 h2;cases e:fv[i]? with
   | none=>rw [e] at h1;cases h1
   | some j=>
    rw [e] at h1 h2;have hj:=S.fvs j (B4 e);have h1:X.N.getD j Q3=y:=C6 h1;have h2:(σ[j]?).join=some v:=C6 h2;have h2':σ[j]?=some (some v):=by
     cases q:σ[j]? with
     | none=>rw [q] at h2;cases h2
     | some y=>rw [q] at h2;exact congrArg some h2
    have hxn:X.N[j]?=some y:=by
     rw [P6] at h1;rw [A1 hj.1] at h1 ⊢;exact congrArg some h1
    have hlk:scope.names.lookup y=some .free:=h1 ▸ hj.2;have hmem:=J8 hlk;obtain ⟨m,hn,hl⟩:=id I.loc;have hkd:=S.free _ hmem rfl;obtain ⟨u,ru,lk⟩:=hl j y v hxn h2' (by
     rcases hkd with z | z
     ·exact .inr (.inl z)
     ·exact .inr (.inr z))
    refine ⟨u,ru,?_⟩;rcases lk with ⟨z,_⟩ | ⟨_,c,e1,z⟩
    ·rcases hkd with y' | y'
     ·have y':X.env.kindOf y=some .cell:=y';rw [z] at y';cases y'
     ·have y':X.env.kindOf y=some .free:=y';rw [z] at y';cases y'
    ·obtain ⟨c',e2⟩:=qF6 (env:=X.env) (names:=scope.names) (acc:=[]) (x:=y) (.inl hmem);have e3:=sub _ _ e2;rw [e1] at e3;cases e3;obtain ⟨o,ho,hd⟩:=z;exact .inr ⟨.inr hlk,c,e2,o,hk _ _ ho,hd⟩
 ·obtain ⟨v,o,ho,hd⟩:=I.cell y c (sub _ _ e);exact ⟨v,o,hk _ _ ho,hd⟩
 ·unfold qFQ;show _=(p::fv.map fun i=>X.N.getD i Q3).length;simp
theorem qPO {params:Arguments} {body:Expr} {scope:Scope} {p:Str} {fv:List Nat} {q:Str} {A:Around} {f cc:Addr} {ctv u:Value} {x:V} {te:TE} {Q:VK} (rm:Room 0 A) (I:Inv X Ab σ H s) (S:LmScope X scope p fv) (hA:A.frames=some X.stack)
  (hf:s.heap.get? f=some (lamO X q params body scope cc ctv)) (hcc:H cc=some (.tbl (.cod q))) (hx:RelV x u)
  (hbind:∀ (cl:List (Str × Addr)) (pm cd ct u:Value),bindArgs (P7 "<lambda>" q params body scope cl pm cd ct) ⟨[u],[]⟩=pure [(p,u)])
  (he:∀ z,PE (lmCx X scope p fv q z) body te) (h:te (qFQ fv σ x) H Q) :
  codeAny (model X.prog X.w) A (.call (.ref f) ⟨[u],[]⟩) (fun r s'=>∃ v y H',r=.ok (.ret v)/\Inv X Ab σ H' s'/\RelV y v/\Q y H'/\Un (frs X.stack) [] H H' s.heap s'.heap) s:=by
 have hrec:s.heap.CodeRec (.ref cc) q:=(show ObjOk X.prog X.w H s.heap cc (.tbl (.cod q)) from I.hok cc _ hcc);refine PySem.W.kla_callFunE rm.depth hf rfl S.co S.gen rfl hrec ?_;rw [hbind];refine wpAny_pure (wpAny_newFunctionEnv S.nocell (fun y hy=>?_) (fun h₁ hns hsb=>⟨I.nolimit.fresh _ hsb,?_⟩) S.kind)
 ·rw [A3.mp hy];exact S.par
 have hk₁:∀ b o,s.heap.get? b=some o->h₁.get? b=some o:=fun b o e=>hsb.extBut b o (D4 (B7 e)) (A2 _ e);refine PySem.W.kla_codeExpr ?_;have J:=qVM (q:=q) (f:=f) (cd:=.ref cc) (tk:=s.toks+[(p,u)].length) rm I S hA hx hns hk₁;refine wpAny_mono ((he ⟨A,f,.ref cc,s,H,rm⟩) [] _ _ H Q J h) (fun v s' ⟨y,H',J',ry,qy⟩=>?_) fun _ _ z=>z.elim;exact ⟨v,y,H',rfl,I.call' (ch:=[]) J'.os J'.base J'.hok J'.bare (fun b hb=>absurd hb (by simp)),ry,qy,J'.base⟩
end
end L2
namespace L2
open PySem PySem.Spec PyProof.Rows
abbrev Sm0 (H H':Hp):Prop:=∀ b o,H b=some o->H' b=some o
section
variable {X:Cx}
def LamF (X:Cx) (q:Str) (params:Arguments) (body:Expr) (scope:Scope) (cc:Addr) (ctv:Value) (f:Addr):HO:=.ext fun h=>h.get? f=some (lamO X q params body scope cc ctv)
def tLam (X:Cx) (P:Addr) (q:Str) (params:Arguments) (body:Expr) (scope:Scope):TE:=fun σ H Q=>H P=some (.tbl (.tab q))/\
 ∀ f cc ctv H',Sm0 H H'->H f=none->H' f=some (LamF X q params body scope cc ctv f)->H' cc=some (.tbl (.cod q))->Q (.ref f) H'
theorem qWR {params:Arguments} {body:Expr} {scope:Scope} {pos:Pos} {c P:Addr} {q:Str} {p:Str} {fv:List Nat} (hb:BM X.mg X.base) (hcode:X.env.code=.ref c) (C:PySem.W.CodeHd X.base c P) (hq:X.env.qual ++ "<lambda>" = q)
  (S:LmScope X scope p fv) (hdef:defaultsOf params X.env=([],[])):PE X (.Lambda params body scope pos) (tLam X P q params body scope):=by
 intro Ab s σ H Q I ⟨hP,h⟩;refine qaF I hb hcode C hP hq (S.fr I) hdef fun f cc ctv s' H' I' sm hcc hf hsz hn=>?_;have hf0:H f=none:=I.hok.fresh hsz;have ncf:cc ≠ f:=qA5 hcc hn
 -- f is tracked from now on
 have hF:X.s₀.heap.objs.size<=f:=G9 I.sz hsz;have I2:Inv X Ab σ (upd H' f (LamF X q params body scope cc ctv f)) s':=by
  refine I'.track hn hF (S9 (D5 I.lt hsz)) (fun x c e z=>?_) (fun p hp z=>?_) ⟨hf,⟨_,hf⟩,fun h1 h2 x k=>k _ x⟩
  ·obtain ⟨v,hc⟩:=I.cell x c e;exact absurd (D5 hc.lt (by rw [z];exact hsz)) (Q6 _)
  ·exact absurd (D5 (B7 (I.pin p hp).1) (by rw [z];exact hsz)) (Q6 _)
 refine ⟨.ref f,_,I2,rfl,h f cc ctv _ (fun b o e=>?_) hf0 qA1 (by rw [qA8 ncf];exact hcc)⟩
 rw [qA8 (qA5 e hf0)];exact sm b o e
structure KCmp (X:Cx) (KR:Hp->V->List Int->Prop):Prop where
 mono:∀ H H' y k,Sm0 H H'->KR H y k->KR H' y k
 cmp:∀ (Ab:List (Addr × Obj)) (σ:St) (s:Shared) (H:Hp) (y y':V) (u u':Value) (k k':List Int) (Q:Value->Shared->Prop) (E:Value->Shared->Prop),Inv X Ab σ H s->RelV y u->RelV y' u'->KR H y k->KR H y' k'->Q (.bool (HT.lexLt k k')) s->
  wpAny (model X.prog X.w) X.A.in1 (richCompare .Lt u u') Q E s
theorem Inv.fpStk {Ab:List (Addr × Obj)} {σ:St} {H:Hp} {s:Shared} {b:Addr} (I:Inv X Ab σ H s) (f:FpOk X Ab H b):b ∉ frs X.stack:=fun z=>by
 rcases B6.mp (I.stkSub b z) with e | e
 ·exact f.2.1 e
 ·exact f.2.2.1 e
theorem FpOk.to {Ab:List (Addr × Obj)} {H H':Hp} {b:Addr} (f:FpOk X Ab H b) (h:H' b=none):FpOk X Ab H' b:=⟨h,f.2⟩
structure KeyAt (X:Cx) (σ:St) (fv:List Nat) (te:TE) (KR:Hp->V->List Int->Prop) (H0:Hp) (xs:List V) (ks:List (List Int)):Prop where
 len:ks.length=xs.length
 key:∀ (i:Nat) (x:V) (k:List Int),xs[i]?=some x->ks[i]?=some k->∀ Hc,Sm0 H0 Hc->te (qFQ fv σ x) Hc fun y H'=>Sm0 Hc H'/\KR H' y k
section
variable {Ab:List (Addr × Obj)} {σ:St} {params:Arguments} {body:Expr} {scope:Scope} {p:Str} {fv:List Nat} {q:Str} {te:TE} {KR:Hp->V->List Int->Prop} {l f cc:Addr} {ctv:Value} {H0:Hp} {xs:List V} {ks:List (List Int)} {Q:VK}
end
end
end L2
namespace L2
open PySem PySem.Spec PyProof.Rows
def KR1 (H:Hp) (y:V) (k:List Int):Prop:=∃ r,y=.ref r/\H r=some (.tup (k.map V.int))
def hdIn (K:PySem.W.Frag) (c P:Addr):Bool:=match K.lookup c with
 | some ⟨.type n,_,.fields vs,_⟩=>decide (n = "code") && decide (c ≠ P) && (match (vs[11]?:Option Value),vs.getD 11 .none with | some (.ref a),.ref b=>decide (a=P) && decide (b=P) | _,_=>false) &&
   (match vs.getD 18 .none,vs.getD 7 .none,vs.getD 9 .none,vs.getD 10 .none with | .str _ _,.int _ _,.bool _,.int _ _=>true | _,_,_,_=>false)
 | _=>false
theorem qNC {K:PySem.W.Frag} {h:Heap} {c P:Addr} (X:K.In h) (hd:hdIn K c P=true):PySem.W.CodeHd h c P:=by
 unfold hdIn at hd
 split at hd
 ·rename_i n dd vs sl hl
  rw [O4,O4,O4] at hd;obtain ⟨⟨⟨h1,h2⟩,h3⟩,h4⟩:=hd
  split at h3
  ·rename_i a b e1 e2
   rw [O4,decide_eq_true_eq,decide_eq_true_eq] at h3;obtain ⟨rfl,rfl⟩:=h3
   split at h4
   ·rename_i f t fl tg inF text tt g1 g2 g3 g4
    exact ⟨_,vs,_,_,_,_,_,_,_,X _ _ hl,by rw [of_decide_eq_true h1],rfl,e1,e2,g1,g2,g3,g4,of_decide_eq_true h2⟩
   ·cases h4
  ·cases h3
 ·cases hd
section
variable {X:Cx}
end
theorem Fun.okL {P:Program} {w:World} {K:PySem.W.Frag} {mg:Str->Option Value} {base:Heap} {x qual:Str} {st:Stmt} {f:Addr} {fd:FuncData} {N ps:List Str} {k:Nat} {sp:Sp} {c:Addr} (F:Fun K x qual st f fd) (hc:fd.code=.ref c) (S:FnScope N ps (qAD st)) (len:∀ vs H Q E,sp vs H Q E->vs.length=ps.length)
  (hbody:∀ (A:Around) (outer:List Env) (s:Shared) (H:Hp) (vs:List V) (Q:VK) (E:XK),Room k (A.deeper (envOfC qual (qAD st) s.heap.objs.size f (.ref c)))->sp vs H Q E->
   ∃ t,PSs (cxOf CX0 P w K mg base N qual (qAD st) f (.ref c) A outer s H E).nox (qBG st) t/\t { nx:=fun _ H'=>Q .non H',rt:=Q } (start N vs) H):FnOk P w K mg base CX0 (k+1) f fd ps sp:=by
 obtain ⟨oc,od,kV,doc,pm,an,cdv,ct,osl,rfl,lk,hcd⟩:=F.ex;have e:cdv=.ref c:=hc;subst e;refine qaE lk hcd S len fun A outer s H vs Q E hr hsp=>?_;obtain ⟨t,h,q⟩:=hbody A outer s H vs Q E hr hsp;exact ⟨t,h.nox,q⟩
def qSY (scope:Scope) (p:Str) (fv:List Nat) (osc:Scope) (N:List Str):Bool:=
 decide (scope.kind=.function) && decide (scope.isCoroutine=false) && decide (scope.isGenerator=false) && scope.names.all (fun y=>decide (y.2 ≠ .cell)) && decide (scope.names.lookup p=some .local) &&
 scope.names.all (fun y=>decide (y.2 ≠ .free) || (decide (osc.names.lookup y.1=some .cell) || decide (osc.names.lookup y.1=some .free))) && fv.all fun i=>decide (i<N.length) && decide (scope.names.lookup (N.getD i Q3)=some .free)
theorem lms {X:Cx} {scope:Scope} {p:Str} {fv:List Nat} (h:qSY scope p fv X.env.scope X.N=true):LmScope X scope p fv:=by
 unfold qSY at h;simp only [O4,decide_eq_true_eq,G8,V9] at h;obtain ⟨⟨⟨⟨⟨⟨h1,h2⟩,h3⟩,h4⟩,h5⟩,h6⟩,h7⟩:=h;refine ⟨h1,h2,h3,h4,h5,fun y hy hf=>?_,h7⟩;rcases h6 y hy with z | z
 ·exact absurd hf z
 ·exact z
structure LTab where
 x:Str
 c:Addr
 P:Addr
 q:Str
def qaM (tabs:List LTab) (H:Hp):Prop:=∀ t ∈ tabs,H t.P=some (.tbl (.tab t.q))
def entH (a:Addr) (o:Obj) (xs:List V) (ina:Bool) (tabs:List LTab):Hp:=fun b=>if ina=true/\b=a then some (.frz o (.lst xs)) else (tabs.find? fun t=>decide (t.P=b)).map fun t=>.tbl (.tab t.q)
theorem qT1 {P:Program} {w:World} {K:PySem.W.Frag} {mg mb:Str->Option Value} {k:Nat} {fa a:Addr} {fd:FuncData} {x:Str} {sp:Sp} {s₁:Shared} {vs:List Value} {ns:List Int} (tabs:List LTab)
  (KX:K.In s₁.heap) (hns:s₁.heap.Ns mainGlobals mg) (hb:s₁.heap.Ns builtinsNs mb) (hbb:∀ x:Str,x ≠ "__name__"->mb x=bootBuiltins x) (hlim:s₁.heap.NoLimit) (hg:s₁.gens=#[])
  (ha:s₁.heap.get? a=some { cls:=.type "list",data:=.seq vs.toArray }) (hi:IntsAre vs ns) (hl:ns.length<=sizeLine) (hr:Room k callerA) (hbm:BM mg s₁.heap)
  (htab:∀ t ∈ tabs,PySem.W.CodeHd s₁.heap t.c t.P/\s₁.heap.get? t.P=some (A59 #[])) (hK:z8 K=true) (hone:∀ t ∈ tabs,∀ t' ∈ tabs,t.P=t'.P->t.q=t'.q)
  (F:∀ base:Heap,K.In base->base.Ns mainGlobals mg->BM mg base->FnOk P w K mg base CX0 k fa fd [x] sp) (hbind:∀ (s:Shared) (u:Value),BindsTo s fd ⟨[u],[]⟩ [(x,u)])
  (hsp:∀ H:Hp,qaM tabs H->SqL K H a (ns.map V.int)->sp [.ref a] H (fun v _=>v=.bl true) fun _ _ _=>False) :
  codeAny (model P w) callerA (.call (.ref fa) ⟨[.ref a],[]⟩) (fun r s'=>r=.ok (.ret (.bool true))/\OldK s₁.heap s'.heap/\s'.os=s₁.os/\AllBare s'.gens) s₁:=by
 have rv:=qID hi;have lenV:=hi.length;have naP:∀ t ∈ tabs,t.P ≠ a:=fun t ht z=>by
  have:=(htab t ht).2;rw [z,ha] at this;cases this
 have KnP:∀ t ∈ tabs,K.lookup t.P=none:=fun t ht=>by
  cases e:K.lookup t.P with
  | none=>rfl
  | some o=>
   have e2:=KX _ _ e;rw [(htab t ht).2] at e2;cases e2;have h2:=G8.mp hK _ (PySem.W.mem_of_lookupK e);exact absurd (show false=true from h2) B8
 obtain ⟨ina,hina⟩:∃ ina:Bool,(ina=true ↔ K.lookup a=none):=by
  cases e:K.lookup a with
  | none=>exact ⟨true,by simp⟩
  | some o=>exact ⟨false,by simp⟩
 -- the heap's description
 let o0:Obj:={ cls:=.type "list",data:=.seq vs.toArray }
 have hdef:∀ b u,entH a o0 (ns.map V.int) ina tabs b=some u->(ina=true/\b=a/\u=.frz o0 (.lst (ns.map V.int)))\/∃ t ∈ tabs,t.P=b/\u=.tbl (.tab t.q):=fun b u e=>by
  unfold entH at e
  split at e
  ·rename_i c
   cases e;exact .inl ⟨c.1,c.2,rfl⟩
  ·cases e2:tabs.find? (fun t=>decide (t.P=b)) with
   | none=>rw [e2] at e;cases e
   | some t=>
    rw [e2] at e;cases e;exact .inr ⟨t,k5 e2,of_decide_eq_true (A53 (p:=fun t:LTab=>decide (t.P=b)) e2),rfl⟩
 have htb:∀ t ∈ tabs,entH a o0 (ns.map V.int) ina tabs t.P=some (.tbl (.tab t.q)):=fun t ht=>by
  unfold entH;rw [if_neg fun z=>naP t ht z.2];cases e2:tabs.find? (fun t'=>decide (t'.P=t.P)) with
  | none=>exact absurd (decide_eq_true (rfl:t.P=t.P)) (List.find?_eq_none.mp e2 t ht)
  | some t'=>
   have h1:=k5 e2;have h2:t'.P=t.P:=of_decide_eq_true (A53 (p:=fun t':LTab=>decide (t'.P=t.P)) e2);rw [P8,hone t' h1 t ht h2]
 generalize hH:entH a o0 (ns.map V.int) ina tabs=H at hdef htb;have hS:SqL K H a (ns.map V.int):=by
  cases e:K.lookup a with
  | none=>
   refine .inl (.inr ⟨o0,?_⟩);rw [<- hH];unfold entH;rw [if_pos ⟨hina.mpr e,rfl⟩]
  | some o=>
   have e2:=KX a o e;rw [ha] at e2;cases e2;exact .inr ⟨_,vs.toArray,_,e,rfl,rfl,rfl,by rw [A8,lenV];exact hl,by simpa using rv⟩
 have hok:HOk P w H s₁.heap:=fun b u e=>by
  rcases hdef b u e with ⟨_,rfl,rfl⟩ | ⟨t,ht,rfl,rfl⟩
  ·exact ⟨ha,by rw [A0];exact hl,vs,_,rv,ha⟩
  ·exact ⟨#[],(htab t ht).2,trivial,fun pos cv z=>by cases z⟩
 have base_of:∀ {b:Addr} {o:Obj},s₁.heap.get? b=some o->H b=none->(hidT s₁.heap H).get? b=some o:=fun e n=>qVY e n;have noA:∀ {b:Addr} {o:Obj},s₁.heap.get? b=some o->(∀ xs n,o.data ≠ .seq xs n)->(∀ ps,o.data ≠ .fields ps)->H b=none:=fun {b o} e d1 d2=>by
  cases q:H b with
  | none=>rfl
  | some u=>
   rcases hdef b u q with ⟨_,rfl,_⟩ | ⟨t,ht,rfl,_⟩
   ·rw [ha] at e;cases e;exact absurd rfl (d1 _ _)
   ·rw [(htab t ht).2] at e;cases e;exact absurd rfl (d2 _)
 have nsK:∀ {b:Addr} {m:Str->Option Value},s₁.heap.Ns b m->(hidT s₁.heap H).Ns b m:=fun {b m} ⟨o,es,ep,e,d,r⟩=>⟨o,es,ep,base_of e (noA e (fun _ _ z=>by rw [d] at z;cases z) fun _ z=>by rw [d] at z;cases z),d,r⟩
 have hKb:K.In (hidT s₁.heap H):=fun b o e=>base_of (KX b o e) (by
  cases q:H b with
  | none=>rfl
  | some u=>
   rcases hdef b u q with ⟨h1,rfl,_⟩ | ⟨t,ht,rfl,_⟩
   ·rw [hina.mp h1] at e;cases e
   ·rw [KnP t ht] at e;cases e)
 have hBb:BM mg (hidT s₁.heap H):=by
  obtain ⟨bm,ob,b1,b2,b3,b4,b5,b6⟩:=hbm;exact ⟨bm,ob,b1,b2,base_of b3 (noA b3 (fun _ _ z=>by rw [b6] at z;cases z) fun _ z=>by rw [b6] at z;cases z),b4,b5,b6⟩
 have hM:Mod K mg (hidT s₁.heap H):=⟨hKb,nsK hns,⟨mb,nsK hb,hbb⟩,let ⟨mc,h1,h2⟩:=hlim;⟨mc,nsK h1,h2⟩⟩
 have e0:Env0 P w K mg (hidT s₁.heap H) callerA [] s₁ H:=⟨rfl,hM,fun b o e=>qY0 e,A34 (qTF _ _),trivial,fun b hb=>absurd (show b ∈ ([]:List Addr) from hb) (by simp),hok,.of_eq hg⟩
 refine codeAny_mono ((F _ hKb (nsK hns) hBb).run callerA [] s₁ H ⟨[.ref a],[]⟩ [.ref a] [.ref a] _ _ hr e0 (hbind s₁ (.ref a)) (.cons rfl .nil) (hsp H htb hS)) fun r s' h=>?_;cases r with
 | error e=>exact V3 h
 | ok fl=>
  cases fl with
  | next=>exact V3 h
  | brk=>exact V3 h
  | cont=>exact V3 h
  | ret u=>
   obtain ⟨v,H',os,bare,un,hok',r',q⟩:=h;have q':v=.bl true:=q;subst q';obtain rfl:u=R0 true:=r';have kept:∀ b o,s₁.heap.get? b=some o->s'.heap.get? b=some o\/∃ t ∈ tabs,t.P=b:=fun b o e=>by
    cases q:H b with
    | none=>exact .inl (un.keep b o e q (by intro z;exact absurd (show b ∈ ([]:List Addr) from z) (by simp)) (by simp))
    | some u=>
     rcases hdef b u q with ⟨_,rfl,rfl⟩ | ⟨t,ht,e1,_⟩
     ·have z2:=un.frzs b o0 _ q;obtain ⟨e1,_⟩:=hok b _ q;obtain ⟨e2,_⟩:=hok' b _ z2;rw [e] at e1;cases e1;exact .inl e2
     ·exact .inr ⟨t,ht,e1⟩
   have tabK:∀ t ∈ tabs,∃ more,s'.heap.get? t.P=some (A59 more):=fun t ht=>by
    obtain ⟨more,e,_⟩:=(show ObjOk P w H' s'.heap t.P (.tbl (.tab t.q)) from hok' t.P _ (un.tbls t.P _ (htb t ht)));exact ⟨more,e⟩
   refine ⟨rfl,⟨fun b o e=>?_,fun b o e=>?_⟩,os,bare⟩
   ·rcases kept b o e with z | ⟨t,ht,rfl⟩
    ·exact .inl z
    ·obtain ⟨more,em⟩:=tabK t ht;have e2:=(htab t ht).2;rw [e] at e2;cases e2;exact .inr (.inl ⟨((htab t ht).1.tab (htab t ht).2).isCodeTable,rfl,#[],more,rfl,by rw [em];simp⟩)
   ·rcases kept b o e with z | ⟨t,ht,rfl⟩
    ·exact ⟨_,z⟩
    ·obtain ⟨more,em⟩:=tabK t ht;exact ⟨_,em⟩
theorem walk_ofT {l:PySem.W.OpenLaw} {n k:Nat} {q:Program} {loose:List Str} {XP:(Str->Option Value)->Heap->Prop} {YP:World->Heap->Prop} {d:DefRec} {K:Params->PySem.W.Frag} {sp:World->Sp} {x:Str} (tabs:List LTab)
  (hn:l.most=some n) (hn2:n<=sizeLine) (hdf:d.params.defaults=[]) (hr:Room k callerA)
  (hY:∀ (w:World) (h:Heap),YP w h->(K w.params).In h)
  (hrec:∀ t ∈ tabs,((recsOf q).find? fun e=>e.name == t.x).isSome=true) (htab:∀ (w:World),∀ t ∈ tabs,A72 (K w.params) t.x=some (t.c,t.P)) (hK:∀ w:World,z8 (K w.params)=true) (hone:∀ t ∈ tabs,∀ t' ∈ tabs,t.P=t'.P->t.q=t'.q)
  (F:∀ (w:World) (mg:Str->Option Value) (fa:Addr) (h:Heap),(K w.params).In h->h.Ns mainGlobals mg->mg d.name=some (.ref fa)->
   ∃ fd:FuncData,(∀ (s:Shared) (u:Value),BindsTo s fd ⟨[u],[]⟩ [(x,u)])/\
    ∀ base:Heap,(K w.params).In base->base.Ns mainGlobals mg->BM mg base->FnOk l.prog w (K w.params) mg base CX0 k fa fd [x] (sp w))
  (hsp:∀ (w:World) (H:Hp) (a:Addr) (ns:List Int),ns.length<=n->qaM tabs H->SqL (K w.params) H a (ns.map V.int)->sp w [.ref a] H (fun v _=>v=.bl true) fun _ _ _=>False) :
  PySem.W.WalkO q loose XP YP l.row.toRowW d [] (fun f vs=>A65 f vs):=by
 refine Att.attach_call hn hdf fun w s₀ s₁ mg mb fa o pm cd doc a vs ns G Y ho hd hcd hmg hobj hints hlen hg=>?_;have KX:=hY w _ Y;obtain ⟨fd,hb,hF⟩:=F w mg fa _ KX G.T.g hmg;refine qT1 tabs KX G.T.g G.T.b G.T.builtins G.T.nolimit hg hobj hints (G9 hlen hn2) hr G.T.bmain (fun t ht=>?_) (hK w) hone hF hb fun H hO hS=>hsp w H a ns hlen hO hS;obtain ⟨dd,hdd⟩:=X6.mp (hrec t ht);exact PySem.W.tab_of G.T KX hdd (htab w t ht)
end L2
namespace L2
open PySem PySem.Spec PyProof.Rows
section
variable {prog:Program} {w:World} {A:Around} {E:Value->Shared->Prop} {s:Shared}
end
section
variable {X:Cx}
end
end L2
namespace L2
open PySem PySem.Spec PyProof.Rows
section
open PySem.SeqAt
open PySem.AutoSeq1 (wpAny_loadPart')
open PySem.MeetsSeq PySem.MeetsSeq2 PySem.MeetsSeq3
end
section
variable {X:Cx}
end
end L2
namespace L2.G
open PySem PySem.Spec PyProof.Rows
section
variable [NM]
variable {prog:Program} {w:World} {A:Around} {E:Value->Shared->Prop} {s:Shared}
end
theorem lexLt_self:∀ a:List Int,HT.lexLt a a=false
 | []=>rfl
 | x::a=>by rw [HT.lexLt_cons,if_pos rfl];exact lexLt_self a
theorem qIZ:∀ a b c:List Int,HT.lexLt a b=true->HT.lexLt b c=true->HT.lexLt a c=true
 | [],[],_,h,_=>by cases h
 | [],_::_,[],_,h=>by cases h
 | [],_::_,_::_,_,_=>rfl
 | _::_,[],_,h,_=>by cases h
 | _::_,_::_,[],_,h=>by cases h
 | x::a,y::b,z::c,h1,h2=>by
  rw [HT.lexLt_cons] at h1 h2 ⊢;by_cases e1:x=y
  ·subst e1;rw [if_pos rfl] at h1;by_cases e2:x=z
   ·rw [if_pos e2] at h2 ⊢;exact qIZ a b c h1 h2
   ·rw [if_neg e2] at h2 ⊢;exact h2
  ·rw [if_neg e1] at h1;have h1:=of_decide_eq_true h1;by_cases e2:y=z
   ·subst e2;rw [if_neg e1];exact decide_eq_true h1
   ·rw [if_neg e2] at h2;have h2:=of_decide_eq_true h2;rw [if_neg (by omega)]
    exact decide_eq_true (by omega)
theorem qMN:∀ a b:List Int,HT.lexLt a b=false->HT.lexLt b a=false->a=b
 | [],[],_,_=>rfl
 | [],_::_,h,_=>by cases h
 | _::_,[],_,h=>by cases h
 | x::a,y::b,h1,h2=>by
  rw [HT.lexLt_cons] at h1 h2;by_cases e:x=y
  ·subst e;rw [if_pos rfl] at h1 h2;rw [qMN a b h1 h2]
  ·rw [if_neg e] at h1;rw [if_neg (fun z=>e z.symm)] at h2;have:=of_decide_eq_false h1;have:=of_decide_eq_false h2;omega
def qHQ (L:List (List Int)) (a:List Int):Int:=(((L.filter fun x=>HT.lexLt x a).length:Nat):Int)
theorem qGC {α:Type} {p q:α->Bool}:∀ {L:List α},(∀ x ∈ L,p x=true->q x=true)->(∃ x ∈ L,p x=false/\q x=true)->(L.filter p).length<(L.filter q).length
 | [],_,⟨x,hx,_⟩=>nomatch hx
 | y::L,h,⟨x,hx,h1,h2⟩=>by
  have le:∀ {M:List α},(∀ x ∈ M,p x=true->q x=true)->(M.filter p).length<=(M.filter q).length:=by
   intro M hM
   induction M with
   | nil=>exact B0 _
   | cons z M ih=>
    have i:=ih fun x hx=>hM x (A5 _ hx);rw [M5,M5];cases ep:p z
    ·cases q z
     ·simpa using i
     ·simp;omega
    ·rw [hM z (by simp) ep]
     simpa using i
  rw [M5,M5];rcases B6.mp hx with e | e
  ·subst e;have:=le fun x hx=>h x (A5 _ hx);rw [h1,h2];simp;omega
  ·have i:=qGC (fun x hx=>h x (A5 _ hx)) ⟨x,e,h1,h2⟩;cases ep:p y
   ·cases q y
    ·simpa using i
    ·simp;omega
   ·rw [h y (by simp) ep]
    simpa using i
theorem qS0 {L:List (List Int)} {a b:List Int} (ha:a ∈ L) (h:HT.lexLt a b=true):qHQ L a<qHQ L b:=by
 unfold qHQ;have:=qGC (p:=fun x=>HT.lexLt x a) (q:=fun x=>HT.lexLt x b) (L:=L) (fun x _ hx=>qIZ _ _ _ hx h) ⟨a,ha,lexLt_self a,h⟩;omega
theorem qPD {L:List (List Int)} {a b:List Int} (ha:a ∈ L) (hb:b ∈ L):decide (qHQ L a<qHQ L b)=HT.lexLt a b:=by
 cases h:HT.lexLt a b with
 | true=>exact decide_eq_true (qS0 ha h)
 | false=>
  refine decide_eq_false fun z=>?_;cases h2:HT.lexLt b a with
  | true=>have:=qS0 hb h2;omega
  | false=>rw [qMN a b h h2] at z;omega
def qVT (xs:List V):List Int:=xs.map fun | .int i=>i | _=>0
theorem qTE (t:List Int):qVT (t.map V.int)=t:=by
 unfold qVT;rw [P5];exact (K0 fun x _=>rfl).trans (List.map_id _)
def keyH (H:Hp):Value->List Int
 | .ref r=>match H r with
  | some (.tup xs)=>qVT xs
  | _=>[]
 | _=>[]
@[reducible] def tupNM (H:Hp) (L:List (List Int)):NM:=⟨fun v=>qHQ L (keyH H v),fun v=>∃ r t,v=.ref r/\H r=some (.tup (t.map V.int))/\t ∈ L⟩
theorem qJ2 {H:Hp} {r:Addr} {t:List Int} (h:H r=some (.tup (t.map V.int))):keyH H (.ref r)=t:=by
 show (match H r with | some (.tup xs)=>qVT xs | _=>[])=t
 rw [h];exact qTE t
section
variable {prog:Program} {w:World} {A:Around} {E:Value->Shared->Prop} {s:Shared}
end
end L2.G
namespace L2.G
open PySem PySem.Spec PyProof.Rows
section
variable {prog:Program} {w:World} {A:Around} {E:Value->Shared->Prop} {s:Shared}
theorem qJ3 {b:Bool} {Q:Bool->Shared->Prop}:∀ {vs ws:List Value} {ns ms:List Int} {i:Nat} {fin:Bool},IntsAre vs ns->IntsAre ws ms->
  (fin=decide (vs.length<ws.length))->Q (HT.lexLt ns ms) s->PySem.W.KatLex prog w A b fin Q (vs.zip ws) i s
 | _,_,_,_,i,fin,.nil,.nil,ef,h=>by
  rw [ef];exact t8 h
 | _,_,_,_,i,fin,.nil,.cons _ _ _,ef,h=>by
  rw [ef];exact t8 h
 | _,_,_,_,i,fin,.cons _ _ _,.nil,ef,h=>by
  rw [ef];exact t8 h
 | _,_,_,_,i,fin,.cons (vs:=vs) (ns:=ns) x t hv,.cons (vs:=ws) (ns:=ms) y u hw,ef,h=>by
  rw [F9];refine PySem.W.kat_cons (wpAny_eqBool_int ?_);rw [HT.lexLt_cons] at h;by_cases e:x=y
  ·rw [if_pos e] at h;rw [beq_iff_eq.mpr e];refine PySem.W.kat_yes (qJ3 hv hw ?_ h);rw [ef];simp
  ·rw [if_neg e] at h;rw [beq_eq_false_iff_ne.mpr e];refine PySem.W.kat_no ?_;cases eb:(b && i == 0) with
   | true=>exact oneLt_int h
   | false=>exact PySem.W.kat_one _ _ (lt_int h)
theorem qQV {x y:Addr} {xs ys:Array Value} {ns ms:List Int} {b:Bool} {Q:Bool->Shared->Prop} (hx:IsTup s.heap x xs) (hy:IsTup s.heap y ys) (ix:IntsAre xs.toList ns) (iy:IntsAre ys.toList ms) (h:Q (HT.lexLt ns ms) s):wpAny (model prog w) A (keyLt' (tuples' b) (.ref x) (.ref y)) Q E s:=by
 obtain ⟨o,ho,hc,n,hd⟩:=id hx;obtain ⟨o2,ho2,hc2,n2,hd2⟩:=id hy;refine PySem.W.kat_lt ho hd ho2 hd2 (qJ3 ix iy ?_ h);simp
theorem qT2 {rs:List Addr} {ts:List (List Int)} {Q:SortKind->Shared->Prop} (h:Paired (fun (r:Addr) (t:List Int)=>∃ xs:Array Value,IsTup s.heap r xs/\IntsAre xs.toList t) rs ts) (hne:∀ t ∈ ts,t ≠ []) (h2:2<=rs.length)
  (q:Q (tuples' true) s):wpAny (model prog w) A (keyKind' (rs.map C8).toArray) Q E s:=by
 have tu:∃ fs,PySem.W.KatTups s.heap (rs.map C8) fs/\fs.length=rs.length/\∀ v ∈ fs,∃ n t,v=.int n t:=by
  clear h2
  induction h with
  | nil=>exact ⟨[],trivial,rfl,fun _ z=>nomatch z⟩
  | @cons r t l1 l2 a _ ih=>
   obtain ⟨fs,k1,k2,k3⟩:=ih fun t ht=>hne t (A5 _ ht);obtain ⟨xs,⟨o,ho,hc,n,hd⟩,ia⟩:=a;have ht:t ≠ []:=hne t (by simp)
   obtain ⟨xs⟩:=xs;cases ia with
   | nil=>exact absurd rfl ht
   | cons x tk rest=>
    refine ⟨.int x tk::fs,.cons ho hc hd rfl k1,by simp [k2],fun v hv=>?_⟩
    rcases B6.mp hv with e | e
    ·exact ⟨x,tk,e⟩
    ·exact k3 v e
 obtain ⟨fs,k1,k2,k3⟩:=tu;refine PySem.W.kat_kind (T:=.type "int") k1 (by omega) (fun v hv=>?_) rfl ?_
 ·obtain ⟨n,t,rfl⟩:=k3 v hv;exact .now
 ·exact q
end
end L2.G
namespace L2.G
open PySem PySem.Spec PyProof.Rows
section
variable {X:Cx}
abbrev qQ8 (H:Hp) (rs:List Addr) (ts:List (List Int)):Prop:=Paired (fun (r:Addr) (t:List Int)=>H r=some (.tup (t.map V.int))) rs ts
theorem qOY {H:Hp}:∀ {rs:List Addr} {ts:List (List Int)},qQ8 H rs ts->∀ {r:Addr},r ∈ rs->∃ t,t ∈ ts/\H r=some (.tup (t.map V.int))
 | _,_,.nil,_,h=>nomatch h
 | _,_,.cons (b:=t) g T,r,h=>by
  rcases B6.mp h with e | e
  ·exact ⟨t,by simp,by rw [e];exact g⟩
  ·obtain ⟨t,h1,h2⟩:=qOY T e;exact ⟨t,A5 _ h1,h2⟩
end
end L2.G
namespace L2.G
open PySem PySem.Spec PyProof.Rows PySem.W
theorem perm_map_inv {α β:Type} {g:α->β} {a b:List β} (h:a.Perm b):∀ L:List α,b=L.map g->∃ L':List α,L'.Perm L/\a=L'.map g:=by
 induction h with
 | nil=>
  intro L e;exact ⟨[],by rw [List.map_eq_nil_iff.mp e.symm],rfl⟩
 | cons x _ ih=>
  intro L e;cases L with
  | nil=>cases e
  | cons y L=>
   rw [B9] at e
   injection e with e1 e2
   obtain ⟨L',p,e3⟩:=ih L e2;exact ⟨y::L',p.cons y,by rw [B9,e1,e3]⟩
 | swap x y l=>
  intro L e
  match L,e with
  | p::q::L,e=>
   rw [B9,B9] at e
   injection e with e1 e2
   injection e2 with e2 e3
   exact ⟨q::p::L,.swap p q L,by rw [B9,B9,e1,e2,e3]⟩
 | trans _ _ ih1 ih2=>
  intro L e;obtain ⟨L2,p2,e2⟩:=ih2 L e;obtain ⟨L1,p1,e1⟩:=ih1 L2 e2;exact ⟨L1,p1.trans p2,e1⟩
section
variable {X:Cx} {Ab:List (Addr × Obj)} {σ:St} {params:Arguments} {body:Expr} {scope:Scope} {p:Str} {fv:List Nat} {q:Str} {te:TE} {l f cc:Addr} {ctv:Value} {H0:Hp} {xs:List V} {ks:List (List Int)} {Q:VK}
theorem qVR {A:Around} {s:Shared} {H:Hp} {it S:Addr} {i:Nat} {x:V} {k:List Int} {u:Value} (rm:Room 0 A) (hA:A.frames=some X.stack) (S':LmScope X scope p fv) (hbind:∀ (cl:List (Str × Addr)) (pm cd ct u:Value),bindArgs (P7 "<lambda>" q params body scope cl pm cd ct) ⟨[u],[]⟩=pure [(p,u)])
  (he:∀ z,PE (lmCx X scope p fv q z) body te) (KA:KeyAt X σ fv te KR1 H0 xs ks) (hf:H0 f=some (LamF X q params body scope cc ctv f)) (hcc:H0 cc=some (.tbl (.cod q)))
  (I:Inv X Ab σ H s) (sm:Sm0 H0 H) (hx:xs[i]?=some x) (hk:ks[i]?=some k) (rx:RelV x u) (fi:FpOk X Ab H it) (fS:FpOk X Ab H S) {oi oS:Obj} (gi:s.heap.get? it=some oi) (gS:s.heap.get? S=some oS) {Q':Value->Shared->Prop} {E:Value->Shared->Prop}
  (h:∀ v y H' s',Inv X Ab σ H' s'->Sm0 H H'->RelV y v->KR1 H' y k->FpOk X Ab H' it->FpOk X Ab H' S->s'.heap.get? it=some oi->s'.heap.get? S=some oS->Q' v s'):wpAny (model X.prog X.w) A (call (.ref f) [u]) Q' E s:=by
 have gf:s.heap.get? f=some (lamO X q params body scope cc ctv):=(show ObjOk X.prog X.w H s.heap f (LamF X q params body scope cc ctv f) from I.hok f _ (sm _ _ hf)).1;refine wpAny_call (codeAny_mono (qPO rm I S' hA gf (sm _ _ hcc) rx hbind he (KA.key i x k hx hk H sm)) fun r s' ⟨v,y,H',e,I',ry,⟨sm',kr⟩,un⟩=>?_);subst e;exact h v y H' s' I' sm' ry kr (fi.to (un.free it oi gi fi.1 (by simp))) (fS.to (un.free S oS gS fS.1 (by simp))) (un.keep it oi gi fi.1 (I.fpStk fi) (by simp)) (un.keep S oS gS fS.1 (I.fpStk fS) (by simp))
theorem Inv.off {H:Hp} {s:Shared} {b:Addr} {h':Heap} (I:Inv X Ab σ H s) (f:FpOk X Ab H b) (hk:∀ c o,c ≠ b->s.heap.get? c=some o->h'.get? c=some o):Inv X Ab σ H { s with heap:=h' }:=
 I.turned (t':=s.toks) (fun c o hc e=>hk c o hc e) f.1 f.2.1 f.2.2.2.1 f.2.2.2.2.1 f.2.2.2.2.2
def qaN (X:Cx) (Ab:List (Addr × Obj)) (σ:St) (H0:Hp) (ks:List (List Int)) (kS D:Addr) (oD:Obj) (j:Nat) (s:Shared):Prop:=
 ∃ (H:Hp) (rs:List Addr) (c:Nat),Inv X Ab σ H s/\Sm0 H0 H/\FpOk X Ab H kS/\FpOk X Ab H D/\s.heap.get? kS=some (seqObj "list" (rs.map C8).toArray c)/\s.heap.get? D=some oD/\qQ8 H rs (ks.take j)
theorem qQE {A:Around} {s:Shared} {us:List Value} {kS D:Addr} {e1:Nat} {P:Fin->Shared->Prop} {E:Value->Shared->Prop} (rm:Room 0 A) (hA:A.frames=some X.stack) (S':LmScope X scope p fv) (hbind:∀ (cl:List (Str × Addr)) (pm cd ct u:Value),bindArgs (P7 "<lambda>" q params body scope cl pm cd ct) ⟨[u],[]⟩=pure [(p,u)])
  (he:∀ z,PE (lmCx X scope p fv q z) body te) (KA:KeyAt X σ fv te KR1 H0 xs ks) (hf:H0 f=some (LamF X q params body scope cc ctv f)) (hcc:H0 cc=some (.tbl (.cod q))) (rv:Vals xs us) (hz:us.length<=63) (hne:∀ k ∈ ks,k ≠ []) (hkD:kS ≠ D)
  (h0:qaN X Ab σ H0 ks kS D (seqObj "list" #[] e1) 0 s)
  (h:∀ (H:Hp) (s':Shared) (zs:List (List Int × V)) (out:List Value) (n:Nat),Inv X Ab σ H s'->Sm0 H0 H->FpOk X Ab H D->zs.Perm (ks.zip xs)->zs.Pairwise (fun a b=>HT.lexLt b.1 a.1=false)->Vals (zs.map (·.2)) out->s'.heap.get? D=some (seqObj "list" out.toArray n)->P (.done (.ret .none)) s') :
  wpAny (model X.prog X.w) A (ksk_rest D (.ref f) false us.toArray e1 (.ref kS)) P E s:=by
 have lu:=rv.length;have lk:=KA.len;unfold ksk_rest;refine wpAny_bind (wpAny_rule ?_)
 first
  | rw [A15]
  | (rw [<- Y4];simp only [A04])
  | rw [<- Y4]
 refine wpAny_bind (ksk_fold (fun j s'=>qaN X Ab σ H0 ks kS D (seqObj "list" #[] e1) j s') us 0 s h0 (fun j u s' hu hK=>?_) fun s' hK=>?_)
 ·rw [L4] at hK ⊢;obtain ⟨H,rs,c,I,sm,fk,fD,gk,gD,T⟩:=hK;have hj:j<us.length:=(A4.mp hu).1;have hjx:j<xs.length:=by omega
  have hjk:j<ks.length:=by omega
  have hx:=A1 hjx;have hk:=A1 hjk;obtain ⟨u',hu',ru⟩:=rv.get hx;rw [hu] at hu';cases hu';have lT:rs.length=(ks.take j).length:=C7 T;rw [D1] at lT;refine wpAny_bind (wpAny_attempt (qVR rm hA S' hbind he KA hf hcc I sm hx hk ru fk fD gk gD fun v y H' s2 I2 sm2 ry ⟨r,ey,gr⟩ fk2 fD2 gk2 gD2=>?_));subst ey;cases ry;have ea:((rs.map C8).toArray).push (.ref r)=((rs++[r]).map C8).toArray:=by simp
  obtain ⟨c2,hc2⟩:∃ c2,(s2.heap.update kS (F2 (·.push (.ref r)))).get? kS=some (seqObj "list" ((rs++[r]).map C8).toArray c2):=⟨_,by rw [<- ea];exact get?_update_seq gk2 (·.push (.ref r))⟩
  try dsimp only
  refine wpAny_bind (listUpdate_at gk2 rfl ?_ (by rw [A8,A0,sizeLine_eq];omega) (G9 (A34 (A54 ..)) (by rw [A8,A0,sizeLine_eq];omega)))
  refine wpAny_pure ⟨rfl,H',rs++[r],c2,Inv.off I2 fk2 (fun b o hb e=>(C2 _ _ (G3 hb)).trans e),fun b o e=>sm2 b o (sm b o e),fk2,fD2,hc2,(C2 _ _ hkD).trans gD2,?_⟩;rw [C4,hk,C0];have T2:qQ8 H' rs (ks.take j):=Paired.mapP T fun _ _ z=>sm2 _ _ z;exact Z2 T2 gr
 ·rw [L4] at hK;obtain ⟨H,rs,c,I,sm,fk,fD,gk,gD,T⟩:=hK;rw [G0 (by omega)] at T
  have lr:rs.length=ks.length:=C7 T
  try dsimp only
  refine wpAny_bind (listItems_at gk rfl ?_);unfold ksk_end;dsimp only;simp only [E1,if_false]
  -- the triples
  have ez:((rs.map C8).toArray.zip us.toArray).toList=(rs.zip (xs.zip us)).map fun t=>((C8 t.1,t.2.2):Keyed):=by
   rw [A41];show (rs.map C8).zip us=_;have:∀ (rs:List Addr) (xs:List V) (us:List Value),rs.length=xs.length->xs.length=us.length->(rs.map C8).zip us=(rs.zip (xs.zip us)).map fun t=>((C8 t.1,t.2.2):Keyed):=by
    intro rs
    induction rs with
    | nil=>intro xs us _ _;rfl
    | cons r rs ih=>
     intro xs us h1 h2
     match xs,us,h1,h2 with
     | x::xs,u::us,h1,h2=>
      rw [B9,F9,F9,F9,B9,ih xs us (by simpa using h1) (by simpa using h2)]
     | [],_,h1,_=>simp at h1
     | _::_,[],_,h2=>simp at h2
   exact this rs xs us (by omega) (by omega)
  have tz:(rs.zip (xs.zip us)).map (fun t=>(keyH H (.ref t.1),t.2.1))=ks.zip xs:=by
   have:∀ (rs:List Addr) (ks:List (List Int)) (xs:List V) (us:List Value),qQ8 H rs ks->rs.length=xs.length->xs.length=us.length->(rs.zip (xs.zip us)).map (fun t=>(keyH H (.ref t.1),t.2.1))=ks.zip xs:=by
    intro rs ks xs us T
    induction T generalizing xs us with
    | nil=>intro _ _;rfl
    | @cons r k l1 l2 g _ ih=>
     intro h1 h2
     match xs,us,h1,h2 with
     | x::xs,u::us,h1,h2=>
      rw [F9,F9,F9,B9,qJ2 g,ih xs us (by simpa using h1) (by simpa using h2)]
     | [],_,h1,_=>simp at h1
     | _::_,[],_,h2=>simp at h2
   exact this rs ks xs us T (by omega) (by omega)
  have relT:∀ t ∈ rs.zip (xs.zip us),RelV t.2.1 t.2.2:=by
   intro t ht;obtain ⟨i,hi⟩:=G2 ht;rw [O2] at hi;have h2:=hi.2;rw [O2] at h2;obtain ⟨u,hu,ru⟩:=rv.get h2.1;rw [hu] at h2;have:=C6 h2.2;rw [<- this];exact ru
  have memT:∀ t ∈ rs.zip (xs.zip us),∃ k,k ∈ ks/\H t.1=some (.tup (k.map V.int)):=fun t ht=>qOY T (Y1 ht).1
  letI:NM:=tupNM H ks
  have fin:∀ arr:Array Keyed,arr.Perm ((rs.map C8).toArray.zip us.toArray)->gSortedTo arr arr.size->wpAny (model X.prog X.w) A (ksk_tail D false e1 (.ref kS) (SortSt.mk' (tuples' true) arr #[] 7 none)) P E s'->True:=fun _ _ _ _=>trivial;have tail:∀ (st:SortSt),(arrOf st).Perm ((rs.map C8).toArray.zip us.toArray)->gSortedTo (arrOf st) (arrOf st).size->failedOf st=none->wpAny (model X.prog X.w) A (ksk_tail D false e1 (.ref kS) st) P E s':=by
   intro st pm so fl;obtain ⟨L',p1,p2⟩:=perm_map_inv (W8.mp pm) (rs.zip (xs.zip us)) ez;unfold ksk_tail;dsimp only;refine wpAny_bind (listUpdate_at gk rfl ?_ (by rw [A8,A0,sizeLine_eq];omega) (D3 _))
   refine wpAny_bind (wpAny_letGo ?_);have gD2:(s'.heap.update kS (F2 fun _=>(#[]:Array Value))).get? D=some (seqObj "list" #[] e1):=(C2 _ _ hkD).trans gD;have I2:=Inv.off (h':=s'.heap.update kS (F2 fun _=>(#[]:Array Value))) I fk (fun b o hb e=>(C2 _ _ (G3 hb)).trans e);refine wpAny_bind (seqEpoch_at gD2 rfl ?_);have la:(arrOf st).size=us.length:=by
    have:=pm.size_eq;rw [this];simp;omega
   refine wpAny_bind (listUpdate_at gD2 rfl ?_ (D3 _) (by simp only [E1,if_false];rw [y9,la,sizeLine_eq];omega))
   simp only [E1,if_false];rw [fl];simp only [bne_self_eq_false,E1,if_false];obtain ⟨n2,hn2⟩:∃ n2,((s'.heap.update kS (F2 fun _=>(#[]:Array Value))).update D (F2 fun _=>(arrOf st).map (·.2))).get? D=some (seqObj "list" ((arrOf st).map (·.2)) n2):=⟨_,get?_update_seq gD2 fun _=>(arrOf st).map (·.2)⟩;have eo:(arrOf st).map (·.2)=(L'.map (·.2.2)).toArray:=by
    apply A42.mp;rw [A43,p2,P5]
    rfl
   rw [show seqObj "list" ((arrOf st).map (·.2)) n2=seqObj "list" (L'.map (·.2.2)).toArray n2 by rw [eo]] at hn2
   have I3:=Inv.off (s:={ s' with heap:=s'.heap.update kS (F2 fun _=>(#[]:Array Value)) }) (h':=(s'.heap.update kS (F2 fun _=>(#[]:Array Value))).update D (F2 fun _=>(arrOf st).map (·.2))) I2 fD (fun b o hb e=>(C2 _ _ (G3 hb)).trans e);refine wpAny_pure (h H _ (L'.map fun t=>(keyH H (.ref t.1),t.2.1)) (L'.map (·.2.2)) n2 I3 sm fD ?_ ?_ ?_ hn2)
   ·rw [<- tz];exact p1.map _
   ·rw [G4];have so2:(arrOf st).toList.Pairwise (fun a b=>gkv a<=gkv b):=by
     rw [F3];intro i j hi hj hij;have hi2:i<(arrOf st).size:=by simpa using hi
     have hj2:j<(arrOf st).size:=by simpa using hj
     have a:=so i j (Q8 hij) hj2;rw [qR3 hi2,qR3 hj2] at a;rw [Q5,Q5];exact a
    rw [p2,G4] at so2;refine so2.imp_of_mem fun {a b} ha hb le=>?_;obtain ⟨k1,m1,g1⟩:=memT a (p1.mem_iff.mp ha);obtain ⟨k2,m2,g2⟩:=memT b (p1.mem_iff.mp hb);have le:qHQ ks (keyH H (.ref a.1))<=qHQ ks (keyH H (.ref b.1)):=le;rw [qJ2 g1,qJ2 g2] at le ⊢;dsimp only;rw [<- qPD m2 m1];exact decide_eq_false (by omega)
   ·have:∀ L:List (Addr × V × Value),(∀ t ∈ L,RelV t.2.1 t.2.2)->Vals ((L.map fun t=>(keyH H (.ref t.1),t.2.1)).map (·.2)) (L.map (·.2.2)):=by
     intro L
     induction L with
     | nil=>intro _;exact .nil
     | cons t L ih=>intro hL;exact .cons (hL t (by simp)) (ih fun t ht=>hL t (A5 _ ht))
    exact this L' fun t ht=>relT t (p1.mem_iff.mp ht)
  by_cases few:us.toArray.size<2
  ·simp only [if_pos few];refine wpAny_bind (wpAny_pure ?_);rw [t7];refine wpAny_bind (wpAny_pure (tail _ (.refl _) (fun i j hij hj=>?_) rfl));have sz:(arrOf (SortSt.mk' general' ((rs.map C8).toArray.zip us.toArray) #[] 7 none)).size<=1:=by
    show ((rs.map C8).toArray.zip us.toArray).size<=1;rw [X2];omega
   have hj':j<(arrOf (SortSt.mk' general' ((rs.map C8).toArray.zip us.toArray) #[] 7 none)).size:=hj;have ij:i=j:=by omega
   rw [ij];exact E6 _
  ·simp only [if_neg few];rw [A8] at few;have tat:∀ (r:Addr) (t:List Int),H r=some (.tup (t.map V.int))->∃ ys:Array Value,IsTup s'.heap r ys/\IntsAre ys.toList t:=by
    intro r t g;obtain ⟨its,r1,pt,_⟩:=I.tuple (SqT.of g);exact ⟨its.toArray,pt,qR1 r1⟩
   have lt_ok:LtOk X.prog X.w A s' (tuples' true):=by
    refine ⟨fun {x y Q E} hx hy h=>?_⟩;obtain ⟨r1,t1,rfl,g1,m1⟩:=hx;obtain ⟨r2,t2,rfl,g2,m2⟩:=hy;obtain ⟨ya,i1,j1⟩:=tat r1 t1 g1;obtain ⟨yb,i2,j2⟩:=tat r2 t2 g2;refine qQV i1 i2 j1 j2 ?_;have e1:NM.nm (C8 r1)=qHQ ks t1:=by show qHQ ks (keyH H (.ref r1))=_;rw [qJ2 g1]
    have e2:NM.nm (C8 r2)=qHQ ks t2:=by show qHQ ks (keyH H (.ref r2))=_;rw [qJ2 g2]
    rw [e1,e2,qPD m1 m2] at h;exact h
   have ik:qC8 ((rs.map C8).toArray.zip us.toArray):=fun pq hp=>by
    rw [ez] at hp;obtain ⟨t,ht,rfl⟩:=E2.mp hp;obtain ⟨k,mk,g⟩:=memT t ht;exact ⟨t.1,k,rfl,g,mk⟩
   refine wpAny_bind (qT2 (rs:=rs) (ts:=ks) (Paired.mapP T fun r t g=>tat r t g) hne (by omega) ?_)
   refine wpAny_bind (wpAny_mono (gwpS_runs (κ0:=tuples' true) (a₀:=(rs.map C8).toArray.zip us.toArray) (Q:=fun _ st2=>gSG (tuples' true) ((rs.map C8).toArray.zip us.toArray) st2/\gSortedTo (arrOf st2) ((rs.map C8).toArray.zip us.toArray).size) (by rw [X2,A8,A8];omega) ik ⟨.refl _,rfl,rfl⟩ rfl fun st2 g u=>⟨g,u⟩) ?_ fun _ _ x=>x)
   rintro ⟨_,st2⟩ s2 ⟨es,g,u⟩;cases (show s2=_ from es);exact tail st2 g.perm (by rw [g.perm.size_eq];exact u) g.failed
end
end L2.G
namespace L2.G
open PySem PySem.Spec PyProof.Rows PySem.W
section
variable {X:Cx} {Ab:List (Addr × Obj)} {σ:St} {params:Arguments} {body:Expr} {scope:Scope} {p:Str} {fv:List Nat} {q:Str} {te:TE} {l f cc:Addr} {ctv:Value} {H0:Hp} {xs:List V} {ks:List (List Int)} {Q:VK}
theorem qJY (l:Addr) (v:Value):argsOk "sorted" ⟨[.ref l],[(E4 "key",v)]⟩:=by unfold argsOk;kernel_rfl
theorem sortk_call {s:Shared} {H:Hp} (rm:Room 2 X.A) (hA:X.A.in1.in1.frames=some X.stack) (S':LmScope X scope p fv) (hbind:∀ (cl:List (Str × Addr)) (pm cd ct u:Value),bindArgs (P7 "<lambda>" q params body scope cl pm cd ct) ⟨[u],[]⟩=pure [(p,u)])
  (he:∀ z,PE (lmCx X scope p fv q z) body te) (KA:KeyAt X σ fv te KR1 H xs ks) (hf:H f=some (LamF X q params body scope cc ctv f)) (hcc:H cc=some (.tbl (.cod q))) (hl:SqT X.K H l xs\/SqL X.K H l xs) (I:Inv X Ab σ H s) (hz:xs.length<=63) (hne:∀ k ∈ ks,k ≠ [])
  (hQ:∀ (H':Hp) (D:Addr) (zs:List (List Int × V)),Sm0 H H'->H' D=none->zs.Perm (ks.zip xs)->zs.Pairwise (fun a b=>HT.lexLt b.1 a.1=false)->Q (.ref D) (upd H' D (.lst (zs.map (·.2))))) :
  wpAny (model X.prog X.w) X.A (call (.builtin "sorted") [.ref l] [(E4 "key",.ref f)]) (EP X Ab σ Q) X.xe s:=by
 refine call_function_entry_kw kind_sorted plain_sorted entry_sorted (qJY _ _) ?_;unfold Builtin.«sorted»;refine wpAny_bind (m:=checkCount "sorted" 1 1 _) (wpAny_pure ?_);have src:∃ (its:List Value),Vals xs its/\∀ (P:List Value->Shared->Prop),(∀ h',(∀ b o,s.heap.get? b=some o->h'.get? b=some o)->P its { s with heap:=h' })->wpAny (model X.prog X.w) X.A.in1 (collect (.ref l)) P X.xe s:=by
  rcases hl with hl | hl
  ·obtain ⟨its,rv,⟨o,ho,hc',n,hd⟩,hz2⟩:=I.tuple hl;refine ⟨its,rv,fun P h=>wpAny_collect_seq l (.inr rfl) ho hc' hd (fun h' hk=>h h' hk) ?_⟩;rw [A8,<- rv.length,sizeLine_eq];omega
  ·obtain ⟨its,rv,pl,hz2⟩:=I.list hl;obtain ⟨o,ho,hc',n,hd⟩:=pl.isList;refine ⟨its,rv,fun P h=>wpAny_collect_seq l (.inl rfl) ho hc' hd (fun h' hk=>h h' hk) ?_⟩;rw [A8,<- rv.length,sizeLine_eq];omega
 obtain ⟨its,rv,col⟩:=src;have li:=rv.length;refine wpAny_bind (col _ fun h1 k1=>?_);have I1:Inv X Ab σ H { s with heap:=h1 }:=I.kept (t':=s.toks) k1;refine wpAny_bind (wpAny_newList ?_ (by show its.length<=_;rw [sizeLine_eq];omega))
 have fD0:FpOk X Ab H h1.objs.size:=I1.fpOk (B0 _) (I1.hok.fresh (B0 _));have szD:=I1.sz;have gD:(h1.push (seqObj "list" its.toArray 0)).get? h1.objs.size=some (seqObj "list" its.toArray 0):=B5 _ rfl;have I2:Inv X Ab σ H { s with heap:=h1.push (seqObj "list" its.toArray 0) }:=I1.kept (t':=s.toks) fun b o e=>A2 _ e;have ltD:h1.objs.size<(h1.push (seqObj "list" its.toArray 0)).objs.size:=B7 gD;show wpAny _ _ _ _ _ { s with heap:=h1.push (seqObj "list" its.toArray 0) };show wpAny _ _ (holding [.ref h1.objs.size] (call (.builtin "list.sort") [.ref h1.objs.size] [(E4 "key",.ref f)]) >>= _) _ _ _;generalize h1.push (seqObj "list" its.toArray 0)=h2 at gD I2 ltD ⊢;have szD:X.s₀.heap.objs.size<=h1.objs.size:=szD;generalize h1.objs.size=D at fD0 szD gD ltD ⊢;refine wpAny_bind (wpAny_holding (wpAny_call_entry_kw slot_list_sort ⟨_,gD,rfl⟩ entry_list_sort ?_ (ksk_l1 _ _)));show wpAny (model X.prog X.w) X.A.in1.in1 (Builtin.«list.sort» ⟨[.ref D],[(E4 "key",.ref f)]⟩) _ _ _;rw [ksk_t1];unfold ksk_tree;refine wpAny_bind (listItems_at gD rfl ?_);refine wpAny_bind (listUpdate_at gD rfl ?_ (by rw [A8,sizeLine_eq];omega) (D3 _))
 obtain ⟨e1,ho1⟩:∃ e1,(h2.update D (F2 fun _=>(#[]:Array Value))).get? D=some (seqObj "list" #[] e1):=⟨_,get?_update_seq gD fun _=>#[]⟩;have I3:=Inv.off (h':=h2.update D (F2 fun _=>(#[]:Array Value))) I2 fD0 (fun b o hb e=>(C2 _ _ (G3 hb)).trans e);have ltD3:D<(h2.update D (F2 fun _=>(#[]:Array Value))).objs.size:=B7 ho1;refine wpAny_bind (seqEpoch_at ho1 rfl ?_);generalize h2.update D (F2 fun _=>(#[]:Array Value))=h3 at ho1 I3 ltD3 ⊢;refine wpAny_bind (wpAny_newTuple ?_ (by show its.length<=_;rw [sizeLine_eq];omega))
 refine wpAny_bind (wpAny_newList ?_ (D3 _));refine wpAny_holding ?_;have hkS:(h3.push (seqObj "tuple" its.toArray 0)).objs.size=h3.objs.size+1:=L0 ..;have I4:Inv X Ab σ H { s with heap:=(h3.push (seqObj "tuple" its.toArray 0)).push (seqObj "list" #[] 0) }:=I3.kept (t':=s.toks) fun b o e=>A2 _ (A2 _ e);have fk:FpOk X Ab H (h3.push (seqObj "tuple" its.toArray 0)).objs.size:=by rw [hkS];exact I3.fpOk (X4 _) (I3.hok.fresh (X4 _))
 refine qQE (kS:=(h3.push (seqObj "tuple" its.toArray 0)).objs.size) (D:=D) (rm.in1.in1) hA S' hbind he KA hf hcc rv (by omega) hne (by rw [hkS];exact S9 (O8 ltD3)) ⟨H,[],0,I4,fun _ _ e=>e,fk,fD0,B5 _ rfl,A2 _ (A2 _ ho1),?_⟩ fun H' s' zs out n I5 sm fD5 pm so rvo gD5=>⟨_,rfl,?_⟩
 ·rw [A60];exact .nil
 ·refine wpAny_pure ⟨_,rfl,.ref D,upd H' D (.lst (zs.map (·.2))),I5.track fD5.1 szD fD5.2.1 fD5.2.2.2.2.1 fD5.2.2.2.2.2 ⟨?_,out,n,rvo,gD5⟩,rfl,hQ H' D zs sm fD5.1 pm so⟩;have:=pm.length_eq;rw [A0,this,e7,sizeLine_eq];omega
end
end L2.G
namespace L2
open PySem PySem.Spec PyProof.Rows
section
variable {X:Cx}
theorem SqT.sm {K:PySem.W.Frag} {H H':Hp} {a:Addr} {xs:List V} (h:SqT K H a xs) (sm:Sm0 H H'):SqT K H' a xs:=by
 rcases h with (h | ⟨o,h⟩) | h
 ·exact .inl (.inl (sm _ _ h))
 ·exact .inl (.inr ⟨o,sm _ _ h⟩)
 ·exact .inr h
theorem SqL.sm {K:PySem.W.Frag} {H H':Hp} {a:Addr} {xs:List V} (h:SqL K H a xs) (sm:Sm0 H H'):SqL K H' a xs:=by
 rcases h with (h | ⟨o,h⟩) | h
 ·exact .inl (.inl (sm _ _ h))
 ·exact .inl (.inr ⟨o,sm _ _ h⟩)
 ·exact .inr h
def qZ1 (P:Addr) (K:PySem.W.Frag) (q:Str) (fv:List Nat) (te:TE) (ta:TA):TE:=fun σ H Q=>ta σ H fun vs H1=>H1 P=some (.tbl (.tab q))/\
 ∃ (l:Addr) (xs:List V) (ks:List (List Int)),vs=[.ref l]/\(SqT K H1 l xs\/SqL K H1 l xs)/\xs.length<=63/\ks.length=xs.length/\(∀ k ∈ ks,k ≠ [])/\(∀ (i:Nat) (x:V) (k:List Int),xs[i]?=some x->ks[i]?=some k->∀ Hc,Sm0 H1 Hc->te (qFQ fv σ x) Hc fun y H'=>Sm0 Hc H'/\KR1 H' y k)/\
  ∀ (H':Hp) (D:Addr) (zs:List (List Int × V)),Sm0 H1 H'->H' D=none->zs.Perm (ks.zip xs)->zs.Pairwise (fun a b=>HT.lexLt b.1 a.1=false)->Q (.ref D) (upd H' D (.lst (zs.map (·.2))))
theorem qVB {e:Expr} {ta:TA} {np pos kpos lpos:Pos} {params:Arguments} {body:Expr} {scope:Scope} {c P:Addr} {q:Str} {p:Str} {fv:List Nat} {te:TE}
  (rm:Room 2 X.A) (hg:Gl X "sorted") (hm:X.mg "sorted" = none) (hv:bootBuiltins "sorted" = some (.builtin "sorted")) (hb:BM X.mg X.base) (hcode:X.env.code=.ref c) (hd:hdIn X.K c P=true) (hq:X.env.qual ++ "<lambda>" = q)
  (S:LmScope X scope p fv) (hdef:defaultsOf params X.env=([],[])) (hbind:∀ (cl:List (Str × Addr)) (pm cd ct u:Value),bindArgs (P7 "<lambda>" q params body scope cl pm cd ct) ⟨[u],[]⟩=pure [(p,u)])
  (ha:PA X [e] ta) (he:∀ z,PE (lmCx X scope p fv q z) body te) (hs:starEach [e] X.env=[(false,eval e X.env)]:=by rfl) :
  PE X (.Call (.Name "sorted" np) [e] [⟨some "key",.Lambda params body scope lpos,kpos⟩] pos) (qZ1 P X.K q fv te ta):=by
 intro Ab s σ H Q I h;refine wpAny_Call_Name_kw (qGD I hg hm hv ?_ (by decide) (by decide))
 refine m5 (thn (ha pos Ab s σ H _ I h) fun us s1 ⟨vs,H1,I1,r1,q1⟩=>?_) (by rw [hs];rfl) (by rw [hs];rfl)
 obtain ⟨hP,l,xs,ks,rfl,hl,hz,lk,hne,hk,q2⟩:=q1;obtain ⟨u,rfl,rx⟩:=qEO r1;cases rx;have C:=qNC (c:=c) (P:=P) I1.ok.mod.kin hd;have pl:=qWR (X:=X) (pos:=lpos) (body:=body) hb hcode C hq S hdef;refine thn (qS8 (kpos:=kpos) (nm:=some "key") pl qWP pos Ab s1 σ H1 (fun zs H2=>∃ f cc ctv,zs=[.ref f]/\Sm0 H1 H2/\H2 f=some (LamF X q params body scope cc ctv f)/\H2 cc=some (.tbl (.cod q))) I1 ⟨hP,fun f cc ctv H' sm h0 hf hcc=>⟨f,cc,ctv,rfl,sm,hf,hcc⟩⟩) fun ws s2 ⟨zs,H2,I2,rz,f,cc,ctv,ez,sm,hf,hcc⟩=>?_;subst ez;obtain ⟨u2,rfl,r2⟩:=qEO rz;cases r2;have hA:X.A.in1.in1.frames=some X.stack:=I2.ok.frames;exact G.sortk_call (H:=H2) rm hA S hbind he ⟨lk,fun i x k hx hk' Hc smc=>hk i x k hx hk' Hc fun b o e=>smc b o (sm b o e)⟩ hf hcc (hl.imp (fun z=>z.sm sm) fun z=>z.sm sm) I2 hz hne
  fun H' D zs smc a b c=>q2 H' D zs (fun b o e=>smc b o (sm b o e)) a b c
end
end L2
namespace L2
open PySem PySem.Spec PyProof.Rows
structure Clb (P:Program) (w:World) (K:PySem.W.Frag) (mg:Str->Option Value) (base:Heap) (n:Nat) (f:Addr) (fd:FuncData) (x:Str) (ps:List Str) (sp:Sp):Prop where
 G:FnOk P w K mg base CX0 n f fd ps sp
 b:Binds K fd ps []
 k:M9 K (.ref f)=true
 m:mg x=some (.ref f)
theorem qAZ {X:Cx} {n k:Nat} {f:Addr} {fd:FuncData} {x:Str} {ps:List Str} {sp:Sp} {e:Expr} {es:List Expr} {t:TA} {p pos:Pos} (C:Clb X.prog X.w X.K X.mg X.base n f fd x ps sp) (hr:Room k X.A) (hg:Gl X x)
  (ha:PA X (e::es) t) (hnk:n<=k:=by decide) (hdb:(x == ("__debug__" : Str))=false:=by decide) (he:starEach (e::es) X.env=(false,eval e X.env)::starEach es X.env:=by rfl) (hpl:(backTo pos (starEach es X.env)).any (·.1)=false:=by rfl) :
  PE X (.Call (.Name x p) (e::es) [] pos) (qZ8 sp [] E0 t):=qSI C.G (hr.mono hnk) hg C.m C.k C.b .nil qZQ ha hdb he hpl
end L2
namespace L2
open PySem PySem.Spec PyProof.Rows
section
variable {prog:Program} {w:World} {A:Around} {R:Result->Shared->Prop} {I:Addr} {fp wr:List Addr} {n:Nat} {P:Nat->Value->Prop} {St:Nat->Heap->Prop}
end
section
variable {X:Cx}
end
end L2
namespace L2
open PySem PySem.Spec PyProof.Rows
section
variable {X:Cx}
end
end L2
namespace L2
open PySem PySem.Spec PyProof.Rows
end L2
namespace L2.G
open PySem PySem.Spec PyProof.Rows PySem.W
theorem qVA {α:Type} (d:α) {L' L:List α} (p:L'.Perm L):∃ I:List Nat,I.Perm (F6 L.length)/\L'=I.map fun i=>(L[i]?).getD d:=by
 have e:L=(F6 L.length).map fun i=>(L[i]?).getD d:=Z4 fun i=>by
  by_cases hi:i<L.length
  ·rw [B1,X5 hi,A1 hi];show some L[i]=some ((L[i]?).getD d);rw [A1 hi]
   rfl
  ·rw [F5 (by omega),F5 (by rw [A0,W7];omega)]
 exact perm_map_inv p _ e
noncomputable def plc (us:List Value) (v:Value):Nat:=by classical exact us.findIdx fun u=>decide (u=v)
theorem qS7 {us:List Value} {i:Nat} {v:Value} (n:us.Nodup) (h:us[i]?=some v):plc us v=i:=by
 obtain ⟨hi,e⟩:=A4.mp h;unfold plc;refine (List.findIdx_eq hi).mpr ⟨by rw [e];exact decide_eq_true rfl,fun j hj=>decide_eq_false fun z=>?_⟩
 exact F3.mp n j i (by omega) hi hj (z.trans e.symm)
theorem qQM {α β:Type} {F:α->β->Prop} {l₁:List α} {l₂:List β} (h:Paired F l₁ l₂):∀ {i:Nat} {a:α},l₁[i]?=some a->∃ b,l₂[i]?=some b/\F a b:=by
 induction h with
 | nil=>intro i a e;simp at e
 | cons r _ ih=>
  intro i a e;cases i with
  | zero=>cases e;exact ⟨_,rfl,r⟩
  | succ i=>exact ih e
def StI (ks:List (List Int)) (xs:List V) (zs:List (List Int × V)):Prop:=∃ I:List Nat,I.Perm (F6 xs.length)/\I.Pairwise (fun i j=>HT.lexLt ((ks[i]?).getD []) ((ks[j]?).getD [])=true\/(ks[i]?).getD []=(ks[j]?).getD []/\i<=j)/\zs=I.map fun i=>((ks[i]?).getD [],(xs[i]?).getD .non)
def KR0 (_:Hp) (y:V) (k:List Int):Prop:=∃ n,y=.int n/\k=[n]
abbrev qWI (rs:List Value) (ks:List (List Int)):Prop:=Paired (fun v k=>∃ n t,v=J5 n t/\k=[n]) rs ks
theorem qMX:∀ {rs:List Value} {ks:List (List Int)},qWI rs ks->∀ {r:Value},r ∈ rs->∃ n t,r=J5 n t
 | _,_,.nil,_,h=>nomatch h
 | _,_,.cons ⟨n,t,e,_⟩ T,r,h=>by
  rcases B6.mp h with q | q
  ·exact ⟨n,t,q.trans e⟩
  ·exact qMX T q
theorem qMY:∀ {rs:List Value} {ks:List (List Int)},qWI rs ks->IntsAre rs (ks.map fun k=>k.headD 0)
 | _,_,.nil=>.nil
 | _,_,.cons ⟨n,t,e,f⟩ T=>by
  subst e f;exact .cons _ _ (qMY T)
theorem qXN {n:Int} {v:Value} (h:RelV (.int n) v):∃ t,v=.int n t:=h
theorem qQU {a b:Int} (h:a<=b):HT.lexLt [b] [a]=false:=by
 rw [HT.lexLt_cons]
 split
 ·exact lexLt_self []
 ·exact decide_eq_false (by omega)
section
variable {X:Cx} {Ab:List (Addr × Obj)} {σ:St} {params:Arguments} {body:Expr} {scope:Scope} {p:Str} {fv:List Nat} {q:Str} {te:TE} {l f cc:Addr} {ctv:Value} {H0:Hp} {xs:List V} {ks:List (List Int)} {Q:VK}
theorem qVQ {A:Around} {s:Shared} {H:Hp} {it S:Addr} {i:Nat} {x:V} {k:List Int} {u:Value} (rm:Room 0 A) (hA:A.frames=some X.stack) (S':LmScope X scope p fv) (hbind:∀ (cl:List (Str × Addr)) (pm cd ct u:Value),bindArgs (P7 "<lambda>" q params body scope cl pm cd ct) ⟨[u],[]⟩=pure [(p,u)])
  (he:∀ z,PE (lmCx X scope p fv q z) body te) (KA:KeyAt X σ fv te KR0 H0 xs ks) (hf:H0 f=some (LamF X q params body scope cc ctv f)) (hcc:H0 cc=some (.tbl (.cod q)))
  (I:Inv X Ab σ H s) (sm:Sm0 H0 H) (hx:xs[i]?=some x) (hk:ks[i]?=some k) (rx:RelV x u) (fi:FpOk X Ab H it) (fS:FpOk X Ab H S) {oi oS:Obj} (gi:s.heap.get? it=some oi) (gS:s.heap.get? S=some oS) {Q':Value->Shared->Prop} {E:Value->Shared->Prop}
  (h:∀ v y H' s',Inv X Ab σ H' s'->Sm0 H H'->RelV y v->KR0 H' y k->FpOk X Ab H' it->FpOk X Ab H' S->s'.heap.get? it=some oi->s'.heap.get? S=some oS->Q' v s'):wpAny (model X.prog X.w) A (call (.ref f) [u]) Q' E s:=by
 have gf:s.heap.get? f=some (lamO X q params body scope cc ctv):=(show ObjOk X.prog X.w H s.heap f (LamF X q params body scope cc ctv f) from I.hok f _ (sm _ _ hf)).1;refine wpAny_call (codeAny_mono (qPO rm I S' hA gf (sm _ _ hcc) rx hbind he (KA.key i x k hx hk H sm)) fun r s' ⟨v,y,H',e,I',ry,⟨sm',kr⟩,un⟩=>?_);subst e;exact h v y H' s' I' sm' ry kr (fi.to (un.free it oi gi fi.1 (by simp))) (fS.to (un.free S oS gS fS.1 (by simp))) (un.keep it oi gi fi.1 (I.fpStk fi) (by simp)) (un.keep S oS gS fS.1 (I.fpStk fS) (by simp))
def qXB (X:Cx) (Ab:List (Addr × Obj)) (σ:St) (H0:Hp) (ks:List (List Int)) (kS D:Addr) (oD:Obj) (j:Nat) (s:Shared):Prop:=
 ∃ (H:Hp) (rs:List Value) (c:Nat),Inv X Ab σ H s/\Sm0 H0 H/\FpOk X Ab H kS/\FpOk X Ab H D/\s.heap.get? kS=some (seqObj "list" rs.toArray c)/\s.heap.get? D=some oD/\qWI rs (ks.take j)
theorem qQF {A:Around} {s:Shared} {us:List Value} {kS D:Addr} {e1:Nat} {P:Fin->Shared->Prop} {E:Value->Shared->Prop} (rm:Room 0 A) (hA:A.frames=some X.stack) (S':LmScope X scope p fv) (hbind:∀ (cl:List (Str × Addr)) (pm cd ct u:Value),bindArgs (P7 "<lambda>" q params body scope cl pm cd ct) ⟨[u],[]⟩=pure [(p,u)])
  (he:∀ z,PE (lmCx X scope p fv q z) body te) (KA:KeyAt X σ fv te KR0 H0 xs ks) (hf:H0 f=some (LamF X q params body scope cc ctv f)) (hcc:H0 cc=some (.tbl (.cod q))) (rv:Vals xs us) (hz:us.length<=63) (hkD:kS ≠ D)
  (h0:qXB X Ab σ H0 ks kS D (seqObj "list" #[] e1) 0 s)
  (h:∀ (H:Hp) (s':Shared) (zs:List (List Int × V)) (out:List Value) (n:Nat),Inv X Ab σ H s'->Sm0 H0 H->FpOk X Ab H D->zs.Perm (ks.zip xs)->zs.Pairwise (fun a b=>HT.lexLt b.1 a.1=false)->(us.Nodup->StI ks xs zs)->Vals (zs.map (·.2)) out->s'.heap.get? D=some (seqObj "list" out.toArray n)->P (.done (.ret .none)) s') :
  wpAny (model X.prog X.w) A (ksk_rest D (.ref f) false us.toArray e1 (.ref kS)) P E s:=by
 have lu:=rv.length;have lk:=KA.len;unfold ksk_rest;refine wpAny_bind (wpAny_rule ?_)
 first
  | rw [A15]
  | (rw [<- Y4];simp only [A04])
  | rw [<- Y4]
 refine wpAny_bind (ksk_fold (fun j s'=>qXB X Ab σ H0 ks kS D (seqObj "list" #[] e1) j s') us 0 s h0 (fun j u s' hu hK=>?_) fun s' hK=>?_)
 ·rw [L4] at hK ⊢;obtain ⟨H,rs,c,I,sm,fk,fD,gk,gD,T⟩:=hK;have hj:j<us.length:=(A4.mp hu).1;have hjx:j<xs.length:=by omega
  have hjk:j<ks.length:=by omega
  have hx:=A1 hjx;have hk:=A1 hjk;obtain ⟨u',hu',ru⟩:=rv.get hx;rw [hu] at hu';cases hu';have lT:rs.length=(ks.take j).length:=C7 T;rw [D1] at lT;refine wpAny_bind (wpAny_attempt (qVQ rm hA S' hbind he KA hf hcc I sm hx hk ru fk fD gk gD fun v y H' s2 I2 sm2 ry ⟨r,ey,gr⟩ fk2 fD2 gk2 gD2=>?_));subst ey;obtain ⟨tg,rfl⟩:=qXN ry;have ea:(rs.toArray).push (J5 r tg)=(rs++[J5 r tg]).toArray:=by simp
  obtain ⟨c2,hc2⟩:∃ c2,(s2.heap.update kS (F2 (·.push (J5 r tg)))).get? kS=some (seqObj "list" (rs++[J5 r tg]).toArray c2):=⟨_,by rw [<- ea];exact get?_update_seq gk2 (·.push (J5 r tg))⟩
  try dsimp only
  refine wpAny_bind (listUpdate_at gk2 rfl ?_ (by rw [A8,sizeLine_eq];omega) (G9 (A34 (A54 ..)) (by rw [A8,sizeLine_eq];omega)))
  refine wpAny_pure ⟨rfl,H',rs++[.int r tg],c2,Inv.off I2 fk2 (fun b o hb e=>(C2 _ _ (G3 hb)).trans e),fun b o e=>sm2 b o (sm b o e),fk2,fD2,hc2,(C2 _ _ hkD).trans gD2,?_⟩;rw [C4,hk,C0];exact Z2 T ⟨r,tg,rfl,gr⟩
 ·rw [L4] at hK;obtain ⟨H,rs,c,I,sm,fk,fD,gk,gD,T⟩:=hK;rw [G0 (by omega)] at T
  have lr:rs.length=ks.length:=C7 T
  try dsimp only
  refine wpAny_bind (listItems_at gk rfl ?_);unfold ksk_end;dsimp only;simp only [E1,if_false]
  -- the triples
  have ez:(rs.toArray.zip us.toArray).toList=(rs.zip (xs.zip us)).map fun t=>((t.1,t.2.2):Keyed):=by
   rw [A41];show rs.zip us=_;have:∀ (rs:List Value) (xs:List V) (us:List Value),rs.length=xs.length->xs.length=us.length->rs.zip us=(rs.zip (xs.zip us)).map fun t=>((t.1,t.2.2):Keyed):=by
    intro rs
    induction rs with
    | nil=>intro xs us _ _;rfl
    | cons r rs ih=>
     intro xs us h1 h2
     match xs,us,h1,h2 with
     | x::xs,u::us,h1,h2=>
      rw [F9,F9,F9,B9,ih xs us (by simpa using h1) (by simpa using h2)]
     | [],_,h1,_=>simp at h1
     | _::_,[],_,h2=>simp at h2
   exact this rs xs us (by omega) (by omega)
  have tz:(rs.zip (xs.zip us)).map (fun t=>([numOf t.1],t.2.1))=ks.zip xs:=by
   have:∀ (rs:List Value) (ks:List (List Int)) (xs:List V) (us:List Value),qWI rs ks->rs.length=xs.length->xs.length=us.length->(rs.zip (xs.zip us)).map (fun t=>([numOf t.1],t.2.1))=ks.zip xs:=by
    intro rs ks xs us T
    induction T generalizing xs us with
    | nil=>intro _ _;rfl
    | @cons r k l1 l2 g _ ih=>
     intro h1 h2
     match xs,us,h1,h2 with
     | x::xs,u::us,h1,h2=>
      obtain ⟨n,t,e1,e2⟩:=g;subst e1 e2;rw [F9,F9,F9,B9,show numOf (J5 n t)=n from rfl,ih xs us (by simpa using h1) (by simpa using h2)]
     | [],_,h1,_=>simp at h1
     | _::_,[],_,h2=>simp at h2
   exact this rs ks xs us T (by omega) (by omega)
  have relT:∀ t ∈ rs.zip (xs.zip us),RelV t.2.1 t.2.2:=by
   intro t ht;obtain ⟨i,hi⟩:=G2 ht;rw [O2] at hi;have h2:=hi.2;rw [O2] at h2;obtain ⟨u,hu,ru⟩:=rv.get h2.1;rw [hu] at h2;have:=C6 h2.2;rw [<- this];exact ru
  have memT:∀ t ∈ rs.zip (xs.zip us),∃ n tg,t.1=J5 n tg:=fun t ht=>qMX T (Y1 ht).1
  letI:NM:=⟨numOf,fun v=>∃ n t,v=.int n t⟩
  have fin:∀ arr:Array Keyed,arr.Perm (rs.toArray.zip us.toArray)->gSortedTo arr arr.size->wpAny (model X.prog X.w) A (ksk_tail D false e1 (.ref kS) (SortSt.mk' oneType' arr #[] 7 none)) P E s'->True:=fun _ _ _ _=>trivial;have tail:∀ (st:SortSt),(arrOf st).Perm (rs.toArray.zip us.toArray)->gSortedTo (arrOf st) (arrOf st).size->(us.Nodup->qEX (fun p=>(plc us p.2:Int)) (arrOf st) (arrOf st).size)->failedOf st=none->wpAny (model X.prog X.w) A (ksk_tail D false e1 (.ref kS) st) P E s':=by
   intro st pm so soX fl;obtain ⟨L',p1,p2⟩:=perm_map_inv (W8.mp pm) (rs.zip (xs.zip us)) ez;unfold ksk_tail;dsimp only;refine wpAny_bind (listUpdate_at gk rfl ?_ (by rw [A8,sizeLine_eq];omega) (D3 _))
   refine wpAny_bind (wpAny_letGo ?_);have gD2:(s'.heap.update kS (F2 fun _=>(#[]:Array Value))).get? D=some (seqObj "list" #[] e1):=(C2 _ _ hkD).trans gD;have I2:=Inv.off (h':=s'.heap.update kS (F2 fun _=>(#[]:Array Value))) I fk (fun b o hb e=>(C2 _ _ (G3 hb)).trans e);refine wpAny_bind (seqEpoch_at gD2 rfl ?_);have la:(arrOf st).size=us.length:=by
    have:=pm.size_eq;rw [this];simp;omega
   refine wpAny_bind (listUpdate_at gD2 rfl ?_ (D3 _) (by simp only [E1,if_false];rw [y9,la,sizeLine_eq];omega))
   simp only [E1,if_false];rw [fl];simp only [bne_self_eq_false,E1,if_false];obtain ⟨n2,hn2⟩:∃ n2,((s'.heap.update kS (F2 fun _=>(#[]:Array Value))).update D (F2 fun _=>(arrOf st).map (·.2))).get? D=some (seqObj "list" ((arrOf st).map (·.2)) n2):=⟨_,get?_update_seq gD2 fun _=>(arrOf st).map (·.2)⟩;have eo:(arrOf st).map (·.2)=(L'.map (·.2.2)).toArray:=by
    apply A42.mp;rw [A43,p2,P5]
    rfl
   rw [show seqObj "list" ((arrOf st).map (·.2)) n2=seqObj "list" (L'.map (·.2.2)).toArray n2 by rw [eo]] at hn2
   have I3:=Inv.off (s:={ s' with heap:=s'.heap.update kS (F2 fun _=>(#[]:Array Value)) }) (h':=(s'.heap.update kS (F2 fun _=>(#[]:Array Value))).update D (F2 fun _=>(arrOf st).map (·.2))) I2 fD (fun b o hb e=>(C2 _ _ (G3 hb)).trans e);refine wpAny_pure (h H _ (L'.map fun t=>([numOf t.1],t.2.1)) (L'.map (·.2.2)) n2 I3 sm fD ?_ ?_ ?_ ?_ hn2)
   ·rw [<- tz];exact p1.map _
   ·rw [G4];have so2:(arrOf st).toList.Pairwise (fun a b=>gkv a<=gkv b):=by
     rw [F3];intro i j hi hj hij;have hi2:i<(arrOf st).size:=by simpa using hi
     have hj2:j<(arrOf st).size:=by simpa using hj
     have a:=so i j (Q8 hij) hj2;rw [qR3 hi2,qR3 hj2] at a;rw [Q5,Q5];exact a
    rw [p2,G4] at so2;refine so2.imp_of_mem fun {a b} ha hb le=>?_;have le:numOf a.1<=numOf b.1:=le;exact qQU le
   ·intro nu;obtain ⟨I,pI,eI⟩:=qVA ((.none,.non,.none):Value × V × Value) p1;have lL:(rs.zip (xs.zip us)).length=xs.length:=by rw [e7,e7];omega
    rw [lL] at pI;have at_:∀ i ∈ I,∃ n tg x u,rs[i]?=some (J5 n tg)/\ks[i]?=some [n]/\xs[i]?=some x/\us[i]?=some u/\(rs.zip (xs.zip us))[i]?=some (J5 n tg,x,u):=fun i hi=>by
     have hl:i<xs.length:=M8.mp (pI.mem_iff.mp hi);have h1:=A1 (show i<rs.length by omega)
     have h2:=A1 hl;have h3:=A1 (show i<us.length by omega)
     obtain ⟨k,hk,n,tg,e1,e2⟩:=qQM T h1;rw [e1] at h1;rw [e2] at hk;exact ⟨n,tg,_,_,h1,hk,h2,h3,by rw [O2];exact ⟨h1,by rw [O2];exact ⟨h2,h3⟩⟩⟩
    refine ⟨I,pI,?_,?_⟩
    ·have so3:(arrOf st).toList.Pairwise (fun a b=>gkv a<gkv b\/gkv a=gkv b/\(plc us a.2:Int)<=plc us b.2):=by
      rw [F3];intro i j hi hj hij;have hi2:i<(arrOf st).size:=by simpa using hi
      have hj2:j<(arrOf st).size:=by simpa using hj
      have a:=soX nu i j (Q8 hij) hj2;unfold gLe gX at a;rw [qR3 hi2,qR3 hj2,D2 hi2,D2 hj2] at a;rw [Q5,Q5];exact a
     rw [p2,eI,P5,G4] at so3;refine so3.imp_of_mem fun {i j} hi hj le=>?_;obtain ⟨n,tg,x,u,h1,h2,h3,h4,h5⟩:=at_ i hi;obtain ⟨n',tg',x',u',h1',h2',h3',h4',h5'⟩:=at_ j hj;simp only [n8,h5,h5',R8] at le;rw [qS7 nu h4,qS7 nu h4'] at le;rw [h2,h2'];have le:n<n'\/n=n'/\(i:Int)<=(j:Int):=le;rcases le with le | ⟨le,le2⟩
     ·refine .inl ?_;show HT.lexLt [n] [n']=true;rw [HT.lexLt_cons,if_neg (by omega)]
      exact decide_eq_true le
     ·exact .inr ⟨by rw [le],by omega⟩
    ·rw [eI,P5];refine K0 fun i hi=>?_;obtain ⟨n,tg,x,u,h1,h2,h3,h4,h5⟩:=at_ i hi;simp only [n8,h5,h2,h3,R8]
     rfl
   ·have:∀ L:List (Value × V × Value),(∀ t ∈ L,RelV t.2.1 t.2.2)->Vals ((L.map fun t=>([numOf t.1],t.2.1)).map (·.2)) (L.map (·.2.2)):=by
     intro L
     induction L with
     | nil=>intro _;exact .nil
     | cons t L ih=>intro hL;exact .cons (hL t (by simp)) (ih fun t ht=>hL t (A5 _ ht))
    exact this L' fun t ht=>relT t (p1.mem_iff.mp ht)
  by_cases few:us.toArray.size<2
  ·simp only [if_pos few];refine wpAny_bind (wpAny_pure ?_);rw [t7];refine wpAny_bind (wpAny_pure (tail _ (.refl _) (fun i j hij hj=>?_) (fun _ i j hij hj=>by
    have sz:(rs.toArray.zip us.toArray).size<=1:=by rw [X2];omega
    have hj':j<(rs.toArray.zip us.toArray).size:=hj;rw [show i=j by omega]
    exact .refl _) rfl))
   have sz:(arrOf (SortSt.mk' general' (rs.toArray.zip us.toArray) #[] 7 none)).size<=1:=by
    show (rs.toArray.zip us.toArray).size<=1;rw [X2];omega
   have hj':j<(arrOf (SortSt.mk' general' (rs.toArray.zip us.toArray) #[] 7 none)).size:=hj;have ij:i=j:=by omega
   rw [ij];exact E6 _
  ·simp only [if_neg few];rw [A8] at few
   haveI lt_ok:LtOk X.prog X.w A s' oneType':=⟨fun {x y Q E} hx hy h=>by
    obtain ⟨n,t,rfl⟩:=hx;obtain ⟨m,u,rfl⟩:=hy;rw [keyLt'_oneType];exact oneLt_int h⟩
   have ik:qC8 (rs.toArray.zip us.toArray):=fun pq hp=>by
    rw [ez] at hp;obtain ⟨t,ht,rfl⟩:=E2.mp hp;exact memT t ht
   have kk:keyKind' rs.toArray=pure oneType':=by
    have ia:=qMY T
    match rs,lr,ia with
    | [],lr,_=>exact absurd lr (by show ¬ 0=ks.length;omega)
    | [_],lr,_=>exact absurd lr (by show ¬ 1=ks.length;omega)
    | _::_::_,_,ia=>exact keyKind_ints ia
   rw [kk];refine wpAny_bind (wpAny_pure ?_);refine wpAny_bind (wpAny_mono (qKA (ix:=fun p=>if us.Nodup then (plc us p.2:Int) else 0) (κ0:=oneType') (a₀:=rs.toArray.zip us.toArray) (Q:=fun _ st2=>gSG oneType' (rs.toArray.zip us.toArray) st2/\qEX (fun p=>if us.Nodup then (plc us p.2:Int) else 0) (arrOf st2) (rs.toArray.zip us.toArray).size) (by rw [X2,A8,A8];omega) ik ⟨.refl _,rfl,rfl⟩ ?_ rfl fun st2 g u=>⟨g,u⟩) ?_ fun _ _ x=>x)
   ·intro i j hij _ hj;have hj:j<(rs.toArray.zip us.toArray).size:=hj;show gX _ (rs.toArray.zip us.toArray) i<=gX _ (rs.toArray.zip us.toArray) j;have hsz:(rs.toArray.zip us.toArray).size<=us.length:=by rw [X2,A8,A8];omega
    by_cases nu:us.Nodup
    ·have e:∀ k,k<(rs.toArray.zip us.toArray).size->gX (fun p=>if us.Nodup then (plc us p.2:Int) else 0) (rs.toArray.zip us.toArray) k=k:=fun k hk=>by
      unfold gX;rw [D2 hk,Array.getElem_zip];dsimp only;rw [if_pos nu,qS7 nu (i:=k) (by rw [U1,A1])]
     rw [e i (by omega),e j hj]
     omega
    ·have e:∀ k,gX (fun p=>if us.Nodup then (plc us p.2:Int) else 0) (rs.toArray.zip us.toArray) k=0:=fun k=>by
      unfold gX
      split
      ·exact if_neg nu
      ·rfl
     rw [e i,e j];exact E6 _
   rintro ⟨_,st2⟩ s2 ⟨es,g,u⟩;cases (show s2=_ from es);exact tail st2 g.perm (by rw [g.perm.size_eq];exact fun i j hij hj=>(u i j hij hj).k) (fun nu=>by rw [g.perm.size_eq];simp only [if_pos nu] at u;exact u) g.failed
end
section
variable {X:Cx} {Ab:List (Addr × Obj)} {σ:St} {params:Arguments} {body:Expr} {scope:Scope} {p:Str} {fv:List Nat} {q:Str} {te:TE} {l f cc:Addr} {ctv:Value} {H0:Hp} {xs:List V} {ks:List (List Int)} {Q:VK}
theorem sorti_call {s:Shared} {H:Hp} (rm:Room 2 X.A) (hA:X.A.in1.in1.frames=some X.stack) (S':LmScope X scope p fv) (hbind:∀ (cl:List (Str × Addr)) (pm cd ct u:Value),bindArgs (P7 "<lambda>" q params body scope cl pm cd ct) ⟨[u],[]⟩=pure [(p,u)])
  (he:∀ z,PE (lmCx X scope p fv q z) body te) (KA:KeyAt X σ fv te KR0 H xs ks) (hf:H f=some (LamF X q params body scope cc ctv f)) (hcc:H cc=some (.tbl (.cod q))) (hl:SqT X.K H l xs\/SqL X.K H l xs) (I:Inv X Ab σ H s) (hz:xs.length<=63)
  (hQ:∀ (H':Hp) (D:Addr) (zs:List (List Int × V)),Sm0 H H'->H' D=none->zs.Perm (ks.zip xs)->zs.Pairwise (fun a b=>HT.lexLt b.1 a.1=false)->(∀ as:List Addr,xs=as.map V.ref->as.Nodup->StI ks xs zs)->Q (.ref D) (upd H' D (.lst (zs.map (·.2))))) :
  wpAny (model X.prog X.w) X.A (call (.builtin "sorted") [.ref l] [(E4 "key",.ref f)]) (EP X Ab σ Q) X.xe s:=by
 refine call_function_entry_kw kind_sorted plain_sorted entry_sorted (qJY _ _) ?_;unfold Builtin.«sorted»;refine wpAny_bind (m:=checkCount "sorted" 1 1 _) (wpAny_pure ?_);have src:∃ (its:List Value),Vals xs its/\∀ (P:List Value->Shared->Prop),(∀ h',(∀ b o,s.heap.get? b=some o->h'.get? b=some o)->P its { s with heap:=h' })->wpAny (model X.prog X.w) X.A.in1 (collect (.ref l)) P X.xe s:=by
  rcases hl with hl | hl
  ·obtain ⟨its,rv,⟨o,ho,hc',n,hd⟩,hz2⟩:=I.tuple hl;refine ⟨its,rv,fun P h=>wpAny_collect_seq l (.inr rfl) ho hc' hd (fun h' hk=>h h' hk) ?_⟩;rw [A8,<- rv.length,sizeLine_eq];omega
  ·obtain ⟨its,rv,pl,hz2⟩:=I.list hl;obtain ⟨o,ho,hc',n,hd⟩:=pl.isList;refine ⟨its,rv,fun P h=>wpAny_collect_seq l (.inl rfl) ho hc' hd (fun h' hk=>h h' hk) ?_⟩;rw [A8,<- rv.length,sizeLine_eq];omega
 obtain ⟨its,rv,col⟩:=src;have li:=rv.length;refine wpAny_bind (col _ fun h1 k1=>?_);have I1:Inv X Ab σ H { s with heap:=h1 }:=I.kept (t':=s.toks) k1;refine wpAny_bind (wpAny_newList ?_ (by show its.length<=_;rw [sizeLine_eq];omega))
 have fD0:FpOk X Ab H h1.objs.size:=I1.fpOk (B0 _) (I1.hok.fresh (B0 _));have szD:=I1.sz;have gD:(h1.push (seqObj "list" its.toArray 0)).get? h1.objs.size=some (seqObj "list" its.toArray 0):=B5 _ rfl;have I2:Inv X Ab σ H { s with heap:=h1.push (seqObj "list" its.toArray 0) }:=I1.kept (t':=s.toks) fun b o e=>A2 _ e;have ltD:h1.objs.size<(h1.push (seqObj "list" its.toArray 0)).objs.size:=B7 gD;show wpAny _ _ _ _ _ { s with heap:=h1.push (seqObj "list" its.toArray 0) };show wpAny _ _ (holding [.ref h1.objs.size] (call (.builtin "list.sort") [.ref h1.objs.size] [(E4 "key",.ref f)]) >>= _) _ _ _;generalize h1.push (seqObj "list" its.toArray 0)=h2 at gD I2 ltD ⊢;have szD:X.s₀.heap.objs.size<=h1.objs.size:=szD;generalize h1.objs.size=D at fD0 szD gD ltD ⊢;refine wpAny_bind (wpAny_holding (wpAny_call_entry_kw slot_list_sort ⟨_,gD,rfl⟩ entry_list_sort ?_ (ksk_l1 _ _)));show wpAny (model X.prog X.w) X.A.in1.in1 (Builtin.«list.sort» ⟨[.ref D],[(E4 "key",.ref f)]⟩) _ _ _;rw [ksk_t1];unfold ksk_tree;refine wpAny_bind (listItems_at gD rfl ?_);refine wpAny_bind (listUpdate_at gD rfl ?_ (by rw [A8,sizeLine_eq];omega) (D3 _))
 obtain ⟨e1,ho1⟩:∃ e1,(h2.update D (F2 fun _=>(#[]:Array Value))).get? D=some (seqObj "list" #[] e1):=⟨_,get?_update_seq gD fun _=>#[]⟩;have I3:=Inv.off (h':=h2.update D (F2 fun _=>(#[]:Array Value))) I2 fD0 (fun b o hb e=>(C2 _ _ (G3 hb)).trans e);have ltD3:D<(h2.update D (F2 fun _=>(#[]:Array Value))).objs.size:=B7 ho1;refine wpAny_bind (seqEpoch_at ho1 rfl ?_);generalize h2.update D (F2 fun _=>(#[]:Array Value))=h3 at ho1 I3 ltD3 ⊢;refine wpAny_bind (wpAny_newTuple ?_ (by show its.length<=_;rw [sizeLine_eq];omega))
 refine wpAny_bind (wpAny_newList ?_ (D3 _));refine wpAny_holding ?_;have hkS:(h3.push (seqObj "tuple" its.toArray 0)).objs.size=h3.objs.size+1:=L0 ..;have I4:Inv X Ab σ H { s with heap:=(h3.push (seqObj "tuple" its.toArray 0)).push (seqObj "list" #[] 0) }:=I3.kept (t':=s.toks) fun b o e=>A2 _ (A2 _ e);have fk:FpOk X Ab H (h3.push (seqObj "tuple" its.toArray 0)).objs.size:=by rw [hkS];exact I3.fpOk (X4 _) (I3.hok.fresh (X4 _))
 refine qQF (kS:=(h3.push (seqObj "tuple" its.toArray 0)).objs.size) (D:=D) (rm.in1.in1) hA S' hbind he KA hf hcc rv (by omega) (by rw [hkS];exact S9 (O8 ltD3)) ⟨H,[],0,I4,fun _ _ e=>e,fk,fD0,B5 _ rfl,A2 _ (A2 _ ho1),?_⟩ fun H' s' zs out n I5 sm fD5 pm so sti rvo gD5=>⟨_,rfl,?_⟩
 ·rw [A60];exact .nil
 ·refine wpAny_pure ⟨_,rfl,.ref D,upd H' D (.lst (zs.map (·.2))),I5.track fD5.1 szD fD5.2.1 fD5.2.2.2.2.1 fD5.2.2.2.2.2 ⟨?_,out,n,rvo,gD5⟩,rfl,hQ H' D zs sm fD5.1 pm so fun as ea na=>sti ?_⟩
  ·have:=pm.length_eq;rw [A0,this,e7,sizeLine_eq];omega
  ·have:∀ (as:List Addr) (us:List Value),Vals (as.map V.ref) us->us=as.map C8:=by
    intro as
    induction as with
    | nil=>intro us h;cases h;rfl
    | cons a as ih=>intro us h;cases h with | cons h1 h2=>cases h1;rw [ih _ h2];rfl
   rw [ea] at rv;rw [this as its rv];exact List.Pairwise.map _ (fun a b hab z=>hab (C8.inj z)) na
end
end L2.G
namespace L2
open PySem PySem.Spec PyProof.Rows
section
variable {X:Cx}
def qZ2 (P:Addr) (K:PySem.W.Frag) (q:Str) (fv:List Nat) (te:TE) (ta:TA):TE:=fun σ H Q=>ta σ H fun vs H1=>H1 P=some (.tbl (.tab q))/\
 ∃ (l:Addr) (xs:List V) (ks:List (List Int)),vs=[.ref l]/\(SqT K H1 l xs\/SqL K H1 l xs)/\xs.length<=63/\ks.length=xs.length/\(∀ (i:Nat) (x:V) (k:List Int),xs[i]?=some x->ks[i]?=some k->∀ Hc,Sm0 H1 Hc->te (qFQ fv σ x) Hc fun y H'=>Sm0 Hc H'/\G.KR0 H' y k)/\
  ∀ (H':Hp) (D:Addr) (zs:List (List Int × V)),Sm0 H1 H'->H' D=none->zs.Perm (ks.zip xs)->zs.Pairwise (fun a b=>HT.lexLt b.1 a.1=false)->(∀ as:List Addr,xs=as.map V.ref->as.Nodup->G.StI ks xs zs)->Q (.ref D) (upd H' D (.lst (zs.map (·.2))))
theorem qVC {e:Expr} {ta:TA} {np pos kpos lpos:Pos} {params:Arguments} {body:Expr} {scope:Scope} {c P:Addr} {q:Str} {p:Str} {fv:List Nat} {te:TE}
  (rm:Room 2 X.A) (hg:Gl X "sorted") (hm:X.mg "sorted" = none) (hv:bootBuiltins "sorted" = some (.builtin "sorted")) (hb:BM X.mg X.base) (hcode:X.env.code=.ref c) (hd:hdIn X.K c P=true) (hq:X.env.qual ++ "<lambda>" = q)
  (S:LmScope X scope p fv) (hdef:defaultsOf params X.env=([],[])) (hbind:∀ (cl:List (Str × Addr)) (pm cd ct u:Value),bindArgs (P7 "<lambda>" q params body scope cl pm cd ct) ⟨[u],[]⟩=pure [(p,u)])
  (ha:PA X [e] ta) (he:∀ z,PE (lmCx X scope p fv q z) body te) (hs:starEach [e] X.env=[(false,eval e X.env)]:=by rfl) :
  PE X (.Call (.Name "sorted" np) [e] [⟨some "key",.Lambda params body scope lpos,kpos⟩] pos) (qZ2 P X.K q fv te ta):=by
 intro Ab s σ H Q I h;refine wpAny_Call_Name_kw (qGD I hg hm hv ?_ (by decide) (by decide))
 refine m5 (thn (ha pos Ab s σ H _ I h) fun us s1 ⟨vs,H1,I1,r1,q1⟩=>?_) (by rw [hs];rfl) (by rw [hs];rfl)
 obtain ⟨hP,l,xs,ks,rfl,hl,hz,lk,hk,q2⟩:=q1;obtain ⟨u,rfl,rx⟩:=qEO r1;cases rx;have C:=qNC (c:=c) (P:=P) I1.ok.mod.kin hd;have pl:=qWR (X:=X) (pos:=lpos) (body:=body) hb hcode C hq S hdef;refine thn (qS8 (kpos:=kpos) (nm:=some "key") pl qWP pos Ab s1 σ H1 (fun zs H2=>∃ f cc ctv,zs=[.ref f]/\Sm0 H1 H2/\H2 f=some (LamF X q params body scope cc ctv f)/\H2 cc=some (.tbl (.cod q))) I1 ⟨hP,fun f cc ctv H' sm h0 hf hcc=>⟨f,cc,ctv,rfl,sm,hf,hcc⟩⟩) fun ws s2 ⟨zs,H2,I2,rz,f,cc,ctv,ez,sm,hf,hcc⟩=>?_;subst ez;obtain ⟨u2,rfl,r2⟩:=qEO rz;cases r2;have hA:X.A.in1.in1.frames=some X.stack:=I2.ok.frames;exact G.sorti_call (H:=H2) rm hA S hbind he ⟨lk,fun i x k hx hk' Hc smc=>hk i x k hx hk' Hc fun b o e=>smc b o (sm b o e)⟩ hf hcc (hl.imp (fun z=>z.sm sm) fun z=>z.sm sm) I2 hz
  fun H' D zs smc a b c d=>q2 H' D zs (fun b o e=>smc b o (sm b o e)) a b c d
end
end L2
namespace Fw
open PySem L2
theorem qDL:bootBuiltins "len" = some (.builtin "len"):=by decide +kernel
theorem qUA:bootBuiltins "min" = some (.builtin "min"):=by decide +kernel
theorem qKG:bootBuiltins "max" = some (.builtin "max"):=by decide +kernel
theorem qDK:bootBuiltins "sorted" = some (.builtin "sorted"):=by decide +kernel
theorem qUB:bootBuiltins "divmod" = some (.builtin "divmod"):=by decide +kernel
theorem qJF:bootBuiltins "all" = some (.builtin "all"):=by decide +kernel
theorem qAN:bootBuiltins "isinstance" = some (.builtin "isinstance"):=by decide +kernel
theorem qQ7:bootBuiltins "int" = some (.type "int"):=by decide +kernel
theorem qUC:bootBuiltins "bool" = some (.type "bool"):=by decide +kernel
theorem qX8:bootBuiltins "str" = some (.type "str"):=by decide +kernel
theorem qH9:bootBuiltins "list" = some (.type "list"):=by decide +kernel
theorem qB4:bootBuiltins "tuple" = some (.type "tuple"):=by decide +kernel
theorem qX9:bootBuiltins "set" = some (.type "set"):=by decide +kernel
theorem qW9:bootBuiltins "range" = some (.type "range"):=by decide +kernel
theorem qHM:bootBuiltins "enumerate" = some (.type "enumerate"):=by decide +kernel
structure StAt (H:Hp) (d c:Addr) (t:Int) (ns:List Int):Prop where
 dict:H d=some (.dK [(M6 "cells",.ref c),(M6 "turn",.int t)])
 list:H c=some (.lst (ns.map V.int))
 ne:0<ns.length
 len:ns.length<=63
 pos:0<=t
def Keep (d c:Addr) (H H':Hp):Prop:=∀ b o,H b=some o->b ≠ d->b ≠ c->H' b=some o
theorem Keep.refl {d c:Addr} {H:Hp}:Keep d c H H:=fun _ _ h _ _=>h
theorem Keep.trans {d c:Addr} {H H1 H2:Hp} (a:Keep d c H H1) (b:Keep d c H1 H2):Keep d c H H2:=fun x o h n m=>b x o (a x o h n m) n m
theorem Keep.of_same {d c:Addr} {H H':Hp} (h:Same H H'):Keep d c H H':=fun b o e _ _=>h b o e
theorem qA2 {H:Hp} {p:Addr} (h:H p=none) (o:HO):Same H (upd H p o):=fun b u q=>by rw [qA8 (qA5 q h)];exact q
theorem qC7 {d c:Addr} {H:Hp} {p:Addr} (h:H p=none) (o:HO):Keep d c H (upd H p o):=.of_same (qA2 h o)
theorem StAt.ndc {H:Hp} {d c:Addr} {t:Int} {ns:List Int} (S:StAt H d c t ns):d ≠ c:=qBS S.dict S.list (by intro z;cases z)
theorem StAt.same {H H':Hp} {d c:Addr} {t:Int} {ns:List Int} (S:StAt H d c t ns) (h:Same H H'):StAt H' d c t ns:=⟨h _ _ S.dict,h _ _ S.list,S.ne,S.len,S.pos⟩
theorem StAt.new {H:Hp} {d c p:Addr} {t:Int} {ns:List Int} (S:StAt H d c t ns) (h:H p=none) (o:HO):StAt (upd H p o) d c t ns:=S.same (qA2 h o)
theorem s_cs:¬ (E4 "cells" = E4 "turn"):=by decide +kernel
theorem s_ct:¬ ((M6 (E4 "cells"):Key)=M6 (E4 "turn")):=fun h=>s_cs (A80 h)
theorem qYL {H:Hp} {d c:Addr} {t:Int} {ns:List Int} (S:StAt H d c t ns):DGet H d (.str "turn") (some (.int t)):=by
 have h:=DGet.k (k:=M6 "turn") S.dict;rw [qBL s_ct,qBK rfl] at h;exact h
theorem qLF {H:Hp} {d c:Addr} {t:Int} {ns:List Int} (S:StAt H d c t ns):DGet H d (.str "cells") (some (.ref c)):=by
 have h:=DGet.k (k:=M6 "cells") S.dict;rw [qBK rfl] at h;exact h
theorem qV4 (c:Addr) (t u:Int):putK [((M6 "cells" : Key),V.ref c),(M6 "turn",V.int t)] (M6 "turn") (V.int u)=[((M6 "cells" : Key),V.ref c),(M6 "turn",V.int u)]:=by
 unfold putK;simp [s_cs]
theorem qYI {H:Hp} {d c:Addr} {t u:Int} {ns:List Int} (S:StAt H d c t ns):DPut H d (.str "turn") (.int u) (upd H d (.dK [(M6 "cells",.ref c),(M6 "turn",.int u)])):=by
 have h:=DPut.k (k:=M6 "turn") (v:=.int u) S.dict (by rw [sizeLine_eq];exact (by decide:2<16777216))
 rw [qV4] at h;exact h
theorem StAt.turn {H:Hp} {d c:Addr} {t u:Int} {ns:List Int} (S:StAt H d c t ns) (h:0<=u):StAt (upd H d (.dK [(M6 "cells",.ref c),(M6 "turn",.int u)])) d c u ns:=
 ⟨qA1,by rw [qA8 (G3 S.ndc)];exact S.list,S.ne,S.len,h⟩
theorem StAt.put {H:Hp} {d c:Addr} {t:Int} {ns ms:List Int} (S:StAt H d c t ns) (h:ms.length=ns.length):StAt (upd H c (.lst (ms.map V.int))) d c t ms:=
 ⟨by rw [qA8 S.ndc];exact S.dict,qA1,by rw [h];exact S.ne,by rw [h];exact S.len,S.pos⟩
abbrev TB:Int:=1000000000
def qIH:Sp:=fun vs H Q _=>∃ d c t ns m,vs=[.ref d,.int m]/\StAt H d c t ns/\t<=TB/\1<=m/\m<=1000000/\∀ k ns' H',0<=k->k<m->StAt H' d c (t+1) ns'->Keep d c H H'->Q (.int k) H'
def qRU (K:PySem.W.Frag):Sp:=fun vs H Q _=>∃ (a:Addr) (ns:List Int),vs=[.ref a]/\SqL K H a (ns.map V.int)/\ns.length<=63/\∀ d c ms H',StAt H' d c 0 ms->Same H H'->H d=none->H c=none->Q (.ref d) H'
def cutI {α:Type} (xs:List α) (lo hi:Option Int):List α:=(xs.drop (HT.sIx xs.length 0 lo)).take (HT.sIx xs.length xs.length hi - HT.sIx xs.length 0 lo)
theorem qGR {α:Type} (f:α->V) (xs:List α) (lo hi:Option Int):cutV (xs.map f) lo hi=(cutI xs lo hi).map f:=by
 unfold cutV cutI;rw [A0,<- List.map_drop,<- List.map_take]
theorem qW7 {α:Type} (xs:List α) (lo hi:Option Int):(cutI xs lo hi).length<=xs.length:=by
 unfold cutI;rw [D1,O3];omega
theorem qWW (c:Addr) (t:Int):qIY [] [((M6 (E4 "cells"):Key),V.ref c),(M6 (E4 "turn"),V.int t)]=[((M6 (E4 "cells"):Key),V.ref c),(M6 (E4 "turn"),V.int t)]:=by
 unfold qIY;simp only [Y2,A58];unfold putK;simp [s_cs]
theorem qOI {xs:List V} {j:Nat} (h:j<xs.length):ixN xs.length (j:Int)=some j:=by
 unfold ixN;rw [if_pos (by omega),if_pos (by omega),F7]
def qb2 (K:PySem.W.Frag):Sp:=fun vs H Q _=>∃ (a:Addr) (ns:List Int),vs=[.ref a]/\SqL K H a (ns.map V.int)/\ns.length<=63/\∀ H',Q (.bl true) H'
theorem cut {t u:TS} {D:Ends} {σ:St} {H:Hp} (h:∀ N:St->Hp->Prop,(∀ σ H,u D σ H->N σ H)->t { D with nx:=N } σ H):tSeq t u D σ H:=h _ fun _ _ z=>z
theorem opq {A:Prop} (h:∀ G:Prop,(A->G)->G):A:=h A id
structure Rise (k:Int) (zs:List Int):Prop where
 up:zs.Pairwise (·<·)
 in_:∀ x ∈ zs,0<=x/\x<k
theorem Rise.nil {k:Int}:Rise k []:=⟨.nil,fun _ h=>nomatch h⟩
theorem Rise.mono {j k:Int} {zs:List Int} (h:Rise j zs) (l:j<=k):Rise k zs:=⟨h.up,fun x hx=>⟨(h.in_ x hx).1,by have:=(h.in_ x hx).2;omega⟩⟩
theorem Rise.sub {k:Int} {zs ys:List Int} (h:Rise k zs) (s:ys.Sublist zs):Rise k ys:=⟨h.up.sublist s,fun x hx=>h.in_ x (s.subset hx)⟩
theorem Rise.snoc {k:Int} {zs:List Int} (h:Rise k zs) (h0:0<=k):Rise (k+1) (zs++[k]):=by
 refine ⟨Q4.mpr ⟨h.up,V0 _ _,fun a ha b hb=>?_⟩,fun x hx=>?_⟩
 ·rw [A3.mp hb];exact (h.in_ a ha).2
 ·rcases D6.mp hx with hx | hx
  ·have:=h.in_ x hx;omega
  ·rw [A3.mp hx];omega
theorem Rise.shift {k j:Int} {zs:List Int} (h:Rise k zs) (hj:0<=j):Rise (k+j) (zs.map (·+j)):=by
 refine ⟨G4.mpr (h.up.imp fun {a b} hab=>by omega),fun x hx=>?_⟩
 obtain ⟨y,hy,e⟩:=E2.mp hx;have:=h.in_ y hy;omega
theorem Rise.nodup {k:Int} {zs:List Int} (h:Rise k zs):zs.Nodup:=h.up.imp fun {a b} hab=>by omega
theorem Rise.len {zs:List Int} {k:Nat} (h:Rise (k:Int) zs):zs.length<=k:=by
 have sub:zs ⊆ (F6 k).map fun (i:Nat)=>(i:Int):=fun x hx=>by
  have:=h.in_ x hx;exact E2.mpr ⟨x.toNat,M8.mpr (by omega),by omega⟩
 have:=J7 h.nodup sub;simpa using this
theorem mem_addI {zs:List Int} {k x:Int}:x ∈ addI zs k ↔ x ∈ zs\/x=k:=by
 unfold addI
 split
 ·rename_i h
  constructor
  ·exact .inl
  ·rintro (z | rfl)
   ·exact z
   ·exact h
 ·simp
theorem qY1 {zs:List Int} {k:Int} (h:zs.Nodup):(addI zs k).Nodup:=by
 unfold addI
 split
 ·exact h
 ·rename_i hk
  exact qL3 h hk
theorem qTY:∀ (l zs:List Int),zs.Nodup->(l.foldl addI zs).Nodup/\∀ x,x ∈ l.foldl addI zs ↔ x ∈ zs\/x ∈ l
 | [],zs,h=>⟨h,fun x=>by simp⟩
 | k::r,zs,h=>by
  obtain ⟨a,b⟩:=qTY r (addI zs k) (qY1 h);refine ⟨a,fun x=>?_⟩;rw [Y2,b x,mem_addI,B6,or_assoc]
theorem qR7 (l:List Int):(dedI l).Nodup:=(qTY l [] .nil).1
theorem mem_dedI {l:List Int} {x:Int}:x ∈ dedI l ↔ x ∈ l:=by
 have:=(qTY l [] .nil).2 x;unfold dedI;rw [this];simp
theorem qQ4 (l:List Int):(dedI l).length<=l.length:=by
 have:=qE1 l [];simpa [dedI] using this
theorem qHH {zs:List Int} (h1:zs.Pairwise (·<=·)) (h2:zs.Nodup):zs.Pairwise (·<·):=by
 have h3:zs.Pairwise (fun a b=>a<=b/\a ≠ b):=a9.mpr ⟨h1,h2⟩;exact h3.imp fun {a b} ⟨x,y⟩=>by omega
theorem qPC {k:Int} {fs zs:List Int} (hp:zs.Perm (dedI fs)) (hs:zs.Pairwise (·<=·)) (h:∀ x ∈ fs,0<=x/\x<k):Rise k zs:=
 ⟨qHH hs (hp.nodup_iff.mpr (qR7 fs)),fun x hx=>h x (mem_dedI.mp (hp.mem_iff.mp hx))⟩
def qDD (lo hi:Int):List Int:=(F6 (hi - lo).toNat).map fun (i:Nat)=>lo+i
theorem qNZ (lo hi:Int):qHF lo hi=(qDD lo hi).map V.int:=by
 unfold qHF qDD;rw [P5]
 rfl
theorem mem_rangeI {lo hi x:Int}:x ∈ qDD lo hi ↔ lo<=x/\x<hi:=by
 unfold qDD;rw [E2]
 constructor
 ·rintro ⟨i,hi',e⟩;have:=M8.mp hi';omega
 ·intro h;exact ⟨(x - lo).toNat,M8.mpr (by omega),by omega⟩
theorem qQJ (lo hi:Int):(qDD lo hi).length=(hi - lo).toNat:=by unfold qDD;simp
theorem qIM (lo hi:Int):(qDD lo hi).Pairwise (·<·):=by
 unfold qDD;exact G4.mpr (List.pairwise_lt_range.imp fun {a b} h=>by omega)
theorem qO0 {lo hi:Int} (h:0<=lo):Rise hi (qDD lo hi):=⟨qIM _ _,fun x hx=>by have:=mem_rangeI.mp hx;omega⟩
theorem qN8 {α:Type} (xs:List α) (k:Nat) (h:k<=xs.length):cutI xs (some (k:Int)) none=xs.drop k:=by
 unfold cutI;rw [HT.sIx_nat,HT.sIx_none,A55 h];exact G0 (by rw [O3];exact B0 _)
theorem qU4 {α:Type} (xs:List α) (k:Nat):cutI xs none (some (k:Int))=xs.take k:=by
 unfold cutI;rw [HT.sIx_nat,HT.sIx_none,List.drop_zero,Nat.sub_zero];rcases Nat.le_total k xs.length with h | h
 ·rw [A55 h]
 ·rw [Nat.min_eq_right h,G0 h,G0 (B0 _)]
abbrev NetL (H:Hp):List Addr->List (List Int)->Prop:=Paired fun r zs=>H r=some (.tup (zs.map V.int))
theorem NetL.keep {d c:Addr} {H H':Hp} {rs:List Addr} {Ae:List (List Int)} (h:NetL H rs Ae) (hd:∀ r zs,H r=some (.tup zs)->r ≠ d/\r ≠ c) (k:Keep d c H H'):NetL H' rs Ae:=by
 induction h with
 | nil=>exact .nil
 | cons r t ih=>exact .cons (k _ _ r (hd _ _ r).1 (hd _ _ r).2) ih
theorem NetL.same {H H':Hp} {rs:List Addr} {Ae:List (List Int)} (h:NetL H rs Ae) (k:∀ r zs,H r=some (.tup zs)->H' r=some (.tup zs)):NetL H' rs Ae:=by
 induction h with
 | nil=>exact .nil
 | cons r t ih=>exact .cons (k _ _ r) ih
theorem NetL.get {H:Hp}:∀ {rs:List Addr} {Ae:List (List Int)} {i:Nat} {zs:List Int},NetL H rs Ae->Ae[i]?=some zs->∃ r,rs[i]?=some r/\H r=some (.tup (zs.map V.int))
 | _,_,_,_,.nil,e=>by simp at e
 | _,_,0,_,.cons r _,e=>by simp at e;subst e;exact ⟨_,rfl,r⟩
 | _,_,i+1,zs,.cons _ t,e=>by
  obtain ⟨r,h1,h2⟩:=NetL.get (i:=i) (zs:=zs) t (by simpa using e)
  exact ⟨r,by simpa using h1,h2⟩
def NetAt (H:Hp) (a:Addr) (Ae:List (List Int)):Prop:=∃ rs:List Addr,H a=some (.tup (rs.map V.ref))/\NetL H rs Ae
theorem StAt.tup {H:Hp} {d c:Addr} {t:Int} {ns:List Int} (S:StAt H d c t ns) {r:Addr} {zs:List V} (h:H r=some (.tup zs)):r ≠ d/\r ≠ c:=
 ⟨qBS h S.dict (by intro z;cases z),qBS h S.list (by intro z;cases z)⟩
theorem NetAt.keep {H H':Hp} {d c:Addr} {t:Int} {ns:List Int} (S:StAt H d c t ns) {a:Addr} {Ae:List (List Int)} (h:NetAt H a Ae) (k:Keep d c H H'):NetAt H' a Ae:=by
 obtain ⟨rs,h1,h2⟩:=h;exact ⟨rs,k _ _ h1 (S.tup h1).1 (S.tup h1).2,h2.keep (fun r zs e=>S.tup e) k⟩
theorem NetAt.same {H H':Hp} {a:Addr} {Ae:List (List Int)} (h:NetAt H a Ae) (k:Same H H'):NetAt H' a Ae:=by
 obtain ⟨rs,h1,h2⟩:=h;exact ⟨rs,k _ _ h1,h2.same fun r zs e=>k _ _ e⟩
theorem NetAt.len {H:Hp} {rs:List Addr} {Ae:List (List Int)} (h:NetL H rs Ae):rs.length=Ae.length:=C7 h
def WFn (Ae:List (List Int)):Prop:=∀ (i:Nat) zs,Ae[i]?=some zs->Rise (i:Int) zs
theorem WFn.snoc {Ae:List (List Int)} {zs:List Int} (h:WFn Ae) (hz:Rise (Ae.length:Int) zs):WFn (Ae++[zs]):=by
 intro i ys e;rcases Z5 i Ae.length with l | l | l
 ·rw [D8 l] at e;exact h i ys e
 ·subst l;simp at e;subst e;exact hz
 ·rw [F5 (by rw [A7,C3];omega)] at e
  cases e
theorem WFn.nil:WFn []:=fun i zs e=>by simp at e
theorem qCG {α β:Type} {F:α->β->Prop} {a:α} {b:β} {l₁:List α} {l₂:List β} (h:Paired F l₁ l₂) (r:F a b):Paired F (l₁++[a]) (l₂++[b]):=Z2 h r
def qKO:Sp:=fun vs H Q _=>∃ d c t ns k,vs=[.ref d,.int k]/\StAt H d c t ns/\t<=TB - 20/\0<=k/\k<=63/\
 ∀ r zs t' ns' H',StAt H' d c t' ns'->t<=t'->t'<=t+9->Keep d c H H'->H' r=some (.tup (zs.map V.int))->Rise k zs->Q (.ref r) H'
def qZA:Sp:=fun vs H Q _=>∃ d c t ns m,vs=[.ref d,.int m]/\StAt H d c t ns/\t<=TB - 10000/\1<=m/\m<=63/\
 ∀ a Ae t' ns' H',StAt H' d c t' ns'->t<=t'->t'<=t+10 * m+10->Keep d c H H'->NetAt H' a Ae->WFn Ae->(Ae.length:Int)=m->Q (.ref a) H'
theorem qbB {a b k:Int} (h0:0<=k) (h1:k<4):∃ v,atI [V.int a,V.int b] (k / 3)=some (.int v)/\(v=a\/v=b):=by
 rcases (by omega:k=0\/k=1\/k=2\/k=3) with rfl | rfl | rfl | rfl
 ·exact ⟨a,rfl,.inl rfl⟩
 ·exact ⟨a,rfl,.inl rfl⟩
 ·exact ⟨a,rfl,.inl rfl⟩
 ·exact ⟨b,rfl,.inr rfl⟩
theorem qbA {k:Int} (h0:0<=k) (h1:k<6):∃ v,atI [V.int 0,V.int 0,V.int 1,V.int 2,V.int 2,V.int 3] k=some (.int v)/\0<=v/\v<=3:=by
 rcases (by omega:k=0\/k=1\/k=2\/k=3\/k=4\/k=5) with rfl | rfl | rfl | rfl | rfl | rfl
 all_goals exact ⟨_,rfl,by decide,by decide⟩
theorem qAB {H Hc:Hp} {p:Addr} {o:HO} (h:Same H Hc) (hp:H p=none):Same H (upd Hc p o):=fun b u e=>by rw [qA8 (qA5 e hp)];exact h b u e
theorem qI2 {d c:Addr} {H Hc:Hp} {p:Addr} {o:HO} (h:Keep d c H Hc) (hp:H p=none):Keep d c H (upd Hc p o):=fun b u e n1 n2=>by rw [qA8 (qA5 e hp)];exact h b u e n1 n2
theorem qEB {H:Hp} {p:Addr} {xs:List V} {o:HO} {rs:List Addr} {Ae:List (List Int)} (h:NetL H rs Ae) (hp:H p=some (.lst xs)):NetL (upd H p o) rs Ae:=
 h.same fun r zs e=>by rw [qA8 (qBS e hp (by intro z;cases z))];exact e
theorem qDR (rs:List Addr) (r:Addr):rs.map V.ref++[V.ref r]=(rs++[r]).map V.ref:=by rw [A9];rfl
theorem qZJ (b:Bool) (x:Int):(C1 (if b=true then (1:Int) else 0).toNat [V.int x]).flatten=(if b=true then [x] else []).map V.int:=by cases b <;> rfl
theorem qBZ {α β:Type} {F:α->β->Prop}:∀ {l₁:List α} {l₂:List β} {i:Nat} {a:α},Paired F l₁ l₂->l₁[i]?=some a->∃ b,l₂[i]?=some b/\F a b
 | _,_,_,_,.nil,e=>by simp at e
 | _,_,0,_,.cons r _,e=>by simp at e;subst e;exact ⟨_,rfl,r⟩
 | _,_,i+1,a,.cons _ t,e=>by
  obtain ⟨b,h1,h2⟩:=qBZ (i:=i) (a:=a) t (by simpa using e)
  exact ⟨b,by simpa using h1,h2⟩
theorem qBP {α β:Type} {F G:α->β->Prop} {l₁:List α} {l₂:List β} (h:Paired F l₁ l₂) (k:∀ a b,F a b->G a b):Paired G l₁ l₂:=by
 induction h with
 | nil=>exact .nil
 | cons r t ih=>exact .cons (k _ _ r) ih
theorem qH6 {rs:List Addr} {i:Nat} {x:V} (h:(rs.map V.ref)[i]?=some x):∃ r,rs[i]?=some r/\x=.ref r:=by
 rw [B1] at h;cases e:rs[i]? with
 | none=>rw [e] at h;cases h
 | some r=>rw [e] at h;exact ⟨r,rfl,(C6 h).symm⟩
theorem qAQ {zs:List Int} {i:Nat} {x:V} (h:(zs.map V.int)[i]?=some x):∃ z,zs[i]?=some z/\x=.int z:=by
 rw [B1] at h;cases e:zs[i]? with
 | none=>rw [e] at h;cases h
 | some r=>rw [e] at h;exact ⟨r,rfl,(C6 h).symm⟩
theorem qP6 {α:Type} {l:List α} {a b:α} {j:Nat} (h:(l++[a])[j]?=some b):l[j]?=some b\/(j=l.length/\b=a):=by
 rcases Z5 j l.length with z | z | z
 ·rw [D8 z] at h;exact .inl h
 ·subst z;simp at h;exact .inr ⟨rfl,h.symm⟩
 ·rw [F5 (by rw [A7,C3];omega)] at h
  cases h
theorem qJ7 (a:Int) (zs:List Int):inV (.int a) (zs.map V.int)=decide (a ∈ zs):=by
 unfold inV
 induction zs with
 | nil=>simp
 | cons z r ih=>
  rw [B9,W6,ih];have e:eqV (.int z) (.int a)=decide (a=z):=by
   by_cases h:z=a
   ·subst h;simp [eqV]
   ·have h':¬ a=z:=fun q=>h q.symm;simp [eqV,h,h']
  rw [e];simp [B6]
theorem qF0 (zs:List Int):(zs.map V.int).all qLB=true:=by
 rw [G8];intro x hx;obtain ⟨z,_,rfl⟩:=E2.mp hx
 rfl
def qYY (ns st:List Int) (Aa wk:Int):V:=if wk ∈ st then .str "there" else if ∀ x ∈ ns,x ∈ st then (if Aa<=(st.length:Int) then .str "full" else .non) else .str "needs"
def qRI (st:List Int) (wk:Int):V:=if wk ∈ st then .non else .str "empty"
def qYX (ns st:List Int) (Aa:Int) (Ac:Str) (wk:Int):V:=if Ac = "do" then qYY ns st Aa wk else qRI st wk
theorem qBT {xs:List V} {i:Int} {x:V} (h0:0<=i) (h:xs[i.toNat]?=some x):atI xs i=some x:=by
 have e:i=((i.toNat:Nat):Int):=by omega
 rw [e];exact qUI (by simpa using h)
theorem NetAt.get {H:Hp} {a:Addr} {Ae:List (List Int)} {ns:List Int} {i:Nat} (h:NetAt H a Ae) (e:Ae[i]?=some ns):∃ (rs:List Addr) (r:Addr),H a=some (.tup (rs.map V.ref))/\rs.length=Ae.length/\(rs.map V.ref)[i]?=some (.ref r)/\H r=some (.tup (ns.map V.int)):=by
 obtain ⟨rs,h1,h2⟩:=h;obtain ⟨r,h3,h4⟩:=h2.get e;exact ⟨rs,r,h1,C7 h2,by rw [B1,h3];rfl,h4⟩
def qaV (t:TS):TS:=fun D σ H=>∃ Pm:St->Hp->Prop,t { D with nx:=Pm } σ H/\∀ σ' H',Pm σ' H'->D.nx σ' H'
theorem qO3 {X:Cx} {st:Stmt} {t:TS} (h:PS X st t):PS X st (qaV t):=by
 intro Ab s σ H D I hq;obtain ⟨Pm,h1,h2⟩:=hq;refine thn (h Ab s σ H _ I h1) fun f s' q=>?_;cases f with
 | next=>obtain ⟨σ',H',I',q⟩:=q;exact ⟨σ',H',I',h2 _ _ q⟩
 | brk=>exact q
 | cont=>exact q
 | ret u=>exact q
theorem qaJ:bootBuiltins "zip" = some (.type "zip"):=by decide +kernel
def seqO (b:Bool) (xs:List V):HO:=match b with | true=>.tup xs | false=>.lst xs
def Leaf (x:V):Prop:=x=.non\/(∃ i,x=.int i)\/∃ y,x=.str y
def Alike (H:Hp):Nat->V->V->Prop
 | 0,x,y=>x=y/\Leaf x
 | n+1,x,y=>(x=y/\Leaf x)\/∃ (b:Bool) (a c:Addr) (xs ys:List V),x=.ref a/\y=.ref c/\H a=some (seqO b xs)/\H c=some (seqO b ys)/\xs.length=ys.length/\xs.length<=100000/\∀ (i:Nat) (x' y':V),xs[i]?=some x'->ys[i]?=some y'->Alike H n x' y'
theorem Alike.same {H H':Hp} (s:Same H H'):∀ {n:Nat} {x y:V},Alike H n x y->Alike H' n x y:=by
 intro n
 induction n with
 | zero=>exact fun {x y} h=>show x=y/\Leaf x from h
 | succ n ih=>
  rintro x y (h | ⟨b,a,c,xs,ys,e1,e2,h1,h2,hl,hb,h⟩)
  ·exact .inl h
  ·exact .inr ⟨b,a,c,xs,ys,e1,e2,s _ _ h1,s _ _ h2,hl,hb,fun i x' y' q1 q2=>ih (h i x' y' q1 q2)⟩
def qZ9 (n:Nat):Sp:=fun vs H Q _=>∃ x y:V,vs=[x,y]/\Alike H n x y/\∀ H',Same H H'->Q (.bl true) H'
theorem SqB.of {b:Bool} {K:PySem.W.Frag} {H:Hp} {a:Addr} {xs:List V} (h:H a=some (seqO b xs)):SqB b K H a xs:=by
 cases b
 ·exact SqL.of h
 ·exact SqT.of h
def tyOf (b:Bool):Value:=match b with | true=>.type "tuple" | false=>.type "list"
theorem qIE {b:Bool} {K:PySem.W.Frag} {H:Hp} {a:Addr} {xs:List V} (h:H a=some (seqO b xs)):TyOf K H (.ref a) (tyOf b):=by
 cases b
 ·exact TyOf.lst h
 ·exact TyOf.tup h
section
variable {K:PySem.W.Frag}
theorem qK7 (b:Bool):M4 K (tyOf b) (.type "list")=some (!b):=by cases b <;> rfl
theorem qMR (b:Bool):M4 K (tyOf b) (.type "tuple")=some b:=by cases b <;> rfl
theorem qa1:M4 K (.type "str") (.type "list")=some false:=by rfl
theorem qa0:M4 K (.type "str") (.type "tuple")=some false:=by rfl
theorem qWY:M4 K (.type "str") (.type "str")=some true:=by rfl
theorem qa4:M4 K (.type "int") (.type "list")=some false:=by rfl
theorem qa2:M4 K (.type "int") (.type "tuple")=some false:=by rfl
theorem qa3:M4 K (.type "int") (.type "str")=some false:=by rfl
theorem qa5:M4 K (.type "int") (.type "int")=some true:=by rfl
theorem qa6:M4 K (.type "int") (.type "bool")=some false:=by rfl
end
theorem qUD {i:Nat}:((C1 i true).map V.bl)++[V.bl true]=(C1 (i+1) true).map V.bl:=by
 rw [X0,A9];rfl
theorem qUL {n:Nat}:(C1 n true).all id=true:=by simp
theorem qDI {α:Type} {p:α->Bool} {l:List α} {i:Nat} {x:α} (h:l[i]?=some x):(l.take (i+1)).filter p=(l.take i).filter p++(if p x then [x] else []):=by
 rw [C4,h,C0,i8];by_cases hp:p x=true
 ·simp [hp]
 ·simp [hp]
end Fw
namespace L2
open PySem PySem.Spec PyProof.Rows Fw
section
variable {X:Cx} {Ab:List (Addr × Obj)} {σ:St} {H:Hp} {s:Shared}
end
end L2
namespace HT
open PySem PySem.Spec PyProof.Rows
section
variable {prog:Program} {w:World} {A:Around} {E:Value->Shared->Prop} {s:Shared}
end
end HT
namespace L2
open PySem PySem.Spec PyProof.Rows Fw
section
variable {X:Cx} {e:Expr} {te:TE} {st:Option Expr} {tst:TO} {pos p2:Pos}
theorem qO6 (hu:X.A.units<cLine):OpR X (compareOp .NotEq) (fun x y H Q=>∃ (p l:Addr) (zs ys:List Int),x=.ref p/\y=.ref l/\SqL X.K H p (zs.map V.int)/\SqL X.K H l (ys.map V.int)/\Q (.bl (decide (zs ≠ ys))) H):=by
 intro Ab s σ H x y v u Q I rx ry h;obtain ⟨p,l,zs,ys,rfl,rfl,h1,h2,q⟩:=h;cases rx;cases ry;obtain ⟨us,r1,p1,z1⟩:=I.list h1;obtain ⟨vs,r2,p2,z2⟩:=I.list h2;have l1:=r1.length;have l2:=r2.length;rw [A0] at l1 l2;by_cases hl:zs.length=ys.length
 ·refine m4 (e:=fun j=>decide (zs[j]?=ys[j]?)) p1.isList p2.isList (by simp [<- l1,<- l2,hl]) hu (fun j h1 h2=>?_) _ _ _ _ ⟨.bl (decide (zs ≠ ys)),H,I,?_,q⟩
  ·rw [A8] at h1 h2;have hz:j<zs.length:=by omega
   have hy:j<ys.length:=by omega
   obtain ⟨a,ea,ra⟩:=r1.get (i:=j) (x:=.int zs[j]) (by rw [B1,A1 hz];rfl)
   obtain ⟨b,eb,rb⟩:=r2.get (i:=j) (x:=.int ys[j]) (by rw [B1,A1 hy];rfl)
   obtain ⟨t,rfl⟩:=ra;obtain ⟨t',rfl⟩:=rb;have e1:us.toArray[j]=.int zs[j] t:=by
    rw [U1];exact C6 ((A1 h1).symm.trans ea)
   have e2:vs.toArray[j]=.int ys[j] t':=by
    rw [U1];exact C6 ((A1 h2).symm.trans eb)
   rw [e1,e2];have:=i6 (A:=X.A.in1) (s:=s) zs[j] t ys[j] t';rw [show (zs[j] == ys[j])=decide (zs[j]?=ys[j]?) by rw [A1 hz,A1 hy];by_cases c:zs[j]=ys[j] <;> simp [c]] at this
   exact this
  ·show R0 _=R0 _;congr 1;rw [A8,<- l1];by_cases c:zs=ys
   ·subst c;simp
   ·have dc:decide (zs ≠ ys)=true:=decide_eq_true c;rw [dc];rw [A30];rw [<- A44,G8];intro z;apply c;apply Z4;intro i;by_cases hi:i<zs.length
    ·exact of_decide_eq_true (z i (M8.mpr hi))
    ·rw [F5 (by omega),F5 (by omega)]
 ·refine A17 p1.isList p2.isList (by simp;omega) hu _ _ _ _ ⟨.bl true,H,I,rfl,?_⟩
  have:decide (zs ≠ ys)=true:=decide_eq_true (fun z=>hl (by rw [z]))
  rw [this] at q;exact q
theorem qHL {K:PySem.W.Frag} (hK:X.K=K):qDM X (.builtin "isinstance") (fun xs H Q=>∃ x T t b,xs=[x,.ty T]/\TyOf K H x t/\M4 K t (.type T)=some b/\Q (.bl b) H):=by subst hK;exact qB2
end
end L2
namespace Fw
open PySem L2
theorem qH1 {α β:Type} {F:α->β->Prop} {a c:List α} {b d:List β} (h:Paired F a b) (k:Paired F c d):Paired F (a++c) (b++d):=by
 induction h with
 | nil=>exact k
 | cons r t ih=>exact .cons r ih
def wd (Ae:List (List Int)) (st:List Int) (Aa:Int) (m:Str × Int):V:=qYX ((Ae[m.2.toNat]?).getD []) st Aa m.1 m.2
theorem rep0:∀ n:Nat,(C1 n [V.int 0]).flatten=(C1 n (0:Int)).map V.int
 | 0=>rfl
 | n+1=>by rw [I0,I0,E9,rep0 n];rfl
theorem qO1 {n:Int} {i:Nat} (h:(i:Int)<n):(qDD 0 n)[i]?=some (i:Int):=by
 unfold qDD;rw [B1,X5 (by omega)]
 simp
theorem qAX {α:Type} {l:List α} {n:Nat} (h:l.length=n):l.take n=l:=G0 (by omega)
theorem qF1 {p:Int->Bool} {l:List Int} {i:Nat}:((l.take i).filter p).length<=i:=by
 have:=W4 p (l.take i);rw [D1] at this;omega
structure Cnt (n:Nat) (cs:List Int) (seen:List Int):Prop where
 len:cs.length=n
 at_:∀ x:Nat,x<n->∃ c,cs[x]?=some c/\0<=c/\(c=0 ↔ (x:Int) ∉ seen)
theorem qBD {n:Nat} (h:n<=1000000):n<sizeLine:=by rw [sizeLine_eq];omega
inductive Nd (Ae:List (List Int)) (Ad:List Int):Int->Prop
 | ask {x:Int}:x ∈ Ad->Nd Ae Ad x
 | need {w y:Int} {zs:List Int}:Nd Ae Ad w->Ae[w.toNat]?=some zs->y ∈ zs->Nd Ae Ad y
structure KeysI (Af:List (Key × V)) (ks:List Int):Prop where
 keys:Af.map (·.1)=ks.map J1
 nd:ks.Nodup
theorem KeysI.len {Af:List (Key × V)} {ks:List Int} (h:KeysI Af ks):Af.length=ks.length:=by
 have:=congrArg A00 h.keys;simpa using this
theorem KeysI.nil:KeysI [] []:=⟨rfl,.nil⟩
theorem qOT (k:Key):∀ Af:List (Key × V),(Af.any fun kv=>decide (kv.1=k))=true ↔ k ∈ Af.map (·.1)
 | []=>by simp
 | p::r=>by
  rw [W6,B9,V9,qOT k r,B6,decide_eq_true_eq];exact or_congr_left ⟨Eq.symm,Eq.symm⟩
theorem KeysI.mem {Af:List (Key × V)} {ks:List Int} (h:KeysI Af ks) (x:Int):(J1 x:Key) ∈ Af.map (·.1) ↔ x ∈ ks:=by
 rw [h.keys,E2];exact ⟨fun ⟨y,hy,e⟩=>Z0 e ▸ hy,fun hx=>⟨x,hx,rfl⟩⟩
theorem KeysI.has {Af:List (Key × V)} {ks:List Int} (h:KeysI Af ks) (x:Int):(valV Af (J1 x)).isSome=decide (x ∈ ks):=by
 rw [<- qE5];have:=(qOT (J1 x) Af).trans (h.mem x);by_cases e:x ∈ ks
 ·rw [decide_eq_true e];exact this.mpr e
 ·rw [decide_eq_false e];exact Z6.mpr fun z=>e (this.mp z)
theorem qPN (k:Key) (v:V):∀ Af:List (Key × V),(Af.map fun kv=>if kv.1=k then (kv.1,v) else kv).map (·.1)=Af.map (·.1)
 | []=>rfl
 | p::r=>by
  rw [B9,B9,B9,qPN k v r];congr 1
  split <;> rfl
theorem KeysI.put {Af:List (Key × V)} {ks:List Int} (h:KeysI Af ks) (x:Int) (v:V):KeysI (putK Af (J1 x) v) (addI ks x):=by
 have key:=(qOT (J1 x) Af).trans (h.mem x);unfold putK addI;by_cases e:x ∈ ks
 ·rw [if_pos (key.mpr e),if_pos e];exact ⟨by rw [qPN];exact h.keys,h.nd⟩
 ·rw [if_neg fun z=>e (key.mp z),if_neg e];refine ⟨by rw [A9,A9,h.keys];rfl,qL3 h.nd e⟩
theorem qIW {ks:List Int} {n:Nat} (h:ks.Nodup) (b:∀ x ∈ ks,0<=x/\x<(n:Int)):ks.length<=n:=by
 have sub:ks ⊆ (F6 n).map fun (i:Nat)=>(i:Int):=fun x hx=>by
  have:=b x hx;exact E2.mpr ⟨x.toNat,M8.mpr (by omega),by omega⟩
 have:=J7 h sub;simpa using this
structure Fnd (Ae:List (List Int)) (Ad ks:List Int) (j:Int):Prop where
 in_:∀ x ∈ ks,(0<=x/\x<(Ae.length:Int))/\Nd Ae Ad x
 ask:∀ x ∈ Ad,x ∈ ks
 clo:∀ (w:Nat) zs,j<=(w:Int)->(w:Int) ∈ ks->Ae[w]?=some zs->∀ y ∈ zs,y ∈ ks
theorem Fnd.all {Ae:List (List Int)} {Ad ks:List Int} (wf:WFn Ae) (h:Fnd Ae Ad ks 0) (x:Int):x ∈ ks ↔ Nd Ae Ad x:=by
 refine ⟨fun hx=>(h.in_ x hx).2,fun hx=>?_⟩
 induction hx with
 | ask m=>exact h.ask _ m
 | @need w y zs _ e m ih=>
  have b:=(h.in_ w ih).1;exact h.clo w.toNat zs (by omega) (by rw [show ((w.toNat:Nat):Int)=w by omega];exact ih) e y m
def qB5 (Ae:List (List Int)) (Ad zs:List Int):Prop:=Rise (Ae.length:Int) zs/\∀ x,x ∈ zs ↔ Nd Ae Ad x
theorem qUT:∀ {l m:List Int},l.Pairwise (·<·)->m.Pairwise (·<·)->(∀ x,x ∈ l ↔ x ∈ m)->l=m
 | [],[],_,_,_=>rfl
 | [],y::m,_,_,h=>absurd ((h y).mpr (by simp)) (by simp)
 | x::l,[],_,_,h=>absurd ((h x).mp (by simp)) (by simp)
 | x::l,y::m,hl,hm,h=>by
  have l1:=L6.mp hl;have m1:=L6.mp hm;have exy:x=y:=by
   rcases B6.mp ((h x).mp (by simp)) with e | e
   ·exact e
   ·rcases B6.mp ((h y).mpr (by simp)) with e2 | e2
    ·exact e2.symm
    ·have:=m1.1 x e;have:=l1.1 y e2;omega
  subst exy;rw [qUT l1.2 m1.2 fun z=>?_]
  constructor
  ·intro hz;rcases B6.mp ((h z).mp (by simp [hz])) with e | e
   ·have:=l1.1 z hz;omega
   ·exact e
  ·intro hz;rcases B6.mp ((h z).mpr (by simp [hz])) with e | e
   ·have:=m1.1 z hz;omega
   ·exact e
theorem qRK {ws:List Int} (up:ws.Pairwise (·<·)) {i j:Nat} {x y:Int} (hx:ws[i]?=some x) (hy:ws[j]?=some y):i<j ↔ x<y:=by
 obtain ⟨hi,ex⟩:=A4.mp hx;obtain ⟨hj,ey⟩:=A4.mp hy;have key:∀ a b (ha:a<ws.length) (hb:b<ws.length),a<b->ws[a]<ws[b]:=fun a b ha hb hab=>F3.mp up a b ha hb hab
 constructor
 ·intro h;have:=key i j hi hj h;omega
 ·intro h;rcases Z5 i j with z | z | z
  ·exact z
  ·subst z;omega
  ·have:=key j i hj hi z;omega
theorem qSP {Ae:List (List Int)} (wf:WFn Ae) (w:Nat):Rise (w:Int) ((Ae[w]?).getD []):=by
 cases e:Ae[w]? with
 | none=>exact Rise.nil
 | some zs=>exact wf w zs e
def qUW:Sp:=fun vs H Q _=>∃ (a t:Addr) (Ae:List (List Int)) (Ad:List Int),vs=[.ref a,.ref t]/\NetAt H a Ae/\WFn Ae/\Ae.length<=63/\H t=some (.tup (Ad.map V.int))/\(∀ x ∈ Ad,0<=x/\x<(Ae.length:Int))/\
 ∀ l zs H',Same H H'->H l=none->H' l=some (.lst (zs.map V.int))->qB5 Ae Ad zs->Q (.ref l) H'
abbrev Mv:=Str × Int
def nd (Ae:List (List Int)) (w:Int):List Int:=(Ae[w.toNat]?).getD []
theorem qAF {Ae:List (List Int)} {w:Int} {zs:List Int} (h:Ae[w.toNat]?=some zs):nd Ae w=zs:=by unfold nd;rw [h];rfl
def qB8 (Ae:List (List Int)):List Int->Int->Option Int
 | [],_=>none
 | w::r,y=>match qB8 Ae r y with
  | some v=>some v
  | none=>if y ∈ nd Ae w then some w else none
theorem qK6 {Ae:List (List Int)} {y v:Int}:∀ {l:List Int},qB8 Ae l y=some v->v ∈ l/\y ∈ nd Ae v
 | [],h=>by cases h
 | w::r,h=>by
  unfold qB8 at h;cases e:qB8 Ae r y with
  | some u=>
   rw [e] at h;cases h;have:=qK6 e;exact ⟨A5 _ this.1,this.2⟩
  | none=>
   rw [e] at h;dsimp only at h
   split at h
   ·cases h;exact ⟨A6,by assumption⟩
   ·cases h
theorem lastOf_none {Ae:List (List Int)} {y:Int}:∀ {l:List Int},qB8 Ae l y=none ↔ ∀ v ∈ l,y ∉ nd Ae v
 | []=>by simp [qB8]
 | w::r=>by
  unfold qB8;have ih:=lastOf_none (Ae:=Ae) (y:=y) (l:=r);cases e:qB8 Ae r y with
  | some u=>
   refine ⟨fun z=>(by cases z),fun z=>?_⟩
   have:=ih.mpr fun v hv=>z v (A5 _ hv);rw [e] at this;cases this
  | none=>
   dsimp only;have q:=ih.mp e
   constructor
   ·intro z v hv
    split at z
    ·cases z
    ·rcases B6.mp hv with rfl | hv
     ·assumption
     ·exact q v hv
   ·intro z;rw [if_neg (z w A6)]
theorem qJ1 {Ae:List (List Int)} {w y:Int}:∀ {l:List Int},qB8 Ae (l++[w]) y=if y ∈ nd Ae w then some w else qB8 Ae l y
 | []=>by simp [qB8]
 | x::l=>by
  rw [P4];unfold qB8;rw [qJ1 (l:=l)];by_cases h:y ∈ nd Ae w
  ·rw [if_pos h,if_pos h]
  ·rw [if_neg h,if_neg h]
def qEC (Ae:List (List Int)) (zs:List Int) (j:Nat) (x:Int):Prop:=∃ v ∈ zs.drop j,x ∈ nd Ae v
instance (Ae:List (List Int)) (zs:List Int) (j:Nat) (x:Int):Decidable (qEC Ae zs j x):=by unfold qEC;infer_instance
theorem qMP {Ae:List (List Int)} {zs:List Int} (n:zs.Nodup) {i:Nat} {w:Int} (h:zs[i]?=some w) (y:Int):qB8 Ae zs y=some w ↔ y ∈ nd Ae w/\¬ qEC Ae zs (i+1) y:=by
 obtain ⟨hi,e⟩:=A4.mp h;have split:zs=zs.take i++w::zs.drop (i+1):=by rw [<- e,<- T9 hi,M3]
 have key:∀ (a b:List Int),w ∉ a->w ∉ b->(qB8 Ae (a++w::b) y=some w ↔ y ∈ nd Ae w/\¬ ∃ v ∈ b,y ∈ nd Ae v):=by
  intro a b ha hb
  induction a with
  | nil=>
   show qB8 Ae (w::b) y=some w ↔ _;unfold qB8;cases q:qB8 Ae b y with
   | some v=>
    have:=qK6 q
    constructor
    ·intro z;cases z;exact absurd this.1 hb
    ·rintro ⟨_,z⟩;exact absurd ⟨v,this.1,this.2⟩ z
   | none=>
    have:=lastOf_none.mp q;dsimp only
    constructor
    ·intro z
     split at z
     ·rename_i hy
      exact ⟨hy,fun ⟨v,hv,hy2⟩=>this v hv hy2⟩
     ·cases z
    ·rintro ⟨z,_⟩;rw [if_pos z]
  | cons x a ih=>
   have ih:=ih fun z=>ha (A5 _ z);rw [P4];unfold qB8;cases q:qB8 Ae (a++w::b) y with
   | some v=>
    rw [q] at ih;exact ih
   | none=>
    rw [q] at ih;dsimp only
    constructor
    ·intro z
     split at z
     ·cases z;exact absurd A6 ha
     ·cases z
    ·intro z;exact absurd (ih.mpr z) (by simp)
 have n2:=n;rw [split] at n2;have n3:=G5.mp n2;have wb:w ∉ zs.drop (i+1):=(G7.mp n3.2.1).1;have wa:w ∉ zs.take i:=fun z=>n3.2.2 w z w A6 rfl;have:=key (zs.take i) (zs.drop (i+1)) wa wb;rw [<- split] at this;exact this
inductive Run (Ae:List (List Int)) (Aa:Int):List Int->List Mv->List Int->Prop
 | nil {s:List Int}:Run Ae Aa s [] s
 | do_ {s s' t:List Int} {w:Int} {ms:List Mv}:w ∉ s->(∀ y ∈ nd Ae w,y ∈ s)->(s.length:Int)<Aa->s'.Perm (s++[w])->s'.Pairwise (·<·)->Run Ae Aa s' ms t->Run Ae Aa s (("do",w)::ms) t
 | clear {s t:List Int} {w:Int} {ms:List Mv}:w ∈ s->Run Ae Aa (s.filter fun x=>decide (x ≠ w)) ms t->Run Ae Aa s (("clear",w)::ms) t
section
variable {Ae:List (List Int)} {Ad zs:List Int}
theorem qD9 (wf:WFn Ae) (N:qB5 Ae Ad zs) {i:Nat} {w y:Int} (h:zs[i]?=some w) (hy:y ∈ nd Ae w):y ∈ zs.take i/\y<w:=by
 have mw:=B4 h;have wb:=N.1.in_ w mw;have hw:w.toNat<Ae.length:=by omega
 have e:=A1 hw;rw [qAF e] at hy;have yb:=(wf w.toNat _ e).in_ y hy;have my:y ∈ zs:=(N.2 y).mpr (.need ((N.2 w).mp mw) e hy);obtain ⟨k,hk⟩:=G2 my;have lt:k<i:=(qRK N.1.up hk h).mpr (by omega)
 refine ⟨B4 (i:=k) (by rw [X7 lt];exact hk),by omega⟩
theorem qWG (N:qB5 Ae Ad zs) (wf:WFn Ae) {i:Nat} {w:Int} (h:zs[i]?=some w):w ∈ Ad\/qEC Ae zs (i+1) w:=by
 have mw:=B4 h;cases (N.2 w).mp mw with
 | ask m=>exact .inl m
 | @need v _ ns hv e hm=>
  have mv:=(N.2 v).mpr hv;obtain ⟨k,hk⟩:=G2 mv;have q:=qD9 wf N hk (by rw [qAF e];exact hm)
  have lt:i<k:=(qRK N.1.up h hk).mpr q.2;refine .inr ⟨v,B4 (i:=k - (i+1)) ?_,by rw [qAF e];exact hm⟩
  rw [List.getElem?_drop,show i+1+(k - (i+1))=k by omega]
  exact hk
theorem qNX (N:qB5 Ae Ad zs) {i:Nat} {w x:Int} (h:zs[i]?=some w) (hx:x ∈ zs.take i):x<w:=by
 obtain ⟨k,hk⟩:=G2 hx;have lk:k<i:=by have:=(A4.mp hk).1;rw [D1] at this;omega
 rw [X7 lk] at hk;exact (qRK N.1.up hk h).mp lk
theorem qbE (wf:WFn Ae) (w:Int):(nd Ae w).Pairwise (·<·):=(qSP wf w.toNat).up
theorem qK4 {ys:List Int} (a:qB5 Ae Ad zs) (b:qB5 Ae Ad ys):zs=ys:=qUT a.1.up b.1.up fun x=>(a.2 x).trans (b.2 x).symm
end
def qYP (H:Hp) (t:Addr) (Ae:List (List Int)) (Ad:List Int):Prop:=H t=some (.tup (Ad.map V.int))/\Rise (Ae.length:Int) Ad
def qKP:Sp:=fun vs H Q _=>∃ (a t:Addr) (Ae:List (List Int)) (Ad:List Int),vs=[.ref a,.ref t]/\NetAt H a Ae/\WFn Ae/\Ae.length<=63/\qYP H t Ae Ad/\
 ∀ l zs H',Same H H'->H l=none->H' l=some (.lst (zs.map V.int))->qB5 Ae Ad zs->Q (.ref l) H'
def lv (L:List Int) (x:Int):Int:=(L[x.toNat]?).getD 0
structure Lev (Ae:List (List Int)) (L:List Int):Prop where
 len:L.length=Ae.length
 at_:∀ (i:Nat) zs,Ae[i]?=some zs->∃ l,L[i]?=some l/\0<=l/\l<=(i:Int)/\(∀ y ∈ zs,lv L y+1<=l)/\(l=0\/∃ y ∈ zs,lv L y+1=l)
structure Fd (n:Nat) (L:List Int) (S:Int->Prop) (fs:List Int):Prop where
 len:fs.length=n
 at_:∀ w:Nat,w<n->(S w->fs[w]?=some (lv L w))/\(¬ S w->fs[w]?=some 0)
def nds (Ae:List (List Int)) (ws:List Int):List Int:=(ws.map (nd Ae)).flatten
theorem qVF {Ae:List (List Int)} {ws:List Int} {i:Nat} {x:Int} (h:ws[i]?=some x):nds Ae (ws.take (i+1))=nds Ae (ws.take i)++nd Ae x:=by
 unfold nds;rw [C4,h,C0,A9,R5];simp
structure CntX (n:Nat) (cs:List Int) (seen:List Int):Prop where
 len:cs.length=n
 at_:∀ x:Nat,x<n->cs[x]?=some ((seen.count (x:Int):Nat):Int)
theorem CntX.nil (n:Nat):CntX n (C1 n 0) []:=⟨by simp,fun x hx=>by simp [hx]⟩
theorem CntX.bump {n:Nat} {cs seen:List Int} {z c:Int} (h:CntX n cs seen) (h0:0<=z) (h1:z<n) (hc:cs[z.toNat]?=some c):CntX n (cs.set z.toNat (c+1)) (seen++[z]):=by
 refine ⟨by rw [d3];exact h.len,fun x hx=>?_⟩
 rw [m6];by_cases e:x=z.toNat
 ·subst e;have q:=h.at_ _ hx;rw [hc] at q;rw [V4 (by rw [h.len];exact hx)]
  have ez:((z.toNat:Nat):Int)=z:=by omega
  rw [ez] at q ⊢;have e1:=C6 q;have e2:[z].count z=1:=by simp
  rw [e2,e1]
  rfl
 ·rw [W9 (by omega),h.at_ x hx]
  have e2:[z].count (x:Int)=0:=by
   rw [i9];simp;omega
  rw [e2]
  rfl
theorem CntX.get {n:Nat} {cs seen:List Int} (h:CntX n cs seen) {x:Int} (h0:0<=x) (h1:x<n):cs[x.toNat]?=some ((seen.count x:Nat):Int):=by
 have:=h.at_ x.toNat (by omega)
 rw [show ((x.toNat:Nat):Int)=x by omega] at this
 exact this
theorem qMG {Ae:List (List Int)} (wf:WFn Ae) {work x:Int} (h:Nd Ae [work] x):x<=work:=by
 induction h with
 | ask m=>rw [A3.mp m];exact E6 _
 | @need w y zs _ e m ih=>
  have:=(wf _ _ e).in_ y m;omega
def cI (Ae:List (List Int)) (zs:List Int) (x:Int):Int:=(((nds Ae zs).count x:Nat):Int)
def qNU (Ae:List (List Int)) (work:Int) (zs:List Int):Bool:=zs.all fun x=>decide (x ≠ work->cI Ae zs x=1)
theorem qUV (Ae:List (List Int)) (work:Int) (zs:List Int):(((zs.filter fun x=>decide (x ≠ work)).map fun x=>decide (V.int (cI Ae zs x)=V.int 1)).all id)=qNU Ae work zs:=by
 unfold qNU;generalize hc:cI Ae zs=c;clear hc
 induction zs with
 | nil=>rfl
 | cons x r ih=>
  rw [M5,m8,<- ih];by_cases e:x=work
  ·rw [if_neg (by simp [e])]
   have:decide (x ≠ work->c x=1)=true:=decide_eq_true fun z=>absurd e z;rw [this]
   rfl
  ·rw [if_pos (by simp [e]),B9,m8]
   congr 1;exact decide_eq_decide.mpr ⟨fun z _=>V.int.inj z,fun z=>by rw [z e]⟩
def qZB:Sp:=fun vs H Q _=>∃ (a lw:Addr) (Ae:List (List Int)) (ws:List Int),vs=[.ref a,.ref lw]/\NetAt H a Ae/\WFn Ae/\Ae.length<=63/\H lw=some (.lst (ws.map V.int))/\(∀ x ∈ ws,0<=x/\x<(Ae.length:Int))/\
 ∀ l cs H',Same H H'->H l=none->H' l=some (.lst (cs.map V.int))->CntX Ae.length cs (nds Ae ws)->Q (.ref l) H'
def qP4:Sp:=fun vs H Q _=>∃ (a:Addr) (Ae:List (List Int)) (work:Int),vs=[.ref a,.int work]/\NetAt H a Ae/\WFn Ae/\Ae.length<=63/\0<=work/\work<(Ae.length:Int)/\
 ∀ zs H',Same H H'->qB5 Ae [work] zs->Q (.bl (qNU Ae work zs)) H'
def Beh (st st':List Int) (Ac:Str) (wk:Int):Prop:=(Ac = "do"->st'.Perm (st++[wk])/\st'.Pairwise (·<=·))/\(Ac = "clear"->st'=st.filter fun x=>decide (x ≠ wk))
inductive Play (Ae:List (List Int)) (Aa:Int):List Int->List Mv->List (List Int)->V->Prop
 | nil {st}:Play Ae Aa st [] [] .non
 | stop {st m ms w0}:wd Ae st Aa m=.str w0->Play Ae Aa st (m::ms) [] (.str w0)
 | go {st st' m ms sts v}:wd Ae st Aa m=.non->Beh st st' m.1 m.2->Play Ae Aa st' ms sts v->Play Ae Aa st (m::ms) (st'::sts) v
def Once (Ae:List (List Int)) (n:Nat):Prop:=∀ (i j:Nat) (zi zj:List Int) (x:Int),i<n->j<n->Ae[i]?=some zi->Ae[j]?=some zj->x ∈ zi->x ∈ zj->i=j
def Opens (Ae:List (List Int)) (os:List Int):Prop:=Once Ae Ae.length/\∀ x ∈ os,∀ (i:Nat) (zi:List Int),Ae[i]?=some zi->x ∉ zi
theorem Opens.nil:Opens [] []:=⟨(fun i j _ _ _ h=>absurd h (Nat.not_lt_zero _)),(fun x h=>nomatch h)⟩
theorem qGH {α:Type} {l:List α} {z y:α} {i:Nat} (h:(l++[z])[i]?=some y):(i<l.length/\l[i]?=some y)\/(i=l.length/\y=z):=by
 by_cases c:i<l.length
 ·rw [D8 c] at h;exact .inl ⟨c,h⟩
 ·rw [G1 (by omega)] at h
  have hl:=(A4.mp h).1;rw [C3] at hl;have e:i - l.length=0:=by omega
  rw [e] at h;exact .inr ⟨by omega,(C6 h).symm⟩
theorem Opens.step {Ae:List (List Int)} {os:List Int} {kk:Nat} (h:Opens Ae os) (wf:WFn Ae) (r:Rise (Ae.length:Int) os):Opens (Ae++[os.drop kk]) (os.take kk++[(Ae.length:Int)]):=by
 have old:∀ x ∈ os.drop kk,∀ (i:Nat) (zi:List Int),Ae[i]?=some zi->x ∉ zi:=fun x hx=>h.2 x (P3 hx)
 constructor
 ·intro i j zi zj x _ _ e1 e2 h1 h2;rcases qGH e1 with ⟨c1,g1⟩ | ⟨c1,g1⟩
  ·rcases qGH e2 with ⟨c2,g2⟩ | ⟨c2,g2⟩
   ·exact h.1 i j zi zj x c1 c2 g1 g2 h1 h2
   ·subst g2;exact absurd h1 (old x h2 i zi g1)
  ·rcases qGH e2 with ⟨c2,g2⟩ | ⟨c2,g2⟩
   ·subst g1;exact absurd h2 (old x h1 j zj g2)
   ·omega
 ·intro x hx i zi e hz;rcases D6.mp hx with m | m
  ·rcases qGH e with ⟨c1,g1⟩ | ⟨c1,g1⟩
   ·exact h.2 x (M7 m) i zi g1 hz
   ·subst g1;have up:=r.up;rw [<- M3 kk os] at up;have:=(Q4.mp up).2.2 x m x hz;omega
  ·have ex:=A3.mp m;subst ex;rcases qGH e with ⟨c1,g1⟩ | ⟨c1,g1⟩
   ·have:=((wf i zi g1).in_ _ hz).2;omega
   ·subst g1;have:=(r.in_ _ (P3 hz)).2;omega
theorem qKE {Ae:List (List Int)} {x v:Int}:∀ {l:List Int},l.Nodup->v ∈ l->(∀ u ∈ l,x ∈ nd Ae u->u=v)->x ∈ nd Ae v->(nd Ae v).Nodup->(nds Ae l).count x=1
 | [],_,h,_,_,_=>by cases h
 | u::l,n,h,only,hx,nv=>by
  have n2:=G7.mp n;have e:nds Ae (u::l)=nd Ae u++nds Ae l:=by simp [nds]
  rw [e,m6];by_cases c:u=v
  ·subst c;have c1:(nd Ae u).count x=1:=by
    have a:=List.nodup_iff_count.mp nv x;have b:=j6.mpr hx;omega
   have c2:(nds Ae l).count x=0:=i9.mpr fun m=>by
    obtain ⟨ys,hy,hm⟩:=J2.mp m;obtain ⟨w,hw,ew⟩:=E2.mp hy;rw [<- ew] at hm;exact n2.1 (only w (A5 _ hw) hm ▸ hw)
   omega
  ·have c1:(nd Ae u).count x=0:=i9.mpr fun m=>c (only u A6 m);have:=qKE n2.2 ((B6.mp h).resolve_left fun z=>c z.symm) (fun w hw=>only w (A5 _ hw)) hx nv;omega
theorem qIV {Ae:List (List Int)} {work:Int} {zs:List Int} (N:qB5 Ae [work] zs):work ∈ zs:=(N.2 work).mpr (.ask (A3.mpr rfl))
def qNY:Sp:=fun vs H Q _=>∃ d c t ns m,vs=[.ref d,.int m]/\StAt H d c t ns/\t<=TB - 1000/\1<=m/\m<=63/\
 ∀ a Ae t' ns' H',StAt H' d c t' ns'->t<=t'->t'<=t+m->Keep d c H H'->NetAt H' a Ae->WFn Ae->(Ae.length:Int)=m->Once Ae Ae.length->Q (.ref a) H'
def OrdR (f:Int->Int) (a b:Int):Prop:=f b<f a\/(f a=f b/\a<b)
def mx (a b:Int):Int:=if b > a then b else a
inductive TRun (Ae:List (List Int)):List Int->Int->List Mv->List Int->Int->Prop
 | nil {S:List Int} {m:Int}:TRun Ae S m [] S m
 | do_ {S:List Int} {m:Int} {x:Int} {r:List Mv} {t:List Int} {n:Int}:x ∉ S->(∀ y ∈ nd Ae x,y ∈ S)->TRun Ae (S++[x]) (mx m ((S.length:Int)+1)) r t n->TRun Ae S m ((("do",x):Mv)::r) t n
 | clr {S:List Int} {m:Int} {x:Int} {r:List Mv} {t:List Int} {n:Int}:x ∈ S->TRun Ae (S.erase x) m r t n->TRun Ae S m ((("clear",x):Mv)::r) t n
def tk:Nat->List Int->List Int
 | _,[]=>[]
 | j,x::l=>(x+(j:Int))::tk (j+1) l
theorem qSQ {Ae:List (List Int)} {z y x:Int} (hy:y ∈ nd Ae z) (h:Nd Ae [y] x) (b:∃ zs,Ae[z.toNat]?=some zs):Nd Ae [z] x:=by
 induction h with
 | ask m=>
  obtain ⟨zs,e⟩:=b;rw [A3.mp m];exact .need (.ask (A3.mpr rfl)) e (by rw [qAF e] at hy;exact hy)
 | need _ e m ih=>exact .need ih e m
structure TIn (Ae:List (List Int)) (zs:List Int) (work:Int):Prop where
 wf:WFn Ae
 N:qB5 Ae [work] zs
 len:Ae.length<=63
 user:∀ {u v x:Int},u ∈ zs->v ∈ zs->x ∈ nd Ae u->x ∈ nd Ae v->u=v
section
variable {Ae:List (List Int)} {zs:List Int} {work:Int}
theorem TIn.get (T:TIn Ae zs work) {z:Int} (hz:z ∈ zs):Ae[z.toNat]?=some (nd Ae z):=by
 have b:=T.N.1.in_ z hz;have hl:z.toNat<Ae.length:=by omega
 have g:=A1 hl;rw [g,qAF g]
theorem TIn.has (T:TIn Ae zs work) {z y:Int} (hz:z ∈ zs) (hy:y ∈ nd Ae z):y ∈ zs/\y<z/\0<=y:=by
 obtain ⟨i,hi⟩:=G2 hz;obtain ⟨h1,h2⟩:=qD9 T.wf T.N hi hy;have h3:=M7 h1;exact ⟨h3,h2,(T.N.1.in_ y h3).1⟩
theorem TIn.sub (T:TIn Ae zs work) {z x:Int} (hz:z ∈ zs) (h:Nd Ae [z] x):x ∈ zs:=by
 induction h with
 | ask m=>rw [A3.mp m];exact hz
 | @need w y ys hw e m ih=>exact (T.has ih (by rw [qAF e];exact m)).1
theorem TIn.chain (T:TIn Ae zs work) {a b x:Int} (ha:a ∈ zs) (hb:b ∈ zs) (h1:Nd Ae [a] x):Nd Ae [b] x->Nd Ae [a] b\/Nd Ae [b] a:=by
 induction h1 with
 | ask m=>
  intro h2;rw [A3.mp m] at h2;exact .inr h2
 | @need w y ys hw e m ih=>
  intro h2;cases h2 with
  | ask m2=>rw [<- A3.mp m2];exact .inl (.need hw e m)
  | @need w2 _ ys2 hw2 e2 m2=>
   have:=T.user (T.sub ha hw) (T.sub hb hw2) (by rw [qAF e];exact m) (by rw [qAF e2];exact m2)
   subst this;exact ih hw2
theorem TIn.apart (T:TIn Ae zs work) {z a b:Int} (hz:z ∈ zs) (ha:a ∈ nd Ae z) (hb:b ∈ nd Ae z) (h:Nd Ae [a] b):a=b:=by
 cases h with
 | ask m=>exact (A3.mp m).symm
 | @need w _ ys hw e m=>
  have h1:=T.has hz ha;have hwz:=T.sub h1.1 hw;have:=T.user hwz hz (by rw [qAF e];exact m) hb
  have:=qMG T.wf hw;omega
theorem TIn.nodup (T:TIn Ae zs work) {z:Int} (hz:z ∈ zs):(nd Ae z).Nodup:=(T.wf _ _ (T.get hz)).nodup
end
theorem qbG {X:Cx} {scope:Scope} {p:Str} {fv:List Nat} {q:Str} (z:LmZ):(lmCx X scope p fv q z).A.units+1<cLine:=by
 have:=z.rm.un;show z.A.units+3+1<cLine;omega
def kvsV (l:List Int) (g:Int->V):List (Key × V):=l.map fun z=>(J1 z,g z)
theorem qED {g:Int->V} {y:Int}:∀ {l:List Int},y ∈ l->valV (kvsV l g) (J1 y)=some (g y)
 | [],h=>by cases h
 | x::l,h=>by
  by_cases e:x=y
  ·subst e;exact qBK rfl
  ·exact (qBL (fun z=>e (Z0 z))).trans (qED ((B6.mp h).resolve_left fun z=>e z.symm))
theorem qMQ {g:Int->V} {y:Int}:∀ {l:List Int},y ∉ l->valV (kvsV l g) (J1 y)=none
 | [],_=>rfl
 | x::l,h=>(qBL (fun z=>h (by rw [<- Z0 z];exact A6))).trans (qMQ fun z=>h (A5 _ z))
theorem qPP {l:List Int} {g:Int->V} {z:Int} {v:V} (h:z ∉ l):putK (kvsV l g) (J1 z) v=kvsV (l++[z]) (fun y=>if y=z then v else g y):=by
 rw [qV5 _ (qMQ h)];unfold kvsV;rw [A9];congr 1
 ·exact K0 fun y hy=>by
   show _=(J1 y,if y=z then v else g y)
   rw [if_neg fun (e:y=z)=>h (e ▸ hy)]
 ·simp
section
variable {Ae:List (List Int)} {zs:List Int} {work:Int}
end
theorem lexT (a b c d:Int):HT.lexLt [a,b] [c,d]=true ↔ a<c\/(a=c/\b<d):=by
 simp only [HT.lexLt];simp
 split <;> omega
section
variable {dp p:Addr} {H Hc Hd:Hp}
end
structure Pck (f:Int->Int) (ys pk lf:List Int):Prop where
 perm:(pk++lf).Perm ys
 up:lf.Pairwise (·<·)
 ord:pk.Pairwise (OrdR f)
 ahead:∀ a ∈ pk,∀ b ∈ lf,OrdR f a b
section
variable {Ae:List (List Int)} {zs:List Int} {work:Int}
def isT (Ae:List (List Int)) (work:Int):Prop:=∃ zs,qB5 Ae [work] zs/\qNU Ae work zs=true
theorem qTA (N:qB5 Ae [work] zs):isT Ae work ↔ qNU Ae work zs=true:=by
 constructor
 ·rintro ⟨z2,N2,h⟩;rw [qK4 N N2];exact h
 ·exact fun h=>⟨zs,N,h⟩
theorem qNA {x u v:Int} (ne:u ≠ v) (h1:x ∈ nd Ae u) (h2:x ∈ nd Ae v):∀ {l:List Int},u ∈ l->v ∈ l->2<=(nds Ae l).count x
 | [],h,_=>by cases h
 | w::l,hu,hv=>by
  have e:nds Ae (w::l)=nd Ae w++nds Ae l:=by simp [nds]
  have pos:∀ y ∈ l,x ∈ nd Ae y->1<=(nds Ae l).count x:=fun y hy hx=>j6.mpr (by
   unfold nds;exact J2.mpr ⟨_,E2.mpr ⟨y,hy,rfl⟩,hx⟩)
  have pw:∀ {y},y=w->x ∈ nd Ae y->1<=(nd Ae w).count x:=fun ey hx=>j6.mpr (ey ▸ hx);rw [e,m6];rcases B6.mp hu with a | a
  ·rcases B6.mp hv with b | b
   ·exact absurd (a.trans b.symm) ne
   ·have:=pw a h1;have:=pos v b h2;omega
  ·rcases B6.mp hv with b | b
   ·have:=pw b h2;have:=pos u a h1;omega
   ·have:=qNA ne h1 h2 a b;omega
theorem qLX (wf:WFn Ae) (n4:Ae.length<=63) (N:qB5 Ae [work] zs) (h:isT Ae work):TIn Ae zs work:=by
 refine ⟨wf,N,n4,fun {u v x} hu hv h1 h2=>?_⟩;have tb:=(qTA N).mp h;unfold qNU at tb;obtain ⟨i,hi⟩:=G2 hu;obtain ⟨a1,a2⟩:=qD9 wf N hi h1;have le:=qMG wf ((N.2 u).mp hu);have:=of_decide_eq_true (G8.mp tb x (M7 a1)) (by omega)
 unfold cI at this;rcases A78 (u=v) with e | e
 ·exact e
 ·have:=qNA e h1 h2 hu hv;omega
end
def NIn (H:Hp) (a:Addr) (Ae:List (List Int)) (work:Int):Prop:=NetAt H a Ae/\WFn Ae/\Ae.length<=63/\0<=work/\work<(Ae.length:Int)
def wdO (ws:List Int) (x:Int):Int:=(ws[x.toNat]?).getD 0
def sumW (ws l:List Int):Int:=(l.map (wdO ws)).sum
def qDH (Ae:List (List Int)) (ws zs:List Int) (p:Nat):Int:=sumW ws ((zs.take p).filter fun x=>decide (qEC Ae zs p x))
def qC4 (Ae:List (List Int)) (ws zs:List Int):List Int:=(F6 zs.length).map fun p=>wdO ws ((zs[p]?).getD 0)+qDH Ae ws zs p
theorem qE6 (ws:List Int):sumW ws []=0:=rfl
theorem qAR (ws l:List Int) (x:Int):sumW ws (x::l)=wdO ws x+sumW ws l:=by simp [sumW]
theorem qHU (ws:List Int):∀ l m:List Int,sumW ws (l++m)=sumW ws l+sumW ws m
 | [],m=>by simp [sumW]
 | x::l,m=>by rw [P4,qAR,qAR,qHU ws l m];omega
theorem qDC {ws l m:List Int} (h:l.Perm m):sumW ws l=sumW ws m:=by
 induction h with
 | nil=>rfl
 | cons x _ ih=>rw [qAR,qAR,ih]
 | swap x y l=>rw [qAR,qAR,qAR,qAR];omega
 | trans _ _ a b=>exact a.trans b
theorem qJW (ws:List Int) (a b:Int->Bool):∀ l:List Int,sumW ws (l.filter fun x=>a x || b x)=sumW ws (l.filter b)+sumW ws (l.filter fun x=>a x && !b x)
 | []=>rfl
 | x::l=>by
  have ih:=qJW ws a b l;cases ea:a x <;> cases eb:b x <;> simp [M5,ea,eb,qAR] at ih ⊢ <;> omega
structure TopO (Ae:List (List Int)) (zs:List Int):Prop where
 nodup:zs.Nodup
 in_:∀ x ∈ zs,0<=x/\x<(Ae.length:Int)
 bef:∀ (p:Nat) (o:Int),zs[p]?=some o->∀ x ∈ nd Ae o,x ∈ zs.take p
 aft:∀ (p:Nat) (o:Int),zs[p]?=some o->p+1<zs.length->qEC Ae zs (p+1) o
theorem qMT {Ae:List (List Int)} {ws zs:List Int} (wf:WFn Ae) (T:TopO Ae zs) {p:Nat} {o:Int} (h:zs[p]?=some o) (hp:p+1<zs.length) :
  qDH Ae ws zs (p+1)=qDH Ae ws zs p+wdO ws o - sumW ws ((nd Ae o).filter fun y=>decide (qB8 Ae zs y=some o)):=by
 obtain ⟨hi,e⟩:=A4.mp h;have ed:zs.drop p=o::zs.drop (p+1):=by rw [T9 hi,e]
 have lt:∀ x,decide (qEC Ae zs p x)=(decide (x ∈ nd Ae o) || decide (qEC Ae zs (p+1) x)):=by
  intro x;rw [R3,V9,decide_eq_true_eq,decide_eq_true_eq,decide_eq_true_eq];unfold qEC;rw [ed]
  constructor
  ·rintro ⟨v,hv,hx⟩;rcases B6.mp hv with rfl | hv
   ·exact .inl hx
   ·exact .inr ⟨v,hv,hx⟩
  ·rintro (hx | ⟨v,hv,hx⟩)
   ·exact ⟨o,A6 ..,hx⟩
   ·exact ⟨v,A5 _ hv,hx⟩
 have e1:qDH Ae ws zs (p+1)=sumW ws ((zs.take p).filter fun x=>decide (qEC Ae zs (p+1) x))+wdO ws o:=by
  unfold qDH;rw [C4,h,C0,i8,qHU];have:([o].filter fun x=>decide (qEC Ae zs (p+1) x))=[o]:=by
   simp [M5,T.aft p o h hp]
  rw [this,qAR,qE6];omega
 have e2:qDH Ae ws zs p=sumW ws ((zs.take p).filter fun x=>decide (qEC Ae zs (p+1) x))+sumW ws ((zs.take p).filter fun x=>decide (x ∈ nd Ae o) && !decide (qEC Ae zs (p+1) x)):=by
  unfold qDH;rw [<- qJW ws (fun x=>decide (x ∈ nd Ae o)) (fun x=>decide (qEC Ae zs (p+1) x))];congr 2
  funext x
  exact lt x
 have e3:sumW ws ((zs.take p).filter fun x=>decide (x ∈ nd Ae o) && !decide (qEC Ae zs (p+1) x))=sumW ws ((nd Ae o).filter fun y=>decide (qB8 Ae zs y=some o)):=by
  refine qDC ((R7 ((T.nodup.sublist (Z1 p zs)).sublist V1) (((qbE wf o).imp fun {a b} hab=>by omega).sublist V1)).mpr fun x=>?_)
  rw [G6,G6,O4,decide_eq_true_eq,A30,decide_eq_false_iff_not,decide_eq_true_eq,qMP T.nodup h]
  constructor
  ·rintro ⟨_,h1,h2⟩;exact ⟨h1,h1,h2⟩
  ·rintro ⟨h1,_,h2⟩;exact ⟨T.bef p o h x h1,h1,h2⟩
 rw [e1,e2,e3];omega
theorem qMS (Ae:List (List Int)) (ws zs:List Int):qDH Ae ws zs 0=0:=rfl
theorem qLA {l:List Int} (n:l.Nodup) {i j:Nat} (hi:i<l.length) (hj:j<l.length) (e:l[i]=l[j]):i=j:=by
 rcases Z5 i j with h | h | h
 ·exact absurd e (F3.mp n i j hi hj h)
 ·exact h
 ·exact absurd e.symm (F3.mp n j i hj hi h)
theorem qRO {Ae:List (List Int)} {work:Int} {some_ zs:List Int} (ND:qB5 Ae [work] some_) (n:zs.Nodup) (m:∀ x,x ∈ zs ↔ x ∈ some_) (bef:∀ (p:Nat) (o:Int),zs[p]?=some o->∀ x ∈ nd Ae o,x ∈ zs.take p):TopO Ae zs:=by
 have user:∀ x ∈ zs,x ≠ work->∃ z ∈ zs,x ∈ nd Ae z:=by
  intro x hx hne;have h:=(ND.2 x).mp ((m x).mp hx);cases h with
  | ask h=>exact absurd (A3.mp h) hne
  | need h1 h2 h3=>exact ⟨_,(m _).mpr ((ND.2 _).mpr h1),by rw [qAF h2];exact h3⟩
 have after:∀ (p:Nat) (o:Int),zs[p]?=some o->∀ z ∈ zs,o ∈ nd Ae z->z ∈ zs.drop (p+1):=by
  intro p o h z hz ho;obtain ⟨q,hq,e⟩:=U9 hz;have h1:=bef q z (by rw [A1 hq,e]) o ho
  obtain ⟨k,hk,ek⟩:=U9 h1;rw [A24] at ek;have hk':k<q:=by rw [D1] at hk;omega
  obtain ⟨hp,ep⟩:=A4.mp h;have:k=p:=qLA n (by omega) hp (by rw [ek,ep])
  subst this;rw [U0];exact ⟨q - (k+1),by rw [O3];omega,by rw [l0,<- e];congr 1;omega⟩
 refine ⟨n,fun x hx=>ND.1.in_ x ((m x).mp hx),bef,fun p o h hp=>?_⟩;by_cases e:o=work
 ·exfalso
  have hl:zs.length - 1<zs.length:=by omega
  have hy:=R9 hl;obtain ⟨hp',ep⟩:=A4.mp h;have hne:zs[zs.length - 1] ≠ work:=by
   intro z;rw [<- e,<- ep] at z;have:=qLA n hl hp' z;omega
  obtain ⟨z,hz,hu⟩:=user _ hy hne;have:=after (zs.length - 1) _ (A1 hl) z hz hu;rw [p9 (by omega)] at this
  cases this
 ·obtain ⟨z,hz,hu⟩:=user o (B4 h) e;exact ⟨z,after p o h z hz hu,hu⟩
theorem StAt.upd {H:Hp} {d c p:Addr} {t:Int} {ns:List Int} {o:HO} (S:StAt H d c t ns) (h1:d ≠ p) (h2:c ≠ p):StAt (L2.upd H p o) d c t ns:=⟨by rw [qA8 h1];exact S.dict,by rw [qA8 h2];exact S.list,S.ne,S.len,S.pos⟩
structure Begun (Ae:List (List Int)) (some_ ord:List Int):Prop where
 nodup:ord.Nodup
 sub:∀ x ∈ ord,x ∈ some_
 bef:∀ (p:Nat) (o:Int),ord[p]?=some o->∀ x ∈ nd Ae o,x ∈ ord.take p
def WdAt (H:Hp) (t:Addr) (Ae:List (List Int)) (ws:List Int):Prop:=H t=some (.tup (ws.map V.int))/\ws.length=Ae.length
def qIG:Sp:=fun vs H Q _=>∃ (a t lo:Addr) (wk:Int) (Ae:List (List Int)) (ws zs:List Int),vs=[.ref a,.ref t,.int wk,.ref lo]/\NetAt H a Ae/\WFn Ae/\Ae.length<=63/\WdAt H t Ae ws/\H lo=some (.lst (zs.map V.int))/\TopO Ae zs/\zs.length<=63/\
 ∀ l H',Same H H'->H l=none->H' l=some (.lst ((qC4 Ae ws zs).map V.int))->Q (.ref l) H'
def qRT:Sp:=fun vs H Q _=>∃ (a t lo:Addr) (Ae:List (List Int)) (ws zs:List Int),vs=[.ref a,.ref t,.ref lo]/\NetAt H a Ae/\WFn Ae/\Ae.length<=63/\WdAt H t Ae ws/\H lo=some (.lst (zs.map V.int))/\TopO Ae zs/\zs.length<=63/\
 ∀ l H',Same H H'->H l=none->H' l=some (.lst ((qC4 Ae ws zs).map V.int))->Q (.ref l) H'
section
variable {Ae:List (List Int)} {zs:List Int} {work:Int}
end
def mxi (a b:Int):Int:=if b > a then b else a
def strR (ws:List Int) (R:Int->Int):Int->List Int->Int
 | _,[]=>0
 | h,y::os=>mxi (h+R y) (strR ws R (h+wdO ws y) os)
theorem qWV {a b c:Int}:mxi a b<=c ↔ a<=c/\b<=c:=by unfold mxi;split <;> omega
theorem qMO {a b:Int}:a<=mxi a b/\b<=mxi a b:=by unfold mxi;split <;> omega
def OrdS (ws:List Int) (R:Int->Int) (a b:Int):Prop:=wdO ws a - R a<wdO ws b - R b\/(wdO ws a - R a=wdO ws b - R b/\a<b)
def St1 (Ae:List (List Int)) (ws:List Int) (R:Int->Int) (O:Int->List Int) (z:Int):Prop:=∃ os:List Int,os.Perm (nd Ae z)/\os.Pairwise (OrdS ws R)/\O z=(os.map O).flatten++[z]/\R z=mxi (strR ws R 0 os) (sumW ws os+wdO ws z)
def StOn (Ae:List (List Int)) (ws zs:List Int) (R:Int->Int) (O:Int->List Int):Prop:=∀ z ∈ zs,St1 Ae ws R O z
theorem qL0 {ws:List Int} {R:Int->Int}:∀ {a b:List Int},a.Perm b->a.Pairwise (OrdS ws R)->b.Pairwise (OrdS ws R)->a=b
 | [],b,p,_,_=>(List.nil_perm.mp p).symm
 | x::a,b,p,h1,h2=>by
  cases b with
  | nil=>exact absurd p.length_eq (by simp)
  | cons y b=>
   rw [L6] at h1 h2;have e:x=y:=by
    rcases B6.mp (p.mem_iff.mp A6) with e | m
    ·exact e
    ·rcases B6.mp (p.mem_iff.mpr A6) with e | m2
     ·exact e.symm
     ·have r1:=h2.1 x m;have r2:=h1.1 y m2;unfold OrdS at r1 r2;omega
   subst e;rw [qL0 (List.Perm.cons_inv p) h1.2 h2.2]
def runK (Ae:List (List Int)) (ws:List Int):Int->List Int->List Int
 | _,[]=>[]
 | k,o::l=>(k+wdO ws o)::runK Ae ws (k+wdO ws o - sumW ws (nd Ae o)) l
def endK (Ae:List (List Int)) (ws:List Int):Int->List Int->Int
 | k,[]=>k
 | k,o::l=>endK Ae ws (k+wdO ws o - sumW ws (nd Ae o)) l
theorem qI0 {Ae:List (List Int)} {ws:List Int}:∀ (a b:List Int) (k:Int),runK Ae ws k (a++b)=runK Ae ws k a++runK Ae ws (endK Ae ws k a) b
 | [],b,k=>rfl
 | o::a,b,k=>by rw [P4,runK,runK,qI0 a b,endK];rfl
theorem qI8 {Ae:List (List Int)} {ws:List Int}:∀ (a b:List Int) (k:Int),endK Ae ws k (a++b)=endK Ae ws (endK Ae ws k a) b
 | [],b,k=>rfl
 | o::a,b,k=>by rw [P4,endK,qI8 a b,endK]
theorem qPA {Ae:List (List Int)} {ws:List Int}:∀ (a:List Int) (k:Int),(runK Ae ws k a).length=a.length
 | [],_=>rfl
 | o::a,k=>by rw [runK,E3,E3,qPA a]
def IsTop (l:List Int) (m:Int):Prop:=m ∈ l/\∀ x ∈ l,x<=m
theorem IsTop.app {a b:List Int} {m n:Int} (h:IsTop a m) (k:IsTop b n):IsTop (a++b) (mxi m n):=by
 constructor
 ·unfold mxi
  split
  ·exact F1 _ k.1
  ·exact Q2 _ h.1
 ·intro x hx;rcases D6.mp hx with q | q
  ·exact Int.le_trans (h.2 x q) qMO.1
  ·exact Int.le_trans (k.2 x q) qMO.2
theorem IsTop.top {l:List Int} {m:Int} (h:IsTop l m):topD none l=some m:=by
 cases l with
 | nil=>cases h.1
 | cons x l=>
  show some (topI x l)=some m;obtain ⟨a,b,c⟩:=qNV l x;congr 1;have h1:topI x l<=m:=by
   rcases c with e | e
   ·rw [e];exact h.2 x A6
   ·exact h.2 _ (A5 _ e)
  have h2:m<=topI x l:=by
   rcases B6.mp h.1 with e | e
   ·rw [e];exact a
   ·exact b m e
  omega
section
variable {Ae:List (List Int)} {ws zs:List Int} {work:Int} {R:Int->Int} {O:Int->List Int}
theorem qRQ {ws:List Int}:∀ {l:List Int},(∀ x ∈ l,1<=wdO ws x)->0<=sumW ws l
 | [],_=>by rw [qE6];exact E6 _
 | x::l,h=>by
  have a:=h x A6;have b:=qRQ fun y hy=>h y (A5 _ hy);rw [qAR];omega
def Wd1 (Ae:List (List Int)) (ws:List Int):Prop:=∀ x,0<=x->x<(Ae.length:Int)->1<=wdO ws x
theorem qXI (T:TIn Ae zs work) (S:StOn Ae ws zs R O) (w0:Wd1 Ae ws) {z:Int} (hz:z ∈ zs):1<=R z:=by
 obtain ⟨os,p,s,eO,eR⟩:=S z hz;have zb:=T.N.1.in_ z hz;have a:=w0 z zb.1 zb.2;have b:=qRQ (ws:=ws) (l:=os) fun y hy=>by
  have h:=T.has hz (p.mem_iff.mp hy);exact w0 y h.2.2 (by omega)
 rw [eR];have:=(qMO (a:=strR ws R 0 os) (b:=sumW ws os+wdO ws z)).2;omega
theorem qXH (T:TIn Ae zs work) (S:StOn Ae ws zs R O) (w0:Wd1 Ae ws):∀ (n:Nat) (z:Int),z.toNat=n->z ∈ zs->∀ k,endK Ae ws k (O z)=k+wdO ws z/\IsTop (runK Ae ws k (O z)) (k+R z):=by
 intro n
 induction n using Y5 with
 | ind n ih=>
  intro z hn hz k;have zb:=T.N.1.in_ z hz;have many:∀ (os:List Int),(∀ y ∈ os,y ∈ zs/\y<z/\0<=y)->∀ (k h:Int),0<=h->endK Ae ws (k+h) ((os.map O).flatten)=k+h+sumW ws os/\(os=[]\/IsTop (runK Ae ws (k+h) ((os.map O).flatten)) (k+strR ws R h os)):=by
   intro os
   induction os with
   | nil=>intro _ k h _;exact ⟨by rw [qE6];show k+h=_;omega,.inl rfl⟩
   | cons y os ihs=>
    intro hy k h h0;have yb:=hy y A6;have wy:=w0 y yb.2.2 (by omega)
    have Ry:=qXI T S w0 yb.1;obtain ⟨e1,t1⟩:=ih y.toNat (by omega) y rfl yb.1 (k+h)
    obtain ⟨e2,t2⟩:=ihs (fun x hx=>hy x (A5 _ hx)) k (h+wdO ws y) (by omega)
    rw [B9,E9,qI8,qI0,e1,qAR,show k+h+wdO ws y=k+(h+wdO ws y) by omega]
    refine ⟨by rw [e2];omega,.inr ?_⟩
    show IsTop _ (k+mxi (h+R y) (strR ws R (h+wdO ws y) os));rcases t2 with rfl | t2
    ·have e:mxi (h+R y) (strR ws R (h+wdO ws y) [])=h+R y:=by show mxi (h+R y) 0=_;unfold mxi;split <;> omega
     rw [e,show k+(h+R y)=k+h+R y by omega]
     show IsTop (runK Ae ws (k+h) (O y)++[]) _;rw [V7];exact t1
    ·have:=t1.app t2;have e:mxi (k+h+R y) (k+strR ws R (h+wdO ws y) os)=k+mxi (h+R y) (strR ws R (h+wdO ws y) os):=by unfold mxi;split <;> split <;> omega
     rw [e] at this;exact this
  obtain ⟨os,p,s,eO,eR⟩:=S z hz;obtain ⟨e2,t2⟩:=many os (fun y hy=>T.has hz (p.mem_iff.mp hy)) k 0 (E6 _);rw [t9] at e2 t2;rw [eO,eR,qI8,qI0,e2];have wz:=w0 z zb.1 zb.2;refine ⟨?_,?_⟩
  ·show k+sumW ws os+wdO ws z - sumW ws (nd Ae z)=_;rw [qDC p];omega
  ·have last:IsTop (runK Ae ws (k+sumW ws os) [z]) (k+sumW ws os+wdO ws z):=⟨A3.mpr rfl,fun x hx=>by rw [A3.mp hx];exact E6 _⟩
   rcases t2 with rfl | t2
   ·rw [qE6] at last ⊢;have e:mxi (strR ws R 0 []) (0+wdO ws z)=wdO ws z:=by show mxi 0 _=_;unfold mxi;split <;> omega
    rw [e];rw [t9] at last ⊢;exact last
   ·have:=t2.app last;have e:mxi (k+strR ws R 0 os) (k+sumW ws os+wdO ws z)=k+mxi (strR ws R 0 os) (sumW ws os+wdO ws z):=by unfold mxi;split <;> split <;> omega
    rw [e] at this;exact this
theorem qRR (T:TIn Ae zs work) (S:StOn Ae ws zs R O):∀ (n:Nat) (z:Int),z.toNat=n->z ∈ zs->(O z).Nodup/\(∀ x,x ∈ O z ↔ Nd Ae [z] x)/\(∀ (p:Nat) (o:Int),(O z)[p]?=some o->∀ x ∈ nd Ae o,x ∈ (O z).take p):=by
 intro n
 induction n using Y5 with
 | ind n ih=>
  intro z hn hz;have zb:=T.N.1.in_ z hz;obtain ⟨os,p,s,eO,eR⟩:=S z hz;have has:∀ y ∈ os,y ∈ zs/\y<z/\0<=y:=fun y hy=>T.has hz (p.mem_iff.mp hy);have ndo:os.Nodup:=p.nodup_iff.mpr (T.nodup hz);have get:=T.get hz;have mem:∀ x,x ∈ (os.map O).flatten ↔ ∃ y ∈ os,Nd Ae [y] x:=by
   intro x;rw [J2]
   constructor
   ·rintro ⟨l,hl,hx⟩;obtain ⟨y,hy,rfl⟩:=E2.mp hl;have yb:=has y hy;exact ⟨y,hy,((ih y.toNat (by omega) y rfl yb.1).2.1 x).mp hx⟩
   ·rintro ⟨y,hy,hx⟩;have yb:=has y hy;exact ⟨O y,E2.mpr ⟨y,hy,rfl⟩,((ih y.toNat (by omega) y rfl yb.1).2.1 x).mpr hx⟩
  have flat:∀ (l:List Int),l.Nodup->(∀ y ∈ l,y ∈ os)->((l.map O).flatten).Nodup/\(∀ (q:Nat) (o:Int),((l.map O).flatten)[q]?=some o->∀ x ∈ nd Ae o,x ∈ ((l.map O).flatten).take q):=by
   intro l
   induction l with
   | nil=>exact fun _ _=>⟨y4,fun q o e=>by simp at e⟩
   | cons y l ihl=>
    intro nl hl;have yb:=has y (hl y A6);obtain ⟨n1,m1,b1⟩:=ih y.toNat (by omega) y rfl yb.1
    rw [G7] at nl;obtain ⟨n2,b2⟩:=ihl nl.2 fun x hx=>hl x (A5 _ hx);rw [B9,E9]
    constructor
    ·rw [G5];refine ⟨n1,n2,fun a ha b hb e=>?_⟩;subst e;obtain ⟨lb,hlb,hab⟩:=J2.mp hb;obtain ⟨y2,hy2,rfl⟩:=E2.mp hlb;have yb2:=has y2 (hl y2 (A5 _ hy2));have h1:=(m1 a).mp ha;have h2:=((ih y2.toNat (by omega) y2 rfl yb2.1).2.1 a).mp hab
     have eq:y=y2:=by
      rcases T.chain yb.1 yb2.1 h1 h2 with q | q
      ·exact T.apart hz (p.mem_iff.mp (hl y A6)) (p.mem_iff.mp (hl y2 (A5 _ hy2))) q
      ·exact (T.apart hz (p.mem_iff.mp (hl y2 (A5 _ hy2))) (p.mem_iff.mp (hl y A6)) q).symm
     rw [eq] at nl;exact nl.1 hy2
    ·intro q o e x hx;by_cases c:q<(O y).length
     ·rw [D8 c] at e;rw [O5 (by omega)]
      exact b1 q o e x hx
     ·rw [G1 (by omega)] at e
      have:=b2 _ o e x hx;rw [List.take_append];exact F1 _ this
  obtain ⟨n1,b1⟩:=flat os ndo fun y hy=>hy;have memz:∀ x,x ∈ O z ↔ Nd Ae [z] x:=by
   intro x;rw [eO,D6,mem,A3]
   constructor
   ·rintro (⟨y,hy,h⟩ | h)
    ·exact qSQ (p.mem_iff.mp hy) h ⟨_,get⟩
    ·rw [h];exact .ask (A3.mpr rfl)
   ·intro h;have:x=z\/∃ y ∈ nd Ae z,Nd Ae [y] x:=by
     induction h with
     | ask m=>exact .inl (A3.mp m)
     | @need w y ys hw e hm ihn=>
      rcases ihn with h | ⟨v,hv,hn⟩
      ·subst h;exact .inr ⟨y,by rw [qAF e];exact hm,.ask (A3.mpr rfl)⟩
      ·exact .inr ⟨v,hv,.need hn e hm⟩
    rcases this with h | ⟨y,hy,h⟩
    ·exact .inr h
    ·exact .inl ⟨y,p.mem_iff.mpr hy,h⟩
  refine ⟨?_,memz,fun q o e x hx=>?_⟩
  ·rw [eO,G5];refine ⟨n1,by simp,fun a ha b hb e=>?_⟩
   rw [A3.mp hb] at e;subst e;obtain ⟨y,hy,h⟩:=(mem a).mp ha;have:=qMG T.wf h;have:=(has y hy).2.1;omega
  ·rw [eO] at e ⊢;by_cases c:q<((os.map O).flatten).length
   ·rw [D8 c] at e;rw [O5 (by omega)]
    exact b1 q o e x hx
   ·rw [G1 (by omega)] at e
    have hq:=(A4.mp e).1;rw [C3] at hq;have hq0:q - ((os.map O).flatten).length=0:=by omega
    rw [hq0] at e;have eo:z=o:=by simpa using e
    subst eo;rw [O5 (by omega),G0 (by omega)]
    exact (mem x).mpr ⟨x,p.mem_iff.mpr hx,.ask (A3.mpr rfl)⟩
theorem qPB:∀ (l:List Int) (k:Int) (p:Nat) (o:Int),l[p]?=some o->(runK Ae ws k l)[p]?=some (endK Ae ws k (l.take p)+wdO ws o)
 | [],_,p,o,h=>by simp at h
 | x::l,k,0,o,h=>by cases h;rfl
 | x::l,k,p+1,o,h=>by
  show (runK Ae ws (k+wdO ws x - sumW ws (nd Ae x)) l)[p]?=_;rw [qPB l _ p o h]
  rfl
theorem qLY {l:List Int} (wf:WFn Ae) (T:TopO Ae l) (user:∀ {u v x:Int},u ∈ l->v ∈ l->x ∈ nd Ae u->x ∈ nd Ae v->u=v):qC4 Ae ws l=runK Ae ws 0 l:=by
 have kp:∀ p,p<l.length->qDH Ae ws l p=endK Ae ws 0 (l.take p):=by
  intro p
  induction p with
  | zero=>intro _;rw [qMS];rfl
  | succ p ih=>
   intro hp;have hlt:p<l.length:=by omega
   have g:=A1 hlt;have ks:=qMT (ws:=ws) wf T g hp;have all:((nd Ae l[p]).filter fun y=>decide (qB8 Ae l y=some l[p]))=nd Ae l[p]:=List.filter_eq_self.mpr fun y hy=>decide_eq_true ((qMP T.nodup g y).mpr ⟨hy,fun ⟨v,hv,hyv⟩=>by
    have e:=user (R9 hlt) (P3 hv) hy hyv;obtain ⟨j,hj,ej⟩:=U9 hv;rw [l0] at ej;have:=qLA T.nodup (by rw [O3] at hj;omega) hlt (ej.trans e.symm)
    omega⟩)
   rw [ks,all,ih hlt,C4,g,C0,qI8]
   rfl
 apply Z4;intro p;unfold qC4;rw [B1];by_cases hp:p<l.length
 ·have g:=A1 hp;rw [X5 hp,qPB l 0 p _ g,<- kp p hp];show some (wdO ws ((l[p]?).getD 0)+qDH Ae ws l p)=_;rw [g,R8,A35]
 ·rw [F5 (by rw [W7];omega),F5 (by rw [qPA];omega)]
  rfl
theorem qFG (T:TIn Ae zs work) {z:Int} (hz:z ∈ zs):∃ yy,qB5 Ae [z] yy/\∀ x ∈ yy,x ∈ zs:=by
 refine ⟨zs.filter fun x=>@decide (Nd Ae [z] x) (Y6 _),⟨⟨T.N.1.up.sublist V1,fun x hx=>T.N.1.in_ x (G6.mp hx).1⟩,fun x=>?_⟩,fun x hx=>(G6.mp hx).1⟩;rw [G6]
 constructor
 ·exact fun h=>@of_decide_eq_true _ (Y6 _) h.2
 ·exact fun h=>⟨T.sub hz h,@decide_eq_true _ (Y6 _) h⟩
theorem qRS (T:TIn Ae zs work) (S:StOn Ae ws zs R O) (w0:Wd1 Ae ws) {z:Int} (hz:z ∈ zs):TopO Ae (O z)/\(O z).length<=63/\topD none (qC4 Ae ws (O z))=some (R z)/\(∀ x ∈ O z,0<=x/\x<(Ae.length:Int)):=by
 obtain ⟨n1,m1,b1⟩:=qRR T S _ z rfl hz;obtain ⟨yy,NY,sy⟩:=qFG T hz;have mm:∀ x,x ∈ O z ↔ x ∈ yy:=fun x=>(m1 x).trans (NY.2 x).symm;have TO:=qRO NY n1 mm b1;have inz:∀ x ∈ O z,x ∈ zs:=fun x hx=>sy x ((mm x).mp hx);refine ⟨TO,?_,?_,fun x hx=>T.N.1.in_ x (inz x hx)⟩
 ·have h:=J7 n1 (fun x hx=>inz x hx:O z ⊆ zs);have:=T.N.1.len;have:=T.len;omega
 ·rw [qLY T.wf TO (fun hu hv h1 h2=>T.user (inz _ hu) (inz _ hv) h1 h2)];have:=(qXH T S w0 _ z rfl hz 0).2.top;rw [j7] at this;exact this
def ordS (ws:List Int) (R:Int->Int) (l:List Int):List Int:=l.mergeSort fun a b=>decide (wdO ws a - R a<wdO ws b - R b\/(wdO ws a - R a=wdO ws b - R b/\a<=b))
theorem qBX (ws:List Int) (R:Int->Int) (l:List Int):(ordS ws R l).Perm l:=List.mergeSort_perm _ _
theorem qKZ {ws:List Int} {R:Int->Int} {l:List Int} (n:l.Nodup):(ordS ws R l).Pairwise (OrdS ws R):=by
 have h:=List.pairwise_mergeSort (le:=fun a b=>decide (wdO ws a - R a<wdO ws b - R b\/(wdO ws a - R a=wdO ws b - R b/\a<=b))) (fun a b c h1 h2=>by
  rw [decide_eq_true_eq] at h1 h2 ⊢;omega) (fun a b=>by
  rw [V9,decide_eq_true_eq,decide_eq_true_eq];omega) l
 have n2:(ordS ws R l).Nodup:=(qBX ws R l).nodup_iff.mpr n;refine (h.and n2).imp fun {a b} z=>?_;have z1:=of_decide_eq_true z.1;have z2:a ≠ b:=z.2;unfold OrdS;omega
def rF (Ae:List (List Int)) (ws:List Int):Nat->Int->Int
 | 0,_=>0
 | n+1,z=>mxi (strR ws (rF Ae ws n) 0 (ordS ws (rF Ae ws n) (nd Ae z))) (sumW ws (nd Ae z)+wdO ws z)
theorem qGY {ws:List Int} {R R':Int->Int}:∀ {os:List Int} (h:Int),(∀ y ∈ os,R y=R' y)->strR ws R h os=strR ws R' h os
 | [],_,_=>rfl
 | y::os,h,e=>by
  show mxi (h+R y) _=mxi (h+R' y) _;rw [e y A6,qGY _ fun x hx=>e x (A5 _ hx)]
theorem qK0 {ws:List Int} {R R':Int->Int} {l:List Int} (n:l.Nodup) (e:∀ y ∈ l,R y=R' y):ordS ws R l=ordS ws R' l:=by
 have h2:(ordS ws R' l).Pairwise (OrdS ws R):=(qKZ n).imp_of_mem fun {a b} ha hb h=>by
  unfold OrdS at h ⊢;rw [e a ((qBX ws R' l).mem_iff.mp ha),e b ((qBX ws R' l).mem_iff.mp hb)];exact h
 exact qL0 ((qBX ws R l).trans (qBX ws R' l).symm) (qKZ n) h2
theorem qZL (T:TIn Ae zs work):∀ (k n m:Nat) (z:Int),z.toNat=k->z ∈ zs->k<n->k<m->rF Ae ws n z=rF Ae ws m z:=by
 intro k
 induction k using Y5 with
 | ind k ih=>
  intro n m z hk hz hn hm;obtain ⟨n,rfl⟩:∃ n',n=n'+1:=⟨n - 1,by omega⟩
  obtain ⟨m,rfl⟩:∃ m',m=m'+1:=⟨m - 1,by omega⟩
  have e:∀ y ∈ nd Ae z,rF Ae ws n y=rF Ae ws m y:=fun y hy=>by
   have h:=T.has hz hy;exact ih y.toNat (by omega) n m y rfl h.1 (by omega) (by omega)
  unfold rF;rw [qK0 (T.nodup hz) e,qGY _ fun y hy=>e y ((qBX ws _ _).mem_iff.mp hy)]
def oF (Ae:List (List Int)) (ws:List Int) (R:Int->Int):Nat->Int->List Int
 | 0,_=>[]
 | n+1,z=>((ordS ws R (nd Ae z)).map (oF Ae ws R n)).flatten++[z]
theorem qZV (T:TIn Ae zs work):∀ (k n m:Nat) (z:Int),z.toNat=k->z ∈ zs->k<n->k<m->oF Ae ws R n z=oF Ae ws R m z:=by
 intro k
 induction k using Y5 with
 | ind k ih=>
  intro n m z hk hz hn hm;obtain ⟨n,rfl⟩:∃ n',n=n'+1:=⟨n - 1,by omega⟩
  obtain ⟨m,rfl⟩:∃ m',m=m'+1:=⟨m - 1,by omega⟩
  unfold oF;congr 2;refine K0 fun y hy=>?_;have h:=T.has hz ((qBX ws R _).mem_iff.mp hy);exact ih y.toNat (by omega) n m y rfl h.1 (by omega) (by omega)
theorem exS (T:TIn Ae zs work) (ws:List Int):∃ R O,StOn Ae ws zs R O:=by
 refine ⟨fun z=>rF Ae ws (z.toNat+1) z,fun z=>oF Ae ws (fun z=>rF Ae ws (z.toNat+1) z) (z.toNat+1) z,fun z hz=>?_⟩;have zb:=T.N.1.in_ z hz;have eR:∀ y ∈ nd Ae z,rF Ae ws z.toNat y=rF Ae ws (y.toNat+1) y:=fun y hy=>by
  have h:=T.has hz hy;exact qZL T y.toNat _ _ y rfl h.1 (by omega) (by omega)
 refine ⟨ordS ws (fun z=>rF Ae ws (z.toNat+1) z) (nd Ae z),qBX _ _ _,qKZ (T.nodup hz),?_,?_⟩
 ·show ((ordS ws (fun z=>rF Ae ws (z.toNat+1) z) (nd Ae z)).map (oF Ae ws _ z.toNat)).flatten++[z]=_;congr 2;refine K0 fun y hy=>?_;have h:=T.has hz ((qBX ws _ _).mem_iff.mp hy);exact qZV T y.toNat _ _ y rfl h.1 (by omega) (by omega)
 ·show mxi (strR ws (rF Ae ws z.toNat) 0 (ordS ws (rF Ae ws z.toNat) (nd Ae z))) (sumW ws (nd Ae z)+wdO ws z)=_;rw [qK0 (T.nodup hz) eR,qGY 0 fun y hy=>eR y ((qBX ws _ _).mem_iff.mp hy),qDC (qBX ws _ (nd Ae z))]
theorem St1.by {z:Int} {os:List Int} (h:St1 Ae ws R O z) (p:os.Perm (nd Ae z)) (s:os.Pairwise (OrdS ws R)):O z=(os.map O).flatten++[z]/\R z=mxi (strR ws R 0 os) (sumW ws os+wdO ws z):=by
 obtain ⟨o,p2,s2,e1,e2⟩:=h;have:=qL0 (p2.trans p.symm) s2 s;subst this;exact ⟨e1,e2⟩
end
def qP1:Sp:=fun vs H Q _=>∃ d c t ns m,vs=[.ref d,.int m]/\StAt H d c t ns/\t<=TB - 1000/\1<=m/\m<=100/\
 ∀ (r:Addr) (ws:List Int) (t':Int) (ns':List Int) (H':Hp),StAt H' d c t' ns'->t<=t'->t'<=t+300->Keep d c H H'->H' r=some (.tup (ws.map V.int))->(ws.length:Int)=m->(∀ u ∈ ws,1<=u)->Q (.ref r) H'
def TabS (H:Hp) (Pt:Addr):Prop:=H Pt=some (.tbl (.tab "stretched.<locals>.<lambda>"))
def qIJ:Sp:=fun vs H Q _=>∃ (a:Addr) (Ae:List (List Int)) (work:Int),vs=[.ref a,.int work]/\NIn H a Ae work/\isT Ae work/\∀ H',Same H H'->Q .non H'
def qRA (H:Hp) (a t:Addr) (Ae:List (List Int)) (ws:List Int) (work:Int):Prop:=NIn H a Ae work/\WdAt H t Ae ws/\Wd1 Ae ws/\isT Ae work
def qII (Pt:Addr):Sp:=fun vs H Q _=>∃ (a t:Addr) (Ae:List (List Int)) (ws:List Int) (work:Int),vs=[.ref a,.ref t,.int work]/\TabS H Pt/\qRA H a t Ae ws work/\
 ∀ (T l:Addr) (zs:List Int) (R:Int->Int) (O:Int->List Int) (H':Hp),Same H H'->H l=none->qB5 Ae [work] zs->StOn Ae ws zs R O->H' T=some (.tup [.int (R work),.ref l])->H' l=some (.lst ((O work).map V.int))->Q (.ref T) H'
def keyS (ws:List Int) (R:Int->Int) (y:Int):List Int:=[wdO ws y - R y,y]
theorem qb3 {ws:List Int} {R:Int->Int} {ys:List Int} {rs:List (List Int × V)} (n:ys.Nodup) (p:rs.Perm ((ys.map (keyS ws R)).zip (ys.map V.int))) (s:rs.Pairwise (fun a b=>HT.lexLt b.1 a.1=false)):∃ os:List Int,os.Perm ys/\os.Pairwise (OrdS ws R)/\rs.map (·.2)=os.map V.int:=by
 have ez:(ys.map (keyS ws R)).zip (ys.map V.int)=ys.map fun y=>(keyS ws R y,V.int y):=by
  clear n p
  induction ys with
  | nil=>rfl
  | cons y ys ih=>rw [B9,B9,F9,ih,B9]
 obtain ⟨os,p2,e⟩:=L2.G.perm_map_inv p ys ez;refine ⟨os,p2,?_,by rw [e,P5];rfl⟩
 rw [e,G4] at s;have n2:os.Nodup:=p2.nodup_iff.mpr n;refine (s.and n2).imp fun {a b} z=>?_;have z2:a ≠ b:=z.2;have z1:¬ (wdO ws b - R b<wdO ws a - R a\/(wdO ws b - R b=wdO ws a - R a/\b<a)):=fun q=>by
  have:=(lexT _ _ _ _).mpr q;have z1:HT.lexLt [wdO ws b - R b,b] [wdO ws a - R a,a]=false:=z.1;rw [z1] at this;cases this
 unfold OrdS;omega
abbrev Stp:=Int × Int
def gns:List Stp->Int
 | []=>0
 | a::l=>a.2+gns l
theorem qH5:∀ (a b:List Stp),gns (a++b)=gns a+gns b
 | [],b=>by show gns b=0+gns b;omega
 | x::a,b=>by
  show x.2+gns (a++b)=x.2+gns a+gns b;rw [qH5 a b];omega
def Belo (m:Int):Int->List Stp->Prop
 | _,[]=>True
 | d,a::l=>d+a.1<=m/\Belo m (d+a.2) l
theorem Belo.up {m n e:Int}:∀ {l:List Stp} {d:Int},Belo m d l->m+e<=n->Belo n (d+e) l
 | [],_,_,_=>trivial
 | a::l,d,h,k=>by
  refine ⟨by have:=h.1;omega,?_⟩
  have:=h.2.up (e:=e) k;rw [show d+e+a.2=d+a.2+e by omega]
  exact this
theorem Belo.app {m:Int}:∀ {a b:List Stp} {d:Int},Belo m d (a++b) ↔ Belo m d a/\Belo m (d+gns a) b
 | [],b,d=>by
  show Belo m d b ↔ True/\Belo m (d+0) b;rw [t9];simp
 | x::a,b,d=>by
  show (d+x.1<=m/\Belo m (d+x.2) (a++b)) ↔ (d+x.1<=m/\Belo m (d+x.2) a)/\Belo m (d+(x.2+gns a)) b;rw [Belo.app,show d+(x.2+gns a)=d+x.2+gns a by omega,and_assoc]
inductive Dm:Int->List Stp->List Stp->Prop
 | nil {d:Int}:d<=0->Dm d [] []
 | step {d:Int} {a:Stp} {t s1 s:List Stp}:d<=0->Belo a.1 d s1->Dm (d+gns s1 - a.2) s t->Dm d (s1++s) (a::t)
theorem Dm.le {d:Int} {s t:List Stp} (h:Dm d s t):d<=0:=by cases h <;> assumption
theorem Dm.to {d e:Int} {s t:List Stp} (h:Dm d s t) (k:d=e):Dm e s t:=k ▸ h
theorem Dm.end_ {d:Int} {s t:List Stp} (h:Dm d s t):d+gns s - gns t<=0:=by
 induction h with
 | nil h=>show _+0 - 0<=0;omega
 | @step d a t s1 s _ _ _ ih=>
  rw [qH5];show _ - (a.2+gns t)<=0;omega
theorem Dm.low {d:Int} {s t:List Stp} (h:Dm d s t):∀ {m k:Int},Belo m k t->Belo m (k+d) s:=by
 induction h with
 | nil _=>intros;trivial
 | @step d a t s1 s _ b _ ih=>
  intro m k ht;refine Belo.app.mpr ⟨?_,?_⟩
  ·have:=b.up (n:=m) (e:=k) (by have:=ht.1;omega)
   rwa [A35] at this
  ·have:=ih ht.2
   rwa [show k+a.2+(d+gns s1 - a.2)=k+d+gns s1 by omega] at this
theorem Dm.refl {d:Int} (h:d<=0):∀ s:List Stp,Dm d s s
 | []=>.nil h
 | a::s=>Dm.step (s1:=[a]) h ⟨by omega,trivial⟩ ((Dm.refl h s).to (by show d=d+(a.2+0) - a.2;omega))
theorem Dm.app {d:Int} {s t s' t':List Stp} (h:Dm d s t):Dm (d+gns s - gns t) s' t'->Dm d (s++s') (t++t'):=by
 induction h with
 | nil h=>intro k;exact k.to (by show _+0 - 0=_;omega)
 | @step d a t s1 s hd b _ ih=>
  intro k;rw [O7];refine Dm.step hd b (ih (k.to ?_));rw [qH5];show d+(gns s1+gns s) - (a.2+gns t)=d+gns s1 - a.2+gns s - gns t;omega
theorem Dm.nil_right {d:Int} {s:List Stp} (h:Dm d s []):s=[]:=by cases h;rfl
theorem Dm.split:∀ {t:List Stp} {d:Int} {s t':List Stp},Dm d s (t++t')->∃ s1 s',s=s1++s'/\Dm d s1 t/\Dm (d+gns s1 - gns t) s' t'
 | [],d,s,t',h=>⟨[],s,rfl,.nil h.le,h.to (by show d=d+0 - 0;omega)⟩
 | a::t,d,s,t',h=>by
  cases h with
  | @step _ _ _ s0 s2 hd b k=>
   obtain ⟨s1,s',e,k1,k2⟩:=Dm.split k;subst e;refine ⟨s0++s1,s',by rw [O7],.step hd b k1,k2.to ?_⟩
   rw [qH5];show _=d+(gns s0+gns s1) - (a.2+gns t);omega
theorem Dm.trans {d e:Int} {s t u:List Stp} (h:Dm d s t) (k:Dm e t u):Dm (d+e) s u:=by
 induction k generalizing d s with
 | nil he=>
  rw [h.nil_right];exact .nil (by have:=h.le;omega)
 | @step e a u t1 t he b _ ih=>
  obtain ⟨s1,s',rfl,k1,k2⟩:=h.split;refine .step (by have:=h.le;omega) ?_ ((ih k2).to (by omega))
  have:=k1.low b
  rwa [A35] at this
theorem Dm.tr {s t u:List Stp} (h:Dm 0 s t) (k:Dm 0 t u):Dm 0 s u:=h.trans k
inductive Shu:List Stp->List Stp->List Stp->Prop
 | nil:Shu [] [] []
 | left {a:Stp} {s u v:List Stp}:Shu s u v->Shu (a::s) u (a::v)
 | right {a:Stp} {s u v:List Stp}:Shu s u v->Shu s (a::u) (a::v)
theorem Shu.symm {s u v:List Stp} (h:Shu s u v):Shu u s v:=by
 induction h with
 | nil=>exact .nil
 | left _ ih=>exact .right ih
 | right _ ih=>exact .left ih
theorem Shu.front {s u v:List Stp} (h:Shu s u v):∀ s1:List Stp,Shu (s1++s) u (s1++v)
 | []=>h
 | a::s1=>.left (h.front s1)
theorem Shu.perm {s u v:List Stp} (h:Shu s u v):v.Perm (s++u):=by
 induction h with
 | nil=>exact .refl _
 | left _ ih=>exact ih.cons _
 | right _ ih=>exact (ih.cons _).trans o8.symm
theorem Shu.repl {t u v:List Stp} (h:Shu t u v):∀ {d:Int} {s:List Stp},Dm d s t->∃ v',Shu s u v'/\Dm d v' v:=by
 induction h with
 | nil=>
  intro d s k;have hd:=k.le;rw [k.nil_right];exact ⟨[],.nil,.nil hd⟩
 | @left a t u v _ ih=>
  intro d s k;cases k with
  | @step _ _ _ s1 s' hd b k=>
   obtain ⟨v',h1,h2⟩:=ih k;exact ⟨s1++v',h1.front s1,.step hd b h2⟩
 | @right a t u v _ ih=>
  intro d s k;obtain ⟨v',h1,h2⟩:=ih k;exact ⟨a::v',.right h1,Dm.step (s1:=[a]) k.le ⟨by have:=k.le;omega,trivial⟩ (h2.to (by show d=d+(a.2+0) - a.2;omega))⟩
def ShM:List (List Stp)->List Stp->Prop
 | [],v=>v=[]
 | t::ts,v=>∃ u,ShM ts u/\Shu t u v
theorem ShM.perm:∀ {ts:List (List Stp)} {v:List Stp},ShM ts v->v.Perm ts.flatten
 | [],v,h=>by rw [show v=[] from h];exact .refl _
 | t::ts,v,⟨u,h1,h2⟩=>by
  rw [E9];exact h2.perm.trans (h1.perm.append_left t)
theorem ShM.repl:∀ {ts ss:List (List Stp)} {v:List Stp},Paired (fun s t=>Dm 0 s t) ss ts->ShM ts v->∃ v',ShM ss v'/\Dm 0 v' v
 | _,_,v,.nil,h=>⟨v,h,.refl (E6 _) v⟩
 | _,_,v,.cons k p,⟨u,h1,h2⟩=>by
  obtain ⟨u',a1,a2⟩:=ShM.repl p h1;obtain ⟨v1,b1,b2⟩:=h2.symm.repl a2;obtain ⟨v2,c1,c2⟩:=b1.symm.repl k;exact ⟨v2,⟨u',a1,c1⟩,c2.tr b2⟩
def kyS (a:Stp):Int:=a.2 - a.1
theorem qYJ {x y:Stp} {r:List Stp} (g:0<=x.2) (k:kyS y<=kyS x):Dm 0 (y::x::r) (x::y::r):=by
 unfold kyS at k;refine Dm.step (s1:=[]) (E6 _) trivial ?_;refine Dm.step (s1:=[y,x]) ?_ ⟨?_,?_,trivial⟩ ((Dm.refl (E6 0) r).to ?_)
 ·show 0+0 - x.2<=0;omega
 ·show 0+0 - x.2+y.1<=y.1;omega
 ·show 0+0 - x.2+y.2+x.1<=y.1;omega
 ·show 0=0+0 - x.2+(y.2+(x.2+0)) - y.2;omega
theorem qTX {x:Stp} {s t:List Stp} (h:Dm 0 s t):Dm 0 (x::s) (x::t):=
 Dm.step (s1:=[x]) (E6 _) ⟨by omega,trivial⟩ (h.to (by show 0=0+(x.2+0) - x.2;omega))
theorem qQ2 {y:Stp} {b:List Stp}:∀ (a:List Stp),(∀ x ∈ a,0<=x.2/\kyS y<=kyS x)->Dm 0 (y::(a++b)) (a++y::b)
 | [],_=>.refl (E6 _) _
 | x::a,h=>by
  have hx:=h x A6;exact (qYJ hx.1 hx.2).tr (qTX (qQ2 a fun z hz=>h z (A5 _ hz)))
theorem qN6:∀ (os t:List Stp),os.Pairwise (fun a b=>kyS a<=kyS b)->t.Perm os->(∀ x ∈ os,0<=x.2)->Dm 0 os t
 | [],t,_,p,_=>by rw [List.perm_nil.mp p];exact .nil (E6 _)
 | y::os,t,s,p,g=>by
  obtain ⟨a,b,rfl⟩:=A16 (p.mem_iff.mpr A6);have pb:(a++b).Perm os:=(o8.symm.trans p).cons_inv;rw [L6] at s;refine (qTX (qN6 os (a++b) s.2 pb fun x hx=>g x (A5 _ hx))).tr (qQ2 a fun x hx=>?_);have mx:x ∈ os:=pb.mem_iff.mp (Q2 _ hx);exact ⟨g x (A5 _ mx),s.1 x mx⟩
def Eqv (s t:List Stp):Prop:=Dm 0 s t/\Dm 0 t s
theorem Eqv.rfl' (s:List Stp):Eqv s s:=⟨.refl (E6 _) s,.refl (E6 _) s⟩
theorem Eqv.tr {s t u:List Stp} (h:Eqv s t) (k:Eqv t u):Eqv s u:=⟨h.1.tr k.1,k.2.tr h.2⟩
theorem Eqv.gns {s t:List Stp} (h:Eqv s t):gns s=gns t:=by
 have a:=h.1.end_;have b:=h.2.end_;omega
theorem Eqv.app {s t s' t':List Stp} (h:Eqv s t) (k:Eqv s' t'):Eqv (s++s') (t++t'):=
 ⟨h.1.app (k.1.to (by have:=h.gns;omega)),h.2.app (k.2.to (by have:=h.gns;omega))⟩
def qVS (a b:Stp):Stp:=(mxi a.1 (a.2+b.1),a.2+b.2)
theorem qQ0 {a b:Stp} (g:0<=a.2) (h:b.2<=0\/a.1<=a.2+b.1):Eqv [qVS a b] [a,b]:=by
 constructor
 ·by_cases c:a.1<=a.2+b.1
  ·refine Dm.step (s1:=[]) (E6 _) trivial (Dm.step (s1:=[qVS a b]) ?_ ⟨?_,trivial⟩ (Dm.nil ?_))
   ·show 0+0 - a.2<=0;omega
   ·show 0+0 - a.2+mxi a.1 (a.2+b.1)<=b.1;have:=qWV (a:=a.1) (b:=a.2+b.1) (c:=a.2+b.1);have:=this.mpr ⟨c,E6 _⟩;omega
   ·show 0+0 - a.2+(a.2+b.2+0) - b.2<=0;omega
  ·have h':b.2<=0:=by omega
   refine Dm.step (s1:=[qVS a b]) (E6 _) ⟨?_,trivial⟩ (Dm.step (s1:=[]) ?_ trivial (Dm.nil ?_))
   ·show 0+mxi a.1 (a.2+b.1)<=a.1;have:=(qWV (a:=a.1) (b:=a.2+b.1) (c:=a.1)).mpr ⟨E6 _,by omega⟩
    omega
   ·show 0+(a.2+b.2+0) - a.2<=0;omega
   ·show 0+(a.2+b.2+0) - a.2+0 - b.2<=0;omega
 ·refine Dm.step (s1:=[a,b]) (E6 _) ⟨?_,?_,trivial⟩ (Dm.nil ?_)
  ·show 0+a.1<=mxi a.1 (a.2+b.1);have:=(qMO (a:=a.1) (b:=a.2+b.1)).1;omega
  ·show 0+a.2+b.1<=mxi a.1 (a.2+b.1);have:=(qMO (a:=a.1) (b:=a.2+b.1)).2;omega
  ·show 0+(a.2+(b.2+0)) - (a.2+b.2)<=0;omega
structure Prt where
 r:Int
 g:Int
 wks:List Int
def Prt.s (p:Prt):Stp:=(p.r,p.g)
def qAG (ps:List Prt):List Int:=(ps.map Prt.wks).flatten
theorem qAY (a b:List Prt):qAG (a++b)=qAG a++qAG b:=by unfold qAG;rw [A9,R5]
theorem qBU (p:Prt):qAG [p]=p.wks:=by unfold qAG;simp
def qFU (a b:Prt):Prt:=⟨mxi a.r (a.g+b.r),a.g+b.g,a.wks++b.wks⟩
def qCW:List Prt->Prt->List Prt
 | [],p=>[p]
 | a::st,p=>if p.g<=0\/a.r<=a.g+p.r then qCW st (qFU a p) else p::a::st
structure PileOk (st:List Prt):Prop where
 pos:∀ a ∈ st,0<a.g
 fall:st.Pairwise fun b a=>kyS a.s<kyS b.s
theorem PileOk.nil:PileOk []:=⟨(fun _ h=>nomatch h),.nil⟩
theorem qI3:∀ (st:List Prt) (p:Prt),PileOk st->0<p.g+gns (st.map Prt.s)->
  PileOk (qCW st p)/\Eqv ((qCW st p).reverse.map Prt.s) ((st.reverse++[p]).map Prt.s)/\qAG (qCW st p).reverse=qAG (st.reverse++[p])
 | [],p,_,h=>by
  have h':0<p.g+0:=h;exact ⟨⟨fun a ha=>by rw [A3.mp ha];omega,V0 _ _⟩,.rfl' _,rfl⟩
 | a::st,p,ok,h=>by
  have h':0<p.g+(a.g+gns (st.map Prt.s)):=h;have pa:=ok.pos a A6;have fl:=L6.mp ok.fall;have ok':PileOk st:=⟨fun x hx=>ok.pos x (A5 _ hx),fl.2⟩;unfold qCW
  split
  ·rename_i c
   obtain ⟨k1,k2,k3⟩:=qI3 st (qFU a p) ok' (by show 0<a.g+p.g+gns (st.map Prt.s);omega)
   refine ⟨k1,k2.tr ?_,k3.trans ?_⟩
   ·rw [K9,O7,A9,A9];refine (Eqv.rfl' _).app ?_;exact qQ0 (a:=a.s) (b:=p.s) (by show 0<=a.g;omega) c
   ·rw [K9,O7,qAY,qAY,qBU];show _++(a.wks++p.wks)=_++qAG ([a]++[p]);rw [qAY,qBU,qBU]
  ·rename_i c
   have c1:0<p.g:=by omega
   have c2:a.g+p.r<a.r:=by omega
   refine ⟨⟨fun x hx=>?_,L6.mpr ⟨fun x hx=>?_,ok.fall⟩⟩,?_,?_⟩
   ·rcases B6.mp hx with e | e
    ·rw [e];exact c1
    ·exact ok.pos x e
   ·have ka:kyS a.s<kyS p.s:=by show a.g - a.r<p.g - p.r;omega
    rcases B6.mp hx with e | e
    ·rw [e];exact ka
    ·have:=fl.1 x e;omega
   ·rw [K9];exact .rfl' _
   ·rw [K9]
def jrun (st ps:List Prt):List Prt:=ps.foldl qCW st
theorem qOJ:∀ {st:List Prt},(∀ a ∈ st,0<a.g)->0<=gns (st.map Prt.s)
 | [],_=>E6 _
 | a::st,h=>by
  have h1:=h a A6;have h2:=qOJ fun x hx=>h x (A5 _ hx);show 0<=a.g+gns (st.map Prt.s);omega
theorem qPV {a b:List Stp} (h:a.Perm b):gns a=gns b:=by
 induction h with
 | nil=>rfl
 | cons x _ ih=>show x.2+_=x.2+_;rw [ih]
 | swap x y l=>show y.2+(x.2+gns l)=x.2+(y.2+gns l);omega
 | trans _ _ h1 h2=>exact h1.trans h2
theorem qOH:∀ (ps st:List Prt),PileOk st->(∀ p ∈ ps,0<p.g)->PileOk (jrun st ps)/\Eqv ((jrun st ps).reverse.map Prt.s) ((st.reverse++ps).map Prt.s)/\qAG (jrun st ps).reverse=qAG (st.reverse++ps)
 | [],st,ok,_=>by
  show PileOk st/\Eqv (st.reverse.map Prt.s) _/\qAG st.reverse=_;rw [V7];exact ⟨ok,.rfl' _,rfl⟩
 | p::ps,st,ok,h=>by
  have g1:=qOJ ok.pos;have g2:=h p A6;obtain ⟨k1,k2,k3⟩:=qI3 st p ok (by omega)
  obtain ⟨m1,m2,m3⟩:=qOH ps (qCW st p) k1 fun x hx=>h x (A5 _ hx);have e:st.reverse++p::ps=(st.reverse++[p])++ps:=by rw [O7];rfl
  refine ⟨m1,m2.tr ?_,m3.trans ?_⟩
  ·rw [e,A9,A9];exact k2.app (.rfl' _)
  ·rw [e,qAY,qAY,k3]
theorem qJ5 (ps st:List Prt) (p:Prt):jrun st (ps++[p])=qCW (jrun st ps) p:=by unfold jrun;rw [A26];rfl
theorem qT7 {ps:List Prt} {p:Prt} (h:∀ x ∈ ps,0<x.g) (t:0<p.g+gns (ps.map Prt.s)) :
  (∀ x ∈ (jrun [] (ps++[p])).reverse,0<x.g)/\(jrun [] (ps++[p])).reverse.Pairwise (fun a b=>kyS a.s<kyS b.s)/\Eqv ((jrun [] (ps++[p])).reverse.map Prt.s) ((ps++[p]).map Prt.s)/\qAG (jrun [] (ps++[p])).reverse=qAG (ps++[p]):=by
 obtain ⟨k1,k2,k3⟩:=qOH ps [] .nil h;have k2':Eqv ((jrun [] ps).reverse.map Prt.s) (ps.map Prt.s):=k2;have k3':qAG (jrun [] ps).reverse=qAG ps:=k3;have g:gns ((jrun [] ps).map Prt.s)=gns (ps.map Prt.s):=by
  rw [<- k2'.gns];exact qPV ((List.reverse_perm _).symm.map _)
 obtain ⟨m1,m2,m3⟩:=qI3 (jrun [] ps) p k1 (by omega)
 rw [qJ5];refine ⟨fun x hx=>m1.pos x (A45.mp hx),List.pairwise_reverse.mpr m1.fall,m2.tr ?_,m3.trans ?_⟩
 ·rw [A9,A9];exact k2'.app (.rfl' _)
 ·rw [qAY,qAY,k3']
theorem qJ4 {G:Prt->Prop} (hG:∀ a b,G a->G b->0<=a.g->(b.g<=0\/a.r<=a.g+b.r)->G (qFU a b)):∀ (st:List Prt) (p:Prt),(∀ a ∈ st,0<a.g)->(∀ a ∈ st,G a)->G p->∀ a ∈ qCW st p,G a
 | [],p,_,_,h=>fun a ha=>by rw [A3.mp ha];exact h
 | b::st,p,ok,g,h=>by
  have pb:=ok b A6;unfold qCW
  split
  ·rename_i c
   exact qJ4 hG st _ (fun x hx=>ok x (A5 _ hx)) (fun x hx=>g x (A5 _ hx)) (hG b p (g b A6) h (by omega) c)
  ·intro a ha;rcases B6.mp ha with e | e
   ·rw [e];exact h
   ·exact g a e
theorem qPR {G:Prt->Prop} (hG:∀ a b,G a->G b->0<=a.g->(b.g<=0\/a.r<=a.g+b.r)->G (qFU a b)):∀ (ps st:List Prt),PileOk st->(∀ p ∈ ps,0<p.g)->(∀ a ∈ st,G a)->(∀ p ∈ ps,G p)->∀ a ∈ jrun st ps,G a
 | [],st,_,_,g,_=>g
 | p::ps,st,ok,h,g,k=>by
  have g1:=qOJ ok.pos;have g2:=h p A6;obtain ⟨k1,_,_⟩:=qI3 st p ok (by omega)
  exact qPR hG ps (qCW st p) k1 (fun x hx=>h x (A5 _ hx)) (qJ4 hG st p ok.pos g (k p A6)) (fun x hx=>k x (A5 _ hx))
theorem qQY {G:Prt->Prop} (hG:∀ a b,G a->G b->0<=a.g->(b.g<=0\/a.r<=a.g+b.r)->G (qFU a b)) {ps:List Prt} {p:Prt} (h:∀ x ∈ ps,0<x.g) (g:∀ x ∈ ps,G x) (gp:G p):∀ x ∈ (jrun [] (ps++[p])).reverse,G x:=by
 intro x hx;rw [A45,qJ5] at hx;obtain ⟨k1,_,_⟩:=qOH ps [] .nil h;exact qJ4 hG _ _ k1.pos (qPR hG ps [] .nil h (fun _ z=>nomatch z) g) gp x hx
theorem qPH {α:Type} {R:α->α->Prop}:∀ {l:List α} {a b:α},l.Pairwise R->a ∈ l->b ∈ l->a ≠ b->R a b\/R b a
 | [],_,_,_,h,_,_=>nomatch h
 | x::l,a,b,h,ha,hb,n=>by
  rw [L6] at h;rcases B6.mp ha with e | e
  ·rcases B6.mp hb with f | f
   ·exact absurd (e.trans f.symm) n
   ·rw [e];exact .inl (h.1 b f)
  ·rcases B6.mp hb with f | f
   ·rw [f];exact .inr (h.1 a e)
   ·exact qPH h.2 e f n
section
variable {Ae:List (List Int)} {ws zs:List Int} {work:Int}
def stp (Ae:List (List Int)) (ws:List Int) (x:Int):Stp:=(wdO ws x,wdO ws x - sumW ws (nd Ae x))
def stps (Ae:List (List Int)) (ws:List Int) (l:List Int):List Stp:=l.map (stp Ae ws)
theorem qG3 (a b:List Int):stps Ae ws (a++b)=stps Ae ws a++stps Ae ws b:=by unfold stps;rw [A9]
structure OrdT (Ae:List (List Int)) (z:Int) (l:List Int):Prop where
 nodup:l.Nodup
 mem:∀ x,x ∈ l ↔ Nd Ae [z] x
 top:l.Pairwise fun a b=>b ∉ nd Ae a
theorem qH4 (T:TIn Ae zs work) {z a b x:Int} (hz:z ∈ zs) (ha:a ∈ nd Ae z) (hb:b ∈ nd Ae z) (h1:Nd Ae [a] x) (h2:Nd Ae [b] x):a=b:=by
 have A:=T.has hz ha;have B:=T.has hz hb;rcases T.chain A.1 B.1 h1 h2 with q | q
 ·exact T.apart hz ha hb q
 ·exact (T.apart hz hb ha q).symm
theorem qL4 {z x:Int} (h:Nd Ae [z] x):x=z\/∃ y ∈ nd Ae z,Nd Ae [y] x:=by
 induction h with
 | ask m=>exact .inl (A3.mp m)
 | @need w y ys hw e hm ihn=>
  rcases ihn with h | ⟨v,hv,hn⟩
  ·subst h;exact .inr ⟨y,by rw [qAF e];exact hm,.ask (A3.mpr rfl)⟩
  ·exact .inr ⟨v,hv,.need hn e hm⟩
theorem qOG (T:TIn Ae zs work) {z x:Int} (hz:z ∈ zs):(∃ y ∈ nd Ae z,Nd Ae [y] x) ↔ Nd Ae [z] x/\x ≠ z:=by
 constructor
 ·rintro ⟨y,hy,h⟩;refine ⟨qSQ hy h ⟨_,T.get hz⟩,?_⟩;have:=qMG T.wf h;have:=(T.has hz hy).2.1;omega
 ·rintro ⟨h,n⟩;exact (qL4 h).resolve_left n
theorem OrdT.last (T:TIn Ae zs work) {z:Int} (hz:z ∈ zs) {l:List Int} (h:OrdT Ae z l):∃ l',l=l'++[z]/\l'.Nodup/\(∀ x,x ∈ l' ↔ ∃ y ∈ nd Ae z,Nd Ae [y] x)/\l'.Pairwise (fun a b=>b ∉ nd Ae a):=by
 obtain ⟨a,b,e⟩:=A16 ((h.mem z).mpr (.ask (A3.mpr rfl)));have hb:b=[]:=by
  rcases u8 b with q | ⟨b',o,q⟩
  ·exact q
  ·exfalso
   subst q;have e2:l=(a++z::b')++[o]:=by rw [e];simp
   have nd1:=h.nodup;rw [e2,G5] at nd1;have tp:=h.top;rw [e2,Q4] at tp;have oz:o ≠ z:=fun q=>nd1.2.2 z (by simp) o (by simp) q.symm
   have ho:Nd Ae [z] o:=(h.mem o).mp (by rw [e2];simp)
   cases ho with
   | ask m=>exact oz (A3.mp m)
   | @need u _ ys hu g hm=>
    have hu2:=(h.mem u).mpr hu;rw [e2,D6] at hu2;rcases hu2 with q | q
    ·exact tp.2.2 u q o (by simp) (by rw [qAF g];exact hm)
    ·rw [A3.mp q] at g;have:=((T.wf _ _ g).in_ o hm);omega
 subst hb;refine ⟨a,e,?_,fun x=>?_,?_⟩
 ·have:=h.nodup;rw [e,G5] at this;exact this.1
 ·rw [qOG T hz,<- h.mem x,e,D6,A3];have:=h.nodup;rw [e,G5] at this
  constructor
  ·exact fun hx=>⟨.inl hx,fun q=>this.2.2 x hx z (by simp) q⟩
  ·rintro ⟨q | q,n⟩
   ·exact q
   ·exact absurd q n
 ·have:=h.top;rw [e,Q4] at this;exact this.1
theorem qGZ (p:Int->Bool) (f:Int->Stp):∀ u:List Int,Shu ((u.filter p).map f) ((u.filter fun x=>!p x).map f) (u.map f)
 | []=>.nil
 | x::u=>by
  by_cases c:p x=true
  ·rw [o1 c,o3 (by rw [c];decide)]
   exact .left (qGZ p f u)
  ·rw [o3 c,o1 (by rw [A44] at c;rw [c];decide)]
   exact .right (qGZ p f u)
theorem qP7 (T:TIn Ae zs work) {z:Int} (hz:z ∈ zs):∀ (cs:List Int),cs.Nodup->(∀ y ∈ cs,y ∈ nd Ae z)->∀ u:List Int,u.Nodup->(∀ x,x ∈ u ↔ ∃ y ∈ cs,Nd Ae [y] x)->u.Pairwise (fun a b=>b ∉ nd Ae a)->
  ∃ ts:List (List Int),Paired (fun t y=>OrdT Ae y t) ts cs/\ShM (ts.map (stps Ae ws)) (stps Ae ws u)
 | [],_,_,u,_,m,_=>by
  have:u=[]:=List.eq_nil_iff_forall_not_mem.mpr fun x hx=>by
   obtain ⟨y,hy,_⟩:=(m x).mp hx;cases hy
  subst this;exact ⟨[],.nil,rfl⟩
 | y::cs,nc,hc,u,nu,m,tp=>by
  classical
  rw [G7] at nc;have hy:=hc y A6;obtain ⟨ts,p1,s1⟩:=qP7 T hz cs nc.2 (fun x hx=>hc x (A5 _ hx)) (u.filter fun x=>!decide (Nd Ae [y] x)) (nu.filter _) (fun x=>by
   rw [G6,m x]
   constructor
   ·rintro ⟨⟨y',hy',h⟩,n⟩;rcases B6.mp hy' with q | q
    ·subst q;simp [h] at n
    ·exact ⟨y',q,h⟩
   ·rintro ⟨y',hy',h⟩;refine ⟨⟨y',A5 _ hy',h⟩,?_⟩;have:¬ Nd Ae [y] x:=fun h2=>nc.1 (qH4 T hz hy (hc y' (A5 _ hy')) h2 h ▸ hy');simp [this]) (tp.sublist V1)
  refine ⟨(u.filter fun x=>decide (Nd Ae [y] x))::ts,.cons ⟨nu.filter _,fun x=>?_,tp.sublist V1⟩ p1,_,s1,qGZ _ _ u⟩;rw [G6,m x,decide_eq_true_eq];exact ⟨fun h=>h.2,fun h=>⟨⟨y,A6,h⟩,h⟩⟩
structure PrtOk (Ae:List (List Int)) (ws:List Int) (z:Int) (ps:List Prt):Prop where
 eqv:∀ p ∈ ps,Eqv [p.s] (stps Ae ws p.wks)
 pos:∀ p ∈ ps,0<p.g
 fall:ps.Pairwise fun a b=>kyS a.s<kyS b.s
 sum:gns (ps.map Prt.s)=wdO ws z
 ord:OrdT Ae z (qAG ps)
 best:∀ l,OrdT Ae z l->Dm 0 (stps Ae ws (qAG ps)) (stps Ae ws l)
theorem qOK:∀ {ps:List Prt},(∀ p ∈ ps,Eqv [p.s] (stps Ae ws p.wks))->Eqv (ps.map Prt.s) (stps Ae ws (qAG ps))
 | [],_=>.rfl' _
 | p::ps,h=>by
  have e:qAG (p::ps)=p.wks++qAG ps:=by unfold qAG;rw [B9,E9]
  rw [e,qG3];exact (h p A6).app (qOK fun x hx=>h x (A5 _ hx))
theorem qOZ {F:Int->List Prt}:∀ {cs:List Int},(∀ y ∈ cs,PrtOk Ae ws y (F y))->gns (((cs.map F).flatten).map Prt.s)=sumW ws cs
 | [],_=>by rw [qE6];rfl
 | y::cs,h=>by
  rw [B9,E9,A9,qH5,qAR,(h y A6).sum,qOZ fun x hx=>h x (A5 _ hx)]
theorem qKK {F:Int->List Prt}:∀ (cs:List Int),qAG ((cs.map F).flatten)=(cs.map fun y=>qAG (F y)).flatten
 | []=>rfl
 | y::cs=>by rw [B9,E9,qAY,qKK cs,B9,E9]
theorem qH3 (T:TIn Ae zs work) {z:Int} (hz:z ∈ zs) {F:Int->List Prt}:∀ (cs:List Int),cs.Nodup->(∀ y ∈ cs,y ∈ nd Ae z/\OrdT Ae y (qAG (F y)))->((cs.map fun y=>qAG (F y)).flatten).Nodup
 | [],_,_=>y4
 | y::cs,nc,h=>by
  rw [G7] at nc;rw [B9,E9,G5];have hy:=h y A6;refine ⟨hy.2.nodup,qH3 T hz cs nc.2 fun x hx=>h x (A5 _ hx),fun a ha b hb e=>?_⟩;subst e;obtain ⟨l,hl,hal⟩:=J2.mp hb;obtain ⟨y2,hy2,rfl⟩:=E2.mp hl;have h2:=h y2 (A5 _ hy2);have:=qH4 T hz hy.1 h2.1 ((hy.2.mem a).mp ha) ((h2.2.mem a).mp hal);exact nc.1 (this ▸ hy2)
theorem qIT {F:Int->List Prt}:∀ {cs:List Int} {ts:List (List Int)},(∀ y ∈ cs,PrtOk Ae ws y (F y))->Paired (fun t y=>OrdT Ae y t) ts cs->Paired (fun s t=>Dm 0 s t) (cs.map fun y=>(F y).map Prt.s) (ts.map (stps Ae ws))
 | _,_,_,.nil=>.nil
 | _,_,h,.cons k p=>.cons (by
   have hy:=h _ A6;exact (qOK hy.eqv).1.tr (hy.best _ k)) (qIT (fun x hx=>h x (A5 _ hx)) p)
theorem qQL (T:TIn Ae zs work) (w1:Wd1 Ae ws) {z:Int} (hz:z ∈ zs) {F:Int->List Prt} (h:∀ y ∈ nd Ae z,PrtOk Ae ws y (F y)) {srt:List Prt} (p:srt.Perm ((nd Ae z).map F).flatten) (s:srt.Pairwise fun a b=>kyS a.s<=kyS b.s) :
  PrtOk Ae ws z (jrun [] (srt++[⟨wdO ws z,wdO ws z - sumW ws (nd Ae z),[z]⟩])).reverse:=by
 have zb:=T.N.1.in_ z hz;have wz:=w1 z zb.1 zb.2;have from_:∀ q ∈ srt,∃ y ∈ nd Ae z,q ∈ F y:=fun q hq=>by
  obtain ⟨l,hl,hql⟩:=J2.mp (p.mem_iff.mp hq);obtain ⟨y,hy,rfl⟩:=E2.mp hl;exact ⟨y,hy,hql⟩
 have pos:∀ q ∈ srt,0<q.g:=fun q hq=>by
  obtain ⟨y,hy,hm⟩:=from_ q hq;exact (h y hy).pos q hm
 have sm:gns (srt.map Prt.s)=sumW ws (nd Ae z):=by rw [qPV (p.map _)];exact qOZ h
 obtain ⟨j1,j2,j3,j4⟩:=qT7 (p:=⟨wdO ws z,wdO ws z - sumW ws (nd Ae z),[z]⟩) pos (by rw [sm];show 0<wdO ws z - sumW ws (nd Ae z)+_;omega)
 have j4':qAG (jrun [] (srt++[⟨wdO ws z,wdO ws z - sumW ws (nd Ae z),[z]⟩])).reverse=qAG srt++[z]:=by rw [j4,qAY,qBU]
 have ev:∀ q ∈ srt,Eqv [q.s] (stps Ae ws q.wks):=fun q hq=>by
  obtain ⟨y,hy,hm⟩:=from_ q hq;exact (h y hy).eqv q hm
 have ea:=qOK ev;have one:Eqv [Prt.s ⟨wdO ws z,wdO ws z - sumW ws (nd Ae z),[z]⟩] (stps Ae ws [z]):=.rfl' _;have pw:(qAG srt).Perm ((nd Ae z).map fun y=>qAG (F y)).flatten:=by
  rw [<- qKK];exact (p.map Prt.wks).flatten
 have ndk:=qH3 T hz (nd Ae z) (T.nodup hz) fun y hy=>⟨hy,(h y hy).ord⟩;have nds:(qAG srt).Nodup:=pw.nodup_iff.mpr ndk;have mem:∀ x,x ∈ qAG srt ↔ ∃ y ∈ nd Ae z,Nd Ae [y] x:=fun x=>by
  rw [pw.mem_iff,J2]
  constructor
  ·rintro ⟨l,hl,hx⟩;obtain ⟨y,hy,rfl⟩:=E2.mp hl;exact ⟨y,hy,((h y hy).ord.mem x).mp hx⟩
  ·rintro ⟨y,hy,hx⟩;exact ⟨_,E2.mpr ⟨y,hy,rfl⟩,((h y hy).ord.mem x).mpr hx⟩
 have wof:∀ {y:Int} {q:Prt} {x:Int},q ∈ F y->x ∈ q.wks->x ∈ qAG (F y):=fun {y q x} hq hx=>J2.mpr ⟨_,E2.mpr ⟨q,hq,rfl⟩,hx⟩;have tops:(qAG srt).Pairwise fun a b=>b ∉ nd Ae a:=by
  unfold qAG;rw [W5,G4];have dis:srt.Pairwise fun a b=>∀ x ∈ a.wks,∀ y ∈ b.wks,x ≠ y:=by
   have:=nds;unfold qAG List.Nodup at this;rw [W5,G4] at this;exact this.2
  constructor
  ·intro l hl;obtain ⟨q,hq,rfl⟩:=E2.mp hl;obtain ⟨y,hy,hm⟩:=from_ q hq;have:=(h y hy).ord.top;unfold qAG at this;rw [W5] at this;exact this.1 _ (E2.mpr ⟨q,hm,rfl⟩)
  ·refine (s.and dis).imp_of_mem fun {a b} ha hb q x hx y hy hyx=>?_;obtain ⟨c1,hc1,ma⟩:=from_ a ha;obtain ⟨c2,hc2,mb⟩:=from_ b hb;have x1:=((h c1 hc1).ord.mem x).mp (wof ma hx);have y2:=((h c2 hc2).ord.mem y).mp (wof mb hy);have xz:x ∈ zs:=by
    have A:=T.has hz hc1;obtain ⟨yy,NY,sy⟩:=qFG T A.1;exact sy x ((NY.2 x).mpr x1)
   have y1:Nd Ae [c1] y:=.need x1 (T.get xz) hyx;have ec:=qH4 T hz hc1 hc2 y1 y2;subst ec;have ne:a ≠ b:=fun e=>q.2 y (e ▸ hy) y hy rfl;have tp:=(h c1 hc1).ord.top;unfold qAG at tp;rw [W5,G4] at tp;rcases qPH ((h c1 hc1).fall.and tp.2) ma mb ne with r | r
   ·exact r.2 x hx y hy hyx
   ·have:=r.1;have:=q.1;omega
 have ord:OrdT Ae z (qAG srt++[z]):=by
  refine ⟨?_,fun x=>?_,?_⟩
  ·rw [G5];refine ⟨nds,by simp,fun a ha b hb e=>?_⟩
   rw [A3.mp hb] at e;exact ((qOG T hz).mp ((mem a).mp ha)).2 e
  ·rw [D6,mem x,qOG T hz,A3]
   constructor
   ·rintro (q | q)
    ·exact q.1
    ·rw [q];exact .ask (A3.mpr rfl)
   ·intro q;by_cases e:x=z
    ·exact .inr e
    ·exact .inl ⟨q,e⟩
  ·rw [Q4];refine ⟨tops,V0 _ _,fun a ha b hb hn=>?_⟩;rw [A3.mp hb] at hn;obtain ⟨y,hy,ha2⟩:=(mem a).mp ha;have A:=T.has hz hy;obtain ⟨yy,NY,sy⟩:=qFG T A.1;have az:=sy a ((NY.2 a).mpr ha2);have:=(T.has az hn).2.1;have:=qMG T.wf ha2;omega
 refine ⟨?_,j1,j2,?_,?_,?_⟩
 ·refine qQY (G:=fun q=>Eqv [q.s] (stps Ae ws q.wks)) (fun a b ga gb g0 c=>?_) pos ev one;show Eqv [qVS a.s b.s] (stps Ae ws (a.wks++b.wks));rw [qG3];exact (qQ0 (a:=a.s) (b:=b.s) g0 c).tr (ga.app gb)
 ·rw [j3.gns,A9,qH5,sm];show _+(wdO ws z - sumW ws (nd Ae z)+0)=_;omega
 ·rw [j4'];exact ord
 ·intro l hl;obtain ⟨l',rfl,nl,ml,tl⟩:=hl.last T hz;obtain ⟨ts,p1,s1⟩:=qP7 (ws:=ws) T hz (nd Ae z) (T.nodup hz) (fun y hy=>hy) l' nl ml tl;obtain ⟨v,v1,v2⟩:=ShM.repl (qIT h p1) s1;have pv:v.Perm (srt.map Prt.s):=by
   refine v1.perm.trans ?_;have e:((nd Ae z).map fun y=>(F y).map Prt.s).flatten=(((nd Ae z).map F).flatten).map Prt.s:=by
    rw [List.map_flatten,P5]
    rfl
   rw [e];exact (p.map _).symm
  have d1:Dm 0 (srt.map Prt.s) v:=qN6 _ _ (G4.mpr s) pv fun x hx=>by
   obtain ⟨q,hq,rfl⟩:=E2.mp hx;have:=pos q hq;show 0<=q.g;omega
  have d2:=(ea.2.tr d1).tr v2;rw [j4',qG3,qG3];exact d2.app (.refl d2.end_ _)
end
theorem qO4 {α β:Type} {F:α->β->Prop} {l₁:List α} {l₂:List β} (h:Paired F l₁ l₂):Paired F l₁.reverse l₂.reverse:=by
 induction h with
 | nil=>exact .nil
 | cons r _ ih=>rw [K9,K9];exact qCG ih r
theorem qGE {r:Addr} {rs:List Addr}:(((r::rs).reverse.map V.ref)[((r::rs).reverse.map V.ref).length - 1]?=some (V.ref r))/\((r::rs).reverse.map V.ref).dropLast=rs.reverse.map V.ref:=by
 rw [K9,A9]
 constructor
 ·rw [A7,A0,A0];simp
 ·simp
def PrtAt (H:Hp) (T:Addr) (p:Prt):Prop:=∃ l,H T=some (.tup [.int p.r,.int p.g,.ref l])/\H l=some (.lst (p.wks.map V.int))
theorem PrtAt.same {H H':Hp} {T:Addr} {p:Prt} (h:PrtAt H T p) (s:Same H H'):PrtAt H' T p:=by
 obtain ⟨l,h1,h2⟩:=h;exact ⟨l,s _ _ h1,s _ _ h2⟩
abbrev PrtL (H:Hp) (rs:List Addr) (ps:List Prt):Prop:=Paired (PrtAt H) rs ps
theorem PrtL.same {H H':Hp} {rs:List Addr} {ps:List Prt} (h:PrtL H rs ps) (s:Same H H'):PrtL H' rs ps:=qBP h fun _ _ e=>e.same s
def PrtX (x:Addr) (H:Hp) (T:Addr) (p:Prt):Prop:=∃ l,l ≠ x/\H T=some (.tup [.int p.r,.int p.g,.ref l])/\H l=some (.lst (p.wks.map V.int))
theorem PrtX.same {x:Addr} {H H':Hp} {T:Addr} {p:Prt} (h:PrtX x H T p) (s:Same H H'):PrtX x H' T p:=by
 obtain ⟨l,n,h1,h2⟩:=h;exact ⟨l,n,s _ _ h1,s _ _ h2⟩
theorem PrtX.put {x:Addr} {H:Hp} {T:Addr} {p:Prt} {xs:List V} {o:HO} (h:PrtX x H T p) (g:H x=some (.lst xs)):PrtX x (upd H x o) T p:=by
 obtain ⟨l,n,h1,h2⟩:=h;exact ⟨l,n,by rw [qA8 (qBS h1 g (by intro z;cases z))];exact h1,by rw [qA8 n];exact h2⟩
theorem PrtX.at_ {x:Addr} {H:Hp} {T:Addr} {p:Prt} (h:PrtX x H T p):PrtAt H T p:=by
 obtain ⟨l,n,h1,h2⟩:=h;exact ⟨l,h1,h2⟩
theorem PrtAt.out {x:Addr} {H:Hp} {T:Addr} {p:Prt} (h:PrtAt H T p) (n:H x=none):PrtX x H T p:=by
 obtain ⟨l,h1,h2⟩:=h;exact ⟨l,qA5 h2 n,h1,h2⟩
theorem qMV:∀ (st:List Prt) (p:Prt),(qAG (qCW st p)).length=(qAG st).length+p.wks.length/\(qCW st p).length<=st.length+1
 | [],p=>by
  show (qAG [p]).length=(qAG []).length+_/\1<=0+1;rw [qBU];exact ⟨by show _=0+_;omega,by omega⟩
 | a::st,p=>by
  have e:(qAG (a::st)).length=a.wks.length+(qAG st).length:=by
   show (qAG ([a]++st)).length=_;rw [qAY,qBU,A7]
  unfold qCW
  split
  ·have:=qMV st (qFU a p);have l:(qFU a p).wks.length=a.wks.length+p.wks.length:=by show (a.wks++p.wks).length=_;rw [A7]
   rw [E3];omega
  ·have e2:(qAG (p::a::st)).length=p.wks.length+(qAG (a::st)).length:=by
    show (qAG ([p]++(a::st))).length=_;rw [qAY,qBU,A7]
   exact ⟨by omega,by rw [E3,E3];omega⟩
def qP2:Sp:=fun vs H Q _=>∃ (a b:Addr) (p q:Prt),vs=[.ref a,.ref b]/\PrtAt H a p/\PrtAt H b q/\p.wks.length+q.wks.length<=63/\
 ∀ T l H',Same H H'->H l=none->H' T=some (.tup [.int (qFU p q).r,.int (qFU p q).g,.ref l])->H' l=some (.lst ((qFU p q).wks.map V.int))->Q (.ref T) H'
def qP3:Sp:=fun vs H Q _=>∃ (a:Addr) (rs:List Addr) (ps:List Prt),vs=[.ref a]/\H a=some (.lst (rs.map V.ref))/\PrtL H rs ps/\(qAG ps).length<=63/\ps.length<=63/\
 ∀ l rs' H',Same H H'->H l=none->H' l=some (.lst (rs'.map V.ref))->PrtL H' rs' (jrun [] ps).reverse->Q (.ref l) H'
def TabP (H:Hp) (Pt:Addr):Prop:=H Pt=some (.tbl (.tab "parts_over.<locals>.<lambda>"))
def qKX (Ae:List (List Int)) (ws:List Int) (z:Int):Prt:=⟨wdO ws z,wdO ws z - sumW ws (nd Ae z),[z]⟩
theorem PrtAt.dict {H:Hp} {T dn:Addr} {p:Prt} {Af:List (Key × V)} {o:HO} (h:PrtAt H T p) (g:H dn=some (.dK Af)):PrtAt (upd H dn o) T p:=by
 obtain ⟨l,h1,h2⟩:=h;exact ⟨l,by rw [qA8 (qBS h1 g (by intro z;cases z))];exact h1,by rw [qA8 (qBS h2 g (by intro z;cases z))];exact h2⟩
theorem qS5 {Ae:List (List Int)} {ws:List Int}:∀ {ps:List Prt},(∀ p ∈ ps,Eqv [p.s] (stps Ae ws p.wks))->ps.length<=(qAG ps).length
 | [],_=>B0 _
 | p::ps,h=>by
  have e:qAG (p::ps)=p.wks++qAG ps:=by unfold qAG;rw [B9,E9]
  have ih:=qS5 fun x hx=>h x (A5 _ hx);have h1:=h p A6;have n:1<=p.wks.length:=by
   cases hw:p.wks with
   | nil=>
    rw [hw] at h1;have:=h1.1.nil_right;cases this
   | cons _ _=>exact Nat.succ_le_succ (D3 _)
  rw [e,A7,E3];omega
theorem OrdT.ahead {Ae:List (List Int)} {z:Int} {l:List Int} (wf:WFn Ae) (h:OrdT Ae z l) (b:∀ x ∈ l,Ae[x.toNat]?=some (nd Ae x)):∀ (p:Nat) (o:Int),l[p]?=some o->∀ x ∈ nd Ae o,x ∈ l.take p:=by
 intro p o e x hx;have ho:=B4 e;have hxl:x ∈ l:=(h.mem x).mpr (.need ((h.mem o).mp ho) (b o ho) hx);obtain ⟨q,hq,eq⟩:=U9 hxl;obtain ⟨hp,ep⟩:=A4.mp e;by_cases c:q<p
 ·rw [<- eq];exact k6.mpr ⟨q,by omega,rfl⟩
 ·exfalso
  by_cases c2:q=p
  ·subst c2;have:x=o:=by rw [<- eq,<- ep]
   have:=(wf _ _ (b o ho)).in_ x hx;omega
  ·have:=F3.mp h.top p q hp hq (by omega)
   rw [ep,eq] at this;exact this hx
theorem OrdT.all {Ae:List (List Int)} {zs:List Int} {work:Int} {l:List Int} (T:TIn Ae zs work) (h:OrdT Ae work l):TopO Ae l/\l.length<=63:=by
 have inz:∀ x ∈ l,x ∈ zs:=fun x hx=>(T.N.2 x).mpr ((h.mem x).mp hx);refine ⟨qRO T.N h.nodup (fun x=>(h.mem x).trans (T.N.2 x).symm) (h.ahead T.wf fun x hx=>T.get (inz x hx)),?_⟩;have:=qIW h.nodup fun x hx=>T.N.1.in_ x (inz x hx);have:=T.len;omega
def Best (Ae:List (List Int)) (ws:List Int) (work:Int) (l:List Int):Prop:=OrdT Ae work l/\∀ l',OrdT Ae work l'->Dm 0 (stps Ae ws l) (stps Ae ws l')
def qIF (Pt:Addr):Sp:=fun vs H Q _=>∃ (a t:Addr) (Ae:List (List Int)) (ws:List Int) (work:Int),vs=[.ref a,.ref t,.int work]/\TabP H Pt/\qRA H a t Ae ws work/\
 ∀ (m:Int) (L:List Int) (H':Hp),Same H H'->Best Ae ws work L->topD none (qC4 Ae ws L)=some m->Q (.int m) H'
theorem qGT {Ae:List (List Int)} {ws:List Int} {m:Int}:∀ (l:List Int) (k:Int),Belo m k (stps Ae ws l) ↔ ∀ v ∈ runK Ae ws k l,v<=m
 | [],k=>⟨(fun _ v h=>nomatch h),fun _=>trivial⟩
 | x::l,k=>by
  show (k+wdO ws x<=m/\Belo m (k+(wdO ws x - sumW ws (nd Ae x))) (stps Ae ws l)) ↔ _;rw [qGT l,show k+(wdO ws x - sumW ws (nd Ae x))=k+wdO ws x - sumW ws (nd Ae x) by omega]
  constructor
  ·rintro ⟨h1,h2⟩ v hv;rcases B6.mp hv with e | e
   ·rw [e];exact h1
   ·exact h2 v e
  ·exact fun h=>⟨h _ A6,fun v hv=>h v (A5 _ hv)⟩
theorem qNW {l:List Int} {m:Int} (h:topD none l=some m):IsTop l m:=by
 cases l with
 | nil=>cases h
 | cons x l=>
  have e:topI x l=m:=C6 h;obtain ⟨a,b,c⟩:=qNV l x;rw [<- e];refine ⟨?_,fun y hy=>?_⟩
  ·rcases c with q | q
   ·rw [q];exact A6
   ·exact A5 _ q
  ·rcases B6.mp hy with q | q
   ·rw [q];exact a
   ·exact b y q
theorem OrdT.run {Ae:List (List Int)} {ws zs:List Int} {work:Int} {l:List Int} (T:TIn Ae zs work) (h:OrdT Ae work l):qC4 Ae ws l=runK Ae ws 0 l:=by
 have inz:∀ x ∈ l,x ∈ zs:=fun x hx=>(T.N.2 x).mpr ((h.mem x).mp hx);exact qLY T.wf (h.all T).1 fun hu hv h1 h2=>T.user (inz _ hu) (inz _ hv) h1 h2
theorem OrdT.ne {Ae:List (List Int)} {work:Int} {l:List Int} (h:OrdT Ae work l):l ≠ []:=fun e=>by
 have:=(h.mem work).mpr (.ask (A3.mpr rfl));rw [e] at this;cases this
theorem OrdT.top_ex {Ae:List (List Int)} {ws:List Int} {work:Int} {l:List Int} (h:OrdT Ae work l):∃ m,topD none (qC4 Ae ws l)=some m:=by
 have hm:=List.length_pos_iff.mpr h.ne;have le:(qC4 Ae ws l).length=l.length:=by unfold qC4;rw [A0,W7]
 cases e:qC4 Ae ws l with
 | nil=>rw [e] at le;simp at le;omega
 | cons x r=>exact ⟨_,rfl⟩
theorem qOO {Ae:List (List Int)} {ws zs:List Int} {work m m':Int} {l l':List Int} (T:TIn Ae zs work) (B:Best Ae ws work l) (h':OrdT Ae work l') (e:topD none (qC4 Ae ws l)=some m) (e':topD none (qC4 Ae ws l')=some m'):m<=m':=by
 have t:=qNW e;have t':=qNW e';rw [B.1.run T] at t;rw [h'.run T] at t';have b:Belo m' 0 (stps Ae ws l'):=(qGT l' 0).mpr t'.2;have b2:=(B.2 l' h').low b;exact (qGT l (0+0)).mp b2 m t.1
theorem qWA {Ae:List (List Int)} {ws zs:List Int} {work m m':Int} {l l':List Int} (T:TIn Ae zs work) (B:Best Ae ws work l) (B':Best Ae ws work l') (e:topD none (qC4 Ae ws l)=some m) (e':topD none (qC4 Ae ws l')=some m'):m=m':=by
 have:=qOO T B B'.1 e e';have:=qOO T B' B.1 e' e;omega
def dP:Prt:=⟨0,0,[]⟩
def kA (ps:List Prt) (i:Nat):Int:=kyS ((ps[i]?).getD dP).s
def StO (ps srt:List Prt):Prop:=∃ I:List Nat,I.Perm (F6 ps.length)/\I.Pairwise (fun i j=>kA ps i<kA ps j\/kA ps i=kA ps j/\i<=j)/\srt=I.map fun i=>(ps[i]?).getD dP
theorem StO.one {ps a b:List Prt} (h:StO ps a) (k:StO ps b):a=b:=by
 obtain ⟨I,p,s,rfl⟩:=h;obtain ⟨J,p2,s2,rfl⟩:=k;have e:=List.Perm.eq_of_pairwise (le:=fun i j=>kA ps i<kA ps j\/kA ps i=kA ps j/\i<=j) (fun a b _ _ h1 h2=>by omega) s s2 (p.trans p2.symm)
 rw [e]
theorem qYF {α:Type} (d:α) (L:List α):(F6 L.length).map (fun i=>(L[i]?).getD d)=L:=Z4 fun i=>by
 by_cases hi:i<L.length
 ·rw [B1,X5 hi,A1 hi];show some ((L[i]?).getD d)=some L[i];rw [A1 hi]
  rfl
 ·rw [F5 (by rw [A0,W7];omega),F5 (by omega)]
theorem StO.perm {ps a:List Prt} (h:StO ps a):a.Perm ps:=by
 obtain ⟨I,p,s,rfl⟩:=h;have:=p.map fun i=>(ps[i]?).getD dP
 rwa [qYF] at this
theorem StO.up {ps a:List Prt} (h:StO ps a):a.Pairwise (fun a b=>kyS a.s<=kyS b.s):=by
 obtain ⟨I,p,s,rfl⟩:=h;rw [G4];exact s.imp fun {i j} z=>by unfold kA at z;omega
theorem PrtAt.one {H:Hp} {T:Addr} {p q:Prt} (h:PrtAt H T p) (k:PrtAt H T q):p=q:=by
 obtain ⟨l,h1,h2⟩:=h;obtain ⟨m,k1,k2⟩:=k;rw [h1] at k1
 injection k1 with k1
 injection k1 with k1
 injection k1 with e1 k1
 injection k1 with e2 k1
 injection k1 with e3 k1
 injection e1 with e1
 injection e2 with e2
 injection e3 with e3
 subst e3;rw [h2] at k2
 injection k2 with k2
 injection k2 with k2
 have e4:p.wks=q.wks:=by
  have inj:∀ a b:List Int,a.map V.int=b.map V.int->a=b:=by
   intro a
   induction a with
   | nil=>intro b h;cases b with | nil=>rfl | cons _ _=>cases h
   | cons x a ih=>
    intro b h;cases b with
    | nil=>cases h
    | cons y b=>
     rw [B9,B9] at h
     injection h with h1 h2
     injection h1 with h1
     rw [h1,ih b h2]
  exact inj _ _ k2
 cases p;cases q;cases e1;cases e2;cases e4
 rfl
theorem qS4 {H:Hp} {rs:List Addr} {ps:List Prt} (h:PrtL H rs ps):(qAG ps).Nodup->(∀ p ∈ ps,p.wks ≠ [])->rs.Nodup:=by
 induction h with
 | nil=>exact fun _ _=>.nil
 | @cons r p rs ps h0 hP ih=>
  intro n ne;have e:qAG (p::ps)=p.wks++qAG ps:=by unfold qAG;rw [B9,E9]
  rw [e] at n;obtain ⟨n1,n2,n3⟩:=G5.mp n;refine G7.mpr ⟨fun m=>?_,ih n2 fun q hq=>ne q (A5 _ hq)⟩;obtain ⟨i,hi⟩:=G2 m;obtain ⟨q,hq,hA⟩:=qBZ hP hi;have pq:=h0.one hA;obtain ⟨x,hx⟩:=List.exists_mem_of_ne_nil p.wks (ne p A6);refine n3 x hx x ?_ rfl;unfold qAG;exact J2.mpr ⟨q.wks,A05 (B4 hq),pq ▸ hx⟩
theorem qZC {H:Hp} {rs:List Addr} {ps:List Prt} {zs:List (List Int × V)} (hP:PrtL H rs ps) (s:L2.G.StI (ps.map fun q=>[kyS q.s]) (rs.map V.ref) zs) :
  ∃ (rs2:List Addr) (srt:List Prt),PrtL H rs2 srt/\StO ps srt/\zs.map (·.2)=rs2.map V.ref:=by
 obtain ⟨I,p,so,rfl⟩:=s;have le:=C7 hP;rw [A0,le] at p;have at_:∀ i ∈ I,∃ r q,rs[i]?=some r/\ps[i]?=some q/\PrtAt H r q:=fun i hi=>by
  have hl:i<ps.length:=M8.mp (p.mem_iff.mp hi);have h1:=A1 (show i<rs.length by omega)
  obtain ⟨q,hq,hA⟩:=qBZ hP h1;exact ⟨_,q,h1,hq,hA⟩
 refine ⟨I.map fun i=>(rs[i]?).getD 0,I.map fun i=>(ps[i]?).getD dP,?_,⟨I,p,so.imp_of_mem fun {i j} hi hj z=>?_,rfl⟩,?_⟩
 ·clear p so
  induction I with
  | nil=>exact .nil
  | cons i I ih=>
   obtain ⟨r,q,h1,h2,h3⟩:=at_ i A6;rw [B9,B9];refine .cons ?_ (ih fun j hj=>at_ j (A5 _ hj));rw [h1,h2];exact h3
 ·obtain ⟨r,q,h1,h2,h3⟩:=at_ i hi;obtain ⟨r',q',h1',h2',h3'⟩:=at_ j hj;unfold kA;rw [B1,B1,h2,h2'] at z;rw [h2,h2'];have z:HT.lexLt [kyS q.s] [kyS q'.s]=true\/[kyS q.s]=[kyS q'.s]/\i<=j:=z;show kyS q.s<kyS q'.s\/kyS q.s=kyS q'.s/\i<=j;rcases z with z | ⟨z,z2⟩
  ·rw [HT.lexLt_cons] at z
   split at z
   ·rw [L2.G.lexLt_self] at z;cases z
   ·exact .inl (of_decide_eq_true z)
  ·injection z with z
   exact .inr ⟨z,z2⟩
 ·rw [P5,P5];refine K0 fun i hi=>?_;obtain ⟨r,q,h1,h2,h3⟩:=at_ i hi;simp only [n8,B1,h1,P8,R8]
def POn (Ae:List (List Int)) (ws:List Int) (work:Int) (F:Int->List Prt):Prop:=∀ z,Nd Ae [work] z->∃ srt,StO ((nd Ae z).map F).flatten srt/\F z=(jrun [] (srt++[qKX Ae ws z])).reverse
theorem POn.one {Ae:List (List Int)} {ws zs:List Int} {work:Int} {F G:Int->List Prt} (T:TIn Ae zs work) (h:POn Ae ws work F) (k:POn Ae ws work G):∀ (n:Nat) (z:Int),z.toNat=n->Nd Ae [work] z->F z=G z:=by
 intro n
 induction n using Y5 with
 | ind n ih=>
  intro z hn hz;obtain ⟨a,h1,h2⟩:=h z hz;obtain ⟨b,k1,k2⟩:=k z hz;have mz:=(T.N.2 z).mpr hz;have e:(nd Ae z).map F=(nd Ae z).map G:=K0 fun y hy=>by
   have yb:=T.has mz hy;exact ih y.toNat (by omega) y rfl ((T.N.2 y).mp yb.1)
  rw [e] at h1;rw [h2,k2,h1.one k1]
def WO (Ae:List (List Int)) (ws:List Int) (work:Int) (L:List Int):Prop:=∃ F,POn Ae ws work F/\L=qAG (F work)
theorem WO.one {Ae:List (List Int)} {ws zs:List Int} {work:Int} {a b:List Int} (T:TIn Ae zs work) (h:WO Ae ws work a) (k:WO Ae ws work b):a=b:=by
 obtain ⟨F,h1,rfl⟩:=h;obtain ⟨G,k1,rfl⟩:=k;rw [h1.one T k1 _ work rfl (.ask (A3.mpr rfl))]
def qHD (Pt:Addr):Sp:=fun vs H Q _=>∃ (a t own:Addr) (Ae:List (List Int)) (ws ks:List Int) (z:Int) (ad:Int->Addr) (F:Int->List Prt),vs=[.ref a,.ref t,.int z,.ref own]/\TabP H Pt/\NetAt H a Ae/\WFn Ae/\Ae.length<=63/\WdAt H t Ae ws/\0<=z/\z<(Ae.length:Int)/\
 H own=some (.dK (kvsV ks fun y=>.ref (ad y)))/\(∀ y ∈ nd Ae z,y ∈ ks/\∃ rs:List Addr,H (ad y)=some (.lst (rs.map V.ref))/\PrtL H rs (F y))/\(qAG ((nd Ae z).map F).flatten).length<=62/\((nd Ae z).map F).flatten.length<=62/\
 (qAG ((nd Ae z).map F).flatten).Nodup/\(∀ p ∈ ((nd Ae z).map F).flatten,p.wks ≠ [])/\
 ∀ (l:Addr) (rs:List Addr) (srt:List Prt) (H':Hp),Same H H'->H l=none->StO ((nd Ae z).map F).flatten srt->H' l=some (.lst (rs.map V.ref))->PrtL H' rs (jrun [] (srt++[qKX Ae ws z])).reverse->Q (.ref l) H'
def qET (Pt:Addr):Sp:=fun vs H Q _=>∃ (a t:Addr) (Ae:List (List Int)) (ws:List Int) (work:Int),vs=[.ref a,.ref t,.int work]/\TabP H Pt/\qRA H a t Ae ws work/\
 ∀ (l:Addr) (L:List Int) (H':Hp),Same H H'->H l=none->H' l=some (.lst (L.map V.int))->Best Ae ws work L->WO Ae ws work L->Q (.ref l) H'
theorem qZM {Ae:List (List Int)} {ws:List Int} {p:Prt} (h:Eqv [p.s] (stps Ae ws p.wks)):p.wks ≠ []:=fun hw=>by
 rw [hw] at h;have:=h.1.nil_right;cases this
section
variable {Ae:List (List Int)} {ws zs:List Int} {work:Int}
theorem qM9 {z:Int} {l:List Int} (n:l.Nodup) (m:∀ x,x ∈ l ↔ Nd Ae [z] x) (ah:∀ (p:Nat) (o:Int),l[p]?=some o->∀ x ∈ nd Ae o,x ∈ l.take p):OrdT Ae z l:=by
 refine ⟨n,m,F3.mpr fun i j hi hj ij hx=>?_⟩;have:=ah i _ (A1 hi) _ hx;obtain ⟨q,hq,eq⟩:=k6.mp this;have:=qLA n (by omega) hj eq
 omega
theorem qXJ (T:TIn Ae zs work) {R:Int->Int} {O:Int->List Int} (S:StOn Ae ws zs R O) {z:Int} (hz:z ∈ zs):OrdT Ae z (O z):=by
 obtain ⟨n1,m1,b1⟩:=qRR T S _ z rfl hz;exact qM9 n1 m1 b1
end
end Fw
namespace L2
open PySem PySem.Spec PyProof.Rows
end L2
namespace Fw
open PySem L2
section
variable {Ae:List (List Int)} {ws works:List Int} {work:Int}
theorem qNK {l:List Int} (N:qB5 Ae [work] works) (B:Begun Ae works l) (e:l.length=works.length):OrdT Ae work l:=by
 refine qM9 B.nodup (fun x=>?_) B.bef;rw [<- N.2 x];refine ⟨B.sub x,fun hx=>?_⟩;rcases A78 (x ∈ l) with q | q
 ·exact q
 ·exfalso
  have:=J7 (G7.mpr ⟨q,B.nodup⟩) (fun y hy=>(B6.mp hy).elim (fun e=>e ▸ hx) (B.sub y));simp at this;omega
theorem qSK {l:List Int} (wf:WFn Ae) (N:qB5 Ae [work] works) (h:OrdT Ae work l):Begun Ae works l/\l.length=works.length:=by
 have m:∀ x,x ∈ l ↔ x ∈ works:=fun x=>(h.mem x).trans (N.2 x).symm;have pm:=(R7 h.nodup N.1.nodup).mpr m;refine ⟨⟨h.nodup,fun x hx=>(m x).mp hx,h.ahead wf fun x hx=>?_⟩,pm.length_eq⟩;have b:=N.1.in_ x ((m x).mp hx);have hw:x.toNat<Ae.length:=by omega
 have hz:=A1 hw;rw [qAF hz];exact hz
end
theorem qQQ {Ae:List (List Int)} {Ad:List Int} (wf:WFn Ae) (r:Rise (Ae.length:Int) Ad) {x:Int} (h:Nd Ae Ad x):0<=x/\x<(Ae.length:Int):=by
 induction h with
 | ask m=>exact r.in_ _ m
 | need _ e hy ih=>
  have h1:=(wf _ _ e).in_ _ hy;have h2:=(A4.mp e).1;omega
theorem qH7 {l:List Int} {j:Nat} {y:Int} (h:l[j]?=some y):(y::l.eraseIdx j).Perm l:=by
 obtain ⟨hj,e⟩:=A4.mp h;rw [List.eraseIdx_eq_take_drop_succ];have:l=l.take j++y::l.drop (j+1):=by
  rw [<- e,<- T9 hj,M3]
 exact (o8.symm).trans (by rw [<- this])
structure LeftO (works ord lf:List Int):Prop where
 nd:lf.Nodup
 mem:∀ x,x ∈ lf ↔ x ∈ works/\x ∉ ord
 len:lf.length+ord.length=works.length
end Fw
namespace L2
open PySem PySem.Spec PyProof.Rows
theorem qO8 {X:Cx} {K:PySem.W.Frag} (hK:X.K=K) (hu:X.A.units<cLine):OpR X (compareOp .Eq) (fun x y H Q=>∃ p l xs,x=.ref p/\y=.ref l/\SqT K H p xs/\SqT K H l []/\Q (.bl xs.isEmpty) H):=by subst hK;exact qQO hu
theorem qTS {a:Addr} {o:Obj} {Af:List (List Key × V)} {g:TG} {tb:TS} {D:Ends} {σ:St} {H:Hp} (Pv:Nat->St->Hp->Prop) (h0:Pv 0 σ H) (hl:∀ i σ H,i<=Af.length->Pv i σ H->H a=some (.frz o (.dT Af)))
  (hs:∀ i k v r σ H,Af[i]?=some (k,v)->H r=some (.tup (k.map kV))->Pv i σ H->g (.ref r) σ H fun σ2 H2=>tb { D with nx:=Pv (i+1),ct:=Pv (i+1),bk:=D.nx } σ2 H2) (hd:∀ σ H,Pv Af.length σ H->D.nx σ H) :
  ∃ W:Nat->Nat->St->Hp->Prop,(∃ m,W 0 m σ H)/\∀ i m σ H,W i m σ H->
   ((ItT a o Af).stop i H/\D.nx σ H)\/((ItT a o Af).go i H/\∃ N:St->Hp->Prop,(∀ σ' H',N σ' H'->∃ m',m'<m/\W (i+1) m' σ' H')/\∀ x H',(ItT a o Af).yld i H x H'->g x σ H' fun σ2 H2=>tb { D with nx:=N,ct:=N,bk:=D.nx } σ2 H2):=by
 refine ⟨fun i m σ H=>m=Af.length - i/\i<=Af.length/\Pv i σ H,⟨Af.length,by simp,D3 _,h0⟩,?_⟩
 rintro i m σ H ⟨rfl,hi,p⟩;have q:=hl i σ H hi p;by_cases hlt:i<Af.length
 ·refine .inr ⟨⟨hlt,q⟩,Pv (i+1),fun σ' H' p'=>⟨Af.length - (i+1),by omega,rfl,hlt,p'⟩,fun x H' y=>?_⟩
  obtain ⟨e,k,v,r,e2,e3,e4⟩:=y;subst e e3;exact hs i k v r σ _ e2 e4 p
 ·have e:i=Af.length:=by omega
  subst e;exact .inl ⟨⟨B0 _,q⟩,hd σ H p⟩
end L2
namespace Fw
open PySem L2
def mni (a b:Int):Int:=if b<a then b else a
def kT (s:List Int):List Key:=s.map J1
theorem qT5 (s:List Int):(kT s).map kV=s.map V.int:=by unfold kT;rw [P5];rfl
theorem qT6:∀ {s s':List Int},kT s=kT s'->s=s'
 | [],[],_=>rfl
 | [],_::_,h=>by cases h
 | _::_,[],h=>by cases h
 | a::s,b::s',h=>by
  unfold kT at h;rw [B9,B9] at h
  injection h with h1 h2
  injection h1 with h1
  rw [h1,qT6 h2]
def kvsD (ks:List (List Int)) (g:List Int->Int):List (List Key × V):=ks.map fun D=>(kT D,V.int (g D))
theorem qGF (g:List Int->Int) (D:List Int):∀ ks:List (List Int),valV (kvsD ks g) (kT D)=if D ∈ ks then some (.int (g D)) else none
 | []=>by rw [if_neg (by simp)];rfl
 | E::ks=>by
  show valV ((kT E,V.int (g E))::kvsD ks g) (kT D)=_;by_cases c:E=D
  ·subst c;rw [qBK rfl,if_pos A6]
  ·rw [qBL (fun z=>c (qT6 z)),qGF g D ks];by_cases m:D ∈ ks
   ·rw [if_pos m,if_pos (A5 _ m)]
   ·rw [if_neg m,if_neg fun z=>(B6.mp z).elim (fun e=>c e.symm) m]
theorem qVO {ks:List (List Int)} {g:List Int->Int} {D:List Int} {v:Int}:putK (kvsD ks g) (kT D) (.int v)=kvsD (if D ∈ ks then ks else ks++[D]) (fun E=>if E=D then v else g E):=by
 have an:((kvsD ks g).any fun kv=>decide (kv.1=kT D))=decide (D ∈ ks):=by
  rw [qE5,qGF];by_cases m:D ∈ ks
  ·rw [if_pos m,decide_eq_true m];rfl
  ·rw [if_neg m,decide_eq_false m];rfl
 unfold putK;rw [an];by_cases m:D ∈ ks
 ·rw [if_pos (decide_eq_true m),if_pos m];unfold kvsD;rw [P5];refine K0 fun E _=>?_;show (if kT E=kT D then (kT E,V.int v) else (kT E,V.int (g E)))=(kT E,V.int (if E=D then v else g E))
  by_cases c:E=D
  ·rw [if_pos (by rw [c]),if_pos c]
  ·rw [if_neg (fun z=>c (qT6 z)),if_neg c]
 ·rw [if_neg (by rw [decide_eq_false m];exact B8),if_neg m]
  unfold kvsD;rw [A9,List.map_singleton];dsimp only;rw [if_pos rfl];congr 1;refine K0 fun E hE=>?_;have ne:¬ E=D:=fun c=>m (c ▸ hE);show _=(kT E,V.int (if E=D then v else g E))
  rw [if_neg ne]
theorem qPQ (ks:List (List Int)) (g:List Int->Int):(kvsD ks g).length=ks.length:=A0 _
theorem qVP {ks:List (List Int)} {g:List Int->Int} {i:Nat} {k:List Key} {v:V} (h:(kvsD ks g)[i]?=some (k,v)):∃ D,ks[i]?=some D/\k=kT D/\v=.int (g D):=by
 unfold kvsD at h;rw [B1] at h;obtain ⟨D,e,r⟩:=p7.mp h
 injection r with r1 r2
 exact ⟨D,e,r1.symm,r2.symm⟩
section
variable {Ae:List (List Int)} {ws zs:List Int} {work:Int}
def qGX (Ae:List (List Int)) (zs D:List Int) (x:Int):Bool:=(zs.filter fun o=>decide (x ∈ nd Ae o)).all fun o=>decide (o ∈ D)
def qR2 (Ae:List (List Int)) (ws zs D:List Int):Int:=sumW ws (D.filter fun x=>!qGX Ae zs D x)
theorem qUS {D:List Int} {x:Int}:qGX Ae zs D x=true ↔ ∀ o ∈ zs,x ∈ nd Ae o->o ∈ D:=by
 unfold qGX;rw [G8]
 constructor
 ·exact fun h o ho hx=>of_decide_eq_true (h o (G6.mpr ⟨ho,decide_eq_true hx⟩))
 ·intro h o ho;obtain ⟨h1,h2⟩:=G6.mp ho;exact decide_eq_true (h o h1 (of_decide_eq_true h2))
theorem qPU:∀ l:List Int,gns (stps Ae ws l)=sumW ws l - sumW ws (l.flatMap (nd Ae))
 | []=>rfl
 | x::l=>by
  show (wdO ws x - sumW ws (nd Ae x))+gns (stps Ae ws l)=_;rw [qPU l,qAR,A31,qHU];omega
theorem qTT (T:TIn Ae zs work):∀ l:List Int,l.Nodup->(∀ x ∈ l,x ∈ zs)->(l.flatMap (nd Ae)).Nodup
 | [],_,_=>.nil
 | x::l,n,h=>by
  obtain ⟨n1,n2⟩:=G7.mp n;rw [A31];refine G5.mpr ⟨T.nodup (h x A6),qTT T l n2 fun y hy=>h y (A5 _ hy),fun a ha b hb e=>?_⟩;subst e;obtain ⟨u,hu,hb⟩:=A46.mp hb;exact n1 (T.user (h x A6) (h u (A5 _ hu)) ha hb ▸ hu)
theorem qXC (T:TIn Ae zs work) {y:Int} (hy:y ∈ zs) (ne:y ≠ work):∃ u ∈ zs,y ∈ nd Ae u:=by
 have h:=(T.N.2 y).mp hy;cases h with
 | ask m=>exact absurd (A3.mp m) ne
 | @need w y ys hw e hm=>exact ⟨w,(T.N.2 w).mpr hw,by rw [qAF e];exact hm⟩
theorem Begun.has {l:List Int} (B:Begun Ae zs l) {x y:Int} (hx:x ∈ l) (hy:y ∈ nd Ae x):y ∈ l:=by
 obtain ⟨p,hp⟩:=G2 hx;exact M7 (B.bef p x hp y hy)
theorem Begun.full (T:TIn Ae zs work) {l:List Int} (B:Begun Ae zs l) (h:work ∈ l):∀ y ∈ zs,y ∈ l:=fun y hy=>by
 have k:=(T.N.2 y).mp hy
 induction k with
 | ask m=>rw [A3.mp m];exact h
 | @need w y ys hw e hm ih=>exact B.has (ih ((T.N.2 w).mpr hw)) (by rw [qAF e];exact hm)
theorem qTG (T:TIn Ae zs work) {l D:List Int} (B:Begun Ae zs l) (p:l.Perm D) (nw:work ∉ l):qR2 Ae ws zs D=gns (stps Ae ws l):=by
 have e1:sumW ws D=sumW ws (D.filter fun x=>!qGX Ae zs D x)+sumW ws (D.filter fun x=>qGX Ae zs D x):=by
  have h:∀ (q:Int->Bool) (L:List Int),sumW ws L=sumW ws (L.filter fun x=>!q x)+sumW ws (L.filter q):=by
   intro q L
   induction L with
   | nil=>rfl
   | cons x L ih=>
    rw [qAR,ih,M5,M5];cases q x with
    | true=>
     rw [if_neg (show ¬ ((!true)=true) by decide),if_pos rfl,qAR]
     omega
    | false=>
     rw [if_pos (show ((!false)=true) by decide),if_neg B8,qAR]
     omega
  exact h _ D
 have pm:(D.filter fun x=>qGX Ae zs D x).Perm (l.flatMap (nd Ae)):=by
  refine (R7 ((p.nodup_iff.mp B.nodup).filter _) (qTT T l B.nodup B.sub)).mpr fun y=>?_;rw [G6,qUS,A46]
  constructor
  ·rintro ⟨h1,h2⟩;have yl:=p.mem_iff.mpr h1;obtain ⟨u,hu,hy⟩:=qXC T (B.sub y yl) fun e=>nw (e ▸ yl);exact ⟨u,p.mem_iff.mpr (h2 u hu hy),hy⟩
  ·rintro ⟨x,hx,hy⟩;refine ⟨p.mem_iff.mp (B.has hx hy),fun o ho hyo=>?_⟩;rw [T.user ho (B.sub x hx) hyo hy];exact p.mem_iff.mp hx
 have e2:=qDC (ws:=ws) pm;have e3:=qDC (ws:=ws) p;unfold qR2;rw [qPU];omega
theorem Begun.front {l:List Int} {x:Int} (B:Begun Ae zs (l++[x])):Begun Ae zs l/\x ∈ zs/\x ∉ l/\∀ y ∈ nd Ae x,y ∈ l:=by
 obtain ⟨n1,n2,n3⟩:=G5.mp B.nodup;refine ⟨⟨n1,fun y hy=>B.sub y (Q2 _ hy),fun p o h y hy=>?_⟩,B.sub x (by simp),fun m=>n3 x m x (by simp) rfl,fun y hy=>?_⟩
 ·have hp:=(A4.mp h).1;have:=B.bef p o (by rw [D8 hp];exact h) y hy
  rwa [O5 (by omega)] at this
 ·have:=B.bef l.length x (by rw [G1 (B0 _),A32];rfl) y hy
  rwa [A61] at this
theorem Begun.more {l:List Int} {x:Int} (B:Begun Ae zs l) (hx:x ∈ zs) (nx:x ∉ l) (hn:∀ y ∈ nd Ae x,y ∈ l):Begun Ae zs (l++[x]):=by
 refine ⟨G5.mpr ⟨B.nodup,by simp,fun a ha b hb e=>nx (by rw [A3.mp hb] at e;exact e ▸ ha)⟩,fun y hy=>?_,fun p o h y hy=>?_⟩
 ·rcases D6.mp hy with h | h
  ·exact B.sub y h
  ·rw [A3.mp h];exact hx
 ·by_cases c:p<l.length
  ·rw [D8 c] at h;rw [O5 (by omega)]
   exact B.bef p o h y hy
  ·have hp:=(A4.mp h).1;rw [A7,C3] at hp;rw [G1 (by omega),show p - l.length=0 by omega] at h
   cases h;rw [show p=l.length by omega,A61]
   exact hn y hy
theorem Belo.mono {m n:Int} {l:List Stp} {d:Int} (h:Belo m d l) (k:m<=n):Belo n d l:=by
 have:=h.up (e:=0) (n:=n) (by omega)
 rwa [t9] at this
theorem belo_snoc {m:Int} {l:List Int} {x:Int}:Belo m 0 (stps Ae ws (l++[x])) ↔ Belo m 0 (stps Ae ws l)/\gns (stps Ae ws l)+wdO ws x<=m:=by
 rw [qG3,Belo.app,j7]
 constructor
 ·exact fun h=>⟨h.1,h.2.1⟩
 ·exact fun h=>⟨h.1,h.2,trivial⟩
structure Dp1 (Ae:List (List Int)) (ws zs:List Int) (t:Nat) (v:Int) (D:List Int):Prop where
 up:D.Pairwise (·<·)
 pos:0<=v
 ord:∃ l,Begun Ae zs l/\l.length=t/\l.Perm D/\Belo v 0 (stps Ae ws l)
structure Dp (Ae:List (List Int)) (ws zs:List Int) (t:Nat) (ks:List (List Int)) (g:List Int->Int):Prop where
 nd:ks.Nodup
 snd:∀ D ∈ ks,Dp1 Ae ws zs t (g D) D
 full:∀ l n,Begun Ae zs l->l.length=t->0<=n->Belo n 0 (stps Ae ws l)->∃ D ∈ ks,l.Perm D/\g D<=n
def canD (Ae:List (List Int)) (D:List Int) (x:Int):Bool:=decide (x ∉ D) && (nd Ae x).all fun y=>decide (y ∈ D)
def qG7 (Ae:List (List Int)) (ws zs:List Int) (g:List Int->Int) (D:List Int) (x:Int):Int:=mxi (g D) (qR2 Ae ws zs D+wdO ws x)
structure Dq (Ae:List (List Int)) (ws zs:List Int) (t:Nat) (ks:List (List Int)) (g:List Int->Int) (fk:List (List Int)) (fg:List Int->Int) (i j:Nat):Prop where
 nd:fk.Nodup
 snd:∀ D ∈ fk,Dp1 Ae ws zs (t+1) (fg D) D
 full:∀ (a b:Nat) (D:List Int) (x:Int),ks[a]?=some D->zs[b]?=some x->(a<i\/a=i/\b<j)->canD Ae D x=true->∃ E ∈ fk,E.Perm (D++[x])/\fg E<=qG7 Ae ws zs g D x
theorem Dp.start:Dp Ae ws zs 0 [[]] fun _=>0:=by
 refine ⟨by simp,fun D hD=>?_,fun l n B e h0 _=>⟨[],by simp,by rw [U7.mp e],h0⟩⟩
 rw [A3.mp hD];exact ⟨.nil,E6 _,[],⟨.nil,fun _ h=>(nomatch h),fun p o h=>by simp at h⟩,rfl,.refl _,trivial⟩
variable {t:Nat} {ks fk:List (List Int)} {g fg:List Int->Int} {i j:Nat}
theorem Dq.start:Dq Ae ws zs t ks g [] (fun _=>0) 0 0:=⟨.nil,fun _ h=>(nomatch h),fun a b D x _ _ h=>by omega⟩
theorem Dq.next (h:Dq Ae ws zs t ks g fk fg i zs.length):Dq Ae ws zs t ks g fk fg (i+1) 0:=⟨h.nd,h.snd,fun a b D x ha hb hab=>h.full a b D x ha hb (by have:=(A4.mp hb).1;omega)⟩
theorem Dq.skip (h:Dq Ae ws zs t ks g fk fg i j) {D:List Int} {x:Int} (hD:ks[i]?=some D) (hx:zs[j]?=some x) (c:canD Ae D x=false):Dq Ae ws zs t ks g fk fg i (j+1):=⟨h.nd,h.snd,fun a b D' x' ha hb hab cc=>by
 by_cases e:a=i/\b=j
 ·obtain ⟨rfl,rfl⟩:=e;rw [hD] at ha;rw [hx] at hb;cases ha;cases hb;rw [c] at cc;cases cc
 ·exact h.full a b D' x' ha hb (by omega) cc⟩
theorem can_iff {D:List Int} {x:Int}:canD Ae D x=true ↔ x ∉ D/\∀ y ∈ nd Ae x,y ∈ D:=by
 unfold canD;rw [O4,decide_eq_true_eq,G8];exact ⟨fun h=>⟨h.1,fun y hy=>of_decide_eq_true (h.2 y hy)⟩,fun h=>⟨h.1,fun y hy=>decide_eq_true (h.2 y hy)⟩⟩
theorem Dq.put (T:TIn Ae zs work) (P:Dp Ae ws zs t ks g) (h:Dq Ae ws zs t ks g fk fg i j) {D E:List Int} {x:Int} (hD:ks[i]?=some D) (hx:zs[j]?=some x) (c:canD Ae D x=true) (uE:E.Pairwise (·<·)) (pE:E.Perm (D++[x])) {v:Int} (hv:v=mni (if E ∈ fk then fg E else qG7 Ae ws zs g D x) (qG7 Ae ws zs g D x)) :
  Dq Ae ws zs t ks g (if E ∈ fk then fk else fk++[E]) (fun X=>if X=E then v else fg X) i (j+1):=by
 have mD:=B4 hD;have mx:=B4 hx;obtain ⟨c1,c2⟩:=can_iff.mp c;have d1:=P.snd D mD;have vle:v<=qG7 Ae ws zs g D x:=by rw [hv];unfold mni;split <;> omega
 have mem:∀ {X},X ∈ (if E ∈ fk then fk else fk++[E]) ↔ X ∈ fk\/X=E:=fun {X}=>by
  by_cases m:E ∈ fk
  ·rw [if_pos m];exact ⟨.inl,fun h=>h.elim id fun e=>e ▸ m⟩
  ·rw [if_neg m,D6,A3]
 have new:Dp1 Ae ws zs (t+1) (qG7 Ae ws zs g D x) E:=by
  obtain ⟨l,B,el,pl,bl⟩:=d1.ord;have nx:x ∉ l:=fun m=>c1 (pl.mem_iff.mp m);have nw:work ∉ l:=fun m=>nx (B.full T m x mx);have hh:=qTG (ws:=ws) T B pl nw;have r1:g D<=qG7 Ae ws zs g D x:=by unfold qG7 mxi;split <;> omega
  have r2:qR2 Ae ws zs D+wdO ws x<=qG7 Ae ws zs g D x:=by unfold qG7 mxi;split <;> omega
  refine ⟨uE,by have:=d1.pos;omega,l++[x],B.more mx nx fun y hy=>pl.mem_iff.mpr (c2 y hy),by rw [A7,el];rfl,(pl.append_right [x]).trans pE.symm,belo_snoc.mpr ⟨bl.mono r1,by omega⟩⟩
 refine ⟨?_,fun X hX=>?_,fun a b D' x' ha hb hab cc=>?_⟩
 ·by_cases m:E ∈ fk
  ·rw [if_pos m];exact h.nd
  ·rw [if_neg m];exact G5.mpr ⟨h.nd,by simp,fun a ha b hb e=>m (by rw [A3.mp hb] at e;exact e ▸ ha)⟩
 ·by_cases e:X=E
  ·subst e;rw [if_pos rfl];by_cases m:X ∈ fk
   ·rw [if_pos m] at hv;have old:=h.snd X m;by_cases le:fg X<=qG7 Ae ws zs g D x
    ·rw [show v=fg X by rw [hv];unfold mni;split <;> omega];exact old
    ·rw [show v=qG7 Ae ws zs g D x by rw [hv];unfold mni;split <;> omega];exact new
   ·rw [if_neg m] at hv;rw [show v=qG7 Ae ws zs g D x by rw [hv];unfold mni;split <;> omega]
    exact new
  ·rw [if_neg e];exact h.snd X ((mem.mp hX).resolve_right e)
 ·by_cases e:a=i/\b=j
  ·obtain ⟨rfl,rfl⟩:=e;rw [hD] at ha;rw [hx] at hb;cases ha;cases hb;exact ⟨E,mem.mpr (.inr rfl),pE,by rw [if_pos rfl];exact vle⟩
  ·obtain ⟨X,hX,pX,le⟩:=h.full a b D' x' ha hb (by omega) cc
   refine ⟨X,mem.mpr (.inl hX),pX,?_⟩;by_cases e2:X=E
   ·subst e2;rw [if_pos rfl];rw [if_pos hX] at hv;have:v<=fg X:=by rw [hv];unfold mni;split <;> omega
    omega
   ·rw [if_neg e2];exact le
theorem Dq.done (T:TIn Ae zs work) (P:Dp Ae ws zs t ks g) (h:Dq Ae ws zs t ks g fk fg ks.length 0):Dp Ae ws zs (t+1) fk fg:=by
 refine ⟨h.nd,h.snd,fun l n B el n0 b=>?_⟩;rcases u8 l with e | ⟨l',x,e⟩
 ·rw [e] at el;cases el
 ·rw [List.concat_eq_append] at e;subst e;rw [A7,C3] at el;obtain ⟨B',hx,nx,hn⟩:=B.front;obtain ⟨b1,b2⟩:=belo_snoc.mp b;obtain ⟨D,mD,pD,gD⟩:=P.full l' n B' (by omega) n0 b1
  obtain ⟨a,ha⟩:=G2 mD;obtain ⟨q,hq⟩:=G2 hx;have nw:work ∉ l':=fun m=>nx (B'.full T m x hx);have hh:=qTG (ws:=ws) T B' pD nw;obtain ⟨E,mE,pE,gE⟩:=h.full a q D x ha hq (.inl (A4.mp ha).1) (can_iff.mpr ⟨fun m=>nx (pD.mem_iff.mpr m),fun y hy=>pD.mem_iff.mp (hn y hy)⟩);refine ⟨E,mE,(pD.append_right [x]).trans pE.symm,?_⟩;have:qG7 Ae ws zs g D x<=n:=by unfold qG7 mxi;split <;> omega
  omega
def FewW (Ae:List (List Int)) (ws:List Int) (work m:Int):Prop:=(∃ l,OrdT Ae work l/\Belo m 0 (stps Ae ws l))/\∀ l n,OrdT Ae work l->0<=n->Belo n 0 (stps Ae ws l)->m<=n
theorem Dp.last (T:TIn Ae zs work) (h:Dp Ae ws zs zs.length ks g) (w1:Wd1 Ae ws):zs ∈ ks/\FewW Ae ws work (g zs):=by
 have at_:∀ D ∈ ks,D=zs:=fun D hD=>by
  have d:=h.snd D hD;obtain ⟨l,B,el,pl,_⟩:=d.ord;have O:=qNK T.N B el;exact qUT d.up T.N.1.up fun x=>by rw [<- pl.mem_iff,O.mem,T.N.2]
 have ex:∃ D,D ∈ ks:=by
  have B:Begun Ae zs zs:=⟨T.N.1.nodup,fun _ h=>h,fun p o ho x hx=>by
   have:=qD9 T.wf T.N ho hx;exact this.1⟩
  -- some bound
  have:∃ n,0<=n/\Belo n 0 (stps Ae ws zs):=by
   have:∀ (s:List Stp) (d:Int),∃ n,0<=n/\Belo n d s:=by
    intro s
    induction s with
    | nil=>exact fun d=>⟨0,E6 _,trivial⟩
    | cons a s ih=>
     intro d;obtain ⟨n,n0,b⟩:=ih (d+a.2);by_cases c:d+a.1<=n
     ·exact ⟨n,n0,c,b⟩
     ·exact ⟨d+a.1,by omega,E6 _,b.mono (by omega)⟩
   exact this _ 0
  obtain ⟨n,n0,b⟩:=this;obtain ⟨D,mD,_⟩:=h.full zs n B rfl n0 b;exact ⟨D,mD⟩
 obtain ⟨D,mD⟩:=ex;have e:=at_ D mD;subst e;refine ⟨mD,?_,fun l n O n0 b=>?_⟩
 ·obtain ⟨l,B,el,pl,bl⟩:=(h.snd _ mD).ord;exact ⟨l,qNK T.N B el,bl⟩
 ·obtain ⟨B,el⟩:=qSK T.wf T.N O;obtain ⟨E,mE,_,le⟩:=h.full l n B el n0 b;rw [at_ E mE] at le;exact le
theorem qW5 {m M:Int} {L:List Int} (T:TIn Ae zs work) (w1:Wd1 Ae ws) (F:FewW Ae ws work m) (B:Best Ae ws work L) (e:topD none (qC4 Ae ws L)=some M):M=m:=by
 obtain ⟨⟨l,O,b⟩,low⟩:=F;have t:=qNW e;rw [B.1.run T] at t;have M0:0<=M:=by
  obtain ⟨x,r,el⟩:∃ x r,L=x::r:=by cases L with | nil=>exact absurd rfl B.1.ne | cons x r=>exact ⟨x,r,rfl⟩
  have hx:=T.N.1.in_ x ((T.N.2 x).mpr ((B.1.mem x).mp (by rw [el];exact A6)))
  have:=w1 x hx.1 hx.2;have:=t.2 (0+wdO ws x) (by rw [el];exact A6)
  omega
 have h1:=low L M B.1 M0 ((qGT L 0).mpr t.2);have h2:=(B.2 l O).low b;have h3:=(qGT L (0+0)).mp h2 M t.1;omega
def subs:List Int->List (List Int)
 | []=>[[]]
 | x::l=>subs l++(subs l).map (x::·)
theorem qP0:∀ l:List Int,(subs l).length=2 ^ l.length
 | []=>rfl
 | x::l=>by
  show (subs l++(subs l).map (x::·)).length=2 ^ (l.length+1);rw [A7,A0,qP0 l,Nat.pow_succ];omega
theorem qI1:∀ (zs D:List Int),zs.Pairwise (·<·)->D.Pairwise (·<·)->(∀ x ∈ D,x ∈ zs)->D ∈ subs zs
 | [],D,_,_,h=>by
  cases D with
  | nil=>exact A3.mpr rfl
  | cons d D=>exact nomatch h d A6
 | z::zs,D,u,v,h=>by
  obtain ⟨u1,u2⟩:=L6.mp u;refine D6.mpr ?_;cases D with
  | nil=>exact .inl (qI1 zs [] u2 .nil fun x hx=>nomatch hx)
  | cons d D=>
   obtain ⟨v1,v2⟩:=L6.mp v;by_cases c:d=z
   ·subst c;refine .inr (E2.mpr ⟨D,qI1 zs D u2 v2 fun x hx=>?_,rfl⟩);rcases B6.mp (h x (A5 _ hx)) with e | e
    ·have:=v1 x hx;omega
    ·exact e
   ·have hd:=(B6.mp (h d A6)).resolve_left c;have lt:=u1 d hd;refine .inl (qI1 zs (d::D) u2 v fun x hx=>?_);rcases B6.mp (h x hx) with e | e
    ·rcases B6.mp hx with f | f
     ·omega
     ·have:=v1 x f;omega
    ·exact e
theorem Dp1.in_ {v:Int} {D:List Int} (h:Dp1 Ae ws zs t v D):∀ x ∈ D,x ∈ zs:=fun x hx=>by
 obtain ⟨l,B,_,pl,_⟩:=h.ord;exact B.sub x (pl.mem_iff.mpr hx)
theorem qW4 {L:List (List Int)} {g:List Int->Int} (T:TIn Ae zs work) (l13:Ae.length<=13) (nd:L.Nodup) (rs:∀ D ∈ L,Dp1 Ae ws zs t (g D) D):L.length<=8192:=by
 have h1:=J7 nd (l₂:=subs zs) fun D hD=>qI1 zs D T.N.1.up (rs D hD).up (rs D hD).in_;rw [qP0] at h1;have h2:=T.N.1.len;have h3:2 ^ zs.length<=2 ^ 13:=Nat.pow_le_pow_right (by decide) (by omega)
 omega
theorem qP9:∀ (l:List Int) (k:Int),(∀ x ∈ l,nd Ae x=[]/\0<=wdO ws x)->endK Ae ws k l=k+sumW ws l/\∀ v ∈ runK Ae ws k l,v<=k+sumW ws l
 | [],k,_=>⟨by show k=k+0;omega,fun v h=>nomatch h⟩
 | x::l,k,h=>by
  have hx:=h x A6;have e:k+wdO ws x - sumW ws (nd Ae x)=k+wdO ws x:=by rw [hx.1];show _ - 0=_;omega
  obtain ⟨h1,h2⟩:=qP9 l (k+wdO ws x) fun y hy=>h y (A5 _ hy);have ge:0<=sumW ws l:=by
   have:∀ l:List Int,(∀ x ∈ l,0<=wdO ws x)->0<=sumW ws l:=by
    intro l
    induction l with
    | nil=>exact fun _=>E6 _
    | cons y l ih=>intro h;rw [qAR];have:=h y A6;have:=ih fun z hz=>h z (A5 _ hz);omega
   exact this l fun y hy=>(h y (A5 _ hy)).2
  rw [qAR];refine ⟨?_,fun v hv=>?_⟩
  ·show endK Ae ws (k+wdO ws x - sumW ws (nd Ae x)) l=_;rw [e,h1];omega
  ·have hv:v ∈ (k+wdO ws x)::runK Ae ws (k+wdO ws x - sumW ws (nd Ae x)) l:=hv;rw [e] at hv;rcases B6.mp hv with z | z
   ·omega
   ·have:=h2 v z;omega
theorem qPX (T:TIn Ae zs work) (w1:Wd1 Ae ws) (fl:∀ y ∈ nd Ae work,nd Ae y=[]) {l:List Int} (O:OrdT Ae work l):topD none (qC4 Ae ws l)=some (sumW ws (nd Ae work)+wdO ws work):=by
 have hw:work ∈ zs:=(T.N.2 work).mpr (.ask (A3.mpr rfl));obtain ⟨l',rfl,nl,ml,_⟩:=O.last T hw;have in_:∀ x ∈ l',x ∈ nd Ae work:=fun x hx=>by
  obtain ⟨y,hy,hn⟩:=(ml x).mp hx;rcases qL4 hn with e | ⟨u,hu,_⟩
  ·rw [e];exact hy
  ·rw [fl y hy] at hu;cases hu
 have pm:l'.Perm (nd Ae work):=(R7 nl (T.nodup hw)).mpr fun x=>⟨in_ x,fun hx=>(ml x).mpr ⟨x,hx,.ask (A3.mpr rfl)⟩⟩;have wp:∀ x ∈ zs,1<=wdO ws x:=fun x hx=>w1 x (T.N.1.in_ x hx).1 (T.N.1.in_ x hx).2;obtain ⟨e1,e2⟩:=qP9 (Ae:=Ae) (ws:=ws) l' 0 fun x hx=>⟨fl x (in_ x hx),by have:=wp x (T.has hw (in_ x hx)).1;omega⟩
 rw [O.run T,qI0,e1,qDC pm,j7];rw [qDC pm] at e2;refine IsTop.top ⟨F1 _ (show _ ∈ [sumW ws (nd Ae work)+wdO ws work] by simp),fun v hv=>?_⟩
 rcases D6.mp hv with h | h
 ·have:=e2 v h;have:=wp work hw;omega
 ·have h:v ∈ [sumW ws (nd Ae work)+wdO ws work]:=h;rw [A3.mp h];exact E6 _
end
theorem qMH {Ae:List (List Int)} {work x:Int} (wf:WFn Ae) (w0:0<=work) (w1:work<(Ae.length:Int)) (h:Nd Ae [work] x):0<=x/\x<(Ae.length:Int):=qQQ wf ⟨by simp,fun y hy=>by rw [A3.mp hy];exact ⟨w0,w1⟩⟩ h
def qWL:Sp:=fun vs H Q _=>∃ (a lz r:Addr) (Ae:List (List Int)) (zs D:List Int) (x:Int),vs=[.ref a,.ref lz,.int x,.ref r]/\NetAt H a Ae/\WFn Ae/\Ae.length<=60/\H lz=some (.lst (zs.map V.int))/\(∀ z ∈ zs,0<=z/\z<(Ae.length:Int))/\zs.length<=60/\H r=some (.tup (D.map V.int))/\∀ H',Same H H'->Q (.bl (qGX Ae zs D x)) H'
def qWM:Sp:=fun vs H Q _=>∃ (a t:Addr) (Ae:List (List Int)) (ws:List Int) (work:Int),vs=[.ref a,.ref t,.int work]/\qRA H a t Ae ws work/\Ae.length<=13/\∀ m H',Same H H'->FewW Ae ws work m->Q (.int m) H'
def qJX:Sp:=fun vs H Q _=>∃ (a lo:Addr) (Ae:List (List Int)) (L:List Int) (work:Int),vs=[.ref a,.int work,.ref lo]/\NetAt H a Ae/\WFn Ae/\Ae.length<=60/\0<=work/\work<(Ae.length:Int)/\H lo=some (.lst (L.map V.int))/\OrdT Ae work L/\∀ H',Same H H'->Q (.bl true) H'
section
variable {P:Program} {w:World} {K:PySem.W.Frag} {mg:Str->Option Value} {base:Heap} {f:Addr} {fd:FuncData}
theorem sc_Lbegin:FnScope ["_law_script","_law_cells"] ["_law_script"] (qAD qHZ):=⟨rfl,rfl,rfl,by decide +kernel,rfl,by decide +kernel,by decide +kernel⟩
theorem ok_Lbegin (F:Fun K "_law_begin" "_law_begin" qHZ f fd) (qCE:mg "list" = none):FnOk P w K mg base CX0 1 f fd ["_law_script"] (qRU K):=by
 refine F.ok sc_Lbegin (fun vs H Q E h=>?_) (fun cdv A outer s H vs Q E hr h=>?_)
 ·obtain ⟨a,ns,rfl,_⟩:=h
  rfl
 obtain ⟨a,ns,rfl,hS,h63,q⟩:=h;have hu:=qJP hr;have hu0:=hr.units0;refine ⟨_,(qA4 (qAE (i:=1) sc_Lbegin.nd rfl (D0 rfl) (qAK qHK rfl qCE qH9 (qA0 (qG8 qIK (pv 0) qIR (qIQ qA7)) qA3))) (qA4 (qCF (qAU (qSM hu0) (pv 1) (qBH qA3) (qB1 _)) (qA6 (qAE (i:=1) sc_Lbegin.nd rfl (D0 rfl) (qBH (qA0 qA7 qA3)))) qAV) (qA6 (qAS (qXU (qPE qIS (pv 1) (qPE qIS qA7 qXR)) rfl rfl (by simp) (by decide)))))),?_⟩
 try dsimp only [Cx.nox,Cx.wish,cxOf]
 refine ⟨_,rfl,_,rfl,a,_,rfl,hS,fun p hp=>?_⟩;rw [qGR];have hl:(cutI ns none (some 63)).length<=63:=G9 (qW7 _ _ _) h63;refine ⟨p,_,rfl,.inl (SqL.of qA1),fun c hc=>?_⟩;have s1:Same H (upd (upd H p (.lst ((cutI ns none (some 63)).map V.int))) c (.lst ((cutI ns none (some 63)).map V.int))):=(qA2 hp _).trans (qA2 hc _);refine ⟨_,rfl,(by show 0<=sizeLine;decide),fun e he=>?_⟩
 have hce:c ≠ e:=qA5 qA1 he;refine ⟨c,e,_,rfl,rfl,SqL.of (by rw [qA8 hce];exact qA1),SqL.of qA1,_,rfl,?_⟩
 have s2:=s1.trans (qA2 he (.lst []));cases hm:cutI ns none (some 63) with
 | nil=>
  rw [hm] at s2 he;refine iteT ?_;refine ⟨(by show 1<=sizeLine;decide),fun c2 hc2=>?_⟩
  have s3:=s2.trans (qA2 hc2 (.lst [.int 7]));intro d hd;refine ⟨_,rfl,?_⟩;have s4:=s3.trans (qA2 hd (.dK []));refine ⟨qA1,[(M6 (E4 "cells"),.ref c2),(M6 (E4 "turn"),.int 0)],rfl,(by show 2<=15;decide),?_⟩
  have ncd:c2 ≠ d:=qA5 qA1 hd;refine q d c2 [7] _ ⟨?_,?_,by decide,by decide,by decide⟩ ?_ ?_ ?_
  ·rw [qA1,qWW]
  ·rw [qA8 ncd,qA8 ncd];exact qA1
  ·rw [qKM];exact s3.trans (qA2 hd _)
  ·exact s3.free hd
  ·exact s2.free hc2
 | cons x r=>
  rw [hm] at s2 he hl;refine iteF ?_;intro d hd;refine ⟨_,rfl,?_⟩;refine ⟨qA1,[(M6 (E4 "cells"),.ref c),(M6 (E4 "turn"),.int 0)],rfl,(by show 2<=15;decide),?_⟩
  have gc:(upd (upd (upd H p (.lst ((x::r).map V.int))) c (.lst ((x::r).map V.int))) e (.lst [])) c=some (.lst ((x::r).map V.int)):=by rw [qA8 hce];exact qA1
  have ncd:c ≠ d:=qA5 gc hd;refine q d c (x::r) _ ⟨?_,?_,by simp,hl,by decide⟩ ?_ ?_ ?_
  ·rw [qA1,qWW]
  ·rw [qA8 ncd,qA8 ncd];exact gc
  ·rw [qKM];exact s2.trans (qA2 hd _)
  ·exact s2.free hd
  ·rw [hm] at hc;exact (qA2 hp _).free hc
theorem sc_Ltake:FnScope ["_law_state","_law_many","_law_turn","_law_place","_law_cell","_law_digit","_law_mixed"] ["_law_state","_law_many"] (qAD qKW):=⟨rfl,rfl,rfl,by decide +kernel,rfl,by decide +kernel,by decide +kernel⟩
theorem ok_Ltake (F:Fun K "_law_take" "_law_take" qKW f fd) (qBO:mg "len" = none) (qFF:mg "divmod" = none):FnOk P w K mg base CX0 1 f fd ["_law_state","_law_many"] qIH:=by
 refine F.ok sc_Ltake (fun vs H Q E h=>?_) (fun cdv A outer s H vs Q E hr h=>?_)
 ·obtain ⟨d,c,t,ns,m,rfl,_⟩:=h
  rfl
 obtain ⟨d,c,t,ns,m,rfl,S,ht,hm1,hm2,q⟩:=h;have hu:=qJP hr;refine ⟨_,(qA4 (qAE (i:=2) sc_Ltake.nd rfl (D0 rfl) (qAP qCA (qD1 hu (pv 0) qIS (fun _ _=>rfl)) qA7)) (qA4 (qE9 hu (pv 0) qIS (pv 2) rfl) (qA4 (qAE (i:=3) sc_Ltake.nd rfl (D0 rfl) (qAP qIU (pv 2) (qA9 qAL rfl qBO qDL (qA0 (qD1 hu (pv 0) qIS (fun _ _=>rfl)) qA3)))) (qA4 (qAE (i:=4) sc_Ltake.nd rfl (D0 rfl) (qB0 qEF (qD1 hu (pv 0) qIS (fun _ _=>rfl)) (pv 3) (fun _ _=>rfl))) (qA4 (qCF (qAU qXW (pv 4) (qAP qZR qA7 qA7) (qB1 _)) (qA4 (qM5 (qA9 qON rfl qFF qUB (qA0 (pv 4) (qA0 (pv 1) qA3))) (qM8 rfl (qC6 (qSF (qD1 hu (pv 0) qIS (fun _ _=>rfl)) (pv 3) qHV) (qC6 (qAA (i:=5) sc_Ltake.nd rfl (D0 rfl)) qH0)))) (qA6 (qAS (pv 5)))) qAV) (qA4 (qAE (i:=6) sc_Ltake.nd rfl (D0 rfl) (qAP qIU (qAP qK1 (qAP qCA (qAP qCA (qAP qIU (pv 4) qA7) (qAP qK1 (qAP qK1 (pv 2) (pv 2)) qA7)) qA7) qA7) qA7)) (qA4 (qAE (i:=6) sc_Ltake.nd rfl (D0 rfl) (qAP qIU (qAP qK1 (pv 6) (pv 6)) qA7)) (qA6 (qAS (qAP qIU (qAP qO7 (qAP qIU (qAP qK1 (qAP qCA (pv 6) (qAP qK1 (pv 2) qA7)) qA7) qA7) qA7) (pv 1))))))))))),?_⟩
 try dsimp only [Cx.nox,Cx.wish,cxOf]
 have hpos:=S.pos;have hne:=S.ne;have ht':t<=1000000000:=ht;refine ⟨_,rfl,d,_,rfl,qYL S,_,_,rfl,rfl,?_⟩;refine ⟨_,rfl,_,rfl,d,_,rfl,qYI S,?_⟩;have S1:=S.turn (u:=t+1) (by omega)
 have k1:Keep d c H (upd H d (.dK [(M6 (E4 "cells"),.ref c),(M6 (E4 "turn"),.int (t+1))])):=fun b o e n _=>by rw [qA8 n];exact e
 generalize upd H d (.dK [(M6 (E4 "cells"),.ref c),(M6 (E4 "turn"),.int (t+1))])=H1 at S1 k1;have hlen:(((ns.map V.int).length:Nat):Int)=(ns.length:Int):=by rw [A0]
 refine ⟨_,rfl,_,rfl,d,_,rfl,qLF S1,c,_,rfl,.inl (SqL.of S1.list),_,_,rfl,rfl,(by rw [hlen];omega),?_⟩
 have p0:0<=(t+1) % (((ns.map V.int).length:Nat):Int):=W0 _ (by rw [hlen];omega)
 have p1:(t+1) % (((ns.map V.int).length:Nat):Int)<(ns.length:Int):=by
  have:=T5 (t+1) (b:=(((ns.map V.int).length:Nat):Int)) (by rw [hlen];omega)
  rw [hlen] at this ⊢;exact this
 dsimp only;generalize (t+1) % (((ns.map V.int).length:Nat):Int)=pl at p0 p1;obtain ⟨j,rfl⟩:∃ j:Nat,pl=(j:Int):=⟨pl.toNat,by omega⟩
 have hj:j<ns.length:=by omega
 have hat:atI (ns.map V.int) (j:Int)=some (.int ns[j]):=qUI (by rw [B1,A1 hj];rfl)
 refine ⟨_,rfl,d,_,rfl,qLF S1,_,rfl,c,_,_,_,rfl,rfl,SqL.of S1.list,hat,?_⟩;generalize hx:ns[j]=x at hat ⊢;refine ⟨_,rfl,_,_,rfl,rfl,⟨by decide,by decide,by decide⟩,_,_,rfl,rfl,_,rfl,?_⟩
 refine ite2 (fun _=>?_) (fun _=>?_)
 ·-- a great cell
  refine ⟨_,rfl,_,rfl,x,m,rfl,⟨by omega,by omega⟩,fun p hp=>?_⟩
  have S2:=S1.new hp (.tup [.int (x / m),.int (x % m)]);have npc:p ≠ c:=(qA5 S1.list hp).symm;refine ⟨p,_,rfl,SqT.of qA1,rfl,_,_,rfl,?_⟩;refine ⟨_,rfl,d,_,rfl,qLF S2,_,rfl,c,_,_,j,rfl,rfl,S2.list,qOI (by rw [A0];exact hj),?_⟩
  refine ⟨_,_,rfl,rfl,?_⟩;refine ⟨_,rfl,?_⟩;have e1:(ns.map V.int).set j (.int (x / m))=(ns.set j (x / m)).map V.int:=by rw [u9]
  rw [e1];refine q (x % m) (ns.set j (x / m)) _ (W0 _ (by omega)) (T5 _ (by omega)) (S2.put (by rw [d3])) ?_
  have k2:=k1.trans (qC7 (d:=d) (c:=c) hp (.tup [.int (x / m),.int (x % m)]));exact fun b o e n1 n2=>by rw [qA8 n2];exact k2 b o e n1 n2
 ·have b1:0<=x % 2147483629:=W0 _ (by decide)
  have b2:x % 2147483629<2147483629:=T5 _ (by decide)
  refine ⟨_,rfl,_,_,rfl,rfl,(by show (0:Int)<2147483629;decide),_,rfl,_,rfl,_,_,rfl,rfl,.inl ⟨by omega,by omega⟩,_,_,rfl,rfl,.inr ⟨by decide,by decide⟩,_,_,rfl,rfl,_,_,rfl,rfl,_,_,rfl,rfl,.inr ⟨by decide,by decide⟩,_,_,rfl,rfl,(by show (0:Int)<2147483647;decide),?_⟩
  have c1:=W0 ((x % 2147483629+(t+1) * (t+1) * 7919+11) * 48271) (b:=2147483647) (by decide)
  have c2:=T5 ((x % 2147483629+(t+1) * (t+1) * 7919+11) * 48271) (b:=2147483647) (by decide)
  dsimp only;generalize ((x % 2147483629+(t+1) * (t+1) * 7919+11) * 48271) % 2147483647=y at c1 c2;refine ⟨_,rfl,_,rfl,_,_,rfl,rfl,.inl ⟨by omega,by omega⟩,_,_,rfl,rfl,(by show (0:Int)<2147483587;decide),?_⟩
  dsimp only;generalize y * y % 2147483587=z;refine ⟨_,rfl,_,rfl,_,_,rfl,rfl,.inr ⟨by decide,by decide⟩,_,_,rfl,rfl,_,_,rfl,rfl,.inr ⟨by decide,by decide⟩,_,_,rfl,rfl,(by show (0:Int)<2147483629;decide),_,_,rfl,rfl,⟨by decide,by decide⟩,_,rfl,_,_,rfl,rfl,(by omega),?_⟩
  exact q _ ns _ (W0 _ (by omega)) (T5 _ (by omega)) S1 k1
end
section
variable {P:Program} {w:World} {K:PySem.W.Frag} {mg:Str->Option Value} {base:Heap} {f:Addr} {fd:FuncData} {qCP:Addr} {qCK:FuncData}
theorem sc_Lsome_needs:FnScope ["_law_state","_law_k","_law_found","_law_turn","_law_far"] ["_law_state","_law_k"] (qAD qD6):=⟨rfl,rfl,rfl,by decide +kernel,rfl,by decide +kernel,by decide +kernel⟩
theorem ok_Lsome_needs (F:Fun K "_law_some_needs" "_law_some_needs" qD6 f fd) (qAI:Clb P w K mg base 1 qCP qCK "_law_take" ["_law_state","_law_many"] qIH)
  (qAJ:mg "range" = none) (qHP:mg "min" = none) (qAH:mg "tuple" = none) (qAT:mg "sorted" = none) (qKJ:mg "set" = none):FnOk P w K mg base CX0 2 f fd ["_law_state","_law_k"] qKO:=by
 refine F.ok sc_Lsome_needs (fun vs H Q E h=>?_) (fun cdv A outer s H vs Q E hr h=>?_)
 ·obtain ⟨d,c,t,ns,k,rfl,_⟩:=h
  rfl
 obtain ⟨d,c,t,ns,k,rfl,S,ht,hk0,hk1,q⟩:=h;have ht':t<=1000000000 - 20:=ht;have qVW:Room 1 _:=hr;refine ⟨_,(qA4 (qAE (i:=2) sc_Lsome_needs.nd rfl (D0 rfl) (qBH qA3)) (qA4 (qBE C9 rfl (qBW rfl qAJ (qA0 (qAZ qAI hr rfl (qA0 (pv 0) (qA0 qA7 qA3))) qA3)) (qAA (i:=3) sc_Lsome_needs.nd rfl (D0 rfl)) (qA4 (qAE (i:=4) sc_Lsome_needs.nd rfl (D0 rfl) (qB0 qEF (qBH (qA0 (qA9 (qJC rfl) rfl qHP qUA (qA0 (pv 1) (qA0 qA7 qA3))) (qA0 (pv 1) qA3))) (qAP qO7 (qAZ qAI hr rfl (qA0 (pv 0) (qA0 qA7 qA3))) qA7) (fun _ _=>rfl))) (qA6 (qCF (qAU qZS (pv 1) qA7 (qB1 _)) (qA6 (qCL (qJN E8 L7 L8 qCV (pv 2) (qA0 (qAP qDG (qAP qDG (pv 1) qA7) (qAZ qAI hr rfl (qA0 (pv 0) (qA0 (pv 4) qA3)))) qA3)))) qAV)))) (qA6 (qAS (qAK qAM rfl qAH qB4 (qA0 (qA9 (qJB rfl) rfl qAT qDK (qA0 (qAK (qQ6 rfl) rfl qKJ qX9 (qA0 (pv 2) qA3)) qA3)) qA3)))))),?_⟩
 try dsimp only [Cx.nox,Cx.wish,cxOf]
 refine ⟨(by show 0<=sizeLine;decide),fun fo hfo=>?_⟩
 have S1:=S.new hfo (.lst []);have nd:fo ≠ d:=(qA5 S.dict hfo).symm;have nc:fo ≠ c:=(qA5 S.list hfo).symm;refine ⟨_,rfl,d,c,t,ns,5,rfl,S1,(by show t<=1000000000;omega),by decide,by decide,fun j ns1 H1 j0 j5 S2 K2=>?_⟩
 refine ⟨j,rfl,by omega,by omega,qEZ (lo:=0) (n:=j.toNat) (fun i σ Hc=>∃ (t':Int) (ms fs:List Int) (v1 v2:Option V),σ=[some (.ref d),some (.int k),some (.ref fo),v1,v2]/\StAt Hc d c t' ms/\t<=t'/\t'<=t+1+2 * i/\Keep d c H Hc/\
  Hc fo=some (.lst (fs.map V.int))/\fs.length<=i/\∀ x ∈ fs,0<=x/\x<k)
  ⟨t+1,ns1,[],none,none,rfl,S2,by omega,by omega,(qC7 hfo _).trans K2,K2 _ _ qA1 nd nc,B0 _,fun _ z=>nomatch z⟩ ?_ ?_⟩
 ·refine fun i σ Hc hi hI_1=>opq fun G_1 hG_1=>?_;obtain ⟨t',ms,fs,v1,v2,rfl,S3,a1,a2,K3,h3,l3,m3⟩:=hI_1;refine hG_1 ?_;have hi5:(i:Int)<5:=by omega
  -- far
  refine ⟨_,rfl,k,4,rfl,_,rfl,(by show 2<=sizeLine;decide),fun p hp=>?_⟩
  have S4:=S3.new hp (.lst [.int (if (4:Int)<k then 4 else k),.int k])
  have npd:p ≠ d:=(qA5 S3.dict hp).symm;have npc:p ≠ c:=(qA5 S3.list hp).symm;refine ⟨_,rfl,d,c,t',ms,4,rfl,S4,(by show t'<=1000000000;omega),by decide,by decide,fun k2 ms2 H2 g0 g4 S5 K5=>?_⟩
  obtain ⟨far,hfar,ef⟩:=qbB (a:=if (4:Int)<k then 4 else k) (b:=k) g0 g4
  have far1:far<=k:=by rcases ef with e | e <;> (subst e;first | omega | (split <;> omega))
  have far2:0<k->1<=far:=fun hk=>by rcases ef with e | e <;> (subst e;first | omega | (split <;> omega))
  refine ⟨_,_,rfl,rfl,⟨by decide,by decide⟩,p,_,_,_,rfl,rfl,SqL.of (K5 _ _ qA1 npd npc),hfar,?_⟩
  have K6:=K3.trans ((qC7 (d:=d) (c:=c) hp (.lst [.int (if (4:Int)<k then 4 else k),.int k])).trans K5)
  have h6:H2 fo=some (.lst (fs.map V.int)):=K5 _ _ (by rw [qA8 (qA5 h3 hp)];exact h3) nd nc
  refine ⟨_,rfl,_,_,rfl,rfl,_,rfl,?_⟩;refine ite2 (fun ck=>?_) (fun ck=>?_)
  ·have hk:0<k:=of_decide_eq_true ck;refine ⟨_,rfl,.inl ⟨rfl,_,SqL.of h6⟩,_,rfl,_,_,rfl,rfl,_,rfl,_,rfl,d,c,t'+1,ms2,far,rfl,S5,(by show t'+1<=1000000000;omega),far2 hk,by omega,fun k3 ms3 H3 c0 c1 S6 K7=>?_⟩
   have h7:=K7 _ _ h6 nd nc;refine ⟨_,_,rfl,rfl,fo,_,_,rfl,rfl,h7,qAO (by rw [A0];omega),?_⟩
   have S8:StAt (upd H3 fo (.lst (fs.map V.int++[.int (k - 1 - k3)]))) d c (t'+1+1) ms3:=⟨by rw [qA8 (G3 nd)];exact S6.dict,by rw [qA8 (G3 nc)];exact S6.list,S6.ne,S6.len,S6.pos⟩
   have hH:H fo=none:=hfo;refine ⟨t'+1+1,ms3,fs++[k - 1 - k3],_,_,rfl,S8,by omega,by omega,fun b o e n1 n2=>?_,?_,?_,fun x hx=>?_⟩
   ·rw [qA8 (qA5 e hH)];exact (K6.trans K7) b o e n1 n2
   ·rw [qA1,A9];rfl
   ·rw [A7,C3];omega
   ·rcases D6.mp hx with hx | hx
    ·exact m3 x hx
    ·rw [A3.mp hx];omega
  ·exact ⟨t'+1,ms2,fs,_,_,rfl,S5,by omega,by omega,K6,h6,by omega,m3⟩
 ·refine fun σ Hc hI_2=>opq fun G_2 hG_2=>?_;obtain ⟨t',ms,fs,v1,v2,rfl,S3,a1,a2,K3,h3,l3,m3⟩:=hI_2;refine hG_2 ?_;refine ⟨_,rfl,fo,fs,rfl,SqL.of h3,by omega,fun a ha=>?_⟩
  have sm1:=qA2 ha (SetO w a (dedI fs));refine ⟨a,dedI fs,rfl,.inr (.inr qA1),V6 (qQ4 fs) (by omega),fun b zs hb hp hs=>?_⟩
  have sm2:=sm1.trans (qA2 hb (.lst (zs.map V.int)));refine ⟨b,_,rfl,.inl ⟨SqL.of qA1,fun r hr'=>?_⟩⟩;have sm3:=sm2.trans (qA2 hr' (.tup (zs.map V.int)));exact q r zs t' ms _ (S3.same sm3) (by omega) (by omega) (K3.trans (.of_same sm3)) qA1 (qPC hp hs m3)
theorem sc_Ltree_net:FnScope ["_law_state","_law_many","_law_open_ones","_law_found","_law_k","_law_so_many"] ["_law_state","_law_many"] (qAD qE7):=⟨rfl,rfl,rfl,by decide +kernel,rfl,by decide +kernel,by decide +kernel⟩
theorem ok_Ltree_net (F:Fun K "_law_tree_net" "_law_tree_net" qE7 f fd) (qAI:Clb P w K mg base 1 qCP qCK "_law_take" ["_law_state","_law_many"] qIH)
  (qAJ:mg "range" = none) (qHP:mg "min" = none) (qAH:mg "tuple" = none) (qBO:mg "len" = none):FnOk P w K mg base CX0 2 f fd ["_law_state","_law_many"] qNY:=by
 refine F.ok sc_Ltree_net (fun vs H Q E h=>?_) (fun cdv A outer s H vs Q E hr h=>?_)
 ·obtain ⟨d,c,t,ns,m,rfl,_⟩:=h
  rfl
 obtain ⟨d,c,t,ns,m,rfl,S,ht,hm0,hm1,q⟩:=h;have ht':t<=1000000000 - 1000:=ht;have qVW:Room 1 _:=hr;refine ⟨_,(qA4 (qAE (i:=2) sc_Ltree_net.nd rfl (D0 rfl) (qBH qA3)) (qA4 (qAE (i:=3) sc_Ltree_net.nd rfl (D0 rfl) (qBH qA3)) (qA4 (qBE C9 rfl (qBW rfl qAJ (qA0 (qAP qDG (pv 1) qA7) qA3)) (qAA (i:=4) sc_Ltree_net.nd rfl (D0 rfl)) (qA4 (qAE (i:=5) sc_Ltree_net.nd rfl (D0 rfl) (qA9 (qJC rfl) rfl qHP qUA (qA0 (qA9 qAL rfl qBO qDL (qA0 (pv 2) qA3)) (qA0 (qB0 qEF (qBH (qA0 qA7 (qA0 qA7 (qA0 qA7 (qA0 qA7 (qA0 qA7 (qA0 qA7 qA3))))))) (qAZ qAI hr rfl (qA0 (pv 0) (qA0 qA7 qA3))) (fun _ _=>rfl)) qA3)))) (qA4 (qCL (qJN E8 L7 L8 qCV (pv 3) (qA0 (qAK qAM rfl qAH qB4 (qA0 (qG8 qIK (pv 2) (qIQ (qAP qDG (qA9 qAL rfl qBO qDL (qA0 (pv 2) qA3)) (pv 5))) qIR) qA3)) qA3))) (qA6 (qAE (i:=2) sc_Ltree_net.nd rfl (D0 rfl) (qAP qMD (qG8 qIK (pv 2) qIR (qIQ (qAP qDG (qA9 qAL rfl qBO qDL (qA0 (pv 2) qA3)) (pv 5)))) (qBH (qA0 (pv 4) qA3)))))))) (qA6 (qAS (qAK qAM rfl qAH qB4 (qA0 (qAP qMD (pv 3) (qBH (qA0 (qAK qAM rfl qAH qB4 (qA0 (pv 2) qA3)) qA3))) qA3))))))),?_⟩
 try dsimp only [Cx.nox,Cx.wish,cxOf]
 refine ⟨(by show 0<=sizeLine;decide),fun o0 ho0=>?_⟩
 have S1:=S.new ho0 (.lst []);refine ⟨(by show 0<=sizeLine;decide),fun fo hfo=>?_⟩
 have S2:=S1.new hfo (.lst []);have nd:fo ≠ d:=(qA5 S1.dict hfo).symm;have nc:fo ≠ c:=(qA5 S1.list hfo).symm;have no0:o0 ≠ fo:=qA5 qA1 hfo;have hF:H fo=none:=(qA2 ho0 _).free hfo;refine ⟨_,rfl,_,_,rfl,rfl,m - 1,rfl,by omega,by omega,qEZ (lo:=0) (n:=(m - 1).toNat) (fun i σ Hc=>∃ (t':Int) (ms os:List Int) (o:Addr) (rs:List Addr) (Ae:List (List Int)) (v1 v2:Option V),σ=[some (.ref d),some (.int m),some (.ref o),some (.ref fo),v1,v2]/\StAt Hc d c t' ms/\t<=t'/\t'<=t+i/\Keep d c H Hc/\
  Hc o=some (.lst (os.map V.int))/\(o ≠ fo/\o ≠ c)/\Hc fo=some (.lst (rs.map V.ref))/\NetL Hc rs Ae/\Ae.length=i/\WFn Ae/\Rise (i:Int) os/\Opens Ae os)
  ⟨t,ns,[],o0,[],[],none,none,rfl,S2,by omega,by omega,(qC7 ho0 _).trans (qC7 hfo _),by rw [qA8 no0];exact qA1,⟨no0,(qA5 S.list ho0).symm⟩,qA1,.nil,rfl,WFn.nil,Rise.nil,Opens.nil⟩ ?_ ?_⟩
 ·refine fun i σ Hc hi hI_3=>opq fun G_3 hG_3=>?_;obtain ⟨t',ms,os,o,rs,Ae,v1,v2,rfl,S3,a1,a2,K3,h3,⟨n3,n3c⟩,f3,N3,l3,w3,r3,op3⟩:=hI_3;refine hG_3 ?_;have hlo:os.length<=i:=r3.len;refine ⟨_,rfl,o,_,rfl,.inl (SqL.of h3),(by show 6<=sizeLine;decide),fun p hp=>?_⟩
  have S4:=S3.new hp (.lst [.int 0,.int 0,.int 1,.int 2,.int 2,.int 3]);have npd:p ≠ d:=(qA5 S3.dict hp).symm;have npc:p ≠ c:=(qA5 S3.list hp).symm;refine ⟨_,rfl,d,c,t',ms,6,rfl,S4,(by show t'<=1000000000;omega),by decide,by decide,fun k2 ms2 H2 g0 g6 S5 K5=>?_⟩
  obtain ⟨v,hv,v0,v3⟩:=qbA g0 g6;refine ⟨p,_,_,_,rfl,rfl,SqL.of (K5 _ _ qA1 npd npc),hv,?_⟩;have sm:Same Hc (upd Hc p (.lst [.int 0,.int 0,.int 1,.int 2,.int 2,.int 3])):=qA2 hp _;have K6:=(Keep.of_same (d:=d) (c:=c) sm).trans K5;have nod:o ≠ d:=qBS h3 S3.dict (by intro z;cases z)
  have h6:H2 o=some (.lst (os.map V.int)):=K6 _ _ h3 nod n3c;have f6:H2 fo=some (.lst (rs.map V.ref)):=K6 _ _ f3 nd nc;have N6:NetL H2 rs Ae:=N3.keep (fun r zs e=>S3.tup e) K6;refine ⟨_,_,rfl,?_⟩;dsimp only;have so0:0<=(if v<(((os.map V.int).length:Nat):Int) then v else (((os.map V.int).length:Nat):Int)):=by split <;> omega
  have so1:(if v<(((os.map V.int).length:Nat):Int) then v else (((os.map V.int).length:Nat):Int))<=(os.length:Int):=by rw [A0];split <;> omega
  generalize (if v<(((os.map V.int).length:Nat):Int) then v else (((os.map V.int).length:Nat):Int))=so at so0 so1
  obtain ⟨kk,ek⟩:∃ kk:Nat,(os.length:Int) - so=(kk:Int):=⟨((os.length:Int) - so).toNat,by omega⟩
  have ek':(((os.map V.int).length:Nat):Int) - so=(kk:Int):=by rw [A0];exact ek
  have hkk:kk<=os.length:=by omega
  -- found.append(tuple(open_ones[len(open_ones) - so_many:]))
  refine ⟨_,rfl,.inl ⟨rfl,_,SqL.of f6⟩,_,rfl,_,rfl,o,_,rfl,.inl (SqL.of h6),_,rfl,_,_,rfl,rfl,_,rfl,o,_,rfl,SqL.of h6,fun p1 hp1=>?_⟩;refine ⟨p1,_,rfl,.inl ⟨SqL.of qA1,fun r hr1=>?_⟩⟩;rw [ek',qGR,qN8 _ _ hkk] at hr1 ⊢;have sm1:=(qA2 hp1 (.lst ((os.drop kk).map V.int))).trans (qA2 hr1 (.tup ((os.drop kk).map V.int)));have f7:=sm1 _ _ f6;have h7:=sm1 _ _ h6;have N7:NetL _ (rs++[r]) (Ae++[os.drop kk]):=qCG (N6.same fun r zs e=>sm1 _ _ e) (show (upd (upd H2 p1 (.lst ((os.drop kk).map V.int))) r (.tup ((os.drop kk).map V.int))) r=some (.tup ((os.drop kk).map V.int)) from qA1);have S7:=S5.same sm1;have K7:=K6.trans (.of_same sm1);generalize (upd (upd H2 p1 (.lst ((os.drop kk).map V.int))) r (.tup ((os.drop kk).map V.int)))=H7 at f7 h7 N7 S7 K7 ⊢;refine ⟨fo,_,_,rfl,rfl,f7,qAO (by rw [A0,NetAt.len N3];omega),?_⟩
  have e8:rs.map V.ref++[V.ref r]=(rs++[r]).map V.ref:=by rw [A9];rfl
  rw [e8];have S8:StAt (upd H7 fo (.lst ((rs++[r]).map V.ref))) d c (t'+1) ms2:=⟨by rw [qA8 (G3 nd)];exact S7.dict,by rw [qA8 (G3 nc)];exact S7.list,S7.ne,S7.len,S7.pos⟩
  have h8:(upd H7 fo (.lst ((rs++[r]).map V.ref))) o=some (.lst (os.map V.int)):=by rw [qA8 n3];exact h7
  have N8:NetL (upd H7 fo (.lst ((rs++[r]).map V.ref))) (rs++[r]) (Ae++[os.drop kk]):=N7.same fun r' zs e=>by rw [qA8 (qBS e f7 (by intro z;cases z))];exact e
  have K8:Keep d c H (upd H7 fo (.lst ((rs++[r]).map V.ref))):=fun b u e n1 n2=>by rw [qA8 (qA5 e hF)];exact (K3.trans K7) b u e n1 n2
  have f8:(upd H7 fo (.lst ((rs++[r]).map V.ref))) fo=some (.lst ((rs++[r]).map V.ref)):=qA1;generalize upd H7 fo (.lst ((rs++[r]).map V.ref))=H8 at S8 h8 N8 K8 f8 ⊢
  -- open_ones=open_ones[:len(open_ones) - so_many]+[k]
  refine ⟨_,rfl,_,rfl,o,_,rfl,.inl (SqL.of h8),_,rfl,_,_,rfl,rfl,_,rfl,o,_,rfl,SqL.of h8,fun p2 hp2=>?_⟩;rw [ek',qGR,qU4];refine ⟨_,rfl,(by show 1<=sizeLine;decide),fun p3 hp3=>?_⟩
  have n23:p2 ≠ p3:=qA5 qA1 hp3;refine ⟨p2,p3,_,_,rfl,rfl,by rw [qA8 n23];exact qA1,qA1,Q8 (qAO (by rw [A0,D1,C3];omega)),fun p4 hp4=>?_⟩
  have sm2:=((qA2 hp2 (.lst ((os.take kk).map V.int))).trans (qA2 hp3 (.lst [.int (0+(i:Int))]))).trans (qA2 hp4 (.lst ((os.take kk).map V.int++[.int (0+(i:Int))])));have e9:(os.take kk).map V.int++[V.int (0+(i:Int))]=(os.take kk++[(i:Int)]).map V.int:=by rw [A9,j7];rfl
  have nf4:p4 ≠ fo:=(qA5 ((qA2 hp3 _) _ _ ((qA2 hp2 _) _ _ f8)) hp4).symm;have nc4:p4 ≠ c:=(qA5 ((qA2 hp3 _) _ _ ((qA2 hp2 _) _ _ S8.list)) hp4).symm;refine ⟨t'+1,ms2,os.take kk++[(i:Int)],p4,rs++[r],Ae++[os.drop kk],_,_,rfl,S8.same sm2,by omega,by omega,K8.trans (.of_same sm2),by rw [<- e9];exact qA1,⟨nf4,nc4⟩,sm2 _ _ f8,N8.same fun r' zs e=>sm2 _ _ e,by rw [A7,C3,l3],w3.snoc ?_,?_,?_⟩
  ·rw [l3];exact r3.sub (A25 _ _)
  ·have:=(r3.sub (Z1 kk os)).snoc (by omega)
   rw [show ((i+1:Nat):Int)=(i:Int)+1 by omega]
   exact this
  ·have:=op3.step (kk:=kk) w3 (by rw [l3];exact r3)
   rw [l3] at this;exact this
 ·refine fun σ Hc hI_4=>opq fun G_4 hG_4=>?_;obtain ⟨t',ms,os,o,rs,Ae,v1,v2,rfl,S3,a1,a2,K3,h3,⟨n3,n3c⟩,f3,N3,l3,w3,r3,op3⟩:=hI_4;refine hG_4 ?_;refine ⟨_,rfl,_,rfl,o,_,rfl,.inl ⟨SqL.of h3,fun r hr1=>?_⟩⟩;refine ⟨(by show 1<=sizeLine;decide),fun p hp=>?_⟩
  have sm1:=(qA2 hr1 (.tup (os.map V.int))).trans (qA2 hp (.lst [.ref r]));refine ⟨fo,p,_,_,rfl,rfl,sm1 _ _ f3,qA1,Q8 (qAO (by rw [A0,NetAt.len N3,C3];omega)),fun p2 hp2=>?_⟩
  refine ⟨p2,_,rfl,.inl ⟨SqL.of qA1,fun a ha=>?_⟩⟩;have sm2:=(sm1.trans (qA2 hp2 (.lst (rs.map V.ref++[.ref r])))).trans (qA2 ha (.tup (rs.map V.ref++[.ref r])));have gr:=(qA2 ha (.tup (rs.map V.ref++[.ref r]))) _ _ ((qA2 hp2 (.lst (rs.map V.ref++[.ref r]))) _ _ ((qA2 hp (.lst [.ref r])) r _ (qA1 (H:=Hc) (o:=.tup (os.map V.int)))));have e8:rs.map V.ref++[V.ref r]=(rs++[r]).map V.ref:=by rw [A9];rfl
  refine q a (Ae++[os]) t' ms _ (S3.same sm2) (by omega) (by omega) (K3.trans (.of_same sm2)) ⟨rs++[r],by rw [<- e8];exact qA1,qCG (N3.same fun r' zs e=>sm2 _ _ e) gr⟩ (w3.snoc (by rw [l3];exact r3)) ?_ ?_
  ·rw [A7,C3,l3];omega
  ·exact (op3.step (kk:=0) w3 (by rw [l3];exact r3)).1
end
section
variable {P:Program} {w:World} {K:PySem.W.Frag} {mg:Str->Option Value} {base:Heap} {f:Addr} {fd:FuncData} {qCP:Addr} {qCK:FuncData} {qC3:Addr} {qCS:FuncData} {qCO:Addr} {qDS:FuncData}
theorem sc_Lnet:FnScope ["_law_state","_law_many","_law_way","_law_wide","_law_some","_law_half"] ["_law_state","_law_many"] (qAD qP8):=⟨rfl,rfl,rfl,by decide +kernel,rfl,by decide +kernel,by decide +kernel⟩
theorem ok_Lnet (F:Fun K "_law_net" "_law_net" qP8 f fd) (qAI:Clb P w K mg base 1 qCP qCK "_law_take" ["_law_state","_law_many"] qIH)
  (qB6:Clb P w K mg base 2 qC3 qCS "_law_some_needs" ["_law_state","_law_k"] qKO)
  (qBY:Clb P w K mg base 2 qCO qDS "_law_tree_net" ["_law_state","_law_many"] qNY)
  (qAJ:mg "range" = none) (qDY:mg "max" = none) (qFN:mg "int" = none) (qBJ:mg "enumerate" = none) (qAH:mg "tuple" = none) (qAT:mg "sorted" = none) (qKJ:mg "set" = none):FnOk P w K mg base CX0 3 f fd ["_law_state","_law_many"] qZA:=by
 refine F.ok sc_Lnet (fun vs H Q E h=>?_) (fun cdv A outer s H vs Q E hr h=>?_)
 ·obtain ⟨d,c,t,ns,m,rfl,_⟩:=h
  rfl
 obtain ⟨d,c,t,ns,m,rfl,S,ht,hm0,hm1,q⟩:=h;have ht':t<=1000000000 - 10000:=ht;have qUP:Room 2 _:=hr;have qX1:Room 2 _:=hr;refine ⟨_,(qA4 (qAE (i:=2) sc_Lnet.nd rfl (D0 rfl) (qAZ qAI hr rfl (qA0 (pv 0) (qA0 qA7 qA3)))) (qA4 (qAE (i:=3) sc_Lnet.nd rfl (b9 rfl) (qAP qCA qA7 (qAZ qAI hr rfl (qA0 (pv 0) (qA0 qA7 qA3))))) (qA4 (qCF (qAU qG9 (pv 2) qA7 (qB1 _)) (qA6 (qAS (qAK qAM rfl qAH qB4 (qA0 (qEA rfl (lcs (own:=["_law_k"]) (fv:=[3]) (by kernel_rfl)) (qBW rfl qAJ (qA0 (pv 1) qA3)) (fun z1=>qAA (i:=0) (qD2 (by kernel_rfl)) rfl (D0 rfl)) (fun z1=>qBQ) (fun z1=>(qAK (qJR rfl) rfl qAH qB4 (qA0 (qAK qU8 rfl qAJ qW9 (qA0 (qA9 (qJE rfl) rfl qDY qKG (qA0 qA7 (qA0 (qAP qDG (pv 0) (pv 1)) qA3))) (qA0 (pv 0) qA3))) qA3)))) qA3)))) qAV) (qA4 (qCF (qAU qG9 (pv 2) qA7 (qB1 _)) (qA4 (qV8 (i:=4) sc_Lnet.nd rfl rfl rfl (lcs (own:=["_law_k"]) (fv:=[3]) (by kernel_rfl)) (qBW rfl qAJ (qA0 (pv 1) qA3)) (fun z2=>qAA (i:=0) (qD2 (by kernel_rfl)) rfl (D0 rfl)) (fun z2=>qBQ) (fun z2=>(qAP qMD (qAP qMA (qBH (qA0 (qAP qDG (pv 0) (pv 1)) qA3)) (qAK qNF rfl qFN qQ7 (qA0 (qE0 qXW (pv 0) (pv 1) (qB1 _)) qA3))) (qAP qMA (qBH (qA0 (qAP qDG (pv 0) qA7) qA3)) (qAK qNF rfl qFN qQ7 (qA0 (qE0 qZS (qAP qIU (pv 0) (pv 1)) qA7 (qB1 _)) qA3))))) (by kernel_rfl)) (qA6 (qAS (qAK qAM rfl qAH qB4 (qA0 (qEA rfl (lcs (own:=["_law_needs"]) (fv:=[]) (by kernel_rfl)) (qBR (pv 4)) (fun z3=>qAA (i:=0) (qD2 (by kernel_rfl)) rfl (D0 rfl)) (fun z3=>qBQ) (fun z3=>(qAK (qFV (K:=K) rfl) rfl qAH qB4 (qA0 (qA9 (qNE (K:=K) (w:=w) rfl rfl rfl) rfl qAT qDK (qA0 (qAK (qU7 (K:=K) (w:=w) rfl rfl rfl) rfl qKJ qX9 (qA0 (pv 0) qA3)) qA3)) qA3)))) qA3))))) qAV) (qA4 (qCF (qAU qG9 (pv 2) qA7 (qB1 _)) (qA6 (qAS (qAZ qBY hr rfl (qA0 (pv 0) (qA0 (pv 1) qA3))))) qAV) (qA4 (qCF (qAU qG9 (pv 2) qA7 (qB1 _)) (qA4 (qAE (i:=5) sc_Lnet.nd rfl (b9 rfl) (qAP qO7 (pv 1) qA7)) (qA4 (qV8 (i:=4) sc_Lnet.nd rfl rfl rfl (lcs (own:=["_law_k"]) (fv:=[0,5]) (by kernel_rfl)) (qBW rfl qAJ (qA0 (pv 1) qA3)) (fun z4=>qAA (i:=0) (qD2 (by kernel_rfl)) rfl (D0 rfl)) (fun z4=>qBQ) (fun z4=>(qAZ qB6 hr rfl (qA0 (pv 1) (qA0 (qPF (qAU qXV (pv 0) (pv 2) (qB1 _)) (pv 0) (qAP qDG (pv 0) (pv 2))) qA3)))) (by kernel_rfl)) (qA6 (qAS (qAK qAM rfl qAH qB4 (qA0 (qEA rfl (lcs (own:=["_law_k","_law_needs"]) (fv:=[5]) (by kernel_rfl)) (qSC rfl qBJ qHM (qA0 (pv 4) qA3)) (fun z5=>qSE (K:=K) (n:=2) rfl rfl (qC6 (qAA (i:=0) (qD2 (by kernel_rfl)) rfl (D0 rfl)) (qC6 (qAA (i:=1) (qD2 (by kernel_rfl)) rfl (D0 rfl)) qH0)) rfl rfl) (fun z5=>qBQ) (fun z5=>(qPF (qAU qXV (pv 0) (pv 2) (qB1 _)) (pv 1) (qAK (qFV (K:=K) rfl) rfl qAH qB4 (qA0 (qEA (X:=lcCx _ _ _ _ z5) rfl (lcs (own:=["_law_n"]) (fv:=[2]) (by kernel_rfl)) (qSB (K:=K) rfl (pv 1)) (fun z6=>qAA (i:=0) (qD2 (by kernel_rfl)) rfl (D0 rfl)) (fun z6=>qBQ) (fun z6=>(qAP qCA (pv 0) (pv 1)))) qA3))))) qA3)))))) qAV) (qA6 (qAS (qAK qAM rfl qAH qB4 (qA0 (qEA rfl (lcs (own:=["_law_k"]) (fv:=[0]) (by kernel_rfl)) (qBW rfl qAJ (qA0 (pv 1) qA3)) (fun z7=>qAA (i:=0) (qD2 (by kernel_rfl)) rfl (D0 rfl)) (fun z7=>qBQ) (fun z7=>(qAZ qB6 hr rfl (qA0 (pv 1) (qA0 (pv 0) qA3))))) qA3)))))))))),?_⟩
 try dsimp only [Cx.nox,Cx.wish,cxOf]
 refine cut fun N1 hN1=>?_;refine ⟨_,rfl,d,c,t,ns,8,rfl,S,(by show t<=1000000000;omega),by decide,by decide,fun way ns1 H1 w0 w8 S1 K1=>?_⟩
 refine hN1 _ _ (cut fun N2 hN2=>?_);refine ⟨_,rfl,d,c,t+1,ns1,4,rfl,S1,(by show t+1<=1000000000;omega),by decide,by decide,fun wd ns2 H2 wd0 wd4 S2 K2=>⟨_,_,rfl,rfl,?_⟩⟩
 dsimp only;have K12:=K1.trans K2;generalize hwide:(1:Int)+wd=wide;have wi0:1<=wide:=by omega
 have wi4:wide<=4:=by omega
 refine hN2 _ _ (cut fun N3 hN3=>?_);refine ⟨_,rfl,rfl,_,rfl,?_⟩;refine ite2 (fun _=>?_) (fun _=>?_)
 ·refine ⟨_,rfl,m,rfl,by omega,by omega,fun p hp=>?_⟩
  refine qFK (p:=p) (lo:=0) (n:=m.toNat) (fun i σ Hc=>∃ (v:Option V) (rs:List Addr) (Ae:List (List Int)),σ=[v,some (.int wide)]/\Same H2 Hc/\Hc p=some (.lst (rs.map V.ref))/\NetL Hc rs Ae/\Ae.length=i/\WFn Ae) ?_ ?_ ?_
  ·exact ⟨none,[],[],rfl,qA2 hp _,qA1,.nil,rfl,WFn.nil⟩
  ·refine fun i σ Hc hi hI_1=>opq fun G_1 hG_1=>?_;obtain ⟨v,rs,Ae,rfl,sm,hpc,N,hl,wf⟩:=hI_1;refine hG_1 ?_;refine ⟨_,rfl,_,rfl,_,_,rfl,rfl,0,_,rfl,_,rfl,_,_,rfl,fun p1 hp1=>?_⟩;refine ⟨p1,_,_,rfl,qA1,by split <;> omega,by split <;> omega,by omega,by omega,fun r hr1=>?_⟩
   have lo0:0<=(if (0+(i:Int)) - wide > 0 then (0+(i:Int)) - wide else 0):=by split <;> omega
   have hri:=qO0 (hi:=0+(i:Int)) lo0;dsimp only;rw [qNZ];generalize qDD (if (0+(i:Int)) - wide > 0 then (0+(i:Int)) - wide else 0) (0+(i:Int))=zs at hri ⊢
   generalize HO.rng (if (0+(i:Int)) - wide > 0 then (0+(i:Int)) - wide else 0) (0+(i:Int))=ho at hp1 hr1 ⊢
   have s1:=(qA2 hp1 ho).trans (qA2 hr1 (.tup (zs.map V.int)));have g1:=s1 _ _ hpc;refine ⟨_,g1,qAO (by rw [A0,NetAt.len N];omega),?_⟩
   rw [qDR];refine ⟨_,rs++[r],Ae++[zs],rfl,qAB (sm.trans s1) hp,qA1,qEB (qCG (N.same fun r' ys e=>s1 _ _ e) qA1) g1,by rw [A7,C3,hl],wf.snoc ?_⟩
   rw [hl];exact hri.mono (by omega)
  ·refine fun σ Hc hI_2=>opq fun G_2 hG_2=>?_;obtain ⟨v,rs,Ae,rfl,sm,hpc,N,hl,wf⟩:=hI_2;refine hG_2 ?_;refine ⟨p,_,rfl,.inl ⟨SqL.of hpc,fun a ha=>?_⟩⟩;have s1:=qA2 ha (.tup (rs.map V.ref));exact q a Ae (t+1+1) ns2 _ (S2.same (sm.trans s1)) (by omega) (by omega) (K12.trans (.of_same (sm.trans s1))) ⟨rs,qA1,N.same fun r ys e=>s1 _ _ e⟩ wf (by rw [hl];omega)
 refine hN3 _ _ (cut fun N4 hN4=>?_);refine ⟨_,rfl,rfl,_,rfl,?_⟩;refine ite2 (fun _=>?_) (fun _=>?_)
 ·refine ⟨_,rfl,m,rfl,by omega,by omega,fun p hp=>?_⟩
  refine qFK (p:=p) (lo:=0) (n:=m.toNat) (fun i σ Hc=>∃ (v:Option V) (rs:List Addr) (ls:List (List Int)),σ=[v,some (.int wide)]/\Same H2 Hc/\Hc p=some (.lst (rs.map V.ref))/\Paired (fun r zs=>r ≠ p/\Hc r=some (.lst (zs.map V.int))) rs ls/\ls.length=i/\
   ∀ (j:Nat) zs,ls[j]?=some zs->zs.length<=2/\∀ x ∈ zs,0<=x/\x<(j:Int)) ?_ ?_ ?_
  ·exact ⟨none,[],[],rfl,qA2 hp _,qA1,.nil,rfl,fun j zs e=>by simp at e⟩
  ·refine fun i σ Hc hi hI_3=>opq fun G_3 hG_3=>?_;obtain ⟨v,rs,ls,rfl,sm,hpc,N,hl,wf⟩:=hI_3;refine hG_3 ?_;refine ⟨_,rfl,_,rfl,_,_,rfl,rfl,(by show 1<=sizeLine;decide),fun a1 ha1=>?_⟩
   refine ⟨_,rfl,_,rfl,_,_,rfl,rfl,.inr ⟨_,rfl,?_⟩⟩;refine ⟨a1,_,_,rfl,rfl,qA1,by split <;> decide,by split <;> decide,?_,fun a2 ha2=>?_⟩
   ·have:∀ b:Bool,[V.int (0+(i:Int) - wide)].length * (if b=true then (1:Int) else 0).toNat<=sizeLine:=by intro b;cases b <;> simp [sizeLine_eq]
    exact this _
   dsimp only;rw [qZJ];refine ⟨_,rfl,_,_,rfl,rfl,(by show 1<=sizeLine;decide),fun a3 ha3=>?_⟩
   refine ⟨_,rfl,_,rfl,_,_,rfl,rfl,(by show 0<wide;omega),_,_,rfl,rfl,.inr ⟨_,rfl,?_⟩⟩
   refine ⟨a3,_,_,rfl,rfl,qA1,by split <;> decide,by split <;> decide,?_,fun a4 ha4=>?_⟩
   ·have:∀ b:Bool,[V.int (0+(i:Int) - 1)].length * (if b=true then (1:Int) else 0).toNat<=sizeLine:=by intro b;cases b <;> simp [sizeLine_eq]
    exact this _
   dsimp only;rw [qZJ];have b1:∀ x ∈ (if decide (wide<=0+(i:Int))=true then [0+(i:Int) - wide] else []),0<=x/\x<(i:Int):=by
    intro x hx
    split at hx
    ·rename_i hd
     have:=of_decide_eq_true hd;rw [A3.mp hx];omega
    ·cases hx
   have b2:∀ x ∈ (if decide (0<(0+(i:Int)) % wide)=true then [0+(i:Int) - 1] else []),0<=x/\x<(i:Int):=by
    intro x hx
    split at hx
    ·rename_i hd
     have hd':=of_decide_eq_true hd;have:(i:Int) ≠ 0:=by
      intro e;rw [e] at hd';simp at hd'
     rw [A3.mp hx];omega
    ·cases hx
   have c1:(if decide (wide<=0+(i:Int))=true then [0+(i:Int) - wide] else []).length<=1:=by split <;> simp
   have c2:(if decide (0<(0+(i:Int)) % wide)=true then [0+(i:Int) - 1] else []).length<=1:=by split <;> simp
   generalize (if decide (wide<=0+(i:Int))=true then [0+(i:Int) - wide] else [])=z1 at b1 c1 ha3 ha4 ⊢
   generalize (if decide (0<(0+(i:Int)) % wide)=true then [0+(i:Int) - 1] else [])=z2 at b2 c2 ⊢
   have s2:=(qA2 ha3 (.lst [.int (0+(i:Int) - 1)])).trans (qA2 ha4 (.lst (z2.map V.int)));refine ⟨a2,a4,_,_,rfl,rfl,s2 _ _ qA1,qA1,Q8 (qAO (by rw [A0,A0];omega)),fun a5 ha5=>?_⟩
   have s1:=(qA2 ha1 (.lst [.int (0+(i:Int) - wide)])).trans (qA2 ha2 (.lst (z1.map V.int)));have s3:=(s1.trans s2).trans (qA2 ha5 (.lst (z1.map V.int++z2.map V.int)));have e5:z1.map V.int++z2.map V.int=(z1++z2).map V.int:=by rw [A9]
   rw [e5] at s3 ⊢;have g1:=s3 _ _ hpc;have n5:a5 ≠ p:=(qA5 ((s1.trans s2) _ _ hpc) ha5).symm;refine ⟨_,g1,qAO (by rw [A0,C7 N];omega),?_⟩
   rw [qDR];refine ⟨_,rs++[a5],ls++[z1++z2],rfl,qAB (sm.trans s3) hp,qA1,Z2 (qBP N fun r zs e=>⟨e.1,by rw [qA8 e.1];exact s3 _ _ e.2⟩) ⟨n5,by rw [qA8 n5];exact qA1⟩,by rw [A7,C3,hl],fun j zs e=>?_⟩
   rcases qP6 e with e | ⟨rfl,rfl⟩
   ·exact wf j zs e
   ·rw [hl];refine ⟨by rw [A7];omega,fun x hx=>?_⟩
    rcases D6.mp hx with hx | hx
    ·exact b1 x hx
    ·exact b2 x hx
  ·refine fun σ Hc hI_4=>opq fun G_4 hG_4=>?_;obtain ⟨v,rs,ls,rfl,sm,hpc,N,hl,wf⟩:=hI_4;refine hG_4 ?_;refine ⟨_,rfl,p,rfl,⟨_,SqL.of hpc⟩,fun p' hp'=>?_⟩;refine qFR (p:=p') (a:=p) (xs:=rs.map V.ref) (fun i σ Hd=>∃ (v:Option V) (rs':List Addr) (Ae:List (List Int)),σ=[v]/\Same Hc Hd/\Hd p'=some (.lst (rs'.map V.ref))/\NetL Hd rs' Ae/\Ae.length=i/\WFn Ae) ?_ ?_ ?_ ?_
   ·exact ⟨none,[],[],rfl,qA2 hp' _,qA1,.nil,rfl,WFn.nil⟩
   ·rintro i σ Hd hi ⟨v,rs',Ae,rfl,sm2,_⟩;exact SqL.of (sm2 _ _ hpc)
   ·refine fun i x σ Hd hx hI_6=>opq fun G_6 hG_6=>?_;obtain ⟨v,rs',Ae,rfl,sm2,hpd,N2,hl2,wf2⟩:=hI_6;obtain ⟨r,hr1,rfl⟩:=qH6 hx;obtain ⟨zs,hz,_,hr2⟩:=qBZ N hr1;obtain ⟨l2,m2⟩:=wf i zs hz;refine hG_6 ?_;refine ⟨_,rfl,r,zs,rfl,SqL.of (sm2 _ _ hr2),by omega,fun a ha=>?_⟩
    refine ⟨a,dedI zs,rfl,.inr (.inr qA1),V6 (qQ4 zs) (by omega),fun b ys hb hpm hs=>?_⟩
    refine ⟨b,_,rfl,.inl ⟨SqL.of qA1,fun r2 hr3=>?_⟩⟩;have s1:=((qA2 ha (SetO w a (dedI zs))).trans (qA2 hb (.lst (ys.map V.int)))).trans (qA2 hr3 (.tup (ys.map V.int)));have g1:=s1 _ _ hpd;have lrs:rs.length=m.toNat:=by rw [C7 N,hl]
    have hi:i<rs.length:=(A4.mp hr1).1;refine ⟨_,g1,qAO (by rw [A0,NetAt.len N2];omega),?_⟩
    rw [qDR];refine ⟨_,rs'++[r2],Ae++[ys],rfl,qAB (sm2.trans s1) hp',qA1,qEB (qCG (N2.same fun r' zs' e=>s1 _ _ e) qA1) g1,by rw [A7,C3,hl2],wf2.snoc ?_⟩
    rw [hl2];exact qPC hpm hs m2
   ·refine fun σ Hd hI_7=>opq fun G_7 hG_7=>?_;obtain ⟨v,rs',Ae,rfl,sm2,hpd,N2,hl2,wf2⟩:=hI_7;refine hG_7 ?_;refine ⟨p',_,rfl,.inl ⟨SqL.of hpd,fun a ha=>?_⟩⟩;have s1:=qA2 ha (.tup (rs'.map V.ref));refine q a Ae (t+1+1) ns2 _ (S2.same ((sm.trans sm2).trans s1)) (by omega) (by omega) (K12.trans (.of_same ((sm.trans sm2).trans s1))) ⟨rs',qA1,N2.same fun r ys e=>s1 _ _ e⟩ wf2 ?_
    rw [hl2,A0,C7 N,hl];omega
 refine hN4 _ _ (cut fun N5 hN5=>?_);refine ⟨_,rfl,rfl,_,rfl,?_⟩;refine ite2 (fun _=>?_) (fun _=>?_)
 ·refine ⟨_,rfl,_,rfl,d,c,t+1+1,ns2,m,rfl,S2,?_,hm0,hm1,fun a Ae t' ms H' a1 a2 a3 a4 a5 a6 a7 _=>?_⟩
  ·show t+1+1<=1000000000 - 1000;omega
  ·exact q a Ae t' ms H' a1 (by omega) (by omega) (K12.trans a4) a5 a6 a7
 refine hN5 _ _ (cut fun N6 hN6=>?_);refine ⟨_,rfl,rfl,_,rfl,?_⟩;refine ite2 (fun _=>?_) (fun _=>?_)
 ·refine ⟨_,rfl,_,_,rfl,rfl,⟨by decide,by decide⟩,?_⟩
  dsimp only;have hf0:0<=m / 2:=by omega
  have hf1:m / 2<=m:=by omega
  generalize m / 2=half at hf0 hf1;refine ⟨_,rfl,m,rfl,by omega,by omega,fun p hp=>?_⟩
  refine qFK (p:=p) (lo:=0) (n:=m.toNat) (fun i σ Hc=>∃ (v:Option V) (t':Int) (ms:List Int) (rs:List Addr) (Ae:List (List Int)),σ=[v,some (.ref d),some (.int half)]/\StAt Hc d c t' ms/\t+2<=t'/\t'<=t+2+9 * i/\Keep d c H2 Hc/\Hc p=some (.lst (rs.map V.ref))/\NetL Hc rs Ae/\Ae.length=i/\
   ∀ (j:Nat) zs,Ae[j]?=some zs->Rise (if (j:Int)<half then (j:Int) else (j:Int) - half) zs) ?_ ?_ ?_
  ·exact ⟨none,t+1+1,ns2,[],[],rfl,S2.new hp _,by omega,by omega,qC7 hp _,qA1,.nil,rfl,fun j zs e=>by simp at e⟩
  ·refine fun i σ Hc hi hI_8=>opq fun G_8 hG_8=>?_;obtain ⟨v,t',ms,rs,Ae,rfl,S3,b1,b2,k3,hpc,N,hl,wf⟩:=hI_8;refine hG_8 ?_;have npd:p ≠ d:=(qA5 S2.dict hp).symm;have npc:p ≠ c:=(qA5 S2.list hp).symm;have nx:∀ (kk:Int),kk=(if (i:Int)<half then (i:Int) else (i:Int) - half)->qKO [.ref d,.int kk] Hc (fun y H4=>∃ ys,H4 p=some (.lst ys)/\ys.length<sizeLine/\∃ (v:Option V) (t':Int) (ms:List Int) (rs:List Addr) (Ae:List (List Int)),[some (V.int (0+(i:Int))),some (.ref d),some (.int half)]=[v,some (.ref d),some (.int half)]/\StAt (upd H4 p (.lst (ys++[y]))) d c t' ms/\t+2<=t'/\t'<=t+2+9 * (i+1:Nat)/\Keep d c H2 (upd H4 p (.lst (ys++[y])))/\(upd H4 p (.lst (ys++[y]))) p=some (.lst (rs.map V.ref))/\NetL (upd H4 p (.lst (ys++[y]))) rs Ae/\Ae.length=i+1/\
     ∀ (j:Nat) zs,Ae[j]?=some zs->Rise (if (j:Int)<half then (j:Int) else (j:Int) - half) zs) E0:=by
    intro kk ek;refine ⟨d,c,t',ms,kk,rfl,S3,(by show t'<=1000000000 - 20;omega),by rw [ek];split <;> omega,by rw [ek];split <;> omega,fun r zs t'' ms2 H3 e1 e2 e3 e4 e5 e6=>?_⟩
    have g1:=e4 _ _ hpc npd npc;refine ⟨_,g1,qAO (by rw [A0,NetAt.len N];omega),?_⟩
    rw [qDR];refine ⟨_,t'',ms2,rs++[r],Ae++[zs],rfl,⟨by rw [qA8 (G3 npd)];exact e1.dict,by rw [qA8 (G3 npc)];exact e1.list,e1.ne,e1.len,e1.pos⟩,by omega,by omega,qI2 (k3.trans e4) hp,qA1,qEB (qCG (N.keep (fun r ys e=>S3.tup e) e4) e5) g1,by rw [A7,C3,hl],fun j ys e=>?_⟩
    rcases qP6 e with e | ⟨rfl,rfl⟩
    ·exact wf j ys e
    ·rw [hl,<- ek];exact e6
   refine ⟨_,rfl,_,rfl,_,rfl,_,_,rfl,rfl,_,rfl,?_⟩;refine ite2 (fun ck=>?_) (fun ck=>?_)
   ·have ck':0+(i:Int)<half:=of_decide_eq_true ck;exact ⟨_,rfl,nx _ (by rw [if_pos (by omega)];omega)⟩
   ·have ck':¬ 0+(i:Int)<half:=of_decide_eq_false (Z6.mpr ck);exact ⟨_,rfl,_,rfl,_,_,rfl,rfl,nx _ (by rw [if_neg (by omega)];omega)⟩
  ·refine fun σ Hc hI_9=>opq fun G_9 hG_9=>?_;obtain ⟨v,t',ms,rs,Ae,rfl,S3,b1,b2,k3,hpc,N,hl,wf⟩:=hI_9;refine hG_9 ?_;have lrs:rs.length=m.toNat:=by rw [C7 N,hl]
   refine ⟨_,rfl,p,rfl,⟨_,SqL.of hpc⟩,fun p' hp'=>?_⟩;refine qY9 (p:=p') (a:=p) (xs:=rs.map V.ref) (fun i σ Hd=>∃ (v1 v2:Option V) (rs':List Addr) (net':List (List Int)),σ=[v1,v2,some (.int half)]/\Same Hc Hd/\Hd p'=some (.lst (rs'.map V.ref))/\NetL Hd rs' net'/\net'.length=i/\WFn net') ?_ ?_ ?_ ?_
   ·exact ⟨none,none,[],[],rfl,qA2 hp' _,qA1,.nil,rfl,WFn.nil⟩
   ·rintro i σ Hd hi ⟨v1,v2,rs',net',rfl,sm2,_⟩;exact SqL.of (sm2 _ _ hpc)
   ·refine fun i x σ Hd T hx hI_11 hT=>opq fun G_11 hG_11=>?_;obtain ⟨v1,v2,rs',net',rfl,sm2,hpd,N2,hl2,wf2⟩:=hI_11;obtain ⟨r,hr1,rfl⟩:=qH6 hx;obtain ⟨zs,hz,hr2⟩:=qBZ N hr1;refine hG_11 ?_;have hi:i<rs.length:=(A4.mp hr1).1;have rz:=wf i zs hz;have sT:=qA2 hT (.tup [.int (i:Int),.ref r]);have hrT:=sT _ _ (sm2 _ _ hr2);have hpT:=sT _ _ hpd;have NT:=N2.same fun r' zs' e=>sT _ _ e;have smT:=sm2.trans sT;have gT:SqT K (upd Hd T (.tup [.int (i:Int),.ref r])) T [.int (i:Int),.ref r]:=SqT.of qA1;generalize upd Hd T (.tup [.int (i:Int),.ref r])=HT' at hrT hpT NT smT gT ⊢;refine ⟨T,_,rfl,gT,rfl,_,_,rfl,_,_,rfl,rfl,?_⟩;refine ⟨_,rfl,_,rfl,_,_,rfl,rfl,_,rfl,?_⟩;refine ite2 (fun ck=>?_) (fun ck=>?_)
    ·have ck':(i:Int)<half:=of_decide_eq_true ck;rw [if_pos ck'] at rz;refine ⟨_,rfl,_,hpT,qAO (by rw [A0,NetAt.len N2];omega),?_⟩
     rw [qDR];refine ⟨_,_,rs'++[r],net'++[zs],rfl,qAB smT hp',qA1,qEB (qCG NT hrT) hpT,by rw [A7,C3,hl2],wf2.snoc ?_⟩
     rw [hl2];exact rz
    ·have ck':¬ (i:Int)<half:=of_decide_eq_false (Z6.mpr ck);rw [if_neg ck'] at rz;have lz:zs.length<=i:=by
      have e:((i:Int) - half)=(((i:Int) - half).toNat:Nat):=by omega
      rw [e] at rz;have:=rz.len;omega
     refine ⟨_,rfl,r,rfl,⟨_,SqT.of hrT⟩,fun p2 hp2=>?_⟩;refine qHI (p:=p2) (a:=r) (xs:=zs.map V.int) (fun j σ He=>∃ (v:Option V),σ=[v,some (.int half)]/\Same HT' He/\He p2=some (.lst (((zs.take j).map (·+half)).map V.int))) ?_ ?_ ?_ ?_
     ·exact ⟨none,rfl,qA2 hp2 _,qA1⟩
     ·rintro j σ He hj ⟨v,rfl,sm3,_⟩;exact SqT.of (sm3 _ _ hrT)
     ·refine fun j x σ He hx2 hI_13=>opq fun G_13 hG_13=>?_;obtain ⟨v,rfl,sm3,hp3⟩:=hI_13;obtain ⟨z,hz2,rfl⟩:=qAQ hx2;refine hG_13 ?_;refine ⟨_,rfl,_,rfl,_,_,rfl,rfl,_,hp3,qAO (by rw [A0,A0,D1];omega),_,rfl,qAB sm3 hp2,?_⟩
      rw [qA1,C4,hz2,C0,A9,A9]
      rfl
     ·refine fun σ He hI_14=>opq fun G_14 hG_14=>?_;obtain ⟨v,rfl,sm3,hp3⟩:=hI_14;refine hG_14 ?_;rw [A0,G0 (B0 _)] at hp3;refine ⟨p2,_,rfl,.inl ⟨SqL.of hp3,fun r2 hr3=>?_⟩⟩;have s1:=qA2 hr3 (.tup ((zs.map (·+half)).map V.int));have s2:=sm3.trans s1;have g1:=s2 _ _ hpT;refine ⟨_,g1,qAO (by rw [A0,NetAt.len N2];omega),?_⟩
      rw [qDR];refine ⟨_,_,rs'++[r2],net'++[zs.map (·+half)],rfl,qAB (smT.trans s2) hp',qA1,qEB (qCG (NT.same fun r' zs' e=>s2 _ _ e) qA1) g1,by rw [A7,C3,hl2],wf2.snoc ?_⟩
      rw [hl2];have:=rz.shift hf0;rw [show (i:Int) - half+half=(i:Int) by omega] at this
      exact this
   ·refine fun σ Hd hI_15=>opq fun G_15 hG_15=>?_;obtain ⟨v1,v2,rs',net',rfl,sm2,hpd,N2,hl2,wf2⟩:=hI_15;refine hG_15 ?_;refine ⟨p',_,rfl,.inl ⟨SqL.of hpd,fun a ha=>?_⟩⟩;have s1:=qA2 ha (.tup (rs'.map V.ref));refine q a net' t' ms _ (S3.same (sm2.trans s1)) (by omega) (by omega) (K12.trans (k3.trans (.of_same (sm2.trans s1)))) ⟨rs',qA1,N2.same fun r ys e=>s1 _ _ e⟩ wf2 ?_
    rw [hl2,A0,C7 N,hl];omega
 refine hN6 _ _ ?_;refine ⟨_,rfl,m,rfl,by omega,by omega,fun p hp=>?_⟩
 refine qFK (p:=p) (lo:=0) (n:=m.toNat) (fun i σ Hc=>∃ (v:Option V) (t':Int) (ms:List Int) (rs:List Addr) (Ae:List (List Int)),σ=[v,some (.ref d)]/\StAt Hc d c t' ms/\t+2<=t'/\t'<=t+2+9 * i/\Keep d c H2 Hc/\Hc p=some (.lst (rs.map V.ref))/\NetL Hc rs Ae/\Ae.length=i/\WFn Ae) ?_ ?_ ?_
 ·exact ⟨none,t+1+1,ns2,[],[],rfl,S2.new hp _,by omega,by omega,qC7 hp _,qA1,.nil,rfl,WFn.nil⟩
 ·refine fun i σ Hc hi hI_16=>opq fun G_16 hG_16=>?_;obtain ⟨v,t',ms,rs,Ae,rfl,S3,b1,b2,k3,hpc,N,hl,wf⟩:=hI_16;refine hG_16 ?_;have npd:p ≠ d:=(qA5 S2.dict hp).symm;have npc:p ≠ c:=(qA5 S2.list hp).symm;refine ⟨_,rfl,_,rfl,d,c,t',ms,0+(i:Int),rfl,S3,(by show t'<=1000000000 - 20;omega),by omega,by omega,fun r zs t'' ms2 H3 e1 e2 e3 e4 e5 e6=>?_⟩
  have g1:=e4 _ _ hpc npd npc;refine ⟨_,g1,qAO (by rw [A0,NetAt.len N];omega),?_⟩
  rw [qDR];refine ⟨_,t'',ms2,rs++[r],Ae++[zs],rfl,⟨by rw [qA8 (G3 npd)];exact e1.dict,by rw [qA8 (G3 npc)];exact e1.list,e1.ne,e1.len,e1.pos⟩,by omega,by omega,qI2 (k3.trans e4) hp,qA1,qEB (qCG (N.keep (fun r ys e=>S3.tup e) e4) e5) g1,by rw [A7,C3,hl],wf.snoc ?_⟩
  rw [hl];exact e6.mono (by omega)
 ·refine fun σ Hc hI_17=>opq fun G_17 hG_17=>?_;obtain ⟨v,t',ms,rs,Ae,rfl,S3,b1,b2,k3,hpc,N,hl,wf⟩:=hI_17;refine hG_17 ?_;refine ⟨p,_,rfl,.inl ⟨SqL.of hpc,fun a ha=>?_⟩⟩;have s1:=qA2 ha (.tup (rs.map V.ref));exact q a Ae t' ms _ (S3.same s1) (by omega) (by omega) (K12.trans (k3.trans (.of_same s1))) ⟨rs,qA1,N.same fun r ys e=>s1 _ _ e⟩ wf (by rw [hl];omega)
end
section
variable {P:Program} {w:World} {K:PySem.W.Frag} {mg:Str->Option Value} {base:Heap} {f:Addr} {fd:FuncData}
theorem qV1:FnScope ["_law_found","_law_due"] ["_law_found","_law_due"] (qAD qIL):=⟨rfl,rfl,rfl,by decide +kernel,rfl,by decide +kernel,by decide +kernel⟩
def spS:Nat->Sp
 | 0=>fun _ _ _ _=>False
 | n+1=>qZ9 n
theorem ok_Lsame_step {n:Nat} {qF3:Addr} {qGM:FuncData} (F:Fun K "_law_same" "_law_same" qIL f fd) (qYT:FnOk P w K mg base CX0 n qF3 qGM ["_law_found","_law_due"] (spS n)) (qFX:Binds K qGM ["_law_found","_law_due"] []) (qL7:M9 K (.ref qF3)=true) (qFP:mg "_law_same" = some (.ref qF3))
  (qAC:mg "isinstance" = none) (qCE:mg "list" = none) (qAH:mg "tuple" = none) (qKI:mg "str" = none) (qFN:mg "int" = none) (qEP:mg "bool" = none) (qBO:mg "len" = none) (qD4:mg "all" = none) (qLV:mg "zip" = none):FnOk P w K mg base CX0 (n+1) f fd ["_law_found","_law_due"] (spS (n+1)):=by
 refine F.ok qV1 (fun vs H Q E h=>?_) (fun cdv A outer s H vs Q E hr h=>?_)
 ·obtain ⟨x,y,rfl,_⟩:=h
  rfl
 obtain ⟨x,y,rfl,hal,q⟩:=h;have qVX:Room n _:=hr;refine ⟨_,(qA4 (qCF (qS2 (qWU (pv 1))) (qA6 (qAS (qWS (qWU (pv 0))))) qAV) (qA4 (qCF (PW.pt (qM4 (qDE (qA9 qB2 rfl qAC qAN (qA0 (pv 1) (qA0 (qCM (v:=.ty "list") rfl qCE qH9 rfl) qA3)))) (qHG (qDE (qA9 qB2 rfl qAC qAN (qA0 (pv 1) (qA0 (qCM (v:=.ty "tuple") rfl qAH qB4 rfl) qA3))))))) (qA4 (qCF (qAU qQN (qA9 qB2 rfl qAC qAN (qA0 (pv 0) (qA0 (qCM (v:=.ty "list") rfl qCE qH9 rfl) qA3))) (qA9 qB2 rfl qAC qAN (qA0 (pv 1) (qA0 (qCM (v:=.ty "list") rfl qCE qH9 rfl) qA3))) (qB1 _)) (qA6 (qAS qFM)) qAV) (qA4 (qCF (PW.pt (qM4 (qAU qQN (qA9 qB2 rfl qAC qAN (qA0 (pv 0) (qA0 (qCM (v:=.ty "tuple") rfl qAH qB4 rfl) qA3))) (qA9 qB2 rfl qAC qAN (qA0 (pv 1) (qA0 (qCM (v:=.ty "tuple") rfl qAH qB4 rfl) qA3))) (qB1 _)) (qHG (qAU qQN (qA9 qAL rfl qBO qDL (qA0 (pv 0) qA3)) (qA9 qAL rfl qBO qDL (qA0 (pv 1) qA3)) (qB1 _))))) (qA6 (qAS qFM)) qAV) (qA6 (qAS (qA9 (qEI rfl) rfl qD4 qJF (qA0 (qEA rfl (lcs (own:=["_law_one","_law_other"]) (fv:=[]) (by kernel_rfl)) (qZN rfl qLV qaJ (qA0 (pv 0) (qA0 (pv 1) qA3))) (fun z1=>qSE (K:=K) (n:=2) rfl rfl (qC6 (qAA (i:=0) (qD2 (by kernel_rfl)) rfl (D0 rfl)) (qC6 (qAA (i:=1) (qD2 (by kernel_rfl)) rfl (D0 rfl)) qH0)) rfl rfl) (fun z1=>qBQ) (fun z1=>(qSI qYT qVX rfl qFP qL7 qFX .nil qZQ (qA0 (pv 0) (qA0 (pv 1) qA3))))) qA3)))))) qAV) (qA4 (qCF (qDE (qA9 qB2 rfl qAC qAN (qA0 (pv 1) (qA0 (qCM (v:=.ty "str") rfl qKI qX8 rfl) qA3)))) (qA6 (qAS (qPG (qA9 qB2 rfl qAC qAN (qA0 (pv 0) (qA0 (qCM (v:=.ty "str") rfl qKI qX8 rfl) qA3))) (qSG (qE0 qG9 (pv 0) (pv 1) (qB1 _)))))) qAV) (qA6 (qAS (qPG (qA9 qB2 rfl qAC qAN (qA0 (pv 0) (qA0 (qCM (v:=.ty "int") rfl qFN qQ7 rfl) qA3))) (qPG (qZP (qA9 qB2 rfl qAC qAN (qA0 (pv 0) (qA0 (qCM (v:=.ty "bool") rfl qEP qUC rfl) qA3)))) (qSG (qE0 qG9 (pv 0) (pv 1) (qB1 _)))))))))),?_⟩
 try dsimp only [Cx.nox,Cx.wish,cxOf]
 have leaf:x=y/\Leaf x\/∃ (m:Nat) (b:Bool) (a c:Addr) (xs ys:List V),n=m+1/\x=.ref a/\y=.ref c/\H a=some (seqO b xs)/\H c=some (seqO b ys)/\xs.length=ys.length/\xs.length<=100000/\∀ (i:Nat) (x' y':V),xs[i]?=some x'->ys[i]?=some y'->Alike H m x' y':=by
  cases n with
  | zero=>exact .inl hal
  | succ m=>
   rcases hal with h | ⟨b,a,c,xs,ys,h⟩
   ·exact .inl h
   ·exact .inr ⟨m,b,a,c,xs,ys,rfl,h⟩
 rcases leaf with ⟨rfl,hl⟩ | ⟨m,b,a,c,xs,ys,rfl,rfl,rfl,ha,hc,hlen,hbd,hel⟩
 ·refine ⟨_,rfl,_,rfl,?_⟩;rcases hl with rfl | ⟨i,rfl⟩ | ⟨y,rfl⟩
  ·exact ⟨_,rfl,q H (Same.refl H)⟩
  ·refine ⟨_,rfl,_,"list",_,false,rfl,TyOf.int i,qa4,_,rfl,?_⟩;refine ⟨_,rfl,_,"tuple",_,false,rfl,TyOf.int i,qa2,_,rfl,?_⟩;refine ⟨_,rfl,_,"str",_,false,rfl,TyOf.int i,qa3,_,rfl,?_⟩;refine ⟨_,rfl,_,"int",_,true,rfl,TyOf.int i,qa5,_,rfl,?_⟩;refine ⟨_,rfl,_,"bool",_,false,rfl,TyOf.int i,qa6,_,rfl,_,rfl,?_⟩;refine ⟨_,rfl,_,rfl,rfl,?_⟩;have e:decide (V.int i=V.int i)=true:=decide_eq_true rfl;have q':Q (.bl (decide (V.int i=V.int i))) H:=by rw [e];exact q H (Same.refl H)
   exact q'
  ·refine ⟨_,rfl,_,"list",_,false,rfl,TyOf.str y,qa1,_,rfl,?_⟩;refine ⟨_,rfl,_,"tuple",_,false,rfl,TyOf.str y,qa0,_,rfl,?_⟩;refine ⟨_,rfl,_,"str",_,true,rfl,TyOf.str y,qWY,_,rfl,?_⟩;refine ⟨_,rfl,_,"str",_,true,rfl,TyOf.str y,qWY,_,rfl,?_⟩;refine ⟨_,rfl,_,rfl,rfl,?_⟩;have e:decide (V.str y=V.str y)=true:=decide_eq_true rfl;have q':Q (.bl (decide (V.str y=V.str y))) H:=by rw [e];exact q H (Same.refl H)
   exact q'
 ·have step:∀ (i:Nat) (x' y':V) (Hi:Hp) (Q':VK) (E':XK),Same H Hi->xs[i]?=some x'->ys[i]?=some y'->(∀ H',Same Hi H'->Q' (.bl true) H')->spS (m+1) [x',y'] Hi Q' E':=fun i x' y' Hi Q' E' s e1 e2 k=>⟨x',y',rfl,(hel i x' y' e1 e2).same s,k⟩;have fin:∀ (H1:Hp),Same H H1->Q (.bl true) H1:=q;have el:(!decide (V.int ((xs.length:Nat):Int)=V.int ((ys.length:Nat):Int)))=false:=by rw [hlen];simp
  cases b
  ·refine ⟨_,rfl,_,rfl,_,rfl,_,"list",_,true,rfl,qIE hc,qK7 false,_,rfl,?_⟩;refine ⟨_,rfl,_,"list",_,true,rfl,qIE ha,qK7 false,_,rfl,_,"list",_,true,rfl,qIE hc,qK7 false,rfl,_,rfl,?_⟩;refine ⟨_,rfl,_,"tuple",_,false,rfl,qIE ha,qMR false,_,rfl,_,"tuple",_,false,rfl,qIE hc,qMR false,rfl,_,rfl,?_⟩;refine ⟨_,rfl,a,_,rfl,.inl (SqL.of ha),_,rfl,c,_,rfl,.inl (SqL.of hc),rfl,?_⟩;rw [el];refine ⟨_,rfl,_,rfl,_,rfl,false,a,c,rfl,⟨_,SqB.of ha⟩,⟨_,SqB.of hc⟩,fun p hp=>?_⟩;refine qWX (b:=false) (p:=p) (xs:=xs) (ys:=ys) hlen (fun i σ Hi=>∃ (v0 v1:Option V),σ=[v0,v1]/\Same H Hi/\Hi p=some (.lst ((C1 i true).map V.bl))) ⟨none,none,rfl,qA2 hp _,qA1⟩ (fun i σ Hi _ ⟨_,_,_,sm,_⟩=>⟨SqB.of (sm _ _ ha),SqB.of (sm _ _ hc)⟩) ?_ ?_
   ·refine fun i x' y' σ Hi T ex ey hI_1 hT=>opq fun G_1 hG_1=>?_;obtain ⟨v0,v1,rfl,sm,hpi⟩:=hI_1;refine hG_1 ?_;have li:i<xs.length:=(A4.mp ex).1;refine ⟨T,_,rfl,SqT.of qA1,rfl,_,_,rfl,_,_,rfl,rfl,?_⟩;have s1:=sm.trans (qA2 hT (.tup [x',y']));refine ⟨_,rfl,_,rfl,?_⟩;dsimp only [tNil,P4,d5];refine step i x' y' _ _ _ s1 ex ey fun H' sm'=>?_;refine ⟨_,(sm' _ _ ((qA2 hT _) _ _ hpi)),?_,_,_,rfl,(fun b u e=>by rw [qA8 (qA5 e hp)];exact (s1.trans sm') b u e),?_⟩
    ·rw [A0,O6,sizeLine_eq];omega
    ·rw [qA1,qUD]
   ·refine fun σ Hi hI_2=>opq fun G_2 hG_2=>?_;obtain ⟨v0,v1,rfl,sm,hpi⟩:=hI_2;refine hG_2 ?_;refine ⟨p,_,rfl,SqL.of hpi,?_⟩;rw [qUL];exact q Hi sm
  ·refine ⟨_,rfl,_,rfl,_,rfl,_,"list",_,false,rfl,qIE hc,qK7 true,_,rfl,?_⟩;refine ⟨_,rfl,_,"tuple",_,true,rfl,qIE hc,qMR true,_,rfl,?_⟩;refine ⟨_,rfl,_,"list",_,false,rfl,qIE ha,qK7 true,_,rfl,_,"list",_,false,rfl,qIE hc,qK7 true,rfl,_,rfl,?_⟩;refine ⟨_,rfl,_,"tuple",_,true,rfl,qIE ha,qMR true,_,rfl,_,"tuple",_,true,rfl,qIE hc,qMR true,rfl,_,rfl,?_⟩;refine ⟨_,rfl,a,_,rfl,.inr (SqT.of ha),_,rfl,c,_,rfl,.inr (SqT.of hc),rfl,?_⟩;rw [el];refine ⟨_,rfl,_,rfl,_,rfl,true,a,c,rfl,⟨_,SqB.of ha⟩,⟨_,SqB.of hc⟩,fun p hp=>?_⟩;refine qWX (b:=true) (p:=p) (xs:=xs) (ys:=ys) hlen (fun i σ Hi=>∃ (v0 v1:Option V),σ=[v0,v1]/\Same H Hi/\Hi p=some (.lst ((C1 i true).map V.bl))) ⟨none,none,rfl,qA2 hp _,qA1⟩ (fun i σ Hi _ ⟨_,_,_,sm,_⟩=>⟨SqB.of (sm _ _ ha),SqB.of (sm _ _ hc)⟩) ?_ ?_
   ·refine fun i x' y' σ Hi T ex ey hI_3 hT=>opq fun G_3 hG_3=>?_;obtain ⟨v0,v1,rfl,sm,hpi⟩:=hI_3;refine hG_3 ?_;have li:i<xs.length:=(A4.mp ex).1;refine ⟨T,_,rfl,SqT.of qA1,rfl,_,_,rfl,_,_,rfl,rfl,?_⟩;have s1:=sm.trans (qA2 hT (.tup [x',y']));refine ⟨_,rfl,_,rfl,?_⟩;dsimp only [tNil,P4,d5];refine step i x' y' _ _ _ s1 ex ey fun H' sm'=>?_;refine ⟨_,(sm' _ _ ((qA2 hT _) _ _ hpi)),?_,_,_,rfl,(fun b u e=>by rw [qA8 (qA5 e hp)];exact (s1.trans sm') b u e),?_⟩
    ·rw [A0,O6,sizeLine_eq];omega
    ·rw [qA1,qUD]
   ·refine fun σ Hi hI_4=>opq fun G_4 hG_4=>?_;obtain ⟨v0,v1,rfl,sm,hpi⟩:=hI_4;refine hG_4 ?_;refine ⟨p,_,rfl,SqL.of hpi,?_⟩;rw [qUL];exact q Hi sm
theorem ok_Lsame (F:Fun K "_law_same" "_law_same" qIL f fd) (qFX:Binds K fd ["_law_found","_law_due"] []) (qL7:M9 K (.ref f)=true) (qFP:mg "_law_same" = some (.ref f))
  (qAC:mg "isinstance" = none) (qCE:mg "list" = none) (qAH:mg "tuple" = none) (qKI:mg "str" = none) (qFN:mg "int" = none) (qEP:mg "bool" = none) (qBO:mg "len" = none) (qD4:mg "all" = none) (qLV:mg "zip" = none) (n:Nat):FnOk P w K mg base CX0 n f fd ["_law_found","_law_due"] (spS n):=by
 induction n with
 | zero=>exact ⟨fun _ _ _ _ h=>h.elim,fun _ _ _ _ _ _ _ _ _ _ _ _ _ h=>h.elim⟩
 | succ n ih=>exact ok_Lsame_step F ih qFX qL7 qFP qAC qCE qAH qKI qFN qEP qBO qD4 qLV
end
section
variable {P:Program} {w:World} {K:PySem.W.Frag} {mg:Str->Option Value} {base:Heap} {f:Addr} {fd:FuncData} {f_renumbered:Addr} {fd_renumbered:FuncData}
theorem sc_all_needed:FnScope ["net","asked","wanted","work","need"] ["net","asked"] (qAD qDQ):=⟨rfl,rfl,rfl,by decide +kernel,rfl,by decide +kernel,by decide +kernel⟩
theorem ok_all_needed (F:Fun K "all_needed" "all_needed" qDQ f fd) (qAJ:mg "range" = none) (qBO:mg "len" = none) (qAT:mg "sorted" = none):FnOk P w K mg base CX0 1 f fd ["net","asked"] qUW:=by
 refine F.ok sc_all_needed (fun vs H Q E h=>?_) (fun cdv A outer s H vs Q E hr h=>?_)
 ·obtain ⟨a,t,Ae,Ad,rfl,_⟩:=h
  rfl
 obtain ⟨a,t,Ae,Ad,rfl,hN,wf,n1000,hT,inA,q⟩:=h;have hu:=qJP hr;refine ⟨_,(qA4 (qAE (i:=2) sc_all_needed.nd rfl (D0 rfl) qFI) (qA4 (qBE C9 rfl (qDF (pv 1)) (qAA (i:=3) sc_all_needed.nd rfl (D0 rfl)) (qA6 (qE9 hu (pv 2) (pv 3) qFM rfl))) (qA4 (qBE C9 rfl (qSD rfl qAJ (qA0 (qAP qDG (qA9 qAL rfl qBO qDL (qA0 (pv 0) qA3)) qA7) (qA0 (qQK qJV qA7) (qA0 (qQK qJV qA7) qA3)))) (qAA (i:=3) sc_all_needed.nd rfl (D0 rfl)) (qA6 (qCF (qS2 (qSJ hu (pv 3) (pv 2))) (qA6 (qBE C9 rfl (qDF (qB0 qB3 (pv 0) (pv 3) (fun _ _=>rfl))) (qAA (i:=4) sc_all_needed.nd rfl (D0 rfl)) (qA6 (qE9 hu (pv 2) (pv 4) qFM rfl)))) qAV))) (qA6 (qAS (qA9 (qF7 rfl) rfl qAT qDK (qA0 (pv 2) qA3))))))),?_⟩
 try dsimp only [Cx.nox,Cx.wish,cxOf]
 obtain ⟨rs,hA,NL⟩:=id hN;have lrv:(((rs.map V.ref).length:Nat):Int)=(Ae.length:Int):=by rw [A0,C7 NL]
 refine fun dn hdn=>?_;have sn:=qA2 hdn (.dK []);refine ⟨_,rfl,t,rfl,⟨_,SqT.of (sn _ _ hT)⟩,qEY (a:=t) (xs:=Ad.map V.int) (fun j σ Hf=>∃ (Af:List (Key × V)) (ks:List Int) (v3 v4:Option V),σ=[some (.ref a),some (.ref t),some (.ref dn),v3,v4]/\Same H Hf/\Hf dn=some (.dK Af)/\KeysI Af ks/\∀ x,x ∈ ks ↔ x ∈ Ad.take j)
  ⟨[],[],none,none,rfl,sn,qA1,KeysI.nil,fun x=>by simp⟩ (fun j σ Hf _ hP=>by obtain ⟨_,_,_,_,_,sm,_⟩:=hP;exact SqT.of (sm _ _ hT)) ?_ ?_⟩
 ·refine fun j x σ Hf hx hI_1=>opq fun G_1 hG_1=>?_;obtain ⟨Af,ks,v3,v4,rfl,sm,hd,hk,mk⟩:=hI_1;obtain ⟨y,ey,rfl⟩:=qAQ hx;refine hG_1 ?_;have lk:ks.length<=Ae.length:=qIW hk.nd fun x hx=>inA x (M7 ((mk x).mp hx));refine ⟨_,rfl,_,rfl,dn,_,rfl,DPut.k (k:=J1 y) hd (qBD (by rw [hk.len];omega)),?_⟩
  refine ⟨_,_,_,_,rfl,qAB sm hdn,qA1,hk.put y _,fun x=>?_⟩;rw [mem_addI,mk,C4,ey,C0,D6,A3]
 refine fun σ Hf hI_2=>opq fun G_2 hG_2=>?_;obtain ⟨Af,ks,v3,v4,rfl,sm,hd,hk,mk⟩:=hI_2;refine hG_2 ?_;rw [A0,qAX rfl] at mk;refine ⟨_,rfl,a,_,rfl,.inr (SqT.of (sm _ _ hA)),_,_,rfl,rfl,_,rfl,_,rfl,_,_,rfl,⟨by rw [lrv];omega,by rw [lrv];omega,by decide,by decide⟩,qPW (lo:=(((rs.map V.ref).length:Nat):Int) - 1) (n:=((((rs.map V.ref).length:Nat):Int) - 1 - -1).toNat) (fun i σ Hc=>∃ (Af:List (Key × V)) (ks:List Int) (v3 v4:Option V),σ=[some (.ref a),some (.ref t),some (.ref dn),v3,v4]/\Same H Hc/\Hc dn=some (.dK Af)/\KeysI Af ks/\Fnd Ae Ad ks ((Ae.length:Int) - i))
  ⟨Af,ks,v3,v4,rfl,sm,hd,hk,⟨fun x hx=>⟨inA x ((mk x).mp hx),.ask ((mk x).mp hx)⟩,fun x hx=>(mk x).mpr hx,fun w zs h1 h2 h3=>?_⟩⟩ ?_ ?_⟩
 ·have:=(A4.mp h3).1;omega
 ·refine fun i σ Hc hi hI_3=>opq fun G_3 hG_3=>?_;obtain ⟨Af,ks,v3,v4,rfl,sm,hd,hk,fn⟩:=hI_3;refine hG_3 ?_;rw [lrv] at hi ⊢;have hi':i<Ae.length:=by omega
  obtain ⟨w0,ew⟩:∃ w0:Nat,(Ae.length:Int) - 1 - i=(w0:Int):=⟨Ae.length - 1 - i,by omega⟩
  have hw:w0<Ae.length:=by omega
  rw [ew];obtain ⟨r,h3,h4⟩:=NL.get (A1 hw);have hz:=A1 hw;have rz:=wf w0 _ hz;generalize Ae[w0]=zs at h4 hz rz;refine ⟨_,rfl,_,rfl,dn,_,rfl,DGet.k (k:=J1 (w0:Int)) hd,_,rfl,?_⟩;rw [hk.has];by_cases mw:(w0:Int) ∈ ks
  ·rw [decide_eq_true mw];refine ⟨_,rfl,_,rfl,a,_,_,_,rfl,rfl,SqT.of (sm _ _ hA),qBT (by omega) (by rw [F7,B1,h3];rfl),r,rfl,⟨_,SqT.of (sm _ _ h4)⟩,qEY (a:=r) (xs:=zs.map V.int) (fun k σ Hd=>∃ (Af:List (Key × V)) (ks:List Int) (v4:Option V),σ=[some (.ref a),some (.ref t),some (.ref dn),some (.int (w0:Int)),v4]/\Same H Hd/\Hd dn=some (.dK Af)/\KeysI Af ks/\Fnd Ae Ad ks ((w0:Int)+1)/\(w0:Int) ∈ ks/\∀ y ∈ zs.take k,y ∈ ks)
    ⟨Af,ks,v4,rfl,sm,hd,hk,by rw [show (w0:Int)+1=(Ae.length:Int) - i by omega];exact fn,mw,fun y hy=>by simp at hy⟩ (fun k σ Hd _ hP=>by obtain ⟨_,_,_,_,sm',_⟩:=hP;exact SqT.of (sm' _ _ h4)) ?_ ?_⟩
   ·refine fun k x σ Hd hx hI_4=>opq fun G_4 hG_4=>?_;obtain ⟨Af,ks,v4,rfl,sm',hd',hk',fn',mw',ty⟩:=hI_4;obtain ⟨y,ey,rfl⟩:=qAQ hx;refine hG_4 ?_;have my:=B4 ey;have yb:=rz.in_ y my;have lk:ks.length<=Ae.length:=qIW hk'.nd fun x hx=>(fn'.in_ x hx).1;refine ⟨_,rfl,_,rfl,dn,_,rfl,DPut.k (k:=J1 y) hd' (qBD (by rw [hk'.len];omega)),?_⟩
    refine ⟨_,_,_,rfl,qAB sm' hdn,qA1,hk'.put y _,⟨fun x hx=>?_,fun x hx=>mem_addI.mpr (.inl (fn'.ask x hx)),fun w1 ys h1 h2 h3 z hz'=>?_⟩,mem_addI.mpr (.inl mw'),fun z hz'=>?_⟩
    ·rcases mem_addI.mp hx with hx | hx
     ·exact fn'.in_ x hx
     ·rw [hx];exact ⟨⟨yb.1,by omega⟩,.need (fn'.in_ _ mw').2 (by rw [F7];exact hz) my⟩
    ·rcases mem_addI.mp h2 with h2 | h2
     ·exact mem_addI.mpr (.inl (fn'.clo w1 ys h1 h2 h3 z hz'))
     ·omega
    ·rw [C4,ey,C0,D6,A3] at hz';rcases hz' with hz' | hz'
     ·exact mem_addI.mpr (.inl (ty z hz'))
     ·exact mem_addI.mpr (.inr hz')
   ·refine fun σ Hd hI_5=>opq fun G_5 hG_5=>?_;obtain ⟨Af,ks,v4,rfl,sm',hd',hk',fn',mw',ty⟩:=hI_5;refine hG_5 ?_;rw [A0,qAX rfl] at ty;refine ⟨Af,ks,_,_,rfl,sm',hd',hk',fn'.in_,fn'.ask,fun w1 ys h1 h2 h9=>?_⟩;by_cases e:w1=w0
    ·subst e;rw [hz] at h9;cases h9;exact ty
    ·exact fn'.clo w1 ys (by omega) h2 h9
  ·rw [decide_eq_false mw];refine ⟨Af,ks,_,_,rfl,sm,hd,hk,fn.in_,fn.ask,fun w1 ys h1 h2 h3=>?_⟩;by_cases e:w1=w0
   ·subst e;exact absurd h2 mw
   ·exact fn.clo w1 ys (by omega) h2 h3
 ·refine fun σ Hc hI_6=>opq fun G_6 hG_6=>?_;obtain ⟨Af,ks,v3,v4,rfl,sm,hd,hk,fn⟩:=hI_6;refine hG_6 ?_;rw [lrv,show ((Ae.length:Int) - (((Ae.length:Int) - 1 - -1).toNat:Nat))=0 by omega] at fn
  refine ⟨_,rfl,dn,ks,rfl,.inr (.inr ⟨Af,hd,hk.keys⟩),V6 (qIW hk.nd fun x hx=>(fn.in_ x hx).1) (by omega),fun l zs hl hp hs=>?_⟩
  have s1:=qA2 hl (.lst (zs.map V.int));refine q l zs _ (sm.trans s1) (sm.free hl) qA1 ⟨⟨qHH hs (hp.nodup_iff.mpr hk.nd),fun x hx=>(fn.in_ x (hp.mem_iff.mp hx)).1⟩,fun x=>?_⟩;rw [hp.mem_iff];exact fn.all wf x
end
section
variable {P:Program} {w:World} {K:PySem.W.Frag} {mg:Str->Option Value} {base:Heap} {f:Addr} {fd:FuncData}
structure Fnd2 (Ae:List (List Int)) (Ad ks:List Int) (j:Int):Prop where
 in_:∀ x ∈ ks,(0<=x/\x<(Ae.length:Int))/\Nd Ae Ad x
 ask:∀ x ∈ Ad,j<=x->x ∈ ks
 clo:∀ (w:Nat) zs,j<=(w:Int)->(w:Int) ∈ ks->Ae[w]?=some zs->∀ y ∈ zs,y ∈ ks
theorem repF:∀ n:Nat,(C1 n [V.bl false]).flatten=(C1 n false).map V.bl
 | 0=>rfl
 | n+1=>by rw [I0,I0,E9,repF n];rfl
structure Bls (n:Nat) (ks:List Int) (bs:List Bool):Prop where
 len:bs.length=n
 at_:∀ x:Nat,x<n->bs[x]?=some (decide ((x:Int) ∈ ks))
theorem Bls.set {n:Nat} {ks:List Int} {bs:List Bool} (h:Bls n ks bs) {x:Int} (h0:0<=x) (h1:x<n):Bls n (addI ks x) (bs.set x.toNat true):=by
 refine ⟨by rw [d3];exact h.len,fun y hy=>?_⟩
 by_cases e:(y:Int)=x
 ·have e2:x.toNat=y:=by omega
  rw [e2,V4 (by rw [h.len];exact hy),decide_eq_true (mem_addI.mpr (.inr e))]
 ·rw [W9 (by omega),h.at_ y hy]
  congr 1;exact decide_eq_decide.mpr ⟨fun z=>mem_addI.mpr (.inl z),fun z=>(mem_addI.mp z).resolve_right e⟩
theorem qX2 {bs:List Bool} {i:Nat} {b:Bool} (h:bs[i]?=some b):(bs.map V.bl)[i]?=some (.bl b):=by rw [B1,h];rfl
theorem sc_Lneeded:FnScope ["_law_net_here","_law_asked","_law_found","_law_work","_law_need"] ["_law_net_here","_law_asked"] (qAD qG5):=⟨rfl,rfl,rfl,by decide +kernel,rfl,by decide +kernel,by decide +kernel⟩
theorem ok_Lneeded (F:Fun K "_law_needed" "_law_needed" qG5 f fd) (qBO:mg "len" = none) (qAJ:mg "range" = none):FnOk P w K mg base CX0 1 f fd ["_law_net_here","_law_asked"] qKP:=by
 refine F.ok sc_Lneeded (fun vs H Q E h=>?_) (fun cdv A outer s H vs Q E hr h=>?_)
 ·obtain ⟨a,t,Ae,Ad,rfl,_⟩:=h
  rfl
 obtain ⟨a,t,Ae,Ad,rfl,hN,wf,n1000,⟨hT,rA⟩,q⟩:=h;refine ⟨_,(qA4 (qAE (i:=2) sc_Lneeded.nd rfl (b9 rfl) (qAP qMA (qBH (qA0 qFM qA3)) (qA9 qAL rfl qBO qDL (qA0 (pv 0) qA3)))) (qA4 (qBE C9 rfl (qSD rfl qAJ (qA0 (qAP qDG (qA9 qAL rfl qBO qDL (qA0 (pv 0) qA3)) qA7) (qA0 (qQK qJV qA7) (qA0 (qQK qJV qA7) qA3)))) (qAA (i:=3) sc_Lneeded.nd rfl (D0 rfl)) (qA4 (qO3 (qCF (qAU qMC (pv 3) (pv 1) (by with_unfolding_all rfl)) (qA6 (qM5 qFM (qSF (pv 2) (pv 3) qHV))) qAV)) (qA6 (qCF (qDE (qB0 qEF (pv 2) (pv 3) (fun _ _=>rfl))) (qA6 (qBE C9 rfl (qDF (qB0 qB3 (pv 0) (pv 3) (fun _ _=>rfl))) (qAA (i:=4) sc_Lneeded.nd rfl (D0 rfl)) (qA6 (qM5 qFM (qSF (pv 2) (pv 4) qHV))))) qAV)))) (qA6 (qAS (qEA rfl (lcs (own:=["_law_work"]) (fv:=[2]) (by kernel_rfl)) (qBW rfl qAJ (qA0 (qA9 qAL rfl qBO qDL (qA0 (pv 0) qA3)) qA3)) (fun z1=>qAA (i:=0) (qD2 (by kernel_rfl)) rfl (D0 rfl)) (fun z1=>(qIO (qDE (qB0 (qL9 (K:=K) rfl) (pv 1) (pv 0) (fun _ _=>rfl))))) (fun z1=>(pv 0))))))),?_⟩
 try dsimp only [Cx.nox,Cx.wish,cxOf]
 obtain ⟨rs,hA,NL⟩:=id hN;have lrv:(((rs.map V.ref).length:Nat):Int)=(Ae.length:Int):=by rw [A0,C7 NL]
 refine ⟨(by show 1<=sizeLine;decide),fun p0 hp0=>?_⟩
 have s0:=qA2 hp0 (.lst [.bl false]);refine ⟨_,rfl,a,_,rfl,.inr (SqT.of (s0 _ _ hA)),p0,_,_,rfl,rfl,qA1,by rw [lrv];omega,by rw [lrv];omega,?_,fun fo hfo=>?_⟩
 ·rw [lrv,sizeLine_eq];simp;omega
 have ffo:H fo=none:=s0.free hfo;have s1:=s0.trans (qA2 hfo (.lst (C1 ((((rs.map V.ref).length:Nat):Int)).toNat [V.bl false]).flatten));have gfo:(upd (upd H p0 (.lst [.bl false])) fo (.lst (C1 ((((rs.map V.ref).length:Nat):Int)).toNat [V.bl false]).flatten)) fo=some (.lst ((C1 Ae.length false).map V.bl)):=by
  rw [qA1,repF,lrv,F7]
 generalize upd (upd H p0 (.lst [.bl false])) fo (.lst (C1 ((((rs.map V.ref).length:Nat):Int)).toNat [V.bl false]).flatten)=H1 at s1 gfo;refine ⟨_,rfl,a,_,rfl,.inr (SqT.of (s1 _ _ hA)),_,_,rfl,rfl,_,rfl,_,rfl,_,_,rfl,⟨by rw [lrv];omega,by rw [lrv];omega,by decide,by decide⟩,qPW (lo:=(((rs.map V.ref).length:Nat):Int) - 1) (n:=((((rs.map V.ref).length:Nat):Int) - 1 - -1).toNat) (fun i σ Hc=>∃ (bs:List Bool) (ks:List Int) (v3 v4:Option V),σ=[some (.ref a),some (.ref t),some (.ref fo),v3,v4]/\Same H Hc/\Hc fo=some (.lst (bs.map V.bl))/\Bls Ae.length ks bs/\Fnd2 Ae Ad ks ((Ae.length:Int) - i))
  ⟨_,[],none,none,rfl,s1,gfo,⟨by simp,fun x hx=>by simp [hx]⟩,⟨fun x hx=>(nomatch hx),fun x hx hl=>?_,fun w zs h1 h2=>(nomatch h2)⟩⟩ ?_ ?_⟩
 ·have:=(rA.in_ x hx).2;omega
 ·refine fun i σ Hc hi hI_1=>opq fun G_1 hG_1=>?_;obtain ⟨bs,ks,v3,v4,rfl,sm,hf,B,fn⟩:=hI_1;refine hG_1 ?_;rw [lrv] at hi ⊢;obtain ⟨w0,ew⟩:∃ w0:Nat,(Ae.length:Int) - 1 - i=(w0:Int):=⟨Ae.length - 1 - i,by omega⟩
  have hw:w0<Ae.length:=by omega
  rw [ew];obtain ⟨r,h3,h4⟩:=NL.get (A1 hw);have hz:=A1 hw;have rz:=wf w0 _ hz;generalize Ae[w0]=zs at h4 hz rz;have ix:∀ {bs:List Bool} {ks:List Int} {x:Int},Bls Ae.length ks bs->0<=x->x<(Ae.length:Int)->ixN (bs.map V.bl).length x=some x.toNat:=fun {bs ks x} B h0 h1=>by
   have:=qOI (xs:=bs.map V.bl) (j:=x.toNat) (by rw [A0,B.len];omega)
   rw [show ((x.toNat:Nat):Int)=x by omega] at this
   exact this
  -- Ad
  refine ⟨fun σ Hc=>∃ (bs:List Bool) (ks:List Int),σ=[some (.ref a),some (.ref t),some (.ref fo),some (.int (w0:Int)),v4]/\Same H Hc/\Hc fo=some (.lst (bs.map V.bl))/\Bls Ae.length ks bs/\(∀ x ∈ ks,(0<=x/\x<(Ae.length:Int))/\Nd Ae Ad x)/\(∀ x ∈ Ad,(w0:Int)<=x->x ∈ ks)/\(∀ (w:Nat) zs,(w0:Int)+1<=(w:Int)->(w:Int) ∈ ks->Ae[w]?=some zs->∀ y ∈ zs,y ∈ ks),?_,?_⟩
  ·refine ⟨_,rfl,_,rfl,t,_,rfl,.inr (SqT.of (sm _ _ hT)),rfl,qF0 Ad,_,rfl,?_⟩;rw [qJ7];by_cases c:(w0:Int) ∈ Ad
   ·rw [decide_eq_true c];refine ⟨_,rfl,_,rfl,fo,_,_,w0,rfl,rfl,hf,?_,?_⟩
    ·have:=ix B (x:=(w0:Int)) (by omega) (by omega)
     rw [F7] at this;exact this
    ·have st:=B.set (x:=(w0:Int)) (by omega) (by omega)
     rw [F7] at st;refine ⟨_,addI ks (w0:Int),rfl,qAB sm ffo,by rw [qA1,u9],st,fun x hx=>?_,fun x hx hl=>?_,fun w1 ys h1 h2 h9 y hy=>?_⟩
     ·rcases mem_addI.mp hx with hx | hx
      ·exact fn.in_ x hx
      ·rw [hx];exact ⟨⟨by omega,by omega⟩,.ask c⟩
     ·by_cases e:x=(w0:Int)
      ·exact mem_addI.mpr (.inr e)
      ·exact mem_addI.mpr (.inl (fn.ask x hx (by omega)))
     ·rcases mem_addI.mp h2 with h2 | h2
      ·exact mem_addI.mpr (.inl (fn.clo w1 ys (by omega) h2 h9 y hy))
      ·omega
   ·rw [decide_eq_false c];refine ⟨bs,ks,rfl,sm,hf,B,fn.in_,fun x hx hl=>?_,fun w1 ys h1 h2 h9=>fn.clo w1 ys (by omega) h2 h9⟩
    by_cases e:x=(w0:Int)
    ·rw [e] at hx;exact absurd hx c
    ·exact fn.ask x hx (by omega)
  refine fun σ Hc hI_2=>opq fun G_2 hG_2=>?_;obtain ⟨bs,ks,rfl,sm,hf,B,f1,f2,f3⟩:=hI_2;refine hG_2 ?_;refine ⟨_,rfl,_,rfl,fo,_,_,_,rfl,rfl,SqL.of hf,qBT (by omega) (by rw [F7];exact qX2 (B.at_ w0 hw)),_,rfl,?_⟩
  by_cases c:(w0:Int) ∈ ks
  ·rw [decide_eq_true c];refine ⟨_,rfl,_,rfl,a,_,_,_,rfl,rfl,SqT.of (sm _ _ hA),qBT (by omega) (by rw [F7,B1,h3];rfl),r,rfl,⟨_,SqT.of (sm _ _ h4)⟩,qEY (a:=r) (xs:=zs.map V.int) (fun k σ Hd=>∃ (bs:List Bool) (ks:List Int) (v4:Option V),σ=[some (.ref a),some (.ref t),some (.ref fo),some (.int (w0:Int)),v4]/\Same H Hd/\Hd fo=some (.lst (bs.map V.bl))/\Bls Ae.length ks bs/\(∀ x ∈ ks,(0<=x/\x<(Ae.length:Int))/\Nd Ae Ad x)/\(∀ x ∈ Ad,(w0:Int)<=x->x ∈ ks)/\(∀ (w:Nat) zs,(w0:Int)+1<=(w:Int)->(w:Int) ∈ ks->Ae[w]?=some zs->∀ y ∈ zs,y ∈ ks)/\(w0:Int) ∈ ks/\∀ y ∈ zs.take k,y ∈ ks)
    ⟨bs,ks,v4,rfl,sm,hf,B,f1,f2,f3,c,fun y hy=>by simp at hy⟩ (fun k σ Hd _ hP=>by obtain ⟨_,_,_,_,sd,_⟩:=hP;exact SqT.of (sd _ _ h4)) ?_ ?_⟩
   ·refine fun k x σ Hd hx hI_3=>opq fun G_3 hG_3=>?_;obtain ⟨bs,ks,v4,rfl,sd,hfd,B,f1,f2,f3,c,ty⟩:=hI_3;obtain ⟨y,ey,rfl⟩:=qAQ hx;refine hG_3 ?_;have my:=B4 ey;have yb:=rz.in_ y my;refine ⟨_,rfl,_,rfl,fo,_,_,y.toNat,rfl,rfl,hfd,ix B yb.1 (by omega),?_⟩
    refine ⟨_,addI ks y,_,rfl,qAB sd ffo,by rw [qA1,u9],B.set yb.1 (by omega),fun x hx=>?_,fun x hx hl=>mem_addI.mpr (.inl (f2 x hx hl)),fun w1 ys h1 h2 h9 z hz'=>?_,mem_addI.mpr (.inl c),fun z hz'=>?_⟩
    ·rcases mem_addI.mp hx with hx | hx
     ·exact f1 x hx
     ·rw [hx];exact ⟨⟨yb.1,by omega⟩,.need (f1 _ c).2 (by rw [F7];exact hz) my⟩
    ·rcases mem_addI.mp h2 with h2 | h2
     ·exact mem_addI.mpr (.inl (f3 w1 ys h1 h2 h9 z hz'))
     ·omega
    ·rw [C4,ey,C0,D6,A3] at hz';rcases hz' with hz' | hz'
     ·exact mem_addI.mpr (.inl (ty z hz'))
     ·exact mem_addI.mpr (.inr hz')
   ·refine fun σ Hd hI_4=>opq fun G_4 hG_4=>?_;obtain ⟨bs,ks,v4,rfl,sd,hfd,B,f1,f2,f3,c,ty⟩:=hI_4;refine hG_4 ?_;rw [A0,qAX rfl] at ty;refine ⟨bs,ks,_,_,rfl,sd,hfd,B,f1,fun x hx hl=>f2 x hx (by omega),fun w1 ys h1 h2 h9=>?_⟩
    by_cases e:w1=w0
    ·subst e;rw [hz] at h9;cases h9;exact ty
    ·exact f3 w1 ys (by omega) h2 h9
  ·rw [decide_eq_false c];refine ⟨bs,ks,_,_,rfl,sm,hf,B,f1,fun x hx hl=>f2 x hx (by omega),fun w1 ys h1 h2 h9=>?_⟩
   by_cases e:w1=w0
   ·subst e;exact absurd h2 c
   ·exact f3 w1 ys (by omega) h2 h9
 ·refine fun σ Hc hI_5=>opq fun G_5 hG_5=>?_;obtain ⟨bs,ks,v3,v4,rfl,sm,hf,B,fn⟩:=hI_5;refine hG_5 ?_;rw [lrv,show ((Ae.length:Int) - (((Ae.length:Int) - 1 - -1).toNat:Nat))=0 by omega] at fn
  have all:=Fnd.all wf (⟨fn.in_,fun x hx=>fn.ask x hx (rA.in_ x hx).1,fn.clo⟩:Fnd Ae Ad ks 0);have lrn:((((rs.map V.ref).length:Nat):Int)).toNat=Ae.length:=by rw [lrv];omega
  refine ⟨_,rfl,a,_,rfl,.inr (SqT.of (sm _ _ hA)),_,rfl,by rw [lrv];omega,by rw [lrv];omega,fun p hp=>?_⟩
  refine qFK (p:=p) (lo:=0) (n:=((((rs.map V.ref).length:Nat):Int)).toNat) (fun i σ Hd=>∃ (v:Option V),σ=[v,some (.ref fo)]/\Same Hc Hd/\Hd p=some (.lst ((((qDD 0 Ae.length).take i).filter fun x=>decide (x ∈ ks)).map V.int))) ?_ ?_ ?_
  ·exact ⟨none,rfl,qA2 hp _,qA1⟩
  ·refine fun i σ Hd hi hI_6=>opq fun G_6 hG_6=>?_;obtain ⟨v,rfl,sd,hpd⟩:=hI_6;refine hG_6 ?_;rw [lrn] at hi;have lk:=qF1 (p:=fun x=>decide (x ∈ ks)) (l:=qDD 0 Ae.length) (i:=i);refine ⟨_,rfl,_,rfl,fo,_,_,_,rfl,rfl,SqL.of (sd _ _ hf),qBT (by omega) (by rw [show (0+(i:Int)).toNat=i by omega];exact qX2 (B.at_ i hi)),_,rfl,?_⟩
   rw [qDI (qO1 (by omega)),j7]
   by_cases c:(i:Int) ∈ ks
   ·rw [decide_eq_true c];refine ⟨_,rfl,_,hpd,qAO (by rw [A0];omega),_,rfl,qAB sd hp,?_⟩
    rw [qA1,if_pos rfl,A9]
    rfl
   ·rw [decide_eq_false c];refine ⟨_,rfl,sd,?_⟩;simpa using hpd
  ·refine fun σ Hd hI_7=>opq fun G_7 hG_7=>?_;obtain ⟨v,rfl,sd,hpd⟩:=hI_7;refine hG_7 ?_;rw [qAX (by rw [qQJ,lrn];omega)] at hpd
   refine q p _ Hd (sm.trans sd) (sm.free hp) hpd ⟨⟨(qIM _ _).filter _,fun x hx=>mem_rangeI.mp (G6.mp hx).1⟩,fun x=>?_⟩;rw [G6,mem_rangeI,decide_eq_true_eq,<- all x];exact ⟨fun z=>z.2,fun z=>⟨(fn.in_ x z).1,z⟩⟩
end
section
variable {P:Program} {w:World} {K:PySem.W.Frag} {mg:Str->Option Value} {base:Heap} {f:Addr} {fd:FuncData} {qDU qBI:Addr} {qGL qC1:FuncData}
theorem sc_use_counts:FnScope ["net","works","counts","work","need"] ["net","works"] (qAD qDP):=⟨rfl,rfl,rfl,by decide +kernel,rfl,by decide +kernel,by decide +kernel⟩
theorem ok_use_counts (F:Fun K "use_counts" "use_counts" qDP f fd) (qBO:mg "len" = none):FnOk P w K mg base CX0 1 f fd ["net","works"] qZB:=by
 refine F.ok sc_use_counts (fun vs H Q E h=>?_) (fun cdv A outer s H vs Q E hr h=>?_)
 ·obtain ⟨a,lw,Ae,ws,rfl,_⟩:=h
  rfl
 obtain ⟨a,lw,Ae,ws,rfl,hN,wf,n1000,hlw,wb,q⟩:=h;refine ⟨_,(qA4 (qAE (i:=2) sc_use_counts.nd rfl (D0 rfl) (qAP qMA (qBH (qA0 qA7 qA3)) (qA9 qAL rfl qBO qDL (qA0 (pv 0) qA3)))) (qA4 (qBE C9 rfl (qBR (pv 1)) (qAA (i:=3) sc_use_counts.nd rfl (D0 rfl)) (qA6 (qBE C9 rfl (qDF (qB0 qB3 (pv 0) (pv 3) (fun _ _=>rfl))) (qAA (i:=4) sc_use_counts.nd rfl (D0 rfl)) (qA6 (qXQ (pv 2) (pv 4) qW2 qA7 qX0 qHV))))) (qA6 (qAS (pv 2))))),?_⟩
 try dsimp only [Cx.nox,Cx.wish,cxOf]
 obtain ⟨rs,hA,NL⟩:=id hN;have lrs:=C7 NL;have lrv:(((rs.map V.ref).length:Nat):Int)=(Ae.length:Int):=by rw [A0,C7 NL]
 refine ⟨(by show 1<=sizeLine;decide),fun p0 hp0=>?_⟩
 have s0:=qA2 hp0 (.lst [.int 0]);refine ⟨_,rfl,a,_,rfl,.inr (SqT.of (s0 _ _ hA)),p0,_,_,rfl,rfl,qA1,by rw [lrv];omega,by rw [lrv];omega,?_,fun co hco=>?_⟩
 ·rw [lrv,sizeLine_eq];simp;omega
 have fco:H co=none:=s0.free hco;have s1:=s0.trans (qA2 hco (.lst (C1 ((((rs.map V.ref).length:Nat):Int)).toNat [V.int 0]).flatten));have gco:(upd (upd H p0 (.lst [.int 0])) co (.lst (C1 ((((rs.map V.ref).length:Nat):Int)).toNat [V.int 0]).flatten)) co=some (.lst ((C1 Ae.length (0:Int)).map V.int)):=by
  rw [qA1,rep0,lrv,F7]
 generalize upd (upd H p0 (.lst [.int 0])) co (.lst (C1 ((((rs.map V.ref).length:Nat):Int)).toNat [V.int 0]).flatten)=H1 at s1 gco ⊢;refine ⟨_,rfl,lw,rfl,⟨_,SqL.of (s1 _ _ hlw)⟩,qCJ (a:=lw) (xs:=ws.map V.int) (fun i σ Hc=>∃ (cs:List Int) (v3 v4:Option V),σ=[some (.ref a),some (.ref lw),some (.ref co),v3,v4]/\Same H Hc/\Hc co=some (.lst (cs.map V.int))/\CntX Ae.length cs (nds Ae (ws.take i)))
  ⟨_,none,none,rfl,s1,gco,CntX.nil _⟩ (fun i σ Hc _ hP=>by obtain ⟨_,_,_,_,sm,_⟩:=hP;exact SqL.of (sm _ _ hlw)) ?_ ?_⟩
 ·refine fun i x σ Hc hx hI_1=>opq fun G_1 hG_1=>?_;obtain ⟨cs,v3,v4,rfl,sm,hcc,ct⟩:=hI_1;obtain ⟨z,ez,rfl⟩:=qAQ hx;refine hG_1 ?_;have zb:=wb z (B4 ez);have hi:z.toNat<Ae.length:=by omega
  obtain ⟨rs',r,h1,l1,h2,h3⟩:=hN.get (A1 hi);have rz:=wf z.toNat _ (A1 hi);have fs:=qVF (Ae:=Ae) ez;rw [qAF (A1 hi)] at fs;generalize Ae[z.toNat]=zs at h3 rz fs;refine ⟨_,rfl,_,rfl,a,_,_,_,rfl,rfl,SqT.of (sm _ _ h1),qBT zb.1 h2,r,rfl,⟨_,SqT.of (sm _ _ h3)⟩,qEY (a:=r) (xs:=zs.map V.int) (fun k σ Hd=>∃ (cs:List Int) (v4:Option V),σ=[some (.ref a),some (.ref lw),some (.ref co),some (.int z),v4]/\Same H Hd/\Hd co=some (.lst (cs.map V.int))/\CntX Ae.length cs (nds Ae (ws.take i)++zs.take k))
   ⟨cs,v4,rfl,sm,hcc,by simpa using ct⟩ (fun k σ Hd _ hP=>by obtain ⟨_,_,_,sm',_⟩:=hP;exact SqT.of (sm' _ _ h3)) ?_ ?_⟩
  ·refine fun k x σ Hd hx hI_2=>opq fun G_2 hG_2=>?_;obtain ⟨cs,v4,rfl,sm',hcd,ct'⟩:=hI_2;obtain ⟨y,ey,rfl⟩:=qAQ hx;refine hG_2 ?_;have yin:=rz.in_ y (B4 ey);have hc:=ct'.get yin.1 (by omega)
   generalize ((List.count y (nds Ae (ws.take i)++zs.take k):Nat):Int)=c at hc;refine ⟨_,rfl,_,rfl,co,_,_,_,rfl,rfl,SqL.of hcd,qBT yin.1 (by rw [B1,hc];rfl),_,_,rfl,rfl,co,_,_,y.toNat,rfl,rfl,hcd,?_,?_⟩
   ·have:=qOI (xs:=cs.map V.int) (j:=y.toNat) (by rw [A0,ct'.len];omega)
    rw [show ((y.toNat:Nat):Int)=y by omega] at this
    exact this
   ·refine ⟨cs.set y.toNat (c+1),_,rfl,qAB sm' fco,?_,?_⟩
    ·rw [qA1,u9]
    ·rw [C4,ey,C0,<- O7];exact ct'.bump yin.1 (by omega) hc
  ·refine fun σ Hd hI_3=>opq fun G_3 hG_3=>?_;obtain ⟨cs,v4,rfl,sm',hcd,ct'⟩:=hI_3;refine hG_3 ?_;rw [A0,qAX rfl,<- fs] at ct';exact ⟨cs,_,_,rfl,sm',hcd,ct'⟩
 ·refine fun σ Hc hI_4=>opq fun G_4 hG_4=>?_;obtain ⟨cs,v3,v4,rfl,sm,hcc,ct⟩:=hI_4;refine hG_4 ?_;rw [A0,qAX rfl] at ct;exact ⟨_,rfl,q co cs Hc sm fco hcc ct⟩
theorem sc_is_tree:FnScope ["net","work","needed","counts"] ["net","work"] (qAD qG4):=⟨rfl,rfl,rfl,by decide +kernel,rfl,by decide +kernel,by decide +kernel⟩
theorem ok_is_tree (F:Fun K "is_tree" "is_tree" qG4 f fd)
  (qAW:Clb P w K mg base 1 qBI qC1 "all_needed" ["net","asked"] qUW)
  (qDW:Clb P w K mg base 1 qDU qGL "use_counts" ["net","works"] qZB)
  (qD4:mg "all" = none):FnOk P w K mg base CX0 2 f fd ["net","work"] qP4:=by
 refine F.ok sc_is_tree (fun vs H Q E h=>?_) (fun cdv A outer s H vs Q E hr h=>?_)
 ·obtain ⟨a,Ae,work,rfl,_⟩:=h
  rfl
 obtain ⟨a,Ae,work,rfl,hN,wf,n1000,w0,w1,q⟩:=h;have qVV:Room 1 _:=hr;have qVU:Room 1 _:=hr;refine ⟨_,(qA4 (qAE (i:=2) sc_is_tree.nd rfl (D0 rfl) (qAZ qAW hr rfl (qA0 (pv 0) (qA0 (qC5 (qA0 (pv 1) qA3)) qA3)))) (qA4 (qAE (i:=3) sc_is_tree.nd rfl (b9 rfl) (qAZ qDW hr rfl (qA0 (pv 0) (qA0 (pv 2) qA3)))) (qA6 (qAS (qA9 (qEI rfl) rfl qD4 qJF (qA0 (qEA rfl (lcs (own:=["other"]) (fv:=[3,1]) (by kernel_rfl)) (qBR (pv 2)) (fun z1=>qAA (i:=0) (qD2 (by kernel_rfl)) rfl (D0 rfl)) (fun z1=>(qIO (qAU qQN (pv 0) (pv 2) (qB1 _)))) (fun z1=>(qE0 qG9 (qB0 (qL9 (K:=K) rfl) (pv 1) (pv 0) (fun _ _=>rfl)) qA7 (qB1 _)))) qA3)))))),?_⟩
 try dsimp only [Cx.nox,Cx.wish,cxOf]
 refine ⟨_,rfl,_,rfl,(by show 1<=sizeLine;decide),fun tp htp=>?_⟩
 have s1:=qA2 htp (.tup [.int work]);refine ⟨a,tp,Ae,[work],rfl,hN.same s1,wf,n1000,qA1,fun x hx=>by rw [A3.mp hx];exact ⟨w0,w1⟩,fun l zs H1 sm1 fl gl nd=>?_⟩
 have s2:=s1.trans sm1;refine ⟨_,rfl,_,rfl,a,l,Ae,zs,rfl,hN.same s2,wf,n1000,gl,nd.1.in_,fun co cs H2 sm2 fco gco ct=>?_⟩;have s3:=s2.trans sm2;refine ⟨_,rfl,l,rfl,⟨_,SqL.of (sm2 _ _ gl)⟩,fun p hp=>?_⟩;refine qFR (p:=p) (a:=l) (xs:=zs.map V.int) (fun i σ Hd=>∃ (v0:Option V),σ=[v0,some (.ref co),some (.int work)]/\Same H2 Hd/\Hd p=some (.lst ((((zs.take i).filter fun x=>decide (x ≠ work)).map fun x=>decide (V.int (cI Ae zs x)=V.int 1)).map V.bl))) ?_ ?_ ?_ ?_
 ·exact ⟨none,rfl,qA2 hp _,qA1⟩
 ·rintro i σ Hd hi ⟨v0,rfl,sd,_⟩;exact SqL.of (sd _ _ (sm2 _ _ gl))
 ·refine fun i x σ Hd hx hI_6=>opq fun G_6 hG_6=>?_;obtain ⟨v0,rfl,sd,hpd⟩:=hI_6;obtain ⟨y,ey,rfl⟩:=qAQ hx;refine hG_6 ?_;have yb:=nd.1.in_ y (B4 ey);have lz:=nd.1.len;have lk:=qF1 (p:=fun x=>decide (x ≠ work)) (l:=zs) (i:=i);have li:=(A4.mp ey).1;refine ⟨_,rfl,_,rfl,rfl,_,rfl,?_⟩;rw [qDI ey];by_cases e:y=work
  ·rw [decide_eq_true (show V.int y=V.int work by rw [e]),decide_eq_false (show ¬ y ≠ work from fun z=>z e)]
   refine ⟨_,rfl,sd,?_⟩;simpa using hpd
  ·rw [decide_eq_false (show ¬ V.int y=V.int work from fun z=>e (V.int.inj z)),decide_eq_true (show y ≠ work from e)];refine ⟨_,rfl,_,rfl,co,_,_,_,rfl,rfl,SqL.of (sd _ _ gco),qBT yb.1 (by rw [B1,ct.get yb.1 yb.2];rfl),rfl,_,hpd,qAO (by rw [A0,A0];omega),_,rfl,qAB sd hp,?_⟩
   rw [qA1,if_pos rfl,A9,A9]
   rfl
 ·refine fun σ Hd hI_7=>opq fun G_7 hG_7=>?_;obtain ⟨v0,rfl,sd,hpd⟩:=hI_7;refine hG_7 ?_;rw [A0,qAX rfl] at hpd;refine ⟨p,_,rfl,SqL.of hpd,?_⟩;rw [qUV];exact q zs Hd (s3.trans sd) nd
end
section
variable {P:Program} {w:World} {K:PySem.W.Frag} {mg:Str->Option Value} {base:Heap} {f:Addr} {fd:FuncData}
theorem sc_taken_by:FnScope ["net","wides","work","order","last_user","other","need","told","kept"] ["net","wides","work","order"] (qAD qFH):=⟨rfl,rfl,rfl,by decide +kernel,rfl,by decide +kernel,by decide +kernel⟩
theorem ok_taken_by (F:Fun K "taken_by" "taken_by" qFH f fd):FnOk P w K mg base CX0 1 f fd ["net","wides","work","order"] qIG:=by
 refine F.ok sc_taken_by (fun vs H Q E h=>?_) (fun cdv A outer s H vs Q E hr h=>?_)
 ·obtain ⟨a,t,lo,wk,Ae,ws,zs,rfl,_⟩:=h
  rfl
 obtain ⟨a,t,lo,wk,Ae,ws,zs,rfl,hN,wf,n400,⟨hT,lw⟩,hLo,TO,lz,q⟩:=h;have hu:=qJP hr;refine ⟨_,(qA4 (qAE (i:=4) sc_taken_by.nd rfl (D0 rfl) qFI) (qA4 (qBE C9 rfl (qBR (pv 3)) (qAA (i:=5) sc_taken_by.nd rfl (D0 rfl)) (qA6 (qBE C9 rfl (qDF (qB0 qB3 (pv 0) (pv 5) (fun _ _=>rfl))) (qAA (i:=6) sc_taken_by.nd rfl (D0 rfl)) (qA6 (qE9 hu (pv 4) (pv 6) (pv 5) rfl))))) (qA4 (qAE (i:=7) sc_taken_by.nd rfl (D0 rfl) (qBH qA3)) (qA4 (qAE (i:=8) sc_taken_by.nd rfl (D0 rfl) qA7) (qA4 (qBE C9 rfl (qBR (pv 3)) (qAA (i:=5) sc_taken_by.nd rfl (D0 rfl)) (qA4 (qWN (i:=8) sc_taken_by.nd rfl (D0 rfl) (qB0 qB3 (pv 1) (pv 5) (fun _ _=>rfl)) qX0) (qA4 (qCL (qJN E8 L7 L8 qCV (pv 7) (qA0 (pv 8) qA3))) (qA6 (qBE C9 rfl (qDF (qB0 qB3 (pv 0) (pv 5) (fun _ _=>rfl))) (qAA (i:=6) sc_taken_by.nd rfl (D0 rfl)) (qA6 (qCF (qAU qG9 (qD1 hu (pv 4) (pv 6) (fun _ _=>rfl)) (pv 5) (qB1 _)) (qA6 (qWN (i:=8) sc_taken_by.nd rfl (D0 rfl) (qB0 qB3 (pv 1) (pv 6) (fun _ _=>rfl)) qaC)) qAV))))))) (qA6 (qAS (pv 7)))))))),?_⟩
 try dsimp only [Cx.nox,Cx.wish,cxOf]
 obtain ⟨rs,hA,NL⟩:=id hN;refine cut fun N0 hN0=>?_;refine fun dn hdn=>?_;have sn:=qA2 hdn (.dK []);refine hN0 _ _ (cut fun N1 hN1=>?_);refine ⟨_,rfl,lo,rfl,⟨_,SqL.of (sn _ _ hLo)⟩,qCJ (a:=lo) (xs:=zs.map V.int) (fun i σ Hf=>∃ (Af:List (Key × V)) (v5 v6:Option V),σ=[some (.ref a),some (.ref t),some (.int wk),some (.ref lo),some (.ref dn),v5,v6,none,none]/\Same H Hf/\Hf dn=some (.dK Af)/\Af.length<=63 * i/\∀ y,valV Af (J1 y)=(qB8 Ae (zs.take i) y).map V.int)
  ⟨[],none,none,rfl,sn,qA1,D3 _,fun y=>by simp [qB8,valV]⟩ (fun i σ Hf _ hP=>by obtain ⟨_,_,_,_,sm,_⟩:=hP;exact SqL.of (sm _ _ hLo)) ?_ ?_⟩
 ·refine fun i x σ Hf hx hI_1=>opq fun G_1 hG_1=>?_;obtain ⟨Af,v5,v6,rfl,sm,hd,lk,hv⟩:=hI_1;obtain ⟨w0,ew,rfl⟩:=qAQ hx;refine hG_1 ?_;have hi:=(A4.mp ew).1;have wb:=TO.in_ w0 (B4 ew);have hw:w0.toNat<Ae.length:=by omega
  have hz:=A1 hw;obtain ⟨r,h3,h4⟩:=NL.get hz;have ln:=(wf w0.toNat _ hz).len;have en:=qAF hz;generalize Ae[w0.toNat]=ns at h4 hz ln en;refine ⟨_,rfl,_,rfl,a,_,_,_,rfl,rfl,SqT.of (sm _ _ hA),qBT wb.1 (by rw [B1,h3];rfl),r,rfl,⟨_,SqT.of (sm _ _ h4)⟩,qEY (a:=r) (xs:=ns.map V.int) (fun k σ Hd=>∃ (Af:List (Key × V)) (v6:Option V),σ=[some (.ref a),some (.ref t),some (.int wk),some (.ref lo),some (.ref dn),some (.int w0),v6,none,none]/\Same H Hd/\Hd dn=some (.dK Af)/\Af.length<=63 * i+k/\∀ y,valV Af (J1 y)=if y ∈ ns.take k then some (.int w0) else (qB8 Ae (zs.take i) y).map V.int)
   ⟨Af,v6,rfl,sm,hd,by omega,fun y=>by rw [hv y];simp⟩ (fun k σ Hd _ hP=>by obtain ⟨_,_,_,sm',_⟩:=hP;exact SqT.of (sm' _ _ h4)) ?_ ?_⟩
  ·refine fun k x σ Hd hx hI_2=>opq fun G_2 hG_2=>?_;obtain ⟨Af,v6,rfl,sm',hd',lk',hv'⟩:=hI_2;obtain ⟨y,ey,rfl⟩:=qAQ hx;refine hG_2 ?_;have hk:=(A4.mp ey).1;refine ⟨_,rfl,_,rfl,_,rfl,dn,_,rfl,DPut.k (k:=J1 y) hd' (qBD (by omega)),?_⟩
   refine ⟨_,_,rfl,qAB sm' hdn,qA1,G9 (qCN _ _ _) (by omega),fun x=>?_⟩
   rw [qKL,C4,ey,C0];by_cases e:x=y
   ·rw [e,if_pos rfl,if_pos (by simp)]
   ·rw [if_neg fun z=>e (Z0 z),hv' x];simp [e]
  ·refine fun σ Hd hI_3=>opq fun G_3 hG_3=>?_;obtain ⟨Af,v6,rfl,sm',hd',lk',hv'⟩:=hI_3;refine hG_3 ?_;rw [A0] at lk' hv';refine ⟨Af,_,_,rfl,sm',hd',by omega,fun y=>?_⟩
   rw [hv' y,qAX rfl,C4,ew,C0,qJ1,en];by_cases c:y ∈ ns
   ·rw [if_pos c,if_pos c]
    rfl
   ·rw [if_neg c,if_neg c]
 refine fun σ Hf hI_4=>opq fun G_4 hG_4=>?_;obtain ⟨Af,v5,v6,rfl,sm,hd,lk,hv⟩:=hI_4;refine hG_4 ?_;rw [A0] at lk hv;rw [qAX rfl] at hv;refine hN1 _ _ (cut fun N2 hN2=>?_);refine ⟨(by show 0<=sizeLine;decide),fun lt hlt=>?_⟩
 have flt:H lt=none:=sm.free hlt;have sp:=qA2 hlt (.lst []);have hd1:=sp _ _ hd;have s1:=sm.trans sp;have glt:(upd Hf lt (.lst [])) lt=some (.lst (([]:List Int).map V.int)):=qA1;generalize upd Hf lt (.lst [])=H1 at hd1 s1 glt;have ndl:dn ≠ lt:=qBS hd1 glt (by intro z;cases z)
 refine hN2 _ _ (cut fun N3 hN3=>?_);refine hN3 _ _ (cut fun N4 hN4=>?_);refine ⟨_,rfl,lo,rfl,⟨_,SqL.of (s1 _ _ hLo)⟩,qCJ (a:=lo) (xs:=zs.map V.int) (fun i σ Hg=>∃ (v5 v6:Option V) (kept:Int),σ=[some (.ref a),some (.ref t),some (.int wk),some (.ref lo),some (.ref dn),v5,v6,some (.ref lt),some (.int kept)]/\Same H Hg/\Hg dn=some (.dK Af)/\Hg lt=some (.lst (((F6 i).map fun p=>wdO ws ((zs[p]?).getD 0)+qDH Ae ws zs p).map V.int))/\(i<zs.length->kept=qDH Ae ws zs i))
  ⟨v5,v6,0,rfl,s1,hd1,glt,fun _=>(qMS Ae ws zs).symm⟩ (fun i σ Hg _ hP=>by obtain ⟨_,_,_,_,sg,_⟩:=hP;exact SqL.of (sg _ _ hLo)) ?_ ?_⟩
 ·refine fun i x σ Hg hx hI_5=>opq fun G_5 hG_5=>?_;obtain ⟨v5,v6,kept,rfl,sg,hdg,hlg,hk⟩:=hI_5;obtain ⟨w0,ew,rfl⟩:=qAQ hx;refine hG_5 ?_;have hi:=(A4.mp ew).1;have wb:=TO.in_ w0 (B4 ew);have hw:w0.toNat<Ae.length:=by omega
  have hz:=A1 hw;obtain ⟨r,h3,h4⟩:=NL.get hz;have ln:=(wf w0.toNat _ hz).len;have en:=qAF hz;have inz:=(wf w0.toNat _ hz).in_;generalize Ae[w0.toNat]=ns at h4 hz ln en inz;have hk':=hk hi;have wat:∀ x:Int,0<=x->x<(Ae.length:Int)->atI (ws.map V.int) x=some (.int (wdO ws x)):=by
   intro x x0 x1;have hx:x.toNat<ws.length:=by omega
   refine qBT x0 ?_;rw [B1];unfold wdO;rw [A1 hx]
   rfl
  refine cut fun N5 hN5=>?_;refine ⟨_,rfl,_,rfl,_,rfl,t,_,_,_,rfl,rfl,SqT.of (sg _ _ hT),wat w0 wb.1 wb.2,_,_,rfl,rfl,?_⟩;refine hN5 _ _ (cut fun N6 hN6=>?_);refine ⟨_,rfl,.inl ⟨rfl,_,SqL.of hlg⟩,_,rfl,lt,_,_,rfl,rfl,hlg,qBD (by simp;omega),?_⟩
  dsimp only;have e1:(((F6 i).map fun p=>wdO ws ((zs[p]?).getD 0)+qDH Ae ws zs p).map V.int)++[V.int (kept+wdO ws w0)]=((F6 (i+1)).map fun p=>wdO ws ((zs[p]?).getD 0)+qDH Ae ws zs p).map V.int:=by
   rw [A56,A9,A9,hk'];congr 1;simp [ew];omega
  rw [e1];have sg2:Same H (upd Hg lt (.lst (((F6 (i+1)).map fun p=>wdO ws ((zs[p]?).getD 0)+qDH Ae ws zs p).map V.int))):=qAB sg flt;have hdg2:(upd Hg lt (.lst (((F6 (i+1)).map fun p=>wdO ws ((zs[p]?).getD 0)+qDH Ae ws zs p).map V.int))) dn=some (.dK Af):=by rw [qA8 ndl];exact hdg
  have hlg2:(upd Hg lt (.lst (((F6 (i+1)).map fun p=>wdO ws ((zs[p]?).getD 0)+qDH Ae ws zs p).map V.int))) lt=some (.lst (((F6 (i+1)).map fun p=>wdO ws ((zs[p]?).getD 0)+qDH Ae ws zs p).map V.int)):=qA1;generalize upd Hg lt (.lst (((F6 (i+1)).map fun p=>wdO ws ((zs[p]?).getD 0)+qDH Ae ws zs p).map V.int))=H2 at sg2 hdg2 hlg2 ⊢;refine hN6 _ _ ?_;refine ⟨_,rfl,_,rfl,a,_,_,_,rfl,rfl,SqT.of (sg2 _ _ hA),qBT wb.1 (by rw [B1,h3];rfl),r,rfl,⟨_,SqT.of (sg2 _ _ h4)⟩,qEY (a:=r) (xs:=ns.map V.int) (fun k σ Hd=>∃ (v6:Option V),σ=[some (.ref a),some (.ref t),some (.int wk),some (.ref lo),some (.ref dn),some (.int w0),v6,some (.ref lt),some (.int (kept+wdO ws w0 - sumW ws ((ns.take k).filter fun y=>decide (qB8 Ae zs y=some w0))))]/\Hd=H2)
   ⟨v6,by simp [qE6],rfl⟩ (fun k σ Hd _ ⟨_,_,e⟩=>by rw [e];exact SqT.of (sg2 _ _ h4)) ?_ ?_⟩
  ·refine fun k x σ Hd hx hI_6=>opq fun G_6 hG_6=>?_;obtain ⟨v6,rfl,rfl⟩:=hI_6;obtain ⟨y,ey,rfl⟩:=qAQ hx;refine hG_6 ?_;have my':=B4 ey;have my:y ∈ nd Ae w0:=by rw [en];exact my'
   have yb:=inz y my';obtain ⟨v,ev⟩:∃ v,qB8 Ae zs y=some v:=by
    cases e:qB8 Ae zs y with
    | some v=>exact ⟨v,rfl⟩
    | none=>exact absurd my (lastOf_none.mp e w0 (B4 ew))
   have hg:=DGet.k (k:=J1 y) hdg2;rw [hv y,ev] at hg;rw [qDI ey,ev];refine ⟨_,rfl,_,rfl,dn,_,rfl,hg,_,rfl,rfl,_,rfl,?_⟩;by_cases c1:v=w0
   ·rw [decide_eq_true (show V.int v=V.int w0 by rw [c1]),decide_eq_true (show some v=some w0 by rw [c1])]
    refine ⟨_,rfl,_,rfl,_,rfl,t,_,_,_,rfl,rfl,SqT.of (sg2 _ _ hT),wat y yb.1 (by omega),_,_,rfl,rfl,?_⟩
    refine ⟨some (.int y),?_,rfl⟩;have e2:sumW ws ((ns.take k).filter (fun y=>decide (qB8 Ae zs y=some w0))++(if true=true then [y] else []))=sumW ws ((ns.take k).filter fun y=>decide (qB8 Ae zs y=some w0))+wdO ws y:=by
     rw [qHU,if_pos rfl,qAR,qE6];omega
    rw [e2];generalize sumW ws ((ns.take k).filter fun y=>decide (qB8 Ae zs y=some w0))=S;have e3:kept+wdO ws w0 - (S+wdO ws y)=kept+wdO ws w0 - S - wdO ws y:=by omega
    rw [e3]
    rfl
   ·rw [decide_eq_false (show ¬ V.int v=V.int w0 from fun z=>c1 (V.int.inj z)),decide_eq_false (show ¬ some v=some w0 from fun z=>c1 (C6 z))];exact ⟨some (.int y),by simp,rfl⟩
  ·refine fun σ Hd hI_7=>opq fun G_7 hG_7=>?_;obtain ⟨v6,rfl,rfl⟩:=hI_7;refine hG_7 ?_;rw [A0,qAX rfl];refine ⟨_,_,_,rfl,sg2,hdg2,hlg2,fun hl=>?_⟩;rw [qMT wf TO ew hl,hk',en]
 ·refine fun σ Hg hI_8=>opq fun G_8 hG_8=>?_;obtain ⟨v5,v6,kept,rfl,sg,hdg,hlg,_⟩:=hI_8;refine hG_8 ?_;rw [A0] at hlg;refine hN4 _ _ ⟨_,rfl,?_⟩;exact q lt Hg sg flt hlg
end
section
variable {P:Program} {w:World} {K:PySem.W.Frag} {mg:Str->Option Value} {base:Heap} {f:Addr} {fd:FuncData}
theorem sc_Ltaken:FnScope ["_law_net_here","_law_wides_here","_law_order","_law_found","_law_place","_law_one","_law_wanted","_law_other","_law_need"] ["_law_net_here","_law_wides_here","_law_order"] (qAD qHY):=⟨rfl,rfl,rfl,by decide +kernel,rfl,by decide +kernel,by decide +kernel⟩
theorem ok_Ltaken (F:Fun K "_law_taken" "_law_taken" qHY f fd) (qBJ:mg "enumerate" = none) (qHO:mg "sum" = none):FnOk P w K mg base CX0 1 f fd ["_law_net_here","_law_wides_here","_law_order"] qRT:=by
 refine F.ok sc_Ltaken (fun vs H Q E h=>?_) (fun cdv A outer s H vs Q E hr h=>?_)
 ·obtain ⟨a,t,lo,Ae,ws,zs,rfl,_⟩:=h
  rfl
 obtain ⟨a,t,lo,Ae,ws,zs,rfl,hN,wf,n400,⟨hT,lw⟩,hLo,TO,lz,q⟩:=h;have hu:=qJP hr;refine ⟨_,(qA4 (qAE (i:=3) sc_Ltaken.nd rfl (D0 rfl) (qBH qA3)) (qA4 (qBE C9 rfl (qSC rfl qBJ qHM (qA0 (pv 2) qA3)) (qM8 rfl (qC6 (qAA (i:=4) sc_Ltaken.nd rfl (D0 rfl)) (qC6 (qAA (i:=5) sc_Ltaken.nd rfl (D0 rfl)) qH0))) (qA4 (qAE (i:=6) sc_Ltaken.nd rfl (b9 rfl) qFI) (qA4 (qBE C9 rfl (qBR (qG8 qIK (pv 2) (qIQ (pv 4)) qIR)) (qAA (i:=7) sc_Ltaken.nd rfl (D0 rfl)) (qA6 (qBE C9 rfl (qDF (qB0 qB3 (pv 0) (pv 7) (fun _ _=>rfl))) (qAA (i:=8) sc_Ltaken.nd rfl (D0 rfl)) (qA6 (qE9 hu (pv 6) (pv 8) qFM rfl))))) (qA6 (qCL (qJN E8 L7 L8 qCV (pv 3) (qA0 (qAP qCA (qB0 qB3 (pv 1) (pv 5) (fun _ _=>rfl)) (qA9 (qLK rfl) rfl qHO qU9 (qA0 (qEA rfl (lcs (own:=["_law_other"]) (fv:=[1,6]) (by kernel_rfl)) (qBR (qG8 qIK (pv 2) qIR (qIQ (pv 4)))) (fun z1=>qAA (i:=0) (qD2 (by kernel_rfl)) rfl (D0 rfl)) (fun z1=>(qIO (qS2 (qSJ hu (pv 0) (pv 2))))) (fun z1=>(qB0 (qEE (K:=K) rfl) (pv 1) (pv 0) (fun _ _=>rfl)))) qA3))) qA3))))))) (qA6 (qAS (pv 3))))),?_⟩
 try dsimp only [Cx.nox,Cx.wish,cxOf]
 obtain ⟨rs,hA,NL⟩:=id hN;have wat:∀ x:Int,0<=x->x<(Ae.length:Int)->atI (ws.map V.int) x=some (.int (wdO ws x)):=by
  intro x x0 x1;have hx:x.toNat<ws.length:=by omega
  refine qBT x0 ?_;rw [B1];unfold wdO;rw [A1 hx]
  rfl
 refine cut fun N1 hN1=>?_;refine ⟨(by show 0<=sizeLine;decide),fun lf hlf=>?_⟩
 refine hN1 _ _ (cut fun N2 hN2=>?_);have s0:=qA2 hlf (.lst []);refine ⟨_,rfl,lo,rfl,⟨_,SqL.of (s0 _ _ hLo)⟩,qW3 (a:=lo) (xs:=zs.map V.int) (fun i σ Hc=>∃ (v4 v5 v6 v7 v8:Option V),σ=[some (.ref a),some (.ref t),some (.ref lo),some (.ref lf),v4,v5,v6,v7,v8]/\Same H Hc/\Hc lf=some (.lst (((F6 i).map fun p=>wdO ws ((zs[p]?).getD 0)+qDH Ae ws zs p).map V.int)))
  ⟨none,none,none,none,none,rfl,s0,qA1⟩ (fun i σ Hc _ hP=>by obtain ⟨_,_,_,_,_,_,sc,_⟩:=hP;exact SqL.of (sc _ _ hLo)) ?_ ?_⟩
 ·refine fun i x σ Hc T hx hI_1 hT2=>opq fun G_1 hG_1=>?_;obtain ⟨v4,v5,v6,v7,v8,rfl,sm,hlc⟩:=hI_1;obtain ⟨w0,ew,rfl⟩:=qAQ hx;refine hG_1 ?_;have hi:=(A4.mp ew).1;have wb:=TO.in_ w0 (B4 ew);have sT:=sm.trans (qA2 hT2 (.tup [.int (i:Int),.int w0]));have hlT:=(qA2 hT2 (.tup [.int (i:Int),.int w0])) _ _ hlc;have gT:SqT K (upd Hc T (.tup [.int (i:Int),.int w0])) T [.int (i:Int),.int w0]:=SqT.of qA1;generalize upd Hc T (.tup [.int (i:Int),.int w0])=H1 at sT hlT gT ⊢;refine ⟨T,_,rfl,gT,rfl,_,_,rfl,_,_,rfl,rfl,?_⟩;refine cut fun N3 hN3=>?_;refine fun dw hdw=>?_;refine hN3 _ _ (cut fun N4 hN4=>?_);have fdw:H dw=none:=sT.free hdw;have sd:=qA2 hdw (.dK []);have hld:=sd _ _ hlT;have sD:=sT.trans sd;have gd0:(upd H1 dw (.dK [])) dw=some (.dK []):=qA1;generalize upd H1 dw (.dK [])=H2 at hld sD gd0 ⊢;have ndl:dw ≠ lf:=qBS gd0 hld (by intro z;cases z)
  refine ⟨_,rfl,_,rfl,_,rfl,lo,_,rfl,SqL.of (sD _ _ hLo),fun l2 hl2=>?_⟩;have s2:=sD.trans (qA2 hl2 (.lst (cutV (zs.map V.int) (some (i:Int)) none)));have gl2:(upd H2 l2 (.lst (cutV (zs.map V.int) (some (i:Int)) none))) l2=some (.lst (cutV (zs.map V.int) (some (i:Int)) none)):=qA1;have hl2':=(qA2 hl2 (.lst (cutV (zs.map V.int) (some (i:Int)) none))) _ _ hld;have gd2:=(qA2 hl2 (.lst (cutV (zs.map V.int) (some (i:Int)) none))) _ _ gd0;rw [qGR,qN8 _ _ (by omega)] at gl2 s2 hl2' gd2 ⊢
  generalize upd H2 l2 (.lst ((zs.drop i).map V.int))=H3 at gl2 s2 hl2' gd2 ⊢;refine ⟨l2,rfl,⟨_,SqL.of gl2⟩,qCJ (a:=l2) (xs:=(zs.drop i).map V.int) (fun k σ Hd=>∃ (Af:List (Key × V)) (v7 v8:Option V),σ=[some (.ref a),some (.ref t),some (.ref lo),some (.ref lf),some (.int (i:Int)),some (.int w0),some (.ref dw),v7,v8]/\Same H Hd/\Hd l2=some (.lst ((zs.drop i).map V.int))/\Hd lf=some (.lst (((F6 i).map fun p=>wdO ws ((zs[p]?).getD 0)+qDH Ae ws zs p).map V.int))/\Hd dw=some (.dK Af)/\Af.length<=63 * k/\∀ y,(valV Af (J1 y)).isSome=decide (∃ v ∈ (zs.drop i).take k,y ∈ nd Ae v))
   ⟨[],v7,v8,rfl,s2,gl2,hl2',gd2,D3 _,fun y=>by simp [valV]⟩ (fun k σ Hd _ hP=>by obtain ⟨_,_,_,_,_,g,_⟩:=hP;exact SqL.of g) ?_ ?_⟩
  ·refine fun k x σ Hd hx hI_2=>opq fun G_2 hG_2=>?_;obtain ⟨Af,v7,v8,rfl,sd',gl',hlf',hd',lk,hv⟩:=hI_2;obtain ⟨w1,ew1,rfl⟩:=qAQ hx;refine hG_2 ?_;have hk:=(A4.mp ew1).1;have wb1:=TO.in_ w1 (P3 (B4 ew1));have hw:w1.toNat<Ae.length:=by omega
   have hz:=A1 hw;obtain ⟨r,h3,h4⟩:=NL.get hz;have ln:=(wf w1.toNat _ hz).len;have en:=qAF hz;generalize Ae[w1.toNat]=ns at h4 hz ln en;refine ⟨_,rfl,_,rfl,a,_,_,_,rfl,rfl,SqT.of (sd' _ _ hA),qBT wb1.1 (by rw [B1,h3];rfl),r,rfl,⟨_,SqT.of (sd' _ _ h4)⟩,qEY (a:=r) (xs:=ns.map V.int) (fun j σ He=>∃ (Af:List (Key × V)) (v8:Option V),σ=[some (.ref a),some (.ref t),some (.ref lo),some (.ref lf),some (.int (i:Int)),some (.int w0),some (.ref dw),some (.int w1),v8]/\Same H He/\He l2=some (.lst ((zs.drop i).map V.int))/\He lf=some (.lst (((F6 i).map fun p=>wdO ws ((zs[p]?).getD 0)+qDH Ae ws zs p).map V.int))/\He dw=some (.dK Af)/\Af.length<=63 * k+j/\∀ y,(valV Af (J1 y)).isSome=(decide (y ∈ ns.take j) || decide (∃ v ∈ (zs.drop i).take k,y ∈ nd Ae v)))
    ⟨Af,v8,rfl,sd',gl',hlf',hd',by omega,fun y=>by rw [hv y];simp⟩ (fun j σ He _ hP=>by obtain ⟨_,_,_,sm',_⟩:=hP;exact SqT.of (sm' _ _ h4)) ?_ ?_⟩
   ·refine fun j x σ He hx hI_3=>opq fun G_3 hG_3=>?_;obtain ⟨Af,v8,rfl,se,gl'',hlf'',hd'',lk',hv'⟩:=hI_3;obtain ⟨y,ey,rfl⟩:=qAQ hx;refine hG_3 ?_;have hj:=(A4.mp ey).1;refine ⟨_,rfl,_,rfl,dw,_,rfl,DPut.k (k:=J1 y) hd'' (qBD (by rw [O3] at hk;omega)),?_⟩
    refine ⟨_,_,rfl,qAB se fdw,?_,?_,qA1,G9 (qCN _ _ _) (by omega),fun x=>?_⟩
    ·rw [qA8 (qBS gl'' hd'' (by intro z;cases z))];exact gl''
    ·rw [qA8 (qBS hlf'' hd'' (by intro z;cases z))];exact hlf''
    ·rw [qKL,C4,ey,C0];by_cases e:x=y
     ·rw [e,if_pos rfl];simp
     ·rw [if_neg fun z=>e (Z0 z),hv' x];simp [e]
   ·refine fun σ He hI_4=>opq fun G_4 hG_4=>?_;obtain ⟨Af,v8,rfl,se,gl'',hlf'',hd'',lk',hv'⟩:=hI_4;refine hG_4 ?_;rw [A0] at lk' hv';refine ⟨Af,_,_,rfl,se,gl'',hlf'',hd'',by omega,fun y=>?_⟩
    rw [hv' y,qAX rfl,C4,ew1,C0,<- en,R3,V9,decide_eq_true_eq,decide_eq_true_eq,decide_eq_true_eq]
    constructor
    ·rintro (h | ⟨v,h1,h2⟩)
     ·exact ⟨w1,by simp,h⟩
     ·exact ⟨v,Q2 _ h1,h2⟩
    ·refine fun hI_5=>opq fun G_5 hG_5=>?_;obtain ⟨v,h1,h2⟩:=hI_5;refine hG_5 ?_;rcases D6.mp h1 with h1 | h1
     ·exact .inr ⟨v,h1,h2⟩
     ·rw [A3.mp h1] at h2;exact .inl h2
  refine fun σ Hd hI_6=>opq fun G_6 hG_6=>?_;obtain ⟨Af,v7,v8,rfl,sd',gl',hlf',hd',lk,hv⟩:=hI_6;refine hG_6 ?_;have hv2:∀ y,(valV Af (J1 y)).isSome=decide (qEC Ae zs i y):=by
   intro y;rw [hv y,A0,V2]
   rfl
  refine hN4 _ _ ?_;refine ⟨_,rfl,.inl ⟨rfl,_,SqL.of hlf'⟩,_,rfl,_,rfl,t,_,_,_,rfl,rfl,SqT.of (sd' _ _ hT),wat w0 wb.1 wb.2,?_⟩;refine ⟨_,rfl,_,rfl,_,rfl,lo,_,rfl,SqL.of (sd' _ _ hLo),fun l3 hl3=>?_⟩;have s3':=qA2 hl3 (.lst (cutV (zs.map V.int) none (some (i:Int))));have gl3:(upd Hd l3 (.lst (cutV (zs.map V.int) none (some (i:Int))))) l3=some (.lst (cutV (zs.map V.int) none (some (i:Int)))):=qA1;rw [qGR,qU4] at gl3 s3' ⊢;have s3:=sd'.trans s3';have hlf3:=s3' _ _ hlf';have hd3:=s3' _ _ hd';generalize upd Hd l3 (.lst ((zs.take i).map V.int))=H5 at gl3 s3 s3' hlf3 hd3 ⊢;refine ⟨l3,rfl,⟨_,SqL.of gl3⟩,fun p hp=>?_⟩;refine qFR (p:=p) (a:=l3) (xs:=(zs.take i).map V.int) (fun j σ He=>∃ (v:Option V),σ=[v,some (.ref t),some (.ref dw)]/\Same H5 He/\He p=some (.lst (((((zs.take i).take j).filter fun x=>decide (qEC Ae zs i x)).map (wdO ws)).map V.int))) ?_ ?_ ?_ ?_
  ·exact ⟨none,rfl,qA2 hp _,qA1⟩
  ·rintro j σ He hj ⟨v,rfl,se,_⟩;exact SqL.of (se _ _ gl3)
  ·refine fun j x σ He hx hI_8=>opq fun G_8 hG_8=>?_;obtain ⟨v,rfl,se,hpe⟩:=hI_8;obtain ⟨y,ey,rfl⟩:=qAQ hx;refine hG_8 ?_;have hj:=(A4.mp ey).1;have yb:=TO.in_ y (M7 (B4 ey));refine ⟨_,rfl,_,rfl,dw,_,rfl,DGet.k (k:=J1 y) (se _ _ hd3),_,rfl,?_⟩;rw [hv2 y,qDI ey];by_cases c:qEC Ae zs i y
   ·rw [decide_eq_true c];refine ⟨_,rfl,_,rfl,t,_,_,_,rfl,rfl,SqT.of (se _ _ (s3 _ _ hT)),wat y yb.1 yb.2,?_⟩;have lf1:(((zs.take i).take j).filter fun x=>decide (qEC Ae zs i x)).length<=63:=G9 (W4 _ _) (by rw [D1,D1];omega)
    refine ⟨_,hpe,qBD (by rw [A0,A0];omega),_,rfl,qAB se hp,?_⟩
    rw [qA1,if_pos rfl,A9,A9]
    rfl
   ·rw [decide_eq_false c];refine ⟨_,rfl,se,?_⟩;simpa using hpe
  refine fun σ He hI_9=>opq fun G_9 hG_9=>?_;obtain ⟨v,rfl,se,hpe⟩:=hI_9;refine hG_9 ?_;rw [A0,V2] at hpe;have hl6:=se _ _ hlf3;refine ⟨p,_,rfl,SqL.of hpe,_,_,rfl,rfl,lf,_,_,rfl,rfl,hl6,qBD (by simp;omega),?_⟩
  refine ⟨_,_,_,_,_,rfl,qAB (s3.trans se) hlf,?_⟩;rw [qA1,A56,A9,A9];have e5:((zs[i]?).getD 0)=w0:=by rw [ew];rfl
  show _=some (HO.lst (_++[V.int (wdO ws ((zs[i]?).getD 0)+qDH Ae ws zs i)]));rw [e5]
  rfl
 ·refine fun σ Hc hI_10=>opq fun G_10 hG_10=>?_;obtain ⟨v4,v5,v6,v7,v8,rfl,sm,hlc⟩:=hI_10;refine hG_10 ?_;rw [A0] at hlc;exact hN2 _ _ ⟨_,rfl,q lf Hc sm hlf hlc⟩
end
section
variable {P:Program} {w:World} {K:PySem.W.Frag} {mg:Str->Option Value} {base:Heap} {f:Addr} {fd:FuncData} {qCP:Addr} {qCK:FuncData}
theorem qWQ {xs:List Int} {k:Int} (h0:0<=k) (h1:k<(xs.length:Int)):∃ v,atI (xs.map V.int) k=some (.int v)/\v ∈ xs:=by
 have hk:k.toNat<xs.length:=by omega
 exact ⟨xs[k.toNat],qBT h0 (by rw [B1,A1 hk];rfl),R9 hk⟩
theorem sc_Lwides:FnScope ["_law_state","_law_many","_law_way","_law_most","_law_found"] ["_law_state","_law_many"] (qAD qHX):=⟨rfl,rfl,rfl,by decide +kernel,rfl,by decide +kernel,by decide +kernel⟩
theorem ok_Lwides (F:Fun K "_law_wides" "_law_wides" qHX f fd) (qAI:Clb P w K mg base 1 qCP qCK "_law_take" ["_law_state","_law_many"] qIH) (qAJ:mg "range" = none) (qAH:mg "tuple" = none):FnOk P w K mg base CX0 2 f fd ["_law_state","_law_many"] qP1:=by
 refine F.ok sc_Lwides (fun vs H Q E h=>?_) (fun cdv A outer s H vs Q E hr h=>?_)
 ·obtain ⟨d,c,t,ns,m,rfl,_⟩:=h
  rfl
 obtain ⟨d,c,t,ns,m,rfl,S,ht,m1,m100,q⟩:=h;have ht':t<=1000000000 - 1000:=ht;refine ⟨_,(qA4 (qAE (i:=2) sc_Lwides.nd rfl (D0 rfl) (qAZ qAI hr rfl (qA0 (pv 0) (qA0 qA7 qA3)))) (qA4 (qAE (i:=3) sc_Lwides.nd rfl (b9 rfl) (qB0 qEF (qBH (qA0 (qAP qCA qA7 (qAZ qAI hr rfl (qA0 (pv 0) (qA0 qA7 qA3)))) (qA0 qA7 (qA0 qA7 (qA0 qA7 (qA0 qA7 qA3)))))) (pv 2) (fun _ _=>rfl))) (qA4 (qV8 (i:=4) sc_Lwides.nd rfl rfl rfl (lcs (own:=["_law_k"]) (fv:=[0,3]) (by kernel_rfl)) (qBW rfl qAJ (qA0 (pv 1) qA3)) (fun z1=>qAA (i:=0) (qD2 (by kernel_rfl)) rfl (D0 rfl)) (fun z1=>qBQ) (fun z1=>(qAP qCA qA7 (qAZ qAI hr rfl (qA0 (pv 1) (qA0 (pv 2) qA3))))) (by kernel_rfl)) (qA4 (qO3 (qCF (qAU qG9 (pv 2) qA7 (qB1 _)) (qA6 (qAE (i:=4) sc_Lwides.nd rfl (D0 rfl) (qAP qMA (qBH (qA0 (pv 3) qA3)) (pv 1)))) qAV)) (qA4 (qO3 (qCF (qAU qG9 (pv 2) qA7 (qB1 _)) (qA6 (qV8 (i:=4) sc_Lwides.nd rfl rfl rfl (lcs (own:=["_law_wide"]) (fv:=[0]) (by kernel_rfl)) (qBR (pv 4)) (fun z2=>qAA (i:=0) (qD2 (by kernel_rfl)) rfl (D0 rfl)) (fun z2=>qBQ) (fun z2=>(qB0 (qL9 (K:=K) rfl) (qBH (qA0 qA7 (qA0 qA7 (qA0 (pv 0) qA3)))) (qAZ qAI hr rfl (qA0 (pv 1) (qA0 qA7 qA3))) (fun _ _=>rfl))) (by kernel_rfl))) qAV)) (qA6 (qAS (qAK qAM rfl qAH qB4 (qA0 (pv 4) qA3))))))))),?_⟩
 try dsimp only [Cx.nox,Cx.wish,cxOf]
 refine cut fun N1 hN1=>?_;refine ⟨_,rfl,d,c,t,ns,5,rfl,S,(by show t<=1000000000;omega),by decide,by decide,fun way ns1 H1 w0 w5 S1 K1=>?_⟩
 refine hN1 _ _ (cut fun N2 hN2=>?_);refine ⟨_,rfl,d,c,t+1,ns1,4,rfl,S1,(by show t+1<=1000000000;omega),by decide,by decide,fun x ns2 H2 x0 x4 S2 K2=>⟨_,_,rfl,rfl,?_⟩⟩
 refine ⟨(by show 5<=sizeLine;decide),fun l hl=>?_⟩
 obtain ⟨most,hv,hm⟩:=qWQ (xs:=[1+x,3,9,99,99]) w0 (by simpa using w5)
 have mb:1<=most/\most<=99:=by simp at hm;omega
 refine ⟨_,rfl,l,_,way,_,rfl,rfl,SqL.of qA1,hv,?_⟩;have K2':=(K1.trans K2).trans (qC7 hl (.lst ([1+x,3,9,99,99].map V.int)));have S2':=S2.new hl (.lst ([1+x,3,9,99,99].map V.int));refine hN2 _ _ (cut fun N3 hN3=>?_);show tAsg _ _ _ _ (upd H2 l (.lst ([1+x,3,9,99,99].map V.int)));generalize upd H2 l (.lst ([1+x,3,9,99,99].map V.int))=H3 at K2' S2' ⊢;refine ⟨_,rfl,m,rfl,by omega,by omega,fun p hp=>?_⟩
 have npd:p ≠ d/\p ≠ c:=⟨(qA5 S2'.dict hp).symm,(qA5 S2'.list hp).symm⟩;refine qFK (p:=p) (lo:=0) (n:=m.toNat) (fun i σ Hc=>∃ (v:Option V) (ns' ws:List Int),σ=[v,some (.ref d),some (.int most)]/\StAt Hc d c (t+1+1+(i:Int)) ns'/\Keep d c H3 Hc/\Hc p=some (.lst (ws.map V.int))/\ws.length=i/\∀ u ∈ ws,1<=u) ?_ ?_ ?_
 ·exact ⟨none,ns2,[],rfl,by simpa using S2'.new hp (.lst []),qC7 hp _,qA1,rfl,fun _ z=>nomatch z⟩
 ·refine fun i σ Hc hi hI_1=>opq fun G_1 hG_1=>?_;obtain ⟨v,ns',ws,rfl,Sc,Kc,hpc,lw,p1⟩:=hI_1;refine hG_1 ?_;refine ⟨_,rfl,_,rfl,d,c,_,ns',most,rfl,Sc,(by show t+1+1+(i:Int)<=1000000000;omega),mb.1,by omega,fun k ns6 H6 k0 k1 S6 K6=>⟨_,_,rfl,rfl,?_⟩⟩
  have g6:=K6 _ _ hpc npd.1 npd.2;refine ⟨_,g6,qAO (by rw [A0];omega),_,ns6,ws++[1+k],rfl,?_,qI2 (Kc.trans K6) hp,by rw [qA1,A9];rfl,by rw [A7,lw];rfl,fun u hu=>(D6.mp hu).elim (p1 u) fun z=>by rw [A3.mp z];omega⟩
  have:=S6.upd (o:=.lst (ws.map V.int++[.int (1+k)])) npd.1.symm npd.2.symm;rw [show t+1+1+((i+1:Nat):Int)=t+1+1+(i:Int)+1 by omega]
  exact this
 refine fun σ Hc hI_2=>opq fun G_2 hG_2=>?_;obtain ⟨v,ns',ws,rfl,Sc,Kc,hpc,lw,p1⟩:=hI_2;refine hG_2 ?_;have K4:=K2'.trans Kc;have lw':(ws.length:Int)=m:=by omega
 rw [show t+1+1+((m.toNat:Nat):Int)=t+1+1+m by omega] at Sc
 refine hN3 _ _ (cut fun N4 hN4=>?_);refine ⟨fun σ Hx=>∃ (lf:Addr) (ws:List Int),σ=[some (.ref d),some (.int m),some (.int way),some (.int most),some (.ref lf)]/\StAt Hx d c (t+1+1+m) ns'/\Keep d c H Hx/\Hx lf=some (.lst (ws.map V.int))/\(ws.length:Int)=m/\lf ≠ d/\lf ≠ c/\∀ u ∈ ws,1<=u,?_,?_⟩
 ·refine ⟨_,rfl,rfl,_,rfl,?_⟩;refine ite2 (fun _=>?_) (fun _=>?_)
  ·refine ⟨_,rfl,(by show 1<=sizeLine;decide),fun l1 hl1=>?_⟩
   refine ⟨_,rfl,l1,m,_,rfl,rfl,qA1,by omega,by omega,?_,fun l2 hl2=>?_⟩
   ·exact Q8 (qAO (by simp;omega))
   have e1:(C1 m.toNat [V.int most]).flatten=(C1 m.toNat most).map V.int:=by
    rw [List.map_replicate];generalize m.toNat=n
    induction n with
    | zero=>rfl
    | succ n ih=>rw [I0,E9,ih,I0];rfl
   rw [e1];have s6:=(qA2 hl1 (.lst [.int most])).trans (qA2 hl2 (.lst ((C1 m.toNat most).map V.int)));have n2:=(qA2 hl1 (.lst [.int most])).free hl2;exact ⟨l2,C1 m.toNat most,rfl,Sc.same s6,K4.trans (.of_same s6),qA1,by rw [O6];omega,(qA5 Sc.dict n2).symm,(qA5 Sc.list n2).symm,fun u hu=>by rw [(Y7.mp hu).2];exact mb.1⟩
  ·exact ⟨p,ws,rfl,Sc,K4,hpc,lw',npd.1,npd.2,p1⟩
 refine fun σ Hx hI_3=>opq fun G_3 hG_3=>?_;obtain ⟨lf,ws,rfl,Sx,Kx,gx,lx,nd1,nd2,p2⟩:=hI_3;refine hG_3 ?_;refine hN4 _ _ (cut fun N5 hN5=>?_);refine ⟨fun σ Hx=>∃ (lf:Addr) (ws:List Int) (t':Int) (ns':List Int),σ=[some (.ref d),some (.int m),some (.int way),some (.int most),some (.ref lf)]/\StAt Hx d c t' ns'/\t<=t'/\t'<=t+300/\Keep d c H Hx/\Hx lf=some (.lst (ws.map V.int))/\(ws.length:Int)=m/\∀ u ∈ ws,1<=u,?_,?_⟩
 ·refine ⟨_,rfl,rfl,_,rfl,?_⟩;refine ite2 (fun _=>?_) (fun _=>?_)
  ·refine ⟨_,rfl,lf,rfl,⟨_,SqL.of gx⟩,fun p hp=>?_⟩;have npd:p ≠ d/\p ≠ c:=⟨(qA5 Sx.dict hp).symm,(qA5 Sx.list hp).symm⟩;have npl:lf ≠ p:=qA5 gx hp;refine qFR (p:=p) (a:=lf) (xs:=ws.map V.int) (fun i σ Hc=>∃ (v:Option V) (ns' us:List Int),σ=[v,some (.ref d)]/\StAt Hc d c (t+1+1+m+(i:Int)) ns'/\Keep d c Hx Hc/\Hc p=some (.lst (us.map V.int))/\us.length=i/\∀ u ∈ us,1<=u) ?_ ?_ ?_ ?_
   ·exact ⟨none,ns',[],rfl,by simpa using Sx.new hp (.lst []),qC7 hp _,qA1,rfl,fun _ z=>nomatch z⟩
   ·rintro i σ Hc hi ⟨v,ns',us,rfl,Sc,Kc,_⟩;exact SqL.of (Kc _ _ gx nd1 nd2)
   ·refine fun i y σ Hc hy hI_5=>opq fun G_5 hG_5=>?_;obtain ⟨v,ns',us,rfl,Sc,Kc,hpc,lu,p3⟩:=hI_5;obtain ⟨z,ez,rfl⟩:=qAQ hy;refine hG_5 ?_;have hi:=(A4.mp ez).1;refine ⟨_,rfl,(by show 3<=sizeLine;decide),fun l3 hl3=>?_⟩
    have s3:=qA2 hl3 (.lst [.int 1,.int 2,.int z]);have g3:(upd Hc l3 (.lst [.int 1,.int 2,.int z])) l3=some (.lst [.int 1,.int 2,.int z]):=qA1;have n3:l3 ≠ d/\l3 ≠ c:=⟨(qA5 Sc.dict hl3).symm,(qA5 Sc.list hl3).symm⟩;refine ⟨_,rfl,d,c,_,ns',3,rfl,Sc.same s3,(by show t+1+1+m+(i:Int)<=1000000000;omega),by decide,by decide,fun k ns6 H6 k0 k1 S6 K6=>?_⟩
    obtain ⟨v,hv,mv⟩:=qWQ (xs:=[1,2,z]) k0 (by simpa using k1)
    refine ⟨l3,_,k,_,rfl,rfl,SqL.of (K6 _ _ g3 n3.1 n3.2),hv,?_⟩;have g6:=K6 _ _ (s3 _ _ hpc) npd.1 npd.2;refine ⟨_,g6,qAO (by rw [A0];omega),_,ns6,us++[v],rfl,?_,qI2 (Kc.trans ((Keep.of_same s3).trans K6)) hp,by rw [qA1,A9];rfl,by rw [A7,lu];rfl,fun u hu=>(D6.mp hu).elim (p3 u) fun q=>by
     rw [A3.mp q];have pz:=p2 z (B4 ez);simp at mv;omega⟩
    have:=S6.upd (o:=.lst (us.map V.int++[.int v])) npd.1.symm npd.2.symm;rw [show t+1+1+m+((i+1:Nat):Int)=t+1+1+m+(i:Int)+1 by omega]
    exact this
   ·refine fun σ Hc hI_6=>opq fun G_6 hG_6=>?_;obtain ⟨v,ns',us,rfl,Sc,Kc,hpc,lu,p3⟩:=hI_6;refine hG_6 ?_;rw [A0] at lu Sc;exact ⟨p,us,_,ns',rfl,Sc,by omega,by omega,Kx.trans Kc,hpc,by omega,p3⟩
  ·exact ⟨lf,ws,_,_,rfl,Sx,by omega,by omega,Kx,gx,lx,p2⟩
 refine fun σ Hx hI_7=>opq fun G_7 hG_7=>?_;obtain ⟨lf,ws,t',ns',rfl,Sx,g1,g2,Kx,gx,lx,p4⟩:=hI_7;refine hG_7 ?_;refine hN5 _ _ ?_;refine ⟨_,rfl,lf,_,rfl,.inl ⟨SqL.of gx,fun r hr1=>?_⟩⟩;exact q r ws t' ns' _ (Sx.new hr1 _) g1 g2 (Kx.trans (qC7 hr1 _)) qA1 lx p4
end
section
variable {P:Program} {w:World} {K:PySem.W.Frag} {mg:Str->Option Value} {base:Heap} {f:Addr} {fd:FuncData} {qGN:Addr} {qKB:FuncData}
theorem qJL:FnScope ["net","work"] ["net","work"] (qAD qD5):=⟨rfl,rfl,rfl,by decide +kernel,rfl,by decide +kernel,by decide +kernel⟩
theorem ok_demand_tree (F:Fun K "demand_tree" "demand_tree" qD5 f fd) (qGU:Clb P w K mg base 2 qGN qKB "is_tree" ["net","work"] qP4):FnOk P w K mg base CX0 3 f fd ["net","work"] qIJ:=by
 refine F.ok qJL (fun vs H Q E h=>?_) (fun cdv A outer s H vs Q E hr h=>?_)
 ·obtain ⟨a,Ae,work,rfl,_⟩:=h
  rfl
 obtain ⟨a,Ae,work,rfl,⟨hN,wf,n400,w0,w1⟩,iT,q⟩:=h;refine ⟨_,(qA6 (qCF (qIP (qDE (qAZ qGU hr rfl (qA0 (pv 0) (qA0 (pv 1) qA3))))) qS3 qAV)),?_⟩
 try dsimp only [Cx.nox,Cx.wish,cxOf]
 refine ⟨_,rfl,_,rfl,a,Ae,work,rfl,hN,wf,by omega,w0,w1,fun zs H1 s1 N=>?_⟩
 rw [(qTA N).mp iT];exact ⟨_,rfl,q H1 s1⟩
end
section
variable {P:Program} {w:World} {K:PySem.W.Frag} {mg:Str->Option Value} {base:Heap} {f:Addr} {fd:FuncData} {Pt cc:Addr} {qC2 qBI qDA:Addr} {qCR qC1 qEG:FuncData}
theorem sc_stretched:FnScope ["net","wides","work","own","other","order","need"] ["net","wides","work"] (qAD qC9):=⟨rfl,rfl,rfl,by decide +kernel,rfl,by decide +kernel,by decide +kernel⟩
theorem ok_stretched (F:Fun K "stretched" "stretched" qC9 f fd) (hcd:fd.code=.ref cc) (hBM:BM mg base) (qCB:hdIn K cc Pt=true) (qBC:Clb P w K mg base 3 qC2 qCR "demand_tree" ["net","work"] qIJ) (qAW:Clb P w K mg base 1 qBI qC1 "all_needed" ["net","asked"] qUW) (qCD:Clb P w K mg base 1 qDA qEG "taken_by" ["net","wides","work","order"] qIG) (qAT:mg "sorted" = none) (qDY:mg "max" = none):FnOk P w K mg base CX0 4 f fd ["net","wides","work"] (qII Pt):=by
 refine F.okL hcd sc_stretched (fun vs H Q E h=>?_) (fun A outer s H vs Q E hr h=>?_)
 ·obtain ⟨a,t,Ae,ws,work,rfl,_⟩:=h
  rfl
 obtain ⟨a,t,Ae,ws,work,rfl,hTab,⟨NI,WD,w1,iT⟩,q⟩:=h;have hu:=qJP hr;have rm:Room 2 _:=hr.mono (by decide)
 refine ⟨_,(qA4 (qCL (qAZ qBC hr rfl (qA0 (pv 0) (qA0 (pv 2) qA3)))) (qA4 (qAE (i:=3) sc_stretched.nd rfl (b9 rfl) qFI) (qA4 (qBE C9 rfl (qBR (qAZ qAW hr rfl (qA0 (pv 0) (qA0 (qC5 (qA0 (pv 2) qA3)) qA3)))) (qAA (i:=4) sc_stretched.nd rfl (D0 rfl)) (qA4 (qAE (i:=5) sc_stretched.nd rfl (D0 rfl) (qBH qA3)) (qA4 (qBE C9 rfl (qBR (qVB (p:="one") (fv:=[1,3]) (q:="stretched.<locals>.<lambda>") rm rfl qAT qDK hBM rfl qCB (by kernel_rfl) (lms (by kernel_rfl)) rfl (fun _ _ _ _ _=>rfl) (qA0 (qB0 qB3 (pv 0) (pv 4) (fun _ _=>rfl)) qA3) (fun z1=>(qC5 (qA0 (qAP qDG (qB0 (qEE (K:=K) rfl) (pv 1) (pv 0) (fun _ _=>rfl)) (qB0 (qEE (K:=K) rfl) (qD1 (qbG _) (pv 2) (pv 0) (fun _ _=>rfl)) qA7 (fun _ _=>rfl))) (qA0 (pv 0) qA3)))))) (qAA (i:=6) sc_stretched.nd rfl (D0 rfl)) (qA6 (qCL (qJN E8 X8 X9 qIX (pv 5) (qA0 (qB0 qB3 (qD1 hu (pv 3) (pv 6) (fun _ _=>rfl)) qA7 (fun _ _=>rfl)) qA3))))) (qA4 (qCL (qJN E8 L7 L8 qCV (pv 5) (qA0 (pv 4) qA3))) (qA6 (qE9 hu (pv 3) (pv 4) (qC5 (qA0 (qA9 (qJD rfl) rfl qDY qKG (qA0 (qAZ qCD hr rfl (qA0 (pv 0) (qA0 (pv 1) (qA0 (pv 4) (qA0 (pv 5) qA3))))) qA3)) (qA0 (pv 5) qA3))) rfl)))))) (qA6 (qAS (qD1 hu (pv 3) (pv 2) (fun _ _=>rfl))))))),?_⟩
 try dsimp only [Cx.nox,Cx.wish,cxOf]
 obtain ⟨hN,wf,n400,wk0,wk1⟩:=id NI;refine cut fun N0 hN0=>?_;refine ⟨_,rfl,_,rfl,a,Ae,work,rfl,NI,iT,fun H1 s1=>?_⟩;refine hN0 _ _ (cut fun N1 hN1=>?_);intro dn hdn;have s2:=s1.trans (qA2 hdn (.dK []));have gd2:(upd H1 dn (.dK [])) dn=some (.dK (kvsV [] fun _=>V.non)):=qA1;have fdn:H dn=none:=s1.free hdn;generalize upd H1 dn (.dK [])=H2 at s2 gd2 ⊢;refine hN1 _ _ (cut fun N2 hN2=>?_);refine ⟨_,rfl,_,rfl,(by show 1<=sizeLine;decide),fun ta hta=>?_⟩
 have sta:=qA2 hta (.tup [.int work]);have gta:(upd H2 ta (.tup [.int work])) ta=some (.tup ([work].map V.int)):=qA1;have s3:=s2.trans sta;have gd3:=sta _ _ gd2;generalize upd H2 ta (.tup [.int work])=H3 at gta s3 gd3 ⊢;refine ⟨a,ta,Ae,[work],rfl,hN.same s3,wf,by omega,gta,(fun x hx=>by rw [A3.mp hx];omega),fun lw zs H4 s4 f4 gw N=>?_⟩
 have lz:=N.1.len;have s5:=s3.trans s4;have gd4:=s4 _ _ gd3;have nwd:lw ≠ dn:=qBS gw gd4 (by intro z;cases z)
 have T:=qLX wf n400 N iT;obtain ⟨R,O,S⟩:=exS T ws;obtain ⟨rs,hA,NL⟩:=id hN;refine ⟨lw,rfl,⟨_,SqL.of gw⟩,qCJ (a:=lw) (xs:=zs.map V.int) (fun i σ Hc=>∃ (ad al:Int->Addr) (v4 v5 v6:Option V),σ=[some (.ref a),some (.ref t),some (.int work),some (.ref dn),v4,v5,v6]/\Same H Hc/\Hc lw=some (.lst (zs.map V.int))/\Hc dn=some (.dK (kvsV (zs.take i) fun z=>.ref (ad z)))/\∀ z ∈ zs.take i,Hc (ad z)=some (.tup [.int (R z),.ref (al z)])/\Hc (al z)=some (.lst ((O z).map V.int))/\H (al z)=none)
  ⟨fun _=>a,fun _=>a,none,none,none,rfl,s5,gw,gd4,fun z hz=>by simp at hz⟩ (fun i σ Hc _ hP=>by obtain ⟨_,_,_,_,_,_,_,g,_⟩:=hP;exact SqL.of g) ?_ ?_⟩
 ·refine fun i x σ Hc hx hI_1=>opq fun G_1 hG_1=>?_;obtain ⟨ad,al,v4,v5,v6,rfl,sc,gwc,gdc,PA⟩:=hI_1;obtain ⟨z,ez,rfl⟩:=qAQ hx;refine hG_1 ?_;have hi:=(A4.mp ez).1;have hz:=B4 ez;have zb:=N.1.in_ z hz;have hw:z.toNat<Ae.length:=by omega
  obtain ⟨rs',r,h1,l1,h2,h3⟩:=hN.get (A1 hw);have rz:=wf z.toNat _ (A1 hw);have en:=qAF (A1 hw);generalize Ae[z.toNat]=ys at h3 rz en;have lys:=rz.len;have hys:∀ y ∈ ys,y ∈ zs.take i:=fun y hy=>(qD9 wf N ez (by rw [en];exact hy)).1
  obtain ⟨TO,lO,tO,inO⟩:=qRS T S w1 hz;refine cut fun M0 hM0=>?_;refine ⟨(by show 0<=sizeLine;decide),fun lo hlo=>?_⟩
  have k4:Keep dn lo Hc (upd Hc lo (.lst [])):=qC7 hlo _;have s4':=qA2 hlo (.lst []);have glo:(upd Hc lo (.lst [])) lo=some (.lst (([]:List Int).map V.int)):=qA1;have gd4':=s4' _ _ gdc;have gw4:=s4' _ _ gwc;have sc4:=sc.trans s4';have ndl:dn ≠ lo:=qA5 gdc hlo;have nwl:lw ≠ lo:=qA5 gwc hlo;have flo:H lo=none:=sc.free hlo;have PA4:∀ z ∈ zs.take i,(upd Hc lo (.lst [])) (ad z)=some (.tup [.int (R z),.ref (al z)])/\(upd Hc lo (.lst [])) (al z)=some (.lst ((O z).map V.int))/\al z ≠ lo:=fun z hz=>⟨s4' _ _ (PA z hz).1,s4' _ _ (PA z hz).2.1,qA5 (PA z hz).2.1 hlo⟩;generalize upd Hc lo (.lst [])=Hd at k4 s4' glo gd4' gw4 sc4 PA4 ⊢;refine hM0 _ _ (cut fun M1 hM1=>?_);refine ⟨_,rfl,_,rfl,a,_,_,_,rfl,rfl,SqT.of (sc4 _ _ h1),qBT zb.1 h2,sc4 _ _ hTab,r,ys.map V.int,ys.map (keyS ws R),rfl,.inl (SqT.of (sc4 _ _ h3)),by rw [A0];omega,by rw [A0,A0],?_,?_,fun H5 D rs5 s5' hD pm so=>?_⟩
  ·intro k hk;obtain ⟨y,_,rfl⟩:=E2.mp hk;exact fun z=>by cases z
  ·intro i x k hx hk2 Hx sx;obtain ⟨y,ey,rfl⟩:=qAQ hx;rw [B1,ey] at hk2;cases hk2;have my:=B4 ey;have yz:=hys y my;have yb:=rz.in_ y my;have hg:=DGet.k (k:=J1 y) (sx _ _ gd4');rw [qED (g:=fun z=>V.ref (ad z)) yz] at hg;have hwd:atI (ws.map V.int) y=some (.int (wdO ws y)):=by
    have hl:y.toNat<ws.length:=by have:=WD.2;omega
    refine qBT yb.1 ?_;rw [B1,A1 hl];unfold wdO;rw [A1 hl]
    rfl
   exact ⟨_,rfl,_,rfl,t,_,_,_,rfl,rfl,SqT.of (sx _ _ (sc4 _ _ WD.1)),hwd,_,rfl,_,rfl,dn,_,rfl,hg,ad y,_,_,_,rfl,rfl,SqT.of (sx _ _ (PA4 y yz).1),rfl,_,_,rfl,rfl,_,rfl,(by show 2<=sizeLine;decide),fun p hp=>⟨qA2 hp _,p,rfl,qA1⟩⟩
  obtain ⟨os,po,oo,eo⟩:=qb3 rz.nodup pm so;rw [eo];obtain ⟨eO,eR⟩:=(S z hz).by (by rw [en];exact po) oo
  have sD:=qA2 hD (.lst (os.map V.int));have gD:(upd H5 D (.lst (os.map V.int))) D=some (.lst (os.map V.int)):=qA1;have s6:Same Hd (upd H5 D (.lst (os.map V.int))):=fun b o e=>sD b o (s5' b o e);have nDl:D ≠ lo:=(qA5 (s5' _ _ glo) hD).symm;have nDd:D ≠ dn:=(qA5 (s5' _ _ gd4') hD).symm;generalize upd H5 D (.lst (os.map V.int))=H6 at gD s6 ⊢;have lflat:∀ j,((((os.take j).map O).flatten).length:Nat)<=63:=fun j=>by
   have e1:(os.map O).flatten=((os.take j).map O).flatten++((os.drop j).map O).flatten:=by rw [<- R5,<- A9,M3]
   rw [eO,A7,e1,A7] at lO;omega
  refine ⟨D,rfl,⟨_,SqL.of gD⟩,qCJ (a:=D) (xs:=os.map V.int) (fun j σ Hx=>∃ (v6:Option V),σ=[some (.ref a),some (.ref t),some (.int work),some (.ref dn),some (.int z),some (.ref lo),v6]/\Keep lo lo H6 Hx/\Hx lo=some (.lst ((((os.take j).map O).flatten).map V.int)))
   ⟨v6,rfl,.refl,s6 _ _ glo⟩ (fun j σ Hx _ hP=>by obtain ⟨_,_,kx,_⟩:=hP;exact SqL.of (kx _ _ gD nDl nDl)) ?_ ?_⟩
  ·refine fun j x σ Hx hx hI_2=>opq fun G_2 hG_2=>?_;obtain ⟨v6,rfl,kx,glx⟩:=hI_2;obtain ⟨y,ey,rfl⟩:=qAQ hx;refine hG_2 ?_;have my:=B4 ey;have yz:=hys y (po.mem_iff.mp my);obtain ⟨p1,p2,p3⟩:=PA4 y yz;have hg:=DGet.k (k:=J1 y) (kx _ _ (s6 _ _ gd4') ndl ndl);rw [qED (g:=fun z=>V.ref (ad z)) yz] at hg;have p1':=s6 _ _ p1;have nad:ad y ≠ lo:=qBS p1 glo (by intro z;cases z)
   have lj:=lflat (j+1);have ef:((os.take (j+1)).map O).flatten=((os.take j).map O).flatten++O y:=by rw [C4,ey,C0,A9,R5];simp
   rw [ef,A7] at lj;refine ⟨_,rfl,.inl ⟨rfl,_,SqL.of glx⟩,_,rfl,_,rfl,dn,_,rfl,hg,ad y,_,_,_,rfl,rfl,SqT.of (kx _ _ p1' nad nad),rfl,lo,al y,_,_,rfl,rfl,glx,kx _ _ (s6 _ _ p2) p3 p3,by rw [A0,A0,sizeLine_eq];omega,?_⟩
   rw [<- A9];refine ⟨_,rfl,fun b o e n1 _=>by rw [qA8 n1];exact kx b o e n1 n1,by rw [qA1,ef]⟩
  refine fun σ Hx hI_3=>opq fun G_3 hG_3=>?_;obtain ⟨v6,rfl,kx,glx⟩:=hI_3;refine hG_3 ?_;rw [A0,qAX rfl] at glx;refine hM1 _ _ (cut fun M2 hM2=>?_);refine ⟨_,rfl,.inl ⟨rfl,_,SqL.of glx⟩,_,rfl,lo,_,_,rfl,rfl,glx,qBD (by rw [A0];have:=lflat os.length;rw [qAX rfl] at this;omega),?_⟩
  have eO2:((os.map O).flatten).map V.int++[V.int z]=(O z).map V.int:=by rw [eO,A9];rfl
  rw [eO2];have kx2:Keep lo lo H6 (upd Hx lo (.lst ((O z).map V.int))):=fun b o e n1 _=>by rw [qA8 n1];exact kx b o e n1 n1
  have gl2:(upd Hx lo (.lst ((O z).map V.int))) lo=some (.lst ((O z).map V.int)):=qA1;generalize upd Hx lo (.lst ((O z).map V.int))=Hy at kx2 gl2 ⊢;have kH:∀ b o,Hd b=some o->b ≠ lo->Hy b=some o:=fun b o e n=>kx2 b o (s6 b o e) n n;have sy:Same H Hy:=fun b o e=>kH b o (sc4 b o e) (qA5 e flo);refine hM2 _ _ ?_;refine ⟨_,rfl,_,rfl,_,rfl,_,rfl,a,t,lo,z,Ae,ws,O z,rfl,hN.same sy,wf,n400,⟨sy _ _ WD.1,WD.2⟩,gl2,TO,lO,fun l2 H7 s7 f7 g7=>?_⟩;refine ⟨l2,_,_,rfl,SqL.of g7,tO,_,rfl,(by show 2<=sizeLine;decide),fun tp htp=>?_⟩
  have s8:=s7.trans (qA2 htp (.tup [.int (R z),.ref lo]));have gtp:(upd H7 tp (.tup [.int (R z),.ref lo])) tp=some (.tup [.int (R z),.ref lo]):=qA1;have gdy:=s8 _ _ (kH _ _ gd4' ndl);have gly:=s8 _ _ gl2;have gwy:=s8 _ _ (kH _ _ gw4 nwl);have s9:=sy.trans s8;have PA9:∀ z ∈ zs.take i,(upd H7 tp (.tup [.int (R z),.ref lo])) (ad z)=(upd H7 tp (.tup [.int (R z),.ref lo])) (ad z):=fun _ _=>rfl;have PAn:∀ x ∈ zs.take i,(upd H7 tp (.tup [.int (R z),.ref lo])) (ad x)=some (.tup [.int (R x),.ref (al x)])/\(upd H7 tp (.tup [.int (R z),.ref lo])) (al x)=some (.lst ((O x).map V.int)):=fun x hx=>by
   obtain ⟨p1,p2,p3⟩:=PA4 x hx;exact ⟨s8 _ _ (kH _ _ p1 (qBS p1 glo (by intro z;cases z))),s8 _ _ (kH _ _ p2 p3)⟩
  generalize upd H7 tp (.tup [.int (R z),.ref lo])=H8 at gtp gdy gly gwy s9 PAn ⊢;have zno:z ∉ zs.take i:=fun m=>by have:=qNX N ez m;omega
  have put:=DPut.k (k:=J1 z) (v:=.ref tp) gdy (qBD (by unfold kvsV;rw [A0,D1];omega))
  rw [qPP zno] at put;refine ⟨_,rfl,_,rfl,dn,_,rfl,put,?_⟩;refine ⟨fun y=>if y=z then tp else ad y,fun y=>if y=z then lo else al y,_,_,_,rfl,qAB s9 fdn,by rw [qA8 nwd];exact gwy,?_,fun x hx=>?_⟩
  ·rw [qA1,C4,ez,C0];congr 3
   funext y
   show _=V.ref (if y=z then tp else ad y)
   by_cases c:y=z
   ·rw [if_pos c,if_pos c]
   ·rw [if_neg c,if_neg c]
  ·rw [C4,ez,C0] at hx;dsimp only;rcases D6.mp hx with m | m
   ·have ne:x ≠ z:=fun e=>zno (e ▸ m);rw [if_neg ne,if_neg ne];obtain ⟨p1,p2⟩:=PAn x m;exact ⟨by rw [qA8 (qBS p1 gdy (by intro z;cases z))];exact p1,by rw [qA8 (qBS p2 gdy (by intro z;cases z))];exact p2,(PA x m).2.2⟩
   ·have ex:=A3.mp m;subst ex;rw [if_pos rfl,if_pos rfl];exact ⟨by rw [qA8 (qBS gtp gdy (by intro z;cases z))];exact gtp,by rw [qA8 (qBS gly gdy (by intro z;cases z))];exact gly,flo⟩
 ·refine fun σ Hc hI_4=>opq fun G_4 hG_4=>?_;obtain ⟨ad,al,v4,v5,v6,rfl,sc,gwc,gdc,PA⟩:=hI_4;refine hG_4 ?_;rw [A0,qAX rfl] at gdc PA;have hw:=qIV N;have hg:=DGet.k (k:=J1 work) gdc;rw [qED (g:=fun z=>V.ref (ad z)) hw] at hg;obtain ⟨p1,p2,p3⟩:=PA work hw;exact hN2 _ _ ⟨_,rfl,_,rfl,dn,_,rfl,hg,q _ _ zs R O Hc sc p3 N S p1 p2⟩
end
section
variable {P:Program} {w:World} {K:PySem.W.Frag} {mg:Str->Option Value} {base:Heap} {f:Addr} {fd:FuncData} {qI4:Addr} {qN2:FuncData}
theorem qRZ:FnScope ["one","other"] ["one","other"] (qAD qHW):=⟨rfl,rfl,rfl,by decide +kernel,rfl,by decide +kernel,by decide +kernel⟩
theorem ok_joined (F:Fun K "joined" "joined" qHW f fd) (qDY:mg "max" = none):FnOk P w K mg base CX0 1 f fd ["one","other"] qP2:=by
 refine F.ok qRZ (fun vs H Q E h=>?_) (fun cdv A outer s H vs Q E hr h=>?_)
 ·obtain ⟨a,b,p,q,rfl,_⟩:=h
  rfl
 obtain ⟨a,b,p,q,rfl,hp,hq,lz,qq⟩:=h;refine ⟨_,(qA6 (qAS (qC5 (qA0 (qA9 (qJE rfl) rfl qDY qKG (qA0 (qB0 qB3 (pv 0) qA7 (fun _ _=>rfl)) (qA0 (qAP qCA (qB0 qB3 (pv 0) qA7 (fun _ _=>rfl)) (qB0 qB3 (pv 1) qA7 (fun _ _=>rfl))) qA3))) (qA0 (qAP qCA (qB0 qB3 (pv 0) qA7 (fun _ _=>rfl)) (qB0 qB3 (pv 1) qA7 (fun _ _=>rfl))) (qA0 (qAP qMD (qB0 qB3 (pv 0) qA7 (fun _ _=>rfl)) (qB0 qB3 (pv 1) qA7 (fun _ _=>rfl))) qA3)))))),?_⟩
 try dsimp only [Cx.nox,Cx.wish,cxOf]
 obtain ⟨l1,g1,g2⟩:=id hp;obtain ⟨l2,k1,k2⟩:=id hq;refine ⟨_,rfl,a,_,_,_,rfl,rfl,SqT.of g1,rfl,_,rfl,a,_,_,_,rfl,rfl,SqT.of g1,rfl,_,rfl,b,_,_,_,rfl,rfl,SqT.of k1,rfl,_,_,rfl,rfl,_,_,rfl,?_⟩;refine ⟨_,rfl,a,_,_,_,rfl,rfl,SqT.of g1,rfl,_,rfl,b,_,_,_,rfl,rfl,SqT.of k1,rfl,_,_,rfl,rfl,?_⟩;refine ⟨_,rfl,a,_,_,_,rfl,rfl,SqT.of g1,rfl,_,rfl,b,_,_,_,rfl,rfl,SqT.of k1,rfl,?_⟩;refine ⟨l1,l2,_,_,rfl,rfl,g2,k2,by rw [A0,A0,sizeLine_eq];omega,fun l3 hl3=>⟨(by show 3<=sizeLine;decide),fun T hT=>?_⟩⟩
 have s1:=qA2 hl3 (.lst (p.wks.map V.int++q.wks.map V.int));have sT:=s1.trans (qA2 hT (.tup [.int (if p.g+q.r > p.r then p.g+q.r else p.r),.int (p.g+q.g),.ref l3]))
 refine qq T l3 _ sT hl3 qA1 ?_;have e:(qFU p q).wks.map V.int=p.wks.map V.int++q.wks.map V.int:=by show (p.wks++q.wks).map V.int=_;rw [A9]
 rw [e,qA8 (qA5 qA1 hT)];exact qA1
theorem sc_joined_parts:FnScope ["parts","told","part","last"] ["parts"] (qAD qCQ):=⟨rfl,rfl,rfl,by decide +kernel,rfl,by decide +kernel,by decide +kernel⟩
theorem ok_joined_parts (F:Fun K "joined_parts" "joined_parts" qCQ f fd) (qI9:Clb P w K mg base 1 qI4 qN2 "joined" ["one","other"] qP2):FnOk P w K mg base CX0 2 f fd ["parts"] qP3:=by
 refine F.ok sc_joined_parts (fun vs H Q E h=>?_) (fun cdv A outer s H vs Q E hr h=>?_)
 ·obtain ⟨a,rs,ps,rfl,_⟩:=h
  rfl
 obtain ⟨a,rs,ps,rfl,hA,hP,lz,lp,qq⟩:=h;refine ⟨_,(qA4 (qAE (i:=1) sc_joined_parts.nd rfl (D0 rfl) (qBH qA3)) (qA4 (qBE C9 rfl (qBR (pv 0)) (qAA (i:=2) sc_joined_parts.nd rfl (D0 rfl)) (qA4 (qAE (i:=3) sc_joined_parts.nd rfl (D0 rfl) (pv 2)) (qA4 (qV7 C9 (PW.pt (qS1 (qV6 (pv 1) (fun _=>rfl)) (qO2 (PW.pt (qM4 (qAU qbD (qB0 qB3 (pv 3) qA7 (fun _ _=>rfl)) qA7 (qB1 _)) (qHG (qAU qXW (qAP qCA (qB0 qB3 (qB0 qEF (pv 1) (qQK qJV qA7) (fun _ _=>rfl)) qA7 (fun _ _=>rfl)) (qB0 qB3 (pv 3) qA7 (fun _ _=>rfl))) (qB0 qB3 (qB0 qEF (pv 1) (qQK qJV qA7) (fun _ _=>rfl)) qA7 (fun _ _=>rfl)) (qB1 _)))))))) (qA6 (qAE (i:=3) sc_joined_parts.nd rfl (D0 rfl) (qAZ qI9 hr rfl (qA0 (qWT E8 PySem.F.slot_list_pop PySem.F.type_list_pop qZW (pv 1)) (qA0 (pv 3) qA3)))))) (qA6 (qCL (qJN E8 L7 L8 qCV (pv 1) (qA0 (pv 3) qA3))))))) (qA6 (qAS (pv 1))))),?_⟩
 try dsimp only [Cx.nox,Cx.wish,cxOf]
 refine cut fun N0 hN0=>?_;refine ⟨(by show 0<=sizeLine;decide),fun lt hlt=>?_⟩
 have s1:=qA2 hlt (.lst []);have g1:(upd H lt (.lst [])) lt=some (.lst (([]:List Addr).reverse.map V.ref)):=qA1;generalize upd H lt (.lst [])=H1 at s1 g1 ⊢;refine hN0 _ _ ?_;refine ⟨_,rfl,a,rfl,⟨_,SqL.of (s1 _ _ hA)⟩,qCJ (a:=a) (xs:=rs.map V.ref) (fun i σ Hc=>∃ (srs:List Addr) (v2 v3:Option V),σ=[some (.ref a),some (.ref lt),v2,v3]/\Same H Hc/\Hc lt=some (.lst (srs.reverse.map V.ref))/\Paired (PrtX lt Hc) srs (jrun [] (ps.take i))/\(qAG (jrun [] (ps.take i))).length=(qAG (ps.take i)).length/\(jrun [] (ps.take i)).length<=i)
  ⟨[],none,none,rfl,s1,g1,.nil,rfl,B0 _⟩ (fun i σ Hc _ hP=>by obtain ⟨_,_,_,_,sm,_⟩:=hP;exact SqL.of (sm _ _ hA)) ?_ ?_⟩
 ·refine fun i x σ Hc hx hI_1=>opq fun G_1 hG_1=>?_;obtain ⟨srs,v2,v3,rfl,sc,gt,PX,lw,li⟩:=hI_1;obtain ⟨T0,e0,rfl⟩:=qH6 hx;obtain ⟨p,ep,hp⟩:=qBZ hP e0;refine hG_1 ?_;have hi:=(A4.mp ep).1;have ej:jrun [] (ps.take (i+1))=qCW (jrun [] (ps.take i)) p:=by rw [C4,ep,C0,qJ5]
  have ew:(qAG (ps.take (i+1))).length=(qAG (ps.take i)).length+p.wks.length:=by rw [C4,ep,C0,qAY,qBU,A7]
  have ew2:(qAG (ps.take (i+1))).length<=63:=by
   have:qAG ps=qAG (ps.take (i+1))++qAG (ps.drop (i+1)):=by rw [<- qAY,M3]
   rw [this,A7] at lz;omega
  have jl:=qMV (jrun [] (ps.take i)) p;refine cut fun M0 hM0=>?_;refine ⟨_,rfl,?_⟩;refine hM0 _ _ (cut fun M1 hM1=>?_);have fin:∀ (st:List Prt) (last:Prt) (T:Addr) (srs:List Addr) (Hd:Hp),Same H Hd->Hd lt=some (.lst (srs.reverse.map V.ref))->Paired (PrtX lt Hd) srs st->PrtX lt Hd T last->last::st=qCW (jrun [] (ps.take i)) p->M1 [some (.ref a),some (.ref lt),some (.ref T0),some (.ref T)] Hd:=by
   intro st last T srs Hd sd gd PX hT e;have ls:=C7 PX;have le:=congrArg A00 e;rw [E3] at le;refine hM1 _ _ ?_;refine ⟨_,rfl,.inl ⟨rfl,_,SqL.of gd⟩,_,rfl,lt,_,_,rfl,rfl,gd,qBD (by rw [A0,d4];omega),?_⟩
   refine ⟨T::srs,_,_,rfl,qAB sd hlt,by rw [qA1,K9,A9];rfl,?_,?_,?_⟩
   ·rw [ej,<- e];exact .cons (hT.put gd) (qBP PX fun _ _ z=>z.put gd)
   ·rw [ej,jl.1,ew,lw]
   ·rw [ej];have:=jl.2;omega
  refine ⟨fun m σ Hd=>∃ (srs:List Addr) (st:List Prt) (T:Addr) (last:Prt),σ=[some (.ref a),some (.ref lt),some (.ref T0),some (.ref T)]/\m=st.length/\Same H Hd/\Hd lt=some (.lst (srs.reverse.map V.ref))/\Paired (PrtX lt Hd) srs st/\PrtX lt Hd T last/\qCW st last=qCW (jrun [] (ps.take i)) p/\(qAG st).length+last.wks.length<=63/\st.length<=63,
   ⟨_,srs,_,T0,p,rfl,rfl,sc,gt,PX,(hp.out hlt).same sc,rfl,by omega,by omega⟩,?_⟩
  refine fun m σ Hd hI_2=>opq fun G_2 hG_2=>?_;obtain ⟨srs,st,T,last,rfl,rfl,sd,gd,PX,hT,ejs,lw4,ls4⟩:=hI_2;refine hG_2 ?_;refine ⟨_,rfl,_,.inl ⟨_,SqL.of gd,rfl⟩,?_⟩;cases PX with
  | nil=>
   refine iteF ?_;refine iteF ?_;exact fin [] last T [] Hd sd gd .nil hT ejs
  | @cons r b srs st hr' PX=>
   have nr:(!((r::srs).reverse.map V.ref).isEmpty)=true:=by simp
   rw [if_pos nr];obtain ⟨lb,nb,g2,g3⟩:=id hr';obtain ⟨ll,nl,k2,k3⟩:=id hT;have lat:atI ((r::srs).reverse.map V.ref) (-1)=some (.ref r):=by rw [K9,A9];exact qWF _ _
   have lwb:(qAG (b::st)).length=b.wks.length+(qAG st).length:=by
    show (qAG ([b]++st)).length=_;rw [qAY,qBU,A7]
   refine ⟨_,rfl,T,_,_,_,rfl,rfl,SqT.of k2,rfl,_,_,rfl,rfl,_,rfl,?_⟩;refine ite2 (fun c1=>?_) (fun c1=>?_)
   ·have cc:last.g<=0\/b.r<=b.g+last.r:=.inl (of_decide_eq_true c1);have ec:qCW st (qFU b last)=qCW (jrun [] (ps.take i)) p:=by rw [<- ejs];show _=(if last.g<=0\/b.r<=b.g+last.r then _ else _);rw [if_pos cc]
    refine ⟨fun σ' H'=>∃ (srs:List Addr) (st':List Prt) (T:Addr) (last:Prt),σ'=[some (.ref a),some (.ref lt),some (.ref T0),some (.ref T)]/\st'.length<(b::st).length/\Same H H'/\H' lt=some (.lst (srs.reverse.map V.ref))/\Paired (PrtX lt H') srs st'/\PrtX lt H' T last/\qCW st' last=qCW (jrun [] (ps.take i)) p/\(qAG st').length+last.wks.length<=63/\st'.length<=63,
     fun σ' H' ⟨srs',st',T',last',e,l',z⟩=>⟨_,l',srs',st',T',last',e,rfl,z⟩,?_⟩
    refine ⟨_,rfl,.inl ⟨rfl,_,SqL.of gd⟩,lt,_,_,rfl,rfl,gd,qGE.1,?_⟩;rw [qGE.2];have PX5:Paired (PrtX lt (upd Hd lt (.lst (srs.reverse.map V.ref)))) srs st:=qBP PX fun _ _ z=>z.put gd;have hr5:=hr'.put (o:=.lst (srs.reverse.map V.ref)) gd;have hT5:=hT.put (o:=.lst (srs.reverse.map V.ref)) gd;have s5:Same H (upd Hd lt (.lst (srs.reverse.map V.ref))):=qAB sd hlt;have g5:(upd Hd lt (.lst (srs.reverse.map V.ref))) lt=some (.lst (srs.reverse.map V.ref)):=qA1;generalize upd Hd lt (.lst (srs.reverse.map V.ref))=H5 at PX5 hr5 hT5 s5 g5 ⊢;refine ⟨_,rfl,r,T,b,last,rfl,hr5.at_,hT5.at_,by omega,fun T' l' H6 s6 fl' gT' gl'=>?_⟩
    refine ⟨srs,st,T',qFU b last,rfl,by rw [E3];omega,s5.trans s6,s6 _ _ g5,qBP PX5 fun _ _ z=>z.same s6,⟨l',(qA5 g5 fl').symm,gT',gl'⟩,ec,?_,by rw [E3] at ls4;omega⟩
    show (qAG st).length+(b.wks++last.wks).length<=63;rw [A7];omega
   ·refine ⟨_,rfl,_,rfl,lt,_,_,_,rfl,rfl,SqL.of gd,lat,r,_,_,_,rfl,rfl,SqT.of g2,rfl,_,rfl,T,_,_,_,rfl,rfl,SqT.of k2,rfl,_,_,rfl,rfl,_,rfl,_,rfl,lt,_,_,_,rfl,rfl,SqL.of gd,lat,r,_,_,_,rfl,rfl,SqT.of g2,rfl,_,_,rfl,rfl,_,rfl,?_⟩;refine ite2 (fun c2=>?_) (fun c2=>?_)
    ·have cc:last.g<=0\/b.r<=b.g+last.r:=.inr (of_decide_eq_true c2);have ec:qCW st (qFU b last)=qCW (jrun [] (ps.take i)) p:=by rw [<- ejs];show _=(if last.g<=0\/b.r<=b.g+last.r then _ else _);rw [if_pos cc]
     refine ⟨fun σ' H'=>∃ (srs:List Addr) (st':List Prt) (T:Addr) (last:Prt),σ'=[some (.ref a),some (.ref lt),some (.ref T0),some (.ref T)]/\st'.length<(b::st).length/\Same H H'/\H' lt=some (.lst (srs.reverse.map V.ref))/\Paired (PrtX lt H') srs st'/\PrtX lt H' T last/\qCW st' last=qCW (jrun [] (ps.take i)) p/\(qAG st').length+last.wks.length<=63/\st'.length<=63,
      fun σ' H' ⟨srs',st',T',last',e,l',z⟩=>⟨_,l',srs',st',T',last',e,rfl,z⟩,?_⟩
     refine ⟨_,rfl,.inl ⟨rfl,_,SqL.of gd⟩,lt,_,_,rfl,rfl,gd,qGE.1,?_⟩;rw [qGE.2];have PX5:Paired (PrtX lt (upd Hd lt (.lst (srs.reverse.map V.ref)))) srs st:=qBP PX fun _ _ z=>z.put gd;have hr5:=hr'.put (o:=.lst (srs.reverse.map V.ref)) gd;have hT5:=hT.put (o:=.lst (srs.reverse.map V.ref)) gd;have s5:Same H (upd Hd lt (.lst (srs.reverse.map V.ref))):=qAB sd hlt;have g5:(upd Hd lt (.lst (srs.reverse.map V.ref))) lt=some (.lst (srs.reverse.map V.ref)):=qA1;generalize upd Hd lt (.lst (srs.reverse.map V.ref))=H5 at PX5 hr5 hT5 s5 g5 ⊢;refine ⟨_,rfl,r,T,b,last,rfl,hr5.at_,hT5.at_,by omega,fun T' l' H6 s6 fl' gT' gl'=>?_⟩
     refine ⟨srs,st,T',qFU b last,rfl,by rw [E3];omega,s5.trans s6,s6 _ _ g5,qBP PX5 fun _ _ z=>z.same s6,⟨l',(qA5 g5 fl').symm,gT',gl'⟩,ec,?_,by rw [E3] at ls4;omega⟩
     show (qAG st).length+(b.wks++last.wks).length<=63;rw [A7];omega
    ·have n1:¬ last.g<=0:=fun z=>c1 (decide_eq_true z);have n2:¬ b.r<=b.g+last.r:=fun z=>c2 (decide_eq_true z);refine fin (b::st) last T (r::srs) Hd sd gd (.cons hr' PX) hT ?_;rw [<- ejs];show _=(if last.g<=0\/b.r<=b.g+last.r then _ else _)
     rw [if_neg (by omega)]
 ·refine fun σ Hc hI_3=>opq fun G_3 hG_3=>?_;obtain ⟨srs,v2,v3,rfl,sc,gt,PX,lw,li⟩:=hI_3;refine hG_3 ?_;rw [A0,C7 hP,qAX rfl] at PX;exact ⟨_,rfl,qq lt srs.reverse Hc sc hlt gt (qO4 (qBP PX fun _ _ e=>e.at_))⟩
end
section
variable {P:Program} {w:World} {K:PySem.W.Frag} {mg:Str->Option Value} {base:Heap} {f:Addr} {fd:FuncData} {Pt cc:Addr} {qCT:Addr} {qF2:FuncData}
theorem sc_parts_over:FnScope ["net","wides","work","own","parts","need","given_up"] ["net","wides","work","own"] (qAD qBV):=⟨rfl,rfl,rfl,by decide +kernel,rfl,by decide +kernel,by decide +kernel⟩
theorem ok_parts_over (F:Fun K "parts_over" "parts_over" qBV f fd) (hcd:fd.code=.ref cc) (hBM:BM mg base) (qC0:hdIn K cc Pt=true) (qCU:Clb P w K mg base 2 qCT qF2 "joined_parts" ["parts"] qP3) (qAT:mg "sorted" = none) (qHO:mg "sum" = none):FnOk P w K mg base CX0 3 f fd ["net","wides","work","own"] (qHD Pt):=by
 refine F.okL hcd sc_parts_over (fun vs H Q E h=>?_) (fun A outer s H vs Q E hr h=>?_)
 ·obtain ⟨a,t,own,Ae,ws,ks,z,ad,F,rfl,_⟩:=h
  rfl
 obtain ⟨a,t,own,Ae,ws,ks,z,ad,F,rfl,hTab,hN,wf,n400,WD,z0,z1,gown,hF,lw,lp,wnd,wne,qq⟩:=h;have hu:=qJP hr;have rm:Room 2 _:=hr;refine ⟨_,(qA4 (qAE (i:=4) sc_parts_over.nd rfl (D0 rfl) (qBH qA3)) (qA4 (qBE C9 rfl (qDF (qB0 qB3 (pv 0) (pv 2) (fun _ _=>rfl))) (qAA (i:=5) sc_parts_over.nd rfl (D0 rfl)) (qA6 (qCL (qJN E8 X8 X9 qIX (pv 4) (qA0 (qD1 hu (pv 3) (pv 5) (fun _ _=>rfl)) qA3))))) (qA4 (qAE (i:=4) sc_parts_over.nd rfl (D0 rfl) (qVC (p:="part") (fv:=[]) (q:="parts_over.<locals>.<lambda>") rm rfl qAT qDK hBM rfl qC0 (by kernel_rfl) (lms (by kernel_rfl)) rfl (fun _ _ _ _ _=>rfl) (qA0 (pv 4) qA3) (fun z1=>(qAP qDG (qB0 (qEE (K:=K) rfl) (pv 0) qA7 (fun _ _=>rfl)) (qB0 (qEE (K:=K) rfl) (pv 0) qA7 (fun _ _=>rfl)))))) (qA4 (qAE (i:=6) sc_parts_over.nd rfl (D0 rfl) (qA9 (qLK rfl) rfl qHO qU9 (qA0 (qEA rfl (lcs (own:=["need"]) (fv:=[1]) (by kernel_rfl)) (qDF (qB0 qB3 (pv 0) (pv 2) (fun _ _=>rfl))) (fun z2=>qAA (i:=0) (qD2 (by kernel_rfl)) rfl (D0 rfl)) (fun z2=>qBQ) (fun z2=>(qB0 (qEE (K:=K) rfl) (pv 1) (pv 0) (fun _ _=>rfl)))) qA3))) (qA6 (qAS (qAZ qCU hr rfl (qA0 (qAP qMD (pv 4) (qBH (qA0 (qC5 (qA0 (qB0 qB3 (pv 1) (pv 2) (fun _ _=>rfl)) (qA0 (qAP qDG (qB0 qB3 (pv 1) (pv 2) (fun _ _=>rfl)) (pv 6)) (qA0 (qBH (qA0 (pv 2) qA3)) qA3)))) qA3))) qA3)))))))),?_⟩
 try dsimp only [Cx.nox,Cx.wish,cxOf]
 have hw:z.toNat<Ae.length:=by omega
 obtain ⟨rn,r,h1,l1,h2,h3⟩:=hN.get (A1 hw);have rz:=wf z.toNat _ (A1 hw);have en:=qAF (A1 hw);generalize Ae[z.toNat]=ys at h3 rz en;rw [en] at hF lw lp wnd wne;have lys:=rz.len;have hwd:∀ y,0<=y->y<(Ae.length:Int)->atI (ws.map V.int) y=some (.int (wdO ws y)):=fun y y0 y1=>by
  have hl:y.toNat<ws.length:=by have:=WD.2;omega
  refine qBT y0 ?_;rw [B1,A1 hl];unfold wdO;rw [A1 hl]
  rfl
 refine cut fun N0 hN0=>?_;refine ⟨(by show 0<=sizeLine;decide),fun la hla=>?_⟩
 have s1:=qA2 hla (.lst []);have g1:(upd H la (.lst [])) la=some (.lst (([]:List Addr).map V.ref)):=qA1;generalize upd H la (.lst [])=H1 at s1 g1 ⊢;refine hN0 _ _ (cut fun N1 hN1=>?_);have lflat:∀ j,(((ys.take j).map F).flatten).length<=62:=fun j=>by
  have e1:(ys.map F).flatten=((ys.take j).map F).flatten++((ys.drop j).map F).flatten:=by rw [<- R5,<- A9,M3]
  rw [e1,A7] at lp;omega
 refine ⟨_,rfl,_,rfl,a,_,_,_,rfl,rfl,SqT.of (s1 _ _ h1),qBT z0 h2,r,rfl,⟨_,SqT.of (s1 _ _ h3)⟩,qEY (a:=r) (xs:=ys.map V.int) (fun j σ Hx=>∃ (v5:Option V) (qs:List Addr),σ=[some (.ref a),some (.ref t),some (.int z),some (.ref own),some (.ref la),v5,none]/\Same H Hx/\Hx la=some (.lst (qs.map V.ref))/\PrtL H qs ((ys.take j).map F).flatten)
  ⟨none,[],rfl,s1,g1,.nil⟩ (fun j σ Hx _ hP=>by obtain ⟨_,_,_,sx,_⟩:=hP;exact SqT.of (sx _ _ h3)) ?_ ?_⟩
 ·refine fun j x σ Hx hx hI_1=>opq fun G_1 hG_1=>?_;obtain ⟨v5,qs,rfl,sx,gx,PQ⟩:=hI_1;obtain ⟨y,ey,rfl⟩:=qAQ hx;refine hG_1 ?_;have my:=B4 ey;obtain ⟨yk,rs,gy,Py⟩:=hF y my;have hg:=DGet.k (k:=J1 y) (sx _ _ gown);rw [qED (g:=fun z=>V.ref (ad z)) yk] at hg;have ef:((ys.take (j+1)).map F).flatten=((ys.take j).map F).flatten++F y:=by rw [C4,ey,C0,A9,R5];simp
  have lj:=lflat (j+1);rw [ef,A7] at lj;have lq:=C7 PQ;have lr:=C7 Py;refine ⟨_,rfl,.inl ⟨rfl,_,SqL.of gx⟩,_,rfl,_,rfl,own,_,rfl,hg,la,ad y,_,_,rfl,rfl,gx,sx _ _ gy,by rw [A0,A0,sizeLine_eq];omega,?_⟩
  rw [<- A9];exact ⟨_,qs++rs,rfl,qAB sx hla,qA1,by rw [ef];exact qH1 PQ Py⟩
 refine fun σ Hx hI_2=>opq fun G_2 hG_2=>?_;obtain ⟨v5,qs,rfl,sx,gx,PQ⟩:=hI_2;refine hG_2 ?_;rw [A0,qAX rfl] at PQ;have lq:=C7 PQ;refine hN1 _ _ (cut fun N2 hN2=>?_);refine ⟨_,rfl,sx _ _ hTab,la,qs.map V.ref,(ys.map F).flatten.map (fun q=>[kyS q.s]),rfl,.inr (SqL.of gx),by rw [A0];omega,by rw [A0,A0,lq],?_,fun H5 D rs5 s5 hD pm so sti=>?_⟩
 ·intro i x k hx hk2 Hc sc;obtain ⟨T,eT,rfl⟩:=qH6 hx;obtain ⟨p,ep,l,hp,_⟩:=qBZ PQ eT;rw [B1,ep] at hk2;cases hk2;have gT:=sc _ _ (sx _ _ hp);exact ⟨_,rfl,T,_,_,_,rfl,rfl,SqT.of gT,rfl,_,rfl,T,_,_,_,rfl,rfl,SqT.of gT,rfl,_,_,rfl,rfl,fun _ _ e=>e,_,rfl,rfl⟩
 obtain ⟨rs2,srt,P2,so2,e2⟩:=qZC PQ (sti qs rfl (qS4 PQ wnd wne));have ps2:=so2.perm;rw [e2];have sD:=qA2 hD (.lst (rs2.map V.ref));have gD:(upd H5 D (.lst (rs2.map V.ref))) D=some (.lst (rs2.map V.ref)):=qA1;have s6:Same H (upd H5 D (.lst (rs2.map V.ref))):=fun b o e=>sD b o (s5 b o (sx b o e));generalize upd H5 D (.lst (rs2.map V.ref))=H6 at gD s6 ⊢;have l2:=C7 P2;have l3:=ps2.length_eq;refine hN2 _ _ (cut fun N3 hN3=>?_);refine ⟨_,rfl,_,rfl,a,_,_,_,rfl,rfl,SqT.of (s6 _ _ h1),qBT z0 h2,r,rfl,⟨_,SqT.of (s6 _ _ h3)⟩,fun p hp=>?_⟩;refine qHI (p:=p) (a:=r) (xs:=ys.map V.int) (fun j σ Hc=>∃ (v:Option V),σ=[v,some (.ref t)]/\Same H6 Hc/\Hc p=some (.lst (((ys.take j).map (wdO ws)).map V.int))) ?_ ?_ ?_ ?_
 ·exact ⟨none,rfl,qA2 hp _,qA1⟩
 ·rintro j σ Hc hj ⟨v,rfl,sc,_⟩;exact SqT.of (sc _ _ (s6 _ _ h3))
 ·refine fun j x σ Hc hx hI_4=>opq fun G_4 hG_4=>?_;obtain ⟨v,rfl,sc,hpc⟩:=hI_4;obtain ⟨y,ey,rfl⟩:=qAQ hx;refine hG_4 ?_;have yb:=rz.in_ y (B4 ey);have lj:=(A4.mp ey).1;refine ⟨_,rfl,_,rfl,t,_,_,_,rfl,rfl,SqT.of (sc _ _ (s6 _ _ WD.1)),hwd y yb.1 (by omega),_,hpc,qBD (by rw [A0,A0,D1];omega),_,rfl,qAB sc hp,?_⟩
  rw [qA1,C4,ey,C0,A9,A9]
  rfl
 refine fun σ Hc hI_5=>opq fun G_5 hG_5=>?_;obtain ⟨v,rfl,sc,hpc⟩:=hI_5;refine hG_5 ?_;rw [A0,qAX rfl] at hpc;refine ⟨p,_,rfl,SqL.of hpc,?_⟩;have es:(ys.map (wdO ws)).sum=sumW ws (nd Ae z):=by rw [en];rfl
 rw [es];have s7:=s6.trans sc;have gD7:=sc _ _ gD;refine hN3 _ _ ?_;refine ⟨_,rfl,_,rfl,_,rfl,t,_,_,_,rfl,rfl,SqT.of (s7 _ _ WD.1),hwd z z0 z1,_,rfl,_,rfl,t,_,_,_,rfl,rfl,SqT.of (s7 _ _ WD.1),hwd z z0 z1,_,rfl,_,_,rfl,rfl,_,rfl,(by show 1<=sizeLine;decide),fun l4 hl4=>⟨(by show 3<=sizeLine;decide),fun T4 hT4=>⟨(by show 1<=sizeLine;decide),fun l5 hl5=>?_⟩⟩⟩
 have u4:=qA2 hl4 (.lst [.int z]);have g4:(upd Hc l4 (.lst [.int z])) l4=some (.lst ([z].map V.int)):=qA1;generalize upd Hc l4 (.lst [.int z])=H8 at u4 g4 hT4 hl5 ⊢;have u5:=qA2 hT4 (.tup [.int (wdO ws z),.int (wdO ws z - sumW ws (nd Ae z)),.ref l4]);have gT4:(upd H8 T4 (.tup [.int (wdO ws z),.int (wdO ws z - sumW ws (nd Ae z)),.ref l4])) T4=some (.tup [.int (qKX Ae ws z).r,.int (qKX Ae ws z).g,.ref l4]):=qA1;generalize upd H8 T4 (.tup [.int (wdO ws z),.int (wdO ws z - sumW ws (nd Ae z)),.ref l4])=H9 at u5 gT4 hl5 ⊢;have u6:=qA2 hl5 (.lst [.ref T4]);refine ⟨D,l5,_,[V.ref T4],rfl,rfl,u6 _ _ (u5 _ _ (u4 _ _ gD7)),qA1,by rw [A0,C3,sizeLine_eq];omega,fun l6 hl6=>?_⟩
 have e6:rs2.map V.ref++[V.ref T4]=(rs2++[T4]).map V.ref:=by rw [A9];rfl
 rw [e6];have u7:=u6.trans (qA2 hl6 (.lst ((rs2++[T4]).map V.ref)));have g6:(upd (upd H9 l5 (.lst [.ref T4])) l6 (.lst ((rs2++[T4]).map V.ref))) l6=some (.lst ((rs2++[T4]).map V.ref)):=qA1;generalize upd (upd H9 l5 (.lst [.ref T4])) l6 (.lst ((rs2++[T4]).map V.ref))=Ha at u7 g6 ⊢;have sa:=s7.trans (u4.trans (u5.trans u7));have root:PrtAt Ha T4 (qKX Ae ws z):=⟨l4,u7 _ _ gT4,u7 _ _ (u5 _ _ g4)⟩;have lws:(qAG srt).length=(qAG (ys.map F).flatten).length:=((ps2.map Prt.wks).flatten).length_eq;refine ⟨l6,rs2++[T4],srt++[qKX Ae ws z],rfl,g6,qH1 (PrtL.same P2 sa) (.cons root .nil),?_,by rw [A7,C3];omega,fun l rs' H' s' fl' gl' PL'=>?_⟩
 ·rw [qAY,qBU,A7];show _+1<=63;omega
 ·exact qq l rs' srt H' (sa.trans s') (sa.free fl') (by rw [en];exact so2) gl' PL'
end
section
variable {P:Program} {w:World} {K:PySem.W.Frag} {mg:Str->Option Value} {base:Heap} {f:Addr} {fd:FuncData} {Pt:Addr} {qC2 qBI qCY qDA qCC:Addr} {qCR qC1 qLC qEG qD7:FuncData}
theorem sc_wide_order:FnScope ["net","wides","work","own","other","order","part"] ["net","wides","work"] (qAD qDO):=⟨rfl,rfl,rfl,by decide +kernel,rfl,by decide +kernel,by decide +kernel⟩
theorem ok_wide_order (F:Fun K "wide_order" "wide_order" qDO f fd) (qBC:Clb P w K mg base 3 qC2 qCR "demand_tree" ["net","work"] qIJ) (qAW:Clb P w K mg base 1 qBI qC1 "all_needed" ["net","asked"] qUW) (qDX:Clb P w K mg base 3 qCY qLC "parts_over" ["net","wides","work","own"] (qHD Pt)):FnOk P w K mg base CX0 4 f fd ["net","wides","work"] (qET Pt):=by
 refine F.ok sc_wide_order (fun vs H Q E h=>?_) (fun cdv A outer s H vs Q E hr h=>?_)
 ·obtain ⟨a,t,Ae,ws,work,rfl,_⟩:=h
  rfl
 obtain ⟨a,t,Ae,ws,work,rfl,hTab,⟨NI,WD,w1,iT⟩,q⟩:=h;have hu:=qJP hr;refine ⟨_,(qA4 (qCL (qAZ qBC hr rfl (qA0 (pv 0) (qA0 (pv 2) qA3)))) (qA4 (qAE (i:=3) sc_wide_order.nd rfl (D0 rfl) qFI) (qA4 (qBE C9 rfl (qBR (qAZ qAW hr rfl (qA0 (pv 0) (qA0 (qC5 (qA0 (pv 2) qA3)) qA3)))) (qAA (i:=4) sc_wide_order.nd rfl (D0 rfl)) (qA6 (qE9 hu (pv 3) (pv 4) (qAZ qDX hr rfl (qA0 (pv 0) (qA0 (pv 1) (qA0 (pv 4) (qA0 (pv 3) qA3))))) rfl))) (qA4 (qAE (i:=5) sc_wide_order.nd rfl (D0 rfl) (qBH qA3)) (qA4 (qBE C9 rfl (qBR (qD1 hu (pv 3) (pv 2) (fun _ _=>rfl))) (qAA (i:=6) sc_wide_order.nd rfl (D0 rfl)) (qA6 (qCL (qJN E8 X8 X9 qIX (pv 5) (qA0 (qB0 qB3 (pv 6) qA7 (fun _ _=>rfl)) qA3))))) (qA6 (qAS (pv 5)))))))),?_⟩
 try dsimp only [Cx.nox,Cx.wish,cxOf]
 obtain ⟨hN,wf,n400,wk0,wk1⟩:=id NI;refine cut fun N0 hN0=>?_;refine ⟨_,rfl,_,rfl,a,Ae,work,rfl,NI,iT,fun H1 s1=>?_⟩;refine hN0 _ _ (cut fun N1 hN1=>?_);intro dn hdn;have s2:=s1.trans (qA2 hdn (.dK []));have gd2:(upd H1 dn (.dK [])) dn=some (.dK (kvsV [] fun _=>V.non)):=qA1;have fdn:H dn=none:=s1.free hdn;generalize upd H1 dn (.dK [])=H2 at s2 gd2 ⊢;refine hN1 _ _ (cut fun N2 hN2=>?_);refine ⟨_,rfl,_,rfl,(by show 1<=sizeLine;decide),fun ta hta=>?_⟩
 have sta:=qA2 hta (.tup [.int work]);have gta:(upd H2 ta (.tup [.int work])) ta=some (.tup ([work].map V.int)):=qA1;have s3:=s2.trans sta;have gd3:=sta _ _ gd2;generalize upd H2 ta (.tup [.int work])=H3 at gta s3 gd3 ⊢;refine ⟨a,ta,Ae,[work],rfl,hN.same s3,wf,by omega,gta,(fun x hx=>by rw [A3.mp hx];omega),fun lw zs H4 s4 f4 gw N=>?_⟩
 have lz:=N.1.len;have s5:=s3.trans s4;have gd4:=s4 _ _ gd3;have nwd:lw ≠ dn:=qBS gw gd4 (by intro z;cases z)
 have T:=qLX wf n400 N iT;refine ⟨lw,rfl,⟨_,SqL.of gw⟩,qCJ (a:=lw) (xs:=zs.map V.int) (fun i σ Hc=>∃ (ad:Int->Addr) (Fp:Int->List Prt) (v4 v5 v6:Option V),σ=[some (.ref a),some (.ref t),some (.int work),some (.ref dn),v4,v5,v6]/\Same H Hc/\Hc lw=some (.lst (zs.map V.int))/\Hc dn=some (.dK (kvsV (zs.take i) fun z=>.ref (ad z)))/\∀ z ∈ zs.take i,(PrtOk Ae ws z (Fp z)/\∃ srt,StO ((nd Ae z).map Fp).flatten srt/\Fp z=(jrun [] (srt++[qKX Ae ws z])).reverse)/\∃ rs:List Addr,Hc (ad z)=some (.lst (rs.map V.ref))/\PrtL Hc rs (Fp z))
  ⟨fun _=>a,fun _=>[],none,none,none,rfl,s5,gw,gd4,fun z hz=>by simp at hz⟩ (fun i σ Hc _ hP=>by obtain ⟨_,_,_,_,_,_,_,g,_⟩:=hP;exact SqL.of g) ?_ ?_⟩
 ·refine fun i x σ Hc hx hI_1=>opq fun G_1 hG_1=>?_;obtain ⟨ad,Fp,v4,v5,v6,rfl,sc,gwc,gdc,PA⟩:=hI_1;obtain ⟨z,ez,rfl⟩:=qAQ hx;refine hG_1 ?_;have hi:=(A4.mp ez).1;have hz:=B4 ez;have zb:=N.1.in_ z hz;have hys:∀ y ∈ nd Ae z,y ∈ zs.take i:=fun y hy=>(qD9 wf N ez hy).1;have kn:=qH3 (F:=Fp) T hz (nd Ae z) (T.nodup hz) fun y hy=>⟨hy,(PA y (hys y hy)).1.1.ord⟩;have lk:(((nd Ae z).map fun y=>qAG (Fp y)).flatten).length+1<=63:=by
   have nz:(z::((nd Ae z).map fun y=>qAG (Fp y)).flatten).Nodup:=G7.mpr ⟨fun m=>by
    obtain ⟨l,hl,hm⟩:=J2.mp m;obtain ⟨y,hy,rfl⟩:=E2.mp hl;have:=qMG wf (((PA y (hys y hy)).1.1.ord.mem z).mp hm);have:=(T.has hz hy).2.1;omega,kn⟩
   have:=qIW nz (n:=Ae.length) fun x hx=>by
    rcases B6.mp hx with e | e
    ·rw [e];exact zb
    ·obtain ⟨l,hl,hm⟩:=J2.mp e;obtain ⟨y,hy,rfl⟩:=E2.mp hl;obtain ⟨yy,NY,sy⟩:=qFG T (T.has hz hy).1;exact N.1.in_ x (sy x ((NY.2 x).mpr (((PA y (hys y hy)).1.1.ord.mem x).mp hm)))
   rw [E3] at this;omega
  rw [<- qKK] at lk kn;have lk2:((nd Ae z).map Fp).flatten.length<=(qAG ((nd Ae z).map Fp).flatten).length:=qS5 (Ae:=Ae) (ws:=ws) fun p hp=>by
   obtain ⟨l,hl,hm⟩:=J2.mp hp;obtain ⟨y,hy,rfl⟩:=E2.mp hl;exact (PA y (hys y hy)).1.1.eqv p hm
  refine ⟨_,rfl,_,rfl,_,rfl,_,rfl,a,t,dn,Ae,ws,zs.take i,z,ad,Fp,rfl,sc _ _ hTab,hN.same sc,wf,n400,⟨sc _ _ WD.1,WD.2⟩,zb.1,zb.2,gdc,(fun y hy=>⟨hys y hy,(PA y (hys y hy)).2⟩),by omega,by omega,kn,(fun p hp=>by
   obtain ⟨l,hl,hm⟩:=J2.mp hp;obtain ⟨y,hy,rfl⟩:=E2.mp hl;exact qZM ((PA y (hys y hy)).1.1.eqv p hm)),fun l rs srt H6 s6 fl sto gl PL=>?_⟩
  have ok:=qQL T w1 hz (fun y hy=>(PA y (hys y hy)).1.1) sto.perm sto.up;have keep:∀ x,x ∈ zs->x<=z->(nd Ae x).map (fun y=>if y=z then (jrun [] (srt++[qKX Ae ws z])).reverse else Fp y)=(nd Ae x).map Fp:=fun x hx le=>K0 fun y hy=>by
   have:=T.has hx hy;rw [if_neg (by omega)]
  have gdy:=s6 _ _ gdc;have zno:z ∉ zs.take i:=fun m=>by have:=qNX N ez m;omega
  have put:=DPut.k (k:=J1 z) (v:=.ref l) gdy (qBD (by unfold kvsV;rw [A0,D1];omega))
  rw [qPP zno] at put;refine ⟨_,rfl,_,rfl,dn,_,rfl,put,?_⟩;refine ⟨fun y=>if y=z then l else ad y,fun y=>if y=z then (jrun [] (srt++[qKX Ae ws z])).reverse else Fp y,_,_,_,rfl,qAB (sc.trans s6) fdn,by rw [qA8 nwd];exact s6 _ _ gwc,?_,fun x hx=>?_⟩
  ·rw [qA1,C4,ez,C0];congr 3
   funext y
   show _=V.ref (if y=z then l else ad y)
   by_cases c:y=z
   ·rw [if_pos c,if_pos c]
   ·rw [if_neg c,if_neg c]
  ·rw [C4,ez,C0] at hx;dsimp only;rcases D6.mp hx with m | m
   ·have ne:x ≠ z:=fun e=>zno (e ▸ m);rw [if_neg ne,if_neg ne,keep x (M7 m) (by have:=qNX N ez m;omega)]
    obtain ⟨p1,rs',p2,p3⟩:=PA x m;exact ⟨p1,rs',by rw [qA8 (qBS (s6 _ _ p2) gdy (by intro z;cases z))];exact s6 _ _ p2,qBP p3 fun _ _ e=>(e.same s6).dict gdy⟩
   ·have ex:=A3.mp m;subst ex;rw [if_pos rfl,if_pos rfl,keep _ hz (E6 _)];exact ⟨⟨ok,srt,sto,rfl⟩,rs,by rw [qA8 (qBS gl gdy (by intro z;cases z))];exact gl,qBP PL fun _ _ e=>e.dict gdy⟩
 ·refine fun σ Hc hI_2=>opq fun G_2 hG_2=>?_;obtain ⟨ad,Fp,v4,v5,v6,rfl,sc,gwc,gdc,PA⟩:=hI_2;refine hG_2 ?_;rw [A0,qAX rfl] at gdc PA;have hw:=qIV N;have hg:=DGet.k (k:=J1 work) gdc;rw [qED (g:=fun z=>V.ref (ad z)) hw] at hg;obtain ⟨⟨ok,_⟩,rs,p2,p3⟩:=PA work hw;refine hN2 _ _ (cut fun N3 hN3=>?_);refine ⟨(by show 0<=sizeLine;decide),fun lo hlo=>?_⟩
  have s6:=qA2 hlo (.lst []);have g6:(upd Hc lo (.lst [])) lo=some (.lst (([]:List Int).map V.int)):=qA1;have hg6:=DGet.k (k:=J1 work) (s6 _ _ gdc);rw [qED (g:=fun z=>V.ref (ad z)) hw] at hg6;generalize upd Hc lo (.lst [])=H6 at s6 g6 hg6 ⊢;refine hN3 _ _ (cut fun N4 hN4=>?_);have lL:=(ok.ord.all T).2;refine ⟨_,rfl,_,rfl,dn,_,rfl,hg6,ad work,rfl,⟨_,SqL.of (s6 _ _ p2)⟩,qCJ (a:=ad work) (xs:=rs.map V.ref) (fun j σ Hx=>∃ (v6:Option V),σ=[some (.ref a),some (.ref t),some (.int work),some (.ref dn),v4,some (.ref lo),v6]/\Same Hc Hx/\Hx lo=some (.lst ((qAG ((Fp work).take j)).map V.int)))
   ⟨v6,rfl,s6,g6⟩ (fun j σ Hx _ hP=>by obtain ⟨_,_,sx,_⟩:=hP;exact SqL.of (sx _ _ p2)) ?_ ?_⟩
  ·refine fun j x σ Hx hx hI_3=>opq fun G_3 hG_3=>?_;obtain ⟨v6,rfl,sx,gx⟩:=hI_3;obtain ⟨T1,eT,rfl⟩:=qH6 hx;obtain ⟨p,ep,l,h1,h2⟩:=qBZ p3 eT;refine hG_3 ?_;have ew:qAG ((Fp work).take (j+1))=qAG ((Fp work).take j)++p.wks:=by rw [C4,ep,C0,qAY,qBU]
   have ll:(qAG ((Fp work).take (j+1))).length<=63:=by
    have:qAG (Fp work)=qAG ((Fp work).take (j+1))++qAG ((Fp work).drop (j+1)):=by rw [<- qAY,M3]
    rw [this,A7] at lL;omega
   rw [ew,A7] at ll;refine ⟨_,rfl,.inl ⟨rfl,_,SqL.of gx⟩,_,rfl,T1,_,_,_,rfl,rfl,SqT.of (sx _ _ h1),rfl,lo,l,_,_,rfl,rfl,gx,sx _ _ h2,by rw [A0,A0,sizeLine_eq];omega,?_⟩
   rw [<- A9,<- ew];exact ⟨_,rfl,qAB sx hlo,qA1⟩
  ·refine fun σ Hx hI_4=>opq fun G_4 hG_4=>?_;obtain ⟨v6,rfl,sx,gx⟩:=hI_4;refine hG_4 ?_;rw [A0,C7 p3,qAX rfl] at gx;exact hN4 _ _ ⟨_,rfl,q lo _ Hx (sc.trans sx) (sc.free hlo) gx ⟨ok.ord,ok.best⟩ ⟨Fp,fun z hz=>(PA z ((N.2 z).mpr hz)).1.2,rfl⟩⟩
theorem qKU:FnScope ["net","wides","work"] ["net","wides","work"] (qAD qDN):=⟨rfl,rfl,rfl,by decide +kernel,rfl,by decide +kernel,by decide +kernel⟩
theorem ok_wide_rooms (F:Fun K "wide_rooms" "wide_rooms" qDN f fd) (qCD:Clb P w K mg base 1 qDA qEG "taken_by" ["net","wides","work","order"] qIG) (qB7:Clb P w K mg base 4 qCC qD7 "wide_order" ["net","wides","work"] (qET Pt)) (qDY:mg "max" = none):FnOk P w K mg base CX0 5 f fd ["net","wides","work"] (qIF Pt):=by
 refine F.ok qKU (fun vs H Q E h=>?_) (fun cdv A outer s H vs Q E hr h=>?_)
 ·obtain ⟨a,t,Ae,ws,work,rfl,_⟩:=h
  rfl
 obtain ⟨a,t,Ae,ws,work,rfl,hTab,SI,q⟩:=h;refine ⟨_,(qA6 (qAS (qA9 (qJD rfl) rfl qDY qKG (qA0 (qAZ qCD hr rfl (qA0 (pv 0) (qA0 (pv 1) (qA0 (pv 2) (qA0 (qAZ qB7 hr rfl (qA0 (pv 0) (qA0 (pv 1) (qA0 (pv 2) qA3)))) qA3))))) qA3)))),?_⟩
 try dsimp only [Cx.nox,Cx.wish,cxOf]
 obtain ⟨⟨hN,wf,n400,wk0,wk1⟩,WD,w1,iT⟩:=id SI;refine ⟨_,rfl,_,rfl,_,rfl,_,rfl,_,rfl,_,rfl,a,t,Ae,ws,work,rfl,hTab,SI,fun l L H1 s1 fl gl B _=>?_⟩;obtain ⟨zs,N,tb⟩:=id iT;have T:=qLX wf n400 N iT;obtain ⟨TO,lL⟩:=B.1.all T;refine ⟨a,t,l,work,Ae,ws,L,rfl,hN.same s1,wf,n400,⟨s1 _ _ WD.1,WD.2⟩,gl,TO,lL,fun l2 H2 s2 f2 g2=>?_⟩;have ne:∃ m,topD none (qC4 Ae ws L)=some m:=by
  have hm:0<L.length:=List.length_pos_of_mem ((B.1.mem work).mpr (.ask (A3.mpr rfl)));have le:(qC4 Ae ws L).length=L.length:=by unfold qC4;rw [A0,W7]
  cases e:qC4 Ae ws L with
  | nil=>rw [e] at le;simp at le;omega
  | cons x r=>exact ⟨_,rfl⟩
 obtain ⟨m,hm⟩:=ne;exact ⟨l2,_,m,rfl,SqL.of g2,hm,q m L H2 (s1.trans s2) B hm⟩
end
theorem qSR {Ae:List (List Int)} {Ad:List Int} (wf:WFn Ae) (r:Rise (Ae.length:Int) Ad) {x:Int} (h:Nd Ae Ad x):0<=x/\x<(Ae.length:Int):=by
 induction h with
 | ask m=>exact r.in_ _ m
 | need _ e hy ih=>
  have h1:=(wf _ _ e).in_ _ hy;have h2:=(A4.mp e).1;omega
theorem qQP {Ae:List (List Int)} {Ad:List Int} (wf:WFn Ae) (r:Rise (Ae.length:Int) Ad):∃ zs,qB5 Ae Ad zs:=by
 classical
 refine ⟨(qDD 0 Ae.length).filter fun x=>decide (Nd Ae Ad x),⟨(qIM _ _).filter _,fun x hx=>?_⟩,fun x=>?_⟩
 ·have:=mem_rangeI.mp (G6.mp hx).1;omega
 ·rw [G6,decide_eq_true_eq,mem_rangeI];exact ⟨fun h=>h.2,fun h=>⟨qSR wf r h,h⟩⟩
def OnceF (Ae:List (List Int)) (F n:Nat):Prop:=(∀ (i:Nat) (z:List Int) (x:Int),F<=i->i<n->Ae[i]?=some z->x ∈ z->(F:Int)<=x)/\
 ∀ (i j:Nat) (zi zj:List Int) (x:Int),F<=i->F<=j->i<n->j<n->Ae[i]?=some zi->Ae[j]?=some zj->x ∈ zi->x ∈ zj->i=j
theorem OnceF.isT {Ae:List (List Int)} {F n:Nat} {work:Int} (wf:WFn Ae) (o:OnceF Ae F n) (hn:n<=Ae.length) (w0:(F:Int)<=work) (w1:work<(n:Int)):isT Ae work:=by
 obtain ⟨zs,N⟩:=qQP (Ae:=Ae) (Ad:=[work]) wf ⟨V0 _ _,fun x hx=>by rw [A3.mp hx];omega⟩
 refine ⟨zs,N,?_⟩;have low:∀ u,Nd Ae [work] u->(F:Int)<=u:=by
  intro u hu
  induction hu with
  | ask m=>rw [A3.mp m];exact w0
  | @need v y z hv e m ih=>
   have b:=qMG wf hv;exact o.1 v.toNat z y (by omega) (by omega) e m
 unfold qNU;rw [G8];intro x hx;rw [decide_eq_true_eq];intro ne;obtain ⟨i,hi⟩:=G2 hx;rcases qWG N wf hi with q | ⟨v,hv,hxv⟩
 ·exact absurd (A3.mp q) ne
 ·have hvz:v ∈ zs:=P3 hv;have lt:∀ u ∈ zs,(F:Int)<=u/\u<(n:Int):=fun u hu=>by
   have a:=low u ((N.2 u).mp hu);have b:=qMG wf ((N.2 u).mp hu);omega
  have get:∀ u ∈ zs,Ae[u.toNat]?=some (nd Ae u):=fun u hu=>by
   have:=lt u hu;have hl:u.toNat<Ae.length:=by omega
   have g:=A1 hl;rw [g,qAF g]
  have nv:(nd Ae v).Nodup:=(wf _ _ (get v hvz)).nodup;unfold cI;rw [qKE N.1.nodup hvz (fun u hu hxu=>?_) hxv nv]
  ·rfl
  ·have a:=lt u hu;have b:=lt v hvz;have:=o.2 u.toNat v.toNat _ _ x (by omega) (by omega) (by omega) (by omega) (get u hu) (get v hvz) hxu hxv
   omega
theorem OnceF.zero {Ae:List (List Int)} {n:Nat} (wf:WFn Ae) (h:Once Ae n):OnceF Ae 0 n:=
 ⟨fun i z x _ _ e hx=>by have:=(wf i z e).in_ x hx;omega,fun i j zi zj x _ _ h1 h2 e1 e2 m1 m2=>h i j zi zj x h1 h2 e1 e2 m1 m2⟩
theorem OnceF.app {Ae more:List (List Int)} {F n:Nat} (h:OnceF Ae F n) (hn:n<=Ae.length):OnceF (Ae++more) F n:=
 ⟨fun i z x h1 h2 e hx=>h.1 i z x h1 h2 (by rw [D8 (by omega)] at e;exact e) hx,
  fun i j zi zj x h1 h2 h3 h4 e1 e2 m1 m2=>h.2 i j zi zj x h1 h2 h3 h4 (by rw [D8 (by omega)] at e1;exact e1) (by rw [D8 (by omega)] at e2;exact e2) m1 m2⟩
def shT (F:Int) (t:List (List Int)):List (List Int):=t.map fun z=>z.map fun x=>x+F
theorem qKT {F:Nat} {pre t:List (List Int)} (hF:pre.length=F) {i:Nat} {z:List Int} (h:(pre++shT F t)[i]?=some z) (hi:F<=i):∃ y,t[i - F]?=some y/\z=y.map fun x=>x+(F:Int):=by
 rw [G1 (by omega),hF] at h
 unfold shT at h;rw [B1] at h;cases e:t[i - F]? with
 | none=>rw [e] at h;cases h
 | some y=>rw [e] at h;exact ⟨y,rfl,(C6 h).symm⟩
theorem qZH {F:Nat} {pre t:List (List Int)} (hF:pre.length=F) (w1:WFn pre) (w2:WFn t):WFn (pre++shT F t):=fun i z e=>by
 by_cases c:i<F
 ·rw [D8 (by omega)] at e
  exact w1 i z e
 ·obtain ⟨y,h1,rfl⟩:=qKT hF e (by omega)
  have r:=w2 _ _ h1;refine ⟨G4.mpr (r.up.imp fun {a b} q=>by omega),fun x hx=>?_⟩
  obtain ⟨x0,h0,rfl⟩:=E2.mp hx;have:=r.in_ x0 h0;omega
theorem qUY {F n:Nat} {pre t:List (List Int)} (hF:pre.length=F) (w2:WFn t) (h:Once t n):OnceF (pre++shT F t) F (F+n):=by
 refine ⟨fun i z x h1 h2 e hx=>?_,fun i j zi zj x h1 h2 h3 h4 e1 e2 m1 m2=>?_⟩
 ·obtain ⟨y,g,rfl⟩:=qKT hF e h1;obtain ⟨x0,h0,rfl⟩:=E2.mp hx;have:=(w2 _ _ g).in_ x0 h0;omega
 ·obtain ⟨y,g,rfl⟩:=qKT hF e1 h1;obtain ⟨y2,g2,rfl⟩:=qKT hF e2 h2;obtain ⟨x0,a0,b0⟩:=E2.mp m1;obtain ⟨x1,a1,b1⟩:=E2.mp m2;have:=h (i - F) (j - F) _ _ x0 (by omega) (by omega) g g2 a0 (by rw [show x0=x1 by omega];exact a1)
  omega
def qP5:Sp:=fun vs H Q _=>∃ d c t ns m,vs=[.ref d,.int m]/\StAt H d c t ns/\t<=TB - 20000/\1<=m/\m<=56/\
 ∀ T a Ae work t' ns' H',StAt H' d c t' ns'->t<=t'->t'<=t+200->Keep d c H H'->NIn H' a Ae work->(Ae.length:Int)<=m+4->isT Ae work->H' T=some (.tup [.ref a,.int work])->Q (.ref T) H'
section
variable {P:Program} {w:World} {K:PySem.W.Frag} {mg:Str->Option Value} {base:Heap} {f:Addr} {fd:FuncData} {qCP qCO qPZ qC3:Addr} {qCK qDS qTU qCS:FuncData}
theorem sc_Lground:FnScope ["_law_state","_law_many","_law_tree","_law_way","_law_net_here","_law_first","_law_turn"] ["_law_state","_law_many"] (qAD qG6):=⟨rfl,rfl,rfl,by decide +kernel,rfl,by decide +kernel,by decide +kernel⟩
theorem ok_Lground (F:Fun K "_law_ground" "_law_ground" qG6 f fd) (qAI:Clb P w K mg base 1 qCP qCK "_law_take" ["_law_state","_law_many"] qIH) (qBY:Clb P w K mg base 2 qCO qDS "_law_tree_net" ["_law_state","_law_many"] qNY) (qQ9:Clb P w K mg base 3 qPZ qTU "_law_net" ["_law_state","_law_many"] qZA) (qB6:Clb P w K mg base 2 qC3 qCS "_law_some_needs" ["_law_state","_law_k"] qKO) (qBO:mg "len" = none) (qAH:mg "tuple" = none) (qAJ:mg "range" = none):FnOk P w K mg base CX0 4 f fd ["_law_state","_law_many"] qP5:=by
 refine F.ok sc_Lground (fun vs H Q E h=>?_) (fun cdv A outer s H vs Q E hr h=>?_)
 ·obtain ⟨d,c,t,ns,m,rfl,_⟩:=h
  rfl
 obtain ⟨d,c,t,ns,m,rfl,S,ht,m1,m2,q⟩:=h;have ht':t<=1000000000 - 20000:=ht;refine ⟨_,(qA4 (qAE (i:=2) sc_Lground.nd rfl (D0 rfl) (qAZ qBY hr rfl (qA0 (pv 0) (qA0 (pv 1) qA3)))) (qA4 (qAE (i:=3) sc_Lground.nd rfl (D0 rfl) (qAZ qAI hr rfl (qA0 (pv 0) (qA0 qA7 qA3)))) (qA4 (qM5 (qC5 (qA0 (pv 2) (qA0 qA7 qA3))) (qM8 rfl (qC6 (qAA (i:=4) sc_Lground.nd rfl (D0 rfl)) (qC6 (qAA (i:=5) sc_Lground.nd rfl (b9 rfl)) qH0)))) (qA4 (qCF (qAU qG9 (pv 3) qA7 (qB1 _)) (qA4 (qAE (i:=4) sc_Lground.nd rfl (D0 rfl) (qAZ qQ9 hr rfl (qA0 (pv 0) (qA0 (qAP qCA qA7 (qAZ qAI hr rfl (qA0 (pv 0) (qA0 qA7 qA3)))) qA3)))) (qA4 (qAE (i:=5) sc_Lground.nd rfl (b9 rfl) (qA9 qAL rfl qBO qDL (qA0 (pv 4) qA3))) (qA6 (qAE (i:=4) sc_Lground.nd rfl (D0 rfl) (qAP qOA (pv 4) (qAK qAM rfl qAH qB4 (qA0 (qEA rfl (lcs (own:=["_law_needs"]) (fv:=[5]) (by kernel_rfl)) (qDF (pv 2)) (fun z1=>qAA (i:=0) (qD2 (by kernel_rfl)) rfl (D0 rfl)) (fun z1=>qBQ) (fun z1=>(qAK (qFV (K:=K) rfl) rfl qAH qB4 (qA0 (qEA (X:=lcCx _ _ _ _ z1) rfl (lcs (own:=["_law_need"]) (fv:=[1]) (by kernel_rfl)) (qSB (K:=K) rfl (pv 0)) (fun z2=>qAA (i:=0) (qD2 (by kernel_rfl)) rfl (D0 rfl)) (fun z2=>qBQ) (fun z2=>(qAP qCA (pv 0) (pv 1)))) qA3)))) qA3))))))) qAV) (qA4 (qCF (qAU qG9 (pv 3) qA7 (qB1 _)) (qA6 (qBE C9 rfl (qBW rfl qAJ (qA0 (qAP qCA qA7 (qAZ qAI hr rfl (qA0 (pv 0) (qA0 qA7 qA3)))) qA3)) (qAA (i:=6) sc_Lground.nd rfl (D0 rfl)) (qA6 (qAE (i:=4) sc_Lground.nd rfl (D0 rfl) (qAP qOA (pv 4) (qC5 (qA0 (qAZ qB6 hr rfl (qA0 (pv 0) (qA0 (qA9 qAL rfl qBO qDL (qA0 (pv 4) qA3)) qA3))) qA3))))))) qAV) (qA4 (qCF (qAU qG9 (qAZ qAI hr rfl (qA0 (pv 0) (qA0 qA7 qA3))) qA7 (qB1 _)) (qA6 (qAS (qC5 (qA0 (pv 4) (qA0 (qAP qCA (pv 5) (qAZ qAI hr rfl (qA0 (pv 0) (qA0 (pv 1) qA3)))) qA3))))) qAV) (qA6 (qAS (qC5 (qA0 (pv 4) (qA0 (qAP qDG (qAP qCA (pv 5) (pv 1)) qA7) qA3))))))))))),?_⟩
 try dsimp only [Cx.nox,Cx.wish,cxOf]
 refine cut fun N0 hN0=>?_;refine ⟨_,rfl,_,rfl,d,c,t,ns,m,rfl,S,(by show t<=1000000000 - 1000;omega),by omega,by omega,fun a Ae t1 ns1 H1 S1 g0 g1 K1 hN wf nl once=>?_⟩
 refine hN0 _ _ (cut fun N1 hN1=>?_);refine ⟨_,rfl,d,c,t1,ns1,4,rfl,S1,(by show t1<=1000000000;omega),by decide,by decide,fun way ns2 H2 y0 y1 S2 K2=>?_⟩
 have hN2:=hN.keep S1 K2;have K02:=K1.trans K2;refine hN1 _ _ (cut fun N2 hN2'=>?_);refine ⟨_,rfl,(by show 2<=sizeLine;decide),fun T0 hT0=>?_⟩
 have u0:=qA2 hT0 (.tup [.ref a,.int 0]);refine ⟨T0,_,rfl,SqT.of qA1,rfl,_,_,rfl,_,_,rfl,rfl,?_⟩;have S3:=S2.same u0;have hT3:=hN2.same u0;have K03:=K02.trans (.of_same u0);generalize upd H2 T0 (.tup [.ref a,.int 0])=H3 at S3 hT3 K03 ⊢;refine hN2' _ _ (cut fun N3 hN3=>?_);have J3:∀ (a':Addr) (net':List (List Int)) (Fi:Nat) (t':Int) (ns':List Int) (H':Hp),StAt H' d c t' ns'->t<=t'->t'<=t+140->Keep d c H H'->NetAt H' a' net'->WFn net'->(net'.length:Int)<=m+4->Fi+m.toNat<=net'.length->OnceF net' Fi (Fi+m.toNat)->(way=1->(net'.length:Int)<=m+1)->
   N3 [some (.ref d),some (.int m),some (.ref a),some (.int way),some (.ref a'),some (.int Fi),none] H':=by
  intro a' net' Fi t' ns' H' S' h1 h2 K' hN' wf' l60 lm oF w57;refine hN3 _ _ (cut fun N4 hN4=>?_);have J4:∀ (v6:Option V) (a':Addr) (net':List (List Int)) (t':Int) (ns':List Int) (H':Hp),StAt H' d c t' ns'->t<=t'->t'<=t+180->Keep d c H H'->NetAt H' a' net'->WFn net'->(net'.length:Int)<=m+4->Fi+m.toNat<=net'.length->OnceF net' Fi (Fi+m.toNat)->
    N4 [some (.ref d),some (.int m),some (.ref a),some (.int way),some (.ref a'),some (.int Fi),v6] H':=by
   intro v6 a' net' t' ns' H' S' h1 h2 K' hN' wf' l60 lm oF;refine hN4 _ _ (cut fun N5 hN5=>?_);refine ⟨_,rfl,d,c,t',ns',5,rfl,S',(by show t'<=1000000000;omega),by decide,by decide,fun k ns4 H4 k0 k1 S4 K4=>?_⟩
   have hN4':=hN'.keep S' K4;have K04:=K'.trans K4;refine ⟨rfl,_,rfl,?_⟩;refine ite2 (fun _=>?_) (fun _=>?_)
   ·refine ⟨_,rfl,_,rfl,_,rfl,_,rfl,d,c,t'+1,ns4,m,rfl,S4,(by show t'+1<=1000000000;omega),by omega,by omega,fun j ns5 H5 j0 j1 S5 K5=>⟨_,_,rfl,rfl,(by show 2<=sizeLine;decide),fun T hT=>?_⟩⟩
    have sT:=qA2 hT (.tup [.ref a',.int ((Fi:Int)+j)]);have hN5:=(hN4'.keep S4 K5).same sT;exact q T a' net' ((Fi:Int)+j) (t'+1+1) ns5 _ (S5.same sT) (by omega) (by omega) (K04.trans (K5.trans (.of_same sT))) ⟨hN5,wf',by omega,by omega,by omega⟩ l60 (oF.isT wf' lm (by omega) (by omega)) qA1
   refine hN5 _ _ ?_;refine ⟨_,rfl,_,rfl,_,rfl,_,_,rfl,rfl,_,_,rfl,rfl,(by show 2<=sizeLine;decide),fun T hT=>?_⟩
   have sT:=qA2 hT (.tup [.ref a',.int ((Fi:Int)+m - 1)]);exact q T a' net' ((Fi:Int)+m - 1) (t'+1) ns4 _ (S4.same sT) (by omega) (by omega) (K04.trans (.of_same sT)) ⟨hN4'.same sT,wf',by omega,by omega,by omega⟩ l60 (oF.isT wf' lm (by omega) (by omega)) qA1
  refine ⟨_,rfl,rfl,_,rfl,?_⟩;refine ite2 (fun cw=>?_) (fun _=>?_)
  ·have ew:way=1:=V.int.inj (of_decide_eq_true cw);have l57:=w57 ew;refine ⟨_,rfl,d,c,t',ns',3,rfl,S',(by show t'<=1000000000;omega),by decide,by decide,fun k ns4 H4 k0 k1 S4 K4=>⟨_,_,rfl,rfl,?_⟩⟩
   refine ⟨1+k,rfl,by omega,by omega,qEZ (lo:=0) (n:=(1+k).toNat) (fun i σ Hc=>∃ (tc:Int) (nc:List Int) (ac:Addr) (nt:List (List Int)) (v6:Option V),σ=[some (.ref d),some (.int m),some (.ref a),some (.int way),some (.ref ac),some (.int Fi),v6]/\StAt Hc d c tc nc/\t<=tc/\tc<=t+141+9 * i/\Keep d c H Hc/\NetAt Hc ac nt/\WFn nt/\(nt.length:Int)<=m+1+i/\Fi+m.toNat<=nt.length/\OnceF nt Fi (Fi+m.toNat))
    ⟨t'+1,ns4,a',net',none,rfl,S4,by omega,by omega,K'.trans K4,hN'.keep S' K4,wf',by omega,lm,oF⟩ ?_ ?_⟩
   ·refine fun i σ Hc hi hI_1=>opq fun G_1 hG_1=>?_;obtain ⟨tc,nc,ac,nt,v6,rfl,Sc,c1,c2,Kc,hNc,wfc,l57c,lmc,oFc⟩:=hI_1;refine hG_1 ?_;have i3:i<3:=by omega
    obtain ⟨rs,hA,NL⟩:=id hNc;have lrs:=C7 NL;refine ⟨_,rfl,_,rfl,_,rfl,ac,_,rfl,.inr (SqT.of hA),?_⟩;rw [A0,lrs];refine ⟨d,c,tc,nc,_,rfl,Sc,(by show tc<=1000000000 - 20;omega),by omega,by omega,fun r zs t5 ns5 H5 S5 e1 e2 K5 gr rz=>⟨(by show 1<=sizeLine;decide),fun p1 hp1=>?_⟩⟩
    have u1:=qA2 hp1 (.tup [.ref r]);have hN5:=hNc.keep Sc K5;obtain ⟨rs5,hA5,NL5⟩:=id hN5;have lrs5:=C7 NL5;refine ⟨ac,p1,_,[r].map V.ref,rfl,rfl,u1 _ _ hA5,qA1,by rw [A0,A0,C3,sizeLine_eq];omega,fun p2 H6 s6 g6=>?_⟩
    rw [<- A9] at g6;have uu:=u1.trans s6;refine ⟨t5,ns5,p2,nt++[zs],_,rfl,S5.same uu,by omega,by omega,Kc.trans (K5.trans (.of_same uu)),⟨_,g6,qCG (NL5.same fun r ys e=>uu _ _ e) (uu _ _ gr)⟩,wfc.snoc rz,by rw [A7,C3];omega,by rw [A7];omega,oFc.app (by omega)⟩
   ·refine fun σ Hc hI_2=>opq fun G_2 hG_2=>?_;obtain ⟨tc,nc,ac,nt,v6,rfl,Sc,c1,c2,Kc,hNc,wfc,l57c,lmc,oFc⟩:=hI_2;refine hG_2 ?_;exact J4 v6 ac nt tc nc Hc Sc c1 (by omega) Kc hNc wfc (by omega) lmc oFc
  ·exact J4 none a' net' t' ns' H' S' h1 (by omega) K' hN' wf' l60 lm oF
 refine ⟨_,rfl,rfl,_,rfl,?_⟩;refine ite2 (fun cw=>?_) (fun _=>?_)
 ·have ew:way=0:=V.int.inj (of_decide_eq_true cw);refine cut fun M0 hM0=>?_;refine ⟨_,rfl,_,rfl,d,c,t1+1,ns2,4,rfl,S3,(by show t1+1<=1000000000;omega),by decide,by decide,fun k ns4 H4 k0 k1 S4 K4=>⟨_,_,rfl,rfl,?_⟩⟩
  refine ⟨d,c,t1+1+1,ns4,1+k,rfl,S4,(by show t1+1+1<=1000000000 - 10000;omega),by omega,by omega,fun b pre t5 ns5 H5 S5 e1 e2 K5 hB wfB lB=>?_⟩
  have hN5:=(hT3.keep S3 K4).keep S4 K5;have K05:=K03.trans (K4.trans K5);refine hM0 _ _ (cut fun M1 hM1=>?_);obtain ⟨rb,gB,NB⟩:=id hB;have lrb:=C7 NB;refine ⟨_,rfl,b,_,rfl,.inr (SqT.of gB),?_⟩;rw [A0,lrb];refine hM1 _ _ ?_;obtain ⟨rs,hA,NL⟩:=id hN5;have lrs:=C7 NL;refine ⟨_,rfl,_,rfl,a,rfl,⟨_,SqT.of hA⟩,fun p hp=>?_⟩;refine qHI (p:=p) (a:=a) (xs:=rs.map V.ref) (fun j σ Hc=>∃ (v:Option V) (qs:List Addr),σ=[v,some (.int pre.length)]/\Same H5 Hc/\Hc p=some (.lst (qs.map V.ref))/\NetL Hc qs (shT pre.length (Ae.take j))) ?_ ?_ ?_ ?_
  ·exact ⟨none,[],rfl,qA2 hp _,qA1,.nil⟩
  ·rintro j σ Hc hj ⟨v,qs,rfl,sc,_⟩;exact SqT.of (sc _ _ hA)
  ·refine fun j x σ Hc hx hI_4=>opq fun G_4 hG_4=>?_;obtain ⟨v,qs,rfl,sc,hpc,NQ⟩:=hI_4;obtain ⟨r,er,rfl⟩:=qH6 hx;obtain ⟨z,ez,gz⟩:=qBZ NL er;refine hG_4 ?_;have hj:=(A4.mp ez).1;have rz:=wf j z ez;have lz:=rz.len;refine ⟨_,rfl,r,rfl,⟨_,SqT.of (sc _ _ gz)⟩,fun p2 hp2=>?_⟩;refine qHI (p:=p2) (a:=r) (xs:=z.map V.int) (fun i σ Hd=>∃ (v:Option V),σ=[v,some (.int pre.length)]/\Same Hc Hd/\Hd p2=some (.lst (((z.take i).map fun x=>x+(pre.length:Int)).map V.int))) ?_ ?_ ?_ ?_
   ·exact ⟨none,rfl,qA2 hp2 _,qA1⟩
   ·rintro i σ Hd hi ⟨v,rfl,sd,_⟩;exact SqT.of (sd _ _ (sc _ _ gz))
   ·refine fun i x σ Hd hx hI_6=>opq fun G_6 hG_6=>?_;obtain ⟨v,rfl,sd,hpd⟩:=hI_6;obtain ⟨y,ey,rfl⟩:=qAQ hx;refine hG_6 ?_;have li:=(A4.mp ey).1;refine ⟨_,rfl,_,rfl,_,_,rfl,rfl,_,hpd,qAO (by rw [A0,A0,D1];omega),_,rfl,qAB sd hp2,?_⟩
    rw [qA1,C4,ey,C0,A9,A9]
    rfl
   ·refine fun σ Hd hI_7=>opq fun G_7 hG_7=>?_;obtain ⟨v,rfl,sd,hpd⟩:=hI_7;refine hG_7 ?_;rw [A0,qAX rfl] at hpd;refine ⟨p2,_,rfl,.inl ⟨SqL.of hpd,fun p3 hp3=>?_⟩⟩;have s3:=sd.trans (qA2 hp3 (.tup ((z.map fun x=>x+(pre.length:Int)).map V.int)));have g3:=s3 _ _ hpc;have lq:=C7 NQ;have lsh:(shT pre.length (Ae.take j)).length=j:=by unfold shT;rw [A0,D1];omega
    refine ⟨_,g3,qAO (by rw [A0];omega),?_⟩
    rw [qDR];refine ⟨_,qs++[p3],rfl,qAB (sc.trans s3) hp,qA1,?_⟩;have e:shT pre.length (Ae.take (j+1))=shT pre.length (Ae.take j)++[z.map fun x=>x+(pre.length:Int)]:=by
     unfold shT;rw [C4,ez,C0,A9]
     rfl
    rw [e];exact qEB (qCG (NQ.same fun r ys e=>s3 _ _ e) qA1) g3
  ·refine fun σ Hc hI_8=>opq fun G_8 hG_8=>?_;obtain ⟨v,qs,rfl,sc,hpc,NQ⟩:=hI_8;refine hG_8 ?_;rw [A0,lrs,qAX rfl] at NQ;have lq:=C7 NQ;have lsh:(shT pre.length Ae).length=Ae.length:=by unfold shT;rw [A0]
   refine ⟨p,_,rfl,.inl ⟨SqL.of hpc,fun p1 hp1=>?_⟩⟩;have u1:=qA2 hp1 (.tup (qs.map V.ref));refine ⟨b,p1,_,_,rfl,rfl,u1 _ _ (sc _ _ gB),qA1,by rw [A0,A0,sizeLine_eq];omega,fun p2 H6 s6 g6=>?_⟩
   rw [<- A9] at g6;have uu:=sc.trans (u1.trans s6);exact J3 p2 (pre++shT pre.length Ae) pre.length t5 ns5 H6 (S5.same uu) (by omega) (by omega) (K05.trans (.of_same uu)) ⟨_,g6,qH1 (NB.same fun r ys e=>uu _ _ e) (NQ.same fun r ys e=>(u1.trans s6) _ _ e)⟩ (qZH rfl wfB wf) (by rw [A7,lsh];omega) (by rw [A7,lsh];omega) (by rw [show m.toNat=Ae.length by omega];exact qUY rfl wf once) (fun z=>by omega)
 ·exact J3 a Ae 0 (t1+1) ns2 H3 S3 (by omega) (by omega) K03 hT3 wf (by omega) (by omega) (by rw [show 0+m.toNat=Ae.length by omega];exact .zero wf once) (fun _=>by omega)
end
section
variable {P:Program} {w:World} {K:PySem.W.Frag} {mg:Str->Option Value} {base:Heap} {f:Addr} {fd:FuncData}
theorem qUK {α:Type} (p q:α->Bool) {l:List α} {i:Nat} {x:α} (h:l[i]?=some x):((l.take (i+1)).filter p).map q=((l.take i).filter p).map q++(if p x=true then [q x] else []):=by
 rw [C4,h,C0,i8,A9];congr 1;cases e:p x with
 | true=>rw [M5,if_pos e];rfl
 | false=>rw [M5,if_neg (by rw [e];exact B8)];rfl
theorem qV0:FnScope ["_law_net_here","_law_some","_law_one","_law_done"] ["_law_net_here","_law_some","_law_one","_law_done"] (qAD qKV):=⟨rfl,rfl,rfl,by decide +kernel,rfl,by decide +kernel,by decide +kernel⟩
theorem ok_Lused (F:Fun K "_law_used" "_law_used" qKV f fd) (qD4:mg "all" = none):FnOk P w K mg base CX0 1 f fd ["_law_net_here","_law_some","_law_one","_law_done"] qWL:=by
 refine F.ok qV0 (fun vs H Q E h=>?_) (fun cdv A outer s H vs Q E hr h=>?_)
 ·obtain ⟨a,lz,r,Ae,zs,D,x,rfl,_⟩:=h
  rfl
 obtain ⟨a,lz,r,Ae,zs,D,x,rfl,hN,wf,n60,gz,zin,lz60,gr,q⟩:=h;refine ⟨_,(qA6 (qAS (qA9 (qEI rfl) rfl qD4 qJF (qA0 (qEA rfl (lcs (own:=["_law_other"]) (fv:=[3,2,0]) (by kernel_rfl)) (qBR (pv 1)) (fun z1=>qAA (i:=0) (qD2 (by kernel_rfl)) rfl (D0 rfl)) (fun z1=>(qIO (qAU (qSL (K:=K) rfl) (pv 2) (qB0 (qEE (K:=K) rfl) (pv 3) (pv 0) (fun _ _=>rfl)) (by with_unfolding_all rfl)))) (fun z1=>(qE0 (qSL (K:=K) rfl) (pv 0) (pv 1) (by with_unfolding_all rfl)))) qA3)))),?_⟩
 try dsimp only [Cx.nox,Cx.wish,cxOf]
 obtain ⟨rs,hA,NL⟩:=id hN;refine ⟨_,rfl,lz,rfl,⟨_,SqL.of gz⟩,fun p hp=>?_⟩;refine qFR (p:=p) (a:=lz) (xs:=zs.map V.int) (fun i σ Hd=>∃ (v:Option V),σ=[v,some (.ref r),some (.int x),some (.ref a)]/\Same H Hd/\Hd p=some (.lst ((((zs.take i).filter fun o=>decide (x ∈ nd Ae o)).map fun o=>decide (o ∈ D)).map V.bl))) ?_ ?_ ?_ ?_
 ·exact ⟨none,rfl,qA2 hp _,qA1⟩
 ·rintro i σ Hd hi ⟨v,rfl,sd,_⟩;exact SqL.of (sd _ _ gz)
 ·refine fun i x' σ Hd hx hI_2=>opq fun G_2 hG_2=>?_;obtain ⟨v,rfl,sd,gp⟩:=hI_2;obtain ⟨y,ey,rfl⟩:=qAQ hx;refine hG_2 ?_;have hi:=(A4.mp ey).1;have yb:=zin y (B4 ey);have hw:y.toNat<Ae.length:=by omega
  have hz:=A1 hw;obtain ⟨rn,h3,h4⟩:=NL.get hz;have en:=qAF hz;generalize Ae[y.toNat]=ys at h4 hz en;refine ⟨_,rfl,_,rfl,_,rfl,a,_,_,_,rfl,rfl,SqT.of (sd _ _ hA),qBT yb.1 (by rw [B1,h3];rfl),rn,_,rfl,.inr (SqT.of (sd _ _ h4)),rfl,qF0 ys,_,rfl,?_⟩
  rw [qJ7,qUK (fun o=>decide (x ∈ nd Ae o)) (fun o=>decide (o ∈ D)) ey,en];by_cases c:x ∈ ys
  ·rw [decide_eq_true c,if_pos rfl];refine ⟨_,rfl,_,rfl,r,_,rfl,.inr (SqT.of (sd _ _ gr)),rfl,qF0 D,_,gp,qBD ?_,_,rfl,qAB sd hp,?_⟩
   ·rw [A0,A0];have:=W4 (fun o=>decide (x ∈ nd Ae o)) (zs.take i);rw [D1] at this;omega
   ·rw [qA1,A9];show some (HO.lst (_++[V.bl (inV (.int y) (D.map V.int))]))=_;rw [qJ7]
    rfl
  ·rw [decide_eq_false c,if_neg B8,V7];exact ⟨_,rfl,sd,gp⟩
 refine fun σ Hd hI_3=>opq fun G_3 hG_3=>?_;obtain ⟨v,rfl,sd,gp⟩:=hI_3;refine hG_3 ?_;rw [A0,V2] at gp;refine ⟨p,_,rfl,SqL.of gp,?_⟩;have e:((zs.filter fun o=>decide (x ∈ nd Ae o)).map fun o=>decide (o ∈ D)).all id=qGX Ae zs D x:=by unfold qGX;rw [List.all_map];rfl
 rw [e];exact q Hd sd
end
section
variable {P:Program} {w:World} {K:PySem.W.Frag} {mg:Str->Option Value} {base:Heap} {f:Addr} {fd:FuncData} {qE3:Addr} {qFL:FuncData}
theorem qVK {l:List Int} (h:l.Pairwise (·<=·)) (n:l.Nodup):l.Pairwise (·<·):=(a9.mpr ⟨h,n⟩).imp fun {a b} z=>by have:=z.1;have:=z.2;omega
theorem sc_Lis_order:FnScope ["_law_net_here","_law_work","_law_order","_law_ahead","_law_one"] ["_law_net_here","_law_work","_law_order"] (qAD qE8):=⟨rfl,rfl,rfl,by decide +kernel,rfl,by decide +kernel,by decide +kernel⟩
theorem ok_Lis_order (F:Fun K "_law_is_order" "_law_is_order" qE8 f fd) (qD0:Clb P w K mg base 1 qE3 qFL "_law_needed" ["_law_net_here","_law_asked"] qKP) (qAC:mg "isinstance" = none) (qCE:mg "list" = none) (qFN:mg "int" = none) (qEP:mg "bool" = none) (qAT:mg "sorted" = none) (qD4:mg "all" = none) (qQA:mg "any" = none):FnOk P w K mg base CX0 2 f fd ["_law_net_here","_law_work","_law_order"] qJX:=by
 refine F.ok sc_Lis_order (fun vs H Q E h=>?_) (fun cdv A outer s H vs Q E hr h=>?_)
 ·obtain ⟨a,lo,Ae,L,work,rfl,_⟩:=h
  rfl
 obtain ⟨a,lo,Ae,L,work,rfl,hN,wf,n60,w0,w1,gL,O,q⟩:=h;have hu:=qJP hr;have hu0:=hr.units0;refine ⟨_,(qA4 (qCF (PW.pt (qM4 (qIP (qDE (qA9 qB2 rfl qAC qAN (qA0 (pv 2) (qA0 (qCM (v:=.ty "list") rfl qCE qH9 rfl) qA3))))) (qHG (qIP (qDE (qA9 (qEI rfl) rfl qD4 qJF (qA0 (qEA rfl (lcs (own:=["_law_one"]) (fv:=[]) (by kernel_rfl)) (qBR (pv 2)) (fun z1=>qAA (i:=0) (qD2 (by kernel_rfl)) rfl (D0 rfl)) (fun z1=>qBQ) (fun z1=>(qA9 (qHL (K:=K) rfl) rfl qAC qAN (qA0 (pv 0) (qA0 (qCM (v:=.ty "int") rfl qFN qQ7 rfl) qA3))))) qA3))))))) (qA6 (qAS qFM)) qAV) (qA4 (qCF (PW.pt (qM4 (qAU (qO6 hu0) (qA9 (qF7 rfl) rfl qAT qDK (qA0 (pv 2) qA3)) (qAZ qD0 hr rfl (qA0 (pv 0) (qA0 (qC5 (qA0 (pv 1) qA3)) qA3))) (qB1 _)) (qHG (qDE (qA9 (qW8 rfl) rfl qQA qaK (qA0 (qEA rfl (lcs (own:=["_law_one"]) (fv:=[]) (by kernel_rfl)) (qBR (pv 2)) (fun z2=>qAA (i:=0) (qD2 (by kernel_rfl)) rfl (D0 rfl)) (fun z2=>qBQ) (fun z2=>(qA9 (qHL (K:=K) rfl) rfl qAC qAN (qA0 (pv 0) (qA0 (qCM (v:=.ty "bool") rfl qEP qUC rfl) qA3))))) qA3)))))) (qA6 (qAS qFM)) qAV) (qA4 (qAE (i:=3) sc_Lis_order.nd rfl (b9 rfl) qFI) (qA4 (qBE C9 rfl (qBR (pv 2)) (qAA (i:=4) sc_Lis_order.nd rfl (D0 rfl)) (qA4 (qCF (qIP (qDE (qA9 (qEI rfl) rfl qD4 qJF (qA0 (qEA rfl (lcs (own:=["_law_need"]) (fv:=[3]) (by kernel_rfl)) (qDF (qB0 qB3 (pv 0) (pv 4) (fun _ _=>rfl))) (fun z3=>qAA (i:=0) (qD2 (by kernel_rfl)) rfl (D0 rfl)) (fun z3=>qBQ) (fun z3=>(qWS (qSJ hu (pv 0) (pv 1))))) qA3)))) (qA6 (qAS qFM)) qAV) (qA6 (qE9 hu (pv 3) (pv 4) qFM rfl)))) (qA6 (qAS qFM)))))),?_⟩
 try dsimp only [Cx.nox,Cx.wish,cxOf]
 obtain ⟨rs,hA,NL⟩:=id hN;refine cut fun N0 hN0=>?_;refine ⟨_,rfl,_,"list",_,true,rfl,TyOf.lst gL,rfl,_,rfl,?_⟩;refine iteF ?_;refine ⟨_,rfl,lo,rfl,⟨_,SqL.of gL⟩,fun p hp=>?_⟩;have lL:L.length<=60:=by
  have:=qIW O.nodup (n:=Ae.length) fun x hx=>qMH wf w0 w1 ((O.mem x).mp hx);omega
 refine qFR (p:=p) (a:=lo) (xs:=L.map V.int) (fun i σ Hd=>∃ (v:Option V),σ=[v]/\Same H Hd/\Hd p=some (.lst ((C1 i true).map V.bl))) ?_ ?_ ?_ ?_
 ·exact ⟨none,rfl,qA2 hp _,qA1⟩
 ·rintro i σ Hd hi ⟨v,rfl,sd,_⟩;exact SqL.of (sd _ _ gL)
 ·refine fun i x' σ Hd hx hI_2=>opq fun G_2 hG_2=>?_;obtain ⟨v,rfl,sd,gp⟩:=hI_2;obtain ⟨y,ey,rfl⟩:=qAQ hx;refine hG_2 ?_;have hi:=(A4.mp ey).1;refine ⟨_,rfl,_,"int",_,true,rfl,TyOf.int y,rfl,_,gp,qBD (by rw [A0,O6];omega),_,rfl,qAB sd hp,?_⟩
  rw [qA1,X0,A9]
  rfl
 refine fun σ Hd hI_3=>opq fun G_3 hG_3=>?_;obtain ⟨v,rfl,sd,gp⟩:=hI_3;refine hG_3 ?_;refine ⟨p,_,rfl,SqL.of gp,_,rfl,?_⟩;have ea:(C1 (L.map V.int).length true).all id=true:=by rw [G8];exact fun x hx=>(Y7.mp hx).2
 rw [ea];refine iteF ?_;refine hN0 _ _ (cut fun N1 hN1=>?_);have gLd:=sd _ _ gL;refine ⟨_,rfl,lo,L,rfl,.inl (SqL.of gLd),by omega,fun l1 ns1 hl1 pm1 st1=>?_⟩
 have s1:=qA2 hl1 (.lst (ns1.map V.int));have g1:(upd Hd l1 (.lst (ns1.map V.int))) l1=some (.lst (ns1.map V.int)):=qA1;have sd1:=sd.trans s1;generalize upd Hd l1 (.lst (ns1.map V.int))=H1 at s1 g1 sd1 ⊢;refine ⟨_,rfl,_,rfl,(by show 1<=sizeLine;decide),fun ta hta=>?_⟩
 have s2:=qA2 hta (.tup [.int work]);have g2:(upd H1 ta (.tup [.int work])) ta=some (.tup ([work].map V.int)):=qA1;have sd2:=sd1.trans s2;generalize upd H1 ta (.tup [.int work])=H2 at s2 g2 sd2 ⊢;refine ⟨a,ta,Ae,[work],rfl,hN.same sd2,wf,by omega,⟨g2,(by simp),fun x hx=>by rw [A3.mp hx];exact ⟨w0,w1⟩⟩,fun l3 zs H3 s3 f3 g3 Nz=>?_⟩
 have e1:ns1=zs:=qUT (qVK st1 (pm1.nodup_iff.mpr O.nodup)) Nz.1.up fun x=>by rw [pm1.mem_iff,O.mem,Nz.2]
 subst e1;refine ⟨l1,l3,ns1,ns1,rfl,rfl,SqL.of (s3 _ _ (s2 _ _ g1)),SqL.of g3,_,rfl,?_⟩;rw [show decide (ns1 ≠ ns1)=false from decide_eq_false fun z=>z rfl];refine iteF ?_;have sd3:=sd2.trans s3;refine ⟨_,rfl,lo,rfl,⟨_,SqL.of (sd3 _ _ gL)⟩,fun pb hpb=>?_⟩;refine qFR (p:=pb) (a:=lo) (xs:=L.map V.int) (fun i σ Hd=>∃ (v:Option V),σ=[v]/\Same H3 Hd/\Hd pb=some (.lst ((C1 i false).map V.bl))) ?_ ?_ ?_ ?_
 ·exact ⟨none,rfl,qA2 hpb _,qA1⟩
 ·rintro i σ He hi ⟨v,rfl,se,_⟩;exact SqL.of (se _ _ (sd3 _ _ gL))
 ·refine fun i x' σ He hx hI_5=>opq fun G_5 hG_5=>?_;obtain ⟨v,rfl,se,gpe⟩:=hI_5;obtain ⟨y,ey,rfl⟩:=qAQ hx;refine hG_5 ?_;have hi:=(A4.mp ey).1;refine ⟨_,rfl,_,"bool",_,false,rfl,TyOf.int y,rfl,_,gpe,qBD (by rw [A0,O6];omega),_,rfl,qAB se hpb,?_⟩
  rw [qA1,X0,A9]
  rfl
 refine fun σ He hI_6=>opq fun G_6 hG_6=>?_;obtain ⟨v,rfl,se,gpe⟩:=hI_6;refine hG_6 ?_;refine ⟨pb,_,rfl,SqL.of gpe,_,rfl,?_⟩;have ea2:(C1 (L.map V.int).length false).any id=false:=by rw [Z6];intro z;obtain ⟨x,hx,e⟩:=o7.mp z;rw [(Y7.mp hx).2] at e;cases e
 rw [ea2];refine iteF ?_;have sd4:=sd3.trans se;refine hN1 _ _ (cut fun N2 hN2=>?_);intro dk hdk;have s5:=qA2 hdk (.dK []);have g5:(upd He dk (.dK [])) dk=some (.dK []):=qA1;have fdk:H dk=none:=sd4.free hdk;have sd5:=sd4.trans s5;generalize upd He dk (.dK [])=H5 at s5 g5 sd5 ⊢;refine hN2 _ _ (cut fun N3 hN3=>?_);have bt:∀ x ∈ L,0<=x/\x<(Ae.length:Int):=fun x hx=>qMH wf w0 w1 ((O.mem x).mp hx);have gtn:∀ x ∈ L,Ae[x.toNat]?=some (nd Ae x):=fun x hx=>by
  have b:=bt x hx;have hw:x.toNat<Ae.length:=by omega
  rw [qAF (A1 hw)];exact A1 hw
 have ah:=O.ahead wf gtn;refine ⟨_,rfl,lo,rfl,⟨_,SqL.of (sd5 _ _ gL)⟩,qCJ (a:=lo) (xs:=L.map V.int) (fun i σ Hc=>∃ (Af:List (Key × V)) (v4:Option V),σ=[some (.ref a),some (.int work),some (.ref lo),some (.ref dk),v4]/\Same H Hc/\Hc dk=some (.dK Af)/\Af.length<=i/\∀ z:Int,(valV Af (J1 z)).isSome=decide (z ∈ L.take i))
  ⟨[],none,rfl,sd5,g5,B0 _,fun z=>by simp [valV]⟩ (fun i σ Hc _ hP=>by obtain ⟨_,_,_,sc,_⟩:=hP;exact SqL.of (sc _ _ gL)) ?_ ?_⟩
 ·refine fun i x' σ Hc hx hI_7=>opq fun G_7 hG_7=>?_;obtain ⟨Af,v4,rfl,sc,gk,lk,hv⟩:=hI_7;obtain ⟨y,ey,rfl⟩:=qAQ hx;refine hG_7 ?_;have hi:=(A4.mp ey).1;have yb:=bt y (B4 ey);have hw:y.toNat<Ae.length:=by omega
  have hz:=A1 hw;obtain ⟨rn,h3,h4⟩:=NL.get hz;have en:=qAF hz;have lys:=(wf _ _ hz).len;have aty:=ah i y ey;rw [en] at aty;generalize Ae[y.toNat]=ys at h4 hz en lys aty;refine cut fun M0 hM0=>?_;refine ⟨_,rfl,_,rfl,a,_,_,_,rfl,rfl,SqT.of (sc _ _ hA),qBT yb.1 (by rw [B1,h3];rfl),rn,rfl,⟨_,SqT.of (sc _ _ h4)⟩,fun pc hpc=>?_⟩
  refine qHI (p:=pc) (a:=rn) (xs:=ys.map V.int) (fun j σ Hd=>∃ (v:Option V),σ=[v,some (.ref dk)]/\Same Hc Hd/\Hd pc=some (.lst ((C1 j true).map V.bl))) ?_ ?_ ?_ ?_
  ·exact ⟨none,rfl,qA2 hpc _,qA1⟩
  ·rintro j σ Hd hj ⟨v,rfl,sd,_⟩;exact SqT.of (sd _ _ (sc _ _ h4))
  ·refine fun j x' σ Hd hx hI_9=>opq fun G_9 hG_9=>?_;obtain ⟨v,rfl,sd,gp⟩:=hI_9;obtain ⟨u,eu,rfl⟩:=qAQ hx;refine hG_9 ?_;have hj:=(A4.mp eu).1;refine ⟨_,rfl,_,rfl,dk,_,rfl,DGet.k (k:=J1 u) (sd _ _ gk),_,gp,qBD (by rw [A0,O6];omega),_,rfl,qAB sd hpc,?_⟩
   rw [hv u,decide_eq_true (aty u (B4 eu)),qA1,X0,A9]
   rfl
  refine fun σ Hd hI_10=>opq fun G_10 hG_10=>?_;obtain ⟨v,rfl,sd,gp⟩:=hI_10;refine hG_10 ?_;refine ⟨pc,_,rfl,SqL.of gp,_,rfl,?_⟩;have ea3:(C1 (ys.map V.int).length true).all id=true:=by rw [G8];exact fun x hx=>(Y7.mp hx).2
  rw [ea3];refine iteF ?_;refine hM0 _ _ ?_;refine ⟨_,rfl,_,rfl,dk,_,rfl,DPut.k (k:=J1 y) (sd _ _ gk) (qBD (by omega)),?_⟩
  refine ⟨_,_,rfl,qAB (sc.trans sd) fdk,qA1,G9 (qCN _ _ _) (by omega),fun z=>?_⟩
  rw [qKL,C4,ey,C0];by_cases e:z=y
  ·rw [e,if_pos rfl];simp
  ·rw [if_neg fun u=>e (Z0 u),hv z];simp [e]
 ·refine fun σ Hc hI_11=>opq fun G_11 hG_11=>?_;obtain ⟨Af,v4,rfl,sc,gk,lk,hv⟩:=hI_11;refine hG_11 ?_;exact hN3 _ _ (q Hc sc)
end
section
variable {P:Program} {w:World} {K:PySem.W.Frag} {mg:Str->Option Value} {base:Heap} {f:Addr} {fd:FuncData} {qE3 qLD:Addr} {qFL qPY:FuncData}
theorem qbC {X:Cx} {e:Expr} (h:∃ a b,e=.Constant (.int 0) a b):PE X e (tC (.int 0)):=by obtain ⟨a,b,rfl⟩:=h;exact qA7
theorem qVL {l:List Int} (h:l.Pairwise (·<=·)) (n:l.Nodup):l.Pairwise (·<·):=(a9.mpr ⟨h,n⟩).imp fun {a b} z=>by have:=z.1;have:=z.2;omega
theorem sc_Lfewest:FnScope ["_law_net_here","_law_wides_here","_law_work","_law_some","_law_best","_law_turn","_law_further","_law_done","_law_held","_law_one","_law_more","_law_rooms"] ["_law_net_here","_law_wides_here","_law_work"] (qAD qBA):=⟨rfl,rfl,rfl,by decide +kernel,rfl,by decide +kernel,by decide +kernel⟩
theorem ok_Lfewest (F:Fun K "_law_fewest" "_law_fewest" qBA f fd) (qD0:Clb P w K mg base 1 qE3 qFL "_law_needed" ["_law_net_here","_law_asked"] qKP) (qLT:Clb P w K mg base 1 qLD qPY "_law_used" ["_law_net_here","_law_some","_law_one","_law_done"] qWL) (qAJ:mg "range" = none) (qBO:mg "len" = none) (qHO:mg "sum" = none) (qD4:mg "all" = none) (qAH:mg "tuple" = none) (qAT:mg "sorted" = none) (qDY:mg "max" = none) (qHP:mg "min" = none):FnOk P w K mg base CX0 2 f fd ["_law_net_here","_law_wides_here","_law_work"] qWM:=by
 refine F.ok sc_Lfewest (fun vs H Q E h=>?_) (fun cdv A outer s H vs Q E hr h=>?_)
 ·obtain ⟨a,t,Ae,ws,work,rfl,_⟩:=h
  rfl
 obtain ⟨a,t,Ae,ws,work,rfl,⟨⟨hN,wf,n400,w0,w1⟩,⟨hT,lw⟩,W1,iT⟩,l13,q⟩:=h;have hu:=qJP hr;have key:qBG qBA=[(qBG qBA).getD 0 (.Pass ⟨0,0,0,0⟩),.Assign [.Name "_law_best" ⟨196,4,196,13⟩] (.Dict [some (kOf ((qBG qBA).getD 1 (.Pass ⟨0,0,0,0⟩)))] [vOf ((qBG qBA).getD 1 (.Pass ⟨0,0,0,0⟩))] ⟨196,16,196,23⟩) ⟨196,4,196,23⟩,(qBG qBA).getD 2 (.Pass ⟨0,0,0,0⟩),(qBG qBA).getD 3 (.Pass ⟨0,0,0,0⟩)]:=by kernel_rfl
 have hk:∀ X:Cx,PE X (kOf ((qBG qBA).getD 1 (.Pass ⟨0,0,0,0⟩))) (tTup tNil):=fun X=>qXS ⟨_,_,rfl⟩;have hv:∀ X:Cx,PE X (vOf ((qBG qBA).getD 1 (.Pass ⟨0,0,0,0⟩))) (tC (.int 0)):=fun X=>qbC ⟨_,_,rfl⟩;rw [key];generalize kOf ((qBG qBA).getD 1 (.Pass ⟨0,0,0,0⟩))=k0 at hk ⊢;generalize vOf ((qBG qBA).getD 1 (.Pass ⟨0,0,0,0⟩))=v9 at hv ⊢;refine ⟨_,(qA4 (qAE (i:=3) sc_Lfewest.nd rfl (b9 rfl) (qAZ qD0 hr rfl (qA0 (pv 0) (qA0 (qC5 (qA0 (pv 2) qA3)) qA3)))) (qA4 (qAE (i:=4) sc_Lfewest.nd rfl (D0 rfl) (qSH hu (hk _) (hv _))) (qA4 (qBE C9 rfl (qBW rfl qAJ (qA0 (qA9 qAL rfl qBO qDL (qA0 (pv 3) qA3)) qA3)) (qAA (i:=5) sc_Lfewest.nd rfl (D0 rfl)) (qA4 (qAE (i:=6) sc_Lfewest.nd rfl (D0 rfl) qVD) (qA4 (qBE C9 rfl (qV9 (qXT (pv 4))) (qAA (i:=7) sc_Lfewest.nd rfl (b9 rfl)) (qA4 (qAE (i:=8) sc_Lfewest.nd rfl (D0 rfl) (qA9 (qLK rfl) rfl qHO qU9 (qA0 (qEA rfl (lcs (own:=["_law_one"]) (fv:=[1,0,3,7]) (by kernel_rfl)) (qDF (pv 7)) (fun z1=>qAA (i:=0) (qD2 (by kernel_rfl)) rfl (D0 rfl)) (fun z1=>(qIO (qIP (qDE (qAZ qLT hr rfl (qA0 (pv 2) (qA0 (pv 3) (qA0 (pv 0) (qA0 (pv 4) qA3))))))))) (fun z1=>(qB0 (qEE (K:=K) rfl) (pv 1) (pv 0) (fun _ _=>rfl)))) qA3))) (qA6 (qBE C9 rfl (qBR (pv 3)) (qAA (i:=9) sc_Lfewest.nd rfl (D0 rfl)) (qA6 (qCF (PW.pt (qS1 (qAU qMB (pv 9) (pv 7) (by with_unfolding_all rfl)) (qO2 (qDE (qA9 (qEI rfl) rfl qD4 qJF (qA0 (qEA rfl (lcs (own:=["_law_need"]) (fv:=[7]) (by kernel_rfl)) (qDF (qB0 qB3 (pv 0) (pv 9) (fun _ _=>rfl))) (fun z2=>qAA (i:=0) (qD2 (by kernel_rfl)) rfl (D0 rfl)) (fun z2=>qBQ) (fun z2=>(qE0 (qSL (K:=K) rfl) (pv 0) (pv 1) (by with_unfolding_all rfl)))) qA3)))))) (qA4 (qAE (i:=10) sc_Lfewest.nd rfl (D0 rfl) (qAK qAM rfl qAH qB4 (qA0 (qA9 (qF7 rfl) rfl qAT qDK (qA0 (qAP qOA (pv 7) (qC5 (qA0 (pv 9) qA3))) qA3)) qA3))) (qA4 (qAE (i:=11) sc_Lfewest.nd rfl (D0 rfl) (qA9 (qJE rfl) rfl qDY qKG (qA0 (qD1 hu (pv 4) (pv 7) (fun _ _=>rfl)) (qA0 (qAP qCA (pv 8) (qB0 qB3 (pv 1) (pv 9) (fun _ _=>rfl))) qA3)))) (qA6 (qE9 hu (pv 6) (pv 10) (qA9 (qJC rfl) rfl qHP qUA (qA0 (qVE hu (pv 6) (pv 10) (pv 11) ⟨rfl,rfl,rfl,rfl⟩) (qA0 (pv 11) qA3))) rfl)))) qAV)))))) (qA6 (qAE (i:=4) sc_Lfewest.nd rfl (D0 rfl) (pv 6)))))) (qA6 (qAS (qD1 hu (pv 4) (qAK qAM rfl qAH qB4 (qA0 (pv 3) qA3)) (fun _ _=>rfl))))))),?_⟩
 try dsimp only [Cx.nox,Cx.wish,cxOf]
 obtain ⟨rs,hA,NL⟩:=id hN;have hwd:∀ y,0<=y->y<(Ae.length:Int)->atI (ws.map V.int) y=some (.int (wdO ws y)):=fun y y0 y1=>by
  have hl:y.toNat<ws.length:=by omega
  refine qBT y0 ?_;rw [B1,A1 hl];unfold wdO;rw [A1 hl]
  rfl
 refine cut fun N0 hN0=>?_;refine ⟨_,rfl,_,rfl,(by show 1<=sizeLine;decide),fun ta hta=>?_⟩
 have s2:=qA2 hta (.tup [.int work]);have g2:(upd H ta (.tup [.int work])) ta=some (.tup ([work].map V.int)):=qA1;generalize upd H ta (.tup [.int work])=H2 at s2 g2 ⊢;refine ⟨a,ta,Ae,[work],rfl,hN.same s2,wf,by omega,⟨g2,(by simp),fun x hx=>by rw [A3.mp hx];exact ⟨w0,w1⟩⟩,fun lz zs H3 s3 f3 g3 Nz=>?_⟩
 have T:=qLX wf n400 Nz iT;have lzs:=Nz.1.len;have zin:=Nz.1.in_;refine hN0 _ _ (cut fun N1 hN1=>?_);intro rb hrb;refine ⟨(by show 0<=sizeLine;decide),fun e0 he0=>?_⟩
 have s4:=qA2 hrb (.dT []);have s5:=qA2 he0 (.tup []);have g5:(upd (upd H3 rb (.dT [])) e0 (.tup [])) rb=some (.dT []):=s5 _ _ qA1;have g6:(upd (upd H3 rb (.dT [])) e0 (.tup [])) e0=some (.tup (([]:List Key).map kV)):=qA1;have s45:=s4.trans s5;have sA:=s2.trans (s3.trans s45);have gz5:=s45 _ _ g3;have frb:H rb=none:=(s2.trans s3).free hrb;generalize upd (upd H3 rb (.dT [])) e0 (.tup [])=H5 at g5 g6 sA gz5 ⊢;refine ⟨g5,e0,[],rfl,g6,?_⟩;have nzr:lz ≠ rb:=qBS gz5 g5 (by intro z;cases z)
 have sB:Same H (upd H5 rb (.dT [([],.int 0)])):=qAB sA frb;have gB:(upd H5 rb (.dT [([],.int 0)])) rb=some (.dT (kvsD [[]] fun _=>0)):=qA1;have gzB:(upd H5 rb (.dT [([],.int 0)])) lz=some (.lst (zs.map V.int)):=by rw [qA8 nzr];exact gz5
 generalize upd H5 rb (.dT [([],.int 0)])=H6 at sB gB gzB ⊢;refine hN1 _ _ (cut fun N2 hN2=>?_);refine ⟨_,rfl,lz,_,rfl,.inl (SqL.of gzB),?_⟩;rw [A0];refine ⟨(zs.length:Int),rfl,by omega,by omega,qEZ (lo:=0) (n:=zs.length) (fun i σ Hc=>∃ (rb:Addr) (ks:List (List Int)) (g:List Int->Int) (v5 v6 v7 v8 v9 v10 v11:Option V),σ=[some (.ref a),some (.ref t),some (.int work),some (.ref lz),some (.ref rb),v5,v6,v7,v8,v9,v10,v11]/\Same H Hc/\Hc lz=some (.lst (zs.map V.int))/\Hc rb=some (.dT (kvsD ks g))/\H rb=none/\Dp Ae ws zs i ks g)
  ⟨rb,[[]],fun _=>0,none,none,none,none,none,none,none,rfl,sB,gzB,gB,frb,Dp.start⟩ ?_ ?_⟩
 ·clear gB gzB sB nzr g5 g6 gz5 sA frb;refine fun ti σ Hc hti hI_1=>opq fun G_1 hG_1=>?_;obtain ⟨rb,ks,g,v5,v6,v7,v8,v9,v10,v11,rfl,sc,gz,grb,frb,P⟩:=hI_1;refine hG_1 ?_;refine cut fun N3 hN3=>?_;intro fr hfr;have s7:=qA2 hfr (.dT []);have g7:(upd Hc fr (.dT [])) fr=some (.dT (kvsD [] fun _=>0)):=qA1;have ffr:H fr=none:=sc.free hfr;have grb7:=s7 _ _ grb;have gz7:=s7 _ _ gz;have nrf:rb ≠ fr:=qA5 grb hfr;have sc7:=sc.trans s7;generalize upd Hc fr (.dT [])=H7 at s7 g7 grb7 gz7 sc7 ⊢;refine hN3 _ _ (cut fun N4 hN4=>?_);refine ⟨_,rfl,rb,_,rfl,grb7,fun o=>⟨rb,o,_,rfl,qA1,?_⟩⟩;have nzr:lz ≠ rb:=qBS gz7 grb7 (by intro z;cases z)
  have sc8:Same H (upd H7 rb (.frz o (.dT (kvsD ks g)))):=qAB sc7 frb;have grb8:(upd H7 rb (.frz o (.dT (kvsD ks g)))) rb=some (.frz o (.dT (kvsD ks g))):=qA1;have gz8:(upd H7 rb (.frz o (.dT (kvsD ks g)))) lz=some (.lst (zs.map V.int)):=by rw [qA8 nzr];exact gz7
  have g8:(upd H7 rb (.frz o (.dT (kvsD ks g)))) fr=some (.dT (kvsD [] fun _=>0)):=by rw [qA8 nrf.symm];exact g7
  generalize upd H7 rb (.frz o (.dT (kvsD ks g)))=H8 at sc8 grb8 gz8 g8 ⊢;refine qTS (a:=rb) (o:=o) (Af:=kvsD ks g) (fun i σ Hd=>∃ (fk:List (List Int)) (fg:List Int->Int) (v7 v8 v9 v10 v11:Option V),σ=[some (.ref a),some (.ref t),some (.int work),some (.ref lz),some (.ref rb),some (.int (0+(ti:Int))),some (.ref fr),v7,v8,v9,v10,v11]/\Same H Hd/\Hd lz=some (.lst (zs.map V.int))/\Hd rb=some (.frz o (.dT (kvsD ks g)))/\Hd fr=some (.dT (kvsD fk fg))/\Dq Ae ws zs ti ks g fk fg i 0)
   ⟨[],fun _=>0,v7,v8,v9,v10,v11,rfl,sc8,gz8,grb8,g8,Dq.start⟩ (fun i σ Hd _ ⟨_,_,_,_,_,_,_,_,_,_,z,_⟩=>z) ?_ ?_
  ·clear sc8 grb8 gz8 g8 sc7 grb7 gz7 g7 s7 gz grb sc hfr;refine fun i k v r σ Hd hkv gr0 hI_2=>opq fun G_2 hG_2=>?_;obtain ⟨fk,fg,v7,v8,v9,v10,v11,rfl,sd,gz,grb,gfr,DQ⟩:=hI_2;obtain ⟨D,eD,rfl,rfl⟩:=qVP hkv;refine hG_2 ?_;have gr:Hd r=some (.tup (D.map V.int)):=by rw [gr0,qT5]
   have mD:=B4 eD;have d1:=P.snd D mD;have Din:∀ x ∈ D,0<=x/\x<(Ae.length:Int):=fun x hx=>zin x (d1.in_ x hx);have lD:D.length<=13:=by
    have:=qIW (d1.up.imp fun {a b} h=>(by omega:a ≠ b)) Din
    omega
   refine cut fun N5 hN5=>?_;refine ⟨_,rfl,r,rfl,⟨_,SqT.of gr⟩,fun p hp=>?_⟩;refine qHI (p:=p) (a:=r) (xs:=D.map V.int) (fun j σ He=>∃ (v:Option V),σ=[v,some (.ref t),some (.ref a),some (.ref lz),some (.ref r)]/\Same Hd He/\He p=some (.lst ((((D.take j).filter fun x=>!qGX Ae zs D x).map (wdO ws)).map V.int))) ?_ ?_ ?_ ?_
   ·exact ⟨none,rfl,qA2 hp _,qA1⟩
   ·rintro j σ He hj ⟨v,rfl,se,_⟩;exact SqT.of (se _ _ gr)
   ·refine fun j x σ He hx hI_4=>opq fun G_4 hG_4=>?_;obtain ⟨v,rfl,se,hpe⟩:=hI_4;obtain ⟨y,ey,rfl⟩:=qAQ hx;refine hG_4 ?_;have hj:=(A4.mp ey).1;have yb:=Din y (B4 ey);refine ⟨_,rfl,_,rfl,_,rfl,_,rfl,a,lz,r,Ae,zs,D,y,rfl,hN.same (sd.trans se),wf,by omega,se _ _ gz,zin,by omega,se _ _ gr,fun Hf sf=>⟨_,rfl,?_⟩⟩
    have hpf:=sf _ _ hpe;have sef:=se.trans sf;rw [qDI ey];cases cu:qGX Ae zs D y with
    | true=>
     refine iteF ?_;rw [if_neg (show ¬ ((!true)=true) by decide),V7]
     exact ⟨_,rfl,sef,hpf⟩
    | false=>
     refine iteT ?_;rw [if_pos (show ((!false)=true) by decide)]
     have lf1:((D.take j).filter fun x=>!qGX Ae zs D x).length<=63:=G9 (W4 _ _) (by rw [D1];omega)
     refine ⟨_,rfl,_,rfl,t,_,_,_,rfl,rfl,SqT.of ((sd.trans sef) _ _ hT),hwd y yb.1 yb.2,_,hpf,qBD (by rw [A0,A0];omega),_,rfl,qAB sef hp,?_⟩
     rw [qA1,A9,A9]
     rfl
   refine fun σ He hI_5=>opq fun G_5 hG_5=>?_;obtain ⟨v,rfl,se,hpe⟩:=hI_5;refine hG_5 ?_;rw [A0,V2] at hpe;refine ⟨p,_,rfl,SqL.of hpe,?_⟩;have es:((D.filter fun x=>!qGX Ae zs D x).map (wdO ws)).sum=qR2 Ae ws zs D:=rfl;rw [es];refine hN5 _ _ ?_;have sde:=sd.trans se;refine ⟨_,rfl,lz,rfl,⟨_,SqL.of (se _ _ gz)⟩,qCJ (a:=lz) (xs:=zs.map V.int) (fun j σ Hf=>∃ (fk:List (List Int)) (fg:List Int->Int) (v9 v10 v11:Option V),σ=[some (.ref a),some (.ref t),some (.int work),some (.ref lz),some (.ref rb),some (.int (0+(ti:Int))),some (.ref fr),some (.ref r),some (.int (qR2 Ae ws zs D)),v9,v10,v11]/\Same H Hf/\Hf lz=some (.lst (zs.map V.int))/\Hf rb=some (.frz o (.dT (kvsD ks g)))/\Hf fr=some (.dT (kvsD fk fg))/\Hf r=some (.tup (D.map V.int))/\Dq Ae ws zs ti ks g fk fg i j)
    ⟨fk,fg,v9,v10,v11,rfl,sde,se _ _ gz,se _ _ grb,se _ _ gfr,se _ _ gr,DQ⟩ (fun j σ Hf _ hP=>by obtain ⟨_,_,_,_,_,_,_,z,_⟩:=hP;exact SqL.of z) ?_ ?_⟩
   ·clear sde hpe gfr DQ grb gz sd gr se gr0;refine fun j x' σ Hf hx hI_6=>opq fun G_6 hG_6=>?_;obtain ⟨fk,fg,v9,v10,v11,rfl,sf,gz,grb,gfr,gr,DQ⟩:=hI_6;obtain ⟨y,ey,rfl⟩:=qAQ hx;refine hG_6 ?_;have yb:=zin y (B4 ey);have hy:y.toNat<Ae.length:=by omega
    have hz:=A1 hy;obtain ⟨r2,h3,h4⟩:=NL.get hz;have en:=qAF hz;have ln:=(wf y.toNat _ hz).len;generalize Ae[y.toNat]=ns at h4 hz en ln;refine ⟨_,rfl,_,rfl,r,_,rfl,.inr (SqT.of gr),rfl,qF0 D,_,rfl,?_⟩;dsimp only;rw [qJ7];by_cases c:y ∈ D
    ·rw [decide_eq_true c];refine iteF ?_;refine iteF ?_;exact ⟨fk,fg,_,_,_,rfl,sf,gz,grb,gfr,gr,DQ.skip eD ey (by unfold canD;rw [decide_eq_false (fun z=>z c)];rfl)⟩
    ·rw [decide_eq_false c];refine iteT ?_;have hA1:=sf _ _ hA;have h41:=sf _ _ h4;refine ⟨_,rfl,_,rfl,a,_,_,_,rfl,rfl,SqT.of hA1,qBT yb.1 (by rw [B1,h3];rfl),r2,rfl,⟨_,SqT.of h41⟩,fun p2 hp2=>?_⟩
     refine qHI (p:=p2) (a:=r2) (xs:=ns.map V.int) (fun j σ Hd=>∃ (v:Option V),σ=[v,some (.ref r)]/\Same Hf Hd/\Hd p2=some (.lst (((ns.take j).map fun z=>decide (z ∈ D)).map V.bl))) ?_ ?_ ?_ ?_
     ·exact ⟨none,rfl,qA2 hp2 _,qA1⟩
     ·rintro j σ Hd hj ⟨v,rfl,sd,_⟩;exact SqT.of (sd _ _ h41)
     ·refine fun j x σ Hd hx hI_8=>opq fun G_8 hG_8=>?_;obtain ⟨v,rfl,sd,hpd⟩:=hI_8;obtain ⟨z,ez,rfl⟩:=qAQ hx;refine hG_8 ?_;have hj:=(A4.mp ez).1;refine ⟨_,rfl,_,rfl,r,_,rfl,.inr (SqT.of (sd _ _ gr)),rfl,qF0 D,_,hpd,qAO (by rw [A0,A0,D1];omega),_,rfl,qAB sd hp2,?_⟩
      rw [qA1,C4,ez,C0,A9,A9];show some (HO.lst (_++[V.bl (inV (.int z) (D.map V.int))]))=_;rw [qJ7]
      rfl
     refine fun σ Hg hI_9=>opq fun G_9 hG_9=>?_;obtain ⟨v,rfl,sg,gp⟩:=hI_9;refine hG_9 ?_;rw [A0,V2] at gp;refine ⟨p2,_,rfl,SqL.of gp,_,rfl,?_⟩;have ea:((ns.map fun z=>decide (z ∈ D)).all id)=canD Ae D y:=by
      unfold canD;rw [en,decide_eq_true c,A12,List.all_map]
      rfl
     rw [ea];have sfg:=sf.trans sg;have gzg:=sg _ _ gz;have grbg:=sg _ _ grb;have gfrg:=sg _ _ gfr;have grg:=sg _ _ gr;cases cc:canD Ae D y with
     | false=>
      refine iteF ?_;exact ⟨fk,fg,_,_,_,rfl,sfg,gzg,grbg,gfrg,grg,DQ.skip eD ey cc⟩
     | true=>
      refine iteT ?_;refine cut fun M0 hM0=>?_;refine ⟨_,rfl,_,rfl,(by show 1<=sizeLine;decide),fun p3 hp3=>?_⟩
      have s3':=qA2 hp3 (.tup [.int y]);have g3':(upd Hg p3 (.tup [.int y])) p3=some (.tup [.int y]):=qA1;generalize upd Hg p3 (.tup [.int y])=Hh at s3' g3' ⊢;refine ⟨r,p3,_,_,rfl,rfl,s3' _ _ grg,g3',by rw [A0,sizeLine_eq];show _+1<=_;omega,fun p4 Hi s4' g4'=>?_⟩
      have e4:D.map V.int++[V.int y]=(D++[y]).map V.int:=by rw [A9];rfl
      rw [e4] at g4';refine ⟨p4,D++[y],rfl,.inr (.inl (SqT.of g4')),by rw [A7,C3];omega,fun p5 E hp5 pE stE=>?_⟩
      have s5':=qA2 hp5 (.lst (E.map V.int));have g5':(upd Hi p5 (.lst (E.map V.int))) p5=some (.lst (E.map V.int)):=qA1;generalize upd Hi p5 (.lst (E.map V.int))=Hj at s5' g5' ⊢;refine ⟨p5,_,rfl,.inl ⟨SqL.of g5',fun p6 hp6=>?_⟩⟩;have s6':=qA2 hp6 (.tup (E.map V.int));have g6':(upd Hj p6 (.tup (E.map V.int))) p6=some (.tup (E.map V.int)):=qA1;have sAll:=s3'.trans (s4'.trans (s5'.trans s6'));generalize upd Hj p6 (.tup (E.map V.int))=Hk at g6' sAll ⊢;have ndE:E.Nodup:=pE.nodup_iff.mpr (G5.mpr ⟨d1.up.imp fun {a b} h=>(by omega:a ≠ b),by simp,fun u hu w hw e=>c (by rw [A3.mp hw] at e;exact e ▸ hu)⟩)
      have uE:=qVL stE ndE;have sfk:=sfg.trans sAll;have gzk:=sAll _ _ gzg;have grbk:=sAll _ _ grbg;have gfrk:=sAll _ _ gfrg;have grk:=sAll _ _ grg;refine hM0 _ _ (cut fun M1 hM1=>?_);have getD:DGet Hk rb (.ref r) (some (.int (g D))):=.inr ⟨kvsD ks g,kT D,r,.inr ⟨o,grbk⟩,rfl,by rw [qT5];exact grk,by rw [qGF,if_pos mD]⟩
      refine ⟨_,rfl,_,rfl,rb,_,rfl,getD,_,rfl,_,rfl,_,rfl,t,_,_,_,rfl,rfl,SqT.of (sfk _ _ hT),hwd y yb.1 yb.2,_,_,rfl,rfl,_,_,rfl,?_⟩;refine hM1 _ _ ?_;have getE:DGet Hk fr (.ref p6) (if E ∈ fk then some (.int (fg E)) else none):=.inr ⟨kvsD fk fg,kT E,p6,.inl gfrk,rfl,by rw [qT5];exact g6',by rw [qGF]⟩
      have few:=qW4 T l13 DQ.nd DQ.snd;refine ⟨_,rfl,fr,rfl,.inr ⟨_,.inl gfrk⟩,_,rfl,_,rfl,_,getE,?_⟩;have eg:∀ (b:Bool) (z:Int),b=decide (E ∈ fk)->(if E ∈ fk then some (V.int (fg E)) else none).getD (V.int z)=V.int (if E ∈ fk then fg E else z):=fun b z _=>by
       by_cases m:E ∈ fk
       ·rw [if_pos m,if_pos m];rfl
       ·rw [if_neg m,if_neg m];rfl
      rw [eg _ _ rfl];refine ⟨_,rfl,_,_,rfl,?_⟩;refine ⟨_,rfl,_,rfl,fr,_,rfl,DPut.t (k:=kT E) gfrk (by rw [qT5];exact g6') (qBD (by rw [qPQ];omega)),?_⟩
      rw [qVO];refine ⟨_,_,_,_,_,rfl,qAB sfk ffr,by rw [qA8 (qBS gzk gfrk (by intro z;cases z))];exact gzk,by rw [qA8 (qBS grbk gfrk (by intro z;cases z))];exact grbk,qA1,by rw [qA8 (qBS grk gfrk (by intro z;cases z))];exact grk,?_⟩
      exact DQ.put T P eD ey cc uE pE rfl
   ·refine fun σ Hf hI_10=>opq fun G_10 hG_10=>?_;obtain ⟨fk,fg,v9,v10,v11,rfl,sf,gz,grb,gfr,gr,DQ⟩:=hI_10;refine hG_10 ?_;rw [A0] at DQ;exact ⟨fk,fg,_,_,_,_,_,rfl,sf,gz,grb,gfr,DQ.next⟩
  ·refine fun σ Hd hI_11=>opq fun G_11 hG_11=>?_;obtain ⟨fk,fg,v7,v8,v9,v10,v11,rfl,sd,gz,grb,gfr,DQ⟩:=hI_11;refine hG_11 ?_;rw [qPQ] at DQ;refine hN4 _ _ ?_;exact ⟨_,rfl,fr,fk,fg,_,_,_,_,_,_,_,rfl,sd,gz,gfr,ffr,DQ.done T P⟩
 ·refine fun σ Hc hI_12=>opq fun G_12 hG_12=>?_;obtain ⟨rb,ks,g,v5,v6,v7,v8,v9,v10,v11,rfl,sc,gz,grb,frb,P⟩:=hI_12;refine hG_12 ?_;refine hN2 _ _ ?_;obtain ⟨mz,FW⟩:=P.last T W1;refine ⟨_,rfl,_,rfl,lz,_,rfl,.inl ⟨SqL.of gz,fun p hp=>?_⟩⟩;have s8:=qA2 hp (.tup (zs.map V.int));have g8:(upd Hc p (.tup (zs.map V.int))) p=some (.tup (zs.map V.int)):=qA1;have grb8:=s8 _ _ grb;generalize upd Hc p (.tup (zs.map V.int))=H8 at s8 g8 grb8 ⊢;exact ⟨rb,_,rfl,.inr ⟨kvsD ks g,kT zs,p,.inl grb8,rfl,by rw [qT5];exact g8,by rw [qGF,if_pos mz]⟩,q _ H8 (sc.trans s8) FW⟩
end
def qKQ (K:PySem.W.Frag) (Ps Pp:Addr):Sp:=fun vs H Q E=>TabS H Ps/\TabP H Pp/\qb2 K vs H Q E
theorem qRJ {Ae:List (List Int)} {ws:List Int} (l:ws.length=Ae.length) (h:∀ u ∈ ws,1<=u):Wd1 Ae ws:=fun x x0 x1=>by
 have hx:x.toNat<ws.length:=by omega
 unfold wdO;rw [A1 hx];exact h _ (R9 hx)
theorem qXZ:isT [[]] 0/\WFn [[]]/\∀ (L:List Int),OrdT [[]] 0 L->L=[0]:=by
 have wf:WFn [[]]:=fun i zs e=>by
  cases i with
  | zero=>cases e;exact ⟨.nil,fun _ h=>nomatch h⟩
  | succ i=>cases e
 have nd0:∀ x,nd ([[]]:List (List Int)) x=[]:=fun x=>by
  by_cases h:x.toNat<([[]]:List (List Int)).length
  ·have e:=A1 h;have:=qAF e;rw [this];have:([[]]:List (List Int))[x.toNat] ∈ ([[]]:List (List Int)):=R9 h;exact A3.mp this
  ·unfold nd;rw [F5 (by omega)]
   rfl
 have only:∀ {x:Int},Nd [[]] [0] x->x=0:=fun h=>by
  rcases qL4 h with e | ⟨y,hy,_⟩
  ·exact e
  ·rw [nd0] at hy;cases hy
 refine ⟨?_,wf,fun L O=>?_⟩
 ·refine ⟨[0],⟨⟨by simp,fun x hx=>by rw [A3.mp hx];exact ⟨E6 _,by decide⟩⟩,fun x=>⟨fun h=>by rw [A3.mp h];exact .ask (A3.mpr rfl),fun h=>A3.mpr (only h)⟩⟩,?_⟩
  rfl
 ·have h0:(0:Int) ∈ L:=(O.mem 0).mpr (.ask (A3.mpr rfl));have all:∀ x ∈ L,x=0:=fun x hx=>only ((O.mem x).mp hx);have n:=O.nodup
  match L,h0,all,n with
  | [x],_,all,_=>rw [all x A6]
  | x::y::r,_,all,n=>
   have e:x=y:=(all x A6).trans (all y (A5 _ A6)).symm;exact ((G7.mp n).1 (by rw [e];exact A6)).elim
section
variable {P:Program} {w:World} {K:PySem.W.Frag} {mg:Str->Option Value} {base:Heap} {f:Addr} {fd:FuncData} {Ps Pp:Addr} {qI7 qCP qGO qI5 qGP qCC qDT qF3 qEH qI6 qDJ:Addr} {qN5 qCK qKC qN3 qKD qD7 qGK qGM qHJ qN4 qN1:FuncData}
theorem sc_law:FnScope ["_law_script","_law_state","_law_turn","_law_many","_law_net_here","_law_work","_law_wides_here","_law_due","_law_order","_law_kept","_law_rooms","_law_flat"] ["_law_script"] (qAD qJM):=⟨rfl,rfl,rfl,by decide +kernel,rfl,by decide +kernel,by decide +kernel⟩
theorem ok_law (F:Fun K "law" "law" qJM f fd) (qIC:Clb P w K mg base 1 qI7 qN5 "_law_begin" ["_law_script"] (qRU K)) (qAI:Clb P w K mg base 1 qCP qCK "_law_take" ["_law_state","_law_many"] qIH) (qGV:Clb P w K mg base 4 qGO qKC "_law_ground" ["_law_state","_law_many"] qP5) (qIA:Clb P w K mg base 2 qI5 qN3 "_law_wides" ["_law_state","_law_many"] qP1) (qGW:Clb P w K mg base 2 qGP qKD "_law_fewest" ["_law_net_here","_law_wides_here","_law_work"] qWM) (qB7:Clb P w K mg base 4 qCC qD7 "wide_order" ["net","wides","work"] (qET Pp)) (qCZ:Clb P w K mg base 5 qDT qGK "wide_rooms" ["net","wides","work"] (qIF Pp)) (qLU:Clb P w K mg base 2 qF3 qGM "_law_same" ["_law_found","_law_due"] (spS 2)) (qEN:Clb P w K mg base 2 qEH qHJ "_law_is_order" ["_law_net_here","_law_work","_law_order"] qJX) (qIB:Clb P w K mg base 1 qI6 qN4 "_law_taken" ["_law_net_here","_law_wides_here","_law_order"] qRT) (qEM:Clb P w K mg base 4 qDJ qN1 "stretched" ["net","wides","work"] (qII Ps)) (qAJ:mg "range" = none) (qBO:mg "len" = none) (qCE:mg "list" = none) (qDY:mg "max" = none) (qD4:mg "all" = none):FnOk P w K mg base CX0 8 f fd ["_law_script"] (qKQ K Ps Pp):=by
 refine F.ok sc_law (fun vs H Q E h=>?_) (fun cdv A outer s H vs Q E hr h=>?_)
 ·obtain ⟨_,_,sc,ns,rfl,_⟩:=h
  rfl
 obtain ⟨hTs,hTp,sc,ns,rfl,hS,h63,q⟩:=h;have hu0:=hr.units0;refine ⟨_,(qA4 (qAE (i:=1) sc_law.nd rfl (D0 rfl) (qAZ qIC hr rfl (qA0 (pv 0) qA3))) (qA4 (qBE C9 rfl (qBW rfl qAJ (qA0 (qAP qCA qA7 (qAZ qAI hr rfl (qA0 (pv 1) (qA0 qA7 qA3)))) qA3)) (qAA (i:=2) sc_law.nd rfl (D0 rfl)) (qA4 (qAE (i:=3) sc_law.nd rfl (D0 rfl) (qB0 qEF (qBH (qA0 (qAP qCA qA7 (qAZ qAI hr rfl (qA0 (pv 1) (qA0 qA7 qA3)))) (qA0 qA7 (qA0 qA7 qA3)))) (qAZ qAI hr rfl (qA0 (pv 1) (qA0 qA7 qA3))) (fun _ _=>rfl))) (qA4 (qM5 (qAZ qGV hr rfl (qA0 (pv 1) (qA0 (pv 3) qA3))) (qM8 rfl (qC6 (qAA (i:=4) sc_law.nd rfl (b9 rfl)) (qC6 (qAA (i:=5) sc_law.nd rfl (D0 rfl)) qH0)))) (qA4 (qAE (i:=6) sc_law.nd rfl (D0 rfl) (qAZ qIA hr rfl (qA0 (pv 1) (qA0 (qA9 qAL rfl qBO qDL (qA0 (pv 4) qA3)) qA3)))) (qA4 (qAE (i:=7) sc_law.nd rfl (D0 rfl) (qAZ qGW hr rfl (qA0 (pv 4) (qA0 (pv 6) (qA0 (pv 5) qA3))))) (qA4 (qAE (i:=8) sc_law.nd rfl (D0 rfl) (qAZ qB7 hr rfl (qA0 (pv 4) (qA0 (pv 6) (qA0 (pv 5) qA3))))) (qA4 (qCF (PW.pt (qM4 (qIP (qDE (qAZ qLU hr rfl (qA0 (qAZ qCZ hr rfl (qA0 (pv 4) (qA0 (pv 6) (qA0 (pv 5) qA3)))) (qA0 (pv 7) qA3))))) (qHG (qIP (qDE (qAZ qEN hr rfl (qA0 (pv 4) (qA0 (pv 5) (qA0 (pv 8) qA3))))))))) (qA6 (qAS qFM)) qAV) (qA4 (qAE (i:=9) sc_law.nd rfl (D0 rfl) (qAK qHK rfl qCE qH9 (qA0 (pv 8) qA3))) (qA4 (qCL (qWT E8 PySem.F.slot_list_reverse PySem.F.type_list_reverse qQR (pv 8))) (qA4 (qCL (qJN E8 L7 L8 qCV (pv 8) (qA0 (pv 5) qA3))) (qA4 (qCF (PW.pt (qM4 (qAU qQN (qA9 (qJD rfl) rfl qDY qKG (qA0 (qAZ qIB hr rfl (qA0 (pv 4) (qA0 (pv 6) (qA0 (pv 9) qA3)))) qA3)) (pv 7) (qB1 _)) (qHG (qAU (qO5 hu0) (qAZ qB7 hr rfl (qA0 (pv 4) (qA0 (pv 6) (qA0 (pv 5) qA3)))) (pv 9) (qB1 _))))) (qA6 (qAS qFM)) qAV) (qA4 (qAE (i:=10) sc_law.nd rfl (D0 rfl) (qB0 qB3 (qAZ qEM hr rfl (qA0 (pv 4) (qA0 (pv 6) (qA0 (pv 5) qA3)))) qA7 (fun _ _=>rfl))) (qA4 (qAE (i:=11) sc_law.nd rfl (D0 rfl) (qA9 (qEI rfl) rfl qD4 qJF (qA0 (qEA rfl (lcs (own:=["_law_need"]) (fv:=[4]) (by kernel_rfl)) (qDF (qB0 qB3 (pv 4) (pv 5) (fun _ _=>rfl))) (fun z1=>qAA (i:=0) (qD2 (by kernel_rfl)) rfl (D0 rfl)) (fun z1=>qBQ) (fun z1=>(qE0 (qO8 (K:=K) rfl hu0) (qB0 (qEE (K:=K) rfl) (pv 1) (pv 0) (fun _ _=>rfl)) (qC5 qA3) (qB1 _)))) qA3))) (qA6 (qCF (PW.pt (qM4 (qAU qXV (pv 10) (pv 7) (qB1 _)) (qHG (PW.pt (qS1 (qDE (pv 11)) (qO2 (qAU qQN (pv 10) (pv 7) (qB1 _)))))))) (qA6 (qAS qFM)) qAV))))))))))))))) (qA6 (qAS (qPG (qE0 qG9 (qAZ qCZ hr rfl (qA0 (qC5 (qA0 (qC5 qA3) qA3)) (qA0 (qC5 (qA0 qA7 qA3)) (qA0 qA7 qA3)))) qA7 (qB1 _)) (qSG (qE0 (qO9 hu0) (qAZ qB7 hr rfl (qA0 (qC5 (qA0 (qC5 qA3) qA3)) (qA0 (qC5 (qA0 qA7 qA3)) (qA0 qA7 qA3)))) (qBH (qA0 qA7 qA3)) (qB1 _)))))))),?_⟩
 try dsimp only [Cx.nox,Cx.wish,cxOf]
 refine cut fun Na hNa=>?_;refine ⟨_,rfl,sc,ns,rfl,hS,h63,fun d c ms H1 S1 sm0 hd0 hc0=>?_⟩;have hTs0:=sm0 _ _ hTs;have hTp0:=sm0 _ _ hTp;have nSd:Ps ≠ d:=qBS hTs0 S1.dict (by intro z;cases z)
 have nSc:Ps ≠ c:=qBS hTs0 S1.list (by intro z;cases z)
 have nPd:Pp ≠ d:=qBS hTp0 S1.dict (by intro z;cases z)
 have nPc:Pp ≠ c:=qBS hTp0 S1.list (by intro z;cases z)
 refine hNa _ _ (cut fun Nb hNb=>?_);refine ⟨_,rfl,d,c,0,ms,3,rfl,S1,(by show (0:Int)<=1000000000;decide),by decide,by decide,fun x ms2 H2 x0 x3 S2 K2=>⟨_,_,rfl,rfl,?_⟩⟩
 refine ⟨(2+x),rfl,by omega,by omega,qEZ (lo:=0) (n:=(2+x).toNat) (fun i σ Hc=>∃ (t:Int) (ns:List Int) (v2 v3 v4 v5 v6 v7 v8 v9 v10 v11:Option V),σ=[some (.ref sc),some (.ref d),v2,v3,v4,v5,v6,v7,v8,v9,v10,v11]/\StAt Hc d c t ns/\t<=10+10000 * (i:Int)/\TabS Hc Ps/\TabP Hc Pp)
  ⟨0+1,ms2,none,none,none,none,none,none,none,none,none,none,rfl,S2,by omega,K2 _ _ hTs0 nSd nSc,K2 _ _ hTp0 nPd nPc⟩ ?_ ?_⟩
 ·clear hTs0 hTp0 hTs hTp;refine fun i σ Hc hi hI_1=>opq fun G_1 hG_1=>?_;obtain ⟨t,ns,v2,v3,v4,v5,v6,v7,v8,v9,v10,v11,rfl,S3,tb,hTs,hTp⟩:=hI_1;refine hG_1 ?_;refine cut fun N1 hN1=>?_;refine ⟨_,rfl,d,c,t,ns,7,rfl,S3,(by show t<=1000000000;omega),by decide,by decide,fun y1 ns1 H3 y10 y11 S4 K3=>⟨_,_,rfl,rfl,?_⟩⟩
  refine ⟨(by show 3<=sizeLine;decide),fun l hl=>?_⟩
  have sl:=qA2 hl (.lst [.int (1+y1),.int 8,.int 9]);have gl:(upd H3 l (.lst [.int (1+y1),.int 8,.int 9])) l=some (.lst [.int (1+y1),.int 8,.int 9]):=qA1;have nl:l ≠ d/\l ≠ c:=⟨(qA5 S4.dict hl).symm,(qA5 S4.list hl).symm⟩;refine ⟨_,rfl,d,c,t+1,ns1,3,rfl,S4.same sl,(by show t+1<=1000000000;omega),by decide,by decide,fun y2 ns2 H4 y20 y21 S5 K4=>?_⟩
  obtain ⟨m,hm,m1,m9⟩:∃ m:Int,atI [V.int (1+y1),.int 8,.int 9] y2=some (.int m)/\1<=m/\m<=9:=by
   rcases (by omega:y2=0\/y2=1\/y2=2) with e | e | e
   ·subst e;exact ⟨1+y1,rfl,by omega,by omega⟩
   ·subst e;exact ⟨8,rfl,by omega,by omega⟩
   ·subst e;exact ⟨9,rfl,by omega,by omega⟩
  refine ⟨l,_,_,_,rfl,rfl,SqL.of (K4 _ _ gl nl.1 nl.2),hm,?_⟩;have KB:=K3.trans ((Keep.of_same sl).trans K4);refine hN1 _ _ (cut fun N2 hN2=>?_);refine ⟨_,rfl,_,rfl,d,c,t+1+1,ns2,m,rfl,S5,(by show t+1+1<=1000000000 - 20000;omega),m1,by omega,fun T a Ae work t4 ns4 H6 S7 g1 g2 K6 NI l13 iT gT=>?_⟩
  refine ⟨T,_,rfl,SqT.of gT,rfl,_,_,rfl,_,_,rfl,rfl,?_⟩;refine hN2 _ _ (cut fun N3 hN3=>?_);obtain ⟨hN,wf,n4,w0,w1⟩:=NI;obtain ⟨rs,hA,NL⟩:=id hN;have lrs:=C7 NL;refine ⟨_,rfl,_,rfl,a,_,rfl,.inr (SqT.of hA),?_⟩;rw [A0,lrs];refine ⟨d,c,t4,ns4,_,rfl,S7,(by show t4<=1000000000 - 1000;omega),by omega,by omega,fun r ws t5 ns5 H7 S8 g3 g4 K7 gr lw ge1=>?_⟩
  have hN7:=hN.keep S7 K7;have tS:TabS H7 Ps:=(KB.trans (K6.trans K7)) _ _ hTs nSd nSc;have tP:TabP H7 Pp:=(KB.trans (K6.trans K7)) _ _ hTp nPd nPc;have lw':ws.length=Ae.length:=by omega
  have W1:=qRJ lw' ge1;refine hN3 _ _ (cut fun N4 hN4=>?_);have SI:∀ {Hx:Hp},Same H7 Hx->qRA Hx a r Ae ws work:=fun k=>⟨⟨hN7.same k,wf,n4,w0,w1⟩,⟨k _ _ gr,lw'⟩,W1,iT⟩;clear K7 K6 KB gT hA NL hm gl sl hTs hTp;refine ⟨_,rfl,_,rfl,_,rfl,a,r,Ae,ws,work,rfl,SI (.refl _),by omega,fun due H8 s8 FW=>?_⟩
  refine hN4 _ _ (cut fun N5 hN5=>?_);refine ⟨_,rfl,_,rfl,_,rfl,a,r,Ae,ws,work,rfl,s8 _ _ tP,SI s8,fun lo L H9 s9 fl9 g9 B WL=>?_⟩;obtain ⟨zs,Nz,_⟩:=id iT;have TI:=qLX wf n4 Nz iT;have lL:=(B.1.all TI).2;obtain ⟨M,hM⟩:=B.1.top_ex (ws:=ws);have eM:=qW5 TI W1 FW B hM;subst eM;refine hN5 _ _ (cut fun N6 hN6=>?_);have s79:=s8.trans s9;refine ⟨_,rfl,_,rfl,_,rfl,a,r,Ae,ws,work,rfl,s79 _ _ tP,SI s79,fun m2 L2 Ha sa B2 hm2=>?_⟩;have em:m2=M:=qWA TI B2 B hm2 hM;subst em;refine ⟨_,rfl,_,_,rfl,.inl ⟨rfl,.inr (.inl ⟨_,rfl⟩)⟩,fun Hb sb=>⟨_,rfl,?_⟩⟩;refine iteF ?_;have s7b:=s79.trans (sa.trans sb);have g9b:=(sa.trans sb) _ _ g9;refine ⟨_,rfl,_,rfl,_,rfl,a,lo,Ae,L,work,rfl,hN7.same s7b,wf,by omega,w0,w1,g9b,B.1,fun Hd sd=>⟨_,rfl,?_⟩⟩
  refine iteF ?_;refine hN6 _ _ (cut fun N7 hN7'=>?_);have s7d:=s7b.trans sd;have g9d:=sd _ _ g9b;have f9:H7 lo=none:=s8.free fl9
  -- kept
  refine ⟨_,rfl,lo,_,rfl,.inl (SqL.of g9d),fun lk hlk=>?_⟩;have sk:=qA2 hlk (.lst (L.map V.int));have gk:(upd Hd lk (.lst (L.map V.int))) lk=some (.lst (L.map V.int)):=qA1;have g9k:=sk _ _ g9d;have nlk:lk ≠ lo:=(qA5 g9d hlk).symm;have s7k:=s7d.trans sk;generalize upd Hd lk (.lst (L.map V.int))=He at sk gk g9k s7k ⊢;refine hN7' _ _ (cut fun N8 hN8=>?_);refine ⟨_,rfl,.inl ⟨rfl,_,SqL.of g9k⟩,lo,_,rfl,rfl,g9k,?_⟩;have s7f:Same H7 (upd He lo (.lst (L.map V.int).reverse)):=qAB s7k f9;have gkf:(upd He lo (.lst (L.map V.int).reverse)) lk=some (.lst (L.map V.int)):=by rw [qA8 nlk];exact gk
  have g9f:(upd He lo (.lst (L.map V.int).reverse)) lo=some (.lst (L.map V.int).reverse):=qA1;generalize upd He lo (.lst (L.map V.int).reverse)=Hf at s7f gkf g9f ⊢;refine hN8 _ _ (cut fun N9 hN9=>?_);refine ⟨_,rfl,.inl ⟨rfl,_,SqL.of g9f⟩,_,rfl,lo,_,_,rfl,rfl,g9f,qBD (by rw [d4,A0];omega),?_⟩
  have s7g:Same H7 (upd Hf lo (.lst ((L.map V.int).reverse++[V.int work]))):=qAB s7f f9;have gkg:(upd Hf lo (.lst ((L.map V.int).reverse++[V.int work]))) lk=some (.lst (L.map V.int)):=by rw [qA8 nlk];exact gkf
  generalize upd Hf lo (.lst ((L.map V.int).reverse++[V.int work]))=Hg at s7g gkg ⊢;refine hN9 _ _ (cut fun N10 hN10=>?_);refine ⟨_,rfl,_,rfl,_,rfl,a,r,lk,Ae,ws,L,rfl,hN7.same s7g,wf,n4,⟨s7g _ _ gr,lw'⟩,gkg,(B.1.all TI).1,lL,fun lt Hh sh flt glt=>?_⟩;refine ⟨lt,_,_,rfl,SqL.of glt,hM,_,rfl,rfl,_,rfl,?_⟩;refine ite2 (fun z=>by simp at z) (fun _=>?_)
  have s7h:=s7g.trans sh;refine ⟨_,rfl,_,rfl,_,rfl,a,r,Ae,ws,work,rfl,s7h _ _ tP,SI s7h,fun lo2 L3 Hi si fli gi B3 WL3=>?_⟩;have eL:L3=L:=WL3.one TI WL;subst eL;refine ⟨_,rfl,lo2,lk,L3,rfl,rfl,SqL.of gi,SqL.of (si _ _ (sh _ _ gkg)),_,rfl,?_⟩;refine iteF ?_;have s7i:=s7h.trans si;refine hN10 _ _ (cut fun N11 hN11=>?_);refine ⟨_,rfl,_,rfl,_,rfl,a,r,Ae,ws,work,rfl,s7i _ _ tS,SI s7i,fun T1 l1 zs' R O Hj sj fl1 Nz' SO gT1 gl1=>?_⟩;have ez:=qK4 Nz' Nz;subst ez;have hwz:work ∈ zs':=(Nz'.2 work).mpr (.ask (A3.mpr rfl));obtain ⟨TO,lO,tD,bO⟩:=qRS TI SO W1 hwz;have OT:=qXJ TI SO hwz;have leR:m2<=R work:=qOO TI B OT hM tD;refine ⟨T1,_,_,_,rfl,rfl,SqT.of gT1,rfl,?_⟩;have s7j:=s7i.trans sj;refine hN11 _ _ (cut fun N12 hN12=>?_);have hNj:=hN7.same s7j;obtain ⟨rsj,hAj,NLj⟩:=id hNj;have hw:work.toNat<Ae.length:=by omega
  have hz:=A1 hw;obtain ⟨rn,h3,h4⟩:=NLj.get hz;have rz:=wf work.toNat _ hz;have en:=qAF hz;have lys:=rz.len;generalize Ae[work.toNat]=ys at h4 hz en rz lys;refine ⟨_,rfl,_,rfl,a,_,_,_,rfl,rfl,SqT.of hAj,qBT w0 (by rw [B1,h3];rfl),rn,rfl,⟨_,SqT.of h4⟩,fun p hp=>?_⟩
  refine qHI (p:=p) (a:=rn) (xs:=ys.map V.int) (fun j σ Hd=>∃ (v:Option V),σ=[v,some (.ref a)]/\Same Hj Hd/\Hd p=some (.lst (((ys.take j).map fun y=>(nd Ae y).isEmpty).map V.bl))) ?_ ?_ ?_ ?_
  ·exact ⟨none,rfl,qA2 hp _,qA1⟩
  ·rintro j σ Hd hj ⟨v,rfl,sd,_⟩;exact SqT.of (sd _ _ h4)
  ·refine fun j x' σ Hd hx hI_3=>opq fun G_3 hG_3=>?_;obtain ⟨v,rfl,sd,gp⟩:=hI_3;obtain ⟨y,ey,rfl⟩:=qAQ hx;refine hG_3 ?_;have hj:=(A4.mp ey).1;have yb:=rz.in_ y (B4 ey);have hwy:y.toNat<Ae.length:=by omega
   have hzy:=A1 hwy;obtain ⟨ry,h3y,h4y⟩:=NLj.get hzy;have eny:=qAF hzy;generalize Ae[y.toNat]=us at h4y hzy eny;refine ⟨_,rfl,_,rfl,a,_,_,_,rfl,rfl,SqT.of (sd _ _ hAj),qBT yb.1 (by rw [B1,h3y];rfl),(by show 0<=sizeLine;decide),fun e2 he2=>?_⟩
   have se:=qA2 he2 (.tup []);refine ⟨ry,e2,_,rfl,rfl,SqT.of (se _ _ (sd _ _ h4y)),SqT.of qA1,_,se _ _ gp,qBD (by rw [A0,A0,D1];omega),_,rfl,qAB (sd.trans se) hp,?_⟩
   rw [qA1,C4,ey,C0,A9,A9];show some (HO.lst (_++[V.bl (us.map V.int).isEmpty]))=some (HO.lst (_++[V.bl (nd Ae y).isEmpty]));rw [eny];cases us <;> rfl
  refine fun σ Hk hI_4=>opq fun G_4 hG_4=>?_;obtain ⟨v,rfl,sk2,gp⟩:=hI_4;refine hG_4 ?_;rw [A0,V2] at gp;refine ⟨p,_,rfl,SqL.of gp,?_⟩;refine hN12 _ _ ?_;have fin:∃ (t':Int) (ns':List Int) (v2 v3 v4 v5 v6 v7 v8 v9 v10 v11:Option V),[some (V.ref sc),some (.ref d),some (.int (0+(i:Int))),some (.int m),some (.ref a),some (.int work),some (.ref r),some (.int m2),some (.ref lo),some (.ref lk),some (.int (R work)),some (.bl ((ys.map fun y=>(nd Ae y).isEmpty).all id))]=[some (.ref sc),some (.ref d),v2,v3,v4,v5,v6,v7,v8,v9,v10,v11]/\StAt Hk d c t' ns'/\t'<=10+10000 * ((i+1:Nat):Int)/\TabS Hk Ps/\TabP Hk Pp:=
   ⟨t5,ns5,_,_,_,_,_,_,_,_,_,_,rfl,S8.same (s7j.trans sk2),by omega,(s7j.trans sk2) _ _ tS,(s7j.trans sk2) _ _ tP⟩
  refine ⟨_,rfl,_,rfl,_,_,rfl,rfl,_,rfl,?_⟩;rw [decide_eq_false (show ¬ R work<m2 by omega)]
  refine iteF ?_;cases fl:(ys.map fun y=>(nd Ae y).isEmpty).all id with
  | false=>
   refine ⟨_,rfl,_,rfl,?_⟩;rw [fl] at fin;refine iteF ?_;refine iteF ?_;exact fin
  | true=>
   have flat:∀ y ∈ nd Ae work,nd Ae y=[]:=fun y hy=>by
    rw [en] at hy;have:=G8.mp fl _ (A05 hy);exact List.isEmpty_iff.mp this
   have e1:=qPX (ws:=ws) TI W1 flat B.1;have e2:=qPX (ws:=ws) TI W1 flat OT;rw [hM] at e1;rw [tD] at e2;have eR:R work=m2:=by injection e1 with e1;injection e2 with e2;omega
   refine ⟨_,rfl,_,rfl,?_⟩;rw [fl] at fin;refine iteT ?_;refine ⟨_,rfl,_,rfl,rfl,_,rfl,?_⟩;rw [eR] at fin ⊢;refine ite2 (fun z=>by simp at z) (fun _=>?_)
   exact fin
 ·refine fun σ Hc hI_5=>opq fun G_5 hG_5=>?_;obtain ⟨t,ns,v2,v3,v4,v5,v6,v7,v8,v9,v10,v11,rfl,S3,tb,hTs,hTp⟩:=hI_5;refine hG_5 ?_;refine hNb _ _ ?_;obtain ⟨iT,wf,one⟩:=qXZ;have SI:∀ {Hx:Hp} {e n wt:Addr} {v:Int},1<=v->Hx e=some (.tup [])->Hx n=some (.tup [.ref e])->Hx wt=some (.tup [.int v])->qRA Hx n wt [[]] [v] 0:=fun {Hx e n wt v} hv ge gn gw=>⟨⟨⟨[e],gn,.cons ge .nil⟩,wf,(by decide),E6 _,(by decide)⟩,⟨gw,rfl⟩,qRJ rfl (fun u hu=>by rw [A3.mp hu];exact hv),iT⟩
  refine ⟨(by show 0<=sizeLine;decide),fun e0 he0=>⟨(by show 1<=sizeLine;decide),fun n0 hn0=>⟨(by show 1<=sizeLine;decide),fun wt hwt=>?_⟩⟩⟩
  have sa:=qA2 he0 (.tup []);have sb:=qA2 hn0 (.tup [.ref e0]);have sc':=qA2 hwt (.tup [.int 99]);have gw:(upd (upd (upd Hc e0 (.tup [])) n0 (.tup [.ref e0])) wt (.tup [.int 99])) wt=some (.tup [.int 99]):=qA1;have gn:=sc' _ _ (show (upd (upd Hc e0 (.tup [])) n0 (.tup [.ref e0])) n0=some (.tup [.ref e0]) from qA1);have ge:=sc' _ _ (sb _ _ (show (upd Hc e0 (.tup [])) e0=some (.tup []) from qA1));have ss:=sa.trans (sb.trans sc');generalize upd (upd (upd Hc e0 (.tup [])) n0 (.tup [.ref e0])) wt (.tup [.int 99])=Hd at gw gn ge ss ⊢;refine ⟨n0,wt,[[]],[99],0,rfl,ss _ _ hTp,SI (by decide) ge gn gw,fun m L He se B hm=>?_⟩
  have eL:=one L B.1;subst eL;have em:m=99:=by
   have:topD none (qC4 [[]] [99] [0])=some 99:=by decide
   rw [this] at hm;exact (C6 hm).symm
  subst em;refine ⟨rfl,_,rfl,?_⟩;rw [if_pos (decide_eq_true rfl)];refine ⟨(by show 0<=sizeLine;decide),fun e1 he1=>⟨(by show 1<=sizeLine;decide),fun n1 hn1=>⟨(by show 1<=sizeLine;decide),fun wt1 hwt1=>?_⟩⟩⟩
  have ta:=qA2 he1 (.tup []);have tb':=qA2 hn1 (.tup [.ref e1]);have tc:=qA2 hwt1 (.tup [.int 1]);have gw1:(upd (upd (upd He e1 (.tup [])) n1 (.tup [.ref e1])) wt1 (.tup [.int 1])) wt1=some (.tup [.int 1]):=qA1;have gn1:=tc _ _ (show (upd (upd He e1 (.tup [])) n1 (.tup [.ref e1])) n1=some (.tup [.ref e1]) from qA1);have ge1:=tc _ _ (tb' _ _ (show (upd He e1 (.tup [])) e1=some (.tup []) from qA1));have tt:=ta.trans (tb'.trans tc);generalize upd (upd (upd He e1 (.tup [])) n1 (.tup [.ref e1])) wt1 (.tup [.int 1])=Hf at gw1 gn1 ge1 tt ⊢;refine ⟨n1,wt1,[[]],[1],0,rfl,(ss.trans (se.trans tt)) _ _ hTp,SI (by decide) ge1 gn1 gw1,fun l L Hg sg fl gl B2 _=>?_⟩
  have eL:=one L B2.1;subst eL;refine ⟨(by show 1<=sizeLine;decide),fun l2 hl2=>?_⟩
  exact ⟨l,l2,[0],rfl,rfl,SqL.of ((qA2 hl2 _) _ _ gl),SqL.of qA1,q _⟩
end
theorem all_mk {l:PySem.W.OpenLaw} {w:World} {K:PySem.W.Frag} {h:Heap} {mg:Str->Option Value} {fa qBI qDU qGN qC2 qDA qDJ qI4 qCT qCY qCC qDT qI7 qCP qF3 qC3 qCO qPZ qE3 qI5 qGO qI6 qEH qGP qLD qYH:Addr} (X:K.In h) (G:h.Ns mainGlobals mg) (hfa:mg "law" = some (.ref fa))
  {qME qNR qL1 qLO qZT qXA:Option Addr} {qM1 qKS qZD:Array (Option Value)} {qMF qMU qN7 qM6 qN9 qL2 qL8 qLG qKY qLI qZU qWZ qX6 qWO qU5 qX7:Value}
  {qDV qFE qD8 qEL:Addr}
  (qFD:C5 K mainGlobals "all_needed" = some (some (.ref qBI))) (F_all_needed:∃ fd,Fun K "all_needed" "all_needed" qDQ qBI fd)
  (qFB:C5 K mainGlobals "use_counts" = some (some (.ref qDU))) (F_use_counts:∃ fd,Fun K "use_counts" "use_counts" qDP qDU fd)
  (qJH:C5 K mainGlobals "is_tree" = some (some (.ref qGN))) (F_is_tree:∃ fd,Fun K "is_tree" "is_tree" qG4 qGN fd)
  (qEJ:C5 K mainGlobals "demand_tree" = some (some (.ref qC2))) (F_demand_tree:∃ fd,Fun K "demand_tree" "demand_tree" qD5 qC2 fd)
  (qHB:C5 K mainGlobals "taken_by" = some (some (.ref qDA))) (F_taken_by:∃ fd,Fun K "taken_by" "taken_by" qFH qDA fd)
  (qFY:C5 K mainGlobals "stretched" = some (some (.ref qDJ))) (qFS:K.lookup qDJ=some ⟨qMF,qME,.func (T3 "stretched" "stretched" (qF4 qC9) (qBG qC9) (qAD qC9) .none qMU qN7 qM6 qNR (.ref qDV) qN9),qM1⟩) (qFW:X1 K (.ref qDV) "stretched" = true) (qFT:M9 K (.ref qDJ)=true)
  (qLP:C5 K mainGlobals "joined" = some (some (.ref qI4))) (F_joined:∃ fd,Fun K "joined" "joined" qHW qI4 fd)
  (qE2:C5 K mainGlobals "joined_parts" = some (some (.ref qCT))) (F_joined_parts:∃ fd,Fun K "joined_parts" "joined_parts" qCQ qCT fd)
  (qFC:C5 K mainGlobals "parts_over" = some (some (.ref qCY))) (qEV:K.lookup qCY=some ⟨qL2,qL1,.func (T3 "parts_over" "parts_over" (qF4 qBV) (qBG qBV) (qAD qBV) .none qL8 qLG qKY qLO (.ref qD8) qLI),qKS⟩) (qF8:X1 K (.ref qD8) "parts_over" = true) (qEW:M9 K (.ref qCY)=true)
  (qFA:C5 K mainGlobals "wide_order" = some (some (.ref qCC))) (F_wide_order:∃ fd,Fun K "wide_order" "wide_order" qDO qCC fd)
  (qF9:C5 K mainGlobals "wide_rooms" = some (some (.ref qDT))) (F_wide_rooms:∃ fd,Fun K "wide_rooms" "wide_rooms" qDN qDT fd)
  (qLS:C5 K mainGlobals "_law_begin" = some (some (.ref qI7))) (F_Lbegin:∃ fd,Fun K "_law_begin" "_law_begin" qHZ qI7 fd)
  (qOV:C5 K mainGlobals "_law_take" = some (some (.ref qCP))) (F_Ltake:∃ fd,Fun K "_law_take" "_law_take" qKW qCP fd)
  (qOW:C5 K mainGlobals "_law_same" = some (some (.ref qF3))) (F_Lsame:∃ fd,Fun K "_law_same" "_law_same" qIL qF3 fd)
  (qEK:C5 K mainGlobals "_law_some_needs" = some (some (.ref qC3))) (F_Lsome_needs:∃ fd,Fun K "_law_some_needs" "_law_some_needs" qD6 qC3 fd)
  (qFZ:C5 K mainGlobals "_law_tree_net" = some (some (.ref qCO))) (F_Ltree_net:∃ fd,Fun K "_law_tree_net" "_law_tree_net" qE7 qCO fd)
  (qUM:C5 K mainGlobals "_law_net" = some (some (.ref qPZ))) (F_Lnet:∃ fd,Fun K "_law_net" "_law_net" qP8 qPZ fd)
  (qJI:C5 K mainGlobals "_law_needed" = some (some (.ref qE3))) (F_Lneeded:∃ fd,Fun K "_law_needed" "_law_needed" qG5 qE3 fd)
  (qLQ:C5 K mainGlobals "_law_wides" = some (some (.ref qI5))) (F_Lwides:∃ fd,Fun K "_law_wides" "_law_wides" qHX qI5 fd)
  (qJJ:C5 K mainGlobals "_law_ground" = some (some (.ref qGO))) (F_Lground:∃ fd,Fun K "_law_ground" "_law_ground" qG6 qGO fd)
  (qLR:C5 K mainGlobals "_law_taken" = some (some (.ref qI6))) (F_Ltaken:∃ fd,Fun K "_law_taken" "_law_taken" qHY qI6 fd)
  (qG0:C5 K mainGlobals "_law_is_order" = some (some (.ref qEH))) (F_Lis_order:∃ fd,Fun K "_law_is_order" "_law_is_order" qE8 qEH fd)
  (qJK:C5 K mainGlobals "_law_fewest" = some (some (.ref qGP))) (F_Lfewest:∃ fd,Fun K "_law_fewest" "_law_fewest" qBA qGP fd)
  (qOU:C5 K mainGlobals "_law_used" = some (some (.ref qLD))) (F_Lused:∃ fd,Fun K "_law_used" "_law_used" qKV qLD fd)
  (qYR:C5 K mainGlobals "law" = some (some (.ref qYH))) (qYB:K.lookup qYH=some ⟨qZU,qZT,.func (T3 "law" "law" (qF4 qJM) (qBG qJM) (qAD qJM) .none qWZ qX6 qWO qXA qU5 qX7),qZD⟩) (qYM:X1 K qU5 "law" = true) (qYD:M9 K (.ref qYH)=true)
  (qCB:hdIn K qDV qFE=true)
  (qC0:hdIn K qD8 qEL=true)
  (qD4:C5 K mainGlobals "all" = some none)
  (qQA:C5 K mainGlobals "any" = some none)
  (qEP:C5 K mainGlobals "bool" = some none)
  (qFF:C5 K mainGlobals "divmod" = some none)
  (qBJ:C5 K mainGlobals "enumerate" = some none)
  (qFN:C5 K mainGlobals "int" = some none)
  (qAC:C5 K mainGlobals "isinstance" = some none)
  (qBO:C5 K mainGlobals "len" = some none)
  (qCE:C5 K mainGlobals "list" = some none)
  (qDY:C5 K mainGlobals "max" = some none)
  (qHP:C5 K mainGlobals "min" = some none)
  (qAJ:C5 K mainGlobals "range" = some none)
  (qKJ:C5 K mainGlobals "set" = some none)
  (qAT:C5 K mainGlobals "sorted" = some none)
  (qKI:C5 K mainGlobals "str" = some none)
  (qHO:C5 K mainGlobals "sum" = some none)
  (qAH:C5 K mainGlobals "tuple" = some none)
  (qLV:C5 K mainGlobals "zip" = some none)
  : ∃ fd:FuncData,(∀ (s:Shared) (v:Value),BindsTo s fd ⟨[v],[]⟩ [("_law_script",v)])/\∀ base:Heap,K.In base->base.Ns mainGlobals mg->BM mg base->FnOk l.prog w K mg base CX0 8 fa fd ["_law_script"] (qKQ K qFE qEL):=by
 have e:=hfa.symm.trans (E7 X G qYR);cases e;obtain ⟨qC1,F_all_needed⟩:=F_all_needed;have qNP:=F_all_needed.binds (ps:=["net","asked"]) fun _ _ _ _ _ _ us hl=>us2 us hl (fun _ _=>rfl);have qMM:=E7 X G qFD;obtain ⟨qGL,F_use_counts⟩:=F_use_counts;have qNN:=F_use_counts.binds (ps:=["net","works"]) fun _ _ _ _ _ _ us hl=>us2 us hl (fun _ _=>rfl);have qMK:=E7 X G qFB;obtain ⟨qKB,F_is_tree⟩:=F_is_tree;have qUE:=F_is_tree.binds (ps:=["net","work"]) fun _ _ _ _ _ _ us hl=>us2 us hl (fun _ _=>rfl);have qST:=E7 X G qJH;obtain ⟨qCR,F_demand_tree⟩:=F_demand_tree;have qLM:=F_demand_tree.binds (ps:=["net","work"]) fun _ _ _ _ _ _ us hl=>us2 us hl (fun _ _=>rfl);have qL5:=E7 X G qEJ;obtain ⟨qEG,F_taken_by⟩:=F_taken_by;have qR9:=F_taken_by.binds (ps:=["net","wides","work","order"]) fun _ _ _ _ _ _ us hl=>us4 us hl (fun _ _ _ _=>rfl);have qQT:=E7 X G qHB;have F_stretched:=fun_mk (st:=qC9) qFS qFW qFT;have qOP:=F_stretched.binds (ps:=["net","wides","work"]) fun _ _ _ _ _ _ us hl=>us3 us hl (fun _ _ _=>rfl);have qOD:=E7 X G qFY;obtain ⟨qN2,F_joined⟩:=F_joined;have qWB:=F_joined.binds (ps:=["one","other"]) fun _ _ _ _ _ _ us hl=>us2 us hl (fun _ _=>rfl);have qVG:=E7 X G qLP;obtain ⟨qF2,F_joined_parts⟩:=F_joined_parts;have qJS:=F_joined_parts.binds (ps:=["parts"]) fun _ _ _ _ _ _ us hl=>us1 us hl (fun _=>rfl);have qJO:=E7 X G qE2;have F_parts_over:=fun_mk (st:=qBV) qEV qF8 qEW;have qNO:=F_parts_over.binds (ps:=["net","wides","work","own"]) fun _ _ _ _ _ _ us hl=>us4 us hl (fun _ _ _ _=>rfl);have qML:=E7 X G qFC;obtain ⟨qD7,F_wide_order⟩:=F_wide_order;have qNM:=F_wide_order.binds (ps:=["net","wides","work"]) fun _ _ _ _ _ _ us hl=>us3 us hl (fun _ _ _=>rfl);have qMJ:=E7 X G qFA;obtain ⟨qGK,F_wide_rooms⟩:=F_wide_rooms;have qNL:=F_wide_rooms.binds (ps:=["net","wides","work"]) fun _ _ _ _ _ _ us hl=>us3 us hl (fun _ _ _=>rfl);have qMI:=E7 X G qF9;obtain ⟨qN5,F_Lbegin⟩:=F_Lbegin;have qWE:=F_Lbegin.binds (ps:=["_law_script"]) fun _ _ _ _ _ _ us hl=>us1 us hl (fun _=>rfl);have qVJ:=E7 X G qLS;obtain ⟨qCK,F_Ltake⟩:=F_Ltake;have qYO:=F_Ltake.binds (ps:=["_law_state","_law_many"]) fun _ _ _ _ _ _ us hl=>us2 us hl (fun _ _=>rfl);have qY5:=E7 X G qOV;obtain ⟨qGM,F_Lsame⟩:=F_Lsame;have qFX:=F_Lsame.binds (ps:=["_law_found","_law_due"]) fun _ _ _ _ _ _ us hl=>us2 us hl (fun _ _=>rfl);have qFP:=E7 X G qOW;obtain ⟨qCS,F_Lsome_needs⟩:=F_Lsome_needs;have qLN:=F_Lsome_needs.binds (ps:=["_law_state","_law_k"]) fun _ _ _ _ _ _ us hl=>us2 us hl (fun _ _=>rfl);have qL6:=E7 X G qEK;obtain ⟨qDS,F_Ltree_net⟩:=F_Ltree_net;have qOQ:=F_Ltree_net.binds (ps:=["_law_state","_law_many"]) fun _ _ _ _ _ _ us hl=>us2 us hl (fun _ _=>rfl);have qOE:=E7 X G qFZ;obtain ⟨qTU,F_Lnet⟩:=F_Lnet;have qaL:=F_Lnet.binds (ps:=["_law_state","_law_many"]) fun _ _ _ _ _ _ us hl=>us2 us hl (fun _ _=>rfl);have qZX:=E7 X G qUM;obtain ⟨qFL,F_Lneeded⟩:=F_Lneeded;have qUF:=F_Lneeded.binds (ps:=["_law_net_here","_law_asked"]) fun _ _ _ _ _ _ us hl=>us2 us hl (fun _ _=>rfl);have qSU:=E7 X G qJI;obtain ⟨qN3,F_Lwides⟩:=F_Lwides;have qWC:=F_Lwides.binds (ps:=["_law_state","_law_many"]) fun _ _ _ _ _ _ us hl=>us2 us hl (fun _ _=>rfl);have qVH:=E7 X G qLQ;obtain ⟨qKC,F_Lground⟩:=F_Lground;have qUG:=F_Lground.binds (ps:=["_law_state","_law_many"]) fun _ _ _ _ _ _ us hl=>us2 us hl (fun _ _=>rfl);have qSV:=E7 X G qJJ;obtain ⟨qN4,F_Ltaken⟩:=F_Ltaken;have qWD:=F_Ltaken.binds (ps:=["_law_net_here","_law_wides_here","_law_order"]) fun _ _ _ _ _ _ us hl=>us3 us hl (fun _ _ _=>rfl);have qVI:=E7 X G qLR;obtain ⟨qHJ,F_Lis_order⟩:=F_Lis_order;have qOR:=F_Lis_order.binds (ps:=["_law_net_here","_law_work","_law_order"]) fun _ _ _ _ _ _ us hl=>us3 us hl (fun _ _ _=>rfl);have qOF:=E7 X G qG0;obtain ⟨qKD,F_Lfewest⟩:=F_Lfewest;have qUH:=F_Lfewest.binds (ps:=["_law_net_here","_law_wides_here","_law_work"]) fun _ _ _ _ _ _ us hl=>us3 us hl (fun _ _ _=>rfl);have qSW:=E7 X G qJK;obtain ⟨qPY,F_Lused⟩:=F_Lused;have qYN:=F_Lused.binds (ps:=["_law_net_here","_law_some","_law_one","_law_done"]) fun _ _ _ _ _ _ us hl=>us4 us hl (fun _ _ _ _=>rfl);have qY4:=E7 X G qOU;have qbM:=fun_mk (st:=qJM) qYB qYM qYD;have qJU:=E5 X G qD4;have qYW:=E5 X G qQA;have qRF:=E5 X G qEP;have qRE:=E5 X G qFF;have qHC:=E5 X G qBJ;have qRD:=E5 X G qFN;have qG2:=E5 X G qAC;have qG1:=E5 X G qBO;have qKH:=E5 X G qCE;have qJT:=E5 X G qDY;have qRC:=E5 X G qHP;have qD3:=E5 X G qAJ;have qWJ:=E5 X G qKJ;have qDB:=E5 X G qAT;have qYV:=E5 X G qKI;have qRB:=E5 X G qHO;have qE4:=E5 X G qAH;have qYU:=E5 X G qLV;refine ⟨T3 "law" "law" (qF4 qJM) (qBG qJM) (qAD qJM) .none qWZ qX6 qWO qXA qU5 qX7,fun s v=>.of_eq rfl,fun base _ _ hBM=>?_⟩;have qAW:=Clb.mk (ok_all_needed (P:=l.prog) (w:=w) (mg:=mg) (base:=base) (F:=F_all_needed) (qBO:=qG1) (qAJ:=qD3) (qAT:=qDB)) qNP F_all_needed.kp qMM;have qDW:=Clb.mk (ok_use_counts (P:=l.prog) (w:=w) (mg:=mg) (base:=base) (F:=F_use_counts) (qBO:=qG1)) qNN F_use_counts.kp qMK;have qGU:=Clb.mk (ok_is_tree (P:=l.prog) (w:=w) (mg:=mg) (base:=base) (F:=F_is_tree) (qAW:=qAW) (qDW:=qDW) (qD4:=qJU)) qUE F_is_tree.kp qST;have qBC:=Clb.mk (ok_demand_tree (P:=l.prog) (w:=w) (mg:=mg) (base:=base) (F:=F_demand_tree) (qGU:=qGU)) qLM F_demand_tree.kp qL5;have qCD:=Clb.mk (ok_taken_by (P:=l.prog) (w:=w) (mg:=mg) (base:=base) (F:=F_taken_by)) qR9 F_taken_by.kp qQT;have qEM:=Clb.mk (ok_stretched (P:=l.prog) (w:=w) (mg:=mg) (base:=base) (F:=F_stretched) (qBC:=qBC) (qAW:=qAW) (qCD:=qCD) (qDY:=qJT) (qAT:=qDB) (hcd:=rfl) (hBM:=hBM) (qCB:=qCB)) qOP F_stretched.kp qOD;have qI9:=Clb.mk (ok_joined (P:=l.prog) (w:=w) (mg:=mg) (base:=base) (F:=F_joined) (qDY:=qJT)) qWB F_joined.kp qVG;have qCU:=Clb.mk (ok_joined_parts (P:=l.prog) (w:=w) (mg:=mg) (base:=base) (F:=F_joined_parts) (qI9:=qI9)) qJS F_joined_parts.kp qJO;have qDX:=Clb.mk (ok_parts_over (P:=l.prog) (w:=w) (mg:=mg) (base:=base) (F:=F_parts_over) (qCU:=qCU) (qAT:=qDB) (qHO:=qRB) (hcd:=rfl) (hBM:=hBM) (qC0:=qC0)) qNO F_parts_over.kp qML;have qB7:=Clb.mk (ok_wide_order (P:=l.prog) (w:=w) (mg:=mg) (base:=base) (F:=F_wide_order) (qBC:=qBC) (qAW:=qAW) (qDX:=qDX)) qNM F_wide_order.kp qMJ;have qCZ:=Clb.mk (ok_wide_rooms (P:=l.prog) (w:=w) (mg:=mg) (base:=base) (F:=F_wide_rooms) (qCD:=qCD) (qB7:=qB7) (qDY:=qJT)) qNL F_wide_rooms.kp qMI;have qIC:=Clb.mk (ok_Lbegin (P:=l.prog) (w:=w) (mg:=mg) (base:=base) (F:=F_Lbegin) (qCE:=qKH)) qWE F_Lbegin.kp qVJ;have qAI:=Clb.mk (ok_Ltake (P:=l.prog) (w:=w) (mg:=mg) (base:=base) (F:=F_Ltake) (qFF:=qRE) (qBO:=qG1)) qYO F_Ltake.kp qY5;have qLU:=Clb.mk (ok_Lsame (P:=l.prog) (w:=w) (mg:=mg) (base:=base) (F:=F_Lsame) (qFX:=qFX) (qL7:=F_Lsame.kp) (qFP:=qFP) (n:=2) (qD4:=qJU) (qEP:=qRF) (qFN:=qRD) (qAC:=qG2) (qBO:=qG1) (qCE:=qKH) (qKI:=qYV) (qAH:=qE4) (qLV:=qYU)) qFX F_Lsame.kp qFP;have qB6:=Clb.mk (ok_Lsome_needs (P:=l.prog) (w:=w) (mg:=mg) (base:=base) (F:=F_Lsome_needs) (qAI:=qAI) (qHP:=qRC) (qAJ:=qD3) (qKJ:=qWJ) (qAT:=qDB) (qAH:=qE4)) qLN F_Lsome_needs.kp qL6;have qBY:=Clb.mk (ok_Ltree_net (P:=l.prog) (w:=w) (mg:=mg) (base:=base) (F:=F_Ltree_net) (qAI:=qAI) (qBO:=qG1) (qHP:=qRC) (qAJ:=qD3) (qAH:=qE4)) qOQ F_Ltree_net.kp qOE;have qQ9:=Clb.mk (ok_Lnet (P:=l.prog) (w:=w) (mg:=mg) (base:=base) (F:=F_Lnet) (qAI:=qAI) (qBY:=qBY) (qB6:=qB6) (qBJ:=qHC) (qFN:=qRD) (qDY:=qJT) (qAJ:=qD3) (qKJ:=qWJ) (qAT:=qDB) (qAH:=qE4)) qaL F_Lnet.kp qZX;have qD0:=Clb.mk (ok_Lneeded (P:=l.prog) (w:=w) (mg:=mg) (base:=base) (F:=F_Lneeded) (qBO:=qG1) (qAJ:=qD3)) qUF F_Lneeded.kp qSU;have qIA:=Clb.mk (ok_Lwides (P:=l.prog) (w:=w) (mg:=mg) (base:=base) (F:=F_Lwides) (qAI:=qAI) (qAJ:=qD3) (qAH:=qE4)) qWC F_Lwides.kp qVH;have qGV:=Clb.mk (ok_Lground (P:=l.prog) (w:=w) (mg:=mg) (base:=base) (F:=F_Lground) (qBY:=qBY) (qAI:=qAI) (qQ9:=qQ9) (qB6:=qB6) (qBO:=qG1) (qAJ:=qD3) (qAH:=qE4)) qUG F_Lground.kp qSV;have qIB:=Clb.mk (ok_Ltaken (P:=l.prog) (w:=w) (mg:=mg) (base:=base) (F:=F_Ltaken) (qBJ:=qHC) (qHO:=qRB)) qWD F_Ltaken.kp qVI;have qEN:=Clb.mk (ok_Lis_order (P:=l.prog) (w:=w) (mg:=mg) (base:=base) (F:=F_Lis_order) (qD0:=qD0) (qD4:=qJU) (qQA:=qYW) (qEP:=qRF) (qFN:=qRD) (qAC:=qG2) (qCE:=qKH) (qAT:=qDB)) qOR F_Lis_order.kp qOF;have qLT:=Clb.mk (ok_Lused (P:=l.prog) (w:=w) (mg:=mg) (base:=base) (F:=F_Lused) (qD4:=qJU)) qYN F_Lused.kp qY4;have qGW:=Clb.mk (ok_Lfewest (P:=l.prog) (w:=w) (mg:=mg) (base:=base) (F:=F_Lfewest) (qD0:=qD0) (qLT:=qLT) (qD4:=qJU) (qBO:=qG1) (qDY:=qJT) (qHP:=qRC) (qAJ:=qD3) (qAT:=qDB) (qHO:=qRB) (qAH:=qE4)) qUH F_Lfewest.kp qSW;exact ok_law (P:=l.prog) (w:=w) (mg:=mg) (base:=base) (F:=qbM) (qIC:=qIC) (qAI:=qAI) (qGV:=qGV) (qIA:=qIA) (qGW:=qGW) (qB7:=qB7) (qEN:=qEN) (qLU:=qLU) (qCZ:=qCZ) (qIB:=qIB) (qEM:=qEM) (qD4:=qJU) (qBO:=qG1) (qCE:=qKH) (qDY:=qJT) (qAJ:=qD3)
def tabsL:List LTab:=[⟨"stretched",78,74,"stretched.<locals>.<lambda>"⟩,⟨"parts_over",97,95,"parts_over.<locals>.<lambda>"⟩]
theorem walk {l:PySem.W.OpenLaw} {q:Program} {loose:List Str} {XP:(Str->Option Value)->Heap->Prop} {YP:World->Heap->Prop} {d:DefRec} {K:Params->PySem.W.Frag} (hn:l.most=some 63) (hdf:d.params.defaults=[])
  (hY:∀ (w:World) (h:Heap),YP w h->(K w.params).In h)
  (hrec:∀ t ∈ tabsL,((PyProof.Rows.recsOf q).find? fun e=>e.name == t.x).isSome=true) (htab:∀ (w:World),∀ t ∈ tabsL,A72 (K w.params) t.x=some (t.c,t.P)) (hK:∀ w:World,z8 (K w.params)=true)
  (F:∀ (w:World) (mg:Str->Option Value) (fa:Addr) (h:Heap),(K w.params).In h->h.Ns mainGlobals mg->mg d.name=some (.ref fa)->
   ∃ fd:FuncData,(∀ (s:Shared) (u:Value),BindsTo s fd ⟨[u],[]⟩ [("_law_script",u)])/\∀ base:Heap,(K w.params).In base->base.Ns mainGlobals mg->BM mg base->FnOk l.prog w (K w.params) mg base CX0 8 fa fd ["_law_script"] (qKQ (K w.params) 74 95)) :
  PySem.W.WalkO q loose XP YP l.row.toRowW d [] (fun f vs=>A65 f vs):=
 L2.walk_ofT (n:=63) (k:=8) (x:="_law_script") (sp:=fun w=>qKQ (K w.params) 74 95) tabsL hn (by decide) hdf ⟨rfl,by decide,by decide,rfl⟩ hY hrec htab hK (fun t h t' h' _=>by simp only [tabsL,B6,Q1,or_false] at h h';rcases h with rfl | rfl <;> rcases h' with rfl | rfl <;> first | rfl | (rename_i q;exact absurd q (by decide))) F fun _ _ a ns hl hO hS=>⟨hO _ A6,hO _ (A5 _ A6),a,ns,rfl,hS,hl,fun _=>rfl⟩
end Fw
open PySem PySem.W PyProof.Rows
set_option maxRecDepth 100000 in
set_option maxHeartbeats 0 in
theorem PySem.Challenge.cw_fewrooms_k27_fewest_of_all_orders_holds : PySem.Challenge.rw_fewrooms_k27_fewest_of_all_orders.Holds := by
 w_on;refine holds_law Fw.hpSaid fun said=>?_
 refine holds_open (q:=Fw.hpQ) (Xt:=Fw.hpX) (XP:=XL Fw.hpQ []) (YP:=(kHook Fw.hpK Fw.hpA Fw.hpE).says)
  Fw.hpLeft (kHook Fw.hpK Fw.hpA Fw.hpE).of (kHook Fw.hpK Fw.hpA Fw.hpE).keeps (fun s e=>xl_of s (x8.mp e).1) XL.keeps
  (by rfl) (by rfl) (by rfl) (fun s e=>recFacts_of (x8.mp e).2) (by rfl)
  (by first | assumption | decide +kernel) (by decide +kernel) ⟨rfl,rfl,rfl,rfl,rfl,by decide +kernel⟩ ?hw ?hc
 case hw=>w_witness2
 k_fill
 refine Fw.walk (l:=PySem.Challenge.rw_fewrooms_k27_fewest_of_all_orders) rfl rfl (fun w h Y=>PySem.W.kIn_of Y) ?hrec ?htab ?hK ?F
 case hrec=>intro t ht;simp only [Fw.tabsL,B6,Q1,or_false] at ht;rcases ht with rfl | rfl <;> kernel_rfl
 case htab=>intro w t ht;simp only [Fw.tabsL,B6,Q1,or_false] at ht;rcases ht with rfl | rfl <;> kernel_rfl
 case hK=>intro w;kernel_rfl
 case F=>
  intro w mg fa h KX G hmg;refine' Fw.all_mk (qDV:=78) (qFE:=74) (qD8:=97) (qEL:=95) KX G hmg ?qFD ?F_all_needed ?qFB ?F_use_counts ?qJH ?F_is_tree ?qEJ ?F_demand_tree ?qHB ?F_taken_by ?qFY ?qFS ?qFW ?qFT ?qLP ?F_joined ?qE2 ?F_joined_parts ?qFC ?qEV ?qF8 ?qEW ?qFA ?F_wide_order ?qF9 ?F_wide_rooms ?qLS ?F_Lbegin ?qOV ?F_Ltake ?qOW ?F_Lsame ?qEK ?F_Lsome_needs ?qFZ ?F_Ltree_net ?qUM ?F_Lnet ?qJI ?F_Lneeded ?qLQ ?F_Lwides ?qJJ ?F_Lground ?qLR ?F_Ltaken ?qG0 ?F_Lis_order ?qJK ?F_Lfewest ?qOU ?F_Lused ?qYR ?qYB ?qYM ?qYD ?qCB ?qC0 ?qD4 ?qQA ?qEP ?qFF ?qBJ ?qFN ?qAC ?qBO ?qCE ?qDY ?qHP ?qAJ ?qKJ ?qAT ?qKI ?qHO ?qAH ?qLV
  (case qFD=>k_is)
  (case F_all_needed=>exact ⟨_,L2.fun_mk (by k_is) (by k_is) (by k_is)⟩)
  (case qFB=>k_is)
  (case F_use_counts=>exact ⟨_,L2.fun_mk (by k_is) (by k_is) (by k_is)⟩)
  (case qJH=>k_is)
  (case F_is_tree=>exact ⟨_,L2.fun_mk (by k_is) (by k_is) (by k_is)⟩)
  (case qEJ=>k_is)
  (case F_demand_tree=>exact ⟨_,L2.fun_mk (by k_is) (by k_is) (by k_is)⟩)
  (case qHB=>k_is)
  (case F_taken_by=>exact ⟨_,L2.fun_mk (by k_is) (by k_is) (by k_is)⟩)
  (case qFY=>k_is)
  (case qFS=>k_is)
  (case qFW=>k_is)
  (case qFT=>k_is)
  (case qLP=>k_is)
  (case F_joined=>exact ⟨_,L2.fun_mk (by k_is) (by k_is) (by k_is)⟩)
  (case qE2=>k_is)
  (case F_joined_parts=>exact ⟨_,L2.fun_mk (by k_is) (by k_is) (by k_is)⟩)
  (case qFC=>k_is)
  (case qEV=>k_is)
  (case qF8=>k_is)
  (case qEW=>k_is)
  (case qFA=>k_is)
  (case F_wide_order=>exact ⟨_,L2.fun_mk (by k_is) (by k_is) (by k_is)⟩)
  (case qF9=>k_is)
  (case F_wide_rooms=>exact ⟨_,L2.fun_mk (by k_is) (by k_is) (by k_is)⟩)
  (case qLS=>k_is)
  (case F_Lbegin=>exact ⟨_,L2.fun_mk (by k_is) (by k_is) (by k_is)⟩)
  (case qOV=>k_is)
  (case F_Ltake=>exact ⟨_,L2.fun_mk (by k_is) (by k_is) (by k_is)⟩)
  (case qOW=>k_is)
  (case F_Lsame=>exact ⟨_,L2.fun_mk (by k_is) (by k_is) (by k_is)⟩)
  (case qEK=>k_is)
  (case F_Lsome_needs=>exact ⟨_,L2.fun_mk (by k_is) (by k_is) (by k_is)⟩)
  (case qFZ=>k_is)
  (case F_Ltree_net=>exact ⟨_,L2.fun_mk (by k_is) (by k_is) (by k_is)⟩)
  (case qUM=>k_is)
  (case F_Lnet=>exact ⟨_,L2.fun_mk (by k_is) (by k_is) (by k_is)⟩)
  (case qJI=>k_is)
  (case F_Lneeded=>exact ⟨_,L2.fun_mk (by k_is) (by k_is) (by k_is)⟩)
  (case qLQ=>k_is)
  (case F_Lwides=>exact ⟨_,L2.fun_mk (by k_is) (by k_is) (by k_is)⟩)
  (case qJJ=>k_is)
  (case F_Lground=>exact ⟨_,L2.fun_mk (by k_is) (by k_is) (by k_is)⟩)
  (case qLR=>k_is)
  (case F_Ltaken=>exact ⟨_,L2.fun_mk (by k_is) (by k_is) (by k_is)⟩)
  (case qG0=>k_is)
  (case F_Lis_order=>exact ⟨_,L2.fun_mk (by k_is) (by k_is) (by k_is)⟩)
  (case qJK=>k_is)
  (case F_Lfewest=>exact ⟨_,L2.fun_mk (by k_is) (by k_is) (by k_is)⟩)
  (case qOU=>k_is)
  (case F_Lused=>exact ⟨_,L2.fun_mk (by k_is) (by k_is) (by k_is)⟩)
  (case qYR=>k_is)
  (case qYB=>k_is)
  (case qYM=>k_is)
  (case qYD=>k_is)
  (case qCB=>kernel_rfl)
  (case qC0=>kernel_rfl)
  (case qD4=>k_is)
  (case qQA=>k_is)
  (case qEP=>k_is)
  (case qFF=>k_is)
  (case qBJ=>k_is)
  (case qFN=>k_is)
  (case qAC=>k_is)
  (case qBO=>k_is)
  (case qCE=>k_is)
  (case qDY=>k_is)
  (case qHP=>k_is)
  (case qAJ=>k_is)
  (case qKJ=>k_is)
  (case qAT=>k_is)
  (case qKI=>k_is)
  (case qHO=>k_is)
  (case qAH=>k_is)
  (case qLV=>k_is)

