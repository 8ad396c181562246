import PyProof.Rows.All
import Wide.All
import OpenK.AllK
import Wide.FinOn
import Lean
import PyProof.EqAt
import PyProof.EqKinds
import PyProof.TupleCall
import PySem.Challenge.RW_fewrooms_k96_whole_wides_by_all_orders
set_option Elab.async false
set_option linter.all false
set_option maxRecDepth 100000
set_option maxHeartbeats 0
namespace Fw
open PySem
def top (i:Nat):Stmt:=PySem.Challenge.pw_fewrooms_k96_whole_wides_by_all_orders.main.body.getD i (.Pass ⟨0,0,0,0⟩)
abbrev qE6:Stmt:=top 1
abbrev qE3:Stmt:=top 2
abbrev qHA:Stmt:=top 3
abbrev qDM:Stmt:=top 8
abbrev qDL:Stmt:=top 9
abbrev qE5:Stmt:=top 10
abbrev qE4:Stmt:=top 11
abbrev qGC:Stmt:=top 13
abbrev qCF:Stmt:=top 14
abbrev qIY:Stmt:=top 15
abbrev qCY:Stmt:=top 16
abbrev qC4:Stmt:=top 17
abbrev qE2:Stmt:=top 18
abbrev qE1:Stmt:=top 19
abbrev qJ1:Stmt:=top 21
abbrev qM4:Stmt:=top 22
abbrev qJM:Stmt:=top 23
abbrev qEZ:Stmt:=top 24
abbrev qHC:Stmt:=top 25
abbrev qIZ:Stmt:=top 26
abbrev qJ0:Stmt:=top 27
abbrev qF0:Stmt:=top 28
abbrev qHB:Stmt:=top 29
abbrev qCN:Stmt:=top 30
abbrev qD1:Stmt:=top 31
abbrev qDN:Stmt:=top 32
abbrev qCZ:Stmt:=top 33
abbrev qD0:Stmt:=top 34
abbrev qKM:Stmt:=top 35
end Fw
namespace Fw
open PySem
def dA (s:Stmt):Arguments:=match s with
 | .FunctionDef _ a _ _ _ _ _ _ _ _=>a
 | _=>{ posonlyargs:=[],args:=[],vararg:=none,kwonlyargs:=[],kw_defaults:=[],kwarg:=none,defaults:=[] }
def dB (s:Stmt):List Stmt:=match s with
 | .FunctionDef _ _ b _ _ _ _ _ _ _=>b
 | _=>[]
def dS (s:Stmt):Scope:=match s with
 | .FunctionDef _ _ _ _ _ _ sc _ _ _=>sc
 | _=>{ kind:=.function,names:=[],isGenerator:=false,isCoroutine:=false }
abbrev so (s:String):Str:=PySem.Str.ofString s
abbrev kh (P:Params) (s:Str):Int:=PySem.PyData.keyHash P s
abbrev hde (P:Params) (s:String) (n:Nat) (v:Value):DictEntry:=⟨kh P (so s),.str (so s) n,v⟩
abbrev hvs (s:String) (n:Nat):Value:=.str (so s) n
abbrev hcut (n:Nat):Value:=hvs "/claim/cut.py" n
abbrev hfd (x q:String) (s:Stmt) (a b c d:Value) (e:Option Addr) (f g:Value) (i:Addr):FuncData:=⟨so x,so q,dA s,.stmts (dB s),dS s,3,[],a,b,c,d,e,f,g,i⟩
abbrev htp (d:Data) (s:Array (Option Value)):Obj:=⟨.type "tuple",none,d,s⟩
abbrev hcd (d:Data) (s:Array (Option Value)):Obj:=⟨.type "code",none,d,s⟩
abbrev hfn (d:Data) (s:Array (Option Value)):Obj:=⟨.type "function",none,d,s⟩
def hpK:Params→PySem.W.Frag:=fun P=>
 (nat_lit 2,Obj.mk .none .none (.dict #[]) #[]) ::
 (nat_lit 3,Obj.mk (.type "dict") .none (.dict #[hde P "__name__" 165 (hvs "law_fewrooms_k96_whole_wides_by_all_orders" 360),hde P "__doc__" 166 .none,hde P "__package__" 167 .none,hde P "__loader__" 168 (.builtin "__main__.__loader__#opaque"),hde P "__spec__" 169 .none,hde P "__annotations__" 170 (.ref 6),hde P "__builtins__" 171 (.ref 4),hde P "__file__" 173 (hcut 172),hde P "__cached__" 174 .none,hde P "all_needed" 199 (.ref 21),hde P "use_counts" 210 (.ref 28),hde P "is_tree" 216 (.ref 33),hde P "RoomError" 236 (.ref 43),hde P "NoTree" 252 (.ref 56),hde P "demand_tree" 262 (.ref 65),hde P "number_over" 268 (.ref 70),hde P "numbers_of" 274 (.ref 75),hde P "tree_rooms" 282 (.ref 82),hde P "taken_by" 299 (.ref 89),hde P "stretched" 313 (.ref 96),hde P "joined" 321 (.ref 103),hde P "joined_parts" 331 (.ref 110),hde P "parts_over" 337 (.ref 115),hde P "wide_order" 350 (.ref 122),hde P "wide_rooms" 359 (.ref 129),hde P "_law_begin" 369 (.ref 136),hde P "_law_take" 382 (.ref 143),hde P "_law_same" 388 (.ref 148),hde P "_law_tree_net" 400 (.ref 155),hde P "_law_needed" 406 (.ref 160),hde P "_law_wides" 412 (.ref 165),hde P "_law_taken" 418 (.ref 170),hde P "_law_is_order" 424 (.ref 175),hde P "_law_orders" 430 (.ref 180),hde P "_law_in_stretches" 441 (.ref 187),hde P "_law_drawn_order" 447 (.ref 192),hde P "_law_told_right" 461 (.ref 199),hde P "_law_small_right" 467 (.ref 204),hde P "_law_great_right" 480 (.ref 211),hde P "law" 486 (.ref 216)] 40) #[]) ::
 (nat_lit 15,htp (.seq #[]) #[]) ::
 (nat_lit 17,htp (.seq #[hvs "net" 192,hvs "asked" 193,hvs "wanted" 194,hvs "work" 195,hvs "need" 196]) #[]) ::
 (nat_lit 18,htp (.seq #[]) #[]) ::
 (nat_lit 20,hcd (.fields #[hvs "all_needed" 189,hvs "all_needed" 190,hcut 191,.int 2 0,.int 2 0,.int 0 0,.int 0 0,.int 3 0,.ref 15,.bool .true,.int 181 0,.ref 16,.none,.ref 17,.ref 18,.ref 19,.int 197 0,.int 2 0,hcut 198]) #[]) ::
 (nat_lit 21,hfn (.func (hfd "all_needed" "all_needed" qE6 .none .none .none (hvs "fewrooms.nets" 187) .none (.ref 20) .none 0)) #[]) ::
 (nat_lit 22,htp (.seq #[]) #[]) ::
 (nat_lit 24,htp (.seq #[hvs "net" 203,hvs "works" 204,hvs "counts" 205,hvs "work" 206,hvs "need" 207]) #[]) ::
 (nat_lit 25,htp (.seq #[]) #[]) ::
 (nat_lit 27,hcd (.fields #[hvs "use_counts" 200,hvs "use_counts" 201,hcut 202,.int 11 0,.int 2 0,.int 0 0,.int 0 0,.int 3 0,.ref 22,.bool .true,.int 181 0,.ref 23,.none,.ref 24,.ref 25,.ref 26,.int 208 0,.int 11 0,hcut 209]) #[]) ::
 (nat_lit 28,hfn (.func (hfd "use_counts" "use_counts" qE3 .none .none .none (hvs "fewrooms.nets" 187) .none (.ref 27) .none 0)) #[]) ::
 (nat_lit 29,htp (.seq #[]) #[]) ::
 (nat_lit 32,hcd (.fields #[hvs "is_tree" 211,hvs "is_tree" 212,hcut 213,.int 17 0,.int 2 0,.int 0 0,.int 0 0,.int 3 0,.ref 29,.bool .true,.int 181 0,.ref 30,.none,.none,.none,.ref 31,.int 214 0,.int 17 0,hcut 215]) #[]) ::
 (nat_lit 33,hfn (.func (hfd "is_tree" "is_tree" qHA .none .none .none (hvs "fewrooms.nets" 187) .none (.ref 32) .none 0)) #[]) ::
 (nat_lit 34,htp (.seq #[.type "ValueError"]) #[]) ::
 (nat_lit 41,htp (.seq #[]) #[]) ::
 (nat_lit 42,Obj.mk (.type "dict") .none (.dict #[hde P "__module__" 226 (hvs "fewrooms.errors" 217),hde P "__firstlineno__" 230 (.int 22 229),hde P "__static_attributes__" 231 (.ref 41),hde P "__weakref__" 233 (.ref 44),hde P "__doc__" 234 .none] 3) #[]) ::
 (nat_lit 43,Obj.mk (.type "type") .none (.cls (ClassData.mk (so "RoomError") [.type "ValueError"] [.ref 43,.type "ValueError",.type "Exception",.type "BaseException",.type "object"] 42 (so "RoomError") .true [] [.ref 56] .false .none .false)) #[Option.some (.ref 34),.none,Option.some (hvs "RoomError" 219),Option.some (hvs "RoomError" 227),Option.some (.builtin "ValueError.__new__"),Option.some (.bool .true)]) ::
 (nat_lit 44,Obj.mk (.type "getset_descriptor") .none (.fields #[hvs "__weakref__" 232,.ref 43,.builtin "ExceptionGroup.__weakref__",.none]) #[]) ::
 (nat_lit 47,htp (.seq #[.ref 43]) #[]) ::
 (nat_lit 54,htp (.seq #[]) #[]) ::
 (nat_lit 55,Obj.mk (.type "dict") .none (.dict #[hde P "__module__" 244 (hvs "fewrooms.errors" 217),hde P "__firstlineno__" 248 (.int 24 247),hde P "__static_attributes__" 249 (.ref 54),hde P "__doc__" 250 .none] 2) #[]) ::
 (nat_lit 56,Obj.mk (.type "type") .none (.cls (ClassData.mk (so "NoTree") [.ref 43] [.ref 56,.ref 43,.type "ValueError",.type "Exception",.type "BaseException",.type "object"] 55 (so "NoTree") .true [] [] .false .none .false)) #[Option.some (.ref 47),.none,Option.some (hvs "NoTree" 237),Option.some (hvs "NoTree" 245),Option.some (.builtin "ValueError.__new__"),Option.some (.bool .true)]) ::
 (nat_lit 59,htp (.seq #[]) #[]) ::
 (nat_lit 61,htp (.seq #[hvs "net" 258,hvs "work" 259]) #[]) ::
 (nat_lit 62,htp (.seq #[]) #[]) ::
 (nat_lit 64,hcd (.fields #[hvs "demand_tree" 255,hvs "demand_tree" 256,hcut 257,.int 27 0,.int 2 0,.int 0 0,.int 0 0,.int 3 0,.ref 59,.bool .true,.int 181 0,.ref 60,.none,.ref 61,.ref 62,.ref 63,.int 260 0,.int 27 0,hcut 261]) #[]) ::
 (nat_lit 65,hfn (.func (hfd "demand_tree" "demand_tree" qDM .none .none .none (hvs "fewrooms.trees" 253) .none (.ref 64) .none 0)) #[]) ::
 (nat_lit 66,htp (.seq #[]) #[]) ::
 (nat_lit 69,hcd (.fields #[hvs "number_over" 263,hvs "number_over" 264,hcut 265,.int 30 0,.int 1 0,.int 0 0,.int 0 0,.int 3 0,.ref 66,.bool .true,.int 181 0,.ref 67,.none,.none,.none,.ref 68,.int 266 0,.int 30 0,hcut 267]) #[]) ::
 (nat_lit 70,hfn (.func (hfd "number_over" "number_over" qDL .none .none .none (hvs "fewrooms.trees" 253) .none (.ref 69) .none 0)) #[]) ::
 (nat_lit 71,htp (.seq #[]) #[]) ::
 (nat_lit 74,hcd (.fields #[hvs "numbers_of" 269,hvs "numbers_of" 270,hcut 271,.int 33 0,.int 2 0,.int 0 0,.int 0 0,.int 3 0,.ref 71,.bool .true,.int 181 0,.ref 72,.none,.none,.none,.ref 73,.int 272 0,.int 33 0,hcut 273]) #[]) ::
 (nat_lit 75,hfn (.func (hfd "numbers_of" "numbers_of" qE5 .none .none .none (hvs "fewrooms.trees" 253) .none (.ref 74) .none 0)) #[]) ::
 (nat_lit 76,htp (.seq #[]) #[]) ::
 (nat_lit 78,htp (.seq #[hvs "net" 278,hvs "work" 279]) #[]) ::
 (nat_lit 79,htp (.seq #[]) #[]) ::
 (nat_lit 81,hcd (.fields #[hvs "tree_rooms" 275,hvs "tree_rooms" 276,hcut 277,.int 39 0,.int 2 0,.int 0 0,.int 0 0,.int 3 0,.ref 76,.bool .true,.int 181 0,.ref 77,.none,.ref 78,.ref 79,.ref 80,.int 280 0,.int 39 0,hcut 281]) #[]) ::
 (nat_lit 82,hfn (.func (hfd "tree_rooms" "tree_rooms" qE4 .none .none .none (hvs "fewrooms.trees" 253) .none (.ref 81) .none 0)) #[]) ::
 (nat_lit 83,htp (.seq #[]) #[]) ::
 (nat_lit 85,htp (.seq #[hvs "net" 288,hvs "wides" 289,hvs "work" 290,hvs "order" 291,hvs "last_user" 292,hvs "other" 293,hvs "need" 294,hvs "told" 295,hvs "kept" 296]) #[]) ::
 (nat_lit 86,htp (.seq #[]) #[]) ::
 (nat_lit 88,hcd (.fields #[hvs "taken_by" 285,hvs "taken_by" 286,hcut 287,.int 42 0,.int 4 0,.int 0 0,.int 0 0,.int 3 0,.ref 83,.bool .true,.int 181 0,.ref 84,.none,.ref 85,.ref 86,.ref 87,.int 297 0,.int 42 0,hcut 298]) #[]) ::
 (nat_lit 89,hfn (.func (hfd "taken_by" "taken_by" qGC .none .none .none (hvs "fewrooms.wides" 283) .none (.ref 88) .none 0)) #[]) ::
 (nat_lit 90,htp (.seq #[]) #[]) ::
 (nat_lit 92,htp (.seq #[hvs "net" 303,hvs "wides" 304,hvs "work" 305,hvs "other" 306,hvs "order" 307,hvs "need" 308]) #[]) ::
 (nat_lit 93,htp (.seq #[hvs "wides" 309,hvs "own" 310]) #[]) ::
 (nat_lit 95,hcd (.fields #[hvs "stretched" 300,hvs "stretched" 301,hcut 302,.int 56 0,.int 3 0,.int 0 0,.int 0 0,.int 3 0,.ref 90,.bool .true,.int 181 0,.ref 91,.none,.ref 92,.ref 93,.ref 94,.int 311 0,.int 56 0,hcut 312]) #[]) ::
 (nat_lit 96,hfn (.func (hfd "stretched" "stretched" qCF .none .none .none (hvs "fewrooms.wides" 283) .none (.ref 95) .none 0)) #[]) ::
 (nat_lit 97,htp (.seq #[]) #[]) ::
 (nat_lit 99,htp (.seq #[hvs "one" 317,hvs "other" 318]) #[]) ::
 (nat_lit 100,htp (.seq #[]) #[]) ::
 (nat_lit 102,hcd (.fields #[hvs "joined" 314,hvs "joined" 315,hcut 316,.int 66 0,.int 2 0,.int 0 0,.int 0 0,.int 3 0,.ref 97,.bool .true,.int 181 0,.ref 98,.none,.ref 99,.ref 100,.ref 101,.int 319 0,.int 66 0,hcut 320]) #[]) ::
 (nat_lit 103,hfn (.func (hfd "joined" "joined" qIY .none .none .none (hvs "fewrooms.wides" 283) .none (.ref 102) .none 0)) #[]) ::
 (nat_lit 104,htp (.seq #[]) #[]) ::
 (nat_lit 106,htp (.seq #[hvs "parts" 325,hvs "told" 326,hvs "part" 327,hvs "last" 328]) #[]) ::
 (nat_lit 107,htp (.seq #[]) #[]) ::
 (nat_lit 109,hcd (.fields #[hvs "joined_parts" 322,hvs "joined_parts" 323,hcut 324,.int 68 0,.int 1 0,.int 0 0,.int 0 0,.int 3 0,.ref 104,.bool .true,.int 181 0,.ref 105,.none,.ref 106,.ref 107,.ref 108,.int 329 0,.int 68 0,hcut 330]) #[]) ::
 (nat_lit 110,hfn (.func (hfd "joined_parts" "joined_parts" qCY .none .none .none (hvs "fewrooms.wides" 283) .none (.ref 109) .none 0)) #[]) ::
 (nat_lit 111,htp (.seq #[]) #[]) ::
 (nat_lit 114,hcd (.fields #[hvs "parts_over" 332,hvs "parts_over" 333,hcut 334,.int 76 0,.int 4 0,.int 0 0,.int 0 0,.int 3 0,.ref 111,.bool .true,.int 181 0,.ref 112,.none,.none,.none,.ref 113,.int 335 0,.int 76 0,hcut 336]) #[]) ::
 (nat_lit 115,hfn (.func (hfd "parts_over" "parts_over" qC4 .none .none .none (hvs "fewrooms.wides" 283) .none (.ref 114) .none 0)) #[]) ::
 (nat_lit 116,htp (.seq #[]) #[]) ::
 (nat_lit 118,htp (.seq #[hvs "net" 341,hvs "wides" 342,hvs "work" 343,hvs "own" 344,hvs "other" 345,hvs "order" 346,hvs "part" 347]) #[]) ::
 (nat_lit 119,htp (.seq #[]) #[]) ::
 (nat_lit 121,hcd (.fields #[hvs "wide_order" 338,hvs "wide_order" 339,hcut 340,.int 83 0,.int 3 0,.int 0 0,.int 0 0,.int 3 0,.ref 116,.bool .true,.int 181 0,.ref 117,.none,.ref 118,.ref 119,.ref 120,.int 348 0,.int 83 0,hcut 349]) #[]) ::
 (nat_lit 122,hfn (.func (hfd "wide_order" "wide_order" qE2 .none .none .none (hvs "fewrooms.wides" 283) .none (.ref 121) .none 0)) #[]) ::
 (nat_lit 123,htp (.seq #[]) #[]) ::
 (nat_lit 125,htp (.seq #[hvs "net" 354,hvs "wides" 355,hvs "work" 356]) #[]) ::
 (nat_lit 126,htp (.seq #[]) #[]) ::
 (nat_lit 128,hcd (.fields #[hvs "wide_rooms" 351,hvs "wide_rooms" 352,hcut 353,.int 92 0,.int 3 0,.int 0 0,.int 0 0,.int 3 0,.ref 123,.bool .true,.int 181 0,.ref 124,.none,.ref 125,.ref 126,.ref 127,.int 357 0,.int 92 0,hcut 358]) #[]) ::
 (nat_lit 129,hfn (.func (hfd "wide_rooms" "wide_rooms" qE1 .none .none .none (hvs "fewrooms.wides" 283) .none (.ref 128) .none 0)) #[]) ::
 (nat_lit 130,htp (.seq #[]) #[]) ::
 (nat_lit 132,htp (.seq #[hvs "_law_script" 365,hvs "_law_cells" 366]) #[]) ::
 (nat_lit 133,htp (.seq #[]) #[]) ::
 (nat_lit 135,hcd (.fields #[hvs "_law_begin" 362,hvs "_law_begin" 363,hcut 364,.int 95 0,.int 1 0,.int 0 0,.int 0 0,.int 3 0,.ref 130,.bool .true,.int 181 0,.ref 131,.none,.ref 132,.ref 133,.ref 134,.int 367 0,.int 95 0,hcut 368]) #[]) ::
 (nat_lit 136,hfn (.func (hfd "_law_begin" "_law_begin" qJ1 .none .none .none (hvs "law_fewrooms_k96_whole_wides_by_all_orders" 360) .none (.ref 135) .none 0)) #[]) ::
 (nat_lit 137,htp (.seq #[]) #[]) ::
 (nat_lit 139,htp (.seq #[hvs "_law_state" 373,hvs "_law_many" 374,hvs "_law_turn" 375,hvs "_law_place" 376,hvs "_law_cell" 377,hvs "_law_digit" 378,hvs "_law_mixed" 379]) #[]) ::
 (nat_lit 140,htp (.seq #[]) #[]) ::
 (nat_lit 142,hcd (.fields #[hvs "_law_take" 370,hvs "_law_take" 371,hcut 372,.int 100 0,.int 2 0,.int 0 0,.int 0 0,.int 3 0,.ref 137,.bool .true,.int 181 0,.ref 138,.none,.ref 139,.ref 140,.ref 141,.int 380 0,.int 100 0,hcut 381]) #[]) ::
 (nat_lit 143,hfn (.func (hfd "_law_take" "_law_take" qM4 .none .none .none (hvs "law_fewrooms_k96_whole_wides_by_all_orders" 360) .none (.ref 142) .none 0)) #[]) ::
 (nat_lit 144,htp (.seq #[]) #[]) ::
 (nat_lit 147,hcd (.fields #[hvs "_law_same" 383,hvs "_law_same" 384,hcut 385,.int 111 0,.int 2 0,.int 0 0,.int 0 0,.int 3 0,.ref 144,.bool .true,.int 181 0,.ref 145,.none,.none,.none,.ref 146,.int 386 0,.int 111 0,hcut 387]) #[]) ::
 (nat_lit 148,hfn (.func (hfd "_law_same" "_law_same" qJM .none .none .none (hvs "law_fewrooms_k96_whole_wides_by_all_orders" 360) .none (.ref 147) .none 0)) #[]) ::
 (nat_lit 149,htp (.seq #[]) #[]) ::
 (nat_lit 151,htp (.seq #[hvs "_law_state" 392,hvs "_law_many" 393,hvs "_law_open_ones" 394,hvs "_law_found" 395,hvs "_law_k" 396,hvs "_law_so_many" 397]) #[]) ::
 (nat_lit 152,htp (.seq #[]) #[]) ::
 (nat_lit 154,hcd (.fields #[hvs "_law_tree_net" 389,hvs "_law_tree_net" 390,hcut 391,.int 123 0,.int 2 0,.int 0 0,.int 0 0,.int 3 0,.ref 149,.bool .true,.int 181 0,.ref 150,.none,.ref 151,.ref 152,.ref 153,.int 398 0,.int 123 0,hcut 399]) #[]) ::
 (nat_lit 155,hfn (.func (hfd "_law_tree_net" "_law_tree_net" qEZ .none .none .none (hvs "law_fewrooms_k96_whole_wides_by_all_orders" 360) .none (.ref 154) .none 0)) #[]) ::
 (nat_lit 156,htp (.seq #[]) #[]) ::
 (nat_lit 159,hcd (.fields #[hvs "_law_needed" 401,hvs "_law_needed" 402,hcut 403,.int 131 0,.int 2 0,.int 0 0,.int 0 0,.int 3 0,.ref 156,.bool .true,.int 181 0,.ref 157,.none,.none,.none,.ref 158,.int 404 0,.int 131 0,hcut 405]) #[]) ::
 (nat_lit 160,hfn (.func (hfd "_law_needed" "_law_needed" qHC .none .none .none (hvs "law_fewrooms_k96_whole_wides_by_all_orders" 360) .none (.ref 159) .none 0)) #[]) ::
 (nat_lit 161,htp (.seq #[]) #[]) ::
 (nat_lit 164,hcd (.fields #[hvs "_law_wides" 407,hvs "_law_wides" 408,hcut 409,.int 140 0,.int 2 0,.int 0 0,.int 0 0,.int 3 0,.ref 161,.bool .true,.int 181 0,.ref 162,.none,.none,.none,.ref 163,.int 410 0,.int 140 0,hcut 411]) #[]) ::
 (nat_lit 165,hfn (.func (hfd "_law_wides" "_law_wides" qIZ .none .none .none (hvs "law_fewrooms_k96_whole_wides_by_all_orders" 360) .none (.ref 164) .none 0)) #[]) ::
 (nat_lit 166,htp (.seq #[]) #[]) ::
 (nat_lit 169,hcd (.fields #[hvs "_law_taken" 413,hvs "_law_taken" 414,hcut 415,.int 149 0,.int 3 0,.int 0 0,.int 0 0,.int 3 0,.ref 166,.bool .true,.int 181 0,.ref 167,.none,.none,.none,.ref 168,.int 416 0,.int 149 0,hcut 417]) #[]) ::
 (nat_lit 170,hfn (.func (hfd "_law_taken" "_law_taken" qJ0 .none .none .none (hvs "law_fewrooms_k96_whole_wides_by_all_orders" 360) .none (.ref 169) .none 0)) #[]) ::
 (nat_lit 171,htp (.seq #[]) #[]) ::
 (nat_lit 174,hcd (.fields #[hvs "_law_is_order" 419,hvs "_law_is_order" 420,hcut 421,.int 159 0,.int 3 0,.int 0 0,.int 0 0,.int 3 0,.ref 171,.bool .true,.int 181 0,.ref 172,.none,.none,.none,.ref 173,.int 422 0,.int 159 0,hcut 423]) #[]) ::
 (nat_lit 175,hfn (.func (hfd "_law_is_order" "_law_is_order" qF0 .none .none .none (hvs "law_fewrooms_k96_whole_wides_by_all_orders" 360) .none (.ref 174) .none 0)) #[]) ::
 (nat_lit 176,htp (.seq #[]) #[]) ::
 (nat_lit 179,hcd (.fields #[hvs "_law_orders" 425,hvs "_law_orders" 426,hcut 427,.int 164 0,.int 2 0,.int 0 0,.int 0 0,.int 3 0,.ref 176,.bool .true,.int 181 0,.ref 177,.none,.none,.none,.ref 178,.int 428 0,.int 164 0,hcut 429]) #[]) ::
 (nat_lit 180,hfn (.func (hfd "_law_orders" "_law_orders" qHB .none .none .none (hvs "law_fewrooms_k96_whole_wides_by_all_orders" 360) .none (.ref 179) .none 0)) #[]) ::
 (nat_lit 181,htp (.seq #[]) #[]) ::
 (nat_lit 183,htp (.seq #[hvs "_law_net" 434,hvs "_law_order" 435,hvs "_law_place" 436,hvs "_law_one" 437,hvs "_law_below" 438]) #[]) ::
 (nat_lit 184,htp (.seq #[]) #[]) ::
 (nat_lit 186,hcd (.fields #[hvs "_law_in_stretches" 431,hvs "_law_in_stretches" 432,hcut 433,.int 174 0,.int 2 0,.int 0 0,.int 0 0,.int 3 0,.ref 181,.bool .true,.int 181 0,.ref 182,.none,.ref 183,.ref 184,.ref 185,.int 439 0,.int 174 0,hcut 440]) #[]) ::
 (nat_lit 187,hfn (.func (hfd "_law_in_stretches" "_law_in_stretches" qCN .none .none .none (hvs "law_fewrooms_k96_whole_wides_by_all_orders" 360) .none (.ref 186) .none 0)) #[]) ::
 (nat_lit 188,htp (.seq #[]) #[]) ::
 (nat_lit 191,hcd (.fields #[hvs "_law_drawn_order" 442,hvs "_law_drawn_order" 443,hcut 444,.int 180 0,.int 3 0,.int 0 0,.int 0 0,.int 3 0,.ref 188,.bool .true,.int 181 0,.ref 189,.none,.none,.none,.ref 190,.int 445 0,.int 180 0,hcut 446]) #[]) ::
 (nat_lit 192,hfn (.func (hfd "_law_drawn_order" "_law_drawn_order" qD1 .none .none .none (hvs "law_fewrooms_k96_whole_wides_by_all_orders" 360) .none (.ref 191) .none 0)) #[]) ::
 (nat_lit 193,htp (.seq #[]) #[]) ::
 (nat_lit 195,htp (.seq #[hvs "_law_net" 451,hvs "_law_wides_here" 452,hvs "_law_work" 453,hvs "_law_works" 454,hvs "_law_rooms" 455,hvs "_law_order" 456,hvs "_law_most" 457,hvs "_law_own" 458]) #[]) ::
 (nat_lit 196,htp (.seq #[]) #[]) ::
 (nat_lit 198,hcd (.fields #[hvs "_law_told_right" 448,hvs "_law_told_right" 449,hcut 450,.int 191 0,.int 4 0,.int 0 0,.int 0 0,.int 3 0,.ref 193,.bool .true,.int 181 0,.ref 194,.none,.ref 195,.ref 196,.ref 197,.int 459 0,.int 191 0,hcut 460]) #[]) ::
 (nat_lit 199,hfn (.func (hfd "_law_told_right" "_law_told_right" qDN .none .none .none (hvs "law_fewrooms_k96_whole_wides_by_all_orders" 360) .none (.ref 198) .none 0)) #[]) ::
 (nat_lit 200,htp (.seq #[]) #[]) ::
 (nat_lit 203,hcd (.fields #[hvs "_law_small_right" 462,hvs "_law_small_right" 463,hcut 464,.int 202 0,.int 3 0,.int 0 0,.int 0 0,.int 3 0,.ref 200,.bool .true,.int 181 0,.ref 201,.none,.none,.none,.ref 202,.int 465 0,.int 202 0,hcut 466]) #[]) ::
 (nat_lit 204,hfn (.func (hfd "_law_small_right" "_law_small_right" qCZ .none .none .none (hvs "law_fewrooms_k96_whole_wides_by_all_orders" 360) .none (.ref 203) .none 0)) #[]) ::
 (nat_lit 205,htp (.seq #[]) #[]) ::
 (nat_lit 207,htp (.seq #[hvs "_law_state" 471,hvs "_law_net" 472,hvs "_law_wides_here" 473,hvs "_law_work" 474,hvs "_law_works" 475,hvs "_law_rooms" 476,hvs "_law_turn" 477]) #[]) ::
 (nat_lit 208,htp (.seq #[]) #[]) ::
 (nat_lit 210,hcd (.fields #[hvs "_law_great_right" 468,hvs "_law_great_right" 469,hcut 470,.int 210 0,.int 4 0,.int 0 0,.int 0 0,.int 3 0,.ref 205,.bool .true,.int 181 0,.ref 206,.none,.ref 207,.ref 208,.ref 209,.int 478 0,.int 210 0,hcut 479]) #[]) ::
 (nat_lit 211,hfn (.func (hfd "_law_great_right" "_law_great_right" qD0 .none .none .none (hvs "law_fewrooms_k96_whole_wides_by_all_orders" 360) .none (.ref 210) .none 0)) #[]) ::
 (nat_lit 212,htp (.seq #[]) #[]) ::
 (nat_lit 215,hcd (.fields #[hvs "law" 481,hvs "law" 482,hcut 483,.int 219 0,.int 1 0,.int 0 0,.int 0 0,.int 3 0,.ref 212,.bool .true,.int 181 0,.ref 213,.none,.none,.none,.ref 214,.int 484 0,.int 219 0,hcut 485]) #[]) ::
 (nat_lit 216,hfn (.func (hfd "law" "law" qKM .none .none .none (hvs "law_fewrooms_k96_whole_wides_by_all_orders" 360) .none (.ref 215) .none 0)) #[]) ::
 []
def hpA:List Addr:=[2,3,15,17,18,20,21,22,24,25,27,28,29,32,33,34,41,42,43,44,47,54,55,56,59,61,62,64,65,66,69,70,71,74,75,76,78,79,81,82,83,85,86,88,89,90,92,93,95,96,97,99,100,102,103,104,106,107,109,110,111,114,115,116,118,119,121,122,123,125,126,128,129,130,132,133,135,136,137,139,140,142,143,144,147,148,149,151,152,154,155,156,159,160,161,164,165,166,169,170,171,174,175,176,179,180,181,183,184,186,187,188,191,192,193,195,196,198,199,200,203,204,205,207,208,210,211,212,215,216]
def hpQ:Program:=PySem.W.view PySem.Challenge.pw_fewrooms_k96_whole_wides_by_all_orders [1,2,3,5,6,8,9,10,11,13,14,15,16,17,18,19,21,22,23,24,25,26,27,28,29,30,31,32,33,34,35]
def hpN:Nat:=2750
theorem hpE (P:Params):hpA=(hpK P).map (·.1):=by kernel_rfl
def hpX (s:Shared):Bool:=PySem.W.xlAt hpQ [] s && PySem.W.recOk (PySem.W.RowW.records (PySem.W.OpenRow.toRowW (PySem.W.OpenLaw.row PySem.Challenge.rw_fewrooms_k96_whole_wides_by_all_orders))) s
theorem hpLeft:PySem.W.LeftO PySem.Challenge.pw_fewrooms_k96_whole_wides_by_all_orders hpQ [] hpX (PySem.W.kHook hpK hpA hpE).obs (PySem.W.kHook hpK hpA hpE).val hpN:=fun w=>by kernel_rfl
theorem hpSaid:PySem.W.OpenLaw.wellSaid PySem.Challenge.rw_fewrooms_k96_whole_wides_by_all_orders=true:=by kernel_rfl
end Fw
namespace L2
open PySem PySem.Spec PyProof.Rows
abbrev Key:=Sum Int Str
def qPZ:Key→Value→Bool
 | .inl k,v=>Value.isInt k v
 | .inr x,v=>Value.isStrOf x v
def keyH (w:World):Key→Int
 | .inl k=>hashInt k
 | .inr x=>hashStr w x
theorem qBV:∀ {k:Key} {v:Value},qPZ k v=true→(∃ i t,k=Sum.inl i∧v=Value.int i t)∨(∃ x t,k=Sum.inr x∧v=Value.str x t)
 | .inl i,v,h=>by
  obtain ⟨t,e⟩:=Value.isInt_shape (k:=i) (v:=v) h
  exact .inl ⟨i,t,rfl,e⟩
 | .inr x,v,h=>by
  obtain ⟨t,e⟩:=Value.isStrOf_shape (x:=x) (v:=v) h
  exact .inr ⟨x,t,rfl,e⟩
theorem qOA (i:Int) (t:Tok):qPZ (.inl i) (.int i t)=true:=by simp [qPZ,Value.isInt]
theorem qUI (x:Str) (t:Tok):qPZ (.inr x) (.str x t)=true:=by simp [qPZ,Value.isStrOf]
theorem qaQ (a b:Int):decide ((Sum.inl a:Key)=Sum.inl b)=(a == b):=by
 by_cases e:a=b
 ·subst e;simp
 ·have h:¬ (Sum.inl a:Key)=Sum.inl b:=fun q=>e (Sum.inl.inj q)
  rw [decide_eq_false h]
  exact (beq_eq_false_iff_ne.mpr e).symm
theorem qaN (a b:Str):decide ((Sum.inr a:Key)=Sum.inr b)=decide (a=b):=by
 by_cases e:a=b
 ·subst e;simp
 ·have h:¬ (Sum.inr a:Key)=Sum.inr b:=fun q=>e (Sum.inr.inj q)
  rw [decide_eq_false h,decide_eq_false e]
theorem qaP (a:Int) (b:Str):decide ((Sum.inl a:Key)=Sum.inr b)=false:=decide_eq_false (fun q=>nomatch q)
theorem qaO (a:Str) (b:Int):decide ((Sum.inr a:Key)=Sum.inl b)=false:=decide_eq_false (fun q=>nomatch q)
def qB1 (prog:Program) (w:World):PySem.KeyKind prog w Key where
 is:=qPZ
 hash:=keyH w
 inj:=fun v a b ha hb=>by
  rcases qBV ha with ⟨i,t,rfl,rfl⟩ | ⟨x,t,rfl,rfl⟩
  ·rcases qBV hb with ⟨j,u,rfl,e⟩ | ⟨y,u,rfl,e⟩
   ·injection e with e1 _;rw [e1]
   ·exact nomatch e
  ·rcases qBV hb with ⟨j,u,rfl,e⟩ | ⟨y,u,rfl,e⟩
   ·exact nomatch e
   ·injection e with e1 _;rw [e1]
 byValue:=fun k v h=>by
  rcases qBV h with ⟨i,t,rfl,rfl⟩ | ⟨x,t,rfl,rfl⟩ <;> rfl
 pyHash:=fun hv h=>by
  rcases qBV hv with ⟨i,t,rfl,rfl⟩ | ⟨x,t,rfl,rfl⟩
  ·exact wpAny_pyHash_int h
  ·exact wpAny_pyHash_str h
 eqBool:=fun hu hv h=>by
  rcases qBV hu with ⟨i,t,rfl,rfl⟩ | ⟨x,t,rfl,rfl⟩
  ·rcases qBV hv with ⟨j,u,rfl,rfl⟩ | ⟨y,u,rfl,rfl⟩
   ·rw [qaQ] at h;exact wpAny_eqBool_int h
   ·rw [qaP] at h;exact SeqAt.EqAt.int_str i t y u _ _ _ _ h
  ·rcases qBV hv with ⟨j,u,rfl,rfl⟩ | ⟨y,u,rfl,rfl⟩
   ·rw [qaO] at h;exact SeqAt.EqAt.str_int x t j u _ _ _ _ h
   ·rw [qaN] at h;exact wpAny_eqBool_str h
 «strs»:=fun k x t v h=>by
  rcases qBV h with ⟨i,u,rfl,e⟩ | ⟨y,u,rfl,e⟩
  ·exact nomatch e
  ·injection e with e1 _
   subst e1
   cases v <;> rfl
theorem qSC (prog:Program) (w:World) (k:Key) (v:Value):(qB1 prog w).is k v=qPZ k v:=rfl
theorem qPT (prog:Program) (w:World) (i:Int) (t:Tok):(qB1 prog w).is (.inl i) (.int i t)=true:=qOA i t
theorem qPS (prog:Program) (w:World) (x:Str) (t:Tok):(qB1 prog w).is (.inr x) (.str x t)=true:=qUI x t
end L2
namespace L2
open PySem PySem.Spec PyProof.Rows
inductive V where
 | non | bl (b:Bool) | int (i:Int) | str (x:Str) | byt (b:Array UInt8) | flt (b:UInt64) | ref (a:Addr) | ty (n:String)
 deriving DecidableEq
def RelV:V→Value→Prop
 | .non,u=>u=Value.none
 | .bl b,u=>u=Value.bool b
 | .int i,u=>∃ t,u=Value.int i t
 | .str x,u=>∃ t,u=Value.str x t
 | .byt b,u=>∃ t,u=Value.bytes b t
 | .flt b,u=>∃ t,u=Value.float b t
 | .ref a,u=>u=Value.ref a
 | .ty n,u=>u=Value.type n
abbrev Vals:List V→List Value→Prop:=Paired RelV
theorem Vals.length {xs:List V} {us:List Value} (r:Vals xs us):xs.length=us.length:=Paired.length r
theorem Vals.get:∀ {xs:List V} {us:List Value} {i:Nat} {x:V},Vals xs us→xs[i]?=some x→∃ u,us[i]?=some u∧RelV x u
 | _,_,_,_,.nil,e=>by simp at e
 | _,_,0,_,.cons r _,e=>by simp at e;subst e;exact ⟨_,rfl,r⟩
 | _,_,i+1,x,.cons _ t,e=>by
  obtain ⟨u,h1,h2⟩:=Vals.get (i:=i) (x:=x) t (by simpa using e)
  exact ⟨u,by simpa using h1,h2⟩
theorem Vals.set {x:V} {u:Value} (r:RelV x u):∀ {xs:List V} {us:List Value} (i:Nat),Vals xs us→Vals (xs.set i x) (us.set i u)
 | _,_,_,.nil=>.nil
 | _,_,0,.cons _ t=>.cons r t
 | _,_,i+1,.cons q t=>.cons q (Vals.set r i t)
theorem Vals.append:∀ {xs ys:List V} {us ws:List Value},Vals xs us→Vals ys ws→Vals (xs++ys) (us++ws)
 | _,_,_,_,.nil,s=>s
 | _,_,_,_,.cons r t,s=>.cons r (Vals.append t s)
theorem Vals.take:∀ {xs:List V} {us:List Value} (n:Nat),Vals xs us→Vals (xs.take n) (us.take n)
 | _,_,0,_=>.nil
 | _,_,_+1,.nil=>.nil
 | _,_,n+1,.cons r t=>.cons r (Vals.take n t)
theorem Vals.drop:∀ {xs:List V} {us:List Value} (n:Nat),Vals xs us→Vals (xs.drop n) (us.drop n)
 | _,_,0,r=>r
 | _,_,_+1,.nil=>.nil
 | _,_,n+1,.cons _ t=>Vals.drop n t
def RelO:Option V→Option Value→Prop
 | some v,some u=>RelV v u
 | none,none=>True
 | _,_=>False
def KV {κ:Type}:List (κ × V)→List (κ × Value)→Prop:=Paired fun (p:κ × V) (q:κ × Value)=>p.1=q.1∧RelV p.2 q.2
inductive CTb where
 | tab (q:Str)
 | cod (q:Str)
def kV:Key→V
 | .inl i=>.int i
 | .inr x=>.str x
inductive HO where
 /-- a list -/
 | lst (xs:List V)
 /-- a tuple (never changes) -/
 | tup (xs:List V)
 /-- a dict whose keys are ints and texts;one whose keys are tuples of ints and texts (the empty one is both) -/
 | dK (kvs:List (Key × V)) | dT (kvs:List (List Key × V))
 /-- a set of ints: its members,its size -/
 | set (S:Int→Bool) (n:Nat)
 /-- an instance of the class at C,its dict at dx,its attributes -/
 | ins (C dx:Addr) (fs:List (Str × V))
 /-- the dict of the instance at x -/
 | own (x:Addr)
 /-- the dict of an exception -/
 | xd (fs:List (Str × V))
 /-- a bound method,f of x -/
 | met (f x:Addr)
 /-- a range object lo,lo+1,.. below hi -/
 | rng (lo hi:Int)
 /-- a thing that is known to the object (the script;a dict while a loop walks it): read,never written while it is so -/
 | frz (o:Obj) (u:HO)
 /-- a code object's table -/
 | tbl (t:CTb)
 /-- any other thing,by what is true of its one object (a def of one's own: SetO a S n:=HO.ext fun h=>..) -/
 | ext (φ:Heap→Prop)
abbrev Hp:=Addr→Option HO
def upd (H:Hp) (a:Addr) (o:HO):Hp:=fun b=>if b=a then some o else H b
theorem qA1 {H:Hp} {a:Addr} {o:HO}:upd H a o a=some o:=by unfold upd;rw [if_pos rfl]
theorem qA7 {H:Hp} {a b:Addr} {o:HO} (h:b ≠ a):upd H a o b=H b:=by unfold upd;rw [if_neg h]
theorem qLS {H:Hp} {a:Addr} {o u:HO}:upd (upd H a o) a u=upd H a u:=by
 funext b;unfold upd;split <;> rfl
theorem qC9 {H:Hp} {a b:Addr} {o u:HO} (h:H a=some o) (h':H b=some u) (d:o ≠ u):a ≠ b:=by
 intro e;subst e;rw [h] at h';exact d (Option.some.inj h')
theorem qA5 {H:Hp} {a b:Addr} {o:HO} (h:H a=some o) (h':H b=none):a ≠ b:=by
 intro e;subst e;rw [h] at h';cases h'
section
variable (P:Program) (w:World)
def ObjOk (H:Hp) (h:Heap) (a:Addr):HO→Prop
 | .lst xs=>xs.length≤sizeLine∧∃ (its:List Value) (n:Nat),Vals xs its∧h.get? a=some { cls:=.type "list",data:=.seq its.toArray n }
 | .tup xs=>xs.length≤sizeLine∧∃ its:List Value,Vals xs its∧IsTup h a its.toArray
 | .dK kvs=>kvs.length≤sizeLine∧(a == sysModules)=false∧∃ vs,KV kvs vs∧h.DictOf (qB1 P w) a vs
 | .dT kvs=>kvs.length≤sizeLine∧(a == sysModules)=false∧∃ xs:List (List Key × Addr × Value),
   Paired (fun (p:List Key × V) (q:List Key × Addr × Value)=>p.1=q.1∧H q.2.1=some (.tup (p.1.map kV))∧RelV p.2 q.2.2) kvs xs∧
   ∃ o es ep,h.get? a=some o∧o.ExactDict∧o.data=.dict es ep∧es.toList=xs.map (entryOfKey (tupleKind (qB1 P w)))∧(xs.map (·.1)).Nodup
 | .set S n=>h.SetOf (intKind P w) a S n
 | .ins C dx fs=>H dx=some (.own a)∧fs.length≤1000∧dx ≠ a∧h.get? a=some (PySem.W.instObj C dx)∧
   ∃ mA,h.Ns1 dx mA∧(∀ f,RelO (fs.lookup f) (mA f))∧PySem.Within mA (fs.map (·.1))
 | .own _=>∃ o,h.get? a=some o
 | .xd fs=>∃ mA,h.Ns1 a mA∧∀ f,RelO (fs.lookup f) (mA f)
 | .rng lo hi=>∃ t u v,h.get? a=some { cls:=.type "range",data:=.fields #[.int lo t,.int hi u,.int 1 v] }
 | .frz o u=>h.get? a=some o∧ObjOk H h a u
 | .tbl (.tab q)=>∃ more:Array Value,h.get? a=some { cls:=.none,data:=.fields more }∧TriplesOk more.toList∧∀ pos cv,codeAmong pos more.toList=some cv→∃ c,cv=.ref c∧H c=some (.tbl (.cod q))
 | .tbl (.cod q)=>h.CodeRec (.ref a) q
 | .met f x=>h.get? a=some (PySem.W.methodObj (.ref f) (.ref x))
 | .ext φ=>φ h∧(∃ o,h.get? a=some o)∧∀ h1 h2:Heap,φ h1→(∀ o,h1.get? a=some o→h2.get? a=some o)→φ h2
def HOk (H:Hp) (h:Heap):Prop:=∀ a o,H a=some o→ObjOk P w H h a o
end
section
variable {P:Program} {w:World} {H H':Hp} {h h':Heap} {a:Addr} {o:HO}
theorem ObjOk.lt (x:ObjOk P w H h a o):a<h.objs.size:=by
 cases o with
 | lst xs=>obtain ⟨_,_,_,_,e⟩:=x;exact Heap.lt_size e
 | tup xs=>obtain ⟨_,_,_,p⟩:=x;exact p.lt
 | dK kvs=>obtain ⟨_,_,_,_,o,_,_,e,_⟩:=x;exact Heap.lt_size e
 | dT kvs=>obtain ⟨_,_,_,_,o,_,_,e,_⟩:=x;exact Heap.lt_size e
 | set S n=>obtain ⟨o,_,_,_,e,_⟩:=x;exact Heap.lt_size e
 | ins C dx fs=>obtain ⟨_,_,_,e,_⟩:=x;exact Heap.lt_size e
 | own y=>obtain ⟨_,e⟩:=x;exact Heap.lt_size e
 | xd fs=>obtain ⟨_,⟨_,_,_,e,_⟩,_⟩:=x;exact Heap.lt_size e
 | rng lo hi=>obtain ⟨_,_,_,e⟩:=x;exact Heap.lt_size e
 | frz ob u=>obtain ⟨e,_⟩:=x;exact Heap.lt_size e
 | tbl t=>
  cases t with
  | tab q=>obtain ⟨_,e,_⟩:=x;exact Heap.lt_size e
  | cod q=>obtain ⟨c,o,_,_,e,g,_⟩:=x;cases e;exact Heap.lt_size g
 | met f y=>exact Heap.lt_size (show h.get? a=some _ from x)
 | ext φ=>obtain ⟨_,⟨_,e⟩,_⟩:=x;exact Heap.lt_size e
theorem Paired.mapP {α β:Type} {F G:α→β→Prop}:∀ {l₁:List α} {l₂:List β},Paired F l₁ l₂→(∀ a b,F a b→G a b)→Paired G l₁ l₂
 | _,_,.nil,_=>.nil
 | _,_,.cons r t,f=>.cons (f _ _ r) (Paired.mapP t f)
theorem ObjOk.stay (x:ObjOk P w H h a o) (k:∀ b u,(b=a∨H b=some (.own a))→h.get? b=some u→h'.get? b=some u)
  (ho:∀ b,H b=some (.own a)→H' b=some (.own a)) (ht:∀ b xs,H b=some (.tup xs)→H' b=some (.tup xs)) (hb:∀ b t,H b=some (.tbl t)→H' b=some (.tbl t):=by exact fun _ _ q=>q):ObjOk P w H' h' a o:=by
 induction o with
 | lst xs=>obtain ⟨z,its,n,r,e⟩:=x;exact ⟨z,its,n,r,k _ _ (.inl rfl) e⟩
 | tup xs=>obtain ⟨z,its,r,ob,e,c⟩:=x;exact ⟨z,its,r,ob,k _ _ (.inl rfl) e,c⟩
 | dK kvs=>obtain ⟨z,y,vs,r,ob,es,ep,e,c⟩:=x;exact ⟨z,y,vs,r,ob,es,ep,k _ _ (.inl rfl) e,c⟩
 | dT kvs=>
  obtain ⟨z,y,xs,r,ob,es,ep,e,c⟩:=x
  exact ⟨z,y,xs,Paired.mapP r fun p q z=>⟨z.1,ht _ _ z.2.1,z.2.2⟩,ob,es,ep,k _ _ (.inl rfl) e,c⟩
 | set S n=>obtain ⟨ob,es,ep,t,e,c⟩:=x;exact ⟨ob,es,ep,t,k _ _ (.inl rfl) e,c⟩
 | ins C dx fs=>
  obtain ⟨d,z,ne,e,mA,⟨od,es,ep,e2,c⟩,r⟩:=x
  exact ⟨ho _ d,z,ne,k _ _ (.inl rfl) e,mA,⟨od,es,ep,k _ _ (.inr d) e2,c⟩,r⟩
 | own y=>obtain ⟨ob,e⟩:=x;exact ⟨ob,k _ _ (.inl rfl) e⟩
 | xd fs=>obtain ⟨mA,⟨od,es,ep,e,c⟩,r⟩:=x;exact ⟨mA,⟨od,es,ep,k _ _ (.inl rfl) e,c⟩,r⟩
 | rng lo hi=>obtain ⟨t,u,v,e⟩:=x;exact ⟨t,u,v,k _ _ (.inl rfl) e⟩
 | frz ob u ih=>obtain ⟨e,q⟩:=x;exact ⟨k _ _ (.inl rfl) e,ih q⟩
 | tbl t=>
  cases t with
  | tab q=>obtain ⟨m,e,tr,c⟩:=x;exact ⟨m,k a _ (.inl rfl) e,tr,fun pos cv z=>let ⟨c',e1,e2⟩:=c pos cv z;⟨c',e1,hb _ _ e2⟩⟩
  | cod q=>obtain ⟨c,o,vs,t,e,g,r⟩:=x;cases e;exact ⟨a,o,vs,t,rfl,k a _ (.inl rfl) g,r⟩
 | met f y=>
  have e:h.get? a=some (PySem.W.methodObj (.ref f) (.ref y)):=x
  show h'.get? a=some (PySem.W.methodObj (.ref f) (.ref y))
  exact k a _ (.inl rfl) e
 | ext φ=>obtain ⟨p,⟨o,e⟩,st⟩:=x;exact ⟨st _ _ p fun o q=>k _ _ (.inl rfl) q,⟨o,k _ _ (.inl rfl) e⟩,st⟩
theorem HOk.lt (x:HOk P w H h) (e:H a=some o):a<h.objs.size:=(x a o e).lt
theorem HOk.fresh (x:HOk P w H h) (e:h.objs.size≤a):H a=none:=by
 cases q:H a with
 | none=>rfl
 | some u=>exact absurd (Nat.lt_of_lt_of_le (x.lt q) e) (Nat.lt_irrefl _)
theorem HOk.kept (x:HOk P w H h) (k:∀ b u,h.get? b=some u→h'.get? b=some u):HOk P w H h':=fun a o e=>
 (x a o e).stay (fun b u _ q=>k b u q) (fun _ q=>q) fun _ _ q=>q
theorem HOk.laid (x:HOk P w H h) (k:∀ b u,h.get? b=some u→h'.get? b=some u) (hp:h.objs.size≤a) (new:ObjOk P w (upd H a o) h' a o):HOk P w (upd H a o) h':=fun b u e=>by
 have hn:=x.fresh hp
 by_cases hb:b=a
 ·subst hb;rw [qA1] at e;cases e;exact new
 ·rw [qA7 hb] at e
  exact (x b u e).stay (fun c v _ q=>k c v q) (fun c q=>by rw [qA7 (qA5 q hn)];exact q) (fun c xs q=>by rw [qA7 (qA5 q hn)];exact q) fun c t q=>by rw [qA7 (qA5 q hn)];exact q
end
def Rd (H:Hp) (a:Addr) (u:HO):Prop:=H a=some u∨∃ o,H a=some (.frz o u)
theorem Rd.ok {P:Program} {w:World} {H:Hp} {h:Heap} {a:Addr} {u:HO} (r:Rd H a u) (x:HOk P w H h):ObjOk P w H h a u:=by
 rcases r with r | ⟨o,r⟩
 ·exact x a u r
 ·obtain ⟨_,q⟩:=x a _ r
  exact q
def Mut:Option HO→Prop
 | some (.lst _)=>True
 | some (.dK _)=>True
 | some (.dT _)=>True
 | some (.set _ _)=>True
 | some (.ins _ _ _)=>True
 | some (.ext _)=>True
 | _=>False
section
variable {P:Program} {w:World} {H:Hp} {h h':Heap} {x e:Addr} {o':HO}
theorem HOk.write (ok:HOk P w H h) (mu:Mut (H x)) (he:e=x∨H e=some (.own x)) (k:∀ b u,b ≠ e→h.get? b=some u→h'.get? b=some u) (heo:∃ u,h'.get? e=some u)
  (new:ObjOk P w (upd H x o') h' x o'):HOk P w (upd H x o') h':=fun b u q=>by
 have nown:∀ c y,H c=some (.own y)→c ≠ x:=fun c y r z=>by subst z;rw [r] at mu;exact mu
 have ntup:∀ c xs,H c=some (.tup xs)→c ≠ x:=fun c xs r z=>by subst z;rw [r] at mu;exact mu
 by_cases hb:b=x
 ·subst hb;rw [qA1] at q;cases q;exact new
 ·rw [qA7 hb] at q
  by_cases hbe:b=e
  ·have q':H b=some (.own x):=by
    rcases he with z | z
    ·exact absurd (hbe.trans z) hb
    ·rw [hbe];exact z
   rw [q] at q';cases q'
   obtain ⟨v,hv⟩:=heo
   exact ⟨v,by rw [hbe];exact hv⟩
  ·refine (ok b u q).stay (fun c v hc r=>k c v ?_ r) (fun c r=>by rw [qA7 (nown c b r)];exact r) (fun c xs r=>by rw [qA7 (ntup c xs r)];exact r) fun c t r=>by rw [qA7 (fun z=>by subst z;rw [r] at mu;exact mu)];exact r
   rcases hc with rfl | hc
   ·exact hbe
   ·rintro rfl
    rcases he with z | z
    ·exact nown c b hc z
    ·rw [hc] at z;cases z;exact hb rfl
end
structure Un (fs ex:List Addr) (H H':Hp) (h h':Heap):Prop where
 keep:∀ b o,h.get? b=some o→H b=none→b ∉ fs→b ∉ ex→h'.get? b=some o
 slot:∀ b o,h.get? b=some o→H b=none→b ∈ fs→b ∉ ex→∃ sl,h'.get? b=some { o with slots:=sl }
 free:∀ b o,h.get? b=some o→H b=none→b ∉ ex→H' b=none
 there:∀ b o,h.get? b=some o→b ∉ ex→∃ o',h'.get? b=some o'
 tups:∀ b xs,H b=some (.tup xs)→H' b=some (.tup xs)
 frzs:∀ b o u,H b=some (.frz o u)→H' b=some (.frz o u)
 tbls:∀ b ps,H b=some (.tbl ps)→H' b=some (.tbl ps)
section
variable {fs fs' ex ex':List Addr} {H H1 H2:Hp} {h h1 h2 h':Heap} {a x e:Addr} {o:HO}
theorem Un.any (u:Un fs ex H H1 h h1) {b:Addr} {ob:Obj} (q:h.get? b=some ob) (n:H b=none) (hx:b ∉ ex):∃ sl,h1.get? b=some { ob with slots:=sl }:=by
 by_cases hb:b ∈ fs
 ·exact u.slot b ob q n hb hx
 ·exact ⟨ob.slots,u.keep b ob q n hb hx⟩
theorem Un.kept (k:∀ b u,h.get? b=some u→h'.get? b=some u):Un fs ex H H h h':=
 ⟨fun b ob q _ _ _=>k b ob q,fun b ob q _ _ _=>⟨ob.slots,k b ob q⟩,fun _ _ _ n _=>n,fun b ob q _=>⟨ob,k b ob q⟩,fun _ _ q=>q,fun _ _ _ q=>q,fun _ _ q=>q⟩
theorem Un.refl:Un fs ex H H h h:=Un.kept fun _ _ q=>q
theorem Un.laid (k:∀ b u,h.get? b=some u→h'.get? b=some u) (hp:h.objs.size≤a) (hn:H a=none):Un fs ex H (upd H a o) h h' where
 keep:=fun b u q _ _ _=>k b u q
 slot:=fun b u q _ _ _=>⟨u.slots,k b u q⟩
 free:=fun b u q n _=>by rw [qA7 (Nat.ne_of_lt (Nat.lt_of_lt_of_le (Heap.lt_size q) hp))];exact n
 there:=fun b u q _=>⟨u,k b u q⟩
 tups:=fun b xs q=>by rw [qA7 (qA5 q hn)];exact q
 frzs:=fun b u xs q=>by rw [qA7 (qA5 q hn)];exact q
 tbls:=fun b ps q=>by rw [qA7 (qA5 q hn)];exact q
theorem Un.write (mu:Mut (H x)) (he:e=x∨H e=some (.own x)) (k:∀ b u,b ≠ e→h.get? b=some u→h'.get? b=some u) (heo:∃ u,h'.get? e=some u):Un fs ex H (upd H x o) h h':=by
 have hx:∀ b,H b=none→b ≠ x:=fun b n z=>by subst z;rw [n] at mu;exact mu
 have hb:∀ b,H b=none→b ≠ e:=fun b n z=>by
  subst z
  rcases he with r | r
  ·exact hx b n r
  ·rw [n] at r;cases r
 have hm:∀ b u,H b=some u→¬ Mut (some u)→b ≠ x:=fun b u q nm z=>by subst z;rw [q] at mu;exact nm mu
 refine ⟨fun b u q n _ _=>k b u (hb b n) q,fun b u q n _ _=>⟨u.slots,k b u (hb b n) q⟩,fun b u q n _=>by rw [qA7 (hx b n)];exact n,fun b u q _=>?_,
  fun b xs q=>by rw [qA7 (hm b _ q fun z=>z)];exact q,fun b u xs q=>by rw [qA7 (hm b _ q fun z=>z)];exact q,fun b ps q=>by rw [qA7 (hm b _ q fun z=>z)];exact q⟩
 by_cases hbe:b=e
 ·subst hbe;exact heo
 ·exact ⟨u,k b u hbe q⟩
end
def trk (h:Heap) (H:Hp):List Addr:=(List.range h.objs.size).filter fun a=>(H a).isSome
def hidT (h:Heap) (H:Hp):Heap:=PySem.W.hideAll h (trk h H)
theorem qUQ (h:Heap) (H:Hp):(hidT h H).objs.size=h.objs.size:=PySem.W.hideAll_size _ _
theorem qWN {h:Heap} {H:Hp} {b:Addr} {o:Obj} (e:h.get? b=some o) (n:H b=none):(hidT h H).get? b=some o:=
 PySem.W.hideAll_get _ e fun hm=>by
  have q:(H b).isSome=true:=(List.mem_filter.mp hm).2
  rw [n] at q;simp at q
theorem qYH {h:Heap} {H:Hp} {b:Addr} {o:Obj} (e:(hidT h H).get? b=some o):h.get? b=some o∧H b=none:=by
 have e':h.get? b=some o:=PySem.W.of_hideAll (trk h H) e
 refine ⟨e',?_⟩
 cases q:H b with
 | none=>rfl
 | some x=>
  have hm:b ∈ trk h H:=List.mem_filter.mpr ⟨List.mem_range.mpr (Heap.lt_size e'),by simp [q]⟩
  have z:(hidT h H).get? b=none:=PySem.W.hideAll_none (trk h H) hm
  rw [z] at e;cases e
def qZ7 (g h:Heap) (L:Addr):List (Addr × Obj):=(List.range h.objs.size).filterMap fun a=>if a=L∨(g.get? a).isSome=true then none else (h.get? a).map fun o=>(a,o)
def rest (g h:Heap) (L d:Addr):List (Addr × Obj):=(qZ7 g h L).filter fun p=>decide (p.1 ≠ d)
end L2
namespace L2
open PySem PySem.Spec PyProof.Rows
structure Mod (K:PySem.W.Frag) (mg:Str→Option Value) (base:Heap):Prop where
 kin:K.In base
 glob:base.Ns mainGlobals mg
 blt:∃ mb,base.Ns builtinsNs mb∧∀ x:Str,x ≠ "__name__"→mb x=bootBuiltins x
 nolimit:base.NoLimit
structure Cx where
 prog:Program
 w:World
 K:PySem.W.Frag
 mg:Str→Option Value
 base:Heap
 A:Around
 N:List Str
 s₀:Shared
 H₀:Hp
 env:Env
 outer:List Env
 stack:List Env
 ex:List Addr
 fn:Str→Bool
 calm:Bool
 pn:List (Addr × Obj)
 xe:Value→Shared→Prop
def frs (l:List Env):List Addr:=l.filterMap (·.frame)
abbrev Cx.fs (X:Cx):List Addr:=frs X.outer
def Vis (sc:Scope) (x:Str):Prop:=sc.names.lookup x=some .local∨sc.names.lookup x=some .cell∨sc.names.lookup x=some .free
def Loc (sc:Scope) (x:Str):Prop:=sc.names.lookup x=some .local∨sc.names.lookup x=some .cell
def Look (env:Env) (h:Heap) (m:Str→Option Value) (x:Str) (u:Value):Prop:=
 (env.kindOf x=some .local∧m x=some u)∨((env.kindOf x=some .cell∨env.kindOf x=some .free)∧∃ c,env.cells.lookup x=some c∧h.IsCell c (some u))
structure Cx.Ok (X:Cx):Prop where
 mod:Mod X.K X.mg X.base
 kind:X.env.scope.kind=.function
 glob:X.env.globals=mainGlobals
 blt:X.env.builtins=builtinsNs
 above:X.s₀.heap.objs.size≤X.env.locals
 inj:∀ x y c,X.env.cells.lookup x=some c→X.env.cells.lookup y=some c→x=y
 has:∀ x,(X.env.kindOf x=some .cell∨X.env.kindOf x=some .free)→∃ c,X.env.cells.lookup x=some c
 cab:∀ x c,X.fn x=true→X.env.cells.lookup x=some c→X.s₀.heap.objs.size≤c
 hd:X.calm=true→X.A.handled=none
 frames:X.A.frames=some X.stack
 stk:X.stack=X.outer∨(X.stack=X.env::X.outer∧X.env.frame=some X.env.locals)
 exf:∀ b ∈ X.ex,b ≠ X.env.locals∧∀ x c,X.env.cells.lookup x=some c→c ≠ b
 bs:∀ b o,X.base.get? b=some o→X.s₀.heap.get? b=some o∧X.H₀ b=none
 bsz:X.base.objs.size≤X.s₀.heap.objs.size
 noex:∀ b o,X.base.get? b=some o→b ∉ X.ex
 exfs:∀ b ∈ X.ex,b ∉ X.fs
 funs:X.s₀.heap.FunFrames X.base X.outer
 frf:∀ b ∈ X.fs,X.H₀ b=none
structure Inv (X:Cx) (pins:List (Addr × Obj)) (σ:List (Option V)) (H:Hp) (s:Shared):Prop where
 ok:X.Ok
 os:s.os=X.s₀.os
 bare:AllBare s.gens
 base:Un X.fs X.ex X.H₀ H X.s₀.heap s.heap
 loc:∃ m,s.heap.Ns X.env.locals m∧∀ (i:Nat) (x:Str) (v:V),X.N[i]?=some x→σ[i]?=some (some v)→Vis X.env.scope x→∃ u,RelV v u∧Look X.env s.heap m x u
 cell:∀ x c,X.env.cells.lookup x=some c→∃ v,s.heap.IsCell c v
 free:H X.env.locals=none
 freeC:∀ x c,X.env.cells.lookup x=some c→H c=none
 pin:∀ p ∈ X.pn++pins,s.heap.get? p.1=some p.2∧H p.1=none∧p.1 ≠ X.env.locals∧p.1 ∉ X.fs∧∀ v,p.2.data ≠ .cell v
 hok:HOk X.prog X.w H s.heap
 len:σ.length=X.N.length
section
variable {X:Cx} {pins:List (Addr × Obj)} {σ:List (Option V)} {H H':Hp} {s:Shared} {h':Heap}
theorem Cx.Ok.nofr (ok:X.Ok) {b:Addr} {o:Obj} (e:X.base.get? b=some o):b ∉ X.fs:=fun hb=>by
 have:=(ok.funs.mem hb).1
 rw [e] at this;cases this
theorem Inv.bs (I:Inv X pins σ H s):∀ b o,X.base.get? b=some o→s.heap.get? b=some o∧H b=none:=fun b o e=>
 ⟨I.base.keep b o (I.ok.bs b o e).1 (I.ok.bs b o e).2 (I.ok.nofr e) (I.ok.noex b o e),I.base.free b o (I.ok.bs b o e).1 (I.ok.bs b o e).2 (I.ok.noex b o e)⟩
theorem Inv.bk (I:Inv X pins σ H s):∀ b o,X.base.get? b=some o→s.heap.get? b=some o:=fun b o e=>(I.bs b o e).1
theorem Inv.mod (I:Inv X pins σ H s):Mod X.K X.mg X.base:=I.ok.mod
theorem Inv.kIn (I:Inv X pins σ H s):X.K.In s.heap:=I.ok.mod.kin.keeps I.bk
theorem Inv.nolimit (I:Inv X pins σ H s):s.heap.NoLimit:=I.ok.mod.nolimit.keeps I.bk
theorem Inv.lt (I:Inv X pins σ H s):X.env.locals<s.heap.objs.size:=let ⟨_,hn,_⟩:=I.loc;hn.lt
theorem Inv.sz (I:Inv X pins σ H s):X.s₀.heap.objs.size≤s.heap.objs.size:=Nat.le_trans I.ok.above (Nat.le_of_lt I.lt)
theorem Inv.nofs (I:Inv X pins σ H s) {a:Addr} (h:s.heap.objs.size≤a):a ∉ X.fs:=fun hb=>by
 obtain ⟨_,o,ho,_⟩:=I.ok.funs.mem hb
 exact absurd (Nat.lt_of_lt_of_le (Heap.lt_size ho) (Nat.le_trans I.sz h)) (Nat.lt_irrefl _)
theorem Inv.cne (I:Inv X pins σ H s):∀ x c,X.env.cells.lookup x=some c→c ≠ X.env.locals:=fun x c e z=>by
 obtain ⟨v,o,ho,hd⟩:=I.cell x c e
 obtain ⟨m,⟨o',es,ep,ho',hd',_⟩,_⟩:=I.loc
 rw [z,ho'] at ho;cases ho;rw [hd'] at hd;cases hd
theorem Inv.funs (I:Inv X pins σ H s):s.heap.FunFrames X.base X.outer:=by
 have all:∀ (l:List Env),(∀ b ∈ frs l,b ∈ X.fs)→X.s₀.heap.FunFrames X.base l→s.heap.FunFrames X.base l:=by
  intro l
  induction l with
  | nil=>intro _ _;trivial
  | cons env r ih=>
   intro hs hl
   obtain ⟨hk,⟨L,o,hf,hn,ho,hd⟩,hr⟩:=hl
   have hL:L ∈ X.fs:=hs L (by unfold frs;rw [List.filterMap_cons,hf];exact List.mem_cons_self)
   obtain ⟨sl,e⟩:=I.base.slot L o ho (I.ok.frf L hL) hL fun z=>I.ok.exfs L z hL
   exact ⟨hk,⟨L,_,hf,hn,e,hd⟩,ih (fun b hb=>hs b (by unfold frs;rw [List.filterMap_cons,hf];exact List.mem_cons_of_mem _ hb)) hr⟩
 exact all X.outer (fun _ hb=>hb) I.ok.funs
theorem Inv.stack (I:Inv X pins σ H s):s.heap.FunFrames X.base X.stack:=by
 rcases I.ok.stk with e | ⟨e,hf⟩
 ·rw [e];exact I.funs
 ·rw [e]
  obtain ⟨m,hn,_⟩:=I.loc
  refine .cons (by rw [I.ok.kind];decide) hf hn ?_ I.funs
  exact Heap.get?_none_of_le (Nat.le_trans I.ok.bsz I.ok.above)
theorem Inv.stkSub (I:Inv X pins σ H s):∀ b ∈ frs X.stack,b ∈ X.env.locals::X.fs:=fun b hb=>by
 rcases I.ok.stk with e | ⟨e,hf⟩
 ·rw [e] at hb;exact List.mem_cons_of_mem _ hb
 ·rw [e] at hb
  unfold frs at hb
  rw [List.filterMap_cons,hf] at hb
  exact hb
theorem Inv.stkFree (I:Inv X pins σ H s):∀ b ∈ frs X.stack,H b=none:=fun b hb=>by
 rcases List.mem_cons.mp (I.stkSub b hb) with e | hb
 ·rw [e];exact I.free
 ·obtain ⟨_,o,ho,_⟩:=I.ok.funs.mem hb
  exact I.base.free b o ho (I.ok.frf b hb) fun z=>I.ok.exfs b z hb
theorem Inv.step {g':Array GenState} {t':Nat} {d':Drawn} {ch:List Addr} (I:Inv X pins σ H s)
  (hch:∀ b ∈ ch,(b ∈ X.ex∨X.s₀.heap.objs.size≤b)∧b ≠ X.env.locals∧(∀ x c,X.env.cells.lookup x=some c→c ≠ b)∧∀ p ∈ X.pn++pins,p.1 ≠ b)
  (keep:∀ b o,b ≠ X.env.locals→b ∉ X.fs→b ∉ ch→s.heap.get? b=some o→H b=none→h'.get? b=some o)
  (slot:∀ b o,b ≠ X.env.locals→b ∈ X.fs→b ∉ ch→s.heap.get? b=some o→H b=none→∃ sl,h'.get? b=some { o with slots:=sl }) (free:∀ b o,b ∉ ch→s.heap.get? b=some o→H b=none→H' b=none)
  (there:∀ b o,b ∉ ch→s.heap.get? b=some o→∃ o',h'.get? b=some o')
  (tups:∀ b xs,H b=some (.tup xs)→H' b=some (.tup xs)) (frzs:∀ b o u,H b=some (.frz o u)→H' b=some (.frz o u)) (tbls:∀ b ps,H b=some (.tbl ps)→H' b=some (.tbl ps))
  (ns:∀ m,s.heap.Ns X.env.locals m→h'.Ns X.env.locals m) (hok:HOk X.prog X.w H' h') (hg:AllBare g') :
  Inv X pins σ H' { s with heap:=h',gens:=g',drawn:=d',toks:=t' }:=by
 have neL:∀ b o,X.s₀.heap.get? b=some o→b ≠ X.env.locals:=fun b o e=>Nat.ne_of_lt (Nat.lt_of_lt_of_le (Heap.lt_size e) I.ok.above)
 have neC:∀ b o,X.s₀.heap.get? b=some o→b ∉ X.ex→b ∉ ch:=fun b o e hx hb=>by
  rcases (hch b hb).1 with z | z
  ·exact hx z
  ·exact absurd (Nat.lt_of_lt_of_le (Heap.lt_size e) z) (Nat.lt_irrefl _)
 have cellK:∀ x c,X.env.cells.lookup x=some c→∀ v,s.heap.IsCell c v→h'.IsCell c v:=fun x c e v ⟨o,ho,hd⟩=>by
  have nch:c ∉ ch:=fun z=>(hch c z).2.2.1 x c e rfl
  by_cases hc:c ∈ X.fs
  ·obtain ⟨sl,q⟩:=slot c o (I.cne x c e) hc nch ho (I.freeC x c e)
   exact ⟨_,q,hd⟩
  ·exact ⟨o,keep c o (I.cne x c e) hc nch ho (I.freeC x c e),hd⟩
 refine ⟨I.ok,I.os,hg,⟨fun b o e n hb hx=>?_,fun b o e n hb hx=>?_,fun b o e n hx=>?_,fun b o e hx=>?_,fun b xs e=>tups b xs (I.base.tups b xs e),fun b o xs e=>frzs b o xs (I.base.frzs b o xs e),fun b ps e=>?_⟩,?_,fun x c e=>?_,?_,fun x c e=>?_,fun p hp=>?_,hok,I.len⟩
 ·exact keep b o (neL b o e) hb (neC b o e hx) (I.base.keep b o e n hb hx) (I.base.free b o e n hx)
 ·obtain ⟨sl,e1⟩:=I.base.slot b o e n hb hx
  obtain ⟨sl',e2⟩:=slot b _ (neL b o e) hb (neC b o e hx) e1 (I.base.free b o e n hx)
  exact ⟨sl',e2⟩
 ·obtain ⟨o',e1⟩:=I.base.there b o e hx
  exact free b o' (neC b o e hx) e1 (I.base.free b o e n hx)
 ·obtain ⟨o',e1⟩:=I.base.there b o e hx
  exact there b o' (neC b o e hx) e1
 ·exact tbls b ps (I.base.tbls b ps e)
 ·obtain ⟨m,hn,hl⟩:=I.loc
  refine ⟨m,ns m hn,fun i x v e1 e2 e3=>?_⟩
  obtain ⟨u,r,l⟩:=hl i x v e1 e2 e3
  refine ⟨u,r,?_⟩
  rcases l with l | ⟨k,c,e,z⟩
  ·exact .inl l
  ·exact .inr ⟨k,c,e,cellK x c e _ z⟩
 ·obtain ⟨v,z⟩:=I.cell x c e
  exact ⟨v,cellK x c e v z⟩
 ·obtain ⟨m,⟨o,_,_,ho,_⟩,_⟩:=I.loc
  exact free _ o (fun z=>(hch _ z).2.1 rfl) ho I.free
 ·obtain ⟨v,o,ho,hd⟩:=I.cell x c e
  exact free c o (fun z=>(hch c z).2.2.1 x c e rfl) ho (I.freeC x c e)
 ·obtain ⟨e,n,ne,nf,d⟩:=I.pin p hp
  have nch:p.1 ∉ ch:=fun z=>(hch p.1 z).2.2.2 p hp rfl
  exact ⟨keep p.1 p.2 ne nf nch e n,free p.1 p.2 nch e n,ne,nf,d⟩
theorem Inv.un {t':Nat} (I:Inv X pins σ H s) (u:Un X.fs [] H H' s.heap h') (hok:HOk X.prog X.w H' h'):Inv X pins σ H' { s with heap:=h',toks:=t' }:=by
 obtain ⟨m,⟨o,es,ep,ho,r⟩,_⟩:=id I.loc
 obtain ⟨sl,hL⟩:=u.any ho I.free (by simp)
 exact I.step (g':=s.gens) (d':=s.drawn) (ch:=[]) (fun _ z=>nomatch z) (fun b o _ hb _ e n=>u.keep b o e n hb (by simp)) (fun b o _ hb _ e n=>u.slot b o e n hb (by simp)) (fun b o _ e n=>u.free b o e n (by simp)) (fun b o _ e=>u.there b o e (by simp)) u.tups u.frzs u.tbls (fun m' hm=>by
  obtain ⟨o',es',ep',ho',r'⟩:=hm
  rw [ho] at ho';cases ho'
  exact ⟨_,es',ep',hL,r'⟩) hok I.bare
theorem Inv.call {g':Array GenState} {t':Nat} {d':Drawn} {ch:List Addr} (I:Inv X pins σ H s) (u:Un (frs X.stack) ch H H' s.heap h') (hok:HOk X.prog X.w H' h') (hg:AllBare g')
  (hch:∀ b ∈ ch,(b ∈ X.ex∨X.s₀.heap.objs.size≤b)∧b ≠ X.env.locals∧(∀ x c,X.env.cells.lookup x=some c→c ≠ b)∧∀ p ∈ X.pn++pins,p.1 ≠ b) :
  Inv X pins σ H' { s with heap:=h',gens:=g',drawn:=d',toks:=t' }:=by
 obtain ⟨m,⟨o,es,ep,ho,r⟩,_⟩:=id I.loc
 obtain ⟨sl,hL⟩:=u.any ho I.free fun z=>(hch _ z).2.1 rfl
 exact I.step (ch:=ch) hch (fun b o hL hb hc e n=>u.keep b o e n (fun z=>(List.mem_cons.mp (I.stkSub b z)).elim hL hb) hc) (fun b o _ _ hc e n=>u.any e n hc) (fun b o hc e n=>u.free b o e n hc) (fun b o hc e=>u.there b o e hc) u.tups u.frzs u.tbls (fun m' hm=>by
  obtain ⟨o',es',ep',ho',r'⟩:=hm
  rw [ho] at ho';cases ho'
  exact ⟨_,es',ep',hL,r'⟩) hok hg
theorem Inv.turned {t':Nat} {it:Addr} (I:Inv X pins σ H s) (k:∀ b o,b ≠ it→s.heap.get? b=some o→h'.get? b=some o) (hn:H it=none) (hL:it ≠ X.env.locals)
  (h1:it ∈ X.ex∨X.s₀.heap.objs.size≤it) (h2:∀ x c,X.env.cells.lookup x=some c→c ≠ it) (h3:∀ p ∈ X.pn++pins,p.1 ≠ it):Inv X pins σ H { s with heap:=h',toks:=t' }:=by
 have nit:∀ b u,H b=some u→b ≠ it:=fun b u e z=>by rw [z,hn] at e;cases e
 refine I.step (g':=s.gens) (d':=s.drawn) (ch:=[it]) (fun b hb=>?_) (fun b o _ _ hc e _=>k b o (fun z=>hc (by simp [z])) e) (fun b o _ _ hc e _=>⟨o.slots,k b o (fun z=>hc (by simp [z])) e⟩) (fun _ _ _ _ n=>n)
  (fun b o hc e=>⟨o,k b o (fun z=>hc (by simp [z])) e⟩) (fun _ _ e=>e) (fun _ _ _ e=>e) (fun _ _ e=>e) (fun m hm=>?_) (fun b u e=>?_) I.bare
 ·have e:b=it:=by simpa using hb
  subst e
  exact ⟨h1,hL,h2,h3⟩
 ·obtain ⟨o,es,ep,ho,r⟩:=hm
  exact ⟨o,es,ep,k _ o (Ne.symm hL) ho,r⟩
 ·refine (I.hok b u e).stay (fun c v hc q=>k c v ?_ q) (fun _ q=>q) fun _ _ q=>q
  rcases hc with z | z
  ·rw [z];exact nit b u e
  ·exact nit c _ z
theorem Inv.tok (I:Inv X pins σ H s) (t:Nat):Inv X pins σ H { s with toks:=t }:=I.un (h':=s.heap) (t':=t) Un.refl I.hok
theorem Inv.kept {t':Nat} (I:Inv X pins σ H s) (k:∀ b u,s.heap.get? b=some u→h'.get? b=some u):Inv X pins σ H { s with heap:=h',toks:=t' }:=I.un (Un.kept k) (I.hok.kept k)
theorem Inv.laid {a:Addr} {o:HO} {t':Nat} (I:Inv X pins σ H s) (k:∀ b u,s.heap.get? b=some u→h'.get? b=some u) (hp:s.heap.objs.size≤a) (new:ObjOk X.prog X.w (upd H a o) h' a o) :
  Inv X pins σ (upd H a o) { s with heap:=h',toks:=t' }:=I.un (Un.laid k hp (I.hok.fresh hp)) (I.hok.laid k hp new)
theorem Inv.write {x e:Addr} {o:HO} {t':Nat} (I:Inv X pins σ H s) (mu:Mut (H x)) (he:e=x∨H e=some (.own x)) (k:∀ b u,b ≠ e→s.heap.get? b=some u→h'.get? b=some u) (heo:∃ u,h'.get? e=some u)
  (new:ObjOk X.prog X.w (upd H x o) h' x o):Inv X pins σ (upd H x o) { s with heap:=h',toks:=t' }:=I.un (Un.write mu he k heo) (I.hok.write mu he k heo new)
theorem Inv.pins_of {pins':List (Addr × Obj)} (I:Inv X pins σ H s) (h:∀ p ∈ pins',s.heap.get? p.1=some p.2∧H p.1=none∧p.1 ≠ X.env.locals∧p.1 ∉ X.fs∧∀ v,p.2.data ≠ .cell v):Inv X pins' σ H s:=
 ⟨I.ok,I.os,I.bare,I.base,I.loc,I.cell,I.free,I.freeC,fun p hp=>(List.mem_append.mp hp).elim (fun z=>I.pin p (List.mem_append_left _ z)) (h p),I.hok,I.len⟩
theorem qRA {N:List Str} (hN:N.Nodup) {i j:Nat} {x:Str} (a:N[i]?=some x) (b:N[j]?=some x):i=j:=by
 obtain ⟨h1,e1⟩:=List.getElem?_eq_some_iff.mp a
 obtain ⟨h2,e2⟩:=List.getElem?_eq_some_iff.mp b
 exact (List.getElem_inj hN).mp (e1.trans e2.symm)
theorem qNB {M:Model} {A:Around} {E:Value→Shared→Prop} {i:Nat} {x:Str} {v:V} {u:Value} {Q:Unit→Shared→Prop} (I:Inv X pins σ H s) (hN:X.N.Nodup) (hi:X.N[i]?=some x) (hx:Loc X.env.scope x) (r:RelV v u)
  (h:∀ s',Inv X pins (σ.set i (some v)) H s'→(∃ a,Heap.SameBut a s.heap s'.heap∧(a=X.env.locals∨X.env.cells.lookup x=some a))→Q () s') (hf:X.fn x=true∨X.env.scope.names.lookup x=some .local:=by first | exact .inl rfl | exact .inr rfl | assumption):wpAny M A (storeName X.env x u) Q E s:=by
 obtain ⟨m,hn,hl⟩:=id I.loc
 have hcls:(X.env.scope.kind == .class || (X.env.scope.kind == .module && X.env.locals != X.env.globals))=false:=by rw [I.ok.kind];rfl
 have hiσ:i<σ.length:=by rw [I.len];exact (List.getElem?_eq_some_iff.mp hi).1
 have cne:=I.cne
 have tracked:∀ {a:Addr} {h':Heap},(∃ o,s.heap.get? a=some o∧H a=none)→Heap.SameBut a s.heap h'→HOk X.prog X.w H h':=fun {a h'} ha hs b ob e=>by
  obtain ⟨_,_,hfree⟩:=ha
  refine (I.hok b ob e).stay (fun c w' hc q=>(hs.2 c ?_).trans q) (fun _ q=>q) fun _ _ q=>q
  rintro rfl
  rcases hc with rfl | hc
  ·rw [hfree] at e;cases e
  ·rw [hfree] at hc;cases hc
 rcases hx with hk | hk
 ·refine wpAny_storeName_local hk hn (fun h' hn' hs=>?_) hcls
  obtain ⟨oL,_,_,hoL,_⟩:=id hn
  refine h _ ⟨I.ok,I.os,I.bare,⟨fun b o e n hb hx=>?_,fun b o e n hb hx=>?_,I.base.free,fun b o e hx=>?_,I.base.tups,I.base.frzs,I.base.tbls⟩,⟨_,hn',fun j y v' e1 e2 e3=>?_⟩,fun y c e=>?_,I.free,I.freeC,fun p hp=>?_,tracked ⟨oL,hoL,I.free⟩ hs,by simpa using I.len⟩ ⟨_,hs,.inl rfl⟩
  ·exact (hs.2 b (Nat.ne_of_lt (Nat.lt_of_lt_of_le (Heap.lt_size e) I.ok.above))).trans (I.base.keep b o e n hb hx)
  ·obtain ⟨sl,e1⟩:=I.base.slot b o e n hb hx
   exact ⟨sl,(hs.2 b (Nat.ne_of_lt (Nat.lt_of_lt_of_le (Heap.lt_size e) I.ok.above))).trans e1⟩
  ·obtain ⟨o',e1⟩:=I.base.there b o e hx
   exact ⟨o',(hs.2 b (Nat.ne_of_lt (Nat.lt_of_lt_of_le (Heap.lt_size e) I.ok.above))).trans e1⟩
  ·by_cases hj:j=i
   ·subst hj
    rw [hi] at e1;cases e1
    rw [List.getElem?_set_self hiσ] at e2
    cases e2
    exact ⟨u,r,.inl ⟨hk,by simp⟩⟩
   ·rw [List.getElem?_set_ne (Ne.symm hj)] at e2
    obtain ⟨u',r',q⟩:=hl j y v' e1 e2 e3
    refine ⟨u',r',?_⟩
    rcases q with ⟨k,e⟩ | ⟨k,c,e,z⟩
    ·refine .inl ⟨k,?_⟩
     have:y ≠ x:=fun e=>hj (qRA hN e1 (e ▸ hi))
     simp [this,e]
    ·exact .inr ⟨k,c,e,z.sameBut hs (cne y c e)⟩
  ·obtain ⟨w',z⟩:=I.cell y c e
   exact ⟨w',z.sameBut hs (cne y c e)⟩
  ·obtain ⟨e,n,ne,nf,d⟩:=I.pin p hp
   exact ⟨(hs.2 p.1 ne).trans e,n,ne,nf,d⟩
 ·have hfn:X.fn x=true:=by
   rcases hf with z | z
   ·exact z
   ·rw [z] at hk;cases hk
  obtain ⟨c,hc⟩:=I.ok.has x (.inl hk)
  obtain ⟨w',z⟩:=I.cell x c hc
  refine wpAny_storeName_cell I.ok.kind hk hc z (fun h' hc' hs=>?_)
  obtain ⟨oc,hoc,hocd⟩:=id z
  refine h { s with heap:=h' } ⟨I.ok,I.os,I.bare,⟨fun b o e n hb hx=>?_,fun b o e n hb hx=>?_,I.base.free,fun b o e hx=>?_,I.base.tups,I.base.frzs,I.base.tbls⟩,⟨m,hn.sameBut hs (Ne.symm (cne x c hc)),fun j y v' e1 e2 e3=>?_⟩,fun y c' e=>?_,I.free,I.freeC,fun p hp=>?_,tracked ⟨oc,hoc,I.freeC x c hc⟩ hs,by simpa using I.len⟩ ⟨c,hs,.inr hc⟩
  ·exact (hs.2 b (Nat.ne_of_lt (Nat.lt_of_lt_of_le (Heap.lt_size e) (I.ok.cab x c hfn hc)))).trans (I.base.keep b o e n hb hx)
  ·obtain ⟨sl,e1⟩:=I.base.slot b o e n hb hx
   exact ⟨sl,(hs.2 b (Nat.ne_of_lt (Nat.lt_of_lt_of_le (Heap.lt_size e) (I.ok.cab x c hfn hc)))).trans e1⟩
  ·obtain ⟨o',e1⟩:=I.base.there b o e hx
   exact ⟨o',(hs.2 b (Nat.ne_of_lt (Nat.lt_of_lt_of_le (Heap.lt_size e) (I.ok.cab x c hfn hc)))).trans e1⟩
  ·by_cases hj:j=i
   ·subst hj
    rw [hi] at e1;cases e1
    rw [List.getElem?_set_self hiσ] at e2
    cases e2
    exact ⟨u,r,.inr ⟨.inl hk,c,hc,hc'⟩⟩
   ·rw [List.getElem?_set_ne (Ne.symm hj)] at e2
    obtain ⟨u',r',q⟩:=hl j y v' e1 e2 e3
    refine ⟨u',r',?_⟩
    rcases q with q | ⟨k,c',e,z'⟩
    ·exact .inl q
    ·refine .inr ⟨k,c',e,z'.sameBut hs ?_⟩
     rintro rfl
     exact hj (qRA hN e1 (I.ok.inj _ _ _ e hc ▸ hi))
  ·by_cases hcc:c'=c
   ·subst hcc;exact ⟨_,hc'⟩
   ·obtain ⟨w2,z2⟩:=I.cell y c' e
    exact ⟨w2,z2.sameBut hs hcc⟩
  ·obtain ⟨e,n,ne,nf,d⟩:=I.pin p hp
   refine ⟨(hs.2 p.1 ?_).trans e,n,ne,nf,d⟩
   intro q
   rw [q,hoc] at e
   have q':oc=p.2:=Option.some.inj e
   exact d w' (by rw [← q'];exact hocd)
theorem qLW {M:Model} {A:Around} {E:Value→Shared→Prop} {i:Nat} {x:Str} {v:V} {u:Value} {Q:Unit→Shared→Prop} (I:Inv X pins σ H s) (hN:X.N.Nodup) (hi:X.N[i]?=some x) (hx:Loc X.env.scope x) (r:RelV v u)
  (h:∀ s',Inv X pins (σ.set i (some v)) H s'→Q () s') (hf:X.fn x=true∨X.env.scope.names.lookup x=some .local:=by first | exact .inl rfl | exact .inr rfl | assumption):wpAny M A (storeName X.env x u) Q E s:=
 qNB I hN hi hx r (fun s' I' _=>h s' I') hf
theorem Inv.call' {s':Shared} {ch:List Addr} (I:Inv X pins σ H s) (ho:s'.os=s.os) (u:Un (frs X.stack) ch H H' s.heap s'.heap) (hok:HOk X.prog X.w H' s'.heap) (hg:AllBare s'.gens)
  (hch:∀ b ∈ ch,(b ∈ X.ex∨X.s₀.heap.objs.size≤b)∧b ≠ X.env.locals∧(∀ x c,X.env.cells.lookup x=some c→c ≠ b)∧∀ p ∈ X.pn++pins,p.1 ≠ b):Inv X pins σ H' s':=by
 obtain ⟨h',g',d',t',o'⟩:=s'
 have e:o'=s.os:=ho
 subst e
 exact I.call (g':=g') (t':=t') (d':=d') u hok hg hch
end
abbrev XK:=Value→Option Addr→Hp→Prop
abbrev St:=List (Option V)
abbrev VK:=V→Hp→Prop
abbrev TE:=St→Hp→VK→Prop
abbrev TT:=St→Hp→(Bool→Hp→Prop)→Prop
abbrev TA:=St→Hp→(List V→Hp→Prop)→Prop
structure Ends where
 nx:St→Hp→Prop
 rt:VK
 bk:St→Hp→Prop:=fun _ _=>False
 ct:St→Hp→Prop:=fun _ _=>False
abbrev TS:=Ends→St→Hp→Prop
def EP (X:Cx) (pins:List (Addr × Obj)) (σ:St) (Q:VK) (u:Value) (s':Shared):Prop:=∃ v H',Inv X pins σ H' s'∧RelV v u∧Q v H'
def TP (X:Cx) (pins:List (Addr × Obj)) (σ:St) (Q:Bool→Hp→Prop) (b:Bool) (s':Shared):Prop:=∃ H',Inv X pins σ H' s'∧Q b H'
def AP (X:Cx) (pins:List (Addr × Obj)) (σ:St) (Q:List V→Hp→Prop) (us:List Value) (s':Shared):Prop:=∃ vs H',Inv X pins σ H' s'∧Vals vs us∧Q vs H'
def SP (X:Cx) (pins:List (Addr × Obj)) (D:Ends) (f:Flow) (s':Shared):Prop:=
 match f with
 | .next=>∃ σ' H',Inv X pins σ' H' s'∧D.nx σ' H'
 | .brk=>∃ σ' H',Inv X pins σ' H' s'∧D.bk σ' H'
 | .cont=>∃ σ' H',Inv X pins σ' H' s'∧D.ct σ' H'
 | .ret u=>∃ v σ' H',Inv X pins σ' H' s'∧RelV v u∧D.rt v H'
def PE (X:Cx) (e:Expr) (t:TE):Prop:=
 ∀ (pins:List (Addr × Obj)) (s:Shared) (σ:St) (H:Hp) (Q:VK),Inv X pins σ H s→t σ H Q→wpAny (model X.prog X.w) X.A (eval e X.env) (EP X pins σ Q) X.xe s
def PT (X:Cx) (e:Expr) (t:TT):Prop:=
 ∀ (pins:List (Addr × Obj)) (s:Shared) (σ:St) (H:Hp) (Q:Bool→Hp→Prop),Inv X pins σ H s→t σ H Q→wpAny (model X.prog X.w) X.A (isTrue e X.env (eval e X.env)) (TP X pins σ Q) X.xe s
def PW (X:Cx) (e:Expr) (t:TT):Prop:=
 ∀ (whole:Sem Value) (pins:List (Addr × Obj)) (s:Shared) (σ:St) (H:Hp) (Q:Bool→Hp→Prop),Inv X pins σ H s→t σ H Q→wpAny (model X.prog X.w) X.A (isTrue e X.env whole) (TP X pins σ Q) X.xe s
theorem PW.pt {X:Cx} {e:Expr} {t:TT} (h:PW X e t):PT X e t:=h _
def PA (X:Cx) (es:List Expr) (t:TA):Prop:=
 ∀ (pos:Pos) (pins:List (Addr × Obj)) (s:Shared) (σ:St) (H:Hp) (Q:List V→Hp→Prop),Inv X pins σ H s→t σ H Q→wpAny (model X.prog X.w) X.A (spliced (backTo pos (starEach es X.env))) (AP X pins σ Q) X.xe s
def PS (X:Cx) (st:Stmt) (t:TS):Prop:=
 ∀ (pins:List (Addr × Obj)) (s:Shared) (σ:St) (H:Hp) (D:Ends),Inv X pins σ H s→t D σ H→wpAny (model X.prog X.w) X.A (exec st X.env) (SP X pins D) X.xe s
def PSs (X:Cx) (st:List Stmt) (t:TS):Prop:=
 ∀ (pins:List (Addr × Obj)) (s:Shared) (σ:St) (H:Hp) (D:Ends),Inv X pins σ H s→t D σ H→wpAny (model X.prog X.w) X.A (execs st X.env) (SP X pins D) X.xe s
theorem thn {α:Type} {t:Sem α} {Q Q':α→Shared→Prop} {M:Model} {A:Around} {E:Value→Shared→Prop} {s:Shared} (h:wpAny M A t Q E s) (hQ:∀ a s,Q a s→Q' a s):wpAny M A t Q' E s:=wpAny_mono h hQ fun _ _ x=>x
end L2
namespace L2
open PySem PySem.Spec PyProof.Rows
section
variable {X:Cx}
theorem bin {a b:Expr} {ta tb:TE} (ha:PE X a ta) (hb:PE X b tb) {pins:List (Addr × Obj)} {s:Shared} {σ:St} {H:Hp} {R:V→V→Hp→Prop} (I:Inv X pins σ H s) (h:ta σ H fun x H1=>tb σ H1 fun y H2=>R x y H2)
  {α:Type} {Q:α→Shared→Prop} {f:Value→Value→Sem α}
  (hf:∀ v u s2 x y H2,Inv X pins σ H2 s2→RelV x v→RelV y u→R x y H2→wpAny (model X.prog X.w) X.A (f v u) Q X.xe s2) :
  wpAny (model X.prog X.w) X.A (eval a X.env) (fun v s₁=>wpAny (model X.prog X.w) X.A (eval b X.env) (fun u s₂=>wpAny (model X.prog X.w) X.A (f v u) Q X.xe s₂) X.xe s₁) X.xe s:=by
 refine thn (ha pins s σ H _ I h) fun v s1 ⟨x,H1,I1,r1,q1⟩=>?_
 refine thn (hb pins s1 σ H1 _ I1 q1) fun u s2 ⟨y,H2,I2,r2,q2⟩=>?_
 exact hf v u s2 x y H2 I2 r1 r2 q2
def tVar (i:Nat):TE:=fun σ H Q=>∃ v,σ[i]?=some (some v)∧Q v H
def tC (v:V):TE:=fun _ H Q=>Q v H
theorem qa0 {i:Nat} {x:Str} {pos:Pos} (hN:X.N[i]?=some x) (hv:Vis X.env.scope x) (hd:(x == ("__debug__" : Str))=false:=by decide) (hcd:(x == ("__classdict__" : Str))=false:=by decide):PE X (.Name x pos) (tVar i):=by
 intro pins s σ H Q I h
 obtain ⟨v,e,h⟩:=h
 obtain ⟨m,hn,hl⟩:=I.loc
 obtain ⟨u,r,l⟩:=hl i x v hN e hv
 have fin:EP X pins σ Q u s:=⟨v,H,I,r,h⟩
 rcases l with ⟨hk,hm⟩ | ⟨hk,c,hc,hcell⟩
 ·exact wpAny_Name (wpAny_loadName_local I.ok.kind hk hn hm fin) hd
 ·rcases hk with hk | hk
  ·exact wpAny_Name (wpAny_loadName_cell I.ok.kind hk hc hcell fin) hd
  ·exact wpAny_Name (wpAny_loadName_free I.ok.kind hk hc hcell fin hcd) hd
theorem qA9 {i j pos}:PE X (.Constant (.int i) j pos) (tC (.int i)):=fun _ _ _ H _ I h=>wpAny_Constant_int ⟨.int i,H,I.tok _,⟨_,rfl⟩,h⟩
theorem qDJ {b j pos}:PE X (.Constant (.bool b) j pos) (tC (.bl b)):=fun _ _ _ H _ I h=>Constant_bool ⟨.bl b,H,I,rfl,h⟩
theorem qJR {x j pos}:PE X (.Constant (.str x) j pos) (tC (.str x)):=fun _ _ _ H _ I h=>Calls.Constant_str ⟨.str x,H,I.tok _,⟨_,rfl⟩,h⟩
def Gl (X:Cx) (x:Str):Prop:=X.env.kindOf x=some .globalImplicit
theorem qYQ {E:Value→Shared→Prop} {pins:List (Addr × Obj)} {s:Shared} {σ:St} {H:Hp} {x:Str} {u:Value} {pos:Pos} {Q:Value→Shared→Prop} (I:Inv X pins σ H s) (hg:Gl X x) (hm:X.mg x=some u) (h:Q u s)
  (hd:(x == ("__debug__" : Str))=false:=by decide):wpAny (model X.prog X.w) X.A (eval (.Name x pos) X.env) Q E s:=
 Calls.Name_function_global I.ok.kind hg (Calls.loadGlobal_global (by rw [I.ok.glob];exact I.mod.glob.keeps I.bk) hm h) hd
theorem qGK {E:Value→Shared→Prop} {pins:List (Addr × Obj)} {s:Shared} {σ:St} {H:Hp} {x:Str} {u:Value} {pos:Pos} {Q:Value→Shared→Prop} (I:Inv X pins σ H s) (hg:Gl X x) (hm:X.mg x=none) (hv:bootBuiltins x=some u) (h:Q u s)
  (hn:x ≠ "__name__":=by decide) (hd:(x == ("__debug__" : Str))=false:=by decide):wpAny (model X.prog X.w) X.A (eval (.Name x pos) X.env) Q E s:=by
 obtain ⟨mb,h1,h2⟩:=I.mod.blt
 exact Calls.Name_function_global I.ok.kind hg (Calls.loadGlobal_builtin (by rw [I.ok.glob];exact I.mod.glob.keeps I.bk) hm (by rw [I.ok.blt];exact h1.keeps I.bk) ((h2 x hn).trans hv) h) hd
theorem qDW {x:Str} {v:V} {u:Value} {pos:Pos} (hg:Gl X x) (hm:X.mg x=none) (hv:bootBuiltins x=some u) (r:RelV v u) (hn:x ≠ "__name__":=by decide) (hd:(x == ("__debug__" : Str))=false:=by decide):PE X (.Name x pos) (tC v):=
 fun _ _ _ H _ I h=>qGK I hg hm hv ⟨v,H,I,r,h⟩ hn hd
variable {a b:Expr} {ta tb:TE} {pos:Pos}
def PC (X:Cx) (op:CmpOp) (a b:Expr) (t:TE):Prop:=
 ∀ (pins:List (Addr × Obj)) (s:Shared) (σ:St) (H:Hp) (Q:VK),Inv X pins σ H s→t σ H Q→
  wpAny (model X.prog X.w) X.A (eval a X.env) (fun v s₁=>wpAny (model X.prog X.w) X.A (eval b X.env) (fun u s₂=>wpAny (model X.prog X.w) X.A (compareOp op v u) (EP X pins σ Q) X.xe s₂) X.xe s₁) X.xe s
theorem qRB (b:Expr) {op:CmpOp} (h:op ≠ .In) (h2:op ≠ .NotIn):behindInMarks op b=false:=by
 have e1:(op == CmpOp.In)=false:=by cases op <;> first | rfl | exact absurd rfl h
 have e2:(op == CmpOp.NotIn)=false:=by cases op <;> first | rfl | exact absurd rfl h2
 cases b <;> simp [behindInMarks,e1,e2]
def tIsN (ta:TE):TE:=fun σ H Q=>ta σ H fun x H1=>Q (.bl (decide (x=.non))) H1
theorem RelV.none_iff {x:V} {v:Value} (r:RelV x v):(v == Value.none)=decide (x=.non):=by
 cases x with
 | non=>cases r;rfl
 | bl _=>cases r;rfl
 | int _=>obtain ⟨t,rfl⟩:=r;rfl
 | str _=>obtain ⟨t,rfl⟩:=r;rfl
 | byt _=>obtain ⟨t,rfl⟩:=r;rfl
 | flt _=>obtain ⟨t,rfl⟩:=r;rfl
 | ref _=>cases r;rfl
 | ty _=>cases r;rfl
theorem qXH {j pos'} (ha:PE X a ta):PC X .Is a (.Constant .none j pos') (tIsN ta):=by
 intro pins s σ H Q I h
 refine thn (ha pins s σ H _ I h) fun v s1 ⟨x,H1,I1,r1,q1⟩=>?_
 exact Constant_none (is_none_gen ⟨.bl _,H1,I1,by rw [r1.none_iff];rfl,q1⟩)
def tB (t:TE):TT:=fun σ H Q=>t σ H fun x H1=>∃ c,x=.bl c∧Q c H1
theorem qa2 {op:CmpOp} {t:TE} (h:PC X op a b t) (h1:behindInMarks op b=false:=by first | exact qRB _ (by decide) (by decide) | rfl):PE X (.Compare a [op] [b] pos) t:=fun pins s σ H Q I hw=>wpAny_Compare1 (h pins s σ H Q I hw) h1
theorem qXB {op:CmpOp} {t:TE} (h:PC X op a b t) (h1:behindInMarks op b=false:=by first | exact qRB _ (by decide) (by decide) | rfl):PT X (.Compare a [op] [b] pos) (tB t):=by
 intro pins s σ H Q I hw
 refine wpAny_isTrue_Compare1 (thn (h pins s σ H _ I hw) fun v s1 h1=>thn h1 fun u s2 h2=>thn h2 fun c s3 ⟨x,H1,I1,r1,q1⟩=>?_) h1
 obtain ⟨d,rfl,q⟩:=q1
 cases r1
 exact wpAny_truthy_bool ⟨H1,I1,q⟩
theorem qCS {e:Expr} {t:TE} (h:PE X e t) (he:∀ whole,isTrue e X.env whole=(do let v ← whole;standAt e.pos;holding [v] (truthy v)):=by intro _;rfl):PT X e (tB t):=by
 intro pins s σ H Q I hw
 refine isTrue_plain (thn (h pins s σ H _ I hw) fun v s1 ⟨x,H1,I1,r1,q1⟩=>?_) (he _)
 obtain ⟨d,rfl,q⟩:=q1
 cases r1
 exact wpAny_truthy_bool ⟨H1,I1,q⟩
variable {tA tB':TT} {rest:List Expr}
def tAnd (t u:TT):TT:=fun σ H Q=>t σ H fun c H1=>if c=true then u σ H1 Q else Q false H1
def tOr (t u:TT):TT:=fun σ H Q=>t σ H fun c H1=>if c=true then Q true H1 else u σ H1 Q
def tNot (t:TT):TT:=fun σ H Q=>t σ H fun c H1=>Q (!c) H1
theorem qM5 (ha:PT X a tA):PW X (.BoolOp .And [a] pos) tA:=by
 intro wh pins s σ H Q I h
 refine isTrue_and (thn (ha pins s σ H Q I h) fun c s1 e=>?_)
 cases c with
 | true=>exact isTrue_and_nil e
 | false=>exact e
theorem qJO (ha:PT X a tA):PW X (.BoolOp .Or [a] pos) tA:=by
 intro wh pins s σ H Q I h
 refine isTrue_or (thn (ha pins s σ H Q I h) fun c s1 e=>?_)
 cases c with
 | false=>exact isTrue_or_nil e
 | true=>exact e
theorem qQW (ha:PT X a tA) (hb:PW X (.BoolOp .And (b::rest) pos) tB'):PW X (.BoolOp .And (a::b::rest) pos) (tAnd tA tB'):=by
 intro wh pins s σ H Q I h
 refine isTrue_and (thn (ha pins s σ H _ I h) fun c s1 ⟨H1,I1,q1⟩=>?_)
 cases c with
 | true=>exact hb wh pins s1 σ H1 Q I1 q1
 | false=>exact ⟨H1,I1,q1⟩
theorem qPI (ha:PT X a tA) (hb:PW X (.BoolOp .Or (b::rest) pos) tB'):PW X (.BoolOp .Or (a::b::rest) pos) (tOr tA tB'):=by
 intro wh pins s σ H Q I h
 refine isTrue_or (thn (ha pins s σ H _ I h) fun c s1 ⟨H1,I1,q1⟩=>?_)
 cases c with
 | true=>exact ⟨H1,I1,q1⟩
 | false=>exact hb wh pins s1 σ H1 Q I1 q1
theorem qGJ (ha:PT X a tA):PT X (.UnaryOp .Not a pos) (tNot tA):=by
 intro pins s σ H Q I h
 exact isTrue_not (ha pins s σ H (fun c H1=>Q (!c) H1) I h)
def qbB (ta tb:TE):TE:=fun σ H Q=>ta σ H fun x H1=>∃ c,x=.bl c∧if c=true then tb σ H1 Q else Q (.bl false) H1
def qb4 (ta:TE):TE:=fun σ H Q=>ta σ H fun x H1=>∃ c,x=.bl c∧Q (.bl (!c)) H1
theorem qR4 {op} {t:TE} (h:PE X a t):PE X (.BoolOp op [a] pos) t:=fun pins s σ H Q I hw=>BoolOp_one (h pins s σ H Q I hw)
theorem qNO (ha:PE X a ta) (hb:PE X (.BoolOp .And (b::rest) pos) tb):PE X (.BoolOp .And (a::b::rest) pos) (qbB ta tb):=by
 intro pins s σ H Q I h
 refine BoolOp_and (thn (ha pins s σ H _ I h) fun v s1 ⟨x,H1,I1,r1,q1⟩=>?_)
 obtain ⟨c,rfl,q1⟩:=q1
 cases r1
 refine wpAny_truthy_bool ?_
 cases c with
 | true=>exact hb pins s1 σ H1 Q I1 q1
 | false=>exact ⟨.bl false,H1,I1,rfl,q1⟩
theorem qa1 (ha:PE X a ta):PE X (.UnaryOp .Not a pos) (qb4 ta):=by
 intro pins s σ H Q I h
 refine UnaryOp_ (thn (ha pins s σ H _ I h) fun v s1 ⟨x,H1,I1,r1,q1⟩=>?_)
 obtain ⟨c,rfl,q1⟩:=q1
 cases r1
 exact not_of (wpAny_truthy_bool ⟨.bl (!c),H1,I1,rfl,q1⟩)
end
end L2
namespace L2
open PySem PySem.Spec PyProof.Rows
def SqL (K:PySem.W.Frag) (H:Hp) (a:Addr) (xs:List V):Prop:=
 Rd H a (.lst xs)∨
  ∃ (o:Obj) (its:Array Value) (n:Nat),K.lookup a=some o∧o.cls=.type "list"∧o.dict=none∧o.data=.seq its n∧its.size≤sizeLine∧Vals xs its.toList
def SqT (K:PySem.W.Frag) (H:Hp) (a:Addr) (xs:List V):Prop:=
 Rd H a (.tup xs)∨
  ∃ (o:Obj) (its:Array Value) (n:Nat),K.lookup a=some o∧o.cls=.type "tuple"∧o.data=.seq its n∧its.size≤sizeLine∧Vals xs its.toList
def absV:Value→Option V
 | .none=>some .non
 | .bool b=>some (.bl b)
 | .int i _=>some (.int i)
 | .str x _=>some (.str x)
 | .bytes b _=>some (.byt b)
 | .float b _=>some (.flt b)
 | .ref a=>some (.ref a)
 | .type n=>some (.ty n)
 | _=>none
theorem RelV.abs {x:V} {u:Value} (r:RelV x u):absV u=some x:=by
 cases x with
 | non=>cases r;rfl
 | bl _=>cases r;rfl
 | int _=>obtain ⟨t,rfl⟩:=r;rfl
 | str _=>obtain ⟨t,rfl⟩:=r;rfl
 | byt _=>obtain ⟨t,rfl⟩:=r;rfl
 | flt _=>obtain ⟨t,rfl⟩:=r;rfl
 | ref _=>cases r;rfl
 | ty _=>cases r;rfl
theorem RelV.inj {x y:V} {u:Value} (r:RelV x u) (q:RelV y u):x=y:=Option.some.inj (r.abs.symm.trans q.abs)
theorem Vals.inj:∀ {xs ys:List V} {us:List Value},Vals xs us→Vals ys us→xs=ys
 | _,_,_,.nil,.nil=>rfl
 | _,_,_,.cons r t,.cons r' t'=>by rw [r.inj r',Vals.inj t t']
section
variable {X:Cx} {pins:List (Addr × Obj)} {σ:St} {H:Hp} {s:Shared} {a:Addr} {xs ys:List V}
theorem SqL.of {K:PySem.W.Frag} (h:H a=some (.lst xs)):SqL K H a xs:=.inl (.inl h)
theorem SqT.of {K:PySem.W.Frag} (h:H a=some (.tup xs)):SqT K H a xs:=.inl (.inl h)
theorem Inv.list (I:Inv X pins σ H s) (h:SqL X.K H a xs):∃ its:List Value,Vals xs its∧PlainL s.heap a its.toArray∧xs.length≤sizeLine:=by
 rcases h with h | ⟨o,its,n,hk,hc,hd,hs,hz,r⟩
 ·obtain ⟨z,its,n,r,e⟩:=h.ok I.hok
  exact ⟨its,r,⟨_,n,e,rfl,rfl,rfl⟩,z⟩
 ·refine ⟨its.toList,r,⟨o,n,I.kIn a o hk,hc,hd,by simpa using hs⟩,?_⟩
  have e:=r.length
  simp only [Array.length_toList] at e
  omega
theorem Inv.tuple (I:Inv X pins σ H s) (h:SqT X.K H a xs):∃ its:List Value,Vals xs its∧IsTup s.heap a its.toArray∧xs.length≤sizeLine:=by
 rcases h with h | ⟨o,its,n,hk,hc,hs,hz,r⟩
 ·obtain ⟨z,its,r,p⟩:=h.ok I.hok
  exact ⟨its,r,p,z⟩
 ·refine ⟨its.toList,r,⟨o,I.kIn a o hk,hc,n,by simpa using hs⟩,?_⟩
  have e:=r.length
  simp only [Array.length_toList] at e
  omega
theorem Inv.list_inj (I:Inv X pins σ H s) (h:SqL X.K H a xs) (h':SqL X.K H a ys):xs=ys:=by
 obtain ⟨its,r,⟨o,n,e,_,_,d⟩,_⟩:=I.list h
 obtain ⟨its',r',⟨o',n',e',_,_,d'⟩,_⟩:=I.list h'
 rw [e] at e';cases e'
 rw [d] at d'
 injection d' with d1 _
 have:its=its':=by simpa using congrArg Array.toList d1
 subst this
 exact r.inj r'
theorem Inv.tuple_inj (I:Inv X pins σ H s) (h:SqT X.K H a xs) (h':SqT X.K H a ys):xs=ys:=by
 obtain ⟨its,r,⟨o,e,_,n,d⟩,_⟩:=I.tuple h
 obtain ⟨its',r',⟨o',e',_,n',d'⟩,_⟩:=I.tuple h'
 rw [e] at e';cases e'
 rw [d] at d'
 injection d' with d1 _
 have:its=its':=by simpa using congrArg Array.toList d1
 subst this
 exact r.inj r'
end
abbrev Cx.wish (X:Cx) (E:Value→Shared→Prop):Cx:={ X with xe:=E }
abbrev Cx.nox (X:Cx):Cx:=X.wish fun _ _=>False
theorem Cx.Ok.wish {X:Cx} (ok:X.Ok) (E:Value→Shared→Prop):(X.wish E).Ok:=
 ⟨ok.mod,ok.kind,ok.glob,ok.blt,ok.above,ok.inj,ok.has,ok.cab,ok.hd,ok.frames,ok.stk,ok.exf,ok.bs,ok.bsz,ok.noex,ok.exfs,ok.funs,ok.frf⟩
theorem Cx.Ok.unwish {X:Cx} {E:Value→Shared→Prop} (ok:(X.wish E).Ok):X.Ok:=
 ⟨ok.mod,ok.kind,ok.glob,ok.blt,ok.above,ok.inj,ok.has,ok.cab,ok.hd,ok.frames,ok.stk,ok.exf,ok.bs,ok.bsz,ok.noex,ok.exfs,ok.funs,ok.frf⟩
section
variable {X:Cx} {pins:List (Addr × Obj)} {σ:St} {H:Hp} {s:Shared} {E:Value→Shared→Prop}
theorem Inv.wish (I:Inv X pins σ H s) (E:Value→Shared→Prop):Inv (X.wish E) pins σ H s:=⟨I.ok.wish E,I.os,I.bare,I.base,I.loc,I.cell,I.free,I.freeC,I.pin,I.hok,I.len⟩
theorem Inv.unwish (I:Inv (X.wish E) pins σ H s):Inv X pins σ H s:=⟨I.ok.unwish,I.os,I.bare,I.base,I.loc,I.cell,I.free,I.freeC,I.pin,I.hok,I.len⟩
theorem SP.unwish {D:Ends} {f:Flow} {s':Shared} (h:SP (X.wish E) pins D f s'):SP X pins D f s':=by
 cases f with
 | next=>obtain ⟨σ',H',I,q⟩:=h;exact ⟨σ',H',I.unwish,q⟩
 | brk=>obtain ⟨σ',H',I,q⟩:=h;exact ⟨σ',H',I.unwish,q⟩
 | cont=>obtain ⟨σ',H',I,q⟩:=h;exact ⟨σ',H',I.unwish,q⟩
 | ret u=>obtain ⟨v,σ',H',I,r,q⟩:=h;exact ⟨v,σ',H',I.unwish,r,q⟩
theorem PSs.nox {st:List Stmt} {t:TS} (h:PSs X.nox st t):PSs X st t:=fun pins s σ H D I hw=>
 wpAny_mono (h pins s σ H D (I.wish _) hw) (fun _ _ q=>q.unwish) fun _ _ z=>False.elim z
end
section
variable {X:Cx} {st:Stmt} {rest:List Stmt} {t u:TS} {e:Expr} {te:TE} {pos:Pos}
def qb5:TS:=fun D σ H=>D.nx σ H
def tSeq (t u:TS):TS:=fun D σ H=>t { D with nx:=u D } σ H
theorem qAT:PSs X [] qb5:=fun _ _ σ H _ I h=>wpAny_execs_nil ⟨σ,H,I,h⟩
theorem qA4 (h1:PS X st t) (h2:PSs X rest u):PSs X (st::rest) (tSeq t u):=by
 intro pins s σ H D I h
 refine wpAny_execs_cons (thn (h1 pins s σ H { D with nx:=u D } I h) fun f s1 q=>?_)
 cases f with
 | next=>
  obtain ⟨σ',H',I',q⟩:=q
  exact h2 pins s1 σ' H' D I' q
 | ret v=>exact q
 | brk=>exact q
 | cont=>exact q
theorem qA6 (h1:PS X st t):PSs X [st] t:=by
 intro pins s σ H D I h
 refine wpAny_execs_cons (thn (h1 pins s σ H D I h) fun f s1 q=>?_)
 cases f with
 | next=>exact wpAny_execs_nil q
 | ret v=>exact q
 | brk=>exact q
 | cont=>exact q
theorem Inv.quiet {pins:List (Addr × Obj)} {σ:St} {H:Hp} {s:Shared} (I:Inv X pins σ H s):interactive X.env=false:=by simp [interactive,I.ok.kind]
def qb7 (te:TE):TS:=fun D σ H=>te σ H fun _ H1=>D.nx σ H1
theorem qCO (he:PE X e te) (hs:swapsWith e none pos.line X.env=pure false:=by rfl):PS X (.Expr e pos) (qb7 te):=by
 intro pins s σ H D I h
 exact wpAny_Expr_any (thn (he pins s σ H _ I h) fun v s1 ⟨x,H1,I1,r1,q1⟩=>⟨σ,H1,I1,q1⟩) I.quiet hs
def tRet (te:TE):TS:=fun D σ H=>te σ H D.rt
theorem qAL (he:PE X e te):PS X (.Return (some e) pos) (tRet te):=by
 intro pins s σ H D I h
 exact wpAny_Return_some (thn (he pins s σ H _ I h) fun v s1 ⟨x,H1,I1,r1,q1⟩=>⟨x,σ,H1,I1,r1,q1⟩)
def tIfS (c:TT) (t u:TS):TS:=fun D σ H=>c σ H fun b H1=>if b=true then t D σ H1 else u D σ H1
theorem qCU {c:Expr} {a b:List Stmt} {tc:TT} (hc:PT X c tc) (ha:PSs X a t) (hb:PSs X b u):PS X (.If c a b pos) (tIfS tc t u):=by
 intro pins s σ H D I h
 refine wpAny_If (thn (hc pins s σ H _ I h) fun d s1 ⟨H1,I1,q1⟩=>?_)
 cases d with
 | true=>exact ha pins s1 σ H1 D I1 q1
 | false=>exact hb pins s1 σ H1 D I1 q1
def qZL:TS:=fun _ _ _=>False
theorem qTL {sts:List Stmt}:PSs X sts qZL:=fun _ _ _ _ _ _ h=>h.elim
end
abbrev TG:=V→St→Hp→(St→Hp→Prop)→Prop
abbrev TGs:=List V→St→Hp→(St→Hp→Prop)→Prop
def PG (X:Cx) (target:Expr) (t:TG):Prop:=
 ∀ (pins:List (Addr × Obj)) (s:Shared) (σ:St) (H:Hp) (v:V) (u:Value) (Q:St→Hp→Prop),Inv X pins σ H s→RelV v u→t v σ H Q→
  wpAny (model X.prog X.w) X.A (assign target X.env u) (fun _ s'=>∃ σ' H',Inv X pins σ' H' s'∧Q σ' H') X.xe s
def PGs (X:Cx) (ts:List Expr) (t:TGs):Prop:=
 ∀ (pins:List (Addr × Obj)) (s:Shared) (σ:St) (H:Hp) (vs:List V) (us:List Value) (Q:St→Hp→Prop),Inv X pins σ H s→Vals vs us→t vs σ H Q→
  wpAny (model X.prog X.w) X.A (assignInOrder ((assignEach ts X.env).map (·.2)) us) (fun _ s'=>∃ σ' H',Inv X pins σ' H' s'∧Q σ' H') X.xe s
abbrev TSet:=V→V→V→Hp→(Hp→Prop)→Prop
def PSet (X:Cx) (t:TSet):Prop:=
 ∀ (pins:List (Addr × Obj)) (s:Shared) (σ:St) (H:Hp) (o i v:V) (ov iv u:Value) (Q:Hp→Prop),Inv X pins σ H s→RelV o ov→RelV i iv→RelV v u→t o i v H Q→
  wpAny (model X.prog X.w) X.A (setItem ov iv u) (fun _ s'=>∃ H',Inv X pins σ H' s'∧Q H') X.xe s
abbrev TIp:=V→V→Hp→VK→Prop
def PIp (X:Cx) (op:Operator) (t:TIp):Prop:=
 ∀ (pins:List (Addr × Obj)) (s:Shared) (σ:St) (H:Hp) (x y:V) (v u:Value) (Q:VK),Inv X pins σ H s→RelV x v→RelV y u→t x y H Q→
  wpAny (model X.prog X.w) X.A (inplaceOp op v u) (EP X pins σ Q) X.xe s
section
variable {X:Cx} {pos:Pos}
def qYX (i:Nat):TG:=fun v σ H Q=>Q (σ.set i (some v)) H
theorem qAA {i:Nat} {x:Str} (hN:X.N.Nodup) (hi:X.N[i]?=some x) (hx:Loc X.env.scope x) (hf:X.fn x=true∨X.env.scope.names.lookup x=some .local:=by first | exact .inl rfl | exact .inr rfl | assumption):PG X (.Name x pos) (qYX i):=by
 intro pins s σ H v u Q I r h
 exact wpAny_assign_Name (qLW I hN hi hx r (fun s' I'=>⟨_,H,I',h⟩) hf)
def gNil:TGs:=fun vs σ H Q=>vs=[]∧Q σ H
def qbQ (t:TG) (u:TGs):TGs:=fun vs σ H Q=>∃ v r,vs=v::r∧t v σ H fun σ' H'=>u r σ' H' Q
theorem qFJ:PGs X [] gNil:=by
 intro pins s σ H vs us Q I r h
 obtain ⟨e,h⟩:=h
 subst e
 cases r
 exact assignInOrder_nil ⟨σ,H,I,h⟩
theorem qBP {e:Expr} {es:List Expr} {t:TG} {u:TGs} (h1:PG X e t) (h2:PGs X es u)
  (hs:(assignEach (e::es) X.env).map (·.2)=assign e X.env::(assignEach es X.env).map (·.2):=by rfl):PGs X (e::es) (qbQ t u):=by
 intro pins s σ H vs us Q I r h
 obtain ⟨v,vr,e1,h⟩:=h
 subst e1
 cases r with
 | cons r rr=>
  rw [hs]
  refine assignInOrder_cons (thn (h1 pins s σ H _ _ _ I r h) fun _ s1 ⟨σ1,H1,I1,q1⟩=>?_)
  exact h2 pins s1 σ1 H1 _ _ Q I1 rr q1
def gTup (K:PySem.W.Frag) (n:Nat) (t:TGs):TG:=fun v σ H Q=>∃ a xs,v=.ref a∧SqT K H a xs∧xs.length=n∧t xs σ H Q
theorem qL5 {es:List Expr} {k:Nat} {t:TGs} {n:Nat} (hc:X.calm=true) (h:PGs X es t)
  (hn:(assignEach es X.env).length=n:=by rfl) (hst:(assignEach es X.env).findIdx? (·.1)=none:=by rfl):PG X (.Tuple es k pos) (gTup X.K n t):=by
 intro pins s σ H v u Q I r hw
 obtain ⟨a,xs,e1,hq,hl,hw⟩:=hw
 subst e1
 cases r
 obtain ⟨its,rv,ht,hz⟩:=I.tuple hq
 refine assign_Tuple_tuple (I.ok.hd hc) ht (by simp [hn,← hl,rv.length]) hst fun h' hx=>?_
 have I1:Inv X pins σ H { s with heap:=h' }:=I.kept (t':=s.toks) fun b o e=>hx b o (Nat.ne_of_lt (Heap.lt_size e)) e
 exact h pins _ σ H xs _ Q I1 (by simpa using rv) hw
def gSub (to ti:TE) (t:TSet):TG:=fun v σ H Q=>to σ H fun o H1=>ti σ H1 fun i H2=>t o i v H2 fun H3=>Q σ H3
theorem qR3 {o i:Expr} {to ti:TE} {t:TSet} (ho:PE X o to) (hi:PE X i ti) (hs:PSet X t)
  (ha:∀ v,assign (.Subscript o i pos) X.env v=(do
   let ov ← holding [v] (eval o X.env)
   let iv ← holding [v,ov] (eval i X.env)
   standAt pos
   holding [v,ov,iv] (setItem ov iv v)
   release [v,ov,iv] []):=by intro _;rfl):PG X (.Subscript o i pos) (gSub to ti t):=by
 intro pins s σ H v u Q I r h
 rw [ha]
 refine wpAny_bind (wpAny_holding (thn (ho pins s σ H _ I h) fun ov s1 ⟨x,H1,I1,r1,q1⟩=>?_))
 refine wpAny_bind (wpAny_holding (thn (hi pins s1 σ H1 _ I1 q1) fun iv s2 ⟨y,H2,I2,r2,q2⟩=>?_))
 refine wpAny_bind (wpAny_standAt (wpAny_bind (wpAny_holding (thn (hs pins s2 σ H2 x y v ov iv u _ I2 r1 r2 r q2) fun _ s3 ⟨H3,I3,q3⟩=>?_))))
 exact wpAny_release ⟨σ,H3,I3,q3⟩
def tAsg (te:TE) (g:TG):TS:=fun D σ H=>te σ H fun x H1=>g x σ H1 D.nx
theorem qNJ {tg e:Expr} {te:TE} {g:TG} (he:PE X e te) (hg:PG X tg g) (hs:swapsWithSole [tg] e pos.line X.env=pure false:=by rfl) (hw:swappedStores [tg] e X.env=pure none:=by rfl)
  (h1:(assignEach [tg] X.env).map (·.2)=[assign tg X.env]:=by rfl):PS X (.Assign [tg] e pos) (tAsg te g):=by
 intro pins s σ H D I h
 refine wpAny_Assign_stores (thn (he pins s σ H _ I h) fun v s1 ⟨x,H1,I1,r1,q1⟩=>?_) hs hw
 rw [h1]
 exact thn (hg pins s1 σ H1 x v _ I1 r1 q1) fun _ s2 q=>q
theorem qAE {i:Nat} {x:Str} {e:Expr} {te:TE} {pos':Pos} (hN:X.N.Nodup) (hi:X.N[i]?=some x) (hx:Loc X.env.scope x) (he:PE X e te) (hs:swapsWith e (some (.Name x pos')) pos.line X.env=pure false:=by rfl) (hf:X.fn x=true∨X.env.scope.names.lookup x=some .local:=by first | exact .inl rfl | exact .inr rfl | assumption) :
  PS X (.Assign [.Name x pos'] e pos) (tAsg te (qYX i)):=by
 intro pins s σ H D I h
 refine wpAny_Assign_Name (thn (he pins s σ H _ I h) fun v s1 ⟨y,H1,I1,r1,q1⟩=>?_) hs
 exact qLW I1 hN hi hx r1 (fun s2 I2=>⟨_,H1,I2,q1⟩) hf
def tAug (i:Nat) (te:TE) (ti:TIp):TS:=fun D σ H=>∃ x,σ[i]?=some (some x)∧te σ H fun y H1=>ti x y H1 fun z H2=>D.nx (σ.set i (some z)) H2
theorem qXC {i:Nat} {x:Str} {e:Expr} {te:TE} {op:Operator} {ti:TIp} {pos':Pos} (hN:X.N.Nodup) (hi:X.N[i]?=some x) (hx:Loc X.env.scope x) (he:PE X e te) (ho:PIp X op ti) (hf:X.fn x=true∨X.env.scope.names.lookup x=some .local:=by first | exact .inl rfl | exact .inr rfl | assumption) :
  PS X (.AugAssign (.Name x pos') op e pos) (tAug i te ti):=by
 intro pins s σ H D I h
 obtain ⟨v,e1,h⟩:=h
 obtain ⟨m,hn,hl⟩:=I.loc
 have vis:Vis X.env.scope x:=by rcases hx with k | k;exact .inl k;exact .inr (.inl k)
 obtain ⟨u,r,l⟩:=hl i x v hi e1 vis
 refine wpAny_AugAssign_Name ?_
 have go:wpAny (model X.prog X.w) X.A (eval e X.env) (fun w s₂=>wpAny (model X.prog X.w) X.A (inplaceOp op u w) (fun r s₃=>wpAny (model X.prog X.w) X.A (storeName X.env x r) (fun _=>SP X pins D .next) X.xe s₃) X.xe s₂) X.xe s:=by
  refine thn (he pins s σ H _ I h) fun w s1 ⟨y,H1,I1,r1,q1⟩=>?_
  refine thn (ho pins s1 σ H1 v y u w _ I1 r r1 q1) fun z s2 ⟨zv,H2,I2,r2,q2⟩=>?_
  exact qLW I2 hN hi hx r2 (fun s3 I3=>⟨_,H2,I3,q2⟩) hf
 rcases l with ⟨hk,hm⟩ | ⟨hk,c,hc,hcell⟩
 ·exact wpAny_loadName_local I.ok.kind hk hn hm go
 ·rcases hk with hk | hk
  ·exact wpAny_loadName_cell I.ok.kind hk hc hcell go
  ·rcases hx with k | k
   ·have:X.env.scope.names.lookup x=some .free:=hk
    rw [k] at this;cases this
   ·have:X.env.scope.names.lookup x=some .free:=hk
    rw [k] at this;cases this
def qbA (to ti te:TE) (tget:V→V→Hp→VK→Prop) (tip:TIp) (tset:TSet):TS:=fun D σ H=>to σ H fun o H1=>ti σ H1 fun i H2=>tget o i H2 fun x H3=>te σ H3 fun y H4=>tip x y H4 fun z H5=>tset o i z H5 fun H6=>D.nx σ H6
def PGet (X:Cx) (t:V→V→Hp→VK→Prop):Prop:=
 ∀ (pins:List (Addr × Obj)) (s:Shared) (σ:St) (H:Hp) (o i:V) (ov iv:Value) (Q:VK),Inv X pins σ H s→RelV o ov→RelV i iv→t o i H Q→
  wpAny (model X.prog X.w) X.A (getItem ov iv) (EP X pins σ Q) X.xe s
theorem qYC {o i e:Expr} {to ti te:TE} {tget:V→V→Hp→VK→Prop} {tip:TIp} {tset:TSet} {op:Operator} {tpos:Pos} (ho:PE X o to) (hi:PE X i ti) (hg:PGet X tget) (he:PE X e te) (hp:PIp X op tip) (hs:PSet X tset)
  (ha:∀ ov iv new,augStore i ov iv new=(do holding [new,ov,iv] (setItem ov iv new);release [new,ov,iv] [];pure .next):=by intros;rfl):PS X (.AugAssign (.Subscript o i tpos) op e pos) (qbA to ti te tget tip tset):=by
 intro pins s σ H D I h
 refine wpAny_AugAssign_SubscriptAny (thn (ho pins s σ H _ I h) fun ov s1 ⟨x1,H1,I1,r1,q1⟩=>?_) ha
 refine thn (hi pins s1 σ H1 _ I1 q1) fun iv s2 ⟨x2,H2,I2,r2,q2⟩=>?_
 refine thn (hg pins s2 σ H2 x1 x2 ov iv _ I2 r1 r2 q2) fun old s3 ⟨x3,H3,I3,r3,q3⟩=>?_
 refine thn (he pins s3 σ H3 _ I3 q3) fun v s4 ⟨x4,H4,I4,r4,q4⟩=>?_
 refine thn (hp pins s4 σ H4 x3 x4 old v _ I4 r3 r4 q4) fun new s5 ⟨x5,H5,I5,r5,q5⟩=>?_
 exact thn (hs pins s5 σ H5 x1 x2 x5 ov iv new _ I5 r1 r2 r5 q5) fun _ s6 ⟨H6,I6,q6⟩=>⟨σ,H6,I6,q6⟩
def ipI (f:Int→Int→Int):TIp:=fun x y H Q=>∃ i j,x=.int i∧y=.int j∧Q (.int (f i j)) H
theorem qXO:PIp X .Add (ipI fun i j=>i+j):=by
 intro pins s σ H x y v u Q I r1 r2 h
 obtain ⟨i,j,e1,e2,q⟩:=h
 subst e1;subst e2
 obtain ⟨t,rfl⟩:=r1
 obtain ⟨t',rfl⟩:=r2
 exact iadd_int ⟨.int _,H,I.tok _,⟨_,rfl⟩,q⟩
theorem qaS:PIp X .Sub (ipI fun i j=>i - j):=by
 intro pins s σ H x y v u Q I r1 r2 h
 obtain ⟨i,j,e1,e2,q⟩:=h
 subst e1;subst e2
 obtain ⟨t,rfl⟩:=r1
 obtain ⟨t',rfl⟩:=r2
 exact isub_int ⟨.int _,H,I.tok _,⟨_,rfl⟩,q⟩
end
section
variable {X:Cx} {pos:Pos}
def qZH (c:TT) (tb:TS):TS:=fun D σ H=>∃ W:Nat→St→Hp→Prop,(∃ m,W m σ H)∧∀ m σ H,W m σ H→
 c σ H fun b H1=>if b=true then ∃ N:St→Hp→Prop,(∀ σ' H',N σ' H'→∃ m',m'<m∧W m' σ' H')∧tb { D with nx:=N,ct:=N,bk:=D.nx } σ H1 else D.nx σ H1
theorem qQZ {c:Expr} {body:List Stmt} {tc:TT} {tb:TS} (hp:PassesOwn (model X.prog X.w) X.A X.env X.xe) (hc:PT X c tc) (hb:PSs X body tb):PS X (.While c body [] pos) (qZH tc tb):=by
 intro pins s σ H D I h
 obtain ⟨W,⟨m0,w0⟩,turn⟩:=h
 refine wpAny_While (codeAny_whileLoop (fun n s'=>∃ σ' H',Inv X pins σ' H' s'∧W n σ' H') ?_ m0 ⟨σ,H,I,w0⟩)
 rintro n s1 ⟨σ1,H1,I1,w1⟩
 refine wpAny_passesOwn hp (thn (hc pins s1 σ1 H1 _ I1 (turn n σ1 H1 w1)) fun b s2 ⟨H2,I2,q2⟩=>?_)
 cases b with
 | true=>
  obtain ⟨N,hN,q2⟩:=q2
  rw [if_pos rfl]
  refine wpAny_passesOwn hp (thn (hb pins s2 σ1 H2 _ I2 q2) fun f s3 q3=>?_)
  cases f with
  | next=>
   obtain ⟨σ3,H3,I3,n3⟩:=q3
   obtain ⟨m',hm,w3⟩:=hN σ3 H3 n3
   exact ⟨m',hm,σ3,H3,I3,w3⟩
  | cont=>
   obtain ⟨σ3,H3,I3,n3⟩:=q3
   obtain ⟨m',hm,w3⟩:=hN σ3 H3 n3
   exact ⟨m',hm,σ3,H3,I3,w3⟩
  | brk=>exact q3
  | ret v=>exact q3
 | false=>
  rw [if_neg Bool.false_ne_true]
  exact wpAny_execs_nil ⟨σ1,H2,I2,q2⟩
end
structure It where
 go:Nat→Hp→Prop
 yld:Nat→Hp→V→Hp→Prop
 stop:Nat→Hp→Prop
def FpOk (X:Cx) (pins:List (Addr × Obj)) (H:Hp) (b:Addr):Prop:=
 H b=none∧b ≠ X.env.locals∧b ∉ X.fs∧(b ∈ X.ex∨X.s₀.heap.objs.size≤b)∧(∀ x c,X.env.cells.lookup x=some c→c ≠ b)∧∀ p ∈ X.pn++pins,p.1 ≠ b
theorem Inv.fpOk {X:Cx} {pins:List (Addr × Obj)} {σ:St} {H H':Hp} {s:Shared} {b:Addr} (I:Inv X pins σ H s) (hb:s.heap.objs.size≤b) (hn:H' b=none):FpOk X pins H' b:=by
 refine ⟨hn,Nat.ne_of_gt (Nat.lt_of_lt_of_le I.lt hb),I.nofs hb,.inr (Nat.le_trans I.sz hb),fun x c e z=>?_,fun p hp z=>?_⟩
 ·obtain ⟨v,q⟩:=I.cell x c e
  exact absurd (Nat.lt_of_lt_of_le q.lt (by rw [z];exact hb)) (Nat.lt_irrefl _)
 ·exact absurd (Nat.lt_of_lt_of_le (Heap.lt_size (I.pin p hp).1) (by rw [z];exact hb)) (Nat.lt_irrefl _)
structure Turn (P:Program) (w:World) (K:PySem.W.Frag) (tg:Expr) (J:It) (fp:List Addr) (it:Addr) (tn:Nat→Heap→Prop):Prop where
 mem:it ∈ fp
 obj:∀ i h,tn i h→∀ b ∈ fp,∃ o,h.get? b=some o∧∀ v,o.data ≠ .cell v
 keep:∀ i h h',tn i h→(∀ b ∈ fp,∀ o,h.get? b=some o→h'.get? b=some o)→tn i h'
 item:∀ (X:Cx),X.prog=P→X.w=w→X.K=K→X.calm=true→∀ (i:Nat) (pins:List (Addr × Obj)) (s:Shared) (σ:St) (H:Hp) (E:Value→Shared→Prop),Inv X pins σ H s→(∀ b ∈ fp,FpOk X pins H b)→tn i s.heap→J.go i H→
  wpAny (model P w) X.A (pyNext (.ref it)) (fun r s1=>∃ u,r=some u∧
   wpAny (model P w) X.A (letOwnedTupleGo tg (.ref it) u) (fun _ s2=>∃ x H',Inv X pins σ H' s2∧RelV x u∧J.yld i H x H'∧tn (i+1) s2.heap∧∀ b ∈ fp,H' b=none) E s1) E s
 done:∀ (X:Cx),X.prog=P→X.w=w→X.K=K→X.calm=true→∀ (i:Nat) (pins:List (Addr × Obj)) (s:Shared) (σ:St) (H:Hp) (E:Value→Shared→Prop),Inv X pins σ H s→(∀ b ∈ fp,FpOk X pins H b)→tn i s.heap→J.stop i H→
  wpAny (model P w) X.A (pyNext (.ref it)) (fun r s1=>r=none∧Inv X pins σ H s1) E s
 self:∀ (A:Around) (i:Nat) (s:Shared) (Q:Value→Shared→Prop) (E:Value→Shared→Prop),tn i s.heap→Q (.ref it) s→wpAny (model P w) A (pyIter (.ref it)) Q E s
abbrev TI:=St→Hp→(It→Hp→Prop)→Prop
def PIE (X:Cx) (pins:List (Addr × Obj)) (σ:St) (tg:Expr) (R:It→Hp→Prop) (itv:Value) (s2:Shared):Prop:=
 ∃ (it:Addr) (fp:List Addr) (tn:Nat→Heap→Prop) (J:It) (H':Hp),itv=.ref it∧Inv X pins σ H' s2∧Turn X.prog X.w X.K tg J fp it tn∧tn 0 s2.heap∧(∀ b ∈ fp,FpOk X pins H' b)∧R J H'
def PI (X:Cx) (tg iter:Expr) (wi:TI):Prop:=
 ∀ (pins:List (Addr × Obj)) (s:Shared) (σ:St) (H:Hp) (R:It→Hp→Prop),Inv X pins σ H s→wi σ H R→
  wpAny (model X.prog X.w) X.A (eval iter X.env) (fun v s1=>wpAny (model X.prog X.w) X.A (pyIter v) (PIE X pins σ tg R) X.xe s1) X.xe s
theorem qWS {M:Model} {A:Around} {E:Value→Shared→Prop} {s:Shared} {tg:Expr} {it:Addr} {u:Value} {o:Obj} {n:String} {vs:Array Value} {Q:Unit→Shared→Prop} (ho:s.heap.get? it=some o) (hc:o.cls=.type n) (hd:o.data=.fields vs)
  (hn:["enumerate","zip","dict_itemiterator","dict_reverseitemiterator","odict_iterator","itertools.zip_longest","itertools.pairwise"].contains n=false) (hQ:Q () s):wpAny M A (letOwnedTupleGo tg (.ref it) u) Q E s:=by
 unfold letOwnedTupleGo
 cases tg <;> first
  | exact wpAny_pure hQ
  | (cases u <;> first
    | exact wpAny_pure hQ
    | (refine wpAny_bind (wpAny_load ho ?_)
       rw [hc,hd]
       show wpAny M A (if (["enumerate","zip","dict_itemiterator","dict_reverseitemiterator","odict_iterator","itertools.zip_longest","itertools.pairwise"].contains n && vs[0]? == some (rawInt _))=true then _ else _) Q E s
       rw [if_neg (by intro h;rw [hn,Bool.false_and] at h;cases h)]
       exact wpAny_pure hQ))
def Itl (K:PySem.W.Frag) (a:Addr):It:=
 ⟨fun i H=>∃ xs x,SqL K H a xs∧xs[i]?=some x,fun i H x H'=>H'=H∧∀ xs,SqL K H a xs→xs[i]?=some x,fun i H=>∃ xs,SqL K H a xs∧xs.length≤i⟩
def Itt (K:PySem.W.Frag) (a:Addr):It:=
 ⟨fun i H=>∃ xs x,SqT K H a xs∧xs[i]?=some x,fun i H x H'=>H'=H∧∀ xs,SqT K H a xs→xs[i]?=some x,fun i H=>∃ xs,SqT K H a xs∧xs.length≤i⟩
def Itr (lo:Int) (n:Nat):It:=⟨fun i _=>i<n,fun i H x H'=>H'=H∧x=.int (lo+i),fun i _=>n≤i⟩
theorem qT2 {P:Program} {w:World} {K:PySem.W.Frag} {tg:Expr} (a it:Addr):Turn P w K tg (Itl K a) [it] it (fun i h=>h.IsListIter it a i) where
 mem:=by simp
 obj:=fun i h st b hb=>by
  have e:b=it:=by simpa using hb
  subst e
  obtain ⟨o,e,c,d⟩:=st
  exact ⟨o,e,fun v z=>by rw [d] at z;cases z⟩
 keep:=fun i h h' st k=>st.at fun o e=>k it (by simp) o e
 item:=by
  intro X hP hw hK hc i pins s σ H E I hf st hg
  subst hP hw hK
  obtain ⟨xs,x,hq,hx⟩:=hg
  obtain ⟨its,rv,p,hz⟩:=I.list hq
  obtain ⟨u,hu,ru⟩:=rv.get hx
  obtain ⟨f0,f1,f2,f3,f4,f5⟩:=hf it (by simp)
  refine wpAny_pyNext_list_item st p.isList (x:=u) (by simpa using hu) fun h' st' sb=>?_
  have I1:Inv X pins σ H { s with heap:=h' }:=I.turned (t':=s.toks) (fun b o hb e=>(sb.2 b hb).trans e) f0 f1 f3 f4 f5
  obtain ⟨o,e,c,d⟩:=id st'
  exact ⟨u,rfl,qWS (s:={ s with heap:=h' }) e c d (by decide) ⟨x,H,I1,ru,⟨rfl,fun ys hy=>by rw [I.list_inj hy hq];exact hx⟩,st',fun b hb=>(hf b hb).1⟩⟩
 done:=by
  intro X hP hw hK hc i pins s σ H E I hf st hg
  subst hP hw hK
  obtain ⟨xs,hq,hx⟩:=hg
  obtain ⟨its,rv,p,hz⟩:=I.list hq
  obtain ⟨f0,f1,f2,f3,f4,f5⟩:=hf it (by simp)
  have hl:=rv.length
  exact wpAny_pyNext_list_end (I.ok.hd hc) st p.isList (by simp;omega) fun h' eb=>⟨rfl,I.turned (t':=s.toks) (fun b o hb e=>eb b o hb e) f0 f1 f3 f4 f5⟩
 self:=fun _ _ _ _ _ st h=>wpAny_pyIter_listiter st h
theorem qRW {P:Program} {w:World} {K:PySem.W.Frag} {tg:Expr} (a it:Addr):Turn P w K tg (Itt K a) [it] it (fun i h=>h.IsTupleIter it a i) where
 mem:=by simp
 obj:=fun i h st b hb=>by
  have e:b=it:=by simpa using hb
  subst e
  obtain ⟨o,e,c,d⟩:=st
  exact ⟨o,e,fun v z=>by rw [d] at z;cases z⟩
 keep:=fun i h h' st k=>st.at fun o e=>k it (by simp) o e
 item:=by
  intro X hP hw hK hc i pins s σ H E I hf st hg
  subst hP hw hK
  obtain ⟨xs,x,hq,hx⟩:=hg
  obtain ⟨its,rv,p,hz⟩:=I.tuple hq
  obtain ⟨u,hu,ru⟩:=rv.get hx
  obtain ⟨f0,f1,f2,f3,f4,f5⟩:=hf it (by simp)
  refine wpAny_pyNext_tuple_item st (show s.heap.IsTuple a its.toArray from p) (x:=u) (by simpa using hu) fun h' st' sb=>?_
  have I1:Inv X pins σ H { s with heap:=h' }:=I.turned (t':=s.toks) (fun b o hb e=>(sb.2 b hb).trans e) f0 f1 f3 f4 f5
  obtain ⟨o,e,c,d⟩:=id st'
  exact ⟨u,rfl,qWS (s:={ s with heap:=h' }) e c d (by decide) ⟨x,H,I1,ru,⟨rfl,fun ys hy=>by rw [I.tuple_inj hy hq];exact hx⟩,st',fun b hb=>(hf b hb).1⟩⟩
 done:=by
  intro X hP hw hK hc i pins s σ H E I hf st hg
  subst hP hw hK
  obtain ⟨xs,hq,hx⟩:=hg
  obtain ⟨its,rv,p,hz⟩:=I.tuple hq
  obtain ⟨f0,f1,f2,f3,f4,f5⟩:=hf it (by simp)
  have hl:=rv.length
  exact wpAny_pyNext_tuple_end (I.ok.hd hc) st (show s.heap.IsTuple a its.toArray from p) (by simp;omega) fun h' eb=>⟨rfl,I.turned (t':=s.toks) (fun b o hb e=>eb b o hb e) f0 f1 f3 f4 f5⟩
 self:=fun _ _ _ _ _ st h=>wpAny_pyIter_tupleiter st h
theorem qRX {P:Program} {w:World} {K:PySem.W.Frag} {tg:Expr} (it:Addr) (lo:Int) (n:Nat):Turn P w K tg (Itr lo n) [it] it (fun i h=>IsRangeIter h it (lo+(i:Nat) * 1) ((n:Int) - (i:Nat)) 1) where
 mem:=by simp
 obj:=fun i h st b hb=>by
  have e:b=it:=by simpa using hb
  subst e
  exact ⟨_,st,fun v z=>by
   have z':Data.fields _=Data.cell v:=z
   cases z'⟩
 keep:=fun i h h' st k=>k it (by simp) _ st
 item:=by
  intro X hP hw hK hc i pins s σ H E I hf st hg
  subst hP hw hK
  obtain ⟨f0,f1,f2,f3,f4,f5⟩:=hf it (by simp)
  have W:=Walks.range (prog:=X.prog) (w:=X.w) (I.ok.hd hc) it lo 1 n
  refine W.item i s _ _ hg st fun v h' tk hv st' kk=>?_
  obtain ⟨t,rfl⟩:=hv
  have I1:Inv X pins σ H { s with heap:=h',toks:=tk }:=I.turned (fun b o hb e=>kk b o (by simpa using hb) e) f0 f1 f3 f4 f5
  refine ⟨_,rfl,qWS (s:={ s with heap:=h',toks:=tk }) (n:="range_iterator") st' rfl rfl (by decide) ⟨.int (lo+i),H,I1,⟨t,?_⟩,⟨rfl,rfl⟩,st',fun b hb=>(hf b hb).1⟩⟩
  rw [Int.mul_one]
 done:=by
  intro X hP hw hK hc i pins s σ H E I hf st hg
  subst hP hw hK
  obtain ⟨f0,f1,f2,f3,f4,f5⟩:=hf it (by simp)
  exact wpAny_pyNext_range_end (I.ok.hd hc) st (by have:n≤i:=hg;omega) fun h' eb=>⟨rfl,I.turned (t':=s.toks) (fun b o hb e=>eb b o hb e) f0 f1 f3 f4 f5⟩
 self:=fun _ _ _ _ _ st h=>wpAny_pyIter_rangeiter st h
end L2
namespace L2
open PySem PySem.Spec PyProof.Rows
section
variable {X:Cx} {tg:Expr}
def qbO (K:PySem.W.Frag) (tl:TE):TI:=fun σ H R=>tl σ H fun x H1=>∃ a,x=.ref a∧(∃ xs,SqL K H1 a xs)∧R (Itl K a) H1
def iTup (K:PySem.W.Frag) (tl:TE):TI:=fun σ H R=>tl σ H fun x H1=>∃ a,x=.ref a∧(∃ xs,SqT K H1 a xs)∧R (Itt K a) H1
theorem qC1 {l:Expr} {tl:TE} (hl:PE X l tl):PI X tg l (qbO X.K tl):=by
 intro pins s σ H R I h
 refine thn (hl pins s σ H _ I h) fun v s1 ⟨x,H1,I1,r1,q1⟩=>?_
 obtain ⟨a,e,⟨xs,hq⟩,q⟩:=q1
 subst e
 cases r1
 obtain ⟨its,rv,p,hz⟩:=I1.list hq
 refine wpAny_pyIter_list p.isList ?_
 refine ⟨s1.heap.objs.size,[s1.heap.objs.size],_,_,H1,rfl,I1.kept (t':=s1.toks) fun b o e=>Heap.get?_push_of_some _ e,qT2 a _,⟨_,Heap.get?_push_size _ rfl,rfl,rfl⟩,fun b hb=>?_,q⟩
 have e:b=s1.heap.objs.size:=by simpa using hb
 subst e
 exact I1.fpOk (Nat.le_refl _) (I1.hok.fresh (Nat.le_refl _))
theorem qE7 {l:Expr} {tl:TE} (hl:PE X l tl):PI X tg l (iTup X.K tl):=by
 intro pins s σ H R I h
 refine thn (hl pins s σ H _ I h) fun v s1 ⟨x,H1,I1,r1,q1⟩=>?_
 obtain ⟨a,e,⟨xs,hq⟩,q⟩:=q1
 subst e
 cases r1
 obtain ⟨its,rv,p,hz⟩:=I1.tuple hq
 refine wpAny_pyIter_tuple (show s1.heap.IsTuple a its.toArray from p) ?_
 refine ⟨s1.heap.objs.size,[s1.heap.objs.size],_,_,H1,rfl,I1.kept (t':=s1.toks) fun b o e=>Heap.get?_push_of_some _ e,qRW a _,⟨_,Heap.get?_push_size _ rfl,rfl,rfl⟩,fun b hb=>?_,q⟩
 have e:b=s1.heap.objs.size:=by simpa using hb
 subst e
 exact I1.fpOk (Nat.le_refl _) (I1.hok.fresh (Nat.le_refl _))
theorem range_it {pins:List (Addr × Obj)} {σ:St} {H:Hp} {s:Shared} {R:It→Hp→Prop} {E:Value→Shared→Prop} {lo hi:Int} {t u v:Tok} {tk:Nat} (I:Inv X pins σ H s) (h1 : -(2 ^ 62)≤lo) (h2:lo<2 ^ 62) (h3 : -(2 ^ 62)≤hi) (h4:hi<2 ^ 62)
  (q:R (Itr lo (hi - lo).toNat) H):wpAny (model X.prog X.w) X.A (pyIter (.ref s.heap.objs.size)) (PIE X pins σ tg R) E { s with heap:=s.heap.push { cls:=.type "range",data:=.fields #[.int lo t,.int hi u,.int 1 v] },toks:=tk }:=by
 refine wpAny_pyIter_range (IsRange.new ..) (small_one h1 h2 h3 h4) ?_
 have I1:Inv X pins σ H { s with heap:=s.heap.push { cls:=.type "range",data:=.fields #[.int lo t,.int hi u,.int 1 v] },toks:=tk }:=I.kept fun b o e=>Heap.get?_push_of_some _ e
 refine ⟨(s.heap.push { cls:=.type "range",data:=.fields #[.int lo t,.int hi u,.int 1 v] }).objs.size,[(s.heap.push { cls:=.type "range",data:=.fields #[.int lo t,.int hi u,.int 1 v] }).objs.size],_,_,H,rfl,
  I1.kept (t':=tk) fun b o e=>Heap.get?_push_of_some _ e,qRX _ lo (hi - lo).toNat,?_,fun b hb=>?_,q⟩
 ·have e1:lo+((0:Nat):Int) * 1=lo:=by simp
  have e2:(((hi - lo).toNat:Nat):Int) - ((0:Nat):Int)=Builtin.Range.rangeSize lo hi 1:=by rw [rangeSize_one];split <;> omega
  show IsRangeIter _ _ (lo+((0:Nat):Int) * 1) ((((hi - lo).toNat:Nat):Int) - ((0:Nat):Int)) 1
  rw [e1,e2]
  exact Heap.get?_push_size _ rfl
 ·have e:b=(s.heap.push { cls:=.type "range",data:=.fields #[.int lo t,.int hi u,.int 1 v] }).objs.size:=by simpa using hb
  subst e
  exact I1.fpOk (Nat.le_refl _) (I1.hok.fresh (Nat.le_refl _))
def qbN (ta:TA):TI:=fun σ H R=>ta σ H fun vs H1=>∃ j:Int,vs=[.int j]∧-(2 ^ 62)≤j∧j<2 ^ 62∧R (Itr 0 j.toNat) H1
theorem qFI {a:Expr} {ta:TA} {p pos:Pos} (hg:Gl X "range") (hm:X.mg "range" = none) (ha:PA X [a] ta) (hs:starEach [a] X.env=[(false,eval a X.env)]:=by rfl):PI X tg (.Call (.Name "range" p) [a] [] pos) (qbN ta):=by
 intro pins s σ H R I h
 refine Call_ (qGK I hg hm boot_range (PyProof.Rows.callWith_type1 (thn (ha pos pins s σ H _ I h) fun us s1 ⟨vs,H1,I1,r1,q1⟩=>?_) hs rfl))
 obtain ⟨j,e,q1,q2,q⟩:=q1
 subst e
 cases r1 with
 | cons r rr=>
  cases rr
  obtain ⟨t,rfl⟩:=r
  exact call_range_1 (range_it I1 (by omega) (by omega) q1 q2 (by simpa using q))
def tFor (wi:TI) (g:TG) (tb:TS):TS:=fun D σ H=>wi σ H fun J H1=>∃ W:Nat→Nat→St→Hp→Prop,(∃ m,W 0 m σ H1)∧∀ i m σ H,W i m σ H→
 (J.stop i H∧D.nx σ H)∨(J.go i H∧∃ N:St→Hp→Prop,(∀ σ' H',N σ' H'→∃ m',m'<m∧W (i+1) m' σ' H')∧∀ x H',J.yld i H x H'→g x σ H' fun σ2 H2=>tb { D with nx:=N,ct:=N,bk:=D.nx } σ2 H2)
def qNM (fp:List Addr) (h:Heap):List (Addr × Obj):=fp.filterMap fun b=>(h.get? b).map fun o=>(b,o)
theorem qGF {fp:List Addr} {h:Heap} {b:Addr} {o:Obj} (hb:b ∈ fp) (e:h.get? b=some o):(b,o) ∈ qNM fp h:=List.mem_filterMap.mpr ⟨b,hb,by rw [e];rfl⟩
theorem qTX {fp:List Addr} {h:Heap} {p:Addr × Obj} (hp:p ∈ qNM fp h):p.1 ∈ fp∧h.get? p.1=some p.2:=by
 obtain ⟨b,hb,e⟩:=List.mem_filterMap.mp hp
 cases q:h.get? b with
 | none=>rw [q] at e;cases e
 | some o=>
  rw [q] at e
  have e':(b,o)=p:=Option.some.inj e
  subst e'
  exact ⟨hb,q⟩
theorem Inv.pinned {pins:List (Addr × Obj)} {σ:St} {H:Hp} {s:Shared} {fp:List Addr} (I:Inv X pins σ H s) (hf:∀ b ∈ fp,FpOk X pins H b) (ho:∀ b ∈ fp,∃ o,s.heap.get? b=some o∧∀ v,o.data ≠ .cell v):Inv X (pins++qNM fp s.heap) σ H s:=
 I.pins_of fun p hp=>(List.mem_append.mp hp).elim (fun z=>I.pin p (List.mem_append_right _ z)) fun z=>by
  obtain ⟨hb,e⟩:=qTX z
  obtain ⟨f0,f1,f2,_⟩:=hf p.1 hb
  obtain ⟨o,e',d⟩:=ho p.1 hb
  rw [e] at e';cases e'
  exact ⟨e,f0,f1,f2,d⟩
theorem Inv.unpinned {pins pl:List (Addr × Obj)} {σ:St} {H:Hp} {s:Shared} (I:Inv X (pins++pl) σ H s):Inv X pins σ H s:=I.pins_of fun p hp=>I.pin p (List.mem_append_right _ (List.mem_append_left _ hp))
theorem qBM {iter:Expr} {body:List Stmt} {wi:TI} {g:TG} {tb:TS} {pos:Pos} (hp:PassesOwn (model X.prog X.w) X.A X.env X.xe) (hc:X.calm=true) (hi:PI X tg iter wi) (hg:PG X tg g) (hb:PSs X body tb)
  (hs:∀ x,foldedSetIterable iter X.env x=pure x:=by intro _;rfl):PS X (.For tg iter body [] pos) (tFor wi g tb):=by
 intro pins s σ H D I h
 refine wpAny_For (thn (hi pins s σ H _ I h) fun v s1 h1=>thn h1 fun itv s2 h2=>?_) hs
 obtain ⟨it,fp,tn,J,H2,e,I2,T,st2,f2,W,⟨m0,w0⟩,turn⟩:=h2
 subst e
 -- what stays true of the iterator's objects through the loop
 have stat:∀ {H':Hp},(∀ b ∈ fp,H' b=none)→∀ b ∈ fp,FpOk X pins H' b:=fun hn b hb=>⟨hn b hb,(f2 b hb).2⟩
 refine codeAny_forLoop_any (fun n s'=>∃ i σ' H',Inv X pins σ' H' s'∧tn i s'.heap∧(∀ b ∈ fp,H' b=none)∧W i n σ' H') ?_ m0 ⟨0,σ,H2,I2,st2,fun b hb=>(f2 b hb).1,w0⟩
 rintro n s3 ⟨i,σ3,H3,I3,st3,fr3,w3⟩
 rcases turn i n σ3 H3 w3 with ⟨stop,qn⟩ | ⟨go,N,hN,step⟩
 ·refine wpAny_passesOwn hp (thn (T.done X rfl rfl rfl hc i pins s3 σ3 H3 X.xe I3 (stat fr3) st3 stop) fun r s4 ⟨hr,I4⟩=>?_)
  subst hr
  exact wpAny_execs_nil ⟨σ3,H3,I4,qn⟩
 ·refine wpAny_passesOwn hp (thn (T.item X rfl rfl rfl hc i pins s3 σ3 H3 X.xe I3 (stat fr3) st3 go) fun r s4 ⟨u,hr,h4⟩=>?_)
  subst hr
  refine wpAny_passesOwn hp (thn h4 fun _ s5 ⟨x,H5,I5,r5,y5,st5,fr5⟩=>?_)
  have I5':=I5.pinned (stat fr5) (T.obj _ _ st5)
  refine wpAny_passesOwn hp (thn (hg _ s5 σ3 H5 x u _ I5' r5 (step x H5 y5)) fun _ s6 ⟨σ6,H6,I6,q6⟩=>?_)
  refine wpAny_passesOwn hp (thn (hb _ s6 σ6 H6 _ I6 q6) fun f s7 q7=>?_)
  have again:∀ {σ7:St} {H7:Hp},Inv X (pins++qNM fp s5.heap) σ7 H7 s7→N σ7 H7→∃ m,m<n∧∃ i σ' H',Inv X pins σ' H' s7∧tn i s7.heap∧(∀ b ∈ fp,H' b=none)∧W i m σ' H':=fun {σ7 H7} I7 n7=>by
   obtain ⟨m',hm,w7⟩:=hN σ7 H7 n7
   refine ⟨m',hm,i+1,σ7,H7,I7.unpinned,T.keep _ _ _ st5 fun b hb o e=>(I7.pin (b,o) (List.mem_append_right _ (List.mem_append_right _ (qGF hb e)))).1,fun b hb=>?_,w7⟩
   obtain ⟨o,e,d⟩:=T.obj _ _ st5 b hb
   exact (I7.pin (b,o) (List.mem_append_right _ (List.mem_append_right _ (qGF hb e)))).2.1
  cases f with
  | next=>obtain ⟨σ7,H7,I7,n7⟩:=q7;exact again I7 n7
  | cont=>obtain ⟨σ7,H7,I7,n7⟩:=q7;exact again I7 n7
  | brk=>obtain ⟨σ7,H7,I7,q7⟩:=q7;exact ⟨σ7,H7,I7.unpinned,q7⟩
  | ret v=>obtain ⟨x7,σ7,H7,I7,r7,q7⟩:=q7;exact ⟨x7,σ7,H7,I7.unpinned,r7,q7⟩
end
theorem qCR {K:PySem.W.Frag} {a:Addr} {xs:List V} {g:TG} {tb:TS} {D:Ends} {σ:St} {H:Hp} (Pv:Nat→St→Hp→Prop) (h0:Pv 0 σ H) (hl:∀ i σ H,i≤xs.length→Pv i σ H→SqL K H a xs)
  (hs:∀ i x σ H,xs[i]?=some x→Pv i σ H→g x σ H fun σ2 H2=>tb { D with nx:=Pv (i+1),ct:=Pv (i+1),bk:=D.nx } σ2 H2) (hd:∀ σ H,Pv xs.length σ H→D.nx σ H) :
  ∃ W:Nat→Nat→St→Hp→Prop,(∃ m,W 0 m σ H)∧∀ i m σ H,W i m σ H→
   ((Itl K a).stop i H∧D.nx σ H)∨((Itl K a).go i H∧∃ N:St→Hp→Prop,(∀ σ' H',N σ' H'→∃ m',m'<m∧W (i+1) m' σ' H')∧∀ x H',(Itl K a).yld i H x H'→g x σ H' fun σ2 H2=>tb { D with nx:=N,ct:=N,bk:=D.nx } σ2 H2):=by
 refine ⟨fun i m σ H=>m=xs.length - i∧i≤xs.length∧Pv i σ H,⟨xs.length,by simp,Nat.zero_le _,h0⟩,?_⟩
 rintro i m σ H ⟨rfl,hi,p⟩
 have q:=hl i σ H hi p
 by_cases hlt:i<xs.length
 ·refine .inr ⟨⟨xs,xs[i],q,by simp [hlt]⟩,Pv (i+1),fun σ' H' p'=>⟨xs.length - (i+1),by omega,rfl,hlt,p'⟩,fun x H' y=>?_⟩
  obtain ⟨e,y⟩:=y
  subst e
  exact hs i x σ _ (y xs q) p
 ·have e:i=xs.length:=by omega
  subst e
  exact .inl ⟨⟨xs,q,Nat.le_refl _⟩,hd σ H p⟩
theorem qF4 {K:PySem.W.Frag} {a:Addr} {xs:List V} {g:TG} {tb:TS} {D:Ends} {σ:St} {H:Hp} (Pv:Nat→St→Hp→Prop) (h0:Pv 0 σ H) (hl:∀ i σ H,i≤xs.length→Pv i σ H→SqT K H a xs)
  (hs:∀ i x σ H,xs[i]?=some x→Pv i σ H→g x σ H fun σ2 H2=>tb { D with nx:=Pv (i+1),ct:=Pv (i+1),bk:=D.nx } σ2 H2) (hd:∀ σ H,Pv xs.length σ H→D.nx σ H) :
  ∃ W:Nat→Nat→St→Hp→Prop,(∃ m,W 0 m σ H)∧∀ i m σ H,W i m σ H→
   ((Itt K a).stop i H∧D.nx σ H)∨((Itt K a).go i H∧∃ N:St→Hp→Prop,(∀ σ' H',N σ' H'→∃ m',m'<m∧W (i+1) m' σ' H')∧∀ x H',(Itt K a).yld i H x H'→g x σ H' fun σ2 H2=>tb { D with nx:=N,ct:=N,bk:=D.nx } σ2 H2):=by
 refine ⟨fun i m σ H=>m=xs.length - i∧i≤xs.length∧Pv i σ H,⟨xs.length,by simp,Nat.zero_le _,h0⟩,?_⟩
 rintro i m σ H ⟨rfl,hi,p⟩
 have q:=hl i σ H hi p
 by_cases hlt:i<xs.length
 ·refine .inr ⟨⟨xs,xs[i],q,by simp [hlt]⟩,Pv (i+1),fun σ' H' p'=>⟨xs.length - (i+1),by omega,rfl,hlt,p'⟩,fun x H' y=>?_⟩
  obtain ⟨e,y⟩:=y
  subst e
  exact hs i x σ _ (y xs q) p
 ·have e:i=xs.length:=by omega
  subst e
  exact .inl ⟨⟨xs,q,Nat.le_refl _⟩,hd σ H p⟩
theorem qKC {lo:Int} {n:Nat} {g:TG} {tb:TS} {D:Ends} {σ:St} {H:Hp} (Pv:Nat→St→Hp→Prop) (h0:Pv 0 σ H)
  (hs:∀ i σ H,i<n→Pv i σ H→g (.int (lo+i)) σ H fun σ2 H2=>tb { D with nx:=Pv (i+1),ct:=Pv (i+1),bk:=D.nx } σ2 H2) (hd:∀ σ H,Pv n σ H→D.nx σ H) :
  ∃ W:Nat→Nat→St→Hp→Prop,(∃ m,W 0 m σ H)∧∀ i m σ H,W i m σ H→
   ((Itr lo n).stop i H∧D.nx σ H)∨((Itr lo n).go i H∧∃ N:St→Hp→Prop,(∀ σ' H',N σ' H'→∃ m',m'<m∧W (i+1) m' σ' H')∧∀ x H',(Itr lo n).yld i H x H'→g x σ H' fun σ2 H2=>tb { D with nx:=N,ct:=N,bk:=D.nx } σ2 H2):=by
 refine ⟨fun i m σ H=>m=n - i∧i≤n∧Pv i σ H,⟨n,by simp,Nat.zero_le _,h0⟩,?_⟩
 rintro i m σ H ⟨rfl,hi,p⟩
 by_cases hlt:i<n
 ·refine .inr ⟨hlt,Pv (i+1),fun σ' H' p'=>⟨n - (i+1),by omega,rfl,hlt,p'⟩,fun x H' y=>?_⟩
  obtain ⟨e,y⟩:=y
  subst e y
  exact hs i σ _ hlt p
 ·have e:i=n:=by omega
  subst e
  exact .inl ⟨Nat.le_refl _,hd σ H p⟩
end L2
namespace L2
open PySem PySem.Spec PyProof.Rows
abbrev R2:=V→V→Hp→VK→Prop
def OpR (X:Cx) (f:Value→Value→Sem Value) (r:R2):Prop:=
 ∀ (pins:List (Addr × Obj)) (s:Shared) (σ:St) (H:Hp) (x y:V) (v u:Value) (Q:VK),Inv X pins σ H s→RelV x v→RelV y u→r x y H Q→
  wpAny (model X.prog X.w) X.A (f v u) (EP X pins σ Q) X.xe s
def UnR (X:Cx) (f:Value→Sem Value) (r:V→Hp→VK→Prop):Prop:=
 ∀ (pins:List (Addr × Obj)) (s:Shared) (σ:St) (H:Hp) (x:V) (v:Value) (Q:VK),Inv X pins σ H s→RelV x v→r x H Q→
  wpAny (model X.prog X.w) X.A (f v) (EP X pins σ Q) X.xe s
def qFC (X:Cx) (f:Value) (r:List V→Hp→VK→Prop):Prop:=
 ∀ (pins:List (Addr × Obj)) (s:Shared) (σ:St) (H:Hp) (xs:List V) (us:List Value) (Q:VK),Inv X pins σ H s→Vals xs us→r xs H Q→
  wpAny (model X.prog X.w) X.A (call f us) (EP X pins σ Q) X.xe s
def TruR (X:Cx) (r:V→Hp→(Bool→Hp→Prop)→Prop):Prop:=
 ∀ (pins:List (Addr × Obj)) (s:Shared) (σ:St) (H:Hp) (x:V) (v:Value) (Q:Bool→Hp→Prop),Inv X pins σ H s→RelV x v→r x H Q→
  wpAny (model X.prog X.w) X.A (truthy v) (TP X pins σ Q) X.xe s
def tOp (r:R2) (ta tb:TE):TE:=fun σ H Q=>ta σ H fun x H1=>tb σ H1 fun y H2=>r x y H2 Q
def tUn (r:V→Hp→VK→Prop) (ta:TE):TE:=fun σ H Q=>ta σ H fun x H1=>r x H1 Q
def rI (C:Int→Int→Prop) (g:Int→Int→V):R2:=fun x y H Q=>∃ i j,x=.int i∧y=.int j∧C i j∧Q (g i j) H
def rI0 (g:Int→Int→V):R2:=fun x y H Q=>∃ i j,x=.int i∧y=.int j∧Q (g i j) H
def rU (g:Int→V):V→Hp→VK→Prop:=fun x H Q=>∃ i,x=.int i∧Q (g i) H
section
variable {X:Cx} {a b c:Expr} {ta tb tc:TE} {pos:Pos}
theorem binT (ha:PE X a ta) (hb:PE X b tb) {pins:List (Addr × Obj)} {s:Shared} {σ:St} {H:Hp} {R:V→V→Hp→Prop} (I:Inv X pins σ H s)
  (h:ta σ H fun x H1=>tb σ H1 fun y H2=>R x y H2) {Q:Value→Shared→Prop} {f:Value→Value→Sem Value}
  (hf:∀ v u s2 x y H2,Inv X pins σ H2 s2→RelV x v→RelV y u→R x y H2→wpAny (model X.prog X.w) X.A (f v u) Q X.xe s2) :
  wpAny (model X.prog X.w) X.A (eval a X.env) (fun v s₁=>wpAny (model X.prog X.w) X.A (eval b X.env) (fun u s₂=>wpAny (model X.prog X.w) X.A (f v u) Q X.xe s₂) X.xe s₁) X.xe s:=by
 refine thn (ha pins s σ H _ I h) fun v s1 ⟨x,H1,I1,r1,q1⟩=>?_
 refine thn (hb pins s1 σ H1 _ I1 q1) fun u s2 ⟨y,H2,I2,r2,q2⟩=>?_
 exact hf v u s2 x y H2 I2 r1 r2 q2
theorem qAU {op:Operator} {r:R2} (ho:OpR X (binaryOp op) r) (ha:PE X a ta) (hb:PE X b tb):PE X (.BinOp a op b pos) (tOp r ta tb):=by
 intro pins s σ H Q I h
 exact wpAny_BinOp (binT ha hb I h fun v u s2 x y H2 I2 rx ry q=>ho pins s2 σ H2 x y v u Q I2 rx ry q)
theorem qNN {op:UnaryOp} {r:V→Hp→VK→Prop} (ho:UnR X (unaryOp op) r) (ha:PE X a ta):PE X (.UnaryOp op a pos) (tUn r ta):=by
 intro pins s σ H Q I h
 exact UnaryOp_ (thn (ha pins s σ H _ I h) fun v s1 ⟨x,H1,I1,r1,q1⟩=>ho pins s1 σ H1 x v Q I1 r1 q1)
theorem opI {f:Value→Value→Sem Value} {C:Int→Int→Prop} {g:Int→Int→Int}
  (rule:∀ (i j:Int) (t u:Tok) (s:Shared) (Q:Value→Shared→Prop) (E:Value→Shared→Prop),C i j→Q (.int (g i j) s.toks) { s with toks:=s.toks+1 }→wpAny (model X.prog X.w) X.A (f (.int i t) (.int j u)) Q E s) :
  OpR X f (rI C fun i j=>.int (g i j)):=by
 intro pins s σ H x y v u Q I rx ry h
 obtain ⟨i,j,rfl,rfl,hc,q⟩:=h
 obtain ⟨t,rfl⟩:=rx
 obtain ⟨t',rfl⟩:=ry
 exact rule i j t t' s _ _ hc ⟨.int (g i j),H,I.tok _,⟨_,rfl⟩,q⟩
theorem opI0 {f:Value→Value→Sem Value} {g:Int→Int→Int}
  (rule:∀ (i j:Int) (t u:Tok) (s:Shared) (Q:Value→Shared→Prop) (E:Value→Shared→Prop),Q (.int (g i j) s.toks) { s with toks:=s.toks+1 }→wpAny (model X.prog X.w) X.A (f (.int i t) (.int j u)) Q E s) :
  OpR X f (rI0 fun i j=>.int (g i j)):=by
 intro pins s σ H x y v u Q I rx ry h
 obtain ⟨i,j,rfl,rfl,q⟩:=h
 obtain ⟨t,rfl⟩:=rx
 obtain ⟨t',rfl⟩:=ry
 exact rule i j t t' s _ _ ⟨.int (g i j),H,I.tok _,⟨_,rfl⟩,q⟩
theorem opB0 {f:Value→Value→Sem Value} {g:Int→Int→Bool}
  (rule:∀ (i j:Int) (t u:Tok) (s:Shared) (Q:Value→Shared→Prop) (E:Value→Shared→Prop),Q (.bool (g i j)) s→wpAny (model X.prog X.w) X.A (f (.int i t) (.int j u)) Q E s) :
  OpR X f (rI0 fun i j=>.bl (g i j)):=by
 intro pins s σ H x y v u Q I rx ry h
 obtain ⟨i,j,rfl,rfl,q⟩:=h
 obtain ⟨t,rfl⟩:=rx
 obtain ⟨t',rfl⟩:=ry
 exact rule i j t t' s _ _ ⟨.bl (g i j),H,I,rfl,q⟩
def CDiv (i j:Int):Prop:=0<j∧j<1073741824
def CPow (i j:Int):Prop:=0≤j∧j≤1000000∧i.natAbs<2 ^ 64
def CMul (i j:Int):Prop:=(-(2 ^ 64)<i∧i<2 ^ 64)∨(-(2 ^ 64)<j∧j<2 ^ 64)
theorem CMul.ok {i j:Int} (h:CMul i j):IntMulOk i j:=by
 rcases h with ⟨h1,h2⟩ | ⟨h1,h2⟩
 ·exact .of_left (intBits_le_64 h1 h2)
 ·exact .of_right (intBits_le_64 h1 h2)
theorem qDC:OpR X (binaryOp .Add) (rI0 fun i j=>.int (i+j)):=opI0 fun _ _ _ _ _ _ _ q=>add_int q
theorem qFK:OpR X (binaryOp .Sub) (rI0 fun i j=>.int (i - j)):=opI0 fun _ _ _ _ _ _ _ q=>sub_int q
theorem qJW:OpR X (binaryOp .Mult) (rI CMul fun i j=>.int (i * j)):=opI fun _ _ _ _ _ _ _ hc q=>mul_int q hc.ok
theorem qYG:OpR X (binaryOp .FloorDiv) (rI CDiv fun i j=>.int (i / j)):=opI fun i j _ _ _ _ _ hc q=>by
 have h1:(0:Int)<j:=hc.1
 have h2:j<1073741824:=hc.2
 exact floordiv_int (by omega) (by rw [Int.fdiv_eq_ediv_of_nonneg i (by omega)];exact q) (.inl (PyProof.noPylong_small (by omega)))
theorem qL9:OpR X (binaryOp .Mod) (rI (fun _ j=>0<j) fun i j=>.int (i % j)):=opI fun i j _ _ _ _ _ hc q=>by
 have h1:(0:Int)<j:=hc
 exact mod_int' (by omega) (by rw [Int.fmod_eq_emod_of_nonneg i (by omega)];exact q)
theorem qa5:OpR X (binaryOp .Pow) (rI CPow fun i j=>.int (i ^ j.toNat)):=opI fun _ _ _ _ _ _ _ hc q=>pow_int_small hc.1 hc.2.1 hc.2.2 q
theorem unI {f:Value→Sem Value} {g:Int→Int}
  (rule:∀ (i:Int) (t:Tok) (s:Shared) (Q:Value→Shared→Prop) (E:Value→Shared→Prop),Q (.int (g i) s.toks) { s with toks:=s.toks+1 }→wpAny (model X.prog X.w) X.A (f (.int i t)) Q E s) :
  UnR X f (rU fun i=>.int (g i)):=by
 intro pins s σ H x v Q I rx h
 obtain ⟨i,rfl,q⟩:=h
 obtain ⟨t,rfl⟩:=rx
 exact rule i t s _ _ ⟨.int (g i),H,I.tok _,⟨_,rfl⟩,q⟩
theorem qII:UnR X (unaryOp .USub) (rU fun i=>.int (-i)):=unI fun _ _ _ _ _ q=>neg_int q
end
def scal:V→V→Bool
 | .non,.non=>true | .non,.int _=>true | .int _,.non=>true | .non,.bl _=>true | .bl _,.non=>true | .non,.str _=>true | .str _,.non=>true
 | .int _,.int _=>true | .bl _,.bl _=>true | .str _,.str _=>true | .byt _,.byt _=>true
 | .int _,.str _=>true | .str _,.int _=>true | .bl _,.str _=>true | .str _,.bl _=>true
 | _,_=>false
def rEq:R2:=fun x y H Q=>scal x y=true∧Q (.bl (decide (x=y))) H
def rNe:R2:=fun x y H Q=>scal x y=true∧Q (.bl (!decide (x=y))) H
theorem qV2 {i j:Int}:decide (V.int i=V.int j)=(i == j):=by
 rw [Bool.eq_iff_iff]
 simp
theorem qXQ {i j:Bool}:decide (V.bl i=V.bl j)=(i == j):=by
 rw [Bool.eq_iff_iff]
 simp
theorem qV1 {i j:Str}:decide (V.str i=V.str j)=(i == j):=by
 rw [Bool.eq_iff_iff]
 simp
theorem qV3 {i j:Array UInt8}:decide (V.byt i=V.byt j)=(i.toList == j.toList):=by
 rw [Bool.eq_iff_iff]
 cases i
 cases j
 simp
section
variable {X:Cx} {a b c:Expr} {ta tb tc:TE} {pos:Pos}
theorem qBD {pins:List (Addr × Obj)} {σ:St} {H:Hp} {s:Shared} {Q:VK} {k k':Bool} (I:Inv X pins σ H s) (q:Q (.bl k) H) (e:k=k'):EP X pins σ Q (.bool k') s:=by
 subst e
 exact ⟨.bl k,H,I,rfl,q⟩
theorem qIS:OpR X (compareOp .Eq) rEq:=by
 intro pins s σ H x y v u Q I rx ry h
 obtain ⟨hs,q⟩:=h
 cases x with
 | non=>
  cases rx
  cases y with
  | non=>cases ry;exact PySem.EqNone.eq_none_none (qBD I q (by simp))
  | bl j=>cases ry;exact PySem.EqNone.eq_none_bool (qBD I q (by simp))
  | int j=>obtain ⟨t',rfl⟩:=ry;exact PySem.EqNone.eq_none_int (qBD I q (by simp))
  | str j=>obtain ⟨t',rfl⟩:=ry;exact PySem.EqNone.eq_none_str (qBD I q (by simp))
  | _=>exact absurd (show false=true from hs) Bool.false_ne_true
 | bl i=>
  cases rx
  cases y with
  | non=>cases ry;exact PySem.EqNone.eq_bool_none (qBD I q (by simp))
  | bl j=>cases ry;exact eq_bool (qBD I q qXQ)
  | str j=>obtain ⟨t',rfl⟩:=ry;exact PySem.EqMixed.eq_bool_str (qBD I q (by simp))
  | _=>exact absurd (show false=true from hs) Bool.false_ne_true
 | int i=>
  obtain ⟨t,rfl⟩:=rx
  cases y with
  | non=>cases ry;exact PySem.EqNone.eq_int_none (qBD I q (by simp))
  | int j=>obtain ⟨t',rfl⟩:=ry;exact eq_int (qBD I q qV2)
  | str j=>obtain ⟨t',rfl⟩:=ry;exact PySem.EqMixed.eq_int_str (qBD I q (by simp))
  | _=>exact absurd (show false=true from hs) Bool.false_ne_true
 | str i=>
  obtain ⟨t,rfl⟩:=rx
  cases y with
  | non=>cases ry;exact PySem.EqNone.eq_str_none (qBD I q (by simp))
  | bl j=>cases ry;exact PySem.EqMixed.eq_str_bool (qBD I q (by simp))
  | int j=>obtain ⟨t',rfl⟩:=ry;exact PySem.EqMixed.eq_str_int (qBD I q (by simp))
  | str j=>obtain ⟨t',rfl⟩:=ry;exact eq_str (qBD I q qV1)
  | _=>exact absurd (show false=true from hs) Bool.false_ne_true
 | byt i=>
  obtain ⟨t,rfl⟩:=rx
  cases y with
  | byt j=>obtain ⟨t',rfl⟩:=ry;exact PySem.W.eq_bytes (qBD I q qV3)
  | _=>exact absurd (show false=true from hs) Bool.false_ne_true
 | _=>cases y <;> exact absurd (show false=true from hs) Bool.false_ne_true
theorem qS9:OpR X (compareOp .NotEq) rNe:=by
 intro pins s σ H x y v u Q I rx ry h
 obtain ⟨hs,q⟩:=h
 cases x with
 | non=>
  cases rx
  cases y with
  | non=>cases ry;exact PySem.EqNone.ne_none_none (qBD I q (by simp))
  | bl j=>cases ry;exact PySem.EqNone.ne_none_bool (qBD I q (by simp))
  | int j=>obtain ⟨t',rfl⟩:=ry;exact PySem.EqNone.ne_none_int (qBD I q (by simp))
  | str j=>obtain ⟨t',rfl⟩:=ry;exact PySem.EqNone.ne_none_str (qBD I q (by simp))
  | _=>exact absurd (show false=true from hs) Bool.false_ne_true
 | bl i=>
  cases rx
  cases y with
  | non=>cases ry;exact PySem.EqNone.ne_bool_none (qBD I q (by simp))
  | bl j=>cases ry;exact ne_bool (qBD I q (congrArg not qXQ))
  | str j=>obtain ⟨t',rfl⟩:=ry;exact PySem.EqMixed.ne_bool_str (qBD I q (by simp))
  | _=>exact absurd (show false=true from hs) Bool.false_ne_true
 | int i=>
  obtain ⟨t,rfl⟩:=rx
  cases y with
  | non=>cases ry;exact PySem.EqNone.ne_int_none (qBD I q (by simp))
  | int j=>obtain ⟨t',rfl⟩:=ry;exact ne_int (qBD I q (congrArg not qV2))
  | str j=>obtain ⟨t',rfl⟩:=ry;exact PySem.EqMixed.ne_int_str (qBD I q (by simp))
  | _=>exact absurd (show false=true from hs) Bool.false_ne_true
 | str i=>
  obtain ⟨t,rfl⟩:=rx
  cases y with
  | non=>cases ry;exact PySem.EqNone.ne_str_none (qBD I q (by simp))
  | bl j=>cases ry;exact PySem.EqMixed.ne_str_bool (qBD I q (by simp))
  | int j=>obtain ⟨t',rfl⟩:=ry;exact PySem.EqMixed.ne_str_int (qBD I q (by simp))
  | str j=>obtain ⟨t',rfl⟩:=ry;exact ne_str (qBD I q (congrArg not qV1))
  | _=>exact absurd (show false=true from hs) Bool.false_ne_true
 | byt i=>
  obtain ⟨t,rfl⟩:=rx
  cases y with
  | byt j=>obtain ⟨t',rfl⟩:=ry;exact PySem.W.ne_bytes (qBD I q (congrArg not qV3))
  | _=>exact absurd (show false=true from hs) Bool.false_ne_true
 | _=>cases y <;> exact absurd (show false=true from hs) Bool.false_ne_true
theorem qW4:OpR X (compareOp .Lt) (rI0 fun i j=>.bl (decide (i<j))):=opB0 fun _ _ _ _ _ _ _ q=>lt_int q
theorem qa6:OpR X (compareOp .LtE) (rI0 fun i j=>.bl (decide (i≤j))):=opB0 fun _ _ _ _ _ _ _ q=>le_int q
theorem qYF:OpR X (compareOp .GtE) (rI0 fun i j=>.bl (decide (j≤i))):=opB0 fun _ _ _ _ _ _ _ q=>ge_int q
theorem qB9 (b:Expr) {op:CmpOp} (h:op ≠ .In:=by decide) (h2:op ≠ .NotIn:=by decide):behindInMarks op b=false:=by
 have e1:(op == CmpOp.In)=false:=by cases op <;> first | rfl | exact absurd rfl h
 have e2:(op == CmpOp.NotIn)=false:=by cases op <;> first | rfl | exact absurd rfl h2
 cases b <;> simp [behindInMarks,e1,e2]
theorem qEK {op:CmpOp} {r:R2} (ho:OpR X (compareOp op) r) (ha:PE X a ta) (hb:PE X b tb) (hm:behindInMarks op b=false):PE X (.Compare a [op] [b] pos) (tOp r ta tb):=by
 intro pins s σ H Q I h
 exact wpAny_Compare1 (binT ha hb I h fun v u s2 x y H2 I2 rx ry q=>ho pins s2 σ H2 x y v u Q I2 rx ry q) hm
def qb2 (t:TE):TT:=fun σ H Q=>t σ H fun x H'=>∃ k,x=.bl k∧Q k H'
theorem qB3 {op:CmpOp} {r:R2} (ho:OpR X (compareOp op) r) (ha:PE X a ta) (hb:PE X b tb) (hm:behindInMarks op b=false):PT X (.Compare a [op] [b] pos) (qb2 (tOp r ta tb)):=by
 intro pins s σ H Q I h
 refine wpAny_isTrue_Compare1 (thn (ha pins s σ H _ I h) fun v s1 ⟨x,H1,I1,r1,q1⟩=>thn (hb pins s1 σ H1 _ I1 q1) fun u s2 ⟨y,H2,I2,r2,q2⟩=>
  thn (ho pins s2 σ H2 x y v u _ I2 r1 r2 q2) fun c s3 ⟨z,H3,I3,r3,k,e,q3⟩=>?_) hm
 subst e
 cases r3
 exact wpAny_truthy_bool ⟨H3,I3,q3⟩
def TruV (K:PySem.W.Frag) (x:V) (H:Hp) (k:Bool):Prop:=
 match x with
 | .non=>k=false
 | .bl b=>k=b
 | .int i=>k=(i != 0)
 | .str y=>y.length≤sizeLine∧k=((y.length:Int) != 0)
 | .byt y=>y.size≤sizeLine∧k=((y.size:Int) != 0)
 | .ref p=>(∃ xs,SqL K H p xs∧k=!xs.isEmpty)∨(∃ xs,SqT K H p xs∧k=!xs.isEmpty)∨∃ kvs,H p=some (.dK kvs)∧k=!kvs.isEmpty
 | _=>False
theorem qSK {κ:Type} {kvs:List (κ × V)} {vs:List (κ × Value)} (r:KV kvs vs):(!vs.isEmpty)=!kvs.isEmpty:=by
 cases r <;> rfl
theorem qLG {xs:List V} {its:List Value} (r:Vals xs its):(!its.toArray.isEmpty)=!xs.isEmpty:=by
 cases r <;> simp
theorem qLC:(sizeLine:Nat)<2 ^ 63:=by rw [sizeLine_eq];decide
theorem qZG:TruR X (fun x H Q=>∃ k,TruV X.K x H k∧Q k H):=by
 intro pins s σ H x v Q I rx h
 obtain ⟨k,e,q⟩:=h
 have hl:=qLC
 have hs:sizeLine=16777216:=sizeLine_eq
 cases x with
 | non=>
  cases rx
  have e':k=false:=e
  subst e'
  exact truthy_none ⟨H,I,q⟩
 | bl b=>
  cases rx
  have e':k=b:=e
  subst e'
  exact wpAny_truthy_bool ⟨H,I,q⟩
 | int i=>
  obtain ⟨t,rfl⟩:=rx
  have e':k=(i != 0):=e
  subst e'
  exact PySem.P.truthy_int ⟨H,I,q⟩
 | str y=>
  obtain ⟨t,rfl⟩:=rx
  obtain ⟨hy,e'⟩:y.length≤sizeLine∧k=((y.length:Int) != 0):=e
  subst e'
  exact PySem.P.truthy_str (by omega) ⟨H,I.tok _,q⟩
 | byt y=>
  obtain ⟨t,rfl⟩:=rx
  obtain ⟨hy,e'⟩:y.size≤sizeLine∧k=((y.size:Int) != 0):=e
  subst e'
  exact PySem.W.truthy_bytes (by omega) ⟨H,I.tok _,q⟩
 | ref p=>
  cases rx
  have e':(∃ xs,SqL X.K H p xs∧k=!xs.isEmpty)∨(∃ xs,SqT X.K H p xs∧k=!xs.isEmpty)∨∃ kvs,H p=some (.dK kvs)∧k=!kvs.isEmpty:=e
  rcases e' with ⟨xs,hx,e'⟩ | ⟨xs,hx,e'⟩ | ⟨kvs,hx,e'⟩
  ·subst e'
   obtain ⟨its,r,pl,hz⟩:=I.list hx
   have hlen:=r.length
   exact wpAny_truthy_list pl.isList (by simp only [List.size_toArray];omega) ⟨H,I.tok _,by rw [qLG r];exact q⟩
  ·subst e'
   obtain ⟨its,r,pl,hz⟩:=I.tuple hx
   have hlen:=r.length
   exact truthy_tuple pl (by simp only [List.size_toArray];omega) ⟨H,I.tok _,by rw [qLG r];exact q⟩
  ·subst e'
   obtain ⟨hz,hS,vs,r,m⟩:kvs.length≤sizeLine∧(p == sysModules)=false∧∃ vs,KV kvs vs∧s.heap.DictOf (qB1 X.prog X.w) p vs:=I.hok p _ hx
   have hlen:kvs.length=vs.length:=Paired.length r
   exact wpAny_truthy_dict hS m (by omega) ⟨H,I.tok _,by rw [qSK r];exact q⟩
 | _=>exact (show False from e).elim
theorem qVX (ha:PE X a ta) (he:∀ whole,isTrue a X.env whole=(do let v ← whole;standAt a.pos;holding [v] (truthy v))) :
  PT X a (fun σ H Q=>ta σ H fun x H'=>∃ k,TruV X.K x H' k∧Q k H'):=by
 intro pins s σ H Q I h
 exact isTrue_plain (thn (ha pins s σ H _ I h) fun v s1 ⟨x,H1,I1,r1,q1⟩=>qZG pins s1 σ H1 x v Q I1 r1 q1) (he _)
theorem qEY {x:V} {us:List Value} (r:Vals [x] us):∃ u,us=[u]∧RelV x u:=by
 cases r with
 | cons r1 r2=>cases r2;exact ⟨_,rfl,r1⟩
theorem qPD {x y:V} {us:List Value} (r:Vals [x,y] us):∃ u w',us=[u,w']∧RelV x u∧RelV y w':=by
 cases r with
 | cons r1 r2=>
  cases r2 with
  | cons r3 r4=>cases r4;exact ⟨_,_,rfl,r1,r3⟩
theorem qVA (hc:X.calm=true):qFC X (.builtin "max") (fun xs H Q=>∃ i j,xs=[.int i,.int j]∧Q (.int (if j > i then j else i)) H):=by
 intro pins s σ H xs us Q I r h
 obtain ⟨i,j,rfl,q⟩:=h
 obtain ⟨u,w',rfl,⟨t,rfl⟩,⟨t',rfl⟩⟩:=qPD r
 refine max_two_ints (I.ok.hd hc) fun h' tk k=>⟨_,H,I.kept k,?_,q⟩
 by_cases hj:j > i
 ·rw [if_pos hj,if_pos hj];exact ⟨_,rfl⟩
 ·rw [if_neg hj,if_neg hj];exact ⟨_,rfl⟩
theorem qOW (hc:X.calm=true):qFC X (.builtin "min") (fun xs H Q=>∃ i j,xs=[.int i,.int j]∧Q (.int (if j<i then j else i)) H):=by
 intro pins s σ H xs us Q I r h
 obtain ⟨i,j,rfl,q⟩:=h
 obtain ⟨u,w',rfl,⟨t,rfl⟩,⟨t',rfl⟩⟩:=qPD r
 refine min_two_ints (I.ok.hd hc) fun h' tk k=>⟨_,H,I.kept k,?_,q⟩
 by_cases hj:j<i
 ·rw [if_pos hj,if_pos hj];exact ⟨_,rfl⟩
 ·rw [if_neg hj,if_neg hj];exact ⟨_,rfl⟩
theorem qVB:qFC X (.type "int") (fun xs H Q=>(∃ i,xs=[.int i]∧Q (.int i) H)∨∃ k,xs=[.bl k]∧Q (.int (if k then 1 else 0)) H):=by
 intro pins s σ H xs us Q I r h
 rcases h with ⟨i,rfl,q⟩ | ⟨k,rfl,q⟩
 ·obtain ⟨u,rfl,t,rfl⟩:=qEY r
  exact call_int_int ⟨.int i,H,I,⟨_,rfl⟩,q⟩
 ·obtain ⟨u,rfl,r1⟩:=qEY r
  cases r1
  exact call_int_bool ⟨.int (if k then 1 else 0),H,I.tok _,⟨_,rfl⟩,q⟩
theorem qQ9:qFC X (.builtin "divmod") (fun xs H Q=>∃ i j,xs=[.int i,.int j]∧CDiv i j∧∀ p,H p=none→Q (.ref p) (upd H p (.tup [.int (i / j),.int (i % j)]))):=by
 intro pins s σ H xs us Q I r h
 obtain ⟨i,j,rfl,⟨h1,h2⟩,q⟩:=h
 obtain ⟨u,w',rfl,⟨t,rfl⟩,⟨t',rfl⟩⟩:=qPD r
 refine divmod_int (by omega) ?_ (.inl (PyProof.noPylong_small (by omega)))
 rw [Int.fdiv_eq_ediv_of_nonneg i (by omega),Int.fmod_eq_emod_of_nonneg i (by omega)]
 have hn:H s.heap.objs.size=none:=I.hok.fresh (Nat.le_refl _)
 refine ⟨.ref s.heap.objs.size,_,?_,rfl,q _ hn⟩
 refine I.laid (fun b o e=>Heap.get?_push_of_some _ e) (Nat.le_refl _) ⟨by simp only [List.length_cons,List.length_nil];rw [sizeLine_eq];decide,[.int (i / j) s.toks,.int (i % j) (s.toks+1)],.cons ⟨_,rfl⟩ (.cons ⟨_,rfl⟩ .nil),?_⟩
 exact ⟨_,Heap.get?_push_size s.heap rfl,rfl,0,rfl⟩
end
end L2
namespace L2
open PySem PySem.Spec PyProof.Rows
structure ObjM (h:Heap) (x dx C:Addr) (mA:Str→Option Value):Prop where
 obj:h.get? x=some (PySem.W.instObj C dx)
 ns:h.Ns1 dx mA
 ne:dx ≠ x
theorem qUA {h:Heap} {dx:Addr} {mA:Str→Option Value} (n:h.Ns1 dx mA):∃ od,h.get? dx=some od∧∀ name,PySem.W.lookIn name od=some (mA name):=by
 obtain ⟨o,es,ep,ho,hd,hk,_,hm⟩:=n
 refine ⟨o,ho,fun name=>?_⟩
 have e:=hm name
 unfold nsFind findBy at e
 rw [← Array.find?_toList] at e
 unfold PySem.W.lookIn
 rw [hd]
 dsimp only
 split
 ·rename_i y q
  rw [q] at e
  exact congrArg some e
 ·rename_i q
  rw [q] at e
  have a:es.toList.any (·.refKey)=false:=by
   rw [List.any_eq_false]
   intro y hy
   obtain ⟨z,t,hkey⟩:=hk y (Array.mem_toList_iff.mp hy)
   simp [DictEntry.refKey,hkey]
  have a':¬ es.toList.any (·.refKey)=true:=by rw [a];exact Bool.false_ne_true
  rw [if_neg a']
  exact congrArg some e
theorem ObjM.look {h:Heap} {x dx C:Addr} {mA:Str→Option Value} (I:ObjM h x dx C mA):∃ od,PySem.W.InstAt h x (PySem.W.instObj C dx) C (some od)∧∀ name,PySem.W.lookIn name od=some (mA name):=
 let ⟨od,ho,hl⟩:=qUA I.ns
 ⟨od,⟨I.obj,rfl,rfl,ho⟩,hl⟩
section
variable {prog:Program} {w:World} {A:Around} {E:Value→Shared→Prop} {s:Shared} {K:PySem.W.Frag} {x dx C f:Addr} {mA:Str→Option Value} {name:Str} {v:Value}
end
theorem RelO.some_of {v:V} {o:Option Value} (r:RelO (some v) o):∃ u,o=some u∧RelV v u:=by
 cases o with
 | none=>exact (show False from r).elim
 | some u=>exact ⟨u,rfl,r⟩
section
variable {P:Program} {w:World} {H H':Hp} {h h':Heap} {a C dx:Addr} {fs fs':List (Str × V)}
theorem qYW (hok:HOk P w H h) (e:H a=some (.ins C dx fs)):∃ mA,ObjM h a dx C mA∧(∀ f,RelO (fs.lookup f) (mA f))∧PySem.Within mA (fs.map (·.1))∧fs.length≤1000∧H dx=some (.own a):=by
 obtain ⟨d,z,ne,ob,mA,n,r,q⟩:=(show ObjOk P w H h a (.ins C dx fs) from hok a _ e)
 exact ⟨mA,⟨ob,n,ne⟩,r,q,z,d⟩
end
structure Cls (K:PySem.W.Frag) (C:Addr):Prop where
 pg:PySem.W.plainGet K C Str.empty=true
 hd:PySem.W.hasDictIn K C=true
 po:PySem.W.plainOver K C=true
 sa:PySem.W.findIn K (.ref C) "__setattr__" = some (some (.builtin "object.__setattr__"))
theorem Cls.get {K:PySem.W.Frag} {C:Addr} (c:Cls K C) (f:Str):PySem.W.plainGet K C f=true:=c.pg
structure Con (K:PySem.W.Frag) (C:Addr) (f:Str) (v:V) (u:Value):Prop where
 at_:PySem.W.findIn K (.ref C) f=some (some u)
 rel:RelV v u
 get:PySem.W.specialIn K u "__get__" = some none
 cp:PySem.W.copiedNames.contains f=false
structure Meth (K:PySem.W.Frag) (C:Addr) (m:Str) (f:Addr):Prop where
 at_:PySem.W.findIn K (.ref C) m=some (some (.ref f))
 fn:PySem.W.isFn K (.ref f)=true
 kp:PySem.W.keepIn K (.ref f)=true
section
variable {X:Cx} {pins:List (Addr × Obj)} {σ:St} {H:Hp} {s:Shared} {a C dx:Addr} {fs:List (Str × V)} {f:Str} {v:V} {A:Around} {E:Value→Shared→Prop}
end
section
variable {X:Cx} {o e value:Expr} {f:Str} {pos pos' tpos:Pos} {ta tv:TE}
end
section
variable {X:Cx} {pins:List (Addr × Obj)} {σ:St} {H:Hp} {s:Shared} {A:Around} {E:Value→Shared→Prop} {Q:Value→Shared→Prop} {c:Value} {b:Bool}
inductive TyOf (K:PySem.W.Frag) (H:Hp):V→Value→Prop where
 | non:TyOf K H .non (.type "NoneType")
 | bl (x:Bool):TyOf K H (.bl x) (.type "bool")
 | int (i:Int):TyOf K H (.int i) (.type "int")
 | str (x:Str):TyOf K H (.str x) (.type "str")
 | flt (x:UInt64):TyOf K H (.flt x) (.type "float")
 | lst {a:Addr} {xs:List V} (e:H a=some (.lst xs)):TyOf K H (.ref a) (.type "list")
 | frz {a:Addr} {o:Obj} {xs:List V} (e:H a=some (.frz o (.lst xs))):TyOf K H (.ref a) (.type "list")
 | tup {a:Addr} {xs:List V} (e:H a=some (.tup xs)):TyOf K H (.ref a) (.type "tuple")
 | dK {a:Addr} {kvs:List (Key × V)} (e:H a=some (.dK kvs)):TyOf K H (.ref a) (.type "dict")
 | dT {a:Addr} {kvs:List (List Key × V)} (e:H a=some (.dT kvs)):TyOf K H (.ref a) (.type "dict")
 | ins {a C dx:Addr} {fs:List (Str × V)} (e:H a=some (.ins C dx fs)) (cl:Cls K C) (ha:PySem.W.findIn K (.ref C) "__class__" = some (some (.builtin "object.__class__")))
   (hn:PySem.W.specialIn K (.builtin "object.__class__") "__get__" = some (some (.builtin "getset_descriptor.__get__"))) (htk:PySem.W.takesIn K (.builtin "object.__class__")=some true)
   (hm:PySem.W.mroIn K C (.type "object")=some true):TyOf K H (.ref a) (.ref C)
theorem qUL {x:V} {u t:Value} (I:Inv X pins σ H s) (rx:RelV x u) (ty:TyOf X.K H x t) (e:PySem.W.kitOne X.K t c=some b) (h:∀ tk,Q (.bool b) { s with toks:=tk }) :
  wpAny (model X.prog X.w) A (call (.builtin "isinstance") [u,c]) Q E s:=by
 cases ty with
 | non=>cases (show u=Value.none from rx);exact PySem.W.kia_one PySem.W.kitx_none I.kIn True.intro e (fun z=>nomatch z) h
 | bl y=>cases (show u=Value.bool y from rx);exact PySem.W.kia_one PySem.W.kitx_bool I.kIn True.intro e (fun z=>nomatch z) h
 | int i=>obtain ⟨t,q⟩:=(show ∃ t,u=Value.int i t from rx);cases q;exact PySem.W.kia_one PySem.W.kitx_int I.kIn True.intro e (fun z=>nomatch z) h
 | str y=>obtain ⟨t,q⟩:=(show ∃ t,u=Value.str y t from rx);cases q;exact PySem.W.kia_one PySem.W.kitx_str I.kIn True.intro e (fun z=>nomatch z) h
 | flt y=>obtain ⟨t,q⟩:=(show ∃ t,u=Value.float y t from rx);cases q;exact PySem.W.kia_one PySem.W.kitx_float I.kIn True.intro e (fun z=>nomatch z) h
 | @lst a xs ea=>
  cases (show u=Value.ref a from rx)
  obtain ⟨_,_,n,_,h1⟩:=(show ObjOk X.prog X.w H s.heap a (.lst xs) from I.hok a _ ea)
  exact PySem.W.kia_one PySem.W.kitx_list I.kIn ⟨_,h1,rfl⟩ e (fun z=>nomatch z) h
 | @frz a ob xs ea=>
  cases (show u=Value.ref a from rx)
  obtain ⟨_,_,_,n,_,h1⟩:=(show ObjOk X.prog X.w H s.heap a (.frz ob (.lst xs)) from I.hok a _ ea)
  exact PySem.W.kia_one PySem.W.kitx_list I.kIn ⟨_,h1,rfl⟩ e (fun z=>nomatch z) h
 | @tup a xs ea=>
  cases (show u=Value.ref a from rx)
  obtain ⟨_,_,_,p⟩:=(show ObjOk X.prog X.w H s.heap a (.tup xs) from I.hok a _ ea)
  obtain ⟨o,h1,h2,_⟩:=p
  exact PySem.W.kia_one PySem.W.kitx_tuple I.kIn ⟨o,h1,h2⟩ e (fun z=>nomatch z) h
 | @dK a kvs ea=>
  cases (show u=Value.ref a from rx)
  obtain ⟨_,_,vs,_,p⟩:=(show ObjOk X.prog X.w H s.heap a (.dK kvs) from I.hok a _ ea)
  obtain ⟨o,es,ep,h1,h2,_⟩:=p
  exact PySem.W.kia_one PySem.W.kitx_dict I.kIn ⟨o,h1,h2.1⟩ e (fun z=>nomatch z) h
 | @dT a kvs ea=>
  cases (show u=Value.ref a from rx)
  obtain ⟨_,_,xs,_,o,es,ep,h1,h2,_⟩:=(show ObjOk X.prog X.w H s.heap a (.dT kvs) from I.hok a _ ea)
  exact PySem.W.kia_one PySem.W.kitx_dict I.kIn ⟨o,h1,h2.1⟩ e (fun z=>nomatch z) h
 | @ins a C dx fs ea cl ha hn htk hm=>
  cases (show u=Value.ref a from rx)
  obtain ⟨mA,O,_⟩:=qYW I.hok ea
  obtain ⟨od,J,_⟩:=O.look
  exact PySem.W.kia_one (PySem.W.kitx_own (cl.get _) cl.hd ha hn htk hm) I.kIn J e (fun z=>nomatch z) h
end
end L2
namespace L2
open PySem PySem.Spec PyProof.Rows
structure Room (k:Nat) (A:Around):Prop where
 hd:A.handled=none
 dp:A.depth+3 * k+5<recursionLimit
 un:A.units+16 * k+200<cLine
 gd:A.guards=some []
theorem Room.mono {j k:Nat} {A:Around} (r:Room k A) (h:j≤k):Room j A:=⟨r.hd,by have:=r.dp;omega,by have:=r.un;omega,r.gd⟩
theorem Room.deeper {k:Nat} {A:Around} (r:Room (k+1) A) (env:Env):Room k (A.deeper env):=
 ⟨r.hd,by have:=r.dp;show A.depth+1+3 * k+5<_;omega,by have:=r.un;show A.units+3+16 * k+200<_;omega,r.gd⟩
theorem Room.in1 {k:Nat} {A:Around} (r:Room (k+1) A):Room k A.in1:=
 ⟨r.hd,by have:=r.dp;show A.depth+3 * k+5<_;omega,by have:=r.un;show A.units+1+16 * k+200<_;omega,r.gd⟩
theorem Room.depth {k:Nat} {A:Around} (r:Room k A):A.depth<recursionLimit:=by have:=r.dp;omega
theorem Room.units {k:Nat} {A:Around} (r:Room k A):A.units+64<cLine:=by have:=r.un;omega
theorem Room.units0 {k:Nat} {A:Around} (r:Room k A):A.units<cLine:=by have:=r.un;omega
def tNil:TA:=fun _ H Q=>Q [] H
def qZO (ta:TE) (tr:TA):TA:=fun σ H Q=>ta σ H fun x H1=>tr σ H1 fun xs H2=>Q (x::xs) H2
section
variable {X:Cx} {e:Expr} {es:List Expr} {te:TE} {t:TA} {pos:Pos}
theorem qA3:PA X [] tNil:=fun _ _ _ _ H Q I h=>Calls.spliced_nil ⟨[],H,I,.nil,h⟩
theorem qA0 (ha:PE X e te) (hr:PA X es t) (hs:starEach (e::es) X.env=(false,eval e X.env)::starEach es X.env:=by rfl):PA X (e::es) (qZO te t):=by
 intro pos pins s σ H Q I h
 rw [hs]
 show wpAny _ _ (spliced ((false,eval e X.env)::backTo pos (starEach es X.env))) _ _ s
 refine Calls.spliced_cons (thn (ha pins s σ H _ I h) fun u s1 ⟨x,H1,I1,r1,q1⟩=>?_)
 exact thn (hr pos pins s1 σ H1 _ I1 q1) fun us s2 ⟨xs,H2,I2,r2,q2⟩=>⟨x::xs,H2,I2,.cons r1 r2,q2⟩
def tTup (t:TA):TE:=fun σ H Q=>t σ H fun xs H1=>xs.length≤sizeLine∧∀ p,H1 p=none→Q (.ref p) (upd H1 p (.tup xs))
def tLst (t:TA):TE:=fun σ H Q=>t σ H fun xs H1=>xs.length≤sizeLine∧∀ p,H1 p=none→Q (.ref p) (upd H1 p (.lst xs))
theorem qEV {x1} (h:PA X es t):PE X (.Tuple es x1 pos) (tTup t):=by
 intro pins s σ H Q I hq
 refine wpAny_Tuple_spliced (thn (h pos pins s σ H _ I hq) fun us s1 ⟨xs,H1,I1,r,z,q⟩=>⟨by rw [← r.length];exact z,?_⟩)
 have hf:H1 s1.heap.objs.size=none:=I1.hok.fresh (Nat.le_refl _)
 refine ⟨.ref s1.heap.objs.size,upd H1 s1.heap.objs.size (.tup xs),I1.laid (t':=s1.toks) (fun b u e=>Heap.get?_push_of_some _ e) (Nat.le_refl _) ?_,rfl,q _ hf⟩
 exact ⟨z,us,r,⟨_,Heap.get?_push_size _ rfl,rfl,_,rfl⟩⟩
theorem qB8 (h:PA X es t):PE X (.List es pos) (tLst t):=by
 intro pins s σ H Q I hq
 refine wpAny_List_spliced (thn (h pos pins s σ H _ I hq) fun us s1 ⟨xs,H1,I1,r,z,q⟩=>⟨by rw [← r.length];exact z,?_⟩)
 have hf:H1 s1.heap.objs.size=none:=I1.hok.fresh (Nat.le_refl _)
 refine ⟨.ref s1.heap.objs.size,upd H1 s1.heap.objs.size (.lst xs),I1.laid (t':=s1.toks) (fun b u e=>Heap.get?_push_of_some _ e) (Nat.le_refl _) ?_,rfl,q _ hf⟩
 exact ⟨z,us,0,r,Heap.get?_push_size _ rfl⟩
end
abbrev Sp:=List V→Hp→VK→XK→Prop
abbrev CXT:=List Env→Hp→Shared→XK→Value→Shared→Prop
structure Env0 (P:Program) (w:World) (K:PySem.W.Frag) (mg:Str→Option Value) (base:Heap) (A:Around) (outer:List Env) (s:Shared) (H:Hp):Prop where
 frames:A.frames=some outer
 mod:Mod K mg base
 bs:∀ b o,base.get? b=some o→s.heap.get? b=some o∧H b=none
 bsz:base.objs.size≤s.heap.objs.size
 funs:s.heap.FunFrames base outer
 frf:∀ b ∈ frs outer,H b=none
 hok:HOk P w H s.heap
 bare:AllBare s.gens
def CE (outer:List Env) (P:Program) (w:World) (H:Hp) (s:Shared) (Q:VK) (u:Value) (s':Shared):Prop:=
 ∃ v H',s'.os=s.os∧AllBare s'.gens∧Un (frs outer) [] H H' s.heap s'.heap∧HOk P w H' s'.heap∧RelV v u∧Q v H'
def CR (CX:CXT) (outer:List Env) (P:Program) (w:World) (H:Hp) (s:Shared) (Q:VK) (E:XK) (r:Result) (s':Shared):Prop:=
 match r with
 | .ok (.ret u)=>CE outer P w H s Q u s'
 | .ok _=>False
 | .error e=>CX outer H s E e s'
structure FnOk (P:Program) (w:World) (K:PySem.W.Frag) (mg:Str→Option Value) (base:Heap) (CX:CXT) (k:Nat) (f:Addr) (fd:FuncData) (ps:List Str) (sp:Sp):Prop where
 len:∀ vs H Q E,sp vs H Q E→vs.length=ps.length
 run:∀ (A:Around) (outer:List Env) (s:Shared) (H:Hp) (args:Args) (us:List Value) (vs:List V) (Q:VK) (E:XK),Room k A→Env0 P w K mg base A outer s H→BindsTo s fd args (ps.zip us)→Vals vs us→sp vs H Q E→
  codeAny (model P w) A (.call (.ref f) args) (CR CX outer P w H s Q E) s
section
variable {X:Cx} {pins:List (Addr × Obj)} {σ:St} {H:Hp} {s s':Shared}
theorem Inv.env0 (I:Inv X pins σ H s):Env0 X.prog X.w X.K X.mg X.base X.A X.stack s H:=
 ⟨I.ok.frames,I.ok.mod,I.bs,Nat.le_trans I.ok.bsz I.sz,I.stack,I.stkFree,I.hok,I.bare⟩
theorem Inv.after {Q:VK} {u:Value} (I:Inv X pins σ H s) (h:CE X.stack X.prog X.w H s Q u s'):EP X pins σ Q u s':=by
 obtain ⟨v,H',os,bare,un,hok,r,q⟩:=h
 obtain ⟨hh,g,d,t,os'⟩:=s'
 obtain rfl:os'=s.os:=os
 exact ⟨v,H',I.call (h':=hh) (g':=g) (d':=d) (t':=t) (ch:=[]) un hok bare (fun b z=>absurd z (by simp)),r,q⟩
end
def qZP (sp:Sp) (dvs:List V) (E:XK) (t:TA):TE:=fun σ H Q=>t σ H fun vs H1=>sp (vs++dvs) H1 Q E
def Binds (K:PySem.W.Frag) (fd:FuncData) (ps:List Str) (ds:List Value):Prop:=
 ∀ (s:Shared) (us:List Value),K.In s.heap→(us++ds).length=ps.length→BindsTo s fd ⟨us,[]⟩ (ps.zip (us++ds))
theorem Binds.all {K:PySem.W.Frag} {fd:FuncData} {ps:List Str} (h:∀ us:List Value,us.length=ps.length→bindArgs fd ⟨us,[]⟩=pure (ps.zip us)):Binds K fd ps []:=fun s us _ hl=>by
 rw [List.append_nil] at hl ⊢
 exact .of_eq (h us hl)
def qVN (CX:CXT) (X:Cx) (E:XK):Prop:=∀ (pins:List (Addr × Obj)) (σ:St) (H:Hp) (s:Shared) (e:Value) (s':Shared),Inv X pins σ H s→CX X.stack H s E e s'→X.xe e s'
section
variable {X:Cx} {CX:CXT} {k:Nat} {f C:Addr} {fd:FuncData} {ps:List Str} {sp:Sp} {dvs:List V} {ds:List Value} {E:XK} {x m:Str} {p pos apos:Pos} {e o:Expr} {es:List Expr} {ta:TE} {t:TA}
theorem qZT {pins:List (Addr × Obj)} {σ:St} {H:Hp} {s:Shared} {Q:VK} {us:List Value} {vs:List V} (F:FnOk X.prog X.w X.K X.mg X.base CX k f fd ps sp) (hr:Room k X.A) (hb:Binds X.K fd ps ds) (hd:Vals dvs ds) (hx:qVN CX X E)
  (I:Inv X pins σ H s) (r:Vals vs us) (h:sp (vs++dvs) H Q E):wpAny (model X.prog X.w) X.A (call (.ref f) us) (EP X pins σ Q) X.xe s:=by
 have r2:Vals (vs++dvs) (us++ds):=r.append hd
 have hl:(us++ds).length=ps.length:=by rw [← r2.length];exact F.len _ _ _ _ h
 refine wpAny_call (codeAny_mono (F.run X.A X.stack s H ⟨us,[]⟩ (us++ds) (vs++dvs) Q E hr I.env0 (hb s us I.kIn hl) r2 h) fun r s' hq=>?_)
 cases r with
 | error e=>exact hx pins σ H s e s' I hq
 | ok fl=>
  cases fl with
  | ret u=>exact I.after hq
  | next=>exact False.elim hq
  | brk=>exact False.elim hq
  | cont=>exact False.elim hq
theorem qTT (F:FnOk X.prog X.w X.K X.mg X.base CX k f fd ps sp) (hr:Room k X.A) (hg:Gl X x) (hm:X.mg x=some (.ref f)) (hk:PySem.W.keepIn X.K (.ref f)=true) (hb:Binds X.K fd ps ds) (hd:Vals dvs ds) (hx:qVN CX X E)
  (ha:PA X (e::es) t) (hdb:(x == ("__debug__" : Str))=false:=by decide) (he:starEach (e::es) X.env=(false,eval e X.env)::starEach es X.env:=by rfl) (hpl:(backTo pos (starEach es X.env)).any (·.1)=false:=by rfl) :
  PE X (.Call (.Name x p) (e::es) [] pos) (qZP sp dvs E t):=by
 intro pins s σ H Q I h
 refine wpAny_Call_Name_kw (qYQ I hg hm ?_ hdb)
 refine PySem.W.callWith_K (h₀:=X.base) I.ok.mod.kin hk (thn (ha pos pins s σ H _ I h) fun us s1 ⟨vs,H1,I1,r,q⟩=>⟨I1.kIn,?_⟩) he hpl
 exact qZT F hr hb hd hx I1 r q
structure Mk (K:PySem.W.Frag) (C f:Addr):Prop where
 makes:PySem.W.makesIn K C=true
 init:PySem.W.findIn K (.ref C) "__init__" = some (some (.ref f))
 fn:PySem.W.isFn K (.ref f)=true
 kp:PySem.W.keepIn K (.ref C)=true
end
def PK (X:Cx) (kws:List Keyword) (t:TA):Prop:=
 ∀ (pos:Pos) (pins:List (Addr × Obj)) (s:Shared) (σ:St) (H:Hp) (Q:List V→Hp→Prop),Inv X pins σ H s→t σ H Q→wpAny (model X.prog X.w) X.A (evalAll ((backToKw pos (keywordEach kws X.env)).map (·.2))) (AP X pins σ Q) X.xe s
section
variable {X:Cx} {CX:CXT} {k:Nat} {f C:Addr} {fd:FuncData} {ps ks:List Str} {sp:Sp} {E:XK} {x m:Str} {p pos apos kpos:Pos} {e o:Expr} {es:List Expr} {kws:List Keyword} {te ta:TE} {t tk:TA} {nm:Option Str}
theorem qTQ:PK X [] tNil:=fun _ _ _ _ H Q I h=>wpAny_evalAll_nil ⟨[],H,I,.nil,h⟩
theorem qPK (ha:PE X e te) (hr:PK X kws t):PK X (⟨nm,e,kpos⟩::kws) (qZO te t):=by
 intro pos pins s σ H Q I h
 show wpAny _ _ (evalAll ((do let v ← eval e X.env;standAt pos;pure v)::(backToKw pos (keywordEach kws X.env)).map (·.2))) _ _ s
 refine wpAny_evalAll_cons (wpAny_bind (thn (ha pins s σ H _ I h) fun u s1 ⟨x,H1,I1,r1,q1⟩=>wpAny_bind (wpAny_standAt (wpAny_pure ?_))))
 exact thn (hr pos pins s1 σ H1 _ I1 q1) fun us s2 ⟨xs,H2,I2,r2,q2⟩=>⟨x::xs,H2,I2,.cons r1 r2,q2⟩
structure KBinds (K:PySem.W.Frag) (fd:FuncData) (ps ks:List Str) (g:List Value→List Value→List Value) (gV:List V→List V→List V):Prop where
 to:∀ (s:Shared) (us ws:List Value),K.In s.heap→(g us ws).length=ps.length→BindsTo s fd ⟨us,ks.zip ws⟩ (ps.zip (g us ws))
 rel:∀ {vs:List V} {us:List Value} {zs:List V} {ws:List Value},Vals vs us→Vals zs ws→Vals (gV vs zs) (g us ws)
variable {g:List Value→List Value→List Value} {gV:List V→List V→List V}
end
structure FnScope (N P:List Str) (sc:Scope):Prop where
 kind:sc.kind=.function
 co:sc.isCoroutine=false
 gen:sc.isGenerator=false
 nd:N.Nodup
 pre:N.take P.length=P
 par:∀ x ∈ P,sc.names.lookup x=some .local∨sc.names.lookup x=some .cell
 nofree:∀ y ∈ sc.names,y.2 ≠ .free
theorem qOZ {kindOf:Str→Option NameKind} {x:Str}:∀ {binds:List (Str × Value)} {m:Str→Option Value},(∀ v,(x,v) ∉ binds)→bindL kindOf binds m x=m x
 | [],_,_=>rfl
 | (n,v)::r,m,h=>by
  unfold bindL
  rw [qOZ fun w hw=>h w (List.mem_cons_of_mem _ hw)]
  split
  ·have:x ≠ n:=by rintro rfl;exact h v List.mem_cons_self
   simp [this]
  ·rfl
theorem qP1 {kindOf:Str→Option NameKind} {x:Str}:∀ {binds:List (Str × Value)} {m:Str→Option Value},(∀ v,(x,v) ∉ binds)→bindC kindOf binds m x=m x
 | [],_,_=>rfl
 | (n,v)::r,m,h=>by
  unfold bindC
  rw [qP1 fun w hw=>h w (List.mem_cons_of_mem _ hw)]
  split
  ·rfl
  ·have:x ≠ n:=by rintro rfl;exact h v List.mem_cons_self
   simp [this]
theorem qP0 {kindOf:Str→Option NameKind} {x:Str} {v:Value}:∀ {P:List Str} {vs:List Value} {i:Nat} {m:Str→Option Value},P.Nodup→P[i]?=some x→vs[i]?=some v→kindOf x=some .local→
  bindL kindOf (P.zip vs) m x=some v
 | [],_,_,_,_,h,_,_=>by simp at h
 | _::_,[],_,_,_,_,h,_=>by simp at h
 | p::P,w::vs,0,m,nd,h1,h2,hk=>by
  simp at h1 h2;subst h1;subst h2
  show bindL kindOf ((p,w)::P.zip vs) m p=_
  unfold bindL
  rw [qOZ fun v hv=>(List.nodup_cons.mp nd).1 (List.of_mem_zip hv).1,if_pos hk]
  simp
 | p::P,w::vs,i+1,m,nd,h1,h2,hk=>by
  show bindL kindOf ((p,w)::P.zip vs) m x=_
  unfold bindL
  exact qP0 (i:=i) (List.nodup_cons.mp nd).2 (by simpa using h1) (by simpa using h2) hk
theorem qP2 {kindOf:Str→Option NameKind} {x:Str} {v:Value}:∀ {P:List Str} {vs:List Value} {i:Nat} {m:Str→Option Value},P.Nodup→P[i]?=some x→vs[i]?=some v→kindOf x ≠ some .local→
  bindC kindOf (P.zip vs) m x=some v
 | [],_,_,_,_,h,_,_=>by simp at h
 | _::_,[],_,_,_,_,h,_=>by simp at h
 | p::P,w::vs,0,m,nd,h1,h2,hk=>by
  simp at h1 h2;subst h1;subst h2
  show bindC kindOf ((p,w)::P.zip vs) m p=_
  unfold bindC
  rw [qP1 fun v hv=>(List.nodup_cons.mp nd).1 (List.of_mem_zip hv).1,if_neg hk]
  simp
 | p::P,w::vs,i+1,m,nd,h1,h2,hk=>by
  show bindC kindOf ((p,w)::P.zip vs) m x=_
  unfold bindC
  exact qP2 (i:=i) (List.nodup_cons.mp nd).2 (by simpa using h1) (by simpa using h2) hk
def qLX (N:List Str) (vs:List V):St:=vs.map some++List.replicate (N.length - vs.length) none
def cxOf (CX:CXT) (P:Program) (w:World) (K:PySem.W.Frag) (mg:Str→Option Value) (base:Heap) (N:List Str) (qual:Str) (scope:Scope) (f:Addr) (cd:Value) (A:Around) (outer:List Env) (s:Shared) (H:Hp) (E:XK):Cx where
 prog:=P
 w:=w
 K:=K
 mg:=mg
 base:=base
 A:=A.deeper (envOfC qual scope s.heap.objs.size f cd)
 N:=N
 s₀:=s
 H₀:=H
 env:=envOfC qual scope s.heap.objs.size f cd
 outer:=outer
 stack:=envOfC qual scope s.heap.objs.size f cd::outer
 ex:=[]
 calm:=true
 fn:=fun _=>true
 pn:=[]
 xe:=fun e s'=>wpAny (model P w) (A.deeper (envOfC qual scope s.heap.objs.size f cd)) (leaving (envOfC qual scope s.heap.objs.size f cd) e) (fun _ s''=>CX outer H s E e s'') (fun e' s''=>CX outer H s E e' s'') s'
theorem qRQ {sc:Scope} {n:Nat} {x:Str} (h:sc.names.lookup x=some .cell):∃ c,(cellsFrom n sc.names []).lookup x=some c:=by
 have q:=PySem.W.cellsFrom_some sc.names n [] (.inl h)
 exact Option.isSome_iff_exists.mp q
theorem qUN {CX:CXT} {P:Program} {w:World} {K:PySem.W.Frag} {mg:Str→Option Value} {base:Heap} {N ps:List Str} {qual:Str} {scope:Scope} {f:Addr} {cd:Value} {A:Around} {outer:List Env} {s s1:Shared} {H:Hp} {E:XK} {us:List Value} {vs:List V}
  (S:FnScope N ps scope) (hd:A.handled=none) (e0:Env0 P w K mg base A outer s H) (hl:vs.length=ps.length) (r:Vals vs us)
  (x:InCallC s s.heap.objs.size (bindL (envOfC qual scope s.heap.objs.size f cd).kindOf (ps.zip us) fun _=>none) (cellsFrom (s.heap.objs.size+1) scope.names []) (bindC (envOfC qual scope s.heap.objs.size f cd).kindOf (ps.zip us) fun _=>none) s1) :
  Inv (cxOf CX P w K mg base N qual scope f cd A outer s H E) [] (qLX N vs) H s1:=by
 have hpl:ps.length≤N.length:=by have:=congrArg List.length S.pre;rw [List.length_take] at this;omega
 obtain ⟨h1,tk,rfl,hk⟩:=x.done
 have noA:∀ b:Addr,b ∉ (cxOf CX P w K mg base N qual scope f cd A outer s H E).ex:=fun b z=>absurd (show b ∈ ([]:List Addr) from z) (by simp)
 refine ⟨⟨e0.mod,S.kind,rfl,rfl,Nat.le_refl _,fun y z c h1 h2=>?_,fun y hy=>?_,fun y c _ h=>?_,fun _=>hd,Around.frames_deeper e0.frames,.inr ⟨rfl,rfl⟩,fun b z=>absurd z (noA b),e0.bs,e0.bsz,fun b _ _=>noA b,fun b z=>absurd z (noA b),e0.funs,e0.frf⟩,
  rfl,e0.bare,Un.kept hk,⟨_,x.toInCall.ns,fun i y v h1 h2 h3=>?_⟩,fun y c h=>⟨_,x.cell y c h⟩,e0.hok.fresh (Nat.le_refl _),fun y c h=>?_,fun p hp=>absurd (show p ∈ ([]:List (Addr × Obj)) from hp) (by simp),e0.hok.kept hk,?_⟩
 ·exact name_of_addr x.apart (PySem.mem_of_lookup h1) (PySem.mem_of_lookup h2)
 ·have hy:scope.names.lookup y=some .cell∨scope.names.lookup y=some .free:=hy
  rcases hy with hy | hy
  ·exact qRQ hy
  ·exact absurd rfl (S.nofree _ (PySem.mem_of_lookup hy))
 ·exact Nat.le_of_lt (x.above y c (PySem.mem_of_lookup h))
 ·have hi:i<vs.length:=by
   unfold qLX at h2
   by_cases hi:i<vs.length
   ·exact hi
   ·rw [List.getElem?_append_right (by simpa using hi)] at h2
    rw [List.getElem?_replicate] at h2
    split at h2 <;> cases h2
  have ha:vs[i]?=some v:=by
   unfold qLX at h2
   rw [List.getElem?_append_left (by simpa using hi),List.getElem?_map] at h2
   cases e:vs[i]? with
   | none=>rw [e] at h2;cases h2
   | some a=>rw [e] at h2;cases h2;rfl
  obtain ⟨u,hu,rv⟩:=r.get ha
  have hp:ps[i]?=some y:=by
   rw [← S.pre,List.getElem?_take_of_lt (by omega)];exact h1
  have ndP:ps.Nodup:=by rw [← S.pre];exact S.nd.sublist (List.take_sublist _ _)
  refine ⟨u,rv,?_⟩
  rcases S.par y (List.mem_of_getElem? hp) with k | k
  ·exact .inl ⟨k,qP0 ndP hp hu k⟩
  ·obtain ⟨c,e⟩:=qRQ (n:=s.heap.objs.size+1) k
   refine .inr ⟨.inl k,c,e,?_⟩
   have q:=x.cell y c e
   rw [qP2 ndP hp hu (by show scope.names.lookup y ≠ _;rw [k];decide)] at q
   exact q
 ·exact e0.hok.fresh (Nat.le_of_lt (x.above y c (PySem.mem_of_lookup h)))
 ·unfold qLX
  show _=N.length
  rw [List.length_append,List.length_map,List.length_replicate]
  omega
theorem qaT {CX:CXT} {P:Program} {w:World} {K:PySem.W.Frag} {mg:Str→Option Value} {base:Heap} {k:Nat} {f:Addr} {name qual:Str} {params:Arguments} {body:List Stmt} {scope:Scope} {dV kV doc pm cdv ct oc:Value} {an od:Option Addr}
  {osl:Array (Option Value)} {N ps:List Str} {sp:Sp} (lk:K.lookup f=some ⟨oc,od,.func (PySem.W.fnOf name qual params body scope dV kV doc pm an cdv ct),osl⟩) (hcd:PySem.W.codeIn K cdv qual=true) (S:FnScope N ps scope)
  (len:∀ vs H Q E,sp vs H Q E→vs.length=ps.length)
  (hbody:∀ (A:Around) (outer:List Env) (s:Shared) (H:Hp) (vs:List V) (Q:VK) (E:XK),Room k (A.deeper (envOfC qual scope s.heap.objs.size f cdv))→sp vs H Q E→
   ∃ t,PSs (cxOf CX P w K mg base N qual scope f cdv A outer s H E) body t∧t { nx:=fun _ H'=>Q .non H',rt:=Q } (qLX N vs) H) :
  FnOk P w K mg base CX (k+1) f (PySem.W.fnOf name qual params body scope dV kV doc pm an cdv ct) ps sp:=by
 refine ⟨len,fun A outer s H args us vs Q E hr e0 hb r hsp=>?_⟩
 have hl:=len _ _ _ _ hsp
 have KX:K.In s.heap:=e0.mod.kin.keeps fun b o e=>(e0.bs b o e).1
 have lim:s.heap.NoLimit:=e0.mod.nolimit.keeps fun b o e=>(e0.bs b o e).1
 have hkind:∀ y ∈ ps.zip us,scope.names.lookup y.1=some .local∨(scope.names.lookup y.1=some .cell∧((cellsFrom (s.heap.objs.size+1) scope.names []).lookup y.1).isSome=true):=fun ⟨n,v⟩ hy=>by
  rcases S.par n (List.of_mem_zip hy).1 with q | q
  ·exact .inl q
  ·exact .inr ⟨q,PySem.W.cellsFrom_some _ _ _ (.inl q)⟩
 refine codeAny_call_function hr.depth (KX _ _ lk) rfl S.co S.gen rfl (PySem.W.codeRec_of KX hcd) (hb _ _ _ _ ?_)
 refine wpAny_newFunctionEnv_cells S.kind hkind fun env he s1 x=>?_
 subst he
 refine ⟨lim.keeps x.toInCall.keep,codeAny_func ?_⟩
 obtain ⟨t,ht,hq⟩:=hbody A outer s H vs Q E (hr.deeper _) hsp
 have I:Inv (cxOf CX P w K mg base N qual scope f cdv A outer s H E) [] (qLX N vs) H s1:=qUN S hr.hd e0 hl r x
 refine wpAny_mono (ht [] s1 (qLX N vs) H _ I hq) (fun fl s' hs=>?_) fun e s' hs=>hs
 have fin:∀ {σ':St} {H':Hp} {v:V} {u:Value},Inv (cxOf CX P w K mg base N qual scope f cdv A outer s H E) [] σ' H' s'→RelV v u→Q v H'→CE outer P w H s Q u s':=
  fun {σ' H' v u} J rv q=>⟨v,H',J.os,J.bare,J.base,J.hok,rv,q⟩
 cases fl with
 | ret u=>
  obtain ⟨v,σ',H',J,rv,q⟩:=hs
  exact fin J rv q
 | next=>
  obtain ⟨σ',H',J,q⟩:=hs
  exact fin (v:=V.non) (u:=Value.none) J rfl q
 | brk=>
  obtain ⟨_,_,_,q⟩:=hs
  exact False.elim q
 | cont=>
  obtain ⟨_,_,_,q⟩:=hs
  exact False.elim q
end L2
namespace L2
open PySem PySem.Spec PyProof.Rows
section
variable {X:Cx} {x:Str} {p pos:Pos} {e:Expr} {es:List Expr} {t:TA} {id T:String} {r:List V→Hp→VK→Prop}
def tCB (r:List V→Hp→VK→Prop) (t:TA):TE:=fun σ H Q=>t σ H fun vs H1=>r vs H1 Q
theorem qA8 (hc:qFC X (.builtin id) r) (hg:Gl X x) (hm:X.mg x=none) (hv:bootBuiltins x=some (.builtin id)) (ha:PA X (e::es) t) (hn:x ≠ "__name__":=by decide) (hdb:(x == ("__debug__" : Str))=false:=by decide)
  (he:starEach (e::es) X.env=(false,eval e X.env)::starEach es X.env:=by rfl) (hpl:(backTo pos (starEach es X.env)).any (·.1)=false:=by rfl):PE X (.Call (.Name x p) (e::es) [] pos) (tCB r t):=by
 intro pins s σ H Q I h
 refine wpAny_Call_Name_kw (qGK I hg hm hv ?_ hn hdb)
 exact PyProof.Rows.callWith_builtin1 (thn (ha pos pins s σ H _ I h) fun us s1 ⟨vs,H1,I1,r1,q1⟩=>hc pins s1 σ H1 vs us Q I1 r1 q1) he hpl
theorem qBQ (hc:qFC X (.type T) r) (hg:Gl X x) (hm:X.mg x=none) (hv:bootBuiltins x=some (.type T)) (ha:PA X (e::es) t) (hn:x ≠ "__name__":=by decide) (hdb:(x == ("__debug__" : Str))=false:=by decide)
  (he:starEach (e::es) X.env=(false,eval e X.env)::starEach es X.env:=by rfl) (hpl:(backTo pos (starEach es X.env)).any (·.1)=false:=by rfl):PE X (.Call (.Name x p) (e::es) [] pos) (tCB r t):=by
 intro pins s σ H Q I h
 refine wpAny_Call_Name_kw (qGK I hg hm hv ?_ hn hdb)
 exact PyProof.Rows.callWith_type1 (thn (ha pos pins s σ H _ I h) fun us s1 ⟨vs,H1,I1,r1,q1⟩=>hc pins s1 σ H1 vs us Q I1 r1 q1) he hpl
end
end L2
namespace HT
open PySem PyProof.Rows
def lexLt:List Int→List Int→Bool
 | [],[]=>false
 | [],_::_=>true
 | _::_,[]=>false
 | x::xs,y::ys=>if x=y then lexLt xs ys else decide (x<y)
theorem lexLt_cons (x y:Int) (xs ys:List Int):lexLt (x::xs) (y::ys)=if x=y then lexLt xs ys else decide (x<y):=rfl
section
open PySem.SeqAt
open PySem.AutoSeq1 (wpAny_loadPart')
open PySem.MeetsSeq PySem.MeetsSeq2 PySem.MeetsSeq3
end
section
variable {prog:Program} {w:World} {A:Around} {E:Value→Shared→Prop} {s:Shared}
def sIx (n d:Nat):Option Int→Nat
 | none=>d
 | some v=>if v<0 then (v+(n:Int)).toNat else min v.toNat n
theorem sIx_none (n d:Nat):sIx n d none=d:=rfl
theorem sIx_nat (n d k:Nat):sIx n d (some (k:Int))=min k n:=by
 show (if (k:Int)<0 then ((k:Int)+(n:Int)).toNat else min (k:Int).toNat n)=min k n
 rw [if_neg (by omega),Int.toNat_natCast]
end
end HT
namespace L2
open PySem PySem.Spec PyProof.Rows
abbrev TO:=St→Hp→(Option Int→Hp→Prop)→Prop
def PO (X:Cx) (e:Option Expr) (t:TO):Prop:=
 ∀ (pins:List (Addr × Obj)) (s:Shared) (σ:St) (H:Hp) (Q:Option Int→Hp→Prop),Inv X pins σ H s→t σ H Q→
  wpAny (model X.prog X.w) X.A (evalPart e X.env) (fun u s'=>∃ o H',Inv X pins σ H' s'∧IsPart u o∧Q o H') X.xe s
def qY2:TO:=fun _ H Q=>Q none H
def qb3 (t:TE):TO:=fun σ H Q=>t σ H fun x H1=>∃ i,x=.int i∧Q (some i) H1
theorem qSL {ns:List Int}:∀ {us:List Value},Vals (ns.map V.int) us→IntsAre us ns:=by
 induction ns with
 | nil=>intro us r;rw [List.map_nil] at r;cases r;exact .nil
 | cons n ns ih=>
  intro us r
  rw [List.map_cons] at r
  cases r with
  | cons r1 r2=>
   obtain ⟨t,e⟩:=r1
   subst e
   exact .cons n t (ih r2)
section
variable {X:Cx} {e:Expr} {te:TE} {lo hi:Option Expr} {tl th:TO} {pos p2:Pos}
theorem qM6:PO X none qY2:=by
 intro pins s σ H Q I h
 rw [evalPart_none]
 exact wpAny_pure ⟨none,H,I,.none,h⟩
theorem qI5 (h:PE X e te):PO X (some e) (qb3 te):=by
 intro pins s σ H Q I hw
 rw [evalPart_some]
 refine thn (h pins s σ H _ I hw) fun u s1 ⟨x,H1,I1,r1,q1⟩=>?_
 obtain ⟨i,rfl,q⟩:=q1
 obtain ⟨t,rfl⟩:=r1
 exact ⟨some i,H1,I1,.int i t,q⟩
def SlR (X:Cx) (r:V→Option Int→Option Int→Hp→VK→Prop):Prop:=
 ∀ (pins:List (Addr × Obj)) (s:Shared) (σ:St) (H:Hp) (x:V) (v vl vu:Value) (lo hi:Option Int) (sl:Addr) (Q:VK),Inv X pins σ H s→RelV x v→s.heap.IsSliceOf sl vl vu .none→IsPart vl lo→IsPart vu hi→r x lo hi H Q→
  ∃ T id,typeLookup (.type T) "__getitem__" = pure (some (.builtin id))∧s.TypeIs v T∧wpAny (model X.prog X.w) X.A (getItem v (.ref sl)) (EP X pins σ Q) X.xe s
def tSl (r:V→Option Int→Option Int→Hp→VK→Prop) (te:TE) (tl th:TO):TE:=fun σ H Q=>te σ H fun x H1=>tl σ H1 fun l H2=>th σ H2 fun u H3=>r x l u H3 Q
theorem qHE {r:V→Option Int→Option Int→Hp→VK→Prop} (hr:SlR X r) (he:PE X e te) (hl:PO X lo tl) (hu:PO X hi th):PE X (.Subscript e (.Slice lo hi none p2) pos) (tSl r te tl th):=by
 intro pins s σ H Q I h
 refine Subscript_ (thn (he pins s σ H _ I h) fun v s1 ⟨x,H1,I1,r1,q1⟩=>?_)
 refine wpAny_Slice (thn (hl pins s1 σ H1 _ I1 q1) fun vl s2 ⟨l,H2,I2,pl,q2⟩=>thn (hu pins s2 σ H2 _ I2 q2) fun vu s3 ⟨u,H3,I3,pu,q3⟩=>?_)
 rw [evalPart_none]
 refine wpAny_pure ?_
 have I4:Inv X pins σ H3 { s3 with heap:=s3.heap.push { cls:=.type "slice",data:=.fields #[vl,vu,.none] } }:=I3.kept (t':=s3.toks) fun b ob q=>Heap.get?_push_of_some _ q
 obtain ⟨T,id,hT,ht,hg⟩:=hr pins { s3 with heap:=s3.heap.push { cls:=.type "slice",data:=.fields #[vl,vu,.none] } } σ H3 x v vl vu l u s3.heap.objs.size Q I4 r1 (Heap.IsSliceOf.new ..) pl pu q3
 show wpAny (model X.prog X.w) X.A (subscriptTail e (.Slice lo hi none p2) v (.ref s3.heap.objs.size)) (EP X pins σ Q) X.xe { s3 with heap:=s3.heap.push { cls:=.type "slice",data:=.fields #[vl,vu,.none] } }
 exact tail_any (ops:=[.ref s3.heap.objs.size,v]) ht hT hg (by with_unfolding_all rfl)
def cutV (xs:List V) (lo hi:Option Int):List V:=(xs.drop (HT.sIx xs.length 0 lo)).take (HT.sIx xs.length xs.length hi - HT.sIx xs.length 0 lo)
theorem qQ8 (xs:List V) (lo hi:Option Int):(cutV xs lo hi).length≤xs.length:=by
 unfold cutV
 rw [List.length_take,List.length_drop]
 omega
end
end L2
namespace L2
open PySem PySem.Spec PyProof.Rows
def ixN (n:Nat) (i:Int):Option Nat:=if 0≤i then (if i<n then some i.toNat else none) else if -(n:Int)≤i then some (i+n).toNat else none
def atI {α:Type} (xs:List α) (i:Int):Option α:=(ixN xs.length i).bind fun j=>xs[j]?
theorem qUK {n:Nat} {i:Int} {j:Nat} (h:ixN n i=some j):seqIndex? i n=some j∧j<n∧-(n:Int)≤i∧i<n:=by
 unfold ixN at h
 by_cases h0:0≤i
 ·rw [if_pos h0] at h
  by_cases h1:i<n
  ·rw [if_pos h1] at h
   have e:i.toNat=j:=Option.some.inj h
   exact ⟨by rw [seqIndex_of h0 h1,e],by omega,by omega,h1⟩
  ·rw [if_neg h1] at h;cases h
 ·rw [if_neg h0] at h
  by_cases h1 : -(n:Int)≤i
  ·rw [if_pos h1] at h
   have e:(i+n).toNat=j:=Option.some.inj h
   exact ⟨by rw [seqIndex_neg (by omega) h1,e],by omega,h1,by omega⟩
  ·rw [if_neg h1] at h;cases h
theorem qQD {α:Type} {xs:List α} {i:Int} {v:α} (h:atI xs i=some v):∃ j,seqIndex? i xs.length=some j∧xs[j]?=some v∧j<xs.length∧-(xs.length:Int)≤i∧i<xs.length:=by
 unfold atI at h
 cases e:ixN xs.length i with
 | none=>rw [e] at h;cases h
 | some j=>
  rw [e] at h
  obtain ⟨h1,h2,h3,h4⟩:=qUK e
  exact ⟨j,h1,h,h2,h3,h4⟩
theorem qVJ {α:Type} {xs:List α} {j:Nat} {v:α} (h:xs[j]?=some v):atI xs (j:Int)=some v:=by
 have hj:j<xs.length:=(List.getElem?_eq_some_iff.mp h).1
 have e:ixN xs.length (j:Int)=some j:=by
  unfold ixN
  rw [if_pos (by omega),if_pos (by omega)];simp
 unfold atI;rw [e];exact h
theorem qX4 {α:Type} (xs:List α) (v:α):atI (xs++[v]) (-1)=some v:=by
 have hl:(xs++[v]).length=xs.length+1:=by simp
 have e:ixN (xs++[v]).length (-1)=some xs.length:=by
  unfold ixN
  rw [hl,if_neg (by decide),if_pos (by omega)]
  congr 1
  omega
 unfold atI
 rw [e]
 show (xs++[v])[xs.length]?=some v
 simp
def qZ9 (b:Expr):Prop:=∀ o i,subscripted b false o i=operate [o,i] (getItem o i)
def IxR (X:Cx) (r:R2):Prop:=
 ∀ (value slice:Expr) (pins:List (Addr × Obj)) (s:Shared) (σ:St) (H:Hp) (x y:V) (v u:Value) (Q:VK),Inv X pins σ H s→RelV x v→RelV y u→r x y H Q→
  subscripted slice false v u=operate [v,u] (getItem v u)→wpAny (model X.prog X.w) X.A (subscriptTail value slice v u) (EP X pins σ Q) X.xe s
def MtR (X:Cx) (id:String) (r:V→List V→Hp→VK→Prop):Prop:=
 ∀ (pins:List (Addr × Obj)) (s:Shared) (σ:St) (H:Hp) (x:V) (xs:List V) (v:Value) (us:List Value) (Q:VK),Inv X pins σ H s→RelV x v→Vals xs us→r x xs H Q→
  wpAny (model X.prog X.w) X.A (call (.builtin id) (v::us)) (EP X pins σ Q) X.xe s
section
variable {X:Cx} {a b:Expr} {ta tb:TE} {pos:Pos}
theorem qB2 {r:R2} (hr:IxR X r) (ha:PE X a ta) (hb:PE X b tb) (hs:qZ9 b):PE X (.Subscript a b pos) (tOp r ta tb):=by
 intro pins s σ H Q I h
 exact Subscript_ (binT ha hb I h fun v u s2 x y H2 I2 rx ry q=>hr a b pins s2 σ H2 x y v u Q I2 rx ry q (hs _ _))
def rIxL (K:PySem.W.Frag):R2:=fun x y H Q=>∃ p xs i v,x=.ref p∧y=.int i∧SqL K H p xs∧atI xs i=some v∧Q v H
def rIxT (K:PySem.W.Frag):R2:=fun x y H Q=>∃ p xs i v,x=.ref p∧y=.int i∧SqT K H p xs∧atI xs i=some v∧Q v H
theorem qF3:IxR X (rIxL X.K):=by
 intro value slice pins s σ H x y v u Q I rx ry h hs
 obtain ⟨p,xs,i,z,rfl,rfl,hq,he,q⟩:=h
 cases rx
 obtain ⟨t,rfl⟩:=ry
 obtain ⟨its,r,pl,hz⟩:=I.list hq
 obtain ⟨j,h1,h2,h3,h4,h5⟩:=qQD he
 obtain ⟨w,ew,rw'⟩:=r.get h2
 have hl:=r.length
 have hn:=qLC
 have fin:EP X pins σ Q w s:=⟨z,H,I,rw',q⟩
 by_cases h0:0≤i
 ·have hj:i.toNat=j:=by
   rw [seqIndex_of h0 h5] at h1
   exact Option.some.inj h1
  exact item_listR pl.isList h0 (by omega) (by rw [hj];simpa using ew) fin hs
 ·have hj:(i+(its.toArray.size:Int)).toNat=j:=by
   rw [seqIndex_neg (by omega) h4] at h1
   rw [List.size_toArray,← hl]
   exact Option.some.inj h1
  exact subscriptTail_builtinR (x:=w) pl.isList.typeIs slot_list_getitem.lookup
   (wpAny_getItem_list_neg (Q:=fun r s'=>r=w∧EP X pins σ Q r s') pl.isList (by omega) (by rw [List.size_toArray] <;> omega) (by omega) (by rw [hj];simpa using ew) ⟨rfl,fin⟩) hs
theorem qBB:IxR X (rIxT X.K):=by
 intro value slice pins s σ H x y v u Q I rx ry h hs
 obtain ⟨p,xs,i,z,rfl,rfl,hq,he,q⟩:=h
 cases rx
 obtain ⟨t,rfl⟩:=ry
 obtain ⟨its,r,pl,hz⟩:=I.tuple hq
 obtain ⟨j,h1,h2,h3,h4,h5⟩:=qQD he
 obtain ⟨w,ew,rw'⟩:=r.get h2
 have hl:=r.length
 have hn:=qLC
 have fin:EP X pins σ Q w s:=⟨z,H,I,rw',q⟩
 exact subscriptTail_builtinR (x:=w) pl.typeIs slot_tuple_getitem.lookup
  (getItem_tuple (j:=j) (Q:=fun r s'=>r=w∧EP X pins σ Q r s') pl (by omega) (by omega) (by rw [List.size_toArray,← hl];exact h1) (by simpa using ew) ⟨rfl,fin⟩) hs
theorem qSD (its:List Value) (n j:Nat) (u:Value):Obj.mapSeq (·.setIfInBounds j u) { cls:=.type "list",data:=.seq its.toArray n }={ cls:=.type "list",data:=.seq (its.set j u).toArray n }:=by
 simp [Obj.mapSeq]
theorem Inv.lst {pins:List (Addr × Obj)} {σ:St} {H:Hp} {s:Shared} {p:Addr} {xs:List V} (I:Inv X pins σ H s) (h:H p=some (.lst xs)) :
  ∃ (its:List Value) (n:Nat),Vals xs its∧s.heap.get? p=some { cls:=.type "list",data:=.seq its.toArray n }∧xs.length≤sizeLine:=by
 obtain ⟨z,its,n,r,e⟩:=I.hok p _ h
 exact ⟨its,n,r,e,z⟩
theorem Inv.lstUpd {pins:List (Addr × Obj)} {σ:St} {H:Hp} {s:Shared} {p:Addr} {xs ys:List V} {its its':List Value} {n n':Nat} {f:Obj→Obj} (I:Inv X pins σ H s) (h:H p=some (.lst xs))
  (ho:s.heap.get? p=some { cls:=.type "list",data:=.seq its.toArray n }) (hf:f { cls:=.type "list",data:=.seq its.toArray n }={ cls:=.type "list",data:=.seq its'.toArray n' }) (r:Vals ys its') (hz:ys.length≤sizeLine) (t:Nat) :
  Inv X pins σ (upd H p (.lst ys)) { s with heap:=s.heap.update p f,toks:=t }:=by
 have e:(s.heap.update p f).get? p=some { cls:=.type "list",data:=.seq its'.toArray n' }:=by
  rw [Heap.get?_update_self f ho (by rw [hf] <;> rfl),hf]
 refine I.write (x:=p) (e:=p) (by rw [h];trivial) (.inl rfl) (fun b u hb q=>(Heap.get?_update_other _ _ (Ne.symm hb)).trans q) ⟨_,e⟩ ?_
 exact ⟨hz,its',n',r,e⟩
def qbG:V→V→V→Hp→(Hp→Prop)→Prop:=fun o i v H Q=>∃ p xs k j,o=.ref p∧i=.int k∧H p=some (.lst xs)∧ixN xs.length k=some j∧Q (upd H p (.lst (xs.set j v)))
theorem qH9:PSet X qbG:=by
 intro pins s σ H o i v ov iv u Q I ro ri rv h
 obtain ⟨p,xs,k,j,rfl,rfl,hp,hj,q⟩:=h
 cases ro
 obtain ⟨t,rfl⟩:=ri
 obtain ⟨its,n,r,ho,hz⟩:=I.lst hp
 obtain ⟨h1,h2,h3,h4⟩:=qUK hj
 have hl:=r.length
 have hn:=qLC
 have I':Inv X pins σ (upd H p (.lst (xs.set j v))) { s with heap:=s.heap.update p (Obj.mapSeq (·.setIfInBounds j u)) }:=
  I.lstUpd hp ho (qSD its n j u) (r.set rv j) (by rw [List.length_set];exact hz) s.toks
 by_cases h0:0≤k
 ·have hk:k.toNat=j:=by
   rw [seqIndex_of h0 h4] at h1
   exact Option.some.inj h1
  exact PySem.W.ki_setAt ho h0 (by omega) (by rw [List.size_toArray,← hl];exact h4) (by rw [hk];exact ⟨_,I',q⟩)
 ·have hk:(k+(its.toArray.size:Int)).toNat=j:=by
   rw [seqIndex_neg (by omega) h3] at h1
   rw [List.size_toArray,← hl]
   exact Option.some.inj h1
  exact PySem.W.ki_setBack ho (by omega) (by rw [List.size_toArray,← hl];exact h3) (by omega) (by rw [hk];exact ⟨_,I',q⟩)
theorem qNG (lo hi:Option Int) (n:Nat):(sliceBounds lo hi none n).1=((HT.sIx n 0 lo:Nat):Int)∧(sliceBounds lo hi none n).2.1=((HT.sIx n n hi:Nat):Int)∧(sliceBounds lo hi none n).2.2=1:=by
 refine ⟨?_,?_,rfl⟩
 ·cases lo with
  | none=>simp [sliceBounds,HT.sIx]
  | some i=>
   simp only [sliceBounds,HT.sIx,Option.getD_none,show (1:Int) > 0 by decide,if_true]
   by_cases h:i<0
   ·simp only [h,if_true] <;> omega
   ·simp only [h,if_false] <;> omega
 ·cases hi with
  | none=>simp [sliceBounds,HT.sIx]
  | some i=>
   simp only [sliceBounds,HT.sIx,Option.getD_none,show (1:Int) > 0 by decide,if_true]
   by_cases h:i<0
   ·simp only [h,if_true] <;> omega
   ·simp only [h,if_false] <;> omega
theorem qM0 (its:List Value) (lo hi:Option Int):slicePick its.toArray lo hi none=((its.drop (HT.sIx its.length 0 lo)).take (HT.sIx its.length its.length hi - HT.sIx its.length 0 lo)).toArray:=by
 obtain ⟨h1,h2,h3⟩:=qNG lo hi its.toArray.size
 unfold slicePick
 rw [h1,h2,h3]
 simp only [sliceRange_one,pick_run,List.size_toArray] <;> rfl
def rSlL (K:PySem.W.Frag):V→Option Int→Option Int→Hp→VK→Prop:=fun x lo hi H Q=>∃ a xs,x=.ref a∧SqL K H a xs∧∀ p,H p=none→Q (.ref p) (upd H p (.lst (cutV xs lo hi)))
theorem qJL:SlR X (rSlL X.K):=by
 intro pins s σ H x v vl vu lo hi sl Q I rx hs pl pu h
 obtain ⟨a,xs,rfl,hx,q⟩:=h
 cases rx
 obtain ⟨its,r,ht,hz⟩:=I.list hx
 have hlen:=r.length
 refine ⟨"list",_,slot_list_getitem.lookup,ht.isList.typeIs,?_⟩
 refine wpAny_getItem_list_slice ht.isList hs pl pu .none (by simp) ?_ (by rw [List.size_toArray] <;> omega)
 rw [qM0,← hlen]
 refine ⟨.ref s.heap.objs.size,_,I.laid (t':=s.toks) (o:=.lst (cutV xs lo hi)) (fun b ob q=>Heap.get?_push_of_some _ q) (Nat.le_refl _) ?_,rfl,q _ (I.hok.fresh (Nat.le_refl _))⟩
 exact ⟨Nat.le_trans (qQ8 xs lo hi) hz,_,0,(r.drop (HT.sIx xs.length 0 lo)).take (HT.sIx xs.length xs.length hi - HT.sIx xs.length 0 lo),Heap.get?_push_size _ rfl⟩
def qML:V→Bool
 | .non=>true
 | .bl _=>true
 | .int _=>true
 | .str _=>true
 | _=>false
def eqV:V→V→Bool
 | .non,.non=>true
 | .bl a,.bl b=>a == b
 | .bl a,.int b=>(if a then 1 else 0) == b
 | .int a,.bl b=>a == (if b then 1 else 0)
 | .int a,.int b=>a == b
 | .str a,.str b=>a == b
 | _,_=>false
theorem qaV {A:Around} {s:Shared} {y x:V} {u v:Value} (ry:RelV y u) (rx:RelV x v) (fy:qML y=true) (fx:qML x=true):SeqAt.EqAt A s u v (eqV y x):=by
 cases y with
 | non=>
  cases ry
  cases x with
  | non=>cases rx;exact SeqAt.EqAt.same _
  | bl b=>cases rx;exact SeqAt.EqAt.none_bool b
  | int b=>obtain ⟨t,rfl⟩:=rx;exact SeqAt.EqAt.none_int b t
  | str b=>obtain ⟨t,rfl⟩:=rx;exact SeqAt.EqAt.none_str b t
  | _=>exact absurd (show false=true from fx) Bool.false_ne_true
 | bl a=>
  cases ry
  cases x with
  | non=>cases rx;exact SeqAt.EqAt.bool_none a
  | bl b=>cases rx;exact SeqAt.EqAt.bool_bool a b
  | int b=>obtain ⟨t,rfl⟩:=rx;exact SeqAt.EqAt.bool_int a b t
  | str b=>obtain ⟨t,rfl⟩:=rx;exact SeqAt.EqAt.bool_str a b t
  | _=>exact absurd (show false=true from fx) Bool.false_ne_true
 | int a=>
  obtain ⟨t',rfl⟩:=ry
  cases x with
  | non=>cases rx;exact SeqAt.EqAt.int_none a t'
  | bl b=>cases rx;exact SeqAt.EqAt.int_bool a t' b
  | int b=>obtain ⟨t,rfl⟩:=rx;exact SeqAt.EqAt.int_int a t' b t
  | str b=>obtain ⟨t,rfl⟩:=rx;exact SeqAt.EqAt.int_str a t' b t
  | _=>exact absurd (show false=true from fx) Bool.false_ne_true
 | str a=>
  obtain ⟨t',rfl⟩:=ry
  cases x with
  | non=>cases rx;exact SeqAt.EqAt.str_none a t'
  | bl b=>cases rx;exact SeqAt.EqAt.str_bool a t' b
  | int b=>obtain ⟨t,rfl⟩:=rx;exact SeqAt.EqAt.str_int a t' b t
  | str b=>obtain ⟨t,rfl⟩:=rx;exact SeqAt.EqAt.str_str a t' b t
  | _=>exact absurd (show false=true from fx) Bool.false_ne_true
 | _=>exact absurd (show false=true from fy) Bool.false_ne_true
def eqU (x:V) (u:Value):Bool:=match u with
 | .none=>eqV .non x
 | .bool b=>eqV (.bl b) x
 | .int i _=>eqV (.int i) x
 | .str z _=>eqV (.str z) x
 | _=>false
theorem qXP {x y:V} {u:Value} (r:RelV y u) (f:qML y=true):eqU x u=eqV y x:=by
 cases y with
 | non=>cases r;rfl
 | bl b=>cases r;rfl
 | int i=>obtain ⟨t,rfl⟩:=r;rfl
 | str z=>obtain ⟨t,rfl⟩:=r;rfl
 | _=>exact absurd (show false=true from f) Bool.false_ne_true
theorem qKH {x:V}:∀ {xs:List V} {us:List Value},Vals xs us→xs.all qML=true→us.any (eqU x)=xs.any fun y=>eqV y x
 | _,_,.nil,_=>rfl
 | y::xs,u::us,.cons r t,f=>by
  rw [List.all_cons,Bool.and_eq_true] at f
  rw [List.any_cons,List.any_cons,qXP r f.1,qKH t f.2]
theorem qHG {A:Around} {s:Shared} {x:V} {v:Value} (rx:RelV x v) (fx:qML x=true):∀ {xs:List V} {us:List Value},Vals xs us→xs.all qML=true→∀ u ∈ us,SeqAt.EqAt A s u v (eqU x u)
 | _,_,.nil,_=>fun u hu=>by cases hu
 | y::xs,u::us,.cons r t,f=>fun u' hu=>by
  rw [List.all_cons,Bool.and_eq_true] at f
  rcases List.mem_cons.mp hu with rfl | hu
  ·rw [qXP r f.1];exact qaV r rx f.1 fx
  ·exact qHG rx fx t f.2 u' hu
def inV (x:V) (xs:List V):Bool:=xs.any fun y=>eqV y x
def rIn (K:PySem.W.Frag) (neg:Bool):R2:=fun x y H Q=>∃ p xs,y=.ref p∧(SqL K H p xs∨SqT K H p xs)∧qML x=true∧xs.all qML=true∧Q (.bl (if neg then !inV x xs else inV x xs)) H
theorem qNT:OpR X (compareOp .In) (rIn X.K false):=by
 intro pins s σ H x y v u Q I rx ry h
 obtain ⟨p,xs,rfl,hq,fx,fs,q⟩:=h
 cases ry
 rcases hq with hq | hq
 ·obtain ⟨its,r,pl,hz⟩:=I.list hq
  refine SeqAt.in_listAt (eqU x) pl.isList (fun w hw=>qHG rx fx r fs w (by simpa using hw)) ⟨.bl _,H,I,rfl,?_⟩
  rw [show its.toArray.any (eqU x)=its.any (eqU x) by simp,qKH r fs]
  exact q
 ·obtain ⟨its,r,pl,hz⟩:=I.tuple hq
  refine SeqAt.in_tupleAt (eqU x) pl (fun w hw=>qHG rx fx r fs w (by simpa using hw)) ⟨.bl _,H,I,rfl,?_⟩
  rw [show its.toArray.any (eqU x)=its.any (eqU x) by simp,qKH r fs]
  exact q
theorem qNS:OpR X (compareOp .NotIn) (rIn X.K true):=by
 intro pins s σ H x y v u Q I rx ry h
 obtain ⟨p,xs,rfl,hq,fx,fs,q⟩:=h
 cases ry
 rcases hq with hq | hq
 ·obtain ⟨its,r,pl,hz⟩:=I.list hq
  refine SeqAt.notIn_listAt (eqU x) pl.isList (fun w hw=>qHG rx fx r fs w (by simpa using hw)) ⟨.bl _,H,I,rfl,?_⟩
  rw [show its.toArray.any (eqU x)=its.any (eqU x) by simp,qKH r fs]
  exact q
 ·obtain ⟨its,r,pl,hz⟩:=I.tuple hq
  refine SeqAt.notIn_tupleAt (eqU x) pl (fun w hw=>qHG rx fx r fs w (by simpa using hw)) ⟨.bl _,H,I,rfl,?_⟩
  rw [show its.toArray.any (eqU x)=its.any (eqU x) by simp,qKH r fs]
  exact q
theorem qAJ:qFC X (.builtin "len") (fun xs H Q=>∃ p ys,xs=[.ref p]∧(SqL X.K H p ys∨SqT X.K H p ys)∧Q (.int ys.length) H):=by
 intro pins s σ H xs us Q I r h
 obtain ⟨p,ys,rfl,hq,q⟩:=h
 obtain ⟨u,rfl,rx⟩:=qEY r
 cases rx
 have hn:=qLC
 rcases hq with hq | hq
 ·obtain ⟨its,r',pl,hz⟩:=I.list hq
  have hlen:=r'.length
  exact Calls.call_len_list pl.isList (by simp only [List.size_toArray] <;> omega) ⟨.int ys.length,H,I.tok _,⟨s.toks+1,by rw [List.size_toArray,hlen]⟩,q⟩
 ·obtain ⟨its,r',pl,hz⟩:=I.tuple hq
  have hlen:=r'.length
  exact len_tuple pl (by simp only [List.size_toArray] <;> omega) ⟨.int ys.length,H,I.tok _,⟨s.toks+1,by rw [List.size_toArray,hlen]⟩,q⟩
theorem qIN:qFC X (.type "list") (fun xs H Q=>∃ p ys,xs=[.ref p]∧(SqL X.K H p ys∨SqT X.K H p ys)∧∀ l,H l=none→Q (.ref l) (upd H l (.lst ys))):=by
 intro pins s σ H xs us Q I r h
 obtain ⟨p,ys,rfl,hq,q⟩:=h
 obtain ⟨u,rfl,rx⟩:=qEY r
 cases rx
 have fin:∀ (its:List Value),Vals ys its→ys.length≤sizeLine→∀ (h':Heap) (c':Nat),(∀ b o',s.heap.get? b=some o'→h'.get? b=some o')→
   h'.get? s.heap.objs.size=some { cls:=.type "list",dict:=none,data:=.seq its.toArray c',slots:=#[] }→EP X pins σ Q (.ref s.heap.objs.size) { s with heap:=h' }:=fun its r' hz h' c' kp e=>
  ⟨.ref s.heap.objs.size,_,I.laid (t':=s.toks) kp (Nat.le_refl _) (show ObjOk X.prog X.w _ h' _ (.lst ys) from ⟨hz,its,c',r',e⟩),rfl,q _ (I.hok.fresh (Nat.le_refl _))⟩
 rcases hq with hq | hq
 ·obtain ⟨its,r',pl,hz⟩:=I.list hq
  have hlen:=r'.length
  obtain ⟨o,ho,hc,n,hd⟩:=pl.isList
  exact call_list_seq p (.inl rfl) ho hc hd (fun h' c' kp e=>fin its r' hz h' c' kp e) (by simp only [List.size_toArray] <;> omega)
 ·obtain ⟨its,r',pl,hz⟩:=I.tuple hq
  have hlen:=r'.length
  obtain ⟨o,ho,hc,n,hd⟩:=pl
  exact call_list_seq p (.inr rfl) ho hc hd (fun h' c' kp e=>fin its r' hz h' c' kp e) (by simp only [List.size_toArray] <;> omega)
theorem qBW:qFC X (.type "tuple") (fun xs H Q=>∃ p ys,xs=[.ref p]∧((SqL X.K H p ys∧∀ l,H l=none→Q (.ref l) (upd H l (.tup ys)))∨(SqT X.K H p ys∧Q (.ref p) H))):=by
 intro pins s σ H xs us Q I r h
 obtain ⟨p,ys,rfl,h⟩:=h
 obtain ⟨u,rfl,rx⟩:=qEY r
 cases rx
 rcases h with ⟨hq,q⟩ | ⟨hq,q⟩
 ·obtain ⟨its,r',pl,hz⟩:=I.list hq
  have hlen:=r'.length
  refine call_tuple_list pl.isList (fun h' kp=>?_) (by simp only [List.size_toArray] <;> omega)
  have I1:Inv X pins σ H { s with heap:=h' }:=I.kept (t':=s.toks) kp
  have I2:Inv X pins σ (upd H h'.objs.size (.tup ys)) { s with heap:=h'.push { cls:=.type "tuple",data:=.seq its.toArray } }:=
   I1.laid (t':=s.toks) (fun b o e=>Heap.get?_push_of_some _ e) (Nat.le_refl _) (show ObjOk X.prog X.w _ _ _ (.tup ys) from ⟨hz,its,r',IsTup.new _ _⟩)
  exact ⟨.ref h'.objs.size,_,I2,rfl,q _ (I1.hok.fresh (Nat.le_refl _))⟩
 ·obtain ⟨its,r',pl,hz⟩:=I.tuple hq
  exact call_tuple_same pl ⟨.ref p,H,I,rfl,q⟩
def tyV (K:PySem.W.Frag) (T:String) (x:V) (H:Hp):Prop:=match x with
 | .str _=>T = "str"
 | .int _=>T = "int"
 | .ref p=>(T = "list"∧∃ xs,SqL K H p xs)∨(T = "tuple"∧∃ o,K.lookup p=some o∧o.cls=.type "tuple"∧o.dict=none)∨
   (T = "dict"∧((∃ kvs,H p=some (.dK kvs))∨∃ kvs,H p=some (.dT kvs)))∨(T = "set"∧∃ S n,H p=some (.set S n))
 | _=>False
theorem qX9 {pins:List (Addr × Obj)} {σ:St} {H:Hp} {s:Shared} {T:String} {x:V} {v:Value} (I:Inv X pins σ H s) (r:RelV x v) (ty:tyV X.K T x H) :
  s.TypeIs v T∧∀ a,v=.ref a→∃ ob,s.heap.get? a=some ob∧ob.dict=none:=by
 cases x with
 | str z=>
  obtain ⟨t,rfl⟩:=r
  cases (show T = "str" from ty)
  exact ⟨typeIs_str s z t,fun _ e=>nomatch e⟩
 | int i=>
  obtain ⟨t,rfl⟩:=r
  cases (show T = "int" from ty)
  exact ⟨typeIs_int s i t,fun _ e=>nomatch e⟩
 | ref p=>
  cases r
  rcases ty with ⟨rfl,xs,hq⟩ | ⟨rfl,o,hk,hc,hd⟩ | ⟨rfl,hk⟩ | ⟨rfl,S,n,hk⟩
  ·obtain ⟨its,_,pl,_⟩:=I.list hq
   refine ⟨pl.isList.typeIs,fun a e=>?_⟩
   cases e
   obtain ⟨o,n,e,c,hd,_⟩:=pl
   exact ⟨o,e,hd⟩
  ·refine ⟨⟨o,I.kIn p o hk,hc⟩,fun a e=>?_⟩
   cases e
   exact ⟨o,I.kIn _ o hk,hd⟩
  ·have z:∃ o,s.heap.get? p=some o∧o.ExactDict:=by
    rcases hk with ⟨kvs,hk⟩ | ⟨kvs,hk⟩
    ·obtain ⟨_,_,_,_,o,_,_,e,ex,_⟩:=I.hok p _ hk
     exact ⟨o,e,ex⟩
    ·obtain ⟨_,_,_,_,o,_,_,e,ex,_⟩:=I.hok p _ hk
     exact ⟨o,e,ex⟩
   obtain ⟨o,e,ex⟩:=z
   refine ⟨⟨o,e,ex.1⟩,fun a e2=>?_⟩
   cases e2
   exact ⟨o,e,ex.2.1⟩
  ·obtain ⟨o,_,_,_,e,ex,_⟩:=I.hok p _ hk
   refine ⟨⟨o,e,ex.1⟩,fun a e2=>?_⟩
   cases e2
   exact ⟨o,e,ex.2.1⟩
 | _=>exact False.elim ty
def tBM0 (K:PySem.W.Frag) (T:String) (r:V→List V→Hp→VK→Prop) (to:TE):TE:=fun σ H Q=>to σ H fun x H1=>tyV K T x H1∧r x [] H1 Q
def tBM (K:PySem.W.Frag) (T:String) (r:V→List V→Hp→VK→Prop) (to:TE) (t:TA):TE:=fun σ H Q=>to σ H fun x H1=>tyV K T x H1∧t σ H1 fun xs H2=>r x xs H2 Q
variable {o e:Expr} {es:List Expr} {to:TE} {t:TA} {name:Str} {apos cpos:Pos} {T id:String} {r:V→List V→Hp→VK→Prop}
theorem qXG (pa:PlainAttrs T) (slot:Slot T name id) (hty:typeOf (.builtin id)=pure (.type "method_descriptor")) (hm:MtR X id r) (ho:PE X o to)
  (hbase:attributeBase o name X.env (eval o X.env)=eval o X.env:=by rfl) (hline:(apos.endLine == cpos.line)=true:=by rfl):PE X (.Call (.Attribute o name apos) [] [] cpos) (tBM0 X.K T r to):=by
 intro pins s σ H Q I h
 refine wpAny_Call_method0_late hbase hline (thn (ho pins s σ H _ I h) fun v s1 ⟨x,H1,I1,r1,ty,q1⟩=>?_)
 obtain ⟨h1,h2⟩:=qX9 I1 r1 ty
 exact ⟨T,id,pa,slot,hty,h1,h2,Calls.callWith_builtin rfl (PySem.evalArgs_none (hm pins s1 σ H1 x [] v [] Q I1 r1 .nil q1))⟩
theorem qJS (pa:PlainAttrs T) (slot:Slot T name id) (hty:typeOf (.builtin id)=pure (.type "method_descriptor")) (hm:MtR X id r) (ho:PE X o to) (ha:PA X (e::es) t)
  (hbase:attributeBase o name X.env (eval o X.env)=eval o X.env:=by rfl)
  (hfew:((backTo cpos (starEach (e::es) X.env)).all (fun x=>!x.1) && (backToKw cpos (keywordEach [] X.env)).all (fun x=>x.1.isSome)
   && decide ((e::es).length+([]:List Keyword).length+(if ([]:List Keyword).isEmpty then 0 else 1)<30))=true:=by rfl)
  (hline:(apos.endLine == cpos.line)=true:=by rfl) (hs:starEach (e::es) X.env=(false,eval e X.env)::starEach es X.env:=by rfl) (hplain:(backTo cpos (starEach es X.env)).any (·.1)=false:=by rfl) :
  PE X (.Call (.Attribute o name apos) (e::es) [] cpos) (tBM X.K T r to t):=by
 intro pins s σ H Q I h
 refine wpAny_Call_method_late hbase hfew hline rfl (thn (ho pins s σ H _ I h) fun v s1 ⟨x,H1,I1,r1,ty,q1⟩=>?_)
 obtain ⟨h1,h2⟩:=qX9 I1 r1 ty
 refine ⟨T,id,pa,slot,hty,h1,h2,?_⟩
 have hA:=ha cpos pins s1 σ H1 _ I1 q1
 rw [hs] at hA ⊢
 refine Calls.callWith_builtin (by show (false || (backTo cpos (starEach es X.env)).any (·.1))=false;rw [hplain] <;> rfl) (Calls.evalArgs_plain ?_)
 exact thn hA fun us s2 ⟨vs,H2,I2,r2,q2⟩=>hm pins s2 σ H2 x vs v us Q I2 r1 r2 q2
end
end L2
namespace L2
open PySem PySem.Spec PyProof.Rows
def MtM (X:Cx) (id:String) (r:V→List V→Hp→VK→Prop):Prop:=
 ∀ (pins:List (Addr × Obj)) (s:Shared) (σ:St) (H:Hp) (x:V) (xs:List V) (v:Value) (us:List Value) (Q:VK),Inv X pins σ H s→RelV x v→Vals xs us→r x xs H Q→
  wpAny (model X.prog X.w) X.A (call (.builtin id) (v::us)) (EP X pins σ Q) X.xe s
theorem Vals.one:∀ {x:V} {us:List Value},Vals [x] us→∃ u,us=[u]∧RelV x u
 | _,_,.cons r .nil=>⟨_,rfl,r⟩
theorem Vals.zero:∀ {us:List Value},Vals [] us→us=[]
 | _,.nil=>rfl
theorem Vals.dropLast {xs:List V} {us:List Value} (h:Vals xs us):Vals xs.dropLast us.dropLast:=by
 induction h with
 | nil=>exact .nil
 | cons r t ih=>
  cases t with
  | nil=>exact .nil
  | cons q t'=>exact .cons r ih
theorem Vals.eraseIdx:∀ {xs:List V} {us:List Value} (i:Nat),Vals xs us→Vals (xs.eraseIdx i) (us.eraseIdx i)
 | _,_,_,.nil=>.nil
 | _,_,0,.cons _ t=>t
 | _,_,i+1,.cons r t=>.cons r (Vals.eraseIdx i t)
theorem Vals.rep {xs:List V} {us:List Value} (h:Vals xs us):∀ k:Nat,Vals (List.replicate k xs).flatten (List.replicate k us).flatten
 | 0=>.nil
 | k+1=>by
  rw [List.replicate_succ,List.replicate_succ,List.flatten_cons,List.flatten_cons]
  exact Vals.append h (Vals.rep h k)
theorem qSN {α:Type} (l:List α):l.eraseIdx (l.length - 1)=l.dropLast:=by
 induction l with
 | nil=>rfl
 | cons a r ih=>
  cases r with
  | nil=>rfl
  | cons b r=>
   have e:(a::b::r).length - 1=((b::r).length - 1)+1:=by
    have h1:(a::b::r).length=r.length+2:=rfl
    have h2:(b::r).length=r.length+1:=rfl
    omega
   rw [e,List.eraseIdx_cons_succ,ih]
   all_goals rfl
theorem qO5 {α:Type}:∀ (l:List α) (i:Nat),(l.eraseIdx i).length≤l.length
 | [],_=>Nat.le_refl _
 | _::_,0=>Nat.le_succ _
 | _::r,i+1=>Nat.succ_le_succ (qO5 r i)
theorem qOJ (its:List Value):∀ (k:Nat) (acc:List Value),
  List.foldl (fun x1 x2=>x1++x2) acc.toArray (List.replicate k its.toArray)=(acc++(List.replicate k its).flatten).toArray
 | 0,acc=>by simp
 | k+1,acc=>by
  have e:acc.toArray++its.toArray=(acc++its).toArray:=by simp
  have e2:(acc++its)++(List.replicate k its).flatten=acc++(List.replicate (k+1) its).flatten:=by
   rw [List.replicate_succ,List.flatten_cons,List.append_assoc]
  rw [← e2,← qOJ its k (acc++its),← e,List.replicate_succ,List.foldl_cons]
section
variable {X:Cx} {pins:List (Addr × Obj)} {σ:St} {H:Hp} {s:Shared} {l b:Addr} {xs ys zs:List V}
theorem Inv.lset {its its':List Value} {n:Nat} {f:Array Value→Array Value} {t':Nat} (I:Inv X pins σ H s) (hH:H l=some (.lst xs))
  (e:s.heap.get? l=some { cls:=.type "list",data:=.seq its.toArray n }) (hf:f its.toArray=its'.toArray) (hv:Vals ys its') (hz:ys.length≤sizeLine) :
  Inv X pins σ (upd H l (.lst ys)) { s with heap:=s.heap.update l (Obj.mapSeq f),toks:=t' }:=by
 have q:=PySem.IsL.update e f
 rw [hf] at q
 refine I.write (x:=l) (e:=l) (by rw [hH];exact trivial) (.inl rfl) (fun b' u hb hu=>(Heap.get?_update_other s.heap (Obj.mapSeq f) (Ne.symm hb)).trans hu) ⟨_,q⟩ ?_
 exact ⟨hz,its',_,hv,q⟩
theorem Inv.lnew {its:List Value} {t':Nat} (I:Inv X pins σ H s) (hv:Vals ys its) (hz:ys.length≤sizeLine) :
  Inv X pins σ (upd H s.heap.objs.size (.lst ys)) { s with heap:=s.heap.push { cls:=.type "list",data:=.seq its.toArray },toks:=t' }:=
 I.laid (fun _ _ q=>Heap.get?_push_of_some _ q) (Nat.le_refl _) ⟨hz,its,0,hv,Heap.get?_push_size _ rfl⟩
theorem Inv.fresh (I:Inv X pins σ H s):H s.heap.objs.size=none:=I.hok.fresh (Nat.le_refl _)
theorem Inv.lstM (I:Inv X pins σ H s) (hH:H l=some (.lst xs)):xs.length≤sizeLine∧∃ (its:List Value) (n:Nat),Vals xs its∧xs.length=its.length∧s.heap.get? l=some { cls:=.type "list",data:=.seq its.toArray n }:=by
 obtain ⟨z,its,n,r,e⟩:=I.hok l _ hH
 exact ⟨z,its,n,r,r.length,e⟩
theorem qR9 {n:Nat} (h:n≤sizeLine):Builtin.List.listTooLong n=false:=by
 unfold Builtin.List.listTooLong
 exact decide_eq_false (by omega)
end
section
variable {X:Cx}
def qYA:V→List V→Hp→VK→Prop:=fun x vs H Q=>∃ l xs y,x=.ref l∧vs=[y]∧H l=some (.lst xs)∧xs.length<sizeLine∧Q .non (upd H l (.lst (xs++[y])))
theorem qDD:MtM X "list.append" qYA:=by
 intro pins s σ H x vs v us Q I rx rv h
 obtain ⟨l,xs,y,rfl,rfl,hH,hz,q⟩:=h
 cases rx
 obtain ⟨u,rfl,ru⟩:=rv.one
 obtain ⟨z,its,n,r,hl,e⟩:=I.lstM hH
 refine call_meets F.slot_list_append ⟨_,e,rfl⟩ F.entry_list_append (F.args_list_append_2 _ _) (PySem.list_append l its.toArray n u (by rw [List.size_toArray];omega)) ⟨e,?_⟩
 refine ⟨.non,_,I.lset (its':=its++[u]) hH e (by simp) (r.append (.cons ru .nil)) ?_,rfl,q⟩
 rw [List.length_append,List.length_singleton]
 omega
def qY9:V→List V→Hp→VK→Prop:=fun x vs H Q=>∃ l b xs zs,x=.ref l∧vs=[.ref b]∧H l=some (.lst xs)∧H b=some (.lst zs)∧xs.length+zs.length≤sizeLine∧Q .non (upd H l (.lst (xs++zs)))
theorem qJY:MtM X "list.extend" qY9:=by
 intro pins s σ H x vs v us Q I rx rv h
 obtain ⟨l,b,xs,zs,rfl,rfl,hH,hB,hz,q⟩:=h
 cases rx
 obtain ⟨u,rfl,ru⟩:=rv.one
 cases ru
 obtain ⟨z,its,n,r,hl,e⟩:=I.lstM hH
 obtain ⟨z2,its2,n2,r2,hl2,e2⟩:=I.lstM hB
 have hsz:its.toArray.size+its2.toArray.size≤sizeLine:=by rw [List.size_toArray,List.size_toArray];omega
 have hlong:¬ (!its.toArray.isEmpty && Builtin.List.listTooLong (its.toArray.size+its2.toArray.size))=true:=by
  rw [qR9 hsz,Bool.and_false]
  exact Bool.false_ne_true
 refine call_meets F.slot_list_extend ⟨_,e,rfl⟩ F.entry_list_extend (F.args_list_extend_2 _ _)
  (AutoSeq1.list_extend_list_list_0 l its.toArray n b its2.toArray n2 hlong (by rw [List.size_toArray];omega) (by omega)) ⟨e,e2,?_⟩
 refine ⟨.non,_,I.lset (its':=its++its2) hH e (by simp) (r.append r2) ?_,rfl,q⟩
 rw [List.length_append]
 omega
def rPop:V→List V→Hp→VK→Prop:=fun x vs H Q=>∃ l xs y,x=.ref l∧vs=[]∧H l=some (.lst xs)∧xs[xs.length - 1]?=some y∧Q y (upd H l (.lst xs.dropLast))
theorem qaB:MtM X "list.pop" rPop:=by
 intro pins s σ H x vs v us Q I rx rv h
 obtain ⟨l,xs,y,rfl,rfl,hH,hy,q⟩:=h
 cases rx
 have hus:=rv.zero
 subst hus
 obtain ⟨z,its,n,r,hl,e⟩:=I.lstM hH
 obtain ⟨u,hu,ru⟩:=r.get hy
 have hy':its.toArray[its.toArray.size - 1]?=some u:=by
  show its.toArray[its.length - 1]?=some u
  rw [← Array.getElem?_toList,← hl]
  exact hu
 refine call_meets F.slot_list_pop ⟨_,e,rfl⟩ F.entry_list_pop (F.args_list_pop_1 _) (MeetsSeq.list_pop_last l its.toArray n u hy' (by rw [List.size_toArray];omega)) ⟨e,?_⟩
 refine ⟨y,_,I.lset (its':=its.dropLast) hH e ?_ r.dropLast ?_,ru,q⟩
 ·show its.toArray.eraseIdxIfInBounds (its.toArray.size - 1)=its.dropLast.toArray
  rw [List.size_toArray,List.eraseIdxIfInBounds_toArray,qSN]
 ·rw [List.length_dropLast]
  omega
def rCat:R2:=fun x y H Q=>∃ l b xs zs,x=.ref l∧y=.ref b∧H l=some (.lst xs)∧H b=some (.lst zs)∧xs.length+zs.length≤sizeLine∧∀ p,H p=none→Q (.ref p) (upd H p (.lst (xs++zs)))
theorem qJX:OpR X (binaryOp .Add) rCat:=by
 intro pins s σ H x y v u Q I rx ry h
 obtain ⟨l,b,xs,zs,rfl,rfl,hH,hB,hz,q⟩:=h
 cases rx
 cases ry
 obtain ⟨z,its,n,r,hl,e⟩:=I.lstM hH
 obtain ⟨z2,its2,n2,r2,hl2,e2⟩:=I.lstM hB
 refine PySem.P.add_list e e2 ?_ (by rw [List.size_toArray,List.size_toArray];omega)
 have ea:its.toArray++its2.toArray=(its++its2).toArray:=by simp
 rw [ea]
 exact ⟨.ref _,_,I.lnew (t':=s.toks) (r.append r2) (by rw [List.length_append];omega),rfl,q _ I.fresh⟩
def rRep:R2:=fun x y H Q=>∃ l k xs,x=.ref l∧y=.int k∧H l=some (.lst xs)∧-(2 ^ 63)≤k∧k<2 ^ 63∧xs.length * k.toNat≤sizeLine∧
 ∀ p,H p=none→Q (.ref p) (upd H p (.lst (List.replicate k.toNat xs).flatten))
theorem qYP {α:Type} (xs:List α) (k:Nat):(List.replicate k xs).flatten.length=k * xs.length:=by
 induction k with
 | zero=>simp
 | succ k ih=>rw [List.replicate_succ,List.flatten_cons,List.length_append,ih,Nat.succ_mul,Nat.add_comm]
theorem qNR:OpR X (binaryOp .Mult) rRep:=by
 intro pins s σ H x y v u Q I rx ry h
 obtain ⟨l,k,xs,rfl,rfl,hH,h1,h2,hz,q⟩:=h
 cases rx
 obtain ⟨t,rfl⟩:=ry
 obtain ⟨z,its,n,r,hl,e⟩:=I.lstM hH
 have hlen:its.toArray.size * k.toNat≤sizeLine:=by rw [List.size_toArray,← hl];exact hz
 have hcap:¬ its.toArray.size * k.toNat > (2 ^ 63 - 1) / 8:=by
  have:(sizeLine:Nat)≤(2 ^ 63 - 1) / 8:=by decide
  omega
 have hfit:¬ (!Builtin.List.listFitsIndex k)=true:=by
  rw [fitsIndex_both h1 h2]
  exact Bool.false_ne_true
 have hlong:¬ Builtin.List.listTooLong (its.toArray.size * k.toNat)=true:=by
  rw [qR9 hlen]
  exact Bool.false_ne_true
 have hnew:List.foldl (fun x1 x2=>x1++x2) #[] (List.replicate (if its.toArray.isEmpty=true then 0 else k.toNat) its.toArray)=(List.replicate k.toNat its).flatten.toArray:=by
  have f0:∀ m:Nat,List.foldl (fun x1 x2=>x1++x2) #[] (List.replicate m its.toArray)=(List.replicate m its).flatten.toArray:=fun m=>by
   have:=qOJ its m []
   rw [List.nil_append] at this
   exact this
  rw [f0]
  cases its with
  | nil=>simp
  | cons a r'=>rw [if_neg (by simp)]
 refine wpAny_binaryOp_repeat_ref (T:="list") (U:="int") (by decide) ⟨_,e,rfl⟩ (fun s'=>typeIs_int s' k t) noFill_list_mul F.fills_int_mul F.slot_int_rmul repeat_list F.slot_int_index.lookup
  (call_meets F.slot_int_rmul (typeIs_int s k t) F.entry_int_rmul (F.args_int_rmul_2 _ _) (int___rmul___int_list k t l its.toArray n)
   ⟨e,rfl,⟨_,e,rfl⟩,call_meets F.slot_list_mul ⟨_,e,rfl⟩ F.entry_list_mul (F.args_list_mul_2 _ _) (AutoListH.list___mul___list_int_3 l its.toArray n k t hfit hcap hlong) ⟨e,?_⟩⟩)
 rw [hnew]
 exact ⟨.ref _,_,I.lnew (t':=s.toks) (r.rep k.toNat) (by rw [qYP,Nat.mul_comm];exact hz),rfl,q _ I.fresh⟩
end
section
variable {prog:Program} {w:World} {A:Around} {E:Value→Shared→Prop} {s:Shared}
set_option maxRecDepth 100000 in
end
section
variable {X:Cx}
end
end L2
namespace Att
open PySem PySem.W PySem.Calls PyProof.Rows
theorem qK8 {P:Params} {h:Heap}:∀ (ns:List Int) (vs:List Value),WellAll P h vs (ns.map WData.int)→IntsAre vs ns:=by
 intro ns
 induction ns with
 | nil=>
  intro vs w
  rw [List.map_nil] at w
  cases w
  exact .nil
 | cons n ns ih=>
  intro vs w
  rw [List.map_cons] at w
  cases w with
  | cons a b=>
   cases a
   exact .cons _ _ (ih _ b)
theorem qTH {l:OpenLaw} {n:Nat} (hn:l.most=some n) {P:Params} {h:Heap} {args:List WData} {vals:List Value}
  (hpre:l.row.toRowW.claim.pre args=true) (hwl:WellAll P h vals args) :
  ∃ a vs ns,vals=[Value.ref a]∧args=[WData.list (ns.map WData.int)]∧h.get? a=some { cls:=.type "list",data:=.seq vs.toArray }∧IntsAre vs ns∧ns.length≤n:=by
 have hsh:WShape.hasAll [] args [.list .int]=true:=(pre_splitW hpre).1
 have hc:l.pre.holds [] { args:=args }=true:=(pre_splitW hpre).2
 obtain ⟨d,r,rfl,h1,h2⟩:=hasAllW_cons hsh
 obtain rfl:=hasAllW_nil h2
 obtain ⟨xs,rfl,h3⟩:=hasW_list h1
 obtain ⟨ns,rfl⟩:=items_int h3
 have hlen:ns.length≤n:=by
  unfold OpenLaw.pre at hc
  have h4:(WTm.not (.lt (.lit (.int (n:Int))) (.len (.arg 0)))).holds [] { args:=[.list (ns.map .int)] }=true:=by
   have h4:=(holds_andW hc).1
   rw [hn] at h4
   exact h4
  have h5:=condW_of h4 (w_not (w_lt w_lit (w_len_list (w_arg rfl))))
  rw [List.length_map] at h5
  refine Nat.le_of_not_lt fun q=>?_
  have q':(n:Int)<((ns.length:Nat):Int):=by omega
  first
   | (rw [decide_eq_true q'] at h5;exact absurd h5 (by decide))
   | (simp at h5;omega)
 cases hwl with
 | cons w1 w2=>
  cases w2
  cases w1 with
  | list ho hall=>exact ⟨_,_,ns,rfl,rfl,ho,qK8 ns _ hall,hlen⟩
theorem qTP (l:OpenLaw) (args:List WData):l.row.toRowW.claim.post args (.bool true) args=true:=
 postW_of (r:=l.row.toRowW) (X:=(true == true))
  (show WShape.has [] (.bool true) .bool=true by first | rfl | decide | simp [WShape.has,WShape.arms,WShape.armsAll])
  (show (WTm.eq .res (.lit (.bool true))).value [] { args:=args,res:=some (.bool true),after:=args }=some (.bool (true == true)) from w_eq_bool (w_res rfl) w_lit) rfl
theorem attach_call {l:OpenLaw} {n:Nat} {q:Program} {loose:List Str} {XP:(Str→Option Value)→Heap→Prop} {YP:World→Heap→Prop} {d:DefRec}
  (hn:l.most=some n) (hdf:d.params.defaults=[])
  (call:∀ (w:World) (s₀ s₁:Shared) (mg mb:Str→Option Value) (fa:Addr) (o:Obj) (pm cd doc:Value) (a:Addr) (vs:List Value) (ns:List Int),
   Ground q loose [] XP w s₀ mg mb s₁.heap→YP w s₁.heap→
   s₁.heap.get? fa=some o→o.data=.func (docDef d.name d.params d.body d.scope pm cd doc)→s₁.heap.CodeRec cd d.name→mg d.name=some (.ref fa)→
   s₁.heap.get? a=some { cls:=.type "list",data:=.seq vs.toArray }→IntsAre vs ns→ns.length≤n→s₁.gens=#[]→
   codeAny (model l.prog w) callerA (.call (.ref fa) ⟨[.ref a],[]⟩) (fun r s'=>r=.ok (.ret (.bool true))∧OldK s₁.heap s'.heap∧s'.os=s₁.os∧AllBare s'.gens) s₁) :
  WalkO q loose XP YP l.row.toRowW d [] (fun f vs=>PySem.call f vs):=by
 intro w s₀ s₁ mg mb G Y fa o pm cd doc dV kV ho hd hcd hD hmg hg args vals as hpre hlay hrd hwl hlo
 obtain rfl:dV=.none:=Dflts.none hD hdf
 obtain rfl:kV=.none:=Dflts.noKw hD
 obtain ⟨a,vs,ns,rfl,rfl,hobj,hints,hlen⟩:=qTH hn hpre hwl
 refine enter_call (codeAny_mono (call w s₀ s₁ mg mb fa o pm cd doc a vs ns G Y ho (fd_plain hd) hcd hmg hobj hints hlen hg) fun r s' hq=>?_)
 obtain ⟨rfl,h2,h3,h4⟩:=hq
 exact ⟨.inl ⟨.bool true,.bool true,[],rfl,fun _=>rfl,.bool true,qTP l _,fun _=>⟨List.Pairwise.nil,fun _ hm=>(nomatch hm)⟩⟩,h2,h3,h4⟩
section
variable {prog:Program} {w:World} {A:Around} {E:Value→Shared→Prop} {s:Shared} {K:Frag}
end
end Att
namespace L2
open PySem PySem.Spec PyProof.Rows
theorem qJD:∀ {vs:List Value} {ns:List Int},IntsAre vs ns→Vals (ns.map V.int) vs
 | _,_,.nil=>.nil
 | _,_,.cons n t h=>.cons ⟨t,rfl⟩ (qJD h)
end L2
namespace L2
open PySem PySem.Spec PyProof.Rows
end L2
namespace L2
open PySem PySem.Spec PyProof.Rows
def qFW (s:Stmt):Arguments:=match s with
 | .FunctionDef _ a _ _ _ _ _ _ _ _=>a
 | _=>{ posonlyargs:=[],args:=[],vararg:=none,kwonlyargs:=[],kw_defaults:=[],kwarg:=none,defaults:=[] }
def qEN (s:Stmt):List Stmt:=match s with
 | .FunctionDef _ _ b _ _ _ _ _ _ _=>b
 | _=>[]
def qAB (s:Stmt):Scope:=match s with
 | .FunctionDef _ _ _ _ _ _ sc _ _ _=>sc
 | _=>{ kind:=.function,names:=[],isGenerator:=false,isCoroutine:=false }
abbrev CX0:CXT:=fun _ _ _ _ _ _=>False
abbrev E0:XK:=fun _ _ _=>False
theorem qa4 {X:Cx}:qVN CX0 X E0:=fun _ _ _ _ _ _ _ h=>h.elim
structure Fun (K:PySem.W.Frag) (x qual:Str) (st:Stmt) (f:Addr) (fd:FuncData):Prop where
 ex:∃ (oc:Value) (od:Option Addr) (kV doc pm:Value) (an:Option Addr) (cdv ct:Value) (osl:Array (Option Value)),
  fd=PySem.W.fnOf x qual (qFW st) (qEN st) (qAB st) .none kV doc pm an cdv ct∧K.lookup f=some ⟨oc,od,.func fd,osl⟩∧PySem.W.codeIn K cdv qual=true
 kp:PySem.W.keepIn K (.ref f)=true
section
variable {P:Program} {w:World} {K:PySem.W.Frag} {mg:Str→Option Value} {base:Heap}
theorem Fun.ok {x qual:Str} {st:Stmt} {f:Addr} {fd:FuncData} {N ps:List Str} {k:Nat} {sp:Sp} (F:Fun K x qual st f fd) (S:FnScope N ps (qAB st)) (len:∀ vs H Q E,sp vs H Q E→vs.length=ps.length)
  (hbody:∀ (cdv:Value) (A:Around) (outer:List Env) (s:Shared) (H:Hp) (vs:List V) (Q:VK) (E:XK),Room k (A.deeper (envOfC qual (qAB st) s.heap.objs.size f cdv))→sp vs H Q E→
   ∃ t,PSs (cxOf CX0 P w K mg base N qual (qAB st) f cdv A outer s H E).nox (qEN st) t∧t { nx:=fun _ H'=>Q .non H',rt:=Q } (qLX N vs) H):FnOk P w K mg base CX0 (k+1) f fd ps sp:=by
 obtain ⟨oc,od,kV,doc,pm,an,cdv,ct,osl,rfl,lk,hcd⟩:=F.ex
 refine qaT lk hcd S len fun A outer s H vs Q E hr hsp=>?_
 obtain ⟨t,h,q⟩:=hbody cdv A outer s H vs Q E hr hsp
 exact ⟨t,h.nox,q⟩
theorem Fun.binds {x qual:Str} {st:Stmt} {f:Addr} {fd:FuncData} {ps:List Str} (F:Fun K x qual st f fd)
  (h:∀ (kV doc pm:Value) (an:Option Addr) (cdv ct:Value) (us:List Value),us.length=ps.length→bindArgs (PySem.W.fnOf x qual (qFW st) (qEN st) (qAB st) .none kV doc pm an cdv ct) ⟨us,[]⟩=pure (ps.zip us)):Binds K fd ps []:=by
 obtain ⟨oc,od,kV,doc,pm,an,cdv,ct,osl,rfl,lk,hcd⟩:=F.ex
 exact .all (h kV doc pm an cdv ct)
theorem fun_mk {x qual:Str} {st:Stmt} {f:Addr} {oc:Value} {od an:Option Addr} {osl:Array (Option Value)} {kV doc pm cdv ct:Value} (l:K.lookup f=some ⟨oc,od,.func (PySem.W.fnOf x qual (qFW st) (qEN st) (qAB st) .none kV doc pm an cdv ct),osl⟩)
  (c:PySem.W.codeIn K cdv qual=true) (k:PySem.W.keepIn K (.ref f)=true):Fun K x qual st f (PySem.W.fnOf x qual (qFW st) (qEN st) (qAB st) .none kV doc pm an cdv ct):=⟨⟨oc,od,kV,doc,pm,an,cdv,ct,osl,rfl,l,c⟩,k⟩
end
theorem qKA {A:Around} {k:Nat} (hr:Room k A):A.units+1<cLine:=Nat.lt_of_le_of_lt (Nat.add_le_add_left (by decide:1≤64) _) hr.units
theorem qAX {n:Nat} (h:n≤1000):n<sizeLine:=Nat.lt_of_le_of_lt h (by decide)
section
variable {X:Cx}
theorem pv (i:Nat) {x:Str} {pos:Pos} (hN:X.N[i]?=some x:=by rfl) (hv:Vis X.env.scope x:=by first | exact Or.inl rfl | exact Or.inr (Or.inl rfl) | exact Or.inr (Or.inr rfl)) (hd:(x == ("__debug__" : Str))=false:=by decide)
  (hcd:(x == ("__classdict__" : Str))=false:=by decide):PE X (.Name x pos) (tVar i):=qa0 hN hv hd hcd
end
theorem iteF {A B:Prop} (h:B):if false=true then A else B:=by
 rw [if_neg Bool.false_ne_true]
 exact h
theorem iteT {A B:Prop} (h:A):if true=true then A else B:=by
 rw [if_pos rfl]
 exact h
theorem ite2 {c A B:Prop} [Decidable c] (h1:c→A) (h2:¬ c→B):if c then A else B:=by
 by_cases h:c
 ·rw [if_pos h]
  exact h1 h
 ·rw [if_neg h]
  exact h2 h
def Same (H H':Hp):Prop:=∀ b o,H b=some o→H' b=some o
theorem Same.refl (H:Hp):Same H H:=fun _ _ h=>h
theorem Same.trans {H H1 H2:Hp} (a:Same H H1) (b:Same H1 H2):Same H H2:=fun c o h=>b c o (a c o h)
theorem Same.free {H H':Hp} (e:Same H H') {l:Addr} (h:H' l=Option.none):H l=Option.none:=by
 cases q:H l with
 | none=>rfl
 | some o=>
  rw [e l o q] at h
  cases h
end L2
namespace L2
open PySem PySem.Spec PyProof.Rows
section
variable {κ:Type} [DecidableEq κ]
def valV (kvs:List (κ × V)) (k:κ):Option V:=(kvs.find? fun kv=>decide (kv.1=k)).map (·.2)
def putK (kvs:List (κ × V)) (k:κ) (v:V):List (κ × V):=
 if (kvs.any fun kv=>decide (kv.1=k))=true then kvs.map (fun kv=>if kv.1=k then (kv.1,v) else kv) else kvs++[(k,v)]
theorem qBT {p:κ × V} {r:List (κ × V)} {k:κ} (e:p.1=k):valV (p::r) k=some p.2:=by simp [valV,List.find?_cons,e]
theorem qBO {p:κ × V} {r:List (κ × V)} {k:κ} (e:¬ p.1=k):valV (p::r) k=valV r k:=by simp [valV,List.find?_cons,e]
theorem qGB (k:κ):∀ kvs:List (κ × V),(kvs.any fun kv=>decide (kv.1=k))=(valV kvs k).isSome
 | []=>rfl
 | p::r=>by
  rw [List.any_cons]
  by_cases e:p.1=k
  ·simp only [qBT e,decide_eq_true e,Bool.true_or,Option.isSome_some]
  ·rw [qBO e,decide_eq_false e,Bool.false_or];exact qGB k r
theorem qQH (k j:κ) (y:V):∀ kvs:List (κ × V),valV (kvs.map fun kv=>if kv.1=k then (kv.1,y) else kv) j=(valV kvs j).map fun x=>if j=k then y else x
 | []=>rfl
 | p::r=>by
  have ih:=qQH k j y r
  rw [List.map_cons]
  by_cases h:p.1=k
  ·rw [if_pos h]
   by_cases e:p.1=j
   ·rw [qBT (p:=(p.1,y)) e,qBT e,Option.map_some,if_pos (e.symm.trans h)]
   ·rw [qBO (p:=(p.1,y)) e,qBO e,ih]
  ·rw [if_neg h]
   by_cases e:p.1=j
   ·rw [qBT (p:=p) e,qBT e,Option.map_some,if_neg (fun z=>h (e.trans z))]
   ·rw [qBO (p:=p) e,qBO e,ih]
theorem qN4 (k j:κ) (y:V):∀ kvs:List (κ × V),valV kvs k=none→valV (kvs++[(k,y)]) j=if j=k then some y else valV kvs j
 | [],_=>by
  by_cases e:k=j
  ·rw [if_pos e.symm];exact qBT (p:=(k,y)) e
  ·rw [if_neg (fun z=>e z.symm)];exact qBO (p:=(k,y)) e
 | p::r,hn=>by
  rw [List.cons_append]
  have hk:¬ p.1=k:=fun z=>by rw [qBT z] at hn;cases hn
  rw [qBO hk] at hn
  have ih:=qN4 k j y r hn
  by_cases e:p.1=j
  ·rw [qBT e,qBT e,if_neg (fun z=>hk (e.trans z))]
  ·rw [qBO e,qBO e,ih]
theorem qLQ (kvs:List (κ × V)) (k j:κ) (y:V):valV (putK kvs k y) j=if j=k then some y else valV kvs j:=by
 unfold putK
 by_cases a:(kvs.any fun kv=>decide (kv.1=k))=true
 ·rw [if_pos a,qQH]
  rw [qGB] at a
  by_cases e:j=k
  ·obtain ⟨x,hx⟩:=Option.isSome_iff_exists.mp a
   rw [if_pos e,e,hx,Option.map_some,if_pos rfl]
  ·rw [if_neg e]
   cases valV kvs j with
   | none=>rfl
   | some x=>rw [Option.map_some,if_neg e]
 ·rw [if_neg a]
  refine qN4 k j y kvs ?_
  rw [qGB] at a
  cases q:valV kvs k with
  | none=>rfl
  | some x=>rw [q] at a;exact (a rfl).elim
theorem qCV (kvs:List (κ × V)) (k:κ) (v:V):(putK kvs k v).length≤kvs.length+1:=by
 unfold putK
 split
 ·rw [List.length_map];omega
 ·rw [List.length_append,List.length_cons,List.length_nil];omega
theorem qQX {kvs:List (κ × V)} {k:κ} (v:V) (h:valV kvs k=none):putK kvs k v=kvs++[(k,v)]:=by
 unfold putK
 rw [qGB,h]
 exact if_neg (by decide)
theorem RelO.isSome_eq {o:Option V} {u:Option Value} (r:RelO o u):o.isSome=u.isSome:=by
 cases o with
 | none=>cases u with
  | none=>rfl
  | some _=>exact (show False from r).elim
 | some _=>cases u with
  | none=>exact (show False from r).elim
  | some _=>rfl
theorem RelO.getD {o:Option V} {u:Option Value} {d:V} {d':Value} (r:RelO o u) (rd:RelV d d'):RelV (o.getD d) (u.getD d'):=by
 cases o with
 | none=>cases u with
  | none=>exact rd
  | some _=>exact (show False from r).elim
 | some _=>cases u with
  | none=>exact (show False from r).elim
  | some _=>exact r
theorem KV.val {kvs:List (κ × V)} {vs:List (κ × Value)} (r:KV kvs vs) (k:κ):RelO (valV kvs k) (valueAt vs k):=by
 unfold KV at r
 induction r with
 | nil=>exact True.intro
 | @cons p q ps qs h t ih=>
  obtain ⟨h1,h2⟩:=h
  by_cases e:p.1=k
  ·have e':q.1=k:=h1.symm.trans e
   have b:valueAt (q::qs) k=some q.2:=by simp [valueAt,List.find?_cons,e']
   rw [qBT e,b];exact h2
  ·have e':¬ q.1=k:=fun z=>e (h1.trans z)
   have b:valueAt (q::qs) k=valueAt qs k:=by simp [valueAt,List.find?_cons,e']
   rw [qBO e,b];exact ih
theorem KV.any {kvs:List (κ × V)} {vs:List (κ × Value)} (r:KV kvs vs) (k:κ):(kvs.any fun kv=>decide (kv.1=k))=vs.any fun kv=>decide (kv.1=k):=by
 unfold KV at r
 induction r with
 | nil=>rfl
 | cons h t ih=>rw [List.any_cons,List.any_cons,ih,h.1]
theorem KV.repl {kvs:List (κ × V)} {vs:List (κ × Value)} (r:KV kvs vs) (k:κ) {y:V} {u:Value} (ry:RelV y u) :
  KV (kvs.map fun kv=>if kv.1=k then (kv.1,y) else kv) (vs.map fun kv=>if kv.1=k then (kv.1,u) else kv):=by
 unfold KV at r ⊢
 induction r with
 | nil=>exact .nil
 | @cons p q ps qs h t ih=>
  rw [List.map_cons,List.map_cons]
  refine .cons ?_ ih
  obtain ⟨h1,h2⟩:=h
  by_cases e:p.1=k
  ·rw [if_pos e,if_pos (h1.symm.trans e)];exact ⟨h1,ry⟩
  ·rw [if_neg e,if_neg (fun z=>e (h1.trans z))];exact ⟨h1,h2⟩
theorem KV.put {kvs:List (κ × V)} {vs:List (κ × Value)} (r:KV kvs vs) (k:κ) {y:V} {u:Value} (ry:RelV y u):KV (putK kvs k y) (stored vs k u):=by
 unfold putK stored
 rw [r.any k]
 by_cases e:(vs.any fun kv=>decide (kv.1=k))=true
 ·rw [if_pos e,if_pos e];exact r.repl k ry
 ·rw [if_neg e,if_neg e];exact Paired.snoc r ⟨rfl,ry⟩
theorem KV.length {kvs:List (κ × V)} {vs:List (κ × Value)} (r:KV kvs vs):kvs.length=vs.length:=Paired.length r
end
theorem qSH {P:Program} {w:World} {k:Key} {u:Value} (r:RelV (kV k) u):(qB1 P w).is k u=true:=by
 cases k with
 | inl i=>obtain ⟨t,e⟩:=(show ∃ t,u=Value.int i t from r);subst e;exact qPT P w i t
 | inr x=>obtain ⟨t,e⟩:=(show ∃ t,u=Value.str x t from r);subst e;exact qPS P w x t
theorem qOF {P:Program} {w:World}:∀ {ks:List Key} {us:List Value},Vals (ks.map kV) us→ItemsAre (qB1 P w) ks us
 | [],_,r=>by rw [List.map_nil] at r;cases r;exact .nil
 | k::ks,_,r=>by
  rw [List.map_cons] at r
  cases r with
  | cons h t=>exact .cons (qSH h) (qOF t)
abbrev KT (H:Hp):List (List Key × V)→List (List Key × Addr × Value)→Prop:=Paired fun p q=>p.1=q.1∧H q.2.1=some (.tup (p.1.map kV))∧RelV p.2 q.2.2
theorem KT.val {H:Hp} {kvs:List (List Key × V)} {xs:List (List Key × Addr × Value)} (r:KT H kvs xs) (k:List Key):RelO (valV kvs k) ((atKey xs k).map (·.2)):=by
 induction r with
 | nil=>exact True.intro
 | @cons p q ps qs h t ih=>
  obtain ⟨h1,_,h2⟩:=h
  by_cases e:p.1=k
  ·have e':q.1=k:=h1.symm.trans e
   have b:atKey (q::qs) k=some q.2:=by simp [atKey,List.find?_cons,e']
   rw [qBT e,b];exact h2
  ·have e':¬ q.1=k:=fun z=>e (h1.trans z)
   have b:atKey (q::qs) k=atKey qs k:=by simp [atKey,List.find?_cons,e']
   rw [qBO e,b];exact ih
theorem KT.repl {H:Hp} {kvs:List (List Key × V)} {xs:List (List Key × Addr × Value)} (r:KT H kvs xs) (k:List Key) {y:V} {u:Value} (ry:RelV y u) :
  KT H (kvs.map fun kv=>if kv.1=k then (kv.1,y) else kv) (xs.map (putAt k u)):=by
 induction r with
 | nil=>exact .nil
 | @cons p q ps qs h t ih=>
  rw [List.map_cons,List.map_cons]
  refine .cons ?_ ih
  obtain ⟨h1,h2,h3⟩:=h
  unfold putAt
  by_cases e:p.1=k
  ·rw [if_pos e,if_pos (h1.symm.trans e)];exact ⟨h1,h2,ry⟩
  ·rw [if_neg e,if_neg (fun z=>e (h1.trans z))];exact ⟨h1,h2,h3⟩
theorem KT.put {H:Hp} {kvs:List (List Key × V)} {xs:List (List Key × Addr × Value)} (r:KT H kvs xs) (k:List Key) {b:Addr} {y:V} {u:Value} (hb:H b=some (.tup (k.map kV))) (ry:RelV y u) :
  KT H (putK kvs k y) (storedH xs k b u):=by
 have e:(kvs.any fun kv=>decide (kv.1=k))=(atKey xs k).isSome:=by
  rw [qGB,(r.val k).isSome_eq,Option.isSome_map]
 unfold putK storedH
 rw [e]
 by_cases q:(atKey xs k).isSome=true
 ·rw [if_pos q,if_pos q];exact r.repl k ry
 ·rw [if_neg q,if_neg q];exact Paired.snoc r ⟨rfl,hb,ry⟩
theorem KT.keeps {H H':Hp} {kvs:List (List Key × V)} {xs:List (List Key × Addr × Value)} (r:KT H kvs xs) (ht:∀ b ys,H b=some (.tup ys)→H' b=some (.tup ys)):KT H' kvs xs:=
 Paired.mapP r fun _ _ z=>⟨z.1,ht _ _ z.2.1,z.2.2⟩
section
variable {P:Program} {w:World} {H:Hp} {h:Heap} {a:Addr}
theorem qZW {u:HO} (ok:HOk P w H h) (e:Rd H a u):ObjOk P w H h a u:=e.ok ok
theorem qSP {kvs:List (Key × V)} (ok:HOk P w H h) (e:Rd H a (.dK kvs)):kvs.length≤sizeLine∧(a == sysModules)=false∧∃ vs,KV kvs vs∧h.DictOf (qB1 P w) a vs:=
 show ObjOk P w H h a (.dK kvs) from qZW ok e
theorem qUZ {kvs:List (Key × V)} (ok:HOk P w H h) (e:H a=some (.dK kvs)):kvs.length≤sizeLine∧(a == sysModules)=false∧∃ vs,KV kvs vs∧h.DictOf (qB1 P w) a vs:=qSP ok (.inl e)
theorem qO9 {ks:List Key} (ok:HOk P w H h) (e:H a=some (.tup (ks.map kV))):(tupleKind (qB1 P w)).is h ks a:=by
 obtain ⟨_,its,r,o,h1,h2,n,h3⟩:=(show ObjOk P w H h a (.tup (ks.map kV)) from ok a _ e)
 exact ⟨o,its.toArray,n,h1,h2,h3,by simpa using qOF r⟩
theorem qSO {kvs:List (List Key × V)} (ok:HOk P w H h) (e:Rd H a (.dT kvs)):kvs.length≤sizeLine∧(a == sysModules)=false∧
  ∃ xs,KT H kvs xs∧h.DictOfH (tupleKind (qB1 P w)) a xs:=by
 obtain ⟨z,y,xs,r,o,es,ep,h1,h2,h3,h4,h5⟩:=(show ObjOk P w H h a (.dT kvs) from qZW ok e)
 refine ⟨z,y,xs,r,o,es,ep,h1,h2,h3,h4,fun x hx=>?_,h5⟩
 have all:∀ {l:List (List Key × V)} {m:List (List Key × Addr × Value)},KT H l m→∀ x ∈ m,(tupleKind (qB1 P w)).is h x.1 x.2.1:=by
  intro l m q
  induction q with
  | nil=>intro x hx;exact nomatch hx
  | @cons p q ps qs hq t ih=>
   intro x hx
   rcases List.mem_cons.mp hx with e | hx
   ·subst e
    exact qO9 ok (by rw [← hq.1];exact hq.2.1)
   ·exact ih x hx
 exact all r x hx
theorem qbR {kvs:List (List Key × V)} (ok:HOk P w H h) (e:H a=some (.dT kvs)):kvs.length≤sizeLine∧(a == sysModules)=false∧
  ∃ xs,KT H kvs xs∧h.DictOfH (tupleKind (qB1 P w)) a xs:=qSO ok (.inl e)
end
def DGet (H:Hp) (a:Addr) (y:V) (r:Option V):Prop:=
 (∃ kvs k,Rd H a (.dK kvs)∧y=kV k∧r=valV kvs k)∨∃ kvs k b,Rd H a (.dT kvs)∧y=.ref b∧H b=some (.tup (k.map kV))∧r=valV kvs k
def DPut (H:Hp) (a:Addr) (y v:V) (H':Hp):Prop:=
 (∃ kvs k,H a=some (.dK kvs)∧y=kV k∧kvs.length<sizeLine∧H'=upd H a (.dK (putK kvs k v)))∨
 ∃ kvs k b,H a=some (.dT kvs)∧y=.ref b∧H b=some (.tup (k.map kV))∧kvs.length<sizeLine∧H'=upd H a (.dT (putK kvs k v))
theorem DGet.k {H:Hp} {a:Addr} {kvs:List (Key × V)} {k:Key} (e:H a=some (.dK kvs)):DGet H a (kV k) (valV kvs k):=.inl ⟨kvs,k,.inl e,rfl,rfl⟩
theorem DPut.k {H:Hp} {a:Addr} {kvs:List (Key × V)} {k:Key} {v:V} (e:H a=some (.dK kvs)) (hl:kvs.length<sizeLine):DPut H a (kV k) v (upd H a (.dK (putK kvs k v))):=.inl ⟨kvs,k,e,rfl,hl,rfl⟩
section
variable {X:Cx} {pins:List (Addr × Obj)} {σ:St} {H:Hp} {s:Shared} {a:Addr} {y v:V} {u r:Value} {o:Option V} {A:Around} {E:Value→Shared→Prop}
theorem Inv.big (I:Inv X pins σ H s):sysModules<s.heap.objs.size:=by
 have h:mainGlobals<s.heap.objs.size:=(I.mod.glob.keeps I.bk).lt
 exact Nat.lt_trans (by decide) h
theorem qV5 {Q:Value→Shared→Prop} (hu:A.units+1<cLine) (I:Inv X pins σ H s) (g:DGet H a y (some v)) (ry:RelV y u) (h:∀ w' s',Inv X pins σ H s'→RelV v w'→Q w' s') :
  wpAny (model X.prog X.w) A (getItem (.ref a) u) Q E s:=by
 rcases g with ⟨kvs,k,e,ey,l⟩ | ⟨kvs,k,b,e,ey,eb,l⟩
 ·subst ey
  obtain ⟨z,hd,vs,rel,dd⟩:=qSP I.hok e
  obtain ⟨w',hw,rw'⟩:=RelO.some_of (v:=v) (o:=valueAt vs k) (by rw [l];exact rel.val k)
  exact wpAny_getItem_of (qSH ry) dd.mapOf hw (h w' _ (I.tok _) rw')
 ·subst ey
  cases (show u=Value.ref b from ry)
  obtain ⟨z,hd,xs,rel,dd⟩:=qSO I.hok e
  obtain ⟨w',hw,rw'⟩:=RelO.some_of (v:=v) (o:=(atKey xs k).map (·.2)) (by rw [l];exact rel.val k)
  obtain ⟨p,hp,hp2⟩:=Option.map_eq_some_iff.mp hw
  refine wpAny_getItem_heap (tupleKind_room_in1 hu) (qO9 I.hok eb) dd hp ?_
  rw [hp2]
  exact h w' _ (I.tok _) rw'
theorem d_in {Q:Value→Shared→Prop} (hu:A.units+1<cLine) (I:Inv X pins σ H s) (g:DGet H a y o) (ry:RelV y u) (h:∀ s',Inv X pins σ H s'→Q (.bool o.isSome) s') :
  wpAny (model X.prog X.w) A (compareOp .In u (.ref a)) Q E s:=by
 rcases g with ⟨kvs,k,e,ey,l⟩ | ⟨kvs,k,b,e,ey,eb,l⟩
 ·subst ey
  obtain ⟨z,hd,vs,rel,dd⟩:=qSP I.hok e
  refine wpAny_in_of (qSH ry) hd dd.mapOf ?_
  rw [← (rel.val k).isSome_eq,← l]
  exact h _ (I.tok _)
 ·subst ey
  cases (show u=Value.ref b from ry)
  obtain ⟨z,hd,xs,rel,dd⟩:=qSO I.hok e
  refine wpAny_in_heap (tupleKind_room_in1 hu) (qO9 I.hok eb) hd dd ?_
  have q:=(rel.val k).isSome_eq
  rw [Option.isSome_map] at q
  rw [← q,← l]
  exact h _ (I.tok _)
theorem qQ7 {h':Heap} {t':Nat} {ob:HO} (I:Inv X pins σ H s) (mu:Mut (H a)) (hs:Heap.SameBut a s.heap h') (he:∃ q,h'.get? a=some q) (new:ObjOk X.prog X.w (upd H a ob) h' a ob) :
  Inv X pins σ (upd H a ob) { s with heap:=h',toks:=t' }:=
 I.write (x:=a) (e:=a) mu (.inl rfl) (fun b q hb z=>(hs.2 b hb).trans z) he new
theorem qV0 {P:Program} {w:World} {H':Hp} {h':Heap} {kvs:List (Key × V)} {vs:List (Key × Value)} (z:kvs.length≤sizeLine) (hd:(a == sysModules)=false) (rel:KV kvs vs) (dd:h'.DictOf (qB1 P w) a vs) :
  ObjOk P w H' h' a (.dK kvs):=⟨z,hd,vs,rel,dd⟩
theorem qV4 {H':Hp} {Q:Unit→Shared→Prop} (hu:A.units+1<cLine) (I:Inv X pins σ H s) (g:DPut H a y v H') (ry:RelV y u) (rv:RelV v r) (h:∀ s',Inv X pins σ H' s'→Q () s') :
  wpAny (model X.prog X.w) A (setItem (.ref a) u r) Q E s:=by
 rcases g with ⟨kvs,k,e,ey,l,eH⟩ | ⟨kvs,k,b,e,ey,eb,l,eH⟩
 ·subst ey eH
  obtain ⟨z,hd,vs,rel,dd⟩:=qUZ I.hok e
  have hz:vs.length≤sizeLine:=by rw [← rel.length];exact z
  have hl:(putK kvs k v).length≤sizeLine:=by have:=qCV kvs k v;omega
  refine wpAny_setItem_pairs (hsz:=hz) (qSH ry) dd fun h' dd' hs=>h _ ?_
  have he:∃ q,h'.get? a=some q:=let ⟨q,_,_,hq,_⟩:=dd';⟨q,hq⟩
  exact qQ7 I (by rw [e];exact True.intro) hs he (qV0 hl hd (rel.put k rv) dd')
 ·subst ey eH
  cases (show u=Value.ref b from ry)
  obtain ⟨z,hd,xs,rel,dd⟩:=qbR I.hok e
  have hz:xs.length≤sizeLine:=by rw [← Paired.length rel];exact z
  have hl:(putK kvs k v).length≤sizeLine:=by have:=qCV kvs k v;omega
  refine wpAny_setItem_heap (hsz:=hz) (tupleKind_room_in1 hu) (qO9 I.hok eb) dd fun h' dd' hs=>h _ ?_
  obtain ⟨q,es,ep,hq,h2,h3,h4,_,h5⟩:=dd'
  refine qQ7 I (by rw [e];exact True.intro) hs ⟨q,hq⟩ ⟨hl,hd,_,(rel.put k eb rv).keeps fun c ys ec=>?_,q,es,ep,hq,h2,h3,h4,h5⟩
  rw [qA7 (qC9 ec e (fun z=>nomatch z))]
  exact ec
end
section
variable {X:Cx} {pins:List (Addr × Obj)} {σ:St} {H:Hp} {s:Shared} {a:Addr} {kvs:List (Key × V)} {k:Key} {u:Value} {A:Around} {E:Value→Shared→Prop}
end
def NoSl (i:Expr):Prop:=∀ ov iv,subscripted i false ov iv=operate [ov,iv] (getItem ov iv)
theorem qY3 {prog:Program} {w:World} {A:Around} {E:Value→Shared→Prop} {s:Shared} {env:Env} {value slice:Expr} {pos:Pos} {T id:String} {Q:Value→Shared→Prop}
  (hl:typeLookup (.type T) "__getitem__" = pure (some (.builtin id))) (hs:NoSl slice)
  (h:wpAny (model prog w) A (eval value env) (fun o s₁=>wpAny (model prog w) A (eval slice env) (fun i s₂=>s₂.TypeIs o T∧wpAny (model prog w) A (getItem o i) Q E s₂) E s₁) E s) :
  wpAny (model prog w) A (eval (.Subscript value slice pos) env) Q E s:=by
 refine Subscript_ (wpAny_mono h (fun o s₁ h₁=>wpAny_mono h₁ (fun i s₂ h₂=>?_) fun _ _ x=>x) fun _ _ x=>x)
 obtain ⟨hT,h₂⟩:=h₂
 unfold subscriptTail
 refine wpAny_bind ?_
 rw [getitemInPython_of_ne hT.not_modules]
 refine wpAny_bind (wpAny_specialOf hT hl ?_)
 have fin:wpAny (model prog w) A (subscripted slice false o i) (fun r s₃=>wpAny (model prog w) A (letTemporaryGo value o r >>= fun _=>pure r) Q E s₃) E s₂:=by
  rw [hs o i]
  exact wpAny_operating (wpAny_mono h₂ (fun r s₃ h₃=>wpAny_bind (wpAny_letTemporaryGo (wpAny_pure h₃))) fun _ _ x=>x)
 first
  | exact wpAny_pure (wpAny_bind fin)
  | exact wpAny_bind (wpAny_pure (wpAny_bind fin))
  | exact wpAny_bind fin
theorem qQ6 {X:Cx} {pins:List (Addr × Obj)} {σ:St} {H:Hp} {s:Shared} {a:Addr} {y:V} {o:Option V} (I:Inv X pins σ H s) (g:DGet H a y o):s.TypeIs (.ref a) "dict":=by
 rcases g with ⟨kvs,k,e,_,_⟩ | ⟨kvs,k,b,e,_,_,_⟩
 ·obtain ⟨_,_,vs,_,dd⟩:=qSP I.hok e
  exact dd.typeIs
 ·obtain ⟨_,_,xs,_,dd⟩:=qSO I.hok e
  exact dd.typeIs
def qb9 (td ty:TE):TE:=fun σ H Q=>td σ H fun x H1=>ty σ H1 fun y H2=>∃ a v,x=.ref a∧DGet H2 a y (some v)∧Q v H2
def tDIn (ty td:TE):TE:=fun σ H Q=>ty σ H fun y H1=>td σ H1 fun x H2=>∃ a o,x=.ref a∧DGet H2 a y o∧Q (.bl o.isSome) H2
def qbF (td ty tv:TE):TS:=fun D σ H=>tv σ H fun v H1=>td σ H1 fun x H2=>ty σ H2 fun y H3=>∃ a H4,x=.ref a∧DPut H3 a y v H4∧D.nx σ H4
section
variable {X:Cx} {o i e value:Expr} {pos pos' tpos:Pos} {td ty tv:TE}
theorem qCP (hu:X.A.units+1<cLine) (ho:PE X o td) (hi:PE X i ty) (hs:NoSl i):PE X (.Subscript o i pos) (qb9 td ty):=by
 intro pins s σ H Q I h
 refine qY3 PySem.F.slot_dict_getitem.lookup hs (thn (ho pins s σ H _ I h) fun u s1 ⟨x,H1,I1,rx,q1⟩=>thn (hi pins s1 σ H1 _ I1 q1) fun iv s2 ⟨y,H2,I2,ry,a,v,ex,g,q2⟩=>?_)
 subst ex
 obtain rfl:u=Value.ref a:=rx
 exact ⟨qQ6 I2 g,qV5 hu I2 g ry fun w' s3 I3 rw'=>⟨v,H2,I3,rw',q2⟩⟩
theorem qa3 (hu:X.A.units+1<cLine) (hi:PE X i ty) (ho:PE X o td):PC X .In i o (tDIn ty td):=by
 intro pins s σ H Q I h
 refine thn (hi pins s σ H _ I h) fun iv s1 ⟨y,H1,I1,ry,q1⟩=>thn (ho pins s1 σ H1 _ I1 q1) fun u s2 ⟨x,H2,I2,rx,a,ov,ex,g,q2⟩=>?_
 subst ex
 obtain rfl:u=Value.ref a:=rx
 exact d_in hu I2 g ry fun s3 I3=>⟨.bl ov.isSome,H2,I3,rfl,q2⟩
theorem qFH (hu:X.A.units+1<cLine) (ho:PE X o td) (hi:PE X i ty) (hv:PE X value tv) (hs:swapsWith value (some (.Subscript o i pos')) pos.line X.env=pure false) :
  PS X (.Assign [.Subscript o i pos'] value pos) (qbF td ty tv):=by
 intro pins s σ H D I h
 refine wpAny_Assign_Subscript (thn (hv pins s σ H _ I h) fun r s1 ⟨v,H1,I1,rv,q1⟩=>thn (ho pins s1 σ H1 _ I1 q1) fun u s2 ⟨x,H2,I2,rx,q2⟩=>thn (hi pins s2 σ H2 _ I2 q2) fun iv s3 ⟨y,H3,I3,ry,a,H4,ex,g,q3⟩=>?_) hs
 subst ex
 obtain rfl:u=Value.ref a:=rx
 exact qV4 hu I3 g ry rv fun s4 I4=>⟨σ,H4,I4,q3⟩
end
theorem qRP {P:Program} {w:World} {H:Hp} (h:Heap) (hb:sysModules<h.objs.size):ObjOk P w H (h.push { cls:=.type "dict",data:=.dict #[] }) h.objs.size (.dK []):=
 ⟨Nat.zero_le _,beq_eq_false_iff_ne.mpr (Ne.symm (Nat.ne_of_lt hb)),[],.nil,Heap.DictOf.new h⟩
def qZM:TE:=fun _ H Q=>∀ p,H p=none→Q (.ref p) (upd H p (.dK []))
section
variable {X:Cx} {pos:Pos}
theorem qGD:PE X (.Dict [] [] pos) qZM:=fun pins s σ H Q I h=>
 wpAny_Dict_empty ⟨.ref s.heap.objs.size,_,I.laid (a:=s.heap.objs.size) (o:=.dK []) (t':=s.toks) (fun _ _ q=>Heap.get?_push_of_some _ q) (Nat.le_refl _) (qRP s.heap I.big),rfl,h _ (I.hok.fresh (Nat.le_refl _))⟩
end
def qT6:List (TE × TE)→St→Hp→(List (V × V)→Hp→Prop)→Prop
 | [],_,H,Q=>Q [] H
 | (tk,tv)::r,σ,H,Q=>tk σ H fun x H1=>tv σ H1 fun y H2=>qT6 r σ H2 fun ps H3=>Q ((x,y)::ps) H3
abbrev VV:List (V × V)→List (Value × Value)→Prop:=Paired fun p q=>RelV p.1 q.1∧RelV p.2 q.2
def PPs (X:Cx) (pos:Pos) (keys:List (Option Expr)) (values:List Expr) (trs:List (TE × TE)):Prop:=
 ∀ (pins:List (Addr × Obj)) (s:Shared) (σ:St) (H:Hp) (Q:List (V × V)→Hp→Prop),Inv X pins σ H s→qT6 trs σ H Q→
  wpAny (model X.prog X.w) X.A (evalPairs (pairTrees keys values X.env pos)) (fun vs s'=>∃ ps H',Inv X pins σ H' s'∧VV ps vs∧Q ps H') X.xe s
theorem qYD {X:Cx} {pos:Pos}:PPs X pos [] [] []:=fun pins s σ H Q I h=>pairTrees_nil_walk ⟨[],H,I,.nil,h⟩
theorem qR1 {X:Cx} {pos:Pos} {k v:Expr} {ks:List (Option Expr)} {vs:List Expr} {tk tv:TE} {trs:List (TE × TE)} (hk:PE X k tk) (hv:PE X v tv) (hr:PPs X pos ks vs trs) :
  PPs X pos (some k::ks) (v::vs) ((tk,tv)::trs):=fun pins s σ H Q I h=>
 pairTrees_cons_walk (thn (hk pins s σ H _ I h) fun u s1 ⟨x,H1,I1,rx,q1⟩=>thn (hv pins s1 σ H1 _ I1 q1) fun w2 s2 ⟨y,H2,I2,ry,q2⟩=>
  thn (hr pins s2 σ H2 _ I2 q2) fun ws s3 ⟨ps,H3,I3,rel,q3⟩=>⟨(x,y)::ps,H3,I3,.cons ⟨rx,ry⟩ rel,q3⟩)
def qJZ (kvs more:List (Key × V)):List (Key × V):=more.foldl (fun acc kv=>putK acc kv.1 kv.2) kvs
theorem KV.merge:∀ {more:List (Key × V)} {rs:List (Key × Value)} {kvs:List (Key × V)} {vs:List (Key × Value)},KV more rs→KV kvs vs→KV (qJZ kvs more) (merged vs rs):=by
 intro more rs kvs vs r
 unfold KV at r
 induction r generalizing kvs vs with
 | nil=>intro q;exact q
 | @cons p q ps qs h t ih=>
  intro r0
  have e:KV (putK kvs p.1 p.2) (stored vs q.1 q.2):=by
   have:=r0.put p.1 h.2
   rw [← h.1];exact this
  exact ih e
theorem qHH:∀ (more kvs:List (Key × V)),(qJZ kvs more).length≤kvs.length+more.length
 | [],kvs=>by show kvs.length≤kvs.length+0;omega
 | p::r,kvs=>by
  have h1:=qHH r (putK kvs p.1 p.2)
  have h2:=qCV kvs p.1 p.2
  show (qJZ (putK kvs p.1 p.2) r).length≤_
  rw [List.length_cons];omega
theorem qLK {P:Program} {w:World}:∀ {kvs:List (Key × V)} {ws:List (Value × Value)},VV (kvs.map fun kv=>(kV kv.1,kv.2)) ws→∃ rs,Carries (qB1 P w) ws rs∧KV kvs rs
 | [],_,r=>by rw [List.map_nil] at r;cases r;exact ⟨[],True.intro,.nil⟩
 | p::kvs,_,r=>by
  rw [List.map_cons] at r
  cases r with
  | @cons a b as bs h t=>
   obtain ⟨rs,c,q⟩:=qLK (P:=P) (w:=w) t
   obtain ⟨b1,b2⟩:=b
   exact ⟨(p.1,b2)::rs,⟨qSH h.1,rfl,c⟩,.cons ⟨rfl,h.2⟩ q⟩
def qb8 (trs:List (TE × TE)):TE:=fun σ H Q=>∀ p,H p=none→qT6 trs σ (upd H p (.dK [])) fun ps H2=>H2 p=some (.dK [])∧∃ kvs:List (Key × V),ps=kvs.map (fun kv=>(kV kv.1,kv.2))∧kvs.length≤15∧Q (.ref p) (upd H2 p (.dK (qJZ [] kvs)))
theorem qYE {X:Cx} {pos:Pos} {keys:List (Option Expr)} {values:List Expr} {trs:List (TE × TE)} (h:PPs X pos keys values trs) (hall:keys.all (·.isSome)=true) (hl:keys.length=values.length) (h0:keys ≠ [])
  (h15:keys.length≤15):PE X (.Dict keys values pos) (qb8 trs):=by
 intro pins s σ H Q I q
 have hn:=I.hok.fresh (Nat.le_refl s.heap.objs.size)
 have I1:=I.laid (a:=s.heap.objs.size) (o:=.dK []) (h':=s.heap.push { cls:=.type "dict",data:=.dict #[] }) (t':=s.toks) (fun _ _ q=>Heap.get?_push_of_some _ q) (Nat.le_refl _) (qRP s.heap I.big)
 refine wpAny_Dict_walk (knd:=qB1 X.prog X.w) hall hl h0 h15 (thn (h pins _ σ _ _ I1 (q _ hn)) fun ws s2 ⟨ps,H2,I2,rel,e,kvs,ep,lk,q2⟩=>?_)
 subst ep
 obtain ⟨rs,c,rk⟩:=qLK (P:=X.prog) (w:=X.w) rel
 obtain ⟨z,hd,vs0,r0,dd⟩:=qUZ I2.hok e
 cases r0
 refine ⟨rs,c,dd,fun h' dd' hs=>⟨.ref s.heap.objs.size,_,?_,rfl,q2⟩⟩
 have hz:(qJZ [] kvs).length≤sizeLine:=by
  have h1:=qHH kvs []
  rw [List.length_nil] at h1
  rw [sizeLine_eq];omega
 have he:∃ q,h'.get? s.heap.objs.size=some q:=let ⟨q,_,_,hq,_⟩:=dd';⟨q,hq⟩
 exact qQ7 I2 (by rw [e];exact True.intro) hs he (qV0 hz hd (rk.merge .nil) dd')
structure M1 (X:Cx) (o:Expr) (m:Str) (apos:Pos) (e:Expr) (cpos:Pos):Prop where
 base:attributeBase o m X.env (eval o X.env)=eval o X.env
 few:((backTo cpos (starEach [e] X.env)).all (fun x=>!x.1) && (backToKw cpos (keywordEach [] X.env)).all (fun x=>x.1.isSome)
  && decide (([e]:List Expr).length+([]:List Keyword).length+(if ([]:List Keyword).isEmpty then 0 else 1)<30))=true
 line:(apos.endLine == cpos.line)=true
 trees:backTo cpos (starEach [e] X.env)=[(false,eval e X.env)]
structure M2 (X:Cx) (o:Expr) (m:Str) (apos:Pos) (e f:Expr) (cpos:Pos):Prop where
 base:attributeBase o m X.env (eval o X.env)=eval o X.env
 few:((backTo cpos (starEach [e,f] X.env)).all (fun x=>!x.1) && (backToKw cpos (keywordEach [] X.env)).all (fun x=>x.1.isSome)
  && decide (([e,f]:List Expr).length+([]:List Keyword).length+(if ([]:List Keyword).isEmpty then 0 else 1)<30))=true
 line:(apos.endLine == cpos.line)=true
 trees:backTo cpos (starEach [e,f] X.env)=[(false,eval e X.env),(false,eval f X.env)]
def IsD (H:Hp) (a:Addr):Prop:=(∃ kvs,Rd H a (.dK kvs))∨∃ kvs,Rd H a (.dT kvs)
theorem qaR {X:Cx} {pins:List (Addr × Obj)} {σ:St} {H:Hp} {s:Shared} {a:Addr} (I:Inv X pins σ H s) (d:IsD H a) :
  s.TypeIs (.ref a) "dict"∧(∀ b,Value.ref a=.ref b→∃ ob,s.heap.get? b=some ob∧ob.dict=none)∧(a == sysModules)=false:=by
 rcases d with ⟨kvs,e⟩ | ⟨kvs,e⟩
 ·obtain ⟨_,hd,vs,_,dd⟩:=qSP I.hok e
  refine ⟨dd.typeIs,fun b q=>?_,hd⟩
  cases q
  obtain ⟨ob,_,_,h1,h2,_⟩:=dd
  exact ⟨ob,h1,h2.2.1⟩
 ·obtain ⟨_,hd,xs,_,dd⟩:=qSO I.hok e
  refine ⟨dd.typeIs,fun b q=>?_,hd⟩
  cases q
  obtain ⟨ob,_,_,h1,h2,_⟩:=dd
  exact ⟨ob,h1,h2.2.1⟩
section
variable {X:Cx} {pins:List (Addr × Obj)} {σ:St} {H:Hp} {s:Shared} {a:Addr} {y d:V} {u r:Value} {o:Option V} {A:Around} {E:Value→Shared→Prop}
theorem qaW {Q:Value→Shared→Prop} (hu:A.units+1<cLine) (I:Inv X pins σ H s) (g:DGet H a y o) (ry:RelV y u) (rd:RelV d r) (h:∀ w' s',Inv X pins σ H s'→RelV (o.getD d) w'→Q w' s') :
  wpAny (model X.prog X.w) A (call (.builtin "dict.get") [.ref a,u,r]) Q E s:=by
 rcases g with ⟨kvs,k,e,ey,l⟩ | ⟨kvs,k,b,e,ey,eb,l⟩
 ·subst ey
  obtain ⟨z,hd,vs,rel,dd⟩:=qSP I.hok e
  refine call_meetsIn PySem.F.slot_dict_get dd.typeIs PySem.F.entry_dict_get (PySem.F.args_dict_get_3 _ _ _) (meets_dict_get_default (qB1 X.prog X.w) a (qSH ry) hd r) ⟨_,dd.mapOf,h _ _ (I.tok _) ?_⟩
  rw [l]
  exact (rel.val k).getD rd
 ·subst ey
  cases (show u=Value.ref b from ry)
  obtain ⟨z,hd,xs,rel,dd⟩:=qSO I.hok e
  refine call_meetsIn PySem.F.slot_dict_get dd.typeIs PySem.F.entry_dict_get (PySem.F.args_dict_get_3 _ _ _) (meetsH_dict_get_default (tupleKind (qB1 X.prog X.w)) a b hd r) ⟨tupleKind_room_in1 hu,k,xs,qO9 I.hok eb,dd,h _ _ (I.tok _) ?_⟩
  rw [l]
  exact (rel.val k).getD rd
end
def qZN (td ty tx:TE):TE:=fun σ H Q=>td σ H fun x H1=>∃ a,x=.ref a∧IsD H1 a∧ty σ H1 fun y H2=>tx σ H2 fun z H3=>∃ o,DGet H3 a y o∧Q (o.getD z) H3
section
variable {X:Cx} {o e f:Expr} {apos cpos:Pos} {td ty tx:TE}
theorem qW1 (hu:X.A.units+1<cLine) (ho:PE X o td) (he:PE X e ty) (hf:PE X f tx) (m:M2 X o "get" apos e f cpos):PE X (.Call (.Attribute o "get" apos) [e,f] [] cpos) (qZN td ty tx):=by
 intro pins s σ H Q I h
 refine wpAny_Call_method m.base m.few m.line PySem.F.plainAttrs_dict PySem.F.slot_dict_get PySem.F.type_dict_get (thn (ho pins s σ H _ I h) fun u s1 ⟨x,H1,I1,rx,a,ex,d,q1⟩=>?_)
 subst ex
 obtain rfl:u=Value.ref a:=rx
 obtain ⟨t1,t2,_⟩:=qaR I1 d
 refine ⟨t1,t2,?_⟩
 rw [m.trees]
 refine Calls.callWith_builtin rfl (Calls.evalArgs_plain (Calls.spliced_cons (thn (he pins s1 σ H1 _ I1 q1) fun iv s2 ⟨y,H2,I2,ry,q2⟩=>
  Calls.spliced_cons (thn (hf pins s2 σ H2 _ I2 q2) fun fv s3 ⟨z,H3,I3,rz,ov,g,q3⟩=>Calls.spliced_nil ?_))))
 exact qaW hu I3 g ry rz fun w' s4 I4 rw'=>⟨_,H3,I4,rw',q3⟩
end
section
variable {X:Cx} {pins:List (Addr × Obj)} {σ:St} {H:Hp} {s:Shared} {a:Addr} {kvs:List (Key × V)} {A:Around} {E:Value→Shared→Prop}
end
section
variable {X:Cx} {pins:List (Addr × Obj)} {σ:St} {H:Hp} {s:Shared} {a:Addr} {y:V} {u:Value} {A:Around} {E:Value→Shared→Prop}
end
end L2
namespace L2
open PySem PySem.Spec PyProof.Rows
section
variable {X:Cx}
end
section
variable {κ:Type} [DecidableEq κ]
theorem qTZ:∀ {l:List κ} {k:κ},l.Nodup→¬ k ∈ l→(l++[k]).Nodup
 | [],k,_,_=>by simp
 | a::r,k,h,hk=>by
  obtain ⟨h1,h2⟩:=List.nodup_cons.mp h
  show (a::(r++[k])).Nodup
  refine List.nodup_cons.mpr ⟨fun m=>?_,qTZ h2 fun m=>hk (List.mem_cons.mpr (Or.inr m))⟩
  rcases List.mem_append.mp m with q | q
  ·exact h1 q
  ·exact hk (List.mem_cons.mpr (Or.inl (List.mem_singleton.mp q).symm))
end
end L2
namespace L2
open PySem PySem.Spec PyProof.Rows
def noX:Value→Shared→Prop:=fun _ _=>False
def qHY (env:Env):List (Str × NameKind)→List (Str × Addr)→List (Str × Addr)
 | [],acc=>acc
 | (n,k)::r,acc=>qHY env r (if (k == NameKind.free)=true then (n,(env.cells.lookup n).getD 0)::acc else acc)
theorem qFX {env:Env}:∀ {names:List (Str × NameKind)} {acc:List (Str × Addr)},(∀ x,(x,NameKind.free) ∈ names→∃ c,env.cells.lookup x=some c)→(∀ x c,acc.lookup x=some c→env.cells.lookup x=some c)→
  ∀ x c,(qHY env names acc).lookup x=some c→env.cells.lookup x=some c
 | [],acc,_,ha,x,c,h=>ha x c h
 | (n,k)::r,acc,hf,ha,x,c,h=>by
  refine qFX (names:=r) (fun y hy=>hf y (List.mem_cons_of_mem _ hy)) (fun y d hd=>?_) x c h
  split at hd
  ·rename_i hk
   have hk':k=NameKind.free:=by simpa using hk
   subst hk'
   obtain ⟨e,he⟩:=hf n List.mem_cons_self
   by_cases hyn:y=n
   ·subst hyn
    rw [List.lookup_cons_self,he] at hd
    rw [he];exact hd
   ·rw [List.lookup_cons,beq_eq_false_iff_ne.mpr hyn] at hd
    exact ha y d hd
  ·exact ha y d hd
theorem qFY {env:Env}:∀ {names:List (Str × NameKind)} {acc:List (Str × Addr)} {x:Str},((x,NameKind.free) ∈ names∨∃ c,acc.lookup x=some c)→∃ c,(qHY env names acc).lookup x=some c
 | [],acc,x,h=>by
  rcases h with h | h
  ·exact absurd h (by simp)
  ·exact h
 | (n,k)::r,acc,x,h=>by
  refine qFY (names:=r) ?_
  rcases h with h | ⟨c,h⟩
  ·rcases List.mem_cons.mp h with e | h
   ·cases e
    refine .inr ⟨(env.cells.lookup n).getD 0,?_⟩
    rw [if_pos (by rfl),List.lookup_cons_self]
   ·exact .inl h
  ·refine .inr ?_
   split
   ·by_cases hyn:x=n
    ·subst hyn
     exact ⟨_,List.lookup_cons_self⟩
    ·refine ⟨c,?_⟩
     rw [List.lookup_cons,beq_eq_false_iff_ne.mpr hyn]
     exact h
   ·exact ⟨c,h⟩
theorem qKE {env:Env} (f:Str × NameKind→List (Str × Addr)→Sem (ForInStep (List (Str × Addr))))
  (hf:∀ n k c,f (n,k) c=(if (k == NameKind.free)=true then (do let a ← cellOf env n;pure (ForInStep.yield ((n,a)::c))) else pure (ForInStep.yield c))) :
  ∀ (names:List (Str × NameKind)) (acc:List (Str × Addr)),(∀ x,(x,NameKind.free) ∈ names→∃ c,env.cells.lookup x=some c)→forIn names acc f=(pure (qHY env names acc):Sem _)
 | [],acc,_=>rfl
 | (n,k)::r,acc,h=>by
  have ih:=fun acc=>qKE f hf r acc fun x hx=>h x (List.mem_cons_of_mem _ hx)
  rw [List.forIn_cons,hf]
  by_cases hk:(k == NameKind.free)=true
  ·have hk':k=NameKind.free:=by simpa using hk
   subst hk'
   obtain ⟨c,hc⟩:=h n List.mem_cons_self
   rw [if_pos hk]
   unfold cellOf qHY
   rw [hc,if_pos hk]
   exact ih _
  ·rw [if_neg hk]
   unfold qHY
   rw [if_neg hk]
   exact ih _
theorem qIC {scope:Scope} {env:Env} (h:∀ x,(x,NameKind.free) ∈ scope.names→∃ c,env.cells.lookup x=some c):closureFor scope env=pure (qHY env scope.names []):=by
 unfold closureFor
 dsimp only
 rw [qKE (env:=env) _ (fun n k c=>?_) scope.names [] h]
 ·rfl
 ·rfl
theorem qEJ {env:Env} {x:Str}:∀ {names:List (Str × NameKind)},
  (names.map fun (n,k)=>if (k == NameKind.free && env.scope.kind == .function && env.kindOf n == some .cell)=true then (n,NameKind.cell) else (n,k)).lookup x =
   (names.lookup x).map fun k=>if (k == NameKind.free && env.scope.kind == .function && env.kindOf x == some .cell)=true then NameKind.cell else k
 | []=>rfl
 | (n,k)::r=>by
  have ih:=@qEJ env x r
  rw [List.map_cons]
  by_cases hx:x=n
  ·subst hx
   dsimp only
   rw [List.lookup_cons_self (b:=k),Option.map_some]
   split
   ·rw [List.lookup_cons_self]
   ·rw [List.lookup_cons_self]
  ·have hb:(x == n)=false:=beq_eq_false_iff_ne.mpr hx
   dsimp only
   rw [List.lookup_cons (k:=n) (b:=k),hb]
   dsimp only
   rw [← ih]
   split
   ·rw [List.lookup_cons,hb]
   ·rw [List.lookup_cons,hb]
structure LcZ where
 L:Addr
 cl:List (Str × Addr)
 ex:List Addr
 s₀:Shared
 H₀:Hp
def lcCx (X:Cx) (scope:Scope) (own:List Str) (fv:List Nat) (z:LcZ):Cx where
 prog:=X.prog
 w:=X.w
 K:=X.K
 mg:=X.mg
 base:=X.base
 A:=X.A
 N:=own++fv.map fun i=>X.N.getD i Str.empty
 s₀:=z.s₀
 H₀:=z.H₀
 env:=compEnvC scope z.cl z.L X.env
 outer:=X.stack
 stack:=X.stack
 ex:=z.ex
 fn:=fun _=>false
 calm:=X.calm
 pn:=[]
 xe:=noX
structure LcScope (X:Cx) (scope:Scope) (own:List Str) (fv:List Nat):Prop where
 kind:scope.kind=.function
 nocell:∀ y ∈ scope.names,y.2 ≠ .cell
 names:∀ y ∈ scope.names,y.2=.local→scope.names.lookup y.1=some .local
 free:∀ y ∈ scope.names,y.2=.free→X.env.kindOf y.1=some .cell∨X.env.kindOf y.1=some .free
 nd:(own++fv.map fun i=>X.N.getD i Str.empty).Nodup
 fvs:∀ i ∈ fv,i<X.N.length∧scope.names.lookup (X.N.getD i Str.empty)=some .free
def qK2 (own:List Str) (fv:List Nat) (σ:St):St:=(own.map fun _=>none)++fv.map fun i=>(σ[i]?).join
theorem qOT {prog:Program} {w:World} {A:Around} {R:Result→Shared→Prop} {s:Shared} {elt target iter:Expr} {ifs:List Expr} {scope:Scope} {pos:Pos} {it acc:Value} {env:Env} (I:Nat→Shared→Prop)
  (turn:∀ n s,I n s→wpAny (model prog w) A (pyNext it) (fun r s₁=>match r with
   | none=>R (.ok .next) s₁
   | some v=>wpAny (model prog w) A (letOwnedTupleGo target it v) (fun _ s₁=>wpAny (model prog w) A (assign target env v) (fun _ s₂=>
     wpAny (model prog w) A (forIn ifs true fun c r=>if r=true then do let ok ← isTrue c env (eval c env);pure (ForInStep.yield ok) else pure (ForInStep.yield r)) (fun ok s₃=>
      if ok=true then wpAny (model prog w) A (eval elt env) (fun x s₄=>
       wpAny (model prog w) A (call (.builtin "list.append") [acc,x]) (fun _ s₅=>∃ m,m<n∧I m s₅) noX s₄) noX s₃
      else ∃ m,m<n∧I m s₃) noX s₂) noX s₁) noX s₁) noX s)
  (n:Nat) (h:I n s) :
  codeAny (model prog w) A (.compLoop (.ListComp elt [⟨target,iter,ifs,0⟩] scope pos) 0 it acc env) R s:=by
 refine codeAny_loop rfl I (fun n s hI=>?_) n h
 show wpAny _ A ((compTurn (.ListComp elt [⟨target,iter,ifs,0⟩] scope pos) 0 it acc env).onRaise (fun x=>do noteFrame x env;theTreesLotGoes x)) _ _ s
 refine wpAny_noted ?_
 rw [compTurn_list]
 refine wpAny_bind (wpAny_standAt (wpAny_bind (wpAny_mono (turn n s hI) (fun r s₁ h₁=>?_) fun _ _ h'=>h'.elim)))
 cases r with
 | none=>exact wpAny_pure h₁
 | some v=>
  refine wpAny_bind (wpAny_mono h₁ (fun _ s₁ h₁=>?_) fun _ _ h'=>h'.elim)
  refine wpAny_bind (wpAny_mono h₁ (fun _ s₂ h₂=>wpAny_bind (wpAny_mono h₂ (fun ok s₃ h₃=>?_) fun _ _ h'=>h'.elim)) fun _ _ h'=>h'.elim)
  cases ok with
  | false=>exact wpAny_pure ⟨rfl,h₃⟩
  | true=>
   exact wpAny_bind (wpAny_bind (wpAny_mono h₃ (fun x s₄ h₄=>wpAny_bind (wpAny_mono h₄ (fun _ s₅ h₅=>wpAny_pure (wpAny_pure ⟨rfl,h₅⟩)) fun _ _ h'=>h'.elim)) fun _ _ h'=>h'.elim))
section
variable {X:Cx} {pins:List (Addr × Obj)} {σ:St} {H:Hp} {s:Shared}
theorem Inv.other {h':Heap} {L:Addr} {n:Nat} (I:Inv X pins σ H s) (hb:X.s₀.heap.objs.size≤L) (h0:H L=none) (h1:L ≠ X.env.locals) (h2:∀ x c,X.env.cells.lookup x=some c→c ≠ L) (h3:∀ p ∈ X.pn++pins,p.1 ≠ L)
  (k:Heap.SameBut L s.heap h'):Inv X pins σ H { s with heap:=h' }:=
 I.turned (t':=s.toks) (fun b o hb e=>(k.2 b hb).trans e) h0 h1 (.inr hb) h2 h3
theorem qaE {scope:Scope} {own:List Str} {fv:List Nat} {fp:List Addr} (I:Inv X pins σ H s) (S:LcScope X scope own fv) (hf:∀ b ∈ fp,FpOk X pins H b) (hsz:∀ b ∈ fp,b<s.heap.objs.size) :
  (lcCx X scope own fv ⟨s.heap.objs.size,qHY X.env scope.names [],fp,s,H⟩).Ok:=by
 have hfr:∀ x,(x,NameKind.free) ∈ scope.names→∃ c,X.env.cells.lookup x=some c:=fun x hx=>I.ok.has x (S.free _ hx rfl)
 have sub:=qFX (env:=X.env) (names:=scope.names) (acc:=[]) hfr (fun x c z=>by simp at z)
 refine ⟨I.ok.mod,S.kind,I.ok.glob,I.ok.blt,Nat.le_refl _,fun x y c h1 h2=>I.ok.inj x y c (sub _ _ h1) (sub _ _ h2),fun x hx=>?_,fun x c hx=>?_,I.ok.hd,I.ok.frames,.inl rfl,fun b hb=>⟨?_,fun x c e=>?_⟩,I.bs,Nat.le_trans I.ok.bsz I.sz,fun b o e hb=>?_,fun b hb hb'=>?_,I.stack,I.stkFree⟩
 ·refine qFY (.inl ?_)
  have hx':(relabel scope X.env).names.lookup x=some .cell∨(relabel scope X.env).names.lookup x=some .free:=hx
  unfold relabel at hx'
  rw [qEJ] at hx'
  cases e:scope.names.lookup x with
  | none=>rw [e] at hx';simp at hx'
  | some k=>
   have hm:=PySem.mem_of_lookup e
   have nc:=S.nocell _ hm
   rw [e] at hx'
   simp only [Option.map_some,Option.some.injEq] at hx'
   cases k with
   | free=>exact hm
   | cell=>exact absurd rfl nc
   | _=>simp at hx'
 ·cases hx
 ·exact Nat.ne_of_lt (hsz b hb)
 ·exact (hf b hb).2.2.2.2.1 x c (sub _ _ e)
 ·rcases (hf b hb).2.2.2.1 with z | z
  ·exact I.ok.noex b o e z
  ·exact absurd (Nat.lt_of_lt_of_le (Heap.lt_size (I.ok.bs b o e).1) z) (Nat.lt_irrefl _)
 ·rcases List.mem_cons.mp (I.stkSub b hb') with z | z
  ·exact (hf b hb).2.1 z
  ·exact (hf b hb).2.2.1 z
theorem qWD {scope:Scope} {own:List Str} {fv:List Nat} {fp:List Addr} {h₁:Heap} {tk:Nat} (I:Inv X pins σ H s) (S:LcScope X scope own fv) (hf:∀ b ∈ fp,FpOk X pins H b) (hsz:∀ b ∈ fp,b<s.heap.objs.size)
  (hns:h₁.Ns s.heap.objs.size (fun _=>none)) (hk:∀ b o,s.heap.get? b=some o→h₁.get? b=some o) :
  Inv (lcCx X scope own fv ⟨s.heap.objs.size,qHY X.env scope.names [],fp,s,H⟩) [] (qK2 own fv σ) H { s with heap:=h₁,toks:=tk }:=by
 have hfr:∀ x,(x,NameKind.free) ∈ scope.names→∃ c,X.env.cells.lookup x=some c:=fun x hx=>I.ok.has x (S.free _ hx rfl)
 have sub:=qFX (env:=X.env) (names:=scope.names) (acc:=[]) hfr (fun x c z=>by simp at z)
 refine ⟨qaE I S hf hsz,rfl,I.bare,Un.kept hk,⟨_,hns,fun i x v h1 h2 h3=>?_⟩,fun x c e=>?_,I.hok.fresh (Nat.le_refl _),fun x c e=>I.freeC x c (sub _ _ e),fun p hp=>absurd (show p ∈ ([]:List (Addr × Obj)) from hp) (by simp),I.hok.kept hk,?_⟩
 ·have h1:(own++fv.map fun i=>X.N.getD i Str.empty)[i]?=some x:=h1
  unfold qK2 at h2
  have hi:own.length≤i:=by
   apply Nat.le_of_not_lt
   intro hi
   rw [List.getElem?_append_left (by simpa using hi),List.getElem?_map] at h2
   cases e:own[i]? with
   | none=>rw [e] at h2;cases h2
   | some z=>rw [e] at h2;cases h2
  rw [List.getElem?_append_right (by simpa using hi),List.length_map,List.getElem?_map] at h2
  rw [List.getElem?_append_right hi,List.getElem?_map] at h1
  cases e:fv[i - own.length]? with
  | none=>rw [e] at h1;cases h1
  | some j=>
   rw [e] at h1 h2
   have hj:=S.fvs j (List.mem_of_getElem? e)
   have h1:X.N.getD j Str.empty=x:=Option.some.inj h1
   have h2:(σ[j]?).join=some v:=Option.some.inj h2
   have h2':σ[j]?=some (some v):=by
    cases q:σ[j]? with
    | none=>rw [q] at h2;cases h2
    | some y=>rw [q] at h2;exact congrArg some h2
   have hx:X.N[j]?=some x:=by
    rw [List.getD_eq_getElem?_getD] at h1
    rw [List.getElem?_eq_getElem hj.1] at h1 ⊢
    exact congrArg some h1
   have hlk:scope.names.lookup x=some .free:=h1 ▸ hj.2
   have hmem:=PySem.mem_of_lookup hlk
   obtain ⟨m,hn,hl⟩:=id I.loc
   have hkd:=S.free _ hmem rfl
   obtain ⟨u,ru,lk⟩:=hl j x v hx h2' (by
    rcases hkd with z | z
    ·exact .inr (.inl z)
    ·exact .inr (.inr z))
   refine ⟨u,ru,?_⟩
   rcases lk with ⟨z,_⟩ | ⟨_,c,e1,z⟩
   ·rcases hkd with y | y
    ·have y':X.env.kindOf x=some .cell:=y
     rw [z] at y';cases y'
    ·have y':X.env.kindOf x=some .free:=y
     rw [z] at y';cases y'
   ·obtain ⟨c',e2⟩:=qFY (env:=X.env) (names:=scope.names) (acc:=[]) (x:=x) (.inl hmem)
    have e3:=sub _ _ e2
    rw [e1] at e3
    cases e3
    obtain ⟨o,ho,hd⟩:=z
    refine .inr ⟨?_,c,e2,o,hk _ _ ho,hd⟩
    show (relabel scope X.env).names.lookup x=some .cell∨(relabel scope X.env).names.lookup x=some .free
    unfold relabel
    rw [qEJ,hlk,Option.map_some]
    split
    ·exact .inl rfl
    ·exact .inr rfl
 ·obtain ⟨v,o,ho,hd⟩:=I.cell x c (sub _ _ e)
  exact ⟨v,o,hk _ _ ho,hd⟩
 ·unfold qK2
  show _=(own++fv.map fun i=>X.N.getD i Str.empty).length
  rw [List.length_append,List.length_append,List.length_map,List.length_map,List.length_map]
theorem qYR {scope:Scope} {own:List Str} {fv:List Nat} {fp:List Addr} {pins':List (Addr × Obj)} {σ':St} {H':Hp} {s':Shared} {cl:List (Str × Addr)} (I:Inv X pins σ H s) (hf:∀ b ∈ fp,FpOk X pins H b)
  (J:Inv (lcCx X scope own fv ⟨s.heap.objs.size,cl,fp,s,H⟩) pins' σ' H' s'):Inv X pins σ H' s':=
 I.call' (ch:=fp) J.os J.base J.hok J.bare fun b hb=>⟨(hf b hb).2.2.2.1,(hf b hb).2.1,(hf b hb).2.2.2.2.1,(hf b hb).2.2.2.2.2⟩
end
def PTs (X:Cx) (ifs:List Expr) (t:TT):Prop:=
 ∀ (pins:List (Addr × Obj)) (s:Shared) (σ:St) (H:Hp) (Q:Bool→Hp→Prop),Inv X pins σ H s→t σ H Q→
  wpAny (model X.prog X.w) X.A (forIn ifs true fun c r=>if r=true then do let ok ← isTrue c X.env (eval c X.env);pure (ForInStep.yield ok) else pure (ForInStep.yield r)) (TP X pins σ Q) X.xe s
def qb1:TT:=fun _ H Q=>Q true H
theorem qCT {X:Cx}:PTs X [] qb1:=fun pins s σ H Q I h=>wpAny_tests_nil ⟨H,I,h⟩
theorem qJP {X:Cx} {c:Expr} {t:TT} (h:PT X c t):PTs X [c] t:=fun pins s σ H Q I hq=>wpAny_tests_one (h pins s σ H Q I hq)
def qaF (own:List Str) (fv:List Nat) (wi:TI) (g:TG) (tc:TT) (te:TE) (K:Addr→Hp→Prop):St→Hp→Prop:=fun σ H=>wi σ H fun J H1=>∀ p,H1 p=none→
 ∃ W:Nat→Nat→St→Hp→Prop,(∃ m,W 0 m (qK2 own fv σ) (upd H1 p (.lst [])))∧∀ i m σ H,W i m σ H→
  (J.stop i H∧K p H)∨(J.go i H∧∃ N:St→Hp→Prop,(∀ σ' H',N σ' H'→∃ m',m'<m∧W (i+1) m' σ' H')∧∀ x H',J.yld i H x H'→g x σ H' fun σ2 H2=>tc σ2 H2 fun b H3=>
   if b=true then te σ2 H3 fun y H4=>∃ ys,H4 p=some (.lst ys)∧ys.length<sizeLine∧N σ2 (upd H4 p (.lst (ys++[y])))
   else N σ2 H3)
def tLc (own:List Str) (fv:List Nat) (wi:TI) (g:TG) (tc:TT) (te:TE):TE:=fun σ H Q=>qaF own fv wi g tc te (fun p H'=>Q (.ref p) H') σ H
section
variable {X:Cx} {tg iter elt:Expr} {ifs:List Expr} {scope:Scope} {pos:Pos} {own:List Str} {fv:List Nat} {wi:TI} {g:TG} {tc:TT} {te:TE}
theorem qUD {pins:List (Addr × Obj)} {s:Shared} {σ:St} {H:Hp} {K:Addr→Hp→Prop} {use:Option (Value→Sem Unit)} {Q:Value→Shared→Prop} {E:Value→Shared→Prop} (hc:X.calm=true) (S:LcScope X scope own fv) (hi:PI X tg iter wi)
  (hg:∀ z,PG (lcCx X scope own fv z) tg g) (ht:∀ z,PTs (lcCx X scope own fv z) ifs tc) (he:∀ z,PE (lcCx X scope own fv z) elt te)
  (I:Inv X pins σ H s) (h:qaF own fv wi g tc te K σ H) (hxe:∀ e s,X.xe e s→E e s)
  (fin:∀ (p:Addr) (L:Addr) (H':Hp) (s':Shared) (m:Str→Option Value),Inv X pins σ H' s'→K p H'→s'.heap.Ns L m→X.s₀.heap.objs.size≤L→H' L=none→L ≠ X.env.locals→(∀ x c,X.env.cells.lookup x=some c→c ≠ L)→(∀ q ∈ X.pn++pins,q.1 ≠ L)→
   compPost (model X.prog X.w) X.A E use Q (.ref p) L (.ok .next) s') (hs:∀ x,foldedSetIterable iter X.env x=pure x:=by intro _;rfl) :
  wpAny (model X.prog X.w) X.A (comprehension (.ListComp elt [⟨tg,iter,ifs,0⟩] scope pos) scope X.env (firstIterPos [⟨tg,iter,ifs,0⟩] pos) (newList []) false (eval iter X.env) use) Q E s:=by
 have hfr:∀ x,(x,NameKind.free) ∈ scope.names→∃ c,X.env.cells.lookup x=some c:=fun x hx=>I.ok.has x (S.free _ hx rfl)
 refine wpAny_comprehension_free rfl hs (qIC hfr) S.kind S.names (wpAny_mono (hi pins s σ H _ I h) (fun v s1 h1=>wpAny_mono h1 (fun itv s2 h2=>?_) hxe) hxe)
 obtain ⟨it,fp,tn,J,H2,e,I2,T,st2,f2,q2⟩:=h2
 subst e
 -- the list
 refine wpAny_newObj_type ?_
 have fresh2:H2 s2.heap.objs.size=none:=I2.hok.fresh (Nat.le_refl _)
 have I3:Inv X pins σ (upd H2 s2.heap.objs.size (.lst [])) { s2 with heap:=s2.heap.push { cls:=.type "list",dict:=none,data:=.seq ([]:List Value).toArray } }:=
  I2.laid (t':=s2.toks) (fun b u e=>Heap.get?_push_of_some _ e) (Nat.le_refl _) ⟨Nat.zero_le _,[],0,.nil,Heap.get?_push_size _ rfl⟩
 obtain ⟨W,⟨m0,w0⟩,turn⟩:=q2 s2.heap.objs.size fresh2
 have lt2:∀ b ∈ fp,b<s2.heap.objs.size:=fun b hb=>by
  obtain ⟨o,e,_⟩:=T.obj 0 _ st2 b hb
  exact Heap.lt_size e
 have f3:∀ b ∈ fp,FpOk X pins (upd H2 s2.heap.objs.size (.lst [])) b:=fun b hb=>⟨by rw [qA7 (Nat.ne_of_lt (lt2 b hb))];exact (f2 b hb).1,(f2 b hb).2⟩
 generalize hp:s2.heap.objs.size=p at *
 generalize hH3:upd H2 p (.lst [])=H3 at *
 have st3:tn 0 (s2.heap.push { cls:=.type "list",dict:=none,data:=.seq ([]:List Value).toArray }):=T.keep _ _ _ st2 fun b _ o e=>Heap.get?_push_of_some _ e
 have lt3:∀ b ∈ fp,b<(s2.heap.push { cls:=.type "list",dict:=none,data:=.seq ([]:List Value).toArray }).objs.size:=fun b hb=>by
  rw [Heap.size_push]
  have:=lt2 b hb
  rw [hp]
  exact Nat.lt_succ_of_lt this
 generalize hs3:({ s2 with heap:=s2.heap.push { cls:=.type "list",dict:=none,data:=.seq ([]:List Value).toArray } }:Shared)=s3 at *
 have st3':tn 0 s3.heap:=by rw [← hs3];exact st3
 have lt3':∀ b ∈ fp,b<s3.heap.objs.size:=by rw [← hs3];exact lt3
 -- the block's frame
 refine wpAny_newFunctionEnv S.nocell (by intro y hy;simp at hy) (fun h₁ hns₁ hsb₁=>?_) S.kind
 have keep1:∀ b o,s3.heap.get? b=some o→h₁.get? b=some o:=fun b o e=>hsb₁.extBut b o (Nat.ne_of_lt (Heap.lt_size e)) (Heap.get?_push_of_some _ e)
 have J0:Inv (lcCx X scope own fv ⟨s3.heap.objs.size,qHY X.env scope.names [],fp,s3,H3⟩) [] (qK2 own fv σ) H3 { s3 with heap:=h₁,toks:=s3.toks+([]:List (Str × Value)).length }:=qWD I3 S f3 lt3' hns₁ keep1
 have cOk:=qaE I3 S f3 lt3'
 generalize hz:(⟨s3.heap.objs.size,qHY X.env scope.names [],fp,s3,H3⟩:LcZ)=z at *
 have st4:tn 0 h₁:=T.keep _ _ _ st3' fun b _ o e=>keep1 b o e
 have fr4:∀ b ∈ fp,H3 b=none:=fun b hb=>(f3 b hb).1
 have stat:∀ {H':Hp},(∀ b ∈ fp,H' b=none)→∀ b ∈ fp,FpOk (lcCx X scope own fv z) [] H' b:=fun hn b hb=>by
  subst hz
  refine ⟨hn b hb,(cOk.exf b hb).1,cOk.exfs b hb,.inl hb,(cOk.exf b hb).2,fun q hq=>absurd (show q ∈ ([]:List (Addr × Obj)) from hq) (by simp)⟩
 have envE:({ newEnv scope s3.heap.objs.size X.env.globals (qHY X.env scope.names []) X.env.qual none .none (some X.env) builtinsNs with scope:=relabel scope X.env }:Env)=(lcCx X scope own fv z).env:=by
  subst hz
  rfl
 have loop:∀ sA:Shared,sA={ s3 with heap:=h₁,toks:=s3.toks+([]:List (Str × Value)).length }→codeAny (model X.prog X.w) X.A (.compLoop (.ListComp elt [⟨tg,iter,ifs,0⟩] scope pos) 0 (.ref it) (.ref p) (lcCx X scope own fv z).env)
   (compPost (model X.prog X.w) X.A E use Q (.ref p) s3.heap.objs.size) sA:=by
  rintro sA rfl
  refine qOT (fun n s'=>∃ i σ' H',Inv (lcCx X scope own fv z) [] σ' H' s'∧tn i s'.heap∧(∀ b ∈ fp,H' b=none)∧W i n σ' H') ?_ m0 ⟨0,_,H3,J0,st4,fr4,w0⟩
  rintro n s4 ⟨i,σ4,H4,I4,st4,fr4,w4⟩
  rcases turn i n σ4 H4 w4 with ⟨stop,qn⟩ | ⟨go,Nx,hNx,step⟩
  ·refine thn (T.done (lcCx X scope own fv z) rfl rfl rfl hc i [] s4 σ4 H4 noX I4 (stat fr4) st4 stop) fun r s5 ⟨hr,I5⟩=>?_
   subst hr
   subst hz
   have I6:Inv X pins σ H4 s5:=qYR I3 f3 I5
   obtain ⟨m,hn,_⟩:=id I5.loc
   have fpL:=I3.fpOk (H':=H4) (b:=s3.heap.objs.size) (Nat.le_refl _) I5.free
   refine fin p s3.heap.objs.size H4 s5 m I6 qn hn I3.sz fpL.1 fpL.2.1 fpL.2.2.2.2.1 fpL.2.2.2.2.2
  ·refine thn (T.item (lcCx X scope own fv z) rfl rfl rfl hc i [] s4 σ4 H4 noX I4 (stat fr4) st4 go) fun r s5 ⟨u,hr,h5⟩=>?_
   subst hr
   refine thn h5 fun _ s6 ⟨x,H6,I6,r6,y6,st6,fr6⟩=>?_
   have I6':=I6.pinned (stat fr6) (T.obj _ _ st6)
   have again:∀ {σ7:St} {H7:Hp} {s7:Shared} {m':Nat},m'<n→Inv (lcCx X scope own fv z) ([]++qNM fp s6.heap) σ7 H7 s7→W (i+1) m' σ7 H7→
     ∃ m,m<n∧∃ i σ' H',Inv (lcCx X scope own fv z) [] σ' H' s7∧tn i s7.heap∧(∀ b ∈ fp,H' b=none)∧W i m σ' H':=fun {σ7 H7 s7 m'} hm I7 w7=>by
    refine ⟨m',hm,i+1,σ7,H7,I7.unpinned,T.keep _ _ _ st6 fun b hb o e=>(I7.pin (b,o) (List.mem_append_right _ (List.mem_append_right _ (qGF hb e)))).1,fun b hb=>?_,w7⟩
    obtain ⟨o,e,d⟩:=T.obj _ _ st6 b hb
    exact (I7.pin (b,o) (List.mem_append_right _ (List.mem_append_right _ (qGF hb e)))).2.1
   refine thn (hg z _ s6 σ4 H6 x u _ I6' r6 (step x H6 y6)) fun _ s7 ⟨σ7,H7,I7,q7⟩=>?_
   refine thn (ht z _ s7 σ7 H7 _ I7 q7) fun b s8 ⟨H8,I8,q8⟩=>?_
   cases b with
   | false=>
    obtain ⟨m',hm,w8⟩:=hNx _ _ q8
    exact again hm I8 w8
   | true=>
    refine thn (he z _ s8 σ7 H8 _ I8 q8) fun v s9 ⟨y,H9,I9,r9,ys,ep,hl,w9⟩=>?_
    refine thn (qDD (X:=lcCx X scope own fv z) _ s9 σ7 H9 (.ref p) [y] (.ref p) [v] (fun _ H'=>Nx σ7 H') I9 rfl (.cons r9 .nil) ⟨p,ys,y,rfl,rfl,ep,hl,w9⟩) fun _ s10 ⟨_,H10,I10,_,q10⟩=>?_
    obtain ⟨m',hm,w10⟩:=hNx _ _ q10
    exact again hm I10 w10
 rw [envE]
 exact codeAny_compStart_list (loop _ rfl) (T.self _ _ _ _ _ st4 (loop _ rfl))
theorem qIR (hc:X.calm=true) (S:LcScope X scope own fv) (hi:PI X tg iter wi) (hg:∀ z,PG (lcCx X scope own fv z) tg g) (ht:∀ z,PTs (lcCx X scope own fv z) ifs tc) (he:∀ z,PE (lcCx X scope own fv z) elt te)
  (hs:∀ x,foldedSetIterable iter X.env x=pure x:=by intro _;rfl):PE X (.ListComp elt [⟨tg,iter,ifs,0⟩] scope pos) (tLc own fv wi g tc te):=by
 intro pins s σ H Q I h
 rw [eval_ListComp]
 refine qUD (use:=none) (K:=fun p H'=>Q (.ref p) H') hc S hi hg ht he I h (fun _ _ q=>q) (fun p L H' s' m I' q hn h1 h2 h3 h4 h5=>?_) hs
 exact ⟨m,hn,fun h' hs'=>⟨.ref p,H',I'.other (n:=0) h1 h2 h3 h4 h5 hs',rfl,q⟩⟩
theorem qS6 {i:Nat} {x:Str} {pos' spos:Pos} (hN:X.N.Nodup) (hx:X.N[i]?=some x) (hl:X.env.scope.names.lookup x=some .local) (hc:X.calm=true) (S:LcScope X scope own fv) (hi:PI X tg iter wi) (hg:∀ z,PG (lcCx X scope own fv z) tg g)
  (ht:∀ z,PTs (lcCx X scope own fv z) ifs tc) (he:∀ z,PE (lcCx X scope own fv z) elt te) (hsw:swapsWith (.ListComp elt [⟨tg,iter,ifs,0⟩] scope pos) (some (.Name x pos')) spos.line X.env=pure true)
  (hs:∀ x,foldedSetIterable iter X.env x=pure x:=by intro _;rfl):PS X (.Assign [.Name x pos'] (.ListComp elt [⟨tg,iter,ifs,0⟩] scope pos) spos) (tAsg (tLc own fv wi g tc te) (qYX i)):=by
 intro pins s σ H D I h
 rw [exec_Assign_Name_used _ _ _ _ hsw]
 refine wpAny_bind (wpAny_standAt (wpAny_bind ?_))
 show wpAny _ X.A (do let _ ← comprehension (.ListComp elt [⟨tg,iter,ifs,0⟩] scope pos) scope X.env _ (newList []) false (eval iter X.env) (some (assign (.Name x pos') X.env))) _ _ s
 refine wpAny_bind (wpAny_mono (qUD (use:=some (assign (.Name x pos') X.env)) (K:=fun p H'=>D.nx (σ.set i (some (.ref p))) H') (Q:=fun _ s'=>SP X pins D .next s') (E:=X.xe) hc S hi hg ht he I h (fun _ _ q=>q) (fun p L H' s' m I' q hn h1 h2 h3 h4 h5=>?_) hs)
  (fun _ s' hq=>wpAny_pure (wpAny_pure hq)) fun _ _ e=>e)
 show wpAny _ X.A (assign (.Name x pos') X.env (.ref p)) _ _ _
 refine wpAny_assign_Name (qNB (v:=.ref p) I' hN hx (.inl hl) rfl (fun s2 I2 ⟨a,hsb,ha⟩=>?_) (.inr hl))
 have hLa:L ≠ a:=by
  rcases ha with z | z
  ·rw [z];exact h3
  ·exact fun y=>h4 x a z y.symm
 exact ⟨m,hn.sameBut hsb hLa,fun h' hs'=>⟨_,H',I2.other (n:=0) h1 h2 h3 h4 h5 hs',q⟩⟩
end
theorem qRF {lo:Int} {n:Nat} {g:TG} {tc:TT} {te:TE} {Kf:Hp→Prop} {σ0:St} {H0:Hp} {p:Addr} (Pv:Nat→St→Hp→Prop) (h0:Pv 0 σ0 H0)
  (hs:∀ i σ H,i<n→Pv i σ H→g (.int (lo+i)) σ H fun σ2 H2=>tc σ2 H2 fun b H3=>if b=true then te σ2 H3 fun y H4=>∃ ys,H4 p=some (.lst ys)∧ys.length<sizeLine∧Pv (i+1) σ2 (upd H4 p (.lst (ys++[y]))) else Pv (i+1) σ2 H3)
  (hd:∀ σ H,Pv n σ H→Kf H) :
  ∃ W:Nat→Nat→St→Hp→Prop,(∃ m,W 0 m σ0 H0)∧∀ i m σ H,W i m σ H→
   ((Itr lo n).stop i H∧Kf H)∨((Itr lo n).go i H∧∃ N:St→Hp→Prop,(∀ σ' H',N σ' H'→∃ m',m'<m∧W (i+1) m' σ' H')∧∀ x H',(Itr lo n).yld i H x H'→g x σ H' fun σ2 H2=>tc σ2 H2 fun b H3=>
    if b=true then te σ2 H3 fun y H4=>∃ ys,H4 p=some (.lst ys)∧ys.length<sizeLine∧N σ2 (upd H4 p (.lst (ys++[y]))) else N σ2 H3):=by
 refine ⟨fun i m σ H=>m=n - i∧i≤n∧Pv i σ H,⟨n,by simp,Nat.zero_le _,h0⟩,?_⟩
 rintro i m σ H ⟨rfl,hi,q⟩
 by_cases hlt:i<n
 ·refine .inr ⟨hlt,Pv (i+1),fun σ' H' p'=>⟨n - (i+1),by omega,rfl,hlt,p'⟩,fun x H' y=>?_⟩
  obtain ⟨e,y⟩:=y
  subst e y
  exact hs i σ _ hlt q
 ·have e:i=n:=by omega
  subst e
  exact .inl ⟨Nat.le_refl _,hd σ H q⟩
theorem qGV {K:PySem.W.Frag} {a:Addr} {xs:List V} {g:TG} {tc:TT} {te:TE} {Kf:Hp→Prop} {σ0:St} {H0:Hp} {p:Addr} (Pv:Nat→St→Hp→Prop) (h0:Pv 0 σ0 H0) (hl:∀ i σ H,i≤xs.length→Pv i σ H→SqL K H a xs)
  (hs:∀ i x σ H,xs[i]?=some x→Pv i σ H→g x σ H fun σ2 H2=>tc σ2 H2 fun b H3=>if b=true then te σ2 H3 fun y H4=>∃ ys,H4 p=some (.lst ys)∧ys.length<sizeLine∧Pv (i+1) σ2 (upd H4 p (.lst (ys++[y]))) else Pv (i+1) σ2 H3)
  (hd:∀ σ H,Pv xs.length σ H→Kf H) :
  ∃ W:Nat→Nat→St→Hp→Prop,(∃ m,W 0 m σ0 H0)∧∀ i m σ H,W i m σ H→
   ((Itl K a).stop i H∧Kf H)∨((Itl K a).go i H∧∃ N:St→Hp→Prop,(∀ σ' H',N σ' H'→∃ m',m'<m∧W (i+1) m' σ' H')∧∀ x H',(Itl K a).yld i H x H'→g x σ H' fun σ2 H2=>tc σ2 H2 fun b H3=>
    if b=true then te σ2 H3 fun y H4=>∃ ys,H4 p=some (.lst ys)∧ys.length<sizeLine∧N σ2 (upd H4 p (.lst (ys++[y]))) else N σ2 H3):=by
 refine ⟨fun i m σ H=>m=xs.length - i∧i≤xs.length∧Pv i σ H,⟨xs.length,by simp,Nat.zero_le _,h0⟩,?_⟩
 rintro i m σ H ⟨rfl,hi,q⟩
 have hq:=hl i σ H hi q
 by_cases hlt:i<xs.length
 ·refine .inr ⟨⟨xs,xs[i],hq,by simp [hlt]⟩,Pv (i+1),fun σ' H' p'=>⟨xs.length - (i+1),by omega,rfl,hlt,p'⟩,fun x H' y=>?_⟩
  obtain ⟨e,y⟩:=y
  subst e
  exact hs i x σ _ (y xs hq) q
 ·have e:i=xs.length:=by omega
  subst e
  exact .inl ⟨⟨xs,hq,Nat.le_refl _⟩,hd σ H q⟩
theorem qLD {K:PySem.W.Frag} {a:Addr} {xs:List V} {g:TG} {tc:TT} {te:TE} {Kf:Hp→Prop} {σ0:St} {H0:Hp} {p:Addr} (Pv:Nat→St→Hp→Prop) (h0:Pv 0 σ0 H0) (hl:∀ i σ H,i≤xs.length→Pv i σ H→SqT K H a xs)
  (hs:∀ i x σ H,xs[i]?=some x→Pv i σ H→g x σ H fun σ2 H2=>tc σ2 H2 fun b H3=>if b=true then te σ2 H3 fun y H4=>∃ ys,H4 p=some (.lst ys)∧ys.length<sizeLine∧Pv (i+1) σ2 (upd H4 p (.lst (ys++[y]))) else Pv (i+1) σ2 H3)
  (hd:∀ σ H,Pv xs.length σ H→Kf H) :
  ∃ W:Nat→Nat→St→Hp→Prop,(∃ m,W 0 m σ0 H0)∧∀ i m σ H,W i m σ H→
   ((Itt K a).stop i H∧Kf H)∨((Itt K a).go i H∧∃ N:St→Hp→Prop,(∀ σ' H',N σ' H'→∃ m',m'<m∧W (i+1) m' σ' H')∧∀ x H',(Itt K a).yld i H x H'→g x σ H' fun σ2 H2=>tc σ2 H2 fun b H3=>
    if b=true then te σ2 H3 fun y H4=>∃ ys,H4 p=some (.lst ys)∧ys.length<sizeLine∧N σ2 (upd H4 p (.lst (ys++[y]))) else N σ2 H3):=by
 refine ⟨fun i m σ H=>m=xs.length - i∧i≤xs.length∧Pv i σ H,⟨xs.length,by simp,Nat.zero_le _,h0⟩,?_⟩
 rintro i m σ H ⟨rfl,hi,q⟩
 have hq:=hl i σ H hi q
 by_cases hlt:i<xs.length
 ·refine .inr ⟨⟨xs,xs[i],hq,by simp [hlt]⟩,Pv (i+1),fun σ' H' p'=>⟨xs.length - (i+1),by omega,rfl,hlt,p'⟩,fun x H' y=>?_⟩
  obtain ⟨e,y⟩:=y
  subst e
  exact hs i x σ _ (y xs hq) q
 ·have e:i=xs.length:=by omega
  subst e
  exact .inl ⟨⟨xs,hq,Nat.le_refl _⟩,hd σ H q⟩
def qUE (scope:Scope) (own:List Str) (fv:List Nat) (osc:Scope) (N:List Str):Bool:=
 decide (scope.kind=.function) && scope.names.all (fun y=>decide (y.2 ≠ .cell)) && scope.names.all (fun y=>decide (y.2 ≠ .local) || decide (scope.names.lookup y.1=some .local)) &&
 scope.names.all (fun y=>decide (y.2 ≠ .free) || (decide (osc.names.lookup y.1=some .cell) || decide (osc.names.lookup y.1=some .free))) && decide ((own++fv.map fun i=>N.getD i Str.empty).Nodup) &&
 fv.all fun i=>decide (i<N.length) && decide (scope.names.lookup (N.getD i Str.empty)=some .free)
theorem lcs {X:Cx} {scope:Scope} {own:List Str} {fv:List Nat} (h:qUE scope own fv X.env.scope X.N=true):LcScope X scope own fv:=by
 unfold qUE at h
 simp only [Bool.and_eq_true,decide_eq_true_eq,List.all_eq_true,Bool.or_eq_true] at h
 obtain ⟨⟨⟨⟨⟨h1,h2⟩,h3⟩,h4⟩,h5⟩,h6⟩:=h
 exact ⟨h1,h2,fun y hy e=>(h3 y hy).resolve_left fun z=>z e,fun y hy e=>(h4 y hy).resolve_left fun z=>z e,h5,h6⟩
theorem qEL {N:List Str} (h:decide N.Nodup=true):N.Nodup:=of_decide_eq_true h
theorem qPL {X:Cx} {K:PySem.W.Frag} {es:List Expr} {k n:Nat} {t:TGs} {pos:Pos} (hK:X.K=K) (hc:X.calm=true) (h:PGs X es t) (hn:(assignEach es X.env).length=n) (hst:(assignEach es X.env).findIdx? (·.1)=none):PG X (.Tuple es k pos) (gTup K n t):=by
 subst hK hn
 exact qL5 hc h rfl hst
theorem qTR {X:Cx} {K:PySem.W.Frag} {tg l:Expr} {tl:TE} (hK:X.K=K) (hl:PE X l tl):PI X tg l (iTup K tl):=by subst hK;exact qE7 hl
theorem qFO {X:Cx} {K:PySem.W.Frag} (hK:X.K=K):IxR X (rIxT K):=by subst hK;exact qBB
theorem qJ4 {X:Cx} {K:PySem.W.Frag} (hK:X.K=K):IxR X (rIxL K):=by subst hK;exact qF3
theorem qa7 {X:Cx} {K:PySem.W.Frag} (hK:X.K=K):OpR X (compareOp .In) (rIn K false):=by subst hK;exact qNT
end L2
namespace L2
open PySem PySem.Spec PyProof.Rows
structure T7 (byText:Bool) (t:SetTable) (n:Nat):Prop where
 mask:t.mask=7
 dum:t.dummies=#[]
 plain:t.plain=true
 led:t.led=!byText
 size:t.place.size=n
 up:t.place.toList.Pairwise (·<·)
 le:∀ j ∈ t.place.toList,j≤7
section
variable {byText:Bool} {t:SetTable} {n:Nat}
def pr (i pt:Nat):SetTable.Probe:={ j:=i,more:=0,i:=i,perturb:=pt,dummy:=none }
end
end L2
namespace L2
open PySem PySem.Spec PyProof.Rows
theorem qIB {α:Type}:∀ (l:List α) (i:Nat) (h:i<l.length),(l[i]::l.eraseIdx i).Perm l
 | [],i,h=>absurd h (by simp)
 | a::r,0,h=>.refl _
 | a::r,i+1,h=>by
  have hi:i<r.length:=by simpa using h
  have ih:=qIB r i hi
  show (r[i]::a::r.eraseIdx i).Perm (a::r)
  exact (List.Perm.swap _ _ _).trans (ih.cons a)
abbrev Ents:List Int→List (Int × Value)→Prop:=Paired fun k e=>∃ tk,e=(hashInt k,Value.int k tk)
def byT (w:World):Bool:=w.params.followText "set-order"
def SetI (w:World) (a:Addr) (zs:List Int) (h:Heap):Prop:=
 ∃ (es:Array (Int × Value)) (ep:Nat) (t:SetTable) (ks:List Int),h.get? a=some { cls:=.type "set",data:=.set es ep t }∧T7 (byT w) t es.size∧Ents ks es.toList∧ks.Perm zs∧zs.Nodup∧zs.length≤4
def addI (zs:List Int) (k:Int):List Int:=if k ∈ zs then zs else zs++[k]
section
variable {prog:Program} {w:World} {A:Around} {E:Value→Shared→Prop} {s:Shared}
end
section
variable {prog:Program} {w:World} {A:Around} {R:Result→Shared→Prop} {I:Addr} {fp wr:List Addr} {G:Array GenState→Array GenState→Prop} {n:Nat} {P:Nat→Value→Prop} {St:Nat→Shared→Prop}
end
end L2
namespace L2
open PySem PySem.Spec PyProof.Rows
section
variable {prog:Program} {w:World} {A:Around} {E:Value→Shared→Prop} {s:Shared}
set_option maxHeartbeats 3200000 in
end
end L2
namespace L2
open PySem PySem.Spec PyProof.Rows
section
variable {prog:Program} {w:World} {A:Around} {E:Value→Shared→Prop} {s:Shared} {a I:Addr} {es:Array (Int × Value)} {ep:Nat} {t:SetTable} {i:Nat}
end
end L2
namespace L2
open PySem PySem.Spec PyProof.Rows
theorem qC6 {ns:List Int}:∀ {us:List Value},Vals (ns.map V.int) us→IntsAre us ns:=by
 induction ns with
 | nil=>intro us h;cases h;exact .nil
 | cons n r ih=>
  intro us h
  cases h with
  | cons r1 r2=>
   obtain ⟨t,rfl⟩:=r1
   exact IntsAre.cons _ _ (ih r2)
theorem qFE:∀ {us:List Value} {ns:List Int},IntsAre us ns→Vals (ns.map V.int) us:=qJD
section
variable {X:Cx}
def SetO (w:World) (a:Addr) (zs:List Int):HO:=.ext (SetI w a zs)
theorem Inv.track {pins:List (Addr × Obj)} {s:Shared} {σ:St} {H:Hp} {T:Addr} {o:HO} (I:Inv X pins σ H s) (h0:H T=none) (h1:X.s₀.heap.objs.size≤T) (h2:T ≠ X.env.locals) (h3:∀ x c,X.env.cells.lookup x=some c→c ≠ T) (h4:∀ p ∈ X.pn++pins,p.1 ≠ T)
  (new:ObjOk X.prog X.w (upd H T o) s.heap T o):Inv X pins σ (upd H T o) s:=by
 have old:∀ b ob,X.s₀.heap.get? b=some ob→b ≠ T:=fun b ob e=>Nat.ne_of_lt (Nat.lt_of_lt_of_le (Heap.lt_size e) h1)
 have some':∀ b u,H b=some u→(upd H T o) b=some u:=fun b u e=>by rw [qA7 (qA5 e h0)];exact e
 refine ⟨I.ok,I.os,I.bare,⟨I.base.keep,I.base.slot,fun b ob e n hx=>?_,I.base.there,fun b xs e=>some' _ _ (I.base.tups b xs e),fun b ob u e=>some' _ _ (I.base.frzs b ob u e),fun b ps e=>?_⟩,I.loc,I.cell,?_,fun x c e=>?_,fun p hp=>?_,fun b u e=>?_,I.len⟩
 ·rw [qA7 (old b ob e)];exact I.base.free b ob e n hx
 ·exact some' _ _ (I.base.tbls b ps e)
 ·rw [qA7 (Ne.symm h2)];exact I.free
 ·rw [qA7 (h3 x c e)];exact I.freeC x c e
 ·obtain ⟨e1,n,r⟩:=I.pin p hp
  exact ⟨e1,by rw [qA7 (h4 p hp)];exact n,r⟩
 ·by_cases hb:b=T
  ·subst hb
   rw [qA1] at e
   cases e
   exact new
  ·rw [qA7 hb] at e
   exact (I.hok b u e).stay (fun c v _ q=>q) (fun c q=>some' _ _ q) (fun c ys q=>some' _ _ q) fun c t q=>some' _ _ q
theorem qLB {pins:List (Addr × Obj)} {s:Shared} {σ:St} {H:Hp} {vs:List Value} {ns:List Int} (I:Inv X pins σ H s) (hv:IntsAre vs ns) (hz:ns.length≤sizeLine) :
  Inv X pins σ (upd H s.heap.objs.size (.lst (ns.map V.int))) { s with heap:=s.heap.push { cls:=.type "list",data:=.seq vs.toArray } }:=
 I.lnew (t':=s.toks) (qFE hv) (by rw [List.length_map];exact hz)
end
end L2
namespace L2
open PySem PySem.Spec PyProof.Rows
section
variable {X:Cx}
theorem qS4:∀ (bs:List Bool),((List.range bs.length).all fun i=>(bs[i]?).getD true)=bs.all id:=by
 intro bs
 rw [Bool.eq_iff_iff,List.all_eq_true,List.all_eq_true]
 constructor
 ·intro h b hb
  obtain ⟨i,hi,e⟩:=List.mem_iff_getElem.mp hb
  have:=h i (List.mem_range.mpr hi)
  rw [List.getElem?_eq_getElem hi,e] at this
  exact this
 ·intro h i hi
  have hi':=List.mem_range.mp hi
  rw [List.getElem?_eq_getElem hi']
  exact h _ (List.getElem_mem hi')
theorem qHZ (hc:X.calm=true):qFC X (.builtin "all") (fun xs H Q=>∃ (p:Addr) (bs:List Bool),xs=[.ref p]∧SqL X.K H p (bs.map V.bl)∧Q (.bl (bs.all id)) H):=by
 intro pins s σ H xs us Q I r h
 obtain ⟨p,bs,rfl,hq,q⟩:=h
 obtain ⟨u,rfl,rx⟩:=qEY r
 cases rx
 obtain ⟨its,rv,pl,hz⟩:=I.list hq
 have hl:=pl.isList
 have hlt:p<s.heap.objs.size:=by obtain ⟨_,e,_⟩:=hl;exact Heap.lt_size e
 have hlen:=rv.length
 rw [List.length_map] at hlen
 refine call_all_walk (wpAny_pyIter_list hl ?_)
 refine ⟨s.heap.objs.size,[s.heap.objs.size,p],[s.heap.objs.size],its.toArray.size,_,_,fun i=>(bs[i]?).getD true,rfl,Walks.list (A:=X.A.in1) (I.ok.hd hc) _ p (Nat.ne_of_lt hlt) its.toArray,
  ⟨⟨_,Heap.get?_push_size _ rfl,rfl,rfl⟩,hl.push _⟩,fun i v s' Q' E' hP hQ=>?_,fun h' tk hk=>?_⟩
 ·have hP':its[i]?=some v:=by simpa using hP
  have hi:i<bs.length:=by rw [hlen];exact (List.getElem?_eq_some_iff.mp hP').1
  obtain ⟨u,hu,ru⟩:=rv.get (i:=i) (x:=.bl bs[i]) (by rw [List.getElem?_map,List.getElem?_eq_getElem hi];rfl)
  rw [hP'] at hu
  cases hu
  cases ru
  dsimp only at hQ
  rw [List.getElem?_eq_getElem hi,Option.getD_some] at hQ
  exact wpAny_truthy_bool hQ
 ·have e:((List.range its.toArray.size).all fun i=>(bs[i]?).getD true)=bs.all id:=by
   rw [List.size_toArray,← hlen];exact qS4 bs
  refine ⟨.bl (bs.all id),H,I.kept fun b x e=>hk b x (fun hm=>by rw [List.mem_singleton.mp hm] at e;exact Nat.lt_irrefl _ (Heap.lt_size e)) (Heap.get?_push_of_some _ e),?_,q⟩
  rw [e]
  rfl
theorem qBC:qFC X (.builtin "isinstance") (fun xs H Q=>∃ x T t b,xs=[x,.ty T]∧TyOf X.K H x t∧PySem.W.kitOne X.K t (.type T)=some b∧Q (.bl b) H):=by
 intro pins s σ H xs us Q I r h
 obtain ⟨x,T,t,b,rfl,ht,hk,q⟩:=h
 obtain ⟨u,v,rfl,r1,r2⟩:=qPD r
 cases r2
 exact qUL I r1 ht hk fun tk=>⟨.bl b,H,I.tok _,rfl,q⟩
theorem qTV (hu:X.A.units<cLine):OpR X (compareOp .Eq) (fun x y H Q=>∃ p l xs,x=.ref p∧y=.ref l∧SqL X.K H p xs∧SqL X.K H l []∧Q (.bl xs.isEmpty) H):=by
 intro pins s σ H x y v u Q I rx ry h
 obtain ⟨p,l,xs,rfl,rfl,h1,h2,q⟩:=h
 cases rx
 cases ry
 obtain ⟨its,r1,p1,z1⟩:=I.list h1
 obtain ⟨its2,r2,p2,z2⟩:=I.list h2
 cases r2
 cases xs with
 | nil=>
  cases r1
  exact SeqAt.eq_listAt (e:=fun _=>true) p1.isList p2.isList rfl hu (fun j h _=>absurd h (by simp)) ⟨.bl true,H,I,rfl,q⟩
 | cons a r=>
  cases r1
  exact SeqAt.eq_list_lengthsAt p1.isList p2.isList (by simp) hu ⟨.bl false,H,I,rfl,q⟩
end
theorem qVC {X:Cx} {K:PySem.W.Frag} (hK:X.K=K) (hc:X.calm=true):qFC X (.builtin "all") (fun xs H Q=>∃ (p:Addr) (bs:List Bool),xs=[.ref p]∧SqL K H p (bs.map V.bl)∧Q (.bl (bs.all id)) H):=by subst hK;exact qHZ hc
end L2
namespace L2
open PySem PySem.Spec PyProof.Rows
def Ite (K:PySem.W.Frag) (l:Addr):It:=
 ⟨fun i H=>∃ xs x,SqL K H l xs∧xs[i]?=some x,fun i H v H'=>∃ T x,H T=none∧v=.ref T∧H'=upd H T (.tup [.int (i:Int),x])∧∀ xs,SqL K H l xs→xs[i]?=some x,fun i H=>∃ xs,SqL K H l xs∧xs.length≤i⟩
section
variable {X:Cx}
theorem Inv.turnedL {pins:List (Addr × Obj)} {s:Shared} {σ:St} {H:Hp} {h':Heap} {t':Nat} {ch:List Addr} (I:Inv X pins σ H s) (k:∀ b o,b ∉ ch→s.heap.get? b=some o→h'.get? b=some o) (hc:∀ b ∈ ch,FpOk X pins H b):Inv X pins σ H { s with heap:=h',toks:=t' }:=by
 have nit:∀ b u,H b=some u→b ∉ ch:=fun b u e z=>by rw [(hc b z).1] at e;cases e
 refine I.step (g':=s.gens) (d':=s.drawn) (ch:=ch) (fun b hb=>⟨(hc b hb).2.2.2.1,(hc b hb).2.1,(hc b hb).2.2.2.2.1,(hc b hb).2.2.2.2.2⟩) (fun b o _ _ hc' e _=>k b o hc' e) (fun b o _ _ hc' e _=>⟨o.slots,k b o hc' e⟩) (fun _ _ _ _ n=>n)
  (fun b o hc' e=>⟨o,k b o hc' e⟩) (fun _ _ e=>e) (fun _ _ _ e=>e) (fun _ _ e=>e) (fun m hm=>?_) (fun b u e=>?_) I.bare
 ·obtain ⟨o,es,ep,ho,r⟩:=hm
  exact ⟨o,es,ep,k _ o (fun z=>(hc _ z).2.1 rfl) ho,r⟩
 ·refine (I.hok b u e).stay (fun c v hc' q=>k c v ?_ q) (fun _ q=>q) fun _ _ q=>q
  rcases hc' with z | z
  ·rw [z];exact nit b u e
  ·exact nit c _ z
theorem qT3 {P:Program} {w:World} {K:PySem.W.Frag} {elts:List Expr} {k:Nat} {pos:Pos} (l it e:Addr) (hne:e ≠ it):Turn P w K (.Tuple elts k pos) (Ite K l) [e,it] e (fun i h=>(∃ old,IsEnum h e it i old)∧h.IsListIter it l i) where
 mem:=by simp
 obj:=fun i h st b hb=>by
  obtain ⟨⟨old,h1⟩,o,h2,_,h4⟩:=st
  have e':b=e∨b=it:=by simpa using hb
  rcases e' with rfl | rfl
  ·exact ⟨_,h1,fun v z=>by
    have z':Data.fields _=Data.cell v:=z
    cases z'⟩
  ·exact ⟨o,h2,fun v z=>by rw [h4] at z;cases z⟩
 keep:=fun i h h' st kk=>by
  obtain ⟨⟨old,h1⟩,h2⟩:=st
  exact ⟨⟨old,kk e (by simp) _ h1⟩,h2.at fun o q=>kk it (by simp) o q⟩
 item:=by
  intro X hP hw hK hc i pins s σ H E I hf st hg
  subst hP hw hK
  obtain ⟨xs,x,hq,hx⟩:=hg
  obtain ⟨its,rv,p,hz⟩:=I.list hq
  obtain ⟨u,hu,ru⟩:=rv.get hx
  obtain ⟨⟨old,h1⟩,h2⟩:=st
  refine wpAny_pyNext_enum_item h1 h2 p.isList (x:=u) (by simpa using hu) hne fun h' a1 a2 a3 a4 a5=>?_
  refine ⟨_,rfl,wpAny_letOwnedTupleGo_enum a1 fun h2 b1 b2=>?_⟩
  have ltE:e<s.heap.objs.size:=Heap.lt_size h1
  have I1:Inv X pins σ H { s with heap:=h2,toks:=s.toks+1 }:=I.turnedL (ch:=[e,it]) (fun b o hb q=>by
   have hb1:b ≠ e:=fun z=>hb (by simp [z])
   have hb2:b ≠ it:=fun z=>hb (by simp [z])
   exact (b2.2 b hb1).trans (a5 b o hb1 hb2 q)) hf
  have hT:H s.heap.objs.size=none:=I.hok.fresh (Nat.le_refl _)
  have fT:=I.fpOk (H':=H) (b:=s.heap.objs.size) (Nat.le_refl _) hT
  have gT:h2.get? s.heap.objs.size=some { cls:=.type "tuple",data:=.seq #[.int i s.toks,u] }:=(b2.2 _ (Nat.ne_of_gt ltE)).trans a3
  refine ⟨.ref s.heap.objs.size,upd H s.heap.objs.size (.tup [.int (i:Int),x]),I1.track hT I.sz fT.2.1 fT.2.2.2.2.1 fT.2.2.2.2.2 ⟨by simp only [List.length_cons,List.length_nil];rw [sizeLine_eq];decide,[.int (i:Int) s.toks,u],.cons ⟨_,rfl⟩ (.cons ru .nil),⟨_,gT,rfl,_,rfl⟩⟩,rfl,
   ⟨_,x,hT,rfl,rfl,fun ys hy=>by rw [I.list_inj hy hq];exact hx⟩,⟨⟨_,b1⟩,a2.at fun o q=>(b2.2 it (Ne.symm hne)).trans q⟩,fun b hb=>?_⟩
  have ltb:b<s.heap.objs.size:=by
   have e':b=e∨b=it:=by simpa using hb
   rcases e' with rfl | rfl
   ·exact ltE
   ·obtain ⟨o,q,_⟩:=h2;exact Heap.lt_size (by assumption)
  rw [qA7 (Nat.ne_of_lt ltb)]
  exact (hf b hb).1
 done:=by
  intro X hP hw hK hc i pins s σ H E I hf st hg
  subst hP hw hK
  obtain ⟨xs,hq,hx⟩:=hg
  obtain ⟨its,rv,p,hz⟩:=I.list hq
  have hl:=rv.length
  obtain ⟨⟨old,h1⟩,h2⟩:=st
  exact wpAny_pyNext_enum_end (I.ok.hd hc) h1 h2 p.isList (by simp;omega) fun h' eb=>⟨rfl,I.turnedL (t':=s.toks) (ch:=[e,it]) (fun b o hb q=>eb b o (fun z=>hb (by simp [z])) q) hf⟩
 self:=fun _ _ _ _ _ st h=>by
  obtain ⟨⟨old,h1⟩,h2⟩:=st
  exact wpAny_pyIter_enum h1 h
def qbP (K:PySem.W.Frag) (ta:TA):TI:=fun σ H R=>ta σ H fun vs H1=>∃ l,vs=[.ref l]∧(∃ xs,SqL K H1 l xs)∧R (Ite K l) H1
theorem qJQ {elts:List Expr} {k:Nat} {tpos:Pos} {a:Expr} {ta:TA} {p pos:Pos} (hg:Gl X "enumerate") (hm:X.mg "enumerate" = none) (hv:bootBuiltins "enumerate" = some (.type "enumerate")) (ha:PA X [a] ta) (hs:starEach [a] X.env=[(false,eval a X.env)]:=by rfl) :
  PI X (.Tuple elts k tpos) (.Call (.Name "enumerate" p) [a] [] pos) (qbP X.K ta):=by
 intro pins s σ H R I h
 refine Call_ (qGK I hg hm hv (PyProof.Rows.callWith_type1 (thn (ha pos pins s σ H _ I h) fun us s1 ⟨vs,H1,I1,r1,q1⟩=>?_) hs rfl))
 obtain ⟨l,e,⟨xs,hq⟩,q⟩:=q1
 subst e
 obtain ⟨u,rfl,rx⟩:=qEY r1
 cases rx
 obtain ⟨its,rv,pl,hz⟩:=I1.list hq
 refine call_enumerate_list pl.isList fun h' he hi hsz hk=>?_
 refine wpAny_pyIter_enum he ?_
 have I2:Inv X pins σ H1 { s1 with heap:=h' }:=I1.kept (t':=s1.toks) hk
 refine ⟨s1.heap.objs.size+1,[s1.heap.objs.size+1,s1.heap.objs.size],_,_,H1,rfl,I2,qT3 l s1.heap.objs.size (s1.heap.objs.size+1) (Nat.succ_ne_self _),⟨⟨_,he⟩,hi⟩,fun b hb=>?_,q⟩
 have e':b=s1.heap.objs.size+1∨b=s1.heap.objs.size:=by simpa using hb
 rcases e' with rfl | rfl
 ·exact I1.fpOk (Nat.le_succ _) (I1.hok.fresh (Nat.le_succ _))
 ·exact I1.fpOk (Nat.le_refl _) (I1.hok.fresh (Nat.le_refl _))
end
theorem qUC {K:PySem.W.Frag} {a:Addr} {xs:List V} {g:TG} {tc:TT} {te:TE} {Kf:Hp→Prop} {σ0:St} {H0:Hp} {p:Addr} (Pv:Nat→St→Hp→Prop) (h0:Pv 0 σ0 H0) (hl:∀ i σ H,i≤xs.length→Pv i σ H→SqL K H a xs)
  (hs:∀ i x σ H T,xs[i]?=some x→Pv i σ H→H T=none→g (.ref T) σ (upd H T (.tup [.int (i:Int),x])) fun σ2 H2=>tc σ2 H2 fun b H3=>if b=true then te σ2 H3 fun y H4=>∃ ys,H4 p=some (.lst ys)∧ys.length<sizeLine∧Pv (i+1) σ2 (upd H4 p (.lst (ys++[y]))) else Pv (i+1) σ2 H3)
  (hd:∀ σ H,Pv xs.length σ H→Kf H) :
  ∃ W:Nat→Nat→St→Hp→Prop,(∃ m,W 0 m σ0 H0)∧∀ i m σ H,W i m σ H→
   ((Ite K a).stop i H∧Kf H)∨((Ite K a).go i H∧∃ N:St→Hp→Prop,(∀ σ' H',N σ' H'→∃ m',m'<m∧W (i+1) m' σ' H')∧∀ x H',(Ite K a).yld i H x H'→g x σ H' fun σ2 H2=>tc σ2 H2 fun b H3=>
    if b=true then te σ2 H3 fun y H4=>∃ ys,H4 p=some (.lst ys)∧ys.length<sizeLine∧N σ2 (upd H4 p (.lst (ys++[y]))) else N σ2 H3):=by
 refine ⟨fun i m σ H=>m=xs.length - i∧i≤xs.length∧Pv i σ H,⟨xs.length,by simp,Nat.zero_le _,h0⟩,?_⟩
 rintro i m σ H ⟨rfl,hi,q⟩
 have hq:=hl i σ H hi q
 by_cases hlt:i<xs.length
 ·refine .inr ⟨⟨xs,xs[i],hq,by simp [hlt]⟩,Pv (i+1),fun σ' H' p'=>⟨xs.length - (i+1),by omega,rfl,hlt,p'⟩,fun v H' y=>?_⟩
  obtain ⟨T,x,hT,e1,e2,y⟩:=y
  subst e1 e2
  exact hs i x σ H T (y xs hq) q hT
 ·have e:i=xs.length:=by omega
  subst e
  exact .inl ⟨⟨xs,hq,Nat.le_refl _⟩,hd σ H q⟩
end L2
namespace L2
open PySem PySem.Spec PyProof.Rows
theorem qI6 {prog:Program} {w:World} {A:Around} {E:Value→Shared→Prop} {s:Shared} {it t:Addr} {i:Nat} {items:Array Value} {x:Value} {Q:Value→Shared→Prop} (hit:s.heap.IsTupleIter it t i) (ht:s.heap.IsTuple t items) (hx:items[i]?=some x)
  (hQ:∀ h':Heap,h'.IsTupleIter it t (i+1)→Heap.SameBut it s.heap h'→Q x { s with heap:=h' }):wpAny (model prog w) A (Builtin.SmallTypes.nextOf (.ref it)) Q E s:=by
 obtain ⟨o,ho,hc,hd⟩:=id hit
 obtain ⟨ol,hol,_,nl,hdl⟩:=ht
 refine wpAny_bind (wpAny_callSpecial?_slot hit.typeIs F.slot_tuple_iterator_next (wpAny_call_entry F.slot_tuple_iterator_next hit.typeIs F.entry_tuple_iterator_next ?_ (F.args_tuple_iterator_next_1 _)))
 show wpAny _ _ (field (.ref it) 0 >>= _) _ _ _
 refine wpAny_bind (wpAny_field ho hd rfl ?_)
 refine wpAny_ite_false rfl ?_
 show wpAny _ _ (field (.ref it) 1 >>= _) _ _ _
 refine wpAny_bind (wpAny_field ho hd rfl ?_)
 show wpAny _ _ (seqItems? (.ref t) >>= _) _ _ _
 refine wpAny_bind (wpAny_seqItems hol hdl ?_)
 show wpAny _ _ (match items[i]? with | some x=>_ | none=>_) _ _ _
 rw [hx]
 refine wpAny_bind (wpAny_setField ho hd (by simp) ?_)
 refine wpAny_pure ⟨x,rfl,wpAny_pure (hQ _ ⟨_,Heap.get?_update_self _ ho (Obj.isFreed_of_fields (Obj.data_mapFields hd _)),(Obj.cls_mapFields o _).trans hc,?_⟩ (Heap.SameBut.update _ _ _))⟩
 rw [Obj.data_mapFields hd]
 simp
 rfl
theorem qIT {prog:Program} {w:World} {A:Around} {E:Value→Shared→Prop} {s:Shared} {it t:Addr} {i:Nat} {items:Array Value} {Q:Value→Shared→Prop} (hh:A.handled=none) (hit:s.heap.IsTupleIter it t i) (ht:s.heap.IsTuple t items) (hx:items[i]?=none)
  (hE:∀ (h':Heap) (e:Addr),Heap.ExtBut it s.heap h'→(∃ o,h'.get? e=some o∧o.cls=.type "StopIteration")→E (.ref e) { s with heap:=h' }):wpAny (model prog w) A (Builtin.SmallTypes.nextOf (.ref it)) Q E s:=by
 obtain ⟨o,ho,hc,hd⟩:=id hit
 obtain ⟨ol,hol,_,nl,hdl⟩:=ht
 refine wpAny_bind (wpAny_callSpecial?_slot hit.typeIs F.slot_tuple_iterator_next (wpAny_call_entry F.slot_tuple_iterator_next hit.typeIs F.entry_tuple_iterator_next ?_ (F.args_tuple_iterator_next_1 _)))
 show wpAny _ _ (field (.ref it) 0 >>= _) _ _ _
 refine wpAny_bind (wpAny_field ho hd rfl ?_)
 refine wpAny_ite_false rfl ?_
 show wpAny _ _ (field (.ref it) 1 >>= _) _ _ _
 refine wpAny_bind (wpAny_field ho hd rfl ?_)
 show wpAny _ _ (seqItems? (.ref t) >>= _) _ _ _
 refine wpAny_bind (wpAny_seqItems hol hdl ?_)
 show wpAny _ _ (match items[i]? with | some x=>_ | none=>_) _ _ _
 rw [hx]
 refine wpAny_bind (wpAny_rule ?_)
 refine wpAny_bind (wpAny_setField ho hd (by simp) ?_)
 show wpAny _ _ (newExc (.type "StopIteration") [] >>= _) _ _ _
 refine wpAny_bind ?_
 simp only [newExc,newTuple]
 refine wpAny_bind (wpAny_newObj_type ?_ (by size_fits))
 refine wpAny_bind (m:=firstArgMember _ _) (wpAny_of_eq (a:=Value.none) (by first | rfl | (simp only [firstArgMember];rfl)) ?_)
 refine wpAny_newObj_type ?_ (by size_fits)
 simp only [raiseNew]
 refine wpAny_bind (wpAny_handled ?_)
 rw [show A.in1.handled=none from hh]
 refine wpAny_bind (wpAny_pure (wpAny_throw ?_))
 exact hE _ _ (((Heap.SameBut.update ..).extBut.push _).push _) ⟨_,Heap.get?_push_size _ rfl,rfl⟩
def SIt (b:Bool) (h:Heap) (it l:Addr) (i:Nat):Prop:=match b with | true=>h.IsTupleIter it l i | false=>h.IsListIter it l i
def SSq (b:Bool) (h:Heap) (l:Addr) (xs:Array Value):Prop:=match b with | true=>h.IsTuple l xs | false=>h.IsList l xs
theorem SIt.at {b:Bool} {h h':Heap} {it l:Addr} {i:Nat} (q:SIt b h it l i) (k:∀ o,h.get? it=some o→h'.get? it=some o):SIt b h' it l i:=by
 cases b
 ·exact Heap.IsListIter.at q k
 ·exact Heap.IsTupleIter.at q k
theorem SSq.at {b:Bool} {h h':Heap} {l:Addr} {xs:Array Value} (q:SSq b h l xs) (k:∀ o,h.get? l=some o→h'.get? l=some o):SSq b h' l xs:=by
 cases b
 ·obtain ⟨o,e,r⟩:=q;exact ⟨o,k o e,r⟩
 ·obtain ⟨o,e,r⟩:=q;exact ⟨o,k o e,r⟩
theorem qGR {b:Bool} {prog:Program} {w:World} {A:Around} {E:Value→Shared→Prop} {s:Shared} {it t:Addr} {i:Nat} {items:Array Value} {x:Value} {Q:Value→Shared→Prop} (hit:SIt b s.heap it t i) (ht:SSq b s.heap t items) (hx:items[i]?=some x)
  (hQ:∀ h':Heap,SIt b h' it t (i+1)→Heap.SameBut it s.heap h'→Q x { s with heap:=h' }):wpAny (model prog w) A (Builtin.SmallTypes.nextOf (.ref it)) Q E s:=by
 cases b
 ·exact wpAny_nextOf_list_item hit ht hx hQ
 ·exact qI6 hit ht hx hQ
theorem qLA {b:Bool} {prog:Program} {w:World} {A:Around} {E:Value→Shared→Prop} {s:Shared} {it t:Addr} {i:Nat} {items:Array Value} {Q:Value→Shared→Prop} (hh:A.handled=none) (hit:SIt b s.heap it t i) (ht:SSq b s.heap t items) (hx:items[i]?=none)
  (hE:∀ (h':Heap) (e:Addr),Heap.ExtBut it s.heap h'→(∃ o,h'.get? e=some o∧o.cls=.type "StopIteration")→E (.ref e) { s with heap:=h' }):wpAny (model prog w) A (Builtin.SmallTypes.nextOf (.ref it)) Q E s:=by
 cases b
 ·exact wpAny_nextOf_list_end hh hit ht hx hE
 ·exact qIT hh hit ht hx hE
theorem qSX {b:Bool} {prog:Program} {w:World} {A:Around} {E:Value→Shared→Prop} {s:Shared} {z TI TO i1 i2 l1 l2:Addr} {k1 k2:Nat} {xs ys:Array Value} {x y a c:Value} {Q:Value→Shared→Prop} (D:ZipApart z TI TO i1 i2 l1 l2) (hz:IsZip s.heap z TI TO .none) (hTI:IsPair s.heap TI (.ref i1) (.ref i2)) (hTO:IsPair s.heap TO a c)
  (h1:SIt b s.heap i1 l1 k1) (h2:SIt b s.heap i2 l2 k2) (hl1:SSq b s.heap l1 xs) (hl2:SSq b s.heap l2 ys) (hx:xs[k1]?=some x) (hy:ys[k2]?=some y)
  (hQ:∀ h':Heap,IsZip h' z TI TO (rawInt (s.heap.objs.size:Int))→IsPair h' TO x y→SIt b h' i1 l1 (k1+1)→SIt b h' i2 l2 (k2+1)→IsPair h' s.heap.objs.size x y→h'.objs.size=s.heap.objs.size+1→
   (∀ (c:Addr) (o:Obj),c ≠ z→c ≠ TO→c ≠ i1→c ≠ i2→s.heap.get? c=some o→h'.get? c=some o)→Q (.ref s.heap.objs.size) { s with heap:=h' }) :
  wpAny (model prog w) A (Builtin.«zip.__next__» { pos:=[.ref z] }) (fun fin s'=>∃ v,fin=.done (.ret v)∧Q v s') E s:=by
 show wpAny _ _ (field (.ref z) 2 >>= _) _ _ _
 refine wpAny_bind (wpAny_field hz rfl rfl ?_)
 show wpAny _ _ (field (.ref z) 3 >>= _) _ _ _
 refine wpAny_bind (wpAny_field hz rfl rfl ?_)
 refine wpAny_bind (wpAny_seqItems hTI rfl ?_)
 show wpAny _ _ (Builtin.SmallTypes.ownedTupleIsFree (.ref z) >>= _) _ _ _
 refine wpAny_bind ?_
 show wpAny _ _ (field (.ref z) 0 >>= _) _ _ _
 refine wpAny_bind (wpAny_field hz rfl rfl (wpAny_pure ?_))
 refine wpAny_ite_true rfl ?_
 refine wpAny_bind (wpAny_rule ?_)
 refine wpAny_bind (wpAny_field hz rfl rfl ?_)
 refine wpAny_bind (wpAny_setField_rec hz (by simp) fun hA gz sb=>?_)
 refine wpAny_bind ?_
 show wpAny _ _ (forIn [(Value.ref i1,0),(Value.ref i2,1)] _ _) _ _ _
 rw [List.forIn_cons]
 refine wpAny_bind ?_
 dsimp only
 refine wpAny_bind (wpAny_onRaise ?_)
 have e:((#[Value.none,Value.bool false,Value.bool false,Value.ref TI,Value.ref TO][2] == Value.bool true)=false):=rfl
 rw [e]
 have sA1:SIt b hA i1 l1 k1:=h1.at fun o q=>(sb.2 _ D.i1z).trans q
 have sL1:SSq b hA l1 xs:=hl1.at fun o q=>(sb.2 _ D.l1z).trans q
 refine wpAny_bind (qGR (s:={ s with heap:=hA }) sA1 sL1 hx fun hB nB sB=>?_)
 refine wpAny_pure ?_
 have tB:IsPair hB TO a c:=(sB.2 _ D.TOi1).trans ((sb.2 _ D.TOz).trans hTO)
 refine wpAny_bind (wpAny_seqItems tB rfl ?_)
 refine wpAny_bind (wpAny_updateSeq_pair tB fun hC tC sC=>?_)
 refine wpAny_bind (wpAny_letGo (wpAny_pure ?_))
 dsimp only
 rw [List.forIn_cons]
 refine wpAny_bind ?_
 refine wpAny_bind (wpAny_onRaise ?_)
 have sC2:SIt b hC i2 l2 k2:=h2.at fun o q=>(sC.2 _ (Ne.symm D.TOi2)).trans ((sB.2 _ (Ne.symm D.i12)).trans ((sb.2 _ D.i2z).trans q))
 have sL2:SSq b hC l2 ys:=hl2.at fun o q=>(sC.2 _ D.l2TO).trans ((sB.2 _ D.l2i1).trans ((sb.2 _ D.l2z).trans q))
 refine wpAny_bind (qGR (s:={ s with heap:=hC }) sC2 sL2 hy fun hD nD sD=>?_)
 refine wpAny_pure ?_
 have tD:IsPair hD TO x c:=(sD.2 _ D.TOi2).trans tC
 refine wpAny_bind (wpAny_seqItems tD rfl ?_)
 refine wpAny_bind (wpAny_updateSeq_pair tD fun hF tF sF=>?_)
 refine wpAny_bind (wpAny_letGo (wpAny_pure ?_))
 dsimp only
 rw [List.forIn_nil]
 refine wpAny_pure ?_
 dsimp only
 have tF':IsPair hF TO x y:=tF
 refine wpAny_bind (wpAny_seqItems tF' rfl ?_)
 refine wpAny_bind (wpAny_newTuple ?_ (by show 2≤sizeLine;decide))
 have gzF:hF.get? z=some { cls:=.type "zip",data:=.fields #[.ellipsis,.bool false,.bool false,.ref TI,.ref TO] }:=(sF.2 _ (Ne.symm D.TOz)).trans ((sD.2 _ (Ne.symm D.i2z)).trans ((sC.2 _ (Ne.symm D.TOz)).trans ((sB.2 _ (Ne.symm D.i1z)).trans gz)))
 have szF:hF.objs.size=s.heap.objs.size:=sF.1.trans (sD.1.trans (sC.1.trans (sB.1.trans sb.1)))
 have ltz:z<hF.objs.size:=Heap.lt_size gzF
 have gzG:(hF.push { cls:=.type "tuple",data:=.seq #[x,y] }).get? z=some { cls:=.type "zip",data:=.fields #[.ellipsis,.bool false,.bool false,.ref TI,.ref TO] }:=Heap.get?_push_of_some _ gzF
 refine wpAny_bind ?_
 show wpAny _ _ (setField (.ref z) 0 (rawInt _) >>= _) _ _ _
 refine wpAny_bind (wpAny_setField_rec gzG (by simp) fun hG gG sG=>?_)
 refine wpAny_setField_rec gG (by simp) fun hI gI sI=>?_
 refine wpAny_pure ⟨_,rfl,?_⟩
 have o4:∀ (c:Addr) (o:Obj),c ≠ z→c ≠ TO→c ≠ i1→c ≠ i2→s.heap.get? c=some o→hI.get? c=some o:=fun c o n1 n2 n3 n4 e=>
  (sI.2 _ n1).trans ((sG.2 _ n1).trans (Heap.get?_push_of_some _ ((sF.2 _ n2).trans ((sD.2 _ n4).trans ((sC.2 _ n2).trans ((sB.2 _ n3).trans ((sb.2 _ n1).trans e)))))))
 have nz:hF.objs.size ≠ z:=Nat.ne_of_gt ltz
 have gT:hI.get? hF.objs.size=some { cls:=.type "tuple",data:=.seq #[x,y] }:=(sI.2 _ nz).trans ((sG.2 _ nz).trans (Heap.get?_push_size _ rfl))
 have szI:hI.objs.size=hF.objs.size+1:=sI.1.trans (sG.1.trans (Heap.size_push ..))
 have pz:∀ {c:Addr} {o:Obj},c ≠ z→hF.get? c=some o→hI.get? c=some o:=fun n e=>(sI.2 _ n).trans ((sG.2 _ n).trans (Heap.get?_push_of_some _ e))
 have q:=hQ hI
 rw [← szF] at q
 refine q gI (pz D.TOz tF') (nB.at fun o e=>pz D.i1z ((sF.2 _ (Ne.symm D.TOi1)).trans ((sD.2 _ D.i12).trans ((sC.2 _ (Ne.symm D.TOi1)).trans e)))) (nD.at fun o e=>pz D.i2z ((sF.2 _ (Ne.symm D.TOi2)).trans e)) gT szI o4
theorem qVP {b:Bool} {prog:Program} {w:World} {A:Around} {E:Value→Shared→Prop} {s:Shared} {z TI TO i1 i2 l1 l2:Addr} {k1:Nat} {xs:Array Value} {Q:PySem.Fin→Shared→Prop} (hh:A.handled=none) (D:ZipApart z TI TO i1 i2 l1 l2) (hz:IsZip s.heap z TI TO .none) (hTI:IsPair s.heap TI (.ref i1) (.ref i2))
  (h1:SIt b s.heap i1 l1 k1) (hl1:SSq b s.heap l1 xs) (hx:xs[k1]?=none)
  (hE:∀ (h':Heap) (e:Addr),(∀ (c:Addr) (o:Obj),c ≠ z→c ≠ i1→s.heap.get? c=some o→h'.get? c=some o)→(∃ o,h'.get? e=some o∧o.cls=.type "StopIteration")→E (.ref e) { s with heap:=h' }) :
  wpAny (model prog w) A (Builtin.«zip.__next__» { pos:=[.ref z] }) Q E s:=by
 show wpAny _ _ (field (.ref z) 2 >>= _) _ _ _
 refine wpAny_bind (wpAny_field hz rfl rfl ?_)
 show wpAny _ _ (field (.ref z) 3 >>= _) _ _ _
 refine wpAny_bind (wpAny_field hz rfl rfl ?_)
 refine wpAny_bind (wpAny_seqItems hTI rfl ?_)
 show wpAny _ _ (Builtin.SmallTypes.ownedTupleIsFree (.ref z) >>= _) _ _ _
 refine wpAny_bind ?_
 show wpAny _ _ (field (.ref z) 0 >>= _) _ _ _
 refine wpAny_bind (wpAny_field hz rfl rfl (wpAny_pure ?_))
 refine wpAny_ite_true rfl ?_
 refine wpAny_bind (wpAny_rule ?_)
 refine wpAny_bind (wpAny_field hz rfl rfl ?_)
 refine wpAny_bind (wpAny_setField_rec hz (by simp) fun hA gz sb=>?_)
 refine wpAny_bind ?_
 show wpAny _ _ (forIn [(Value.ref i1,0),(Value.ref i2,1)] _ _) _ _ _
 rw [List.forIn_cons]
 refine wpAny_bind ?_
 dsimp only
 refine wpAny_bind (wpAny_onRaise ?_)
 have e:((#[Value.none,Value.bool false,Value.bool false,Value.ref TI,Value.ref TO][2] == Value.bool true)=false):=rfl
 rw [e]
 have sA1:SIt b hA i1 l1 k1:=h1.at fun o q=>(sb.2 _ D.i1z).trans q
 have sL1:SSq b hA l1 xs:=hl1.at fun o q=>(sb.2 _ D.l1z).trans q
 refine wpAny_bind (qLA (s:={ s with heap:=hA }) hh sA1 sL1 hx fun hB ea xB ⟨ob,gb,cb⟩=>?_)
 have gzB:=xB z _ (Ne.symm D.i1z) gz
 refine wpAny_setField_rec gzB (by simp) fun hC gC sC=>?_
 have nez:ea ≠ z:=fun q=>by
  rw [q,gzB] at gb
  cases gb
  exact absurd (show Value.type "zip" = Value.type "StopIteration" from cb) (by decide)
 exact hE hC ea (fun c o n1 n2 q=>(sC.2 _ n1).trans (xB c o n2 ((sb.2 _ n1).trans q))) ⟨ob,(sC.2 _ nez).trans gb,cb⟩
theorem qSY {b:Bool} {prog:Program} {w:World} {A:Around} {E:Value→Shared→Prop} {s:Shared} {z TI TO i1 i2 l1 l2:Addr} {k1 k2:Nat} {xs ys:Array Value} {x a c:Value} {Q:PySem.Fin→Shared→Prop} (hh:A.handled=none) (D:ZipApart z TI TO i1 i2 l1 l2) (hz:IsZip s.heap z TI TO .none) (hTI:IsPair s.heap TI (.ref i1) (.ref i2)) (hTO:IsPair s.heap TO a c)
  (h1:SIt b s.heap i1 l1 k1) (h2:SIt b s.heap i2 l2 k2) (hl1:SSq b s.heap l1 xs) (hl2:SSq b s.heap l2 ys) (hx:xs[k1]?=some x) (hy:ys[k2]?=none)
  (hE:∀ (h':Heap) (e:Addr),(∀ (c:Addr) (o:Obj),c ≠ z→c ≠ TO→c ≠ i1→c ≠ i2→s.heap.get? c=some o→h'.get? c=some o)→(∃ o,h'.get? e=some o∧o.cls=.type "StopIteration")→E (.ref e) { s with heap:=h' }) :
  wpAny (model prog w) A (Builtin.«zip.__next__» { pos:=[.ref z] }) Q E s:=by
 show wpAny _ _ (field (.ref z) 2 >>= _) _ _ _
 refine wpAny_bind (wpAny_field hz rfl rfl ?_)
 show wpAny _ _ (field (.ref z) 3 >>= _) _ _ _
 refine wpAny_bind (wpAny_field hz rfl rfl ?_)
 refine wpAny_bind (wpAny_seqItems hTI rfl ?_)
 show wpAny _ _ (Builtin.SmallTypes.ownedTupleIsFree (.ref z) >>= _) _ _ _
 refine wpAny_bind ?_
 show wpAny _ _ (field (.ref z) 0 >>= _) _ _ _
 refine wpAny_bind (wpAny_field hz rfl rfl (wpAny_pure ?_))
 refine wpAny_ite_true rfl ?_
 refine wpAny_bind (wpAny_rule ?_)
 refine wpAny_bind (wpAny_field hz rfl rfl ?_)
 refine wpAny_bind (wpAny_setField_rec hz (by simp) fun hA gz sb=>?_)
 refine wpAny_bind ?_
 show wpAny _ _ (forIn [(Value.ref i1,0),(Value.ref i2,1)] _ _) _ _ _
 rw [List.forIn_cons]
 refine wpAny_bind ?_
 dsimp only
 refine wpAny_bind (wpAny_onRaise ?_)
 have e:((#[Value.none,Value.bool false,Value.bool false,Value.ref TI,Value.ref TO][2] == Value.bool true)=false):=rfl
 rw [e]
 have sA1:SIt b hA i1 l1 k1:=h1.at fun o q=>(sb.2 _ D.i1z).trans q
 have sL1:SSq b hA l1 xs:=hl1.at fun o q=>(sb.2 _ D.l1z).trans q
 refine wpAny_bind (qGR (s:={ s with heap:=hA }) sA1 sL1 hx fun hB nB sB=>?_)
 refine wpAny_pure ?_
 have tB:IsPair hB TO a c:=(sB.2 _ D.TOi1).trans ((sb.2 _ D.TOz).trans hTO)
 refine wpAny_bind (wpAny_seqItems tB rfl ?_)
 refine wpAny_bind (wpAny_updateSeq_pair tB fun hC tC sC=>?_)
 refine wpAny_bind (wpAny_letGo (wpAny_pure ?_))
 dsimp only
 rw [List.forIn_cons]
 refine wpAny_bind ?_
 refine wpAny_bind (wpAny_onRaise ?_)
 have sC2:SIt b hC i2 l2 k2:=h2.at fun o q=>(sC.2 _ (Ne.symm D.TOi2)).trans ((sB.2 _ (Ne.symm D.i12)).trans ((sb.2 _ D.i2z).trans q))
 have sL2:SSq b hC l2 ys:=hl2.at fun o q=>(sC.2 _ D.l2TO).trans ((sB.2 _ D.l2i1).trans ((sb.2 _ D.l2z).trans q))
 refine wpAny_bind (qLA (s:={ s with heap:=hC }) hh sC2 sL2 hy fun hD ea xD ⟨ob,gb,cb⟩=>?_)
 have gzC:hC.get? z=some { cls:=.type "zip",data:=.fields #[.ellipsis,.bool false,.bool false,.ref TI,.ref TO] }:=(sC.2 _ (Ne.symm D.TOz)).trans ((sB.2 _ (Ne.symm D.i1z)).trans gz)
 have gzD:=xD z _ (Ne.symm D.i2z) gzC
 refine wpAny_setField_rec gzD (by simp) fun hF gF sF=>?_
 have nez:ea ≠ z:=fun q=>by
  rw [q,gzD] at gb
  cases gb
  exact absurd (show Value.type "zip" = Value.type "StopIteration" from cb) (by decide)
 exact hE hF ea (fun c o n1 n2 n3 n4 q=>(sF.2 _ n1).trans (xD c o n4 ((sC.2 _ n2).trans ((sB.2 _ n3).trans ((sb.2 _ n1).trans q))))) ⟨ob,(sF.2 _ nez).trans gb,cb⟩
section
variable {b:Bool} {prog:Program} {w:World} {A:Around} {E:Value→Shared→Prop} {s:Shared} {z TI TO i1 i2 l1 l2:Addr} {k1 k2:Nat} {xs ys:Array Value}
theorem qIP {x y a c:Value} {Q:Option Value→Shared→Prop} (D:ZipApart z TI TO i1 i2 l1 l2) (hz:IsZip s.heap z TI TO .none) (hTI:IsPair s.heap TI (.ref i1) (.ref i2)) (hTO:IsPair s.heap TO a c)
  (h1:SIt b s.heap i1 l1 k1) (h2:SIt b s.heap i2 l2 k2) (hl1:SSq b s.heap l1 xs) (hl2:SSq b s.heap l2 ys) (hx:xs[k1]?=some x) (hy:ys[k2]?=some y)
  (hQ:∀ h':Heap,IsZip h' z TI TO (rawInt (s.heap.objs.size:Int))→IsPair h' TO x y→SIt b h' i1 l1 (k1+1)→SIt b h' i2 l2 (k2+1)→IsPair h' s.heap.objs.size x y→h'.objs.size=s.heap.objs.size+1→
   (∀ (c:Addr) (o:Obj),c ≠ z→c ≠ TO→c ≠ i1→c ≠ i2→s.heap.get? c=some o→h'.get? c=some o)→Q (some (.ref s.heap.objs.size)) { s with heap:=h' }) :
  wpAny (model prog w) A (pyNext (.ref z)) Q E s:=by
 have hT:s.TypeIs (.ref z) "zip":=⟨_,hz,rfl⟩
 unfold pyNext
 refine wpAny_bind (wpAny_attempt (wpAny_callSpecial?_slot (name:=Str.ofString "__next__") hT F.slot_zip_next (wpAny_call_entry F.slot_zip_next hT F.entry_zip_next ?_ (F.args_zip_next_1 _))))
 exact qSX (Q:=fun v s'=>wpAny (model prog w) A (pure (some v)) Q E s') D hz hTI hTO h1 h2 hl1 hl2 hx hy fun h' q1 q2 q3 q4 q5 q6 q7=>wpAny_pure (hQ h' q1 q2 q3 q4 q5 q6 q7)
theorem qJN {Q:Option Value→Shared→Prop} (hh:A.handled=none) (D:ZipApart z TI TO i1 i2 l1 l2) (hz:IsZip s.heap z TI TO .none) (hTI:IsPair s.heap TI (.ref i1) (.ref i2))
  (h1:SIt b s.heap i1 l1 k1) (hl1:SSq b s.heap l1 xs) (hx:xs[k1]?=none)
  (hQ:∀ h':Heap,(∀ (c:Addr) (o:Obj),c ≠ z→c ≠ i1→s.heap.get? c=some o→h'.get? c=some o)→Q none { s with heap:=h' }) :
  wpAny (model prog w) A (pyNext (.ref z)) Q E s:=by
 have hT:s.TypeIs (.ref z) "zip":=⟨_,hz,rfl⟩
 unfold pyNext
 refine wpAny_bind (wpAny_attempt (wpAny_callSpecial?_slot (name:=Str.ofString "__next__") hT F.slot_zip_next (wpAny_call_entry F.slot_zip_next hT F.entry_zip_next ?_ (F.args_zip_next_1 _))))
 refine qVP hh D hz hTI h1 hl1 hx fun h' e k ⟨o,g,c⟩=>?_
 refine wpAny_bind (wpAny_isInstance (T:="StopIteration") (b:=true) ⟨_,g,c⟩ isSubtype_stop ?_)
 exact wpAny_pure (hQ h' k)
theorem qIQ {x a c:Value} {Q:Option Value→Shared→Prop} (hh:A.handled=none) (D:ZipApart z TI TO i1 i2 l1 l2) (hz:IsZip s.heap z TI TO .none) (hTI:IsPair s.heap TI (.ref i1) (.ref i2)) (hTO:IsPair s.heap TO a c)
  (h1:SIt b s.heap i1 l1 k1) (h2:SIt b s.heap i2 l2 k2) (hl1:SSq b s.heap l1 xs) (hl2:SSq b s.heap l2 ys) (hx:xs[k1]?=some x) (hy:ys[k2]?=none)
  (hQ:∀ h':Heap,(∀ (c:Addr) (o:Obj),c ≠ z→c ≠ TO→c ≠ i1→c ≠ i2→s.heap.get? c=some o→h'.get? c=some o)→Q none { s with heap:=h' }) :
  wpAny (model prog w) A (pyNext (.ref z)) Q E s:=by
 have hT:s.TypeIs (.ref z) "zip":=⟨_,hz,rfl⟩
 unfold pyNext
 refine wpAny_bind (wpAny_attempt (wpAny_callSpecial?_slot (name:=Str.ofString "__next__") hT F.slot_zip_next (wpAny_call_entry F.slot_zip_next hT F.entry_zip_next ?_ (F.args_zip_next_1 _))))
 refine qSY hh D hz hTI hTO h1 h2 hl1 hl2 hx hy fun h' e k ⟨o,g,c⟩=>?_
 refine wpAny_bind (wpAny_isInstance (T:="StopIteration") (b:=true) ⟨_,g,c⟩ isSubtype_stop ?_)
 exact wpAny_pure (hQ h' k)
end
abbrev qSJ (b:Bool) (l:Addr):Obj:={ cls:=.type (match b with | true=>"tuple_iterator" | false=>"list_iterator"),data:=.fields #[.ref l,.int 0 0] }
theorem qL2 {b:Bool} {prog:Program} {w:World} {A:Around} {E:Value→Shared→Prop} {s:Shared} {l:Addr} {xs:Array Value} {Q:Value→Shared→Prop} (h:SSq b s.heap l xs) (hQ:Q (.ref s.heap.objs.size) { s with heap:=s.heap.push (qSJ b l) }):wpAny (model prog w) A (pyIter (.ref l)) Q E s:=by
 cases b
 ·exact wpAny_pyIter_list h hQ
 ·exact wpAny_pyIter_tuple h hQ
abbrev zb1 (b:Bool) (h:Heap) (l1:Addr):Heap:=h.push (qSJ b l1)
abbrev zb2 (b:Bool) (h:Heap) (l1 l2:Addr):Heap:=(zb1 b h l1).push (qSJ b l2)
abbrev zb3 (b:Bool) (h:Heap) (l1 l2:Addr):Heap:=(zb2 b h l1 l2).push { cls:=.type "tuple",data:=.seq #[.ref h.objs.size,.ref (zb1 b h l1).objs.size] }
abbrev zb4 (b:Bool) (h:Heap) (l1 l2:Addr):Heap:=(zb3 b h l1 l2).push { cls:=.type "tuple",data:=.seq #[.none,.none] }
abbrev zb5 (b:Bool) (h:Heap) (l1 l2:Addr):Heap:=(zb4 b h l1 l2).push { cls:=.type "zip",data:=.fields #[.none,.bool false,.bool false,.ref (zb2 b h l1 l2).objs.size,.ref (zb3 b h l1 l2).objs.size] }
theorem qVO (b:Bool) (l1 l2:Addr) (xs ys:Array Value):Meets (Builtin.«zip.__new__» { pos:=[.type "zip",.ref l1,.ref l2] }) fun _ R s=>
  SSq b s.heap l1 xs∧SSq b s.heap l2 ys∧R (.ok (.ret (.ref (zb4 b s.heap l1 l2).objs.size))) { s with heap:=zb5 b s.heap l1 l2 }:=by
 refine Meets.of_wp fun prog w A R s h=>?_
 obtain ⟨hp,g,d,tk,os⟩:=s
 obtain ⟨hl1,hl2,h⟩:=h
 have hL2:SSq b (hp.push (qSJ b l1)) l2 ys:=SSq.at hl2 fun o q=>Heap.get?_push_of_some _ q
 refine wpAny_bind ?_
 refine wpAny_bind (wpAny_pure ?_)
 refine wpAny_ite_false rfl ?_
 refine wpAny_bind (wpAny_of_eq sub_zip ?_)
 refine wpAny_ite_false rfl ?_
 refine wpAny_pure ?_
 refine wpAny_ite_false rfl ?_
 refine wpAny_bind ?_
 refine wpAny_bind ?_
 show wpAny _ _ (forIn [Value.ref l1,Value.ref l2] #[] _) _ _ _
 rw [List.forIn_cons]
 refine wpAny_bind (wpAny_bind (wpAny_holding (qL2 hl1 (wpAny_pure ?_))))
 dsimp only
 rw [List.forIn_cons]
 refine wpAny_bind (wpAny_bind (wpAny_holding (qL2 hL2 (wpAny_pure ?_))))
 dsimp only
 rw [List.forIn_nil]
 refine wpAny_pure (wpAny_pure ?_)
 refine wpAny_bind (wpAny_newTuple ?_ (by show 2≤sizeLine;decide))
 refine wpAny_bind (wpAny_newTuple ?_ (by show 2≤sizeLine;decide))
 refine wpAny_bind ?_
 unfold Builtin.SmallTypes.newRecord
 dsimp only
 refine wpAny_newObj_type ?_ (by first | rfl | (show (5:Nat)≤_;decide) | (show (5:Nat)≤sizeLine+2;rw [sizeLine_eq];decide))
 refine wpAny_pure ⟨_,rfl,h⟩
end L2
namespace L2
open PySem PySem.Spec PyProof.Rows
theorem qV9 {b:Bool} {prog:Program} {w:World} {A:Around} {E:Value→Shared→Prop} {s:Shared} {l1 l2:Addr} {xs ys:Array Value} {Q:Value→Shared→Prop} (hl1:SSq b s.heap l1 xs) (hl2:SSq b s.heap l2 ys)
  (hQ:∀ (h':Heap) (z TI TO i1 i2:Addr),ZipApart z TI TO i1 i2 l1 l2→IsZip h' z TI TO .none→IsPair h' TI (.ref i1) (.ref i2)→IsPair h' TO .none .none→SIt b h' i1 l1 0→SIt b h' i2 l2 0→(∀ c ∈ [z,TI,TO,i1,i2],s.heap.objs.size≤c)→
   (∀ (c:Addr) (o:Obj),s.heap.get? c=some o→h'.get? c=some o)→Q (.ref z) { s with heap:=h' }) :
  wpAny (model prog w) A (call (.type "zip") [.ref l1,.ref l2]) Q E s:=by
 refine callType_new F.called_zip (by decide) (F.typeCall_zip_2 _ _) (F.newCall_zip_2 _ _) (fun obj=>F.args_object_init_3 obj _ _) F.entry_zip_new (qVO b l1 l2 xs ys) ⟨hl1,hl2,?_⟩
 have z1:(zb1 b s.heap l1).objs.size=s.heap.objs.size+1:=Heap.size_push ..
 have z2:(zb2 b s.heap l1 l2).objs.size=s.heap.objs.size+2:=(Heap.size_push ..).trans (by rw [z1])
 have z3:(zb3 b s.heap l1 l2).objs.size=s.heap.objs.size+3:=(Heap.size_push ..).trans (by rw [z2])
 have z4:(zb4 b s.heap l1 l2).objs.size=s.heap.objs.size+4:=(Heap.size_push ..).trans (by rw [z3])
 have g5:(zb5 b s.heap l1 l2).get? (zb4 b s.heap l1 l2).objs.size=some { cls:=.type "zip",data:=.fields #[.none,.bool false,.bool false,.ref (zb2 b s.heap l1 l2).objs.size,.ref (zb3 b s.heap l1 l2).objs.size] }:=Heap.get?_push_size _ rfl
 have g4:(zb5 b s.heap l1 l2).get? (zb3 b s.heap l1 l2).objs.size=some { cls:=.type "tuple",data:=.seq #[.none,.none] }:=Heap.get?_push_of_some _ (Heap.get?_push_size _ rfl)
 have g3:(zb5 b s.heap l1 l2).get? (zb2 b s.heap l1 l2).objs.size=some { cls:=.type "tuple",data:=.seq #[.ref s.heap.objs.size,.ref (zb1 b s.heap l1).objs.size] }:=Heap.get?_push_of_some _ (Heap.get?_push_of_some _ (Heap.get?_push_size _ rfl))
 have g2:(zb5 b s.heap l1 l2).get? (zb1 b s.heap l1).objs.size=some (qSJ b l2):=Heap.get?_push_of_some _ (Heap.get?_push_of_some _ (Heap.get?_push_of_some _ (Heap.get?_push_size _ rfl)))
 have g1:(zb5 b s.heap l1 l2).get? s.heap.objs.size=some (qSJ b l1):=Heap.get?_push_of_some _ (Heap.get?_push_of_some _ (Heap.get?_push_of_some _ (Heap.get?_push_of_some _ (Heap.get?_push_size _ rfl))))
 have lt:∀ {l:Addr} {zs:Array Value},SSq b s.heap l zs→l<s.heap.objs.size:=fun {l zs} q=>by
  cases b
  ·obtain ⟨o,e,_⟩:=q;exact Heap.lt_size e
  ·obtain ⟨o,e,_⟩:=q;exact Heap.lt_size e
 refine ⟨⟨_,g5,rfl⟩,?_⟩
 have D:=zipApart_new (n:=s.heap.objs.size) (lt hl1) (lt hl2)
 rw [← z4,← z3,← z2,← z1] at D
 refine hQ _ _ _ _ _ _ D g5 g3 g4 ?_ ?_ ?_ fun c o e=>Heap.get?_push_of_some _ (Heap.get?_push_of_some _ (Heap.get?_push_of_some _ (Heap.get?_push_of_some _ (Heap.get?_push_of_some _ e))))
 ·cases b
  ·exact ⟨_,g1,rfl,rfl⟩
  ·exact ⟨_,g1,rfl,rfl⟩
 ·cases b
  ·exact ⟨_,g2,rfl,rfl⟩
  ·exact ⟨_,g2,rfl,rfl⟩
 ·intro c hc
  have e':c=(zb4 b s.heap l1 l2).objs.size∨c=(zb2 b s.heap l1 l2).objs.size∨c=(zb3 b s.heap l1 l2).objs.size∨c=s.heap.objs.size∨c=(zb1 b s.heap l1).objs.size:=by simpa using hc
  rcases e' with rfl | rfl | rfl | rfl | rfl
  ·omega
  ·omega
  ·omega
  ·exact Nat.le_refl _
  ·omega
def SqB (b:Bool) (K:PySem.W.Frag) (H:Hp) (a:Addr) (xs:List V):Prop:=match b with | true=>SqT K H a xs | false=>SqL K H a xs
def Itz (K:PySem.W.Frag) (b:Bool) (l1 l2:Addr):It:=
 ⟨fun i H=>∃ xs ys x y,SqB b K H l1 xs∧SqB b K H l2 ys∧xs[i]?=some x∧ys[i]?=some y,fun i H v H'=>∃ T x y,H T=none∧v=.ref T∧H'=upd H T (.tup [x,y])∧∀ xs ys,SqB b K H l1 xs→SqB b K H l2 ys→xs[i]?=some x∧ys[i]?=some y,fun i H=>∃ xs,SqB b K H l1 xs∧(xs.length≤i∨∃ ys x,SqB b K H l2 ys∧xs[i]?=some x∧ys.length≤i)⟩
section
variable {X:Cx}
theorem Inv.seqB {b:Bool} {pins:List (Addr × Obj)} {s:Shared} {σ:St} {H:Hp} {a:Addr} {xs:List V} (I:Inv X pins σ H s) (h:SqB b X.K H a xs):∃ its:List Value,Vals xs its∧SSq b s.heap a its.toArray:=by
 cases b
 ·obtain ⟨its,rv,p,_⟩:=I.list h;exact ⟨its,rv,p.isList⟩
 ·obtain ⟨its,rv,p,_⟩:=I.tuple h;exact ⟨its,rv,p⟩
theorem Inv.seqB_inj {b:Bool} {pins:List (Addr × Obj)} {s:Shared} {σ:St} {H:Hp} {a:Addr} {xs ys:List V} (I:Inv X pins σ H s) (h:SqB b X.K H a xs) (h':SqB b X.K H a ys):xs=ys:=by
 cases b
 ·exact I.list_inj h h'
 ·exact I.tuple_inj h h'
theorem qVS {P:Program} {w:World} {K:PySem.W.Frag} {elts:List Expr} {k:Nat} {pos:Pos} {b:Bool} {z TI TO i1 i2 l1 l2:Addr} (D:ZipApart z TI TO i1 i2 l1 l2):Turn P w K (.Tuple elts k pos) (Itz K b l1 l2) [z,TI,TO,i1,i2] z (fun i h=>IsZip h z TI TO .none∧IsPair h TI (.ref i1) (.ref i2)∧(∃ a c,IsPair h TO a c)∧SIt b h i1 l1 i∧SIt b h i2 l2 i) where
 mem:=by simp
 obj:=fun i h ⟨h1,h2,⟨a,c,h3⟩,h4,h5⟩ d hd=>by
  have it:∀ {j l:Addr},SIt b h j l i→∃ o,h.get? j=some o∧∀ v,o.data ≠ .cell v:=fun {j l} q=>by
   cases b
   ·obtain ⟨o,e,_,q⟩:=q;exact ⟨o,e,fun v z=>by rw [q] at z;cases z⟩
   ·obtain ⟨o,e,_,q⟩:=q;exact ⟨o,e,fun v z=>by rw [q] at z;cases z⟩
  have e':d=z∨d=TI∨d=TO∨d=i1∨d=i2:=by simpa using hd
  rcases e' with rfl | rfl | rfl | rfl | rfl
  ·exact ⟨_,h1,fun v z=>by
    have z':Data.fields _=Data.cell v:=z
    cases z'⟩
  ·exact ⟨_,h2,fun v z=>by
    have z':Data.seq _=Data.cell v:=z
    cases z'⟩
  ·exact ⟨_,h3,fun v z=>by
    have z':Data.seq _=Data.cell v:=z
    cases z'⟩
  ·exact it h4
  ·exact it h5
 keep:=fun i h h' ⟨h1,h2,⟨a,c,h3⟩,h4,h5⟩ kk=>⟨kk z (by simp) _ h1,kk TI (by simp) _ h2,⟨a,c,kk TO (by simp) _ h3⟩,h4.at fun o q=>kk i1 (by simp) o q,h5.at fun o q=>kk i2 (by simp) o q⟩
 item:=by
  intro X hP hw hK hc i pins s σ H E I hf st hg
  subst hP hw hK
  obtain ⟨xs,ys,x,y,hq1,hq2,hx,hy⟩:=hg
  obtain ⟨its,rv,p1⟩:=I.seqB hq1
  obtain ⟨jts,rw',p2⟩:=I.seqB hq2
  obtain ⟨u,hu,ru⟩:=rv.get hx
  obtain ⟨v,hv,rv'⟩:=rw'.get hy
  obtain ⟨h1,h2,⟨a,c,h3⟩,h4,h5⟩:=st
  refine qIP D h1 h2 h3 h4 h5 p1 p2 (x:=u) (y:=v) (by simpa using hu) (by simpa using hv) fun h' a1 a2 a3 a4 a5 a6 a7=>?_
  refine ⟨_,rfl,wpAny_letOwnedTupleGo_zip a1 fun h2' b1 b2=>?_⟩
  have ltz:z<s.heap.objs.size:=Heap.lt_size h1
  have nz:s.heap.objs.size ≠ z:=Nat.ne_of_gt ltz
  have I1:Inv X pins σ H { s with heap:=h2',toks:=s.toks }:=I.turnedL (ch:=[z,TI,TO,i1,i2]) (fun d o hd q=>by
   have e1:d ≠ z:=fun q=>hd (by simp [q])
   exact (b2.2 d e1).trans (a7 d o e1 (fun q=>hd (by simp [q])) (fun q=>hd (by simp [q])) (fun q=>hd (by simp [q])) q)) hf
  have hT:H s.heap.objs.size=none:=I.hok.fresh (Nat.le_refl _)
  have fT:=I.fpOk (H':=H) (b:=s.heap.objs.size) (Nat.le_refl _) hT
  have gT:h2'.get? s.heap.objs.size=some { cls:=.type "tuple",data:=.seq #[u,v] }:=(b2.2 _ nz).trans a5
  refine ⟨.ref s.heap.objs.size,upd H s.heap.objs.size (.tup [x,y]),I1.track hT I.sz fT.2.1 fT.2.2.2.2.1 fT.2.2.2.2.2 ⟨by simp only [List.length_cons,List.length_nil];rw [sizeLine_eq];decide,[u,v],.cons ru (.cons rv' .nil),⟨_,gT,rfl,_,rfl⟩⟩,rfl,
   ⟨_,x,y,hT,rfl,rfl,fun xs' ys' e1 e2=>by rw [I.seqB_inj e1 hq1,I.seqB_inj e2 hq2];exact ⟨hx,hy⟩⟩,⟨b1,(b2.2 _ D.TIz).trans (a7 _ _ D.TIz D.TITO D.TIi1 D.TIi2 h2),⟨u,v,(b2.2 _ D.TOz).trans a2⟩,a3.at fun o q=>(b2.2 _ D.i1z).trans q,a4.at fun o q=>(b2.2 _ D.i2z).trans q⟩,fun d hd=>?_⟩
  have ltb:d<s.heap.objs.size:=by
   have it:∀ {j l:Addr} {n:Nat},SIt b s.heap j l n→j<s.heap.objs.size:=fun {j l n} q=>by
    cases b
    ·obtain ⟨o,e,_,q⟩:=q;exact Heap.lt_size e
    ·obtain ⟨o,e,_,q⟩:=q;exact Heap.lt_size e
   have e':d=z∨d=TI∨d=TO∨d=i1∨d=i2:=by simpa using hd
   rcases e' with rfl | rfl | rfl | rfl | rfl
   ·exact ltz
   ·exact Heap.lt_size h2
   ·exact Heap.lt_size h3
   ·exact it h4
   ·exact it h5
  rw [qA7 (Nat.ne_of_lt ltb)]
  exact (hf d hd).1
 done:=by
  intro X hP hw hK hc i pins s σ H E I hf st hg
  subst hP hw hK
  obtain ⟨xs,hq,hx⟩:=hg
  obtain ⟨its,rv,p⟩:=I.seqB hq
  have hl:=rv.length
  obtain ⟨h1,h2,⟨a,c,h3⟩,h4,h5⟩:=st
  rcases hx with hx | ⟨ys,x,hq2,hxx,hy⟩
  rotate_left
  ·obtain ⟨jts,rw',p2⟩:=I.seqB hq2
   have hl2:=rw'.length
   obtain ⟨u,hu,ru⟩:=rv.get hxx
   exact qIQ (I.ok.hd hc) D h1 h2 h3 h4 h5 p p2 (x:=u) (by simpa using hu) (by simp;omega) fun h' eb=>⟨rfl,I.turnedL (t':=s.toks) (ch:=[z,TI,TO,i1,i2]) (fun d o hd q=>eb d o (fun z=>hd (by simp [z])) (fun z=>hd (by simp [z])) (fun z=>hd (by simp [z])) (fun z=>hd (by simp [z])) q) hf⟩
  exact qJN (I.ok.hd hc) D h1 h2 h4 p (by simp;omega) fun h' eb=>⟨rfl,I.turnedL (t':=s.toks) (ch:=[z,TI,TO,i1,i2]) (fun d o hd q=>eb d o (fun z=>hd (by simp [z])) (fun z=>hd (by simp [z])) q) hf⟩
 self:=fun _ _ _ _ _ ⟨h1,_⟩ h=>wpAny_pyIter_zip h1 h
def iZip (K:PySem.W.Frag) (ta:TA):TI:=fun σ H R=>ta σ H fun vs H1=>∃ b l m,vs=[.ref l,.ref m]∧(∃ xs,SqB b K H1 l xs)∧(∃ xs,SqB b K H1 m xs)∧R (Itz K b l m) H1
theorem qZZ {elts:List Expr} {k:Nat} {tpos:Pos} {a b:Expr} {ta:TA} {p pos:Pos} (hg:Gl X "zip") (hm:X.mg "zip" = none) (hv:bootBuiltins "zip" = some (.type "zip")) (ha:PA X [a,b] ta) (hs:starEach [a,b] X.env=[(false,eval a X.env),(false,eval b X.env)]:=by rfl) (hs2:starEach [b] X.env=[(false,eval b X.env)]:=by rfl) :
  PI X (.Tuple elts k tpos) (.Call (.Name "zip" p) [a,b] [] pos) (iZip X.K ta):=by
 intro pins s σ H R I h
 refine Call_ (qGK I hg hm hv (PyProof.Rows.callWith_type1 (thn (ha pos pins s σ H _ I h) fun us s1 ⟨vs,H1,I1,r1,q1⟩=>?_) (by rw [hs,hs2]) (by rw [hs2];rfl)))
 obtain ⟨bb,l,m,e,⟨xs,hq⟩,⟨ys,hq2⟩,q⟩:=q1
 subst e
 obtain ⟨u,v,rfl,rx,ry⟩:=qPD r1
 cases rx
 cases ry
 obtain ⟨its,rv,pl⟩:=I1.seqB hq
 obtain ⟨jts,rw',pm⟩:=I1.seqB hq2
 refine qV9 pl pm fun h' z TI TO i1 i2 D hz hTI hTO hi1 hi2 hfr hk=>?_
 refine wpAny_pyIter_zip hz ?_
 have I2:Inv X pins σ H1 { s1 with heap:=h' }:=I1.kept (t':=s1.toks) hk
 exact ⟨z,[z,TI,TO,i1,i2],_,_,H1,rfl,I2,qVS (b:=bb) D,⟨hz,hTI,⟨_,_,hTO⟩,hi1,hi2⟩,fun c hc=>I1.fpOk (hfr c hc) (I1.hok.fresh (hfr c hc)),q⟩
end
theorem qXK {K:PySem.W.Frag} {b:Bool} {l m:Addr} {xs ys:List V} {g:TG} {tc:TT} {te:TE} {Kf:Hp→Prop} {σ0:St} {H0:Hp} {p:Addr} (hlen:xs.length=ys.length) (Pv:Nat→St→Hp→Prop) (h0:Pv 0 σ0 H0) (hl:∀ i σ H,i≤xs.length→Pv i σ H→SqB b K H l xs∧SqB b K H m ys)
  (hs:∀ i x y σ H T,xs[i]?=some x→ys[i]?=some y→Pv i σ H→H T=none→g (.ref T) σ (upd H T (.tup [x,y])) fun σ2 H2=>tc σ2 H2 fun b H3=>if b=true then te σ2 H3 fun y H4=>∃ ys,H4 p=some (.lst ys)∧ys.length<sizeLine∧Pv (i+1) σ2 (upd H4 p (.lst (ys++[y]))) else Pv (i+1) σ2 H3)
  (hd:∀ σ H,Pv xs.length σ H→Kf H) :
  ∃ W:Nat→Nat→St→Hp→Prop,(∃ m,W 0 m σ0 H0)∧∀ i n σ H,W i n σ H→
   ((Itz K b l m).stop i H∧Kf H)∨((Itz K b l m).go i H∧∃ N:St→Hp→Prop,(∀ σ' H',N σ' H'→∃ m',m'<n∧W (i+1) m' σ' H')∧∀ x H',(Itz K b l m).yld i H x H'→g x σ H' fun σ2 H2=>tc σ2 H2 fun b H3=>
    if b=true then te σ2 H3 fun y H4=>∃ ys,H4 p=some (.lst ys)∧ys.length<sizeLine∧N σ2 (upd H4 p (.lst (ys++[y]))) else N σ2 H3):=by
 refine ⟨fun i n σ H=>n=xs.length - i∧i≤xs.length∧Pv i σ H,⟨xs.length,by simp,Nat.zero_le _,h0⟩,?_⟩
 rintro i n σ H ⟨rfl,hi,q⟩
 have hq:=hl i σ H hi q
 by_cases hlt:i<xs.length
 ·refine .inr ⟨⟨xs,ys,xs[i],ys[i]'(by omega),hq.1,hq.2,by simp [hlt],List.getElem?_eq_getElem _⟩,Pv (i+1),fun σ' H' p'=>⟨xs.length - (i+1),by omega,rfl,hlt,p'⟩,fun v H' y=>?_⟩
  obtain ⟨T,x,y,hT,e1,e2,yy⟩:=y
  subst e1 e2
  exact hs i x y σ H T (yy xs ys hq.1 hq.2).1 (yy xs ys hq.1 hq.2).2 q hT
 ·have e:i=xs.length:=by omega
  subst e
  exact .inl ⟨⟨xs,hq.1,.inl (Nat.le_refl _)⟩,hd σ H q⟩
end L2
namespace L2
open PySem PySem.Spec PyProof.Rows
section
variable {X:Cx}
theorem qWU:PGet X (rIxL X.K):=by
 intro pins s σ H o i ov iv Q I ro ri h
 obtain ⟨p,xs,i,z,rfl,rfl,hq,he,q⟩:=h
 cases ro
 obtain ⟨t,rfl⟩:=ri
 obtain ⟨its,r,pl,hz⟩:=I.list hq
 obtain ⟨j,h1,h2,h3,h4,h5⟩:=qQD he
 obtain ⟨w,ew,rw'⟩:=r.get h2
 have hl:=r.length
 have hn:=qLC
 have fin:EP X pins σ Q w s:=⟨z,H,I,rw',q⟩
 by_cases h0:0≤i
 ·have hj:i.toNat=j:=by
   rw [seqIndex_of h0 h5] at h1
   exact Option.some.inj h1
  exact wpAny_getItem_list pl.isList h0 (by omega) (by rw [hj];simpa using ew) fin
 ·have hj:(i+(its.toArray.size:Int)).toNat=j:=by
   rw [seqIndex_neg (by omega) h4] at h1
   rw [List.size_toArray,← hl]
   exact Option.some.inj h1
  exact wpAny_getItem_list_neg pl.isList (by omega) (by rw [List.size_toArray] <;> omega) (by omega) (by rw [hj];simpa using ew) fin
end
end L2
namespace L2
open PySem
section
variable {es:List Expr} {env:Env} {p:Pos}
end
end L2
namespace L2
open PySem
@[irreducible] def cst (i:Int) (p:Pos):Expr:=.Constant (.int i) 0 p
end L2
namespace L2
open PySem
end L2
namespace L2
open PySem
@[elab_as_elim] theorem us0 {α:Type} {P:List α→Prop} (us:List α) (hl:us.length=0) (h:P []):P us:=by
 match us,hl with
 | [],_=>exact h
@[elab_as_elim] theorem us1 {α:Type} {P:List α→Prop} (us:List α) (hl:us.length=1) (h:∀ a,P [a]):P us:=by
 match us,hl with
 | [a],_=>exact h a
@[elab_as_elim] theorem us2 {α:Type} {P:List α→Prop} (us:List α) (hl:us.length=2) (h:∀ a b,P [a,b]):P us:=by
 match us,hl with
 | [a,b],_=>exact h a b
@[elab_as_elim] theorem us3 {α:Type} {P:List α→Prop} (us:List α) (hl:us.length=3) (h:∀ a b c,P [a,b,c]):P us:=by
 match us,hl with
 | [a,b,c],_=>exact h a b c
@[elab_as_elim] theorem us4 {α:Type} {P:List α→Prop} (us:List α) (hl:us.length=4) (h:∀ a b c d,P [a,b,c,d]):P us:=by
 match us,hl with
 | [a,b,c,d],_=>exact h a b c d
end L2
namespace L2.G
open PySem PyProof.Rows
abbrev gSM:=StateT SortSt Sem
class NM where
 nm:Value→Int
 good:Value→Prop
variable [NM]
def gkv (p:Keyed):Int:=NM.nm p.1
def gIK (p:Keyed):Prop:=NM.good p.1
class LtOk (prog:Program) (w:World) (A:Around) (s:Shared) (κ0:SortKind):Prop where
 lt:∀ {x y:Value} {Q:Bool→Shared→Prop} {E:Value→Shared→Prop},NM.good x→NM.good y→Q (decide (NM.nm x<NM.nm y)) s→wpAny (model prog w) A (keyLt' κ0 x y) Q E s
def gK (xs:Array Keyed) (i:Nat):Int:=match xs[i]? with
 | some p=>NM.nm p.1
 | none=>0
def gSortedTo (xs:Array Keyed) (k:Nat):Prop:=∀ i j,i≤j→j<k→gK xs i≤gK xs j
def qCQ (xs:Array Keyed):Prop:=∀ p,p ∈ xs.toList→NM.good p.1
theorem qWW {xs:Array Keyed} {i:Nat} (hi:i<xs.size):gK xs i=NM.nm xs[i].1:=by unfold gK;rw [getElem?_pos xs i hi]
theorem qHQ {xs ys:Array Keyed} {i j:Nat} (h:xs[i]?=ys[j]?):gK xs i=gK ys j:=by unfold gK;rw [h]
theorem qKB {xs:Array Keyed} {src d:Nat} (hs:src<xs.size) (hd:d≤src) (k:Nat) :
  gK (bubble xs src d) k=if k=src - d then gK xs src else if src - d<k∧k≤src then gK xs (k - 1) else gK xs k:=by
 have e:=getElem?_bubble hs d hd k
 by_cases h1:k=src - d
 ·rw [if_pos h1] at e ⊢;exact qHQ e
 ·rw [if_neg h1] at e ⊢
  by_cases h2:src - d<k∧k≤src
  ·rw [if_pos h2] at e ⊢;exact qHQ e
  ·rw [if_neg h2] at e ⊢;exact qHQ e
theorem qHP {xs:Array Keyed} {i j:Nat} (hj:j≤xs.size) (k:Nat) :
  gK (mirror xs i j ((j - i) / 2)) k=if i≤k∧k<j then gK xs (i+j - 1 - k) else gK xs k:=by
 have e:=getElem?_mirror_all (i:=i) hj k
 by_cases h1:i≤k∧k<j
 ·rw [if_pos h1] at e ⊢;exact qHQ e
 ·rw [if_neg h1] at e ⊢;exact qHQ e
theorem qAY {xs:Array Keyed} {i j:Nat} (hj:j≤xs.size) (heq:∀ k,i≤k→k<j→gK xs k=gK xs (j - 1)) (k:Nat) :
  gK (mirror xs i j ((j - i) / 2)) k=gK xs k:=by
 rw [qHP hj]
 split
 ·rw [heq _ (by omega) (by omega),heq k (by omega) (by omega)]
 ·rfl
section
variable {prog:Program} {w:World} {A:Around} {E:Value→Shared→Prop} {s:Shared} {κ0:SortKind} [LtOk prog w A s κ0]
theorem qWO {st:SortSt} {x y:Keyed} {Q:Option Bool→SortSt→Prop} (hk:kindOf st=κ0) (hx:gIK x) (hy:gIK y) (h:Q (some (decide (gkv x<gkv y))) st):wpS (model prog w) A E s (lt' x y) Q st:=by
 rw [lt'_eq]
 refine wpS_bind (wpS_get ?_)
 rw [hk]
 refine wpS_bind (wpS_lift (wpAny_attempt (LtOk.lt hx hy ⟨rfl,?_⟩)))
 exact wpS_pure h
theorem qUS {st:SortSt} {arr:Array Keyed} {i:Nat} {x:Keyed} {Q:Keyed→SortSt→Prop} (h:arr[i]?=some x) (hQ:Q x st):wpS (model prog w) A E s (elem' arr i) Q st:=by
 rw [elem'_eq,h]
 exact wpS_pure hQ
end
end L2.G
namespace L2.G
open PySem PyProof.Rows
variable [NM]
structure gMR (R:Keyed→Keyed→Prop) (all out ra rb:List Keyed):Prop where
 perm:(out++(ra++rb)).Perm all
 up:out.Pairwise R
 ua:ra.Pairwise R
 ub:rb.Pairwise R
 la:∀ x ∈ out,∀ y ∈ ra,R x y
 lb:∀ x ∈ out,∀ y ∈ rb,R x y
section
variable {R:Keyed→Keyed→Prop} {all out ra rb xs:List Keyed}
end
theorem qUW {a:Array Keyed} {i:Nat} (h:i<a.size):∃ x,a[i]?=some x∧a.toList[i]?=some x∧x ∈ a.toList:=⟨a[i],Array.getElem?_eq_getElem h,by simp [h],by simp⟩
end L2.G
namespace L2.G
open PySem PyProof.Rows
variable [NM]
section
variable {prog:Program} {w:World} {A:Around} {E:Value→Shared→Prop} {s:Shared} {κ0:SortKind} [LtOk prog w A s κ0]
end
end L2.G
namespace L2.G
open PySem PyProof.Rows
variable [NM]
section
variable {prog:Program} {w:World} {A:Around} {E:Value→Shared→Prop} {s:Shared} {κ0:SortKind} [LtOk prog w A s κ0]
end
end L2.G
namespace L2.G
open PySem PyProof.Rows
variable [NM]
def gSeg (xs:Array Keyed) (lo hi:Nat):Prop:=∀ i j,lo≤i→i≤j→j<hi→gK xs i≤gK xs j
theorem qUX {xs:Array Keyed} {i:Nat} {x:Keyed} (h:xs[i]?=some x):gK xs i=gkv x:=by
 unfold gK
 rw [h]
 rfl
section
variable {prog:Program} {w:World} {A:Around} {E:Value→Shared→Prop} {s:Shared} {κ0:SortKind} [LtOk prog w A s κ0]
structure gSG (κ0:SortKind) (a₀:Array Keyed) (st:SortSt):Prop where
 perm:(arrOf st).Perm a₀
 kind:kindOf st=κ0
 failed:failedOf st=none
theorem gSG.size {a₀:Array Keyed} {st:SortSt} (h:gSG κ0 a₀ st):(arrOf st).size=a₀.size:=h.perm.size_eq
theorem gSG.ik {a₀:Array Keyed} {st:SortSt} (h:gSG κ0 a₀ st) (h0:qCQ a₀):∀ x ∈ (arrOf st).toList,gIK x:=fun x hx=>h0 x ((Array.perm_iff_toList_perm.mp h.perm).mem_iff.mp hx)
end
end L2.G
namespace L2.G
open PySem PyProof.Rows
variable [NM]
def gOut (xs ys:Array Keyed) (lo hi:Nat):Prop:=∀ k,k<lo∨hi≤k→gK ys k=gK xs k
theorem gOut.refl (xs:Array Keyed) (lo hi:Nat):gOut xs xs lo hi:=fun _ _=>rfl
theorem gOut.trans {xs ys zs:Array Keyed} {lo hi:Nat} (h1:gOut xs ys lo hi) (h2:gOut ys zs lo hi):gOut xs zs lo hi:=fun k hk=>(h2 k hk).trans (h1 k hk)
theorem gOut.wide {xs ys:Array Keyed} {lo hi lo' hi':Nat} (h:gOut xs ys lo hi) (a:lo'≤lo) (b:hi≤hi'):gOut xs ys lo' hi':=fun k hk=>h k (by omega)
theorem gSG.lay {κ0:SortKind} {a₀:Array Keyed} {st:SortSt} (g:gSG κ0 a₀ st) {ys:Array Keyed} (p:ys.Perm (arrOf st)):gSG κ0 a₀ (setArr st ys):=⟨p.trans g.perm,g.kind,g.failed⟩
theorem qQ2 {xs:Array Keyed} {i j:Nat} (hj:j≤xs.size):gOut xs (mirror xs i j ((j - i) / 2)) i j:=fun k hk=>by rw [qHP hj,if_neg (by omega)]
section
variable {prog:Program} {w:World} {A:Around} {E:Value→Shared→Prop} {s:Shared} {κ0:SortKind} [LtOk prog w A s κ0] {a₀:Array Keyed}
theorem qHN {st:SortSt} {i j:Nat} {Q:Option Bool→SortSt→Prop} (h0:qCQ a₀) (g:gSG κ0 a₀ st) (hi:i<a₀.size) (hj:j<a₀.size) (h:Q (some (decide (gK (arrOf st) i<gK (arrOf st) j))) st):wpS (model prog w) A E s (ltAt' i j) Q st:=by
 have hi2:i<(arrOf st).size:=by rw [g.size];exact hi
 have hj2:j<(arrOf st).size:=by rw [g.size];exact hj
 obtain ⟨x,ex,_,mx⟩:=qUW hi2
 obtain ⟨y,ey,_,my⟩:=qUW hj2
 rw [qUX ex,qUX ey] at h
 rw [ltAt'_eq]
 refine wpS_bind (wpS_get ?_)
 exact wpS_bind (qUS ex (wpS_bind (qUS ey (qWO g.kind (g.ik h0 x mx) (g.ik h0 y my) h))))
theorem qWR {st:SortSt} {lo n ok:Nat} {Q:Bool→SortSt→Prop} (h0:qCQ a₀) (g:gSG κ0 a₀ st) (hn:lo+n≤a₀.size) (hok:ok≤n) (u:gSeg (arrOf st) lo (lo+ok))
  (h:∀ st2,gSG κ0 a₀ st2→pendingOf st2=pendingOf st→gSeg (arrOf st2) lo (lo+n)→gOut (arrOf st) (arrOf st2) lo (lo+n)→Q true st2):wpS (model prog w) A E s (binarySort' lo n ok) Q st:=by
 rw [binarySort'_eq]
 refine wpS_bind (wpS_mono (wpS_forRange (I:=fun k c st2=>c=(none,())∧gSG κ0 a₀ st2∧pendingOf st2=pendingOf st∧gSeg (arrOf st2) lo (lo+min k n)∧gOut (arrOf st) (arrOf st2) lo (lo+n))
  (Q:=fun c st2=>c=(none,())∧gSG κ0 a₀ st2∧pendingOf st2=pendingOf st∧gSeg (arrOf st2) lo (lo+n)∧gOut (arrOf st) (arrOf st2) lo (lo+n)) ?step ?fin ?init) ?post)
 case post=>
  rintro c st2 ⟨rfl,g2,pe,u2,o2⟩
  exact wpS_pure (h st2 g2 pe u2 o2)
 case init=>
  refine ⟨rfl,g,rfl,fun i j hl hij hj=>?_,.refl _ _ _⟩
  by_cases h1:ok=0
  ·rw [show i=j by omega]
   exact Int.le_refl _
  ·exact u i j hl hij (by omega)
 case fin=>
  rintro c st2 ⟨hc,g2,pe,u2,o2⟩
  rw [show min (max (max ok 1) n) n=n by omega] at u2
  exact ⟨hc,g2,pe,u2,o2⟩
 case step=>
  rintro k c st2 hak hkn ⟨rfl,g2,pe,u2,o2⟩
  rw [show min k n=k by omega] at u2
  have hk:lo+k<a₀.size:=by omega
  refine wpS_bind (wpS_mono (wpS_forRange (I:=fun x c st3=>st3=st2∧∃ l r,c=(none,l,r)∧l≤r∧r≤k∧r - l≤k - x∧
    (∀ i,lo≤i→i<lo+l→gK (arrOf st2) i≤gK (arrOf st2) (lo+k))∧(∀ i,lo+r≤i→i<lo+k→gK (arrOf st2) (lo+k)<gK (arrOf st2) i))
   (Q:=fun c st3=>st3=st2∧∃ l r,c=(none,l,r)∧l≤k∧
    (∀ i,lo≤i→i<lo+l→gK (arrOf st2) i≤gK (arrOf st2) (lo+k))∧(∀ i,lo+l≤i→i<lo+k→gK (arrOf st2) (lo+k)<gK (arrOf st2) i)) ?istep ?ifin ?iinit) ?ipost)
  case iinit=>exact ⟨rfl,0,k,rfl,by omega,by omega,by omega,fun i _ hi=>by omega,fun i h1 h2=>by omega⟩
  case ifin=>
   rintro c st3 ⟨rfl,l,r,rfl,hlr,hrk,hm,ha,hb⟩
   have e:l=r:=by omega
   rw [← e] at hb hrk
   exact ⟨rfl,l,r,rfl,hrk,ha,hb⟩
  case istep=>
   rintro x c st3 _ hxk ⟨rfl,l,r,rfl,hlr,hrk,hm,ha,hb⟩
   dsimp only
   by_cases hge:l ≥ r
   ·rw [if_pos hge]
    have e:l=r:=by omega
    rw [← e] at hb hrk
    exact wpS_pure ⟨rfl,l,r,rfl,hrk,ha,hb⟩
   ·rw [if_neg hge]
    refine wpS_bind (qHN h0 g2 hk (by omega) ?_)
    by_cases less:gK (arrOf st3) (lo+k)<gK (arrOf st3) (lo+(l+r) / 2)
    ·rw [decide_eq_true less]
     dsimp only
     rw [if_pos rfl]
     refine wpS_pure ⟨rfl,l,(l+r) / 2,rfl,by omega,by omega,by omega,ha,fun i h1 h2=>?_⟩
     have:=u2 (lo+(l+r) / 2) i (by omega) h1 h2
     omega
    ·rw [decide_eq_false less]
     dsimp only
     rw [if_neg Bool.false_ne_true]
     refine wpS_pure ⟨rfl,(l+r) / 2+1,r,rfl,by omega,by omega,by omega,fun i h3 h1=>?_,hb⟩
     have:=u2 i (lo+(l+r) / 2) h3 (by omega) (by omega)
     omega
  case ipost=>
   rintro c st3 ⟨rfl,l,r,rfl,hlk,ha,hb⟩
   have hks:lo+k<(arrOf st3).size:=by rw [g2.size];exact hk
   show wpS _ _ _ _ (moveDown' (lo+k) (lo+l) >>= fun _=>pure (ForInStep.yield (none,()))) _ _
   rw [moveDown'_eq]
   refine wpS_bind (wpS_modify (wpS_pure ⟨rfl,g2.lay (bubble_perm _ _ _),pe,?_,o2.trans ?_⟩))
   ·rw [show min (k+1) n=k+1 by omega]
    intro i j hl hij hj
    show gK (bubble (arrOf st3) (lo+k) (lo+k - (lo+l))) i≤gK (bubble (arrOf st3) (lo+k) (lo+k - (lo+l))) j
    rw [qKB hks (by omega),qKB hks (by omega),show lo+k - (lo+k - (lo+l))=lo+l by omega]
    repeat' split
    all_goals first
     | (exfalso;omega)
     | exact Int.le_refl _
     | exact ha _ (by omega) (by omega)
     | exact Int.le_of_lt (hb _ (by omega) (by omega))
     | exact u2 _ _ (by omega) (by omega) (by omega)
   ·intro i hi
    show gK (bubble (arrOf st3) (lo+k) (lo+k - (lo+l))) i=gK (arrOf st3) i
    rw [qKB hks (by omega),if_neg (by omega),if_neg (by omega)]
abbrev gCUp:=Option (Option Nat) × Nat
abbrev gCDn:=Option (Option Nat) × Nat × Nat
def gupL (lo a m:Nat):gSM gCUp:=
 forIn [a:m] ((none,a):gCUp) fun _ c=>do
  let t ← ltAt' (lo+c.snd) (lo+c.snd - 1)
  match t with
  | some less=>if less=true then pure (ForInStep.done (none,c.snd)) else pure (ForInStep.yield (none,c.snd+1))
  | _=>pure (ForInStep.done (some none,c.snd))
def qUU (lo n m:Nat):gSM (Option Nat):=do
 reverseSlice' lo (lo+n)
 let c ← gupL lo n m
 match c.fst with
 | some r=>pure r
 | none=>pure (some c.snd)
def gdnL (lo n m:Nat):gSM gCDn:=
 forIn [n:m] ((none,n,0):gCDn) fun _ c=>do
  let t ← ltAt' (lo+c.snd.fst) (lo+c.snd.fst - 1)
  match t with
  | some less=>
   if less=true then
    if c.snd.snd > 0 then do
     reverseSlice' (lo+c.snd.fst - (c.snd.snd+1)) (lo+c.snd.fst)
     pure (ForInStep.yield (none,c.snd.fst+1,0))
    else pure (ForInStep.yield (none,c.snd.fst+1,0))
   else do
    let t ← ltAt' (lo+c.snd.fst - 1) (lo+c.snd.fst)
    match t with
    | some more=>
     if more=true then pure (ForInStep.done (none,c.snd.fst,c.snd.snd))
     else pure (ForInStep.yield (none,c.snd.fst+1,c.snd.snd+1))
    | _=>pure (ForInStep.done (some none,c.snd.fst,c.snd.snd))
  | _=>pure (ForInStep.done (some none,c.snd.fst,c.snd.snd))
def gdnP (lo n m:Nat):gSM (Option Nat):=do
 liftM (rule "list.sort.descending-run")
 let c ← gdnL lo (n+1) m
 match c.fst with
 | some r=>pure r
 | none=>
  if c.snd.snd > 0 then do
   reverseSlice' (lo+c.snd.fst - (c.snd.snd+1)) (lo+c.snd.fst)
   qUU lo c.snd.fst m
  else qUU lo c.snd.fst m
theorem qBG {α β:Type} {x y:gSM α} {f g:α→gSM β} (h:x=y) (k:∀ a,f a=g a):(x >>= f)=(y >>= g):=by rw [h,show f=g from funext k]
theorem qUV (lo m:Nat):countRun' lo m=(do
  let c ← gupL lo 1 m
  match c.fst with
  | some r=>pure r
  | none=>
   if (c.snd == m)=true then pure (some c.snd)
   else if c.snd > 1 then do
    let t ← ltAt' lo (lo+c.snd - 1)
    match t with
    | some rose=>if rose=true then pure (some c.snd) else do
      reverseSlice' lo (lo+c.snd)
      gdnP lo c.snd m
    | _=>pure none
   else gdnP lo c.snd m):=by
 rw [countRun'_eq]
 unfold gdnP qUU gdnL gupL
 refine qBG rfl fun c=>?_
 obtain ⟨r,n⟩:=c
 cases r with
 | some r=>rfl
 | none=>
  have last:∀ c3:gCUp,(match c3.fst with | some r=>pure r | none=>pure (some c3.snd):gSM (Option Nat))=(match c3.fst with | some r=>pure r | none=>pure (some c3.snd)):=fun _=>rfl
  dsimp only
  split
  ·rfl
  ·split
   ·refine qBG rfl fun x=>?_
    cases x with
    | none=>rfl
    | some rose=>
     dsimp only
     split
     ·rfl
     ·refine qBG rfl fun _=>qBG rfl fun _=>qBG rfl fun c2=>?_
      obtain ⟨r2,n2,q2⟩:=c2
      cases r2 with
      | some r2=>rfl
      | none=>
       dsimp only
       split
       ·refine qBG rfl fun _=>qBG rfl fun _=>qBG rfl fun c3=>?_
        obtain ⟨r3,n3⟩:=c3
        cases r3 <;> rfl
       ·refine qBG rfl fun _=>qBG rfl fun c3=>?_
        obtain ⟨r3,n3⟩:=c3
        cases r3 <;> rfl
   ·refine qBG rfl fun _=>qBG rfl fun c2=>?_
    obtain ⟨r2,n2,q2⟩:=c2
    cases r2 with
    | some r2=>rfl
    | none=>
     dsimp only
     split
     ·refine qBG rfl fun _=>qBG rfl fun _=>qBG rfl fun c3=>?_
      obtain ⟨r3,n3⟩:=c3
      cases r3 <;> rfl
     ·refine qBG rfl fun _=>qBG rfl fun c3=>?_
      obtain ⟨r3,n3⟩:=c3
      cases r3 <;> rfl
def gFal (xs:Array Keyed) (lo hi:Nat):Prop:=∀ i j,lo≤i→i≤j→j<hi→gK xs j≤gK xs i
theorem qRJ {st:SortSt} {lo a m:Nat} {Q:gCUp→SortSt→Prop} (h0:qCQ a₀) (g:gSG κ0 a₀ st) (hm:lo+m≤a₀.size) (ha:1≤a) (han:a≤m) (u:gSeg (arrOf st) lo (lo+a))
  (h:∀ n,a≤n→n≤m→gSeg (arrOf st) lo (lo+n)→(n=m∨gK (arrOf st) (lo+n)<gK (arrOf st) (lo+n - 1))→Q (none,n) st):wpS (model prog w) A E s (gupL lo a m) Q st:=by
 unfold gupL
 refine wpS_forRange (I:=fun x c st2=>st2=st∧c=(none,x)∧gSeg (arrOf st) lo (lo+x)) ?step ?fin ⟨rfl,rfl,u⟩
 case fin=>
  rintro c st2 ⟨rfl,rfl,u2⟩
  rw [show max a m=m by omega] at u2 ⊢
  exact h m han (Nat.le_refl _) u2 (.inl rfl)
 case step=>
  rintro x c st2 hax hxn ⟨rfl,rfl,u2⟩
  dsimp only
  refine wpS_bind (qHN h0 g (by omega) (by omega) ?_)
  by_cases less:gK (arrOf st2) (lo+x)<gK (arrOf st2) (lo+x - 1)
  ·rw [decide_eq_true less]
   dsimp only
   rw [if_pos rfl]
   exact wpS_pure (h x hax (by omega) u2 (.inr less))
  ·rw [decide_eq_false less]
   dsimp only
   rw [if_neg Bool.false_ne_true]
   refine wpS_pure ⟨rfl,rfl,fun i j hl hij hj=>?_⟩
   by_cases hjx:j<lo+x
   ·exact u2 i j hl hij hjx
   ·have ej:j=lo+x:=by omega
    rw [ej]
    by_cases ei:i=lo+x
    ·rw [ei]
     exact Int.le_refl _
    ·have:=u2 i (lo+x - 1) hl (by omega) (by omega)
     omega
theorem qOI {st:SortSt} {lo n m:Nat} {Q:Option Nat→SortSt→Prop} (h0:qCQ a₀) (g:gSG κ0 a₀ st) (hm:lo+m≤a₀.size) (h1:1≤n) (hnm:n≤m) (u:gFal (arrOf st) lo (lo+n))
  (h:∀ k st2,gSG κ0 a₀ st2→pendingOf st2=pendingOf st→1≤k→k≤m→gSeg (arrOf st2) lo (lo+k)→gOut (arrOf st) (arrOf st2) lo (lo+m)→Q (some k) st2):wpS (model prog w) A E s (qUU lo n m) Q st:=by
 unfold qUU
 have hsz:lo+n≤(arrOf st).size:=by rw [g.size];omega
 rw [reverseSlice'_eq]
 refine wpS_bind (wpS_modify ?_)
 have g2:gSG κ0 a₀ (setArr st (mirror (arrOf st) lo (lo+n) ((lo+n - lo) / 2))):=g.lay (mirror_perm _ _ _ _)
 refine wpS_bind (qRJ h0 g2 hm h1 hnm ?_ fun k hk1 hk2 uk _=>wpS_pure (h k _ g2 rfl (by omega) hk2 uk ((qQ2 hsz).wide (Nat.le_refl _) (by omega))))
 intro i j hl hij hj
 show gK (mirror (arrOf st) lo (lo+n) ((lo+n - lo) / 2)) i≤gK (mirror (arrOf st) lo (lo+n) ((lo+n - lo) / 2)) j
 rw [qHP hsz,qHP hsz,if_pos (by omega),if_pos (by omega)]
 exact u _ _ (by omega) (by omega) (by omega)
theorem qWP {st:SortSt} {lo n m:Nat} {Q:gCDn→SortSt→Prop} (h0:qCQ a₀) (g:gSG κ0 a₀ st) (hm:lo+m≤a₀.size) (h1:1≤n) (hnm:n≤m) (u:gFal (arrOf st) lo (lo+n))
  (h:∀ k e st2,gSG κ0 a₀ st2→pendingOf st2=pendingOf st→n≤k→k≤m→gFal (arrOf st2) lo (lo+k)→e+1≤k→(∀ i,lo+k - (e+1)≤i→i<lo+k→gK (arrOf st2) i=gK (arrOf st2) (lo+k - 1))→gOut (arrOf st) (arrOf st2) lo (lo+m)→Q (none,k,e) st2) :
  wpS (model prog w) A E s (gdnL lo n m) Q st:=by
 unfold gdnL
 refine wpS_forRange (I:=fun x c st2=>∃ e,c=(none,x,e)∧gSG κ0 a₀ st2∧pendingOf st2=pendingOf st∧gFal (arrOf st2) lo (lo+x)∧e+1≤x∧
   (∀ i,lo+x - (e+1)≤i→i<lo+x→gK (arrOf st2) i=gK (arrOf st2) (lo+x - 1))∧gOut (arrOf st) (arrOf st2) lo (lo+m)) ?step ?fin ⟨0,rfl,g,rfl,u,by omega,fun i h1 h2=>by congr 1;omega,.refl _ _ _⟩
 case fin=>
  rintro c st2 ⟨e,rfl,g2,pe,u2,hq,he,o2⟩
  rw [show max n m=m by omega] at u2 hq he ⊢
  exact h m e st2 g2 pe hnm (Nat.le_refl _) u2 hq he o2
 case step=>
  rintro x c st2 hax hxn ⟨e,rfl,g2,pe,u2,hq,he,o2⟩
  dsimp only
  have hsz:lo+x≤(arrOf st2).size:=by rw [g2.size];omega
  refine wpS_bind (qHN h0 g2 (by omega) (by omega) ?_)
  by_cases less:gK (arrOf st2) (lo+x)<gK (arrOf st2) (lo+x - 1)
  ·rw [decide_eq_true less]
   dsimp only
   rw [if_pos rfl]
   have more:∀ ys:Array Keyed,(∀ k,gK ys k=gK (arrOf st2) k)→gFal ys lo (lo+(x+1)):=by
    intro ys hk i j hl hij hj
    rw [hk,hk]
    by_cases hjx:j<lo+x
    ·exact u2 i j hl hij hjx
    ·have ej:j=lo+x:=by omega
     rw [ej]
     by_cases ei:i=lo+x
     ·rw [ei]
      exact Int.le_refl _
     ·have:=u2 i (lo+x - 1) hl (by omega) (by omega)
      omega
   by_cases hpos:e > 0
   ·rw [if_pos hpos,reverseSlice'_eq]
    refine wpS_bind (wpS_modify (wpS_pure ⟨0,rfl,g2.lay (mirror_perm _ _ _ _),pe,more _ (qAY hsz he),by omega,fun i h1 h2=>by congr 1;omega,o2.trans ?_⟩))
    exact fun k _=>qAY hsz he k
   ·rw [if_neg hpos]
    exact wpS_pure ⟨0,rfl,g2,pe,more _ (fun _=>rfl),by omega,fun i h1 h2=>by congr 1;omega,o2⟩
  ·rw [decide_eq_false less]
   dsimp only
   rw [if_neg Bool.false_ne_true]
   refine wpS_bind (qHN h0 g2 (by omega) (by omega) ?_)
   by_cases big:gK (arrOf st2) (lo+x - 1)<gK (arrOf st2) (lo+x)
   ·rw [decide_eq_true big]
    dsimp only
    rw [if_pos rfl]
    exact wpS_pure (h x e st2 g2 pe hax (by omega) u2 hq he o2)
   ·rw [decide_eq_false big]
    dsimp only
    rw [if_neg Bool.false_ne_true]
    have ex:gK (arrOf st2) (lo+x)=gK (arrOf st2) (lo+x - 1):=by omega
    refine wpS_pure ⟨e+1,rfl,g2,pe,fun i j hl hij hj=>?_,by omega,fun i h1 h2=>?_,o2⟩
    ·by_cases hjx:j<lo+x
     ·exact u2 i j hl hij hjx
     ·have ej:j=lo+x:=by omega
      rw [ej]
      by_cases ei:i=lo+x
      ·rw [ei]
       exact Int.le_refl _
      ·rw [ex]
       exact u2 i (lo+x - 1) hl (by omega) (by omega)
    ·rw [show lo+(x+1) - 1=lo+x by omega]
     by_cases ei:i=lo+x
     ·rw [ei]
     ·rw [ex]
      exact he i (by omega) (by omega)
theorem qRK {st:SortSt} {lo n m:Nat} {Q:Option Nat→SortSt→Prop} (h0:qCQ a₀) (g:gSG κ0 a₀ st) (hm:lo+m≤a₀.size) (hnm:n+1≤m) (u:gFal (arrOf st) lo (lo+(n+1)))
  (h:∀ k st2,gSG κ0 a₀ st2→pendingOf st2=pendingOf st→1≤k→k≤m→gSeg (arrOf st2) lo (lo+k)→gOut (arrOf st) (arrOf st2) lo (lo+m)→Q (some k) st2):wpS (model prog w) A E s (gdnP lo n m) Q st:=by
 unfold gdnP
 refine wpS_bind (wpS_lift (wpAny_rule ⟨rfl,?_⟩))
 refine wpS_bind (qWP h0 g hm (by omega) hnm u fun k e st2 g2 pe hk1 hk2 u2 hq he o2=>?_)
 dsimp only
 have hsz:lo+k≤(arrOf st2).size:=by rw [g2.size];omega
 by_cases hpos:e > 0
 ·rw [if_pos hpos,reverseSlice'_eq]
  refine wpS_bind (wpS_modify (qOI h0 (g2.lay (mirror_perm _ _ _ _)) hm (by omega) hk2 ?_ fun k2 st3 g3 pe3 a1 a2 u3 o3=>h k2 st3 g3 (pe3.trans pe) a1 a2 u3 ?_))
  ·intro i j hl hij hj
   show gK (mirror (arrOf st2) _ _ _) j≤gK (mirror (arrOf st2) _ _ _) i
   rw [qAY hsz he,qAY hsz he]
   exact u2 i j hl hij hj
  ·exact o2.trans (gOut.trans (fun k _=>qAY hsz he k) o3)
 ·rw [if_neg hpos]
  exact qOI h0 g2 hm (by omega) hk2 u2 fun k2 st3 g3 pe3 a1 a2 u3 o3=>h k2 st3 g3 (pe3.trans pe) a1 a2 u3 (o2.trans o3)
theorem qWQ {st:SortSt} {lo m:Nat} {Q:Option Nat→SortSt→Prop} (h0:qCQ a₀) (g:gSG κ0 a₀ st) (hm:lo+m≤a₀.size) (h1:1≤m)
  (h:∀ k st2,gSG κ0 a₀ st2→pendingOf st2=pendingOf st→1≤k→k≤m→gSeg (arrOf st2) lo (lo+k)→gOut (arrOf st) (arrOf st2) lo (lo+m)→Q (some k) st2):wpS (model prog w) A E s (countRun' lo m) Q st:=by
 rw [qUV]
 refine wpS_bind (qRJ h0 g hm (Nat.le_refl 1) h1 (fun i j hl hij hj=>by rw [show i=j by omega];exact Int.le_refl _) fun n hn1 hn2 un or=>?_)
 dsimp only
 by_cases e:n=m
 ·rw [if_pos (by simpa using e)]
  exact wpS_pure (h n st g rfl hn1 hn2 un (.refl _ _ _))
 ·rw [if_neg (by simpa using e)]
  have hlt:gK (arrOf st) (lo+n)<gK (arrOf st) (lo+n - 1):=or.resolve_left e
  by_cases hgt:n > 1
  ·rw [if_pos hgt]
   refine wpS_bind (qHN h0 g (by omega) (by omega) ?_)
   by_cases rose:gK (arrOf st) lo<gK (arrOf st) (lo+n - 1)
   ·rw [decide_eq_true rose]
    dsimp only
    rw [if_pos rfl]
    exact wpS_pure (h n st g rfl hn1 hn2 un (.refl _ _ _))
   ·rw [decide_eq_false rose]
    dsimp only
    rw [if_neg Bool.false_ne_true,reverseSlice'_eq]
    have hsz:lo+n≤(arrOf st).size:=by rw [g.size];omega
    have same:∀ k,lo≤k→k<lo+n→gK (arrOf st) k=gK (arrOf st) (lo+n - 1):=by
     intro k hl hk
     have a1:=un lo k (by omega) hl hk
     have a2:=un k (lo+n - 1) hl (by omega) (by omega)
     omega
    refine wpS_bind (wpS_modify (qRK h0 (g.lay (mirror_perm _ _ _ _)) hm (by omega) ?_ fun k st2 g2 pe a1 a2 u2 o2=>h k st2 g2 pe a1 a2 u2 (gOut.trans (fun k _=>qAY hsz same k) o2)))
    intro i j hl hij hj
    show gK (mirror (arrOf st) _ _ _) j≤gK (mirror (arrOf st) _ _ _) i
    rw [qAY hsz same,qAY hsz same]
    by_cases hjn:j<lo+n
    ·rw [same i hl (by omega),same j (by omega) hjn]
     exact Int.le_refl _
    ·have ej:j=lo+n:=by omega
     rw [ej]
     by_cases ei:i=lo+n
     ·rw [ei]
      exact Int.le_refl _
     ·rw [same i hl (by omega)]
      exact Int.le_of_lt hlt
  ·rw [if_neg hgt]
   have e1:n=1:=by omega
   rw [e1] at hlt
   rw [e1]
   refine qRK h0 g hm (by omega) ?_ h
   intro i j hl hij hj
   by_cases ei:i=j
   ·rw [ei]
    exact Int.le_refl _
   ·have ei:i=lo:=by omega
    have ej:j=lo+1:=by omega
    rw [ei,ej]
    exact Int.le_of_lt hlt
end
end L2.G
namespace L2.G
open PySem PyProof.Rows
variable [NM]
def qWV (xs:Array Keyed):List (Nat × Nat × Nat)→Nat→Nat→Prop
 | [],a,b=>a=b
 | r::rs,a,b=>r.1=a∧0<r.2.1∧gSeg xs a (a+r.2.1)∧qWV xs rs (a+r.2.1) b
section
variable {prog:Program} {w:World} {A:Around} {E:Value→Shared→Prop} {s:Shared} {κ0:SortKind} [LtOk prog w A s κ0] {a₀:Array Keyed}
theorem qWT:∀ n:Nat,n<64→minRun' n n 0=n
 | 0,_=>rfl
 | n+1,h=>if_pos h
theorem gwpS_runs (hs:a₀.size<64) {st:SortSt} {Q:Unit→SortSt→Prop} (h0:qCQ a₀) (g:gSG κ0 a₀ st) (hp:pendingOf st=#[]) (h:∀ st2,gSG κ0 a₀ st2→gSortedTo (arrOf st2) a₀.size→Q () st2):wpS (model prog w) A E s sortRuns' Q st:=by
 rw [sortRuns'_eq]
 refine wpS_bind (wpS_get ?_)
 dsimp only
 rw [g.size,qWT _ hs]
 refine wpS_bind (wpS_mono (wpS_forRange
  (I:=fun x c st2=>∃ lo,c=(none,lo)∧x≤lo∧lo≤a₀.size∧gSG κ0 a₀ st2∧qWV (arrOf st2) (pendingOf st2).toList 0 lo∧(lo=0∧pendingOf st2=#[]∨lo=a₀.size∧(pendingOf st2).size≤1))
  (Q:=fun c st2=>c.1=none∧gSG κ0 a₀ st2∧qWV (arrOf st2) (pendingOf st2).toList 0 a₀.size∧(pendingOf st2).size≤1) ?step ?fin ⟨0,rfl,Nat.le_refl _,Nat.zero_le _,g,by rw [hp];rfl,.inl ⟨rfl,hp⟩⟩) ?post)
 case fin=>
  rintro c st2 ⟨lo,rfl,h1,h2,g2,r2,d2⟩
  have e:lo=a₀.size:=by omega
  rw [e] at r2
  refine ⟨rfl,g2,r2,?_⟩
  rcases d2 with ⟨_,d2⟩ | ⟨_,d2⟩
  ·rw [d2];exact Nat.zero_le _
  ·exact d2
 case post=>
  rintro ⟨c,lo⟩ st2 ⟨e,g2,r2,le2⟩
  cases (show c=none from e)
  dsimp only
  refine wpS_bind (wpS_mono (wpS_forRange (I:=fun x c st3=>c=(none,())∧st3=st2)
   (Q:=fun c st3=>c=(none,())∧st3=st2) ?_ ?_ ⟨rfl,rfl⟩) ?_)
  ·rintro x c st3 _ _ ⟨rfl,rfl⟩
   refine wpS_bind (wpS_get ?_)
   rw [if_pos le2]
   exact wpS_pure ⟨rfl,rfl⟩
  ·rintro c st3 ⟨e,g3⟩
   exact ⟨e,g3⟩
  ·rintro c st3 ⟨rfl,rfl⟩
   refine wpS_pure (h st3 g2 ?_)
   have l3:(pendingOf st3).toList.length≤1:=by simpa using le2
   generalize (pendingOf st3).toList=l at r2 l3
   match l,r2,l3 with
   | [],r3,_=>
    have e:0=a₀.size:=r3
    intro i j _ hj
    omega
   | [r],r3,_=>
    have e:0+r.2.1=a₀.size:=r3.2.2.2
    intro i j hij hj
    exact r3.2.2.1 i j (Nat.zero_le _) hij (by omega)
   | _::_::_,_,l3=>simp at l3
 case step=>
  rintro x c st2 _ hx ⟨lo,rfl,hxl,hlo,g2,r2,d2⟩
  dsimp only
  by_cases c1:lo ≥ a₀.size
  ·rw [if_pos c1]
   have e:lo=a₀.size:=by omega
   rw [e] at r2
   refine wpS_pure ⟨rfl,g2,r2,?_⟩
   rcases d2 with ⟨_,d2⟩ | ⟨_,d2⟩
   ·rw [d2];exact Nat.zero_le _
   ·exact d2
  rw [if_neg c1]
  obtain ⟨e0,pe2⟩:lo=0∧pendingOf st2=#[]:=by
   rcases d2 with d2 | ⟨d2,_⟩
   ·exact d2
   ·omega
  subst e0
  refine wpS_bind (qWQ h0 g2 (by omega) (by omega) fun k st3 g3 pe3 k1 k2 u3 o3=>?_)
  rw [pe2] at pe3
  dsimp only
  have tail:∀ (st5:SortSt) (n:Nat),gSG κ0 a₀ st5→n=a₀.size→1≤n→gSeg (arrOf st5) 0 (0+n)→pendingOf st5=#[]→
    ∃ lo,((none,0+n):Option Unit × Nat)=(none,lo)∧x+1≤lo∧lo≤a₀.size∧gSG κ0 a₀ (setPending st5 ((pendingOf st5).push (0,n,0)))∧qWV (arrOf st5) ((pendingOf st5).push (0,n,0)).toList 0 lo∧(lo=0∧(pendingOf st5).push (0,n,0)=#[]∨lo=a₀.size∧((pendingOf st5).push (0,n,0)).size≤1):=by
   intro st5 n g5 en h1 u5 pe5
   refine ⟨0+n,rfl,by omega,by omega,⟨g5.perm,g5.kind,g5.failed⟩,?_,.inr ⟨by omega,?_⟩⟩
   ·rw [pe5]
    exact ⟨rfl,h1,u5,rfl⟩
   ·rw [pe5];exact Nat.le_refl _
  by_cases c2:k<a₀.size
  ·rw [if_pos c2]
   refine wpS_bind (wpS_lift (wpAny_rule ⟨rfl,?_⟩))
   refine wpS_bind (qWR h0 g3 (by omega) (by omega) u3 fun st4 g4 pe4 u4 o4=>?_)
   rw [pe3] at pe4
   rw [if_neg (by simp)]
   refine wpS_bind (wpS_get ?_)
   rw [show (pendingOf st4).back?=none by rw [pe4];rfl]
   dsimp only
   refine wpS_bind (wpS_modify (wpS_pure ?_))
   exact tail st4 _ g4 (by omega) (by omega) u4 pe4
  ·rw [if_neg c2]
   refine wpS_bind (wpS_get ?_)
   rw [show (pendingOf st3).back?=none by rw [pe3];rfl]
   dsimp only
   refine wpS_bind (wpS_modify (wpS_pure ?_))
   exact tail st3 _ g3 (by omega) (by omega) u3 pe3
end
end L2.G
namespace L2
open PySem PySem.Spec PyProof.Rows
section
variable {prog:Program} {w:World} {A:Around} {E:Value→Shared→Prop} {s:Shared}
theorem qTG {a:Addr} {vs:List Value} {ns:List Int} {n:Nat} {P:Fin→Shared→Prop} (e0:s.heap.get? a=some (seqObj "list" vs.toArray n)) (ia:IntsAre vs ns) (hs:vs.length<64) (hz:vs.length≤sizeLine)
  (h:∀ (out:Array Value) (zs:List Int),IntsAre out.toList zs→zs.Perm ns→zs.Pairwise (·≤·)→P (.done (.ret .none)) { s with heap:=sortedHeap s.heap a vs out }):wpAny (model prog w) A (Builtin.«list.sort» ⟨[.ref a],[]⟩) P E s:=by
 have la:=Heap.lt_size e0
 have z0:vs.toArray.size≤sizeLine:=by simpa using hz
 rw [list_sort_plain]
 refine wpAny_bind (listItems_at e0 rfl (wpAny_bind (listUpdate_at e0 rfl ?_ z0 (Nat.zero_le _))))
 have e1:∃ k,(s.heap.update a (Obj.mapSeq fun _=>#[])).get? a=some (seqObj "list" #[] k):=⟨_,get?_update_seq e0 fun _=>#[]⟩
 obtain ⟨k,e1⟩:=e1
 refine wpAny_bind (seqEpoch_at e1 rfl (wpAny_bind (wpAny_newTuple ?_ (by simpa using hz))))
 refine wpAny_bind (wpAny_newList (wpAny_holding ?_))
 have e2:(((s.heap.update a (Obj.mapSeq fun _=>#[])).push (seqObj "tuple" vs.toArray 0)).push (seqObj "list" #[] 0)).get? a=some (seqObj "list" #[] k):=by
  rw [Heap.get?_push_ne,Heap.get?_push_ne]
  ·exact e1
  ·rw [Heap.size_update]
   exact Nat.ne_of_lt la
  ·rw [size_push',Heap.size_update]
   exact Nat.ne_of_lt (Nat.lt_succ_of_lt la)
 have last:∀ xs:Array Keyed,xs.Perm (pairsOf vs)→SortedTo xs (pairsOf vs).size→P (.done (.ret .none)) { s with heap:=sortedHeap s.heap a vs (xs.map (·.2)) }:=by
  intro xs px sx
  obtain ⟨zs,q1,q2,q3⟩:=sorted_out ia px sx
  exact h _ zs q1 q2 q3
 have sz:∀ xs:Array Keyed,xs.Perm (pairsOf vs)→(xs.map (·.2)).size≤sizeLine+1:=by
  intro xs px
  rw [Array.size_map,px.size_eq,pairsOf_size]
  omega
 show wpAny _ A _ P E { s with heap:=((s.heap.update a (Obj.mapSeq fun _=>#[])).push (seqObj "tuple" vs.toArray 0)).push (seqObj "list" #[] 0) }
 dsimp only
 by_cases few:vs.toArray.size<2
 ·simp only [if_pos few]
  refine wpAny_bind (wpAny_pure ?_)
  rw [StateT.run_pure]
  refine wpAny_bind (wpAny_pure (wpAny_bind (seqEpoch_at e2 rfl (wpAny_bind (listUpdate_at e2 rfl ?_ (Nat.zero_le _) (sz (pairsOf vs) (.refl _)))))))
  simp only [bne_self_eq_false,Bool.false_eq_true,if_false]
  refine wpAny_pure (last (pairsOf vs) (.refl _) fun i j hij hj=>?_)
  rw [pairsOf_size] at hj
  rw [List.size_toArray] at few
  rw [show i=j by omega]
  exact Int.le_refl _
 ·simp only [if_neg few]
  have kk:keyKind' vs.toArray=pure oneType':=by
   match vs,few,ia with
   | [],few,_=>exact absurd (by simp) few
   | [_],few,_=>exact absurd (by simp) few
   | _::_::_,_,ia=>exact keyKind_ints ia
  rw [kk]
  letI:G.NM:=⟨numOf,fun v=>∃ n t,v=.int n t⟩
  haveI:G.LtOk prog w A { s with heap:=((s.heap.update a (Obj.mapSeq fun _=>#[])).push (seqObj "tuple" vs.toArray 0)).push (seqObj "list" #[] 0) } oneType':=⟨fun {x y Q E} hx hy h=>by
   obtain ⟨n,t,rfl⟩:=hx
   obtain ⟨m,u,rfl⟩:=hy
   rw [keyLt'_oneType]
   exact oneLt_int h⟩
  refine wpAny_bind (wpAny_pure (wpAny_bind (wpAny_mono (G.gwpS_runs (κ0:=oneType') (a₀:=pairsOf vs) (Q:=fun _ st2=>G.gSG oneType' (pairsOf vs) st2∧G.gSortedTo (arrOf st2) (pairsOf vs).size) (by simpa [pairsOf] using hs) ia.intKeys ⟨.refl _,rfl,rfl⟩ rfl fun st2 g u=>⟨g,u⟩) ?_ fun _ _ x=>x)))
  rintro ⟨_,st2⟩ s2 ⟨es,g,u⟩
  cases (show s2=_ from es)
  refine wpAny_bind (seqEpoch_at e2 rfl (wpAny_bind (listUpdate_at e2 rfl ?_ (Nat.zero_le _) (sz _ g.perm))))
  dsimp only
  rw [g.failed]
  simp only [bne_self_eq_false,Bool.false_eq_true,if_false]
  exact wpAny_pure (last _ g.perm u)
end
section
variable {X:Cx}
theorem qTF {pins:List (Addr × Obj)} {s:Shared} {σ:St} {H:Hp} {Q:VK} {A:Around} {E:Value→Shared→Prop} {ns:List Int} {D:Addr} (I:Inv X pins σ (upd H D (.lst (ns.map V.int))) s) (hs:ns.length<64)
  (q:∀ zs:List Int,zs.Perm ns→zs.Pairwise (·≤·)→Q (.ref D) (upd H D (.lst (zs.map V.int)))) :
  wpAny (model X.prog X.w) A (call (.builtin "list.sort") [.ref D]) (fun _ s'=>EP X pins σ Q (.ref D) s') E s:=by
 obtain ⟨z,its,n,rv,hl,e⟩:=I.lstM qA1
 have ia:=qC6 rv
 have hlen:=rv.length
 refine wpAny_call_entry slot_list_sort ⟨_,e,rfl⟩ entry_list_sort (qTG (ns:=ns) (n:=n) e ia (by rw [← hlen,List.length_map];exact hs) (by rw [← hlen];exact z) fun out zs a1 a2 a3=>⟨_,rfl,?_⟩) (args_list_sort _)
 obtain ⟨e2,hat⟩:=sortedHeap_at (vs:=its) (out:=out) e
 refine ⟨.ref D,upd H D (.lst (zs.map V.int)),?_,rfl,q zs a2 a3⟩
 have hu:upd (upd H D (.lst (ns.map V.int))) D (.lst (zs.map V.int))=upd H D (.lst (zs.map V.int)):=qLS
 rw [← hu]
 refine I.write (x:=D) (e:=D) (t':=s.toks) (by rw [qA1];exact trivial) (.inl rfl) (fun b u hb hbu=>?_) ⟨_,hat⟩ ?_
 ·rw [sortedHeap_old hb (Heap.lt_size hbu)];exact hbu
 ·refine ⟨?_,out.toList,e2,qFE a1,by simpa using hat⟩
  rw [List.length_map,a2.length_eq,← List.length_map (f:=V.int)]
  exact z
theorem qUO:∀ {vs:List Value} {ns:List Int},vs.length=ns.length→(∀ (i:Nat) (v:Value),vs[i]?=some v→∃ n t,ns[i]?=some n∧v=.int n t)→IntsAre vs ns
 | [],[],_,_=>.nil
 | [],_::_,h,_=>by simp at h
 | _::_,[],h,_=>by simp at h
 | v::vs,n::ns,h,f=>by
  obtain ⟨m,t,e1,e2⟩:=f 0 v rfl
  cases (show n=m from Option.some.inj e1)
  rw [e2]
  exact .cons _ _ (qUO (by simpa using h) fun i u hu=>by simpa using f (i+1) u (by simpa using hu))
theorem qYT {κ:Type}:∀ {kvs:List (κ × V)} {vs:List (κ × Value)},KV kvs vs→kvs.map (·.1)=vs.map (·.1):=by
 intro kvs vs r
 unfold KV at r
 induction r with
 | nil=>rfl
 | cons h t ih=>rw [List.map_cons,List.map_cons,ih,h.1]
theorem qFZ (hc:X.calm=true):qFC X (.builtin "sorted") (fun xs H Q=>∃ p ns,xs=[.ref p]∧(SqL X.K H p (ns.map V.int)∨SqT X.K H p (ns.map V.int)∨∃ kvs,H p=some (.dK kvs)∧kvs.map (·.1)=ns.map Sum.inl)∧ns.length<64∧
  ∀ (a:Addr) (zs:List Int),H a=none→zs.Perm ns→zs.Pairwise (·≤·)→Q (.ref a) (upd H a (.lst (zs.map V.int)))):=by
 intro pins s σ H xs us Q I r h
 obtain ⟨p,ns,rfl,hq,hs64,q⟩:=h
 obtain ⟨u,rfl,rx⟩:=qEY r
 cases rx
 refine Calls.call_function_entry kind_sorted plain_sorted entry_sorted (args_sorted1 _) ?_
 unfold Builtin.«sorted»
 refine wpAny_bind (m:=checkCount "sorted" 1 1 _) (wpAny_pure ?_)
 have fin:∀ (s1:Shared) (vs:List Value) (zs:List Int),Inv X pins σ H s1→IntsAre vs zs→zs.length≤sizeLine→zs.Perm ns→wpAny (model X.prog X.w) X.A.in1 (do
   let l ← newList vs
   let _ ← holding [l] (call (.builtin "list.sort") [l] [])
   ret l) (fun fin s'=>∃ r,fin=.done (.ret r)∧EP X pins σ Q r s') X.xe s1:=by
  intro s1 vs zs I1 hv hz hp
  have hlen:=IntsAre.length hv
  refine wpAny_bind (wpAny_newList ?_ (by rw [hlen];exact hz))
  have hf:=I1.hok.fresh (Nat.le_refl s1.heap.objs.size)
  refine wpAny_bind (wpAny_holding (wpAny_mono (qTF (E:=X.xe) (qLB I1 hv hz) (by rw [hp.length_eq];exact hs64) fun zs a b=>q _ zs hf (a.trans hp) b) (fun _ s' x=>?_) fun _ _ e=>e))
  exact wpAny_pure ⟨_,rfl,x⟩
 rcases hq with hq | hq | ⟨kvs,hq,hk⟩
 ·obtain ⟨its,rv,pl,hz⟩:=I.list hq
  obtain ⟨o,ho,hc',n,hd⟩:=pl.isList
  have hlen:=rv.length
  refine wpAny_bind (wpAny_collect_seq p (.inl rfl) ho hc' hd (fun h' hk=>?_) (by rw [List.size_toArray,← hlen];exact hz))
  exact fin _ _ ns (I.kept (t':=s.toks) hk) (by simpa using qC6 rv) (by rw [List.length_map] at hz;exact hz) (.refl _)
 ·obtain ⟨its,rv,pl,hz⟩:=I.tuple hq
  obtain ⟨o,ho,hc',n,hd⟩:=pl
  have hlen:=rv.length
  refine wpAny_bind (wpAny_collect_seq p (.inr rfl) ho hc' hd (fun h' hk=>?_) (by rw [List.size_toArray,← hlen];exact hz))
  exact fin _ _ ns (I.kept (t':=s.toks) hk) (by simpa using qC6 rv) (by rw [List.length_map] at hz;exact hz) (.refl _)
 ·obtain ⟨hz,hd,vs,rel,dd⟩:=qUZ I.hok hq
  obtain ⟨ep,da⟩:=dd.dictAt
  have lv:vs.length=kvs.length:=rel.length.symm
  have ln:ns.length=kvs.length:=by
   have:=congrArg List.length hk
   simpa using this.symm
  refine wpAny_bind (PySem.W.kdu_collect (A:=X.A.in1) (PySem.W.kdl_dict (ep:=ep) hd) (I.ok.hd hc) da (by rw [lv];exact hz) fun h' tk acc kept items=>?_)
  refine fin _ _ ns (I.kept (t':=tk) kept) ?_ (by rw [ln];exact hz) (.refl _)
  obtain ⟨l1,l2⟩:=items
  refine qUO (by rw [Array.length_toList,l1,lv,ln]) fun i v hv=>?_
  obtain ⟨k,x,e1,e2⟩:=l2 i v (by rw [← Array.getElem?_toList];exact hv)
  have ek:(kvs.map (·.1))[i]?=some k:=by rw [qYT rel,List.getElem?_map,e1];rfl
  rw [hk,List.getElem?_map] at ek
  cases en:ns[i]? with
  | none=>rw [en] at ek;cases ek
  | some n=>
   rw [en] at ek
   cases ek
   obtain ⟨t,e3⟩:=Value.isInt_shape (k:=n) (v:=v) e2
   exact ⟨n,t,rfl,e3⟩
def Itd (lo:Int) (n:Nat):It:=⟨fun i _=>i<n,fun i H x H'=>H'=H∧x=.int (lo - i),fun i _=>n≤i⟩
theorem qT4 {P:Program} {w:World} {K:PySem.W.Frag} {tg:Expr} (it:Addr) (lo:Int) (n:Nat):Turn P w K tg (Itd lo n) [it] it (fun i h=>IsRangeIter h it (lo+(i:Nat) * (-1)) ((n:Int) - (i:Nat)) (-1)) where
 mem:=List.mem_singleton.mpr rfl
 obj:=fun i h st b hb=>by
  cases List.mem_singleton.mp hb
  exact ⟨_,st,fun v z=>nomatch (show Data.fields _=Data.cell v from z)⟩
 keep:=fun i h h' st k=>k it (List.mem_singleton.mpr rfl) _ st
 item:=by
  intro X hP hw hK hc i pins s σ H E I hf st hg
  subst hP hw hK
  obtain ⟨f0,f1,f2,f3,f4,f5⟩:=hf it (List.mem_singleton.mpr rfl)
  refine (Walks.range (prog:=X.prog) (w:=X.w) (I.ok.hd hc) it lo (-1) n).item i s _ _ hg st fun v h' tk hv st' kk=>?_
  obtain ⟨t,rfl⟩:=hv
  have I1:Inv X pins σ H { s with heap:=h',toks:=tk }:=I.turned (fun b o hb e=>kk b o (by simpa using hb) e) f0 f1 f3 f4 f5
  refine ⟨_,rfl,qWS (s:={ s with heap:=h',toks:=tk }) (n:="range_iterator") st' rfl rfl (by decide) ⟨.int (lo - i),H,I1,⟨t,?_⟩,⟨rfl,rfl⟩,st',fun b hb=>(hf b hb).1⟩⟩
  rw [show lo+(i:Int) * (-1)=lo - i by omega]
 done:=by
  intro X hP hw hK hc i pins s σ H E I hf st hg
  subst hP hw hK
  obtain ⟨f0,f1,f2,f3,f4,f5⟩:=hf it (List.mem_singleton.mpr rfl)
  have hle:n≤i:=hg
  exact wpAny_pyNext_range_end (I.ok.hd hc) st (by omega) fun h' eb=>⟨rfl,I.turned (t':=s.toks) (fun b o hb e=>eb b o hb e) f0 f1 f3 f4 f5⟩
 self:=fun _ _ _ _ _ st h=>wpAny_pyIter_rangeiter st h
def qbM (ta:TA):TI:=fun σ H R=>ta σ H fun vs H1=>∃ i j:Int,vs=[.int i,.int j,.int (-1)]∧(-(2 ^ 62)≤i∧i<2 ^ 62∧-(2 ^ 62)≤j∧j<2 ^ 62)∧R (Itd i (i - j).toNat) H1
theorem qTS {tg a b c:Expr} {ta:TA} {p pos:Pos} (hg:Gl X "range") (hm:X.mg "range" = none) (ha:PA X [a,b,c] ta) (hs:starEach [a,b,c] X.env=[(false,eval a X.env),(false,eval b X.env),(false,eval c X.env)]:=by rfl)
  (hs2:starEach [b,c] X.env=[(false,eval b X.env),(false,eval c X.env)]:=by rfl):PI X tg (.Call (.Name "range" p) [a,b,c] [] pos) (qbM ta):=by
 intro pins s σ H R I h
 refine Call_ (qGK I hg hm boot_range (PyProof.Rows.callWith_type1 (thn (ha pos pins s σ H _ I h) fun us s1 ⟨vs,H1,I1,r1,q1⟩=>?_) (by rw [hs,hs2]) (by rw [hs2];rfl)))
 obtain ⟨i,j,e,⟨q1,q2,q3,q4⟩,q⟩:=q1
 subst e
 obtain ⟨u1,rr,rfl,⟨t1,rfl⟩,r2⟩:∃ u rr,us=u::rr∧RelV (.int i) u∧Vals [.int j,.int (-1)] rr:=by cases r1 with | cons r rr=>exact ⟨_,_,rfl,r,rr⟩
 obtain ⟨u2,u3,rfl,⟨t2,rfl⟩,⟨t3,rfl⟩⟩:=qPD r2
 refine call_range_3 (by decide) ?_ (Or.inl (PyProof.noPylong_small (by omega)))
 refine wpAny_pyIter_range (IsRange.new ..) (PySem.W.small_down q1 q2 q3 q4) ?_
 have I2:Inv X pins σ H1 { s1 with heap:=s1.heap.push { cls:=.type "range",data:=.fields #[.int i t1,.int j t2,.int (-1) t3] },toks:=s1.toks }:=I1.kept fun b o e=>Heap.get?_push_of_some _ e
 refine ⟨(s1.heap.push { cls:=.type "range",data:=.fields #[.int i t1,.int j t2,.int (-1) t3] }).objs.size,[(s1.heap.push { cls:=.type "range",data:=.fields #[.int i t1,.int j t2,.int (-1) t3] }).objs.size],_,_,H1,rfl,
  I2.kept (t':=s1.toks) fun b o e=>Heap.get?_push_of_some _ e,qT4 _ i (i - j).toNat,?_,fun b hb=>?_,q⟩
 ·have e1:i+((0:Nat):Int) * (-1)=i:=by simp
  have e2:(((i - j).toNat:Nat):Int) - ((0:Nat):Int)=Builtin.Range.rangeSize i j (-1):=by rw [PySem.W.rangeSize_downNat];simp
  show IsRangeIter _ _ (i+((0:Nat):Int) * (-1)) ((((i - j).toNat:Nat):Int) - ((0:Nat):Int)) (-1)
  rw [e1,e2]
  exact Heap.get?_push_size _ rfl
 ·cases List.mem_singleton.mp hb
  exact I2.fpOk (Nat.le_refl _) (I2.hok.fresh (Nat.le_refl _))
theorem qRM {lo:Int} {n:Nat} {g:TG} {tb:TS} {D:Ends} {σ:St} {H:Hp} (Pv:Nat→St→Hp→Prop) (h0:Pv 0 σ H)
  (hs:∀ i σ H,i<n→Pv i σ H→g (.int (lo - i)) σ H fun σ2 H2=>tb { D with nx:=Pv (i+1),ct:=Pv (i+1),bk:=D.nx } σ2 H2) (hd:∀ σ H,Pv n σ H→D.nx σ H) :
  ∃ W:Nat→Nat→St→Hp→Prop,(∃ m,W 0 m σ H)∧∀ i m σ H,W i m σ H→
   ((Itd lo n).stop i H∧D.nx σ H)∨((Itd lo n).go i H∧∃ N:St→Hp→Prop,(∀ σ' H',N σ' H'→∃ m',m'<m∧W (i+1) m' σ' H')∧∀ x H',(Itd lo n).yld i H x H'→g x σ H' fun σ2 H2=>tb { D with nx:=N,ct:=N,bk:=D.nx } σ2 H2):=by
 refine ⟨fun i m σ H=>m=n - i∧i≤n∧Pv i σ H,⟨n,by simp,Nat.zero_le _,h0⟩,fun i m σ H ⟨e,hi,p⟩=>?_⟩
 rcases Nat.lt_or_ge i n with hlt | hge
 ·refine .inr ⟨hlt,Pv (i+1),fun σ' H' p'=>⟨n - (i+1),by omega,rfl,hlt,p'⟩,fun x H' y=>?_⟩
  rw [y.1,y.2]
  exact hs i σ H hlt p
 ·have e2:i=n:=by omega
  rw [e2] at p
  exact .inl ⟨hge,hd σ H p⟩
theorem qTU (hu:X.A.units<cLine):OpR X (compareOp .NotEq) (fun x y H Q=>∃ p l xs,x=.ref p∧y=.ref l∧SqL X.K H p xs∧SqL X.K H l []∧Q (.bl (!xs.isEmpty)) H):=by
 intro pins s σ H x y v u Q I rx ry h
 obtain ⟨p,l,xs,rfl,rfl,h1,h2,q⟩:=h
 cases rx
 cases ry
 obtain ⟨its,r1,p1,z1⟩:=I.list h1
 obtain ⟨its2,r2,p2,z2⟩:=I.list h2
 cases r2
 cases r1 with
 | nil=>exact PySem.SeqAt.RcNeAt.lists (e:=fun _=>true) p1.isList p2.isList rfl hu (fun j h _=>absurd h (by simp)) _ _ _ _ ⟨.bl false,H,I,rfl,q⟩
 | cons a r=>exact PySem.SeqAt.RcNeAt.lists_lengths p1.isList p2.isList (by simp) hu _ _ _ _ ⟨.bl true,H,I,rfl,q⟩
end
end L2
namespace L2
open PySem PySem.Spec PyProof.Rows
open PySem.AutoSeq1 in
section
variable {X:Cx}
end
end L2
namespace L2
open PySem PySem.Spec PyProof.Rows
def topI (b:Int) (l:List Int):Int:=l.foldl (fun b x=>if x > b then x else b) b
theorem qGN:∀ (l:List Int) (b:Int),b≤topI b l∧(∀ x ∈ l,x≤topI b l)∧(topI b l=b∨topI b l ∈ l)
 | [],b=>⟨Int.le_refl _,(fun _ z=>nomatch z),.inl rfl⟩
 | y::l,b=>by
  obtain ⟨h1,h2,h3⟩:=qGN l (if y > b then y else b)
  have e:topI b (y::l)=topI (if y > b then y else b) l:=rfl
  rw [e]
  have hb:b≤(if y > b then y else b)∧y≤(if y > b then y else b):=by split <;> omega
  refine ⟨by omega,fun x hx=>?_,?_⟩
  ·rcases List.mem_cons.mp hx with hx | hx
   ·omega
   ·exact h2 x hx
  ·rcases h3 with h3 | h3
   ·split at h3
    ·rw [if_pos (by assumption)]
     exact .inr (by rw [h3];exact List.mem_cons_self)
    ·rw [if_neg (by assumption)]
     exact .inl h3
   ·exact .inr (List.mem_cons_of_mem _ h3)
section
variable {prog:Program} {w:World} {A:Around} {R:Result→Shared→Prop} {I:Addr} {fp wr:List Addr} {n:Nat} {P:Nat→Value→Prop} {St:Nat→Heap→Prop}
theorem qYL (W:Walks prog w A.in1 I fp wr n P St) (kw:List (Str × Value)) (ns:List Int) (hn:ns.length=n) (hval:∀ i v,P i v→∃ t,v=.int (ns.getD i 0) t) (S:Addr) (hSf:S ∉ fp) :
  ∀ (k j:Nat) (s:Shared) (b:Int) (t:Tok) (c:Nat),n - j=k→j≤n→St j s.heap→s.heap.get? S=some { cls:=.type "list",dict:=none,data:=.seq #[.int b t,.int b t] c,slots:=#[] }→
  (∀ t' h' tk,(∀ x o,x ∉ wr→x ≠ S→s.heap.get? x=some o→h'.get? x=some o)→R (.ok (.ret (.int (topI b (ns.drop j)) t'))) { s with heap:=h',toks:=tk })→
  codeAny (model prog w) A (.builtin "max.loop" ⟨[.ref I,.none,.ref S],kw⟩) R s:=by
 have hSw:S ∉ wr:=fun h=>hSf (W.sub _ h)
 have hname:(toString "max" ++ toString ".loop" : String) = "max.loop":=by decide
 intro k
 induction k with
 | zero=>
  intro j s b t c hk hj st hS hR
  have e:j=n:=by omega
  refine codeAny_builtin F.entry_max_loop ?_
  rw [Around.under_plainId F.plain_max_loop _]
  show wpAny _ A.in1 (seqItems? (.ref S) >>= _) _ _ s
  refine wpAny_bind (wpAny_seqItems hS rfl ?_)
  show wpAny _ A.in1 (tryCatch (pyNext (.ref I)) _ >>= _) _ _ s
  refine wpAny_bind (wpAny_tryCatch (W.done s _ _ (e ▸ st) fun h' tk hk'=>?_))
  show wpAny _ A.in1 (updateSeq S (fun _=>#[]) >>= _) _ _ _
  refine wpAny_bind (wpAny_updateSeq (hk' S _ hSw hS) rfl (wpAny_bind (wpAny_letGo (wpAny_pure ?_))))
  rw [List.drop_of_length_le (by omega)] at hR
  exact hR t _ tk fun x o hx hxS ex=>(Heap.get?_update_other _ _ (Ne.symm hxS)).trans (hk' x o hx ex)
 | succ k ih=>
  intro j s b t c hk hj st hS hR
  have hlt:j<n:=by omega
  refine codeAny_builtin F.entry_max_loop ?_
  rw [Around.under_plainId F.plain_max_loop _]
  show wpAny _ A.in1 (seqItems? (.ref S) >>= _) _ _ s
  refine wpAny_bind (wpAny_seqItems hS rfl ?_)
  show wpAny _ A.in1 (tryCatch (pyNext (.ref I)) _ >>= _) _ _ s
  refine wpAny_bind (wpAny_tryCatch (W.item j s _ _ hlt st fun v h' tk hP st' hk'=>?_))
  have hS':=hk' S _ hSw hS
  obtain ⟨u,rfl⟩:=hval j v hP
  have ed:ns.drop j=ns.getD j 0::ns.drop (j+1):=by
   have hj':j<ns.length:=by omega
   rw [List.drop_eq_getElem_cons hj',List.getD_eq_getElem?_getD,List.getElem?_eq_getElem hj']
   rfl
  rw [ed] at hR
  generalize ns.getD j 0=y at hR hP ⊢
  show wpAny _ A.in1 (tryCatch (holding [Value.int y u,Value.int y u] (richCompare .Gt (.int y u) (.int b t) >>= _)) _ >>= _) _ _ _
  refine wpAny_bind (wpAny_tryCatch (wpAny_holding (wpAny_bind (richCompare_gives (op:=.Gt) (typeIs_int _ _ u) (typeIs_int _ _ t) F.slot_int_gt F.entry_int_gt (F.args_int_gt_2 _ _) (gives_int_gt _ _ u t) (fun x=>nomatch x) ?_))))
  refine wpAny_bind (wpAny_holding (wpAny_truthy_bool (wpAny_bind (wpAny_letGo (wpAny_pure ?_)))))
  by_cases hb:y > b
  ·rw [decide_eq_true hb,if_pos rfl]
   have et:topI b (y::ns.drop (j+1))=topI y (ns.drop (j+1)):=by show topI (if y > b then y else b) _=_;rw [if_pos hb]
   rw [et] at hR
   refine wpAny_bind (wpAny_updateSeq hS' rfl (wpAny_bind (wpAny_letGo ?_)))
   rw [hname]
   refine wpAny_pure ⟨plainId_quiet F.plain_max_loop _,ih (j+1) _ y u _ (by omega) hlt (W.frame _ _ _ st' fun x hx o ex=>?_) (Heap.get?_update_self _ hS' rfl) fun t' h2 tk2 hk2=>?_⟩
   ·exact (Heap.get?_update_other _ _ (fun z:S=x=>hSf (by rw [z];exact hx))).trans ex
   ·exact hR t' h2 tk2 fun x o hx hxS ex=>hk2 x o hx hxS ((Heap.get?_update_other _ _ (Ne.symm hxS)).trans (hk' x o hx ex))
  ·rw [decide_eq_false hb,if_neg Bool.false_ne_true]
   have et:topI b (y::ns.drop (j+1))=topI b (ns.drop (j+1)):=by show topI (if y > b then y else b) _=_;rw [if_neg hb]
   rw [et] at hR
   refine wpAny_bind (wpAny_letGo ?_)
   rw [hname]
   exact wpAny_pure ⟨plainId_quiet F.plain_max_loop _,ih (j+1) _ b t c (by omega) hlt st' hS' fun t' h2 tk2 hk2=>hR t' h2 tk2 fun x o hx hxS ex=>hk2 x o hx hxS (hk' x o hx ex)⟩
theorem qU3 (W:Walks prog w A.in1 I fp wr n P St) (kw:List (Str × Value)) (ns:List Int) (hn:ns.length=n) (hval:∀ i v,P i v→∃ t,v=.int (ns.getD i 0) t) (S:Addr) (hSf:S ∉ fp) {s:Shared} {c:Nat} (st:St 0 s.heap)
  (hS:s.heap.get? S=some { cls:=.type "list",dict:=none,data:=.seq #[] c,slots:=#[] })
  (h1:∀ y r,ns=y::r→∀ t' h' tk,(∀ x o,x ∉ wr→x ≠ S→s.heap.get? x=some o→h'.get? x=some o)→R (.ok (.ret (.int (topI y r) t'))) { s with heap:=h',toks:=tk })
  (h2:ns=[]→∃ nm dv,kw=[(nm,dv)]∧∀ h' tk,(∀ x o,x ∉ wr→x ≠ S→s.heap.get? x=some o→h'.get? x=some o)→R (.ok (.ret dv)) { s with heap:=h',toks:=tk }) :
  codeAny (model prog w) A (.builtin "max.loop" ⟨[.ref I,.none,.ref S],kw⟩) R s:=by
 have hSw:S ∉ wr:=fun h=>hSf (W.sub _ h)
 have hname:(toString "max" ++ toString ".loop" : String) = "max.loop":=by decide
 refine codeAny_builtin F.entry_max_loop ?_
 rw [Around.under_plainId F.plain_max_loop _]
 show wpAny _ A.in1 (seqItems? (.ref S) >>= _) _ _ s
 refine wpAny_bind (wpAny_seqItems hS rfl ?_)
 show wpAny _ A.in1 (tryCatch (pyNext (.ref I)) _ >>= _) _ _ s
 cases ns with
 | nil=>
  obtain ⟨nm,dv,rfl,h3⟩:=h2 rfl
  refine wpAny_bind (wpAny_tryCatch (W.done s _ _ (hn ▸ st) fun h' tk hk'=>?_))
  show wpAny _ A.in1 (rule _ >>= fun _=>ret dv) _ _ _
  exact wpAny_bind (wpAny_rule (wpAny_pure (h3 _ tk fun x o hx _ ex=>hk' x o hx ex)))
 | cons y r=>
  refine wpAny_bind (wpAny_tryCatch (W.item 0 s _ _ (by rw [← hn];simp) st fun v h' tk hP st' hk'=>?_))
  have hS':=hk' S _ hSw hS
  obtain ⟨u,rfl⟩:=hval 0 v hP
  show wpAny _ A.in1 (updateSeq S (fun _=>#[Value.int y u,Value.int y u]) >>= _) _ _ _
  refine wpAny_bind (wpAny_updateSeq hS' rfl ?_)
  rw [hname]
  refine wpAny_pure ⟨plainId_quiet F.plain_max_loop _,qYL W kw (y::r) hn hval S hSf _ 1 _ y u _ rfl (by rw [← hn];simp) (W.frame _ _ _ st' fun x hx o ex=>?_) (Heap.get?_update_self _ hS' rfl) fun t' h2 tk2 hk2=>?_⟩
  ·exact (Heap.get?_update_other _ _ (fun z:S=x=>hSf (by rw [z];exact hx))).trans ex
  ·exact h1 y r rfl t' h2 tk2 fun x o hx hxS ex=>hk2 x o hx hxS ((Heap.get?_update_other _ _ (Ne.symm hxS)).trans (hk' x o hx ex))
end
section
variable {prog:Program} {w:World} {A:Around} {E:Value→Shared→Prop} {s:Shared}
theorem qIM {id:String} {b:Builtin} {args:List Value} {kw:List (Str × Value)} {Q:Value→Shared→Prop} (hk:builtinKind id=none) (hp:plainId id=true) (hb:entryFor table id=some b) (ha:argsOk id ⟨args,kw⟩)
  (hc:wpAny (model prog w) A.in1 (b ⟨args,kw⟩) (fun fin s'=>∃ c',fin=.again c'∧c'.quiet=true∧codeAny (model prog w) A c' (fun r s'=>∃ v,r=.ok (.ret v)∧Q v s') s') E s):wpAny (model prog w) A (call (.builtin id) args kw) Q E s:=by
 refine wpAny_call (codeAny_call_builtin hp hb ?_)
 have h2:=wpAny_mono hc (Q':=fun fin s'=>match fin with
   | .done f=>(match (Except.ok f:Result) with | .ok (.ret v)=>Q v s' | .ok _=>False | .error e=>E e s')
   | .again c'=>c'.quiet=true∧codeAny (model prog w) A c' (fun r s'=>match r with | .ok (.ret v)=>Q v s' | .ok _=>False | .error e=>E e s') s')
  (fun fin s' ⟨c',e,h1,h2⟩=>by subst e;exact ⟨h1,codeAny_mono h2 fun r s' ⟨v,e,q⟩=>by subst e;exact q⟩) fun _ _ h'=>h'
 simp only [checkBuiltinCall,hk]
 cases sg:Manifest.signature? id with
 | none=>exact wpAny_pure h2
 | some sig=>
  have ha':Bind.checkArgs id sig ⟨args,kw⟩=pure ():=by simpa only [argsOk,sg] using ha
  simp only [ha']
  exact wpAny_pure h2
end
section
variable {X:Cx}
def topD (dv:Option Int):List Int→Option Int
 | []=>dv
 | y::r=>some (topI y r)
theorem qYM {pins:List (Addr × Obj)} {s:Shared} {σ:St} {H:Hp} {Q:VK} {p:Addr} {ns:List Int} {kw:List (Str × Value)} {dv:Option Int} (hc:X.calm=true) (I:Inv X pins σ H s) (hq:SqL X.K H p (ns.map V.int))
  (ok:argsOk "max" ⟨[.ref p],kw⟩) (df:Option Value) (hb:Builtin.Builtins.bindParams "max" ["key","default"] 0 ⟨[],kw⟩=pure [none,df]) (hdf:df=none∧dv=none∨∃ d t,df=some (.int d t)∧dv=some d)
  (m:Int) (em:topD dv ns=some m) (q:Q (.int m) H):wpAny (model X.prog X.w) X.A (call (.builtin "max") [.ref p] kw) (EP X pins σ Q) X.xe s:=by
 obtain ⟨its,rv,pl,hz⟩:=I.list hq
 have hl:=pl.isList
 have hlt:p<s.heap.objs.size:=by obtain ⟨_,e,_⟩:=hl;exact Heap.lt_size e
 have hlen:=rv.length
 rw [List.length_map] at hlen
 have ia:=qC6 rv
 have hname:(toString "max" ++ toString ".loop" : String) = "max.loop":=by decide
 refine qIM F.kind_max F.plain_max F.entry_max ok ?_
 show wpAny _ _ (Builtin.Builtins.bindParams "max" ["key","default"] 0 ⟨[],kw⟩ >>= _) _ _ s
 refine wpAny_bind (wpAny_of_eq hb ?_)
 refine wpAny_bind (wpAny_pure ?_)
 refine wpAny_bind (wpAny_pyIter_list hl ?_)
 refine wpAny_bind (wpAny_newObj_type ?_)
 rw [hname]
 have w0:X.A.in1.handled=none:=I.ok.hd hc
 refine wpAny_pure ⟨_,rfl,plainId_quiet F.plain_max_loop _,?_⟩
 refine qU3 (Walks.list w0 _ p (Nat.ne_of_lt hlt) its.toArray) _ ns (by simpa using hlen) (fun i v hv=>?_) _ ?_ (c:=0) ?_ (Heap.get?_push_size _ rfl) ?_ ?_
 ·exact PyProof.Rows.IntsAre.int_at ia i v (by simpa using hv)
 ·simp only [Heap.size_push,List.mem_cons,List.not_mem_nil,or_false,not_or]
  exact ⟨Nat.succ_ne_self _,Nat.ne_of_gt (Nat.lt_succ_of_lt hlt)⟩
 ·exact ⟨⟨_,Heap.get?_push_of_some _ (Heap.get?_push_size _ rfl),rfl,rfl⟩,(hl.push _).push _⟩
 ·intro y r e t' h' tk hk
  subst e
  cases em
  refine ⟨_,rfl,.int _,H,I.kept (t':=tk) fun b o eb=>hk b o ?_ ?_ (Heap.get?_push_of_some _ (Heap.get?_push_of_some _ eb)),⟨t',rfl⟩,q⟩
  ·simp only [List.mem_cons,List.not_mem_nil,or_false]
   exact Nat.ne_of_lt (Heap.lt_size eb)
  ·rw [Heap.size_push]
   exact Nat.ne_of_lt (Nat.lt_succ_of_lt (Heap.lt_size eb))
 ·intro e
  subst e
  rcases hdf with ⟨_,e2⟩ | ⟨d,t,rfl,rfl⟩
  ·rw [e2] at em
   cases em
  ·cases em
   refine ⟨_,_,rfl,fun h' tk hk=>⟨_,rfl,.int _,H,I.kept (t':=tk) fun b o eb=>hk b o ?_ ?_ (Heap.get?_push_of_some _ (Heap.get?_push_of_some _ eb)),⟨t,rfl⟩,q⟩⟩
   ·simp only [List.mem_cons,List.not_mem_nil,or_false]
    exact Nat.ne_of_lt (Heap.lt_size eb)
   ·rw [Heap.size_push]
    exact Nat.ne_of_lt (Nat.lt_succ_of_lt (Heap.lt_size eb))
theorem qDX (hc:X.calm=true):qFC X (.builtin "max") (fun xs H Q=>∃ p ns m,xs=[.ref p]∧SqL X.K H p (ns.map V.int)∧topD none ns=some m∧Q (.int m) H):=by
 intro pins s σ H xs us Q I r h
 obtain ⟨p,ns,m,rfl,hq,em,q⟩:=h
 obtain ⟨u,rfl,rx⟩:=qEY r
 cases rx
 exact qYM hc I hq (F.args_max1 _) none rfl (.inl ⟨rfl,rfl⟩) m em q
end
end L2
namespace L2
open PySem PySem.Spec PyProof.Rows
theorem qOO:entryFor table "dict.update.loop" = some Builtin.«dict.update.loop»:=entryFor_of_tree (by kernel_rfl)
theorem qHD:plainId "dict.update.loop" = true:=by decide +kernel
theorem qPX:typeLookup (.type "list") "keys" = pure none:=by rw [typeLookup_type,builtinLookup_eq_fast];kernel_rfl
section
variable {prog:Program} {w:World} {A:Around} {E:Value→Shared→Prop} {s:Shared}
theorem qU1 {a:Addr} {o:Obj} {xs:Array Value} {k:Nat} {Q:Option Value→Shared→Prop} (hx:s.heap.get? a=some o) (hc:o.cls=.type "list") (hdat:o.data=.seq xs k) (hd:o.dict=none) (hA:A.handled=none)
  (h:∀ h' tk,(∀ b u,s.heap.get? b=some u→h'.get? b=some u)→Q none { s with heap:=h',toks:=tk }):wpAny (model prog w) A (getAttr? (.ref a) "keys") Q E s:=by
 obtain ⟨c,dct,dat,sl⟩:=o
 simp only at hc hdat hd
 subst hc hdat hd
 obtain ⟨hp,g,dr,tk,os⟩:=s
 have hT:∀ tk',(⟨hp,g,dr,tk',os⟩:Shared).TypeIs (.ref a) "list":=fun _=>⟨_,hx,rfl⟩
 have f1:=sub_AttributeError
 have f3:=F.slot_list_getattribute.lookup
 have f4:=F.slot_list_getattribute.bind (.ref a)
 have f5:=am_list_getattr_none
 unfold getAttr? getAttrBy? getAttrBy
 repeat (any_goals (first | assumption | exact hT _ | ((with_reducible show wpAny _ _ (call (Value.builtin "list.__getattribute__") _ _) _ _ _);refine call_meets F.slot_list_getattribute (hT _) am_entry_list_getattribute (F.args_list_getattribute_2 _ _) (meets_getattribute_miss_list a xs k sl "keys" _ qPX (by decide +kernel) (by decide +kernel)) ⟨hx,hA,fun h' tk' e hx'=>?_⟩) | wp_step))
 obtain ⟨t',u',he⟩:=hx'.there
 show wpAny _ _ (getattributeRaised _ _ _ _ _ _ _) _ _ _
 unfold getattributeRaised
 repeat (any_goals (first | assumption | wp_step))
 exact h _ _ hx'.of.keeps
end
section
variable {prog:Program} {w:World} {A:Around} {R:Result→Shared→Prop} {I:Addr} {fp wr:List Addr} {n:Nat} {P:Nat→Value→Prop} {St:Nat→Heap→Prop}
theorem qWX (W:Walks prog w A.in1 I fp wr n P St) (h0:Heap) (d:Addr) (hdf:d ∉ fp) (ps:List (Int × Value)) (hn:ps.length=n) (hz:n≤sizeLine)
  (tup:∀ i v,P i v→∃ r k t x,v=.ref r∧r ∉ wr∧r ≠ d∧h0.IsTuple r #[.int k t,x]∧ps[i]?=some (k,x)) :
  ∀ (m i:Nat) (j:Int) (tj:Tok) (s:Shared) (kvs:List (Key × Value)),n - i=m→i≤n→St i s.heap→s.heap.DictOf (qB1 prog w) d kvs→kvs.length≤i→(∀ b o,b ∉ wr→b ≠ d→h0.get? b=some o→s.heap.get? b=some o)→
  (∀ h' tk,h'.DictOf (qB1 prog w) d ((ps.drop i).foldl (fun m q=>stored m (Sum.inl q.1) q.2) kvs)→(∀ b o,b ∉ wr→b ≠ d→h0.get? b=some o→h'.get? b=some o)→R (.ok (.ret .none)) { s with heap:=h',toks:=tk })→
  codeAny (model prog w) A (.builtin "dict.update.loop" ⟨[.ref d,.ref I,.int j tj,.none],[]⟩) R s:=by
 have hdw:d ∉ wr:=fun h=>hdf (W.sub _ h)
 intro m
 induction m with
 | zero=>
  intro i j tj s kvs hm hi st hd hl hk hR
  have e:i=n:=by omega
  refine codeAny_builtin qOO ?_
  rw [Around.under_plainId qHD _]
  show wpAny _ A.in1 (pyNext (.ref I) >>= _) _ _ s
  refine wpAny_bind (W.done s _ _ (e ▸ st) fun h' tk hk'=>?_)
  show wpAny _ A.in1 (Builtin.Dict.addKeywords d [] >>= fun _=>ret Value.none) _ _ _
  rw [List.drop_of_length_le (by omega)] at hR
  exact wpAny_bind (wpAny_pure (wpAny_pure (hR h' tk (hd.at fun o eo=>hk' d o hdw eo) fun b o hb hbd eb=>hk' b o hb (hk b o hb hbd eb))))
 | succ m ih=>
  intro i j tj s kvs hm hi st hd hl hk hR
  have hlt:i<n:=by omega
  refine codeAny_builtin qOO ?_
  rw [Around.under_plainId qHD _]
  show wpAny _ A.in1 (pyNext (.ref I) >>= _) _ _ s
  refine wpAny_bind (W.item i s _ _ hlt st fun v h' tk hP st' hk'=>?_)
  obtain ⟨r,k,t,x,rfl,hrw,hrd,ht,ep⟩:=tup i v hP
  have ed:ps.drop i=(k,x)::ps.drop (i+1):=by
   obtain ⟨hi',e⟩:=List.getElem?_eq_some_iff.mp ep
   rw [List.drop_eq_getElem_cons hi',e]
  rw [ed] at hR
  have ht2:h'.IsTuple r #[.int k t,x]:=by
   obtain ⟨o,e1,e2,e3⟩:=ht
   exact ⟨o,hk' r o hrw (hk r o hrw hrd e1),e2,e3⟩
  obtain ⟨o,ho,hoc,no,hod⟩:=ht2
  have hd2:h'.DictOf (qB1 prog w) d kvs:=hd.at fun o eo=>hk' d o hdw eo
  refine wpAny_bind (wpAny_holding (wpAny_bind ?_))
  show wpAny _ A.in1 (tryCatch (Builtin.Dict.pairItems (.ref r)) _) _ _ _
  refine wpAny_tryCatch ?_
  unfold Builtin.Dict.pairItems
  refine wpAny_bind (wpAny_typeOf (T:="tuple") ⟨o,ho,hoc⟩ ?_)
  rw [if_pos (by decide)]
  refine wpAny_bind (wpAny_seqItems ho hod (wpAny_pure ?_))
  show wpAny _ A.in1 (holding [Value.int k t,x] (dictSet d (.int k t) x)) _ _ _
  refine wpAny_holding (wpAny_dictSet_pairs (hsz:=by omega) (k:=Sum.inl k) (by rw [qSC];exact qOA k t) hd2 fun h2 hd3 sb=>?_)
  have len3:(stored kvs (Sum.inl k) x).length≤i+1:=by
   unfold stored
   split
   ·rw [List.length_map];omega
   ·rw [List.length_append,List.length_singleton];omega
  refine wpAny_pure ⟨plainId_quiet qHD _,ih (i+1) _ _ _ (stored kvs (Sum.inl k) x) (by omega) hlt (W.frame _ _ _ st' fun b hb o eb=>?_) hd3 len3 (fun b o hb hbd eb=>?_) fun h3 tk3 hd4 hk4=>hR h3 tk3 hd4 hk4⟩
  ·rw [sb.2 b (fun z:b=d=>hdf (z ▸ hb))]
   exact eb
  ·rw [sb.2 b hbd]
   exact hk' b o hb (hk b o hb hbd eb)
end
section
variable {prog:Program} {w:World} {A:Around} {E:Value→Shared→Prop} {s:Shared}
theorem qOX {l:Addr} {o:Obj} {its:Array Value} {nl:Nat} {ps:List (Int × Value)} {Q:Value→Shared→Prop} (hA:A.handled=none) (hl:s.heap.get? l=some o) (hc:o.cls=.type "list") (hdat:o.data=.seq its nl) (hdn:o.dict=none) (hn:ps.length=its.size) (hz:its.size≤sizeLine)
  (tup:∀ (i:Nat) v,its[i]?=some v→∃ r k t x,v=.ref r∧s.heap.IsTuple r #[.int k t,x]∧ps[i]?=some (k,x))
  (h:∀ h' tk,h'.DictOf (qB1 prog w) s.heap.objs.size (ps.foldl (fun m q=>stored m (Sum.inl q.1) q.2) [])→(∀ b u,s.heap.get? b=some u→h'.get? b=some u)→Q (.ref s.heap.objs.size) { s with heap:=h',toks:=tk }) :
  wpAny (model prog w) A (call (.type "dict") [.ref l]) Q E s:=by
 refine callType_codes (Q₁:=fun obj s₁=>obj=.ref s.heap.objs.size∧s₁={ s with heap:=s.heap.push { cls:=.type "dict",data:=.dict #[] } }) F.kt_called_dict (F.kt_typeCall_dict_1 _) F.entry_dict_init (kt_code_dict_new _ ⟨rfl,rfl⟩) ?_
 rintro obj s₁ ⟨rfl,rfl⟩
 have nw:(s.heap.push { cls:=.type "dict",data:=.dict #[] }).DictOf (qB1 prog w) s.heap.objs.size []:=Heap.DictOf.new s.heap
 have hl':(s.heap.push { cls:=.type "dict",data:=.dict #[] }).get? l=some o:=Heap.get?_push_of_some _ hl
 have hll:l<s.heap.objs.size:=Heap.lt_size hl
 refine ⟨nw.typeIs,F.args_dict_init_2 _ _,?_⟩
 unfold Builtin.«dict.__init__»
 refine wpAny_bind ?_
 unfold Builtin.Dict.selfAndRest
 refine wpAny_bind (wpAny_notOrdered_dict nw.typeIs ?_)
 show wpAny _ _ (pure (s.heap.objs.size,[Value.ref l])) _ _ _
 refine wpAny_pure ?_
 show wpAny _ _ (Builtin.Dict.updateFrom "dict.__init__" s.heap.objs.size (.ref l) [] .none) _ _ _
 unfold Builtin.Dict.updateFrom
 refine wpAny_bind (wpAny_typeOf (T:="list") ⟨o,hl',hc⟩ ?_)
 rw [if_pos (by decide)]
 refine wpAny_bind (qU1 hl' hc hdat hdn hA fun h1 tk1 k1=>?_)
 rw [if_pos (show (none:Option Value).isNone=true from rfl)]
 have hl1:h1.IsList l its:=⟨o,k1 _ _ hl',hc,nl,hdat⟩
 have hlt1:l<h1.objs.size:=Heap.lt_size (k1 _ _ hl')
 have hdl:s.heap.objs.size<h1.objs.size:=by
  obtain ⟨_,_,_,e,_⟩:=nw
  exact Heap.lt_size (k1 _ _ e)
 refine wpAny_bind (wpAny_rule (wpAny_bind (wpAny_pyIter_list hl1 ?_)))
 refine wpAny_pure ⟨plainId_quiet qHD _,?_⟩
 refine qWX (n:=its.size) (Walks.list (A:=A.in1.in1) hA _ l (Nat.ne_of_lt hlt1) its) h1 s.heap.objs.size ?_ ps hn hz (fun i v hv=>?_) its.size 0 _ _ _ [] rfl (Nat.zero_le _) ⟨⟨_,Heap.get?_push_size _ rfl,rfl,rfl⟩,hl1.push _⟩ ((nw.keep k1).push _) (Nat.le_refl _) (fun b u hb hbd eb=>Heap.get?_push_of_some _ eb) fun h' tk hd' hk'=>?_
 ·simp only [List.mem_cons,List.not_mem_nil,or_false,not_or]
  exact ⟨Nat.ne_of_lt hdl,Nat.ne_of_gt hll⟩
 ·obtain ⟨r,k,t,x,e1,e2,e3⟩:=tup i v hv
  obtain ⟨or,hr,hr2,hr3⟩:=e2
  have hrs:=Heap.lt_size hr
  refine ⟨r,k,t,x,e1,?_,Nat.ne_of_lt hrs,⟨or,k1 _ _ (Heap.get?_push_of_some _ hr),hr2,hr3⟩,e3⟩
  simp only [List.mem_cons,List.not_mem_nil,or_false]
  exact Nat.ne_of_lt (Nat.lt_trans hrs hdl)
 ·refine ⟨rfl,h h' tk hd' fun b u eb=>?_⟩
  have hbs:=Heap.lt_size eb
  refine hk' b u ?_ (Nat.ne_of_lt hbs) (k1 _ _ (Heap.get?_push_of_some _ eb))
  simp only [List.mem_cons,List.not_mem_nil,or_false]
  exact Nat.ne_of_lt (Nat.lt_trans hbs hdl)
end
theorem qM8 {α β:Type} {F:α→β→Prop}:∀ {l₁:List α} {l₂:List β} {i:Nat} {a:α},Paired F l₁ l₂→l₁[i]?=some a→∃ b,l₂[i]?=some b∧F a b
 | _,_,_,_,.nil,e=>by simp at e
 | _,_,0,_,.cons r _,e=>by simp at e;subst e;exact ⟨_,rfl,r⟩
 | _,_,i+1,a,.cons _ t,e=>by
  obtain ⟨b,h1,h2⟩:=qM8 (i:=i) (a:=a) t (by simpa using e)
  exact ⟨b,by simpa using h1,h2⟩
theorem qPJ {h:Heap} {p:Addr} {its:Array Value} (x:PlainL h p its):∃ o,h.get? p=some o∧o.cls=.type "list"∧o.dict=none∧∃ n,o.data=.seq its n:=by
 obtain ⟨o,n,h2,h3,h4,h5⟩:=x
 exact ⟨o,h2,h3,h4,n,h5⟩
section
variable {X:Cx}
def qR6 (H:Hp) (K:PySem.W.Frag) (rs:List Addr) (ps:List (Int × V)):Prop:=Paired (fun r (q:Int × V)=>SqT K H r [.int q.1,q.2]) rs ps
def qCD (kvs:List (Key × V)) (ps:List (Int × V)):List (Key × V):=ps.foldl (fun m q=>putK m (Sum.inl q.1) q.2) kvs
theorem qL3:∀ (ps:List (Int × V)) (kvs:List (Key × V)),(qCD kvs ps).length≤kvs.length+ps.length
 | [],kvs=>by simp [qCD]
 | q::ps,kvs=>by
  have:=qL3 ps (putK kvs (Sum.inl q.1) q.2)
  have:=qCV kvs (Sum.inl q.1) q.2
  show (qCD (putK kvs (Sum.inl q.1) q.2) ps).length≤kvs.length+(q::ps).length
  rw [List.length_cons]
  omega
theorem qTJ {pins:List (Addr × Obj)} {σ:St} {H:Hp} {s:Shared} (I:Inv X pins σ H s):∀ {rs:List Addr} {ps:List (Int × V)},qR6 H X.K rs ps→
  ∃ qs:List (Int × Value),Paired (fun r (q:Int × Value)=>∃ t,s.heap.IsTuple r #[.int q.1 t,q.2]) rs qs∧Paired (fun (p:Int × V) (q:Int × Value)=>p.1=q.1∧RelV p.2 q.2) ps qs:=by
 intro rs ps h
 unfold qR6 at h
 induction h with
 | nil=>exact ⟨[],.nil,.nil⟩
 | @cons r q rs ps h t ih=>
  obtain ⟨qs,h1,h2⟩:=ih
  obtain ⟨its,rv,pl,hz⟩:=I.tuple h
  obtain ⟨u1,u2,rfl,⟨tk,rfl⟩,r2⟩:=qPD rv
  exact ⟨(q.1,u2)::qs,.cons ⟨tk,pl⟩ h1,.cons ⟨rfl,r2⟩ h2⟩
theorem qYB:∀ {ps:List (Int × V)} {qs:List (Int × Value)} {kvs:List (Key × V)} {vs:List (Key × Value)},Paired (fun (p:Int × V) (q:Int × Value)=>p.1=q.1∧RelV p.2 q.2) ps qs→KV kvs vs→KV (qCD kvs ps) (qs.foldl (fun m q=>stored m (Sum.inl q.1) q.2) vs):=by
 intro ps qs kvs vs h
 induction h generalizing kvs vs with
 | nil=>exact fun r=>r
 | cons h t ih=>
  intro r
  refine ih ?_
  dsimp only
  rw [← h.1]
  exact r.put _ h.2
theorem qLL (hc:X.calm=true):qFC X (.type "dict") (fun xs H Q=>∃ (p:Addr) (rs:List Addr) (ps:List (Int × V)),xs=[.ref p]∧SqL X.K H p (rs.map V.ref)∧qR6 H X.K rs ps∧∀ d,H d=none→Q (.ref d) (upd H d (.dK (qCD [] ps)))):=by
 intro pins s σ H xs us Q I r h
 obtain ⟨p,rs,ps,rfl,hq,hp,q⟩:=h
 obtain ⟨u,rfl,rx⟩:=qEY r
 cases rx
 obtain ⟨its,rv,pl,hz⟩:=I.list hq
 obtain ⟨qs,h1,h2⟩:=qTJ I hp
 have l0:=rv.length
 rw [List.length_map] at l0
 have l1:rs.length=qs.length:=Paired.length h1
 have l2:ps.length=qs.length:=Paired.length h2
 obtain ⟨o,ho,hoc,hod,n,hdat⟩:=qPJ pl
 rw [List.length_map] at hz
 refine qOX (ps:=qs) (I.ok.hd hc) ho hoc hdat hod (by simp;omega) (by simp;omega) (fun i v hv=>?_) fun h' tk hd' hk=>?_
 ·have hv':its[i]?=some v:=by simpa using hv
  have hi:i<rs.length:=by rw [l0];exact (List.getElem?_eq_some_iff.mp hv').1
  obtain ⟨u,hu,ru⟩:=rv.get (i:=i) (x:=.ref rs[i]) (by rw [List.getElem?_map,List.getElem?_eq_getElem hi];rfl)
  rw [hv'] at hu
  cases hu
  cases ru
  obtain ⟨b,hb,t,ht⟩:=qM8 h1 (List.getElem?_eq_getElem hi)
  exact ⟨rs[i],b.1,t,b.2,rfl,ht,hb⟩
 ·have z:(qCD [] ps).length≤sizeLine:=by
   have:=qL3 ps []
   simp at this
   omega
  refine ⟨.ref s.heap.objs.size,_,I.laid (a:=s.heap.objs.size) (o:=.dK (qCD [] ps)) (t':=tk) hk (Nat.le_refl _) (qV0 z (beq_eq_false_iff_ne.mpr (Ne.symm (Nat.ne_of_lt I.big))) (qYB h2 .nil) hd'),rfl,q _ (I.hok.fresh (Nat.le_refl _))⟩
end
end L2
namespace L2
open PySem PySem.Spec PyProof.Rows
section
variable {X:Cx}
theorem qYV {A:Around} {s:Shared} {zs:List Int} {us vs:List Value} (h1:Vals (zs.map V.int) us) (h2:Vals (zs.map V.int) vs):∀ j (j1:j<us.toArray.size) (j2:j<vs.toArray.size),SeqAt.EqAt A s us.toArray[j] vs.toArray[j] true:=by
 intro j j1 j2
 have l1:=h1.length
 rw [List.length_map] at l1
 have hj:j<zs.length:=by simp at j1;omega
 have e0:(zs.map V.int)[j]?=some (.int zs[j]):=by rw [List.getElem?_map,List.getElem?_eq_getElem hj];rfl
 obtain ⟨u,eu,t,ru⟩:=h1.get e0
 obtain ⟨v,ev,t',rv⟩:=h2.get e0
 have hu:us.toArray[j]=u:=by
  rw [List.getElem_toArray]
  exact (List.getElem?_eq_some_iff.mp eu).2
 have hv:vs.toArray[j]=v:=by
  rw [List.getElem_toArray]
  exact (List.getElem?_eq_some_iff.mp ev).2
 rw [hu,hv,ru,rv]
 have h:=SeqAt.EqAt.int_int (A:=A) (s:=s) zs[j] t zs[j] t'
 rw [beq_self_eq_true] at h
 exact h
theorem qPN (hu:X.A.units<cLine):OpR X (compareOp .NotEq) (fun x y H Q=>∃ (p l:Addr) (zs:List Int),x=.ref p∧y=.ref l∧SqL X.K H p (zs.map V.int)∧SqL X.K H l (zs.map V.int)∧Q (.bl false) H):=by
 intro pins s σ H x y v u Q I rx ry h
 obtain ⟨p,l,zs,rfl,rfl,h1,h2,q⟩:=h
 cases rx
 cases ry
 obtain ⟨us,r1,p1,z1⟩:=I.list h1
 obtain ⟨vs,r2,p2,z2⟩:=I.list h2
 refine PySem.SeqAt.RcNeAt.lists (e:=fun _=>true) p1.isList p2.isList (by simp [← r1.length,← r2.length]) hu (qYV r1 r2) _ _ _ _ ⟨.bl false,H,I,?_,q⟩
 have:(List.range us.toArray.size).all (fun _=>true)=true:=by simp
 rw [this]
 rfl
end
theorem qMK {K:PySem.W.Frag} {a:Addr} {xs:List V} {g:TG} {tb:TS} {D:Ends} {σ0:St} {H0:Hp} (Pv:Nat→St→Hp→Prop) (h0:Pv 0 σ0 H0) (hl:∀ i σ H,i≤xs.length→Pv i σ H→SqL K H a xs)
  (hs:∀ i x σ H T,xs[i]?=some x→Pv i σ H→H T=none→g (.ref T) σ (upd H T (.tup [.int (i:Int),x])) fun σ2 H2=>tb { D with nx:=Pv (i+1),ct:=Pv (i+1),bk:=D.nx } σ2 H2)
  (hd:∀ σ H,Pv xs.length σ H→D.nx σ H) :
  ∃ W:Nat→Nat→St→Hp→Prop,(∃ m,W 0 m σ0 H0)∧∀ i m σ H,W i m σ H→
   ((Ite K a).stop i H∧D.nx σ H)∨((Ite K a).go i H∧∃ N:St→Hp→Prop,(∀ σ' H',N σ' H'→∃ m',m'<m∧W (i+1) m' σ' H')∧∀ x H',(Ite K a).yld i H x H'→g x σ H' fun σ2 H2=>tb { D with nx:=N,ct:=N,bk:=D.nx } σ2 H2):=by
 refine ⟨fun i m σ H=>m=xs.length - i∧i≤xs.length∧Pv i σ H,⟨xs.length,by simp,Nat.zero_le _,h0⟩,?_⟩
 rintro i m σ H ⟨rfl,hi,q⟩
 have hq:=hl i σ H hi q
 by_cases hlt:i<xs.length
 ·refine .inr ⟨⟨xs,xs[i],hq,by simp [hlt]⟩,Pv (i+1),fun σ' H' p'=>⟨xs.length - (i+1),by omega,rfl,hlt,p'⟩,fun v H' y=>?_⟩
  obtain ⟨T,x,hT,e1,e2,y⟩:=y
  subst e1 e2
  exact hs i x σ H T (y xs hq) q hT
 ·have e:i=xs.length:=by omega
  subst e
  exact .inl ⟨⟨xs,hq,Nat.le_refl _⟩,hd σ H q⟩
end L2
namespace L2
open PySem
def g5:Nat→Nat
 | 0=>0
 | n+1=>5 * g5 n+1
end L2
namespace L2
open PySem PySem.Spec PyProof.Rows
structure TabG (byText:Bool) (t:SetTable) (n:Nat):Prop where
 pow:∃ k,3≤k∧t.mask+1=2 ^ k
 dum:t.dummies=#[]
 plain:t.plain=true
 led:t.led=!byText
 size:t.place.size=n
 up:t.place.toList.Pairwise (·<·)
 le:∀ j ∈ t.place.toList,j≤t.mask
section
variable {byText:Bool} {t:SetTable} {n:Nat}
end
end L2
namespace L2
open PySem PySem.Spec PyProof.Rows
section
variable {mask:Nat} {owner:Array (Option Nat)}
end
structure Own (N:Nat) (L:List Nat) (owner:Array (Option Nat)):Prop where
 size:owner.size=N
 nd:L.Nodup
 lt:∀ j ∈ L,j<N
 at_:∀ (m j:Nat),L[m]?=some j→owner[j]?=some (some m)
 no:∀ j,j<N→j ∉ L→owner[j]?=some none
end L2
namespace L2
open PySem PySem.Spec PyProof.Rows
section
variable {prog:Program} {w:World} {A:Around} {E:Value→Shared→Prop} {s:Shared}
end
section
variable {prog:Program} {w:World} {A:Around} {R:Result→Shared→Prop} {I:Addr} {fp wr:List Addr} {G:Array GenState→Array GenState→Prop} {n:Nat} {P:Nat→Value→Prop} {St:Nat→Shared→Prop}
end
section
variable {prog:Program} {w:World} {A:Around} {E:Value→Shared→Prop} {s:Shared}
end
section
variable {prog:Program} {w:World} {A:Around} {E:Value→Shared→Prop} {s:Shared} {a I:Addr} {es:Array (Int × Value)} {ep:Nat} {t:SetTable} {i:Nat}
end
section
variable {X:Cx}
end
end L2
namespace L2
open PySem PySem.Spec PyProof.Rows
section
variable {X:Cx}
end
section
variable {prog:Program} {w:World} {A:Around} {E:Value→Shared→Prop} {s:Shared}
end
section
variable {X:Cx}
end
end L2
namespace L2
open PySem PySem.Spec PyProof.Rows
structure Ex (B:Heap) (l:List Env) (e:Addr) (cls:Value) (dd:Option Addr) (nt:Bool) (h:Heap):Prop where
 stays:B.StaysIn h
 new:B.get? e=none
 frames:h.FunFrames B l
 rec_:∃ (oe:Obj) (vs:Array Value) (x1:Value),h.get? e=some oe∧oe.cls=cls∧oe.dict=dd∧oe.data=.fields vs∧vs[1]?=some x1∧
  ((x1=.none∧nt=false)∨∃ (T:Addr) (oT:Obj) (ts:Array Value) (x3:Value),x1=.ref T∧B.get? T=none∧T ≠ e∧h.get? T=some oT∧oT.data=.fields ts∧ts[3]?=some x3)
section
variable {M:Model} {A:Around} {E:Value→Shared→Prop} {s:Shared} {B:Heap} {env:Env} {outer l:List Env} {L e:Addr} {cls:Value} {dd:Option Addr} {nt:Bool} {Q:Unit→Shared→Prop}
end
end L2
namespace L2
open PySem PySem.Spec PyProof.Rows
def Kp (outer:List Env) (H':Hp) (h0:Heap) (b:Addr):Prop:=(∃ o,H' b=some o)∨((∃ o,h0.get? b=some o)∧b ∉ frs outer)
structure XD (P:Program) (w:World) (outer l:List Env) (H:Hp) (h0:Heap) (e:Addr) (cls:Value) (dd:Option Addr) (H':Hp) (B:Heap) (nt:Bool) (h:Heap):Prop where
 un:Un (frs outer) [] H H' h0 h
 hok:HOk P w H' h
 ex:Ex B l e cls dd nt h
 kp:∀ b o,h.get? b=some o→Kp outer H' h0 b→B.get? b=some o
 ne:H' e=none
 ge:h0.objs.size≤e
def XP (X:Cx) (G:XK) (ev:Value) (s':Shared):Prop:=X.A.frames=some X.stack∧∃ (e:Addr) (cls:Value) (dd:Option Addr) (H':Hp) (B:Heap) (nt:Bool),ev=.ref e∧s'.os=X.s₀.os∧AllBare s'.gens∧XD X.prog X.w X.outer X.stack X.H₀ X.s₀.heap e cls dd H' B nt s'.heap∧G cls dd H'
section
variable {X:Cx} {E:XK} {G:XK} {pins:List (Addr × Obj)} {σ:St} {H:Hp} {s s':Shared}
end
section
variable {P:Program} {w:World} {K:PySem.W.Frag} {mg:Str→Option Value} {base:Heap}
end
end L2
namespace L2
open PySem PySem.Spec PyProof.Rows
section
variable {X:Cx} {pins:List (Addr × Obj)} {σ:St} {H:Hp} {s:Shared} {ev:Value}
end
section
variable {X:Cx}
def Ends.off (D:Ends):Option Nat→Ends
 | none=>D
 | some j=>{ nx:=fun σ H=>D.nx (σ.set j none) H,rt:=D.rt,bk:=fun σ H=>D.bk (σ.set j none) H,ct:=fun σ H=>D.ct (σ.set j none) H }
end
end L2
namespace L2
open PySem PySem.Spec PyProof.Rows
def bmV:List Value:=[.type "ValueError",.type "Exception",.type "BaseException",.type "object"]
def xcIn (K:PySem.W.Frag) (C:Addr) (init:Option Value):Bool:=match K.lookup C with
 | some ⟨.type "type",_,.cls cd,sl⟩=>(match cd.mro,sl.toList with
  | .ref C'::bm,[_,_,_,_,some (.builtin n),_]=>C' == C && n == "ValueError.__new__" && !cd.hasDel && cd.hasDict && PySem.W.tailIn K bmV bm && PySem.W.nsOkIn K cd.ns && PySem.W.nsIn K cd.ns "__init__" == some init
  | _,_=>false)
 | _=>false
structure XCls (K:PySem.W.Frag) (C:Addr) (init:Option Value):Prop where
 cls:xcIn K C init=true
 set:PySem.W.findIn K (.ref C) "__setattr__" = some (some (.builtin "object.__setattr__"))
 kp:PySem.W.keepIn K (.ref C)=true
section
variable {prog:Program} {w:World} {A:Around} {E:Value→Shared→Prop} {h:Heap} {g:Array GenState} {d:Drawn} {t:Nat} {os:OsState} {K:PySem.W.Frag} {C x:Addr} {init:Option Value} {mA:Str→Option Value} {name:Str} {v:Value} {ns:List Str}
end
end L2
namespace L2
open PySem PySem.Spec PyProof.Rows
section
variable {prog:Program} {w:World} {A:Around} {R:Result→Shared→Prop} {h:Heap} {g:Array GenState} {d:Drawn} {t:Nat} {os:OsState} {K:PySem.W.Frag} {C fI:Addr} {rest:List Value}
end
section
variable {M:Model} {A:Around} {E:Value→Shared→Prop} {env:Env} {K:PySem.W.Frag} {C:Addr} {init:Option Value}
end
section
variable {X:Cx} {pins:List (Addr × Obj)} {σ:St} {H:Hp} {s:Shared}
end
section
variable {X:Cx}
end
end L2
namespace L2
open PySem PySem.Spec PyProof.Rows
structure XGet (K:PySem.W.Frag) (C:Addr):Prop where
 ga:PySem.W.findIn K (.ref C) "__getattribute__" = some (some (.builtin "BaseException.__getattribute__"))
 gt:PySem.W.findIn K (.ref C) "__getattr__" = some none
 be:PySem.W.mroIn K C (.type "BaseException")=some true
 hd:PySem.W.hasDictIn K C=true
section
variable {prog:Program} {w:World} {A:Around} {E:Value→Shared→Prop} {s:Shared} {K:PySem.W.Frag} {x C:Addr} {ox:Obj} {od:Option Obj} {name:Str} {tk:Tok}
end
structure XTy (K:PySem.W.Frag) (C:Addr):Prop extends XGet K C where
 ca:PySem.W.findIn K (.ref C) "__class__" = some (some (.builtin "object.__class__"))
 cn:PySem.W.specialIn K (.builtin "object.__class__") "__get__" = some (some (.builtin "getset_descriptor.__get__"))
 ct:PySem.W.takesIn K (.builtin "object.__class__")=some true
 cm:PySem.W.mroIn K C (.type "object")=some true
section
variable {K:PySem.W.Frag}
end
section
variable {X:Cx}
end
end L2
namespace L2
open PySem PySem.Spec PyProof.Rows
structure RoomH (k:Nat) (A:Around):Prop where
 dp:A.depth+3 * k+5<recursionLimit
 un:A.units+16 * k+200<cLine
structure FnOkH (P:Program) (w:World) (K:PySem.W.Frag) (mg:Str→Option Value) (base:Heap) (CX:CXT) (k:Nat) (f:Addr) (fd:FuncData) (ps:List Str) (sp:Sp):Prop where
 len:∀ vs H Q E,sp vs H Q E→vs.length=ps.length
 run:∀ (A:Around) (outer:List Env) (s:Shared) (H:Hp) (args:Args) (us:List Value) (vs:List V) (Q:VK) (E:XK),RoomH k A→Env0 P w K mg base A outer s H→BindsTo s fd args (ps.zip us)→Vals vs us→sp vs H Q E→
  codeAny (model P w) A (.call (.ref f) args) (CR CX outer P w H s Q E) s
section
variable {P:Program} {w:World} {K:PySem.W.Frag} {mg:Str→Option Value} {base:Heap}
end
section
variable {X:Cx} {CX:CXT} {k:Nat} {f C:Addr} {fd:FuncData} {ps:List Str} {sp:Sp} {dvs:List V} {ds:List Value} {E:XK} {x m:Str} {p pos apos:Pos} {e o:Expr} {es:List Expr} {ta:TE} {t:TA}
end
end L2
namespace L2
open PySem PySem.Spec PyProof.Rows
section
variable {X:Cx}
end
end L2
namespace L2
open PySem PySem.Spec PyProof.Rows
section
variable {prog:Program} {w:World} {A:Around} {E:Value→Shared→Prop} {s:Shared}
end
end L2
namespace L2
open PySem PySem.Spec PyProof.Rows
section
variable {X:Cx}
theorem qRR (hc:X.calm=true):qFC X (.builtin "sum") (fun xs H Q=>∃ (p:Addr) (ns:List Int),xs=[.ref p]∧SqL X.K H p (ns.map V.int)∧Q (.int ns.sum) H):=by
 intro pins s σ H xs us Q I r h
 obtain ⟨p,ns,rfl,hq,q⟩:=h
 obtain ⟨u,rfl,rx⟩:=qEY r
 cases rx
 obtain ⟨its,rv,pl,hz⟩:=I.list hq
 have hi:=qC6 rv
 obtain ⟨xs,hx⟩:=hi.allInts.items
 have hl':s.heap.IsList p (intItems xs):=hx ▸ pl.isList
 refine sum_intListG (I.ok.hd hc) hl' fun h' tk t' hk=>?_
 have e1:ns=xs.toList.map (·.1):=by
  rw [← nums_intItems,← hx]
  exact (show numsOf its.toArray.toList=ns from hi.numsOf).symm
 have e2:preSum (numAt xs) xs.size=ns.sum:=by
  rw [preSum_eq,List.take_of_length_le (by simp),e1]
 rw [e2]
 exact ⟨.int ns.sum,H,I.kept fun b o e=>hk b o e,⟨_,rfl⟩,q⟩
end
end L2
namespace L2
open PySem PySem.Spec PyProof.Rows
section
variable {X:Cx}
end
end L2
namespace L2
open PySem PySem.Spec PyProof.Rows
structure LcScopeO (X:Cx) (scope:Scope) (own:List Str) (fv:List Nat):Prop where
 kind:scope.kind=.function
 names:∀ y ∈ scope.names,y.2=.local→scope.names.lookup y.1=some .local
 cells:∀ y ∈ scope.names,y.2=.cell→scope.names.lookup y.1=some .cell
 frees:∀ y ∈ scope.names,y.2=.free→scope.names.lookup y.1=some .free
 free:∀ y ∈ scope.names,y.2=.free→X.env.kindOf y.1=some .cell∨X.env.kindOf y.1=some .free
 nd:(own++fv.map fun i=>X.N.getD i Str.empty).Nodup
 fvs:∀ i ∈ fv,i<X.N.length∧scope.names.lookup (X.N.getD i Str.empty)=some .free
 owns:∀ x ∈ own,scope.names.lookup x=some .local∨scope.names.lookup x=some .cell
section
variable {X:Cx} {pins:List (Addr × Obj)} {σ:St} {H:Hp} {s:Shared}
end
section
variable {X:Cx} {tg iter elt:Expr} {ifs:List Expr} {scope:Scope} {pos:Pos} {own:List Str} {fv:List Nat} {wi:TI} {g:TG} {tc:TT} {te:TE}
end
end L2
namespace L2
open PySem PySem.Spec PyProof.Rows
section
variable {prog:Program} {w:World} {A:Around} {R:Result→Shared→Prop} {I:Addr} {fp wr:List Addr} {n:Nat} {P:Nat→Value→Prop} {St:Nat→Heap→Prop}
end
section
variable {prog:Program} {w:World} {A:Around} {E:Value→Shared→Prop} {s:Shared}
end
section
variable {X:Cx}
end
end L2
namespace L2
open PySem PySem.Spec PyProof.Rows
theorem qXT:bootBuiltins "sum" = some (.builtin "sum"):=by decide +kernel
section
variable {X:Cx}
end
end L2
namespace L2
open PySem PySem.Spec PyProof.Rows
section
variable {prog:Program} {w:World} {A:Around} {E:Value→Shared→Prop} {s:Shared}
end
section
variable {prog:Program} {w:World} {A:Around} {E:Value→Shared→Prop} {s:Shared}
end
section
variable {X:Cx}
end
end L2
namespace L2
open PySem PySem.Spec PyProof.Rows
section
variable {X:Cx}
def qY8:V→List V→Hp→VK→Prop:=fun x vs H Q=>∃ (l:Addr) (zs:List Int) (y:Int) (j:Nat),x=.ref l∧vs=[.int y]∧H l=some (.lst (zs.map V.int))∧zs[j]?=some y∧(∀ i,i<j→zs[i]? ≠ some y)∧Q .non (upd H l (.lst ((zs.eraseIdx j).map V.int)))
theorem qU0:MtM X "list.remove" qY8:=by
 intro pins s σ H x vs v us Q I rx rv h
 obtain ⟨l,zs,y,j,rfl,rfl,hH,hj,hn,q⟩:=h
 cases rx
 obtain ⟨u,rfl,ru⟩:=rv.one
 obtain ⟨t,rfl⟩:=ru
 obtain ⟨z,its,n,r,hl,e⟩:=I.lstM hH
 have hlen:=r.length
 rw [List.length_map] at hlen
 have hj1:j<zs.length:=(List.getElem?_eq_some_iff.mp hj).1
 have hjs:j<its.toArray.size:=by simp;omega
 have isz:∀ (m:Nat) (hm:m<its.toArray.size),∃ (k:Int) (tk:Tok),its.toArray[m]=.int k tk∧zs[m]?=some k:=by
  intro m hm
  have hm':m<zs.length:=by simp at hm;omega
  obtain ⟨u,eu,tk,ru⟩:=r.get (i:=m) (x:=.int zs[m]) (by rw [List.getElem?_map,List.getElem?_eq_getElem hm'];rfl)
  refine ⟨zs[m],tk,?_,List.getElem?_eq_getElem hm'⟩
  rw [List.getElem_toArray,← ru]
  exact (List.getElem?_eq_some_iff.mp eu).2
 let ev:Value→Bool:=fun v=>match v with | .int k _=>k == y | _=>false
 refine call_meets F.slot_list_remove ⟨_,e,rfl⟩ F.entry_list_remove (F.args_list_remove_2 _ _) (MeetsSeq.list_remove l its.toArray n (.int y t) ev (fun v hv=>?_) j hjs ?_ (fun m hm hlt=>?_) (by rw [List.size_toArray,← hl];exact z)) ⟨e,?_⟩
 ·obtain ⟨m,hm,em⟩:=Array.getElem_of_mem hv
  obtain ⟨k,tk,e1,e2⟩:=isz m hm
  rw [← em,e1]
  exact MeetsSeq.EqGives.int k y tk t
 ·obtain ⟨k,tk,e1,e2⟩:=isz j hjs
  rw [e1]
  rw [hj] at e2
  cases e2
  exact beq_self_eq_true _
 ·obtain ⟨k,tk,e1,e2⟩:=isz m hm
  rw [e1]
  have:k ≠ y:=fun z=>hn m hlt (by rw [e2,z])
  show (k == y)=false
  simpa using this
 ·have er:((zs.map V.int).eraseIdx j)=(zs.eraseIdx j).map V.int:=by rw [List.eraseIdx_eq_take_drop_succ,List.eraseIdx_eq_take_drop_succ,List.map_append,List.map_take,List.map_drop]
  rw [← er] at q
  refine ⟨.non,_,I.lset (its':=its.eraseIdx j) hH e ?_ (r.eraseIdx j) ?_,rfl,q⟩
  ·show its.toArray.eraseIdxIfInBounds j=(its.eraseIdx j).toArray
   rw [List.eraseIdxIfInBounds_toArray]
  ·have:=qO5 (zs.map V.int) j
   omega
end
end L2
namespace HT
open PySem PySem.Spec PyProof.Rows
section
variable {prog:Program} {w:World} {A:Around} {E:Value→Shared→Prop} {s:Shared}
end
end HT
namespace L2
open PySem PySem.Spec PyProof.Rows
section
variable {X:Cx}
end
section
variable {A:Around} {s:Shared}
end
section
variable {X:Cx}
end
end L2
namespace L2
open PySem PySem.Spec PyProof.Rows
section
variable {X:Cx}
end
end L2
namespace L2
open PySem PySem.Spec PyProof.Rows
section
variable {X:Cx} {e:Expr} {te:TE} {st:Option Expr} {tst:TO} {pos p2:Pos}
end
end L2
namespace L2
open PySem PySem.Spec PyProof.Rows
section
variable {X:Cx}
end
end L2
namespace L2
open PySem PySem.Spec PyProof.Rows
section
variable {prog:Program} {w:World} {A:Around} {E:Value→Shared→Prop} {s:Shared}
theorem qWI:∀ {vs us:List Value} {ns ms:List Int},IntsAre vs ns→IntsAre us ms→IntsAre (vs++us) (ns++ms):=by
 intro vs us ns ms h k
 induction h with
 | nil=>exact k
 | cons n t _ ih=>exact .cons n t ih
theorem qWH:∀ {vs:List Value} {ns:List Int},IntsAre vs ns→IntsAre vs.reverse ns.reverse:=by
 intro vs ns h
 induction h with
 | nil=>exact .nil
 | cons n t _ ih=>rw [List.reverse_cons,List.reverse_cons];exact qWI ih (.cons n t .nil)
theorem qS2 {a:Addr} {vs:List Value} {ns:List Int} {n:Nat} {P:Fin→Shared→Prop} (e0:s.heap.get? a=some (seqObj "list" vs.toArray n)) (ia:IntsAre vs ns) (hs:vs.length<64) (hz:vs.length≤sizeLine)
  (h:∀ (out:Array Value) (zs:List Int),IntsAre out.toList zs→zs.Perm ns→zs.Pairwise (· ≥ ·)→P (.done (.ret .none)) { s with heap:=sortedHeap s.heap a vs out }):wpAny (model prog w) A (Builtin.«list.sort» ⟨[.ref a],[(Str.ofString "reverse",.bool true)]⟩) P E s:=by
 have la:=Heap.lt_size e0
 have z0:vs.toArray.size≤sizeLine:=by simpa using hz
 unfold Builtin.«list.sort»
 dsimp only
 rw [if_neg (show ¬ ([]:List Value).length+[(Str.ofString "reverse",Value.bool true)].length > 2 by decide)]
 rw [if_neg (show ¬ (!([]:List Value).isEmpty)=true by decide)]
 have k1:List.lookup (Str.ofString "key") [(Str.ofString "reverse",Value.bool true)]=none:=by kernel_rfl
 have k2:List.lookup (Str.ofString "reverse") [(Str.ofString "reverse",Value.bool true)]=some (.bool true):=by kernel_rfl
 have k3:((Str.ofString "reverse" : Str) != Str.ofString "key" && (Str.ofString "reverse" : Str) != Str.ofString "reverse")=false:=by kernel_rfl
 have k4:(Value.none != Value.none)=false:=by kernel_rfl
 simp only [k1,k2,k3,Option.getD_none,k4,Bool.false_eq_true,if_false,List.forIn_cons,List.forIn_nil,pure_bind]
 refine wpAny_bind (wpAny_truthy_bool ?_)
 simp only [if_true]
 refine wpAny_bind (listItems_at e0 rfl (wpAny_bind (listUpdate_at e0 rfl ?_ z0 (Nat.zero_le _))))
 have e1:∃ k,(s.heap.update a (Obj.mapSeq fun _=>#[])).get? a=some (seqObj "list" #[] k):=⟨_,get?_update_seq e0 fun _=>#[]⟩
 obtain ⟨k,e1⟩:=e1
 refine wpAny_bind (seqEpoch_at e1 rfl (wpAny_bind (wpAny_newTuple ?_ (by simpa using hz))))
 refine wpAny_bind (wpAny_newList (wpAny_holding ?_))
 have e2:(((s.heap.update a (Obj.mapSeq fun _=>#[])).push (seqObj "tuple" vs.toArray 0)).push (seqObj "list" #[] 0)).get? a=some (seqObj "list" #[] k):=by
  rw [Heap.get?_push_ne,Heap.get?_push_ne]
  ·exact e1
  ·rw [Heap.size_update]
   exact Nat.ne_of_lt la
  ·rw [size_push',Heap.size_update]
   exact Nat.ne_of_lt (Nat.lt_succ_of_lt la)
 have last:∀ xs:Array Keyed,xs.Perm (pairsOf vs)→SortedTo xs (pairsOf vs).size→P (.done (.ret .none)) { s with heap:=sortedHeap s.heap a vs (xs.map (·.2)).reverse }:=by
  intro xs px sx
  obtain ⟨zs,q1,q2,q3⟩:=sorted_out ia px sx
  refine h _ zs.reverse ?_ ((List.reverse_perm _).trans q2) (List.pairwise_reverse.mpr q3)
  rw [Array.toList_reverse]
  exact qWH q1
 have sz:∀ xs:Array Keyed,xs.Perm (pairsOf vs)→(xs.map (·.2)).reverse.size≤sizeLine+1:=by
  intro xs px
  rw [Array.size_reverse,Array.size_map,px.size_eq,pairsOf_size]
  omega
 refine wpAny_bind (wpAny_rule ?_)
 show wpAny _ A _ P E { s with heap:=((s.heap.update a (Obj.mapSeq fun _=>#[])).push (seqObj "tuple" vs.toArray 0)).push (seqObj "list" #[] 0) }
 have pr:(pairsOf vs).reverse.Perm (pairsOf vs):=Array.perm_iff_toList_perm.mpr (by rw [Array.toList_reverse];exact List.reverse_perm _)
 by_cases few:vs.toArray.size<2
 ·simp only [if_pos few]
  rw [StateT.run_pure]
  refine wpAny_bind (wpAny_pure (wpAny_bind (seqEpoch_at e2 rfl (wpAny_bind (listUpdate_at e2 rfl ?_ (Nat.zero_le _) (sz (pairsOf vs).reverse pr))))))
  simp only [bne_self_eq_false,Bool.false_eq_true,if_false]
  refine wpAny_pure (last (pairsOf vs).reverse pr fun i j hij hj=>?_)
  rw [pairsOf_size] at hj
  rw [List.size_toArray] at few
  rw [show i=j by omega]
  exact Int.le_refl _
 ·simp only [if_neg few]
  have kk:keyKind' vs.toArray=pure oneType':=by
   match vs,few,ia with
   | [],few,_=>exact absurd (by simp) few
   | [_],few,_=>exact absurd (by simp) few
   | _::_::_,_,ia=>exact keyKind_ints ia
  letI:G.NM:=⟨numOf,fun v=>∃ n t,v=.int n t⟩
  haveI:G.LtOk prog w A { s with heap:=((s.heap.update a (Obj.mapSeq fun _=>#[])).push (seqObj "tuple" vs.toArray 0)).push (seqObj "list" #[] 0) } oneType':=⟨fun {x y Q E} hx hy h=>by
   obtain ⟨n,t,rfl⟩:=hx
   obtain ⟨m,u,rfl⟩:=hy
   rw [keyLt'_oneType]
   exact oneLt_int h⟩
  refine wpAny_bind (wpAny_of_eq kk (wpAny_bind (wpAny_mono (G.gwpS_runs (κ0:=oneType') (a₀:=pairsOf vs) (Q:=fun _ st2=>G.gSG oneType' (pairsOf vs) st2∧G.gSortedTo (arrOf st2) (pairsOf vs).size) (by simpa [pairsOf] using hs) ia.intKeys ⟨pr,rfl,rfl⟩ rfl fun st2 g u=>⟨g,u⟩) ?_ fun _ _ x=>x)))
  rintro ⟨_,st2⟩ s2 ⟨es,g,u⟩
  cases (show s2=_ from es)
  refine wpAny_bind (seqEpoch_at e2 rfl (wpAny_bind (listUpdate_at e2 rfl ?_ (Nat.zero_le _) (sz _ g.perm))))
  have gf:failedOf st2=none:=g.failed
  dsimp only
  split
  ·rename_i e he
   have:failedOf st2=some e:=he
   rw [gf] at this
   cases this
  ·simp only [bne_self_eq_false,Bool.false_eq_true,if_false]
   exact wpAny_pure (last _ g.perm u)
end
section
variable {X:Cx}
theorem qKG (a:Value):argsOk "list.sort" ⟨[a],[(Str.ofString "reverse",.bool true)]⟩:=by unfold argsOk;kernel_rfl
theorem qTE {pins:List (Addr × Obj)} {s:Shared} {σ:St} {H:Hp} {Q:VK} {A:Around} {E:Value→Shared→Prop} {ns:List Int} {D:Addr} (I:Inv X pins σ (upd H D (.lst (ns.map V.int))) s) (hs:ns.length<64)
  (q:∀ zs:List Int,zs.Perm ns→zs.Pairwise (· ≥ ·)→Q (.ref D) (upd H D (.lst (zs.map V.int)))) :
  wpAny (model X.prog X.w) A (call (.builtin "list.sort") [.ref D] [(Str.ofString "reverse",.bool true)]) (fun _ s'=>EP X pins σ Q (.ref D) s') E s:=by
 obtain ⟨z,its,n,rv,hl,e⟩:=I.lstM qA1
 have ia:=qC6 rv
 have hlen:=rv.length
 refine wpAny_call_entry_kw slot_list_sort ⟨_,e,rfl⟩ entry_list_sort (qS2 (ns:=ns) (n:=n) e ia (by rw [← hlen,List.length_map];exact hs) (by rw [← hlen];exact z) fun out zs a1 a2 a3=>⟨_,rfl,?_⟩) (qKG _)
 obtain ⟨e2,hat⟩:=sortedHeap_at (vs:=its) (out:=out) e
 refine ⟨.ref D,upd H D (.lst (zs.map V.int)),?_,rfl,q zs a2 a3⟩
 have hu:upd (upd H D (.lst (ns.map V.int))) D (.lst (zs.map V.int))=upd H D (.lst (zs.map V.int)):=qLS
 rw [← hu]
 refine I.write (x:=D) (e:=D) (t':=s.toks) (by rw [qA1];exact trivial) (.inl rfl) (fun b u hb hbu=>?_) ⟨_,hat⟩ ?_
 ·rw [sortedHeap_old hb (Heap.lt_size hbu)];exact hbu
 ·refine ⟨?_,out.toList,e2,qFE a1,by simpa using hat⟩
  rw [List.length_map,a2.length_eq,← List.length_map (f:=V.int)]
  exact z
theorem qPB (a d:Value):argsOk "sorted" ⟨[a],[(Str.ofString "reverse",d)]⟩:=by unfold argsOk;kernel_rfl
def qZI (K:PySem.W.Frag) (t tk:TA):TE:=fun σ H Q=>t σ H fun vs H1=>tk σ H1 fun ws H2=>∃ p ns,vs=[.ref p]∧ws=[.bl true]∧SqL K H2 p (ns.map V.int)∧ns.length<64∧∀ (a:Addr) (zs:List Int),H2 a=none→zs.Perm ns→zs.Pairwise (· ≥ ·)→Q (.ref a) (upd H2 a (.lst (zs.map V.int)))
theorem qVY {e d:Expr} {t tk:TA} {p pos kpos:Pos} (hc:X.calm=true) (hg:Gl X "sorted") (hm:X.mg "sorted" = none) (hv:bootBuiltins "sorted" = some (.builtin "sorted")) (ha:PA X [e] t) (hd:PK X [⟨some "reverse",d,kpos⟩] tk)
  (hs:starEach [e] X.env=[(false,eval e X.env)]:=by rfl):PE X (.Call (.Name "sorted" p) [e] [⟨some "reverse",d,kpos⟩] pos) (qZI X.K t tk):=by
 intro pins s σ H Q I h
 refine wpAny_Call_Name_kw (qGK I hg hm hv ?_ (by decide) (by decide))
 refine PyProof.Rows.callWith_kw (thn (ha pos pins s σ H _ I h) fun us s1 ⟨vs,H1,I1,r1,q1⟩=>?_) (by rw [hs];rfl) (by rw [hs];rfl)
 refine thn (hd pos pins s1 σ H1 _ I1 q1) fun ws s2 ⟨zs,H2,I2,rz,q2⟩=>?_
 obtain ⟨p,ns,rfl,rfl,hq,hs64,q⟩:=q2
 obtain ⟨u,rfl,rx⟩:=qEY r1
 cases rx
 obtain ⟨u2,rfl,ry⟩:=qEY rz
 cases ry
 refine call_function_entry_kw kind_sorted plain_sorted entry_sorted (qPB _ _) ?_
 unfold Builtin.«sorted»
 refine wpAny_bind (m:=checkCount "sorted" 1 1 _) (wpAny_pure ?_)
 have fin:∀ (s1:Shared) (vs:List Value),Inv X pins σ H2 s1→IntsAre vs ns→ns.length≤sizeLine→wpAny (model X.prog X.w) X.A.in1 (do
   let l ← newList vs
   let _ ← holding [l] (call (.builtin "list.sort") [l] [(Str.ofString "reverse",.bool true)])
   ret l) (fun fin s'=>∃ r,fin=.done (.ret r)∧EP X pins σ Q r s') X.xe s1:=by
  intro s1 vs I1 hv hz
  have hlen:=IntsAre.length hv
  refine wpAny_bind (wpAny_newList ?_ (by rw [hlen];exact hz))
  have hf:=I1.hok.fresh (Nat.le_refl s1.heap.objs.size)
  refine wpAny_bind (wpAny_holding (wpAny_mono (qTE (E:=X.xe) (qLB I1 hv hz) hs64 fun zs a b=>q _ zs hf a b) (fun _ s' x=>?_) fun _ _ e=>e))
  exact wpAny_pure ⟨_,rfl,x⟩
 obtain ⟨its,rv,pl,hz⟩:=I2.list hq
 obtain ⟨o,ho,hc',n,hd⟩:=pl.isList
 have hlen:=rv.length
 refine wpAny_bind (wpAny_collect_seq p (.inl rfl) ho hc' hd (fun h' hk=>?_) (by rw [List.size_toArray,← hlen];exact hz))
 exact fin _ _ (I2.kept (t':=s2.toks) hk) (by simpa using qC6 rv) (by rw [List.length_map] at hz;exact hz)
theorem qL6 {α β:Type} {F G:α→β→Prop}:∀ {l₁:List α} {l₂:List β},Paired F l₁ l₂→(∀ a b,a ∈ l₁→F a b→G a b)→Paired G l₁ l₂:=by
 intro l₁ l₂ h f
 induction h with
 | nil=>exact .nil
 | cons r t ih=>exact .cons (f _ _ List.mem_cons_self r) (ih fun a b ha=>f a b (List.mem_cons_of_mem _ ha))
theorem Inv.laidN {pins:List (Addr × Obj)} {σ:St} {H H':Hp} {s:Shared} {h':Heap} {t':Nat} (I:Inv X pins σ H s) (k:∀ b u,s.heap.get? b=some u→h'.get? b=some u) (ext:∀ b o,H b=some o→H' b=some o)
  (new:∀ b o,H' b=some o→H b=some o∨(s.heap.objs.size≤b∧ObjOk X.prog X.w H' h' b o)):Inv X pins σ H' { s with heap:=h',toks:=t' }:=by
 refine I.un ⟨fun b u q _ _ _=>k b u q,fun b u q _ _ _=>⟨u.slots,k b u q⟩,fun b u q n _=>?_,fun b u q _=>⟨u,k b u q⟩,fun b xs q=>ext _ _ q,fun b o u q=>ext _ _ q,fun b ps q=>ext _ _ q⟩ fun b o e=>?_
 ·cases e:H' b with
  | none=>rfl
  | some o=>
   rcases new b o e with z | z
   ·rw [n] at z;cases z
   ·exact absurd (Heap.lt_size q) (Nat.not_lt.mpr z.1)
 ·rcases new b o e with z | z
  ·exact (I.hok b o z).stay (fun c v _ q=>k c v q) (fun c q=>ext _ _ q) (fun c xs q=>ext _ _ q) fun c t q=>ext _ _ q
  ·exact z.2
def qGI:List Addr→List (Key × V)→Hp→Hp
 | a::as,kv::kvs,H=>upd (qGI as kvs H) a (.tup [kV kv.1,kv.2])
 | _,_,H=>H
theorem qKW:∀ {as:List Addr} {kvs:List (Key × V)} {H:Hp} {b:Addr},b ∉ as→qGI as kvs H b=H b
 | [],_,_,_,_=>by simp [qGI]
 | a::as,[],_,_,_=>rfl
 | a::as,kv::kvs,H,b,h=>by
  show upd _ _ _ _=_
  rw [qA7 (fun z=>h (by rw [z];exact List.mem_cons_self))]
  exact qKW fun z=>h (List.mem_cons_of_mem _ z)
theorem qN6:∀ {as:List Addr} {kvs:List (Key × V)} {H:Hp} {b:Addr} {o:HO},qGI as kvs H b=some o→H b=some o∨∃ (j:Nat) (kv:Key × V),as[j]?=some b∧kvs[j]?=some kv∧o=.tup [kV kv.1,kv.2]
 | [],_,_,_,_,h=>.inl (by simpa [qGI] using h)
 | a::as,[],_,_,_,h=>.inl h
 | a::as,kv::kvs,H,b,o,h=>by
  by_cases e:b=a
  ·subst e
   have h':upd (qGI as kvs H) b (.tup [kV kv.1,kv.2]) b=some o:=h
   rw [qA1] at h'
   exact .inr ⟨0,kv,rfl,rfl,(Option.some.inj h').symm⟩
  ·have h':upd (qGI as kvs H) a (.tup [kV kv.1,kv.2]) b=some o:=h
   rw [qA7 e] at h'
   rcases qN6 h' with z | ⟨j,kv',z1,z2,z3⟩
   ·exact .inl z
   ·exact .inr ⟨j+1,kv',z1,z2,z3⟩
theorem qJF:∀ {as:List Addr} {kvs:List (Key × V)} {H:Hp},as.length=kvs.length→as.Pairwise (·<·)→Paired (fun r kv=>qGI as kvs H r=some (.tup [kV kv.1,kv.2])) as kvs
 | [],[],_,_,_=>.nil
 | [],_::_,_,h,_=>by cases h
 | _::_,[],_,h,_=>by cases h
 | a::as,kv::kvs,H,h,p=>by
  have p2:=List.pairwise_cons.mp p
  refine .cons qA1 (qL6 (qJF (H:=H) (by simpa using h) p2.2) fun r kv' hr e=>?_)
  show upd _ _ _ _=_
  rw [qA7 (Nat.ne_of_gt (p2.1 r hr))]
  exact e
def qVM (r d:Addr):HO:=.ext fun h=>h.get? r=some { cls:=.type "dict_items",data:=.fields #[.ref d] }
def qZX:V→List V→Hp→VK→Prop:=fun x vs H Q=>∃ (d:Addr) (kvs:List (Key × V)),x=.ref d∧vs=[]∧H d=some (.dK kvs)∧∀ r,H r=none→Q (.ref r) (upd H r (qVM r d))
theorem qW7:MtM X "dict.items" qZX:=by
 intro pins s σ H x vs v us Q I rx rv h
 obtain ⟨d,kvs,rfl,rfl,hH,q⟩:=h
 cases rx
 cases rv
 obtain ⟨hz,hd,ws,rel,dd⟩:=qUZ I.hok hH
 refine call_meetsIn F.slot_dict_items dd.typeIs F.entry_dict_items (F.args_dict_items_1 _) (meets_dict_items (qB1 X.prog X.w) d hd) ⟨⟨_,dd⟩,?_⟩
 refine ⟨.ref s.heap.objs.size,_,I.laid (a:=s.heap.objs.size) (o:=qVM s.heap.objs.size d) (t':=s.toks) (fun b u e=>Heap.get?_push_of_some _ e) (Nat.le_refl _) ?_,rfl,q _ (I.hok.fresh (Nat.le_refl _))⟩
 exact ⟨Heap.get?_push_size _ rfl,⟨_,Heap.get?_push_size _ rfl⟩,fun h1 h2 a b=>b _ a⟩
theorem qN3:∀ (as:List Addr),Vals (as.map V.ref) (as.map Value.ref)
 | []=>.nil
 | _::as=>.cons rfl (qN3 as)
theorem qSQ (hc:X.calm=true):qFC X (.type "list") (fun xs H Q=>∃ (r d:Addr) (kvs:List (Key × V)),xs=[.ref r]∧H r=some (qVM r d)∧H d=some (.dK kvs)∧(∀ p ∈ kvs,∃ n,p.1=Sum.inl n)∧
  ∀ l rs H',H l=none→(∀ b o,H b=some o→H' b=some o)→H' l=some (.lst (rs.map V.ref))→Paired (fun r (kv:Key × V)=>H' r=some (.tup [kV kv.1,kv.2])) rs kvs→Q (.ref l) H'):=by
 intro pins s σ H xs us Q I rr h
 obtain ⟨r,d,kvs,rfl,hr,hq,hk,q⟩:=h
 obtain ⟨u,rfl,rx⟩:=qEY rr
 cases rx
 obtain ⟨hz,hd,ws,rel,dd⟩:=qUZ I.hok hq
 have lw:ws.length=kvs.length:=rel.length.symm
 have hv:s.heap.get? r=some { cls:=.type "dict_items",data:=.fields #[.ref d] }:=(show ObjOk X.prog X.w H s.heap r (qVM r d) from I.hok r _ hr).1
 have hrl:=Heap.lt_size hv
 have hdl:d<s.heap.objs.size:=I.hok.lt hq
 refine callType_codes (Q₁:=fun obj s₁=>obj=.ref s.heap.objs.size∧s₁={ s with heap:=s.heap.push { cls:=.type "list",data:=.seq #[] } }) F.called_list (F.typeCall_list_1 _) F.entry_list_init (code_list_new _ ⟨rfl,rfl⟩) ?_
 rintro obj s₁ ⟨rfl,rfl⟩
 obtain ⟨ep,da⟩:=(dd.push { cls:=.type "list",data:=.seq #[] }).dictAt
 refine ⟨⟨_,Heap.get?_push_size _ rfl,rfl⟩,F.args_list_init_2 _ _,?_⟩
 refine PySem.W.kdx_init (A:=X.A.in1) (I.ok.hd hc) ⟨_,Heap.get?_push_of_some _ hv,rfl,rfl⟩ da s.heap.objs.size (Nat.ne_of_gt hrl) (Nat.ne_of_lt hdl) (Heap.get?_push_size _ rfl) (fun h' tk acc c as kept got la G ea=>?_) (by rw [lw];exact hz)
 refine ⟨rfl,?_⟩
 have out:s.heap.objs.size ∉ as:=fun z=>absurd (G.above _ z) (Nat.lt_irrefl _)
 have lak:as.length=kvs.length:=la.trans lw
 have fr:∀ b,s.heap.objs.size≤b→H b=none:=fun b hb=>I.hok.fresh hb
 have ext:∀ b o,H b=some o→upd (qGI as kvs H) s.heap.objs.size (.lst (as.map V.ref)) b=some o:=fun b o e=>by
  have hb:b<s.heap.objs.size:=I.hok.lt e
  rw [qA7 (Nat.ne_of_lt hb),qKW fun z=>absurd (G.above _ z) (Nat.lt_asymm hb)]
  exact e
 refine ⟨.ref s.heap.objs.size,upd (qGI as kvs H) s.heap.objs.size (.lst (as.map V.ref)),I.laidN (t':=tk) (fun b u e=>kept b u (Nat.ne_of_lt (Heap.lt_size e)) (Heap.get?_push_of_some _ e)) ext (fun b o e=>?_),rfl,q _ as _ (fr _ (Nat.le_refl _)) ext qA1 (qL6 (qJF (H:=H) lak G.rise) fun x kv hx e=>?_)⟩
 ·by_cases eb:b=s.heap.objs.size
  ·subst eb
   rw [qA1] at e
   cases e
   refine .inr ⟨Nat.le_refl _,by rw [List.length_map,lak];exact hz,as.map Value.ref,c,qN3 as,?_⟩
   rw [← ea]
   simpa using got
  ·rw [qA7 eb] at e
   rcases qN6 e with z | ⟨j,kv,z1,z2,z3⟩
   ·exact .inl z
   ·subst z3
    obtain ⟨key,k,x,e1,e2,e3⟩:=G.pairs j b z1
    have hb:=G.above b (List.mem_of_getElem? z1)
    obtain ⟨w0,ew,ek,rx⟩:=qM8 rel z2
    rw [e1] at ew
    cases ew
    obtain ⟨n,en⟩:=hk kv (List.mem_of_getElem? z2)
    refine .inr ⟨Nat.le_of_lt hb,(by show 2≤sizeLine;decide),[key,x],?_,⟨_,e3,rfl,0,rfl⟩⟩
    have ek':kv.1=k:=ek
    rw [← ek',en] at e2
    obtain ⟨t,e4⟩:=Value.isInt_shape (k:=n) (v:=key) e2
    rw [en,e4]
    exact .cons ⟨t,rfl⟩ (.cons rx .nil)
 ·rw [qA7 (show x ≠ s.heap.objs.size from fun z=>out (by rw [← z];exact hx))]
  exact e
end
end L2
namespace L2
open PySem PySem.Spec PyProof.Rows
end L2
namespace L2
open PySem PySem.Spec PyProof.Rows
section
variable {prog:Program} {w:World} {A:Around} {R:Result→Shared→Prop} {h:Heap} {g:Array GenState} {d:Drawn} {t:Nat} {os:OsState} {K:PySem.W.Frag} {C fI:Addr} {rest:List Value}
end
end L2
namespace L2
open PySem PySem.Spec PyProof.Rows
section
variable {X:Cx}
def TB:Type:=(St→XK)→TS
end
end L2
namespace L2
open PySem PySem.Spec PyProof.Rows
section
variable {prog:Program} {w:World} {A:Around} {E:Value→Shared→Prop} {s:Shared}
end
section
variable {X:Cx} {pos:Pos}
end
end L2
namespace L2
open PySem PySem.Spec PyProof.Rows
section
variable {X:Cx} {tg:Expr}
end
end L2
namespace L2
open PySem PySem.Spec PyProof.Rows
section
variable {prog:Program} {w:World} {A:Around} {E:Value→Shared→Prop} {s:Shared} {it d:Addr} {i n ep:Nat} {od:Obj} {es:Array DictEntry}
end
section
variable {X:Cx} {tg:Expr}
end
section
variable {X:Cx} {k v:Expr} {tk tv:TE} {pos:Pos}
end
end L2
namespace L2
open PySem PySem.Spec PyProof.Rows
theorem qVK {p:Pos} {a b:Int} {c cv:Value}:∀ {l:List Value},TriplesOk l→codeAmong p (l++[rawInt a,rawInt b,c])=some cv→codeAmong p l=some cv∨cv=c:=by
 intro l h e
 fun_induction TriplesOk l with
 | case1=>
  simp only [List.nil_append,rawInt,codeAmong] at e
  split at e
  ·exact .inr (Option.some.inj e).symm
  ·cases e
 | case2 a' t b' u x rest ih=>
  simp only [List.cons_append,codeAmong] at e ⊢
  split at e
  ·rename_i hc
   rw [if_pos hc]
   exact .inl e
  ·rename_i hc
   rw [if_neg hc]
   exact ih h e
 | case3 l h1 h2=>exact h.elim
def BM (mg:Str→Option Value) (h:Heap):Prop:=∃ bm ob,mg "__builtins__" = some (.ref bm)∧bm ≠ builtinsNs∧h.get? bm=some ob∧ob.cls=.type "module"∧ob.dict=some builtinsNs∧ob.data=.plain
section
variable {X:Cx} {pins:List (Addr × Obj)} {σ:St} {H:Hp} {s:Shared}
abbrev lamO (X:Cx) (q:Str) (params:Arguments) (body:Expr) (scope:Scope) (cc:Addr) (ctv:Value):Obj:=
 { cls:=.type "function",data:=.func (PySem.W.kla_fn "<lambda>" q params body scope (qHY X.env scope.names []) ((X.mg "__name__").getD .none) (.ref cc) ctv) }
theorem qaU {params:Arguments} {body:Expr} {scope:Scope} {pos:Pos} {c P:Addr} {q:Str} {Q:Value→Shared→Prop} {E:Value→Shared→Prop}
  (I:Inv X pins σ H s) (hb:BM X.mg X.base) (hcode:X.env.code=.ref c) (C:PySem.W.CodeHd X.base c P) (hP:H P=some (.tbl (.tab q))) (hq:X.env.qual ++ "<lambda>" = q)
  (hfr:∀ x,(x,NameKind.free) ∈ scope.names→∃ c,X.env.cells.lookup x=some c) (hdef:defaultsOf params X.env=([],[]))
  (h:∀ (f cc:Addr) (ctv:Value) (s':Shared) (H':Hp),Inv X pins σ H' s'→(∀ b o,H b=some o→H' b=some o)→H' cc=some (.tbl (.cod q))→
   s'.heap.get? f=some (lamO X q params body scope cc ctv)→s.heap.objs.size≤f→H' f=none→Q (.ref f) s') :
  wpAny (model X.prog X.w) X.A (eval (.Lambda params body scope pos) X.env) Q E s:=by
 obtain ⟨more,hPo,tr,ent⟩:=(show ObjOk X.prog X.w H s.heap P (.tbl (.tab q)) from I.hok P _ hP)
 have hg:s.heap.Ns mainGlobals X.mg:=I.ok.mod.glob.keeps I.bk
 have nP:∀ b o,X.base.get? b=some o→b ≠ P:=fun b o e z=>by
  have:=(I.bs b o e).2
  rw [z,hP] at this
  cases this
 have hgP:mainGlobals ≠ P:=by
  obtain ⟨o,es,ep,e,_⟩:=I.ok.mod.glob
  exact nP _ _ e
 have hbP:s.heap.BuiltinsAt X.mg P:=by
  obtain ⟨bm,ob,b1,b2,b3,b4,b5,b6⟩:=hb
  refine ⟨bm,ob,b1,b2,?_,nP _ _ b3,I.bk _ _ b3,b4,b5,b6⟩
  rintro rfl
  obtain ⟨o,es,ep,e,hd,_⟩:=I.ok.mod.glob
  rw [e] at b3
  cases b3
  rw [hd] at b6
  cases b6
 refine PySem.W.kla_eval hdef ?_
 rw [hq]
 cases hca:codeAmong pos more.toList with
 | some cv=>
  obtain ⟨cc,rfl,hcc⟩:=ent pos cv hca
  refine PySem.W.kla_makeFunctionHit (qIC hfr) I.ok.glob hg hcode (C.keeps I.bk) hPo tr hca hbP fun ctv h' tk hk hsz=>?_
  exact h h'.objs.size cc ctv _ H (I.kept (t':=tk) fun b u e=>Heap.get?_push_of_some _ (hk b u e)) (fun _ _ z=>z) hcc (Heap.get?_push_size _ rfl) hsz (I.hok.fresh hsz)
 | none=>
  refine PySem.W.kla_makeFunction (qIC hfr) I.ok.glob hg hcode (C.keeps I.bk) hPo tr hca hgP hbP fun c' ctv h' tk hx hge hlt hrec htb=>?_
  have hc0:H c'=none:=I.hok.fresh hge
  have up:∀ b o,H b=some o→(upd H c' (.tbl (.cod q))) b=some o:=fun b o e=>by rw [qA7 (qA5 e hc0)];exact e
  have neP:∀ b,H b=none→b ≠ P:=fun b n z=>by rw [z,hP] at n;cases n
  have I':Inv X pins σ (upd H c' (.tbl (.cod q))) { s with heap:=h'.push (lamO X q params body scope c' ctv),toks:=tk }:=by
   refine I.step (g':=s.gens) (d':=s.drawn) (ch:=[]) (fun _ z=>nomatch z) (fun b o _ _ _ e n=>Heap.get?_push_of_some _ (hx b o (neP b n) e)) (fun b o _ _ _ e n=>⟨o.slots,Heap.get?_push_of_some _ (hx b o (neP b n) e)⟩)
    (fun b o _ e n=>by rw [qA7 (Nat.ne_of_lt (Nat.lt_of_lt_of_le (Heap.lt_size e) hge))];exact n) (fun b o _ e=>?_) (fun b xs e=>up _ _ e) (fun b o u e=>up _ _ e) (fun b t e=>up _ _ e) (fun m hm=>(hm.extBut hx (neP _ I.free)).push _) (fun b u e=>?_) I.bare
   ·by_cases hb':b=P
    ·exact ⟨_,Heap.get?_push_of_some _ (hb' ▸ htb)⟩
    ·exact ⟨o,Heap.get?_push_of_some _ (hx b o hb' e)⟩
   ·by_cases hbc:b=c'
    ·subst hbc
     rw [qA1] at e
     cases e
     obtain ⟨c₂,oc,vs,t,e2,hoc,r⟩:=hrec
     cases e2
     exact ⟨b,oc,vs,t,rfl,Heap.get?_push_of_some _ hoc,r⟩
    ·rw [qA7 hbc] at e
     by_cases hb':b=P
     ·subst hb'
      rw [hP] at e
      cases e
      refine ⟨_,Heap.get?_push_of_some _ htb,?_,fun pos' cv z=>?_⟩
      ·rw [Array.toList_append]
       exact TriplesOk_snoc _ _ _ _ tr
      ·rw [Array.toList_append] at z
       rcases qVK tr z with z | z
       ·obtain ⟨c2,e1,e2⟩:=ent pos' cv z
        exact ⟨c2,e1,up _ _ e2⟩
       ·exact ⟨c',z,qA1⟩
     ·refine (I.hok b u e).stay (fun c2 v hc2 z=>Heap.get?_push_of_some _ (hx c2 v ?_ z)) (fun c2 z=>up _ _ z) (fun c2 xs z=>up _ _ z) fun c2 t z=>up _ _ z
      rcases hc2 with z | z
      ·rw [z];exact hb'
      ·intro z2
       rw [z2,hP] at z
       cases z
  exact h h'.objs.size c' ctv _ _ I' up qA1 (Heap.get?_push_size _ rfl) (by omega) (by rw [qA7 (Nat.ne_of_gt hlt)];exact I.hok.fresh (by omega))
structure LmScope (X:Cx) (scope:Scope) (p:Str) (fv:List Nat):Prop where
 kind:scope.kind=.function
 co:scope.isCoroutine=false
 gen:scope.isGenerator=false
 nocell:∀ y ∈ scope.names,y.2 ≠ .cell
 par:scope.names.lookup p=some .local
 free:∀ y ∈ scope.names,y.2=.free→X.env.kindOf y.1=some .cell∨X.env.kindOf y.1=some .free
 fvs:∀ i ∈ fv,i<X.N.length∧scope.names.lookup (X.N.getD i Str.empty)=some .free
structure LmZ where
 A:Around
 f:Addr
 cd:Value
 s₀:Shared
 H₀:Hp
 rm:Room 0 A
abbrev qYO (X:Cx) (scope:Scope) (q:Str) (z:LmZ):Env:=PySem.W.envX q scope z.s₀.heap.objs.size z.f z.cd (qHY X.env scope.names [])
def lmCx (X:Cx) (scope:Scope) (p:Str) (fv:List Nat) (q:Str) (z:LmZ):Cx where
 prog:=X.prog
 w:=X.w
 K:=X.K
 mg:=X.mg
 base:=X.base
 A:=z.A.deeper (qYO X scope q z)
 N:=p::fv.map fun i=>X.N.getD i Str.empty
 s₀:=z.s₀
 H₀:=z.H₀
 env:=qYO X scope q z
 outer:=X.stack
 stack:=qYO X scope q z::X.stack
 ex:=[]
 fn:=fun _=>false
 calm:=true
 pn:=[]
 xe:=noX
theorem LmScope.fr {scope:Scope} {p:Str} {fv:List Nat} (S:LmScope X scope p fv) (I:Inv X pins σ H s):∀ x,(x,NameKind.free) ∈ scope.names→∃ c,X.env.cells.lookup x=some c:=fun x hx=>I.ok.has x (S.free _ hx rfl)
theorem qbK {scope:Scope} {p:Str} {fv:List Nat} {q:Str} {A:Around} {f:Addr} {cd:Value} (rm:Room 0 A) (I:Inv X pins σ H s) (S:LmScope X scope p fv) (hA:A.frames=some X.stack) :
  (lmCx X scope p fv q ⟨A,f,cd,s,H,rm⟩).Ok:=by
 have hfr:=S.fr I
 have sub:=qFX (env:=X.env) (names:=scope.names) (acc:=[]) hfr (fun x c z=>by simp at z)
 have noA:∀ b:Addr,b ∉ (lmCx X scope p fv q ⟨A,f,cd,s,H,rm⟩).ex:=fun b z=>absurd (show b ∈ ([]:List Addr) from z) (by simp)
 refine ⟨I.ok.mod,S.kind,rfl,rfl,Nat.le_refl _,fun x y c h1 h2=>I.ok.inj x y c (sub _ _ h1) (sub _ _ h2),fun x hx=>?_,fun x c hx=>(nomatch hx),fun _=>rm.hd,Around.frames_deeper hA,.inr ⟨rfl,rfl⟩,fun b z=>absurd z (noA b),I.bs,Nat.le_trans I.ok.bsz I.sz,fun b _ _=>noA b,fun b z=>absurd z (noA b),I.stack,I.stkFree⟩
 have hx':scope.names.lookup x=some .cell∨scope.names.lookup x=some .free:=hx
 rcases hx' with z | z
 ·exact absurd rfl (S.nocell _ (PySem.mem_of_lookup z))
 ·exact qFY (.inl (PySem.mem_of_lookup z))
def qGU (fv:List Nat) (σ:St) (x:V):St:=some x::fv.map fun i=>(σ[i]?).join
theorem qWC {scope:Scope} {p:Str} {fv:List Nat} {q:Str} {A:Around} {f:Addr} {cd:Value} {x:V} {u:Value} {h₁:Heap} {tk:Nat} (rm:Room 0 A) (I:Inv X pins σ H s) (S:LmScope X scope p fv) (hA:A.frames=some X.stack) (hx:RelV x u)
  (hns:h₁.Ns s.heap.objs.size (fun y=>[(p,u)].reverse.lookup y)) (hk:∀ b o,s.heap.get? b=some o→h₁.get? b=some o) :
  Inv (lmCx X scope p fv q ⟨A,f,cd,s,H,rm⟩) [] (qGU fv σ x) H { s with heap:=h₁,toks:=tk }:=by
 have hfr:=S.fr I
 have sub:=qFX (env:=X.env) (names:=scope.names) (acc:=[]) hfr (fun x c z=>by simp at z)
 refine ⟨qbK rm I S hA,rfl,I.bare,Un.kept hk,⟨_,hns,fun i y v h1 h2 h3=>?_⟩,fun y c e=>?_,I.hok.fresh (Nat.le_refl _),fun y c e=>I.freeC y c (sub _ _ e),fun p hp=>absurd (show p ∈ ([]:List (Addr × Obj)) from hp) (by simp),I.hok.kept hk,?_⟩
 ·have h1:(p::fv.map fun i=>X.N.getD i Str.empty)[i]?=some y:=h1
  unfold qGU at h2
  cases i with
  | zero=>
   cases h1
   cases h2
   refine ⟨u,hx,.inl ⟨S.par,?_⟩⟩
   simp
  | succ i=>
   rw [List.getElem?_cons_succ,List.getElem?_map] at h1 h2
   cases e:fv[i]? with
   | none=>rw [e] at h1;cases h1
   | some j=>
    rw [e] at h1 h2
    have hj:=S.fvs j (List.mem_of_getElem? e)
    have h1:X.N.getD j Str.empty=y:=Option.some.inj h1
    have h2:(σ[j]?).join=some v:=Option.some.inj h2
    have h2':σ[j]?=some (some v):=by
     cases q:σ[j]? with
     | none=>rw [q] at h2;cases h2
     | some y=>rw [q] at h2;exact congrArg some h2
    have hxn:X.N[j]?=some y:=by
     rw [List.getD_eq_getElem?_getD] at h1
     rw [List.getElem?_eq_getElem hj.1] at h1 ⊢
     exact congrArg some h1
    have hlk:scope.names.lookup y=some .free:=h1 ▸ hj.2
    have hmem:=PySem.mem_of_lookup hlk
    obtain ⟨m,hn,hl⟩:=id I.loc
    have hkd:=S.free _ hmem rfl
    obtain ⟨u,ru,lk⟩:=hl j y v hxn h2' (by
     rcases hkd with z | z
     ·exact .inr (.inl z)
     ·exact .inr (.inr z))
    refine ⟨u,ru,?_⟩
    rcases lk with ⟨z,_⟩ | ⟨_,c,e1,z⟩
    ·rcases hkd with y' | y'
     ·have y':X.env.kindOf y=some .cell:=y'
      rw [z] at y';cases y'
     ·have y':X.env.kindOf y=some .free:=y'
      rw [z] at y';cases y'
    ·obtain ⟨c',e2⟩:=qFY (env:=X.env) (names:=scope.names) (acc:=[]) (x:=y) (.inl hmem)
     have e3:=sub _ _ e2
     rw [e1] at e3
     cases e3
     obtain ⟨o,ho,hd⟩:=z
     exact .inr ⟨.inr hlk,c,e2,o,hk _ _ ho,hd⟩
 ·obtain ⟨v,o,ho,hd⟩:=I.cell y c (sub _ _ e)
  exact ⟨v,o,hk _ _ ho,hd⟩
 ·unfold qGU
  show _=(p::fv.map fun i=>X.N.getD i Str.empty).length
  simp
theorem qRG {params:Arguments} {body:Expr} {scope:Scope} {p:Str} {fv:List Nat} {q:Str} {A:Around} {f cc:Addr} {ctv u:Value} {x:V} {te:TE} {Q:VK} (rm:Room 0 A) (I:Inv X pins σ H s) (S:LmScope X scope p fv) (hA:A.frames=some X.stack)
  (hf:s.heap.get? f=some (lamO X q params body scope cc ctv)) (hcc:H cc=some (.tbl (.cod q))) (hx:RelV x u)
  (hbind:∀ (cl:List (Str × Addr)) (pm cd ct u:Value),bindArgs (PySem.W.kla_fn "<lambda>" q params body scope cl pm cd ct) ⟨[u],[]⟩=pure [(p,u)])
  (he:∀ z,PE (lmCx X scope p fv q z) body te) (h:te (qGU fv σ x) H Q) :
  codeAny (model X.prog X.w) A (.call (.ref f) ⟨[u],[]⟩) (fun r s'=>∃ v y H',r=.ok (.ret v)∧Inv X pins σ H' s'∧RelV y v∧Q y H'∧Un (frs X.stack) [] H H' s.heap s'.heap) s:=by
 have hrec:s.heap.CodeRec (.ref cc) q:=(show ObjOk X.prog X.w H s.heap cc (.tbl (.cod q)) from I.hok cc _ hcc)
 refine PySem.W.kla_callFunE rm.depth hf rfl S.co S.gen rfl hrec ?_
 rw [hbind]
 refine wpAny_pure (wpAny_newFunctionEnv S.nocell (fun y hy=>?_) (fun h₁ hns hsb=>⟨I.nolimit.fresh _ hsb,?_⟩) S.kind)
 ·rw [List.mem_singleton.mp hy];exact S.par
 have hk₁:∀ b o,s.heap.get? b=some o→h₁.get? b=some o:=fun b o e=>hsb.extBut b o (Nat.ne_of_lt (Heap.lt_size e)) (Heap.get?_push_of_some _ e)
 refine PySem.W.kla_codeExpr ?_
 have J:=qWC (q:=q) (f:=f) (cd:=.ref cc) (tk:=s.toks+[(p,u)].length) rm I S hA hx hns hk₁
 refine wpAny_mono ((he ⟨A,f,.ref cc,s,H,rm⟩) [] _ _ H Q J h) (fun v s' ⟨y,H',J',ry,qy⟩=>?_) fun _ _ z=>z.elim
 exact ⟨v,y,H',rfl,I.call' (ch:=[]) J'.os J'.base J'.hok J'.bare (fun b hb=>absurd hb (by simp)),ry,qy,J'.base⟩
end
end L2
namespace L2
open PySem PySem.Spec PyProof.Rows
abbrev Sm0 (H H':Hp):Prop:=∀ b o,H b=some o→H' b=some o
section
variable {X:Cx}
def LamF (X:Cx) (q:Str) (params:Arguments) (body:Expr) (scope:Scope) (cc:Addr) (ctv:Value) (f:Addr):HO:=.ext fun h=>h.get? f=some (lamO X q params body scope cc ctv)
def tLam (X:Cx) (P:Addr) (q:Str) (params:Arguments) (body:Expr) (scope:Scope):TE:=fun σ H Q=>H P=some (.tbl (.tab q))∧
 ∀ f cc ctv H',Sm0 H H'→H f=none→H' f=some (LamF X q params body scope cc ctv f)→H' cc=some (.tbl (.cod q))→Q (.ref f) H'
theorem qXF {params:Arguments} {body:Expr} {scope:Scope} {pos:Pos} {c P:Addr} {q:Str} {p:Str} {fv:List Nat} (hb:BM X.mg X.base) (hcode:X.env.code=.ref c) (C:PySem.W.CodeHd X.base c P) (hq:X.env.qual ++ "<lambda>" = q)
  (S:LmScope X scope p fv) (hdef:defaultsOf params X.env=([],[])):PE X (.Lambda params body scope pos) (tLam X P q params body scope):=by
 intro pins s σ H Q I ⟨hP,h⟩
 refine qaU I hb hcode C hP hq (S.fr I) hdef fun f cc ctv s' H' I' sm hcc hf hsz hn=>?_
 have hf0:H f=none:=I.hok.fresh hsz
 have ncf:cc ≠ f:=qA5 hcc hn
 -- f is tracked from now on
 have hF:X.s₀.heap.objs.size≤f:=Nat.le_trans I.sz hsz
 have I2:Inv X pins σ (upd H' f (LamF X q params body scope cc ctv f)) s':=by
  refine I'.track hn hF (Nat.ne_of_gt (Nat.lt_of_lt_of_le I.lt hsz)) (fun x c e z=>?_) (fun p hp z=>?_) ⟨hf,⟨_,hf⟩,fun h1 h2 x k=>k _ x⟩
  ·obtain ⟨v,hc⟩:=I.cell x c e
   exact absurd (Nat.lt_of_lt_of_le hc.lt (by rw [z];exact hsz)) (Nat.lt_irrefl _)
  ·exact absurd (Nat.lt_of_lt_of_le (Heap.lt_size (I.pin p hp).1) (by rw [z];exact hsz)) (Nat.lt_irrefl _)
 refine ⟨.ref f,_,I2,rfl,h f cc ctv _ (fun b o e=>?_) hf0 qA1 (by rw [qA7 ncf];exact hcc)⟩
 rw [qA7 (qA5 e hf0)]
 exact sm b o e
structure KCmp (X:Cx) (KR:Hp→V→List Int→Prop):Prop where
 mono:∀ H H' y k,Sm0 H H'→KR H y k→KR H' y k
 cmp:∀ (pins:List (Addr × Obj)) (σ:St) (s:Shared) (H:Hp) (y y':V) (u u':Value) (k k':List Int) (Q:Value→Shared→Prop) (E:Value→Shared→Prop),Inv X pins σ H s→RelV y u→RelV y' u'→KR H y k→KR H y' k'→Q (.bool (HT.lexLt k k')) s→
  wpAny (model X.prog X.w) X.A.in1 (richCompare .Lt u u') Q E s
theorem Inv.fpStk {pins:List (Addr × Obj)} {σ:St} {H:Hp} {s:Shared} {b:Addr} (I:Inv X pins σ H s) (f:FpOk X pins H b):b ∉ frs X.stack:=fun z=>by
 rcases List.mem_cons.mp (I.stkSub b z) with e | e
 ·exact f.2.1 e
 ·exact f.2.2.1 e
theorem FpOk.to {pins:List (Addr × Obj)} {H H':Hp} {b:Addr} (f:FpOk X pins H b) (h:H' b=none):FpOk X pins H' b:=⟨h,f.2⟩
structure KeyAt (X:Cx) (σ:St) (fv:List Nat) (te:TE) (KR:Hp→V→List Int→Prop) (H0:Hp) (xs:List V) (ks:List (List Int)):Prop where
 len:ks.length=xs.length
 key:∀ (i:Nat) (x:V) (k:List Int),xs[i]?=some x→ks[i]?=some k→∀ Hc,Sm0 H0 Hc→te (qGU fv σ x) Hc fun y H'=>Sm0 Hc H'∧KR H' y k
section
variable {pins:List (Addr × Obj)} {σ:St} {params:Arguments} {body:Expr} {scope:Scope} {p:Str} {fv:List Nat} {q:Str} {te:TE} {KR:Hp→V→List Int→Prop} {l f cc:Addr} {ctv:Value} {H0:Hp} {xs:List V} {ks:List (List Int)} {Q:VK}
end
end
end L2
namespace L2
open PySem PySem.Spec PyProof.Rows
def KR1 (H:Hp) (y:V) (k:List Int):Prop:=∃ r,y=.ref r∧H r=some (.tup (k.map V.int))
def hdIn (K:PySem.W.Frag) (c P:Addr):Bool:=match K.lookup c with
 | some ⟨.type n,_,.fields vs,_⟩=>decide (n = "code") && decide (c ≠ P) && (match (vs[11]?:Option Value),vs.getD 11 .none with | some (.ref a),.ref b=>decide (a=P) && decide (b=P) | _,_=>false) &&
   (match vs.getD 18 .none,vs.getD 7 .none,vs.getD 9 .none,vs.getD 10 .none with | .str _ _,.int _ _,.bool _,.int _ _=>true | _,_,_,_=>false)
 | _=>false
theorem qOU {K:PySem.W.Frag} {h:Heap} {c P:Addr} (X:K.In h) (hd:hdIn K c P=true):PySem.W.CodeHd h c P:=by
 unfold hdIn at hd
 split at hd
 ·rename_i n dd vs sl hl
  rw [Bool.and_eq_true,Bool.and_eq_true,Bool.and_eq_true] at hd
  obtain ⟨⟨⟨h1,h2⟩,h3⟩,h4⟩:=hd
  split at h3
  ·rename_i a b e1 e2
   rw [Bool.and_eq_true,decide_eq_true_eq,decide_eq_true_eq] at h3
   obtain ⟨rfl,rfl⟩:=h3
   split at h4
   ·rename_i f t fl tg inF text tt g1 g2 g3 g4
    exact ⟨_,vs,_,_,_,_,_,_,_,X _ _ hl,by rw [of_decide_eq_true h1],rfl,e1,e2,g1,g2,g3,g4,of_decide_eq_true h2⟩
   ·cases h4
  ·cases h3
 ·cases hd
section
variable {X:Cx}
end
theorem Fun.okL {P:Program} {w:World} {K:PySem.W.Frag} {mg:Str→Option Value} {base:Heap} {x qual:Str} {st:Stmt} {f:Addr} {fd:FuncData} {N ps:List Str} {k:Nat} {sp:Sp} {c:Addr} (F:Fun K x qual st f fd) (hc:fd.code=.ref c) (S:FnScope N ps (qAB st)) (len:∀ vs H Q E,sp vs H Q E→vs.length=ps.length)
  (hbody:∀ (A:Around) (outer:List Env) (s:Shared) (H:Hp) (vs:List V) (Q:VK) (E:XK),Room k (A.deeper (envOfC qual (qAB st) s.heap.objs.size f (.ref c)))→sp vs H Q E→
   ∃ t,PSs (cxOf CX0 P w K mg base N qual (qAB st) f (.ref c) A outer s H E).nox (qEN st) t∧t { nx:=fun _ H'=>Q .non H',rt:=Q } (qLX N vs) H):FnOk P w K mg base CX0 (k+1) f fd ps sp:=by
 obtain ⟨oc,od,kV,doc,pm,an,cdv,ct,osl,rfl,lk,hcd⟩:=F.ex
 have e:cdv=.ref c:=hc
 subst e
 refine qaT lk hcd S len fun A outer s H vs Q E hr hsp=>?_
 obtain ⟨t,h,q⟩:=hbody A outer s H vs Q E hr hsp
 exact ⟨t,h.nox,q⟩
def qUB (scope:Scope) (p:Str) (fv:List Nat) (osc:Scope) (N:List Str):Bool:=
 decide (scope.kind=.function) && decide (scope.isCoroutine=false) && decide (scope.isGenerator=false) && scope.names.all (fun y=>decide (y.2 ≠ .cell)) && decide (scope.names.lookup p=some .local) &&
 scope.names.all (fun y=>decide (y.2 ≠ .free) || (decide (osc.names.lookup y.1=some .cell) || decide (osc.names.lookup y.1=some .free))) && fv.all fun i=>decide (i<N.length) && decide (scope.names.lookup (N.getD i Str.empty)=some .free)
theorem lms {X:Cx} {scope:Scope} {p:Str} {fv:List Nat} (h:qUB scope p fv X.env.scope X.N=true):LmScope X scope p fv:=by
 unfold qUB at h
 simp only [Bool.and_eq_true,decide_eq_true_eq,List.all_eq_true,Bool.or_eq_true] at h
 obtain ⟨⟨⟨⟨⟨⟨h1,h2⟩,h3⟩,h4⟩,h5⟩,h6⟩,h7⟩:=h
 refine ⟨h1,h2,h3,h4,h5,fun y hy hf=>?_,h7⟩
 rcases h6 y hy with z | z
 ·exact absurd hf z
 ·exact z
structure LTab where
 x:Str
 c:Addr
 P:Addr
 q:Str
def qaY (tabs:List LTab) (H:Hp):Prop:=∀ t ∈ tabs,H t.P=some (.tbl (.tab t.q))
def entH (a:Addr) (o:Obj) (xs:List V) (ina:Bool) (tabs:List LTab):Hp:=fun b=>if ina=true∧b=a then some (.frz o (.lst xs)) else (tabs.find? fun t=>decide (t.P=b)).map fun t=>.tbl (.tab t.q)
theorem qUF {P:Program} {w:World} {K:PySem.W.Frag} {mg mb:Str→Option Value} {k:Nat} {fa a:Addr} {fd:FuncData} {x:Str} {sp:Sp} {s₁:Shared} {vs:List Value} {ns:List Int} (tabs:List LTab)
  (KX:K.In s₁.heap) (hns:s₁.heap.Ns mainGlobals mg) (hb:s₁.heap.Ns builtinsNs mb) (hbb:∀ x:Str,x ≠ "__name__"→mb x=bootBuiltins x) (hlim:s₁.heap.NoLimit) (hg:s₁.gens=#[])
  (ha:s₁.heap.get? a=some { cls:=.type "list",data:=.seq vs.toArray }) (hi:IntsAre vs ns) (hl:ns.length≤sizeLine) (hr:Room k callerA) (hbm:BM mg s₁.heap)
  (htab:∀ t ∈ tabs,PySem.W.CodeHd s₁.heap t.c t.P∧s₁.heap.get? t.P=some (PySem.W.tabObj #[])) (hK:PySem.W.noTabs K=true) (hone:∀ t ∈ tabs,∀ t' ∈ tabs,t.P=t'.P→t.q=t'.q)
  (F:∀ base:Heap,K.In base→base.Ns mainGlobals mg→BM mg base→FnOk P w K mg base CX0 k fa fd [x] sp) (hbind:∀ (s:Shared) (u:Value),BindsTo s fd ⟨[u],[]⟩ [(x,u)])
  (hsp:∀ H:Hp,qaY tabs H→SqL K H a (ns.map V.int)→sp [.ref a] H (fun v _=>v=.bl true) fun _ _ _=>False) :
  codeAny (model P w) callerA (.call (.ref fa) ⟨[.ref a],[]⟩) (fun r s'=>r=.ok (.ret (.bool true))∧OldK s₁.heap s'.heap∧s'.os=s₁.os∧AllBare s'.gens) s₁:=by
 have rv:=qJD hi
 have lenV:=hi.length
 have naP:∀ t ∈ tabs,t.P ≠ a:=fun t ht z=>by
  have:=(htab t ht).2
  rw [z,ha] at this
  cases this
 have KnP:∀ t ∈ tabs,K.lookup t.P=none:=fun t ht=>by
  cases e:K.lookup t.P with
  | none=>rfl
  | some o=>
   have e2:=KX _ _ e
   rw [(htab t ht).2] at e2
   cases e2
   have h2:=List.all_eq_true.mp hK _ (PySem.W.mem_of_lookupK e)
   exact absurd (show false=true from h2) Bool.false_ne_true
 obtain ⟨ina,hina⟩:∃ ina:Bool,(ina=true ↔ K.lookup a=none):=by
  cases e:K.lookup a with
  | none=>exact ⟨true,by simp⟩
  | some o=>exact ⟨false,by simp⟩
 -- the heap's description
 let o0:Obj:={ cls:=.type "list",data:=.seq vs.toArray }
 have hdef:∀ b u,entH a o0 (ns.map V.int) ina tabs b=some u→(ina=true∧b=a∧u=.frz o0 (.lst (ns.map V.int)))∨∃ t ∈ tabs,t.P=b∧u=.tbl (.tab t.q):=fun b u e=>by
  unfold entH at e
  split at e
  ·rename_i c
   cases e
   exact .inl ⟨c.1,c.2,rfl⟩
  ·cases e2:tabs.find? (fun t=>decide (t.P=b)) with
   | none=>rw [e2] at e;cases e
   | some t=>
    rw [e2] at e
    cases e
    exact .inr ⟨t,List.mem_of_find?_eq_some e2,of_decide_eq_true (List.find?_some (p:=fun t:LTab=>decide (t.P=b)) e2),rfl⟩
 have htb:∀ t ∈ tabs,entH a o0 (ns.map V.int) ina tabs t.P=some (.tbl (.tab t.q)):=fun t ht=>by
  unfold entH
  rw [if_neg fun z=>naP t ht z.2]
  cases e2:tabs.find? (fun t'=>decide (t'.P=t.P)) with
  | none=>exact absurd (decide_eq_true (rfl:t.P=t.P)) (List.find?_eq_none.mp e2 t ht)
  | some t'=>
   have h1:=List.mem_of_find?_eq_some e2
   have h2:t'.P=t.P:=of_decide_eq_true (List.find?_some (p:=fun t':LTab=>decide (t'.P=t.P)) e2)
   rw [Option.map_some,hone t' h1 t ht h2]
 generalize hH:entH a o0 (ns.map V.int) ina tabs=H at hdef htb
 have hS:SqL K H a (ns.map V.int):=by
  cases e:K.lookup a with
  | none=>
   refine .inl (.inr ⟨o0,?_⟩)
   rw [← hH]
   unfold entH
   rw [if_pos ⟨hina.mpr e,rfl⟩]
  | some o=>
   have e2:=KX a o e
   rw [ha] at e2
   cases e2
   exact .inr ⟨_,vs.toArray,_,e,rfl,rfl,rfl,by rw [List.size_toArray,lenV];exact hl,by simpa using rv⟩
 have hok:HOk P w H s₁.heap:=fun b u e=>by
  rcases hdef b u e with ⟨_,rfl,rfl⟩ | ⟨t,ht,rfl,rfl⟩
  ·exact ⟨ha,by rw [List.length_map];exact hl,vs,_,rv,ha⟩
  ·exact ⟨#[],(htab t ht).2,trivial,fun pos cv z=>by cases z⟩
 have base_of:∀ {b:Addr} {o:Obj},s₁.heap.get? b=some o→H b=none→(hidT s₁.heap H).get? b=some o:=fun e n=>qWN e n
 have noA:∀ {b:Addr} {o:Obj},s₁.heap.get? b=some o→(∀ xs n,o.data ≠ .seq xs n)→(∀ ps,o.data ≠ .fields ps)→H b=none:=fun {b o} e d1 d2=>by
  cases q:H b with
  | none=>rfl
  | some u=>
   rcases hdef b u q with ⟨_,rfl,_⟩ | ⟨t,ht,rfl,_⟩
   ·rw [ha] at e;cases e;exact absurd rfl (d1 _ _)
   ·rw [(htab t ht).2] at e;cases e;exact absurd rfl (d2 _)
 have nsK:∀ {b:Addr} {m:Str→Option Value},s₁.heap.Ns b m→(hidT s₁.heap H).Ns b m:=fun {b m} ⟨o,es,ep,e,d,r⟩=>⟨o,es,ep,base_of e (noA e (fun _ _ z=>by rw [d] at z;cases z) fun _ z=>by rw [d] at z;cases z),d,r⟩
 have hKb:K.In (hidT s₁.heap H):=fun b o e=>base_of (KX b o e) (by
  cases q:H b with
  | none=>rfl
  | some u=>
   rcases hdef b u q with ⟨h1,rfl,_⟩ | ⟨t,ht,rfl,_⟩
   ·rw [hina.mp h1] at e;cases e
   ·rw [KnP t ht] at e;cases e)
 have hBb:BM mg (hidT s₁.heap H):=by
  obtain ⟨bm,ob,b1,b2,b3,b4,b5,b6⟩:=hbm
  exact ⟨bm,ob,b1,b2,base_of b3 (noA b3 (fun _ _ z=>by rw [b6] at z;cases z) fun _ z=>by rw [b6] at z;cases z),b4,b5,b6⟩
 have hM:Mod K mg (hidT s₁.heap H):=⟨hKb,nsK hns,⟨mb,nsK hb,hbb⟩,let ⟨mc,h1,h2⟩:=hlim;⟨mc,nsK h1,h2⟩⟩
 have e0:Env0 P w K mg (hidT s₁.heap H) callerA [] s₁ H:=⟨rfl,hM,fun b o e=>qYH e,Nat.le_of_eq (qUQ _ _),trivial,fun b hb=>absurd (show b ∈ ([]:List Addr) from hb) (by simp),hok,.of_eq hg⟩
 refine codeAny_mono ((F _ hKb (nsK hns) hBb).run callerA [] s₁ H ⟨[.ref a],[]⟩ [.ref a] [.ref a] _ _ hr e0 (hbind s₁ (.ref a)) (.cons rfl .nil) (hsp H htb hS)) fun r s' h=>?_
 cases r with
 | error e=>exact False.elim h
 | ok fl=>
  cases fl with
  | next=>exact False.elim h
  | brk=>exact False.elim h
  | cont=>exact False.elim h
  | ret u=>
   obtain ⟨v,H',os,bare,un,hok',r',q⟩:=h
   have q':v=.bl true:=q
   subst q'
   obtain rfl:u=Value.bool true:=r'
   have kept:∀ b o,s₁.heap.get? b=some o→s'.heap.get? b=some o∨∃ t ∈ tabs,t.P=b:=fun b o e=>by
    cases q:H b with
    | none=>exact .inl (un.keep b o e q (by intro z;exact absurd (show b ∈ ([]:List Addr) from z) (by simp)) (by simp))
    | some u=>
     rcases hdef b u q with ⟨_,rfl,rfl⟩ | ⟨t,ht,e1,_⟩
     ·have z2:=un.frzs b o0 _ q
      obtain ⟨e1,_⟩:=hok b _ q
      obtain ⟨e2,_⟩:=hok' b _ z2
      rw [e] at e1;cases e1
      exact .inl e2
     ·exact .inr ⟨t,ht,e1⟩
   have tabK:∀ t ∈ tabs,∃ more,s'.heap.get? t.P=some (PySem.W.tabObj more):=fun t ht=>by
    obtain ⟨more,e,_⟩:=(show ObjOk P w H' s'.heap t.P (.tbl (.tab t.q)) from hok' t.P _ (un.tbls t.P _ (htb t ht)))
    exact ⟨more,e⟩
   refine ⟨rfl,⟨fun b o e=>?_,fun b o e=>?_⟩,os,bare⟩
   ·rcases kept b o e with z | ⟨t,ht,rfl⟩
    ·exact .inl z
    ·obtain ⟨more,em⟩:=tabK t ht
     have e2:=(htab t ht).2
     rw [e] at e2
     cases e2
     exact .inr (.inl ⟨((htab t ht).1.tab (htab t ht).2).isCodeTable,rfl,#[],more,rfl,by rw [em];simp⟩)
   ·rcases kept b o e with z | ⟨t,ht,rfl⟩
    ·exact ⟨_,z⟩
    ·obtain ⟨more,em⟩:=tabK t ht
     exact ⟨_,em⟩
theorem walk_ofT {l:PySem.W.OpenLaw} {n k:Nat} {q:Program} {loose:List Str} {XP:(Str→Option Value)→Heap→Prop} {YP:World→Heap→Prop} {d:DefRec} {K:Params→PySem.W.Frag} {sp:World→Sp} {x:Str} (tabs:List LTab)
  (hn:l.most=some n) (hn2:n≤sizeLine) (hdf:d.params.defaults=[]) (hr:Room k callerA)
  (hY:∀ (w:World) (h:Heap),YP w h→(K w.params).In h)
  (hrec:∀ t ∈ tabs,((recsOf q).find? fun e=>e.name == t.x).isSome=true) (htab:∀ (w:World),∀ t ∈ tabs,PySem.W.tabIn (K w.params) t.x=some (t.c,t.P)) (hK:∀ w:World,PySem.W.noTabs (K w.params)=true) (hone:∀ t ∈ tabs,∀ t' ∈ tabs,t.P=t'.P→t.q=t'.q)
  (F:∀ (w:World) (mg:Str→Option Value) (fa:Addr) (h:Heap),(K w.params).In h→h.Ns mainGlobals mg→mg d.name=some (.ref fa)→
   ∃ fd:FuncData,(∀ (s:Shared) (u:Value),BindsTo s fd ⟨[u],[]⟩ [(x,u)])∧
    ∀ base:Heap,(K w.params).In base→base.Ns mainGlobals mg→BM mg base→FnOk l.prog w (K w.params) mg base CX0 k fa fd [x] (sp w))
  (hsp:∀ (w:World) (H:Hp) (a:Addr) (ns:List Int),ns.length≤n→qaY tabs H→SqL (K w.params) H a (ns.map V.int)→sp w [.ref a] H (fun v _=>v=.bl true) fun _ _ _=>False) :
  PySem.W.WalkO q loose XP YP l.row.toRowW d [] (fun f vs=>PySem.call f vs):=by
 refine Att.attach_call hn hdf fun w s₀ s₁ mg mb fa o pm cd doc a vs ns G Y ho hd hcd hmg hobj hints hlen hg=>?_
 have KX:=hY w _ Y
 obtain ⟨fd,hb,hF⟩:=F w mg fa _ KX G.T.g hmg
 refine qUF tabs KX G.T.g G.T.b G.T.builtins G.T.nolimit hg hobj hints (Nat.le_trans hlen hn2) hr G.T.bmain (fun t ht=>?_) (hK w) hone hF hb fun H hO hS=>hsp w H a ns hlen hO hS
 obtain ⟨dd,hdd⟩:=Option.isSome_iff_exists.mp (hrec t ht)
 exact PySem.W.tab_of G.T KX hdd (htab w t ht)
end L2
namespace L2
open PySem PySem.Spec PyProof.Rows
section
variable {prog:Program} {w:World} {A:Around} {E:Value→Shared→Prop} {s:Shared}
end
section
variable {X:Cx}
end
end L2
namespace L2
open PySem PySem.Spec PyProof.Rows
section
open PySem.SeqAt
open PySem.AutoSeq1 (wpAny_loadPart')
open PySem.MeetsSeq PySem.MeetsSeq2 PySem.MeetsSeq3
end
section
variable {X:Cx}
end
end L2
namespace L2.G
open PySem PySem.Spec PyProof.Rows
section
variable [NM]
variable {prog:Program} {w:World} {A:Around} {E:Value→Shared→Prop} {s:Shared}
end
theorem qI7:∀ a:List Int,HT.lexLt a a=false
 | []=>rfl
 | x::a=>by rw [HT.lexLt_cons,if_pos rfl];exact qI7 a
theorem qK1:∀ a b c:List Int,HT.lexLt a b=true→HT.lexLt b c=true→HT.lexLt a c=true
 | [],[],_,h,_=>by cases h
 | [],_::_,[],_,h=>by cases h
 | [],_::_,_::_,_,_=>rfl
 | _::_,[],_,h,_=>by cases h
 | _::_,_::_,[],_,h=>by cases h
 | x::a,y::b,z::c,h1,h2=>by
  rw [HT.lexLt_cons] at h1 h2 ⊢
  by_cases e1:x=y
  ·subst e1
   rw [if_pos rfl] at h1
   by_cases e2:x=z
   ·rw [if_pos e2] at h2 ⊢
    exact qK1 a b c h1 h2
   ·rw [if_neg e2] at h2 ⊢
    exact h2
  ·rw [if_neg e1] at h1
   have h1:=of_decide_eq_true h1
   by_cases e2:y=z
   ·subst e2
    rw [if_neg e1]
    exact decide_eq_true h1
   ·rw [if_neg e2] at h2
    have h2:=of_decide_eq_true h2
    rw [if_neg (by omega)]
    exact decide_eq_true (by omega)
theorem qO4:∀ a b:List Int,HT.lexLt a b=false→HT.lexLt b a=false→a=b
 | [],[],_,_=>rfl
 | [],_::_,h,_=>by cases h
 | _::_,[],_,h=>by cases h
 | x::a,y::b,h1,h2=>by
  rw [HT.lexLt_cons] at h1 h2
  by_cases e:x=y
  ·subst e
   rw [if_pos rfl] at h1 h2
   rw [qO4 a b h1 h2]
  ·rw [if_neg e] at h1
   rw [if_neg (fun z=>e z.symm)] at h2
   have:=of_decide_eq_false h1
   have:=of_decide_eq_false h2
   omega
def qIO (L:List (List Int)) (a:List Int):Int:=(((L.filter fun x=>HT.lexLt x a).length:Nat):Int)
theorem qHI {α:Type} {p q:α→Bool}:∀ {L:List α},(∀ x ∈ L,p x=true→q x=true)→(∃ x ∈ L,p x=false∧q x=true)→(L.filter p).length<(L.filter q).length
 | [],_,⟨x,hx,_⟩=>nomatch hx
 | y::L,h,⟨x,hx,h1,h2⟩=>by
  have le:∀ {M:List α},(∀ x ∈ M,p x=true→q x=true)→(M.filter p).length≤(M.filter q).length:=by
   intro M hM
   induction M with
   | nil=>exact Nat.le_refl _
   | cons z M ih=>
    have i:=ih fun x hx=>hM x (List.mem_cons_of_mem _ hx)
    rw [List.filter_cons,List.filter_cons]
    cases ep:p z
    ·cases q z
     ·simpa using i
     ·simp;omega
    ·rw [hM z (by simp) ep]
     simpa using i
  rw [List.filter_cons,List.filter_cons]
  rcases List.mem_cons.mp hx with e | e
  ·subst e
   have:=le fun x hx=>h x (List.mem_cons_of_mem _ hx)
   rw [h1,h2]
   simp
   omega
  ·have i:=qHI (fun x hx=>h x (List.mem_cons_of_mem _ hx)) ⟨x,e,h1,h2⟩
   cases ep:p y
   ·cases q y
    ·simpa using i
    ·simp;omega
   ·rw [h y (by simp) ep]
    simpa using i
theorem qTK {L:List (List Int)} {a b:List Int} (ha:a ∈ L) (h:HT.lexLt a b=true):qIO L a<qIO L b:=by
 unfold qIO
 have:=qHI (p:=fun x=>HT.lexLt x a) (q:=fun x=>HT.lexLt x b) (L:=L) (fun x _ hx=>qK1 _ _ _ hx h) ⟨a,ha,qI7 a,h⟩
 omega
theorem qQV {L:List (List Int)} {a b:List Int} (ha:a ∈ L) (hb:b ∈ L):decide (qIO L a<qIO L b)=HT.lexLt a b:=by
 cases h:HT.lexLt a b with
 | true=>exact decide_eq_true (qTK ha h)
 | false=>
  refine decide_eq_false fun z=>?_
  cases h2:HT.lexLt b a with
  | true=>have:=qTK hb h2;omega
  | false=>rw [qO4 a b h h2] at z;omega
def qWJ (xs:List V):List Int:=xs.map fun | .int i=>i | _=>0
theorem qUP (t:List Int):qWJ (t.map V.int)=t:=by
 unfold qWJ
 rw [List.map_map]
 exact (List.map_congr_left fun x _=>rfl).trans (List.map_id _)
def keyH (H:Hp):Value→List Int
 | .ref r=>match H r with
  | some (.tup xs)=>qWJ xs
  | _=>[]
 | _=>[]
@[reducible] def tupNM (H:Hp) (L:List (List Int)):NM:=⟨fun v=>qIO L (keyH H v),fun v=>∃ r t,v=.ref r∧H r=some (.tup (t.map V.int))∧t ∈ L⟩
theorem qK4 {H:Hp} {r:Addr} {t:List Int} (h:H r=some (.tup (t.map V.int))):keyH H (.ref r)=t:=by
 show (match H r with | some (.tup xs)=>qWJ xs | _=>[])=t
 rw [h]
 exact qUP t
section
variable {prog:Program} {w:World} {A:Around} {E:Value→Shared→Prop} {s:Shared}
end
end L2.G
namespace L2.G
open PySem PySem.Spec PyProof.Rows
section
variable {prog:Program} {w:World} {A:Around} {E:Value→Shared→Prop} {s:Shared}
theorem qK5 {b:Bool} {Q:Bool→Shared→Prop}:∀ {vs ws:List Value} {ns ms:List Int} {i:Nat} {fin:Bool},IntsAre vs ns→IntsAre ws ms→
  (fin=decide (vs.length<ws.length))→Q (HT.lexLt ns ms) s→PySem.W.KatLex prog w A b fin Q (vs.zip ws) i s
 | _,_,_,_,i,fin,.nil,.nil,ef,h=>by
  rw [ef]
  exact PySem.W.kat_nil h
 | _,_,_,_,i,fin,.nil,.cons _ _ _,ef,h=>by
  rw [ef]
  exact PySem.W.kat_nil h
 | _,_,_,_,i,fin,.cons _ _ _,.nil,ef,h=>by
  rw [ef]
  exact PySem.W.kat_nil h
 | _,_,_,_,i,fin,.cons (vs:=vs) (ns:=ns) x t hv,.cons (vs:=ws) (ns:=ms) y u hw,ef,h=>by
  rw [List.zip_cons_cons]
  refine PySem.W.kat_cons (wpAny_eqBool_int ?_)
  rw [HT.lexLt_cons] at h
  by_cases e:x=y
  ·rw [if_pos e] at h
   rw [beq_iff_eq.mpr e]
   refine PySem.W.kat_yes (qK5 hv hw ?_ h)
   rw [ef]
   simp
  ·rw [if_neg e] at h
   rw [beq_eq_false_iff_ne.mpr e]
   refine PySem.W.kat_no ?_
   cases eb:(b && i == 0) with
   | true=>exact oneLt_int h
   | false=>exact PySem.W.kat_one _ _ (lt_int h)
theorem qSG {x y:Addr} {xs ys:Array Value} {ns ms:List Int} {b:Bool} {Q:Bool→Shared→Prop} (hx:IsTup s.heap x xs) (hy:IsTup s.heap y ys) (ix:IntsAre xs.toList ns) (iy:IntsAre ys.toList ms) (h:Q (HT.lexLt ns ms) s):wpAny (model prog w) A (keyLt' (tuples' b) (.ref x) (.ref y)) Q E s:=by
 obtain ⟨o,ho,hc,n,hd⟩:=id hx
 obtain ⟨o2,ho2,hc2,n2,hd2⟩:=id hy
 refine PySem.W.kat_lt ho hd ho2 hd2 (qK5 ix iy ?_ h)
 simp
theorem qUH {rs:List Addr} {ts:List (List Int)} {Q:SortKind→Shared→Prop} (h:Paired (fun (r:Addr) (t:List Int)=>∃ xs:Array Value,IsTup s.heap r xs∧IntsAre xs.toList t) rs ts) (hne:∀ t ∈ ts,t ≠ []) (h2:2≤rs.length)
  (q:Q (tuples' true) s):wpAny (model prog w) A (keyKind' (rs.map Value.ref).toArray) Q E s:=by
 have tu:∃ fs,PySem.W.KatTups s.heap (rs.map Value.ref) fs∧fs.length=rs.length∧∀ v ∈ fs,∃ n t,v=.int n t:=by
  clear h2
  induction h with
  | nil=>exact ⟨[],trivial,rfl,fun _ z=>nomatch z⟩
  | @cons r t l1 l2 a _ ih=>
   obtain ⟨fs,k1,k2,k3⟩:=ih fun t ht=>hne t (List.mem_cons_of_mem _ ht)
   obtain ⟨xs,⟨o,ho,hc,n,hd⟩,ia⟩:=a
   have ht:t ≠ []:=hne t (by simp)
   obtain ⟨xs⟩:=xs
   cases ia with
   | nil=>exact absurd rfl ht
   | cons x tk rest=>
    refine ⟨.int x tk::fs,.cons ho hc hd rfl k1,by simp [k2],fun v hv=>?_⟩
    rcases List.mem_cons.mp hv with e | e
    ·exact ⟨x,tk,e⟩
    ·exact k3 v e
 obtain ⟨fs,k1,k2,k3⟩:=tu
 refine PySem.W.kat_kind (T:=.type "int") k1 (by omega) (fun v hv=>?_) rfl ?_
 ·obtain ⟨n,t,rfl⟩:=k3 v hv
  exact .now
 ·exact q
end
end L2.G
namespace L2.G
open PySem PySem.Spec PyProof.Rows
section
variable {X:Cx}
abbrev qRU (H:Hp) (rs:List Addr) (ts:List (List Int)):Prop:=Paired (fun (r:Addr) (t:List Int)=>H r=some (.tup (t.map V.int))) rs ts
theorem qQI {H:Hp}:∀ {rs:List Addr} {ts:List (List Int)},qRU H rs ts→∀ {r:Addr},r ∈ rs→∃ t,t ∈ ts∧H r=some (.tup (t.map V.int))
 | _,_,.nil,_,h=>nomatch h
 | _,_,.cons (b:=t) g T,r,h=>by
  rcases List.mem_cons.mp h with e | e
  ·exact ⟨t,by simp,by rw [e];exact g⟩
  ·obtain ⟨t,h1,h2⟩:=qQI T e
   exact ⟨t,List.mem_cons_of_mem _ h1,h2⟩
end
end L2.G
namespace L2.G
open PySem PySem.Spec PyProof.Rows PySem.W
theorem perm_map_inv {α β:Type} {g:α→β} {a b:List β} (h:a.Perm b):∀ L:List α,b=L.map g→∃ L':List α,L'.Perm L∧a=L'.map g:=by
 induction h with
 | nil=>
  intro L e
  exact ⟨[],by rw [List.map_eq_nil_iff.mp e.symm],rfl⟩
 | cons x _ ih=>
  intro L e
  cases L with
  | nil=>cases e
  | cons y L=>
   rw [List.map_cons] at e
   injection e with e1 e2
   obtain ⟨L',p,e3⟩:=ih L e2
   exact ⟨y::L',p.cons y,by rw [List.map_cons,e1,e3]⟩
 | swap x y l=>
  intro L e
  match L,e with
  | p::q::L,e=>
   rw [List.map_cons,List.map_cons] at e
   injection e with e1 e2
   injection e2 with e2 e3
   exact ⟨q::p::L,.swap p q L,by rw [List.map_cons,List.map_cons,e1,e2,e3]⟩
 | trans _ _ ih1 ih2=>
  intro L e
  obtain ⟨L2,p2,e2⟩:=ih2 L e
  obtain ⟨L1,p1,e1⟩:=ih1 L2 e2
  exact ⟨L1,p1.trans p2,e1⟩
section
variable {X:Cx} {pins:List (Addr × Obj)} {σ:St} {params:Arguments} {body:Expr} {scope:Scope} {p:Str} {fv:List Nat} {q:Str} {te:TE} {l f cc:Addr} {ctv:Value} {H0:Hp} {xs:List V} {ks:List (List Int)} {Q:VK}
theorem qWF {A:Around} {s:Shared} {H:Hp} {it S:Addr} {i:Nat} {x:V} {k:List Int} {u:Value} (rm:Room 0 A) (hA:A.frames=some X.stack) (S':LmScope X scope p fv) (hbind:∀ (cl:List (Str × Addr)) (pm cd ct u:Value),bindArgs (PySem.W.kla_fn "<lambda>" q params body scope cl pm cd ct) ⟨[u],[]⟩=pure [(p,u)])
  (he:∀ z,PE (lmCx X scope p fv q z) body te) (KA:KeyAt X σ fv te KR1 H0 xs ks) (hf:H0 f=some (LamF X q params body scope cc ctv f)) (hcc:H0 cc=some (.tbl (.cod q)))
  (I:Inv X pins σ H s) (sm:Sm0 H0 H) (hx:xs[i]?=some x) (hk:ks[i]?=some k) (rx:RelV x u) (fi:FpOk X pins H it) (fS:FpOk X pins H S) {oi oS:Obj} (gi:s.heap.get? it=some oi) (gS:s.heap.get? S=some oS) {Q':Value→Shared→Prop} {E:Value→Shared→Prop}
  (h:∀ v y H' s',Inv X pins σ H' s'→Sm0 H H'→RelV y v→KR1 H' y k→FpOk X pins H' it→FpOk X pins H' S→s'.heap.get? it=some oi→s'.heap.get? S=some oS→Q' v s'):wpAny (model X.prog X.w) A (call (.ref f) [u]) Q' E s:=by
 have gf:s.heap.get? f=some (lamO X q params body scope cc ctv):=(show ObjOk X.prog X.w H s.heap f (LamF X q params body scope cc ctv f) from I.hok f _ (sm _ _ hf)).1
 refine wpAny_call (codeAny_mono (qRG rm I S' hA gf (sm _ _ hcc) rx hbind he (KA.key i x k hx hk H sm)) fun r s' ⟨v,y,H',e,I',ry,⟨sm',kr⟩,un⟩=>?_)
 subst e
 exact h v y H' s' I' sm' ry kr (fi.to (un.free it oi gi fi.1 (by simp))) (fS.to (un.free S oS gS fS.1 (by simp))) (un.keep it oi gi fi.1 (I.fpStk fi) (by simp)) (un.keep S oS gS fS.1 (I.fpStk fS) (by simp))
theorem Inv.off {H:Hp} {s:Shared} {b:Addr} {h':Heap} (I:Inv X pins σ H s) (f:FpOk X pins H b) (hk:∀ c o,c ≠ b→s.heap.get? c=some o→h'.get? c=some o):Inv X pins σ H { s with heap:=h' }:=
 I.turned (t':=s.toks) (fun c o hc e=>hk c o hc e) f.1 f.2.1 f.2.2.2.1 f.2.2.2.2.1 f.2.2.2.2.2
def qaZ (X:Cx) (pins:List (Addr × Obj)) (σ:St) (H0:Hp) (ks:List (List Int)) (kS D:Addr) (oD:Obj) (j:Nat) (s:Shared):Prop:=
 ∃ (H:Hp) (rs:List Addr) (c:Nat),Inv X pins σ H s∧Sm0 H0 H∧FpOk X pins H kS∧FpOk X pins H D∧s.heap.get? kS=some (seqObj "list" (rs.map Value.ref).toArray c)∧s.heap.get? D=some oD∧qRU H rs (ks.take j)
theorem qRZ {A:Around} {s:Shared} {us:List Value} {kS D:Addr} {e1:Nat} {P:Fin→Shared→Prop} {E:Value→Shared→Prop} (rm:Room 0 A) (hA:A.frames=some X.stack) (S':LmScope X scope p fv) (hbind:∀ (cl:List (Str × Addr)) (pm cd ct u:Value),bindArgs (PySem.W.kla_fn "<lambda>" q params body scope cl pm cd ct) ⟨[u],[]⟩=pure [(p,u)])
  (he:∀ z,PE (lmCx X scope p fv q z) body te) (KA:KeyAt X σ fv te KR1 H0 xs ks) (hf:H0 f=some (LamF X q params body scope cc ctv f)) (hcc:H0 cc=some (.tbl (.cod q))) (rv:Vals xs us) (hz:us.length≤63) (hne:∀ k ∈ ks,k ≠ []) (hkD:kS ≠ D)
  (h0:qaZ X pins σ H0 ks kS D (seqObj "list" #[] e1) 0 s)
  (h:∀ (H:Hp) (s':Shared) (zs:List (List Int × V)) (out:List Value) (n:Nat),Inv X pins σ H s'→Sm0 H0 H→FpOk X pins H D→zs.Perm (ks.zip xs)→zs.Pairwise (fun a b=>HT.lexLt b.1 a.1=false)→Vals (zs.map (·.2)) out→s'.heap.get? D=some (seqObj "list" out.toArray n)→P (.done (.ret .none)) s') :
  wpAny (model X.prog X.w) A (ksk_rest D (.ref f) false us.toArray e1 (.ref kS)) P E s:=by
 have lu:=rv.length
 have lk:=KA.len
 unfold ksk_rest
 refine wpAny_bind (wpAny_rule ?_)
 first
  | rw [List.forIn_toArray]
  | (rw [← Array.forIn_toList];simp only [List.toList_toArray])
  | rw [← Array.forIn_toList]
 refine wpAny_bind (ksk_fold (fun j s'=>qaZ X pins σ H0 ks kS D (seqObj "list" #[] e1) j s') us 0 s h0 (fun j u s' hu hK=>?_) fun s' hK=>?_)
 ·rw [Nat.zero_add] at hK ⊢
  obtain ⟨H,rs,c,I,sm,fk,fD,gk,gD,T⟩:=hK
  have hj:j<us.length:=(List.getElem?_eq_some_iff.mp hu).1
  have hjx:j<xs.length:=by omega
  have hjk:j<ks.length:=by omega
  have hx:=List.getElem?_eq_getElem hjx
  have hk:=List.getElem?_eq_getElem hjk
  obtain ⟨u',hu',ru⟩:=rv.get hx
  rw [hu] at hu'
  cases hu'
  have lT:rs.length=(ks.take j).length:=Paired.length T
  rw [List.length_take] at lT
  refine wpAny_bind (wpAny_attempt (qWF rm hA S' hbind he KA hf hcc I sm hx hk ru fk fD gk gD fun v y H' s2 I2 sm2 ry ⟨r,ey,gr⟩ fk2 fD2 gk2 gD2=>?_))
  subst ey
  cases ry
  have ea:((rs.map Value.ref).toArray).push (.ref r)=((rs++[r]).map Value.ref).toArray:=by simp
  obtain ⟨c2,hc2⟩:∃ c2,(s2.heap.update kS (Obj.mapSeq (·.push (.ref r)))).get? kS=some (seqObj "list" ((rs++[r]).map Value.ref).toArray c2):=⟨_,by rw [← ea];exact get?_update_seq gk2 (·.push (.ref r))⟩
  try dsimp only
  refine wpAny_bind (listUpdate_at gk2 rfl ?_ (by rw [List.size_toArray,List.length_map,sizeLine_eq];omega) (Nat.le_trans (Nat.le_of_eq (Array.size_push ..)) (by rw [List.size_toArray,List.length_map,sizeLine_eq];omega)))
  refine wpAny_pure ⟨rfl,H',rs++[r],c2,Inv.off I2 fk2 (fun b o hb e=>(Heap.get?_update_other _ _ (Ne.symm hb)).trans e),fun b o e=>sm2 b o (sm b o e),fk2,fD2,hc2,(Heap.get?_update_other _ _ hkD).trans gD2,?_⟩
  rw [List.take_add_one,hk,Option.toList_some]
  have T2:qRU H' rs (ks.take j):=Paired.mapP T fun _ _ z=>sm2 _ _ z
  exact Paired.snoc T2 gr
 ·rw [Nat.zero_add] at hK
  obtain ⟨H,rs,c,I,sm,fk,fD,gk,gD,T⟩:=hK
  rw [List.take_of_length_le (by omega)] at T
  have lr:rs.length=ks.length:=Paired.length T
  try dsimp only
  refine wpAny_bind (listItems_at gk rfl ?_)
  unfold ksk_end
  dsimp only
  simp only [Bool.false_eq_true,if_false]
  -- the triples
  have ez:((rs.map Value.ref).toArray.zip us.toArray).toList=(rs.zip (xs.zip us)).map fun t=>((Value.ref t.1,t.2.2):Keyed):=by
   rw [Array.toList_zip]
   show (rs.map Value.ref).zip us=_
   have:∀ (rs:List Addr) (xs:List V) (us:List Value),rs.length=xs.length→xs.length=us.length→(rs.map Value.ref).zip us=(rs.zip (xs.zip us)).map fun t=>((Value.ref t.1,t.2.2):Keyed):=by
    intro rs
    induction rs with
    | nil=>intro xs us _ _;rfl
    | cons r rs ih=>
     intro xs us h1 h2
     match xs,us,h1,h2 with
     | x::xs,u::us,h1,h2=>
      rw [List.map_cons,List.zip_cons_cons,List.zip_cons_cons,List.zip_cons_cons,List.map_cons,ih xs us (by simpa using h1) (by simpa using h2)]
     | [],_,h1,_=>simp at h1
     | _::_,[],_,h2=>simp at h2
   exact this rs xs us (by omega) (by omega)
  have tz:(rs.zip (xs.zip us)).map (fun t=>(keyH H (.ref t.1),t.2.1))=ks.zip xs:=by
   have:∀ (rs:List Addr) (ks:List (List Int)) (xs:List V) (us:List Value),qRU H rs ks→rs.length=xs.length→xs.length=us.length→(rs.zip (xs.zip us)).map (fun t=>(keyH H (.ref t.1),t.2.1))=ks.zip xs:=by
    intro rs ks xs us T
    induction T generalizing xs us with
    | nil=>intro _ _;rfl
    | @cons r k l1 l2 g _ ih=>
     intro h1 h2
     match xs,us,h1,h2 with
     | x::xs,u::us,h1,h2=>
      rw [List.zip_cons_cons,List.zip_cons_cons,List.zip_cons_cons,List.map_cons,qK4 g,ih xs us (by simpa using h1) (by simpa using h2)]
     | [],_,h1,_=>simp at h1
     | _::_,[],_,h2=>simp at h2
   exact this rs ks xs us T (by omega) (by omega)
  have relT:∀ t ∈ rs.zip (xs.zip us),RelV t.2.1 t.2.2:=by
   intro t ht
   obtain ⟨i,hi⟩:=List.getElem?_of_mem ht
   rw [List.getElem?_zip_eq_some] at hi
   have h2:=hi.2
   rw [List.getElem?_zip_eq_some] at h2
   obtain ⟨u,hu,ru⟩:=rv.get h2.1
   rw [hu] at h2
   have:=Option.some.inj h2.2
   rw [← this]
   exact ru
  have memT:∀ t ∈ rs.zip (xs.zip us),∃ k,k ∈ ks∧H t.1=some (.tup (k.map V.int)):=fun t ht=>qQI T (List.of_mem_zip ht).1
  letI:NM:=tupNM H ks
  have fin:∀ arr:Array Keyed,arr.Perm ((rs.map Value.ref).toArray.zip us.toArray)→gSortedTo arr arr.size→wpAny (model X.prog X.w) A (ksk_tail D false e1 (.ref kS) (SortSt.mk' (tuples' true) arr #[] 7 none)) P E s'→True:=fun _ _ _ _=>trivial
  have tail:∀ (st:SortSt),(arrOf st).Perm ((rs.map Value.ref).toArray.zip us.toArray)→gSortedTo (arrOf st) (arrOf st).size→failedOf st=none→wpAny (model X.prog X.w) A (ksk_tail D false e1 (.ref kS) st) P E s':=by
   intro st pm so fl
   obtain ⟨L',p1,p2⟩:=perm_map_inv (Array.perm_iff_toList_perm.mp pm) (rs.zip (xs.zip us)) ez
   unfold ksk_tail
   dsimp only
   refine wpAny_bind (listUpdate_at gk rfl ?_ (by rw [List.size_toArray,List.length_map,sizeLine_eq];omega) (Nat.zero_le _))
   refine wpAny_bind (wpAny_letGo ?_)
   have gD2:(s'.heap.update kS (Obj.mapSeq fun _=>(#[]:Array Value))).get? D=some (seqObj "list" #[] e1):=(Heap.get?_update_other _ _ hkD).trans gD
   have I2:=Inv.off (h':=s'.heap.update kS (Obj.mapSeq fun _=>(#[]:Array Value))) I fk (fun b o hb e=>(Heap.get?_update_other _ _ (Ne.symm hb)).trans e)
   refine wpAny_bind (seqEpoch_at gD2 rfl ?_)
   have la:(arrOf st).size=us.length:=by
    have:=pm.size_eq
    rw [this]
    simp
    omega
   refine wpAny_bind (listUpdate_at gD2 rfl ?_ (Nat.zero_le _) (by simp only [Bool.false_eq_true,if_false];rw [Array.size_map,la,sizeLine_eq];omega))
   simp only [Bool.false_eq_true,if_false]
   rw [fl]
   simp only [bne_self_eq_false,Bool.false_eq_true,if_false]
   obtain ⟨n2,hn2⟩:∃ n2,((s'.heap.update kS (Obj.mapSeq fun _=>(#[]:Array Value))).update D (Obj.mapSeq fun _=>(arrOf st).map (·.2))).get? D=some (seqObj "list" ((arrOf st).map (·.2)) n2):=⟨_,get?_update_seq gD2 fun _=>(arrOf st).map (·.2)⟩
   have eo:(arrOf st).map (·.2)=(L'.map (·.2.2)).toArray:=by
    apply Array.toList_inj.mp
    rw [Array.toList_map,p2,List.map_map]
    rfl
   rw [show seqObj "list" ((arrOf st).map (·.2)) n2=seqObj "list" (L'.map (·.2.2)).toArray n2 by rw [eo]] at hn2
   have I3:=Inv.off (s:={ s' with heap:=s'.heap.update kS (Obj.mapSeq fun _=>(#[]:Array Value)) }) (h':=(s'.heap.update kS (Obj.mapSeq fun _=>(#[]:Array Value))).update D (Obj.mapSeq fun _=>(arrOf st).map (·.2))) I2 fD (fun b o hb e=>(Heap.get?_update_other _ _ (Ne.symm hb)).trans e)
   refine wpAny_pure (h H _ (L'.map fun t=>(keyH H (.ref t.1),t.2.1)) (L'.map (·.2.2)) n2 I3 sm fD ?_ ?_ ?_ hn2)
   ·rw [← tz]
    exact p1.map _
   ·rw [List.pairwise_map]
    have so2:(arrOf st).toList.Pairwise (fun a b=>gkv a≤gkv b):=by
     rw [List.pairwise_iff_getElem]
     intro i j hi hj hij
     have hi2:i<(arrOf st).size:=by simpa using hi
     have hj2:j<(arrOf st).size:=by simpa using hj
     have a:=so i j (Nat.le_of_lt hij) hj2
     rw [qWW hi2,qWW hj2] at a
     rw [Array.getElem_toList,Array.getElem_toList]
     exact a
    rw [p2,List.pairwise_map] at so2
    refine so2.imp_of_mem fun {a b} ha hb le=>?_
    obtain ⟨k1,m1,g1⟩:=memT a (p1.mem_iff.mp ha)
    obtain ⟨k2,m2,g2⟩:=memT b (p1.mem_iff.mp hb)
    have le:qIO ks (keyH H (.ref a.1))≤qIO ks (keyH H (.ref b.1)):=le
    rw [qK4 g1,qK4 g2] at le ⊢
    dsimp only
    rw [← qQV m2 m1]
    exact decide_eq_false (by omega)
   ·have:∀ L:List (Addr × V × Value),(∀ t ∈ L,RelV t.2.1 t.2.2)→Vals ((L.map fun t=>(keyH H (.ref t.1),t.2.1)).map (·.2)) (L.map (·.2.2)):=by
     intro L
     induction L with
     | nil=>intro _;exact .nil
     | cons t L ih=>intro hL;exact .cons (hL t (by simp)) (ih fun t ht=>hL t (List.mem_cons_of_mem _ ht))
    exact this L' fun t ht=>relT t (p1.mem_iff.mp ht)
  by_cases few:us.toArray.size<2
  ·simp only [if_pos few]
   refine wpAny_bind (wpAny_pure ?_)
   rw [StateT.run_pure]
   refine wpAny_bind (wpAny_pure (tail _ (.refl _) (fun i j hij hj=>?_) rfl))
   have sz:(arrOf (SortSt.mk' general' ((rs.map Value.ref).toArray.zip us.toArray) #[] 7 none)).size≤1:=by
    show ((rs.map Value.ref).toArray.zip us.toArray).size≤1
    rw [Array.size_zip]
    omega
   have hj':j<(arrOf (SortSt.mk' general' ((rs.map Value.ref).toArray.zip us.toArray) #[] 7 none)).size:=hj
   have ij:i=j:=by omega
   rw [ij]
   exact Int.le_refl _
  ·simp only [if_neg few]
   rw [List.size_toArray] at few
   have tat:∀ (r:Addr) (t:List Int),H r=some (.tup (t.map V.int))→∃ ys:Array Value,IsTup s'.heap r ys∧IntsAre ys.toList t:=by
    intro r t g
    obtain ⟨its,r1,pt,_⟩:=I.tuple (SqT.of g)
    exact ⟨its.toArray,pt,qSL r1⟩
   have lt_ok:LtOk X.prog X.w A s' (tuples' true):=by
    refine ⟨fun {x y Q E} hx hy h=>?_⟩
    obtain ⟨r1,t1,rfl,g1,m1⟩:=hx
    obtain ⟨r2,t2,rfl,g2,m2⟩:=hy
    obtain ⟨ya,i1,j1⟩:=tat r1 t1 g1
    obtain ⟨yb,i2,j2⟩:=tat r2 t2 g2
    refine qSG i1 i2 j1 j2 ?_
    have e1:NM.nm (Value.ref r1)=qIO ks t1:=by show qIO ks (keyH H (.ref r1))=_;rw [qK4 g1]
    have e2:NM.nm (Value.ref r2)=qIO ks t2:=by show qIO ks (keyH H (.ref r2))=_;rw [qK4 g2]
    rw [e1,e2,qQV m1 m2] at h
    exact h
   have ik:qCQ ((rs.map Value.ref).toArray.zip us.toArray):=fun pq hp=>by
    rw [ez] at hp
    obtain ⟨t,ht,rfl⟩:=List.mem_map.mp hp
    obtain ⟨k,mk,g⟩:=memT t ht
    exact ⟨t.1,k,rfl,g,mk⟩
   refine wpAny_bind (qUH (rs:=rs) (ts:=ks) (Paired.mapP T fun r t g=>tat r t g) hne (by omega) ?_)
   refine wpAny_bind (wpAny_mono (gwpS_runs (κ0:=tuples' true) (a₀:=(rs.map Value.ref).toArray.zip us.toArray) (Q:=fun _ st2=>gSG (tuples' true) ((rs.map Value.ref).toArray.zip us.toArray) st2∧gSortedTo (arrOf st2) ((rs.map Value.ref).toArray.zip us.toArray).size) (by rw [Array.size_zip,List.size_toArray,List.size_toArray];omega) ik ⟨.refl _,rfl,rfl⟩ rfl fun st2 g u=>⟨g,u⟩) ?_ fun _ _ x=>x)
   rintro ⟨_,st2⟩ s2 ⟨es,g,u⟩
   cases (show s2=_ from es)
   exact tail st2 g.perm (by rw [g.perm.size_eq];exact u) g.failed
end
end L2.G
namespace L2.G
open PySem PySem.Spec PyProof.Rows PySem.W
section
variable {X:Cx} {pins:List (Addr × Obj)} {σ:St} {params:Arguments} {body:Expr} {scope:Scope} {p:Str} {fv:List Nat} {q:Str} {te:TE} {l f cc:Addr} {ctv:Value} {H0:Hp} {xs:List V} {ks:List (List Int)} {Q:VK}
theorem qL1 (l:Addr) (v:Value):argsOk "sorted" ⟨[.ref l],[(Str.ofString "key",v)]⟩:=by unfold argsOk;kernel_rfl
theorem sortk_call {s:Shared} {H:Hp} (rm:Room 2 X.A) (hA:X.A.in1.in1.frames=some X.stack) (S':LmScope X scope p fv) (hbind:∀ (cl:List (Str × Addr)) (pm cd ct u:Value),bindArgs (PySem.W.kla_fn "<lambda>" q params body scope cl pm cd ct) ⟨[u],[]⟩=pure [(p,u)])
  (he:∀ z,PE (lmCx X scope p fv q z) body te) (KA:KeyAt X σ fv te KR1 H xs ks) (hf:H f=some (LamF X q params body scope cc ctv f)) (hcc:H cc=some (.tbl (.cod q))) (hl:SqT X.K H l xs∨SqL X.K H l xs) (I:Inv X pins σ H s) (hz:xs.length≤63) (hne:∀ k ∈ ks,k ≠ [])
  (hQ:∀ (H':Hp) (D:Addr) (zs:List (List Int × V)),Sm0 H H'→H' D=none→zs.Perm (ks.zip xs)→zs.Pairwise (fun a b=>HT.lexLt b.1 a.1=false)→Q (.ref D) (upd H' D (.lst (zs.map (·.2))))) :
  wpAny (model X.prog X.w) X.A (call (.builtin "sorted") [.ref l] [(Str.ofString "key",.ref f)]) (EP X pins σ Q) X.xe s:=by
 refine call_function_entry_kw kind_sorted plain_sorted entry_sorted (qL1 _ _) ?_
 unfold Builtin.«sorted»
 refine wpAny_bind (m:=checkCount "sorted" 1 1 _) (wpAny_pure ?_)
 have src:∃ (its:List Value),Vals xs its∧∀ (P:List Value→Shared→Prop),(∀ h',(∀ b o,s.heap.get? b=some o→h'.get? b=some o)→P its { s with heap:=h' })→wpAny (model X.prog X.w) X.A.in1 (collect (.ref l)) P X.xe s:=by
  rcases hl with hl | hl
  ·obtain ⟨its,rv,⟨o,ho,hc',n,hd⟩,hz2⟩:=I.tuple hl
   refine ⟨its,rv,fun P h=>wpAny_collect_seq l (.inr rfl) ho hc' hd (fun h' hk=>h h' hk) ?_⟩
   rw [List.size_toArray,← rv.length,sizeLine_eq]
   omega
  ·obtain ⟨its,rv,pl,hz2⟩:=I.list hl
   obtain ⟨o,ho,hc',n,hd⟩:=pl.isList
   refine ⟨its,rv,fun P h=>wpAny_collect_seq l (.inl rfl) ho hc' hd (fun h' hk=>h h' hk) ?_⟩
   rw [List.size_toArray,← rv.length,sizeLine_eq]
   omega
 obtain ⟨its,rv,col⟩:=src
 have li:=rv.length
 refine wpAny_bind (col _ fun h1 k1=>?_)
 have I1:Inv X pins σ H { s with heap:=h1 }:=I.kept (t':=s.toks) k1
 refine wpAny_bind (wpAny_newList ?_ (by show its.length≤_;rw [sizeLine_eq];omega))
 have fD0:FpOk X pins H h1.objs.size:=I1.fpOk (Nat.le_refl _) (I1.hok.fresh (Nat.le_refl _))
 have szD:=I1.sz
 have gD:(h1.push (seqObj "list" its.toArray 0)).get? h1.objs.size=some (seqObj "list" its.toArray 0):=Heap.get?_push_size _ rfl
 have I2:Inv X pins σ H { s with heap:=h1.push (seqObj "list" its.toArray 0) }:=I1.kept (t':=s.toks) fun b o e=>Heap.get?_push_of_some _ e
 have ltD:h1.objs.size<(h1.push (seqObj "list" its.toArray 0)).objs.size:=Heap.lt_size gD
 show wpAny _ _ _ _ _ { s with heap:=h1.push (seqObj "list" its.toArray 0) }
 show wpAny _ _ (holding [.ref h1.objs.size] (call (.builtin "list.sort") [.ref h1.objs.size] [(Str.ofString "key",.ref f)]) >>= _) _ _ _
 generalize h1.push (seqObj "list" its.toArray 0)=h2 at gD I2 ltD ⊢
 have szD:X.s₀.heap.objs.size≤h1.objs.size:=szD
 generalize h1.objs.size=D at fD0 szD gD ltD ⊢
 refine wpAny_bind (wpAny_holding (wpAny_call_entry_kw slot_list_sort ⟨_,gD,rfl⟩ entry_list_sort ?_ (ksk_l1 _ _)))
 show wpAny (model X.prog X.w) X.A.in1.in1 (Builtin.«list.sort» ⟨[.ref D],[(Str.ofString "key",.ref f)]⟩) _ _ _
 rw [ksk_t1]
 unfold ksk_tree
 refine wpAny_bind (listItems_at gD rfl ?_)
 refine wpAny_bind (listUpdate_at gD rfl ?_ (by rw [List.size_toArray,sizeLine_eq];omega) (Nat.zero_le _))
 obtain ⟨e1,ho1⟩:∃ e1,(h2.update D (Obj.mapSeq fun _=>(#[]:Array Value))).get? D=some (seqObj "list" #[] e1):=⟨_,get?_update_seq gD fun _=>#[]⟩
 have I3:=Inv.off (h':=h2.update D (Obj.mapSeq fun _=>(#[]:Array Value))) I2 fD0 (fun b o hb e=>(Heap.get?_update_other _ _ (Ne.symm hb)).trans e)
 have ltD3:D<(h2.update D (Obj.mapSeq fun _=>(#[]:Array Value))).objs.size:=Heap.lt_size ho1
 refine wpAny_bind (seqEpoch_at ho1 rfl ?_)
 generalize h2.update D (Obj.mapSeq fun _=>(#[]:Array Value))=h3 at ho1 I3 ltD3 ⊢
 refine wpAny_bind (wpAny_newTuple ?_ (by show its.length≤_;rw [sizeLine_eq];omega))
 refine wpAny_bind (wpAny_newList ?_ (Nat.zero_le _))
 refine wpAny_holding ?_
 have hkS:(h3.push (seqObj "tuple" its.toArray 0)).objs.size=h3.objs.size+1:=Heap.size_push ..
 have I4:Inv X pins σ H { s with heap:=(h3.push (seqObj "tuple" its.toArray 0)).push (seqObj "list" #[] 0) }:=I3.kept (t':=s.toks) fun b o e=>Heap.get?_push_of_some _ (Heap.get?_push_of_some _ e)
 have fk:FpOk X pins H (h3.push (seqObj "tuple" its.toArray 0)).objs.size:=by rw [hkS];exact I3.fpOk (Nat.le_succ _) (I3.hok.fresh (Nat.le_succ _))
 refine qRZ (kS:=(h3.push (seqObj "tuple" its.toArray 0)).objs.size) (D:=D) (rm.in1.in1) hA S' hbind he KA hf hcc rv (by omega) hne (by rw [hkS];exact Nat.ne_of_gt (Nat.lt_succ_of_lt ltD3)) ⟨H,[],0,I4,fun _ _ e=>e,fk,fD0,Heap.get?_push_size _ rfl,Heap.get?_push_of_some _ (Heap.get?_push_of_some _ ho1),?_⟩ fun H' s' zs out n I5 sm fD5 pm so rvo gD5=>⟨_,rfl,?_⟩
 ·rw [List.take_zero]
  exact .nil
 ·refine wpAny_pure ⟨_,rfl,.ref D,upd H' D (.lst (zs.map (·.2))),I5.track fD5.1 szD fD5.2.1 fD5.2.2.2.2.1 fD5.2.2.2.2.2 ⟨?_,out,n,rvo,gD5⟩,rfl,hQ H' D zs sm fD5.1 pm so⟩
  have:=pm.length_eq
  rw [List.length_map,this,List.length_zip,sizeLine_eq]
  omega
end
end L2.G
namespace L2
open PySem PySem.Spec PyProof.Rows
section
variable {X:Cx}
theorem SqT.sm {K:PySem.W.Frag} {H H':Hp} {a:Addr} {xs:List V} (h:SqT K H a xs) (sm:Sm0 H H'):SqT K H' a xs:=by
 rcases h with (h | ⟨o,h⟩) | h
 ·exact .inl (.inl (sm _ _ h))
 ·exact .inl (.inr ⟨o,sm _ _ h⟩)
 ·exact .inr h
theorem SqL.sm {K:PySem.W.Frag} {H H':Hp} {a:Addr} {xs:List V} (h:SqL K H a xs) (sm:Sm0 H H'):SqL K H' a xs:=by
 rcases h with (h | ⟨o,h⟩) | h
 ·exact .inl (.inl (sm _ _ h))
 ·exact .inl (.inr ⟨o,sm _ _ h⟩)
 ·exact .inr h
def qZJ (P:Addr) (K:PySem.W.Frag) (q:Str) (fv:List Nat) (te:TE) (ta:TA):TE:=fun σ H Q=>ta σ H fun vs H1=>H1 P=some (.tbl (.tab q))∧
 ∃ (l:Addr) (xs:List V) (ks:List (List Int)),vs=[.ref l]∧(SqT K H1 l xs∨SqL K H1 l xs)∧xs.length≤63∧ks.length=xs.length∧(∀ k ∈ ks,k ≠ [])∧(∀ (i:Nat) (x:V) (k:List Int),xs[i]?=some x→ks[i]?=some k→∀ Hc,Sm0 H1 Hc→te (qGU fv σ x) Hc fun y H'=>Sm0 Hc H'∧KR1 H' y k)∧
  ∀ (H':Hp) (D:Addr) (zs:List (List Int × V)),Sm0 H1 H'→H' D=none→zs.Perm (ks.zip xs)→zs.Pairwise (fun a b=>HT.lexLt b.1 a.1=false)→Q (.ref D) (upd H' D (.lst (zs.map (·.2))))
theorem qVZ {e:Expr} {ta:TA} {np pos kpos lpos:Pos} {params:Arguments} {body:Expr} {scope:Scope} {c P:Addr} {q:Str} {p:Str} {fv:List Nat} {te:TE}
  (rm:Room 2 X.A) (hg:Gl X "sorted") (hm:X.mg "sorted" = none) (hv:bootBuiltins "sorted" = some (.builtin "sorted")) (hb:BM X.mg X.base) (hcode:X.env.code=.ref c) (hd:hdIn X.K c P=true) (hq:X.env.qual ++ "<lambda>" = q)
  (S:LmScope X scope p fv) (hdef:defaultsOf params X.env=([],[])) (hbind:∀ (cl:List (Str × Addr)) (pm cd ct u:Value),bindArgs (PySem.W.kla_fn "<lambda>" q params body scope cl pm cd ct) ⟨[u],[]⟩=pure [(p,u)])
  (ha:PA X [e] ta) (he:∀ z,PE (lmCx X scope p fv q z) body te) (hs:starEach [e] X.env=[(false,eval e X.env)]:=by rfl) :
  PE X (.Call (.Name "sorted" np) [e] [⟨some "key",.Lambda params body scope lpos,kpos⟩] pos) (qZJ P X.K q fv te ta):=by
 intro pins s σ H Q I h
 refine wpAny_Call_Name_kw (qGK I hg hm hv ?_ (by decide) (by decide))
 refine PyProof.Rows.callWith_kw (thn (ha pos pins s σ H _ I h) fun us s1 ⟨vs,H1,I1,r1,q1⟩=>?_) (by rw [hs];rfl) (by rw [hs];rfl)
 obtain ⟨hP,l,xs,ks,rfl,hl,hz,lk,hne,hk,q2⟩:=q1
 obtain ⟨u,rfl,rx⟩:=qEY r1
 cases rx
 have C:=qOU (c:=c) (P:=P) I1.ok.mod.kin hd
 have pl:=qXF (X:=X) (pos:=lpos) (body:=body) hb hcode C hq S hdef
 refine thn (qPK (kpos:=kpos) (nm:=some "key") pl qTQ pos pins s1 σ H1 (fun zs H2=>∃ f cc ctv,zs=[.ref f]∧Sm0 H1 H2∧H2 f=some (LamF X q params body scope cc ctv f)∧H2 cc=some (.tbl (.cod q))) I1 ⟨hP,fun f cc ctv H' sm h0 hf hcc=>⟨f,cc,ctv,rfl,sm,hf,hcc⟩⟩) fun ws s2 ⟨zs,H2,I2,rz,f,cc,ctv,ez,sm,hf,hcc⟩=>?_
 subst ez
 obtain ⟨u2,rfl,r2⟩:=qEY rz
 cases r2
 have hA:X.A.in1.in1.frames=some X.stack:=I2.ok.frames
 exact G.sortk_call (H:=H2) rm hA S hbind he ⟨lk,fun i x k hx hk' Hc smc=>hk i x k hx hk' Hc fun b o e=>smc b o (sm b o e)⟩ hf hcc (hl.imp (fun z=>z.sm sm) fun z=>z.sm sm) I2 hz hne
  fun H' D zs smc a b c=>q2 H' D zs (fun b o e=>smc b o (sm b o e)) a b c
end
end L2
namespace L2
open PySem PySem.Spec PyProof.Rows
structure Clb (P:Program) (w:World) (K:PySem.W.Frag) (mg:Str→Option Value) (base:Heap) (n:Nat) (f:Addr) (fd:FuncData) (x:Str) (ps:List Str) (sp:Sp):Prop where
 G:FnOk P w K mg base CX0 n f fd ps sp
 b:Binds K fd ps []
 k:PySem.W.keepIn K (.ref f)=true
 m:mg x=some (.ref f)
theorem qAQ {X:Cx} {n k:Nat} {f:Addr} {fd:FuncData} {x:Str} {ps:List Str} {sp:Sp} {e:Expr} {es:List Expr} {t:TA} {p pos:Pos} (C:Clb X.prog X.w X.K X.mg X.base n f fd x ps sp) (hr:Room k X.A) (hg:Gl X x)
  (ha:PA X (e::es) t) (hnk:n≤k:=by decide) (hdb:(x == ("__debug__" : Str))=false:=by decide) (he:starEach (e::es) X.env=(false,eval e X.env)::starEach es X.env:=by rfl) (hpl:(backTo pos (starEach es X.env)).any (·.1)=false:=by rfl) :
  PE X (.Call (.Name x p) (e::es) [] pos) (qZP sp [] E0 t):=qTT C.G (hr.mono hnk) hg C.m C.k C.b .nil qa4 ha hdb he hpl
end L2
namespace L2
open PySem PySem.Spec PyProof.Rows
def lowI (b:Int) (l:List Int):Int:=l.foldl (fun b x=>if x<b then x else b) b
theorem qU8:∀ (l:List Int) (b:Int),lowI b l≤b∧(∀ x ∈ l,lowI b l≤x)∧(lowI b l=b∨lowI b l ∈ l)
 | [],b=>⟨Int.le_refl _,(fun _ z=>nomatch z),.inl rfl⟩
 | y::l,b=>by
  obtain ⟨h1,h2,h3⟩:=qU8 l (if y<b then y else b)
  have e:lowI b (y::l)=lowI (if y<b then y else b) l:=rfl
  rw [e]
  have hb:(if y<b then y else b)≤b∧(if y<b then y else b)≤y:=by split <;> omega
  refine ⟨by omega,fun x hx=>?_,?_⟩
  ·rcases List.mem_cons.mp hx with hx | hx
   ·omega
   ·exact h2 x hx
  ·rcases h3 with h3 | h3
   ·split at h3
    ·rw [if_pos (by assumption)]
     exact .inr (by rw [h3];exact List.mem_cons_self)
    ·rw [if_neg (by assumption)]
     exact .inl h3
   ·exact .inr (List.mem_cons_of_mem _ h3)
section
variable {prog:Program} {w:World} {A:Around} {R:Result→Shared→Prop} {I:Addr} {fp wr:List Addr} {n:Nat} {P:Nat→Value→Prop} {St:Nat→Heap→Prop}
theorem qYJ (W:Walks prog w A.in1 I fp wr n P St) (kw:List (Str × Value)) (ns:List Int) (hn:ns.length=n) (hval:∀ i v,P i v→∃ t,v=.int (ns.getD i 0) t) (S:Addr) (hSf:S ∉ fp) :
  ∀ (k j:Nat) (s:Shared) (b:Int) (t:Tok) (c:Nat),n - j=k→j≤n→St j s.heap→s.heap.get? S=some { cls:=.type "list",dict:=none,data:=.seq #[.int b t,.int b t] c,slots:=#[] }→
  (∀ t' h' tk,(∀ x o,x ∉ wr→x ≠ S→s.heap.get? x=some o→h'.get? x=some o)→R (.ok (.ret (.int (lowI b (ns.drop j)) t'))) { s with heap:=h',toks:=tk })→
  codeAny (model prog w) A (.builtin "min.loop" ⟨[.ref I,.none,.ref S],kw⟩) R s:=by
 have hSw:S ∉ wr:=fun h=>hSf (W.sub _ h)
 have hname:(toString "min" ++ toString ".loop" : String) = "min.loop":=by decide
 intro k
 induction k with
 | zero=>
  intro j s b t c hk hj st hS hR
  have e:j=n:=by omega
  refine codeAny_builtin F.entry_min_loop ?_
  rw [Around.under_plainId F.plain_min_loop _]
  show wpAny _ A.in1 (seqItems? (.ref S) >>= _) _ _ s
  refine wpAny_bind (wpAny_seqItems hS rfl ?_)
  show wpAny _ A.in1 (tryCatch (pyNext (.ref I)) _ >>= _) _ _ s
  refine wpAny_bind (wpAny_tryCatch (W.done s _ _ (e ▸ st) fun h' tk hk'=>?_))
  show wpAny _ A.in1 (updateSeq S (fun _=>#[]) >>= _) _ _ _
  refine wpAny_bind (wpAny_updateSeq (hk' S _ hSw hS) rfl (wpAny_bind (wpAny_letGo (wpAny_pure ?_))))
  rw [List.drop_of_length_le (by omega)] at hR
  exact hR t _ tk fun x o hx hxS ex=>(Heap.get?_update_other _ _ (Ne.symm hxS)).trans (hk' x o hx ex)
 | succ k ih=>
  intro j s b t c hk hj st hS hR
  have hlt:j<n:=by omega
  refine codeAny_builtin F.entry_min_loop ?_
  rw [Around.under_plainId F.plain_min_loop _]
  show wpAny _ A.in1 (seqItems? (.ref S) >>= _) _ _ s
  refine wpAny_bind (wpAny_seqItems hS rfl ?_)
  show wpAny _ A.in1 (tryCatch (pyNext (.ref I)) _ >>= _) _ _ s
  refine wpAny_bind (wpAny_tryCatch (W.item j s _ _ hlt st fun v h' tk hP st' hk'=>?_))
  have hS':=hk' S _ hSw hS
  obtain ⟨u,rfl⟩:=hval j v hP
  have ed:ns.drop j=ns.getD j 0::ns.drop (j+1):=by
   have hj':j<ns.length:=by omega
   rw [List.drop_eq_getElem_cons hj',List.getD_eq_getElem?_getD,List.getElem?_eq_getElem hj']
   rfl
  rw [ed] at hR
  generalize ns.getD j 0=y at hR hP ⊢
  show wpAny _ A.in1 (tryCatch (holding [Value.int y u,Value.int y u] (richCompare .Lt (.int y u) (.int b t) >>= _)) _ >>= _) _ _ _
  refine wpAny_bind (wpAny_tryCatch (wpAny_holding (wpAny_bind (richCompare_gives (op:=.Lt) (typeIs_int _ _ u) (typeIs_int _ _ t) F.slot_int_lt F.entry_int_lt (F.args_int_lt_2 _ _) (gives_int_lt _ _ u t) (fun x=>nomatch x) ?_))))
  refine wpAny_bind (wpAny_holding (wpAny_truthy_bool (wpAny_bind (wpAny_letGo (wpAny_pure ?_)))))
  by_cases hb:y<b
  ·rw [decide_eq_true hb,if_pos rfl]
   have et:lowI b (y::ns.drop (j+1))=lowI y (ns.drop (j+1)):=by show lowI (if y<b then y else b) _=_;rw [if_pos hb]
   rw [et] at hR
   refine wpAny_bind (wpAny_updateSeq hS' rfl (wpAny_bind (wpAny_letGo ?_)))
   rw [hname]
   refine wpAny_pure ⟨plainId_quiet F.plain_min_loop _,ih (j+1) _ y u _ (by omega) hlt (W.frame _ _ _ st' fun x hx o ex=>?_) (Heap.get?_update_self _ hS' rfl) fun t' h2 tk2 hk2=>?_⟩
   ·exact (Heap.get?_update_other _ _ (fun z:S=x=>hSf (by rw [z];exact hx))).trans ex
   ·exact hR t' h2 tk2 fun x o hx hxS ex=>hk2 x o hx hxS ((Heap.get?_update_other _ _ (Ne.symm hxS)).trans (hk' x o hx ex))
  ·rw [decide_eq_false hb,if_neg Bool.false_ne_true]
   have et:lowI b (y::ns.drop (j+1))=lowI b (ns.drop (j+1)):=by show lowI (if y<b then y else b) _=_;rw [if_neg hb]
   rw [et] at hR
   refine wpAny_bind (wpAny_letGo ?_)
   rw [hname]
   exact wpAny_pure ⟨plainId_quiet F.plain_min_loop _,ih (j+1) _ b t c (by omega) hlt st' hS' fun t' h2 tk2 hk2=>hR t' h2 tk2 fun x o hx hxS ex=>hk2 x o hx hxS (hk' x o hx ex)⟩
theorem qU2 (W:Walks prog w A.in1 I fp wr n P St) (kw:List (Str × Value)) (ns:List Int) (hn:ns.length=n) (hval:∀ i v,P i v→∃ t,v=.int (ns.getD i 0) t) (S:Addr) (hSf:S ∉ fp) {s:Shared} {c:Nat} (st:St 0 s.heap)
  (hS:s.heap.get? S=some { cls:=.type "list",dict:=none,data:=.seq #[] c,slots:=#[] })
  (h1:∀ y r,ns=y::r→∀ t' h' tk,(∀ x o,x ∉ wr→x ≠ S→s.heap.get? x=some o→h'.get? x=some o)→R (.ok (.ret (.int (lowI y r) t'))) { s with heap:=h',toks:=tk })
  (h2:ns=[]→∃ nm dv,kw=[(nm,dv)]∧∀ h' tk,(∀ x o,x ∉ wr→x ≠ S→s.heap.get? x=some o→h'.get? x=some o)→R (.ok (.ret dv)) { s with heap:=h',toks:=tk }) :
  codeAny (model prog w) A (.builtin "min.loop" ⟨[.ref I,.none,.ref S],kw⟩) R s:=by
 have hSw:S ∉ wr:=fun h=>hSf (W.sub _ h)
 have hname:(toString "min" ++ toString ".loop" : String) = "min.loop":=by decide
 refine codeAny_builtin F.entry_min_loop ?_
 rw [Around.under_plainId F.plain_min_loop _]
 show wpAny _ A.in1 (seqItems? (.ref S) >>= _) _ _ s
 refine wpAny_bind (wpAny_seqItems hS rfl ?_)
 show wpAny _ A.in1 (tryCatch (pyNext (.ref I)) _ >>= _) _ _ s
 cases ns with
 | nil=>
  obtain ⟨nm,dv,rfl,h3⟩:=h2 rfl
  refine wpAny_bind (wpAny_tryCatch (W.done s _ _ (hn ▸ st) fun h' tk hk'=>?_))
  show wpAny _ A.in1 (rule _ >>= fun _=>ret dv) _ _ _
  exact wpAny_bind (wpAny_rule (wpAny_pure (h3 _ tk fun x o hx _ ex=>hk' x o hx ex)))
 | cons y r=>
  refine wpAny_bind (wpAny_tryCatch (W.item 0 s _ _ (by rw [← hn];simp) st fun v h' tk hP st' hk'=>?_))
  have hS':=hk' S _ hSw hS
  obtain ⟨u,rfl⟩:=hval 0 v hP
  show wpAny _ A.in1 (updateSeq S (fun _=>#[Value.int y u,Value.int y u]) >>= _) _ _ _
  refine wpAny_bind (wpAny_updateSeq hS' rfl ?_)
  rw [hname]
  refine wpAny_pure ⟨plainId_quiet F.plain_min_loop _,qYJ W kw (y::r) hn hval S hSf _ 1 _ y u _ rfl (by rw [← hn];simp) (W.frame _ _ _ st' fun x hx o ex=>?_) (Heap.get?_update_self _ hS' rfl) fun t' h2 tk2 hk2=>?_⟩
  ·exact (Heap.get?_update_other _ _ (fun z:S=x=>hSf (by rw [z];exact hx))).trans ex
  ·exact h1 y r rfl t' h2 tk2 fun x o hx hxS ex=>hk2 x o hx hxS ((Heap.get?_update_other _ _ (Ne.symm hxS)).trans (hk' x o hx ex))
end
section
variable {X:Cx}
def lowD (dv:Option Int):List Int→Option Int
 | []=>dv
 | y::r=>some (lowI y r)
theorem qYK {pins:List (Addr × Obj)} {s:Shared} {σ:St} {H:Hp} {Q:VK} {p:Addr} {ns:List Int} {kw:List (Str × Value)} {dv:Option Int} (hc:X.calm=true) (I:Inv X pins σ H s) (hq:SqL X.K H p (ns.map V.int))
  (ok:argsOk "min" ⟨[.ref p],kw⟩) (df:Option Value) (hb:Builtin.Builtins.bindParams "min" ["key","default"] 0 ⟨[],kw⟩=pure [none,df]) (hdf:df=none∧dv=none∨∃ d t,df=some (.int d t)∧dv=some d)
  (m:Int) (em:lowD dv ns=some m) (q:Q (.int m) H):wpAny (model X.prog X.w) X.A (call (.builtin "min") [.ref p] kw) (EP X pins σ Q) X.xe s:=by
 obtain ⟨its,rv,pl,hz⟩:=I.list hq
 have hl:=pl.isList
 have hlt:p<s.heap.objs.size:=by obtain ⟨_,e,_⟩:=hl;exact Heap.lt_size e
 have hlen:=rv.length
 rw [List.length_map] at hlen
 have ia:=qC6 rv
 have hname:(toString "min" ++ toString ".loop" : String) = "min.loop":=by decide
 refine qIM F.kind_min F.plain_min F.entry_min ok ?_
 show wpAny _ _ (Builtin.Builtins.bindParams "min" ["key","default"] 0 ⟨[],kw⟩ >>= _) _ _ s
 refine wpAny_bind (wpAny_of_eq hb ?_)
 refine wpAny_bind (wpAny_pure ?_)
 refine wpAny_bind (wpAny_pyIter_list hl ?_)
 refine wpAny_bind (wpAny_newObj_type ?_)
 rw [hname]
 have w0:X.A.in1.handled=none:=I.ok.hd hc
 refine wpAny_pure ⟨_,rfl,plainId_quiet F.plain_min_loop _,?_⟩
 refine qU2 (Walks.list w0 _ p (Nat.ne_of_lt hlt) its.toArray) _ ns (by simpa using hlen) (fun i v hv=>?_) _ ?_ (c:=0) ?_ (Heap.get?_push_size _ rfl) ?_ ?_
 ·exact PyProof.Rows.IntsAre.int_at ia i v (by simpa using hv)
 ·simp only [Heap.size_push,List.mem_cons,List.not_mem_nil,or_false,not_or]
  exact ⟨Nat.succ_ne_self _,Nat.ne_of_gt (Nat.lt_succ_of_lt hlt)⟩
 ·exact ⟨⟨_,Heap.get?_push_of_some _ (Heap.get?_push_size _ rfl),rfl,rfl⟩,(hl.push _).push _⟩
 ·intro y r e t' h' tk hk
  subst e
  cases em
  refine ⟨_,rfl,.int _,H,I.kept (t':=tk) fun b o eb=>hk b o ?_ ?_ (Heap.get?_push_of_some _ (Heap.get?_push_of_some _ eb)),⟨t',rfl⟩,q⟩
  ·simp only [List.mem_cons,List.not_mem_nil,or_false]
   exact Nat.ne_of_lt (Heap.lt_size eb)
  ·rw [Heap.size_push]
   exact Nat.ne_of_lt (Nat.lt_succ_of_lt (Heap.lt_size eb))
 ·intro e
  subst e
  rcases hdf with ⟨_,e2⟩ | ⟨d,t,rfl,rfl⟩
  ·rw [e2] at em
   cases em
  ·cases em
   refine ⟨_,_,rfl,fun h' tk hk=>⟨_,rfl,.int _,H,I.kept (t':=tk) fun b o eb=>hk b o ?_ ?_ (Heap.get?_push_of_some _ (Heap.get?_push_of_some _ eb)),⟨t,rfl⟩,q⟩⟩
   ·simp only [List.mem_cons,List.not_mem_nil,or_false]
    exact Nat.ne_of_lt (Heap.lt_size eb)
   ·rw [Heap.size_push]
    exact Nat.ne_of_lt (Nat.lt_succ_of_lt (Heap.lt_size eb))
theorem qOV (hc:X.calm=true):qFC X (.builtin "min") (fun xs H Q=>∃ p ns m,xs=[.ref p]∧SqL X.K H p (ns.map V.int)∧lowD none ns=some m∧Q (.int m) H):=by
 intro pins s σ H xs us Q I r h
 obtain ⟨p,ns,m,rfl,hq,em,q⟩:=h
 obtain ⟨u,rfl,rx⟩:=qEY r
 cases rx
 exact qYK hc I hq (F.args_min1 _) none rfl (.inl ⟨rfl,rfl⟩) m em q
end
end L2
namespace L2
open PySem PySem.Spec PyProof.Rows
section
variable {X:Cx}
end
end L2
namespace L2
open PySem PySem.Spec PyProof.Rows
end L2
namespace L2.G
open PySem PySem.Spec PyProof.Rows PySem.W
def KR0 (_:Hp) (y:V) (k:List Int):Prop:=∃ n,y=.int n∧k=[n]
abbrev qX6 (rs:List Value) (ks:List (List Int)):Prop:=Paired (fun v k=>∃ n t,v=Value.int n t∧k=[n]) rs ks
theorem qOG:∀ {rs:List Value} {ks:List (List Int)},qX6 rs ks→∀ {r:Value},r ∈ rs→∃ n t,r=Value.int n t
 | _,_,.nil,_,h=>nomatch h
 | _,_,.cons ⟨n,t,e,_⟩ T,r,h=>by
  rcases List.mem_cons.mp h with q | q
  ·exact ⟨n,t,q.trans e⟩
  ·exact qOG T q
theorem qOH:∀ {rs:List Value} {ks:List (List Int)},qX6 rs ks→IntsAre rs (ks.map fun k=>k.headD 0)
 | _,_,.nil=>.nil
 | _,_,.cons ⟨n,t,e,f⟩ T=>by
  subst e f
  exact .cons _ _ (qOH T)
theorem qY7 {n:Int} {v:Value} (h:RelV (.int n) v):∃ t,v=.int n t:=h
theorem qSF {a b:Int} (h:a≤b):HT.lexLt [b] [a]=false:=by
 rw [HT.lexLt_cons]
 split
 ·exact qI7 []
 ·exact decide_eq_false (by omega)
section
variable {X:Cx} {pins:List (Addr × Obj)} {σ:St} {params:Arguments} {body:Expr} {scope:Scope} {p:Str} {fv:List Nat} {q:Str} {te:TE} {l f cc:Addr} {ctv:Value} {H0:Hp} {xs:List V} {ks:List (List Int)} {Q:VK}
theorem qWE {A:Around} {s:Shared} {H:Hp} {it S:Addr} {i:Nat} {x:V} {k:List Int} {u:Value} (rm:Room 0 A) (hA:A.frames=some X.stack) (S':LmScope X scope p fv) (hbind:∀ (cl:List (Str × Addr)) (pm cd ct u:Value),bindArgs (PySem.W.kla_fn "<lambda>" q params body scope cl pm cd ct) ⟨[u],[]⟩=pure [(p,u)])
  (he:∀ z,PE (lmCx X scope p fv q z) body te) (KA:KeyAt X σ fv te KR0 H0 xs ks) (hf:H0 f=some (LamF X q params body scope cc ctv f)) (hcc:H0 cc=some (.tbl (.cod q)))
  (I:Inv X pins σ H s) (sm:Sm0 H0 H) (hx:xs[i]?=some x) (hk:ks[i]?=some k) (rx:RelV x u) (fi:FpOk X pins H it) (fS:FpOk X pins H S) {oi oS:Obj} (gi:s.heap.get? it=some oi) (gS:s.heap.get? S=some oS) {Q':Value→Shared→Prop} {E:Value→Shared→Prop}
  (h:∀ v y H' s',Inv X pins σ H' s'→Sm0 H H'→RelV y v→KR0 H' y k→FpOk X pins H' it→FpOk X pins H' S→s'.heap.get? it=some oi→s'.heap.get? S=some oS→Q' v s'):wpAny (model X.prog X.w) A (call (.ref f) [u]) Q' E s:=by
 have gf:s.heap.get? f=some (lamO X q params body scope cc ctv):=(show ObjOk X.prog X.w H s.heap f (LamF X q params body scope cc ctv f) from I.hok f _ (sm _ _ hf)).1
 refine wpAny_call (codeAny_mono (qRG rm I S' hA gf (sm _ _ hcc) rx hbind he (KA.key i x k hx hk H sm)) fun r s' ⟨v,y,H',e,I',ry,⟨sm',kr⟩,un⟩=>?_)
 subst e
 exact h v y H' s' I' sm' ry kr (fi.to (un.free it oi gi fi.1 (by simp))) (fS.to (un.free S oS gS fS.1 (by simp))) (un.keep it oi gi fi.1 (I.fpStk fi) (by simp)) (un.keep S oS gS fS.1 (I.fpStk fS) (by simp))
def qXY (X:Cx) (pins:List (Addr × Obj)) (σ:St) (H0:Hp) (ks:List (List Int)) (kS D:Addr) (oD:Obj) (j:Nat) (s:Shared):Prop:=
 ∃ (H:Hp) (rs:List Value) (c:Nat),Inv X pins σ H s∧Sm0 H0 H∧FpOk X pins H kS∧FpOk X pins H D∧s.heap.get? kS=some (seqObj "list" rs.toArray c)∧s.heap.get? D=some oD∧qX6 rs (ks.take j)
theorem qS0 {A:Around} {s:Shared} {us:List Value} {kS D:Addr} {e1:Nat} {P:Fin→Shared→Prop} {E:Value→Shared→Prop} (rm:Room 0 A) (hA:A.frames=some X.stack) (S':LmScope X scope p fv) (hbind:∀ (cl:List (Str × Addr)) (pm cd ct u:Value),bindArgs (PySem.W.kla_fn "<lambda>" q params body scope cl pm cd ct) ⟨[u],[]⟩=pure [(p,u)])
  (he:∀ z,PE (lmCx X scope p fv q z) body te) (KA:KeyAt X σ fv te KR0 H0 xs ks) (hf:H0 f=some (LamF X q params body scope cc ctv f)) (hcc:H0 cc=some (.tbl (.cod q))) (rv:Vals xs us) (hz:us.length≤63) (hkD:kS ≠ D)
  (h0:qXY X pins σ H0 ks kS D (seqObj "list" #[] e1) 0 s)
  (h:∀ (H:Hp) (s':Shared) (zs:List (List Int × V)) (out:List Value) (n:Nat),Inv X pins σ H s'→Sm0 H0 H→FpOk X pins H D→zs.Perm (ks.zip xs)→zs.Pairwise (fun a b=>HT.lexLt b.1 a.1=false)→Vals (zs.map (·.2)) out→s'.heap.get? D=some (seqObj "list" out.toArray n)→P (.done (.ret .none)) s') :
  wpAny (model X.prog X.w) A (ksk_rest D (.ref f) false us.toArray e1 (.ref kS)) P E s:=by
 have lu:=rv.length
 have lk:=KA.len
 unfold ksk_rest
 refine wpAny_bind (wpAny_rule ?_)
 first
  | rw [List.forIn_toArray]
  | (rw [← Array.forIn_toList];simp only [List.toList_toArray])
  | rw [← Array.forIn_toList]
 refine wpAny_bind (ksk_fold (fun j s'=>qXY X pins σ H0 ks kS D (seqObj "list" #[] e1) j s') us 0 s h0 (fun j u s' hu hK=>?_) fun s' hK=>?_)
 ·rw [Nat.zero_add] at hK ⊢
  obtain ⟨H,rs,c,I,sm,fk,fD,gk,gD,T⟩:=hK
  have hj:j<us.length:=(List.getElem?_eq_some_iff.mp hu).1
  have hjx:j<xs.length:=by omega
  have hjk:j<ks.length:=by omega
  have hx:=List.getElem?_eq_getElem hjx
  have hk:=List.getElem?_eq_getElem hjk
  obtain ⟨u',hu',ru⟩:=rv.get hx
  rw [hu] at hu'
  cases hu'
  have lT:rs.length=(ks.take j).length:=Paired.length T
  rw [List.length_take] at lT
  refine wpAny_bind (wpAny_attempt (qWE rm hA S' hbind he KA hf hcc I sm hx hk ru fk fD gk gD fun v y H' s2 I2 sm2 ry ⟨r,ey,gr⟩ fk2 fD2 gk2 gD2=>?_))
  subst ey
  obtain ⟨tg,rfl⟩:=qY7 ry
  have ea:(rs.toArray).push (Value.int r tg)=(rs++[Value.int r tg]).toArray:=by simp
  obtain ⟨c2,hc2⟩:∃ c2,(s2.heap.update kS (Obj.mapSeq (·.push (Value.int r tg)))).get? kS=some (seqObj "list" (rs++[Value.int r tg]).toArray c2):=⟨_,by rw [← ea];exact get?_update_seq gk2 (·.push (Value.int r tg))⟩
  try dsimp only
  refine wpAny_bind (listUpdate_at gk2 rfl ?_ (by rw [List.size_toArray,sizeLine_eq];omega) (Nat.le_trans (Nat.le_of_eq (Array.size_push ..)) (by rw [List.size_toArray,sizeLine_eq];omega)))
  refine wpAny_pure ⟨rfl,H',rs++[.int r tg],c2,Inv.off I2 fk2 (fun b o hb e=>(Heap.get?_update_other _ _ (Ne.symm hb)).trans e),fun b o e=>sm2 b o (sm b o e),fk2,fD2,hc2,(Heap.get?_update_other _ _ hkD).trans gD2,?_⟩
  rw [List.take_add_one,hk,Option.toList_some]
  exact Paired.snoc T ⟨r,tg,rfl,gr⟩
 ·rw [Nat.zero_add] at hK
  obtain ⟨H,rs,c,I,sm,fk,fD,gk,gD,T⟩:=hK
  rw [List.take_of_length_le (by omega)] at T
  have lr:rs.length=ks.length:=Paired.length T
  try dsimp only
  refine wpAny_bind (listItems_at gk rfl ?_)
  unfold ksk_end
  dsimp only
  simp only [Bool.false_eq_true,if_false]
  -- the triples
  have ez:(rs.toArray.zip us.toArray).toList=(rs.zip (xs.zip us)).map fun t=>((t.1,t.2.2):Keyed):=by
   rw [Array.toList_zip]
   show rs.zip us=_
   have:∀ (rs:List Value) (xs:List V) (us:List Value),rs.length=xs.length→xs.length=us.length→rs.zip us=(rs.zip (xs.zip us)).map fun t=>((t.1,t.2.2):Keyed):=by
    intro rs
    induction rs with
    | nil=>intro xs us _ _;rfl
    | cons r rs ih=>
     intro xs us h1 h2
     match xs,us,h1,h2 with
     | x::xs,u::us,h1,h2=>
      rw [List.zip_cons_cons,List.zip_cons_cons,List.zip_cons_cons,List.map_cons,ih xs us (by simpa using h1) (by simpa using h2)]
     | [],_,h1,_=>simp at h1
     | _::_,[],_,h2=>simp at h2
   exact this rs xs us (by omega) (by omega)
  have tz:(rs.zip (xs.zip us)).map (fun t=>([numOf t.1],t.2.1))=ks.zip xs:=by
   have:∀ (rs:List Value) (ks:List (List Int)) (xs:List V) (us:List Value),qX6 rs ks→rs.length=xs.length→xs.length=us.length→(rs.zip (xs.zip us)).map (fun t=>([numOf t.1],t.2.1))=ks.zip xs:=by
    intro rs ks xs us T
    induction T generalizing xs us with
    | nil=>intro _ _;rfl
    | @cons r k l1 l2 g _ ih=>
     intro h1 h2
     match xs,us,h1,h2 with
     | x::xs,u::us,h1,h2=>
      obtain ⟨n,t,e1,e2⟩:=g
      subst e1 e2
      rw [List.zip_cons_cons,List.zip_cons_cons,List.zip_cons_cons,List.map_cons,show numOf (Value.int n t)=n from rfl,ih xs us (by simpa using h1) (by simpa using h2)]
     | [],_,h1,_=>simp at h1
     | _::_,[],_,h2=>simp at h2
   exact this rs ks xs us T (by omega) (by omega)
  have relT:∀ t ∈ rs.zip (xs.zip us),RelV t.2.1 t.2.2:=by
   intro t ht
   obtain ⟨i,hi⟩:=List.getElem?_of_mem ht
   rw [List.getElem?_zip_eq_some] at hi
   have h2:=hi.2
   rw [List.getElem?_zip_eq_some] at h2
   obtain ⟨u,hu,ru⟩:=rv.get h2.1
   rw [hu] at h2
   have:=Option.some.inj h2.2
   rw [← this]
   exact ru
  have memT:∀ t ∈ rs.zip (xs.zip us),∃ n tg,t.1=Value.int n tg:=fun t ht=>qOG T (List.of_mem_zip ht).1
  letI:NM:=⟨numOf,fun v=>∃ n t,v=.int n t⟩
  have fin:∀ arr:Array Keyed,arr.Perm (rs.toArray.zip us.toArray)→gSortedTo arr arr.size→wpAny (model X.prog X.w) A (ksk_tail D false e1 (.ref kS) (SortSt.mk' oneType' arr #[] 7 none)) P E s'→True:=fun _ _ _ _=>trivial
  have tail:∀ (st:SortSt),(arrOf st).Perm (rs.toArray.zip us.toArray)→gSortedTo (arrOf st) (arrOf st).size→failedOf st=none→wpAny (model X.prog X.w) A (ksk_tail D false e1 (.ref kS) st) P E s':=by
   intro st pm so fl
   obtain ⟨L',p1,p2⟩:=perm_map_inv (Array.perm_iff_toList_perm.mp pm) (rs.zip (xs.zip us)) ez
   unfold ksk_tail
   dsimp only
   refine wpAny_bind (listUpdate_at gk rfl ?_ (by rw [List.size_toArray,sizeLine_eq];omega) (Nat.zero_le _))
   refine wpAny_bind (wpAny_letGo ?_)
   have gD2:(s'.heap.update kS (Obj.mapSeq fun _=>(#[]:Array Value))).get? D=some (seqObj "list" #[] e1):=(Heap.get?_update_other _ _ hkD).trans gD
   have I2:=Inv.off (h':=s'.heap.update kS (Obj.mapSeq fun _=>(#[]:Array Value))) I fk (fun b o hb e=>(Heap.get?_update_other _ _ (Ne.symm hb)).trans e)
   refine wpAny_bind (seqEpoch_at gD2 rfl ?_)
   have la:(arrOf st).size=us.length:=by
    have:=pm.size_eq
    rw [this]
    simp
    omega
   refine wpAny_bind (listUpdate_at gD2 rfl ?_ (Nat.zero_le _) (by simp only [Bool.false_eq_true,if_false];rw [Array.size_map,la,sizeLine_eq];omega))
   simp only [Bool.false_eq_true,if_false]
   rw [fl]
   simp only [bne_self_eq_false,Bool.false_eq_true,if_false]
   obtain ⟨n2,hn2⟩:∃ n2,((s'.heap.update kS (Obj.mapSeq fun _=>(#[]:Array Value))).update D (Obj.mapSeq fun _=>(arrOf st).map (·.2))).get? D=some (seqObj "list" ((arrOf st).map (·.2)) n2):=⟨_,get?_update_seq gD2 fun _=>(arrOf st).map (·.2)⟩
   have eo:(arrOf st).map (·.2)=(L'.map (·.2.2)).toArray:=by
    apply Array.toList_inj.mp
    rw [Array.toList_map,p2,List.map_map]
    rfl
   rw [show seqObj "list" ((arrOf st).map (·.2)) n2=seqObj "list" (L'.map (·.2.2)).toArray n2 by rw [eo]] at hn2
   have I3:=Inv.off (s:={ s' with heap:=s'.heap.update kS (Obj.mapSeq fun _=>(#[]:Array Value)) }) (h':=(s'.heap.update kS (Obj.mapSeq fun _=>(#[]:Array Value))).update D (Obj.mapSeq fun _=>(arrOf st).map (·.2))) I2 fD (fun b o hb e=>(Heap.get?_update_other _ _ (Ne.symm hb)).trans e)
   refine wpAny_pure (h H _ (L'.map fun t=>([numOf t.1],t.2.1)) (L'.map (·.2.2)) n2 I3 sm fD ?_ ?_ ?_ hn2)
   ·rw [← tz]
    exact p1.map _
   ·rw [List.pairwise_map]
    have so2:(arrOf st).toList.Pairwise (fun a b=>gkv a≤gkv b):=by
     rw [List.pairwise_iff_getElem]
     intro i j hi hj hij
     have hi2:i<(arrOf st).size:=by simpa using hi
     have hj2:j<(arrOf st).size:=by simpa using hj
     have a:=so i j (Nat.le_of_lt hij) hj2
     rw [qWW hi2,qWW hj2] at a
     rw [Array.getElem_toList,Array.getElem_toList]
     exact a
    rw [p2,List.pairwise_map] at so2
    refine so2.imp_of_mem fun {a b} ha hb le=>?_
    have le:numOf a.1≤numOf b.1:=le
    exact qSF le
   ·have:∀ L:List (Value × V × Value),(∀ t ∈ L,RelV t.2.1 t.2.2)→Vals ((L.map fun t=>([numOf t.1],t.2.1)).map (·.2)) (L.map (·.2.2)):=by
     intro L
     induction L with
     | nil=>intro _;exact .nil
     | cons t L ih=>intro hL;exact .cons (hL t (by simp)) (ih fun t ht=>hL t (List.mem_cons_of_mem _ ht))
    exact this L' fun t ht=>relT t (p1.mem_iff.mp ht)
  by_cases few:us.toArray.size<2
  ·simp only [if_pos few]
   refine wpAny_bind (wpAny_pure ?_)
   rw [StateT.run_pure]
   refine wpAny_bind (wpAny_pure (tail _ (.refl _) (fun i j hij hj=>?_) rfl))
   have sz:(arrOf (SortSt.mk' general' (rs.toArray.zip us.toArray) #[] 7 none)).size≤1:=by
    show (rs.toArray.zip us.toArray).size≤1
    rw [Array.size_zip]
    omega
   have hj':j<(arrOf (SortSt.mk' general' (rs.toArray.zip us.toArray) #[] 7 none)).size:=hj
   have ij:i=j:=by omega
   rw [ij]
   exact Int.le_refl _
  ·simp only [if_neg few]
   rw [List.size_toArray] at few
   haveI lt_ok:LtOk X.prog X.w A s' oneType':=⟨fun {x y Q E} hx hy h=>by
    obtain ⟨n,t,rfl⟩:=hx
    obtain ⟨m,u,rfl⟩:=hy
    rw [keyLt'_oneType]
    exact oneLt_int h⟩
   have ik:qCQ (rs.toArray.zip us.toArray):=fun pq hp=>by
    rw [ez] at hp
    obtain ⟨t,ht,rfl⟩:=List.mem_map.mp hp
    exact memT t ht
   have kk:keyKind' rs.toArray=pure oneType':=by
    have ia:=qOH T
    match rs,lr,ia with
    | [],lr,_=>exact absurd lr (by show ¬ 0=ks.length;omega)
    | [_],lr,_=>exact absurd lr (by show ¬ 1=ks.length;omega)
    | _::_::_,_,ia=>exact keyKind_ints ia
   rw [kk]
   refine wpAny_bind (wpAny_pure ?_)
   refine wpAny_bind (wpAny_mono (gwpS_runs (κ0:=oneType') (a₀:=rs.toArray.zip us.toArray) (Q:=fun _ st2=>gSG oneType' (rs.toArray.zip us.toArray) st2∧gSortedTo (arrOf st2) (rs.toArray.zip us.toArray).size) (by rw [Array.size_zip,List.size_toArray,List.size_toArray];omega) ik ⟨.refl _,rfl,rfl⟩ rfl fun st2 g u=>⟨g,u⟩) ?_ fun _ _ x=>x)
   rintro ⟨_,st2⟩ s2 ⟨es,g,u⟩
   cases (show s2=_ from es)
   exact tail st2 g.perm (by rw [g.perm.size_eq];exact u) g.failed
end
section
variable {X:Cx} {pins:List (Addr × Obj)} {σ:St} {params:Arguments} {body:Expr} {scope:Scope} {p:Str} {fv:List Nat} {q:Str} {te:TE} {l f cc:Addr} {ctv:Value} {H0:Hp} {xs:List V} {ks:List (List Int)} {Q:VK}
theorem sorti_call {s:Shared} {H:Hp} (rm:Room 2 X.A) (hA:X.A.in1.in1.frames=some X.stack) (S':LmScope X scope p fv) (hbind:∀ (cl:List (Str × Addr)) (pm cd ct u:Value),bindArgs (PySem.W.kla_fn "<lambda>" q params body scope cl pm cd ct) ⟨[u],[]⟩=pure [(p,u)])
  (he:∀ z,PE (lmCx X scope p fv q z) body te) (KA:KeyAt X σ fv te KR0 H xs ks) (hf:H f=some (LamF X q params body scope cc ctv f)) (hcc:H cc=some (.tbl (.cod q))) (hl:SqT X.K H l xs∨SqL X.K H l xs) (I:Inv X pins σ H s) (hz:xs.length≤63)
  (hQ:∀ (H':Hp) (D:Addr) (zs:List (List Int × V)),Sm0 H H'→H' D=none→zs.Perm (ks.zip xs)→zs.Pairwise (fun a b=>HT.lexLt b.1 a.1=false)→Q (.ref D) (upd H' D (.lst (zs.map (·.2))))) :
  wpAny (model X.prog X.w) X.A (call (.builtin "sorted") [.ref l] [(Str.ofString "key",.ref f)]) (EP X pins σ Q) X.xe s:=by
 refine call_function_entry_kw kind_sorted plain_sorted entry_sorted (qL1 _ _) ?_
 unfold Builtin.«sorted»
 refine wpAny_bind (m:=checkCount "sorted" 1 1 _) (wpAny_pure ?_)
 have src:∃ (its:List Value),Vals xs its∧∀ (P:List Value→Shared→Prop),(∀ h',(∀ b o,s.heap.get? b=some o→h'.get? b=some o)→P its { s with heap:=h' })→wpAny (model X.prog X.w) X.A.in1 (collect (.ref l)) P X.xe s:=by
  rcases hl with hl | hl
  ·obtain ⟨its,rv,⟨o,ho,hc',n,hd⟩,hz2⟩:=I.tuple hl
   refine ⟨its,rv,fun P h=>wpAny_collect_seq l (.inr rfl) ho hc' hd (fun h' hk=>h h' hk) ?_⟩
   rw [List.size_toArray,← rv.length,sizeLine_eq]
   omega
  ·obtain ⟨its,rv,pl,hz2⟩:=I.list hl
   obtain ⟨o,ho,hc',n,hd⟩:=pl.isList
   refine ⟨its,rv,fun P h=>wpAny_collect_seq l (.inl rfl) ho hc' hd (fun h' hk=>h h' hk) ?_⟩
   rw [List.size_toArray,← rv.length,sizeLine_eq]
   omega
 obtain ⟨its,rv,col⟩:=src
 have li:=rv.length
 refine wpAny_bind (col _ fun h1 k1=>?_)
 have I1:Inv X pins σ H { s with heap:=h1 }:=I.kept (t':=s.toks) k1
 refine wpAny_bind (wpAny_newList ?_ (by show its.length≤_;rw [sizeLine_eq];omega))
 have fD0:FpOk X pins H h1.objs.size:=I1.fpOk (Nat.le_refl _) (I1.hok.fresh (Nat.le_refl _))
 have szD:=I1.sz
 have gD:(h1.push (seqObj "list" its.toArray 0)).get? h1.objs.size=some (seqObj "list" its.toArray 0):=Heap.get?_push_size _ rfl
 have I2:Inv X pins σ H { s with heap:=h1.push (seqObj "list" its.toArray 0) }:=I1.kept (t':=s.toks) fun b o e=>Heap.get?_push_of_some _ e
 have ltD:h1.objs.size<(h1.push (seqObj "list" its.toArray 0)).objs.size:=Heap.lt_size gD
 show wpAny _ _ _ _ _ { s with heap:=h1.push (seqObj "list" its.toArray 0) }
 show wpAny _ _ (holding [.ref h1.objs.size] (call (.builtin "list.sort") [.ref h1.objs.size] [(Str.ofString "key",.ref f)]) >>= _) _ _ _
 generalize h1.push (seqObj "list" its.toArray 0)=h2 at gD I2 ltD ⊢
 have szD:X.s₀.heap.objs.size≤h1.objs.size:=szD
 generalize h1.objs.size=D at fD0 szD gD ltD ⊢
 refine wpAny_bind (wpAny_holding (wpAny_call_entry_kw slot_list_sort ⟨_,gD,rfl⟩ entry_list_sort ?_ (ksk_l1 _ _)))
 show wpAny (model X.prog X.w) X.A.in1.in1 (Builtin.«list.sort» ⟨[.ref D],[(Str.ofString "key",.ref f)]⟩) _ _ _
 rw [ksk_t1]
 unfold ksk_tree
 refine wpAny_bind (listItems_at gD rfl ?_)
 refine wpAny_bind (listUpdate_at gD rfl ?_ (by rw [List.size_toArray,sizeLine_eq];omega) (Nat.zero_le _))
 obtain ⟨e1,ho1⟩:∃ e1,(h2.update D (Obj.mapSeq fun _=>(#[]:Array Value))).get? D=some (seqObj "list" #[] e1):=⟨_,get?_update_seq gD fun _=>#[]⟩
 have I3:=Inv.off (h':=h2.update D (Obj.mapSeq fun _=>(#[]:Array Value))) I2 fD0 (fun b o hb e=>(Heap.get?_update_other _ _ (Ne.symm hb)).trans e)
 have ltD3:D<(h2.update D (Obj.mapSeq fun _=>(#[]:Array Value))).objs.size:=Heap.lt_size ho1
 refine wpAny_bind (seqEpoch_at ho1 rfl ?_)
 generalize h2.update D (Obj.mapSeq fun _=>(#[]:Array Value))=h3 at ho1 I3 ltD3 ⊢
 refine wpAny_bind (wpAny_newTuple ?_ (by show its.length≤_;rw [sizeLine_eq];omega))
 refine wpAny_bind (wpAny_newList ?_ (Nat.zero_le _))
 refine wpAny_holding ?_
 have hkS:(h3.push (seqObj "tuple" its.toArray 0)).objs.size=h3.objs.size+1:=Heap.size_push ..
 have I4:Inv X pins σ H { s with heap:=(h3.push (seqObj "tuple" its.toArray 0)).push (seqObj "list" #[] 0) }:=I3.kept (t':=s.toks) fun b o e=>Heap.get?_push_of_some _ (Heap.get?_push_of_some _ e)
 have fk:FpOk X pins H (h3.push (seqObj "tuple" its.toArray 0)).objs.size:=by rw [hkS];exact I3.fpOk (Nat.le_succ _) (I3.hok.fresh (Nat.le_succ _))
 refine qS0 (kS:=(h3.push (seqObj "tuple" its.toArray 0)).objs.size) (D:=D) (rm.in1.in1) hA S' hbind he KA hf hcc rv (by omega) (by rw [hkS];exact Nat.ne_of_gt (Nat.lt_succ_of_lt ltD3)) ⟨H,[],0,I4,fun _ _ e=>e,fk,fD0,Heap.get?_push_size _ rfl,Heap.get?_push_of_some _ (Heap.get?_push_of_some _ ho1),?_⟩ fun H' s' zs out n I5 sm fD5 pm so rvo gD5=>⟨_,rfl,?_⟩
 ·rw [List.take_zero]
  exact .nil
 ·refine wpAny_pure ⟨_,rfl,.ref D,upd H' D (.lst (zs.map (·.2))),I5.track fD5.1 szD fD5.2.1 fD5.2.2.2.2.1 fD5.2.2.2.2.2 ⟨?_,out,n,rvo,gD5⟩,rfl,hQ H' D zs sm fD5.1 pm so⟩
  have:=pm.length_eq
  rw [List.length_map,this,List.length_zip,sizeLine_eq]
  omega
end
end L2.G
namespace L2
open PySem PySem.Spec PyProof.Rows
section
variable {X:Cx}
def qZK (P:Addr) (K:PySem.W.Frag) (q:Str) (fv:List Nat) (te:TE) (ta:TA):TE:=fun σ H Q=>ta σ H fun vs H1=>H1 P=some (.tbl (.tab q))∧
 ∃ (l:Addr) (xs:List V) (ks:List (List Int)),vs=[.ref l]∧(SqT K H1 l xs∨SqL K H1 l xs)∧xs.length≤63∧ks.length=xs.length∧(∀ (i:Nat) (x:V) (k:List Int),xs[i]?=some x→ks[i]?=some k→∀ Hc,Sm0 H1 Hc→te (qGU fv σ x) Hc fun y H'=>Sm0 Hc H'∧G.KR0 H' y k)∧
  ∀ (H':Hp) (D:Addr) (zs:List (List Int × V)),Sm0 H1 H'→H' D=none→zs.Perm (ks.zip xs)→zs.Pairwise (fun a b=>HT.lexLt b.1 a.1=false)→Q (.ref D) (upd H' D (.lst (zs.map (·.2))))
theorem qW0 {e:Expr} {ta:TA} {np pos kpos lpos:Pos} {params:Arguments} {body:Expr} {scope:Scope} {c P:Addr} {q:Str} {p:Str} {fv:List Nat} {te:TE}
  (rm:Room 2 X.A) (hg:Gl X "sorted") (hm:X.mg "sorted" = none) (hv:bootBuiltins "sorted" = some (.builtin "sorted")) (hb:BM X.mg X.base) (hcode:X.env.code=.ref c) (hd:hdIn X.K c P=true) (hq:X.env.qual ++ "<lambda>" = q)
  (S:LmScope X scope p fv) (hdef:defaultsOf params X.env=([],[])) (hbind:∀ (cl:List (Str × Addr)) (pm cd ct u:Value),bindArgs (PySem.W.kla_fn "<lambda>" q params body scope cl pm cd ct) ⟨[u],[]⟩=pure [(p,u)])
  (ha:PA X [e] ta) (he:∀ z,PE (lmCx X scope p fv q z) body te) (hs:starEach [e] X.env=[(false,eval e X.env)]:=by rfl) :
  PE X (.Call (.Name "sorted" np) [e] [⟨some "key",.Lambda params body scope lpos,kpos⟩] pos) (qZK P X.K q fv te ta):=by
 intro pins s σ H Q I h
 refine wpAny_Call_Name_kw (qGK I hg hm hv ?_ (by decide) (by decide))
 refine PyProof.Rows.callWith_kw (thn (ha pos pins s σ H _ I h) fun us s1 ⟨vs,H1,I1,r1,q1⟩=>?_) (by rw [hs];rfl) (by rw [hs];rfl)
 obtain ⟨hP,l,xs,ks,rfl,hl,hz,lk,hk,q2⟩:=q1
 obtain ⟨u,rfl,rx⟩:=qEY r1
 cases rx
 have C:=qOU (c:=c) (P:=P) I1.ok.mod.kin hd
 have pl:=qXF (X:=X) (pos:=lpos) (body:=body) hb hcode C hq S hdef
 refine thn (qPK (kpos:=kpos) (nm:=some "key") pl qTQ pos pins s1 σ H1 (fun zs H2=>∃ f cc ctv,zs=[.ref f]∧Sm0 H1 H2∧H2 f=some (LamF X q params body scope cc ctv f)∧H2 cc=some (.tbl (.cod q))) I1 ⟨hP,fun f cc ctv H' sm h0 hf hcc=>⟨f,cc,ctv,rfl,sm,hf,hcc⟩⟩) fun ws s2 ⟨zs,H2,I2,rz,f,cc,ctv,ez,sm,hf,hcc⟩=>?_
 subst ez
 obtain ⟨u2,rfl,r2⟩:=qEY rz
 cases r2
 have hA:X.A.in1.in1.frames=some X.stack:=I2.ok.frames
 exact G.sorti_call (H:=H2) rm hA S hbind he ⟨lk,fun i x k hx hk' Hc smc=>hk i x k hx hk' Hc fun b o e=>smc b o (sm b o e)⟩ hf hcc (hl.imp (fun z=>z.sm sm) fun z=>z.sm sm) I2 hz
  fun H' D zs smc a b c=>q2 H' D zs (fun b o e=>smc b o (sm b o e)) a b c
end
end L2
namespace Fw
open PySem L2
theorem qDH:bootBuiltins "len" = some (.builtin "len"):=by decide +kernel
theorem qRS:bootBuiltins "min" = some (.builtin "min"):=by decide +kernel
theorem qGM:bootBuiltins "max" = some (.builtin "max"):=by decide +kernel
theorem qEX:bootBuiltins "sorted" = some (.builtin "sorted"):=by decide +kernel
theorem qVD:bootBuiltins "divmod" = some (.builtin "divmod"):=by decide +kernel
theorem qOY:bootBuiltins "all" = some (.builtin "all"):=by decide +kernel
theorem qAS:bootBuiltins "isinstance" = some (.builtin "isinstance"):=by decide +kernel
theorem qXV:bootBuiltins "int" = some (.type "int"):=by decide +kernel
theorem qZ4:bootBuiltins "bool" = some (.type "bool"):=by decide +kernel
theorem qXU:bootBuiltins "str" = some (.type "str"):=by decide +kernel
theorem qH0:bootBuiltins "list" = some (.type "list"):=by decide +kernel
theorem qD7:bootBuiltins "tuple" = some (.type "tuple"):=by decide +kernel
theorem qDI:bootBuiltins "enumerate" = some (.type "enumerate"):=by decide +kernel
structure StAt (H:Hp) (d c:Addr) (t:Int) (ns:List Int):Prop where
 dict:H d=some (.dK [(Sum.inr "cells",.ref c),(Sum.inr "turn",.int t)])
 list:H c=some (.lst (ns.map V.int))
 ne:0<ns.length
 len:ns.length≤63
 pos:0≤t
def Keep (d c:Addr) (H H':Hp):Prop:=∀ b o,H b=some o→b ≠ d→b ≠ c→H' b=some o
theorem Keep.refl {d c:Addr} {H:Hp}:Keep d c H H:=fun _ _ h _ _=>h
theorem Keep.trans {d c:Addr} {H H1 H2:Hp} (a:Keep d c H H1) (b:Keep d c H1 H2):Keep d c H H2:=fun x o h n m=>b x o (a x o h n m) n m
theorem Keep.of_same {d c:Addr} {H H':Hp} (h:Same H H'):Keep d c H H':=fun b o e _ _=>h b o e
theorem qA2 {H:Hp} {p:Addr} (h:H p=none) (o:HO):Same H (upd H p o):=fun b u q=>by rw [qA7 (qA5 q h)];exact q
theorem qE8 {d c:Addr} {H:Hp} {p:Addr} (h:H p=none) (o:HO):Keep d c H (upd H p o):=.of_same (qA2 h o)
theorem StAt.ndc {H:Hp} {d c:Addr} {t:Int} {ns:List Int} (S:StAt H d c t ns):d ≠ c:=qC9 S.dict S.list (by intro z;cases z)
theorem StAt.same {H H':Hp} {d c:Addr} {t:Int} {ns:List Int} (S:StAt H d c t ns) (h:Same H H'):StAt H' d c t ns:=⟨h _ _ S.dict,h _ _ S.list,S.ne,S.len,S.pos⟩
theorem StAt.new {H:Hp} {d c p:Addr} {t:Int} {ns:List Int} (S:StAt H d c t ns) (h:H p=none) (o:HO):StAt (upd H p o) d c t ns:=S.same (qA2 h o)
theorem s_cs:¬ (Str.ofString "cells" = Str.ofString "turn"):=by decide +kernel
theorem s_ct:¬ ((Sum.inr (Str.ofString "cells"):Key)=Sum.inr (Str.ofString "turn")):=fun h=>s_cs (Sum.inr.inj h)
theorem qZ1 {H:Hp} {d c:Addr} {t:Int} {ns:List Int} (S:StAt H d c t ns):DGet H d (.str "turn") (some (.int t)):=by
 have h:=DGet.k (k:=Sum.inr "turn") S.dict
 rw [qBO s_ct,qBT rfl] at h
 exact h
theorem qMO {H:Hp} {d c:Addr} {t:Int} {ns:List Int} (S:StAt H d c t ns):DGet H d (.str "cells") (some (.ref c)):=by
 have h:=DGet.k (k:=Sum.inr "cells") S.dict
 rw [qBT rfl] at h
 exact h
theorem qVW (c:Addr) (t u:Int):putK [((Sum.inr "cells" : Key),V.ref c),(Sum.inr "turn",V.int t)] (Sum.inr "turn") (V.int u)=[((Sum.inr "cells" : Key),V.ref c),(Sum.inr "turn",V.int u)]:=by
 unfold putK
 simp [s_cs]
theorem qYZ {H:Hp} {d c:Addr} {t u:Int} {ns:List Int} (S:StAt H d c t ns):DPut H d (.str "turn") (.int u) (upd H d (.dK [(Sum.inr "cells",.ref c),(Sum.inr "turn",.int u)])):=by
 have h:=DPut.k (k:=Sum.inr "turn") (v:=.int u) S.dict (by rw [sizeLine_eq];exact (by decide:2<16777216))
 rw [qVW] at h
 exact h
theorem StAt.turn {H:Hp} {d c:Addr} {t u:Int} {ns:List Int} (S:StAt H d c t ns) (h:0≤u):StAt (upd H d (.dK [(Sum.inr "cells",.ref c),(Sum.inr "turn",.int u)])) d c u ns:=
 ⟨qA1,by rw [qA7 (Ne.symm S.ndc)];exact S.list,S.ne,S.len,h⟩
theorem StAt.put {H:Hp} {d c:Addr} {t:Int} {ns ms:List Int} (S:StAt H d c t ns) (h:ms.length=ns.length):StAt (upd H c (.lst (ms.map V.int))) d c t ms:=
 ⟨by rw [qA7 S.ndc];exact S.dict,qA1,by rw [h];exact S.ne,by rw [h];exact S.len,S.pos⟩
abbrev TB:Int:=1000000000
def qND:Sp:=fun vs H Q _=>∃ d c t ns m,vs=[.ref d,.int m]∧StAt H d c t ns∧t≤TB∧1≤m∧m≤1000000∧∀ k ns' H',0≤k→k<m→StAt H' d c (t+1) ns'→Keep d c H H'→Q (.int k) H'
def qTC (K:PySem.W.Frag):Sp:=fun vs H Q _=>∃ (a:Addr) (ns:List Int),vs=[.ref a]∧SqL K H a (ns.map V.int)∧ns.length≤63∧∀ d c ms H',StAt H' d c 0 ms→Same H H'→H d=none→H c=none→Q (.ref d) H'
def cutI {α:Type} (xs:List α) (lo hi:Option Int):List α:=(xs.drop (HT.sIx xs.length 0 lo)).take (HT.sIx xs.length xs.length hi - HT.sIx xs.length 0 lo)
theorem qHX {α:Type} (f:α→V) (xs:List α) (lo hi:Option Int):cutV (xs.map f) lo hi=(cutI xs lo hi).map f:=by
 unfold cutV cutI
 rw [List.length_map,← List.map_drop,← List.map_take]
theorem qWY {α:Type} (xs:List α) (lo hi:Option Int):(cutI xs lo hi).length≤xs.length:=by
 unfold cutI
 rw [List.length_take,List.length_drop]
 omega
theorem qXI (c:Addr) (t:Int):qJZ [] [((Sum.inr (Str.ofString "cells"):Key),V.ref c),(Sum.inr (Str.ofString "turn"),V.int t)]=[((Sum.inr (Str.ofString "cells"):Key),V.ref c),(Sum.inr (Str.ofString "turn"),V.int t)]:=by
 unfold qJZ
 simp only [List.foldl_cons,List.foldl_nil]
 unfold putK
 simp [s_cs]
theorem qMJ {xs:List V} {j:Nat} (h:j<xs.length):ixN xs.length (j:Int)=some j:=by
 unfold ixN
 rw [if_pos (by omega),if_pos (by omega),Int.toNat_natCast]
def qbC (K:PySem.W.Frag):Sp:=fun vs H Q _=>∃ (a:Addr) (ns:List Int),vs=[.ref a]∧SqL K H a (ns.map V.int)∧ns.length≤63∧∀ H',Q (.bl true) H'
theorem cut {t u:TS} {D:Ends} {σ:St} {H:Hp} (h:∀ N:St→Hp→Prop,(∀ σ H,u D σ H→N σ H)→t { D with nx:=N } σ H):tSeq t u D σ H:=h _ fun _ _ z=>z
theorem opq {A:Prop} (h:∀ G:Prop,(A→G)→G):A:=h A id
structure Rise (k:Int) (zs:List Int):Prop where
 up:zs.Pairwise (·<·)
 in_:∀ x ∈ zs,0≤x∧x<k
theorem Rise.nil {k:Int}:Rise k []:=⟨.nil,fun _ h=>nomatch h⟩
theorem Rise.sub {k:Int} {zs ys:List Int} (h:Rise k zs) (s:ys.Sublist zs):Rise k ys:=⟨h.up.sublist s,fun x hx=>h.in_ x (s.subset hx)⟩
theorem Rise.snoc {k:Int} {zs:List Int} (h:Rise k zs) (h0:0≤k):Rise (k+1) (zs++[k]):=by
 refine ⟨List.pairwise_append.mpr ⟨h.up,List.pairwise_singleton _ _,fun a ha b hb=>?_⟩,fun x hx=>?_⟩
 ·rw [List.mem_singleton.mp hb];exact (h.in_ a ha).2
 ·rcases List.mem_append.mp hx with hx | hx
  ·have:=h.in_ x hx;omega
  ·rw [List.mem_singleton.mp hx];omega
theorem Rise.nodup {k:Int} {zs:List Int} (h:Rise k zs):zs.Nodup:=h.up.imp fun {a b} hab=>by omega
theorem Rise.len {zs:List Int} {k:Nat} (h:Rise (k:Int) zs):zs.length≤k:=by
 have sub:zs ⊆ (List.range k).map fun (i:Nat)=>(i:Int):=fun x hx=>by
  have:=h.in_ x hx
  exact List.mem_map.mpr ⟨x.toNat,List.mem_range.mpr (by omega),by omega⟩
 have:=List.Nodup.length_le_of_subset h.nodup sub
 simpa using this
theorem mem_addI {zs:List Int} {k x:Int}:x ∈ addI zs k ↔ x ∈ zs∨x=k:=by
 unfold addI
 split
 ·rename_i h
  constructor
  ·exact .inl
  ·rintro (z | rfl)
   ·exact z
   ·exact h
 ·simp
theorem qFL {zs:List Int} (h1:zs.Pairwise (·≤·)) (h2:zs.Nodup):zs.Pairwise (·<·):=by
 have h3:zs.Pairwise (fun a b=>a≤b∧a ≠ b):=List.pairwise_and_iff.mpr ⟨h1,h2⟩
 exact h3.imp fun {a b} ⟨x,y⟩=>by omega
def qFG (lo hi:Int):List Int:=(List.range (hi - lo).toNat).map fun (i:Nat)=>lo+i
theorem mem_rangeI {lo hi x:Int}:x ∈ qFG lo hi ↔ lo≤x∧x<hi:=by
 unfold qFG
 rw [List.mem_map]
 constructor
 ·rintro ⟨i,hi',e⟩
  have:=List.mem_range.mp hi'
  omega
 ·intro h
  exact ⟨(x - lo).toNat,List.mem_range.mpr (by omega),by omega⟩
theorem qS5 (lo hi:Int):(qFG lo hi).length=(hi - lo).toNat:=by unfold qFG;simp
theorem qNI (lo hi:Int):(qFG lo hi).Pairwise (·<·):=by
 unfold qFG
 exact List.pairwise_map.mpr (List.pairwise_lt_range.imp fun {a b} h=>by omega)
theorem qV7 {α:Type} (xs:List α) (k:Nat) (h:k≤xs.length):cutI xs (some (k:Int)) none=xs.drop k:=by
 unfold cutI
 rw [HT.sIx_nat,HT.sIx_none,Nat.min_eq_left h]
 exact List.take_of_length_le (by rw [List.length_drop];exact Nat.le_refl _)
theorem qV6 {α:Type} (xs:List α) (k:Nat):cutI xs none (some (k:Int))=xs.take k:=by
 unfold cutI
 rw [HT.sIx_nat,HT.sIx_none,List.drop_zero,Nat.sub_zero]
 rcases Nat.le_total k xs.length with h | h
 ·rw [Nat.min_eq_left h]
 ·rw [Nat.min_eq_right h,List.take_of_length_le h,List.take_of_length_le (Nat.le_refl _)]
abbrev NetL (H:Hp):List Addr→List (List Int)→Prop:=Paired fun r zs=>H r=some (.tup (zs.map V.int))
theorem NetL.keep {d c:Addr} {H H':Hp} {rs:List Addr} {net:List (List Int)} (h:NetL H rs net) (hd:∀ r zs,H r=some (.tup zs)→r ≠ d∧r ≠ c) (k:Keep d c H H'):NetL H' rs net:=by
 induction h with
 | nil=>exact .nil
 | cons r t ih=>exact .cons (k _ _ r (hd _ _ r).1 (hd _ _ r).2) ih
theorem NetL.same {H H':Hp} {rs:List Addr} {net:List (List Int)} (h:NetL H rs net) (k:∀ r zs,H r=some (.tup zs)→H' r=some (.tup zs)):NetL H' rs net:=by
 induction h with
 | nil=>exact .nil
 | cons r t ih=>exact .cons (k _ _ r) ih
theorem NetL.get {H:Hp}:∀ {rs:List Addr} {net:List (List Int)} {i:Nat} {zs:List Int},NetL H rs net→net[i]?=some zs→∃ r,rs[i]?=some r∧H r=some (.tup (zs.map V.int))
 | _,_,_,_,.nil,e=>by simp at e
 | _,_,0,_,.cons r _,e=>by simp at e;subst e;exact ⟨_,rfl,r⟩
 | _,_,i+1,zs,.cons _ t,e=>by
  obtain ⟨r,h1,h2⟩:=NetL.get (i:=i) (zs:=zs) t (by simpa using e)
  exact ⟨r,by simpa using h1,h2⟩
def NetAt (H:Hp) (a:Addr) (net:List (List Int)):Prop:=∃ rs:List Addr,H a=some (.tup (rs.map V.ref))∧NetL H rs net
theorem StAt.tup {H:Hp} {d c:Addr} {t:Int} {ns:List Int} (S:StAt H d c t ns) {r:Addr} {zs:List V} (h:H r=some (.tup zs)):r ≠ d∧r ≠ c:=
 ⟨qC9 h S.dict (by intro z;cases z),qC9 h S.list (by intro z;cases z)⟩
theorem NetAt.keep {H H':Hp} {d c:Addr} {t:Int} {ns:List Int} (S:StAt H d c t ns) {a:Addr} {net:List (List Int)} (h:NetAt H a net) (k:Keep d c H H'):NetAt H' a net:=by
 obtain ⟨rs,h1,h2⟩:=h
 exact ⟨rs,k _ _ h1 (S.tup h1).1 (S.tup h1).2,h2.keep (fun r zs e=>S.tup e) k⟩
theorem NetAt.same {H H':Hp} {a:Addr} {net:List (List Int)} (h:NetAt H a net) (k:Same H H'):NetAt H' a net:=by
 obtain ⟨rs,h1,h2⟩:=h
 exact ⟨rs,k _ _ h1,h2.same fun r zs e=>k _ _ e⟩
theorem NetAt.len {H:Hp} {rs:List Addr} {net:List (List Int)} (h:NetL H rs net):rs.length=net.length:=Paired.length h
def WFn (net:List (List Int)):Prop:=∀ (i:Nat) zs,net[i]?=some zs→Rise (i:Int) zs
theorem WFn.snoc {net:List (List Int)} {zs:List Int} (h:WFn net) (hz:Rise (net.length:Int) zs):WFn (net++[zs]):=by
 intro i ys e
 rcases Nat.lt_trichotomy i net.length with l | l | l
 ·rw [List.getElem?_append_left l] at e;exact h i ys e
 ·subst l
  simp at e
  subst e
  exact hz
 ·rw [List.getElem?_eq_none (by rw [List.length_append,List.length_singleton];omega)] at e
  cases e
theorem WFn.nil:WFn []:=fun i zs e=>by simp at e
theorem qHK {α β:Type} {F:α→β→Prop} {a:α} {b:β} {l₁:List α} {l₂:List β} (h:Paired F l₁ l₂) (r:F a b):Paired F (l₁++[a]) (l₂++[b]):=Paired.snoc h r
theorem qbH {k:Int} (h0:0≤k) (h1:k<6):∃ v,atI [V.int 0,V.int 0,V.int 1,V.int 2,V.int 2,V.int 3] k=some (.int v)∧0≤v∧v≤3:=by
 rcases (by omega:k=0∨k=1∨k=2∨k=3∨k=4∨k=5) with rfl | rfl | rfl | rfl | rfl | rfl
 all_goals exact ⟨_,rfl,by decide,by decide⟩
theorem qAG {H Hc:Hp} {p:Addr} {o:HO} (h:Same H Hc) (hp:H p=none):Same H (upd Hc p o):=fun b u e=>by rw [qA7 (qA5 e hp)];exact h b u e
theorem qHM {d c:Addr} {H Hc:Hp} {p:Addr} {o:HO} (h:Keep d c H Hc) (hp:H p=none):Keep d c H (upd Hc p o):=fun b u e n1 n2=>by rw [qA7 (qA5 e hp)];exact h b u e n1 n2
theorem qRC (rs:List Addr) (r:Addr):rs.map V.ref++[V.ref r]=(rs++[r]).map V.ref:=by rw [List.map_append];rfl
theorem qDS {α β:Type} {F:α→β→Prop}:∀ {l₁:List α} {l₂:List β} {i:Nat} {a:α},Paired F l₁ l₂→l₁[i]?=some a→∃ b,l₂[i]?=some b∧F a b
 | _,_,_,_,.nil,e=>by simp at e
 | _,_,0,_,.cons r _,e=>by simp at e;subst e;exact ⟨_,rfl,r⟩
 | _,_,i+1,a,.cons _ t,e=>by
  obtain ⟨b,h1,h2⟩:=qDS (i:=i) (a:=a) t (by simpa using e)
  exact ⟨b,by simpa using h1,h2⟩
theorem qB0 {α β:Type} {F G:α→β→Prop} {l₁:List α} {l₂:List β} (h:Paired F l₁ l₂) (k:∀ a b,F a b→G a b):Paired G l₁ l₂:=by
 induction h with
 | nil=>exact .nil
 | cons r t ih=>exact .cons (k _ _ r) ih
theorem qIA {rs:List Addr} {i:Nat} {x:V} (h:(rs.map V.ref)[i]?=some x):∃ r,rs[i]?=some r∧x=.ref r:=by
 rw [List.getElem?_map] at h
 cases e:rs[i]? with
 | none=>rw [e] at h;cases h
 | some r=>rw [e] at h;exact ⟨r,rfl,(Option.some.inj h).symm⟩
theorem qAM {zs:List Int} {i:Nat} {x:V} (h:(zs.map V.int)[i]?=some x):∃ z,zs[i]?=some z∧x=.int z:=by
 rw [List.getElem?_map] at h
 cases e:zs[i]? with
 | none=>rw [e] at h;cases h
 | some r=>rw [e] at h;exact ⟨r,rfl,(Option.some.inj h).symm⟩
theorem qQ1 (a:Int) (zs:List Int):inV (.int a) (zs.map V.int)=decide (a ∈ zs):=by
 unfold inV
 induction zs with
 | nil=>simp
 | cons z r ih=>
  rw [List.map_cons,List.any_cons,ih]
  have e:eqV (.int z) (.int a)=decide (a=z):=by
   by_cases h:z=a
   ·subst h;simp [eqV]
   ·have h':¬ a=z:=fun q=>h q.symm
    simp [eqV,h,h']
  rw [e]
  simp [List.mem_cons]
theorem qKD (zs:List Int):(zs.map V.int).all qML=true:=by
 rw [List.all_eq_true]
 intro x hx
 obtain ⟨z,_,rfl⟩:=List.mem_map.mp hx
 rfl
def qZE (ns st:List Int) (rooms wk:Int):V:=if wk ∈ st then .str "there" else if ∀ x ∈ ns,x ∈ st then (if rooms≤(st.length:Int) then .str "full" else .non) else .str "needs"
def qSZ (st:List Int) (wk:Int):V:=if wk ∈ st then .non else .str "empty"
def qZD (ns st:List Int) (rooms:Int) (word:Str) (wk:Int):V:=if word = "do" then qZE ns st rooms wk else qSZ st wk
theorem qC2 {xs:List V} {i:Int} {x:V} (h0:0≤i) (h:xs[i.toNat]?=some x):atI xs i=some x:=by
 have e:i=((i.toNat:Nat):Int):=by omega
 rw [e]
 exact qVJ (by simpa using h)
theorem NetAt.get {H:Hp} {a:Addr} {net:List (List Int)} {ns:List Int} {i:Nat} (h:NetAt H a net) (e:net[i]?=some ns):∃ (rs:List Addr) (r:Addr),H a=some (.tup (rs.map V.ref))∧rs.length=net.length∧(rs.map V.ref)[i]?=some (.ref r)∧H r=some (.tup (ns.map V.int)):=by
 obtain ⟨rs,h1,h2⟩:=h
 obtain ⟨r,h3,h4⟩:=h2.get e
 exact ⟨rs,r,h1,Paired.length h2,by rw [List.getElem?_map,h3];rfl,h4⟩
def qb6 (t:TS):TS:=fun D σ H=>∃ Pm:St→Hp→Prop,t { D with nx:=Pm } σ H∧∀ σ' H',Pm σ' H'→D.nx σ' H'
theorem qTM {X:Cx} {st:Stmt} {t:TS} (h:PS X st t):PS X st (qb6 t):=by
 intro pins s σ H D I hq
 obtain ⟨Pm,h1,h2⟩:=hq
 refine thn (h pins s σ H _ I h1) fun f s' q=>?_
 cases f with
 | next=>obtain ⟨σ',H',I',q⟩:=q;exact ⟨σ',H',I',h2 _ _ q⟩
 | brk=>exact q
 | cont=>exact q
 | ret u=>exact q
theorem qaX:bootBuiltins "zip" = some (.type "zip"):=by decide +kernel
def seqO (b:Bool) (xs:List V):HO:=match b with | true=>.tup xs | false=>.lst xs
def Leaf (x:V):Prop:=x=.non∨(∃ i,x=.int i)∨∃ y,x=.str y
def Alike (H:Hp):Nat→V→V→Prop
 | 0,x,y=>x=y∧Leaf x
 | n+1,x,y=>(x=y∧Leaf x)∨∃ (b:Bool) (a c:Addr) (xs ys:List V),x=.ref a∧y=.ref c∧H a=some (seqO b xs)∧H c=some (seqO b ys)∧xs.length=ys.length∧xs.length≤100000∧∀ (i:Nat) (x' y':V),xs[i]?=some x'→ys[i]?=some y'→Alike H n x' y'
theorem Alike.same {H H':Hp} (s:Same H H'):∀ {n:Nat} {x y:V},Alike H n x y→Alike H' n x y:=by
 intro n
 induction n with
 | zero=>exact fun {x y} h=>show x=y∧Leaf x from h
 | succ n ih=>
  rintro x y (h | ⟨b,a,c,xs,ys,e1,e2,h1,h2,hl,hb,h⟩)
  ·exact .inl h
  ·exact .inr ⟨b,a,c,xs,ys,e1,e2,s _ _ h1,s _ _ h2,hl,hb,fun i x' y' q1 q2=>ih (h i x' y' q1 q2)⟩
def qZQ (n:Nat):Sp:=fun vs H Q _=>∃ x y:V,vs=[x,y]∧Alike H n x y∧∀ H',Same H H'→Q (.bl true) H'
theorem SqB.of {b:Bool} {K:PySem.W.Frag} {H:Hp} {a:Addr} {xs:List V} (h:H a=some (seqO b xs)):SqB b K H a xs:=by
 cases b
 ·exact SqL.of h
 ·exact SqT.of h
def tyOf (b:Bool):Value:=match b with | true=>.type "tuple" | false=>.type "list"
theorem qJE {b:Bool} {K:PySem.W.Frag} {H:Hp} {a:Addr} {xs:List V} (h:H a=some (seqO b xs)):TyOf K H (.ref a) (tyOf b):=by
 cases b
 ·exact TyOf.lst h
 ·exact TyOf.tup h
section
variable {K:PySem.W.Frag}
theorem qLF (b:Bool):PySem.W.kitOne K (tyOf b) (.type "list")=some (!b):=by cases b <;> rfl
theorem qO8 (b:Bool):PySem.W.kitOne K (tyOf b) (.type "tuple")=some b:=by cases b <;> rfl
theorem qaH:PySem.W.kitOne K (.type "str") (.type "list")=some false:=by rfl
theorem qaG:PySem.W.kitOne K (.type "str") (.type "tuple")=some false:=by rfl
theorem qXM:PySem.W.kitOne K (.type "str") (.type "str")=some true:=by rfl
theorem qaK:PySem.W.kitOne K (.type "int") (.type "list")=some false:=by rfl
theorem qaI:PySem.W.kitOne K (.type "int") (.type "tuple")=some false:=by rfl
theorem qaJ:PySem.W.kitOne K (.type "int") (.type "str")=some false:=by rfl
theorem qaL:PySem.W.kitOne K (.type "int") (.type "int")=some true:=by rfl
theorem qaM:PySem.W.kitOne K (.type "int") (.type "bool")=some false:=by rfl
end
theorem qVF {i:Nat}:((List.replicate i true).map V.bl)++[V.bl true]=(List.replicate (i+1) true).map V.bl:=by
 rw [List.replicate_succ',List.map_append];rfl
theorem qVL {n:Nat}:(List.replicate n true).all id=true:=by simp
theorem qC7 {α:Type} {p:α→Bool} {l:List α} {i:Nat} {x:α} (h:l[i]?=some x):(l.take (i+1)).filter p=(l.take i).filter p++(if p x then [x] else []):=by
 rw [List.take_add_one,h,Option.toList_some,List.filter_append]
 by_cases hp:p x=true
 ·simp [hp]
 ·simp [hp]
end Fw
namespace L2
open PySem PySem.Spec PyProof.Rows Fw
section
variable {X:Cx} {pins:List (Addr × Obj)} {σ:St} {H:Hp} {s:Shared}
end
end L2
namespace HT
open PySem PySem.Spec PyProof.Rows
section
variable {prog:Program} {w:World} {A:Around} {E:Value→Shared→Prop} {s:Shared}
end
end HT
namespace L2
open PySem PySem.Spec PyProof.Rows Fw
section
variable {X:Cx} {e:Expr} {te:TE} {st:Option Expr} {tst:TO} {pos p2:Pos}
theorem qPO (hu:X.A.units<cLine):OpR X (compareOp .NotEq) (fun x y H Q=>∃ (p l:Addr) (zs ys:List Int),x=.ref p∧y=.ref l∧SqL X.K H p (zs.map V.int)∧SqL X.K H l (ys.map V.int)∧Q (.bl (decide (zs ≠ ys))) H):=by
 intro pins s σ H x y v u Q I rx ry h
 obtain ⟨p,l,zs,ys,rfl,rfl,h1,h2,q⟩:=h
 cases rx
 cases ry
 obtain ⟨us,r1,p1,z1⟩:=I.list h1
 obtain ⟨vs,r2,p2,z2⟩:=I.list h2
 have l1:=r1.length
 have l2:=r2.length
 rw [List.length_map] at l1 l2
 by_cases hl:zs.length=ys.length
 ·refine PySem.SeqAt.RcNeAt.lists (e:=fun j=>decide (zs[j]?=ys[j]?)) p1.isList p2.isList (by simp [← l1,← l2,hl]) hu (fun j h1 h2=>?_) _ _ _ _ ⟨.bl (decide (zs ≠ ys)),H,I,?_,q⟩
  ·rw [List.size_toArray] at h1 h2
   have hz:j<zs.length:=by omega
   have hy:j<ys.length:=by omega
   obtain ⟨a,ea,ra⟩:=r1.get (i:=j) (x:=.int zs[j]) (by rw [List.getElem?_map,List.getElem?_eq_getElem hz];rfl)
   obtain ⟨b,eb,rb⟩:=r2.get (i:=j) (x:=.int ys[j]) (by rw [List.getElem?_map,List.getElem?_eq_getElem hy];rfl)
   obtain ⟨t,rfl⟩:=ra
   obtain ⟨t',rfl⟩:=rb
   have e1:us.toArray[j]=.int zs[j] t:=by
    rw [List.getElem_toArray]
    exact Option.some.inj ((List.getElem?_eq_getElem h1).symm.trans ea)
   have e2:vs.toArray[j]=.int ys[j] t':=by
    rw [List.getElem_toArray]
    exact Option.some.inj ((List.getElem?_eq_getElem h2).symm.trans eb)
   rw [e1,e2]
   have:=SeqAt.EqAt.int_int (A:=X.A.in1) (s:=s) zs[j] t ys[j] t'
   rw [show (zs[j] == ys[j])=decide (zs[j]?=ys[j]?) by rw [List.getElem?_eq_getElem hz,List.getElem?_eq_getElem hy];by_cases c:zs[j]=ys[j] <;> simp [c]] at this
   exact this
  ·show Value.bool _=Value.bool _
   congr 1
   rw [List.size_toArray,← l1]
   by_cases c:zs=ys
   ·subst c
    simp
   ·have dc:decide (zs ≠ ys)=true:=decide_eq_true c
    rw [dc]
    rw [Bool.not_eq_true']
    rw [← Bool.not_eq_true,List.all_eq_true]
    intro z
    apply c
    apply List.ext_getElem?
    intro i
    by_cases hi:i<zs.length
    ·exact of_decide_eq_true (z i (List.mem_range.mpr hi))
    ·rw [List.getElem?_eq_none (by omega),List.getElem?_eq_none (by omega)]
 ·refine PySem.SeqAt.RcNeAt.lists_lengths p1.isList p2.isList (by simp;omega) hu _ _ _ _ ⟨.bl true,H,I,rfl,?_⟩
  have:decide (zs ≠ ys)=true:=decide_eq_true (fun z=>hl (by rw [z]))
  rw [this] at q
  exact q
end
end L2
namespace Fw
open PySem L2
theorem qL7 {α β:Type} {F:α→β→Prop} {a c:List α} {b d:List β} (h:Paired F a b) (k:Paired F c d):Paired F (a++c) (b++d):=by
 induction h with
 | nil=>exact k
 | cons r t ih=>exact .cons r ih
def wd (net:List (List Int)) (st:List Int) (rooms:Int) (m:Str × Int):V:=qZD ((net[m.2.toNat]?).getD []) st rooms m.1 m.2
theorem qST {H:Hp} {l l':Addr} {zs:List Int} (e:H l=some (.lst (zs.map V.int))) (e':H l'=some (.lst (zs.map V.int))) (hl:zs.length≤100000):Alike H 1 (.ref l) (.ref l'):=by
 refine .inr ⟨false,l,l',_,_,rfl,rfl,e,e',rfl,by rw [List.length_map];exact hl,fun i x y hx hy=>?_⟩
 rw [hx] at hy
 cases hy
 obtain ⟨z,_,rfl⟩:=qAM hx
 exact ⟨rfl,.inr (.inl ⟨z,rfl⟩)⟩
theorem rep0:∀ n:Nat,(List.replicate n [V.int 0]).flatten=(List.replicate n (0:Int)).map V.int
 | 0=>rfl
 | n+1=>by rw [List.replicate_succ,List.replicate_succ,List.flatten_cons,rep0 n];rfl
theorem qPH {n:Int} {i:Nat} (h:(i:Int)<n):(qFG 0 n)[i]?=some (i:Int):=by
 unfold qFG
 rw [List.getElem?_map,List.getElem?_range (by omega)]
 simp
theorem qAO {α:Type} {l:List α} {n:Nat} (h:l.length=n):l.take n=l:=List.take_of_length_le (by omega)
theorem qFP {p:Int→Bool} {l:List Int} {i:Nat}:((l.take i).filter p).length≤i:=by
 have:=List.length_filter_le p (l.take i)
 rw [List.length_take] at this
 omega
structure Cnt (n:Nat) (cs:List Int) (seen:List Int):Prop where
 len:cs.length=n
 at_:∀ x:Nat,x<n→∃ c,cs[x]?=some c∧0≤c∧(c=0 ↔ (x:Int) ∉ seen)
theorem qC0 {n:Nat} (h:n≤1000000):n<sizeLine:=by rw [sizeLine_eq];omega
inductive Nd (net:List (List Int)) (asked:List Int):Int→Prop
 | ask {x:Int}:x ∈ asked→Nd net asked x
 | need {w y:Int} {zs:List Int}:Nd net asked w→net[w.toNat]?=some zs→y ∈ zs→Nd net asked y
structure KeysI (kvs:List (Key × V)) (ks:List Int):Prop where
 keys:kvs.map (·.1)=ks.map Sum.inl
 nd:ks.Nodup
theorem KeysI.len {kvs:List (Key × V)} {ks:List Int} (h:KeysI kvs ks):kvs.length=ks.length:=by
 have:=congrArg List.length h.keys
 simpa using this
theorem KeysI.nil:KeysI [] []:=⟨rfl,.nil⟩
theorem qQE (k:Key):∀ kvs:List (Key × V),(kvs.any fun kv=>decide (kv.1=k))=true ↔ k ∈ kvs.map (·.1)
 | []=>by simp
 | p::r=>by
  rw [List.any_cons,List.map_cons,Bool.or_eq_true,qQE k r,List.mem_cons,decide_eq_true_eq]
  exact or_congr_left ⟨Eq.symm,Eq.symm⟩
theorem KeysI.mem {kvs:List (Key × V)} {ks:List Int} (h:KeysI kvs ks) (x:Int):(Sum.inl x:Key) ∈ kvs.map (·.1) ↔ x ∈ ks:=by
 rw [h.keys,List.mem_map]
 exact ⟨fun ⟨y,hy,e⟩=>Sum.inl.inj e ▸ hy,fun hx=>⟨x,hx,rfl⟩⟩
theorem KeysI.has {kvs:List (Key × V)} {ks:List Int} (h:KeysI kvs ks) (x:Int):(valV kvs (Sum.inl x)).isSome=decide (x ∈ ks):=by
 rw [← qGB]
 have:=(qQE (Sum.inl x) kvs).trans (h.mem x)
 by_cases e:x ∈ ks
 ·rw [decide_eq_true e]
  exact this.mpr e
 ·rw [decide_eq_false e]
  exact Bool.eq_false_iff.mpr fun z=>e (this.mp z)
theorem qRD (k:Key) (v:V):∀ kvs:List (Key × V),(kvs.map fun kv=>if kv.1=k then (kv.1,v) else kv).map (·.1)=kvs.map (·.1)
 | []=>rfl
 | p::r=>by
  rw [List.map_cons,List.map_cons,List.map_cons,qRD k v r]
  congr 1
  split <;> rfl
theorem KeysI.put {kvs:List (Key × V)} {ks:List Int} (h:KeysI kvs ks) (x:Int) (v:V):KeysI (putK kvs (Sum.inl x) v) (addI ks x):=by
 have key:=(qQE (Sum.inl x) kvs).trans (h.mem x)
 unfold putK addI
 by_cases e:x ∈ ks
 ·rw [if_pos (key.mpr e),if_pos e]
  exact ⟨by rw [qRD];exact h.keys,h.nd⟩
 ·rw [if_neg fun z=>e (key.mp z),if_neg e]
  refine ⟨by rw [List.map_append,List.map_append,h.keys];rfl,qTZ h.nd e⟩
theorem qNW {ks:List Int} {n:Nat} (h:ks.Nodup) (b:∀ x ∈ ks,0≤x∧x<(n:Int)):ks.length≤n:=by
 have sub:ks ⊆ (List.range n).map fun (i:Nat)=>(i:Int):=fun x hx=>by
  have:=b x hx
  exact List.mem_map.mpr ⟨x.toNat,List.mem_range.mpr (by omega),by omega⟩
 have:=List.Nodup.length_le_of_subset h sub
 simpa using this
structure Fnd (net:List (List Int)) (asked ks:List Int) (j:Int):Prop where
 in_:∀ x ∈ ks,(0≤x∧x<(net.length:Int))∧Nd net asked x
 ask:∀ x ∈ asked,x ∈ ks
 clo:∀ (w:Nat) zs,j≤(w:Int)→(w:Int) ∈ ks→net[w]?=some zs→∀ y ∈ zs,y ∈ ks
theorem Fnd.all {net:List (List Int)} {asked ks:List Int} (wf:WFn net) (h:Fnd net asked ks 0) (x:Int):x ∈ ks ↔ Nd net asked x:=by
 refine ⟨fun hx=>(h.in_ x hx).2,fun hx=>?_⟩
 induction hx with
 | ask m=>exact h.ask _ m
 | @need w y zs _ e m ih=>
  have b:=(h.in_ w ih).1
  exact h.clo w.toNat zs (by omega) (by rw [show ((w.toNat:Nat):Int)=w by omega];exact ih) e y m
def qAH (net:List (List Int)) (asked zs:List Int):Prop:=Rise (net.length:Int) zs∧∀ x,x ∈ zs ↔ Nd net asked x
theorem qVQ:∀ {l m:List Int},l.Pairwise (·<·)→m.Pairwise (·<·)→(∀ x,x ∈ l ↔ x ∈ m)→l=m
 | [],[],_,_,_=>rfl
 | [],y::m,_,_,h=>absurd ((h y).mpr (by simp)) (by simp)
 | x::l,[],_,_,h=>absurd ((h x).mp (by simp)) (by simp)
 | x::l,y::m,hl,hm,h=>by
  have l1:=List.pairwise_cons.mp hl
  have m1:=List.pairwise_cons.mp hm
  have exy:x=y:=by
   rcases List.mem_cons.mp ((h x).mp (by simp)) with e | e
   ·exact e
   ·rcases List.mem_cons.mp ((h y).mpr (by simp)) with e2 | e2
    ·exact e2.symm
    ·have:=m1.1 x e
     have:=l1.1 y e2
     omega
  subst exy
  rw [qVQ l1.2 m1.2 fun z=>?_]
  constructor
  ·intro hz
   rcases List.mem_cons.mp ((h z).mp (by simp [hz])) with e | e
   ·have:=l1.1 z hz;omega
   ·exact e
  ·intro hz
   rcases List.mem_cons.mp ((h z).mpr (by simp [hz])) with e | e
   ·have:=m1.1 z hz;omega
   ·exact e
def qNK (ws:List Int) (x:Int):Option Int:=if x ∈ ws then some (ws.idxOf x:Int) else none
theorem qR2 {ws:List Int} (nd:ws.Nodup) {x:Int} {i:Nat} (h:ws[i]?=some x):qNK ws x=some (i:Int):=by
 obtain ⟨hi,e⟩:=List.getElem?_eq_some_iff.mp h
 unfold qNK
 rw [if_pos (by rw [← e];exact List.getElem_mem hi),← e,nd.idxOf_getElem]
theorem qS7 {ws:List Int} (nd:ws.Nodup) {i:Nat} {y:Int} (h:ws[i]?=some y) (x:Int):qNK (ws.take (i+1)) x=if x=y then some (i:Int) else qNK (ws.take i) x:=by
 obtain ⟨hi,e⟩:=List.getElem?_eq_some_iff.mp h
 have tk:ws.take (i+1)=ws.take i++[y]:=by rw [List.take_add_one,h];rfl
 have ndt:(ws.take (i+1)).Nodup:=nd.sublist (List.take_sublist _ _)
 by_cases exy:x=y
 ·subst exy
  rw [if_pos rfl]
  exact qR2 ndt (by rw [List.getElem?_take_of_lt (by omega)];exact h)
 ·rw [if_neg exy]
  unfold qNK
  rw [tk]
  by_cases m:x ∈ ws.take i
  ·rw [if_pos (by simp [m]),if_pos m,List.idxOf_append,if_pos m]
  ·rw [if_neg (by simp [m,exy]),if_neg m]
theorem qT1 {ws:List Int} (up:ws.Pairwise (·<·)) {i j:Nat} {x y:Int} (hx:ws[i]?=some x) (hy:ws[j]?=some y):i<j ↔ x<y:=by
 obtain ⟨hi,ex⟩:=List.getElem?_eq_some_iff.mp hx
 obtain ⟨hj,ey⟩:=List.getElem?_eq_some_iff.mp hy
 have key:∀ a b (ha:a<ws.length) (hb:b<ws.length),a<b→ws[a]<ws[b]:=fun a b ha hb hab=>List.pairwise_iff_getElem.mp up a b ha hb hab
 constructor
 ·intro h
  have:=key i j hi hj h
  omega
 ·intro h
  rcases Nat.lt_trichotomy i j with z | z | z
  ·exact z
  ·subst z
   omega
  ·have:=key j i hj hi z
   omega
theorem qTY {net:List (List Int)} (wf:WFn net) (w:Nat):Rise (w:Int) ((net[w]?).getD []):=by
 cases e:net[w]? with
 | none=>exact Rise.nil
 | some zs=>exact wf w zs e
def qTD:Sp:=fun vs H Q _=>∃ (a t:Addr) (net:List (List Int)) (asked:List Int),vs=[.ref a,.ref t]∧NetAt H a net∧WFn net∧net.length≤63∧H t=some (.tup (asked.map V.int))∧(∀ x ∈ asked,0≤x∧x<(net.length:Int))∧
 ∀ l zs H',Same H H'→H l=none→H' l=some (.lst (zs.map V.int))→qAH net asked zs→Q (.ref l) H'
abbrev Mv:=Str × Int
def nd (net:List (List Int)) (w:Int):List Int:=(net[w.toNat]?).getD []
theorem qAD {net:List (List Int)} {w:Int} {zs:List Int} (h:net[w.toNat]?=some zs):nd net w=zs:=by unfold nd;rw [h];rfl
def qBA (net:List (List Int)):List Int→Int→Option Int
 | [],_=>none
 | w::r,y=>match qBA net r y with
  | some v=>some v
  | none=>if y ∈ nd net w then some w else none
theorem qLE {net:List (List Int)} {y v:Int}:∀ {l:List Int},qBA net l y=some v→v ∈ l∧y ∈ nd net v
 | [],h=>by cases h
 | w::r,h=>by
  unfold qBA at h
  cases e:qBA net r y with
  | some u=>
   rw [e] at h
   cases h
   have:=qLE e
   exact ⟨List.mem_cons_of_mem _ this.1,this.2⟩
  | none=>
   rw [e] at h
   dsimp only at h
   split at h
   ·cases h
    exact ⟨List.mem_cons_self,by assumption⟩
   ·cases h
theorem lastOf_none {net:List (List Int)} {y:Int}:∀ {l:List Int},qBA net l y=none ↔ ∀ v ∈ l,y ∉ nd net v
 | []=>by simp [qBA]
 | w::r=>by
  unfold qBA
  have ih:=lastOf_none (net:=net) (y:=y) (l:=r)
  cases e:qBA net r y with
  | some u=>
   refine ⟨fun z=>(by cases z),fun z=>?_⟩
   have:=ih.mpr fun v hv=>z v (List.mem_cons_of_mem _ hv)
   rw [e] at this
   cases this
  | none=>
   dsimp only
   have q:=ih.mp e
   constructor
   ·intro z v hv
    split at z
    ·cases z
    ·rcases List.mem_cons.mp hv with rfl | hv
     ·assumption
     ·exact q v hv
   ·intro z
    rw [if_neg (z w List.mem_cons_self)]
theorem qK3 {net:List (List Int)} {w y:Int}:∀ {l:List Int},qBA net (l++[w]) y=if y ∈ nd net w then some w else qBA net l y
 | []=>by simp [qBA]
 | x::l=>by
  rw [List.cons_append]
  unfold qBA
  rw [qK3 (l:=l)]
  by_cases h:y ∈ nd net w
  ·rw [if_pos h,if_pos h]
  ·rw [if_neg h,if_neg h]
def qDK (net:List (List Int)) (zs:List Int) (j:Nat) (x:Int):Prop:=∃ v ∈ zs.drop j,x ∈ nd net v
instance (net:List (List Int)) (zs:List Int) (j:Nat) (x:Int):Decidable (qDK net zs j x):=by unfold qDK;infer_instance
theorem qO6 {net:List (List Int)} {zs:List Int} (n:zs.Nodup) {i:Nat} {w:Int} (h:zs[i]?=some w) (y:Int):qBA net zs y=some w ↔ y ∈ nd net w∧¬ qDK net zs (i+1) y:=by
 obtain ⟨hi,e⟩:=List.getElem?_eq_some_iff.mp h
 have split:zs=zs.take i++w::zs.drop (i+1):=by rw [← e,← List.drop_eq_getElem_cons hi,List.take_append_drop]
 have key:∀ (a b:List Int),w ∉ a→w ∉ b→(qBA net (a++w::b) y=some w ↔ y ∈ nd net w∧¬ ∃ v ∈ b,y ∈ nd net v):=by
  intro a b ha hb
  induction a with
  | nil=>
   show qBA net (w::b) y=some w ↔ _
   unfold qBA
   cases q:qBA net b y with
   | some v=>
    have:=qLE q
    constructor
    ·intro z
     cases z
     exact absurd this.1 hb
    ·rintro ⟨_,z⟩
     exact absurd ⟨v,this.1,this.2⟩ z
   | none=>
    have:=lastOf_none.mp q
    dsimp only
    constructor
    ·intro z
     split at z
     ·rename_i hy
      exact ⟨hy,fun ⟨v,hv,hy2⟩=>this v hv hy2⟩
     ·cases z
    ·rintro ⟨z,_⟩
     rw [if_pos z]
  | cons x a ih=>
   have ih:=ih fun z=>ha (List.mem_cons_of_mem _ z)
   rw [List.cons_append]
   unfold qBA
   cases q:qBA net (a++w::b) y with
   | some v=>
    rw [q] at ih
    exact ih
   | none=>
    rw [q] at ih
    dsimp only
    constructor
    ·intro z
     split at z
     ·cases z
      exact absurd List.mem_cons_self ha
     ·cases z
    ·intro z
     exact absurd (ih.mpr z) (by simp)
 have n2:=n
 rw [split] at n2
 have n3:=List.nodup_append.mp n2
 have wb:w ∉ zs.drop (i+1):=(List.nodup_cons.mp n3.2.1).1
 have wa:w ∉ zs.take i:=fun z=>n3.2.2 w z w List.mem_cons_self rfl
 have:=key (zs.take i) (zs.drop (i+1)) wa wb
 rw [← split] at this
 exact this
inductive Run (net:List (List Int)) (rooms:Int):List Int→List Mv→List Int→Prop
 | nil {s:List Int}:Run net rooms s [] s
 | do_ {s s' t:List Int} {w:Int} {ms:List Mv}:w ∉ s→(∀ y ∈ nd net w,y ∈ s)→(s.length:Int)<rooms→s'.Perm (s++[w])→s'.Pairwise (·<·)→Run net rooms s' ms t→Run net rooms s (("do",w)::ms) t
 | clear {s t:List Int} {w:Int} {ms:List Mv}:w ∈ s→Run net rooms (s.filter fun x=>decide (x ≠ w)) ms t→Run net rooms s (("clear",w)::ms) t
section
variable {net:List (List Int)} {asked zs:List Int}
theorem qCH (wf:WFn net) (N:qAH net asked zs) {i:Nat} {w y:Int} (h:zs[i]?=some w) (hy:y ∈ nd net w):y ∈ zs.take i∧y<w:=by
 have mw:=List.mem_of_getElem? h
 have wb:=N.1.in_ w mw
 have hw:w.toNat<net.length:=by omega
 have e:=List.getElem?_eq_getElem hw
 rw [qAD e] at hy
 have yb:=(wf w.toNat _ e).in_ y hy
 have my:y ∈ zs:=(N.2 y).mpr (.need ((N.2 w).mp mw) e hy)
 obtain ⟨k,hk⟩:=List.getElem?_of_mem my
 have lt:k<i:=(qT1 N.1.up hk h).mpr (by omega)
 refine ⟨List.mem_of_getElem? (i:=k) (by rw [List.getElem?_take_of_lt lt];exact hk),by omega⟩
theorem qX5 (N:qAH net asked zs) (wf:WFn net) {i:Nat} {w:Int} (h:zs[i]?=some w):w ∈ asked∨qDK net zs (i+1) w:=by
 have mw:=List.mem_of_getElem? h
 cases (N.2 w).mp mw with
 | ask m=>exact .inl m
 | @need v _ ns hv e hm=>
  have mv:=(N.2 v).mpr hv
  obtain ⟨k,hk⟩:=List.getElem?_of_mem mv
  have q:=qCH wf N hk (by rw [qAD e];exact hm)
  have lt:i<k:=(qT1 N.1.up h hk).mpr q.2
  refine .inr ⟨v,List.mem_of_getElem? (i:=k - (i+1)) ?_,by rw [qAD e];exact hm⟩
  rw [List.getElem?_drop,show i+1+(k - (i+1))=k by omega]
  exact hk
theorem qJG (N:qAH net asked zs) {i:Nat} {w x:Int} (h:zs[i]?=some w) (hx:x ∈ zs.take i):x<w:=by
 obtain ⟨k,hk⟩:=List.getElem?_of_mem hx
 have lk:k<i:=by have:=(List.getElem?_eq_some_iff.mp hk).1;rw [List.length_take] at this;omega
 rw [List.getElem?_take_of_lt lk] at hk
 exact (qT1 N.1.up hk h).mp lk
theorem qbI (wf:WFn net) (w:Int):(nd net w).Pairwise (·<·):=(qTY wf w.toNat).up
theorem qGE {ys:List Int} (a:qAH net asked zs) (b:qAH net asked ys):zs=ys:=qVQ a.1.up b.1.up fun x=>(a.2 x).trans (b.2 x).symm
end
def qZ6 (H:Hp) (t:Addr) (net:List (List Int)) (asked:List Int):Prop:=H t=some (.tup (asked.map V.int))∧Rise (net.length:Int) asked
def qIX:Sp:=fun vs H Q _=>∃ (a t:Addr) (net:List (List Int)) (asked:List Int),vs=[.ref a,.ref t]∧NetAt H a net∧WFn net∧net.length≤63∧qZ6 H t net asked∧
 ∀ l zs H',Same H H'→H l=none→H' l=some (.lst (zs.map V.int))→qAH net asked zs→Q (.ref l) H'
theorem qVE:bootBuiltins "dict" = some (.type "dict"):=by decide +kernel
def lv (L:List Int) (x:Int):Int:=(L[x.toNat]?).getD 0
structure Lev (net:List (List Int)) (L:List Int):Prop where
 len:L.length=net.length
 at_:∀ (i:Nat) zs,net[i]?=some zs→∃ l,L[i]?=some l∧0≤l∧l≤(i:Int)∧(∀ y ∈ zs,lv L y+1≤l)∧(l=0∨∃ y ∈ zs,lv L y+1=l)
structure Fd (n:Nat) (L:List Int) (S:Int→Prop) (fs:List Int):Prop where
 len:fs.length=n
 at_:∀ w:Nat,w<n→(S w→fs[w]?=some (lv L w))∧(¬ S w→fs[w]?=some 0)
def nds (net:List (List Int)) (ws:List Int):List Int:=(ws.map (nd net)).flatten
theorem qW5 {net:List (List Int)} {ws:List Int} {i:Nat} {x:Int} (h:ws[i]?=some x):nds net (ws.take (i+1))=nds net (ws.take i)++nd net x:=by
 unfold nds
 rw [List.take_add_one,h,Option.toList_some,List.map_append,List.flatten_append]
 simp
structure CntX (n:Nat) (cs:List Int) (seen:List Int):Prop where
 len:cs.length=n
 at_:∀ x:Nat,x<n→cs[x]?=some ((seen.count (x:Int):Nat):Int)
theorem CntX.nil (n:Nat):CntX n (List.replicate n 0) []:=⟨by simp,fun x hx=>by simp [hx]⟩
theorem CntX.bump {n:Nat} {cs seen:List Int} {z c:Int} (h:CntX n cs seen) (h0:0≤z) (h1:z<n) (hc:cs[z.toNat]?=some c):CntX n (cs.set z.toNat (c+1)) (seen++[z]):=by
 refine ⟨by rw [List.length_set];exact h.len,fun x hx=>?_⟩
 rw [List.count_append]
 by_cases e:x=z.toNat
 ·subst e
  have q:=h.at_ _ hx
  rw [hc] at q
  rw [List.getElem?_set_self (by rw [h.len];exact hx)]
  have ez:((z.toNat:Nat):Int)=z:=by omega
  rw [ez] at q ⊢
  have e1:=Option.some.inj q
  have e2:[z].count z=1:=by simp
  rw [e2,e1]
  rfl
 ·rw [List.getElem?_set_ne (by omega),h.at_ x hx]
  have e2:[z].count (x:Int)=0:=by
   rw [List.count_eq_zero]
   simp
   omega
  rw [e2]
  rfl
theorem CntX.get {n:Nat} {cs seen:List Int} (h:CntX n cs seen) {x:Int} (h0:0≤x) (h1:x<n):cs[x.toNat]?=some ((seen.count x:Nat):Int):=by
 have:=h.at_ x.toNat (by omega)
 rw [show ((x.toNat:Nat):Int)=x by omega] at this
 exact this
theorem qPR {net:List (List Int)} (wf:WFn net) {work x:Int} (h:Nd net [work] x):x≤work:=by
 induction h with
 | ask m=>rw [List.mem_singleton.mp m];exact Int.le_refl _
 | @need w y zs _ e m ih=>
  have:=(wf _ _ e).in_ y m
  omega
def cI (net:List (List Int)) (zs:List Int) (x:Int):Int:=(((nds net zs).count x:Nat):Int)
def qN7 (net:List (List Int)) (work:Int) (zs:List Int):Bool:=zs.all fun x=>decide (x ≠ work→cI net zs x=1)
theorem qVT (net:List (List Int)) (work:Int) (zs:List Int):(((zs.filter fun x=>decide (x ≠ work)).map fun x=>decide (V.int (cI net zs x)=V.int 1)).all id)=qN7 net work zs:=by
 unfold qN7
 generalize hc:cI net zs=c
 clear hc
 induction zs with
 | nil=>rfl
 | cons x r ih=>
  rw [List.filter_cons,List.all_cons,← ih]
  by_cases e:x=work
  ·rw [if_neg (by simp [e])]
   have:decide (x ≠ work→c x=1)=true:=decide_eq_true fun z=>absurd e z
   rw [this]
   rfl
  ·rw [if_pos (by simp [e]),List.map_cons,List.all_cons]
   congr 1
   exact decide_eq_decide.mpr ⟨fun z _=>V.int.inj z,fun z=>by rw [z e]⟩
def qZR:Sp:=fun vs H Q _=>∃ (a lw:Addr) (net:List (List Int)) (ws:List Int),vs=[.ref a,.ref lw]∧NetAt H a net∧WFn net∧net.length≤63∧H lw=some (.lst (ws.map V.int))∧(∀ x ∈ ws,0≤x∧x<(net.length:Int))∧
 ∀ l cs H',Same H H'→H l=none→H' l=some (.lst (cs.map V.int))→CntX net.length cs (nds net ws)→Q (.ref l) H'
def qQP:Sp:=fun vs H Q _=>∃ (a:Addr) (net:List (List Int)) (work:Int),vs=[.ref a,.int work]∧NetAt H a net∧WFn net∧net.length≤63∧0≤work∧work<(net.length:Int)∧
 ∀ zs H',Same H H'→qAH net [work] zs→Q (.bl (qN7 net work zs)) H'
def Beh (st st':List Int) (word:Str) (wk:Int):Prop:=(word = "do"→st'.Perm (st++[wk])∧st'.Pairwise (·≤·))∧(word = "clear"→st'=st.filter fun x=>decide (x ≠ wk))
theorem qS1:∀ {l m:List Int},l.Perm m→l.Pairwise (·≤·)→m.Pairwise (·≤·)→l=m:=by
 intro l m hp h1 h2
 exact hp.eq_of_pairwise (fun a b _ _ h3 h4=>Int.le_antisymm h3 h4) h1 h2
inductive Play (net:List (List Int)) (rooms:Int):List Int→List Mv→List (List Int)→V→Prop
 | nil {st}:Play net rooms st [] [] .non
 | stop {st m ms w0}:wd net st rooms m=.str w0→Play net rooms st (m::ms) [] (.str w0)
 | go {st st' m ms sts v}:wd net st rooms m=.non→Beh st st' m.1 m.2→Play net rooms st' ms sts v→Play net rooms st (m::ms) (st'::sts) v
def Once (net:List (List Int)) (n:Nat):Prop:=∀ (i j:Nat) (zi zj:List Int) (x:Int),i<n→j<n→net[i]?=some zi→net[j]?=some zj→x ∈ zi→x ∈ zj→i=j
def Opens (net:List (List Int)) (os:List Int):Prop:=Once net net.length∧∀ x ∈ os,∀ (i:Nat) (zi:List Int),net[i]?=some zi→x ∉ zi
theorem Opens.nil:Opens [] []:=⟨(fun i j _ _ _ h=>absurd h (Nat.not_lt_zero _)),(fun x h=>nomatch h)⟩
theorem qHO {α:Type} {l:List α} {z y:α} {i:Nat} (h:(l++[z])[i]?=some y):(i<l.length∧l[i]?=some y)∨(i=l.length∧y=z):=by
 by_cases c:i<l.length
 ·rw [List.getElem?_append_left c] at h
  exact .inl ⟨c,h⟩
 ·rw [List.getElem?_append_right (by omega)] at h
  have hl:=(List.getElem?_eq_some_iff.mp h).1
  rw [List.length_singleton] at hl
  have e:i - l.length=0:=by omega
  rw [e] at h
  exact .inr ⟨by omega,(Option.some.inj h).symm⟩
theorem Opens.step {net:List (List Int)} {os:List Int} {kk:Nat} (h:Opens net os) (wf:WFn net) (r:Rise (net.length:Int) os):Opens (net++[os.drop kk]) (os.take kk++[(net.length:Int)]):=by
 have old:∀ x ∈ os.drop kk,∀ (i:Nat) (zi:List Int),net[i]?=some zi→x ∉ zi:=fun x hx=>h.2 x (List.mem_of_mem_drop hx)
 constructor
 ·intro i j zi zj x _ _ e1 e2 h1 h2
  rcases qHO e1 with ⟨c1,g1⟩ | ⟨c1,g1⟩
  ·rcases qHO e2 with ⟨c2,g2⟩ | ⟨c2,g2⟩
   ·exact h.1 i j zi zj x c1 c2 g1 g2 h1 h2
   ·subst g2;exact absurd h1 (old x h2 i zi g1)
  ·rcases qHO e2 with ⟨c2,g2⟩ | ⟨c2,g2⟩
   ·subst g1;exact absurd h2 (old x h1 j zj g2)
   ·omega
 ·intro x hx i zi e hz
  rcases List.mem_append.mp hx with m | m
  ·rcases qHO e with ⟨c1,g1⟩ | ⟨c1,g1⟩
   ·exact h.2 x (List.mem_of_mem_take m) i zi g1 hz
   ·subst g1
    have up:=r.up
    rw [← List.take_append_drop kk os] at up
    have:=(List.pairwise_append.mp up).2.2 x m x hz
    omega
  ·have ex:=List.mem_singleton.mp m
   subst ex
   rcases qHO e with ⟨c1,g1⟩ | ⟨c1,g1⟩
   ·have:=((wf i zi g1).in_ _ hz).2
    omega
   ·subst g1
    have:=(r.in_ _ (List.mem_of_mem_drop hz)).2
    omega
theorem qLJ {net:List (List Int)} {x v:Int}:∀ {l:List Int},l.Nodup→v ∈ l→(∀ u ∈ l,x ∈ nd net u→u=v)→x ∈ nd net v→(nd net v).Nodup→(nds net l).count x=1
 | [],_,h,_,_,_=>by cases h
 | u::l,n,h,only,hx,nv=>by
  have n2:=List.nodup_cons.mp n
  have e:nds net (u::l)=nd net u++nds net l:=by simp [nds]
  rw [e,List.count_append]
  by_cases c:u=v
  ·subst c
   have c1:(nd net u).count x=1:=by
    have a:=List.nodup_iff_count.mp nv x
    have b:=List.count_pos_iff.mpr hx
    omega
   have c2:(nds net l).count x=0:=List.count_eq_zero.mpr fun m=>by
    obtain ⟨ys,hy,hm⟩:=List.mem_flatten.mp m
    obtain ⟨w,hw,ew⟩:=List.mem_map.mp hy
    rw [← ew] at hm
    exact n2.1 (only w (List.mem_cons_of_mem _ hw) hm ▸ hw)
   omega
  ·have c1:(nd net u).count x=0:=List.count_eq_zero.mpr fun m=>c (only u List.mem_cons_self m)
   have:=qLJ n2.2 ((List.mem_cons.mp h).resolve_left fun z=>c z.symm) (fun w hw=>only w (List.mem_cons_of_mem _ hw)) hx nv
   omega
theorem qTW {net:List (List Int)} {n:Nat} {work:Int} {zs:List Int} (wf:WFn net) (o:Once net n) (hn:n≤net.length) (w1:work<(n:Int)) (N:qAH net [work] zs):qN7 net work zs=true:=by
 unfold qN7
 rw [List.all_eq_true]
 intro x hx
 rw [decide_eq_true_eq]
 intro ne
 obtain ⟨i,hi⟩:=List.getElem?_of_mem hx
 rcases qX5 N wf hi with q | ⟨v,hv,hxv⟩
 ·exact absurd (List.mem_singleton.mp q) ne
 ·have hvz:v ∈ zs:=List.mem_of_mem_drop hv
  have lt:∀ u ∈ zs,0≤u∧u<(n:Int):=fun u hu=>by
   have a:=N.1.in_ u hu
   have b:=qPR wf ((N.2 u).mp hu)
   omega
  have get:∀ u ∈ zs,net[u.toNat]?=some (nd net u):=fun u hu=>by
   have:=lt u hu
   have hl:u.toNat<net.length:=by omega
   have g:=List.getElem?_eq_getElem hl
   rw [g,qAD g]
  have nv:(nd net v).Nodup:=(wf _ _ (get v hvz)).nodup
  unfold cI
  rw [qLJ N.1.nodup hvz (fun u hu hxu=>?_) hxv nv]
  ·rfl
  ·have a:=lt u hu
   have b:=lt v hvz
   have:=o u.toNat v.toNat _ _ x (by omega) (by omega) (get u hu) (get v hvz) hxu hxv
   omega
def qDU (l:List Int) (k:Nat):List Int:=(List.range k).map fun i:Nat=>(l[i]?).getD 0+(i:Int)
theorem qPE {l:List Int} {k:Nat} {x:Int} (h:l[k]?=some x):qDU l (k+1)=qDU l k++[x+(k:Int)]:=by
 unfold qDU
 rw [List.range_succ,List.map_append]
 simp [h]
theorem qKX (l:List Int) (k:Nat):(qDU l k).length=k:=by unfold qDU;rw [List.length_map,List.length_range]
def qJV (l:List Int):Int:=topI ((l.length:Int)+1) (qDU l l.length)
def Num1 (net:List (List Int)) (f:Int→Int) (z:Int):Prop:=∃ ds:List Int,ds.Perm ((nd net z).map f)∧ds.Pairwise (· ≥ ·)∧f z=qJV ds
def NumOn (net:List (List Int)) (zs:List Int) (f:Int→Int):Prop:=∀ z ∈ zs,Num1 net f z
theorem qQ4 {a b:List Int} (p:a.Perm b) (h1:a.Pairwise (· ≥ ·)) (h2:b.Pairwise (· ≥ ·)):a=b:=by
 have e:=qS1 (show a.reverse.Perm b.reverse from (List.reverse_perm a).trans (p.trans (List.reverse_perm b).symm)) (List.pairwise_reverse.mpr h1) (List.pairwise_reverse.mpr h2)
 have:=congrArg List.reverse e
 rw [List.reverse_reverse,List.reverse_reverse] at this
 exact this
theorem qYI {net:List (List Int)} {zs:List Int} {work:Int} (wf:WFn net) (N:qAH net [work] zs) {f g:Int→Int} (hf:NumOn net zs f) (hg:NumOn net zs g):∀ (n:Nat) (z:Int),z.toNat=n→z ∈ zs→f z=g z:=by
 intro n
 induction n using Nat.strongRecOn with
 | ind n ih=>
  intro z hn hz
  obtain ⟨i,hi⟩:=List.getElem?_of_mem hz
  have e:(nd net z).map f=(nd net z).map g:=List.map_congr_left fun y hy=>by
   obtain ⟨h1,h2⟩:=qCH wf N hi hy
   have hyz:=List.mem_of_mem_take h1
   have b:=N.1.in_ y hyz
   exact ih y.toNat (by omega) y rfl hyz
  obtain ⟨d1,p1,s1,e1⟩:=hf z hz
  obtain ⟨d2,p2,s2,e2⟩:=hg z hz
  rw [e1,e2,qQ4 (p1.trans (by rw [e];exact p2.symm)) s1 s2]
theorem NumOn.snoc {net:List (List Int)} {zs:List Int} {work z:Int} {i:Nat} {f:Int→Int} {ds:List Int} (wf:WFn net) (N:qAH net [work] zs) (hi:zs[i]?=some z) (h:NumOn net (zs.take i) f) (p:ds.Perm ((nd net z).map f)) (s:ds.Pairwise (· ≥ ·)):NumOn net (zs.take (i+1)) (fun y=>if y=z then qJV ds else f y)∧(zs.take (i+1)).map (fun y=>(if y=z then qJV ds else f y))=(zs.take i).map f++[qJV ds]:=by
 have lt:∀ y ∈ zs.take i,y ≠ z:=fun y hy=>by have:=qJG N hi hy;omega
 have ns:∀ w ∈ zs.take (i+1),∀ y ∈ nd net w,y ≠ z:=fun w hw y hy=>by
  obtain ⟨j,hj⟩:=List.getElem?_of_mem hw
  have hj':j<i+1:=by have:=(List.getElem?_eq_some_iff.mp hj).1;rw [List.length_take] at this;omega
  rw [List.getElem?_take_of_lt hj'] at hj
  have a:=qCH wf N hj hy
  by_cases c:j=i
  ·subst c;rw [hi] at hj;cases hj;omega
  ·have:w ∈ zs.take i:=List.mem_of_getElem? (i:=j) (by rw [List.getElem?_take_of_lt (by omega)];exact hj)
   have:=qJG N hi this
   omega
 have et:zs.take (i+1)=zs.take i++[z]:=by rw [List.take_add_one,hi];rfl
 constructor
 ·intro w hw
  have em:(nd net w).map (fun y=>if y=z then qJV ds else f y)=(nd net w).map f:=List.map_congr_left fun y hy=>if_neg (ns w hw y hy)
  unfold Num1
  rw [em]
  have hw':=hw
  rw [et] at hw'
  rcases List.mem_append.mp hw' with m | m
  ·obtain ⟨d,a1,a2,a3⟩:=h w m
   exact ⟨d,a1,a2,(if_neg (lt w m)).trans a3⟩
  ·have e:=List.mem_singleton.mp m
   subst e
   exact ⟨ds,p,s,if_pos rfl⟩
 ·rw [et,List.map_append]
  congr 1
  ·exact List.map_congr_left fun y hy=>if_neg (lt y hy)
  ·simp
def qIU (l:List Int) (f:Int→Int):List (Key × V):=l.map fun z=>(Sum.inl z,V.int (f z))
theorem qLR {f:Int→Int} {y:Int}:∀ {l:List Int},y ∈ l→valV (qIU l f) (Sum.inl y)=some (.int (f y))
 | [],h=>by cases h
 | x::l,h=>by
  by_cases e:x=y
  ·subst e;exact qBT rfl
  ·exact (qBO (fun z=>e (Sum.inl.inj z))).trans (qLR ((List.mem_cons.mp h).resolve_left fun z=>e z.symm))
theorem qN5 {f:Int→Int} {y:Int}:∀ {l:List Int},y ∉ l→valV (qIU l f) (Sum.inl y)=none
 | [],_=>rfl
 | x::l,h=>(qBO (fun z=>h (by rw [← Sum.inl.inj z];exact List.mem_cons_self))).trans (qN5 fun z=>h (List.mem_cons_of_mem _ z))
theorem qQY {l:List Int} {f:Int→Int} {z v:Int} (h:z ∉ l):putK (qIU l f) (Sum.inl z) (.int v)=qIU (l++[z]) (fun y=>if y=z then v else f y):=by
 rw [qQX _ (qN5 h)]
 unfold qIU
 rw [List.map_append]
 congr 1
 ·exact List.map_congr_left fun y hy=>by
   show _=(Sum.inl y,V.int (if y=z then v else f y))
   rw [if_neg fun (e:y=z)=>h (e ▸ hy)]
 ·simp
theorem qL4 {f:Int→Int}:∀ {zs l:List Int},(l++zs).Nodup→qCD (qIU l f) (zs.map fun z=>(z,V.int (f z)))=qIU (l++zs) f
 | [],l,_=>by rw [List.append_nil];rfl
 | z::zs,l,n=>by
  have hz:z ∉ l:=fun m=>(List.nodup_append.mp n).2.2 z m z List.mem_cons_self rfl
  have e:(fun y=>if y=z then f z else f y)=f:=funext fun y=>by
   by_cases c:y=z
   ·rw [if_pos c,c]
   ·rw [if_neg c]
  show qCD (putK (qIU l f) (Sum.inl z) (.int (f z))) (zs.map fun z=>(z,V.int (f z)))=_
  rw [qQY hz,e,qL4 (by rw [List.append_assoc];exact n),List.append_assoc]
  rfl
theorem qJT {α β γ:Type} {F:α→γ→Prop} {h:β→γ}:∀ {zs:List β} {l:List α},Paired F l (zs.map h)→Paired (fun r z=>F r (h z)) l zs
 | [],l,p=>by cases p;exact .nil
 | z::zs,l,p=>by
  cases p with
  | cons a b=>exact .cons a (qJT b)
theorem qNP {α β γ:Type} {F:α→γ→Prop} {h:β→γ} {zs:List β} {l:List α} (p:Paired (fun r z=>F r (h z)) l zs):Paired F l (zs.map h):=by
 induction p with
 | nil=>exact .nil
 | cons a b ih=>exact .cons a ih
theorem qBU {net:List (List Int)} {work:Int} {zs:List Int} (N:qAH net [work] zs):work ∈ zs:=(N.2 work).mpr (.ask (List.mem_singleton.mpr rfl))
def qXX (H:Hp) (a:Addr) (net:List (List Int)) (work:Int):Prop:=NetAt H a net∧WFn net∧net.length≤63∧0≤work∧∃ n:Nat,Once net n∧n≤net.length∧work<(n:Int)
def qXA:Sp:=fun vs H Q _=>∃ (p:Addr) (ds:List Int),vs=[.ref p]∧H p=some (.lst (ds.map V.int))∧ds.length≤63∧∀ H',Same H H'→Q (.int (qJV ds)) H'
def qNE:Sp:=fun vs H Q _=>∃ (a:Addr) (net:List (List Int)) (work:Int),vs=[.ref a,.int work]∧qXX H a net work∧
 ∀ l rs zs f H',Same H H'→H l=none→qAH net [work] zs→NumOn net zs f→H' l=some (.lst (rs.map V.ref))→Paired (fun r z=>H' r=some (.tup [.int z,.int (f z)])) rs zs→Q (.ref l) H'
def qJJ:Sp:=fun vs H Q _=>∃ (a:Addr) (net:List (List Int)) (work:Int),vs=[.ref a,.int work]∧qXX H a net work∧∀ zs f H',Same H H'→qAH net [work] zs→NumOn net zs f→Q (.int (f work)) H'
def qTB:Sp:=fun vs H Q _=>∃ d c t ns m,vs=[.ref d,.int m]∧StAt H d c t ns∧t≤TB - 1000∧1≤m∧m≤63∧
 ∀ a net t' ns' H',StAt H' d c t' ns'→t≤t'→t'≤t+m→Keep d c H H'→NetAt H' a net→WFn net→(net.length:Int)=m→Once net net.length→Q (.ref a) H'
def OrdR (f:Int→Int) (a b:Int):Prop:=f b<f a∨(f a=f b∧a<b)
def mx (a b:Int):Int:=if b > a then b else a
inductive TRun (net:List (List Int)):List Int→Int→List Mv→List Int→Int→Prop
 | nil {S:List Int} {m:Int}:TRun net S m [] S m
 | do_ {S:List Int} {m:Int} {x:Int} {r:List Mv} {t:List Int} {n:Int}:x ∉ S→(∀ y ∈ nd net x,y ∈ S)→TRun net (S++[x]) (mx m ((S.length:Int)+1)) r t n→TRun net S m ((("do",x):Mv)::r) t n
 | clr {S:List Int} {m:Int} {x:Int} {r:List Mv} {t:List Int} {n:Int}:x ∈ S→TRun net (S.erase x) m r t n→TRun net S m ((("clear",x):Mv)::r) t n
def tk:Nat→List Int→List Int
 | _,[]=>[]
 | j,x::l=>(x+(j:Int))::tk (j+1) l
theorem qPQ {net:List (List Int)} {z y x:Int} (hy:y ∈ nd net z) (h:Nd net [y] x) (b:∃ zs,net[z.toNat]?=some zs):Nd net [z] x:=by
 induction h with
 | ask m=>
  obtain ⟨zs,e⟩:=b
  rw [List.mem_singleton.mp m]
  exact .need (.ask (List.mem_singleton.mpr rfl)) e (by rw [qAD e] at hy;exact hy)
 | need _ e m ih=>exact .need ih e m
structure TIn (net:List (List Int)) (zs:List Int) (work:Int):Prop where
 wf:WFn net
 N:qAH net [work] zs
 len:net.length≤63
 /-- a work's user is just one -/
 user:∀ {u v x:Int},u ∈ zs→v ∈ zs→x ∈ nd net u→x ∈ nd net v→u=v
section
variable {net:List (List Int)} {zs:List Int} {work:Int}
theorem TIn.get (T:TIn net zs work) {z:Int} (hz:z ∈ zs):net[z.toNat]?=some (nd net z):=by
 have b:=T.N.1.in_ z hz
 have hl:z.toNat<net.length:=by omega
 have g:=List.getElem?_eq_getElem hl
 rw [g,qAD g]
theorem TIn.has (T:TIn net zs work) {z y:Int} (hz:z ∈ zs) (hy:y ∈ nd net z):y ∈ zs∧y<z∧0≤y:=by
 obtain ⟨i,hi⟩:=List.getElem?_of_mem hz
 obtain ⟨h1,h2⟩:=qCH T.wf T.N hi hy
 have h3:=List.mem_of_mem_take h1
 exact ⟨h3,h2,(T.N.1.in_ y h3).1⟩
theorem TIn.sub (T:TIn net zs work) {z x:Int} (hz:z ∈ zs) (h:Nd net [z] x):x ∈ zs:=by
 induction h with
 | ask m=>rw [List.mem_singleton.mp m];exact hz
 | @need w y ys hw e m ih=>exact (T.has ih (by rw [qAD e];exact m)).1
theorem TIn.chain (T:TIn net zs work) {a b x:Int} (ha:a ∈ zs) (hb:b ∈ zs) (h1:Nd net [a] x):Nd net [b] x→Nd net [a] b∨Nd net [b] a:=by
 induction h1 with
 | ask m=>
  intro h2
  rw [List.mem_singleton.mp m] at h2
  exact .inr h2
 | @need w y ys hw e m ih=>
  intro h2
  cases h2 with
  | ask m2=>rw [← List.mem_singleton.mp m2];exact .inl (.need hw e m)
  | @need w2 _ ys2 hw2 e2 m2=>
   have:=T.user (T.sub ha hw) (T.sub hb hw2) (by rw [qAD e];exact m) (by rw [qAD e2];exact m2)
   subst this
   exact ih hw2
theorem TIn.apart (T:TIn net zs work) {z a b:Int} (hz:z ∈ zs) (ha:a ∈ nd net z) (hb:b ∈ nd net z) (h:Nd net [a] b):a=b:=by
 cases h with
 | ask m=>exact (List.mem_singleton.mp m).symm
 | @need w _ ys hw e m=>
  have h1:=T.has hz ha
  have hwz:=T.sub h1.1 hw
  have:=T.user hwz hz (by rw [qAD e];exact m) hb
  have:=qPR T.wf hw
  omega
theorem TIn.nodup (T:TIn net zs work) {z:Int} (hz:z ∈ zs):(nd net z).Nodup:=(T.wf _ _ (T.get hz)).nodup
end
theorem qbL {X:Cx} {scope:Scope} {p:Str} {fv:List Nat} {q:Str} (z:LmZ):(lmCx X scope p fv q z).A.units+1<cLine:=by
 have:=z.rm.un
 show z.A.units+3+1<cLine
 omega
def kvsV (l:List Int) (g:Int→V):List (Key × V):=l.map fun z=>(Sum.inl z,g z)
theorem qF2 {g:Int→V} {y:Int}:∀ {l:List Int},y ∈ l→valV (kvsV l g) (Sum.inl y)=some (g y)
 | [],h=>by cases h
 | x::l,h=>by
  by_cases e:x=y
  ·subst e;exact qBT rfl
  ·exact (qBO (fun z=>e (Sum.inl.inj z))).trans (qF2 ((List.mem_cons.mp h).resolve_left fun z=>e z.symm))
theorem qO7 {g:Int→V} {y:Int}:∀ {l:List Int},y ∉ l→valV (kvsV l g) (Sum.inl y)=none
 | [],_=>rfl
 | x::l,h=>(qBO (fun z=>h (by rw [← Sum.inl.inj z];exact List.mem_cons_self))).trans (qO7 fun z=>h (List.mem_cons_of_mem _ z))
theorem qRH {l:List Int} {g:Int→V} {z:Int} {v:V} (h:z ∉ l):putK (kvsV l g) (Sum.inl z) v=kvsV (l++[z]) (fun y=>if y=z then v else g y):=by
 rw [qQX _ (qO7 h)]
 unfold kvsV
 rw [List.map_append]
 congr 1
 ·exact List.map_congr_left fun y hy=>by
   show _=(Sum.inl y,if y=z then v else g y)
   rw [if_neg fun (e:y=z)=>h (e ▸ hy)]
 ·simp
section
variable {net:List (List Int)} {zs:List Int} {work:Int}
end
theorem lexT (a b c d:Int):HT.lexLt [a,b] [c,d]=true ↔ a<c∨(a=c∧b<d):=by
 simp only [HT.lexLt]
 simp
 split <;> omega
section
variable {dp p:Addr} {H Hc Hd:Hp}
end
structure Pck (f:Int→Int) (ys pk lf:List Int):Prop where
 perm:(pk++lf).Perm ys
 up:lf.Pairwise (·<·)
 ord:pk.Pairwise (OrdR f)
 ahead:∀ a ∈ pk,∀ b ∈ lf,OrdR f a b
section
variable {net:List (List Int)} {zs:List Int} {work:Int}
def isT (net:List (List Int)) (work:Int):Prop:=∃ zs,qAH net [work] zs∧qN7 net work zs=true
theorem qUM (N:qAH net [work] zs):isT net work ↔ qN7 net work zs=true:=by
 constructor
 ·rintro ⟨z2,N2,h⟩
  rw [qGE N N2]
  exact h
 ·exact fun h=>⟨zs,N,h⟩
theorem qOS {x u v:Int} (ne:u ≠ v) (h1:x ∈ nd net u) (h2:x ∈ nd net v):∀ {l:List Int},u ∈ l→v ∈ l→2≤(nds net l).count x
 | [],h,_=>by cases h
 | w::l,hu,hv=>by
  have e:nds net (w::l)=nd net w++nds net l:=by simp [nds]
  have pos:∀ y ∈ l,x ∈ nd net y→1≤(nds net l).count x:=fun y hy hx=>List.count_pos_iff.mpr (by
   unfold nds
   exact List.mem_flatten.mpr ⟨_,List.mem_map.mpr ⟨y,hy,rfl⟩,hx⟩)
  have pw:∀ {y},y=w→x ∈ nd net y→1≤(nd net w).count x:=fun ey hx=>List.count_pos_iff.mpr (ey ▸ hx)
  rw [e,List.count_append]
  rcases List.mem_cons.mp hu with a | a
  ·rcases List.mem_cons.mp hv with b | b
   ·exact absurd (a.trans b.symm) ne
   ·have:=pw a h1
    have:=pos v b h2
    omega
  ·rcases List.mem_cons.mp hv with b | b
   ·have:=pw b h2
    have:=pos u a h1
    omega
   ·have:=qOS ne h1 h2 a b
    omega
theorem qIJ (wf:WFn net) (n4:net.length≤63) (N:qAH net [work] zs) (h:isT net work):TIn net zs work:=by
 refine ⟨wf,N,n4,fun {u v x} hu hv h1 h2=>?_⟩
 have tb:=(qUM N).mp h
 unfold qN7 at tb
 obtain ⟨i,hi⟩:=List.getElem?_of_mem hu
 obtain ⟨a1,a2⟩:=qCH wf N hi h1
 have le:=qPR wf ((N.2 u).mp hu)
 have:=of_decide_eq_true (List.all_eq_true.mp tb x (List.mem_of_mem_take a1)) (by omega)
 unfold cI at this
 rcases Classical.em (u=v) with e | e
 ·exact e
 ·have:=qOS e h1 h2 hu hv
  omega
end
def NIn (H:Hp) (a:Addr) (net:List (List Int)) (work:Int):Prop:=NetAt H a net∧WFn net∧net.length≤63∧0≤work∧work<(net.length:Int)
def wdO (ws:List Int) (x:Int):Int:=(ws[x.toNat]?).getD 0
def sumW (ws l:List Int):Int:=(l.map (wdO ws)).sum
def qCL (net:List (List Int)) (ws zs:List Int) (p:Nat):Int:=sumW ws ((zs.take p).filter fun x=>decide (qDK net zs p x))
def qB7 (net:List (List Int)) (ws zs:List Int):List Int:=(List.range zs.length).map fun p=>wdO ws ((zs[p]?).getD 0)+qCL net ws zs p
theorem qCX (ws:List Int):sumW ws []=0:=rfl
theorem qAR (ws l:List Int) (x:Int):sumW ws (x::l)=wdO ws x+sumW ws l:=by simp [sumW]
theorem qLU (ws:List Int):∀ l m:List Int,sumW ws (l++m)=sumW ws l+sumW ws m
 | [],m=>by simp [sumW]
 | x::l,m=>by rw [List.cons_append,qAR,qAR,qLU ws l m];omega
theorem qFF {ws l m:List Int} (h:l.Perm m):sumW ws l=sumW ws m:=by
 induction h with
 | nil=>rfl
 | cons x _ ih=>rw [qAR,qAR,ih]
 | swap x y l=>rw [qAR,qAR,qAR,qAR];omega
 | trans _ _ a b=>exact a.trans b
theorem qKY (ws:List Int) (a b:Int→Bool):∀ l:List Int,sumW ws (l.filter fun x=>a x || b x)=sumW ws (l.filter b)+sumW ws (l.filter fun x=>a x && !b x)
 | []=>rfl
 | x::l=>by
  have ih:=qKY ws a b l
  cases ea:a x <;> cases eb:b x <;> simp [List.filter_cons,ea,eb,qAR] at ih ⊢ <;> omega
structure TopO (net:List (List Int)) (zs:List Int):Prop where
 nodup:zs.Nodup
 in_:∀ x ∈ zs,0≤x∧x<(net.length:Int)
 bef:∀ (p:Nat) (o:Int),zs[p]?=some o→∀ x ∈ nd net o,x ∈ zs.take p
 aft:∀ (p:Nat) (o:Int),zs[p]?=some o→p+1<zs.length→qDK net zs (p+1) o
theorem qOC {net:List (List Int)} {ws zs:List Int} (wf:WFn net) (T:TopO net zs) {p:Nat} {o:Int} (h:zs[p]?=some o) (hp:p+1<zs.length) :
  qCL net ws zs (p+1)=qCL net ws zs p+wdO ws o - sumW ws ((nd net o).filter fun y=>decide (qBA net zs y=some o)):=by
 obtain ⟨hi,e⟩:=List.getElem?_eq_some_iff.mp h
 have ed:zs.drop p=o::zs.drop (p+1):=by rw [List.drop_eq_getElem_cons hi,e]
 have lt:∀ x,decide (qDK net zs p x)=(decide (x ∈ nd net o) || decide (qDK net zs (p+1) x)):=by
  intro x
  rw [Bool.eq_iff_iff,Bool.or_eq_true,decide_eq_true_eq,decide_eq_true_eq,decide_eq_true_eq]
  unfold qDK
  rw [ed]
  constructor
  ·rintro ⟨v,hv,hx⟩
   rcases List.mem_cons.mp hv with rfl | hv
   ·exact .inl hx
   ·exact .inr ⟨v,hv,hx⟩
  ·rintro (hx | ⟨v,hv,hx⟩)
   ·exact ⟨o,List.mem_cons_self ..,hx⟩
   ·exact ⟨v,List.mem_cons_of_mem _ hv,hx⟩
 have e1:qCL net ws zs (p+1)=sumW ws ((zs.take p).filter fun x=>decide (qDK net zs (p+1) x))+wdO ws o:=by
  unfold qCL
  rw [List.take_add_one,h,Option.toList_some,List.filter_append,qLU]
  have:([o].filter fun x=>decide (qDK net zs (p+1) x))=[o]:=by
   simp [List.filter_cons,T.aft p o h hp]
  rw [this,qAR,qCX]
  omega
 have e2:qCL net ws zs p=sumW ws ((zs.take p).filter fun x=>decide (qDK net zs (p+1) x))+sumW ws ((zs.take p).filter fun x=>decide (x ∈ nd net o) && !decide (qDK net zs (p+1) x)):=by
  unfold qCL
  rw [← qKY ws (fun x=>decide (x ∈ nd net o)) (fun x=>decide (qDK net zs (p+1) x))]
  congr 2
  funext x
  exact lt x
 have e3:sumW ws ((zs.take p).filter fun x=>decide (x ∈ nd net o) && !decide (qDK net zs (p+1) x))=sumW ws ((nd net o).filter fun y=>decide (qBA net zs y=some o)):=by
  refine qFF ((List.perm_ext_iff_of_nodup ((T.nodup.sublist (List.take_sublist p zs)).sublist List.filter_sublist) (((qbI wf o).imp fun {a b} hab=>by omega).sublist List.filter_sublist)).mpr fun x=>?_)
  rw [List.mem_filter,List.mem_filter,Bool.and_eq_true,decide_eq_true_eq,Bool.not_eq_true',decide_eq_false_iff_not,decide_eq_true_eq,qO6 T.nodup h]
  constructor
  ·rintro ⟨_,h1,h2⟩
   exact ⟨h1,h1,h2⟩
  ·rintro ⟨h1,_,h2⟩
   exact ⟨T.bef p o h x h1,h1,h2⟩
 rw [e1,e2,e3]
 omega
theorem qOB (net:List (List Int)) (ws zs:List Int):qCL net ws zs 0=0:=rfl
theorem qK9 {l:List Int} (n:l.Nodup) {i j:Nat} (hi:i<l.length) (hj:j<l.length) (e:l[i]=l[j]):i=j:=by
 rcases Nat.lt_trichotomy i j with h | h | h
 ·exact absurd e (List.pairwise_iff_getElem.mp n i j hi hj h)
 ·exact h
 ·exact absurd e.symm (List.pairwise_iff_getElem.mp n j i hj hi h)
theorem qT5 {net:List (List Int)} {work:Int} {some_ zs:List Int} (ND:qAH net [work] some_) (n:zs.Nodup) (m:∀ x,x ∈ zs ↔ x ∈ some_) (bef:∀ (p:Nat) (o:Int),zs[p]?=some o→∀ x ∈ nd net o,x ∈ zs.take p):TopO net zs:=by
 have user:∀ x ∈ zs,x ≠ work→∃ z ∈ zs,x ∈ nd net z:=by
  intro x hx hne
  have h:=(ND.2 x).mp ((m x).mp hx)
  cases h with
  | ask h=>exact absurd (List.mem_singleton.mp h) hne
  | need h1 h2 h3=>exact ⟨_,(m _).mpr ((ND.2 _).mpr h1),by rw [qAD h2];exact h3⟩
 have after:∀ (p:Nat) (o:Int),zs[p]?=some o→∀ z ∈ zs,o ∈ nd net z→z ∈ zs.drop (p+1):=by
  intro p o h z hz ho
  obtain ⟨q,hq,e⟩:=List.getElem_of_mem hz
  have h1:=bef q z (by rw [List.getElem?_eq_getElem hq,e]) o ho
  obtain ⟨k,hk,ek⟩:=List.getElem_of_mem h1
  rw [List.getElem_take] at ek
  have hk':k<q:=by rw [List.length_take] at hk;omega
  obtain ⟨hp,ep⟩:=List.getElem?_eq_some_iff.mp h
  have:k=p:=qK9 n (by omega) hp (by rw [ek,ep])
  subst this
  rw [List.mem_iff_getElem]
  exact ⟨q - (k+1),by rw [List.length_drop];omega,by rw [List.getElem_drop,← e];congr 1;omega⟩
 refine ⟨n,fun x hx=>ND.1.in_ x ((m x).mp hx),bef,fun p o h hp=>?_⟩
 by_cases e:o=work
 ·exfalso
  have hl:zs.length - 1<zs.length:=by omega
  have hy:=List.getElem_mem hl
  obtain ⟨hp',ep⟩:=List.getElem?_eq_some_iff.mp h
  have hne:zs[zs.length - 1] ≠ work:=by
   intro z
   rw [← e,← ep] at z
   have:=qK9 n hl hp' z
   omega
  obtain ⟨z,hz,hu⟩:=user _ hy hne
  have:=after (zs.length - 1) _ (List.getElem?_eq_getElem hl) z hz hu
  rw [List.drop_of_length_le (by omega)] at this
  cases this
 ·obtain ⟨z,hz,hu⟩:=user o (List.mem_of_getElem? h) e
  exact ⟨z,after p o h z hz hu,hu⟩
theorem StAt.upd {H:Hp} {d c p:Addr} {t:Int} {ns:List Int} {o:HO} (S:StAt H d c t ns) (h1:d ≠ p) (h2:c ≠ p):StAt (L2.upd H p o) d c t ns:=⟨by rw [qA7 h1];exact S.dict,by rw [qA7 h2];exact S.list,S.ne,S.len,S.pos⟩
structure Begun (net:List (List Int)) (some_ ord:List Int):Prop where
 nodup:ord.Nodup
 sub:∀ x ∈ ord,x ∈ some_
 bef:∀ (p:Nat) (o:Int),ord[p]?=some o→∀ x ∈ nd net o,x ∈ ord.take p
abbrev lft (some_ ord:List Int) (x:Int):Bool:=decide (x ∈ some_∧x ∉ ord)
abbrev fre (net:List (List Int)) (some_ ord:List Int) (x:Int):Bool:=lft some_ ord x && !((nd net x).any (lft some_ ord))
theorem Begun.free {net:List (List Int)} {work:Int} {some_ ord:List Int} (wf:WFn net) (ND:qAH net [work] some_) (B:Begun net some_ ord) (h:ord.length<some_.length):1≤(some_.filter (fre net some_ ord)).length:=by
 have ex:∃ x ∈ some_,x ∉ ord:=by
  rcases Classical.em (∃ x ∈ some_,x ∉ ord) with h1 | h1
  ·exact h1
  ·exfalso
   have sub:some_ ⊆ ord:=fun x hx=>Classical.byContradiction fun z=>h1 ⟨x,hx,z⟩
   have:=List.Nodup.length_le_of_subset ND.1.nodup sub
   omega
 -- the least one
 have least:∀ k:Nat,∀ x ∈ some_,x ∉ ord→x.toNat≤k→∃ y ∈ some_,y ∉ ord∧∀ z ∈ nd net y,z ∈ ord:=by
  intro k
  induction k with
  | zero=>
   intro x hx hn hk
   refine ⟨x,hx,hn,fun z hz=>?_⟩
   have hb:=ND.1.in_ x hx
   have hw:x.toNat<net.length:=by omega
   have hg:=List.getElem?_eq_getElem hw
   have:=(wf x.toNat _ hg).in_ z (by rw [← qAD hg];exact hz)
   omega
  | succ k ih=>
   intro x hx hn hk
   rcases Classical.em (∃ z ∈ nd net x,z ∉ ord) with ⟨z,hz,hzn⟩ | h2
   ·have hb:=ND.1.in_ x hx
    have hw:x.toNat<net.length:=by omega
    have hg:=List.getElem?_eq_getElem hw
    have hzb:=(wf x.toNat _ hg).in_ z (by rw [← qAD hg];exact hz)
    exact ih z ((ND.2 z).mpr (.need ((ND.2 x).mp hx) hg (by rw [← qAD hg];exact hz))) hzn (by omega)
   ·exact ⟨x,hx,hn,fun z hz=>Classical.byContradiction fun q=>h2 ⟨z,hz,q⟩⟩
 obtain ⟨x,hx,hn⟩:=ex
 obtain ⟨y,hy,hyn,hyf⟩:=least x.toNat x hx hn (Nat.le_refl _)
 have hm:y ∈ some_.filter (fre net some_ ord):=by
  rw [List.mem_filter,Bool.and_eq_true,decide_eq_true_eq,Bool.not_eq_true']
  refine ⟨hy,⟨hy,hyn⟩,?_⟩
  rw [List.any_eq_false]
  intro z hz q
  exact (of_decide_eq_true q).2 (hyf z hz)
 exact List.length_pos_of_mem hm
def WdAt (H:Hp) (t:Addr) (net:List (List Int)) (ws:List Int):Prop:=H t=some (.tup (ws.map V.int))∧ws.length=net.length
def qH7:Sp:=fun vs H Q _=>∃ (a t lo:Addr) (wk:Int) (net:List (List Int)) (ws zs:List Int),vs=[.ref a,.ref t,.int wk,.ref lo]∧NetAt H a net∧WFn net∧net.length≤63∧WdAt H t net ws∧H lo=some (.lst (zs.map V.int))∧TopO net zs∧zs.length≤63∧
 ∀ l H',Same H H'→H l=none→H' l=some (.lst ((qB7 net ws zs).map V.int))→Q (.ref l) H'
def qLY:Sp:=fun vs H Q _=>∃ (a t lo:Addr) (net:List (List Int)) (ws zs:List Int),vs=[.ref a,.ref t,.ref lo]∧NetAt H a net∧WFn net∧net.length≤63∧WdAt H t net ws∧H lo=some (.lst (zs.map V.int))∧TopO net zs∧zs.length≤63∧
 ∀ l H',Same H H'→H l=none→H' l=some (.lst ((qB7 net ws zs).map V.int))→Q (.ref l) H'
theorem qUG {p:Nat→Prop} {a c:Nat} (h:a≤c) (ha:p a):∃ e,a≤e∧e≤c∧p e∧∀ t,e<t→t≤c→¬ p t:=by
 induction c with
 | zero=>exact ⟨a,Nat.le_refl _,h,ha,fun t h1 h2=>by omega⟩
 | succ c ih=>
  by_cases q:p (c+1)
  ·exact ⟨c+1,h,Nat.le_refl _,q,fun t h1 h2=>by omega⟩
  ·by_cases e:a=c+1
   ·subst e;exact absurd ha q
   ·obtain ⟨e,h1,h2,h3,h4⟩:=ih (by omega)
    refine ⟨e,h1,by omega,h3,fun t g1 g2=>?_⟩
    by_cases g:t=c+1
    ·rw [g];exact q
    ·exact h4 t g1 (by omega)
theorem qSM {p:Nat→Prop} {a b:Nat} (h:a≤b) (ha:¬ p a) (hb:p b):∃ c,a≤c∧c<b∧¬ p c∧p (c+1):=by
 induction b with
 | zero=>
  have e:a=0:=by omega
  subst e
  exact absurd hb ha
 | succ b ih=>
  by_cases e:a=b+1
  ·subst e;exact absurd hb ha
  ·by_cases q:p b
   ·obtain ⟨c,h1,h2,h3⟩:=ih (by omega) q
    exact ⟨c,h1,by omega,h3⟩
   ·exact ⟨b,by omega,by omega,q,hb⟩
theorem qXL {q:Int→Nat→Prop} {a c:Nat} (h:a≤c):∀ (l:List Int),l ≠ []→(∀ o ∈ l,q o a)→∃ o ∈ l,∃ e,a≤e∧e≤c∧q o e∧∀ o' ∈ l,∀ t,e<t→t≤c→¬ q o' t
 | [],ne,_=>absurd rfl ne
 | o::l,_,hq=>by
  obtain ⟨e,h1,h2,h3,h4⟩:=qUG h (hq o List.mem_cons_self)
  by_cases ne:l=[]
  ·subst ne
   exact ⟨o,List.mem_cons_self,e,h1,h2,h3,fun o' m=>by rw [List.mem_singleton.mp m];exact h4⟩
  ·obtain ⟨o2,m2,e2,g1,g2,g3,g4⟩:=qXL h l ne fun x hx=>hq x (List.mem_cons_of_mem _ hx)
   by_cases le:e≤e2
   ·refine ⟨o2,List.mem_cons_of_mem _ m2,e2,g1,g2,g3,fun o' m t k1 k2=>?_⟩
    rcases List.mem_cons.mp m with rfl | m
    ·exact h4 t (by omega) k2
    ·exact g4 o' m t k1 k2
   ·refine ⟨o,List.mem_cons_self,e,h1,h2,h3,fun o' m t k1 k2=>?_⟩
    rcases List.mem_cons.mp m with rfl | m
    ·exact h4 t k1 k2
    ·exact g4 o' m t (by omega) k2
section
variable {net:List (List Int)} {zs:List Int} {work:Int}
theorem TIn.disj (T:TIn net zs work) {z a b x:Int} (hz:z ∈ zs) (ha:a ∈ nd net z) (hb:b ∈ nd net z) (h1:Nd net [a] x) (h2:Nd net [b] x):a=b:=by
 rcases T.chain (T.has hz ha).1 (T.has hz hb).1 h1 h2 with c | c
 ·exact T.apart hz ha hb c
 ·exact (T.apart hz hb ha c).symm
theorem qR7 (T:TIn net zs work) {z:Int} (hz:z ∈ zs) {S:List Int}:∀ (l:List Int),l.Nodup→(∀ o ∈ l,o ∈ nd net z)→(∀ o ∈ l,∃ x ∈ S,Nd net [o] x)→∃ m:List Int,m.Nodup∧m.length=l.length∧∀ x ∈ m,x ∈ S∧∃ o ∈ l,Nd net [o] x
 | [],_,_,_=>⟨[],List.nodup_nil,rfl,fun _ h=>nomatch h⟩
 | o::l,n,h1,h2=>by
  have n2:=List.nodup_cons.mp n
  obtain ⟨m,a1,a2,a3⟩:=qR7 T hz l n2.2 (fun x hx=>h1 x (List.mem_cons_of_mem _ hx)) fun x hx=>h2 x (List.mem_cons_of_mem _ hx)
  obtain ⟨x,b1,b2⟩:=h2 o List.mem_cons_self
  refine ⟨x::m,List.nodup_cons.mpr ⟨fun hm=>?_,a1⟩,by rw [List.length_cons,List.length_cons,a2],fun y hy=>?_⟩
  ·obtain ⟨_,o2,c1,c2⟩:=a3 x hm
   have:=T.disj hz (h1 o List.mem_cons_self) (h1 o2 (List.mem_cons_of_mem _ c1)) b2 c2
   exact n2.1 (by rw [this];exact c1)
  ·rcases List.mem_cons.mp hy with rfl | hy
   ·exact ⟨b1,o,List.mem_cons_self,b2⟩
   ·obtain ⟨c0,o2,c1,c2⟩:=a3 y hy
    exact ⟨c0,o2,List.mem_cons_of_mem _ c1,c2⟩
theorem qSA {f:Int→Int} {z:Int} (h:NumOn net zs f) (hz:z ∈ zs):1≤f z:=by
 obtain ⟨ds,_,_,e⟩:=h z hz
 have:=(qGN (qDU ds ds.length) ((ds.length:Int)+1)).1
 rw [e]
 unfold qJV
 omega
theorem qbJ (T:TIn net zs work) {f:Int→Int} (NO:NumOn net zs f):∀ (k:Nat) (z:Int),z.toNat=k→z ∈ zs→∀ (st:Nat→List Int) (a b:Nat),a≤b→(∀ t,a≤t→t<b→∀ x ∈ st (t+1),x ∈ st t∨∀ y ∈ nd net x,y ∈ st (t+1))→
  (∀ x ∈ st a,¬ Nd net [z] x)→z ∈ st b→∃ (τ:Nat) (l:List Int),a≤τ∧τ≤b∧l.Nodup∧(∀ x ∈ l,x ∈ st τ∧Nd net [z] x)∧f z≤(l.length:Int):=by
 intro k
 induction k using Nat.strongRecOn with
 | ind k ih=>
  intro z hk hz st a b hab step empty hb
  have zb:=T.N.1.in_ z hz
  obtain ⟨c,c1,c2,c3,c4⟩:=qSM (p:=fun t=>z ∈ st t) hab (fun m=>empty z m (.ask (List.mem_singleton.mpr rfl))) hb
  have needs:∀ y ∈ nd net z,y ∈ st (c+1):=by
   rcases step c c1 c2 z c4 with q | q
   ·exact absurd q c3
   ·exact q
  obtain ⟨ds,pd,sd,ez⟩:=NO z hz
  obtain ⟨os,po,eo⟩:=L2.G.perm_map_inv pd (nd net z) rfl
  have lo:ds.length=os.length:=by rw [eo,List.length_map]
  have ndz:=T.nodup hz
  have ndo:os.Nodup:=po.nodup_iff.mpr ndz
  have up:∀ {y x:Int},y ∈ nd net z→Nd net [y] x→Nd net [z] x:=fun hy h=>qPQ hy h ⟨_,T.get hz⟩
  rcases (qGN (qDU ds ds.length) ((ds.length:Int)+1)).2.2 with h | h
  ·refine ⟨c+1,z::nd net z,by omega,by omega,List.nodup_cons.mpr ⟨fun m=>by have:=T.has hz m;omega,ndz⟩,fun x hx=>?_,?_⟩
   ·rcases List.mem_cons.mp hx with rfl | hx
    ·exact ⟨c4,.ask (List.mem_singleton.mpr rfl)⟩
    ·exact ⟨needs x hx,up hx (.ask (List.mem_singleton.mpr rfl))⟩
   ·rw [ez]
    unfold qJV
    rw [h,List.length_cons,lo,po.length_eq]
    omega
  ·have ef:f z=topI ((ds.length:Int)+1) (qDU ds ds.length):=ez
   rw [← ef] at h
   unfold qDU at h
   obtain ⟨i,hi,e⟩:=List.mem_map.mp h
   have hi:i<ds.length:=List.mem_range.mp hi
   rw [List.getElem?_eq_getElem hi,Option.getD_some] at e
   have hio:i<os.length:=by omega
   have hin:∀ o ∈ os.take (i+1),o ∈ nd net z:=fun o ho=>po.mem_iff.mp (List.mem_of_mem_take ho)
   have great:∀ o ∈ os.take (i+1),ds[i]≤f o:=fun o ho=>by
    obtain ⟨j,hj⟩:=List.getElem?_of_mem ho
    have lj:j<i+1:=by have:=(List.getElem?_eq_some_iff.mp hj).1;rw [List.length_take] at this;omega
    rw [List.getElem?_take_of_lt lj] at hj
    have hjd:j<ds.length:=by omega
    have ej:ds[j]=f o:=by
     have:ds[j]?=some (f o):=by rw [eo,List.getElem?_map,hj];rfl
     exact (List.getElem?_eq_some_iff.mp this).2
    by_cases g:j=i
    ·subst g;omega
    ·have:=List.pairwise_iff_getElem.mp sd j i hjd hi (by omega)
     omega
   have ltk:(os.take (i+1)).length=i+1:=by rw [List.length_take];omega
   obtain ⟨o,mo,e1,g1,g2,g3,g4⟩:=qXL (q:=fun o t=>∀ x ∈ st t,¬ Nd net [o] x) (a:=a) (c:=c+1) (by omega) (os.take (i+1)) (fun z=>by rw [z] at ltk;cases ltk) fun o ho x hx q=>empty x hx (up (hin o ho) q)
   have ho:=T.has hz (hin o mo)
   obtain ⟨τ,l,t1,t2,t3,t4,t5⟩:=ih o.toNat (by omega) o rfl ho.1 st e1 (c+1) g2 (fun t h1 h2=>step t (by omega) (by omega)) g3 (needs o (hin o mo))
   have f1:=qSA NO ho.1
   have t1':e1<τ:=by
    by_cases q:e1=τ
    ·subst q
     cases l with
     | nil=>rw [List.length_nil] at t5;omega
     | cons x l=>
      have:=t4 x List.mem_cons_self
      exact absurd this.2 (g3 x this.1)
    ·omega
   have nd1:(os.take (i+1)).Nodup:=ndo.sublist (List.take_sublist _ _)
   have others:∀ o' ∈ (os.take (i+1)).erase o,∃ x ∈ st τ,Nd net [o'] x:=fun o' m=>by
    have q:=g4 o' (List.mem_of_mem_erase m) τ t1' t2
    by_cases r:∃ x ∈ st τ,Nd net [o'] x
    ·exact r
    ·exact absurd (fun x hx n=>r ⟨x,hx,n⟩) q
   obtain ⟨m,m1,m2,m3⟩:=qR7 T hz ((os.take (i+1)).erase o) (nd1.erase o) (fun o' h=>hin o' (List.mem_of_mem_erase h)) others
   refine ⟨τ,l++m,by omega,by omega,?_,fun x hx=>?_,?_⟩
   ·rw [List.nodup_append]
    refine ⟨t3,m1,fun x hx y hy exy=>?_⟩
    subst exy
    obtain ⟨_,o',k1,k2⟩:=m3 x hy
    have:=T.disj hz (hin o mo) (hin o' (List.mem_of_mem_erase k1)) (t4 x hx).2 k2
    rw [← this] at k1
    exact (List.Nodup.mem_erase_iff nd1).mp k1 |>.1 rfl
   ·rcases List.mem_append.mp hx with q | q
    ·exact ⟨(t4 x q).1,up (hin o mo) (t4 x q).2⟩
    ·obtain ⟨k0,o',k1,k2⟩:=m3 x q
     exact ⟨k0,up (hin o' (List.mem_of_mem_erase k1)) k2⟩
   ·have le:=List.length_erase_of_mem mo
    have:=great o mo
    rw [List.length_append,m2,le,ltk,← e]
    omega
end
def mxi (a b:Int):Int:=if b > a then b else a
def strR (ws:List Int) (R:Int→Int):Int→List Int→Int
 | _,[]=>0
 | h,y::os=>mxi (h+R y) (strR ws R (h+wdO ws y) os)
theorem mxi_le {a b c:Int}:mxi a b≤c ↔ a≤c∧b≤c:=by unfold mxi;split <;> omega
theorem qHJ {a b:Int}:a≤mxi a b∧b≤mxi a b:=by unfold mxi;split <;> omega
def OrdS (ws:List Int) (R:Int→Int) (a b:Int):Prop:=wdO ws a - R a<wdO ws b - R b∨(wdO ws a - R a=wdO ws b - R b∧a<b)
def St1 (net:List (List Int)) (ws:List Int) (R:Int→Int) (O:Int→List Int) (z:Int):Prop:=∃ os:List Int,os.Perm (nd net z)∧os.Pairwise (OrdS ws R)∧O z=(os.map O).flatten++[z]∧R z=mxi (strR ws R 0 os) (sumW ws os+wdO ws z)
def StOn (net:List (List Int)) (ws zs:List Int) (R:Int→Int) (O:Int→List Int):Prop:=∀ z ∈ zs,St1 net ws R O z
theorem qMA {ws:List Int} {R:Int→Int}:∀ {a b:List Int},a.Perm b→a.Pairwise (OrdS ws R)→b.Pairwise (OrdS ws R)→a=b
 | [],b,p,_,_=>(List.nil_perm.mp p).symm
 | x::a,b,p,h1,h2=>by
  cases b with
  | nil=>exact absurd p.length_eq (by simp)
  | cons y b=>
   rw [List.pairwise_cons] at h1 h2
   have e:x=y:=by
    rcases List.mem_cons.mp (p.mem_iff.mp List.mem_cons_self) with e | m
    ·exact e
    ·rcases List.mem_cons.mp (p.mem_iff.mpr List.mem_cons_self) with e | m2
     ·exact e.symm
     ·have r1:=h2.1 x m
      have r2:=h1.1 y m2
      unfold OrdS at r1 r2
      omega
   subst e
   rw [qMA (List.Perm.cons_inv p) h1.2 h2.2]
theorem qTA {ws:List Int} {R:Int→Int} {h x y:Int} {r:List Int} (w0:0≤wdO ws x) (k:wdO ws y - R y≤wdO ws x - R x):strR ws R h (y::x::r)≤strR ws R h (x::y::r):=by
 show mxi (h+R y) (mxi (h+wdO ws y+R x) (strR ws R (h+wdO ws y+wdO ws x) r))≤mxi (h+R x) (mxi (h+wdO ws x+R y) (strR ws R (h+wdO ws x+wdO ws y) r))
 rw [show h+wdO ws y+wdO ws x=h+wdO ws x+wdO ws y by omega]
 generalize strR ws R (h+wdO ws x+wdO ws y) r=s
 unfold mxi
 split <;> split <;> split <;> split <;> omega
theorem qL0 {ws:List Int} {R:Int→Int} {y:Int} {b:List Int}:∀ (a:List Int) (h:Int),(∀ x ∈ a,0≤wdO ws x∧wdO ws y - R y≤wdO ws x - R x)→strR ws R h (y::(a++b))≤strR ws R h (a++y::b)
 | [],h,_=>Int.le_refl _
 | x::a,h,k=>by
  have kx:=k x List.mem_cons_self
  have ih:=qL0 (b:=b) a (h+wdO ws x) fun z hz=>k z (List.mem_cons_of_mem _ hz)
  have sw:=qTA (ws:=ws) (R:=R) (h:=h) (x:=x) (y:=y) (r:=a++b) kx.1 kx.2
  refine Int.le_trans sw ?_
  show mxi (h+R x) (strR ws R (h+wdO ws x) (y::(a++b)))≤mxi (h+R x) (strR ws R (h+wdO ws x) (a++y::b))
  exact mxi_le.mpr ⟨qHJ.1,Int.le_trans ih qHJ.2⟩
theorem qKZ {ws:List Int} {R:Int→Int}:∀ (os os':List Int) (h:Int),os.Pairwise (OrdS ws R)→os'.Perm os→(∀ x ∈ os,0≤wdO ws x)→strR ws R h os≤strR ws R h os'
 | [],os',h,_,p,_=>by rw [List.perm_nil.mp p];exact Int.le_refl _
 | y::os,os',h,s,p,w0=>by
  have my:y ∈ os':=p.mem_iff.mpr List.mem_cons_self
  obtain ⟨a,b,rfl⟩:=List.append_of_mem my
  have pb:(a++b).Perm os:=(List.perm_middle.symm.trans p).cons_inv
  rw [List.pairwise_cons] at s
  refine Int.le_trans ?_ (qL0 a h fun x hx=>?_)
  ·show mxi (h+R y) (strR ws R (h+wdO ws y) os)≤mxi (h+R y) (strR ws R (h+wdO ws y) (a++b))
   exact mxi_le.mpr ⟨qHJ.1,Int.le_trans (qKZ os (a++b) _ s.2 pb fun x hx=>w0 x (List.mem_cons_of_mem _ hx)) qHJ.2⟩
  ·have mx:x ∈ os:=pb.mem_iff.mp (List.mem_append_left _ hx)
   have:=s.1 x mx
   unfold OrdS at this
   exact ⟨w0 x (List.mem_cons_of_mem _ mx),by omega⟩
def runK (net:List (List Int)) (ws:List Int):Int→List Int→List Int
 | _,[]=>[]
 | k,o::l=>(k+wdO ws o)::runK net ws (k+wdO ws o - sumW ws (nd net o)) l
def endK (net:List (List Int)) (ws:List Int):Int→List Int→Int
 | k,[]=>k
 | k,o::l=>endK net ws (k+wdO ws o - sumW ws (nd net o)) l
theorem qF1 {net:List (List Int)} {ws:List Int}:∀ (a b:List Int) (k:Int),runK net ws k (a++b)=runK net ws k a++runK net ws (endK net ws k a) b
 | [],b,k=>rfl
 | o::a,b,k=>by rw [List.cons_append,runK,runK,qF1 a b,endK];rfl
theorem qF7 {net:List (List Int)} {ws:List Int}:∀ (a b:List Int) (k:Int),endK net ws k (a++b)=endK net ws (endK net ws k a) b
 | [],b,k=>rfl
 | o::a,b,k=>by rw [List.cons_append,endK,qF7 a b,endK]
theorem qQT {net:List (List Int)} {ws:List Int}:∀ (a:List Int) (k:Int),(runK net ws k a).length=a.length
 | [],_=>rfl
 | o::a,k=>by rw [runK,List.length_cons,List.length_cons,qQT a]
def IsTop (l:List Int) (m:Int):Prop:=m ∈ l∧∀ x ∈ l,x≤m
theorem IsTop.app {a b:List Int} {m n:Int} (h:IsTop a m) (k:IsTop b n):IsTop (a++b) (mxi m n):=by
 constructor
 ·unfold mxi
  split
  ·exact List.mem_append_right _ k.1
  ·exact List.mem_append_left _ h.1
 ·intro x hx
  rcases List.mem_append.mp hx with q | q
  ·exact Int.le_trans (h.2 x q) qHJ.1
  ·exact Int.le_trans (k.2 x q) qHJ.2
theorem IsTop.top {l:List Int} {m:Int} (h:IsTop l m):topD none l=some m:=by
 cases l with
 | nil=>cases h.1
 | cons x l=>
  show some (topI x l)=some m
  obtain ⟨a,b,c⟩:=qGN l x
  congr 1
  have h1:topI x l≤m:=by
   rcases c with e | e
   ·rw [e];exact h.2 x List.mem_cons_self
   ·exact h.2 _ (List.mem_cons_of_mem _ e)
  have h2:m≤topI x l:=by
   rcases List.mem_cons.mp h.1 with e | e
   ·rw [e];exact a
   ·exact b m e
  omega
section
variable {net:List (List Int)} {ws zs:List Int} {work:Int} {R:Int→Int} {O:Int→List Int}
theorem qLT {ws:List Int}:∀ {l:List Int},(∀ x ∈ l,1≤wdO ws x)→0≤sumW ws l
 | [],_=>by rw [qCX];exact Int.le_refl _
 | x::l,h=>by
  have a:=h x List.mem_cons_self
  have b:=qLT fun y hy=>h y (List.mem_cons_of_mem _ hy)
  rw [qAR]
  omega
def Wd1 (net:List (List Int)) (ws:List Int):Prop:=∀ x,0≤x→x<(net.length:Int)→1≤wdO ws x
theorem qY5 (T:TIn net zs work) (S:StOn net ws zs R O) (w0:Wd1 net ws) {z:Int} (hz:z ∈ zs):1≤R z:=by
 obtain ⟨os,p,s,eO,eR⟩:=S z hz
 have zb:=T.N.1.in_ z hz
 have a:=w0 z zb.1 zb.2
 have b:=qLT (ws:=ws) (l:=os) fun y hy=>by
  have h:=T.has hz (p.mem_iff.mp hy)
  exact w0 y h.2.2 (by omega)
 rw [eR]
 have:=(qHJ (a:=strR ws R 0 os) (b:=sumW ws os+wdO ws z)).2
 omega
theorem qY4 (T:TIn net zs work) (S:StOn net ws zs R O) (w0:Wd1 net ws):∀ (n:Nat) (z:Int),z.toNat=n→z ∈ zs→∀ k,endK net ws k (O z)=k+wdO ws z∧IsTop (runK net ws k (O z)) (k+R z):=by
 intro n
 induction n using Nat.strongRecOn with
 | ind n ih=>
  intro z hn hz k
  have zb:=T.N.1.in_ z hz
  have many:∀ (os:List Int),(∀ y ∈ os,y ∈ zs∧y<z∧0≤y)→∀ (k h:Int),0≤h→endK net ws (k+h) ((os.map O).flatten)=k+h+sumW ws os∧(os=[]∨IsTop (runK net ws (k+h) ((os.map O).flatten)) (k+strR ws R h os)):=by
   intro os
   induction os with
   | nil=>intro _ k h _;exact ⟨by rw [qCX];show k+h=_;omega,.inl rfl⟩
   | cons y os ihs=>
    intro hy k h h0
    have yb:=hy y List.mem_cons_self
    have wy:=w0 y yb.2.2 (by omega)
    have Ry:=qY5 T S w0 yb.1
    obtain ⟨e1,t1⟩:=ih y.toNat (by omega) y rfl yb.1 (k+h)
    obtain ⟨e2,t2⟩:=ihs (fun x hx=>hy x (List.mem_cons_of_mem _ hx)) k (h+wdO ws y) (by omega)
    rw [List.map_cons,List.flatten_cons,qF7,qF1,e1,qAR,show k+h+wdO ws y=k+(h+wdO ws y) by omega]
    refine ⟨by rw [e2];omega,.inr ?_⟩
    show IsTop _ (k+mxi (h+R y) (strR ws R (h+wdO ws y) os))
    rcases t2 with rfl | t2
    ·have e:mxi (h+R y) (strR ws R (h+wdO ws y) [])=h+R y:=by show mxi (h+R y) 0=_;unfold mxi;split <;> omega
     rw [e,show k+(h+R y)=k+h+R y by omega]
     show IsTop (runK net ws (k+h) (O y)++[]) _
     rw [List.append_nil]
     exact t1
    ·have:=t1.app t2
     have e:mxi (k+h+R y) (k+strR ws R (h+wdO ws y) os)=k+mxi (h+R y) (strR ws R (h+wdO ws y) os):=by unfold mxi;split <;> split <;> omega
     rw [e] at this
     exact this
  obtain ⟨os,p,s,eO,eR⟩:=S z hz
  obtain ⟨e2,t2⟩:=many os (fun y hy=>T.has hz (p.mem_iff.mp hy)) k 0 (Int.le_refl _)
  rw [Int.add_zero] at e2 t2
  rw [eO,eR,qF7,qF1,e2]
  have wz:=w0 z zb.1 zb.2
  refine ⟨?_,?_⟩
  ·show k+sumW ws os+wdO ws z - sumW ws (nd net z)=_
   rw [qFF p]
   omega
  ·have last:IsTop (runK net ws (k+sumW ws os) [z]) (k+sumW ws os+wdO ws z):=⟨List.mem_singleton.mpr rfl,fun x hx=>by rw [List.mem_singleton.mp hx];exact Int.le_refl _⟩
   rcases t2 with rfl | t2
   ·rw [qCX] at last ⊢
    have e:mxi (strR ws R 0 []) (0+wdO ws z)=wdO ws z:=by show mxi 0 _=_;unfold mxi;split <;> omega
    rw [e]
    rw [Int.add_zero] at last ⊢
    exact last
   ·have:=t2.app last
    have e:mxi (k+strR ws R 0 os) (k+sumW ws os+wdO ws z)=k+mxi (strR ws R 0 os) (sumW ws os+wdO ws z):=by unfold mxi;split <;> split <;> omega
    rw [e] at this
    exact this
theorem qT7 (T:TIn net zs work) (S:StOn net ws zs R O):∀ (n:Nat) (z:Int),z.toNat=n→z ∈ zs→(O z).Nodup∧(∀ x,x ∈ O z ↔ Nd net [z] x)∧(∀ (p:Nat) (o:Int),(O z)[p]?=some o→∀ x ∈ nd net o,x ∈ (O z).take p):=by
 intro n
 induction n using Nat.strongRecOn with
 | ind n ih=>
  intro z hn hz
  have zb:=T.N.1.in_ z hz
  obtain ⟨os,p,s,eO,eR⟩:=S z hz
  have has:∀ y ∈ os,y ∈ zs∧y<z∧0≤y:=fun y hy=>T.has hz (p.mem_iff.mp hy)
  have ndo:os.Nodup:=p.nodup_iff.mpr (T.nodup hz)
  have get:=T.get hz
  have mem:∀ x,x ∈ (os.map O).flatten ↔ ∃ y ∈ os,Nd net [y] x:=by
   intro x
   rw [List.mem_flatten]
   constructor
   ·rintro ⟨l,hl,hx⟩
    obtain ⟨y,hy,rfl⟩:=List.mem_map.mp hl
    have yb:=has y hy
    exact ⟨y,hy,((ih y.toNat (by omega) y rfl yb.1).2.1 x).mp hx⟩
   ·rintro ⟨y,hy,hx⟩
    have yb:=has y hy
    exact ⟨O y,List.mem_map.mpr ⟨y,hy,rfl⟩,((ih y.toNat (by omega) y rfl yb.1).2.1 x).mpr hx⟩
  have flat:∀ (l:List Int),l.Nodup→(∀ y ∈ l,y ∈ os)→((l.map O).flatten).Nodup∧(∀ (q:Nat) (o:Int),((l.map O).flatten)[q]?=some o→∀ x ∈ nd net o,x ∈ ((l.map O).flatten).take q):=by
   intro l
   induction l with
   | nil=>exact fun _ _=>⟨List.nodup_nil,fun q o e=>by simp at e⟩
   | cons y l ihl=>
    intro nl hl
    have yb:=has y (hl y List.mem_cons_self)
    obtain ⟨n1,m1,b1⟩:=ih y.toNat (by omega) y rfl yb.1
    rw [List.nodup_cons] at nl
    obtain ⟨n2,b2⟩:=ihl nl.2 fun x hx=>hl x (List.mem_cons_of_mem _ hx)
    rw [List.map_cons,List.flatten_cons]
    constructor
    ·rw [List.nodup_append]
     refine ⟨n1,n2,fun a ha b hb e=>?_⟩
     subst e
     obtain ⟨lb,hlb,hab⟩:=List.mem_flatten.mp hb
     obtain ⟨y2,hy2,rfl⟩:=List.mem_map.mp hlb
     have yb2:=has y2 (hl y2 (List.mem_cons_of_mem _ hy2))
     have h1:=(m1 a).mp ha
     have h2:=((ih y2.toNat (by omega) y2 rfl yb2.1).2.1 a).mp hab
     have eq:y=y2:=by
      rcases T.chain yb.1 yb2.1 h1 h2 with q | q
      ·exact T.apart hz (p.mem_iff.mp (hl y List.mem_cons_self)) (p.mem_iff.mp (hl y2 (List.mem_cons_of_mem _ hy2))) q
      ·exact (T.apart hz (p.mem_iff.mp (hl y2 (List.mem_cons_of_mem _ hy2))) (p.mem_iff.mp (hl y List.mem_cons_self)) q).symm
     rw [eq] at nl
     exact nl.1 hy2
    ·intro q o e x hx
     by_cases c:q<(O y).length
     ·rw [List.getElem?_append_left c] at e
      rw [List.take_append_of_le_length (by omega)]
      exact b1 q o e x hx
     ·rw [List.getElem?_append_right (by omega)] at e
      have:=b2 _ o e x hx
      rw [List.take_append]
      exact List.mem_append_right _ this
  obtain ⟨n1,b1⟩:=flat os ndo fun y hy=>hy
  have memz:∀ x,x ∈ O z ↔ Nd net [z] x:=by
   intro x
   rw [eO,List.mem_append,mem,List.mem_singleton]
   constructor
   ·rintro (⟨y,hy,h⟩ | h)
    ·exact qPQ (p.mem_iff.mp hy) h ⟨_,get⟩
    ·rw [h];exact .ask (List.mem_singleton.mpr rfl)
   ·intro h
    have:x=z∨∃ y ∈ nd net z,Nd net [y] x:=by
     induction h with
     | ask m=>exact .inl (List.mem_singleton.mp m)
     | @need w y ys hw e hm ihn=>
      rcases ihn with h | ⟨v,hv,hn⟩
      ·subst h
       exact .inr ⟨y,by rw [qAD e];exact hm,.ask (List.mem_singleton.mpr rfl)⟩
      ·exact .inr ⟨v,hv,.need hn e hm⟩
    rcases this with h | ⟨y,hy,h⟩
    ·exact .inr h
    ·exact .inl ⟨y,p.mem_iff.mpr hy,h⟩
  refine ⟨?_,memz,fun q o e x hx=>?_⟩
  ·rw [eO,List.nodup_append]
   refine ⟨n1,by simp,fun a ha b hb e=>?_⟩
   rw [List.mem_singleton.mp hb] at e
   subst e
   obtain ⟨y,hy,h⟩:=(mem a).mp ha
   have:=qPR T.wf h
   have:=(has y hy).2.1
   omega
  ·rw [eO] at e ⊢
   by_cases c:q<((os.map O).flatten).length
   ·rw [List.getElem?_append_left c] at e
    rw [List.take_append_of_le_length (by omega)]
    exact b1 q o e x hx
   ·rw [List.getElem?_append_right (by omega)] at e
    have hq:=(List.getElem?_eq_some_iff.mp e).1
    rw [List.length_singleton] at hq
    have hq0:q - ((os.map O).flatten).length=0:=by omega
    rw [hq0] at e
    have eo:z=o:=by simpa using e
    subst eo
    rw [List.take_append_of_le_length (by omega),List.take_of_length_le (by omega)]
    exact (mem x).mpr ⟨x,p.mem_iff.mpr hx,.ask (List.mem_singleton.mpr rfl)⟩
theorem qQU:∀ (l:List Int) (k:Int) (p:Nat) (o:Int),l[p]?=some o→(runK net ws k l)[p]?=some (endK net ws k (l.take p)+wdO ws o)
 | [],_,p,o,h=>by simp at h
 | x::l,k,0,o,h=>by cases h;rfl
 | x::l,k,p+1,o,h=>by
  show (runK net ws (k+wdO ws x - sumW ws (nd net x)) l)[p]?=_
  rw [qQU l _ p o h]
  rfl
theorem qN8 {l:List Int} (wf:WFn net) (T:TopO net l) (user:∀ {u v x:Int},u ∈ l→v ∈ l→x ∈ nd net u→x ∈ nd net v→u=v):qB7 net ws l=runK net ws 0 l:=by
 have kp:∀ p,p<l.length→qCL net ws l p=endK net ws 0 (l.take p):=by
  intro p
  induction p with
  | zero=>intro _;rw [qOB];rfl
  | succ p ih=>
   intro hp
   have hlt:p<l.length:=by omega
   have g:=List.getElem?_eq_getElem hlt
   have ks:=qOC (ws:=ws) wf T g hp
   have all:((nd net l[p]).filter fun y=>decide (qBA net l y=some l[p]))=nd net l[p]:=List.filter_eq_self.mpr fun y hy=>decide_eq_true ((qO6 T.nodup g y).mpr ⟨hy,fun ⟨v,hv,hyv⟩=>by
    have e:=user (List.getElem_mem hlt) (List.mem_of_mem_drop hv) hy hyv
    obtain ⟨j,hj,ej⟩:=List.getElem_of_mem hv
    rw [List.getElem_drop] at ej
    have:=qK9 T.nodup (by rw [List.length_drop] at hj;omega) hlt (ej.trans e.symm)
    omega⟩)
   rw [ks,all,ih hlt,List.take_add_one,g,Option.toList_some,qF7]
   rfl
 apply List.ext_getElem?
 intro p
 unfold qB7
 rw [List.getElem?_map]
 by_cases hp:p<l.length
 ·have g:=List.getElem?_eq_getElem hp
  rw [List.getElem?_range hp,qQU l 0 p _ g,← kp p hp]
  show some (wdO ws ((l[p]?).getD 0)+qCL net ws l p)=_
  rw [g,Option.getD_some,Int.add_comm]
 ·rw [List.getElem?_eq_none (by rw [List.length_range];omega),List.getElem?_eq_none (by rw [qQT];omega)]
  rfl
theorem qEU (T:TIn net zs work) {z:Int} (hz:z ∈ zs):∃ yy,qAH net [z] yy∧∀ x ∈ yy,x ∈ zs:=by
 refine ⟨zs.filter fun x=>@decide (Nd net [z] x) (Classical.propDecidable _),⟨⟨T.N.1.up.sublist List.filter_sublist,fun x hx=>T.N.1.in_ x (List.mem_filter.mp hx).1⟩,fun x=>?_⟩,fun x hx=>(List.mem_filter.mp hx).1⟩
 rw [List.mem_filter]
 constructor
 ·exact fun h=>@of_decide_eq_true _ (Classical.propDecidable _) h.2
 ·exact fun h=>⟨T.sub hz h,@decide_eq_true _ (Classical.propDecidable _) h⟩
theorem qLV (T:TIn net zs work) (S:StOn net ws zs R O) (w0:Wd1 net ws) {z:Int} (hz:z ∈ zs):TopO net (O z)∧(O z).length≤63∧topD none (qB7 net ws (O z))=some (R z)∧(∀ x ∈ O z,0≤x∧x<(net.length:Int)):=by
 obtain ⟨n1,m1,b1⟩:=qT7 T S _ z rfl hz
 obtain ⟨yy,NY,sy⟩:=qEU T hz
 have mm:∀ x,x ∈ O z ↔ x ∈ yy:=fun x=>(m1 x).trans (NY.2 x).symm
 have TO:=qT5 NY n1 mm b1
 have inz:∀ x ∈ O z,x ∈ zs:=fun x hx=>sy x ((mm x).mp hx)
 refine ⟨TO,?_,?_,fun x hx=>T.N.1.in_ x (inz x hx)⟩
 ·have h:=List.Nodup.length_le_of_subset n1 (fun x hx=>inz x hx:O z ⊆ zs)
  have:=T.N.1.len
  have:=T.len
  omega
 ·rw [qN8 T.wf TO (fun hu hv h1 h2=>T.user (inz _ hu) (inz _ hv) h1 h2)]
  have:=(qY4 T S w0 _ z rfl hz 0).2.top
  rw [Int.zero_add] at this
  exact this
def ordS (ws:List Int) (R:Int→Int) (l:List Int):List Int:=l.mergeSort fun a b=>decide (wdO ws a - R a<wdO ws b - R b∨(wdO ws a - R a=wdO ws b - R b∧a≤b))
theorem qC5 (ws:List Int) (R:Int→Int) (l:List Int):(ordS ws R l).Perm l:=List.mergeSort_perm _ _
theorem qM9 {ws:List Int} {R:Int→Int} {l:List Int} (n:l.Nodup):(ordS ws R l).Pairwise (OrdS ws R):=by
 have h:=List.pairwise_mergeSort (le:=fun a b=>decide (wdO ws a - R a<wdO ws b - R b∨(wdO ws a - R a=wdO ws b - R b∧a≤b))) (fun a b c h1 h2=>by
  rw [decide_eq_true_eq] at h1 h2 ⊢
  omega) (fun a b=>by
  rw [Bool.or_eq_true,decide_eq_true_eq,decide_eq_true_eq]
  omega) l
 have n2:(ordS ws R l).Nodup:=(qC5 ws R l).nodup_iff.mpr n
 refine (h.and n2).imp fun {a b} z=>?_
 have z1:=of_decide_eq_true z.1
 have z2:a ≠ b:=z.2
 unfold OrdS
 omega
def rF (net:List (List Int)) (ws:List Int):Nat→Int→Int
 | 0,_=>0
 | n+1,z=>mxi (strR ws (rF net ws n) 0 (ordS ws (rF net ws n) (nd net z))) (sumW ws (nd net z)+wdO ws z)
theorem qI3 {ws:List Int} {R R':Int→Int}:∀ {os:List Int} (h:Int),(∀ y ∈ os,R y=R' y)→strR ws R h os=strR ws R' h os
 | [],_,_=>rfl
 | y::os,h,e=>by
  show mxi (h+R y) _=mxi (h+R' y) _
  rw [e y List.mem_cons_self,qI3 _ fun x hx=>e x (List.mem_cons_of_mem _ hx)]
theorem qL8 {ws:List Int} {R R':Int→Int} {l:List Int} (n:l.Nodup) (e:∀ y ∈ l,R y=R' y):ordS ws R l=ordS ws R' l:=by
 have h2:(ordS ws R' l).Pairwise (OrdS ws R):=(qM9 n).imp_of_mem fun {a b} ha hb h=>by
  unfold OrdS at h ⊢
  rw [e a ((qC5 ws R' l).mem_iff.mp ha),e b ((qC5 ws R' l).mem_iff.mp hb)]
  exact h
 exact qMA ((qC5 ws R l).trans (qC5 ws R' l).symm) (qM9 n) h2
theorem qZY (T:TIn net zs work):∀ (k n m:Nat) (z:Int),z.toNat=k→z ∈ zs→k<n→k<m→rF net ws n z=rF net ws m z:=by
 intro k
 induction k using Nat.strongRecOn with
 | ind k ih=>
  intro n m z hk hz hn hm
  obtain ⟨n,rfl⟩:∃ n',n=n'+1:=⟨n - 1,by omega⟩
  obtain ⟨m,rfl⟩:∃ m',m=m'+1:=⟨m - 1,by omega⟩
  have e:∀ y ∈ nd net z,rF net ws n y=rF net ws m y:=fun y hy=>by
   have h:=T.has hz hy
   exact ih y.toNat (by omega) n m y rfl h.1 (by omega) (by omega)
  unfold rF
  rw [qL8 (T.nodup hz) e,qI3 _ fun y hy=>e y ((qC5 ws _ _).mem_iff.mp hy)]
def oF (net:List (List Int)) (ws:List Int) (R:Int→Int):Nat→Int→List Int
 | 0,_=>[]
 | n+1,z=>((ordS ws R (nd net z)).map (oF net ws R n)).flatten++[z]
theorem qaA (T:TIn net zs work):∀ (k n m:Nat) (z:Int),z.toNat=k→z ∈ zs→k<n→k<m→oF net ws R n z=oF net ws R m z:=by
 intro k
 induction k using Nat.strongRecOn with
 | ind k ih=>
  intro n m z hk hz hn hm
  obtain ⟨n,rfl⟩:∃ n',n=n'+1:=⟨n - 1,by omega⟩
  obtain ⟨m,rfl⟩:∃ m',m=m'+1:=⟨m - 1,by omega⟩
  unfold oF
  congr 2
  refine List.map_congr_left fun y hy=>?_
  have h:=T.has hz ((qC5 ws R _).mem_iff.mp hy)
  exact ih y.toNat (by omega) n m y rfl h.1 (by omega) (by omega)
theorem exS (T:TIn net zs work) (ws:List Int):∃ R O,StOn net ws zs R O:=by
 refine ⟨fun z=>rF net ws (z.toNat+1) z,fun z=>oF net ws (fun z=>rF net ws (z.toNat+1) z) (z.toNat+1) z,fun z hz=>?_⟩
 have zb:=T.N.1.in_ z hz
 have eR:∀ y ∈ nd net z,rF net ws z.toNat y=rF net ws (y.toNat+1) y:=fun y hy=>by
  have h:=T.has hz hy
  exact qZY T y.toNat _ _ y rfl h.1 (by omega) (by omega)
 refine ⟨ordS ws (fun z=>rF net ws (z.toNat+1) z) (nd net z),qC5 _ _ _,qM9 (T.nodup hz),?_,?_⟩
 ·show ((ordS ws (fun z=>rF net ws (z.toNat+1) z) (nd net z)).map (oF net ws _ z.toNat)).flatten++[z]=_
  congr 2
  refine List.map_congr_left fun y hy=>?_
  have h:=T.has hz ((qC5 ws _ _).mem_iff.mp hy)
  exact qaA T y.toNat _ _ y rfl h.1 (by omega) (by omega)
 ·show mxi (strR ws (rF net ws z.toNat) 0 (ordS ws (rF net ws z.toNat) (nd net z))) (sumW ws (nd net z)+wdO ws z)=_
  rw [qL8 (T.nodup hz) eR,qI3 0 fun y hy=>eR y ((qC5 ws _ _).mem_iff.mp hy),qFF (qC5 ws _ (nd net z))]
theorem St1.by {z:Int} {os:List Int} (h:St1 net ws R O z) (p:os.Perm (nd net z)) (s:os.Pairwise (OrdS ws R)):O z=(os.map O).flatten++[z]∧R z=mxi (strR ws R 0 os) (sumW ws os+wdO ws z):=by
 obtain ⟨o,p2,s2,e1,e2⟩:=h
 have:=qMA (p2.trans p.symm) s2 s
 subst this
 exact ⟨e1,e2⟩
end
def TabS (H:Hp) (Pt:Addr):Prop:=H Pt=some (.tbl (.tab "stretched.<locals>.<lambda>"))
def qH8:Sp:=fun vs H Q _=>∃ (a:Addr) (net:List (List Int)) (work:Int),vs=[.ref a,.int work]∧NIn H a net work∧isT net work∧∀ H',Same H H'→Q .non H'
def qKV (H:Hp) (a t:Addr) (net:List (List Int)) (ws:List Int) (work:Int):Prop:=NIn H a net work∧WdAt H t net ws∧Wd1 net ws∧isT net work
def qGQ (Pt:Addr):Sp:=fun vs H Q _=>∃ (a t:Addr) (net:List (List Int)) (ws:List Int) (work:Int),vs=[.ref a,.ref t,.int work]∧TabS H Pt∧qKV H a t net ws work∧
 ∀ (T l:Addr) (zs:List Int) (R:Int→Int) (O:Int→List Int) (H':Hp),Same H H'→H l=none→qAH net [work] zs→StOn net ws zs R O→H' T=some (.tup [.int (R work),.ref l])→H' l=some (.lst ((O work).map V.int))→Q (.ref T) H'
def keyS (ws:List Int) (R:Int→Int) (y:Int):List Int:=[wdO ws y - R y,y]
theorem qbD {ws:List Int} {R:Int→Int} {ys:List Int} {rs:List (List Int × V)} (n:ys.Nodup) (p:rs.Perm ((ys.map (keyS ws R)).zip (ys.map V.int))) (s:rs.Pairwise (fun a b=>HT.lexLt b.1 a.1=false)):∃ os:List Int,os.Perm ys∧os.Pairwise (OrdS ws R)∧rs.map (·.2)=os.map V.int:=by
 have ez:(ys.map (keyS ws R)).zip (ys.map V.int)=ys.map fun y=>(keyS ws R y,V.int y):=by
  clear n p
  induction ys with
  | nil=>rfl
  | cons y ys ih=>rw [List.map_cons,List.map_cons,List.zip_cons_cons,ih,List.map_cons]
 obtain ⟨os,p2,e⟩:=L2.G.perm_map_inv p ys ez
 refine ⟨os,p2,?_,by rw [e,List.map_map];rfl⟩
 rw [e,List.pairwise_map] at s
 have n2:os.Nodup:=p2.nodup_iff.mpr n
 refine (s.and n2).imp fun {a b} z=>?_
 have z2:a ≠ b:=z.2
 have z1:¬ (wdO ws b - R b<wdO ws a - R a∨(wdO ws b - R b=wdO ws a - R a∧b<a)):=fun q=>by
  have:=(lexT _ _ _ _).mpr q
  have z1:HT.lexLt [wdO ws b - R b,b] [wdO ws a - R a,a]=false:=z.1
  rw [z1] at this
  cases this
 unfold OrdS
 omega
abbrev Stp:=Int × Int
def gns:List Stp→Int
 | []=>0
 | a::l=>a.2+gns l
theorem qI9:∀ (a b:List Stp),gns (a++b)=gns a+gns b
 | [],b=>by show gns b=0+gns b;omega
 | x::a,b=>by
  show x.2+gns (a++b)=x.2+gns a+gns b
  rw [qI9 a b];omega
def Belo (m:Int):Int→List Stp→Prop
 | _,[]=>True
 | d,a::l=>d+a.1≤m∧Belo m (d+a.2) l
theorem Belo.up {m n e:Int}:∀ {l:List Stp} {d:Int},Belo m d l→m+e≤n→Belo n (d+e) l
 | [],_,_,_=>trivial
 | a::l,d,h,k=>by
  refine ⟨by have:=h.1;omega,?_⟩
  have:=h.2.up (e:=e) k
  rw [show d+e+a.2=d+a.2+e by omega]
  exact this
theorem Belo.app {m:Int}:∀ {a b:List Stp} {d:Int},Belo m d (a++b) ↔ Belo m d a∧Belo m (d+gns a) b
 | [],b,d=>by
  show Belo m d b ↔ True∧Belo m (d+0) b
  rw [Int.add_zero];simp
 | x::a,b,d=>by
  show (d+x.1≤m∧Belo m (d+x.2) (a++b)) ↔ (d+x.1≤m∧Belo m (d+x.2) a)∧Belo m (d+(x.2+gns a)) b
  rw [Belo.app,show d+(x.2+gns a)=d+x.2+gns a by omega,and_assoc]
inductive Dm:Int→List Stp→List Stp→Prop
 | nil {d:Int}:d≤0→Dm d [] []
 | step {d:Int} {a:Stp} {t s1 s:List Stp}:d≤0→Belo a.1 d s1→Dm (d+gns s1 - a.2) s t→Dm d (s1++s) (a::t)
theorem Dm.le {d:Int} {s t:List Stp} (h:Dm d s t):d≤0:=by cases h <;> assumption
theorem Dm.to {d e:Int} {s t:List Stp} (h:Dm d s t) (k:d=e):Dm e s t:=k ▸ h
theorem Dm.end_ {d:Int} {s t:List Stp} (h:Dm d s t):d+gns s - gns t≤0:=by
 induction h with
 | nil h=>show _+0 - 0≤0;omega
 | @step d a t s1 s _ _ _ ih=>
  rw [qI9]
  show _ - (a.2+gns t)≤0
  omega
theorem Dm.low {d:Int} {s t:List Stp} (h:Dm d s t):∀ {m k:Int},Belo m k t→Belo m (k+d) s:=by
 induction h with
 | nil _=>intros;trivial
 | @step d a t s1 s _ b _ ih=>
  intro m k ht
  refine Belo.app.mpr ⟨?_,?_⟩
  ·have:=b.up (n:=m) (e:=k) (by have:=ht.1;omega)
   rwa [Int.add_comm] at this
  ·have:=ih ht.2
   rwa [show k+a.2+(d+gns s1 - a.2)=k+d+gns s1 by omega] at this
theorem Dm.refl {d:Int} (h:d≤0):∀ s:List Stp,Dm d s s
 | []=>.nil h
 | a::s=>Dm.step (s1:=[a]) h ⟨by omega,trivial⟩ ((Dm.refl h s).to (by show d=d+(a.2+0) - a.2;omega))
theorem Dm.app {d:Int} {s t s' t':List Stp} (h:Dm d s t):Dm (d+gns s - gns t) s' t'→Dm d (s++s') (t++t'):=by
 induction h with
 | nil h=>intro k;exact k.to (by show _+0 - 0=_;omega)
 | @step d a t s1 s hd b _ ih=>
  intro k
  rw [List.append_assoc]
  refine Dm.step hd b (ih (k.to ?_))
  rw [qI9]
  show d+(gns s1+gns s) - (a.2+gns t)=d+gns s1 - a.2+gns s - gns t
  omega
theorem Dm.nil_right {d:Int} {s:List Stp} (h:Dm d s []):s=[]:=by cases h;rfl
theorem Dm.split:∀ {t:List Stp} {d:Int} {s t':List Stp},Dm d s (t++t')→∃ s1 s',s=s1++s'∧Dm d s1 t∧Dm (d+gns s1 - gns t) s' t'
 | [],d,s,t',h=>⟨[],s,rfl,.nil h.le,h.to (by show d=d+0 - 0;omega)⟩
 | a::t,d,s,t',h=>by
  cases h with
  | @step _ _ _ s0 s2 hd b k=>
   obtain ⟨s1,s',e,k1,k2⟩:=Dm.split k
   subst e
   refine ⟨s0++s1,s',by rw [List.append_assoc],.step hd b k1,k2.to ?_⟩
   rw [qI9]
   show _=d+(gns s0+gns s1) - (a.2+gns t)
   omega
theorem Dm.trans {d e:Int} {s t u:List Stp} (h:Dm d s t) (k:Dm e t u):Dm (d+e) s u:=by
 induction k generalizing d s with
 | nil he=>
  rw [h.nil_right]
  exact .nil (by have:=h.le;omega)
 | @step e a u t1 t he b _ ih=>
  obtain ⟨s1,s',rfl,k1,k2⟩:=h.split
  refine .step (by have:=h.le;omega) ?_ ((ih k2).to (by omega))
  have:=k1.low b
  rwa [Int.add_comm] at this
theorem Dm.tr {s t u:List Stp} (h:Dm 0 s t) (k:Dm 0 t u):Dm 0 s u:=h.trans k
inductive Shu:List Stp→List Stp→List Stp→Prop
 | nil:Shu [] [] []
 | left {a:Stp} {s u v:List Stp}:Shu s u v→Shu (a::s) u (a::v)
 | right {a:Stp} {s u v:List Stp}:Shu s u v→Shu s (a::u) (a::v)
theorem Shu.symm {s u v:List Stp} (h:Shu s u v):Shu u s v:=by
 induction h with
 | nil=>exact .nil
 | left _ ih=>exact .right ih
 | right _ ih=>exact .left ih
theorem Shu.front {s u v:List Stp} (h:Shu s u v):∀ s1:List Stp,Shu (s1++s) u (s1++v)
 | []=>h
 | a::s1=>.left (h.front s1)
theorem Shu.perm {s u v:List Stp} (h:Shu s u v):v.Perm (s++u):=by
 induction h with
 | nil=>exact .refl _
 | left _ ih=>exact ih.cons _
 | right _ ih=>exact (ih.cons _).trans List.perm_middle.symm
theorem Shu.repl {t u v:List Stp} (h:Shu t u v):∀ {d:Int} {s:List Stp},Dm d s t→∃ v',Shu s u v'∧Dm d v' v:=by
 induction h with
 | nil=>
  intro d s k
  have hd:=k.le
  rw [k.nil_right]
  exact ⟨[],.nil,.nil hd⟩
 | @left a t u v _ ih=>
  intro d s k
  cases k with
  | @step _ _ _ s1 s' hd b k=>
   obtain ⟨v',h1,h2⟩:=ih k
   exact ⟨s1++v',h1.front s1,.step hd b h2⟩
 | @right a t u v _ ih=>
  intro d s k
  obtain ⟨v',h1,h2⟩:=ih k
  exact ⟨a::v',.right h1,Dm.step (s1:=[a]) k.le ⟨by have:=k.le;omega,trivial⟩ (h2.to (by show d=d+(a.2+0) - a.2;omega))⟩
def ShM:List (List Stp)→List Stp→Prop
 | [],v=>v=[]
 | t::ts,v=>∃ u,ShM ts u∧Shu t u v
theorem ShM.perm:∀ {ts:List (List Stp)} {v:List Stp},ShM ts v→v.Perm ts.flatten
 | [],v,h=>by rw [show v=[] from h];exact .refl _
 | t::ts,v,⟨u,h1,h2⟩=>by
  rw [List.flatten_cons]
  exact h2.perm.trans (h1.perm.append_left t)
theorem ShM.repl:∀ {ts ss:List (List Stp)} {v:List Stp},Paired (fun s t=>Dm 0 s t) ss ts→ShM ts v→∃ v',ShM ss v'∧Dm 0 v' v
 | _,_,v,.nil,h=>⟨v,h,.refl (Int.le_refl _) v⟩
 | _,_,v,.cons k p,⟨u,h1,h2⟩=>by
  obtain ⟨u',a1,a2⟩:=ShM.repl p h1
  obtain ⟨v1,b1,b2⟩:=h2.symm.repl a2
  obtain ⟨v2,c1,c2⟩:=b1.symm.repl k
  exact ⟨v2,⟨u',a1,c1⟩,c2.tr b2⟩
def kyS (a:Stp):Int:=a.2 - a.1
theorem qZ0 {x y:Stp} {r:List Stp} (g:0≤x.2) (k:kyS y≤kyS x):Dm 0 (y::x::r) (x::y::r):=by
 unfold kyS at k
 refine Dm.step (s1:=[]) (Int.le_refl _) trivial ?_
 refine Dm.step (s1:=[y,x]) ?_ ⟨?_,?_,trivial⟩ ((Dm.refl (Int.le_refl 0) r).to ?_)
 ·show 0+0 - x.2≤0;omega
 ·show 0+0 - x.2+y.1≤y.1;omega
 ·show 0+0 - x.2+y.2+x.1≤y.1;omega
 ·show 0=0+0 - x.2+(y.2+(x.2+0)) - y.2;omega
theorem qUY {x:Stp} {s t:List Stp} (h:Dm 0 s t):Dm 0 (x::s) (x::t):=
 Dm.step (s1:=[x]) (Int.le_refl _) ⟨by omega,trivial⟩ (h.to (by show 0=0+(x.2+0) - x.2;omega))
theorem qRO {y:Stp} {b:List Stp}:∀ (a:List Stp),(∀ x ∈ a,0≤x.2∧kyS y≤kyS x)→Dm 0 (y::(a++b)) (a++y::b)
 | [],_=>.refl (Int.le_refl _) _
 | x::a,h=>by
  have hx:=h x List.mem_cons_self
  exact (qZ0 hx.1 hx.2).tr (qUY (qRO a fun z hz=>h z (List.mem_cons_of_mem _ hz)))
theorem qOP:∀ (os t:List Stp),os.Pairwise (fun a b=>kyS a≤kyS b)→t.Perm os→(∀ x ∈ os,0≤x.2)→Dm 0 os t
 | [],t,_,p,_=>by rw [List.perm_nil.mp p];exact .nil (Int.le_refl _)
 | y::os,t,s,p,g=>by
  obtain ⟨a,b,rfl⟩:=List.append_of_mem (p.mem_iff.mpr List.mem_cons_self)
  have pb:(a++b).Perm os:=(List.perm_middle.symm.trans p).cons_inv
  rw [List.pairwise_cons] at s
  refine (qUY (qOP os (a++b) s.2 pb fun x hx=>g x (List.mem_cons_of_mem _ hx))).tr (qRO a fun x hx=>?_)
  have mx:x ∈ os:=pb.mem_iff.mp (List.mem_append_left _ hx)
  exact ⟨g x (List.mem_cons_of_mem _ mx),s.1 x mx⟩
def Eqv (s t:List Stp):Prop:=Dm 0 s t∧Dm 0 t s
theorem Eqv.rfl' (s:List Stp):Eqv s s:=⟨.refl (Int.le_refl _) s,.refl (Int.le_refl _) s⟩
theorem Eqv.tr {s t u:List Stp} (h:Eqv s t) (k:Eqv t u):Eqv s u:=⟨h.1.tr k.1,k.2.tr h.2⟩
theorem Eqv.gns {s t:List Stp} (h:Eqv s t):gns s=gns t:=by
 have a:=h.1.end_
 have b:=h.2.end_
 omega
theorem Eqv.app {s t s' t':List Stp} (h:Eqv s t) (k:Eqv s' t'):Eqv (s++s') (t++t'):=
 ⟨h.1.app (k.1.to (by have:=h.gns;omega)),h.2.app (k.2.to (by have:=h.gns;omega))⟩
def qWG (a b:Stp):Stp:=(mxi a.1 (a.2+b.1),a.2+b.2)
theorem qRN {a b:Stp} (g:0≤a.2) (h:b.2≤0∨a.1≤a.2+b.1):Eqv [qWG a b] [a,b]:=by
 constructor
 ·by_cases c:a.1≤a.2+b.1
  ·refine Dm.step (s1:=[]) (Int.le_refl _) trivial (Dm.step (s1:=[qWG a b]) ?_ ⟨?_,trivial⟩ (Dm.nil ?_))
   ·show 0+0 - a.2≤0;omega
   ·show 0+0 - a.2+mxi a.1 (a.2+b.1)≤b.1
    have:=mxi_le (a:=a.1) (b:=a.2+b.1) (c:=a.2+b.1)
    have:=this.mpr ⟨c,Int.le_refl _⟩
    omega
   ·show 0+0 - a.2+(a.2+b.2+0) - b.2≤0;omega
  ·have h':b.2≤0:=by omega
   refine Dm.step (s1:=[qWG a b]) (Int.le_refl _) ⟨?_,trivial⟩ (Dm.step (s1:=[]) ?_ trivial (Dm.nil ?_))
   ·show 0+mxi a.1 (a.2+b.1)≤a.1
    have:=(mxi_le (a:=a.1) (b:=a.2+b.1) (c:=a.1)).mpr ⟨Int.le_refl _,by omega⟩
    omega
   ·show 0+(a.2+b.2+0) - a.2≤0;omega
   ·show 0+(a.2+b.2+0) - a.2+0 - b.2≤0;omega
 ·refine Dm.step (s1:=[a,b]) (Int.le_refl _) ⟨?_,?_,trivial⟩ (Dm.nil ?_)
  ·show 0+a.1≤mxi a.1 (a.2+b.1)
   have:=(qHJ (a:=a.1) (b:=a.2+b.1)).1
   omega
  ·show 0+a.2+b.1≤mxi a.1 (a.2+b.1)
   have:=(qHJ (a:=a.1) (b:=a.2+b.1)).2
   omega
  ·show 0+(a.2+(b.2+0)) - (a.2+b.2)≤0;omega
structure Prt where
 r:Int
 g:Int
 wks:List Int
def Prt.s (p:Prt):Stp:=(p.r,p.g)
def qAI (ps:List Prt):List Int:=(ps.map Prt.wks).flatten
theorem qAW (a b:List Prt):qAI (a++b)=qAI a++qAI b:=by unfold qAI;rw [List.map_append,List.flatten_append]
theorem qC3 (p:Prt):qAI [p]=p.wks:=by unfold qAI;simp
def qGY (a b:Prt):Prt:=⟨mxi a.r (a.g+b.r),a.g+b.g,a.wks++b.wks⟩
def qDE:List Prt→Prt→List Prt
 | [],p=>[p]
 | a::st,p=>if p.g≤0∨a.r≤a.g+p.r then qDE st (qGY a p) else p::a::st
structure PileOk (st:List Prt):Prop where
 pos:∀ a ∈ st,0<a.g
 fall:st.Pairwise fun b a=>kyS a.s<kyS b.s
theorem PileOk.nil:PileOk []:=⟨(fun _ h=>nomatch h),.nil⟩
theorem qJ3:∀ (st:List Prt) (p:Prt),PileOk st→0<p.g+gns (st.map Prt.s)→
  PileOk (qDE st p)∧Eqv ((qDE st p).reverse.map Prt.s) ((st.reverse++[p]).map Prt.s)∧qAI (qDE st p).reverse=qAI (st.reverse++[p])
 | [],p,_,h=>by
  have h':0<p.g+0:=h
  exact ⟨⟨fun a ha=>by rw [List.mem_singleton.mp ha];omega,List.pairwise_singleton _ _⟩,.rfl' _,rfl⟩
 | a::st,p,ok,h=>by
  have h':0<p.g+(a.g+gns (st.map Prt.s)):=h
  have pa:=ok.pos a List.mem_cons_self
  have fl:=List.pairwise_cons.mp ok.fall
  have ok':PileOk st:=⟨fun x hx=>ok.pos x (List.mem_cons_of_mem _ hx),fl.2⟩
  unfold qDE
  split
  ·rename_i c
   obtain ⟨k1,k2,k3⟩:=qJ3 st (qGY a p) ok' (by show 0<a.g+p.g+gns (st.map Prt.s);omega)
   refine ⟨k1,k2.tr ?_,k3.trans ?_⟩
   ·rw [List.reverse_cons,List.append_assoc,List.map_append,List.map_append]
    refine (Eqv.rfl' _).app ?_
    exact qRN (a:=a.s) (b:=p.s) (by show 0≤a.g;omega) c
   ·rw [List.reverse_cons,List.append_assoc,qAW,qAW,qC3]
    show _++(a.wks++p.wks)=_++qAI ([a]++[p])
    rw [qAW,qC3,qC3]
  ·rename_i c
   have c1:0<p.g:=by omega
   have c2:a.g+p.r<a.r:=by omega
   refine ⟨⟨fun x hx=>?_,List.pairwise_cons.mpr ⟨fun x hx=>?_,ok.fall⟩⟩,?_,?_⟩
   ·rcases List.mem_cons.mp hx with e | e
    ·rw [e];exact c1
    ·exact ok.pos x e
   ·have ka:kyS a.s<kyS p.s:=by show a.g - a.r<p.g - p.r;omega
    rcases List.mem_cons.mp hx with e | e
    ·rw [e];exact ka
    ·have:=fl.1 x e
     omega
   ·rw [List.reverse_cons];exact .rfl' _
   ·rw [List.reverse_cons]
def jrun (st ps:List Prt):List Prt:=ps.foldl qDE st
theorem qQ3:∀ {st:List Prt},(∀ a ∈ st,0<a.g)→0≤gns (st.map Prt.s)
 | [],_=>Int.le_refl _
 | a::st,h=>by
  have h1:=h a List.mem_cons_self
  have h2:=qQ3 fun x hx=>h x (List.mem_cons_of_mem _ hx)
  show 0≤a.g+gns (st.map Prt.s)
  omega
theorem qRL {a b:List Stp} (h:a.Perm b):gns a=gns b:=by
 induction h with
 | nil=>rfl
 | cons x _ ih=>show x.2+_=x.2+_;rw [ih]
 | swap x y l=>show y.2+(x.2+gns l)=x.2+(y.2+gns l);omega
 | trans _ _ h1 h2=>exact h1.trans h2
theorem qQ0:∀ (ps st:List Prt),PileOk st→(∀ p ∈ ps,0<p.g)→PileOk (jrun st ps)∧Eqv ((jrun st ps).reverse.map Prt.s) ((st.reverse++ps).map Prt.s)∧qAI (jrun st ps).reverse=qAI (st.reverse++ps)
 | [],st,ok,_=>by
  show PileOk st∧Eqv (st.reverse.map Prt.s) _∧qAI st.reverse=_
  rw [List.append_nil]
  exact ⟨ok,.rfl' _,rfl⟩
 | p::ps,st,ok,h=>by
  have g1:=qQ3 ok.pos
  have g2:=h p List.mem_cons_self
  obtain ⟨k1,k2,k3⟩:=qJ3 st p ok (by omega)
  obtain ⟨m1,m2,m3⟩:=qQ0 ps (qDE st p) k1 fun x hx=>h x (List.mem_cons_of_mem _ hx)
  have e:st.reverse++p::ps=(st.reverse++[p])++ps:=by rw [List.append_assoc];rfl
  refine ⟨m1,m2.tr ?_,m3.trans ?_⟩
  ·rw [e,List.map_append,List.map_append]
   exact k2.app (.rfl' _)
  ·rw [e,qAW,qAW,k3]
theorem qK7 (ps st:List Prt) (p:Prt):jrun st (ps++[p])=qDE (jrun st ps) p:=by unfold jrun;rw [List.foldl_append];rfl
theorem qUJ {ps:List Prt} {p:Prt} (h:∀ x ∈ ps,0<x.g) (t:0<p.g+gns (ps.map Prt.s)) :
  (∀ x ∈ (jrun [] (ps++[p])).reverse,0<x.g)∧(jrun [] (ps++[p])).reverse.Pairwise (fun a b=>kyS a.s<kyS b.s)∧Eqv ((jrun [] (ps++[p])).reverse.map Prt.s) ((ps++[p]).map Prt.s)∧qAI (jrun [] (ps++[p])).reverse=qAI (ps++[p]):=by
 obtain ⟨k1,k2,k3⟩:=qQ0 ps [] .nil h
 have k2':Eqv ((jrun [] ps).reverse.map Prt.s) (ps.map Prt.s):=k2
 have k3':qAI (jrun [] ps).reverse=qAI ps:=k3
 have g:gns ((jrun [] ps).map Prt.s)=gns (ps.map Prt.s):=by
  rw [← k2'.gns]
  exact qRL ((List.reverse_perm _).symm.map _)
 obtain ⟨m1,m2,m3⟩:=qJ3 (jrun [] ps) p k1 (by omega)
 rw [qK7]
 refine ⟨fun x hx=>m1.pos x (List.mem_reverse.mp hx),List.pairwise_reverse.mpr m1.fall,m2.tr ?_,m3.trans ?_⟩
 ·rw [List.map_append,List.map_append]
  exact k2'.app (.rfl' _)
 ·rw [qAW,qAW,k3']
theorem qK6 {G:Prt→Prop} (hG:∀ a b,G a→G b→0≤a.g→(b.g≤0∨a.r≤a.g+b.r)→G (qGY a b)):∀ (st:List Prt) (p:Prt),(∀ a ∈ st,0<a.g)→(∀ a ∈ st,G a)→G p→∀ a ∈ qDE st p,G a
 | [],p,_,_,h=>fun a ha=>by rw [List.mem_singleton.mp ha];exact h
 | b::st,p,ok,g,h=>by
  have pb:=ok b List.mem_cons_self
  unfold qDE
  split
  ·rename_i c
   exact qK6 hG st _ (fun x hx=>ok x (List.mem_cons_of_mem _ hx)) (fun x hx=>g x (List.mem_cons_of_mem _ hx)) (hG b p (g b List.mem_cons_self) h (by omega) c)
  ·intro a ha
   rcases List.mem_cons.mp ha with e | e
   ·rw [e];exact h
   ·exact g a e
theorem qRI {G:Prt→Prop} (hG:∀ a b,G a→G b→0≤a.g→(b.g≤0∨a.r≤a.g+b.r)→G (qGY a b)):∀ (ps st:List Prt),PileOk st→(∀ p ∈ ps,0<p.g)→(∀ a ∈ st,G a)→(∀ p ∈ ps,G p)→∀ a ∈ jrun st ps,G a
 | [],st,_,_,g,_=>g
 | p::ps,st,ok,h,g,k=>by
  have g1:=qQ3 ok.pos
  have g2:=h p List.mem_cons_self
  obtain ⟨k1,_,_⟩:=qJ3 st p ok (by omega)
  exact qRI hG ps (qDE st p) k1 (fun x hx=>h x (List.mem_cons_of_mem _ hx)) (qK6 hG st p ok.pos g (k p List.mem_cons_self)) (fun x hx=>k x (List.mem_cons_of_mem _ hx))
theorem qSI {G:Prt→Prop} (hG:∀ a b,G a→G b→0≤a.g→(b.g≤0∨a.r≤a.g+b.r)→G (qGY a b)) {ps:List Prt} {p:Prt} (h:∀ x ∈ ps,0<x.g) (g:∀ x ∈ ps,G x) (gp:G p):∀ x ∈ (jrun [] (ps++[p])).reverse,G x:=by
 intro x hx
 rw [List.mem_reverse,qK7] at hx
 obtain ⟨k1,_,_⟩:=qQ0 ps [] .nil h
 exact qK6 hG _ _ k1.pos (qRI hG ps [] .nil h (fun _ z=>nomatch z) g) gp x hx
theorem qR5 {α:Type} {R:α→α→Prop}:∀ {l:List α} {a b:α},l.Pairwise R→a ∈ l→b ∈ l→a ≠ b→R a b∨R b a
 | [],_,_,_,h,_,_=>nomatch h
 | x::l,a,b,h,ha,hb,n=>by
  rw [List.pairwise_cons] at h
  rcases List.mem_cons.mp ha with e | e
  ·rcases List.mem_cons.mp hb with f | f
   ·exact absurd (e.trans f.symm) n
   ·rw [e];exact .inl (h.1 b f)
  ·rcases List.mem_cons.mp hb with f | f
   ·rw [f];exact .inr (h.1 a e)
   ·exact qR5 h.2 e f n
section
variable {net:List (List Int)} {ws zs:List Int} {work:Int}
def stp (net:List (List Int)) (ws:List Int) (x:Int):Stp:=(wdO ws x,wdO ws x - sumW ws (nd net x))
def stps (net:List (List Int)) (ws:List Int) (l:List Int):List Stp:=l.map (stp net ws)
theorem qIW (a b:List Int):stps net ws (a++b)=stps net ws a++stps net ws b:=by unfold stps;rw [List.map_append]
structure OrdT (net:List (List Int)) (z:Int) (l:List Int):Prop where
 nodup:l.Nodup
 mem:∀ x,x ∈ l ↔ Nd net [z] x
 top:l.Pairwise fun a b=>b ∉ nd net a
theorem qGG (T:TIn net zs work) {z a b x:Int} (hz:z ∈ zs) (ha:a ∈ nd net z) (hb:b ∈ nd net z) (h1:Nd net [a] x) (h2:Nd net [b] x):a=b:=by
 have A:=T.has hz ha
 have B:=T.has hz hb
 rcases T.chain A.1 B.1 h1 h2 with q | q
 ·exact T.apart hz ha hb q
 ·exact (T.apart hz hb ha q).symm
theorem qW6 {z x:Int} (h:Nd net [z] x):x=z∨∃ y ∈ nd net z,Nd net [y] x:=by
 induction h with
 | ask m=>exact .inl (List.mem_singleton.mp m)
 | @need w y ys hw e hm ihn=>
  rcases ihn with h | ⟨v,hv,hn⟩
  ·subst h
   exact .inr ⟨y,by rw [qAD e];exact hm,.ask (List.mem_singleton.mpr rfl)⟩
  ·exact .inr ⟨v,hv,.need hn e hm⟩
theorem qPY (T:TIn net zs work) {z x:Int} (hz:z ∈ zs):(∃ y ∈ nd net z,Nd net [y] x) ↔ Nd net [z] x∧x ≠ z:=by
 constructor
 ·rintro ⟨y,hy,h⟩
  refine ⟨qPQ hy h ⟨_,T.get hz⟩,?_⟩
  have:=qPR T.wf h
  have:=(T.has hz hy).2.1
  omega
 ·rintro ⟨h,n⟩
  exact (qW6 h).resolve_left n
theorem OrdT.last (T:TIn net zs work) {z:Int} (hz:z ∈ zs) {l:List Int} (h:OrdT net z l):∃ l',l=l'++[z]∧l'.Nodup∧(∀ x,x ∈ l' ↔ ∃ y ∈ nd net z,Nd net [y] x)∧l'.Pairwise (fun a b=>b ∉ nd net a):=by
 obtain ⟨a,b,e⟩:=List.append_of_mem ((h.mem z).mpr (.ask (List.mem_singleton.mpr rfl)))
 have hb:b=[]:=by
  rcases List.eq_nil_or_concat b with q | ⟨b',o,q⟩
  ·exact q
  ·exfalso
   subst q
   have e2:l=(a++z::b')++[o]:=by rw [e];simp
   have nd1:=h.nodup
   rw [e2,List.nodup_append] at nd1
   have tp:=h.top
   rw [e2,List.pairwise_append] at tp
   have oz:o ≠ z:=fun q=>nd1.2.2 z (by simp) o (by simp) q.symm
   have ho:Nd net [z] o:=(h.mem o).mp (by rw [e2];simp)
   cases ho with
   | ask m=>exact oz (List.mem_singleton.mp m)
   | @need u _ ys hu g hm=>
    have hu2:=(h.mem u).mpr hu
    rw [e2,List.mem_append] at hu2
    rcases hu2 with q | q
    ·exact tp.2.2 u q o (by simp) (by rw [qAD g];exact hm)
    ·rw [List.mem_singleton.mp q] at g
     have:=((T.wf _ _ g).in_ o hm)
     omega
 subst hb
 refine ⟨a,e,?_,fun x=>?_,?_⟩
 ·have:=h.nodup
  rw [e,List.nodup_append] at this
  exact this.1
 ·rw [qPY T hz,← h.mem x,e,List.mem_append,List.mem_singleton]
  have:=h.nodup
  rw [e,List.nodup_append] at this
  constructor
  ·exact fun hx=>⟨.inl hx,fun q=>this.2.2 x hx z (by simp) q⟩
  ·rintro ⟨q | q,n⟩
   ·exact q
   ·exact absurd q n
 ·have:=h.top
  rw [e,List.pairwise_append] at this
  exact this.1
theorem qI4 (p:Int→Bool) (f:Int→Stp):∀ u:List Int,Shu ((u.filter p).map f) ((u.filter fun x=>!p x).map f) (u.map f)
 | []=>.nil
 | x::u=>by
  by_cases c:p x=true
  ·rw [List.filter_cons_of_pos c,List.filter_cons_of_neg (by rw [c];decide)]
   exact .left (qI4 p f u)
  ·rw [List.filter_cons_of_neg c,List.filter_cons_of_pos (by rw [Bool.not_eq_true] at c;rw [c];decide)]
   exact .right (qI4 p f u)
theorem qQS (T:TIn net zs work) {z:Int} (hz:z ∈ zs):∀ (cs:List Int),cs.Nodup→(∀ y ∈ cs,y ∈ nd net z)→∀ u:List Int,u.Nodup→(∀ x,x ∈ u ↔ ∃ y ∈ cs,Nd net [y] x)→u.Pairwise (fun a b=>b ∉ nd net a)→
  ∃ ts:List (List Int),Paired (fun t y=>OrdT net y t) ts cs∧ShM (ts.map (stps net ws)) (stps net ws u)
 | [],_,_,u,_,m,_=>by
  have:u=[]:=List.eq_nil_iff_forall_not_mem.mpr fun x hx=>by
   obtain ⟨y,hy,_⟩:=(m x).mp hx
   cases hy
  subst this
  exact ⟨[],.nil,rfl⟩
 | y::cs,nc,hc,u,nu,m,tp=>by
  classical
  rw [List.nodup_cons] at nc
  have hy:=hc y List.mem_cons_self
  obtain ⟨ts,p1,s1⟩:=qQS T hz cs nc.2 (fun x hx=>hc x (List.mem_cons_of_mem _ hx)) (u.filter fun x=>!decide (Nd net [y] x)) (nu.filter _) (fun x=>by
   rw [List.mem_filter,m x]
   constructor
   ·rintro ⟨⟨y',hy',h⟩,n⟩
    rcases List.mem_cons.mp hy' with q | q
    ·subst q
     simp [h] at n
    ·exact ⟨y',q,h⟩
   ·rintro ⟨y',hy',h⟩
    refine ⟨⟨y',List.mem_cons_of_mem _ hy',h⟩,?_⟩
    have:¬ Nd net [y] x:=fun h2=>nc.1 (qGG T hz hy (hc y' (List.mem_cons_of_mem _ hy')) h2 h ▸ hy')
    simp [this]) (tp.sublist List.filter_sublist)
  refine ⟨(u.filter fun x=>decide (Nd net [y] x))::ts,.cons ⟨nu.filter _,fun x=>?_,tp.sublist List.filter_sublist⟩ p1,_,s1,qI4 _ _ u⟩
  rw [List.mem_filter,m x,decide_eq_true_eq]
  exact ⟨fun h=>h.2,fun h=>⟨⟨y,List.mem_cons_self,h⟩,h⟩⟩
structure PrtOk (net:List (List Int)) (ws:List Int) (z:Int) (ps:List Prt):Prop where
 eqv:∀ p ∈ ps,Eqv [p.s] (stps net ws p.wks)
 pos:∀ p ∈ ps,0<p.g
 fall:ps.Pairwise fun a b=>kyS a.s<kyS b.s
 sum:gns (ps.map Prt.s)=wdO ws z
 ord:OrdT net z (qAI ps)
 best:∀ l,OrdT net z l→Dm 0 (stps net ws (qAI ps)) (stps net ws l)
theorem qQ5:∀ {ps:List Prt},(∀ p ∈ ps,Eqv [p.s] (stps net ws p.wks))→Eqv (ps.map Prt.s) (stps net ws (qAI ps))
 | [],_=>.rfl' _
 | p::ps,h=>by
  have e:qAI (p::ps)=p.wks++qAI ps:=by unfold qAI;rw [List.map_cons,List.flatten_cons]
  rw [e,qIW]
  exact (h p List.mem_cons_self).app (qQ5 fun x hx=>h x (List.mem_cons_of_mem _ hx))
theorem qQJ {F:Int→List Prt}:∀ {cs:List Int},(∀ y ∈ cs,PrtOk net ws y (F y))→gns (((cs.map F).flatten).map Prt.s)=sumW ws cs
 | [],_=>by rw [qCX];rfl
 | y::cs,h=>by
  rw [List.map_cons,List.flatten_cons,List.map_append,qI9,qAR,(h y List.mem_cons_self).sum,qQJ fun x hx=>h x (List.mem_cons_of_mem _ hx)]
theorem qLP {F:Int→List Prt}:∀ (cs:List Int),qAI ((cs.map F).flatten)=(cs.map fun y=>qAI (F y)).flatten
 | []=>rfl
 | y::cs=>by rw [List.map_cons,List.flatten_cons,qAW,qLP cs,List.map_cons,List.flatten_cons]
theorem qI8 (T:TIn net zs work) {z:Int} (hz:z ∈ zs) {F:Int→List Prt}:∀ (cs:List Int),cs.Nodup→(∀ y ∈ cs,y ∈ nd net z∧OrdT net y (qAI (F y)))→((cs.map fun y=>qAI (F y)).flatten).Nodup
 | [],_,_=>List.nodup_nil
 | y::cs,nc,h=>by
  rw [List.nodup_cons] at nc
  rw [List.map_cons,List.flatten_cons,List.nodup_append]
  have hy:=h y List.mem_cons_self
  refine ⟨hy.2.nodup,qI8 T hz cs nc.2 fun x hx=>h x (List.mem_cons_of_mem _ hx),fun a ha b hb e=>?_⟩
  subst e
  obtain ⟨l,hl,hal⟩:=List.mem_flatten.mp hb
  obtain ⟨y2,hy2,rfl⟩:=List.mem_map.mp hl
  have h2:=h y2 (List.mem_cons_of_mem _ hy2)
  have:=qGG T hz hy.1 h2.1 ((hy.2.mem a).mp ha) ((h2.2.mem a).mp hal)
  exact nc.1 (this ▸ hy2)
theorem qJU {F:Int→List Prt}:∀ {cs:List Int} {ts:List (List Int)},(∀ y ∈ cs,PrtOk net ws y (F y))→Paired (fun t y=>OrdT net y t) ts cs→Paired (fun s t=>Dm 0 s t) (cs.map fun y=>(F y).map Prt.s) (ts.map (stps net ws))
 | _,_,_,.nil=>.nil
 | _,_,h,.cons k p=>.cons (by
   have hy:=h _ List.mem_cons_self
   exact (qQ5 hy.eqv).1.tr (hy.best _ k)) (qJU (fun x hx=>h x (List.mem_cons_of_mem _ hx)) p)
theorem qS8 (T:TIn net zs work) (w1:Wd1 net ws) {z:Int} (hz:z ∈ zs) {F:Int→List Prt} (h:∀ y ∈ nd net z,PrtOk net ws y (F y)) {srt:List Prt} (p:srt.Perm ((nd net z).map F).flatten) (s:srt.Pairwise fun a b=>kyS a.s≤kyS b.s) :
  PrtOk net ws z (jrun [] (srt++[⟨wdO ws z,wdO ws z - sumW ws (nd net z),[z]⟩])).reverse:=by
 have zb:=T.N.1.in_ z hz
 have wz:=w1 z zb.1 zb.2
 have from_:∀ q ∈ srt,∃ y ∈ nd net z,q ∈ F y:=fun q hq=>by
  obtain ⟨l,hl,hql⟩:=List.mem_flatten.mp (p.mem_iff.mp hq)
  obtain ⟨y,hy,rfl⟩:=List.mem_map.mp hl
  exact ⟨y,hy,hql⟩
 have pos:∀ q ∈ srt,0<q.g:=fun q hq=>by
  obtain ⟨y,hy,hm⟩:=from_ q hq
  exact (h y hy).pos q hm
 have sm:gns (srt.map Prt.s)=sumW ws (nd net z):=by rw [qRL (p.map _)];exact qQJ h
 obtain ⟨j1,j2,j3,j4⟩:=qUJ (p:=⟨wdO ws z,wdO ws z - sumW ws (nd net z),[z]⟩) pos (by rw [sm];show 0<wdO ws z - sumW ws (nd net z)+_;omega)
 have j4':qAI (jrun [] (srt++[⟨wdO ws z,wdO ws z - sumW ws (nd net z),[z]⟩])).reverse=qAI srt++[z]:=by rw [j4,qAW,qC3]
 have ev:∀ q ∈ srt,Eqv [q.s] (stps net ws q.wks):=fun q hq=>by
  obtain ⟨y,hy,hm⟩:=from_ q hq
  exact (h y hy).eqv q hm
 have ea:=qQ5 ev
 have one:Eqv [Prt.s ⟨wdO ws z,wdO ws z - sumW ws (nd net z),[z]⟩] (stps net ws [z]):=.rfl' _
 have pw:(qAI srt).Perm ((nd net z).map fun y=>qAI (F y)).flatten:=by
  rw [← qLP]
  exact (p.map Prt.wks).flatten
 have ndk:=qI8 T hz (nd net z) (T.nodup hz) fun y hy=>⟨hy,(h y hy).ord⟩
 have nds:(qAI srt).Nodup:=pw.nodup_iff.mpr ndk
 have mem:∀ x,x ∈ qAI srt ↔ ∃ y ∈ nd net z,Nd net [y] x:=fun x=>by
  rw [pw.mem_iff,List.mem_flatten]
  constructor
  ·rintro ⟨l,hl,hx⟩
   obtain ⟨y,hy,rfl⟩:=List.mem_map.mp hl
   exact ⟨y,hy,((h y hy).ord.mem x).mp hx⟩
  ·rintro ⟨y,hy,hx⟩
   exact ⟨_,List.mem_map.mpr ⟨y,hy,rfl⟩,((h y hy).ord.mem x).mpr hx⟩
 have wof:∀ {y:Int} {q:Prt} {x:Int},q ∈ F y→x ∈ q.wks→x ∈ qAI (F y):=fun {y q x} hq hx=>List.mem_flatten.mpr ⟨_,List.mem_map.mpr ⟨q,hq,rfl⟩,hx⟩
 have tops:(qAI srt).Pairwise fun a b=>b ∉ nd net a:=by
  unfold qAI
  rw [List.pairwise_flatten,List.pairwise_map]
  have dis:srt.Pairwise fun a b=>∀ x ∈ a.wks,∀ y ∈ b.wks,x ≠ y:=by
   have:=nds
   unfold qAI List.Nodup at this
   rw [List.pairwise_flatten,List.pairwise_map] at this
   exact this.2
  constructor
  ·intro l hl
   obtain ⟨q,hq,rfl⟩:=List.mem_map.mp hl
   obtain ⟨y,hy,hm⟩:=from_ q hq
   have:=(h y hy).ord.top
   unfold qAI at this
   rw [List.pairwise_flatten] at this
   exact this.1 _ (List.mem_map.mpr ⟨q,hm,rfl⟩)
  ·refine (s.and dis).imp_of_mem fun {a b} ha hb q x hx y hy hyx=>?_
   obtain ⟨c1,hc1,ma⟩:=from_ a ha
   obtain ⟨c2,hc2,mb⟩:=from_ b hb
   have x1:=((h c1 hc1).ord.mem x).mp (wof ma hx)
   have y2:=((h c2 hc2).ord.mem y).mp (wof mb hy)
   have xz:x ∈ zs:=by
    have A:=T.has hz hc1
    obtain ⟨yy,NY,sy⟩:=qEU T A.1
    exact sy x ((NY.2 x).mpr x1)
   have y1:Nd net [c1] y:=.need x1 (T.get xz) hyx
   have ec:=qGG T hz hc1 hc2 y1 y2
   subst ec
   have ne:a ≠ b:=fun e=>q.2 y (e ▸ hy) y hy rfl
   have tp:=(h c1 hc1).ord.top
   unfold qAI at tp
   rw [List.pairwise_flatten,List.pairwise_map] at tp
   rcases qR5 ((h c1 hc1).fall.and tp.2) ma mb ne with r | r
   ·exact r.2 x hx y hy hyx
   ·have:=r.1
    have:=q.1
    omega
 have ord:OrdT net z (qAI srt++[z]):=by
  refine ⟨?_,fun x=>?_,?_⟩
  ·rw [List.nodup_append]
   refine ⟨nds,by simp,fun a ha b hb e=>?_⟩
   rw [List.mem_singleton.mp hb] at e
   exact ((qPY T hz).mp ((mem a).mp ha)).2 e
  ·rw [List.mem_append,mem x,qPY T hz,List.mem_singleton]
   constructor
   ·rintro (q | q)
    ·exact q.1
    ·rw [q];exact .ask (List.mem_singleton.mpr rfl)
   ·intro q
    by_cases e:x=z
    ·exact .inr e
    ·exact .inl ⟨q,e⟩
  ·rw [List.pairwise_append]
   refine ⟨tops,List.pairwise_singleton _ _,fun a ha b hb hn=>?_⟩
   rw [List.mem_singleton.mp hb] at hn
   obtain ⟨y,hy,ha2⟩:=(mem a).mp ha
   have A:=T.has hz hy
   obtain ⟨yy,NY,sy⟩:=qEU T A.1
   have az:=sy a ((NY.2 a).mpr ha2)
   have:=(T.has az hn).2.1
   have:=qPR T.wf ha2
   omega
 refine ⟨?_,j1,j2,?_,?_,?_⟩
 ·refine qSI (G:=fun q=>Eqv [q.s] (stps net ws q.wks)) (fun a b ga gb g0 c=>?_) pos ev one
  show Eqv [qWG a.s b.s] (stps net ws (a.wks++b.wks))
  rw [qIW]
  exact (qRN (a:=a.s) (b:=b.s) g0 c).tr (ga.app gb)
 ·rw [j3.gns,List.map_append,qI9,sm]
  show _+(wdO ws z - sumW ws (nd net z)+0)=_
  omega
 ·rw [j4'];exact ord
 ·intro l hl
  obtain ⟨l',rfl,nl,ml,tl⟩:=hl.last T hz
  obtain ⟨ts,p1,s1⟩:=qQS (ws:=ws) T hz (nd net z) (T.nodup hz) (fun y hy=>hy) l' nl ml tl
  obtain ⟨v,v1,v2⟩:=ShM.repl (qJU h p1) s1
  have pv:v.Perm (srt.map Prt.s):=by
   refine v1.perm.trans ?_
   have e:((nd net z).map fun y=>(F y).map Prt.s).flatten=(((nd net z).map F).flatten).map Prt.s:=by
    rw [List.map_flatten,List.map_map]
    rfl
   rw [e]
   exact (p.map _).symm
  have d1:Dm 0 (srt.map Prt.s) v:=qOP _ _ (List.pairwise_map.mpr s) pv fun x hx=>by
   obtain ⟨q,hq,rfl⟩:=List.mem_map.mp hx
   have:=pos q hq
   show 0≤q.g
   omega
  have d2:=(ea.2.tr d1).tr v2
  rw [j4',qIW,qIW]
  exact d2.app (.refl d2.end_ _)
end
theorem qPM {α β:Type} {F:α→β→Prop} {l₁:List α} {l₂:List β} (h:Paired F l₁ l₂):Paired F l₁.reverse l₂.reverse:=by
 induction h with
 | nil=>exact .nil
 | cons r _ ih=>rw [List.reverse_cons,List.reverse_cons];exact qHK ih r
theorem qHL {r:Addr} {rs:List Addr}:(((r::rs).reverse.map V.ref)[((r::rs).reverse.map V.ref).length - 1]?=some (V.ref r))∧((r::rs).reverse.map V.ref).dropLast=rs.reverse.map V.ref:=by
 rw [List.reverse_cons,List.map_append]
 constructor
 ·rw [List.length_append,List.length_map,List.length_map]
  simp
 ·simp
def PrtAt (H:Hp) (T:Addr) (p:Prt):Prop:=∃ l,H T=some (.tup [.int p.r,.int p.g,.ref l])∧H l=some (.lst (p.wks.map V.int))
theorem PrtAt.same {H H':Hp} {T:Addr} {p:Prt} (h:PrtAt H T p) (s:Same H H'):PrtAt H' T p:=by
 obtain ⟨l,h1,h2⟩:=h
 exact ⟨l,s _ _ h1,s _ _ h2⟩
abbrev PrtL (H:Hp) (rs:List Addr) (ps:List Prt):Prop:=Paired (PrtAt H) rs ps
theorem PrtL.same {H H':Hp} {rs:List Addr} {ps:List Prt} (h:PrtL H rs ps) (s:Same H H'):PrtL H' rs ps:=qB0 h fun _ _ e=>e.same s
def PrtX (x:Addr) (H:Hp) (T:Addr) (p:Prt):Prop:=∃ l,l ≠ x∧H T=some (.tup [.int p.r,.int p.g,.ref l])∧H l=some (.lst (p.wks.map V.int))
theorem PrtX.same {x:Addr} {H H':Hp} {T:Addr} {p:Prt} (h:PrtX x H T p) (s:Same H H'):PrtX x H' T p:=by
 obtain ⟨l,n,h1,h2⟩:=h
 exact ⟨l,n,s _ _ h1,s _ _ h2⟩
theorem PrtX.put {x:Addr} {H:Hp} {T:Addr} {p:Prt} {xs:List V} {o:HO} (h:PrtX x H T p) (g:H x=some (.lst xs)):PrtX x (upd H x o) T p:=by
 obtain ⟨l,n,h1,h2⟩:=h
 exact ⟨l,n,by rw [qA7 (qC9 h1 g (by intro z;cases z))];exact h1,by rw [qA7 n];exact h2⟩
theorem PrtX.at_ {x:Addr} {H:Hp} {T:Addr} {p:Prt} (h:PrtX x H T p):PrtAt H T p:=by
 obtain ⟨l,n,h1,h2⟩:=h
 exact ⟨l,h1,h2⟩
theorem PrtAt.out {x:Addr} {H:Hp} {T:Addr} {p:Prt} (h:PrtAt H T p) (n:H x=none):PrtX x H T p:=by
 obtain ⟨l,h1,h2⟩:=h
 exact ⟨l,qA5 h2 n,h1,h2⟩
theorem qOE:∀ (st:List Prt) (p:Prt),(qAI (qDE st p)).length=(qAI st).length+p.wks.length∧(qDE st p).length≤st.length+1
 | [],p=>by
  show (qAI [p]).length=(qAI []).length+_∧1≤0+1
  rw [qC3]
  exact ⟨by show _=0+_;omega,by omega⟩
 | a::st,p=>by
  have e:(qAI (a::st)).length=a.wks.length+(qAI st).length:=by
   show (qAI ([a]++st)).length=_
   rw [qAW,qC3,List.length_append]
  unfold qDE
  split
  ·have:=qOE st (qGY a p)
   have l:(qGY a p).wks.length=a.wks.length+p.wks.length:=by show (a.wks++p.wks).length=_;rw [List.length_append]
   rw [List.length_cons]
   omega
  ·have e2:(qAI (p::a::st)).length=p.wks.length+(qAI (a::st)).length:=by
    show (qAI ([p]++(a::st))).length=_
    rw [qAW,qC3,List.length_append]
   exact ⟨by omega,by rw [List.length_cons,List.length_cons];omega⟩
def qQN:Sp:=fun vs H Q _=>∃ (a b:Addr) (p q:Prt),vs=[.ref a,.ref b]∧PrtAt H a p∧PrtAt H b q∧p.wks.length+q.wks.length≤63∧
 ∀ T l H',Same H H'→H l=none→H' T=some (.tup [.int (qGY p q).r,.int (qGY p q).g,.ref l])→H' l=some (.lst ((qGY p q).wks.map V.int))→Q (.ref T) H'
def qQO:Sp:=fun vs H Q _=>∃ (a:Addr) (rs:List Addr) (ps:List Prt),vs=[.ref a]∧H a=some (.lst (rs.map V.ref))∧PrtL H rs ps∧(qAI ps).length≤63∧ps.length≤63∧
 ∀ l rs' H',Same H H'→H l=none→H' l=some (.lst (rs'.map V.ref))→PrtL H' rs' (jrun [] ps).reverse→Q (.ref l) H'
def TabP (H:Hp) (Pt:Addr):Prop:=H Pt=some (.tbl (.tab "parts_over.<locals>.<lambda>"))
def qS3 (net:List (List Int)) (ws:List Int) (z:Int):Prt:=⟨wdO ws z,wdO ws z - sumW ws (nd net z),[z]⟩
def qJK (Pt:Addr):Sp:=fun vs H Q _=>∃ (a t own:Addr) (net:List (List Int)) (ws ks:List Int) (z:Int) (ad:Int→Addr) (F:Int→List Prt),vs=[.ref a,.ref t,.int z,.ref own]∧TabP H Pt∧NetAt H a net∧WFn net∧net.length≤63∧WdAt H t net ws∧0≤z∧z<(net.length:Int)∧
 H own=some (.dK (kvsV ks fun y=>.ref (ad y)))∧(∀ y ∈ nd net z,y ∈ ks∧∃ rs:List Addr,H (ad y)=some (.lst (rs.map V.ref))∧PrtL H rs (F y))∧(qAI ((nd net z).map F).flatten).length≤62∧((nd net z).map F).flatten.length≤62∧
 ∀ (l:Addr) (rs:List Addr) (srt:List Prt) (H':Hp),Same H H'→H l=none→srt.Perm ((nd net z).map F).flatten→srt.Pairwise (fun a b=>kyS a.s≤kyS b.s)→H' l=some (.lst (rs.map V.ref))→PrtL H' rs (jrun [] (srt++[qS3 net ws z])).reverse→Q (.ref l) H'
theorem qbE {H:Hp} {rs:List Addr} {ps:List Prt} {zs:List (List Int × V)} (hP:PrtL H rs ps) (p:zs.Perm ((ps.map fun q=>[kyS q.s]).zip (rs.map V.ref))) (s:zs.Pairwise (fun a b=>HT.lexLt b.1 a.1=false)) :
  ∃ (rs2:List Addr) (srt:List Prt),srt.Perm ps∧PrtL H rs2 srt∧srt.Pairwise (fun a b=>kyS a.s≤kyS b.s)∧zs.map (·.2)=rs2.map V.ref:=by
 have ez:(ps.map fun q=>[kyS q.s]).zip (rs.map V.ref)=(rs.zip ps).map fun t=>([kyS t.2.s],V.ref t.1):=by
  clear p
  induction hP with
  | nil=>rfl
  | cons _ _ ih=>rw [List.map_cons,List.map_cons,List.zip_cons_cons,ih,List.zip_cons_cons,List.map_cons]
 obtain ⟨L,p2,e⟩:=L2.G.perm_map_inv p (rs.zip ps) ez
 have all:∀ q ∈ rs.zip ps,PrtAt H q.1 q.2:=by
  clear p s e p2 ez
  induction hP with
  | nil=>exact fun q h=>nomatch h
  | cons h _ ih=>
   intro q hq
   rw [List.zip_cons_cons] at hq
   rcases List.mem_cons.mp hq with z | z
   ·rw [z];exact h
   ·exact ih q z
 have m2:(rs.zip ps).map (·.2)=ps:=by rw [List.map_snd_zip (by rw [Paired.length hP];exact Nat.le_refl _)]
 refine ⟨L.map (·.1),L.map (·.2),by have:=p2.map (·.2);rw [m2] at this;exact this,?_,?_,by rw [e,List.map_map,List.map_map];rfl⟩
 ·have al:∀ q ∈ L,PrtAt H q.1 q.2:=fun q hq=>all q (p2.mem_iff.mp hq)
  clear e p2
  induction L with
  | nil=>exact .nil
  | cons q L ih=>exact .cons (al q List.mem_cons_self) (ih fun x hx=>al x (List.mem_cons_of_mem _ hx))
 ·rw [e,List.pairwise_map] at s
  rw [List.pairwise_map]
  refine s.imp fun {a b} z=>?_
  have z:HT.lexLt [kyS b.2.s] [kyS a.2.s]=false:=z
  rw [HT.lexLt_cons] at z
  split at z
  ·omega
  ·have:=of_decide_eq_false z
   omega
theorem PrtAt.dict {H:Hp} {T dn:Addr} {p:Prt} {kvs:List (Key × V)} {o:HO} (h:PrtAt H T p) (g:H dn=some (.dK kvs)):PrtAt (upd H dn o) T p:=by
 obtain ⟨l,h1,h2⟩:=h
 exact ⟨l,by rw [qA7 (qC9 h1 g (by intro z;cases z))];exact h1,by rw [qA7 (qC9 h2 g (by intro z;cases z))];exact h2⟩
theorem qTN {net:List (List Int)} {ws:List Int}:∀ {ps:List Prt},(∀ p ∈ ps,Eqv [p.s] (stps net ws p.wks))→ps.length≤(qAI ps).length
 | [],_=>Nat.le_refl _
 | p::ps,h=>by
  have e:qAI (p::ps)=p.wks++qAI ps:=by unfold qAI;rw [List.map_cons,List.flatten_cons]
  have ih:=qTN fun x hx=>h x (List.mem_cons_of_mem _ hx)
  have h1:=h p List.mem_cons_self
  have n:1≤p.wks.length:=by
   cases hw:p.wks with
   | nil=>
    rw [hw] at h1
    have:=h1.1.nil_right
    cases this
   | cons _ _=>exact Nat.succ_le_succ (Nat.zero_le _)
  rw [e,List.length_append,List.length_cons]
  omega
theorem OrdT.ahead {net:List (List Int)} {z:Int} {l:List Int} (wf:WFn net) (h:OrdT net z l) (b:∀ x ∈ l,net[x.toNat]?=some (nd net x)):∀ (p:Nat) (o:Int),l[p]?=some o→∀ x ∈ nd net o,x ∈ l.take p:=by
 intro p o e x hx
 have ho:=List.mem_of_getElem? e
 have hxl:x ∈ l:=(h.mem x).mpr (.need ((h.mem o).mp ho) (b o ho) hx)
 obtain ⟨q,hq,eq⟩:=List.getElem_of_mem hxl
 obtain ⟨hp,ep⟩:=List.getElem?_eq_some_iff.mp e
 by_cases c:q<p
 ·rw [← eq]
  exact List.mem_take_iff_getElem.mpr ⟨q,by omega,rfl⟩
 ·exfalso
  by_cases c2:q=p
  ·subst c2
   have:x=o:=by rw [← eq,← ep]
   have:=(wf _ _ (b o ho)).in_ x hx
   omega
  ·have:=List.pairwise_iff_getElem.mp h.top p q hp hq (by omega)
   rw [ep,eq] at this
   exact this hx
theorem OrdT.all {net:List (List Int)} {zs:List Int} {work:Int} {l:List Int} (T:TIn net zs work) (h:OrdT net work l):TopO net l∧l.length≤63:=by
 have inz:∀ x ∈ l,x ∈ zs:=fun x hx=>(T.N.2 x).mpr ((h.mem x).mp hx)
 refine ⟨qT5 T.N h.nodup (fun x=>(h.mem x).trans (T.N.2 x).symm) (h.ahead T.wf fun x hx=>T.get (inz x hx)),?_⟩
 have:=qNW h.nodup fun x hx=>T.N.1.in_ x (inz x hx)
 have:=T.len
 omega
def Best (net:List (List Int)) (ws:List Int) (work:Int) (l:List Int):Prop:=OrdT net work l∧∀ l',OrdT net work l'→Dm 0 (stps net ws l) (stps net ws l')
def qGP (Pt:Addr):Sp:=fun vs H Q _=>∃ (a t:Addr) (net:List (List Int)) (ws:List Int) (work:Int),vs=[.ref a,.ref t,.int work]∧TabP H Pt∧qKV H a t net ws work∧
 ∀ (l:Addr) (L:List Int) (H':Hp),Same H H'→H l=none→H' l=some (.lst (L.map V.int))→Best net ws work L→Q (.ref l) H'
def qDV (Pt:Addr):Sp:=fun vs H Q _=>∃ (a t:Addr) (net:List (List Int)) (ws:List Int) (work:Int),vs=[.ref a,.ref t,.int work]∧TabP H Pt∧qKV H a t net ws work∧
 ∀ (m:Int) (L:List Int) (H':Hp),Same H H'→Best net ws work L→topD none (qB7 net ws L)=some m→Q (.int m) H'
theorem qMR {net:List (List Int)} {ws:List Int} {m:Int}:∀ (l:List Int) (k:Int),Belo m k (stps net ws l) ↔ ∀ v ∈ runK net ws k l,v≤m
 | [],k=>⟨(fun _ v h=>nomatch h),fun _=>trivial⟩
 | x::l,k=>by
  show (k+wdO ws x≤m∧Belo m (k+(wdO ws x - sumW ws (nd net x))) (stps net ws l)) ↔ _
  rw [qMR l,show k+(wdO ws x - sumW ws (nd net x))=k+wdO ws x - sumW ws (nd net x) by omega]
  constructor
  ·rintro ⟨h1,h2⟩ v hv
   rcases List.mem_cons.mp hv with e | e
   ·rw [e];exact h1
   ·exact h2 v e
  ·exact fun h=>⟨h _ List.mem_cons_self,fun v hv=>h v (List.mem_cons_of_mem _ hv)⟩
theorem qGO {l:List Int} {m:Int} (h:topD none l=some m):IsTop l m:=by
 cases l with
 | nil=>cases h
 | cons x l=>
  have e:topI x l=m:=Option.some.inj h
  obtain ⟨a,b,c⟩:=qGN l x
  rw [← e]
  refine ⟨?_,fun y hy=>?_⟩
  ·rcases c with q | q
   ·rw [q];exact List.mem_cons_self
   ·exact List.mem_cons_of_mem _ q
  ·rcases List.mem_cons.mp hy with q | q
   ·rw [q];exact a
   ·exact b y q
theorem OrdT.run {net:List (List Int)} {ws zs:List Int} {work:Int} {l:List Int} (T:TIn net zs work) (h:OrdT net work l):qB7 net ws l=runK net ws 0 l:=by
 have inz:∀ x ∈ l,x ∈ zs:=fun x hx=>(T.N.2 x).mpr ((h.mem x).mp hx)
 exact qN8 T.wf (h.all T).1 fun hu hv h1 h2=>T.user (inz _ hu) (inz _ hv) h1 h2
theorem OrdT.ne {net:List (List Int)} {work:Int} {l:List Int} (h:OrdT net work l):l ≠ []:=fun e=>by
 have:=(h.mem work).mpr (.ask (List.mem_singleton.mpr rfl))
 rw [e] at this
 cases this
theorem OrdT.top_ex {net:List (List Int)} {ws:List Int} {work:Int} {l:List Int} (h:OrdT net work l):∃ m,topD none (qB7 net ws l)=some m:=by
 have hm:=List.length_pos_iff.mpr h.ne
 have le:(qB7 net ws l).length=l.length:=by unfold qB7;rw [List.length_map,List.length_range]
 cases e:qB7 net ws l with
 | nil=>rw [e] at le;simp at le;omega
 | cons x r=>exact ⟨_,rfl⟩
theorem qIE {net:List (List Int)} {ws zs:List Int} {work m m':Int} {l l':List Int} (T:TIn net zs work) (B:Best net ws work l) (h':OrdT net work l') (e:topD none (qB7 net ws l)=some m) (e':topD none (qB7 net ws l')=some m'):m≤m':=by
 have t:=qGO e
 have t':=qGO e'
 rw [B.1.run T] at t
 rw [h'.run T] at t'
 have b:Belo m' 0 (stps net ws l'):=(qMR l' 0).mpr t'.2
 have b2:=(B.2 l' h').low b
 exact (qMR l (0+0)).mp b2 m t.1
theorem qWZ {net:List (List Int)} {ws zs:List Int} {work m m':Int} {l l':List Int} (T:TIn net zs work) (B:Best net ws work l) (B':Best net ws work l') (e:topD none (qB7 net ws l)=some m) (e':topD none (qB7 net ws l')=some m'):m=m':=by
 have:=qIE T B B'.1 e e'
 have:=qIE T B' B.1 e' e
 omega
theorem qN9 {ws ws':List Int}:∀ (l:List Int),(∀ x ∈ l,wdO ws x≤wdO ws' x)→sumW ws l≤sumW ws' l
 | [],_=>Int.le_refl _
 | x::l,h=>by
  have a:=h x List.mem_cons_self
  have b:=qN9 l fun y hy=>h y (List.mem_cons_of_mem _ hy)
  rw [qAR,qAR]
  omega
theorem qRY {net:List (List Int)} {ws ws' l:List Int} {m m':Int} (h:∀ x ∈ l,wdO ws x≤wdO ws' x) (e:topD none (qB7 net ws l)=some m) (e':topD none (qB7 net ws' l)=some m'):m≤m':=by
 have t:=qGO e
 have t':=qGO e'
 have tm:=t.1
 unfold qB7 at tm
 obtain ⟨p,hp,em⟩:=List.mem_map.mp tm
 have hp':=List.mem_range.mp hp
 have g:=List.getElem?_eq_getElem hp'
 have hx:=List.getElem_mem hp'
 have le:wdO ws ((l[p]?).getD 0)+qCL net ws l p≤wdO ws' ((l[p]?).getD 0)+qCL net ws' l p:=by
  have a:wdO ws ((l[p]?).getD 0)≤wdO ws' ((l[p]?).getD 0):=by rw [g,Option.getD_some];exact h _ hx
  have b:qCL net ws l p≤qCL net ws' l p:=by
   unfold qCL
   exact qN9 _ fun x hx=>h x (List.mem_of_mem_take (List.mem_filter.mp hx).1)
  omega
 have m2:=t'.2 (wdO ws' ((l[p]?).getD 0)+qCL net ws' l p) (by unfold qB7;exact List.mem_map.mpr ⟨p,hp,rfl⟩)
 omega
section
variable {net:List (List Int)} {ws zs:List Int} {work:Int}
theorem qVU (l:List Int) (b c:Int):topI b l≤c ↔ b≤c∧∀ x ∈ l,x≤c:=by
 obtain ⟨h1,h2,h3⟩:=qGN l b
 constructor
 ·exact fun h=>⟨by omega,fun x hx=>by have:=h2 x hx;omega⟩
 ·rintro ⟨k1,k2⟩
  rcases h3 with e | e
  ·rw [e];exact k1
  ·exact k2 _ e
theorem qQK {R:Int→Int} (c:Int):∀ (os:List Int) (h:Int),(∀ y ∈ os,wdO ws y=1)→(strR ws R h os≤c ↔ 0≤c∧∀ (i:Nat) (y:Int),os[i]?=some y→h+R y+(i:Int)≤c)
 | [],h,_=>by
  show 0≤c ↔ _
  exact ⟨fun q=>⟨q,fun i y e=>by simp at e⟩,fun q=>q.1⟩
 | y::os,h,w=>by
  show mxi (h+R y) (strR ws R (h+wdO ws y) os)≤c ↔ _
  rw [mxi_le,qQK c os _ fun x hx=>w x (List.mem_cons_of_mem _ hx),w y List.mem_cons_self]
  constructor
  ·rintro ⟨h1,h2,h3⟩
   refine ⟨h2,fun i x e=>?_⟩
   cases i with
   | zero=>cases e;simp;exact h1
   | succ i=>
    have:=h3 i x e
    omega
  ·rintro ⟨h2,h3⟩
   refine ⟨by have:=h3 0 y rfl;omega,h2,fun i x e=>?_⟩
   have:=h3 (i+1) x e
   omega
theorem qW2 {R:Int→Int} {os:List Int} (w:∀ y ∈ os,wdO ws y=1) (s:sumW ws os=(os.length:Int)):qJV (os.map R)=mxi (strR ws R 0 os) (sumW ws os+1):=by
 have key:∀ c,qJV (os.map R)≤c ↔ mxi (strR ws R 0 os) (sumW ws os+1)≤c:=by
  intro c
  unfold qJV
  rw [qVU,mxi_le,qQK c os 0 w,s,List.length_map]
  constructor
  ·rintro ⟨h1,h2⟩
   refine ⟨⟨by omega,fun i y e=>?_⟩,h1⟩
   have hi:=(List.getElem?_eq_some_iff.mp e).1
   have:=h2 (R y+(i:Int)) (by
    unfold qDU
    refine List.mem_map.mpr ⟨i,List.mem_range.mpr hi,?_⟩
    rw [List.getElem?_map,e]
    rfl)
   omega
  ·rintro ⟨⟨h1,h2⟩,h3⟩
   refine ⟨h3,fun x hx=>?_⟩
   unfold qDU at hx
   obtain ⟨i,hi,e⟩:=List.mem_map.mp hx
   have hi':=List.mem_range.mp hi
   have g:=List.getElem?_eq_getElem hi'
   rw [List.getElem?_map,g] at e
   have:=h2 i _ g
   have e':R os[i]+(i:Int)=x:=e
   omega
 have a:=(key _).mp (Int.le_refl _)
 have b:=(key _).mpr (Int.le_refl _)
 omega
theorem qJH:∀ {os:List Int},(∀ y ∈ os,wdO ws y=1)→sumW ws os=(os.length:Int)
 | [],_=>by rw [qCX];rfl
 | x::os,h=>by
  rw [qAR,h x List.mem_cons_self,qJH fun y hy=>h y (List.mem_cons_of_mem _ hy),List.length_cons]
  omega
theorem qVR (T:TIn net zs work) (w:∀ y ∈ zs,wdO ws y=1) {R:Int→Int} {O:Int→List Int} (S:StOn net ws zs R O):NumOn net zs R:=by
 intro z hz
 obtain ⟨os,p,s,_,eR⟩:=S z hz
 have wo:∀ y ∈ os,wdO ws y=1:=fun y hy=>w y (T.has hz (p.mem_iff.mp hy)).1
 refine ⟨os.map R,p.map R,?_,?_⟩
 ·rw [List.pairwise_map]
  refine s.imp_of_mem fun {a b} ha hb q=>?_
  unfold OrdS at q
  rw [wo a ha,wo b hb] at q
  omega
 ·rw [qW2 wo (qJH wo),eR,w z hz]
theorem qRV (T:TIn net zs work) (w:∀ y ∈ zs,wdO ws y=1) {f:Int→Int} (NO:NumOn net zs f) {l:List Int} (h:OrdT net work l) {m:Int} (e:topD none (qB7 net ws l)=some m):f work≤m:=by
 have inz:∀ x ∈ l,x ∈ zs:=fun x hx=>(T.N.2 x).mpr ((h.mem x).mp hx)
 have wz:=qBU T.N
 have ah:=h.ahead T.wf fun x hx=>T.get (inz x hx)
 obtain ⟨l',el,_,_,_⟩:=h.last T wz
 let st:Nat→List Int:=fun t=>match t with
  | 0=>[]
  | p+1=>((l.take p).filter fun x=>decide (qDK net l p x))++((l[p]?).toList)
 have hl:l.length=l'.length+1:=by rw [el,List.length_append,List.length_singleton]
 obtain ⟨τ,k,_,tb,kn,kin,kf⟩:=qbJ T NO _ work rfl wz st 0 l.length (Nat.zero_le _) (fun t _ tl x hx=>by
  have g:=List.getElem?_eq_getElem tl
  rcases List.mem_append.mp hx with q | q
  ·left
   obtain ⟨q1,q2⟩:=List.mem_filter.mp q
   have q2:=of_decide_eq_true q2
   cases t with
   | zero=>simp at q1
   | succ t=>
    have gt:=List.getElem?_eq_getElem (show t<l.length by omega)
    rw [List.take_add_one,gt,Option.toList_some] at q1
    show x ∈ ((l.take t).filter fun x=>decide (qDK net l t x))++((l[t]?).toList)
    rcases List.mem_append.mp q1 with r | r
    ·refine List.mem_append_left _ (List.mem_filter.mpr ⟨r,decide_eq_true ?_⟩)
     obtain ⟨v,hv,hxv⟩:=q2
     refine ⟨v,?_,hxv⟩
     rw [List.drop_eq_getElem_cons (show t<l.length by omega)]
     exact List.mem_cons_of_mem _ hv
    ·rw [gt,Option.toList_some]
     exact List.mem_append_right _ r
  ·right
   rw [g,Option.toList_some] at q
   rw [List.mem_singleton.mp q]
   intro y hy
   show y ∈ ((l.take t).filter fun x=>decide (qDK net l t x))++((l[t]?).toList)
   refine List.mem_append_left _ (List.mem_filter.mpr ⟨ah t _ g y hy,decide_eq_true ⟨l[t],?_,hy⟩⟩)
   rw [List.drop_eq_getElem_cons tl]
   exact List.mem_cons_self) (fun x hx=>nomatch hx) (by
  rw [hl]
  show work ∈ _++((l[l'.length]?).toList)
  refine List.mem_append_right _ ?_
  rw [el,List.getElem?_append_right (Nat.le_refl _)]
  simp)
 have t:=qGO e
 have le:k.length≤(st τ).length:=List.Nodup.length_le_of_subset kn fun x hx=>(kin x hx).1
 cases τ with
 | zero=>
  have l0:(st 0).length=0:=rfl
  obtain ⟨p,hp,em⟩:=List.mem_map.mp (show m ∈ _ from t.1)
  have g:=List.getElem?_eq_getElem (List.mem_range.mp hp)
  have hx:=inz _ (List.getElem_mem (List.mem_range.mp hp))
  have k0:0≤qCL net ws l p:=qLT fun x hx=>by
   rw [w x (inz x (List.mem_of_mem_take (List.mem_filter.mp hx).1))]
   exact Int.le_refl _
  rw [g,Option.getD_some,w _ hx] at em
  omega
 | succ p=>
  have hp:p<l.length:=by omega
  have g:=List.getElem?_eq_getElem hp
  have e1:(st (p+1)).length=((l.take p).filter fun x=>decide (qDK net l p x)).length+1:=by
   show (((l.take p).filter fun x=>decide (qDK net l p x))++((l[p]?).toList)).length=_
   rw [g,Option.toList_some,List.length_append,List.length_singleton]
  have mx:=t.2 (wdO ws ((l[p]?).getD 0)+qCL net ws l p) (List.mem_map.mpr ⟨p,List.mem_range.mpr hp,rfl⟩)
  have kp:qCL net ws l p=(((l.take p).filter fun x=>decide (qDK net l p x)).length:Int):=qJH fun x hx=>w x (inz x (List.mem_of_mem_take (List.mem_filter.mp hx).1))
  rw [g,Option.getD_some,w _ (inz _ (List.getElem_mem hp)),kp] at mx
  omega
theorem qNQ {z:Int} {l:List Int} (n:l.Nodup) (m:∀ x,x ∈ l ↔ Nd net [z] x) (ah:∀ (p:Nat) (o:Int),l[p]?=some o→∀ x ∈ nd net o,x ∈ l.take p):OrdT net z l:=by
 refine ⟨n,m,List.pairwise_iff_getElem.mpr fun i j hi hj ij hx=>?_⟩
 have:=ah i _ (List.getElem?_eq_getElem hi) _ hx
 obtain ⟨q,hq,eq⟩:=List.mem_take_iff_getElem.mp this
 have:=qK9 n (by omega) hj eq
 omega
theorem qJI (T:TIn net zs work) {R:Int→Int} {O:Int→List Int} (S:StOn net ws zs R O) {z:Int} (hz:z ∈ zs):OrdT net z (O z):=by
 obtain ⟨n1,m1,b1⟩:=qT7 T S _ z rfl hz
 exact qNQ n1 m1 b1
theorem qRT (T:TIn net zs work) (w1:Wd1 net ws) {R:Int→Int} {O:Int→List Int} (S:StOn net ws zs R O) {l:List Int} {m:Int} (B:Best net ws work l) (e:topD none (qB7 net ws l)=some m):m≤R work:=by
 have wz:=qBU T.N
 obtain ⟨_,_,tD,_⟩:=qLV T S w1 wz
 exact qIE T B (qJI T S wz) e tD
theorem qY1 (T:TIn net zs work) (w1:Wd1 net ws) (w:∀ y ∈ zs,wdO ws y=1) {f:Int→Int} (NO:NumOn net zs f) {l:List Int} {m:Int} (B:Best net ws work l) (e:topD none (qB7 net ws l)=some m):m=f work:=by
 have wz:=qBU T.N
 obtain ⟨R,O,S⟩:=exS T ws
 have a:=qRT T w1 S B e
 have b:=qRV T w NO B.1 e
 have c:=qYI T.wf T.N (qVR T w S) NO _ work rfl wz
 omega
theorem nd_tr {o u x:Int} (h:Nd net [o] u) (k:Nd net [u] x):Nd net [o] x:=by
 induction k with
 | ask m=>rw [List.mem_singleton.mp m];exact h
 | need _ e hm ih=>exact .need ih e hm
theorem qUR {l:List Int} {i k:Nat} (h:i<l.length) (hk:0<k):l[i] ∈ (l.drop i).take k:=by
 rw [List.drop_eq_getElem_cons h]
 cases k with
 | zero=>omega
 | succ k=>rw [List.take_succ_cons];exact List.mem_cons_self
def InStr (net:List (List Int)) (l:List Int):Prop:=∀ (p:Nat) (o:Int) (ys:List Int),l[p]?=some o→qAH net [o] ys→ys.length≤p+1∧((l.drop (p+1 - ys.length)).take ys.length).Perm ys
theorem InStr.pre {a b:List Int} (h:InStr net (a++b)):InStr net a:=fun p o ys e N=>by
 have hp:=(List.getElem?_eq_some_iff.mp e).1
 obtain ⟨h1,h2⟩:=h p o ys (by rw [List.getElem?_append_left hp];exact e) N
 refine ⟨h1,?_⟩
 rw [List.drop_append_of_le_length (by omega),List.take_append_of_le_length (by rw [List.length_drop];omega)] at h2
 exact h2
theorem InStr.post {a b:List Int} (n:(a++b).Nodup) (cl:∀ o ∈ b,∀ x,Nd net [o] x→x ∈ b) (h:InStr net (a++b)):InStr net b:=fun p o ys e N=>by
 have hp:=(List.getElem?_eq_some_iff.mp e).1
 have ho:=List.mem_of_getElem? e
 obtain ⟨h1,h2⟩:=h (a.length+p) o ys (by rw [List.getElem?_append_right (by omega),Nat.add_sub_cancel_left];exact e) N
 have le:ys.length≤p+1:=by
  by_cases c:ys.length≤p+1
  ·exact c
  ·exfalso
   have hk:a.length+p+1 - ys.length<a.length:=by omega
   have hl:a.length+p+1 - ys.length<(a++b).length:=by rw [List.length_append];omega
   have mem:(a++b)[a.length+p+1 - ys.length] ∈ (((a++b).drop (a.length+p+1 - ys.length)).take ys.length):=qUR hl (by omega)
   have my:=h2.mem_iff.mp mem
   have mb:=cl o ho _ ((N.2 _).mp my)
   rw [List.getElem_append_left hk] at mb
   rw [List.nodup_append] at n
   exact n.2.2 _ (List.getElem_mem hk) _ mb rfl
 refine ⟨le,?_⟩
 rw [show a.length+p+1 - ys.length=a.length+(p+1 - ys.length) by omega,List.drop_append] at h2
 rw [List.drop_eq_nil_of_le (by omega),List.nil_append,show a.length+(p+1 - ys.length) - a.length=p+1 - ys.length by omega] at h2
 exact h2
theorem qNA (T:TIn net zs work) {z:Int} (hz:z ∈ zs):∀ (n:Nat) (cs l:List Int),cs.length=n→cs.Nodup→(∀ y ∈ cs,y ∈ nd net z)→l.Nodup→(∀ x,x ∈ l ↔ ∃ y ∈ cs,Nd net [y] x)→l.Pairwise (fun a b=>b ∉ nd net a)→InStr net l→
  ∃ (os:List Int) (bs:List (List Int)),os.Perm cs∧l=bs.flatten∧Paired (fun b y=>OrdT net y b∧InStr net b) bs os
 | 0,cs,l,e,_,_,_,m,_,_=>by
  have ec:cs=[]:=List.length_eq_zero_iff.mp e
  subst ec
  have:l=[]:=List.eq_nil_iff_forall_not_mem.mpr fun x hx=>by
   obtain ⟨y,hy,_⟩:=(m x).mp hx
   cases hy
  exact ⟨[],[],.refl _,this,.nil⟩
 | n+1,cs,l,e,nc,hc,nl,m,tp,is=>by
  classical
  obtain ⟨c0,hc0⟩:∃ c0,c0 ∈ cs:=by
   cases cs with
   | nil=>cases e
   | cons c cs=>exact ⟨c,List.mem_cons_self⟩
  have ne:l ≠ []:=fun q=>by
   have:=(m c0).mpr ⟨c0,hc0,.ask (List.mem_singleton.mpr rfl)⟩
   rw [q] at this
   cases this
  obtain ⟨l0,o,el⟩:∃ l0 o,l=l0++[o]:=by
   rcases List.eq_nil_or_concat l with q | ⟨a,b,q⟩
   ·exact absurd q ne
   ·exact ⟨a,b,by rw [q];simp⟩
  have ho:o ∈ l:=by rw [el];simp
  obtain ⟨y,hy,hno⟩:=(m o).mp ho
  have oy:o=y:=by
   cases hno with
   | ask q=>exact List.mem_singleton.mp q
   | @need u _ us hu g hm=>
    exfalso
    have hul:=(m u).mpr ⟨y,hy,hu⟩
    have tp2:=tp
    rw [el,List.pairwise_append] at tp2
    rw [el,List.mem_append] at hul
    rcases hul with q | q
    ·exact tp2.2.2 u q o (by simp) (by rw [qAD g];exact hm)
    ·rw [List.mem_singleton.mp q] at g
     have:=((T.wf _ _ g).in_ o hm)
     omega
  subst oy
  obtain ⟨yy,NY,sy⟩:=qEU T (T.has hz (hc o hy)).1
  have go:l[l0.length]?=some o:=by rw [el,List.getElem?_append_right (Nat.le_refl _)];simp
  obtain ⟨i1,i2⟩:=is l0.length o yy go NY
  have ll:l.length=l0.length+1:=by rw [el,List.length_append,List.length_singleton]
  have edr:(l.drop (l0.length+1 - yy.length)).take yy.length=l.drop (l0.length+1 - yy.length):=List.take_of_length_le (by rw [List.length_drop];omega)
  rw [edr] at i2
  have es:l=l.take (l0.length+1 - yy.length)++l.drop (l0.length+1 - yy.length):=(List.take_append_drop _ _).symm
  generalize l.take (l0.length+1 - yy.length)=a at es
  generalize l.drop (l0.length+1 - yy.length)=b at es i2
  subst es
  have mb:∀ x,x ∈ b ↔ Nd net [o] x:=fun x=>i2.mem_iff.trans (NY.2 x)
  have nl2:=List.nodup_append.mp nl
  have tp2:=List.pairwise_append.mp tp
  have ob:OrdT net o b:=⟨nl2.2.1,mb,tp2.2.1⟩
  have ib:InStr net b:=InStr.post nl (fun u hu x hx=>(mb x).mpr (nd_tr ((mb u).mp hu) hx)) is
  obtain ⟨os,bs,p1,p2,p3⟩:=qNA T hz n (cs.erase o) a (by rw [List.length_erase_of_mem hy];omega) (nc.erase _) (fun x hx=>hc x (List.mem_of_mem_erase hx)) nl2.1 (fun x=>by
   constructor
   ·intro hx
    obtain ⟨y2,hy2,h2⟩:=(m x).mp (List.mem_append_left _ hx)
    refine ⟨y2,(List.mem_erase_of_ne fun q=>?_).mpr hy2,h2⟩
    subst q
    exact nl2.2.2 x hx x ((mb x).mpr h2) rfl
   ·rintro ⟨y2,hy2,h2⟩
    have hy2c:=List.mem_of_mem_erase hy2
    have ne2:y2 ≠ o:=fun q=>by
     subst q
     exact (List.Nodup.not_mem_erase nc) hy2
    rcases List.mem_append.mp ((m x).mpr ⟨y2,hy2c,h2⟩) with q | q
    ·exact q
    ·exact absurd (qGG T hz (hc y2 hy2c) (hc o hy) h2 ((mb x).mp q)) ne2) tp2.1 is.pre
  refine ⟨os++[o],bs++[b],?_,by rw [List.flatten_append,← p2];simp,qHK p3 ⟨ob,ib⟩⟩
  exact (p1.append_right [o]).trans ((List.perm_append_comm).trans (List.perm_cons_erase hy).symm)
theorem qY6 (T:TIn net zs work) (w1:Wd1 net ws) {R:Int→Int} {O:Int→List Int} (S:StOn net ws zs R O):∀ (n:Nat) (z:Int),z.toNat=n→z ∈ zs→∀ l:List Int,OrdT net z l→InStr net l→∀ k m:Int,(∀ v ∈ runK net ws k l,v≤m)→k+R z≤m∧endK net ws k l=k+wdO ws z:=by
 intro n
 induction n using Nat.strongRecOn with
 | ind n ih=>
  intro z hn hz l hl hs k m hv
  have zb:=T.N.1.in_ z hz
  obtain ⟨l',el,nl,ml,tl⟩:=hl.last T hz
  subst el
  obtain ⟨os,bs,p1,p2,p3⟩:=qNA T hz _ (nd net z) l' rfl (T.nodup hz) (fun y hy=>hy) nl ml tl hs.pre
  have wge:∀ x ∈ os,1≤wdO ws x:=fun x hx=>by
   have b:=T.N.1.in_ x (T.has hz (p1.mem_iff.mp hx)).1
   exact w1 x b.1 b.2
  have sge:=qLT wge
  have wz:=w1 z zb.1 zb.2
  have many:∀ {bs:List (List Int)} {os:List Int},Paired (fun b y=>OrdT net y b∧InStr net b) bs os→(∀ y ∈ os,y ∈ nd net z)→∀ h:Int,k≤m→(∀ v ∈ runK net ws (k+h) bs.flatten,v≤m)→k+strR ws R h os≤m∧endK net ws (k+h) bs.flatten=k+h+sumW ws os:=by
   intro bs os P
   induction P with
   | nil=>
    intro _ h km _
    refine ⟨by show k+0≤m;omega,?_⟩
    rw [qCX]
    show k+h=_
    omega
   | @cons b y bs os hb _ ihp=>
    intro hy h km hvv
    rw [List.flatten_cons,qF1] at hvv
    have Y:=T.has hz (hy y List.mem_cons_self)
    obtain ⟨a1,a2⟩:=ih y.toNat (by omega) y rfl Y.1 b hb.1 hb.2 (k+h) m fun v q=>hvv v (List.mem_append_left _ q)
    rw [a2,show k+h+wdO ws y=k+(h+wdO ws y) by omega] at hvv
    obtain ⟨b1,b2⟩:=ihp (fun x hx=>hy x (List.mem_cons_of_mem _ hx)) (h+wdO ws y) km fun v q=>hvv v (List.mem_append_right _ q)
    refine ⟨?_,?_⟩
    ·show k+mxi (h+R y) (strR ws R (h+wdO ws y) os)≤m
     have:=(mxi_le (a:=h+R y) (b:=strR ws R (h+wdO ws y) os) (c:=m - k)).mpr ⟨by omega,by omega⟩
     omega
    ·rw [List.flatten_cons,qF7,a2,show k+h+wdO ws y=k+(h+wdO ws y) by omega,b2,qAR]
     omega
  have e0:endK net ws k l'=endK net ws (k+0) l':=by rw [Int.add_zero]
  have lasts:∀ s,endK net ws k l'=s→s+wdO ws z≤m:=fun s es=>by
   refine hv _ ?_
   rw [qF1,es]
   exact List.mem_append_right _ (List.mem_singleton.mpr rfl)
  have hv':∀ v ∈ runK net ws k l',v≤m:=fun v q=>hv v (by rw [qF1];exact List.mem_append_left _ q)
  -- the level behind the needs,whatever m is
  have lev:endK net ws k l'=k+sumW ws os:=by
   obtain ⟨M,hM,hM2⟩:∃ M:Int,k≤M∧∀ v ∈ runK net ws k l',v≤M:=by
    obtain ⟨g1,g2,_⟩:=qGN (runK net ws k l') k
    exact ⟨_,g1,g2⟩
   have many':∀ {bs:List (List Int)} {os:List Int},Paired (fun b y=>OrdT net y b∧InStr net b) bs os→(∀ y ∈ os,y ∈ nd net z)→∀ h:Int,(∀ v ∈ runK net ws (k+h) bs.flatten,v≤M)→endK net ws (k+h) bs.flatten=k+h+sumW ws os:=by
    intro bs os P
    induction P with
    | nil=>
     intro _ h _
     rw [qCX]
     show k+h=_
     omega
    | @cons b y bs os hb _ ihp=>
     intro hy h hvv
     rw [List.flatten_cons,qF1] at hvv
     have Y:=T.has hz (hy y List.mem_cons_self)
     obtain ⟨_,a2⟩:=ih y.toNat (by omega) y rfl Y.1 b hb.1 hb.2 (k+h) M fun v q=>hvv v (List.mem_append_left _ q)
     rw [a2,show k+h+wdO ws y=k+(h+wdO ws y) by omega] at hvv
     have b2:=ihp (fun x hx=>hy x (List.mem_cons_of_mem _ hx)) (h+wdO ws y) fun v q=>hvv v (List.mem_append_right _ q)
     rw [List.flatten_cons,qF7,a2,show k+h+wdO ws y=k+(h+wdO ws y) by omega,b2,qAR]
     omega
   have:=many' p3 (fun y hy=>p1.mem_iff.mp hy) 0 (by rw [Int.add_zero,← p2];exact hM2)
   rw [Int.add_zero,← p2] at this
   exact this
  have lz:=lasts _ lev
  obtain ⟨c1,_⟩:=many p3 (fun y hy=>p1.mem_iff.mp hy) 0 (by omega) (by rw [Int.add_zero,← p2];exact hv')
  obtain ⟨os2,q1,q2,_,eR⟩:=S z hz
  have least:=qKZ os2 os 0 q2 (p1.trans q1.symm) fun x hx=>by
   have:=wge x (p1.mem_iff.mpr (q1.mem_iff.mp hx))
   omega
  have es:sumW ws os2=sumW ws os:=qFF (q1.trans p1.symm)
  refine ⟨?_,?_⟩
  ·rw [eR,es]
   have:=(mxi_le (a:=strR ws R 0 os2) (b:=sumW ws os+wdO ws z) (c:=m - k)).mpr ⟨by omega,by omega⟩
   omega
  ·rw [qF7,lev]
   show k+sumW ws os+wdO ws z - sumW ws (nd net z)=_
   rw [qFF p1]
   omega
theorem qT8 (T:TIn net zs work) (w1:Wd1 net ws) {R:Int→Int} {O:Int→List Int} (S:StOn net ws zs R O) {l:List Int} (h:OrdT net work l) (hs:InStr net l) {m:Int} (e:topD none (qB7 net ws l)=some m):R work≤m:=by
 have t:=qGO e
 rw [h.run T] at t
 have:=(qY6 T w1 S _ work rfl (qBU T.N) l h hs 0 m t.2).1
 omega
theorem InStr.app {a b:List Int} (ha:InStr net a) (hb:InStr net b):InStr net (a++b):=fun p o ys e N=>by
 by_cases c:p<a.length
 ·rw [List.getElem?_append_left c] at e
  obtain ⟨h1,h2⟩:=ha p o ys e N
  refine ⟨h1,?_⟩
  rw [List.drop_append_of_le_length (by omega),List.take_append_of_le_length (by rw [List.length_drop];omega)]
  exact h2
 ·rw [List.getElem?_append_right (by omega)] at e
  obtain ⟨h1,h2⟩:=hb (p - a.length) o ys e N
  refine ⟨by omega,?_⟩
  rw [List.drop_append,List.drop_eq_nil_of_le (by omega),List.nil_append,show p+1 - ys.length - a.length=p - a.length+1 - ys.length by omega]
  exact h2
theorem InStr.nil:InStr net []:=fun p o ys e _=>by simp at e
theorem qT9 (T:TIn net zs work) {R:Int→Int} {O:Int→List Int} (S:StOn net ws zs R O):∀ (n:Nat) (z:Int),z.toNat=n→z ∈ zs→InStr net (O z):=by
 intro n
 induction n using Nat.strongRecOn with
 | ind n ih=>
  intro z hn hz
  have zb:=T.N.1.in_ z hz
  have ord:=qJI T S hz
  obtain ⟨os,p,_,eO,_⟩:=S z hz
  have flat:∀ l:List Int,(∀ y ∈ l,y ∈ nd net z)→InStr net (l.map O).flatten:=by
   intro l
   induction l with
   | nil=>exact fun _=>.nil
   | cons y l ihl=>
    intro hy
    have Y:=T.has hz (hy y List.mem_cons_self)
    rw [List.map_cons,List.flatten_cons]
    exact (ih y.toNat (by omega) y rfl Y.1).app (ihl fun x hx=>hy x (List.mem_cons_of_mem _ hx))
  have fl:=flat os fun y hy=>p.mem_iff.mp hy
  intro q o ys e N
  rw [eO] at e ord ⊢
  by_cases c:q<((os.map O).flatten).length
  ·rw [List.getElem?_append_left c] at e
   obtain ⟨h1,h2⟩:=fl q o ys e N
   refine ⟨h1,?_⟩
   rw [List.drop_append_of_le_length (by omega),List.take_append_of_le_length (by rw [List.length_drop];omega)]
   exact h2
  ·have hq:=(List.getElem?_eq_some_iff.mp e).1
   rw [List.length_append,List.length_singleton] at hq
   rw [List.getElem?_append_right (by omega),show q - ((os.map O).flatten).length=0 by omega] at e
   have eo:z=o:=by simpa using e
   subst eo
   have pm:((os.map O).flatten++[z]).Perm ys:=(List.perm_ext_iff_of_nodup ord.nodup N.1.nodup).mpr fun x=>(ord.mem x).trans (N.2 x).symm
   have lp:=pm.length_eq
   rw [List.length_append,List.length_singleton] at lp
   refine ⟨by omega,?_⟩
   rw [show q+1 - ys.length=0 by omega,List.drop_zero,List.take_of_length_le (by rw [List.length_append,List.length_singleton];omega)]
   exact pm
end
end Fw
namespace L2
open PySem PySem.Spec PyProof.Rows
theorem qID {X:Cx} {K:PySem.W.Frag} (hK:X.K=K) (hc:X.calm=true):qFC X (.builtin "max") (fun xs H Q=>∃ p ns m,xs=[.ref p]∧SqL K H p (ns.map V.int)∧topD none ns=some m∧Q (.int m) H):=by subst hK;exact qDX hc
end L2
namespace Fw
open PySem L2
section
variable {net:List (List Int)} {ws works:List Int} {work:Int}
def frO (net:List (List Int)) (l:List Int) (x:Int):Bool:=!decide (x ∈ l) && (nd net x).all fun y=>decide (y ∈ l)
def lngO (net:List (List Int)) (xs l:List Int):List (List Int):=(xs.filter (frO net l)).map fun x=>l++[x]
def qGS (net:List (List Int)) (works:List Int) (L:List (List Int)):List (List Int):=(L.map (lngO net works)).flatten
def ordL (net:List (List Int)) (works:List Int):Nat→List (List Int)
 | 0=>[[]]
 | t+1=>qGS net works (ordL net works t)
theorem qLM {l:List Int} {x:Int} (B:Begun net works l) (hx:x ∈ works) (hf:frO net l x=true):Begun net works (l++[x]):=by
 unfold frO at hf
 rw [Bool.and_eq_true,Bool.not_eq_true',decide_eq_false_iff_not,List.all_eq_true] at hf
 refine ⟨?_,fun y hy=>?_,fun p o e y hy=>?_⟩
 ·rw [List.nodup_append]
  refine ⟨B.nodup,by simp,fun a ha b hb z=>?_⟩
  rw [List.mem_singleton.mp hb] at z
  exact hf.1 (z ▸ ha)
 ·rcases List.mem_append.mp hy with h | h
  ·exact B.sub y h
  ·rw [List.mem_singleton.mp h];exact hx
 ·rcases Nat.lt_or_ge p l.length with q | q
  ·rw [List.getElem?_append_left q] at e
   rw [List.take_append_of_le_length (by omega)]
   exact B.bef p o e y hy
  ·rw [List.getElem?_append_right q] at e
   have hp:p - l.length=0:=by
    have:=(List.getElem?_eq_some_iff.mp e).1
    simp at this
    omega
   rw [hp] at e
   cases e
   rw [List.take_append_of_le_length (by omega),List.take_of_length_le (by omega)]
   exact of_decide_eq_true (hf.2 y hy)
theorem qSR {l:List Int} {x:Int} (B:Begun net works (l++[x])):Begun net works l∧x ∈ works∧frO net l x=true:=by
 have n:=List.nodup_append.mp B.nodup
 refine ⟨⟨n.1,fun y hy=>B.sub y (List.mem_append_left _ hy),fun p o e y hy=>?_⟩,B.sub x (by simp),?_⟩
 ·have hp:=(List.getElem?_eq_some_iff.mp e).1
  have:=B.bef p o (by rw [List.getElem?_append_left hp];exact e) y hy
  rw [List.take_append_of_le_length (by omega)] at this
  exact this
 ·unfold frO
  rw [Bool.and_eq_true,Bool.not_eq_true',decide_eq_false_iff_not,List.all_eq_true]
  refine ⟨fun h=>n.2.2 x h x (by simp) rfl,fun y hy=>decide_eq_true ?_⟩
  have:=B.bef l.length x (by rw [List.getElem?_append_right (Nat.le_refl _)];simp) y hy
  rw [List.take_append_of_le_length (Nat.le_refl _),List.take_length] at this
  exact this
theorem qJ2:∀ (t:Nat) (l:List Int),l ∈ ordL net works t ↔ Begun net works l∧l.length=t
 | 0,l=>by
  show l ∈ [[]] ↔ _
  rw [List.mem_singleton]
  constructor
  ·rintro rfl
   exact ⟨⟨List.Pairwise.nil,fun _ h=>(nomatch h),fun p o e=>by simp at e⟩,rfl⟩
  ·exact fun h=>List.length_eq_zero_iff.mp h.2
 | t+1,l=>by
  show l ∈ ((ordL net works t).map (lngO net works)).flatten ↔ _
  rw [List.mem_flatten]
  constructor
  ·rintro ⟨L,hL,hl⟩
   obtain ⟨l0,h0,rfl⟩:=List.mem_map.mp hL
   obtain ⟨x,hx,rfl⟩:=List.mem_map.mp hl
   obtain ⟨x1,x2⟩:=List.mem_filter.mp hx
   obtain ⟨b,e⟩:=(qJ2 t l0).mp h0
   exact ⟨qLM b x1 x2,by rw [List.length_append,List.length_singleton,e]⟩
  ·rintro ⟨B,e⟩
   rcases List.eq_nil_or_concat l with q | ⟨l0,x,q⟩
   ·rw [q] at e;cases e
   ·rw [List.concat_eq_append] at q
    subst q
    obtain ⟨b,x1,x2⟩:=qSR B
    rw [List.length_append,List.length_singleton] at e
    exact ⟨_,List.mem_map.mpr ⟨l0,(qJ2 t l0).mpr ⟨b,by omega⟩,rfl⟩,List.mem_map.mpr ⟨x,List.mem_filter.mpr ⟨x1,x2⟩,rfl⟩⟩
theorem qMG {k:Nat} (hk:works.length≤k):∀ L:List (List Int),(qGS net works L).length≤L.length * k
 | []=>by simp [qGS]
 | l::L=>by
  show ((lngO net works l)++qGS net works L).length≤_
  rw [List.length_append,List.length_cons,Nat.add_mul,Nat.one_mul]
  have:=qMG hk L
  have:(lngO net works l).length≤works.length:=by
   unfold lngO
   rw [List.length_map]
   exact List.length_filter_le _ _
  omega
theorem qRE (h:works.length≤7):∀ t:Nat,(ordL net works t).length≤7 ^ t
 | 0=>Nat.le_refl _
 | t+1=>Nat.le_trans (qMG h _) (by rw [Nat.pow_succ];exact Nat.mul_le_mul_right 7 (qRE h t))
theorem qMM (h:works.length≤7) {t:Nat} (ht:t≤7):(ordL net works t).length≤823543:=Nat.le_trans (qRE h t) (Nat.pow_le_pow_right (by decide) ht)
theorem qP3 {l:List Int} (N:qAH net [work] works) (B:Begun net works l) (e:l.length=works.length):OrdT net work l:=by
 refine qNQ B.nodup (fun x=>?_) B.bef
 rw [← N.2 x]
 refine ⟨B.sub x,fun hx=>?_⟩
 rcases Classical.em (x ∈ l) with q | q
 ·exact q
 ·exfalso
  have:=List.Nodup.length_le_of_subset (List.nodup_cons.mpr ⟨q,B.nodup⟩) (fun y hy=>(List.mem_cons.mp hy).elim (fun e=>e ▸ hx) (B.sub y))
  simp at this
  omega
theorem qHF {l:List Int} (wf:WFn net) (N:qAH net [work] works) (h:OrdT net work l):Begun net works l∧l.length=works.length:=by
 have m:∀ x,x ∈ l ↔ x ∈ works:=fun x=>(h.mem x).trans (N.2 x).symm
 have pm:=(List.perm_ext_iff_of_nodup h.nodup N.1.nodup).mpr m
 refine ⟨⟨h.nodup,fun x hx=>(m x).mp hx,h.ahead wf fun x hx=>?_⟩,pm.length_eq⟩
 have b:=N.1.in_ x ((m x).mp hx)
 have hw:x.toNat<net.length:=by omega
 have hz:=List.getElem?_eq_getElem hw
 rw [qAD hz]
 exact hz
theorem qW3 (wf:WFn net) (N:qAH net [work] works) (l:List Int):l ∈ ordL net works works.length ↔ OrdT net work l:=
 (qJ2 _ l).trans ⟨fun h=>qP3 N h.1 h.2,qHF wf N⟩
theorem qU9:∀ {l:List Int} {m:Int},lowD none l=some m→m ∈ l∧∀ x ∈ l,m≤x:=by
 intro l m h
 cases l with
 | nil=>cases h
 | cons x r=>
  have h:=Option.some.inj h
  subst h
  obtain ⟨h2,h3,h1⟩:=qU8 r x
  exact ⟨h1.elim (fun e=>by rw [e];exact List.mem_cons_self) (List.mem_cons_of_mem _),fun y hy=>(List.mem_cons.mp hy).elim (fun e=>by rw [e];exact h2) (h3 y)⟩
theorem qXJ {l:List Int} (h:l ≠ []):∃ m,lowD none l=some m:=by
 cases l with
 | nil=>exact absurd rfl h
 | cons x r=>exact ⟨_,rfl⟩
end
theorem qSB {net:List (List Int)} {asked:List Int} (wf:WFn net) (r:Rise (net.length:Int) asked) {x:Int} (h:Nd net asked x):0≤x∧x<(net.length:Int):=by
 induction h with
 | ask m=>exact r.in_ _ m
 | need _ e hy ih=>
  have h1:=(wf _ _ e).in_ _ hy
  have h2:=(List.getElem?_eq_some_iff.mp e).1
  omega
theorem qPP {net:List (List Int)} {asked:List Int} (wf:WFn net) (r:Rise (net.length:Int) asked):∃ zs,qAH net asked zs:=by
 classical
 refine ⟨(qFG 0 net.length).filter fun x=>decide (Nd net asked x),⟨(qNI _ _).filter _,fun x hx=>?_⟩,fun x=>?_⟩
 ·have:=mem_rangeI.mp (List.mem_filter.mp hx).1
  omega
 ·rw [List.mem_filter,decide_eq_true_eq,mem_rangeI]
  exact ⟨fun h=>h.2,fun h=>⟨qSB wf r h,h⟩⟩
theorem qR8 {net:List (List Int)} {n:Nat} {work:Int} (wf:WFn net) (on:Once net n) (hn:n≤net.length) (w0:0≤work) (wn:work<(n:Int)):isT net work:=by
 obtain ⟨zs,N⟩:=qPP (net:=net) (asked:=[work]) wf ⟨List.pairwise_singleton _ _,fun x hx=>by rw [List.mem_singleton.mp hx];omega⟩
 exact ⟨zs,N,qTW wf on hn wn N⟩
theorem qIB {l:List Int} {j:Nat} {y:Int} (h:l[j]?=some y):(y::l.eraseIdx j).Perm l:=by
 obtain ⟨hj,e⟩:=List.getElem?_eq_some_iff.mp h
 rw [List.eraseIdx_eq_take_drop_succ]
 have:l=l.take j++y::l.drop (j+1):=by
  rw [← e,← List.drop_eq_getElem_cons hj,List.take_append_drop]
 exact (List.perm_middle.symm).trans (by rw [← this])
structure LeftO (works ord lf:List Int):Prop where
 nd:lf.Nodup
 mem:∀ x,x ∈ lf ↔ x ∈ works∧x ∉ ord
 len:lf.length+ord.length=works.length
theorem LeftO.next {works ord lf:List Int} {j:Nat} {y:Int} (h:LeftO works ord lf) (e:lf[j]?=some y):LeftO works (ord++[y]) (lf.eraseIdx j):=by
 have pm:=qIB e
 have nd2:=List.nodup_cons.mp (pm.nodup_iff.mpr h.nd)
 refine ⟨nd2.2,fun x=>?_,?_⟩
 ·have m:=(pm.mem_iff (a:=x)).trans (h.mem x)
  rw [List.mem_cons] at m
  rw [List.mem_append,List.mem_singleton]
  constructor
  ·intro hx
   have:=m.mp (.inr hx)
   refine ⟨this.1,fun z=>z.elim this.2 fun e=>nd2.1 (e ▸ hx)⟩
  ·rintro ⟨h1,h2⟩
   rcases m.mpr ⟨h1,fun z=>h2 (.inl z)⟩ with e | e
   ·exact absurd (.inr e) h2
   ·exact e
 ·have:=pm.length_eq
  have:=h.len
  rw [List.length_cons] at *
  rw [List.length_append,List.length_singleton]
  omega
def rdy (net:List (List Int)) (ord:List Int) (x:Int):Bool:=(nd net x).all fun y=>decide (y ∈ ord)
theorem qZV {net:List (List Int)} {work:Int} {works ord lf:List Int} (wf:WFn net) (N:qAH net [work] works) (B:Begun net works ord) (L:LeftO works ord lf) (h:lf ≠ []):1≤(lf.filter (rdy net ord)).length:=by
 have hl:=List.length_pos_iff.mpr h
 have f:=B.free wf N (by have:=L.len;omega)
 obtain ⟨x,hx⟩:=List.exists_mem_of_length_pos f
 rw [List.mem_filter,Bool.and_eq_true,decide_eq_true_eq,Bool.not_eq_true'] at hx
 obtain ⟨h1,⟨_,h2⟩,h3⟩:=hx
 refine List.length_pos_of_mem (a:=x) (List.mem_filter.mpr ⟨(L.mem x).mpr ⟨h1,h2⟩,?_⟩)
 unfold rdy
 rw [List.all_eq_true]
 intro y hy
 refine decide_eq_true (Classical.byContradiction fun q=>?_)
 have hb:=N.1.in_ x h1
 have hz:=List.getElem?_eq_getElem (show x.toNat<net.length by omega)
 have hys:y ∈ works:=(N.2 y).mpr (.need ((N.2 x).mp h1) hz (by rw [← qAD hz];exact hy))
 have:(nd net x).any (lft works ord)=true:=List.any_eq_true.mpr ⟨y,hy,decide_eq_true ⟨hys,q⟩⟩
 rw [this] at h3
 cases h3
theorem qZU {net:List (List Int)} {works ord lf:List Int} {x:Int} (L:LeftO works ord lf) (h:x ∈ lf.filter (rdy net ord)):x ∈ works∧frO net ord x=true:=by
 obtain ⟨h1,h2⟩:=List.mem_filter.mp h
 obtain ⟨h3,h4⟩:=(L.mem x).mp h1
 refine ⟨h3,?_⟩
 unfold frO
 rw [Bool.and_eq_true,Bool.not_eq_true',decide_eq_false_iff_not]
 exact ⟨h4,h2⟩
def mxT (net:List (List Int)) (ws l:List Int):Int:=(topD none (qB7 net ws l)).getD 0
def qNC:Sp:=fun vs H Q _=>∃ d c t ns m,vs=[.ref d,.int m]∧StAt H d c t ns∧t≤TB - 1000∧1≤m∧m≤100∧
 ∀ (r:Addr) (ws:List Int) (t':Int) (ns':List Int) (H':Hp),StAt H' d c t' ns'→t≤t'→t'≤t+300→Keep d c H H'→H' r=some (.tup (ws.map V.int))→(ws.length:Int)=m→(∀ u ∈ ws,1≤u∧u≤99)→Q (.ref r) H'
def qNF:Sp:=fun vs H Q _=>∃ (a lw lo:Addr) (net:List (List Int)) (works zs:List Int) (work:Int),vs=[.ref a,.ref lw,.ref lo]∧NetAt H a net∧WFn net∧net.length≤60∧H lw=some (.lst (works.map V.int))∧qAH net [work] works∧H lo=some (.lst (zs.map V.int))∧OrdT net work zs∧∀ H',Same H H'→Q (.bl true) H'
def qQM:Sp:=fun vs H Q _=>∃ (a lw:Addr) (net:List (List Int)) (works:List Int) (work:Int),vs=[.ref a,.ref lw]∧NetAt H a net∧WFn net∧net.length≤7∧H lw=some (.lst (works.map V.int))∧qAH net [work] works∧
 ∀ (l:Addr) (rs:List Addr) (H':Hp),Same H H'→H' l=some (.lst (rs.map V.ref))→Paired (fun r o=>H' r=some (.lst (o.map V.int))) rs (ordL net works works.length)→Q (.ref l) H'
def qPG:Sp:=fun vs H Q _=>∃ (a lo:Addr) (net:List (List Int)) (zs:List Int),vs=[.ref a,.ref lo]∧NetAt H a net∧WFn net∧net.length≤60∧H lo=some (.lst (zs.map V.int))∧zs.length≤60∧(∀ x ∈ zs,0≤x∧x<(net.length:Int))∧(InStr net zs→∀ H',Same H H'→Q (.bl true) H')∧(¬ InStr net zs→∀ H',Same H H'→Q (.bl false) H')
def qQR:Sp:=fun vs H Q _=>∃ (d c a lw:Addr) (t:Int) (ns:List Int) (net:List (List Int)) (works:List Int) (work:Int),vs=[.ref d,.ref a,.ref lw]∧StAt H d c t ns∧t≤TB - 1000∧NetAt H a net∧WFn net∧net.length≤60∧lw ≠ c∧H lw=some (.lst (works.map V.int))∧qAH net [work] works∧
 ∀ (l:Addr) (zs:List Int) (t':Int) (ns':List Int) (H':Hp),StAt H' d c t' ns'→t≤t'→t'≤t+60→Keep d c H H'→H' l=some (.lst (zs.map V.int))→OrdT net work zs→Q (.ref l) H'
def qPF (Ps Pp:Addr):Sp:=fun vs H Q _=>∃ (a t lw:Addr) (net:List (List Int)) (ws works:List Int) (work:Int),vs=[.ref a,.ref t,.int work,.ref lw]∧TabS H Ps∧TabP H Pp∧qKV H a t net ws work∧net.length≤60∧H lw=some (.lst (works.map V.int))∧qAH net [work] works∧∀ H',Same H H'→Q (.bl true) H'
def qQL (Ps Pp:Addr):Sp:=fun vs H Q _=>∃ (a t:Addr) (net:List (List Int)) (ws:List Int) (work:Int),vs=[.ref a,.ref t,.int work]∧TabS H Ps∧TabP H Pp∧qKV H a t net ws work∧net.length≤7∧∀ H',Same H H'→Q (.bl true) H'
def qQQ (Ps Pp:Addr):Sp:=fun vs H Q _=>∃ (d c a t:Addr) (tt:Int) (ns:List Int) (net:List (List Int)) (ws:List Int) (work:Int),vs=[.ref d,.ref a,.ref t,.int work]∧TabS H Ps∧TabP H Pp∧StAt H d c tt ns∧tt≤TB - 5000∧qKV H a t net ws work∧net.length≤60∧
 ∀ (t':Int) (ns':List Int) (H':Hp),StAt H' d c t' ns'→tt≤t'→t'≤tt+1200→Keep d c H H'→Q (.bl true) H'
def qLZ (K:PySem.W.Frag) (Ps Pp:Addr):Sp:=fun vs H Q E=>TabS H Ps∧TabP H Pp∧qbC K vs H Q E
section
variable {P:Program} {w:World} {K:PySem.W.Frag} {mg:Str→Option Value} {base:Heap} {f:Addr} {fd:FuncData}
theorem sc_Lbegin:FnScope ["_law_script","_law_cells"] ["_law_script"] (qAB qJ1):=⟨rfl,rfl,rfl,by decide +kernel,rfl,by decide +kernel,by decide +kernel⟩
theorem ok_Lbegin (F:Fun K "_law_begin" "_law_begin" qJ1 f fd) (qCC:mg "list" = none):FnOk P w K mg base CX0 1 f fd ["_law_script"] (qTC K):=by
 refine F.ok sc_Lbegin (fun vs H Q E h=>?_) (fun cdv A outer s H vs Q E hr h=>?_)
 ·obtain ⟨a,ns,rfl,_⟩:=h
  rfl
 obtain ⟨a,ns,rfl,hS,h63,q⟩:=h
 have hu:=qKA hr
 have hu0:=hr.units0
 refine ⟨_,(qA4 (qAE (i:=1) sc_Lbegin.nd rfl (Or.inl rfl) (qBQ qIN rfl qCC qH0 (qA0 (qHE qJL (pv 0) qM6 (qI5 qA9)) qA3))) (qA4 (qCU (qB3 (qTV hu0) (pv 1) (qB8 qA3) (qB9 _)) (qA6 (qAE (i:=1) sc_Lbegin.nd rfl (Or.inl rfl) (qB8 (qA0 qA9 qA3)))) qAT) (qA6 (qAL (qYE (qR1 qJR (pv 1) (qR1 qJR qA9 qYD)) rfl rfl (by simp) (by decide)))))),?_⟩
 try dsimp only [Cx.nox,Cx.wish,cxOf]
 refine ⟨_,rfl,_,rfl,a,_,rfl,hS,fun p hp=>?_⟩
 rw [qHX]
 have hl:(cutI ns none (some 63)).length≤63:=Nat.le_trans (qWY _ _ _) h63
 refine ⟨p,_,rfl,.inl (SqL.of qA1),fun c hc=>?_⟩
 have s1:Same H (upd (upd H p (.lst ((cutI ns none (some 63)).map V.int))) c (.lst ((cutI ns none (some 63)).map V.int))):=(qA2 hp _).trans (qA2 hc _)
 refine ⟨_,rfl,(by show 0≤sizeLine;decide),fun e he=>?_⟩
 have hce:c ≠ e:=qA5 qA1 he
 refine ⟨c,e,_,rfl,rfl,SqL.of (by rw [qA7 hce];exact qA1),SqL.of qA1,_,rfl,?_⟩
 have s2:=s1.trans (qA2 he (.lst []))
 cases hm:cutI ns none (some 63) with
 | nil=>
  rw [hm] at s2 he
  refine iteT ?_
  refine ⟨(by show 1≤sizeLine;decide),fun c2 hc2=>?_⟩
  have s3:=s2.trans (qA2 hc2 (.lst [.int 7]))
  intro d hd
  refine ⟨_,rfl,?_⟩
  have s4:=s3.trans (qA2 hd (.dK []))
  refine ⟨qA1,[(Sum.inr (Str.ofString "cells"),.ref c2),(Sum.inr (Str.ofString "turn"),.int 0)],rfl,(by show 2≤15;decide),?_⟩
  have ncd:c2 ≠ d:=qA5 qA1 hd
  refine q d c2 [7] _ ⟨?_,?_,by decide,by decide,by decide⟩ ?_ ?_ ?_
  ·rw [qA1,qXI]
  ·rw [qA7 ncd,qA7 ncd];exact qA1
  ·rw [qLS];exact s3.trans (qA2 hd _)
  ·exact s3.free hd
  ·exact s2.free hc2
 | cons x r=>
  rw [hm] at s2 he hl
  refine iteF ?_
  intro d hd
  refine ⟨_,rfl,?_⟩
  refine ⟨qA1,[(Sum.inr (Str.ofString "cells"),.ref c),(Sum.inr (Str.ofString "turn"),.int 0)],rfl,(by show 2≤15;decide),?_⟩
  have gc:(upd (upd (upd H p (.lst ((x::r).map V.int))) c (.lst ((x::r).map V.int))) e (.lst [])) c=some (.lst ((x::r).map V.int)):=by rw [qA7 hce];exact qA1
  have ncd:c ≠ d:=qA5 gc hd
  refine q d c (x::r) _ ⟨?_,?_,by simp,hl,by decide⟩ ?_ ?_ ?_
  ·rw [qA1,qXI]
  ·rw [qA7 ncd,qA7 ncd];exact gc
  ·rw [qLS];exact s2.trans (qA2 hd _)
  ·exact s2.free hd
  ·rw [hm] at hc;exact (qA2 hp _).free hc
theorem sc_Ltake:FnScope ["_law_state","_law_many","_law_turn","_law_place","_law_cell","_law_digit","_law_mixed"] ["_law_state","_law_many"] (qAB qM4):=⟨rfl,rfl,rfl,by decide +kernel,rfl,by decide +kernel,by decide +kernel⟩
theorem ok_Ltake (F:Fun K "_law_take" "_law_take" qM4 f fd) (qBN:mg "len" = none) (qGA:mg "divmod" = none):FnOk P w K mg base CX0 1 f fd ["_law_state","_law_many"] qND:=by
 refine F.ok sc_Ltake (fun vs H Q E h=>?_) (fun cdv A outer s H vs Q E hr h=>?_)
 ·obtain ⟨d,c,t,ns,m,rfl,_⟩:=h
  rfl
 obtain ⟨d,c,t,ns,m,rfl,S,ht,hm1,hm2,q⟩:=h
 have hu:=qKA hr
 refine ⟨_,(qA4 (qAE (i:=2) sc_Ltake.nd rfl (Or.inl rfl) (qAU qDC (qCP hu (pv 0) qJR (fun _ _=>rfl)) qA9)) (qA4 (qFH hu (pv 0) qJR (pv 2) rfl) (qA4 (qAE (i:=3) sc_Ltake.nd rfl (Or.inl rfl) (qAU qL9 (pv 2) (qA8 qAJ rfl qBN qDH (qA0 (qCP hu (pv 0) qJR (fun _ _=>rfl)) qA3)))) (qA4 (qAE (i:=4) sc_Ltake.nd rfl (Or.inl rfl) (qB2 qF3 (qCP hu (pv 0) qJR (fun _ _=>rfl)) (pv 3) (fun _ _=>rfl))) (qA4 (qCU (qB3 qYF (pv 4) (qAU qa5 qA9 qA9) (qB9 _)) (qA4 (qNJ (qA8 qQ9 rfl qGA qVD (qA0 (pv 4) (qA0 (pv 1) qA3))) (qL5 rfl (qBP (qR3 (qCP hu (pv 0) qJR (fun _ _=>rfl)) (pv 3) qH9) (qBP (qAA (i:=5) sc_Ltake.nd rfl (Or.inl rfl)) qFJ)))) (qA6 (qAL (pv 5)))) qAT) (qA4 (qAE (i:=6) sc_Ltake.nd rfl (Or.inl rfl) (qAU qL9 (qAU qJW (qAU qDC (qAU qDC (qAU qL9 (pv 4) qA9) (qAU qJW (qAU qJW (pv 2) (pv 2)) qA9)) qA9) qA9) qA9)) (qA4 (qAE (i:=6) sc_Ltake.nd rfl (Or.inl rfl) (qAU qL9 (qAU qJW (pv 6) (pv 6)) qA9)) (qA6 (qAL (qAU qL9 (qAU qYG (qAU qL9 (qAU qJW (qAU qDC (pv 6) (qAU qJW (pv 2) qA9)) qA9) qA9) qA9) (pv 1))))))))))),?_⟩
 try dsimp only [Cx.nox,Cx.wish,cxOf]
 have hpos:=S.pos
 have hne:=S.ne
 have ht':t≤1000000000:=ht
 refine ⟨_,rfl,d,_,rfl,qZ1 S,_,_,rfl,rfl,?_⟩
 refine ⟨_,rfl,_,rfl,d,_,rfl,qYZ S,?_⟩
 have S1:=S.turn (u:=t+1) (by omega)
 have k1:Keep d c H (upd H d (.dK [(Sum.inr (Str.ofString "cells"),.ref c),(Sum.inr (Str.ofString "turn"),.int (t+1))])):=fun b o e n _=>by rw [qA7 n];exact e
 generalize upd H d (.dK [(Sum.inr (Str.ofString "cells"),.ref c),(Sum.inr (Str.ofString "turn"),.int (t+1))])=H1 at S1 k1
 have hlen:(((ns.map V.int).length:Nat):Int)=(ns.length:Int):=by rw [List.length_map]
 refine ⟨_,rfl,_,rfl,d,_,rfl,qMO S1,c,_,rfl,.inl (SqL.of S1.list),_,_,rfl,rfl,(by rw [hlen];omega),?_⟩
 have p0:0≤(t+1) % (((ns.map V.int).length:Nat):Int):=Int.emod_nonneg _ (by rw [hlen];omega)
 have p1:(t+1) % (((ns.map V.int).length:Nat):Int)<(ns.length:Int):=by
  have:=Int.emod_lt_of_pos (t+1) (b:=(((ns.map V.int).length:Nat):Int)) (by rw [hlen];omega)
  rw [hlen] at this ⊢
  exact this
 dsimp only
 generalize (t+1) % (((ns.map V.int).length:Nat):Int)=pl at p0 p1
 obtain ⟨j,rfl⟩:∃ j:Nat,pl=(j:Int):=⟨pl.toNat,by omega⟩
 have hj:j<ns.length:=by omega
 have hat:atI (ns.map V.int) (j:Int)=some (.int ns[j]):=qVJ (by rw [List.getElem?_map,List.getElem?_eq_getElem hj];rfl)
 refine ⟨_,rfl,d,_,rfl,qMO S1,_,rfl,c,_,_,_,rfl,rfl,SqL.of S1.list,hat,?_⟩
 generalize hx:ns[j]=x at hat ⊢
 refine ⟨_,rfl,_,_,rfl,rfl,⟨by decide,by decide,by decide⟩,_,_,rfl,rfl,_,rfl,?_⟩
 refine ite2 (fun _=>?_) (fun _=>?_)
 ·-- a great cell
  refine ⟨_,rfl,_,rfl,x,m,rfl,⟨by omega,by omega⟩,fun p hp=>?_⟩
  have S2:=S1.new hp (.tup [.int (x / m),.int (x % m)])
  have npc:p ≠ c:=(qA5 S1.list hp).symm
  refine ⟨p,_,rfl,SqT.of qA1,rfl,_,_,rfl,?_⟩
  refine ⟨_,rfl,d,_,rfl,qMO S2,_,rfl,c,_,_,j,rfl,rfl,S2.list,qMJ (by rw [List.length_map];exact hj),?_⟩
  refine ⟨_,_,rfl,rfl,?_⟩
  refine ⟨_,rfl,?_⟩
  have e1:(ns.map V.int).set j (.int (x / m))=(ns.set j (x / m)).map V.int:=by rw [List.map_set]
  rw [e1]
  refine q (x % m) (ns.set j (x / m)) _ (Int.emod_nonneg _ (by omega)) (Int.emod_lt_of_pos _ (by omega)) (S2.put (by rw [List.length_set])) ?_
  have k2:=k1.trans (qE8 (d:=d) (c:=c) hp (.tup [.int (x / m),.int (x % m)]))
  exact fun b o e n1 n2=>by rw [qA7 n2];exact k2 b o e n1 n2
 ·have b1:0≤x % 2147483629:=Int.emod_nonneg _ (by decide)
  have b2:x % 2147483629<2147483629:=Int.emod_lt_of_pos _ (by decide)
  refine ⟨_,rfl,_,_,rfl,rfl,(by show (0:Int)<2147483629;decide),_,rfl,_,rfl,_,_,rfl,rfl,.inl ⟨by omega,by omega⟩,_,_,rfl,rfl,.inr ⟨by decide,by decide⟩,_,_,rfl,rfl,_,_,rfl,rfl,_,_,rfl,rfl,.inr ⟨by decide,by decide⟩,_,_,rfl,rfl,(by show (0:Int)<2147483647;decide),?_⟩
  have c1:=Int.emod_nonneg ((x % 2147483629+(t+1) * (t+1) * 7919+11) * 48271) (b:=2147483647) (by decide)
  have c2:=Int.emod_lt_of_pos ((x % 2147483629+(t+1) * (t+1) * 7919+11) * 48271) (b:=2147483647) (by decide)
  dsimp only
  generalize ((x % 2147483629+(t+1) * (t+1) * 7919+11) * 48271) % 2147483647=y at c1 c2
  refine ⟨_,rfl,_,rfl,_,_,rfl,rfl,.inl ⟨by omega,by omega⟩,_,_,rfl,rfl,(by show (0:Int)<2147483587;decide),?_⟩
  dsimp only
  generalize y * y % 2147483587=z
  refine ⟨_,rfl,_,rfl,_,_,rfl,rfl,.inr ⟨by decide,by decide⟩,_,_,rfl,rfl,_,_,rfl,rfl,.inr ⟨by decide,by decide⟩,_,_,rfl,rfl,(by show (0:Int)<2147483629;decide),_,_,rfl,rfl,⟨by decide,by decide⟩,_,rfl,_,_,rfl,rfl,(by omega),?_⟩
  exact q _ ns _ (Int.emod_nonneg _ (by omega)) (Int.emod_lt_of_pos _ (by omega)) S1 k1
end
section
variable {P:Program} {w:World} {K:PySem.W.Frag} {mg:Str→Option Value} {base:Heap} {f:Addr} {fd:FuncData} {qEM:Addr} {qE9:FuncData}
theorem sc_Ltree_net:FnScope ["_law_state","_law_many","_law_open_ones","_law_found","_law_k","_law_so_many"] ["_law_state","_law_many"] (qAB qEZ):=⟨rfl,rfl,rfl,by decide +kernel,rfl,by decide +kernel,by decide +kernel⟩
theorem ok_Ltree_net (F:Fun K "_law_tree_net" "_law_tree_net" qEZ f fd) (qBL:Clb P w K mg base 1 qEM qE9 "_law_take" ["_law_state","_law_many"] qND)
  (qBE:mg "range" = none) (qI2:mg "min" = none) (qB6:mg "tuple" = none) (qBN:mg "len" = none):FnOk P w K mg base CX0 2 f fd ["_law_state","_law_many"] qTB:=by
 refine F.ok sc_Ltree_net (fun vs H Q E h=>?_) (fun cdv A outer s H vs Q E hr h=>?_)
 ·obtain ⟨d,c,t,ns,m,rfl,_⟩:=h
  rfl
 obtain ⟨d,c,t,ns,m,rfl,S,ht,hm0,hm1,q⟩:=h
 have ht':t≤1000000000 - 1000:=ht
 have qb0:Room 1 _:=hr
 refine ⟨_,(qA4 (qAE (i:=2) sc_Ltree_net.nd rfl (Or.inl rfl) (qB8 qA3)) (qA4 (qAE (i:=3) sc_Ltree_net.nd rfl (Or.inl rfl) (qB8 qA3)) (qA4 (qBM PassesOwn.never rfl (qFI rfl qBE (qA0 (qAU qFK (pv 1) qA9) qA3)) (qAA (i:=4) sc_Ltree_net.nd rfl (Or.inl rfl)) (qA4 (qAE (i:=5) sc_Ltree_net.nd rfl (Or.inl rfl) (qA8 (qOW rfl) rfl qI2 qRS (qA0 (qA8 qAJ rfl qBN qDH (qA0 (pv 2) qA3)) (qA0 (qB2 qF3 (qB8 (qA0 qA9 (qA0 qA9 (qA0 qA9 (qA0 qA9 (qA0 qA9 (qA0 qA9 qA3))))))) (qAQ qBL hr rfl (qA0 (pv 0) (qA0 qA9 qA3))) (fun _ _=>rfl)) qA3)))) (qA4 (qCO (qJS PySem.F.plainAttrs_list PySem.F.slot_list_append PySem.F.type_list_append qDD (pv 3) (qA0 (qBQ qBW rfl qB6 qD7 (qA0 (qHE qJL (pv 2) (qI5 (qAU qFK (qA8 qAJ rfl qBN qDH (qA0 (pv 2) qA3)) (pv 5))) qM6) qA3)) qA3))) (qA6 (qAE (i:=2) sc_Ltree_net.nd rfl (Or.inl rfl) (qAU qJX (qHE qJL (pv 2) qM6 (qI5 (qAU qFK (qA8 qAJ rfl qBN qDH (qA0 (pv 2) qA3)) (pv 5)))) (qB8 (qA0 (pv 4) qA3)))))))) (qA6 (qAL (qBQ qBW rfl qB6 qD7 (qA0 (qAU qJX (pv 3) (qB8 (qA0 (qBQ qBW rfl qB6 qD7 (qA0 (pv 2) qA3)) qA3))) qA3))))))),?_⟩
 try dsimp only [Cx.nox,Cx.wish,cxOf]
 refine ⟨(by show 0≤sizeLine;decide),fun o0 ho0=>?_⟩
 have S1:=S.new ho0 (.lst [])
 refine ⟨(by show 0≤sizeLine;decide),fun fo hfo=>?_⟩
 have S2:=S1.new hfo (.lst [])
 have nd:fo ≠ d:=(qA5 S1.dict hfo).symm
 have nc:fo ≠ c:=(qA5 S1.list hfo).symm
 have no0:o0 ≠ fo:=qA5 qA1 hfo
 have hF:H fo=none:=(qA2 ho0 _).free hfo
 refine ⟨_,rfl,_,_,rfl,rfl,m - 1,rfl,by omega,by omega,qKC (lo:=0) (n:=(m - 1).toNat) (fun i σ Hc=>∃ (t':Int) (ms os:List Int) (o:Addr) (rs:List Addr) (net:List (List Int)) (v1 v2:Option V),σ=[some (.ref d),some (.int m),some (.ref o),some (.ref fo),v1,v2]∧StAt Hc d c t' ms∧t≤t'∧t'≤t+i∧Keep d c H Hc∧
  Hc o=some (.lst (os.map V.int))∧(o ≠ fo∧o ≠ c)∧Hc fo=some (.lst (rs.map V.ref))∧NetL Hc rs net∧net.length=i∧WFn net∧Rise (i:Int) os∧Opens net os)
  ⟨t,ns,[],o0,[],[],none,none,rfl,S2,by omega,by omega,(qE8 ho0 _).trans (qE8 hfo _),by rw [qA7 no0];exact qA1,⟨no0,(qA5 S.list ho0).symm⟩,qA1,.nil,rfl,WFn.nil,Rise.nil,Opens.nil⟩ ?_ ?_⟩
 ·refine fun i σ Hc hi hI_1=>opq fun G_1 hG_1=>?_
  obtain ⟨t',ms,os,o,rs,net,v1,v2,rfl,S3,a1,a2,K3,h3,⟨n3,n3c⟩,f3,N3,l3,w3,r3,op3⟩:=hI_1
  refine hG_1 ?_
  have hlo:os.length≤i:=r3.len
  refine ⟨_,rfl,o,_,rfl,.inl (SqL.of h3),(by show 6≤sizeLine;decide),fun p hp=>?_⟩
  have S4:=S3.new hp (.lst [.int 0,.int 0,.int 1,.int 2,.int 2,.int 3])
  have npd:p ≠ d:=(qA5 S3.dict hp).symm
  have npc:p ≠ c:=(qA5 S3.list hp).symm
  refine ⟨_,rfl,d,c,t',ms,6,rfl,S4,(by show t'≤1000000000;omega),by decide,by decide,fun k2 ms2 H2 g0 g6 S5 K5=>?_⟩
  obtain ⟨v,hv,v0,v3⟩:=qbH g0 g6
  refine ⟨p,_,_,_,rfl,rfl,SqL.of (K5 _ _ qA1 npd npc),hv,?_⟩
  have sm:Same Hc (upd Hc p (.lst [.int 0,.int 0,.int 1,.int 2,.int 2,.int 3])):=qA2 hp _
  have K6:=(Keep.of_same (d:=d) (c:=c) sm).trans K5
  have nod:o ≠ d:=qC9 h3 S3.dict (by intro z;cases z)
  have h6:H2 o=some (.lst (os.map V.int)):=K6 _ _ h3 nod n3c
  have f6:H2 fo=some (.lst (rs.map V.ref)):=K6 _ _ f3 nd nc
  have N6:NetL H2 rs net:=N3.keep (fun r zs e=>S3.tup e) K6
  refine ⟨_,_,rfl,?_⟩
  dsimp only
  have so0:0≤(if v<(((os.map V.int).length:Nat):Int) then v else (((os.map V.int).length:Nat):Int)):=by split <;> omega
  have so1:(if v<(((os.map V.int).length:Nat):Int) then v else (((os.map V.int).length:Nat):Int))≤(os.length:Int):=by rw [List.length_map];split <;> omega
  generalize (if v<(((os.map V.int).length:Nat):Int) then v else (((os.map V.int).length:Nat):Int))=so at so0 so1
  obtain ⟨kk,ek⟩:∃ kk:Nat,(os.length:Int) - so=(kk:Int):=⟨((os.length:Int) - so).toNat,by omega⟩
  have ek':(((os.map V.int).length:Nat):Int) - so=(kk:Int):=by rw [List.length_map];exact ek
  have hkk:kk≤os.length:=by omega
  -- found.append(tuple(open_ones[len(open_ones) - so_many:]))
  refine ⟨_,rfl,.inl ⟨rfl,_,SqL.of f6⟩,_,rfl,_,rfl,o,_,rfl,.inl (SqL.of h6),_,rfl,_,_,rfl,rfl,_,rfl,o,_,rfl,SqL.of h6,fun p1 hp1=>?_⟩
  refine ⟨p1,_,rfl,.inl ⟨SqL.of qA1,fun r hr1=>?_⟩⟩
  rw [ek',qHX,qV7 _ _ hkk] at hr1 ⊢
  have sm1:=(qA2 hp1 (.lst ((os.drop kk).map V.int))).trans (qA2 hr1 (.tup ((os.drop kk).map V.int)))
  have f7:=sm1 _ _ f6
  have h7:=sm1 _ _ h6
  have N7:NetL _ (rs++[r]) (net++[os.drop kk]):=qHK (N6.same fun r zs e=>sm1 _ _ e) (show (upd (upd H2 p1 (.lst ((os.drop kk).map V.int))) r (.tup ((os.drop kk).map V.int))) r=some (.tup ((os.drop kk).map V.int)) from qA1)
  have S7:=S5.same sm1
  have K7:=K6.trans (.of_same sm1)
  generalize (upd (upd H2 p1 (.lst ((os.drop kk).map V.int))) r (.tup ((os.drop kk).map V.int)))=H7 at f7 h7 N7 S7 K7 ⊢
  refine ⟨fo,_,_,rfl,rfl,f7,qAX (by rw [List.length_map,NetAt.len N3];omega),?_⟩
  have e8:rs.map V.ref++[V.ref r]=(rs++[r]).map V.ref:=by rw [List.map_append];rfl
  rw [e8]
  have S8:StAt (upd H7 fo (.lst ((rs++[r]).map V.ref))) d c (t'+1) ms2:=⟨by rw [qA7 (Ne.symm nd)];exact S7.dict,by rw [qA7 (Ne.symm nc)];exact S7.list,S7.ne,S7.len,S7.pos⟩
  have h8:(upd H7 fo (.lst ((rs++[r]).map V.ref))) o=some (.lst (os.map V.int)):=by rw [qA7 n3];exact h7
  have N8:NetL (upd H7 fo (.lst ((rs++[r]).map V.ref))) (rs++[r]) (net++[os.drop kk]):=N7.same fun r' zs e=>by rw [qA7 (qC9 e f7 (by intro z;cases z))];exact e
  have K8:Keep d c H (upd H7 fo (.lst ((rs++[r]).map V.ref))):=fun b u e n1 n2=>by rw [qA7 (qA5 e hF)];exact (K3.trans K7) b u e n1 n2
  have f8:(upd H7 fo (.lst ((rs++[r]).map V.ref))) fo=some (.lst ((rs++[r]).map V.ref)):=qA1
  generalize upd H7 fo (.lst ((rs++[r]).map V.ref))=H8 at S8 h8 N8 K8 f8 ⊢
  -- open_ones=open_ones[:len(open_ones) - so_many]+[k]
  refine ⟨_,rfl,_,rfl,o,_,rfl,.inl (SqL.of h8),_,rfl,_,_,rfl,rfl,_,rfl,o,_,rfl,SqL.of h8,fun p2 hp2=>?_⟩
  rw [ek',qHX,qV6]
  refine ⟨_,rfl,(by show 1≤sizeLine;decide),fun p3 hp3=>?_⟩
  have n23:p2 ≠ p3:=qA5 qA1 hp3
  refine ⟨p2,p3,_,_,rfl,rfl,by rw [qA7 n23];exact qA1,qA1,Nat.le_of_lt (qAX (by rw [List.length_map,List.length_take,List.length_singleton];omega)),fun p4 hp4=>?_⟩
  have sm2:=((qA2 hp2 (.lst ((os.take kk).map V.int))).trans (qA2 hp3 (.lst [.int (0+(i:Int))]))).trans (qA2 hp4 (.lst ((os.take kk).map V.int++[.int (0+(i:Int))])))
  have e9:(os.take kk).map V.int++[V.int (0+(i:Int))]=(os.take kk++[(i:Int)]).map V.int:=by rw [List.map_append,Int.zero_add];rfl
  have nf4:p4 ≠ fo:=(qA5 ((qA2 hp3 _) _ _ ((qA2 hp2 _) _ _ f8)) hp4).symm
  have nc4:p4 ≠ c:=(qA5 ((qA2 hp3 _) _ _ ((qA2 hp2 _) _ _ S8.list)) hp4).symm
  refine ⟨t'+1,ms2,os.take kk++[(i:Int)],p4,rs++[r],net++[os.drop kk],_,_,rfl,S8.same sm2,by omega,by omega,K8.trans (.of_same sm2),by rw [← e9];exact qA1,⟨nf4,nc4⟩,sm2 _ _ f8,N8.same fun r' zs e=>sm2 _ _ e,by rw [List.length_append,List.length_singleton,l3],w3.snoc ?_,?_,?_⟩
  ·rw [l3];exact r3.sub (List.drop_sublist _ _)
  ·have:=(r3.sub (List.take_sublist kk os)).snoc (by omega)
   rw [show ((i+1:Nat):Int)=(i:Int)+1 by omega]
   exact this
  ·have:=op3.step (kk:=kk) w3 (by rw [l3];exact r3)
   rw [l3] at this
   exact this
 ·refine fun σ Hc hI_2=>opq fun G_2 hG_2=>?_
  obtain ⟨t',ms,os,o,rs,net,v1,v2,rfl,S3,a1,a2,K3,h3,⟨n3,n3c⟩,f3,N3,l3,w3,r3,op3⟩:=hI_2
  refine hG_2 ?_
  refine ⟨_,rfl,_,rfl,o,_,rfl,.inl ⟨SqL.of h3,fun r hr1=>?_⟩⟩
  refine ⟨(by show 1≤sizeLine;decide),fun p hp=>?_⟩
  have sm1:=(qA2 hr1 (.tup (os.map V.int))).trans (qA2 hp (.lst [.ref r]))
  refine ⟨fo,p,_,_,rfl,rfl,sm1 _ _ f3,qA1,Nat.le_of_lt (qAX (by rw [List.length_map,NetAt.len N3,List.length_singleton];omega)),fun p2 hp2=>?_⟩
  refine ⟨p2,_,rfl,.inl ⟨SqL.of qA1,fun a ha=>?_⟩⟩
  have sm2:=(sm1.trans (qA2 hp2 (.lst (rs.map V.ref++[.ref r])))).trans (qA2 ha (.tup (rs.map V.ref++[.ref r])))
  have gr:=(qA2 ha (.tup (rs.map V.ref++[.ref r]))) _ _ ((qA2 hp2 (.lst (rs.map V.ref++[.ref r]))) _ _ ((qA2 hp (.lst [.ref r])) r _ (qA1 (H:=Hc) (o:=.tup (os.map V.int)))))
  have e8:rs.map V.ref++[V.ref r]=(rs++[r]).map V.ref:=by rw [List.map_append];rfl
  refine q a (net++[os]) t' ms _ (S3.same sm2) (by omega) (by omega) (K3.trans (.of_same sm2)) ⟨rs++[r],by rw [← e8];exact qA1,qHK (N3.same fun r' zs e=>sm2 _ _ e) gr⟩ (w3.snoc (by rw [l3];exact r3)) ?_ ?_
  ·rw [List.length_append,List.length_singleton,l3]
   omega
  ·exact (op3.step (kk:=0) w3 (by rw [l3];exact r3)).1
end
section
variable {P:Program} {w:World} {K:PySem.W.Frag} {mg:Str→Option Value} {base:Heap} {f:Addr} {fd:FuncData}
theorem qVV:FnScope ["_law_found","_law_due"] ["_law_found","_law_due"] (qAB qJM):=⟨rfl,rfl,rfl,by decide +kernel,rfl,by decide +kernel,by decide +kernel⟩
def spS:Nat→Sp
 | 0=>fun _ _ _ _=>False
 | n+1=>qZQ n
theorem ok_Lsame_step {n:Nat} {qFV:Addr} {qHU:FuncData} (F:Fun K "_law_same" "_law_same" qJM f fd) (qZA:FnOk P w K mg base CX0 n qFV qHU ["_law_found","_law_due"] (spS n)) (qH1:Binds K qHU ["_law_found","_law_due"] []) (qMH:PySem.W.keepIn K (.ref qFV)=true) (qGT:mg "_law_same" = some (.ref qFV))
  (qAC:mg "isinstance" = none) (qCC:mg "list" = none) (qB6:mg "tuple" = none) (qLO:mg "str" = none) (qJC:mg "int" = none) (qIH:mg "bool" = none) (qBN:mg "len" = none) (qET:mg "all" = none) (qN2:mg "zip" = none):FnOk P w K mg base CX0 (n+1) f fd ["_law_found","_law_due"] (spS (n+1)):=by
 refine F.ok qVV (fun vs H Q E h=>?_) (fun cdv A outer s H vs Q E hr h=>?_)
 ·obtain ⟨x,y,rfl,_⟩:=h
  rfl
 obtain ⟨x,y,rfl,hal,q⟩:=h
 have qWM:Room n _:=hr
 refine ⟨_,(qA4 (qCU (qXB (qXH (pv 1))) (qA6 (qAL (qa2 (qXH (pv 0))))) qAT) (qA4 (qCU (PW.pt (qPI (qCS (qA8 qBC rfl qAC qAS (qA0 (pv 1) (qA0 (qDW (v:=.ty "list") rfl qCC qH0 rfl) qA3)))) (qJO (qCS (qA8 qBC rfl qAC qAS (qA0 (pv 1) (qA0 (qDW (v:=.ty "tuple") rfl qB6 qD7 rfl) qA3))))))) (qA4 (qCU (qB3 qS9 (qA8 qBC rfl qAC qAS (qA0 (pv 0) (qA0 (qDW (v:=.ty "list") rfl qCC qH0 rfl) qA3))) (qA8 qBC rfl qAC qAS (qA0 (pv 1) (qA0 (qDW (v:=.ty "list") rfl qCC qH0 rfl) qA3))) (qB9 _)) (qA6 (qAL qDJ)) qAT) (qA4 (qCU (PW.pt (qPI (qB3 qS9 (qA8 qBC rfl qAC qAS (qA0 (pv 0) (qA0 (qDW (v:=.ty "tuple") rfl qB6 qD7 rfl) qA3))) (qA8 qBC rfl qAC qAS (qA0 (pv 1) (qA0 (qDW (v:=.ty "tuple") rfl qB6 qD7 rfl) qA3))) (qB9 _)) (qJO (qB3 qS9 (qA8 qAJ rfl qBN qDH (qA0 (pv 0) qA3)) (qA8 qAJ rfl qBN qDH (qA0 (pv 1) qA3)) (qB9 _))))) (qA6 (qAL qDJ)) qAT) (qA6 (qAL (qA8 (qHZ rfl) rfl qET qOY (qA0 (qIR rfl (lcs (own:=["_law_one","_law_other"]) (fv:=[]) (by kernel_rfl)) (qZZ rfl qN2 qaX (qA0 (pv 0) (qA0 (pv 1) qA3))) (fun z1=>qPL (K:=K) (n:=2) rfl rfl (qBP (qAA (i:=0) (qEL (by kernel_rfl)) rfl (Or.inl rfl)) (qBP (qAA (i:=1) (qEL (by kernel_rfl)) rfl (Or.inl rfl)) qFJ)) rfl rfl) (fun z1=>qCT) (fun z1=>(qTT qZA qWM rfl qGT qMH qH1 .nil qa4 (qA0 (pv 0) (qA0 (pv 1) qA3))))) qA3)))))) qAT) (qA4 (qCU (qCS (qA8 qBC rfl qAC qAS (qA0 (pv 1) (qA0 (qDW (v:=.ty "str") rfl qLO qXU rfl) qA3)))) (qA6 (qAL (qNO (qA8 qBC rfl qAC qAS (qA0 (pv 0) (qA0 (qDW (v:=.ty "str") rfl qLO qXU rfl) qA3))) (qR4 (qEK qIS (pv 0) (pv 1) (qB9 _)))))) qAT) (qA6 (qAL (qNO (qA8 qBC rfl qAC qAS (qA0 (pv 0) (qA0 (qDW (v:=.ty "int") rfl qJC qXV rfl) qA3))) (qNO (qa1 (qA8 qBC rfl qAC qAS (qA0 (pv 0) (qA0 (qDW (v:=.ty "bool") rfl qIH qZ4 rfl) qA3)))) (qR4 (qEK qIS (pv 0) (pv 1) (qB9 _)))))))))),?_⟩
 try dsimp only [Cx.nox,Cx.wish,cxOf]
 have leaf:x=y∧Leaf x∨∃ (m:Nat) (b:Bool) (a c:Addr) (xs ys:List V),n=m+1∧x=.ref a∧y=.ref c∧H a=some (seqO b xs)∧H c=some (seqO b ys)∧xs.length=ys.length∧xs.length≤100000∧∀ (i:Nat) (x' y':V),xs[i]?=some x'→ys[i]?=some y'→Alike H m x' y':=by
  cases n with
  | zero=>exact .inl hal
  | succ m=>
   rcases hal with h | ⟨b,a,c,xs,ys,h⟩
   ·exact .inl h
   ·exact .inr ⟨m,b,a,c,xs,ys,rfl,h⟩
 rcases leaf with ⟨rfl,hl⟩ | ⟨m,b,a,c,xs,ys,rfl,rfl,rfl,ha,hc,hlen,hbd,hel⟩
 ·refine ⟨_,rfl,_,rfl,?_⟩
  rcases hl with rfl | ⟨i,rfl⟩ | ⟨y,rfl⟩
  ·exact ⟨_,rfl,q H (Same.refl H)⟩
  ·refine ⟨_,rfl,_,"list",_,false,rfl,TyOf.int i,qaK,_,rfl,?_⟩
   refine ⟨_,rfl,_,"tuple",_,false,rfl,TyOf.int i,qaI,_,rfl,?_⟩
   refine ⟨_,rfl,_,"str",_,false,rfl,TyOf.int i,qaJ,_,rfl,?_⟩
   refine ⟨_,rfl,_,"int",_,true,rfl,TyOf.int i,qaL,_,rfl,?_⟩
   refine ⟨_,rfl,_,"bool",_,false,rfl,TyOf.int i,qaM,_,rfl,_,rfl,?_⟩
   refine ⟨_,rfl,_,rfl,rfl,?_⟩
   have e:decide (V.int i=V.int i)=true:=decide_eq_true rfl
   have q':Q (.bl (decide (V.int i=V.int i))) H:=by rw [e];exact q H (Same.refl H)
   exact q'
  ·refine ⟨_,rfl,_,"list",_,false,rfl,TyOf.str y,qaH,_,rfl,?_⟩
   refine ⟨_,rfl,_,"tuple",_,false,rfl,TyOf.str y,qaG,_,rfl,?_⟩
   refine ⟨_,rfl,_,"str",_,true,rfl,TyOf.str y,qXM,_,rfl,?_⟩
   refine ⟨_,rfl,_,"str",_,true,rfl,TyOf.str y,qXM,_,rfl,?_⟩
   refine ⟨_,rfl,_,rfl,rfl,?_⟩
   have e:decide (V.str y=V.str y)=true:=decide_eq_true rfl
   have q':Q (.bl (decide (V.str y=V.str y))) H:=by rw [e];exact q H (Same.refl H)
   exact q'
 ·have step:∀ (i:Nat) (x' y':V) (Hi:Hp) (Q':VK) (E':XK),Same H Hi→xs[i]?=some x'→ys[i]?=some y'→(∀ H',Same Hi H'→Q' (.bl true) H')→spS (m+1) [x',y'] Hi Q' E':=fun i x' y' Hi Q' E' s e1 e2 k=>⟨x',y',rfl,(hel i x' y' e1 e2).same s,k⟩
  have fin:∀ (H1:Hp),Same H H1→Q (.bl true) H1:=q
  have el:(!decide (V.int ((xs.length:Nat):Int)=V.int ((ys.length:Nat):Int)))=false:=by rw [hlen];simp
  cases b
  ·refine ⟨_,rfl,_,rfl,_,rfl,_,"list",_,true,rfl,qJE hc,qLF false,_,rfl,?_⟩
   refine ⟨_,rfl,_,"list",_,true,rfl,qJE ha,qLF false,_,rfl,_,"list",_,true,rfl,qJE hc,qLF false,rfl,_,rfl,?_⟩
   refine ⟨_,rfl,_,"tuple",_,false,rfl,qJE ha,qO8 false,_,rfl,_,"tuple",_,false,rfl,qJE hc,qO8 false,rfl,_,rfl,?_⟩
   refine ⟨_,rfl,a,_,rfl,.inl (SqL.of ha),_,rfl,c,_,rfl,.inl (SqL.of hc),rfl,?_⟩
   rw [el]
   refine ⟨_,rfl,_,rfl,_,rfl,false,a,c,rfl,⟨_,SqB.of ha⟩,⟨_,SqB.of hc⟩,fun p hp=>?_⟩
   refine qXK (b:=false) (p:=p) (xs:=xs) (ys:=ys) hlen (fun i σ Hi=>∃ (v0 v1:Option V),σ=[v0,v1]∧Same H Hi∧Hi p=some (.lst ((List.replicate i true).map V.bl))) ⟨none,none,rfl,qA2 hp _,qA1⟩ (fun i σ Hi _ ⟨_,_,_,sm,_⟩=>⟨SqB.of (sm _ _ ha),SqB.of (sm _ _ hc)⟩) ?_ ?_
   ·refine fun i x' y' σ Hi T ex ey hI_1 hT=>opq fun G_1 hG_1=>?_
    obtain ⟨v0,v1,rfl,sm,hpi⟩:=hI_1
    refine hG_1 ?_
    have li:i<xs.length:=(List.getElem?_eq_some_iff.mp ex).1
    refine ⟨T,_,rfl,SqT.of qA1,rfl,_,_,rfl,_,_,rfl,rfl,?_⟩
    have s1:=sm.trans (qA2 hT (.tup [x',y']))
    refine ⟨_,rfl,_,rfl,?_⟩
    dsimp only [tNil,List.cons_append,List.nil_append]
    refine step i x' y' _ _ _ s1 ex ey fun H' sm'=>?_
    refine ⟨_,(sm' _ _ ((qA2 hT _) _ _ hpi)),?_,_,_,rfl,(fun b u e=>by rw [qA7 (qA5 e hp)];exact (s1.trans sm') b u e),?_⟩
    ·rw [List.length_map,List.length_replicate,sizeLine_eq];omega
    ·rw [qA1,qVF]
   ·refine fun σ Hi hI_2=>opq fun G_2 hG_2=>?_
    obtain ⟨v0,v1,rfl,sm,hpi⟩:=hI_2
    refine hG_2 ?_
    refine ⟨p,_,rfl,SqL.of hpi,?_⟩
    rw [qVL]
    exact q Hi sm
  ·refine ⟨_,rfl,_,rfl,_,rfl,_,"list",_,false,rfl,qJE hc,qLF true,_,rfl,?_⟩
   refine ⟨_,rfl,_,"tuple",_,true,rfl,qJE hc,qO8 true,_,rfl,?_⟩
   refine ⟨_,rfl,_,"list",_,false,rfl,qJE ha,qLF true,_,rfl,_,"list",_,false,rfl,qJE hc,qLF true,rfl,_,rfl,?_⟩
   refine ⟨_,rfl,_,"tuple",_,true,rfl,qJE ha,qO8 true,_,rfl,_,"tuple",_,true,rfl,qJE hc,qO8 true,rfl,_,rfl,?_⟩
   refine ⟨_,rfl,a,_,rfl,.inr (SqT.of ha),_,rfl,c,_,rfl,.inr (SqT.of hc),rfl,?_⟩
   rw [el]
   refine ⟨_,rfl,_,rfl,_,rfl,true,a,c,rfl,⟨_,SqB.of ha⟩,⟨_,SqB.of hc⟩,fun p hp=>?_⟩
   refine qXK (b:=true) (p:=p) (xs:=xs) (ys:=ys) hlen (fun i σ Hi=>∃ (v0 v1:Option V),σ=[v0,v1]∧Same H Hi∧Hi p=some (.lst ((List.replicate i true).map V.bl))) ⟨none,none,rfl,qA2 hp _,qA1⟩ (fun i σ Hi _ ⟨_,_,_,sm,_⟩=>⟨SqB.of (sm _ _ ha),SqB.of (sm _ _ hc)⟩) ?_ ?_
   ·refine fun i x' y' σ Hi T ex ey hI_3 hT=>opq fun G_3 hG_3=>?_
    obtain ⟨v0,v1,rfl,sm,hpi⟩:=hI_3
    refine hG_3 ?_
    have li:i<xs.length:=(List.getElem?_eq_some_iff.mp ex).1
    refine ⟨T,_,rfl,SqT.of qA1,rfl,_,_,rfl,_,_,rfl,rfl,?_⟩
    have s1:=sm.trans (qA2 hT (.tup [x',y']))
    refine ⟨_,rfl,_,rfl,?_⟩
    dsimp only [tNil,List.cons_append,List.nil_append]
    refine step i x' y' _ _ _ s1 ex ey fun H' sm'=>?_
    refine ⟨_,(sm' _ _ ((qA2 hT _) _ _ hpi)),?_,_,_,rfl,(fun b u e=>by rw [qA7 (qA5 e hp)];exact (s1.trans sm') b u e),?_⟩
    ·rw [List.length_map,List.length_replicate,sizeLine_eq];omega
    ·rw [qA1,qVF]
   ·refine fun σ Hi hI_4=>opq fun G_4 hG_4=>?_
    obtain ⟨v0,v1,rfl,sm,hpi⟩:=hI_4
    refine hG_4 ?_
    refine ⟨p,_,rfl,SqL.of hpi,?_⟩
    rw [qVL]
    exact q Hi sm
theorem ok_Lsame (F:Fun K "_law_same" "_law_same" qJM f fd) (qH1:Binds K fd ["_law_found","_law_due"] []) (qMH:PySem.W.keepIn K (.ref f)=true) (qGT:mg "_law_same" = some (.ref f))
  (qAC:mg "isinstance" = none) (qCC:mg "list" = none) (qB6:mg "tuple" = none) (qLO:mg "str" = none) (qJC:mg "int" = none) (qIH:mg "bool" = none) (qBN:mg "len" = none) (qET:mg "all" = none) (qN2:mg "zip" = none) (n:Nat):FnOk P w K mg base CX0 n f fd ["_law_found","_law_due"] (spS n):=by
 induction n with
 | zero=>exact ⟨fun _ _ _ _ h=>h.elim,fun _ _ _ _ _ _ _ _ _ _ _ _ _ h=>h.elim⟩
 | succ n ih=>exact ok_Lsame_step F ih qH1 qMH qGT qAC qCC qB6 qLO qJC qIH qBN qET qN2
end
section
variable {P:Program} {w:World} {K:PySem.W.Frag} {mg:Str→Option Value} {base:Heap} {f:Addr} {fd:FuncData} {f_renumbered:Addr} {fd_renumbered:FuncData}
theorem sc_all_needed:FnScope ["net","asked","wanted","work","need"] ["net","asked"] (qAB qE6):=⟨rfl,rfl,rfl,by decide +kernel,rfl,by decide +kernel,by decide +kernel⟩
theorem ok_all_needed (F:Fun K "all_needed" "all_needed" qE6 f fd) (qBE:mg "range" = none) (qBN:mg "len" = none) (qAV:mg "sorted" = none):FnOk P w K mg base CX0 1 f fd ["net","asked"] qTD:=by
 refine F.ok sc_all_needed (fun vs H Q E h=>?_) (fun cdv A outer s H vs Q E hr h=>?_)
 ·obtain ⟨a,t,net,asked,rfl,_⟩:=h
  rfl
 obtain ⟨a,t,net,asked,rfl,hN,wf,n1000,hT,inA,q⟩:=h
 have hu:=qKA hr
 refine ⟨_,(qA4 (qAE (i:=2) sc_all_needed.nd rfl (Or.inl rfl) qGD) (qA4 (qBM PassesOwn.never rfl (qE7 (pv 1)) (qAA (i:=3) sc_all_needed.nd rfl (Or.inl rfl)) (qA6 (qFH hu (pv 2) (pv 3) qDJ rfl))) (qA4 (qBM PassesOwn.never rfl (qTS rfl qBE (qA0 (qAU qFK (qA8 qAJ rfl qBN qDH (qA0 (pv 0) qA3)) qA9) (qA0 (qNN qII qA9) (qA0 (qNN qII qA9) qA3)))) (qAA (i:=3) sc_all_needed.nd rfl (Or.inl rfl)) (qA6 (qCU (qXB (qa3 hu (pv 3) (pv 2))) (qA6 (qBM PassesOwn.never rfl (qE7 (qB2 qBB (pv 0) (pv 3) (fun _ _=>rfl))) (qAA (i:=4) sc_all_needed.nd rfl (Or.inl rfl)) (qA6 (qFH hu (pv 2) (pv 4) qDJ rfl)))) qAT))) (qA6 (qAL (qA8 (qFZ rfl) rfl qAV qEX (qA0 (pv 2) qA3))))))),?_⟩
 try dsimp only [Cx.nox,Cx.wish,cxOf]
 obtain ⟨rs,hA,NL⟩:=id hN
 have lrv:(((rs.map V.ref).length:Nat):Int)=(net.length:Int):=by rw [List.length_map,Paired.length NL]
 refine fun dn hdn=>?_
 have sn:=qA2 hdn (.dK [])
 refine ⟨_,rfl,t,rfl,⟨_,SqT.of (sn _ _ hT)⟩,qF4 (a:=t) (xs:=asked.map V.int) (fun j σ Hf=>∃ (kvs:List (Key × V)) (ks:List Int) (v3 v4:Option V),σ=[some (.ref a),some (.ref t),some (.ref dn),v3,v4]∧Same H Hf∧Hf dn=some (.dK kvs)∧KeysI kvs ks∧∀ x,x ∈ ks ↔ x ∈ asked.take j)
  ⟨[],[],none,none,rfl,sn,qA1,KeysI.nil,fun x=>by simp⟩ (fun j σ Hf _ ⟨_,_,_,_,_,sm,_⟩=>SqT.of (sm _ _ hT)) ?_ ?_⟩
 ·refine fun j x σ Hf hx hI_1=>opq fun G_1 hG_1=>?_
  obtain ⟨kvs,ks,v3,v4,rfl,sm,hd,hk,mk⟩:=hI_1
  obtain ⟨y,ey,rfl⟩:=qAM hx
  refine hG_1 ?_
  have lk:ks.length≤net.length:=qNW hk.nd fun x hx=>inA x (List.mem_of_mem_take ((mk x).mp hx))
  refine ⟨_,rfl,_,rfl,dn,_,rfl,DPut.k (k:=Sum.inl y) hd (qC0 (by rw [hk.len];omega)),?_⟩
  refine ⟨_,_,_,_,rfl,qAG sm hdn,qA1,hk.put y _,fun x=>?_⟩
  rw [mem_addI,mk,List.take_add_one,ey,Option.toList_some,List.mem_append,List.mem_singleton]
 refine fun σ Hf hI_2=>opq fun G_2 hG_2=>?_
 obtain ⟨kvs,ks,v3,v4,rfl,sm,hd,hk,mk⟩:=hI_2
 refine hG_2 ?_
 rw [List.length_map,qAO rfl] at mk
 refine ⟨_,rfl,a,_,rfl,.inr (SqT.of (sm _ _ hA)),_,_,rfl,rfl,_,rfl,_,rfl,_,_,rfl,⟨by rw [lrv];omega,by rw [lrv];omega,by decide,by decide⟩,qRM (lo:=(((rs.map V.ref).length:Nat):Int) - 1) (n:=((((rs.map V.ref).length:Nat):Int) - 1 - -1).toNat) (fun i σ Hc=>∃ (kvs:List (Key × V)) (ks:List Int) (v3 v4:Option V),σ=[some (.ref a),some (.ref t),some (.ref dn),v3,v4]∧Same H Hc∧Hc dn=some (.dK kvs)∧KeysI kvs ks∧Fnd net asked ks ((net.length:Int) - i))
  ⟨kvs,ks,v3,v4,rfl,sm,hd,hk,⟨fun x hx=>⟨inA x ((mk x).mp hx),.ask ((mk x).mp hx)⟩,fun x hx=>(mk x).mpr hx,fun w zs h1 h2 h3=>?_⟩⟩ ?_ ?_⟩
 ·have:=(List.getElem?_eq_some_iff.mp h3).1
  omega
 ·refine fun i σ Hc hi hI_3=>opq fun G_3 hG_3=>?_
  obtain ⟨kvs,ks,v3,v4,rfl,sm,hd,hk,fn⟩:=hI_3
  refine hG_3 ?_
  rw [lrv] at hi ⊢
  have hi':i<net.length:=by omega
  obtain ⟨w0,ew⟩:∃ w0:Nat,(net.length:Int) - 1 - i=(w0:Int):=⟨net.length - 1 - i,by omega⟩
  have hw:w0<net.length:=by omega
  rw [ew]
  obtain ⟨r,h3,h4⟩:=NL.get (List.getElem?_eq_getElem hw)
  have hz:=List.getElem?_eq_getElem hw
  have rz:=wf w0 _ hz
  generalize net[w0]=zs at h4 hz rz
  refine ⟨_,rfl,_,rfl,dn,_,rfl,DGet.k (k:=Sum.inl (w0:Int)) hd,_,rfl,?_⟩
  rw [hk.has]
  by_cases mw:(w0:Int) ∈ ks
  ·rw [decide_eq_true mw]
   refine ⟨_,rfl,_,rfl,a,_,_,_,rfl,rfl,SqT.of (sm _ _ hA),qC2 (by omega) (by rw [Int.toNat_natCast,List.getElem?_map,h3];rfl),r,rfl,⟨_,SqT.of (sm _ _ h4)⟩,qF4 (a:=r) (xs:=zs.map V.int) (fun k σ Hd=>∃ (kvs:List (Key × V)) (ks:List Int) (v4:Option V),σ=[some (.ref a),some (.ref t),some (.ref dn),some (.int (w0:Int)),v4]∧Same H Hd∧Hd dn=some (.dK kvs)∧KeysI kvs ks∧Fnd net asked ks ((w0:Int)+1)∧(w0:Int) ∈ ks∧∀ y ∈ zs.take k,y ∈ ks)
    ⟨kvs,ks,v4,rfl,sm,hd,hk,by rw [show (w0:Int)+1=(net.length:Int) - i by omega];exact fn,mw,fun y hy=>by simp at hy⟩ (fun k σ Hd _ ⟨_,_,_,_,sm',_⟩=>SqT.of (sm' _ _ h4)) ?_ ?_⟩
   ·refine fun k x σ Hd hx hI_4=>opq fun G_4 hG_4=>?_
    obtain ⟨kvs,ks,v4,rfl,sm',hd',hk',fn',mw',ty⟩:=hI_4
    obtain ⟨y,ey,rfl⟩:=qAM hx
    refine hG_4 ?_
    have my:=List.mem_of_getElem? ey
    have yb:=rz.in_ y my
    have lk:ks.length≤net.length:=qNW hk'.nd fun x hx=>(fn'.in_ x hx).1
    refine ⟨_,rfl,_,rfl,dn,_,rfl,DPut.k (k:=Sum.inl y) hd' (qC0 (by rw [hk'.len];omega)),?_⟩
    refine ⟨_,_,_,rfl,qAG sm' hdn,qA1,hk'.put y _,⟨fun x hx=>?_,fun x hx=>mem_addI.mpr (.inl (fn'.ask x hx)),fun w1 ys h1 h2 h3 z hz'=>?_⟩,mem_addI.mpr (.inl mw'),fun z hz'=>?_⟩
    ·rcases mem_addI.mp hx with hx | hx
     ·exact fn'.in_ x hx
     ·rw [hx]
      exact ⟨⟨yb.1,by omega⟩,.need (fn'.in_ _ mw').2 (by rw [Int.toNat_natCast];exact hz) my⟩
    ·rcases mem_addI.mp h2 with h2 | h2
     ·exact mem_addI.mpr (.inl (fn'.clo w1 ys h1 h2 h3 z hz'))
     ·omega
    ·rw [List.take_add_one,ey,Option.toList_some,List.mem_append,List.mem_singleton] at hz'
     rcases hz' with hz' | hz'
     ·exact mem_addI.mpr (.inl (ty z hz'))
     ·exact mem_addI.mpr (.inr hz')
   ·refine fun σ Hd hI_5=>opq fun G_5 hG_5=>?_
    obtain ⟨kvs,ks,v4,rfl,sm',hd',hk',fn',mw',ty⟩:=hI_5
    refine hG_5 ?_
    rw [List.length_map,qAO rfl] at ty
    refine ⟨kvs,ks,_,_,rfl,sm',hd',hk',fn'.in_,fn'.ask,fun w1 ys h1 h2 h9=>?_⟩
    by_cases e:w1=w0
    ·subst e
     rw [hz] at h9
     cases h9
     exact ty
    ·exact fn'.clo w1 ys (by omega) h2 h9
  ·rw [decide_eq_false mw]
   refine ⟨kvs,ks,_,_,rfl,sm,hd,hk,fn.in_,fn.ask,fun w1 ys h1 h2 h3=>?_⟩
   by_cases e:w1=w0
   ·subst e
    exact absurd h2 mw
   ·exact fn.clo w1 ys (by omega) h2 h3
 ·refine fun σ Hc hI_6=>opq fun G_6 hG_6=>?_
  obtain ⟨kvs,ks,v3,v4,rfl,sm,hd,hk,fn⟩:=hI_6
  refine hG_6 ?_
  rw [lrv,show ((net.length:Int) - (((net.length:Int) - 1 - -1).toNat:Nat))=0 by omega] at fn
  refine ⟨_,rfl,dn,ks,rfl,.inr (.inr ⟨kvs,hd,hk.keys⟩),Nat.lt_of_le_of_lt (qNW hk.nd fun x hx=>(fn.in_ x hx).1) (by omega),fun l zs hl hp hs=>?_⟩
  have s1:=qA2 hl (.lst (zs.map V.int))
  refine q l zs _ (sm.trans s1) (sm.free hl) qA1 ⟨⟨qFL hs (hp.nodup_iff.mpr hk.nd),fun x hx=>(fn.in_ x (hp.mem_iff.mp hx)).1⟩,fun x=>?_⟩
  rw [hp.mem_iff]
  exact fn.all wf x
end
section
variable {P:Program} {w:World} {K:PySem.W.Frag} {mg:Str→Option Value} {base:Heap} {f:Addr} {fd:FuncData}
structure Fnd2 (net:List (List Int)) (asked ks:List Int) (j:Int):Prop where
 in_:∀ x ∈ ks,(0≤x∧x<(net.length:Int))∧Nd net asked x
 ask:∀ x ∈ asked,j≤x→x ∈ ks
 clo:∀ (w:Nat) zs,j≤(w:Int)→(w:Int) ∈ ks→net[w]?=some zs→∀ y ∈ zs,y ∈ ks
theorem repF:∀ n:Nat,(List.replicate n [V.bl false]).flatten=(List.replicate n false).map V.bl
 | 0=>rfl
 | n+1=>by rw [List.replicate_succ,List.replicate_succ,List.flatten_cons,repF n];rfl
structure Bls (n:Nat) (ks:List Int) (bs:List Bool):Prop where
 len:bs.length=n
 at_:∀ x:Nat,x<n→bs[x]?=some (decide ((x:Int) ∈ ks))
theorem Bls.set {n:Nat} {ks:List Int} {bs:List Bool} (h:Bls n ks bs) {x:Int} (h0:0≤x) (h1:x<n):Bls n (addI ks x) (bs.set x.toNat true):=by
 refine ⟨by rw [List.length_set];exact h.len,fun y hy=>?_⟩
 by_cases e:(y:Int)=x
 ·have e2:x.toNat=y:=by omega
  rw [e2,List.getElem?_set_self (by rw [h.len];exact hy),decide_eq_true (mem_addI.mpr (.inr e))]
 ·rw [List.getElem?_set_ne (by omega),h.at_ y hy]
  congr 1
  exact decide_eq_decide.mpr ⟨fun z=>mem_addI.mpr (.inl z),fun z=>(mem_addI.mp z).resolve_right e⟩
theorem qUT {bs:List Bool} {i:Nat} {b:Bool} (h:bs[i]?=some b):(bs.map V.bl)[i]?=some (.bl b):=by rw [List.getElem?_map,h];rfl
theorem sc_Lneeded:FnScope ["_law_net","_law_asked","_law_found","_law_work","_law_need"] ["_law_net","_law_asked"] (qAB qHC):=⟨rfl,rfl,rfl,by decide +kernel,rfl,by decide +kernel,by decide +kernel⟩
theorem ok_Lneeded (F:Fun K "_law_needed" "_law_needed" qHC f fd) (qBN:mg "len" = none) (qBE:mg "range" = none):FnOk P w K mg base CX0 1 f fd ["_law_net","_law_asked"] qIX:=by
 refine F.ok sc_Lneeded (fun vs H Q E h=>?_) (fun cdv A outer s H vs Q E hr h=>?_)
 ·obtain ⟨a,t,net,asked,rfl,_⟩:=h
  rfl
 obtain ⟨a,t,net,asked,rfl,hN,wf,n1000,⟨hT,rA⟩,q⟩:=h
 refine ⟨_,(qA4 (qAE (i:=2) sc_Lneeded.nd rfl (Or.inr rfl) (qAU qNR (qB8 (qA0 qDJ qA3)) (qA8 qAJ rfl qBN qDH (qA0 (pv 0) qA3)))) (qA4 (qBM PassesOwn.never rfl (qTS rfl qBE (qA0 (qAU qFK (qA8 qAJ rfl qBN qDH (qA0 (pv 0) qA3)) qA9) (qA0 (qNN qII qA9) (qA0 (qNN qII qA9) qA3)))) (qAA (i:=3) sc_Lneeded.nd rfl (Or.inl rfl)) (qA4 (qTM (qCU (qB3 qNT (pv 3) (pv 1) (by with_unfolding_all rfl)) (qA6 (qNJ qDJ (qR3 (pv 2) (pv 3) qH9))) qAT)) (qA6 (qCU (qCS (qB2 qF3 (pv 2) (pv 3) (fun _ _=>rfl))) (qA6 (qBM PassesOwn.never rfl (qE7 (qB2 qBB (pv 0) (pv 3) (fun _ _=>rfl))) (qAA (i:=4) sc_Lneeded.nd rfl (Or.inl rfl)) (qA6 (qNJ qDJ (qR3 (pv 2) (pv 4) qH9))))) qAT)))) (qA6 (qAL (qIR rfl (lcs (own:=["_law_work"]) (fv:=[2]) (by kernel_rfl)) (qFI rfl qBE (qA0 (qA8 qAJ rfl qBN qDH (qA0 (pv 0) qA3)) qA3)) (fun z1=>qAA (i:=0) (qEL (by kernel_rfl)) rfl (Or.inl rfl)) (fun z1=>(qJP (qCS (qB2 (qJ4 (K:=K) rfl) (pv 1) (pv 0) (fun _ _=>rfl))))) (fun z1=>(pv 0))))))),?_⟩
 try dsimp only [Cx.nox,Cx.wish,cxOf]
 obtain ⟨rs,hA,NL⟩:=id hN
 have lrv:(((rs.map V.ref).length:Nat):Int)=(net.length:Int):=by rw [List.length_map,Paired.length NL]
 refine ⟨(by show 1≤sizeLine;decide),fun p0 hp0=>?_⟩
 have s0:=qA2 hp0 (.lst [.bl false])
 refine ⟨_,rfl,a,_,rfl,.inr (SqT.of (s0 _ _ hA)),p0,_,_,rfl,rfl,qA1,by rw [lrv];omega,by rw [lrv];omega,?_,fun fo hfo=>?_⟩
 ·rw [lrv,sizeLine_eq];simp;omega
 have ffo:H fo=none:=s0.free hfo
 have s1:=s0.trans (qA2 hfo (.lst (List.replicate ((((rs.map V.ref).length:Nat):Int)).toNat [V.bl false]).flatten))
 have gfo:(upd (upd H p0 (.lst [.bl false])) fo (.lst (List.replicate ((((rs.map V.ref).length:Nat):Int)).toNat [V.bl false]).flatten)) fo=some (.lst ((List.replicate net.length false).map V.bl)):=by
  rw [qA1,repF,lrv,Int.toNat_natCast]
 generalize upd (upd H p0 (.lst [.bl false])) fo (.lst (List.replicate ((((rs.map V.ref).length:Nat):Int)).toNat [V.bl false]).flatten)=H1 at s1 gfo
 refine ⟨_,rfl,a,_,rfl,.inr (SqT.of (s1 _ _ hA)),_,_,rfl,rfl,_,rfl,_,rfl,_,_,rfl,⟨by rw [lrv];omega,by rw [lrv];omega,by decide,by decide⟩,qRM (lo:=(((rs.map V.ref).length:Nat):Int) - 1) (n:=((((rs.map V.ref).length:Nat):Int) - 1 - -1).toNat) (fun i σ Hc=>∃ (bs:List Bool) (ks:List Int) (v3 v4:Option V),σ=[some (.ref a),some (.ref t),some (.ref fo),v3,v4]∧Same H Hc∧Hc fo=some (.lst (bs.map V.bl))∧Bls net.length ks bs∧Fnd2 net asked ks ((net.length:Int) - i))
  ⟨_,[],none,none,rfl,s1,gfo,⟨by simp,fun x hx=>by simp [hx]⟩,⟨fun x hx=>(nomatch hx),fun x hx hl=>?_,fun w zs h1 h2=>(nomatch h2)⟩⟩ ?_ ?_⟩
 ·have:=(rA.in_ x hx).2
  omega
 ·refine fun i σ Hc hi hI_1=>opq fun G_1 hG_1=>?_
  obtain ⟨bs,ks,v3,v4,rfl,sm,hf,B,fn⟩:=hI_1
  refine hG_1 ?_
  rw [lrv] at hi ⊢
  obtain ⟨w0,ew⟩:∃ w0:Nat,(net.length:Int) - 1 - i=(w0:Int):=⟨net.length - 1 - i,by omega⟩
  have hw:w0<net.length:=by omega
  rw [ew]
  obtain ⟨r,h3,h4⟩:=NL.get (List.getElem?_eq_getElem hw)
  have hz:=List.getElem?_eq_getElem hw
  have rz:=wf w0 _ hz
  generalize net[w0]=zs at h4 hz rz
  have ix:∀ {bs:List Bool} {ks:List Int} {x:Int},Bls net.length ks bs→0≤x→x<(net.length:Int)→ixN (bs.map V.bl).length x=some x.toNat:=fun {bs ks x} B h0 h1=>by
   have:=qMJ (xs:=bs.map V.bl) (j:=x.toNat) (by rw [List.length_map,B.len];omega)
   rw [show ((x.toNat:Nat):Int)=x by omega] at this
   exact this
  -- asked
  refine ⟨fun σ Hc=>∃ (bs:List Bool) (ks:List Int),σ=[some (.ref a),some (.ref t),some (.ref fo),some (.int (w0:Int)),v4]∧Same H Hc∧Hc fo=some (.lst (bs.map V.bl))∧Bls net.length ks bs∧(∀ x ∈ ks,(0≤x∧x<(net.length:Int))∧Nd net asked x)∧(∀ x ∈ asked,(w0:Int)≤x→x ∈ ks)∧(∀ (w:Nat) zs,(w0:Int)+1≤(w:Int)→(w:Int) ∈ ks→net[w]?=some zs→∀ y ∈ zs,y ∈ ks),?_,?_⟩
  ·refine ⟨_,rfl,_,rfl,t,_,rfl,.inr (SqT.of (sm _ _ hT)),rfl,qKD asked,_,rfl,?_⟩
   rw [qQ1]
   by_cases c:(w0:Int) ∈ asked
   ·rw [decide_eq_true c]
    refine ⟨_,rfl,_,rfl,fo,_,_,w0,rfl,rfl,hf,?_,?_⟩
    ·have:=ix B (x:=(w0:Int)) (by omega) (by omega)
     rw [Int.toNat_natCast] at this
     exact this
    ·have st:=B.set (x:=(w0:Int)) (by omega) (by omega)
     rw [Int.toNat_natCast] at st
     refine ⟨_,addI ks (w0:Int),rfl,qAG sm ffo,by rw [qA1,List.map_set],st,fun x hx=>?_,fun x hx hl=>?_,fun w1 ys h1 h2 h9 y hy=>?_⟩
     ·rcases mem_addI.mp hx with hx | hx
      ·exact fn.in_ x hx
      ·rw [hx]
       exact ⟨⟨by omega,by omega⟩,.ask c⟩
     ·by_cases e:x=(w0:Int)
      ·exact mem_addI.mpr (.inr e)
      ·exact mem_addI.mpr (.inl (fn.ask x hx (by omega)))
     ·rcases mem_addI.mp h2 with h2 | h2
      ·exact mem_addI.mpr (.inl (fn.clo w1 ys (by omega) h2 h9 y hy))
      ·omega
   ·rw [decide_eq_false c]
    refine ⟨bs,ks,rfl,sm,hf,B,fn.in_,fun x hx hl=>?_,fun w1 ys h1 h2 h9=>fn.clo w1 ys (by omega) h2 h9⟩
    by_cases e:x=(w0:Int)
    ·rw [e] at hx
     exact absurd hx c
    ·exact fn.ask x hx (by omega)
  refine fun σ Hc hI_2=>opq fun G_2 hG_2=>?_
  obtain ⟨bs,ks,rfl,sm,hf,B,f1,f2,f3⟩:=hI_2
  refine hG_2 ?_
  refine ⟨_,rfl,_,rfl,fo,_,_,_,rfl,rfl,SqL.of hf,qC2 (by omega) (by rw [Int.toNat_natCast];exact qUT (B.at_ w0 hw)),_,rfl,?_⟩
  by_cases c:(w0:Int) ∈ ks
  ·rw [decide_eq_true c]
   refine ⟨_,rfl,_,rfl,a,_,_,_,rfl,rfl,SqT.of (sm _ _ hA),qC2 (by omega) (by rw [Int.toNat_natCast,List.getElem?_map,h3];rfl),r,rfl,⟨_,SqT.of (sm _ _ h4)⟩,qF4 (a:=r) (xs:=zs.map V.int) (fun k σ Hd=>∃ (bs:List Bool) (ks:List Int) (v4:Option V),σ=[some (.ref a),some (.ref t),some (.ref fo),some (.int (w0:Int)),v4]∧Same H Hd∧Hd fo=some (.lst (bs.map V.bl))∧Bls net.length ks bs∧(∀ x ∈ ks,(0≤x∧x<(net.length:Int))∧Nd net asked x)∧(∀ x ∈ asked,(w0:Int)≤x→x ∈ ks)∧(∀ (w:Nat) zs,(w0:Int)+1≤(w:Int)→(w:Int) ∈ ks→net[w]?=some zs→∀ y ∈ zs,y ∈ ks)∧(w0:Int) ∈ ks∧∀ y ∈ zs.take k,y ∈ ks)
    ⟨bs,ks,v4,rfl,sm,hf,B,f1,f2,f3,c,fun y hy=>by simp at hy⟩ (fun k σ Hd _ ⟨_,_,_,_,sd,_⟩=>SqT.of (sd _ _ h4)) ?_ ?_⟩
   ·refine fun k x σ Hd hx hI_3=>opq fun G_3 hG_3=>?_
    obtain ⟨bs,ks,v4,rfl,sd,hfd,B,f1,f2,f3,c,ty⟩:=hI_3
    obtain ⟨y,ey,rfl⟩:=qAM hx
    refine hG_3 ?_
    have my:=List.mem_of_getElem? ey
    have yb:=rz.in_ y my
    refine ⟨_,rfl,_,rfl,fo,_,_,y.toNat,rfl,rfl,hfd,ix B yb.1 (by omega),?_⟩
    refine ⟨_,addI ks y,_,rfl,qAG sd ffo,by rw [qA1,List.map_set],B.set yb.1 (by omega),fun x hx=>?_,fun x hx hl=>mem_addI.mpr (.inl (f2 x hx hl)),fun w1 ys h1 h2 h9 z hz'=>?_,mem_addI.mpr (.inl c),fun z hz'=>?_⟩
    ·rcases mem_addI.mp hx with hx | hx
     ·exact f1 x hx
     ·rw [hx]
      exact ⟨⟨yb.1,by omega⟩,.need (f1 _ c).2 (by rw [Int.toNat_natCast];exact hz) my⟩
    ·rcases mem_addI.mp h2 with h2 | h2
     ·exact mem_addI.mpr (.inl (f3 w1 ys h1 h2 h9 z hz'))
     ·omega
    ·rw [List.take_add_one,ey,Option.toList_some,List.mem_append,List.mem_singleton] at hz'
     rcases hz' with hz' | hz'
     ·exact mem_addI.mpr (.inl (ty z hz'))
     ·exact mem_addI.mpr (.inr hz')
   ·refine fun σ Hd hI_4=>opq fun G_4 hG_4=>?_
    obtain ⟨bs,ks,v4,rfl,sd,hfd,B,f1,f2,f3,c,ty⟩:=hI_4
    refine hG_4 ?_
    rw [List.length_map,qAO rfl] at ty
    refine ⟨bs,ks,_,_,rfl,sd,hfd,B,f1,fun x hx hl=>f2 x hx (by omega),fun w1 ys h1 h2 h9=>?_⟩
    by_cases e:w1=w0
    ·subst e
     rw [hz] at h9
     cases h9
     exact ty
    ·exact f3 w1 ys (by omega) h2 h9
  ·rw [decide_eq_false c]
   refine ⟨bs,ks,_,_,rfl,sm,hf,B,f1,fun x hx hl=>f2 x hx (by omega),fun w1 ys h1 h2 h9=>?_⟩
   by_cases e:w1=w0
   ·subst e
    exact absurd h2 c
   ·exact f3 w1 ys (by omega) h2 h9
 ·refine fun σ Hc hI_5=>opq fun G_5 hG_5=>?_
  obtain ⟨bs,ks,v3,v4,rfl,sm,hf,B,fn⟩:=hI_5
  refine hG_5 ?_
  rw [lrv,show ((net.length:Int) - (((net.length:Int) - 1 - -1).toNat:Nat))=0 by omega] at fn
  have all:=Fnd.all wf (⟨fn.in_,fun x hx=>fn.ask x hx (rA.in_ x hx).1,fn.clo⟩:Fnd net asked ks 0)
  have lrn:((((rs.map V.ref).length:Nat):Int)).toNat=net.length:=by rw [lrv];omega
  refine ⟨_,rfl,a,_,rfl,.inr (SqT.of (sm _ _ hA)),_,rfl,by rw [lrv];omega,by rw [lrv];omega,fun p hp=>?_⟩
  refine qRF (p:=p) (lo:=0) (n:=((((rs.map V.ref).length:Nat):Int)).toNat) (fun i σ Hd=>∃ (v:Option V),σ=[v,some (.ref fo)]∧Same Hc Hd∧Hd p=some (.lst ((((qFG 0 net.length).take i).filter fun x=>decide (x ∈ ks)).map V.int))) ?_ ?_ ?_
  ·exact ⟨none,rfl,qA2 hp _,qA1⟩
  ·refine fun i σ Hd hi hI_6=>opq fun G_6 hG_6=>?_
   obtain ⟨v,rfl,sd,hpd⟩:=hI_6
   refine hG_6 ?_
   rw [lrn] at hi
   have lk:=qFP (p:=fun x=>decide (x ∈ ks)) (l:=qFG 0 net.length) (i:=i)
   refine ⟨_,rfl,_,rfl,fo,_,_,_,rfl,rfl,SqL.of (sd _ _ hf),qC2 (by omega) (by rw [show (0+(i:Int)).toNat=i by omega];exact qUT (B.at_ i hi)),_,rfl,?_⟩
   rw [qC7 (qPH (by omega)),Int.zero_add]
   by_cases c:(i:Int) ∈ ks
   ·rw [decide_eq_true c]
    refine ⟨_,rfl,_,hpd,qAX (by rw [List.length_map];omega),_,rfl,qAG sd hp,?_⟩
    rw [qA1,if_pos rfl,List.map_append]
    rfl
   ·rw [decide_eq_false c]
    refine ⟨_,rfl,sd,?_⟩
    simpa using hpd
  ·refine fun σ Hd hI_7=>opq fun G_7 hG_7=>?_
   obtain ⟨v,rfl,sd,hpd⟩:=hI_7
   refine hG_7 ?_
   rw [qAO (by rw [qS5,lrn];omega)] at hpd
   refine q p _ Hd (sm.trans sd) (sm.free hp) hpd ⟨⟨(qNI _ _).filter _,fun x hx=>mem_rangeI.mp (List.mem_filter.mp hx).1⟩,fun x=>?_⟩
   rw [List.mem_filter,mem_rangeI,decide_eq_true_eq,← all x]
   exact ⟨fun z=>z.2,fun z=>⟨(fn.in_ x z).1,z⟩⟩
end
section
variable {P:Program} {w:World} {K:PySem.W.Frag} {mg:Str→Option Value} {base:Heap} {f:Addr} {fd:FuncData} {qEA qB5:Addr} {qHR qBI:FuncData}
theorem sc_use_counts:FnScope ["net","works","counts","work","need"] ["net","works"] (qAB qE3):=⟨rfl,rfl,rfl,by decide +kernel,rfl,by decide +kernel,by decide +kernel⟩
theorem ok_use_counts (F:Fun K "use_counts" "use_counts" qE3 f fd) (qBN:mg "len" = none):FnOk P w K mg base CX0 1 f fd ["net","works"] qZR:=by
 refine F.ok sc_use_counts (fun vs H Q E h=>?_) (fun cdv A outer s H vs Q E hr h=>?_)
 ·obtain ⟨a,lw,net,ws,rfl,_⟩:=h
  rfl
 obtain ⟨a,lw,net,ws,rfl,hN,wf,n1000,hlw,wb,q⟩:=h
 refine ⟨_,(qA4 (qAE (i:=2) sc_use_counts.nd rfl (Or.inl rfl) (qAU qNR (qB8 (qA0 qA9 qA3)) (qA8 qAJ rfl qBN qDH (qA0 (pv 0) qA3)))) (qA4 (qBM PassesOwn.never rfl (qC1 (pv 1)) (qAA (i:=3) sc_use_counts.nd rfl (Or.inl rfl)) (qA6 (qBM PassesOwn.never rfl (qE7 (qB2 qBB (pv 0) (pv 3) (fun _ _=>rfl))) (qAA (i:=4) sc_use_counts.nd rfl (Or.inl rfl)) (qA6 (qYC (pv 2) (pv 4) qWU qA9 qXO qH9))))) (qA6 (qAL (pv 2))))),?_⟩
 try dsimp only [Cx.nox,Cx.wish,cxOf]
 obtain ⟨rs,hA,NL⟩:=id hN
 have lrs:=Paired.length NL
 have lrv:(((rs.map V.ref).length:Nat):Int)=(net.length:Int):=by rw [List.length_map,Paired.length NL]
 refine ⟨(by show 1≤sizeLine;decide),fun p0 hp0=>?_⟩
 have s0:=qA2 hp0 (.lst [.int 0])
 refine ⟨_,rfl,a,_,rfl,.inr (SqT.of (s0 _ _ hA)),p0,_,_,rfl,rfl,qA1,by rw [lrv];omega,by rw [lrv];omega,?_,fun co hco=>?_⟩
 ·rw [lrv,sizeLine_eq];simp;omega
 have fco:H co=none:=s0.free hco
 have s1:=s0.trans (qA2 hco (.lst (List.replicate ((((rs.map V.ref).length:Nat):Int)).toNat [V.int 0]).flatten))
 have gco:(upd (upd H p0 (.lst [.int 0])) co (.lst (List.replicate ((((rs.map V.ref).length:Nat):Int)).toNat [V.int 0]).flatten)) co=some (.lst ((List.replicate net.length (0:Int)).map V.int)):=by
  rw [qA1,rep0,lrv,Int.toNat_natCast]
 generalize upd (upd H p0 (.lst [.int 0])) co (.lst (List.replicate ((((rs.map V.ref).length:Nat):Int)).toNat [V.int 0]).flatten)=H1 at s1 gco ⊢
 refine ⟨_,rfl,lw,rfl,⟨_,SqL.of (s1 _ _ hlw)⟩,qCR (a:=lw) (xs:=ws.map V.int) (fun i σ Hc=>∃ (cs:List Int) (v3 v4:Option V),σ=[some (.ref a),some (.ref lw),some (.ref co),v3,v4]∧Same H Hc∧Hc co=some (.lst (cs.map V.int))∧CntX net.length cs (nds net (ws.take i)))
  ⟨_,none,none,rfl,s1,gco,CntX.nil _⟩ (fun i σ Hc _ ⟨_,_,_,_,sm,_⟩=>SqL.of (sm _ _ hlw)) ?_ ?_⟩
 ·refine fun i x σ Hc hx hI_1=>opq fun G_1 hG_1=>?_
  obtain ⟨cs,v3,v4,rfl,sm,hcc,ct⟩:=hI_1
  obtain ⟨z,ez,rfl⟩:=qAM hx
  refine hG_1 ?_
  have zb:=wb z (List.mem_of_getElem? ez)
  have hi:z.toNat<net.length:=by omega
  obtain ⟨rs',r,h1,l1,h2,h3⟩:=hN.get (List.getElem?_eq_getElem hi)
  have rz:=wf z.toNat _ (List.getElem?_eq_getElem hi)
  have fs:=qW5 (net:=net) ez
  rw [qAD (List.getElem?_eq_getElem hi)] at fs
  generalize net[z.toNat]=zs at h3 rz fs
  refine ⟨_,rfl,_,rfl,a,_,_,_,rfl,rfl,SqT.of (sm _ _ h1),qC2 zb.1 h2,r,rfl,⟨_,SqT.of (sm _ _ h3)⟩,qF4 (a:=r) (xs:=zs.map V.int) (fun k σ Hd=>∃ (cs:List Int) (v4:Option V),σ=[some (.ref a),some (.ref lw),some (.ref co),some (.int z),v4]∧Same H Hd∧Hd co=some (.lst (cs.map V.int))∧CntX net.length cs (nds net (ws.take i)++zs.take k))
   ⟨cs,v4,rfl,sm,hcc,by simpa using ct⟩ (fun k σ Hd _ ⟨_,_,_,sm',_⟩=>SqT.of (sm' _ _ h3)) ?_ ?_⟩
  ·refine fun k x σ Hd hx hI_2=>opq fun G_2 hG_2=>?_
   obtain ⟨cs,v4,rfl,sm',hcd,ct'⟩:=hI_2
   obtain ⟨y,ey,rfl⟩:=qAM hx
   refine hG_2 ?_
   have yin:=rz.in_ y (List.mem_of_getElem? ey)
   have hc:=ct'.get yin.1 (by omega)
   generalize ((List.count y (nds net (ws.take i)++zs.take k):Nat):Int)=c at hc
   refine ⟨_,rfl,_,rfl,co,_,_,_,rfl,rfl,SqL.of hcd,qC2 yin.1 (by rw [List.getElem?_map,hc];rfl),_,_,rfl,rfl,co,_,_,y.toNat,rfl,rfl,hcd,?_,?_⟩
   ·have:=qMJ (xs:=cs.map V.int) (j:=y.toNat) (by rw [List.length_map,ct'.len];omega)
    rw [show ((y.toNat:Nat):Int)=y by omega] at this
    exact this
   ·refine ⟨cs.set y.toNat (c+1),_,rfl,qAG sm' fco,?_,?_⟩
    ·rw [qA1,List.map_set]
    ·rw [List.take_add_one,ey,Option.toList_some,← List.append_assoc]
     exact ct'.bump yin.1 (by omega) hc
  ·refine fun σ Hd hI_3=>opq fun G_3 hG_3=>?_
   obtain ⟨cs,v4,rfl,sm',hcd,ct'⟩:=hI_3
   refine hG_3 ?_
   rw [List.length_map,qAO rfl,← fs] at ct'
   exact ⟨cs,_,_,rfl,sm',hcd,ct'⟩
 ·refine fun σ Hc hI_4=>opq fun G_4 hG_4=>?_
  obtain ⟨cs,v3,v4,rfl,sm,hcc,ct⟩:=hI_4
  refine hG_4 ?_
  rw [List.length_map,qAO rfl] at ct
  exact ⟨_,rfl,q co cs Hc sm fco hcc ct⟩
theorem sc_is_tree:FnScope ["net","work","needed","counts"] ["net","work"] (qAB qHA):=⟨rfl,rfl,rfl,by decide +kernel,rfl,by decide +kernel,by decide +kernel⟩
theorem ok_is_tree (F:Fun K "is_tree" "is_tree" qHA f fd)
  (qAK:Clb P w K mg base 1 qB5 qBI "all_needed" ["net","asked"] qTD)
  (qEF:Clb P w K mg base 1 qEA qHR "use_counts" ["net","works"] qZR)
  (qET:mg "all" = none):FnOk P w K mg base CX0 2 f fd ["net","work"] qQP:=by
 refine F.ok sc_is_tree (fun vs H Q E h=>?_) (fun cdv A outer s H vs Q E hr h=>?_)
 ·obtain ⟨a,net,work,rfl,_⟩:=h
  rfl
 obtain ⟨a,net,work,rfl,hN,wf,n1000,w0,w1,q⟩:=h
 have qWL:Room 1 _:=hr
 have qWK:Room 1 _:=hr
 refine ⟨_,(qA4 (qAE (i:=2) sc_is_tree.nd rfl (Or.inl rfl) (qAQ qAK hr rfl (qA0 (pv 0) (qA0 (qEV (qA0 (pv 1) qA3)) qA3)))) (qA4 (qAE (i:=3) sc_is_tree.nd rfl (Or.inr rfl) (qAQ qEF hr rfl (qA0 (pv 0) (qA0 (pv 2) qA3)))) (qA6 (qAL (qA8 (qHZ rfl) rfl qET qOY (qA0 (qIR rfl (lcs (own:=["other"]) (fv:=[3,1]) (by kernel_rfl)) (qC1 (pv 2)) (fun z1=>qAA (i:=0) (qEL (by kernel_rfl)) rfl (Or.inl rfl)) (fun z1=>(qJP (qB3 qS9 (pv 0) (pv 2) (qB9 _)))) (fun z1=>(qEK qIS (qB2 (qJ4 (K:=K) rfl) (pv 1) (pv 0) (fun _ _=>rfl)) qA9 (qB9 _)))) qA3)))))),?_⟩
 try dsimp only [Cx.nox,Cx.wish,cxOf]
 refine ⟨_,rfl,_,rfl,(by show 1≤sizeLine;decide),fun tp htp=>?_⟩
 have s1:=qA2 htp (.tup [.int work])
 refine ⟨a,tp,net,[work],rfl,hN.same s1,wf,n1000,qA1,fun x hx=>by rw [List.mem_singleton.mp hx];exact ⟨w0,w1⟩,fun l zs H1 sm1 fl gl nd=>?_⟩
 have s2:=s1.trans sm1
 refine ⟨_,rfl,_,rfl,a,l,net,zs,rfl,hN.same s2,wf,n1000,gl,nd.1.in_,fun co cs H2 sm2 fco gco ct=>?_⟩
 have s3:=s2.trans sm2
 refine ⟨_,rfl,l,rfl,⟨_,SqL.of (sm2 _ _ gl)⟩,fun p hp=>?_⟩
 refine qGV (p:=p) (a:=l) (xs:=zs.map V.int) (fun i σ Hd=>∃ (v0:Option V),σ=[v0,some (.ref co),some (.int work)]∧Same H2 Hd∧Hd p=some (.lst ((((zs.take i).filter fun x=>decide (x ≠ work)).map fun x=>decide (V.int (cI net zs x)=V.int 1)).map V.bl))) ?_ ?_ ?_ ?_
 ·exact ⟨none,rfl,qA2 hp _,qA1⟩
 ·rintro i σ Hd hi ⟨v0,rfl,sd,_⟩
  exact SqL.of (sd _ _ (sm2 _ _ gl))
 ·refine fun i x σ Hd hx hI_6=>opq fun G_6 hG_6=>?_
  obtain ⟨v0,rfl,sd,hpd⟩:=hI_6
  obtain ⟨y,ey,rfl⟩:=qAM hx
  refine hG_6 ?_
  have yb:=nd.1.in_ y (List.mem_of_getElem? ey)
  have lz:=nd.1.len
  have lk:=qFP (p:=fun x=>decide (x ≠ work)) (l:=zs) (i:=i)
  have li:=(List.getElem?_eq_some_iff.mp ey).1
  refine ⟨_,rfl,_,rfl,rfl,_,rfl,?_⟩
  rw [qC7 ey]
  by_cases e:y=work
  ·rw [decide_eq_true (show V.int y=V.int work by rw [e]),decide_eq_false (show ¬ y ≠ work from fun z=>z e)]
   refine ⟨_,rfl,sd,?_⟩
   simpa using hpd
  ·rw [decide_eq_false (show ¬ V.int y=V.int work from fun z=>e (V.int.inj z)),decide_eq_true (show y ≠ work from e)]
   refine ⟨_,rfl,_,rfl,co,_,_,_,rfl,rfl,SqL.of (sd _ _ gco),qC2 yb.1 (by rw [List.getElem?_map,ct.get yb.1 yb.2];rfl),rfl,_,hpd,qAX (by rw [List.length_map,List.length_map];omega),_,rfl,qAG sd hp,?_⟩
   rw [qA1,if_pos rfl,List.map_append,List.map_append]
   rfl
 ·refine fun σ Hd hI_7=>opq fun G_7 hG_7=>?_
  obtain ⟨v0,rfl,sd,hpd⟩:=hI_7
  refine hG_7 ?_
  rw [List.length_map,qAO rfl] at hpd
  refine ⟨p,_,rfl,SqL.of hpd,?_⟩
  rw [qVT]
  exact q zs Hd (s3.trans sd) nd
end
section
variable {P:Program} {w:World} {K:PySem.W.Frag} {mg:Str→Option Value} {base:Heap} {f:Addr} {fd:FuncData}
theorem sc_taken_by:FnScope ["net","wides","work","order","last_user","other","need","told","kept"] ["net","wides","work","order"] (qAB qGC):=⟨rfl,rfl,rfl,by decide +kernel,rfl,by decide +kernel,by decide +kernel⟩
theorem ok_taken_by (F:Fun K "taken_by" "taken_by" qGC f fd):FnOk P w K mg base CX0 1 f fd ["net","wides","work","order"] qH7:=by
 refine F.ok sc_taken_by (fun vs H Q E h=>?_) (fun cdv A outer s H vs Q E hr h=>?_)
 ·obtain ⟨a,t,lo,wk,net,ws,zs,rfl,_⟩:=h
  rfl
 obtain ⟨a,t,lo,wk,net,ws,zs,rfl,hN,wf,n400,⟨hT,lw⟩,hLo,TO,lz,q⟩:=h
 have hu:=qKA hr
 refine ⟨_,(qA4 (qAE (i:=4) sc_taken_by.nd rfl (Or.inl rfl) qGD) (qA4 (qBM PassesOwn.never rfl (qC1 (pv 3)) (qAA (i:=5) sc_taken_by.nd rfl (Or.inl rfl)) (qA6 (qBM PassesOwn.never rfl (qE7 (qB2 qBB (pv 0) (pv 5) (fun _ _=>rfl))) (qAA (i:=6) sc_taken_by.nd rfl (Or.inl rfl)) (qA6 (qFH hu (pv 4) (pv 6) (pv 5) rfl))))) (qA4 (qAE (i:=7) sc_taken_by.nd rfl (Or.inl rfl) (qB8 qA3)) (qA4 (qAE (i:=8) sc_taken_by.nd rfl (Or.inl rfl) qA9) (qA4 (qBM PassesOwn.never rfl (qC1 (pv 3)) (qAA (i:=5) sc_taken_by.nd rfl (Or.inl rfl)) (qA4 (qXC (i:=8) sc_taken_by.nd rfl (Or.inl rfl) (qB2 qBB (pv 1) (pv 5) (fun _ _=>rfl)) qXO) (qA4 (qCO (qJS PySem.F.plainAttrs_list PySem.F.slot_list_append PySem.F.type_list_append qDD (pv 7) (qA0 (pv 8) qA3))) (qA6 (qBM PassesOwn.never rfl (qE7 (qB2 qBB (pv 0) (pv 5) (fun _ _=>rfl))) (qAA (i:=6) sc_taken_by.nd rfl (Or.inl rfl)) (qA6 (qCU (qB3 qIS (qCP hu (pv 4) (pv 6) (fun _ _=>rfl)) (pv 5) (qB9 _)) (qA6 (qXC (i:=8) sc_taken_by.nd rfl (Or.inl rfl) (qB2 qBB (pv 1) (pv 6) (fun _ _=>rfl)) qaS)) qAT))))))) (qA6 (qAL (pv 7)))))))),?_⟩
 try dsimp only [Cx.nox,Cx.wish,cxOf]
 obtain ⟨rs,hA,NL⟩:=id hN
 refine cut fun N0 hN0=>?_
 refine fun dn hdn=>?_
 have sn:=qA2 hdn (.dK [])
 refine hN0 _ _ (cut fun N1 hN1=>?_)
 refine ⟨_,rfl,lo,rfl,⟨_,SqL.of (sn _ _ hLo)⟩,qCR (a:=lo) (xs:=zs.map V.int) (fun i σ Hf=>∃ (kvs:List (Key × V)) (v5 v6:Option V),σ=[some (.ref a),some (.ref t),some (.int wk),some (.ref lo),some (.ref dn),v5,v6,none,none]∧Same H Hf∧Hf dn=some (.dK kvs)∧kvs.length≤63 * i∧∀ y,valV kvs (Sum.inl y)=(qBA net (zs.take i) y).map V.int)
  ⟨[],none,none,rfl,sn,qA1,Nat.zero_le _,fun y=>by simp [qBA,valV]⟩ (fun i σ Hf _ ⟨_,_,_,_,sm,_⟩=>SqL.of (sm _ _ hLo)) ?_ ?_⟩
 ·refine fun i x σ Hf hx hI_1=>opq fun G_1 hG_1=>?_
  obtain ⟨kvs,v5,v6,rfl,sm,hd,lk,hv⟩:=hI_1
  obtain ⟨w0,ew,rfl⟩:=qAM hx
  refine hG_1 ?_
  have hi:=(List.getElem?_eq_some_iff.mp ew).1
  have wb:=TO.in_ w0 (List.mem_of_getElem? ew)
  have hw:w0.toNat<net.length:=by omega
  have hz:=List.getElem?_eq_getElem hw
  obtain ⟨r,h3,h4⟩:=NL.get hz
  have ln:=(wf w0.toNat _ hz).len
  have en:=qAD hz
  generalize net[w0.toNat]=ns at h4 hz ln en
  refine ⟨_,rfl,_,rfl,a,_,_,_,rfl,rfl,SqT.of (sm _ _ hA),qC2 wb.1 (by rw [List.getElem?_map,h3];rfl),r,rfl,⟨_,SqT.of (sm _ _ h4)⟩,qF4 (a:=r) (xs:=ns.map V.int) (fun k σ Hd=>∃ (kvs:List (Key × V)) (v6:Option V),σ=[some (.ref a),some (.ref t),some (.int wk),some (.ref lo),some (.ref dn),some (.int w0),v6,none,none]∧Same H Hd∧Hd dn=some (.dK kvs)∧kvs.length≤63 * i+k∧∀ y,valV kvs (Sum.inl y)=if y ∈ ns.take k then some (.int w0) else (qBA net (zs.take i) y).map V.int)
   ⟨kvs,v6,rfl,sm,hd,by omega,fun y=>by rw [hv y];simp⟩ (fun k σ Hd _ ⟨_,_,_,sm',_⟩=>SqT.of (sm' _ _ h4)) ?_ ?_⟩
  ·refine fun k x σ Hd hx hI_2=>opq fun G_2 hG_2=>?_
   obtain ⟨kvs,v6,rfl,sm',hd',lk',hv'⟩:=hI_2
   obtain ⟨y,ey,rfl⟩:=qAM hx
   refine hG_2 ?_
   have hk:=(List.getElem?_eq_some_iff.mp ey).1
   refine ⟨_,rfl,_,rfl,_,rfl,dn,_,rfl,DPut.k (k:=Sum.inl y) hd' (qC0 (by omega)),?_⟩
   refine ⟨_,_,rfl,qAG sm' hdn,qA1,Nat.le_trans (qCV _ _ _) (by omega),fun x=>?_⟩
   rw [qLQ,List.take_add_one,ey,Option.toList_some]
   by_cases e:x=y
   ·rw [e,if_pos rfl,if_pos (by simp)]
   ·rw [if_neg fun z=>e (Sum.inl.inj z),hv' x]
    simp [e]
  ·refine fun σ Hd hI_3=>opq fun G_3 hG_3=>?_
   obtain ⟨kvs,v6,rfl,sm',hd',lk',hv'⟩:=hI_3
   refine hG_3 ?_
   rw [List.length_map] at lk' hv'
   refine ⟨kvs,_,_,rfl,sm',hd',by omega,fun y=>?_⟩
   rw [hv' y,qAO rfl,List.take_add_one,ew,Option.toList_some,qK3,en]
   by_cases c:y ∈ ns
   ·rw [if_pos c,if_pos c]
    rfl
   ·rw [if_neg c,if_neg c]
 refine fun σ Hf hI_4=>opq fun G_4 hG_4=>?_
 obtain ⟨kvs,v5,v6,rfl,sm,hd,lk,hv⟩:=hI_4
 refine hG_4 ?_
 rw [List.length_map] at lk hv
 rw [qAO rfl] at hv
 refine hN1 _ _ (cut fun N2 hN2=>?_)
 refine ⟨(by show 0≤sizeLine;decide),fun lt hlt=>?_⟩
 have flt:H lt=none:=sm.free hlt
 have sp:=qA2 hlt (.lst [])
 have hd1:=sp _ _ hd
 have s1:=sm.trans sp
 have glt:(upd Hf lt (.lst [])) lt=some (.lst (([]:List Int).map V.int)):=qA1
 generalize upd Hf lt (.lst [])=H1 at hd1 s1 glt
 have ndl:dn ≠ lt:=qC9 hd1 glt (by intro z;cases z)
 refine hN2 _ _ (cut fun N3 hN3=>?_)
 refine hN3 _ _ (cut fun N4 hN4=>?_)
 refine ⟨_,rfl,lo,rfl,⟨_,SqL.of (s1 _ _ hLo)⟩,qCR (a:=lo) (xs:=zs.map V.int) (fun i σ Hg=>∃ (v5 v6:Option V) (kept:Int),σ=[some (.ref a),some (.ref t),some (.int wk),some (.ref lo),some (.ref dn),v5,v6,some (.ref lt),some (.int kept)]∧Same H Hg∧Hg dn=some (.dK kvs)∧Hg lt=some (.lst (((List.range i).map fun p=>wdO ws ((zs[p]?).getD 0)+qCL net ws zs p).map V.int))∧(i<zs.length→kept=qCL net ws zs i))
  ⟨v5,v6,0,rfl,s1,hd1,glt,fun _=>(qOB net ws zs).symm⟩ (fun i σ Hg _ ⟨_,_,_,_,sg,_⟩=>SqL.of (sg _ _ hLo)) ?_ ?_⟩
 ·refine fun i x σ Hg hx hI_5=>opq fun G_5 hG_5=>?_
  obtain ⟨v5,v6,kept,rfl,sg,hdg,hlg,hk⟩:=hI_5
  obtain ⟨w0,ew,rfl⟩:=qAM hx
  refine hG_5 ?_
  have hi:=(List.getElem?_eq_some_iff.mp ew).1
  have wb:=TO.in_ w0 (List.mem_of_getElem? ew)
  have hw:w0.toNat<net.length:=by omega
  have hz:=List.getElem?_eq_getElem hw
  obtain ⟨r,h3,h4⟩:=NL.get hz
  have ln:=(wf w0.toNat _ hz).len
  have en:=qAD hz
  have inz:=(wf w0.toNat _ hz).in_
  generalize net[w0.toNat]=ns at h4 hz ln en inz
  have hk':=hk hi
  have wat:∀ x:Int,0≤x→x<(net.length:Int)→atI (ws.map V.int) x=some (.int (wdO ws x)):=by
   intro x x0 x1
   have hx:x.toNat<ws.length:=by omega
   refine qC2 x0 ?_
   rw [List.getElem?_map]
   unfold wdO
   rw [List.getElem?_eq_getElem hx]
   rfl
  refine cut fun N5 hN5=>?_
  refine ⟨_,rfl,_,rfl,_,rfl,t,_,_,_,rfl,rfl,SqT.of (sg _ _ hT),wat w0 wb.1 wb.2,_,_,rfl,rfl,?_⟩
  refine hN5 _ _ (cut fun N6 hN6=>?_)
  refine ⟨_,rfl,.inl ⟨rfl,_,SqL.of hlg⟩,_,rfl,lt,_,_,rfl,rfl,hlg,qC0 (by simp;omega),?_⟩
  dsimp only
  have e1:(((List.range i).map fun p=>wdO ws ((zs[p]?).getD 0)+qCL net ws zs p).map V.int)++[V.int (kept+wdO ws w0)]=((List.range (i+1)).map fun p=>wdO ws ((zs[p]?).getD 0)+qCL net ws zs p).map V.int:=by
   rw [List.range_succ,List.map_append,List.map_append,hk']
   congr 1
   simp [ew]
   omega
  rw [e1]
  have sg2:Same H (upd Hg lt (.lst (((List.range (i+1)).map fun p=>wdO ws ((zs[p]?).getD 0)+qCL net ws zs p).map V.int))):=qAG sg flt
  have hdg2:(upd Hg lt (.lst (((List.range (i+1)).map fun p=>wdO ws ((zs[p]?).getD 0)+qCL net ws zs p).map V.int))) dn=some (.dK kvs):=by rw [qA7 ndl];exact hdg
  have hlg2:(upd Hg lt (.lst (((List.range (i+1)).map fun p=>wdO ws ((zs[p]?).getD 0)+qCL net ws zs p).map V.int))) lt=some (.lst (((List.range (i+1)).map fun p=>wdO ws ((zs[p]?).getD 0)+qCL net ws zs p).map V.int)):=qA1
  generalize upd Hg lt (.lst (((List.range (i+1)).map fun p=>wdO ws ((zs[p]?).getD 0)+qCL net ws zs p).map V.int))=H2 at sg2 hdg2 hlg2 ⊢
  refine hN6 _ _ ?_
  refine ⟨_,rfl,_,rfl,a,_,_,_,rfl,rfl,SqT.of (sg2 _ _ hA),qC2 wb.1 (by rw [List.getElem?_map,h3];rfl),r,rfl,⟨_,SqT.of (sg2 _ _ h4)⟩,qF4 (a:=r) (xs:=ns.map V.int) (fun k σ Hd=>∃ (v6:Option V),σ=[some (.ref a),some (.ref t),some (.int wk),some (.ref lo),some (.ref dn),some (.int w0),v6,some (.ref lt),some (.int (kept+wdO ws w0 - sumW ws ((ns.take k).filter fun y=>decide (qBA net zs y=some w0))))]∧Hd=H2)
   ⟨v6,by simp [qCX],rfl⟩ (fun k σ Hd _ ⟨_,_,e⟩=>by rw [e];exact SqT.of (sg2 _ _ h4)) ?_ ?_⟩
  ·refine fun k x σ Hd hx hI_6=>opq fun G_6 hG_6=>?_
   obtain ⟨v6,rfl,rfl⟩:=hI_6
   obtain ⟨y,ey,rfl⟩:=qAM hx
   refine hG_6 ?_
   have my':=List.mem_of_getElem? ey
   have my:y ∈ nd net w0:=by rw [en];exact my'
   have yb:=inz y my'
   obtain ⟨v,ev⟩:∃ v,qBA net zs y=some v:=by
    cases e:qBA net zs y with
    | some v=>exact ⟨v,rfl⟩
    | none=>exact absurd my (lastOf_none.mp e w0 (List.mem_of_getElem? ew))
   have hg:=DGet.k (k:=Sum.inl y) hdg2
   rw [hv y,ev] at hg
   rw [qC7 ey,ev]
   refine ⟨_,rfl,_,rfl,dn,_,rfl,hg,_,rfl,rfl,_,rfl,?_⟩
   by_cases c1:v=w0
   ·rw [decide_eq_true (show V.int v=V.int w0 by rw [c1]),decide_eq_true (show some v=some w0 by rw [c1])]
    refine ⟨_,rfl,_,rfl,_,rfl,t,_,_,_,rfl,rfl,SqT.of (sg2 _ _ hT),wat y yb.1 (by omega),_,_,rfl,rfl,?_⟩
    refine ⟨some (.int y),?_,rfl⟩
    have e2:sumW ws ((ns.take k).filter (fun y=>decide (qBA net zs y=some w0))++(if true=true then [y] else []))=sumW ws ((ns.take k).filter fun y=>decide (qBA net zs y=some w0))+wdO ws y:=by
     rw [qLU,if_pos rfl,qAR,qCX]
     omega
    rw [e2]
    generalize sumW ws ((ns.take k).filter fun y=>decide (qBA net zs y=some w0))=S
    have e3:kept+wdO ws w0 - (S+wdO ws y)=kept+wdO ws w0 - S - wdO ws y:=by omega
    rw [e3]
    rfl
   ·rw [decide_eq_false (show ¬ V.int v=V.int w0 from fun z=>c1 (V.int.inj z)),decide_eq_false (show ¬ some v=some w0 from fun z=>c1 (Option.some.inj z))]
    exact ⟨some (.int y),by simp,rfl⟩
  ·refine fun σ Hd hI_7=>opq fun G_7 hG_7=>?_
   obtain ⟨v6,rfl,rfl⟩:=hI_7
   refine hG_7 ?_
   rw [List.length_map,qAO rfl]
   refine ⟨_,_,_,rfl,sg2,hdg2,hlg2,fun hl=>?_⟩
   rw [qOC wf TO ew hl,hk',en]
 ·refine fun σ Hg hI_8=>opq fun G_8 hG_8=>?_
  obtain ⟨v5,v6,kept,rfl,sg,hdg,hlg,_⟩:=hI_8
  refine hG_8 ?_
  rw [List.length_map] at hlg
  refine hN4 _ _ ⟨_,rfl,?_⟩
  exact q lt Hg sg flt hlg
end
section
variable {P:Program} {w:World} {K:PySem.W.Frag} {mg:Str→Option Value} {base:Heap} {f:Addr} {fd:FuncData} {qHV:Addr} {qLH:FuncData}
theorem qKL:FnScope ["net","work"] ["net","work"] (qAB qDM):=⟨rfl,rfl,rfl,by decide +kernel,rfl,by decide +kernel,by decide +kernel⟩
theorem ok_demand_tree (F:Fun K "demand_tree" "demand_tree" qDM f fd) (qI0:Clb P w K mg base 2 qHV qLH "is_tree" ["net","work"] qQP):FnOk P w K mg base CX0 3 f fd ["net","work"] qH8:=by
 refine F.ok qKL (fun vs H Q E h=>?_) (fun cdv A outer s H vs Q E hr h=>?_)
 ·obtain ⟨a,net,work,rfl,_⟩:=h
  rfl
 obtain ⟨a,net,work,rfl,⟨hN,wf,n400,w0,w1⟩,iT,q⟩:=h
 refine ⟨_,(qA6 (qCU (qGJ (qCS (qAQ qI0 hr rfl (qA0 (pv 0) (qA0 (pv 1) qA3))))) qTL qAT)),?_⟩
 try dsimp only [Cx.nox,Cx.wish,cxOf]
 refine ⟨_,rfl,_,rfl,a,net,work,rfl,hN,wf,by omega,w0,w1,fun zs H1 s1 N=>?_⟩
 rw [(qUM N).mp iT]
 exact ⟨_,rfl,q H1 s1⟩
end
section
variable {P:Program} {w:World} {K:PySem.W.Frag} {mg:Str→Option Value} {base:Heap} {f:Addr} {fd:FuncData} {Pt cc:Addr} {qBJ qB5 qCK:Addr} {qBZ qBI qCW:FuncData}
theorem sc_stretched:FnScope ["net","wides","work","own","other","order","need"] ["net","wides","work"] (qAB qCF):=⟨rfl,rfl,rfl,by decide +kernel,rfl,by decide +kernel,by decide +kernel⟩
theorem ok_stretched (F:Fun K "stretched" "stretched" qCF f fd) (hcd:fd.code=.ref cc) (hBM:BM mg base) (qCI:hdIn K cc Pt=true) (qAP:Clb P w K mg base 3 qBJ qBZ "demand_tree" ["net","work"] qH8) (qAK:Clb P w K mg base 1 qB5 qBI "all_needed" ["net","asked"] qTD) (qBF:Clb P w K mg base 1 qCK qCW "taken_by" ["net","wides","work","order"] qH7) (qAV:mg "sorted" = none) (qCM:mg "max" = none):FnOk P w K mg base CX0 4 f fd ["net","wides","work"] (qGQ Pt):=by
 refine F.okL hcd sc_stretched (fun vs H Q E h=>?_) (fun A outer s H vs Q E hr h=>?_)
 ·obtain ⟨a,t,net,ws,work,rfl,_⟩:=h
  rfl
 obtain ⟨a,t,net,ws,work,rfl,hTab,⟨NI,WD,w1,iT⟩,q⟩:=h
 have hu:=qKA hr
 have rm:Room 2 _:=hr.mono (by decide)
 refine ⟨_,(qA4 (qCO (qAQ qAP hr rfl (qA0 (pv 0) (qA0 (pv 2) qA3)))) (qA4 (qAE (i:=3) sc_stretched.nd rfl (Or.inr rfl) qGD) (qA4 (qBM PassesOwn.never rfl (qC1 (qAQ qAK hr rfl (qA0 (pv 0) (qA0 (qEV (qA0 (pv 2) qA3)) qA3)))) (qAA (i:=4) sc_stretched.nd rfl (Or.inl rfl)) (qA4 (qAE (i:=5) sc_stretched.nd rfl (Or.inl rfl) (qB8 qA3)) (qA4 (qBM PassesOwn.never rfl (qC1 (qVZ (p:="one") (fv:=[1,3]) (q:="stretched.<locals>.<lambda>") rm rfl qAV qEX hBM rfl qCI (by kernel_rfl) (lms (by kernel_rfl)) rfl (fun _ _ _ _ _=>rfl) (qA0 (qB2 qBB (pv 0) (pv 4) (fun _ _=>rfl)) qA3) (fun z1=>(qEV (qA0 (qAU qFK (qB2 (qFO (K:=K) rfl) (pv 1) (pv 0) (fun _ _=>rfl)) (qB2 (qFO (K:=K) rfl) (qCP (qbL _) (pv 2) (pv 0) (fun _ _=>rfl)) qA9 (fun _ _=>rfl))) (qA0 (pv 0) qA3)))))) (qAA (i:=6) sc_stretched.nd rfl (Or.inl rfl)) (qA6 (qCO (qJS PySem.F.plainAttrs_list PySem.F.slot_list_extend PySem.F.type_list_extend qJY (pv 5) (qA0 (qB2 qBB (qCP hu (pv 3) (pv 6) (fun _ _=>rfl)) qA9 (fun _ _=>rfl)) qA3))))) (qA4 (qCO (qJS PySem.F.plainAttrs_list PySem.F.slot_list_append PySem.F.type_list_append qDD (pv 5) (qA0 (pv 4) qA3))) (qA6 (qFH hu (pv 3) (pv 4) (qEV (qA0 (qA8 (qDX rfl) rfl qCM qGM (qA0 (qAQ qBF hr rfl (qA0 (pv 0) (qA0 (pv 1) (qA0 (pv 4) (qA0 (pv 5) qA3))))) qA3)) (qA0 (pv 5) qA3))) rfl)))))) (qA6 (qAL (qCP hu (pv 3) (pv 2) (fun _ _=>rfl))))))),?_⟩
 try dsimp only [Cx.nox,Cx.wish,cxOf]
 obtain ⟨hN,wf,n400,wk0,wk1⟩:=id NI
 refine cut fun N0 hN0=>?_
 refine ⟨_,rfl,_,rfl,a,net,work,rfl,NI,iT,fun H1 s1=>?_⟩
 refine hN0 _ _ (cut fun N1 hN1=>?_)
 intro dn hdn
 have s2:=s1.trans (qA2 hdn (.dK []))
 have gd2:(upd H1 dn (.dK [])) dn=some (.dK (kvsV [] fun _=>V.non)):=qA1
 have fdn:H dn=none:=s1.free hdn
 generalize upd H1 dn (.dK [])=H2 at s2 gd2 ⊢
 refine hN1 _ _ (cut fun N2 hN2=>?_)
 refine ⟨_,rfl,_,rfl,(by show 1≤sizeLine;decide),fun ta hta=>?_⟩
 have sta:=qA2 hta (.tup [.int work])
 have gta:(upd H2 ta (.tup [.int work])) ta=some (.tup ([work].map V.int)):=qA1
 have s3:=s2.trans sta
 have gd3:=sta _ _ gd2
 generalize upd H2 ta (.tup [.int work])=H3 at gta s3 gd3 ⊢
 refine ⟨a,ta,net,[work],rfl,hN.same s3,wf,by omega,gta,(fun x hx=>by rw [List.mem_singleton.mp hx];omega),fun lw zs H4 s4 f4 gw N=>?_⟩
 have lz:=N.1.len
 have s5:=s3.trans s4
 have gd4:=s4 _ _ gd3
 have nwd:lw ≠ dn:=qC9 gw gd4 (by intro z;cases z)
 have T:=qIJ wf n400 N iT
 obtain ⟨R,O,S⟩:=exS T ws
 obtain ⟨rs,hA,NL⟩:=id hN
 refine ⟨lw,rfl,⟨_,SqL.of gw⟩,qCR (a:=lw) (xs:=zs.map V.int) (fun i σ Hc=>∃ (ad al:Int→Addr) (v4 v5 v6:Option V),σ=[some (.ref a),some (.ref t),some (.int work),some (.ref dn),v4,v5,v6]∧Same H Hc∧Hc lw=some (.lst (zs.map V.int))∧Hc dn=some (.dK (kvsV (zs.take i) fun z=>.ref (ad z)))∧∀ z ∈ zs.take i,Hc (ad z)=some (.tup [.int (R z),.ref (al z)])∧Hc (al z)=some (.lst ((O z).map V.int))∧H (al z)=none)
  ⟨fun _=>a,fun _=>a,none,none,none,rfl,s5,gw,gd4,fun z hz=>by simp at hz⟩ (fun i σ Hc _ ⟨_,_,_,_,_,_,_,g,_⟩=>SqL.of g) ?_ ?_⟩
 ·refine fun i x σ Hc hx hI_1=>opq fun G_1 hG_1=>?_
  obtain ⟨ad,al,v4,v5,v6,rfl,sc,gwc,gdc,PA⟩:=hI_1
  obtain ⟨z,ez,rfl⟩:=qAM hx
  refine hG_1 ?_
  have hi:=(List.getElem?_eq_some_iff.mp ez).1
  have hz:=List.mem_of_getElem? ez
  have zb:=N.1.in_ z hz
  have hw:z.toNat<net.length:=by omega
  obtain ⟨rs',r,h1,l1,h2,h3⟩:=hN.get (List.getElem?_eq_getElem hw)
  have rz:=wf z.toNat _ (List.getElem?_eq_getElem hw)
  have en:=qAD (List.getElem?_eq_getElem hw)
  generalize net[z.toNat]=ys at h3 rz en
  have lys:=rz.len
  have hys:∀ y ∈ ys,y ∈ zs.take i:=fun y hy=>(qCH wf N ez (by rw [en];exact hy)).1
  obtain ⟨TO,lO,tO,inO⟩:=qLV T S w1 hz
  refine cut fun M0 hM0=>?_
  refine ⟨(by show 0≤sizeLine;decide),fun lo hlo=>?_⟩
  have k4:Keep dn lo Hc (upd Hc lo (.lst [])):=qE8 hlo _
  have s4':=qA2 hlo (.lst [])
  have glo:(upd Hc lo (.lst [])) lo=some (.lst (([]:List Int).map V.int)):=qA1
  have gd4':=s4' _ _ gdc
  have gw4:=s4' _ _ gwc
  have sc4:=sc.trans s4'
  have ndl:dn ≠ lo:=qA5 gdc hlo
  have nwl:lw ≠ lo:=qA5 gwc hlo
  have flo:H lo=none:=sc.free hlo
  have PA4:∀ z ∈ zs.take i,(upd Hc lo (.lst [])) (ad z)=some (.tup [.int (R z),.ref (al z)])∧(upd Hc lo (.lst [])) (al z)=some (.lst ((O z).map V.int))∧al z ≠ lo:=fun z hz=>⟨s4' _ _ (PA z hz).1,s4' _ _ (PA z hz).2.1,qA5 (PA z hz).2.1 hlo⟩
  generalize upd Hc lo (.lst [])=Hd at k4 s4' glo gd4' gw4 sc4 PA4 ⊢
  refine hM0 _ _ (cut fun M1 hM1=>?_)
  refine ⟨_,rfl,_,rfl,a,_,_,_,rfl,rfl,SqT.of (sc4 _ _ h1),qC2 zb.1 h2,sc4 _ _ hTab,r,ys.map V.int,ys.map (keyS ws R),rfl,.inl (SqT.of (sc4 _ _ h3)),by rw [List.length_map];omega,by rw [List.length_map,List.length_map],?_,?_,fun H5 D rs5 s5' hD pm so=>?_⟩
  ·intro k hk
   obtain ⟨y,_,rfl⟩:=List.mem_map.mp hk
   exact fun z=>by cases z
  ·intro i x k hx hk2 Hx sx
   obtain ⟨y,ey,rfl⟩:=qAM hx
   rw [List.getElem?_map,ey] at hk2
   cases hk2
   have my:=List.mem_of_getElem? ey
   have yz:=hys y my
   have yb:=rz.in_ y my
   have hg:=DGet.k (k:=Sum.inl y) (sx _ _ gd4')
   rw [qF2 (g:=fun z=>V.ref (ad z)) yz] at hg
   have hwd:atI (ws.map V.int) y=some (.int (wdO ws y)):=by
    have hl:y.toNat<ws.length:=by have:=WD.2;omega
    refine qC2 yb.1 ?_
    rw [List.getElem?_map,List.getElem?_eq_getElem hl]
    unfold wdO
    rw [List.getElem?_eq_getElem hl]
    rfl
   exact ⟨_,rfl,_,rfl,t,_,_,_,rfl,rfl,SqT.of (sx _ _ (sc4 _ _ WD.1)),hwd,_,rfl,_,rfl,dn,_,rfl,hg,ad y,_,_,_,rfl,rfl,SqT.of (sx _ _ (PA4 y yz).1),rfl,_,_,rfl,rfl,_,rfl,(by show 2≤sizeLine;decide),fun p hp=>⟨qA2 hp _,p,rfl,qA1⟩⟩
  obtain ⟨os,po,oo,eo⟩:=qbD rz.nodup pm so
  rw [eo]
  obtain ⟨eO,eR⟩:=(S z hz).by (by rw [en];exact po) oo
  have sD:=qA2 hD (.lst (os.map V.int))
  have gD:(upd H5 D (.lst (os.map V.int))) D=some (.lst (os.map V.int)):=qA1
  have s6:Same Hd (upd H5 D (.lst (os.map V.int))):=fun b o e=>sD b o (s5' b o e)
  have nDl:D ≠ lo:=(qA5 (s5' _ _ glo) hD).symm
  have nDd:D ≠ dn:=(qA5 (s5' _ _ gd4') hD).symm
  generalize upd H5 D (.lst (os.map V.int))=H6 at gD s6 ⊢
  have lflat:∀ j,((((os.take j).map O).flatten).length:Nat)≤63:=fun j=>by
   have e1:(os.map O).flatten=((os.take j).map O).flatten++((os.drop j).map O).flatten:=by rw [← List.flatten_append,← List.map_append,List.take_append_drop]
   rw [eO,List.length_append,e1,List.length_append] at lO
   omega
  refine ⟨D,rfl,⟨_,SqL.of gD⟩,qCR (a:=D) (xs:=os.map V.int) (fun j σ Hx=>∃ (v6:Option V),σ=[some (.ref a),some (.ref t),some (.int work),some (.ref dn),some (.int z),some (.ref lo),v6]∧Keep lo lo H6 Hx∧Hx lo=some (.lst ((((os.take j).map O).flatten).map V.int)))
   ⟨v6,rfl,.refl,s6 _ _ glo⟩ (fun j σ Hx _ ⟨_,_,kx,_⟩=>SqL.of (kx _ _ gD nDl nDl)) ?_ ?_⟩
  ·refine fun j x σ Hx hx hI_2=>opq fun G_2 hG_2=>?_
   obtain ⟨v6,rfl,kx,glx⟩:=hI_2
   obtain ⟨y,ey,rfl⟩:=qAM hx
   refine hG_2 ?_
   have my:=List.mem_of_getElem? ey
   have yz:=hys y (po.mem_iff.mp my)
   obtain ⟨p1,p2,p3⟩:=PA4 y yz
   have hg:=DGet.k (k:=Sum.inl y) (kx _ _ (s6 _ _ gd4') ndl ndl)
   rw [qF2 (g:=fun z=>V.ref (ad z)) yz] at hg
   have p1':=s6 _ _ p1
   have nad:ad y ≠ lo:=qC9 p1 glo (by intro z;cases z)
   have lj:=lflat (j+1)
   have ef:((os.take (j+1)).map O).flatten=((os.take j).map O).flatten++O y:=by rw [List.take_add_one,ey,Option.toList_some,List.map_append,List.flatten_append];simp
   rw [ef,List.length_append] at lj
   refine ⟨_,rfl,.inl ⟨rfl,_,SqL.of glx⟩,_,rfl,_,rfl,dn,_,rfl,hg,ad y,_,_,_,rfl,rfl,SqT.of (kx _ _ p1' nad nad),rfl,lo,al y,_,_,rfl,rfl,glx,kx _ _ (s6 _ _ p2) p3 p3,by rw [List.length_map,List.length_map,sizeLine_eq];omega,?_⟩
   rw [← List.map_append]
   refine ⟨_,rfl,fun b o e n1 _=>by rw [qA7 n1];exact kx b o e n1 n1,by rw [qA1,ef]⟩
  refine fun σ Hx hI_3=>opq fun G_3 hG_3=>?_
  obtain ⟨v6,rfl,kx,glx⟩:=hI_3
  refine hG_3 ?_
  rw [List.length_map,qAO rfl] at glx
  refine hM1 _ _ (cut fun M2 hM2=>?_)
  refine ⟨_,rfl,.inl ⟨rfl,_,SqL.of glx⟩,_,rfl,lo,_,_,rfl,rfl,glx,qC0 (by rw [List.length_map];have:=lflat os.length;rw [qAO rfl] at this;omega),?_⟩
  have eO2:((os.map O).flatten).map V.int++[V.int z]=(O z).map V.int:=by rw [eO,List.map_append];rfl
  rw [eO2]
  have kx2:Keep lo lo H6 (upd Hx lo (.lst ((O z).map V.int))):=fun b o e n1 _=>by rw [qA7 n1];exact kx b o e n1 n1
  have gl2:(upd Hx lo (.lst ((O z).map V.int))) lo=some (.lst ((O z).map V.int)):=qA1
  generalize upd Hx lo (.lst ((O z).map V.int))=Hy at kx2 gl2 ⊢
  have kH:∀ b o,Hd b=some o→b ≠ lo→Hy b=some o:=fun b o e n=>kx2 b o (s6 b o e) n n
  have sy:Same H Hy:=fun b o e=>kH b o (sc4 b o e) (qA5 e flo)
  refine hM2 _ _ ?_
  refine ⟨_,rfl,_,rfl,_,rfl,_,rfl,a,t,lo,z,net,ws,O z,rfl,hN.same sy,wf,n400,⟨sy _ _ WD.1,WD.2⟩,gl2,TO,lO,fun l2 H7 s7 f7 g7=>?_⟩
  refine ⟨l2,_,_,rfl,SqL.of g7,tO,_,rfl,(by show 2≤sizeLine;decide),fun tp htp=>?_⟩
  have s8:=s7.trans (qA2 htp (.tup [.int (R z),.ref lo]))
  have gtp:(upd H7 tp (.tup [.int (R z),.ref lo])) tp=some (.tup [.int (R z),.ref lo]):=qA1
  have gdy:=s8 _ _ (kH _ _ gd4' ndl)
  have gly:=s8 _ _ gl2
  have gwy:=s8 _ _ (kH _ _ gw4 nwl)
  have s9:=sy.trans s8
  have PA9:∀ z ∈ zs.take i,(upd H7 tp (.tup [.int (R z),.ref lo])) (ad z)=(upd H7 tp (.tup [.int (R z),.ref lo])) (ad z):=fun _ _=>rfl
  have PAn:∀ x ∈ zs.take i,(upd H7 tp (.tup [.int (R z),.ref lo])) (ad x)=some (.tup [.int (R x),.ref (al x)])∧(upd H7 tp (.tup [.int (R z),.ref lo])) (al x)=some (.lst ((O x).map V.int)):=fun x hx=>by
   obtain ⟨p1,p2,p3⟩:=PA4 x hx
   exact ⟨s8 _ _ (kH _ _ p1 (qC9 p1 glo (by intro z;cases z))),s8 _ _ (kH _ _ p2 p3)⟩
  generalize upd H7 tp (.tup [.int (R z),.ref lo])=H8 at gtp gdy gly gwy s9 PAn ⊢
  have zno:z ∉ zs.take i:=fun m=>by have:=qJG N ez m;omega
  have put:=DPut.k (k:=Sum.inl z) (v:=.ref tp) gdy (qC0 (by unfold kvsV;rw [List.length_map,List.length_take];omega))
  rw [qRH zno] at put
  refine ⟨_,rfl,_,rfl,dn,_,rfl,put,?_⟩
  refine ⟨fun y=>if y=z then tp else ad y,fun y=>if y=z then lo else al y,_,_,_,rfl,qAG s9 fdn,by rw [qA7 nwd];exact gwy,?_,fun x hx=>?_⟩
  ·rw [qA1,List.take_add_one,ez,Option.toList_some]
   congr 3
   funext y
   show _=V.ref (if y=z then tp else ad y)
   by_cases c:y=z
   ·rw [if_pos c,if_pos c]
   ·rw [if_neg c,if_neg c]
  ·rw [List.take_add_one,ez,Option.toList_some] at hx
   dsimp only
   rcases List.mem_append.mp hx with m | m
   ·have ne:x ≠ z:=fun e=>zno (e ▸ m)
    rw [if_neg ne,if_neg ne]
    obtain ⟨p1,p2⟩:=PAn x m
    exact ⟨by rw [qA7 (qC9 p1 gdy (by intro z;cases z))];exact p1,by rw [qA7 (qC9 p2 gdy (by intro z;cases z))];exact p2,(PA x m).2.2⟩
   ·have ex:=List.mem_singleton.mp m
    subst ex
    rw [if_pos rfl,if_pos rfl]
    exact ⟨by rw [qA7 (qC9 gtp gdy (by intro z;cases z))];exact gtp,by rw [qA7 (qC9 gly gdy (by intro z;cases z))];exact gly,flo⟩
 ·refine fun σ Hc hI_4=>opq fun G_4 hG_4=>?_
  obtain ⟨ad,al,v4,v5,v6,rfl,sc,gwc,gdc,PA⟩:=hI_4
  refine hG_4 ?_
  rw [List.length_map,qAO rfl] at gdc PA
  have hw:=qBU N
  have hg:=DGet.k (k:=Sum.inl work) gdc
  rw [qF2 (g:=fun z=>V.ref (ad z)) hw] at hg
  obtain ⟨p1,p2,p3⟩:=PA work hw
  exact hN2 _ _ ⟨_,rfl,_,rfl,dn,_,rfl,hg,q _ _ zs R O Hc sc p3 N S p1 p2⟩
end
section
variable {P:Program} {w:World} {K:PySem.W.Frag} {mg:Str→Option Value} {base:Heap} {f:Addr} {fd:FuncData} {qJ5:Addr} {qOL:FuncData}
theorem qTI:FnScope ["one","other"] ["one","other"] (qAB qIY):=⟨rfl,rfl,rfl,by decide +kernel,rfl,by decide +kernel,by decide +kernel⟩
theorem ok_joined (F:Fun K "joined" "joined" qIY f fd) (qCM:mg "max" = none):FnOk P w K mg base CX0 1 f fd ["one","other"] qQN:=by
 refine F.ok qTI (fun vs H Q E h=>?_) (fun cdv A outer s H vs Q E hr h=>?_)
 ·obtain ⟨a,b,p,q,rfl,_⟩:=h
  rfl
 obtain ⟨a,b,p,q,rfl,hp,hq,lz,qq⟩:=h
 refine ⟨_,(qA6 (qAL (qEV (qA0 (qA8 (qVA rfl) rfl qCM qGM (qA0 (qB2 qBB (pv 0) qA9 (fun _ _=>rfl)) (qA0 (qAU qDC (qB2 qBB (pv 0) qA9 (fun _ _=>rfl)) (qB2 qBB (pv 1) qA9 (fun _ _=>rfl))) qA3))) (qA0 (qAU qDC (qB2 qBB (pv 0) qA9 (fun _ _=>rfl)) (qB2 qBB (pv 1) qA9 (fun _ _=>rfl))) (qA0 (qAU qJX (qB2 qBB (pv 0) qA9 (fun _ _=>rfl)) (qB2 qBB (pv 1) qA9 (fun _ _=>rfl))) qA3)))))),?_⟩
 try dsimp only [Cx.nox,Cx.wish,cxOf]
 obtain ⟨l1,g1,g2⟩:=id hp
 obtain ⟨l2,k1,k2⟩:=id hq
 refine ⟨_,rfl,a,_,_,_,rfl,rfl,SqT.of g1,rfl,_,rfl,a,_,_,_,rfl,rfl,SqT.of g1,rfl,_,rfl,b,_,_,_,rfl,rfl,SqT.of k1,rfl,_,_,rfl,rfl,_,_,rfl,?_⟩
 refine ⟨_,rfl,a,_,_,_,rfl,rfl,SqT.of g1,rfl,_,rfl,b,_,_,_,rfl,rfl,SqT.of k1,rfl,_,_,rfl,rfl,?_⟩
 refine ⟨_,rfl,a,_,_,_,rfl,rfl,SqT.of g1,rfl,_,rfl,b,_,_,_,rfl,rfl,SqT.of k1,rfl,?_⟩
 refine ⟨l1,l2,_,_,rfl,rfl,g2,k2,by rw [List.length_map,List.length_map,sizeLine_eq];omega,fun l3 hl3=>⟨(by show 3≤sizeLine;decide),fun T hT=>?_⟩⟩
 have s1:=qA2 hl3 (.lst (p.wks.map V.int++q.wks.map V.int))
 have sT:=s1.trans (qA2 hT (.tup [.int (if p.g+q.r > p.r then p.g+q.r else p.r),.int (p.g+q.g),.ref l3]))
 refine qq T l3 _ sT hl3 qA1 ?_
 have e:(qGY p q).wks.map V.int=p.wks.map V.int++q.wks.map V.int:=by show (p.wks++q.wks).map V.int=_;rw [List.map_append]
 rw [e,qA7 (qA5 qA1 hT)]
 exact qA1
theorem sc_joined_parts:FnScope ["parts","told","part","last"] ["parts"] (qAB qCY):=⟨rfl,rfl,rfl,by decide +kernel,rfl,by decide +kernel,by decide +kernel⟩
theorem ok_joined_parts (F:Fun K "joined_parts" "joined_parts" qCY f fd) (qJ8:Clb P w K mg base 1 qJ5 qOL "joined" ["one","other"] qQN):FnOk P w K mg base CX0 2 f fd ["parts"] qQO:=by
 refine F.ok sc_joined_parts (fun vs H Q E h=>?_) (fun cdv A outer s H vs Q E hr h=>?_)
 ·obtain ⟨a,rs,ps,rfl,_⟩:=h
  rfl
 obtain ⟨a,rs,ps,rfl,hA,hP,lz,lp,qq⟩:=h
 refine ⟨_,(qA4 (qAE (i:=1) sc_joined_parts.nd rfl (Or.inl rfl) (qB8 qA3)) (qA4 (qBM PassesOwn.never rfl (qC1 (pv 0)) (qAA (i:=2) sc_joined_parts.nd rfl (Or.inl rfl)) (qA4 (qAE (i:=3) sc_joined_parts.nd rfl (Or.inl rfl) (pv 2)) (qA4 (qQZ PassesOwn.never (PW.pt (qQW (qVX (pv 1) (fun _=>rfl)) (qM5 (PW.pt (qPI (qB3 qa6 (qB2 qBB (pv 3) qA9 (fun _ _=>rfl)) qA9 (qB9 _)) (qJO (qB3 qYF (qAU qDC (qB2 qBB (qB2 qF3 (pv 1) (qNN qII qA9) (fun _ _=>rfl)) qA9 (fun _ _=>rfl)) (qB2 qBB (pv 3) qA9 (fun _ _=>rfl))) (qB2 qBB (qB2 qF3 (pv 1) (qNN qII qA9) (fun _ _=>rfl)) qA9 (fun _ _=>rfl)) (qB9 _)))))))) (qA6 (qAE (i:=3) sc_joined_parts.nd rfl (Or.inl rfl) (qAQ qJ8 hr rfl (qA0 (qXG PySem.F.plainAttrs_list PySem.F.slot_list_pop PySem.F.type_list_pop qaB (pv 1)) (qA0 (pv 3) qA3)))))) (qA6 (qCO (qJS PySem.F.plainAttrs_list PySem.F.slot_list_append PySem.F.type_list_append qDD (pv 1) (qA0 (pv 3) qA3))))))) (qA6 (qAL (pv 1))))),?_⟩
 try dsimp only [Cx.nox,Cx.wish,cxOf]
 refine cut fun N0 hN0=>?_
 refine ⟨(by show 0≤sizeLine;decide),fun lt hlt=>?_⟩
 have s1:=qA2 hlt (.lst [])
 have g1:(upd H lt (.lst [])) lt=some (.lst (([]:List Addr).reverse.map V.ref)):=qA1
 generalize upd H lt (.lst [])=H1 at s1 g1 ⊢
 refine hN0 _ _ ?_
 refine ⟨_,rfl,a,rfl,⟨_,SqL.of (s1 _ _ hA)⟩,qCR (a:=a) (xs:=rs.map V.ref) (fun i σ Hc=>∃ (srs:List Addr) (v2 v3:Option V),σ=[some (.ref a),some (.ref lt),v2,v3]∧Same H Hc∧Hc lt=some (.lst (srs.reverse.map V.ref))∧Paired (PrtX lt Hc) srs (jrun [] (ps.take i))∧(qAI (jrun [] (ps.take i))).length=(qAI (ps.take i)).length∧(jrun [] (ps.take i)).length≤i)
  ⟨[],none,none,rfl,s1,g1,.nil,rfl,Nat.le_refl _⟩ (fun i σ Hc _ ⟨_,_,_,_,sm,_⟩=>SqL.of (sm _ _ hA)) ?_ ?_⟩
 ·refine fun i x σ Hc hx hI_1=>opq fun G_1 hG_1=>?_
  obtain ⟨srs,v2,v3,rfl,sc,gt,PX,lw,li⟩:=hI_1
  obtain ⟨T0,e0,rfl⟩:=qIA hx
  obtain ⟨p,ep,hp⟩:=qDS hP e0
  refine hG_1 ?_
  have hi:=(List.getElem?_eq_some_iff.mp ep).1
  have ej:jrun [] (ps.take (i+1))=qDE (jrun [] (ps.take i)) p:=by rw [List.take_add_one,ep,Option.toList_some,qK7]
  have ew:(qAI (ps.take (i+1))).length=(qAI (ps.take i)).length+p.wks.length:=by rw [List.take_add_one,ep,Option.toList_some,qAW,qC3,List.length_append]
  have ew2:(qAI (ps.take (i+1))).length≤63:=by
   have:qAI ps=qAI (ps.take (i+1))++qAI (ps.drop (i+1)):=by rw [← qAW,List.take_append_drop]
   rw [this,List.length_append] at lz
   omega
  have jl:=qOE (jrun [] (ps.take i)) p
  refine cut fun M0 hM0=>?_
  refine ⟨_,rfl,?_⟩
  refine hM0 _ _ (cut fun M1 hM1=>?_)
  have fin:∀ (st:List Prt) (last:Prt) (T:Addr) (srs:List Addr) (Hd:Hp),Same H Hd→Hd lt=some (.lst (srs.reverse.map V.ref))→Paired (PrtX lt Hd) srs st→PrtX lt Hd T last→last::st=qDE (jrun [] (ps.take i)) p→M1 [some (.ref a),some (.ref lt),some (.ref T0),some (.ref T)] Hd:=by
   intro st last T srs Hd sd gd PX hT e
   have ls:=Paired.length PX
   have le:=congrArg List.length e
   rw [List.length_cons] at le
   refine hM1 _ _ ?_
   refine ⟨_,rfl,.inl ⟨rfl,_,SqL.of gd⟩,_,rfl,lt,_,_,rfl,rfl,gd,qC0 (by rw [List.length_map,List.length_reverse];omega),?_⟩
   refine ⟨T::srs,_,_,rfl,qAG sd hlt,by rw [qA1,List.reverse_cons,List.map_append];rfl,?_,?_,?_⟩
   ·rw [ej,← e]
    exact .cons (hT.put gd) (qB0 PX fun _ _ z=>z.put gd)
   ·rw [ej,jl.1,ew,lw]
   ·rw [ej];have:=jl.2;omega
  refine ⟨fun m σ Hd=>∃ (srs:List Addr) (st:List Prt) (T:Addr) (last:Prt),σ=[some (.ref a),some (.ref lt),some (.ref T0),some (.ref T)]∧m=st.length∧Same H Hd∧Hd lt=some (.lst (srs.reverse.map V.ref))∧Paired (PrtX lt Hd) srs st∧PrtX lt Hd T last∧qDE st last=qDE (jrun [] (ps.take i)) p∧(qAI st).length+last.wks.length≤63∧st.length≤63,
   ⟨_,srs,_,T0,p,rfl,rfl,sc,gt,PX,(hp.out hlt).same sc,rfl,by omega,by omega⟩,?_⟩
  refine fun m σ Hd hI_2=>opq fun G_2 hG_2=>?_
  obtain ⟨srs,st,T,last,rfl,rfl,sd,gd,PX,hT,ejs,lw4,ls4⟩:=hI_2
  refine hG_2 ?_
  refine ⟨_,rfl,_,.inl ⟨_,SqL.of gd,rfl⟩,?_⟩
  cases PX with
  | nil=>
   refine iteF ?_
   refine iteF ?_
   exact fin [] last T [] Hd sd gd .nil hT ejs
  | @cons r b srs st hr' PX=>
   have nr:(!((r::srs).reverse.map V.ref).isEmpty)=true:=by simp
   rw [if_pos nr]
   obtain ⟨lb,nb,g2,g3⟩:=id hr'
   obtain ⟨ll,nl,k2,k3⟩:=id hT
   have lat:atI ((r::srs).reverse.map V.ref) (-1)=some (.ref r):=by rw [List.reverse_cons,List.map_append];exact qX4 _ _
   have lwb:(qAI (b::st)).length=b.wks.length+(qAI st).length:=by
    show (qAI ([b]++st)).length=_
    rw [qAW,qC3,List.length_append]
   refine ⟨_,rfl,T,_,_,_,rfl,rfl,SqT.of k2,rfl,_,_,rfl,rfl,_,rfl,?_⟩
   refine ite2 (fun c1=>?_) (fun c1=>?_)
   ·have cc:last.g≤0∨b.r≤b.g+last.r:=.inl (of_decide_eq_true c1)
    have ec:qDE st (qGY b last)=qDE (jrun [] (ps.take i)) p:=by rw [← ejs];show _=(if last.g≤0∨b.r≤b.g+last.r then _ else _);rw [if_pos cc]
    refine ⟨fun σ' H'=>∃ (srs:List Addr) (st':List Prt) (T:Addr) (last:Prt),σ'=[some (.ref a),some (.ref lt),some (.ref T0),some (.ref T)]∧st'.length<(b::st).length∧Same H H'∧H' lt=some (.lst (srs.reverse.map V.ref))∧Paired (PrtX lt H') srs st'∧PrtX lt H' T last∧qDE st' last=qDE (jrun [] (ps.take i)) p∧(qAI st').length+last.wks.length≤63∧st'.length≤63,
     fun σ' H' ⟨srs',st',T',last',e,l',z⟩=>⟨_,l',srs',st',T',last',e,rfl,z⟩,?_⟩
    refine ⟨_,rfl,.inl ⟨rfl,_,SqL.of gd⟩,lt,_,_,rfl,rfl,gd,qHL.1,?_⟩
    rw [qHL.2]
    have PX5:Paired (PrtX lt (upd Hd lt (.lst (srs.reverse.map V.ref)))) srs st:=qB0 PX fun _ _ z=>z.put gd
    have hr5:=hr'.put (o:=.lst (srs.reverse.map V.ref)) gd
    have hT5:=hT.put (o:=.lst (srs.reverse.map V.ref)) gd
    have s5:Same H (upd Hd lt (.lst (srs.reverse.map V.ref))):=qAG sd hlt
    have g5:(upd Hd lt (.lst (srs.reverse.map V.ref))) lt=some (.lst (srs.reverse.map V.ref)):=qA1
    generalize upd Hd lt (.lst (srs.reverse.map V.ref))=H5 at PX5 hr5 hT5 s5 g5 ⊢
    refine ⟨_,rfl,r,T,b,last,rfl,hr5.at_,hT5.at_,by omega,fun T' l' H6 s6 fl' gT' gl'=>?_⟩
    refine ⟨srs,st,T',qGY b last,rfl,by rw [List.length_cons];omega,s5.trans s6,s6 _ _ g5,qB0 PX5 fun _ _ z=>z.same s6,⟨l',(qA5 g5 fl').symm,gT',gl'⟩,ec,?_,by rw [List.length_cons] at ls4;omega⟩
    show (qAI st).length+(b.wks++last.wks).length≤63
    rw [List.length_append]
    omega
   ·refine ⟨_,rfl,_,rfl,lt,_,_,_,rfl,rfl,SqL.of gd,lat,r,_,_,_,rfl,rfl,SqT.of g2,rfl,_,rfl,T,_,_,_,rfl,rfl,SqT.of k2,rfl,_,_,rfl,rfl,_,rfl,_,rfl,lt,_,_,_,rfl,rfl,SqL.of gd,lat,r,_,_,_,rfl,rfl,SqT.of g2,rfl,_,_,rfl,rfl,_,rfl,?_⟩
    refine ite2 (fun c2=>?_) (fun c2=>?_)
    ·have cc:last.g≤0∨b.r≤b.g+last.r:=.inr (of_decide_eq_true c2)
     have ec:qDE st (qGY b last)=qDE (jrun [] (ps.take i)) p:=by rw [← ejs];show _=(if last.g≤0∨b.r≤b.g+last.r then _ else _);rw [if_pos cc]
     refine ⟨fun σ' H'=>∃ (srs:List Addr) (st':List Prt) (T:Addr) (last:Prt),σ'=[some (.ref a),some (.ref lt),some (.ref T0),some (.ref T)]∧st'.length<(b::st).length∧Same H H'∧H' lt=some (.lst (srs.reverse.map V.ref))∧Paired (PrtX lt H') srs st'∧PrtX lt H' T last∧qDE st' last=qDE (jrun [] (ps.take i)) p∧(qAI st').length+last.wks.length≤63∧st'.length≤63,
      fun σ' H' ⟨srs',st',T',last',e,l',z⟩=>⟨_,l',srs',st',T',last',e,rfl,z⟩,?_⟩
     refine ⟨_,rfl,.inl ⟨rfl,_,SqL.of gd⟩,lt,_,_,rfl,rfl,gd,qHL.1,?_⟩
     rw [qHL.2]
     have PX5:Paired (PrtX lt (upd Hd lt (.lst (srs.reverse.map V.ref)))) srs st:=qB0 PX fun _ _ z=>z.put gd
     have hr5:=hr'.put (o:=.lst (srs.reverse.map V.ref)) gd
     have hT5:=hT.put (o:=.lst (srs.reverse.map V.ref)) gd
     have s5:Same H (upd Hd lt (.lst (srs.reverse.map V.ref))):=qAG sd hlt
     have g5:(upd Hd lt (.lst (srs.reverse.map V.ref))) lt=some (.lst (srs.reverse.map V.ref)):=qA1
     generalize upd Hd lt (.lst (srs.reverse.map V.ref))=H5 at PX5 hr5 hT5 s5 g5 ⊢
     refine ⟨_,rfl,r,T,b,last,rfl,hr5.at_,hT5.at_,by omega,fun T' l' H6 s6 fl' gT' gl'=>?_⟩
     refine ⟨srs,st,T',qGY b last,rfl,by rw [List.length_cons];omega,s5.trans s6,s6 _ _ g5,qB0 PX5 fun _ _ z=>z.same s6,⟨l',(qA5 g5 fl').symm,gT',gl'⟩,ec,?_,by rw [List.length_cons] at ls4;omega⟩
     show (qAI st).length+(b.wks++last.wks).length≤63
     rw [List.length_append]
     omega
    ·have n1:¬ last.g≤0:=fun z=>c1 (decide_eq_true z)
     have n2:¬ b.r≤b.g+last.r:=fun z=>c2 (decide_eq_true z)
     refine fin (b::st) last T (r::srs) Hd sd gd (.cons hr' PX) hT ?_
     rw [← ejs]
     show _=(if last.g≤0∨b.r≤b.g+last.r then _ else _)
     rw [if_neg (by omega)]
 ·refine fun σ Hc hI_3=>opq fun G_3 hG_3=>?_
  obtain ⟨srs,v2,v3,rfl,sc,gt,PX,lw,li⟩:=hI_3
  refine hG_3 ?_
  rw [List.length_map,Paired.length hP,qAO rfl] at PX
  exact ⟨_,rfl,qq lt srs.reverse Hc sc hlt gt (qPM (qB0 PX fun _ _ e=>e.at_))⟩
end
section
variable {P:Program} {w:World} {K:PySem.W.Frag} {mg:Str→Option Value} {base:Heap} {f:Addr} {fd:FuncData} {Pt cc:Addr} {qD3:Addr} {qFR:FuncData}
theorem sc_parts_over:FnScope ["net","wides","work","own","parts","need","given_up"] ["net","wides","work","own"] (qAB qC4):=⟨rfl,rfl,rfl,by decide +kernel,rfl,by decide +kernel,by decide +kernel⟩
theorem ok_parts_over (F:Fun K "parts_over" "parts_over" qC4 f fd) (hcd:fd.code=.ref cc) (hBM:BM mg base) (qCA:hdIn K cc Pt=true) (qD8:Clb P w K mg base 2 qD3 qFR "joined_parts" ["parts"] qQO) (qAV:mg "sorted" = none) (qLN:mg "sum" = none):FnOk P w K mg base CX0 3 f fd ["net","wides","work","own"] (qJK Pt):=by
 refine F.okL hcd sc_parts_over (fun vs H Q E h=>?_) (fun A outer s H vs Q E hr h=>?_)
 ·obtain ⟨a,t,own,net,ws,ks,z,ad,F,rfl,_⟩:=h
  rfl
 obtain ⟨a,t,own,net,ws,ks,z,ad,F,rfl,hTab,hN,wf,n400,WD,z0,z1,gown,hF,lw,lp,qq⟩:=h
 have hu:=qKA hr
 have rm:Room 2 _:=hr
 refine ⟨_,(qA4 (qAE (i:=4) sc_parts_over.nd rfl (Or.inl rfl) (qB8 qA3)) (qA4 (qBM PassesOwn.never rfl (qE7 (qB2 qBB (pv 0) (pv 2) (fun _ _=>rfl))) (qAA (i:=5) sc_parts_over.nd rfl (Or.inl rfl)) (qA6 (qCO (qJS PySem.F.plainAttrs_list PySem.F.slot_list_extend PySem.F.type_list_extend qJY (pv 4) (qA0 (qCP hu (pv 3) (pv 5) (fun _ _=>rfl)) qA3))))) (qA4 (qAE (i:=4) sc_parts_over.nd rfl (Or.inl rfl) (qW0 (p:="part") (fv:=[]) (q:="parts_over.<locals>.<lambda>") rm rfl qAV qEX hBM rfl qCA (by kernel_rfl) (lms (by kernel_rfl)) rfl (fun _ _ _ _ _=>rfl) (qA0 (pv 4) qA3) (fun z1=>(qAU qFK (qB2 (qFO (K:=K) rfl) (pv 0) qA9 (fun _ _=>rfl)) (qB2 (qFO (K:=K) rfl) (pv 0) qA9 (fun _ _=>rfl)))))) (qA4 (qAE (i:=6) sc_parts_over.nd rfl (Or.inl rfl) (qA8 (qRR rfl) rfl qLN qXT (qA0 (qIR rfl (lcs (own:=["need"]) (fv:=[1]) (by kernel_rfl)) (qE7 (qB2 qBB (pv 0) (pv 2) (fun _ _=>rfl))) (fun z2=>qAA (i:=0) (qEL (by kernel_rfl)) rfl (Or.inl rfl)) (fun z2=>qCT) (fun z2=>(qB2 (qFO (K:=K) rfl) (pv 1) (pv 0) (fun _ _=>rfl)))) qA3))) (qA6 (qAL (qAQ qD8 hr rfl (qA0 (qAU qJX (pv 4) (qB8 (qA0 (qEV (qA0 (qB2 qBB (pv 1) (pv 2) (fun _ _=>rfl)) (qA0 (qAU qFK (qB2 qBB (pv 1) (pv 2) (fun _ _=>rfl)) (pv 6)) (qA0 (qB8 (qA0 (pv 2) qA3)) qA3)))) qA3))) qA3)))))))),?_⟩
 try dsimp only [Cx.nox,Cx.wish,cxOf]
 have hw:z.toNat<net.length:=by omega
 obtain ⟨rn,r,h1,l1,h2,h3⟩:=hN.get (List.getElem?_eq_getElem hw)
 have rz:=wf z.toNat _ (List.getElem?_eq_getElem hw)
 have en:=qAD (List.getElem?_eq_getElem hw)
 generalize net[z.toNat]=ys at h3 rz en
 rw [en] at hF lw lp
 have lys:=rz.len
 have hwd:∀ y,0≤y→y<(net.length:Int)→atI (ws.map V.int) y=some (.int (wdO ws y)):=fun y y0 y1=>by
  have hl:y.toNat<ws.length:=by have:=WD.2;omega
  refine qC2 y0 ?_
  rw [List.getElem?_map,List.getElem?_eq_getElem hl]
  unfold wdO
  rw [List.getElem?_eq_getElem hl]
  rfl
 refine cut fun N0 hN0=>?_
 refine ⟨(by show 0≤sizeLine;decide),fun la hla=>?_⟩
 have s1:=qA2 hla (.lst [])
 have g1:(upd H la (.lst [])) la=some (.lst (([]:List Addr).map V.ref)):=qA1
 generalize upd H la (.lst [])=H1 at s1 g1 ⊢
 refine hN0 _ _ (cut fun N1 hN1=>?_)
 have lflat:∀ j,(((ys.take j).map F).flatten).length≤62:=fun j=>by
  have e1:(ys.map F).flatten=((ys.take j).map F).flatten++((ys.drop j).map F).flatten:=by rw [← List.flatten_append,← List.map_append,List.take_append_drop]
  rw [e1,List.length_append] at lp
  omega
 refine ⟨_,rfl,_,rfl,a,_,_,_,rfl,rfl,SqT.of (s1 _ _ h1),qC2 z0 h2,r,rfl,⟨_,SqT.of (s1 _ _ h3)⟩,qF4 (a:=r) (xs:=ys.map V.int) (fun j σ Hx=>∃ (v5:Option V) (qs:List Addr),σ=[some (.ref a),some (.ref t),some (.int z),some (.ref own),some (.ref la),v5,none]∧Same H Hx∧Hx la=some (.lst (qs.map V.ref))∧PrtL H qs ((ys.take j).map F).flatten)
  ⟨none,[],rfl,s1,g1,.nil⟩ (fun j σ Hx _ ⟨_,_,_,sx,_⟩=>SqT.of (sx _ _ h3)) ?_ ?_⟩
 ·refine fun j x σ Hx hx hI_1=>opq fun G_1 hG_1=>?_
  obtain ⟨v5,qs,rfl,sx,gx,PQ⟩:=hI_1
  obtain ⟨y,ey,rfl⟩:=qAM hx
  refine hG_1 ?_
  have my:=List.mem_of_getElem? ey
  obtain ⟨yk,rs,gy,Py⟩:=hF y my
  have hg:=DGet.k (k:=Sum.inl y) (sx _ _ gown)
  rw [qF2 (g:=fun z=>V.ref (ad z)) yk] at hg
  have ef:((ys.take (j+1)).map F).flatten=((ys.take j).map F).flatten++F y:=by rw [List.take_add_one,ey,Option.toList_some,List.map_append,List.flatten_append];simp
  have lj:=lflat (j+1)
  rw [ef,List.length_append] at lj
  have lq:=Paired.length PQ
  have lr:=Paired.length Py
  refine ⟨_,rfl,.inl ⟨rfl,_,SqL.of gx⟩,_,rfl,_,rfl,own,_,rfl,hg,la,ad y,_,_,rfl,rfl,gx,sx _ _ gy,by rw [List.length_map,List.length_map,sizeLine_eq];omega,?_⟩
  rw [← List.map_append]
  exact ⟨_,qs++rs,rfl,qAG sx hla,qA1,by rw [ef];exact qL7 PQ Py⟩
 refine fun σ Hx hI_2=>opq fun G_2 hG_2=>?_
 obtain ⟨v5,qs,rfl,sx,gx,PQ⟩:=hI_2
 refine hG_2 ?_
 rw [List.length_map,qAO rfl] at PQ
 have lq:=Paired.length PQ
 refine hN1 _ _ (cut fun N2 hN2=>?_)
 refine ⟨_,rfl,sx _ _ hTab,la,qs.map V.ref,(ys.map F).flatten.map (fun q=>[kyS q.s]),rfl,.inr (SqL.of gx),by rw [List.length_map];omega,by rw [List.length_map,List.length_map,lq],?_,fun H5 D rs5 s5 hD pm so=>?_⟩
 ·intro i x k hx hk2 Hc sc
  obtain ⟨T,eT,rfl⟩:=qIA hx
  obtain ⟨p,ep,l,hp,_⟩:=qDS PQ eT
  rw [List.getElem?_map,ep] at hk2
  cases hk2
  have gT:=sc _ _ (sx _ _ hp)
  exact ⟨_,rfl,T,_,_,_,rfl,rfl,SqT.of gT,rfl,_,rfl,T,_,_,_,rfl,rfl,SqT.of gT,rfl,_,_,rfl,rfl,fun _ _ e=>e,_,rfl,rfl⟩
 obtain ⟨rs2,srt,ps2,P2,so2,e2⟩:=qbE PQ pm so
 rw [e2]
 have sD:=qA2 hD (.lst (rs2.map V.ref))
 have gD:(upd H5 D (.lst (rs2.map V.ref))) D=some (.lst (rs2.map V.ref)):=qA1
 have s6:Same H (upd H5 D (.lst (rs2.map V.ref))):=fun b o e=>sD b o (s5 b o (sx b o e))
 generalize upd H5 D (.lst (rs2.map V.ref))=H6 at gD s6 ⊢
 have l2:=Paired.length P2
 have l3:=ps2.length_eq
 refine hN2 _ _ (cut fun N3 hN3=>?_)
 refine ⟨_,rfl,_,rfl,a,_,_,_,rfl,rfl,SqT.of (s6 _ _ h1),qC2 z0 h2,r,rfl,⟨_,SqT.of (s6 _ _ h3)⟩,fun p hp=>?_⟩
 refine qLD (p:=p) (a:=r) (xs:=ys.map V.int) (fun j σ Hc=>∃ (v:Option V),σ=[v,some (.ref t)]∧Same H6 Hc∧Hc p=some (.lst (((ys.take j).map (wdO ws)).map V.int))) ?_ ?_ ?_ ?_
 ·exact ⟨none,rfl,qA2 hp _,qA1⟩
 ·rintro j σ Hc hj ⟨v,rfl,sc,_⟩
  exact SqT.of (sc _ _ (s6 _ _ h3))
 ·refine fun j x σ Hc hx hI_4=>opq fun G_4 hG_4=>?_
  obtain ⟨v,rfl,sc,hpc⟩:=hI_4
  obtain ⟨y,ey,rfl⟩:=qAM hx
  refine hG_4 ?_
  have yb:=rz.in_ y (List.mem_of_getElem? ey)
  have lj:=(List.getElem?_eq_some_iff.mp ey).1
  refine ⟨_,rfl,_,rfl,t,_,_,_,rfl,rfl,SqT.of (sc _ _ (s6 _ _ WD.1)),hwd y yb.1 (by omega),_,hpc,qC0 (by rw [List.length_map,List.length_map,List.length_take];omega),_,rfl,qAG sc hp,?_⟩
  rw [qA1,List.take_add_one,ey,Option.toList_some,List.map_append,List.map_append]
  rfl
 refine fun σ Hc hI_5=>opq fun G_5 hG_5=>?_
 obtain ⟨v,rfl,sc,hpc⟩:=hI_5
 refine hG_5 ?_
 rw [List.length_map,qAO rfl] at hpc
 refine ⟨p,_,rfl,SqL.of hpc,?_⟩
 have es:(ys.map (wdO ws)).sum=sumW ws (nd net z):=by rw [en];rfl
 rw [es]
 have s7:=s6.trans sc
 have gD7:=sc _ _ gD
 refine hN3 _ _ ?_
 refine ⟨_,rfl,_,rfl,_,rfl,t,_,_,_,rfl,rfl,SqT.of (s7 _ _ WD.1),hwd z z0 z1,_,rfl,_,rfl,t,_,_,_,rfl,rfl,SqT.of (s7 _ _ WD.1),hwd z z0 z1,_,rfl,_,_,rfl,rfl,_,rfl,(by show 1≤sizeLine;decide),fun l4 hl4=>⟨(by show 3≤sizeLine;decide),fun T4 hT4=>⟨(by show 1≤sizeLine;decide),fun l5 hl5=>?_⟩⟩⟩
 have u4:=qA2 hl4 (.lst [.int z])
 have g4:(upd Hc l4 (.lst [.int z])) l4=some (.lst ([z].map V.int)):=qA1
 generalize upd Hc l4 (.lst [.int z])=H8 at u4 g4 hT4 hl5 ⊢
 have u5:=qA2 hT4 (.tup [.int (wdO ws z),.int (wdO ws z - sumW ws (nd net z)),.ref l4])
 have gT4:(upd H8 T4 (.tup [.int (wdO ws z),.int (wdO ws z - sumW ws (nd net z)),.ref l4])) T4=some (.tup [.int (qS3 net ws z).r,.int (qS3 net ws z).g,.ref l4]):=qA1
 generalize upd H8 T4 (.tup [.int (wdO ws z),.int (wdO ws z - sumW ws (nd net z)),.ref l4])=H9 at u5 gT4 hl5 ⊢
 have u6:=qA2 hl5 (.lst [.ref T4])
 refine ⟨D,l5,_,[V.ref T4],rfl,rfl,u6 _ _ (u5 _ _ (u4 _ _ gD7)),qA1,by rw [List.length_map,List.length_singleton,sizeLine_eq];omega,fun l6 hl6=>?_⟩
 have e6:rs2.map V.ref++[V.ref T4]=(rs2++[T4]).map V.ref:=by rw [List.map_append];rfl
 rw [e6]
 have u7:=u6.trans (qA2 hl6 (.lst ((rs2++[T4]).map V.ref)))
 have g6:(upd (upd H9 l5 (.lst [.ref T4])) l6 (.lst ((rs2++[T4]).map V.ref))) l6=some (.lst ((rs2++[T4]).map V.ref)):=qA1
 generalize upd (upd H9 l5 (.lst [.ref T4])) l6 (.lst ((rs2++[T4]).map V.ref))=Ha at u7 g6 ⊢
 have sa:=s7.trans (u4.trans (u5.trans u7))
 have root:PrtAt Ha T4 (qS3 net ws z):=⟨l4,u7 _ _ gT4,u7 _ _ (u5 _ _ g4)⟩
 have lws:(qAI srt).length=(qAI (ys.map F).flatten).length:=((ps2.map Prt.wks).flatten).length_eq
 refine ⟨l6,rs2++[T4],srt++[qS3 net ws z],rfl,g6,qL7 (PrtL.same P2 sa) (.cons root .nil),?_,by rw [List.length_append,List.length_singleton];omega,fun l rs' H' s' fl' gl' PL'=>?_⟩
 ·rw [qAW,qC3,List.length_append]
  show _+1≤63
  omega
 ·exact qq l rs' srt H' (sa.trans s') (sa.free fl') (by rw [en];exact ps2) so2 gl' PL'
end
section
variable {P:Program} {w:World} {K:PySem.W.Frag} {mg:Str→Option Value} {base:Heap} {f:Addr} {fd:FuncData} {Pt:Addr} {qBJ qB5 qDF qCK qCJ:Addr} {qBZ qBI qMN qCW qDO:FuncData}
theorem sc_wide_order:FnScope ["net","wides","work","own","other","order","part"] ["net","wides","work"] (qAB qE2):=⟨rfl,rfl,rfl,by decide +kernel,rfl,by decide +kernel,by decide +kernel⟩
theorem ok_wide_order (F:Fun K "wide_order" "wide_order" qE2 f fd) (qAP:Clb P w K mg base 3 qBJ qBZ "demand_tree" ["net","work"] qH8) (qAK:Clb P w K mg base 1 qB5 qBI "all_needed" ["net","asked"] qTD) (qEH:Clb P w K mg base 3 qDF qMN "parts_over" ["net","wides","work","own"] (qJK Pt)):FnOk P w K mg base CX0 4 f fd ["net","wides","work"] (qGP Pt):=by
 refine F.ok sc_wide_order (fun vs H Q E h=>?_) (fun cdv A outer s H vs Q E hr h=>?_)
 ·obtain ⟨a,t,net,ws,work,rfl,_⟩:=h
  rfl
 obtain ⟨a,t,net,ws,work,rfl,hTab,⟨NI,WD,w1,iT⟩,q⟩:=h
 have hu:=qKA hr
 refine ⟨_,(qA4 (qCO (qAQ qAP hr rfl (qA0 (pv 0) (qA0 (pv 2) qA3)))) (qA4 (qAE (i:=3) sc_wide_order.nd rfl (Or.inl rfl) qGD) (qA4 (qBM PassesOwn.never rfl (qC1 (qAQ qAK hr rfl (qA0 (pv 0) (qA0 (qEV (qA0 (pv 2) qA3)) qA3)))) (qAA (i:=4) sc_wide_order.nd rfl (Or.inl rfl)) (qA6 (qFH hu (pv 3) (pv 4) (qAQ qEH hr rfl (qA0 (pv 0) (qA0 (pv 1) (qA0 (pv 4) (qA0 (pv 3) qA3))))) rfl))) (qA4 (qAE (i:=5) sc_wide_order.nd rfl (Or.inl rfl) (qB8 qA3)) (qA4 (qBM PassesOwn.never rfl (qC1 (qCP hu (pv 3) (pv 2) (fun _ _=>rfl))) (qAA (i:=6) sc_wide_order.nd rfl (Or.inl rfl)) (qA6 (qCO (qJS PySem.F.plainAttrs_list PySem.F.slot_list_extend PySem.F.type_list_extend qJY (pv 5) (qA0 (qB2 qBB (pv 6) qA9 (fun _ _=>rfl)) qA3))))) (qA6 (qAL (pv 5)))))))),?_⟩
 try dsimp only [Cx.nox,Cx.wish,cxOf]
 obtain ⟨hN,wf,n400,wk0,wk1⟩:=id NI
 refine cut fun N0 hN0=>?_
 refine ⟨_,rfl,_,rfl,a,net,work,rfl,NI,iT,fun H1 s1=>?_⟩
 refine hN0 _ _ (cut fun N1 hN1=>?_)
 intro dn hdn
 have s2:=s1.trans (qA2 hdn (.dK []))
 have gd2:(upd H1 dn (.dK [])) dn=some (.dK (kvsV [] fun _=>V.non)):=qA1
 have fdn:H dn=none:=s1.free hdn
 generalize upd H1 dn (.dK [])=H2 at s2 gd2 ⊢
 refine hN1 _ _ (cut fun N2 hN2=>?_)
 refine ⟨_,rfl,_,rfl,(by show 1≤sizeLine;decide),fun ta hta=>?_⟩
 have sta:=qA2 hta (.tup [.int work])
 have gta:(upd H2 ta (.tup [.int work])) ta=some (.tup ([work].map V.int)):=qA1
 have s3:=s2.trans sta
 have gd3:=sta _ _ gd2
 generalize upd H2 ta (.tup [.int work])=H3 at gta s3 gd3 ⊢
 refine ⟨a,ta,net,[work],rfl,hN.same s3,wf,by omega,gta,(fun x hx=>by rw [List.mem_singleton.mp hx];omega),fun lw zs H4 s4 f4 gw N=>?_⟩
 have lz:=N.1.len
 have s5:=s3.trans s4
 have gd4:=s4 _ _ gd3
 have nwd:lw ≠ dn:=qC9 gw gd4 (by intro z;cases z)
 have T:=qIJ wf n400 N iT
 refine ⟨lw,rfl,⟨_,SqL.of gw⟩,qCR (a:=lw) (xs:=zs.map V.int) (fun i σ Hc=>∃ (ad:Int→Addr) (Fp:Int→List Prt) (v4 v5 v6:Option V),σ=[some (.ref a),some (.ref t),some (.int work),some (.ref dn),v4,v5,v6]∧Same H Hc∧Hc lw=some (.lst (zs.map V.int))∧Hc dn=some (.dK (kvsV (zs.take i) fun z=>.ref (ad z)))∧∀ z ∈ zs.take i,PrtOk net ws z (Fp z)∧∃ rs:List Addr,Hc (ad z)=some (.lst (rs.map V.ref))∧PrtL Hc rs (Fp z))
  ⟨fun _=>a,fun _=>[],none,none,none,rfl,s5,gw,gd4,fun z hz=>by simp at hz⟩ (fun i σ Hc _ ⟨_,_,_,_,_,_,_,g,_⟩=>SqL.of g) ?_ ?_⟩
 ·refine fun i x σ Hc hx hI_1=>opq fun G_1 hG_1=>?_
  obtain ⟨ad,Fp,v4,v5,v6,rfl,sc,gwc,gdc,PA⟩:=hI_1
  obtain ⟨z,ez,rfl⟩:=qAM hx
  refine hG_1 ?_
  have hi:=(List.getElem?_eq_some_iff.mp ez).1
  have hz:=List.mem_of_getElem? ez
  have zb:=N.1.in_ z hz
  have hys:∀ y ∈ nd net z,y ∈ zs.take i:=fun y hy=>(qCH wf N ez hy).1
  have kn:=qI8 (F:=Fp) T hz (nd net z) (T.nodup hz) fun y hy=>⟨hy,(PA y (hys y hy)).1.ord⟩
  have lk:(((nd net z).map fun y=>qAI (Fp y)).flatten).length+1≤63:=by
   have nz:(z::((nd net z).map fun y=>qAI (Fp y)).flatten).Nodup:=List.nodup_cons.mpr ⟨fun m=>by
    obtain ⟨l,hl,hm⟩:=List.mem_flatten.mp m
    obtain ⟨y,hy,rfl⟩:=List.mem_map.mp hl
    have:=qPR wf (((PA y (hys y hy)).1.ord.mem z).mp hm)
    have:=(T.has hz hy).2.1
    omega,kn⟩
   have:=qNW nz (n:=net.length) fun x hx=>by
    rcases List.mem_cons.mp hx with e | e
    ·rw [e];exact zb
    ·obtain ⟨l,hl,hm⟩:=List.mem_flatten.mp e
     obtain ⟨y,hy,rfl⟩:=List.mem_map.mp hl
     obtain ⟨yy,NY,sy⟩:=qEU T (T.has hz hy).1
     exact N.1.in_ x (sy x ((NY.2 x).mpr (((PA y (hys y hy)).1.ord.mem x).mp hm)))
   rw [List.length_cons] at this
   omega
  rw [← qLP] at lk
  have lk2:((nd net z).map Fp).flatten.length≤(qAI ((nd net z).map Fp).flatten).length:=qTN (net:=net) (ws:=ws) fun p hp=>by
   obtain ⟨l,hl,hm⟩:=List.mem_flatten.mp hp
   obtain ⟨y,hy,rfl⟩:=List.mem_map.mp hl
   exact (PA y (hys y hy)).1.eqv p hm
  refine ⟨_,rfl,_,rfl,_,rfl,_,rfl,a,t,dn,net,ws,zs.take i,z,ad,Fp,rfl,sc _ _ hTab,hN.same sc,wf,n400,⟨sc _ _ WD.1,WD.2⟩,zb.1,zb.2,gdc,(fun y hy=>⟨hys y hy,(PA y (hys y hy)).2⟩),by omega,by omega,fun l rs srt H6 s6 fl pm so gl PL=>?_⟩
  have ok:=qS8 T w1 hz (fun y hy=>(PA y (hys y hy)).1) pm so
  have gdy:=s6 _ _ gdc
  have zno:z ∉ zs.take i:=fun m=>by have:=qJG N ez m;omega
  have put:=DPut.k (k:=Sum.inl z) (v:=.ref l) gdy (qC0 (by unfold kvsV;rw [List.length_map,List.length_take];omega))
  rw [qRH zno] at put
  refine ⟨_,rfl,_,rfl,dn,_,rfl,put,?_⟩
  refine ⟨fun y=>if y=z then l else ad y,fun y=>if y=z then (jrun [] (srt++[qS3 net ws z])).reverse else Fp y,_,_,_,rfl,qAG (sc.trans s6) fdn,by rw [qA7 nwd];exact s6 _ _ gwc,?_,fun x hx=>?_⟩
  ·rw [qA1,List.take_add_one,ez,Option.toList_some]
   congr 3
   funext y
   show _=V.ref (if y=z then l else ad y)
   by_cases c:y=z
   ·rw [if_pos c,if_pos c]
   ·rw [if_neg c,if_neg c]
  ·rw [List.take_add_one,ez,Option.toList_some] at hx
   dsimp only
   rcases List.mem_append.mp hx with m | m
   ·have ne:x ≠ z:=fun e=>zno (e ▸ m)
    rw [if_neg ne,if_neg ne]
    obtain ⟨p1,rs',p2,p3⟩:=PA x m
    exact ⟨p1,rs',by rw [qA7 (qC9 (s6 _ _ p2) gdy (by intro z;cases z))];exact s6 _ _ p2,qB0 p3 fun _ _ e=>(e.same s6).dict gdy⟩
   ·have ex:=List.mem_singleton.mp m
    subst ex
    rw [if_pos rfl,if_pos rfl]
    exact ⟨ok,rs,by rw [qA7 (qC9 gl gdy (by intro z;cases z))];exact gl,qB0 PL fun _ _ e=>e.dict gdy⟩
 ·refine fun σ Hc hI_2=>opq fun G_2 hG_2=>?_
  obtain ⟨ad,Fp,v4,v5,v6,rfl,sc,gwc,gdc,PA⟩:=hI_2
  refine hG_2 ?_
  rw [List.length_map,qAO rfl] at gdc PA
  have hw:=qBU N
  have hg:=DGet.k (k:=Sum.inl work) gdc
  rw [qF2 (g:=fun z=>V.ref (ad z)) hw] at hg
  obtain ⟨ok,rs,p2,p3⟩:=PA work hw
  refine hN2 _ _ (cut fun N3 hN3=>?_)
  refine ⟨(by show 0≤sizeLine;decide),fun lo hlo=>?_⟩
  have s6:=qA2 hlo (.lst [])
  have g6:(upd Hc lo (.lst [])) lo=some (.lst (([]:List Int).map V.int)):=qA1
  have hg6:=DGet.k (k:=Sum.inl work) (s6 _ _ gdc)
  rw [qF2 (g:=fun z=>V.ref (ad z)) hw] at hg6
  generalize upd Hc lo (.lst [])=H6 at s6 g6 hg6 ⊢
  refine hN3 _ _ (cut fun N4 hN4=>?_)
  have lL:=(ok.ord.all T).2
  refine ⟨_,rfl,_,rfl,dn,_,rfl,hg6,ad work,rfl,⟨_,SqL.of (s6 _ _ p2)⟩,qCR (a:=ad work) (xs:=rs.map V.ref) (fun j σ Hx=>∃ (v6:Option V),σ=[some (.ref a),some (.ref t),some (.int work),some (.ref dn),v4,some (.ref lo),v6]∧Same Hc Hx∧Hx lo=some (.lst ((qAI ((Fp work).take j)).map V.int)))
   ⟨v6,rfl,s6,g6⟩ (fun j σ Hx _ ⟨_,_,sx,_⟩=>SqL.of (sx _ _ p2)) ?_ ?_⟩
  ·refine fun j x σ Hx hx hI_3=>opq fun G_3 hG_3=>?_
   obtain ⟨v6,rfl,sx,gx⟩:=hI_3
   obtain ⟨T1,eT,rfl⟩:=qIA hx
   obtain ⟨p,ep,l,h1,h2⟩:=qDS p3 eT
   refine hG_3 ?_
   have ew:qAI ((Fp work).take (j+1))=qAI ((Fp work).take j)++p.wks:=by rw [List.take_add_one,ep,Option.toList_some,qAW,qC3]
   have ll:(qAI ((Fp work).take (j+1))).length≤63:=by
    have:qAI (Fp work)=qAI ((Fp work).take (j+1))++qAI ((Fp work).drop (j+1)):=by rw [← qAW,List.take_append_drop]
    rw [this,List.length_append] at lL
    omega
   rw [ew,List.length_append] at ll
   refine ⟨_,rfl,.inl ⟨rfl,_,SqL.of gx⟩,_,rfl,T1,_,_,_,rfl,rfl,SqT.of (sx _ _ h1),rfl,lo,l,_,_,rfl,rfl,gx,sx _ _ h2,by rw [List.length_map,List.length_map,sizeLine_eq];omega,?_⟩
   rw [← List.map_append,← ew]
   exact ⟨_,rfl,qAG sx hlo,qA1⟩
  ·refine fun σ Hx hI_4=>opq fun G_4 hG_4=>?_
   obtain ⟨v6,rfl,sx,gx⟩:=hI_4
   refine hG_4 ?_
   rw [List.length_map,Paired.length p3,qAO rfl] at gx
   exact hN4 _ _ ⟨_,rfl,q lo _ Hx (sc.trans sx) (sc.free hlo) gx ⟨ok.ord,ok.best⟩⟩
theorem qM2:FnScope ["net","wides","work"] ["net","wides","work"] (qAB qE1):=⟨rfl,rfl,rfl,by decide +kernel,rfl,by decide +kernel,by decide +kernel⟩
theorem ok_wide_rooms (F:Fun K "wide_rooms" "wide_rooms" qE1 f fd) (qBF:Clb P w K mg base 1 qCK qCW "taken_by" ["net","wides","work","order"] qH7) (qBS:Clb P w K mg base 4 qCJ qDO "wide_order" ["net","wides","work"] (qGP Pt)) (qCM:mg "max" = none):FnOk P w K mg base CX0 5 f fd ["net","wides","work"] (qDV Pt):=by
 refine F.ok qM2 (fun vs H Q E h=>?_) (fun cdv A outer s H vs Q E hr h=>?_)
 ·obtain ⟨a,t,net,ws,work,rfl,_⟩:=h
  rfl
 obtain ⟨a,t,net,ws,work,rfl,hTab,SI,q⟩:=h
 refine ⟨_,(qA6 (qAL (qA8 (qDX rfl) rfl qCM qGM (qA0 (qAQ qBF hr rfl (qA0 (pv 0) (qA0 (pv 1) (qA0 (pv 2) (qA0 (qAQ qBS hr rfl (qA0 (pv 0) (qA0 (pv 1) (qA0 (pv 2) qA3)))) qA3))))) qA3)))),?_⟩
 try dsimp only [Cx.nox,Cx.wish,cxOf]
 obtain ⟨⟨hN,wf,n400,wk0,wk1⟩,WD,w1,iT⟩:=id SI
 refine ⟨_,rfl,_,rfl,_,rfl,_,rfl,_,rfl,_,rfl,a,t,net,ws,work,rfl,hTab,SI,fun l L H1 s1 fl gl B=>?_⟩
 obtain ⟨zs,N,tb⟩:=id iT
 have T:=qIJ wf n400 N iT
 obtain ⟨TO,lL⟩:=B.1.all T
 refine ⟨a,t,l,work,net,ws,L,rfl,hN.same s1,wf,n400,⟨s1 _ _ WD.1,WD.2⟩,gl,TO,lL,fun l2 H2 s2 f2 g2=>?_⟩
 have ne:∃ m,topD none (qB7 net ws L)=some m:=by
  have hm:0<L.length:=List.length_pos_of_mem ((B.1.mem work).mpr (.ask (List.mem_singleton.mpr rfl)))
  have le:(qB7 net ws L).length=L.length:=by unfold qB7;rw [List.length_map,List.length_range]
  cases e:qB7 net ws L with
  | nil=>rw [e] at le;simp at le;omega
  | cons x r=>exact ⟨_,rfl⟩
 obtain ⟨m,hm⟩:=ne
 exact ⟨l2,_,m,rfl,SqL.of g2,hm,q m L H2 (s1.trans s2) B hm⟩
end
section
variable {P:Program} {w:World} {K:PySem.W.Frag} {mg:Str→Option Value} {base:Heap} {f:Addr} {fd:FuncData}
def LPl (net:List (List Int)) (zs:List Int) (i:Nat) (y m:Int):Prop:=∀ j:Nat,(j:Int)≤m ↔ ∃ v ∈ (zs.take i).drop j,y ∈ nd net v
theorem qU7 {zs:List Int} {i:Nat} {w:Int} (h:zs[i]?=some w) {j:Nat}:(zs.take (i+1)).drop j=if j≤i then (zs.take i).drop j++[w] else []:=by
 have hi:=(List.getElem?_eq_some_iff.mp h).1
 by_cases c:j≤i
 ·rw [if_pos c,List.take_add_one,h,Option.toList_some,List.drop_append_of_le_length (by rw [List.length_take];omega)]
 ·rw [if_neg c]
  exact List.drop_eq_nil_of_le (by rw [List.length_take];omega)
theorem qaD {net:List (List Int)} {zs:List Int} {i:Nat} {w y:Int} (h:zs[i]?=some w) (c:y ∈ nd net w):LPl net zs (i+1) y (i:Int):=fun j=>by
 rw [qU7 h]
 by_cases e:j≤i
 ·rw [if_pos e]
  exact ⟨fun _=>⟨w,List.mem_append_right _ (List.mem_singleton.mpr rfl),c⟩,fun _=>by omega⟩
 ·rw [if_neg e]
  exact ⟨fun q=>by omega,fun ⟨_,q,_⟩=>nomatch q⟩
theorem qaC {net:List (List Int)} {zs:List Int} {i:Nat} {w y m:Int} (h:zs[i]?=some w) (c:y ∉ nd net w) (L:LPl net zs i y m):LPl net zs (i+1) y m:=fun j=>by
 rw [L j,qU7 h]
 by_cases e:j≤i
 ·rw [if_pos e]
  constructor
  ·refine fun hI_1=>opq fun G_1 hG_1=>?_
   obtain ⟨v,hv,q⟩:=hI_1
   refine hG_1 ?_
   exact ⟨v,List.mem_append_left _ hv,q⟩
  ·refine fun hI_2=>opq fun G_2 hG_2=>?_
   obtain ⟨v,hv,q⟩:=hI_2
   refine hG_2 ?_
   rcases List.mem_append.mp hv with r | r
   ·exact ⟨v,r,q⟩
   ·rw [List.mem_singleton.mp r] at q
    exact absurd q c
 ·rw [if_neg e,List.drop_eq_nil_of_le (by rw [List.length_take];omega)]
theorem sc_Ltaken:FnScope ["_law_net","_law_wides_here","_law_order","_law_last","_law_place","_law_one","_law_need","_law_found","_law_ahead"] ["_law_net","_law_wides_here","_law_order"] (qAB qJ0):=⟨rfl,rfl,rfl,by decide +kernel,rfl,by decide +kernel,by decide +kernel⟩
theorem ok_Ltaken (F:Fun K "_law_taken" "_law_taken" qJ0 f fd) (qAN:mg "enumerate" = none) (qLN:mg "sum" = none):FnOk P w K mg base CX0 1 f fd ["_law_net","_law_wides_here","_law_order"] qLY:=by
 refine F.ok sc_Ltaken (fun vs H Q E h=>?_) (fun cdv A outer s H vs Q E hr h=>?_)
 ·obtain ⟨a,t,lo,net,ws,zs,rfl,_⟩:=h
  rfl
 obtain ⟨a,t,lo,net,ws,zs,rfl,hN,wf,n400,⟨hT,lw⟩,hLo,TO,lz,q⟩:=h
 have hu:=qKA hr
 refine ⟨_,(qA4 (qAE (i:=3) sc_Ltaken.nd rfl (Or.inr rfl) qGD) (qA4 (qBM PassesOwn.never rfl (qJQ rfl qAN qDI (qA0 (pv 2) qA3)) (qL5 rfl (qBP (qAA (i:=4) sc_Ltaken.nd rfl (Or.inr rfl)) (qBP (qAA (i:=5) sc_Ltaken.nd rfl (Or.inl rfl)) qFJ))) (qA6 (qBM PassesOwn.never rfl (qE7 (qB2 qBB (pv 0) (pv 5) (fun _ _=>rfl))) (qAA (i:=6) sc_Ltaken.nd rfl (Or.inl rfl)) (qA6 (qFH hu (pv 3) (pv 6) (pv 4) rfl))))) (qA4 (qAE (i:=7) sc_Ltaken.nd rfl (Or.inl rfl) (qB8 qA3)) (qA4 (qBM PassesOwn.never rfl (qJQ rfl qAN qDI (qA0 (pv 2) qA3)) (qL5 rfl (qBP (qAA (i:=4) sc_Ltaken.nd rfl (Or.inr rfl)) (qBP (qAA (i:=5) sc_Ltaken.nd rfl (Or.inl rfl)) qFJ))) (qA4 (qS6 (i:=8) sc_Ltaken.nd rfl rfl rfl (lcs (own:=["_law_other"]) (fv:=[1,3,4]) (by kernel_rfl)) (qC1 (qHE qJL (pv 2) qM6 (qI5 (pv 4)))) (fun z1=>qAA (i:=0) (qEL (by kernel_rfl)) rfl (Or.inl rfl)) (fun z1=>(qJP (qB3 qYF (qW1 hu (pv 2) (pv 0) (qNN qII qA9) ⟨rfl,rfl,rfl,rfl⟩) (pv 3) (qB9 _)))) (fun z1=>(qB2 (qFO (K:=K) rfl) (pv 1) (pv 0) (fun _ _=>rfl))) (by kernel_rfl)) (qA6 (qCO (qJS PySem.F.plainAttrs_list PySem.F.slot_list_append PySem.F.type_list_append qDD (pv 7) (qA0 (qAU qDC (qB2 qBB (pv 1) (pv 5) (fun _ _=>rfl)) (qA8 (qRR rfl) rfl qLN qXT (qA0 (pv 8) qA3))) qA3)))))) (qA6 (qAL (pv 7))))))),?_⟩
 try dsimp only [Cx.nox,Cx.wish,cxOf]
 obtain ⟨rs,hA,NL⟩:=id hN
 have wat:∀ x:Int,0≤x→x<(net.length:Int)→atI (ws.map V.int) x=some (.int (wdO ws x)):=by
  intro x x0 x1
  have hx:x.toNat<ws.length:=by omega
  refine qC2 x0 ?_
  rw [List.getElem?_map]
  unfold wdO
  rw [List.getElem?_eq_getElem hx]
  rfl
 refine cut fun N0 hN0=>?_
 refine fun dn hdn=>?_
 have sn:=qA2 hdn (.dK [])
 refine hN0 _ _ (cut fun N1 hN1=>?_)
 refine ⟨_,rfl,lo,rfl,⟨_,SqL.of (sn _ _ hLo)⟩,qMK (a:=lo) (xs:=zs.map V.int) (fun i σ Hf=>∃ (kvs:List (Key × V)) (v4 v5 v6:Option V),σ=[some (.ref a),some (.ref t),some (.ref lo),some (.ref dn),v4,v5,v6,none,none]∧Same H Hf∧Hf dn=some (.dK kvs)∧kvs.length≤63 * i∧∀ y,∃ m:Int,(valV kvs (Sum.inl y)).getD (.int (-1))=.int m∧LPl net zs i y m)
  ⟨[],none,none,none,rfl,sn,qA1,Nat.zero_le _,fun y=>⟨-1,rfl,fun j=>⟨fun q=>by omega,fun ⟨_,q,_⟩=>by simp at q⟩⟩⟩ (fun i σ Hf _ ⟨_,_,_,_,_,sm,_⟩=>SqL.of (sm _ _ hLo)) ?_ ?_⟩
 ·refine fun i x σ Hf T hx hI_3 hT2=>opq fun G_3 hG_3=>?_
  obtain ⟨kvs,v4,v5,v6,rfl,sm,hd,lk,hv⟩:=hI_3
  obtain ⟨w0,ew,rfl⟩:=qAM hx
  refine hG_3 ?_
  have hi:=(List.getElem?_eq_some_iff.mp ew).1
  have wb:=TO.in_ w0 (List.mem_of_getElem? ew)
  have hw:w0.toNat<net.length:=by omega
  have hz:=List.getElem?_eq_getElem hw
  obtain ⟨r,h3,h4⟩:=NL.get hz
  have ln:=(wf w0.toNat _ hz).len
  have en:=qAD hz
  generalize net[w0.toNat]=ns at h4 hz ln en
  have sT:=sm.trans (qA2 hT2 (.tup [.int (i:Int),.int w0]))
  have hdT:=(qA2 hT2 (.tup [.int (i:Int),.int w0])) _ _ hd
  have gT:SqT K (upd Hf T (.tup [.int (i:Int),.int w0])) T [.int (i:Int),.int w0]:=SqT.of qA1
  generalize upd Hf T (.tup [.int (i:Int),.int w0])=H1 at sT hdT gT ⊢
  refine ⟨T,_,rfl,gT,rfl,_,_,rfl,_,_,rfl,rfl,?_⟩
  refine ⟨_,rfl,_,rfl,a,_,_,_,rfl,rfl,SqT.of (sT _ _ hA),qC2 wb.1 (by rw [List.getElem?_map,h3];rfl),r,rfl,⟨_,SqT.of (sT _ _ h4)⟩,qF4 (a:=r) (xs:=ns.map V.int) (fun k σ Hd=>∃ (kvs:List (Key × V)) (v6:Option V),σ=[some (.ref a),some (.ref t),some (.ref lo),some (.ref dn),some (.int (i:Int)),some (.int w0),v6,none,none]∧Same H Hd∧Hd dn=some (.dK kvs)∧kvs.length≤63 * i+k∧∀ y,∃ m:Int,(valV kvs (Sum.inl y)).getD (.int (-1))=.int m∧if y ∈ ns.take k then m=(i:Int) else LPl net zs i y m)
   ⟨kvs,v6,rfl,sT,hdT,by omega,fun y=>by
    obtain ⟨m,e1,e2⟩:=hv y
    exact ⟨m,e1,by rw [if_neg (by simp)];exact e2⟩⟩ (fun k σ Hd _ ⟨_,_,_,sm',_⟩=>SqT.of (sm' _ _ h4)) ?_ ?_⟩
  ·refine fun k x σ Hd hx hI_4=>opq fun G_4 hG_4=>?_
   obtain ⟨kvs,v6,rfl,sm',hd',lk',hv'⟩:=hI_4
   obtain ⟨y,ey,rfl⟩:=qAM hx
   refine hG_4 ?_
   have hk:=(List.getElem?_eq_some_iff.mp ey).1
   refine ⟨_,rfl,_,rfl,_,rfl,dn,_,rfl,DPut.k (k:=Sum.inl y) hd' (qC0 (by omega)),?_⟩
   refine ⟨_,_,rfl,qAG sm' hdn,qA1,Nat.le_trans (qCV _ _ _) (by omega),fun x=>?_⟩
   rw [qLQ,List.take_add_one,ey,Option.toList_some]
   by_cases e:x=y
   ·rw [e,if_pos rfl]
    exact ⟨_,rfl,by rw [if_pos (by simp)]⟩
   ·rw [if_neg fun z=>e (Sum.inl.inj z)]
    obtain ⟨m,e1,e2⟩:=hv' x
    refine ⟨m,e1,?_⟩
    by_cases c:x ∈ ns.take k
    ·rw [if_pos c] at e2
     rw [if_pos (List.mem_append_left _ c)]
     exact e2
    ·rw [if_neg c] at e2
     rw [if_neg (by simp [c,e])]
     exact e2
  ·refine fun σ Hd hI_5=>opq fun G_5 hG_5=>?_
   obtain ⟨kvs,v6,rfl,sm',hd',lk',hv'⟩:=hI_5
   refine hG_5 ?_
   rw [List.length_map] at lk' hv'
   refine ⟨kvs,_,_,_,rfl,sm',hd',by omega,fun y=>?_⟩
   obtain ⟨m,e1,e2⟩:=hv' y
   rw [qAO rfl,← en] at e2
   refine ⟨m,e1,?_⟩
   by_cases c:y ∈ nd net w0
   ·rw [if_pos c] at e2
    rw [e2]
    exact qaD ew c
   ·rw [if_neg c] at e2
    exact qaC ew c e2
 refine fun σ Hf hI_6=>opq fun G_6 hG_6=>?_
 obtain ⟨kvs,v4,v5,v6,rfl,sm,hd,lk,hv⟩:=hI_6
 refine hG_6 ?_
 rw [List.length_map] at lk hv
 have hv2:∀ y,∃ m:Int,(valV kvs (Sum.inl y)).getD (.int (-1))=.int m∧∀ j:Nat,(j:Int)≤m ↔ qDK net zs j y:=by
  intro y
  obtain ⟨m,e1,e2⟩:=hv y
  refine ⟨m,e1,fun j=>?_⟩
  rw [e2 j,qAO rfl]
  rfl
 clear hv
 refine hN1 _ _ (cut fun N2 hN2=>?_)
 refine ⟨(by show 0≤sizeLine;decide),fun lf hlf=>?_⟩
 have flf:H lf=none:=sm.free hlf
 have sp:=qA2 hlf (.lst [])
 have hd1:=sp _ _ hd
 have s1:=sm.trans sp
 have glf:(upd Hf lf (.lst [])) lf=some (.lst (([]:List Int).map V.int)):=qA1
 generalize upd Hf lf (.lst [])=H1 at hd1 s1 glf
 have ndl:dn ≠ lf:=qC9 hd1 glf (by intro z;cases z)
 refine hN2 _ _ (cut fun N3 hN3=>?_)
 refine ⟨_,rfl,lo,rfl,⟨_,SqL.of (s1 _ _ hLo)⟩,qMK (a:=lo) (xs:=zs.map V.int) (fun i σ Hc=>∃ (v4 v5 v6 v8:Option V),σ=[some (.ref a),some (.ref t),some (.ref lo),some (.ref dn),v4,v5,v6,some (.ref lf),v8]∧Same H Hc∧Hc dn=some (.dK kvs)∧Hc lf=some (.lst (((List.range i).map fun p=>wdO ws ((zs[p]?).getD 0)+qCL net ws zs p).map V.int)))
  ⟨v4,v5,v6,none,rfl,s1,hd1,glf⟩ (fun i σ Hc _ ⟨_,_,_,_,_,sc,_⟩=>SqL.of (sc _ _ hLo)) ?_ ?_⟩
 ·refine fun i x σ Hc T hx hI_7 hT2=>opq fun G_7 hG_7=>?_
  obtain ⟨v4,v5,v6,v8,rfl,sm2,hdc,hlc⟩:=hI_7
  obtain ⟨w0,ew,rfl⟩:=qAM hx
  refine hG_7 ?_
  have hi:=(List.getElem?_eq_some_iff.mp ew).1
  have wb:=TO.in_ w0 (List.mem_of_getElem? ew)
  have sn2:=qA2 hT2 (.tup [.int (i:Int),.int w0])
  have sT:=sm2.trans sn2
  have hlT:=sn2 _ _ hlc
  have hdT:=sn2 _ _ hdc
  have gT:SqT K (upd Hc T (.tup [.int (i:Int),.int w0])) T [.int (i:Int),.int w0]:=SqT.of qA1
  generalize upd Hc T (.tup [.int (i:Int),.int w0])=H2 at sT hlT hdT gT ⊢
  clear sn2
  refine ⟨T,_,rfl,gT,rfl,_,_,rfl,_,_,rfl,rfl,?_⟩
  refine cut fun N4 hN4=>?_
  refine ⟨_,rfl,_,rfl,_,rfl,lo,_,rfl,SqL.of (sT _ _ hLo),fun l3 hl3=>?_⟩
  have s3':=qA2 hl3 (.lst (cutV (zs.map V.int) none (some (i:Int))))
  have gl3:(upd H2 l3 (.lst (cutV (zs.map V.int) none (some (i:Int))))) l3=some (.lst (cutV (zs.map V.int) none (some (i:Int)))):=qA1
  rw [qHX,qV6] at gl3 s3' ⊢
  have s3:=sT.trans s3'
  have hlf3:=s3' _ _ hlT
  have hd3:=s3' _ _ hdT
  generalize upd H2 l3 (.lst ((zs.take i).map V.int))=H5 at gl3 s3 s3' hlf3 hd3 ⊢
  refine ⟨l3,rfl,⟨_,SqL.of gl3⟩,fun p hp=>?_⟩
  refine qGV (p:=p) (a:=l3) (xs:=(zs.take i).map V.int) (fun j σ He=>∃ (v:Option V),σ=[v,some (.ref t),some (.ref dn),some (.int (i:Int))]∧Same H5 He∧He p=some (.lst (((((zs.take i).take j).filter fun x=>decide (qDK net zs i x)).map (wdO ws)).map V.int))) ?_ ?_ ?_ ?_
  ·exact ⟨none,rfl,qA2 hp _,qA1⟩
  ·rintro j σ He hj ⟨v,rfl,se,_⟩
   exact SqL.of (se _ _ gl3)
  ·refine fun j x σ He hx hI_9=>opq fun G_9 hG_9=>?_
   obtain ⟨v,rfl,se,hpe⟩:=hI_9
   obtain ⟨y,ey,rfl⟩:=qAM hx
   refine hG_9 ?_
   have hj:=(List.getElem?_eq_some_iff.mp ey).1
   have yb:=TO.in_ y (List.mem_of_mem_take (List.mem_of_getElem? ey))
   obtain ⟨m,e1,e2⟩:=hv2 y
   have hg:=DGet.k (k:=Sum.inl y) (se _ _ hd3)
   refine ⟨_,rfl,dn,rfl,.inl ⟨_,.inl (se _ _ hd3)⟩,_,rfl,_,rfl,_,hg,?_⟩
   have e1':Option.getD (valV kvs (Sum.inl y)) (V.int (-1))=V.int m:=e1
   rw [qC7 ey,e1']
   refine ⟨_,rfl,_,_,rfl,rfl,_,rfl,?_⟩
   have ed:decide ((i:Int)≤m)=decide (qDK net zs i y):=decide_eq_decide.mpr (e2 i)
   rw [← ed]
   by_cases c:(i:Int)≤m
   ·rw [decide_eq_true c]
    refine ⟨_,rfl,_,rfl,t,_,_,_,rfl,rfl,SqT.of (se _ _ (s3 _ _ hT)),wat y yb.1 yb.2,?_⟩
    have lf1:(((zs.take i).take j).filter fun x=>decide (qDK net zs i x)).length≤63:=Nat.le_trans (List.length_filter_le _ _) (by rw [List.length_take,List.length_take];omega)
    refine ⟨_,hpe,qC0 (by rw [List.length_map,List.length_map];omega),_,rfl,qAG se hp,?_⟩
    rw [qA1,if_pos rfl,List.map_append,List.map_append]
    rfl
   ·rw [decide_eq_false c]
    refine ⟨_,rfl,se,?_⟩
    simpa using hpe
  refine fun σ He hI_10=>opq fun G_10 hG_10=>?_
  obtain ⟨v,rfl,se,hpe⟩:=hI_10
  refine hG_10 ?_
  rw [List.length_map,List.take_length] at hpe
  have hl6:=se _ _ hlf3
  refine hN4 _ _ ?_
  refine ⟨_,rfl,.inl ⟨rfl,_,SqL.of hl6⟩,_,rfl,_,rfl,t,_,_,_,rfl,rfl,SqT.of (se _ _ (s3 _ _ hT)),wat w0 wb.1 wb.2,_,rfl,p,_,rfl,SqL.of hpe,_,_,rfl,rfl,lf,_,_,rfl,rfl,hl6,qC0 (by simp;omega),?_⟩
  refine ⟨_,_,_,_,rfl,qAG (s3.trans se) flf,?_,?_⟩
  ·rw [qA7 ndl]
   exact se _ _ hd3
  rw [qA1,List.range_succ,List.map_append,List.map_append]
  have e5:((zs[i]?).getD 0)=w0:=by rw [ew];rfl
  show _=some (HO.lst (_++[V.int (wdO ws ((zs[i]?).getD 0)+qCL net ws zs i)]))
  rw [e5]
  rfl
 ·refine fun σ Hc hI_11=>opq fun G_11 hG_11=>?_
  obtain ⟨v4,v5,v6,v8,rfl,sm2,hdc,hlc⟩:=hI_11
  refine hG_11 ?_
  rw [List.length_map] at hlc
  exact hN3 _ _ ⟨_,rfl,q lf Hc sm2 flf hlc⟩
end
section
variable {P:Program} {w:World} {K:PySem.W.Frag} {mg:Str→Option Value} {base:Heap} {f:Addr} {fd:FuncData} {qEM:Addr} {qE9:FuncData}
theorem qXE {xs:List Int} {k:Int} (h0:0≤k) (h1:k<(xs.length:Int)):∃ v,atI (xs.map V.int) k=some (.int v)∧v ∈ xs:=by
 have hk:k.toNat<xs.length:=by omega
 exact ⟨xs[k.toNat],qC2 h0 (by rw [List.getElem?_map,List.getElem?_eq_getElem hk];rfl),List.getElem_mem hk⟩
theorem sc_Lwides:FnScope ["_law_state","_law_many","_law_way","_law_most","_law_found"] ["_law_state","_law_many"] (qAB qIZ):=⟨rfl,rfl,rfl,by decide +kernel,rfl,by decide +kernel,by decide +kernel⟩
theorem ok_Lwides (F:Fun K "_law_wides" "_law_wides" qIZ f fd) (qBL:Clb P w K mg base 1 qEM qE9 "_law_take" ["_law_state","_law_many"] qND) (qBE:mg "range" = none) (qB6:mg "tuple" = none):FnOk P w K mg base CX0 2 f fd ["_law_state","_law_many"] qNC:=by
 refine F.ok sc_Lwides (fun vs H Q E h=>?_) (fun cdv A outer s H vs Q E hr h=>?_)
 ·obtain ⟨d,c,t,ns,m,rfl,_⟩:=h
  rfl
 obtain ⟨d,c,t,ns,m,rfl,S,ht,m1,m100,q⟩:=h
 have ht':t≤1000000000 - 1000:=ht
 refine ⟨_,(qA4 (qAE (i:=2) sc_Lwides.nd rfl (Or.inl rfl) (qAQ qBL hr rfl (qA0 (pv 0) (qA0 qA9 qA3)))) (qA4 (qCU (qB3 qIS (pv 2) qA9 (qB9 _)) (qA6 (qAL (qBQ qBW rfl qB6 qD7 (qA0 (qAU qNR (qB8 (qA0 qA9 qA3)) (pv 1)) qA3)))) qAT) (qA4 (qAE (i:=3) sc_Lwides.nd rfl (Or.inr rfl) (qB2 qF3 (qB8 (qA0 qA9 (qA0 qA9 (qA0 qA9 qA3)))) (qAU qFK (pv 2) qA9) (fun _ _=>rfl))) (qA4 (qS6 (i:=4) sc_Lwides.nd rfl rfl rfl (lcs (own:=["_law_k"]) (fv:=[0,3]) (by kernel_rfl)) (qFI rfl qBE (qA0 (pv 1) qA3)) (fun z1=>qAA (i:=0) (qEL (by kernel_rfl)) rfl (Or.inl rfl)) (fun z1=>qCT) (fun z1=>(qAU qDC qA9 (qAQ qBL hr rfl (qA0 (pv 1) (qA0 (pv 2) qA3))))) (by kernel_rfl)) (qA4 (qTM (qCU (qB3 qIS (pv 2) qA9 (qB9 _)) (qA6 (qS6 (i:=4) sc_Lwides.nd rfl rfl rfl (lcs (own:=["_law_one"]) (fv:=[0]) (by kernel_rfl)) (qC1 (pv 4)) (fun z2=>qAA (i:=0) (qEL (by kernel_rfl)) rfl (Or.inl rfl)) (fun z2=>qCT) (fun z2=>(qAU qJW (pv 0) (qB2 (qJ4 (K:=K) rfl) (qB8 (qA0 qA9 (qA0 qA9 (qA0 qA9 qA3)))) (qAQ qBL hr rfl (qA0 (pv 1) (qA0 qA9 qA3))) (fun _ _=>rfl)))) (by kernel_rfl))) qAT)) (qA6 (qAL (qBQ qBW rfl qB6 qD7 (qA0 (pv 4) qA3))))))))),?_⟩
 try dsimp only [Cx.nox,Cx.wish,cxOf]
 refine cut fun N1 hN1=>?_
 refine ⟨_,rfl,d,c,t,ns,4,rfl,S,(by show t≤1000000000;omega),by decide,by decide,fun way ns1 H1 w0 w5 S1 K1=>?_⟩
 refine hN1 _ _ (cut fun N2 hN2=>?_)
 refine ⟨_,rfl,rfl,_,rfl,?_⟩
 refine ite2 (fun _=>?_) (fun cw=>?_)
 ·refine ⟨(by show 1≤sizeLine;decide),fun l1 hl1=>?_⟩
  refine ⟨_,rfl,l1,m,_,rfl,rfl,qA1,by omega,by omega,?_,fun l2 hl2=>?_⟩
  ·exact Nat.le_of_lt (qAX (by simp;omega))
  have e1:(List.replicate m.toNat [V.int 1]).flatten=(List.replicate m.toNat 1).map V.int:=by
   rw [List.map_replicate]
   generalize m.toNat=n
   induction n with
   | zero=>rfl
   | succ n ih=>rw [List.replicate_succ,List.flatten_cons,ih,List.replicate_succ];rfl
  rw [e1]
  have s6:=(qA2 hl1 (.lst [.int 1])).trans (qA2 hl2 (.lst ((List.replicate m.toNat 1).map V.int)))
  have g6:(upd (upd H1 l1 (.lst [.int 1])) l2 (.lst ((List.replicate m.toNat 1).map V.int))) l2=some (.lst ((List.replicate m.toNat 1).map V.int)):=qA1
  refine ⟨l2,_,rfl,.inl ⟨SqL.of qA1,fun r hr1=>?_⟩⟩
  have s7:=s6.trans (qA2 hr1 (.tup ((List.replicate m.toNat 1).map V.int)))
  exact q r (List.replicate m.toNat 1) (t+1) ns1 _ (S1.same s7) (by omega) (by omega) (K1.trans (.of_same s7)) qA1 (by rw [List.length_replicate];omega) (fun u hu=>by rw [(List.mem_replicate.mp hu).2];decide)
 have wn:way ≠ 0:=fun e=>cw (by rw [e];rfl)
 refine hN2 _ _ (cut fun N3 hN3=>?_)
 refine ⟨(by show 3≤sizeLine;decide),fun l hl=>?_⟩
 obtain ⟨most,hv,hm⟩:=qXE (xs:=[5,99,9]) (k:=way - 1) (by omega) (by simp;omega)
 have hm3:way=3→most=9:=by
  intro e
  subst e
  have:(some (V.int 9):Option V)=some (.int most):=hv
  injection this with h
  injection h with h
  exact h.symm
 have mb:1≤most∧most≤99:=by simp at hm;omega
 refine ⟨_,rfl,_,_,rfl,rfl,l,_,way - 1,_,rfl,rfl,SqL.of qA1,hv,?_⟩
 have K2':=K1.trans (qE8 hl (.lst ([5,99,9].map V.int)))
 have S2':=S1.new hl (.lst ([5,99,9].map V.int))
 refine hN3 _ _ (cut fun N4 hN4=>?_)
 show tAsg _ _ _ _ (upd H1 l (.lst ([5,99,9].map V.int)))
 generalize upd H1 l (.lst ([5,99,9].map V.int))=H3 at K2' S2' ⊢
 refine ⟨_,rfl,m,rfl,by omega,by omega,fun p hp=>?_⟩
 have npd:p ≠ d∧p ≠ c:=⟨(qA5 S2'.dict hp).symm,(qA5 S2'.list hp).symm⟩
 refine qRF (p:=p) (lo:=0) (n:=m.toNat) (fun i σ Hc=>∃ (v:Option V) (ns' ws:List Int),σ=[v,some (.ref d),some (.int most)]∧StAt Hc d c (t+1+(i:Int)) ns'∧Keep d c H3 Hc∧Hc p=some (.lst (ws.map V.int))∧ws.length=i∧∀ u ∈ ws,1≤u∧u≤most) ?_ ?_ ?_
 ·exact ⟨none,ns1,[],rfl,by simpa using S2'.new hp (.lst []),qE8 hp _,qA1,rfl,fun _ z=>nomatch z⟩
 ·refine fun i σ Hc hi hI_1=>opq fun G_1 hG_1=>?_
  obtain ⟨v,ns',ws,rfl,Sc,Kc,hpc,lw,p1⟩:=hI_1
  refine hG_1 ?_
  refine ⟨_,rfl,_,rfl,d,c,_,ns',most,rfl,Sc,(by show t+1+(i:Int)≤1000000000;omega),mb.1,by omega,fun k ns6 H6 k0 k1 S6 K6=>⟨_,_,rfl,rfl,?_⟩⟩
  have g6:=K6 _ _ hpc npd.1 npd.2
  refine ⟨_,g6,qAX (by rw [List.length_map];omega),_,ns6,ws++[1+k],rfl,?_,qHM (Kc.trans K6) hp,by rw [qA1,List.map_append];rfl,by rw [List.length_append,lw];rfl,fun u hu=>(List.mem_append.mp hu).elim (p1 u) fun z=>by rw [List.mem_singleton.mp z];omega⟩
  have:=S6.upd (o:=.lst (ws.map V.int++[.int (1+k)])) npd.1.symm npd.2.symm
  rw [show t+1+((i+1:Nat):Int)=t+1+(i:Int)+1 by omega]
  exact this
 refine fun σ Hc hI_2=>opq fun G_2 hG_2=>?_
 obtain ⟨v,ns',ws,rfl,Sc,Kc,hpc,lw,p1⟩:=hI_2
 refine hG_2 ?_
 have K4:=K2'.trans Kc
 have lw':(ws.length:Int)=m:=by omega
 rw [show t+1+((m.toNat:Nat):Int)=t+1+m by omega] at Sc
 refine hN4 _ _ (cut fun N5 hN5=>?_)
 refine ⟨fun σ Hx=>∃ (lf:Addr) (ws:List Int) (t':Int) (ns':List Int),σ=[some (.ref d),some (.int m),some (.int way),some (.int most),some (.ref lf)]∧StAt Hx d c t' ns'∧t≤t'∧t'≤t+300∧Keep d c H Hx∧Hx lf=some (.lst (ws.map V.int))∧(ws.length:Int)=m∧∀ u ∈ ws,1≤u∧u≤99,?_,?_⟩
 ·refine ⟨_,rfl,rfl,_,rfl,?_⟩
  refine ite2 (fun c3=>?_) (fun _=>?_)
  ·have w3:way=3:=by
    have:=of_decide_eq_true c3
    injection this
   have m9:=hm3 w3
   refine ⟨_,rfl,p,rfl,⟨_,SqL.of hpc⟩,fun p2 hp2=>?_⟩
   have npd2:p2 ≠ d∧p2 ≠ c:=⟨(qA5 Sc.dict hp2).symm,(qA5 Sc.list hp2).symm⟩
   refine qGV (p:=p2) (a:=p) (xs:=ws.map V.int) (fun i σ Hd=>∃ (v:Option V) (ns' us:List Int),σ=[v,some (.ref d)]∧StAt Hd d c (t+1+m+(i:Int)) ns'∧Keep d c Hc Hd∧Hd p2=some (.lst (us.map V.int))∧us.length=i∧∀ u ∈ us,1≤u∧u≤99) ?_ ?_ ?_ ?_
   ·exact ⟨none,ns',[],rfl,by simpa using Sc.new hp2 (.lst []),qE8 hp2 _,qA1,rfl,fun _ z=>nomatch z⟩
   ·rintro i σ Hd hi ⟨v,ns',us,rfl,Sd,Kd,_⟩
    exact SqL.of (Kd _ _ hpc npd.1 npd.2)
   ·refine fun i y σ Hd hy hI_4=>opq fun G_4 hG_4=>?_
    obtain ⟨v,ns',us,rfl,Sd,Kd,hpd,lu,p3⟩:=hI_4
    obtain ⟨z,ez,rfl⟩:=qAM hy
    refine hG_4 ?_
    have hi:=(List.getElem?_eq_some_iff.mp ez).1
    have pz:=p1 z (List.mem_of_getElem? ez)
    rw [m9] at pz
    refine ⟨_,rfl,(by show 3≤sizeLine;decide),fun l3 hl3=>?_⟩
    have s3:=qA2 hl3 (.lst [.int 1,.int 1,.int 11])
    have g3:(upd Hd l3 (.lst [.int 1,.int 1,.int 11])) l3=some (.lst [.int 1,.int 1,.int 11]):=qA1
    have n3:l3 ≠ d∧l3 ≠ c:=⟨(qA5 Sd.dict hl3).symm,(qA5 Sd.list hl3).symm⟩
    refine ⟨_,rfl,d,c,_,ns',3,rfl,Sd.same s3,(by show t+1+m+(i:Int)≤1000000000;omega),by decide,by decide,fun k ns6 H6 k0 k1 S6 K6=>?_⟩
    obtain ⟨v,hv,mv⟩:=qXE (xs:=[1,1,11]) k0 (by simpa using k1)
    refine ⟨l3,_,k,_,rfl,rfl,SqL.of (K6 _ _ g3 n3.1 n3.2),hv,_,_,rfl,rfl,.inl ⟨by omega,by omega⟩,?_⟩
    have g6:=K6 _ _ (s3 _ _ hpd) npd2.1 npd2.2
    refine ⟨_,g6,qAX (by rw [List.length_map];omega),_,ns6,us++[z * v],rfl,?_,qHM (Kd.trans ((Keep.of_same s3).trans K6)) hp2,by rw [qA1,List.map_append];rfl,by rw [List.length_append,lu];rfl,fun u hu=>(List.mem_append.mp hu).elim (p3 u) fun q=>by
     rw [List.mem_singleton.mp q]
     simp at mv
     rcases mv with e | e <;> rw [e] <;> omega⟩
    have:=S6.upd (o:=.lst (us.map V.int++[.int (z * v)])) npd2.1.symm npd2.2.symm
    rw [show t+1+m+((i+1:Nat):Int)=t+1+m+(i:Int)+1 by omega]
    exact this
   ·refine fun σ Hd hI_5=>opq fun G_5 hG_5=>?_
    obtain ⟨v,ns',us,rfl,Sd,Kd,hpd,lu,p3⟩:=hI_5
    refine hG_5 ?_
    rw [List.length_map] at lu Sd
    exact ⟨p2,us,_,ns',rfl,Sd,by omega,by omega,K4.trans Kd,hpd,by omega,p3⟩
  ·exact ⟨p,ws,_,_,rfl,Sc,by omega,by omega,K4,hpc,lw',fun u hu=>⟨(p1 u hu).1,by have:=(p1 u hu).2;omega⟩⟩
 refine fun σ Hx hI_6=>opq fun G_6 hG_6=>?_
 obtain ⟨lf,ws,t',ns',rfl,Sx,g1,g2,Kx,gx,lx,p4⟩:=hI_6
 refine hG_6 ?_
 refine hN5 _ _ ?_
 refine ⟨_,rfl,lf,_,rfl,.inl ⟨SqL.of gx,fun r hr1=>?_⟩⟩
 exact q r ws t' ns' _ (Sx.new hr1 _) g1 g2 (Kx.trans (qE8 hr1 _)) qA1 lx p4
end
section
variable {P:Program} {w:World} {K:PySem.W.Frag} {mg:Str→Option Value} {base:Heap} {f:Addr} {fd:FuncData}
def prs (ws:List Int) (i:Nat):List (Int × V):=(List.range i).map fun (j:Nat)=>((ws[j]?).getD 0,V.int (j:Int))
theorem qR0 {ws:List Int} {i:Nat} {y:Int} (h:ws[i]?=some y):prs ws (i+1)=prs ws i++[(y,V.int (i:Int))]:=by
 unfold prs
 rw [List.range_succ,List.map_append,List.map_singleton,h]
 rfl
theorem qTO {ws:List Int} (nd:ws.Nodup) (x:Int):∀ i,i≤ws.length→valV (qCD [] (prs ws i)) (Sum.inl x)=(qNK (ws.take i) x).map V.int
 | 0,_=>by simp [prs,qCD,valV,qNK]
 | i+1,h=>by
  have e:=List.getElem?_eq_getElem (show i<ws.length by omega)
  generalize ws[i]=y at e
  rw [qR0 e,qS7 nd e x]
  unfold qCD
  rw [List.foldl_append]
  show valV (putK (qCD [] (prs ws i)) (Sum.inl y) (V.int (i:Int))) (Sum.inl x)=_
  rw [qLQ,qTO nd x i (by omega)]
  by_cases c:x=y
  ·rw [c,if_pos rfl,if_pos rfl];rfl
  ·rw [if_neg fun z=>c (Sum.inl.inj z),if_neg c]
theorem sc_Lis_order:FnScope ["_law_net","_law_works","_law_order","_law_spots"] ["_law_net","_law_works","_law_order"] (qAB qF0):=⟨rfl,rfl,rfl,by decide +kernel,rfl,by decide +kernel,by decide +kernel⟩
theorem ok_Lis_order (F:Fun K "_law_is_order" "_law_is_order" qF0 f fd) (qAC:mg "isinstance" = none) (qCC:mg "list" = none) (qAV:mg "sorted" = none) (qH6:mg "dict" = none) (qAN:mg "enumerate" = none) (qET:mg "all" = none) (qCM:mg "max" = none):FnOk P w K mg base CX0 1 f fd ["_law_net","_law_works","_law_order"] qNF:=by
 refine F.ok sc_Lis_order (fun vs H Q E h=>?_) (fun cdv A outer s H vs Q E hr h=>?_)
 ·obtain ⟨a,lw,lo,net,works,zs,work,rfl,_⟩:=h
  rfl
 obtain ⟨a,lw,lo,net,works,zs,work,rfl,hN,wf,n60,hLw,Nw,hLo,OT,q⟩:=h
 have hu:=qKA hr
 have hu0:=hr.units0
 refine ⟨_,(qA4 (qCU (PW.pt (qPI (qGJ (qCS (qA8 qBC rfl qAC qAS (qA0 (pv 2) (qA0 (qDW (v:=.ty "list") rfl qCC qH0 rfl) qA3))))) (qJO (qB3 (qPN hu0) (qA8 (qFZ rfl) rfl qAV qEX (qA0 (pv 2) qA3)) (pv 1) (qB9 _))))) (qA6 (qAL qDJ)) qAT) (qA4 (qAE (i:=3) sc_Lis_order.nd rfl (Or.inr rfl) (qBQ (qLL rfl) rfl qH6 qVE (qA0 (qIR rfl (lcs (own:=["_law_place","_law_one"]) (fv:=[]) (by kernel_rfl)) (qJQ rfl qAN qDI (qA0 (pv 2) qA3)) (fun z1=>qPL (K:=K) (n:=2) rfl rfl (qBP (qAA (i:=0) (qEL (by kernel_rfl)) rfl (Or.inl rfl)) (qBP (qAA (i:=1) (qEL (by kernel_rfl)) rfl (Or.inl rfl)) qFJ)) rfl rfl) (fun z1=>qCT) (fun z1=>(qEV (qA0 (pv 1) (qA0 (pv 0) qA3))))) qA3))) (qA6 (qAL (qA8 (qHZ rfl) rfl qET qOY (qA0 (qIR rfl (lcs (own:=["_law_one"]) (fv:=[0,3]) (by kernel_rfl)) (qC1 (pv 2)) (fun z2=>qAA (i:=0) (qEL (by kernel_rfl)) rfl (Or.inl rfl)) (fun z2=>qCT) (fun z2=>(qEK qW4 (qA8 (qID (K:=K) rfl rfl) rfl qCM qGM (qA0 (qAU qJX (qIR (X:=lcCx _ _ _ _ z2) rfl (lcs (own:=["_law_need"]) (fv:=[2]) (by kernel_rfl)) (qTR (K:=K) rfl (qB2 (qFO (K:=K) rfl) (pv 1) (pv 0) (fun _ _=>rfl))) (fun z3=>qAA (i:=0) (qEL (by kernel_rfl)) rfl (Or.inl rfl)) (fun z3=>qCT) (fun z3=>(qCP hu (pv 1) (pv 0) (fun _ _=>rfl)))) (qB8 (qA0 (qNN qII qA9) qA3))) qA3)) (qCP hu (pv 2) (pv 0) (fun _ _=>rfl)) (qB9 _)))) qA3)))))),?_⟩
 try dsimp only [Cx.nox,Cx.wish,cxOf]
 obtain ⟨rs,hA,NL⟩:=id hN
 obtain ⟨B,lz⟩:=qHF wf Nw OT
 have lw60:=Nw.1.len
 have pm:zs.Perm works:=(List.perm_ext_iff_of_nodup OT.nodup Nw.1.nodup).mpr fun x=>(OT.mem x).trans (Nw.2 x).symm
 refine cut fun N1 hN1=>?_
 refine ⟨_,rfl,_,"list",_,true,rfl,TyOf.lst hLo,rfl,_,rfl,?_⟩
 refine iteF ?_
 refine ⟨_,rfl,lo,zs,rfl,.inl (SqL.of hLo),by omega,fun l1 ns1 hl1 pm1 st1=>?_⟩
 have e1:ns1=works:=qVQ (qFL st1 ((pm1.trans pm).nodup_iff.mpr Nw.1.nodup)) Nw.1.up fun x=>(pm1.trans pm).mem_iff
 subst e1
 have s1:=qA2 hl1 (.lst (ns1.map V.int))
 refine ⟨_,rfl,l1,lw,ns1,rfl,rfl,SqL.of qA1,SqL.of (s1 _ _ hLw),_,rfl,?_⟩
 refine iteF ?_
 generalize upd H l1 (.lst (ns1.map V.int))=H1 at s1 ⊢
 refine hN1 _ _ (cut fun N2 hN2=>?_)
 have hLo1:=s1 _ _ hLo
 refine ⟨_,rfl,lo,rfl,⟨_,SqL.of hLo1⟩,fun p hp=>?_⟩
 refine qUC (p:=p) (a:=lo) (xs:=zs.map V.int) (fun i σ Hc=>∃ (v0 v1:Option V) (qs:List Addr),σ=[v0,v1]∧Same H1 Hc∧Hc p=some (.lst (qs.map V.ref))∧Paired (fun r (z:Int × V)=>Hc r=some (.tup [.int z.1,z.2])) qs (prs zs i)) ?_ ?_ ?_ ?_
 ·exact ⟨none,none,[],rfl,qA2 hp _,qA1,.nil⟩
 ·rintro i σ Hc hi ⟨v0,v1,qs,rfl,sm,_⟩
  exact SqL.of (sm _ _ hLo1)
 ·refine fun i x σ Hc T hx hI_2 hT=>opq fun G_2 hG_2=>?_
  obtain ⟨v0,v1,qs,rfl,sm,hpc,PQ⟩:=hI_2
  obtain ⟨y,ey,rfl⟩:=qAM hx
  refine hG_2 ?_
  have hi:=(List.getElem?_eq_some_iff.mp ey).1
  have lQ:qs.length=i:=by have:=Paired.length PQ;rw [this];simp [prs]
  have sT:=qA2 hT (.tup [.int (i:Int),.int y])
  refine ⟨T,_,rfl,SqT.of qA1,rfl,_,_,rfl,_,_,rfl,rfl,?_⟩
  refine ⟨_,rfl,_,rfl,(by show 2≤sizeLine;decide),fun r hr1=>?_⟩
  have s2:=sT.trans (qA2 hr1 (.tup [.int y,.int (i:Int)]))
  have g2:=s2 _ _ hpc
  refine ⟨_,g2,qAX (by rw [List.length_map];omega),?_⟩
  rw [qRC]
  refine ⟨_,_,qs++[r],rfl,qAG (sm.trans s2) hp,qA1,?_⟩
  rw [qR0 ey]
  refine Paired.snoc (qB0 PQ fun r' z' e=>?_) ?_
  ·have e2:=s2 _ _ e
   rw [qA7 (qC9 e2 g2 (fun z=>nomatch z))]
   exact e2
  ·rw [qA7 (qA5 (sT _ _ hpc) hr1).symm]
   exact qA1
 refine fun σ Hc hI_3=>opq fun G_3 hG_3=>?_
 obtain ⟨v0,v1,qs,rfl,sm,hpc,PQ⟩:=hI_3
 refine hG_3 ?_
 rw [List.length_map] at PQ
 have pp:∀ {qs:List Addr} {zs:List (Int × V)},Paired (fun r (z:Int × V)=>Hc r=some (.tup [.int z.1,z.2])) qs zs→qR6 Hc K qs zs:=by
  intro qs zs h
  induction h with
  | nil=>exact .nil
  | cons h t ih=>exact .cons (SqT.of h) ih
 refine ⟨p,qs,prs zs zs.length,rfl,SqL.of hpc,pp PQ,fun d hd=>?_⟩
 have sd:=(s1.trans sm).trans (qA2 hd (.dK (qCD [] (prs zs zs.length))))
 have gd:(upd Hc d (.dK (qCD [] (prs zs zs.length)))) d=some (.dK (qCD [] (prs zs zs.length))):=qA1
 have vd:∀ x,valV (qCD [] (prs zs zs.length)) (Sum.inl x)=(qNK zs x).map V.int:=fun x=>by rw [qTO OT.nodup x _ (Nat.le_refl _),qAO rfl]
 generalize upd Hc d (.dK (qCD [] (prs zs zs.length)))=H2 at sd gd ⊢
 generalize qCD [] (prs zs zs.length)=kvs at gd vd
 refine hN2 _ _ ?_
 have spot:∀ {Hx:Hp} {i:Nat} {x:Int},Same H2 Hx→zs[i]?=some x→DGet Hx d (.int x) (some (.int (i:Int))):=by
  intro Hx i x sx ex
  have h:=DGet.k (k:=Sum.inl x) (sx _ _ gd)
  rw [vd x,qR2 OT.nodup ex] at h
  exact h
 refine ⟨_,rfl,lo,rfl,⟨_,SqL.of (sd _ _ hLo)⟩,fun p1 hp1=>?_⟩
 refine qGV (p:=p1) (a:=lo) (xs:=zs.map V.int) (fun i σ Hc=>∃ (v0:Option V),σ=[v0,some (.ref a),some (.ref d)]∧Same H2 Hc∧Hc p1=some (.lst ((List.replicate i true).map V.bl))) ?_ ?_ ?_ ?_
 ·exact ⟨none,rfl,qA2 hp1 _,qA1⟩
 ·rintro i σ Hc hi ⟨v0,rfl,sm,_⟩
  exact SqL.of (sm _ _ (sd _ _ hLo))
 ·refine fun i x σ Hc hx hI_5=>opq fun G_5 hG_5=>?_
  obtain ⟨v0,rfl,sm,hpc⟩:=hI_5
  obtain ⟨y,ey,rfl⟩:=qAM hx
  refine hG_5 ?_
  have hi:=(List.getElem?_eq_some_iff.mp ey).1
  have yb:=Nw.1.in_ y (B.sub y (List.mem_of_getElem? ey))
  have hy:y.toNat<net.length:=by omega
  have hz:=List.getElem?_eq_getElem hy
  obtain ⟨r,h3,h4⟩:=NL.get hz
  have rz:=wf y.toNat _ hz
  have en:=qAD hz
  have bef:=B.bef i y ey
  rw [en] at bef
  generalize net[y.toNat]=ys at h4 hz rz bef en
  have lz:=rz.len
  have hA1:=sm _ _ (sd _ _ hA)
  have h41:=sm _ _ (sd _ _ h4)
  refine ⟨_,rfl,_,rfl,a,_,_,_,rfl,rfl,SqT.of hA1,qC2 yb.1 (by rw [List.getElem?_map,h3];rfl),r,rfl,⟨_,SqT.of h41⟩,fun p2 hp2=>?_⟩
  refine qLD (p:=p2) (a:=r) (xs:=ys.map V.int) (fun j σ Hd=>∃ (v:Option V) (ps:List Int),σ=[v,some (.ref d)]∧Same Hc Hd∧Hd p2=some (.lst (ps.map V.int))∧ps.length=j∧∀ u ∈ ps,u<(i:Int)) ?_ ?_ ?_ ?_
  ·exact ⟨none,[],rfl,qA2 hp2 _,qA1,rfl,fun _ z=>nomatch z⟩
  ·rintro j σ Hd hj ⟨v,ps,rfl,se,_⟩
   exact SqT.of (se _ _ h41)
  ·refine fun j x σ Hd hx hI_7=>opq fun G_7 hG_7=>?_
   obtain ⟨v,ps,rfl,se,hpe,lps,bps⟩:=hI_7
   obtain ⟨z,ez,rfl⟩:=qAM hx
   refine hG_7 ?_
   have hj:=(List.getElem?_eq_some_iff.mp ez).1
   obtain ⟨q,hq,eq⟩:=List.mem_take_iff_getElem.mp (bef z (List.mem_of_getElem? ez))
   have gz:zs[q]?=some z:=by rw [List.getElem?_eq_getElem (by omega),eq]
   refine ⟨_,rfl,_,rfl,d,_,rfl,spot (sm.trans se) gz,_,hpe,qAX (by rw [List.length_map];omega),_,ps++[(q:Int)],rfl,qAG se hp2,by rw [qA1,List.map_append];rfl,by rw [List.length_append,lps];rfl,fun u hu=>(List.mem_append.mp hu).elim (bps u) fun e=>by rw [List.mem_singleton.mp e];omega⟩
  refine fun σ Hd hI_8=>opq fun G_8 hG_8=>?_
  obtain ⟨v,ps,rfl,se,hpe,lps,bps⟩:=hI_8
  refine hG_8 ?_
  rw [List.length_map] at lps
  refine ⟨_,rfl,(by show 1≤sizeLine;decide),fun b1 hb1=>?_⟩
  have sb:=qA2 hb1 (.lst [.int (-1)])
  have gb:(upd Hd b1 (.lst [.int (-1)])) b1=some (.lst [.int (-1)]):=qA1
  refine ⟨p2,b1,_,_,rfl,rfl,sb _ _ hpe,gb,(by rw [List.length_map,sizeLine_eq];show _+1≤_;omega),fun c hc=>?_⟩
  have e5:(ps.map V.int)++[V.int (-1)]=(ps++[-1]).map V.int:=by rw [List.map_append];rfl
  obtain ⟨m,hm⟩:∃ m,topD none (ps++[-1])=some m:=by cases ps <;> exact ⟨_,rfl⟩
  have lt:m<(i:Int):=by
   rcases List.mem_append.mp (qGO hm).1 with h | h
   ·exact bps m h
   ·rw [List.mem_singleton.mp h];omega
  have sc2:=sb.trans (qA2 hc (.lst ((ps.map V.int)++[V.int (-1)])))
  refine ⟨c,ps++[-1],m,rfl,SqL.of (by rw [← e5];exact qA1),hm,?_⟩
  refine ⟨_,rfl,_,rfl,d,_,rfl,spot (sm.trans (se.trans sc2)) ey,_,_,rfl,rfl,_,(se.trans sc2) _ _ hpc,qAX (by rw [List.length_map,List.length_replicate];omega),_,rfl,qAG (sm.trans (se.trans sc2)) hp1,?_⟩
  dsimp only
  rw [qA1,decide_eq_true lt,List.replicate_succ',List.map_append]
  rfl
 refine fun σ Hd hI_9=>opq fun G_9 hG_9=>?_
 obtain ⟨v0,rfl,sm3,hpd⟩:=hI_9
 refine hG_9 ?_
 refine ⟨p1,_,rfl,SqL.of hpd,?_⟩
 have e6:(List.replicate (zs.map V.int).length true).all id=true:=by
  rw [List.all_eq_true]
  intro x hx
  rw [(List.mem_replicate.mp hx).2]
  rfl
 rw [e6]
 exact q Hd (sd.trans sm3)
end
section
variable {P:Program} {w:World} {K:PySem.W.Frag} {mg:Str→Option Value} {base:Heap} {f:Addr} {fd:FuncData}
theorem qOK (g:List Int→List (List Int)):∀ (j:Nat) (L:List (List Int)),(((L.take j).map g).flatten).length≤((L.map g).flatten).length
 | 0,L=>by simp
 | j+1,[]=>by simp
 | j+1,l::L=>by
  rw [List.take_succ_cons,List.map_cons,List.map_cons,List.flatten_cons,List.flatten_cons,List.length_append,List.length_append]
  have:=qOK g j L
  omega
theorem sc_Lorders:FnScope ["_law_net","_law_works","_law_found","_law_turn","_law_longer","_law_order","_law_one"] ["_law_net","_law_works"] (qAB qHB):=⟨rfl,rfl,rfl,by decide +kernel,rfl,by decide +kernel,by decide +kernel⟩
theorem ok_Lorders (F:Fun K "_law_orders" "_law_orders" qHB f fd) (qBE:mg "range" = none) (qBN:mg "len" = none) (qET:mg "all" = none):FnOk P w K mg base CX0 1 f fd ["_law_net","_law_works"] qQM:=by
 refine F.ok sc_Lorders (fun vs H Q E h=>?_) (fun cdv A outer s H vs Q E hr h=>?_)
 ·obtain ⟨a,lw,net,works,work,rfl,_⟩:=h
  rfl
 obtain ⟨a,lw,net,works,work,rfl,hN,wf,n7,hLw,Nw,q⟩:=h
 refine ⟨_,(qA4 (qAE (i:=2) sc_Lorders.nd rfl (Or.inl rfl) (qB8 (qA0 (qB8 qA3) qA3))) (qA4 (qBM PassesOwn.never rfl (qFI rfl qBE (qA0 (qA8 qAJ rfl qBN qDH (qA0 (pv 1) qA3)) qA3)) (qAA (i:=3) sc_Lorders.nd rfl (Or.inl rfl)) (qA4 (qAE (i:=4) sc_Lorders.nd rfl (Or.inl rfl) (qB8 qA3)) (qA4 (qBM PassesOwn.never rfl (qC1 (pv 2)) (qAA (i:=5) sc_Lorders.nd rfl (Or.inr rfl)) (qA6 (qBM PassesOwn.never rfl (qC1 (pv 1)) (qAA (i:=6) sc_Lorders.nd rfl (Or.inl rfl)) (qA6 (qCU (PW.pt (qQW (qB3 qNS (pv 6) (pv 5) (by with_unfolding_all rfl)) (qM5 (qCS (qA8 (qHZ rfl) rfl qET qOY (qA0 (qIR rfl (lcs (own:=["_law_need"]) (fv:=[5]) (by kernel_rfl)) (qE7 (qB2 qBB (pv 0) (pv 6) (fun _ _=>rfl))) (fun z1=>qAA (i:=0) (qEL (by kernel_rfl)) rfl (Or.inl rfl)) (fun z1=>qCT) (fun z1=>(qEK (qa7 (K:=K) rfl) (pv 0) (pv 1) (by with_unfolding_all rfl)))) qA3)))))) (qA6 (qCO (qJS PySem.F.plainAttrs_list PySem.F.slot_list_append PySem.F.type_list_append qDD (pv 4) (qA0 (qAU qJX (pv 5) (qB8 (qA0 (pv 6) qA3))) qA3)))) qAT))))) (qA6 (qAE (i:=2) sc_Lorders.nd rfl (Or.inl rfl) (pv 4)))))) (qA6 (qAL (pv 2))))),?_⟩
 try dsimp only [Cx.nox,Cx.wish,cxOf]
 obtain ⟨rs,hA,NL⟩:=id hN
 have lw7:works.length≤7:=by have:=Nw.1.len;omega
 refine cut fun N1 hN1=>?_
 refine ⟨(by show 0≤sizeLine;decide),fun l0 hl0=>?_⟩
 refine ⟨(by show 1≤sizeLine;decide),fun lf0 hlf0=>?_⟩
 have s0:=(qA2 hl0 (.lst [])).trans (qA2 hlf0 (.lst [.ref l0]))
 have f0:H lf0=none:=(qA2 hl0 (.lst [])).free hlf0
 have g0:(upd (upd H l0 (.lst [])) lf0 (.lst [.ref l0])) lf0=some (.lst ([l0].map V.ref)):=qA1
 have g1:(upd (upd H l0 (.lst [])) lf0 (.lst [.ref l0])) l0=some (.lst (([]:List Int).map V.int)):=(qA2 hlf0 (.lst [.ref l0])) _ _ qA1
 generalize upd (upd H l0 (.lst [])) lf0 (.lst [.ref l0])=H1 at s0 g0 g1
 refine hN1 _ _ (cut fun N2 hN2=>?_)
 refine ⟨_,rfl,lw,_,rfl,.inl (SqL.of (s0 _ _ hLw)),?_⟩
 rw [List.length_map]
 refine ⟨(works.length:Int),rfl,by omega,by omega,qKC (lo:=0) (n:=works.length) (fun i σ Hc=>∃ (lf:Addr) (rf:List Addr) (v3 v4 v5 v6:Option V),σ=[some (.ref a),some (.ref lw),some (.ref lf),v3,v4,v5,v6]∧Same H Hc∧Hc lf=some (.lst (rf.map V.ref))∧Paired (fun r o=>Hc r=some (.lst (o.map V.int))) rf (ordL net works i))
  ⟨lf0,[l0],none,none,none,none,rfl,s0,g0,.cons g1 .nil⟩ ?_ ?_⟩
 ·refine fun i σ Hc hi hI_1=>opq fun G_1 hG_1=>?_
  obtain ⟨lf,rf,v3,v4,v5,v6,rfl,sc,glf,PF⟩:=hI_1
  refine hG_1 ?_
  have hi7:i<7:=by omega
  refine cut fun N3 hN3=>?_
  refine ⟨(by show 0≤sizeLine;decide),fun ll hll=>?_⟩
  have sl:=qA2 hll (.lst [])
  have gll:(upd Hc ll (.lst [])) ll=some (.lst (([]:List Addr).map V.ref)):=qA1
  generalize upd Hc ll (.lst [])=H2 at sl gll ⊢
  have fewL:=qMM (net:=net) lw7 (Nat.le_of_lt hi7)
  have fewN:(qGS net works (ordL net works i)).length≤823543:=qMM (net:=net) lw7 (t:=i+1) hi7
  generalize hOL:ordL net works i=OL at PF fewL fewN
  have lrf:=Paired.length PF
  refine hN3 _ _ (cut fun N4 hN4=>?_)
  refine ⟨_,rfl,lf,rfl,⟨_,SqL.of (sl _ _ glf)⟩,qCR (a:=lf) (xs:=rf.map V.ref) (fun j σ Hd=>∃ (rl:List Addr) (v5 v6:Option V),σ=[some (.ref a),some (.ref lw),some (.ref lf),some (.int (0+(i:Int))),some (.ref ll),v5,v6]∧Same Hc Hd∧Hd ll=some (.lst (rl.map V.ref))∧Paired (fun r o=>Hd r=some (.lst (o.map V.int))∧r ≠ ll) rl (qGS net works (OL.take j)))
   ⟨[],v5,v6,rfl,sl,gll,.nil⟩ (fun j σ Hd _ ⟨_,_,_,_,sd,_⟩=>SqL.of (sd _ _ glf)) ?_ ?_⟩
  ·refine fun j x σ Hd hx hI_2=>opq fun G_2 hG_2=>?_
   obtain ⟨rl,v5,v6,rfl,sd,gld,PL⟩:=hI_2
   obtain ⟨r,er,rfl⟩:=qIA hx
   obtain ⟨o,eo,ho⟩:=qDS PF er
   refine hG_2 ?_
   have sA:=sc.trans sd
   refine ⟨_,rfl,lw,rfl,⟨_,SqL.of (sA _ _ hLw)⟩,qCR (a:=lw) (xs:=works.map V.int) (fun k σ He=>∃ (rl:List Addr) (v6:Option V),σ=[some (.ref a),some (.ref lw),some (.ref lf),some (.int (0+(i:Int))),some (.ref ll),some (.ref r),v6]∧Same Hc He∧He ll=some (.lst (rl.map V.ref))∧Paired (fun r o=>He r=some (.lst (o.map V.int))∧r ≠ ll) rl (qGS net works (OL.take j)++lngO net (works.take k) o))
    ⟨rl,v6,rfl,sd,gld,by unfold lngO;simpa using PL⟩ (fun k σ He _ ⟨_,_,_,se,_⟩=>SqL.of (se _ _ (sc _ _ hLw))) ?_ ?_⟩
   ·refine fun k x σ He hx hI_3=>opq fun G_3 hG_3=>?_
    obtain ⟨rl,v6,rfl,se,gle,PE⟩:=hI_3
    obtain ⟨y,ey,rfl⟩:=qAM hx
    refine hG_3 ?_
    have yb:=Nw.1.in_ y (List.mem_of_getElem? ey)
    have hy:y.toNat<net.length:=by omega
    have hz:=List.getElem?_eq_getElem hy
    obtain ⟨r2,h3,h4⟩:=NL.get hz
    have en:=qAD hz
    have ln:=(wf y.toNat _ hz).len
    generalize net[y.toNat]=ns at h4 hz en ln
    have sB:=sc.trans se
    have hoE:=se _ _ ho
    have lo7:o.length≤7:=by
     have:=(qJ2 (net:=net) (works:=works) i o).mp (by rw [hOL];exact List.mem_of_getElem? eo)
     omega
    have bound:rl.length+1≤1000000:=by
     have e1:=Paired.length PE
     rw [List.length_append] at e1
     have e2:(lngO net (works.take k) o).length≤works.length:=by
      unfold lngO
      rw [List.length_map]
      exact Nat.le_trans (List.length_filter_le _ _) (by rw [List.length_take];omega)
     have e3:=qMG (net:=net) lw7 (OL.take j)
     have e4:(qGS net works (OL.take j)).length≤(qGS net works OL).length:=by
      unfold qGS
      exact qOK _ j OL
     omega
    have snoc:lngO net (works.take (k+1)) o=lngO net (works.take k) o++(if frO net o y then [o++[y]] else []):=by
     unfold lngO
     rw [qC7 ey,List.map_append]
     by_cases c:frO net o y=true
     ·rw [if_pos c,if_pos c];rfl
     ·rw [if_neg c,if_neg c];rfl
    rw [snoc]
    refine ⟨_,rfl,_,rfl,r,_,rfl,.inl (SqL.of hoE),rfl,qKD o,_,rfl,?_⟩
    have off:frO net o y=false→Paired (fun r o=>He r=some (.lst (o.map V.int))∧r ≠ ll) rl (qGS net works (OL.take j)++(lngO net (works.take k) o++(if frO net o y then [o++[y]] else []))):=by
     intro c
     rw [c,if_neg (by decide),List.append_nil]
     exact PE
    dsimp only
    rw [qQ1]
    by_cases c:y ∈ o
    ·rw [decide_eq_true c]
     refine iteF ?_
     refine iteF ?_
     exact ⟨rl,_,rfl,se,gle,off (by unfold frO;rw [decide_eq_true c];rfl)⟩
    ·rw [decide_eq_false c]
     refine iteT ?_
     have hA1:=sB _ _ hA
     have h41:=sB _ _ h4
     refine ⟨_,rfl,_,rfl,a,_,_,_,rfl,rfl,SqT.of hA1,qC2 yb.1 (by rw [List.getElem?_map,h3];rfl),r2,rfl,⟨_,SqT.of h41⟩,fun p2 hp2=>?_⟩
     refine qLD (p:=p2) (a:=r2) (xs:=ns.map V.int) (fun j σ Hd=>∃ (v:Option V),σ=[v,some (.ref r)]∧Same He Hd∧Hd p2=some (.lst (((ns.take j).map fun z=>decide (z ∈ o)).map V.bl))) ?_ ?_ ?_ ?_
     ·exact ⟨none,rfl,qA2 hp2 _,qA1⟩
     ·rintro j σ Hd hj ⟨v,rfl,sd,_⟩
      exact SqT.of (sd _ _ h41)
     ·refine fun j x σ Hd hx hI_5=>opq fun G_5 hG_5=>?_
      obtain ⟨v,rfl,sd,hpd⟩:=hI_5
      obtain ⟨z,ez,rfl⟩:=qAM hx
      refine hG_5 ?_
      have hj:=(List.getElem?_eq_some_iff.mp ez).1
      refine ⟨_,rfl,_,rfl,r,_,rfl,.inl (SqL.of (sd _ _ hoE)),rfl,qKD o,_,hpd,qAX (by rw [List.length_map,List.length_map,List.length_take];omega),_,rfl,qAG sd hp2,?_⟩
      rw [qA1,List.take_add_one,ez,Option.toList_some,List.map_append,List.map_append]
      show some (HO.lst (_++[V.bl (inV (.int z) (o.map V.int))]))=_
      rw [qQ1]
      rfl
     refine fun σ Hd hI_6=>opq fun G_6 hG_6=>?_
     obtain ⟨v,rfl,sd,hpd⟩:=hI_6
     refine hG_6 ?_
     rw [List.length_map,qAO rfl] at hpd
     refine ⟨p2,_,rfl,SqL.of hpd,_,rfl,?_⟩
     have ef:frO net o y=(ns.map fun z=>decide (z ∈ o)).all id:=by
      unfold frO
      rw [decide_eq_false c,en,List.all_map]
      rfl
     rw [← ef]
     have sE:=se.trans sd
     have glE:=sd _ _ gle
     by_cases c2:frO net o y=true
     ·rw [c2]
      refine iteT ?_
      refine ⟨_,rfl,.inl ⟨rfl,_,SqL.of glE⟩,_,rfl,_,rfl,(by show 1≤sizeLine;decide),fun b1 hb1=>?_⟩
      have sb:=qA2 hb1 (.lst [.int y])
      refine ⟨r,b1,_,_,rfl,rfl,sb _ _ (sd _ _ hoE),qA1,(by rw [List.length_map,sizeLine_eq];show _+1≤_;omega),fun c3 hc3=>?_⟩
      have s3:=sb.trans (qA2 hc3 (.lst (o.map V.int++[.int y])))
      have gl3:=s3 _ _ glE
      refine ⟨ll,_,_,rfl,rfl,gl3,qC0 (by rw [List.length_map];omega),?_⟩
      rw [qRC]
      refine ⟨rl++[c3],_,rfl,qAG (sE.trans s3) hll,qA1,?_⟩
      rw [if_pos rfl,← List.append_assoc]
      have n3:c3 ≠ ll:=(qA5 (sb _ _ glE) hc3).symm
      refine qHK (qB0 PE fun r' o' e=>?_) ⟨?_,n3⟩
      ·exact ⟨by rw [qA7 e.2];exact s3 _ _ (sd _ _ e.1),e.2⟩
      ·rw [qA7 n3,qA1,List.map_append]
       rfl
     ·rw [Bool.eq_false_iff.mpr c2]
      refine iteF ?_
      have:=off (Bool.eq_false_iff.mpr c2)
      rw [Bool.eq_false_iff.mpr c2] at this
      exact ⟨rl,_,rfl,sE,glE,qB0 this fun _ _ e=>⟨sd _ _ e.1,e.2⟩⟩
   ·refine fun σ He hI_7=>opq fun G_7 hG_7=>?_
    obtain ⟨rl,v6,rfl,se,gle,PE⟩:=hI_7
    refine hG_7 ?_
    rw [List.length_map,List.take_length] at PE
    refine ⟨rl,_,_,rfl,se,gle,?_⟩
    have:qGS net works (OL.take (j+1))=qGS net works (OL.take j)++lngO net works o:=by
     unfold qGS
     rw [List.take_add_one,eo,Option.toList_some,List.map_append,List.flatten_append]
     simp
    rw [this]
    exact PE
  ·refine fun σ Hd hI_8=>opq fun G_8 hG_8=>?_
   obtain ⟨rl,v5,v6,rfl,sd,gld,PL⟩:=hI_8
   refine hG_8 ?_
   rw [List.length_map,lrf,List.take_length] at PL
   refine hN4 _ _ ⟨_,rfl,?_⟩
   refine ⟨ll,rl,_,_,_,_,rfl,sc.trans sd,gld,?_⟩
   show Paired _ rl (qGS net works (ordL net works i))
   rw [hOL]
   exact qB0 PL fun _ _ e=>e.1
 ·refine fun σ Hc hI_9=>opq fun G_9 hG_9=>?_
  obtain ⟨lf,rf,v3,v4,v5,v6,rfl,sc,glf,PF⟩:=hI_9
  refine hG_9 ?_
  exact hN2 _ _ ⟨_,rfl,q lf rf Hc sc glf PF⟩
end
section
variable {P:Program} {w:World} {K:PySem.W.Frag} {mg:Str→Option Value} {base:Heap} {f:Addr} {fd:FuncData} {qDG:Addr} {qDT:FuncData}
theorem qZ2 {α:Type} (xs:List α) (k q:Nat) (h:q≤xs.length) (hk:k≤q):cutI xs (some (k:Int)) (some (q:Int))=(xs.drop k).take (q - k):=by
 unfold cutI
 rw [HT.sIx_nat,HT.sIx_nat,Nat.min_eq_left h,Nat.min_eq_left (by omega)]
theorem sc_Lin_stretches:FnScope ["_law_net","_law_order","_law_place","_law_one","_law_below"] ["_law_net","_law_order"] (qAB qCN):=⟨rfl,rfl,rfl,by decide +kernel,rfl,by decide +kernel,by decide +kernel⟩
theorem ok_Lin_stretches (F:Fun K "_law_in_stretches" "_law_in_stretches" qCN f fd) (qBY:Clb P w K mg base 1 qDG qDT "_law_needed" ["_law_net","_law_asked"] qIX) (qAN:mg "enumerate" = none) (qBN:mg "len" = none) (qAV:mg "sorted" = none):FnOk P w K mg base CX0 2 f fd ["_law_net","_law_order"] qPG:=by
 refine F.ok sc_Lin_stretches (fun vs H Q E h=>?_) (fun cdv A outer s H vs Q E hr h=>?_)
 ·obtain ⟨a,lo,net,zs,rfl,_⟩:=h
  rfl
 obtain ⟨a,lo,net,zs,rfl,hN,wf,n60,hLo,lz,zin,qt,qf⟩:=h
 have hu0:=hr.units0
 refine ⟨_,(qA4 (qBM PassesOwn.never rfl (qJQ rfl qAN qDI (qA0 (pv 1) qA3)) (qL5 rfl (qBP (qAA (i:=2) sc_Lin_stretches.nd rfl (Or.inl rfl)) (qBP (qAA (i:=3) sc_Lin_stretches.nd rfl (Or.inl rfl)) qFJ))) (qA4 (qAE (i:=4) sc_Lin_stretches.nd rfl (Or.inl rfl) (qAQ qBY hr rfl (qA0 (pv 0) (qA0 (qEV (qA0 (pv 3) qA3)) qA3)))) (qA6 (qCU (PW.pt (qPI (qB3 qW4 (qAU qDC (pv 2) qA9) (qA8 qAJ rfl qBN qDH (qA0 (pv 4) qA3)) (qB9 _)) (qJO (qB3 (qPO hu0) (qA8 (qFZ rfl) rfl qAV qEX (qA0 (qHE qJL (pv 1) (qI5 (qAU qFK (qAU qDC (pv 2) qA9) (qA8 qAJ rfl qBN qDH (qA0 (pv 4) qA3)))) (qI5 (qAU qDC (pv 2) qA9))) qA3)) (pv 4) (qB9 _))))) (qA6 (qAL qDJ)) qAT)))) (qA6 (qAL qDJ))),?_⟩
 try dsimp only [Cx.nox,Cx.wish,cxOf]
 refine cut fun N1 hN1=>?_
 refine ⟨_,rfl,lo,rfl,⟨_,SqL.of hLo⟩,qMK (a:=lo) (xs:=zs.map V.int) (fun i σ Hc=>∃ (v2 v3 v4:Option V),σ=[some (.ref a),some (.ref lo),v2,v3,v4]∧Same H Hc∧∀ (p:Nat) (o:Int) (ys:List Int),p<i→zs[p]?=some o→qAH net [o] ys→ys.length≤p+1∧((zs.drop (p+1 - ys.length)).take ys.length).Perm ys)
  ⟨none,none,none,rfl,.refl _,fun p o ys hp=>by omega⟩ (fun i σ Hc _ ⟨_,_,_,_,sc,_⟩=>SqL.of (sc _ _ hLo)) ?_ ?_⟩
 ·refine fun i x σ Hc T hx hI_1 hT2=>opq fun G_1 hG_1=>?_
  obtain ⟨v2,v3,v4,rfl,sc,IH⟩:=hI_1
  obtain ⟨o,eo,rfl⟩:=qAM hx
  refine hG_1 ?_
  have hi:=(List.getElem?_eq_some_iff.mp eo).1
  have ob:=zin o (List.mem_of_getElem? eo)
  have sT:=sc.trans (qA2 hT2 (.tup [.int (i:Int),.int o]))
  have gT:SqT K (upd Hc T (.tup [.int (i:Int),.int o])) T [.int (i:Int),.int o]:=SqT.of qA1
  generalize upd Hc T (.tup [.int (i:Int),.int o])=H1 at sT gT ⊢
  refine ⟨T,_,rfl,gT,rfl,_,_,rfl,_,_,rfl,rfl,?_⟩
  refine cut fun N2 hN2=>?_
  refine ⟨_,rfl,_,rfl,(by show 1≤sizeLine;decide),fun ta hta=>?_⟩
  have sta:=qA2 hta (.tup [.int o])
  have gta:(upd H1 ta (.tup [.int o])) ta=some (.tup ([o].map V.int)):=qA1
  have s3:=sT.trans sta
  generalize upd H1 ta (.tup [.int o])=H3 at gta s3 ⊢
  refine ⟨a,ta,net,[o],rfl,hN.same s3,wf,by omega,⟨gta,⟨List.pairwise_singleton _ _,fun x hx=>by rw [List.mem_singleton.mp hx];omega⟩⟩,fun lb ys H4 s4 f4 gb N=>?_⟩
  have ly:=N.1.len
  have s5:=s3.trans s4
  refine hN2 _ _ ?_
  refine ⟨_,rfl,_,_,rfl,rfl,_,rfl,lb,_,rfl,.inl (SqL.of gb),_,_,rfl,rfl,_,rfl,?_⟩
  dsimp only
  rw [List.length_map]
  by_cases c1:(i:Int)+1<(ys.length:Int)
  ·rw [decide_eq_true c1]
   refine iteT ?_
   refine iteT ?_
   exact qf (fun IS=>by have:=(IS i o ys eo N).1;omega) _ s5
  ·rw [decide_eq_false c1]
   refine iteF ?_
   have lo5:=s5 _ _ hLo
   refine ⟨_,rfl,_,rfl,_,_,rfl,rfl,_,rfl,lb,_,rfl,.inl (SqL.of gb),_,_,rfl,rfl,_,rfl,_,rfl,_,_,rfl,rfl,_,rfl,lo,_,rfl,SqL.of lo5,fun l6 hl6=>?_⟩
   have ly1:ys.length≤i+1:=by omega
   have eb:cutV (zs.map V.int) (some ((i:Int)+1 - (((ys.map V.int).length:Nat):Int))) (some ((i:Int)+1))=((zs.drop (i+1 - ys.length)).take ys.length).map V.int:=by
    rw [qHX,List.length_map,show (i:Int)+1 - (ys.length:Int)=((i+1 - ys.length:Nat):Int) by omega,show (i:Int)+1=((i+1:Nat):Int) by omega,qZ2 _ _ _ (by omega) (by omega),show i+1 - (i+1 - ys.length)=ys.length by omega]
   rw [eb]
   have s6:=qA2 hl6 (.lst (((zs.drop (i+1 - ys.length)).take ys.length).map V.int))
   have g6:(upd H4 l6 (.lst (((zs.drop (i+1 - ys.length)).take ys.length).map V.int))) l6=some (.lst (((zs.drop (i+1 - ys.length)).take ys.length).map V.int)):=qA1
   have l62:((zs.drop (i+1 - ys.length)).take ys.length).length≤60:=by rw [List.length_take,List.length_drop];omega
   have key:=IH
   generalize hD:(zs.drop (i+1 - ys.length)).take ys.length=D at s6 g6 l62 ⊢
   generalize upd H4 l6 (.lst (D.map V.int))=H6 at s6 g6 ⊢
   refine ⟨l6,D,rfl,.inl (SqL.of g6),by omega,fun l7 ns7 hl7 pm7 st7=>?_⟩
   have s7:=qA2 hl7 (.lst (ns7.map V.int))
   refine ⟨_,rfl,l7,lb,ns7,ys,rfl,rfl,SqL.of qA1,SqL.of (s7 _ _ (s6 _ _ gb)),_,rfl,?_⟩
   generalize upd H6 l7 (.lst (ns7.map V.int))=H7 at s7 ⊢
   have s8:=s5.trans (s6.trans s7)
   by_cases c2:ns7=ys
   ·rw [decide_eq_false (fun z=>z c2)]
    refine iteF ?_
    refine ⟨_,_,_,rfl,s8,fun p o' ys' hp ep N'=>?_⟩
    rcases Nat.lt_succ_iff_lt_or_eq.mp hp with h | h
    ·exact IH p o' ys' h ep N'
    ·subst h
     rw [eo] at ep
     cases ep
     have:=qGE N' N
     subst this
     refine ⟨ly1,?_⟩
     rw [hD,← c2]
     exact pm7.symm
   ·rw [decide_eq_true c2]
    refine iteT ?_
    refine qf (fun IS=>c2 ?_) _ s8
    have:=(IS i o ys eo N).2
    rw [hD] at this
    have pp:=pm7.trans this
    exact qVQ (qFL st7 (pp.nodup_iff.mpr N.1.nodup)) N.1.up fun x=>pp.mem_iff
 ·refine fun σ Hc hI_2=>opq fun G_2 hG_2=>?_
  obtain ⟨v2,v3,v4,rfl,sc,IH⟩:=hI_2
  refine hG_2 ?_
  rw [List.length_map] at IH
  exact hN1 _ _ (qt (fun p o ys e N=>IH p o ys (List.getElem?_eq_some_iff.mp e).1 e N) Hc sc)
end
section
variable {P:Program} {w:World} {K:PySem.W.Frag} {mg:Str→Option Value} {base:Heap} {f:Addr} {fd:FuncData} {qEM:Addr} {qE9:FuncData}
theorem sc_Ldrawn_order:FnScope ["_law_state","_law_net","_law_works","_law_left","_law_done","_law_order","_law_ready","_law_one"] ["_law_state","_law_net","_law_works"] (qAB qD1):=⟨rfl,rfl,rfl,by decide +kernel,rfl,by decide +kernel,by decide +kernel⟩
theorem ok_Ldrawn_order (F:Fun K "_law_drawn_order" "_law_drawn_order" qD1 f fd) (qBL:Clb P w K mg base 1 qEM qE9 "_law_take" ["_law_state","_law_many"] qND) (qCC:mg "list" = none) (qBN:mg "len" = none) (qET:mg "all" = none):FnOk P w K mg base CX0 2 f fd ["_law_state","_law_net","_law_works"] qQR:=by
 refine F.ok sc_Ldrawn_order (fun vs H Q E h=>?_) (fun cdv A outer s H vs Q E hr h=>?_)
 ·obtain ⟨d,c,a,lw,t,ns,net,works,work,rfl,_⟩:=h
  rfl
 obtain ⟨d,c,a,lw,t,ns,net,works,work,rfl,S,ht,hN,wf,n60,nlc,hLw,Nw,q⟩:=h
 have ht':t≤1000000000 - 1000:=ht
 have hu0:=hr.units0
 refine ⟨_,(qA4 (qAE (i:=3) sc_Ldrawn_order.nd rfl (Or.inl rfl) (qBQ qIN rfl qCC qH0 (qA0 (pv 2) qA3))) (qA4 (qAE (i:=4) sc_Ldrawn_order.nd rfl (Or.inr rfl) (qAU qNR (qB8 (qA0 qDJ qA3)) (qA8 qAJ rfl qBN qDH (qA0 (pv 1) qA3)))) (qA4 (qAE (i:=5) sc_Ldrawn_order.nd rfl (Or.inl rfl) (qB8 qA3)) (qA4 (qQZ PassesOwn.never (qB3 (qTU hu0) (pv 3) (qB8 qA3) (qB9 _)) (qA4 (qS6 (i:=6) sc_Ldrawn_order.nd rfl rfl rfl (lcs (own:=["_law_one"]) (fv:=[1,4]) (by kernel_rfl)) (qC1 (pv 3)) (fun z1=>qAA (i:=0) (qEL (by kernel_rfl)) rfl (Or.inl rfl)) (fun z1=>(qJP (qCS (qA8 (qVC (K:=K) rfl rfl) rfl qET qOY (qA0 (qIR (X:=lcCx _ _ _ _ z1) rfl (lcs (own:=["_law_need"]) (fv:=[2]) (by kernel_rfl)) (qTR (K:=K) rfl (qB2 (qFO (K:=K) rfl) (pv 1) (pv 0) (fun _ _=>rfl))) (fun z2=>qAA (i:=0) (qEL (by kernel_rfl)) rfl (Or.inl rfl)) (fun z2=>qCT) (fun z2=>(qB2 (qJ4 (K:=K) rfl) (pv 1) (pv 0) (fun _ _=>rfl)))) qA3))))) (fun z1=>(pv 0)) (by kernel_rfl)) (qA4 (qAE (i:=7) sc_Ldrawn_order.nd rfl (Or.inl rfl) (qB2 qF3 (pv 6) (qAQ qBL hr rfl (qA0 (pv 0) (qA0 (qA8 qAJ rfl qBN qDH (qA0 (pv 6) qA3)) qA3))) (fun _ _=>rfl))) (qA4 (qCO (qJS PySem.F.plainAttrs_list PySem.F.slot_list_append PySem.F.type_list_append qDD (pv 5) (qA0 (pv 7) qA3))) (qA4 (qNJ qDJ (qR3 (pv 4) (pv 7) qH9)) (qA6 (qCO (qJS PySem.F.plainAttrs_list PySem.F.slot_list_remove PySem.F.type_list_remove qU0 (pv 3) (qA0 (pv 7) qA3))))))))) (qA6 (qAL (pv 5))))))),?_⟩
 try dsimp only [Cx.nox,Cx.wish,cxOf]
 obtain ⟨rs,hA,NL⟩:=id hN
 have lrv:(((rs.map V.ref).length:Nat):Int)=(net.length:Int):=by rw [List.length_map,Paired.length NL]
 have lw60:=Nw.1.len
 refine cut fun N1 hN1=>?_
 have ndl:lw ≠ d:=qC9 hLw S.dict (by intro z;cases z)
 refine ⟨_,rfl,lw,_,rfl,.inl (SqL.of hLw),fun ll hll=>?_⟩
 have s1:=qA2 hll (.lst (works.map V.int))
 have gll:(upd H ll (.lst (works.map V.int))) ll=some (.lst (works.map V.int)):=qA1
 generalize upd H ll (.lst (works.map V.int))=H1 at s1 gll ⊢
 refine hN1 _ _ (cut fun N2 hN2=>?_)
 refine ⟨(by show 1≤sizeLine;decide),fun p0 hp0=>?_⟩
 have s2':=qA2 hp0 (.lst [.bl false])
 refine ⟨_,rfl,a,_,rfl,.inr (SqT.of (s2' _ _ (s1 _ _ hA))),p0,_,_,rfl,rfl,qA1,by rw [lrv];omega,by rw [lrv];omega,?_,fun fo hfo=>?_⟩
 ·rw [lrv,sizeLine_eq];simp;omega
 have ffo:H1 fo=none:=s2'.free hfo
 have s2:=s2'.trans (qA2 hfo (.lst (List.replicate ((((rs.map V.ref).length:Nat):Int)).toNat [V.bl false]).flatten))
 have gfo:(upd (upd H1 p0 (.lst [.bl false])) fo (.lst (List.replicate ((((rs.map V.ref).length:Nat):Int)).toNat [V.bl false]).flatten)) fo=some (.lst ((List.replicate net.length false).map V.bl)):=by
  rw [qA1,repF,lrv,Int.toNat_natCast]
 generalize upd (upd H1 p0 (.lst [.bl false])) fo (.lst (List.replicate ((((rs.map V.ref).length:Nat):Int)).toNat [V.bl false]).flatten)=H2 at s2 gfo ⊢
 refine hN2 _ _ (cut fun N3 hN3=>?_)
 refine ⟨(by show 0≤sizeLine;decide),fun lo hlo=>?_⟩
 have s3:=qA2 hlo (.lst [])
 have glo:(upd H2 lo (.lst [])) lo=some (.lst (([]:List Int).map V.int)):=qA1
 generalize upd H2 lo (.lst [])=H3 at s3 glo ⊢
 have gfo3:=s3 _ _ gfo
 have gll3:=s3 _ _ (s2 _ _ gll)
 have s03:=s1.trans (s2.trans s3)
 have fll:H ll=none:=hll
 have ffo0:H fo=none:=s1.free ffo
 have flo0:H lo=none:=(s1.trans s2).free hlo
 have nlf:ll ≠ fo:=qA5 gll ffo
 have nlo:ll ≠ lo:=qA5 (s2 _ _ gll) hlo
 have nfo:fo ≠ lo:=qA5 gfo hlo
 refine hN3 _ _ (cut fun N4 hN4=>?_)
 refine ⟨fun m σ Hc=>∃ (ord lf:List Int) (bs:List Bool) (ns':List Int) (v6 v7:Option V),m=lf.length∧σ=[some (.ref d),some (.ref a),some (.ref lw),some (.ref ll),some (.ref fo),some (.ref lo),v6,v7]∧StAt Hc d c (t+(ord.length:Int)) ns'∧Keep d c H Hc∧Hc ll=some (.lst (lf.map V.int))∧Hc fo=some (.lst (bs.map V.bl))∧Hc lo=some (.lst (ord.map V.int))∧Begun net works ord∧LeftO works ord lf∧Bls net.length ord bs,⟨_,[],works,List.replicate net.length false,ns,none,none,rfl,rfl,by simpa using S.same s03,.of_same s03,gll3,gfo3,glo,⟨List.Pairwise.nil,fun _ h=>(nomatch h),fun p o e=>by simp at e⟩,⟨Nw.1.nodup,fun x=>by simp,by simp⟩,⟨by simp,fun x hx=>by simp [hx]⟩⟩,?_⟩
 refine fun m σ Hc hI_1=>opq fun G_1 hG_1=>?_
 obtain ⟨ord,lf,bs,ns',v6,v7,rfl,rfl,Sc,Kc,gl,gf,go,B,L,BL⟩:=hI_1
 refine hG_1 ?_
 have ldl:ll ≠ d∧ll ≠ c:=⟨(qA5 S.dict fll).symm,(qA5 S.list fll).symm⟩
 have fdl:fo ≠ d∧fo ≠ c:=⟨(qA5 S.dict ffo0).symm,(qA5 S.list ffo0).symm⟩
 have odl:lo ≠ d∧lo ≠ c:=⟨(qA5 S.dict flo0).symm,(qA5 S.list flo0).symm⟩
 have hNc:=hN.keep S Kc
 have ltot:=L.len
 refine ⟨_,rfl,(by show 0≤sizeLine;decide),fun le hle=>?_⟩
 have se:=qA2 hle (.lst [])
 refine ⟨ll,le,lf.map V.int,rfl,rfl,SqL.of (se _ _ gl),SqL.of qA1,_,rfl,?_⟩
 generalize upd Hc le (.lst [])=H4 at se ⊢
 dsimp only
 rw [show (lf.map V.int).isEmpty=lf.isEmpty by cases lf <;> rfl]
 by_cases c0:lf=[]
 ·rw [c0]
  refine iteF ?_
  refine hN4 _ _ ⟨_,rfl,?_⟩
  have el:ord.length=works.length:=by rw [c0] at ltot;simpa using ltot
  exact q lo ord _ ns' H4 (Sc.same se) (by omega) (by omega) (Kc.trans (.of_same se)) (se _ _ go) (qP3 Nw B el)
 have ne:lf.isEmpty=false:=by cases lf with
  | nil=>exact absurd rfl c0
  | cons _ _=>rfl
 rw [ne]
 refine iteT ?_
 refine ⟨_,fun σ' H' h=>⟨lf.length - 1,?_,h⟩,?_⟩
 ·have:=List.length_pos_iff.mpr c0
  omega
 have K4:=Kc.trans (.of_same se)
 have hN4':=hN.keep S K4
 obtain ⟨rs4,hA4,NL4⟩:=id hN4'
 refine cut fun M1 hM1=>?_
 refine ⟨_,rfl,ll,rfl,⟨_,SqL.of (se _ _ gl)⟩,fun p hp=>?_⟩
 refine qGV (p:=p) (a:=ll) (xs:=lf.map V.int) (fun i σ Hd=>∃ v:Option V,σ=[v,some (.ref a),some (.ref fo)]∧Same H4 Hd∧Hd p=some (.lst (((lf.take i).filter (rdy net ord)).map V.int))) ?_ ?_ ?_ ?_
 ·exact ⟨none,rfl,qA2 hp _,qA1⟩
 ·rintro i σ Hd hi ⟨v,rfl,sd,_⟩
  exact SqL.of (sd _ _ (se _ _ gl))
 ·refine fun i x σ Hd hx hI_3=>opq fun G_3 hG_3=>?_
  obtain ⟨v,rfl,sd,hpd⟩:=hI_3
  obtain ⟨y,ey,rfl⟩:=qAM hx
  refine hG_3 ?_
  have yb:=Nw.1.in_ y ((L.mem y).mp (List.mem_of_getElem? ey)).1
  have hy:y.toNat<net.length:=by omega
  have hz:=List.getElem?_eq_getElem hy
  obtain ⟨r2,h3,h4⟩:=NL4.get hz
  have en:=qAD hz
  have rz:=wf y.toNat _ hz
  generalize net[y.toNat]=ys at h4 hz en rz
  have ly:=rz.len
  have hA1:=sd _ _ hA4
  have h41:=sd _ _ h4
  refine ⟨_,rfl,_,rfl,a,_,_,_,rfl,rfl,SqT.of hA1,qC2 yb.1 (by rw [List.getElem?_map,h3];rfl),r2,rfl,⟨_,SqT.of h41⟩,fun p2 hp2=>?_⟩
  refine qLD (p:=p2) (a:=r2) (xs:=ys.map V.int) (fun j σ He=>∃ (v:Option V),σ=[v,some (.ref fo)]∧Same Hd He∧He p2=some (.lst (((ys.take j).map fun z=>decide (z ∈ ord)).map V.bl))) ?_ ?_ ?_ ?_
  ·exact ⟨none,rfl,qA2 hp2 _,qA1⟩
  ·rintro j σ He hj ⟨v,rfl,sx,_⟩
   exact SqT.of (sx _ _ h41)
  ·refine fun j x σ He hx hI_5=>opq fun G_5 hG_5=>?_
   obtain ⟨v,rfl,sx,hpe⟩:=hI_5
   obtain ⟨z,ez,rfl⟩:=qAM hx
   refine hG_5 ?_
   have hj:=(List.getElem?_eq_some_iff.mp ez).1
   have zb:=rz.in_ z (List.mem_of_getElem? ez)
   have bz:bs[z.toNat]?=some (decide (z ∈ ord)):=by
    have:=BL.at_ z.toNat (by omega)
    rw [show ((z.toNat:Nat):Int)=z by omega] at this
    exact this
   refine ⟨_,rfl,_,rfl,fo,_,_,_,rfl,rfl,SqL.of (sx _ _ (sd _ _ (se _ _ gf))),qC2 zb.1 (qUT bz),_,hpe,qAX (by rw [List.length_map,List.length_map,List.length_take];omega),_,rfl,qAG sx hp2,?_⟩
   rw [qA1,List.take_add_one,ez,Option.toList_some,List.map_append,List.map_append]
   rfl
  refine fun σ He hI_6=>opq fun G_6 hG_6=>?_
  obtain ⟨v,rfl,sx,hpe⟩:=hI_6
  refine hG_6 ?_
  rw [List.length_map,qAO rfl] at hpe
  refine ⟨p2,_,rfl,SqL.of hpe,_,rfl,?_⟩
  have ef:(ys.map fun z=>decide (z ∈ ord)).all id=rdy net ord y:=by
   unfold rdy
   rw [en,List.all_map]
   rfl
  rw [ef,qC7 ey]
  have hpx:=sx _ _ hpd
  have lq:(lf.take i).length≤60:=by rw [List.length_take];omega
  have lq2:((lf.take i).filter (rdy net ord)).length≤60:=Nat.le_trans (List.length_filter_le _ _) lq
  by_cases c2:rdy net ord y=true
  ·rw [c2,if_pos rfl]
   refine iteT ?_
   refine ⟨_,rfl,_,hpx,qAX (by rw [List.length_map];omega),_,rfl,qAG (sd.trans sx) hp,?_⟩
   rw [qA1,List.map_append]
   rfl
  ·rw [Bool.eq_false_iff.mpr c2]
   refine iteF ?_
   refine ⟨_,rfl,sd.trans sx,?_⟩
   simpa using hpx
 refine fun σ Hd hI_7=>opq fun G_7 hG_7=>?_
 obtain ⟨v,rfl,sd,hpd⟩:=hI_7
 refine hG_7 ?_
 rw [List.length_map,List.take_length] at hpd
 have r1:=qZV wf Nw B L c0
 refine hM1 _ _ (cut fun M2 hM2=>?_)
 have S4:=Sc.same se
 have npd:p ≠ d∧p ≠ c:=⟨(qA5 S4.dict hp).symm,(qA5 S4.list hp).symm⟩
 have sub:∀ x ∈ lf.filter (rdy net ord),x ∈ works∧frO net ord x=true:=fun x hx=>qZU L hx
 have lrd:(lf.filter (rdy net ord)).length≤60:=Nat.le_trans (List.length_filter_le _ _) (by omega)
 have inl:∀ x ∈ lf.filter (rdy net ord),x ∈ lf:=fun x hx=>(List.mem_filter.mp hx).1
 generalize lf.filter (rdy net ord)=rd at hpd r1 sub lrd inl
 refine ⟨_,rfl,_,rfl,_,rfl,p,_,rfl,.inl (SqL.of hpd),?_⟩
 rw [List.length_map]
 refine ⟨d,c,_,ns',_,rfl,S4.same sd,(by show t+_≤1000000000;omega),by omega,by omega,fun k ns5 H5 k0 k1 S5 K5=>?_⟩
 have hk:k.toNat<rd.length:=by omega
 obtain ⟨y,ey⟩:∃ y,rd[k.toNat]?=some y:=⟨_,List.getElem?_eq_getElem hk⟩
 have my:=List.mem_of_getElem? ey
 obtain ⟨yw,yf⟩:=sub y my
 have yb:=Nw.1.in_ y yw
 have B2:=qLM B yw yf
 obtain ⟨j,ej⟩:=List.getElem?_of_mem (inl y my)
 have L2':=L.next ej
 refine ⟨p,_,k,_,rfl,rfl,SqL.of (K5 _ _ hpd npd.1 npd.2),qC2 k0 (by rw [List.getElem?_map,ey];rfl),?_⟩
 have sA:=se.trans sd
 have K05:=Kc.trans ((Keep.of_same sA).trans K5)
 have go5:=K5 _ _ (sA _ _ go) odl.1 odl.2
 have gf5:=K5 _ _ (sA _ _ gf) fdl.1 fdl.2
 have gl5:=K5 _ _ (sA _ _ gl) ldl.1 ldl.2
 have lo60:ord.length≤60:=by omega
 refine hM2 _ _ (cut fun M3 hM3=>?_)
 refine ⟨_,rfl,.inl ⟨rfl,_,SqL.of go5⟩,_,rfl,lo,_,_,rfl,rfl,go5,qAX (by rw [List.length_map];omega),?_⟩
 have e1:ord.map V.int++[V.int y]=(ord++[y]).map V.int:=by rw [List.map_append];rfl
 rw [e1]
 have K6:=qHM (o:=.lst ((ord++[y]).map V.int)) K05 flo0
 have S6:=S5.upd (o:=.lst ((ord++[y]).map V.int)) odl.1.symm odl.2.symm
 have go6:(upd H5 lo (.lst ((ord++[y]).map V.int))) lo=some (.lst ((ord++[y]).map V.int)):=qA1
 have gf6:(upd H5 lo (.lst ((ord++[y]).map V.int))) fo=some (.lst (bs.map V.bl)):=by rw [qA7 nfo];exact gf5
 have gl6:(upd H5 lo (.lst ((ord++[y]).map V.int))) ll=some (.lst (lf.map V.int)):=by rw [qA7 nlo];exact gl5
 generalize upd H5 lo (.lst ((ord++[y]).map V.int))=H6 at K6 S6 go6 gf6 gl6 ⊢
 refine hM3 _ _ (cut fun M4 hM4=>?_)
 have ix:=qMJ (xs:=bs.map V.bl) (j:=y.toNat) (by rw [List.length_map,BL.len];omega)
 rw [show ((y.toNat:Nat):Int)=y by omega] at ix
 refine ⟨_,rfl,_,rfl,fo,_,_,_,rfl,rfl,gf6,ix,?_⟩
 have yno:y ∉ ord:=((L.mem y).mp (inl y my)).2
 have BL2:=BL.set yb.1 yb.2
 rw [show addI ord y=ord++[y] by unfold addI;rw [if_neg yno]] at BL2
 have e2:(bs.map V.bl).set y.toNat (V.bl true)=(bs.set y.toNat true).map V.bl:=by rw [List.map_set]
 rw [e2]
 have K7:=qHM (o:=.lst ((bs.set y.toNat true).map V.bl)) K6 ffo0
 have S7:=S6.upd (o:=.lst ((bs.set y.toNat true).map V.bl)) fdl.1.symm fdl.2.symm
 have gf7:(upd H6 fo (.lst ((bs.set y.toNat true).map V.bl))) fo=some (.lst ((bs.set y.toNat true).map V.bl)):=qA1
 have go7:(upd H6 fo (.lst ((bs.set y.toNat true).map V.bl))) lo=some (.lst ((ord++[y]).map V.int)):=by rw [qA7 nfo.symm];exact go6
 have gl7:(upd H6 fo (.lst ((bs.set y.toNat true).map V.bl))) ll=some (.lst (lf.map V.int)):=by rw [qA7 nlf];exact gl6
 generalize upd H6 fo (.lst ((bs.set y.toNat true).map V.bl))=H7 at K7 S7 gf7 go7 gl7 ⊢
 refine hM4 _ _ ?_
 have first:∀ i,i<j→lf[i]? ≠ some y:=fun i hi e=>by
  have hj:=(List.getElem?_eq_some_iff.mp ej)
  have hi':=(List.getElem?_eq_some_iff.mp e)
  have:=qK9 L.nd hi'.1 hj.1 (by rw [hi'.2,hj.2])
  omega
 refine ⟨_,rfl,.inl ⟨rfl,_,SqL.of gl7⟩,_,rfl,ll,lf,y,j,rfl,rfl,gl7,ej,first,?_⟩
 have le:=List.length_eraseIdx_of_lt (List.getElem?_eq_some_iff.mp ej).1
 refine ⟨ord++[y],lf.eraseIdx j,bs.set y.toNat true,ns5,_,_,by rw [le],rfl,?_,qHM K7 fll,qA1,by rw [qA7 nlf.symm];exact gf7,by rw [qA7 nlo.symm];exact go7,B2,L2',BL2⟩
 have:=S7.upd (o:=.lst ((lf.eraseIdx j).map V.int)) ldl.1.symm ldl.2.symm
 rw [List.length_append,List.length_singleton,show t+((ord.length+1:Nat):Int)=t+(ord.length:Int)+1 by omega]
 exact this
end
section
variable {P:Program} {w:World} {K:PySem.W.Frag} {mg:Str→Option Value} {base:Heap} {f:Addr} {fd:FuncData} {Ps Pp:Addr} {qB4 qCJ qF6 qED qFV qCK qCG qBR:Addr} {qBH qDO qIL qEW qHU qCW qFQ qCE:FuncData}
theorem sc_Ltold_right:FnScope ["_law_net","_law_wides_here","_law_work","_law_works","_law_rooms","_law_order","_law_most","_law_own"] ["_law_net","_law_wides_here","_law_work","_law_works"] (qAB qDN):=⟨rfl,rfl,rfl,by decide +kernel,rfl,by decide +kernel,by decide +kernel⟩
theorem ok_Ltold_right (F:Fun K "_law_told_right" "_law_told_right" qDN f fd) (qAF:Clb P w K mg base 5 qB4 qBH "wide_rooms" ["net","wides","work"] (qDV Pp)) (qBS:Clb P w K mg base 4 qCJ qDO "wide_order" ["net","wides","work"] (qGP Pp)) (qDZ:Clb P w K mg base 1 qF6 qIL "_law_is_order" ["_law_net","_law_works","_law_order"] qNF) (qBX:Clb P w K mg base 1 qED qEW "_law_taken" ["_law_net","_law_wides_here","_law_order"] qLY) (qN0:Clb P w K mg base 2 qFV qHU "_law_same" ["_law_found","_law_due"] (spS 2)) (qBF:Clb P w K mg base 1 qCK qCW "taken_by" ["net","wides","work","order"] qH7) (qC8:Clb P w K mg base 4 qCG qFQ "stretched" ["net","wides","work"] (qGQ Ps)) (qAZ:Clb P w K mg base 2 qBR qCE "_law_in_stretches" ["_law_net","_law_order"] qPG) (qCM:mg "max" = none):FnOk P w K mg base CX0 6 f fd ["_law_net","_law_wides_here","_law_work","_law_works"] (qPF Ps Pp):=by
 refine F.ok sc_Ltold_right (fun vs H Q E h=>?_) (fun cdv A outer s H vs Q E hr h=>?_)
 ·obtain ⟨a,t,lw,net,ws,works,work,rfl,_⟩:=h
  rfl
 obtain ⟨a,t,lw,net,ws,works,work,rfl,hTs,hTp,SI,n60,hLw,Nw,q⟩:=h
 refine ⟨_,(qA4 (qAE (i:=4) sc_Ltold_right.nd rfl (Or.inl rfl) (qAQ qAF hr rfl (qA0 (pv 0) (qA0 (pv 1) (qA0 (pv 2) qA3))))) (qA4 (qAE (i:=5) sc_Ltold_right.nd rfl (Or.inl rfl) (qAQ qBS hr rfl (qA0 (pv 0) (qA0 (pv 1) (qA0 (pv 2) qA3))))) (qA4 (qCU (PW.pt (qPI (qGJ (qCS (qAQ qDZ hr rfl (qA0 (pv 0) (qA0 (pv 3) (qA0 (pv 5) qA3)))))) (qJO (qB3 qS9 (qA8 (qDX rfl) rfl qCM qGM (qA0 (qAQ qBX hr rfl (qA0 (pv 0) (qA0 (pv 1) (qA0 (pv 5) qA3)))) qA3)) (pv 4) (qB9 _))))) (qA6 (qAL qDJ)) qAT) (qA4 (qCU (qGJ (qCS (qAQ qN0 hr rfl (qA0 (qAQ qBF hr rfl (qA0 (pv 0) (qA0 (pv 1) (qA0 (pv 2) (qA0 (pv 5) qA3))))) (qA0 (qAQ qBX hr rfl (qA0 (pv 0) (qA0 (pv 1) (qA0 (pv 5) qA3)))) qA3))))) (qA6 (qAL qDJ)) qAT) (qA4 (qNJ (qAQ qC8 hr rfl (qA0 (pv 0) (qA0 (pv 1) (qA0 (pv 2) qA3)))) (qL5 rfl (qBP (qAA (i:=6) sc_Ltold_right.nd rfl (Or.inl rfl)) (qBP (qAA (i:=7) sc_Ltold_right.nd rfl (Or.inl rfl)) qFJ)))) (qA4 (qCU (PW.pt (qPI (qGJ (qCS (qAQ qDZ hr rfl (qA0 (pv 0) (qA0 (pv 3) (qA0 (pv 7) qA3)))))) (qJO (qGJ (qCS (qAQ qAZ hr rfl (qA0 (pv 0) (qA0 (pv 7) qA3)))))))) (qA6 (qAL qDJ)) qAT) (qA6 (qAL (qNO (qEK qIS (pv 6) (qA8 (qDX rfl) rfl qCM qGM (qA0 (qAQ qBX hr rfl (qA0 (pv 0) (qA0 (pv 1) (qA0 (pv 7) qA3)))) qA3)) (qB9 _)) (qR4 (qEK qa6 (pv 4) (pv 6) (qB9 _)))))))))))),?_⟩
 try dsimp only [Cx.nox,Cx.wish,cxOf]
 obtain ⟨⟨hN,wf,n400,wk0,wk1⟩,WD,w1,iT⟩:=id SI
 have T:=qIJ wf n400 Nw iT
 have SS:∀ {H'},Same H H'→qKV H' a t net ws work:=fun s=>⟨⟨hN.same s,wf,n400,wk0,wk1⟩,⟨s _ _ WD.1,WD.2⟩,w1,iT⟩
 refine cut fun N1 hN1=>?_
 refine ⟨_,rfl,_,rfl,_,rfl,a,t,net,ws,work,rfl,hTp,SI,fun m L0 H1 s1 B0 em0=>?_⟩
 refine hN1 _ _ (cut fun N2 hN2=>?_)
 refine ⟨_,rfl,_,rfl,_,rfl,a,t,net,ws,work,rfl,s1 _ _ hTp,SS s1,fun lo L H2 s2 flo glo B=>?_⟩
 obtain ⟨m',em⟩:=OrdT.top_ex (ws:=ws) B.1
 have emm:=qWZ T B0 B em0 em
 subst emm
 obtain ⟨TO,lL⟩:=B.1.all T
 have s12:=s1.trans s2
 have ltk:(qB7 net ws L).length=L.length:=by unfold qB7;rw [List.length_map,List.length_range]
 refine hN2 _ _ (cut fun N3 hN3=>?_)
 refine ⟨_,rfl,_,rfl,_,rfl,a,lw,lo,net,works,L,work,rfl,hN.same s12,wf,n60,s12 _ _ hLw,Nw,glo,B.1,fun H3 s3=>⟨_,rfl,?_⟩⟩
 have s13:=s12.trans s3
 refine iteF ?_
 refine ⟨_,rfl,_,rfl,_,rfl,a,t,lo,net,ws,L,rfl,hN.same s13,wf,n400,⟨s13 _ _ WD.1,WD.2⟩,s3 _ _ glo,TO,lL,fun l4 H4 s4 f4 g4=>?_⟩
 refine ⟨l4,_,m,rfl,SqL.of g4,em,_,rfl,rfl,_,rfl,?_⟩
 refine ite2 (fun z=>by simp at z) (fun _=>?_)
 have s14:=s13.trans s4
 have glo4:=s4 _ _ (s3 _ _ glo)
 refine hN3 _ _ (cut fun N4 hN4=>?_)
 refine ⟨_,rfl,_,rfl,_,rfl,_,rfl,a,t,lo,work,net,ws,L,rfl,hN.same s14,wf,n400,⟨s14 _ _ WD.1,WD.2⟩,glo4,TO,lL,fun l5 H5 s5 f5 g5=>?_⟩
 have s15:=s14.trans s5
 refine ⟨_,rfl,_,rfl,_,rfl,a,t,lo,net,ws,L,rfl,hN.same s15,wf,n400,⟨s15 _ _ WD.1,WD.2⟩,s5 _ _ glo4,TO,lL,fun l6 H6 s6 f6 g6=>?_⟩
 have s16:=s15.trans s6
 refine ⟨_,_,rfl,qST (s6 _ _ g5) g6 (by omega),fun H7 s7=>⟨_,rfl,?_⟩⟩
 refine iteF ?_
 have s17:=s16.trans s7
 refine hN4 _ _ (cut fun N5 hN5=>?_)
 refine ⟨_,rfl,_,rfl,_,rfl,a,t,net,ws,work,rfl,s17 _ _ hTs,SS s17,fun T1 l1 zs1 R O H8 s8 fl1 Nz1 SO gT1 gl1=>?_⟩
 have ez:=qGE Nz1 Nw
 subst ez
 have wz:=qBU Nw
 obtain ⟨TO1,lO1,tD,_⟩:=qLV T SO w1 wz
 have ownO:=qJI T SO wz
 have ownS:=qT9 T SO _ work rfl wz
 have leR:=qRT T w1 SO B em
 have s18:=s17.trans s8
 refine ⟨T1,_,rfl,SqT.of gT1,rfl,_,_,rfl,_,_,rfl,rfl,?_⟩
 refine hN5 _ _ (cut fun N6 hN6=>?_)
 refine ⟨_,rfl,_,rfl,_,rfl,a,lw,l1,net,zs1,O work,work,rfl,hN.same s18,wf,n60,s18 _ _ hLw,Nw,gl1,ownO,fun H9 s9=>⟨_,rfl,?_⟩⟩
 refine iteF ?_
 have s19:=s18.trans s9
 have l60:(O work).length≤60:=by
  have:=(qHF wf Nw ownO).2
  have:=Nw.1.len
  omega
 refine ⟨_,rfl,_,rfl,a,l1,net,O work,rfl,hN.same s19,wf,n60,s9 _ _ gl1,l60,TO1.in_,fun _ HA sA=>⟨_,rfl,?_⟩,fun no=>absurd ownS no⟩
 refine iteF ?_
 have s1A:=s19.trans sA
 refine hN6 _ _ ?_
 refine ⟨_,rfl,_,rfl,_,rfl,_,rfl,a,t,l1,net,ws,O work,rfl,hN.same s1A,wf,n400,⟨s1A _ _ WD.1,WD.2⟩,sA _ _ (s9 _ _ gl1),TO1,lO1,fun lB HB sB fB gB=>?_⟩
 refine ⟨lB,_,_,rfl,SqL.of gB,tD,rfl,_,rfl,?_⟩
 rw [decide_eq_true rfl]
 refine iteT ?_
 refine ⟨_,rfl,_,rfl,_,_,rfl,rfl,?_⟩
 dsimp only
 rw [decide_eq_true leR]
 exact q HB (s1A.trans sB)
end
section
variable {P:Program} {w:World} {K:PySem.W.Frag} {mg:Str→Option Value} {base:Heap} {f:Addr} {fd:FuncData} {Ps Pp:Addr} {qDG qCB qHW qED qBR qB4 qCG:Addr} {qDT qD2 qLI qEW qCE qBH qFQ:FuncData}
theorem sc_Lsmall_right:FnScope ["_law_net","_law_wides_here","_law_work","_law_works","_law_orders_here","_law_least","_law_some"] ["_law_net","_law_wides_here","_law_work"] (qAB qCZ):=⟨rfl,rfl,rfl,by decide +kernel,rfl,by decide +kernel,by decide +kernel⟩
theorem ok_Lsmall_right (F:Fun K "_law_small_right" "_law_small_right" qCZ f fd) (qBY:Clb P w K mg base 1 qDG qDT "_law_needed" ["_law_net","_law_asked"] qIX) (qBK:Clb P w K mg base 6 qCB qD2 "_law_told_right" ["_law_net","_law_wides_here","_law_work","_law_works"] (qPF Ps Pp)) (qI1:Clb P w K mg base 1 qHW qLI "_law_orders" ["_law_net","_law_works"] qQM) (qBX:Clb P w K mg base 1 qED qEW "_law_taken" ["_law_net","_law_wides_here","_law_order"] qLY) (qAZ:Clb P w K mg base 2 qBR qCE "_law_in_stretches" ["_law_net","_law_order"] qPG) (qAF:Clb P w K mg base 5 qB4 qBH "wide_rooms" ["net","wides","work"] (qDV Pp)) (qC8:Clb P w K mg base 4 qCG qFQ "stretched" ["net","wides","work"] (qGQ Ps)) (qCM:mg "max" = none) (qI2:mg "min" = none):FnOk P w K mg base CX0 7 f fd ["_law_net","_law_wides_here","_law_work"] (qQL Ps Pp):=by
 refine F.ok sc_Lsmall_right (fun vs H Q E h=>?_) (fun cdv A outer s H vs Q E hr h=>?_)
 ·obtain ⟨a,t,net,ws,work,rfl,_⟩:=h
  rfl
 obtain ⟨a,t,net,ws,work,rfl,hTs,hTp,SI,n7,q⟩:=h
 refine ⟨_,(qA4 (qAE (i:=3) sc_Lsmall_right.nd rfl (Or.inl rfl) (qAQ qBY hr rfl (qA0 (pv 0) (qA0 (qEV (qA0 (pv 2) qA3)) qA3)))) (qA4 (qCU (qGJ (qCS (qAQ qBK hr rfl (qA0 (pv 0) (qA0 (pv 1) (qA0 (pv 2) (qA0 (pv 3) qA3))))))) (qA6 (qAL qDJ)) qAT) (qA4 (qAE (i:=4) sc_Lsmall_right.nd rfl (Or.inl rfl) (qAQ qI1 hr rfl (qA0 (pv 0) (qA0 (pv 3) qA3)))) (qA4 (qAE (i:=5) sc_Lsmall_right.nd rfl (Or.inl rfl) (qA8 (qOV rfl) rfl qI2 qRS (qA0 (qIR rfl (lcs (own:=["_law_order"]) (fv:=[0,1]) (by kernel_rfl)) (qC1 (pv 4)) (fun z1=>qAA (i:=0) (qEL (by kernel_rfl)) rfl (Or.inl rfl)) (fun z1=>qCT) (fun z1=>(qA8 (qID (K:=K) rfl rfl) rfl qCM qGM (qA0 (qAQ qBX hr rfl (qA0 (pv 1) (qA0 (pv 2) (qA0 (pv 0) qA3)))) qA3)))) qA3))) (qA4 (qS6 (i:=6) sc_Lsmall_right.nd rfl rfl rfl (lcs (own:=["_law_order"]) (fv:=[0,1]) (by kernel_rfl)) (qC1 (pv 4)) (fun z2=>qAA (i:=0) (qEL (by kernel_rfl)) rfl (Or.inl rfl)) (fun z2=>(qJP (qCS (qAQ qAZ hr rfl (qA0 (pv 1) (qA0 (pv 0) qA3)))))) (fun z2=>(qA8 (qID (K:=K) rfl rfl) rfl qCM qGM (qA0 (qAQ qBX hr rfl (qA0 (pv 1) (qA0 (pv 2) (qA0 (pv 0) qA3)))) qA3))) (by kernel_rfl)) (qA6 (qAL (qNO (qEK qIS (qAQ qAF hr rfl (qA0 (pv 0) (qA0 (pv 1) (qA0 (pv 2) qA3)))) (pv 5) (qB9 _)) (qR4 (qEK qIS (qB2 qBB (qAQ qC8 hr rfl (qA0 (pv 0) (qA0 (pv 1) (qA0 (pv 2) qA3)))) qA9 (fun _ _=>rfl)) (qA8 (qOV rfl) rfl qI2 qRS (qA0 (pv 6) qA3)) (qB9 _))))))))))),?_⟩
 try dsimp only [Cx.nox,Cx.wish,cxOf]
 obtain ⟨⟨hN,wf,n400,wk0,wk1⟩,WD,w1,iT⟩:=id SI
 have SS:∀ {H'},Same H H'→qKV H' a t net ws work:=fun s=>⟨⟨hN.same s,wf,n400,wk0,wk1⟩,⟨s _ _ WD.1,WD.2⟩,w1,iT⟩
 refine cut fun N1 hN1=>?_
 refine ⟨_,rfl,_,rfl,(by show 1≤sizeLine;decide),fun ta hta=>?_⟩
 have s1:=qA2 hta (.tup [.int work])
 have gta:(upd H ta (.tup [.int work])) ta=some (.tup ([work].map V.int)):=qA1
 generalize upd H ta (.tup [.int work])=H1 at gta s1 ⊢
 refine ⟨a,ta,net,[work],rfl,hN.same s1,wf,by omega,⟨gta,⟨List.pairwise_singleton _ _,fun x hx=>by rw [List.mem_singleton.mp hx];omega⟩⟩,fun lw works H2 s2 f2 gw Nw=>?_⟩
 have s12:=s1.trans s2
 have T:=qIJ wf n400 Nw iT
 have lw7:works.length≤7:=by have:=Nw.1.len;omega
 refine hN1 _ _ (cut fun N2 hN2=>?_)
 refine ⟨_,rfl,_,rfl,_,rfl,_,rfl,a,t,lw,net,ws,works,work,rfl,s12 _ _ hTs,s12 _ _ hTp,SS s12,by omega,gw,Nw,fun H3 s3=>⟨_,rfl,?_⟩⟩
 refine iteF ?_
 have s13:=s12.trans s3
 refine hN2 _ _ (cut fun N3 hN3=>?_)
 refine ⟨_,rfl,_,rfl,a,lw,net,works,work,rfl,hN.same s13,wf,n7,s3 _ _ gw,Nw,fun lo rs H4 s4 glo PR=>?_⟩
 have s14:=s13.trans s4
 have lrs:=Paired.length PR
 have fewo:=qMM (net:=net) lw7 lw7
 have allo:=qW3 wf Nw
 generalize ordL net works works.length=OL at PR lrs fewo allo
 have one:∀ {i:Nat} {r:Addr},rs[i]?=some r→∃ o m,OL[i]?=some o∧H4 r=some (.lst (o.map V.int))∧OrdT net work o∧TopO net o∧o.length≤7∧topD none (qB7 net ws o)=some m∧mxT net ws o=m:=by
  intro i r er
  obtain ⟨o,eo,ho⟩:=qDS PR er
  have OT:=(allo o).mp (List.mem_of_getElem? eo)
  obtain ⟨TO,lL⟩:=OT.all T
  obtain ⟨m,em⟩:=OrdT.top_ex (ws:=ws) OT
  refine ⟨o,m,eo,ho,OT,TO,?_,em,by unfold mxT;rw [em];rfl⟩
  have:=(qHF wf Nw OT).2
  omega
 refine hN3 _ _ (cut fun N4 hN4=>?_)
 refine ⟨_,rfl,lo,rfl,⟨_,SqL.of glo⟩,fun p hp=>?_⟩
 refine qGV (p:=p) (a:=lo) (xs:=rs.map V.ref) (fun i σ Hc=>∃ v:Option V,σ=[v,some (.ref a),some (.ref t)]∧Same H4 Hc∧Hc p=some (.lst (((OL.take i).map (mxT net ws)).map V.int))) ?_ ?_ ?_ ?_
 ·exact ⟨none,rfl,qA2 hp _,qA1⟩
 ·rintro i σ Hc hi ⟨v,rfl,sc,_⟩
  exact SqL.of (sc _ _ glo)
 ·refine fun i x σ Hc hx hI_2=>opq fun G_2 hG_2=>?_
  obtain ⟨v,rfl,sc,hpc⟩:=hI_2
  obtain ⟨r,er,rfl⟩:=qIA hx
  obtain ⟨o,m,eo,ho,OT,TO,lo7,em,emx⟩:=one er
  refine hG_2 ?_
  have sA:=s14.trans sc
  refine ⟨_,rfl,_,rfl,_,rfl,a,t,r,net,ws,o,rfl,hN.same sA,wf,n400,⟨sA _ _ WD.1,WD.2⟩,sc _ _ ho,TO,by omega,fun lt H6 s6 flt glt=>?_⟩
  refine ⟨lt,_,m,rfl,SqL.of glt,em,_,s6 _ _ hpc,qC0 (by rw [List.length_map,List.length_map,List.length_take];omega),_,rfl,qAG (sc.trans s6) hp,?_⟩
  rw [qA1,List.take_add_one,eo,Option.toList_some,List.map_append,List.map_append,List.map_singleton,emx]
  rfl
 refine fun σ Hc hI_3=>opq fun G_3 hG_3=>?_
 obtain ⟨v,rfl,sc,hpc⟩:=hI_3
 refine hG_3 ?_
 rw [List.length_map,lrs,List.take_length] at hpc
 have sA:=s14.trans sc
 -- some order there is
 obtain ⟨R,O,SO⟩:=exS T ws
 have wz:=qBU Nw
 have ownO:=qJI T SO wz
 have ownS:=qT9 T SO _ work rfl wz
 have neO:(OL.map (mxT net ws)) ≠ []:=fun e=>by
  have:=(allo _).mpr ownO
  rw [List.map_eq_nil_iff.mp e] at this
  cases this
 obtain ⟨mn,emn⟩:=qXJ neO
 refine ⟨p,_,mn,rfl,SqL.of hpc,emn,?_⟩
 refine hN4 _ _ (cut fun N5 hN5=>?_)
 classical
 refine ⟨_,rfl,lo,rfl,⟨_,SqL.of (sc _ _ glo)⟩,fun p2 hp2=>?_⟩
 refine qGV (p:=p2) (a:=lo) (xs:=rs.map V.ref) (fun i σ Hd=>∃ v:Option V,σ=[v,some (.ref a),some (.ref t)]∧Same Hc Hd∧Hd p2=some (.lst ((((OL.take i).filter fun o=>decide (InStr net o)).map (mxT net ws)).map V.int))) ?_ ?_ ?_ ?_
 ·exact ⟨none,rfl,qA2 hp2 _,qA1⟩
 ·rintro i σ Hd hi ⟨v,rfl,sd,_⟩
  exact SqL.of (sd _ _ (sc _ _ glo))
 ·refine fun i x σ Hd hx hI_5=>opq fun G_5 hG_5=>?_
  obtain ⟨v,rfl,sd,hpd⟩:=hI_5
  obtain ⟨r,er,rfl⟩:=qIA hx
  obtain ⟨o,m,eo,ho,OT,TO,lo7,em,emx⟩:=one er
  refine hG_5 ?_
  have sB:=sA.trans sd
  have ho':=sd _ _ (sc _ _ ho)
  have lf1:((OL.take i).filter fun o=>decide (InStr net o)).length≤823543:=Nat.le_trans (List.length_filter_le _ _) (by rw [List.length_take];omega)
  refine ⟨_,rfl,_,rfl,a,r,net,o,rfl,hN.same sB,wf,by omega,ho',by omega,TO.in_,fun yes H6 s6=>?_,fun no H6 s6=>?_⟩
  ·rw [qC7 eo,decide_eq_true yes,if_pos rfl]
   have sC:=sB.trans s6
   refine ⟨_,rfl,?_⟩
   refine ⟨_,rfl,_,rfl,_,rfl,a,t,r,net,ws,o,rfl,hN.same sC,wf,n400,⟨sC _ _ WD.1,WD.2⟩,s6 _ _ ho',TO,by omega,fun lt H7 s7 flt glt=>?_⟩
   refine ⟨lt,_,m,rfl,SqL.of glt,em,_,s7 _ _ (s6 _ _ hpd),qC0 (by rw [List.length_map,List.length_map];omega),_,rfl,qAG (sd.trans (s6.trans s7)) hp2,?_⟩
   rw [qA1,List.map_append,List.map_append,List.map_singleton,emx]
   rfl
  ·rw [qC7 eo,decide_eq_false no]
   refine ⟨_,rfl,_,rfl,sd.trans s6,?_⟩
   simpa using s6 _ _ hpd
 refine fun σ Hd hI_6=>opq fun G_6 hG_6=>?_
 obtain ⟨v2,rfl,sd,hpd⟩:=hI_6
 refine hG_6 ?_
 rw [List.length_map,lrs,List.take_length] at hpd
 have sB:=sA.trans sd
 have neS:((OL.filter fun o=>decide (InStr net o)).map (mxT net ws)) ≠ []:=fun e=>by
  have:O work ∈ OL.filter fun o=>decide (InStr net o):=List.mem_filter.mpr ⟨(allo _).mpr ownO,decide_eq_true ownS⟩
  rw [List.map_eq_nil_iff.mp e] at this
  cases this
 obtain ⟨ms,ems⟩:=qXJ neS
 refine hN5 _ _ ?_
 refine ⟨_,rfl,_,rfl,_,rfl,a,t,net,ws,work,rfl,sB _ _ hTp,SS sB,fun m L0 H7 s7 B0 em0=>?_⟩
 have sC:=sB.trans s7
 -- the least of all orders
 have eq1:m=mn:=by
  obtain ⟨h1,h2⟩:=qU9 emn
  obtain ⟨o,ho,eo⟩:=List.mem_map.mp h1
  obtain ⟨m1,em1⟩:=OrdT.top_ex (ws:=ws) ((allo o).mp ho)
  have a1:=qIE T B0 ((allo o).mp ho) em0 em1
  have a2:=h2 (mxT net ws L0) (List.mem_map.mpr ⟨L0,(allo L0).mpr B0.1,rfl⟩)
  unfold mxT at eo a2
  rw [em1,Option.getD_some] at eo
  rw [em0,Option.getD_some] at a2
  omega
 refine ⟨_,rfl,rfl,_,rfl,?_⟩
 rw [decide_eq_true (show V.int m=V.int mn by rw [eq1])]
 refine iteT ?_
 refine ⟨_,rfl,_,rfl,_,rfl,a,t,net,ws,work,rfl,sC _ _ hTs,SS sC,fun T1 l1 zs1 R1 O1 H8 s8 fl1 Nz1 SO1 gT1 gl1=>?_⟩
 have ez:=qGE Nz1 Nw
 subst ez
 -- the least of those in stretches
 have eq2:R1 work=ms:=by
  obtain ⟨h1,h2⟩:=qU9 ems
  obtain ⟨o,ho,eo⟩:=List.mem_map.mp h1
  obtain ⟨ho1,ho2⟩:=List.mem_filter.mp ho
  obtain ⟨m1,em1⟩:=OrdT.top_ex (ws:=ws) ((allo o).mp ho1)
  have a1:=qT8 T w1 SO1 ((allo o).mp ho1) (of_decide_eq_true ho2) em1
  obtain ⟨_,_,tD,_⟩:=qLV T SO1 w1 wz
  have a2:=h2 (mxT net ws (O1 work)) (List.mem_map.mpr ⟨O1 work,List.mem_filter.mpr ⟨(allo _).mpr (qJI T SO1 wz),decide_eq_true (qT9 T SO1 _ work rfl wz)⟩,rfl⟩)
  unfold mxT at eo a2
  rw [em1,Option.getD_some] at eo
  rw [tD,Option.getD_some] at a2
  omega
 refine ⟨T1,_,_,_,rfl,rfl,SqT.of gT1,rfl,_,rfl,p2,_,ms,rfl,SqL.of (s8 _ _ (s7 _ _ hpd)),ems,rfl,?_⟩
 rw [decide_eq_true (show V.int (R1 work)=V.int ms by rw [eq2])]
 exact q H8 (sC.trans s8)
end
section
variable {P:Program} {w:World} {K:PySem.W.Frag} {mg:Str→Option Value} {base:Heap} {f:Addr} {fd:FuncData} {Ps Pp:Addr} {qDG qCB qED qD6 qB4:Addr} {qDT qD2 qEW qFU qBH:FuncData}
theorem sc_Lgreat_right:FnScope ["_law_state","_law_net","_law_wides_here","_law_work","_law_works","_law_rooms","_law_turn"] ["_law_state","_law_net","_law_wides_here","_law_work"] (qAB qD0):=⟨rfl,rfl,rfl,by decide +kernel,rfl,by decide +kernel,by decide +kernel⟩
theorem ok_Lgreat_right (F:Fun K "_law_great_right" "_law_great_right" qD0 f fd) (qBY:Clb P w K mg base 1 qDG qDT "_law_needed" ["_law_net","_law_asked"] qIX) (qBK:Clb P w K mg base 6 qCB qD2 "_law_told_right" ["_law_net","_law_wides_here","_law_work","_law_works"] (qPF Ps Pp)) (qBX:Clb P w K mg base 1 qED qEW "_law_taken" ["_law_net","_law_wides_here","_law_order"] qLY) (qDB:Clb P w K mg base 2 qD6 qFU "_law_drawn_order" ["_law_state","_law_net","_law_works"] qQR) (qAF:Clb P w K mg base 5 qB4 qBH "wide_rooms" ["net","wides","work"] (qDV Pp)) (qCM:mg "max" = none) (qBE:mg "range" = none):FnOk P w K mg base CX0 7 f fd ["_law_state","_law_net","_law_wides_here","_law_work"] (qQQ Ps Pp):=by
 refine F.ok sc_Lgreat_right (fun vs H Q E h=>?_) (fun cdv A outer s H vs Q E hr h=>?_)
 ·obtain ⟨d,c,a,t,tt,ns,net,ws,work,rfl,_⟩:=h
  rfl
 obtain ⟨d,c,a,t,tt,ns,net,ws,work,rfl,hTs,hTp,S,htt,SI,n60,q⟩:=h
 have ht':tt≤1000000000 - 5000:=htt
 refine ⟨_,(qA4 (qAE (i:=4) sc_Lgreat_right.nd rfl (Or.inl rfl) (qAQ qBY hr rfl (qA0 (pv 1) (qA0 (qEV (qA0 (pv 3) qA3)) qA3)))) (qA4 (qCU (qGJ (qCS (qAQ qBK hr rfl (qA0 (pv 1) (qA0 (pv 2) (qA0 (pv 3) (qA0 (pv 4) qA3))))))) (qA6 (qAL qDJ)) qAT) (qA4 (qAE (i:=5) sc_Lgreat_right.nd rfl (Or.inl rfl) (qAQ qAF hr rfl (qA0 (pv 1) (qA0 (pv 2) (qA0 (pv 3) qA3))))) (qA4 (qBM PassesOwn.never rfl (qFI rfl qBE (qA0 qA9 qA3)) (qAA (i:=6) sc_Lgreat_right.nd rfl (Or.inl rfl)) (qA6 (qCU (qB3 qW4 (qA8 (qDX rfl) rfl qCM qGM (qA0 (qAQ qBX hr rfl (qA0 (pv 1) (qA0 (pv 2) (qA0 (qAQ qDB hr rfl (qA0 (pv 0) (qA0 (pv 1) (qA0 (pv 4) qA3)))) qA3)))) qA3)) (pv 5) (qB9 _)) (qA6 (qAL qDJ)) qAT))) (qA6 (qAL qDJ)))))),?_⟩
 try dsimp only [Cx.nox,Cx.wish,cxOf]
 obtain ⟨⟨hN,wf,n400,wk0,wk1⟩,WD,w1,iT⟩:=id SI
 have SS:∀ {H'},Same H H'→qKV H' a t net ws work:=fun s=>⟨⟨hN.same s,wf,n400,wk0,wk1⟩,⟨s _ _ WD.1,WD.2⟩,w1,iT⟩
 refine cut fun N1 hN1=>?_
 refine ⟨_,rfl,_,rfl,(by show 1≤sizeLine;decide),fun ta hta=>?_⟩
 have s1:=qA2 hta (.tup [.int work])
 have gta:(upd H ta (.tup [.int work])) ta=some (.tup ([work].map V.int)):=qA1
 generalize upd H ta (.tup [.int work])=H1 at gta s1 ⊢
 refine ⟨a,ta,net,[work],rfl,hN.same s1,wf,by omega,⟨gta,⟨List.pairwise_singleton _ _,fun x hx=>by rw [List.mem_singleton.mp hx];omega⟩⟩,fun lw works H2 s2 f2 gw Nw=>?_⟩
 have s12:=s1.trans s2
 have T:=qIJ wf n400 Nw iT
 have nlc:lw ≠ c:=(qA5 (s1 _ _ S.list) f2).symm
 have nld:lw ≠ d:=(qA5 (s1 _ _ S.dict) f2).symm
 refine hN1 _ _ (cut fun N2 hN2=>?_)
 refine ⟨_,rfl,_,rfl,_,rfl,_,rfl,a,t,lw,net,ws,works,work,rfl,s12 _ _ hTs,s12 _ _ hTp,SS s12,n60,gw,Nw,fun H3 s3=>⟨_,rfl,?_⟩⟩
 refine iteF ?_
 have s13:=s12.trans s3
 refine hN2 _ _ (cut fun N3 hN3=>?_)
 refine ⟨_,rfl,_,rfl,_,rfl,a,t,net,ws,work,rfl,s13 _ _ hTp,SS s13,fun m L0 H4 s4 B0 em0=>?_⟩
 have s14:=s13.trans s4
 refine hN3 _ _ (cut fun N4 hN4=>?_)
 refine ⟨20,rfl,by decide,by decide,qKC (lo:=0) (n:=20) (fun i σ Hc=>∃ (v6:Option V) (t':Int) (ns':List Int),σ=[some (.ref d),some (.ref a),some (.ref t),some (.int work),some (.ref lw),some (.int m),v6]∧StAt Hc d c t' ns'∧tt≤t'∧t'≤tt+60 * (i:Int)∧Keep d c H Hc∧Hc lw=some (.lst (works.map V.int)))
  ⟨none,tt,ns,rfl,S.same s14,by omega,by omega,.of_same s14,(s3.trans s4) _ _ gw⟩ ?_ ?_⟩
 ·refine fun i σ Hc hi hI_1=>opq fun G_1 hG_1=>?_
  obtain ⟨v6,t',ns',rfl,Sc,g1,g2,Kc,gwc⟩:=hI_1
  refine hG_1 ?_
  have hNc:=hN.keep S Kc
  have ntd:t ≠ d:=qC9 WD.1 S.dict (by intro z;cases z)
  have ntc:t ≠ c:=qC9 WD.1 S.list (by intro z;cases z)
  refine ⟨_,rfl,_,rfl,_,rfl,_,rfl,_,rfl,d,c,a,lw,t',ns',net,works,work,rfl,Sc,(by show t'≤1000000000 - 1000;omega),hNc,wf,n60,nlc,gwc,Nw,fun lo zs t5 ns5 H5 S5 g3 g4 K5 glo OT=>?_⟩
  obtain ⟨TO,lL⟩:=OT.all T
  obtain ⟨m1,em1⟩:=OrdT.top_ex (ws:=ws) OT
  have ge:=qIE T B0 OT em0 em1
  have K05:=Kc.trans K5
  refine ⟨a,t,lo,net,ws,zs,rfl,hN.keep S K05,wf,n400,⟨K05 _ _ WD.1 ntd ntc,WD.2⟩,glo,TO,lL,fun lt H6 s6 flt glt=>?_⟩
  refine ⟨lt,_,m1,rfl,SqL.of glt,em1,_,rfl,_,_,rfl,rfl,_,rfl,?_⟩
  refine ite2 (fun z=>?_) (fun _=>?_)
  ·exfalso
   have:=of_decide_eq_true z
   omega
  ·exact ⟨_,t5,ns5,rfl,S5.same s6,by omega,by omega,K05.trans (.of_same s6),s6 _ _ (K5 _ _ gwc nld nlc)⟩
 ·refine fun σ Hc hI_2=>opq fun G_2 hG_2=>?_
  obtain ⟨v6,t',ns',rfl,Sc,g1,g2,Kc,gwc⟩:=hI_2
  refine hG_2 ?_
  exact hN4 _ _ (q t' ns' Hc Sc g1 (by omega) Kc)
end
section
variable {P:Program} {w:World} {K:PySem.W.Frag} {mg:Str→Option Value} {base:Heap} {f:Addr} {fd:FuncData}
theorem sc_number_over:FnScope ["falling","taken"] ["falling"] (qAB qDL):=⟨rfl,rfl,rfl,by decide +kernel,rfl,by decide +kernel,by decide +kernel⟩
theorem ok_number_over (F:Fun K "number_over" "number_over" qDL f fd) (qAN:mg "enumerate" = none) (qCM:mg "max" = none) (qBN:mg "len" = none):FnOk P w K mg base CX0 1 f fd ["falling"] qXA:=by
 refine F.ok sc_number_over (fun vs H Q E h=>?_) (fun cdv A outer s H vs Q E hr h=>?_)
 ·obtain ⟨p,ds,rfl,_⟩:=h
  rfl
 obtain ⟨p,ds,rfl,hp,ld,q⟩:=h
 refine ⟨_,(qA4 (qS6 (i:=1) sc_number_over.nd rfl rfl rfl (lcs (own:=["ahead","number"]) (fv:=[]) (by kernel_rfl)) (qJQ rfl qAN qDI (qA0 (pv 0) qA3)) (fun z1=>qPL (K:=K) (n:=2) rfl rfl (qBP (qAA (i:=0) (qEL (by kernel_rfl)) rfl (Or.inl rfl)) (qBP (qAA (i:=1) (qEL (by kernel_rfl)) rfl (Or.inl rfl)) qFJ)) rfl rfl) (fun z1=>qCT) (fun z1=>(qAU qDC (pv 1) (pv 0))) (by kernel_rfl)) (qA6 (qAL (qA8 (qDX rfl) rfl qCM qGM (qA0 (qAU qJX (qB8 (qA0 (qAU qDC (qA8 qAJ rfl qBN qDH (qA0 (pv 0) qA3)) qA9) qA3)) (pv 1)) qA3))))),?_⟩
 try dsimp only [Cx.nox,Cx.wish,cxOf]
 refine ⟨_,rfl,p,rfl,⟨_,SqL.of hp⟩,fun l hl=>?_⟩
 refine qUC (p:=l) (a:=p) (xs:=ds.map V.int) (fun i σ Hc=>∃ (v w:Option V),σ=[v,w]∧Same H Hc∧Hc l=some (.lst ((qDU ds i).map V.int))) ?_ ?_ ?_ ?_
 ·exact ⟨none,none,rfl,qA2 hl _,qA1⟩
 ·rintro i σ Hc hi ⟨v,w,rfl,sm,_⟩
  exact SqL.of (sm _ _ hp)
 ·refine fun i x σ Hc T hx hI_2 hT=>opq fun G_2 hG_2=>?_
  obtain ⟨v,w,rfl,sm,hlc⟩:=hI_2
  obtain ⟨y,ey,rfl⟩:=qAM hx
  refine hG_2 ?_
  have hi:=(List.getElem?_eq_some_iff.mp ey).1
  have sT:=qA2 hT (.tup [.int (i:Int),.int y])
  have hlT:=sT _ _ hlc
  refine ⟨T,_,rfl,SqT.of qA1,rfl,_,_,rfl,_,_,rfl,rfl,?_⟩
  refine ⟨_,rfl,_,rfl,_,_,rfl,rfl,_,hlT,qC0 (by rw [List.length_map,qKX];omega),?_⟩
  refine ⟨_,_,rfl,qAG (sm.trans sT) hl,?_⟩
  rw [qA1,qPE ey,List.map_append]
  rfl
 ·refine fun σ Hc hI_3=>opq fun G_3 hG_3=>?_
  obtain ⟨v,w,rfl,sm,hlc⟩:=hI_3
  refine hG_3 ?_
  rw [List.length_map] at hlc
  refine ⟨_,rfl,p,_,rfl,.inl (SqL.of (sm _ _ hp)),_,_,rfl,rfl,(by show 1≤sizeLine;decide),fun b hb=>?_⟩
  have sb:=qA2 hb (.lst [.int ((((ds.map V.int).length:Nat):Int)+1)])
  refine ⟨_,rfl,b,l,_,_,rfl,rfl,qA1,sb _ _ hlc,(by simp only [List.length_map,qKX,List.length_singleton,sizeLine_eq];omega),fun c hc=>?_⟩
  have sc:=qA2 hc (.lst ([V.int ((((ds.map V.int).length:Nat):Int)+1)]++(qDU ds ds.length).map V.int))
  refine ⟨c,(((ds.length:Nat):Int)+1)::qDU ds ds.length,_,rfl,SqL.of ?_,rfl,q _ ((sm.trans sb).trans sc)⟩
  rw [qA1,List.length_map]
  rfl
end
section
variable {P:Program} {w:World} {K:PySem.W.Frag} {mg:Str→Option Value} {base:Heap} {f:Addr} {fd:FuncData} {qBJ qB5 qDP:Addr} {qBZ qBI qGL:FuncData}
theorem sc_numbers_of:FnScope ["net","work","numbers","other"] ["net","work"] (qAB qE5):=⟨rfl,rfl,rfl,by decide +kernel,rfl,by decide +kernel,by decide +kernel⟩
theorem ok_numbers_of (F:Fun K "numbers_of" "numbers_of" qE5 f fd) (qAP:Clb P w K mg base 3 qBJ qBZ "demand_tree" ["net","work"] qH8) (qAK:Clb P w K mg base 1 qB5 qBI "all_needed" ["net","asked"] qTD) (qDR:Clb P w K mg base 1 qDP qGL "number_over" ["falling"] qXA) (qAV:mg "sorted" = none) (qCC:mg "list" = none):FnOk P w K mg base CX0 4 f fd ["net","work"] qNE:=by
 refine F.ok sc_numbers_of (fun vs H Q E h=>?_) (fun cdv A outer s H vs Q E hr h=>?_)
 ·obtain ⟨a,net,work,rfl,_⟩:=h
  rfl
 obtain ⟨a,net,work,rfl,TI,q⟩:=h
 obtain ⟨hN,wf,n400,w0,n,on,hn,wn⟩:=id TI
 have hu:=qKA hr
 refine ⟨_,(qA4 (qCO (qAQ qAP hr rfl (qA0 (pv 0) (qA0 (pv 1) qA3)))) (qA4 (qAE (i:=2) sc_numbers_of.nd rfl (Or.inr rfl) qGD) (qA4 (qBM PassesOwn.never rfl (qC1 (qAQ qAK hr rfl (qA0 (pv 0) (qA0 (qEV (qA0 (pv 1) qA3)) qA3)))) (qAA (i:=3) sc_numbers_of.nd rfl (Or.inl rfl)) (qA6 (qFH hu (pv 2) (pv 3) (qAQ qDR hr rfl (qA0 (qVY rfl rfl qAV qEX (qA0 (qIR rfl (lcs (own:=["need"]) (fv:=[2]) (by kernel_rfl)) (qE7 (qB2 qBB (pv 0) (pv 3) (fun _ _=>rfl))) (fun z1=>qAA (i:=0) (qEL (by kernel_rfl)) rfl (Or.inl rfl)) (fun z1=>qCT) (fun z1=>(qCP hu (pv 1) (pv 0) (fun _ _=>rfl)))) qA3) (qPK qDJ qTQ)) qA3)) rfl))) (qA6 (qAL (qBQ (qSQ rfl) rfl qCC qH0 (qA0 (qXG PySem.F.plainAttrs_dict PySem.F.slot_dict_items PySem.F.type_dict_items qW7 (pv 2)) qA3))))))),?_⟩
 try dsimp only [Cx.nox,Cx.wish,cxOf]
 refine ⟨_,rfl,_,rfl,a,net,work,rfl,⟨hN,wf,n400,w0,by omega⟩,qR8 wf on hn w0 wn,fun H1 s1=>?_⟩
 intro dn hdn
 have s2:=s1.trans (qA2 hdn (.dK []))
 have gd2:(upd H1 dn (.dK [])) dn=some (.dK (qIU [] fun _=>0)):=qA1
 generalize upd H1 dn (.dK [])=H2 at s2 gd2 ⊢
 have fdn:H dn=none:=s1.free hdn
 refine ⟨_,rfl,_,rfl,(by show 1≤sizeLine;decide),fun ta hta=>?_⟩
 have sta:=qA2 hta (.tup [.int work])
 have gta:(upd H2 ta (.tup [.int work])) ta=some (.tup ([work].map V.int)):=qA1
 have s3:=s2.trans sta
 have gd3:=sta _ _ gd2
 generalize upd H2 ta (.tup [.int work])=H3 at gta s3 gd3 ⊢
 refine ⟨a,ta,net,[work],rfl,hN.same s3,wf,by omega,gta,(fun x hx=>by rw [List.mem_singleton.mp hx];omega),fun lw zs H4 s4 f4 gw N=>?_⟩
 have lz:=N.1.len
 have s5:=s3.trans s4
 have gd4:=s4 _ _ gd3
 have nwd:lw ≠ dn:=qC9 gw gd4 (by intro z;cases z)
 obtain ⟨rs,hA,NL⟩:=id hN
 refine ⟨lw,rfl,⟨_,SqL.of gw⟩,qCR (a:=lw) (xs:=zs.map V.int) (fun i σ Hc=>∃ (f:Int→Int) (v3:Option V),σ=[some (.ref a),some (.int work),some (.ref dn),v3]∧Same H Hc∧Hc lw=some (.lst (zs.map V.int))∧Hc dn=some (.dK (qIU (zs.take i) f))∧NumOn net (zs.take i) f)
  ⟨fun _=>0,none,rfl,s5,gw,gd4,fun z hz=>by simp at hz⟩ (fun i σ Hc _ ⟨_,_,_,_,g,_⟩=>SqL.of g) ?_ ?_⟩
 ·refine fun i x σ Hc hx hI_1=>opq fun G_1 hG_1=>?_
  obtain ⟨g,v3,rfl,sc,gwc,gdc,NO⟩:=hI_1
  obtain ⟨z,ez,rfl⟩:=qAM hx
  refine hG_1 ?_
  have hi:=(List.getElem?_eq_some_iff.mp ez).1
  have zb:=N.1.in_ z (List.mem_of_getElem? ez)
  have hw:z.toNat<net.length:=by omega
  obtain ⟨rs',r,h1,l1,h2,h3⟩:=hN.get (List.getElem?_eq_getElem hw)
  have rz:=wf z.toNat _ (List.getElem?_eq_getElem hw)
  have en:=qAD (List.getElem?_eq_getElem hw)
  generalize net[z.toNat]=ys at h3 rz en
  have lys:=rz.len
  have hys:∀ y ∈ ys,y ∈ zs.take i:=fun y hy=>(qCH wf N ez (by rw [en];exact hy)).1
  refine ⟨_,rfl,_,rfl,a,_,_,_,rfl,rfl,SqT.of (sc _ _ h1),qC2 zb.1 h2,r,rfl,⟨_,SqT.of (sc _ _ h3)⟩,fun p hp=>?_⟩
  refine qLD (p:=p) (a:=r) (xs:=ys.map V.int) (fun j σ Hd=>∃ (v:Option V),σ=[v,some (.ref dn)]∧Same Hc Hd∧Hd p=some (.lst (((ys.take j).map g).map V.int))) ?_ ?_ ?_ ?_
  ·exact ⟨none,rfl,qA2 hp _,qA1⟩
  ·rintro j σ Hd hj ⟨v,rfl,sd,_⟩
   exact SqT.of (sd _ _ (sc _ _ h3))
  ·refine fun j x σ Hd hx hI_3=>opq fun G_3 hG_3=>?_
   obtain ⟨v,rfl,sd,hpd⟩:=hI_3
   obtain ⟨y,ey,rfl⟩:=qAM hx
   refine hG_3 ?_
   have hj:=(List.getElem?_eq_some_iff.mp ey).1
   have hg:=DGet.k (k:=Sum.inl y) (sd _ _ gdc)
   rw [qLR (hys y (List.mem_of_getElem? ey))] at hg
   refine ⟨_,rfl,_,rfl,dn,_,rfl,hg,_,hpd,qC0 (by rw [List.length_map,List.length_map,List.length_take];omega),?_⟩
   refine ⟨_,rfl,qAG sd hp,?_⟩
   rw [qA1,List.take_add_one,ey,Option.toList_some,List.map_append,List.map_append]
   rfl
  refine fun σ Hd hI_4=>opq fun G_4 hG_4=>?_
  obtain ⟨v,rfl,sd,hpd⟩:=hI_4
  refine hG_4 ?_
  rw [List.length_map,qAO rfl] at hpd
  refine ⟨p,_,rfl,rfl,SqL.of hpd,by rw [List.length_map];omega,fun b ds hb pm st=>?_⟩
  have lds:=pm.length_eq
  rw [List.length_map] at lds
  have sb:=qA2 hb (.lst (ds.map V.int))
  refine ⟨b,ds,rfl,qA1,by omega,fun He se=>?_⟩
  have sce:=sc.trans (sd.trans (sb.trans se))
  have gde:=(sd.trans (sb.trans se)) _ _ gdc
  have gwe:=(sd.trans (sb.trans se)) _ _ gwc
  have hz:z ∉ zs.take i:=fun m=>by have:=qJG N ez m;omega
  have ns:=NumOn.snoc wf N ez NO (by rw [en];exact pm) st
  refine ⟨_,rfl,_,rfl,dn,_,rfl,DPut.k (k:=Sum.inl z) gde (qC0 (by unfold qIU;rw [List.length_map,List.length_take];omega)),?_⟩
  refine ⟨_,_,rfl,qAG sce fdn,by rw [qA7 nwd];exact gwe,?_,ns.1⟩
  rw [qA1,qQY hz,List.take_add_one,ez]
  rfl
 ·refine fun σ Hc hI_5=>opq fun G_5 hG_5=>?_
  obtain ⟨g,v3,rfl,sc,gwc,gdc,NO⟩:=hI_5
  refine hG_5 ?_
  rw [List.length_map,qAO rfl] at gdc NO
  refine ⟨_,rfl,.inr (.inr (.inl ⟨rfl,.inl ⟨_,gdc⟩⟩)),dn,_,rfl,rfl,gdc,fun vw hvw=>?_⟩
  have sv:=qA2 hvw (qVM vw dn)
  refine ⟨vw,dn,_,rfl,qA1,sv _ _ gdc,(fun p hp=>by obtain ⟨z,_,e⟩:=List.mem_map.mp hp;exact ⟨z,by rw [← e]⟩),fun l rs2 H' fl ext gl PP=>?_⟩
  refine q l rs2 zs g H' ((sc.trans sv).trans ext) ((sc.trans sv).free fl) N NO gl (qJT (F:=fun r (kv:Key × V)=>H' r=some (.tup [kV kv.1,kv.2])) (h:=fun z=>((Sum.inl z:Key),V.int (g z))) PP)
end
section
variable {P:Program} {w:World} {K:PySem.W.Frag} {mg:Str→Option Value} {base:Heap} {f:Addr} {fd:FuncData} {qEC:Addr} {qHT:FuncData}
theorem qM3:FnScope ["net","work"] ["net","work"] (qAB qE4):=⟨rfl,rfl,rfl,by decide +kernel,rfl,by decide +kernel,by decide +kernel⟩
theorem ok_tree_rooms (F:Fun K "tree_rooms" "tree_rooms" qE4 f fd) (qEI:Clb P w K mg base 4 qEC qHT "numbers_of" ["net","work"] qNE) (qH6:mg "dict" = none):FnOk P w K mg base CX0 5 f fd ["net","work"] qJJ:=by
 refine F.ok qM3 (fun vs H Q E h=>?_) (fun cdv A outer s H vs Q E hr h=>?_)
 ·obtain ⟨a,net,work,rfl,_⟩:=h
  rfl
 obtain ⟨a,net,work,rfl,TI,q⟩:=h
 have hu:=qKA hr
 refine ⟨_,(qA6 (qAL (qCP hu (qBQ (qLL rfl) rfl qH6 qVE (qA0 (qAQ qEI hr rfl (qA0 (pv 0) (qA0 (pv 1) qA3))) qA3)) (pv 1) (fun _ _=>rfl)))),?_⟩
 try dsimp only [Cx.nox,Cx.wish,cxOf]
 refine ⟨_,rfl,_,rfl,a,net,work,rfl,TI,fun l rs zs g H1 s1 f1 N NO gl PP=>?_⟩
 refine ⟨l,rs,zs.map fun z=>(z,V.int (g z)),rfl,SqL.of gl,qNP (qB0 PP fun r z e=>SqT.of e),fun d hd=>?_⟩
 have sd:=qA2 hd (.dK (qCD [] (zs.map fun z=>(z,V.int (g z)))))
 have gd:(upd H1 d (.dK (qCD [] (zs.map fun z=>(z,V.int (g z)))))) d=some (.dK (qIU zs g)):=by
  rw [qA1]
  exact congrArg (fun k=>some (HO.dK k)) (qL4 (l:=[]) (f:=g) N.1.nodup)
 have hg:=DGet.k (k:=Sum.inl work) gd
 rw [qLR (qBU N)] at hg
 exact ⟨_,rfl,d,_,rfl,hg,q zs g _ (s1.trans sd) N NO⟩
end
theorem qY0 {net:List (List Int)} {ws:List Int} (l:ws.length=net.length) {x:Int} (x0:0≤x) (x1:x<(net.length:Int)):wdO ws x ∈ ws:=by
 have hx:x.toNat<ws.length:=by omega
 unfold wdO
 rw [List.getElem?_eq_getElem hx]
 exact List.getElem_mem hx
theorem qT0 {net:List (List Int)} {ws:List Int} (l:ws.length=net.length) (h:∀ u ∈ ws,1≤u):Wd1 net ws:=fun x x0 x1=>h _ (qY0 l x0 x1)
theorem qZF {ws:List Int} {g:Int→Int} {x:Int} (hx:x.toNat<ws.length):wdO (ws.map g) x=g (wdO ws x):=by
 unfold wdO
 rw [List.getElem?_map,List.getElem?_eq_getElem hx]
 rfl
section
variable {P:Program} {w:World} {K:PySem.W.Frag} {mg:Str→Option Value} {base:Heap} {f:Addr} {fd:FuncData} {Ps Pp:Addr} {qJ7 qEM qF5 qJ6 qD4 qD5 qB4 qEB:Addr} {qON qE9 qIK qOM qFS qFT qBH qHS:FuncData}
theorem sc_law:FnScope ["_law_script","_law_state","_law_great","_law_many","_law_net","_law_wides_here","_law_work","_law_more"] ["_law_script"] (qAB qKM):=⟨rfl,rfl,rfl,by decide +kernel,rfl,by decide +kernel,by decide +kernel⟩
theorem ok_law (F:Fun K "law" "law" qKM f fd) (qJA:Clb P w K mg base 1 qJ7 qON "_law_begin" ["_law_script"] (qTC K)) (qBL:Clb P w K mg base 1 qEM qE9 "_law_take" ["_law_state","_law_many"] qND) (qFD:Clb P w K mg base 2 qF5 qIK "_law_tree_net" ["_law_state","_law_many"] qTB) (qJ9:Clb P w K mg base 2 qJ6 qOM "_law_wides" ["_law_state","_law_many"] qNC) (qD9:Clb P w K mg base 7 qD4 qFS "_law_small_right" ["_law_net","_law_wides_here","_law_work"] (qQL Ps Pp)) (qDA:Clb P w K mg base 7 qD5 qFT "_law_great_right" ["_law_state","_law_net","_law_wides_here","_law_work"] (qQQ Ps Pp)) (qAF:Clb P w K mg base 5 qB4 qBH "wide_rooms" ["net","wides","work"] (qDV Pp)) (qEG:Clb P w K mg base 5 qEB qHS "tree_rooms" ["net","work"] qJJ) (qJC:mg "int" = none) (qB6:mg "tuple" = none) (qI2:mg "min" = none):FnOk P w K mg base CX0 8 f fd ["_law_script"] (qLZ K Ps Pp):=by
 refine F.ok sc_law (fun vs H Q E h=>?_) (fun cdv A outer s H vs Q E hr h=>?_)
 ·obtain ⟨_,_,sc,ns,rfl,_⟩:=h
  rfl
 obtain ⟨hTs,hTp,sc,ns,rfl,hS,h63,q⟩:=h
 refine ⟨_,(qA4 (qAE (i:=1) sc_law.nd rfl (Or.inl rfl) (qAQ qJA hr rfl (qA0 (pv 0) qA3))) (qA4 (qAE (i:=2) sc_law.nd rfl (Or.inl rfl) (qBQ qVB rfl qJC qXV (qA0 (qEK qIS (qAQ qBL hr rfl (qA0 (pv 1) (qA0 qA9 qA3))) qA9 (qB9 _)) qA3))) (qA4 (qAE (i:=3) sc_law.nd rfl (Or.inl rfl) (qB2 qF3 (qB8 (qA0 (qAU qDC qA9 (qAQ qBL hr rfl (qA0 (pv 1) (qA0 qA9 qA3)))) (qA0 (qAU qDC qA9 (qAQ qBL hr rfl (qA0 (pv 1) (qA0 qA9 qA3)))) qA3))) (pv 2) (fun _ _=>rfl))) (qA4 (qAE (i:=4) sc_law.nd rfl (Or.inl rfl) (qAQ qFD hr rfl (qA0 (pv 1) (qA0 (pv 3) qA3)))) (qA4 (qAE (i:=5) sc_law.nd rfl (Or.inl rfl) (qAQ qJ9 hr rfl (qA0 (pv 1) (qA0 (pv 3) qA3)))) (qA4 (qBM PassesOwn.never rfl (qE7 (qEV (qA0 (qAU qFK (pv 3) qA9) (qA0 (qAQ qBL hr rfl (qA0 (pv 1) (qA0 (pv 3) qA3))) qA3)))) (qAA (i:=6) sc_law.nd rfl (Or.inl rfl)) (qA4 (qCU (PW.pt (qQW (qB3 qIS (pv 2) qA9 (qB9 _)) (qM5 (qGJ (qCS (qAQ qD9 hr rfl (qA0 (pv 4) (qA0 (pv 5) (qA0 (pv 6) qA3))))))))) (qA6 (qAL qDJ)) qAT) (qA4 (qCU (PW.pt (qQW (qB3 qIS (pv 2) qA9 (qB9 _)) (qM5 (qGJ (qCS (qAQ qDA hr rfl (qA0 (pv 1) (qA0 (pv 4) (qA0 (pv 5) (qA0 (pv 6) qA3)))))))))) (qA6 (qAL qDJ)) qAT) (qA4 (qAE (i:=7) sc_law.nd rfl (Or.inl rfl) (qBQ qBW rfl qB6 qD7 (qA0 (qIR rfl (lcs (own:=["_law_one"]) (fv:=[]) (by kernel_rfl)) (qE7 (pv 5)) (fun z1=>qAA (i:=0) (qEL (by kernel_rfl)) rfl (Or.inl rfl)) (fun z1=>qCT) (fun z1=>(qA8 (qOW rfl) rfl qI2 qRS (qA0 qA9 (qA0 (qAU qDC (pv 0) qA9) qA3))))) qA3))) (qA4 (qCU (qB3 qW4 (qAQ qAF hr rfl (qA0 (pv 4) (qA0 (pv 7) (qA0 (pv 6) qA3)))) (qAQ qAF hr rfl (qA0 (pv 4) (qA0 (pv 5) (qA0 (pv 6) qA3)))) (qB9 _)) (qA6 (qAL qDJ)) qAT) (qA6 (qCU (qB3 qS9 (qAQ qAF hr rfl (qA0 (pv 4) (qA0 (qBQ qBW rfl qB6 qD7 (qA0 (qAU qNR (qB8 (qA0 qA9 qA3)) (pv 3)) qA3)) (qA0 (pv 6) qA3)))) (qAQ qEG hr rfl (qA0 (pv 4) (qA0 (pv 6) qA3))) (qB9 _)) (qA6 (qAL qDJ)) qAT))))))) (qA6 (qAL qDJ)))))))),?_⟩
 try dsimp only [Cx.nox,Cx.wish,cxOf]
 refine cut fun Na hNa=>?_
 refine ⟨_,rfl,sc,ns,rfl,hS,h63,fun d c ms H1 S1 sm0 hd0 hc0=>?_⟩
 have hTs0:=sm0 _ _ hTs
 have hTp0:=sm0 _ _ hTp
 have nSd:Ps ≠ d:=qC9 hTs0 S1.dict (by intro z;cases z)
 have nSc:Ps ≠ c:=qC9 hTs0 S1.list (by intro z;cases z)
 have nPd:Pp ≠ d:=qC9 hTp0 S1.dict (by intro z;cases z)
 have nPc:Pp ≠ c:=qC9 hTp0 S1.list (by intro z;cases z)
 refine hNa _ _ (cut fun N0 hN0=>?_)
 refine ⟨_,rfl,d,c,0,ms,8,rfl,S1,(by show (0:Int)≤1000000000;decide),by decide,by decide,fun x ms2 H2 x0 x8 S2 K2=>⟨rfl,.inr ⟨_,rfl,?_⟩⟩⟩
 obtain ⟨g,eg,hg⟩:∃ g:Int,(if decide (V.int x=V.int 0)=true then (1:Int) else 0)=g∧(g=0∨g=1):=by
  by_cases e:decide (V.int x=V.int 0)=true
  ·exact ⟨1,if_pos e,.inr rfl⟩
  ·exact ⟨0,if_neg e,.inl rfl⟩
 rw [eg]
 refine hN0 _ _ (cut fun N1 hN1=>?_)
 refine ⟨_,rfl,d,c,0+1,ms2,7,rfl,S2,(by show (0:Int)+1≤1000000000;decide),by decide,by decide,fun y1 ns1 H3 y10 y11 S3 K3=>⟨_,_,rfl,rfl,?_⟩⟩
 refine ⟨_,rfl,d,c,0+1+1,ns1,53,rfl,S3,(by show (0:Int)+1+1≤1000000000;decide),by decide,by decide,fun y2 ns2 H4 y20 y21 S4 K4=>⟨_,_,rfl,rfl,?_⟩⟩
 refine ⟨(by show 2≤sizeLine;decide),fun l hl=>?_⟩
 have sl:=qA2 hl (.lst [.int (1+y1),.int (8+y2)])
 have gl:(upd H4 l (.lst [.int (1+y1),.int (8+y2)])) l=some (.lst [.int (1+y1),.int (8+y2)]):=qA1
 obtain ⟨m,hm,m1,m60,m7⟩:∃ m:Int,atI [V.int (1+y1),.int (8+y2)] g=some (.int m)∧1≤m∧m≤60∧(g=0→m≤7):=by
  rcases hg with e | e
  ·subst e
   exact ⟨1+y1,rfl,by omega,by omega,fun _=>by omega⟩
  ·subst e
   exact ⟨8+y2,rfl,by omega,by omega,fun z=>by cases z⟩
 refine ⟨_,rfl,l,_,g,_,rfl,rfl,SqL.of gl,hm,?_⟩
 have S4':=S4.same sl
 have KB:=(K2.trans (K3.trans K4)).trans (.of_same sl)
 generalize upd H4 l (.lst [.int (1+y1),.int (8+y2)])=H5 at S4' KB ⊢
 refine hN1 _ _ (cut fun N2 hN2=>?_)
 refine ⟨_,rfl,_,rfl,d,c,0+1+1+1,ns2,m,rfl,S4',(by show (0:Int)+1+1+1≤1000000000 - 1000;decide),m1,by omega,fun a net t6 ns6 H6 S6 g1 g2 K6 hN wf ln on=>?_⟩
 refine hN2 _ _ (cut fun N3 hN3=>?_)
 refine ⟨_,rfl,_,rfl,d,c,t6,ns6,m,rfl,S6,(by show t6≤1000000000 - 1000;omega),m1,by omega,fun r ws t7 ns7 H7 S7 g3 g4 K7 gr lw ge=>?_⟩
 have lw':ws.length=net.length:=by omega
 have hN7:=hN.keep S6 K7
 have K17:=KB.trans (K6.trans K7)
 refine hN3 _ _ (cut fun N4 hN4=>?_)
 refine ⟨_,rfl,_,_,rfl,rfl,_,rfl,_,rfl,d,c,t7,ns7,m,rfl,S7,(by show t7≤1000000000;omega),m1,by omega,fun wk ns8 H8 wk0 wk1 S8 K8=>?_⟩
 refine ⟨(by show 2≤sizeLine;decide),fun T2 hT2=>?_⟩
 have sT:=qA2 hT2 (.tup [.int (m - 1),.int wk])
 have gT:(upd H8 T2 (.tup [.int (m - 1),.int wk])) T2=some (.tup ([m - 1,wk].map V.int)):=qA1
 have S9:=S8.same sT
 have K19:=(K17.trans K8).trans (.of_same sT)
 have hN9:=(hN7.keep S7 K8).same sT
 have nrd:r ≠ d:=qC9 gr S7.dict (by intro z;cases z)
 have nrc:r ≠ c:=qC9 gr S7.list (by intro z;cases z)
 have gr9:=sT _ _ (K8 _ _ gr nrd nrc)
 have tS9:TabS _ Ps:=K19 _ _ hTs0 nSd nSc
 have tP9:TabP _ Pp:=K19 _ _ hTp0 nPd nPc
 generalize upd H8 T2 (.tup [.int (m - 1),.int wk])=H9 at gT S9 hN9 gr9 tS9 tP9
 have nTd:T2 ≠ d:=qC9 gT S9.dict (by intro z;cases z)
 have nTc:T2 ≠ c:=qC9 gT S9.list (by intro z;cases z)
 have n400:net.length≤63:=by omega
 refine ⟨T2,rfl,⟨_,SqT.of gT⟩,qF4 (a:=T2) (xs:=[m - 1,wk].map V.int) (fun i σ Hc=>∃ (v6 v7:Option V) (t':Int) (ns':List Int),σ=[some (.ref sc),some (.ref d),some (.int g),some (.int m),some (.ref a),some (.ref r),v6,v7]∧StAt Hc d c t' ns'∧t'≤t7+1+1200 * (i:Int)∧Keep d c H9 Hc)
  ⟨none,none,t7+1,ns8,rfl,S9,by omega,.refl⟩ (fun i σ Hc _ ⟨_,_,_,_,_,_,_,Kc⟩=>SqT.of (Kc _ _ gT nTd nTc)) ?_ ?_⟩
 ·refine fun i x σ Hc hx hI_1=>opq fun G_1 hG_1=>?_
  obtain ⟨v6,v7,t',ns',rfl,Sc,b2,Kc⟩:=hI_1
  obtain ⟨work,ew,rfl⟩:=qAM hx
  refine hG_1 ?_
  have hi:i<2:=(List.getElem?_eq_some_iff.mp ew).1
  have wkb:0≤work∧work<m:=by
   have:=List.mem_of_getElem? ew
   simp at this
   omega
  have iT:=qR8 wf on (Nat.le_refl _) wkb.1 (by omega)
  have NI:∀ {Hx:Hp},Keep d c H9 Hx→NIn Hx a net work:=fun k=>⟨hN9.keep S9 k,wf,n400,wkb.1,by omega⟩
  have tS:∀ {Hx:Hp},Keep d c H9 Hx→TabS Hx Ps:=fun k=>k _ _ tS9 nSd nSc
  have tP:∀ {Hx:Hp},Keep d c H9 Hx→TabP Hx Pp:=fun k=>k _ _ tP9 nPd nPc
  have SI:∀ {Hx:Hp},Keep d c H9 Hx→qKV Hx a r net ws work:=fun k=>⟨NI k,⟨k _ _ gr9 nrd nrc,lw'⟩,qT0 lw' fun u hu=>(ge u hu).1,iT⟩
  refine cut fun M1 hM1=>?_
  have after:∀ Hx,Same Hc Hx→M1 [some (.ref sc),some (.ref d),some (.int g),some (.int m),some (.ref a),some (.ref r),some (.int work),v7] Hx:=by
   intro Hx sx
   have Kx:=Kc.trans (.of_same sx)
   refine hM1 _ _ (cut fun M2 hM2=>?_)
   have rest:∀ (Hy:Hp) (t2:Int) (ns2:List Int),StAt Hy d c t2 ns2→t2≤t'+1200→Keep d c H9 Hy→M2 [some (.ref sc),some (.ref d),some (.int g),some (.int m),some (.ref a),some (.ref r),some (.int work),v7] Hy:=by
    intro Hy t2 ns2 Sy c2 Ky
    have gry:=Ky _ _ gr9 nrd nrc
    refine hM2 _ _ (cut fun M3 hM3=>?_)
    refine ⟨_,rfl,r,rfl,⟨_,SqT.of gry⟩,fun p hp=>?_⟩
    refine qLD (p:=p) (a:=r) (xs:=ws.map V.int) (fun j σ Hd=>∃ v:Option V,σ=[v]∧Same Hy Hd∧Hd p=some (.lst (((ws.take j).map fun u=>if u+1<99 then u+1 else 99).map V.int))) ?_ ?_ ?_ ?_
    ·exact ⟨none,rfl,qA2 hp _,qA1⟩
    ·rintro j σ Hd hj ⟨v,rfl,sd,_⟩
     exact SqT.of (sd _ _ gry)
    ·refine fun j x σ Hd hx hI_3=>opq fun G_3 hG_3=>?_
     obtain ⟨v,rfl,sd,hpd⟩:=hI_3
     obtain ⟨u,eu,rfl⟩:=qAM hx
     refine hG_3 ?_
     refine ⟨_,rfl,_,_,rfl,rfl,99,u+1,rfl,_,hpd,qAX (by rw [List.length_map,List.length_map,List.length_take];omega),_,rfl,qAG sd hp,?_⟩
     rw [qA1,List.take_add_one,eu,Option.toList_some,List.map_append,List.map_append]
     rfl
    refine fun σ Hd hI_4=>opq fun G_4 hG_4=>?_
    obtain ⟨v,rfl,sd,hpd⟩:=hI_4
    refine hG_4 ?_
    rw [List.length_map,qAO rfl] at hpd
    refine ⟨p,_,rfl,.inl ⟨SqL.of hpd,fun rm hrm=>?_⟩⟩
    have srm:=qA2 hrm (.tup ((ws.map fun u=>if u+1<99 then u+1 else 99).map V.int))
    have grm:(upd Hd rm (.tup ((ws.map fun u=>if u+1<99 then u+1 else 99).map V.int))) rm=some (.tup ((ws.map fun u=>if u+1<99 then u+1 else 99).map V.int)):=qA1
    have s1:=sd.trans srm
    generalize upd Hd rm (.tup ((ws.map fun u=>if u+1<99 then u+1 else 99).map V.int))=He at grm s1 ⊢
    have K1:=Ky.trans (.of_same s1)
    have lm:(ws.map fun u=>if u+1<99 then u+1 else 99).length=net.length:=by rw [List.length_map];exact lw'
    have wm:Wd1 net (ws.map fun u=>if u+1<99 then u+1 else 99):=qT0 lm fun u hu=>by
     obtain ⟨u0,h0,e0⟩:=List.mem_map.mp hu
     have:=ge u0 h0
     rw [← e0]
     split <;> omega
    have mono:∀ x,0≤x→x<(net.length:Int)→wdO ws x≤wdO (ws.map fun u=>if u+1<99 then u+1 else 99) x:=fun x x0 x1=>by
     rw [qZF (by omega)]
     have:=ge _ (qY0 lw' x0 x1)
     split <;> omega
    generalize (ws.map fun u=>if u+1<99 then u+1 else 99)=wm' at grm lm wm mono
    refine hM3 _ _ (cut fun M4 hM4=>?_)
    refine ⟨_,rfl,_,rfl,_,rfl,a,rm,net,wm',work,rfl,tP K1,⟨NI K1,⟨grm,lm⟩,wm,iT⟩,fun m1 L1 Hf sf B1 e1=>?_⟩
    have K2:=K1.trans (.of_same sf)
    refine ⟨_,rfl,_,rfl,_,rfl,a,r,net,ws,work,rfl,tP K2,SI K2,fun m2 L2 Hg sg B2 e2=>⟨_,_,rfl,rfl,_,rfl,?_⟩⟩
    have K3:=K2.trans (.of_same sg)
    have ge2:m2≤m1:=by
     obtain ⟨zs,N,_⟩:=id iT
     have T:=qIJ wf n400 N iT
     obtain ⟨m3,e3⟩:=OrdT.top_ex (ws:=ws) B1.1
     have a1:=qIE T B2 B1.1 e2 e3
     have a2:=qRY (fun x hx=>by
      have:=(B1.1.all T).1.in_ x hx
      exact mono x this.1 this.2) e3 e1
     omega
    refine ite2 (fun z=>?_) (fun _=>?_)
    ·exfalso
     have:=of_decide_eq_true z
     omega
    refine hM4 _ _ ?_
    refine ⟨_,rfl,(by show 1≤sizeLine;decide),fun l1 hl1=>?_⟩
    have sl1:=qA2 hl1 (.lst [.int 1])
    refine ⟨_,rfl,l1,m,_,rfl,rfl,qA1,by omega,by omega,?_,fun l2 hl2=>?_⟩
    ·exact Nat.le_of_lt (qAX (by simp;omega))
    have e5:(List.replicate m.toNat [V.int 1]).flatten=(List.replicate m.toNat (1:Int)).map V.int:=by
     rw [List.map_replicate]
     generalize m.toNat=n
     induction n with
     | zero=>rfl
     | succ n ih=>rw [List.replicate_succ,List.flatten_cons,ih,List.replicate_succ];rfl
    rw [e5]
    have s6:=sl1.trans (qA2 hl2 (.lst ((List.replicate m.toNat (1:Int)).map V.int)))
    refine ⟨l2,_,rfl,.inl ⟨SqL.of qA1,fun ro hro=>?_⟩⟩
    have s7:=s6.trans (qA2 hro (.tup ((List.replicate m.toNat (1:Int)).map V.int)))
    have gro:(upd (upd (upd Hg l1 (.lst [.int 1])) l2 (.lst ((List.replicate m.toNat (1:Int)).map V.int))) ro (.tup ((List.replicate m.toNat (1:Int)).map V.int))) ro=some (.tup ((List.replicate m.toNat (1:Int)).map V.int)):=qA1
    generalize upd (upd (upd Hg l1 (.lst [.int 1])) l2 (.lst ((List.replicate m.toNat (1:Int)).map V.int))) ro (.tup ((List.replicate m.toNat (1:Int)).map V.int))=Hh at s7 gro ⊢
    have K4:=K3.trans (.of_same s7)
    have l1s:(List.replicate m.toNat (1:Int)).length=net.length:=by rw [List.length_replicate];omega
    have ones:∀ u ∈ List.replicate m.toNat (1:Int),u=1:=fun u hu=>(List.mem_replicate.mp hu).2
    have w1s:Wd1 net (List.replicate m.toNat (1:Int)):=qT0 l1s fun u hu=>by rw [ones u hu];decide
    have wal:∀ x,0≤x→x<(net.length:Int)→wdO (List.replicate m.toNat (1:Int)) x=1:=fun x x0 x1=>ones _ (qY0 l1s x0 x1)
    generalize List.replicate m.toNat (1:Int)=wo at gro l1s w1s wal
    refine ⟨_,rfl,a,ro,net,wo,work,rfl,tP K4,⟨NI K4,⟨gro,l1s⟩,w1s,iT⟩,fun m3 L3 Hi si B3 e3=>?_⟩
    have K5:=K4.trans (.of_same si)
    refine ⟨_,rfl,_,rfl,a,net,work,rfl,⟨hN9.keep S9 K5,wf,n400,wkb.1,net.length,on,Nat.le_refl _,by omega⟩,fun zs f Hj sj Nz NO=>⟨rfl,_,rfl,?_⟩⟩
    have T:=qIJ wf n400 Nz iT
    have ue:=qY1 T w1s (fun y hy=>by
     have:=Nz.1.in_ y hy
     exact wal y this.1 this.2) NO B3 e3
    refine ite2 (fun z=>?_) (fun _=>?_)
    ·exfalso
     rw [ue] at z
     simp at z
    have K6:=K5.trans (.of_same sj)
    exact ⟨_,_,t2,ns2,rfl,Sy.same (s1.trans (sf.trans (sg.trans (s7.trans (si.trans sj))))),by omega,K6⟩
   refine ⟨_,rfl,rfl,_,rfl,?_⟩
   rcases hg with e | e
   ·subst e
    refine iteF ?_
    exact rest Hx t' ns' (Sc.same sx) (by omega) Kx
   ·subst e
    refine iteT ?_
    refine ⟨_,rfl,_,rfl,_,rfl,_,rfl,d,c,a,r,t',ns',net,ws,work,rfl,tS Kx,tP Kx,Sc.same sx,(by show t'≤1000000000 - 5000;omega),SI Kx,by omega,fun t2 ns2 Hy Sy c1 c2 Ky=>⟨_,rfl,?_⟩⟩
    refine iteF ?_
    exact rest Hy t2 ns2 Sy c2 (Kx.trans Ky)
  refine ⟨_,rfl,rfl,_,rfl,?_⟩
  rcases hg with e | e
  ·subst e
   refine iteT ?_
   refine ⟨_,rfl,_,rfl,_,rfl,a,r,net,ws,work,rfl,tS Kc,tP Kc,SI Kc,(by have:=m7 rfl;omega),fun Hx sx=>⟨_,rfl,?_⟩⟩
   refine iteF ?_
   exact after Hx sx
  ·subst e
   refine iteF ?_
   exact after Hc (.refl _)
 ·refine fun σ Hc hI_5=>opq fun G_5 hG_5=>?_
  obtain ⟨v6,v7,t',ns',rfl,Sc,b2,Kc⟩:=hI_5
  refine hG_5 ?_
  exact hN4 _ _ (q _)
end
theorem all_mk {l:PySem.W.OpenLaw} {w:World} {K:PySem.W.Frag} {h:Heap} {mg:Str→Option Value} {fa qB5 qEA qHV qBJ qDP qEC qEB qCK qCG qJ5 qD3 qDF qCJ qB4 qJ7 qEM qFV qF5 qDG qJ6 qED qF6 qHW qBR qD6 qCB qD4 qD5 qYY:Addr} (X:K.In h) (G:h.Ns mainGlobals mg) (hfa:mg "law" = some (.ref fa))
  {qNU qPC qMB qMV qa8 qXW:Option Addr} {qNH qM1 qZS:Array (Option Value)} {qNV qOD qOQ qNL qOR qMC qMI qMP qM7 qMQ qa9 qXN qXR qXD qV8 qXS:Value}
  {qEE qG8 qDQ qFB:Addr}
  (qG7:PySem.W.nsIn K mainGlobals "all_needed" = some (some (.ref qB5))) (F_all_needed:∃ fd,Fun K "all_needed" "all_needed" qE6 qB5 fd)
  (qG3:PySem.W.nsIn K mainGlobals "use_counts" = some (some (.ref qEA))) (F_use_counts:∃ fd,Fun K "use_counts" "use_counts" qE3 qEA fd)
  (qKI:PySem.W.nsIn K mainGlobals "is_tree" = some (some (.ref qHV))) (F_is_tree:∃ fd,Fun K "is_tree" "is_tree" qHA qHV fd)
  (qF9:PySem.W.nsIn K mainGlobals "demand_tree" = some (some (.ref qBJ))) (F_demand_tree:∃ fd,Fun K "demand_tree" "demand_tree" qDM qBJ fd)
  (qF8:PySem.W.nsIn K mainGlobals "number_over" = some (some (.ref qDP))) (F_number_over:∃ fd,Fun K "number_over" "number_over" qDL qDP fd)
  (qG6:PySem.W.nsIn K mainGlobals "numbers_of" = some (some (.ref qEC))) (F_numbers_of:∃ fd,Fun K "numbers_of" "numbers_of" qE5 qEC fd)
  (qG4:PySem.W.nsIn K mainGlobals "tree_rooms" = some (some (.ref qEB))) (F_tree_rooms:∃ fd,Fun K "tree_rooms" "tree_rooms" qE4 qEB fd)
  (qIF:PySem.W.nsIn K mainGlobals "taken_by" = some (some (.ref qCK))) (F_taken_by:∃ fd,Fun K "taken_by" "taken_by" qGC qCK fd)
  (qH2:PySem.W.nsIn K mainGlobals "stretched" = some (some (.ref qCG))) (qGW:K.lookup qCG=some ⟨qNV,qNU,.func (PySem.W.fnOf "stretched" "stretched" (qFW qCF) (qEN qCF) (qAB qCF) .none qOD qOQ qNL qPC (.ref qEE) qOR),qNH⟩) (qGZ:PySem.W.codeIn K (.ref qEE) "stretched" = true) (qGX:PySem.W.keepIn K (.ref qCG)=true)
  (qMW:PySem.W.nsIn K mainGlobals "joined" = some (some (.ref qJ5))) (F_joined:∃ fd,Fun K "joined" "joined" qIY qJ5 fd)
  (qEO:PySem.W.nsIn K mainGlobals "joined_parts" = some (some (.ref qD3))) (F_joined_parts:∃ fd,Fun K "joined_parts" "joined_parts" qCY qD3 fd)
  (qG5:PySem.W.nsIn K mainGlobals "parts_over" = some (some (.ref qDF))) (qFM:K.lookup qDF=some ⟨qMC,qMB,.func (PySem.W.fnOf "parts_over" "parts_over" (qFW qC4) (qEN qC4) (qAB qC4) .none qMI qMP qM7 qMV (.ref qDQ) qMQ),qM1⟩) (qG0:PySem.W.codeIn K (.ref qDQ) "parts_over" = true) (qFN:PySem.W.keepIn K (.ref qDF)=true)
  (qG2:PySem.W.nsIn K mainGlobals "wide_order" = some (some (.ref qCJ))) (F_wide_order:∃ fd,Fun K "wide_order" "wide_order" qE2 qCJ fd)
  (qG1:PySem.W.nsIn K mainGlobals "wide_rooms" = some (some (.ref qB4))) (F_wide_rooms:∃ fd,Fun K "wide_rooms" "wide_rooms" qE1 qB4 fd)
  (qMZ:PySem.W.nsIn K mainGlobals "_law_begin" = some (some (.ref qJ7))) (F_Lbegin:∃ fd,Fun K "_law_begin" "_law_begin" qJ1 qJ7 fd)
  (qQF:PySem.W.nsIn K mainGlobals "_law_take" = some (some (.ref qEM))) (F_Ltake:∃ fd,Fun K "_law_take" "_law_take" qM4 qEM fd)
  (qQG:PySem.W.nsIn K mainGlobals "_law_same" = some (some (.ref qFV))) (F_Lsame:∃ fd,Fun K "_law_same" "_law_same" qJM qFV fd)
  (qH3:PySem.W.nsIn K mainGlobals "_law_tree_net" = some (some (.ref qF5))) (F_Ltree_net:∃ fd,Fun K "_law_tree_net" "_law_tree_net" qEZ qF5 fd)
  (qKK:PySem.W.nsIn K mainGlobals "_law_needed" = some (some (.ref qDG))) (F_Lneeded:∃ fd,Fun K "_law_needed" "_law_needed" qHC qDG fd)
  (qMX:PySem.W.nsIn K mainGlobals "_law_wides" = some (some (.ref qJ6))) (F_Lwides:∃ fd,Fun K "_law_wides" "_law_wides" qIZ qJ6 fd)
  (qMY:PySem.W.nsIn K mainGlobals "_law_taken" = some (some (.ref qED))) (F_Ltaken:∃ fd,Fun K "_law_taken" "_law_taken" qJ0 qED fd)
  (qH4:PySem.W.nsIn K mainGlobals "_law_is_order" = some (some (.ref qF6))) (F_Lis_order:∃ fd,Fun K "_law_is_order" "_law_is_order" qF0 qF6 fd)
  (qKJ:PySem.W.nsIn K mainGlobals "_law_orders" = some (some (.ref qHW))) (F_Lorders:∃ fd,Fun K "_law_orders" "_law_orders" qHB qHW fd)
  (qDY:PySem.W.nsIn K mainGlobals "_law_in_stretches" = some (some (.ref qBR))) (F_Lin_stretches:∃ fd,Fun K "_law_in_stretches" "_law_in_stretches" qCN qBR fd)
  (qER:PySem.W.nsIn K mainGlobals "_law_drawn_order" = some (some (.ref qD6))) (F_Ldrawn_order:∃ fd,Fun K "_law_drawn_order" "_law_drawn_order" qD1 qD6 fd)
  (qFA:PySem.W.nsIn K mainGlobals "_law_told_right" = some (some (.ref qCB))) (F_Ltold_right:∃ fd,Fun K "_law_told_right" "_law_told_right" qDN qCB fd)
  (qEP:PySem.W.nsIn K mainGlobals "_law_small_right" = some (some (.ref qD4))) (F_Lsmall_right:∃ fd,Fun K "_law_small_right" "_law_small_right" qCZ qD4 fd)
  (qEQ:PySem.W.nsIn K mainGlobals "_law_great_right" = some (some (.ref qD5))) (F_Lgreat_right:∃ fd,Fun K "_law_great_right" "_law_great_right" qD0 qD5 fd)
  (qZ8:PySem.W.nsIn K mainGlobals "law" = some (some (.ref qYY))) (qYS:K.lookup qYY=some ⟨qa9,qa8,.func (PySem.W.fnOf "law" "law" (qFW qKM) (qEN qKM) (qAB qKM) .none qXN qXR qXD qXW qV8 qXS),qZS⟩) (qZ3:PySem.W.codeIn K qV8 "law" = true) (qYU:PySem.W.keepIn K (.ref qYY)=true)
  (qCI:hdIn K qEE qG8=true)
  (qCA:hdIn K qDQ qFB=true)
  (qET:PySem.W.nsIn K mainGlobals "all" = some none)
  (qIH:PySem.W.nsIn K mainGlobals "bool" = some none)
  (qH6:PySem.W.nsIn K mainGlobals "dict" = some none)
  (qGA:PySem.W.nsIn K mainGlobals "divmod" = some none)
  (qAN:PySem.W.nsIn K mainGlobals "enumerate" = some none)
  (qJC:PySem.W.nsIn K mainGlobals "int" = some none)
  (qAC:PySem.W.nsIn K mainGlobals "isinstance" = some none)
  (qBN:PySem.W.nsIn K mainGlobals "len" = some none)
  (qCC:PySem.W.nsIn K mainGlobals "list" = some none)
  (qCM:PySem.W.nsIn K mainGlobals "max" = some none)
  (qI2:PySem.W.nsIn K mainGlobals "min" = some none)
  (qBE:PySem.W.nsIn K mainGlobals "range" = some none)
  (qAV:PySem.W.nsIn K mainGlobals "sorted" = some none)
  (qLO:PySem.W.nsIn K mainGlobals "str" = some none)
  (qLN:PySem.W.nsIn K mainGlobals "sum" = some none)
  (qB6:PySem.W.nsIn K mainGlobals "tuple" = some none)
  (qN2:PySem.W.nsIn K mainGlobals "zip" = some none)
  : ∃ fd:FuncData,(∀ (s:Shared) (v:Value),BindsTo s fd ⟨[v],[]⟩ [("_law_script",v)])∧∀ base:Heap,K.In base→base.Ns mainGlobals mg→BM mg base→FnOk l.prog w K mg base CX0 8 fa fd ["_law_script"] (qLZ K qG8 qFB):=by
 have e:=hfa.symm.trans (PySem.W.mg_of X G qZ8)
 cases e
 obtain ⟨qBI,F_all_needed⟩:=F_all_needed
 have qPA:=F_all_needed.binds (ps:=["net","asked"]) fun _ _ _ _ _ _ us hl=>us2 us hl (fun _ _=>rfl)
 have qO3:=PySem.W.mg_of X G qG7
 obtain ⟨qHR,F_use_counts⟩:=F_use_counts
 have qP6:=F_use_counts.binds (ps:=["net","works"]) fun _ _ _ _ _ _ us hl=>us2 us hl (fun _ _=>rfl)
 have qNZ:=PySem.W.mg_of X G qG3
 obtain ⟨qLH,F_is_tree⟩:=F_is_tree
 have qVG:=F_is_tree.binds (ps:=["net","work"]) fun _ _ _ _ _ _ us hl=>us2 us hl (fun _ _=>rfl)
 have qU4:=PySem.W.mg_of X G qKI
 obtain ⟨qBZ,F_demand_tree⟩:=F_demand_tree
 have qMT:=F_demand_tree.binds (ps:=["net","work"]) fun _ _ _ _ _ _ us hl=>us2 us hl (fun _ _=>rfl)
 have qME:=PySem.W.mg_of X G qF9
 obtain ⟨qGL,F_number_over⟩:=F_number_over
 have qMS:=F_number_over.binds (ps:=["falling"]) fun _ _ _ _ _ _ us hl=>us1 us hl (fun _=>rfl)
 have qMD:=PySem.W.mg_of X G qF8
 obtain ⟨qHT,F_numbers_of⟩:=F_numbers_of
 have qP9:=F_numbers_of.binds (ps:=["net","work"]) fun _ _ _ _ _ _ us hl=>us2 us hl (fun _ _=>rfl)
 have qO2:=PySem.W.mg_of X G qG6
 obtain ⟨qHS,F_tree_rooms⟩:=F_tree_rooms
 have qP7:=F_tree_rooms.binds (ps:=["net","work"]) fun _ _ _ _ _ _ us hl=>us2 us hl (fun _ _=>rfl)
 have qO0:=PySem.W.mg_of X G qG4
 obtain ⟨qCW,F_taken_by⟩:=F_taken_by
 have qSS:=F_taken_by.binds (ps:=["net","wides","work","order"]) fun _ _ _ _ _ _ us hl=>us4 us hl (fun _ _ _ _=>rfl)
 have qSE:=PySem.W.mg_of X G qIF
 have F_stretched:=fun_mk (st:=qCF) qGW qGZ qGX
 have qQA:=F_stretched.binds (ps:=["net","wides","work"]) fun _ _ _ _ _ _ us hl=>us3 us hl (fun _ _ _=>rfl)
 have qPU:=PySem.W.mg_of X G qH2
 obtain ⟨qOL,F_joined⟩:=F_joined
 have qX0:=F_joined.binds (ps:=["one","other"]) fun _ _ _ _ _ _ us hl=>us2 us hl (fun _ _=>rfl)
 have qW8:=PySem.W.mg_of X G qMW
 obtain ⟨qFR,F_joined_parts⟩:=F_joined_parts
 have qKR:=F_joined_parts.binds (ps:=["parts"]) fun _ _ _ _ _ _ us hl=>us1 us hl (fun _=>rfl)
 have qKN:=PySem.W.mg_of X G qEO
 have F_parts_over:=fun_mk (st:=qC4) qFM qG0 qFN
 have qP8:=F_parts_over.binds (ps:=["net","wides","work","own"]) fun _ _ _ _ _ _ us hl=>us4 us hl (fun _ _ _ _=>rfl)
 have qO1:=PySem.W.mg_of X G qG5
 obtain ⟨qDO,F_wide_order⟩:=F_wide_order
 have qP5:=F_wide_order.binds (ps:=["net","wides","work"]) fun _ _ _ _ _ _ us hl=>us3 us hl (fun _ _ _=>rfl)
 have qNY:=PySem.W.mg_of X G qG2
 obtain ⟨qBH,F_wide_rooms⟩:=F_wide_rooms
 have qP4:=F_wide_rooms.binds (ps:=["net","wides","work"]) fun _ _ _ _ _ _ us hl=>us3 us hl (fun _ _ _=>rfl)
 have qNX:=PySem.W.mg_of X G qG1
 obtain ⟨qON,F_Lbegin⟩:=F_Lbegin
 have qX3:=F_Lbegin.binds (ps:=["_law_script"]) fun _ _ _ _ _ _ us hl=>us1 us hl (fun _=>rfl)
 have qWB:=PySem.W.mg_of X G qMZ
 obtain ⟨qE9,F_Ltake⟩:=F_Ltake
 have qZ5:=F_Ltake.binds (ps:=["_law_state","_law_many"]) fun _ _ _ _ _ _ us hl=>us2 us hl (fun _ _=>rfl)
 have qYN:=PySem.W.mg_of X G qQF
 obtain ⟨qHU,F_Lsame⟩:=F_Lsame
 have qH1:=F_Lsame.binds (ps:=["_law_found","_law_due"]) fun _ _ _ _ _ _ us hl=>us2 us hl (fun _ _=>rfl)
 have qGT:=PySem.W.mg_of X G qQG
 obtain ⟨qIK,F_Ltree_net⟩:=F_Ltree_net
 have qQB:=F_Ltree_net.binds (ps:=["_law_state","_law_many"]) fun _ _ _ _ _ _ us hl=>us2 us hl (fun _ _=>rfl)
 have qPV:=PySem.W.mg_of X G qH3
 obtain ⟨qDT,F_Lneeded⟩:=F_Lneeded
 have qVI:=F_Lneeded.binds (ps:=["_law_net","_law_asked"]) fun _ _ _ _ _ _ us hl=>us2 us hl (fun _ _=>rfl)
 have qU6:=PySem.W.mg_of X G qKK
 obtain ⟨qOM,F_Lwides⟩:=F_Lwides
 have qX1:=F_Lwides.binds (ps:=["_law_state","_law_many"]) fun _ _ _ _ _ _ us hl=>us2 us hl (fun _ _=>rfl)
 have qW9:=PySem.W.mg_of X G qMX
 obtain ⟨qEW,F_Ltaken⟩:=F_Ltaken
 have qX2:=F_Ltaken.binds (ps:=["_law_net","_law_wides_here","_law_order"]) fun _ _ _ _ _ _ us hl=>us3 us hl (fun _ _ _=>rfl)
 have qWA:=PySem.W.mg_of X G qMY
 obtain ⟨qIL,F_Lis_order⟩:=F_Lis_order
 have qQC:=F_Lis_order.binds (ps:=["_law_net","_law_works","_law_order"]) fun _ _ _ _ _ _ us hl=>us3 us hl (fun _ _ _=>rfl)
 have qPW:=PySem.W.mg_of X G qH4
 obtain ⟨qLI,F_Lorders⟩:=F_Lorders
 have qVH:=F_Lorders.binds (ps:=["_law_net","_law_works"]) fun _ _ _ _ _ _ us hl=>us2 us hl (fun _ _=>rfl)
 have qU5:=PySem.W.mg_of X G qKJ
 obtain ⟨qCE,F_Lin_stretches⟩:=F_Lin_stretches
 have qKF:=F_Lin_stretches.binds (ps:=["_law_net","_law_order"]) fun _ _ _ _ _ _ us hl=>us2 us hl (fun _ _=>rfl)
 have qK0:=PySem.W.mg_of X G qDY
 obtain ⟨qFU,F_Ldrawn_order⟩:=F_Ldrawn_order
 have qKU:=F_Ldrawn_order.binds (ps:=["_law_state","_law_net","_law_works"]) fun _ _ _ _ _ _ us hl=>us3 us hl (fun _ _ _=>rfl)
 have qKQ:=PySem.W.mg_of X G qER
 obtain ⟨qD2,F_Ltold_right⟩:=F_Ltold_right
 have qMU:=F_Ltold_right.binds (ps:=["_law_net","_law_wides_here","_law_work","_law_works"]) fun _ _ _ _ _ _ us hl=>us4 us hl (fun _ _ _ _=>rfl)
 have qMF:=PySem.W.mg_of X G qFA
 obtain ⟨qFS,F_Lsmall_right⟩:=F_Lsmall_right
 have qKS:=F_Lsmall_right.binds (ps:=["_law_net","_law_wides_here","_law_work"]) fun _ _ _ _ _ _ us hl=>us3 us hl (fun _ _ _=>rfl)
 have qKO:=PySem.W.mg_of X G qEP
 obtain ⟨qFT,F_Lgreat_right⟩:=F_Lgreat_right
 have qKT:=F_Lgreat_right.binds (ps:=["_law_state","_law_net","_law_wides_here","_law_work"]) fun _ _ _ _ _ _ us hl=>us4 us hl (fun _ _ _ _=>rfl)
 have qKP:=PySem.W.mg_of X G qEQ
 have qbS:=fun_mk (st:=qKM) qYS qZ3 qYU
 have qN1:=PySem.W.mg_none_of X G qET
 have qXZ:=PySem.W.mg_none_of X G qIH
 have qSW:=PySem.W.mg_none_of X G qH6
 have qSV:=PySem.W.mg_none_of X G qGA
 have qE0:=PySem.W.mg_none_of X G qAN
 have qX8:=PySem.W.mg_none_of X G qJC
 have qH5:=PySem.W.mg_none_of X G qAC
 have qGH:=PySem.W.mg_none_of X G qBN
 have qJB:=PySem.W.mg_none_of X G qCC
 have qIG:=PySem.W.mg_none_of X G qCM
 have qSU:=PySem.W.mg_none_of X G qI2
 have qG9:=PySem.W.mg_none_of X G qBE
 have qES:=PySem.W.mg_none_of X G qAV
 have qZC:=PySem.W.mg_none_of X G qLO
 have qX7:=PySem.W.mg_none_of X G qLN
 have qIV:=PySem.W.mg_none_of X G qB6
 have qZB:=PySem.W.mg_none_of X G qN2
 refine ⟨PySem.W.fnOf "law" "law" (qFW qKM) (qEN qKM) (qAB qKM) .none qXN qXR qXD qXW qV8 qXS,fun s v=>.of_eq rfl,fun base _ _ hBM=>?_⟩
 have qAK:=Clb.mk (ok_all_needed (P:=l.prog) (w:=w) (mg:=mg) (base:=base) (F:=F_all_needed) (qBN:=qGH) (qBE:=qG9) (qAV:=qES)) qPA F_all_needed.kp qO3
 have qEF:=Clb.mk (ok_use_counts (P:=l.prog) (w:=w) (mg:=mg) (base:=base) (F:=F_use_counts) (qBN:=qGH)) qP6 F_use_counts.kp qNZ
 have qI0:=Clb.mk (ok_is_tree (P:=l.prog) (w:=w) (mg:=mg) (base:=base) (F:=F_is_tree) (qAK:=qAK) (qEF:=qEF) (qET:=qN1)) qVG F_is_tree.kp qU4
 have qAP:=Clb.mk (ok_demand_tree (P:=l.prog) (w:=w) (mg:=mg) (base:=base) (F:=F_demand_tree) (qI0:=qI0)) qMT F_demand_tree.kp qME
 have qDR:=Clb.mk (ok_number_over (P:=l.prog) (w:=w) (mg:=mg) (base:=base) (F:=F_number_over) (qAN:=qE0) (qBN:=qGH) (qCM:=qIG)) qMS F_number_over.kp qMD
 have qEI:=Clb.mk (ok_numbers_of (P:=l.prog) (w:=w) (mg:=mg) (base:=base) (F:=F_numbers_of) (qAP:=qAP) (qAK:=qAK) (qDR:=qDR) (qCC:=qJB) (qAV:=qES)) qP9 F_numbers_of.kp qO2
 have qEG:=Clb.mk (ok_tree_rooms (P:=l.prog) (w:=w) (mg:=mg) (base:=base) (F:=F_tree_rooms) (qEI:=qEI) (qH6:=qSW)) qP7 F_tree_rooms.kp qO0
 have qBF:=Clb.mk (ok_taken_by (P:=l.prog) (w:=w) (mg:=mg) (base:=base) (F:=F_taken_by)) qSS F_taken_by.kp qSE
 have qC8:=Clb.mk (ok_stretched (P:=l.prog) (w:=w) (mg:=mg) (base:=base) (F:=F_stretched) (qAP:=qAP) (qAK:=qAK) (qBF:=qBF) (qCM:=qIG) (qAV:=qES) (hcd:=rfl) (hBM:=hBM) (qCI:=qCI)) qQA F_stretched.kp qPU
 have qJ8:=Clb.mk (ok_joined (P:=l.prog) (w:=w) (mg:=mg) (base:=base) (F:=F_joined) (qCM:=qIG)) qX0 F_joined.kp qW8
 have qD8:=Clb.mk (ok_joined_parts (P:=l.prog) (w:=w) (mg:=mg) (base:=base) (F:=F_joined_parts) (qJ8:=qJ8)) qKR F_joined_parts.kp qKN
 have qEH:=Clb.mk (ok_parts_over (P:=l.prog) (w:=w) (mg:=mg) (base:=base) (F:=F_parts_over) (qD8:=qD8) (qAV:=qES) (qLN:=qX7) (hcd:=rfl) (hBM:=hBM) (qCA:=qCA)) qP8 F_parts_over.kp qO1
 have qBS:=Clb.mk (ok_wide_order (P:=l.prog) (w:=w) (mg:=mg) (base:=base) (F:=F_wide_order) (qAP:=qAP) (qAK:=qAK) (qEH:=qEH)) qP5 F_wide_order.kp qNY
 have qAF:=Clb.mk (ok_wide_rooms (P:=l.prog) (w:=w) (mg:=mg) (base:=base) (F:=F_wide_rooms) (qBF:=qBF) (qBS:=qBS) (qCM:=qIG)) qP4 F_wide_rooms.kp qNX
 have qJA:=Clb.mk (ok_Lbegin (P:=l.prog) (w:=w) (mg:=mg) (base:=base) (F:=F_Lbegin) (qCC:=qJB)) qX3 F_Lbegin.kp qWB
 have qBL:=Clb.mk (ok_Ltake (P:=l.prog) (w:=w) (mg:=mg) (base:=base) (F:=F_Ltake) (qGA:=qSV) (qBN:=qGH)) qZ5 F_Ltake.kp qYN
 have qN0:=Clb.mk (ok_Lsame (P:=l.prog) (w:=w) (mg:=mg) (base:=base) (F:=F_Lsame) (qH1:=qH1) (qMH:=F_Lsame.kp) (qGT:=qGT) (n:=2) (qET:=qN1) (qIH:=qXZ) (qJC:=qX8) (qAC:=qH5) (qBN:=qGH) (qCC:=qJB) (qLO:=qZC) (qB6:=qIV) (qN2:=qZB)) qH1 F_Lsame.kp qGT
 have qFD:=Clb.mk (ok_Ltree_net (P:=l.prog) (w:=w) (mg:=mg) (base:=base) (F:=F_Ltree_net) (qBL:=qBL) (qBN:=qGH) (qI2:=qSU) (qBE:=qG9) (qB6:=qIV)) qQB F_Ltree_net.kp qPV
 have qBY:=Clb.mk (ok_Lneeded (P:=l.prog) (w:=w) (mg:=mg) (base:=base) (F:=F_Lneeded) (qBN:=qGH) (qBE:=qG9)) qVI F_Lneeded.kp qU6
 have qJ9:=Clb.mk (ok_Lwides (P:=l.prog) (w:=w) (mg:=mg) (base:=base) (F:=F_Lwides) (qBL:=qBL) (qBE:=qG9) (qB6:=qIV)) qX1 F_Lwides.kp qW9
 have qBX:=Clb.mk (ok_Ltaken (P:=l.prog) (w:=w) (mg:=mg) (base:=base) (F:=F_Ltaken) (qAN:=qE0) (qLN:=qX7)) qX2 F_Ltaken.kp qWA
 have qDZ:=Clb.mk (ok_Lis_order (P:=l.prog) (w:=w) (mg:=mg) (base:=base) (F:=F_Lis_order) (qET:=qN1) (qH6:=qSW) (qAN:=qE0) (qAC:=qH5) (qCC:=qJB) (qCM:=qIG) (qAV:=qES)) qQC F_Lis_order.kp qPW
 have qI1:=Clb.mk (ok_Lorders (P:=l.prog) (w:=w) (mg:=mg) (base:=base) (F:=F_Lorders) (qET:=qN1) (qBN:=qGH) (qBE:=qG9)) qVH F_Lorders.kp qU5
 have qAZ:=Clb.mk (ok_Lin_stretches (P:=l.prog) (w:=w) (mg:=mg) (base:=base) (F:=F_Lin_stretches) (qBY:=qBY) (qAN:=qE0) (qBN:=qGH) (qAV:=qES)) qKF F_Lin_stretches.kp qK0
 have qDB:=Clb.mk (ok_Ldrawn_order (P:=l.prog) (w:=w) (mg:=mg) (base:=base) (F:=F_Ldrawn_order) (qBL:=qBL) (qET:=qN1) (qBN:=qGH) (qCC:=qJB)) qKU F_Ldrawn_order.kp qKQ
 have qBK:=Clb.mk (ok_Ltold_right (P:=l.prog) (w:=w) (mg:=mg) (base:=base) (F:=F_Ltold_right) (qAF:=qAF) (qBS:=qBS) (qBX:=qBX) (qDZ:=qDZ) (qN0:=qN0) (qBF:=qBF) (qC8:=qC8) (qAZ:=qAZ) (qCM:=qIG)) qMU F_Ltold_right.kp qMF
 have qD9:=Clb.mk (ok_Lsmall_right (P:=l.prog) (w:=w) (mg:=mg) (base:=base) (F:=F_Lsmall_right) (qBY:=qBY) (qBK:=qBK) (qI1:=qI1) (qBX:=qBX) (qAZ:=qAZ) (qC8:=qC8) (qAF:=qAF) (qCM:=qIG) (qI2:=qSU)) qKS F_Lsmall_right.kp qKO
 have qDA:=Clb.mk (ok_Lgreat_right (P:=l.prog) (w:=w) (mg:=mg) (base:=base) (F:=F_Lgreat_right) (qBY:=qBY) (qBK:=qBK) (qAF:=qAF) (qBX:=qBX) (qDB:=qDB) (qCM:=qIG) (qBE:=qG9)) qKT F_Lgreat_right.kp qKP
 exact ok_law (P:=l.prog) (w:=w) (mg:=mg) (base:=base) (F:=qbS) (qJA:=qJA) (qBL:=qBL) (qFD:=qFD) (qJ9:=qJ9) (qD9:=qD9) (qDA:=qDA) (qAF:=qAF) (qEG:=qEG) (qJC:=qX8) (qI2:=qSU) (qB6:=qIV)
def tabsL:List LTab:=[⟨"stretched",95,91,"stretched.<locals>.<lambda>"⟩,⟨"parts_over",114,112,"parts_over.<locals>.<lambda>"⟩]
theorem walk {l:PySem.W.OpenLaw} {q:Program} {loose:List Str} {XP:(Str→Option Value)→Heap→Prop} {YP:World→Heap→Prop} {d:DefRec} {K:Params→PySem.W.Frag} (hn:l.most=some 63) (hdf:d.params.defaults=[])
  (hY:∀ (w:World) (h:Heap),YP w h→(K w.params).In h)
  (hrec:∀ t ∈ tabsL,((PyProof.Rows.recsOf q).find? fun e=>e.name == t.x).isSome=true) (htab:∀ (w:World),∀ t ∈ tabsL,PySem.W.tabIn (K w.params) t.x=some (t.c,t.P)) (hK:∀ w:World,PySem.W.noTabs (K w.params)=true)
  (F:∀ (w:World) (mg:Str→Option Value) (fa:Addr) (h:Heap),(K w.params).In h→h.Ns mainGlobals mg→mg d.name=some (.ref fa)→
   ∃ fd:FuncData,(∀ (s:Shared) (u:Value),BindsTo s fd ⟨[u],[]⟩ [("_law_script",u)])∧∀ base:Heap,(K w.params).In base→base.Ns mainGlobals mg→BM mg base→FnOk l.prog w (K w.params) mg base CX0 8 fa fd ["_law_script"] (qLZ (K w.params) 91 112)) :
  PySem.W.WalkO q loose XP YP l.row.toRowW d [] (fun f vs=>PySem.call f vs):=
 L2.walk_ofT (n:=63) (k:=8) (x:="_law_script") (sp:=fun w=>qLZ (K w.params) 91 112) tabsL hn (by decide) hdf ⟨rfl,by decide,by decide,rfl⟩ hY hrec htab hK (fun t h t' h' _=>by simp only [tabsL,List.mem_cons,List.not_mem_nil,or_false] at h h';rcases h with rfl | rfl <;> rcases h' with rfl | rfl <;> first | rfl | (rename_i q;exact absurd q (by decide))) F fun _ _ a ns hl hO hS=>⟨hO _ List.mem_cons_self,hO _ (List.mem_cons_of_mem _ List.mem_cons_self),a,ns,rfl,hS,hl,fun _=>rfl⟩
end Fw
open PySem PySem.W PyProof.Rows
set_option maxRecDepth 100000 in
set_option maxHeartbeats 0 in
theorem PySem.Challenge.cw_fewrooms_k96_whole_wides_by_all_orders_holds : PySem.Challenge.rw_fewrooms_k96_whole_wides_by_all_orders.Holds := by
 w_on;refine holds_law Fw.hpSaid fun said=>?_
 refine holds_open (q:=Fw.hpQ) (Xt:=Fw.hpX) (XP:=XL Fw.hpQ []) (YP:=(kHook Fw.hpK Fw.hpA Fw.hpE).says)
  Fw.hpLeft (kHook Fw.hpK Fw.hpA Fw.hpE).of (kHook Fw.hpK Fw.hpA Fw.hpE).keeps (fun s e=>xl_of s (Bool.and_eq_true_iff.mp e).1) XL.keeps
  (by rfl) (by rfl) (by rfl) (fun s e=>recFacts_of (Bool.and_eq_true_iff.mp e).2) (by rfl)
  (by first | assumption | decide +kernel) (by decide +kernel) ⟨rfl,rfl,rfl,rfl,rfl,by decide +kernel⟩ ?hw ?hc
 case hw=>w_witness2
 k_fill
 refine Fw.walk (l:=PySem.Challenge.rw_fewrooms_k96_whole_wides_by_all_orders) rfl rfl (fun w h Y=>PySem.W.kIn_of Y) ?hrec ?htab ?hK ?F
 case hrec=>intro t ht;simp only [Fw.tabsL,List.mem_cons,List.not_mem_nil,or_false] at ht;rcases ht with rfl | rfl <;> kernel_rfl
 case htab=>intro w t ht;simp only [Fw.tabsL,List.mem_cons,List.not_mem_nil,or_false] at ht;rcases ht with rfl | rfl <;> kernel_rfl
 case hK=>intro w;kernel_rfl
 case F=>
  intro w mg fa h KX G hmg
  refine' Fw.all_mk (qEE:=95) (qG8:=91) (qDQ:=114) (qFB:=112) KX G hmg ?qG7 ?F_all_needed ?qG3 ?F_use_counts ?qKI ?F_is_tree ?qF9 ?F_demand_tree ?qF8 ?F_number_over ?qG6 ?F_numbers_of ?qG4 ?F_tree_rooms ?qIF ?F_taken_by ?qH2 ?qGW ?qGZ ?qGX ?qMW ?F_joined ?qEO ?F_joined_parts ?qG5 ?qFM ?qG0 ?qFN ?qG2 ?F_wide_order ?qG1 ?F_wide_rooms ?qMZ ?F_Lbegin ?qQF ?F_Ltake ?qQG ?F_Lsame ?qH3 ?F_Ltree_net ?qKK ?F_Lneeded ?qMX ?F_Lwides ?qMY ?F_Ltaken ?qH4 ?F_Lis_order ?qKJ ?F_Lorders ?qDY ?F_Lin_stretches ?qER ?F_Ldrawn_order ?qFA ?F_Ltold_right ?qEP ?F_Lsmall_right ?qEQ ?F_Lgreat_right ?qZ8 ?qYS ?qZ3 ?qYU ?qCI ?qCA ?qET ?qIH ?qH6 ?qGA ?qAN ?qJC ?qAC ?qBN ?qCC ?qCM ?qI2 ?qBE ?qAV ?qLO ?qLN ?qB6 ?qN2
  (case qG7=>k_is)
  (case F_all_needed=>exact ⟨_,L2.fun_mk (by k_is) (by k_is) (by k_is)⟩)
  (case qG3=>k_is)
  (case F_use_counts=>exact ⟨_,L2.fun_mk (by k_is) (by k_is) (by k_is)⟩)
  (case qKI=>k_is)
  (case F_is_tree=>exact ⟨_,L2.fun_mk (by k_is) (by k_is) (by k_is)⟩)
  (case qF9=>k_is)
  (case F_demand_tree=>exact ⟨_,L2.fun_mk (by k_is) (by k_is) (by k_is)⟩)
  (case qF8=>k_is)
  (case F_number_over=>exact ⟨_,L2.fun_mk (by k_is) (by k_is) (by k_is)⟩)
  (case qG6=>k_is)
  (case F_numbers_of=>exact ⟨_,L2.fun_mk (by k_is) (by k_is) (by k_is)⟩)
  (case qG4=>k_is)
  (case F_tree_rooms=>exact ⟨_,L2.fun_mk (by k_is) (by k_is) (by k_is)⟩)
  (case qIF=>k_is)
  (case F_taken_by=>exact ⟨_,L2.fun_mk (by k_is) (by k_is) (by k_is)⟩)
  (case qH2=>k_is)
  (case qGW=>k_is)
  (case qGZ=>k_is)
  (case qGX=>k_is)
  (case qMW=>k_is)
  (case F_joined=>exact ⟨_,L2.fun_mk (by k_is) (by k_is) (by k_is)⟩)
  (case qEO=>k_is)
  (case F_joined_parts=>exact ⟨_,L2.fun_mk (by k_is) (by k_is) (by k_is)⟩)
  (case qG5=>k_is)
  (case qFM=>k_is)
  (case qG0=>k_is)
  (case qFN=>k_is)
  (case qG2=>k_is)
  (case F_wide_order=>exact ⟨_,L2.fun_mk (by k_is) (by k_is) (by k_is)⟩)
  (case qG1=>k_is)
  (case F_wide_rooms=>exact ⟨_,L2.fun_mk (by k_is) (by k_is) (by k_is)⟩)
  (case qMZ=>k_is)
  (case F_Lbegin=>exact ⟨_,L2.fun_mk (by k_is) (by k_is) (by k_is)⟩)
  (case qQF=>k_is)
  (case F_Ltake=>exact ⟨_,L2.fun_mk (by k_is) (by k_is) (by k_is)⟩)
  (case qQG=>k_is)
  (case F_Lsame=>exact ⟨_,L2.fun_mk (by k_is) (by k_is) (by k_is)⟩)
  (case qH3=>k_is)
  (case F_Ltree_net=>exact ⟨_,L2.fun_mk (by k_is) (by k_is) (by k_is)⟩)
  (case qKK=>k_is)
  (case F_Lneeded=>exact ⟨_,L2.fun_mk (by k_is) (by k_is) (by k_is)⟩)
  (case qMX=>k_is)
  (case F_Lwides=>exact ⟨_,L2.fun_mk (by k_is) (by k_is) (by k_is)⟩)
  (case qMY=>k_is)
  (case F_Ltaken=>exact ⟨_,L2.fun_mk (by k_is) (by k_is) (by k_is)⟩)
  (case qH4=>k_is)
  (case F_Lis_order=>exact ⟨_,L2.fun_mk (by k_is) (by k_is) (by k_is)⟩)
  (case qKJ=>k_is)
  (case F_Lorders=>exact ⟨_,L2.fun_mk (by k_is) (by k_is) (by k_is)⟩)
  (case qDY=>k_is)
  (case F_Lin_stretches=>exact ⟨_,L2.fun_mk (by k_is) (by k_is) (by k_is)⟩)
  (case qER=>k_is)
  (case F_Ldrawn_order=>exact ⟨_,L2.fun_mk (by k_is) (by k_is) (by k_is)⟩)
  (case qFA=>k_is)
  (case F_Ltold_right=>exact ⟨_,L2.fun_mk (by k_is) (by k_is) (by k_is)⟩)
  (case qEP=>k_is)
  (case F_Lsmall_right=>exact ⟨_,L2.fun_mk (by k_is) (by k_is) (by k_is)⟩)
  (case qEQ=>k_is)
  (case F_Lgreat_right=>exact ⟨_,L2.fun_mk (by k_is) (by k_is) (by k_is)⟩)
  (case qZ8=>k_is)
  (case qYS=>k_is)
  (case qZ3=>k_is)
  (case qYU=>k_is)
  (case qCI=>kernel_rfl)
  (case qCA=>kernel_rfl)
  (case qET=>k_is)
  (case qIH=>k_is)
  (case qH6=>k_is)
  (case qGA=>k_is)
  (case qAN=>k_is)
  (case qJC=>k_is)
  (case qAC=>k_is)
  (case qBN=>k_is)
  (case qCC=>k_is)
  (case qCM=>k_is)
  (case qI2=>k_is)
  (case qBE=>k_is)
  (case qAV=>k_is)
  (case qLO=>k_is)
  (case qLN=>k_is)
  (case qB6=>k_is)
  (case qN2=>k_is)

