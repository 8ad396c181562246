import PyProof.Rows.All
import Wide.All
import OpenK.AllK
import Wide.FinOn
import Lean
import PyProof.EqAt
import PyProof.EqKinds
import PyProof.TupleCall
import PySem.Challenge.RW_fewrooms_k53_layouts_shown_there
noncomputable section
set_option compiler.extract_closed false
set_option bootstrap.genMatcherCode false
set_option Elab.async false
set_option linter.all false
set_option maxRecDepth 100000
set_option maxHeartbeats 0
namespace Fw
open PySem
noncomputable def inCl (s:Stmt) (j:Nat):Stmt:=match s with
 | .ClassDef _ _ _ body _ _ _ _ _ _ _=>body.getD j (.Pass ⟨0,0,0,0⟩)
 | _=>.Pass ⟨0,0,0,0⟩
noncomputable def top (i:Nat):Stmt:=PySem.Challenge.pw_fewrooms_k53_layouts_shown_there.main.body.getD i (.Pass ⟨0,0,0,0⟩)
abbrev qCK:Stmt:=top 4
abbrev qD6:Stmt:=top 5
abbrev s_is_pair:Stmt:=top 6
noncomputable abbrev s_has_all:Stmt:=top 8
abbrev s_steps_of:Stmt:=top 10
noncomputable abbrev s_fault_of_do:Stmt:=top 12
abbrev qBZ:Stmt:=top 13
abbrev qBC:Stmt:=top 14
abbrev s_moved_there:Stmt:=top 15
abbrev qBY:Stmt:=top 16
abbrev qBD:Stmt:=top 17
abbrev qC5:Stmt:=top 18
abbrev qCL:Stmt:=top 19
abbrev qBX:Stmt:=top 20
abbrev qBW:Stmt:=top 21
noncomputable abbrev s_Lbegin:Stmt:=top 23
noncomputable abbrev s_Ltake:Stmt:=top 24
abbrev s_Lsame:Stmt:=top 25
noncomputable abbrev s_Lsome_needs:Stmt:=top 26
noncomputable abbrev s_Ltree_net:Stmt:=top 27
noncomputable abbrev s_Lnet:Stmt:=top 28
noncomputable abbrev s_Lasked:Stmt:=top 29
abbrev s_Lthere:Stmt:=top 30
abbrev s_Lfault:Stmt:=top 31
abbrev s_Lput:Stmt:=top 32
abbrev qC6:Stmt:=top 33
abbrev qC0:Stmt:=top 34
abbrev qD7:Stmt:=top 35
abbrev s_Lled:Stmt:=top 36
abbrev s_Lfits:Stmt:=top 37
abbrev s_Ljudged:Stmt:=top 38
abbrev qBK:Stmt:=top 39
abbrev s_Lmixed:Stmt:=top 40
abbrev qCM:Stmt:=top 41
abbrev s_Lclosed:Stmt:=top 42
abbrev qBL:Stmt:=top 43
abbrev s_Lothers:Stmt:=top 44
abbrev qD0:Stmt:=top 45
noncomputable abbrev s_law:Stmt:=top 46
abbrev s_init_Barred:Stmt:=inCl (top 2) 0
end Fw
namespace Fw
open PySem
noncomputable def dA (s:Stmt):Arguments:=match s with
 | .FunctionDef _ a _ _ _ _ _ _ _ _=>a
 | _=>{ posonlyargs:=[],args:=[],vararg:=none,kwonlyargs:=[],kw_defaults:=[],kwarg:=none,defaults:=[] }
noncomputable def dB (s:Stmt):List Stmt:=match s with
 | .FunctionDef _ _ b _ _ _ _ _ _ _=>b
 | _=>[]
noncomputable def dS (s:Stmt):Scope:=match s with
 | .FunctionDef _ _ _ _ _ _ sc _ _ _=>sc
 | _=>{ kind:=.function,names:=[],isGenerator:=false,isCoroutine:=false }
noncomputable abbrev so (s:String):Str:=PySem.Str.ofString s
noncomputable abbrev kh (P:Params) (s:Str):Int:=PySem.PyData.keyHash P s
noncomputable abbrev hde (P:Params) (s:String) (n:Nat) (v:Value):DictEntry:=⟨kh P (so s),.str (so s) n,v⟩
noncomputable abbrev hvs (s:String) (n:Nat):Value:=.str (so s) n
noncomputable abbrev hcut (n:Nat):Value:=hvs "/claim/cut.py" n
noncomputable abbrev hfd (x q:String) (s:Stmt) (a b c d:Value) (e:Option Addr) (f g:Value) (i:Addr):FuncData:=⟨so x,so q,dA s,.stmts (dB s),dS s,3,[],a,b,c,d,e,f,g,i⟩
noncomputable abbrev htp (d:Data) (s:Array (Option Value)):Obj:=⟨.type "tuple",none,d,s⟩
noncomputable abbrev hcd (d:Data) (s:Array (Option Value)):Obj:=⟨.type "code",none,d,s⟩
noncomputable abbrev hfn (d:Data) (s:Array (Option Value)):Obj:=⟨.type "function",none,d,s⟩
noncomputable abbrev ht0:Obj:=htp (.seq #[]) #[]
noncomputable def hvl:List String→Nat→List Value
 | [],_=>[]
 | x::r,n=>hvs x n::hvl r (n+1)
noncomputable abbrev hts (l:List String) (n:Nat):Obj:=htp (.seq (hvl l n).toArray) #[]
noncomputable abbrev hco (x:String) (t:Nat) (ln ac fl:Int) (b:Nat) (md e:Int) (n:Nat):Obj:=hcd (.fields #[hvs x t,hvs x (t+1),hcut (t+2),.int ln 0,.int ac 0,.int 0 0,.int 0 0,.int fl 0,.ref b,.bool .true,.int md 0,.ref (b+1),.none,.ref (b+2),.ref (b+3),.ref (b+4),.int e 0,.int ln 0,hcut n]) #[]
noncomputable abbrev hcp (x:String) (t:Nat) (ln ac:Int) (b:Nat) (md e:Int):Obj:=hcd (.fields #[hvs x t,hvs x (t+1),hcut (t+2),.int ln 0,.int ac 0,.int 0 0,.int 0 0,.int 3 0,.ref b,.bool .true,.int md 0,.ref (b+1),.none,.none,.none,.ref (b+2),.int e 0,.int ln 0,hcut (t+4)]) #[]
noncomputable abbrev hfo (x:String) (s:Stmt) (m:String) (t c:Nat):Obj:=hfn (.func (hfd x x s .none .none .none (hvs m t) .none (.ref c) .none 0)) #[]
noncomputable def hpK:Params→PySem.W.Frag:=fun P=>
 (nat_lit 2,Obj.mk .none .none (.dict #[]) #[]) ::
 (nat_lit 3,Obj.mk (.type "dict") .none (.dict #[hde P "__name__" 165 (hvs "law_fewrooms_k53_layouts_shown_there" 373),hde P "__doc__" 166 .none,hde P "__package__" 167 .none,hde P "__loader__" 168 (.builtin "__main__.__loader__#opaque"),hde P "__spec__" 169 .none,hde P "__annotations__" 170 (.ref 6),hde P "__builtins__" 171 (.ref 4),hde P "__file__" 173 (hcut 172),hde P "__cached__" 174 .none,hde P "RoomError" 206 (.ref 24),hde P "Barred" 233 (.ref 44),hde P "is_number" 242 (.ref 53),hde P "is_below" 250 (.ref 60),hde P "is_pair" 257 (.ref 67),hde P "has_all" 265 (.ref 72),hde P "steps_of" 273 (.ref 77),hde P "fault_of_do" 288 (.ref 84),hde P "fault_there" 299 (.ref 91),hde P "layout_behind" 309 (.ref 98),hde P "moved_there" 321 (.ref 105),hde P "moves_there" 327 (.ref 110),hde P "is_move_there" 336 (.ref 117),hde P "does_there" 342 (.ref 122),hde P "is_layout" 355 (.ref 129),hde P "never_there" 361 (.ref 134),hde P "shows_there" 372 (.ref 141),hde P "_law_begin" 382 (.ref 148),hde P "_law_take" 395 (.ref 155),hde P "_law_same" 401 (.ref 160),hde P "_law_some_needs" 412 (.ref 167),hde P "_law_tree_net" 424 (.ref 174),hde P "_law_net" 430 (.ref 179),hde P "_law_asked" 440 (.ref 186),hde P "_law_there" 446 (.ref 191),hde P "_law_fault" 452 (.ref 196),hde P "_law_put" 462 (.ref 203),hde P "_law_all_moves" 468 (.ref 208),hde P "_law_come_there" 488 (.ref 215),hde P "_law_has_all" 494 (.ref 220),hde P "_law_led" 500 (.ref 225),hde P "_law_fits" 506 (.ref 230),hde P "_law_judged" 512 (.ref 235),hde P "_law_shown_right" 524 (.ref 242),hde P "_law_mixed" 535 (.ref 249),hde P "_law_one_more" 547 (.ref 256),hde P "_law_closed" 553 (.ref 261),hde P "_law_all_fitting" 559 (.ref 266),hde P "_law_others" 565 (.ref 271),hde P "_law_things" 576 (.ref 278),hde P "law" 594 (.ref 285)] 50) #[]) ::
 (nat_lit 15,htp (.seq #[.type "ValueError"]) #[]) ::
 (nat_lit 22,ht0) ::
 (nat_lit 23,Obj.mk (.type "dict") .none (.dict #[hde P "__module__" 196 (hvs "fewrooms.errors" 187),hde P "__firstlineno__" 200 (.int 2 199),hde P "__static_attributes__" 201 (.ref 22),hde P "__weakref__" 203 (.ref 25),hde P "__doc__" 204 .none] 3) #[]) ::
 (nat_lit 24,Obj.mk (.type "type") .none (.cls (ClassData.mk (so "RoomError") [.type "ValueError"] [.ref 24,.type "ValueError",.type "Exception",.type "BaseException",.type "object"] 23 (so "RoomError") .true [] [.ref 44] .false .none .false)) #[Option.some (.ref 15),.none,Option.some (hvs "RoomError" 189),Option.some (hvs "RoomError" 197),Option.some (.builtin "ValueError.__new__"),Option.some (.bool .true)]) ::
 (nat_lit 25,Obj.mk (.type "getset_descriptor") .none (.fields #[hvs "__weakref__" 202,.ref 24,.builtin "ExceptionGroup.__weakref__",.none]) #[]) ::
 (nat_lit 28,htp (.seq #[.ref 24]) #[]) ::
 (nat_lit 35,ht0) ::
 (nat_lit 37,hts ["self","move","word"] 222) ::
 (nat_lit 38,ht0) ::
 (nat_lit 40,hcd (.fields #[hvs "__init__" 219,hvs "Barred.__init__" 220,hcut 221,.int 6 0,.int 3 0,.int 0 0,.int 0 0,.int 3 0,.ref 35,.bool .true,.int 181 0,.ref 36,.none,.ref 37,.ref 38,.ref 39,.int 225 0,.int 6 0,hcut 226]) #[]) ::
 (nat_lit 41,hfn (.func (hfd "__init__" "Barred.__init__" s_init_Barred .none .none .none (hvs "fewrooms.errors" 187) .none (.ref 40) .none 0)) #[]) ::
 (nat_lit 42,hts ["move","word"] 228) ::
 (nat_lit 43,Obj.mk (.type "dict") .none (.dict #[hde P "__module__" 214 (hvs "fewrooms.errors" 187),hde P "__firstlineno__" 218 (.int 4 217),hde P "__init__" 227 (.ref 41),hde P "__static_attributes__" 230 (.ref 42),hde P "__doc__" 231 .none] 2) #[]) ::
 (nat_lit 44,Obj.mk (.type "type") .none (.cls (ClassData.mk (so "Barred") [.ref 24] [.ref 44,.ref 24,.type "ValueError",.type "Exception",.type "BaseException",.type "object"] 43 (so "Barred") .true [] [] .false .none .false)) #[Option.some (.ref 28),.none,Option.some (hvs "Barred" 207),Option.some (hvs "Barred" 215),Option.some (.builtin "ValueError.__new__"),Option.some (.bool .true)]) ::
 (nat_lit 47,ht0) ::
 (nat_lit 49,hts ["thing"] 239) ::
 (nat_lit 50,ht0) ::
 (nat_lit 52,hco "is_number" 236 10 1 3 47 181 240 241) ::
 (nat_lit 53,hfo "is_number" qCK "fewrooms.kinds" 234 52) ::
 (nat_lit 54,ht0) ::
 (nat_lit 56,hts ["thing","end"] 246) ::
 (nat_lit 57,ht0) ::
 (nat_lit 59,hco "is_below" 243 12 2 3 54 181 248 249) ::
 (nat_lit 60,hfo "is_below" qD6 "fewrooms.kinds" 234 59) ::
 (nat_lit 61,ht0) ::
 (nat_lit 63,hts ["thing"] 254) ::
 (nat_lit 64,ht0) ::
 (nat_lit 66,hco "is_pair" 251 14 1 3 61 181 255 256) ::
 (nat_lit 67,hfo "is_pair" s_is_pair "fewrooms.kinds" 234 66) ::
 (nat_lit 68,ht0) ::
 (nat_lit 71,hcp "has_all" 260 17 2 68 181 263) ::
 (nat_lit 72,hfo "has_all" s_has_all "fewrooms.moves" 258 71) ::
 (nat_lit 73,ht0) ::
 (nat_lit 76,hcp "steps_of" 268 20 1 73 181 271) ::
 (nat_lit 77,hfo "steps_of" s_steps_of "fewrooms.plans" 266 76) ::
 (nat_lit 78,ht0) ::
 (nat_lit 80,hts ["net","wides","sizes","layout","move","work","room"] 279) ::
 (nat_lit 81,ht0) ::
 (nat_lit 83,hco "fault_of_do" 276 23 5 3 78 181 286 287) ::
 (nat_lit 84,hfo "fault_of_do" s_fault_of_do "fewrooms.unlike" 274 83) ::
 (nat_lit 85,ht0) ::
 (nat_lit 87,hts ["net","wides","sizes","layout","move"] 292) ::
 (nat_lit 88,ht0) ::
 (nat_lit 90,hco "fault_there" 289 35 5 3 85 181 297 298) ::
 (nat_lit 91,hfo "fault_there" qBZ "fewrooms.unlike" 274 90) ::
 (nat_lit 92,ht0) ::
 (nat_lit 94,hts ["layout","move","room","result"] 303) ::
 (nat_lit 95,ht0) ::
 (nat_lit 97,hco "layout_behind" 300 41 2 3 92 181 307 308) ::
 (nat_lit 98,hfo "layout_behind" qBC "fewrooms.unlike" 274 97) ::
 (nat_lit 99,ht0) ::
 (nat_lit 101,hts ["net","wides","sizes","layout","move","word"] 313) ::
 (nat_lit 102,ht0) ::
 (nat_lit 104,hco "moved_there" 310 45 5 3 99 181 319 320) ::
 (nat_lit 105,hfo "moved_there" s_moved_there "fewrooms.unlike" 274 104) ::
 (nat_lit 106,ht0) ::
 (nat_lit 109,hcp "moves_there" 322 50 4 106 181 325) ::
 (nat_lit 110,hfo "moves_there" qBY "fewrooms.unlike" 274 109) ::
 (nat_lit 111,ht0) ::
 (nat_lit 113,hts ["net","sizes","thing"] 331) ::
 (nat_lit 114,ht0) ::
 (nat_lit 116,hco "is_move_there" 328 55 3 3 111 181 334 335) ::
 (nat_lit 117,hfo "is_move_there" qBD "fewrooms.unlike" 274 116) ::
 (nat_lit 118,ht0) ::
 (nat_lit 121,hcp "does_there" 337 61 5 118 181 340) ::
 (nat_lit 122,hfo "does_there" qC5 "fewrooms.unlike" 274 121) ::
 (nat_lit 123,ht0) ::
 (nat_lit 125,hts ["net","wides","sizes","thing","there","size","result"] 346) ::
 (nat_lit 126,ht0) ::
 (nat_lit 128,hco "is_layout" 343 71 4 3 123 181 353 354) ::
 (nat_lit 129,hfo "is_layout" qCL "fewrooms.unlike" 274 128) ::
 (nat_lit 130,ht0) ::
 (nat_lit 133,hcp "never_there" 356 82 5 130 181 359) ::
 (nat_lit 134,hfo "never_there" qBX "fewrooms.unlike" 274 133) ::
 (nat_lit 135,ht0) ::
 (nat_lit 137,hts ["net","wides","sizes","asked","thing"] 365) ::
 (nat_lit 138,ht0) ::
 (nat_lit 140,hco "shows_there" 362 93 5 3 135 181 370 371) ::
 (nat_lit 141,hfo "shows_there" qBW "fewrooms.unlike" 274 140) ::
 (nat_lit 142,ht0) ::
 (nat_lit 144,hts ["_law_script","_law_cells"] 378) ::
 (nat_lit 145,ht0) ::
 (nat_lit 147,hco "_law_begin" 375 102 1 3 142 181 380 381) ::
 (nat_lit 148,hfo "_law_begin" s_Lbegin "law_fewrooms_k53_layouts_shown_there" 373 147) ::
 (nat_lit 149,ht0) ::
 (nat_lit 151,hts ["_law_state","_law_many","_law_turn","_law_place","_law_cell","_law_digit","_law_mixed_here"] 386) ::
 (nat_lit 152,ht0) ::
 (nat_lit 154,hco "_law_take" 383 107 2 3 149 181 393 394) ::
 (nat_lit 155,hfo "_law_take" s_Ltake "law_fewrooms_k53_layouts_shown_there" 373 154) ::
 (nat_lit 156,ht0) ::
 (nat_lit 159,hcp "_law_same" 396 118 2 156 181 399) ::
 (nat_lit 160,hfo "_law_same" s_Lsame "law_fewrooms_k53_layouts_shown_there" 373 159) ::
 (nat_lit 161,ht0) ::
 (nat_lit 163,hts ["_law_state","_law_k","_law_found","_law_turn","_law_far"] 405) ::
 (nat_lit 164,ht0) ::
 (nat_lit 166,hco "_law_some_needs" 402 130 2 3 161 181 410 411) ::
 (nat_lit 167,hfo "_law_some_needs" s_Lsome_needs "law_fewrooms_k53_layouts_shown_there" 373 166) ::
 (nat_lit 168,ht0) ::
 (nat_lit 170,hts ["_law_state","_law_many","_law_open_ones","_law_found","_law_k","_law_so_many"] 416) ::
 (nat_lit 171,ht0) ::
 (nat_lit 173,hco "_law_tree_net" 413 137 2 3 168 181 422 423) ::
 (nat_lit 174,hfo "_law_tree_net" s_Ltree_net "law_fewrooms_k53_layouts_shown_there" 373 173) ::
 (nat_lit 175,ht0) ::
 (nat_lit 178,hcp "_law_net" 425 145 2 175 181 428) ::
 (nat_lit 179,hfo "_law_net" s_Lnet "law_fewrooms_k53_layouts_shown_there" 373 178) ::
 (nat_lit 180,ht0) ::
 (nat_lit 182,hts ["_law_state","_law_net_here","_law_found","_law_turn"] 434) ::
 (nat_lit 183,ht0) ::
 (nat_lit 185,hco "_law_asked" 431 160 2 3 180 181 438 439) ::
 (nat_lit 186,hfo "_law_asked" s_Lasked "law_fewrooms_k53_layouts_shown_there" 373 185) ::
 (nat_lit 187,ht0) ::
 (nat_lit 190,hcp "_law_there" 441 165 1 187 181 444) ::
 (nat_lit 191,hfo "_law_there" s_Lthere "law_fewrooms_k53_layouts_shown_there" 373 190) ::
 (nat_lit 192,ht0) ::
 (nat_lit 195,hcp "_law_fault" 447 177 5 192 181 450) ::
 (nat_lit 196,hfo "_law_fault" s_Lfault "law_fewrooms_k53_layouts_shown_there" 373 195) ::
 (nat_lit 197,ht0) ::
 (nat_lit 199,hts ["_law_layout","_law_move","_law_room","_law_work"] 456) ::
 (nat_lit 200,ht0) ::
 (nat_lit 202,hco "_law_put" 453 188 2 3 197 181 460 461) ::
 (nat_lit 203,hfo "_law_put" s_Lput "law_fewrooms_k53_layouts_shown_there" 373 202) ::
 (nat_lit 204,ht0) ::
 (nat_lit 207,hcp "_law_all_moves" 463 192 2 204 181 466) ::
 (nat_lit 208,hfo "_law_all_moves" qC6 "law_fewrooms_k53_layouts_shown_there" 373 207) ::
 (nat_lit 209,ht0) ::
 (nat_lit 211,hts ["_law_net_here","_law_wides","_law_sizes","_law_found","_law_moves","_law_here","_law_many","_law_at","_law_room","_law_less","_law_further","_law_layout","_law_move","_law_more"] 472) ::
 (nat_lit 212,ht0) ::
 (nat_lit 214,hco "_law_come_there" 469 197 3 3 209 181 486 487) ::
 (nat_lit 215,hfo "_law_come_there" qC0 "law_fewrooms_k53_layouts_shown_there" 373 214) ::
 (nat_lit 216,ht0) ::
 (nat_lit 219,hcp "_law_has_all" 489 222 2 216 181 492) ::
 (nat_lit 220,hfo "_law_has_all" qD7 "law_fewrooms_k53_layouts_shown_there" 373 219) ::
 (nat_lit 221,ht0) ::
 (nat_lit 224,hcp "_law_led" 495 224 4 221 181 498) ::
 (nat_lit 225,hfo "_law_led" s_Lled "law_fewrooms_k53_layouts_shown_there" 373 224) ::
 (nat_lit 226,ht0) ::
 (nat_lit 229,hcp "_law_fits" 501 234 3 226 181 504) ::
 (nat_lit 230,hfo "_law_fits" s_Lfits "law_fewrooms_k53_layouts_shown_there" 373 229) ::
 (nat_lit 231,ht0) ::
 (nat_lit 234,hcp "_law_judged" 507 239 5 231 181 510) ::
 (nat_lit 235,hfo "_law_judged" s_Ljudged "law_fewrooms_k53_layouts_shown_there" 373 234) ::
 (nat_lit 236,ht0) ::
 (nat_lit 238,hts ["_law_net_here","_law_wides","_law_sizes","_law_asked_here","_law_thing","_law_found"] 516) ::
 (nat_lit 239,ht0) ::
 (nat_lit 241,hco "_law_shown_right" 513 255 5 3 236 181 522 523) ::
 (nat_lit 242,hfo "_law_shown_right" qBK "law_fewrooms_k53_layouts_shown_there" 373 241) ::
 (nat_lit 243,ht0) ::
 (nat_lit 245,hts ["_law_state","_law_some","_law_rest","_law_found","_law_turn"] 528) ::
 (nat_lit 246,ht0) ::
 (nat_lit 248,hco "_law_mixed" 525 258 2 3 243 181 533 534) ::
 (nat_lit 249,hfo "_law_mixed" s_Lmixed "law_fewrooms_k53_layouts_shown_there" 373 248) ::
 (nat_lit 250,ht0) ::
 (nat_lit 252,hts ["_law_state","_law_net_here","_law_sizes","_law_works","_law_layout","_law_room"] 539) ::
 (nat_lit 253,ht0) ::
 (nat_lit 255,hco "_law_one_more" 536 266 3 3 250 181 545 546) ::
 (nat_lit 256,hfo "_law_one_more" qCM "law_fewrooms_k53_layouts_shown_there" 373 255) ::
 (nat_lit 257,ht0) ::
 (nat_lit 260,hcp "_law_closed" 548 273 4 257 181 551) ::
 (nat_lit 261,hfo "_law_closed" s_Lclosed "law_fewrooms_k53_layouts_shown_there" 373 260) ::
 (nat_lit 262,ht0) ::
 (nat_lit 265,hcp "_law_all_fitting" 554 285 2 262 181 557) ::
 (nat_lit 266,hfo "_law_all_fitting" qBL "law_fewrooms_k53_layouts_shown_there" 373 265) ::
 (nat_lit 267,ht0) ::
 (nat_lit 270,hcp "_law_others" 560 295 5 267 181 563) ::
 (nat_lit 271,hfo "_law_others" s_Lothers "law_fewrooms_k53_layouts_shown_there" 373 270) ::
 (nat_lit 272,ht0) ::
 (nat_lit 274,hts ["_law_sizes","_law_some","_law_empty","_law_found","_law_work"] 569) ::
 (nat_lit 275,ht0) ::
 (nat_lit 277,hco "_law_things" 566 318 2 3 272 181 574 575) ::
 (nat_lit 278,hfo "_law_things" qD0 "law_fewrooms_k53_layouts_shown_there" 373 277) ::
 (nat_lit 279,ht0) ::
 (nat_lit 281,hts ["_law_script","_law_state","_law_turn","_law_net_here","_law_wides","_law_sizes","_law_asked_here","_law_come","_law_again","_law_some","_law_held","_law_thing"] 580) ::
 (nat_lit 282,ht0) ::
 (nat_lit 284,hco "law" 577 326 1 3 279 181 592 593) ::
 (nat_lit 285,hfo "law" s_law "law_fewrooms_k53_layouts_shown_there" 373 284) ::
 []
noncomputable def hpA:List Addr:=[2,3,15,22,23,24,25,28,35,37,38,40,41,42,43,44,47,49,50,52,53,54,56,57,59,60,61,63,64,66,67,68,71,72,73,76,77,78,80,81,83,84,85,87,88,90,91,92,94,95,97,98,99,101,102,104,105,106,109,110,111,113,114,116,117,118,121,122,123,125,126,128,129,130,133,134,135,137,138,140,141,142,144,145,147,148,149,151,152,154,155,156,159,160,161,163,164,166,167,168,170,171,173,174,175,178,179,180,182,183,185,186,187,190,191,192,195,196,197,199,200,202,203,204,207,208,209,211,212,214,215,216,219,220,221,224,225,226,229,230,231,234,235,236,238,239,241,242,243,245,246,248,249,250,252,253,255,256,257,260,261,262,265,266,267,270,271,272,274,275,277,278,279,281,282,284,285]
noncomputable def hpQ:Program:=PySem.W.view PySem.Challenge.pw_fewrooms_k53_layouts_shown_there [1,2,4,5,6,8,10,12,13,14,15,16,17,18,19,20,21,23,24,25,26,27,28,29,30,31,32,33,34,35,36,37,38,39,40,41,42,43,44,45,46]
def hpN:Nat:=3450
theorem hpE (P:Params):hpA=(hpK P).map (·.1):=by kernel_rfl
noncomputable def hpX (s:Shared):Bool:=PySem.W.xlAt hpQ [] s && PySem.W.recOk (PySem.W.RowW.records (PySem.W.OpenRow.toRowW (PySem.W.OpenLaw.row PySem.Challenge.rw_fewrooms_k53_layouts_shown_there))) s
theorem hpLeft:PySem.W.LeftO PySem.Challenge.pw_fewrooms_k53_layouts_shown_there hpQ [] hpX (PySem.W.kHook hpK hpA hpE).obs (PySem.W.kHook hpK hpA hpE).val hpN:=fun w=>by kernel_rfl
theorem hpSaid:PySem.W.OpenLaw.wellSaid PySem.Challenge.rw_fewrooms_k53_layouts_shown_there=true:=by kernel_rfl
end Fw
namespace L2
open PySem PySem.Spec PyProof.Rows
abbrev Key:=Sum Int Str
noncomputable def keyIs:Key→Value→Bool
 | .inl k,v=>Value.isInt k v
 | .inr x,v=>Value.isStrOf x v
noncomputable def keyH (w:World):Key→Int
 | .inl k=>hashInt k
 | .inr x=>hashStr w x
theorem qAM:∀ {k:Key} {v:Value},keyIs k v=true→(∃ i t,k=Sum.inl i∧v=Value.int i t)∨(∃ x t,k=Sum.inr x∧v=Value.str x t)
 | .inl i,v,h=>by
  obtain ⟨t,e⟩:=Value.isInt_shape (k:=i) (v:=v) h
  exact .inl ⟨i,t,rfl,e⟩
 | .inr x,v,h=>by
  obtain ⟨t,e⟩:=Value.isStrOf_shape (x:=x) (v:=v) h
  exact .inr ⟨x,t,rfl,e⟩
theorem keyIs_int (i:Int) (t:Tok):keyIs (.inl i) (.int i t)=true:=by simp [keyIs,Value.isInt]
theorem keyIs_str (x:Str) (t:Tok):keyIs (.inr x) (.str x t)=true:=by simp [keyIs,Value.isStrOf]
theorem key_ll (a b:Int):decide ((Sum.inl a:Key)=Sum.inl b)=(a == b):=by
 by_cases e:a=b
 ·subst e;simp
 ·have h:¬ (Sum.inl a:Key)=Sum.inl b:=fun q=>e (Sum.inl.inj q)
  rw [decide_eq_false h]
  exact (beq_eq_false_iff_ne.mpr e).symm
theorem key_rr (a b:Str):decide ((Sum.inr a:Key)=Sum.inr b)=decide (a=b):=by
 by_cases e:a=b
 ·subst e;simp
 ·have h:¬ (Sum.inr a:Key)=Sum.inr b:=fun q=>e (Sum.inr.inj q)
  rw [decide_eq_false h,decide_eq_false e]
theorem key_lr (a:Int) (b:Str):decide ((Sum.inl a:Key)=Sum.inr b)=false:=decide_eq_false (fun q=>nomatch q)
theorem key_rl (a:Str) (b:Int):decide ((Sum.inr a:Key)=Sum.inl b)=false:=decide_eq_false (fun q=>nomatch q)
noncomputable def mixKind (prog:Program) (w:World):PySem.KeyKind prog w Key where
 is:=keyIs
 hash:=keyH w
 inj:=fun v a b ha hb=>by
  rcases qAM ha with ⟨i,t,rfl,rfl⟩ | ⟨x,t,rfl,rfl⟩
  ·rcases qAM hb with ⟨j,u,rfl,e⟩ | ⟨y,u,rfl,e⟩
   ·injection e with e1 _;rw [e1]
   ·exact nomatch e
  ·rcases qAM hb with ⟨j,u,rfl,e⟩ | ⟨y,u,rfl,e⟩
   ·exact nomatch e
   ·injection e with e1 _;rw [e1]
 byValue:=fun k v h=>by
  rcases qAM h with ⟨i,t,rfl,rfl⟩ | ⟨x,t,rfl,rfl⟩ <;> rfl
 pyHash:=fun hv h=>by
  rcases qAM hv with ⟨i,t,rfl,rfl⟩ | ⟨x,t,rfl,rfl⟩
  ·exact wpAny_pyHash_int h
  ·exact wpAny_pyHash_str h
 eqBool:=fun hu hv h=>by
  rcases qAM hu with ⟨i,t,rfl,rfl⟩ | ⟨x,t,rfl,rfl⟩
  ·rcases qAM hv with ⟨j,u,rfl,rfl⟩ | ⟨y,u,rfl,rfl⟩
   ·rw [key_ll] at h;exact wpAny_eqBool_int h
   ·rw [key_lr] at h;exact SeqAt.EqAt.int_str i t y u _ _ _ _ h
  ·rcases qAM hv with ⟨j,u,rfl,rfl⟩ | ⟨y,u,rfl,rfl⟩
   ·rw [key_rl] at h;exact SeqAt.EqAt.str_int x t j u _ _ _ _ h
   ·rw [key_rr] at h;exact wpAny_eqBool_str h
 «strs»:=fun k x t v h=>by
  rcases qAM h with ⟨i,u,rfl,e⟩ | ⟨y,u,rfl,e⟩
  ·exact nomatch e
  ·injection e with e1 _
   subst e1
   cases v <;> rfl
theorem mixKind_int (prog:Program) (w:World) (i:Int) (t:Tok):(mixKind prog w).is (.inl i) (.int i t)=true:=keyIs_int i t
theorem mixKind_str (prog:Program) (w:World) (x:Str) (t:Tok):(mixKind prog w).is (.inr x) (.str x t)=true:=keyIs_str x t
abbrev KI:=Option Key
def kiIs:KI→Value→Bool
 | some k,v=>keyIs k v
 | none,.none=>true
 | none,_=>false
def kiH (w:World):KI→Int
 | some k=>keyH w k
 | none=>0xFCA86420
theorem qC2:∀ {k:KI} {v:Value},kiIs k v=true→(∃ i,k=some i∧keyIs i v=true)∨(k=none∧v=.none)
 | some i,v,h=>.inl ⟨i,rfl,h⟩
 | none,v,h=>by
  cases v with
  | none=>exact .inr ⟨rfl,rfl⟩
  | _=>exact nomatch h
theorem ki_inj {a b:KI} {v:Value} (ha:kiIs a v=true) (hb:kiIs b v=true):a=b:=by
 rcases qC2 ha with ⟨i,rfl,x⟩ | ⟨rfl,rfl⟩ <;> rcases qC2 hb with ⟨j,rfl,y⟩ | ⟨rfl,e⟩
 ·rcases qAM x with ⟨k,t,rfl,rfl⟩ | ⟨k,t,rfl,rfl⟩ <;> rcases qAM y with ⟨m,u,rfl,e⟩ | ⟨m,u,rfl,e⟩ <;> first | (injection e with e _;rw [e]) | exact nomatch e
 ·subst e
  rcases qAM x with ⟨_,_,_,z⟩ | ⟨_,_,_,z⟩ <;> exact nomatch z
 ·rcases qAM y with ⟨_,_,_,z⟩ | ⟨_,_,_,z⟩ <;> exact nomatch z
 ·rfl
section
variable {prog:Program} {w:World} {A:Around} {E:Value→Shared→Prop} {s:Shared}
theorem ki_hash {k:KI} {v:Value} {Q:Int→Shared→Prop} (hu:A.units<cLine) (h:kiIs k v=true) (q:Q (kiH w k) { s with toks:=s.toks+1 }):wpAny (model prog w) A (pyHash v) Q E s:=by
 rcases qC2 h with ⟨i,rfl,x⟩ | ⟨rfl,rfl⟩
 ·exact (mixKind prog w).pyHash x q
 ·exact W.pyHash_slot (T:="NoneType") rfl F.slot_NoneType_hash F.entry_NoneType_hash (F.args_NoneType_hash_1 _) (beq_builtin_none _) (.inr hu) (wpAny_bind (wpAny_pure (wpAny_bind (wpAny_mkInt (wpAny_pure ⟨_,_,rfl,q⟩)))))
theorem ki_eq {a b:KI} {u v:Value} {Q:Bool→Shared→Prop} (ha:kiIs a u=true) (hb:kiIs b v=true) (q:Q (decide (a=b)) s):wpAny (model prog w) A (PySem.eqBool u v) Q E s:=by
 have ne:∀ {c:Bool},c=decide (a=b)→SeqAt.EqAt A s u v c→wpAny (model prog w) A (PySem.eqBool u v) Q E s:=fun e z=>z _ _ _ _ (e ▸ q)
 rcases qC2 ha with ⟨i,rfl,x⟩ | ⟨rfl,rfl⟩ <;> rcases qC2 hb with ⟨j,rfl,y⟩ | ⟨rfl,rfl⟩
 ·refine (mixKind prog w).eqBool x y ?_
  have e:decide (i=j)=decide ((some i:KI)=some j):=decide_eq_decide.mpr ⟨congrArg some,fun z=>Option.some.inj z⟩
  rw [e];exact q
 ·rcases qAM x with ⟨k,t,rfl,rfl⟩ | ⟨k,t,rfl,rfl⟩
  ·exact ne rfl (SeqAt.EqAt.int_none k t)
  ·exact ne rfl (SeqAt.EqAt.str_none k t)
 ·rcases qAM y with ⟨k,t,rfl,rfl⟩ | ⟨k,t,rfl,rfl⟩
  ·exact ne rfl (SeqAt.EqAt.none_int k t)
  ·exact ne rfl (SeqAt.EqAt.none_str k t)
 ·exact ne rfl (SeqAt.EqAt.same _)
def IsNK (h:Heap) (ks:List KI) (a:Addr):Prop:=∃ o items n,h.get? a=some o∧o.cls=.type "tuple"∧o.data=.seq items n∧Paired (fun k v=>kiIs k v=true) ks items.toList
theorem kis_inj:∀ {x y:List KI} {vs:List Value},Paired (fun k v=>kiIs k v=true) x vs→Paired (fun k v=>kiIs k v=true) y vs→x=y
 | [],_,_,.nil,h=>by cases h;rfl
 | _::_,_,_,.cons a r,h=>by
  cases h with
  | cons b t=>rw [ki_inj a b,kis_inj r t]
theorem kis_val:∀ {x:List KI} {vs:List Value},Paired (fun k v=>kiIs k v=true) x vs→∀ v ∈ vs,carriedByValue v=true
 | _,_,.nil,v,hv=>by simp at hv
 | _,_,.cons a r,v,hv=>by
  rcases List.mem_cons.mp hv with e | hv
  ·subst e
   rcases qC2 a with ⟨i,_,x⟩ | ⟨_,e⟩
   ·rcases qAM x with ⟨_,_,_,rfl⟩ | ⟨_,_,_,rfl⟩ <;> rfl
   ·rw [e];rfl
  ·exact kis_val r v hv
theorem IsNK.typeIs {ks:List KI} {a:Addr} (x:IsNK s.heap ks a):s.TypeIs (.ref a) "tuple":=let ⟨o,_,_,ho,hc,_⟩:=x;⟨o,ho,hc⟩
theorem IsNK.inj {h:Heap} {a:Addr} {x y:List KI} (hx:IsNK h x a) (hy:IsNK h y a):x=y:=by
 obtain ⟨o,items,n,ho,_,hd,hi⟩:=hx
 obtain ⟨o',items',n',ho',_,hd',hi'⟩:=hy
 obtain rfl:o=o':=Option.some.inj (ho.symm.trans ho')
 rw [hd] at hd'
 injection hd' with h1 _
 subst h1
 exact kis_inj hi hi'
def nkHash (w:World) (ks:List KI):Int:=reduceHash (Builtin.Tuple.tupleHashOf (ks.map (kiH w)))
theorem nk_hash {ks:List KI} {a:Addr} {Q:Int→Shared→Prop} (hu:A.units+1<cLine) (hk:IsNK s.heap ks a) (h:Q (nkHash w ks) { s with toks:=s.toks+(ks.length+1) }):wpAny (model prog w) A (pyHash (.ref a)) Q E s:=by
 have hT:=hk.typeIs
 obtain ⟨o,items,n,ho,_,hd,hi⟩:=hk
 refine W.pyHash_slot (T:="tuple") hT F.slot_tuple_hash F.entry_tuple_hash (F.args_tuple_hash_1 _) (beq_builtin_none _) (.inr (Nat.lt_of_succ_lt hu)) ?_
 show wpAny _ _ (Builtin.Tuple.tupleItemsOf (.ref a) >>= _) _ _ s
 refine wpAny_bind (wpAny_tupleItemsOf ho hd ?_)
 refine wpAny_bind ?_
 rw [← Array.forIn_toList]
 refine wpAny_forIn_list _
  (fun rest (b:Array Int) s'=>∃ done left,ks=done++left∧Paired (fun k v=>kiIs k v=true) left rest∧b.toList=done.map (kiH w)∧s'={ s with toks:=s.toks+done.length })
  _ ?_ ?_ _ _ ⟨[],ks,rfl,hi,rfl,rfl⟩
 ·rintro x rest b s' ⟨done,left,rfl,hl,hb,rfl⟩
  cases hl with
  | @cons k _ ks' _ h1 hl'=>
   refine wpAny_bind (ki_hash hu h1 ?_)
   first
    | exact wpAny_pure ⟨done++[k],ks',by simp,hl',by simp [hb],by simp [Nat.add_assoc]⟩
    | exact wpAny_bind (wpAny_pure (wpAny_pure ⟨done++[k],ks',by simp,hl',by simp [hb],by simp [Nat.add_assoc]⟩))
 ·rintro b s' ⟨done,left,rfl,hl,hb,rfl⟩
  cases hl
  rw [List.append_nil] at h
  show wpAny _ _ (retInt (Builtin.Tuple.tupleHashOf b.toList)) _ _ _
  rw [hb]
  exact wpAny_bind (wpAny_mkInt (wpAny_pure ⟨_,_,rfl,by simpa [nkHash,Nat.add_assoc] using h⟩))
theorem nk_tree {x y:List KI} {a b:Addr} {P:Fin→Shared→Prop} (hx:IsNK s.heap x a) (hy:IsNK s.heap y b) (h:P (.done (.ret (.bool (decide (x=y))))) s) :
  wpAny (model prog w) A (Builtin.«tuple.__eq__» ⟨[.ref a,.ref b],[]⟩) P E s:=by
 have hTb:=hy.typeIs
 obtain ⟨oa,xs,na,hoa,_,hda,hia⟩:=hx
 obtain ⟨ob,ys,nb,hob,_,hdb,hib⟩:=hy
 show wpAny _ _ (isInstance (.ref b) (.type "tuple") >>= _) _ _ s
 refine wpAny_bind (wpAny_isInstance hTb isSubtype_tuple_tuple ?_)
 simp only [Bool.not_true,Bool.false_eq_true,if_false]
 refine wpAny_bind (wpAny_tupleItemsOf hoa hda ?_)
 refine wpAny_bind (wpAny_tupleItemsOf hob hdb ?_)
 refine wpAny_bind ?_
 refine wpAny_forIn_list _
  (fun rest r s'=>r.1=none∧s'=s∧∃ x' y' xs' ys',rest=List.zip xs' ys'∧Paired (fun k v=>kiIs k v=true) x' xs'∧Paired (fun k v=>kiIs k v=true) y' ys'∧decide (x'=y')=decide (x=y)∧(xs'.length == ys'.length)=(xs.size == ys.size))
  _ ?_ ?_ _ _ ⟨rfl,rfl,x,y,xs.toList,ys.toList,rfl,hia,hib,rfl,by simp⟩
 ·rintro ⟨u,v⟩ rest r s' ⟨hr,rfl,x',y',xs',ys',hz,hx',hy',hdec,hlen⟩
  cases hx' with
  | nil=>simp at hz
  | @cons k1 u' x'' xs'' h1 hx''=>
   cases hy' with
   | nil=>simp at hz
   | @cons k2 v' y'' ys'' h2 hy''=>
    simp only [List.zip_cons_cons,List.cons.injEq,Prod.mk.injEq] at hz
    obtain ⟨⟨rfl,rfl⟩,rfl⟩:=hz
    refine wpAny_bind (ki_eq (a:=k1) (b:=k2) h1 h2 ?_)
    by_cases hk:k1=k2
    ·subst hk
     rw [decide_eq_true rfl]
     simp only [Bool.not_true,Bool.false_eq_true,if_false]
     refine wpAny_pure ⟨rfl,rfl,x'',y'',xs'',ys'',rfl,hx'',hy'',?_,by simpa using hlen⟩
     rw [← hdec]
     by_cases hxy:x''=y''
     ·simp [hxy]
     ·simp [hxy]
    ·rw [decide_eq_false hk]
     simp only [Bool.not_false,if_true]
     have hf:decide (x=y)=false:=by rw [← hdec];simp [hk]
     rw [hf] at h
     exact wpAny_bind (wpAny_pure (wpAny_pure (wpAny_pure h)))
 ·rintro ⟨r1,r2⟩ s' ⟨hr,rfl,x',y',xs',ys',hz,hx',hy',hdec,hlen⟩
  simp only at hr
  subst hr
  refine wpAny_pure ?_
  have hfin:(xs.size == ys.size)=decide (x=y):=by
   rw [← hdec,← hlen]
   cases hx' with
   | nil=>
    cases hy' with
    | nil=>simp
    | cons _ _=>simp
   | cons _ _=>
    cases hy' with
    | nil=>simp
    | cons _ _=>simp at hz
  show P (.done (.ret (.bool (xs.size == ys.size)))) s'
  rw [hfin];exact h
theorem nk_eq {x y:List KI} {a b:Addr} {Q:Bool→Shared→Prop} (hu:A.units<cLine) (hx:IsNK s.heap x a) (hy:IsNK s.heap y b) (h:Q (decide (x=y)) s):wpAny (model prog w) A (eqBool (.ref a) (.ref b)) Q E s:=by
 unfold eqBool
 try with_reducible refine wpAny_holding ?_
 show wpAny _ _ (if (Value.ref a == Value.ref b)=true then _ else _) Q E s
 by_cases hab:(Value.ref a == Value.ref b)=true
 ·rw [if_pos hab]
  have e:a=b:=by have:=eq_of_beq hab;injection this
  subst e
  obtain rfl:=hx.inj hy
  exact wpAny_bind (wpAny_rule (wpAny_pure (by simpa using h)))
 ·rw [if_neg hab]
  exact wpAny_bind (wpAny_richCompare_same_room (op:=.Eq) hx.typeIs hy.typeIs F.slot_tuple_eq
   (wpAny_call_entry F.slot_tuple_eq hx.typeIs F.entry_tuple_eq (nk_tree hx hy ⟨_,rfl,(fun e=>nomatch e),wpAny_truthy_bool h⟩) (F.args_tuple_eq_2 _ _)) hu)
theorem nk_quiet {ks:List KI} {a:Addr} {Q:Bool→Shared→Prop} (hk:IsNK s.heap ks a) (h:Q true s):wpAny (model prog w) A (eqIsQuiet 8 (.ref a)) Q E s:=by
 have hT:=hk.typeIs
 obtain ⟨o,items,n,ho,_,hd,hi⟩:=hk
 unfold eqIsQuiet
 refine wpAny_bind (wpAny_specialOf hT F.slot_tuple_eq.lookup ?_)
 show wpAny _ _ (isInstance (.ref a) (.type "tuple") >>= _) _ _ s
 refine wpAny_bind (wpAny_isInstance hT isSubtype_tuple_tuple ?_)
 simp only [Bool.not_true,Bool.false_eq_true,if_false]
 refine wpAny_bind (wpAny_seqItems ho hd ?_)
 refine wpAny_bind ?_
 show wpAny _ _ (forIn items _ _) _ _ s
 rw [← Array.forIn_toList]
 refine wpAny_forIn_list _ (fun rest r s'=>r.1=none∧s'=s∧∀ v ∈ rest,carriedByValue v=true) _ ?_ ?_ _ _ ⟨rfl,rfl,kis_val hi⟩
 ·rintro v rest r s' ⟨hr,rfl,hall⟩
  rw [eqIsQuiet_byValue _ (hall v List.mem_cons_self)]
  refine wpAny_bind (wpAny_pure ?_)
  simp only [Bool.not_true,Bool.false_eq_true,if_false]
  exact wpAny_pure ⟨rfl,rfl,fun u hu'=>hall u (List.mem_cons_of_mem _ hu')⟩
 ·rintro ⟨r1,r2⟩ s' ⟨hr,rfl,_⟩
  simp only at hr
  subst hr
  exact wpAny_pure h
end
def nKind (prog:Program) (w:World):HeapKind prog w (List KI) where
 is:=IsNK
 hash:=nkHash w
 draws:=fun ks=>ks.length+1
 room:=fun A=>A.units+1<cLine
 inj:=fun hx hy=>hx.inj hy
 keeps:=fun x ho hd hs=>by
  obtain ⟨o',items,n,ho',hc,hd',hi⟩:=x
  refine ⟨o',items,n,(hs.2 _ ?_).trans ho',hc,hd',hi⟩
  rintro rfl
  obtain rfl:=Option.some.inj (ho'.symm.trans ho)
  rw [hd] at hd';exact nomatch hd'
 pyHash:=fun hu hk h=>nk_hash hu hk h
 eqBool:=fun hu hx hy h=>nk_eq (Nat.lt_of_succ_lt hu) hx hy h
 quiet:=fun hk h=>nk_quiet hk h
end L2
namespace L2
open PySem PySem.Spec PyProof.Rows
inductive V where
 | non | bl (b:Bool) | int (i:Int) | str (x:Str) | byt (b:Array UInt8) | flt (b:UInt64) | ref (a:Addr) | ty (n:String)
 deriving DecidableEq
def RelV:V→Value→Prop
 | .non,u=>u=Value.none
 | .bl b,u=>u=Value.bool b
 | .int i,u=>∃ t,u=Value.int i t
 | .str x,u=>∃ t,u=Value.str x t
 | .byt b,u=>∃ t,u=Value.bytes b t
 | .flt b,u=>∃ t,u=Value.float b t
 | .ref a,u=>u=Value.ref a
 | .ty n,u=>u=Value.type n
abbrev Vals:List V→List Value→Prop:=Paired RelV
theorem Vals.length {xs:List V} {us:List Value} (r:Vals xs us):xs.length=us.length:=Paired.length r
theorem Vals.get:∀ {xs:List V} {us:List Value} {i:Nat} {x:V},Vals xs us→xs[i]?=some x→∃ u,us[i]?=some u∧RelV x u
 | _,_,_,_,.nil,e=>by simp at e
 | _,_,0,_,.cons r _,e=>by simp at e;subst e;exact ⟨_,rfl,r⟩
 | _,_,i+1,x,.cons _ t,e=>by
  obtain ⟨u,h1,h2⟩:=Vals.get (i:=i) (x:=x) t (by simpa using e)
  exact ⟨u,by simpa using h1,h2⟩
theorem Vals.set {x:V} {u:Value} (r:RelV x u):∀ {xs:List V} {us:List Value} (i:Nat),Vals xs us→Vals (xs.set i x) (us.set i u)
 | _,_,_,.nil=>.nil
 | _,_,0,.cons _ t=>.cons r t
 | _,_,i+1,.cons q t=>.cons q (Vals.set r i t)
theorem Vals.append:∀ {xs ys:List V} {us ws:List Value},Vals xs us→Vals ys ws→Vals (xs++ys) (us++ws)
 | _,_,_,_,.nil,s=>s
 | _,_,_,_,.cons r t,s=>.cons r (Vals.append t s)
theorem Vals.take:∀ {xs:List V} {us:List Value} (n:Nat),Vals xs us→Vals (xs.take n) (us.take n)
 | _,_,0,_=>.nil
 | _,_,_+1,.nil=>.nil
 | _,_,n+1,.cons r t=>.cons r (Vals.take n t)
theorem Vals.drop:∀ {xs:List V} {us:List Value} (n:Nat),Vals xs us→Vals (xs.drop n) (us.drop n)
 | _,_,0,r=>r
 | _,_,_+1,.nil=>.nil
 | _,_,n+1,.cons _ t=>Vals.drop n t
def RelO:Option V→Option Value→Prop
 | some v,some u=>RelV v u
 | none,none=>True
 | _,_=>False
def KV {κ:Type}:List (κ × V)→List (κ × Value)→Prop:=Paired fun (p:κ × V) (q:κ × Value)=>p.1=q.1∧RelV p.2 q.2
inductive CTb where
 | tab (q:Str)
 | cod (q:Str)
noncomputable def kV:Key→V
 | .inl i=>.int i
 | .inr x=>.str x
def kI:KI→V
 | some k=>kV k
 | none=>.non
theorem nk_room {prog:Program} {w:World} {A:Around} (hu:A.units+2<cLine):(nKind prog w).room A.in1:=by
 show A.in1.units+1<cLine
 rw [Around.in1_units];exact hu
inductive HO where
 /-- a list -/
 | lst (xs:List V)
 /-- a tuple (never changes) -/
 | tup (xs:List V)
 /-- a dict whose keys are ints and texts;one whose keys are tuples of ints and texts (the empty one is both) -/
 | dK (kvs:List (Key × V)) | dT (kvs:List (List KI × V))
 /-- a set of ints: its members,its size -/
 | set (S:Int→Bool) (n:Nat)
 /-- an instance of the class at C,its dict at dx,its attributes -/
 | ins (C dx:Addr) (fs:List (Str × V))
 /-- the dict of the instance at x -/
 | own (x:Addr)
 /-- the dict of an exception -/
 | xd (fs:List (Str × V))
 /-- a bound method,f of x -/
 | met (f x:Addr)
 /-- a range object lo,lo+1,.. below hi -/
 | rng (lo hi:Int)
 /-- a thing that is known to the object (the script;a dict while a loop walks it): read,never written while it is so -/
 | frz (o:Obj) (u:HO)
 /-- a code object's table -/
 | tbl (t:CTb)
 /-- any other thing,by what is true of its one object (a def of one's own: SetO a S n:=HO.ext fun h=>..) -/
 | ext (φ:Heap→Prop)
abbrev Hp:=Addr→Option HO
noncomputable def upd (H:Hp) (a:Addr) (o:HO):Hp:=fun b=>if b=a then some o else H b
theorem qA1 {H:Hp} {a:Addr} {o:HO}:upd H a o a=some o:=by unfold upd;rw [if_pos rfl]
theorem qA9 {H:Hp} {a b:Addr} {o:HO} (h:b ≠ a):upd H a o b=H b:=by unfold upd;rw [if_neg h]
theorem upd_upd {H:Hp} {a:Addr} {o u:HO}:upd (upd H a o) a u=upd H a u:=by
 funext b;unfold upd;split <;> rfl
theorem ne_of {H:Hp} {a b:Addr} {o u:HO} (h:H a=some o) (h':H b=some u) (d:o ≠ u):a ≠ b:=by
 intro e;subst e;rw [h] at h';exact d (Option.some.inj h')
theorem qA6 {H:Hp} {a b:Addr} {o:HO} (h:H a=some o) (h':H b=none):a ≠ b:=by
 intro e;subst e;rw [h] at h';cases h'
section
variable (P:Program) (w:World)
def ObjOk (H:Hp) (h:Heap) (a:Addr):HO→Prop
 | .lst xs=>xs.length≤sizeLine∧∃ (its:List Value) (n:Nat),Vals xs its∧h.get? a=some { cls:=.type "list",data:=.seq its.toArray n }
 | .tup xs=>xs.length≤sizeLine∧∃ its:List Value,Vals xs its∧IsTup h a its.toArray
 | .dK kvs=>kvs.length≤sizeLine∧(a == sysModules)=false∧∃ vs,KV kvs vs∧h.DictOf (mixKind P w) a vs
 | .dT kvs=>kvs.length≤sizeLine∧(a == sysModules)=false∧∃ xs:List (List KI × Addr × Value),
   Paired (fun (p:List KI × V) (q:List KI × Addr × Value)=>p.1=q.1∧H q.2.1=some (.tup (p.1.map kI))∧RelV p.2 q.2.2) kvs xs∧
   ∃ o es ep,h.get? a=some o∧o.ExactDict∧o.data=.dict es ep∧es.toList=xs.map (entryOfKey (nKind P w))∧(xs.map (·.1)).Nodup
 | .set S n=>h.SetOf (intKind P w) a S n
 | .ins C dx fs=>H dx=some (.own a)∧fs.length≤1000∧dx ≠ a∧h.get? a=some (PySem.W.instObj C dx)∧
   ∃ mA,h.Ns1 dx mA∧(∀ f,RelO (fs.lookup f) (mA f))∧PySem.Within mA (fs.map (·.1))
 | .own _=>∃ o,h.get? a=some o
 | .xd fs=>∃ mA,h.Ns1 a mA∧∀ f,RelO (fs.lookup f) (mA f)
 | .rng lo hi=>∃ t u v,h.get? a=some { cls:=.type "range",data:=.fields #[.int lo t,.int hi u,.int 1 v] }
 | .frz o u=>h.get? a=some o∧ObjOk H h a u
 | .tbl (.tab q)=>∃ more:Array Value,h.get? a=some { cls:=.none,data:=.fields more }∧TriplesOk more.toList∧∀ pos cv,codeAmong pos more.toList=some cv→∃ c,cv=.ref c∧H c=some (.tbl (.cod q))
 | .tbl (.cod q)=>h.CodeRec (.ref a) q
 | .met f x=>h.get? a=some (PySem.W.methodObj (.ref f) (.ref x))
 | .ext φ=>φ h∧(∃ o,h.get? a=some o)∧∀ h1 h2:Heap,φ h1→(∀ o,h1.get? a=some o→h2.get? a=some o)→φ h2
def HOk (H:Hp) (h:Heap):Prop:=∀ a o,H a=some o→ObjOk P w H h a o
end
section
variable {P:Program} {w:World} {H H':Hp} {h h':Heap} {a:Addr} {o:HO}
theorem ObjOk.lt (x:ObjOk P w H h a o):a<h.objs.size:=by
 cases o with
 | lst xs=>obtain ⟨_,_,_,_,e⟩:=x;exact Heap.lt_size e
 | tup xs=>obtain ⟨_,_,_,p⟩:=x;exact p.lt
 | dK kvs=>obtain ⟨_,_,_,_,o,_,_,e,_⟩:=x;exact Heap.lt_size e
 | dT kvs=>obtain ⟨_,_,_,_,o,_,_,e,_⟩:=x;exact Heap.lt_size e
 | set S n=>obtain ⟨o,_,_,_,e,_⟩:=x;exact Heap.lt_size e
 | ins C dx fs=>obtain ⟨_,_,_,e,_⟩:=x;exact Heap.lt_size e
 | own y=>obtain ⟨_,e⟩:=x;exact Heap.lt_size e
 | xd fs=>obtain ⟨_,⟨_,_,_,e,_⟩,_⟩:=x;exact Heap.lt_size e
 | rng lo hi=>obtain ⟨_,_,_,e⟩:=x;exact Heap.lt_size e
 | frz ob u=>obtain ⟨e,_⟩:=x;exact Heap.lt_size e
 | tbl t=>
  cases t with
  | tab q=>obtain ⟨_,e,_⟩:=x;exact Heap.lt_size e
  | cod q=>obtain ⟨c,o,_,_,e,g,_⟩:=x;cases e;exact Heap.lt_size g
 | met f y=>exact Heap.lt_size (show h.get? a=some _ from x)
 | ext φ=>obtain ⟨_,⟨_,e⟩,_⟩:=x;exact Heap.lt_size e
theorem Paired.mapP {α β:Type} {F G:α→β→Prop}:∀ {l₁:List α} {l₂:List β},Paired F l₁ l₂→(∀ a b,F a b→G a b)→Paired G l₁ l₂
 | _,_,.nil,_=>.nil
 | _,_,.cons r t,f=>.cons (f _ _ r) (Paired.mapP t f)
theorem ObjOk.stay (x:ObjOk P w H h a o) (k:∀ b u,(b=a∨H b=some (.own a))→h.get? b=some u→h'.get? b=some u)
  (ho:∀ b,H b=some (.own a)→H' b=some (.own a)) (ht:∀ b xs,H b=some (.tup xs)→H' b=some (.tup xs)) (hb:∀ b t,H b=some (.tbl t)→H' b=some (.tbl t):=by exact fun _ _ q=>q):ObjOk P w H' h' a o:=by
 induction o with
 | lst xs=>obtain ⟨z,its,n,r,e⟩:=x;exact ⟨z,its,n,r,k _ _ (.inl rfl) e⟩
 | tup xs=>obtain ⟨z,its,r,ob,e,c⟩:=x;exact ⟨z,its,r,ob,k _ _ (.inl rfl) e,c⟩
 | dK kvs=>obtain ⟨z,y,vs,r,ob,es,ep,e,c⟩:=x;exact ⟨z,y,vs,r,ob,es,ep,k _ _ (.inl rfl) e,c⟩
 | dT kvs=>
  obtain ⟨z,y,xs,r,ob,es,ep,e,c⟩:=x
  exact ⟨z,y,xs,Paired.mapP r fun p q z=>⟨z.1,ht _ _ z.2.1,z.2.2⟩,ob,es,ep,k _ _ (.inl rfl) e,c⟩
 | set S n=>obtain ⟨ob,es,ep,t,e,c⟩:=x;exact ⟨ob,es,ep,t,k _ _ (.inl rfl) e,c⟩
 | ins C dx fs=>
  obtain ⟨d,z,ne,e,mA,⟨od,es,ep,e2,c⟩,r⟩:=x
  exact ⟨ho _ d,z,ne,k _ _ (.inl rfl) e,mA,⟨od,es,ep,k _ _ (.inr d) e2,c⟩,r⟩
 | own y=>obtain ⟨ob,e⟩:=x;exact ⟨ob,k _ _ (.inl rfl) e⟩
 | xd fs=>obtain ⟨mA,⟨od,es,ep,e,c⟩,r⟩:=x;exact ⟨mA,⟨od,es,ep,k _ _ (.inl rfl) e,c⟩,r⟩
 | rng lo hi=>obtain ⟨t,u,v,e⟩:=x;exact ⟨t,u,v,k _ _ (.inl rfl) e⟩
 | frz ob u ih=>obtain ⟨e,q⟩:=x;exact ⟨k _ _ (.inl rfl) e,ih q⟩
 | tbl t=>
  cases t with
  | tab q=>obtain ⟨m,e,tr,c⟩:=x;exact ⟨m,k a _ (.inl rfl) e,tr,fun pos cv z=>let ⟨c',e1,e2⟩:=c pos cv z;⟨c',e1,hb _ _ e2⟩⟩
  | cod q=>obtain ⟨c,o,vs,t,e,g,r⟩:=x;cases e;exact ⟨a,o,vs,t,rfl,k a _ (.inl rfl) g,r⟩
 | met f y=>
  have e:h.get? a=some (PySem.W.methodObj (.ref f) (.ref y)):=x
  show h'.get? a=some (PySem.W.methodObj (.ref f) (.ref y))
  exact k a _ (.inl rfl) e
 | ext φ=>obtain ⟨p,⟨o,e⟩,st⟩:=x;exact ⟨st _ _ p fun o q=>k _ _ (.inl rfl) q,⟨o,k _ _ (.inl rfl) e⟩,st⟩
theorem HOk.lt (x:HOk P w H h) (e:H a=some o):a<h.objs.size:=(x a o e).lt
theorem HOk.fresh (x:HOk P w H h) (e:h.objs.size≤a):H a=none:=by
 cases q:H a with
 | none=>rfl
 | some u=>exact absurd (Nat.lt_of_lt_of_le (x.lt q) e) (Nat.lt_irrefl _)
theorem HOk.kept (x:HOk P w H h) (k:∀ b u,h.get? b=some u→h'.get? b=some u):HOk P w H h':=fun a o e=>
 (x a o e).stay (fun b u _ q=>k b u q) (fun _ q=>q) fun _ _ q=>q
theorem HOk.laid (x:HOk P w H h) (k:∀ b u,h.get? b=some u→h'.get? b=some u) (hp:h.objs.size≤a) (new:ObjOk P w (upd H a o) h' a o):HOk P w (upd H a o) h':=fun b u e=>by
 have hn:=x.fresh hp
 by_cases hb:b=a
 ·subst hb;rw [qA1] at e;cases e;exact new
 ·rw [qA9 hb] at e
  exact (x b u e).stay (fun c v _ q=>k c v q) (fun c q=>by rw [qA9 (qA6 q hn)];exact q) (fun c xs q=>by rw [qA9 (qA6 q hn)];exact q) fun c t q=>by rw [qA9 (qA6 q hn)];exact q
end
def Rd (H:Hp) (a:Addr) (u:HO):Prop:=H a=some u∨∃ o,H a=some (.frz o u)
theorem Rd.ok {P:Program} {w:World} {H:Hp} {h:Heap} {a:Addr} {u:HO} (r:Rd H a u) (x:HOk P w H h):ObjOk P w H h a u:=by
 rcases r with r | ⟨o,r⟩
 ·exact x a u r
 ·obtain ⟨_,q⟩:=x a _ r
  exact q
def Mut:Option HO→Prop
 | some (.lst _)=>True
 | some (.dK _)=>True
 | some (.dT _)=>True
 | some (.set _ _)=>True
 | some (.ins _ _ _)=>True
 | some (.ext _)=>True
 | _=>False
section
variable {P:Program} {w:World} {H:Hp} {h h':Heap} {x e:Addr} {o':HO}
theorem HOk.write (ok:HOk P w H h) (mu:Mut (H x)) (he:e=x∨H e=some (.own x)) (k:∀ b u,b ≠ e→h.get? b=some u→h'.get? b=some u) (heo:∃ u,h'.get? e=some u)
  (new:ObjOk P w (upd H x o') h' x o'):HOk P w (upd H x o') h':=fun b u q=>by
 have nown:∀ c y,H c=some (.own y)→c ≠ x:=fun c y r z=>by subst z;rw [r] at mu;exact mu
 have ntup:∀ c xs,H c=some (.tup xs)→c ≠ x:=fun c xs r z=>by subst z;rw [r] at mu;exact mu
 by_cases hb:b=x
 ·subst hb;rw [qA1] at q;cases q;exact new
 ·rw [qA9 hb] at q
  by_cases hbe:b=e
  ·have q':H b=some (.own x):=by
    rcases he with z | z
    ·exact absurd (hbe.trans z) hb
    ·rw [hbe];exact z
   rw [q] at q';cases q'
   obtain ⟨v,hv⟩:=heo
   exact ⟨v,by rw [hbe];exact hv⟩
  ·refine (ok b u q).stay (fun c v hc r=>k c v ?_ r) (fun c r=>by rw [qA9 (nown c b r)];exact r) (fun c xs r=>by rw [qA9 (ntup c xs r)];exact r) fun c t r=>by rw [qA9 (fun z=>by subst z;rw [r] at mu;exact mu)];exact r
   rcases hc with rfl | hc
   ·exact hbe
   ·rintro rfl
    rcases he with z | z
    ·exact nown c b hc z
    ·rw [hc] at z;cases z;exact hb rfl
end
structure Un (fs ex:List Addr) (H H':Hp) (h h':Heap):Prop where
 keep:∀ b o,h.get? b=some o→H b=none→b ∉ fs→b ∉ ex→h'.get? b=some o
 slot:∀ b o,h.get? b=some o→H b=none→b ∈ fs→b ∉ ex→∃ sl,h'.get? b=some { o with slots:=sl }
 free:∀ b o,h.get? b=some o→H b=none→b ∉ ex→H' b=none
 there:∀ b o,h.get? b=some o→b ∉ ex→∃ o',h'.get? b=some o'
 tups:∀ b xs,H b=some (.tup xs)→H' b=some (.tup xs)
 frzs:∀ b o u,H b=some (.frz o u)→H' b=some (.frz o u)
 tbls:∀ b ps,H b=some (.tbl ps)→H' b=some (.tbl ps)
section
variable {fs fs' ex ex':List Addr} {H H1 H2:Hp} {h h1 h2 h':Heap} {a x e:Addr} {o:HO}
theorem Un.any (u:Un fs ex H H1 h h1) {b:Addr} {ob:Obj} (q:h.get? b=some ob) (n:H b=none) (hx:b ∉ ex):∃ sl,h1.get? b=some { ob with slots:=sl }:=by
 by_cases hb:b ∈ fs
 ·exact u.slot b ob q n hb hx
 ·exact ⟨ob.slots,u.keep b ob q n hb hx⟩
theorem Un.kept (k:∀ b u,h.get? b=some u→h'.get? b=some u):Un fs ex H H h h':=
 ⟨fun b ob q _ _ _=>k b ob q,fun b ob q _ _ _=>⟨ob.slots,k b ob q⟩,fun _ _ _ n _=>n,fun b ob q _=>⟨ob,k b ob q⟩,fun _ _ q=>q,fun _ _ _ q=>q,fun _ _ q=>q⟩
theorem Un.refl:Un fs ex H H h h:=Un.kept fun _ _ q=>q
theorem Un.laid (k:∀ b u,h.get? b=some u→h'.get? b=some u) (hp:h.objs.size≤a) (hn:H a=none):Un fs ex H (upd H a o) h h' where
 keep:=fun b u q _ _ _=>k b u q
 slot:=fun b u q _ _ _=>⟨u.slots,k b u q⟩
 free:=fun b u q n _=>by rw [qA9 (Nat.ne_of_lt (Nat.lt_of_lt_of_le (Heap.lt_size q) hp))];exact n
 there:=fun b u q _=>⟨u,k b u q⟩
 tups:=fun b xs q=>by rw [qA9 (qA6 q hn)];exact q
 frzs:=fun b u xs q=>by rw [qA9 (qA6 q hn)];exact q
 tbls:=fun b ps q=>by rw [qA9 (qA6 q hn)];exact q
theorem Un.write (mu:Mut (H x)) (he:e=x∨H e=some (.own x)) (k:∀ b u,b ≠ e→h.get? b=some u→h'.get? b=some u) (heo:∃ u,h'.get? e=some u):Un fs ex H (upd H x o) h h':=by
 have hx:∀ b,H b=none→b ≠ x:=fun b n z=>by subst z;rw [n] at mu;exact mu
 have hb:∀ b,H b=none→b ≠ e:=fun b n z=>by
  subst z
  rcases he with r | r
  ·exact hx b n r
  ·rw [n] at r;cases r
 have hm:∀ b u,H b=some u→¬ Mut (some u)→b ≠ x:=fun b u q nm z=>by subst z;rw [q] at mu;exact nm mu
 refine ⟨fun b u q n _ _=>k b u (hb b n) q,fun b u q n _ _=>⟨u.slots,k b u (hb b n) q⟩,fun b u q n _=>by rw [qA9 (hx b n)];exact n,fun b u q _=>?_,
  fun b xs q=>by rw [qA9 (hm b _ q fun z=>z)];exact q,fun b u xs q=>by rw [qA9 (hm b _ q fun z=>z)];exact q,fun b ps q=>by rw [qA9 (hm b _ q fun z=>z)];exact q⟩
 by_cases hbe:b=e
 ·subst hbe;exact heo
 ·exact ⟨u,k b u hbe q⟩
end
noncomputable def trk (h:Heap) (H:Hp):List Addr:=(List.range h.objs.size).filter fun a=>(H a).isSome
noncomputable def hidT (h:Heap) (H:Hp):Heap:=PySem.W.hideAll h (trk h H)
theorem hidT_size (h:Heap) (H:Hp):(hidT h H).objs.size=h.objs.size:=PySem.W.hideAll_size _ _
theorem hidT_get {h:Heap} {H:Hp} {b:Addr} {o:Obj} (e:h.get? b=some o) (n:H b=none):(hidT h H).get? b=some o:=
 PySem.W.hideAll_get _ e fun hm=>by
  have q:(H b).isSome=true:=(List.mem_filter.mp hm).2
  rw [n] at q;simp at q
theorem of_hidT {h:Heap} {H:Hp} {b:Addr} {o:Obj} (e:(hidT h H).get? b=some o):h.get? b=some o∧H b=none:=by
 have e':h.get? b=some o:=PySem.W.of_hideAll (trk h H) e
 refine ⟨e',?_⟩
 cases q:H b with
 | none=>rfl
 | some x=>
  have hm:b ∈ trk h H:=List.mem_filter.mpr ⟨List.mem_range.mpr (Heap.lt_size e'),by simp [q]⟩
  have z:(hidT h H).get? b=none:=PySem.W.hideAll_none (trk h H) hm
  rw [z] at e;cases e
noncomputable def allNews (g h:Heap) (L:Addr):List (Addr × Obj):=(List.range h.objs.size).filterMap fun a=>if a=L∨(g.get? a).isSome=true then none else (h.get? a).map fun o=>(a,o)
noncomputable def rest (g h:Heap) (L d:Addr):List (Addr × Obj):=(allNews g h L).filter fun p=>decide (p.1 ≠ d)
end L2
namespace L2
open PySem PySem.Spec PyProof.Rows
structure Mod (K:PySem.W.Frag) (mg:Str→Option Value) (base:Heap):Prop where
 kin:K.In base
 glob:base.Ns mainGlobals mg
 blt:∃ mb,base.Ns builtinsNs mb∧∀ x:Str,x ≠ "__name__"→mb x=bootBuiltins x
 nolimit:base.NoLimit
structure Cx where
 prog:Program
 w:World
 K:PySem.W.Frag
 mg:Str→Option Value
 base:Heap
 A:Around
 N:List Str
 s₀:Shared
 H₀:Hp
 env:Env
 outer:List Env
 stack:List Env
 ex:List Addr
 fn:Str→Bool
 calm:Bool
 pn:List (Addr × Obj)
 xe:Value→Shared→Prop
noncomputable def frs (l:List Env):List Addr:=l.filterMap (·.frame)
noncomputable abbrev Cx.fs (X:Cx):List Addr:=frs X.outer
def Vis (sc:Scope) (x:Str):Prop:=sc.names.lookup x=some .local∨sc.names.lookup x=some .cell∨sc.names.lookup x=some .free
def Loc (sc:Scope) (x:Str):Prop:=sc.names.lookup x=some .local∨sc.names.lookup x=some .cell
def Look (env:Env) (h:Heap) (m:Str→Option Value) (x:Str) (u:Value):Prop:=
 (env.kindOf x=some .local∧m x=some u)∨((env.kindOf x=some .cell∨env.kindOf x=some .free)∧∃ c,env.cells.lookup x=some c∧h.IsCell c (some u))
structure Cx.Ok (X:Cx):Prop where
 mod:Mod X.K X.mg X.base
 kind:X.env.scope.kind=.function
 glob:X.env.globals=mainGlobals
 blt:X.env.builtins=builtinsNs
 above:X.s₀.heap.objs.size≤X.env.locals
 inj:∀ x y c,X.env.cells.lookup x=some c→X.env.cells.lookup y=some c→x=y
 has:∀ x,(X.env.kindOf x=some .cell∨X.env.kindOf x=some .free)→∃ c,X.env.cells.lookup x=some c
 cab:∀ x c,X.fn x=true→X.env.cells.lookup x=some c→X.s₀.heap.objs.size≤c
 hd:X.calm=true→X.A.handled=none
 frames:X.A.frames=some X.stack
 stk:X.stack=X.outer∨(X.stack=X.env::X.outer∧X.env.frame=some X.env.locals)
 exf:∀ b ∈ X.ex,b ≠ X.env.locals∧∀ x c,X.env.cells.lookup x=some c→c ≠ b
 bs:∀ b o,X.base.get? b=some o→X.s₀.heap.get? b=some o∧X.H₀ b=none
 bsz:X.base.objs.size≤X.s₀.heap.objs.size
 noex:∀ b o,X.base.get? b=some o→b ∉ X.ex
 exfs:∀ b ∈ X.ex,b ∉ X.fs
 funs:X.s₀.heap.FunFrames X.base X.outer
 frf:∀ b ∈ X.fs,X.H₀ b=none
structure Inv (X:Cx) (pins:List (Addr × Obj)) (σ:List (Option V)) (H:Hp) (s:Shared):Prop where
 ok:X.Ok
 os:s.os=X.s₀.os
 bare:AllBare s.gens
 base:Un X.fs X.ex X.H₀ H X.s₀.heap s.heap
 loc:∃ m,s.heap.Ns X.env.locals m∧∀ (i:Nat) (x:Str) (v:V),X.N[i]?=some x→σ[i]?=some (some v)→Vis X.env.scope x→∃ u,RelV v u∧Look X.env s.heap m x u
 cell:∀ x c,X.env.cells.lookup x=some c→∃ v,s.heap.IsCell c v
 free:H X.env.locals=none
 freeC:∀ x c,X.env.cells.lookup x=some c→H c=none
 pin:∀ p ∈ X.pn++pins,s.heap.get? p.1=some p.2∧H p.1=none∧p.1 ≠ X.env.locals∧p.1 ∉ X.fs∧∀ v,p.2.data ≠ .cell v
 hok:HOk X.prog X.w H s.heap
 len:σ.length=X.N.length
section
variable {X:Cx} {pins:List (Addr × Obj)} {σ:List (Option V)} {H H':Hp} {s:Shared} {h':Heap}
theorem Cx.Ok.nofr (ok:X.Ok) {b:Addr} {o:Obj} (e:X.base.get? b=some o):b ∉ X.fs:=fun hb=>by
 have:=(ok.funs.mem hb).1
 rw [e] at this;cases this
theorem Inv.bs (I:Inv X pins σ H s):∀ b o,X.base.get? b=some o→s.heap.get? b=some o∧H b=none:=fun b o e=>
 ⟨I.base.keep b o (I.ok.bs b o e).1 (I.ok.bs b o e).2 (I.ok.nofr e) (I.ok.noex b o e),I.base.free b o (I.ok.bs b o e).1 (I.ok.bs b o e).2 (I.ok.noex b o e)⟩
theorem Inv.bk (I:Inv X pins σ H s):∀ b o,X.base.get? b=some o→s.heap.get? b=some o:=fun b o e=>(I.bs b o e).1
theorem Inv.mod (I:Inv X pins σ H s):Mod X.K X.mg X.base:=I.ok.mod
theorem Inv.kIn (I:Inv X pins σ H s):X.K.In s.heap:=I.ok.mod.kin.keeps I.bk
theorem Inv.lt (I:Inv X pins σ H s):X.env.locals<s.heap.objs.size:=let ⟨_,hn,_⟩:=I.loc;hn.lt
theorem Inv.sz (I:Inv X pins σ H s):X.s₀.heap.objs.size≤s.heap.objs.size:=Nat.le_trans I.ok.above (Nat.le_of_lt I.lt)
theorem Inv.nofs (I:Inv X pins σ H s) {a:Addr} (h:s.heap.objs.size≤a):a ∉ X.fs:=fun hb=>by
 obtain ⟨_,o,ho,_⟩:=I.ok.funs.mem hb
 exact absurd (Nat.lt_of_lt_of_le (Heap.lt_size ho) (Nat.le_trans I.sz h)) (Nat.lt_irrefl _)
theorem Inv.cne (I:Inv X pins σ H s):∀ x c,X.env.cells.lookup x=some c→c ≠ X.env.locals:=fun x c e z=>by
 obtain ⟨v,o,ho,hd⟩:=I.cell x c e
 obtain ⟨m,⟨o',es,ep,ho',hd',_⟩,_⟩:=I.loc
 rw [z,ho'] at ho;cases ho;rw [hd'] at hd;cases hd
theorem Inv.funs (I:Inv X pins σ H s):s.heap.FunFrames X.base X.outer:=by
 have all:∀ (l:List Env),(∀ b ∈ frs l,b ∈ X.fs)→X.s₀.heap.FunFrames X.base l→s.heap.FunFrames X.base l:=by
  intro l
  induction l with
  | nil=>intro _ _;trivial
  | cons env r ih=>
   intro hs hl
   obtain ⟨hk,⟨L,o,hf,hn,ho,hd⟩,hr⟩:=hl
   have hL:L ∈ X.fs:=hs L (by unfold frs;rw [List.filterMap_cons,hf];exact List.mem_cons_self)
   obtain ⟨sl,e⟩:=I.base.slot L o ho (I.ok.frf L hL) hL fun z=>I.ok.exfs L z hL
   exact ⟨hk,⟨L,_,hf,hn,e,hd⟩,ih (fun b hb=>hs b (by unfold frs;rw [List.filterMap_cons,hf];exact List.mem_cons_of_mem _ hb)) hr⟩
 exact all X.outer (fun _ hb=>hb) I.ok.funs
theorem Inv.stack (I:Inv X pins σ H s):s.heap.FunFrames X.base X.stack:=by
 rcases I.ok.stk with e | ⟨e,hf⟩
 ·rw [e];exact I.funs
 ·rw [e]
  obtain ⟨m,hn,_⟩:=I.loc
  refine .cons (by rw [I.ok.kind];decide) hf hn ?_ I.funs
  exact Heap.get?_none_of_le (Nat.le_trans I.ok.bsz I.ok.above)
theorem Inv.stkSub (I:Inv X pins σ H s):∀ b ∈ frs X.stack,b ∈ X.env.locals::X.fs:=fun b hb=>by
 rcases I.ok.stk with e | ⟨e,hf⟩
 ·rw [e] at hb;exact List.mem_cons_of_mem _ hb
 ·rw [e] at hb
  unfold frs at hb
  rw [List.filterMap_cons,hf] at hb
  exact hb
theorem Inv.stkFree (I:Inv X pins σ H s):∀ b ∈ frs X.stack,H b=none:=fun b hb=>by
 rcases List.mem_cons.mp (I.stkSub b hb) with e | hb
 ·rw [e];exact I.free
 ·obtain ⟨_,o,ho,_⟩:=I.ok.funs.mem hb
  exact I.base.free b o ho (I.ok.frf b hb) fun z=>I.ok.exfs b z hb
theorem Inv.step {g':Array GenState} {t':Nat} {d':Drawn} {ch:List Addr} (I:Inv X pins σ H s)
  (hch:∀ b ∈ ch,(b ∈ X.ex∨X.s₀.heap.objs.size≤b)∧b ≠ X.env.locals∧(∀ x c,X.env.cells.lookup x=some c→c ≠ b)∧∀ p ∈ X.pn++pins,p.1 ≠ b)
  (keep:∀ b o,b ≠ X.env.locals→b ∉ X.fs→b ∉ ch→s.heap.get? b=some o→H b=none→h'.get? b=some o)
  (slot:∀ b o,b ≠ X.env.locals→b ∈ X.fs→b ∉ ch→s.heap.get? b=some o→H b=none→∃ sl,h'.get? b=some { o with slots:=sl }) (free:∀ b o,b ∉ ch→s.heap.get? b=some o→H b=none→H' b=none)
  (there:∀ b o,b ∉ ch→s.heap.get? b=some o→∃ o',h'.get? b=some o')
  (tups:∀ b xs,H b=some (.tup xs)→H' b=some (.tup xs)) (frzs:∀ b o u,H b=some (.frz o u)→H' b=some (.frz o u)) (tbls:∀ b ps,H b=some (.tbl ps)→H' b=some (.tbl ps))
  (ns:∀ m,s.heap.Ns X.env.locals m→h'.Ns X.env.locals m) (hok:HOk X.prog X.w H' h') (hg:AllBare g') :
  Inv X pins σ H' { s with heap:=h',gens:=g',drawn:=d',toks:=t' }:=by
 have neL:∀ b o,X.s₀.heap.get? b=some o→b ≠ X.env.locals:=fun b o e=>Nat.ne_of_lt (Nat.lt_of_lt_of_le (Heap.lt_size e) I.ok.above)
 have neC:∀ b o,X.s₀.heap.get? b=some o→b ∉ X.ex→b ∉ ch:=fun b o e hx hb=>by
  rcases (hch b hb).1 with z | z
  ·exact hx z
  ·exact absurd (Nat.lt_of_lt_of_le (Heap.lt_size e) z) (Nat.lt_irrefl _)
 have cellK:∀ x c,X.env.cells.lookup x=some c→∀ v,s.heap.IsCell c v→h'.IsCell c v:=fun x c e v ⟨o,ho,hd⟩=>by
  have nch:c ∉ ch:=fun z=>(hch c z).2.2.1 x c e rfl
  by_cases hc:c ∈ X.fs
  ·obtain ⟨sl,q⟩:=slot c o (I.cne x c e) hc nch ho (I.freeC x c e)
   exact ⟨_,q,hd⟩
  ·exact ⟨o,keep c o (I.cne x c e) hc nch ho (I.freeC x c e),hd⟩
 refine ⟨I.ok,I.os,hg,⟨fun b o e n hb hx=>?_,fun b o e n hb hx=>?_,fun b o e n hx=>?_,fun b o e hx=>?_,fun b xs e=>tups b xs (I.base.tups b xs e),fun b o xs e=>frzs b o xs (I.base.frzs b o xs e),fun b ps e=>?_⟩,?_,fun x c e=>?_,?_,fun x c e=>?_,fun p hp=>?_,hok,I.len⟩
 ·exact keep b o (neL b o e) hb (neC b o e hx) (I.base.keep b o e n hb hx) (I.base.free b o e n hx)
 ·obtain ⟨sl,e1⟩:=I.base.slot b o e n hb hx
  obtain ⟨sl',e2⟩:=slot b _ (neL b o e) hb (neC b o e hx) e1 (I.base.free b o e n hx)
  exact ⟨sl',e2⟩
 ·obtain ⟨o',e1⟩:=I.base.there b o e hx
  exact free b o' (neC b o e hx) e1 (I.base.free b o e n hx)
 ·obtain ⟨o',e1⟩:=I.base.there b o e hx
  exact there b o' (neC b o e hx) e1
 ·exact tbls b ps (I.base.tbls b ps e)
 ·obtain ⟨m,hn,hl⟩:=I.loc
  refine ⟨m,ns m hn,fun i x v e1 e2 e3=>?_⟩
  obtain ⟨u,r,l⟩:=hl i x v e1 e2 e3
  refine ⟨u,r,?_⟩
  rcases l with l | ⟨k,c,e,z⟩
  ·exact .inl l
  ·exact .inr ⟨k,c,e,cellK x c e _ z⟩
 ·obtain ⟨v,z⟩:=I.cell x c e
  exact ⟨v,cellK x c e v z⟩
 ·obtain ⟨m,⟨o,_,_,ho,_⟩,_⟩:=I.loc
  exact free _ o (fun z=>(hch _ z).2.1 rfl) ho I.free
 ·obtain ⟨v,o,ho,hd⟩:=I.cell x c e
  exact free c o (fun z=>(hch c z).2.2.1 x c e rfl) ho (I.freeC x c e)
 ·obtain ⟨e,n,ne,nf,d⟩:=I.pin p hp
  have nch:p.1 ∉ ch:=fun z=>(hch p.1 z).2.2.2 p hp rfl
  exact ⟨keep p.1 p.2 ne nf nch e n,free p.1 p.2 nch e n,ne,nf,d⟩
theorem Inv.un {t':Nat} (I:Inv X pins σ H s) (u:Un X.fs [] H H' s.heap h') (hok:HOk X.prog X.w H' h'):Inv X pins σ H' { s with heap:=h',toks:=t' }:=by
 obtain ⟨m,⟨o,es,ep,ho,r⟩,_⟩:=id I.loc
 obtain ⟨sl,hL⟩:=u.any ho I.free (by simp)
 exact I.step (g':=s.gens) (d':=s.drawn) (ch:=[]) (fun _ z=>nomatch z) (fun b o _ hb _ e n=>u.keep b o e n hb (by simp)) (fun b o _ hb _ e n=>u.slot b o e n hb (by simp)) (fun b o _ e n=>u.free b o e n (by simp)) (fun b o _ e=>u.there b o e (by simp)) u.tups u.frzs u.tbls (fun m' hm=>by
  obtain ⟨o',es',ep',ho',r'⟩:=hm
  rw [ho] at ho';cases ho'
  exact ⟨_,es',ep',hL,r'⟩) hok I.bare
theorem Inv.call {g':Array GenState} {t':Nat} {d':Drawn} {ch:List Addr} (I:Inv X pins σ H s) (u:Un (frs X.stack) ch H H' s.heap h') (hok:HOk X.prog X.w H' h') (hg:AllBare g')
  (hch:∀ b ∈ ch,(b ∈ X.ex∨X.s₀.heap.objs.size≤b)∧b ≠ X.env.locals∧(∀ x c,X.env.cells.lookup x=some c→c ≠ b)∧∀ p ∈ X.pn++pins,p.1 ≠ b) :
  Inv X pins σ H' { s with heap:=h',gens:=g',drawn:=d',toks:=t' }:=by
 obtain ⟨m,⟨o,es,ep,ho,r⟩,_⟩:=id I.loc
 obtain ⟨sl,hL⟩:=u.any ho I.free fun z=>(hch _ z).2.1 rfl
 exact I.step (ch:=ch) hch (fun b o hL hb hc e n=>u.keep b o e n (fun z=>(List.mem_cons.mp (I.stkSub b z)).elim hL hb) hc) (fun b o _ _ hc e n=>u.any e n hc) (fun b o hc e n=>u.free b o e n hc) (fun b o hc e=>u.there b o e hc) u.tups u.frzs u.tbls (fun m' hm=>by
  obtain ⟨o',es',ep',ho',r'⟩:=hm
  rw [ho] at ho';cases ho'
  exact ⟨_,es',ep',hL,r'⟩) hok hg
theorem Inv.turned {t':Nat} {it:Addr} (I:Inv X pins σ H s) (k:∀ b o,b ≠ it→s.heap.get? b=some o→h'.get? b=some o) (hn:H it=none) (hL:it ≠ X.env.locals)
  (h1:it ∈ X.ex∨X.s₀.heap.objs.size≤it) (h2:∀ x c,X.env.cells.lookup x=some c→c ≠ it) (h3:∀ p ∈ X.pn++pins,p.1 ≠ it):Inv X pins σ H { s with heap:=h',toks:=t' }:=by
 have nit:∀ b u,H b=some u→b ≠ it:=fun b u e z=>by rw [z,hn] at e;cases e
 refine I.step (g':=s.gens) (d':=s.drawn) (ch:=[it]) (fun b hb=>?_) (fun b o _ _ hc e _=>k b o (fun z=>hc (by simp [z])) e) (fun b o _ _ hc e _=>⟨o.slots,k b o (fun z=>hc (by simp [z])) e⟩) (fun _ _ _ _ n=>n)
  (fun b o hc e=>⟨o,k b o (fun z=>hc (by simp [z])) e⟩) (fun _ _ e=>e) (fun _ _ _ e=>e) (fun _ _ e=>e) (fun m hm=>?_) (fun b u e=>?_) I.bare
 ·have e:b=it:=by simpa using hb
  subst e
  exact ⟨h1,hL,h2,h3⟩
 ·obtain ⟨o,es,ep,ho,r⟩:=hm
  exact ⟨o,es,ep,k _ o (Ne.symm hL) ho,r⟩
 ·refine (I.hok b u e).stay (fun c v hc q=>k c v ?_ q) (fun _ q=>q) fun _ _ q=>q
  rcases hc with z | z
  ·rw [z];exact nit b u e
  ·exact nit c _ z
theorem Inv.tok (I:Inv X pins σ H s) (t:Nat):Inv X pins σ H { s with toks:=t }:=I.un (h':=s.heap) (t':=t) Un.refl I.hok
theorem Inv.kept {t':Nat} (I:Inv X pins σ H s) (k:∀ b u,s.heap.get? b=some u→h'.get? b=some u):Inv X pins σ H { s with heap:=h',toks:=t' }:=I.un (Un.kept k) (I.hok.kept k)
theorem Inv.laid {a:Addr} {o:HO} {t':Nat} (I:Inv X pins σ H s) (k:∀ b u,s.heap.get? b=some u→h'.get? b=some u) (hp:s.heap.objs.size≤a) (new:ObjOk X.prog X.w (upd H a o) h' a o) :
  Inv X pins σ (upd H a o) { s with heap:=h',toks:=t' }:=I.un (Un.laid k hp (I.hok.fresh hp)) (I.hok.laid k hp new)
theorem Inv.write {x e:Addr} {o:HO} {t':Nat} (I:Inv X pins σ H s) (mu:Mut (H x)) (he:e=x∨H e=some (.own x)) (k:∀ b u,b ≠ e→s.heap.get? b=some u→h'.get? b=some u) (heo:∃ u,h'.get? e=some u)
  (new:ObjOk X.prog X.w (upd H x o) h' x o):Inv X pins σ (upd H x o) { s with heap:=h',toks:=t' }:=I.un (Un.write mu he k heo) (I.hok.write mu he k heo new)
theorem Inv.pins_of {pins':List (Addr × Obj)} (I:Inv X pins σ H s) (h:∀ p ∈ pins',s.heap.get? p.1=some p.2∧H p.1=none∧p.1 ≠ X.env.locals∧p.1 ∉ X.fs∧∀ v,p.2.data ≠ .cell v):Inv X pins' σ H s:=
 ⟨I.ok,I.os,I.bare,I.base,I.loc,I.cell,I.free,I.freeC,fun p hp=>(List.mem_append.mp hp).elim (fun z=>I.pin p (List.mem_append_left _ z)) (h p),I.hok,I.len⟩
theorem nodup_ix {N:List Str} (hN:N.Nodup) {i j:Nat} {x:Str} (a:N[i]?=some x) (b:N[j]?=some x):i=j:=by
 obtain ⟨h1,e1⟩:=List.getElem?_eq_some_iff.mp a
 obtain ⟨h2,e2⟩:=List.getElem?_eq_some_iff.mp b
 exact (List.getElem_inj hN).mp (e1.trans e2.symm)
theorem store_ok2 {M:Model} {A:Around} {E:Value→Shared→Prop} {i:Nat} {x:Str} {v:V} {u:Value} {Q:Unit→Shared→Prop} (I:Inv X pins σ H s) (hN:X.N.Nodup) (hi:X.N[i]?=some x) (hx:Loc X.env.scope x) (r:RelV v u)
  (h:∀ s',Inv X pins (σ.set i (some v)) H s'→(∃ a,Heap.SameBut a s.heap s'.heap∧(a=X.env.locals∨X.env.cells.lookup x=some a))→Q () s') (hf:X.fn x=true∨X.env.scope.names.lookup x=some .local:=by first | exact .inl rfl | exact .inr rfl | assumption):wpAny M A (storeName X.env x u) Q E s:=by
 obtain ⟨m,hn,hl⟩:=id I.loc
 have hcls:(X.env.scope.kind == .class || (X.env.scope.kind == .module && X.env.locals != X.env.globals))=false:=by rw [I.ok.kind];rfl
 have hiσ:i<σ.length:=by rw [I.len];exact (List.getElem?_eq_some_iff.mp hi).1
 have cne:=I.cne
 have tracked:∀ {a:Addr} {h':Heap},(∃ o,s.heap.get? a=some o∧H a=none)→Heap.SameBut a s.heap h'→HOk X.prog X.w H h':=fun {a h'} ha hs b ob e=>by
  obtain ⟨_,_,hfree⟩:=ha
  refine (I.hok b ob e).stay (fun c w' hc q=>(hs.2 c ?_).trans q) (fun _ q=>q) fun _ _ q=>q
  rintro rfl
  rcases hc with rfl | hc
  ·rw [hfree] at e;cases e
  ·rw [hfree] at hc;cases hc
 rcases hx with hk | hk
 ·refine wpAny_storeName_local hk hn (fun h' hn' hs=>?_) hcls
  obtain ⟨oL,_,_,hoL,_⟩:=id hn
  refine h _ ⟨I.ok,I.os,I.bare,⟨fun b o e n hb hx=>?_,fun b o e n hb hx=>?_,I.base.free,fun b o e hx=>?_,I.base.tups,I.base.frzs,I.base.tbls⟩,⟨_,hn',fun j y v' e1 e2 e3=>?_⟩,fun y c e=>?_,I.free,I.freeC,fun p hp=>?_,tracked ⟨oL,hoL,I.free⟩ hs,by simpa using I.len⟩ ⟨_,hs,.inl rfl⟩
  ·exact (hs.2 b (Nat.ne_of_lt (Nat.lt_of_lt_of_le (Heap.lt_size e) I.ok.above))).trans (I.base.keep b o e n hb hx)
  ·obtain ⟨sl,e1⟩:=I.base.slot b o e n hb hx
   exact ⟨sl,(hs.2 b (Nat.ne_of_lt (Nat.lt_of_lt_of_le (Heap.lt_size e) I.ok.above))).trans e1⟩
  ·obtain ⟨o',e1⟩:=I.base.there b o e hx
   exact ⟨o',(hs.2 b (Nat.ne_of_lt (Nat.lt_of_lt_of_le (Heap.lt_size e) I.ok.above))).trans e1⟩
  ·by_cases hj:j=i
   ·subst hj
    rw [hi] at e1;cases e1
    rw [List.getElem?_set_self hiσ] at e2
    cases e2
    exact ⟨u,r,.inl ⟨hk,by simp⟩⟩
   ·rw [List.getElem?_set_ne (Ne.symm hj)] at e2
    obtain ⟨u',r',q⟩:=hl j y v' e1 e2 e3
    refine ⟨u',r',?_⟩
    rcases q with ⟨k,e⟩ | ⟨k,c,e,z⟩
    ·refine .inl ⟨k,?_⟩
     have:y ≠ x:=fun e=>hj (nodup_ix hN e1 (e ▸ hi))
     simp [this,e]
    ·exact .inr ⟨k,c,e,z.sameBut hs (cne y c e)⟩
  ·obtain ⟨w',z⟩:=I.cell y c e
   exact ⟨w',z.sameBut hs (cne y c e)⟩
  ·obtain ⟨e,n,ne,nf,d⟩:=I.pin p hp
   exact ⟨(hs.2 p.1 ne).trans e,n,ne,nf,d⟩
 ·have hfn:X.fn x=true:=by
   rcases hf with z | z
   ·exact z
   ·rw [z] at hk;cases hk
  obtain ⟨c,hc⟩:=I.ok.has x (.inl hk)
  obtain ⟨w',z⟩:=I.cell x c hc
  refine wpAny_storeName_cell I.ok.kind hk hc z (fun h' hc' hs=>?_)
  obtain ⟨oc,hoc,hocd⟩:=id z
  refine h { s with heap:=h' } ⟨I.ok,I.os,I.bare,⟨fun b o e n hb hx=>?_,fun b o e n hb hx=>?_,I.base.free,fun b o e hx=>?_,I.base.tups,I.base.frzs,I.base.tbls⟩,⟨m,hn.sameBut hs (Ne.symm (cne x c hc)),fun j y v' e1 e2 e3=>?_⟩,fun y c' e=>?_,I.free,I.freeC,fun p hp=>?_,tracked ⟨oc,hoc,I.freeC x c hc⟩ hs,by simpa using I.len⟩ ⟨c,hs,.inr hc⟩
  ·exact (hs.2 b (Nat.ne_of_lt (Nat.lt_of_lt_of_le (Heap.lt_size e) (I.ok.cab x c hfn hc)))).trans (I.base.keep b o e n hb hx)
  ·obtain ⟨sl,e1⟩:=I.base.slot b o e n hb hx
   exact ⟨sl,(hs.2 b (Nat.ne_of_lt (Nat.lt_of_lt_of_le (Heap.lt_size e) (I.ok.cab x c hfn hc)))).trans e1⟩
  ·obtain ⟨o',e1⟩:=I.base.there b o e hx
   exact ⟨o',(hs.2 b (Nat.ne_of_lt (Nat.lt_of_lt_of_le (Heap.lt_size e) (I.ok.cab x c hfn hc)))).trans e1⟩
  ·by_cases hj:j=i
   ·subst hj
    rw [hi] at e1;cases e1
    rw [List.getElem?_set_self hiσ] at e2
    cases e2
    exact ⟨u,r,.inr ⟨.inl hk,c,hc,hc'⟩⟩
   ·rw [List.getElem?_set_ne (Ne.symm hj)] at e2
    obtain ⟨u',r',q⟩:=hl j y v' e1 e2 e3
    refine ⟨u',r',?_⟩
    rcases q with q | ⟨k,c',e,z'⟩
    ·exact .inl q
    ·refine .inr ⟨k,c',e,z'.sameBut hs ?_⟩
     rintro rfl
     exact hj (nodup_ix hN e1 (I.ok.inj _ _ _ e hc ▸ hi))
  ·by_cases hcc:c'=c
   ·subst hcc;exact ⟨_,hc'⟩
   ·obtain ⟨w2,z2⟩:=I.cell y c' e
    exact ⟨w2,z2.sameBut hs hcc⟩
  ·obtain ⟨e,n,ne,nf,d⟩:=I.pin p hp
   refine ⟨(hs.2 p.1 ?_).trans e,n,ne,nf,d⟩
   intro q
   rw [q,hoc] at e
   have q':oc=p.2:=Option.some.inj e
   exact d w' (by rw [← q'];exact hocd)
theorem store_ok {M:Model} {A:Around} {E:Value→Shared→Prop} {i:Nat} {x:Str} {v:V} {u:Value} {Q:Unit→Shared→Prop} (I:Inv X pins σ H s) (hN:X.N.Nodup) (hi:X.N[i]?=some x) (hx:Loc X.env.scope x) (r:RelV v u)
  (h:∀ s',Inv X pins (σ.set i (some v)) H s'→Q () s') (hf:X.fn x=true∨X.env.scope.names.lookup x=some .local:=by first | exact .inl rfl | exact .inr rfl | assumption):wpAny M A (storeName X.env x u) Q E s:=
 store_ok2 I hN hi hx r (fun s' I' _=>h s' I') hf
theorem Inv.call' {s':Shared} {ch:List Addr} (I:Inv X pins σ H s) (ho:s'.os=s.os) (u:Un (frs X.stack) ch H H' s.heap s'.heap) (hok:HOk X.prog X.w H' s'.heap) (hg:AllBare s'.gens)
  (hch:∀ b ∈ ch,(b ∈ X.ex∨X.s₀.heap.objs.size≤b)∧b ≠ X.env.locals∧(∀ x c,X.env.cells.lookup x=some c→c ≠ b)∧∀ p ∈ X.pn++pins,p.1 ≠ b):Inv X pins σ H' s':=by
 obtain ⟨h',g',d',t',o'⟩:=s'
 have e:o'=s.os:=ho
 subst e
 exact I.call (g':=g') (t':=t') (d':=d') u hok hg hch
end
abbrev XK:=Value→Option Addr→Hp→Prop
abbrev St:=List (Option V)
abbrev VK:=V→Hp→Prop
abbrev TE:=St→Hp→VK→Prop
abbrev TT:=St→Hp→(Bool→Hp→Prop)→Prop
abbrev TA:=St→Hp→(List V→Hp→Prop)→Prop
structure Ends where
 nx:St→Hp→Prop
 rt:VK
 bk:St→Hp→Prop:=fun _ _=>False
 ct:St→Hp→Prop:=fun _ _=>False
abbrev TS:=Ends→St→Hp→Prop
def EP (X:Cx) (pins:List (Addr × Obj)) (σ:St) (Q:VK) (u:Value) (s':Shared):Prop:=∃ v H',Inv X pins σ H' s'∧RelV v u∧Q v H'
def TP (X:Cx) (pins:List (Addr × Obj)) (σ:St) (Q:Bool→Hp→Prop) (b:Bool) (s':Shared):Prop:=∃ H',Inv X pins σ H' s'∧Q b H'
def AP (X:Cx) (pins:List (Addr × Obj)) (σ:St) (Q:List V→Hp→Prop) (us:List Value) (s':Shared):Prop:=∃ vs H',Inv X pins σ H' s'∧Vals vs us∧Q vs H'
def SP (X:Cx) (pins:List (Addr × Obj)) (D:Ends) (f:Flow) (s':Shared):Prop:=
 match f with
 | .next=>∃ σ' H',Inv X pins σ' H' s'∧D.nx σ' H'
 | .brk=>∃ σ' H',Inv X pins σ' H' s'∧D.bk σ' H'
 | .cont=>∃ σ' H',Inv X pins σ' H' s'∧D.ct σ' H'
 | .ret u=>∃ v σ' H',Inv X pins σ' H' s'∧RelV v u∧D.rt v H'
def PE (X:Cx) (e:Expr) (t:TE):Prop:=
 ∀ (pins:List (Addr × Obj)) (s:Shared) (σ:St) (H:Hp) (Q:VK),Inv X pins σ H s→t σ H Q→wpAny (model X.prog X.w) X.A (eval e X.env) (EP X pins σ Q) X.xe s
def PT (X:Cx) (e:Expr) (t:TT):Prop:=
 ∀ (pins:List (Addr × Obj)) (s:Shared) (σ:St) (H:Hp) (Q:Bool→Hp→Prop),Inv X pins σ H s→t σ H Q→wpAny (model X.prog X.w) X.A (isTrue e X.env (eval e X.env)) (TP X pins σ Q) X.xe s
def PW (X:Cx) (e:Expr) (t:TT):Prop:=
 ∀ (whole:Sem Value) (pins:List (Addr × Obj)) (s:Shared) (σ:St) (H:Hp) (Q:Bool→Hp→Prop),Inv X pins σ H s→t σ H Q→wpAny (model X.prog X.w) X.A (isTrue e X.env whole) (TP X pins σ Q) X.xe s
theorem PW.pt {X:Cx} {e:Expr} {t:TT} (h:PW X e t):PT X e t:=h _
def PA (X:Cx) (es:List Expr) (t:TA):Prop:=
 ∀ (pos:Pos) (pins:List (Addr × Obj)) (s:Shared) (σ:St) (H:Hp) (Q:List V→Hp→Prop),Inv X pins σ H s→t σ H Q→wpAny (model X.prog X.w) X.A (spliced (backTo pos (starEach es X.env))) (AP X pins σ Q) X.xe s
def PS (X:Cx) (st:Stmt) (t:TS):Prop:=
 ∀ (pins:List (Addr × Obj)) (s:Shared) (σ:St) (H:Hp) (D:Ends),Inv X pins σ H s→t D σ H→wpAny (model X.prog X.w) X.A (exec st X.env) (SP X pins D) X.xe s
def PSs (X:Cx) (st:List Stmt) (t:TS):Prop:=
 ∀ (pins:List (Addr × Obj)) (s:Shared) (σ:St) (H:Hp) (D:Ends),Inv X pins σ H s→t D σ H→wpAny (model X.prog X.w) X.A (execs st X.env) (SP X pins D) X.xe s
theorem thn {α:Type} {t:Sem α} {Q Q':α→Shared→Prop} {M:Model} {A:Around} {E:Value→Shared→Prop} {s:Shared} (h:wpAny M A t Q E s) (hQ:∀ a s,Q a s→Q' a s):wpAny M A t Q' E s:=wpAny_mono h hQ fun _ _ x=>x
end L2
namespace L2
open PySem PySem.Spec PyProof.Rows
section
variable {X:Cx}
theorem bin {a b:Expr} {ta tb:TE} (ha:PE X a ta) (hb:PE X b tb) {pins:List (Addr × Obj)} {s:Shared} {σ:St} {H:Hp} {R:V→V→Hp→Prop} (I:Inv X pins σ H s) (h:ta σ H fun x H1=>tb σ H1 fun y H2=>R x y H2)
  {α:Type} {Q:α→Shared→Prop} {f:Value→Value→Sem α}
  (hf:∀ v u s2 x y H2,Inv X pins σ H2 s2→RelV x v→RelV y u→R x y H2→wpAny (model X.prog X.w) X.A (f v u) Q X.xe s2) :
  wpAny (model X.prog X.w) X.A (eval a X.env) (fun v s₁=>wpAny (model X.prog X.w) X.A (eval b X.env) (fun u s₂=>wpAny (model X.prog X.w) X.A (f v u) Q X.xe s₂) X.xe s₁) X.xe s:=by
 refine thn (ha pins s σ H _ I h) fun v s1 ⟨x,H1,I1,r1,q1⟩=>?_
 refine thn (hb pins s1 σ H1 _ I1 q1) fun u s2 ⟨y,H2,I2,r2,q2⟩=>?_
 exact hf v u s2 x y H2 I2 r1 r2 q2
def tVar (i:Nat):TE:=fun σ H Q=>∃ v,σ[i]?=some (some v)∧Q v H
def tC (v:V):TE:=fun _ H Q=>Q v H
theorem pe_var {i:Nat} {x:Str} {pos:Pos} (hN:X.N[i]?=some x) (hv:Vis X.env.scope x) (hd:(x == ("__debug__" : Str))=false:=by decide) (hcd:(x == ("__classdict__" : Str))=false:=by decide):PE X (.Name x pos) (tVar i):=by
 intro pins s σ H Q I h
 obtain ⟨v,e,h⟩:=h
 obtain ⟨m,hn,hl⟩:=I.loc
 obtain ⟨u,r,l⟩:=hl i x v hN e hv
 have fin:EP X pins σ Q u s:=⟨v,H,I,r,h⟩
 rcases l with ⟨hk,hm⟩ | ⟨hk,c,hc,hcell⟩
 ·exact wpAny_Name (wpAny_loadName_local I.ok.kind hk hn hm fin) hd
 ·rcases hk with hk | hk
  ·exact wpAny_Name (wpAny_loadName_cell I.ok.kind hk hc hcell fin) hd
  ·exact wpAny_Name (wpAny_loadName_free I.ok.kind hk hc hcell fin hcd) hd
theorem qA7 {i j pos}:PE X (.Constant (.int i) j pos) (tC (.int i)):=fun _ _ _ H _ I h=>wpAny_Constant_int ⟨.int i,H,I.tok _,⟨_,rfl⟩,h⟩
theorem pe_bl {b j pos}:PE X (.Constant (.bool b) j pos) (tC (.bl b)):=fun _ _ _ H _ I h=>Constant_bool ⟨.bl b,H,I,rfl,h⟩
theorem qBU {j pos}:PE X (.Constant .none j pos) (tC .non):=fun _ _ _ H _ I h=>Constant_none ⟨.non,H,I,rfl,h⟩
theorem qAT {x j pos}:PE X (.Constant (.str x) j pos) (tC (.str x)):=fun _ _ _ H _ I h=>Calls.Constant_str ⟨.str x,H,I.tok _,⟨_,rfl⟩,h⟩
def Gl (X:Cx) (x:Str):Prop:=X.env.kindOf x=some .globalImplicit
theorem ld_glob {E:Value→Shared→Prop} {pins:List (Addr × Obj)} {s:Shared} {σ:St} {H:Hp} {x:Str} {u:Value} {pos:Pos} {Q:Value→Shared→Prop} (I:Inv X pins σ H s) (hg:Gl X x) (hm:X.mg x=some u) (h:Q u s)
  (hd:(x == ("__debug__" : Str))=false:=by decide):wpAny (model X.prog X.w) X.A (eval (.Name x pos) X.env) Q E s:=
 Calls.Name_function_global I.ok.kind hg (Calls.loadGlobal_global (by rw [I.ok.glob];exact I.mod.glob.keeps I.bk) hm h) hd
theorem ld_blt {E:Value→Shared→Prop} {pins:List (Addr × Obj)} {s:Shared} {σ:St} {H:Hp} {x:Str} {u:Value} {pos:Pos} {Q:Value→Shared→Prop} (I:Inv X pins σ H s) (hg:Gl X x) (hm:X.mg x=none) (hv:bootBuiltins x=some u) (h:Q u s)
  (hn:x ≠ "__name__":=by decide) (hd:(x == ("__debug__" : Str))=false:=by decide):wpAny (model X.prog X.w) X.A (eval (.Name x pos) X.env) Q E s:=by
 obtain ⟨mb,h1,h2⟩:=I.mod.blt
 exact Calls.Name_function_global I.ok.kind hg (Calls.loadGlobal_builtin (by rw [I.ok.glob];exact I.mod.glob.keeps I.bk) hm (by rw [I.ok.blt];exact h1.keeps I.bk) ((h2 x hn).trans hv) h) hd
theorem qCO {x:Str} {v:V} {u:Value} {pos:Pos} (hg:Gl X x) (hm:X.mg x=none) (hv:bootBuiltins x=some u) (r:RelV v u) (hn:x ≠ "__name__":=by decide) (hd:(x == ("__debug__" : Str))=false:=by decide):PE X (.Name x pos) (tC v):=
 fun _ _ _ H _ I h=>ld_blt I hg hm hv ⟨v,H,I,r,h⟩ hn hd
variable {a b:Expr} {ta tb:TE} {pos:Pos}
def PC (X:Cx) (op:CmpOp) (a b:Expr) (t:TE):Prop:=
 ∀ (pins:List (Addr × Obj)) (s:Shared) (σ:St) (H:Hp) (Q:VK),Inv X pins σ H s→t σ H Q→
  wpAny (model X.prog X.w) X.A (eval a X.env) (fun v s₁=>wpAny (model X.prog X.w) X.A (eval b X.env) (fun u s₂=>wpAny (model X.prog X.w) X.A (compareOp op v u) (EP X pins σ Q) X.xe s₂) X.xe s₁) X.xe s
theorem nobehind (b:Expr) {op:CmpOp} (h:op ≠ .In) (h2:op ≠ .NotIn):behindInMarks op b=false:=by
 have e1:(op == CmpOp.In)=false:=by cases op <;> first | rfl | exact absurd rfl h
 have e2:(op == CmpOp.NotIn)=false:=by cases op <;> first | rfl | exact absurd rfl h2
 cases b <;> simp [behindInMarks,e1,e2]
def tIsN (ta:TE):TE:=fun σ H Q=>ta σ H fun x H1=>Q (.bl (decide (x=.non))) H1
def tNotN (ta:TE):TE:=fun σ H Q=>ta σ H fun x H1=>Q (.bl (!decide (x=.non))) H1
theorem RelV.none_iff {x:V} {v:Value} (r:RelV x v):(v == Value.none)=decide (x=.non):=by
 cases x with
 | non=>cases r;rfl
 | bl _=>cases r;rfl
 | int _=>obtain ⟨t,rfl⟩:=r;rfl
 | str _=>obtain ⟨t,rfl⟩:=r;rfl
 | byt _=>obtain ⟨t,rfl⟩:=r;rfl
 | flt _=>obtain ⟨t,rfl⟩:=r;rfl
 | ref _=>cases r;rfl
 | ty _=>cases r;rfl
theorem pc_isN {j pos'} (ha:PE X a ta):PC X .Is a (.Constant .none j pos') (tIsN ta):=by
 intro pins s σ H Q I h
 refine thn (ha pins s σ H _ I h) fun v s1 ⟨x,H1,I1,r1,q1⟩=>?_
 exact Constant_none (is_none_gen ⟨.bl _,H1,I1,by rw [r1.none_iff];rfl,q1⟩)
theorem pc_notN {j pos'} (ha:PE X a ta):PC X .IsNot a (.Constant .none j pos') (tNotN ta):=by
 intro pins s σ H Q I h
 refine thn (ha pins s σ H _ I h) fun v s1 ⟨x,H1,I1,r1,q1⟩=>?_
 exact Constant_none (isnot_none_gen ⟨.bl _,H1,I1,by rw [r1.none_iff];rfl,q1⟩)
def tB (t:TE):TT:=fun σ H Q=>t σ H fun x H1=>∃ c,x=.bl c∧Q c H1
theorem pe_cmp {op:CmpOp} {t:TE} (h:PC X op a b t) (h1:behindInMarks op b=false:=by first | exact nobehind _ (by decide) (by decide) | rfl):PE X (.Compare a [op] [b] pos) t:=fun pins s σ H Q I hw=>wpAny_Compare1 (h pins s σ H Q I hw) h1
theorem qBP {op:CmpOp} {t:TE} (h:PC X op a b t) (h1:behindInMarks op b=false:=by first | exact nobehind _ (by decide) (by decide) | rfl):PT X (.Compare a [op] [b] pos) (tB t):=by
 intro pins s σ H Q I hw
 refine wpAny_isTrue_Compare1 (thn (h pins s σ H _ I hw) fun v s1 h1=>thn h1 fun u s2 h2=>thn h2 fun c s3 ⟨x,H1,I1,r1,q1⟩=>?_) h1
 obtain ⟨d,rfl,q⟩:=q1
 cases r1
 exact wpAny_truthy_bool ⟨H1,I1,q⟩
theorem qBT {e:Expr} {t:TE} (h:PE X e t) (he:∀ whole,isTrue e X.env whole=(do let v ← whole;standAt e.pos;holding [v] (truthy v)):=by intro _;rfl):PT X e (tB t):=by
 intro pins s σ H Q I hw
 refine isTrue_plain (thn (h pins s σ H _ I hw) fun v s1 ⟨x,H1,I1,r1,q1⟩=>?_) (he _)
 obtain ⟨d,rfl,q⟩:=q1
 cases r1
 exact wpAny_truthy_bool ⟨H1,I1,q⟩
variable {tA tB':TT} {rest:List Expr}
def tAnd (t u:TT):TT:=fun σ H Q=>t σ H fun c H1=>if c=true then u σ H1 Q else Q false H1
def tOr (t u:TT):TT:=fun σ H Q=>t σ H fun c H1=>if c=true then Q true H1 else u σ H1 Q
def tNot (t:TT):TT:=fun σ H Q=>t σ H fun c H1=>Q (!c) H1
theorem pw_and1 (ha:PT X a tA):PW X (.BoolOp .And [a] pos) tA:=by
 intro wh pins s σ H Q I h
 refine isTrue_and (thn (ha pins s σ H Q I h) fun c s1 e=>?_)
 cases c with
 | true=>exact isTrue_and_nil e
 | false=>exact e
theorem pw_or1 (ha:PT X a tA):PW X (.BoolOp .Or [a] pos) tA:=by
 intro wh pins s σ H Q I h
 refine isTrue_or (thn (ha pins s σ H Q I h) fun c s1 e=>?_)
 cases c with
 | false=>exact isTrue_or_nil e
 | true=>exact e
theorem pw_and (ha:PT X a tA) (hb:PW X (.BoolOp .And (b::rest) pos) tB'):PW X (.BoolOp .And (a::b::rest) pos) (tAnd tA tB'):=by
 intro wh pins s σ H Q I h
 refine isTrue_and (thn (ha pins s σ H _ I h) fun c s1 ⟨H1,I1,q1⟩=>?_)
 cases c with
 | true=>exact hb wh pins s1 σ H1 Q I1 q1
 | false=>exact ⟨H1,I1,q1⟩
theorem pw_or (ha:PT X a tA) (hb:PW X (.BoolOp .Or (b::rest) pos) tB'):PW X (.BoolOp .Or (a::b::rest) pos) (tOr tA tB'):=by
 intro wh pins s σ H Q I h
 refine isTrue_or (thn (ha pins s σ H _ I h) fun c s1 ⟨H1,I1,q1⟩=>?_)
 cases c with
 | true=>exact ⟨H1,I1,q1⟩
 | false=>exact hb wh pins s1 σ H1 Q I1 q1
theorem qCV (ha:PT X a tA):PT X (.UnaryOp .Not a pos) (tNot tA):=by
 intro pins s σ H Q I h
 exact isTrue_not (ha pins s σ H (fun c H1=>Q (!c) H1) I h)
def tAndV (ta tb:TE):TE:=fun σ H Q=>ta σ H fun x H1=>∃ c,x=.bl c∧if c=true then tb σ H1 Q else Q (.bl false) H1
def tOrV (ta tb:TE):TE:=fun σ H Q=>ta σ H fun x H1=>∃ c,x=.bl c∧if c=true then Q (.bl true) H1 else tb σ H1 Q
def tNotV (ta:TE):TE:=fun σ H Q=>ta σ H fun x H1=>∃ c,x=.bl c∧Q (.bl (!c)) H1
theorem pe_one {op} {t:TE} (h:PE X a t):PE X (.BoolOp op [a] pos) t:=fun pins s σ H Q I hw=>BoolOp_one (h pins s σ H Q I hw)
theorem pe_and (ha:PE X a ta) (hb:PE X (.BoolOp .And (b::rest) pos) tb):PE X (.BoolOp .And (a::b::rest) pos) (tAndV ta tb):=by
 intro pins s σ H Q I h
 refine BoolOp_and (thn (ha pins s σ H _ I h) fun v s1 ⟨x,H1,I1,r1,q1⟩=>?_)
 obtain ⟨c,rfl,q1⟩:=q1
 cases r1
 refine wpAny_truthy_bool ?_
 cases c with
 | true=>exact hb pins s1 σ H1 Q I1 q1
 | false=>exact ⟨.bl false,H1,I1,rfl,q1⟩
theorem pe_or (ha:PE X a ta) (hb:PE X (.BoolOp .Or (b::rest) pos) tb):PE X (.BoolOp .Or (a::b::rest) pos) (tOrV ta tb):=by
 intro pins s σ H Q I h
 refine BoolOp_or (thn (ha pins s σ H _ I h) fun v s1 ⟨x,H1,I1,r1,q1⟩=>?_)
 obtain ⟨c,rfl,q1⟩:=q1
 cases r1
 refine wpAny_truthy_bool ?_
 cases c with
 | false=>exact hb pins s1 σ H1 Q I1 q1
 | true=>exact ⟨.bl true,H1,I1,rfl,q1⟩
theorem pe_not (ha:PE X a ta):PE X (.UnaryOp .Not a pos) (tNotV ta):=by
 intro pins s σ H Q I h
 refine UnaryOp_ (thn (ha pins s σ H _ I h) fun v s1 ⟨x,H1,I1,r1,q1⟩=>?_)
 obtain ⟨c,rfl,q1⟩:=q1
 cases r1
 exact not_of (wpAny_truthy_bool ⟨.bl (!c),H1,I1,rfl,q1⟩)
def tIf (t:TT) (ta tb:TE):TE:=fun σ H Q=>t σ H fun c H1=>if c=true then ta σ H1 Q else tb σ H1 Q
theorem qD8 {c:Expr} (hc:PT X c tA) (ha:PE X a ta) (hb:PE X b tb):PE X (.IfExp c a b pos) (tIf tA ta tb):=by
 intro pins s σ H Q I h
 refine wpAny_IfExp (thn (hc pins s σ H _ I h) fun d s1 ⟨H1,I1,q1⟩=>?_)
 cases d with
 | true=>exact ha pins s1 σ H1 Q I1 q1
 | false=>exact hb pins s1 σ H1 Q I1 q1
end
end L2
namespace L2
open PySem PySem.Spec PyProof.Rows
def SqL (K:PySem.W.Frag) (H:Hp) (a:Addr) (xs:List V):Prop:=
 Rd H a (.lst xs)∨
  ∃ (o:Obj) (its:Array Value) (n:Nat),K.lookup a=some o∧o.cls=.type "list"∧o.dict=none∧o.data=.seq its n∧its.size≤sizeLine∧Vals xs its.toList
def SqT (K:PySem.W.Frag) (H:Hp) (a:Addr) (xs:List V):Prop:=
 Rd H a (.tup xs)∨
  ∃ (o:Obj) (its:Array Value) (n:Nat),K.lookup a=some o∧o.cls=.type "tuple"∧o.data=.seq its n∧its.size≤sizeLine∧Vals xs its.toList
noncomputable def absV:Value→Option V
 | .none=>some .non
 | .bool b=>some (.bl b)
 | .int i _=>some (.int i)
 | .str x _=>some (.str x)
 | .bytes b _=>some (.byt b)
 | .float b _=>some (.flt b)
 | .ref a=>some (.ref a)
 | .type n=>some (.ty n)
 | _=>none
theorem RelV.abs {x:V} {u:Value} (r:RelV x u):absV u=some x:=by
 cases x with
 | non=>cases r;rfl
 | bl _=>cases r;rfl
 | int _=>obtain ⟨t,rfl⟩:=r;rfl
 | str _=>obtain ⟨t,rfl⟩:=r;rfl
 | byt _=>obtain ⟨t,rfl⟩:=r;rfl
 | flt _=>obtain ⟨t,rfl⟩:=r;rfl
 | ref _=>cases r;rfl
 | ty _=>cases r;rfl
theorem RelV.inj {x y:V} {u:Value} (r:RelV x u) (q:RelV y u):x=y:=Option.some.inj (r.abs.symm.trans q.abs)
theorem Vals.inj:∀ {xs ys:List V} {us:List Value},Vals xs us→Vals ys us→xs=ys
 | _,_,_,.nil,.nil=>rfl
 | _,_,_,.cons r t,.cons r' t'=>by rw [r.inj r',Vals.inj t t']
section
variable {X:Cx} {pins:List (Addr × Obj)} {σ:St} {H:Hp} {s:Shared} {a:Addr} {xs ys:List V}
theorem SqL.of {K:PySem.W.Frag} (h:H a=some (.lst xs)):SqL K H a xs:=.inl (.inl h)
theorem SqT.of {K:PySem.W.Frag} (h:H a=some (.tup xs)):SqT K H a xs:=.inl (.inl h)
theorem Inv.list (I:Inv X pins σ H s) (h:SqL X.K H a xs):∃ its:List Value,Vals xs its∧PlainL s.heap a its.toArray∧xs.length≤sizeLine:=by
 rcases h with h | ⟨o,its,n,hk,hc,hd,hs,hz,r⟩
 ·obtain ⟨z,its,n,r,e⟩:=h.ok I.hok
  exact ⟨its,r,⟨_,n,e,rfl,rfl,rfl⟩,z⟩
 ·refine ⟨its.toList,r,⟨o,n,I.kIn a o hk,hc,hd,by simpa using hs⟩,?_⟩
  have e:=r.length
  simp only [Array.length_toList] at e
  lia
theorem Inv.tuple (I:Inv X pins σ H s) (h:SqT X.K H a xs):∃ its:List Value,Vals xs its∧IsTup s.heap a its.toArray∧xs.length≤sizeLine:=by
 rcases h with h | ⟨o,its,n,hk,hc,hs,hz,r⟩
 ·obtain ⟨z,its,r,p⟩:=h.ok I.hok
  exact ⟨its,r,p,z⟩
 ·refine ⟨its.toList,r,⟨o,I.kIn a o hk,hc,n,by simpa using hs⟩,?_⟩
  have e:=r.length
  simp only [Array.length_toList] at e
  lia
theorem Inv.list_inj (I:Inv X pins σ H s) (h:SqL X.K H a xs) (h':SqL X.K H a ys):xs=ys:=by
 obtain ⟨its,r,⟨o,n,e,_,_,d⟩,_⟩:=I.list h
 obtain ⟨its',r',⟨o',n',e',_,_,d'⟩,_⟩:=I.list h'
 rw [e] at e';cases e'
 rw [d] at d'
 injection d' with d1 _
 have:its=its':=by simpa using congrArg Array.toList d1
 subst this
 exact r.inj r'
theorem Inv.tuple_inj (I:Inv X pins σ H s) (h:SqT X.K H a xs) (h':SqT X.K H a ys):xs=ys:=by
 obtain ⟨its,r,⟨o,e,_,n,d⟩,_⟩:=I.tuple h
 obtain ⟨its',r',⟨o',e',_,n',d'⟩,_⟩:=I.tuple h'
 rw [e] at e';cases e'
 rw [d] at d'
 injection d' with d1 _
 have:its=its':=by simpa using congrArg Array.toList d1
 subst this
 exact r.inj r'
end
noncomputable abbrev Cx.wish (X:Cx) (E:Value→Shared→Prop):Cx:={ X with xe:=E }
noncomputable abbrev Cx.nox (X:Cx):Cx:=X.wish fun _ _=>False
theorem Cx.Ok.wish {X:Cx} (ok:X.Ok) (E:Value→Shared→Prop):(X.wish E).Ok:=
 ⟨ok.mod,ok.kind,ok.glob,ok.blt,ok.above,ok.inj,ok.has,ok.cab,ok.hd,ok.frames,ok.stk,ok.exf,ok.bs,ok.bsz,ok.noex,ok.exfs,ok.funs,ok.frf⟩
theorem Cx.Ok.unwish {X:Cx} {E:Value→Shared→Prop} (ok:(X.wish E).Ok):X.Ok:=
 ⟨ok.mod,ok.kind,ok.glob,ok.blt,ok.above,ok.inj,ok.has,ok.cab,ok.hd,ok.frames,ok.stk,ok.exf,ok.bs,ok.bsz,ok.noex,ok.exfs,ok.funs,ok.frf⟩
section
variable {X:Cx} {pins:List (Addr × Obj)} {σ:St} {H:Hp} {s:Shared} {E:Value→Shared→Prop}
theorem Inv.wish (I:Inv X pins σ H s) (E:Value→Shared→Prop):Inv (X.wish E) pins σ H s:=⟨I.ok.wish E,I.os,I.bare,I.base,I.loc,I.cell,I.free,I.freeC,I.pin,I.hok,I.len⟩
theorem Inv.unwish (I:Inv (X.wish E) pins σ H s):Inv X pins σ H s:=⟨I.ok.unwish,I.os,I.bare,I.base,I.loc,I.cell,I.free,I.freeC,I.pin,I.hok,I.len⟩
theorem SP.unwish {D:Ends} {f:Flow} {s':Shared} (h:SP (X.wish E) pins D f s'):SP X pins D f s':=by
 cases f with
 | next=>obtain ⟨σ',H',I,q⟩:=h;exact ⟨σ',H',I.unwish,q⟩
 | brk=>obtain ⟨σ',H',I,q⟩:=h;exact ⟨σ',H',I.unwish,q⟩
 | cont=>obtain ⟨σ',H',I,q⟩:=h;exact ⟨σ',H',I.unwish,q⟩
 | ret u=>obtain ⟨v,σ',H',I,r,q⟩:=h;exact ⟨v,σ',H',I.unwish,r,q⟩
theorem PSs.nox {st:List Stmt} {t:TS} (h:PSs X.nox st t):PSs X st t:=fun pins s σ H D I hw=>
 wpAny_mono (h pins s σ H D (I.wish _) hw) (fun _ _ q=>q.unwish) fun _ _ z=>False.elim z
end
section
variable {X:Cx} {st:Stmt} {rest:List Stmt} {t u:TS} {e:Expr} {te:TE} {pos:Pos}
def tNext:TS:=fun D σ H=>D.nx σ H
def tSeq (t u:TS):TS:=fun D σ H=>t { D with nx:=u D } σ H
theorem qAH:PSs X [] tNext:=fun _ _ σ H _ I h=>wpAny_execs_nil ⟨σ,H,I,h⟩
theorem qA4 (h1:PS X st t) (h2:PSs X rest u):PSs X (st::rest) (tSeq t u):=by
 intro pins s σ H D I h
 refine wpAny_execs_cons (thn (h1 pins s σ H { D with nx:=u D } I h) fun f s1 q=>?_)
 cases f with
 | next=>
  obtain ⟨σ',H',I',q⟩:=q
  exact h2 pins s1 σ' H' D I' q
 | ret v=>exact q
 | brk=>exact q
 | cont=>exact q
theorem qA5 (h1:PS X st t):PSs X [st] t:=by
 intro pins s σ H D I h
 refine wpAny_execs_cons (thn (h1 pins s σ H D I h) fun f s1 q=>?_)
 cases f with
 | next=>exact wpAny_execs_nil q
 | ret v=>exact q
 | brk=>exact q
 | cont=>exact q
def tCont:TS:=fun D σ H=>D.ct σ H
theorem ps_continue:PS X (.Continue pos) tCont:=fun _ _ σ H _ I h=>wpAny_Continue ⟨σ,H,I,h⟩
theorem Inv.quiet {pins:List (Addr × Obj)} {σ:St} {H:Hp} {s:Shared} (I:Inv X pins σ H s):interactive X.env=false:=by simp [interactive,I.ok.kind]
def tDrop (te:TE):TS:=fun D σ H=>te σ H fun _ H1=>D.nx σ H1
theorem qBJ (he:PE X e te) (hs:swapsWith e none pos.line X.env=pure false:=by rfl):PS X (.Expr e pos) (tDrop te):=by
 intro pins s σ H D I h
 exact wpAny_Expr_any (thn (he pins s σ H _ I h) fun v s1 ⟨x,H1,I1,r1,q1⟩=>⟨σ,H1,I1,q1⟩) I.quiet hs
def tRet (te:TE):TS:=fun D σ H=>te σ H D.rt
theorem qAE (he:PE X e te):PS X (.Return (some e) pos) (tRet te):=by
 intro pins s σ H D I h
 exact wpAny_Return_some (thn (he pins s σ H _ I h) fun v s1 ⟨x,H1,I1,r1,q1⟩=>⟨x,σ,H1,I1,r1,q1⟩)
def tIfS (c:TT) (t u:TS):TS:=fun D σ H=>c σ H fun b H1=>if b=true then t D σ H1 else u D σ H1
theorem ps_if {c:Expr} {a b:List Stmt} {tc:TT} (hc:PT X c tc) (ha:PSs X a t) (hb:PSs X b u):PS X (.If c a b pos) (tIfS tc t u):=by
 intro pins s σ H D I h
 refine wpAny_If (thn (hc pins s σ H _ I h) fun d s1 ⟨H1,I1,q1⟩=>?_)
 cases d with
 | true=>exact ha pins s1 σ H1 D I1 q1
 | false=>exact hb pins s1 σ H1 D I1 q1
def tNever:TS:=fun _ _ _=>False
theorem pss_never {sts:List Stmt}:PSs X sts tNever:=fun _ _ _ _ _ _ h=>h.elim
end
abbrev TG:=V→St→Hp→(St→Hp→Prop)→Prop
abbrev TGs:=List V→St→Hp→(St→Hp→Prop)→Prop
def PG (X:Cx) (target:Expr) (t:TG):Prop:=
 ∀ (pins:List (Addr × Obj)) (s:Shared) (σ:St) (H:Hp) (v:V) (u:Value) (Q:St→Hp→Prop),Inv X pins σ H s→RelV v u→t v σ H Q→
  wpAny (model X.prog X.w) X.A (assign target X.env u) (fun _ s'=>∃ σ' H',Inv X pins σ' H' s'∧Q σ' H') X.xe s
def PGs (X:Cx) (ts:List Expr) (t:TGs):Prop:=
 ∀ (pins:List (Addr × Obj)) (s:Shared) (σ:St) (H:Hp) (vs:List V) (us:List Value) (Q:St→Hp→Prop),Inv X pins σ H s→Vals vs us→t vs σ H Q→
  wpAny (model X.prog X.w) X.A (assignInOrder ((assignEach ts X.env).map (·.2)) us) (fun _ s'=>∃ σ' H',Inv X pins σ' H' s'∧Q σ' H') X.xe s
abbrev TSet:=V→V→V→Hp→(Hp→Prop)→Prop
def PSet (X:Cx) (t:TSet):Prop:=
 ∀ (pins:List (Addr × Obj)) (s:Shared) (σ:St) (H:Hp) (o i v:V) (ov iv u:Value) (Q:Hp→Prop),Inv X pins σ H s→RelV o ov→RelV i iv→RelV v u→t o i v H Q→
  wpAny (model X.prog X.w) X.A (setItem ov iv u) (fun _ s'=>∃ H',Inv X pins σ H' s'∧Q H') X.xe s
section
variable {X:Cx} {pos:Pos}
def gName (i:Nat):TG:=fun v σ H Q=>Q (σ.set i (some v)) H
theorem qAN {i:Nat} {x:Str} (hN:X.N.Nodup) (hi:X.N[i]?=some x) (hx:Loc X.env.scope x) (hf:X.fn x=true∨X.env.scope.names.lookup x=some .local:=by first | exact .inl rfl | exact .inr rfl | assumption):PG X (.Name x pos) (gName i):=by
 intro pins s σ H v u Q I r h
 exact wpAny_assign_Name (store_ok I hN hi hx r (fun s' I'=>⟨_,H,I',h⟩) hf)
def gNil:TGs:=fun vs σ H Q=>vs=[]∧Q σ H
def gCons (t:TG) (u:TGs):TGs:=fun vs σ H Q=>∃ v r,vs=v::r∧t v σ H fun σ' H'=>u r σ' H' Q
theorem pgs_nil:PGs X [] gNil:=by
 intro pins s σ H vs us Q I r h
 obtain ⟨e,h⟩:=h
 subst e
 cases r
 exact assignInOrder_nil ⟨σ,H,I,h⟩
theorem qB2 {e:Expr} {es:List Expr} {t:TG} {u:TGs} (h1:PG X e t) (h2:PGs X es u)
  (hs:(assignEach (e::es) X.env).map (·.2)=assign e X.env::(assignEach es X.env).map (·.2):=by rfl):PGs X (e::es) (gCons t u):=by
 intro pins s σ H vs us Q I r h
 obtain ⟨v,vr,e1,h⟩:=h
 subst e1
 cases r with
 | cons r rr=>
  rw [hs]
  refine assignInOrder_cons (thn (h1 pins s σ H _ _ _ I r h) fun _ s1 ⟨σ1,H1,I1,q1⟩=>?_)
  exact h2 pins s1 σ1 H1 _ _ Q I1 rr q1
def gTup (K:PySem.W.Frag) (n:Nat) (t:TGs):TG:=fun v σ H Q=>∃ a xs,v=.ref a∧SqT K H a xs∧xs.length=n∧t xs σ H Q
theorem pg_tup {es:List Expr} {k:Nat} {t:TGs} {n:Nat} (hc:X.calm=true) (h:PGs X es t)
  (hn:(assignEach es X.env).length=n:=by rfl) (hst:(assignEach es X.env).findIdx? (·.1)=none:=by rfl):PG X (.Tuple es k pos) (gTup X.K n t):=by
 intro pins s σ H v u Q I r hw
 obtain ⟨a,xs,e1,hq,hl,hw⟩:=hw
 subst e1
 cases r
 obtain ⟨its,rv,ht,hz⟩:=I.tuple hq
 refine assign_Tuple_tuple (I.ok.hd hc) ht (by simp [hn,← hl,rv.length]) hst fun h' hx=>?_
 have I1:Inv X pins σ H { s with heap:=h' }:=I.kept (t':=s.toks) fun b o e=>hx b o (Nat.ne_of_lt (Heap.lt_size e)) e
 exact h pins _ σ H xs _ Q I1 (by simpa using rv) hw
def gSub (to ti:TE) (t:TSet):TG:=fun v σ H Q=>to σ H fun o H1=>ti σ H1 fun i H2=>t o i v H2 fun H3=>Q σ H3
theorem pg_sub {o i:Expr} {to ti:TE} {t:TSet} (ho:PE X o to) (hi:PE X i ti) (hs:PSet X t)
  (ha:∀ v,assign (.Subscript o i pos) X.env v=(do
   let ov ← holding [v] (eval o X.env)
   let iv ← holding [v,ov] (eval i X.env)
   standAt pos
   holding [v,ov,iv] (setItem ov iv v)
   release [v,ov,iv] []):=by intro _;rfl):PG X (.Subscript o i pos) (gSub to ti t):=by
 intro pins s σ H v u Q I r h
 rw [ha]
 refine wpAny_bind (wpAny_holding (thn (ho pins s σ H _ I h) fun ov s1 ⟨x,H1,I1,r1,q1⟩=>?_))
 refine wpAny_bind (wpAny_holding (thn (hi pins s1 σ H1 _ I1 q1) fun iv s2 ⟨y,H2,I2,r2,q2⟩=>?_))
 refine wpAny_bind (wpAny_standAt (wpAny_bind (wpAny_holding (thn (hs pins s2 σ H2 x y v ov iv u _ I2 r1 r2 r q2) fun _ s3 ⟨H3,I3,q3⟩=>?_))))
 exact wpAny_release ⟨σ,H3,I3,q3⟩
def tAsg (te:TE) (g:TG):TS:=fun D σ H=>te σ H fun x H1=>g x σ H1 D.nx
theorem ps_asg {tg e:Expr} {te:TE} {g:TG} (he:PE X e te) (hg:PG X tg g) (hs:swapsWithSole [tg] e pos.line X.env=pure false:=by rfl) (hw:swappedStores [tg] e X.env=pure none:=by rfl)
  (h1:(assignEach [tg] X.env).map (·.2)=[assign tg X.env]:=by rfl):PS X (.Assign [tg] e pos) (tAsg te g):=by
 intro pins s σ H D I h
 refine wpAny_Assign_stores (thn (he pins s σ H _ I h) fun v s1 ⟨x,H1,I1,r1,q1⟩=>?_) hs hw
 rw [h1]
 exact thn (hg pins s1 σ H1 x v _ I1 r1 q1) fun _ s2 q=>q
theorem qAB {i:Nat} {x:Str} {e:Expr} {te:TE} {pos':Pos} (hN:X.N.Nodup) (hi:X.N[i]?=some x) (hx:Loc X.env.scope x) (he:PE X e te) (hs:swapsWith e (some (.Name x pos')) pos.line X.env=pure false:=by rfl) (hf:X.fn x=true∨X.env.scope.names.lookup x=some .local:=by first | exact .inl rfl | exact .inr rfl | assumption) :
  PS X (.Assign [.Name x pos'] e pos) (tAsg te (gName i)):=by
 intro pins s σ H D I h
 refine wpAny_Assign_Name (thn (he pins s σ H _ I h) fun v s1 ⟨y,H1,I1,r1,q1⟩=>?_) hs
 exact store_ok I1 hN hi hx r1 (fun s2 I2=>⟨_,H1,I2,q1⟩) hf
def tPar (i j:Nat) (ta:TA):TS:=fun D σ H=>ta σ H fun vs H1=>∃ v w,vs=[v,w]∧D.nx ((σ.set i (some v)).set j (some w)) H1
theorem ps_par {i j:Nat} {x y:Str} {a b:Expr} {ta:TA} {px py pt:Pos} {kt k2 pt2} (hc:X.calm=true) (hN:X.N.Nodup) (hi:X.N[i]?=some x) (hj:X.N[j]?=some y) (hij:i ≠ j)
  (hx:X.env.scope.names.lookup x=some .local) (hy:X.env.scope.names.lookup y=some .local) (ha:PA X [a,b] ta)
  (hw:swappedStores [.Tuple [.Name x px,.Name y py] kt pt] (.Tuple [a,b] k2 pt2) X.env=pure (some [x,y]))
  (hs:swapsWithSole [.Tuple [.Name x px,.Name y py] kt pt] (.Tuple [a,b] k2 pt2) pos.line X.env=pure false:=by rfl) :
  PS X (.Assign [.Tuple [.Name x px,.Name y py] kt pt] (.Tuple [a,b] k2 pt2) pos) (tPar i j ta):=by
 intro pins s σ H D I h
 rw [exec_Assign_arm]
 refine wpAny_bind (wpAny_standAt ?_)
 rw [hs]
 refine wpAny_bind (wpAny_pure ?_)
 rw [if_neg (by decide)]
 refine wpAny_bind (Tuple_ (thn (ha _ pins s σ H _ I h) fun us s1 ⟨vs,H1,I1,r1,q1⟩=>?_))
 obtain ⟨v,w,e1,q1⟩:=q1
 subst e1
 obtain ⟨u1,u2,rfl,rv,rw'⟩:∃ u1 u2,us=[u1,u2]∧RelV v u1∧RelV w u2:=by
  cases r1 with
  | cons p q=>
   cases q with
   | cons p' q'=>
    cases q'
    exact ⟨_,_,rfl,p,p'⟩
 refine wpAny_newObj_type ?_ (by show 2≤sizeLine;decide)
 have I2:Inv X pins σ H1 { s1 with heap:=s1.heap.push { cls:=.type "tuple",data:=.seq [u1,u2].toArray } }:=I1.kept (t':=s1.toks) fun b o e=>Heap.get?_push_of_some _ e
 rw [hw]
 refine wpAny_bind (wpAny_pure ?_)
 show wpAny (model X.prog X.w) X.A (do rule "assign.swapped-stores";let items ← unpackItems (.ref s1.heap.objs.size) 2 none;assignInOrder [fun v=>bindName X.env y v,fun v=>bindName X.env x v] items.reverse;pure Flow.next) _ _ _
 refine wpAny_bind (wpAny_rule (wpAny_bind (unpackItems_tuple (items:=#[u1,u2]) (I.ok.hd hc) (IsTup.new s1.heap _) fun h' hx'=>?_)))
 have I3:=I2.kept (h':=h') (t':=s1.toks) fun b o e=>hx' b o (Nat.ne_of_lt (Heap.lt_size e)) e
 show wpAny _ _ (assignInOrder [fun v=>bindName X.env y v,fun v=>bindName X.env x v] [u2,u1] >>= fun _=>pure Flow.next) _ _ _
 refine wpAny_bind (assignInOrder_cons (wpAny_bindName (store_ok I3 hN hj (.inl hy) rw' (fun s2 I4=>?_) (.inr hy))))
 refine assignInOrder_cons (wpAny_bindName (store_ok I4 hN hi (.inl hx) rv (fun s3 I5=>assignInOrder_nil (wpAny_pure ?_)) (.inr hx)))
 rw [List.set_comm _ _ (Ne.symm hij)] at I5
 exact ⟨_,H1,I5,q1⟩
end
section
variable {X:Cx} {pos:Pos}
def tWhile (c:TT) (tb:TS):TS:=fun D σ H=>∃ W:Nat→St→Hp→Prop,(∃ m,W m σ H)∧∀ m σ H,W m σ H→
 c σ H fun b H1=>if b=true then ∃ N:St→Hp→Prop,(∀ σ' H',N σ' H'→∃ m',m'<m∧W m' σ' H')∧tb { D with nx:=N,ct:=N,bk:=D.nx } σ H1 else D.nx σ H1
theorem ps_while {c:Expr} {body:List Stmt} {tc:TT} {tb:TS} (hp:PassesOwn (model X.prog X.w) X.A X.env X.xe) (hc:PT X c tc) (hb:PSs X body tb):PS X (.While c body [] pos) (tWhile tc tb):=by
 intro pins s σ H D I h
 obtain ⟨W,⟨m0,w0⟩,turn⟩:=h
 refine wpAny_While (codeAny_whileLoop (fun n s'=>∃ σ' H',Inv X pins σ' H' s'∧W n σ' H') ?_ m0 ⟨σ,H,I,w0⟩)
 rintro n s1 ⟨σ1,H1,I1,w1⟩
 refine wpAny_passesOwn hp (thn (hc pins s1 σ1 H1 _ I1 (turn n σ1 H1 w1)) fun b s2 ⟨H2,I2,q2⟩=>?_)
 cases b with
 | true=>
  obtain ⟨N,hN,q2⟩:=q2
  rw [if_pos rfl]
  refine wpAny_passesOwn hp (thn (hb pins s2 σ1 H2 _ I2 q2) fun f s3 q3=>?_)
  cases f with
  | next=>
   obtain ⟨σ3,H3,I3,n3⟩:=q3
   obtain ⟨m',hm,w3⟩:=hN σ3 H3 n3
   exact ⟨m',hm,σ3,H3,I3,w3⟩
  | cont=>
   obtain ⟨σ3,H3,I3,n3⟩:=q3
   obtain ⟨m',hm,w3⟩:=hN σ3 H3 n3
   exact ⟨m',hm,σ3,H3,I3,w3⟩
  | brk=>exact q3
  | ret v=>exact q3
 | false=>
  rw [if_neg Bool.false_ne_true]
  exact wpAny_execs_nil ⟨σ1,H2,I2,q2⟩
end
structure It where
 go:Nat→Hp→Prop
 yld:Nat→Hp→V→Hp→Prop
 stop:Nat→Hp→Prop
def FpOk (X:Cx) (pins:List (Addr × Obj)) (H:Hp) (b:Addr):Prop:=
 H b=none∧b ≠ X.env.locals∧b ∉ X.fs∧(b ∈ X.ex∨X.s₀.heap.objs.size≤b)∧(∀ x c,X.env.cells.lookup x=some c→c ≠ b)∧∀ p ∈ X.pn++pins,p.1 ≠ b
theorem Inv.fpOk {X:Cx} {pins:List (Addr × Obj)} {σ:St} {H H':Hp} {s:Shared} {b:Addr} (I:Inv X pins σ H s) (hb:s.heap.objs.size≤b) (hn:H' b=none):FpOk X pins H' b:=by
 refine ⟨hn,Nat.ne_of_gt (Nat.lt_of_lt_of_le I.lt hb),I.nofs hb,.inr (Nat.le_trans I.sz hb),fun x c e z=>?_,fun p hp z=>?_⟩
 ·obtain ⟨v,q⟩:=I.cell x c e
  exact absurd (Nat.lt_of_lt_of_le q.lt (by rw [z];exact hb)) (Nat.lt_irrefl _)
 ·exact absurd (Nat.lt_of_lt_of_le (Heap.lt_size (I.pin p hp).1) (by rw [z];exact hb)) (Nat.lt_irrefl _)
structure Turn (P:Program) (w:World) (K:PySem.W.Frag) (tg:Expr) (J:It) (fp:List Addr) (it:Addr) (tn:Nat→Heap→Prop):Prop where
 mem:it ∈ fp
 obj:∀ i h,tn i h→∀ b ∈ fp,∃ o,h.get? b=some o∧∀ v,o.data ≠ .cell v
 keep:∀ i h h',tn i h→(∀ b ∈ fp,∀ o,h.get? b=some o→h'.get? b=some o)→tn i h'
 item:∀ (X:Cx),X.prog=P→X.w=w→X.K=K→X.calm=true→∀ (i:Nat) (pins:List (Addr × Obj)) (s:Shared) (σ:St) (H:Hp) (E:Value→Shared→Prop),Inv X pins σ H s→(∀ b ∈ fp,FpOk X pins H b)→tn i s.heap→J.go i H→
  wpAny (model P w) X.A (pyNext (.ref it)) (fun r s1=>∃ u,r=some u∧
   wpAny (model P w) X.A (letOwnedTupleGo tg (.ref it) u) (fun _ s2=>∃ x H',Inv X pins σ H' s2∧RelV x u∧J.yld i H x H'∧tn (i+1) s2.heap∧∀ b ∈ fp,H' b=none) E s1) E s
 done:∀ (X:Cx),X.prog=P→X.w=w→X.K=K→X.calm=true→∀ (i:Nat) (pins:List (Addr × Obj)) (s:Shared) (σ:St) (H:Hp) (E:Value→Shared→Prop),Inv X pins σ H s→(∀ b ∈ fp,FpOk X pins H b)→tn i s.heap→J.stop i H→
  wpAny (model P w) X.A (pyNext (.ref it)) (fun r s1=>r=none∧Inv X pins σ H s1) E s
 self:∀ (A:Around) (i:Nat) (s:Shared) (Q:Value→Shared→Prop) (E:Value→Shared→Prop),tn i s.heap→Q (.ref it) s→wpAny (model P w) A (pyIter (.ref it)) Q E s
abbrev TI:=St→Hp→(It→Hp→Prop)→Prop
def PIE (X:Cx) (pins:List (Addr × Obj)) (σ:St) (tg:Expr) (R:It→Hp→Prop) (itv:Value) (s2:Shared):Prop:=
 ∃ (it:Addr) (fp:List Addr) (tn:Nat→Heap→Prop) (J:It) (H':Hp),itv=.ref it∧Inv X pins σ H' s2∧Turn X.prog X.w X.K tg J fp it tn∧tn 0 s2.heap∧(∀ b ∈ fp,FpOk X pins H' b)∧R J H'
def PI (X:Cx) (tg iter:Expr) (wi:TI):Prop:=
 ∀ (pins:List (Addr × Obj)) (s:Shared) (σ:St) (H:Hp) (R:It→Hp→Prop),Inv X pins σ H s→wi σ H R→
  wpAny (model X.prog X.w) X.A (eval iter X.env) (fun v s1=>wpAny (model X.prog X.w) X.A (pyIter v) (PIE X pins σ tg R) X.xe s1) X.xe s
theorem go_of {M:Model} {A:Around} {E:Value→Shared→Prop} {s:Shared} {tg:Expr} {it:Addr} {u:Value} {o:Obj} {n:String} {vs:Array Value} {Q:Unit→Shared→Prop} (ho:s.heap.get? it=some o) (hc:o.cls=.type n) (hd:o.data=.fields vs)
  (hn:["enumerate","zip","dict_itemiterator","dict_reverseitemiterator","odict_iterator","itertools.zip_longest","itertools.pairwise"].contains n=false) (hQ:Q () s):wpAny M A (letOwnedTupleGo tg (.ref it) u) Q E s:=by
 unfold letOwnedTupleGo
 cases tg <;> first
  | exact wpAny_pure hQ
  | (cases u <;> first
    | exact wpAny_pure hQ
    | (refine wpAny_bind (wpAny_load ho ?_)
       rw [hc,hd]
       show wpAny M A (if (["enumerate","zip","dict_itemiterator","dict_reverseitemiterator","odict_iterator","itertools.zip_longest","itertools.pairwise"].contains n && vs[0]? == some (rawInt _))=true then _ else _) Q E s
       rw [if_neg (by intro h;rw [hn,Bool.false_and] at h;cases h)]
       exact wpAny_pure hQ))
def Itl (K:PySem.W.Frag) (a:Addr):It:=
 ⟨fun i H=>∃ xs x,SqL K H a xs∧xs[i]?=some x,fun i H x H'=>H'=H∧∀ xs,SqL K H a xs→xs[i]?=some x,fun i H=>∃ xs,SqL K H a xs∧xs.length≤i⟩
def Itt (K:PySem.W.Frag) (a:Addr):It:=
 ⟨fun i H=>∃ xs x,SqT K H a xs∧xs[i]?=some x,fun i H x H'=>H'=H∧∀ xs,SqT K H a xs→xs[i]?=some x,fun i H=>∃ xs,SqT K H a xs∧xs.length≤i⟩
def Itr (lo:Int) (n:Nat):It:=⟨fun i _=>i<n,fun i H x H'=>H'=H∧x=.int (lo+i),fun i _=>n≤i⟩
theorem turn_list {P:Program} {w:World} {K:PySem.W.Frag} {tg:Expr} (a it:Addr):Turn P w K tg (Itl K a) [it] it (fun i h=>h.IsListIter it a i) where
 mem:=by simp
 obj:=fun i h st b hb=>by
  have e:b=it:=by simpa using hb
  subst e
  obtain ⟨o,e,c,d⟩:=st
  exact ⟨o,e,fun v z=>by rw [d] at z;cases z⟩
 keep:=fun i h h' st k=>st.at fun o e=>k it (by simp) o e
 item:=by
  intro X hP hw hK hc i pins s σ H E I hf st hg
  subst hP hw hK
  obtain ⟨xs,x,hq,hx⟩:=hg
  obtain ⟨its,rv,p,hz⟩:=I.list hq
  obtain ⟨u,hu,ru⟩:=rv.get hx
  obtain ⟨f0,f1,f2,f3,f4,f5⟩:=hf it (by simp)
  refine wpAny_pyNext_list_item st p.isList (x:=u) (by simpa using hu) fun h' st' sb=>?_
  have I1:Inv X pins σ H { s with heap:=h' }:=I.turned (t':=s.toks) (fun b o hb e=>(sb.2 b hb).trans e) f0 f1 f3 f4 f5
  obtain ⟨o,e,c,d⟩:=id st'
  exact ⟨u,rfl,go_of (s:={ s with heap:=h' }) e c d (by decide) ⟨x,H,I1,ru,⟨rfl,fun ys hy=>by rw [I.list_inj hy hq];exact hx⟩,st',fun b hb=>(hf b hb).1⟩⟩
 done:=by
  intro X hP hw hK hc i pins s σ H E I hf st hg
  subst hP hw hK
  obtain ⟨xs,hq,hx⟩:=hg
  obtain ⟨its,rv,p,hz⟩:=I.list hq
  obtain ⟨f0,f1,f2,f3,f4,f5⟩:=hf it (by simp)
  have hl:=rv.length
  exact wpAny_pyNext_list_end (I.ok.hd hc) st p.isList (by simp;lia) fun h' eb=>⟨rfl,I.turned (t':=s.toks) (fun b o hb e=>eb b o hb e) f0 f1 f3 f4 f5⟩
 self:=fun _ _ _ _ _ st h=>wpAny_pyIter_listiter st h
theorem turn_tuple {P:Program} {w:World} {K:PySem.W.Frag} {tg:Expr} (a it:Addr):Turn P w K tg (Itt K a) [it] it (fun i h=>h.IsTupleIter it a i) where
 mem:=by simp
 obj:=fun i h st b hb=>by
  have e:b=it:=by simpa using hb
  subst e
  obtain ⟨o,e,c,d⟩:=st
  exact ⟨o,e,fun v z=>by rw [d] at z;cases z⟩
 keep:=fun i h h' st k=>st.at fun o e=>k it (by simp) o e
 item:=by
  intro X hP hw hK hc i pins s σ H E I hf st hg
  subst hP hw hK
  obtain ⟨xs,x,hq,hx⟩:=hg
  obtain ⟨its,rv,p,hz⟩:=I.tuple hq
  obtain ⟨u,hu,ru⟩:=rv.get hx
  obtain ⟨f0,f1,f2,f3,f4,f5⟩:=hf it (by simp)
  refine wpAny_pyNext_tuple_item st (show s.heap.IsTuple a its.toArray from p) (x:=u) (by simpa using hu) fun h' st' sb=>?_
  have I1:Inv X pins σ H { s with heap:=h' }:=I.turned (t':=s.toks) (fun b o hb e=>(sb.2 b hb).trans e) f0 f1 f3 f4 f5
  obtain ⟨o,e,c,d⟩:=id st'
  exact ⟨u,rfl,go_of (s:={ s with heap:=h' }) e c d (by decide) ⟨x,H,I1,ru,⟨rfl,fun ys hy=>by rw [I.tuple_inj hy hq];exact hx⟩,st',fun b hb=>(hf b hb).1⟩⟩
 done:=by
  intro X hP hw hK hc i pins s σ H E I hf st hg
  subst hP hw hK
  obtain ⟨xs,hq,hx⟩:=hg
  obtain ⟨its,rv,p,hz⟩:=I.tuple hq
  obtain ⟨f0,f1,f2,f3,f4,f5⟩:=hf it (by simp)
  have hl:=rv.length
  exact wpAny_pyNext_tuple_end (I.ok.hd hc) st (show s.heap.IsTuple a its.toArray from p) (by simp;lia) fun h' eb=>⟨rfl,I.turned (t':=s.toks) (fun b o hb e=>eb b o hb e) f0 f1 f3 f4 f5⟩
 self:=fun _ _ _ _ _ st h=>wpAny_pyIter_tupleiter st h
theorem turn_range {P:Program} {w:World} {K:PySem.W.Frag} {tg:Expr} (it:Addr) (lo:Int) (n:Nat):Turn P w K tg (Itr lo n) [it] it (fun i h=>IsRangeIter h it (lo+(i:Nat) * 1) ((n:Int) - (i:Nat)) 1) where
 mem:=by simp
 obj:=fun i h st b hb=>by
  have e:b=it:=by simpa using hb
  subst e
  exact ⟨_,st,fun v z=>by
   have z':Data.fields _=Data.cell v:=z
   cases z'⟩
 keep:=fun i h h' st k=>k it (by simp) _ st
 item:=by
  intro X hP hw hK hc i pins s σ H E I hf st hg
  subst hP hw hK
  obtain ⟨f0,f1,f2,f3,f4,f5⟩:=hf it (by simp)
  have W:=Walks.range (prog:=X.prog) (w:=X.w) (I.ok.hd hc) it lo 1 n
  refine W.item i s _ _ hg st fun v h' tk hv st' kk=>?_
  obtain ⟨t,rfl⟩:=hv
  have I1:Inv X pins σ H { s with heap:=h',toks:=tk }:=I.turned (fun b o hb e=>kk b o (by simpa using hb) e) f0 f1 f3 f4 f5
  refine ⟨_,rfl,go_of (s:={ s with heap:=h',toks:=tk }) (n:="range_iterator") st' rfl rfl (by decide) ⟨.int (lo+i),H,I1,⟨t,?_⟩,⟨rfl,rfl⟩,st',fun b hb=>(hf b hb).1⟩⟩
  rw [Int.mul_one]
 done:=by
  intro X hP hw hK hc i pins s σ H E I hf st hg
  subst hP hw hK
  obtain ⟨f0,f1,f2,f3,f4,f5⟩:=hf it (by simp)
  exact wpAny_pyNext_range_end (I.ok.hd hc) st (by have:n≤i:=hg;lia) fun h' eb=>⟨rfl,I.turned (t':=s.toks) (fun b o hb e=>eb b o hb e) f0 f1 f3 f4 f5⟩
 self:=fun _ _ _ _ _ st h=>wpAny_pyIter_rangeiter st h
end L2
namespace L2
open PySem PySem.Spec PyProof.Rows
section
variable {X:Cx} {tg:Expr}
def iList (K:PySem.W.Frag) (tl:TE):TI:=fun σ H R=>tl σ H fun x H1=>∃ a,x=.ref a∧(∃ xs,SqL K H1 a xs)∧R (Itl K a) H1
def iTup (K:PySem.W.Frag) (tl:TE):TI:=fun σ H R=>tl σ H fun x H1=>∃ a,x=.ref a∧(∃ xs,SqT K H1 a xs)∧R (Itt K a) H1
theorem qB1 {l:Expr} {tl:TE} (hl:PE X l tl):PI X tg l (iList X.K tl):=by
 intro pins s σ H R I h
 refine thn (hl pins s σ H _ I h) fun v s1 ⟨x,H1,I1,r1,q1⟩=>?_
 obtain ⟨a,e,⟨xs,hq⟩,q⟩:=q1
 subst e
 cases r1
 obtain ⟨its,rv,p,hz⟩:=I1.list hq
 refine wpAny_pyIter_list p.isList ?_
 refine ⟨s1.heap.objs.size,[s1.heap.objs.size],_,_,H1,rfl,I1.kept (t':=s1.toks) fun b o e=>Heap.get?_push_of_some _ e,turn_list a _,⟨_,Heap.get?_push_size _ rfl,rfl,rfl⟩,fun b hb=>?_,q⟩
 have e:b=s1.heap.objs.size:=by simpa using hb
 subst e
 exact I1.fpOk (Nat.le_refl _) (I1.hok.fresh (Nat.le_refl _))
theorem pi_tup {l:Expr} {tl:TE} (hl:PE X l tl):PI X tg l (iTup X.K tl):=by
 intro pins s σ H R I h
 refine thn (hl pins s σ H _ I h) fun v s1 ⟨x,H1,I1,r1,q1⟩=>?_
 obtain ⟨a,e,⟨xs,hq⟩,q⟩:=q1
 subst e
 cases r1
 obtain ⟨its,rv,p,hz⟩:=I1.tuple hq
 refine wpAny_pyIter_tuple (show s1.heap.IsTuple a its.toArray from p) ?_
 refine ⟨s1.heap.objs.size,[s1.heap.objs.size],_,_,H1,rfl,I1.kept (t':=s1.toks) fun b o e=>Heap.get?_push_of_some _ e,turn_tuple a _,⟨_,Heap.get?_push_size _ rfl,rfl,rfl⟩,fun b hb=>?_,q⟩
 have e:b=s1.heap.objs.size:=by simpa using hb
 subst e
 exact I1.fpOk (Nat.le_refl _) (I1.hok.fresh (Nat.le_refl _))
theorem range_it {pins:List (Addr × Obj)} {σ:St} {H:Hp} {s:Shared} {R:It→Hp→Prop} {E:Value→Shared→Prop} {lo hi:Int} {t u v:Tok} {tk:Nat} (I:Inv X pins σ H s) (h1 : -(2 ^ 62)≤lo) (h2:lo<2 ^ 62) (h3 : -(2 ^ 62)≤hi) (h4:hi<2 ^ 62)
  (q:R (Itr lo (hi - lo).toNat) H):wpAny (model X.prog X.w) X.A (pyIter (.ref s.heap.objs.size)) (PIE X pins σ tg R) E { s with heap:=s.heap.push { cls:=.type "range",data:=.fields #[.int lo t,.int hi u,.int 1 v] },toks:=tk }:=by
 refine wpAny_pyIter_range (IsRange.new ..) (small_one h1 h2 h3 h4) ?_
 have I1:Inv X pins σ H { s with heap:=s.heap.push { cls:=.type "range",data:=.fields #[.int lo t,.int hi u,.int 1 v] },toks:=tk }:=I.kept fun b o e=>Heap.get?_push_of_some _ e
 refine ⟨(s.heap.push { cls:=.type "range",data:=.fields #[.int lo t,.int hi u,.int 1 v] }).objs.size,[(s.heap.push { cls:=.type "range",data:=.fields #[.int lo t,.int hi u,.int 1 v] }).objs.size],_,_,H,rfl,
  I1.kept (t':=tk) fun b o e=>Heap.get?_push_of_some _ e,turn_range _ lo (hi - lo).toNat,?_,fun b hb=>?_,q⟩
 ·have e1:lo+((0:Nat):Int) * 1=lo:=by simp
  have e2:(((hi - lo).toNat:Nat):Int) - ((0:Nat):Int)=Builtin.Range.rangeSize lo hi 1:=by rw [rangeSize_one];split <;> lia
  show IsRangeIter _ _ (lo+((0:Nat):Int) * 1) ((((hi - lo).toNat:Nat):Int) - ((0:Nat):Int)) 1
  rw [e1,e2]
  exact Heap.get?_push_size _ rfl
 ·have e:b=(s.heap.push { cls:=.type "range",data:=.fields #[.int lo t,.int hi u,.int 1 v] }).objs.size:=by simpa using hb
  subst e
  exact I1.fpOk (Nat.le_refl _) (I1.hok.fresh (Nat.le_refl _))
def iRng1 (ta:TA):TI:=fun σ H R=>ta σ H fun vs H1=>∃ j:Int,vs=[.int j]∧-(2 ^ 62)≤j∧j<2 ^ 62∧R (Itr 0 j.toNat) H1
theorem qAO {a:Expr} {ta:TA} {p pos:Pos} (hg:Gl X "range") (hm:X.mg "range" = none) (ha:PA X [a] ta) (hs:starEach [a] X.env=[(false,eval a X.env)]:=by rfl):PI X tg (.Call (.Name "range" p) [a] [] pos) (iRng1 ta):=by
 intro pins s σ H R I h
 refine Call_ (ld_blt I hg hm boot_range (PyProof.Rows.callWith_type1 (thn (ha pos pins s σ H _ I h) fun us s1 ⟨vs,H1,I1,r1,q1⟩=>?_) hs rfl))
 obtain ⟨j,e,q1,q2,q⟩:=q1
 subst e
 cases r1 with
 | cons r rr=>
  cases rr
  obtain ⟨t,rfl⟩:=r
  exact call_range_1 (range_it I1 (by lia) (by lia) q1 q2 (by simpa using q))
def tFor (wi:TI) (g:TG) (tb:TS):TS:=fun D σ H=>wi σ H fun J H1=>∃ W:Nat→Nat→St→Hp→Prop,(∃ m,W 0 m σ H1)∧∀ i m σ H,W i m σ H→
 (J.stop i H∧D.nx σ H)∨(J.go i H∧∃ N:St→Hp→Prop,(∀ σ' H',N σ' H'→∃ m',m'<m∧W (i+1) m' σ' H')∧∀ x H',J.yld i H x H'→g x σ H' fun σ2 H2=>tb { D with nx:=N,ct:=N,bk:=D.nx } σ2 H2)
noncomputable def pinsAt (fp:List Addr) (h:Heap):List (Addr × Obj):=fp.filterMap fun b=>(h.get? b).map fun o=>(b,o)
theorem qDA {fp:List Addr} {h:Heap} {b:Addr} {o:Obj} (hb:b ∈ fp) (e:h.get? b=some o):(b,o) ∈ pinsAt fp h:=List.mem_filterMap.mpr ⟨b,hb,by rw [e];rfl⟩
theorem of_pinsAt {fp:List Addr} {h:Heap} {p:Addr × Obj} (hp:p ∈ pinsAt fp h):p.1 ∈ fp∧h.get? p.1=some p.2:=by
 obtain ⟨b,hb,e⟩:=List.mem_filterMap.mp hp
 cases q:h.get? b with
 | none=>rw [q] at e;cases e
 | some o=>
  rw [q] at e
  have e':(b,o)=p:=Option.some.inj e
  subst e'
  exact ⟨hb,q⟩
theorem Inv.pinned {pins:List (Addr × Obj)} {σ:St} {H:Hp} {s:Shared} {fp:List Addr} (I:Inv X pins σ H s) (hf:∀ b ∈ fp,FpOk X pins H b) (ho:∀ b ∈ fp,∃ o,s.heap.get? b=some o∧∀ v,o.data ≠ .cell v):Inv X (pins++pinsAt fp s.heap) σ H s:=
 I.pins_of fun p hp=>(List.mem_append.mp hp).elim (fun z=>I.pin p (List.mem_append_right _ z)) fun z=>by
  obtain ⟨hb,e⟩:=of_pinsAt z
  obtain ⟨f0,f1,f2,_⟩:=hf p.1 hb
  obtain ⟨o,e',d⟩:=ho p.1 hb
  rw [e] at e';cases e'
  exact ⟨e,f0,f1,f2,d⟩
theorem Inv.unpinned {pins pl:List (Addr × Obj)} {σ:St} {H:Hp} {s:Shared} (I:Inv X (pins++pl) σ H s):Inv X pins σ H s:=I.pins_of fun p hp=>I.pin p (List.mem_append_right _ (List.mem_append_left _ hp))
theorem qB5 {iter:Expr} {body:List Stmt} {wi:TI} {g:TG} {tb:TS} {pos:Pos} (hp:PassesOwn (model X.prog X.w) X.A X.env X.xe) (hc:X.calm=true) (hi:PI X tg iter wi) (hg:PG X tg g) (hb:PSs X body tb)
  (hs:∀ x,foldedSetIterable iter X.env x=pure x:=by intro _;rfl):PS X (.For tg iter body [] pos) (tFor wi g tb):=by
 intro pins s σ H D I h
 refine wpAny_For (thn (hi pins s σ H _ I h) fun v s1 h1=>thn h1 fun itv s2 h2=>?_) hs
 obtain ⟨it,fp,tn,J,H2,e,I2,T,st2,f2,W,⟨m0,w0⟩,turn⟩:=h2
 subst e
 -- what stays true of the iterator's objects through the loop
 have stat:∀ {H':Hp},(∀ b ∈ fp,H' b=none)→∀ b ∈ fp,FpOk X pins H' b:=fun hn b hb=>⟨hn b hb,(f2 b hb).2⟩
 refine codeAny_forLoop_any (fun n s'=>∃ i σ' H',Inv X pins σ' H' s'∧tn i s'.heap∧(∀ b ∈ fp,H' b=none)∧W i n σ' H') ?_ m0 ⟨0,σ,H2,I2,st2,fun b hb=>(f2 b hb).1,w0⟩
 rintro n s3 ⟨i,σ3,H3,I3,st3,fr3,w3⟩
 rcases turn i n σ3 H3 w3 with ⟨stop,qn⟩ | ⟨go,N,hN,step⟩
 ·refine wpAny_passesOwn hp (thn (T.done X rfl rfl rfl hc i pins s3 σ3 H3 X.xe I3 (stat fr3) st3 stop) fun r s4 ⟨hr,I4⟩=>?_)
  subst hr
  exact wpAny_execs_nil ⟨σ3,H3,I4,qn⟩
 ·refine wpAny_passesOwn hp (thn (T.item X rfl rfl rfl hc i pins s3 σ3 H3 X.xe I3 (stat fr3) st3 go) fun r s4 ⟨u,hr,h4⟩=>?_)
  subst hr
  refine wpAny_passesOwn hp (thn h4 fun _ s5 ⟨x,H5,I5,r5,y5,st5,fr5⟩=>?_)
  have I5':=I5.pinned (stat fr5) (T.obj _ _ st5)
  refine wpAny_passesOwn hp (thn (hg _ s5 σ3 H5 x u _ I5' r5 (step x H5 y5)) fun _ s6 ⟨σ6,H6,I6,q6⟩=>?_)
  refine wpAny_passesOwn hp (thn (hb _ s6 σ6 H6 _ I6 q6) fun f s7 q7=>?_)
  have again:∀ {σ7:St} {H7:Hp},Inv X (pins++pinsAt fp s5.heap) σ7 H7 s7→N σ7 H7→∃ m,m<n∧∃ i σ' H',Inv X pins σ' H' s7∧tn i s7.heap∧(∀ b ∈ fp,H' b=none)∧W i m σ' H':=fun {σ7 H7} I7 n7=>by
   obtain ⟨m',hm,w7⟩:=hN σ7 H7 n7
   refine ⟨m',hm,i+1,σ7,H7,I7.unpinned,T.keep _ _ _ st5 fun b hb o e=>(I7.pin (b,o) (List.mem_append_right _ (List.mem_append_right _ (qDA hb e)))).1,fun b hb=>?_,w7⟩
   obtain ⟨o,e,d⟩:=T.obj _ _ st5 b hb
   exact (I7.pin (b,o) (List.mem_append_right _ (List.mem_append_right _ (qDA hb e)))).2.1
  cases f with
  | next=>obtain ⟨σ7,H7,I7,n7⟩:=q7;exact again I7 n7
  | cont=>obtain ⟨σ7,H7,I7,n7⟩:=q7;exact again I7 n7
  | brk=>obtain ⟨σ7,H7,I7,q7⟩:=q7;exact ⟨σ7,H7,I7.unpinned,q7⟩
  | ret v=>obtain ⟨x7,σ7,H7,I7,r7,q7⟩:=q7;exact ⟨x7,σ7,H7,I7.unpinned,r7,q7⟩
end
abbrev ForG (I:It) (g:TG) (tb:TS) (D:Ends) (σ:St) (H:Hp):Prop:=∃ W:Nat→Nat→St→Hp→Prop,(∃ m,W 0 m σ H)∧∀ i m σ H,W i m σ H→(I.stop i H∧D.nx σ H)∨(I.go i H∧∃ N:St→Hp→Prop,(∀ σ' H',N σ' H'→∃ m',m'<m∧W (i+1) m' σ' H')∧∀ x H',I.yld i H x H'→g x σ H' fun σ2 H2=>tb { D with nx:=N,ct:=N,bk:=D.nx } σ2 H2)
theorem qCS {K:PySem.W.Frag} {a:Addr} {xs:List V} {g:TG} {tb:TS} {D:Ends} {σ:St} {H:Hp} (Pv:Nat→St→Hp→Prop) (h0:Pv 0 σ H) (hl:∀ i σ H,i≤xs.length→Pv i σ H→SqL K H a xs)
  (hs:∀ i x σ H,xs[i]?=some x→Pv i σ H→g x σ H fun σ2 H2=>tb { D with nx:=Pv (i+1),ct:=Pv (i+1),bk:=D.nx } σ2 H2) (hd:∀ σ H,Pv xs.length σ H→D.nx σ H) :
  ForG (Itl K a) g tb D σ H:=by
 refine ⟨fun i m σ H=>m=xs.length - i∧i≤xs.length∧Pv i σ H,⟨xs.length,by simp,Nat.zero_le _,h0⟩,?_⟩
 rintro i m σ H ⟨rfl,hi,p⟩
 have q:=hl i σ H hi p
 by_cases hlt:i<xs.length
 ·refine .inr ⟨⟨xs,xs[i],q,by simp [hlt]⟩,Pv (i+1),fun σ' H' p'=>⟨xs.length - (i+1),by lia,rfl,hlt,p'⟩,fun x H' y=>?_⟩
  obtain ⟨e,y⟩:=y
  subst e
  exact hs i x σ _ (y xs q) p
 ·have e:i=xs.length:=by lia
  subst e
  exact .inl ⟨⟨xs,q,Nat.le_refl _⟩,hd σ H p⟩
theorem for_tup {K:PySem.W.Frag} {a:Addr} {xs:List V} {g:TG} {tb:TS} {D:Ends} {σ:St} {H:Hp} (Pv:Nat→St→Hp→Prop) (h0:Pv 0 σ H) (hl:∀ i σ H,i≤xs.length→Pv i σ H→SqT K H a xs)
  (hs:∀ i x σ H,xs[i]?=some x→Pv i σ H→g x σ H fun σ2 H2=>tb { D with nx:=Pv (i+1),ct:=Pv (i+1),bk:=D.nx } σ2 H2) (hd:∀ σ H,Pv xs.length σ H→D.nx σ H) :
  ForG (Itt K a) g tb D σ H:=by
 refine ⟨fun i m σ H=>m=xs.length - i∧i≤xs.length∧Pv i σ H,⟨xs.length,by simp,Nat.zero_le _,h0⟩,?_⟩
 rintro i m σ H ⟨rfl,hi,p⟩
 have q:=hl i σ H hi p
 by_cases hlt:i<xs.length
 ·refine .inr ⟨⟨xs,xs[i],q,by simp [hlt]⟩,Pv (i+1),fun σ' H' p'=>⟨xs.length - (i+1),by lia,rfl,hlt,p'⟩,fun x H' y=>?_⟩
  obtain ⟨e,y⟩:=y
  subst e
  exact hs i x σ _ (y xs q) p
 ·have e:i=xs.length:=by lia
  subst e
  exact .inl ⟨⟨xs,q,Nat.le_refl _⟩,hd σ H p⟩
theorem qB8 {lo:Int} {n:Nat} {g:TG} {tb:TS} {D:Ends} {σ:St} {H:Hp} (Pv:Nat→St→Hp→Prop) (h0:Pv 0 σ H)
  (hs:∀ i σ H,i<n→Pv i σ H→g (.int (lo+i)) σ H fun σ2 H2=>tb { D with nx:=Pv (i+1),ct:=Pv (i+1),bk:=D.nx } σ2 H2) (hd:∀ σ H,Pv n σ H→D.nx σ H) :
  ForG (Itr lo n) g tb D σ H:=by
 refine ⟨fun i m σ H=>m=n - i∧i≤n∧Pv i σ H,⟨n,by simp,Nat.zero_le _,h0⟩,?_⟩
 rintro i m σ H ⟨rfl,hi,p⟩
 by_cases hlt:i<n
 ·refine .inr ⟨hlt,Pv (i+1),fun σ' H' p'=>⟨n - (i+1),by lia,rfl,hlt,p'⟩,fun x H' y=>?_⟩
  obtain ⟨e,y⟩:=y
  subst e y
  exact hs i σ _ hlt p
 ·have e:i=n:=by lia
  subst e
  exact .inl ⟨Nat.le_refl _,hd σ H p⟩
end L2
namespace L2
open PySem PySem.Spec PyProof.Rows
abbrev R2:=V→V→Hp→VK→Prop
def OpR (X:Cx) (f:Value→Value→Sem Value) (r:R2):Prop:=
 ∀ (pins:List (Addr × Obj)) (s:Shared) (σ:St) (H:Hp) (x y:V) (v u:Value) (Q:VK),Inv X pins σ H s→RelV x v→RelV y u→r x y H Q→
  wpAny (model X.prog X.w) X.A (f v u) (EP X pins σ Q) X.xe s
def UnR (X:Cx) (f:Value→Sem Value) (r:V→Hp→VK→Prop):Prop:=
 ∀ (pins:List (Addr × Obj)) (s:Shared) (σ:St) (H:Hp) (x:V) (v:Value) (Q:VK),Inv X pins σ H s→RelV x v→r x H Q→
  wpAny (model X.prog X.w) X.A (f v) (EP X pins σ Q) X.xe s
def CallR (X:Cx) (f:Value) (r:List V→Hp→VK→Prop):Prop:=
 ∀ (pins:List (Addr × Obj)) (s:Shared) (σ:St) (H:Hp) (xs:List V) (us:List Value) (Q:VK),Inv X pins σ H s→Vals xs us→r xs H Q→
  wpAny (model X.prog X.w) X.A (call f us) (EP X pins σ Q) X.xe s
def tOp (r:R2) (ta tb:TE):TE:=fun σ H Q=>ta σ H fun x H1=>tb σ H1 fun y H2=>r x y H2 Q
def tUn (r:V→Hp→VK→Prop) (ta:TE):TE:=fun σ H Q=>ta σ H fun x H1=>r x H1 Q
def rI (C:Int→Int→Prop) (g:Int→Int→V):R2:=fun x y H Q=>∃ i j,x=.int i∧y=.int j∧C i j∧Q (g i j) H
def rI0 (g:Int→Int→V):R2:=fun x y H Q=>∃ i j,x=.int i∧y=.int j∧Q (g i j) H
def rU (g:Int→V):V→Hp→VK→Prop:=fun x H Q=>∃ i,x=.int i∧Q (g i) H
section
variable {X:Cx} {a b c:Expr} {ta tb tc:TE} {pos:Pos}
theorem binT (ha:PE X a ta) (hb:PE X b tb) {pins:List (Addr × Obj)} {s:Shared} {σ:St} {H:Hp} {R:V→V→Hp→Prop} (I:Inv X pins σ H s)
  (h:ta σ H fun x H1=>tb σ H1 fun y H2=>R x y H2) {Q:Value→Shared→Prop} {f:Value→Value→Sem Value}
  (hf:∀ v u s2 x y H2,Inv X pins σ H2 s2→RelV x v→RelV y u→R x y H2→wpAny (model X.prog X.w) X.A (f v u) Q X.xe s2) :
  wpAny (model X.prog X.w) X.A (eval a X.env) (fun v s₁=>wpAny (model X.prog X.w) X.A (eval b X.env) (fun u s₂=>wpAny (model X.prog X.w) X.A (f v u) Q X.xe s₂) X.xe s₁) X.xe s:=by
 refine thn (ha pins s σ H _ I h) fun v s1 ⟨x,H1,I1,r1,q1⟩=>?_
 refine thn (hb pins s1 σ H1 _ I1 q1) fun u s2 ⟨y,H2,I2,r2,q2⟩=>?_
 exact hf v u s2 x y H2 I2 r1 r2 q2
theorem pe_op {op:Operator} {r:R2} (ho:OpR X (binaryOp op) r) (ha:PE X a ta) (hb:PE X b tb):PE X (.BinOp a op b pos) (tOp r ta tb):=by
 intro pins s σ H Q I h
 exact wpAny_BinOp (binT ha hb I h fun v u s2 x y H2 I2 rx ry q=>ho pins s2 σ H2 x y v u Q I2 rx ry q)
theorem pe_un {op:UnaryOp} {r:V→Hp→VK→Prop} (ho:UnR X (unaryOp op) r) (ha:PE X a ta):PE X (.UnaryOp op a pos) (tUn r ta):=by
 intro pins s σ H Q I h
 exact UnaryOp_ (thn (ha pins s σ H _ I h) fun v s1 ⟨x,H1,I1,r1,q1⟩=>ho pins s1 σ H1 x v Q I1 r1 q1)
theorem opI {f:Value→Value→Sem Value} {C:Int→Int→Prop} {g:Int→Int→Int}
  (rule:∀ (i j:Int) (t u:Tok) (s:Shared) (Q:Value→Shared→Prop) (E:Value→Shared→Prop),C i j→Q (.int (g i j) s.toks) { s with toks:=s.toks+1 }→wpAny (model X.prog X.w) X.A (f (.int i t) (.int j u)) Q E s) :
  OpR X f (rI C fun i j=>.int (g i j)):=by
 intro pins s σ H x y v u Q I rx ry h
 obtain ⟨i,j,rfl,rfl,hc,q⟩:=h
 obtain ⟨t,rfl⟩:=rx
 obtain ⟨t',rfl⟩:=ry
 exact rule i j t t' s _ _ hc ⟨.int (g i j),H,I.tok _,⟨_,rfl⟩,q⟩
theorem opI0 {f:Value→Value→Sem Value} {g:Int→Int→Int}
  (rule:∀ (i j:Int) (t u:Tok) (s:Shared) (Q:Value→Shared→Prop) (E:Value→Shared→Prop),Q (.int (g i j) s.toks) { s with toks:=s.toks+1 }→wpAny (model X.prog X.w) X.A (f (.int i t) (.int j u)) Q E s) :
  OpR X f (rI0 fun i j=>.int (g i j)):=by
 intro pins s σ H x y v u Q I rx ry h
 obtain ⟨i,j,rfl,rfl,q⟩:=h
 obtain ⟨t,rfl⟩:=rx
 obtain ⟨t',rfl⟩:=ry
 exact rule i j t t' s _ _ ⟨.int (g i j),H,I.tok _,⟨_,rfl⟩,q⟩
theorem opB0 {f:Value→Value→Sem Value} {g:Int→Int→Bool}
  (rule:∀ (i j:Int) (t u:Tok) (s:Shared) (Q:Value→Shared→Prop) (E:Value→Shared→Prop),Q (.bool (g i j)) s→wpAny (model X.prog X.w) X.A (f (.int i t) (.int j u)) Q E s) :
  OpR X f (rI0 fun i j=>.bl (g i j)):=by
 intro pins s σ H x y v u Q I rx ry h
 obtain ⟨i,j,rfl,rfl,q⟩:=h
 obtain ⟨t,rfl⟩:=rx
 obtain ⟨t',rfl⟩:=ry
 exact rule i j t t' s _ _ ⟨.bl (g i j),H,I,rfl,q⟩
def CDiv (i j:Int):Prop:=0<j∧j<1073741824
def CPow (i j:Int):Prop:=0≤j∧j≤1000000∧i.natAbs<2 ^ 64
def CMul (i j:Int):Prop:=(-(2 ^ 64)<i∧i<2 ^ 64)∨(-(2 ^ 64)<j∧j<2 ^ 64)
theorem CMul.ok {i j:Int} (h:CMul i j):IntMulOk i j:=by
 rcases h with ⟨h1,h2⟩ | ⟨h1,h2⟩
 ·exact .of_left (intBits_le_64 h1 h2)
 ·exact .of_right (intBits_le_64 h1 h2)
theorem qBQ:OpR X (binaryOp .Add) (rI0 fun i j=>.int (i+j)):=opI0 fun _ _ _ _ _ _ _ q=>add_int q
theorem qCX:OpR X (binaryOp .Sub) (rI0 fun i j=>.int (i - j)):=opI0 fun _ _ _ _ _ _ _ q=>sub_int q
theorem op_mul:OpR X (binaryOp .Mult) (rI CMul fun i j=>.int (i * j)):=opI fun _ _ _ _ _ _ _ hc q=>mul_int q hc.ok
theorem op_fdiv:OpR X (binaryOp .FloorDiv) (rI CDiv fun i j=>.int (i / j)):=opI fun i j _ _ _ _ _ hc q=>by
 have h1:(0:Int)<j:=hc.1
 have h2:j<1073741824:=hc.2
 exact floordiv_int (by lia) (by rw [Int.fdiv_eq_ediv_of_nonneg i (by lia)];exact q) (.inl (PyProof.noPylong_small (by lia)))
theorem op_mod:OpR X (binaryOp .Mod) (rI (fun _ j=>0<j) fun i j=>.int (i % j)):=opI fun i j _ _ _ _ _ hc q=>by
 have h1:(0:Int)<j:=hc
 exact mod_int' (by lia) (by rw [Int.fmod_eq_emod_of_nonneg i (by lia)];exact q)
theorem op_pow:OpR X (binaryOp .Pow) (rI CPow fun i j=>.int (i ^ j.toNat)):=opI fun _ _ _ _ _ _ _ hc q=>pow_int_small hc.1 hc.2.1 hc.2.2 q
theorem unI {f:Value→Sem Value} {g:Int→Int}
  (rule:∀ (i:Int) (t:Tok) (s:Shared) (Q:Value→Shared→Prop) (E:Value→Shared→Prop),Q (.int (g i) s.toks) { s with toks:=s.toks+1 }→wpAny (model X.prog X.w) X.A (f (.int i t)) Q E s) :
  UnR X f (rU fun i=>.int (g i)):=by
 intro pins s σ H x v Q I rx h
 obtain ⟨i,rfl,q⟩:=h
 obtain ⟨t,rfl⟩:=rx
 exact rule i t s _ _ ⟨.int (g i),H,I.tok _,⟨_,rfl⟩,q⟩
theorem un_neg:UnR X (unaryOp .USub) (rU fun i=>.int (-i)):=unI fun _ _ _ _ _ q=>neg_int q
end
noncomputable def scal:V→V→Bool
 | .non,.non=>true | .non,.int _=>true | .int _,.non=>true | .non,.bl _=>true | .bl _,.non=>true | .non,.str _=>true | .str _,.non=>true
 | .int _,.int _=>true | .bl _,.bl _=>true | .str _,.str _=>true | .byt _,.byt _=>true
 | .int _,.str _=>true | .str _,.int _=>true | .bl _,.str _=>true | .str _,.bl _=>true
 | _,_=>false
def rEq:R2:=fun x y H Q=>scal x y=true∧Q (.bl (decide (x=y))) H
def rNe:R2:=fun x y H Q=>scal x y=true∧Q (.bl (!decide (x=y))) H
theorem dec_int {i j:Int}:decide (V.int i=V.int j)=(i == j):=by
 rw [Bool.eq_iff_iff]
 simp
theorem dec_bl {i j:Bool}:decide (V.bl i=V.bl j)=(i == j):=by
 rw [Bool.eq_iff_iff]
 simp
theorem dec_str {i j:Str}:decide (V.str i=V.str j)=(i == j):=by
 rw [Bool.eq_iff_iff]
 simp
theorem dec_byt {i j:Array UInt8}:decide (V.byt i=V.byt j)=(i.toList == j.toList):=by
 rw [Bool.eq_iff_iff]
 cases i
 cases j
 simp
section
variable {X:Cx} {a b c:Expr} {ta tb tc:TE} {pos:Pos}
theorem qAX {pins:List (Addr × Obj)} {σ:St} {H:Hp} {s:Shared} {Q:VK} {k k':Bool} (I:Inv X pins σ H s) (q:Q (.bl k) H) (e:k=k'):EP X pins σ Q (.bool k') s:=by
 subst e
 exact ⟨.bl k,H,I,rfl,q⟩
theorem op_eq:OpR X (compareOp .Eq) rEq:=by
 intro pins s σ H x y v u Q I rx ry h
 obtain ⟨hs,q⟩:=h
 cases x with
 | non=>
  cases rx
  cases y with
  | non=>cases ry;exact PySem.EqNone.eq_none_none (qAX I q (by simp))
  | bl j=>cases ry;exact PySem.EqNone.eq_none_bool (qAX I q (by simp))
  | int j=>obtain ⟨t',rfl⟩:=ry;exact PySem.EqNone.eq_none_int (qAX I q (by simp))
  | str j=>obtain ⟨t',rfl⟩:=ry;exact PySem.EqNone.eq_none_str (qAX I q (by simp))
  | _=>exact absurd (show false=true from hs) Bool.false_ne_true
 | bl i=>
  cases rx
  cases y with
  | non=>cases ry;exact PySem.EqNone.eq_bool_none (qAX I q (by simp))
  | bl j=>cases ry;exact eq_bool (qAX I q dec_bl)
  | str j=>obtain ⟨t',rfl⟩:=ry;exact PySem.EqMixed.eq_bool_str (qAX I q (by simp))
  | _=>exact absurd (show false=true from hs) Bool.false_ne_true
 | int i=>
  obtain ⟨t,rfl⟩:=rx
  cases y with
  | non=>cases ry;exact PySem.EqNone.eq_int_none (qAX I q (by simp))
  | int j=>obtain ⟨t',rfl⟩:=ry;exact eq_int (qAX I q dec_int)
  | str j=>obtain ⟨t',rfl⟩:=ry;exact PySem.EqMixed.eq_int_str (qAX I q (by simp))
  | _=>exact absurd (show false=true from hs) Bool.false_ne_true
 | str i=>
  obtain ⟨t,rfl⟩:=rx
  cases y with
  | non=>cases ry;exact PySem.EqNone.eq_str_none (qAX I q (by simp))
  | bl j=>cases ry;exact PySem.EqMixed.eq_str_bool (qAX I q (by simp))
  | int j=>obtain ⟨t',rfl⟩:=ry;exact PySem.EqMixed.eq_str_int (qAX I q (by simp))
  | str j=>obtain ⟨t',rfl⟩:=ry;exact eq_str (qAX I q dec_str)
  | _=>exact absurd (show false=true from hs) Bool.false_ne_true
 | byt i=>
  obtain ⟨t,rfl⟩:=rx
  cases y with
  | byt j=>obtain ⟨t',rfl⟩:=ry;exact PySem.W.eq_bytes (qAX I q dec_byt)
  | _=>exact absurd (show false=true from hs) Bool.false_ne_true
 | _=>cases y <;> exact absurd (show false=true from hs) Bool.false_ne_true
theorem op_ne:OpR X (compareOp .NotEq) rNe:=by
 intro pins s σ H x y v u Q I rx ry h
 obtain ⟨hs,q⟩:=h
 cases x with
 | non=>
  cases rx
  cases y with
  | non=>cases ry;exact PySem.EqNone.ne_none_none (qAX I q (by simp))
  | bl j=>cases ry;exact PySem.EqNone.ne_none_bool (qAX I q (by simp))
  | int j=>obtain ⟨t',rfl⟩:=ry;exact PySem.EqNone.ne_none_int (qAX I q (by simp))
  | str j=>obtain ⟨t',rfl⟩:=ry;exact PySem.EqNone.ne_none_str (qAX I q (by simp))
  | _=>exact absurd (show false=true from hs) Bool.false_ne_true
 | bl i=>
  cases rx
  cases y with
  | non=>cases ry;exact PySem.EqNone.ne_bool_none (qAX I q (by simp))
  | bl j=>cases ry;exact ne_bool (qAX I q (congrArg not dec_bl))
  | str j=>obtain ⟨t',rfl⟩:=ry;exact PySem.EqMixed.ne_bool_str (qAX I q (by simp))
  | _=>exact absurd (show false=true from hs) Bool.false_ne_true
 | int i=>
  obtain ⟨t,rfl⟩:=rx
  cases y with
  | non=>cases ry;exact PySem.EqNone.ne_int_none (qAX I q (by simp))
  | int j=>obtain ⟨t',rfl⟩:=ry;exact ne_int (qAX I q (congrArg not dec_int))
  | str j=>obtain ⟨t',rfl⟩:=ry;exact PySem.EqMixed.ne_int_str (qAX I q (by simp))
  | _=>exact absurd (show false=true from hs) Bool.false_ne_true
 | str i=>
  obtain ⟨t,rfl⟩:=rx
  cases y with
  | non=>cases ry;exact PySem.EqNone.ne_str_none (qAX I q (by simp))
  | bl j=>cases ry;exact PySem.EqMixed.ne_str_bool (qAX I q (by simp))
  | int j=>obtain ⟨t',rfl⟩:=ry;exact PySem.EqMixed.ne_str_int (qAX I q (by simp))
  | str j=>obtain ⟨t',rfl⟩:=ry;exact ne_str (qAX I q (congrArg not dec_str))
  | _=>exact absurd (show false=true from hs) Bool.false_ne_true
 | byt i=>
  obtain ⟨t,rfl⟩:=rx
  cases y with
  | byt j=>obtain ⟨t',rfl⟩:=ry;exact PySem.W.ne_bytes (qAX I q (congrArg not dec_byt))
  | _=>exact absurd (show false=true from hs) Bool.false_ne_true
 | _=>cases y <;> exact absurd (show false=true from hs) Bool.false_ne_true
theorem op_lt:OpR X (compareOp .Lt) (rI0 fun i j=>.bl (decide (i<j))):=opB0 fun _ _ _ _ _ _ _ q=>lt_int q
theorem op_le:OpR X (compareOp .LtE) (rI0 fun i j=>.bl (decide (i≤j))):=opB0 fun _ _ _ _ _ _ _ q=>le_int q
theorem op_gt:OpR X (compareOp .Gt) (rI0 fun i j=>.bl (decide (j<i))):=opB0 fun _ _ _ _ _ _ _ q=>gt_int q
theorem op_ge:OpR X (compareOp .GtE) (rI0 fun i j=>.bl (decide (j≤i))):=opB0 fun _ _ _ _ _ _ _ q=>ge_int q
theorem nomark (b:Expr) {op:CmpOp} (h:op ≠ .In:=by decide) (h2:op ≠ .NotIn:=by decide):behindInMarks op b=false:=by
 have e1:(op == CmpOp.In)=false:=by cases op <;> first | rfl | exact absurd rfl h
 have e2:(op == CmpOp.NotIn)=false:=by cases op <;> first | rfl | exact absurd rfl h2
 cases b <;> simp [behindInMarks,e1,e2]
theorem qCN {op:CmpOp} {r:R2} (ho:OpR X (compareOp op) r) (ha:PE X a ta) (hb:PE X b tb) (hm:behindInMarks op b=false):PE X (.Compare a [op] [b] pos) (tOp r ta tb):=by
 intro pins s σ H Q I h
 exact wpAny_Compare1 (binT ha hb I h fun v u s2 x y H2 I2 rx ry q=>ho pins s2 σ H2 x y v u Q I2 rx ry q) hm
def tTest (t:TE):TT:=fun σ H Q=>t σ H fun x H'=>∃ k,x=.bl k∧Q k H'
theorem qAF {op:CmpOp} {r:R2} (ho:OpR X (compareOp op) r) (ha:PE X a ta) (hb:PE X b tb) (hm:behindInMarks op b=false):PT X (.Compare a [op] [b] pos) (tTest (tOp r ta tb)):=by
 intro pins s σ H Q I h
 refine wpAny_isTrue_Compare1 (thn (ha pins s σ H _ I h) fun v s1 ⟨x,H1,I1,r1,q1⟩=>thn (hb pins s1 σ H1 _ I1 q1) fun u s2 ⟨y,H2,I2,r2,q2⟩=>
  thn (ho pins s2 σ H2 x y v u _ I2 r1 r2 q2) fun c s3 ⟨z,H3,I3,r3,k,e,q3⟩=>?_) hm
 subst e
 cases r3
 exact wpAny_truthy_bool ⟨H3,I3,q3⟩
def tChain (r r':R2) (ta tb tc:TE):TE:=fun σ H Q=>ta σ H fun x H1=>tb σ H1 fun y H2=>r x y H2 fun z H3=>∃ k,z=.bl k∧
 (if k=true then tc σ H3 fun w' H4=>r' y w' H4 Q else Q (.bl false) H3)
theorem pe_chain {op op':CmpOp} {r r':R2} (ho:OpR X (compareOp op) r) (ho':OpR X (compareOp op') r') (ha:PE X a ta) (hb:PE X b tb) (hc:PE X c tc)
  (hm:lastMarks [op,op'] [b,c]=false:=by with_unfolding_all rfl):PE X (.Compare a [op,op'] [b,c] pos) (tChain r r' ta tb tc):=by
 intro pins s σ H Q I h
 refine Compare_chain (thn (ha pins s σ H _ I h) fun v s1 ⟨x,H1,I1,r1,q1⟩=>chain_link (thn (hb pins s1 σ H1 _ I1 q1) fun u s2 ⟨y,H2,I2,r2,q2⟩=>
  thn (ho pins s2 σ H2 x y v u _ I2 r1 r2 q2) fun d s3 ⟨z,H3,I3,r3,k,e,q3⟩=>?_)) hm
 subst e
 cases r3
 refine wpAny_truthy_bool ?_
 cases k with
 | false=>exact ite_ff ⟨.bl false,H3,I3,rfl,q3⟩
 | true=>exact ite_tt (chain_last (thn (hc pins s3 σ H3 _ I3 q3) fun w' s4 ⟨z',H4,I4,r4,q4⟩=>ho' pins s4 σ H4 y z' u w' Q I4 r2 r4 q4))
theorem line63:(sizeLine:Nat)<2 ^ 63:=by rw [sizeLine_eq];decide
theorem vals1 {x:V} {us:List Value} (r:Vals [x] us):∃ u,us=[u]∧RelV x u:=by
 cases r with
 | cons r1 r2=>cases r2;exact ⟨_,rfl,r1⟩
theorem vals2 {x y:V} {us:List Value} (r:Vals [x,y] us):∃ u w',us=[u,w']∧RelV x u∧RelV y w':=by
 cases r with
 | cons r1 r2=>
  cases r2 with
  | cons r3 r4=>cases r4;exact ⟨_,_,rfl,r1,r3⟩
theorem call_max2 (hc:X.calm=true):CallR X (.builtin "max") (fun xs H Q=>∃ i j,xs=[.int i,.int j]∧Q (.int (if j > i then j else i)) H):=by
 intro pins s σ H xs us Q I r h
 obtain ⟨i,j,rfl,q⟩:=h
 obtain ⟨u,w',rfl,⟨t,rfl⟩,⟨t',rfl⟩⟩:=vals2 r
 refine max_two_ints (I.ok.hd hc) fun h' tk k=>⟨_,H,I.kept k,?_,q⟩
 by_cases hj:j > i
 ·rw [if_pos hj,if_pos hj];exact ⟨_,rfl⟩
 ·rw [if_neg hj,if_neg hj];exact ⟨_,rfl⟩
theorem call_min2 (hc:X.calm=true):CallR X (.builtin "min") (fun xs H Q=>∃ i j,xs=[.int i,.int j]∧Q (.int (if j<i then j else i)) H):=by
 intro pins s σ H xs us Q I r h
 obtain ⟨i,j,rfl,q⟩:=h
 obtain ⟨u,w',rfl,⟨t,rfl⟩,⟨t',rfl⟩⟩:=vals2 r
 refine min_two_ints (I.ok.hd hc) fun h' tk k=>⟨_,H,I.kept k,?_,q⟩
 by_cases hj:j<i
 ·rw [if_pos hj,if_pos hj];exact ⟨_,rfl⟩
 ·rw [if_neg hj,if_neg hj];exact ⟨_,rfl⟩
theorem call_int1:CallR X (.type "int") (fun xs H Q=>(∃ i,xs=[.int i]∧Q (.int i) H)∨∃ k,xs=[.bl k]∧Q (.int (if k then 1 else 0)) H):=by
 intro pins s σ H xs us Q I r h
 rcases h with ⟨i,rfl,q⟩ | ⟨k,rfl,q⟩
 ·obtain ⟨u,rfl,t,rfl⟩:=vals1 r
  exact call_int_int ⟨.int i,H,I,⟨_,rfl⟩,q⟩
 ·obtain ⟨u,rfl,r1⟩:=vals1 r
  cases r1
  exact call_int_bool ⟨.int (if k then 1 else 0),H,I.tok _,⟨_,rfl⟩,q⟩
theorem call_divmod:CallR X (.builtin "divmod") (fun xs H Q=>∃ i j,xs=[.int i,.int j]∧CDiv i j∧∀ p,H p=none→Q (.ref p) (upd H p (.tup [.int (i / j),.int (i % j)]))):=by
 intro pins s σ H xs us Q I r h
 obtain ⟨i,j,rfl,⟨h1,h2⟩,q⟩:=h
 obtain ⟨u,w',rfl,⟨t,rfl⟩,⟨t',rfl⟩⟩:=vals2 r
 refine divmod_int (by lia) ?_ (.inl (PyProof.noPylong_small (by lia)))
 rw [Int.fdiv_eq_ediv_of_nonneg i (by lia),Int.fmod_eq_emod_of_nonneg i (by lia)]
 have hn:H s.heap.objs.size=none:=I.hok.fresh (Nat.le_refl _)
 refine ⟨.ref s.heap.objs.size,_,?_,rfl,q _ hn⟩
 refine I.laid (fun b o e=>Heap.get?_push_of_some _ e) (Nat.le_refl _) ⟨by simp only [List.length_cons,List.length_nil];rw [sizeLine_eq];decide,[.int (i / j) s.toks,.int (i % j) (s.toks+1)],.cons ⟨_,rfl⟩ (.cons ⟨_,rfl⟩ .nil),?_⟩
 exact ⟨_,Heap.get?_push_size s.heap rfl,rfl,0,rfl⟩
end
end L2
namespace L2
open PySem PySem.Spec PyProof.Rows
structure ObjM (h:Heap) (x dx C:Addr) (mA:Str→Option Value):Prop where
 obj:h.get? x=some (PySem.W.instObj C dx)
 ns:h.Ns1 dx mA
 ne:dx ≠ x
theorem lookIn_ns {h:Heap} {dx:Addr} {mA:Str→Option Value} (n:h.Ns1 dx mA):∃ od,h.get? dx=some od∧∀ name,PySem.W.lookIn name od=some (mA name):=by
 obtain ⟨o,es,ep,ho,hd,hk,_,hm⟩:=n
 refine ⟨o,ho,fun name=>?_⟩
 have e:=hm name
 unfold nsFind findBy at e
 rw [← Array.find?_toList] at e
 unfold PySem.W.lookIn
 rw [hd]
 dsimp only
 split
 ·rename_i y q
  rw [q] at e
  exact congrArg some e
 ·rename_i q
  rw [q] at e
  have a:es.toList.any (·.refKey)=false:=by
   rw [List.any_eq_false]
   intro y hy
   obtain ⟨z,t,hkey⟩:=hk y (Array.mem_toList_iff.mp hy)
   simp [DictEntry.refKey,hkey]
  have a':¬ es.toList.any (·.refKey)=true:=by rw [a];exact Bool.false_ne_true
  rw [if_neg a']
  exact congrArg some e
theorem ObjM.look {h:Heap} {x dx C:Addr} {mA:Str→Option Value} (I:ObjM h x dx C mA):∃ od,PySem.W.InstAt h x (PySem.W.instObj C dx) C (some od)∧∀ name,PySem.W.lookIn name od=some (mA name):=
 let ⟨od,ho,hl⟩:=lookIn_ns I.ns
 ⟨od,⟨I.obj,rfl,rfl,ho⟩,hl⟩
section
variable {prog:Program} {w:World} {A:Around} {E:Value→Shared→Prop} {s:Shared} {K:PySem.W.Frag} {x dx C f:Addr} {mA:Str→Option Value} {name:Str} {v:Value}
end
theorem RelO.some_of {v:V} {o:Option Value} (r:RelO (some v) o):∃ u,o=some u∧RelV v u:=by
 cases o with
 | none=>exact (show False from r).elim
 | some u=>exact ⟨u,rfl,r⟩
section
variable {P:Program} {w:World} {H H':Hp} {h h':Heap} {a C dx:Addr} {fs fs':List (Str × V)}
theorem ins_get (hok:HOk P w H h) (e:H a=some (.ins C dx fs)):∃ mA,ObjM h a dx C mA∧(∀ f,RelO (fs.lookup f) (mA f))∧PySem.Within mA (fs.map (·.1))∧fs.length≤1000∧H dx=some (.own a):=by
 obtain ⟨d,z,ne,ob,mA,n,r,q⟩:=(show ObjOk P w H h a (.ins C dx fs) from hok a _ e)
 exact ⟨mA,⟨ob,n,ne⟩,r,q,z,d⟩
end
structure Cls (K:PySem.W.Frag) (C:Addr):Prop where
 pg:PySem.W.plainGet K C Str.empty=true
 hd:PySem.W.hasDictIn K C=true
 po:PySem.W.plainOver K C=true
 sa:PySem.W.findIn K (.ref C) "__setattr__" = some (some (.builtin "object.__setattr__"))
theorem Cls.get {K:PySem.W.Frag} {C:Addr} (c:Cls K C) (f:Str):PySem.W.plainGet K C f=true:=c.pg
structure Con (K:PySem.W.Frag) (C:Addr) (f:Str) (v:V) (u:Value):Prop where
 at_:PySem.W.findIn K (.ref C) f=some (some u)
 rel:RelV v u
 get:PySem.W.specialIn K u "__get__" = some none
 cp:PySem.W.copiedNames.contains f=false
structure Meth (K:PySem.W.Frag) (C:Addr) (m:Str) (f:Addr):Prop where
 at_:PySem.W.findIn K (.ref C) m=some (some (.ref f))
 fn:PySem.W.isFn K (.ref f)=true
 kp:PySem.W.keepIn K (.ref f)=true
section
variable {X:Cx} {pins:List (Addr × Obj)} {σ:St} {H:Hp} {s:Shared} {a C dx:Addr} {fs:List (Str × V)} {f:Str} {v:V} {A:Around} {E:Value→Shared→Prop}
end
section
variable {X:Cx} {o e value:Expr} {f:Str} {pos pos' tpos:Pos} {ta tv:TE}
end
section
variable {X:Cx} {pins:List (Addr × Obj)} {σ:St} {H:Hp} {s:Shared} {A:Around} {E:Value→Shared→Prop} {Q:Value→Shared→Prop} {c:Value} {b:Bool}
inductive TyOf (K:PySem.W.Frag) (H:Hp):V→Value→Prop where
 | non:TyOf K H .non (.type "NoneType")
 | bl (x:Bool):TyOf K H (.bl x) (.type "bool")
 | int (i:Int):TyOf K H (.int i) (.type "int")
 | str (x:Str):TyOf K H (.str x) (.type "str")
 | flt (x:UInt64):TyOf K H (.flt x) (.type "float")
 | lst {a:Addr} {xs:List V} (e:H a=some (.lst xs)):TyOf K H (.ref a) (.type "list")
 | frz {a:Addr} {o:Obj} {xs:List V} (e:H a=some (.frz o (.lst xs))):TyOf K H (.ref a) (.type "list")
 | tup {a:Addr} {xs:List V} (e:H a=some (.tup xs)):TyOf K H (.ref a) (.type "tuple")
 | dK {a:Addr} {kvs:List (Key × V)} (e:H a=some (.dK kvs)):TyOf K H (.ref a) (.type "dict")
 | dT {a:Addr} {kvs:List (List KI × V)} (e:H a=some (.dT kvs)):TyOf K H (.ref a) (.type "dict")
 | ins {a C dx:Addr} {fs:List (Str × V)} (e:H a=some (.ins C dx fs)) (cl:Cls K C) (ha:PySem.W.findIn K (.ref C) "__class__" = some (some (.builtin "object.__class__")))
   (hn:PySem.W.specialIn K (.builtin "object.__class__") "__get__" = some (some (.builtin "getset_descriptor.__get__"))) (htk:PySem.W.takesIn K (.builtin "object.__class__")=some true)
   (hm:PySem.W.mroIn K C (.type "object")=some true):TyOf K H (.ref a) (.ref C)
theorem isinst_ok {x:V} {u t:Value} (I:Inv X pins σ H s) (rx:RelV x u) (ty:TyOf X.K H x t) (e:PySem.W.kitOne X.K t c=some b) (h:∀ tk,Q (.bool b) { s with toks:=tk }) :
  wpAny (model X.prog X.w) A (call (.builtin "isinstance") [u,c]) Q E s:=by
 cases ty with
 | non=>cases (show u=Value.none from rx);exact PySem.W.kia_one PySem.W.kitx_none I.kIn True.intro e (fun z=>nomatch z) h
 | bl y=>cases (show u=Value.bool y from rx);exact PySem.W.kia_one PySem.W.kitx_bool I.kIn True.intro e (fun z=>nomatch z) h
 | int i=>obtain ⟨t,q⟩:=(show ∃ t,u=Value.int i t from rx);cases q;exact PySem.W.kia_one PySem.W.kitx_int I.kIn True.intro e (fun z=>nomatch z) h
 | str y=>obtain ⟨t,q⟩:=(show ∃ t,u=Value.str y t from rx);cases q;exact PySem.W.kia_one PySem.W.kitx_str I.kIn True.intro e (fun z=>nomatch z) h
 | flt y=>obtain ⟨t,q⟩:=(show ∃ t,u=Value.float y t from rx);cases q;exact PySem.W.kia_one PySem.W.kitx_float I.kIn True.intro e (fun z=>nomatch z) h
 | @lst a xs ea=>
  cases (show u=Value.ref a from rx)
  obtain ⟨_,_,n,_,h1⟩:=(show ObjOk X.prog X.w H s.heap a (.lst xs) from I.hok a _ ea)
  exact PySem.W.kia_one PySem.W.kitx_list I.kIn ⟨_,h1,rfl⟩ e (fun z=>nomatch z) h
 | @frz a ob xs ea=>
  cases (show u=Value.ref a from rx)
  obtain ⟨_,_,_,n,_,h1⟩:=(show ObjOk X.prog X.w H s.heap a (.frz ob (.lst xs)) from I.hok a _ ea)
  exact PySem.W.kia_one PySem.W.kitx_list I.kIn ⟨_,h1,rfl⟩ e (fun z=>nomatch z) h
 | @tup a xs ea=>
  cases (show u=Value.ref a from rx)
  obtain ⟨_,_,_,p⟩:=(show ObjOk X.prog X.w H s.heap a (.tup xs) from I.hok a _ ea)
  obtain ⟨o,h1,h2,_⟩:=p
  exact PySem.W.kia_one PySem.W.kitx_tuple I.kIn ⟨o,h1,h2⟩ e (fun z=>nomatch z) h
 | @dK a kvs ea=>
  cases (show u=Value.ref a from rx)
  obtain ⟨_,_,vs,_,p⟩:=(show ObjOk X.prog X.w H s.heap a (.dK kvs) from I.hok a _ ea)
  obtain ⟨o,es,ep,h1,h2,_⟩:=p
  exact PySem.W.kia_one PySem.W.kitx_dict I.kIn ⟨o,h1,h2.1⟩ e (fun z=>nomatch z) h
 | @dT a kvs ea=>
  cases (show u=Value.ref a from rx)
  obtain ⟨_,_,xs,_,o,es,ep,h1,h2,_⟩:=(show ObjOk X.prog X.w H s.heap a (.dT kvs) from I.hok a _ ea)
  exact PySem.W.kia_one PySem.W.kitx_dict I.kIn ⟨o,h1,h2.1⟩ e (fun z=>nomatch z) h
 | @ins a C dx fs ea cl ha hn htk hm=>
  cases (show u=Value.ref a from rx)
  obtain ⟨mA,O,_⟩:=ins_get I.hok ea
  obtain ⟨od,J,_⟩:=O.look
  exact PySem.W.kia_one (PySem.W.kitx_own (cl.get _) cl.hd ha hn htk hm) I.kIn J e (fun z=>nomatch z) h
end
end L2
namespace L2
open PySem PySem.Spec PyProof.Rows
structure Room (k:Nat) (A:Around):Prop where
 hd:A.handled=none
 dp:A.depth+3 * k+5<recursionLimit
 un:A.units+16 * k+200<cLine
 gd:A.guards=some []
theorem Room.mono {j k:Nat} {A:Around} (r:Room k A) (h:j≤k):Room j A:=⟨r.hd,by have:=r.dp;lia,by have:=r.un;lia,r.gd⟩
theorem Room.deeper {k:Nat} {A:Around} (r:Room (k+1) A) (env:Env):Room k (A.deeper env):=
 ⟨r.hd,by have:=r.dp;show A.depth+1+3 * k+5<_;lia,by have:=r.un;show A.units+3+16 * k+200<_;lia,r.gd⟩
theorem Room.depth {k:Nat} {A:Around} (r:Room k A):A.depth<recursionLimit:=by have:=r.dp;lia
theorem Room.units {k:Nat} {A:Around} (r:Room k A):A.units+64<cLine:=by have:=r.un;lia
theorem Room.units0 {k:Nat} {A:Around} (r:Room k A):A.units<cLine:=by have:=r.un;lia
def tNil:TA:=fun _ H Q=>Q [] H
def tCons (ta:TE) (tr:TA):TA:=fun σ H Q=>ta σ H fun x H1=>tr σ H1 fun xs H2=>Q (x::xs) H2
section
variable {X:Cx} {e:Expr} {es:List Expr} {te:TE} {t:TA} {pos:Pos}
theorem qA2:PA X [] tNil:=fun _ _ _ _ H Q I h=>Calls.spliced_nil ⟨[],H,I,.nil,h⟩
theorem qA0 (ha:PE X e te) (hr:PA X es t) (hs:starEach (e::es) X.env=(false,eval e X.env)::starEach es X.env:=by rfl):PA X (e::es) (tCons te t):=by
 intro pos pins s σ H Q I h
 rw [hs]
 show wpAny _ _ (spliced ((false,eval e X.env)::backTo pos (starEach es X.env))) _ _ s
 refine Calls.spliced_cons (thn (ha pins s σ H _ I h) fun u s1 ⟨x,H1,I1,r1,q1⟩=>?_)
 exact thn (hr pos pins s1 σ H1 _ I1 q1) fun us s2 ⟨xs,H2,I2,r2,q2⟩=>⟨x::xs,H2,I2,.cons r1 r2,q2⟩
def tTup (t:TA):TE:=fun σ H Q=>t σ H fun xs H1=>xs.length≤sizeLine∧∀ p,H1 p=none→Q (.ref p) (upd H1 p (.tup xs))
def tLst (t:TA):TE:=fun σ H Q=>t σ H fun xs H1=>xs.length≤sizeLine∧∀ p,H1 p=none→Q (.ref p) (upd H1 p (.lst xs))
theorem qAJ {x1} (h:PA X es t):PE X (.Tuple es x1 pos) (tTup t):=by
 intro pins s σ H Q I hq
 refine wpAny_Tuple_spliced (thn (h pos pins s σ H _ I hq) fun us s1 ⟨xs,H1,I1,r,z,q⟩=>⟨by rw [← r.length];exact z,?_⟩)
 have hf:H1 s1.heap.objs.size=none:=I1.hok.fresh (Nat.le_refl _)
 refine ⟨.ref s1.heap.objs.size,upd H1 s1.heap.objs.size (.tup xs),I1.laid (t':=s1.toks) (fun b u e=>Heap.get?_push_of_some _ e) (Nat.le_refl _) ?_,rfl,q _ hf⟩
 exact ⟨z,us,r,⟨_,Heap.get?_push_size _ rfl,rfl,_,rfl⟩⟩
theorem qAK (h:PA X es t):PE X (.List es pos) (tLst t):=by
 intro pins s σ H Q I hq
 refine wpAny_List_spliced (thn (h pos pins s σ H _ I hq) fun us s1 ⟨xs,H1,I1,r,z,q⟩=>⟨by rw [← r.length];exact z,?_⟩)
 have hf:H1 s1.heap.objs.size=none:=I1.hok.fresh (Nat.le_refl _)
 refine ⟨.ref s1.heap.objs.size,upd H1 s1.heap.objs.size (.lst xs),I1.laid (t':=s1.toks) (fun b u e=>Heap.get?_push_of_some _ e) (Nat.le_refl _) ?_,rfl,q _ hf⟩
 exact ⟨z,us,0,r,Heap.get?_push_size _ rfl⟩
end
abbrev Sp:=List V→Hp→VK→XK→Prop
abbrev CXT:=List Env→Hp→Shared→XK→Value→Shared→Prop
structure Env0 (P:Program) (w:World) (K:PySem.W.Frag) (mg:Str→Option Value) (base:Heap) (A:Around) (outer:List Env) (s:Shared) (H:Hp):Prop where
 frames:A.frames=some outer
 mod:Mod K mg base
 bs:∀ b o,base.get? b=some o→s.heap.get? b=some o∧H b=none
 bsz:base.objs.size≤s.heap.objs.size
 funs:s.heap.FunFrames base outer
 frf:∀ b ∈ frs outer,H b=none
 hok:HOk P w H s.heap
 bare:AllBare s.gens
def CE (outer:List Env) (P:Program) (w:World) (H:Hp) (s:Shared) (Q:VK) (u:Value) (s':Shared):Prop:=
 ∃ v H',s'.os=s.os∧AllBare s'.gens∧Un (frs outer) [] H H' s.heap s'.heap∧HOk P w H' s'.heap∧RelV v u∧Q v H'
def CR (CX:CXT) (outer:List Env) (P:Program) (w:World) (H:Hp) (s:Shared) (Q:VK) (E:XK) (r:Result) (s':Shared):Prop:=
 match r with
 | .ok (.ret u)=>CE outer P w H s Q u s'
 | .ok _=>False
 | .error e=>CX outer H s E e s'
structure FnOk (P:Program) (w:World) (K:PySem.W.Frag) (mg:Str→Option Value) (base:Heap) (CX:CXT) (k:Nat) (f:Addr) (fd:FuncData) (ps:List Str) (sp:Sp):Prop where
 len:∀ vs H Q E,sp vs H Q E→vs.length=ps.length
 run:∀ (A:Around) (outer:List Env) (s:Shared) (H:Hp) (args:Args) (us:List Value) (vs:List V) (Q:VK) (E:XK),Room k A→Env0 P w K mg base A outer s H→BindsTo s fd args (ps.zip us)→Vals vs us→sp vs H Q E→
  codeAny (model P w) A (.call (.ref f) args) (CR CX outer P w H s Q E) s
section
variable {X:Cx} {pins:List (Addr × Obj)} {σ:St} {H:Hp} {s s':Shared}
theorem Inv.env0 (I:Inv X pins σ H s):Env0 X.prog X.w X.K X.mg X.base X.A X.stack s H:=
 ⟨I.ok.frames,I.ok.mod,I.bs,Nat.le_trans I.ok.bsz I.sz,I.stack,I.stkFree,I.hok,I.bare⟩
theorem Inv.after {Q:VK} {u:Value} (I:Inv X pins σ H s) (h:CE X.stack X.prog X.w H s Q u s'):EP X pins σ Q u s':=by
 obtain ⟨v,H',os,bare,un,hok,r,q⟩:=h
 obtain ⟨hh,g,d,t,os'⟩:=s'
 obtain rfl:os'=s.os:=os
 exact ⟨v,H',I.call (h':=hh) (g':=g) (d':=d) (t':=t) (ch:=[]) un hok bare (fun b z=>absurd z (by simp)),r,q⟩
end
def tCall (sp:Sp) (dvs:List V) (E:XK) (t:TA):TE:=fun σ H Q=>t σ H fun vs H1=>sp (vs++dvs) H1 Q E
def Binds (K:PySem.W.Frag) (fd:FuncData) (ps:List Str) (ds:List Value):Prop:=
 ∀ (s:Shared) (us:List Value),K.In s.heap→(us++ds).length=ps.length→BindsTo s fd ⟨us,[]⟩ (ps.zip (us++ds))
theorem Binds.all {K:PySem.W.Frag} {fd:FuncData} {ps:List Str} (h:∀ us:List Value,us.length=ps.length→bindArgs fd ⟨us,[]⟩=pure (ps.zip us)):Binds K fd ps []:=fun s us _ hl=>by
 rw [List.append_nil] at hl ⊢
 exact .of_eq (h us hl)
def Passes (CX:CXT) (X:Cx) (E:XK):Prop:=∀ (pins:List (Addr × Obj)) (σ:St) (H:Hp) (s:Shared) (e:Value) (s':Shared),Inv X pins σ H s→CX X.stack H s E e s'→X.xe e s'
section
variable {X:Cx} {CX:CXT} {k:Nat} {f C:Addr} {fd:FuncData} {ps:List Str} {sp:Sp} {dvs:List V} {ds:List Value} {E:XK} {x m:Str} {p pos apos:Pos} {e o:Expr} {es:List Expr} {ta:TE} {t:TA}
theorem run_fn {pins:List (Addr × Obj)} {σ:St} {H:Hp} {s:Shared} {Q:VK} {us:List Value} {vs:List V} (F:FnOk X.prog X.w X.K X.mg X.base CX k f fd ps sp) (hr:Room k X.A) (hb:Binds X.K fd ps ds) (hd:Vals dvs ds) (hx:Passes CX X E)
  (I:Inv X pins σ H s) (r:Vals vs us) (h:sp (vs++dvs) H Q E):wpAny (model X.prog X.w) X.A (call (.ref f) us) (EP X pins σ Q) X.xe s:=by
 have r2:Vals (vs++dvs) (us++ds):=r.append hd
 have hl:(us++ds).length=ps.length:=by rw [← r2.length];exact F.len _ _ _ _ h
 refine wpAny_call (codeAny_mono (F.run X.A X.stack s H ⟨us,[]⟩ (us++ds) (vs++dvs) Q E hr I.env0 (hb s us I.kIn hl) r2 h) fun r s' hq=>?_)
 cases r with
 | error e=>exact hx pins σ H s e s' I hq
 | ok fl=>
  cases fl with
  | ret u=>exact I.after hq
  | next=>exact False.elim hq
  | brk=>exact False.elim hq
  | cont=>exact False.elim hq
theorem pe_call (F:FnOk X.prog X.w X.K X.mg X.base CX k f fd ps sp) (hr:Room k X.A) (hg:Gl X x) (hm:X.mg x=some (.ref f)) (hk:PySem.W.keepIn X.K (.ref f)=true) (hb:Binds X.K fd ps ds) (hd:Vals dvs ds) (hx:Passes CX X E)
  (ha:PA X (e::es) t) (hdb:(x == ("__debug__" : Str))=false:=by decide) (he:starEach (e::es) X.env=(false,eval e X.env)::starEach es X.env:=by rfl) (hpl:(backTo pos (starEach es X.env)).any (·.1)=false:=by rfl) :
  PE X (.Call (.Name x p) (e::es) [] pos) (tCall sp dvs E t):=by
 intro pins s σ H Q I h
 refine wpAny_Call_Name_kw (ld_glob I hg hm ?_ hdb)
 refine PySem.W.callWith_K (h₀:=X.base) I.ok.mod.kin hk (thn (ha pos pins s σ H _ I h) fun us s1 ⟨vs,H1,I1,r,q⟩=>⟨I1.kIn,?_⟩) he hpl
 exact run_fn F hr hb hd hx I1 r q
structure Mk (K:PySem.W.Frag) (C f:Addr):Prop where
 makes:PySem.W.makesIn K C=true
 init:PySem.W.findIn K (.ref C) "__init__" = some (some (.ref f))
 fn:PySem.W.isFn K (.ref f)=true
 kp:PySem.W.keepIn K (.ref C)=true
end
section
variable {X:Cx} {CX:CXT} {k:Nat} {f C:Addr} {fd:FuncData} {ps ks:List Str} {sp:Sp} {E:XK} {x m:Str} {p pos apos kpos:Pos} {e o:Expr} {es:List Expr} {kws:List Keyword} {te ta:TE} {t tk:TA} {nm:Option Str}
structure KBinds (K:PySem.W.Frag) (fd:FuncData) (ps ks:List Str) (g:List Value→List Value→List Value) (gV:List V→List V→List V):Prop where
 to:∀ (s:Shared) (us ws:List Value),K.In s.heap→(g us ws).length=ps.length→BindsTo s fd ⟨us,ks.zip ws⟩ (ps.zip (g us ws))
 rel:∀ {vs:List V} {us:List Value} {zs:List V} {ws:List Value},Vals vs us→Vals zs ws→Vals (gV vs zs) (g us ws)
variable {g:List Value→List Value→List Value} {gV:List V→List V→List V}
end
structure FnScope (N P:List Str) (sc:Scope):Prop where
 kind:sc.kind=.function
 co:sc.isCoroutine=false
 gen:sc.isGenerator=false
 nd:N.Nodup
 pre:N.take P.length=P
 par:∀ x ∈ P,sc.names.lookup x=some .local∨sc.names.lookup x=some .cell
 nofree:∀ y ∈ sc.names,y.2 ≠ .free
theorem bindL_out {kindOf:Str→Option NameKind} {x:Str}:∀ {binds:List (Str × Value)} {m:Str→Option Value},(∀ v,(x,v) ∉ binds)→bindL kindOf binds m x=m x
 | [],_,_=>rfl
 | (n,v)::r,m,h=>by
  unfold bindL
  rw [bindL_out fun w hw=>h w (List.mem_cons_of_mem _ hw)]
  split
  ·have:x ≠ n:=by rintro rfl;exact h v List.mem_cons_self
   simp [this]
  ·rfl
theorem bindC_out {kindOf:Str→Option NameKind} {x:Str}:∀ {binds:List (Str × Value)} {m:Str→Option Value},(∀ v,(x,v) ∉ binds)→bindC kindOf binds m x=m x
 | [],_,_=>rfl
 | (n,v)::r,m,h=>by
  unfold bindC
  rw [bindC_out fun w hw=>h w (List.mem_cons_of_mem _ hw)]
  split
  ·rfl
  ·have:x ≠ n:=by rintro rfl;exact h v List.mem_cons_self
   simp [this]
theorem bindL_get {kindOf:Str→Option NameKind} {x:Str} {v:Value}:∀ {P:List Str} {vs:List Value} {i:Nat} {m:Str→Option Value},P.Nodup→P[i]?=some x→vs[i]?=some v→kindOf x=some .local→
  bindL kindOf (P.zip vs) m x=some v
 | [],_,_,_,_,h,_,_=>by simp at h
 | _::_,[],_,_,_,_,h,_=>by simp at h
 | p::P,w::vs,0,m,nd,h1,h2,hk=>by
  simp at h1 h2;subst h1;subst h2
  show bindL kindOf ((p,w)::P.zip vs) m p=_
  unfold bindL
  rw [bindL_out fun v hv=>(List.nodup_cons.mp nd).1 (List.of_mem_zip hv).1,if_pos hk]
  simp
 | p::P,w::vs,i+1,m,nd,h1,h2,hk=>by
  show bindL kindOf ((p,w)::P.zip vs) m x=_
  unfold bindL
  exact bindL_get (i:=i) (List.nodup_cons.mp nd).2 (by simpa using h1) (by simpa using h2) hk
theorem bindC_get {kindOf:Str→Option NameKind} {x:Str} {v:Value}:∀ {P:List Str} {vs:List Value} {i:Nat} {m:Str→Option Value},P.Nodup→P[i]?=some x→vs[i]?=some v→kindOf x ≠ some .local→
  bindC kindOf (P.zip vs) m x=some v
 | [],_,_,_,_,h,_,_=>by simp at h
 | _::_,[],_,_,_,_,h,_=>by simp at h
 | p::P,w::vs,0,m,nd,h1,h2,hk=>by
  simp at h1 h2;subst h1;subst h2
  show bindC kindOf ((p,w)::P.zip vs) m p=_
  unfold bindC
  rw [bindC_out fun v hv=>(List.nodup_cons.mp nd).1 (List.of_mem_zip hv).1,if_neg hk]
  simp
 | p::P,w::vs,i+1,m,nd,h1,h2,hk=>by
  show bindC kindOf ((p,w)::P.zip vs) m x=_
  unfold bindC
  exact bindC_get (i:=i) (List.nodup_cons.mp nd).2 (by simpa using h1) (by simpa using h2) hk
noncomputable def start (N:List Str) (vs:List V):St:=vs.map some++List.replicate (N.length - vs.length) none
noncomputable def cxOf (CX:CXT) (P:Program) (w:World) (K:PySem.W.Frag) (mg:Str→Option Value) (base:Heap) (N:List Str) (qual:Str) (scope:Scope) (f:Addr) (cd:Value) (A:Around) (outer:List Env) (s:Shared) (H:Hp) (E:XK):Cx where
 prog:=P
 w:=w
 K:=K
 mg:=mg
 base:=base
 A:=A.deeper (envOfC qual scope s.heap.objs.size f cd)
 N:=N
 s₀:=s
 H₀:=H
 env:=envOfC qual scope s.heap.objs.size f cd
 outer:=outer
 stack:=envOfC qual scope s.heap.objs.size f cd::outer
 ex:=[]
 calm:=true
 fn:=fun _=>true
 pn:=[]
 xe:=fun e s'=>wpAny (model P w) (A.deeper (envOfC qual scope s.heap.objs.size f cd)) (leaving (envOfC qual scope s.heap.objs.size f cd) e) (fun _ s''=>CX outer H s E e s'') (fun e' s''=>CX outer H s E e' s'') s'
theorem cell_has {sc:Scope} {n:Nat} {x:Str} (h:sc.names.lookup x=some .cell):∃ c,(cellsFrom n sc.names []).lookup x=some c:=by
 have q:=PySem.W.cellsFrom_some sc.names n [] (.inl h)
 exact Option.isSome_iff_exists.mp q
theorem inv_start {CX:CXT} {P:Program} {w:World} {K:PySem.W.Frag} {mg:Str→Option Value} {base:Heap} {N ps:List Str} {qual:Str} {scope:Scope} {f:Addr} {cd:Value} {A:Around} {outer:List Env} {s s1:Shared} {H:Hp} {E:XK} {us:List Value} {vs:List V}
  (S:FnScope N ps scope) (hd:A.handled=none) (e0:Env0 P w K mg base A outer s H) (hl:vs.length=ps.length) (r:Vals vs us)
  (x:InCallC s s.heap.objs.size (bindL (envOfC qual scope s.heap.objs.size f cd).kindOf (ps.zip us) fun _=>none) (cellsFrom (s.heap.objs.size+1) scope.names []) (bindC (envOfC qual scope s.heap.objs.size f cd).kindOf (ps.zip us) fun _=>none) s1) :
  Inv (cxOf CX P w K mg base N qual scope f cd A outer s H E) [] (start N vs) H s1:=by
 have hpl:ps.length≤N.length:=by have:=congrArg List.length S.pre;rw [List.length_take] at this;lia
 obtain ⟨h1,tk,rfl,hk⟩:=x.done
 have noA:∀ b:Addr,b ∉ (cxOf CX P w K mg base N qual scope f cd A outer s H E).ex:=fun b z=>absurd (show b ∈ ([]:List Addr) from z) (by simp)
 refine ⟨⟨e0.mod,S.kind,rfl,rfl,Nat.le_refl _,fun y z c h1 h2=>?_,fun y hy=>?_,fun y c _ h=>?_,fun _=>hd,Around.frames_deeper e0.frames,.inr ⟨rfl,rfl⟩,fun b z=>absurd z (noA b),e0.bs,e0.bsz,fun b _ _=>noA b,fun b z=>absurd z (noA b),e0.funs,e0.frf⟩,
  rfl,e0.bare,Un.kept hk,⟨_,x.toInCall.ns,fun i y v h1 h2 h3=>?_⟩,fun y c h=>⟨_,x.cell y c h⟩,e0.hok.fresh (Nat.le_refl _),fun y c h=>?_,fun p hp=>absurd (show p ∈ ([]:List (Addr × Obj)) from hp) (by simp),e0.hok.kept hk,?_⟩
 ·exact name_of_addr x.apart (PySem.mem_of_lookup h1) (PySem.mem_of_lookup h2)
 ·have hy:scope.names.lookup y=some .cell∨scope.names.lookup y=some .free:=hy
  rcases hy with hy | hy
  ·exact cell_has hy
  ·exact absurd rfl (S.nofree _ (PySem.mem_of_lookup hy))
 ·exact Nat.le_of_lt (x.above y c (PySem.mem_of_lookup h))
 ·have hi:i<vs.length:=by
   unfold start at h2
   by_cases hi:i<vs.length
   ·exact hi
   ·rw [List.getElem?_append_right (by simpa using hi)] at h2
    rw [List.getElem?_replicate] at h2
    split at h2 <;> cases h2
  have ha:vs[i]?=some v:=by
   unfold start at h2
   rw [List.getElem?_append_left (by simpa using hi),List.getElem?_map] at h2
   cases e:vs[i]? with
   | none=>rw [e] at h2;cases h2
   | some a=>rw [e] at h2;cases h2;rfl
  obtain ⟨u,hu,rv⟩:=r.get ha
  have hp:ps[i]?=some y:=by
   rw [← S.pre,List.getElem?_take_of_lt (by lia)];exact h1
  have ndP:ps.Nodup:=by rw [← S.pre];exact S.nd.sublist (List.take_sublist _ _)
  refine ⟨u,rv,?_⟩
  rcases S.par y (List.mem_of_getElem? hp) with k | k
  ·exact .inl ⟨k,bindL_get ndP hp hu k⟩
  ·obtain ⟨c,e⟩:=cell_has (n:=s.heap.objs.size+1) k
   refine .inr ⟨.inl k,c,e,?_⟩
   have q:=x.cell y c e
   rw [bindC_get ndP hp hu (by show scope.names.lookup y ≠ _;rw [k];decide)] at q
   exact q
 ·exact e0.hok.fresh (Nat.le_of_lt (x.above y c (PySem.mem_of_lookup h)))
 ·unfold start
  show _=N.length
  rw [List.length_append,List.length_map,List.length_replicate]
  lia
theorem fn_of {CX:CXT} {P:Program} {w:World} {K:PySem.W.Frag} {mg:Str→Option Value} {base:Heap} {k:Nat} {f:Addr} {name qual:Str} {params:Arguments} {body:List Stmt} {scope:Scope} {dV kV doc pm cdv ct oc:Value} {an od:Option Addr}
  {osl:Array (Option Value)} {N ps:List Str} {sp:Sp} (lk:K.lookup f=some ⟨oc,od,.func (PySem.W.fnOf name qual params body scope dV kV doc pm an cdv ct),osl⟩) (hcd:PySem.W.codeIn K cdv qual=true) (S:FnScope N ps scope)
  (len:∀ vs H Q E,sp vs H Q E→vs.length=ps.length)
  (hbody:∀ (A:Around) (outer:List Env) (s:Shared) (H:Hp) (vs:List V) (Q:VK) (E:XK),Room k (A.deeper (envOfC qual scope s.heap.objs.size f cdv))→sp vs H Q E→
   ∃ t,PSs (cxOf CX P w K mg base N qual scope f cdv A outer s H E) body t∧t { nx:=fun _ H'=>Q .non H',rt:=Q } (start N vs) H) :
  FnOk P w K mg base CX (k+1) f (PySem.W.fnOf name qual params body scope dV kV doc pm an cdv ct) ps sp:=by
 refine ⟨len,fun A outer s H args us vs Q E hr e0 hb r hsp=>?_⟩
 have hl:=len _ _ _ _ hsp
 have KX:K.In s.heap:=e0.mod.kin.keeps fun b o e=>(e0.bs b o e).1
 have lim:s.heap.NoLimit:=e0.mod.nolimit.keeps fun b o e=>(e0.bs b o e).1
 have hkind:∀ y ∈ ps.zip us,scope.names.lookup y.1=some .local∨(scope.names.lookup y.1=some .cell∧((cellsFrom (s.heap.objs.size+1) scope.names []).lookup y.1).isSome=true):=fun ⟨n,v⟩ hy=>by
  rcases S.par n (List.of_mem_zip hy).1 with q | q
  ·exact .inl q
  ·exact .inr ⟨q,PySem.W.cellsFrom_some _ _ _ (.inl q)⟩
 refine codeAny_call_function hr.depth (KX _ _ lk) rfl S.co S.gen rfl (PySem.W.codeRec_of KX hcd) (hb _ _ _ _ ?_)
 refine wpAny_newFunctionEnv_cells S.kind hkind fun env he s1 x=>?_
 subst he
 refine ⟨lim.keeps x.toInCall.keep,codeAny_func ?_⟩
 obtain ⟨t,ht,hq⟩:=hbody A outer s H vs Q E (hr.deeper _) hsp
 have I:Inv (cxOf CX P w K mg base N qual scope f cdv A outer s H E) [] (start N vs) H s1:=inv_start S hr.hd e0 hl r x
 refine wpAny_mono (ht [] s1 (start N vs) H _ I hq) (fun fl s' hs=>?_) fun e s' hs=>hs
 have fin:∀ {σ':St} {H':Hp} {v:V} {u:Value},Inv (cxOf CX P w K mg base N qual scope f cdv A outer s H E) [] σ' H' s'→RelV v u→Q v H'→CE outer P w H s Q u s':=
  fun {σ' H' v u} J rv q=>⟨v,H',J.os,J.bare,J.base,J.hok,rv,q⟩
 cases fl with
 | ret u=>
  obtain ⟨v,σ',H',J,rv,q⟩:=hs
  exact fin J rv q
 | next=>
  obtain ⟨σ',H',J,q⟩:=hs
  exact fin (v:=V.non) (u:=Value.none) J rfl q
 | brk=>
  obtain ⟨_,_,_,q⟩:=hs
  exact False.elim q
 | cont=>
  obtain ⟨_,_,_,q⟩:=hs
  exact False.elim q
end L2
namespace L2
open PySem PySem.Spec PyProof.Rows
section
variable {X:Cx} {x:Str} {p pos:Pos} {e:Expr} {es:List Expr} {t:TA} {id T:String} {r:List V→Hp→VK→Prop}
def tCB (r:List V→Hp→VK→Prop) (t:TA):TE:=fun σ H Q=>t σ H fun vs H1=>r vs H1 Q
theorem qAA (hc:CallR X (.builtin id) r) (hg:Gl X x) (hm:X.mg x=none) (hv:bootBuiltins x=some (.builtin id)) (ha:PA X (e::es) t) (hn:x ≠ "__name__":=by decide) (hdb:(x == ("__debug__" : Str))=false:=by decide)
  (he:starEach (e::es) X.env=(false,eval e X.env)::starEach es X.env:=by rfl) (hpl:(backTo pos (starEach es X.env)).any (·.1)=false:=by rfl):PE X (.Call (.Name x p) (e::es) [] pos) (tCB r t):=by
 intro pins s σ H Q I h
 refine wpAny_Call_Name_kw (ld_blt I hg hm hv ?_ hn hdb)
 exact PyProof.Rows.callWith_builtin1 (thn (ha pos pins s σ H _ I h) fun us s1 ⟨vs,H1,I1,r1,q1⟩=>hc pins s1 σ H1 vs us Q I1 r1 q1) he hpl
theorem qAD (hc:CallR X (.type T) r) (hg:Gl X x) (hm:X.mg x=none) (hv:bootBuiltins x=some (.type T)) (ha:PA X (e::es) t) (hn:x ≠ "__name__":=by decide) (hdb:(x == ("__debug__" : Str))=false:=by decide)
  (he:starEach (e::es) X.env=(false,eval e X.env)::starEach es X.env:=by rfl) (hpl:(backTo pos (starEach es X.env)).any (·.1)=false:=by rfl):PE X (.Call (.Name x p) (e::es) [] pos) (tCB r t):=by
 intro pins s σ H Q I h
 refine wpAny_Call_Name_kw (ld_blt I hg hm hv ?_ hn hdb)
 exact PyProof.Rows.callWith_type1 (thn (ha pos pins s σ H _ I h) fun us s1 ⟨vs,H1,I1,r1,q1⟩=>hc pins s1 σ H1 vs us Q I1 r1 q1) he hpl
end
end L2
namespace HT
open PySem PyProof.Rows
noncomputable def lexLt:List Int→List Int→Bool
 | [],[]=>false
 | [],_::_=>true
 | _::_,[]=>false
 | x::xs,y::ys=>if x=y then lexLt xs ys else decide (x<y)
section
open PySem.SeqAt
open PySem.AutoSeq1 (wpAny_loadPart')
open PySem.MeetsSeq PySem.MeetsSeq2 PySem.MeetsSeq3
end
section
variable {prog:Program} {w:World} {A:Around} {E:Value→Shared→Prop} {s:Shared}
theorem cat_tup {t b:Addr} {vs ws:List Value} {Q:Value→Shared→Prop} (ht:IsTup s.heap t vs.toArray) (hb:IsTup s.heap b ws.toArray) (hv:vs ≠ [])
  (h1:ws=[]→Q (.ref t) s) (h2:ws ≠ []→Q (.ref s.heap.objs.size) { s with heap:=s.heap.push { cls:=.type "tuple",data:=.seq (vs++ws).toArray } })
  (hsz:vs.length+ws.length≤sizeLine):wpAny (model prog w) A (binaryOp .Add (.ref t) (.ref b)) Q E s:=by
 obtain ⟨⟨cls,dd,data,sl⟩,ho,hc,n,hd⟩:=id ht
 obtain ⟨⟨cls2,dd2,data2,sl2⟩,ho2,hc2,n2,hd2⟩:=id hb
 simp only at hc hd hc2 hd2
 subst hc hd hc2 hd2
 have e:vs.toArray++ws.toArray=(vs++ws).toArray:=by simp
 by_cases hw:ws=[]
 ·exact concat_meets ⟨_,ho,rfl⟩ ⟨_,ho2,rfl⟩ noFill_tuple_add seq_tuple_add PySem.F.slot_tuple_add PySem.F.entry_tuple_add (PySem.F.args_tuple_add_2 _ _)
   (tuple_addW1 t b vs.toArray ws.toArray n n2 dd dd2 sl sl2 (by simpa using hv) (by simp [hw])) ⟨ho,ho2,h1 hw⟩
 ·refine concat_meets ⟨_,ho,rfl⟩ ⟨_,ho2,rfl⟩ noFill_tuple_add seq_tuple_add PySem.F.slot_tuple_add PySem.F.entry_tuple_add (PySem.F.args_tuple_add_2 _ _)
   (tuple_addW2 t b vs.toArray ws.toArray n n2 dd dd2 sl sl2 (by simpa using hv) (by simpa using hw) (by rw [List.size_toArray,List.size_toArray];exact hsz)) ⟨ho,ho2,?_⟩
  rw [e]
  exact h2 hw
noncomputable def sIx (n d:Nat):Option Int→Nat
 | none=>d
 | some v=>if v<0 then (v+(n:Int)).toNat else min v.toNat n
theorem sIx_none (n d:Nat):sIx n d none=d:=rfl
theorem sIx_nat (n d k:Nat):sIx n d (some (k:Int))=min k n:=by
 show (if (k:Int)<0 then ((k:Int)+(n:Int)).toNat else min (k:Int).toNat n)=min k n
 rw [if_neg (by lia),Int.toNat_natCast]
theorem sIx_le (n d:Nat) (hd:d≤n) (o:Option Int):sIx n d o≤n:=by
 cases o with
 | none=>exact hd
 | some v=>
  show (if v<0 then (v+(n:Int)).toNat else min v.toNat n)≤n
  by_cases hv:v<0
  ·rw [if_pos hv];lia
  ·rw [if_neg hv];exact Nat.min_le_right _ _
theorem clip_eq (v:Int) (n d:Nat):(if v<0 then max (v+(n:Int)) 0 else min v (n:Int))=((sIx n d (some v):Nat):Int):=by
 show (if v<0 then max (v+(n:Int)) 0 else min v (n:Int))=(((if v<0 then (v+(n:Int)).toNat else min v.toNat n):Nat):Int)
 by_cases hv:v<0
 ·simp only [if_pos hv];lia
 ·simp only [if_neg hv];lia
theorem adjust_gen (lo hi:Option Int) (n:Nat):Builtin.Slice.sliceAdjust lo hi 1 (n:Int)=(((sIx n 0 lo:Nat):Int),((sIx n n hi:Nat):Int)):=by
 have h1:¬ ((1:Int)<0):=by lia
 unfold Builtin.Slice.sliceAdjust
 simp only [h1,if_false]
 refine Prod.ext ?_ ?_
 ·cases lo with
  | none=>rfl
  | some v=>exact clip_eq v n 0
 ·cases hi with
  | none=>rfl
  | some v=>exact clip_eq v n n
theorem places_gen (i j:Nat):Builtin.Slice.slicePlaces (i:Int) (j:Int) 1=j - i:=by
 unfold Builtin.Slice.slicePlaces
 have h1:(1:Int) > 0:=by lia
 simp only [h1,if_true,Int.ediv_one]
 split <;> lia
theorem slicePart_ {v:Value} {o:Option Int} {Q:Option Int→Shared→Prop} (p:IsPart v o) (h:Q o s):wpAny (model prog w) A (Builtin.Slice.slicePartIndex v) Q E s:=by
 cases p with
 | none=>exact slicePart_none h
 | int i t=>exact slicePart_int h
theorem qCT {sl:Addr} {vl vu:Value} {lo hi:Option Int} {n:Nat} {Q:Int × Int × Nat→Shared→Prop} (hs:s.heap.IsSliceOf sl vl vu .none) (pl:IsPart vl lo) (pu:IsPart vu hi)
  (h:Q (((sIx n 0 lo:Nat):Int),1,sIx n n hi - sIx n 0 lo) s):wpAny (model prog w) A (Builtin.Slice.sliceApplied (.ref sl) (pure (n:Int))) Q E s:=by
 obtain ⟨os,hos,hcs,hds⟩:=id hs
 unfold Builtin.Slice.sliceApplied Builtin.Slice.sliceFields
 refine wpAny_bind (wpAny_bind (wpAny_field hos hds (x:=vl) rfl (wpAny_bind (wpAny_field hos hds (x:=vu) rfl (wpAny_bind (wpAny_field hos hds (x:=.none) rfl (wpAny_pure ?_)))))))
 refine wpAny_bind (slicePart_none ?_)
 show wpAny _ _ (if ((1:Int) == 0)=true then _ else _) _ _ s
 rw [if_neg (by decide)]
 refine wpAny_bind (slicePart_ pl (wpAny_bind (slicePart_ pu (wpAny_bind (wpAny_pure ?_)))))
 show wpAny _ _ (match Builtin.Slice.sliceAdjust lo hi 1 (n:Int) with | (lo,hi)=>pure (lo,(1:Int),Builtin.Slice.slicePlaces lo hi 1)) _ _ s
 rw [adjust_gen lo hi n]
 show wpAny _ _ (pure (((sIx n 0 lo:Nat):Int),(1:Int),Builtin.Slice.slicePlaces ((sIx n 0 lo:Nat):Int) ((sIx n n hi:Nat):Int) 1)) _ _ s
 rw [places_gen]
 exact wpAny_pure h
theorem pick_gen (xs:Array Value) (i k:Nat):((List.range k).filterMap fun (m:Nat)=>xs[((i:Int)+(m:Int) * 1).toNat]?).toArray=((xs.toList.drop i).take k).toArray:=by
 have e:(fun (m:Nat)=>xs[((i:Int)+(m:Int) * 1).toNat]?)=fun m=>xs[i+m]?:=by
  funext m
  have:((i:Int)+(m:Int) * 1).toNat=i+m:=by lia
  rw [this]
 rw [e]
 have:=pick_run xs i k
 rw [List.filterMap_map] at this
 have e2:((fun x=>xs[x]?) ∘ fun x=>i+x)=fun m=>xs[i+m]?:=rfl
 rw [e2] at this
 rw [this]
theorem getItem_tuple_cut {t sl:Addr} {items:Array Value} {vl vu:Value} {lo hi:Option Int} {Q:Value→Shared→Prop} (ht:IsTup s.heap t items) (hs:s.heap.IsSliceOf sl vl vu .none) (pl:IsPart vl lo) (pu:IsPart vu hi)
  (hw:¬ (sIx items.size 0 lo=0∧sIx items.size items.size hi=items.size))
  (h:Q (.ref s.heap.objs.size) { s with heap:=s.heap.push { cls:=.type "tuple",data:=.seq ((items.toList.drop (sIx items.size 0 lo)).take (sIx items.size items.size hi - sIx items.size 0 lo)).toArray } })
  (hsz:items.size≤sizeLine):wpAny (model prog w) A (getItem (.ref t) (.ref sl)) Q E s:=by
 have htake:sizeOk (.seq ((items.toList.drop (sIx items.size 0 lo)).take (sIx items.size items.size hi - sIx items.size 0 lo)).toArray):=by
  show ((items.toList.drop (sIx items.size 0 lo)).take (sIx items.size items.size hi - sIx items.size 0 lo)).toArray.size≤sizeLine
  rw [List.size_toArray,List.length_take,List.length_drop,Array.length_toList]
  lia
 have hj:sIx items.size items.size hi≤items.size:=sIx_le _ _ (Nat.le_refl _) hi
 obtain ⟨os,hos,hcs,hds⟩:=id hs
 have hTs:s.TypeIs (.ref sl) "slice":=⟨os,hos,hcs⟩
 unfold getItem
 try with_reducible refine wpAny_holding ?_
 first | refine wpAny_bind (wpAny_pure ?_) | skip
 refine wpAny_bind (wpAny_sequenceKey ht.typeIs (by decide) ?_)
 refine wpAny_bind (wpAny_callSpecial?_slot (name:=Str.ofString "__getitem__") ht.typeIs PyProof.Rows.slot_tuple_getitem
  (wpAny_call_entry PyProof.Rows.slot_tuple_getitem ht.typeIs entry_tuple_getitem ?_ (args_tuple_getitem _ _)))
 show wpAny _ _ (Builtin.Tuple.tupleItemsOf (.ref t) >>= _) _ _ s
 refine wpAny_bind (tupleItemsOf_ ht ?_)
 refine wpAny_bind (wpAny_typeOf hTs ?_)
 rw [if_pos (by decide)]
 refine wpAny_bind (qCT hs pl pu ?_)
 have hno:¬ ((((sIx items.size 0 lo:Nat):Int) == 0 && (1:Int) == 1 && (sIx items.size items.size hi - sIx items.size 0 lo) == items.size)=true):=by
  intro q
  rw [Bool.and_eq_true,Bool.and_eq_true] at q
  have q1:((sIx items.size 0 lo:Nat):Int)=0:=eq_of_beq q.1.1
  have q2:sIx items.size items.size hi - sIx items.size 0 lo=items.size:=eq_of_beq q.2
  exact hw ⟨by lia,by lia⟩
 show wpAny _ _ (if (((sIx items.size 0 lo:Nat):Int) == 0 && (1:Int) == 1 && (sIx items.size items.size hi - sIx items.size 0 lo) == items.size)=true then _ else _) _ _ s
 rw [if_neg hno,pick_gen]
 first
  | exact wpAny_bind (m:=Builtin.Tuple.tupleExact _) (wpAny_newObj_type (wpAny_pure ⟨_,rfl,wpAny_pure h⟩) htake)
  | exact wpAny_bind (m:=Builtin.Tuple.tupleExact _) (wpAny_newObj_type (wpAny_bind (wpAny_pure (wpAny_pure ⟨_,rfl,wpAny_pure h⟩))) htake)
  | exact wpAny_bind (wpAny_bind (m:=Builtin.Tuple.tupleExact _) (wpAny_newObj_type (wpAny_pure (wpAny_pure ⟨_,rfl,wpAny_pure h⟩)) htake))
  | exact wpAny_bind (wpAny_bind (m:=Builtin.Tuple.tupleExact _) (wpAny_newObj_type (wpAny_pure ⟨_,rfl,wpAny_pure h⟩) htake))
end
end HT
namespace L2
open PySem PySem.Spec PyProof.Rows
abbrev TO:=St→Hp→(Option Int→Hp→Prop)→Prop
def PO (X:Cx) (e:Option Expr) (t:TO):Prop:=
 ∀ (pins:List (Addr × Obj)) (s:Shared) (σ:St) (H:Hp) (Q:Option Int→Hp→Prop),Inv X pins σ H s→t σ H Q→
  wpAny (model X.prog X.w) X.A (evalPart e X.env) (fun u s'=>∃ o H',Inv X pins σ H' s'∧IsPart u o∧Q o H') X.xe s
def tNoPart:TO:=fun _ H Q=>Q none H
def tPart (t:TE):TO:=fun σ H Q=>t σ H fun x H1=>∃ i,x=.int i∧Q (some i) H1
section
variable {X:Cx} {e:Expr} {te:TE} {lo hi:Option Expr} {tl th:TO} {pos p2:Pos}
theorem qBE:PO X none tNoPart:=by
 intro pins s σ H Q I h
 rw [evalPart_none]
 exact wpAny_pure ⟨none,H,I,.none,h⟩
theorem qB9 (h:PE X e te):PO X (some e) (tPart te):=by
 intro pins s σ H Q I hw
 rw [evalPart_some]
 refine thn (h pins s σ H _ I hw) fun u s1 ⟨x,H1,I1,r1,q1⟩=>?_
 obtain ⟨i,rfl,q⟩:=q1
 obtain ⟨t,rfl⟩:=r1
 exact ⟨some i,H1,I1,.int i t,q⟩
def SlR (X:Cx) (r:V→Option Int→Option Int→Hp→VK→Prop):Prop:=
 ∀ (pins:List (Addr × Obj)) (s:Shared) (σ:St) (H:Hp) (x:V) (v vl vu:Value) (lo hi:Option Int) (sl:Addr) (Q:VK),Inv X pins σ H s→RelV x v→s.heap.IsSliceOf sl vl vu .none→IsPart vl lo→IsPart vu hi→r x lo hi H Q→
  ∃ T id,typeLookup (.type T) "__getitem__" = pure (some (.builtin id))∧s.TypeIs v T∧wpAny (model X.prog X.w) X.A (getItem v (.ref sl)) (EP X pins σ Q) X.xe s
def tSl (r:V→Option Int→Option Int→Hp→VK→Prop) (te:TE) (tl th:TO):TE:=fun σ H Q=>te σ H fun x H1=>tl σ H1 fun l H2=>th σ H2 fun u H3=>r x l u H3 Q
theorem qB3 {r:V→Option Int→Option Int→Hp→VK→Prop} (hr:SlR X r) (he:PE X e te) (hl:PO X lo tl) (hu:PO X hi th):PE X (.Subscript e (.Slice lo hi none p2) pos) (tSl r te tl th):=by
 intro pins s σ H Q I h
 refine Subscript_ (thn (he pins s σ H _ I h) fun v s1 ⟨x,H1,I1,r1,q1⟩=>?_)
 refine wpAny_Slice (thn (hl pins s1 σ H1 _ I1 q1) fun vl s2 ⟨l,H2,I2,pl,q2⟩=>thn (hu pins s2 σ H2 _ I2 q2) fun vu s3 ⟨u,H3,I3,pu,q3⟩=>?_)
 rw [evalPart_none]
 refine wpAny_pure ?_
 have I4:Inv X pins σ H3 { s3 with heap:=s3.heap.push { cls:=.type "slice",data:=.fields #[vl,vu,.none] } }:=I3.kept (t':=s3.toks) fun b ob q=>Heap.get?_push_of_some _ q
 obtain ⟨T,id,hT,ht,hg⟩:=hr pins { s3 with heap:=s3.heap.push { cls:=.type "slice",data:=.fields #[vl,vu,.none] } } σ H3 x v vl vu l u s3.heap.objs.size Q I4 r1 (Heap.IsSliceOf.new ..) pl pu q3
 show wpAny (model X.prog X.w) X.A (subscriptTail e (.Slice lo hi none p2) v (.ref s3.heap.objs.size)) (EP X pins σ Q) X.xe { s3 with heap:=s3.heap.push { cls:=.type "slice",data:=.fields #[vl,vu,.none] } }
 exact tail_any (ops:=[.ref s3.heap.objs.size,v]) ht hT hg (by with_unfolding_all rfl)
noncomputable def cutV (xs:List V) (lo hi:Option Int):List V:=(xs.drop (HT.sIx xs.length 0 lo)).take (HT.sIx xs.length xs.length hi - HT.sIx xs.length 0 lo)
theorem cutV_length (xs:List V) (lo hi:Option Int):(cutV xs lo hi).length≤xs.length:=by
 unfold cutV
 rw [List.length_take,List.length_drop]
 lia
def rSlT (K:PySem.W.Frag):V→Option Int→Option Int→Hp→VK→Prop:=fun x lo hi H Q=>∃ a xs,x=.ref a∧SqT K H a xs∧
 ¬ (HT.sIx xs.length 0 lo=0∧HT.sIx xs.length xs.length hi=xs.length)∧∀ p,H p=none→Q (.ref p) (upd H p (.tup (cutV xs lo hi)))
theorem sl_tup:SlR X (rSlT X.K):=by
 intro pins s σ H x v vl vu lo hi sl Q I rx hs pl pu h
 obtain ⟨a,xs,rfl,hx,hw,q⟩:=h
 cases rx
 obtain ⟨its,r,ht,hz⟩:=I.tuple hx
 have hlen:its.toArray.size=xs.length:=by rw [List.size_toArray];exact r.length.symm
 refine ⟨"tuple",_,PyProof.Rows.slot_tuple_getitem.lookup,ht.typeIs,?_⟩
 refine HT.getItem_tuple_cut ht hs pl pu (by rw [hlen];exact hw) ?_ (by rw [hlen];exact hz)
 rw [hlen]
 refine ⟨.ref s.heap.objs.size,_,I.laid (t':=s.toks) (o:=.tup (cutV xs lo hi)) (fun b ob q=>Heap.get?_push_of_some _ q) (Nat.le_refl _) ?_,rfl,q _ (I.hok.fresh (Nat.le_refl _))⟩
 exact ⟨Nat.le_trans (cutV_length xs lo hi) hz,_,(r.drop (HT.sIx xs.length 0 lo)).take (HT.sIx xs.length xs.length hi - HT.sIx xs.length 0 lo),IsTup.new _ _⟩
def rCatT (K:PySem.W.Frag):R2:=fun x y H Q=>∃ a b xs ys,x=.ref a∧y=.ref b∧SqT K H a xs∧SqT K H b ys∧xs ≠ []∧xs.length+ys.length≤sizeLine∧
 (ys=[]→Q (.ref a) H)∧(ys ≠ []→∀ p,H p=none→Q (.ref p) (upd H p (.tup (xs++ys))))
theorem Vals.nil_iff {xs:List V} {us:List Value} (r:Vals xs us):us=[] ↔ xs=[]:=by
 cases r with
 | nil=>simp
 | cons _ _=>simp
theorem op_catT:OpR X (binaryOp .Add) (rCatT X.K):=by
 intro pins s σ H x y v u Q I rx ry h
 obtain ⟨a,b,xs,ys,rfl,rfl,ha,hb,hx,hz,q1,q2⟩:=h
 cases rx
 cases ry
 obtain ⟨its,r1,p1,_⟩:=I.tuple ha
 obtain ⟨its2,r2,p2,_⟩:=I.tuple hb
 refine HT.cat_tup p1 p2 (fun z=>hx (r1.nil_iff.mp z)) (fun z=>⟨.ref a,H,I,rfl,q1 (r2.nil_iff.mp z)⟩) (fun z=>?_) (by rw [← r1.length,← r2.length];exact hz)
 refine ⟨.ref s.heap.objs.size,_,I.laid (t':=s.toks) (o:=.tup (xs++ys)) (fun b ob q=>Heap.get?_push_of_some _ q) (Nat.le_refl _) ?_,rfl,q2 (fun w=>z (r2.nil_iff.mpr w)) _ (I.hok.fresh (Nat.le_refl _))⟩
 exact ⟨by rw [List.length_append];exact hz,_,r1.append r2,IsTup.new _ _⟩
end
end L2
namespace L2
open PySem PySem.Spec PyProof.Rows
noncomputable def ixN (n:Nat) (i:Int):Option Nat:=if 0≤i then (if i<n then some i.toNat else none) else if -(n:Int)≤i then some (i+n).toNat else none
noncomputable def atI {α:Type} (xs:List α) (i:Int):Option α:=(ixN xs.length i).bind fun j=>xs[j]?
theorem ixN_seq {n:Nat} {i:Int} {j:Nat} (h:ixN n i=some j):seqIndex? i n=some j∧j<n∧-(n:Int)≤i∧i<n:=by
 unfold ixN at h
 by_cases h0:0≤i
 ·rw [if_pos h0] at h
  by_cases h1:i<n
  ·rw [if_pos h1] at h
   have e:i.toNat=j:=Option.some.inj h
   exact ⟨by rw [seqIndex_of h0 h1,e],by lia,by lia,h1⟩
  ·rw [if_neg h1] at h;cases h
 ·rw [if_neg h0] at h
  by_cases h1 : -(n:Int)≤i
  ·rw [if_pos h1] at h
   have e:(i+n).toNat=j:=Option.some.inj h
   exact ⟨by rw [seqIndex_neg (by lia) h1,e],by lia,h1,by lia⟩
  ·rw [if_neg h1] at h;cases h
theorem atI_get {α:Type} {xs:List α} {i:Int} {v:α} (h:atI xs i=some v):∃ j,seqIndex? i xs.length=some j∧xs[j]?=some v∧j<xs.length∧-(xs.length:Int)≤i∧i<xs.length:=by
 unfold atI at h
 cases e:ixN xs.length i with
 | none=>rw [e] at h;cases h
 | some j=>
  rw [e] at h
  obtain ⟨h1,h2,h3,h4⟩:=ixN_seq e
  exact ⟨j,h1,h,h2,h3,h4⟩
theorem atI_nat {α:Type} {xs:List α} {j:Nat} {v:α} (h:xs[j]?=some v):atI xs (j:Int)=some v:=by
 have hj:j<xs.length:=(List.getElem?_eq_some_iff.mp h).1
 have e:ixN xs.length (j:Int)=some j:=by
  unfold ixN
  rw [if_pos (by lia),if_pos (by lia)];simp
 unfold atI;rw [e];exact h
def PlainIx (b:Expr):Prop:=∀ o i,subscripted b false o i=operate [o,i] (getItem o i)
def IxR (X:Cx) (r:R2):Prop:=
 ∀ (value slice:Expr) (pins:List (Addr × Obj)) (s:Shared) (σ:St) (H:Hp) (x y:V) (v u:Value) (Q:VK),Inv X pins σ H s→RelV x v→RelV y u→r x y H Q→
  subscripted slice false v u=operate [v,u] (getItem v u)→wpAny (model X.prog X.w) X.A (subscriptTail value slice v u) (EP X pins σ Q) X.xe s
def MtR (X:Cx) (id:String) (r:V→List V→Hp→VK→Prop):Prop:=
 ∀ (pins:List (Addr × Obj)) (s:Shared) (σ:St) (H:Hp) (x:V) (xs:List V) (v:Value) (us:List Value) (Q:VK),Inv X pins σ H s→RelV x v→Vals xs us→r x xs H Q→
  wpAny (model X.prog X.w) X.A (call (.builtin id) (v::us)) (EP X pins σ Q) X.xe s
section
variable {X:Cx} {a b:Expr} {ta tb:TE} {pos:Pos}
theorem pe_ix {r:R2} (hr:IxR X r) (ha:PE X a ta) (hb:PE X b tb) (hs:PlainIx b):PE X (.Subscript a b pos) (tOp r ta tb):=by
 intro pins s σ H Q I h
 exact Subscript_ (binT ha hb I h fun v u s2 x y H2 I2 rx ry q=>hr a b pins s2 σ H2 x y v u Q I2 rx ry q (hs _ _))
def rIxL (K:PySem.W.Frag):R2:=fun x y H Q=>∃ p xs i v,x=.ref p∧y=.int i∧SqL K H p xs∧atI xs i=some v∧Q v H
def rIxT (K:PySem.W.Frag):R2:=fun x y H Q=>∃ p xs i v,x=.ref p∧y=.int i∧SqT K H p xs∧atI xs i=some v∧Q v H
theorem qCC:IxR X (rIxL X.K):=by
 intro value slice pins s σ H x y v u Q I rx ry h hs
 obtain ⟨p,xs,i,z,rfl,rfl,hq,he,q⟩:=h
 cases rx
 obtain ⟨t,rfl⟩:=ry
 obtain ⟨its,r,pl,hz⟩:=I.list hq
 obtain ⟨j,h1,h2,h3,h4,h5⟩:=atI_get he
 obtain ⟨w,ew,rw'⟩:=r.get h2
 have hl:=r.length
 have hn:=line63
 have fin:EP X pins σ Q w s:=⟨z,H,I,rw',q⟩
 by_cases h0:0≤i
 ·have hj:i.toNat=j:=by
   rw [seqIndex_of h0 h5] at h1
   exact Option.some.inj h1
  exact item_listR pl.isList h0 (by lia) (by rw [hj];simpa using ew) fin hs
 ·have hj:(i+(its.toArray.size:Int)).toNat=j:=by
   rw [seqIndex_neg (by lia) h4] at h1
   rw [List.size_toArray,← hl]
   exact Option.some.inj h1
  exact subscriptTail_builtinR (x:=w) pl.isList.typeIs slot_list_getitem.lookup
   (wpAny_getItem_list_neg (Q:=fun r s'=>r=w∧EP X pins σ Q r s') pl.isList (by lia) (by rw [List.size_toArray] <;> lia) (by lia) (by rw [hj];simpa using ew) ⟨rfl,fin⟩) hs
theorem qAR:IxR X (rIxT X.K):=by
 intro value slice pins s σ H x y v u Q I rx ry h hs
 obtain ⟨p,xs,i,z,rfl,rfl,hq,he,q⟩:=h
 cases rx
 obtain ⟨t,rfl⟩:=ry
 obtain ⟨its,r,pl,hz⟩:=I.tuple hq
 obtain ⟨j,h1,h2,h3,h4,h5⟩:=atI_get he
 obtain ⟨w,ew,rw'⟩:=r.get h2
 have hl:=r.length
 have hn:=line63
 have fin:EP X pins σ Q w s:=⟨z,H,I,rw',q⟩
 exact subscriptTail_builtinR (x:=w) pl.typeIs slot_tuple_getitem.lookup
  (getItem_tuple (j:=j) (Q:=fun r s'=>r=w∧EP X pins σ Q r s') pl (by lia) (by lia) (by rw [List.size_toArray,← hl];exact h1) (by simpa using ew) ⟨rfl,fin⟩) hs
theorem mapSeq_set (its:List Value) (n j:Nat) (u:Value):Obj.mapSeq (·.setIfInBounds j u) { cls:=.type "list",data:=.seq its.toArray n }={ cls:=.type "list",data:=.seq (its.set j u).toArray n }:=by
 simp [Obj.mapSeq]
theorem Inv.lst {pins:List (Addr × Obj)} {σ:St} {H:Hp} {s:Shared} {p:Addr} {xs:List V} (I:Inv X pins σ H s) (h:H p=some (.lst xs)) :
  ∃ (its:List Value) (n:Nat),Vals xs its∧s.heap.get? p=some { cls:=.type "list",data:=.seq its.toArray n }∧xs.length≤sizeLine:=by
 obtain ⟨z,its,n,r,e⟩:=I.hok p _ h
 exact ⟨its,n,r,e,z⟩
theorem Inv.lstUpd {pins:List (Addr × Obj)} {σ:St} {H:Hp} {s:Shared} {p:Addr} {xs ys:List V} {its its':List Value} {n n':Nat} {f:Obj→Obj} (I:Inv X pins σ H s) (h:H p=some (.lst xs))
  (ho:s.heap.get? p=some { cls:=.type "list",data:=.seq its.toArray n }) (hf:f { cls:=.type "list",data:=.seq its.toArray n }={ cls:=.type "list",data:=.seq its'.toArray n' }) (r:Vals ys its') (hz:ys.length≤sizeLine) (t:Nat) :
  Inv X pins σ (upd H p (.lst ys)) { s with heap:=s.heap.update p f,toks:=t }:=by
 have e:(s.heap.update p f).get? p=some { cls:=.type "list",data:=.seq its'.toArray n' }:=by
  rw [Heap.get?_update_self f ho (by rw [hf] <;> rfl),hf]
 refine I.write (x:=p) (e:=p) (by rw [h];trivial) (.inl rfl) (fun b u hb q=>(Heap.get?_update_other _ _ (Ne.symm hb)).trans q) ⟨_,e⟩ ?_
 exact ⟨hz,its',n',r,e⟩
def rSetL:V→V→V→Hp→(Hp→Prop)→Prop:=fun o i v H Q=>∃ p xs k j,o=.ref p∧i=.int k∧H p=some (.lst xs)∧ixN xs.length k=some j∧Q (upd H p (.lst (xs.set j v)))
theorem set_list:PSet X rSetL:=by
 intro pins s σ H o i v ov iv u Q I ro ri rv h
 obtain ⟨p,xs,k,j,rfl,rfl,hp,hj,q⟩:=h
 cases ro
 obtain ⟨t,rfl⟩:=ri
 obtain ⟨its,n,r,ho,hz⟩:=I.lst hp
 obtain ⟨h1,h2,h3,h4⟩:=ixN_seq hj
 have hl:=r.length
 have hn:=line63
 have I':Inv X pins σ (upd H p (.lst (xs.set j v))) { s with heap:=s.heap.update p (Obj.mapSeq (·.setIfInBounds j u)) }:=
  I.lstUpd hp ho (mapSeq_set its n j u) (r.set rv j) (by rw [List.length_set];exact hz) s.toks
 by_cases h0:0≤k
 ·have hk:k.toNat=j:=by
   rw [seqIndex_of h0 h4] at h1
   exact Option.some.inj h1
  exact PySem.W.ki_setAt ho h0 (by lia) (by rw [List.size_toArray,← hl];exact h4) (by rw [hk];exact ⟨_,I',q⟩)
 ·have hk:(k+(its.toArray.size:Int)).toNat=j:=by
   rw [seqIndex_neg (by lia) h3] at h1
   rw [List.size_toArray,← hl]
   exact Option.some.inj h1
  exact PySem.W.ki_setBack ho (by lia) (by rw [List.size_toArray,← hl];exact h3) (by lia) (by rw [hk];exact ⟨_,I',q⟩)
theorem slice_bounds (lo hi:Option Int) (n:Nat):(sliceBounds lo hi none n).1=((HT.sIx n 0 lo:Nat):Int)∧(sliceBounds lo hi none n).2.1=((HT.sIx n n hi:Nat):Int)∧(sliceBounds lo hi none n).2.2=1:=by
 refine ⟨?_,?_,rfl⟩
 ·cases lo with
  | none=>simp [sliceBounds,HT.sIx]
  | some i=>
   simp only [sliceBounds,HT.sIx,Option.getD_none,show (1:Int) > 0 by decide,if_true]
   by_cases h:i<0
   ·simp only [h,if_true] <;> lia
   ·simp only [h,if_false] <;> lia
 ·cases hi with
  | none=>simp [sliceBounds,HT.sIx]
  | some i=>
   simp only [sliceBounds,HT.sIx,Option.getD_none,show (1:Int) > 0 by decide,if_true]
   by_cases h:i<0
   ·simp only [h,if_true] <;> lia
   ·simp only [h,if_false] <;> lia
theorem slicePick_cut (its:List Value) (lo hi:Option Int):slicePick its.toArray lo hi none=((its.drop (HT.sIx its.length 0 lo)).take (HT.sIx its.length its.length hi - HT.sIx its.length 0 lo)).toArray:=by
 obtain ⟨h1,h2,h3⟩:=slice_bounds lo hi its.toArray.size
 unfold slicePick
 rw [h1,h2,h3]
 simp only [sliceRange_one,pick_run,List.size_toArray] <;> rfl
def rSlL (K:PySem.W.Frag):V→Option Int→Option Int→Hp→VK→Prop:=fun x lo hi H Q=>∃ a xs,x=.ref a∧SqL K H a xs∧∀ p,H p=none→Q (.ref p) (upd H p (.lst (cutV xs lo hi)))
theorem sl_list:SlR X (rSlL X.K):=by
 intro pins s σ H x v vl vu lo hi sl Q I rx hs pl pu h
 obtain ⟨a,xs,rfl,hx,q⟩:=h
 cases rx
 obtain ⟨its,r,ht,hz⟩:=I.list hx
 have hlen:=r.length
 refine ⟨"list",_,slot_list_getitem.lookup,ht.isList.typeIs,?_⟩
 refine wpAny_getItem_list_slice ht.isList hs pl pu .none (by simp) ?_ (by rw [List.size_toArray] <;> lia)
 rw [slicePick_cut,← hlen]
 refine ⟨.ref s.heap.objs.size,_,I.laid (t':=s.toks) (o:=.lst (cutV xs lo hi)) (fun b ob q=>Heap.get?_push_of_some _ q) (Nat.le_refl _) ?_,rfl,q _ (I.hok.fresh (Nat.le_refl _))⟩
 exact ⟨Nat.le_trans (cutV_length xs lo hi) hz,_,0,(r.drop (HT.sIx xs.length 0 lo)).take (HT.sIx xs.length xs.length hi - HT.sIx xs.length 0 lo),Heap.get?_push_size _ rfl⟩
noncomputable def flatV:V→Bool
 | .non=>true
 | .bl _=>true
 | .int _=>true
 | .str _=>true
 | _=>false
noncomputable def eqV:V→V→Bool
 | .non,.non=>true
 | .bl a,.bl b=>a == b
 | .bl a,.int b=>(if a then 1 else 0) == b
 | .int a,.bl b=>a == (if b then 1 else 0)
 | .int a,.int b=>a == b
 | .str a,.str b=>a == b
 | _,_=>false
theorem eqAt_V {A:Around} {s:Shared} {y x:V} {u v:Value} (ry:RelV y u) (rx:RelV x v) (fy:flatV y=true) (fx:flatV x=true):SeqAt.EqAt A s u v (eqV y x):=by
 cases y with
 | non=>
  cases ry
  cases x with
  | non=>cases rx;exact SeqAt.EqAt.same _
  | bl b=>cases rx;exact SeqAt.EqAt.none_bool b
  | int b=>obtain ⟨t,rfl⟩:=rx;exact SeqAt.EqAt.none_int b t
  | str b=>obtain ⟨t,rfl⟩:=rx;exact SeqAt.EqAt.none_str b t
  | _=>exact absurd (show false=true from fx) Bool.false_ne_true
 | bl a=>
  cases ry
  cases x with
  | non=>cases rx;exact SeqAt.EqAt.bool_none a
  | bl b=>cases rx;exact SeqAt.EqAt.bool_bool a b
  | int b=>obtain ⟨t,rfl⟩:=rx;exact SeqAt.EqAt.bool_int a b t
  | str b=>obtain ⟨t,rfl⟩:=rx;exact SeqAt.EqAt.bool_str a b t
  | _=>exact absurd (show false=true from fx) Bool.false_ne_true
 | int a=>
  obtain ⟨t',rfl⟩:=ry
  cases x with
  | non=>cases rx;exact SeqAt.EqAt.int_none a t'
  | bl b=>cases rx;exact SeqAt.EqAt.int_bool a t' b
  | int b=>obtain ⟨t,rfl⟩:=rx;exact SeqAt.EqAt.int_int a t' b t
  | str b=>obtain ⟨t,rfl⟩:=rx;exact SeqAt.EqAt.int_str a t' b t
  | _=>exact absurd (show false=true from fx) Bool.false_ne_true
 | str a=>
  obtain ⟨t',rfl⟩:=ry
  cases x with
  | non=>cases rx;exact SeqAt.EqAt.str_none a t'
  | bl b=>cases rx;exact SeqAt.EqAt.str_bool a t' b
  | int b=>obtain ⟨t,rfl⟩:=rx;exact SeqAt.EqAt.str_int a t' b t
  | str b=>obtain ⟨t,rfl⟩:=rx;exact SeqAt.EqAt.str_str a t' b t
  | _=>exact absurd (show false=true from fx) Bool.false_ne_true
 | _=>exact absurd (show false=true from fy) Bool.false_ne_true
noncomputable def eqU (x:V) (u:Value):Bool:=match u with
 | .none=>eqV .non x
 | .bool b=>eqV (.bl b) x
 | .int i _=>eqV (.int i) x
 | .str z _=>eqV (.str z) x
 | _=>false
theorem eqU_of {x y:V} {u:Value} (r:RelV y u) (f:flatV y=true):eqU x u=eqV y x:=by
 cases y with
 | non=>cases r;rfl
 | bl b=>cases r;rfl
 | int i=>obtain ⟨t,rfl⟩:=r;rfl
 | str z=>obtain ⟨t,rfl⟩:=r;rfl
 | _=>exact absurd (show false=true from f) Bool.false_ne_true
theorem any_eqU {x:V}:∀ {xs:List V} {us:List Value},Vals xs us→xs.all flatV=true→us.any (eqU x)=xs.any fun y=>eqV y x
 | _,_,.nil,_=>rfl
 | y::xs,u::us,.cons r t,f=>by
  rw [List.all_cons,Bool.and_eq_true] at f
  rw [List.any_cons,List.any_cons,eqU_of r f.1,any_eqU t f.2]
theorem mem_eqAt {A:Around} {s:Shared} {x:V} {v:Value} (rx:RelV x v) (fx:flatV x=true):∀ {xs:List V} {us:List Value},Vals xs us→xs.all flatV=true→∀ u ∈ us,SeqAt.EqAt A s u v (eqU x u)
 | _,_,.nil,_=>fun u hu=>by cases hu
 | y::xs,u::us,.cons r t,f=>fun u' hu=>by
  rw [List.all_cons,Bool.and_eq_true] at f
  rcases List.mem_cons.mp hu with rfl | hu
  ·rw [eqU_of r f.1];exact eqAt_V r rx f.1 fx
  ·exact mem_eqAt rx fx t f.2 u' hu
noncomputable def inV (x:V) (xs:List V):Bool:=xs.any fun y=>eqV y x
def rIn (K:PySem.W.Frag) (neg:Bool):R2:=fun x y H Q=>∃ p xs,y=.ref p∧(SqL K H p xs∨SqT K H p xs)∧flatV x=true∧xs.all flatV=true∧Q (.bl (if neg then !inV x xs else inV x xs)) H
theorem op_in_seq:OpR X (compareOp .In) (rIn X.K false):=by
 intro pins s σ H x y v u Q I rx ry h
 obtain ⟨p,xs,rfl,hq,fx,fs,q⟩:=h
 cases ry
 rcases hq with hq | hq
 ·obtain ⟨its,r,pl,hz⟩:=I.list hq
  refine SeqAt.in_listAt (eqU x) pl.isList (fun w hw=>mem_eqAt rx fx r fs w (by simpa using hw)) ⟨.bl _,H,I,rfl,?_⟩
  rw [show its.toArray.any (eqU x)=its.any (eqU x) by simp,any_eqU r fs]
  exact q
 ·obtain ⟨its,r,pl,hz⟩:=I.tuple hq
  refine SeqAt.in_tupleAt (eqU x) pl (fun w hw=>mem_eqAt rx fx r fs w (by simpa using hw)) ⟨.bl _,H,I,rfl,?_⟩
  rw [show its.toArray.any (eqU x)=its.any (eqU x) by simp,any_eqU r fs]
  exact q
theorem op_notIn_seq:OpR X (compareOp .NotIn) (rIn X.K true):=by
 intro pins s σ H x y v u Q I rx ry h
 obtain ⟨p,xs,rfl,hq,fx,fs,q⟩:=h
 cases ry
 rcases hq with hq | hq
 ·obtain ⟨its,r,pl,hz⟩:=I.list hq
  refine SeqAt.notIn_listAt (eqU x) pl.isList (fun w hw=>mem_eqAt rx fx r fs w (by simpa using hw)) ⟨.bl _,H,I,rfl,?_⟩
  rw [show its.toArray.any (eqU x)=its.any (eqU x) by simp,any_eqU r fs]
  exact q
 ·obtain ⟨its,r,pl,hz⟩:=I.tuple hq
  refine SeqAt.notIn_tupleAt (eqU x) pl (fun w hw=>mem_eqAt rx fx r fs w (by simpa using hw)) ⟨.bl _,H,I,rfl,?_⟩
  rw [show its.toArray.any (eqU x)=its.any (eqU x) by simp,any_eqU r fs]
  exact q
theorem qA8:CallR X (.builtin "len") (fun xs H Q=>∃ p ys,xs=[.ref p]∧(SqL X.K H p ys∨SqT X.K H p ys)∧Q (.int ys.length) H):=by
 intro pins s σ H xs us Q I r h
 obtain ⟨p,ys,rfl,hq,q⟩:=h
 obtain ⟨u,rfl,rx⟩:=vals1 r
 cases rx
 have hn:=line63
 rcases hq with hq | hq
 ·obtain ⟨its,r',pl,hz⟩:=I.list hq
  have hlen:=r'.length
  exact Calls.call_len_list pl.isList (by simp only [List.size_toArray] <;> lia) ⟨.int ys.length,H,I.tok _,⟨s.toks+1,by rw [List.size_toArray,hlen]⟩,q⟩
 ·obtain ⟨its,r',pl,hz⟩:=I.tuple hq
  have hlen:=r'.length
  exact len_tuple pl (by simp only [List.size_toArray] <;> lia) ⟨.int ys.length,H,I.tok _,⟨s.toks+1,by rw [List.size_toArray,hlen]⟩,q⟩
theorem qC8:CallR X (.type "list") (fun xs H Q=>∃ p ys,xs=[.ref p]∧(SqL X.K H p ys∨SqT X.K H p ys)∧∀ l,H l=none→Q (.ref l) (upd H l (.lst ys))):=by
 intro pins s σ H xs us Q I r h
 obtain ⟨p,ys,rfl,hq,q⟩:=h
 obtain ⟨u,rfl,rx⟩:=vals1 r
 cases rx
 have fin:∀ (its:List Value),Vals ys its→ys.length≤sizeLine→∀ (h':Heap) (c':Nat),(∀ b o',s.heap.get? b=some o'→h'.get? b=some o')→
   h'.get? s.heap.objs.size=some { cls:=.type "list",dict:=none,data:=.seq its.toArray c',slots:=#[] }→EP X pins σ Q (.ref s.heap.objs.size) { s with heap:=h' }:=fun its r' hz h' c' kp e=>
  ⟨.ref s.heap.objs.size,_,I.laid (t':=s.toks) kp (Nat.le_refl _) (show ObjOk X.prog X.w _ h' _ (.lst ys) from ⟨hz,its,c',r',e⟩),rfl,q _ (I.hok.fresh (Nat.le_refl _))⟩
 rcases hq with hq | hq
 ·obtain ⟨its,r',pl,hz⟩:=I.list hq
  have hlen:=r'.length
  obtain ⟨o,ho,hc,n,hd⟩:=pl.isList
  exact call_list_seq p (.inl rfl) ho hc hd (fun h' c' kp e=>fin its r' hz h' c' kp e) (by simp only [List.size_toArray] <;> lia)
 ·obtain ⟨its,r',pl,hz⟩:=I.tuple hq
  have hlen:=r'.length
  obtain ⟨o,ho,hc,n,hd⟩:=pl
  exact call_list_seq p (.inr rfl) ho hc hd (fun h' c' kp e=>fin its r' hz h' c' kp e) (by simp only [List.size_toArray] <;> lia)
theorem qAL:CallR X (.type "tuple") (fun xs H Q=>∃ p ys,xs=[.ref p]∧((SqL X.K H p ys∧∀ l,H l=none→Q (.ref l) (upd H l (.tup ys)))∨(SqT X.K H p ys∧Q (.ref p) H))):=by
 intro pins s σ H xs us Q I r h
 obtain ⟨p,ys,rfl,h⟩:=h
 obtain ⟨u,rfl,rx⟩:=vals1 r
 cases rx
 rcases h with ⟨hq,q⟩ | ⟨hq,q⟩
 ·obtain ⟨its,r',pl,hz⟩:=I.list hq
  have hlen:=r'.length
  refine call_tuple_list pl.isList (fun h' kp=>?_) (by simp only [List.size_toArray] <;> lia)
  have I1:Inv X pins σ H { s with heap:=h' }:=I.kept (t':=s.toks) kp
  have I2:Inv X pins σ (upd H h'.objs.size (.tup ys)) { s with heap:=h'.push { cls:=.type "tuple",data:=.seq its.toArray } }:=
   I1.laid (t':=s.toks) (fun b o e=>Heap.get?_push_of_some _ e) (Nat.le_refl _) (show ObjOk X.prog X.w _ _ _ (.tup ys) from ⟨hz,its,r',IsTup.new _ _⟩)
  exact ⟨.ref h'.objs.size,_,I2,rfl,q _ (I1.hok.fresh (Nat.le_refl _))⟩
 ·obtain ⟨its,r',pl,hz⟩:=I.tuple hq
  exact call_tuple_same pl ⟨.ref p,H,I,rfl,q⟩
def tyV (K:PySem.W.Frag) (T:String) (x:V) (H:Hp):Prop:=match x with
 | .str _=>T = "str"
 | .int _=>T = "int"
 | .ref p=>(T = "list"∧∃ xs,SqL K H p xs)∨(T = "tuple"∧∃ o,K.lookup p=some o∧o.cls=.type "tuple"∧o.dict=none)∨
   (T = "dict"∧((∃ kvs,H p=some (.dK kvs))∨∃ kvs,H p=some (.dT kvs)))∨(T = "set"∧∃ S n,H p=some (.set S n))
 | _=>False
theorem tyV_is {pins:List (Addr × Obj)} {σ:St} {H:Hp} {s:Shared} {T:String} {x:V} {v:Value} (I:Inv X pins σ H s) (r:RelV x v) (ty:tyV X.K T x H) :
  s.TypeIs v T∧∀ a,v=.ref a→∃ ob,s.heap.get? a=some ob∧ob.dict=none:=by
 cases x with
 | str z=>
  obtain ⟨t,rfl⟩:=r
  cases (show T = "str" from ty)
  exact ⟨typeIs_str s z t,fun _ e=>nomatch e⟩
 | int i=>
  obtain ⟨t,rfl⟩:=r
  cases (show T = "int" from ty)
  exact ⟨typeIs_int s i t,fun _ e=>nomatch e⟩
 | ref p=>
  cases r
  rcases ty with ⟨rfl,xs,hq⟩ | ⟨rfl,o,hk,hc,hd⟩ | ⟨rfl,hk⟩ | ⟨rfl,S,n,hk⟩
  ·obtain ⟨its,_,pl,_⟩:=I.list hq
   refine ⟨pl.isList.typeIs,fun a e=>?_⟩
   cases e
   obtain ⟨o,n,e,c,hd,_⟩:=pl
   exact ⟨o,e,hd⟩
  ·refine ⟨⟨o,I.kIn p o hk,hc⟩,fun a e=>?_⟩
   cases e
   exact ⟨o,I.kIn _ o hk,hd⟩
  ·have z:∃ o,s.heap.get? p=some o∧o.ExactDict:=by
    rcases hk with ⟨kvs,hk⟩ | ⟨kvs,hk⟩
    ·obtain ⟨_,_,_,_,o,_,_,e,ex,_⟩:=I.hok p _ hk
     exact ⟨o,e,ex⟩
    ·obtain ⟨_,_,_,_,o,_,_,e,ex,_⟩:=I.hok p _ hk
     exact ⟨o,e,ex⟩
   obtain ⟨o,e,ex⟩:=z
   refine ⟨⟨o,e,ex.1⟩,fun a e2=>?_⟩
   cases e2
   exact ⟨o,e,ex.2.1⟩
  ·obtain ⟨o,_,_,_,e,ex,_⟩:=I.hok p _ hk
   refine ⟨⟨o,e,ex.1⟩,fun a e2=>?_⟩
   cases e2
   exact ⟨o,e,ex.2.1⟩
 | _=>exact False.elim ty
def tBM0 (K:PySem.W.Frag) (T:String) (r:V→List V→Hp→VK→Prop) (to:TE):TE:=fun σ H Q=>to σ H fun x H1=>tyV K T x H1∧r x [] H1 Q
def tBM (K:PySem.W.Frag) (T:String) (r:V→List V→Hp→VK→Prop) (to:TE) (t:TA):TE:=fun σ H Q=>to σ H fun x H1=>tyV K T x H1∧t σ H1 fun xs H2=>r x xs H2 Q
variable {o e:Expr} {es:List Expr} {to:TE} {t:TA} {name:Str} {apos cpos:Pos} {T id:String} {r:V→List V→Hp→VK→Prop}
theorem pe_bm0 (pa:PlainAttrs T) (slot:Slot T name id) (hty:typeOf (.builtin id)=pure (.type "method_descriptor")) (hm:MtR X id r) (ho:PE X o to)
  (hbase:attributeBase o name X.env (eval o X.env)=eval o X.env:=by rfl) (hline:(apos.endLine == cpos.line)=true:=by rfl):PE X (.Call (.Attribute o name apos) [] [] cpos) (tBM0 X.K T r to):=by
 intro pins s σ H Q I h
 refine wpAny_Call_method0_late hbase hline (thn (ho pins s σ H _ I h) fun v s1 ⟨x,H1,I1,r1,ty,q1⟩=>?_)
 obtain ⟨h1,h2⟩:=tyV_is I1 r1 ty
 exact ⟨T,id,pa,slot,hty,h1,h2,Calls.callWith_builtin rfl (PySem.evalArgs_none (hm pins s1 σ H1 x [] v [] Q I1 r1 .nil q1))⟩
theorem pe_bm (pa:PlainAttrs T) (slot:Slot T name id) (hty:typeOf (.builtin id)=pure (.type "method_descriptor")) (hm:MtR X id r) (ho:PE X o to) (ha:PA X (e::es) t)
  (hbase:attributeBase o name X.env (eval o X.env)=eval o X.env:=by rfl)
  (hfew:((backTo cpos (starEach (e::es) X.env)).all (fun x=>!x.1) && (backToKw cpos (keywordEach [] X.env)).all (fun x=>x.1.isSome)
   && decide ((e::es).length+([]:List Keyword).length+(if ([]:List Keyword).isEmpty then 0 else 1)<30))=true:=by rfl)
  (hline:(apos.endLine == cpos.line)=true:=by rfl) (hs:starEach (e::es) X.env=(false,eval e X.env)::starEach es X.env:=by rfl) (hplain:(backTo cpos (starEach es X.env)).any (·.1)=false:=by rfl) :
  PE X (.Call (.Attribute o name apos) (e::es) [] cpos) (tBM X.K T r to t):=by
 intro pins s σ H Q I h
 refine wpAny_Call_method_late hbase hfew hline rfl (thn (ho pins s σ H _ I h) fun v s1 ⟨x,H1,I1,r1,ty,q1⟩=>?_)
 obtain ⟨h1,h2⟩:=tyV_is I1 r1 ty
 refine ⟨T,id,pa,slot,hty,h1,h2,?_⟩
 have hA:=ha cpos pins s1 σ H1 _ I1 q1
 rw [hs] at hA ⊢
 refine Calls.callWith_builtin (by show (false || (backTo cpos (starEach es X.env)).any (·.1))=false;rw [hplain] <;> rfl) (Calls.evalArgs_plain ?_)
 exact thn hA fun us s2 ⟨vs,H2,I2,r2,q2⟩=>hm pins s2 σ H2 x vs v us Q I2 r1 r2 q2
end
end L2
namespace L2
open PySem PySem.Spec PyProof.Rows
def MtM (X:Cx) (id:String) (r:V→List V→Hp→VK→Prop):Prop:=
 ∀ (pins:List (Addr × Obj)) (s:Shared) (σ:St) (H:Hp) (x:V) (xs:List V) (v:Value) (us:List Value) (Q:VK),Inv X pins σ H s→RelV x v→Vals xs us→r x xs H Q→
  wpAny (model X.prog X.w) X.A (call (.builtin id) (v::us)) (EP X pins σ Q) X.xe s
theorem Vals.one:∀ {x:V} {us:List Value},Vals [x] us→∃ u,us=[u]∧RelV x u
 | _,_,.cons r .nil=>⟨_,rfl,r⟩
theorem Vals.zero:∀ {us:List Value},Vals [] us→us=[]
 | _,.nil=>rfl
theorem Vals.dropLast {xs:List V} {us:List Value} (h:Vals xs us):Vals xs.dropLast us.dropLast:=by
 induction h with
 | nil=>exact .nil
 | cons r t ih=>
  cases t with
  | nil=>exact .nil
  | cons q t'=>exact .cons r ih
theorem Vals.eraseIdx:∀ {xs:List V} {us:List Value} (i:Nat),Vals xs us→Vals (xs.eraseIdx i) (us.eraseIdx i)
 | _,_,_,.nil=>.nil
 | _,_,0,.cons _ t=>t
 | _,_,i+1,.cons r t=>.cons r (Vals.eraseIdx i t)
theorem Vals.reverse {xs:List V} {us:List Value} (h:Vals xs us):Vals xs.reverse us.reverse:=by
 induction h with
 | nil=>exact .nil
 | cons r t ih=>rw [List.reverse_cons,List.reverse_cons];exact Vals.append ih (.cons r .nil)
theorem Vals.rep {xs:List V} {us:List Value} (h:Vals xs us):∀ k:Nat,Vals (List.replicate k xs).flatten (List.replicate k us).flatten
 | 0=>.nil
 | k+1=>by
  rw [List.replicate_succ,List.replicate_succ,List.flatten_cons,List.flatten_cons]
  exact Vals.append h (Vals.rep h k)
theorem erase_last {α:Type} (l:List α):l.eraseIdx (l.length - 1)=l.dropLast:=by
 induction l with
 | nil=>rfl
 | cons a r ih=>
  cases r with
  | nil=>rfl
  | cons b r=>
   have e:(a::b::r).length - 1=((b::r).length - 1)+1:=by
    have h1:(a::b::r).length=r.length+2:=rfl
    have h2:(b::r).length=r.length+1:=rfl
    lia
   rw [e,List.eraseIdx_cons_succ,ih]
   all_goals rfl
theorem len_erase {α:Type}:∀ (l:List α) (i:Nat),(l.eraseIdx i).length≤l.length
 | [],_=>Nat.le_refl _
 | _::_,0=>Nat.le_succ _
 | _::r,i+1=>Nat.succ_le_succ (len_erase r i)
theorem foldl_rep (its:List Value):∀ (k:Nat) (acc:List Value),
  List.foldl (fun x1 x2=>x1++x2) acc.toArray (List.replicate k its.toArray)=(acc++(List.replicate k its).flatten).toArray
 | 0,acc=>by simp
 | k+1,acc=>by
  have e:acc.toArray++its.toArray=(acc++its).toArray:=by simp
  have e2:(acc++its)++(List.replicate k its).flatten=acc++(List.replicate (k+1) its).flatten:=by
   rw [List.replicate_succ,List.flatten_cons,List.append_assoc]
  rw [← e2,← foldl_rep its k (acc++its),← e,List.replicate_succ,List.foldl_cons]
section
variable {X:Cx} {pins:List (Addr × Obj)} {σ:St} {H:Hp} {s:Shared} {l b:Addr} {xs ys zs:List V}
theorem Inv.lset {its its':List Value} {n:Nat} {f:Array Value→Array Value} {t':Nat} (I:Inv X pins σ H s) (hH:H l=some (.lst xs))
  (e:s.heap.get? l=some { cls:=.type "list",data:=.seq its.toArray n }) (hf:f its.toArray=its'.toArray) (hv:Vals ys its') (hz:ys.length≤sizeLine) :
  Inv X pins σ (upd H l (.lst ys)) { s with heap:=s.heap.update l (Obj.mapSeq f),toks:=t' }:=by
 have q:=PySem.IsL.update e f
 rw [hf] at q
 refine I.write (x:=l) (e:=l) (by rw [hH];exact trivial) (.inl rfl) (fun b' u hb hu=>(Heap.get?_update_other s.heap (Obj.mapSeq f) (Ne.symm hb)).trans hu) ⟨_,q⟩ ?_
 exact ⟨hz,its',_,hv,q⟩
theorem Inv.lnew {its:List Value} {t':Nat} (I:Inv X pins σ H s) (hv:Vals ys its) (hz:ys.length≤sizeLine) :
  Inv X pins σ (upd H s.heap.objs.size (.lst ys)) { s with heap:=s.heap.push { cls:=.type "list",data:=.seq its.toArray },toks:=t' }:=
 I.laid (fun _ _ q=>Heap.get?_push_of_some _ q) (Nat.le_refl _) ⟨hz,its,0,hv,Heap.get?_push_size _ rfl⟩
theorem Inv.fresh (I:Inv X pins σ H s):H s.heap.objs.size=none:=I.hok.fresh (Nat.le_refl _)
theorem Inv.lstM (I:Inv X pins σ H s) (hH:H l=some (.lst xs)):xs.length≤sizeLine∧∃ (its:List Value) (n:Nat),Vals xs its∧xs.length=its.length∧s.heap.get? l=some { cls:=.type "list",data:=.seq its.toArray n }:=by
 obtain ⟨z,its,n,r,e⟩:=I.hok l _ hH
 exact ⟨z,its,n,r,r.length,e⟩
theorem notLongL {n:Nat} (h:n≤sizeLine):Builtin.List.listTooLong n=false:=by
 unfold Builtin.List.listTooLong
 exact decide_eq_false (by lia)
end
section
variable {X:Cx}
def rAppend:V→List V→Hp→VK→Prop:=fun x vs H Q=>∃ l xs y,x=.ref l∧vs=[y]∧H l=some (.lst xs)∧xs.length<sizeLine∧Q .non (upd H l (.lst (xs++[y])))
theorem qB6:MtM X "list.append" rAppend:=by
 intro pins s σ H x vs v us Q I rx rv h
 obtain ⟨l,xs,y,rfl,rfl,hH,hz,q⟩:=h
 cases rx
 obtain ⟨u,rfl,ru⟩:=rv.one
 obtain ⟨z,its,n,r,hl,e⟩:=I.lstM hH
 refine call_meets F.slot_list_append ⟨_,e,rfl⟩ F.entry_list_append (F.args_list_append_2 _ _) (PySem.list_append l its.toArray n u (by rw [List.size_toArray];lia)) ⟨e,?_⟩
 refine ⟨.non,_,I.lset (its':=its++[u]) hH e (by simp) (r.append (.cons ru .nil)) ?_,rfl,q⟩
 rw [List.length_append,List.length_singleton]
 lia
def rExtend:V→List V→Hp→VK→Prop:=fun x vs H Q=>∃ l b xs zs,x=.ref l∧vs=[.ref b]∧H l=some (.lst xs)∧H b=some (.lst zs)∧xs.length+zs.length≤sizeLine∧Q .non (upd H l (.lst (xs++zs)))
theorem mt_extend:MtM X "list.extend" rExtend:=by
 intro pins s σ H x vs v us Q I rx rv h
 obtain ⟨l,b,xs,zs,rfl,rfl,hH,hB,hz,q⟩:=h
 cases rx
 obtain ⟨u,rfl,ru⟩:=rv.one
 cases ru
 obtain ⟨z,its,n,r,hl,e⟩:=I.lstM hH
 obtain ⟨z2,its2,n2,r2,hl2,e2⟩:=I.lstM hB
 have hsz:its.toArray.size+its2.toArray.size≤sizeLine:=by rw [List.size_toArray,List.size_toArray];lia
 have hlong:¬ (!its.toArray.isEmpty && Builtin.List.listTooLong (its.toArray.size+its2.toArray.size))=true:=by
  rw [notLongL hsz,Bool.and_false]
  exact Bool.false_ne_true
 refine call_meets F.slot_list_extend ⟨_,e,rfl⟩ F.entry_list_extend (F.args_list_extend_2 _ _)
  (AutoSeq1.list_extend_list_list_0 l its.toArray n b its2.toArray n2 hlong (by rw [List.size_toArray];lia) (by lia)) ⟨e,e2,?_⟩
 refine ⟨.non,_,I.lset (its':=its++its2) hH e (by simp) (r.append r2) ?_,rfl,q⟩
 rw [List.length_append]
 lia
def rPop:V→List V→Hp→VK→Prop:=fun x vs H Q=>∃ l xs y,x=.ref l∧vs=[]∧H l=some (.lst xs)∧xs[xs.length - 1]?=some y∧Q y (upd H l (.lst xs.dropLast))
theorem mt_pop:MtM X "list.pop" rPop:=by
 intro pins s σ H x vs v us Q I rx rv h
 obtain ⟨l,xs,y,rfl,rfl,hH,hy,q⟩:=h
 cases rx
 have hus:=rv.zero
 subst hus
 obtain ⟨z,its,n,r,hl,e⟩:=I.lstM hH
 obtain ⟨u,hu,ru⟩:=r.get hy
 have hy':its.toArray[its.toArray.size - 1]?=some u:=by
  show its.toArray[its.length - 1]?=some u
  rw [← Array.getElem?_toList,← hl]
  exact hu
 refine call_meets F.slot_list_pop ⟨_,e,rfl⟩ F.entry_list_pop (F.args_list_pop_1 _) (MeetsSeq.list_pop_last l its.toArray n u hy' (by rw [List.size_toArray];lia)) ⟨e,?_⟩
 refine ⟨y,_,I.lset (its':=its.dropLast) hH e ?_ r.dropLast ?_,ru,q⟩
 ·show its.toArray.eraseIdxIfInBounds (its.toArray.size - 1)=its.dropLast.toArray
  rw [List.size_toArray,List.eraseIdxIfInBounds_toArray,erase_last]
 ·rw [List.length_dropLast]
  lia
def rPopAt:V→List V→Hp→VK→Prop:=fun x vs H Q=>∃ l xs i k y,x=.ref l∧vs=[.int i]∧H l=some (.lst xs)∧-(2 ^ 63)≤i∧i<2 ^ 63∧seqIndex? i xs.length=some k∧xs[k]?=some y∧Q y (upd H l (.lst (xs.eraseIdx k)))
theorem mt_popAt:MtM X "list.pop" rPopAt:=by
 intro pins s σ H x vs v us Q I rx rv h
 obtain ⟨l,xs,i,k,y,rfl,rfl,hH,h1,h2,hk,hy,q⟩:=h
 cases rx
 obtain ⟨u,rfl,ru⟩:=rv.one
 obtain ⟨t,rfl⟩:=ru
 obtain ⟨z,its,n,r,hl,e⟩:=I.lstM hH
 obtain ⟨w,hw,rw'⟩:=r.get hy
 refine call_meets F.slot_list_pop ⟨_,e,rfl⟩ F.entry_list_pop (F.args_list_pop_2 _ _)
  (MeetsSeq.list_pop_at l its.toArray n i t k w (fitsIndex_both h1 h2) (by rw [List.size_toArray,← hl];exact hk) (by rw [← Array.getElem?_toList];exact hw) (by rw [List.size_toArray];lia)) ⟨e,?_⟩
 refine ⟨y,_,I.lset (its':=its.eraseIdx k) hH e ?_ (r.eraseIdx k) ?_,rw',q⟩
 ·show its.toArray.eraseIdxIfInBounds k=(its.eraseIdx k).toArray
  rw [List.eraseIdxIfInBounds_toArray]
 ·have:=len_erase xs k
  lia
def rCat:R2:=fun x y H Q=>∃ l b xs zs,x=.ref l∧y=.ref b∧H l=some (.lst xs)∧H b=some (.lst zs)∧xs.length+zs.length≤sizeLine∧∀ p,H p=none→Q (.ref p) (upd H p (.lst (xs++zs)))
theorem qCG:OpR X (binaryOp .Add) rCat:=by
 intro pins s σ H x y v u Q I rx ry h
 obtain ⟨l,b,xs,zs,rfl,rfl,hH,hB,hz,q⟩:=h
 cases rx
 cases ry
 obtain ⟨z,its,n,r,hl,e⟩:=I.lstM hH
 obtain ⟨z2,its2,n2,r2,hl2,e2⟩:=I.lstM hB
 refine PySem.P.add_list e e2 ?_ (by rw [List.size_toArray,List.size_toArray];lia)
 have ea:its.toArray++its2.toArray=(its++its2).toArray:=by simp
 rw [ea]
 exact ⟨.ref _,_,I.lnew (t':=s.toks) (r.append r2) (by rw [List.length_append];lia),rfl,q _ I.fresh⟩
def rRep:R2:=fun x y H Q=>∃ l k xs,x=.ref l∧y=.int k∧H l=some (.lst xs)∧-(2 ^ 63)≤k∧k<2 ^ 63∧xs.length * k.toNat≤sizeLine∧
 ∀ p,H p=none→Q (.ref p) (upd H p (.lst (List.replicate k.toNat xs).flatten))
theorem len_rep {α:Type} (xs:List α) (k:Nat):(List.replicate k xs).flatten.length=k * xs.length:=by
 induction k with
 | zero=>simp
 | succ k ih=>rw [List.replicate_succ,List.flatten_cons,List.length_append,ih,Nat.succ_mul,Nat.add_comm]
theorem op_rep:OpR X (binaryOp .Mult) rRep:=by
 intro pins s σ H x y v u Q I rx ry h
 obtain ⟨l,k,xs,rfl,rfl,hH,h1,h2,hz,q⟩:=h
 cases rx
 obtain ⟨t,rfl⟩:=ry
 obtain ⟨z,its,n,r,hl,e⟩:=I.lstM hH
 have hlen:its.toArray.size * k.toNat≤sizeLine:=by rw [List.size_toArray,← hl];exact hz
 have hcap:¬ its.toArray.size * k.toNat > (2 ^ 63 - 1) / 8:=by
  have:(sizeLine:Nat)≤(2 ^ 63 - 1) / 8:=by decide
  lia
 have hfit:¬ (!Builtin.List.listFitsIndex k)=true:=by
  rw [fitsIndex_both h1 h2]
  exact Bool.false_ne_true
 have hlong:¬ Builtin.List.listTooLong (its.toArray.size * k.toNat)=true:=by
  rw [notLongL hlen]
  exact Bool.false_ne_true
 have hnew:List.foldl (fun x1 x2=>x1++x2) #[] (List.replicate (if its.toArray.isEmpty=true then 0 else k.toNat) its.toArray)=(List.replicate k.toNat its).flatten.toArray:=by
  have f0:∀ m:Nat,List.foldl (fun x1 x2=>x1++x2) #[] (List.replicate m its.toArray)=(List.replicate m its).flatten.toArray:=fun m=>by
   have:=foldl_rep its m []
   rw [List.nil_append] at this
   exact this
  rw [f0]
  cases its with
  | nil=>simp
  | cons a r'=>rw [if_neg (by simp)]
 refine wpAny_binaryOp_repeat_ref (T:="list") (U:="int") (by decide) ⟨_,e,rfl⟩ (fun s'=>typeIs_int s' k t) noFill_list_mul F.fills_int_mul F.slot_int_rmul repeat_list F.slot_int_index.lookup
  (call_meets F.slot_int_rmul (typeIs_int s k t) F.entry_int_rmul (F.args_int_rmul_2 _ _) (int___rmul___int_list k t l its.toArray n)
   ⟨e,rfl,⟨_,e,rfl⟩,call_meets F.slot_list_mul ⟨_,e,rfl⟩ F.entry_list_mul (F.args_list_mul_2 _ _) (AutoListH.list___mul___list_int_3 l its.toArray n k t hfit hcap hlong) ⟨e,?_⟩⟩)
 rw [hnew]
 exact ⟨.ref _,_,I.lnew (t':=s.toks) (r.rep k.toNat) (by rw [len_rep,Nat.mul_comm];exact hz),rfl,q _ I.fresh⟩
end
section
variable {prog:Program} {w:World} {A:Around} {E:Value→Shared→Prop} {s:Shared}
set_option maxRecDepth 100000 in
end
section
variable {X:Cx}
end
end L2
namespace Att
open PySem PySem.W PySem.Calls PyProof.Rows
theorem ints_of_wellAll {P:Params} {h:Heap}:∀ (ns:List Int) (vs:List Value),WellAll P h vs (ns.map WData.int)→IntsAre vs ns:=by
 intro ns
 induction ns with
 | nil=>
  intro vs w
  rw [List.map_nil] at w
  cases w
  exact .nil
 | cons n ns ih=>
  intro vs w
  rw [List.map_cons] at w
  cases w with
  | cons a b=>
   cases a
   exact .cons _ _ (ih _ b)
theorem script_of {l:OpenLaw} {n:Nat} (hn:l.most=some n) {P:Params} {h:Heap} {args:List WData} {vals:List Value}
  (hpre:l.row.toRowW.claim.pre args=true) (hwl:WellAll P h vals args) :
  ∃ a vs ns,vals=[Value.ref a]∧args=[WData.list (ns.map WData.int)]∧h.get? a=some { cls:=.type "list",data:=.seq vs.toArray }∧IntsAre vs ns∧ns.length≤n:=by
 have hsh:WShape.hasAll [] args [.list .int]=true:=(pre_splitW hpre).1
 have hc:l.pre.holds [] { args:=args }=true:=(pre_splitW hpre).2
 obtain ⟨d,r,rfl,h1,h2⟩:=hasAllW_cons hsh
 obtain rfl:=hasAllW_nil h2
 obtain ⟨xs,rfl,h3⟩:=hasW_list h1
 obtain ⟨ns,rfl⟩:=items_int h3
 have hlen:ns.length≤n:=by
  unfold OpenLaw.pre at hc
  have h4:(WTm.not (.lt (.lit (.int (n:Int))) (.len (.arg 0)))).holds [] { args:=[.list (ns.map .int)] }=true:=by
   have h4:=(holds_andW hc).1
   rw [hn] at h4
   exact h4
  have h5:=condW_of h4 (w_not (w_lt w_lit (w_len_list (w_arg rfl))))
  rw [List.length_map] at h5
  refine Nat.le_of_not_lt fun q=>?_
  have q':(n:Int)<((ns.length:Nat):Int):=by lia
  first
   | (rw [decide_eq_true q'] at h5;exact absurd h5 (by decide))
   | (simp at h5;lia)
 cases hwl with
 | cons w1 w2=>
  cases w2
  cases w1 with
  | list ho hall=>exact ⟨_,_,ns,rfl,rfl,ho,ints_of_wellAll ns _ hall,hlen⟩
theorem post_true (l:OpenLaw) (args:List WData):l.row.toRowW.claim.post args (.bool true) args=true:=
 postW_of (r:=l.row.toRowW) (X:=(true == true))
  (show WShape.has [] (.bool true) .bool=true by first | rfl | decide | simp [WShape.has,WShape.arms,WShape.armsAll])
  (show (WTm.eq .res (.lit (.bool true))).value [] { args:=args,res:=some (.bool true),after:=args }=some (.bool (true == true)) from w_eq_bool (w_res rfl) w_lit) rfl
theorem attach_call {l:OpenLaw} {n:Nat} {q:Program} {loose:List Str} {XP:(Str→Option Value)→Heap→Prop} {YP:World→Heap→Prop} {d:DefRec}
  (hn:l.most=some n) (hdf:d.params.defaults=[])
  (call:∀ (w:World) (s₀ s₁:Shared) (mg mb:Str→Option Value) (fa:Addr) (o:Obj) (pm cd doc:Value) (a:Addr) (vs:List Value) (ns:List Int),
   Ground q loose [] XP w s₀ mg mb s₁.heap→YP w s₁.heap→
   s₁.heap.get? fa=some o→o.data=.func (docDef d.name d.params d.body d.scope pm cd doc)→s₁.heap.CodeRec cd d.name→mg d.name=some (.ref fa)→
   s₁.heap.get? a=some { cls:=.type "list",data:=.seq vs.toArray }→IntsAre vs ns→ns.length≤n→s₁.gens=#[]→
   codeAny (model l.prog w) callerA (.call (.ref fa) ⟨[.ref a],[]⟩) (fun r s'=>r=.ok (.ret (.bool true))∧OldK s₁.heap s'.heap∧s'.os=s₁.os∧AllBare s'.gens) s₁) :
  WalkO q loose XP YP l.row.toRowW d [] (fun f vs=>PySem.call f vs):=by
 intro w s₀ s₁ mg mb G Y fa o pm cd doc dV kV ho hd hcd hD hmg hg args vals as hpre hlay hrd hwl hlo
 obtain rfl:dV=.none:=Dflts.none hD hdf
 obtain rfl:kV=.none:=Dflts.noKw hD
 obtain ⟨a,vs,ns,rfl,rfl,hobj,hints,hlen⟩:=script_of hn hpre hwl
 refine enter_call (codeAny_mono (call w s₀ s₁ mg mb fa o pm cd doc a vs ns G Y ho (fd_plain hd) hcd hmg hobj hints hlen hg) fun r s' hq=>?_)
 obtain ⟨rfl,h2,h3,h4⟩:=hq
 exact ⟨.inl ⟨.bool true,.bool true,[],rfl,fun _=>rfl,.bool true,post_true l _,fun _=>⟨List.Pairwise.nil,fun _ hm=>(nomatch hm)⟩⟩,h2,h3,h4⟩
section
variable {prog:Program} {w:World} {A:Around} {E:Value→Shared→Prop} {s:Shared} {K:Frag}
end
end Att
namespace L2
open PySem PySem.Spec PyProof.Rows
theorem vals_ints:∀ {vs:List Value} {ns:List Int},IntsAre vs ns→Vals (ns.map V.int) vs
 | _,_,.nil=>.nil
 | _,_,.cons n t h=>.cons ⟨t,rfl⟩ (vals_ints h)
def Only (H:Hp):Prop:=∀ b,H b=none∨∃ o xs,H b=some (.frz o (.lst xs))
theorem law_call {P:Program} {w:World} {K:PySem.W.Frag} {mg mb:Str→Option Value} {CX:CXT} {k:Nat} {fa a:Addr} {fd:FuncData} {x:Str} {sp:Sp} {s₁:Shared} {vs:List Value} {ns:List Int}
  (KX:K.In s₁.heap) (hns:s₁.heap.Ns mainGlobals mg) (hb:s₁.heap.Ns builtinsNs mb) (hbb:∀ x:Str,x ≠ "__name__"→mb x=bootBuiltins x) (hlim:s₁.heap.NoLimit) (hg:s₁.gens=#[])
  (ha:s₁.heap.get? a=some { cls:=.type "list",data:=.seq vs.toArray }) (hi:IntsAre vs ns) (hl:ns.length≤sizeLine) (hr:Room k callerA)
  (F:∀ base:Heap,K.In base→base.Ns mainGlobals mg→FnOk P w K mg base CX k fa fd [x] sp) (hbind:∀ (s:Shared) (u:Value),BindsTo s fd ⟨[u],[]⟩ [(x,u)])
  (hsp:∀ H:Hp,Only H→SqL K H a (ns.map V.int)→sp [.ref a] H (fun v _=>v=.bl true) fun _ _ _=>False)
  (hCX:∀ H e s',CX [] H s₁ (fun _ _ _=>False) e s'→False) :
  codeAny (model P w) callerA (.call (.ref fa) ⟨[.ref a],[]⟩) (fun r s'=>r=.ok (.ret (.bool true))∧OldK s₁.heap s'.heap∧s'.os=s₁.os∧AllBare s'.gens) s₁:=by
 have rv:=vals_ints hi
 have lenV:=hi.length
 -- from an abstract heap in which nothing but the script may be tracked
 have core:∀ H:Hp,Only H→SqL K H a (ns.map V.int)→HOk P w H s₁.heap→(∀ b,H b ≠ none→b=a)→(H a ≠ none→K.lookup a=none)→
   codeAny (model P w) callerA (.call (.ref fa) ⟨[.ref a],[]⟩) (fun r s'=>r=.ok (.ret (.bool true))∧OldK s₁.heap s'.heap∧s'.os=s₁.os∧AllBare s'.gens) s₁:=by
  intro H hO hS hok hA hK
  have base_of:∀ {b:Addr} {o:Obj},s₁.heap.get? b=some o→H b=none→(hidT s₁.heap H).get? b=some o:=fun e n=>hidT_get e n
  have noA:∀ {b:Addr} {o:Obj} {es:Array DictEntry} {ep:Nat},s₁.heap.get? b=some o→o.data=.dict es ep→H b=none:=fun {b o es ep} e d=>by
   cases q:H b with
   | none=>rfl
   | some u=>
    have e':b=a:=hA b (by rw [q];simp)
    subst e'
    rw [ha] at e;cases e
    have d':Data.seq vs.toArray _=Data.dict es ep:=d
    cases d'
  have nsK:∀ {b:Addr} {m:Str→Option Value},s₁.heap.Ns b m→(hidT s₁.heap H).Ns b m:=fun {b m} ⟨o,es,ep,e,d,r⟩=>⟨o,es,ep,base_of e (noA e d),d,r⟩
  have hKb:K.In (hidT s₁.heap H):=fun b o e=>base_of (KX b o e) (by
   cases q:H b with
   | none=>rfl
   | some u=>
    have e':b=a:=hA b (by rw [q];simp)
    subst e'
    rw [hK (by rw [q];simp)] at e;cases e)
  have hM:Mod K mg (hidT s₁.heap H):=⟨hKb,nsK hns,⟨mb,nsK hb,hbb⟩,let ⟨mc,h1,h2⟩:=hlim;⟨mc,nsK h1,h2⟩⟩
  have e0:Env0 P w K mg (hidT s₁.heap H) callerA [] s₁ H:=⟨rfl,hM,fun b o e=>of_hidT e,Nat.le_of_eq (hidT_size _ _),trivial,fun b hb=>absurd (show b ∈ ([]:List Addr) from hb) (by simp),hok,.of_eq hg⟩
  refine codeAny_mono ((F _ hKb (nsK hns)).run callerA [] s₁ H ⟨[.ref a],[]⟩ [.ref a] [.ref a] _ _ hr e0 (hbind s₁ (.ref a)) (.cons rfl .nil) (hsp H hO hS)) fun r s' h=>?_
  cases r with
  | error e=>exact (hCX H e s' h).elim
  | ok fl=>
   cases fl with
   | next=>exact False.elim h
   | brk=>exact False.elim h
   | cont=>exact False.elim h
   | ret u=>
    obtain ⟨v,H',os,bare,un,hok',r',q⟩:=h
    have q':v=.bl true:=q
    subst q'
    obtain rfl:u=Value.bool true:=r'
    refine ⟨rfl,OldK.of_keep fun b o e=>?_,os,bare⟩
    cases q:H b with
    | none=>exact un.keep b o e q (by intro z;exact absurd (show b ∈ ([]:List Addr) from z) (by simp)) (by simp)
    | some u=>
     rcases hO b with z | ⟨ob,xs,z⟩
     ·rw [q] at z;cases z
     ·have z2:=un.frzs b ob _ z
      obtain ⟨e1,_⟩:=hok b _ z
      obtain ⟨e2,_⟩:=hok' b _ z2
      rw [e] at e1;cases e1
      exact e2
 cases hk:K.lookup a with
 | some o=>
  -- the script is one of the module's own objects
  have e:=KX a o hk
  rw [ha] at e
  cases e
  refine core (fun _=>none) (fun _=>.inl rfl) (.inr ⟨_,vs.toArray,_,hk,rfl,rfl,rfl,by rw [List.size_toArray,lenV];exact hl,by simpa using rv⟩) (fun b u z=>by have z':(none:Option HO)=some u:=z;cases z') (fun b z=>absurd rfl z) fun z=>absurd rfl z
 | none=>
  refine core (fun b=>if b=a then some (.frz { cls:=.type "list",data:=.seq vs.toArray } (.lst (ns.map V.int))) else none) (fun b=>?_) (.inl (.inr ⟨{ cls:=.type "list",data:=.seq vs.toArray },if_pos rfl⟩)) (fun b u z=>?_) (fun b z=>?_) fun _=>hk
  ·by_cases hb:b=a
   ·exact .inr ⟨_,_,if_pos hb⟩
   ·exact .inl (if_neg hb)
  ·by_cases hb:b=a
   ·have z':=(if_pos hb).symm.trans z
    cases z'
    subst hb
    exact ⟨ha,by rw [List.length_map];exact hl,vs,_,rv,ha⟩
   ·have z':=(if_neg hb).symm.trans z
    cases z'
  ·by_cases hb:b=a
   ·exact hb
   ·exact absurd (if_neg hb) z
end L2
namespace L2
open PySem PySem.Spec PyProof.Rows
theorem walk_of {l:PySem.W.OpenLaw} {n k:Nat} {q:Program} {loose:List Str} {XP:(Str→Option Value)→Heap→Prop} {YP:World→Heap→Prop} {d:DefRec} {K:Params→PySem.W.Frag} {CX:World→CXT} {sp:World→Sp} {x:Str}
  (hn:l.most=some n) (hn2:n≤sizeLine) (hdf:d.params.defaults=[]) (hr:Room k callerA)
  (hY:∀ (w:World) (h:Heap),YP w h→(K w.params).In h)
  (F:∀ (w:World) (mg:Str→Option Value) (fa:Addr) (h:Heap),(K w.params).In h→h.Ns mainGlobals mg→mg d.name=some (.ref fa)→
   ∃ fd:FuncData,(∀ (s:Shared) (u:Value),BindsTo s fd ⟨[u],[]⟩ [(x,u)])∧
    ∀ base:Heap,(K w.params).In base→base.Ns mainGlobals mg→FnOk l.prog w (K w.params) mg base (CX w) k fa fd [x] (sp w))
  (hsp:∀ (w:World) (H:Hp) (a:Addr) (ns:List Int),ns.length≤n→Only H→SqL (K w.params) H a (ns.map V.int)→sp w [.ref a] H (fun v _=>v=.bl true) fun _ _ _=>False)
  (hCX:∀ (w:World) (H:Hp) (s:Shared) (e:Value) (s':Shared),CX w [] H s (fun _ _ _=>False) e s'→False) :
  PySem.W.WalkO q loose XP YP l.row.toRowW d [] (fun f vs=>PySem.call f vs):=by
 refine Att.attach_call hn hdf fun w s₀ s₁ mg mb fa o pm cd doc a vs ns G Y ho hd hcd hmg hobj hints hlen hg=>?_
 have KX:=hY w _ Y
 obtain ⟨fd,hb,hF⟩:=F w mg fa _ KX G.T.g hmg
 exact law_call KX G.T.g G.T.b G.T.builtins G.T.nolimit hg hobj hints (Nat.le_trans hlen hn2) hr hF hb (fun H hO hS=>hsp w H a ns hlen hO hS) fun H e s'=>hCX w H s₁ e s'
end L2
namespace L2
open PySem PySem.Spec PyProof.Rows
noncomputable def defArgs (s:Stmt):Arguments:=match s with
 | .FunctionDef _ a _ _ _ _ _ _ _ _=>a
 | _=>{ posonlyargs:=[],args:=[],vararg:=none,kwonlyargs:=[],kw_defaults:=[],kwarg:=none,defaults:=[] }
noncomputable def defBody (s:Stmt):List Stmt:=match s with
 | .FunctionDef _ _ b _ _ _ _ _ _ _=>b
 | _=>[]
noncomputable def defScope (s:Stmt):Scope:=match s with
 | .FunctionDef _ _ _ _ _ _ sc _ _ _=>sc
 | _=>{ kind:=.function,names:=[],isGenerator:=false,isCoroutine:=false }
abbrev CX0:CXT:=fun _ _ _ _ _ _=>False
abbrev E0:XK:=fun _ _ _=>False
theorem pass0 {X:Cx}:Passes CX0 X E0:=fun _ _ _ _ _ _ _ h=>h.elim
structure Fun (K:PySem.W.Frag) (x qual:Str) (st:Stmt) (f:Addr) (fd:FuncData):Prop where
 ex:∃ (oc:Value) (od:Option Addr) (kV doc pm:Value) (an:Option Addr) (cdv ct:Value) (osl:Array (Option Value)),
  fd=PySem.W.fnOf x qual (defArgs st) (defBody st) (defScope st) .none kV doc pm an cdv ct∧K.lookup f=some ⟨oc,od,.func fd,osl⟩∧PySem.W.codeIn K cdv qual=true
 kp:PySem.W.keepIn K (.ref f)=true
section
variable {P:Program} {w:World} {K:PySem.W.Frag} {mg:Str→Option Value} {base:Heap}
theorem Fun.ok {x qual:Str} {st:Stmt} {f:Addr} {fd:FuncData} {N ps:List Str} {k:Nat} {sp:Sp} (F:Fun K x qual st f fd) (S:FnScope N ps (defScope st)) (len:∀ vs H Q E,sp vs H Q E→vs.length=ps.length)
  (hbody:∀ (cdv:Value) (A:Around) (outer:List Env) (s:Shared) (H:Hp) (vs:List V) (Q:VK) (E:XK),Room k (A.deeper (envOfC qual (defScope st) s.heap.objs.size f cdv))→sp vs H Q E→
   ∃ t,PSs (cxOf CX0 P w K mg base N qual (defScope st) f cdv A outer s H E).nox (defBody st) t∧t { nx:=fun _ H'=>Q .non H',rt:=Q } (start N vs) H):FnOk P w K mg base CX0 (k+1) f fd ps sp:=by
 obtain ⟨oc,od,kV,doc,pm,an,cdv,ct,osl,rfl,lk,hcd⟩:=F.ex
 refine fn_of lk hcd S len fun A outer s H vs Q E hr hsp=>?_
 obtain ⟨t,h,q⟩:=hbody cdv A outer s H vs Q E hr hsp
 exact ⟨t,h.nox,q⟩
theorem Fun.binds {x qual:Str} {st:Stmt} {f:Addr} {fd:FuncData} {ps:List Str} (F:Fun K x qual st f fd)
  (h:∀ (kV doc pm:Value) (an:Option Addr) (cdv ct:Value) (us:List Value),us.length=ps.length→bindArgs (PySem.W.fnOf x qual (defArgs st) (defBody st) (defScope st) .none kV doc pm an cdv ct) ⟨us,[]⟩=pure (ps.zip us)):Binds K fd ps []:=by
 obtain ⟨oc,od,kV,doc,pm,an,cdv,ct,osl,rfl,lk,hcd⟩:=F.ex
 exact .all (h kV doc pm an cdv ct)
theorem fun_mk {x qual:Str} {st:Stmt} {f:Addr} {oc:Value} {od an:Option Addr} {osl:Array (Option Value)} {kV doc pm cdv ct:Value} (l:K.lookup f=some ⟨oc,od,.func (PySem.W.fnOf x qual (defArgs st) (defBody st) (defScope st) .none kV doc pm an cdv ct),osl⟩)
  (c:PySem.W.codeIn K cdv qual=true) (k:PySem.W.keepIn K (.ref f)=true):Fun K x qual st f (PySem.W.fnOf x qual (defArgs st) (defBody st) (defScope st) .none kV doc pm an cdv ct):=⟨⟨oc,od,kV,doc,pm,an,cdv,ct,osl,rfl,l,c⟩,k⟩
end
theorem hu_of {A:Around} {k:Nat} (hr:Room k A):A.units+2<cLine:=Nat.lt_of_le_of_lt (Nat.add_le_add_left (by decide:2≤64) _) hr.units
theorem small1000 {n:Nat} (h:n≤1000):n<sizeLine:=Nat.lt_of_le_of_lt h (by decide)
section
variable {X:Cx}
theorem pv (i:Nat) {x:Str} {pos:Pos} (hN:X.N[i]?=some x:=by rfl) (hv:Vis X.env.scope x:=by first | exact Or.inl rfl | exact Or.inr (Or.inl rfl) | exact Or.inr (Or.inr rfl)) (hd:(x == ("__debug__" : Str))=false:=by decide)
  (hcd:(x == ("__classdict__" : Str))=false:=by decide):PE X (.Name x pos) (tVar i):=pe_var hN hv hd hcd
end
theorem iteF {A B:Prop} (h:B):if false=true then A else B:=by
 rw [if_neg Bool.false_ne_true]
 exact h
theorem iteT {A B:Prop} (h:A):if true=true then A else B:=by
 rw [if_pos rfl]
 exact h
theorem ite2 {c A B:Prop} [Decidable c] (h1:c→A) (h2:¬ c→B):if c then A else B:=by
 by_cases h:c
 ·rw [if_pos h]
  exact h1 h
 ·rw [if_neg h]
  exact h2 h
def Same (H H':Hp):Prop:=∀ b o,H b=some o→H' b=some o
theorem Same.refl (H:Hp):Same H H:=fun _ _ h=>h
theorem Same.trans {H H1 H2:Hp} (a:Same H H1) (b:Same H1 H2):Same H H2:=fun c o h=>b c o (a c o h)
theorem Same.free {H H':Hp} (e:Same H H') {l:Addr} (h:H' l=Option.none):H l=Option.none:=by
 cases q:H l with
 | none=>rfl
 | some o=>
  rw [e l o q] at h
  cases h
end L2
namespace L2
open PySem PySem.Spec PyProof.Rows
section
variable {κ:Type} [DecidableEq κ]
noncomputable def valV (kvs:List (κ × V)) (k:κ):Option V:=(kvs.find? fun kv=>decide (kv.1=k)).map (·.2)
noncomputable def putK (kvs:List (κ × V)) (k:κ) (v:V):List (κ × V):=
 if (kvs.any fun kv=>decide (kv.1=k))=true then kvs.map (fun kv=>if kv.1=k then (kv.1,v) else kv) else kvs++[(k,v)]
theorem qCJ {p:κ × V} {r:List (κ × V)} {k:κ} (e:p.1=k):valV (p::r) k=some p.2:=by simp [valV,List.find?_cons,e]
theorem qD5 {p:κ × V} {r:List (κ × V)} {k:κ} (e:¬ p.1=k):valV (p::r) k=valV r k:=by simp [valV,List.find?_cons,e]
theorem valV_any (k:κ):∀ kvs:List (κ × V),(kvs.any fun kv=>decide (kv.1=k))=(valV kvs k).isSome
 | []=>rfl
 | p::r=>by
  rw [List.any_cons]
  by_cases e:p.1=k
  ·simp only [qCJ e,decide_eq_true e,Bool.true_or,Option.isSome_some]
  ·rw [qD5 e,decide_eq_false e,Bool.false_or];exact valV_any k r
theorem qCP (kvs:List (κ × V)) (k:κ) (v:V):(putK kvs k v).length≤kvs.length+1:=by
 unfold putK
 split
 ·rw [List.length_map];lia
 ·rw [List.length_append,List.length_cons,List.length_nil];lia
theorem putK_new {kvs:List (κ × V)} {k:κ} (v:V) (h:valV kvs k=none):putK kvs k v=kvs++[(k,v)]:=by
 unfold putK
 rw [valV_any,h]
 exact if_neg (by decide)
theorem RelO.isSome_eq {o:Option V} {u:Option Value} (r:RelO o u):o.isSome=u.isSome:=by
 cases o with
 | none=>cases u with
  | none=>rfl
  | some _=>exact (show False from r).elim
 | some _=>cases u with
  | none=>exact (show False from r).elim
  | some _=>rfl
theorem KV.val {kvs:List (κ × V)} {vs:List (κ × Value)} (r:KV kvs vs) (k:κ):RelO (valV kvs k) (valueAt vs k):=by
 unfold KV at r
 induction r with
 | nil=>exact True.intro
 | @cons p q ps qs h t ih=>
  obtain ⟨h1,h2⟩:=h
  by_cases e:p.1=k
  ·have e':q.1=k:=h1.symm.trans e
   have b:valueAt (q::qs) k=some q.2:=by simp [valueAt,List.find?_cons,e']
   rw [qCJ e,b];exact h2
  ·have e':¬ q.1=k:=fun z=>e (h1.trans z)
   have b:valueAt (q::qs) k=valueAt qs k:=by simp [valueAt,List.find?_cons,e']
   rw [qD5 e,b];exact ih
theorem KV.any {kvs:List (κ × V)} {vs:List (κ × Value)} (r:KV kvs vs) (k:κ):(kvs.any fun kv=>decide (kv.1=k))=vs.any fun kv=>decide (kv.1=k):=by
 unfold KV at r
 induction r with
 | nil=>rfl
 | cons h t ih=>rw [List.any_cons,List.any_cons,ih,h.1]
theorem KV.repl {kvs:List (κ × V)} {vs:List (κ × Value)} (r:KV kvs vs) (k:κ) {y:V} {u:Value} (ry:RelV y u) :
  KV (kvs.map fun kv=>if kv.1=k then (kv.1,y) else kv) (vs.map fun kv=>if kv.1=k then (kv.1,u) else kv):=by
 unfold KV at r ⊢
 induction r with
 | nil=>exact .nil
 | @cons p q ps qs h t ih=>
  rw [List.map_cons,List.map_cons]
  refine .cons ?_ ih
  obtain ⟨h1,h2⟩:=h
  by_cases e:p.1=k
  ·rw [if_pos e,if_pos (h1.symm.trans e)];exact ⟨h1,ry⟩
  ·rw [if_neg e,if_neg (fun z=>e (h1.trans z))];exact ⟨h1,h2⟩
theorem KV.put {kvs:List (κ × V)} {vs:List (κ × Value)} (r:KV kvs vs) (k:κ) {y:V} {u:Value} (ry:RelV y u):KV (putK kvs k y) (stored vs k u):=by
 unfold putK stored
 rw [r.any k]
 by_cases e:(vs.any fun kv=>decide (kv.1=k))=true
 ·rw [if_pos e,if_pos e];exact r.repl k ry
 ·rw [if_neg e,if_neg e];exact Paired.snoc r ⟨rfl,ry⟩
theorem KV.length {kvs:List (κ × V)} {vs:List (κ × Value)} (r:KV kvs vs):kvs.length=vs.length:=Paired.length r
end
theorem kV_is {P:Program} {w:World} {k:Key} {u:Value} (r:RelV (kV k) u):(mixKind P w).is k u=true:=by
 cases k with
 | inl i=>obtain ⟨t,e⟩:=(show ∃ t,u=Value.int i t from r);subst e;exact mixKind_int P w i t
 | inr x=>obtain ⟨t,e⟩:=(show ∃ t,u=Value.str x t from r);subst e;exact mixKind_str P w x t
theorem kI_is {k:KI} {u:Value} (r:RelV (kI k) u):kiIs k u=true:=by
 cases k with
 | some k=>cases k with
  | inl i=>obtain ⟨t,e⟩:=(show ∃ t,u=Value.int i t from r);subst e;exact keyIs_int i t
  | inr x=>obtain ⟨t,e⟩:=(show ∃ t,u=Value.str x t from r);subst e;exact keyIs_str x t
 | none=>have e:u=Value.none:=r;subst e;rfl
theorem items_are:∀ {ks:List KI} {us:List Value},Vals (ks.map kI) us→Paired (fun k v=>kiIs k v=true) ks us
 | [],_,r=>by rw [List.map_nil] at r;cases r;exact .nil
 | k::ks,_,r=>by
  rw [List.map_cons] at r
  cases r with
  | cons h t=>exact .cons (kI_is h) (items_are t)
abbrev KT (H:Hp):List (List KI × V)→List (List KI × Addr × Value)→Prop:=Paired fun p q=>p.1=q.1∧H q.2.1=some (.tup (p.1.map kI))∧RelV p.2 q.2.2
theorem KT.val {H:Hp} {kvs:List (List KI × V)} {xs:List (List KI × Addr × Value)} (r:KT H kvs xs) (k:List KI):RelO (valV kvs k) ((atKey xs k).map (·.2)):=by
 induction r with
 | nil=>exact True.intro
 | @cons p q ps qs h t ih=>
  obtain ⟨h1,_,h2⟩:=h
  by_cases e:p.1=k
  ·have e':q.1=k:=h1.symm.trans e
   have b:atKey (q::qs) k=some q.2:=by simp [atKey,List.find?_cons,e']
   rw [qCJ e,b];exact h2
  ·have e':¬ q.1=k:=fun z=>e (h1.trans z)
   have b:atKey (q::qs) k=atKey qs k:=by simp [atKey,List.find?_cons,e']
   rw [qD5 e,b];exact ih
theorem KT.repl {H:Hp} {kvs:List (List KI × V)} {xs:List (List KI × Addr × Value)} (r:KT H kvs xs) (k:List KI) {y:V} {u:Value} (ry:RelV y u) :
  KT H (kvs.map fun kv=>if kv.1=k then (kv.1,y) else kv) (xs.map (putAt k u)):=by
 induction r with
 | nil=>exact .nil
 | @cons p q ps qs h t ih=>
  rw [List.map_cons,List.map_cons]
  refine .cons ?_ ih
  obtain ⟨h1,h2,h3⟩:=h
  unfold putAt
  by_cases e:p.1=k
  ·rw [if_pos e,if_pos (h1.symm.trans e)];exact ⟨h1,h2,ry⟩
  ·rw [if_neg e,if_neg (fun z=>e (h1.trans z))];exact ⟨h1,h2,h3⟩
theorem KT.put {H:Hp} {kvs:List (List KI × V)} {xs:List (List KI × Addr × Value)} (r:KT H kvs xs) (k:List KI) {b:Addr} {y:V} {u:Value} (hb:H b=some (.tup (k.map kI))) (ry:RelV y u) :
  KT H (putK kvs k y) (storedH xs k b u):=by
 have e:(kvs.any fun kv=>decide (kv.1=k))=(atKey xs k).isSome:=by
  rw [valV_any,(r.val k).isSome_eq,Option.isSome_map]
 unfold putK storedH
 rw [e]
 by_cases q:(atKey xs k).isSome=true
 ·rw [if_pos q,if_pos q];exact r.repl k ry
 ·rw [if_neg q,if_neg q];exact Paired.snoc r ⟨rfl,hb,ry⟩
theorem KT.keeps {H H':Hp} {kvs:List (List KI × V)} {xs:List (List KI × Addr × Value)} (r:KT H kvs xs) (ht:∀ b ys,H b=some (.tup ys)→H' b=some (.tup ys)):KT H' kvs xs:=
 Paired.mapP r fun _ _ z=>⟨z.1,ht _ _ z.2.1,z.2.2⟩
section
variable {P:Program} {w:World} {H:Hp} {h:Heap} {a:Addr}
theorem rd_of {u:HO} (ok:HOk P w H h) (e:Rd H a u):ObjOk P w H h a u:=e.ok ok
theorem dk_rd {kvs:List (Key × V)} (ok:HOk P w H h) (e:Rd H a (.dK kvs)):kvs.length≤sizeLine∧(a == sysModules)=false∧∃ vs,KV kvs vs∧h.DictOf (mixKind P w) a vs:=
 show ObjOk P w H h a (.dK kvs) from rd_of ok e
theorem dk_of {kvs:List (Key × V)} (ok:HOk P w H h) (e:H a=some (.dK kvs)):kvs.length≤sizeLine∧(a == sysModules)=false∧∃ vs,KV kvs vs∧h.DictOf (mixKind P w) a vs:=dk_rd ok (.inl e)
theorem key_of {ks:List KI} (ok:HOk P w H h) (e:H a=some (.tup (ks.map kI))):(nKind P w).is h ks a:=by
 obtain ⟨_,its,r,o,h1,h2,n,h3⟩:=(show ObjOk P w H h a (.tup (ks.map kI)) from ok a _ e)
 exact ⟨o,its.toArray,n,h1,h2,h3,by simpa using items_are r⟩
theorem dt_rd {kvs:List (List KI × V)} (ok:HOk P w H h) (e:Rd H a (.dT kvs)):kvs.length≤sizeLine∧(a == sysModules)=false∧
  ∃ xs,KT H kvs xs∧h.DictOfH (nKind P w) a xs:=by
 obtain ⟨z,y,xs,r,o,es,ep,h1,h2,h3,h4,h5⟩:=(show ObjOk P w H h a (.dT kvs) from rd_of ok e)
 refine ⟨z,y,xs,r,o,es,ep,h1,h2,h3,h4,fun x hx=>?_,h5⟩
 have all:∀ {l:List (List KI × V)} {m:List (List KI × Addr × Value)},KT H l m→∀ x ∈ m,(nKind P w).is h x.1 x.2.1:=by
  intro l m q
  induction q with
  | nil=>intro x hx;exact nomatch hx
  | @cons p q ps qs hq t ih=>
   intro x hx
   rcases List.mem_cons.mp hx with e | hx
   ·subst e
    exact key_of ok (by rw [← hq.1];exact hq.2.1)
   ·exact ih x hx
 exact all r x hx
theorem dt_of {kvs:List (List KI × V)} (ok:HOk P w H h) (e:H a=some (.dT kvs)):kvs.length≤sizeLine∧(a == sysModules)=false∧
  ∃ xs,KT H kvs xs∧h.DictOfH (nKind P w) a xs:=dt_rd ok (.inl e)
end
def DGet (H:Hp) (a:Addr) (y:V) (r:Option V):Prop:=
 (∃ kvs k,Rd H a (.dK kvs)∧y=kV k∧r=valV kvs k)∨∃ kvs k b,Rd H a (.dT kvs)∧y=.ref b∧H b=some (.tup (k.map kI))∧r=valV kvs k
def DPut (H:Hp) (a:Addr) (y v:V) (H':Hp):Prop:=
 (∃ kvs k,H a=some (.dK kvs)∧y=kV k∧kvs.length<sizeLine∧H'=upd H a (.dK (putK kvs k v)))∨
 ∃ kvs k b,H a=some (.dT kvs)∧y=.ref b∧H b=some (.tup (k.map kI))∧kvs.length<sizeLine∧H'=upd H a (.dT (putK kvs k v))
theorem DGet.k {H:Hp} {a:Addr} {kvs:List (Key × V)} {k:Key} (e:H a=some (.dK kvs)):DGet H a (kV k) (valV kvs k):=.inl ⟨kvs,k,.inl e,rfl,rfl⟩
theorem DPut.k {H:Hp} {a:Addr} {kvs:List (Key × V)} {k:Key} {v:V} (e:H a=some (.dK kvs)) (hl:kvs.length<sizeLine):DPut H a (kV k) v (upd H a (.dK (putK kvs k v))):=.inl ⟨kvs,k,e,rfl,hl,rfl⟩
theorem DPut.t {H:Hp} {a b:Addr} {kvs:List (List KI × V)} {k:List KI} {v:V} (e:H a=some (.dT kvs)) (eb:H b=some (.tup (k.map kI))) (hl:kvs.length<sizeLine) :
  DPut H a (.ref b) v (upd H a (.dT (putK kvs k v))):=.inr ⟨kvs,k,b,e,rfl,eb,hl,rfl⟩
section
variable {X:Cx} {pins:List (Addr × Obj)} {σ:St} {H:Hp} {s:Shared} {a:Addr} {y v:V} {u r:Value} {o:Option V} {A:Around} {E:Value→Shared→Prop}
theorem Inv.big (I:Inv X pins σ H s):sysModules<s.heap.objs.size:=by
 have h:mainGlobals<s.heap.objs.size:=(I.mod.glob.keeps I.bk).lt
 exact Nat.lt_trans (by decide) h
theorem d_getItem {Q:Value→Shared→Prop} (hu:A.units+2<cLine) (I:Inv X pins σ H s) (g:DGet H a y (some v)) (ry:RelV y u) (h:∀ w' s',Inv X pins σ H s'→RelV v w'→Q w' s') :
  wpAny (model X.prog X.w) A (getItem (.ref a) u) Q E s:=by
 rcases g with ⟨kvs,k,e,ey,l⟩ | ⟨kvs,k,b,e,ey,eb,l⟩
 ·subst ey
  obtain ⟨z,hd,vs,rel,dd⟩:=dk_rd I.hok e
  obtain ⟨w',hw,rw'⟩:=RelO.some_of (v:=v) (o:=valueAt vs k) (by rw [l];exact rel.val k)
  exact wpAny_getItem_of (kV_is ry) dd.mapOf hw (h w' _ (I.tok _) rw')
 ·subst ey
  cases (show u=Value.ref b from ry)
  obtain ⟨z,hd,xs,rel,dd⟩:=dt_rd I.hok e
  obtain ⟨w',hw,rw'⟩:=RelO.some_of (v:=v) (o:=(atKey xs k).map (·.2)) (by rw [l];exact rel.val k)
  obtain ⟨p,hp,hp2⟩:=Option.map_eq_some_iff.mp hw
  refine wpAny_getItem_heap (nk_room hu) (key_of I.hok eb) dd hp ?_
  rw [hp2]
  exact h w' _ (I.tok _) rw'
theorem d_in {Q:Value→Shared→Prop} (hu:A.units+2<cLine) (I:Inv X pins σ H s) (g:DGet H a y o) (ry:RelV y u) (h:∀ s',Inv X pins σ H s'→Q (.bool o.isSome) s') :
  wpAny (model X.prog X.w) A (compareOp .In u (.ref a)) Q E s:=by
 rcases g with ⟨kvs,k,e,ey,l⟩ | ⟨kvs,k,b,e,ey,eb,l⟩
 ·subst ey
  obtain ⟨z,hd,vs,rel,dd⟩:=dk_rd I.hok e
  refine wpAny_in_of (kV_is ry) hd dd.mapOf ?_
  rw [← (rel.val k).isSome_eq,← l]
  exact h _ (I.tok _)
 ·subst ey
  cases (show u=Value.ref b from ry)
  obtain ⟨z,hd,xs,rel,dd⟩:=dt_rd I.hok e
  refine wpAny_in_heap (nk_room hu) (key_of I.hok eb) hd dd ?_
  have q:=(rel.val k).isSome_eq
  rw [Option.isSome_map] at q
  rw [← q,← l]
  exact h _ (I.tok _)
theorem d_notIn {Q:Value→Shared→Prop} (hu:A.units+2<cLine) (I:Inv X pins σ H s) (g:DGet H a y o) (ry:RelV y u) (h:∀ s',Inv X pins σ H s'→Q (.bool (!o.isSome)) s') :
  wpAny (model X.prog X.w) A (compareOp .NotIn u (.ref a)) Q E s:=by
 rcases g with ⟨kvs,k,e,ey,l⟩ | ⟨kvs,k,b,e,ey,eb,l⟩
 ·subst ey
  obtain ⟨z,hd,vs,rel,dd⟩:=dk_rd I.hok e
  refine wpAny_notIn_of (kV_is ry) hd dd.mapOf ?_
  rw [← (rel.val k).isSome_eq,← l]
  exact h _ (I.tok _)
 ·subst ey
  cases (show u=Value.ref b from ry)
  obtain ⟨z,hd,xs,rel,dd⟩:=dt_rd I.hok e
  refine wpAny_notIn_heap (nk_room hu) (key_of I.hok eb) hd dd ?_
  have q:=(rel.val k).isSome_eq
  rw [Option.isSome_map] at q
  rw [← q,← l]
  exact h _ (I.tok _)
theorem d_write {h':Heap} {t':Nat} {ob:HO} (I:Inv X pins σ H s) (mu:Mut (H a)) (hs:Heap.SameBut a s.heap h') (he:∃ q,h'.get? a=some q) (new:ObjOk X.prog X.w (upd H a ob) h' a ob) :
  Inv X pins σ (upd H a ob) { s with heap:=h',toks:=t' }:=
 I.write (x:=a) (e:=a) mu (.inl rfl) (fun b q hb z=>(hs.2 b hb).trans z) he new
theorem dk_new {P:Program} {w:World} {H':Hp} {h':Heap} {kvs:List (Key × V)} {vs:List (Key × Value)} (z:kvs.length≤sizeLine) (hd:(a == sysModules)=false) (rel:KV kvs vs) (dd:h'.DictOf (mixKind P w) a vs) :
  ObjOk P w H' h' a (.dK kvs):=⟨z,hd,vs,rel,dd⟩
theorem d_setItem {H':Hp} {Q:Unit→Shared→Prop} (hu:A.units+2<cLine) (I:Inv X pins σ H s) (g:DPut H a y v H') (ry:RelV y u) (rv:RelV v r) (h:∀ s',Inv X pins σ H' s'→Q () s') :
  wpAny (model X.prog X.w) A (setItem (.ref a) u r) Q E s:=by
 rcases g with ⟨kvs,k,e,ey,l,eH⟩ | ⟨kvs,k,b,e,ey,eb,l,eH⟩
 ·subst ey eH
  obtain ⟨z,hd,vs,rel,dd⟩:=dk_of I.hok e
  have hz:vs.length≤sizeLine:=by rw [← rel.length];exact z
  have hl:(putK kvs k v).length≤sizeLine:=by have:=qCP kvs k v;lia
  refine wpAny_setItem_pairs (hsz:=hz) (kV_is ry) dd fun h' dd' hs=>h _ ?_
  have he:∃ q,h'.get? a=some q:=let ⟨q,_,_,hq,_⟩:=dd';⟨q,hq⟩
  exact d_write I (by rw [e];exact True.intro) hs he (dk_new hl hd (rel.put k rv) dd')
 ·subst ey eH
  cases (show u=Value.ref b from ry)
  obtain ⟨z,hd,xs,rel,dd⟩:=dt_of I.hok e
  have hz:xs.length≤sizeLine:=by rw [← Paired.length rel];exact z
  have hl:(putK kvs k v).length≤sizeLine:=by have:=qCP kvs k v;lia
  refine wpAny_setItem_heap (hsz:=hz) (nk_room hu) (key_of I.hok eb) dd fun h' dd' hs=>h _ ?_
  obtain ⟨q,es,ep,hq,h2,h3,h4,_,h5⟩:=dd'
  refine d_write I (by rw [e];exact True.intro) hs ⟨q,hq⟩ ⟨hl,hd,_,(rel.put k eb rv).keeps fun c ys ec=>?_,q,es,ep,hq,h2,h3,h4,h5⟩
  rw [qA9 (ne_of ec e (fun z=>nomatch z))]
  exact ec
end
section
variable {X:Cx} {pins:List (Addr × Obj)} {σ:St} {H:Hp} {s:Shared} {a:Addr} {kvs:List (Key × V)} {k:Key} {u:Value} {A:Around} {E:Value→Shared→Prop}
end
def NoSl (i:Expr):Prop:=∀ ov iv,subscripted i false ov iv=operate [ov,iv] (getItem ov iv)
theorem subD_of {prog:Program} {w:World} {A:Around} {E:Value→Shared→Prop} {s:Shared} {env:Env} {value slice:Expr} {pos:Pos} {T id:String} {Q:Value→Shared→Prop}
  (hl:typeLookup (.type T) "__getitem__" = pure (some (.builtin id))) (hs:NoSl slice)
  (h:wpAny (model prog w) A (eval value env) (fun o s₁=>wpAny (model prog w) A (eval slice env) (fun i s₂=>s₂.TypeIs o T∧wpAny (model prog w) A (getItem o i) Q E s₂) E s₁) E s) :
  wpAny (model prog w) A (eval (.Subscript value slice pos) env) Q E s:=by
 refine Subscript_ (wpAny_mono h (fun o s₁ h₁=>wpAny_mono h₁ (fun i s₂ h₂=>?_) fun _ _ x=>x) fun _ _ x=>x)
 obtain ⟨hT,h₂⟩:=h₂
 unfold subscriptTail
 refine wpAny_bind ?_
 rw [getitemInPython_of_ne hT.not_modules]
 refine wpAny_bind (wpAny_specialOf hT hl ?_)
 have fin:wpAny (model prog w) A (subscripted slice false o i) (fun r s₃=>wpAny (model prog w) A (letTemporaryGo value o r >>= fun _=>pure r) Q E s₃) E s₂:=by
  rw [hs o i]
  exact wpAny_operating (wpAny_mono h₂ (fun r s₃ h₃=>wpAny_bind (wpAny_letTemporaryGo (wpAny_pure h₃))) fun _ _ x=>x)
 first
  | exact wpAny_pure (wpAny_bind fin)
  | exact wpAny_bind (wpAny_pure (wpAny_bind fin))
  | exact wpAny_bind fin
theorem dict_typeIs {X:Cx} {pins:List (Addr × Obj)} {σ:St} {H:Hp} {s:Shared} {a:Addr} {y:V} {o:Option V} (I:Inv X pins σ H s) (g:DGet H a y o):s.TypeIs (.ref a) "dict":=by
 rcases g with ⟨kvs,k,e,_,_⟩ | ⟨kvs,k,b,e,_,_,_⟩
 ·obtain ⟨_,_,vs,_,dd⟩:=dk_rd I.hok e
  exact dd.typeIs
 ·obtain ⟨_,_,xs,_,dd⟩:=dt_rd I.hok e
  exact dd.typeIs
def tDGet (td ty:TE):TE:=fun σ H Q=>td σ H fun x H1=>ty σ H1 fun y H2=>∃ a v,x=.ref a∧DGet H2 a y (some v)∧Q v H2
def tDIn (ty td:TE):TE:=fun σ H Q=>ty σ H fun y H1=>td σ H1 fun x H2=>∃ a o,x=.ref a∧DGet H2 a y o∧Q (.bl o.isSome) H2
def tDNotIn (ty td:TE):TE:=fun σ H Q=>ty σ H fun y H1=>td σ H1 fun x H2=>∃ a o,x=.ref a∧DGet H2 a y o∧Q (.bl (!o.isSome)) H2
def sDPut (td ty tv:TE):TS:=fun D σ H=>tv σ H fun v H1=>td σ H1 fun x H2=>ty σ H2 fun y H3=>∃ a H4,x=.ref a∧DPut H3 a y v H4∧D.nx σ H4
section
variable {X:Cx} {o i e value:Expr} {pos pos' tpos:Pos} {td ty tv:TE}
theorem pe_dget (hu:X.A.units+2<cLine) (ho:PE X o td) (hi:PE X i ty) (hs:NoSl i):PE X (.Subscript o i pos) (tDGet td ty):=by
 intro pins s σ H Q I h
 refine subD_of PySem.F.slot_dict_getitem.lookup hs (thn (ho pins s σ H _ I h) fun u s1 ⟨x,H1,I1,rx,q1⟩=>thn (hi pins s1 σ H1 _ I1 q1) fun iv s2 ⟨y,H2,I2,ry,a,v,ex,g,q2⟩=>?_)
 subst ex
 obtain rfl:u=Value.ref a:=rx
 exact ⟨dict_typeIs I2 g,d_getItem hu I2 g ry fun w' s3 I3 rw'=>⟨v,H2,I3,rw',q2⟩⟩
theorem pc_din (hu:X.A.units+2<cLine) (hi:PE X i ty) (ho:PE X o td):PC X .In i o (tDIn ty td):=by
 intro pins s σ H Q I h
 refine thn (hi pins s σ H _ I h) fun iv s1 ⟨y,H1,I1,ry,q1⟩=>thn (ho pins s1 σ H1 _ I1 q1) fun u s2 ⟨x,H2,I2,rx,a,ov,ex,g,q2⟩=>?_
 subst ex
 obtain rfl:u=Value.ref a:=rx
 exact d_in hu I2 g ry fun s3 I3=>⟨.bl ov.isSome,H2,I3,rfl,q2⟩
theorem qCF (hu:X.A.units+2<cLine) (hi:PE X i ty) (ho:PE X o td):PC X .NotIn i o (tDNotIn ty td):=by
 intro pins s σ H Q I h
 refine thn (hi pins s σ H _ I h) fun iv s1 ⟨y,H1,I1,ry,q1⟩=>thn (ho pins s1 σ H1 _ I1 q1) fun u s2 ⟨x,H2,I2,rx,a,ov,ex,g,q2⟩=>?_
 subst ex
 obtain rfl:u=Value.ref a:=rx
 exact d_notIn hu I2 g ry fun s3 I3=>⟨.bl (!ov.isSome),H2,I3,rfl,q2⟩
theorem ps_dput (hu:X.A.units+2<cLine) (ho:PE X o td) (hi:PE X i ty) (hv:PE X value tv) (hs:swapsWith value (some (.Subscript o i pos')) pos.line X.env=pure false) :
  PS X (.Assign [.Subscript o i pos'] value pos) (sDPut td ty tv):=by
 intro pins s σ H D I h
 refine wpAny_Assign_Subscript (thn (hv pins s σ H _ I h) fun r s1 ⟨v,H1,I1,rv,q1⟩=>thn (ho pins s1 σ H1 _ I1 q1) fun u s2 ⟨x,H2,I2,rx,q2⟩=>thn (hi pins s2 σ H2 _ I2 q2) fun iv s3 ⟨y,H3,I3,ry,a,H4,ex,g,q3⟩=>?_) hs
 subst ex
 obtain rfl:u=Value.ref a:=rx
 exact d_setItem hu I3 g ry rv fun s4 I4=>⟨σ,H4,I4,q3⟩
end
theorem dk_empty {P:Program} {w:World} {H:Hp} (h:Heap) (hb:sysModules<h.objs.size):ObjOk P w H (h.push { cls:=.type "dict",data:=.dict #[] }) h.objs.size (.dK []):=
 ⟨Nat.zero_le _,beq_eq_false_iff_ne.mpr (Ne.symm (Nat.ne_of_lt hb)),[],.nil,Heap.DictOf.new h⟩
theorem dt_empty {P:Program} {w:World} {H:Hp} (h:Heap) (hb:sysModules<h.objs.size):ObjOk P w H (h.push { cls:=.type "dict",data:=.dict #[] }) h.objs.size (.dT []):=
 ⟨Nat.zero_le _,beq_eq_false_iff_ne.mpr (Ne.symm (Nat.ne_of_lt hb)),[],.nil,_,#[],0,Heap.get?_push_size _ rfl,⟨rfl,rfl,rfl⟩,rfl,rfl,List.nodup_nil⟩
def tDNewK:TE:=fun _ H Q=>∀ p,H p=none→Q (.ref p) (upd H p (.dK []))
def tDNewT:TE:=fun _ H Q=>∀ p,H p=none→Q (.ref p) (upd H p (.dT []))
section
variable {X:Cx} {pos:Pos}
theorem pe_dnewK:PE X (.Dict [] [] pos) tDNewK:=fun pins s σ H Q I h=>
 wpAny_Dict_empty ⟨.ref s.heap.objs.size,_,I.laid (a:=s.heap.objs.size) (o:=.dK []) (t':=s.toks) (fun _ _ q=>Heap.get?_push_of_some _ q) (Nat.le_refl _) (dk_empty s.heap I.big),rfl,h _ (I.hok.fresh (Nat.le_refl _))⟩
theorem pe_dnewT:PE X (.Dict [] [] pos) tDNewT:=fun pins s σ H Q I h=>
 wpAny_Dict_empty ⟨.ref s.heap.objs.size,_,I.laid (a:=s.heap.objs.size) (o:=.dT []) (t':=s.toks) (fun _ _ q=>Heap.get?_push_of_some _ q) (Nat.le_refl _) (dt_empty s.heap I.big),rfl,h _ (I.hok.fresh (Nat.le_refl _))⟩
end
def tPairs:List (TE × TE)→St→Hp→(List (V × V)→Hp→Prop)→Prop
 | [],_,H,Q=>Q [] H
 | (tk,tv)::r,σ,H,Q=>tk σ H fun x H1=>tv σ H1 fun y H2=>tPairs r σ H2 fun ps H3=>Q ((x,y)::ps) H3
abbrev VV:List (V × V)→List (Value × Value)→Prop:=Paired fun p q=>RelV p.1 q.1∧RelV p.2 q.2
def PPs (X:Cx) (pos:Pos) (keys:List (Option Expr)) (values:List Expr) (trs:List (TE × TE)):Prop:=
 ∀ (pins:List (Addr × Obj)) (s:Shared) (σ:St) (H:Hp) (Q:List (V × V)→Hp→Prop),Inv X pins σ H s→tPairs trs σ H Q→
  wpAny (model X.prog X.w) X.A (evalPairs (pairTrees keys values X.env pos)) (fun vs s'=>∃ ps H',Inv X pins σ H' s'∧VV ps vs∧Q ps H') X.xe s
theorem pps_nil {X:Cx} {pos:Pos}:PPs X pos [] [] []:=fun pins s σ H Q I h=>pairTrees_nil_walk ⟨[],H,I,.nil,h⟩
theorem pps_cons {X:Cx} {pos:Pos} {k v:Expr} {ks:List (Option Expr)} {vs:List Expr} {tk tv:TE} {trs:List (TE × TE)} (hk:PE X k tk) (hv:PE X v tv) (hr:PPs X pos ks vs trs) :
  PPs X pos (some k::ks) (v::vs) ((tk,tv)::trs):=fun pins s σ H Q I h=>
 pairTrees_cons_walk (thn (hk pins s σ H _ I h) fun u s1 ⟨x,H1,I1,rx,q1⟩=>thn (hv pins s1 σ H1 _ I1 q1) fun w2 s2 ⟨y,H2,I2,ry,q2⟩=>
  thn (hr pins s2 σ H2 _ I2 q2) fun ws s3 ⟨ps,H3,I3,rel,q3⟩=>⟨(x,y)::ps,H3,I3,.cons ⟨rx,ry⟩ rel,q3⟩)
noncomputable def mergeK (kvs more:List (Key × V)):List (Key × V):=more.foldl (fun acc kv=>putK acc kv.1 kv.2) kvs
theorem KV.merge:∀ {more:List (Key × V)} {rs:List (Key × Value)} {kvs:List (Key × V)} {vs:List (Key × Value)},KV more rs→KV kvs vs→KV (mergeK kvs more) (merged vs rs):=by
 intro more rs kvs vs r
 unfold KV at r
 induction r generalizing kvs vs with
 | nil=>intro q;exact q
 | @cons p q ps qs h t ih=>
  intro r0
  have e:KV (putK kvs p.1 p.2) (stored vs q.1 q.2):=by
   have:=r0.put p.1 h.2
   rw [← h.1];exact this
  exact ih e
theorem length_mergeK:∀ (more kvs:List (Key × V)),(mergeK kvs more).length≤kvs.length+more.length
 | [],kvs=>by show kvs.length≤kvs.length+0;lia
 | p::r,kvs=>by
  have h1:=length_mergeK r (putK kvs p.1 p.2)
  have h2:=qCP kvs p.1 p.2
  show (mergeK (putK kvs p.1 p.2) r).length≤_
  rw [List.length_cons];lia
theorem carries_of {P:Program} {w:World}:∀ {kvs:List (Key × V)} {ws:List (Value × Value)},VV (kvs.map fun kv=>(kV kv.1,kv.2)) ws→∃ rs,Carries (mixKind P w) ws rs∧KV kvs rs
 | [],_,r=>by rw [List.map_nil] at r;cases r;exact ⟨[],True.intro,.nil⟩
 | p::kvs,_,r=>by
  rw [List.map_cons] at r
  cases r with
  | @cons a b as bs h t=>
   obtain ⟨rs,c,q⟩:=carries_of (P:=P) (w:=w) t
   obtain ⟨b1,b2⟩:=b
   exact ⟨(p.1,b2)::rs,⟨kV_is h.1,rfl,c⟩,.cons ⟨rfl,h.2⟩ q⟩
def tDisp (trs:List (TE × TE)):TE:=fun σ H Q=>∀ p,H p=none→tPairs trs σ (upd H p (.dK [])) fun ps H2=>H2 p=some (.dK [])∧∃ kvs:List (Key × V),ps=kvs.map (fun kv=>(kV kv.1,kv.2))∧kvs.length≤15∧Q (.ref p) (upd H2 p (.dK (mergeK [] kvs)))
theorem pe_disp {X:Cx} {pos:Pos} {keys:List (Option Expr)} {values:List Expr} {trs:List (TE × TE)} (h:PPs X pos keys values trs) (hall:keys.all (·.isSome)=true) (hl:keys.length=values.length) (h0:keys ≠ [])
  (h15:keys.length≤15):PE X (.Dict keys values pos) (tDisp trs):=by
 intro pins s σ H Q I q
 have hn:=I.hok.fresh (Nat.le_refl s.heap.objs.size)
 have I1:=I.laid (a:=s.heap.objs.size) (o:=.dK []) (h':=s.heap.push { cls:=.type "dict",data:=.dict #[] }) (t':=s.toks) (fun _ _ q=>Heap.get?_push_of_some _ q) (Nat.le_refl _) (dk_empty s.heap I.big)
 refine wpAny_Dict_walk (knd:=mixKind X.prog X.w) hall hl h0 h15 (thn (h pins _ σ _ _ I1 (q _ hn)) fun ws s2 ⟨ps,H2,I2,rel,e,kvs,ep,lk,q2⟩=>?_)
 subst ep
 obtain ⟨rs,c,rk⟩:=carries_of (P:=X.prog) (w:=X.w) rel
 obtain ⟨z,hd,vs0,r0,dd⟩:=dk_of I2.hok e
 cases r0
 refine ⟨rs,c,dd,fun h' dd' hs=>⟨.ref s.heap.objs.size,_,?_,rfl,q2⟩⟩
 have hz:(mergeK [] kvs).length≤sizeLine:=by
  have h1:=length_mergeK kvs []
  rw [List.length_nil] at h1
  rw [sizeLine_eq];lia
 have he:∃ q,h'.get? s.heap.objs.size=some q:=let ⟨q,_,_,hq,_⟩:=dd';⟨q,hq⟩
 exact d_write I2 (by rw [e];exact True.intro) hs he (dk_new hz hd (rk.merge .nil) dd')
structure M1 (X:Cx) (o:Expr) (m:Str) (apos:Pos) (e:Expr) (cpos:Pos):Prop where
 base:attributeBase o m X.env (eval o X.env)=eval o X.env
 few:((backTo cpos (starEach [e] X.env)).all (fun x=>!x.1) && (backToKw cpos (keywordEach [] X.env)).all (fun x=>x.1.isSome)
  && decide (([e]:List Expr).length+([]:List Keyword).length+(if ([]:List Keyword).isEmpty then 0 else 1)<30))=true
 line:(apos.endLine == cpos.line)=true
 trees:backTo cpos (starEach [e] X.env)=[(false,eval e X.env)]
structure M2 (X:Cx) (o:Expr) (m:Str) (apos:Pos) (e f:Expr) (cpos:Pos):Prop where
 base:attributeBase o m X.env (eval o X.env)=eval o X.env
 few:((backTo cpos (starEach [e,f] X.env)).all (fun x=>!x.1) && (backToKw cpos (keywordEach [] X.env)).all (fun x=>x.1.isSome)
  && decide (([e,f]:List Expr).length+([]:List Keyword).length+(if ([]:List Keyword).isEmpty then 0 else 1)<30))=true
 line:(apos.endLine == cpos.line)=true
 trees:backTo cpos (starEach [e,f] X.env)=[(false,eval e X.env),(false,eval f X.env)]
section
variable {X:Cx} {pins:List (Addr × Obj)} {σ:St} {H:Hp} {s:Shared} {a:Addr} {y d:V} {u r:Value} {o:Option V} {A:Around} {E:Value→Shared→Prop}
end
section
variable {X:Cx} {o e f:Expr} {apos cpos:Pos} {td ty tx:TE}
end
section
variable {X:Cx} {pins:List (Addr × Obj)} {σ:St} {H:Hp} {s:Shared} {a:Addr} {kvs:List (Key × V)} {A:Around} {E:Value→Shared→Prop}
end
section
variable {X:Cx} {pins:List (Addr × Obj)} {σ:St} {H:Hp} {s:Shared} {a:Addr} {y:V} {u:Value} {A:Around} {E:Value→Shared→Prop}
end
end L2
namespace L2
open PySem PySem.Spec PyProof.Rows
section
variable {X:Cx}
end
section
variable {κ:Type} [DecidableEq κ]
theorem nd_snoc:∀ {l:List κ} {k:κ},l.Nodup→¬ k ∈ l→(l++[k]).Nodup
 | [],k,_,_=>by simp
 | a::r,k,h,hk=>by
  obtain ⟨h1,h2⟩:=List.nodup_cons.mp h
  show (a::(r++[k])).Nodup
  refine List.nodup_cons.mpr ⟨fun m=>?_,nd_snoc h2 fun m=>hk (List.mem_cons.mpr (Or.inr m))⟩
  rcases List.mem_append.mp m with q | q
  ·exact h1 q
  ·exact hk (List.mem_cons.mpr (Or.inl (List.mem_singleton.mp q).symm))
end
end L2
namespace L2
open PySem PySem.Spec PyProof.Rows
def noX:Value→Shared→Prop:=fun _ _=>False
noncomputable def closL (env:Env):List (Str × NameKind)→List (Str × Addr)→List (Str × Addr)
 | [],acc=>acc
 | (n,k)::r,acc=>closL env r (if (k == NameKind.free)=true then (n,(env.cells.lookup n).getD 0)::acc else acc)
theorem closL_sub {env:Env}:∀ {names:List (Str × NameKind)} {acc:List (Str × Addr)},(∀ x,(x,NameKind.free) ∈ names→∃ c,env.cells.lookup x=some c)→(∀ x c,acc.lookup x=some c→env.cells.lookup x=some c)→
  ∀ x c,(closL env names acc).lookup x=some c→env.cells.lookup x=some c
 | [],acc,_,ha,x,c,h=>ha x c h
 | (n,k)::r,acc,hf,ha,x,c,h=>by
  refine closL_sub (names:=r) (fun y hy=>hf y (List.mem_cons_of_mem _ hy)) (fun y d hd=>?_) x c h
  split at hd
  ·rename_i hk
   have hk':k=NameKind.free:=by simpa using hk
   subst hk'
   obtain ⟨e,he⟩:=hf n List.mem_cons_self
   by_cases hyn:y=n
   ·subst hyn
    rw [List.lookup_cons_self,he] at hd
    rw [he];exact hd
   ·rw [List.lookup_cons,beq_eq_false_iff_ne.mpr hyn] at hd
    exact ha y d hd
  ·exact ha y d hd
theorem closL_has {env:Env}:∀ {names:List (Str × NameKind)} {acc:List (Str × Addr)} {x:Str},((x,NameKind.free) ∈ names∨∃ c,acc.lookup x=some c)→∃ c,(closL env names acc).lookup x=some c
 | [],acc,x,h=>by
  rcases h with h | h
  ·exact absurd h (by simp)
  ·exact h
 | (n,k)::r,acc,x,h=>by
  refine closL_has (names:=r) ?_
  rcases h with h | ⟨c,h⟩
  ·rcases List.mem_cons.mp h with e | h
   ·cases e
    refine .inr ⟨(env.cells.lookup n).getD 0,?_⟩
    rw [if_pos (by rfl),List.lookup_cons_self]
   ·exact .inl h
  ·refine .inr ?_
   split
   ·by_cases hyn:x=n
    ·subst hyn
     exact ⟨_,List.lookup_cons_self⟩
    ·refine ⟨c,?_⟩
     rw [List.lookup_cons,beq_eq_false_iff_ne.mpr hyn]
     exact h
   ·exact ⟨c,h⟩
theorem closure_run {env:Env} (f:Str × NameKind→List (Str × Addr)→Sem (ForInStep (List (Str × Addr))))
  (hf:∀ n k c,f (n,k) c=(if (k == NameKind.free)=true then (do let a ← cellOf env n;pure (ForInStep.yield ((n,a)::c))) else pure (ForInStep.yield c))) :
  ∀ (names:List (Str × NameKind)) (acc:List (Str × Addr)),(∀ x,(x,NameKind.free) ∈ names→∃ c,env.cells.lookup x=some c)→forIn names acc f=(pure (closL env names acc):Sem _)
 | [],acc,_=>rfl
 | (n,k)::r,acc,h=>by
  have ih:=fun acc=>closure_run f hf r acc fun x hx=>h x (List.mem_cons_of_mem _ hx)
  rw [List.forIn_cons,hf]
  by_cases hk:(k == NameKind.free)=true
  ·have hk':k=NameKind.free:=by simpa using hk
   subst hk'
   obtain ⟨c,hc⟩:=h n List.mem_cons_self
   rw [if_pos hk]
   unfold cellOf closL
   rw [hc,if_pos hk]
   exact ih _
  ·rw [if_neg hk]
   unfold closL
   rw [if_neg hk]
   exact ih _
theorem closure_ok {scope:Scope} {env:Env} (h:∀ x,(x,NameKind.free) ∈ scope.names→∃ c,env.cells.lookup x=some c):closureFor scope env=pure (closL env scope.names []):=by
 unfold closureFor
 dsimp only
 rw [closure_run (env:=env) _ (fun n k c=>?_) scope.names [] h]
 ·rfl
 ·rfl
theorem qCA {env:Env} {x:Str}:∀ {names:List (Str × NameKind)},
  (names.map fun (n,k)=>if (k == NameKind.free && env.scope.kind == .function && env.kindOf n == some .cell)=true then (n,NameKind.cell) else (n,k)).lookup x =
   (names.lookup x).map fun k=>if (k == NameKind.free && env.scope.kind == .function && env.kindOf x == some .cell)=true then NameKind.cell else k
 | []=>rfl
 | (n,k)::r=>by
  have ih:=@qCA env x r
  rw [List.map_cons]
  by_cases hx:x=n
  ·subst hx
   dsimp only
   rw [List.lookup_cons_self (b:=k),Option.map_some]
   split
   ·rw [List.lookup_cons_self]
   ·rw [List.lookup_cons_self]
  ·have hb:(x == n)=false:=beq_eq_false_iff_ne.mpr hx
   dsimp only
   rw [List.lookup_cons (k:=n) (b:=k),hb]
   dsimp only
   rw [← ih]
   split
   ·rw [List.lookup_cons,hb]
   ·rw [List.lookup_cons,hb]
structure LcZ where
 L:Addr
 cl:List (Str × Addr)
 ex:List Addr
 s₀:Shared
 H₀:Hp
noncomputable def lcCx (X:Cx) (scope:Scope) (own:List Str) (fv:List Nat) (z:LcZ):Cx where
 prog:=X.prog
 w:=X.w
 K:=X.K
 mg:=X.mg
 base:=X.base
 A:=X.A
 N:=own++fv.map fun i=>X.N.getD i Str.empty
 s₀:=z.s₀
 H₀:=z.H₀
 env:=compEnvC scope z.cl z.L X.env
 outer:=X.stack
 stack:=X.stack
 ex:=z.ex
 fn:=fun _=>false
 calm:=X.calm
 pn:=[]
 xe:=noX
structure LcScope (X:Cx) (scope:Scope) (own:List Str) (fv:List Nat):Prop where
 kind:scope.kind=.function
 nocell:∀ y ∈ scope.names,y.2 ≠ .cell
 names:∀ y ∈ scope.names,y.2=.local→scope.names.lookup y.1=some .local
 free:∀ y ∈ scope.names,y.2=.free→X.env.kindOf y.1=some .cell∨X.env.kindOf y.1=some .free
 nd:(own++fv.map fun i=>X.N.getD i Str.empty).Nodup
 fvs:∀ i ∈ fv,i<X.N.length∧scope.names.lookup (X.N.getD i Str.empty)=some .free
noncomputable def lcStart (own:List Str) (fv:List Nat) (σ:St):St:=(own.map fun _=>none)++fv.map fun i=>(σ[i]?).join
theorem compLoop_any {prog:Program} {w:World} {A:Around} {R:Result→Shared→Prop} {s:Shared} {elt target iter:Expr} {ifs:List Expr} {scope:Scope} {pos:Pos} {it acc:Value} {env:Env} (I:Nat→Shared→Prop)
  (turn:∀ n s,I n s→wpAny (model prog w) A (pyNext it) (fun r s₁=>match r with
   | none=>R (.ok .next) s₁
   | some v=>wpAny (model prog w) A (letOwnedTupleGo target it v) (fun _ s₁=>wpAny (model prog w) A (assign target env v) (fun _ s₂=>
     wpAny (model prog w) A (forIn ifs true fun c r=>if r=true then do let ok ← isTrue c env (eval c env);pure (ForInStep.yield ok) else pure (ForInStep.yield r)) (fun ok s₃=>
      if ok=true then wpAny (model prog w) A (eval elt env) (fun x s₄=>
       wpAny (model prog w) A (call (.builtin "list.append") [acc,x]) (fun _ s₅=>∃ m,m<n∧I m s₅) noX s₄) noX s₃
      else ∃ m,m<n∧I m s₃) noX s₂) noX s₁) noX s₁) noX s)
  (n:Nat) (h:I n s) :
  codeAny (model prog w) A (.compLoop (.ListComp elt [⟨target,iter,ifs,0⟩] scope pos) 0 it acc env) R s:=by
 refine codeAny_loop rfl I (fun n s hI=>?_) n h
 show wpAny _ A ((compTurn (.ListComp elt [⟨target,iter,ifs,0⟩] scope pos) 0 it acc env).onRaise (fun x=>do noteFrame x env;theTreesLotGoes x)) _ _ s
 refine wpAny_noted ?_
 rw [compTurn_list]
 refine wpAny_bind (wpAny_standAt (wpAny_bind (wpAny_mono (turn n s hI) (fun r s₁ h₁=>?_) fun _ _ h'=>h'.elim)))
 cases r with
 | none=>exact wpAny_pure h₁
 | some v=>
  refine wpAny_bind (wpAny_mono h₁ (fun _ s₁ h₁=>?_) fun _ _ h'=>h'.elim)
  refine wpAny_bind (wpAny_mono h₁ (fun _ s₂ h₂=>wpAny_bind (wpAny_mono h₂ (fun ok s₃ h₃=>?_) fun _ _ h'=>h'.elim)) fun _ _ h'=>h'.elim)
  cases ok with
  | false=>exact wpAny_pure ⟨rfl,h₃⟩
  | true=>
   exact wpAny_bind (wpAny_bind (wpAny_mono h₃ (fun x s₄ h₄=>wpAny_bind (wpAny_mono h₄ (fun _ s₅ h₅=>wpAny_pure (wpAny_pure ⟨rfl,h₅⟩)) fun _ _ h'=>h'.elim)) fun _ _ h'=>h'.elim))
section
variable {X:Cx} {pins:List (Addr × Obj)} {σ:St} {H:Hp} {s:Shared}
theorem Inv.other {h':Heap} {L:Addr} {n:Nat} (I:Inv X pins σ H s) (hb:X.s₀.heap.objs.size≤L) (h0:H L=none) (h1:L ≠ X.env.locals) (h2:∀ x c,X.env.cells.lookup x=some c→c ≠ L) (h3:∀ p ∈ X.pn++pins,p.1 ≠ L)
  (k:Heap.SameBut L s.heap h'):Inv X pins σ H { s with heap:=h' }:=
 I.turned (t':=s.toks) (fun b o hb e=>(k.2 b hb).trans e) h0 h1 (.inr hb) h2 h3
theorem lc_ok {scope:Scope} {own:List Str} {fv:List Nat} {fp:List Addr} (I:Inv X pins σ H s) (S:LcScope X scope own fv) (hf:∀ b ∈ fp,FpOk X pins H b) (hsz:∀ b ∈ fp,b<s.heap.objs.size) :
  (lcCx X scope own fv ⟨s.heap.objs.size,closL X.env scope.names [],fp,s,H⟩).Ok:=by
 have hfr:∀ x,(x,NameKind.free) ∈ scope.names→∃ c,X.env.cells.lookup x=some c:=fun x hx=>I.ok.has x (S.free _ hx rfl)
 have sub:=closL_sub (env:=X.env) (names:=scope.names) (acc:=[]) hfr (fun x c z=>by simp at z)
 refine ⟨I.ok.mod,S.kind,I.ok.glob,I.ok.blt,Nat.le_refl _,fun x y c h1 h2=>I.ok.inj x y c (sub _ _ h1) (sub _ _ h2),fun x hx=>?_,fun x c hx=>?_,I.ok.hd,I.ok.frames,.inl rfl,fun b hb=>⟨?_,fun x c e=>?_⟩,I.bs,Nat.le_trans I.ok.bsz I.sz,fun b o e hb=>?_,fun b hb hb'=>?_,I.stack,I.stkFree⟩
 ·refine closL_has (.inl ?_)
  have hx':(relabel scope X.env).names.lookup x=some .cell∨(relabel scope X.env).names.lookup x=some .free:=hx
  unfold relabel at hx'
  rw [qCA] at hx'
  cases e:scope.names.lookup x with
  | none=>rw [e] at hx';simp at hx'
  | some k=>
   have hm:=PySem.mem_of_lookup e
   have nc:=S.nocell _ hm
   rw [e] at hx'
   simp only [Option.map_some,Option.some.injEq] at hx'
   cases k with
   | free=>exact hm
   | cell=>exact absurd rfl nc
   | _=>simp at hx'
 ·cases hx
 ·exact Nat.ne_of_lt (hsz b hb)
 ·exact (hf b hb).2.2.2.2.1 x c (sub _ _ e)
 ·rcases (hf b hb).2.2.2.1 with z | z
  ·exact I.ok.noex b o e z
  ·exact absurd (Nat.lt_of_lt_of_le (Heap.lt_size (I.ok.bs b o e).1) z) (Nat.lt_irrefl _)
 ·rcases List.mem_cons.mp (I.stkSub b hb') with z | z
  ·exact (hf b hb).2.1 z
  ·exact (hf b hb).2.2.1 z
theorem lc_start {scope:Scope} {own:List Str} {fv:List Nat} {fp:List Addr} {h₁:Heap} {tk:Nat} (I:Inv X pins σ H s) (S:LcScope X scope own fv) (hf:∀ b ∈ fp,FpOk X pins H b) (hsz:∀ b ∈ fp,b<s.heap.objs.size)
  (hns:h₁.Ns s.heap.objs.size (fun _=>none)) (hk:∀ b o,s.heap.get? b=some o→h₁.get? b=some o) :
  Inv (lcCx X scope own fv ⟨s.heap.objs.size,closL X.env scope.names [],fp,s,H⟩) [] (lcStart own fv σ) H { s with heap:=h₁,toks:=tk }:=by
 have hfr:∀ x,(x,NameKind.free) ∈ scope.names→∃ c,X.env.cells.lookup x=some c:=fun x hx=>I.ok.has x (S.free _ hx rfl)
 have sub:=closL_sub (env:=X.env) (names:=scope.names) (acc:=[]) hfr (fun x c z=>by simp at z)
 refine ⟨lc_ok I S hf hsz,rfl,I.bare,Un.kept hk,⟨_,hns,fun i x v h1 h2 h3=>?_⟩,fun x c e=>?_,I.hok.fresh (Nat.le_refl _),fun x c e=>I.freeC x c (sub _ _ e),fun p hp=>absurd (show p ∈ ([]:List (Addr × Obj)) from hp) (by simp),I.hok.kept hk,?_⟩
 ·have h1:(own++fv.map fun i=>X.N.getD i Str.empty)[i]?=some x:=h1
  unfold lcStart at h2
  have hi:own.length≤i:=by
   apply Nat.le_of_not_lt
   intro hi
   rw [List.getElem?_append_left (by simpa using hi),List.getElem?_map] at h2
   cases e:own[i]? with
   | none=>rw [e] at h2;cases h2
   | some z=>rw [e] at h2;cases h2
  rw [List.getElem?_append_right (by simpa using hi),List.length_map,List.getElem?_map] at h2
  rw [List.getElem?_append_right hi,List.getElem?_map] at h1
  cases e:fv[i - own.length]? with
  | none=>rw [e] at h1;cases h1
  | some j=>
   rw [e] at h1 h2
   have hj:=S.fvs j (List.mem_of_getElem? e)
   have h1:X.N.getD j Str.empty=x:=Option.some.inj h1
   have h2:(σ[j]?).join=some v:=Option.some.inj h2
   have h2':σ[j]?=some (some v):=by
    cases q:σ[j]? with
    | none=>rw [q] at h2;cases h2
    | some y=>rw [q] at h2;exact congrArg some h2
   have hx:X.N[j]?=some x:=by
    rw [List.getD_eq_getElem?_getD] at h1
    rw [List.getElem?_eq_getElem hj.1] at h1 ⊢
    exact congrArg some h1
   have hlk:scope.names.lookup x=some .free:=h1 ▸ hj.2
   have hmem:=PySem.mem_of_lookup hlk
   obtain ⟨m,hn,hl⟩:=id I.loc
   have hkd:=S.free _ hmem rfl
   obtain ⟨u,ru,lk⟩:=hl j x v hx h2' (by
    rcases hkd with z | z
    ·exact .inr (.inl z)
    ·exact .inr (.inr z))
   refine ⟨u,ru,?_⟩
   rcases lk with ⟨z,_⟩ | ⟨_,c,e1,z⟩
   ·rcases hkd with y | y
    ·have y':X.env.kindOf x=some .cell:=y
     rw [z] at y';cases y'
    ·have y':X.env.kindOf x=some .free:=y
     rw [z] at y';cases y'
   ·obtain ⟨c',e2⟩:=closL_has (env:=X.env) (names:=scope.names) (acc:=[]) (x:=x) (.inl hmem)
    have e3:=sub _ _ e2
    rw [e1] at e3
    cases e3
    obtain ⟨o,ho,hd⟩:=z
    refine .inr ⟨?_,c,e2,o,hk _ _ ho,hd⟩
    show (relabel scope X.env).names.lookup x=some .cell∨(relabel scope X.env).names.lookup x=some .free
    unfold relabel
    rw [qCA,hlk,Option.map_some]
    split
    ·exact .inl rfl
    ·exact .inr rfl
 ·obtain ⟨v,o,ho,hd⟩:=I.cell x c (sub _ _ e)
  exact ⟨v,o,hk _ _ ho,hd⟩
 ·unfold lcStart
  show _=(own++fv.map fun i=>X.N.getD i Str.empty).length
  rw [List.length_append,List.length_append,List.length_map,List.length_map,List.length_map]
theorem lc_back {scope:Scope} {own:List Str} {fv:List Nat} {fp:List Addr} {pins':List (Addr × Obj)} {σ':St} {H':Hp} {s':Shared} {cl:List (Str × Addr)} (I:Inv X pins σ H s) (hf:∀ b ∈ fp,FpOk X pins H b)
  (J:Inv (lcCx X scope own fv ⟨s.heap.objs.size,cl,fp,s,H⟩) pins' σ' H' s'):Inv X pins σ H' s':=
 I.call' (ch:=fp) J.os J.base J.hok J.bare fun b hb=>⟨(hf b hb).2.2.2.1,(hf b hb).2.1,(hf b hb).2.2.2.2.1,(hf b hb).2.2.2.2.2⟩
end
def PTs (X:Cx) (ifs:List Expr) (t:TT):Prop:=
 ∀ (pins:List (Addr × Obj)) (s:Shared) (σ:St) (H:Hp) (Q:Bool→Hp→Prop),Inv X pins σ H s→t σ H Q→
  wpAny (model X.prog X.w) X.A (forIn ifs true fun c r=>if r=true then do let ok ← isTrue c X.env (eval c X.env);pure (ForInStep.yield ok) else pure (ForInStep.yield r)) (TP X pins σ Q) X.xe s
def tTrue:TT:=fun _ H Q=>Q true H
theorem qAY {X:Cx}:PTs X [] tTrue:=fun pins s σ H Q I h=>wpAny_tests_nil ⟨H,I,h⟩
theorem qDB {X:Cx} {c:Expr} {t:TT} (h:PT X c t):PTs X [c] t:=fun pins s σ H Q I hq=>wpAny_tests_one (h pins s σ H Q I hq)
def lcRun (own:List Str) (fv:List Nat) (wi:TI) (g:TG) (tc:TT) (te:TE) (K:Addr→Hp→Prop):St→Hp→Prop:=fun σ H=>wi σ H fun J H1=>∀ p,H1 p=none→
 ∃ W:Nat→Nat→St→Hp→Prop,(∃ m,W 0 m (lcStart own fv σ) (upd H1 p (.lst [])))∧∀ i m σ H,W i m σ H→
  (J.stop i H∧K p H)∨(J.go i H∧∃ N:St→Hp→Prop,(∀ σ' H',N σ' H'→∃ m',m'<m∧W (i+1) m' σ' H')∧∀ x H',J.yld i H x H'→g x σ H' fun σ2 H2=>tc σ2 H2 fun b H3=>
   if b=true then te σ2 H3 fun y H4=>∃ ys,H4 p=some (.lst ys)∧ys.length<sizeLine∧N σ2 (upd H4 p (.lst (ys++[y])))
   else N σ2 H3)
def tLc (own:List Str) (fv:List Nat) (wi:TI) (g:TG) (tc:TT) (te:TE):TE:=fun σ H Q=>lcRun own fv wi g tc te (fun p H'=>Q (.ref p) H') σ H
section
variable {X:Cx} {tg iter elt:Expr} {ifs:List Expr} {scope:Scope} {pos:Pos} {own:List Str} {fv:List Nat} {wi:TI} {g:TG} {tc:TT} {te:TE}
theorem lc_core {pins:List (Addr × Obj)} {s:Shared} {σ:St} {H:Hp} {K:Addr→Hp→Prop} {use:Option (Value→Sem Unit)} {Q:Value→Shared→Prop} {E:Value→Shared→Prop} (hc:X.calm=true) (S:LcScope X scope own fv) (hi:PI X tg iter wi)
  (hg:∀ z,PG (lcCx X scope own fv z) tg g) (ht:∀ z,PTs (lcCx X scope own fv z) ifs tc) (he:∀ z,PE (lcCx X scope own fv z) elt te)
  (I:Inv X pins σ H s) (h:lcRun own fv wi g tc te K σ H) (hxe:∀ e s,X.xe e s→E e s)
  (fin:∀ (p:Addr) (L:Addr) (H':Hp) (s':Shared) (m:Str→Option Value),Inv X pins σ H' s'→K p H'→s'.heap.Ns L m→X.s₀.heap.objs.size≤L→H' L=none→L ≠ X.env.locals→(∀ x c,X.env.cells.lookup x=some c→c ≠ L)→(∀ q ∈ X.pn++pins,q.1 ≠ L)→
   compPost (model X.prog X.w) X.A E use Q (.ref p) L (.ok .next) s') (hs:∀ x,foldedSetIterable iter X.env x=pure x:=by intro _;rfl) :
  wpAny (model X.prog X.w) X.A (comprehension (.ListComp elt [⟨tg,iter,ifs,0⟩] scope pos) scope X.env (firstIterPos [⟨tg,iter,ifs,0⟩] pos) (newList []) false (eval iter X.env) use) Q E s:=by
 have hfr:∀ x,(x,NameKind.free) ∈ scope.names→∃ c,X.env.cells.lookup x=some c:=fun x hx=>I.ok.has x (S.free _ hx rfl)
 refine wpAny_comprehension_free rfl hs (closure_ok hfr) S.kind S.names (wpAny_mono (hi pins s σ H _ I h) (fun v s1 h1=>wpAny_mono h1 (fun itv s2 h2=>?_) hxe) hxe)
 obtain ⟨it,fp,tn,J,H2,e,I2,T,st2,f2,q2⟩:=h2
 subst e
 -- the list
 refine wpAny_newObj_type ?_
 have fresh2:H2 s2.heap.objs.size=none:=I2.hok.fresh (Nat.le_refl _)
 have I3:Inv X pins σ (upd H2 s2.heap.objs.size (.lst [])) { s2 with heap:=s2.heap.push { cls:=.type "list",dict:=none,data:=.seq ([]:List Value).toArray } }:=
  I2.laid (t':=s2.toks) (fun b u e=>Heap.get?_push_of_some _ e) (Nat.le_refl _) ⟨Nat.zero_le _,[],0,.nil,Heap.get?_push_size _ rfl⟩
 obtain ⟨W,⟨m0,w0⟩,turn⟩:=q2 s2.heap.objs.size fresh2
 have lt2:∀ b ∈ fp,b<s2.heap.objs.size:=fun b hb=>by
  obtain ⟨o,e,_⟩:=T.obj 0 _ st2 b hb
  exact Heap.lt_size e
 have f3:∀ b ∈ fp,FpOk X pins (upd H2 s2.heap.objs.size (.lst [])) b:=fun b hb=>⟨by rw [qA9 (Nat.ne_of_lt (lt2 b hb))];exact (f2 b hb).1,(f2 b hb).2⟩
 generalize hp:s2.heap.objs.size=p at *
 generalize hH3:upd H2 p (.lst [])=H3 at *
 have st3:tn 0 (s2.heap.push { cls:=.type "list",dict:=none,data:=.seq ([]:List Value).toArray }):=T.keep _ _ _ st2 fun b _ o e=>Heap.get?_push_of_some _ e
 have lt3:∀ b ∈ fp,b<(s2.heap.push { cls:=.type "list",dict:=none,data:=.seq ([]:List Value).toArray }).objs.size:=fun b hb=>by
  rw [Heap.size_push]
  have:=lt2 b hb
  rw [hp]
  exact Nat.lt_succ_of_lt this
 generalize hs3:({ s2 with heap:=s2.heap.push { cls:=.type "list",dict:=none,data:=.seq ([]:List Value).toArray } }:Shared)=s3 at *
 have st3':tn 0 s3.heap:=by rw [← hs3];exact st3
 have lt3':∀ b ∈ fp,b<s3.heap.objs.size:=by rw [← hs3];exact lt3
 -- the block's frame
 refine wpAny_newFunctionEnv S.nocell (by intro y hy;simp at hy) (fun h₁ hns₁ hsb₁=>?_) S.kind
 have keep1:∀ b o,s3.heap.get? b=some o→h₁.get? b=some o:=fun b o e=>hsb₁.extBut b o (Nat.ne_of_lt (Heap.lt_size e)) (Heap.get?_push_of_some _ e)
 have J0:Inv (lcCx X scope own fv ⟨s3.heap.objs.size,closL X.env scope.names [],fp,s3,H3⟩) [] (lcStart own fv σ) H3 { s3 with heap:=h₁,toks:=s3.toks+([]:List (Str × Value)).length }:=lc_start I3 S f3 lt3' hns₁ keep1
 have cOk:=lc_ok I3 S f3 lt3'
 generalize hz:(⟨s3.heap.objs.size,closL X.env scope.names [],fp,s3,H3⟩:LcZ)=z at *
 have st4:tn 0 h₁:=T.keep _ _ _ st3' fun b _ o e=>keep1 b o e
 have fr4:∀ b ∈ fp,H3 b=none:=fun b hb=>(f3 b hb).1
 have stat:∀ {H':Hp},(∀ b ∈ fp,H' b=none)→∀ b ∈ fp,FpOk (lcCx X scope own fv z) [] H' b:=fun hn b hb=>by
  subst hz
  refine ⟨hn b hb,(cOk.exf b hb).1,cOk.exfs b hb,.inl hb,(cOk.exf b hb).2,fun q hq=>absurd (show q ∈ ([]:List (Addr × Obj)) from hq) (by simp)⟩
 have envE:({ newEnv scope s3.heap.objs.size X.env.globals (closL X.env scope.names []) X.env.qual none .none (some X.env) builtinsNs with scope:=relabel scope X.env }:Env)=(lcCx X scope own fv z).env:=by
  subst hz
  rfl
 have loop:∀ sA:Shared,sA={ s3 with heap:=h₁,toks:=s3.toks+([]:List (Str × Value)).length }→codeAny (model X.prog X.w) X.A (.compLoop (.ListComp elt [⟨tg,iter,ifs,0⟩] scope pos) 0 (.ref it) (.ref p) (lcCx X scope own fv z).env)
   (compPost (model X.prog X.w) X.A E use Q (.ref p) s3.heap.objs.size) sA:=by
  rintro sA rfl
  refine compLoop_any (fun n s'=>∃ i σ' H',Inv (lcCx X scope own fv z) [] σ' H' s'∧tn i s'.heap∧(∀ b ∈ fp,H' b=none)∧W i n σ' H') ?_ m0 ⟨0,_,H3,J0,st4,fr4,w0⟩
  rintro n s4 ⟨i,σ4,H4,I4,st4,fr4,w4⟩
  rcases turn i n σ4 H4 w4 with ⟨stop,qn⟩ | ⟨go,Nx,hNx,step⟩
  ·refine thn (T.done (lcCx X scope own fv z) rfl rfl rfl hc i [] s4 σ4 H4 noX I4 (stat fr4) st4 stop) fun r s5 ⟨hr,I5⟩=>?_
   subst hr
   subst hz
   have I6:Inv X pins σ H4 s5:=lc_back I3 f3 I5
   obtain ⟨m,hn,_⟩:=id I5.loc
   have fpL:=I3.fpOk (H':=H4) (b:=s3.heap.objs.size) (Nat.le_refl _) I5.free
   refine fin p s3.heap.objs.size H4 s5 m I6 qn hn I3.sz fpL.1 fpL.2.1 fpL.2.2.2.2.1 fpL.2.2.2.2.2
  ·refine thn (T.item (lcCx X scope own fv z) rfl rfl rfl hc i [] s4 σ4 H4 noX I4 (stat fr4) st4 go) fun r s5 ⟨u,hr,h5⟩=>?_
   subst hr
   refine thn h5 fun _ s6 ⟨x,H6,I6,r6,y6,st6,fr6⟩=>?_
   have I6':=I6.pinned (stat fr6) (T.obj _ _ st6)
   have again:∀ {σ7:St} {H7:Hp} {s7:Shared} {m':Nat},m'<n→Inv (lcCx X scope own fv z) ([]++pinsAt fp s6.heap) σ7 H7 s7→W (i+1) m' σ7 H7→
     ∃ m,m<n∧∃ i σ' H',Inv (lcCx X scope own fv z) [] σ' H' s7∧tn i s7.heap∧(∀ b ∈ fp,H' b=none)∧W i m σ' H':=fun {σ7 H7 s7 m'} hm I7 w7=>by
    refine ⟨m',hm,i+1,σ7,H7,I7.unpinned,T.keep _ _ _ st6 fun b hb o e=>(I7.pin (b,o) (List.mem_append_right _ (List.mem_append_right _ (qDA hb e)))).1,fun b hb=>?_,w7⟩
    obtain ⟨o,e,d⟩:=T.obj _ _ st6 b hb
    exact (I7.pin (b,o) (List.mem_append_right _ (List.mem_append_right _ (qDA hb e)))).2.1
   refine thn (hg z _ s6 σ4 H6 x u _ I6' r6 (step x H6 y6)) fun _ s7 ⟨σ7,H7,I7,q7⟩=>?_
   refine thn (ht z _ s7 σ7 H7 _ I7 q7) fun b s8 ⟨H8,I8,q8⟩=>?_
   cases b with
   | false=>
    obtain ⟨m',hm,w8⟩:=hNx _ _ q8
    exact again hm I8 w8
   | true=>
    refine thn (he z _ s8 σ7 H8 _ I8 q8) fun v s9 ⟨y,H9,I9,r9,ys,ep,hl,w9⟩=>?_
    refine thn (qB6 (X:=lcCx X scope own fv z) _ s9 σ7 H9 (.ref p) [y] (.ref p) [v] (fun _ H'=>Nx σ7 H') I9 rfl (.cons r9 .nil) ⟨p,ys,y,rfl,rfl,ep,hl,w9⟩) fun _ s10 ⟨_,H10,I10,_,q10⟩=>?_
    obtain ⟨m',hm,w10⟩:=hNx _ _ q10
    exact again hm I10 w10
 rw [envE]
 exact codeAny_compStart_list (loop _ rfl) (T.self _ _ _ _ _ st4 (loop _ rfl))
theorem pe_lc (hc:X.calm=true) (S:LcScope X scope own fv) (hi:PI X tg iter wi) (hg:∀ z,PG (lcCx X scope own fv z) tg g) (ht:∀ z,PTs (lcCx X scope own fv z) ifs tc) (he:∀ z,PE (lcCx X scope own fv z) elt te)
  (hs:∀ x,foldedSetIterable iter X.env x=pure x:=by intro _;rfl):PE X (.ListComp elt [⟨tg,iter,ifs,0⟩] scope pos) (tLc own fv wi g tc te):=by
 intro pins s σ H Q I h
 rw [eval_ListComp]
 refine lc_core (use:=none) (K:=fun p H'=>Q (.ref p) H') hc S hi hg ht he I h (fun _ _ q=>q) (fun p L H' s' m I' q hn h1 h2 h3 h4 h5=>?_) hs
 exact ⟨m,hn,fun h' hs'=>⟨.ref p,H',I'.other (n:=0) h1 h2 h3 h4 h5 hs',rfl,q⟩⟩
theorem ps_lc {i:Nat} {x:Str} {pos' spos:Pos} (hN:X.N.Nodup) (hx:X.N[i]?=some x) (hl:X.env.scope.names.lookup x=some .local) (hc:X.calm=true) (S:LcScope X scope own fv) (hi:PI X tg iter wi) (hg:∀ z,PG (lcCx X scope own fv z) tg g)
  (ht:∀ z,PTs (lcCx X scope own fv z) ifs tc) (he:∀ z,PE (lcCx X scope own fv z) elt te) (hsw:swapsWith (.ListComp elt [⟨tg,iter,ifs,0⟩] scope pos) (some (.Name x pos')) spos.line X.env=pure true)
  (hs:∀ x,foldedSetIterable iter X.env x=pure x:=by intro _;rfl):PS X (.Assign [.Name x pos'] (.ListComp elt [⟨tg,iter,ifs,0⟩] scope pos) spos) (tAsg (tLc own fv wi g tc te) (gName i)):=by
 intro pins s σ H D I h
 rw [exec_Assign_Name_used _ _ _ _ hsw]
 refine wpAny_bind (wpAny_standAt (wpAny_bind ?_))
 show wpAny _ X.A (do let _ ← comprehension (.ListComp elt [⟨tg,iter,ifs,0⟩] scope pos) scope X.env _ (newList []) false (eval iter X.env) (some (assign (.Name x pos') X.env))) _ _ s
 refine wpAny_bind (wpAny_mono (lc_core (use:=some (assign (.Name x pos') X.env)) (K:=fun p H'=>D.nx (σ.set i (some (.ref p))) H') (Q:=fun _ s'=>SP X pins D .next s') (E:=X.xe) hc S hi hg ht he I h (fun _ _ q=>q) (fun p L H' s' m I' q hn h1 h2 h3 h4 h5=>?_) hs)
  (fun _ s' hq=>wpAny_pure (wpAny_pure hq)) fun _ _ e=>e)
 show wpAny _ X.A (assign (.Name x pos') X.env (.ref p)) _ _ _
 refine wpAny_assign_Name (store_ok2 (v:=.ref p) I' hN hx (.inl hl) rfl (fun s2 I2 ⟨a,hsb,ha⟩=>?_) (.inr hl))
 have hLa:L ≠ a:=by
  rcases ha with z | z
  ·rw [z];exact h3
  ·exact fun y=>h4 x a z y.symm
 exact ⟨m,hn.sameBut hsb hLa,fun h' hs'=>⟨_,H',I2.other (n:=0) h1 h2 h3 h4 h5 hs',q⟩⟩
end
abbrev LcG (I:It) (g:TG) (tc:TT) (te:TE) (Kf:Hp→Prop) (σ0:St) (H0:Hp) (p:Addr):Prop:=∃ W:Nat→Nat→St→Hp→Prop,(∃ m,W 0 m σ0 H0)∧∀ i m σ H,W i m σ H→(I.stop i H∧Kf H)∨(I.go i H∧∃ N:St→Hp→Prop,(∀ σ' H',N σ' H'→∃ m',m'<m∧W (i+1) m' σ' H')∧∀ x H',I.yld i H x H'→g x σ H' fun σ2 H2=>tc σ2 H2 fun b H3=>if b=true then te σ2 H3 fun y H4=>∃ ys,H4 p=some (.lst ys)∧ys.length<sizeLine∧N σ2 (upd H4 p (.lst (ys++[y]))) else N σ2 H3)
theorem qBM {lo:Int} {n:Nat} {g:TG} {tc:TT} {te:TE} {Kf:Hp→Prop} {σ0:St} {H0:Hp} {p:Addr} (Pv:Nat→St→Hp→Prop) (h0:Pv 0 σ0 H0)
  (hs:∀ i σ H,i<n→Pv i σ H→g (.int (lo+i)) σ H fun σ2 H2=>tc σ2 H2 fun b H3=>if b=true then te σ2 H3 fun y H4=>∃ ys,H4 p=some (.lst ys)∧ys.length<sizeLine∧Pv (i+1) σ2 (upd H4 p (.lst (ys++[y]))) else Pv (i+1) σ2 H3)
  (hd:∀ σ H,Pv n σ H→Kf H) :
  LcG (Itr lo n) g tc te Kf σ0 H0 p:=by
 refine ⟨fun i m σ H=>m=n - i∧i≤n∧Pv i σ H,⟨n,by simp,Nat.zero_le _,h0⟩,?_⟩
 rintro i m σ H ⟨rfl,hi,q⟩
 by_cases hlt:i<n
 ·refine .inr ⟨hlt,Pv (i+1),fun σ' H' p'=>⟨n - (i+1),by omega,rfl,hlt,p'⟩,fun x H' y=>?_⟩
  obtain ⟨e,y⟩:=y
  subst e y
  exact hs i σ _ hlt q
 ·have e:i=n:=by omega
  subst e
  exact .inl ⟨Nat.le_refl _,hd σ H q⟩
theorem qCB {K:PySem.W.Frag} {a:Addr} {xs:List V} {g:TG} {tc:TT} {te:TE} {Kf:Hp→Prop} {σ0:St} {H0:Hp} {p:Addr} (Pv:Nat→St→Hp→Prop) (h0:Pv 0 σ0 H0) (hl:∀ i σ H,i≤xs.length→Pv i σ H→SqL K H a xs)
  (hs:∀ i x σ H,xs[i]?=some x→Pv i σ H→g x σ H fun σ2 H2=>tc σ2 H2 fun b H3=>if b=true then te σ2 H3 fun y H4=>∃ ys,H4 p=some (.lst ys)∧ys.length<sizeLine∧Pv (i+1) σ2 (upd H4 p (.lst (ys++[y]))) else Pv (i+1) σ2 H3)
  (hd:∀ σ H,Pv xs.length σ H→Kf H) :
  LcG (Itl K a) g tc te Kf σ0 H0 p:=by
 refine ⟨fun i m σ H=>m=xs.length - i∧i≤xs.length∧Pv i σ H,⟨xs.length,by simp,Nat.zero_le _,h0⟩,?_⟩
 rintro i m σ H ⟨rfl,hi,q⟩
 have hq:=hl i σ H hi q
 by_cases hlt:i<xs.length
 ·refine .inr ⟨⟨xs,xs[i],hq,by simp [hlt]⟩,Pv (i+1),fun σ' H' p'=>⟨xs.length - (i+1),by omega,rfl,hlt,p'⟩,fun x H' y=>?_⟩
  obtain ⟨e,y⟩:=y
  subst e
  exact hs i x σ _ (y xs hq) q
 ·have e:i=xs.length:=by omega
  subst e
  exact .inl ⟨⟨xs,hq,Nat.le_refl _⟩,hd σ H q⟩
theorem lc_tup {K:PySem.W.Frag} {a:Addr} {xs:List V} {g:TG} {tc:TT} {te:TE} {Kf:Hp→Prop} {σ0:St} {H0:Hp} {p:Addr} (Pv:Nat→St→Hp→Prop) (h0:Pv 0 σ0 H0) (hl:∀ i σ H,i≤xs.length→Pv i σ H→SqT K H a xs)
  (hs:∀ i x σ H,xs[i]?=some x→Pv i σ H→g x σ H fun σ2 H2=>tc σ2 H2 fun b H3=>if b=true then te σ2 H3 fun y H4=>∃ ys,H4 p=some (.lst ys)∧ys.length<sizeLine∧Pv (i+1) σ2 (upd H4 p (.lst (ys++[y]))) else Pv (i+1) σ2 H3)
  (hd:∀ σ H,Pv xs.length σ H→Kf H) :
  LcG (Itt K a) g tc te Kf σ0 H0 p:=by
 refine ⟨fun i m σ H=>m=xs.length - i∧i≤xs.length∧Pv i σ H,⟨xs.length,by simp,Nat.zero_le _,h0⟩,?_⟩
 rintro i m σ H ⟨rfl,hi,q⟩
 have hq:=hl i σ H hi q
 by_cases hlt:i<xs.length
 ·refine .inr ⟨⟨xs,xs[i],hq,by simp [hlt]⟩,Pv (i+1),fun σ' H' p'=>⟨xs.length - (i+1),by omega,rfl,hlt,p'⟩,fun x H' y=>?_⟩
  obtain ⟨e,y⟩:=y
  subst e
  exact hs i x σ _ (y xs hq) q
 ·have e:i=xs.length:=by omega
  subst e
  exact .inl ⟨⟨xs,hq,Nat.le_refl _⟩,hd σ H q⟩
noncomputable def lcCheck (scope:Scope) (own:List Str) (fv:List Nat) (osc:Scope) (N:List Str):Bool:=
 decide (scope.kind=.function) && scope.names.all (fun y=>decide (y.2 ≠ .cell)) && scope.names.all (fun y=>decide (y.2 ≠ .local) || decide (scope.names.lookup y.1=some .local)) &&
 scope.names.all (fun y=>decide (y.2 ≠ .free) || (decide (osc.names.lookup y.1=some .cell) || decide (osc.names.lookup y.1=some .free))) && decide ((own++fv.map fun i=>N.getD i Str.empty).Nodup) &&
 fv.all fun i=>decide (i<N.length) && decide (scope.names.lookup (N.getD i Str.empty)=some .free)
theorem lcs {X:Cx} {scope:Scope} {own:List Str} {fv:List Nat} (h:lcCheck scope own fv X.env.scope X.N=true):LcScope X scope own fv:=by
 unfold lcCheck at h
 simp only [Bool.and_eq_true,decide_eq_true_eq,List.all_eq_true,Bool.or_eq_true] at h
 obtain ⟨⟨⟨⟨⟨h1,h2⟩,h3⟩,h4⟩,h5⟩,h6⟩:=h
 exact ⟨h1,h2,fun y hy e=>(h3 y hy).resolve_left fun z=>z e,fun y hy e=>(h4 y hy).resolve_left fun z=>z e,h5,h6⟩
theorem nd_of {N:List Str} (h:decide N.Nodup=true):N.Nodup:=of_decide_eq_true h
theorem pg_tupK {X:Cx} {K:PySem.W.Frag} {es:List Expr} {k n:Nat} {t:TGs} {pos:Pos} (hK:X.K=K) (hc:X.calm=true) (h:PGs X es t) (hn:(assignEach es X.env).length=n) (hst:(assignEach es X.env).findIdx? (·.1)=none):PG X (.Tuple es k pos) (gTup K n t):=by
 subst hK hn
 exact pg_tup hc h rfl hst
theorem pi_tupK {X:Cx} {K:PySem.W.Frag} {tg l:Expr} {tl:TE} (hK:X.K=K) (hl:PE X l tl):PI X tg l (iTup K tl):=by subst hK;exact pi_tup hl
theorem ix_tupK {X:Cx} {K:PySem.W.Frag} (hK:X.K=K):IxR X (rIxT K):=by subst hK;exact qAR
theorem ix_listK {X:Cx} {K:PySem.W.Frag} (hK:X.K=K):IxR X (rIxL K):=by subst hK;exact qCC
theorem op_inK {X:Cx} {K:PySem.W.Frag} (hK:X.K=K):OpR X (compareOp .In) (rIn K false):=by subst hK;exact op_in_seq
theorem op_notInK {X:Cx} {K:PySem.W.Frag} (hK:X.K=K):OpR X (compareOp .NotIn) (rIn K true):=by subst hK;exact op_notIn_seq
theorem call_tupleK {X:Cx} {K:PySem.W.Frag} (hK:X.K=K):CallR X (.type "tuple") (fun xs H Q=>∃ p ys,xs=[.ref p]∧((SqL K H p ys∧∀ l,H l=none→Q (.ref l) (upd H l (.tup ys)))∨(SqT K H p ys∧Q (.ref p) H))):=by subst hK;exact qAL
end L2
namespace L2
open PySem PySem.Spec PyProof.Rows
theorem below_go {xs:Array Nat} {j:Nat} (up:∀ a b,a<b→b<xs.size→xs.getD a j<xs.getD b j):∀ (fuel lo hi:Nat),lo≤hi→hi≤xs.size→hi - lo≤fuel→(∀ i,i<lo→xs.getD i j<j)→(∀ i,hi≤i→i<xs.size→j≤xs.getD i j)→
  SetTable.below.go xs j fuel lo hi≤xs.size∧(∀ i,i<SetTable.below.go xs j fuel lo hi→xs.getD i j<j)∧(∀ i,SetTable.below.go xs j fuel lo hi≤i→i<xs.size→j≤xs.getD i j)
 | 0,lo,hi,h1,h2,h3,a,b=>by
  have e:lo=hi:=by lia
  subst e
  exact ⟨h2,a,b⟩
 | fuel+1,lo,hi,h1,h2,h3,a,b=>by
  unfold SetTable.below.go
  by_cases hlt:lo<hi
  ·rw [if_pos hlt]
   dsimp only
   have hm1:lo≤(lo+hi) / 2:=by lia
   have hm2:(lo+hi) / 2<hi:=by lia
   by_cases hc:xs.getD ((lo+hi) / 2) j<j
   ·rw [if_pos hc]
    refine below_go up fuel _ _ (by lia) h2 (by lia) (fun i hi'=>?_) b
    by_cases e:i=(lo+hi) / 2
    ·rw [e];exact hc
    ·exact Nat.lt_trans (up i ((lo+hi) / 2) (by lia) (by lia)) hc
   ·rw [if_neg hc]
    refine below_go up fuel _ _ (by lia) (by lia) (by lia) a (fun i hi' hs=>?_)
    by_cases e:i=(lo+hi) / 2
    ·rw [e];lia
    ·have:=up ((lo+hi) / 2) i (by lia) hs
     lia
  ·rw [if_neg hlt]
   have e:lo=hi:=by lia
   subst e
   exact ⟨h2,a,b⟩
theorem up_of {xs:Array Nat} (j:Nat) (h:xs.toList.Pairwise (·<·)):∀ a b,a<b→b<xs.size→xs.getD a j<xs.getD b j:=fun a b hab hb=>by
 have:=List.pairwise_iff_getElem.mp h a b (by simpa using Nat.lt_trans hab hb) (by simpa using hb) hab
 rw [Array.getD_eq_getD_getElem?,Array.getD_eq_getD_getElem?,Array.getElem?_eq_getElem (Nat.lt_trans hab hb),Array.getElem?_eq_getElem hb]
 simpa using this
theorem below_spec {xs:Array Nat} {j:Nat} (h:xs.toList.Pairwise (·<·)):SetTable.below xs j≤xs.size∧(∀ i,i<SetTable.below xs j→xs.getD i j<j)∧(∀ i,SetTable.below xs j≤i→i<xs.size→j≤xs.getD i j):=by
 unfold SetTable.below
 exact below_go (up_of j h) xs.size 0 xs.size (Nat.zero_le _) (Nat.le_refl _) (by lia) (fun i hi=>absurd hi (by lia)) (fun i hi hs=>absurd hs (by lia))
theorem qBF {α:Type} (xs:Array α) (p:Nat) (x:α):(SetTable.insertAt xs p x).toList=xs.toList.take p++x::xs.toList.drop p:=by
 unfold SetTable.insertAt
 simp [Array.toList_extract,List.take_of_length_le]
structure T7 (byText:Bool) (t:SetTable) (n:Nat):Prop where
 mask:t.mask=7
 dum:t.dummies=#[]
 plain:t.plain=true
 led:t.led=!byText
 size:t.place.size=n
 up:t.place.toList.Pairwise (·<·)
 le:∀ j ∈ t.place.toList,j≤7
section
variable {byText:Bool} {t:SetTable} {n:Nat}
theorem T7.slot (T:T7 byText t n) (j:Nat):(t.slot j=.empty∧j ∉ t.place.toList)∨(∃ i,t.slot j=.live i∧j ∈ t.place.toList):=by
 unfold SetTable.slot
 dsimp only
 have hd:SetTable.has t.dummies j=false:=by rw [T.dum];rfl
 obtain ⟨b1,b2,b3⟩:=below_spec (j:=j) T.up
 by_cases hc:t.place[SetTable.below t.place j]?=some j
 ·rw [if_pos (by rw [hc];simp)]
  exact .inr ⟨_,rfl,by rw [← Array.mem_def];exact Array.mem_of_getElem? hc⟩
 ·rw [if_neg (by simpa using hc),hd,if_neg (by simp)]
  refine .inl ⟨rfl,fun hm=>?_⟩
  obtain ⟨i,hi,he⟩:=List.mem_iff_getElem.mp hm
  have hi':i<t.place.size:=by simpa using hi
  have he':t.place.getD i j=j:=by
   rw [Array.getD_eq_getD_getElem?,Array.getElem?_eq_getElem hi']
   simpa using he
  have h1:¬ i<SetTable.below t.place j:=fun z=>by have:=b2 i z;lia
  have h2:SetTable.below t.place j=i:=by
   apply Nat.le_antisymm (Nat.le_of_not_lt h1)
   apply Nat.le_of_not_lt
   intro z
   have:=b3 (SetTable.below t.place j) (Nat.le_refl _) (by lia)
   have:=up_of j T.up _ _ z hi'
   lia
  apply hc
  rw [h2,Array.getElem?_eq_getElem hi']
  simpa using he
def pr (i pt:Nat):SetTable.Probe:={ j:=i,more:=0,i:=i,perturb:=pt,dummy:=none }
theorem T7.adv (T:T7 byText t n) (i pt:Nat):t.advance (pr i pt)=pr ((i * 5+1+pt / 32) % 8) (pt / 32):=by
 unfold SetTable.advance pr SetTable.leap SetTable.runEnd
 rw [T.mask]
 dsimp only
 rw [if_neg (by lia),if_neg (by lia),Nat.sub_self]
theorem T7.go1 (T:T7 byText t n) (h:Int) (f i pt:Nat) :
  (SetTable.probe.go t (fun _=>h+1) h (f+1) (pr i pt)=some (.empty i none)∧i ∉ t.place.toList)∨
  (SetTable.probe.go t (fun _=>h+1) h (f+1) (pr i pt)=SetTable.probe.go t (fun _=>h+1) h f (pr ((i * 5+1+pt / 32) % 8) (pt / 32))∧i ∈ t.place.toList):=by
 rcases T.slot i with ⟨e,m⟩ | ⟨k,e,m⟩
 ·left
  refine ⟨?_,m⟩
  unfold SetTable.probe.go
  rw [show (pr i pt).j=i from rfl,e]
  rfl
 ·right
  refine ⟨?_,m⟩
  rw [SetTable.probe.go]
  rw [show (pr i pt).j=i from rfl,e]
  dsimp only
  rw [if_neg (by simp;lia),T.adv]
def F8 (i:Nat):Nat:=(i * 5+1) % 8
def F8n:Nat→Nat→Nat
 | 0,i=>i
 | m+1,i=>F8n m (F8 i)
theorem T7.go0 (T:T7 byText t n) (h:Int) (f:Nat):∀ (m i:Nat),(∃ j,SetTable.probe.go t (fun _=>h+1) h (m+f) (pr i 0)=some (.empty j none)∧j ∉ t.place.toList∧∃ q,q<m∧j=F8n q i)∨(∀ q,q<m→F8n q i ∈ t.place.toList)
 | 0,i=>.inr fun q hq=>absurd hq (by lia)
 | m+1,i=>by
  rcases T.go1 h (m+f) i 0 with ⟨e,z⟩ | ⟨e,z⟩
  ·exact .inl ⟨i,by rw [show m+1+f=m+f+1 by lia];exact e,z,0,by lia,rfl⟩
  ·rw [show m+1+f=m+f+1 by lia,e]
   have e2:(i * 5+1+0 / 32) % 8=F8 i:=by unfold F8;lia
   rw [e2]
   rcases T.go0 h f m (F8 i) with ⟨j,e3,z3,q,hq,e4⟩ | e3
   ·exact .inl ⟨j,e3,z3,q+1,by lia,e4⟩
   ·refine .inr fun q hq=>?_
    cases q with
    | zero=>exact z
    | succ q=>exact e3 q (by lia)
theorem F8_all:∀ i:_root_.Fin 8,∀ j:_root_.Fin 8,∃ q:_root_.Fin 8,F8n q.1 i.1=j.1:=by decide
theorem F8_lt:∀ (q i:Nat),i<8→F8n q i<8
 | 0,i,h=>h
 | q+1,i,h=>F8_lt q (F8 i) (Nat.mod_lt _ (by decide))
theorem T7.goK (T:T7 byText t n) (hn:n≤7) (h:Int) (f:Nat):∀ (k i pt:Nat),i<8→pt<32 ^ k→∃ j,SetTable.probe.go t (fun _=>h+1) h (k+(8+f)) (pr i pt)=some (.empty j none)∧j ∉ t.place.toList∧j≤7
 | 0,i,pt,hi,hp=>by
  have e:pt=0:=by lia
  subst e
  rw [Nat.zero_add]
  rcases T.go0 h f 8 i with ⟨j,e,z,q,hq,e2⟩ | e
  ·exact ⟨j,e,z,by have:=F8_lt q i hi;lia⟩
  ·exfalso
   have sub:[0,1,2,3,4,5,6,7] ⊆ t.place.toList:=fun j hj=>by
    have hj8:j<8:=by
     simp at hj
     lia
    obtain ⟨q,hq⟩:=F8_all ⟨i,hi⟩ ⟨j,hj8⟩
    rw [← show F8n q.1 i=j from hq]
    exact e q.1 q.2
   have:=List.Nodup.length_le_of_subset (by decide:[0,1,2,3,4,5,6,7].Nodup) sub
   have hs:=T.size
   simp at this
   lia
 | k+1,i,pt,hi,hp=>by
  rw [show k+1+(8+f)=k+(8+f)+1 by lia]
  rcases T.go1 h (k+(8+f)) i pt with ⟨e,z⟩ | ⟨e,z⟩
  ·exact ⟨i,e,z,by lia⟩
  ·rw [e]
   refine T.goK hn h f k _ _ (Nat.mod_lt _ (by decide)) ?_
   rw [Nat.pow_succ] at hp
   lia
theorem T7.free (T:T7 byText t n) (hn:n≤7) (h:Int):∃ j,t.freeSlot h=some (j,false)∧j ∉ t.place.toList∧j≤7:=by
 have hb:SetTable.bits h<32 ^ 13:=by
  unfold SetTable.bits
  have h1:0≤h % (2 ^ 64:Int):=Int.emod_nonneg _ (by decide)
  have h2:h % (2 ^ 64:Int)<2 ^ 64:=Int.emod_lt_of_pos _ (by decide)
  have:((2:Int) ^ 64)=18446744073709551616:=by decide
  rw [this] at h1 h2 ⊢
  have h3:(32:Nat) ^ 13=36893488147419103232:=by decide
  lia
 obtain ⟨j,e,z,l⟩:=T.goK hn h 199 13 (SetTable.bits h % 8) (SetTable.bits h) (Nat.mod_lt _ (by decide)) hb
 refine ⟨j,?_,z,l⟩
 have hst:t.probeStart h=pr (SetTable.bits h % 8) (SetTable.bits h):=by
  unfold SetTable.probeStart pr SetTable.runEnd
  rw [T.mask]
  dsimp only
  rw [if_neg (by lia),Nat.sub_self]
 unfold SetTable.freeSlot SetTable.probe
 rw [hst,show 10 * SetTable.turns t.mask=13+(8+199) by rw [T.mask];rfl,e]
 rfl
theorem T7.lay (T:T7 byText t n) (hn:n≤3) {es:Array (Int × Value)} (he:es.size=n) (h:Int) (x:Value) :
  ∃ p t',layNew t es h x=(SetTable.insertAt es p (h,x),t',false,false)∧T7 byText t' (n+1)∧t'.tooFull=false∧p≤es.size:=by
 obtain ⟨j,e,z,l⟩:=T.free (by lia) h
 obtain ⟨b1,b2,b3⟩:=below_spec (j:=j) T.up
 have hd:SetTable.has t.dummies j=false:=by rw [T.dum];rfl
 have tl:(SetTable.insertAt t.place (SetTable.below t.place j) j).toList=t.place.toList.take (SetTable.below t.place j)++j::t.place.toList.drop (SetTable.below t.place j):=qBF _ _ _
 have sz:(SetTable.insertAt t.place (SetTable.below t.place j) j).size=n+1:=by
  rw [← Array.length_toList,tl,List.length_append,List.length_cons,List.length_take,List.length_drop,Array.length_toList,T.size]
  rw [T.size] at b1
  lia
 have T':T7 byText { t with place:=SetTable.insertAt t.place (SetTable.below t.place j) j,dummies:=t.dummies } (n+1):=by
  refine ⟨T.mask,T.dum,T.plain,T.led,sz,?_,?_⟩
  ·show (SetTable.insertAt t.place (SetTable.below t.place j) j).toList.Pairwise (·<·)
   rw [tl]
   have geti:∀ i,i<t.place.size→t.place.getD i j=t.place.toList.getD i j:=fun i hi=>by
    rw [Array.getD_eq_getD_getElem?,List.getD_eq_getElem?_getD,Array.getElem?_toList]
   have lo:∀ a ∈ t.place.toList.take (SetTable.below t.place j),a<j:=fun a ha=>by
    obtain ⟨i,hi,hai⟩:=List.mem_iff_getElem.mp ha
    rw [List.length_take,Array.length_toList] at hi
    have hi1:i<SetTable.below t.place j:=by lia
    have hi2:i<t.place.size:=by lia
    have:=b2 i hi1
    rw [Array.getD_eq_getD_getElem?,Array.getElem?_eq_getElem hi2] at this
    rw [List.getElem_take] at hai
    rw [← hai]
    simpa using this
   have hi:∀ a ∈ t.place.toList.drop (SetTable.below t.place j),j<a:=fun a ha=>by
    have hm:a ∈ t.place.toList:=List.mem_of_mem_drop ha
    obtain ⟨i,hi,hai⟩:=List.mem_iff_getElem.mp ha
    rw [List.length_drop,Array.length_toList] at hi
    have hi2:SetTable.below t.place j+i<t.place.size:=by lia
    have:=b3 _ (Nat.le_add_right _ i) hi2
    rw [Array.getD_eq_getD_getElem?,Array.getElem?_eq_getElem hi2] at this
    rw [List.getElem_drop] at hai
    have h3:j≤a:=by
     rw [← hai]
     simpa using this
    rcases Nat.lt_or_eq_of_le h3 with h4 | h4
    ·exact h4
    ·exact absurd (h4 ▸ hm) z
   refine List.pairwise_append.mpr ⟨T.up.sublist (List.take_sublist _ _),List.pairwise_cons.mpr ⟨hi,T.up.sublist (List.drop_sublist _ _)⟩,fun a ha b hb=>?_⟩
   rcases List.mem_cons.mp hb with e | hb
   ·rw [e];exact lo a ha
   ·exact Nat.lt_trans (lo a ha) (hi b hb)
  ·show ∀ i ∈ (SetTable.insertAt t.place (SetTable.below t.place j) j).toList,i≤7
   rw [tl]
   intro i hi
   rcases List.mem_append.mp hi with hi | hi
   ·exact T.le i (List.mem_of_mem_take hi)
   ·rcases List.mem_cons.mp hi with e | hi
    ·lia
    ·exact T.le i (List.mem_of_mem_drop hi)
 have fits:SetTable.fits { t with place:=SetTable.insertAt t.place (SetTable.below t.place j) j,dummies:=t.dummies } (n+1)=true:=by
  unfold SetTable.fits SetTable.fill
  dsimp only
  rw [sz,T.dum,T.mask]
  have:((#[]:Array Nat)).size=0:=rfl
  simp only [this,beq_self_eq_true,Bool.true_and,decide_eq_true_eq]
  lia
 have szE:(SetTable.insertAt es (SetTable.below t.place j) (h,x)).size=n+1:=by
  rw [← Array.length_toList,qBF,List.length_append,List.length_cons,List.length_take,List.length_drop,Array.length_toList]
  rw [T.size] at b1
  lia
 refine ⟨SetTable.below t.place j,{ t with place:=SetTable.insertAt t.place (SetTable.below t.place j) j,dummies:=t.dummies },?_,T',?_,by rw [he,← T.size];exact b1⟩
 ·unfold layNew
  rw [e]
  dsimp only
  unfold SetTable.put
  rw [hd]
  dsimp only
  rw [szE]
  unfold SetTable.orStandIn
  simp only [Bool.false_eq_true,if_false]
  rw [fits]
  simp
 ·unfold SetTable.tooFull SetTable.fill
  dsimp only
  rw [sz,T.dum,T.mask]
  have:((#[]:Array Nat)).size=0:=rfl
  rw [this]
  exact decide_eq_false (by lia)
end
end L2
namespace L2
open PySem PySem.Spec PyProof.Rows
theorem erase_perm {α:Type}:∀ (l:List α) (i:Nat) (h:i<l.length),(l[i]::l.eraseIdx i).Perm l
 | [],i,h=>absurd h (by simp)
 | a::r,0,h=>.refl _
 | a::r,i+1,h=>by
  have hi:i<r.length:=by simpa using h
  have ih:=erase_perm r i hi
  show (r[i]::a::r.eraseIdx i).Perm (a::r)
  exact (List.Perm.swap _ _ _).trans (ih.cons a)
theorem pick_go {α:Type} (next:Nat→Nat):∀ (fuel k:Nat) (left:List α) (out:Array α),fuel=left.length→(pickOrder.go next fuel k left out).toList.Perm (out.toList++left)
 | 0,k,left,out,h=>by
  have:left=[]:=List.length_eq_zero_iff.mp h.symm
  subst this
  unfold pickOrder.go
  simp
 | fuel+1,k,left,out,h=>by
  have hl:0<left.length:=by lia
  have hm:next k % left.length<left.length:=Nat.mod_lt _ hl
  unfold pickOrder.go
  rw [List.getElem?_eq_getElem hm]
  dsimp only
  refine (pick_go next fuel (k+1) _ _ (by rw [List.length_eraseIdx_of_lt hm];lia)).trans ?_
  rw [Array.toList_push,List.append_assoc]
  exact List.Perm.append_left _ (erase_perm left _ hm)
theorem pick_perm {α:Type} (next:Nat→Nat) (xs:Array α):(pickOrder next xs).toList.Perm xs.toList:=by
 unfold pickOrder
 have:=pick_go next xs.size 0 xs.toList #[] (by simp)
 simpa using this
abbrev Ents:List Int→List (Int × Value)→Prop:=Paired fun k e=>∃ tk,e=(hashInt k,Value.int k tk)
theorem Ents.perm:∀ {es es':List (Int × Value)} {ks:List Int},Ents ks es→es'.Perm es→∃ ks',Ents ks' es'∧ks'.Perm ks:=by
 intro es es' ks h p
 have key:∀ {a b:List (Int × Value)},a.Perm b→∀ ks,Ents ks b→∃ ks',Ents ks' a∧ks'.Perm ks:=by
  intro a b p
  induction p with
  | nil=>intro ks h;exact ⟨ks,h,.refl _⟩
  | cons x p ih=>
   intro ks h
   cases h with
   | cons r t=>
    obtain ⟨ks',h1,h2⟩:=ih _ t
    exact ⟨_::ks',.cons r h1,h2.cons _⟩
  | swap x y l=>
   intro ks h
   cases h with
   | cons r t=>
    cases t with
    | cons r' t'=>exact ⟨_,.cons r' (.cons r t'),.swap _ _ _⟩
  | trans p q ih1 ih2=>
   intro ks h
   obtain ⟨k1,h1,h2⟩:=ih2 ks h
   obtain ⟨k2,h3,h4⟩:=ih1 k1 h1
   exact ⟨k2,h3,h4.trans h2⟩
 exact key p ks h
theorem Ents.elems {prog:Program} {w:World} {es:List (Int × Value)} {ks:List Int} (h:Ents ks es):ElemsOf (intKind prog w) es:=by
 intro e he
 have key:∀ {ks:List Int} {es:List (Int × Value)},Ents ks es→∀ e ∈ es,∃ k tk,e=(hashInt k,Value.int k tk):=by
  intro ks es h
  induction h with
  | nil=>intro e he;cases he
  | cons r t ih=>
   intro e he
   rcases List.mem_cons.mp he with z | z
   ·subst z;obtain ⟨tk,e⟩:=r;exact ⟨_,tk,e⟩
   ·exact ih e z
 obtain ⟨k,tk,rfl⟩:=key h e he
 exact ⟨⟨k,by simp [intKind,Value.isInt],rfl⟩,rfl⟩
theorem Ents.find {prog:Program} {w:World} {k:Int}:∀ {es:List (Int × Value)} {ks:List Int},Ents ks es→((List.findIdx? (fun e=>(intKind prog w).is k e.2) es).isSome=true ↔ k ∈ ks)
 | _,_,.nil=>by simp
 | _,_,.cons r t=>by
  obtain ⟨tk,rfl⟩:=r
  rename_i k' ks' es'
  have ih:=Ents.find (prog:=prog) (w:=w) (k:=k) t
  rw [List.findIdx?_cons,List.mem_cons]
  have hi:(intKind prog w).is k (Value.int k' tk)=decide (k=k'):=by
   by_cases e:k=k'
   ·simp [intKind,Value.isInt,e]
   ·have e':¬ k'=k:=fun z=>e z.symm
    simp [intKind,Value.isInt,e,e']
  dsimp only
  rw [hi]
  by_cases e:k=k'
  ·simp [e]
  ·simp only [e,decide_false,Bool.false_eq_true,if_false,false_or,Option.isSome_map]
   exact ih
noncomputable def byT (w:World):Bool:=w.params.followText "set-order"
def SetI (w:World) (a:Addr) (zs:List Int) (h:Heap):Prop:=
 ∃ (es:Array (Int × Value)) (ep:Nat) (t:SetTable) (ks:List Int),h.get? a=some { cls:=.type "set",data:=.set es ep t }∧T7 (byT w) t es.size∧Ents ks es.toList∧ks.Perm zs∧zs.Nodup∧zs.length≤4
theorem SetI.at {w:World} {a:Addr} {zs:List Int} {h h':Heap} (x:SetI w a zs h) (k:∀ o,h.get? a=some o→h'.get? a=some o):SetI w a zs h':=
 let ⟨es,ep,t,ks,h1,r⟩:=x;⟨es,ep,t,ks,k _ h1,r⟩
theorem T7.fits {b:Bool} {t:SetTable} {n:Nat} (T:T7 b t n) (hn:n≤7):t.fits n=true:=by
 unfold SetTable.fits SetTable.fill
 rw [T.size,T.dum,T.mask]
 have:((#[]:Array Nat)).size=0:=rfl
 simp only [this,beq_self_eq_true,Bool.true_and,decide_eq_true_eq]
 lia
noncomputable def addI (zs:List Int) (k:Int):List Int:=if k ∈ zs then zs else zs++[k]
section
variable {prog:Program} {w:World} {A:Around} {E:Value→Shared→Prop} {s:Shared}
theorem SetI.size {a:Addr} {zs:List Int} {h:Heap} {es:Array (Int × Value)} {ks:List Int} (he:Ents ks es.toList) (hp:ks.Perm zs):es.size=zs.length:=by
 rw [← hp.length_eq,Paired.length he,Array.length_toList]
theorem setAdd_I {a:Addr} {zs:List Int} {k:Int} {tk:Tok} {Q:Bool→Shared→Prop} (hS:SetI w a zs s.heap) (hroom:zs.length≤3∨k ∈ zs)
  (h:∀ h',Heap.SameBut a s.heap h'→SetI w a (addI zs k) h'→∀ b,Q b { s with heap:=h' }):wpAny (model prog w) A (setAddHashed a (.int k tk) (hashInt k)) Q E s:=by
 obtain ⟨es,ep,t,ks,ho,T,he,hp,hnd,hlen⟩:=id hS
 have hsz:es.size=zs.length:=SetI.size (a:=a) (h:=s.heap) he hp
 have hel:ElemsOf (intKind prog w) es.toList:=he.elems
 have hb:es.size<scanBound:=by rw [hsz];unfold scanBound;lia
 have hf:t.fits es.size=true:=T.fits (by lia)
 unfold setAddHashed setAddHashedIn
 refine wpAny_holding (wpAny_bind (wpAny_setState_of ho rfl hf ?_))
 dsimp only
 rw [byScan_of (knd:=intKind prog w) (x:=.int k tk) rfl hb hel]
 simp only [↓reduceIte]
 unfold setAddByScan
 refine wpAny_bind ?_
 refine wpAny_bind (wpAny_rule ?_)
 refine wpAny_bind (wpAny_setScan_of (knd:=intKind prog w) (k:=k) (intKind_is _ _ _ _) ho rfl hf hel ?_)
 have hfd:=Ents.find (prog:=prog) (w:=w) (k:=k) he
 cases hr:List.findIdx? (fun e=>(intKind prog w).is k e.2) es.toList with
 | some j=>
  dsimp only
  rw [hr] at hfd
  have hk:k ∈ zs:=hp.mem_iff.mp (hfd.mp rfl)
  refine wpAny_pure (wpAny_pure ?_)
  have e:s={ s with heap:=s.heap }:=by cases s;rfl
  rw [e]
  refine h s.heap (Heap.SameBut.refl a s.heap) ?_ _
  unfold addI
  rw [if_pos hk]
  exact hS
 | none=>
  dsimp only
  rw [hr] at hfd
  have hk:¬ k ∈ zs:=fun z=>by have:=hfd.mpr (hp.mem_iff.mpr z);cases this
  have h3:zs.length≤3:=hroom.resolve_right hk
  obtain ⟨p,t',e1,T',tf,hpe⟩:=T.lay (by lia) rfl (hashInt k) (.int k tk)
  rw [e1]
  dsimp only
  refine wpAny_bind (wpAny_pure ?_)
  rw [T'.plain]
  simp only [↓reduceIte]
  rw [hashByValue_scannable 8 (x:=.int k tk) rfl]
  refine wpAny_bind (wpAny_pure ?_)
  have hszE:(SetTable.insertAt es p (hashInt k,Value.int k tk)).size=es.size+1:=by
   rw [← Array.length_toList,qBF,List.length_append,List.length_cons,List.length_take,List.length_drop,Array.length_toList]
   lia
  rw [show plainKind (Value.int k tk)=true from rfl]
  simp only [↓reduceIte]
  show wpAny _ _ (storeSet a (SetTable.insertAt es p (hashInt k,.int k tk)) t' >>= _) _ _ _
  refine wpAny_bind (wpAny_storeSet_of ho rfl ?_ (by rw [hszE,hsz,sizeLine_eq];lia))
  rw [tf]
  simp only [Bool.and_false,Bool.false_eq_true,↓reduceIte]
  refine wpAny_pure (wpAny_pure ?_)
  refine h _ (Heap.SameBut.update s.heap a _) ?_ _
  have hg:(s.heap.update a (Obj.putSet (SetTable.insertAt es p (hashInt k,.int k tk)) t')).get? a=some { cls:=.type "set",data:=.set (SetTable.insertAt es p (hashInt k,.int k tk)) (ep+1) t' }:=by
   have:=Heap.get?_update_self (Obj.putSet (SetTable.insertAt es p (hashInt k,.int k tk)) t') ho (by rw [putSet_of _ _ (ep:=ep) (es:=es) (t:=t) rfl];rfl)
   rw [putSet_of _ _ (ep:=ep) (es:=es) (t:=t) rfl] at this
   exact this
  have hpm:(SetTable.insertAt es p (hashInt k,Value.int k tk)).toList.Perm (es.toList++[(hashInt k,.int k tk)]):=by
   rw [qBF]
   have e3:es.toList++[(hashInt k,Value.int k tk)]=es.toList.take p++(es.toList.drop p++[(hashInt k,Value.int k tk)]):=by
    rw [← List.append_assoc,List.take_append_drop]
   rw [e3]
   exact List.Perm.append_left _ (List.perm_append_singleton _ _).symm
  obtain ⟨ks',h4,h5⟩:=Ents.perm (ks:=ks++[k]) (Paired.snoc he ⟨tk,rfl⟩) hpm
  refine ⟨_,_,t',ks',hg,by rw [hszE];exact T',h4,?_,?_,?_⟩
  ·unfold addI
   rw [if_neg hk]
   exact h5.trans (hp.append_right _)
  ·unfold addI
   rw [if_neg hk]
   exact nd_snoc hnd hk
  ·unfold addI
   rw [if_neg hk,List.length_append,List.length_singleton]
   lia
end
noncomputable def dedI:List Int→List Int:=fun l=>l.foldl addI []
theorem addI_len (zs:List Int) (k:Int):(addI zs k).length≤zs.length+1:=by
 unfold addI
 split <;> simp
theorem qBO:∀ (l zs:List Int),(l.foldl addI zs).length≤zs.length+l.length
 | [],zs=>by simp
 | k::r,zs=>by
  have h1:=qBO r (addI zs k)
  have h2:=addI_len zs k
  rw [List.foldl_cons,List.length_cons]
  lia
section
variable {prog:Program} {w:World} {A:Around} {R:Result→Shared→Prop} {I:Addr} {fp wr:List Addr} {G:Array GenState→Array GenState→Prop} {n:Nat} {P:Nat→Value→Prop} {St:Nat→Shared→Prop}
theorem set_update_I (W:WalksS prog w A.in1 I fp wr G n P St) (S:Addr) (hSf:S ∉ fp) (ns:List Int) (hnn:ns.length=n) (h4:n≤4) (hval:∀ i v,P i v→∃ t,v=.int (ns.getD i 0) t) :
  ∀ (k i:Nat) (s:Shared),n - i=k→i≤n→St i s→SetI w S (dedI (ns.take i)) s.heap→
   (∀ s',Moved (S::wr) G s s'→SetI w S (dedI ns) s'.heap→R (.ok (.ret .none)) s')→
   codeAny (model prog w) A (.builtin "set.update.loop" ⟨[.ref S,.ref I],[]⟩) R s:=by
 have hSw:S ∉ wr:=fun h=>hSf (W.sub _ h)
 have hsub:∀ b ∈ wr,b ∈ S::wr:=fun b hb=>List.mem_cons_of_mem _ hb
 intro k
 induction k with
 | zero=>
  intro i s hk hi hst hS hR
  have hin:i=n:=by lia
  subst hin
  refine codeAny_builtin F.entry_set_update_loop ?_
  rw [Around.under_plainId F.plain_set_update_loop _]
  show wpAny _ A.in1 (pyNext (.ref I) >>= _) _ _ s
  refine wpAny_bind (W.done s _ _ hst fun s' hm=>?_)
  show wpAny _ A.in1 (ret Value.none) _ _ s'
  rw [List.take_of_length_le (by lia)] at hS
  exact wpAny_pure (hR s' (hm.mono hsub) (hS.at fun o e=>hm.heap S _ hSw e))
 | succ k ih=>
  intro i s hk hi hst hS hR
  have hlt:i<n:=by lia
  refine codeAny_builtin F.entry_set_update_loop ?_
  rw [Around.under_plainId F.plain_set_update_loop _]
  show wpAny _ A.in1 (pyNext (.ref I) >>= _) _ _ s
  refine wpAny_bind (W.item i s _ _ hlt hst fun v s' hP hst' hm=>?_)
  obtain ⟨t,rfl⟩:=hval i v hP
  have hS':SetI w S (dedI (ns.take i)) s'.heap:=hS.at fun o e=>hm.heap S _ hSw e
  show wpAny _ A.in1 (holding [Value.int (ns.getD i 0) t] (setAdd S (.int (ns.getD i 0) t)) >>= _) _ _ s'
  refine wpAny_bind (wpAny_holding ?_)
  unfold setAdd
  refine wpAny_holding ?_
  refine wpAny_bind ((intKind prog w).pyHash (k:=ns.getD i 0) (intKind_is _ _ _ _) ?_)
  have hroom:(dedI (ns.take i)).length≤3:=by
   have:=qBO (ns.take i) []
   rw [List.length_take] at this
   unfold dedI
   simp at this
   lia
  refine setAdd_I (s:={ s' with toks:=s'.toks+1 }) hS' (.inl hroom) fun h' hsb hS2 b=>?_
  have e2:addI (dedI (ns.take i)) (ns.getD i 0)=dedI (ns.take (i+1)):=by
   have hi':i<ns.length:=by lia
   rw [List.take_add_one,List.getElem?_eq_getElem hi',Option.toList_some]
   unfold dedI
   rw [List.foldl_append,List.foldl_cons,List.foldl_nil,List.getD_eq_getElem?_getD,List.getElem?_eq_getElem hi',Option.getD_some]
  rw [e2] at hS2
  refine wpAny_pure ⟨plainId_quiet F.plain_set_update_loop _,ih (i+1) _ (by lia) hlt (W.frame _ s' _ _ hst' (Nat.le_succ _) fun b hb o e=>?_) hS2 fun s'' hm'' hS''=>?_⟩
  ·rw [hsb.2 b (fun h:b=S=>hSf (by rw [← h];exact hb))];exact e
  ·refine hR s'' (Moved.trans W.gtrans ((hm.mono hsub).then_heap (Nat.le_succ _) fun b o hb e=>?_) hm'') hS''
   rw [hsb.2 b (fun h:b=S=>hb (by rw [h];exact List.mem_cons_self))];exact e
end
end L2
namespace L2
open PySem PySem.Spec PyProof.Rows
noncomputable abbrev freshSet (w:World):Obj:={ cls:=.type "set",dict:=none,data:=.set #[] 0 (.fresh 0 0 (!byT w)) }
section
variable {prog:Program} {w:World} {A:Around} {E:Value→Shared→Prop} {s:Shared}
theorem set_new_I (a:Value) {Q₁:Value→Shared→Prop} (h:Q₁ (.ref s.heap.objs.size) { s with heap:=s.heap.push (freshSet w) }) :
  codeAny (model prog w) A (.call (.builtin "set.__new__") ⟨[.type "set",a],[]⟩) (wants Q₁ E) s:=by
 refine codeAny_of_tree ?_
 show wpAny _ A.in1 (do checkBuiltinCall "set.__new__" ⟨[.type "set",a],[]⟩;again (.builtin "set.__new__" ⟨[.type "set",a],[]⟩)) _ _ s
 refine wpAny_bind (wpAny_of_eq (F.newCall_set_1 a) (wpAny_pure ⟨plainId_quiet F.plain_set_new _,codeAny_builtin F.entry_set_new ?_⟩))
 rw [Around.under_plainId F.plain_set_new _]
 unfold Builtin.«set.__new__» Builtin.Frozenset.newClass
 have hsub:=sub_set_self
 obtain ⟨hp,g,d,tk,os⟩:=s
 dsimp only
 wp_walk
 refine wpAny_askSetting (wpAny_pure ?_)
 dsimp only
 simp only [newObj]
 refine wpAny_bind (wpAny_alloc (wpAny_pure ?_))
 exact wpAny_pure h
theorem SetI.fresh {a:Addr} {h:Heap} (e:h.get? a=some (freshSet w)):SetI w a [] h:=
 ⟨#[],0,_,[],e,⟨rfl,rfl,rfl,rfl,rfl,.nil,fun _ z=>nomatch z⟩,.nil,.refl _,.nil,Nat.zero_le _⟩
set_option maxHeartbeats 3200000 in
theorem call_set_I {l:Addr} {items:Array Value} {ns:List Int} {Q:Value→Shared→Prop} (hh:A.handled=none) (hl:s.heap.IsList l items) (hi:IntsAre items.toList ns) (h4:items.size≤4)
  (h:∀ (h':Heap) (tk:Nat),SetI w s.heap.objs.size (dedI ns) h'→(∀ b o,s.heap.get? b=some o→h'.get? b=some o)→Q (.ref s.heap.objs.size) { s with heap:=h',toks:=tk }) :
  wpAny (model prog w) A (call (.type "set") [.ref l]) Q E s:=by
 have hlen:ns.length=items.size:=by have:=IntsAre.length hi;simpa using this.symm
 obtain ⟨c,tl,hmro⟩:=F.called_set.mro
 have hmade:=F.called_set.made
 have hsub:=F.called_set.sub
 refine wpAny_call (codeAny_of_tree ?_)
 show wpAny _ _ (callAny (.type "set") _) _ _ _
 refine wpAny_pure ⟨Code.quiet_builtin _ (by decide +kernel),codeAny_builtin F.entry_type_call ?_⟩
 rw [Around.under_plain (weight_type_call_type "set" [.ref l] []) rfl]
 have h1:=F.called_set.notType
 have h2:=F.called_set.canCreate
 have hct:=F.typeCall_set_1 (.ref l)
 repeat (any_goals (first | assumption | wp_step))
 refine codeAny_mono (set_new_I (.ref l) (E:=E) (Q₁:=fun obj s₁=>obj=.ref s.heap.objs.size∧s₁={ s with heap:=s.heap.push (freshSet w) }) ⟨rfl,rfl⟩) fun r s₁ hr=>?_
 cases r with
 | error e=>exact hr
 | ok fl=>
  cases fl with
  | ret obj=>
   obtain ⟨rfl,rfl⟩:=hr
   have hS:(s.heap.push (freshSet w)).get? s.heap.objs.size=some (freshSet w):=Heap.get?_push_size _ rfl
   have hT:Shared.TypeIs { s with heap:=s.heap.push (freshSet w) } (.ref s.heap.objs.size) "set":=⟨_,hS,rfl⟩
   have hli:=F.called_set.init.lookup
   have hbi:=F.called_set.init.bind (.ref s.heap.objs.size)
   repeat (any_goals (first | assumption | wp_step))
   refine codeAny_mono (codeAny_call_builtin (R:=wants (fun r s₂=>r=.none∧∃ h' tk,s₂={ s with heap:=h',toks:=tk }∧SetI w s.heap.objs.size (dedI ns) h'∧
     (∀ b o,s.heap.get? b=some o→h'.get? b=some o)) E) F.called_set.init.plain F.entry_set_init (check_set_init_1 hT ?_)) fun r₂ s₂ hr₂=>?_
   ·obtain ⟨ol,hol,hcl,nl,hdl⟩:=hl
    obtain ⟨ocls,odict,odata,oslots⟩:=ol
    simp only at hcl hdl
    subst hcl;subst hdl
    have hol':(s.heap.push (freshSet w)).get? l=some { cls:=.type "list",dict:=odict,data:=.seq items nl,slots:=oslots }:=Heap.get?_push_of_some _ hol
    have hsls:=F.sub_list_set
    have hslf:=F.sub_list_frozenset
    have hne:(Value.type "list" == Value.type "dict")=false:=by decide
    have hl1:(s.heap.push (freshSet w)).IsList l items:=⟨_,hol',rfl,nl,rfl⟩
    unfold Builtin.«set.__init__» noKeywords Builtin.Frozenset.updateFrom
    generalize hPI:pyIter=PI
    wp_walk
    subst hPI
    refine wpAny_pyIter_list hl1 ?_
    refine wpAny_bind (wpAny_runValue ?_)
    have hlS:l<s.heap.objs.size:=Heap.lt_size hol
    have hh3:A.in1.in1.in1.handled=none:=by simp [hh]
    have hneI:l ≠ (s.heap.push (freshSet w)).objs.size:=by
     rw [Heap.size_push];exact Nat.ne_of_lt (Nat.lt_succ_of_lt hlS)
    have hSf:s.heap.objs.size ∉ [(s.heap.push (freshSet w)).objs.size,l]:=by
     rw [Heap.size_push];simp only [List.mem_cons,List.mem_singleton,List.not_mem_nil,or_false,not_or]
     exact ⟨Nat.ne_of_lt (Nat.lt_succ_self _),Nat.ne_of_gt hlS⟩
    have hval:∀ (i:Nat) (v:Value),items[i]?=some v→∃ t,v=.int (ns.getD i 0) t:=fun i v hv=>
     PyProof.Rows.IntsAre.int_at hi i v (by rw [Array.getElem?_toList];exact hv)
    refine set_update_I ((Walks.list hh3 _ l hneI items).toS) s.heap.objs.size hSf ns hlen h4 hval (items.size - 0) 0 _ (by lia) (Nat.zero_le _)
     ⟨⟨_,Heap.get?_push_size _ rfl,rfl,rfl⟩,(hl1.push _)⟩ ?hS0 ?hR
    case hS0=>exact SetI.fresh (Heap.get?_push_of_some _ hS)
    case hR=>
     intro s' hm hS'
     obtain ⟨h',g',d',tk',os'⟩:=s'
     have eg:g'=s.gens:=hm.gens
     have ed:d'=s.drawn:=hm.drawn
     have eo:os'=s.os:=hm.os
     subst eg;subst ed;subst eo
     show wpAny _ _ _ _ _ _
     refine wpAny_pure ?_
     show wpAny _ _ (ret Value.none) _ _ _
     refine wpAny_pure ⟨rfl,h',tk',rfl,hS',fun b o e=>?_⟩
     have hb:=Heap.lt_size e
     have hb1:b ≠ s.heap.objs.size:=Nat.ne_of_lt hb
     have hb2:b ≠ (s.heap.push (freshSet w)).objs.size:=by
      rw [Heap.size_push];exact Nat.ne_of_lt (Nat.lt_succ_of_lt hb)
     exact hm.heap b o (by simp only [List.mem_cons,List.mem_singleton,List.not_mem_nil,or_false,not_or];exact ⟨hb1,hb2⟩) (Heap.get?_push_of_some _ (Heap.get?_push_of_some _ e))
   ·cases r₂ with
    | error e=>exact hr₂
    | ok fl₂=>
     cases fl₂ with
     | ret r=>
      obtain ⟨rfl,h',tk,rfl,hS',hk'⟩:=hr₂
      repeat (any_goals (first | assumption | wp_step))
      exact h _ _ hS' hk'
     | next=>exact hr₂
     | brk=>exact hr₂
     | cont=>exact hr₂
  | next=>exact hr
  | brk=>exact hr
  | cont=>exact hr
end
end L2
namespace L2
open PySem PySem.Spec PyProof.Rows
theorem slot_si_next:Slot "set_iterator" "__next__" "set_iterator.__next__":=
 .of (owner:="set_iterator") (n:="__next__") (by rw [typeLookup_type,builtinLookup_eq_fast];kernel_rfl) (by decide +kernel) (by decide +kernel) (by decide +kernel)
  (by first | exact .inl (by decide +kernel) | exact .inr (by decide +kernel)) (by rw [isSubtype_type];kernel_rfl)
theorem slot_si_iter:Slot "set_iterator" "__iter__" "set_iterator.__iter__":=
 .of (owner:="set_iterator") (n:="__iter__") (by rw [typeLookup_type,builtinLookup_eq_fast];kernel_rfl) (by decide +kernel) (by decide +kernel) (by decide +kernel)
  (by first | exact .inl (by decide +kernel) | exact .inr (by decide +kernel)) (by rw [isSubtype_type];kernel_rfl)
theorem entry_si_next:entryFor table "set_iterator.__next__" = some Builtin.«set_iterator.__next__»:=entryFor_of_tree (by kernel_rfl)
theorem entry_si_iter:entryFor table "set_iterator.__iter__" = some Builtin.«dict_keyiterator.__iter__»:=
 entryFor_alias (id':="dict_keyiterator.__iter__") (by kernel_rfl) rfl (by decide +kernel) (by kernel_rfl)
theorem entry_set_iter:entryFor table "set.__iter__" = some Builtin.«frozenset.__iter__»:=
 entryFor_alias (id':="frozenset.__iter__") (by kernel_rfl) rfl (by decide +kernel) (by kernel_rfl)
theorem owner_si:Manifest.owners.lookup (String.ofList "set_iterator".toList.reverse.reverse)=some Manifest.sig_set_iterator:=by kernel_rfl
theorem args_si_next (a:Value):argsOk "set_iterator.__next__" ⟨[a],[]⟩:=by
 unfold argsOk;rw [signature?_of (id:="set_iterator.__next__") (n:="__next__".toList.reverse) (o:="set_iterator".toList.reverse) (by kernel_rfl) owner_si];kernel_rfl
theorem args_si_iter (a:Value):argsOk "set_iterator.__iter__" ⟨[a],[]⟩:=by
 unfold argsOk;rw [signature?_of (id:="set_iterator.__iter__") (n:="__iter__".toList.reverse) (o:="set_iterator".toList.reverse) (by kernel_rfl) owner_si];kernel_rfl
noncomputable def walkOf (w:World) (a:Addr) (ep:Nat) (es:Array (Int × Value)):List (Int × Value):=if byT w=true then (pickOrder (w.params.setOrder a ep) es).toList else es.toList
noncomputable def slotOf (w:World) (t:SetTable) (i:Nat):Nat:=if byT w=true then 0 else if i=0 then 0 else t.place.getD (i - 1) 0+1
theorem qCZ (w:World) (a:Addr) (ep:Nat) (es:Array (Int × Value)):(walkOf w a ep es).Perm es.toList:=by
 unfold walkOf
 split
 ·exact pick_perm _ _
 ·exact .refl _
theorem T7.below_at {b:Bool} {t:SetTable} {n:Nat} (T:T7 b t n) (i:Nat) (hi:i≤n):SetTable.below t.place (if i=0 then 0 else t.place.getD (i - 1) 0+1)=i:=by
 obtain ⟨b1,b2,b3⟩:=below_spec (j:=if i=0 then 0 else t.place.getD (i - 1) 0+1) T.up
 have hs:=T.size
 have gd:∀ a c d,a<t.place.size→t.place.getD a c=t.place.getD a d:=fun a c d ha=>by
  rw [Array.getD_eq_getD_getElem?,Array.getD_eq_getD_getElem?,Array.getElem?_eq_getElem ha]
  rfl
 by_cases h0:i=0
 ·rw [if_pos h0] at b1 b2 b3 ⊢
  subst h0
  apply Nat.eq_zero_of_not_pos
  intro z
  have:=b2 0 z
  omega
 ·rw [if_neg h0] at b1 b2 b3 ⊢
  have h1:¬ SetTable.below t.place (t.place.getD (i - 1) 0+1)<i:=fun z=>by
   have:=b3 (i - 1) (by omega) (by omega)
   rw [gd (i - 1) (t.place.getD (i - 1) 0+1) 0 (by omega)] at this
   omega
  have h2:¬ i<SetTable.below t.place (t.place.getD (i - 1) 0+1):=fun z=>by
   have q:=b2 i z
   have:=up_of 0 T.up (i - 1) i (by omega) (by omega)
   rw [gd i (t.place.getD (i - 1) 0+1) 0 (by omega)] at q
   omega
  omega
def SetIt (w:World) (a I:Addr) (es:Array (Int × Value)) (ep:Nat) (t:SetTable) (i:Nat) (h:Heap):Prop:=
 (∃ o,h.get? I=some o∧o.cls=.type "set_iterator"∧o.data=.fields #[.int (slotOf w t i) 0,.int i 0,.ref a,.int es.size 0,.int ep 0])∧h.get? a=some { cls:=.type "set",data:=.set es ep t }
section
variable {prog:Program} {w:World} {A:Around} {E:Value→Shared→Prop} {s:Shared} {a I:Addr} {es:Array (Int × Value)} {ep:Nat} {t:SetTable} {i:Nat}
theorem SetIt.typeIs (x:SetIt w a I es ep t i s.heap):s.TypeIs (.ref I) "set_iterator":=let ⟨⟨o,h1,h2,_⟩,_⟩:=x;⟨o,h1,h2⟩
theorem setNext_I {Q:Option (Value × Nat)→Shared→Prop} (T:T7 (byT w) t es.size) (h8:es.size≤7) (ho:s.heap.get? a=some { cls:=.type "set",data:=.set es ep t }) (hi:i≤es.size)
  (h:Q (match (walkOf w a ep es)[i]? with | some e=>some (e.2,slotOf w t (i+1)) | none=>none) s):wpAny (model prog w) A (setNext a (slotOf w t i) i ep) Q E s:=by
 have hf:=T.fits h8
 unfold setNext
 refine wpAny_bind (wpAny_setState_of ho rfl hf ?_)
 dsimp only
 unfold setsByText
 refine wpAny_bind (wpAny_bind (wpAny_askSetting (wpAny_pure ?_)))
 show wpAny _ _ (if byT w=true then _ else _) _ _ _
 cases hb:byT w with
 | true=>
  rw [if_pos rfl]
  simp only [bne_self_eq_false,Bool.false_eq_true,if_false]
  refine wpAny_bind ?_
  unfold setWalk
  refine wpAny_bind (wpAny_setState_of ho rfl hf ?_)
  dsimp only
  unfold setsByText
  refine wpAny_bind (wpAny_bind (wpAny_askSetting (wpAny_pure ?_)))
  show wpAny _ _ (if byT w=true then _ else _) _ _ _
  rw [hb,if_pos rfl]
  refine wpAny_bind (wpAny_askSetting (wpAny_pure (wpAny_pure ?_)))
  have e:walkOf w a ep es=(pickOrder (w.params.setOrder a ep) es).toList:=by unfold walkOf;rw [if_pos hb]
  have e2:∀ j,slotOf w t j=0:=fun j=>by unfold slotOf;rw [if_pos hb]
  rw [e,Array.getElem?_toList,e2] at h
  rw [e2]
  show Q (Option.map _ (pickOrder (w.params.setOrder a ep) es)[i]?) s
  cases hx:(pickOrder (w.params.setOrder a ep) es)[i]? with
  | none=>rw [hx] at h;exact h
  | some v=>rw [hx] at h;exact h
 | false=>
  rw [if_neg (by simp)]
  show wpAny _ _ (if (!t.plain && decide (es.size > 1))=true then _ else _) _ _ _
  rw [T.plain]
  simp only [Bool.not_true,Bool.false_and,Bool.false_eq_true,if_false]
  refine wpAny_bind ?_
  show wpAny _ _ (if (!t.led && !es.isEmpty)=true then _ else _) _ _ _
  rw [T.led,hb]
  simp only [Bool.not_false,Bool.not_true,Bool.false_and,Bool.false_eq_true,if_false]
  refine wpAny_pure (wpAny_pure ?_)
  have e:walkOf w a ep es=es.toList:=by unfold walkOf;rw [if_neg (by rw [hb];simp)]
  have e2:∀ j,slotOf w t j=if j=0 then 0 else t.place.getD (j - 1) 0+1:=fun j=>by unfold slotOf;rw [if_neg (by rw [hb];simp)]
  rw [e,Array.getElem?_toList] at h
  rw [e2,T.below_at i hi]
  cases hx:es[i]? with
  | none=>rw [hx] at h;exact h
  | some v=>
   rw [hx] at h
   have hlt:i<t.place.size:=by rw [T.size];exact (Array.getElem?_eq_some_iff.mp hx).1
   rw [Array.getElem?_eq_getElem hlt]
   dsimp only at h ⊢
   have e3:slotOf w t (i+1)=t.place[i]+1:=by
    rw [e2,if_neg (by omega),Nat.add_sub_cancel,Array.getD_eq_getD_getElem?,Array.getElem?_eq_getElem hlt]
    rfl
   rw [e3] at h
   exact h
theorem si_next {Q:Option Value→Shared→Prop} (T:T7 (byT w) t es.size) (h8:es.size≤7) (hit:SetIt w a I es ep t i s.heap) (hne:a ≠ I) {e:Int × Value} (hx:(walkOf w a ep es)[i]?=some e)
  (hQ:∀ h',SetIt w a I es ep t (i+1) h'→(∀ b o,b ≠ I→s.heap.get? b=some o→h'.get? b=some o)→Q (some e.2) { s with heap:=h' }):wpAny (model prog w) A (pyNext (.ref I)) Q E s:=by
 obtain ⟨⟨o,ho,hc,hd⟩,hs⟩:=id hit
 have hi:i<es.size:=by
  have:=(List.getElem?_eq_some_iff.mp hx).1
  rw [(qCZ w a ep es).length_eq,Array.length_toList] at this
  exact this
 unfold pyNext
 refine wpAny_bind (wpAny_attempt (wpAny_callSpecial?_slot (name:=Str.ofString "__next__") hit.typeIs slot_si_next (wpAny_call_entry slot_si_next hit.typeIs entry_si_next ?_ (args_si_next _))))
 unfold Builtin.«set_iterator.__next__»
 refine wpAny_bind (wpAny_pure ?_)
 refine wpAny_bind (wpAny_fieldsOf ho hd ?_)
 dsimp only
 unfold setEntries
 refine wpAny_bind (wpAny_bind (wpAny_setState_of hs rfl (T.fits h8) (wpAny_pure ?_)))
 rw [if_neg (by simp)]
 simp only [Int.toNat_natCast]
 refine wpAny_bind (setNext_I T h8 hs (Nat.le_of_lt hi) ?_)
 rw [hx]
 dsimp only
 show wpAny _ _ (setField (.ref I) 0 (rawInt _) >>= _) _ _ s
 refine wpAny_bind (wpAny_setField ho hd (by simp) ?_)
 have g1:=Heap.get?_update_self (Obj.mapFields (·.setIfInBounds 0 (rawInt ((slotOf w t (i+1):Nat):Int)))) ho (Obj.isFreed_of_fields (Obj.data_mapFields hd _))
 have d1:=Obj.data_mapFields hd (·.setIfInBounds 0 (rawInt ((slotOf w t (i+1):Nat):Int)))
 refine wpAny_bind (wpAny_setField g1 d1 (by simp) ?_)
 have g2:=Heap.get?_update_self (Obj.mapFields (·.setIfInBounds 1 (rawInt ((i:Int)+1)))) g1 (Obj.isFreed_of_fields (Obj.data_mapFields d1 _))
 have d2:=Obj.data_mapFields d1 (·.setIfInBounds 1 (rawInt ((i:Int)+1)))
 refine wpAny_pure ⟨_,rfl,wpAny_pure (hQ _ ⟨⟨_,g2,(Obj.cls_mapFields ..).trans ((Obj.cls_mapFields ..).trans hc),?_⟩,?_⟩ fun b o' hb e=>?_)⟩
 ·rw [d2]
  simp [rawInt]
 ·exact (Heap.get?_update_other _ _ (Ne.symm hne)).trans ((Heap.get?_update_other _ _ (Ne.symm hne)).trans hs)
 ·exact (Heap.get?_update_other _ _ (Ne.symm hb)).trans ((Heap.get?_update_other _ _ (Ne.symm hb)).trans e)
theorem si_end {Q:Option Value→Shared→Prop} (hh:A.handled=none) (T:T7 (byT w) t es.size) (h8:es.size≤7) (hit:SetIt w a I es ep t es.size s.heap)
  (hQ:∀ h',(∀ b o,b ≠ I→s.heap.get? b=some o→h'.get? b=some o)→Q none { s with heap:=h' }):wpAny (model prog w) A (pyNext (.ref I)) Q E s:=by
 obtain ⟨⟨o,ho,hc,hd⟩,hs⟩:=id hit
 unfold pyNext
 refine wpAny_bind (wpAny_attempt (wpAny_callSpecial?_slot (name:=Str.ofString "__next__") hit.typeIs slot_si_next (wpAny_call_entry slot_si_next hit.typeIs entry_si_next ?_ (args_si_next _))))
 unfold Builtin.«set_iterator.__next__»
 refine wpAny_bind (wpAny_pure ?_)
 refine wpAny_bind (wpAny_fieldsOf ho hd ?_)
 dsimp only
 unfold setEntries
 refine wpAny_bind (wpAny_bind (wpAny_setState_of hs rfl (T.fits h8) (wpAny_pure ?_)))
 rw [if_neg (by simp)]
 simp only [Int.toNat_natCast]
 have hx:(walkOf w a ep es)[es.size]?=none:=List.getElem?_eq_none (by rw [(qCZ w a ep es).length_eq,Array.length_toList];exact Nat.le_refl _)
 refine wpAny_bind (setNext_I T h8 hs (Nat.le_refl _) ?_)
 rw [hx]
 dsimp only
 show wpAny _ _ (setField (.ref I) 2 .none >>= _) _ _ s
 refine wpAny_bind (wpAny_setField ho hd (by simp) ?_)
 show wpAny _ _ (newExc (.type "StopIteration") [] >>= _) _ _ _
 refine wpAny_bind ?_
 simp only [newExc,newTuple]
 refine wpAny_bind (wpAny_newObj_type ?_ (by size_fits))
 refine wpAny_bind (m:=firstArgMember _ _) (wpAny_of_eq (a:=Value.none) (by first | rfl | (simp only [firstArgMember];rfl)) ?_)
 refine wpAny_newObj_type ?_ (by size_fits)
 simp only [raiseNew]
 refine wpAny_bind (wpAny_handled ?_)
 rw [show A.in1.handled=none from hh]
 refine wpAny_bind (wpAny_pure (wpAny_throw ?_))
 refine wpAny_bind (wpAny_isInstance (T:="StopIteration") (b:=true) ⟨_,Heap.get?_push_size _ rfl,rfl⟩ isSubtype_stop ?_)
 exact wpAny_pure (hQ _ (((Heap.SameBut.update ..).extBut.push _).push _))
theorem si_self {Q:Value→Shared→Prop} (hit:SetIt w a I es ep t i s.heap) (h:Q (.ref I) s):wpAny (model prog w) A (pyIter (.ref I)) Q E s:=by
 refine wpAny_pyIter_slot hit.typeIs slot_si_iter (wpAny_call_entry slot_si_iter hit.typeIs entry_si_iter ?_ (args_si_iter _))
 show wpAny _ _ (ret (.ref I)) _ _ s
 exact wpAny_pure ⟨_,rfl,"set_iterator",_,hit.typeIs,slot_si_next.lookup,h⟩
theorem si_new {Q:Value→Shared→Prop} (T:T7 (byT w) t es.size) (h8:es.size≤7) (hs:s.heap.get? a=some { cls:=.type "set",data:=.set es ep t })
  (hQ:Q (.ref s.heap.objs.size) { s with heap:=s.heap.push { cls:=.type "set_iterator",data:=.fields #[.int 0 0,.int 0 0,.ref a,.int es.size 0,.int ep 0] } }):wpAny (model prog w) A (pyIter (.ref a)) Q E s:=by
 have hT:s.TypeIs (.ref a) "set":=⟨_,hs,rfl⟩
 have hf:=T.fits h8
 refine wpAny_pyIter_slot hT F.slot_set_iter (wpAny_call_entry F.slot_set_iter hT entry_set_iter ?_ (F.args_set_iter_1 _))
 unfold Builtin.«frozenset.__iter__» Builtin.Frozenset.slot0 Builtin.Frozenset.sizeOf setEntries
 refine wpAny_bind (wpAny_bind (wpAny_pure ?_))
 show wpAny _ _ (pure a) _ _ s
 refine wpAny_pure ?_
 refine wpAny_bind (wpAny_bind (wpAny_bind (wpAny_setState_of hs rfl hf (wpAny_pure (wpAny_pure ?_)))))
 unfold setDrawn setsByText
 refine wpAny_bind (wpAny_bind (wpAny_setState_of hs rfl hf ?_))
 dsimp only
 refine wpAny_bind (wpAny_bind (wpAny_askSetting (wpAny_pure (wpAny_pure ?_))))
 show wpAny _ _ (if (!byT w && (!t.plain && decide (es.size > 1)))=true then _ else _) _ _ _
 rw [T.plain]
 simp only [Bool.not_true,Bool.false_and,Bool.and_false,Bool.false_eq_true,if_false]
 refine wpAny_bind (wpAny_pure ?_)
 unfold setEpoch
 refine wpAny_bind (wpAny_bind (wpAny_setState_of hs rfl hf (wpAny_pure ?_)))
 refine wpAny_bind (wpAny_newObj_type (wpAny_pure ⟨_,rfl,"set_iterator",_,⟨_,Heap.get?_push_size _ rfl,rfl⟩,slot_si_next.lookup,?_⟩))
 simpa [rawInt] using hQ
theorem si_hint {Q:Bool→Shared→Prop} (hT:s.TypeIs (.ref a) "set") (h:Q false s):wpAny (model prog w) A (Builtin.List.listLengthHint (.ref a)) Q E s:=by
 unfold Builtin.List.listLengthHint
 refine wpAny_bind (wpAny_specialOf hT PySem.F.slot_set_len.lookup ?_)
 generalize hid:("set.__len__" : String)=id0
 wp_delta
 rw [show splitId id0=some ("set","__len__") from by subst hid;decide +kernel]
 subst hid
 refine wpAny_bind (wpAny_isInstance (T:="set") (b:=true) hT (by rw [isSubtype_type];kernel_rfl) ?_)
 refine wpAny_ite_split (fun hab=>absurd hab (by decide)) (fun _=>?_)
 refine wpAny_ite_split (fun _=>?_) (fun hab=>absurd (by decide +kernel) hab)
 refine wpAny_bind (wpAny_typeOf hT ?_)
 exact wpAny_pure h
theorem si_src (T:T7 (byT w) t es.size) (h8:es.size≤7):PySem.W.KdlSrc prog w "set" a a es.size (fun i v=>∃ e,(walkOf w a ep es)[i]?=some e∧v=e.2) (fun h=>h.get? a=some { cls:=.type "set",data:=.set es ep t }) where
 type:=fun s h=>⟨_,h,rfl⟩
 there:=fun h x=>⟨Heap.lt_size x,Heap.lt_size x⟩
 keep:=fun h h' x k=>k a (.inl rfl) _ x
 notList:=by decide
 notTuple:=by decide
 hint:=fun A E s Q x q=>si_hint ⟨_,x,rfl⟩ q
 iter:=fun A s hh x=>by
  have hne:a ≠ s.heap.objs.size:=Nat.ne_of_lt (Heap.lt_size x)
  refine ⟨_,fun i h=>SetIt w a s.heap.objs.size es ep t i h,fun E Q q=>si_new T h8 x q,?_,⟨⟨_,Heap.get?_push_size _ rfl,rfl,?_⟩,Heap.get?_push_of_some _ x⟩⟩
  ·refine ⟨fun b hb=>?_,fun i h h' st k=>?_,fun i s' Q E hi st q=>?_,fun s' Q E st q=>?_,fun i s' Q E st q=>si_self st q⟩
   ·have e:b=s.heap.objs.size:=by simpa using hb
    simp [e]
   ·obtain ⟨⟨o,h1,h2,h3⟩,h4⟩:=st
    exact ⟨⟨o,k _ (by simp) _ h1,h2,h3⟩,k _ (by simp) _ h4⟩
   ·have hl:i<(walkOf w a ep es).length:=by rw [(qCZ w a ep es).length_eq,Array.length_toList];exact hi
    refine si_next T h8 st hne (List.getElem?_eq_getElem hl) fun h' st' k=>?_
    exact q _ h' s'.toks ⟨_,List.getElem?_eq_getElem hl,rfl⟩ st' fun b o hb e=>k b o (fun z=>hb (by simp [z])) e
   ·refine si_end hh T h8 st fun h' k=>?_
    exact q h' s'.toks fun b o hb e=>k b o (fun z=>hb (by simp [z])) e
  ·unfold slotOf
   split <;> rfl
end
end L2
namespace L2
open PySem PySem.Spec PyProof.Rows
theorem qCQ {ns:List Int}:∀ {us:List Value},Vals (ns.map V.int) us→IntsAre us ns:=by
 induction ns with
 | nil=>intro us h;cases h;exact .nil
 | cons n r ih=>
  intro us h
  cases h with
  | cons r1 r2=>
   obtain ⟨t,rfl⟩:=r1
   exact IntsAre.cons _ _ (ih r2)
theorem vals_of_ints:∀ {us:List Value} {ns:List Int},IntsAre us ns→Vals (ns.map V.int) us:=vals_ints
section
variable {X:Cx}
def SetO (w:World) (a:Addr) (zs:List Int):HO:=.ext (SetI w a zs)
theorem call_set (hc:X.calm=true):CallR X (.type "set") (fun xs H Q=>∃ p ns,xs=[.ref p]∧SqL X.K H p (ns.map V.int)∧ns.length≤4∧∀ a,H a=none→Q (.ref a) (upd H a (SetO X.w a (dedI ns)))):=by
 intro pins s σ H xs us Q I r h
 obtain ⟨p,ns,rfl,hq,h4,q⟩:=h
 obtain ⟨u,rfl,rx⟩:=vals1 r
 cases rx
 obtain ⟨its,rv,pl,hz⟩:=I.list hq
 have hlen:=rv.length
 rw [List.length_map] at hlen
 refine call_set_I (ns:=ns) (I.ok.hd hc) pl.isList (by simpa using qCQ rv) (by simp;lia) fun h' tk hS hk=>?_
 refine ⟨.ref s.heap.objs.size,_,I.laid (t':=tk) hk (Nat.le_refl _) ?_,rfl,q _ (I.hok.fresh (Nat.le_refl _))⟩
 obtain ⟨es,ep,t,ks,e,_⟩:=id hS
 exact ⟨hS,⟨_,e⟩,fun h1 h2 x k=>x.at k⟩
theorem Inv.track {pins:List (Addr × Obj)} {s:Shared} {σ:St} {H:Hp} {T:Addr} {o:HO} (I:Inv X pins σ H s) (h0:H T=none) (h1:X.s₀.heap.objs.size≤T) (h2:T ≠ X.env.locals) (h3:∀ x c,X.env.cells.lookup x=some c→c ≠ T) (h4:∀ p ∈ X.pn++pins,p.1 ≠ T)
  (new:ObjOk X.prog X.w (upd H T o) s.heap T o):Inv X pins σ (upd H T o) s:=by
 have old:∀ b ob,X.s₀.heap.get? b=some ob→b ≠ T:=fun b ob e=>Nat.ne_of_lt (Nat.lt_of_lt_of_le (Heap.lt_size e) h1)
 have some':∀ b u,H b=some u→(upd H T o) b=some u:=fun b u e=>by rw [qA9 (qA6 e h0)];exact e
 refine ⟨I.ok,I.os,I.bare,⟨I.base.keep,I.base.slot,fun b ob e n hx=>?_,I.base.there,fun b xs e=>some' _ _ (I.base.tups b xs e),fun b ob u e=>some' _ _ (I.base.frzs b ob u e),fun b ps e=>?_⟩,I.loc,I.cell,?_,fun x c e=>?_,fun p hp=>?_,fun b u e=>?_,I.len⟩
 ·rw [qA9 (old b ob e)];exact I.base.free b ob e n hx
 ·exact some' _ _ (I.base.tbls b ps e)
 ·rw [qA9 (Ne.symm h2)];exact I.free
 ·rw [qA9 (h3 x c e)];exact I.freeC x c e
 ·obtain ⟨e1,n,r⟩:=I.pin p hp
  exact ⟨e1,by rw [qA9 (h4 p hp)];exact n,r⟩
 ·by_cases hb:b=T
  ·subst hb
   rw [qA1] at e
   cases e
   exact new
  ·rw [qA9 hb] at e
   exact (I.hok b u e).stay (fun c v _ q=>q) (fun c q=>some' _ _ q) (fun c ys q=>some' _ _ q) fun c t q=>some' _ _ q
theorem sort_new {pins:List (Addr × Obj)} {s:Shared} {σ:St} {H:Hp} {Q:VK} {A:Around} {E:Value→Shared→Prop} {vs:List Value} {ns:List Int} {D:Addr} (I:Inv X pins σ (upd H D (.lst (ns.map V.int))) s) (hD:H D=none) (h64:ns.length<64)
  (q:∀ ns':List Int,ns'.Perm ns→ns'.Pairwise (·≤·)→Q (.ref D) (upd H D (.lst (ns'.map V.int)))) :
  wpAny (model X.prog X.w) A (call (.builtin "list.sort") [.ref D]) (fun _ s'=>EP X pins σ Q (.ref D) s') E s:=by
 obtain ⟨z,its,n,rv,hl,e⟩:=I.lstM qA1
 have hI:=qCQ rv
 have hlen:=rv.length
 rw [List.length_map] at hlen
 refine wpAny_call_entry slot_list_sort ⟨_,e,rfl⟩ entry_list_sort (list_sort_tree (ns:=ns) (n:=n) e hI (by lia) fun out ns' a1 a2 a3=>⟨_,rfl,?_⟩) (args_list_sort _)
 have hat:=sortedHeap_at (vs:=its) (out:=out) e
 obtain ⟨e2,hat⟩:=hat
 refine ⟨.ref D,upd H D (.lst (ns'.map V.int)),?_,rfl,q ns' a2 a3⟩
 have hu:upd (upd H D (.lst (ns.map V.int))) D (.lst (ns'.map V.int))=upd H D (.lst (ns'.map V.int)):=upd_upd
 rw [← hu]
 refine I.write (x:=D) (e:=D) (t':=s.toks) (by rw [qA1];exact trivial) (.inl rfl) (fun b u hb hbu=>?_) ⟨_,hat⟩ ?_
 ·rw [sortedHeap_old hb (Heap.lt_size hbu)];exact hbu
 ·refine ⟨?_,out.toList,e2,vals_of_ints a1,by simpa using hat⟩
  rw [List.length_map,a2.length_eq,← List.length_map (f:=V.int)]
  exact z
theorem newList_ok {pins:List (Addr × Obj)} {s:Shared} {σ:St} {H:Hp} {vs:List Value} {ns:List Int} (I:Inv X pins σ H s) (hv:IntsAre vs ns) (hz:ns.length≤sizeLine) :
  Inv X pins σ (upd H s.heap.objs.size (.lst (ns.map V.int))) { s with heap:=s.heap.push { cls:=.type "list",data:=.seq vs.toArray } }:=
 I.lnew (t':=s.toks) (vals_of_ints hv) (by rw [List.length_map];exact hz)
theorem qDF (hc:X.calm=true):CallR X (.builtin "sorted") (fun xs H Q=>∃ p ns,xs=[.ref p]∧(SqL X.K H p (ns.map V.int)∨SqT X.K H p (ns.map V.int)∨H p=some (SetO X.w p ns))∧ns.length<64∧
  ∀ (a:Addr) (ns':List Int),H a=none→ns'.Perm ns→ns'.Pairwise (·≤·)→Q (.ref a) (upd H a (.lst (ns'.map V.int)))):=by
 intro pins s σ H xs us Q I r h
 obtain ⟨p,ns,rfl,hq,h64,q⟩:=h
 obtain ⟨u,rfl,rx⟩:=vals1 r
 cases rx
 refine Calls.call_function_entry kind_sorted plain_sorted entry_sorted (args_sorted1 _) ?_
 unfold Builtin.«sorted»
 refine wpAny_bind (m:=checkCount "sorted" 1 1 _) (wpAny_pure ?_)
 have fin:∀ (s1:Shared) (vs:List Value) (zs:List Int),Inv X pins σ H s1→IntsAre vs zs→zs.Perm ns→wpAny (model X.prog X.w) X.A.in1 (do
   let l ← newList vs
   let _ ← holding [l] (call (.builtin "list.sort") [l] [])
   ret l) (fun fin s'=>∃ r,fin=.done (.ret r)∧EP X pins σ Q r s') X.xe s1:=by
  intro s1 vs zs I1 hv hp
  have hlen:=IntsAre.length hv
  have hz:zs.length≤sizeLine:=by rw [hp.length_eq,sizeLine_eq];lia
  refine wpAny_bind (wpAny_newList ?_ (by rw [hlen];exact hz))
  have hf:=I1.hok.fresh (Nat.le_refl s1.heap.objs.size)
  refine wpAny_bind (wpAny_holding (wpAny_mono (sort_new (E:=X.xe) (vs:=vs) (newList_ok I1 hv hz) hf (by rw [hp.length_eq];exact h64) fun ns' a b=>q _ ns' hf (a.trans hp) b) (fun _ s' x=>?_) fun _ _ e=>e))
  exact wpAny_pure ⟨_,rfl,x⟩
 rcases hq with hq | hq | hq
 ·obtain ⟨its,rv,pl,hz⟩:=I.list hq
  obtain ⟨o,ho,hc',n,hd⟩:=pl.isList
  have hlen:=rv.length
  refine wpAny_bind (wpAny_collect_seq p (.inl rfl) ho hc' hd (fun h' hk=>?_) (by simp;lia))
  exact fin _ _ ns (I.kept (t':=s.toks) hk) (by simpa using qCQ rv) (.refl _)
 ·obtain ⟨its,rv,pl,hz⟩:=I.tuple hq
  obtain ⟨o,ho,hc',n,hd⟩:=pl
  have hlen:=rv.length
  refine wpAny_bind (wpAny_collect_seq p (.inr rfl) ho hc' hd (fun h' hk=>?_) (by simp;lia))
  exact fin _ _ ns (I.kept (t':=s.toks) hk) (by simpa using qCQ rv) (.refl _)
 ·obtain ⟨hS,_,_⟩:=(show ObjOk X.prog X.w H s.heap p (.ext (SetI X.w p ns)) from I.hok p _ hq)
  obtain ⟨es,ep,t,ks,e,T,he,hp,hnd,h4⟩:=hS
  have hsz:es.size=ns.length:=SetI.size (a:=p) (h:=s.heap) he hp
  obtain ⟨ks',h1,h2⟩:=he.perm (qCZ X.w p ep es)
  refine wpAny_bind (PySem.W.kdu_collect (A:=X.A.in1) (si_src (ep:=ep) T (by lia)) (I.ok.hd hc) e (by rw [hsz,sizeLine_eq];lia) fun h' tk acc hk hacc=>?_)
  refine fin _ _ ks' (I.kept (t':=tk) hk) ?_ (h2.trans hp)
  obtain ⟨l1,l2⟩:=hacc
  have key:∀ {ks:List Int} {l:List (Int × Value)},Ents ks l→∀ vs:List Value,vs.length=l.length→(∀ (i:Nat) (v:Value),vs[i]?=some v→∃ e:Int × Value,l[i]?=some e∧v=e.2)→IntsAre vs ks:=by
   intro ks l h
   induction h with
   | nil=>
    intro vs hl _
    have:vs=[]:=List.length_eq_zero_iff.mp hl
    subst this
    exact .nil
   | cons r t ih=>
    intro vs hl hv
    cases vs with
    | nil=>simp at hl
    | cons v vs=>
     obtain ⟨tk,rfl⟩:=r
     obtain ⟨e,he,rfl⟩:=hv 0 v rfl
     simp at he
     subst he
     exact IntsAre.cons _ _ (ih vs (by simpa using hl) fun i v hi=>by simpa using hv (i+1) v (by simpa using hi))
  refine key h1 acc.toList ?_ fun i v hi=>l2 i v (by rw [← Array.getElem?_toList];exact hi)
  rw [Array.length_toList,l1,(qCZ X.w p ep es).length_eq,Array.length_toList]
end
end L2
namespace L2
open PySem PySem.Spec PyProof.Rows
section
variable {X:Cx}
noncomputable def rangeV (lo hi:Int):List V:=(List.range (hi - lo).toNat).map fun (i:Nat)=>V.int (lo+i)
theorem call_rng1:CallR X (.type "range") (fun xs H Q=>∃ j,xs=[.int j]∧∀ p,H p=none→Q (.ref p) (upd H p (.rng 0 j))):=by
 intro pins s σ H xs us Q I r h
 obtain ⟨j,rfl,q⟩:=h
 obtain ⟨u,rfl,t,rfl⟩:=vals1 r
 refine call_range_1 ⟨.ref s.heap.objs.size,_,I.laid (fun b o e=>Heap.get?_push_of_some _ e) (Nat.le_refl _) ?_,rfl,q _ (I.hok.fresh (Nat.le_refl _))⟩
 exact ⟨_,_,_,Heap.get?_push_size _ rfl⟩
theorem call_rng2:CallR X (.type "range") (fun xs H Q=>∃ i j,xs=[.int i,.int j]∧∀ p,H p=none→Q (.ref p) (upd H p (.rng i j))):=by
 intro pins s σ H xs us Q I r h
 obtain ⟨i,j,rfl,q⟩:=h
 obtain ⟨u,v,rfl,⟨t,rfl⟩,⟨t',rfl⟩⟩:=vals2 r
 refine call_range_2 ⟨.ref s.heap.objs.size,_,I.laid (fun b o e=>Heap.get?_push_of_some _ e) (Nat.le_refl _) ?_,rfl,q _ (I.hok.fresh (Nat.le_refl _))⟩
 exact ⟨_,_,_,Heap.get?_push_size _ rfl⟩
theorem rng_vals {lo hi:Int} {n:Nat} {acc:List Value} (hn:n=(hi - lo).toNat) (hl:acc.length=n) (h:∀ (i:Nat) (v:Value),acc[i]?=some v→∃ t,v=.int (lo+i * 1) t):Vals (rangeV lo hi) acc:=by
 have key:∀ (m:Nat) (acc:List Value),acc.length=m→∀ lo:Int,(∀ (i:Nat) (v:Value),acc[i]?=some v→∃ t,v=.int (lo+i) t)→Vals ((List.range m).map fun (i:Nat)=>V.int (lo+i)) acc:=by
  intro m
  induction m with
  | zero=>
   intro acc hl lo h
   have:acc=[]:=List.length_eq_zero_iff.mp hl
   subst this
   exact .nil
  | succ m ih=>
   intro acc hl lo h
   cases acc with
   | nil=>simp at hl
   | cons v acc=>
    rw [List.range_succ_eq_map,List.map_cons,List.map_map]
    have h0:=h 0 v rfl
    refine .cons h0 ?_
    have h1:=ih acc (by simpa using hl) (lo+1) fun i v hi=>by
     have:=h (i+1) v (by simpa using hi)
     obtain ⟨t,e⟩:=this
     refine ⟨t,?_⟩
     rw [e]
     congr 1
     push_cast
     lia
    have e:((fun (i:Nat)=>V.int (lo+i)) ∘ Nat.succ)=fun (i:Nat)=>V.int (lo+1+i):=by
     funext i
     simp only [Function.comp]
     congr 1
     push_cast
     lia
    rw [e]
    exact h1
 unfold rangeV
 rw [← hn]
 refine key n acc hl lo fun i v hi=>?_
 obtain ⟨t,e⟩:=h i v hi
 exact ⟨t,by rw [e,Int.mul_one]⟩
theorem rangeV_len (lo hi:Int):(rangeV lo hi).length=(hi - lo).toNat:=by unfold rangeV;simp
theorem rsize {lo hi:Int}:Builtin.Range.rangeSize lo hi 1=((hi - lo).toNat:Nat):=by rw [rangeSize_one];split <;> lia
theorem call_list_rng (hc:X.calm=true):CallR X (.type "list") (fun xs H Q=>∃ p lo hi,xs=[.ref p]∧H p=some (.rng lo hi)∧-1000000≤lo∧lo≤1000000∧-1000000≤hi∧hi≤1000000∧∀ l,H l=none→Q (.ref l) (upd H l (.lst (rangeV lo hi)))):=by
 intro pins s σ H xs us Q I r h
 obtain ⟨p,lo,hi,rfl,hp,l1,l2,l3,l4,q⟩:=h
 obtain ⟨u,rfl,rx⟩:=vals1 r
 cases rx
 obtain ⟨t,u,v,e⟩:=(show ∃ t u v,s.heap.get? p=some { cls:=.type "range",data:=.fields #[.int lo t,.int hi u,.int 1 v] } from I.hok p _ hp)
 refine call_list_range (n:=(hi - lo).toNat) (I.ok.hd hc) (show IsRange s.heap p lo hi 1 t u v from e) (small_one (by lia) (by lia) (by lia) (by lia)) rsize (by lia) fun h' tk acc c' hk hS hacc=>?_
 obtain ⟨a1,a2⟩:=hacc
 refine ⟨.ref s.heap.objs.size,_,I.laid (t':=tk) hk (Nat.le_refl _) (show ObjOk X.prog X.w _ h' _ (.lst (rangeV lo hi)) from ⟨?_,acc.toList,c',rng_vals rfl (by simpa using a1) fun i v hi=>a2 i v (by rw [← Array.getElem?_toList];exact hi),by simpa using hS⟩),rfl,q _ (I.hok.fresh (Nat.le_refl _))⟩
 rw [rangeV_len,sizeLine_eq]
 lia
theorem collect_range {prog:Program} {w:World} {A:Around} {E:Value→Shared→Prop} {s:Shared} {R:List Value→Shared→Prop} {r:Addr} {a b:Int} {t u v:Tok} {n:Nat} (hh:A.handled=none) (hr:IsRange s.heap r a b 1 t u v) (hsmall:Builtin.Range.small a b 1=true)
  (hn:Builtin.Range.rangeSize a b 1=n) (hlen:n≤2 ^ 24)
  (h:∀ (h':Heap) (tk:Nat) (acc:Array Value),(∀ b o,s.heap.get? b=some o→h'.get? b=some o)→ItemsOf (fun i v=>∃ t,v=.int (a+i * 1) t) acc n→R acc.toList { s with heap:=h',toks:=tk }) :
  wpAny (model prog w) A (collect (.ref r)) R E s:=by
 unfold collect
 refine wpAny_bind (wpAny_runValue (codeAny_builtin entry_proto_collect' ?_))
 rw [Around.under_plainId PySem.F.plain_proto_collect _]
 show wpAny _ A.in1 (newList [] >>= fun l=>again (.builtin "list.__iadd__" ⟨[l,.ref r],[]⟩)) _ _ s
 refine wpAny_bind (wpAny_newObj_type ?_)
 refine wpAny_pure ⟨plainId_quiet PySem.F.plain_list_iadd _,codeAny_builtin entry_list_iadd' ?_⟩
 rw [Around.under_plainId PySem.F.plain_list_iadd _]
 have hS₁:(s.heap.push { cls:=.type "list",data:=.seq ([]:List Value).toArray }).get? s.heap.objs.size=some { cls:=.type "list",data:=.seq #[] }:=Heap.get?_push_size _ rfl
 show wpAny _ A.in1 (Builtin.List.listExtendWith (.ref s.heap.objs.size) (.ref r) (.ref s.heap.objs.size)) _ _ _
 have key:=wpAny_extend_range (prog:=prog) (w:=w) (A:=A) (s:={ s with heap:=s.heap.push { cls:=.type "list",data:=.seq ([]:List Value).toArray } })
  (R:=fun (q:Result) (s':Shared)=>∃ (h':Heap) (tk:Nat) (acc':Array Value) (c':Nat),q=.ok (.ret (.ref s.heap.objs.size))∧s'={ s with heap:=h',toks:=tk }∧
   (∀ b o,s.heap.get? b=some o→h'.get? b=some o)∧h'.get? s.heap.objs.size=some { cls:=.type "list",dict:=none,data:=.seq acc' c',slots:=#[] }∧ItemsOf (fun i v=>∃ t,v=.int (a+i * 1) t) acc' n)
  hh (Heap.get?_push_of_some _ hr) hsmall hn hlen s.heap.objs.size (.ref s.heap.objs.size) 0 hS₁
  (fun h' tk acc' c' hk hS' hacc=>⟨h',tk,acc',c',rfl,rfl,fun b o e=>hk b o (Nat.ne_of_lt (Heap.lt_size e)) (Heap.get?_push_of_some _ e),hS',hacc⟩)
 refine wpAny_mono key (fun fin s' x=>?_) fun e s' x=>?_
 ·cases fin with
  | done f=>
   obtain ⟨h',tk,acc',c',e,rfl,hk,hS',hacc⟩:=x
   cases e
   show wpAny _ A (load s.heap.objs.size >>= _) _ _ _
   refine wpAny_bind (wpAny_load hS' ?_)
   exact wpAny_pure (h h' tk acc' hk hacc)
  | again c₁=>
   refine ⟨x.1,codeAny_mono x.2 fun q s₂ y=>?_⟩
   obtain ⟨h',tk,acc',c',rfl,rfl,hk,hS',hacc⟩:=y
   show wpAny _ A (load s.heap.objs.size >>= _) _ _ _
   refine wpAny_bind (wpAny_load hS' ?_)
   exact wpAny_pure (h h' tk acc' hk hacc)
 ·obtain ⟨_,_,_,_,e',_⟩:=x
  cases e'
theorem tuple_range {prog:Program} {w:World} {A:Around} {E:Value→Shared→Prop} {s:Shared} {Q:Value→Shared→Prop} {r:Addr} {a b:Int} {t u v:Tok} {n:Nat} (hh:A.handled=none) (hr:IsRange s.heap r a b 1 t u v) (hsmall:Builtin.Range.small a b 1=true)
  (hn:Builtin.Range.rangeSize a b 1=n) (hlen:n≤2 ^ 24)
  (h:∀ (h':Heap) (tk:Nat) (acc:Array Value),(∀ b o,s.heap.get? b=some o→h'.get? b=some o)→ItemsOf (fun i v=>∃ t,v=.int (a+i * 1) t) acc n→Q (.ref h'.objs.size) { s with heap:=h'.push { cls:=.type "tuple",data:=.seq acc },toks:=tk }) :
  wpAny (model prog w) A (call (.type "tuple") [.ref r]) Q E s:=by
 have hcode:codeAny (model prog w) A.in1 (.call (.builtin "tuple.__new__") ⟨[.type "tuple",.ref r],[]⟩) (wants (fun obj s₁=>s₁.TypeIs obj "tuple"∧Q obj s₁) E) s:=by
  refine codeAny_of_tree ?_
  show wpAny _ A.in1.in1 (do checkBuiltinCall "tuple.__new__" ⟨[.type "tuple",.ref r],[]⟩;again (.builtin "tuple.__new__" ⟨[.type "tuple",.ref r],[]⟩)) _ _ s
  refine wpAny_bind (wpAny_of_eq (F.newCall_tuple_1 _) (wpAny_pure ⟨plainId_quiet F.plain_tuple_new _,codeAny_builtin F.entry_tuple_new ?_⟩))
  rw [Around.under_plainId F.plain_tuple_new _]
  have hsub:=sub_tuple_self
  have hinit:=init_tuple_lookup
  have hmh:=madeHere_tuple
  have hTI:s.TypeIs (.ref r) "range":=⟨_,hr,rfl⟩
  wp_walk using wpAny_typeOf hTI,collect_range (prog:=prog) (w:=w) (A:=A.in1.in1) hh hr hsmall hn hlen
  intro h' tk acc hk hacc
  show wpAny _ _ (Builtin.Tuple.tupleExact acc.toList.toArray >>= fun v=>ret v) _ _ _
  unfold Builtin.Tuple.tupleExact
  refine wpAny_bind (wpAny_newObj_type ?_ (by show acc.toList.toArray.size≤sizeLine;simp only [Array.toArray_toList];rw [hacc.1,sizeLine_eq];lia))
  refine wpAny_pure ?_
  have e:acc.toList.toArray=acc:=by simp
  rw [e]
  exact ⟨⟨_,Heap.get?_push_size _ rfl,rfl⟩,h h' tk acc hk hacc⟩
 refine callType_codes (Q₁:=fun obj s₁=>s₁.TypeIs obj "tuple"∧Q obj s₁) F.called_tuple (F.typeCall_tuple_1 _) F.entry_object_init hcode fun obj s₁ h₁=>?_
 exact ⟨h₁.1,F.args_object_init_2 obj _,object_init_meets F.called_tuple.init.lookup F.called_tuple.made (by decide) prog w A.in1 _ s₁ ⟨h₁.1,rfl,h₁.2⟩⟩
theorem call_tuple_rng (hc:X.calm=true):CallR X (.type "tuple") (fun xs H Q=>∃ p lo hi,xs=[.ref p]∧H p=some (.rng lo hi)∧-1000000≤lo∧lo≤1000000∧-1000000≤hi∧hi≤1000000∧∀ l,H l=none→Q (.ref l) (upd H l (.tup (rangeV lo hi)))):=by
 intro pins s σ H xs us Q I r h
 obtain ⟨p,lo,hi,rfl,hp,l1,l2,l3,l4,q⟩:=h
 obtain ⟨u,rfl,rx⟩:=vals1 r
 cases rx
 obtain ⟨t,u,v,e⟩:=(show ∃ t u v,s.heap.get? p=some { cls:=.type "range",data:=.fields #[.int lo t,.int hi u,.int 1 v] } from I.hok p _ hp)
 refine tuple_range (n:=(hi - lo).toNat) (I.ok.hd hc) (show IsRange s.heap p lo hi 1 t u v from e) (small_one (by lia) (by lia) (by lia) (by lia)) rsize (by lia) fun h' tk acc hk hacc=>?_
 obtain ⟨a1,a2⟩:=hacc
 have I1:Inv X pins σ H { s with heap:=h',toks:=tk }:=I.kept hk
 refine ⟨.ref h'.objs.size,_,I1.laid (t':=tk) (fun b o e=>Heap.get?_push_of_some _ e) (Nat.le_refl _) (show ObjOk X.prog X.w _ _ _ (.tup (rangeV lo hi)) from ⟨?_,acc.toList,rng_vals rfl (by simpa using a1) fun i v hi=>a2 i v (by rw [← Array.getElem?_toList];exact hi),?_⟩),rfl,q _ (I1.hok.fresh (Nat.le_refl _))⟩
 ·rw [rangeV_len,sizeLine_eq]
  lia
 ·have:=IsTup.new h' acc
  simpa using this
theorem range_all':∀ (bs:List Bool),((List.range bs.length).all fun i=>(bs[i]?).getD true)=bs.all id:=by
 intro bs
 rw [Bool.eq_iff_iff,List.all_eq_true,List.all_eq_true]
 constructor
 ·intro h b hb
  obtain ⟨i,hi,e⟩:=List.mem_iff_getElem.mp hb
  have:=h i (List.mem_range.mpr hi)
  rw [List.getElem?_eq_getElem hi,e] at this
  exact this
 ·intro h i hi
  have hi':=List.mem_range.mp hi
  rw [List.getElem?_eq_getElem hi']
  exact h _ (List.getElem_mem hi')
theorem call_all (hc:X.calm=true):CallR X (.builtin "all") (fun xs H Q=>∃ (p:Addr) (bs:List Bool),xs=[.ref p]∧SqL X.K H p (bs.map V.bl)∧Q (.bl (bs.all id)) H):=by
 intro pins s σ H xs us Q I r h
 obtain ⟨p,bs,rfl,hq,q⟩:=h
 obtain ⟨u,rfl,rx⟩:=vals1 r
 cases rx
 obtain ⟨its,rv,pl,hz⟩:=I.list hq
 have hl:=pl.isList
 have hlt:p<s.heap.objs.size:=by obtain ⟨_,e,_⟩:=hl;exact Heap.lt_size e
 have hlen:=rv.length
 rw [List.length_map] at hlen
 refine call_all_walk (wpAny_pyIter_list hl ?_)
 refine ⟨s.heap.objs.size,[s.heap.objs.size,p],[s.heap.objs.size],its.toArray.size,_,_,fun i=>(bs[i]?).getD true,rfl,Walks.list (A:=X.A.in1) (I.ok.hd hc) _ p (Nat.ne_of_lt hlt) its.toArray,
  ⟨⟨_,Heap.get?_push_size _ rfl,rfl,rfl⟩,hl.push _⟩,fun i v s' Q' E' hP hQ=>?_,fun h' tk hk=>?_⟩
 ·have hP':its[i]?=some v:=by simpa using hP
  have hi:i<bs.length:=by rw [hlen];exact (List.getElem?_eq_some_iff.mp hP').1
  obtain ⟨u,hu,ru⟩:=rv.get (i:=i) (x:=.bl bs[i]) (by rw [List.getElem?_map,List.getElem?_eq_getElem hi];rfl)
  rw [hP'] at hu
  cases hu
  cases ru
  dsimp only at hQ
  rw [List.getElem?_eq_getElem hi,Option.getD_some] at hQ
  exact wpAny_truthy_bool hQ
 ·have e:((List.range its.toArray.size).all fun i=>(bs[i]?).getD true)=bs.all id:=by
   rw [List.size_toArray,← hlen];exact range_all' bs
  refine ⟨.bl (bs.all id),H,I.kept fun b x e=>hk b x (fun hm=>by rw [List.mem_singleton.mp hm] at e;exact Nat.lt_irrefl _ (Heap.lt_size e)) (Heap.get?_push_of_some _ e),?_,q⟩
  rw [e]
  rfl
theorem qB0:CallR X (.builtin "isinstance") (fun xs H Q=>∃ x T t b,xs=[x,.ty T]∧TyOf X.K H x t∧PySem.W.kitOne X.K t (.type T)=some b∧Q (.bl b) H):=by
 intro pins s σ H xs us Q I r h
 obtain ⟨x,T,t,b,rfl,ht,hk,q⟩:=h
 obtain ⟨u,v,rfl,r1,r2⟩:=vals2 r
 cases r2
 exact isinst_ok I r1 ht hk fun tk=>⟨.bl b,H,I.tok _,rfl,q⟩
theorem op_eq_nil (hu:X.A.units<cLine):OpR X (compareOp .Eq) (fun x y H Q=>∃ p l xs,x=.ref p∧y=.ref l∧SqL X.K H p xs∧SqL X.K H l []∧Q (.bl xs.isEmpty) H):=by
 intro pins s σ H x y v u Q I rx ry h
 obtain ⟨p,l,xs,rfl,rfl,h1,h2,q⟩:=h
 cases rx
 cases ry
 obtain ⟨its,r1,p1,z1⟩:=I.list h1
 obtain ⟨its2,r2,p2,z2⟩:=I.list h2
 cases r2
 cases xs with
 | nil=>
  cases r1
  exact SeqAt.eq_listAt (e:=fun _=>true) p1.isList p2.isList rfl hu (fun j h _=>absurd h (by simp)) ⟨.bl true,H,I,rfl,q⟩
 | cons a r=>
  cases r1
  exact SeqAt.eq_list_lengthsAt p1.isList p2.isList (by simp) hu ⟨.bl false,H,I,rfl,q⟩
end
theorem call_sortedK {X:Cx} {K:PySem.W.Frag} {w:World} (hK:X.K=K) (hw:X.w=w) (hc:X.calm=true):CallR X (.builtin "sorted") (fun xs H Q=>∃ p ns,xs=[.ref p]∧(SqL K H p (ns.map V.int)∨SqT K H p (ns.map V.int)∨H p=some (SetO w p ns))∧ns.length<64∧
  ∀ (a:Addr) (ns':List Int),H a=none→ns'.Perm ns→ns'.Pairwise (·≤·)→Q (.ref a) (upd H a (.lst (ns'.map V.int)))):=by subst hK hw;exact qDF hc
theorem call_setK {X:Cx} {K:PySem.W.Frag} {w:World} (hK:X.K=K) (hw:X.w=w) (hc:X.calm=true):CallR X (.type "set") (fun xs H Q=>∃ p ns,xs=[.ref p]∧SqL K H p (ns.map V.int)∧ns.length≤4∧∀ a,H a=none→Q (.ref a) (upd H a (SetO w a (dedI ns)))):=by subst hK hw;exact call_set hc
end L2
namespace L2
open PySem PySem.Spec PyProof.Rows
def Ite (K:PySem.W.Frag) (l:Addr):It:=
 ⟨fun i H=>∃ xs x,SqL K H l xs∧xs[i]?=some x,fun i H v H'=>∃ T x,H T=none∧v=.ref T∧H'=upd H T (.tup [.int (i:Int),x])∧∀ xs,SqL K H l xs→xs[i]?=some x,fun i H=>∃ xs,SqL K H l xs∧xs.length≤i⟩
section
variable {X:Cx}
theorem Inv.turnedL {pins:List (Addr × Obj)} {s:Shared} {σ:St} {H:Hp} {h':Heap} {t':Nat} {ch:List Addr} (I:Inv X pins σ H s) (k:∀ b o,b ∉ ch→s.heap.get? b=some o→h'.get? b=some o) (hc:∀ b ∈ ch,FpOk X pins H b):Inv X pins σ H { s with heap:=h',toks:=t' }:=by
 have nit:∀ b u,H b=some u→b ∉ ch:=fun b u e z=>by rw [(hc b z).1] at e;cases e
 refine I.step (g':=s.gens) (d':=s.drawn) (ch:=ch) (fun b hb=>⟨(hc b hb).2.2.2.1,(hc b hb).2.1,(hc b hb).2.2.2.2.1,(hc b hb).2.2.2.2.2⟩) (fun b o _ _ hc' e _=>k b o hc' e) (fun b o _ _ hc' e _=>⟨o.slots,k b o hc' e⟩) (fun _ _ _ _ n=>n)
  (fun b o hc' e=>⟨o,k b o hc' e⟩) (fun _ _ e=>e) (fun _ _ _ e=>e) (fun _ _ e=>e) (fun m hm=>?_) (fun b u e=>?_) I.bare
 ·obtain ⟨o,es,ep,ho,r⟩:=hm
  exact ⟨o,es,ep,k _ o (fun z=>(hc _ z).2.1 rfl) ho,r⟩
 ·refine (I.hok b u e).stay (fun c v hc' q=>k c v ?_ q) (fun _ q=>q) fun _ _ q=>q
  rcases hc' with z | z
  ·rw [z];exact nit b u e
  ·exact nit c _ z
theorem turn_enum {P:Program} {w:World} {K:PySem.W.Frag} {elts:List Expr} {k:Nat} {pos:Pos} (l it e:Addr) (hne:e ≠ it):Turn P w K (.Tuple elts k pos) (Ite K l) [e,it] e (fun i h=>(∃ old,IsEnum h e it i old)∧h.IsListIter it l i) where
 mem:=by simp
 obj:=fun i h st b hb=>by
  obtain ⟨⟨old,h1⟩,o,h2,_,h4⟩:=st
  have e':b=e∨b=it:=by simpa using hb
  rcases e' with rfl | rfl
  ·exact ⟨_,h1,fun v z=>by
    have z':Data.fields _=Data.cell v:=z
    cases z'⟩
  ·exact ⟨o,h2,fun v z=>by rw [h4] at z;cases z⟩
 keep:=fun i h h' st kk=>by
  obtain ⟨⟨old,h1⟩,h2⟩:=st
  exact ⟨⟨old,kk e (by simp) _ h1⟩,h2.at fun o q=>kk it (by simp) o q⟩
 item:=by
  intro X hP hw hK hc i pins s σ H E I hf st hg
  subst hP hw hK
  obtain ⟨xs,x,hq,hx⟩:=hg
  obtain ⟨its,rv,p,hz⟩:=I.list hq
  obtain ⟨u,hu,ru⟩:=rv.get hx
  obtain ⟨⟨old,h1⟩,h2⟩:=st
  refine wpAny_pyNext_enum_item h1 h2 p.isList (x:=u) (by simpa using hu) hne fun h' a1 a2 a3 a4 a5=>?_
  refine ⟨_,rfl,wpAny_letOwnedTupleGo_enum a1 fun h2 b1 b2=>?_⟩
  have ltE:e<s.heap.objs.size:=Heap.lt_size h1
  have I1:Inv X pins σ H { s with heap:=h2,toks:=s.toks+1 }:=I.turnedL (ch:=[e,it]) (fun b o hb q=>by
   have hb1:b ≠ e:=fun z=>hb (by simp [z])
   have hb2:b ≠ it:=fun z=>hb (by simp [z])
   exact (b2.2 b hb1).trans (a5 b o hb1 hb2 q)) hf
  have hT:H s.heap.objs.size=none:=I.hok.fresh (Nat.le_refl _)
  have fT:=I.fpOk (H':=H) (b:=s.heap.objs.size) (Nat.le_refl _) hT
  have gT:h2.get? s.heap.objs.size=some { cls:=.type "tuple",data:=.seq #[.int i s.toks,u] }:=(b2.2 _ (Nat.ne_of_gt ltE)).trans a3
  refine ⟨.ref s.heap.objs.size,upd H s.heap.objs.size (.tup [.int (i:Int),x]),I1.track hT I.sz fT.2.1 fT.2.2.2.2.1 fT.2.2.2.2.2 ⟨by simp only [List.length_cons,List.length_nil];rw [sizeLine_eq];decide,[.int (i:Int) s.toks,u],.cons ⟨_,rfl⟩ (.cons ru .nil),⟨_,gT,rfl,_,rfl⟩⟩,rfl,
   ⟨_,x,hT,rfl,rfl,fun ys hy=>by rw [I.list_inj hy hq];exact hx⟩,⟨⟨_,b1⟩,a2.at fun o q=>(b2.2 it (Ne.symm hne)).trans q⟩,fun b hb=>?_⟩
  have ltb:b<s.heap.objs.size:=by
   have e':b=e∨b=it:=by simpa using hb
   rcases e' with rfl | rfl
   ·exact ltE
   ·obtain ⟨o,q,_⟩:=h2;exact Heap.lt_size (by assumption)
  rw [qA9 (Nat.ne_of_lt ltb)]
  exact (hf b hb).1
 done:=by
  intro X hP hw hK hc i pins s σ H E I hf st hg
  subst hP hw hK
  obtain ⟨xs,hq,hx⟩:=hg
  obtain ⟨its,rv,p,hz⟩:=I.list hq
  have hl:=rv.length
  obtain ⟨⟨old,h1⟩,h2⟩:=st
  exact wpAny_pyNext_enum_end (I.ok.hd hc) h1 h2 p.isList (by simp;lia) fun h' eb=>⟨rfl,I.turnedL (t':=s.toks) (ch:=[e,it]) (fun b o hb q=>eb b o (fun z=>hb (by simp [z])) q) hf⟩
 self:=fun _ _ _ _ _ st h=>by
  obtain ⟨⟨old,h1⟩,h2⟩:=st
  exact wpAny_pyIter_enum h1 h
def iEnum (K:PySem.W.Frag) (ta:TA):TI:=fun σ H R=>ta σ H fun vs H1=>∃ l,vs=[.ref l]∧(∃ xs,SqL K H1 l xs)∧R (Ite K l) H1
theorem pi_enum {elts:List Expr} {k:Nat} {tpos:Pos} {a:Expr} {ta:TA} {p pos:Pos} (hg:Gl X "enumerate") (hm:X.mg "enumerate" = none) (hv:bootBuiltins "enumerate" = some (.type "enumerate")) (ha:PA X [a] ta) (hs:starEach [a] X.env=[(false,eval a X.env)]:=by rfl) :
  PI X (.Tuple elts k tpos) (.Call (.Name "enumerate" p) [a] [] pos) (iEnum X.K ta):=by
 intro pins s σ H R I h
 refine Call_ (ld_blt I hg hm hv (PyProof.Rows.callWith_type1 (thn (ha pos pins s σ H _ I h) fun us s1 ⟨vs,H1,I1,r1,q1⟩=>?_) hs rfl))
 obtain ⟨l,e,⟨xs,hq⟩,q⟩:=q1
 subst e
 obtain ⟨u,rfl,rx⟩:=vals1 r1
 cases rx
 obtain ⟨its,rv,pl,hz⟩:=I1.list hq
 refine call_enumerate_list pl.isList fun h' he hi hsz hk=>?_
 refine wpAny_pyIter_enum he ?_
 have I2:Inv X pins σ H1 { s1 with heap:=h' }:=I1.kept (t':=s1.toks) hk
 refine ⟨s1.heap.objs.size+1,[s1.heap.objs.size+1,s1.heap.objs.size],_,_,H1,rfl,I2,turn_enum l s1.heap.objs.size (s1.heap.objs.size+1) (Nat.succ_ne_self _),⟨⟨_,he⟩,hi⟩,fun b hb=>?_,q⟩
 have e':b=s1.heap.objs.size+1∨b=s1.heap.objs.size:=by simpa using hb
 rcases e' with rfl | rfl
 ·exact I1.fpOk (Nat.le_succ _) (I1.hok.fresh (Nat.le_succ _))
 ·exact I1.fpOk (Nat.le_refl _) (I1.hok.fresh (Nat.le_refl _))
end
theorem lc_enum {K:PySem.W.Frag} {a:Addr} {xs:List V} {g:TG} {tc:TT} {te:TE} {Kf:Hp→Prop} {σ0:St} {H0:Hp} {p:Addr} (Pv:Nat→St→Hp→Prop) (h0:Pv 0 σ0 H0) (hl:∀ i σ H,i≤xs.length→Pv i σ H→SqL K H a xs)
  (hs:∀ i x σ H T,xs[i]?=some x→Pv i σ H→H T=none→g (.ref T) σ (upd H T (.tup [.int (i:Int),x])) fun σ2 H2=>tc σ2 H2 fun b H3=>if b=true then te σ2 H3 fun y H4=>∃ ys,H4 p=some (.lst ys)∧ys.length<sizeLine∧Pv (i+1) σ2 (upd H4 p (.lst (ys++[y]))) else Pv (i+1) σ2 H3)
  (hd:∀ σ H,Pv xs.length σ H→Kf H) :
  LcG (Ite K a) g tc te Kf σ0 H0 p:=by
 refine ⟨fun i m σ H=>m=xs.length - i∧i≤xs.length∧Pv i σ H,⟨xs.length,by simp,Nat.zero_le _,h0⟩,?_⟩
 rintro i m σ H ⟨rfl,hi,q⟩
 have hq:=hl i σ H hi q
 by_cases hlt:i<xs.length
 ·refine .inr ⟨⟨xs,xs[i],hq,by simp [hlt]⟩,Pv (i+1),fun σ' H' p'=>⟨xs.length - (i+1),by lia,rfl,hlt,p'⟩,fun v H' y=>?_⟩
  obtain ⟨T,x,hT,e1,e2,y⟩:=y
  subst e1 e2
  exact hs i x σ H T (y xs hq) q hT
 ·have e:i=xs.length:=by lia
  subst e
  exact .inl ⟨⟨xs,hq,Nat.le_refl _⟩,hd σ H q⟩
end L2
namespace L2
open PySem PySem.Spec PyProof.Rows
theorem nextOf_tuple_item {prog:Program} {w:World} {A:Around} {E:Value→Shared→Prop} {s:Shared} {it t:Addr} {i:Nat} {items:Array Value} {x:Value} {Q:Value→Shared→Prop} (hit:s.heap.IsTupleIter it t i) (ht:s.heap.IsTuple t items) (hx:items[i]?=some x)
  (hQ:∀ h':Heap,h'.IsTupleIter it t (i+1)→Heap.SameBut it s.heap h'→Q x { s with heap:=h' }):wpAny (model prog w) A (Builtin.SmallTypes.nextOf (.ref it)) Q E s:=by
 obtain ⟨o,ho,hc,hd⟩:=id hit
 obtain ⟨ol,hol,_,nl,hdl⟩:=ht
 refine wpAny_bind (wpAny_callSpecial?_slot hit.typeIs F.slot_tuple_iterator_next (wpAny_call_entry F.slot_tuple_iterator_next hit.typeIs F.entry_tuple_iterator_next ?_ (F.args_tuple_iterator_next_1 _)))
 show wpAny _ _ (field (.ref it) 0 >>= _) _ _ _
 refine wpAny_bind (wpAny_field ho hd rfl ?_)
 refine wpAny_ite_false rfl ?_
 show wpAny _ _ (field (.ref it) 1 >>= _) _ _ _
 refine wpAny_bind (wpAny_field ho hd rfl ?_)
 show wpAny _ _ (seqItems? (.ref t) >>= _) _ _ _
 refine wpAny_bind (wpAny_seqItems hol hdl ?_)
 show wpAny _ _ (match items[i]? with | some x=>_ | none=>_) _ _ _
 rw [hx]
 refine wpAny_bind (wpAny_setField ho hd (by simp) ?_)
 refine wpAny_pure ⟨x,rfl,wpAny_pure (hQ _ ⟨_,Heap.get?_update_self _ ho (Obj.isFreed_of_fields (Obj.data_mapFields hd _)),(Obj.cls_mapFields o _).trans hc,?_⟩ (Heap.SameBut.update _ _ _))⟩
 rw [Obj.data_mapFields hd]
 simp
 rfl
theorem nextOf_tuple_end {prog:Program} {w:World} {A:Around} {E:Value→Shared→Prop} {s:Shared} {it t:Addr} {i:Nat} {items:Array Value} {Q:Value→Shared→Prop} (hh:A.handled=none) (hit:s.heap.IsTupleIter it t i) (ht:s.heap.IsTuple t items) (hx:items[i]?=none)
  (hE:∀ (h':Heap) (e:Addr),Heap.ExtBut it s.heap h'→(∃ o,h'.get? e=some o∧o.cls=.type "StopIteration")→E (.ref e) { s with heap:=h' }):wpAny (model prog w) A (Builtin.SmallTypes.nextOf (.ref it)) Q E s:=by
 obtain ⟨o,ho,hc,hd⟩:=id hit
 obtain ⟨ol,hol,_,nl,hdl⟩:=ht
 refine wpAny_bind (wpAny_callSpecial?_slot hit.typeIs F.slot_tuple_iterator_next (wpAny_call_entry F.slot_tuple_iterator_next hit.typeIs F.entry_tuple_iterator_next ?_ (F.args_tuple_iterator_next_1 _)))
 show wpAny _ _ (field (.ref it) 0 >>= _) _ _ _
 refine wpAny_bind (wpAny_field ho hd rfl ?_)
 refine wpAny_ite_false rfl ?_
 show wpAny _ _ (field (.ref it) 1 >>= _) _ _ _
 refine wpAny_bind (wpAny_field ho hd rfl ?_)
 show wpAny _ _ (seqItems? (.ref t) >>= _) _ _ _
 refine wpAny_bind (wpAny_seqItems hol hdl ?_)
 show wpAny _ _ (match items[i]? with | some x=>_ | none=>_) _ _ _
 rw [hx]
 refine wpAny_bind (wpAny_rule ?_)
 refine wpAny_bind (wpAny_setField ho hd (by simp) ?_)
 show wpAny _ _ (newExc (.type "StopIteration") [] >>= _) _ _ _
 refine wpAny_bind ?_
 simp only [newExc,newTuple]
 refine wpAny_bind (wpAny_newObj_type ?_ (by size_fits))
 refine wpAny_bind (m:=firstArgMember _ _) (wpAny_of_eq (a:=Value.none) (by first | rfl | (simp only [firstArgMember];rfl)) ?_)
 refine wpAny_newObj_type ?_ (by size_fits)
 simp only [raiseNew]
 refine wpAny_bind (wpAny_handled ?_)
 rw [show A.in1.handled=none from hh]
 refine wpAny_bind (wpAny_pure (wpAny_throw ?_))
 exact hE _ _ (((Heap.SameBut.update ..).extBut.push _).push _) ⟨_,Heap.get?_push_size _ rfl,rfl⟩
def SIt (b:Bool) (h:Heap) (it l:Addr) (i:Nat):Prop:=match b with | true=>h.IsTupleIter it l i | false=>h.IsListIter it l i
def SSq (b:Bool) (h:Heap) (l:Addr) (xs:Array Value):Prop:=match b with | true=>h.IsTuple l xs | false=>h.IsList l xs
theorem SIt.at {b:Bool} {h h':Heap} {it l:Addr} {i:Nat} (q:SIt b h it l i) (k:∀ o,h.get? it=some o→h'.get? it=some o):SIt b h' it l i:=by
 cases b
 ·exact Heap.IsListIter.at q k
 ·exact Heap.IsTupleIter.at q k
theorem SSq.at {b:Bool} {h h':Heap} {l:Addr} {xs:Array Value} (q:SSq b h l xs) (k:∀ o,h.get? l=some o→h'.get? l=some o):SSq b h' l xs:=by
 cases b
 ·obtain ⟨o,e,r⟩:=q;exact ⟨o,k o e,r⟩
 ·obtain ⟨o,e,r⟩:=q;exact ⟨o,k o e,r⟩
theorem qDC {b:Bool} {prog:Program} {w:World} {A:Around} {E:Value→Shared→Prop} {s:Shared} {it t:Addr} {i:Nat} {items:Array Value} {x:Value} {Q:Value→Shared→Prop} (hit:SIt b s.heap it t i) (ht:SSq b s.heap t items) (hx:items[i]?=some x)
  (hQ:∀ h':Heap,SIt b h' it t (i+1)→Heap.SameBut it s.heap h'→Q x { s with heap:=h' }):wpAny (model prog w) A (Builtin.SmallTypes.nextOf (.ref it)) Q E s:=by
 cases b
 ·exact wpAny_nextOf_list_item hit ht hx hQ
 ·exact nextOf_tuple_item hit ht hx hQ
theorem nextOf_end {b:Bool} {prog:Program} {w:World} {A:Around} {E:Value→Shared→Prop} {s:Shared} {it t:Addr} {i:Nat} {items:Array Value} {Q:Value→Shared→Prop} (hh:A.handled=none) (hit:SIt b s.heap it t i) (ht:SSq b s.heap t items) (hx:items[i]?=none)
  (hE:∀ (h':Heap) (e:Addr),Heap.ExtBut it s.heap h'→(∃ o,h'.get? e=some o∧o.cls=.type "StopIteration")→E (.ref e) { s with heap:=h' }):wpAny (model prog w) A (Builtin.SmallTypes.nextOf (.ref it)) Q E s:=by
 cases b
 ·exact wpAny_nextOf_list_end hh hit ht hx hE
 ·exact nextOf_tuple_end hh hit ht hx hE
theorem zipB_item {b b':Bool} {prog:Program} {w:World} {A:Around} {E:Value→Shared→Prop} {s:Shared} {z TI TO i1 i2 l1 l2:Addr} {k1 k2:Nat} {xs ys:Array Value} {x y a c:Value} {Q:Value→Shared→Prop} (D:ZipApart z TI TO i1 i2 l1 l2) (hz:IsZip s.heap z TI TO .none) (hTI:IsPair s.heap TI (.ref i1) (.ref i2)) (hTO:IsPair s.heap TO a c)
  (h1:SIt b s.heap i1 l1 k1) (h2:SIt b' s.heap i2 l2 k2) (hl1:SSq b s.heap l1 xs) (hl2:SSq b' s.heap l2 ys) (hx:xs[k1]?=some x) (hy:ys[k2]?=some y)
  (hQ:∀ h':Heap,IsZip h' z TI TO (rawInt (s.heap.objs.size:Int))→IsPair h' TO x y→SIt b h' i1 l1 (k1+1)→SIt b' h' i2 l2 (k2+1)→IsPair h' s.heap.objs.size x y→h'.objs.size=s.heap.objs.size+1→
   (∀ (c:Addr) (o:Obj),c ≠ z→c ≠ TO→c ≠ i1→c ≠ i2→s.heap.get? c=some o→h'.get? c=some o)→Q (.ref s.heap.objs.size) { s with heap:=h' }) :
  wpAny (model prog w) A (Builtin.«zip.__next__» { pos:=[.ref z] }) (fun fin s'=>∃ v,fin=.done (.ret v)∧Q v s') E s:=by
 show wpAny _ _ (field (.ref z) 2 >>= _) _ _ _
 refine wpAny_bind (wpAny_field hz rfl rfl ?_)
 show wpAny _ _ (field (.ref z) 3 >>= _) _ _ _
 refine wpAny_bind (wpAny_field hz rfl rfl ?_)
 refine wpAny_bind (wpAny_seqItems hTI rfl ?_)
 show wpAny _ _ (Builtin.SmallTypes.ownedTupleIsFree (.ref z) >>= _) _ _ _
 refine wpAny_bind ?_
 show wpAny _ _ (field (.ref z) 0 >>= _) _ _ _
 refine wpAny_bind (wpAny_field hz rfl rfl (wpAny_pure ?_))
 refine wpAny_ite_true rfl ?_
 refine wpAny_bind (wpAny_rule ?_)
 refine wpAny_bind (wpAny_field hz rfl rfl ?_)
 refine wpAny_bind (wpAny_setField_rec hz (by simp) fun hA gz sb=>?_)
 refine wpAny_bind ?_
 show wpAny _ _ (forIn [(Value.ref i1,0),(Value.ref i2,1)] _ _) _ _ _
 rw [List.forIn_cons]
 refine wpAny_bind ?_
 dsimp only
 refine wpAny_bind (wpAny_onRaise ?_)
 have e:((#[Value.none,Value.bool false,Value.bool false,Value.ref TI,Value.ref TO][2] == Value.bool true)=false):=rfl
 rw [e]
 have sA1:SIt b hA i1 l1 k1:=h1.at fun o q=>(sb.2 _ D.i1z).trans q
 have sL1:SSq b hA l1 xs:=hl1.at fun o q=>(sb.2 _ D.l1z).trans q
 refine wpAny_bind (qDC (s:={ s with heap:=hA }) sA1 sL1 hx fun hB nB sB=>?_)
 refine wpAny_pure ?_
 have tB:IsPair hB TO a c:=(sB.2 _ D.TOi1).trans ((sb.2 _ D.TOz).trans hTO)
 refine wpAny_bind (wpAny_seqItems tB rfl ?_)
 refine wpAny_bind (wpAny_updateSeq_pair tB fun hC tC sC=>?_)
 refine wpAny_bind (wpAny_letGo (wpAny_pure ?_))
 dsimp only
 rw [List.forIn_cons]
 refine wpAny_bind ?_
 refine wpAny_bind (wpAny_onRaise ?_)
 have sC2:SIt b' hC i2 l2 k2:=h2.at fun o q=>(sC.2 _ (Ne.symm D.TOi2)).trans ((sB.2 _ (Ne.symm D.i12)).trans ((sb.2 _ D.i2z).trans q))
 have sL2:SSq b' hC l2 ys:=hl2.at fun o q=>(sC.2 _ D.l2TO).trans ((sB.2 _ D.l2i1).trans ((sb.2 _ D.l2z).trans q))
 refine wpAny_bind (qDC (s:={ s with heap:=hC }) sC2 sL2 hy fun hD nD sD=>?_)
 refine wpAny_pure ?_
 have tD:IsPair hD TO x c:=(sD.2 _ D.TOi2).trans tC
 refine wpAny_bind (wpAny_seqItems tD rfl ?_)
 refine wpAny_bind (wpAny_updateSeq_pair tD fun hF tF sF=>?_)
 refine wpAny_bind (wpAny_letGo (wpAny_pure ?_))
 dsimp only
 rw [List.forIn_nil]
 refine wpAny_pure ?_
 dsimp only
 have tF':IsPair hF TO x y:=tF
 refine wpAny_bind (wpAny_seqItems tF' rfl ?_)
 refine wpAny_bind (wpAny_newTuple ?_ (by show 2≤sizeLine;decide))
 have gzF:hF.get? z=some { cls:=.type "zip",data:=.fields #[.ellipsis,.bool false,.bool false,.ref TI,.ref TO] }:=(sF.2 _ (Ne.symm D.TOz)).trans ((sD.2 _ (Ne.symm D.i2z)).trans ((sC.2 _ (Ne.symm D.TOz)).trans ((sB.2 _ (Ne.symm D.i1z)).trans gz)))
 have szF:hF.objs.size=s.heap.objs.size:=sF.1.trans (sD.1.trans (sC.1.trans (sB.1.trans sb.1)))
 have ltz:z<hF.objs.size:=Heap.lt_size gzF
 have gzG:(hF.push { cls:=.type "tuple",data:=.seq #[x,y] }).get? z=some { cls:=.type "zip",data:=.fields #[.ellipsis,.bool false,.bool false,.ref TI,.ref TO] }:=Heap.get?_push_of_some _ gzF
 refine wpAny_bind ?_
 show wpAny _ _ (setField (.ref z) 0 (rawInt _) >>= _) _ _ _
 refine wpAny_bind (wpAny_setField_rec gzG (by simp) fun hG gG sG=>?_)
 refine wpAny_setField_rec gG (by simp) fun hI gI sI=>?_
 refine wpAny_pure ⟨_,rfl,?_⟩
 have o4:∀ (c:Addr) (o:Obj),c ≠ z→c ≠ TO→c ≠ i1→c ≠ i2→s.heap.get? c=some o→hI.get? c=some o:=fun c o n1 n2 n3 n4 e=>
  (sI.2 _ n1).trans ((sG.2 _ n1).trans (Heap.get?_push_of_some _ ((sF.2 _ n2).trans ((sD.2 _ n4).trans ((sC.2 _ n2).trans ((sB.2 _ n3).trans ((sb.2 _ n1).trans e)))))))
 have nz:hF.objs.size ≠ z:=Nat.ne_of_gt ltz
 have gT:hI.get? hF.objs.size=some { cls:=.type "tuple",data:=.seq #[x,y] }:=(sI.2 _ nz).trans ((sG.2 _ nz).trans (Heap.get?_push_size _ rfl))
 have szI:hI.objs.size=hF.objs.size+1:=sI.1.trans (sG.1.trans (Heap.size_push ..))
 have pz:∀ {c:Addr} {o:Obj},c ≠ z→hF.get? c=some o→hI.get? c=some o:=fun n e=>(sI.2 _ n).trans ((sG.2 _ n).trans (Heap.get?_push_of_some _ e))
 have q:=hQ hI
 rw [← szF] at q
 refine q gI (pz D.TOz tF') (nB.at fun o e=>pz D.i1z ((sF.2 _ (Ne.symm D.TOi1)).trans ((sD.2 _ D.i12).trans ((sC.2 _ (Ne.symm D.TOi1)).trans e)))) (nD.at fun o e=>pz D.i2z ((sF.2 _ (Ne.symm D.TOi2)).trans e)) gT szI o4
theorem zipB_end {b:Bool} {prog:Program} {w:World} {A:Around} {E:Value→Shared→Prop} {s:Shared} {z TI TO i1 i2 l1 l2:Addr} {k1:Nat} {xs:Array Value} {Q:PySem.Fin→Shared→Prop} (hh:A.handled=none) (D:ZipApart z TI TO i1 i2 l1 l2) (hz:IsZip s.heap z TI TO .none) (hTI:IsPair s.heap TI (.ref i1) (.ref i2))
  (h1:SIt b s.heap i1 l1 k1) (hl1:SSq b s.heap l1 xs) (hx:xs[k1]?=none)
  (hE:∀ (h':Heap) (e:Addr),(∀ (c:Addr) (o:Obj),c ≠ z→c ≠ i1→s.heap.get? c=some o→h'.get? c=some o)→(∃ o,h'.get? e=some o∧o.cls=.type "StopIteration")→E (.ref e) { s with heap:=h' }) :
  wpAny (model prog w) A (Builtin.«zip.__next__» { pos:=[.ref z] }) Q E s:=by
 show wpAny _ _ (field (.ref z) 2 >>= _) _ _ _
 refine wpAny_bind (wpAny_field hz rfl rfl ?_)
 show wpAny _ _ (field (.ref z) 3 >>= _) _ _ _
 refine wpAny_bind (wpAny_field hz rfl rfl ?_)
 refine wpAny_bind (wpAny_seqItems hTI rfl ?_)
 show wpAny _ _ (Builtin.SmallTypes.ownedTupleIsFree (.ref z) >>= _) _ _ _
 refine wpAny_bind ?_
 show wpAny _ _ (field (.ref z) 0 >>= _) _ _ _
 refine wpAny_bind (wpAny_field hz rfl rfl (wpAny_pure ?_))
 refine wpAny_ite_true rfl ?_
 refine wpAny_bind (wpAny_rule ?_)
 refine wpAny_bind (wpAny_field hz rfl rfl ?_)
 refine wpAny_bind (wpAny_setField_rec hz (by simp) fun hA gz sb=>?_)
 refine wpAny_bind ?_
 show wpAny _ _ (forIn [(Value.ref i1,0),(Value.ref i2,1)] _ _) _ _ _
 rw [List.forIn_cons]
 refine wpAny_bind ?_
 dsimp only
 refine wpAny_bind (wpAny_onRaise ?_)
 have e:((#[Value.none,Value.bool false,Value.bool false,Value.ref TI,Value.ref TO][2] == Value.bool true)=false):=rfl
 rw [e]
 have sA1:SIt b hA i1 l1 k1:=h1.at fun o q=>(sb.2 _ D.i1z).trans q
 have sL1:SSq b hA l1 xs:=hl1.at fun o q=>(sb.2 _ D.l1z).trans q
 refine wpAny_bind (nextOf_end (s:={ s with heap:=hA }) hh sA1 sL1 hx fun hB ea xB ⟨ob,gb,cb⟩=>?_)
 have gzB:=xB z _ (Ne.symm D.i1z) gz
 refine wpAny_setField_rec gzB (by simp) fun hC gC sC=>?_
 have nez:ea ≠ z:=fun q=>by
  rw [q,gzB] at gb
  cases gb
  exact absurd (show Value.type "zip" = Value.type "StopIteration" from cb) (by decide)
 exact hE hC ea (fun c o n1 n2 q=>(sC.2 _ n1).trans (xB c o n2 ((sb.2 _ n1).trans q))) ⟨ob,(sC.2 _ nez).trans gb,cb⟩
theorem zipB_end2 {b b':Bool} {prog:Program} {w:World} {A:Around} {E:Value→Shared→Prop} {s:Shared} {z TI TO i1 i2 l1 l2:Addr} {k1 k2:Nat} {xs ys:Array Value} {x a c:Value} {Q:PySem.Fin→Shared→Prop} (hh:A.handled=none) (D:ZipApart z TI TO i1 i2 l1 l2) (hz:IsZip s.heap z TI TO .none) (hTI:IsPair s.heap TI (.ref i1) (.ref i2)) (hTO:IsPair s.heap TO a c)
  (h1:SIt b s.heap i1 l1 k1) (h2:SIt b' s.heap i2 l2 k2) (hl1:SSq b s.heap l1 xs) (hl2:SSq b' s.heap l2 ys) (hx:xs[k1]?=some x) (hy:ys[k2]?=none)
  (hE:∀ (h':Heap) (e:Addr),(∀ (c:Addr) (o:Obj),c ≠ z→c ≠ TO→c ≠ i1→c ≠ i2→s.heap.get? c=some o→h'.get? c=some o)→(∃ o,h'.get? e=some o∧o.cls=.type "StopIteration")→E (.ref e) { s with heap:=h' }) :
  wpAny (model prog w) A (Builtin.«zip.__next__» { pos:=[.ref z] }) Q E s:=by
 show wpAny _ _ (field (.ref z) 2 >>= _) _ _ _
 refine wpAny_bind (wpAny_field hz rfl rfl ?_)
 show wpAny _ _ (field (.ref z) 3 >>= _) _ _ _
 refine wpAny_bind (wpAny_field hz rfl rfl ?_)
 refine wpAny_bind (wpAny_seqItems hTI rfl ?_)
 show wpAny _ _ (Builtin.SmallTypes.ownedTupleIsFree (.ref z) >>= _) _ _ _
 refine wpAny_bind ?_
 show wpAny _ _ (field (.ref z) 0 >>= _) _ _ _
 refine wpAny_bind (wpAny_field hz rfl rfl (wpAny_pure ?_))
 refine wpAny_ite_true rfl ?_
 refine wpAny_bind (wpAny_rule ?_)
 refine wpAny_bind (wpAny_field hz rfl rfl ?_)
 refine wpAny_bind (wpAny_setField_rec hz (by simp) fun hA gz sb=>?_)
 refine wpAny_bind ?_
 show wpAny _ _ (forIn [(Value.ref i1,0),(Value.ref i2,1)] _ _) _ _ _
 rw [List.forIn_cons]
 refine wpAny_bind ?_
 dsimp only
 refine wpAny_bind (wpAny_onRaise ?_)
 have e:((#[Value.none,Value.bool false,Value.bool false,Value.ref TI,Value.ref TO][2] == Value.bool true)=false):=rfl
 rw [e]
 have sA1:SIt b hA i1 l1 k1:=h1.at fun o q=>(sb.2 _ D.i1z).trans q
 have sL1:SSq b hA l1 xs:=hl1.at fun o q=>(sb.2 _ D.l1z).trans q
 refine wpAny_bind (qDC (s:={ s with heap:=hA }) sA1 sL1 hx fun hB nB sB=>?_)
 refine wpAny_pure ?_
 have tB:IsPair hB TO a c:=(sB.2 _ D.TOi1).trans ((sb.2 _ D.TOz).trans hTO)
 refine wpAny_bind (wpAny_seqItems tB rfl ?_)
 refine wpAny_bind (wpAny_updateSeq_pair tB fun hC tC sC=>?_)
 refine wpAny_bind (wpAny_letGo (wpAny_pure ?_))
 dsimp only
 rw [List.forIn_cons]
 refine wpAny_bind ?_
 refine wpAny_bind (wpAny_onRaise ?_)
 have sC2:SIt b' hC i2 l2 k2:=h2.at fun o q=>(sC.2 _ (Ne.symm D.TOi2)).trans ((sB.2 _ (Ne.symm D.i12)).trans ((sb.2 _ D.i2z).trans q))
 have sL2:SSq b' hC l2 ys:=hl2.at fun o q=>(sC.2 _ D.l2TO).trans ((sB.2 _ D.l2i1).trans ((sb.2 _ D.l2z).trans q))
 refine wpAny_bind (nextOf_end (s:={ s with heap:=hC }) hh sC2 sL2 hy fun hD ea xD ⟨ob,gb,cb⟩=>?_)
 have gzC:hC.get? z=some { cls:=.type "zip",data:=.fields #[.ellipsis,.bool false,.bool false,.ref TI,.ref TO] }:=(sC.2 _ (Ne.symm D.TOz)).trans ((sB.2 _ (Ne.symm D.i1z)).trans gz)
 have gzD:=xD z _ (Ne.symm D.i2z) gzC
 refine wpAny_setField_rec gzD (by simp) fun hF gF sF=>?_
 have nez:ea ≠ z:=fun q=>by
  rw [q,gzD] at gb
  cases gb
  exact absurd (show Value.type "zip" = Value.type "StopIteration" from cb) (by decide)
 exact hE hF ea (fun c o n1 n2 n3 n4 q=>(sF.2 _ n1).trans (xD c o n4 ((sC.2 _ n2).trans ((sB.2 _ n3).trans ((sb.2 _ n1).trans q))))) ⟨ob,(sF.2 _ nez).trans gb,cb⟩
section
variable {b b':Bool} {prog:Program} {w:World} {A:Around} {E:Value→Shared→Prop} {s:Shared} {z TI TO i1 i2 l1 l2:Addr} {k1 k2:Nat} {xs ys:Array Value}
theorem pyNext_zipB_item {x y a c:Value} {Q:Option Value→Shared→Prop} (D:ZipApart z TI TO i1 i2 l1 l2) (hz:IsZip s.heap z TI TO .none) (hTI:IsPair s.heap TI (.ref i1) (.ref i2)) (hTO:IsPair s.heap TO a c)
  (h1:SIt b s.heap i1 l1 k1) (h2:SIt b' s.heap i2 l2 k2) (hl1:SSq b s.heap l1 xs) (hl2:SSq b' s.heap l2 ys) (hx:xs[k1]?=some x) (hy:ys[k2]?=some y)
  (hQ:∀ h':Heap,IsZip h' z TI TO (rawInt (s.heap.objs.size:Int))→IsPair h' TO x y→SIt b h' i1 l1 (k1+1)→SIt b' h' i2 l2 (k2+1)→IsPair h' s.heap.objs.size x y→h'.objs.size=s.heap.objs.size+1→
   (∀ (c:Addr) (o:Obj),c ≠ z→c ≠ TO→c ≠ i1→c ≠ i2→s.heap.get? c=some o→h'.get? c=some o)→Q (some (.ref s.heap.objs.size)) { s with heap:=h' }) :
  wpAny (model prog w) A (pyNext (.ref z)) Q E s:=by
 have hT:s.TypeIs (.ref z) "zip":=⟨_,hz,rfl⟩
 unfold pyNext
 refine wpAny_bind (wpAny_attempt (wpAny_callSpecial?_slot (name:=Str.ofString "__next__") hT F.slot_zip_next (wpAny_call_entry F.slot_zip_next hT F.entry_zip_next ?_ (F.args_zip_next_1 _))))
 exact zipB_item (Q:=fun v s'=>wpAny (model prog w) A (pure (some v)) Q E s') D hz hTI hTO h1 h2 hl1 hl2 hx hy fun h' q1 q2 q3 q4 q5 q6 q7=>wpAny_pure (hQ h' q1 q2 q3 q4 q5 q6 q7)
theorem pyNext_zipB_end {Q:Option Value→Shared→Prop} (hh:A.handled=none) (D:ZipApart z TI TO i1 i2 l1 l2) (hz:IsZip s.heap z TI TO .none) (hTI:IsPair s.heap TI (.ref i1) (.ref i2))
  (h1:SIt b s.heap i1 l1 k1) (hl1:SSq b s.heap l1 xs) (hx:xs[k1]?=none)
  (hQ:∀ h':Heap,(∀ (c:Addr) (o:Obj),c ≠ z→c ≠ i1→s.heap.get? c=some o→h'.get? c=some o)→Q none { s with heap:=h' }) :
  wpAny (model prog w) A (pyNext (.ref z)) Q E s:=by
 have hT:s.TypeIs (.ref z) "zip":=⟨_,hz,rfl⟩
 unfold pyNext
 refine wpAny_bind (wpAny_attempt (wpAny_callSpecial?_slot (name:=Str.ofString "__next__") hT F.slot_zip_next (wpAny_call_entry F.slot_zip_next hT F.entry_zip_next ?_ (F.args_zip_next_1 _))))
 refine zipB_end hh D hz hTI h1 hl1 hx fun h' e k ⟨o,g,c⟩=>?_
 refine wpAny_bind (wpAny_isInstance (T:="StopIteration") (b:=true) ⟨_,g,c⟩ isSubtype_stop ?_)
 exact wpAny_pure (hQ h' k)
theorem pyNext_zipB_end2 {x a c:Value} {Q:Option Value→Shared→Prop} (hh:A.handled=none) (D:ZipApart z TI TO i1 i2 l1 l2) (hz:IsZip s.heap z TI TO .none) (hTI:IsPair s.heap TI (.ref i1) (.ref i2)) (hTO:IsPair s.heap TO a c)
  (h1:SIt b s.heap i1 l1 k1) (h2:SIt b' s.heap i2 l2 k2) (hl1:SSq b s.heap l1 xs) (hl2:SSq b' s.heap l2 ys) (hx:xs[k1]?=some x) (hy:ys[k2]?=none)
  (hQ:∀ h':Heap,(∀ (c:Addr) (o:Obj),c ≠ z→c ≠ TO→c ≠ i1→c ≠ i2→s.heap.get? c=some o→h'.get? c=some o)→Q none { s with heap:=h' }) :
  wpAny (model prog w) A (pyNext (.ref z)) Q E s:=by
 have hT:s.TypeIs (.ref z) "zip":=⟨_,hz,rfl⟩
 unfold pyNext
 refine wpAny_bind (wpAny_attempt (wpAny_callSpecial?_slot (name:=Str.ofString "__next__") hT F.slot_zip_next (wpAny_call_entry F.slot_zip_next hT F.entry_zip_next ?_ (F.args_zip_next_1 _))))
 refine zipB_end2 hh D hz hTI hTO h1 h2 hl1 hl2 hx hy fun h' e k ⟨o,g,c⟩=>?_
 refine wpAny_bind (wpAny_isInstance (T:="StopIteration") (b:=true) ⟨_,g,c⟩ isSubtype_stop ?_)
 exact wpAny_pure (hQ h' k)
end
noncomputable abbrev itObj (b:Bool) (l:Addr):Obj:={ cls:=.type (match b with | true=>"tuple_iterator" | false=>"list_iterator"),data:=.fields #[.ref l,.int 0 0] }
theorem pyIter_seq {b:Bool} {prog:Program} {w:World} {A:Around} {E:Value→Shared→Prop} {s:Shared} {l:Addr} {xs:Array Value} {Q:Value→Shared→Prop} (h:SSq b s.heap l xs) (hQ:Q (.ref s.heap.objs.size) { s with heap:=s.heap.push (itObj b l) }):wpAny (model prog w) A (pyIter (.ref l)) Q E s:=by
 cases b
 ·exact wpAny_pyIter_list h hQ
 ·exact wpAny_pyIter_tuple h hQ
noncomputable abbrev zb1 (b:Bool) (h:Heap) (l1:Addr):Heap:=h.push (itObj b l1)
noncomputable abbrev zb2 (b b':Bool) (h:Heap) (l1 l2:Addr):Heap:=(zb1 b h l1).push (itObj b' l2)
noncomputable abbrev zb3 (b b':Bool) (h:Heap) (l1 l2:Addr):Heap:=(zb2 b b' h l1 l2).push { cls:=.type "tuple",data:=.seq #[.ref h.objs.size,.ref (zb1 b h l1).objs.size] }
noncomputable abbrev zb4 (b b':Bool) (h:Heap) (l1 l2:Addr):Heap:=(zb3 b b' h l1 l2).push { cls:=.type "tuple",data:=.seq #[.none,.none] }
noncomputable abbrev zb5 (b b':Bool) (h:Heap) (l1 l2:Addr):Heap:=(zb4 b b' h l1 l2).push { cls:=.type "zip",data:=.fields #[.none,.bool false,.bool false,.ref (zb2 b b' h l1 l2).objs.size,.ref (zb3 b b' h l1 l2).objs.size] }
theorem zipB_new (b b':Bool) (l1 l2:Addr) (xs ys:Array Value):Meets (Builtin.«zip.__new__» { pos:=[.type "zip",.ref l1,.ref l2] }) fun _ R s=>
  SSq b s.heap l1 xs∧SSq b' s.heap l2 ys∧R (.ok (.ret (.ref (zb4 b b' s.heap l1 l2).objs.size))) { s with heap:=zb5 b b' s.heap l1 l2 }:=by
 refine Meets.of_wp fun prog w A R s h=>?_
 obtain ⟨hp,g,d,tk,os⟩:=s
 obtain ⟨hl1,hl2,h⟩:=h
 have hL2:SSq b' (hp.push (itObj b l1)) l2 ys:=SSq.at hl2 fun o q=>Heap.get?_push_of_some _ q
 refine wpAny_bind ?_
 refine wpAny_bind (wpAny_pure ?_)
 refine wpAny_ite_false rfl ?_
 refine wpAny_bind (wpAny_of_eq sub_zip ?_)
 refine wpAny_ite_false rfl ?_
 refine wpAny_pure ?_
 refine wpAny_ite_false rfl ?_
 refine wpAny_bind ?_
 refine wpAny_bind ?_
 show wpAny _ _ (forIn [Value.ref l1,Value.ref l2] #[] _) _ _ _
 rw [List.forIn_cons]
 refine wpAny_bind (wpAny_bind (wpAny_holding (pyIter_seq hl1 (wpAny_pure ?_))))
 dsimp only
 rw [List.forIn_cons]
 refine wpAny_bind (wpAny_bind (wpAny_holding (pyIter_seq hL2 (wpAny_pure ?_))))
 dsimp only
 rw [List.forIn_nil]
 refine wpAny_pure (wpAny_pure ?_)
 refine wpAny_bind (wpAny_newTuple ?_ (by show 2≤sizeLine;decide))
 refine wpAny_bind (wpAny_newTuple ?_ (by show 2≤sizeLine;decide))
 refine wpAny_bind ?_
 unfold Builtin.SmallTypes.newRecord
 dsimp only
 refine wpAny_newObj_type ?_ (by first | rfl | (show (5:Nat)≤_;decide) | (show (5:Nat)≤sizeLine+2;rw [sizeLine_eq];decide))
 refine wpAny_pure ⟨_,rfl,h⟩
end L2
namespace L2
open PySem PySem.Spec PyProof.Rows
theorem call_zipB {b b':Bool} {prog:Program} {w:World} {A:Around} {E:Value→Shared→Prop} {s:Shared} {l1 l2:Addr} {xs ys:Array Value} {Q:Value→Shared→Prop} (hl1:SSq b s.heap l1 xs) (hl2:SSq b' s.heap l2 ys)
  (hQ:∀ (h':Heap) (z TI TO i1 i2:Addr),ZipApart z TI TO i1 i2 l1 l2→IsZip h' z TI TO .none→IsPair h' TI (.ref i1) (.ref i2)→IsPair h' TO .none .none→SIt b h' i1 l1 0→SIt b' h' i2 l2 0→(∀ c ∈ [z,TI,TO,i1,i2],s.heap.objs.size≤c)→
   (∀ (c:Addr) (o:Obj),s.heap.get? c=some o→h'.get? c=some o)→Q (.ref z) { s with heap:=h' }) :
  wpAny (model prog w) A (call (.type "zip") [.ref l1,.ref l2]) Q E s:=by
 refine callType_new F.called_zip (by decide) (F.typeCall_zip_2 _ _) (F.newCall_zip_2 _ _) (fun obj=>F.args_object_init_3 obj _ _) F.entry_zip_new (zipB_new b b' l1 l2 xs ys) ⟨hl1,hl2,?_⟩
 have z1:(zb1 b s.heap l1).objs.size=s.heap.objs.size+1:=Heap.size_push ..
 have z2:(zb2 b b' s.heap l1 l2).objs.size=s.heap.objs.size+2:=(Heap.size_push ..).trans (by rw [z1])
 have z3:(zb3 b b' s.heap l1 l2).objs.size=s.heap.objs.size+3:=(Heap.size_push ..).trans (by rw [z2])
 have z4:(zb4 b b' s.heap l1 l2).objs.size=s.heap.objs.size+4:=(Heap.size_push ..).trans (by rw [z3])
 have g5:(zb5 b b' s.heap l1 l2).get? (zb4 b b' s.heap l1 l2).objs.size=some { cls:=.type "zip",data:=.fields #[.none,.bool false,.bool false,.ref (zb2 b b' s.heap l1 l2).objs.size,.ref (zb3 b b' s.heap l1 l2).objs.size] }:=Heap.get?_push_size _ rfl
 have g4:(zb5 b b' s.heap l1 l2).get? (zb3 b b' s.heap l1 l2).objs.size=some { cls:=.type "tuple",data:=.seq #[.none,.none] }:=Heap.get?_push_of_some _ (Heap.get?_push_size _ rfl)
 have g3:(zb5 b b' s.heap l1 l2).get? (zb2 b b' s.heap l1 l2).objs.size=some { cls:=.type "tuple",data:=.seq #[.ref s.heap.objs.size,.ref (zb1 b s.heap l1).objs.size] }:=Heap.get?_push_of_some _ (Heap.get?_push_of_some _ (Heap.get?_push_size _ rfl))
 have g2:(zb5 b b' s.heap l1 l2).get? (zb1 b s.heap l1).objs.size=some (itObj b' l2):=Heap.get?_push_of_some _ (Heap.get?_push_of_some _ (Heap.get?_push_of_some _ (Heap.get?_push_size _ rfl)))
 have g1:(zb5 b b' s.heap l1 l2).get? s.heap.objs.size=some (itObj b l1):=Heap.get?_push_of_some _ (Heap.get?_push_of_some _ (Heap.get?_push_of_some _ (Heap.get?_push_of_some _ (Heap.get?_push_size _ rfl))))
 have lt:∀ {b:Bool} {l:Addr} {zs:Array Value},SSq b s.heap l zs→l<s.heap.objs.size:=fun {b l zs} q=>by
  cases b
  ·obtain ⟨o,e,_⟩:=q;exact Heap.lt_size e
  ·obtain ⟨o,e,_⟩:=q;exact Heap.lt_size e
 refine ⟨⟨_,g5,rfl⟩,?_⟩
 have D:=zipApart_new (n:=s.heap.objs.size) (lt hl1) (lt hl2)
 rw [← z4,← z3,← z2,← z1] at D
 refine hQ _ _ _ _ _ _ D g5 g3 g4 ?_ ?_ ?_ fun c o e=>Heap.get?_push_of_some _ (Heap.get?_push_of_some _ (Heap.get?_push_of_some _ (Heap.get?_push_of_some _ (Heap.get?_push_of_some _ e))))
 ·cases b
  ·exact ⟨_,g1,rfl,rfl⟩
  ·exact ⟨_,g1,rfl,rfl⟩
 ·cases b'
  ·exact ⟨_,g2,rfl,rfl⟩
  ·exact ⟨_,g2,rfl,rfl⟩
 ·intro c hc
  have e':c=(zb4 b b' s.heap l1 l2).objs.size∨c=(zb2 b b' s.heap l1 l2).objs.size∨c=(zb3 b b' s.heap l1 l2).objs.size∨c=s.heap.objs.size∨c=(zb1 b s.heap l1).objs.size:=by simpa using hc
  rcases e' with rfl | rfl | rfl | rfl | rfl
  ·lia
  ·lia
  ·lia
  ·exact Nat.le_refl _
  ·lia
def SqB (b:Bool) (K:PySem.W.Frag) (H:Hp) (a:Addr) (xs:List V):Prop:=match b with | true=>SqT K H a xs | false=>SqL K H a xs
def Itz2 (K:PySem.W.Frag) (b b':Bool) (l1 l2:Addr):It:=
 ⟨fun i H=>∃ xs ys x y,SqB b K H l1 xs∧SqB b' K H l2 ys∧xs[i]?=some x∧ys[i]?=some y,fun i H v H'=>∃ T x y,H T=none∧v=.ref T∧H'=upd H T (.tup [x,y])∧∀ xs ys,SqB b K H l1 xs→SqB b' K H l2 ys→xs[i]?=some x∧ys[i]?=some y,fun i H=>∃ xs,SqB b K H l1 xs∧(xs.length≤i∨∃ ys x,SqB b' K H l2 ys∧xs[i]?=some x∧ys.length≤i)⟩
abbrev Itz (K:PySem.W.Frag) (b:Bool) (l1 l2:Addr):It:=Itz2 K b b l1 l2
section
variable {X:Cx}
theorem Inv.seqB {b:Bool} {pins:List (Addr × Obj)} {s:Shared} {σ:St} {H:Hp} {a:Addr} {xs:List V} (I:Inv X pins σ H s) (h:SqB b X.K H a xs):∃ its:List Value,Vals xs its∧SSq b s.heap a its.toArray:=by
 cases b
 ·obtain ⟨its,rv,p,_⟩:=I.list h;exact ⟨its,rv,p.isList⟩
 ·obtain ⟨its,rv,p,_⟩:=I.tuple h;exact ⟨its,rv,p⟩
theorem Inv.seqB_inj {b:Bool} {pins:List (Addr × Obj)} {s:Shared} {σ:St} {H:Hp} {a:Addr} {xs ys:List V} (I:Inv X pins σ H s) (h:SqB b X.K H a xs) (h':SqB b X.K H a ys):xs=ys:=by
 cases b
 ·exact I.list_inj h h'
 ·exact I.tuple_inj h h'
theorem turn_zip {P:Program} {w:World} {K:PySem.W.Frag} {elts:List Expr} {k:Nat} {pos:Pos} {b b':Bool} {z TI TO i1 i2 l1 l2:Addr} (D:ZipApart z TI TO i1 i2 l1 l2):Turn P w K (.Tuple elts k pos) (Itz2 K b b' l1 l2) [z,TI,TO,i1,i2] z (fun i h=>IsZip h z TI TO .none∧IsPair h TI (.ref i1) (.ref i2)∧(∃ a c,IsPair h TO a c)∧SIt b h i1 l1 i∧SIt b' h i2 l2 i) where
 mem:=by simp
 obj:=fun i h ⟨h1,h2,⟨a,c,h3⟩,h4,h5⟩ d hd=>by
  have it:∀ {b:Bool} {j l:Addr},SIt b h j l i→∃ o,h.get? j=some o∧∀ v,o.data ≠ .cell v:=fun {b j l} q=>by
   cases b
   ·obtain ⟨o,e,_,q⟩:=q;exact ⟨o,e,fun v z=>by rw [q] at z;cases z⟩
   ·obtain ⟨o,e,_,q⟩:=q;exact ⟨o,e,fun v z=>by rw [q] at z;cases z⟩
  have e':d=z∨d=TI∨d=TO∨d=i1∨d=i2:=by simpa using hd
  rcases e' with rfl | rfl | rfl | rfl | rfl
  ·exact ⟨_,h1,fun v z=>by
    have z':Data.fields _=Data.cell v:=z
    cases z'⟩
  ·exact ⟨_,h2,fun v z=>by
    have z':Data.seq _=Data.cell v:=z
    cases z'⟩
  ·exact ⟨_,h3,fun v z=>by
    have z':Data.seq _=Data.cell v:=z
    cases z'⟩
  ·exact it h4
  ·exact it h5
 keep:=fun i h h' ⟨h1,h2,⟨a,c,h3⟩,h4,h5⟩ kk=>⟨kk z (by simp) _ h1,kk TI (by simp) _ h2,⟨a,c,kk TO (by simp) _ h3⟩,h4.at fun o q=>kk i1 (by simp) o q,h5.at fun o q=>kk i2 (by simp) o q⟩
 item:=by
  intro X hP hw hK hc i pins s σ H E I hf st hg
  subst hP hw hK
  obtain ⟨xs,ys,x,y,hq1,hq2,hx,hy⟩:=hg
  obtain ⟨its,rv,p1⟩:=I.seqB hq1
  obtain ⟨jts,rw',p2⟩:=I.seqB hq2
  obtain ⟨u,hu,ru⟩:=rv.get hx
  obtain ⟨v,hv,rv'⟩:=rw'.get hy
  obtain ⟨h1,h2,⟨a,c,h3⟩,h4,h5⟩:=st
  refine pyNext_zipB_item D h1 h2 h3 h4 h5 p1 p2 (x:=u) (y:=v) (by simpa using hu) (by simpa using hv) fun h' a1 a2 a3 a4 a5 a6 a7=>?_
  refine ⟨_,rfl,wpAny_letOwnedTupleGo_zip a1 fun h2' b1 b2=>?_⟩
  have ltz:z<s.heap.objs.size:=Heap.lt_size h1
  have nz:s.heap.objs.size ≠ z:=Nat.ne_of_gt ltz
  have I1:Inv X pins σ H { s with heap:=h2',toks:=s.toks }:=I.turnedL (ch:=[z,TI,TO,i1,i2]) (fun d o hd q=>by
   have e1:d ≠ z:=fun q=>hd (by simp [q])
   exact (b2.2 d e1).trans (a7 d o e1 (fun q=>hd (by simp [q])) (fun q=>hd (by simp [q])) (fun q=>hd (by simp [q])) q)) hf
  have hT:H s.heap.objs.size=none:=I.hok.fresh (Nat.le_refl _)
  have fT:=I.fpOk (H':=H) (b:=s.heap.objs.size) (Nat.le_refl _) hT
  have gT:h2'.get? s.heap.objs.size=some { cls:=.type "tuple",data:=.seq #[u,v] }:=(b2.2 _ nz).trans a5
  refine ⟨.ref s.heap.objs.size,upd H s.heap.objs.size (.tup [x,y]),I1.track hT I.sz fT.2.1 fT.2.2.2.2.1 fT.2.2.2.2.2 ⟨by simp only [List.length_cons,List.length_nil];rw [sizeLine_eq];decide,[u,v],.cons ru (.cons rv' .nil),⟨_,gT,rfl,_,rfl⟩⟩,rfl,
   ⟨_,x,y,hT,rfl,rfl,fun xs' ys' e1 e2=>by rw [I.seqB_inj e1 hq1,I.seqB_inj e2 hq2];exact ⟨hx,hy⟩⟩,⟨b1,(b2.2 _ D.TIz).trans (a7 _ _ D.TIz D.TITO D.TIi1 D.TIi2 h2),⟨u,v,(b2.2 _ D.TOz).trans a2⟩,a3.at fun o q=>(b2.2 _ D.i1z).trans q,a4.at fun o q=>(b2.2 _ D.i2z).trans q⟩,fun d hd=>?_⟩
  have ltb:d<s.heap.objs.size:=by
   have it:∀ {b:Bool} {j l:Addr} {n:Nat},SIt b s.heap j l n→j<s.heap.objs.size:=fun {b j l n} q=>by
    cases b
    ·obtain ⟨o,e,_,q⟩:=q;exact Heap.lt_size e
    ·obtain ⟨o,e,_,q⟩:=q;exact Heap.lt_size e
   have e':d=z∨d=TI∨d=TO∨d=i1∨d=i2:=by simpa using hd
   rcases e' with rfl | rfl | rfl | rfl | rfl
   ·exact ltz
   ·exact Heap.lt_size h2
   ·exact Heap.lt_size h3
   ·exact it h4
   ·exact it h5
  rw [qA9 (Nat.ne_of_lt ltb)]
  exact (hf d hd).1
 done:=by
  intro X hP hw hK hc i pins s σ H E I hf st hg
  subst hP hw hK
  obtain ⟨xs,hq,hx⟩:=hg
  obtain ⟨its,rv,p⟩:=I.seqB hq
  have hl:=rv.length
  obtain ⟨h1,h2,⟨a,c,h3⟩,h4,h5⟩:=st
  rcases hx with hx | ⟨ys,x,hq2,hxx,hy⟩
  rotate_left
  ·obtain ⟨jts,rw',p2⟩:=I.seqB hq2
   have hl2:=rw'.length
   obtain ⟨u,hu,ru⟩:=rv.get hxx
   exact pyNext_zipB_end2 (I.ok.hd hc) D h1 h2 h3 h4 h5 p p2 (x:=u) (by simpa using hu) (by simp;lia) fun h' eb=>⟨rfl,I.turnedL (t':=s.toks) (ch:=[z,TI,TO,i1,i2]) (fun d o hd q=>eb d o (fun z=>hd (by simp [z])) (fun z=>hd (by simp [z])) (fun z=>hd (by simp [z])) (fun z=>hd (by simp [z])) q) hf⟩
  exact pyNext_zipB_end (I.ok.hd hc) D h1 h2 h4 p (by simp;lia) fun h' eb=>⟨rfl,I.turnedL (t':=s.toks) (ch:=[z,TI,TO,i1,i2]) (fun d o hd q=>eb d o (fun z=>hd (by simp [z])) (fun z=>hd (by simp [z])) q) hf⟩
 self:=fun _ _ _ _ _ ⟨h1,_⟩ h=>wpAny_pyIter_zip h1 h
theorem zip_go {elts:List Expr} {k:Nat} {tpos:Pos} {pins:List (Addr × Obj)} {σ:St} {R:It→Hp→Prop} {s1:Shared} {H1:Hp} {b b':Bool} {l m:Addr} {xs ys:List V} (I1:Inv X pins σ H1 s1) (hq:SqB b X.K H1 l xs) (hq2:SqB b' X.K H1 m ys) (q:R (Itz2 X.K b b' l m) H1) :
  wpAny (model X.prog X.w) X.A (call (.type "zip") [.ref l,.ref m]) (fun v s=>wpAny (model X.prog X.w) X.A (pyIter v) (PIE X pins σ (.Tuple elts k tpos) R) X.xe s) X.xe s1:=by
 obtain ⟨its,rv,pl⟩:=I1.seqB hq
 obtain ⟨jts,rw',pm⟩:=I1.seqB hq2
 refine call_zipB pl pm fun h' z TI TO i1 i2 D hz hTI hTO hi1 hi2 hfr hk=>?_
 refine wpAny_pyIter_zip hz ?_
 have I2:Inv X pins σ H1 { s1 with heap:=h' }:=I1.kept (t':=s1.toks) hk
 exact ⟨z,[z,TI,TO,i1,i2],_,_,H1,rfl,I2,turn_zip D,⟨hz,hTI,⟨_,_,hTO⟩,hi1,hi2⟩,fun c hc=>I1.fpOk (hfr c hc) (I1.hok.fresh (hfr c hc)),q⟩
def iZip (K:PySem.W.Frag) (ta:TA):TI:=fun σ H R=>ta σ H fun vs H1=>∃ b l m,vs=[.ref l,.ref m]∧(∃ xs,SqB b K H1 l xs)∧(∃ xs,SqB b K H1 m xs)∧R (Itz K b l m) H1
theorem pi_zip {elts:List Expr} {k:Nat} {tpos:Pos} {a b:Expr} {ta:TA} {p pos:Pos} (hg:Gl X "zip") (hm:X.mg "zip" = none) (hv:bootBuiltins "zip" = some (.type "zip")) (ha:PA X [a,b] ta) (hs:starEach [a,b] X.env=[(false,eval a X.env),(false,eval b X.env)]:=by rfl) (hs2:starEach [b] X.env=[(false,eval b X.env)]:=by rfl) :
  PI X (.Tuple elts k tpos) (.Call (.Name "zip" p) [a,b] [] pos) (iZip X.K ta):=by
 intro pins s σ H R I h
 refine Call_ (ld_blt I hg hm hv (PyProof.Rows.callWith_type1 (thn (ha pos pins s σ H _ I h) fun us s1 ⟨vs,H1,I1,r1,q1⟩=>?_) (by rw [hs,hs2]) (by rw [hs2];rfl)))
 obtain ⟨bb,l,m,e,⟨xs,hq⟩,⟨ys,hq2⟩,q⟩:=q1
 subst e
 obtain ⟨u,v,rfl,rx,ry⟩:=vals2 r1
 cases rx
 cases ry
 exact zip_go I1 hq hq2 q
end
theorem lc_zip {K:PySem.W.Frag} {b:Bool} {l m:Addr} {xs ys:List V} {g:TG} {tc:TT} {te:TE} {Kf:Hp→Prop} {σ0:St} {H0:Hp} {p:Addr} (hlen:xs.length=ys.length) (Pv:Nat→St→Hp→Prop) (h0:Pv 0 σ0 H0) (hl:∀ i σ H,i≤xs.length→Pv i σ H→SqB b K H l xs∧SqB b K H m ys)
  (hs:∀ i x y σ H T,xs[i]?=some x→ys[i]?=some y→Pv i σ H→H T=none→g (.ref T) σ (upd H T (.tup [x,y])) fun σ2 H2=>tc σ2 H2 fun b H3=>if b=true then te σ2 H3 fun y H4=>∃ ys,H4 p=some (.lst ys)∧ys.length<sizeLine∧Pv (i+1) σ2 (upd H4 p (.lst (ys++[y]))) else Pv (i+1) σ2 H3)
  (hd:∀ σ H,Pv xs.length σ H→Kf H) :
  LcG (Itz K b l m) g tc te Kf σ0 H0 p:=by
 refine ⟨fun i n σ H=>n=xs.length - i∧i≤xs.length∧Pv i σ H,⟨xs.length,by simp,Nat.zero_le _,h0⟩,?_⟩
 rintro i n σ H ⟨rfl,hi,q⟩
 have hq:=hl i σ H hi q
 by_cases hlt:i<xs.length
 ·refine .inr ⟨⟨xs,ys,xs[i],ys[i]'(by lia),hq.1,hq.2,by simp [hlt],List.getElem?_eq_getElem _⟩,Pv (i+1),fun σ' H' p'=>⟨xs.length - (i+1),by lia,rfl,hlt,p'⟩,fun v H' y=>?_⟩
  obtain ⟨T,x,y,hT,e1,e2,yy⟩:=y
  subst e1 e2
  exact hs i x y σ H T (yy xs ys hq.1 hq.2).1 (yy xs ys hq.1 hq.2).2 q hT
 ·have e:i=xs.length:=by lia
  subst e
  exact .inl ⟨⟨xs,hq.1,.inl (Nat.le_refl _)⟩,hd σ H q⟩
end L2
namespace L2
open PySem PySem.Spec PyProof.Rows
section
variable {X:Cx}
end
end L2
namespace L2
open PySem
section
variable {es:List Expr} {env:Env} {p:Pos}
theorem qCR {x:Str}:starEach (.Name x p::es) env=(false,eval (.Name x p) env)::starEach es env:=rfl
theorem qBG {xs:List Expr} {n:Nat}:starEach (.Tuple xs n p::es) env=(false,eval (.Tuple xs n p) env)::starEach es env:=rfl
theorem hs_sub {v sl:Expr}:starEach (.Subscript v sl p::es) env=(false,eval (.Subscript v sl p) env)::starEach es env:=rfl
theorem hs_call {f:Expr} {xs:List Expr} {ks:List Keyword}:starEach (.Call f xs ks p::es) env=(false,eval (.Call f xs ks p) env)::starEach es env:=rfl
theorem hs_bin {a b:Expr} {o:Operator}:starEach (.BinOp a o b p::es) env=(false,eval (.BinOp a o b p) env)::starEach es env:=rfl
theorem qCD {xs:List Expr}:starEach (.List xs p::es) env=(false,eval (.List xs p) env)::starEach es env:=rfl
end
end L2
namespace L2
open PySem
@[irreducible] def cst (i:Int) (p:Pos):Expr:=.Constant (.int i) 0 p
end L2
namespace L2
open PySem
theorem nameN {P:(St→Hp→Prop)→Prop} {B:St→Hp→Prop} (h:∀ N:St→Hp→Prop,(∀ σ H,B σ H→N σ H)→P N):∃ N:St→Hp→Prop,(∀ σ' H',N σ' H'→B σ' H')∧P N:=⟨B,fun _ _ z=>z,h B fun _ _ z=>z⟩
theorem for_listN {K:PySem.W.Frag} {a:Addr} {xs:List V} {g:TG} {tb:TS} {D:Ends} {σ:St} {H:Hp} (Pv:Nat→St→Hp→Prop) (h0:Pv 0 σ H) (hl:∀ i σ H,i≤xs.length→Pv i σ H→SqL K H a xs)
  (hs:∀ i x σ H,xs[i]?=some x→Pv i σ H→∀ N:St→Hp→Prop,(∀ σ H,Pv (i+1) σ H→N σ H)→g x σ H fun σ2 H2=>tb { D with nx:=N,ct:=N,bk:=D.nx } σ2 H2) (hd:∀ σ H,Pv xs.length σ H→D.nx σ H) :
  ForG (Itl K a) g tb D σ H:=
 qCS Pv h0 hl (fun i x σ H hx hp=>hs i x σ H hx hp _ fun _ _ z=>z) hd
theorem for_rangeN {lo:Int} {n:Nat} {g:TG} {tb:TS} {D:Ends} {σ:St} {H:Hp} (Pv:Nat→St→Hp→Prop) (h0:Pv 0 σ H)
  (hs:∀ i σ H,i<n→Pv i σ H→∀ N:St→Hp→Prop,(∀ σ H,Pv (i+1) σ H→N σ H)→g (.int (lo+i)) σ H fun σ2 H2=>tb { D with nx:=N,ct:=N,bk:=D.nx } σ2 H2) (hd:∀ σ H,Pv n σ H→D.nx σ H) :
  ForG (Itr lo n) g tb D σ H:=
 qB8 Pv h0 (fun i σ H hi hp=>hs i σ H hi hp _ fun _ _ z=>z) hd
end L2
namespace L2
open PySem
@[elab_as_elim] theorem us0 {α:Type} {P:List α→Prop} (us:List α) (hl:us.length=0) (h:P []):P us:=by
 match us,hl with
 | [],_=>exact h
@[elab_as_elim] theorem us1 {α:Type} {P:List α→Prop} (us:List α) (hl:us.length=1) (h:∀ a,P [a]):P us:=by
 match us,hl with
 | [a],_=>exact h a
@[elab_as_elim] theorem us2 {α:Type} {P:List α→Prop} (us:List α) (hl:us.length=2) (h:∀ a b,P [a,b]):P us:=by
 match us,hl with
 | [a,b],_=>exact h a b
@[elab_as_elim] theorem us3 {α:Type} {P:List α→Prop} (us:List α) (hl:us.length=3) (h:∀ a b c,P [a,b,c]):P us:=by
 match us,hl with
 | [a,b,c],_=>exact h a b c
@[elab_as_elim] theorem us4 {α:Type} {P:List α→Prop} (us:List α) (hl:us.length=4) (h:∀ a b c d,P [a,b,c,d]):P us:=by
 match us,hl with
 | [a,b,c,d],_=>exact h a b c d
end L2
namespace L2.G
open PySem PyProof.Rows
class NM where
 nm:Value→Int
 good:Value→Prop
variable [NM]
class LtOk (prog:Program) (w:World) (A:Around) (s:Shared) (κ0:SortKind):Prop where
 lt:∀ {x y:Value} {Q:Bool→Shared→Prop} {E:Value→Shared→Prop},NM.good x→NM.good y→Q (decide (NM.nm x<NM.nm y)) s→wpAny (model prog w) A (keyLt' κ0 x y) Q E s
section
variable {prog:Program} {w:World} {A:Around} {E:Value→Shared→Prop} {s:Shared} {κ0:SortKind} [LtOk prog w A s κ0]
end
end L2.G
namespace L2.G
open PySem PyProof.Rows
variable [NM]
structure gMR (R:Keyed→Keyed→Prop) (all out ra rb:List Keyed):Prop where
 perm:(out++(ra++rb)).Perm all
 up:out.Pairwise R
 ua:ra.Pairwise R
 ub:rb.Pairwise R
 la:∀ x ∈ out,∀ y ∈ ra,R x y
 lb:∀ x ∈ out,∀ y ∈ rb,R x y
section
variable {R:Keyed→Keyed→Prop} {all out ra rb xs:List Keyed}
end
end L2.G
namespace L2.G
open PySem PyProof.Rows
variable [NM]
section
variable {prog:Program} {w:World} {A:Around} {E:Value→Shared→Prop} {s:Shared} {κ0:SortKind} [LtOk prog w A s κ0]
end
end L2.G
namespace L2.G
open PySem PyProof.Rows
variable [NM]
section
variable {prog:Program} {w:World} {A:Around} {E:Value→Shared→Prop} {s:Shared} {κ0:SortKind} [LtOk prog w A s κ0]
end
end L2.G
namespace L2.G
open PySem PyProof.Rows
variable [NM]
section
variable {prog:Program} {w:World} {A:Around} {E:Value→Shared→Prop} {s:Shared} {κ0:SortKind} [LtOk prog w A s κ0]
structure gSG (κ0:SortKind) (a₀:Array Keyed) (st:SortSt):Prop where
 perm:(arrOf st).Perm a₀
 kind:kindOf st=κ0
 failed:failedOf st=none
end
end L2.G
namespace L2.G
open PySem PyProof.Rows
variable [NM]
section
variable {prog:Program} {w:World} {A:Around} {E:Value→Shared→Prop} {s:Shared} {κ0:SortKind} [LtOk prog w A s κ0] {a₀:Array Keyed}
end
end L2.G
namespace L2.G
open PySem PyProof.Rows
variable [NM]
section
variable {prog:Program} {w:World} {A:Around} {E:Value→Shared→Prop} {s:Shared} {κ0:SortKind} [LtOk prog w A s κ0] {a₀:Array Keyed}
end
end L2.G
namespace L2
open PySem PySem.Spec PyProof.Rows
section
variable {prog:Program} {w:World} {A:Around} {E:Value→Shared→Prop} {s:Shared}
end
section
variable {X:Cx}
theorem qD1 (hu:X.A.units<cLine):OpR X (compareOp .NotEq) (fun x y H Q=>∃ p l xs,x=.ref p∧y=.ref l∧SqL X.K H p xs∧SqL X.K H l []∧Q (.bl (!xs.isEmpty)) H):=by
 intro pins s σ H x y v u Q I rx ry h
 obtain ⟨p,l,xs,rfl,rfl,h1,h2,q⟩:=h
 cases rx
 cases ry
 obtain ⟨its,r1,p1,z1⟩:=I.list h1
 obtain ⟨its2,r2,p2,z2⟩:=I.list h2
 cases r2
 cases r1 with
 | nil=>exact PySem.SeqAt.RcNeAt.lists (e:=fun _=>true) p1.isList p2.isList rfl hu (fun j h _=>absurd h (by simp)) _ _ _ _ ⟨.bl false,H,I,rfl,q⟩
 | cons a r=>exact PySem.SeqAt.RcNeAt.lists_lengths p1.isList p2.isList (by simp) hu _ _ _ _ ⟨.bl true,H,I,rfl,q⟩
end
end L2
namespace L2
open PySem PySem.Spec PyProof.Rows
open PySem.AutoSeq1 in
section
variable {X:Cx}
end
end L2
namespace L2
open PySem PySem.Spec PyProof.Rows
section
variable {prog:Program} {w:World} {A:Around} {R:Result→Shared→Prop} {I:Addr} {fp wr:List Addr} {n:Nat} {P:Nat→Value→Prop} {St:Nat→Heap→Prop}
end
section
variable {prog:Program} {w:World} {A:Around} {E:Value→Shared→Prop} {s:Shared}
end
section
variable {X:Cx}
end
end L2
namespace L2
open PySem PySem.Spec PyProof.Rows
theorem entry_dul:entryFor table "dict.update.loop" = some Builtin.«dict.update.loop»:=entryFor_of_tree (by kernel_rfl)
theorem plain_dul:plainId "dict.update.loop" = true:=by decide +kernel
theorem list_nokeys:typeLookup (.type "list") "keys" = pure none:=by rw [typeLookup_type,builtinLookup_eq_fast];kernel_rfl
section
variable {prog:Program} {w:World} {A:Around} {E:Value→Shared→Prop} {s:Shared}
theorem miss_keys {a:Addr} {o:Obj} {xs:Array Value} {k:Nat} {Q:Option Value→Shared→Prop} (hx:s.heap.get? a=some o) (hc:o.cls=.type "list") (hdat:o.data=.seq xs k) (hd:o.dict=none) (hA:A.handled=none)
  (h:∀ h' tk,(∀ b u,s.heap.get? b=some u→h'.get? b=some u)→Q none { s with heap:=h',toks:=tk }):wpAny (model prog w) A (getAttr? (.ref a) "keys") Q E s:=by
 obtain ⟨c,dct,dat,sl⟩:=o
 simp only at hc hdat hd
 subst hc hdat hd
 obtain ⟨hp,g,dr,tk,os⟩:=s
 have hT:∀ tk',(⟨hp,g,dr,tk',os⟩:Shared).TypeIs (.ref a) "list":=fun _=>⟨_,hx,rfl⟩
 have f1:=sub_AttributeError
 have f3:=F.slot_list_getattribute.lookup
 have f4:=F.slot_list_getattribute.bind (.ref a)
 have f5:=am_list_getattr_none
 unfold getAttr? getAttrBy? getAttrBy
 repeat (any_goals (first | assumption | exact hT _ | ((with_reducible show wpAny _ _ (call (Value.builtin "list.__getattribute__") _ _) _ _ _);refine call_meets F.slot_list_getattribute (hT _) am_entry_list_getattribute (F.args_list_getattribute_2 _ _) (meets_getattribute_miss_list a xs k sl "keys" _ list_nokeys (by decide +kernel) (by decide +kernel)) ⟨hx,hA,fun h' tk' e hx'=>?_⟩) | wp_step))
 obtain ⟨t',u',he⟩:=hx'.there
 show wpAny _ _ (getattributeRaised _ _ _ _ _ _ _) _ _ _
 unfold getattributeRaised
 repeat (any_goals (first | assumption | wp_step))
 exact h _ _ hx'.of.keeps
end
section
variable {prog:Program} {w:World} {A:Around} {R:Result→Shared→Prop} {I:Addr} {fp wr:List Addr} {n:Nat} {P:Nat→Value→Prop} {St:Nat→Heap→Prop}
end
section
variable {prog:Program} {w:World} {A:Around} {E:Value→Shared→Prop} {s:Shared}
end
theorem pair_get {α β:Type} {F:α→β→Prop}:∀ {l₁:List α} {l₂:List β} {i:Nat} {a:α},Paired F l₁ l₂→l₁[i]?=some a→∃ b,l₂[i]?=some b∧F a b
 | _,_,_,_,.nil,e=>by simp at e
 | _,_,0,_,.cons r _,e=>by simp at e;subst e;exact ⟨_,rfl,r⟩
 | _,_,i+1,a,.cons _ t,e=>by
  obtain ⟨b,h1,h2⟩:=pair_get (i:=i) (a:=a) t (by simpa using e)
  exact ⟨b,by simpa using h1,h2⟩
theorem plain_parts {h:Heap} {p:Addr} {its:Array Value} (x:PlainL h p its):∃ o,h.get? p=some o∧o.cls=.type "list"∧o.dict=none∧∃ n,o.data=.seq its n:=by
 obtain ⟨o,n,h2,h3,h4,h5⟩:=x
 exact ⟨o,h2,h3,h4,n,h5⟩
section
variable {X:Cx}
end
end L2
namespace L2
open PySem PySem.Spec PyProof.Rows
section
variable {X:Cx}
def rCatA (K:PySem.W.Frag):R2:=fun x y H Q=>∃ a b xs ys,x=.ref a∧y=.ref b∧SqT K H a xs∧SqT K H b ys∧ys ≠ []∧xs.length+ys.length≤sizeLine∧(xs=[]→Q (.ref b) H)∧(xs ≠ []→∀ p,H p=none→Q (.ref p) (upd H p (.tup (xs++ys))))
theorem op_catA:OpR X (binaryOp .Add) (rCatA X.K):=by
 intro pins s σ H x y v u Q I rx ry h
 obtain ⟨a,b,xs,ys,rfl,rfl,ha,hb,hy,hz,q1,q2⟩:=h
 by_cases hx:xs=[]
 ·subst hx
  cases rx
  cases ry
  obtain ⟨its,r1,p1,_⟩:=I.tuple ha
  obtain ⟨its2,r2,p2,_⟩:=I.tuple hb
  cases r1
  obtain ⟨⟨cls,dd,data,sl⟩,ho,hc,n,hd⟩:=id p1
  obtain ⟨⟨cls2,dd2,data2,sl2⟩,ho2,hc2,n2,hd2⟩:=id p2
  simp only at hc hd hc2 hd2
  subst hc hd hc2 hd2
  exact concat_meets ⟨_,ho,rfl⟩ ⟨_,ho2,rfl⟩ noFill_tuple_add seq_tuple_add PySem.F.slot_tuple_add PySem.F.entry_tuple_add (PySem.F.args_tuple_add_2 _ _) (tuple_addW0 a b #[] its2.toArray n n2 dd dd2 sl sl2 rfl) ⟨ho,ho2,.ref b,H,I,rfl,q1 rfl⟩
 ·exact op_catT pins s σ H (.ref a) (.ref b) v u Q I rx ry ⟨a,b,xs,ys,rfl,rfl,ha,hb,hx,hz,fun z=>absurd z hy,fun _=>q2 hx⟩
end
end L2
namespace L2
open PySem
noncomputable def g5:Nat→Nat
 | 0=>0
 | n+1=>5 * g5 n+1
end L2
namespace L2
open PySem PySem.Spec PyProof.Rows
structure TabG (byText:Bool × Bool) (t:SetTable) (n:Nat):Prop where
 pow:∃ k,3≤k∧t.mask+1=2 ^ k
 dum:t.dummies=#[]
 plain:t.plain=byText.2
 led:t.led=!byText.1
 size:t.place.size=n
 up:t.place.toList.Pairwise (·<·)
 le:∀ j ∈ t.place.toList,j≤t.mask
section
variable {byText:Bool × Bool} {t:SetTable} {n:Nat}
end
end L2
namespace L2
open PySem PySem.Spec PyProof.Rows
section
variable {mask:Nat} {owner:Array (Option Nat)}
end
structure Own (N:Nat) (L:List Nat) (owner:Array (Option Nat)):Prop where
 size:owner.size=N
 nd:L.Nodup
 lt:∀ j ∈ L,j<N
 at_:∀ (m j:Nat),L[m]?=some j→owner[j]?=some (some m)
 no:∀ j,j<N→j ∉ L→owner[j]?=some none
end L2
namespace L2
open PySem PySem.Spec PyProof.Rows
section
variable {prog:Program} {w:World} {A:Around} {E:Value→Shared→Prop} {s:Shared}
end
section
variable {prog:Program} {w:World} {A:Around} {R:Result→Shared→Prop} {I:Addr} {fp wr:List Addr} {G:Array GenState→Array GenState→Prop} {n:Nat} {P:Nat→Value→Prop} {St:Nat→Shared→Prop}
end
section
variable {prog:Program} {w:World} {A:Around} {E:Value→Shared→Prop} {s:Shared}
end
section
variable {prog:Program} {w:World} {A:Around} {E:Value→Shared→Prop} {s:Shared} {a I:Addr} {es:Array (Int × Value)} {ep:Nat} {t:SetTable} {i:Nat}
end
section
variable {X:Cx}
end
end L2
namespace L2
open PySem PySem.Spec PyProof.Rows
section
variable {X:Cx}
def rCatU (K:PySem.W.Frag):R2:=fun x y H Q=>∃ a b xs ys,x=.ref a∧y=.ref b∧SqT K H a xs∧SqT K H b ys∧((xs ≠ []∧H a=some (.tup xs))∨(ys ≠ []∧H b=some (.tup ys)))∧xs.length+ys.length≤sizeLine∧∀ p H',Same H H'→H' p=some (.tup (xs++ys))→Q (.ref p) H'
theorem qBR:OpR X (binaryOp .Add) (rCatU X.K):=by
 intro pins s σ H x y v u Q I rx ry h
 obtain ⟨a,b,xs,ys,rfl,rfl,ha,hb,hd,hz,q⟩:=h
 have nw:∀ p,H p=none→Q (.ref p) (upd H p (.tup (xs++ys))):=fun p hp=>q p _ (fun b u e=>by rw [qA9 (qA6 e hp)];exact e) qA1
 rcases hd with ⟨hx,ga⟩ | ⟨hy,gb⟩
 ·exact op_catT pins s σ H (.ref a) (.ref b) v u Q I rx ry ⟨a,b,xs,ys,rfl,rfl,ha,hb,hx,hz,fun z=>q a H (fun _ _ e=>e) (by rw [z,List.append_nil];exact ga),fun _=>nw⟩
 ·exact op_catA pins s σ H (.ref a) (.ref b) v u Q I rx ry ⟨a,b,xs,ys,rfl,rfl,ha,hb,hy,hz,fun z=>q b H (fun _ _ e=>e) (by rw [z];exact gb),fun _=>nw⟩
end
section
variable {prog:Program} {w:World} {A:Around} {E:Value→Shared→Prop} {s:Shared}
end
section
variable {X:Cx}
end
end L2
namespace L2
open PySem PySem.Spec PyProof.Rows
structure Ex (B:Heap) (l:List Env) (e:Addr) (cls:Value) (dd:Option Addr) (nt:Bool) (h:Heap):Prop where
 stays:B.StaysIn h
 new:B.get? e=none
 frames:h.FunFrames B l
 rec_:∃ (oe:Obj) (vs:Array Value) (x1:Value),h.get? e=some oe∧oe.cls=cls∧oe.dict=dd∧oe.data=.fields vs∧vs[1]?=some x1∧
  ((x1=.none∧nt=false)∨∃ (T:Addr) (oT:Obj) (ts:Array Value) (x3:Value),x1=.ref T∧B.get? T=none∧T ≠ e∧h.get? T=some oT∧oT.data=.fields ts∧ts[3]?=some x3)
section
variable {M:Model} {A:Around} {E:Value→Shared→Prop} {s:Shared} {B:Heap} {env:Env} {outer l:List Env} {L e:Addr} {cls:Value} {dd:Option Addr} {nt:Bool} {Q:Unit→Shared→Prop}
end
end L2
namespace L2
open PySem PySem.Spec PyProof.Rows
def Kp (outer:List Env) (H':Hp) (h0:Heap) (b:Addr):Prop:=(∃ o,H' b=some o)∨((∃ o,h0.get? b=some o)∧b ∉ frs outer)
structure XD (P:Program) (w:World) (outer l:List Env) (H:Hp) (h0:Heap) (e:Addr) (cls:Value) (dd:Option Addr) (H':Hp) (B:Heap) (nt:Bool) (h:Heap):Prop where
 un:Un (frs outer) [] H H' h0 h
 hok:HOk P w H' h
 ex:Ex B l e cls dd nt h
 kp:∀ b o,h.get? b=some o→Kp outer H' h0 b→B.get? b=some o
 ne:H' e=none
 ge:h0.objs.size≤e
def XP (X:Cx) (G:XK) (ev:Value) (s':Shared):Prop:=X.A.frames=some X.stack∧∃ (e:Addr) (cls:Value) (dd:Option Addr) (H':Hp) (B:Heap) (nt:Bool),ev=.ref e∧s'.os=X.s₀.os∧AllBare s'.gens∧XD X.prog X.w X.outer X.stack X.H₀ X.s₀.heap e cls dd H' B nt s'.heap∧G cls dd H'
section
variable {X:Cx} {E:XK} {G:XK} {pins:List (Addr × Obj)} {σ:St} {H:Hp} {s s':Shared}
end
section
variable {P:Program} {w:World} {K:PySem.W.Frag} {mg:Str→Option Value} {base:Heap}
end
end L2
namespace L2
open PySem PySem.Spec PyProof.Rows
section
variable {X:Cx} {pins:List (Addr × Obj)} {σ:St} {H:Hp} {s:Shared} {ev:Value}
end
section
variable {X:Cx}
end
end L2
namespace L2
open PySem PySem.Spec PyProof.Rows
noncomputable def bmV:List Value:=[.type "ValueError",.type "Exception",.type "BaseException",.type "object"]
noncomputable def xcIn (K:PySem.W.Frag) (C:Addr) (init:Option Value):Bool:=match K.lookup C with
 | some ⟨.type "type",_,.cls cd,sl⟩=>(match cd.mro,sl.toList with
  | .ref C'::bm,[_,_,_,_,some (.builtin n),_]=>C' == C && n == "ValueError.__new__" && !cd.hasDel && cd.hasDict && PySem.W.tailIn K bmV bm && PySem.W.nsOkIn K cd.ns && PySem.W.nsIn K cd.ns "__init__" == some init
  | _,_=>false)
 | _=>false
structure XCls (K:PySem.W.Frag) (C:Addr) (init:Option Value):Prop where
 cls:xcIn K C init=true
 set:PySem.W.findIn K (.ref C) "__setattr__" = some (some (.builtin "object.__setattr__"))
 kp:PySem.W.keepIn K (.ref C)=true
section
variable {prog:Program} {w:World} {A:Around} {E:Value→Shared→Prop} {h:Heap} {g:Array GenState} {d:Drawn} {t:Nat} {os:OsState} {K:PySem.W.Frag} {C x:Addr} {init:Option Value} {mA:Str→Option Value} {name:Str} {v:Value} {ns:List Str}
end
end L2
namespace L2
open PySem PySem.Spec PyProof.Rows
section
variable {prog:Program} {w:World} {A:Around} {R:Result→Shared→Prop} {h:Heap} {g:Array GenState} {d:Drawn} {t:Nat} {os:OsState} {K:PySem.W.Frag} {C fI:Addr} {rest:List Value}
end
section
variable {M:Model} {A:Around} {E:Value→Shared→Prop} {env:Env} {K:PySem.W.Frag} {C:Addr} {init:Option Value}
end
section
variable {X:Cx} {pins:List (Addr × Obj)} {σ:St} {H:Hp} {s:Shared}
end
section
variable {X:Cx}
end
end L2
namespace L2
open PySem PySem.Spec PyProof.Rows
structure XGet (K:PySem.W.Frag) (C:Addr):Prop where
 ga:PySem.W.findIn K (.ref C) "__getattribute__" = some (some (.builtin "BaseException.__getattribute__"))
 gt:PySem.W.findIn K (.ref C) "__getattr__" = some none
 be:PySem.W.mroIn K C (.type "BaseException")=some true
 hd:PySem.W.hasDictIn K C=true
section
variable {prog:Program} {w:World} {A:Around} {E:Value→Shared→Prop} {s:Shared} {K:PySem.W.Frag} {x C:Addr} {ox:Obj} {od:Option Obj} {name:Str} {tk:Tok}
end
structure XTy (K:PySem.W.Frag) (C:Addr):Prop extends XGet K C where
 ca:PySem.W.findIn K (.ref C) "__class__" = some (some (.builtin "object.__class__"))
 cn:PySem.W.specialIn K (.builtin "object.__class__") "__get__" = some (some (.builtin "getset_descriptor.__get__"))
 ct:PySem.W.takesIn K (.builtin "object.__class__")=some true
 cm:PySem.W.mroIn K C (.type "object")=some true
section
variable {K:PySem.W.Frag}
end
section
variable {X:Cx}
theorem refs_of:∀ {cs:List Addr} {its:List Value},Vals (cs.map V.ref) its→its=cs.map Value.ref
 | [],_,.nil=>rfl
 | a::l,_,.cons r t=>by
  cases (show _=Value.ref a from r)
  rw [refs_of t]
  rfl
end
end L2
namespace L2
open PySem PySem.Spec PyProof.Rows
structure RoomH (k:Nat) (A:Around):Prop where
 dp:A.depth+3 * k+5<recursionLimit
 un:A.units+16 * k+200<cLine
structure FnOkH (P:Program) (w:World) (K:PySem.W.Frag) (mg:Str→Option Value) (base:Heap) (CX:CXT) (k:Nat) (f:Addr) (fd:FuncData) (ps:List Str) (sp:Sp):Prop where
 len:∀ vs H Q E,sp vs H Q E→vs.length=ps.length
 run:∀ (A:Around) (outer:List Env) (s:Shared) (H:Hp) (args:Args) (us:List Value) (vs:List V) (Q:VK) (E:XK),RoomH k A→Env0 P w K mg base A outer s H→BindsTo s fd args (ps.zip us)→Vals vs us→sp vs H Q E→
  codeAny (model P w) A (.call (.ref f) args) (CR CX outer P w H s Q E) s
section
variable {P:Program} {w:World} {K:PySem.W.Frag} {mg:Str→Option Value} {base:Heap}
end
section
variable {X:Cx} {CX:CXT} {k:Nat} {f C:Addr} {fd:FuncData} {ps:List Str} {sp:Sp} {dvs:List V} {ds:List Value} {E:XK} {x m:Str} {p pos apos:Pos} {e o:Expr} {es:List Expr} {ta:TE} {t:TA}
end
end L2
namespace L2
open PySem PySem.Spec PyProof.Rows
section
variable {X:Cx}
theorem refs_eq {A:Around} {s:Shared} {rs:List Addr} {us vs:List Value} (h1:Vals (rs.map V.ref) us) (h2:Vals (rs.map V.ref) vs):∀ j (j1:j<us.toArray.size) (j2:j<vs.toArray.size),SeqAt.EqAt A s us.toArray[j] vs.toArray[j] true:=by
 have e1:=refs_of h1
 have e2:=refs_of h2
 subst e1
 subst e2
 intro j j1 j2
 exact SeqAt.EqAt.same _
theorem op_ne_refsL (hu:X.A.units<cLine):OpR X (compareOp .NotEq) (fun x y H Q=>∃ (p l:Addr) (rs:List Addr),x=.ref p∧y=.ref l∧SqL X.K H p (rs.map V.ref)∧SqL X.K H l (rs.map V.ref)∧Q (.bl false) H):=by
 intro pins s σ H x y v u Q I rx ry h
 obtain ⟨p,l,zs,rfl,rfl,h1,h2,q⟩:=h
 cases rx
 cases ry
 obtain ⟨us,r1,p1,z1⟩:=I.list h1
 obtain ⟨vs,r2,p2,z2⟩:=I.list h2
 refine PySem.SeqAt.RcNeAt.lists (e:=fun _=>true) p1.isList p2.isList (by simp [← r1.length,← r2.length]) hu (refs_eq r1 r2) _ _ _ _ ⟨.bl false,H,I,?_,q⟩
 have:(List.range us.toArray.size).all (fun _=>true)=true:=by simp
 rw [this]
 rfl
end
end L2
namespace L2
open PySem PySem.Spec PyProof.Rows
section
variable {prog:Program} {w:World} {A:Around} {E:Value→Shared→Prop} {s:Shared}
end
end L2
namespace L2
open PySem PySem.Spec PyProof.Rows
section
variable {X:Cx}
end
end L2
namespace L2
open PySem PySem.Spec PyProof.Rows
section
variable {X:Cx}
end
end L2
namespace L2
open PySem PySem.Spec PyProof.Rows
structure LcScopeO (X:Cx) (scope:Scope) (own:List Str) (fv:List Nat):Prop where
 kind:scope.kind=.function
 names:∀ y ∈ scope.names,y.2=.local→scope.names.lookup y.1=some .local
 cells:∀ y ∈ scope.names,y.2=.cell→scope.names.lookup y.1=some .cell
 frees:∀ y ∈ scope.names,y.2=.free→scope.names.lookup y.1=some .free
 free:∀ y ∈ scope.names,y.2=.free→X.env.kindOf y.1=some .cell∨X.env.kindOf y.1=some .free
 nd:(own++fv.map fun i=>X.N.getD i Str.empty).Nodup
 fvs:∀ i ∈ fv,i<X.N.length∧scope.names.lookup (X.N.getD i Str.empty)=some .free
 owns:∀ x ∈ own,scope.names.lookup x=some .local∨scope.names.lookup x=some .cell
section
variable {X:Cx} {pins:List (Addr × Obj)} {σ:St} {H:Hp} {s:Shared}
end
section
variable {X:Cx} {tg iter elt:Expr} {ifs:List Expr} {scope:Scope} {pos:Pos} {own:List Str} {fv:List Nat} {wi:TI} {g:TG} {tc:TT} {te:TE}
end
end L2
namespace L2
open PySem PySem.Spec PyProof.Rows
noncomputable abbrev tpK (prog:Program) (w:World):=nKind prog w
theorem tp_keep {prog:Program} {w:World} {h h':Heap} {k:List KI} {b:Addr} (x:(tpK prog w).is h k b) (e:∀ o,h.get? b=some o→h'.get? b=some o):(tpK prog w).is h' k b:=by
 obtain ⟨o,its,n,h1,h2⟩:=x
 exact ⟨o,its,n,e _ h1,h2⟩
theorem dT_at {prog:Program} {w:World} {h h':Heap} {d:Addr} {xs:List (List KI × Addr × Value)} (x:h.DictOfH (tpK prog w) d xs) (e:∀ o,h.get? d=some o→h'.get? d=some o) (ek:∀ x ∈ xs,∀ o,h.get? x.2.1=some o→h'.get? x.2.1=some o):h'.DictOfH (tpK prog w) d xs:=by
 obtain ⟨o,es,ep,h1,h2,h3,h4,h5,h6⟩:=x
 exact ⟨o,es,ep,e _ h1,h2,h3,h4,fun x hx=>tp_keep (h5 x hx) (ek x hx),h6⟩
theorem storedH_keys {xs:List (List KI × Addr × Value)} {k:List KI} {b:Addr} {v:Value} {F:Addr→Prop} (hx:∀ x ∈ xs,F x.2.1) (hb:F b):∀ x ∈ storedH xs k b v,F x.2.1:=by
 intro x hm
 unfold storedH at hm
 split at hm
 ·obtain ⟨y,hy,rfl⟩:=List.mem_map.mp hm
  unfold putAt
  split
  ·exact hx y hy
  ·exact hx y hy
 ·rcases List.mem_append.mp hm with h | h
  ·exact hx x h
  ·simp only [List.mem_singleton] at h
   subst h
   exact hb
section
variable {prog:Program} {w:World} {A:Around} {R:Result→Shared→Prop} {I:Addr} {fp wr:List Addr} {n:Nat} {P:Nat→Value→Prop} {St:Nat→Heap→Prop}
theorem dict_runT (hu:A.units+2<cLine) (W:Walks prog w A.in1 I fp wr n P St) (h0:Heap) (d:Addr) (hdf:d ∉ fp) (ps:List (List KI × Addr × Value)) (hn:ps.length=n) (hz:n≤sizeLine)
  (tup:∀ i v,P i v→∃ r k b x,v=.ref r∧r ∉ wr∧r ≠ d∧b ∉ wr∧b ≠ d∧h0.IsTuple r #[.ref b,x]∧(tpK prog w).is h0 k b∧ps[i]?=some (k,b,x)) :
  ∀ (m i:Nat) (j:Int) (tj:Tok) (s:Shared) (kvs:List (List KI × Addr × Value)),n - i=m→i≤n→St i s.heap→s.heap.DictOfH (tpK prog w) d kvs→kvs.length≤i→(∀ x ∈ kvs,x.2.1 ∉ wr)→(∀ b o,b ∉ wr→b ≠ d→h0.get? b=some o→s.heap.get? b=some o)→
  (∀ h' tk,h'.DictOfH (tpK prog w) d ((ps.drop i).foldl (fun m q=>storedH m q.1 q.2.1 q.2.2) kvs)→(∀ b o,b ∉ wr→b ≠ d→h0.get? b=some o→h'.get? b=some o)→R (.ok (.ret .none)) { s with heap:=h',toks:=tk })→
  codeAny (model prog w) A (.builtin "dict.update.loop" ⟨[.ref d,.ref I,.int j tj,.none],[]⟩) R s:=by
 have hdw:d ∉ wr:=fun h=>hdf (W.sub _ h)
 intro m
 induction m with
 | zero=>
  intro i j tj s kvs hm hi st hd hl hkk hk hR
  have e:i=n:=by lia
  refine codeAny_builtin entry_dul ?_
  rw [Around.under_plainId plain_dul _]
  show wpAny _ A.in1 (pyNext (.ref I) >>= _) _ _ s
  refine wpAny_bind (W.done s _ _ (e ▸ st) fun h' tk hk'=>?_)
  show wpAny _ A.in1 (Builtin.Dict.addKeywords d [] >>= fun _=>ret Value.none) _ _ _
  rw [List.drop_of_length_le (by lia)] at hR
  exact wpAny_bind (wpAny_pure (wpAny_pure (hR h' tk (dT_at hd (fun o eo=>hk' d o hdw eo) fun x hx o eo=>hk' _ o (hkk x hx) eo) fun b o hb hbd eb=>hk' b o hb (hk b o hb hbd eb))))
 | succ m ih=>
  intro i j tj s kvs hm hi st hd hl hkk hk hR
  have hlt:i<n:=by lia
  refine codeAny_builtin entry_dul ?_
  rw [Around.under_plainId plain_dul _]
  show wpAny _ A.in1 (pyNext (.ref I) >>= _) _ _ s
  refine wpAny_bind (W.item i s _ _ hlt st fun v h' tk hP st' hk'=>?_)
  obtain ⟨r,k,b,x,rfl,hrw,hrd,hbw,hbd,ht,hkb,ep⟩:=tup i v hP
  have ed:ps.drop i=(k,b,x)::ps.drop (i+1):=by
   obtain ⟨hi',e⟩:=List.getElem?_eq_some_iff.mp ep
   rw [List.drop_eq_getElem_cons hi',e]
  rw [ed] at hR
  have ht2:h'.IsTuple r #[.ref b,x]:=by
   obtain ⟨o,e1,e2,e3⟩:=ht
   exact ⟨o,hk' r o hrw (hk r o hrw hrd e1),e2,e3⟩
  have hkb2:(tpK prog w).is h' k b:=tp_keep hkb fun o eo=>hk' b o hbw (hk b o hbw hbd eo)
  obtain ⟨o,ho,hoc,no,hod⟩:=ht2
  have hd2:h'.DictOfH (tpK prog w) d kvs:=dT_at hd (fun o eo=>hk' d o hdw eo) fun x hx o eo=>hk' _ o (hkk x hx) eo
  refine wpAny_bind (wpAny_holding (wpAny_bind ?_))
  show wpAny _ A.in1 (tryCatch (Builtin.Dict.pairItems (.ref r)) _) _ _ _
  refine wpAny_tryCatch ?_
  unfold Builtin.Dict.pairItems
  refine wpAny_bind (wpAny_typeOf (T:="tuple") ⟨o,ho,hoc⟩ ?_)
  rw [if_pos (by decide)]
  refine wpAny_bind (wpAny_seqItems ho hod (wpAny_pure ?_))
  show wpAny _ A.in1 (holding [Value.ref b,x] (dictSet d (.ref b) x)) _ _ _
  refine wpAny_holding (wpAny_dictSet_heap (hsz:=by lia) (nk_room hu) hkb2 hd2 fun h2 hd3 sb=>?_)
  have len3:(storedH kvs k b x).length≤i+1:=by
   unfold storedH
   split
   ·rw [List.length_map];lia
   ·rw [List.length_append,List.length_singleton];lia
  refine wpAny_pure ⟨plainId_quiet plain_dul _,ih (i+1) _ _ _ (storedH kvs k b x) (by lia) hlt (W.frame _ _ _ st' fun b hb o eb=>?_) hd3 len3 (storedH_keys (F:=fun c=>c ∉ wr) hkk hbw) (fun b o hb hbd eb=>?_) fun h3 tk3 hd4 hk4=>hR h3 tk3 hd4 hk4⟩
  ·rw [sb.2 b (fun z:b=d=>hdf (z ▸ hb))]
   exact eb
  ·rw [sb.2 b hbd]
   exact hk' b o hb (hk b o hb hbd eb)
end
section
variable {prog:Program} {w:World} {A:Around} {E:Value→Shared→Prop} {s:Shared}
theorem call_dict_ofT {l:Addr} {o:Obj} {its:Array Value} {nl:Nat} {ps:List (List KI × Addr × Value)} {Q:Value→Shared→Prop} (hu:A.units+64<cLine) (hA:A.handled=none) (hl:s.heap.get? l=some o) (hc:o.cls=.type "list") (hdat:o.data=.seq its nl) (hdn:o.dict=none) (hn:ps.length=its.size) (hz:its.size≤sizeLine)
  (tup:∀ (i:Nat) v,its[i]?=some v→∃ r k b x,v=.ref r∧s.heap.IsTuple r #[.ref b,x]∧(tpK prog w).is s.heap k b∧ps[i]?=some (k,b,x))
  (h:∀ h' tk,h'.DictOfH (tpK prog w) s.heap.objs.size (ps.foldl (fun m q=>storedH m q.1 q.2.1 q.2.2) [])→(∀ b u,s.heap.get? b=some u→h'.get? b=some u)→Q (.ref s.heap.objs.size) { s with heap:=h',toks:=tk }) :
  wpAny (model prog w) A (call (.type "dict") [.ref l]) Q E s:=by
 refine callType_codes (Q₁:=fun obj s₁=>obj=.ref s.heap.objs.size∧s₁={ s with heap:=s.heap.push { cls:=.type "dict",data:=.dict #[] } }) F.kt_called_dict (F.kt_typeCall_dict_1 _) F.entry_dict_init (kt_code_dict_new _ ⟨rfl,rfl⟩) ?_
 rintro obj s₁ ⟨rfl,rfl⟩
 have nw:(s.heap.push { cls:=.type "dict",data:=.dict #[] }).DictOfH (tpK prog w) s.heap.objs.size []:=Heap.DictOfH.new s.heap
 have hl':(s.heap.push { cls:=.type "dict",data:=.dict #[] }).get? l=some o:=Heap.get?_push_of_some _ hl
 have hll:l<s.heap.objs.size:=Heap.lt_size hl
 refine ⟨nw.typeIs,F.args_dict_init_2 _ _,?_⟩
 unfold Builtin.«dict.__init__»
 refine wpAny_bind ?_
 unfold Builtin.Dict.selfAndRest
 refine wpAny_bind (wpAny_notOrdered_dict nw.typeIs ?_)
 show wpAny _ _ (pure (s.heap.objs.size,[Value.ref l])) _ _ _
 refine wpAny_pure ?_
 show wpAny _ _ (Builtin.Dict.updateFrom "dict.__init__" s.heap.objs.size (.ref l) [] .none) _ _ _
 unfold Builtin.Dict.updateFrom
 refine wpAny_bind (wpAny_typeOf (T:="list") ⟨o,hl',hc⟩ ?_)
 rw [if_pos (by decide)]
 refine wpAny_bind (miss_keys hl' hc hdat hdn hA fun h1 tk1 k1=>?_)
 rw [if_pos (show (none:Option Value).isNone=true from rfl)]
 have hl1:h1.IsList l its:=⟨o,k1 _ _ hl',hc,nl,hdat⟩
 have hlt1:l<h1.objs.size:=Heap.lt_size (k1 _ _ hl')
 have hdl:s.heap.objs.size<h1.objs.size:=by
  obtain ⟨_,_,_,e,_⟩:=nw
  exact Heap.lt_size (k1 _ _ e)
 refine wpAny_bind (wpAny_rule (wpAny_bind (wpAny_pyIter_list hl1 ?_)))
 refine wpAny_pure ⟨plainId_quiet plain_dul _,?_⟩
 refine dict_runT (n:=its.size) ?hu (Walks.list (A:=A.in1.in1) hA _ l (Nat.ne_of_lt hlt1) its) h1 s.heap.objs.size ?_ ps hn hz (fun i v hv=>?_) its.size 0 _ _ _ [] rfl (Nat.zero_le _) ⟨⟨_,Heap.get?_push_size _ rfl,rfl,rfl⟩,hl1.push _⟩ (dT_at nw (fun o eo=>Heap.get?_push_of_some _ (k1 _ _ eo)) fun x hx=>nomatch hx) (Nat.le_refl _) (fun x hx=>nomatch hx) (fun b u hb hbd eb=>Heap.get?_push_of_some _ eb) fun h' tk hd' hk'=>?_
 case hu=>
  show A.units+1+2<cLine
  lia
 ·simp only [List.mem_cons,List.not_mem_nil,or_false,not_or]
  exact ⟨Nat.ne_of_lt hdl,Nat.ne_of_gt hll⟩
 ·obtain ⟨r,k,b,x,e1,e2,e3,e4⟩:=tup i v hv
  obtain ⟨or,hr,hr2,hr3⟩:=e2
  have hrs:=Heap.lt_size hr
  have hbs:b<s.heap.objs.size:=by
   obtain ⟨_,_,_,z,_⟩:=e3
   exact Heap.lt_size z
  refine ⟨r,k,b,x,e1,?_,Nat.ne_of_lt hrs,?_,Nat.ne_of_lt hbs,⟨or,k1 _ _ (Heap.get?_push_of_some _ hr),hr2,hr3⟩,tp_keep e3 fun o eo=>k1 _ _ (Heap.get?_push_of_some _ eo),e4⟩
  ·simp only [List.mem_cons,List.not_mem_nil,or_false]
   exact Nat.ne_of_lt (Nat.lt_trans hrs hdl)
  ·simp only [List.mem_cons,List.not_mem_nil,or_false]
   exact Nat.ne_of_lt (Nat.lt_trans hbs hdl)
 ·refine ⟨rfl,h h' tk hd' fun b u eb=>?_⟩
  have hbs:=Heap.lt_size eb
  refine hk' b u ?_ (Nat.ne_of_lt hbs) (k1 _ _ (Heap.get?_push_of_some _ eb))
  simp only [List.mem_cons,List.not_mem_nil,or_false]
  exact Nat.ne_of_lt (Nat.lt_trans hbs hdl)
end
section
variable {X:Cx}
def pairsT (H:Hp) (K:PySem.W.Frag) (rs:List Addr) (ps:List (List KI × Addr × V)):Prop:=Paired (fun r (q:List KI × Addr × V)=>SqT K H r [.ref q.2.1,q.2.2]∧H q.2.1=some (.tup (q.1.map kI))) rs ps
noncomputable def putAllT (kvs:List (List KI × V)) (ps:List (List KI × Addr × V)):List (List KI × V):=ps.foldl (fun m q=>putK m q.1 q.2.2) kvs
theorem putAllT_len:∀ (ps:List (List KI × Addr × V)) (kvs:List (List KI × V)),(putAllT kvs ps).length≤kvs.length+ps.length
 | [],kvs=>by simp [putAllT]
 | q::ps,kvs=>by
  have:=putAllT_len ps (putK kvs q.1 q.2.2)
  have:=qCP kvs q.1 q.2.2
  show (putAllT (putK kvs q.1 q.2.2) ps).length≤kvs.length+(q::ps).length
  rw [List.length_cons]
  lia
theorem raw_pairsT {pins:List (Addr × Obj)} {σ:St} {H:Hp} {s:Shared} (I:Inv X pins σ H s):∀ {rs:List Addr} {ps:List (List KI × Addr × V)},pairsT H X.K rs ps→
  ∃ qs:List (List KI × Addr × Value),Paired (fun r (q:List KI × Addr × Value)=>s.heap.IsTuple r #[.ref q.2.1,q.2.2]) rs qs∧Paired (fun (p:List KI × Addr × V) (q:List KI × Addr × Value)=>p.1=q.1∧p.2.1=q.2.1∧H p.2.1=some (.tup (p.1.map kI))∧RelV p.2.2 q.2.2) ps qs:=by
 intro rs ps h
 unfold pairsT at h
 induction h with
 | nil=>exact ⟨[],.nil,.nil⟩
 | @cons r q rs ps h t ih=>
  obtain ⟨qs,h1,h2⟩:=ih
  obtain ⟨its,rv,pl,hz⟩:=I.tuple h.1
  obtain ⟨u1,u2,rfl,r1,r2⟩:=vals2 rv
  cases r1
  exact ⟨(q.1,q.2.1,u2)::qs,.cons pl h1,.cons ⟨rfl,rfl,h.2,r2⟩ h2⟩
theorem put_allT {H:Hp}:∀ {ps:List (List KI × Addr × V)} {qs:List (List KI × Addr × Value)} {kvs:List (List KI × V)} {vs:List (List KI × Addr × Value)},Paired (fun (p:List KI × Addr × V) (q:List KI × Addr × Value)=>p.1=q.1∧p.2.1=q.2.1∧H p.2.1=some (.tup (p.1.map kI))∧RelV p.2.2 q.2.2) ps qs→KT H kvs vs→KT H (putAllT kvs ps) (qs.foldl (fun m q=>storedH m q.1 q.2.1 q.2.2) vs):=by
 intro ps qs kvs vs h
 induction h generalizing kvs vs with
 | nil=>exact fun r=>r
 | cons h t ih=>
  intro r
  refine ih ?_
  dsimp only
  rw [← h.1,← h.2.1]
  exact r.put _ h.2.2.1 h.2.2.2
theorem call_dictT (hc:X.calm=true) (hu:X.A.units+64<cLine):CallR X (.type "dict") (fun xs H Q=>∃ (p:Addr) (rs:List Addr) (ps:List (List KI × Addr × V)),xs=[.ref p]∧SqL X.K H p (rs.map V.ref)∧pairsT H X.K rs ps∧∀ d,H d=none→Q (.ref d) (upd H d (.dT (putAllT [] ps)))):=by
 intro pins s σ H xs us Q I r h
 obtain ⟨p,rs,ps,rfl,hq,hp,q⟩:=h
 obtain ⟨u,rfl,rx⟩:=vals1 r
 cases rx
 obtain ⟨its,rv,pl,hz⟩:=I.list hq
 obtain ⟨qs,h1,h2⟩:=raw_pairsT I hp
 have l0:=rv.length
 rw [List.length_map] at l0
 have l1:rs.length=qs.length:=Paired.length h1
 have l2:ps.length=qs.length:=Paired.length h2
 obtain ⟨o,ho,hoc,hod,n,hdat⟩:=plain_parts pl
 rw [List.length_map] at hz
 refine call_dict_ofT (ps:=qs) hu (I.ok.hd hc) ho hoc hdat hod (by simp;lia) (by simp;lia) (fun i v hv=>?_) fun h' tk hd' hk=>?_
 ·have hv':its[i]?=some v:=by simpa using hv
  have hi:i<rs.length:=by rw [l0];exact (List.getElem?_eq_some_iff.mp hv').1
  obtain ⟨u,hu,ru⟩:=rv.get (i:=i) (x:=.ref rs[i]) (by rw [List.getElem?_map,List.getElem?_eq_getElem hi];rfl)
  rw [hv'] at hu
  cases hu
  cases ru
  obtain ⟨b,hb,ht⟩:=pair_get h1 (List.getElem?_eq_getElem hi)
  obtain ⟨b',hb',e1,e2,e3,e4⟩:=pair_get h2 (i:=i) (a:=ps[i]'(by lia)) (List.getElem?_eq_getElem _)
  rw [hb] at hb'
  cases hb'
  rw [e1,e2] at e3
  exact ⟨rs[i],b.1,b.2.1,b.2.2,rfl,ht,key_of I.hok e3,hb⟩
 ·have z:(putAllT [] ps).length≤sizeLine:=by
   have:=putAllT_len ps []
   simp at this
   lia
  have hn:H s.heap.objs.size=none:=I.hok.fresh (Nat.le_refl _)
  obtain ⟨o,es,ep,d1,d2,d3,d4,_,d5⟩:=hd'
  refine ⟨.ref s.heap.objs.size,_,I.laid (a:=s.heap.objs.size) (o:=.dT (putAllT [] ps)) (t':=tk) hk (Nat.le_refl _) ⟨z,beq_eq_false_iff_ne.mpr (Ne.symm (Nat.ne_of_lt I.big)),_,(put_allT h2 .nil).keeps fun c ys ec=>?_,o,es,ep,d1,d2,d3,d4,d5⟩,rfl,q _ hn⟩
  first
   | exact ec
   | (rw [qA9 (qA6 ec hn)];exact ec)
end
end L2
namespace L2
open PySem PySem.Spec PyProof.Rows
theorem bt_any:bootBuiltins "any" = some (.builtin "any"):=by decide +kernel
theorem range_any' (bs:List Bool):((List.range bs.length).any fun i=>(bs[i]?).getD false)=bs.any id:=by
 rw [Bool.eq_iff_iff,List.any_eq_true,List.any_eq_true]
 constructor
 ·rintro ⟨i,hi,h⟩
  have hi':=List.mem_range.mp hi
  rw [List.getElem?_eq_getElem hi'] at h
  exact ⟨_,List.getElem_mem hi',h⟩
 ·rintro ⟨b,hb,h⟩
  obtain ⟨i,hi,e⟩:=List.getElem_of_mem hb
  exact ⟨i,List.mem_range.mpr hi,by rw [List.getElem?_eq_getElem hi,e];exact h⟩
section
variable {X:Cx}
theorem call_any (hc:X.calm=true):CallR X (.builtin "any") (fun xs H Q=>∃ (p:Addr) (bs:List Bool),xs=[.ref p]∧SqL X.K H p (bs.map V.bl)∧Q (.bl (bs.any id)) H):=by
 intro pins s σ H xs us Q I r h
 obtain ⟨p,bs,rfl,hq,q⟩:=h
 obtain ⟨u,rfl,rx⟩:=vals1 r
 cases rx
 obtain ⟨its,rv,pl,hz⟩:=I.list hq
 have hl:=pl.isList
 have hlt:p<s.heap.objs.size:=by obtain ⟨_,e,_⟩:=hl;exact Heap.lt_size e
 have hlen:=rv.length
 rw [List.length_map] at hlen
 refine call_any_walk (wpAny_pyIter_list hl ?_)
 refine ⟨s.heap.objs.size,[s.heap.objs.size,p],[s.heap.objs.size],its.toArray.size,_,_,fun i=>(bs[i]?).getD false,rfl,Walks.list (A:=X.A.in1) (I.ok.hd hc) _ p (Nat.ne_of_lt hlt) its.toArray,
  ⟨⟨_,Heap.get?_push_size _ rfl,rfl,rfl⟩,hl.push _⟩,fun i v s' Q' E' hP hQ=>?_,fun h' tk hk=>?_⟩
 ·have hP':its[i]?=some v:=by simpa using hP
  have hi:i<bs.length:=by rw [hlen];exact (List.getElem?_eq_some_iff.mp hP').1
  obtain ⟨u,hu,ru⟩:=rv.get (i:=i) (x:=.bl bs[i]) (by rw [List.getElem?_map,List.getElem?_eq_getElem hi];rfl)
  rw [hP'] at hu
  cases hu
  cases ru
  dsimp only at hQ
  rw [List.getElem?_eq_getElem hi,Option.getD_some] at hQ
  exact wpAny_truthy_bool hQ
 ·have e:((List.range its.toArray.size).any fun i=>(bs[i]?).getD false)=bs.any id:=by
   rw [List.size_toArray,← hlen];exact range_any' bs
  refine ⟨.bl (bs.any id),H,I.kept fun b x e=>hk b x (fun hm=>by rw [List.mem_singleton.mp hm] at e;exact Nat.lt_irrefl _ (Heap.lt_size e)) (Heap.get?_push_of_some _ e),?_,q⟩
  rw [e]
  rfl
end
end L2
namespace L2
open PySem PySem.Spec PyProof.Rows
section
variable {prog:Program} {w:World} {A:Around} {E:Value→Shared→Prop} {s:Shared}
end
section
variable {prog:Program} {w:World} {A:Around} {E:Value→Shared→Prop} {s:Shared}
end
section
variable {X:Cx}
theorem op_isnotB:OpR X (compareOp .IsNot) (fun x y H Q=>∃ a b:Bool,x=.bl a∧y=.bl b∧Q (.bl (a != b)) H):=by
 intro pins s σ H x y v u Q I rx ry h
 obtain ⟨a,b,rfl,rfl,q⟩:=h
 cases rx
 cases ry
 exact wpAny_isNot_plain (by cases a <;> cases b <;> rfl) ⟨.bl (a != b),H,I,by cases a <;> cases b <;> rfl,q⟩
end
end L2
namespace L2
open PySem PySem.Spec PyProof.Rows
section
variable {X:Cx}
end
end L2
namespace HT
open PySem PySem.Spec PyProof.Rows
section
variable {prog:Program} {w:World} {A:Around} {E:Value→Shared→Prop} {s:Shared}
theorem getItem_tuple_whole {t sl:Addr} {items:Array Value} {vl vu:Value} {lo hi:Option Int} {Q:Value→Shared→Prop} (ht:IsTup s.heap t items) (hs:s.heap.IsSliceOf sl vl vu .none) (pl:IsPart vl lo) (pu:IsPart vu hi)
  (hw:sIx items.size 0 lo=0∧sIx items.size items.size hi=items.size) (h:Q (.ref t) s):wpAny (model prog w) A (getItem (.ref t) (.ref sl)) Q E s:=by
 obtain ⟨os,hos,hcs,hds⟩:=id hs
 have hTs:s.TypeIs (.ref sl) "slice":=⟨os,hos,hcs⟩
 unfold getItem
 try with_reducible refine wpAny_holding ?_
 first | refine wpAny_bind (wpAny_pure ?_) | skip
 refine wpAny_bind (wpAny_sequenceKey ht.typeIs (by decide) ?_)
 refine wpAny_bind (wpAny_callSpecial?_slot (name:=Str.ofString "__getitem__") ht.typeIs PyProof.Rows.slot_tuple_getitem
  (wpAny_call_entry PyProof.Rows.slot_tuple_getitem ht.typeIs entry_tuple_getitem ?_ (args_tuple_getitem _ _)))
 show wpAny _ _ (Builtin.Tuple.tupleItemsOf (.ref t) >>= _) _ _ s
 refine wpAny_bind (tupleItemsOf_ ht ?_)
 refine wpAny_bind (wpAny_typeOf hTs ?_)
 rw [if_pos (by decide)]
 refine wpAny_bind (qCT hs pl pu ?_)
 have hyes:(((sIx items.size 0 lo:Nat):Int) == 0 && (1:Int) == 1 && (sIx items.size items.size hi - sIx items.size 0 lo) == items.size)=true:=by
  rw [hw.1,hw.2]
  simp
 show wpAny _ _ (if (((sIx items.size 0 lo:Nat):Int) == 0 && (1:Int) == 1 && (sIx items.size items.size hi - sIx items.size 0 lo) == items.size)=true then _ else _) _ _ s
 rw [if_pos hyes]
 unfold Builtin.Tuple.tupleIsExact
 refine wpAny_bind (wpAny_bind (wpAny_typeOf ht.typeIs (wpAny_pure ?_)))
 rw [if_pos (by decide)]
 exact wpAny_bind (wpAny_rule (wpAny_pure ⟨_,rfl,wpAny_pure h⟩))
end
end HT
namespace L2
open PySem PySem.Spec PyProof.Rows
section
variable {X:Cx}
end
section
variable {A:Around} {s:Shared}
end
section
variable {X:Cx}
end
end L2
namespace L2
open PySem PySem.Spec PyProof.Rows
section
variable {X:Cx}
end
end L2
namespace L2
open PySem PySem.Spec PyProof.Rows
section
variable {X:Cx} {e:Expr} {te:TE} {st:Option Expr} {tst:TO} {pos p2:Pos}
end
end L2
namespace L2
open PySem PySem.Spec PyProof.Rows
section
variable {X:Cx}
end
end L2
namespace L2
open PySem PySem.Spec PyProof.Rows
section
variable {prog:Program} {w:World} {A:Around} {E:Value→Shared→Prop} {s:Shared}
end
section
variable {X:Cx}
end
end L2
namespace L2
open PySem PySem.Spec PyProof.Rows
theorem for_zip {K:PySem.W.Frag} {b:Bool} {l m:Addr} {xs ys:List V} {g:TG} {tb:TS} {D:Ends} {σ0:St} {H0:Hp} (hlen:xs.length=ys.length) (Pv:Nat→St→Hp→Prop) (h0:Pv 0 σ0 H0) (hl:∀ i σ H,i≤xs.length→Pv i σ H→SqB b K H l xs∧SqB b K H m ys)
  (hs:∀ i x y σ H T,xs[i]?=some x→ys[i]?=some y→Pv i σ H→H T=none→g (.ref T) σ (upd H T (.tup [x,y])) fun σ2 H2=>tb { D with nx:=Pv (i+1),ct:=Pv (i+1),bk:=D.nx } σ2 H2)
  (hd:∀ σ H,Pv xs.length σ H→D.nx σ H) :
  ∃ W:Nat→Nat→St→Hp→Prop,(∃ m,W 0 m σ0 H0)∧∀ i n σ H,W i n σ H→
   ((Itz K b l m).stop i H∧D.nx σ H)∨((Itz K b l m).go i H∧∃ N:St→Hp→Prop,(∀ σ' H',N σ' H'→∃ m',m'<n∧W (i+1) m' σ' H')∧∀ x H',(Itz K b l m).yld i H x H'→g x σ H' fun σ2 H2=>tb { D with nx:=N,ct:=N,bk:=D.nx } σ2 H2):=by
 refine ⟨fun i n σ H=>n=xs.length - i∧i≤xs.length∧Pv i σ H,⟨xs.length,by simp,Nat.zero_le _,h0⟩,?_⟩
 rintro i n σ H ⟨rfl,hi,q⟩
 have hq:=hl i σ H hi q
 by_cases hlt:i<xs.length
 ·refine .inr ⟨⟨xs,ys,xs[i],ys[i]'(by lia),hq.1,hq.2,by simp [hlt],List.getElem?_eq_getElem _⟩,Pv (i+1),fun σ' H' p'=>⟨xs.length - (i+1),by lia,rfl,hlt,p'⟩,fun v H' y=>?_⟩
  obtain ⟨T,x,y,hT,e1,e2,yy⟩:=y
  subst e1 e2
  exact hs i x y σ H T (yy xs ys hq.1 hq.2).1 (yy xs ys hq.1 hq.2).2 q hT
 ·have e:i=xs.length:=by lia
  subst e
  exact .inl ⟨⟨xs,hq.1,.inl (Nat.le_refl _)⟩,hd σ H q⟩
end L2
namespace L2
open PySem PySem.Spec PyProof.Rows
section
variable {prog:Program} {w:World} {A:Around} {R:Result→Shared→Prop} {h:Heap} {g:Array GenState} {d:Drawn} {t:Nat} {os:OsState} {K:PySem.W.Frag} {C fI:Addr} {rest:List Value}
end
end L2
namespace L2
open PySem PySem.Spec PyProof.Rows
section
variable {X:Cx}
def TB:Type:=(St→XK)→TS
end
end L2
namespace L2
open PySem PySem.Spec PyProof.Rows
section
variable {prog:Program} {w:World} {A:Around} {E:Value→Shared→Prop} {s:Shared}
end
section
variable {X:Cx} {pos:Pos}
end
end L2
namespace L2
open PySem PySem.Spec PyProof.Rows
section
variable {X:Cx} {tg:Expr}
end
end L2
namespace L2
open PySem PySem.Spec PyProof.Rows
section
variable {prog:Program} {w:World} {A:Around} {E:Value→Shared→Prop} {s:Shared} {it d:Addr} {i n ep:Nat} {od:Obj} {es:Array DictEntry}
theorem ents_iter {Q:Value→Shared→Prop} (hT:s.TypeIs (.ref d) "dict") (hd:(d == sysModules)=false) (ho:s.heap.get? d=some od) (he:od.data=.dict es ep)
  (hQ:Q (.ref s.heap.objs.size) { s with heap:=s.heap.push { cls:=.type "dict_keyiterator",data:=.fields #[.ref d,rawInt 0,rawInt es.size,rawInt ep] } }):wpAny (model prog w) A (pyIter (.ref d)) Q E s:=by
 apply wpAny_pyIter_slot hT F.slot_dict_iter
 refine wpAny_call_entry F.slot_dict_iter hT F.entry_dict_iter ?go (F.args_dict_iter_1 (.ref d))
 unfold Builtin.«dict.__iter__»
 apply wpAny_bind
 unfold Builtin.Dict.dictSlotNone
 apply wpAny_bind
 apply wpAny_notOrdered_dict hT
 apply wpAny_pure
 apply wpAny_bind
 apply wpAny_pure
 apply wpAny_bind
 unfold Builtin.Dict.showsAll
 rw [hd]
 apply wpAny_pure
 apply wpAny_bind
 apply wpAny_dictEntries ho he
 apply wpAny_bind
 apply wpAny_dictEpoch ho he
 apply wpAny_bind
 refine wpAny_newObj_type ?made
 apply wpAny_pure
 exact ⟨_,rfl,"dict_keyiterator",_,⟨_,Heap.get?_push_size _ rfl,rfl⟩,F.slot_dict_keyiterator_next.lookup,hQ⟩
def AtKey (h:Heap) (it d:Addr) (i n ep:Nat):Prop:=h.get? it=some { cls:=.type "dict_keyiterator",data:=.fields #[.ref d,rawInt i,rawInt n,rawInt ep] }
theorem ents_item {Q:Option Value→Shared→Prop} (hit:AtKey s.heap it d i es.size ep) (ho:s.heap.get? d=some od) (he:od.data=.dict es ep) (hi:i<es.size)
  (hQ:∀ h',AtKey h' it d (i+1) es.size ep→Heap.SameBut it s.heap h'→Q (some es[i].key) { s with heap:=h' }):wpAny (model prog w) A (pyNext (.ref it)) Q E s:=by
 have hT:s.TypeIs (.ref it) "dict_keyiterator":=⟨_,hit,rfl⟩
 unfold pyNext
 apply wpAny_bind
 apply wpAny_attempt
 apply wpAny_callSpecial?_slot (name:=Str.ofString "__next__") hT F.slot_dict_keyiterator_next
 refine wpAny_call_entry F.slot_dict_keyiterator_next hT F.entry_dict_keyiterator_next ?go (F.args_dict_keyiterator_next_1 (.ref it))
 apply wpAny_bind
 apply wpAny_pure
 apply wpAny_bind
 apply wpAny_bind
 apply wpAny_bind
 first | apply wpAny_typeNameOfWhole_keyiter hT | apply wpAny_typeNameOf_keyiter hT
 apply wpAny_pure
 apply wpAny_bind
 refine wpAny_fieldsOf hit rfl ?fs
 have own0:Builtin.Dict_items.ownsTuple "dict_keyiterator" = false:=by decide
 have nn:((Value.ref d == Value.none)=true)→False:=fun z=>by cases z
 simp only [own0,Bool.false_eq_true,if_false]
 show wpAny _ _ (if (Value.ref d == Value.none)=true then _ else _) _ _ s
 rw [if_neg nn]
 apply wpAny_bind
 apply wpAny_pure
 apply wpAny_bind
 apply wpAny_dictEntries ho he
 rw [if_neg (by simp)]
 apply wpAny_bind
 apply wpAny_pure
 apply wpAny_bind
 apply wpAny_dictEpoch ho he
 rw [if_neg (by simp)]
 apply wpAny_pure
 have pos:¬ ((i:Int)<0):=Int.not_lt.mpr (Int.natCast_nonneg i)
 simp only [pos,if_false,Int.toNat_natCast,Array.getElem?_eq_getElem hi]
 apply wpAny_bind
 apply wpAny_bind
 first | apply wpAny_typeNameOfWhole_keyiter hT | apply wpAny_typeNameOf_keyiter hT
 apply wpAny_pure
 apply wpAny_bind
 apply wpAny_isOneOf_keyiter hT
 show wpAny _ _ (setField (.ref it) 1 (rawInt ((i:Int)+1)) >>= _) _ _ s
 apply wpAny_bind
 refine wpAny_setField hit rfl (by show 1<4;decide) ?set
 have hit':AtKey (s.heap.update it (Obj.mapFields (·.setIfInBounds 1 (rawInt ((i:Int)+1))))) it d (i+1) es.size ep:=Heap.get?_update_self _ hit rfl
 apply wpAny_bind
 apply wpAny_holding
 apply wpAny_bind
 refine wpAny_isOneOf_keyiter (s:={ s with heap:=s.heap.update it (Obj.mapFields (·.setIfInBounds 1 (rawInt ((i:Int)+1)))) }) ⟨_,hit',rfl⟩ ?one
 apply wpAny_pure
 apply wpAny_pure
 exact ⟨_,rfl,wpAny_pure (hQ _ hit' (Heap.SameBut.update ..))⟩
theorem ents_end {Q:Option Value→Shared→Prop} (hh:A.handled=none) (hit:AtKey s.heap it d i es.size ep) (hi:es.size≤i) (ho:s.heap.get? d=some od) (he:od.data=.dict es ep)
  (hQ:∀ h',Heap.ExtBut it s.heap h'→Q none { s with heap:=h' }):wpAny (model prog w) A (pyNext (.ref it)) Q E s:=by
 have hT:s.TypeIs (.ref it) "dict_keyiterator":=⟨_,hit,rfl⟩
 unfold pyNext
 apply wpAny_bind
 apply wpAny_attempt
 apply wpAny_callSpecial?_slot (name:=Str.ofString "__next__") hT F.slot_dict_keyiterator_next
 refine wpAny_call_entry F.slot_dict_keyiterator_next hT F.entry_dict_keyiterator_next ?go (F.args_dict_keyiterator_next_1 (.ref it))
 apply wpAny_bind
 apply wpAny_pure
 apply wpAny_bind
 apply wpAny_bind
 apply wpAny_bind
 first | apply wpAny_typeNameOfWhole_keyiter hT | apply wpAny_typeNameOf_keyiter hT
 apply wpAny_pure
 apply wpAny_bind
 refine wpAny_fieldsOf hit rfl ?fs
 have own0:Builtin.Dict_items.ownsTuple "dict_keyiterator" = false:=by decide
 have nn:((Value.ref d == Value.none)=true)→False:=fun z=>by cases z
 simp only [own0,Bool.false_eq_true,if_false]
 show wpAny _ _ (if (Value.ref d == Value.none)=true then _ else _) _ _ s
 rw [if_neg nn]
 apply wpAny_bind
 apply wpAny_pure
 apply wpAny_bind
 apply wpAny_dictEntries ho he
 rw [if_neg (by simp)]
 apply wpAny_bind
 apply wpAny_pure
 apply wpAny_bind
 apply wpAny_dictEpoch ho he
 rw [if_neg (by simp)]
 apply wpAny_pure
 have pos:¬ ((i:Int)<0):=Int.not_lt.mpr (Int.natCast_nonneg _)
 simp only [pos,if_false,Int.toNat_natCast,Array.getElem?_eq_none hi]
 apply wpAny_bind
 apply wpAny_bind
 first | apply wpAny_typeNameOfWhole_keyiter hT | apply wpAny_typeNameOf_keyiter hT
 apply wpAny_pure
 show wpAny _ _ (setField (.ref it) 0 .none >>= _) _ _ s
 apply wpAny_bind
 refine wpAny_setField hit rfl (by show 0<4;decide) ?set
 have eb:Heap.ExtBut it s.heap (s.heap.update it (Obj.mapFields (·.setIfInBounds 0 Value.none))):=fun b o hb e=>(Heap.get?_update_other _ _ (Ne.symm hb)).trans e
 show wpAny _ _ (newExc (.type "StopIteration") [] >>= _) _ _ _
 apply wpAny_bind
 simp only [newExc,newTuple]
 apply wpAny_bind
 refine wpAny_newObj_type ?t1 (by size_fits)
 refine wpAny_bind (m:=firstArgMember _ _) (wpAny_of_eq (a:=Value.none) (by first | rfl | (simp only [firstArgMember];rfl)) ?t2)
 refine wpAny_newObj_type ?t3 (by size_fits)
 simp only [raiseNew]
 apply wpAny_bind
 apply wpAny_handled
 rw [show A.in1.handled=none from hh]
 first | apply wpAny_throw | (apply wpAny_bind;apply wpAny_pure;apply wpAny_throw)
 apply wpAny_bind
 refine wpAny_isInstance (T:="StopIteration") (b:=true) ⟨_,Heap.get?_push_size _ rfl,rfl⟩ isSubtype_stop ?t4
 exact wpAny_pure (hQ _ ((eb.push _).push _))
end
section
variable {X:Cx} {tg:Expr}
def tFrzT (t:TE):TE:=fun σ H Q=>t σ H fun v H1=>∃ d kvs,v=.ref d∧H1 d=some (.dT kvs)∧∀ o,Q v (upd H1 d (.frz o (.dT kvs)))
theorem Inv.freezeT {pins:List (Addr × Obj)} {σ:St} {H:Hp} {s:Shared} {d:Addr} {kvs:List (List KI × V)} (I:Inv X pins σ H s) (h:H d=some (.dT kvs)):∃ o,Inv X pins σ (upd H d (.frz o (.dT kvs))) s:=by
 have ok:=I.hok d _ h
 obtain ⟨hz,hd,xs,rel,o,es,ep,ho,r⟩:=id ok
 refine ⟨o,I.write (h':=s.heap) (t':=s.toks) (x:=d) (e:=d) (o:=.frz o (.dT kvs)) (by rw [h];trivial) (.inl rfl) (fun b u _ q=>q) ⟨o,ho⟩ ⟨ho,?_⟩⟩
 refine (show ObjOk X.prog X.w H s.heap d (.dT kvs) from ok).stay (fun b u _ q=>q) (fun b q=>?_) (fun b ys q=>?_) fun b t q=>?_
 ·rw [qA9 (ne_of q h (by intro z;cases z))];exact q
 ·rw [qA9 (ne_of q h (by intro z;cases z))];exact q
 ·rw [qA9 (ne_of q h (by intro z;cases z))];exact q
theorem pe_frzT {e:Expr} {t:TE} (he:PE X e t):PE X e (tFrzT t):=by
 intro pins s σ H Q I h
 refine thn (he pins s σ H _ I h) fun v s1 ⟨x,H1,I1,r1,d,kvs,e,hd,q⟩=>?_
 obtain ⟨o,I2⟩:=I1.freezeT hd
 exact ⟨x,_,I2,r1,q o⟩
def ItT (a:Addr) (o:Obj) (kvs:List (List KI × V)):It:=
 ⟨fun i H=>i<kvs.length∧H a=some (.frz o (.dT kvs)),fun i H x H'=>H'=H∧∃ k v r,kvs[i]?=some (k,v)∧x=.ref r∧H r=some (.tup (k.map kI)),fun i H=>kvs.length≤i∧H a=some (.frz o (.dT kvs))⟩
theorem Inv.heldT {pins:List (Addr × Obj)} {σ:St} {H:Hp} {s:Shared} {d:Addr} {o:Obj} {kvs:List (List KI × V)} (I:Inv X pins σ H s) (h:H d=some (.frz o (.dT kvs))) :
  s.heap.get? d=some o∧(d == sysModules)=false∧o.cls=.type "dict"∧∃ es ep,o.data=.dict es ep∧es.size=kvs.length∧∀ (i:Nat) (hi:i<es.size),∃ k v r,kvs[i]?=some (k,v)∧es[i].key=.ref r∧H r=some (.tup (k.map kI)):=by
 obtain ⟨ho,hz,hd,xs,rel,o',es,ep,ho',hc,hdat,eq,nd⟩:=(show ObjOk X.prog X.w H s.heap d (.frz o (.dT kvs)) from I.hok d _ h)
 rw [ho] at ho'
 cases ho'
 have lx:xs.length=kvs.length:=rel.length.symm
 have le:es.size=xs.length:=by rw [← Array.length_toList,eq,List.length_map]
 refine ⟨ho,hd,hc.1,es,ep,hdat,le.trans lx,fun i hi=>?_⟩
 have hi2:i<xs.length:=by lia
 have hi3:i<kvs.length:=by lia
 have h1:=List.getElem?_eq_getElem hi3
 obtain ⟨x,hx,e1,e2,e3⟩:=pair_get rel h1
 refine ⟨kvs[i].1,kvs[i].2,x.2.1,h1,?_,e2⟩
 have h3:es[i]?=some (entryOfKey (nKind X.prog X.w) x):=by rw [← Array.getElem?_toList,eq,List.getElem?_map,hx];rfl
 rw [Array.getElem?_eq_getElem hi] at h3
 rw [Option.some.inj h3]
 rfl
theorem turn_dictT {P:Program} {w:World} {K:PySem.W.Frag} {tg:Expr} (a it:Addr) (o:Obj) (kvs:List (List KI × V)) (ep:Nat) (es:_) (ho:o.data=.dict es ep):Turn P w K tg (ItT a o kvs) [it] it (fun i h=>AtKey h it a i kvs.length ep) where
 mem:=by simp
 obj:=fun i h st b hb=>by
  have e:b=it:=by simpa using hb
  subst e
  exact ⟨_,st,fun v z=>by cases z⟩
 keep:=fun i h h' st k=>k it (by simp) _ st
 item:=by
  intro X hP hw hK hc i pins s σ H E I hf st hg
  subst hP hw hK
  obtain ⟨hi,hq⟩:=hg
  obtain ⟨e1,e2,e3,es',ep',e4,e5,get⟩:=I.heldT hq
  rw [ho] at e4
  cases e4
  obtain ⟨f0,f1,f2,f3,f4,f5⟩:=hf it (by simp)
  rw [← e5] at st
  have hi2:i<es.size:=by lia
  obtain ⟨k,v,r,g1,g2,g3⟩:=get i hi2
  refine ents_item st e1 ho hi2 fun h' hit' hs'=>?_
  have I1:Inv X pins σ H { s with heap:=h' }:=I.turned (t':=s.toks) (fun b o hb e=>(hs'.2 b hb).trans e) f0 f1 f3 f4 f5
  rw [e5] at hit'
  rw [g2]
  exact ⟨.ref r,rfl,go_of (s:={ s with heap:=h' }) hit' rfl rfl (by decide) ⟨.ref r,H,I1,rfl,⟨rfl,k,v,r,g1,rfl,g3⟩,hit',fun b hb=>(hf b hb).1⟩⟩
 done:=by
  intro X hP hw hK hc i pins s σ H E I hf st hg
  subst hP hw hK
  obtain ⟨hi,hq⟩:=hg
  obtain ⟨e1,e2,e3,es',ep',e4,e5,get⟩:=I.heldT hq
  rw [ho] at e4
  cases e4
  obtain ⟨f0,f1,f2,f3,f4,f5⟩:=hf it (by simp)
  rw [← e5] at st
  exact ents_end (I.ok.hd hc) st (by lia) e1 ho fun h' eb=>⟨rfl,I.turned (t':=s.toks) (fun b o hb e=>eb b o hb e) f0 f1 f3 f4 f5⟩
 self:=fun _ _ _ _ _ st h=>wpAny_pyIter_keyiter ⟨_,st,rfl,rfl⟩ h
def iDictT (tl:TE):TI:=fun σ H R=>tl σ H fun x H1=>∃ a o kvs,x=.ref a∧H1 a=some (.frz o (.dT kvs))∧R (ItT a o kvs) H1
theorem pi_dictT {l:Expr} {tl:TE} (hl:PE X l tl):PI X tg l (iDictT tl):=by
 intro pins s σ H R I h
 refine thn (hl pins s σ H _ I h) fun v s1 ⟨x,H1,I1,r1,q1⟩=>?_
 obtain ⟨a,o,kvs,e,hq,q⟩:=q1
 subst e
 cases r1
 obtain ⟨e1,e2,e3,es,ep,e4,e5,get⟩:=I1.heldT hq
 refine ents_iter ⟨_,e1,e3⟩ e2 e1 e4 ?_
 refine ⟨s1.heap.objs.size,[s1.heap.objs.size],_,_,H1,rfl,I1.kept (t':=s1.toks) fun b o e=>Heap.get?_push_of_some _ e,turn_dictT a _ o kvs ep es e4,by rw [e5];exact Heap.get?_push_size _ rfl,fun b hb=>?_,q⟩
 have e:b=s1.heap.objs.size:=by simpa using hb
 subst e
 exact I1.fpOk (Nat.le_refl _) (I1.hok.fresh (Nat.le_refl _))
end
theorem lc_dictT {a:Addr} {o:Obj} {kvs:List (List KI × V)} {g:TG} {tc:TT} {te:TE} {Kf:Hp→Prop} {σ0:St} {H0:Hp} {p:Addr} (Pv:Nat→St→Hp→Prop) (h0:Pv 0 σ0 H0) (hl:∀ i σ H,i≤kvs.length→Pv i σ H→H a=some (.frz o (.dT kvs)))
  (hs:∀ i k v r σ H,kvs[i]?=some (k,v)→H r=some (.tup (k.map kI))→Pv i σ H→g (.ref r) σ H fun σ2 H2=>tc σ2 H2 fun b H3=>if b=true then te σ2 H3 fun y H4=>∃ ys,H4 p=some (.lst ys)∧ys.length<sizeLine∧Pv (i+1) σ2 (upd H4 p (.lst (ys++[y]))) else Pv (i+1) σ2 H3)
  (hd:∀ σ H,Pv kvs.length σ H→Kf H) :
  LcG (ItT a o kvs) g tc te Kf σ0 H0 p:=by
 refine ⟨fun i m σ H=>m=kvs.length - i∧i≤kvs.length∧Pv i σ H,⟨kvs.length,by simp,Nat.zero_le _,h0⟩,?_⟩
 rintro i m σ H ⟨rfl,hi,q⟩
 have hq:=hl i σ H hi q
 by_cases hlt:i<kvs.length
 ·refine .inr ⟨⟨hlt,hq⟩,Pv (i+1),fun σ' H' p'=>⟨kvs.length - (i+1),by lia,rfl,hlt,p'⟩,fun x H' y=>?_⟩
  obtain ⟨e,k,v,r,e2,e3,e4⟩:=y
  subst e e3
  exact hs i k v r σ _ e2 e4 q
 ·have e:i=kvs.length:=by lia
  subst e
  exact .inl ⟨⟨Nat.le_refl _,hq⟩,hd σ H q⟩
section
variable {X:Cx} {k v:Expr} {tk tv:TE} {pos:Pos}
def tDisp1T (tk tv:TE):TE:=fun σ H Q=>∀ p,H p=none→tk σ (upd H p (.dT [])) fun x H1=>tv σ H1 fun y H2=>H2 p=some (.dT [])∧∃ b ks,x=.ref b∧H2 b=some (.tup (ks.map kI))∧Q (.ref p) (upd H2 p (.dT [(ks,y)]))
theorem pe_disp1T (hu:X.A.units+2<cLine) (hk:PE X k tk) (hv:PE X v tv):PE X (.Dict [some k] [v] pos) (tDisp1T tk tv):=by
 intro pins s σ H Q I q
 have hn:=I.hok.fresh (Nat.le_refl s.heap.objs.size)
 have I1:=I.laid (a:=s.heap.objs.size) (o:=.dT []) (h':=s.heap.push { cls:=.type "dict",data:=.dict #[] }) (t':=s.toks) (fun _ _ q=>Heap.get?_push_of_some _ q) (Nat.le_refl _) (dt_empty s.heap I.big)
 rw [arm_eval_Dict,zip_pairTrees [some k] [v] X.env pos rfl rfl,dictDisplay_pairs _ (by intro z;cases z) (by show 1<17;decide)]
 apply wpAny_bind
 apply wpAny_standAt
 apply wpAny_bind
 unfold subDict
 apply wpAny_bind
 refine wpAny_alloc ?_
 apply wpAny_bind
 apply wpAny_holding
 rw [if_pos (show (pairTrees [some k] [v] X.env pos).length≤15 by show 1≤15;decide)]
 apply wpAny_bind
 refine pairTrees_cons_walk (thn (hk pins _ σ _ _ I1 (q _ hn)) fun u s1 ⟨x,H1,I2,rx,q1⟩=>thn (hv pins _ σ _ _ I2 q1) fun r s2 ⟨y,H2,I3,ry,e,b,ks,ex,eb,q2⟩=>pairTrees_nil_walk ?_)
 subst ex
 obtain rfl:u=Value.ref b:=rx
 apply wpAny_holding
 obtain ⟨z,hd,xs,rel,dd⟩:=dt_of I3.hok e
 have hz:xs.length≤sizeLine:=by rw [← Paired.length rel];exact z
 apply wpAny_bind
 simp only [List.forIn_cons,List.forIn_nil]
 apply wpAny_bind
 apply wpAny_bind
 refine wpAny_dictSet_heap (knd:=nKind X.prog X.w) (hsz:=hz) ?_ (key_of I3.hok eb) dd fun h' dd' hs=>?_
 ·exact Nat.lt_of_succ_lt hu
 apply wpAny_pure
 apply wpAny_pure
 apply wpAny_pure
 apply wpAny_pure
 apply wpAny_pure
 refine ⟨.ref s.heap.objs.size,_,?_,rfl,q2⟩
 obtain ⟨o2,es,ep,hq,h2,h3,h4,_,h5⟩:=dd'
 refine d_write I3 (by rw [e];exact True.intro) hs ⟨o2,hq⟩ ⟨Nat.le_trans (show 1≤2 by decide) (by decide),hd,_,(rel.put ks eb ry).keeps fun c ys ec=>?_,o2,es,ep,hq,h2,h3,h4,h5⟩
 rw [qA9 (ne_of ec e (fun z=>nomatch z))]
 exact ec
end
end L2
namespace L2
open PySem PySem.Spec PyProof.Rows
section
variable {X:Cx} {pins:List (Addr × Obj)} {σ:St} {H:Hp} {s:Shared}
structure LmScope (X:Cx) (scope:Scope) (p:Str) (fv:List Nat):Prop where
 kind:scope.kind=.function
 co:scope.isCoroutine=false
 gen:scope.isGenerator=false
 nocell:∀ y ∈ scope.names,y.2 ≠ .cell
 par:scope.names.lookup p=some .local
 free:∀ y ∈ scope.names,y.2=.free→X.env.kindOf y.1=some .cell∨X.env.kindOf y.1=some .free
 fvs:∀ i ∈ fv,i<X.N.length∧scope.names.lookup (X.N.getD i Str.empty)=some .free
structure LmZ where
 A:Around
 f:Addr
 cd:Value
 s₀:Shared
 H₀:Hp
 rm:Room 0 A
noncomputable def lmStart (fv:List Nat) (σ:St) (x:V):St:=some x::fv.map fun i=>(σ[i]?).join
end
end L2
namespace L2
open PySem PySem.Spec PyProof.Rows
abbrev Sm0 (H H':Hp):Prop:=∀ b o,H b=some o→H' b=some o
section
variable {X:Cx}
structure KCmp (X:Cx) (KR:Hp→V→List Int→Prop):Prop where
 mono:∀ H H' y k,Sm0 H H'→KR H y k→KR H' y k
 cmp:∀ (pins:List (Addr × Obj)) (σ:St) (s:Shared) (H:Hp) (y y':V) (u u':Value) (k k':List Int) (Q:Value→Shared→Prop) (E:Value→Shared→Prop),Inv X pins σ H s→RelV y u→RelV y' u'→KR H y k→KR H y' k'→Q (.bool (HT.lexLt k k')) s→
  wpAny (model X.prog X.w) X.A.in1 (richCompare .Lt u u') Q E s
structure KeyAt (X:Cx) (σ:St) (fv:List Nat) (te:TE) (KR:Hp→V→List Int→Prop) (H0:Hp) (xs:List V) (ks:List (List Int)):Prop where
 len:ks.length=xs.length
 key:∀ (i:Nat) (x:V) (k:List Int),xs[i]?=some x→ks[i]?=some k→∀ Hc,Sm0 H0 Hc→te (lmStart fv σ x) Hc fun y H'=>Sm0 Hc H'∧KR H' y k
section
variable {pins:List (Addr × Obj)} {σ:St} {params:Arguments} {body:Expr} {scope:Scope} {p:Str} {fv:List Nat} {q:Str} {te:TE} {KR:Hp→V→List Int→Prop} {l f cc:Addr} {ctv:Value} {H0:Hp} {xs:List V} {ks:List (List Int)} {Q:VK}
end
end
end L2
namespace L2
open PySem PySem.Spec PyProof.Rows
section
variable {X:Cx}
end
structure LTab where
 x:Str
 c:Addr
 P:Addr
 q:Str
end L2
namespace L2
open PySem PySem.Spec PyProof.Rows
section
variable {prog:Program} {w:World} {A:Around} {E:Value→Shared→Prop} {s:Shared}
end
section
variable {X:Cx}
end
end L2
namespace L2
open PySem PySem.Spec PyProof.Rows
section
open PySem.SeqAt
open PySem.AutoSeq1 (wpAny_loadPart')
open PySem.MeetsSeq PySem.MeetsSeq2 PySem.MeetsSeq3
end
section
variable {X:Cx}
end
end L2
namespace L2.G
open PySem PySem.Spec PyProof.Rows
section
variable [NM]
variable {prog:Program} {w:World} {A:Around} {E:Value→Shared→Prop} {s:Shared}
end
noncomputable def rankL (L:List (List Int)) (a:List Int):Int:=(((L.filter fun x=>HT.lexLt x a).length:Nat):Int)
noncomputable def intsV (xs:List V):List Int:=xs.map fun | .int i=>i | _=>0
noncomputable def keyH (H:Hp):Value→List Int
 | .ref r=>match H r with
  | some (.tup xs)=>intsV xs
  | _=>[]
 | _=>[]
@[reducible] def tupNM (H:Hp) (L:List (List Int)):NM:=⟨fun v=>rankL L (keyH H v),fun v=>∃ r t,v=.ref r∧H r=some (.tup (t.map V.int))∧t ∈ L⟩
section
variable {prog:Program} {w:World} {A:Around} {E:Value→Shared→Prop} {s:Shared}
end
end L2.G
namespace L2.G
open PySem PySem.Spec PyProof.Rows
section
variable {prog:Program} {w:World} {A:Around} {E:Value→Shared→Prop} {s:Shared}
end
end L2.G
namespace L2.G
open PySem PySem.Spec PyProof.Rows
section
variable {X:Cx}
theorem src_dT {prog:Program} {w:World} {d:Addr} {od:Obj} {es:Array DictEntry} {ep:Nat} (hd:(d == sysModules)=false) (hc:od.cls=.type "dict") (he:od.data=.dict es ep) :
  PySem.W.KdlSrc prog w "dict" d d es.size (fun i v=>∃ h:i<es.size,v=es[i].key) (fun h=>h.get? d=some od) where
 type:=fun s h=>⟨_,h,hc⟩
 there:=fun h x=>⟨Heap.lt_size x,Heap.lt_size x⟩
 keep:=fun h h' x k=>k d (.inl rfl) _ x
 notList:=by decide
 notTuple:=by decide
 hint:=fun A E s Q x q=>PySem.W.kdl_hint_dict ⟨_,x,hc⟩ q
 iter:=fun A s hh x=>by
  have hne:d ≠ s.heap.objs.size:=Nat.ne_of_lt (Heap.lt_size x)
  refine ⟨_,fun i h=>AtKey h s.heap.objs.size d i es.size ep∧h.get? d=some od,fun E Q q=>ents_iter ⟨_,x,hc⟩ hd x he q,?_,⟨Heap.get?_push_size _ rfl,Heap.get?_push_of_some _ x⟩⟩
  refine ⟨fun b hb=>?_,fun i h h' st k=>⟨k _ (by simp) _ st.1,k _ (by simp) _ st.2⟩,fun i s' Q E hi st q=>?_,fun s' Q E st q=>?_,fun i s' Q E st q=>wpAny_pyIter_keyiter ⟨_,st.1,rfl,rfl⟩ q⟩
  ·have e:b=s.heap.objs.size:=by simpa using hb
   simp [e]
  ·refine ents_item st.1 st.2 he hi fun h' st' k=>?_
   exact q _ h' s'.toks ⟨hi,rfl⟩ ⟨st',(k.2 d hne).trans st.2⟩ fun b o hb e=>(k.2 b (fun z=>hb (by simp [z]))).trans e
  ·refine ents_end hh st.1 (Nat.le_refl _) st.2 he fun h' k=>?_
   exact q h' s'.toks fun b o hb e=>k b o (fun z=>hb (by simp [z])) e
end
end L2.G
namespace L2.G
open PySem PySem.Spec PyProof.Rows PySem.W
section
variable {X:Cx} {pins:List (Addr × Obj)} {σ:St} {params:Arguments} {body:Expr} {scope:Scope} {p:Str} {fv:List Nat} {q:Str} {te:TE} {l f cc:Addr} {ctv:Value} {H0:Hp} {xs:List V} {ks:List (List Int)} {Q:VK}
end
end L2.G
namespace L2.G
open PySem PySem.Spec PyProof.Rows PySem.W
section
variable {X:Cx} {pins:List (Addr × Obj)} {σ:St} {params:Arguments} {body:Expr} {scope:Scope} {p:Str} {fv:List Nat} {q:Str} {te:TE} {l f cc:Addr} {ctv:Value} {H0:Hp} {xs:List V} {ks:List (List Int)} {Q:VK}
end
end L2.G
namespace L2
open PySem PySem.Spec PyProof.Rows
section
variable {X:Cx}
end
end L2
namespace L2
open PySem PySem.Spec PyProof.Rows
section
variable {X:Cx}
end
end L2
namespace L2
open PySem PySem.Spec PyProof.Rows
section
variable {prog:Program} {w:World} {A:Around} {R:Result→Shared→Prop} {I:Addr} {fp wr:List Addr} {n:Nat} {P:Nat→Value→Prop} {St:Nat→Heap→Prop}
end
section
variable {X:Cx}
end
end L2
namespace L2
open PySem PySem.Spec PyProof.Rows
structure Clb (P:Program) (w:World) (K:PySem.W.Frag) (mg:Str→Option Value) (base:Heap) (n:Nat) (f:Addr) (fd:FuncData) (x:Str) (ps:List Str) (sp:Sp):Prop where
 G:FnOk P w K mg base CX0 n f fd ps sp
 b:Binds K fd ps []
 k:PySem.W.keepIn K (.ref f)=true
 m:mg x=some (.ref f)
theorem pe_cl {X:Cx} {n k:Nat} {f:Addr} {fd:FuncData} {x:Str} {ps:List Str} {sp:Sp} {e:Expr} {es:List Expr} {t:TA} {p pos:Pos} (C:Clb X.prog X.w X.K X.mg X.base n f fd x ps sp) (hr:Room k X.A) (hg:Gl X x)
  (ha:PA X (e::es) t) (hnk:n≤k:=by decide) (hdb:(x == ("__debug__" : Str))=false:=by decide) (he:starEach (e::es) X.env=(false,eval e X.env)::starEach es X.env:=by rfl) (hpl:(backTo pos (starEach es X.env)).any (·.1)=false:=by rfl) :
  PE X (.Call (.Name x p) (e::es) [] pos) (tCall sp [] E0 t):=pe_call C.G (hr.mono hnk) hg C.m C.k C.b .nil pass0 ha hdb he hpl
theorem nmD {i:Nat} {t u:TS} {D:Ends} {x:V} {σ:St} {H:Hp} (h:∀ D':Ends,(∀ σ H,D.nx σ H→D'.nx σ H)→(∀ v H,D.rt v H→D'.rt v H)→tSeq t u D' (σ.set i (some x)) H):gName i x σ H fun σ2 H2=>tSeq t u D σ2 H2:=h D (fun _ _ z=>z) fun _ _ z=>z
end L2
namespace L2
open PySem PySem.Spec PyProof.Rows
end L2
namespace L2
open PySem PySem.Spec PyProof.Rows
def Tf (K:PySem.W.Frag) (x:Str) (s:Stmt) (f:Addr):Prop:=PySem.W.nsIn K mainGlobals x=some (some (.ref f))∧∃ fd,Fun K x x s f fd
theorem Tf.use {K:PySem.W.Frag} {h:Heap} {mg:Str→Option Value} {x:Str} {s:Stmt} {f:Addr} (X:K.In h) (G:h.Ns mainGlobals mg) (T:Tf K x s f):∃ fd,Fun K x x s f fd∧mg x=some (.ref f):=
 let ⟨a,fd,F⟩:=T
 ⟨fd,F,PySem.W.mg_of X G a⟩
theorem Tf.clb {P:Program} {w:World} {K:PySem.W.Frag} {h base:Heap} {mg:Str→Option Value} {x:Str} {s:Stmt} {f:Addr} {n:Nat} {ps:List Str} {sp:Sp} (X:K.In h) (G:h.Ns mainGlobals mg) (T:Tf K x s f) (hok:∀ fd,Fun K x x s f fd→FnOk P w K mg base CX0 n f fd ps sp)
  (hb:∀ (kV doc pm:Value) (an:Option Addr) (cdv ct:Value) (us:List Value),us.length=ps.length→bindArgs (PySem.W.fnOf x x (defArgs s) (defBody s) (defScope s) .none kV doc pm an cdv ct) ⟨us,[]⟩=pure (ps.zip us)):∃ fd,Clb P w K mg base n f fd x ps sp:=
 let ⟨fd,F,m⟩:=T.use X G
 ⟨fd,hok fd F,F.binds hb,F.kp,m⟩
def Zs (K:PySem.W.Frag):List Str→Prop
 | []=>True
 | x::r=>PySem.W.nsIn K mainGlobals x=some none∧Zs K r
def Zm (mg:Str→Option Value):List Str→Prop
 | []=>True
 | x::r=>mg x=none∧Zm mg r
theorem Zs.mg {K:PySem.W.Frag} {h:Heap} {mg:Str→Option Value} (X:K.In h) (G:h.Ns mainGlobals mg):∀ {l:List Str},Zs K l→Zm mg l
 | [],_=>trivial
 | _::_,⟨a,b⟩=>⟨PySem.W.mg_none_of X G a,Zs.mg X G b⟩
theorem sc_mk {N P:List Str} {sc:Scope} (h1:sc.kind=.function:=by rfl) (h2:sc.isCoroutine=false:=by rfl) (h3:sc.isGenerator=false:=by rfl) (h4:N.Nodup:=by decide +kernel) (h5:N.take P.length=P:=by rfl) (h6:∀ x ∈ P,sc.names.lookup x=some .local∨sc.names.lookup x=some .cell:=by decide +kernel) (h7:∀ y ∈ sc.names,y.2 ≠ .free:=by decide +kernel):FnScope N P sc:=⟨h1,h2,h3,h4,h5,h6,h7⟩
section
variable {P:Program} {w:World} {K:PySem.W.Frag} {mg:Str→Option Value} {base:Heap}
theorem Fun.okA {x qual:Str} {st:Stmt} {f:Addr} {fd:FuncData} {N ps:List Str} {k:Nat} {sp:Sp} (F:Fun K x qual st f fd) (S:FnScope N ps (defScope st))
  (hbody:∀ (cdv:Value) (A:Around) (outer:List Env) (s:Shared) (H:Hp) (vs:List V) (Q:VK) (E:XK),Room k (A.deeper (envOfC qual (defScope st) s.heap.objs.size f cdv))→sp vs H Q E→
   ∃ t,PSs (cxOf CX0 P w K mg base N qual (defScope st) f cdv A outer s H E).nox (defBody st) t∧t { nx:=fun _ H'=>Q .non H',rt:=Q } (start N vs) H)
  (len:∀ vs H Q E,sp vs H Q E→vs.length=ps.length:=by intro vs H Q E h;(repeat (obtain ⟨_,h⟩:=h));subst_vars;rfl):FnOk P w K mg base CX0 (k+1) f fd ps sp:=F.ok S len hbody
@[elab_as_elim] theorem us6 {α:Type} {P:List α→Prop} (us:List α) (hl:us.length=6) (h:∀ a b c d e f,P [a,b,c,d,e,f]):P us:=by
 match us,hl with
 | [a,b,c,d,e,f],_=>exact h a b c d e f
@[elab_as_elim] theorem us5 {α:Type} {P:List α→Prop} (us:List α) (hl:us.length=5) (h:∀ a b c d e,P [a,b,c,d,e]):P us:=by
 match us,hl with
 | [a,b,c,d,e],_=>exact h a b c d e
def Bs (P:Program) (w:World) (base:Heap):Prop:=P=P∧w=w∧base=base
theorem Tf.c {h:Heap} {x:Str} {s:Stmt} {f:Addr} {n:Nat} {ps:List Str} {sp:Sp} (X:K.In h) (G:h.Ns mainGlobals mg) (B:Bs P w base) (T:Tf K x s f) (hok:∀ fd,Fun K x x s f fd→FnOk P w K mg base CX0 n f fd ps sp)
  (hb:∀ (kV doc pm:Value) (an:Option Addr) (cdv ct:Value) (us:List Value),us.length=ps.length→bindArgs (PySem.W.fnOf x x (defArgs s) (defBody s) (defScope s) .none kV doc pm an cdv ct) ⟨us,[]⟩=pure (ps.zip us):=by
   intro _ _ _ _ _ _ us hl;first | exact us1 us hl (fun _=>rfl) | exact us2 us hl (fun _ _=>rfl) | exact us3 us hl (fun _ _ _=>rfl) | exact us4 us hl (fun _ _ _ _=>rfl) | exact us5 us hl (fun _ _ _ _ _=>rfl) | exact us6 us hl (fun _ _ _ _ _ _=>rfl) | exact us0 us hl rfl):∃ fd,Clb P w K mg base n f fd x ps sp:=T.clb X G hok hb
end
section
variable {X:Cx} {pos:Pos}
theorem pg_in {x:Str} (i:Nat) (hN:X.N.Nodup:=by exact nd_of (by kernel_rfl)) (hi:X.N[i]?=some x:=by rfl) (hx:Loc X.env.scope x:=by exact Or.inl rfl) (hf:X.fn x=true∨X.env.scope.names.lookup x=some .local:=by first | exact .inl rfl | exact .inr rfl | assumption):PG X (.Name x pos) (gName i):=qAN hN hi hx hf
end
end L2
namespace L2
open PySem PySem.Spec PyProof.Rows
section
variable {prog:Program} {w:World} {A:Around} {E:Value→Shared→Prop} {s:Shared}
end
section
variable {X:Cx}
end
end L2
namespace L2
open PySem PySem.Spec PyProof.Rows
section
variable {X:Cx}
end
end L2
namespace Fw
open PySem L2
theorem qAQ:bootBuiltins "len" = some (.builtin "len"):=by decide +kernel
theorem bt_min:bootBuiltins "min" = some (.builtin "min"):=by decide +kernel
theorem bt_max:bootBuiltins "max" = some (.builtin "max"):=by decide +kernel
theorem bt_sorted:bootBuiltins "sorted" = some (.builtin "sorted"):=by decide +kernel
theorem bt_divmod:bootBuiltins "divmod" = some (.builtin "divmod"):=by decide +kernel
theorem bt_all:bootBuiltins "all" = some (.builtin "all"):=by decide +kernel
theorem qAW:bootBuiltins "isinstance" = some (.builtin "isinstance"):=by decide +kernel
theorem bt_int:bootBuiltins "int" = some (.type "int"):=by decide +kernel
theorem bt_bool:bootBuiltins "bool" = some (.type "bool"):=by decide +kernel
theorem qBS:bootBuiltins "list" = some (.type "list"):=by decide +kernel
theorem qAV:bootBuiltins "tuple" = some (.type "tuple"):=by decide +kernel
theorem bt_set:bootBuiltins "set" = some (.type "set"):=by decide +kernel
theorem bt_range:bootBuiltins "range" = some (.type "range"):=by decide +kernel
theorem bt_enumerate:bootBuiltins "enumerate" = some (.type "enumerate"):=by decide +kernel
structure StAt (H:Hp) (d c:Addr) (t:Int) (ns:List Int):Prop where
 dict:H d=some (.dK [(Sum.inr "cells",.ref c),(Sum.inr "turn",.int t)])
 list:H c=some (.lst (ns.map V.int))
 ne:0<ns.length
 len:ns.length≤63
 pos:0≤t
def Keep (d c:Addr) (H H':Hp):Prop:=∀ b o,H b=some o→b ≠ d→b ≠ c→H' b=some o
theorem Keep.trans {d c:Addr} {H H1 H2:Hp} (a:Keep d c H H1) (b:Keep d c H1 H2):Keep d c H H2:=fun x o h n m=>b x o (a x o h n m) n m
theorem Keep.of_same {d c:Addr} {H H':Hp} (h:Same H H'):Keep d c H H':=fun b o e _ _=>h b o e
theorem qA3 {H:Hp} {p:Addr} (h:H p=none) (o:HO):Same H (upd H p o):=fun b u q=>by rw [qA9 (qA6 q h)];exact q
theorem qBN {d c:Addr} {H:Hp} {p:Addr} (h:H p=none) (o:HO):Keep d c H (upd H p o):=.of_same (qA3 h o)
theorem StAt.ndc {H:Hp} {d c:Addr} {t:Int} {ns:List Int} (S:StAt H d c t ns):d ≠ c:=ne_of S.dict S.list (by intro z;cases z)
theorem StAt.same {H H':Hp} {d c:Addr} {t:Int} {ns:List Int} (S:StAt H d c t ns) (h:Same H H'):StAt H' d c t ns:=⟨h _ _ S.dict,h _ _ S.list,S.ne,S.len,S.pos⟩
theorem StAt.new {H:Hp} {d c p:Addr} {t:Int} {ns:List Int} (S:StAt H d c t ns) (h:H p=none) (o:HO):StAt (upd H p o) d c t ns:=S.same (qA3 h o)
theorem s_cs:¬ (Str.ofString "cells" = Str.ofString "turn"):=by decide +kernel
theorem s_ct:¬ ((Sum.inr (Str.ofString "cells"):Key)=Sum.inr (Str.ofString "turn")):=fun h=>s_cs (Sum.inr.inj h)
theorem dg_turn {H:Hp} {d c:Addr} {t:Int} {ns:List Int} (S:StAt H d c t ns):DGet H d (.str "turn") (some (.int t)):=by
 have h:=DGet.k (k:=Sum.inr "turn") S.dict
 rw [qD5 s_ct,qCJ rfl] at h
 exact h
theorem dg_cells {H:Hp} {d c:Addr} {t:Int} {ns:List Int} (S:StAt H d c t ns):DGet H d (.str "cells") (some (.ref c)):=by
 have h:=DGet.k (k:=Sum.inr "cells") S.dict
 rw [qCJ rfl] at h
 exact h
theorem put_turn (c:Addr) (t u:Int):putK [((Sum.inr "cells" : Key),V.ref c),(Sum.inr "turn",V.int t)] (Sum.inr "turn") (V.int u)=[((Sum.inr "cells" : Key),V.ref c),(Sum.inr "turn",V.int u)]:=by
 unfold putK
 simp [s_cs]
theorem dp_turn {H:Hp} {d c:Addr} {t u:Int} {ns:List Int} (S:StAt H d c t ns):DPut H d (.str "turn") (.int u) (upd H d (.dK [(Sum.inr "cells",.ref c),(Sum.inr "turn",.int u)])):=by
 have h:=DPut.k (k:=Sum.inr "turn") (v:=.int u) S.dict (by rw [sizeLine_eq];exact (by decide:2<16777216))
 rw [put_turn] at h
 exact h
theorem StAt.turn {H:Hp} {d c:Addr} {t u:Int} {ns:List Int} (S:StAt H d c t ns) (h:0≤u):StAt (upd H d (.dK [(Sum.inr "cells",.ref c),(Sum.inr "turn",.int u)])) d c u ns:=
 ⟨qA1,by rw [qA9 (Ne.symm S.ndc)];exact S.list,S.ne,S.len,h⟩
theorem StAt.put {H:Hp} {d c:Addr} {t:Int} {ns ms:List Int} (S:StAt H d c t ns) (h:ms.length=ns.length):StAt (upd H c (.lst (ms.map V.int))) d c t ms:=
 ⟨by rw [qA9 S.ndc];exact S.dict,qA1,by rw [h];exact S.ne,by rw [h];exact S.len,S.pos⟩
abbrev TB:Int:=1000000000
def spTake:Sp:=fun vs H Q _=>∃ d c t ns m,vs=[.ref d,.int m]∧StAt H d c t ns∧t≤TB∧1≤m∧m≤1000000∧∀ k ns' H',0≤k→k<m→StAt H' d c (t+1) ns'→Keep d c H H'→Q (.int k) H'
def spBegin (K:PySem.W.Frag):Sp:=fun vs H Q _=>∃ (a:Addr) (ns:List Int),vs=[.ref a]∧SqL K H a (ns.map V.int)∧ns.length≤63∧∀ d c ms H',StAt H' d c 0 ms→Same H H'→H d=none→H c=none→Q (.ref d) H'
noncomputable def cutI {α:Type} (xs:List α) (lo hi:Option Int):List α:=(xs.drop (HT.sIx xs.length 0 lo)).take (HT.sIx xs.length xs.length hi - HT.sIx xs.length 0 lo)
theorem qB4 {α:Type} (f:α→V) (xs:List α) (lo hi:Option Int):cutV (xs.map f) lo hi=(cutI xs lo hi).map f:=by
 unfold cutV cutI
 rw [List.length_map,← List.map_drop,← List.map_take]
theorem cutI_len {α:Type} (xs:List α) (lo hi:Option Int):(cutI xs lo hi).length≤xs.length:=by
 unfold cutI
 rw [List.length_take,List.length_drop]
 lia
theorem merge2 (c:Addr) (t:Int):mergeK [] [((Sum.inr (Str.ofString "cells"):Key),V.ref c),(Sum.inr (Str.ofString "turn"),V.int t)]=[((Sum.inr (Str.ofString "cells"):Key),V.ref c),(Sum.inr (Str.ofString "turn"),V.int t)]:=by
 unfold mergeK
 simp only [List.foldl_cons,List.foldl_nil]
 unfold putK
 simp [s_cs]
theorem ixN_nat {xs:List V} {j:Nat} (h:j<xs.length):ixN xs.length (j:Int)=some j:=by
 unfold ixN
 rw [if_pos (by lia),if_pos (by lia),Int.toNat_natCast]
def spLaw (K:PySem.W.Frag):Sp:=fun vs H Q _=>∃ (a:Addr) (ns:List Int),vs=[.ref a]∧SqL K H a (ns.map V.int)∧ns.length≤63∧∀ H',Q (.bl true) H'
theorem cut {t u:TS} {D:Ends} {σ:St} {H:Hp} (h:∀ N:St→Hp→Prop,(∀ σ H,u D σ H→N σ H)→t { D with nx:=N } σ H):tSeq t u D σ H:=h _ fun _ _ z=>z
theorem opq {A:Prop} (h:∀ G:Prop,(A→G)→G):A:=h A id
structure Rise (k:Int) (zs:List Int):Prop where
 up:zs.Pairwise (·<·)
 in_:∀ x ∈ zs,0≤x∧x<k
theorem Rise.nil {k:Int}:Rise k []:=⟨.nil,fun _ h=>nomatch h⟩
theorem Rise.mono {j k:Int} {zs:List Int} (h:Rise j zs) (l:j≤k):Rise k zs:=⟨h.up,fun x hx=>⟨(h.in_ x hx).1,by have:=(h.in_ x hx).2;lia⟩⟩
theorem Rise.sub {k:Int} {zs ys:List Int} (h:Rise k zs) (s:ys.Sublist zs):Rise k ys:=⟨h.up.sublist s,fun x hx=>h.in_ x (s.subset hx)⟩
theorem Rise.snoc {k:Int} {zs:List Int} (h:Rise k zs) (h0:0≤k):Rise (k+1) (zs++[k]):=by
 refine ⟨List.pairwise_append.mpr ⟨h.up,List.pairwise_singleton _ _,fun a ha b hb=>?_⟩,fun x hx=>?_⟩
 ·rw [List.mem_singleton.mp hb];exact (h.in_ a ha).2
 ·rcases List.mem_append.mp hx with hx | hx
  ·have:=h.in_ x hx;lia
  ·rw [List.mem_singleton.mp hx];lia
theorem Rise.shift {k j:Int} {zs:List Int} (h:Rise k zs) (hj:0≤j):Rise (k+j) (zs.map (·+j)):=by
 refine ⟨List.pairwise_map.mpr (h.up.imp fun {a b} hab=>by lia),fun x hx=>?_⟩
 obtain ⟨y,hy,e⟩:=List.mem_map.mp hx
 have:=h.in_ y hy
 lia
theorem Rise.nodup {k:Int} {zs:List Int} (h:Rise k zs):zs.Nodup:=h.up.imp fun {a b} hab=>by lia
theorem Rise.len {zs:List Int} {k:Nat} (h:Rise (k:Int) zs):zs.length≤k:=by
 have sub:zs ⊆ (List.range k).map fun (i:Nat)=>(i:Int):=fun x hx=>by
  have:=h.in_ x hx
  exact List.mem_map.mpr ⟨x.toNat,List.mem_range.mpr (by lia),by lia⟩
 have:=List.Nodup.length_le_of_subset h.nodup sub
 simpa using this
theorem mem_addI {zs:List Int} {k x:Int}:x ∈ addI zs k ↔ x ∈ zs∨x=k:=by
 unfold addI
 split
 ·rename_i h
  constructor
  ·exact .inl
  ·rintro (z | rfl)
   ·exact z
   ·exact h
 ·simp
theorem nd_addI {zs:List Int} {k:Int} (h:zs.Nodup):(addI zs k).Nodup:=by
 unfold addI
 split
 ·exact h
 ·rename_i hk
  exact nd_snoc h hk
theorem ded_go:∀ (l zs:List Int),zs.Nodup→(l.foldl addI zs).Nodup∧∀ x,x ∈ l.foldl addI zs ↔ x ∈ zs∨x ∈ l
 | [],zs,h=>⟨h,fun x=>by simp⟩
 | k::r,zs,h=>by
  obtain ⟨a,b⟩:=ded_go r (addI zs k) (nd_addI h)
  refine ⟨a,fun x=>?_⟩
  rw [List.foldl_cons,b x,mem_addI,List.mem_cons,or_assoc]
theorem dedI_nodup (l:List Int):(dedI l).Nodup:=(ded_go l [] .nil).1
theorem mem_dedI {l:List Int} {x:Int}:x ∈ dedI l ↔ x ∈ l:=by
 have:=(ded_go l [] .nil).2 x
 unfold dedI
 rw [this]
 simp
theorem dedI_len (l:List Int):(dedI l).length≤l.length:=by
 have:=qBO l []
 simpa [dedI] using this
theorem lt_of_sorted {zs:List Int} (h1:zs.Pairwise (·≤·)) (h2:zs.Nodup):zs.Pairwise (·<·):=by
 have h3:zs.Pairwise (fun a b=>a≤b∧a ≠ b):=List.pairwise_and_iff.mpr ⟨h1,h2⟩
 exact h3.imp fun {a b} ⟨x,y⟩=>by lia
theorem rise_set {k:Int} {fs zs:List Int} (hp:zs.Perm (dedI fs)) (hs:zs.Pairwise (·≤·)) (h:∀ x ∈ fs,0≤x∧x<k):Rise k zs:=
 ⟨lt_of_sorted hs (hp.nodup_iff.mpr (dedI_nodup fs)),fun x hx=>h x (mem_dedI.mp (hp.mem_iff.mp hx))⟩
noncomputable def rangeI (lo hi:Int):List Int:=(List.range (hi - lo).toNat).map fun (i:Nat)=>lo+i
theorem rangeV_ints (lo hi:Int):rangeV lo hi=(rangeI lo hi).map V.int:=by
 unfold rangeV rangeI
 rw [List.map_map]
 rfl
theorem mem_rangeI {lo hi x:Int}:x ∈ rangeI lo hi ↔ lo≤x∧x<hi:=by
 unfold rangeI
 rw [List.mem_map]
 constructor
 ·rintro ⟨i,hi',e⟩
  have:=List.mem_range.mp hi'
  lia
 ·intro h
  exact ⟨(x - lo).toNat,List.mem_range.mpr (by lia),by lia⟩
theorem qB7 (lo hi:Int):(rangeI lo hi).length=(hi - lo).toNat:=by unfold rangeI;simp
theorem rangeI_up (lo hi:Int):(rangeI lo hi).Pairwise (·<·):=by
 unfold rangeI
 exact List.pairwise_map.mpr (List.pairwise_lt_range.imp fun {a b} h=>by lia)
theorem rangeI_rise {lo hi:Int} (h:0≤lo):Rise hi (rangeI lo hi):=⟨rangeI_up _ _,fun x hx=>by have:=mem_rangeI.mp hx;lia⟩
theorem cutI_from {α:Type} (xs:List α) (k:Nat) (h:k≤xs.length):cutI xs (some (k:Int)) none=xs.drop k:=by
 unfold cutI
 rw [HT.sIx_nat,HT.sIx_none,Nat.min_eq_left h]
 exact List.take_of_length_le (by rw [List.length_drop];exact Nat.le_refl _)
theorem cutI_to {α:Type} (xs:List α) (k:Nat):cutI xs none (some (k:Int))=xs.take k:=by
 unfold cutI
 rw [HT.sIx_nat,HT.sIx_none,List.drop_zero,Nat.sub_zero]
 rcases Nat.le_total k xs.length with h | h
 ·rw [Nat.min_eq_left h]
 ·rw [Nat.min_eq_right h,List.take_of_length_le h,List.take_of_length_le (Nat.le_refl _)]
abbrev NetL (H:Hp):List Addr→List (List Int)→Prop:=Paired fun r zs=>H r=some (.tup (zs.map V.int))
theorem NetL.keep {d c:Addr} {H H':Hp} {rs:List Addr} {net:List (List Int)} (h:NetL H rs net) (hd:∀ r zs,H r=some (.tup zs)→r ≠ d∧r ≠ c) (k:Keep d c H H'):NetL H' rs net:=by
 induction h with
 | nil=>exact .nil
 | cons r t ih=>exact .cons (k _ _ r (hd _ _ r).1 (hd _ _ r).2) ih
theorem NetL.same {H H':Hp} {rs:List Addr} {net:List (List Int)} (h:NetL H rs net) (k:∀ r zs,H r=some (.tup zs)→H' r=some (.tup zs)):NetL H' rs net:=by
 induction h with
 | nil=>exact .nil
 | cons r t ih=>exact .cons (k _ _ r) ih
theorem NetL.get {H:Hp}:∀ {rs:List Addr} {net:List (List Int)} {i:Nat} {zs:List Int},NetL H rs net→net[i]?=some zs→∃ r,rs[i]?=some r∧H r=some (.tup (zs.map V.int))
 | _,_,_,_,.nil,e=>by simp at e
 | _,_,0,_,.cons r _,e=>by simp at e;subst e;exact ⟨_,rfl,r⟩
 | _,_,i+1,zs,.cons _ t,e=>by
  obtain ⟨r,h1,h2⟩:=NetL.get (i:=i) (zs:=zs) t (by simpa using e)
  exact ⟨r,by simpa using h1,h2⟩
def NetAt (H:Hp) (a:Addr) (net:List (List Int)):Prop:=∃ rs:List Addr,H a=some (.tup (rs.map V.ref))∧NetL H rs net
theorem StAt.tup {H:Hp} {d c:Addr} {t:Int} {ns:List Int} (S:StAt H d c t ns) {r:Addr} {zs:List V} (h:H r=some (.tup zs)):r ≠ d∧r ≠ c:=
 ⟨ne_of h S.dict (by intro z;cases z),ne_of h S.list (by intro z;cases z)⟩
theorem NetAt.keep {H H':Hp} {d c:Addr} {t:Int} {ns:List Int} (S:StAt H d c t ns) {a:Addr} {net:List (List Int)} (h:NetAt H a net) (k:Keep d c H H'):NetAt H' a net:=by
 obtain ⟨rs,h1,h2⟩:=h
 exact ⟨rs,k _ _ h1 (S.tup h1).1 (S.tup h1).2,h2.keep (fun r zs e=>S.tup e) k⟩
theorem NetAt.same {H H':Hp} {a:Addr} {net:List (List Int)} (h:NetAt H a net) (k:Same H H'):NetAt H' a net:=by
 obtain ⟨rs,h1,h2⟩:=h
 exact ⟨rs,k _ _ h1,h2.same fun r zs e=>k _ _ e⟩
theorem NetAt.len {H:Hp} {rs:List Addr} {net:List (List Int)} (h:NetL H rs net):rs.length=net.length:=Paired.length h
def WFn (net:List (List Int)):Prop:=∀ (i:Nat) zs,net[i]?=some zs→Rise (i:Int) zs
theorem WFn.snoc {net:List (List Int)} {zs:List Int} (h:WFn net) (hz:Rise (net.length:Int) zs):WFn (net++[zs]):=by
 intro i ys e
 rcases Nat.lt_trichotomy i net.length with l | l | l
 ·rw [List.getElem?_append_left l] at e;exact h i ys e
 ·subst l
  simp at e
  subst e
  exact hz
 ·rw [List.getElem?_eq_none (by rw [List.length_append,List.length_singleton];lia)] at e
  cases e
theorem WFn.nil:WFn []:=fun i zs e=>by simp at e
theorem qC7 {α β:Type} {F:α→β→Prop} {a:α} {b:β} {l₁:List α} {l₂:List β} (h:Paired F l₁ l₂) (r:F a b):Paired F (l₁++[a]) (l₂++[b]):=Paired.snoc h r
def spNeeds:Sp:=fun vs H Q _=>∃ d c t ns k,vs=[.ref d,.int k]∧StAt H d c t ns∧t≤TB - 20∧0≤k∧k≤1000∧
 ∀ r zs t' ns' H',StAt H' d c t' ns'→t≤t'→t'≤t+9→Keep d c H H'→H' r=some (.tup (zs.map V.int))→Rise k zs→Q (.ref r) H'
def spNet:Sp:=fun vs H Q _=>∃ d c t ns m,vs=[.ref d,.int m]∧StAt H d c t ns∧t≤TB - 10000∧1≤m∧m≤400∧
 ∀ a net t' ns' H',StAt H' d c t' ns'→t≤t'→t'≤t+10 * m+10→Keep d c H H'→NetAt H' a net→WFn net→(net.length:Int)=m→Q (.ref a) H'
def spTree:Sp:=fun vs H Q _=>∃ d c t ns m,vs=[.ref d,.int m]∧StAt H d c t ns∧t≤TB - 1000∧1≤m∧m≤400∧
 ∀ a net t' ns' H',StAt H' d c t' ns'→t≤t'→t'≤t+m→Keep d c H H'→NetAt H' a net→WFn net→(net.length:Int)=m→Q (.ref a) H'
theorem pick2 {a b k:Int} (h0:0≤k) (h1:k<4):∃ v,atI [V.int a,V.int b] (k / 3)=some (.int v)∧(v=a∨v=b):=by
 rcases (by lia:k=0∨k=1∨k=2∨k=3) with rfl | rfl | rfl | rfl
 ·exact ⟨a,rfl,.inl rfl⟩
 ·exact ⟨a,rfl,.inl rfl⟩
 ·exact ⟨a,rfl,.inl rfl⟩
 ·exact ⟨b,rfl,.inr rfl⟩
theorem pick6 {k:Int} (h0:0≤k) (h1:k<6):∃ v,atI [V.int 0,V.int 0,V.int 1,V.int 2,V.int 2,V.int 3] k=some (.int v)∧0≤v∧v≤3:=by
 rcases (by lia:k=0∨k=1∨k=2∨k=3∨k=4∨k=5) with rfl | rfl | rfl | rfl | rfl | rfl
 all_goals exact ⟨_,rfl,by decide,by decide⟩
theorem qAG {H Hc:Hp} {p:Addr} {o:HO} (h:Same H Hc) (hp:H p=none):Same H (upd Hc p o):=fun b u e=>by rw [qA9 (qA6 e hp)];exact h b u e
theorem keep_put {d c:Addr} {H Hc:Hp} {p:Addr} {o:HO} (h:Keep d c H Hc) (hp:H p=none):Keep d c H (upd Hc p o):=fun b u e n1 n2=>by rw [qA9 (qA6 e hp)];exact h b u e n1 n2
theorem qD9 {H:Hp} {p:Addr} {xs:List V} {o:HO} {rs:List Addr} {net:List (List Int)} (h:NetL H rs net) (hp:H p=some (.lst xs)):NetL (upd H p o) rs net:=
 h.same fun r zs e=>by rw [qA9 (ne_of e hp (by intro z;cases z))];exact e
theorem qAP (rs:List Addr) (r:Addr):rs.map V.ref++[V.ref r]=(rs++[r]).map V.ref:=by rw [List.map_append];rfl
theorem rep_b (b:Bool) (x:Int):(List.replicate (if b=true then (1:Int) else 0).toNat [V.int x]).flatten=(if b=true then [x] else []).map V.int:=by cases b <;> rfl
theorem qAU {α β:Type} {F:α→β→Prop}:∀ {l₁:List α} {l₂:List β} {i:Nat} {a:α},Paired F l₁ l₂→l₁[i]?=some a→∃ b,l₂[i]?=some b∧F a b
 | _,_,_,_,.nil,e=>by simp at e
 | _,_,0,_,.cons r _,e=>by simp at e;subst e;exact ⟨_,rfl,r⟩
 | _,_,i+1,a,.cons _ t,e=>by
  obtain ⟨b,h1,h2⟩:=qAU (i:=i) (a:=a) t (by simpa using e)
  exact ⟨b,by simpa using h1,h2⟩
theorem qBA {α β:Type} {F G:α→β→Prop} {l₁:List α} {l₂:List β} (h:Paired F l₁ l₂) (k:∀ a b,F a b→G a b):Paired G l₁ l₂:=by
 induction h with
 | nil=>exact .nil
 | cons r t ih=>exact .cons (k _ _ r) ih
theorem qBH {rs:List Addr} {i:Nat} {x:V} (h:(rs.map V.ref)[i]?=some x):∃ r,rs[i]?=some r∧x=.ref r:=by
 rw [List.getElem?_map] at h
 cases e:rs[i]? with
 | none=>rw [e] at h;cases h
 | some r=>rw [e] at h;exact ⟨r,rfl,(Option.some.inj h).symm⟩
theorem qD2 {zs:List Int} {i:Nat} {x:V} (h:(zs.map V.int)[i]?=some x):∃ z,zs[i]?=some z∧x=.int z:=by
 rw [List.getElem?_map] at h
 cases e:zs[i]? with
 | none=>rw [e] at h;cases h
 | some r=>rw [e] at h;exact ⟨r,rfl,(Option.some.inj h).symm⟩
theorem snoc_get {α:Type} {l:List α} {a b:α} {j:Nat} (h:(l++[a])[j]?=some b):l[j]?=some b∨(j=l.length∧b=a):=by
 rcases Nat.lt_trichotomy j l.length with z | z | z
 ·rw [List.getElem?_append_left z] at h;exact .inl h
 ·subst z
  simp at h
  exact .inr ⟨rfl,h.symm⟩
 ·rw [List.getElem?_eq_none (by rw [List.length_append,List.length_singleton];lia)] at h
  cases h
noncomputable def wordDo (ns st:List Int) (rooms wk:Int):V:=if wk ∈ st then .str "there" else if ∀ x ∈ ns,x ∈ st then (if rooms≤(st.length:Int) then .str "full" else .non) else .str "needs"
noncomputable def wordClear (st:List Int) (wk:Int):V:=if wk ∈ st then .non else .str "empty"
noncomputable def wordOf (ns st:List Int) (rooms:Int) (word:Str) (wk:Int):V:=if word = "do" then wordDo ns st rooms wk else wordClear st wk
theorem qC4:¬ (Str.ofString "clear" = Str.ofString "do"):=by decide +kernel
theorem qBV {xs:List V} {i:Int} {x:V} (h0:0≤i) (h:xs[i.toNat]?=some x):atI xs i=some x:=by
 have e:i=((i.toNat:Nat):Int):=by lia
 rw [e]
 exact atI_nat (by simpa using h)
theorem NetAt.get {H:Hp} {a:Addr} {net:List (List Int)} {ns:List Int} {i:Nat} (h:NetAt H a net) (e:net[i]?=some ns):∃ (rs:List Addr) (r:Addr),H a=some (.tup (rs.map V.ref))∧rs.length=net.length∧(rs.map V.ref)[i]?=some (.ref r)∧H r=some (.tup (ns.map V.int)):=by
 obtain ⟨rs,h1,h2⟩:=h
 obtain ⟨r,h3,h4⟩:=h2.get e
 exact ⟨rs,r,h1,Paired.length h2,by rw [List.getElem?_map,h3];rfl,h4⟩
def tJoin (t:TS):TS:=fun D σ H=>∃ Pm:St→Hp→Prop,t { D with nx:=Pm } σ H∧∀ σ' H',Pm σ' H'→D.nx σ' H'
theorem ps_join {X:Cx} {st:Stmt} {t:TS} (h:PS X st t):PS X st (tJoin t):=by
 intro pins s σ H D I hq
 obtain ⟨Pm,h1,h2⟩:=hq
 refine thn (h pins s σ H _ I h1) fun f s' q=>?_
 cases f with
 | next=>obtain ⟨σ',H',I',q⟩:=q;exact ⟨σ',H',I',h2 _ _ q⟩
 | brk=>exact q
 | cont=>exact q
 | ret u=>exact q
theorem bt_zip:bootBuiltins "zip" = some (.type "zip"):=by decide +kernel
def seqO (b:Bool) (xs:List V):HO:=match b with | true=>.tup xs | false=>.lst xs
section
variable {K:PySem.W.Frag}
end
theorem qDD {α:Type} {p:α→Bool} {l:List α} {i:Nat} {x:α} (h:l[i]?=some x):(l.take (i+1)).filter p=(l.take i).filter p++(if p x then [x] else []):=by
 rw [List.take_add_one,h,Option.toList_some,List.filter_append]
 by_cases hp:p x=true
 ·simp [hp]
 ·simp [hp]
end Fw
namespace L2
open PySem PySem.Spec PyProof.Rows
section
variable {X:Cx} {tg:Expr}
end
section
variable {X:Cx}
end
theorem for_dictTS {a:Addr} {o:Obj} {kvs:List (List KI × V)} {g:TG} {tb:TS} {D:Ends} {σ:St} {H:Hp} (Pv:Nat→St→Hp→Prop) (h0:Pv 0 σ H) (hl:∀ i σ H,i≤kvs.length→Pv i σ H→H a=some (.frz o (.dT kvs)))
  (hs:∀ i k v r σ H,kvs[i]?=some (k,v)→H r=some (.tup (k.map kI))→Pv i σ H→g (.ref r) σ H fun σ2 H2=>tb { D with nx:=Pv (i+1),ct:=Pv (i+1),bk:=D.nx } σ2 H2) (hd:∀ σ H,Pv kvs.length σ H→D.nx σ H) :
  ForG (ItT a o kvs) g tb D σ H:=by
 refine ⟨fun i m σ H=>m=kvs.length - i∧i≤kvs.length∧Pv i σ H,⟨kvs.length,by simp,Nat.zero_le _,h0⟩,?_⟩
 rintro i m σ H ⟨rfl,hi,p⟩
 have q:=hl i σ H hi p
 by_cases hlt:i<kvs.length
 ·refine .inr ⟨⟨hlt,q⟩,Pv (i+1),fun σ' H' p'=>⟨kvs.length - (i+1),by lia,rfl,hlt,p'⟩,fun x H' y=>?_⟩
  obtain ⟨e,k,v,r,e2,e3,e4⟩:=y
  subst e e3
  exact hs i k v r σ _ e2 e4 p
 ·have e:i=kvs.length:=by lia
  subst e
  exact .inl ⟨⟨Nat.le_refl _,q⟩,hd σ H p⟩
section
variable {X:Cx}
end
section
variable {X:Cx}
end
end L2
namespace Fw
open PySem L2
def DLeaf (x:V) (d:PyData):Prop:=(x=.non∧d=.none)∨(∃ b,x=.bl b∧d=.bool b)∨(∃ i,x=.int i∧d=.int i)∨∃ y,x=.str y∧d=.str y
def seqD (b:Bool) (ds:List PyData):PyData:=match b with | true=>.tuple ds | false=>.list ds
def DatN (H:Hp):Nat→V→PyData→Prop
 | 0,x,d=>DLeaf x d
 | n+1,x,d=>DLeaf x d∨∃ (b:Bool) (a:Addr) (xs:List V) (ds:List PyData),x=.ref a∧d=seqD b ds∧H a=some (seqO b xs)∧xs.length=ds.length∧∀ (i:Nat) (x':V) (d':PyData),xs[i]?=some x'→ds[i]?=some d'→DatN H n x' d'
theorem DatN.same {H H':Hp} (s:Same H H'):∀ {n:Nat} {x:V} {d:PyData},DatN H n x d→DatN H' n x d:=by
 intro n
 induction n with
 | zero=>exact fun {x d} h=>show DLeaf x d from h
 | succ n ih=>
  rintro x d (h | ⟨b,a,xs,ds,e1,e2,h1,hl,h⟩)
  ·exact .inl h
  ·exact .inr ⟨b,a,xs,ds,e1,e2,s _ _ h1,hl,fun i x' d' q1 q2=>ih (h i x' d' q1 q2)⟩
theorem DatN.up {H:Hp}:∀ {n:Nat} {x:V} {d:PyData},DatN H n x d→DatN H (n+1) x d:=by
 intro n
 induction n with
 | zero=>exact fun {x d} h=>.inl h
 | succ n ih=>
  rintro x d (h | ⟨b,a,xs,ds,e1,e2,h1,hl,h⟩)
  ·exact .inl h
  ·exact .inr ⟨b,a,xs,ds,e1,e2,h1,hl,fun i x' d' q1 q2=>ih (h i x' d' q1 q2)⟩
end Fw
namespace L2
open PySem PySem.Spec PyProof.Rows Fw
section
variable {X:Cx} {pins:List (Addr × Obj)} {σ:St} {H:Hp} {s:Shared}
end
end L2
namespace L2
open PySem PySem.Spec PyProof.Rows
theorem qCY:fillsNumberSlot (.type "tuple") "mul" = pure false:=
 PySem.fillsNumberSlot_seq (id:="tuple.__mul__") (r:=some (.builtin "tuple.__rmul__")) F.slot_tuple_mul.lookup (by decide +kernel) F.slot_tuple_rmul.lookup (by decide +kernel)
theorem repeat_tuple:seqRepeat? (.type "tuple")=pure (some (.builtin "tuple.__mul__")):=by
 unfold seqRepeat?
 rw [PySem.seqSlot_of (T:="tuple") (name:="__mul__") (id:="tuple.__mul__") F.slot_tuple_mul.lookup (by decide +kernel),PySem.seqSlot_of (T:="tuple") (name:="__rmul__") (id:="tuple.__rmul__") F.slot_tuple_rmul.lookup (by decide +kernel)]
 rfl
end L2
namespace L2
open PySem PySem.Spec PyProof.Rows
section
variable {X:Cx}
def rRepT (K:PySem.W.Frag):R2:=fun x y H Q=>∃ (a:Addr) (k:Int) (xs:List V),x=.ref a∧y=.int k∧SqT K H a xs∧xs ≠ []∧1≤k∧k≤1000∧xs.length≤1000∧(k=1→Q (.ref a) H)∧(k ≠ 1→∀ p,H p=none→Q (.ref p) (upd H p (.tup (List.replicate k.toNat xs).flatten)))
theorem op_repT:OpR X (binaryOp .Mult) (rRepT X.K):=by
 intro pins s σ H x y v u Q I rx ry h
 obtain ⟨a,k,xs,rfl,rfl,hq,hne,k1,k2,hl,q1,q2⟩:=h
 cases rx
 obtain ⟨t,rfl⟩:=ry
 obtain ⟨its,rv,ht,hz⟩:=I.tuple hq
 have hlen:=rv.length
 obtain ⟨o,ho,hcl,n,hd⟩:=id ht
 refine wpAny_binaryOp_repeat_ref (T:="tuple") (U:="int") (by decide) ht.typeIs (fun s'=>typeIs_int s' k t) qCY F.fills_int_mul F.slot_int_rmul repeat_tuple F.slot_int_index.lookup ?_
 refine wpAny_call_entry F.slot_int_rmul (typeIs_int s k t) F.entry_int_rmul ?_ (F.args_int_rmul_2 _ _)
 show wpAny _ _ (asInt? (.ref a) >>= _) _ _ s
 unfold asInt?
 refine wpAny_bind (wpAny_bind (wpAny_load ho ?_))
 rw [hd]
 refine wpAny_pure ?_
 refine wpAny_bind (wpAny_rule ?_)
 refine wpAny_pure ⟨_,rfl,rfl,ht.typeIs,?_⟩
 refine wpAny_call_entry F.slot_tuple_mul ht.typeIs F.entry_tuple_mul ?_ (F.args_tuple_mul_2 _ _)
 show wpAny _ _ (asIndex (.int k t) >>= _) _ _ s
 refine wpAny_bind (wpAny_of_eq (a:=k) rfl ?_)
 rw [if_neg (by simp;lia)]
 refine wpAny_bind (tupleItemsOf_ ht ?_)
 have e0:its.toArray.isEmpty=false:=by
  cases its with
  | nil=>cases xs with
   | nil=>exact absurd rfl hne
   | cons _ _=>cases hlen
  | cons _ _=>rfl
 rw [e0]
 have nl:(its.length:Int) * k≤1000000:=by
  have h1:(its.length:Int)≤1000:=by lia
  have h0:0≤(its.length:Int):=by lia
  have:=Int.mul_le_mul h1 k2 (by lia) (by lia)
  lia
 dsimp only
 by_cases hk:k=1
 ·subst hk
  rw [if_pos (by rfl)]
  unfold Builtin.Tuple.tupleIsExact
  refine wpAny_bind (wpAny_bind (wpAny_typeOf ht.typeIs (wpAny_pure ?_)))
  rw [if_pos (by rfl)]
  exact wpAny_bind (wpAny_rule (wpAny_pure ⟨_,rfl,.ref a,H,I,rfl,q1 rfl⟩))
 ·rw [if_neg (by simp [hk]),if_neg (by simp;lia),if_neg (by rw [List.size_toArray];lia),if_neg (by unfold Builtin.Tuple.tupleTooMany;rw [sizeLine_eq,List.size_toArray];simp;lia)]
  have f0:=foldl_rep its k.toNat []
  rw [List.nil_append] at f0
  have ef:List.foldl (fun x1 x2=>x1++x2) #[] (List.replicate k.toNat its.toArray)=(List.replicate k.toNat its).flatten.toArray:=f0
  rw [ef]
  unfold Builtin.Tuple.tupleExact
  have hsz:(List.replicate k.toNat its).flatten.length≤1000000:=by
   rw [List.length_flatten,List.map_replicate,List.sum_replicate_nat]
   have e1:((k.toNat * its.length:Nat):Int)=(its.length:Int) * k:=by rw [Int.natCast_mul,Int.toNat_of_nonneg (by lia),Int.mul_comm]
   lia
  refine wpAny_bind (wpAny_newObj_type (wpAny_pure ⟨_,rfl,?_⟩) ?_)
  ·have lx:(List.replicate k.toNat xs).flatten.length≤1000000:=by
    rw [(rv.rep k.toNat).length]
    exact hsz
   refine ⟨.ref s.heap.objs.size,_,I.laid (t':=s.toks) (o:=.tup (List.replicate k.toNat xs).flatten) (fun b ob q=>Heap.get?_push_of_some _ q) (Nat.le_refl _) ?_,rfl,q2 hk _ (I.hok.fresh (Nat.le_refl _))⟩
   exact ⟨by rw [sizeLine_eq];lia,_,rv.rep k.toNat,IsTup.new _ _⟩
  ·size_fits
end
end L2
namespace L2
open PySem PySem.Spec PyProof.Rows
section
variable {X:Cx}
def rRepT0 (K:PySem.W.Frag):R2:=fun x y H Q=>∃ (a:Addr) (xs:List V),x=.ref a∧y=.int 0∧SqT K H a xs∧xs ≠ []∧xs.length≤1000∧∀ p,H p=none→Q (.ref p) (upd H p (.tup []))
theorem op_repT0:OpR X (binaryOp .Mult) (rRepT0 X.K):=by
 intro pins s σ H x y v u Q I rx ry h
 obtain ⟨a,xs,rfl,rfl,hq,hne,hl,q2⟩:=h
 cases rx
 obtain ⟨t,rfl⟩:=ry
 obtain ⟨its,rv,ht,hz⟩:=I.tuple hq
 have hlen:=rv.length
 obtain ⟨o,ho,hcl,n,hd⟩:=id ht
 refine wpAny_binaryOp_repeat_ref (T:="tuple") (U:="int") (by decide) ht.typeIs (fun s'=>typeIs_int s' 0 t) qCY F.fills_int_mul F.slot_int_rmul repeat_tuple F.slot_int_index.lookup ?_
 refine wpAny_call_entry F.slot_int_rmul (typeIs_int s 0 t) F.entry_int_rmul ?_ (F.args_int_rmul_2 _ _)
 show wpAny _ _ (asInt? (.ref a) >>= _) _ _ s
 unfold asInt?
 refine wpAny_bind (wpAny_bind (wpAny_load ho ?_))
 rw [hd]
 refine wpAny_pure ?_
 refine wpAny_bind (wpAny_rule ?_)
 refine wpAny_pure ⟨_,rfl,rfl,ht.typeIs,?_⟩
 refine wpAny_call_entry F.slot_tuple_mul ht.typeIs F.entry_tuple_mul ?_ (F.args_tuple_mul_2 _ _)
 show wpAny _ _ (asIndex (.int 0 t) >>= _) _ _ s
 refine wpAny_bind (wpAny_of_eq (a:=0) rfl ?_)
 rw [if_neg (by simp)]
 refine wpAny_bind (tupleItemsOf_ ht ?_)
 have e0:its.toArray.isEmpty=false:=by
  cases its with
  | nil=>cases xs with
   | nil=>exact absurd rfl hne
   | cons _ _=>cases hlen
  | cons _ _=>rfl
 rw [e0]
 dsimp only
 rw [if_neg (by simp)]
 rw [if_pos (by rfl)]
 unfold Builtin.Tuple.tupleExact
 refine wpAny_bind (wpAny_newObj_type (wpAny_pure ⟨_,rfl,?_⟩) ?_)
 ·refine ⟨.ref s.heap.objs.size,_,I.laid (t':=s.toks) (o:=.tup []) (fun b ob q=>Heap.get?_push_of_some _ q) (Nat.le_refl _) ?_,rfl,q2 _ (I.hok.fresh (Nat.le_refl _))⟩
  exact ⟨Nat.zero_le _,[],.nil,IsTup.new _ _⟩
 ·size_fits
def rRepTO:R2:=fun x y H Q=>∃ (a:Addr) (k:Int) (xs:List V),x=.ref a∧y=.int k∧H a=some (.tup xs)∧xs ≠ []∧0≤k∧k≤1000∧xs.length≤1000∧∀ p H',Same H H'→H' p=some (.tup (List.replicate k.toNat xs).flatten)→Q (.ref p) H'
theorem op_repTO:OpR X (binaryOp .Mult) rRepTO:=by
 intro pins s σ H x y v u Q I rx ry h
 obtain ⟨a,k,xs,rfl,rfl,hq,hne,k0,k2,hl,q⟩:=h
 by_cases e:k=0
 ·subst e
  exact op_repT0 pins s σ H _ _ v u Q I rx ry ⟨a,xs,rfl,rfl,SqT.of hq,hne,hl,fun p hp=>q p _ (fun b u q=>by rw [qA9 (qA6 q hp)];exact q) qA1⟩
 ·refine op_repT pins s σ H _ _ v u Q I rx ry ⟨a,k,xs,rfl,rfl,SqT.of hq,hne,by lia,k2,hl,fun z=>q a H (.refl _) (by rw [hq,z];simp),fun _ p hp=>q p _ (fun b u q=>by rw [qA9 (qA6 q hp)];exact q) qA1⟩
theorem op_catUK {K:PySem.W.Frag} (hK:X.K=K):OpR X (binaryOp .Add) (rCatU K):=by subst hK;exact qBR
theorem op_ne_flatT (hu:X.A.units<cLine):OpR X (compareOp .NotEq) (fun x y H Q=>∃ (p l:Addr) (xs ys:List V),x=.ref p∧y=.ref l∧H p=some (.tup xs)∧H l=some (.tup ys)∧xs.all flatV=true∧ys.all flatV=true∧∀ b,Q (.bl b) H):=by
 intro pins s σ H x y v u Q I rx ry h
 obtain ⟨p,l,xs,ys,rfl,rfl,h1,h2,f1,f2,q⟩:=h
 cases rx
 cases ry
 obtain ⟨us,r1,p1,z1⟩:=I.tuple (SqT.of (K:=X.K) h1)
 obtain ⟨vs,r2,p2,z2⟩:=I.tuple (SqT.of (K:=X.K) h2)
 refine PySem.SeqAt.RcNeAt.tuples (e:=fun j=>eqV (xs[j]?.getD .non) (ys[j]?.getD .non)) p1 p2 hu (fun j j1 j2=>?_) _ _ _ _ ⟨.bl _,H,I,rfl,q _⟩
 have k1:j<xs.length:=by rw [r1.length];simpa using j1
 have k2:j<ys.length:=by rw [r2.length];simpa using j2
 obtain ⟨u,e1,a1⟩:=r1.get (List.getElem?_eq_getElem k1)
 obtain ⟨v,e2,a2⟩:=r2.get (List.getElem?_eq_getElem k2)
 have e3:us.toArray[j]=u:=by obtain ⟨_,e⟩:=List.getElem?_eq_some_iff.mp e1;simpa using e
 have e4:vs.toArray[j]=v:=by obtain ⟨_,e⟩:=List.getElem?_eq_some_iff.mp e2;simpa using e
 rw [e3,e4,List.getElem?_eq_getElem k1,List.getElem?_eq_getElem k2]
 exact eqAt_V a1 a2 (List.all_eq_true.mp f1 _ (List.getElem_mem _)) (List.all_eq_true.mp f2 _ (List.getElem_mem _))
theorem call_lenO:CallR X (.builtin "len") (fun xs H Q=>∃ p zs,xs=[V.ref p]∧H p=some (SetO X.w p zs)∧Q (.int (zs.length:Nat)) H):=by
 intro pins s σ H xs us Q I r h
 obtain ⟨p,zs,rfl,hq,q⟩:=h
 obtain ⟨u,rfl,ru⟩:=vals1 r
 cases ru
 obtain ⟨hS,_⟩:=(show ObjOk X.prog X.w H s.heap p (SetO X.w p zs) from I.hok p _ hq)
 obtain ⟨es,ep,t,ks,ho,T,en,pm,nd,l4⟩:=hS
 have le:es.size=zs.length:=SetI.size (a:=p) (h:=s.heap) en pm
 have ft:t.fits es.size=true:=by
  unfold SetTable.fits SetTable.fill
  rw [T.size,T.dum,T.mask]
  simp
  lia
 refine call_len_set ho ?_ rfl ft (by lia) ?_
 ·exact ⟨rfl,rfl,rfl⟩
 ·rw [le]
  exact ⟨.int zs.length,H,I.tok _,⟨_,rfl⟩,q⟩
theorem hs_un {a:Expr} {o:UnaryOp} {es:List Expr} {env:Env} {p:Pos}:starEach (.UnaryOp o a p::es) env=(false,eval (.UnaryOp o a p) env)::starEach es env:=rfl
@[irreducible] def cxc (c:Const) (p:Pos):Expr:=.Constant c 0 p
theorem cxc_eq (c:Const) (p:Pos):cxc c p=.Constant c 0 p:=by unfold cxc;rfl
theorem qAS {es:List Expr} {env:Env} {c:Const} {p:Pos}:starEach (cxc c p::es) env=(false,eval (cxc c p) env)::starEach es env:=by rw [cxc_eq];rfl
theorem pe_cxN {p:Pos}:PE X (cxc .none p) (tC .non):=by rw [cxc_eq];exact qBU
theorem pe_cxB {b:Bool} {p:Pos}:PE X (cxc (.bool b) p) (tC (.bl b)):=by rw [cxc_eq];exact pe_bl
theorem qCW {i:Int} {p:Pos}:PE X (cxc (.int i) p) (tC (.int i)):=by rw [cxc_eq];exact qA7
theorem qBI {s:Str} {p:Pos}:PE X (cxc (.str s) p) (tC (.str s)):=by rw [cxc_eq];exact qAT
end
end L2
namespace HT
open PySem PySem.Spec PyProof.Rows
section
variable {prog:Program} {w:World} {A:Around} {E:Value→Shared→Prop} {s:Shared}
theorem sliceApplied_rev {sl:Addr} {tk:Tok} {n:Nat} {Q:Int × Int × Nat→Shared→Prop} (hs:s.heap.IsSliceOf sl .none .none (.int (-1) tk))
  (h:Q ((n:Int) - 1,-1,n) s):wpAny (model prog w) A (Builtin.Slice.sliceApplied (.ref sl) (pure (n:Int))) Q E s:=by
 obtain ⟨os,hos,hcs,hds⟩:=id hs
 unfold Builtin.Slice.sliceApplied Builtin.Slice.sliceFields
 refine wpAny_bind (wpAny_bind (wpAny_field hos hds (x:=.none) rfl (wpAny_bind (wpAny_field hos hds (x:=.none) rfl (wpAny_bind (wpAny_field hos hds (x:=.int (-1) tk) rfl (wpAny_pure ?_)))))))
 refine wpAny_bind (slicePart_int ?_)
 show wpAny _ _ (if ((-1:Int) == 0)=true then _ else _) _ _ s
 rw [if_neg (by decide)]
 refine wpAny_bind (slicePart_none (wpAny_bind (slicePart_none (wpAny_bind (wpAny_pure ?_)))))
 show wpAny _ _ (pure ((n:Int) - 1,(-1:Int),Builtin.Slice.slicePlaces ((n:Int) - 1) (-1) (-1))) _ _ s
 have e:Builtin.Slice.slicePlaces ((n:Int) - 1) (-1) (-1)=n:=by
  unfold Builtin.Slice.slicePlaces
  rw [if_neg (by decide)]
  split
  ·rw [show (-(-1):Int)=1 from rfl,Int.ediv_one];lia
  ·lia
 rw [e]
 exact wpAny_pure h
theorem fm_map {α β:Type} {f:α→Option β} {g:α→β}:∀ {l:List α},(∀ x ∈ l,f x=some (g x))→l.filterMap f=l.map g
 | [],_=>rfl
 | x::l,h=>by rw [List.filterMap_cons,h x List.mem_cons_self,List.map_cons,fm_map fun y hy=>h y (List.mem_cons_of_mem _ hy)]
theorem pick_rev (xs:Array Value):((List.range xs.size).filterMap fun (m:Nat)=>xs[(((xs.size:Int) - 1)+(m:Int) * (-1)).toNat]?).toArray=xs.toList.reverse.toArray:=by
 congr 1
 apply List.ext_getElem?
 intro i
 have e:((List.range xs.size).filterMap fun (m:Nat)=>xs[(((xs.size:Int) - 1)+(m:Int) * (-1)).toNat]?)=(List.range xs.size).map fun (m:Nat)=>xs.toList.getD (xs.size - 1 - m) default:=by
  refine fm_map fun m hm=>?_
  have hm:=List.mem_range.mp hm
  have e1:(((xs.size:Int) - 1)+(m:Int) * (-1)).toNat=xs.size - 1 - m:=by lia
  rw [e1]
  have hl:xs.size - 1 - m<xs.size:=by lia
  rw [Array.getElem?_eq_getElem hl,List.getD_eq_getElem?_getD,Array.getElem?_toList,Array.getElem?_eq_getElem hl]
  rfl
 rw [e,List.getElem?_map]
 by_cases hi:i<xs.size
 ·rw [List.getElem?_range hi,List.getElem?_reverse (by rw [Array.length_toList];exact hi),Array.length_toList]
  show some (xs.toList.getD (xs.size - 1 - i) default)=_
  have hl:xs.size - 1 - i<xs.size:=by lia
  rw [List.getD_eq_getElem?_getD,Array.getElem?_toList,Array.getElem?_eq_getElem hl]
  rfl
 ·rw [List.getElem?_eq_none (by rw [List.length_range];lia),List.getElem?_eq_none (by rw [List.length_reverse,Array.length_toList];lia)]
  rfl
theorem getItem_tuple_rev {t sl:Addr} {items:Array Value} {tk:Tok} {Q:Value→Shared→Prop} (ht:IsTup s.heap t items) (hs:s.heap.IsSliceOf sl .none .none (.int (-1) tk))
  (h:Q (.ref s.heap.objs.size) { s with heap:=s.heap.push { cls:=.type "tuple",data:=.seq items.toList.reverse.toArray } })
  (hsz:items.size≤sizeLine):wpAny (model prog w) A (getItem (.ref t) (.ref sl)) Q E s:=by
 have htake:sizeOk (.seq items.toList.reverse.toArray):=by
  show items.toList.reverse.toArray.size≤sizeLine
  rw [List.size_toArray,List.length_reverse,Array.length_toList]
  exact hsz
 obtain ⟨os,hos,hcs,hds⟩:=id hs
 have hTs:s.TypeIs (.ref sl) "slice":=⟨os,hos,hcs⟩
 unfold getItem
 try with_reducible refine wpAny_holding ?_
 first | refine wpAny_bind (wpAny_pure ?_) | skip
 refine wpAny_bind (wpAny_sequenceKey ht.typeIs (by decide) ?_)
 refine wpAny_bind (wpAny_callSpecial?_slot (name:=Str.ofString "__getitem__") ht.typeIs PyProof.Rows.slot_tuple_getitem
  (wpAny_call_entry PyProof.Rows.slot_tuple_getitem ht.typeIs entry_tuple_getitem ?_ (args_tuple_getitem _ _)))
 show wpAny _ _ (Builtin.Tuple.tupleItemsOf (.ref t) >>= _) _ _ s
 refine wpAny_bind (tupleItemsOf_ ht ?_)
 refine wpAny_bind (wpAny_typeOf hTs ?_)
 rw [if_pos (by decide)]
 refine wpAny_bind (sliceApplied_rev hs ?_)
 have hno:¬ (((items.size:Int) - 1 == 0 && (-1:Int) == 1 && items.size == items.size)=true):=by
  rw [show ((-1:Int) == 1)=false by decide,Bool.and_false,Bool.false_and]
  decide
 show wpAny _ _ (if ((items.size:Int) - 1 == 0 && (-1:Int) == 1 && items.size == items.size)=true then _ else _) _ _ s
 rw [if_neg hno,pick_rev]
 first
  | exact wpAny_bind (m:=Builtin.Tuple.tupleExact _) (wpAny_newObj_type (wpAny_pure ⟨_,rfl,wpAny_pure h⟩) htake)
  | exact wpAny_bind (m:=Builtin.Tuple.tupleExact _) (wpAny_newObj_type (wpAny_bind (wpAny_pure (wpAny_pure ⟨_,rfl,wpAny_pure h⟩))) htake)
  | exact wpAny_bind (wpAny_bind (m:=Builtin.Tuple.tupleExact _) (wpAny_newObj_type (wpAny_pure (wpAny_pure ⟨_,rfl,wpAny_pure h⟩)) htake))
end
end HT
namespace L2
open PySem PySem.Spec PyProof.Rows Fw
section
variable {X:Cx} {e:Expr} {te:TE} {st:Option Expr} {tst:TO} {pos p2:Pos}
def tSlRT (K:PySem.W.Frag) (te:TE) (tst:TO):TE:=fun σ H Q=>te σ H fun x H1=>tst σ H1 fun l H2=>l=some (-1)∧∃ a xs,x=.ref a∧SqT K H2 a xs∧∀ p,H2 p=none→Q (.ref p) (upd H2 p (.tup xs.reverse))
theorem pe_sliceRT (he:PE X e te) (hst:PO X st tst) (hop:∀ v l:Value,∃ ops,subscripted (.Slice none none st p2) false v l=operate ops (getItem v l):=by intro v l;exact ⟨_,by with_unfolding_all rfl⟩):PE X (.Subscript e (.Slice none none st p2) pos) (tSlRT X.K te tst):=by
 intro pins s σ H Q I h
 refine Subscript_ (thn (he pins s σ H _ I h) fun v s1 ⟨x,H1,I1,r1,q1⟩=>?_)
 refine wpAny_Slice ?_
 rw [evalPart_none]
 refine wpAny_pure (wpAny_pure (thn (hst pins s1 σ H1 _ I1 q1) fun vk s3 ⟨u,H3,I3,pu,q3⟩=>?_))
 obtain ⟨rfl,a,xs,rfl,hx,q⟩:=q3
 cases r1
 have I4:Inv X pins σ H3 { s3 with heap:=s3.heap.push { cls:=.type "slice",data:=.fields #[.none,.none,vk] } }:=I3.kept (t':=s3.toks) fun b ob q=>Heap.get?_push_of_some _ q
 obtain ⟨its,r,ht,hz⟩:=I4.tuple hx
 have hlen:=r.length
 have hsl:Heap.IsSliceOf (s3.heap.push { cls:=.type "slice",data:=.fields #[.none,.none,vk] }) s3.heap.objs.size .none .none vk:=Heap.IsSliceOf.new ..
 obtain ⟨ops,hops⟩:=hop (.ref a) (.ref s3.heap.objs.size)
 cases pu
 refine tail_any (ops:=ops) ht.typeIs PyProof.Rows.slot_tuple_getitem.lookup ?_ hops
 refine HT.getItem_tuple_rev ht hsl ?_ (by rw [List.size_toArray] <;> lia)
 rw [show its.toArray.toList.reverse.toArray=its.reverse.toArray by simp]
 refine ⟨.ref _,_,I4.laid (t':=s3.toks) (o:=.tup xs.reverse) (fun b ob q=>Heap.get?_push_of_some _ q) (Nat.le_refl _) ?_,rfl,q _ (I4.hok.fresh (Nat.le_refl _))⟩
 exact ⟨by rw [List.length_reverse];exact hz,_,r.reverse,⟨_,Heap.get?_push_size _ rfl,rfl,0,rfl⟩⟩
def rSlTV:V→Option Int→Option Int→Hp→VK→Prop:=fun x lo hi H Q=>∃ a xs,x=.ref a∧H a=some (.tup xs)∧∀ p H',Same H H'→H' p=some (.tup (cutV xs lo hi))→Q (.ref p) H'
theorem sl_tupV:SlR X rSlTV:=by
 intro pins s σ H x v vl vu lo hi sl Q I rx hs pl pu h
 obtain ⟨a,xs,rfl,hx,q⟩:=h
 by_cases hw:HT.sIx xs.length 0 lo=0∧HT.sIx xs.length xs.length hi=xs.length
 ·cases rx
  obtain ⟨its,r,ht,hz⟩:=I.tuple (SqT.of hx)
  have hlen:its.toArray.size=xs.length:=by rw [List.size_toArray];exact r.length.symm
  refine ⟨"tuple",_,PyProof.Rows.slot_tuple_getitem.lookup,ht.typeIs,?_⟩
  refine HT.getItem_tuple_whole ht hs pl pu (by rw [hlen];exact hw) ⟨.ref a,H,I,rfl,q a H (fun _ _ e=>e) ?_⟩
  have:cutV xs lo hi=xs:=by
   unfold cutV
   rw [hw.1,hw.2,List.drop_zero,Nat.sub_zero,List.take_length]
  rw [this]
  exact hx
 ·exact sl_tup pins s σ H (.ref a) v vl vu lo hi sl Q I rx hs pl pu ⟨a,xs,rfl,SqT.of hx,hw,fun p hp=>q p _ (fun b u e=>by rw [qA9 (qA6 e hp)];exact e) qA1⟩
end
end L2
namespace Fw
open PySem L2
theorem paired_app {α β:Type} {F:α→β→Prop} {a c:List α} {b d:List β} (h:Paired F a b) (k:Paired F c d):Paired F (a++c) (b++d):=by
 induction h with
 | nil=>exact k
 | cons r t ih=>exact .cons r ih
noncomputable def wd (net:List (List Int)) (st:List Int) (rooms:Int) (m:Str × Int):V:=wordOf ((net[m.2.toNat]?).getD []) st rooms m.1 m.2
theorem take_all {α:Type} {l:List α} {n:Nat} (h:l.length=n):l.take n=l:=List.take_of_length_le (by lia)
theorem qD3 {p:Int→Bool} {l:List Int} {i:Nat}:((l.take i).filter p).length≤i:=by
 have:=List.length_filter_le p (l.take i)
 rw [List.length_take] at this
 lia
structure Cnt (n:Nat) (cs:List Int) (seen:List Int):Prop where
 len:cs.length=n
 at_:∀ x:Nat,x<n→∃ c,cs[x]?=some c∧0≤c∧(c=0 ↔ (x:Int) ∉ seen)
theorem qAC {n:Nat} (h:n≤1000000):n<sizeLine:=by rw [sizeLine_eq];lia
inductive Nd (net:List (List Int)) (asked:List Int):Int→Prop
 | ask {x:Int}:x ∈ asked→Nd net asked x
 | need {w y:Int} {zs:List Int}:Nd net asked w→net[w.toNat]?=some zs→y ∈ zs→Nd net asked y
structure KeysI (kvs:List (Key × V)) (ks:List Int):Prop where
 keys:kvs.map (·.1)=ks.map Sum.inl
 nd:ks.Nodup
theorem KeysI.len {kvs:List (Key × V)} {ks:List Int} (h:KeysI kvs ks):kvs.length=ks.length:=by
 have:=congrArg List.length h.keys
 simpa using this
theorem KeysI.nil:KeysI [] []:=⟨rfl,.nil⟩
theorem any_key (k:Key):∀ kvs:List (Key × V),(kvs.any fun kv=>decide (kv.1=k))=true ↔ k ∈ kvs.map (·.1)
 | []=>by simp
 | p::r=>by
  rw [List.any_cons,List.map_cons,Bool.or_eq_true,any_key k r,List.mem_cons,decide_eq_true_eq]
  exact or_congr_left ⟨Eq.symm,Eq.symm⟩
theorem KeysI.mem {kvs:List (Key × V)} {ks:List Int} (h:KeysI kvs ks) (x:Int):(Sum.inl x:Key) ∈ kvs.map (·.1) ↔ x ∈ ks:=by
 rw [h.keys,List.mem_map]
 exact ⟨fun ⟨y,hy,e⟩=>Sum.inl.inj e ▸ hy,fun hx=>⟨x,hx,rfl⟩⟩
theorem KeysI.has {kvs:List (Key × V)} {ks:List Int} (h:KeysI kvs ks) (x:Int):(valV kvs (Sum.inl x)).isSome=decide (x ∈ ks):=by
 rw [← valV_any]
 have:=(any_key (Sum.inl x) kvs).trans (h.mem x)
 by_cases e:x ∈ ks
 ·rw [decide_eq_true e]
  exact this.mpr e
 ·rw [decide_eq_false e]
  exact Bool.eq_false_iff.mpr fun z=>e (this.mp z)
theorem map_keys (k:Key) (v:V):∀ kvs:List (Key × V),(kvs.map fun kv=>if kv.1=k then (kv.1,v) else kv).map (·.1)=kvs.map (·.1)
 | []=>rfl
 | p::r=>by
  rw [List.map_cons,List.map_cons,List.map_cons,map_keys k v r]
  congr 1
  split <;> rfl
theorem KeysI.put {kvs:List (Key × V)} {ks:List Int} (h:KeysI kvs ks) (x:Int) (v:V):KeysI (putK kvs (Sum.inl x) v) (addI ks x):=by
 have key:=(any_key (Sum.inl x) kvs).trans (h.mem x)
 unfold putK addI
 by_cases e:x ∈ ks
 ·rw [if_pos (key.mpr e),if_pos e]
  exact ⟨by rw [map_keys];exact h.keys,h.nd⟩
 ·rw [if_neg fun z=>e (key.mp z),if_neg e]
  refine ⟨by rw [List.map_append,List.map_append,h.keys];rfl,nd_snoc h.nd e⟩
structure Fnd (net:List (List Int)) (asked ks:List Int) (j:Int):Prop where
 in_:∀ x ∈ ks,(0≤x∧x<(net.length:Int))∧Nd net asked x
 ask:∀ x ∈ asked,x ∈ ks
 clo:∀ (w:Nat) zs,j≤(w:Int)→(w:Int) ∈ ks→net[w]?=some zs→∀ y ∈ zs,y ∈ ks
abbrev Mv:=Str × Int
def nd (net:List (List Int)) (w:Int):List Int:=(net[w.toNat]?).getD []
def later (net:List (List Int)) (zs:List Int) (j:Nat) (x:Int):Prop:=∃ v ∈ zs.drop j,x ∈ nd net v
instance (net:List (List Int)) (zs:List Int) (j:Nat) (x:Int):Decidable (later net zs j x):=by unfold later;infer_instance
inductive Run (net:List (List Int)) (rooms:Int):List Int→List Mv→List Int→Prop
 | nil {s:List Int}:Run net rooms s [] s
 | do_ {s s' t:List Int} {w:Int} {ms:List Mv}:w ∉ s→(∀ y ∈ nd net w,y ∈ s)→(s.length:Int)<rooms→s'.Perm (s++[w])→s'.Pairwise (·<·)→Run net rooms s' ms t→Run net rooms s (("do",w)::ms) t
 | clear {s t:List Int} {w:Int} {ms:List Mv}:w ∈ s→Run net rooms (s.filter fun x=>decide (x ≠ w)) ms t→Run net rooms s (("clear",w)::ms) t
section
variable {net:List (List Int)} {asked zs:List Int}
end
def spAsked:Sp:=fun vs H Q _=>∃ d c t ns a net,vs=[.ref d,.ref a]∧StAt H d c t ns∧t≤TB - 100∧NetAt H a net∧WFn net∧1≤net.length∧net.length≤400∧
 ∀ r ws t' ns' H',StAt H' d c t' ns'→t≤t'→t'≤t+10→Keep d c H H'→H' r=some (.tup (ws.map V.int))→Rise (net.length:Int) ws→1≤ws.length→Q (.ref r) H'
def Beh (st st':List Int) (word:Str) (wk:Int):Prop:=(word = "do"→st'.Perm (st++[wk])∧st'.Pairwise (·≤·))∧(word = "clear"→st'=st.filter fun x=>decide (x ≠ wk))
inductive Play (net:List (List Int)) (rooms:Int):List Int→List Mv→List (List Int)→V→Prop
 | nil {st}:Play net rooms st [] [] .non
 | stop {st m ms w0}:wd net st rooms m=.str w0→Play net rooms st (m::ms) [] (.str w0)
 | go {st st' m ms sts v}:wd net st rooms m=.non→Beh st st' m.1 m.2→Play net rooms st' ms sts v→Play net rooms st (m::ms) (st'::sts) v
theorem paired_drop {α β:Type} {F:α→β→Prop}:∀ {l₁:List α} {l₂:List β} (k:Nat),Paired F l₁ l₂→Paired F (l₁.drop k) (l₂.drop k)
 | _,_,0,h=>h
 | _,_,_+1,.nil=>.nil
 | _,_,k+1,.cons _ t=>paired_drop k t
theorem paired_take {α β:Type} {F:α→β→Prop}:∀ {l₁:List α} {l₂:List β} (k:Nat),Paired F l₁ l₂→Paired F (l₁.take k) (l₂.take k)
 | _,_,0,_=>.nil
 | _,_,_+1,.nil=>.nil
 | _,_,k+1,.cons r t=>.cons r (paired_take k t)
theorem filt_len {α:Type} {p:α→Bool} {l:List α} {i:Nat}:((l.take i).filter p).length≤i:=
 Nat.le_trans (List.length_filter_le _ _) (by rw [List.length_take];lia)
def oV:Option Int→V
 | none=>.non
 | some i=>.int i
theorem inV_lay (w:Int) (lay:List (Option Int)):inV (.int w) (lay.map oV)=decide (some w ∈ lay):=by
 unfold inV
 induction lay with
 | nil=>simp
 | cons z r ih=>
  rw [List.map_cons,List.any_cons,ih]
  cases z with
  | none=>simp [oV,eqV]
  | some z=>
   have e:eqV (oV (some z)) (.int w)=decide (w=z):=by
    show (z == w)=decide (w=z)
    by_cases h:z=w
    ·subst h;simp
    ·have h':¬ w=z:=fun q=>h q.symm
     simp [h,h']
   rw [e]
   simp [List.mem_cons]
theorem qC1 (lay:List (Option Int)):(lay.map oV).all flatV=true:=by
 rw [List.all_eq_true]
 intro x hx
 obtain ⟨z,_,rfl⟩:=List.mem_map.mp hx
 cases z <;> rfl
structure Mo where
 dk:Bool
 wk:Int
 rm:Int
noncomputable def Mo.vs (m:Mo):List V:=match m.dk with | true=>[.str "do",.int m.wk,.int m.rm] | false=>[.str "clear",.int m.rm]
def Mo.res (m:Mo):Option Int:=match m.dk with | true=>some m.wk | false=>none
structure TIn (H:Hp) (a wd sz la mv:Addr) (net:List (List Int)) (wides sizes:List Int) (lay:List (Option Int)) (m:Mo) (ns:List Int) (o:Option Int) (s w:Int):Prop where
 net_:NetAt H a net
 wides_:H wd=some (.tup (wides.map V.int))
 sizes_:H sz=some (.tup (sizes.map V.int))
 lay_:H la=some (.tup (lay.map oV))
 move:H mv=some (.tup m.vs)
 work:m.dk=true→0≤m.wk∧net[m.wk.toNat]?=some ns∧ns.length≤1000∧wides[m.wk.toNat]?=some w
 rm0:0≤m.rm
 at_:lay[m.rm.toNat]?=some o
 size:sizes[m.rm.toNat]?=some s
 len:lay.length≤1000
theorem TIn.same {H H':Hp} {a wd sz la mv:Addr} {net:List (List Int)} {wides sizes:List Int} {lay:List (Option Int)} {m:Mo} {ns:List Int} {o:Option Int} {s w:Int} (h:TIn H a wd sz la mv net wides sizes lay m ns o s w) (k:Same H H'):TIn H' a wd sz la mv net wides sizes lay m ns o s w:=
 ⟨h.net_.same k,k _ _ h.wides_,k _ _ h.sizes_,k _ _ h.lay_,k _ _ h.move,h.work,h.rm0,h.at_,h.size,h.len⟩
noncomputable def thDo (ns:List Int) (lay:List (Option Int)) (wk:Int) (o:Option Int) (s w:Int):V:=if some wk ∈ lay then .str "there" else if ∀ x ∈ ns,some x ∈ lay then (match o with | some _=>.str "taken" | none=>if s<w then .str "small" else .non) else .str "needs"
noncomputable def thClr (o:Option Int):V:=match o with | some _=>.non | none=>.str "empty"
noncomputable def thW (m:Mo) (ns:List Int) (lay:List (Option Int)) (o:Option Int) (s w:Int):V:=match m.dk with | true=>thDo ns lay m.wk o s w | false=>thClr o
noncomputable abbrev TV (a:Addr) (wd sz la mv:Addr):List V:=[.ref a,.ref wd,.ref sz,.ref la,.ref mv]
def spHasAll:Sp:=fun vs H Q _=>∃ (la r:Addr) (lay:List (Option Int)) (ns:List Int),vs=[.ref la,.ref r]∧H la=some (.tup (lay.map oV))∧H r=some (.tup (ns.map V.int))∧ns.length≤1000∧∀ H',Same H H'→Q (.bl (decide (∀ x ∈ ns,some x ∈ lay))) H'
def spTh (dk:Bool):Sp:=fun vs H Q _=>∃ (a wd sz la mv:Addr) (net:List (List Int)) (wides sizes:List Int) (lay:List (Option Int)) (m:Mo) (ns:List Int) (o:Option Int) (s w:Int),vs=TV a wd sz la mv∧TIn H a wd sz la mv net wides sizes lay m ns o s w∧(dk=true→m.dk=true)∧∀ H',Same H H'→Q (thW m ns lay o s w) H'
def spLayB:Sp:=fun vs H Q _=>∃ (la mv:Addr) (lay:List (Option Int)) (m:Mo),vs=[.ref la,.ref mv]∧H la=some (.tup (lay.map oV))∧H mv=some (.tup m.vs)∧0≤m.rm∧m.rm.toNat<lay.length∧lay.length≤1000∧∀ r H',Same H H'→H' r=some (.tup ((lay.set m.rm.toNat m.res).map oV))→Q (.ref r) H'
noncomputable def allMo (n k:Int):List Mo:=(rangeI 0 k).flatMap fun rm=>((rangeI 0 n).map fun wk=>⟨true,wk,rm⟩)++[⟨false,0,rm⟩]
def MosL (H:Hp) (rs:List Addr) (ms:List Mo):Prop:=Paired (fun r (m:Mo)=>H r=some (.tup m.vs)) rs ms
def MosAt (H:Hp) (l:Addr) (ms:List Mo):Prop:=∃ rs,H l=some (.lst (rs.map V.ref))∧MosL H rs ms
theorem MosL.same {H H':Hp} {rs:List Addr} {ms:List Mo} (h:MosL H rs ms) (k:Same H H'):MosL H' rs ms:=qBA h fun r m e=>k _ _ e
theorem MosL.put {H:Hp} {p:Addr} {xs:List V} {o:HO} {rs:List Addr} {ms:List Mo} (h:MosL H rs ms) (hp:H p=some (.lst xs)):MosL (upd H p o) rs ms:=qBA h fun r m e=>by
 rw [qA9 (ne_of e hp (by intro z;cases z))]
 exact e
theorem qCH {n k:Int} {m:Mo} (h:m ∈ allMo n k):0≤m.rm∧m.rm<k∧(m.dk=true→0≤m.wk∧m.wk<n):=by
 obtain ⟨rm,hr,hm⟩:=List.mem_flatMap.mp h
 have hb:=mem_rangeI.mp hr
 rcases List.mem_append.mp hm with z | z
 ·obtain ⟨wk,hw,rfl⟩:=List.mem_map.mp z
  exact ⟨hb.1,hb.2,fun _=>mem_rangeI.mp hw⟩
 ·rw [List.mem_singleton.mp z]
  exact ⟨hb.1,hb.2,fun e=>nomatch e⟩
def LayOk (n:Int) (lay:List (Option Int)):Prop:=∀ x,some x ∈ lay→0≤x∧x<n
theorem LayOk.set {n:Int} {lay:List (Option Int)} {m:Mo} (h:LayOk n lay) (hm:m.dk=true→0≤m.wk∧m.wk<n):LayOk n (lay.set m.rm.toNat m.res):=fun x hx=>by
 rcases List.mem_or_eq_of_mem_set hx with z | z
 ·exact h x z
 ·unfold Mo.res at z
  cases e:m.dk with
  | false=>rw [e] at z;cases z
  | true=>rw [e] at z;cases z;exact hm e
structure TKit (H:Hp) (a wd sz:Addr) (net:List (List Int)) (wides sizes:List Int):Prop where
 net_:NetAt H a net
 wf:WFn net
 n1:1≤net.length
 n6:net.length≤6
 wides_:H wd=some (.tup (wides.map V.int))
 lw:wides.length=net.length
 w9:∀ x ∈ wides,0≤x∧x≤99
 sizes_:H sz=some (.tup (sizes.map V.int))
 k1:1≤sizes.length
 k5:sizes.length≤5
 s9:∀ x ∈ sizes,0≤x∧x≤99
theorem TKit.same {H H':Hp} {a wd sz:Addr} {net:List (List Int)} {wides sizes:List Int} (T:TKit H a wd sz net wides sizes) (k:Same H H'):TKit H' a wd sz net wides sizes:=
 ⟨T.net_.same k,T.wf,T.n1,T.n6,k _ _ T.wides_,T.lw,T.w9,k _ _ T.sizes_,T.k1,T.k5,T.s9⟩
theorem TKit.keep {H H':Hp} {d c a wd sz:Addr} {t:Int} {ns:List Int} {net:List (List Int)} {wides sizes:List Int} (T:TKit H a wd sz net wides sizes) (S:StAt H d c t ns) (k:Keep d c H H'):TKit H' a wd sz net wides sizes:=
 ⟨T.net_.keep S k,T.wf,T.n1,T.n6,k _ _ T.wides_ (S.tup T.wides_).1 (S.tup T.wides_).2,T.lw,T.w9,k _ _ T.sizes_ (S.tup T.sizes_).1 (S.tup T.sizes_).2,T.k1,T.k5,T.s9⟩
theorem TKit.tin {H:Hp} {a wd sz la mv:Addr} {net:List (List Int)} {wides sizes:List Int} {lay:List (Option Int)} {m:Mo} (T:TKit H a wd sz net wides sizes) (hl:H la=some (.tup (lay.map oV))) (ll:lay.length=sizes.length) (hm:H mv=some (.tup m.vs)) (hin:m ∈ allMo (net.length:Int) (sizes.length:Int)) :
  ∃ ns o s w,TIn H a wd sz la mv net wides sizes lay m ns o s w:=by
 obtain ⟨r0,r1,hw⟩:=qCH hin
 have k5:=T.k5
 have rl:m.rm.toNat<lay.length:=by lia
 have rs:m.rm.toNat<sizes.length:=by lia
 by_cases e:m.dk=true
 ·obtain ⟨w0,w1⟩:=hw e
  have wn:m.wk.toNat<net.length:=by lia
  have ww:m.wk.toNat<wides.length:=by rw [T.lw];exact wn
  have hns:=List.getElem?_eq_getElem wn
  have ln:=(T.wf _ _ hns).len
  have n6:=T.n6
  exact ⟨_,_,_,_,T.net_,T.wides_,T.sizes_,hl,hm,fun _=>⟨w0,hns,by lia,List.getElem?_eq_getElem ww⟩,r0,List.getElem?_eq_getElem rl,List.getElem?_eq_getElem rs,by lia⟩
 ·exact ⟨[],_,_,0,T.net_,T.wides_,T.sizes_,hl,hm,fun z=>absurd z e,r0,List.getElem?_eq_getElem rl,List.getElem?_eq_getElem rs,by lia⟩
def spAllMo:Sp:=fun vs H Q _=>∃ (a sz:Addr) (net:List (List Int)) (sizes:List Int),vs=[.ref a,.ref sz]∧NetAt H a net∧net.length≤6∧H sz=some (.tup (sizes.map V.int))∧sizes.length≤5∧
 ∀ l H',Same H H'→H l=none→MosAt H' l (allMo (net.length:Int) (sizes.length:Int))→Q (.ref l) H'
structure Sm (W:Nat) (d:PyData):Prop where
 sh:d.showable=true
 nd:d.hasDict=false
 ls:d.leavesShort 8=true
 wt:d.weight≤W
noncomputable def layD (lay:List (Option Int)):PyData:=.tuple (lay.map fun o=>match o with | some x=>PyData.int x | none=>PyData.none)
theorem dat_lay {H:Hp} {a:Addr} {lay:List (Option Int)} (h:H a=some (.tup (lay.map oV))):DatN H 1 (.ref a) (layD lay):=by
 refine .inr ⟨true,a,_,_,rfl,rfl,h,by rw [List.length_map,List.length_map],fun i x' d' e1 e2=>?_⟩
 rw [List.getElem?_map] at e1 e2
 cases hz:lay[i]? with
 | none=>rw [hz] at e1;cases e1
 | some o=>
  rw [hz] at e1 e2
  cases e1
  cases e2
  cases o with
  | none=>exact .inl ⟨rfl,rfl⟩
  | some z=>exact .inr (.inr (.inl ⟨z,rfl,rfl⟩))
def numB:PyData→Bool | .int _=>true | _=>false
def boolB:PyData→Bool | .bool _=>true | _=>false
def tupB:PyData→Bool | .tuple _=>true | _=>false
noncomputable def belowB (e:Int):PyData→Bool | .int i=>decide (0≤i) && decide (i<e) | _=>false
section
variable {K:PySem.W.Frag} {H:Hp}
theorem ty_dat {n:Nat} {x:V} {d:PyData} (h:DatN H n x d):∃ t,TyOf K H x t∧PySem.W.kitOne K t (.type "int")=some (numB d || boolB d)∧PySem.W.kitOne K t (.type "bool")=some (boolB d)∧PySem.W.kitOne K t (.type "tuple")=some (tupB d):=by
 have leaf:DLeaf x d→∃ t,TyOf K H x t∧PySem.W.kitOne K t (.type "int")=some (numB d || boolB d)∧PySem.W.kitOne K t (.type "bool")=some (boolB d)∧PySem.W.kitOne K t (.type "tuple")=some (tupB d):=by
  rintro (⟨rfl,rfl⟩ | ⟨b,rfl,rfl⟩ | ⟨i,rfl,rfl⟩ | ⟨y,rfl,rfl⟩)
  ·exact ⟨_,.non,rfl,rfl,rfl⟩
  ·exact ⟨_,.bl b,rfl,rfl,rfl⟩
  ·exact ⟨_,.int i,rfl,rfl,rfl⟩
  ·exact ⟨_,.str y,rfl,rfl,rfl⟩
 cases n with
 | zero=>exact leaf h
 | succ n=>
  rcases h with h | ⟨b,a,xs,ds,rfl,rfl,h1,_⟩
  ·exact leaf h
  ·cases b
   ·exact ⟨_,.lst h1,rfl,rfl,rfl⟩
   ·exact ⟨_,.tup h1,rfl,rfl,rfl⟩
theorem dat_int {n:Nat} {x:V} {d:PyData} (h:DatN H n x d) (hn:numB d=true):∃ i,x=.int i∧d=.int i:=by
 have leaf:DLeaf x d→∃ i,x=.int i∧d=.int i:=by
  rintro (⟨rfl,rfl⟩ | ⟨b,rfl,rfl⟩ | ⟨i,rfl,rfl⟩ | ⟨y,rfl,rfl⟩)
  ·cases hn
  ·cases hn
  ·exact ⟨i,rfl,rfl⟩
  ·cases hn
 cases n with
 | zero=>exact leaf h
 | succ n=>
  rcases h with h | ⟨b,a,xs,ds,rfl,rfl,h1,_⟩
  ·exact leaf h
  ·cases b <;> cases hn
theorem qDE {n:Nat} {x:V} {d:PyData} (h:DatN H n x d) (hn:tupB d=true):∃ m a xs ds,n=m+1∧x=.ref a∧d=.tuple ds∧H a=some (.tup xs)∧xs.length=ds.length∧∀ (i:Nat) (x':V) (d':PyData),xs[i]?=some x'→ds[i]?=some d'→DatN H m x' d':=by
 have leaf:DLeaf x d→False:=by
  rintro (⟨rfl,rfl⟩ | ⟨b,rfl,rfl⟩ | ⟨i,rfl,rfl⟩ | ⟨y,rfl,rfl⟩) <;> cases hn
 cases n with
 | zero=>exact (leaf h).elim
 | succ n=>
  rcases h with h | ⟨b,a,xs,ds,rfl,rfl,h1,h2,h3⟩
  ·exact (leaf h).elim
  ·cases b
   ·cases hn
   ·exact ⟨n,a,xs,ds,rfl,rfl,rfl,h1,h2,h3⟩
end
section
variable {H H':Hp} {n W:Nat} {x:V}
end
def spNumD:Sp:=fun vs H Q _=>∃ x n d,vs=[x]∧DatN H n x d∧Q (.bl (numB d)) H
def spBelowD:Sp:=fun vs H Q _=>∃ x n d e,vs=[x,.int e]∧DatN H n x d∧Q (.bl (belowB e d)) H
end Fw
namespace HT
open PySem PyProof.Rows
section
open PySem.SeqAt
open PySem.AutoSeq1 (wpAny_loadPart')
open PySem.MeetsSeq PySem.MeetsSeq2 PySem.MeetsSeq3
end
end HT
namespace L2.G
open PySem PySem.Spec PyProof.Rows PySem.W
section
variable {prog:Program} {w:World} {A:Around} {E:Value→Shared→Prop} {s:Shared}
end
def keyHL (H:Hp):Value→List Int
 | .ref r=>match H r with
  | some (.lst xs)=>intsV xs
  | _=>[]
 | _=>[]
@[reducible] def lstNM (H:Hp) (L:List (List Int)):NM:=⟨fun v=>rankL L (keyHL H v),fun v=>∃ r t,v=.ref r∧H r=some (.lst (t.map V.int))∧t ∈ L⟩
section
variable {X:Cx}
end
section
variable {X:Cx} {pins:List (Addr × Obj)} {σ:St} {k0:Nat} {f:Addr} {fd:FuncData} {p:Str} {sp:Sp} {H0:Hp} {xs:List V} {ks:List (List Int)} {Q:VK} {l:Addr}
structure KeyDf (sp:Sp) (H0:Hp) (xs:List V) (ks:List (List Int)):Prop where
 len:ks.length=xs.length
 key:∀ (i:Nat) (x:V) (k:List Int),xs[i]?=some x→ks[i]?=some k→∀ H,Sm0 H0 H→sp [x] H (fun y H'=>Sm0 H H'∧∃ r,y=.ref r∧H' r=some (.lst (k.map V.int))) E0
end
end L2.G
namespace L2
open PySem PySem.Spec PyProof.Rows
abbrev KeysAt (H:Hp) (rs:List Addr) (kvs:List (List KI × V)):Prop:=Paired (fun (r:Addr) (kv:List KI × V)=>H r=some (.tup (kv.1.map kI))) rs kvs
theorem Inv.keysT {X:Cx} {pins:List (Addr × Obj)} {σ:St} {H2:Hp} {s:Shared} {d:Addr} {o:Obj} {kvs:List (List KI × V)} (I2:Inv X pins σ H2 s) (hd:H2 d=some (.frz o (.dT kvs))) :
  ∃ es ep rs,s.heap.get? d=some o∧(d == sysModules)=false∧o.cls=.type "dict"∧o.data=.dict es ep∧es.size=kvs.length∧KeysAt H2 rs kvs∧∀ (acc:Array Value),acc.size=es.size→(∀ (i:Nat) (v:Value),acc[i]?=some v→∃ h:i<es.size,v=es[i].key)→acc.toList=rs.map Value.ref:=by
 obtain ⟨e1,e2,e3,es,ep,e4,e5,get⟩:=I2.heldT hd
 have each:∀ (n:Nat),n≤kvs.length→∃ rs:List Addr,KeysAt H2 rs (kvs.take n)∧(∀ i,i<n→∃ r,rs[i]?=some r∧∃ h:i<es.size,es[i].key=.ref r):=by
  intro n
  induction n with
  | zero=>intro _;exact ⟨[],.nil,fun i hi=>absurd hi (Nat.not_lt_zero _)⟩
  | succ n ih=>
   intro hn
   obtain ⟨rs,T,g⟩:=ih (by lia)
   have hi:n<es.size:=by lia
   obtain ⟨k,v,r,g1,g2,g3⟩:=get n hi
   have lr:rs.length=n:=by have:=Paired.length T;rw [List.length_take] at this;lia
   refine ⟨rs++[r],?_,fun i hi2=>?_⟩
   ·rw [List.take_add_one,g1,Option.toList_some]
    exact Paired.snoc T g3
   ·by_cases e:i=n
    ·subst e
     exact ⟨r,by rw [List.getElem?_append_right (by lia),lr];simp,hi,g2⟩
    ·obtain ⟨r',a,b⟩:=g i (by lia)
     exact ⟨r',by rw [List.getElem?_append_left (by lia)];exact a,b⟩
 obtain ⟨rs,T,gr⟩:=each kvs.length (Nat.le_refl _)
 rw [List.take_of_length_le (Nat.le_refl _)] at T
 have lr:rs.length=kvs.length:=Paired.length T
 refine ⟨es,ep,rs,e1,e2,e3,e4,e5,T,fun acc l1 l2=>?_⟩
 refine List.ext_getElem? fun i=>?_
 by_cases hi:i<acc.size
 ·obtain ⟨h3,e6⟩:=l2 i acc[i] (Array.getElem?_eq_getElem hi)
  obtain ⟨r,a,h4,b⟩:=gr i (by lia)
  rw [Array.getElem?_toList,Array.getElem?_eq_getElem hi,e6,List.getElem?_map,a,b]
  rfl
 ·rw [Array.getElem?_toList,Array.getElem?_eq_none (by lia),List.getElem?_eq_none (by rw [List.length_map];lia)]
section
variable {X:Cx}
end
end L2
namespace L2
open PySem PySem.Spec PyProof.Rows
section
variable {X:Cx}
theorem qCI (hc:X.calm=true):CallR X (.type "list") (fun xs H Q=>∃ p kvs,xs=[V.ref p]∧H p=some (.dT kvs)∧kvs.length≤20000∧∀ a rs,H a=none→KeysAt H rs kvs→Q (.ref a) (upd H a (.lst (rs.map V.ref)))):=by
 intro pins s σ H xs us Q I r h
 obtain ⟨p,kvs,rfl,hq,hz,q⟩:=h
 obtain ⟨u,rfl,rx⟩:=vals1 r
 cases rx
 obtain ⟨o,I2⟩:=I.freezeT hq
 have hq2:(upd H p (.frz o (.dT kvs))) p=some (.frz o (.dT kvs)):=qA1
 obtain ⟨es,ep,rs,e1,e2,e3,e4,e5,T,back⟩:=I2.keysT hq2
 have T2:KeysAt H rs kvs:=Paired.mapP T fun r kv g=>by
  have n:r ≠ p:=fun z=>by rw [z,hq2] at g;cases g
  rwa [qA9 n] at g
 have lr:rs.length=kvs.length:=Paired.length T
 refine PySem.W.kdl_call (G.src_dT e2 e3 e4) (I.ok.hd hc) e1 (by rw [e5,sizeLine_eq];lia) fun h' tk acc c' kept got items=>?_
 obtain ⟨l1,l2⟩:=items
 have ea:=back acc l1 l2
 have rv:∀ rs:List Addr,Vals (rs.map V.ref) (rs.map Value.ref):=fun rs=>by
  induction rs with
  | nil=>exact .nil
  | cons r rs ih=>exact .cons rfl ih
 refine ⟨.ref s.heap.objs.size,_,I.laid (a:=s.heap.objs.size) (o:=.lst (rs.map V.ref)) (t':=tk) kept (Nat.le_refl _) ⟨by rw [List.length_map,lr,sizeLine_eq];lia,acc.toList,c',by rw [ea];exact rv rs,by simpa using got⟩,rfl,q _ _ (I.hok.fresh (Nat.le_refl _)) T2⟩
end
end L2
namespace Fw
open PySem L2
abbrev La:=List (Option Int)
def cntO (l:La):Nat:=l.countP Option.isSome
def beO (l:La) (m:Mo):La:=l.set m.rm.toNat m.res
def fwO (net:List (List Int)) (wides sizes:List Int) (l:La) (m:Mo):V:=thW m (net.getD m.wk.toNat []) l (l.getD m.rm.toNat none) (sizes.getD m.rm.toNat 0) (wides.getD m.wk.toNat 0)
def prMo (n k:Int):List Mo:=((rangeI 0 k).map fun rm=>⟨false,0,rm⟩)++(rangeI 0 n).flatMap fun wk=>(rangeI 0 k).map fun rm=>⟨true,wk,rm⟩
def nxO (net:List (List Int)) (wides sizes:List Int) (l:La):List Mo:=(prMo (net.length:Int) (sizes.length:Int)).filter fun m=>decide (fwO net wides sizes l m=.non)
def l0 (sizes:List Int):La:=List.replicate sizes.length none
theorem mem_prMo {n k:Int} {m:Mo}:m ∈ prMo n k ↔ (0≤m.rm∧m.rm<k)∧((m.dk=false∧m.wk=0)∨m.dk=true∧0≤m.wk∧m.wk<n):=by
 obtain ⟨b,w,r⟩:=m
 unfold prMo
 rw [List.mem_append,List.mem_map,List.mem_flatMap]
 constructor
 ·rintro (⟨x,hx,e⟩ | ⟨x,hx,hy⟩)
  ·cases e
   exact ⟨mem_rangeI.mp hx,.inl ⟨rfl,rfl⟩⟩
  ·obtain ⟨y,hy,e⟩:=List.mem_map.mp hy
   cases e
   exact ⟨mem_rangeI.mp hy,.inr ⟨rfl,mem_rangeI.mp hx⟩⟩
 ·rintro ⟨h,⟨e1,e2⟩ | ⟨e1,h2⟩⟩
  ·have e1:b=false:=e1
   have e2:w=0:=e2
   subst e1 e2
   exact .inl ⟨r,mem_rangeI.mpr h,rfl⟩
  ·have e1:b=true:=e1
   subst e1
   exact .inr ⟨w,mem_rangeI.mpr h2,List.mem_map.mpr ⟨r,mem_rangeI.mpr h,rfl⟩⟩
inductive Po (net:List (List Int)) (wides sizes:List Int):Nat→La→Prop
 | zero:Po net wides sizes 0 (l0 sizes)
 | step {t:Nat} {l:La} {m:Mo}:Po net wides sizes t l→m ∈ nxO net wides sizes l→Po net wides sizes (t+1) (beO l m)
section
variable {net:List (List Int)} {wides sizes:List Int}
theorem nx_lb {l:La} {m:Mo} (h:m ∈ nxO net wides sizes l):(0≤m.rm∧m.rm<sizes.length)∧(m.dk=true→0≤m.wk∧m.wk<net.length)∧fwO net wides sizes l m=.non:=by
 obtain ⟨h1,h2⟩:=List.mem_filter.mp h
 obtain ⟨a,b⟩:=mem_prMo.mp h1
 refine ⟨a,fun e=>?_,of_decide_eq_true h2⟩
 rcases b with ⟨z,_⟩ | ⟨_,z⟩
 ·rw [z] at e;cases e
 ·exact z
def Mto (net:List (List Int)) (wides sizes:List Int) (t:Nat) (l:La):Prop:=Po net wides sizes t l∧∀ u,u<t→¬ Po net wides sizes u l
structure BFO (net:List (List Int)) (wides sizes:List Int) (t:Nat) (ks due ly:List La) (f:La→Nat) (i k:Nat):Prop where
 nd:ks.Nodup
 snd:∀ s ∈ ks,∃ u,u≤t+1∧Mto net wides sizes u s∧2 * f s=u+cntO s
 full:∀ u s,u≤t→Po net wides sizes u s→s ∈ ks
 duem:∀ s,s ∈ due ↔ Mto net wides sizes t s
 lym:∀ s,s ∈ ly ↔ s ∈ ks∧Mto net wides sizes (t+1) s
 done:∀ j s,due[j]?=some s→j<i→∀ m ∈ nxO net wides sizes s,beO s m ∈ ks
 dk:∀ s,due[i]?=some s→∀ m ∈ (nxO net wides sizes s).take k,beO s m ∈ ks
section
variable {t:Nat} {ks due ly:List La} {f:La→Nat} {i k:Nat}
def fsO (f:La→Nat) (x:La) (v:Nat):La→Nat:=fun y=>if y=x then v else f y
theorem fsO_same (f:La→Nat) (x:La) (v:Nat):fsO f x v x=v:=if_pos rfl
theorem fsO_in {f:La→Nat} {x y:La} {v:Nat} {ks:List La} (h:y ∈ ks) (hx:x ∉ ks):fsO f x v y=f y:=if_neg fun e=>hx (by rw [← e];exact h)
theorem qC3 {ks:List La} {x:La} (nd:ks.Nodup) (h:x ∉ ks):(ks++[x]).Nodup:=by
 rw [List.nodup_append]
 exact ⟨nd,by simp,fun a ha b hb e=>h (by rw [List.mem_singleton.mp hb] at e;exact e ▸ ha)⟩
structure RcO (net:List (List Int)) (wides sizes:List Int) (ks:List La) (f:La→Nat):Prop where
 nd:ks.Nodup
 snd:∀ s ∈ ks,∃ u,Mto net wides sizes u s∧2 * f s=u+cntO s
 all:∀ u s,Po net wides sizes u s→s ∈ ks
end
def encO (n:Nat):La→Nat
 | []=>0
 | none::l=>(n+1) * encO n l
 | some x::l=>(n+1) * encO n l+(x.toNat+1)
theorem enc_lt {n:Nat}:∀ {l:La},LayOk (n:Int) l→encO n l<(n+1) ^ l.length
 | [],_=>by show 0<1;lia
 | o::l,h=>by
  have ih:=enc_lt (n:=n) (l:=l) fun x hx=>h x (List.mem_cons_of_mem _ hx)
  rw [List.length_cons,Nat.pow_succ,Nat.mul_comm]
  have m:(n+1) * encO n l+(n+1)≤(n+1) * (n+1) ^ l.length:=by
   rw [← Nat.mul_succ];exact Nat.mul_le_mul_left _ ih
  cases o with
  | none=>show (n+1) * encO n l<_;lia
  | some x=>
   have:=h x (by simp)
   show (n+1) * encO n l+(x.toNat+1)<_
   lia
theorem enc_inj {n:Nat}:∀ {a b:La},a.length=b.length→LayOk (n:Int) a→LayOk (n:Int) b→encO n a=encO n b→a=b
 | [],[],_,_,_,_=>rfl
 | [],_::_,e,_,_,_=>by simp at e
 | _::_,[],e,_,_,_=>by simp at e
 | x::a,y::b,e,ha,hb,h=>by
  have head:∀ (o:Option Int) (l:La),LayOk (n:Int) (o::l)→∃ r,r<n+1∧encO n (o::l)=r+(n+1) * encO n l∧r=(match o with | none=>0 | some x=>x.toNat+1):=fun o l h=>by
   cases o with
   | none=>exact ⟨0,by lia,by show (n+1) * encO n l=_;lia,rfl⟩
   | some x=>have:=h x (by simp);exact ⟨x.toNat+1,by lia,by show (n+1) * encO n l+(x.toNat+1)=_;lia,rfl⟩
  obtain ⟨r,r1,r2,r3⟩:=head x a ha
  obtain ⟨u,u1,u2,u3⟩:=head y b hb
  rw [r2,u2] at h
  have e1:r=u:=by
   have:=congrArg (· % (n+1)) h
   rwa [Nat.add_mul_mod_self_left,Nat.add_mul_mod_self_left,Nat.mod_eq_of_lt r1,Nat.mod_eq_of_lt u1] at this
  subst e1
  have e2:encO n a=encO n b:=Nat.eq_of_mul_eq_mul_left (by lia:0<n+1) (by lia)
  have ih:=enc_inj (by simpa using e) (fun z hz=>ha z (List.mem_cons_of_mem _ hz)) (fun z hz=>hb z (List.mem_cons_of_mem _ hz)) e2
  rw [ih]
  congr 1
  rw [r3] at u3
  cases x with
  | none=>cases y with
   | none=>rfl
   | some y=>have u3:0=y.toNat+1:=u3;lia
  | some x=>cases y with
   | none=>have u3:x.toNat+1=0:=u3;lia
   | some y=>
    have u3:x.toNat+1=y.toNat+1:=u3
    have h1:=ha x (by simp)
    have h2:=hb y (by simp)
    rw [show x=y by lia]
theorem blO_len {ks:List Nat} {n:Nat} (nd:ks.Nodup) (h:∀ b ∈ ks,b<n):ks.length≤n:=by
 have p:ks.Perm ((List.range n).filter fun x=>decide (x ∈ ks)):=(List.perm_ext_iff_of_nodup nd (List.nodup_range.filter _)).mpr fun x=>by
  rw [List.mem_filter,decide_eq_true_eq,List.mem_range]
  exact ⟨fun hx=>⟨h x hx,hx⟩,fun hx=>hx.2⟩
 rw [p.length_eq]
 exact Nat.le_trans (List.length_filter_le _ _) (by rw [List.length_range];exact Nat.le_refl n)
theorem lay_count {n k:Nat} {ks:List La} (nd:ks.Nodup) (h:∀ s ∈ ks,s.length=k∧LayOk (n:Int) s):ks.length≤(n+1) ^ k:=by
 have nd2:(ks.map (encO n)).Nodup:=
  List.pairwise_map.mpr (nd.imp_of_mem fun {a b} ha hb hab e=>hab (enc_inj ((h a ha).1.trans (h b hb).1.symm) (h a ha).2 (h b hb).2 e))
 have:=blO_len (n:=(n+1) ^ k) nd2 fun b hb=>by
  obtain ⟨s,hs,rfl⟩:=List.mem_map.mp hb
  have:=enc_lt (h s hs).2
  rwa [(h s hs).1] at this
 rwa [List.length_map] at this
end
def kO:Option Int→KI
 | none=>none
 | some i=>some (.inl i)
def keyO (l:La):List KI:=l.map kO
theorem kO_kI (o:Option Int):kI (kO o)=oV o:=by cases o <;> rfl
theorem qAZ (l:La):(keyO l).map kI=l.map oV:=by
 unfold keyO
 rw [List.map_map]
 exact List.map_congr_left fun x _=>kO_kI x
theorem kO_inj {a b:Option Int} (e:kO a=kO b):a=b:=by
 cases a <;> cases b
 ·rfl
 ·exact nomatch e
 ·exact nomatch e
 ·have:=Sum.inl.inj (Option.some.inj (show some (Sum.inl _:Key)=some (Sum.inl _) from e));rw [this]
theorem keyO_inj:∀ {a b:La},keyO a=keyO b→a=b
 | [],[],_=>rfl
 | [],_::_,e=>by simp [keyO] at e
 | _::_,[],e=>by simp [keyO] at e
 | x::a,y::b,e=>by
  unfold keyO at e
  rw [List.map_cons,List.map_cons] at e
  injection e with e1 e2
  rw [kO_inj e1,keyO_inj e2]
theorem paired_get2 {α β:Type} {F:α→β→Prop} {l₁:List α} {l₂:List β} {i:Nat} {b:β} (h:Paired F l₁ l₂) (e:l₂[i]?=some b):∃ a,l₁[i]?=some a∧F a b:=by
 have lt:i<l₁.length:=by rw [Paired.length h];exact (List.getElem?_eq_some_iff.mp e).1
 obtain ⟨b',e',f⟩:=qAU h (List.getElem?_eq_getElem lt)
 rw [e] at e'
 cases e'
 exact ⟨_,List.getElem?_eq_getElem lt,f⟩
abbrev PrO:=Option (La × Mo)
theorem qC9 {H:Hp} {d r:Addr} {o u:HO} {xs:List V} (g:H r=some (.tup xs)) (hd:H d=some o) (ho:∀ xs,o ≠ .tup xs):(upd H d u) r=some (.tup xs):=by
 rw [qA9 (ne_of g hd fun z=>ho _ z.symm)]
 exact g
abbrev KvO:=List (List KI × V)
section
variable {H H':Hp} {kvs:KvO} {ks:List La} {f:La→Nat} {g:La→PrO}
end
section
variable {net:List (List Int)} {wides sizes:List Int} {ks:List La} {f:La→Nat} {g:La→PrO}
inductive RunO (net:List (List Int)) (wides sizes:List Int):La→List Mo→La→Prop
 | nil {l:La}:RunO net wides sizes l [] l
 | cons {l l':La} {m:Mo} {ms:List Mo}:m ∈ nxO net wides sizes l→RunO net wides sizes (beO l m) ms l'→RunO net wides sizes l (m::ms) l'
end
theorem mem_pr_all {n k:Int} {m:Mo} (h:m ∈ prMo n k):m ∈ allMo n k:=by
 obtain ⟨a,b⟩:=mem_prMo.mp h
 obtain ⟨d,w,r⟩:=m
 refine List.mem_flatMap.mpr ⟨r,mem_rangeI.mpr a,List.mem_append.mpr ?_⟩
 rcases b with ⟨e1,e2⟩ | ⟨e1,e2⟩
 ·have e1:d=false:=e1
  have e2:w=0:=e2
  subst e1 e2
  exact .inr (by simp)
 ·have e1:d=true:=e1
  subst e1
  exact .inl (List.mem_map.mpr ⟨w,mem_rangeI.mpr e2,rfl⟩)
theorem TKit.tinO {H:Hp} {a wd sz la mv:Addr} {net:List (List Int)} {wides sizes:List Int} {lay:La} {m:Mo} (T:TKit H a wd sz net wides sizes) (hl:H la=some (.tup (lay.map oV))) (ll:lay.length=sizes.length) (hm:H mv=some (.tup m.vs)) (hin:m ∈ allMo (net.length:Int) (sizes.length:Int)) :
  ∃ ns o s w,TIn H a wd sz la mv net wides sizes lay m ns o s w∧fwO net wides sizes lay m=thW m ns lay o s w:=by
 obtain ⟨ns,o,s,w,I⟩:=T.tin hl ll hm hin
 refine ⟨ns,o,s,w,I,?_⟩
 unfold fwO thW
 have e1:lay.getD m.rm.toNat none=o:=by rw [List.getD_eq_getElem?_getD,I.at_];rfl
 have e2:sizes.getD m.rm.toNat 0=s:=by rw [List.getD_eq_getElem?_getD,I.size];rfl
 cases hd:m.dk with
 | false=>dsimp only;rw [e1]
 | true=>
  obtain ⟨_,h2,_,h3⟩:=I.work hd
  have e3:net.getD m.wk.toNat []=ns:=by rw [List.getD_eq_getElem?_getD,h2];rfl
  have e4:wides.getD m.wk.toNat 0=w:=by rw [List.getD_eq_getElem?_getD,h3];rfl
  dsimp only
  rw [e1,e2,e3,e4]
theorem rep_nonO (k:Nat):(List.replicate k [V.non]).flatten=(List.replicate k (none:Option Int)).map oV:=by
 induction k with
 | zero=>rfl
 | succ k ih=>rw [List.replicate_succ,List.flatten_cons,ih,List.replicate_succ];rfl
theorem qCE {K:PySem.W.Frag} {H:Hp} {t1:Addr} {sizes:List Int} {Q:VK} (h1:H t1=some (.tup [.non])) (k1:1≤sizes.length) (k5:sizes.length≤1000) (h:∀ r H',Same H H'→H' r=some (.tup ((l0 sizes).map oV))→Q (.ref r) H'):rRepT K (.ref t1) (.int (sizes.length:Int)) H Q:=by
 refine ⟨t1,_,[.non],rfl,rfl,SqT.of h1,by simp,by lia,by lia,by decide,fun e=>?_,fun e p hp=>?_⟩
 ·refine h t1 H (.refl _) ?_
  unfold l0
  rw [h1,show sizes.length=1 from by lia]
  rfl
 ·refine h p _ (qA3 hp _) ?_
  unfold l0
  rw [qA1,rep_nonO,show ((sizes.length:Int)).toNat=sizes.length from by lia]
theorem mosPut {H:Hp} {rs:List Addr} {ms:List Mo} {d:Addr} {o u:HO} (h:MosL H rs ms) (hd:H d=some o) (ho:∀ xs,o ≠ .tup xs):MosL (upd H d u) rs ms:=qBA h fun r m e=>qC9 e hd ho
def spMovesO:Sp:=fun vs H Q _=>∃ (a wd sz la:Addr) (net:List (List Int)) (wides sizes:List Int) (lay:La),vs=[.ref a,.ref wd,.ref sz,.ref la]∧TKit H a wd sz net wides sizes∧H la=some (.tup (lay.map oV))∧lay.length=sizes.length∧
 ∀ l rs H',Same H H'→H l=none→H' l=some (.lst (rs.map V.ref))→MosL H' rs (nxO net wides sizes lay)→Q (.ref l) H'
def LaysAt (H:Hp) (rs:List Addr) (L:List La):Prop:=Paired (fun (r:Addr) (s:La)=>H r=some (.tup (s.map oV))) rs L
theorem LaysAt.same {H H':Hp} {rs:List Addr} {L:List La} (h:LaysAt H rs L) (k:Same H H'):LaysAt H' rs L:=qBA h fun r m e=>k _ _ e
theorem LaysAt.put {H:Hp} {rs:List Addr} {L:List La} {d:Addr} {o u:HO} (h:LaysAt H rs L) (hd:H d=some o) (ho:∀ xs,o ≠ .tup xs):LaysAt (upd H d u) rs L:=qBA h fun r m e=>qC9 e hd ho
theorem LaysAt.snoc {H:Hp} {rs:List Addr} {L:List La} (h:LaysAt H rs L) {r:Addr} {s:La} (g:H r=some (.tup (s.map oV))):LaysAt H (rs++[r]) (L++[s]):=Paired.snoc h g
theorem dec_int (i j:Int):decide (V.int i=V.int j)=decide (i=j):=decide_eq_decide.mpr ⟨fun z=>V.int.inj z,fun z=>by rw [z]⟩
theorem dec_str (i j:Str):decide (V.str i=V.str j)=decide (i=j):=decide_eq_decide.mpr ⟨fun z=>V.str.inj z,fun z=>by rw [z]⟩
def mvO (net:List (List Int)) (sizes:List Int) (k:Nat):Mo:=(allMo (net.length:Int) (sizes.length:Int)).getD k ⟨false,0,0⟩
def orO (net:List (List Int)) (sizes:List Int) (b:La) (k:Nat):La:=beO b (mvO net sizes k)
def canO (net:List (List Int)) (wides sizes:List Int) (b:La) (k:Nat):Prop:=k<(allMo (net.length:Int) (sizes.length:Int)).length∧(mvO net sizes k).dk=true∧fwO net wides sizes b (mvO net sizes k)=.non
theorem canO.mem {net:List (List Int)} {wides sizes:List Int} {b:La} {k:Nat} (h:canO net wides sizes b k):mvO net sizes k ∈ nxO net wides sizes b:=by
 have m:mvO net sizes k ∈ allMo (net.length:Int) (sizes.length:Int):=by
  have c1:=h.1
  unfold mvO
  rw [List.getD_eq_getElem?_getD,List.getElem?_eq_getElem c1]
  exact List.getElem_mem _
 obtain ⟨a,b',c⟩:=qCH m
 exact List.mem_filter.mpr ⟨mem_prMo.mpr ⟨⟨a,b'⟩,.inr ⟨h.2.1,c h.2.1⟩⟩,decide_eq_true h.2.2⟩
inductive RmO (net:List (List Int)) (wides sizes:List Int):Nat→La→Prop
 | zero:RmO net wides sizes 0 (l0 sizes)
 | clr {m:Nat} {b:La} {k:Nat}:RmO net wides sizes m b→k<sizes.length→RmO net wides sizes m (b.set k none)
 | do_ {m:Nat} {b:La} {k:Nat}:RmO net wides sizes m b→canO net wides sizes b k→RmO net wides sizes (m+1) (orO net sizes b k)
def MnO (net:List (List Int)) (wides sizes:List Int) (m:Nat) (b:La):Prop:=RmO net wides sizes m b∧∀ m',m'<m→¬ RmO net wides sizes m' b
theorem RmO.lay {net:List (List Int)} {wides sizes:List Int} {m:Nat} {b:La} (h:RmO net wides sizes m b):b.length=sizes.length∧LayOk (net.length:Int) b:=by
 induction h with
 | zero=>exact ⟨List.length_replicate,fun x hx=>nomatch (List.eq_of_mem_replicate hx)⟩
 | @clr m b k _ hk ih=>exact ⟨by rw [List.length_set];exact ih.1,fun x hx=>(List.mem_or_eq_of_mem_set hx).elim (fun z=>ih.2 x z) fun z=>nomatch z⟩
 | do_ _ c ih=>exact ⟨by unfold orO beO;rw [List.length_set];exact ih.1,ih.2.set (nx_lb c.mem).2.1⟩
structure FdO (net:List (List Int)) (wides sizes:List Int) (many:Nat) (ks:List La) (f:La→Nat):Prop where
 nd:ks.Nodup
 snd:∀ b ∈ ks,f b≤many∧MnO net wides sizes (f b) b
 zero:l0 sizes ∈ ks
 full:∀ m,m<many→∀ b,RmO net wides sizes m b→b ∈ ks
section
variable {net:List (List Int)} {wides sizes:List Int} {many:Nat} {ks cl ly:List La} {f:La→Nat} {at_ wk:Nat}
theorem FdO.len (h:FdO net wides sizes many ks f):ks.length≤(net.length+1) ^ sizes.length:=lay_count h.nd fun b hb=>(h.snd b hb).2.1.lay
theorem FdO.le (h:FdO net wides sizes many ks f) {m:Nat} {b:La} (hb:b ∈ ks) (r:RmO net wides sizes m b):f b≤m:=by
 apply Classical.byContradiction
 intro z
 exact (h.snd b hb).2.2 m (by lia) r
theorem FdO.add (h:FdO net wides sizes many ks f) {x:La} (hx:x ∉ ks) (r:RmO net wides sizes many x):FdO net wides sizes many (ks++[x]) (fsO f x many):=by
 refine ⟨qC3 h.nd hx,fun b hb=>?_,List.mem_append.mpr (.inl h.zero),fun m hm b rb=>List.mem_append.mpr (.inl (h.full m hm b rb))⟩
 rcases List.mem_append.mp hb with hb | hb
 ·rw [fsO_in hb hx]
  exact h.snd b hb
 ·rw [List.mem_singleton.mp hb,fsO_same]
  exact ⟨Nat.le_refl _,r,fun m' hm z=>hx (h.full m' hm x z)⟩
structure A1O (net:List (List Int)) (wides sizes:List Int) (many:Nat) (ks:List La) (f:La→Nat) (cl:List La) (at_ wk:Nat):Prop where
 fd:FdO net wides sizes many ks f
 dos:∀ m b k,m+1=many→RmO net wides sizes m b→canO net wides sizes b k→(orO net sizes b k) ∈ ks
 clm:∀ b,b ∈ cl ↔ b ∈ ks∧f b=many
 nd:cl.Nodup
 done:∀ i b,cl[i]?=some b→i<at_→∀ k,k<sizes.length→(b.set k none) ∈ ks
 dk:∀ b,cl[at_]?=some b→∀ k,k<wk→(b.set k none) ∈ ks
theorem A1O.start:A1O net wides sizes 0 [l0 sizes] (fun _=>0) [l0 sizes] 0 0:=
 ⟨⟨by simp,fun b hb=>by rw [List.mem_singleton.mp hb];exact ⟨Nat.le_refl _,.zero,fun _ z=>absurd z (Nat.not_lt_zero _)⟩,by simp,fun m hm=>absurd hm (Nat.not_lt_zero _)⟩,fun m b k e=>by lia,fun b=>by simp,by simp,fun i b _ z=>absurd z (Nat.not_lt_zero _),fun b _ k z=>absurd z (Nat.not_lt_zero _)⟩
theorem A1O.hit (h:A1O net wides sizes many ks f cl at_ wk) {c:La} (hc:cl[at_]?=some c) (hk:(c.set wk none) ∈ ks):A1O net wides sizes many ks f cl at_ (wk+1):=by
 refine ⟨h.fd,h.dos,h.clm,h.nd,h.done,fun b hb k hk'=>?_⟩
 by_cases e:k=wk
 ·rw [hc] at hb
  cases hb
  rw [e]
  exact hk
 ·exact h.dk b hb k (by lia)
theorem A1O.add (h:A1O net wides sizes many ks f cl at_ wk) {c:La} (hc:cl[at_]?=some c) (hw:wk<sizes.length) (hk:(c.set wk none) ∉ ks):A1O net wides sizes many (ks++[(c.set wk none)]) (fsO f ((c.set wk none)) many) (cl++[(c.set wk none)]) at_ (wk+1):=by
 have cin:=(h.clm c).mp (List.mem_of_getElem? hc)
 have rc:RmO net wides sizes many c:=cin.2 ▸ (h.fd.snd c cin.1).2.1
 have old:∀ {i b},i≤at_→(cl++[(c.set wk none)])[i]?=some b→cl[i]?=some b:=fun {i b} hi e=>by
  have:=(List.getElem?_eq_some_iff.mp hc).1
  rwa [List.getElem?_append_left (by lia)] at e
 refine ⟨h.fd.add hk (.clr rc hw),fun m b k e1 r c=>List.mem_append.mpr (.inl (h.dos m b k e1 r c)),fun b=>?_,qC3 h.nd fun z=>hk ((h.clm _).mp z).1,fun i b e hi k hk'=>?_,fun b e k hk'=>?_⟩
 ·rw [List.mem_append,List.mem_append,List.mem_singleton,h.clm b]
  constructor
  ·rintro (z | z)
   ·exact ⟨.inl z.1,by rw [fsO_in z.1 hk];exact z.2⟩
   ·exact ⟨.inr z,by rw [z,fsO_same]⟩
  ·rintro ⟨z | z,e⟩
   ·rw [fsO_in z hk] at e
    exact .inl ⟨z,e⟩
   ·exact .inr z
 ·exact List.mem_append.mpr (.inl (h.done i b (old (by lia) e) hi k hk'))
 ·have e':=old (Nat.le_refl _) e
  by_cases ek:k=wk
  ·rw [hc] at e'
   cases e'
   rw [ek]
   exact List.mem_append.mpr (.inr (List.mem_singleton.mpr rfl))
  ·exact List.mem_append.mpr (.inl (h.dk b e' k (by lia)))
theorem A1O.next (h:A1O net wides sizes many ks f cl at_ sizes.length):A1O net wides sizes many ks f cl (at_+1) 0:=by
 refine ⟨h.fd,h.dos,h.clm,h.nd,fun i b e hi k hk=>?_,fun b _ k z=>absurd z (Nat.not_lt_zero _)⟩
 by_cases ei:i=at_
 ·rw [ei] at e
  exact h.dk b e k hk
 ·exact h.done i b e (by lia) k hk
theorem A1O.len (h:A1O net wides sizes many ks f cl at_ wk):cl.length≤(net.length+1) ^ sizes.length:=lay_count h.nd fun b hb=>(h.fd.snd b ((h.clm b).mp hb).1).2.1.lay
theorem A1O.all (h:A1O net wides sizes many ks f cl at_ wk) (he:cl.length≤at_):∀ m b,RmO net wides sizes m b→m≤many→b ∈ ks:=by
 intro m b r
 induction r with
 | zero=>exact fun _=>h.fd.zero
 | @clr m b k r hk ih=>
  intro hm
  have hb:=ih hm
  by_cases e:f b=many
  ·obtain ⟨i,hi,ei⟩:=List.getElem_of_mem ((h.clm b).mpr ⟨hb,e⟩)
   exact h.done i b (by rw [List.getElem?_eq_getElem hi,ei]) (by lia) k hk
  ·have:=(h.fd.snd b hb)
   exact h.fd.full (f b) (by lia) _ (.clr this.2.1 hk)
 | @do_ m b k r c ih=>
  intro hm
  by_cases e:m+1=many
  ·exact h.dos m b k e r c
  ·exact h.fd.full (m+1) (by lia) _ (.do_ r c)
structure A2O (net:List (List Int)) (wides sizes:List Int) (many:Nat) (ks:List La) (f:La→Nat) (cl ly:List La) (at_ wk:Nat):Prop where
 fd:FdO net wides sizes (many+1) ks f
 clm:∀ b,b ∈ cl ↔ b ∈ ks∧f b=many
 lym:∀ b,b ∈ ly ↔ b ∈ ks∧f b=many+1
 nd:ly.Nodup
 done:∀ i b,cl[i]?=some b→i<at_→∀ k,canO net wides sizes b k→(orO net sizes b k) ∈ ks
 dk:∀ b,cl[at_]?=some b→∀ k,k<wk→canO net wides sizes b k→(orO net sizes b k) ∈ ks
theorem A1O.two (h:A1O net wides sizes many ks f cl at_ wk) (he:cl.length≤at_):A2O net wides sizes many ks f cl [] 0 0:=by
 refine ⟨⟨h.fd.nd,fun b hb=>⟨by have:=(h.fd.snd b hb).1;lia,(h.fd.snd b hb).2⟩,h.fd.zero,fun m hm b r=>h.all he m b r (by lia)⟩,h.clm,fun b=>⟨fun z=>absurd z (by simp),fun z=>?_⟩,.nil,fun i b _ z=>absurd z (Nat.not_lt_zero _),fun b _ k z=>absurd z (Nat.not_lt_zero _)⟩
 have:=(h.fd.snd b z.1).1
 lia
theorem A2O.hit (h:A2O net wides sizes many ks f cl ly at_ wk) {c:La} (hc:cl[at_]?=some c) (hk:canO net wides sizes c wk→(orO net sizes c wk) ∈ ks):A2O net wides sizes many ks f cl ly at_ (wk+1):=by
 refine ⟨h.fd,h.clm,h.lym,h.nd,h.done,fun b hb k hk' c'=>?_⟩
 by_cases e:k=wk
 ·rw [hc] at hb
  cases hb
  rw [e] at c' ⊢
  exact hk c'
 ·exact h.dk b hb k (by lia) c'
theorem A2O.add (h:A2O net wides sizes many ks f cl ly at_ wk) {c:La} (hc:cl[at_]?=some c) (hn:canO net wides sizes c wk) (hk:(orO net sizes c wk) ∉ ks):A2O net wides sizes many (ks++[(orO net sizes c wk)]) (fsO f ((orO net sizes c wk)) (many+1)) cl (ly++[(orO net sizes c wk)]) at_ (wk+1):=by
 have cin:=(h.clm c).mp (List.mem_of_getElem? hc)
 have rc:RmO net wides sizes many c:=cin.2 ▸ (h.fd.snd c cin.1).2.1
 refine ⟨h.fd.add hk (.do_ rc hn),fun b=>?_,fun b=>?_,qC3 h.nd fun z=>hk ((h.lym _).mp z).1,fun i b e hi k c'=>List.mem_append.mpr (.inl (h.done i b e hi k c')),fun b e k hk' c'=>?_⟩
 ·rw [h.clm b,List.mem_append,List.mem_singleton]
  constructor
  ·rintro ⟨z,e⟩
   exact ⟨.inl z,by rw [fsO_in z hk];exact e⟩
  ·rintro ⟨z | z,e⟩
   ·rw [fsO_in z hk] at e
    exact ⟨z,e⟩
   ·rw [z,fsO_same] at e
    lia
 ·rw [List.mem_append,List.mem_append,List.mem_singleton,h.lym b]
  constructor
  ·rintro (z | z)
   ·exact ⟨.inl z.1,by rw [fsO_in z.1 hk];exact z.2⟩
   ·exact ⟨.inr z,by rw [z,fsO_same]⟩
  ·rintro ⟨z | z,e⟩
   ·rw [fsO_in z hk] at e
    exact .inl ⟨z,e⟩
   ·exact .inr z
 ·by_cases ek:k=wk
  ·rw [hc] at e
   cases e
   rw [ek]
   exact List.mem_append.mpr (.inr (List.mem_singleton.mpr rfl))
  ·exact List.mem_append.mpr (.inl (h.dk b e k (by lia) c'))
theorem A2O.next (h:A2O net wides sizes many ks f cl ly at_ (allMo (net.length:Int) (sizes.length:Int)).length):A2O net wides sizes many ks f cl ly (at_+1) 0:=by
 refine ⟨h.fd,h.clm,h.lym,h.nd,fun i b e hi k c=>?_,fun b _ k z=>absurd z (Nat.not_lt_zero _)⟩
 by_cases ei:i=at_
 ·rw [ei] at e
  exact h.dk b e k c.1 c
 ·exact h.done i b e (by lia) k c
theorem A2O.one (h:A2O net wides sizes many ks f cl ly at_ wk) (he:cl.length≤at_):A1O net wides sizes (many+1) ks f ly 0 0:=by
 refine ⟨h.fd,fun m b k e r c=>?_,h.lym,h.nd,fun i b _ z=>absurd z (Nat.not_lt_zero _),fun b _ k z=>absurd z (Nat.not_lt_zero _)⟩
 have em:m=many:=by lia
 subst em
 have hb:=h.fd.full m (by lia) b r
 have hle:=h.fd.le hb r
 by_cases e':f b=m
 ·obtain ⟨i,hi,ei⟩:=List.getElem_of_mem ((h.clm b).mpr ⟨hb,e'⟩)
  exact h.done i b (by rw [List.getElem?_eq_getElem hi,ei]) (by lia) k c
 ·exact h.fd.full (f b+1) (by lia) _ (.do_ (h.fd.snd b hb).2.1 c)
structure ComeO (net:List (List Int)) (wides sizes:List Int) (ks:List La) (f:La→Nat):Prop where
 nd:ks.Nodup
 snd:∀ b ∈ ks,MnO net wides sizes (f b) b
 all:∀ m b,RmO net wides sizes m b→b ∈ ks
theorem A1O.come (h:A1O net wides sizes many ks f [] at_ wk):ComeO net wides sizes ks f:=by
 have lt:∀ b ∈ ks,f b<many:=fun b hb=>by
  have h1:=(h.fd.snd b hb).1
  have h2:f b ≠ many:=fun e=>nomatch (h.clm b).mpr ⟨hb,e⟩
  lia
 refine ⟨h.fd.nd,fun b hb=>(h.fd.snd b hb).2,fun m b r=>?_⟩
 induction r with
 | zero=>exact h.fd.zero
 | @clr m b k r hk ih=>exact h.fd.full (f b) (lt b ih) _ (.clr (h.fd.snd b ih).2.1 hk)
 | @do_ m b k r c ih=>
  have:=lt b ih
  by_cases e:f b+1=many
  ·exact h.dos (f b) b k e (h.fd.snd b ih).2.1 c
  ·exact h.fd.full (f b+1) (by lia) _ (.do_ (h.fd.snd b ih).2.1 c)
end
section
variable {net:List (List Int)} {wides sizes:List Int}
end
def kvC (ks:List La) (f:La→Nat):KvO:=ks.map fun s=>(keyO s,V.int (f s:Int))
theorem kvC_len (ks:List La) (f:La→Nat):(kvC ks f).length=ks.length:=List.length_map _
theorem kvC_val {f:La→Nat} {s:La}:∀ ks:List La,valV (kvC ks f) (keyO s)=if s ∈ ks then some (.int (f s:Int)) else none
 | []=>rfl
 | x::ks=>by
  by_cases e:x=s
  ·subst e
   rw [if_pos (by simp)]
   exact qCJ rfl
  ·have h:valV (kvC (x::ks) f) (keyO s)=valV (kvC ks f) (keyO s):=qD5 fun z=>e (keyO_inj z)
   rw [h,kvC_val ks]
   by_cases c:s ∈ ks
   ·rw [if_pos c,if_pos (List.mem_cons_of_mem _ c)]
   ·rw [if_neg c,if_neg fun z=>(List.mem_cons.mp z).elim (fun q=>e q.symm) c]
theorem kvC_put {ks:List La} {f:La→Nat} {s:La} {n:Nat} (h:s ∉ ks):putK (kvC ks f) (keyO s) (.int (n:Int))=kvC (ks++[s]) (fsO f s n):=by
 rw [putK_new _ (by rw [kvC_val,if_neg h])]
 unfold kvC
 rw [List.map_append,List.map_singleton,fsO_same]
 congr 1
 exact List.map_congr_left fun x hx=>by rw [fsO_in hx h]
def wksO (l:La):List Int:=l.filterMap id
def FitO (wides sizes:List Int) (l:La):Prop:=(wksO l).Nodup∧∀ (i:Nat) (w:Int),l[i]?=some (some w)→wides.getD w.toNat 0≤sizes.getD i 0
def JO (net:List (List Int)) (wides sizes asked:List Int) (L:List La):Prop:=l0 sizes ∈ L∧∀ l ∈ L,FitO wides sizes l∧(¬ ∀ x ∈ asked,some x ∈ l)∧∀ m ∈ nxO net wides sizes l,beO l m ∈ L
noncomputable def lstB:PyData→Bool | .list _=>true | _=>false
def pairO:PyData→Bool | .tuple ds=>decide (ds.length=2) | _=>false
def leafB:PyData→Bool | .none=>true | .int _=>true | .bool _=>true | .str _=>true | _=>false
def isS (s:Str):PyData→Bool | .str t=>decide (t=s) | _=>false
def movD (n k:Int):PyData→Bool
 | .tuple [a,b]=>isS (Str.ofString "clear") a && belowB k b
 | .tuple [a,b,c]=>isS (Str.ofString "do") a && (belowB n b && belowB k c)
 | _=>false
def plD (n k:Int):PyData→Bool | .list ds=>ds.all (movD n k) | _=>false
def laD (o:Option Int):PyData:=match o with | some i=>.int i | none=>.none
def layS (n:Int) (wides:List Int):List Int→List Int→List PyData→Bool
 | th,s::ss,.none::ds=>layS n wides th ss ds
 | th,s::ss,.int i::ds=>(decide (0≤i) && decide (i<n)) && (decide (wides.getD i.toNat 0≤s) && (decide (i ∉ th) && layS n wides (th++[i]) ss ds))
 | _,_::_,_::_=>false
 | _,_,_=>true
def layDt (n:Int) (wides sizes:List Int):PyData→Bool | .tuple ds=>decide (ds.length=sizes.length) && layS n wides [] sizes ds | _=>false
def unD:PyData→Option Int | .int i=>some i | _=>none
def dLa:PyData→La | .tuple ds=>ds.map unD | _=>[]
def NeverD (net:List (List Int)) (wides sizes asked:List Int):PyData→Prop
 | .list ds=>ds.all (layDt (net.length:Int) wides sizes)=true∧JO net wides sizes asked (ds.map dLa)
 | _=>False
def ShowsD (net:List (List Int)) (wides sizes asked:List Int):PyData→Prop
 | .tuple [a,b]=>isS (Str.ofString "none") a=true∧NeverD net wides sizes asked b
 | _=>False
def fstB:PyData→Bool | .tuple (d::_)=>leafB d | _=>true
def fst2B:PyData→Bool | .list ds=>ds.all fstB | _=>true
noncomputable def lenB:PyData→Prop | .list ds=>ds.length≤20000 | _=>True
def OkT (n k:Int):PyData→Prop
 | .tuple [a,b]=>leafB a=true∧lenB b
 | .tuple [a,b,c]=>leafB a=true∧(isS (Str.ofString "plan") a=true→fst2B b=true∧lenB b∧plD n k b=false)
 | _=>True
def spPairO:Sp:=fun vs H Q _=>∃ x n d,vs=[x]∧DatN H n x d∧Q (.bl (pairO d)) H
def spMoveD:Sp:=fun vs H Q _=>∃ (a sz:Addr) (net:List (List Int)) (sizes:List Int) (x:V) (n:Nat) (d:PyData),vs=[.ref a,.ref sz,x]∧NetAt H a net∧H sz=some (.tup (sizes.map V.int))∧DatN H n x d∧fstB d=true∧∀ H',Same H H'→Q (.bl (movD (net.length:Int) (sizes.length:Int) d)) H'
def spDoesD:Sp:=fun vs H Q _=>∃ (a wd sz t:Addr) (net:List (List Int)) (sizes:List Int) (x:V) (n:Nat) (d:PyData),vs=[.ref a,.ref wd,.ref sz,.ref t,x]∧NetAt H a net∧H sz=some (.tup (sizes.map V.int))∧DatN H n x d∧fst2B d=true∧lenB d∧plD (net.length:Int) (sizes.length:Int) d=false∧∀ H',Same H H'→Q (.bl false) H'
def spIsLayD:Sp:=fun vs H Q _=>∃ (a wd sz:Addr) (net:List (List Int)) (wides sizes:List Int) (x:V) (n:Nat) (d:PyData),vs=[.ref a,.ref wd,.ref sz,x]∧TKit H a wd sz net wides sizes∧DatN H n x d∧∀ H',Same H H'→Q (.bl (layDt (net.length:Int) wides sizes d)) H'
def spNeverO:Sp:=fun vs H Q _=>∃ (a wd sz t:Addr) (net:List (List Int)) (wides sizes asked:List Int) (x:V) (n:Nat) (d:PyData),vs=[.ref a,.ref wd,.ref sz,.ref t,x]∧TKit H a wd sz net wides sizes∧H t=some (.tup (asked.map V.int))∧asked.length≤1000∧DatN H n x d∧lenB d∧
 ∀ b H',Same H H'→(b=true ↔ NeverD net wides sizes asked d)→Q (.bl b) H'
def spShowsD:Sp:=fun vs H Q _=>∃ (a wd sz t:Addr) (net:List (List Int)) (wides sizes asked:List Int) (x:V) (n:Nat) (d:PyData),vs=[.ref a,.ref wd,.ref sz,.ref t,x]∧TKit H a wd sz net wides sizes∧H t=some (.tup (asked.map V.int))∧asked.length≤1000∧DatN H n x d∧OkT (net.length:Int) (sizes.length:Int) d∧
 ∀ b H',Same H H'→(b=true ↔ ShowsD net wides sizes asked d)→Q (.bl b) H'
def spThereK:Sp:=fun vs H Q _=>∃ (d c:Addr) (t:Int) (ns:List Int),vs=[.ref d]∧StAt H d c t ns∧t≤TB - 20000∧
 ∀ T a wd sz net wides sizes t' ns' H',StAt H' d c t' ns'→t≤t'→t'≤t+200→Keep d c H H'→H' T=some (.tup [.ref a,.ref wd,.ref sz])→TKit H' a wd sz net wides sizes→Q (.ref T) H'
theorem dat_leaf {H:Hp} {n:Nat} {x:V} {d:PyData} (h:DatN H n x d) (l:leafB d=true):DLeaf x d:=by
 cases n with
 | zero=>exact h
 | succ n=>
  rcases h with h | ⟨b,a,xs,ds,rfl,rfl,_⟩
  ·exact h
  ·cases b <;> cases l
theorem leaf_str {x:V} {d:PyData} (s:Str) (h:DLeaf x d):scal x (.str s)=true∧decide (x=.str s)=isS s d:=by
 rcases h with ⟨rfl,rfl⟩ | ⟨b,rfl,rfl⟩ | ⟨i,rfl,rfl⟩ | ⟨y,rfl,rfl⟩
 ·exact ⟨rfl,rfl⟩
 ·exact ⟨rfl,rfl⟩
 ·exact ⟨rfl,rfl⟩
 ·exact ⟨rfl,decide_eq_decide.mpr ⟨V.str.inj,fun e=>by rw [e]⟩⟩
theorem get_two {α:Type} {xs:List α} (h:xs.length=2):∃ a b,xs=[a,b]:=by
 match xs,h with
 | [a,b],_=>exact ⟨a,b,rfl⟩
theorem get_three {α:Type} {xs:List α} (h:xs.length=3):∃ a b c,xs=[a,b,c]:=by
 match xs,h with
 | [a,b,c],_=>exact ⟨a,b,c,rfl⟩
theorem mov_no {n k:Int} {ds:List PyData} (h2:ds.length ≠ 2) (h3:ds.length ≠ 3):movD n k (.tuple ds)=false:=by
 match ds,h2,h3 with
 | [],_,_=>rfl
 | [_],_,_=>rfl
 | [_,_],h,_=>exact absurd rfl h
 | [_,_,_],_,h=>exact absurd rfl h
 | _::_::_::_::_,_,_=>rfl
theorem ty_list {K:PySem.W.Frag} {H:Hp} {n:Nat} {x:V} {d:PyData} (h:DatN H n x d):∃ t,TyOf K H x t∧PySem.W.kitOne K t (.type "list")=some (lstB d):=by
 have leaf:DLeaf x d→∃ t,TyOf K H x t∧PySem.W.kitOne K t (.type "list")=some (lstB d):=by
  rintro (⟨rfl,rfl⟩ | ⟨b,rfl,rfl⟩ | ⟨i,rfl,rfl⟩ | ⟨y,rfl,rfl⟩)
  ·exact ⟨_,.non,rfl⟩
  ·exact ⟨_,.bl b,rfl⟩
  ·exact ⟨_,.int i,rfl⟩
  ·exact ⟨_,.str y,rfl⟩
 cases n with
 | zero=>exact leaf h
 | succ n=>
  rcases h with h | ⟨b,a,xs,ds,rfl,rfl,h1,_⟩
  ·exact leaf h
  ·cases b
   ·exact ⟨_,.lst h1,rfl⟩
   ·exact ⟨_,.tup h1,rfl⟩
theorem dat_lst {H:Hp} {n:Nat} {x:V} {d:PyData} (h:DatN H n x d) (hn:lstB d=true):∃ m a xs ds,n=m+1∧x=.ref a∧d=.list ds∧H a=some (.lst xs)∧xs.length=ds.length∧∀ (i:Nat) (x':V) (d':PyData),xs[i]?=some x'→ds[i]?=some d'→DatN H m x' d':=by
 have leaf:¬ DLeaf x d:=by
  rintro (⟨rfl,rfl⟩ | ⟨b,rfl,rfl⟩ | ⟨i,rfl,rfl⟩ | ⟨y,rfl,rfl⟩) <;> cases hn
 cases n with
 | zero=>exact absurd h leaf
 | succ n=>
  rcases h with h | ⟨b,a,xs,ds,rfl,rfl,h1,h2,h3⟩
  ·exact absurd h leaf
  ·cases b
   ·exact ⟨n,a,xs,ds,rfl,rfl,rfl,h1,h2,h3⟩
   ·cases hn
theorem dat_non {H:Hp} {n:Nat} {x:V} {d:PyData} (h:DatN H n x d):x=.non ↔ d=.none:=by
 have leaf:DLeaf x d→(x=.non ↔ d=.none):=by
  rintro (⟨rfl,rfl⟩ | ⟨b,rfl,rfl⟩ | ⟨i,rfl,rfl⟩ | ⟨y,rfl,rfl⟩)
  ·exact ⟨fun _=>rfl,fun _=>rfl⟩
  ·exact ⟨fun z=>(by cases z),fun z=>(by cases z)⟩
  ·exact ⟨fun z=>(by cases z),fun z=>(by cases z)⟩
  ·exact ⟨fun z=>(by cases z),fun z=>(by cases z)⟩
 cases n with
 | zero=>exact leaf h
 | succ n=>
  rcases h with h | ⟨b,a,xs,ds,rfl,rfl,_⟩
  ·exact leaf h
  ·exact ⟨fun z=>(by cases z),fun z=>(by cases b <;> cases z)⟩
theorem layS_bad {n:Int} {wides th ss:List Int} {s:Int} {d:PyData} {ds:List PyData} (h:d ≠ .none) (b:belowB n d=false):layS n wides th (s::ss) (d::ds)=false:=by
 cases d with
 | none=>exact absurd rfl h
 | int i=>
  show ((decide (0≤i) && decide (i<n)) && _)=false
  rw [show (decide (0≤i) && decide (i<n))=false from b,Bool.false_and]
 | _=>rfl
theorem below_int {n:Int} {d:PyData} (b:belowB n d=true):∃ i,d=.int i∧0≤i∧i<n:=by
 cases d with
 | int i=>
  obtain ⟨h1,h2⟩:=Bool.and_eq_true_iff.mp (show (decide (0≤i) && decide (i<n))=true from b)
  exact ⟨i,rfl,of_decide_eq_true h1,of_decide_eq_true h2⟩
 | _=>cases b
def ItD (n:Int) (d:PyData):Prop:=d=.none∨∃ i,d=.int i∧0≤i∧i<n
theorem layS_iff {n:Int} {wides:List Int}:∀ {ss:List Int} {ds:List PyData} {th:List Int},ds.length=ss.length→(layS n wides th ss ds=true ↔ (∀ d ∈ ds,ItD n d)∧(wksO (ds.map unD)).Nodup∧(∀ x ∈ wksO (ds.map unD),x ∉ th)∧∀ (i:Nat) (w:Int),(ds.map unD)[i]?=some (some w)→wides.getD w.toNat 0≤ss.getD i 0)
 | [],[],th,_=>⟨fun _=>⟨fun d h=>(nomatch h),List.nodup_nil,fun x h=>(nomatch h),fun i w h=>(nomatch h)⟩,fun _=>rfl⟩
 | s::ss,d::ds,th,h=>by
  have hl:ds.length=ss.length:=by simpa using h
  have shift:∀ {o:Option Int},(∀ w,o=some w→wides.getD w.toNat 0≤s)→((∀ (i:Nat) (w:Int),(ds.map unD)[i]?=some (some w)→wides.getD w.toNat 0≤ss.getD i 0) ↔ ∀ (i:Nat) (w:Int),(o::ds.map unD)[i]?=some (some w)→wides.getD w.toNat 0≤(s::ss).getD i 0):=fun {o} h0=>by
   constructor
   ·intro h i w e
    cases i with
    | zero=>exact h0 w (Option.some.inj e)
    | succ i=>exact h i w e
   ·intro h i w e
    exact h (i+1) w e
  have bad:layS n wides th (s::ss) (d::ds)=false→¬ ItD n d→(layS n wides th (s::ss) (d::ds)=true ↔ (∀ d' ∈ d::ds,ItD n d')∧(wksO ((d::ds).map unD)).Nodup∧(∀ x ∈ wksO ((d::ds).map unD),x ∉ th)∧∀ (i:Nat) (w:Int),((d::ds).map unD)[i]?=some (some w)→wides.getD w.toNat 0≤(s::ss).getD i 0):=
   fun e c=>⟨fun z=>(by rw [e] at z;cases z),fun z=>absurd (z.1 d (List.mem_cons_self ..)) c⟩
  cases d with
  | none=>
   refine (layS_iff (n:=n) (wides:=wides) (th:=th) hl).trans ?_
   refine and_congr ?_ (and_congr Iff.rfl (and_congr Iff.rfl (shift fun w z=>nomatch z)))
   exact ⟨fun z d hd=>(List.mem_cons.mp hd).elim (fun e=>.inl e) (z d),fun z d hd=>z d (List.mem_cons_of_mem _ hd)⟩
  | int i=>
   have e:layS n wides th (s::ss) (.int i::ds)=((decide (0≤i) && decide (i<n)) && (decide (wides.getD i.toNat 0≤s) && (decide (i ∉ th) && layS n wides (th++[i]) ss ds))):=rfl
   have ew:wksO ((PyData.int i::ds).map unD)=i::wksO (ds.map unD):=rfl
   rw [e,ew,Bool.and_eq_true,Bool.and_eq_true,Bool.and_eq_true,Bool.and_eq_true,decide_eq_true_eq,decide_eq_true_eq,decide_eq_true_eq,decide_eq_true_eq,layS_iff (n:=n) (wides:=wides) hl,List.nodup_cons]
   constructor
   ·rintro ⟨⟨a,b⟩,c,g,k,l,m,o⟩
    refine ⟨fun d hd=>?_,⟨fun z=>m i z (List.mem_append.mpr (.inr (List.mem_singleton.mpr rfl))),l⟩,fun x hx=>?_,(shift fun w z=>by rw [← Option.some.inj z];exact c).mp o⟩
    ·rcases List.mem_cons.mp hd with e | e
     ·exact .inr ⟨i,e,a,b⟩
     ·exact k d e
    ·rcases List.mem_cons.mp hx with e | e
     ·rw [e];exact g
     ·exact fun z=>m x e (List.mem_append.mpr (.inl z))
   ·rintro ⟨a,⟨b,c⟩,g,k⟩
    have hi:0≤i∧i<n:=by
     rcases a _ (List.mem_cons_self ..) with z | ⟨j,z,r⟩
     ·cases z
     ·cases z;exact r
    have k0:=k 0 i rfl
    refine ⟨hi,k0,g i (List.mem_cons_self ..),fun d hd=>a d (List.mem_cons_of_mem _ hd),c,fun x hx z=>?_,(shift fun w z=>by rw [← Option.some.inj z];exact k0).mpr k⟩
    rcases List.mem_append.mp z with z | z
    ·exact g x (List.mem_cons_of_mem _ hx) z
    ·rw [List.mem_singleton.mp z] at hx
     exact b hx
  | _=>exact bad rfl fun z=>by rcases z with z | ⟨j,z,_⟩ <;> cases z
theorem lay_dat {n:Int} {wides sizes:List Int} {H:Hp} {m:Nat} {x:V} {d:PyData} (D:DatN H m x d) (h:layDt n wides sizes d=true):∃ r,x=.ref r∧H r=some (.tup ((dLa d).map oV))∧(dLa d).length=sizes.length∧LayOk n (dLa d)∧FitO wides sizes (dLa d):=by
 have c:tupB d=true:=by cases d <;> first | rfl | cases h
 obtain ⟨k,r,xs,ds,rfl,rfl,rfl,gr,lx,el⟩:=qDE D c
 obtain ⟨h1,h2⟩:=Bool.and_eq_true_iff.mp (show (decide (ds.length=sizes.length) && layS n wides [] sizes ds)=true from h)
 obtain ⟨a,b,_,f⟩:=(layS_iff (of_decide_eq_true h1)).mp h2
 have ex:xs=(ds.map unD).map oV:=by
  refine List.ext_getElem? fun i=>?_
  rw [List.getElem?_map,List.getElem?_map]
  by_cases hi:i<ds.length
  ·have hd:=List.getElem?_eq_getElem hi
   have hx:=List.getElem?_eq_getElem (show i<xs.length by lia)
   have Di:=el i _ _ hx hd
   rw [hd,hx]
   rcases a _ (List.getElem_mem hi) with z | ⟨j,z,_⟩
   ·rw [z] at Di ⊢
    rw [(dat_non Di).mpr rfl]
    rfl
   ·rw [z] at Di ⊢
    obtain ⟨j2,e1,e2⟩:=dat_int Di rfl
    cases e2
    rw [e1]
    rfl
  ·rw [List.getElem?_eq_none (by lia),List.getElem?_eq_none (by lia)]
   rfl
 refine ⟨r,rfl,by rw [gr,ex];rfl,?_,fun w hw=>?_,b,f⟩
 ·show (ds.map unD).length=_
  rw [List.length_map]
  exact of_decide_eq_true h1
 ·obtain ⟨d,hd,e⟩:=List.mem_map.mp (show some w ∈ ds.map unD from hw)
  rcases a d hd with z | ⟨j,z,r⟩
  ·rw [z] at e;cases e
  ·rw [z] at e
   cases e
   exact r
theorem un_lay (l:La):dLa (layD l)=l:=by
 show (l.map _).map unD=l
 rw [List.map_map]
 conv=>rhs;rw [← List.map_id l]
 refine List.map_congr_left fun o _=>?_
 cases o <;> rfl
theorem lay_la (l:La):layD l=.tuple (l.map laD):=congrArg PyData.tuple (List.map_congr_left fun o _=>by cases o <;> rfl)
theorem lay_dt {n:Int} {wides sizes:List Int} {l:La} (ll:l.length=sizes.length) (ok:LayOk n l) (f:FitO wides sizes l):layDt n wides sizes (layD l)=true:=by
 have e:(l.map laD).map unD=l:=by have:=un_lay l;rw [lay_la] at this;exact this
 rw [lay_la]
 refine Bool.and_eq_true_iff.mpr ⟨decide_eq_true (by rw [List.length_map];exact ll),(layS_iff (by rw [List.length_map];exact ll)).mpr ?_⟩
 rw [e]
 refine ⟨fun d hd=>?_,f.1,fun x _ z=>(nomatch z),f.2⟩
 obtain ⟨o,ho,rfl⟩:=List.mem_map.mp hd
 cases o with
 | none=>exact .inl rfl
 | some x=>exact .inr ⟨x,rfl,ok x ho⟩
def addO (ks:List La) (s:La):List La:=if s ∈ ks then ks else ks++[s]
def kvB (ks:List La):KvO:=ks.map fun s=>(keyO s,V.bl true)
theorem kvB_val {s:La}:∀ ks:List La,valV (kvB ks) (keyO s)=if s ∈ ks then some (.bl true) else none
 | []=>rfl
 | x::ks=>by
  by_cases e:s=x
  ·subst e
   rw [if_pos (List.mem_cons_self ..)]
   exact qCJ rfl
  ·have h:valV (kvB (x::ks)) (keyO s)=valV (kvB ks) (keyO s):=qD5 fun z=>e (keyO_inj z).symm
   rw [h,kvB_val ks]
   by_cases c:s ∈ ks
   ·rw [if_pos c,if_pos (List.mem_cons_of_mem _ c)]
   ·rw [if_neg c,if_neg fun z=>(List.mem_cons.mp z).elim e c]
theorem kvB_has (ks:List La) (s:La):(valV (kvB ks) (keyO s)).isSome=decide (s ∈ ks):=by
 rw [kvB_val]
 by_cases c:s ∈ ks
 ·rw [if_pos c,decide_eq_true c];rfl
 ·rw [if_neg c,decide_eq_false c];rfl
theorem kvB_put (ks:List La) (s:La):putK (kvB ks) (keyO s) (.bl true)=kvB (addO ks s):=by
 have an:((kvB ks).any fun kv=>decide (kv.1=keyO s))=decide (s ∈ ks):=by
  rw [Bool.eq_iff_iff,decide_eq_true_eq,List.any_eq_true]
  constructor
  ·rintro ⟨kv,h1,h2⟩
   obtain ⟨y,hy,rfl⟩:=List.mem_map.mp h1
   rw [← keyO_inj (of_decide_eq_true h2)]
   exact hy
  ·intro hz
   exact ⟨_,List.mem_map.mpr ⟨s,hz,rfl⟩,decide_eq_true rfl⟩
 unfold putK addO
 rw [an]
 by_cases e:s ∈ ks
 ·rw [decide_eq_true e,if_pos rfl,if_pos e]
  conv=>rhs;rw [← List.map_id (kvB ks)]
  refine List.map_congr_left fun kv h=>?_
  obtain ⟨y,hy,rfl⟩:=List.mem_map.mp h
  dsimp only [id]
  split <;> rfl
 ·rw [decide_eq_false e,if_neg (by decide),if_neg e]
  unfold kvB
  rw [List.map_append]
  rfl
theorem addO_mem {ks:List La} {s x:La}:x ∈ addO ks s ↔ x ∈ ks∨x=s:=by
 unfold addO
 by_cases e:s ∈ ks
 ·rw [if_pos e]
  exact ⟨.inl,fun h=>h.elim id fun z=>by rw [z];exact e⟩
 ·rw [if_neg e,List.mem_append,List.mem_singleton]
theorem addO_len (ks:List La) (s:La):(addO ks s).length≤ks.length+1:=by
 unfold addO
 split
 ·lia
 ·rw [List.length_append];exact Nat.le_refl _
theorem addO_nd {ks:List La} {s:La} (h:ks.Nodup):(addO ks s).Nodup:=by
 unfold addO
 split
 ·exact h
 ·exact qC3 h ‹_›
theorem adds_mem {x:La}:∀ {L ks:List La},x ∈ L.foldl addO ks ↔ x ∈ ks∨x ∈ L
 | [],ks=>⟨.inl,fun h=>h.elim id fun z=>nomatch z⟩
 | s::L,ks=>by
  rw [List.foldl_cons,adds_mem (L:=L),addO_mem,List.mem_cons,or_assoc]
theorem adds_len:∀ {L ks:List La},(L.foldl addO ks).length≤ks.length+L.length
 | [],ks=>Nat.le_refl _
 | s::L,ks=>by
  have:=adds_len (L:=L) (ks:=addO ks s)
  have:=addO_len ks s
  rw [List.foldl_cons,List.length_cons]
  lia
theorem adds_nd:∀ {L ks:List La},ks.Nodup→(L.foldl addO ks).Nodup
 | [],ks,h=>h
 | s::L,ks,h=>adds_nd (L:=L) (addO_nd h)
def onceO (L:List La):List La:=L.foldl addO []
theorem once_mem {L:List La} {x:La}:x ∈ onceO L ↔ x ∈ L:=adds_mem.trans ⟨fun h=>h.elim (fun z=>nomatch z) id,.inr⟩
theorem once_len (L:List La):(onceO L).length≤L.length:=by
 have:(onceO L).length≤([]:List La).length+L.length:=adds_len
 simpa using this
theorem once_snoc {L:List La} {i:Nat} {s:La} (h:L[i]?=some s):onceO (L.take (i+1))=addO (onceO (L.take i)) s:=by
 unfold onceO
 rw [List.take_add_one,h,Option.toList_some,List.foldl_append]
 rfl
theorem jo_once {net:List (List Int)} {wides sizes asked:List Int} {L:List La}:JO net wides sizes asked (onceO L) ↔ JO net wides sizes asked L:=by
 unfold JO
 constructor
 ·rintro ⟨a,b⟩
  exact ⟨once_mem.mp a,fun l hl=>let ⟨c,d,e⟩:=b l (once_mem.mpr hl);⟨c,d,fun m hm=>once_mem.mp (e m hm)⟩⟩
 ·rintro ⟨a,b⟩
  exact ⟨once_mem.mpr a,fun l hl=>let ⟨c,d,e⟩:=b l (once_mem.mp hl);⟨c,d,fun m hm=>once_mem.mpr (e m hm)⟩⟩
def spFitsO:Sp:=fun vs H Q _=>∃ (wd sz la:Addr) (wides sizes:List Int) (lay:La),vs=[.ref wd,.ref sz,.ref la]∧H wd=some (.tup (wides.map V.int))∧H sz=some (.tup (sizes.map V.int))∧H la=some (.tup (lay.map oV))∧lay.length=sizes.length∧sizes.length≤3∧LayOk (wides.length:Int) lay∧
 ∀ b H',Same H H'→(b=true ↔ FitO wides sizes lay)→Q (.bl b) H'
def LysOk (net:List (List Int)) (sizes:List Int) (L:List La):Prop:=∀ s ∈ L,s.length=sizes.length∧LayOk (net.length:Int) s
def NoneAt (H:Hp) (T:Addr) (L:List La):Prop:=∃ p rs,H T=some (.tup [.str "none",.ref p])∧H p=some (.lst (rs.map V.ref))∧LaysAt H rs L
def spJudgedO:Sp:=fun vs H Q _=>∃ (a wd sz t T:Addr) (net:List (List Int)) (wides sizes asked:List Int) (L:List La),vs=[.ref a,.ref wd,.ref sz,.ref t,.ref T]∧TKit H a wd sz net wides sizes∧sizes.length≤3∧H t=some (.tup (asked.map V.int))∧asked.length≤1000∧NoneAt H T L∧LysOk net sizes L∧L.length≤20000∧
 ∀ b H',Same H H'→(b=true ↔ JO net wides sizes asked L)→Q (.bl b) H'
def spShownO:Sp:=fun vs H Q _=>∃ (a wd sz t T:Addr) (net:List (List Int)) (wides sizes asked:List Int) (L:List La),vs=[.ref a,.ref wd,.ref sz,.ref t,.ref T]∧TKit H a wd sz net wides sizes∧sizes.length≤3∧H t=some (.tup (asked.map V.int))∧asked.length≤1000∧NoneAt H T L∧LysOk net sizes L∧L.length≤20000∧
 ∀ H',Same H H'→Q (.bl true) H'
theorem wks_take {l:La} {i:Nat} {o:Option Int} (h:l[i]?=some o):wksO (l.take (i+1))=wksO (l.take i)++o.toList:=by
 unfold wksO
 rw [List.take_add_one,h,Option.toList_some,List.filterMap_append]
 cases o <;> rfl
theorem wks_len (l:La):(wksO l).length≤l.length:=List.length_filterMap_le ..
theorem dedO_all:∀ (l zs:List Int),(l.foldl addI zs).length=zs.length+l.length ↔ l.Nodup∧∀ x ∈ l,x ∉ zs
 | [],zs=>by simp
 | k::l,zs=>by
  show (l.foldl addI (addI zs k)).length=zs.length+(l.length+1) ↔ _
  by_cases c:k ∈ zs
  ·have e:addI zs k=zs:=by unfold addI;rw [if_pos c]
   rw [e]
   have:=qBO l zs
   exact ⟨fun h=>by lia,fun h=>absurd c (h.2 k List.mem_cons_self)⟩
  ·have e:addI zs k=zs++[k]:=by unfold addI;rw [if_neg c]
   have ih:=dedO_all l (zs++[k])
   rw [List.length_append,List.length_singleton] at ih
   rw [e,show zs.length+(l.length+1)=zs.length+1+l.length by lia,ih,List.nodup_cons]
   constructor
   ·rintro ⟨h1,h2⟩
    refine ⟨⟨fun z=>h2 k z (by simp),h1⟩,fun x hx=>?_⟩
    rcases List.mem_cons.mp hx with rfl | hx
    ·exact c
    ·exact fun z=>h2 x hx (List.mem_append_left _ z)
   ·rintro ⟨⟨h1,h2⟩,h3⟩
    refine ⟨h2,fun x hx z=>?_⟩
    rcases List.mem_append.mp z with z | z
    ·exact h3 x (List.mem_cons_of_mem _ hx) z
    ·exact h1 (List.mem_singleton.mp z ▸ hx)
theorem dedO_nodup {l:List Int}:(dedI l).length=l.length ↔ l.Nodup:=by
 have:=dedO_all l []
 rw [List.length_nil,Nat.zero_add] at this
 show (l.foldl addI []).length=l.length ↔ _
 rw [this]
 exact ⟨fun h=>h.1,fun h=>⟨h,fun x _=>by simp⟩⟩
theorem all_mem_pr {n k:Int} {m:Mo} (h:m ∈ allMo n k):m ∈ prMo n k:=by
 obtain ⟨rm,hr,h⟩:=List.mem_flatMap.mp h
 rcases List.mem_append.mp h with h | h
 ·obtain ⟨wk,hw,rfl⟩:=List.mem_map.mp h
  exact mem_prMo.mpr ⟨mem_rangeI.mp hr,.inr ⟨rfl,mem_rangeI.mp hw⟩⟩
 ·rw [List.mem_singleton.mp h]
  exact mem_prMo.mpr ⟨mem_rangeI.mp hr,.inl ⟨rfl,rfl⟩⟩
theorem bt_dict:bootBuiltins "dict" = some (.type "dict"):=by decide +kernel
theorem put_once:∀ {ps:List (List KI × Addr × V)} {L ks:List La},ps.map (fun q=>(q.1,q.2.2))=L.map (fun s=>(keyO s,V.bl true))→putAllT (kvB ks) ps=kvB (L.foldl addO ks)
 | [],[],ks,_=>rfl
 | [],_::_,ks,h=>nomatch h
 | _::_,[],ks,h=>nomatch h
 | q::ps,s::L,ks,h=>by
  rw [List.map_cons,List.map_cons,List.cons.injEq,Prod.mk.injEq] at h
  obtain ⟨⟨h1,h2⟩,h3⟩:=h
  show putAllT (putK (kvB ks) q.1 q.2.2) ps=kvB (L.foldl addO (addO ks s))
  rw [h1,h2,kvB_put]
  exact put_once h3
theorem pairs_grow {K:PySem.W.Frag} {H:Hp} {pq tp r:Addr} {k:List KI} {v:V} {qs:List Addr} {ps:List (List KI × Addr × V)} {zs:List V} (PT:pairsT H K qs ps) (gq:H pq=some (.lst zs)) (htp:H tp=none) (g:H r=some (.tup (k.map kI))) {o:HO} :
  pairsT (upd (upd H tp (.tup [.ref r,v])) pq o) K (qs++[tp]) (ps++[(k,r,v)]):=by
 have sT:=qA3 htp (.tup [.ref r,v])
 have gq2:=sT _ _ gq
 have keep:∀ {b:Addr} {xs:List V},(upd H tp (.tup [.ref r,v])) b=some (.tup xs)→(upd (upd H tp (.tup [.ref r,v])) pq o) b=some (.tup xs):=fun {b xs} e=>by rw [qA9 (ne_of e gq2 (fun z=>nomatch z))];exact e
 refine Paired.snoc (Paired.mapP PT fun r' q' e=>⟨?_,keep (sT _ _ e.2)⟩) ⟨SqT.of (keep qA1),keep (sT _ _ g)⟩
 rcases e.1 with h | h
 ·refine .inl ?_
  rcases h with h | ⟨oo,h⟩
  ·exact .inl (keep (sT _ _ h))
  ·exact .inr ⟨oo,by rw [qA9 (ne_of (sT _ _ h) gq2 (fun z=>nomatch z))];exact sT _ _ h⟩
 ·exact .inr h
theorem dat_lays {H:Hp} {l:Addr} {rs:List Addr} {L:List La} (gl:H l=some (.lst (rs.map V.ref))) (LA:LaysAt H rs L):DatN H 2 (.ref l) (.list (L.map layD)):=by
 refine .inr ⟨false,l,_,_,rfl,rfl,gl,by rw [List.length_map,List.length_map,Paired.length LA],fun i x' d' e1 e2=>?_⟩
 obtain ⟨r,hr,rfl⟩:=qBH e1
 obtain ⟨z,hz,g⟩:=qAU LA hr
 rw [List.getElem?_map,hz] at e2
 cases e2
 exact dat_lay g
theorem dat_two {H:Hp} {T:Addr} {x y:V} {n:Nat} {dx dy:PyData} (g:H T=some (.tup [x,y])) (hx:DatN H n x dx) (hy:DatN H n y dy):DatN H (n+1) (.ref T) (.tuple [dx,dy]):=by
 refine .inr ⟨true,T,_,_,rfl,rfl,g,rfl,fun i x' d' e1 e2=>?_⟩
 rcases i with _ | _ | i
 ·cases e1;cases e2;exact hx
 ·cases e1;cases e2;exact hy
 ·cases e1
theorem shows_iff {net:List (List Int)} {wides sizes asked:List Int} {L:List La} (ok:LysOk net sizes L):ShowsD net wides sizes asked (.tuple [.str (Str.ofString "none"),.list (L.map layD)]) ↔ JO net wides sizes asked L:=by
 have e:(L.map layD).map dLa=L:=by
  rw [List.map_map]
  conv=>rhs;rw [← List.map_id L]
  exact List.map_congr_left fun s _=>un_lay s
 have k:ShowsD net wides sizes asked (.tuple [.str (Str.ofString "none"),.list (L.map layD)])=(isS (Str.ofString "none") (.str (Str.ofString "none"))=true∧(L.map layD).all (layDt (net.length:Int) wides sizes)=true∧JO net wides sizes asked ((L.map layD).map dLa)):=rfl
 rw [k,e]
 refine ⟨fun z=>z.2.2,fun z=>⟨show decide (Str.ofString "none" = Str.ofString "none")=true from decide_eq_true rfl,List.all_eq_true.mpr fun d hd=>?_,z⟩⟩
 obtain ⟨s,hs,rfl⟩:=List.mem_map.mp hd
 exact lay_dt (ok s hs).1 (ok s hs).2 (z.2 s hs).1
def LsP (H:Hp) (rs:List Addr) (P:La→Prop):Prop:=∀ r ∈ rs,∃ s,P s∧H r=some (.tup (s.map oV))
def Lk (net:List (List Int)) (sizes:List Int) (s:La):Prop:=s.length=sizes.length∧LayOk (net.length:Int) s
theorem LsP.mono {H H':Hp} {rs:List Addr} {P:La→Prop} (h:LsP H rs P) (k:∀ r xs,H r=some (.tup xs)→H' r=some (.tup xs)):LsP H' rs P:=fun r hr=>let ⟨s,a,b⟩:=h r hr;⟨s,a,k _ _ b⟩
theorem LsP.same {H H':Hp} {rs:List Addr} {P:La→Prop} (h:LsP H rs P) (k:Same H H'):LsP H' rs P:=h.mono fun r xs e=>k _ _ e
theorem LsP.put {H:Hp} {rs:List Addr} {P:La→Prop} {d:Addr} {o u:HO} (h:LsP H rs P) (hd:H d=some o) (ho:∀ xs,o ≠ .tup xs):LsP (upd H d u) rs P:=h.mono fun r xs e=>qC9 e hd ho
theorem LsP.lput {H:Hp} {rs:List Addr} {P:La→Prop} {d:Addr} {xs:List V} {u:HO} (h:LsP H rs P) (hd:H d=some (.lst xs)):LsP (upd H d u) rs P:=h.put hd fun _ z=>nomatch z
theorem LsP.keep {H H':Hp} {rs:List Addr} {P:La→Prop} {d c:Addr} {t:Int} {ns:List Int} (h:LsP H rs P) (S:StAt H d c t ns) (k:Keep d c H H'):LsP H' rs P:=h.mono fun r xs e=>k _ _ e (S.tup e).1 (S.tup e).2
theorem LsP.nil {H:Hp} {P:La→Prop}:LsP H [] P:=fun r hr=>nomatch hr
theorem LsP.app {H:Hp} {rs us:List Addr} {P:La→Prop} (h:LsP H rs P) (h':LsP H us P):LsP H (rs++us) P:=fun r hr=>(List.mem_append.mp hr).elim (h r) (h' r)
theorem LsP.one {H:Hp} {r:Addr} {P:La→Prop} {s:La} (p:P s) (g:H r=some (.tup (s.map oV))):LsP H [r] P:=fun r' hr=>by rw [List.mem_singleton.mp hr];exact ⟨s,p,g⟩
theorem LsP.sub {H:Hp} {rs us:List Addr} {P:La→Prop} (h:LsP H rs P) (k:∀ r ∈ us,r ∈ rs):LsP H us P:=fun r hr=>h r (k r hr)
theorem LsP.lay {H:Hp} {P:La→Prop}:∀ {rs:List Addr},LsP H rs P→∃ L,LaysAt H rs L∧∀ s ∈ L,P s
 | [],_=>⟨[],.nil,fun s h=>nomatch h⟩
 | r::rs,h=>by
  obtain ⟨s,a,b⟩:=h r (List.mem_cons_self ..)
  obtain ⟨L,c,d⟩:=LsP.lay (rs:=rs) fun r' hr=>h r' (List.mem_cons_of_mem _ hr)
  exact ⟨s::L,.cons b c,fun x hx=>(List.mem_cons.mp hx).elim (fun e=>e ▸ a) (d x)⟩
def spMixedO:Sp:=fun vs H Q _=>∃ (d c l:Addr) (t:Int) (ns:List Int) (rs:List Addr) (P:La→Prop),vs=[.ref d,.ref l]∧StAt H d c t ns∧t≤TB - 5000∧H l=some (.lst (rs.map V.ref))∧LsP H rs P∧rs ≠ []∧rs.length≤1000∧
 ∀ l' rs' t' ns' H',StAt H' d c t' ns'→t≤t'→t'≤t+1010→Keep d c H H'→H l'=none→H' l'=some (.lst (rs'.map V.ref))→LsP H' rs' P→rs' ≠ []→rs'.length≤rs.length+2→Q (.ref l') H'
def spOneMoreO:Sp:=fun vs H Q _=>∃ (d c a wd sz:Addr) (t:Int) (ns:List Int) (net:List (List Int)) (wides sizes:List Int),vs=[.ref d,.ref a,.ref sz]∧StAt H d c t ns∧t≤TB - 1000∧TKit H a wd sz net wides sizes∧
 ∀ r s t' ns' H',StAt H' d c t' ns'→t≤t'→t'≤t+20→Keep d c H H'→H' r=some (.tup (s.map oV))→Lk net sizes s→Q (.ref r) H'
def spClosedO:Sp:=fun vs H Q _=>∃ (a wd sz l:Addr) (net:List (List Int)) (wides sizes:List Int) (rs:List Addr),vs=[.ref a,.ref wd,.ref sz,.ref l]∧TKit H a wd sz net wides sizes∧net.length≤5∧sizes.length≤3∧H l=some (.lst (rs.map V.ref))∧LsP H rs (Lk net sizes)∧rs ≠ []∧rs.length≤1000∧
 ∀ l' rs' H',Same H H'→H l'=none→H' l'=some (.lst (rs'.map V.ref))→LsP H' rs' (Lk net sizes)→rs' ≠ []→rs'.length≤216→Q (.ref l') H'
def spAllFitO:Sp:=fun vs H Q _=>∃ (wd sz:Addr) (wides sizes:List Int),vs=[.ref wd,.ref sz]∧H wd=some (.tup (wides.map V.int))∧H sz=some (.tup (sizes.map V.int))∧wides.length≤5∧sizes.length≤3∧
 ∀ l' rs' H',Same H H'→H l'=none→H' l'=some (.lst (rs'.map V.ref))→LsP H' rs' (fun s=>s.length=sizes.length∧LayOk (wides.length:Int) s)→rs' ≠ []→rs'.length≤216→Q (.ref l') H'
def spOthersO:Sp:=fun vs H Q _=>∃ (d c a wd sz dk:Addr) (t:Int) (ns:List Int) (net:List (List Int)) (wides sizes:List Int) (kvs:KvO),vs=[.ref d,.ref a,.ref wd,.ref sz,.ref dk]∧StAt H d c t ns∧t≤TB - 10000∧TKit H a wd sz net wides sizes∧net.length≤5∧2≤sizes.length∧sizes.length≤3∧H dk=some (.dT kvs)∧kvs ≠ []∧(∀ kv ∈ kvs,∃ s,kv.1=keyO s∧Lk net sizes s)∧kvs.length≤216∧
 ∀ l' rs' t' ns' H',StAt H' d c t' ns'→t≤t'→t'≤t+2500→Keep d c H H'→H l'=none→H' l'=some (.lst (rs'.map V.ref))→LsP H' rs' (Lk net sizes)→rs'.length≤1000→Q (.ref l') H'
theorem erase_mapA {α β:Type} {f:α→β}:∀ {xs:List α} {k:Nat},(xs.map f).eraseIdx k=(xs.eraseIdx k).map f
 | [],_=>rfl
 | _::_,0=>rfl
 | x::xs,k+1=>by
  rw [List.map_cons,List.eraseIdx_cons_succ,List.eraseIdx_cons_succ,List.map_cons,erase_mapA]
theorem seq_at {i:Int} {n:Nat} (h0:0≤i) (h1:i<(n:Int)):seqIndex? i n=some i.toNat:=PySem.StrLaws.seqIndex_nonneg h0 h1
theorem StAt.own {H:Hp} {d c p:Addr} {t:Int} {ns:List Int} {u:HO} (S:StAt H d c t ns) (n:p ≠ d∧p ≠ c):StAt (upd H p u) d c t ns:=
 ⟨by rw [qA9 n.1.symm];exact S.dict,by rw [qA9 n.2.symm];exact S.list,S.ne,S.len,S.pos⟩
theorem Keep.own {H H':Hp} {d c p:Addr} {u:HO} (k:Keep d c H H') (n:H p=none):Keep d c H (upd H' p u):=fun b o e n1 n2=>by
 rw [qA9 fun z=>by rw [z,n] at e;cases e]
 exact k b o e n1 n2
def spComeD:Sp:=fun vs H Q _=>∃ (a wd sz:Addr) (net:List (List Int)) (wides sizes:List Int),vs=[.ref a,.ref wd,.ref sz]∧TKit H a wd sz net wides sizes∧
 ∀ d ks f H',Same H H'→H d=none→H' d=some (.dT (kvC ks f))→ComeO net wides sizes ks f→Q (.ref d) H'
theorem keys_lsp {H:Hp} {P:La→Prop} {rs:List Addr} {kvs:KvO} (h:Paired (fun (r:Addr) (kv:List KI × V)=>H r=some (.tup (kv.1.map kI))) rs kvs) (k:∀ kv ∈ kvs,∃ s,kv.1=keyO s∧P s):LsP H rs P:=by
 induction h with
 | nil=>exact .nil
 | cons g _ ih=>
  refine fun r hr=>(List.mem_cons.mp hr).elim (fun e=>?_) (ih (fun kv hk=>k kv (List.mem_cons_of_mem _ hk)) r)
  obtain ⟨s,e1,p⟩:=k _ (List.mem_cons_self ..)
  rw [e1,qAZ] at g
  exact ⟨s,p,e ▸ g⟩
theorem kvB_keys {ks:List La} {P:La→Prop} (h:∀ s ∈ ks,P s):∀ kv ∈ kvB ks,∃ s,kv.1=keyO s∧P s:=fun kv hk=>by
 obtain ⟨s,hs,rfl⟩:=List.mem_map.mp hk
 exact ⟨s,rfl,h s hs⟩
theorem lk_count {net:List (List Int)} {sizes:List Int} {ks:List La} (nd:ks.Nodup) (h:∀ s ∈ ks,Lk net sizes s) (n5:net.length≤5) (k3:sizes.length≤3):ks.length≤216:=
 Nat.le_trans (lay_count (n:=net.length) (k:=sizes.length) nd h) (Nat.le_trans (Nat.pow_le_pow_left (show net.length+1≤6 by lia) _) (Nat.pow_le_pow_right (show 0<6 by decide) k3))
theorem Lk.be {net:List (List Int)} {sizes:List Int} {s:La} (h:Lk net sizes s) {m:Mo} (hm:m ∈ allMo (net.length:Int) (sizes.length:Int)):Lk net sizes (beO s m):=
 ⟨by unfold beO;rw [List.length_set];exact h.1,LayOk.set h.2 (qCH hm).2.2⟩
theorem not_nil_snoc {α:Type} {l:List α} (h:l ≠ []):∃ i x,l=i++[x]:=⟨l.dropLast,l.getLast h,(List.dropLast_concat_getLast h).symm⟩
theorem Keep.none {H H':Hp} {d c x:Addr} {t:Int} {ns:List Int} (k:Keep d c H H') (S:StAt H' d c t ns) (h:H' x=none):H x=none:=by
 cases e:H x with
 | none=>rfl
 | some o=>
  have:=k x o e (fun z=>by rw [z,S.dict] at h;cases h) (fun z=>by rw [z,S.list] at h;cases h)
  rw [h] at this
  cases this
theorem lk_two {net:List (List Int)} {sizes:List Int} {o1 o2:Option Int} (k2:2≤sizes.length) (h1:∀ x,o1=some x→0≤x∧x<(net.length:Int)) (h2:∀ x,o2=some x→0≤x∧x<(net.length:Int)):Lk net sizes (o1::o2::List.replicate (sizes.length - 2) none):=by
 refine ⟨by rw [List.length_cons,List.length_cons,List.length_replicate];lia,fun x hx=>?_⟩
 rcases List.mem_cons.mp hx with e | hx
 ·exact h1 x e.symm
 rcases List.mem_cons.mp hx with e | hx
 ·exact h2 x e.symm
 ·cases List.eq_of_mem_replicate hx
theorem Lk.rev {net:List (List Int)} {sizes:List Int} {s:La} (h:Lk net sizes s):Lk net sizes s.reverse:=
 ⟨by rw [List.length_reverse];exact h.1,fun x hx=>h.2 x (List.mem_reverse.mp hx)⟩
theorem cutI_sub {α:Type} {xs:List α} {lo hi:Option Int}:(∀ x ∈ cutI xs lo hi,x ∈ xs)∧(cutI xs lo hi).length≤xs.length:=by
 unfold cutI
 refine ⟨fun x hx=>List.mem_of_mem_drop (List.mem_of_mem_take hx),?_⟩
 rw [List.length_take,List.length_drop]
 lia
def At (H:Hp) (x:V) (d:PyData):Prop:=∃ n,DatN H n x d
theorem At.same {H H':Hp} {x:V} {d:PyData} (h:At H x d) (s:Same H H'):At H' x d:=let ⟨n,h⟩:=h;⟨n,h.same s⟩
theorem At.leaf {H:Hp} {x:V} {d:PyData} (h:DLeaf x d):At H x d:=⟨0,h⟩
theorem At.str {H:Hp} {s:Str}:At H (.str s) (.str s):=.leaf (.inr (.inr (.inr ⟨_,rfl,rfl⟩)))
theorem At.int {H:Hp} {i:Int}:At H (.int i) (.int i):=.leaf (.inr (.inr (.inl ⟨_,rfl,rfl⟩)))
theorem At.bl {H:Hp} {b:Bool}:At H (.bl b) (.bool b):=.leaf (.inr (.inl ⟨_,rfl,rfl⟩))
theorem At.non {H:Hp}:At H .non .none:=.leaf (.inl ⟨rfl,rfl⟩)
theorem dat_le {H:Hp} {x:V} {d:PyData} {n m:Nat} (h:DatN H n x d) (l:n≤m):DatN H m x d:=by
 obtain ⟨k,rfl⟩:=Nat.exists_eq_add_of_le l
 induction k with
 | zero=>exact h
 | succ k ih=>exact (ih (by lia)).up
theorem At.seq {H:Hp} {a:Addr} {b:Bool} {xs:List V} {ds:List PyData} (g:H a=some (seqO b xs)) (h:Paired (fun x d=>At H x d) xs ds):At H (.ref a) (seqD b ds):=by
 have all:∃ n,Paired (fun x d=>DatN H n x d) xs ds:=by
  clear g
  induction h with
  | nil=>exact ⟨0,.nil⟩
  | cons x _ ih=>
   obtain ⟨n,hn⟩:=x
   obtain ⟨m,hm⟩:=ih
   exact ⟨max n m,.cons (dat_le hn (by lia)) (qBA hm fun _ _ e=>dat_le e (by lia))⟩
 obtain ⟨n,hn⟩:=all
 refine ⟨n+1,.inr ⟨b,a,xs,ds,rfl,rfl,g,Paired.length hn,fun i x' d' e1 e2=>?_⟩⟩
 obtain ⟨d2,h1,h2⟩:=qAU hn e1
 rw [h1] at e2
 rw [← Option.some.inj e2]
 exact h2
theorem At.tup {H:Hp} {a:Addr} {xs:List V} {ds:List PyData} (g:H a=some (.tup xs)) (h:Paired (fun x d=>At H x d) xs ds):At H (.ref a) (.tuple ds):=At.seq (b:=true) g h
theorem At.lst {H:Hp} {a:Addr} {xs:List V} {ds:List PyData} (g:H a=some (.lst xs)) (h:Paired (fun x d=>At H x d) xs ds):At H (.ref a) (.list ds):=At.seq (b:=false) g h
theorem at_items {H:Hp}:∀ {s:La},Paired (fun x d=>At H x d) (s.map oV) (s.map laD)
 | []=>.nil
 | none::s=>.cons .non at_items
 | some _::s=>.cons .int at_items
theorem l0_len {sizes:List Int}:(l0 sizes).length=sizes.length:=List.length_replicate
theorem At.lays {H:Hp} {rs:List Addr} {L:List La} (h:LaysAt H rs L):Paired (fun x d=>At H x d) (rs.map V.ref) (L.map layD):=by
 induction h with
 | nil=>exact .nil
 | cons g _ ih=>exact .cons ⟨1,dat_lay g⟩ ih
section
variable {net:List (List Int)} {wides sizes:List Int}
def BadD (net:List (List Int)) (wides sizes:List Int) (d:PyData):Prop:=OkT (net.length:Int) (sizes.length:Int) d∧∀ asked,¬ ShowsD net wides sizes asked d
def BadV (net:List (List Int)) (wides sizes:List Int) (H:Hp) (x:V):Prop:=∃ d,At H x d∧BadD net wides sizes d
theorem BadV.same {H H':Hp} {x:V} (h:BadV net wides sizes H x) (s:Same H H'):BadV net wides sizes H' x:=let ⟨d,a,b⟩:=h;⟨d,a.same s,b⟩
theorem bad_leaf {d:PyData} (h:leafB d=true):BadD net wides sizes d:=by cases d <;> first | exact ⟨trivial,fun _ z=>z⟩ | cases h
theorem bad_list {ds:List PyData}:BadD net wides sizes (.list ds):=⟨trivial,fun _ z=>z⟩
theorem bad_nil:BadD net wides sizes (.tuple []):=⟨trivial,fun _ z=>z⟩
theorem bad_one {a:PyData}:BadD net wides sizes (.tuple [a]):=⟨trivial,fun _ z=>z⟩
theorem qD4 {a b c:PyData} (ha:leafB a=true) (h:isS (Str.ofString "plan") a=true→fst2B b=true∧lenB b∧plD (net.length:Int) (sizes.length:Int) b=false):BadD net wides sizes (.tuple [a,b,c]):=⟨⟨ha,h⟩,fun _ z=>z⟩
theorem bad_two {a b:PyData} (ha:leafB a=true) (hn:isS (Str.ofString "none") a=false) (hb:lenB b):BadD net wides sizes (.tuple [a,b]):=⟨⟨ha,hb⟩,fun _ z=>by
 have:=z.1
 rw [hn] at this
 cases this⟩
theorem bad_none {b:PyData} (hb:lenB b) (h:∀ asked,¬ NeverD net wides sizes asked b):BadD net wides sizes (.tuple [.str (Str.ofString "none"),b]):=⟨⟨rfl,hb⟩,fun asked z=>h asked z.2⟩
theorem bad_lays {ds:List PyData} {d:PyData} (hb:ds.length≤20000) (hd:d ∈ ds) (h:layDt (net.length:Int) wides sizes d=false):BadD net wides sizes (.tuple [.str (Str.ofString "none"),.list ds]):=
 bad_none hb fun asked z=>by
  have:=List.all_eq_true.mp z.1 d hd
  rw [h] at this
  cases this
theorem bad_no:BadD net wides sizes (.tuple [.str (Str.ofString "none"),.list []]):=bad_none (Nat.zero_le _) fun _ z=>nomatch z.2.1
theorem lays_no_plan {L:List La} {n k:Int} (ne:L ≠ []) (len:L.length≤20000):fst2B (.list (L.map layD))=true∧lenB (.list (L.map layD))∧plD n k (.list (L.map layD))=false:=by
 refine ⟨List.all_eq_true.mpr fun d hd=>?_,by show (L.map layD).length≤20000;rw [List.length_map];exact len,?_⟩
 ·obtain ⟨s,_,rfl⟩:=List.mem_map.mp hd
  rw [lay_la]
  cases s with
  | nil=>rfl
  | cons o s=>cases o <;> rfl
 ·cases L with
  | nil=>exact absurd rfl ne
  | cons s L=>
   show (movD n k (layD s) && _)=false
   have:movD n k (layD s)=false:=by
    rw [lay_la]
    match s with
    | []=>rfl
    | [_]=>rfl
    | [o,_]=>cases o <;> rfl
    | [o,_,_]=>cases o <;> rfl
    | _::_::_::_::_=>rfl
   rw [this]
   rfl
theorem lay_other {n:Int} {s:La} (h:s.length ≠ sizes.length):layDt n wides sizes (layD s)=false:=by
 rw [lay_la]
 show (decide ((s.map laD).length=sizes.length) && _)=false
 rw [List.length_map,decide_eq_false h]
 rfl
theorem lay_first {n:Int} {d:PyData} {ds:List PyData} (hd:d ≠ .none) (hb:belowB n d=false) (hs:sizes ≠ []):layDt n wides sizes (.tuple (d::ds))=false:=by
 obtain ⟨s,ss,rfl⟩:∃ s ss,sizes=s::ss:=by cases sizes with | nil=>exact absurd rfl hs | cons s ss=>exact ⟨s,ss,rfl⟩
 show (decide _ && layS n wides [] (s::ss) (d::ds))=false
 rw [layS_bad hd hb,Bool.and_false]
end
def rem (H:Hp) (a:Addr):Hp:=fun b=>if b=a then none else H b
theorem qCU {H:Hp} {a:Addr}:Same (rem H a) H:=fun b o e=>by
 unfold rem at e
 by_cases c:b=a
 ·rw [if_pos c] at e;cases e
 ·rw [if_neg c] at e;exact e
theorem rem_free {H:Hp} {a:Addr}:rem H a a=none:=if_pos rfl
theorem rem_in {H:Hp} {a b:Addr} (h:b ≠ a):rem H a b=H b:=if_neg h
theorem rem_same {H H':Hp} {a:Addr} (s:Same H H'):Same (rem H a) (rem H' a):=fun b o e=>by
 by_cases c:b=a
 ·rw [c,rem_free] at e;cases e
 ·rw [rem_in c] at e ⊢;exact s _ _ e
theorem rem_upd {H:Hp} {a:Addr} {o:HO}:rem (upd H a o) a=rem H a:=funext fun b=>by
 by_cases c:b=a
 ·rw [c,rem_free,rem_free]
 ·rw [rem_in c,rem_in c,qA9 c]
theorem same_rem {H H':Hp} {a:Addr} (s:Same H H') (h:H a=none):Same H (rem H' a):=fun b o e=>by
 rw [rem_in fun z=>by rw [z,h] at e;cases e]
 exact s _ _ e
theorem qAI {H:Hp} {p:Addr} (h:H p=none) (o:HO):∃ G,upd H p o=G∧Same H G∧G p=some o:=⟨_,rfl,qA3 h o,qA1⟩
def AllBad (net:List (List Int)) (wides sizes:List Int) (H:Hp) (xs:List V):Prop:=∀ x ∈ xs,BadV net wides sizes H x
theorem AllBad.snoc {net:List (List Int)} {wides sizes:List Int} {H H':Hp} {xs:List V} {x:V} (h:AllBad net wides sizes H xs) (s:Same H H') (b:BadV net wides sizes H' x):AllBad net wides sizes H' (xs++[x]):=fun y hy=>(List.mem_append.mp hy).elim (fun z=>(h y z).same s) fun z=>by rw [List.mem_singleton.mp z];exact b
theorem AllBad.same {net:List (List Int)} {wides sizes:List Int} {H H':Hp} {xs:List V} (h:AllBad net wides sizes H xs) (s:Same H H'):AllBad net wides sizes H' xs:=fun y hy=>(h y hy).same s
def spThingsO:Sp:=fun vs H Q _=>∃ (sz l:Addr) (net:List (List Int)) (wides sizes:List Int) (rs:List Addr) (L:List La),vs=[.ref sz,.ref l]∧H sz=some (.tup (sizes.map V.int))∧net.length≤5∧2≤sizes.length∧sizes.length≤3∧H l=some (.lst (rs.map V.ref))∧LaysAt H rs L∧L ≠ []∧L.length≤216∧
 ∀ l' xs H',Same H H'→H l'=none→H' l'=some (.lst xs)→AllBad net wides sizes H' xs→Q (.ref l') H'
theorem cut_one {sizes:List Int} (k2:2≤sizes.length):¬ (HT.sIx ((l0 sizes).map oV).length 0 (some 1)=0∧HT.sIx ((l0 sizes).map oV).length ((l0 sizes).map oV).length none=((l0 sizes).map oV).length):=by
 rw [List.length_map,l0_len,show (1:Int)=((1:Nat):Int) from rfl,HT.sIx_nat]
 rintro ⟨z,_⟩
 lia
theorem cut_other {sizes:List Int} (k2:2≤sizes.length):(cutI (l0 sizes) (some 1) none).length ≠ sizes.length:=by
 rw [show (1:Int)=((1:Nat):Int) from rfl,cutI_from _ _ (by rw [l0_len];lia),List.length_drop,l0_len]
 lia
theorem qBB {H:Hp} {p a:Addr} {u:HO} (h:H p=none) (ga:H a=some u) (o:HO):∃ G,upd H p o=G∧Same H G∧G a=some u∧Same (rem H a) (rem G a)∧rem G a p=some o:=by
 have ne:p ≠ a:=fun z=>by rw [z,ga] at h;cases h
 exact ⟨_,rfl,qA3 h o,by rw [qA9 ne.symm];exact ga,rem_same (qA3 h o),by rw [rem_in ne];exact qA1⟩
theorem WFn.take {net:List (List Int)} (h:WFn net) (n:Nat):WFn (net.take n):=fun i zs e=>h i zs (by
 rw [List.getElem?_take] at e
 by_cases c:i<n
 ·rwa [if_pos c] at e
 ·rw [if_neg c] at e;cases e)
theorem TKit.cut {H:Hp} {a wd sz a' wd' sz':Addr} {net:List (List Int)} {wides sizes sizes':List Int} {rs:List Addr} (T:TKit H a wd sz net wides sizes) (nl:NetL H rs net) (ga:H a'=some (.tup ((rs.take 5).map V.ref))) (gw:H wd'=some (.tup ((wides.take 5).map V.int))) (gs:H sz'=some (.tup (sizes'.map V.int))) (k1:1≤sizes'.length) (k5:sizes'.length≤5) (s9:∀ x ∈ sizes',0≤x∧x≤99) :
  TKit H a' wd' sz' (net.take 5) (wides.take 5) sizes':=
 ⟨⟨_,ga,paired_take 5 nl⟩,T.wf.take 5,by have:=T.n1;rw [List.length_take];lia,by rw [List.length_take];lia,gw,by rw [List.length_take,List.length_take,T.lw],fun x hx=>T.w9 x (List.mem_of_mem_take hx),gs,k1,k5,s9⟩
theorem ComeO.lk {net:List (List Int)} {wides sizes:List Int} {ks:List La} {f:La→Nat} (h:ComeO net wides sizes ks f):∀ s ∈ ks,Lk net sizes s:=fun s hs=>(h.snd s hs).1.lay
theorem ComeO.ne {net:List (List Int)} {wides sizes:List Int} {ks:List La} {f:La→Nat} (h:ComeO net wides sizes ks f):ks ≠ []:=fun z=>by
 have:=h.all 0 _ .zero
 rw [z] at this
 cases this
theorem kvC_keys {ks:List La} {f:La→Nat} {P:La→Prop} (h:∀ s ∈ ks,P s):∀ kv ∈ kvC ks f,∃ s,kv.1=keyO s∧P s:=fun kv hk=>by
 obtain ⟨s,hs,rfl⟩:=List.mem_map.mp hk
 exact ⟨s,rfl,h s hs⟩
theorem kvC_ne {ks:List La} {f:La→Nat} (h:ks ≠ []):kvC ks f ≠ []:=fun z=>h (List.map_eq_nil_iff.mp z)
section
variable {P:Program} {w:World} {K:PySem.W.Frag} {mg:Str→Option Value} {base:Heap} {f:Addr} {fd:FuncData} {f_Ltake f_Lsome_needs f_Ltree_net f_has_all f_fault_of_do f_fault_there f_layout_behind f_Lput f_Lall_moves f_Lfault f_Lnet f_is_number f_is_below f_is_layout f_moves_there f_is_pair f_never_there f_does_there f_Lhas_all f_Lfits f_shows_there f_Ljudged f_Lmixed f_Lall_fitting f_Lone_more f_Lclosed f_Lbegin f_Lthere f_Lasked f_Lcome_there f_Lothers f_Lshown_right f_Lthings:Addr} {fd_Ltake fd_Lsome_needs fd_Ltree_net fd_has_all fd_fault_of_do fd_fault_there fd_layout_behind fd_Lput fd_Lall_moves fd_Lfault fd_Lnet fd_is_number fd_is_below fd_is_layout fd_moves_there fd_is_pair fd_never_there fd_does_there fd_Lhas_all fd_Lfits fd_shows_there fd_Ljudged fd_Lmixed fd_Lall_fitting fd_Lone_more fd_Lclosed fd_Lbegin fd_Lthere fd_Lasked fd_Lcome_there fd_Lothers fd_Lshown_right fd_Lthings:FuncData}
theorem sc_Lbegin:FnScope ["_law_script","_law_cells"] ["_law_script"] (defScope s_Lbegin):=sc_mk
theorem ok_Lbegin (F:Fun K "_law_begin" "_law_begin" s_Lbegin f fd) (z_list:mg "list" = none):FnOk P w K mg base CX0 1 f fd ["_law_script"] (spBegin K):=by
 refine F.okA sc_Lbegin fun cdv A outer s H vs Q E hr h=>?_
 obtain ⟨a,ns,rfl,hS,h63,q⟩:=h
 have hu:=hu_of hr
 have hu0:=hr.units0
 refine ⟨_,(qA4 (qAB (i:=1) sc_Lbegin.nd rfl (Or.inl rfl) (qAD qC8 rfl z_list qBS (qA0 (qB3 sl_list (pv 0) qBE (qB9 qA7)) qA2))) (qA4 (ps_if (qAF (op_eq_nil hu0) (pv 1) (qAK qA2) (nomark _)) (qA5 (qAB (i:=1) sc_Lbegin.nd rfl (Or.inl rfl) (qAK (qA0 qA7 qA2)))) qAH) (qA5 (qAE (pe_disp (pps_cons qAT (pv 1) (pps_cons qAT qA7 pps_nil)) rfl rfl (by simp) (by decide)))))),?_⟩
 try dsimp only [Cx.nox,Cx.wish,cxOf]
 refine ⟨_,rfl,_,rfl,a,_,rfl,hS,fun p hp=>?_⟩
 rw [qB4]
 have hl:(cutI ns none (some 63)).length≤63:=Nat.le_trans (cutI_len _ _ _) h63
 refine ⟨p,_,rfl,.inl (SqL.of qA1),fun c hc=>?_⟩
 have s1:Same H (upd (upd H p (.lst ((cutI ns none (some 63)).map V.int))) c (.lst ((cutI ns none (some 63)).map V.int))):=(qA3 hp _).trans (qA3 hc _)
 refine ⟨_,rfl,(by show 0≤sizeLine;decide),fun e he=>?_⟩
 have hce:c ≠ e:=qA6 qA1 he
 refine ⟨c,e,_,rfl,rfl,SqL.of (by rw [qA9 hce];exact qA1),SqL.of qA1,_,rfl,?_⟩
 have s2:=s1.trans (qA3 he (.lst []))
 cases hm:cutI ns none (some 63) with
 | nil=>
  rw [hm] at s2 he
  refine iteT ?_
  refine ⟨(by show 1≤sizeLine;decide),fun c2 hc2=>?_⟩
  have s3:=s2.trans (qA3 hc2 (.lst [.int 7]))
  intro d hd
  refine ⟨_,rfl,?_⟩
  have s4:=s3.trans (qA3 hd (.dK []))
  refine ⟨qA1,[(Sum.inr (Str.ofString "cells"),.ref c2),(Sum.inr (Str.ofString "turn"),.int 0)],rfl,(by show 2≤15;decide),?_⟩
  have ncd:c2 ≠ d:=qA6 qA1 hd
  refine q d c2 [7] _ ⟨?_,?_,by decide,by decide,by decide⟩ ?_ ?_ ?_
  ·rw [qA1,merge2]
  ·rw [qA9 ncd,qA9 ncd];exact qA1
  ·rw [upd_upd];exact s3.trans (qA3 hd _)
  ·exact s3.free hd
  ·exact s2.free hc2
 | cons x r=>
  rw [hm] at s2 he hl
  refine iteF ?_
  intro d hd
  refine ⟨_,rfl,?_⟩
  refine ⟨qA1,[(Sum.inr (Str.ofString "cells"),.ref c),(Sum.inr (Str.ofString "turn"),.int 0)],rfl,(by show 2≤15;decide),?_⟩
  have gc:(upd (upd (upd H p (.lst ((x::r).map V.int))) c (.lst ((x::r).map V.int))) e (.lst [])) c=some (.lst ((x::r).map V.int)):=by rw [qA9 hce];exact qA1
  have ncd:c ≠ d:=qA6 gc hd
  refine q d c (x::r) _ ⟨?_,?_,by simp,hl,by decide⟩ ?_ ?_ ?_
  ·rw [qA1,merge2]
  ·rw [qA9 ncd,qA9 ncd];exact gc
  ·rw [upd_upd];exact s2.trans (qA3 hd _)
  ·exact s2.free hd
  ·rw [hm] at hc;exact (qA3 hp _).free hc
theorem sc_Ltake:FnScope ["_law_state","_law_many","_law_turn","_law_place","_law_cell","_law_digit","_law_mixed_here"] ["_law_state","_law_many"] (defScope s_Ltake):=sc_mk
theorem ok_Ltake (F:Fun K "_law_take" "_law_take" s_Ltake f fd) (z_len:mg "len" = none) (z_divmod:mg "divmod" = none):FnOk P w K mg base CX0 1 f fd ["_law_state","_law_many"] spTake:=by
 refine F.okA sc_Ltake fun cdv A outer s H vs Q E hr h=>?_
 obtain ⟨d,c,t,ns,m,rfl,S,ht,hm1,hm2,q⟩:=h
 have hu:=hu_of hr
 refine ⟨_,(qA4 (qAB (i:=2) sc_Ltake.nd rfl (Or.inl rfl) (pe_op qBQ (pe_dget hu (pv 0) qAT (fun _ _=>rfl)) qA7)) (qA4 (ps_dput hu (pv 0) qAT (pv 2) rfl) (qA4 (qAB (i:=3) sc_Ltake.nd rfl (Or.inl rfl) (pe_op op_mod (pv 2) (qAA qA8 rfl z_len qAQ (qA0 (pe_dget hu (pv 0) qAT (fun _ _=>rfl)) qA2)))) (qA4 (qAB (i:=4) sc_Ltake.nd rfl (Or.inl rfl) (pe_ix qCC (pe_dget hu (pv 0) qAT (fun _ _=>rfl)) (pv 3) (fun _ _=>rfl))) (qA4 (ps_if (qAF op_ge (pv 4) (pe_op op_pow qA7 qA7) (nomark _)) (qA4 (ps_asg (qAA call_divmod rfl z_divmod bt_divmod (qA0 (pv 4) (qA0 (pv 1) qA2))) (pg_tup rfl (qB2 (pg_sub (pe_dget hu (pv 0) qAT (fun _ _=>rfl)) (pv 3) set_list) (qB2 (qAN (i:=5) sc_Ltake.nd rfl (Or.inl rfl)) pgs_nil)))) (qA5 (qAE (pv 5)))) qAH) (qA4 (qAB (i:=6) sc_Ltake.nd rfl (Or.inl rfl) (pe_op op_mod (pe_op op_mul (pe_op qBQ (pe_op qBQ (pe_op op_mod (pv 4) qA7) (pe_op op_mul (pe_op op_mul (pv 2) (pv 2)) qA7)) qA7) qA7) qA7)) (qA4 (qAB (i:=6) sc_Ltake.nd rfl (Or.inl rfl) (pe_op op_mod (pe_op op_mul (pv 6) (pv 6)) qA7)) (qA5 (qAE (pe_op op_mod (pe_op op_fdiv (pe_op op_mod (pe_op op_mul (pe_op qBQ (pv 6) (pe_op op_mul (pv 2) qA7)) qA7) qA7) qA7) (pv 1))))))))))),?_⟩
 try dsimp only [Cx.nox,Cx.wish,cxOf]
 have hpos:=S.pos
 have hne:=S.ne
 have ht':t≤1000000000:=ht
 refine ⟨_,rfl,d,_,rfl,dg_turn S,_,_,rfl,rfl,?_⟩
 refine ⟨_,rfl,_,rfl,d,_,rfl,dp_turn S,?_⟩
 have S1:=S.turn (u:=t+1) (by lia)
 have k1:Keep d c H (upd H d (.dK [(Sum.inr (Str.ofString "cells"),.ref c),(Sum.inr (Str.ofString "turn"),.int (t+1))])):=fun b o e n _=>by rw [qA9 n];exact e
 generalize upd H d (.dK [(Sum.inr (Str.ofString "cells"),.ref c),(Sum.inr (Str.ofString "turn"),.int (t+1))])=H1 at S1 k1
 have hlen:(((ns.map V.int).length:Nat):Int)=(ns.length:Int):=by rw [List.length_map]
 refine ⟨_,rfl,_,rfl,d,_,rfl,dg_cells S1,c,_,rfl,.inl (SqL.of S1.list),_,_,rfl,rfl,(by rw [hlen];lia),?_⟩
 have p0:0≤(t+1) % (((ns.map V.int).length:Nat):Int):=Int.emod_nonneg _ (by rw [hlen];lia)
 have p1:(t+1) % (((ns.map V.int).length:Nat):Int)<(ns.length:Int):=by
  have:=Int.emod_lt_of_pos (t+1) (b:=(((ns.map V.int).length:Nat):Int)) (by rw [hlen];lia)
  rw [hlen] at this ⊢
  exact this
 dsimp only
 generalize (t+1) % (((ns.map V.int).length:Nat):Int)=pl at p0 p1
 obtain ⟨j,rfl⟩:∃ j:Nat,pl=(j:Int):=⟨pl.toNat,by lia⟩
 have hj:j<ns.length:=by lia
 have hat:atI (ns.map V.int) (j:Int)=some (.int ns[j]):=atI_nat (by rw [List.getElem?_map,List.getElem?_eq_getElem hj];rfl)
 refine ⟨_,rfl,d,_,rfl,dg_cells S1,_,rfl,c,_,_,_,rfl,rfl,SqL.of S1.list,hat,?_⟩
 generalize hx:ns[j]=x at hat ⊢
 refine ⟨_,rfl,_,_,rfl,rfl,⟨by decide,by decide,by decide⟩,_,_,rfl,rfl,_,rfl,?_⟩
 refine ite2 (fun _=>?_) (fun _=>?_)
 ·-- a great cell
  refine ⟨_,rfl,_,rfl,x,m,rfl,⟨by lia,by lia⟩,fun p hp=>?_⟩
  have S2:=S1.new hp (.tup [.int (x / m),.int (x % m)])
  have npc:p ≠ c:=(qA6 S1.list hp).symm
  refine ⟨p,_,rfl,SqT.of qA1,rfl,_,_,rfl,?_⟩
  refine ⟨_,rfl,d,_,rfl,dg_cells S2,_,rfl,c,_,_,j,rfl,rfl,S2.list,ixN_nat (by rw [List.length_map];exact hj),?_⟩
  refine ⟨_,_,rfl,rfl,?_⟩
  refine ⟨_,rfl,?_⟩
  have e1:(ns.map V.int).set j (.int (x / m))=(ns.set j (x / m)).map V.int:=by rw [List.map_set]
  rw [e1]
  refine q (x % m) (ns.set j (x / m)) _ (Int.emod_nonneg _ (by lia)) (Int.emod_lt_of_pos _ (by lia)) (S2.put (by rw [List.length_set])) ?_
  have k2:=k1.trans (qBN (d:=d) (c:=c) hp (.tup [.int (x / m),.int (x % m)]))
  exact fun b o e n1 n2=>by rw [qA9 n2];exact k2 b o e n1 n2
 ·have b1:0≤x % 2147483629:=Int.emod_nonneg _ (by decide)
  have b2:x % 2147483629<2147483629:=Int.emod_lt_of_pos _ (by decide)
  refine ⟨_,rfl,_,_,rfl,rfl,(by show (0:Int)<2147483629;decide),_,rfl,_,rfl,_,_,rfl,rfl,.inl ⟨by lia,by lia⟩,_,_,rfl,rfl,.inr ⟨by decide,by decide⟩,_,_,rfl,rfl,_,_,rfl,rfl,_,_,rfl,rfl,.inr ⟨by decide,by decide⟩,_,_,rfl,rfl,(by show (0:Int)<2147483647;decide),?_⟩
  have c1:=Int.emod_nonneg ((x % 2147483629+(t+1) * (t+1) * 7919+11) * 48271) (b:=2147483647) (by decide)
  have c2:=Int.emod_lt_of_pos ((x % 2147483629+(t+1) * (t+1) * 7919+11) * 48271) (b:=2147483647) (by decide)
  dsimp only
  generalize ((x % 2147483629+(t+1) * (t+1) * 7919+11) * 48271) % 2147483647=y at c1 c2
  refine ⟨_,rfl,_,rfl,_,_,rfl,rfl,.inl ⟨by lia,by lia⟩,_,_,rfl,rfl,(by show (0:Int)<2147483587;decide),?_⟩
  dsimp only
  generalize y * y % 2147483587=z
  refine ⟨_,rfl,_,rfl,_,_,rfl,rfl,.inr ⟨by decide,by decide⟩,_,_,rfl,rfl,_,_,rfl,rfl,.inr ⟨by decide,by decide⟩,_,_,rfl,rfl,(by show (0:Int)<2147483629;decide),_,_,rfl,rfl,⟨by decide,by decide⟩,_,rfl,_,_,rfl,rfl,(by lia),?_⟩
  exact q _ ns _ (Int.emod_nonneg _ (by lia)) (Int.emod_lt_of_pos _ (by lia)) S1 k1
theorem sc_Lsome_needs:FnScope ["_law_state","_law_k","_law_found","_law_turn","_law_far"] ["_law_state","_law_k"] (defScope s_Lsome_needs):=sc_mk
theorem ok_Lsome_needs (F:Fun K "_law_some_needs" "_law_some_needs" s_Lsome_needs f fd) (C_Ltake:Clb P w K mg base 1 f_Ltake fd_Ltake "_law_take" ["_law_state","_law_many"] spTake)
  (z_range:mg "range" = none) (z_min:mg "min" = none) (z_tuple:mg "tuple" = none) (z_sorted:mg "sorted" = none) (z_set:mg "set" = none):FnOk P w K mg base CX0 2 f fd ["_law_state","_law_k"] spNeeds:=by
 refine F.okA sc_Lsome_needs fun cdv A outer s H vs Q E hr h=>?_
 obtain ⟨d,c,t,ns,k,rfl,S,ht,hk0,hk1,q⟩:=h
 have ht':t≤1000000000 - 20:=ht
 have hr_Ltake:Room 1 _:=hr
 refine ⟨_,(qA4 (qAB (i:=2) sc_Lsome_needs.nd rfl (Or.inl rfl) (qAK qA2)) (qA4 (qB5 PassesOwn.never rfl (qAO rfl z_range (qA0 (pe_cl C_Ltake hr rfl (qA0 (pv 0) (qA0 qA7 qA2))) qA2)) (qAN (i:=3) sc_Lsome_needs.nd rfl (Or.inl rfl)) (qA4 (qAB (i:=4) sc_Lsome_needs.nd rfl (Or.inl rfl) (pe_ix qCC (qAK (qA0 (qAA (call_min2 rfl) rfl z_min bt_min (qA0 (pv 1) (qA0 qA7 qA2))) (qA0 (pv 1) qA2))) (pe_op op_fdiv (pe_cl C_Ltake hr rfl (qA0 (pv 0) (qA0 qA7 qA2))) qA7) (fun _ _=>rfl))) (qA5 (ps_if (qAF op_gt (pv 1) qA7 (nomark _)) (qA5 (qBJ (pe_bm PySem.F.plainAttrs_list PySem.F.slot_list_append PySem.F.type_list_append qB6 (pv 2) (qA0 (pe_op qCX (pe_op qCX (pv 1) qA7) (pe_cl C_Ltake hr rfl (qA0 (pv 0) (qA0 (pv 4) qA2)))) qA2)))) qAH)))) (qA5 (qAE (qAD qAL rfl z_tuple qAV (qA0 (qAA (qDF rfl) rfl z_sorted bt_sorted (qA0 (qAD (call_set rfl) rfl z_set bt_set (qA0 (pv 2) qA2)) qA2)) qA2)))))),?_⟩
 try dsimp only [Cx.nox,Cx.wish,cxOf]
 refine cut fun N0 hN0=>?_
 refine ⟨(by show 0≤sizeLine;decide),fun fo hfo=>?_⟩
 have S1:=S.new hfo (.lst [])
 have nd:fo ≠ d:=(qA6 S.dict hfo).symm
 have nc:fo ≠ c:=(qA6 S.list hfo).symm
 refine hN0 _ _ (cut fun N1 hN1=>?_)
 refine ⟨_,rfl,d,c,t,ns,5,rfl,S1,(by show t≤1000000000;lia),by decide,by decide,fun j ns1 H1 j0 j5 S2 K2=>?_⟩
 refine ⟨j,rfl,by lia,by lia,qB8 (lo:=0) (n:=j.toNat) (fun i σ Hc=>∃ (t':Int) (ms fs:List Int) (v1 v2:Option V),σ=[some (.ref d),some (.int k),some (.ref fo),v1,v2]∧StAt Hc d c t' ms∧t≤t'∧t'≤t+1+2 * i∧Keep d c H Hc∧
  Hc fo=some (.lst (fs.map V.int))∧fs.length≤i∧∀ x ∈ fs,0≤x∧x<k)
  ⟨t+1,ns1,[],none,none,rfl,S2,by lia,by lia,(qBN hfo _).trans K2,K2 _ _ qA1 nd nc,Nat.le_refl _,fun _ z=>nomatch z⟩ ?_ ?_⟩
 ·refine fun i σ Hc hi hI_1=>opq fun G_1 hG_1=>?_
  obtain ⟨t',ms,fs,v1,v2,rfl,S3,a1,a2,K3,h3,l3,m3⟩:=hI_1
  refine hG_1 ?_
  have hi5:(i:Int)<5:=by lia
  -- far
  refine nmD fun D1 d1 dr=>cut fun M0 hM0=>?_
  refine ⟨_,rfl,k,4,rfl,_,rfl,(by show 2≤sizeLine;decide),fun p hp=>?_⟩
  have S4:=S3.new hp (.lst [.int (if (4:Int)<k then 4 else k),.int k])
  have npd:p ≠ d:=(qA6 S3.dict hp).symm
  have npc:p ≠ c:=(qA6 S3.list hp).symm
  refine ⟨_,rfl,d,c,t',ms,4,rfl,S4,(by show t'≤1000000000;lia),by decide,by decide,fun k2 ms2 H2 g0 g4 S5 K5=>?_⟩
  obtain ⟨far,hfar,ef⟩:=pick2 (a:=if (4:Int)<k then 4 else k) (b:=k) g0 g4
  have far1:far≤k:=by rcases ef with e | e <;> (subst e;first | lia | (split <;> lia))
  have far2:0<k→1≤far:=fun hk=>by rcases ef with e | e <;> (subst e;first | lia | (split <;> lia))
  refine ⟨_,_,rfl,rfl,⟨by decide,by decide⟩,p,_,_,_,rfl,rfl,SqL.of (K5 _ _ qA1 npd npc),hfar,?_⟩
  have K6:=K3.trans ((qBN (d:=d) (c:=c) hp (.lst [.int (if (4:Int)<k then 4 else k),.int k])).trans K5)
  have h6:H2 fo=some (.lst (fs.map V.int)):=K5 _ _ (by rw [qA9 (qA6 h3 hp)];exact h3) nd nc
  refine hM0 _ _ ?_
  refine ⟨_,rfl,_,_,rfl,rfl,_,rfl,?_⟩
  refine ite2 (fun ck=>?_) (fun ck=>?_)
  ·have hk:0<k:=of_decide_eq_true ck
   refine ⟨_,rfl,.inl ⟨rfl,_,SqL.of h6⟩,_,rfl,_,_,rfl,rfl,_,rfl,_,rfl,d,c,t'+1,ms2,far,rfl,S5,(by show t'+1≤1000000000;lia),far2 hk,by lia,fun k3 ms3 H3 c0 c1 S6 K7=>?_⟩
   have h7:=K7 _ _ h6 nd nc
   refine ⟨_,_,rfl,rfl,fo,_,_,rfl,rfl,h7,small1000 (by rw [List.length_map];lia),?_⟩
   have S8:StAt (upd H3 fo (.lst (fs.map V.int++[.int (k - 1 - k3)]))) d c (t'+1+1) ms3:=⟨by rw [qA9 (Ne.symm nd)];exact S6.dict,by rw [qA9 (Ne.symm nc)];exact S6.list,S6.ne,S6.len,S6.pos⟩
   have hH:H fo=none:=hfo
   refine d1 _ _ ⟨t'+1+1,ms3,fs++[k - 1 - k3],_,_,rfl,S8,by lia,by lia,fun b o e n1 n2=>?_,?_,?_,fun x hx=>?_⟩
   ·rw [qA9 (qA6 e hH)];exact (K6.trans K7) b o e n1 n2
   ·rw [qA1,List.map_append];rfl
   ·rw [List.length_append,List.length_singleton];lia
   ·rcases List.mem_append.mp hx with hx | hx
    ·exact m3 x hx
    ·rw [List.mem_singleton.mp hx];lia
  ·exact d1 _ _ ⟨t'+1,ms2,fs,_,_,rfl,S5,by lia,by lia,K6,h6,by lia,m3⟩
 ·refine fun σ Hc hI_2=>opq fun G_2 hG_2=>?_
  obtain ⟨t',ms,fs,v1,v2,rfl,S3,a1,a2,K3,h3,l3,m3⟩:=hI_2
  refine hG_2 ?_
  refine hN1 _ _ ?_
  refine ⟨_,rfl,fo,fs,rfl,SqL.of h3,by lia,fun a ha=>?_⟩
  have sm1:=qA3 ha (SetO w a (dedI fs))
  refine ⟨a,dedI fs,rfl,.inr (.inr qA1),Nat.lt_of_le_of_lt (dedI_len fs) (by lia),fun b zs hb hp hs=>?_⟩
  have sm2:=sm1.trans (qA3 hb (.lst (zs.map V.int)))
  refine ⟨b,_,rfl,.inl ⟨SqL.of qA1,fun r hr'=>?_⟩⟩
  have sm3:=sm2.trans (qA3 hr' (.tup (zs.map V.int)))
  exact q r zs t' ms _ (S3.same sm3) (by lia) (by lia) (K3.trans (.of_same sm3)) qA1 (rise_set hp hs m3)
theorem sc_Ltree_net:FnScope ["_law_state","_law_many","_law_open_ones","_law_found","_law_k","_law_so_many"] ["_law_state","_law_many"] (defScope s_Ltree_net):=sc_mk
theorem ok_Ltree_net (F:Fun K "_law_tree_net" "_law_tree_net" s_Ltree_net f fd) (C_Ltake:Clb P w K mg base 1 f_Ltake fd_Ltake "_law_take" ["_law_state","_law_many"] spTake)
  (z_range:mg "range" = none) (z_min:mg "min" = none) (z_tuple:mg "tuple" = none) (z_len:mg "len" = none):FnOk P w K mg base CX0 2 f fd ["_law_state","_law_many"] spTree:=by
 refine F.okA sc_Ltree_net fun cdv A outer s H vs Q E hr h=>?_
 obtain ⟨d,c,t,ns,m,rfl,S,ht,hm0,hm1,q⟩:=h
 have ht':t≤1000000000 - 1000:=ht
 have hr_Ltake:Room 1 _:=hr
 refine ⟨_,(qA4 (qAB (i:=2) sc_Ltree_net.nd rfl (Or.inl rfl) (qAK qA2)) (qA4 (qAB (i:=3) sc_Ltree_net.nd rfl (Or.inl rfl) (qAK qA2)) (qA4 (qB5 PassesOwn.never rfl (qAO rfl z_range (qA0 (pe_op qCX (pv 1) qA7) qA2)) (qAN (i:=4) sc_Ltree_net.nd rfl (Or.inl rfl)) (qA4 (qAB (i:=5) sc_Ltree_net.nd rfl (Or.inl rfl) (qAA (call_min2 rfl) rfl z_min bt_min (qA0 (qAA qA8 rfl z_len qAQ (qA0 (pv 2) qA2)) (qA0 (pe_ix qCC (qAK (qA0 qA7 (qA0 qA7 (qA0 qA7 (qA0 qA7 (qA0 qA7 (qA0 qA7 qA2))))))) (pe_cl C_Ltake hr rfl (qA0 (pv 0) (qA0 qA7 qA2))) (fun _ _=>rfl)) qA2)))) (qA4 (qBJ (pe_bm PySem.F.plainAttrs_list PySem.F.slot_list_append PySem.F.type_list_append qB6 (pv 3) (qA0 (qAD qAL rfl z_tuple qAV (qA0 (qB3 sl_list (pv 2) (qB9 (pe_op qCX (qAA qA8 rfl z_len qAQ (qA0 (pv 2) qA2)) (pv 5))) qBE) qA2)) qA2))) (qA5 (qAB (i:=2) sc_Ltree_net.nd rfl (Or.inl rfl) (pe_op qCG (qB3 sl_list (pv 2) qBE (qB9 (pe_op qCX (qAA qA8 rfl z_len qAQ (qA0 (pv 2) qA2)) (pv 5)))) (qAK (qA0 (pv 4) qA2)))))))) (qA5 (qAE (qAD qAL rfl z_tuple qAV (qA0 (pe_op qCG (pv 3) (qAK (qA0 (qAD qAL rfl z_tuple qAV (qA0 (pv 2) qA2)) qA2))) qA2))))))),?_⟩
 try dsimp only [Cx.nox,Cx.wish,cxOf]
 refine cut fun N0 hN0=>?_
 refine ⟨(by show 0≤sizeLine;decide),fun o0 ho0=>?_⟩
 refine hN0 _ _ (cut fun N1 hN1=>?_)
 have S1:=S.new ho0 (.lst [])
 refine ⟨(by show 0≤sizeLine;decide),fun fo hfo=>?_⟩
 have S2:=S1.new hfo (.lst [])
 have nd:fo ≠ d:=(qA6 S1.dict hfo).symm
 have nc:fo ≠ c:=(qA6 S1.list hfo).symm
 have no0:o0 ≠ fo:=qA6 qA1 hfo
 have hF:H fo=none:=(qA3 ho0 _).free hfo
 refine hN1 _ _ (cut fun N2 hN2=>?_)
 refine ⟨_,rfl,_,_,rfl,rfl,m - 1,rfl,by lia,by lia,qB8 (lo:=0) (n:=(m - 1).toNat) (fun i σ Hc=>∃ (t':Int) (ms os:List Int) (o:Addr) (rs:List Addr) (net:List (List Int)) (v1 v2:Option V),σ=[some (.ref d),some (.int m),some (.ref o),some (.ref fo),v1,v2]∧StAt Hc d c t' ms∧t≤t'∧t'≤t+i∧Keep d c H Hc∧
  Hc o=some (.lst (os.map V.int))∧(o ≠ fo∧o ≠ c)∧Hc fo=some (.lst (rs.map V.ref))∧NetL Hc rs net∧net.length=i∧WFn net∧Rise (i:Int) os)
  ⟨t,ns,[],o0,[],[],none,none,rfl,S2,by lia,by lia,(qBN ho0 _).trans (qBN hfo _),by rw [qA9 no0];exact qA1,⟨no0,(qA6 S.list ho0).symm⟩,qA1,.nil,rfl,WFn.nil,Rise.nil⟩ ?_ ?_⟩
 ·refine fun i σ Hc hi hI_3=>opq fun G_3 hG_3=>?_
  obtain ⟨t',ms,os,o,rs,net,v1,v2,rfl,S3,a1,a2,K3,h3,⟨n3,n3c⟩,f3,N3,l3,w3,r3⟩:=hI_3
  refine hG_3 ?_
  have hlo:os.length≤i:=r3.len
  refine nmD fun D1 d1 dr=>cut fun M0 hM0=>?_
  refine ⟨_,rfl,o,_,rfl,.inl (SqL.of h3),(by show 6≤sizeLine;decide),fun p hp=>?_⟩
  have S4:=S3.new hp (.lst [.int 0,.int 0,.int 1,.int 2,.int 2,.int 3])
  have npd:p ≠ d:=(qA6 S3.dict hp).symm
  have npc:p ≠ c:=(qA6 S3.list hp).symm
  refine ⟨_,rfl,d,c,t',ms,6,rfl,S4,(by show t'≤1000000000;lia),by decide,by decide,fun k2 ms2 H2 g0 g6 S5 K5=>?_⟩
  obtain ⟨v,hv,v0,v3⟩:=pick6 g0 g6
  refine ⟨p,_,_,_,rfl,rfl,SqL.of (K5 _ _ qA1 npd npc),hv,?_⟩
  have sm:Same Hc (upd Hc p (.lst [.int 0,.int 0,.int 1,.int 2,.int 2,.int 3])):=qA3 hp _
  have K6:=(Keep.of_same (d:=d) (c:=c) sm).trans K5
  have nod:o ≠ d:=ne_of h3 S3.dict (by intro z;cases z)
  have h6:H2 o=some (.lst (os.map V.int)):=K6 _ _ h3 nod n3c
  have f6:H2 fo=some (.lst (rs.map V.ref)):=K6 _ _ f3 nd nc
  have N6:NetL H2 rs net:=N3.keep (fun r zs e=>S3.tup e) K6
  refine ⟨_,_,rfl,?_⟩
  dsimp only
  have so0:0≤(if v<(((os.map V.int).length:Nat):Int) then v else (((os.map V.int).length:Nat):Int)):=by split <;> lia
  have so1:(if v<(((os.map V.int).length:Nat):Int) then v else (((os.map V.int).length:Nat):Int))≤(os.length:Int):=by rw [List.length_map];split <;> lia
  generalize (if v<(((os.map V.int).length:Nat):Int) then v else (((os.map V.int).length:Nat):Int))=so at so0 so1
  obtain ⟨kk,ek⟩:∃ kk:Nat,(os.length:Int) - so=(kk:Int):=⟨((os.length:Int) - so).toNat,by lia⟩
  have ek':(((os.map V.int).length:Nat):Int) - so=(kk:Int):=by rw [List.length_map];exact ek
  have hkk:kk≤os.length:=by lia
  -- found.append(tuple(open_ones[len(open_ones) - so_many:]))
  refine hM0 _ _ (cut fun M1 hM1=>?_)
  refine ⟨_,rfl,.inl ⟨rfl,_,SqL.of f6⟩,_,rfl,_,rfl,o,_,rfl,.inl (SqL.of h6),_,rfl,_,_,rfl,rfl,_,rfl,o,_,rfl,SqL.of h6,fun p1 hp1=>?_⟩
  refine ⟨p1,_,rfl,.inl ⟨SqL.of qA1,fun r hr1=>?_⟩⟩
  rw [ek',qB4,cutI_from _ _ hkk] at hr1 ⊢
  have sm1:=(qA3 hp1 (.lst ((os.drop kk).map V.int))).trans (qA3 hr1 (.tup ((os.drop kk).map V.int)))
  have f7:=sm1 _ _ f6
  have h7:=sm1 _ _ h6
  have N7:NetL _ (rs++[r]) (net++[os.drop kk]):=qC7 (N6.same fun r zs e=>sm1 _ _ e) (show (upd (upd H2 p1 (.lst ((os.drop kk).map V.int))) r (.tup ((os.drop kk).map V.int))) r=some (.tup ((os.drop kk).map V.int)) from qA1)
  have S7:=S5.same sm1
  have K7:=K6.trans (.of_same sm1)
  generalize (upd (upd H2 p1 (.lst ((os.drop kk).map V.int))) r (.tup ((os.drop kk).map V.int)))=H7 at f7 h7 N7 S7 K7 ⊢
  refine ⟨fo,_,_,rfl,rfl,f7,small1000 (by rw [List.length_map,NetAt.len N3];lia),?_⟩
  have e8:rs.map V.ref++[V.ref r]=(rs++[r]).map V.ref:=by rw [List.map_append];rfl
  rw [e8]
  have S8:StAt (upd H7 fo (.lst ((rs++[r]).map V.ref))) d c (t'+1) ms2:=⟨by rw [qA9 (Ne.symm nd)];exact S7.dict,by rw [qA9 (Ne.symm nc)];exact S7.list,S7.ne,S7.len,S7.pos⟩
  have h8:(upd H7 fo (.lst ((rs++[r]).map V.ref))) o=some (.lst (os.map V.int)):=by rw [qA9 n3];exact h7
  have N8:NetL (upd H7 fo (.lst ((rs++[r]).map V.ref))) (rs++[r]) (net++[os.drop kk]):=N7.same fun r' zs e=>by rw [qA9 (ne_of e f7 (by intro z;cases z))];exact e
  have K8:Keep d c H (upd H7 fo (.lst ((rs++[r]).map V.ref))):=fun b u e n1 n2=>by rw [qA9 (qA6 e hF)];exact (K3.trans K7) b u e n1 n2
  have f8:(upd H7 fo (.lst ((rs++[r]).map V.ref))) fo=some (.lst ((rs++[r]).map V.ref)):=qA1
  generalize upd H7 fo (.lst ((rs++[r]).map V.ref))=H8 at S8 h8 N8 K8 f8 ⊢
  -- open_ones=open_ones[:len(open_ones) - so_many]+[k]
  refine hM1 _ _ ?_
  refine ⟨_,rfl,_,rfl,o,_,rfl,.inl (SqL.of h8),_,rfl,_,_,rfl,rfl,_,rfl,o,_,rfl,SqL.of h8,fun p2 hp2=>?_⟩
  rw [ek',qB4,cutI_to]
  refine ⟨_,rfl,(by show 1≤sizeLine;decide),fun p3 hp3=>?_⟩
  have n23:p2 ≠ p3:=qA6 qA1 hp3
  refine ⟨p2,p3,_,_,rfl,rfl,by rw [qA9 n23];exact qA1,qA1,Nat.le_of_lt (small1000 (by rw [List.length_map,List.length_take,List.length_singleton];lia)),fun p4 hp4=>?_⟩
  have sm2:=((qA3 hp2 (.lst ((os.take kk).map V.int))).trans (qA3 hp3 (.lst [.int (0+(i:Int))]))).trans (qA3 hp4 (.lst ((os.take kk).map V.int++[.int (0+(i:Int))])))
  have e9:(os.take kk).map V.int++[V.int (0+(i:Int))]=(os.take kk++[(i:Int)]).map V.int:=by rw [List.map_append,Int.zero_add];rfl
  have nf4:p4 ≠ fo:=(qA6 ((qA3 hp3 _) _ _ ((qA3 hp2 _) _ _ f8)) hp4).symm
  have nc4:p4 ≠ c:=(qA6 ((qA3 hp3 _) _ _ ((qA3 hp2 _) _ _ S8.list)) hp4).symm
  refine d1 _ _ ⟨t'+1,ms2,os.take kk++[(i:Int)],p4,rs++[r],net++[os.drop kk],_,_,rfl,S8.same sm2,by lia,by lia,K8.trans (.of_same sm2),by rw [← e9];exact qA1,⟨nf4,nc4⟩,sm2 _ _ f8,N8.same fun r' zs e=>sm2 _ _ e,by rw [List.length_append,List.length_singleton,l3],w3.snoc ?_,?_⟩
  ·rw [l3];exact r3.sub (List.drop_sublist _ _)
  ·have:=(r3.sub (List.take_sublist kk os)).snoc (by lia)
   rw [show ((i+1:Nat):Int)=(i:Int)+1 by lia]
   exact this
 ·refine fun σ Hc hI_4=>opq fun G_4 hG_4=>?_
  obtain ⟨t',ms,os,o,rs,net,v1,v2,rfl,S3,a1,a2,K3,h3,⟨n3,n3c⟩,f3,N3,l3,w3,r3⟩:=hI_4
  refine hG_4 ?_
  refine hN2 _ _ ?_
  refine ⟨_,rfl,_,rfl,o,_,rfl,.inl ⟨SqL.of h3,fun r hr1=>?_⟩⟩
  refine ⟨(by show 1≤sizeLine;decide),fun p hp=>?_⟩
  have sm1:=(qA3 hr1 (.tup (os.map V.int))).trans (qA3 hp (.lst [.ref r]))
  refine ⟨fo,p,_,_,rfl,rfl,sm1 _ _ f3,qA1,Nat.le_of_lt (small1000 (by rw [List.length_map,NetAt.len N3,List.length_singleton];lia)),fun p2 hp2=>?_⟩
  refine ⟨p2,_,rfl,.inl ⟨SqL.of qA1,fun a ha=>?_⟩⟩
  have sm2:=(sm1.trans (qA3 hp2 (.lst (rs.map V.ref++[.ref r])))).trans (qA3 ha (.tup (rs.map V.ref++[.ref r])))
  have gr:=(qA3 ha (.tup (rs.map V.ref++[.ref r]))) _ _ ((qA3 hp2 (.lst (rs.map V.ref++[.ref r]))) _ _ ((qA3 hp (.lst [.ref r])) r _ (qA1 (H:=Hc) (o:=.tup (os.map V.int)))))
  have e8:rs.map V.ref++[V.ref r]=(rs++[r]).map V.ref:=by rw [List.map_append];rfl
  refine q a (net++[os]) t' ms _ (S3.same sm2) (by lia) (by lia) (K3.trans (.of_same sm2)) ⟨rs++[r],by rw [← e8];exact qA1,qC7 (N3.same fun r' zs e=>sm2 _ _ e) gr⟩ (w3.snoc (by rw [l3];exact r3)) ?_
  rw [List.length_append,List.length_singleton,l3]
  lia
theorem sc_Lnet:FnScope ["_law_state","_law_many","_law_way","_law_wide","_law_some","_law_half"] ["_law_state","_law_many"] (defScope s_Lnet):=sc_mk
theorem ok_Lnet (F:Fun K "_law_net" "_law_net" s_Lnet f fd) (C_Ltake:Clb P w K mg base 1 f_Ltake fd_Ltake "_law_take" ["_law_state","_law_many"] spTake)
  (C_Lsome_needs:Clb P w K mg base 2 f_Lsome_needs fd_Lsome_needs "_law_some_needs" ["_law_state","_law_k"] spNeeds)
  (C_Ltree_net:Clb P w K mg base 2 f_Ltree_net fd_Ltree_net "_law_tree_net" ["_law_state","_law_many"] spTree)
  (z_range:mg "range" = none) (z_max:mg "max" = none) (z_int:mg "int" = none) (z_enumerate:mg "enumerate" = none) (z_tuple:mg "tuple" = none) (z_sorted:mg "sorted" = none) (z_set:mg "set" = none):FnOk P w K mg base CX0 3 f fd ["_law_state","_law_many"] spNet:=by
 refine F.okA sc_Lnet fun cdv A outer s H vs Q E hr h=>?_
 obtain ⟨d,c,t,ns,m,rfl,S,ht,hm0,hm1,q⟩:=h
 have ht':t≤1000000000 - 10000:=ht
 have hr_Lsome_needs:Room 2 _:=hr
 have hr_Ltree_net:Room 2 _:=hr
 refine ⟨_,(qA4 (qAB (i:=2) sc_Lnet.nd rfl (Or.inl rfl) (pe_cl C_Ltake hr rfl (qA0 (pv 0) (qA0 qA7 qA2)))) (qA4 (qAB (i:=3) sc_Lnet.nd rfl (Or.inr rfl) (pe_op qBQ qA7 (pe_cl C_Ltake hr rfl (qA0 (pv 0) (qA0 qA7 qA2))))) (qA4 (ps_if (qAF op_eq (pv 2) qA7 (nomark _)) (qA5 (qAE (qAD qAL rfl z_tuple qAV (qA0 (pe_lc rfl (lcs (own:=["_law_k"]) (fv:=[3]) (by kernel_rfl)) (qAO rfl z_range (qA0 (pv 1) qA2)) (fun z1=>pg_in 0) (fun z1=>qAY) (fun z1=>(qAD (call_tuple_rng rfl) rfl z_tuple qAV (qA0 (qAD call_rng2 rfl z_range bt_range (qA0 (qAA (call_max2 rfl) rfl z_max bt_max (qA0 qA7 (qA0 (pe_op qCX (pv 0) (pv 1)) qA2))) (qA0 (pv 0) qA2))) qA2)))) qA2)))) qAH) (qA4 (ps_if (qAF op_eq (pv 2) qA7 (nomark _)) (qA4 (ps_lc (i:=4) sc_Lnet.nd rfl rfl rfl (lcs (own:=["_law_k"]) (fv:=[3]) (by kernel_rfl)) (qAO rfl z_range (qA0 (pv 1) qA2)) (fun z2=>pg_in 0) (fun z2=>qAY) (fun z2=>(pe_op qCG (pe_op op_rep (qAK (qA0 (pe_op qCX (pv 0) (pv 1)) qA2)) (qAD call_int1 rfl z_int bt_int (qA0 (qCN op_ge (pv 0) (pv 1) (nomark _)) qA2))) (pe_op op_rep (qAK (qA0 (pe_op qCX (pv 0) qA7) qA2)) (qAD call_int1 rfl z_int bt_int (qA0 (qCN op_gt (pe_op op_mod (pv 0) (pv 1)) qA7 (nomark _)) qA2))))) (by kernel_rfl)) (qA5 (qAE (qAD qAL rfl z_tuple qAV (qA0 (pe_lc rfl (lcs (own:=["_law_needs"]) (fv:=[]) (by kernel_rfl)) (qB1 (pv 4)) (fun z3=>pg_in 0) (fun z3=>qAY) (fun z3=>(qAD (call_tupleK (K:=K) rfl) rfl z_tuple qAV (qA0 (qAA (call_sortedK (K:=K) (w:=w) rfl rfl rfl) rfl z_sorted bt_sorted (qA0 (qAD (call_setK (K:=K) (w:=w) rfl rfl rfl) rfl z_set bt_set (qA0 (pv 0) qA2)) qA2)) qA2)))) qA2))))) qAH) (qA4 (ps_if (qAF op_eq (pv 2) qA7 (nomark _)) (qA5 (qAE (pe_cl C_Ltree_net hr rfl (qA0 (pv 0) (qA0 (pv 1) qA2))))) qAH) (qA4 (ps_if (qAF op_eq (pv 2) qA7 (nomark _)) (qA4 (qAB (i:=5) sc_Lnet.nd rfl (Or.inr rfl) (pe_op op_fdiv (pv 1) qA7)) (qA4 (ps_lc (i:=4) sc_Lnet.nd rfl rfl rfl (lcs (own:=["_law_k"]) (fv:=[0,5]) (by kernel_rfl)) (qAO rfl z_range (qA0 (pv 1) qA2)) (fun z4=>pg_in 0) (fun z4=>qAY) (fun z4=>(pe_cl C_Lsome_needs hr rfl (qA0 (pv 1) (qA0 (qD8 (qAF op_lt (pv 0) (pv 2) (nomark _)) (pv 0) (pe_op qCX (pv 0) (pv 2))) qA2)))) (by kernel_rfl)) (qA5 (qAE (qAD qAL rfl z_tuple qAV (qA0 (pe_lc rfl (lcs (own:=["_law_k","_law_needs"]) (fv:=[5]) (by kernel_rfl)) (pi_enum rfl z_enumerate bt_enumerate (qA0 (pv 4) qA2)) (fun z5=>pg_tupK (K:=K) (n:=2) rfl rfl (qB2 (pg_in 0) (qB2 (pg_in 1) pgs_nil)) rfl rfl) (fun z5=>qAY) (fun z5=>(qD8 (qAF op_lt (pv 0) (pv 2) (nomark _)) (pv 1) (qAD (call_tupleK (K:=K) rfl) rfl z_tuple qAV (qA0 (pe_lc (X:=lcCx _ _ _ _ z5) rfl (lcs (own:=["_law_n"]) (fv:=[2]) (by kernel_rfl)) (pi_tupK (K:=K) rfl (pv 1)) (fun z6=>pg_in 0) (fun z6=>qAY) (fun z6=>(pe_op qBQ (pv 0) (pv 1)))) qA2))))) qA2)))))) qAH) (qA5 (qAE (qAD qAL rfl z_tuple qAV (qA0 (pe_lc rfl (lcs (own:=["_law_k"]) (fv:=[0]) (by kernel_rfl)) (qAO rfl z_range (qA0 (pv 1) qA2)) (fun z7=>pg_in 0) (fun z7=>qAY) (fun z7=>(pe_cl C_Lsome_needs hr rfl (qA0 (pv 1) (qA0 (pv 0) qA2))))) qA2)))))))))),?_⟩
 try dsimp only [Cx.nox,Cx.wish,cxOf]
 refine cut fun N1 hN1=>?_
 refine ⟨_,rfl,d,c,t,ns,8,rfl,S,(by show t≤1000000000;lia),by decide,by decide,fun way ns1 H1 w0 w8 S1 K1=>?_⟩
 refine hN1 _ _ (cut fun N2 hN2=>?_)
 refine ⟨_,rfl,d,c,t+1,ns1,4,rfl,S1,(by show t+1≤1000000000;lia),by decide,by decide,fun wd ns2 H2 wd0 wd4 S2 K2=>⟨_,_,rfl,rfl,?_⟩⟩
 dsimp only
 have K12:=K1.trans K2
 generalize hwide:(1:Int)+wd=wide
 have wi0:1≤wide:=by lia
 have wi4:wide≤4:=by lia
 refine hN2 _ _ (cut fun N3 hN3=>?_)
 refine ⟨_,rfl,rfl,_,rfl,?_⟩
 refine ite2 (fun _=>?_) (fun _=>?_)
 ·refine ⟨_,rfl,m,rfl,by lia,by lia,fun p hp=>?_⟩
  refine qBM (p:=p) (lo:=0) (n:=m.toNat) (fun i σ Hc=>∃ (v:Option V) (rs:List Addr) (net:List (List Int)),σ=[v,some (.int wide)]∧Same H2 Hc∧Hc p=some (.lst (rs.map V.ref))∧NetL Hc rs net∧net.length=i∧WFn net) ?_ ?_ ?_
  ·exact ⟨none,[],[],rfl,qA3 hp _,qA1,.nil,rfl,WFn.nil⟩
  ·refine fun i σ Hc hi hI_1=>opq fun G_1 hG_1=>?_
   obtain ⟨v,rs,net,rfl,sm,hpc,N,hl,wf⟩:=hI_1
   refine hG_1 ?_
   refine ⟨_,rfl,_,rfl,_,_,rfl,rfl,0,_,rfl,_,rfl,_,_,rfl,fun p1 hp1=>?_⟩
   refine ⟨p1,_,_,rfl,qA1,by split <;> lia,by split <;> lia,by lia,by lia,fun r hr1=>?_⟩
   have lo0:0≤(if (0+(i:Int)) - wide > 0 then (0+(i:Int)) - wide else 0):=by split <;> lia
   have hri:=rangeI_rise (hi:=0+(i:Int)) lo0
   dsimp only
   rw [rangeV_ints]
   generalize rangeI (if (0+(i:Int)) - wide > 0 then (0+(i:Int)) - wide else 0) (0+(i:Int))=zs at hri ⊢
   generalize HO.rng (if (0+(i:Int)) - wide > 0 then (0+(i:Int)) - wide else 0) (0+(i:Int))=ho at hp1 hr1 ⊢
   have s1:=(qA3 hp1 ho).trans (qA3 hr1 (.tup (zs.map V.int)))
   have g1:=s1 _ _ hpc
   refine ⟨_,g1,small1000 (by rw [List.length_map,NetAt.len N];lia),?_⟩
   rw [qAP]
   refine ⟨_,rs++[r],net++[zs],rfl,qAG (sm.trans s1) hp,qA1,qD9 (qC7 (N.same fun r' ys e=>s1 _ _ e) qA1) g1,by rw [List.length_append,List.length_singleton,hl],wf.snoc ?_⟩
   rw [hl]
   exact hri.mono (by lia)
  ·refine fun σ Hc hI_2=>opq fun G_2 hG_2=>?_
   obtain ⟨v,rs,net,rfl,sm,hpc,N,hl,wf⟩:=hI_2
   refine hG_2 ?_
   refine ⟨p,_,rfl,.inl ⟨SqL.of hpc,fun a ha=>?_⟩⟩
   have s1:=qA3 ha (.tup (rs.map V.ref))
   exact q a net (t+1+1) ns2 _ (S2.same (sm.trans s1)) (by lia) (by lia) (K12.trans (.of_same (sm.trans s1))) ⟨rs,qA1,N.same fun r ys e=>s1 _ _ e⟩ wf (by rw [hl];lia)
 refine hN3 _ _ (cut fun N4 hN4=>?_)
 refine ⟨_,rfl,rfl,_,rfl,?_⟩
 refine ite2 (fun _=>?_) (fun _=>?_)
 ·refine ⟨_,rfl,m,rfl,by lia,by lia,fun p hp=>?_⟩
  refine qBM (p:=p) (lo:=0) (n:=m.toNat) (fun i σ Hc=>∃ (v:Option V) (rs:List Addr) (ls:List (List Int)),σ=[v,some (.int wide)]∧Same H2 Hc∧Hc p=some (.lst (rs.map V.ref))∧Paired (fun r zs=>r ≠ p∧Hc r=some (.lst (zs.map V.int))) rs ls∧ls.length=i∧
   ∀ (j:Nat) zs,ls[j]?=some zs→zs.length≤2∧∀ x ∈ zs,0≤x∧x<(j:Int)) ?_ ?_ ?_
  ·exact ⟨none,[],[],rfl,qA3 hp _,qA1,.nil,rfl,fun j zs e=>by simp at e⟩
  ·refine fun i σ Hc hi hI_3=>opq fun G_3 hG_3=>?_
   obtain ⟨v,rs,ls,rfl,sm,hpc,N,hl,wf⟩:=hI_3
   refine hG_3 ?_
   refine ⟨_,rfl,_,rfl,_,_,rfl,rfl,(by show 1≤sizeLine;decide),fun a1 ha1=>?_⟩
   refine ⟨_,rfl,_,rfl,_,_,rfl,rfl,.inr ⟨_,rfl,?_⟩⟩
   refine ⟨a1,_,_,rfl,rfl,qA1,by split <;> decide,by split <;> decide,?_,fun a2 ha2=>?_⟩
   ·have:∀ b:Bool,[V.int (0+(i:Int) - wide)].length * (if b=true then (1:Int) else 0).toNat≤sizeLine:=by intro b;cases b <;> simp [sizeLine_eq]
    exact this _
   dsimp only
   rw [rep_b]
   refine ⟨_,rfl,_,_,rfl,rfl,(by show 1≤sizeLine;decide),fun a3 ha3=>?_⟩
   refine ⟨_,rfl,_,rfl,_,_,rfl,rfl,(by show 0<wide;lia),_,_,rfl,rfl,.inr ⟨_,rfl,?_⟩⟩
   refine ⟨a3,_,_,rfl,rfl,qA1,by split <;> decide,by split <;> decide,?_,fun a4 ha4=>?_⟩
   ·have:∀ b:Bool,[V.int (0+(i:Int) - 1)].length * (if b=true then (1:Int) else 0).toNat≤sizeLine:=by intro b;cases b <;> simp [sizeLine_eq]
    exact this _
   dsimp only
   rw [rep_b]
   have b1:∀ x ∈ (if decide (wide≤0+(i:Int))=true then [0+(i:Int) - wide] else []),0≤x∧x<(i:Int):=by
    intro x hx
    split at hx
    ·rename_i hd
     have:=of_decide_eq_true hd
     rw [List.mem_singleton.mp hx];lia
    ·cases hx
   have b2:∀ x ∈ (if decide (0<(0+(i:Int)) % wide)=true then [0+(i:Int) - 1] else []),0≤x∧x<(i:Int):=by
    intro x hx
    split at hx
    ·rename_i hd
     have hd':=of_decide_eq_true hd
     have:(i:Int) ≠ 0:=by
      intro e
      rw [e] at hd'
      simp at hd'
     rw [List.mem_singleton.mp hx];lia
    ·cases hx
   have c1:(if decide (wide≤0+(i:Int))=true then [0+(i:Int) - wide] else []).length≤1:=by split <;> simp
   have c2:(if decide (0<(0+(i:Int)) % wide)=true then [0+(i:Int) - 1] else []).length≤1:=by split <;> simp
   generalize (if decide (wide≤0+(i:Int))=true then [0+(i:Int) - wide] else [])=z1 at b1 c1 ha3 ha4 ⊢
   generalize (if decide (0<(0+(i:Int)) % wide)=true then [0+(i:Int) - 1] else [])=z2 at b2 c2 ⊢
   have s2:=(qA3 ha3 (.lst [.int (0+(i:Int) - 1)])).trans (qA3 ha4 (.lst (z2.map V.int)))
   refine ⟨a2,a4,_,_,rfl,rfl,s2 _ _ qA1,qA1,Nat.le_of_lt (small1000 (by rw [List.length_map,List.length_map];lia)),fun a5 ha5=>?_⟩
   have s1:=(qA3 ha1 (.lst [.int (0+(i:Int) - wide)])).trans (qA3 ha2 (.lst (z1.map V.int)))
   have s3:=(s1.trans s2).trans (qA3 ha5 (.lst (z1.map V.int++z2.map V.int)))
   have e5:z1.map V.int++z2.map V.int=(z1++z2).map V.int:=by rw [List.map_append]
   rw [e5] at s3 ⊢
   have g1:=s3 _ _ hpc
   have n5:a5 ≠ p:=(qA6 ((s1.trans s2) _ _ hpc) ha5).symm
   refine ⟨_,g1,small1000 (by rw [List.length_map,Paired.length N];lia),?_⟩
   rw [qAP]
   refine ⟨_,rs++[a5],ls++[z1++z2],rfl,qAG (sm.trans s3) hp,qA1,Paired.snoc (qBA N fun r zs e=>⟨e.1,by rw [qA9 e.1];exact s3 _ _ e.2⟩) ⟨n5,by rw [qA9 n5];exact qA1⟩,by rw [List.length_append,List.length_singleton,hl],fun j zs e=>?_⟩
   rcases snoc_get e with e | ⟨rfl,rfl⟩
   ·exact wf j zs e
   ·rw [hl]
    refine ⟨by rw [List.length_append];lia,fun x hx=>?_⟩
    rcases List.mem_append.mp hx with hx | hx
    ·exact b1 x hx
    ·exact b2 x hx
  ·refine fun σ Hc hI_4=>opq fun G_4 hG_4=>?_
   obtain ⟨v,rs,ls,rfl,sm,hpc,N,hl,wf⟩:=hI_4
   refine hG_4 ?_
   refine ⟨_,rfl,p,rfl,⟨_,SqL.of hpc⟩,fun p' hp'=>?_⟩
   refine qCB (p:=p') (a:=p) (xs:=rs.map V.ref) (fun i σ Hd=>∃ (v:Option V) (rs':List Addr) (net:List (List Int)),σ=[v]∧Same Hc Hd∧Hd p'=some (.lst (rs'.map V.ref))∧NetL Hd rs' net∧net.length=i∧WFn net) ?_ ?_ ?_ ?_
   ·exact ⟨none,[],[],rfl,qA3 hp' _,qA1,.nil,rfl,WFn.nil⟩
   ·rintro i σ Hd hi ⟨v,rs',net,rfl,sm2,_⟩
    exact SqL.of (sm2 _ _ hpc)
   ·refine fun i x σ Hd hx hI_6=>opq fun G_6 hG_6=>?_
    obtain ⟨v,rs',net,rfl,sm2,hpd,N2,hl2,wf2⟩:=hI_6
    obtain ⟨r,hr1,rfl⟩:=qBH hx
    obtain ⟨zs,hz,_,hr2⟩:=qAU N hr1
    obtain ⟨l2,m2⟩:=wf i zs hz
    refine hG_6 ?_
    refine ⟨_,rfl,r,zs,rfl,SqL.of (sm2 _ _ hr2),by lia,fun a ha=>?_⟩
    refine ⟨a,dedI zs,rfl,.inr (.inr qA1),Nat.lt_of_le_of_lt (dedI_len zs) (by lia),fun b ys hb hpm hs=>?_⟩
    refine ⟨b,_,rfl,.inl ⟨SqL.of qA1,fun r2 hr3=>?_⟩⟩
    have s1:=((qA3 ha (SetO w a (dedI zs))).trans (qA3 hb (.lst (ys.map V.int)))).trans (qA3 hr3 (.tup (ys.map V.int)))
    have g1:=s1 _ _ hpd
    have lrs:rs.length=m.toNat:=by rw [Paired.length N,hl]
    have hi:i<rs.length:=(List.getElem?_eq_some_iff.mp hr1).1
    refine ⟨_,g1,small1000 (by rw [List.length_map,NetAt.len N2];lia),?_⟩
    rw [qAP]
    refine ⟨_,rs'++[r2],net++[ys],rfl,qAG (sm2.trans s1) hp',qA1,qD9 (qC7 (N2.same fun r' zs' e=>s1 _ _ e) qA1) g1,by rw [List.length_append,List.length_singleton,hl2],wf2.snoc ?_⟩
    rw [hl2]
    exact rise_set hpm hs m2
   ·refine fun σ Hd hI_7=>opq fun G_7 hG_7=>?_
    obtain ⟨v,rs',net,rfl,sm2,hpd,N2,hl2,wf2⟩:=hI_7
    refine hG_7 ?_
    refine ⟨p',_,rfl,.inl ⟨SqL.of hpd,fun a ha=>?_⟩⟩
    have s1:=qA3 ha (.tup (rs'.map V.ref))
    refine q a net (t+1+1) ns2 _ (S2.same ((sm.trans sm2).trans s1)) (by lia) (by lia) (K12.trans (.of_same ((sm.trans sm2).trans s1))) ⟨rs',qA1,N2.same fun r ys e=>s1 _ _ e⟩ wf2 ?_
    rw [hl2,List.length_map,Paired.length N,hl]
    lia
 refine hN4 _ _ (cut fun N5 hN5=>?_)
 refine ⟨_,rfl,rfl,_,rfl,?_⟩
 refine ite2 (fun _=>?_) (fun _=>?_)
 ·refine ⟨_,rfl,_,rfl,d,c,t+1+1,ns2,m,rfl,S2,?_,hm0,hm1,fun a net t' ms H' a1 a2 a3 a4 a5 a6 a7=>?_⟩
  ·show t+1+1≤1000000000 - 1000;lia
  ·exact q a net t' ms H' a1 (by lia) (by lia) (K12.trans a4) a5 a6 a7
 refine hN5 _ _ (cut fun N6 hN6=>?_)
 refine ⟨_,rfl,rfl,_,rfl,?_⟩
 refine ite2 (fun _=>?_) (fun _=>?_)
 ·refine ⟨_,rfl,_,_,rfl,rfl,⟨by decide,by decide⟩,?_⟩
  dsimp only
  have hf0:0≤m / 2:=by lia
  have hf1:m / 2≤m:=by lia
  generalize m / 2=half at hf0 hf1
  refine ⟨_,rfl,m,rfl,by lia,by lia,fun p hp=>?_⟩
  refine qBM (p:=p) (lo:=0) (n:=m.toNat) (fun i σ Hc=>∃ (v:Option V) (t':Int) (ms:List Int) (rs:List Addr) (net:List (List Int)),σ=[v,some (.ref d),some (.int half)]∧StAt Hc d c t' ms∧t+2≤t'∧t'≤t+2+9 * i∧Keep d c H2 Hc∧Hc p=some (.lst (rs.map V.ref))∧NetL Hc rs net∧net.length=i∧
   ∀ (j:Nat) zs,net[j]?=some zs→Rise (if (j:Int)<half then (j:Int) else (j:Int) - half) zs) ?_ ?_ ?_
  ·exact ⟨none,t+1+1,ns2,[],[],rfl,S2.new hp _,by lia,by lia,qBN hp _,qA1,.nil,rfl,fun j zs e=>by simp at e⟩
  ·refine fun i σ Hc hi hI_8=>opq fun G_8 hG_8=>?_
   obtain ⟨v,t',ms,rs,net,rfl,S3,b1,b2,k3,hpc,N,hl,wf⟩:=hI_8
   refine hG_8 ?_
   have npd:p ≠ d:=(qA6 S2.dict hp).symm
   have npc:p ≠ c:=(qA6 S2.list hp).symm
   have nx:∀ (kk:Int),kk=(if (i:Int)<half then (i:Int) else (i:Int) - half)→spNeeds [.ref d,.int kk] Hc (fun y H4=>∃ ys,H4 p=some (.lst ys)∧ys.length<sizeLine∧∃ (v:Option V) (t':Int) (ms:List Int) (rs:List Addr) (net:List (List Int)),[some (V.int (0+(i:Int))),some (.ref d),some (.int half)]=[v,some (.ref d),some (.int half)]∧StAt (upd H4 p (.lst (ys++[y]))) d c t' ms∧t+2≤t'∧t'≤t+2+9 * (i+1:Nat)∧Keep d c H2 (upd H4 p (.lst (ys++[y])))∧(upd H4 p (.lst (ys++[y]))) p=some (.lst (rs.map V.ref))∧NetL (upd H4 p (.lst (ys++[y]))) rs net∧net.length=i+1∧
     ∀ (j:Nat) zs,net[j]?=some zs→Rise (if (j:Int)<half then (j:Int) else (j:Int) - half) zs) E0:=by
    intro kk ek
    refine ⟨d,c,t',ms,kk,rfl,S3,(by show t'≤1000000000 - 20;lia),by rw [ek];split <;> lia,by rw [ek];split <;> lia,fun r zs t'' ms2 H3 e1 e2 e3 e4 e5 e6=>?_⟩
    have g1:=e4 _ _ hpc npd npc
    refine ⟨_,g1,small1000 (by rw [List.length_map,NetAt.len N];lia),?_⟩
    rw [qAP]
    refine ⟨_,t'',ms2,rs++[r],net++[zs],rfl,⟨by rw [qA9 (Ne.symm npd)];exact e1.dict,by rw [qA9 (Ne.symm npc)];exact e1.list,e1.ne,e1.len,e1.pos⟩,by lia,by lia,keep_put (k3.trans e4) hp,qA1,qD9 (qC7 (N.keep (fun r ys e=>S3.tup e) e4) e5) g1,by rw [List.length_append,List.length_singleton,hl],fun j ys e=>?_⟩
    rcases snoc_get e with e | ⟨rfl,rfl⟩
    ·exact wf j ys e
    ·rw [hl,← ek];exact e6
   refine ⟨_,rfl,_,rfl,_,rfl,_,_,rfl,rfl,_,rfl,?_⟩
   refine ite2 (fun ck=>?_) (fun ck=>?_)
   ·have ck':0+(i:Int)<half:=of_decide_eq_true ck
    exact ⟨_,rfl,nx _ (by rw [if_pos (by lia)];lia)⟩
   ·have ck':¬ 0+(i:Int)<half:=of_decide_eq_false (Bool.eq_false_iff.mpr ck)
    exact ⟨_,rfl,_,rfl,_,_,rfl,rfl,nx _ (by rw [if_neg (by lia)];lia)⟩
  ·refine fun σ Hc hI_9=>opq fun G_9 hG_9=>?_
   obtain ⟨v,t',ms,rs,net,rfl,S3,b1,b2,k3,hpc,N,hl,wf⟩:=hI_9
   refine hG_9 ?_
   have lrs:rs.length=m.toNat:=by rw [Paired.length N,hl]
   refine ⟨_,rfl,p,rfl,⟨_,SqL.of hpc⟩,fun p' hp'=>?_⟩
   refine lc_enum (p:=p') (a:=p) (xs:=rs.map V.ref) (fun i σ Hd=>∃ (v1 v2:Option V) (rs':List Addr) (net':List (List Int)),σ=[v1,v2,some (.int half)]∧Same Hc Hd∧Hd p'=some (.lst (rs'.map V.ref))∧NetL Hd rs' net'∧net'.length=i∧WFn net') ?_ ?_ ?_ ?_
   ·exact ⟨none,none,[],[],rfl,qA3 hp' _,qA1,.nil,rfl,WFn.nil⟩
   ·rintro i σ Hd hi ⟨v1,v2,rs',net',rfl,sm2,_⟩
    exact SqL.of (sm2 _ _ hpc)
   ·refine fun i x σ Hd T hx hI_11 hT=>opq fun G_11 hG_11=>?_
    obtain ⟨v1,v2,rs',net',rfl,sm2,hpd,N2,hl2,wf2⟩:=hI_11
    obtain ⟨r,hr1,rfl⟩:=qBH hx
    obtain ⟨zs,hz,hr2⟩:=qAU N hr1
    refine hG_11 ?_
    have hi:i<rs.length:=(List.getElem?_eq_some_iff.mp hr1).1
    have rz:=wf i zs hz
    have sT:=qA3 hT (.tup [.int (i:Int),.ref r])
    have hrT:=sT _ _ (sm2 _ _ hr2)
    have hpT:=sT _ _ hpd
    have NT:=N2.same fun r' zs' e=>sT _ _ e
    have smT:=sm2.trans sT
    have gT:SqT K (upd Hd T (.tup [.int (i:Int),.ref r])) T [.int (i:Int),.ref r]:=SqT.of qA1
    generalize upd Hd T (.tup [.int (i:Int),.ref r])=HT' at hrT hpT NT smT gT ⊢
    refine ⟨T,_,rfl,gT,rfl,_,_,rfl,_,_,rfl,rfl,?_⟩
    refine ⟨_,rfl,_,rfl,_,_,rfl,rfl,_,rfl,?_⟩
    refine ite2 (fun ck=>?_) (fun ck=>?_)
    ·have ck':(i:Int)<half:=of_decide_eq_true ck
     rw [if_pos ck'] at rz
     refine ⟨_,rfl,_,hpT,small1000 (by rw [List.length_map,NetAt.len N2];lia),?_⟩
     rw [qAP]
     refine ⟨_,_,rs'++[r],net'++[zs],rfl,qAG smT hp',qA1,qD9 (qC7 NT hrT) hpT,by rw [List.length_append,List.length_singleton,hl2],wf2.snoc ?_⟩
     rw [hl2]
     exact rz
    ·have ck':¬ (i:Int)<half:=of_decide_eq_false (Bool.eq_false_iff.mpr ck)
     rw [if_neg ck'] at rz
     have lz:zs.length≤i:=by
      have e:((i:Int) - half)=(((i:Int) - half).toNat:Nat):=by lia
      rw [e] at rz
      have:=rz.len
      lia
     refine ⟨_,rfl,r,rfl,⟨_,SqT.of hrT⟩,fun p2 hp2=>?_⟩
     refine lc_tup (p:=p2) (a:=r) (xs:=zs.map V.int) (fun j σ He=>∃ (v:Option V),σ=[v,some (.int half)]∧Same HT' He∧He p2=some (.lst (((zs.take j).map (·+half)).map V.int))) ?_ ?_ ?_ ?_
     ·exact ⟨none,rfl,qA3 hp2 _,qA1⟩
     ·rintro j σ He hj ⟨v,rfl,sm3,_⟩
      exact SqT.of (sm3 _ _ hrT)
     ·refine fun j x σ He hx2 hI_13=>opq fun G_13 hG_13=>?_
      obtain ⟨v,rfl,sm3,hp3⟩:=hI_13
      obtain ⟨z,hz2,rfl⟩:=qD2 hx2
      refine hG_13 ?_
      refine ⟨_,rfl,_,rfl,_,_,rfl,rfl,_,hp3,small1000 (by rw [List.length_map,List.length_map,List.length_take];lia),_,rfl,qAG sm3 hp2,?_⟩
      rw [qA1,List.take_add_one,hz2,Option.toList_some,List.map_append,List.map_append]
      rfl
     ·refine fun σ He hI_14=>opq fun G_14 hG_14=>?_
      obtain ⟨v,rfl,sm3,hp3⟩:=hI_14
      refine hG_14 ?_
      rw [List.length_map,List.take_of_length_le (Nat.le_refl _)] at hp3
      refine ⟨p2,_,rfl,.inl ⟨SqL.of hp3,fun r2 hr3=>?_⟩⟩
      have s1:=qA3 hr3 (.tup ((zs.map (·+half)).map V.int))
      have s2:=sm3.trans s1
      have g1:=s2 _ _ hpT
      refine ⟨_,g1,small1000 (by rw [List.length_map,NetAt.len N2];lia),?_⟩
      rw [qAP]
      refine ⟨_,_,rs'++[r2],net'++[zs.map (·+half)],rfl,qAG (smT.trans s2) hp',qA1,qD9 (qC7 (NT.same fun r' zs' e=>s2 _ _ e) qA1) g1,by rw [List.length_append,List.length_singleton,hl2],wf2.snoc ?_⟩
      rw [hl2]
      have:=rz.shift hf0
      rw [show (i:Int) - half+half=(i:Int) by lia] at this
      exact this
   ·refine fun σ Hd hI_15=>opq fun G_15 hG_15=>?_
    obtain ⟨v1,v2,rs',net',rfl,sm2,hpd,N2,hl2,wf2⟩:=hI_15
    refine hG_15 ?_
    refine ⟨p',_,rfl,.inl ⟨SqL.of hpd,fun a ha=>?_⟩⟩
    have s1:=qA3 ha (.tup (rs'.map V.ref))
    refine q a net' t' ms _ (S3.same (sm2.trans s1)) (by lia) (by lia) (K12.trans (k3.trans (.of_same (sm2.trans s1)))) ⟨rs',qA1,N2.same fun r ys e=>s1 _ _ e⟩ wf2 ?_
    rw [hl2,List.length_map,Paired.length N,hl]
    lia
 refine hN6 _ _ ?_
 refine ⟨_,rfl,m,rfl,by lia,by lia,fun p hp=>?_⟩
 refine qBM (p:=p) (lo:=0) (n:=m.toNat) (fun i σ Hc=>∃ (v:Option V) (t':Int) (ms:List Int) (rs:List Addr) (net:List (List Int)),σ=[v,some (.ref d)]∧StAt Hc d c t' ms∧t+2≤t'∧t'≤t+2+9 * i∧Keep d c H2 Hc∧Hc p=some (.lst (rs.map V.ref))∧NetL Hc rs net∧net.length=i∧WFn net) ?_ ?_ ?_
 ·exact ⟨none,t+1+1,ns2,[],[],rfl,S2.new hp _,by lia,by lia,qBN hp _,qA1,.nil,rfl,WFn.nil⟩
 ·refine fun i σ Hc hi hI_16=>opq fun G_16 hG_16=>?_
  obtain ⟨v,t',ms,rs,net,rfl,S3,b1,b2,k3,hpc,N,hl,wf⟩:=hI_16
  refine hG_16 ?_
  have npd:p ≠ d:=(qA6 S2.dict hp).symm
  have npc:p ≠ c:=(qA6 S2.list hp).symm
  refine ⟨_,rfl,_,rfl,d,c,t',ms,0+(i:Int),rfl,S3,(by show t'≤1000000000 - 20;lia),by lia,by lia,fun r zs t'' ms2 H3 e1 e2 e3 e4 e5 e6=>?_⟩
  have g1:=e4 _ _ hpc npd npc
  refine ⟨_,g1,small1000 (by rw [List.length_map,NetAt.len N];lia),?_⟩
  rw [qAP]
  refine ⟨_,t'',ms2,rs++[r],net++[zs],rfl,⟨by rw [qA9 (Ne.symm npd)];exact e1.dict,by rw [qA9 (Ne.symm npc)];exact e1.list,e1.ne,e1.len,e1.pos⟩,by lia,by lia,keep_put (k3.trans e4) hp,qA1,qD9 (qC7 (N.keep (fun r ys e=>S3.tup e) e4) e5) g1,by rw [List.length_append,List.length_singleton,hl],wf.snoc ?_⟩
  rw [hl]
  exact e6.mono (by lia)
 ·refine fun σ Hc hI_17=>opq fun G_17 hG_17=>?_
  obtain ⟨v,t',ms,rs,net,rfl,S3,b1,b2,k3,hpc,N,hl,wf⟩:=hI_17
  refine hG_17 ?_
  refine ⟨p,_,rfl,.inl ⟨SqL.of hpc,fun a ha=>?_⟩⟩
  have s1:=qA3 ha (.tup (rs.map V.ref))
  exact q a net t' ms _ (S3.same s1) (by lia) (by lia) (K12.trans (k3.trans (.of_same s1))) ⟨rs,qA1,N.same fun r ys e=>s1 _ _ e⟩ wf (by rw [hl];lia)
theorem pick0013 {k:Int} (h0:0≤k) (h1:k<4):∃ v,atI [V.int 0,V.int 0,V.int 1,V.int 3] k=some (.int v)∧0≤v∧v≤3:=by
 rcases (by lia:k=0∨k=1∨k=2∨k=3) with rfl | rfl | rfl | rfl
 all_goals exact ⟨_,rfl,by decide,by decide⟩
theorem sc_Lasked:FnScope ["_law_state","_law_net_here","_law_found","_law_turn"] ["_law_state","_law_net_here"] (defScope s_Lasked):=sc_mk
theorem ok_Lasked (F:Fun K "_law_asked" "_law_asked" s_Lasked f fd)
  (C_Ltake:Clb P w K mg base 1 f_Ltake fd_Ltake "_law_take" ["_law_state","_law_many"] spTake)
  (z_len:mg "len" = none) (z_min:mg "min" = none) (z_range:mg "range" = none) (z_set:mg "set" = none) (z_sorted:mg "sorted" = none) (z_tuple:mg "tuple" = none):FnOk P w K mg base CX0 2 f fd ["_law_state","_law_net_here"] spAsked:=by
 refine F.okA sc_Lasked fun cdv A outer s H vs Q E hr h=>?_
 obtain ⟨d,c,t,ns,a,net,rfl,S,ht,hN,wf,n1,n400,q⟩:=h
 have ht':t≤1000000000 - 100:=ht
 have hr_Ltake:Room 1 _:=hr
 refine ⟨_,(qA4 (qAB (i:=2) sc_Lasked.nd rfl (Or.inl rfl) (qAK (qA0 (pe_op qCX (pe_op qCX (qAA qA8 rfl z_len qAQ (qA0 (pv 1) qA2)) qA7) (pe_cl C_Ltake hr rfl (qA0 (pv 0) (qA0 (qAA (call_min2 rfl) rfl z_min bt_min (qA0 (qAA qA8 rfl z_len qAQ (qA0 (pv 1) qA2)) (qA0 qA7 qA2))) qA2)))) qA2))) (qA4 (qB5 PassesOwn.never rfl (qAO rfl z_range (qA0 (pe_ix qCC (qAK (qA0 qA7 (qA0 qA7 (qA0 qA7 (qA0 qA7 qA2))))) (pe_cl C_Ltake hr rfl (qA0 (pv 0) (qA0 qA7 qA2))) (fun _ _=>rfl)) qA2)) (qAN (i:=3) sc_Lasked.nd rfl (Or.inl rfl)) (qA5 (qBJ (pe_bm PySem.F.plainAttrs_list PySem.F.slot_list_append PySem.F.type_list_append qB6 (pv 2) (qA0 (pe_cl C_Ltake hr rfl (qA0 (pv 0) (qA0 (qAA qA8 rfl z_len qAQ (qA0 (pv 1) qA2)) qA2))) qA2))))) (qA5 (qAE (qAD qAL rfl z_tuple qAV (qA0 (qAA (qDF rfl) rfl z_sorted bt_sorted (qA0 (qAD (call_set rfl) rfl z_set bt_set (qA0 (pv 2) qA2)) qA2)) qA2)))))),?_⟩
 try dsimp only [Cx.nox,Cx.wish,cxOf]
 obtain ⟨rs,hA,NL⟩:=id hN
 have lrv:(((rs.map V.ref).length:Nat):Int)=(net.length:Int):=by rw [List.length_map,Paired.length NL]
 refine ⟨_,rfl,a,_,rfl,.inr (SqT.of hA),_,_,rfl,rfl,?_⟩
 refine ⟨_,rfl,_,rfl,a,_,rfl,.inr (SqT.of hA),_,_,rfl,?_⟩
 refine ⟨d,c,t,ns,_,rfl,S,(by show t≤1000000000;lia),by split <;> lia,by split <;> lia,fun k ns1 H1 k0 k1 S1 K1=>?_⟩
 have kb:0≤(net.length:Int) - 1 - k∧(net.length:Int) - 1 - k<(net.length:Int):=by
  rw [lrv] at k1
  split at k1 <;> lia
 refine ⟨_,_,rfl,rfl,(by show 1≤sizeLine;decide),fun fo hfo=>?_⟩
 dsimp only
 rw [lrv]
 generalize (net.length:Int) - 1 - k=x0 at kb
 have npd:fo ≠ d:=(qA6 S1.dict hfo).symm
 have npc:fo ≠ c:=(qA6 S1.list hfo).symm
 have S2:=S1.new hfo (.lst [.int x0])
 have k2:=K1.trans (qBN (d:=d) (c:=c) hfo (.lst [.int x0]))
 have ffo:∀ o,H fo=some o→False:=fun o z=>by
  by_cases e1:fo=d
  ·exact npd e1
  ·by_cases e2:fo=c
   ·exact npc e2
   ·have:=K1 fo o z e1 e2
    rw [hfo] at this
    cases this
 have gfo:(upd H1 fo (.lst [.int x0])) fo=some (.lst ([x0].map V.int)):=qA1
 generalize upd H1 fo (.lst [.int x0])=H2 at S2 k2 gfo
 refine ⟨(by show 4≤sizeLine;decide),fun p hp=>?_⟩
 have np2d:p ≠ d:=(qA6 S2.dict hp).symm
 have np2c:p ≠ c:=(qA6 S2.list hp).symm
 have sp:=qA3 hp (.lst [.int 0,.int 0,.int 1,.int 3])
 refine ⟨_,rfl,d,c,t+1,ns1,4,rfl,S2.same sp,(by show t+1≤1000000000;lia),by decide,by decide,fun j ns3 H3 j0 j1 S3 K3=>?_⟩
 have gp:=K3 _ _ qA1 np2d np2c
 have gfo3:=K3 _ _ (sp _ _ gfo) npd npc
 have k3:=(k2.trans (.of_same sp)).trans K3
 obtain ⟨m,hm,m0,m3⟩:=pick0013 j0 j1
 refine ⟨p,_,_,_,rfl,rfl,SqL.of gp,hm,m,rfl,by lia,by lia,qB8 (lo:=0) (n:=m.toNat) (fun i σ Hc=>∃ (t':Int) (ms fs:List Int) (v3:Option V),σ=[some (.ref d),some (.ref a),some (.ref fo),v3]∧StAt Hc d c t' ms∧t+2≤t'∧t'≤t+2+i∧Keep d c H Hc∧Hc fo=some (.lst (fs.map V.int))∧fs.length=i+1∧∀ x ∈ fs,0≤x∧x<(net.length:Int))
  ⟨t+1+1,ns3,[x0],none,rfl,S3,by lia,by lia,k3,gfo3,rfl,fun x hx=>by rw [List.mem_singleton.mp hx];exact kb⟩ ?_ ?_⟩
 ·refine fun i σ Hc hi hI_1=>opq fun G_1 hG_1=>?_
  obtain ⟨t',ms,fs,v3,rfl,S4,b1,b2,k4,gf,lf,fb⟩:=hI_1
  refine hG_1 ?_
  have hN4:=hN.keep S k4
  obtain ⟨rs,hA,NL⟩:=id hN4
  have lrv:(((rs.map V.ref).length:Nat):Int)=(net.length:Int):=by rw [List.length_map,Paired.length NL]
  refine ⟨_,rfl,.inl ⟨rfl,_,SqL.of gf⟩,_,rfl,_,rfl,a,_,rfl,.inr (SqT.of hA),d,c,t',ms,_,rfl,S4,(by show t'≤1000000000;lia),by rw [lrv];lia,by rw [lrv];lia,fun x ms5 H5 x0 x1 S5 K5=>?_⟩
  rw [lrv] at x1
  have gf5:=K5 _ _ gf npd npc
  refine ⟨fo,_,_,rfl,rfl,gf5,small1000 (by rw [List.length_map];lia),?_⟩
  refine ⟨t'+1,ms5,fs++[x],_,rfl,⟨by rw [qA9 (Ne.symm npd)];exact S5.dict,by rw [qA9 (Ne.symm npc)];exact S5.list,S5.ne,S5.len,S5.pos⟩,by lia,by lia,fun b u e n1 n2=>?_,by rw [qA1,List.map_append];rfl,by rw [List.length_append,List.length_singleton,lf],fun y hy=>?_⟩
  ·by_cases e3:b=fo
   ·subst e3
    exact (ffo _ e).elim
   ·rw [qA9 e3]
    exact (k4.trans K5) b u e n1 n2
  ·rcases List.mem_append.mp hy with hy | hy
   ·exact fb y hy
   ·rw [List.mem_singleton.mp hy]
    exact ⟨x0,x1⟩
 ·refine fun σ Hc hI_2=>opq fun G_2 hG_2=>?_
  obtain ⟨t',ms,fs,v3,rfl,S4,b1,b2,k4,gf,lf,fb⟩:=hI_2
  refine hG_2 ?_
  refine ⟨_,rfl,fo,fs,rfl,SqL.of gf,by lia,fun e he=>?_⟩
  have ld:=dedI_len fs
  refine ⟨e,dedI fs,rfl,.inr (.inr qA1),by lia,fun b ys hb hpm hs=>?_⟩
  refine ⟨b,_,rfl,.inl ⟨SqL.of qA1,fun r hr3=>?_⟩⟩
  have s1:=((qA3 he (SetO w e (dedI fs))).trans (qA3 hb (.lst (ys.map V.int)))).trans (qA3 hr3 (.tup (ys.map V.int)))
  have ne:fs ≠ []:=fun z=>by rw [z] at lf;simp at lf
  obtain ⟨y,hy⟩:=List.exists_mem_of_ne_nil fs ne
  refine q r ys t' ms _ (S4.same s1) (by lia) (by lia) (k4.trans (.of_same s1)) qA1 (rise_set hpm hs fb) (List.length_pos_of_mem (hpm.mem_iff.mpr (mem_dedI.mpr hy)))
theorem lay_all {ns:List Int} {lay:List (Option Int)}:((ns.map fun x=>decide (some x ∈ lay)).all id)=decide (∀ x ∈ ns,some x ∈ lay):=by
 rw [Bool.eq_iff_iff,List.all_eq_true,decide_eq_true_eq]
 constructor
 ·intro h x hx
  exact of_decide_eq_true (h _ (List.mem_map.mpr ⟨x,hx,rfl⟩))
 ·intro h b hb
  obtain ⟨x,hx,rfl⟩:=List.mem_map.mp hb
  exact decide_eq_true (h x hx)
theorem sc_has_all:FnScope ["results","works"] ["results","works"] (defScope s_has_all):=sc_mk
theorem ok_has_all (F:Fun K "has_all" "has_all" s_has_all f fd) (z_all:mg "all" = none):FnOk P w K mg base CX0 1 f fd ["results","works"] spHasAll:=by
 refine F.okA sc_has_all fun cdv A outer s H vs Q E hr h=>?_
 obtain ⟨la,r,lay,ns,rfl,hla,hns,l1,q⟩:=h
 refine ⟨_,(qA5 (qAE (qAA (call_all rfl) rfl z_all bt_all (qA0 (pe_lc rfl (lcs (own:=["work"]) (fv:=[0]) (by kernel_rfl)) (pi_tup (pv 1)) (fun z1=>pg_in 0) (fun z1=>qAY) (fun z1=>(qCN (op_inK (K:=K) rfl) (pv 0) (pv 1) (by with_unfolding_all rfl)))) qA2)))),?_⟩
 try dsimp only [Cx.nox,Cx.wish,cxOf]
 refine ⟨_,rfl,r,rfl,⟨_,SqT.of hns⟩,fun p hp=>?_⟩
 refine lc_tup (p:=p) (a:=r) (xs:=ns.map V.int) (fun i σ Hc=>∃ (v:Option V),σ=[v,some (.ref la)]∧Same H Hc∧Hc p=some (.lst (((ns.take i).map fun x=>decide (some x ∈ lay)).map V.bl))) ?_ ?_ ?_ ?_
 ·exact ⟨none,rfl,qA3 hp _,qA1⟩
 ·rintro i σ Hc hi ⟨v,rfl,sm,_⟩
  exact SqT.of (sm _ _ hns)
 ·refine fun i x σ Hc hx hI_2=>opq fun G_2 hG_2=>?_
  obtain ⟨v,rfl,sm,hpc⟩:=hI_2
  obtain ⟨z,ez,rfl⟩:=qD2 hx
  refine hG_2 ?_
  have hi:i<ns.length:=(List.getElem?_eq_some_iff.mp ez).1
  refine ⟨_,rfl,_,rfl,la,_,rfl,.inr (SqT.of (sm _ _ hla)),rfl,qC1 lay,_,hpc,small1000 (by rw [List.length_map,List.length_map,List.length_take];lia),_,rfl,qAG sm hp,?_⟩
  rw [qA1]
  refine congrArg (fun l=>some (HO.lst l)) ?_
  show _++[V.bl (inV (.int z) (lay.map oV))]=_
  rw [inV_lay,List.take_add_one,ez,Option.toList_some,List.map_append,List.map_append]
  rfl
 ·refine fun σ Hc hI_3=>opq fun G_3 hG_3=>?_
  obtain ⟨v,rfl,sm,hpc⟩:=hI_3
  refine hG_3 ?_
  rw [List.length_map,List.take_of_length_le (Nat.le_refl _)] at hpc
  refine ⟨p,_,rfl,SqL.of hpc,?_⟩
  rw [lay_all]
  exact q Hc sm
theorem sc_fault_of_do:FnScope ["net","wides","sizes","layout","move","work","room"] ["net","wides","sizes","layout","move"] (defScope s_fault_of_do):=sc_mk
theorem ok_fault_of_do (F:Fun K "fault_of_do" "fault_of_do" s_fault_of_do f fd) (C_has_all:Clb P w K mg base 1 f_has_all fd_has_all "has_all" ["results","works"] spHasAll):FnOk P w K mg base CX0 2 f fd ["net","wides","sizes","layout","move"] (spTh true):=by
 refine F.okA sc_fault_of_do fun cdv A outer s H vs Q E hr h=>?_
 obtain ⟨a,wd,sz,la,mv,net,wides,sizes,lay,m,ns,o,sv,wv,rfl,I,hdk,q⟩:=h
 have hdk:=hdk rfl
 refine ⟨_,(qA4 (qAB (i:=5) sc_fault_of_do.nd rfl (Or.inl rfl) (pe_ix qAR (pv 4) qA7 (fun _ _=>rfl))) (qA4 (qAB (i:=6) sc_fault_of_do.nd rfl (Or.inl rfl) (pe_ix qAR (pv 4) qA7 (fun _ _=>rfl))) (qA4 (ps_if (qAF op_in_seq (pv 5) (pv 3) (by with_unfolding_all rfl)) (qA5 (qAE qAT)) qAH) (qA4 (ps_if (qCV (qBT (pe_cl C_has_all hr rfl (qA0 (pv 3) (qA0 (pe_ix qAR (pv 0) (pv 5) (fun _ _=>rfl)) qA2))))) (qA5 (qAE qAT)) qAH) (qA4 (ps_if (qBP (pc_notN (pe_ix qAR (pv 3) (pv 6) (fun _ _=>rfl)))) (qA5 (qAE qAT)) qAH) (qA4 (ps_if (qAF op_lt (pe_ix qAR (pv 2) (pv 6) (fun _ _=>rfl)) (pe_ix qAR (pv 1) (pv 5) (fun _ _=>rfl)) (nomark _)) (qA5 (qAE qAT)) qAH) (qA5 (qAE qBU)))))))),?_⟩
 try dsimp only [Cx.nox,Cx.wish,cxOf]
 have hmv:H mv=some (.tup [.str "do",.int m.wk,.int m.rm]):=by
  have:=I.move
  unfold Mo.vs at this
  rw [hdk] at this
  exact this
 have q:∀ H',Same H H'→Q (thDo ns lay m.wk o sv wv) H':=fun H' sm=>by
  have:=q H' sm
  unfold thW at this
  rw [hdk] at this
  exact this
 unfold thDo at q
 obtain ⟨wk0,hns,lns,hwd⟩:=I.work hdk
 refine ⟨_,rfl,mv,_,_,_,rfl,rfl,SqT.of hmv,rfl,?_⟩
 refine ⟨_,rfl,mv,_,_,_,rfl,rfl,SqT.of hmv,rfl,?_⟩
 refine ⟨_,rfl,_,rfl,la,_,rfl,.inr (SqT.of I.lay_),rfl,qC1 lay,_,rfl,?_⟩
 rw [inV_lay]
 by_cases c1:some m.wk ∈ lay
 ·rw [decide_eq_true c1]
  have q':=q H (.refl _)
  rw [if_pos c1] at q'
  exact q'
 rw [decide_eq_false c1]
 rw [if_neg c1] at q
 obtain ⟨rs,r,h1,l1,h2,h3⟩:=I.net_.get hns
 refine ⟨_,rfl,_,rfl,_,rfl,a,_,_,_,rfl,rfl,SqT.of h1,qBV wk0 h2,la,r,lay,ns,rfl,I.lay_,h3,lns,fun H1 sm1=>⟨_,rfl,?_⟩⟩
 have I1:=I.same sm1
 by_cases c2:∀ x ∈ ns,some x ∈ lay
 ·rw [decide_eq_true c2]
  rw [if_pos c2] at q
  refine ⟨_,rfl,_,rfl,la,_,_,_,rfl,rfl,SqT.of I1.lay_,qBV I.rm0 (by rw [List.getElem?_map,I.at_];rfl),_,rfl,?_⟩
  cases o with
  | some y=>
   rw [decide_eq_false (show ¬ oV (some y)=V.non from fun z=>nomatch z)]
   exact q H1 sm1
  | none=>
   rw [decide_eq_true (show oV none=V.non from rfl)]
   have q':=q H1 sm1
   dsimp only at q'
   refine ⟨_,rfl,_,rfl,sz,_,_,_,rfl,rfl,SqT.of I1.sizes_,qBV I.rm0 (by rw [List.getElem?_map,I.size];rfl),_,rfl,_,rfl,wd,_,_,_,rfl,rfl,SqT.of I1.wides_,qBV wk0 (by rw [List.getElem?_map,hwd];rfl),_,_,rfl,rfl,_,rfl,?_⟩
   refine ite2 (fun ck=>?_) (fun ck=>?_)
   ·rw [if_pos (of_decide_eq_true ck)] at q'
    exact q'
   ·rw [if_neg (of_decide_eq_false (Bool.eq_false_iff.mpr ck))] at q'
    exact q'
 ·rw [decide_eq_false c2]
  have q':=q H1 sm1
  rw [if_neg c2] at q'
  exact q'
theorem sc_fault_there:FnScope ["net","wides","sizes","layout","move"] ["net","wides","sizes","layout","move"] (defScope qBZ):=sc_mk
theorem ok_fault_there (F:Fun K "fault_there" "fault_there" qBZ f fd) (C_fault_of_do:Clb P w K mg base 2 f_fault_of_do fd_fault_of_do "fault_of_do" ["net","wides","sizes","layout","move"] (spTh true)):FnOk P w K mg base CX0 3 f fd ["net","wides","sizes","layout","move"] (spTh false):=by
 refine F.okA sc_fault_there fun cdv A outer s H vs Q E hr h=>?_
 obtain ⟨a,wd,sz,la,mv,net,wides,sizes,lay,m,ns,o,sv,wv,rfl,I,_,q⟩:=h
 refine ⟨_,(qA4 (ps_if (qAF op_eq (pe_ix qAR (pv 4) qA7 (fun _ _=>rfl)) qAT (nomark _)) (qA5 (qAE (pe_cl C_fault_of_do hr rfl (qA0 (pv 0) (qA0 (pv 1) (qA0 (pv 2) (qA0 (pv 3) (qA0 (pv 4) qA2)))))))) qAH) (qA4 (ps_if (qBP (pc_isN (pe_ix qAR (pv 3) (pe_ix qAR (pv 4) qA7 (fun _ _=>rfl)) (fun _ _=>rfl)))) (qA5 (qAE qAT)) qAH) (qA5 (qAE qBU)))),?_⟩
 try dsimp only [Cx.nox,Cx.wish,cxOf]
 cases hdk:m.dk with
 | true=>
  have hmv:H mv=some (.tup [.str "do",.int m.wk,.int m.rm]):=by
   have:=I.move
   unfold Mo.vs at this
   rw [hdk] at this
   exact this
  refine ⟨_,rfl,mv,_,_,_,rfl,rfl,SqT.of hmv,rfl,rfl,_,rfl,?_⟩
  rw [decide_eq_true (rfl:V.str (Str.ofString "do")=V.str (Str.ofString "do"))]
  exact ⟨_,rfl,_,rfl,_,rfl,_,rfl,_,rfl,a,wd,sz,la,mv,net,wides,sizes,lay,m,ns,o,sv,wv,rfl,I,fun _=>hdk,q⟩
 | false=>
  have hmv:H mv=some (.tup [.str "clear",.int m.rm]):=by
   have:=I.move
   unfold Mo.vs at this
   rw [hdk] at this
   exact this
  have q':=q H (.refl _)
  unfold thW thClr at q'
  rw [hdk] at q'
  refine ⟨_,rfl,mv,_,_,_,rfl,rfl,SqT.of hmv,rfl,rfl,_,rfl,?_⟩
  rw [decide_eq_false (show ¬ V.str (Str.ofString "clear")=V.str (Str.ofString "do") from fun z=>qC4 (V.str.inj z))]
  refine ⟨_,rfl,_,rfl,mv,_,_,_,rfl,rfl,SqT.of hmv,rfl,la,_,_,_,rfl,rfl,SqT.of I.lay_,qBV I.rm0 (by rw [List.getElem?_map,I.at_];rfl),_,rfl,?_⟩
  cases o with
  | some y=>
   rw [decide_eq_false (show ¬ oV (some y)=V.non from fun z=>nomatch z)]
   exact q'
  | none=>
   rw [decide_eq_true (show oV none=V.non from rfl)]
   exact q'
theorem cut_set {lay:List (Option Int)} {k:Nat} {o:Option Int} (h:k<lay.length):cutI lay none (some (k:Int))++[o]++cutI lay (some ((k:Int)+1)) none=lay.set k o:=by
 have e1:cutI lay none (some (k:Int))=lay.take k:=by
  unfold cutI
  rw [HT.sIx_nat,HT.sIx_none,List.drop_zero,Nat.sub_zero,Nat.min_eq_left (Nat.le_of_lt h)]
 have e2:cutI lay (some ((k:Int)+1)) none=lay.drop (k+1):=by
  have:=cutI_from lay (k+1) h
  rw [← this]
  congr 1
 rw [e1,e2,List.set_eq_take_append_cons_drop,if_pos h,List.append_assoc]
 rfl
theorem not_whole1 {n k:Nat} (h:k<n):¬ (HT.sIx n 0 none=0∧HT.sIx n n (some (k:Int))=n):=fun z=>by
 have:=z.2
 rw [HT.sIx_nat,Nat.min_eq_left (Nat.le_of_lt h)] at this
 lia
theorem not_whole2 {n k:Nat} (h:k<n):¬ (HT.sIx n 0 (some ((k:Int)+1))=0∧HT.sIx n n none=n):=fun z=>by
 have:=z.1
 have e:((k:Int)+1)=((k+1:Nat):Int):=by lia
 rw [e,HT.sIx_nat,Nat.min_eq_left h] at this
 lia
theorem sc_layout_behind:FnScope ["layout","move","room","result"] ["layout","move"] (defScope qBC):=sc_mk
theorem ok_layout_behind (F:Fun K "layout_behind" "layout_behind" qBC f fd):FnOk P w K mg base CX0 1 f fd ["layout","move"] spLayB:=by
 refine F.okA sc_layout_behind fun cdv A outer s H vs Q E hr h=>?_
 obtain ⟨la,mv,lay,m,rfl,hla,hmv,rm0,rml,ll,q⟩:=h
 refine ⟨_,(qA4 (qAB (i:=2) sc_layout_behind.nd rfl (Or.inl rfl) (pe_ix qAR (pv 1) (pe_un un_neg qA7) (fun _ _=>rfl))) (qA4 (qAB (i:=3) sc_layout_behind.nd rfl (Or.inl rfl) (qD8 (qAF op_eq (pe_ix qAR (pv 1) qA7 (fun _ _=>rfl)) qAT (nomark _)) (pe_ix qAR (pv 1) qA7 (fun _ _=>rfl)) qBU)) (qA5 (qAE (pe_op qBR (pe_op qBR (qB3 sl_tup (pv 0) qBE (qB9 (pv 2))) (qAJ (qA0 (pv 3) qA2))) (qB3 sl_tup (pv 0) (qB9 (pe_op qBQ (pv 2) qA7)) qBE)))))),?_⟩
 try dsimp only [Cx.nox,Cx.wish,cxOf]
 have lastx:atI m.vs (-1)=some (.int m.rm):=by unfold Mo.vs;cases m.dk <;> rfl
 refine ⟨_,rfl,_,rfl,mv,_,_,_,rfl,rfl,SqT.of hmv,lastx,?_⟩
 have res:∀ (G:V→Prop),G (oV m.res)→∃ p xs k v,V.ref mv=V.ref p∧V.int 0=V.int k∧SqT K H p xs∧atI xs k=some v∧(scal v (V.str (Str.ofString "do"))=true∧∃ b,V.bl (decide (v=V.str (Str.ofString "do")))=V.bl b∧if b=true then ∃ v',([some (.ref la),some (.ref mv),some (.int m.rm),none]:St)[1]?=some (some v')∧∃ p xs k v,v'=V.ref p∧V.int 1=V.int k∧SqT K H p xs∧atI xs k=some v∧G v else G .non):=by
  intro G g
  refine ⟨mv,_,_,_,rfl,rfl,SqT.of hmv,show atI m.vs 0=some (.str (match m.dk with | true=>"do" | false=>"clear")) from by unfold Mo.vs;cases m.dk <;> rfl,rfl,_,rfl,?_⟩
  unfold Mo.res at g
  cases hdk:m.dk with
  | true=>
   rw [hdk] at g
   rw [decide_eq_true (rfl:V.str (Str.ofString "do")=V.str (Str.ofString "do"))]
   exact ⟨_,rfl,mv,_,_,_,rfl,rfl,SqT.of hmv,show atI m.vs 1=some (.int m.wk) from by unfold Mo.vs;rw [hdk];rfl,g⟩
  | false=>
   rw [hdk] at g
   rw [decide_eq_false (show ¬ V.str (Str.ofString "clear")=V.str (Str.ofString "do") from fun z=>qC4 (V.str.inj z))]
   exact g
 refine ⟨_,rfl,res _ ?_⟩
 have er:m.rm=((m.rm.toNat:Nat):Int):=by lia
 refine ⟨_,rfl,_,rfl,m.rm,rfl,la,_,rfl,SqT.of hla,by rw [List.length_map,er];exact not_whole1 rml,fun s1 hs1=>?_⟩
 rw [qB4]
 have t1:=qA3 hs1 (.tup ((cutI lay none (some m.rm)).map oV))
 have l1:=cutI_len lay none (some m.rm)
 have l2:=cutI_len lay (some (m.rm+1)) none
 refine ⟨_,rfl,(by show 1≤sizeLine;decide),fun s2 hs2=>?_⟩
 have t2:=qA3 hs2 (.tup [oV m.res])
 refine ⟨s1,s2,(cutI lay none (some m.rm)).map oV,[oV m.res],rfl,rfl,SqT.of (t2 _ _ qA1),SqT.of qA1,.inr ⟨by simp,qA1⟩,Nat.le_of_lt (qAC (by rw [List.length_map,List.length_singleton];lia)),fun p H3 sm3 hp=>?_⟩
 have s3:=(t1.trans t2).trans sm3
 refine ⟨_,rfl,_,rfl,_,_,rfl,rfl,m.rm+1,rfl,la,_,rfl,SqT.of (s3 _ _ hla),by rw [List.length_map,er];exact not_whole2 rml,fun s4 hs4=>?_⟩
 rw [qB4]
 have t4:=qA3 hs4 (.tup ((cutI lay (some (m.rm+1)) none).map oV))
 refine ⟨p,s4,(cutI lay none (some m.rm)).map oV++[oV m.res],(cutI lay (some (m.rm+1)) none).map oV,rfl,rfl,SqT.of (t4 _ _ hp),SqT.of qA1,.inl ⟨by simp,t4 _ _ hp⟩,Nat.le_of_lt (qAC (by rw [List.length_append,List.length_map,List.length_map,List.length_singleton];lia)),fun r H5 sm5 hr5=>?_⟩
 refine q r H5 ((s3.trans t4).trans sm5) ?_
 rw [hr5,← cut_set (o:=m.res) rml,← er,List.map_append,List.map_append]
 rfl
theorem sc_Lfault:FnScope ["_law_net_here","_law_wides","_law_sizes","_law_layout","_law_move","_law_name","_law_work","_law_room"] ["_law_net_here","_law_wides","_law_sizes","_law_layout","_law_move"] (defScope s_Lfault):=sc_mk
theorem ok_Lfault (F:Fun K "_law_fault" "_law_fault" s_Lfault f fd):FnOk P w K mg base CX0 1 f fd ["_law_net_here","_law_wides","_law_sizes","_law_layout","_law_move"] (spTh false):=by
 refine F.okA sc_Lfault fun cdv A outer s H vs Q E hr h=>?_
 obtain ⟨a,wd,sz,la,mv,net,wides,sizes,lay,m,ns,o,sv,wv,rfl,I,_,q⟩:=h
 have hu0:=hr.units0
 refine ⟨_,(qA4 (ps_if (qAF op_eq (pe_ix qAR (pv 4) qA7 (fun _ _=>rfl)) qAT (nomark _)) (qA5 (qAE (qD8 (qBP (pc_isN (pe_ix qAR (pv 3) (pe_ix qAR (pv 4) qA7 (fun _ _=>rfl)) (fun _ _=>rfl)))) qAT qBU))) qAH) (qA4 (ps_asg (pv 4) (pg_tup rfl (qB2 (qAN (i:=5) sc_Lfault.nd rfl (Or.inl rfl)) (qB2 (qAN (i:=6) sc_Lfault.nd rfl (Or.inl rfl)) (qB2 (qAN (i:=7) sc_Lfault.nd rfl (Or.inl rfl)) pgs_nil))))) (qA4 (ps_if (qAF op_in_seq (pv 6) (pv 3) (by with_unfolding_all rfl)) (qA5 (qAE qAT)) qAH) (qA4 (ps_if (qAF (qD1 hu0) (pe_lc rfl (lcs (own:=["_law_need"]) (fv:=[3]) (by kernel_rfl)) (pi_tup (pe_ix qAR (pv 0) (pv 6) (fun _ _=>rfl))) (fun z1=>pg_in 0) (fun z1=>(qDB (qAF (op_notInK (K:=K) rfl) (pv 0) (pv 1) (by with_unfolding_all rfl)))) (fun z1=>(pv 0))) (qAK qA2) (nomark _)) (qA5 (qAE qAT)) qAH) (qA4 (ps_if (qBP (pc_notN (pe_ix qAR (pv 3) (pv 7) (fun _ _=>rfl)))) (qA5 (qAE qAT)) qAH) (qA5 (qAE (qD8 (qAF op_gt (pe_ix qAR (pv 1) (pv 6) (fun _ _=>rfl)) (pe_ix qAR (pv 2) (pv 7) (fun _ _=>rfl)) (nomark _)) qAT qBU)))))))),?_⟩
 try dsimp only [Cx.nox,Cx.wish,cxOf]
 cases hdk:m.dk with
 | false=>
  have hmv:H mv=some (.tup [.str "clear",.int m.rm]):=by
   have:=I.move
   unfold Mo.vs at this
   rw [hdk] at this
   exact this
  have q':=q H (.refl _)
  unfold thW thClr at q'
  rw [hdk] at q'
  refine ⟨_,rfl,mv,_,_,_,rfl,rfl,SqT.of hmv,rfl,rfl,_,rfl,?_⟩
  rw [decide_eq_true (rfl:V.str (Str.ofString "clear")=V.str (Str.ofString "clear"))]
  refine ⟨_,rfl,_,rfl,mv,_,_,_,rfl,rfl,SqT.of hmv,rfl,la,_,_,_,rfl,rfl,SqT.of I.lay_,qBV I.rm0 (by rw [List.getElem?_map,I.at_];rfl),_,rfl,?_⟩
  cases o with
  | some y=>
   rw [decide_eq_false (show ¬ oV (some y)=V.non from fun z=>nomatch z)]
   exact q'
  | none=>
   rw [decide_eq_true (show oV none=V.non from rfl)]
   exact q'
 | true=>
  have hmv:H mv=some (.tup [.str "do",.int m.wk,.int m.rm]):=by
   have:=I.move
   unfold Mo.vs at this
   rw [hdk] at this
   exact this
  have q:∀ H',Same H H'→Q (thDo ns lay m.wk o sv wv) H':=fun H' sm=>by
   have:=q H' sm
   unfold thW at this
   rw [hdk] at this
   exact this
  unfold thDo at q
  obtain ⟨wk0,hns,lns,hwd⟩:=I.work hdk
  refine ⟨_,rfl,mv,_,_,_,rfl,rfl,SqT.of hmv,rfl,rfl,_,rfl,?_⟩
  rw [decide_eq_false (show ¬ V.str (Str.ofString "do")=V.str (Str.ofString "clear") from fun z=>qC4 (V.str.inj z).symm)]
  refine ⟨_,rfl,mv,_,rfl,SqT.of hmv,rfl,_,_,rfl,_,_,rfl,_,_,rfl,rfl,?_⟩
  refine ⟨_,rfl,_,rfl,la,_,rfl,.inr (SqT.of I.lay_),rfl,qC1 lay,_,rfl,?_⟩
  rw [inV_lay]
  by_cases c1:some m.wk ∈ lay
  ·rw [decide_eq_true c1]
   have q':=q H (.refl _)
   rw [if_pos c1] at q'
   exact q'
  rw [decide_eq_false c1]
  rw [if_neg c1] at q
  obtain ⟨rs,r,h1,l1,h2,h3⟩:=I.net_.get hns
  refine ⟨_,rfl,_,rfl,a,_,_,_,rfl,rfl,SqT.of h1,qBV wk0 h2,r,rfl,⟨_,SqT.of h3⟩,fun p hp=>?_⟩
  refine lc_tup (p:=p) (a:=r) (xs:=ns.map V.int) (fun i σ Hc=>∃ (v:Option V),σ=[v,some (.ref la)]∧Same H Hc∧Hc p=some (.lst (((ns.take i).filter fun x=>!decide (some x ∈ lay)).map V.int))) ?_ ?_ ?_ ?_
  ·exact ⟨none,rfl,qA3 hp _,qA1⟩
  ·rintro i σ Hc hi ⟨v,rfl,sm,_⟩
   exact SqT.of (sm _ _ h3)
  ·refine fun i x σ Hc hx hI_2=>opq fun G_2 hG_2=>?_
   obtain ⟨v,rfl,sm,hpc⟩:=hI_2
   obtain ⟨z,ez,rfl⟩:=qD2 hx
   refine hG_2 ?_
   have hi:i<ns.length:=(List.getElem?_eq_some_iff.mp ez).1
   have lk:=qD3 (p:=fun x=>!decide (some x ∈ lay)) (l:=ns) (i:=i)
   refine ⟨_,rfl,_,rfl,la,_,rfl,.inr (SqT.of (sm _ _ I.lay_)),rfl,qC1 lay,_,rfl,?_⟩
   rw [inV_lay,qDD ez]
   by_cases e:some z ∈ lay
   ·rw [decide_eq_true e]
    refine ⟨_,rfl,sm,?_⟩
    simpa using hpc
   ·rw [decide_eq_false e]
    refine ⟨_,rfl,_,hpc,small1000 (by rw [List.length_map];lia),_,rfl,qAG sm hp,?_⟩
    rw [qA1,if_pos (show (!false)=true from rfl),List.map_append]
    rfl
  refine fun σ H1 hI_3=>opq fun G_3 hG_3=>?_
  obtain ⟨v,rfl,sm1,hpc⟩:=hI_3
  refine hG_3 ?_
  rw [List.length_map,take_all rfl] at hpc
  have I1:=I.same sm1
  refine ⟨(by show 0≤sizeLine;decide),fun l0 hl0=>?_⟩
  have s0:=qA3 hl0 (.lst [])
  refine ⟨p,l0,_,rfl,rfl,SqL.of (s0 _ _ hpc),SqL.of qA1,_,rfl,?_⟩
  have s1:=sm1.trans s0
  have I2:=I.same s1
  generalize upd H1 l0 (.lst [])=H2 at s0 s1 I2 ⊢
  by_cases c2:∀ x ∈ ns,some x ∈ lay
  ·have e:(ns.filter fun x=>!decide (some x ∈ lay))=[]:=by
    rw [List.filter_eq_nil_iff]
    intro x hx
    simp [c2 x hx]
   rw [e]
   rw [if_pos c2] at q
   refine ⟨_,rfl,_,rfl,la,_,_,_,rfl,rfl,SqT.of I2.lay_,qBV I.rm0 (by rw [List.getElem?_map,I.at_];rfl),_,rfl,?_⟩
   cases o with
   | some y=>
    rw [decide_eq_false (show ¬ oV (some y)=V.non from fun z=>nomatch z)]
    exact q H2 s1
   | none=>
    rw [decide_eq_true (show oV none=V.non from rfl)]
    have q':=q H2 s1
    dsimp only at q'
    refine ⟨_,rfl,_,rfl,wd,_,_,_,rfl,rfl,SqT.of I2.wides_,qBV wk0 (by rw [List.getElem?_map,hwd];rfl),_,rfl,_,rfl,sz,_,_,_,rfl,rfl,SqT.of I2.sizes_,qBV I.rm0 (by rw [List.getElem?_map,I.size];rfl),_,_,rfl,rfl,_,rfl,?_⟩
    refine ite2 (fun ck=>?_) (fun ck=>?_)
    ·have ck':wv > sv:=of_decide_eq_true ck
     rw [if_pos (show sv<wv from ck')] at q'
     exact q'
    ·have ck':¬ wv > sv:=of_decide_eq_false (Bool.eq_false_iff.mpr ck)
     rw [if_neg (show ¬ sv<wv from ck')] at q'
     exact q'
  ·have e:(ns.filter fun x=>!decide (some x ∈ lay)) ≠ []:=fun z=>c2 fun x hx=>by
    have:=(List.filter_eq_nil_iff.mp z) x hx
    simpa using this
   have q':=q H2 s1
   rw [if_neg c2] at q'
   cases hf:(ns.filter fun x=>!decide (some x ∈ lay)) with
   | nil=>exact absurd hf e
   | cons y ys=>exact q'
theorem cut_set2 {lay:List (Option Int)} {k:Nat} {o:Option Int} (h:k<lay.length):cutI lay none (some (k:Int))++[o]++cutI lay (some ((k:Int)+1)) none=lay.set k o:=by
 have e1:cutI lay none (some (k:Int))=lay.take k:=by
  unfold cutI
  rw [HT.sIx_nat,HT.sIx_none,List.drop_zero,Nat.sub_zero,Nat.min_eq_left (Nat.le_of_lt h)]
 have e2:cutI lay (some ((k:Int)+1)) none=lay.drop (k+1):=by
  have:=cutI_from lay (k+1) h
  rw [← this]
  congr 1
 rw [e1,e2,List.set_eq_take_append_cons_drop,if_pos h,List.append_assoc]
 rfl
theorem not_whole3 {n k:Nat} (h:k<n):¬ (HT.sIx n 0 none=0∧HT.sIx n n (some (k:Int))=n):=fun z=>by
 have:=z.2
 rw [HT.sIx_nat,Nat.min_eq_left (Nat.le_of_lt h)] at this
 lia
theorem not_whole4 {n k:Nat} (h:k<n):¬ (HT.sIx n 0 (some ((k:Int)+1))=0∧HT.sIx n n none=n):=fun z=>by
 have:=z.1
 have e:((k:Int)+1)=((k+1:Nat):Int):=by lia
 rw [e,HT.sIx_nat,Nat.min_eq_left h] at this
 lia
theorem sc_Lput:FnScope ["_law_layout","_law_move","_law_room","_law_work"] ["_law_layout","_law_move"] (defScope s_Lput):=sc_mk
theorem ok_Lput (F:Fun K "_law_put" "_law_put" s_Lput f fd):FnOk P w K mg base CX0 1 f fd ["_law_layout","_law_move"] spLayB:=by
 refine F.okA sc_Lput fun cdv A outer s H vs Q E hr h=>?_
 obtain ⟨la,mv,lay,m,rfl,hla,hmv,rm0,rml,ll,q⟩:=h
 refine ⟨_,(qA4 (qAB (i:=2) sc_Lput.nd rfl (Or.inl rfl) (pe_ix qAR (pv 1) (pe_un un_neg qA7) (fun _ _=>rfl))) (qA4 (qAB (i:=3) sc_Lput.nd rfl (Or.inl rfl) (qD8 (qAF op_eq (pe_ix qAR (pv 1) qA7 (fun _ _=>rfl)) qAT (nomark _)) (pe_ix qAR (pv 1) qA7 (fun _ _=>rfl)) qBU)) (qA5 (qAE (pe_op qBR (pe_op qBR (qB3 sl_tup (pv 0) qBE (qB9 (pv 2))) (qAJ (qA0 (pv 3) qA2))) (qB3 sl_tup (pv 0) (qB9 (pe_op qBQ (pv 2) qA7)) qBE)))))),?_⟩
 try dsimp only [Cx.nox,Cx.wish,cxOf]
 have lastx:atI m.vs (-1)=some (.int m.rm):=by unfold Mo.vs;cases m.dk <;> rfl
 refine ⟨_,rfl,_,rfl,mv,_,_,_,rfl,rfl,SqT.of hmv,lastx,?_⟩
 have res:∀ (G:V→Prop),G (oV m.res)→∃ p xs k v,V.ref mv=V.ref p∧V.int 0=V.int k∧SqT K H p xs∧atI xs k=some v∧(scal v (V.str (Str.ofString "do"))=true∧∃ b,V.bl (decide (v=V.str (Str.ofString "do")))=V.bl b∧if b=true then ∃ v',([some (.ref la),some (.ref mv),some (.int m.rm),none]:St)[1]?=some (some v')∧∃ p xs k v,v'=V.ref p∧V.int 1=V.int k∧SqT K H p xs∧atI xs k=some v∧G v else G .non):=by
  intro G g
  refine ⟨mv,_,_,_,rfl,rfl,SqT.of hmv,show atI m.vs 0=some (.str (match m.dk with | true=>"do" | false=>"clear")) from by unfold Mo.vs;cases m.dk <;> rfl,rfl,_,rfl,?_⟩
  unfold Mo.res at g
  cases hdk:m.dk with
  | true=>
   rw [hdk] at g
   rw [decide_eq_true (rfl:V.str (Str.ofString "do")=V.str (Str.ofString "do"))]
   exact ⟨_,rfl,mv,_,_,_,rfl,rfl,SqT.of hmv,show atI m.vs 1=some (.int m.wk) from by unfold Mo.vs;rw [hdk];rfl,g⟩
  | false=>
   rw [hdk] at g
   rw [decide_eq_false (show ¬ V.str (Str.ofString "clear")=V.str (Str.ofString "do") from fun z=>qC4 (V.str.inj z))]
   exact g
 refine ⟨_,rfl,res _ ?_⟩
 have er:m.rm=((m.rm.toNat:Nat):Int):=by lia
 refine ⟨_,rfl,_,rfl,m.rm,rfl,la,_,rfl,SqT.of hla,by rw [List.length_map,er];exact not_whole3 rml,fun s1 hs1=>?_⟩
 rw [qB4]
 have t1:=qA3 hs1 (.tup ((cutI lay none (some m.rm)).map oV))
 have l1:=cutI_len lay none (some m.rm)
 have l2:=cutI_len lay (some (m.rm+1)) none
 refine ⟨_,rfl,(by show 1≤sizeLine;decide),fun s2 hs2=>?_⟩
 have t2:=qA3 hs2 (.tup [oV m.res])
 refine ⟨s1,s2,(cutI lay none (some m.rm)).map oV,[oV m.res],rfl,rfl,SqT.of (t2 _ _ qA1),SqT.of qA1,.inr ⟨by simp,qA1⟩,Nat.le_of_lt (qAC (by rw [List.length_map,List.length_singleton];lia)),fun p H3 sm3 hp=>?_⟩
 have s3:=(t1.trans t2).trans sm3
 refine ⟨_,rfl,_,rfl,_,_,rfl,rfl,m.rm+1,rfl,la,_,rfl,SqT.of (s3 _ _ hla),by rw [List.length_map,er];exact not_whole4 rml,fun s4 hs4=>?_⟩
 rw [qB4]
 have t4:=qA3 hs4 (.tup ((cutI lay (some (m.rm+1)) none).map oV))
 refine ⟨p,s4,(cutI lay none (some m.rm)).map oV++[oV m.res],(cutI lay (some (m.rm+1)) none).map oV,rfl,rfl,SqT.of (t4 _ _ hp),SqT.of qA1,.inl ⟨by simp,t4 _ _ hp⟩,Nat.le_of_lt (qAC (by rw [List.length_append,List.length_map,List.length_map,List.length_singleton];lia)),fun r H5 sm5 hr5=>?_⟩
 refine q r H5 ((s3.trans t4).trans sm5) ?_
 rw [hr5,← cut_set2 (o:=m.res) rml,← er,List.map_append,List.map_append]
 rfl
theorem rangeI_succ (j:Nat):rangeI 0 ((j+1:Nat):Int)=rangeI 0 (j:Int)++[0+(j:Int)]:=by
 unfold rangeI
 rw [show ((((j+1:Nat):Int) - 0).toNat)=j+1 from by lia,show (((j:Int) - 0).toNat)=j from by lia,List.range_succ,List.map_append]
 rfl
theorem allMo_succ (n:Int) (j:Nat):allMo n ((j+1:Nat):Int)=allMo n (j:Int)++(((rangeI 0 n).map fun wk=>⟨true,wk,0+(j:Int)⟩)++[⟨false,0,0+(j:Int)⟩]):=by
 unfold allMo
 rw [rangeI_succ,List.flatMap_append]
 simp
theorem allMo_len (n:Int) (j:Nat):(allMo n (j:Int)).length=j * (n.toNat+1):=by
 induction j with
 | zero=>show (allMo n (0:Int)).length=0 * (n.toNat+1);simp [allMo,rangeI]
 | succ j ih=>rw [allMo_succ,List.length_append,ih,List.length_append,List.length_map,qB7,List.length_singleton,Nat.succ_mul];lia
theorem sc_Lall_moves:FnScope ["_law_net_here","_law_sizes","_law_found","_law_room"] ["_law_net_here","_law_sizes"] (defScope qC6):=sc_mk
theorem ok_Lall_moves (F:Fun K "_law_all_moves" "_law_all_moves" qC6 f fd) (z_range:mg "range" = none) (z_len:mg "len" = none):FnOk P w K mg base CX0 1 f fd ["_law_net_here","_law_sizes"] spAllMo:=by
 refine F.okA sc_Lall_moves fun cdv A outer s H vs Q E hr h=>?_
 obtain ⟨a,sz,net,sizes,rfl,hN,n6,hsz,k5,q⟩:=h
 refine ⟨_,(qA4 (qAB (i:=2) sc_Lall_moves.nd rfl (Or.inl rfl) (qAK qA2)) (qA4 (qB5 PassesOwn.never rfl (qAO rfl z_range (qA0 (qAA qA8 rfl z_len qAQ (qA0 (pv 1) qA2)) qA2)) (qAN (i:=3) sc_Lall_moves.nd rfl (Or.inr rfl)) (qA5 (qBJ (pe_bm PySem.F.plainAttrs_list PySem.F.slot_list_extend PySem.F.type_list_extend mt_extend (pv 2) (qA0 (pe_op qCG (pe_lc rfl (lcs (own:=["_law_work"]) (fv:=[3]) (by kernel_rfl)) (qAO rfl z_range (qA0 (qAA qA8 rfl z_len qAQ (qA0 (pv 0) qA2)) qA2)) (fun z1=>pg_in 0) (fun z1=>qAY) (fun z1=>(qAJ (qA0 qAT (qA0 (pv 0) (qA0 (pv 1) qA2)))))) (qAK (qA0 (qAJ (qA0 qAT (qA0 (pv 3) qA2))) qA2))) qA2))))) (qA5 (qAE (pv 2))))),?_⟩
 try dsimp only [Cx.nox,Cx.wish,cxOf]
 refine ⟨(by show 0≤sizeLine;decide),fun l hl=>?_⟩
 have sl:=qA3 hl (.lst [])
 have lsz:(((sizes.map V.int).length:Nat):Int)=(sizes.length:Int):=by rw [List.length_map]
 refine ⟨_,rfl,sz,_,rfl,.inr (SqT.of (sl _ _ hsz)),_,rfl,by rw [lsz];lia,by rw [lsz];lia,qB8 (lo:=0) (n:=((((sizes.map V.int).length:Nat):Int)).toNat) (fun i σ Hc=>∃ (v:Option V),σ=[some (.ref a),some (.ref sz),some (.ref l),v]∧Same H Hc∧MosAt Hc l (allMo (net.length:Int) (i:Int)))
  ⟨none,rfl,sl,[],qA1,.nil⟩ ?_ ?_⟩
 ·refine fun i σ Hc hi hI_1=>opq fun G_1 hG_1=>?_
  obtain ⟨v,rfl,sm,rs0,hl0,M0⟩:=hI_1
  refine hG_1 ?_
  rw [lsz] at hi
  have lrs0:=Paired.length M0
  rw [allMo_len] at lrs0
  have lb:rs0.length≤5 * 7:=by
   rw [lrs0]
   exact Nat.mul_le_mul (by lia) (by lia)
  obtain ⟨rs,hA,NL⟩:=(hN.same sm)
  have lrv:(((rs.map V.ref).length:Nat):Int)=(net.length:Int):=by rw [List.length_map,Paired.length NL]
  refine ⟨_,rfl,.inl ⟨rfl,_,SqL.of hl0⟩,_,rfl,a,_,rfl,.inr (SqT.of hA),_,rfl,by rw [lrv];lia,by rw [lrv];lia,fun p hp=>?_⟩
  refine qBM (p:=p) (lo:=0) (n:=((((rs.map V.ref).length:Nat):Int)).toNat) (fun j σ Hz=>∃ (v:Option V) (fs:List Addr),σ=[v,some (.int (0+(i:Int)))]∧Same Hc Hz∧Hz p=some (.lst (fs.map V.ref))∧MosL Hz fs ((rangeI 0 (j:Int)).map fun x=>⟨true,x,0+(i:Int)⟩)) ?_ ?_ ?_
  ·exact ⟨none,[],rfl,qA3 hp _,qA1,.nil⟩
  ·refine fun j σ Hz hj hI_2=>opq fun G_2 hG_2=>?_
   obtain ⟨v,fs,rfl,smz,gp,Mz⟩:=hI_2
   refine hG_2 ?_
   rw [lrv] at hj
   have lfs:=Paired.length Mz
   rw [List.length_map,qB7] at lfs
   refine ⟨_,rfl,_,rfl,(by show 3≤sizeLine;decide),fun T hT=>?_⟩
   have sT:=qA3 hT (.tup [.str "do",.int (0+(j:Int)),.int (0+(i:Int))])
   refine ⟨_,sT _ _ gp,qAC (by rw [List.length_map];lia),_,fs++[T],rfl,qAG (smz.trans sT) hp,by rw [qA1,qAP],?_⟩
   rw [rangeI_succ,List.map_append]
   exact MosL.put (Paired.snoc (MosL.same Mz sT) (show (upd Hz T (.tup [.str "do",.int (0+(j:Int)),.int (0+(i:Int))])) T=some (.tup (Mo.vs ⟨true,0+(j:Int),0+(i:Int)⟩)) from qA1)) (sT _ _ gp)
  ·refine fun σ Hz hI_3=>opq fun G_3 hG_3=>?_
   obtain ⟨v,fs,rfl,smz,gp,Mz⟩:=hI_3
   refine hG_3 ?_
   have em:((((((rs.map V.ref).length:Nat):Int)).toNat:Nat):Int)=(net.length:Int):=by rw [lrv];lia
   rw [em] at Mz
   have lfs:=Paired.length Mz
   rw [List.length_map,qB7] at lfs
   refine ⟨_,rfl,(by show 2≤sizeLine;decide),fun T hT=>⟨(by show 1≤sizeLine;decide),fun l1 hl1=>?_⟩⟩
   have sT:=qA3 hT (.tup [.str "clear",.int (0+(i:Int))])
   have s1:=qA3 hl1 (.lst [.ref T])
   have gT:(upd Hz T (.tup [.str "clear",.int (0+(i:Int))])) T=some (.tup (Mo.vs ⟨false,0,0+(i:Int)⟩)):=qA1
   refine ⟨p,l1,_,_,rfl,rfl,s1 _ _ (sT _ _ gp),qA1,Nat.le_of_lt (qAC (by rw [List.length_map,List.length_singleton];lia)),fun l2 hl2=>?_⟩
   have s2:=qA3 hl2 (.lst (fs.map V.ref++[.ref T]))
   have sA:=(sT.trans s1).trans s2
   have g2:(upd (upd (upd Hz T (.tup [.str "clear",.int (0+(i:Int))])) l1 (.lst [.ref T])) l2 (.lst (fs.map V.ref++[.ref T]))) l2=some (.lst ((fs++[T]).map V.ref)):=by rw [qA1,qAP]
   have gT2:=(s1.trans s2) _ _ gT
   generalize upd (upd (upd Hz T (.tup [.str "clear",.int (0+(i:Int))])) l1 (.lst [.ref T])) l2 (.lst (fs.map V.ref++[.ref T]))=Hy at sA g2 gT2 ⊢
   have sAll:=smz.trans sA
   refine ⟨l,l2,_,_,rfl,rfl,sAll _ _ hl0,g2,Nat.le_of_lt (qAC (by rw [List.length_map,List.length_map,List.length_append,List.length_singleton];lia)),?_⟩
   refine ⟨_,rfl,?_,rs0++(fs++[T]),by rw [qA1];exact congrArg (fun l=>some (HO.lst l)) (List.map_append ..).symm,?_⟩
   ·exact qAG (sm.trans sAll) hl
   ·rw [allMo_succ]
    exact (MosL.put (paired_app (MosL.same M0 sAll) (paired_app (MosL.same Mz sA) (.cons gT2 .nil))) (sAll _ _ hl0))
 ·refine fun σ Hc hI_4=>opq fun G_4 hG_4=>?_
  obtain ⟨v,rfl,sm,hM⟩:=hI_4
  refine hG_4 ?_
  have em:((((((sizes.map V.int).length:Nat):Int)).toNat:Nat):Int)=(sizes.length:Int):=by rw [lsz];lia
  rw [em] at hM
  exact ⟨_,rfl,q l Hc sm hl hM⟩
theorem pick53 (b:Bool):∃ m:Int,atI [V.int 5,V.int 3] (if b then 1 else 0)=some (.int m)∧1≤m∧m≤5:=by
 cases b
 ·exact ⟨_,rfl,by decide,by decide⟩
 ·exact ⟨_,rfl,by decide,by decide⟩
theorem pick1249 {k:Int} (h0:0≤k) (h1:k<4):∃ m:Int,atI [V.int 1,V.int 2,V.int 4,V.int 9] k=some (.int m)∧1≤m∧m≤9:=by
 rcases (by lia:k=0∨k=1∨k=2∨k=3) with rfl | rfl | rfl | rfl
 ·exact ⟨_,rfl,by decide,by decide⟩
 ·exact ⟨_,rfl,by decide,by decide⟩
 ·exact ⟨_,rfl,by decide,by decide⟩
 ·exact ⟨_,rfl,by decide,by decide⟩
theorem sc_Lthere:FnScope ["_law_state","_law_many","_law_net_here","_law_rooms","_law_most","_law_wides","_law_sizes"] ["_law_state"] (defScope s_Lthere):=sc_mk
theorem ok_Lthere (F:Fun K "_law_there" "_law_there" s_Lthere f fd) (C_Ltake:Clb P w K mg base 1 f_Ltake fd_Ltake "_law_take" ["_law_state","_law_many"] spTake) (C_Lnet:Clb P w K mg base 3 f_Lnet fd_Lnet "_law_net" ["_law_state","_law_many"] spNet) (z_range:mg "range" = none) (z_int:mg "int" = none) (z_tuple:mg "tuple" = none) (z_min:mg "min" = none):FnOk P w K mg base CX0 4 f fd ["_law_state"] spThereK:=by
 refine F.okA sc_Lthere fun cdv A outer s H vs Q E hr h=>?_
 obtain ⟨d,c,t,ns,rfl,S,ht,q⟩:=h
 have ht':t≤1000000000 - 20000:=ht
 refine ⟨_,(qA4 (qAB (i:=1) sc_Lthere.nd rfl (Or.inl rfl) (pe_op qBQ qA7 (pe_cl C_Ltake hr rfl (qA0 (pv 0) (qA0 qA7 qA2))))) (qA4 (qAB (i:=2) sc_Lthere.nd rfl (Or.inl rfl) (pe_cl C_Lnet hr rfl (qA0 (pv 0) (qA0 (pv 1) qA2)))) (qA4 (qAB (i:=3) sc_Lthere.nd rfl (Or.inl rfl) (pe_op qBQ qA7 (pe_cl C_Ltake hr rfl (qA0 (pv 0) (qA0 (pe_ix qCC (qAK (qA0 qA7 (qA0 qA7 qA2))) (qAD call_int1 rfl z_int bt_int (qA0 (qCN op_gt (pv 1) qA7 (nomark _)) qA2)) (fun _ _=>rfl)) qA2))))) (qA4 (ps_join (ps_if (PW.pt (pw_and (qAF op_gt (pv 1) qA7 (nomark _)) (pw_and1 (qAF op_eq (pe_cl C_Ltake hr rfl (qA0 (pv 0) (qA0 qA7 qA2))) qA7 (nomark _))))) (qA5 (qAB (i:=3) sc_Lthere.nd rfl (Or.inl rfl) qA7)) qAH)) (qA4 (qAB (i:=4) sc_Lthere.nd rfl (Or.inr rfl) (pe_ix qCC (qAK (qA0 qA7 (qA0 qA7 (qA0 qA7 (qA0 qA7 qA2))))) (pe_cl C_Ltake hr rfl (qA0 (pv 0) (qA0 qA7 qA2))) (fun _ _=>rfl))) (qA4 (qAB (i:=5) sc_Lthere.nd rfl (Or.inl rfl) (qAD qAL rfl z_tuple qAV (qA0 (pe_lc rfl (lcs (own:=["_law_k"]) (fv:=[0,4]) (by kernel_rfl)) (qAO rfl z_range (qA0 (pv 1) qA2)) (fun z1=>pg_in 0) (fun z1=>qAY) (fun z1=>(pe_op qBQ qA7 (pe_cl C_Ltake hr rfl (qA0 (pv 1) (qA0 (pv 2) qA2)))))) qA2))) (qA4 (ps_lc (i:=6) sc_Lthere.nd rfl rfl rfl (lcs (own:=["_law_k"]) (fv:=[0,4]) (by kernel_rfl)) (qAO rfl z_range (qA0 (pv 3) qA2)) (fun z2=>pg_in 0) (fun z2=>qAY) (fun z2=>(pe_op qBQ qA7 (pe_cl C_Ltake hr rfl (qA0 (pv 1) (qA0 (pv 2) qA2))))) (by kernel_rfl)) (qA4 (ps_join (ps_if (qAF op_eq (pe_cl C_Ltake hr rfl (qA0 (pv 0) (qA0 qA7 qA2))) qA7 (nomark _)) (qA5 (ps_lc (i:=6) sc_Lthere.nd rfl rfl rfl (lcs (own:=["_law_size"]) (fv:=[4]) (by kernel_rfl)) (qB1 (pv 6)) (fun z3=>pg_in 0) (fun z3=>qAY) (fun z3=>(qAA (call_min2 rfl) rfl z_min bt_min (qA0 qA7 (qA0 (pe_op qBQ (pv 0) (pe_op op_fdiv (pv 1) qA7)) qA2)))) (by kernel_rfl))) qAH)) (qA5 (qAE (qAJ (qA0 (pv 2) (qA0 (pv 5) (qA0 (qAD qAL rfl z_tuple qAV (qA0 (pv 6) qA2)) qA2)))))))))))))),?_⟩
 try dsimp only [Cx.nox,Cx.wish,cxOf]
 refine ⟨_,rfl,d,c,t,ns,6,rfl,S,(by show t≤1000000000;lia),by decide,by decide,fun m0 ns1 H1 a0 a1 S1 K1=>⟨_,_,rfl,rfl,?_⟩⟩
 have mb:1≤1+m0∧1+m0≤6:=by lia
 dsimp only
 generalize 1+m0=many at mb ⊢
 refine ⟨_,rfl,_,rfl,d,c,t+1,ns1,many,rfl,S1,(by show t+1≤1000000000 - 10000;lia),by lia,by lia,fun a net t2 ns2 H2 S2 g1 g2 K2 hN wf nl=>?_⟩
 refine ⟨_,rfl,(by show 2≤sizeLine;decide),fun p0 hp0=>?_⟩
 have s0:=qA3 hp0 (.lst [.int 5,.int 3])
 have n0:p0 ≠ d∧p0 ≠ c:=⟨(qA6 S2.dict hp0).symm,(qA6 S2.list hp0).symm⟩
 refine ⟨_,rfl,_,_,rfl,rfl,.inr ⟨_,rfl,?_⟩⟩
 obtain ⟨k53,hk53,k1,k2⟩:=pick53 (decide (many > 4))
 refine ⟨p0,_,_,_,rfl,rfl,SqL.of qA1,hk53,?_⟩
 refine ⟨d,c,t2,ns2,k53,rfl,S2.same s0,(by show t2≤1000000000;lia),k1,by lia,fun r0 ns3 H3 b0 b1 S3 K3=>⟨_,_,rfl,rfl,?_⟩⟩
 have hN3:=(hN.same s0).keep (S2.same s0) K3
 have kA:=(K1.trans K2).trans ((Keep.of_same s0).trans K3)
 clear hk53
 refine ⟨fun σ Hc=>∃ (rooms t':Int) (ns':List Int),σ=[some (.ref d),some (.int many),some (.ref a),some (.int rooms),none,none,none]∧StAt Hc d c t' ns'∧t≤t'∧t'≤t+100∧NetAt Hc a net∧1≤rooms∧rooms≤5∧Keep d c H Hc,?_,?_⟩
 ·refine ⟨_,rfl,_,_,rfl,rfl,_,rfl,?_⟩
  refine ite2 (fun _=>?_) (fun _=>?_)
  ·refine ⟨_,rfl,d,c,t2+1,ns3,6,rfl,S3,(by show t2+1≤1000000000;lia),by decide,by decide,fun k6 ns4 H4 c0 c1 S4 K4=>⟨rfl,_,rfl,?_⟩⟩
   refine ite2 (fun _=>?_) (fun _=>?_)
   ·exact ⟨4,t2+1+1,ns4,rfl,S4,by lia,by lia,hN3.keep S3 K4,by decide,by decide,kA.trans K4⟩
   ·exact ⟨1+r0,t2+1+1,ns4,rfl,S4,by lia,by lia,hN3.keep S3 K4,by lia,by lia,kA.trans K4⟩
  ·exact ⟨1+r0,t2+1,ns3,rfl,S3,by lia,by lia,hN3,by lia,by lia,kA⟩
 refine fun σ H4 hI_1=>opq fun G_1 hG_1=>?_
 obtain ⟨rooms,t4,ns4,rfl,S4,g3,g4,hN4,r1,r5,kB⟩:=hI_1
 refine hG_1 ?_
 clear kA hN3 S3 K3 hN s0 n0 hp0 S2 K2
 refine ⟨(by show 4≤sizeLine;decide),fun p0 hp0=>?_⟩
 have s0:=qA3 hp0 (.lst [.int 1,.int 2,.int 4,.int 9])
 have n0:p0 ≠ d∧p0 ≠ c:=⟨(qA6 S4.dict hp0).symm,(qA6 S4.list hp0).symm⟩
 refine ⟨_,rfl,d,c,t4,ns4,4,rfl,S4.same s0,(by show t4≤1000000000;lia),by decide,by decide,fun k4 ns5 H5 c0 c1 S5 K5=>?_⟩
 obtain ⟨most,hmost,mo1,mo9⟩:=pick1249 c0 c1
 refine ⟨p0,_,_,_,rfl,rfl,SqL.of (K5 _ _ qA1 n0.1 n0.2),hmost,?_⟩
 have hN5:=(hN4.same s0).keep (S4.same s0) K5
 have kB:=kB.trans ((Keep.of_same s0).trans K5)
 clear hmost K5 n0 s0 hp0 S4 hN4
 -- widths
 refine ⟨_,rfl,_,rfl,by lia,by lia,fun p hp=>?_⟩
 have np:p ≠ d∧p ≠ c:=⟨(qA6 S5.dict hp).symm,(qA6 S5.list hp).symm⟩
 refine qBM (p:=p) (lo:=0) (n:=many.toNat) (fun i σ Hc=>∃ (v:Option V) (fs ns':List Int),σ=[v,some (.ref d),some (.int most)]∧StAt Hc d c (t4+1+i) ns'∧Keep d c H5 Hc∧Hc p=some (.lst (fs.map V.int))∧fs.length=i∧∀ x ∈ fs,0≤x∧x≤99) ?_ ?_ ?_
 ·exact ⟨none,[],ns5,rfl,by have:=S5.same (qA3 hp (.lst []));simpa using this,qBN hp _,qA1,rfl,fun _ z=>nomatch z⟩
 ·refine fun i σ Hc hi hI_2=>opq fun G_2 hG_2=>?_
  obtain ⟨v,fs,ns',rfl,S6,K6,gp,lf,inf⟩:=hI_2
  refine hG_2 ?_
  refine ⟨_,rfl,_,rfl,d,c,t4+1+i,ns',most,rfl,S6,(by show t4+1+(i:Int)≤1000000000;lia),mo1,by lia,fun x ns7 H7 w0 w1 S7 K7=>⟨_,_,rfl,rfl,?_⟩⟩
  have gp7:=K7 _ _ gp np.1 np.2
  refine ⟨_,gp7,qAC (by rw [List.length_map];lia),_,fs++[1+x],ns7,rfl,?_,keep_put (K6.trans K7) hp,?_,by rw [List.length_append,List.length_singleton];lia,fun y hy=>?_⟩
  ·have e:t4+1+(i:Int)+1=t4+1+((i+1:Nat):Int):=by lia
   rw [e] at S7
   exact ⟨by rw [qA9 np.1.symm];exact S7.dict,by rw [qA9 np.2.symm];exact S7.list,S7.ne,S7.len,S7.pos⟩
  ·rw [qA1,List.map_append];rfl
  ·rcases List.mem_append.mp hy with hy | hy
   ·exact inf y hy
   ·rw [List.mem_singleton.mp hy];lia
 refine fun σ H6 hI_3=>opq fun G_3 hG_3=>?_
 obtain ⟨v,wides,ns6,rfl,S6,K6,gp,lw,w9⟩:=hI_3
 refine hG_3 ?_
 refine ⟨p,_,rfl,.inl ⟨SqL.of gp,fun wd hwd=>?_⟩⟩
 have sw:=qA3 hwd (.tup (wides.map V.int))
 have gwd:(upd H6 wd (.tup (wides.map V.int))) wd=some (.tup (wides.map V.int)):=qA1
 have S7:=S6.same sw
 have hN7:=(hN5.keep S5 K6).same sw
 have kC:=(kB.trans K6).trans (Keep.of_same sw)
 generalize upd H6 wd (.tup (wides.map V.int))=H7 at sw gwd S7 hN7 kC ⊢
 clear kB sw hwd gp K6 S6 np hp S5 hN5
 -- sizes
 refine ⟨_,rfl,_,rfl,by lia,by lia,fun p hp=>?_⟩
 have np:p ≠ d∧p ≠ c:=⟨(qA6 S7.dict hp).symm,(qA6 S7.list hp).symm⟩
 refine qBM (p:=p) (lo:=0) (n:=rooms.toNat) (fun i σ Hc=>∃ (v:Option V) (fs ns':List Int),σ=[v,some (.ref d),some (.int most)]∧StAt Hc d c (t4+1+many.toNat+i) ns'∧Keep d c H7 Hc∧Hc p=some (.lst (fs.map V.int))∧fs.length=i∧∀ x ∈ fs,0≤x∧x≤9) ?_ ?_ ?_
 ·exact ⟨none,[],ns6,rfl,by have:=S7.same (qA3 hp (.lst []));simpa using this,qBN hp _,qA1,rfl,fun _ z=>nomatch z⟩
 ·refine fun i σ Hc hi hI_4=>opq fun G_4 hG_4=>?_
  obtain ⟨v,fs,ns',rfl,S8,K8,gp,lf,inf⟩:=hI_4
  refine hG_4 ?_
  refine ⟨_,rfl,_,rfl,d,c,t4+1+many.toNat+i,ns',most,rfl,S8,(by show t4+1+(many.toNat:Int)+(i:Int)≤1000000000;lia),mo1,by lia,fun x ns9 H9 w0 w1 S9 K9=>⟨_,_,rfl,rfl,?_⟩⟩
  have gp9:=K9 _ _ gp np.1 np.2
  refine ⟨_,gp9,qAC (by rw [List.length_map];lia),_,fs++[1+x],ns9,rfl,?_,keep_put (K8.trans K9) hp,?_,by rw [List.length_append,List.length_singleton];lia,fun y hy=>?_⟩
  ·have e:t4+1+(many.toNat:Int)+(i:Int)+1=t4+1+(many.toNat:Int)+((i+1:Nat):Int):=by lia
   rw [e] at S9
   exact ⟨by rw [qA9 np.1.symm];exact S9.dict,by rw [qA9 np.2.symm];exact S9.list,S9.ne,S9.len,S9.pos⟩
  ·rw [qA1,List.map_append];rfl
  ·rcases List.mem_append.mp hy with hy | hy
   ·exact inf y hy
   ·rw [List.mem_singleton.mp hy];lia
 refine fun σ H8 hI_5=>opq fun G_5 hG_5=>?_
 obtain ⟨v,fs,ns8,rfl,S8,K8,gp,lf,inf⟩:=hI_5
 refine hG_5 ?_
 have gwd8:=K8 _ _ gwd (S7.tup gwd).1 (S7.tup gwd).2
 have hN8:=hN7.keep S7 K8
 have kD:=kC.trans K8
 refine ⟨fun σ Hc=>∃ (ns':List Int) (p:Addr) (sizes:List Int),σ=[some (.ref d),some (.int many),some (.ref a),some (.int rooms),some (.int most),some (.ref wd),some (.ref p)]∧StAt Hc d c (t4+1+many.toNat+rooms.toNat+1) ns'∧NetAt Hc a net∧Hc wd=some (.tup (wides.map V.int))∧Hc p=some (.lst (sizes.map V.int))∧sizes.length=rooms.toNat∧Keep d c H Hc∧∀ x ∈ sizes,0≤x∧x≤99,?_,?_⟩
 ·refine ⟨_,rfl,d,c,_,ns8,2,rfl,S8,(by show t4+1+(many.toNat:Int)+(rooms.toNat:Int)≤1000000000;lia),by decide,by decide,fun k2' ns9 H9 d0 d1 S9 K9=>⟨rfl,_,rfl,?_⟩⟩
  have gp9:=K9 _ _ gp np.1 np.2
  have gwd9:=K9 _ _ gwd8 (S8.tup gwd8).1 (S8.tup gwd8).2
  have hN9:=hN8.keep S8 K9
  refine ite2 (fun _=>?_) (fun _=>?_)
  ·refine ⟨_,rfl,p,rfl,⟨_,SqL.of gp9⟩,fun p2 hp2=>?_⟩
   refine qCB (p:=p2) (a:=p) (xs:=fs.map V.int) (fun i σ Hc=>∃ (v:Option V) (gs:List Int),σ=[v,some (.int most)]∧Same H9 Hc∧Hc p2=some (.lst (gs.map V.int))∧gs.length=i∧∀ x ∈ gs,0≤x∧x≤99) ?_ ?_ ?_ ?_
   ·exact ⟨none,[],rfl,qA3 hp2 _,qA1,rfl,fun _ z=>nomatch z⟩
   ·rintro i σ Hc hi ⟨v,gs,rfl,sm,_⟩
    exact SqL.of (sm _ _ gp9)
   ·refine fun i x σ Hc hx hI_7=>opq fun G_7 hG_7=>?_
    obtain ⟨v,gs,rfl,sm,gp2,lg,ing⟩:=hI_7
    obtain ⟨z,ez,rfl⟩:=qD2 hx
    refine hG_7 ?_
    have zi:=inf z (List.mem_of_getElem? ez)
    have hi:=(List.getElem?_eq_some_iff.mp ez).1
    refine ⟨_,rfl,_,rfl,_,_,rfl,rfl,⟨by decide,by decide⟩,_,_,rfl,rfl,_,_,rfl,?_⟩
    dsimp only
    refine ⟨_,gp2,qAC (by rw [List.length_map];lia),_,gs++[_],rfl,qAG sm hp2,(by rw [qA1,List.map_append];rfl),by rw [List.length_append,List.length_singleton];lia,fun y hy=>?_⟩
    rcases List.mem_append.mp hy with hy | hy
    ·exact ing y hy
    ·rw [List.mem_singleton.mp hy]
     split <;> lia
   ·refine fun σ Hc hI_8=>opq fun G_8 hG_8=>?_
    obtain ⟨v,gs,rfl,sm,gp2,lg,ing⟩:=hI_8
    refine hG_8 ?_
    rw [List.length_map] at lg
    exact ⟨ns9,p2,gs,rfl,S9.same sm,hN9.same sm,sm _ _ gwd9,gp2,by lia,(kD.trans K9).trans (Keep.of_same sm),ing⟩
  ·exact ⟨ns9,p,fs,rfl,S9,hN9,gwd9,gp9,lf,kD.trans K9,fun x hx=>by have:=inf x hx;lia⟩
 refine fun σ H9 hI_9=>opq fun G_9 hG_9=>?_
 obtain ⟨ns9,p3,sizes,rfl,S9,hN9,gwd9,gp9,ls,kE,s9⟩:=hI_9
 refine hG_9 ?_
 refine ⟨_,rfl,_,rfl,_,rfl,p3,_,rfl,.inl ⟨SqL.of gp9,fun sz hsz=>⟨(by show 3≤sizeLine;decide),fun T hT=>?_⟩⟩⟩
 have s1:=qA3 hsz (.tup (sizes.map V.int))
 have s2:=qA3 hT (.tup [.ref a,.ref wd,.ref sz])
 have s3:=s1.trans s2
 exact q T a wd sz net wides sizes _ ns9 _ (S9.same s3) (by lia) (by lia) (kE.trans (Keep.of_same s3)) qA1 ⟨hN9.same s3,wf,by lia,by lia,s3 _ _ gwd9,by lia,w9,s2 _ _ qA1,by lia,by lia,s9⟩
theorem rng_succ (j:Nat):rangeI 0 ((j+1:Nat):Int)=rangeI 0 (j:Int)++[0+(j:Int)]:=by
 unfold rangeI
 rw [show ((((j+1:Nat):Int) - 0).toNat)=j+1 from by lia,show (((j:Int) - 0).toNat)=j from by lia,List.range_succ,List.map_append]
 rfl
def prM (k:Int) (j:Nat):List Mo:=((rangeI 0 k).map fun rm=>⟨false,0,rm⟩)++(rangeI 0 (j:Int)).flatMap fun wk=>(rangeI 0 k).map fun rm=>⟨true,wk,rm⟩
theorem prM_succ (k:Int) (j:Nat):prM k (j+1)=prM k j++(rangeI 0 k).map fun rm=>⟨true,0+(j:Int),rm⟩:=by
 unfold prM
 rw [rng_succ,List.flatMap_append,List.append_assoc]
 simp
theorem prM_len (k j:Nat):(prM (k:Int) j).length=k * (j+1):=by
 induction j with
 | zero=>unfold prM;rw [List.length_append,List.length_map,qB7];simp [rangeI]
 | succ j ih=>rw [prM_succ,List.length_append,ih,List.length_map,qB7,Nat.mul_succ k (j+1)];lia
theorem sc_moves_there:FnScope ["net","wides","sizes","layout","moves","work"] ["net","wides","sizes","layout"] (defScope qBY):=sc_mk
theorem ok_moves_there (F:Fun K "moves_there" "moves_there" qBY f fd) (C_fault_there:Clb P w K mg base 3 f_fault_there fd_fault_there "fault_there" ["net","wides","sizes","layout","move"] (spTh false)) (z_range:mg "range" = none) (z_len:mg "len" = none):FnOk P w K mg base CX0 4 f fd ["net","wides","sizes","layout"] spMovesO:=by
 refine F.okA sc_moves_there fun cdv A outer s H vs Q E hr h=>?_
 obtain ⟨a,wd,sz,la,net,wides,sizes,lay,rfl,T,hla,ll,q⟩:=h
 have hr_fault_there:Room 3 _:=hr
 refine ⟨_,(qA4 (ps_lc (i:=4) sc_moves_there.nd rfl rfl rfl (lcs (own:=["room"]) (fv:=[]) (by kernel_rfl)) (qAO rfl z_range (qA0 (qAA qA8 rfl z_len qAQ (qA0 (pv 2) qA2)) qA2)) (fun z1=>pg_in 0) (fun z1=>qAY) (fun z1=>(qAJ (qA0 qAT (qA0 (pv 0) qA2)))) (by kernel_rfl)) (qA4 (qB5 PassesOwn.never rfl (qAO rfl z_range (qA0 (qAA qA8 rfl z_len qAQ (qA0 (pv 0) qA2)) qA2)) (qAN (i:=5) sc_moves_there.nd rfl (Or.inr rfl)) (qA5 (qBJ (pe_bm PySem.F.plainAttrs_list PySem.F.slot_list_extend PySem.F.type_list_extend mt_extend (pv 4) (qA0 (pe_lc rfl (lcs (own:=["room"]) (fv:=[5]) (by kernel_rfl)) (qAO rfl z_range (qA0 (qAA qA8 rfl z_len qAQ (qA0 (pv 2) qA2)) qA2)) (fun z2=>pg_in 0) (fun z2=>qAY) (fun z2=>(qAJ (qA0 qAT (qA0 (pv 1) (qA0 (pv 0) qA2)))))) qA2))))) (qA5 (qAE (pe_lc rfl (lcs (own:=["move"]) (fv:=[0,1,2,3]) (by kernel_rfl)) (qB1 (pv 4)) (fun z3=>pg_in 0) (fun z3=>(qDB (qBP (pc_isN (pe_cl C_fault_there hr rfl (qA0 (pv 1) (qA0 (pv 2) (qA0 (pv 3) (qA0 (pv 4) (qA0 (pv 0) qA2)))))))))) (fun z3=>(pv 0))))))),?_⟩
 try dsimp only [Cx.nox,Cx.wish,cxOf]
 have lsz:(((sizes.map V.int).length:Nat):Int)=(sizes.length:Int):=by rw [List.length_map]
 have k5:=T.k5
 have n6:=T.n6
 refine ⟨_,rfl,sz,_,rfl,.inr (SqT.of T.sizes_),_,rfl,by rw [lsz];lia,by rw [lsz];lia,fun l hl=>?_⟩
 refine qBM (p:=l) (lo:=0) (n:=((((sizes.map V.int).length:Nat):Int)).toNat) (fun j σ Hz=>∃ (v:Option V) (fs:List Addr),σ=[v]∧Same H Hz∧Hz l=some (.lst (fs.map V.ref))∧MosL Hz fs ((rangeI 0 (j:Int)).map fun x=>⟨false,0,x⟩)) ?_ ?_ ?_
 ·exact ⟨none,[],rfl,qA3 hl _,qA1,.nil⟩
 ·refine fun j σ Hz hj hI_1=>opq fun G_1 hG_1=>?_
  obtain ⟨v,fs,rfl,smz,gp,Mz⟩:=hI_1
  refine hG_1 ?_
  rw [lsz] at hj
  have lfs:=Paired.length Mz
  rw [List.length_map,qB7] at lfs
  refine ⟨_,rfl,(by show 2≤sizeLine;decide),fun T hT=>?_⟩
  have sT:=qA3 hT (.tup [.str "clear",.int (0+(j:Int))])
  refine ⟨_,sT _ _ gp,qAC (by rw [List.length_map];lia),_,fs++[T],rfl,qAG (smz.trans sT) hl,by rw [qA1,qAP],?_⟩
  rw [rng_succ,List.map_append]
  exact MosL.put (Paired.snoc (MosL.same Mz sT) (show (upd Hz T (.tup [.str "clear",.int (0+(j:Int))])) T=some (.tup (Mo.vs ⟨false,0,0+(j:Int)⟩)) from qA1)) (sT _ _ gp)
 refine fun σ Hz hI_2=>opq fun G_2 hG_2=>?_
 obtain ⟨v,fs0,rfl,sm0,gl0,M0⟩:=hI_2
 refine hG_2 ?_
 have em:((((((sizes.map V.int).length:Nat):Int)).toNat:Nat):Int)=(sizes.length:Int):=by rw [lsz];lia
 rw [em] at M0
 have M0:MosL Hz fs0 (prM (sizes.length:Int) 0):=by
  have:prM (sizes.length:Int) 0=(rangeI 0 (sizes.length:Int)).map fun x=>⟨false,0,x⟩:=by unfold prM;simp [rangeI]
  rw [this];exact M0
 obtain ⟨rs,hA,NL⟩:=T.net_.same sm0
 have lrv:(((rs.map V.ref).length:Nat):Int)=(net.length:Int):=by rw [List.length_map,Paired.length NL]
 refine ⟨_,rfl,a,_,rfl,.inr (SqT.of hA),_,rfl,by rw [lrv];lia,by rw [lrv];lia,qB8 (lo:=0) (n:=((((rs.map V.ref).length:Nat):Int)).toNat) (fun i σ Hc=>∃ (v:Option V) (fs:List Addr),σ=[some (.ref a),some (.ref wd),some (.ref sz),some (.ref la),some (.ref l),v]∧Same H Hc∧Hc l=some (.lst (fs.map V.ref))∧MosL Hc fs (prM (sizes.length:Int) i))
  ⟨none,fs0,rfl,sm0,gl0,M0⟩ ?_ ?_⟩
 ·clear sm0 gl0 M0 hA NL
  refine fun i σ Hc hi hI_3=>opq fun G_3 hG_3=>?_
  obtain ⟨v,fs,rfl,sm,gl,M⟩:=hI_3
  refine hG_3 ?_
  rw [lrv] at hi
  have lfs:=Paired.length M
  rw [prM_len] at lfs
  have lb:fs.length≤5 * 7:=by
   rw [lfs]
   exact Nat.mul_le_mul (by lia) (by lia)
  refine ⟨_,rfl,.inl ⟨rfl,_,SqL.of gl⟩,_,rfl,sz,_,rfl,.inr (SqT.of (sm _ _ T.sizes_)),_,rfl,by rw [lsz];lia,by rw [lsz];lia,fun p hp=>?_⟩
  refine qBM (p:=p) (lo:=0) (n:=((((sizes.map V.int).length:Nat):Int)).toNat) (fun j σ Hz=>∃ (v:Option V) (es:List Addr),σ=[v,some (.int (0+(i:Int)))]∧Same Hc Hz∧Hz p=some (.lst (es.map V.ref))∧MosL Hz es ((rangeI 0 (j:Int)).map fun x=>⟨true,0+(i:Int),x⟩)) ?_ ?_ ?_
  ·exact ⟨none,[],rfl,qA3 hp _,qA1,.nil⟩
  ·refine fun j σ Hz hj hI_4=>opq fun G_4 hG_4=>?_
   obtain ⟨v,es,rfl,smz,gp,Mz⟩:=hI_4
   refine hG_4 ?_
   rw [lsz] at hj
   have les:=Paired.length Mz
   rw [List.length_map,qB7] at les
   refine ⟨_,rfl,_,rfl,(by show 3≤sizeLine;decide),fun T hT=>?_⟩
   have sT:=qA3 hT (.tup [.str "do",.int (0+(i:Int)),.int (0+(j:Int))])
   refine ⟨_,sT _ _ gp,qAC (by rw [List.length_map];lia),_,es++[T],rfl,qAG (smz.trans sT) hp,by rw [qA1,qAP],?_⟩
   rw [rng_succ,List.map_append]
   exact MosL.put (Paired.snoc (MosL.same Mz sT) (show (upd Hz T (.tup [.str "do",.int (0+(i:Int)),.int (0+(j:Int))])) T=some (.tup (Mo.vs ⟨true,0+(i:Int),0+(j:Int)⟩)) from qA1)) (sT _ _ gp)
  ·refine fun σ Hz hI_5=>opq fun G_5 hG_5=>?_
   obtain ⟨v,es,rfl,smz,gp,Mz⟩:=hI_5
   refine hG_5 ?_
   rw [em] at Mz
   have les:=Paired.length Mz
   rw [List.length_map,qB7] at les
   refine ⟨l,p,_,_,rfl,rfl,smz _ _ gl,gp,Nat.le_of_lt (qAC (by rw [List.length_map,List.length_map];lia)),?_⟩
   refine ⟨_,fs++es,rfl,qAG (sm.trans smz) hl,by rw [qA1];exact congrArg (fun l=>some (HO.lst l)) (List.map_append ..).symm,?_⟩
   rw [prM_succ]
   exact MosL.put (paired_app (MosL.same M smz) Mz) (smz _ _ gl)
 ·clear sm0 gl0 M0 hA NL
  refine fun σ Hc hI_6=>opq fun G_6 hG_6=>?_
  obtain ⟨v,fs,rfl,sm,gl,M⟩:=hI_6
  refine hG_6 ?_
  have en:(((((rs.map V.ref).length:Nat):Int)).toNat)=net.length:=by rw [lrv];lia
  rw [en] at M
  have M:MosL Hc fs (prMo (net.length:Int) (sizes.length:Int)):=M
  have T2:=T.same sm
  have lfs:=Paired.length M
  have lp:(prMo (net.length:Int) (sizes.length:Int)).length=sizes.length * (net.length+1):=prM_len sizes.length net.length
  have lb:fs.length≤5 * 7:=by
   rw [lfs,lp]
   exact Nat.mul_le_mul (by lia) (by lia)
  refine ⟨_,rfl,l,rfl,⟨_,SqL.of gl⟩,fun p hp=>?_⟩
  refine qCB (p:=p) (a:=l) (xs:=fs.map V.ref) (fun i σ Hz=>∃ (v:Option V) (es:List Addr),σ=[v,some (.ref a),some (.ref wd),some (.ref sz),some (.ref la)]∧Same Hc Hz∧Hz p=some (.lst (es.map V.ref))∧MosL Hz es (((prMo (net.length:Int) (sizes.length:Int)).take i).filter fun m=>decide (fwO net wides sizes lay m=.non))) ?_ ?_ ?_ ?_
  ·exact ⟨none,[],rfl,qA3 hp _,qA1,.nil⟩
  ·rintro i σ Hz hi ⟨v,es,rfl,smz,_⟩
   exact SqL.of (smz _ _ gl)
  ·refine fun i x σ Hz hx hI_8=>opq fun G_8 hG_8=>?_
   obtain ⟨v,es,rfl,smz,gp,Mz⟩:=hI_8
   obtain ⟨mv,hmv,rfl⟩:=qBH hx
   obtain ⟨m,hm,gm⟩:=qAU M hmv
   refine hG_8 ?_
   have lk:=filt_len (p:=fun m=>decide (fwO net wides sizes lay m=.non)) (l:=prMo (net.length:Int) (sizes.length:Int)) (i:=i)
   have les:=Paired.length Mz
   have hi:=(List.getElem?_eq_some_iff.mp hmv).1
   obtain ⟨b1,b2⟩:=mem_prMo.mp (List.mem_of_getElem? hm)
   obtain ⟨ns,o,sv,wv,TI,ef⟩:=(T.same (sm.trans smz)).tinO (smz _ _ (sm _ _ hla)) ll (smz _ _ gm) (mem_pr_all (List.mem_of_getElem? hm))
   refine ⟨_,rfl,_,rfl,_,rfl,_,rfl,_,rfl,a,wd,sz,la,mv,net,wides,sizes,lay,m,ns,o,sv,wv,rfl,TI,(fun e=>nomatch e),fun H4 s4=>?_⟩
   rw [← ef,qDD hm]
   have s5:=smz.trans s4
   refine ⟨_,rfl,?_⟩
   by_cases c:fwO net wides sizes lay m=.non
   ·rw [decide_eq_true c]
    refine ⟨_,rfl,_,s4 _ _ gp,qAC (by rw [List.length_map];lia),_,es++[mv],rfl,qAG s5 hp,by rw [qA1,qAP],?_⟩
    rw [if_pos rfl]
    exact MosL.put (Paired.snoc (MosL.same Mz s4) (s5 _ _ gm)) (s4 _ _ gp)
   ·rw [decide_eq_false c]
    refine ⟨_,es,rfl,s5,s4 _ _ gp,?_⟩
    rw [if_neg Bool.false_ne_true,List.append_nil]
    exact MosL.same Mz s4
  ·refine fun σ Hz hI_9=>opq fun G_9 hG_9=>?_
   obtain ⟨v,es,rfl,smz,gp,Mz⟩:=hI_9
   refine hG_9 ?_
   rw [List.length_map,lfs,List.take_of_length_le (Nat.le_refl _)] at Mz
   exact q p es Hz (sm.trans smz) (sm.free hp) gp Mz
theorem sc_Lcome_there:FnScope ["_law_net_here","_law_wides","_law_sizes","_law_found","_law_moves","_law_here","_law_many","_law_at","_law_room","_law_less","_law_further","_law_layout","_law_move","_law_more"] ["_law_net_here","_law_wides","_law_sizes"] (defScope qC0):=sc_mk
theorem ok_Lcome_there (F:Fun K "_law_come_there" "_law_come_there" qC0 f fd) (C_Lall_moves:Clb P w K mg base 1 f_Lall_moves fd_Lall_moves "_law_all_moves" ["_law_net_here","_law_sizes"] spAllMo) (C_Lput:Clb P w K mg base 1 f_Lput fd_Lput "_law_put" ["_law_layout","_law_move"] spLayB) (C_Lfault:Clb P w K mg base 1 f_Lfault fd_Lfault "_law_fault" ["_law_net_here","_law_wides","_law_sizes","_law_layout","_law_move"] (spTh false)) (z_len:mg "len" = none) (z_list:mg "list" = none) (z_range:mg "range" = none):FnOk P w K mg base CX0 2 f fd ["_law_net_here","_law_wides","_law_sizes"] spComeD:=by
 refine F.okA sc_Lcome_there fun cdv A outer s H vs Q E hr h=>?_
 obtain ⟨a,wd,sz,net,wides,sizes,rfl,T,q⟩:=h
 have hu:=hu_of hr
 have hu0:=hr.units0
 refine ⟨_,(qA4 (qAB (i:=3) sc_Lcome_there.nd rfl (Or.inl rfl) (pe_disp1T hu (pe_op op_repT (qAJ (qA0 qBU qA2)) (qAA qA8 rfl z_len qAQ (qA0 (pv 2) qA2))) qA7)) (qA4 (qAB (i:=4) sc_Lcome_there.nd rfl (Or.inl rfl) (pe_cl C_Lall_moves hr rfl (qA0 (pv 0) (qA0 (pv 2) qA2)))) (qA4 (qAB (i:=5) sc_Lcome_there.nd rfl (Or.inl rfl) (qAD (qCI rfl) rfl z_list qBS (qA0 (pv 3) qA2))) (qA4 (qAB (i:=6) sc_Lcome_there.nd rfl (Or.inl rfl) qA7) (qA4 (ps_while PassesOwn.never (qAF (qD1 hu0) (pv 5) (qAK qA2) (nomark _)) (qA4 (qAB (i:=7) sc_Lcome_there.nd rfl (Or.inl rfl) qA7) (qA4 (ps_while PassesOwn.never (qAF op_lt (pv 7) (qAA qA8 rfl z_len qAQ (qA0 (pv 5) qA2)) (nomark _)) (qA4 (qB5 PassesOwn.never rfl (qAO rfl z_range (qA0 (qAA qA8 rfl z_len qAQ (qA0 (pv 2) qA2)) qA2)) (qAN (i:=8) sc_Lcome_there.nd rfl (Or.inl rfl)) (qA4 (qAB (i:=9) sc_Lcome_there.nd rfl (Or.inl rfl) (pe_cl C_Lput hr rfl (qA0 (pe_ix qCC (pv 5) (pv 7) (fun _ _=>rfl)) (qA0 (qAJ (qA0 qAT (qA0 (pv 8) qA2))) qA2)))) (qA5 (ps_if (qBP (qCF hu (pv 9) (pv 3))) (qA4 (ps_dput hu (pv 3) (pv 9) (pv 6) rfl) (qA5 (qBJ (pe_bm PySem.F.plainAttrs_list PySem.F.slot_list_append PySem.F.type_list_append qB6 (pv 5) (qA0 (pv 9) qA2))))) qAH)))) (qA5 (qAB (i:=7) sc_Lcome_there.nd rfl (Or.inl rfl) (pe_op qBQ (pv 7) qA7))))) (qA4 (qAB (i:=6) sc_Lcome_there.nd rfl (Or.inl rfl) (pe_op qBQ (pv 6) qA7)) (qA4 (qAB (i:=10) sc_Lcome_there.nd rfl (Or.inl rfl) (qAK qA2)) (qA4 (qB5 PassesOwn.never rfl (qB1 (pv 5)) (qAN (i:=11) sc_Lcome_there.nd rfl (Or.inl rfl)) (qA5 (qB5 PassesOwn.never rfl (qB1 (pv 4)) (qAN (i:=12) sc_Lcome_there.nd rfl (Or.inl rfl)) (qA5 (ps_if (PW.pt (pw_and (qAF op_eq (pe_ix qAR (pv 12) qA7 (fun _ _=>rfl)) qAT (nomark _)) (pw_and1 (qBP (pc_isN (pe_cl C_Lfault hr rfl (qA0 (pv 0) (qA0 (pv 1) (qA0 (pv 2) (qA0 (pv 11) (qA0 (pv 12) qA2))))))))))) (qA4 (qAB (i:=13) sc_Lcome_there.nd rfl (Or.inl rfl) (pe_cl C_Lput hr rfl (qA0 (pv 11) (qA0 (pv 12) qA2)))) (qA5 (ps_if (qBP (qCF hu (pv 13) (pv 3))) (qA4 (ps_dput hu (pv 3) (pv 13) (pv 6) rfl) (qA5 (qBJ (pe_bm PySem.F.plainAttrs_list PySem.F.slot_list_append PySem.F.type_list_append qB6 (pv 10) (qA0 (pv 13) qA2))))) qAH))) qAH))))) (qA5 (qAB (i:=5) sc_Lcome_there.nd rfl (Or.inl rfl) (pv 10))))))))) (qA5 (qAE (pv 3)))))))),?_⟩
 try dsimp only [Cx.nox,Cx.wish,cxOf]
 have k1:=T.k1
 have k5:=T.k5
 have n6:=T.n6
 have pw:(net.length+1) ^ sizes.length≤16807:=Nat.le_trans (Nat.pow_le_pow_left (show net.length+1≤7 by lia) _) (Nat.pow_le_pow_right (show 0<7 by decide) k5)
 have lsz:(((sizes.map V.int).length:Nat):Int)=(sizes.length:Int):=by rw [List.length_map]
 have lsn:((((sizes.map V.int).length:Nat):Int)).toNat=sizes.length:=by rw [lsz];lia
 intro d hd
 have s1:=qA3 hd (.dT [])
 refine ⟨(by show 1≤sizeLine;decide),fun t1 ht1=>?_⟩
 have s2:=qA3 ht1 (.tup [.non])
 refine ⟨_,rfl,sz,_,rfl,.inr (SqT.of (s2 _ _ (s1 _ _ T.sizes_))),?_⟩
 rw [lsz]
 refine qCE qA1 k1 (by lia) fun st H1 sm1 gst=>⟨sm1 _ _ (s2 _ _ qA1),st,keyO (l0 sizes),rfl,by rw [qAZ];exact gst,?_⟩
 have sA:Same H (upd H1 d (.dT [(keyO (l0 sizes),.int 0)])):=qAG (s1.trans (s2.trans sm1)) hd
 have gd:(upd H1 d (.dT [(keyO (l0 sizes),.int 0)])) d=some (.dT (kvC [l0 sizes] fun _=>0)):=qA1
 have gst:=qC9 (u:=.dT [(keyO (l0 sizes),.int 0)]) gst (sm1 _ _ (s2 _ _ qA1)) (fun xs z=>by cases z)
 generalize upd H1 d (.dT [(keyO (l0 sizes),.int 0)])=H2 at sA gd gst ⊢
 have fdn:H d=none:=hd
 clear s1 s2 sm1 ht1 hd
 refine ⟨_,rfl,_,rfl,a,sz,net,sizes,rfl,T.net_.same sA,n6,sA _ _ T.sizes_,k5,fun ml H3 s3 fm MA=>?_⟩
 obtain ⟨rsm,gm,MM⟩:=MA
 have sB:=sA.trans s3
 have gd:=s3 _ _ gd
 have gst:=s3 _ _ gst
 have ndm:d ≠ ml:=ne_of gd gm (by intro z;cases z)
 have fml:H ml=none:=sA.free fm
 clear s3 sA fm
 refine ⟨_,rfl,d,_,rfl,gd,(by rw [kvC_len];show 1≤20000;decide),fun hl rs fh KA=>?_⟩
 obtain ⟨r0,er,gr0⟩:∃ r0,rs=[r0]∧H3 r0=some (.tup ((l0 sizes).map oV)):=by
  cases KA with
  | cons g t=>
   cases t
   exact ⟨_,rfl,by have:=g;rw [qAZ] at this;exact this⟩
 subst er
 have s4:=qA3 fh (.lst ([r0].map V.ref))
 have sC:=sB.trans s4
 have gd1:=s4 _ _ gd
 have gm1:=s4 _ _ gm
 have MM1:=MosL.same MM s4
 have gh1:(upd H3 hl (.lst ([r0].map V.ref))) hl=some (.lst ([r0].map V.ref)):=qA1
 have L1:LaysAt (upd H3 hl (.lst ([r0].map V.ref))) [r0] [l0 sizes]:=.cons (s4 _ _ gr0) .nil
 have fhl:H hl=none:=sB.free fh
 have nhm:hl ≠ ml:=(qA6 gm fh).symm
 generalize upd H3 hl (.lst ([r0].map V.ref))=H4 at sC gd1 gm1 MM1 gh1 L1 ⊢
 clear s4 sB gd gm MM gst fh KA gr0
 refine cut fun N3 hN3=>?_
 refine hN3 _ _ (cut fun N4 hN4=>?_)
 refine hN4 _ _ (cut fun N5 hN5=>?_)
 refine ⟨fun m σ Hc=>∃ (hl:Addr) (rs:List Addr) (ks ly:List La) (f:La→Nat) (many:Nat) (v7 v8 v9 v10 v11 v12 v13:Option V),σ=[some (.ref a),some (.ref wd),some (.ref sz),some (.ref d),some (.ref ml),some (.ref hl),some (.int (many:Int)),v7,v8,v9,v10,v11,v12,v13]∧m=16808 - many∧Same H Hc∧H hl=none∧hl ≠ ml∧Hc ml=some (.lst (rsm.map V.ref))∧MosL Hc rsm (allMo (net.length:Int) (sizes.length:Int))∧Hc d=some (.dT (kvC ks f))∧Hc hl=some (.lst (rs.map V.ref))∧LaysAt Hc rs ly∧A1O net wides sizes many ks f ly 0 0∧(ly ≠ []→many<ks.length),
  ⟨_,hl,[r0],[l0 sizes],[l0 sizes],fun _=>0,0,none,none,none,none,none,none,none,rfl,rfl,sC,fhl,nhm,gm1,MM1,gd1,gh1,L1,A1O.start,fun _=>Nat.zero_lt_one⟩,?_⟩
 clear sC gm1 MM1 gd1 gh1 L1 fhl nhm
 refine fun m σ Hc hI_1=>opq fun G_1 hG_1=>?_
 obtain ⟨hl,rs,ks,ly,f,many,v7,v8,v9,v10,v11,v12,v13,rfl,rfl,sm,fhl,nhm,gm,MM,gd,gh,LA,I1,lm⟩:=hI_1
 refine hG_1 ?_
 refine ⟨_,rfl,(by show 0≤sizeLine;decide),fun e he=>?_⟩
 have se:=qA3 he (.lst [])
 refine ⟨hl,e,_,rfl,rfl,SqL.of (se _ _ gh),SqL.of qA1,_,rfl,?_⟩
 have gm1:=se _ _ gm
 have MM1:=MosL.same MM se
 have gd1:=se _ _ gd
 have gh1:=se _ _ gh
 have LA1:=LA.same se
 have sm1:=sm.trans se
 generalize upd Hc e (.lst [])=H3 at gm1 MM1 gd1 gh1 LA1 sm1 ⊢
 clear se he gm MM gd gh LA sm
 have lrs:rs.length=ly.length:=Paired.length LA1
 refine ite2 (fun cn=>?_) (fun cn=>?_)
 ·have lne:ly ≠ []:=fun z=>by
   rw [z] at lrs
   rw [List.length_eq_zero_iff.mp lrs] at cn
   cases cn
  have lk:=lm lne
  have kl:=I1.fd.len
  refine nameN fun W0 hW0=>?_
  refine cut fun M1 hM1=>?_
  refine hM1 _ _ (cut fun M3 hM3=>?_)
  refine ⟨fun m σ Hc=>∃ (rs:List Addr) (ks cl:List La) (f:La→Nat) (at_:Nat) (v8 v9:Option V),σ=[some (.ref a),some (.ref wd),some (.ref sz),some (.ref d),some (.ref ml),some (.ref hl),some (.int (many:Int)),some (.int (at_:Int)),v8,v9,v10,v11,v12,v13]∧m=16807 - at_∧Same H Hc∧Hc ml=some (.lst (rsm.map V.ref))∧MosL Hc rsm (allMo (net.length:Int) (sizes.length:Int))∧Hc d=some (.dT (kvC ks f))∧Hc hl=some (.lst (rs.map V.ref))∧LaysAt Hc rs cl∧A1O net wides sizes many ks f cl at_ 0∧many<ks.length,
   ⟨_,rs,ks,ly,f,0,v8,v9,rfl,rfl,sm1,gm1,MM1,gd1,gh1,LA1,I1,lk⟩,?_⟩
  clear gm1 MM1 gd1 gh1 LA1 sm1 I1 lk kl lm lrs
  refine fun m σ Hc hI_2=>opq fun G_2 hG_2=>?_
  obtain ⟨rs,ks,cl,f,at_,v8,v9,rfl,rfl,sm,gm,MM,gd,gh,LA,I1,lk⟩:=hI_2
  refine hG_2 ?_
  have lcl:=I1.len
  have kl:=I1.fd.len
  have lrs:rs.length=cl.length:=Paired.length LA
  refine ⟨_,rfl,_,rfl,hl,_,rfl,.inl (SqL.of gh),_,_,rfl,rfl,_,rfl,?_⟩
  have ecl:((((rs.map V.ref).length:Nat):Int))=(cl.length:Int):=by rw [List.length_map,lrs]
  dsimp only
  rw [ecl]
  refine ite2 (fun ca=>?_) (fun ca=>?_)
  ·have ca':(at_:Int)<(cl.length:Int):=of_decide_eq_true ca
   refine nameN fun W1 hW1=>?_
   refine cut fun L1 hL1=>?_
   refine ⟨_,rfl,sz,_,rfl,.inr (SqT.of (sm _ _ T.sizes_)),_,rfl,by rw [lsz];lia,by rw [lsz];lia,for_rangeN (lo:=0) (n:=((((sizes.map V.int).length:Nat):Int)).toNat) (fun k σ Hc=>∃ (rs:List Addr) (ks cl:List La) (f:La→Nat) (v8 v9:Option V),σ=[some (.ref a),some (.ref wd),some (.ref sz),some (.ref d),some (.ref ml),some (.ref hl),some (.int (many:Int)),some (.int (at_:Int)),v8,v9,v10,v11,v12,v13]∧Same H Hc∧Hc ml=some (.lst (rsm.map V.ref))∧MosL Hc rsm (allMo (net.length:Int) (sizes.length:Int))∧Hc d=some (.dT (kvC ks f))∧Hc hl=some (.lst (rs.map V.ref))∧LaysAt Hc rs cl∧A1O net wides sizes many ks f cl at_ k∧many<ks.length∧at_<cl.length)
    ⟨rs,ks,cl,f,v8,v9,rfl,sm,gm,MM,gd,gh,LA,I1,lk,by lia⟩ ?_ ?_⟩
   ·clear sm gm MM gd gh LA I1 lk lcl kl ca ca' ecl lrs
    refine fun k σ Hc hk hI_3 Na hNa=>opq fun G_3 hG_3=>?_
    obtain ⟨rs,ks,cl,f,v8,v9,rfl,sm,gm,MM,gd,gh,LA,I1,lk,la⟩:=hI_3
    refine hG_3 ?_
    rw [lsn] at hk
    have lcl:=I1.len
    have kl:=I1.fd.len
    have lrs:rs.length=cl.length:=Paired.length LA
    have ec:cl[at_]?=some cl[at_]:=List.getElem?_eq_getElem la
    generalize cl[at_]=x at ec
    obtain ⟨rx,erx,grx⟩:=paired_get2 LA ec
    have ga:atI (rs.map V.ref) (at_:Int)=some (.ref rx):=qBV (by lia) (by rw [Int.toNat_natCast,List.getElem?_map,erx];rfl)
    have e0:(0+(k:Int)).toNat=k:=by lia
    have xk:=(I1.clm x).mp (List.mem_of_getElem? ec)
    have lx:=(I1.fd.snd x xk.1).2.1.lay.1
    have nhd:d ≠ hl:=ne_of gd gh (by intro z;cases z)
    have nt:∀ kk xs,HO.dT kk ≠ .tup xs:=fun kk xs q=>by cases q
    have nt2:∀ kk xs,HO.lst kk ≠ .tup xs:=fun kk xs q=>by cases q
    refine cut fun L2 hL2=>?_
    refine ⟨_,rfl,_,rfl,hl,_,_,_,rfl,rfl,SqL.of gh,ga,_,rfl,(by show 2≤sizeLine;decide),fun tc htc=>?_⟩
    have sc:=qA3 htc (.tup [.str "clear",.int (0+(k:Int))])
    refine ⟨rx,tc,x,⟨false,0,0+(k:Int)⟩,rfl,sc _ _ grx,qA1,(by show (0:Int)≤0+(k:Int);lia),(by show (0+(k:Int)).toNat<x.length;rw [e0,lx];exact hk),(by rw [lx];lia),fun r H6 s6 gr=>?_⟩
    have gr:H6 r=some (.tup ((x.set k none).map oV)):=by
     have:=gr
     dsimp only at this
     rw [e0] at this
     exact this
    have s7:=sc.trans s6
    have sm:=sm.trans s7
    have gm:=s7 _ _ gm
    have MM:=MosL.same MM s7
    have gd:=s7 _ _ gd
    have gh:=s7 _ _ gh
    have LA:=LA.same s7
    clear s6 sc htc s7 grx ga
    refine hL2 _ _ ?_
    refine ⟨_,rfl,_,rfl,d,_,rfl,.inr ⟨kvC ks f,keyO (x.set k none),r,.inl gd,rfl,by rw [qAZ];exact gr,rfl⟩,_,rfl,?_⟩
    rw [kvC_val]
    by_cases ck:x.set k none ∈ ks
    ·rw [if_pos ck]
     exact hNa _ _ ⟨rs,ks,cl,f,_,_,rfl,sm,gm,MM,gd,gh,LA,I1.hit ec ck,lk,la⟩
    ·rw [if_neg ck]
     refine iteT (cut fun L3 hL3=>?_)
     refine ⟨_,rfl,_,rfl,_,rfl,d,_,rfl,.inr ⟨kvC ks f,keyO (x.set k none),r,gd,rfl,by rw [qAZ];exact gr,qAC (by rw [kvC_len];lia),rfl⟩,?_⟩
     rw [kvC_put ck]
     refine hL3 _ _ ?_
     have gh1:(upd H6 d (.dT (kvC (ks++[x.set k none]) (fsO f (x.set k none) many)))) hl=some (.lst (rs.map V.ref)):=by rw [qA9 nhd.symm];exact gh
     refine ⟨_,rfl,.inl ⟨rfl,_,SqL.of gh1⟩,_,rfl,hl,_,_,rfl,rfl,gh1,qAC (by rw [List.length_map];lia),?_⟩
     refine hNa _ _ ⟨rs++[r],ks++[x.set k none],cl++[x.set k none],fsO f (x.set k none) many,_,_,rfl,qAG (qAG sm fdn) fhl,by rw [qA9 nhm.symm,qA9 ndm.symm];exact gm,mosPut (mosPut MM gd (nt _)) gh1 (nt2 _),by rw [qA9 nhd,qA1],by rw [qA1,qAP],(((LA.snoc gr).put gd (nt _)).put gh1 (nt2 _)),I1.add ec hk ck,by rw [List.length_append];lia,by rw [List.length_append];lia⟩
   ·refine fun σ Hc hI_4=>opq fun G_4 hG_4=>?_
    obtain ⟨rs,ks,cl,f,v8,v9,rfl,sm,gm,MM,gd,gh,LA,I1,lk,la⟩:=hI_4
    refine hG_4 ?_
    rw [lsn] at I1
    have lcl:=I1.len
    refine hL1 _ _ ?_
    refine ⟨_,rfl,_,_,rfl,rfl,?_⟩
    exact hW1 _ _ ⟨16807 - (at_+1),by lia,rs,ks,cl,f,at_+1,_,_,rfl,rfl,sm,gm,MM,gd,gh,LA,I1.next,lk⟩
  ·have ca':¬ (at_:Int)<(cl.length:Int):=of_decide_eq_false (Bool.eq_false_iff.mpr ca)
   refine hM3 _ _ (cut fun M4 hM4=>?_)
   refine ⟨_,rfl,_,_,rfl,rfl,?_⟩
   refine hM4 _ _ (cut fun M5 hM5=>?_)
   refine ⟨(by show 0≤sizeLine;decide),fun lz hlz=>?_⟩
   have flz:H lz=none:=sm.free hlz
   have szz:=qA3 hlz (.lst [])
   have nmz:ml ≠ lz:=qA6 gm hlz
   have ndz:d ≠ lz:=qA6 gd hlz
   have nhz:hl ≠ lz:=qA6 gh hlz
   have nhd:d ≠ hl:=ne_of gd gh (by intro z;cases z)
   have gz:(upd Hc lz (.lst [])) lz=some (.lst (([]:List Addr).map V.ref)):=qA1
   have gm1:=szz _ _ gm
   have MM1:=MosL.same MM szz
   have gd1:=szz _ _ gd
   have gh1:=szz _ _ gh
   have LA1:=LA.same szz
   have sm1:=sm.trans szz
   generalize upd Hc lz (.lst [])=H5 at gz gm1 MM1 gd1 gh1 LA1 sm1 ⊢
   clear szz hlz gm MM gd gh LA sm
   refine hM5 _ _ ?_
   have J0:=I1.two (by lia)
   refine ⟨_,rfl,hl,rfl,⟨_,SqL.of gh1⟩,for_listN (a:=hl) (xs:=rs.map V.ref) (fun i σ Hc=>∃ (zr:List Addr) (ks ly:List La) (f:La→Nat) (v11 v12 v13:Option V),σ=[some (.ref a),some (.ref wd),some (.ref sz),some (.ref d),some (.ref ml),some (.ref hl),some (.int ((many+1:Nat):Int)),some (.int (at_:Int)),v8,v9,some (.ref lz),v11,v12,v13]∧Same H Hc∧Hc ml=some (.lst (rsm.map V.ref))∧MosL Hc rsm (allMo (net.length:Int) (sizes.length:Int))∧Hc d=some (.dT (kvC ks f))∧Hc hl=some (.lst (rs.map V.ref))∧LaysAt Hc rs cl∧Hc lz=some (.lst (zr.map V.ref))∧LaysAt Hc zr ly∧A2O net wides sizes many ks f cl ly i 0∧many+1+ly.length≤ks.length)
    ⟨[],ks,[],f,v11,v12,v13,rfl,sm1,gm1,MM1,gd1,gh1,LA1,gz,.nil,J0,by simp;lia⟩ (fun i σ Hc _ hP=>by obtain ⟨_,_,_,_,_,_,_,_,_,_,_,_,g,_⟩:=hP;exact SqL.of g) ?_ ?_⟩
   ·clear gm1 MM1 gd1 gh1 LA1 gz sm1 J0 I1 lk kl
    refine fun i x0 σ Hc hx hI_5 Nb hNb=>opq fun G_5 hG_5=>?_
    obtain ⟨zr,ks,ly,f,v11,v12,v13,rfl,sm,gm,MM,gd,gh,LA,gz,LZ,J,lk⟩:=hI_5
    obtain ⟨rx,erx,rfl⟩:=qBH hx
    obtain ⟨x,ec,_⟩:=qAU LA erx
    refine hG_5 ?_
    refine ⟨_,rfl,ml,rfl,⟨_,SqL.of gm⟩,for_listN (a:=ml) (xs:=rsm.map V.ref) (fun k σ Hc=>∃ (zr:List Addr) (ks ly:List La) (f:La→Nat) (v12 v13:Option V),σ=[some (.ref a),some (.ref wd),some (.ref sz),some (.ref d),some (.ref ml),some (.ref hl),some (.int ((many+1:Nat):Int)),some (.int (at_:Int)),v8,v9,some (.ref lz),some (.ref rx),v12,v13]∧Same H Hc∧Hc ml=some (.lst (rsm.map V.ref))∧MosL Hc rsm (allMo (net.length:Int) (sizes.length:Int))∧Hc d=some (.dT (kvC ks f))∧Hc hl=some (.lst (rs.map V.ref))∧LaysAt Hc rs cl∧Hc lz=some (.lst (zr.map V.ref))∧LaysAt Hc zr ly∧A2O net wides sizes many ks f cl ly i k∧many+1+ly.length≤ks.length)
     ⟨zr,ks,ly,f,v12,v13,rfl,sm,gm,MM,gd,gh,LA,gz,LZ,J,lk⟩ (fun i σ Hc _ hP=>by obtain ⟨_,_,_,_,_,_,_,_,g,_⟩:=hP;exact SqL.of g) ?_ ?_⟩
    ·clear sm gm MM gd gh LA gz LZ J lk
     refine fun k y σ Hc hy hI_6 Nc hNc=>opq fun G_6 hG_6=>?_
     obtain ⟨zr,ks,ly,f,v12,v13,rfl,sm,gm,MM,gd,gh,LA,gz,LZ,J,lk⟩:=hI_6
     obtain ⟨rm,erm,rfl⟩:=qBH hy
     obtain ⟨mo,emo,gmo⟩:=qAU MM erm
     refine hG_6 ?_
     have kl:=J.fd.len
     obtain ⟨rx',erx',grx⟩:=paired_get2 LA ec
     rw [erx] at erx'
     cases erx'
     have hk:=(List.getElem?_eq_some_iff.mp emo).1
     have emv:mvO net sizes k=mo:=by unfold mvO;rw [List.getD_eq_getElem?_getD,emo];rfl
     have xk:=(J.clm x).mp (List.mem_of_getElem? ec)
     have lx:=(J.fd.snd x xk.1).2.1.lay.1
     have hin:=List.mem_of_getElem? emo
     have hb:=qCH hin
     have nhd:d ≠ hl:=ne_of gd gh (by intro z;cases z)
     refine ⟨_,rfl,rm,_,_,_,rfl,rfl,SqT.of gmo,show atI mo.vs 0=some (.str (match mo.dk with | true=>"do" | false=>"clear")) from by unfold Mo.vs;cases mo.dk <;> rfl,rfl,_,rfl,?_⟩
     cases hdk:mo.dk with
     | false=>
      rw [decide_eq_false (show ¬ V.str (Str.ofString "clear")=V.str (Str.ofString "do") from fun z=>qC4 (V.str.inj z))]
      exact hNc _ _ ⟨zr,ks,ly,f,_,_,rfl,sm,gm,MM,gd,gh,LA,gz,LZ,J.hit ec fun c=>absurd c.2.1 (by rw [emv,hdk];exact Bool.false_ne_true),lk⟩
     | true=>
      rw [decide_eq_true (rfl:V.str (Str.ofString "do")=V.str (Str.ofString "do"))]
      obtain ⟨ns,o,sv,wv,TI,ef⟩:=(T.same sm).tinO grx lx gmo hin
      refine ⟨_,rfl,_,rfl,_,rfl,_,rfl,_,rfl,a,wd,sz,rx,rm,net,wides,sizes,x,mo,ns,o,sv,wv,rfl,TI,(fun e=>nomatch e),fun H6 s6=>?_⟩
      rw [← ef]
      have sm:=sm.trans s6
      have gm:=s6 _ _ gm
      have MM:=MosL.same MM s6
      have gd:=s6 _ _ gd
      have gh:=s6 _ _ gh
      have LA:=LA.same s6
      have gz:=s6 _ _ gz
      have LZ:=LZ.same s6
      have grx:=s6 _ _ grx
      have gmo:=s6 _ _ gmo
      clear s6 TI ef
      refine ⟨_,rfl,?_⟩
      by_cases cf:fwO net wides sizes x mo=.non
      ·rw [decide_eq_true cf]
       have cn:canO net wides sizes x k:=⟨hk,by rw [emv];exact hdk,by rw [emv];exact cf⟩
       have eor:orO net sizes x k=beO x mo:=by unfold orO;rw [emv]
       refine iteT (cut fun L2 hL2=>?_)
       refine ⟨_,rfl,_,rfl,rx,rm,x,mo,rfl,grx,gmo,hb.1,by rw [lx];lia,by rw [lx];lia,fun r H7 s7 gr=>?_⟩
       have gr:H7 r=some (.tup ((beO x mo).map oV)):=gr
       have sm:=sm.trans s7
       have gm:=s7 _ _ gm
       have MM:=MosL.same MM s7
       have gd:=s7 _ _ gd
       have gh:=s7 _ _ gh
       have LA:=LA.same s7
       have gz:=s7 _ _ gz
       have LZ:=LZ.same s7
       clear s7 grx gmo
       refine hL2 _ _ ?_
       refine ⟨_,rfl,_,rfl,d,_,rfl,.inr ⟨kvC ks f,keyO (beO x mo),r,.inl gd,rfl,by rw [qAZ];exact gr,rfl⟩,_,rfl,?_⟩
       rw [kvC_val]
       by_cases ck:beO x mo ∈ ks
       ·rw [if_pos ck]
        exact hNc _ _ ⟨zr,ks,ly,f,_,_,rfl,sm,gm,MM,gd,gh,LA,gz,LZ,J.hit ec fun _=>by rw [eor];exact ck,lk⟩
       ·rw [if_neg ck]
        refine iteT (cut fun L3 hL3=>?_)
        refine ⟨_,rfl,_,rfl,_,rfl,d,_,rfl,.inr ⟨kvC ks f,keyO (beO x mo),r,gd,rfl,by rw [qAZ];exact gr,qAC (by rw [kvC_len];lia),rfl⟩,?_⟩
        rw [kvC_put ck]
        refine hL3 _ _ ?_
        have gz1:(upd H7 d (.dT (kvC (ks++[beO x mo]) (fsO f (beO x mo) (many+1))))) lz=some (.lst (zr.map V.ref)):=by rw [qA9 ndz.symm];exact gz
        have lzr:zr.length=ly.length:=Paired.length LZ
        have nt:∀ kk xs,HO.dT kk ≠ .tup xs:=fun kk xs q=>by cases q
        have nt2:∀ kk xs,HO.lst kk ≠ .tup xs:=fun kk xs q=>by cases q
        refine ⟨_,rfl,.inl ⟨rfl,_,SqL.of gz1⟩,_,rfl,lz,_,_,rfl,rfl,gz1,qAC (by rw [List.length_map];lia),?_⟩
        have J2:=J.add ec cn (by rw [eor];exact ck)
        rw [eor] at J2
        exact hNc _ _ ⟨zr++[r],ks++[beO x mo],ly++[beO x mo],fsO f (beO x mo) (many+1),_,_,rfl,qAG (qAG sm fdn) flz,by rw [qA9 nmz,qA9 ndm.symm];exact gm,mosPut (mosPut MM gd (nt _)) gz1 (nt2 _),by rw [qA9 ndz,qA1],by rw [qA9 nhz,qA9 nhd.symm];exact gh,(LA.put gd (nt _)).put gz1 (nt2 _),by rw [qA1,qAP],((LZ.snoc gr).put gd (nt _)).put gz1 (nt2 _),J2,by rw [List.length_append,List.length_append,List.length_singleton];lia⟩
      ·rw [decide_eq_false cf]
       exact hNc _ _ ⟨zr,ks,ly,f,_,_,rfl,sm,gm,MM,gd,gh,LA,gz,LZ,J.hit ec fun c=>absurd c.2.2 (by rw [emv];exact cf),lk⟩
    ·refine fun σ Hc hI_7=>opq fun G_7 hG_7=>?_
     obtain ⟨zr,ks,ly,f,v12,v13,rfl,sm,gm,MM,gd,gh,LA,gz,LZ,J,lk⟩:=hI_7
     refine hG_7 ?_
     rw [List.length_map,Paired.length MM] at J
     exact hNb _ _ ⟨zr,ks,ly,f,_,_,_,rfl,sm,gm,MM,gd,gh,LA,gz,LZ,J.next,lk⟩
   ·refine fun σ Hc hI_8=>opq fun G_8 hG_8=>?_
    obtain ⟨zr,ks,ly,f,v11,v12,v13,rfl,sm,gm,MM,gd,gh,LA,gz,LZ,J,lk⟩:=hI_8
    refine hG_8 ?_
    have kl:=J.fd.len
    rw [List.length_map,lrs] at J
    refine ⟨_,rfl,hW0 _ _ ⟨16808 - (many+1),by lia,lz,zr,ks,ly,f,many+1,_,_,_,_,_,_,_,rfl,rfl,sm,flz,nmz.symm,gm,MM,gd,gz,LZ,J.one (Nat.le_refl _),fun hne=>?_⟩⟩
    have:=List.length_pos_iff.mpr hne
    lia
 ·have le:ly=[]:=by
   cases ly with
   | nil=>rfl
   | cons x xs=>
    exfalso
    cases rs with
    | nil=>cases lrs
    | cons _ _=>exact cn rfl
  subst le
  refine hN5 _ _ ?_
  exact ⟨_,rfl,q d ks f _ sm1 fdn gd1 I1.come⟩
theorem sc_is_number:FnScope ["thing"] ["thing"] (defScope qCK):=sc_mk
theorem ok_is_number (F:Fun K "is_number" "is_number" qCK f fd) (z_isinstance:mg "isinstance" = none) (z_int:mg "int" = none) (z_bool:mg "bool" = none):FnOk P w K mg base CX0 1 f fd ["thing"] spNumD:=by
 refine F.okA sc_is_number fun cdv A outer s H vs Q E hr h=>?_
 obtain ⟨x,n,d,rfl,D,q⟩:=h
 refine ⟨_,(qA5 (qAE (pe_and (qAA qB0 rfl z_isinstance qAW (qA0 (pv 0) (qA0 (qCO (v:=.ty "int") rfl z_int bt_int rfl) qA2))) (pe_one (pe_not (qAA qB0 rfl z_isinstance qAW (qA0 (pv 0) (qA0 (qCO (v:=.ty "bool") rfl z_bool bt_bool rfl) qA2)))))))),?_⟩
 try dsimp only [Cx.nox,Cx.wish,cxOf]
 obtain ⟨t,ty,k1,k2,k3⟩:=ty_dat (K:=K) D
 refine ⟨_,rfl,x,"int",t,_,rfl,ty,k1,_,rfl,?_⟩
 have e:numB d=((numB d || boolB d) && !boolB d):=by cases d <;> rfl
 cases c:(numB d || boolB d) with
 | false=>
  rw [if_neg Bool.false_ne_true]
  rw [c,Bool.false_and] at e
  rw [e] at q
  exact q
 | true=>
  rw [if_pos rfl]
  rw [c,Bool.true_and] at e
  rw [e] at q
  exact ⟨_,rfl,x,"bool",t,_,rfl,ty,k2,_,rfl,q⟩
theorem sc_is_below:FnScope ["thing","end"] ["thing","end"] (defScope qD6):=sc_mk
theorem ok_is_below (F:Fun K "is_below" "is_below" qD6 f fd) (C_is_number:Clb P w K mg base 1 f_is_number fd_is_number "is_number" ["thing"] spNumD):FnOk P w K mg base CX0 2 f fd ["thing","end"] spBelowD:=by
 refine F.okA sc_is_below fun cdv A outer s H vs Q E hr h=>?_
 obtain ⟨x,n,d,e,rfl,D,q⟩:=h
 refine ⟨_,(qA5 (qAE (pe_and (pe_cl C_is_number hr rfl (qA0 (pv 0) qA2)) (pe_one (pe_chain op_le op_lt qA7 (pv 0) (pv 1)))))),?_⟩
 try dsimp only [Cx.nox,Cx.wish,cxOf]
 refine ⟨_,rfl,x,n,d,rfl,D,_,rfl,?_⟩
 cases c:numB d with
 | false=>
  rw [if_neg Bool.false_ne_true]
  have e1:belowB e d=false:=by cases d <;> first | rfl | cases c
  rw [e1] at q
  exact q
 | true=>
  rw [if_pos rfl]
  obtain ⟨i,rfl,rfl⟩:=dat_int D c
  refine ⟨_,rfl,_,_,rfl,rfl,?_⟩
  refine ⟨_,rfl,?_⟩
  have q:Q (.bl (decide (0≤i) && decide (i<e))) H:=q
  cases c1:decide ((0:Int)≤i) with
  | false=>
   rw [c1,Bool.false_and] at q
   exact iteF q
  | true=>
   rw [c1,Bool.true_and] at q
   exact iteT ⟨_,rfl,_,_,rfl,rfl,q⟩
section
variable {P:Program} {w:World} {K:PySem.W.Frag} {mg:Str→Option Value} {base:Heap} {f:Addr} {fd:FuncData}
theorem sc_is_pair:FnScope ["thing"] ["thing"] (defScope s_is_pair):=sc_mk
theorem ok_is_pair (F:Fun K "is_pair" "is_pair" s_is_pair f fd) (z_isinstance:mg "isinstance" = none) (z_tuple:mg "tuple" = none) (z_len:mg "len" = none):FnOk P w K mg base CX0 1 f fd ["thing"] spPairO:=by
 refine F.okA sc_is_pair fun cdv A outer s H vs Q E hr h=>?_
 obtain ⟨x,n,d,rfl,D,q⟩:=h
 refine ⟨_,(qA5 (qAE (pe_and (qAA qB0 rfl z_isinstance qAW (qA0 (pv 0) (qA0 (qCO (v:=.ty "tuple") rfl z_tuple qAV rfl) qA2))) (pe_one (qCN op_eq (qAA qA8 rfl z_len qAQ (qA0 (pv 0) qA2)) qA7 (nomark _)))))),?_⟩
 try dsimp only [Cx.nox,Cx.wish,cxOf]
 obtain ⟨t,ty,k1,k2,k3⟩:=ty_dat (K:=K) D
 refine ⟨_,rfl,x,"tuple",t,_,rfl,ty,k3,_,rfl,?_⟩
 cases c:tupB d with
 | false=>
  refine iteF ?_
  have e1:pairO d=false:=by cases d <;> first | rfl | cases c
  rw [e1] at q
  exact q
 | true=>
  refine iteT ?_
  obtain ⟨m,a,xs,ds,rfl,rfl,rfl,ga,lx,el⟩:=qDE D c
  refine ⟨_,rfl,a,_,rfl,.inr (SqT.of ga),rfl,?_⟩
  have e1:pairO (.tuple ds)=decide (V.int ((xs.length:Nat):Int)=V.int 2):=decide_eq_decide.mpr ⟨fun z=>by rw [lx,z];rfl,fun z=>by injection z with z;lia⟩
  rw [e1] at q
  exact q
end
section
variable {P:Program} {w:World} {K:PySem.W.Frag} {mg:Str→Option Value} {base:Heap} {f:Addr} {fd:FuncData} {f_is_pair f_is_below:Addr} {fd_is_pair fd_is_below:FuncData}
theorem sc_is_move_there:FnScope ["net","sizes","thing"] ["net","sizes","thing"] (defScope qBD):=sc_mk
theorem ok_is_move_there (F:Fun K "is_move_there" "is_move_there" qBD f fd) (C_is_pair:Clb P w K mg base 1 f_is_pair fd_is_pair "is_pair" ["thing"] spPairO) (C_is_below:Clb P w K mg base 2 f_is_below fd_is_below "is_below" ["thing","end"] spBelowD) (z_isinstance:mg "isinstance" = none) (z_tuple:mg "tuple" = none) (z_len:mg "len" = none):FnOk P w K mg base CX0 3 f fd ["net","sizes","thing"] spMoveD:=by
 refine F.okA sc_is_move_there fun cdv A outer s H vs Q E hr h=>?_
 obtain ⟨a,sz,net,sizes,x,n,d,rfl,hN,gS,D,fl,q⟩:=h
 refine ⟨_,(qA4 (ps_if (qBT (pe_cl C_is_pair hr rfl (qA0 (pv 2) qA2))) (qA5 (qAE (pe_and (qCN op_eq (pe_ix qAR (pv 2) qA7 (fun _ _=>rfl)) qAT (nomark _)) (pe_one (pe_cl C_is_below hr rfl (qA0 (pe_ix qAR (pv 2) qA7 (fun _ _=>rfl)) (qA0 (qAA qA8 rfl z_len qAQ (qA0 (pv 1) qA2)) qA2))))))) qAH) (qA4 (ps_if (PW.pt (pw_or (qCV (qBT (qAA qB0 rfl z_isinstance qAW (qA0 (pv 2) (qA0 (qCO (v:=.ty "tuple") rfl z_tuple qAV rfl) qA2))))) (pw_or (qAF op_ne (qAA qA8 rfl z_len qAQ (qA0 (pv 2) qA2)) qA7 (nomark _)) (pw_or1 (qAF op_ne (pe_ix qAR (pv 2) qA7 (fun _ _=>rfl)) qAT (nomark _)))))) (qA5 (qAE pe_bl)) qAH) (qA5 (qAE (pe_and (pe_cl C_is_below hr rfl (qA0 (pe_ix qAR (pv 2) qA7 (fun _ _=>rfl)) (qA0 (qAA qA8 rfl z_len qAQ (qA0 (pv 0) qA2)) qA2))) (pe_one (pe_cl C_is_below hr rfl (qA0 (pe_ix qAR (pv 2) qA7 (fun _ _=>rfl)) (qA0 (qAA qA8 rfl z_len qAQ (qA0 (pv 1) qA2)) qA2))))))))),?_⟩
 try dsimp only [Cx.nox,Cx.wish,cxOf]
 refine cut fun N0 hN0=>?_
 refine ⟨_,rfl,x,n,d,rfl,D,_,rfl,?_⟩
 cases cp:pairO d with
 | true=>
  obtain ⟨m,r,xs,ds,rfl,rfl,rfl,gr,lx,el⟩:=qDE D (by cases d <;> first | rfl | cases cp)
  obtain ⟨d0,d1,rfl⟩:=get_two (of_decide_eq_true cp)
  obtain ⟨x0,x1,rfl⟩:=get_two lx
  have D0:=el 0 x0 d0 rfl rfl
  have D1:=el 1 x1 d1 rfl rfl
  obtain ⟨sc,eq⟩:=leaf_str (Str.ofString "clear") (dat_leaf D0 fl)
  refine iteT ?_
  refine ⟨_,rfl,r,_,_,_,rfl,rfl,SqT.of gr,rfl,sc,?_⟩
  rw [eq]
  refine ⟨_,rfl,?_⟩
  have e:movD (net.length:Int) (sizes.length:Int) (.tuple [d0,d1])=(isS (Str.ofString "clear") d0 && belowB (sizes.length:Int) d1):=rfl
  rw [e] at q
  cases c0:isS (Str.ofString "clear") d0 with
  | false=>
   rw [if_neg Bool.false_ne_true]
   rw [c0,Bool.false_and] at q
   exact q H (.refl _)
  | true=>
   rw [if_pos rfl]
   rw [c0,Bool.true_and] at q
   refine ⟨_,rfl,r,_,_,_,rfl,rfl,SqT.of gr,rfl,_,rfl,sz,_,rfl,.inr (SqT.of gS),x1,m,d1,_,rfl,D1,?_⟩
   rw [List.length_map]
   exact q H (.refl _)
 | false=>
  refine iteF (hN0 _ _ (cut fun N1 hN1=>?_))
  obtain ⟨t,ty,k1,k2,k3⟩:=ty_dat (K:=K) D
  refine ⟨_,rfl,x,"tuple",t,_,rfl,ty,k3,_,rfl,?_⟩
  cases c:tupB d with
  | false=>
   have e:movD (net.length:Int) (sizes.length:Int) d=false:=by cases d <;> first | rfl | cases c
   rw [e] at q
   refine iteT ?_
   exact q H (.refl _)
  | true=>
   obtain ⟨m,r,xs,ds,rfl,rfl,rfl,gr,lx,el⟩:=qDE D c
   have n2:ds.length ≠ 2:=fun z=>by rw [show pairO (.tuple ds)=true from decide_eq_true z] at cp;cases cp
   refine iteF ?_
   refine ⟨_,rfl,r,_,rfl,.inr (SqT.of gr),rfl,_,rfl,?_⟩
   by_cases l3:xs.length=3
   ·obtain ⟨x0,x1,x2,rfl⟩:=get_three l3
    obtain ⟨d0,d1,d2,rfl⟩:=get_three (lx.symm.trans l3)
    have D0:=el 0 x0 d0 rfl rfl
    have D1:=el 1 x1 d1 rfl rfl
    have D2:=el 2 x2 d2 rfl rfl
    obtain ⟨sc,eq⟩:=leaf_str (Str.ofString "do") (dat_leaf D0 fl)
    refine iteF ?_
    refine ⟨_,rfl,r,_,_,_,rfl,rfl,SqT.of gr,rfl,sc,_,rfl,?_⟩
    rw [eq]
    have e:movD (net.length:Int) (sizes.length:Int) (.tuple [d0,d1,d2])=(isS (Str.ofString "do") d0 && (belowB (net.length:Int) d1 && belowB (sizes.length:Int) d2)):=rfl
    rw [e] at q
    cases c0:isS (Str.ofString "do") d0 with
    | false=>
     refine iteT ?_
     rw [c0,Bool.false_and] at q
     exact q H (.refl _)
    | true=>
     refine iteF ?_
     rw [c0,Bool.true_and] at q
     obtain ⟨ra,hA,NL⟩:=id hN
     refine hN1 _ _ ?_
     refine ⟨_,rfl,r,_,_,_,rfl,rfl,SqT.of gr,rfl,_,rfl,a,_,rfl,.inr (SqT.of hA),x1,m,d1,_,rfl,D1,?_⟩
     rw [List.length_map,Paired.length NL]
     refine ⟨_,rfl,?_⟩
     cases c1:belowB (net.length:Int) d1 with
     | false=>
      rw [if_neg Bool.false_ne_true]
      rw [c1,Bool.false_and] at q
      exact q H (.refl _)
     | true=>
      rw [if_pos rfl]
      rw [c1,Bool.true_and] at q
      refine ⟨_,rfl,r,_,_,_,rfl,rfl,SqT.of gr,rfl,_,rfl,sz,_,rfl,.inr (SqT.of gS),x2,m,d2,_,rfl,D2,?_⟩
      rw [List.length_map]
      exact q H (.refl _)
   ·rw [decide_eq_false (show ¬ V.int ((xs.length:Nat):Int)=V.int 3 from fun z=>by injection z with z;lia)]
    refine iteT ?_
    rw [mov_no n2 (by lia)] at q
    exact q H (.refl _)
end
section
variable {P:Program} {w:World} {K:PySem.W.Frag} {mg:Str→Option Value} {base:Heap} {f:Addr} {fd:FuncData} {f_is_move_there:Addr} {fd_is_move_there:FuncData}
theorem sc_does_there:FnScope ["net","wides","sizes","asked","thing","layout","move"] ["net","wides","sizes","asked","thing"] (defScope qC5):=sc_mk
theorem ok_does_there (F:Fun K "does_there" "does_there" qC5 f fd) (C_is_move_there:Clb P w K mg base 3 f_is_move_there fd_is_move_there "is_move_there" ["net","sizes","thing"] spMoveD) (z_isinstance:mg "isinstance" = none) (z_list:mg "list" = none) (z_all:mg "all" = none):FnOk P w K mg base CX0 4 f fd ["net","wides","sizes","asked","thing"] spDoesD:=by
 refine F.okA sc_does_there fun cdv A outer s H vs Q E hr h=>?_
 obtain ⟨a,wd,sz,t,net,sizes,x,n,d,rfl,hN,gS,D,fl,len,no,q⟩:=h
 refine ⟨_,(qA4 (ps_if (PW.pt (pw_or (qCV (qBT (qAA qB0 rfl z_isinstance qAW (qA0 (pv 4) (qA0 (qCO (v:=.ty "list") rfl z_list qBS rfl) qA2))))) (pw_or1 (qCV (qBT (qAA (call_all rfl) rfl z_all bt_all (qA0 (pe_lc rfl (lcs (own:=["move"]) (fv:=[0,2]) (by kernel_rfl)) (qB1 (pv 4)) (fun z1=>pg_in 0) (fun z1=>qAY) (fun z1=>(pe_cl C_is_move_there hr rfl (qA0 (pv 1) (qA0 (pv 2) (qA0 (pv 0) qA2)))))) qA2))))))) (qA5 (qAE pe_bl)) qAH) pss_never),?_⟩
 try dsimp only [Cx.nox,Cx.wish,cxOf]
 refine cut fun N0 hN0=>?_
 obtain ⟨tv,ty,k1⟩:=ty_list (K:=K) D
 refine ⟨_,rfl,x,"list",tv,_,rfl,ty,k1,_,rfl,?_⟩
 cases c:lstB d with
 | false=>
  refine iteT ?_
  exact q H (.refl _)
 | true=>
  obtain ⟨m,l,xs,ds,rfl,rfl,rfl,gl,lx,el⟩:=dat_lst D c
  refine iteF ?_
  have len:ds.length≤20000:=len
  refine ⟨_,rfl,l,rfl,⟨_,SqL.of gl⟩,fun p hp=>?_⟩
  refine qCB (p:=p) (a:=l) (xs:=xs) (fun i σ Hc=>∃ (v:Option V),σ=[v,some (.ref a),some (.ref sz)]∧Same H Hc∧Hc p=some (.lst (((ds.take i).map (movD (net.length:Int) (sizes.length:Int))).map V.bl))) ?_ ?_ ?_ ?_
  ·exact ⟨none,rfl,qA3 hp _,qA1⟩
  ·rintro i σ Hc hi ⟨v,rfl,sm,_⟩
   exact SqL.of (sm _ _ gl)
  ·refine fun i y σ Hc hx hI_2=>opq fun G_2 hG_2=>?_
   obtain ⟨v,rfl,sm,hpc⟩:=hI_2
   refine hG_2 ?_
   have hi:=(List.getElem?_eq_some_iff.mp hx).1
   have hd:=List.getElem?_eq_getElem (show i<ds.length by lia)
   have Dy:=(el i y _ hx hd).same sm
   have fy:fstB ds[i]=true:=List.all_eq_true.mp fl _ (List.getElem_mem _)
   refine ⟨_,rfl,_,rfl,_,rfl,a,sz,net,sizes,y,m,ds[i],rfl,hN.same sm,sm _ _ gS,Dy,fy,fun H2 s2=>?_⟩
   refine ⟨_,s2 _ _ hpc,qAC (by rw [List.length_map,List.length_map,List.length_take];lia),_,rfl,qAG (sm.trans s2) hp,?_⟩
   rw [qA1,List.take_add_one,hd,Option.toList_some,List.map_append,List.map_append]
   rfl
  refine fun σ Hc hI_3=>opq fun G_3 hG_3=>?_
  obtain ⟨v,rfl,sm,hpc⟩:=hI_3
  refine hG_3 ?_
  rw [lx,List.take_length] at hpc
  refine ⟨p,_,rfl,SqL.of hpc,_,rfl,?_⟩
  have e:((ds.map (movD (net.length:Int) (sizes.length:Int))).all id)=false:=by
   rw [List.all_map]
   exact no
  rw [e]
  refine iteT ?_
  exact q Hc sm
end
section
variable {P:Program} {w:World} {K:PySem.W.Frag} {mg:Str→Option Value} {base:Heap} {f:Addr} {fd:FuncData} {f_is_below:Addr} {fd_is_below:FuncData}
theorem sc_is_layout:FnScope ["net","wides","sizes","thing","there","size","result"] ["net","wides","sizes","thing"] (defScope qCL):=sc_mk
theorem ok_is_layout (F:Fun K "is_layout" "is_layout" qCL f fd) (C_is_below:Clb P w K mg base 2 f_is_below fd_is_below "is_below" ["thing","end"] spBelowD) (z_isinstance:mg "isinstance" = none) (z_tuple:mg "tuple" = none) (z_len:mg "len" = none) (z_zip:mg "zip" = none):FnOk P w K mg base CX0 3 f fd ["net","wides","sizes","thing"] spIsLayD:=by
 refine F.okA sc_is_layout fun cdv A outer s H vs Q E hr h=>?_
 obtain ⟨a,wd,sz,net,wides,sizes,x,n,d,rfl,TK,D,q⟩:=h
 have hu:=hu_of hr
 refine ⟨_,(qA4 (ps_if (PW.pt (pw_or (qCV (qBT (qAA qB0 rfl z_isinstance qAW (qA0 (pv 3) (qA0 (qCO (v:=.ty "tuple") rfl z_tuple qAV rfl) qA2))))) (pw_or1 (qAF op_ne (qAA qA8 rfl z_len qAQ (qA0 (pv 3) qA2)) (qAA qA8 rfl z_len qAQ (qA0 (pv 2) qA2)) (nomark _))))) (qA5 (qAE pe_bl)) qAH) (qA4 (qAB (i:=4) sc_is_layout.nd rfl (Or.inl rfl) pe_dnewK) (qA4 (qB5 PassesOwn.never rfl (pi_zip rfl z_zip bt_zip (qA0 (pv 2) (qA0 (pv 3) qA2))) (pg_tup rfl (qB2 (qAN (i:=5) sc_is_layout.nd rfl (Or.inl rfl)) (qB2 (qAN (i:=6) sc_is_layout.nd rfl (Or.inl rfl)) pgs_nil))) (qA4 (ps_if (qBP (pc_isN (pv 6))) (qA5 ps_continue) qAH) (qA4 (ps_if (PW.pt (pw_or (qCV (qBT (pe_cl C_is_below hr rfl (qA0 (pv 6) (qA0 (qAA qA8 rfl z_len qAQ (qA0 (pv 0) qA2)) qA2))))) (pw_or (qAF op_gt (pe_ix qAR (pv 1) (pv 6) (fun _ _=>rfl)) (pv 5) (nomark _)) (pw_or1 (qBP (pc_din hu (pv 6) (pv 4))))))) (qA5 (qAE pe_bl)) qAH) (qA5 (ps_dput hu (pv 4) (pv 6) pe_bl rfl))))) (qA5 (qAE pe_bl))))),?_⟩
 try dsimp only [Cx.nox,Cx.wish,cxOf]
 refine cut fun N0 hN0=>?_
 obtain ⟨tv,ty,k1,k2,k3⟩:=ty_dat (K:=K) D
 refine ⟨_,rfl,x,"tuple",tv,_,rfl,ty,k3,_,rfl,?_⟩
 cases c:tupB d with
 | false=>
  have e:layDt (net.length:Int) wides sizes d=false:=by cases d <;> first | rfl | cases c
  rw [e] at q
  refine iteT ?_
  exact q H (.refl _)
 | true=>
  obtain ⟨m,r,xs,ds,rfl,rfl,rfl,gr,lx,el⟩:=qDE D c
  refine iteF ?_
  obtain ⟨gw,lw,gz⟩:=(⟨TK.wides_,TK.lw,TK.sizes_⟩:_∧_∧_)
  have k1':=TK.k1
  have k5:=TK.k5
  refine ⟨_,rfl,r,_,rfl,.inr (SqT.of gr),_,rfl,sz,_,rfl,.inr (SqT.of gz),rfl,_,rfl,?_⟩
  rw [List.length_map]
  have e:layDt (net.length:Int) wides sizes (.tuple ds)=(decide (ds.length=sizes.length) && layS (net.length:Int) wides [] sizes ds):=rfl
  rw [e] at q
  by_cases ln:ds.length=sizes.length
  ·rw [decide_eq_true (show V.int ((xs.length:Nat):Int)=V.int ((sizes.length:Nat):Int) by rw [lx,ln])]
   rw [decide_eq_true ln,Bool.true_and] at q
   refine iteF (hN0 _ _ (cut fun N1 hN1=>?_))
   intro th hth
   have s1:=qA3 hth (.dK [])
   have g1:(upd H th (.dK [])) th=some (.dK []):=qA1
   generalize upd H th (.dK [])=H1 at s1 g1 ⊢
   refine hN1 _ _ (cut fun N2 hN2=>?_)
   refine ⟨_,rfl,_,rfl,true,sz,r,rfl,⟨_,SqT.of (s1 _ _ gz)⟩,⟨_,SqT.of (s1 _ _ gr)⟩,for_zip (b:=true) (l:=sz) (m:=r) (xs:=sizes.map V.int) (ys:=xs) (by rw [List.length_map];lia) (fun i σ Hc=>∃ (kvs:List (Key × V)) (ks:List Int) (v5 v6:Option V),σ=[some (.ref a),some (.ref wd),some (.ref sz),some (.ref r),some (.ref th),v5,v6]∧Same H Hc∧Hc th=some (.dK kvs)∧KeysI kvs ks∧ks.length≤i∧layS (net.length:Int) wides [] sizes ds=layS (net.length:Int) wides ks (sizes.drop i) (ds.drop i))
    ⟨[],[],none,none,rfl,s1,g1,.nil,Nat.le_refl _,rfl⟩ (fun i σ Hc _ ⟨_,_,_,_,_,sm,_⟩=>⟨SqT.of (sm _ _ gz),SqT.of (sm _ _ gr)⟩) ?_ ?_⟩
   ·refine fun i sx y σ Hc T hs hy hI_4 hT=>opq fun G_4 hG_4=>?_
    obtain ⟨kvs,ks,v5,v6,rfl,sm,gth,KI,lk,eS⟩:=hI_4
    obtain ⟨sv,es,rfl⟩:=qD2 hs
    refine hG_4 ?_
    have hi:=(List.getElem?_eq_some_iff.mp hy).1
    have hd:=List.getElem?_eq_getElem (show i<ds.length by lia)
    have Dy:=(el i y _ hy hd).same sm
    have sT:=qA3 hT (.tup [.int sv,y])
    have gT:(upd Hc T (.tup [.int sv,y])) T=some (.tup [.int sv,y]):=qA1
    have gth2:=sT _ _ gth
    have Dy2:=Dy.same sT
    have smT:=sm.trans sT
    generalize upd Hc T (.tup [.int sv,y])=Hd at sT gT gth2 Dy2 smT ⊢
    have eds:ds.drop i=ds[i]::ds.drop (i+1):=by rw [List.drop_eq_getElem_cons (show i<ds.length by lia)]
    have ess:sizes.drop i=sv::sizes.drop (i+1):=by
     obtain ⟨h',e'⟩:=List.getElem?_eq_some_iff.mp es
     rw [List.drop_eq_getElem_cons h',e']
    rw [eds,ess] at eS
    generalize ds[i]=dy at Dy2 eS
    refine ⟨T,_,rfl,SqT.of gT,rfl,_,_,rfl,_,_,rfl,rfl,?_⟩
    refine cut fun M0 hM0=>?_
    refine ⟨_,rfl,_,rfl,?_⟩
    by_cases hy0:y=.non
    ·subst hy0
     obtain rfl:=(dat_non Dy2).mp rfl
     rw [decide_eq_true (rfl:V.non=V.non)]
     refine iteT ?_
     exact ⟨kvs,ks,_,_,rfl,smT,gth2,KI,by lia,eS⟩
    have hd0:dy ≠ .none:=fun z=>hy0 ((dat_non Dy2).mpr z)
    rw [decide_eq_false hy0]
    refine iteF (hM0 _ _ (cut fun M1 hM1=>?_))
    obtain ⟨ra,hA,NL⟩:=TK.net_.same smT
    refine ⟨_,rfl,_,rfl,a,_,rfl,.inr (SqT.of hA),y,m,dy,_,rfl,Dy2,?_⟩
    rw [List.length_map,Paired.length NL]
    refine ⟨_,rfl,?_⟩
    cases cb:belowB (net.length:Int) dy with
    | false=>
     refine iteT ?_
     rw [eS,layS_bad hd0 cb] at q
     exact q Hd smT
    | true=>
     refine iteF ?_
     obtain ⟨j,rfl,j0,j1⟩:=below_int cb
     obtain ⟨i2,rfl,e2⟩:=dat_int Dy2 rfl
     cases e2
     have hw:=List.getElem?_eq_getElem (show j.toNat<wides.length by lia)
     have ew:wides.getD j.toNat 0=wides[j.toNat]:=by rw [List.getD_eq_getElem?_getD,hw];rfl
     generalize wides[j.toNat]=wv at hw ew
     have e3:layS (net.length:Int) wides ks (sv::sizes.drop (i+1)) (.int j::ds.drop (i+1))=((decide (0≤j) && decide (j<(net.length:Int))) && (decide (wides.getD j.toNat 0≤sv) && (decide (j ∉ ks) && layS (net.length:Int) wides (ks++[j]) (sizes.drop (i+1)) (ds.drop (i+1))))):=rfl
     rw [e3,decide_eq_true j0,decide_eq_true j1,Bool.true_and,Bool.true_and,ew] at eS
     refine ⟨_,rfl,_,rfl,wd,_,_,_,rfl,rfl,SqT.of (smT _ _ gw),qBV j0 (by rw [List.getElem?_map,hw];rfl),_,rfl,_,_,rfl,rfl,_,rfl,?_⟩
     by_cases cw:sv<wv
     ·rw [decide_eq_true cw]
      refine iteT ?_
      rw [eS,decide_eq_false (show ¬ wv≤sv by lia),Bool.false_and] at q
      exact q Hd smT
     ·rw [decide_eq_false cw]
      refine iteF ?_
      rw [decide_eq_true (show wv≤sv by lia),Bool.true_and] at eS
      refine ⟨_,rfl,_,rfl,th,_,rfl,DGet.k (k:=Sum.inl j) gth2,_,rfl,?_⟩
      rw [KI.has]
      by_cases cm:j ∈ ks
      ·rw [decide_eq_true cm]
       refine iteT ?_
       rw [eS,decide_eq_false (fun z:¬ j ∈ ks=>z cm),Bool.false_and] at q
       exact q Hd smT
      ·rw [decide_eq_false cm]
       refine iteF ?_
       rw [decide_eq_true cm,Bool.true_and] at eS
       have KP:=KI.put j (.bl true)
       have ea:addI ks j=ks++[j]:=if_neg cm
       rw [ea] at KP
       refine hM1 _ _ ?_
       refine ⟨_,rfl,_,rfl,th,_,rfl,DPut.k (k:=Sum.inl j) (v:=.bl true) gth2 (qAC (by have:=KI.len;lia)),?_⟩
       exact ⟨_,ks++[j],_,_,rfl,qAG smT hth,qA1,KP,by rw [List.length_append,List.length_singleton];lia,eS⟩
   ·refine fun σ Hc hI_5=>opq fun G_5 hG_5=>?_
    obtain ⟨kvs,ks,v5,v6,rfl,sm,gth,KI,lk,eS⟩:=hI_5
    refine hG_5 ?_
    have e0:layS (net.length:Int) wides ks (sizes.drop (sizes.map V.int).length) (ds.drop (sizes.map V.int).length)=true:=by
     rw [List.length_map,List.drop_length,← ln,List.drop_length]
     rfl
    rw [eS,e0] at q
    exact hN2 _ _ (q Hc sm)
  ·rw [decide_eq_false (show ¬ V.int ((xs.length:Nat):Int)=V.int ((sizes.length:Nat):Int) from fun z=>by injection z with z;lia)]
   rw [decide_eq_false ln,Bool.false_and] at q
   refine iteT ?_
   exact q H (.refl _)
end
theorem sc_never_there:FnScope ["net","wides","sizes","asked","thing","known","layout","move"] ["net","wides","sizes","asked","thing"] (defScope qBX):=sc_mk
theorem ok_never_there (F:Fun K "never_there" "never_there" qBX f fd) (C_is_layout:Clb P w K mg base 3 f_is_layout fd_is_layout "is_layout" ["net","wides","sizes","thing"] spIsLayD) (C_moves_there:Clb P w K mg base 4 f_moves_there fd_moves_there "moves_there" ["net","wides","sizes","layout"] spMovesO) (C_layout_behind:Clb P w K mg base 1 f_layout_behind fd_layout_behind "layout_behind" ["layout","move"] spLayB) (C_has_all:Clb P w K mg base 1 f_has_all fd_has_all "has_all" ["results","works"] spHasAll) (z_isinstance:mg "isinstance" = none) (z_list:mg "list" = none) (z_all:mg "all" = none) (z_len:mg "len" = none) (z_any:mg "any" = none):FnOk P w K mg base CX0 5 f fd ["net","wides","sizes","asked","thing"] spNeverO:=by
 refine F.okA sc_never_there fun cdv A outer s H vs Q E hr h=>?_
 obtain ⟨a,wd,sz,t,net,wides,sizes,asked,x,n,d,rfl,TK,gt,la,D,len,q⟩:=h
 have hu:=hu_of hr
 refine ⟨_,(qA4 (ps_if (PW.pt (pw_or (qCV (qBT (qAA qB0 rfl z_isinstance qAW (qA0 (pv 4) (qA0 (qCO (v:=.ty "list") rfl z_list qBS rfl) qA2))))) (pw_or1 (qCV (qBT (qAA (call_all rfl) rfl z_all bt_all (qA0 (pe_lc rfl (lcs (own:=["layout"]) (fv:=[0,1,2]) (by kernel_rfl)) (qB1 (pv 4)) (fun z1=>pg_in 0) (fun z1=>qAY) (fun z1=>(pe_cl C_is_layout hr rfl (qA0 (pv 1) (qA0 (pv 2) (qA0 (pv 3) (qA0 (pv 0) qA2))))))) qA2))))))) (qA5 (qAE pe_bl)) qAH) (qA4 (qAB (i:=5) sc_never_there.nd rfl (Or.inl rfl) pe_dnewT) (qA4 (qB5 PassesOwn.never rfl (qB1 (pv 4)) (qAN (i:=6) sc_never_there.nd rfl (Or.inl rfl)) (qA5 (ps_dput hu (pv 5) (pv 6) pe_bl rfl))) (qA4 (qB5 PassesOwn.never rfl (pi_dictT (pe_frzT (pv 5))) (qAN (i:=6) sc_never_there.nd rfl (Or.inl rfl)) (qA5 (qB5 PassesOwn.never rfl (qB1 (pe_cl C_moves_there hr rfl (qA0 (pv 0) (qA0 (pv 1) (qA0 (pv 2) (qA0 (pv 6) qA2)))))) (qAN (i:=7) sc_never_there.nd rfl (Or.inl rfl)) (qA5 (ps_if (qBP (qCF hu (pe_cl C_layout_behind hr rfl (qA0 (pv 6) (qA0 (pv 7) qA2))) (pv 5))) (qA5 (qAE pe_bl)) qAH))))) (qA5 (qAE (pe_and (pe_cmp (pc_din hu (pe_op op_repT (qAJ (qA0 qBU qA2)) (qAA qA8 rfl z_len qAQ (qA0 (pv 2) qA2))) (pv 5))) (pe_one (pe_not (qAA (call_any rfl) rfl z_any bt_any (qA0 (pe_lc rfl (lcs (own:=["layout"]) (fv:=[3]) (by kernel_rfl)) (pi_dictT (pv 5)) (fun z2=>pg_in 0) (fun z2=>qAY) (fun z2=>(pe_cl C_has_all hr rfl (qA0 (pv 0) (qA0 (pv 1) qA2))))) qA2))))))))))),?_⟩
 try dsimp only [Cx.nox,Cx.wish,cxOf]
 refine cut fun N0 hN0=>?_
 obtain ⟨tv,ty,k1⟩:=ty_list (K:=K) D
 refine ⟨_,rfl,x,"list",tv,_,rfl,ty,k1,_,rfl,?_⟩
 cases c:lstB d with
 | false=>
  refine iteT ?_
  refine q false H (.refl _) ⟨fun z=>(nomatch z),fun z=>?_⟩
  cases d <;> first | exact z.elim | cases c
 | true=>
  obtain ⟨m,l,xs,ds,rfl,rfl,rfl,gl,lx,el⟩:=dat_lst D c
  refine iteF ?_
  have len:ds.length≤20000:=len
  refine ⟨_,rfl,l,rfl,⟨_,SqL.of gl⟩,fun p hp=>?_⟩
  refine qCB (p:=p) (a:=l) (xs:=xs) (fun i σ Hc=>∃ (v:Option V),σ=[v,some (.ref a),some (.ref wd),some (.ref sz)]∧Same H Hc∧Hc p=some (.lst (((ds.take i).map (layDt (net.length:Int) wides sizes)).map V.bl))) ?_ ?_ ?_ ?_
  ·exact ⟨none,rfl,qA3 hp _,qA1⟩
  ·rintro i σ Hc hi ⟨v,rfl,sm,_⟩
   exact SqL.of (sm _ _ gl)
  ·refine fun i y σ Hc hx hI_2=>opq fun G_2 hG_2=>?_
   obtain ⟨v,rfl,sm,hpc⟩:=hI_2
   refine hG_2 ?_
   have hi:=(List.getElem?_eq_some_iff.mp hx).1
   have hd:=List.getElem?_eq_getElem (show i<ds.length by lia)
   have Dy:=(el i y _ hx hd).same sm
   refine ⟨_,rfl,_,rfl,_,rfl,_,rfl,a,wd,sz,net,wides,sizes,y,m,ds[i],rfl,TK.same sm,Dy,fun H2 s2=>?_⟩
   refine ⟨_,s2 _ _ hpc,qAC (by rw [List.length_map,List.length_map,List.length_take];lia),_,rfl,qAG (sm.trans s2) hp,?_⟩
   rw [qA1,List.take_add_one,hd,Option.toList_some,List.map_append,List.map_append]
   rfl
  refine fun σ Hc hI_3=>opq fun G_3 hG_3=>?_
  obtain ⟨v,rfl,sm,hpc⟩:=hI_3
  refine hG_3 ?_
  rw [lx,List.take_length] at hpc
  refine ⟨p,_,rfl,SqL.of hpc,_,rfl,?_⟩
  have e:((ds.map (layDt (net.length:Int) wides sizes)).all id)=ds.all (layDt (net.length:Int) wides sizes):=by rw [List.all_map];rfl
  rw [e]
  have eN:NeverD net wides sizes asked (.list ds)=(ds.all (layDt (net.length:Int) wides sizes)=true∧JO net wides sizes asked (ds.map dLa)):=rfl
  rw [eN] at q
  cases ca:ds.all (layDt (net.length:Int) wides sizes) with
  | false=>
   refine iteT ?_
   exact q false Hc sm ⟨fun z=>(nomatch z),fun z=>by rw [ca] at z;exact (nomatch z.1)⟩
  | true=>
  have fits:∀ d ∈ ds,layDt (net.length:Int) wides sizes d=true:=List.all_eq_true.mp ca
  refine iteF (hN0 _ _ (cut fun N1 hN1=>?_))
  intro dk hdk
  have s1:=sm.trans (qA3 hdk (.dT []))
  have g1:(upd Hc dk (.dT [])) dk=some (.dT (kvB [])):=qA1
  generalize upd Hc dk (.dT [])=H1 at s1 g1 ⊢
  refine hN1 _ _ (cut fun N2 hN2=>?_)
  have gld:=s1 _ _ gl
  refine ⟨_,rfl,l,rfl,⟨_,SqL.of gld⟩,qCS (a:=l) (xs:=xs) (fun i σ Hc=>∃ (v6:Option V),σ=[some (.ref a),some (.ref wd),some (.ref sz),some (.ref t),some (.ref l),some (.ref dk),v6,none]∧Same H Hc∧Hc dk=some (.dT (kvB (onceO ((ds.map dLa).take i)))))
   ⟨none,rfl,s1,g1⟩ (fun i σ Hc _ hP=>by obtain ⟨_,_,sc,_⟩:=hP;exact SqL.of (sc _ _ gl)) ?_ ?_⟩
  ·refine fun i x σ Hc hx hI_4=>opq fun G_4 hG_4=>?_
   obtain ⟨v6,rfl,sc,gd⟩:=hI_4
   refine hG_4 ?_
   have hi:=(List.getElem?_eq_some_iff.mp hx).1
   have hd:=List.getElem?_eq_getElem (show i<ds.length by lia)
   obtain ⟨r,rfl,gr,_,_,_⟩:=lay_dat ((el i x _ hx hd).same sc) (fits _ (List.getElem_mem _))
   have gz1:Hc r=some (.tup ((keyO (dLa ds[i])).map kI)):=by rw [qAZ];exact gr
   have ln:=once_len ((ds.map dLa).take i)
   rw [List.length_take,List.length_map] at ln
   refine ⟨_,rfl,_,rfl,dk,_,rfl,DPut.t (k:=keyO (dLa ds[i])) gd gz1 (qAC (by unfold kvB;rw [List.length_map];lia)),?_⟩
   refine ⟨_,rfl,qAG sc (sm.free hdk),?_⟩
   rw [qA1,kvB_put,once_snoc (s:=dLa ds[i]) (by rw [List.getElem?_map,hd];rfl)]
  ·refine fun σ Hc hI_5=>opq fun G_5 hG_5=>?_
   obtain ⟨v6,rfl,sc,gd⟩:=hI_5
   refine hG_5 ?_
   rw [List.take_of_length_le (show (ds.map dLa).length≤xs.length by rw [List.length_map];lia)] at gd
   have ln:=once_len (ds.map dLa)
   rw [List.length_map] at ln
   have ok:∀ s ∈ onceO (ds.map dLa),s.length=sizes.length∧LayOk (net.length:Int) s∧FitO wides sizes s:=fun s hs=>by
    obtain ⟨d,hd,rfl⟩:=List.mem_map.mp (once_mem.mp hs)
    obtain ⟨j,hj,rfl⟩:=List.getElem_of_mem hd
    obtain ⟨_,_,_,a,b,c⟩:=lay_dat (el j _ _ (List.getElem?_eq_getElem (show j<xs.length by lia)) (List.getElem?_eq_getElem hj)) (fits _ hd)
    exact ⟨a,b,c⟩
   have jo:=jo_once (net:=net) (wides:=wides) (sizes:=sizes) (asked:=asked) (L:=ds.map dLa)
   generalize onceO (ds.map dLa)=ks at gd ln ok jo
   refine hN2 _ _ (cut fun N3 hN3=>?_)
   have sdf:H dk=none:=sm.free hdk
   refine ⟨_,rfl,dk,_,rfl,gd,fun o=>⟨dk,o,_,rfl,qA1,?_⟩⟩
   have sd:Same H (upd Hc dk (.frz o (.dT (kvB ks)))):=qAG sc sdf
   have gdk:(upd Hc dk (.frz o (.dT (kvB ks)))) dk=some (.frz o (.dT (kvB ks))):=qA1
   generalize upd Hc dk (.frz o (.dT (kvB ks)))=Hd at sd gdk ⊢
   refine for_dictTS (a:=dk) (o:=o) (kvs:=kvB ks) (fun i σ He=>∃ (v6 v7:Option V),σ=[some (.ref a),some (.ref wd),some (.ref sz),some (.ref t),some (.ref l),some (.ref dk),v6,v7]∧Same Hd He∧∀ s ∈ ks.take i,∀ m ∈ nxO net wides sizes s,beO s m ∈ ks)
    ⟨v6,none,rfl,.refl _,fun s h=>by rw [List.take_zero] at h;exact (nomatch h)⟩ (fun i σ He _ ⟨_,_,_,z,_⟩=>z _ _ gdk) ?_ ?_
   ·refine fun i k v r σ He hkv gr hI_6=>opq fun G_6 hG_6=>?_
    obtain ⟨v6,v7,rfl,se,cl⟩:=hI_6
    refine hG_6 ?_
    unfold kvB at hkv
    rw [List.getElem?_map] at hkv
    obtain ⟨s,hs,e1⟩:=Option.map_eq_some_iff.mp hkv
    cases e1
    rw [qAZ] at gr
    have hsk:=List.mem_of_getElem? hs
    obtain ⟨o1,o2,o3⟩:=ok s hsk
    have k5:=TK.k5
    refine ⟨_,rfl,_,rfl,_,rfl,_,rfl,a,wd,sz,r,net,wides,sizes,s,rfl,TK.same (sd.trans se),gr,o1,fun p es H3 s3 fp gp ML=>?_⟩
    have les:=Paired.length ML
    refine ⟨p,rfl,⟨_,SqL.of gp⟩,qCS (a:=p) (xs:=es.map V.ref) (fun k σ Hf=>∃ (v7:Option V),σ=[some (.ref a),some (.ref wd),some (.ref sz),some (.ref t),some (.ref l),some (.ref dk),some (.ref r),v7]∧Same H3 Hf∧∀ m ∈ (nxO net wides sizes s).take k,beO s m ∈ ks)
     ⟨v7,rfl,.refl _,fun m h=>by rw [List.take_zero] at h;exact (nomatch h)⟩ (fun k σ Hf _ hP=>by obtain ⟨_,_,zf,_⟩:=hP;exact SqL.of (zf _ _ gp)) ?_ ?_⟩
    ·refine fun k x σ Hf hx hI_7=>opq fun G_7 hG_7=>?_
     obtain ⟨v7,rfl,sf,ck⟩:=hI_7
     obtain ⟨mv,hmv,rfl⟩:=qBH hx
     obtain ⟨mo,hm2,gmv⟩:=qAU ML hmv
     refine hG_7 ?_
     have hin:=List.mem_of_getElem? hm2
     have nb:=nx_lb hin
     refine ⟨_,rfl,_,rfl,r,mv,s,mo,rfl,sf _ _ (s3 _ _ gr),sf _ _ gmv,nb.1.1,by lia,by lia,fun r2 H4 s4 gr2=>?_⟩
     refine ⟨_,rfl,dk,_,rfl,.inr ⟨kvB ks,keyO (beO s mo),r2,.inr ⟨o,s4 _ _ (sf _ _ (s3 _ _ (se _ _ gdk)))⟩,rfl,by rw [qAZ];exact gr2,rfl⟩,_,rfl,?_⟩
     rw [kvB_has]
     by_cases cm:beO s mo ∈ ks
     ·rw [decide_eq_true cm]
      refine ⟨_,rfl,sf.trans s4,fun m hm=>?_⟩
      rw [List.take_add_one,hm2,Option.toList_some,List.mem_append,List.mem_singleton] at hm
      rcases hm with z | z
      ·exact ck m z
      ·rw [z];exact cm
     ·rw [decide_eq_false cm]
      exact q false H4 (sd.trans (se.trans (s3.trans (sf.trans s4)))) ⟨fun z=>(nomatch z),fun z=>absurd ((jo.mpr z.2).2 s hsk |>.2.2 mo hin) cm⟩
    ·refine fun σ Hf hI_8=>opq fun G_8 hG_8=>?_
     obtain ⟨v7,rfl,sf,ck⟩:=hI_8
     refine hG_8 ?_
     rw [List.length_map,les,List.take_length] at ck
     refine ⟨_,_,rfl,se.trans (s3.trans sf),fun s' hs'=>?_⟩
     rw [List.take_add_one,hs,Option.toList_some,List.mem_append,List.mem_singleton] at hs'
     rcases hs' with z | z
     ·exact cl s' z
     ·rw [z];exact ck
   ·refine fun σ He hI_9=>opq fun G_9 hG_9=>?_
    obtain ⟨v6,v7,rfl,se,cl⟩:=hI_9
    refine hG_9 ?_
    refine hN3 _ _ ?_
    rw [show (kvB ks).length=ks.length from List.length_map _,List.take_length] at cl
    have k1':=TK.k1
    have k5':=TK.k5
    have sE:=sd.trans se
    have gdE:=se _ _ gdk
    have lsz:(((sizes.map V.int).length:Nat):Int)=(sizes.length:Int):=by rw [List.length_map]
    refine ⟨(by show 1≤sizeLine;decide),fun t1 ht1=>?_⟩
    have s1:=qA3 ht1 (.tup [.non])
    refine ⟨_,rfl,sz,_,rfl,.inr (SqT.of (s1 _ _ (sE _ _ TK.sizes_))),?_⟩
    rw [lsz]
    refine qCE qA1 k1' (by lia) fun la0 H5 sm5 gla=>?_
    have sF:=s1.trans sm5
    refine ⟨_,rfl,dk,_,rfl,.inr ⟨kvB ks,keyO (l0 sizes),la0,.inr ⟨o,sF _ _ gdE⟩,rfl,by rw [qAZ];exact gla,rfl⟩,?_⟩
    rw [kvB_has]
    have sG:=sE.trans sF
    have gtG:=sG _ _ gt
    refine ⟨_,rfl,?_⟩
    by_cases c0:l0 sizes ∈ ks
    ·rw [if_pos (decide_eq_true c0)]
     refine ⟨_,rfl,dk,o,_,rfl,sF _ _ gdE,fun p hp=>?_⟩
     refine lc_dictT (p:=p) (a:=dk) (o:=o) (kvs:=kvB ks) (fun i σ Hc=>∃ (v:Option V),σ=[v,some (.ref t)]∧Same H5 Hc∧Hc p=some (.lst (((ks.take i).map fun s=>decide (∀ x ∈ asked,some x ∈ s)).map V.bl))) ?_ ?_ ?_ ?_
     ·exact ⟨none,rfl,qA3 hp _,qA1⟩
     ·refine fun i σ Hc hi hI_10=>opq fun G_10 hG_10=>?_
      obtain ⟨v,rfl,sm,_⟩:=hI_10
      refine hG_10 ?_
      exact sm _ _ (sF _ _ gdE)
     ·refine fun i k v r σ Hc hkv gr hI_11=>opq fun G_11 hG_11=>?_
      obtain ⟨v0,rfl,sm,hpc⟩:=hI_11
      refine hG_11 ?_
      unfold kvB at hkv
      rw [List.getElem?_map] at hkv
      obtain ⟨s,hs,e1⟩:=Option.map_eq_some_iff.mp hkv
      cases e1
      rw [qAZ] at gr
      have hi:=(List.getElem?_eq_some_iff.mp hs).1
      refine ⟨_,rfl,_,rfl,r,t,s,asked,rfl,gr,sm _ _ gtG,la,fun H2 s2=>?_⟩
      refine ⟨_,s2 _ _ hpc,qAC (by rw [List.length_map,List.length_map,List.length_take];lia),_,rfl,qAG (sm.trans s2) hp,?_⟩
      rw [qA1,List.take_add_one,hs,Option.toList_some,List.map_append,List.map_append]
      rfl
     refine fun σ Hc hI_12=>opq fun G_12 hG_12=>?_
     obtain ⟨v,rfl,sm,hpc⟩:=hI_12
     refine hG_12 ?_
     rw [show (kvB ks).length=ks.length from List.length_map _,List.take_length] at hpc
     refine ⟨p,_,rfl,SqL.of hpc,_,rfl,?_⟩
     refine q _ Hc (sG.trans sm) ?_
     rw [Bool.not_eq_true',List.any_map,Bool.eq_false_iff,Ne,List.any_eq_true]
     constructor
     ·intro z
      refine ⟨ca,jo.mp ⟨c0,fun s hs=>⟨(ok s hs).2.2,fun w=>z ⟨s,hs,decide_eq_true w⟩,fun m hm=>cl s hs m hm⟩⟩⟩
     ·rintro ⟨_,z⟩ ⟨s,hs,w⟩
      exact ((jo.mpr z).2 s hs).2.1 (of_decide_eq_true w)
    ·rw [decide_eq_false c0,if_neg Bool.false_ne_true]
     exact q false H5 sG ⟨fun z=>(nomatch z),fun z=>absurd (jo.mpr z.2).1 c0⟩
theorem sc_shows_there:FnScope ["net","wides","sizes","asked","thing"] ["net","wides","sizes","asked","thing"] (defScope qBW):=sc_mk
theorem ok_shows_there (F:Fun K "shows_there" "shows_there" qBW f fd) (C_is_pair:Clb P w K mg base 1 f_is_pair fd_is_pair "is_pair" ["thing"] spPairO) (C_never_there:Clb P w K mg base 5 f_never_there fd_never_there "never_there" ["net","wides","sizes","asked","thing"] spNeverO) (C_does_there:Clb P w K mg base 4 f_does_there fd_does_there "does_there" ["net","wides","sizes","asked","thing"] spDoesD) (z_isinstance:mg "isinstance" = none) (z_tuple:mg "tuple" = none) (z_len:mg "len" = none):FnOk P w K mg base CX0 6 f fd ["net","wides","sizes","asked","thing"] spShowsD:=by
 refine F.okA sc_shows_there fun cdv A outer s H vs Q E hr h=>?_
 obtain ⟨a,wd,sz,t,net,wides,sizes,asked,x,n,d,rfl,TK,gt,la,D,ok,q⟩:=h
 refine ⟨_,(qA4 (ps_if (PW.pt (pw_and (qBT (pe_cl C_is_pair hr rfl (qA0 (pv 4) qA2))) (pw_and1 (qAF op_eq (pe_ix qAR (pv 4) qA7 (fun _ _=>rfl)) qAT (nomark _))))) (qA5 (qAE (pe_cl C_never_there hr rfl (qA0 (pv 0) (qA0 (pv 1) (qA0 (pv 2) (qA0 (pv 3) (qA0 (pe_ix qAR (pv 4) qA7 (fun _ _=>rfl)) qA2)))))))) qAH) (qA4 (ps_if (PW.pt (pw_or (qCV (qBT (qAA qB0 rfl z_isinstance qAW (qA0 (pv 4) (qA0 (qCO (v:=.ty "tuple") rfl z_tuple qAV rfl) qA2))))) (pw_or (qAF op_ne (qAA qA8 rfl z_len qAQ (qA0 (pv 4) qA2)) qA7 (nomark _)) (pw_or1 (qAF op_ne (pe_ix qAR (pv 4) qA7 (fun _ _=>rfl)) qAT (nomark _)))))) (qA5 (qAE pe_bl)) qAH) (qA4 (ps_if (qCV (qBT (pe_cl C_does_there hr rfl (qA0 (pv 0) (qA0 (pv 1) (qA0 (pv 2) (qA0 (pv 3) (qA0 (pe_ix qAR (pv 4) qA7 (fun _ _=>rfl)) qA2)))))))) (qA5 (qAE pe_bl)) qAH) pss_never))),?_⟩
 try dsimp only [Cx.nox,Cx.wish,cxOf]
 refine cut fun N0 hN0=>?_
 refine ⟨_,rfl,x,n,d,rfl,D,_,rfl,?_⟩
 cases cp:pairO d with
 | true=>
  obtain ⟨m,r,xs,ds,rfl,rfl,rfl,gr,lx,el⟩:=qDE D (by cases d <;> first | rfl | cases cp)
  obtain ⟨d0,d1,rfl⟩:=get_two (of_decide_eq_true cp)
  obtain ⟨x0,x1,rfl⟩:=get_two lx
  have D0:=el 0 x0 d0 rfl rfl
  have D1:=el 1 x1 d1 rfl rfl
  obtain ⟨sc,eq⟩:=leaf_str (Str.ofString "none") (dat_leaf D0 ok.1)
  have e:ShowsD net wides sizes asked (.tuple [d0,d1])=(isS (Str.ofString "none") d0=true∧NeverD net wides sizes asked d1):=rfl
  rw [e] at q
  refine ⟨_,rfl,r,_,_,_,rfl,rfl,SqT.of gr,rfl,sc,_,rfl,?_⟩
  rw [eq]
  cases c0:isS (Str.ofString "none") d0 with
  | true=>
   rw [c0] at q
   refine iteT ?_
   refine ⟨_,rfl,_,rfl,_,rfl,_,rfl,_,rfl,r,_,_,_,rfl,rfl,SqT.of gr,rfl,a,wd,sz,t,net,wides,sizes,asked,x1,m,d1,rfl,TK,gt,la,D1,ok.2,fun b H' sm iff=>q b H' sm (iff.trans ⟨fun z=>⟨rfl,z⟩,fun z=>z.2⟩)⟩
  | false=>
   rw [c0] at q
   refine iteF (hN0 _ _ (cut fun N1 hN1=>?_))
   obtain ⟨tt,ty,k1,k2,k3⟩:=ty_dat (K:=K) D
   refine ⟨_,rfl,.ref r,"tuple",tt,_,rfl,ty,k3,_,rfl,?_⟩
   refine iteF ?_
   refine ⟨_,rfl,r,_,rfl,.inr (SqT.of gr),rfl,_,rfl,?_⟩
   refine iteT ?_
   exact q false H (.refl _) ⟨fun z=>(nomatch z),fun z=>(nomatch z.1)⟩
 | false=>
  refine iteF (hN0 _ _ (cut fun N1 hN1=>?_))
  obtain ⟨tt,ty,k1,k2,k3⟩:=ty_dat (K:=K) D
  have no:¬ ShowsD net wides sizes asked d:=fun z=>by
   match d,z with
   | .tuple [_,_],_=>cases cp
  have qf:∀ H',Same H H'→Q (.bl false) H':=fun H' sm=>q false H' sm ⟨fun z=>(nomatch z),fun z=>absurd z no⟩
  refine ⟨_,rfl,x,"tuple",tt,_,rfl,ty,k3,_,rfl,?_⟩
  cases c:tupB d with
  | false=>
   refine iteT ?_
   exact qf H (.refl _)
  | true=>
   obtain ⟨m,r,xs,ds,rfl,rfl,rfl,gr,lx,el⟩:=qDE D c
   refine iteF ?_
   refine ⟨_,rfl,r,_,rfl,.inr (SqT.of gr),rfl,_,rfl,?_⟩
   by_cases l3:xs.length=3
   ·obtain ⟨x0,x1,x2,rfl⟩:=get_three l3
    obtain ⟨d0,d1,d2,rfl⟩:=get_three (lx.symm.trans l3)
    have D0:=el 0 x0 d0 rfl rfl
    have D1:=el 1 x1 d1 rfl rfl
    obtain ⟨sc,eq⟩:=leaf_str (Str.ofString "plan") (dat_leaf D0 ok.1)
    refine iteF ?_
    refine ⟨_,rfl,r,_,_,_,rfl,rfl,SqT.of gr,rfl,sc,_,rfl,?_⟩
    rw [eq]
    cases c0:isS (Str.ofString "plan") d0 with
    | false=>
     refine iteT ?_
     exact qf H (.refl _)
    | true=>
     obtain ⟨o1,o2,o3⟩:=ok.2 c0
     refine iteF (hN1 _ _ ?_)
     refine ⟨_,rfl,_,rfl,_,rfl,_,rfl,_,rfl,r,_,_,_,rfl,rfl,SqT.of gr,rfl,a,wd,sz,t,net,sizes,x1,m,d1,rfl,TK.net_,TK.sizes_,D1,o1,o2,o3,fun H' sm=>⟨_,rfl,?_⟩⟩
     refine iteT ?_
     exact qf H' sm
   ·rw [decide_eq_false (show ¬ V.int ((xs.length:Nat):Int)=V.int 3 from fun z=>by injection z with z;lia)]
    refine iteT ?_
    exact qf H (.refl _)
theorem sc_Lhas_all:FnScope ["_law_layout","_law_asked_here"] ["_law_layout","_law_asked_here"] (defScope qD7):=sc_mk
theorem ok_Lhas_all (F:Fun K "_law_has_all" "_law_has_all" qD7 f fd):FnOk P w K mg base CX0 1 f fd ["_law_layout","_law_asked_here"] spHasAll:=by
 refine F.okA sc_Lhas_all fun cdv A outer s H vs Q E hr h=>?_
 obtain ⟨la,r,lay,ns,rfl,hla,hns,l1,q⟩:=h
 have hu0:=hr.units0
 refine ⟨_,(qA5 (qAE (qCN (op_eq_nil hu0) (pe_lc rfl (lcs (own:=["_law_work"]) (fv:=[0]) (by kernel_rfl)) (pi_tup (pv 1)) (fun z1=>pg_in 0) (fun z1=>(qDB (qAF (op_notInK (K:=K) rfl) (pv 0) (pv 1) (by with_unfolding_all rfl)))) (fun z1=>(pv 0))) (qAK qA2) (nomark _)))),?_⟩
 try dsimp only [Cx.nox,Cx.wish,cxOf]
 refine ⟨_,rfl,r,rfl,⟨_,SqT.of hns⟩,fun p hp=>?_⟩
 refine lc_tup (p:=p) (a:=r) (xs:=ns.map V.int) (fun i σ Hc=>∃ (v:Option V),σ=[v,some (.ref la)]∧Same H Hc∧Hc p=some (.lst (((ns.take i).filter fun x=>!decide (some x ∈ lay)).map V.int))) ?_ ?_ ?_ ?_
 ·exact ⟨none,rfl,qA3 hp _,qA1⟩
 ·rintro i σ Hc hi ⟨v,rfl,sm,_⟩
  exact SqT.of (sm _ _ hns)
 ·refine fun i x σ Hc hx hI_2=>opq fun G_2 hG_2=>?_
  obtain ⟨v,rfl,sm,hpc⟩:=hI_2
  obtain ⟨z,ez,rfl⟩:=qD2 hx
  refine hG_2 ?_
  have hi:i<ns.length:=(List.getElem?_eq_some_iff.mp ez).1
  have lk:=qD3 (p:=fun x=>!decide (some x ∈ lay)) (l:=ns) (i:=i)
  refine ⟨_,rfl,_,rfl,la,_,rfl,.inr (SqT.of (sm _ _ hla)),rfl,qC1 lay,_,rfl,?_⟩
  rw [inV_lay,qDD ez]
  by_cases e:some z ∈ lay
  ·rw [decide_eq_true e]
   refine ⟨_,rfl,sm,?_⟩
   simpa using hpc
  ·rw [decide_eq_false e]
   refine ⟨_,rfl,_,hpc,small1000 (by rw [List.length_map];lia),_,rfl,qAG sm hp,?_⟩
   rw [qA1,if_pos (show (!false)=true from rfl),List.map_append]
   rfl
 refine fun σ H1 hI_3=>opq fun G_3 hG_3=>?_
 obtain ⟨v,rfl,sm1,hpc⟩:=hI_3
 refine hG_3 ?_
 rw [List.length_map,take_all rfl] at hpc
 refine ⟨(by show 0≤sizeLine;decide),fun e0 he0=>?_⟩
 have s0:=qA3 he0 (.lst [])
 refine ⟨p,e0,_,rfl,rfl,SqL.of (s0 _ _ hpc),SqL.of qA1,?_⟩
 have e:((ns.filter fun x=>!decide (some x ∈ lay)).map V.int).isEmpty=decide (∀ x ∈ ns,some x ∈ lay):=by
  by_cases c:∀ x ∈ ns,some x ∈ lay
  ·rw [decide_eq_true c]
   have:(ns.filter fun x=>!decide (some x ∈ lay))=[]:=by
    rw [List.filter_eq_nil_iff]
    intro x hx
    simp [c x hx]
   rw [this];rfl
  ·rw [decide_eq_false c]
   cases hf:(ns.filter fun x=>!decide (some x ∈ lay)) with
   | nil=>
    refine absurd (fun x hx=>?_) c
    have:=(List.filter_eq_nil_iff.mp hf) x hx
    simpa using this
   | cons y ys=>rfl
 rw [e]
 exact q _ (sm1.trans s0)
theorem sc_Lfits:FnScope ["_law_wides","_law_sizes","_law_layout","_law_works"] ["_law_wides","_law_sizes","_law_layout"] (defScope s_Lfits):=sc_mk
theorem ok_Lfits (F:Fun K "_law_fits" "_law_fits" s_Lfits f fd) (z_len:mg "len" = none) (z_set:mg "set" = none) (z_all:mg "all" = none) (z_zip:mg "zip" = none):FnOk P w K mg base CX0 1 f fd ["_law_wides","_law_sizes","_law_layout"] spFitsO:=by
 refine F.okA sc_Lfits fun cdv A outer s H vs Q E hr h=>?_
 obtain ⟨wd,sz,la,wides,sizes,lay,rfl,gw,gz,gl,ll,l3,ok,q⟩:=h
 refine ⟨_,(qA4 (ps_lc (i:=3) sc_Lfits.nd rfl rfl rfl (lcs (own:=["_law_work"]) (fv:=[]) (by kernel_rfl)) (pi_tup (pv 2)) (fun z1=>pg_in 0) (fun z1=>(qDB (qBP (pc_notN (pv 0))))) (fun z1=>(pv 0)) (by kernel_rfl)) (qA4 (ps_if (qAF op_lt (qAA call_lenO rfl z_len qAQ (qA0 (qAD (call_set rfl) rfl z_set bt_set (qA0 (pv 3) qA2)) qA2)) (qAA qA8 rfl z_len qAQ (qA0 (pv 3) qA2)) (nomark _)) (qA5 (qAE pe_bl)) qAH) (qA5 (qAE (qAA (call_all rfl) rfl z_all bt_all (qA0 (pe_lc rfl (lcs (own:=["_law_work","_law_size"]) (fv:=[0]) (by kernel_rfl)) (pi_zip rfl z_zip bt_zip (qA0 (pv 2) (qA0 (pv 1) qA2))) (fun z2=>pg_tupK (K:=K) (n:=2) rfl rfl (qB2 (pg_in 0) (qB2 (pg_in 1) pgs_nil)) rfl rfl) (fun z2=>qAY) (fun z2=>(pe_or (pe_cmp (pc_isN (pv 0))) (pe_one (qCN op_le (pe_ix (ix_tupK (K:=K) rfl) (pv 2) (pv 0) (fun _ _=>rfl)) (pv 1) (nomark _)))))) qA2)))))),?_⟩
 try dsimp only [Cx.nox,Cx.wish,cxOf]
 refine ⟨_,rfl,la,rfl,⟨_,SqT.of gl⟩,fun p hp=>?_⟩
 refine lc_tup (p:=p) (a:=la) (xs:=lay.map oV) (fun i σ Hc=>∃ (v:Option V),σ=[v]∧Same H Hc∧Hc p=some (.lst ((wksO (lay.take i)).map V.int))) ?_ ?_ ?_ ?_
 ·exact ⟨none,rfl,qA3 hp _,qA1⟩
 ·rintro i σ Hc hi ⟨v,rfl,sm,_⟩
  exact SqT.of (sm _ _ gl)
 ·refine fun i x σ Hc hx hI_2=>opq fun G_2 hG_2=>?_
  obtain ⟨v,rfl,sm,hpc⟩:=hI_2
  refine hG_2 ?_
  rw [List.getElem?_map] at hx
  obtain ⟨o,ho,rfl⟩:=Option.map_eq_some_iff.mp hx
  have lw:=wks_len (lay.take i)
  rw [List.length_take] at lw
  rw [wks_take ho]
  refine ⟨_,rfl,_,rfl,?_⟩
  cases o with
  | none=>
   rw [decide_eq_true (show oV none=V.non from rfl)]
   refine ⟨_,rfl,sm,?_⟩
   rw [Option.toList_none,List.append_nil]
   exact hpc
  | some z=>
   rw [decide_eq_false (show ¬ oV (some z)=V.non from fun e=>nomatch e)]
   refine ⟨_,rfl,_,hpc,qAC (by rw [List.length_map];lia),_,rfl,qAG sm hp,?_⟩
   rw [qA1,Option.toList_some,List.map_append]
   rfl
 refine fun σ H1 hI_3=>opq fun G_3 hG_3=>?_
 obtain ⟨v,rfl,s1,hpc⟩:=hI_3
 refine hG_3 ?_
 rw [List.length_map,take_all rfl] at hpc
 have lw:=wks_len lay
 refine ⟨_,rfl,p,(wksO lay),rfl,SqL.of hpc,by lia,fun S hS=>?_⟩
 have s2:=qA3 hS (SetO w S (dedI (wksO lay)))
 refine ⟨S,_,rfl,qA1,_,rfl,p,_,rfl,.inl (SqL.of (s2 _ _ hpc)),?_⟩
 have gz:=s1.trans s2 _ _ gz
 have sA:=s1.trans s2
 generalize upd H1 S (SetO w S (dedI (wksO lay)))=H2 at s2 sA gz ⊢
 rw [List.length_map]
 refine ⟨_,_,rfl,rfl,_,rfl,?_⟩
 have dn:=dedO_nodup (l:=wksO lay)
 have dl:=dedI_len (wksO lay)
 by_cases c:(dedI (wksO lay)).length<(wksO lay).length
 ·rw [decide_eq_true (show ((dedI (wksO lay)).length:Int)<((wksO lay).length:Int) by lia)]
  refine iteT ?_
  exact q false H2 sA ⟨fun z=>(nomatch z),fun z=>by have:=dn.mpr z.1;lia⟩
 ·rw [decide_eq_false (show ¬ ((dedI (wksO lay)).length:Int)<((wksO lay).length:Int) by lia)]
  refine iteF ?_
  have nd:=dn.mp (by lia)
  refine ⟨_,rfl,_,rfl,true,la,sz,rfl,⟨_,SqT.of (sA _ _ gl)⟩,⟨_,SqT.of gz⟩,fun pz hpz=>?_⟩
  refine lc_zip (p:=pz) (b:=true) (l:=la) (m:=sz) (xs:=lay.map oV) (ys:=sizes.map V.int) (by rw [List.length_map,List.length_map];exact ll) (fun j σ Hy=>∃ (v1 v2:Option V),σ=[v1,v2,some (.ref wd)]∧Same H2 Hy∧∃ bs:List Bool,Hy pz=some (.lst (bs.map V.bl))∧bs.length=j∧(bs.all id=true ↔ ∀ (i:Nat) (w:Int),i<j→lay[i]?=some (some w)→wides.getD w.toNat 0≤sizes.getD i 0)) ?_ (fun j σ Hy _ h=>?_) ?_ ?_
  ·exact ⟨none,none,rfl,qA3 hpz _,[],qA1,rfl,fun _ i w h=>absurd h (Nat.not_lt_zero _),fun _=>rfl⟩
  ·obtain ⟨_,_,_,sm,_⟩:=h
   exact ⟨SqT.of (sm _ _ (sA _ _ gl)),SqT.of (sm _ _ gz)⟩
  ·refine fun j x y σ Hy T hx hy hI_4 hT=>opq fun G_4 hG_4=>?_
   obtain ⟨v1,v2,rfl,sm,bs,hbs,lb,ib⟩:=hI_4
   refine hG_4 ?_
   rw [List.getElem?_map] at hx hy
   obtain ⟨o,ho,rfl⟩:=Option.map_eq_some_iff.mp hx
   obtain ⟨sv,hs,rfl⟩:=Option.map_eq_some_iff.mp hy
   have lj:=(List.getElem?_eq_some_iff.mp ho).1
   have sT:=qA3 hT (.tup [oV o,.int sv])
   refine ⟨T,_,rfl,SqT.of qA1,rfl,_,_,rfl,_,_,rfl,rfl,?_⟩
   have hbT:=sT _ _ hbs
   have smT:=sm.trans sT
   have gw2:=smT _ _ (sA _ _ gw)
   generalize upd Hy T (.tup [oV o,.int sv])=Hz at hbT smT gw2 ⊢
   have es:sizes.getD j 0=sv:=by rw [List.getD_eq_getElem?_getD,hs];rfl
   have fin:∀ b:Bool,(b=true ↔ ∀ w,o=some w→wides.getD w.toNat 0≤sv)→∃ ys,Hz pz=some (.lst ys)∧ys.length<sizeLine∧∃ (v1 v2:Option V),[some (oV o),some (V.int sv),some (V.ref wd)]=[v1,v2,some (.ref wd)]∧Same H2 (upd Hz pz (.lst (ys++[.bl b])))∧∃ bs:List Bool,(upd Hz pz (.lst (ys++[.bl b]))) pz=some (.lst (bs.map V.bl))∧bs.length=j+1∧(bs.all id=true ↔ ∀ (i:Nat) (w:Int),i<j+1→lay[i]?=some (some w)→wides.getD w.toNat 0≤sizes.getD i 0):=by
    intro b hb
    refine ⟨_,hbT,qAC (by rw [List.length_map];lia),_,_,rfl,qAG smT hpz,bs++[b],by rw [qA1,List.map_append];rfl,by rw [List.length_append,lb];rfl,?_⟩
    rw [List.all_append,Bool.and_eq_true,ib]
    show _∧(b && true)=true ↔ _
    rw [Bool.and_true,hb]
    constructor
    ·refine fun hI_5 i w hi e=>opq fun G_5 hG_5=>?_
     obtain ⟨z1,z2⟩:=hI_5
     refine hG_5 ?_
     by_cases c:i=j
     ·subst c
      rw [es]
      rw [ho] at e
      exact z2 w (Option.some.inj e)
     ·exact z1 i w (by lia) e
    ·intro z
     refine ⟨fun i w hi e=>z i w (by lia) e,fun w e=>?_⟩
     rw [← es]
     exact z j w (by lia) (by rw [ho,e])
   refine ⟨_,rfl,?_⟩
   cases o with
   | none=>
    refine ⟨_,rfl,?_⟩
    exact fin true ⟨fun _ w z=>(nomatch z),fun _=>rfl⟩
   | some w=>
    refine ⟨_,rfl,?_⟩
    rw [if_neg (by simp [oV])]
    obtain ⟨w0,w1⟩:=ok w (List.mem_of_getElem? ho)
    have hw:=List.getElem?_eq_getElem (show w.toNat<wides.length by lia)
    have ew:wides.getD w.toNat 0=wides[w.toNat]:=by rw [List.getD_eq_getElem?_getD,hw];rfl
    generalize wides[w.toNat]=wv at hw ew
    refine ⟨_,rfl,_,rfl,wd,_,_,_,rfl,rfl,SqT.of gw2,qBV w0 (by rw [List.getElem?_map,hw];rfl),_,rfl,_,_,rfl,rfl,?_⟩
    refine fin (decide (wv≤sv)) ?_
    rw [decide_eq_true_eq,← ew]
    exact ⟨fun z w' e=>by rw [← Option.some.inj e];exact z,fun z=>z w rfl⟩
  ·refine fun σ Hy hI_6=>opq fun G_6 hG_6=>?_
   obtain ⟨v1,v2,rfl,sm,bs,hbs,lb,ib⟩:=hI_6
   refine hG_6 ?_
   refine ⟨pz,_,rfl,SqL.of hbs,?_⟩
   refine q _ Hy (sA.trans sm) ?_
   rw [ib]
   refine ⟨fun z=>⟨nd,fun i w e=>z i w ?_ e⟩,fun z i w _ e=>z.2 i w e⟩
   rw [List.length_map]
   exact (List.getElem?_eq_some_iff.mp e).1
theorem sc_Ljudged:FnScope ["_law_net_here","_law_wides","_law_sizes","_law_asked_here","_law_thing","_law_layout","_law_known","_law_move"] ["_law_net_here","_law_wides","_law_sizes","_law_asked_here","_law_thing"] (defScope s_Ljudged):=sc_mk
theorem ok_Ljudged (F:Fun K "_law_judged" "_law_judged" s_Ljudged f fd) (C_Lhas_all:Clb P w K mg base 1 f_Lhas_all fd_Lhas_all "_law_has_all" ["_law_layout","_law_asked_here"] spHasAll) (C_Lfits:Clb P w K mg base 1 f_Lfits fd_Lfits "_law_fits" ["_law_wides","_law_sizes","_law_layout"] spFitsO) (C_Lall_moves:Clb P w K mg base 1 f_Lall_moves fd_Lall_moves "_law_all_moves" ["_law_net_here","_law_sizes"] spAllMo) (C_Lfault:Clb P w K mg base 1 f_Lfault fd_Lfault "_law_fault" ["_law_net_here","_law_wides","_law_sizes","_law_layout","_law_move"] (spTh false)) (C_Lput:Clb P w K mg base 1 f_Lput fd_Lput "_law_put" ["_law_layout","_law_move"] spLayB) (z_len:mg "len" = none) (z_dict:mg "dict" = none):FnOk P w K mg base CX0 2 f fd ["_law_net_here","_law_wides","_law_sizes","_law_asked_here","_law_thing"] spJudgedO:=by
 refine F.okA sc_Ljudged fun cdv A outer s H vs Q E hr h=>?_
 obtain ⟨a,wd,sz,t,T,net,wides,sizes,asked,L,rfl,TK,k3,gt,la,⟨l,rs,gT,gl,LA⟩,ok,len,q⟩:=h
 have hu:=hu_of hr
 have hu64:=hr.units
 refine ⟨_,(qA4 (ps_if (qAF op_eq (pe_ix qAR (pv 4) qA7 (fun _ _=>rfl)) qAT (nomark _)) pss_never qAH) (qA4 (qAB (i:=6) sc_Ljudged.nd rfl (Or.inl rfl) (qAD (call_dictT rfl hu64) rfl z_dict bt_dict (qA0 (pe_lc rfl (lcs (own:=["_law_layout"]) (fv:=[]) (by kernel_rfl)) (qB1 (pe_ix qAR (pv 4) qA7 (fun _ _=>rfl))) (fun z1=>pg_in 0) (fun z1=>qAY) (fun z1=>(qAJ (qA0 (pv 0) (qA0 pe_bl qA2))))) qA2))) (qA4 (ps_if (qBP (qCF hu (pe_op op_repT (qAJ (qA0 qBU qA2)) (qAA qA8 rfl z_len qAQ (qA0 (pv 2) qA2))) (pv 6))) (qA5 (qAE pe_bl)) qAH) (qA4 (qB5 PassesOwn.never rfl (pi_dictT (pe_frzT (pv 6))) (qAN (i:=5) sc_Ljudged.nd rfl (Or.inl rfl)) (qA4 (ps_if (PW.pt (pw_or (qBT (pe_cl C_Lhas_all hr rfl (qA0 (pv 5) (qA0 (pv 3) qA2)))) (pw_or1 (qCV (qBT (pe_cl C_Lfits hr rfl (qA0 (pv 1) (qA0 (pv 2) (qA0 (pv 5) qA2))))))))) (qA5 (qAE pe_bl)) qAH) (qA5 (qB5 PassesOwn.never rfl (qB1 (pe_cl C_Lall_moves hr rfl (qA0 (pv 0) (qA0 (pv 2) qA2)))) (qAN (i:=7) sc_Ljudged.nd rfl (Or.inl rfl)) (qA5 (ps_if (PW.pt (pw_and (qBP (pc_isN (pe_cl C_Lfault hr rfl (qA0 (pv 0) (qA0 (pv 1) (qA0 (pv 2) (qA0 (pv 5) (qA0 (pv 7) qA2)))))))) (pw_and1 (qBP (qCF hu (pe_cl C_Lput hr rfl (qA0 (pv 5) (qA0 (pv 7) qA2))) (pv 6)))))) (qA5 (qAE pe_bl)) qAH)))))) (qA5 (qAE pe_bl)))))),?_⟩
 try dsimp only [Cx.nox,Cx.wish,cxOf]
 have lrs:rs.length=L.length:=Paired.length LA
 refine cut fun N0 hN0=>?_
 refine ⟨_,rfl,T,_,_,_,rfl,rfl,SqT.of gT,rfl,rfl,_,rfl,?_⟩
 rw [decide_eq_false (show ¬ V.str (Str.ofString "none")=V.str (Str.ofString "plan") from by decide)]
 refine iteF (hN0 _ _ (cut fun N1 hN1=>?_))
 refine ⟨_,rfl,T,_,_,_,rfl,rfl,SqT.of gT,rfl,l,rfl,⟨_,SqL.of gl⟩,fun pq hpq=>?_⟩
 refine qCB (p:=pq) (a:=l) (xs:=rs.map V.ref) (fun i σ Hc=>∃ (v:Option V) (qs:List Addr) (ps:List (List KI × Addr × V)),σ=[v]∧Same H Hc∧Hc pq=some (.lst (qs.map V.ref))∧pairsT Hc K qs ps∧ps.map (fun q=>(q.1,q.2.2))=(L.take i).map (fun s=>(keyO s,V.bl true))) ?_ ?_ ?_ ?_
 ·exact ⟨none,[],[],rfl,qA3 hpq _,qA1,.nil,rfl⟩
 ·rintro i σ Hc hi ⟨v,qs,ps,rfl,sm,_⟩
  exact SqL.of (sm _ _ gl)
 ·refine fun i x σ Hc hx hI_2=>opq fun G_2 hG_2=>?_
  obtain ⟨v,qs,ps,rfl,sm,gq,PT,kp⟩:=hI_2
  obtain ⟨r,er,rfl⟩:=qBH hx
  obtain ⟨z,ez,gz⟩:=qAU LA er
  refine hG_2 ?_
  have hi:=(List.getElem?_eq_some_iff.mp ez).1
  have lq:qs.length≤i:=by
   have h1:=Paired.length PT
   have h2:=congrArg List.length kp
   rw [List.length_map,List.length_map,List.length_take] at h2
   lia
  refine ⟨_,rfl,(by show 2≤sizeLine;decide),fun tp htp=>?_⟩
  have sT:=qA3 htp (.tup [.ref r,.bl true])
  refine ⟨_,sT _ _ gq,qAC (by rw [List.length_map];lia),?_⟩
  rw [qAP]
  refine ⟨_,qs++[tp],ps++[(keyO z,r,.bl true)],rfl,qAG (sm.trans sT) hpq,qA1,pairs_grow PT gq htp (by rw [qAZ];exact sm _ _ gz),?_⟩
  rw [List.map_append,kp,List.take_add_one,ez,Option.toList_some,List.map_append]
  rfl
 refine fun σ H1 hI_3=>opq fun G_3 hG_3=>?_
 obtain ⟨v,qs,ps,rfl,s1,gq,PT,kp⟩:=hI_3
 refine hG_3 ?_
 rw [List.length_map,lrs,List.take_length] at kp
 refine ⟨pq,qs,ps,rfl,SqL.of gq,PT,fun dk hdk=>?_⟩
 have ek:putAllT [] ps=kvB (onceO L):=put_once (ks:=[]) kp
 rw [ek]
 have sd:=s1.trans (qA3 hdk (.dT (kvB (onceO L))))
 have gd:(upd H1 dk (.dT (kvB (onceO L)))) dk=some (.dT (kvB (onceO L))):=qA1
 have fd0:H dk=none:=s1.free hdk
 have ln:=once_len L
 have ok2:LysOk net sizes (onceO L):=fun s hs=>ok s (once_mem.mp hs)
 have jo:=jo_once (net:=net) (wides:=wides) (sizes:=sizes) (asked:=asked) (L:=L)
 generalize onceO L=ks at sd gd ln ok2 jo ⊢
 generalize upd H1 dk (.dT (kvB ks))=H2 at sd gd ⊢
 clear PT kp gq s1 hdk ek
 refine hN1 _ _ (cut fun N2 hN2=>?_)
 have k1:=TK.k1
 have n6:=TK.n6
 have lsz:(((sizes.map V.int).length:Nat):Int)=(sizes.length:Int):=by rw [List.length_map]
 refine ⟨(by show 1≤sizeLine;decide),fun t1 ht1=>?_⟩
 have s2:=qA3 ht1 (.tup [.non])
 refine ⟨_,rfl,sz,_,rfl,.inr (SqT.of (s2 _ _ (sd _ _ TK.sizes_))),?_⟩
 rw [lsz]
 refine qCE qA1 k1 (by lia) fun la0 H3 s3 gla=>?_
 have gd3:=s3 _ _ (s2 _ _ gd)
 have s03:=sd.trans (s2.trans s3)
 clear s2 s3 gd sd ht1
 refine ⟨_,rfl,dk,_,rfl,.inr ⟨kvB ks,keyO (l0 sizes),la0,.inl gd3,rfl,by rw [qAZ];exact gla,rfl⟩,_,rfl,?_⟩
 rw [kvB_has]
 by_cases c0:l0 sizes ∈ ks
 ·rw [decide_eq_true c0]
  refine iteF (hN2 _ _ (cut fun N3 hN3=>?_))
  refine ⟨_,rfl,dk,_,rfl,gd3,fun o=>⟨dk,o,_,rfl,qA1,?_⟩⟩
  have s4:Same H (upd H3 dk (.frz o (.dT (kvB ks)))):=qAG s03 fd0
  have g4:(upd H3 dk (.frz o (.dT (kvB ks)))) dk=some (.frz o (.dT (kvB ks))):=qA1
  generalize upd H3 dk (.frz o (.dT (kvB ks)))=H4 at s4 g4 ⊢
  refine for_dictTS (a:=dk) (o:=o) (kvs:=kvB ks) (fun i σ He=>∃ (v6 v7:Option V),σ=[some (.ref a),some (.ref wd),some (.ref sz),some (.ref t),some (.ref T),v6,some (.ref dk),v7]∧Same H4 He∧∀ s ∈ ks.take i,FitO wides sizes s∧(¬ ∀ x ∈ asked,some x ∈ s)∧∀ m ∈ nxO net wides sizes s,beO s m ∈ ks)
   ⟨none,none,rfl,.refl _,fun s h=>by rw [List.take_zero] at h;exact (nomatch h)⟩ (fun i σ He _ ⟨_,_,_,z,_⟩=>z _ _ g4) ?_ ?_
  ·refine fun i k v r σ He hkv gr hI_4=>opq fun G_4 hG_4=>?_
   obtain ⟨v6,v7,rfl,se,cl⟩:=hI_4
   refine hG_4 ?_
   unfold kvB at hkv
   rw [List.getElem?_map] at hkv
   obtain ⟨s,hs,e1⟩:=Option.map_eq_some_iff.mp hkv
   cases e1
   rw [qAZ] at gr
   have hsk:=List.mem_of_getElem? hs
   obtain ⟨o1,o2⟩:=ok2 s hsk
   have sE:=s4.trans se
   refine cut fun N4 hN4=>?_
   refine ⟨_,rfl,_,rfl,r,t,s,asked,rfl,gr,sE _ _ gt,la,fun H5 s5=>⟨_,rfl,?_⟩⟩
   by_cases ca:∀ x ∈ asked,some x ∈ s
   ·rw [decide_eq_true ca]
    refine iteT ?_
    exact q false H5 (sE.trans s5) ⟨fun z=>(nomatch z),fun z=>absurd ca ((jo.mpr z).2 s hsk).2.1⟩
   rw [decide_eq_false ca]
   refine iteF ?_
   have s15:=sE.trans s5
   refine ⟨_,rfl,_,rfl,_,rfl,wd,sz,r,wides,sizes,s,rfl,s15 _ _ TK.wides_,s15 _ _ TK.sizes_,s5 _ _ gr,o1,k3,by rw [TK.lw];exact o2,fun b H6 s6 ib=>⟨_,rfl,?_⟩⟩
   have s16:=s15.trans s6
   cases b with
   | false=>
    refine iteT ?_
    exact q false H6 s16 ⟨fun z=>(nomatch z),fun z=>absurd (ib.mpr ((jo.mpr z).2 s hsk).1) (by simp)⟩
   | true=>
    refine iteF (hN4 _ _ ?_)
    have ft:FitO wides sizes s:=ib.mp rfl
    have g16:=s6 _ _ (s5 _ _ (se _ _ g4))
    have gr6:=s6 _ _ (s5 _ _ gr)
    clear s15 sE
    refine ⟨_,rfl,_,rfl,a,sz,net,sizes,rfl,TK.net_.same s16,n6,s16 _ _ TK.sizes_,by lia,fun ml H7 s7 fm ⟨rsm,gm,MM⟩=>?_⟩
    have lrm:rsm.length=(allMo (net.length:Int) (sizes.length:Int)).length:=Paired.length MM
    refine ⟨ml,rfl,⟨_,SqL.of gm⟩,qCS (a:=ml) (xs:=rsm.map V.ref) (fun k σ Hf=>∃ (v7:Option V),σ=[some (.ref a),some (.ref wd),some (.ref sz),some (.ref t),some (.ref T),some (.ref r),some (.ref dk),v7]∧Same H7 Hf∧∀ m ∈ (allMo (net.length:Int) (sizes.length:Int)).take k,fwO net wides sizes s m=.non→beO s m ∈ ks)
     ⟨_,rfl,.refl _,fun m h=>by rw [List.take_zero] at h;exact (nomatch h)⟩ (fun k σ Hf _ hP=>by obtain ⟨_,_,zf,_⟩:=hP;exact SqL.of (zf _ _ gm)) ?_ ?_⟩
    ·refine fun k x σ Hf hx hI_5=>opq fun G_5 hG_5=>?_
     obtain ⟨v7,rfl,sf,ck⟩:=hI_5
     obtain ⟨mv,hmv,rfl⟩:=qBH hx
     obtain ⟨mo,hm2,gmv⟩:=qAU MM hmv
     refine hG_5 ?_
     have hin:=List.mem_of_getElem? hm2
     have nb:=qCH hin
     have s1f:=s16.trans (s7.trans sf)
     have take:∀ {P:Prop},(fwO net wides sizes s mo=.non→beO s mo ∈ ks)→((∀ m ∈ (allMo (net.length:Int) (sizes.length:Int)).take (k+1),fwO net wides sizes s m=.non→beO s m ∈ ks)→P)→P:=fun h1 h2=>h2 fun m hm=>by
      rw [List.take_add_one,hm2,Option.toList_some,List.mem_append,List.mem_singleton] at hm
      rcases hm with z | z
      ·exact ck m z
      ·rw [z];exact h1
     obtain ⟨ns,ov,sv,wv,TI,ef⟩:=(TK.same s1f).tinO (sf _ _ (s7 _ _ gr6)) o1 (sf _ _ gmv) hin
     refine ⟨_,rfl,_,rfl,_,rfl,_,rfl,_,rfl,a,wd,sz,r,mv,net,wides,sizes,s,mo,ns,ov,sv,wv,rfl,TI,(fun e=>nomatch e),fun H8 s8=>?_⟩
     rw [← ef]
     refine ⟨_,rfl,?_⟩
     by_cases cn:fwO net wides sizes s mo=.non
     ·rw [decide_eq_true cn]
      have s78:=s7.trans (sf.trans s8)
      refine ⟨_,rfl,_,rfl,r,mv,s,mo,rfl,s78 _ _ gr6,s8 _ _ (sf _ _ gmv),nb.1,by lia,by lia,fun r2 H9 s9 gr2=>?_⟩
      have s79:=s78.trans s9
      refine ⟨_,rfl,dk,_,rfl,.inr ⟨kvB ks,keyO (beO s mo),r2,.inr ⟨o,s79 _ _ g16⟩,rfl,by rw [qAZ];exact gr2,rfl⟩,_,rfl,?_⟩
      rw [kvB_has]
      by_cases cm:beO s mo ∈ ks
      ·rw [decide_eq_true cm]
       exact take (fun _=>cm) fun h=>⟨_,rfl,sf.trans (s8.trans s9),h⟩
      ·rw [decide_eq_false cm]
       exact q false H9 (s16.trans s79) ⟨fun z=>(nomatch z),fun z=>absurd (((jo.mpr z).2 s hsk).2.2 mo (List.mem_filter.mpr ⟨all_mem_pr hin,decide_eq_true cn⟩)) cm⟩
     ·rw [decide_eq_false cn]
      exact take (fun z=>absurd z cn) fun h=>⟨_,rfl,sf.trans s8,h⟩
    ·refine fun σ Hf hI_6=>opq fun G_6 hG_6=>?_
     obtain ⟨v7,rfl,sf,ck⟩:=hI_6
     refine hG_6 ?_
     rw [List.length_map,lrm,List.take_length] at ck
     refine ⟨_,_,rfl,se.trans (s5.trans (s6.trans (s7.trans sf))),fun s' hs'=>?_⟩
     rw [List.take_add_one,hs,Option.toList_some,List.mem_append,List.mem_singleton] at hs'
     rcases hs' with z | z
     ·exact cl s' z
     ·rw [z]
      refine ⟨ft,ca,fun m hm=>ck m (mem_pr_all (List.mem_filter.mp hm).1) (of_decide_eq_true (List.mem_filter.mp hm).2)⟩
  ·refine fun σ He hI_7=>opq fun G_7 hG_7=>?_
   obtain ⟨v6,v7,rfl,se,cl⟩:=hI_7
   refine hG_7 ?_
   refine hN3 _ _ ?_
   rw [show (kvB ks).length=ks.length from List.length_map _,List.take_length] at cl
   exact q true He (s4.trans se) ⟨fun _=>jo.mp ⟨c0,cl⟩,fun _=>rfl⟩
 ·rw [decide_eq_false c0]
  refine iteT ?_
  exact q false H3 s03 ⟨fun z=>(nomatch z),fun z=>absurd (jo.mpr z).1 c0⟩
theorem sc_Lshown_right:FnScope ["_law_net_here","_law_wides","_law_sizes","_law_asked_here","_law_thing","_law_found"] ["_law_net_here","_law_wides","_law_sizes","_law_asked_here","_law_thing"] (defScope qBK):=sc_mk
theorem ok_Lshown_right (F:Fun K "_law_shown_right" "_law_shown_right" qBK f fd) (C_shows_there:Clb P w K mg base 6 f_shows_there fd_shows_there "shows_there" ["net","wides","sizes","asked","thing"] spShowsD) (C_Ljudged:Clb P w K mg base 2 f_Ljudged fd_Ljudged "_law_judged" ["_law_net_here","_law_wides","_law_sizes","_law_asked_here","_law_thing"] spJudgedO) (z_isinstance:mg "isinstance" = none) (z_bool:mg "bool" = none):FnOk P w K mg base CX0 7 f fd ["_law_net_here","_law_wides","_law_sizes","_law_asked_here","_law_thing"] spShownO:=by
 refine F.okA sc_Lshown_right fun cdv A outer s H vs Q E hr h=>?_
 obtain ⟨a,wd,sz,t,T,net,wides,sizes,asked,L,rfl,TK,k3,gt,la,NA,ok,len,q⟩:=h
 refine ⟨_,(qA4 (qAB (i:=5) sc_Lshown_right.nd rfl (Or.inl rfl) (pe_cl C_shows_there hr rfl (qA0 (pv 0) (qA0 (pv 1) (qA0 (pv 2) (qA0 (pv 3) (qA0 (pv 4) qA2))))))) (qA5 (qAE (pe_and (qAA qB0 rfl z_isinstance qAW (qA0 (pv 5) (qA0 (qCO (v:=.ty "bool") rfl z_bool bt_bool rfl) qA2))) (pe_one (qCN op_eq (pv 5) (pe_cl C_Ljudged hr rfl (qA0 (pv 0) (qA0 (pv 1) (qA0 (pv 2) (qA0 (pv 3) (qA0 (pv 4) qA2)))))) (nomark _))))))),?_⟩
 try dsimp only [Cx.nox,Cx.wish,cxOf]
 obtain ⟨l,rs,gT,gl,LA⟩:=id NA
 have D:=dat_two gT (n:=2) (dx:=.str (Str.ofString "none")) (.inl (.inr (.inr (.inr ⟨_,rfl,rfl⟩)))) (dat_lays gl LA)
 have lenD:lenB (.list (L.map layD)):=by
  show (L.map layD).length≤20000
  rw [List.length_map]
  exact len
 refine ⟨_,rfl,_,rfl,_,rfl,_,rfl,_,rfl,a,wd,sz,t,net,wides,sizes,asked,.ref T,3,_,rfl,TK,gt,la,D,⟨rfl,lenD⟩,fun b H1 s1 ib=>?_⟩
 rw [shows_iff ok] at ib
 refine ⟨_,rfl,.bl b,"bool",_,true,rfl,.bl b,rfl,_,rfl,?_⟩
 rw [if_pos rfl]
 refine ⟨_,rfl,_,rfl,_,rfl,_,rfl,_,rfl,_,rfl,a,wd,sz,t,T,net,wides,sizes,asked,L,rfl,TK.same s1,k3,s1 _ _ gt,la,⟨l,rs,s1 _ _ gT,s1 _ _ gl,LA.same s1⟩,ok,len,fun b2 H2 s2 ib2=>⟨rfl,?_⟩⟩
 have e:b=b2:=Bool.eq_iff_iff.mpr (ib.trans ib2.symm)
 subst e
 rw [decide_eq_true rfl]
 exact q H2 (s1.trans s2)
theorem sc_Lmixed:FnScope ["_law_state","_law_some","_law_rest","_law_found","_law_turn"] ["_law_state","_law_some"] (defScope s_Lmixed):=sc_mk
theorem ok_Lmixed (F:Fun K "_law_mixed" "_law_mixed" s_Lmixed f fd) (C_Ltake:Clb P w K mg base 1 f_Ltake fd_Ltake "_law_take" ["_law_state","_law_many"] spTake) (z_list:mg "list" = none) (z_len:mg "len" = none) (z_range:mg "range" = none):FnOk P w K mg base CX0 2 f fd ["_law_state","_law_some"] spMixedO:=by
 refine F.okA sc_Lmixed fun cdv A outer s H vs Q E hr h=>?_
 obtain ⟨d,c,l,t,ns,rs,PP,rfl,S,ht,gl,LP,ne,len,q⟩:=h
 have ht':t≤1000000000 - 5000:=ht
 have hu0:=hr.units0
 refine ⟨_,(qA4 (qAB (i:=2) sc_Lmixed.nd rfl (Or.inl rfl) (qAD qC8 rfl z_list qBS (qA0 (pv 1) qA2))) (qA4 (qAB (i:=3) sc_Lmixed.nd rfl (Or.inl rfl) (qAK qA2)) (qA4 (ps_while PassesOwn.never (qAF (qD1 hu0) (pv 2) (qAK qA2) (nomark _)) (qA5 (qBJ (pe_bm PySem.F.plainAttrs_list PySem.F.slot_list_append PySem.F.type_list_append qB6 (pv 3) (qA0 (pe_bm PySem.F.plainAttrs_list PySem.F.slot_list_pop PySem.F.type_list_pop mt_popAt (pv 2) (qA0 (pe_cl C_Ltake hr rfl (qA0 (pv 0) (qA0 (qAA qA8 rfl z_len qAQ (qA0 (pv 2) qA2)) qA2))) qA2)) qA2))))) (qA4 (qB5 PassesOwn.never rfl (qAO rfl z_range (qA0 (pe_cl C_Ltake hr rfl (qA0 (pv 0) (qA0 qA7 qA2))) qA2)) (qAN (i:=4) sc_Lmixed.nd rfl (Or.inl rfl)) (qA5 (qBJ (pe_bm PySem.F.plainAttrs_list PySem.F.slot_list_append PySem.F.type_list_append qB6 (pv 3) (qA0 (pe_ix qCC (pv 3) (pe_cl C_Ltake hr rfl (qA0 (pv 0) (qA0 (qAA qA8 rfl z_len qAQ (qA0 (pv 3) qA2)) qA2))) (fun _ _=>rfl)) qA2))))) (qA5 (qAE (pv 3))))))),?_⟩
 try dsimp only [Cx.nox,Cx.wish,cxOf]
 refine ⟨_,rfl,l,_,rfl,.inl (SqL.of gl),fun p1 hp1=>?_⟩
 have s1:=qA3 hp1 (.lst (rs.map V.ref))
 have g1:(upd H p1 (.lst (rs.map V.ref))) p1=some (.lst (rs.map V.ref)):=qA1
 generalize upd H p1 (.lst (rs.map V.ref))=H1 at s1 g1 ⊢
 refine cut fun N1 hN1=>?_
 refine hN1 _ _ (cut fun N2 hN2=>?_)
 refine ⟨(by show 0≤sizeLine;decide),fun p2 hp2=>?_⟩
 have s2:=s1.trans (qA3 hp2 (.lst []))
 have n12:p1 ≠ p2:=qA6 g1 hp2
 have g11:=qA3 hp2 (.lst []) _ _ g1
 have g2:(upd H1 p2 (.lst [])) p2=some (.lst (([]:List Addr).map V.ref)):=qA1
 have f2:H p2=none:=s1.free hp2
 generalize upd H1 p2 (.lst [])=H2 at s2 g11 g2 ⊢
 refine hN2 _ _ (cut fun N3 hN3=>?_)
 have nS:∀ {p:Addr},H p=none→p ≠ d∧p ≠ c:=fun e=>⟨fun z=>(by rw [z,S.dict] at e;cases e),fun z=>(by rw [z,S.list] at e;cases e)⟩
 refine ⟨fun m σ Hc=>∃ (ra rb:List Addr) (t':Int) (ns':List Int),σ=[some (.ref d),some (.ref l),some (.ref p1),some (.ref p2),none]∧m=ra.length∧StAt Hc d c t' ns'∧t≤t'∧t'+ra.length≤t+rs.length∧Keep d c H Hc∧Hc p1=some (.lst (ra.map V.ref))∧Hc p2=some (.lst (rb.map V.ref))∧LsP Hc ra PP∧LsP Hc rb PP∧ra.length+rb.length=rs.length,
  ⟨_,rs,[],t,ns,rfl,rfl,S.same s2,Int.le_refl _,Int.le_refl _,.of_same s2,g11,g2,LP.same s2,.nil,rfl⟩,?_⟩
 clear g11 g2 s2 g1 s1
 refine fun m σ Hc hI_1=>opq fun G_1 hG_1=>?_
 obtain ⟨ra,rb,t',ns',rfl,rfl,Sc,t1,t2,Kc,ga,gb,LA,LB,lab⟩:=hI_1
 refine hG_1 ?_
 refine ⟨_,rfl,(by show 0≤sizeLine;decide),fun e he=>?_⟩
 have se:=qA3 he (.lst [])
 refine ⟨p1,e,_,rfl,rfl,SqL.of (se _ _ ga),SqL.of qA1,_,rfl,?_⟩
 have Sc:=Sc.same se
 have Kc:=Kc.trans (.of_same se)
 have ga:=se _ _ ga
 have gb:=se _ _ gb
 have LA:=LA.same se
 have LB:=LB.same se
 generalize upd Hc e (.lst [])=Hd at Sc Kc ga gb LA LB ⊢
 refine ite2 (fun cn=>?_) (fun cn=>?_)
 ·have fne:ra ≠ []:=fun z=>by rw [z] at cn;cases cn
  have fpos:0<ra.length:=List.length_pos_iff.mpr fne
  have lv:(((ra.map V.ref).length:Nat):Int)=(ra.length:Int):=by rw [List.length_map]
  refine nameN fun W0 hW0=>?_
  refine ⟨_,rfl,.inl ⟨rfl,_,SqL.of gb⟩,_,rfl,.inl ⟨rfl,_,SqL.of ga⟩,_,rfl,_,rfl,p1,_,rfl,.inl (SqL.of ga),d,c,t',ns',_,rfl,Sc,(by show t'≤1000000000;lia),by rw [lv];lia,by rw [lv];lia,fun k ns6 H6 k0 k1' S6 K6=>?_⟩
  rw [lv] at k1'
  have n1:=nS hp1
  have n2:=nS f2
  have ga6:=K6 _ _ ga n1.1 n1.2
  have gb6:=K6 _ _ gb n2.1 n2.2
  have LA6:=LA.keep Sc K6
  have LB6:=LB.keep Sc K6
  have hk:k.toNat<ra.length:=by lia
  have hz:=List.getElem?_eq_getElem hk
  have hin:=List.getElem_mem hk
  generalize ra[k.toNat]=y at hz hin
  refine ⟨p1,_,k,k.toNat,V.ref y,rfl,rfl,ga6,by lia,by lia,seq_at k0 (by rw [List.length_map];exact k1'),by rw [List.getElem?_map,hz];rfl,?_⟩
  rw [erase_mapA]
  have le:=List.length_eraseIdx_of_lt hk
  refine ⟨p2,_,_,rfl,rfl,by rw [qA9 n12.symm];exact gb6,qAC (by rw [List.length_map];lia),?_⟩
  refine hW0 _ _ ⟨_,by rw [le];lia,ra.eraseIdx k.toNat,rb++[y],t'+1,ns6,rfl,rfl,(S6.own n1).own n2,by lia,by rw [le];lia,((Kc.trans K6).own hp1).own f2,by rw [qA9 n12,qA1],by rw [qA1,qAP],?_,?_,by rw [le,List.length_append,List.length_singleton];lia⟩
  ·exact ((LA6.sub fun r hr=>(List.eraseIdx_sublist ra _).mem hr).lput ga6).lput (by rw [qA9 n12.symm];exact gb6)
  ·refine LsP.app ((LB6.lput ga6).lput (by rw [qA9 n12.symm];exact gb6)) ?_
   exact ((LA6.sub (us:=[y]) fun r hr=>by rw [List.mem_singleton.mp hr];exact hin).lput ga6).lput (by rw [qA9 n12.symm];exact gb6)
 ·have fe:ra=[]:=by
   cases ra with
   | nil=>rfl
   | cons x xs=>exact absurd rfl cn
  subst fe
  have tb:t'≤t+rs.length:=by simpa using t2
  have lab:rb.length=rs.length:=by simpa using lab
  have nb:rb ≠ []:=fun z=>by rw [z] at lab;exact ne (List.length_eq_zero_iff.mp lab.symm)
  have n2:=nS f2
  refine hN3 _ _ (cut fun N4 hN4=>?_)
  refine ⟨_,rfl,d,c,t',ns',3,rfl,Sc,(by show t'≤1000000000;lia),by decide,by decide,fun k3 ns5 H5 a0 a1 S5 K5=>⟨_,rfl,by lia,by lia,?_⟩⟩
  refine qB8 (lo:=0) (n:=k3.toNat) (fun i σ Hc=>∃ (rb:List Addr) (t2:Int) (ns2:List Int) (v4:Option V),σ=[some (.ref d),some (.ref l),some (.ref p1),some (.ref p2),v4]∧StAt Hc d c t2 ns2∧t≤t2∧t2≤t'+1+i∧Keep d c H Hc∧Hc p2=some (.lst (rb.map V.ref))∧LsP Hc rb PP∧rb ≠ []∧rb.length≤rs.length+i)
   ⟨rb,t'+1,ns5,none,rfl,S5,by lia,by lia,Kc.trans K5,K5 _ _ gb n2.1 n2.2,LB.keep Sc K5,nb,by lia⟩ ?_ ?_
  ·refine fun i σ Hc hi hI_2=>opq fun G_2 hG_2=>?_
   obtain ⟨rb,t2,ns2,v4,rfl,Sc,u1,u2,Kc,gb,LB,nb,lb⟩:=hI_2
   refine hG_2 ?_
   have lv:(((rb.map V.ref).length:Nat):Int)=(rb.length:Int):=by rw [List.length_map]
   have fpos:0<rb.length:=List.length_pos_iff.mpr nb
   refine ⟨_,rfl,.inl ⟨rfl,_,SqL.of gb⟩,_,rfl,_,rfl,_,rfl,p2,_,rfl,.inl (SqL.of gb),d,c,t2,ns2,_,rfl,Sc,(by show t2≤1000000000;lia),by rw [lv];lia,by rw [lv];lia,fun k ns6 H6 k0 k1' S6 K6=>?_⟩
   rw [lv] at k1'
   have gb6:=K6 _ _ gb n2.1 n2.2
   have LB6:=LB.keep Sc K6
   have hz:=List.getElem?_eq_getElem (show k.toNat<rb.length by lia)
   have hin:=List.getElem_mem (show k.toNat<rb.length by lia)
   generalize rb[k.toNat]=y at hz hin
   refine ⟨p2,_,_,_,rfl,rfl,SqL.of gb6,qBV k0 (by rw [List.getElem?_map,hz];rfl),?_⟩
   refine ⟨p2,_,_,rfl,rfl,gb6,qAC (by rw [List.length_map];lia),?_⟩
   exact ⟨rb++[y],t2+1,ns6,_,rfl,S6.own n2,by lia,by lia,(Kc.trans K6).own f2,by rw [qA1,qAP],LsP.app (LB6.lput gb6) ((LB6.sub (us:=[y]) fun r hr=>by rw [List.mem_singleton.mp hr];exact hin).lput gb6),by simp,by rw [List.length_append,List.length_singleton];lia⟩
  ·refine fun σ Hc hI_3=>opq fun G_3 hG_3=>?_
   obtain ⟨rb,t2,ns2,v4,rfl,Sc,u1,u2,Kc,gb,LB,nb,lb⟩:=hI_3
   refine hG_3 ?_
   refine hN4 _ _ ?_
   exact ⟨_,rfl,q p2 rb t2 ns2 Hc Sc u1 (by lia) Kc f2 gb LB nb (by lia)⟩
theorem sc_Lone_more:FnScope ["_law_state","_law_net_here","_law_sizes","_law_works","_law_layout","_law_room"] ["_law_state","_law_net_here","_law_sizes"] (defScope qCM):=sc_mk
theorem ok_Lone_more (F:Fun K "_law_one_more" "_law_one_more" qCM f fd) (C_Ltake:Clb P w K mg base 1 f_Ltake fd_Ltake "_law_take" ["_law_state","_law_many"] spTake) (C_Lput:Clb P w K mg base 1 f_Lput fd_Lput "_law_put" ["_law_layout","_law_move"] spLayB) (z_list:mg "list" = none) (z_len:mg "len" = none) (z_range:mg "range" = none):FnOk P w K mg base CX0 2 f fd ["_law_state","_law_net_here","_law_sizes"] spOneMoreO:=by
 refine F.okA sc_Lone_more fun cdv A outer s H vs Q E hr h=>?_
 obtain ⟨d,c,a,wd,sz,t,ns,net,wides,sizes,rfl,S,ht,T,q⟩:=h
 have ht':t≤1000000000 - 1000:=ht
 have hu0:=hr.units0
 refine ⟨_,(qA4 (qAB (i:=3) sc_Lone_more.nd rfl (Or.inl rfl) (qAD (call_list_rng rfl) rfl z_list qBS (qA0 (qAD call_rng1 rfl z_range bt_range (qA0 (qAA qA8 rfl z_len qAQ (qA0 (pv 1) qA2)) qA2)) qA2))) (qA4 (qAB (i:=4) sc_Lone_more.nd rfl (Or.inl rfl) (pe_op op_repT (qAJ (qA0 qBU qA2)) (qAA qA8 rfl z_len qAQ (qA0 (pv 2) qA2)))) (qA4 (qB5 PassesOwn.never rfl (qAO rfl z_range (qA0 (qAA qA8 rfl z_len qAQ (qA0 (pv 2) qA2)) qA2)) (qAN (i:=5) sc_Lone_more.nd rfl (Or.inl rfl)) (qA5 (ps_if (PW.pt (pw_and (qAF (qD1 hu0) (pv 3) (qAK qA2) (nomark _)) (pw_and1 (qAF op_gt (pe_cl C_Ltake hr rfl (qA0 (pv 0) (qA0 qA7 qA2))) qA7 (nomark _))))) (qA5 (qAB (i:=4) sc_Lone_more.nd rfl (Or.inl rfl) (pe_cl C_Lput hr rfl (qA0 (pv 4) (qA0 (qAJ (qA0 qAT (qA0 (pe_bm PySem.F.plainAttrs_list PySem.F.slot_list_pop PySem.F.type_list_pop mt_popAt (pv 3) (qA0 (pe_cl C_Ltake hr rfl (qA0 (pv 0) (qA0 (qAA qA8 rfl z_len qAQ (qA0 (pv 3) qA2)) qA2))) qA2)) (qA0 (pv 5) qA2)))) qA2))))) qAH))) (qA5 (qAE (pv 4)))))),?_⟩
 try dsimp only [Cx.nox,Cx.wish,cxOf]
 have k1:=T.k1
 have k5:=T.k5
 have n6:=T.n6
 have lsz:(((sizes.map V.int).length:Nat):Int)=(sizes.length:Int):=by rw [List.length_map]
 obtain ⟨rs,hA,NL⟩:=id T.net_
 have lrv:(((rs.map V.ref).length:Nat):Int)=(net.length:Int):=by rw [List.length_map,Paired.length NL]
 refine ⟨_,rfl,a,_,rfl,.inr (SqT.of hA),_,rfl,fun pr hpr=>⟨pr,_,_,rfl,qA1,by decide,by decide,by rw [lrv];lia,by rw [lrv];lia,fun lw hlw=>?_⟩⟩
 rw [rangeV_ints,lrv]
 have s4:=(qA3 hpr (.rng 0 (((rs.map V.ref).length:Nat):Int))).trans (qA3 hlw (.lst ((rangeI 0 (net.length:Int)).map V.int)))
 rw [lrv] at s4
 have g4:(upd (upd H pr (.rng 0 (net.length:Int))) lw (.lst ((rangeI 0 (net.length:Int)).map V.int))) lw=some (.lst ((rangeI 0 (net.length:Int)).map V.int)):=qA1
 have hlw3:H lw=none:=by
  by_cases e:lw=pr
  ·rw [e,qA1] at hlw;cases hlw
  ·rw [qA9 e] at hlw;exact hlw
 generalize upd (upd H pr (.rng 0 (net.length:Int))) lw (.lst ((rangeI 0 (net.length:Int)).map V.int))=H4 at s4 g4 ⊢
 have nlw:lw ≠ d∧lw ≠ c:=⟨(qA6 S.dict hlw3).symm,(qA6 S.list hlw3).symm⟩
 clear hlw hpr hA NL
 refine cut fun N1 hN1=>?_
 refine hN1 _ _ (cut fun N2 hN2=>?_)
 refine ⟨(by show 1≤sizeLine;decide),fun t1 ht1=>?_⟩
 have s1:=qA3 ht1 (.tup [.non])
 refine ⟨_,rfl,sz,_,rfl,.inr (SqT.of (s1 _ _ (s4 _ _ T.sizes_))),?_⟩
 rw [lsz]
 refine qCE qA1 k1 (by lia) fun la0 H5 s5 gla=>?_
 have s6:=s4.trans (s1.trans s5)
 have g5:=s5 _ _ (s1 _ _ g4)
 clear s4 s1 g4 ht1
 refine hN2 _ _ (cut fun N3 hN3=>?_)
 refine ⟨_,rfl,sz,_,rfl,.inr (SqT.of (s6 _ _ T.sizes_)),_,rfl,by rw [lsz];lia,by rw [lsz];lia,qB8 (lo:=0) (n:=((((sizes.map V.int).length:Nat):Int)).toNat) (fun i σ Hc=>∃ (t':Int) (ns' fs:List Int) (la:Addr) (lay:La) (v5:Option V),σ=[some (.ref d),some (.ref a),some (.ref sz),some (.ref lw),some (.ref la),v5]∧StAt Hc d c t' ns'∧t≤t'∧t'≤t+2 * i∧Keep d c H Hc∧Hc lw=some (.lst (fs.map V.int))∧(∀ x ∈ fs,0≤x∧x<(net.length:Int))∧Hc la=some (.tup (lay.map oV))∧lay.length=sizes.length∧LayOk (net.length:Int) lay∧fs.length≤10)
  ⟨t,ns,_,la0,l0 sizes,none,rfl,S.same s6,by lia,by lia,.of_same s6,g5,fun x hx=>by have:=mem_rangeI.mp hx;lia,gla,List.length_replicate,fun x hx=>(nomatch List.eq_of_mem_replicate hx),by rw [qB7];lia⟩ ?_ ?_⟩
 ·refine fun i σ Hc hi hI_4=>opq fun G_4 hG_4=>?_
  obtain ⟨t',ns',fs,la,lay,v5,rfl,Sc,g1,g2,Kc,gw,inw,gl,lel,okl,lfs⟩:=hI_4
  refine hG_4 ?_
  rw [lsz] at hi
  refine ⟨_,rfl,(by show 0≤sizeLine;decide),fun e0 he0=>?_⟩
  have s0:=qA3 he0 (.lst [])
  refine ⟨lw,e0,_,rfl,rfl,SqL.of (s0 _ _ gw),SqL.of qA1,_,rfl,?_⟩
  have S0:=Sc.same s0
  have gw0:=s0 _ _ gw
  have gl0:=s0 _ _ gl
  have K0:=Kc.trans (.of_same s0)
  generalize upd Hc e0 (.lst [])=Hd at s0 S0 gw0 gl0 K0 ⊢
  refine ite2 (fun cn=>?_) (fun cn=>?_)
  ·have fne:fs ≠ []:=fun z=>by rw [z] at cn;cases cn
   have fpos:0<fs.length:=List.length_pos_iff.mpr fne
   refine ⟨_,rfl,d,c,t',ns',3,rfl,S0,(by show t'≤1000000000;lia),by decide,by decide,fun k3 ns5 H5 a0 a1 S5 K5=>⟨_,_,rfl,rfl,_,rfl,?_⟩⟩
   have gw5:=K5 _ _ gw0 nlw.1 nlw.2
   have gl5:=K5 _ _ gl0 (S0.tup gl0).1 (S0.tup gl0).2
   refine ite2 (fun _=>?_) (fun _=>?_)
   ·have lv:(((fs.map V.int).length:Nat):Int)=(fs.length:Int):=by rw [List.length_map]
    refine ⟨_,rfl,_,rfl,.inl ⟨rfl,_,SqL.of gw5⟩,_,rfl,_,rfl,lw,_,rfl,.inl (SqL.of gw5),d,c,t'+1,ns5,_,rfl,S5,(by show t'+1≤1000000000;lia),by rw [lv];lia,by rw [lv];lia,fun k ns6 H6 k0 k1' S6 K6=>?_⟩
    rw [lv] at k1'
    have gw6:=K6 _ _ gw5 nlw.1 nlw.2
    have gl6:=K6 _ _ gl5 (S5.tup gl5).1 (S5.tup gl5).2
    have hk:k.toNat<fs.length:=by lia
    have hz:=List.getElem?_eq_getElem hk
    have zin:=inw _ (List.getElem_mem hk)
    generalize fs[k.toNat]=y at hz zin
    refine ⟨lw,_,k,k.toNat,V.int y,rfl,rfl,gw6,by lia,by lia,seq_at k0 (by rw [List.length_map];exact k1'),by rw [List.getElem?_map,hz];rfl,?_⟩
    rw [erase_mapA]
    have gl7:(upd H6 lw (.lst ((fs.eraseIdx k.toNat).map V.int))) la=some (.tup (lay.map oV)):=by rw [qA9 (ne_of gl6 gw6 (by intro z;cases z))];exact gl6
    have S7:StAt (upd H6 lw (.lst ((fs.eraseIdx k.toNat).map V.int))) d c (t'+1+1) ns6:=S6.own nlw
    have K7:Keep d c H (upd H6 lw (.lst ((fs.eraseIdx k.toNat).map V.int))):=((K0.trans K5).trans K6).own hlw3
    have gw7:(upd H6 lw (.lst ((fs.eraseIdx k.toNat).map V.int))) lw=some (.lst ((fs.eraseIdx k.toNat).map V.int)):=qA1
    generalize upd H6 lw (.lst ((fs.eraseIdx k.toNat).map V.int))=H7 at gl7 S7 K7 gw7 ⊢
    refine ⟨_,rfl,(by show 3≤sizeLine;decide),fun mv hmv=>?_⟩
    have sm:=qA3 hmv (.tup [.str "do",.int y,.int (0+(i:Int))])
    refine ⟨la,mv,lay,⟨true,y,0+(i:Int)⟩,rfl,sm _ _ gl7,qA1,by show (0:Int)≤0+(i:Int);lia,by show (0+(i:Int)).toNat<lay.length;lia,by lia,fun r H8 sm8 g8=>?_⟩
    have s8:=sm.trans sm8
    have le:=List.length_eraseIdx_le fs k.toNat
    exact ⟨t'+1+1,ns6,fs.eraseIdx k.toNat,r,_,_,rfl,S7.same s8,by lia,by lia,K7.trans (.of_same s8),s8 _ _ gw7,fun x hx=>inw x ((List.eraseIdx_sublist fs _).mem hx),g8,by rw [List.length_set];exact lel,LayOk.set (m:=⟨true,y,0+(i:Int)⟩) okl fun _=>zin,by lia⟩
   ·exact ⟨t'+1,ns5,fs,la,lay,_,rfl,S5,by lia,by lia,K0.trans K5,gw5,inw,gl5,lel,okl,lfs⟩
  ·exact ⟨t',ns',fs,la,lay,_,rfl,S0,by lia,by lia,K0,gw0,inw,gl0,lel,okl,lfs⟩
 ·refine fun σ Hc hI_5=>opq fun G_5 hG_5=>?_
  obtain ⟨t',ns',fs,la,lay,v5,rfl,Sc,g1,g2,Kc,gw,inw,gl,lel,okl,lfs⟩:=hI_5
  refine hG_5 ?_
  refine hN3 _ _ ?_
  rw [lsz] at g2
  exact ⟨_,rfl,q la lay t' ns' Hc Sc (by lia) (by lia) Kc gl ⟨lel,okl⟩⟩
theorem sc_Lclosed:FnScope ["_law_net_here","_law_wides","_law_sizes","_law_some","_law_found","_law_pile","_law_layout","_law_move","_law_more"] ["_law_net_here","_law_wides","_law_sizes","_law_some"] (defScope s_Lclosed):=sc_mk
theorem ok_Lclosed (F:Fun K "_law_closed" "_law_closed" s_Lclosed f fd) (C_Lall_moves:Clb P w K mg base 1 f_Lall_moves fd_Lall_moves "_law_all_moves" ["_law_net_here","_law_sizes"] spAllMo) (C_Lfault:Clb P w K mg base 1 f_Lfault fd_Lfault "_law_fault" ["_law_net_here","_law_wides","_law_sizes","_law_layout","_law_move"] (spTh false)) (C_Lput:Clb P w K mg base 1 f_Lput fd_Lput "_law_put" ["_law_layout","_law_move"] spLayB) (z_dict:mg "dict" = none) (z_list:mg "list" = none):FnOk P w K mg base CX0 2 f fd ["_law_net_here","_law_wides","_law_sizes","_law_some"] spClosedO:=by
 refine F.okA sc_Lclosed fun cdv A outer s H vs Q E hr h=>?_
 obtain ⟨a,wd,sz,l,net,wides,sizes,rs,rfl,TK,n5,k3,gl,LP,ne,len,q⟩:=h
 have hu:=hu_of hr
 have hu0:=hr.units0
 have hu64:=hr.units
 refine ⟨_,(qA4 (qAB (i:=4) sc_Lclosed.nd rfl (Or.inl rfl) (qAD (call_dictT rfl hu64) rfl z_dict bt_dict (qA0 (pe_lc rfl (lcs (own:=["_law_layout"]) (fv:=[]) (by kernel_rfl)) (qB1 (pv 3)) (fun z1=>pg_in 0) (fun z1=>qAY) (fun z1=>(qAJ (qA0 (pv 0) (qA0 pe_bl qA2))))) qA2))) (qA4 (qAB (i:=5) sc_Lclosed.nd rfl (Or.inl rfl) (qAD (qCI rfl) rfl z_list qBS (qA0 (pv 4) qA2))) (qA4 (ps_while PassesOwn.never (qAF (qD1 hu0) (pv 5) (qAK qA2) (nomark _)) (qA4 (qAB (i:=6) sc_Lclosed.nd rfl (Or.inl rfl) (pe_bm0 PySem.F.plainAttrs_list PySem.F.slot_list_pop PySem.F.type_list_pop mt_pop (pv 5))) (qA5 (qB5 PassesOwn.never rfl (qB1 (pe_cl C_Lall_moves hr rfl (qA0 (pv 0) (qA0 (pv 2) qA2)))) (qAN (i:=7) sc_Lclosed.nd rfl (Or.inl rfl)) (qA5 (ps_if (qBP (pc_isN (pe_cl C_Lfault hr rfl (qA0 (pv 0) (qA0 (pv 1) (qA0 (pv 2) (qA0 (pv 6) (qA0 (pv 7) qA2)))))))) (qA4 (qAB (i:=8) sc_Lclosed.nd rfl (Or.inl rfl) (pe_cl C_Lput hr rfl (qA0 (pv 6) (qA0 (pv 7) qA2)))) (qA5 (ps_if (qBP (qCF hu (pv 8) (pv 4))) (qA4 (ps_dput hu (pv 4) (pv 8) pe_bl rfl) (qA5 (qBJ (pe_bm PySem.F.plainAttrs_list PySem.F.slot_list_append PySem.F.type_list_append qB6 (pv 5) (qA0 (pv 8) qA2))))) qAH))) qAH)))))) (qA5 (qAE (qAD (qCI rfl) rfl z_list qBS (qA0 (pv 4) qA2))))))),?_⟩
 try dsimp only [Cx.nox,Cx.wish,cxOf]
 obtain ⟨L,LA,ok⟩:=LP.lay
 have lrs:rs.length=L.length:=Paired.length LA
 have n6:=TK.n6
 refine ⟨_,rfl,l,rfl,⟨_,SqL.of gl⟩,fun pq hpq=>?_⟩
 refine qCB (p:=pq) (a:=l) (xs:=rs.map V.ref) (fun i σ Hc=>∃ (v:Option V) (qs:List Addr) (ps:List (List KI × Addr × V)),σ=[v]∧Same H Hc∧Hc pq=some (.lst (qs.map V.ref))∧pairsT Hc K qs ps∧ps.map (fun q=>(q.1,q.2.2))=(L.take i).map (fun s=>(keyO s,V.bl true))) ?_ ?_ ?_ ?_
 ·exact ⟨none,[],[],rfl,qA3 hpq _,qA1,.nil,rfl⟩
 ·rintro i σ Hc hi ⟨v,qs,ps,rfl,sm,_⟩
  exact SqL.of (sm _ _ gl)
 ·refine fun i x σ Hc hx hI_2=>opq fun G_2 hG_2=>?_
  obtain ⟨v,qs,ps,rfl,sm,gq,PT,kp⟩:=hI_2
  obtain ⟨r,er,rfl⟩:=qBH hx
  obtain ⟨z,ez,gz⟩:=qAU LA er
  refine hG_2 ?_
  have hi:=(List.getElem?_eq_some_iff.mp ez).1
  have lq:qs.length≤i:=by
   have h1:=Paired.length PT
   have h2:=congrArg List.length kp
   rw [List.length_map,List.length_map,List.length_take] at h2
   lia
  refine ⟨_,rfl,(by show 2≤sizeLine;decide),fun tp htp=>?_⟩
  have sT:=qA3 htp (.tup [.ref r,.bl true])
  refine ⟨_,sT _ _ gq,qAC (by rw [List.length_map];lia),?_⟩
  rw [qAP]
  refine ⟨_,qs++[tp],ps++[(keyO z,r,.bl true)],rfl,qAG (sm.trans sT) hpq,qA1,pairs_grow PT gq htp (by rw [qAZ];exact sm _ _ gz),?_⟩
  rw [List.map_append,kp,List.take_add_one,ez,Option.toList_some,List.map_append]
  rfl
 refine fun σ H1 hI_3=>opq fun G_3 hG_3=>?_
 obtain ⟨v,qs,ps,rfl,s1,gq,PT,kp⟩:=hI_3
 refine hG_3 ?_
 rw [List.length_map,lrs,List.take_length] at kp
 refine ⟨pq,qs,ps,rfl,SqL.of gq,PT,fun dk hdk=>?_⟩
 have ek:putAllT [] ps=kvB (onceO L):=put_once (ks:=[]) kp
 rw [ek]
 have s2:=s1.trans (qA3 hdk (.dT (kvB (onceO L))))
 have gd:(upd H1 dk (.dT (kvB (onceO L)))) dk=some (.dT (kvB (onceO L))):=qA1
 have fdk:H dk=none:=s1.free hdk
 have ok2:∀ s ∈ onceO L,Lk net sizes s:=fun s hs=>ok s (once_mem.mp hs)
 have nd2:(onceO L).Nodup:=adds_nd .nil
 have ne2:onceO L ≠ []:=fun z=>by
  cases L with
  | nil=>exact ne (List.length_eq_zero_iff.mp lrs)
  | cons x xs=>have:=once_mem.mpr (List.mem_cons_self (a:=x) (l:=xs));rw [z] at this;cases this
 generalize onceO L=ks0 at s2 gd ok2 nd2 ne2 ⊢
 generalize upd H1 dk (.dT (kvB ks0))=H2 at s2 gd ⊢
 clear PT kp gq s1 hdk ek
 have lc:=lk_count nd2 ok2 n5 k3
 refine cut fun N1 hN1=>?_
 refine hN1 _ _ (cut fun N2 hN2=>?_)
 refine ⟨_,rfl,dk,_,rfl,gd,by unfold kvB;rw [List.length_map];lia,fun pl rp0 fpl KA=>?_⟩
 have s3:=s2.trans (qA3 fpl (.lst (rp0.map V.ref)))
 have gd3:=qA3 fpl (.lst (rp0.map V.ref)) _ _ gd
 have gp3:(upd H2 pl (.lst (rp0.map V.ref))) pl=some (.lst (rp0.map V.ref)):=qA1
 have LP3:LsP (upd H2 pl (.lst (rp0.map V.ref))) rp0 (Lk net sizes):=(keys_lsp KA (kvB_keys ok2)).same (qA3 fpl _)
 have lrp:rp0.length=ks0.length:=by have:=Paired.length KA;unfold kvB at this;rw [List.length_map] at this;exact this
 have fp:H pl=none:=s2.free fpl
 have ndp:dk ≠ pl:=qA6 gd fpl
 generalize upd H2 pl (.lst (rp0.map V.ref))=H3 at s3 gd3 gp3 LP3 ⊢
 clear s2 gd KA fpl
 refine hN2 _ _ (cut fun N3 hN3=>?_)
 refine ⟨fun m σ Hc=>∃ (ks:List La) (rp:List Addr) (v6 v7 v8:Option V),σ=[some (.ref a),some (.ref wd),some (.ref sz),some (.ref l),some (.ref dk),some (.ref pl),v6,v7,v8]∧m=2 * (216 - ks.length)+rp.length∧Same H Hc∧Hc dk=some (.dT (kvB ks))∧Hc pl=some (.lst (rp.map V.ref))∧LsP Hc rp (Lk net sizes)∧ks.Nodup∧(∀ s ∈ ks,Lk net sizes s)∧ks ≠ []∧2 * (216 - ks.length)+rp.length≤700,
  ⟨_,ks0,rp0,none,none,none,rfl,rfl,s3,gd3,gp3,LP3,nd2,ok2,ne2,by lia⟩,?_⟩
 clear s3 gd3 gp3 LP3 nd2 ok2 ne2 lc lrp
 refine fun m σ Hc hI_4=>opq fun G_4 hG_4=>?_
 obtain ⟨ks,rp,v6,v7,v8,rfl,rfl,sm,gd,gp,LP,nd,ok,nk,lp⟩:=hI_4
 refine hG_4 ?_
 have lc:=lk_count nd ok n5 k3
 refine ⟨_,rfl,(by show 0≤sizeLine;decide),fun e he=>?_⟩
 have se:=qA3 he (.lst [])
 refine ⟨pl,e,_,rfl,rfl,SqL.of (se _ _ gp),SqL.of qA1,_,rfl,?_⟩
 have sm:=sm.trans se
 have gd:=se _ _ gd
 have gp:=se _ _ gp
 have LP:=LP.same se
 generalize upd Hc e (.lst [])=Hd at sm gd gp LP ⊢
 clear se he
 refine ite2 (fun cn=>?_) (fun cn=>?_)
 ·have rne:rp ≠ []:=fun z=>by rw [z] at cn;cases cn
  obtain ⟨ri,r,rfl⟩:=not_nil_snoc rne
  obtain ⟨s0,lk0,gr⟩:=LP r (by simp)
  have LPi:=LP.sub (us:=ri) fun x hx=>by simp [hx]
  rw [List.length_append,List.length_singleton] at lp
  refine nameN fun W0 hW0=>?_
  refine cut fun M1 hM1=>?_
  refine ⟨_,rfl,.inl ⟨rfl,_,SqL.of gp⟩,pl,_,.ref r,rfl,rfl,gp,by simp,?_⟩
  have ed:((ri++[r]).map V.ref).dropLast=ri.map V.ref:=by rw [← List.map_dropLast,List.dropLast_concat]
  rw [ed]
  have s1:Same H (upd Hd pl (.lst (ri.map V.ref))):=qAG sm fp
  have gp1:(upd Hd pl (.lst (ri.map V.ref))) pl=some (.lst (ri.map V.ref)):=qA1
  have gd1:(upd Hd pl (.lst (ri.map V.ref))) dk=some (.dT (kvB ks)):=by rw [qA9 ndp];exact gd
  have gr1:=qC9 (u:=.lst (ri.map V.ref)) gr gp (fun xs z=>by cases z)
  have LP1:=LPi.lput (u:=.lst (ri.map V.ref)) gp
  generalize upd Hd pl (.lst (ri.map V.ref))=H4 at s1 gp1 gd1 gr1 LP1 ⊢
  clear gp gd gr LP LPi ed
  refine hM1 _ _ ?_
  refine ⟨_,rfl,_,rfl,a,sz,net,sizes,rfl,TK.net_.same s1,n6,s1 _ _ TK.sizes_,by lia,fun ml H5 s5 fm ⟨rsm,gm,MM⟩=>?_⟩
  have s15:=s1.trans s5
  have nm:ml ≠ pl∧ml ≠ dk:=⟨fun z=>(by rw [z,gp1] at fm;cases fm),fun z=>(by rw [z,gd1] at fm;cases fm)⟩
  refine ⟨ml,rfl,⟨_,SqL.of gm⟩,qCS (a:=ml) (xs:=rsm.map V.ref) (fun k σ Hf=>∃ (ks':List La) (rp':List Addr) (v7 v8:Option V),σ=[some (.ref a),some (.ref wd),some (.ref sz),some (.ref l),some (.ref dk),some (.ref pl),some (.ref r),v7,v8]∧2 * (216 - ks'.length)+rp'.length≤2 * (216 - ks.length)+ri.length∧Same H Hf∧Hf dk=some (.dT (kvB ks'))∧Hf pl=some (.lst (rp'.map V.ref))∧LsP Hf rp' (Lk net sizes)∧ks'.Nodup∧(∀ s ∈ ks',Lk net sizes s)∧ks' ≠ []∧Hf r=some (.tup (s0.map oV))∧Hf ml=some (.lst (rsm.map V.ref))∧MosL Hf rsm (allMo (net.length:Int) (sizes.length:Int)))
   ⟨ks,ri,_,_,rfl,Nat.le_refl _,s15,s5 _ _ gd1,s5 _ _ gp1,LP1.same s5,nd,ok,nk,s5 _ _ gr1,gm,MM⟩ (fun k σ Hf _ hP=>by obtain ⟨_,_,_,_,_,_,_,_,_,_,_,_,_,_,zm,_⟩:=hP;exact SqL.of zm) ?_ ?_⟩
  ·refine fun k x σ Hf hx hI_5=>opq fun G_5 hG_5=>?_
   obtain ⟨ks',rp',v7,v8,rfl,le,sf,gd,gp,LP,nd,ok,nk,gr,gm,MM⟩:=hI_5
   obtain ⟨mv,hmv,rfl⟩:=qBH hx
   obtain ⟨mo,hm2,gmv⟩:=qAU MM hmv
   refine hG_5 ?_
   have hin:=List.mem_of_getElem? hm2
   have nb:=qCH hin
   have lc2:=lk_count nd ok n5 k3
   obtain ⟨ns,ov,sv,wv,TI,ef⟩:=(TK.same sf).tinO gr lk0.1 gmv hin
   refine ⟨_,rfl,_,rfl,_,rfl,_,rfl,_,rfl,a,wd,sz,r,mv,net,wides,sizes,s0,mo,ns,ov,sv,wv,rfl,TI,(fun e=>nomatch e),fun H8 s8=>?_⟩
   rw [← ef]
   refine ⟨_,rfl,?_⟩
   refine ite2 (fun cf=>?_) (fun cf=>?_)
   ·have ls:=lk0.1
    refine ⟨_,rfl,_,rfl,r,mv,s0,mo,rfl,s8 _ _ gr,s8 _ _ gmv,nb.1,by lia,by lia,fun r2 H9 s9 gr2=>?_⟩
    have s89:=s8.trans s9
    have sf9:=sf.trans s89
    have gd9:=s89 _ _ gd
    have gp9:=s89 _ _ gp
    have gr9:=s89 _ _ gr
    have gm9:=s89 _ _ gm
    have MM9:=MosL.same MM s89
    have LP9:=LP.same s89
    have lkb:Lk net sizes (beO s0 mo):=lk0.be hin
    clear s8 s9 s89 gd gp gr gm MM LP sf TI
    refine ⟨_,rfl,_,rfl,dk,_,rfl,.inr ⟨kvB ks',keyO (beO s0 mo),r2,.inl gd9,rfl,by rw [qAZ];exact gr2,rfl⟩,_,rfl,?_⟩
    rw [kvB_has]
    by_cases cm:beO s0 mo ∈ ks'
    ·rw [decide_eq_true cm]
     exact ⟨ks',rp',_,_,rfl,le,sf9,gd9,gp9,LP9,nd,ok,nk,gr9,gm9,MM9⟩
    ·rw [decide_eq_false cm]
     have nd2:=qC3 nd cm
     have ok2:∀ s ∈ ks'++[beO s0 mo],Lk net sizes s:=fun s hs=>(List.mem_append.mp hs).elim (ok s) fun z=>by rw [List.mem_singleton.mp z];exact lkb
     have lc3:=lk_count nd2 ok2 n5 k3
     rw [List.length_append,List.length_singleton] at lc3
     refine ⟨_,rfl,_,rfl,dk,_,rfl,DPut.t (k:=keyO (beO s0 mo)) gd9 (by rw [qAZ];exact gr2) (qAC (by unfold kvB;rw [List.length_map];lia)),?_⟩
     rw [kvB_put,show addO ks' (beO s0 mo)=ks'++[beO s0 mo] from if_neg cm]
     have nt:∀ xs,HO.dT (kvB ks') ≠ .tup xs:=fun xs z=>nomatch z
     have gpA:(upd H9 dk (.dT (kvB (ks'++[beO s0 mo])))) pl=some (.lst (rp'.map V.ref)):=by rw [qA9 ndp.symm];exact gp9
     refine ⟨_,rfl,.inl ⟨rfl,_,SqL.of gpA⟩,_,rfl,pl,_,_,rfl,rfl,gpA,qAC (by rw [List.length_map];lia),?_⟩
     have tp:∀ {x:Addr} {xs:List V},H9 x=some (.tup xs)→(upd (upd H9 dk (.dT (kvB (ks'++[beO s0 mo])))) pl (.lst (rp'.map V.ref++[.ref r2]))) x=some (.tup xs):=fun e=>qC9 (qC9 e gd9 nt) gpA fun xs z=>nomatch z
     refine ⟨ks'++[beO s0 mo],rp'++[r2],_,_,rfl,?_,qAG (qAG sf9 fdk) fp,?_,?_,?_,nd2,ok2,by simp,tp gr9,?_,?_⟩
     ·rw [List.length_append,List.length_singleton,List.length_append,List.length_singleton]
      lia
     ·rw [qA9 ndp,qA1]
     ·rw [qA1,qAP]
     ·refine LsP.app (LP9.mono fun r xs e=>tp e) (LsP.one lkb (tp gr2))
     ·rw [qA9 nm.1,qA9 nm.2]
      exact gm9
     ·exact qBA MM9 fun r m e=>tp e
   ·exact ⟨ks',rp',_,_,rfl,le,sf.trans s8,s8 _ _ gd,s8 _ _ gp,LP.same s8,nd,ok,nk,s8 _ _ gr,s8 _ _ gm,MosL.same MM s8⟩
  ·refine fun σ Hf hI_6=>opq fun G_6 hG_6=>?_
   obtain ⟨ks',rp',v7,v8,rfl,le,sf,gd,gp,LP,nd,ok,nk,gr,gm,MM⟩:=hI_6
   refine hG_6 ?_
   refine hW0 _ _ ⟨_,?_,ks',rp',_,_,_,rfl,rfl,sf,gd,gp,LP,nd,ok,nk,by lia⟩
   rw [List.length_append,List.length_singleton]
   lia
 ·refine hN3 _ _ ?_
  refine ⟨_,rfl,dk,_,rfl,gd,by unfold kvB;rw [List.length_map];lia,fun l' rs' fl' KA'=>?_⟩
  have LK:=keys_lsp KA' (kvB_keys ok)
  have lr:rs'.length=ks.length:=by have:=Paired.length KA';unfold kvB at this;rw [List.length_map] at this;exact this
  refine q l' rs' _ (sm.trans (qA3 fl' _)) (sm.free fl') qA1 (LK.same (qA3 fl' _)) (fun z=>?_) (by lia)
  rw [z] at lr
  exact nk (List.length_eq_zero_iff.mp lr.symm)
theorem sc_Lall_fitting:FnScope ["_law_wides","_law_sizes","_law_found","_law_size","_law_longer","_law_layout","_law_works"] ["_law_wides","_law_sizes"] (defScope qBL):=sc_mk
theorem ok_Lall_fitting (F:Fun K "_law_all_fitting" "_law_all_fitting" qBL f fd) (z_len:mg "len" = none) (z_range:mg "range" = none):FnOk P w K mg base CX0 1 f fd ["_law_wides","_law_sizes"] spAllFitO:=by
 refine F.okA sc_Lall_fitting fun cdv A outer s H vs Q E hr h=>?_
 obtain ⟨wd,sz,wides,sizes,rfl,gw,gz,w5,k3,q⟩:=h
 refine ⟨_,(qA4 (qAB (i:=2) sc_Lall_fitting.nd rfl (Or.inl rfl) (qAK (qA0 (qAJ qA2) qA2))) (qA4 (qB5 PassesOwn.never rfl (pi_tup (pv 1)) (qAN (i:=3) sc_Lall_fitting.nd rfl (Or.inr rfl)) (qA4 (qAB (i:=4) sc_Lall_fitting.nd rfl (Or.inl rfl) (qAK qA2)) (qA4 (qB5 PassesOwn.never rfl (qB1 (pv 2)) (qAN (i:=5) sc_Lall_fitting.nd rfl (Or.inr rfl)) (qA4 (qBJ (pe_bm PySem.F.plainAttrs_list PySem.F.slot_list_append PySem.F.type_list_append qB6 (pv 4) (qA0 (pe_op qBR (pv 5) (qAJ (qA0 qBU qA2))) qA2))) (qA4 (ps_lc (i:=6) sc_Lall_fitting.nd rfl rfl rfl (lcs (own:=["_law_work"]) (fv:=[5,0,3]) (by kernel_rfl)) (qAO rfl z_range (qA0 (qAA qA8 rfl z_len qAQ (qA0 (pv 0) qA2)) qA2)) (fun z2=>pg_in 0) (fun z2=>(qDB (PW.pt (pw_and (qAF (op_notInK (K:=K) rfl) (pv 0) (pv 1) (by with_unfolding_all rfl)) (pw_and1 (qAF op_le (pe_ix (ix_tupK (K:=K) rfl) (pv 2) (pv 0) (fun _ _=>rfl)) (pv 3) (nomark _))))))) (fun z2=>(pv 0)) (by kernel_rfl)) (qA5 (qBJ (pe_bm PySem.F.plainAttrs_list PySem.F.slot_list_extend PySem.F.type_list_extend mt_extend (pv 4) (qA0 (pe_lc rfl (lcs (own:=["_law_work"]) (fv:=[5]) (by kernel_rfl)) (qB1 (pv 6)) (fun z3=>pg_in 0) (fun z3=>qAY) (fun z3=>(pe_op (op_catUK (K:=K) rfl) (pv 1) (qAJ (qA0 (pv 0) qA2))))) qA2))))))) (qA5 (qAB (i:=2) sc_Lall_fitting.nd rfl (Or.inl rfl) (pv 4)))))) (qA5 (qAE (pv 2))))),?_⟩
 try dsimp only [Cx.nox,Cx.wish,cxOf]
 refine cut fun N0 hN0=>?_
 refine ⟨(by show 0≤sizeLine;decide),fun t0 ht0=>⟨(by show 1≤sizeLine;decide),fun fl hfl=>?_⟩⟩
 have s1:=(qA3 ht0 (.tup [])).trans (qA3 hfl (.lst [.ref t0]))
 have g1:(upd (upd H t0 (.tup [])) fl (.lst [.ref t0])) fl=some (.lst ([t0].map V.ref)):=qA1
 have gt0:(upd (upd H t0 (.tup [])) fl (.lst [.ref t0])) t0=some (.tup (([]:La).map oV)):=qA3 hfl (.lst [.ref t0]) _ _ qA1
 have ffl:H fl=none:=(qA3 ht0 (.tup [])).free hfl
 generalize upd (upd H t0 (.tup [])) fl (.lst [.ref t0])=H1 at s1 g1 gt0 ⊢
 refine hN0 _ _ (cut fun N1 hN1=>?_)
 refine ⟨_,rfl,sz,rfl,⟨_,SqT.of (s1 _ _ gz)⟩,for_tup (a:=sz) (xs:=sizes.map V.int) (fun i σ Hc=>∃ (fl:Addr) (rs:List Addr) (v3 v4 v5 v6:Option V),σ=[some (.ref wd),some (.ref sz),some (.ref fl),v3,v4,v5,v6]∧Same H Hc∧H fl=none∧Hc fl=some (.lst (rs.map V.ref))∧LsP Hc rs (fun s=>s.length=i∧LayOk (wides.length:Int) s)∧rs ≠ []∧rs.length≤6 ^ i)
  ⟨fl,[t0],none,none,none,none,rfl,s1,ffl,g1,LsP.one (s:=[]) ⟨rfl,fun x hx=>(nomatch hx)⟩ gt0,by simp,Nat.le_refl _⟩ (fun i σ Hc _ hP=>by obtain ⟨_,_,_,_,_,_,_,sm,_⟩:=hP;exact SqT.of (sm _ _ gz)) ?_ ?_⟩
 ·clear s1 g1 gt0 ffl hfl ht0
  refine fun i x σ Hc hx hI_7=>opq fun G_7 hG_7=>?_
  obtain ⟨fl,rs,v3,v4,v5,v6,rfl,sm,ffl,gf,LP,ne,len⟩:=hI_7
  obtain ⟨sv,es,rfl⟩:=qD2 hx
  refine hG_7 ?_
  have hi:=(List.getElem?_eq_some_iff.mp es).1
  have l36:rs.length≤36:=Nat.le_trans len (Nat.pow_le_pow_right (show 0<6 by decide) (show i≤2 by lia))
  refine cut fun N2 hN2=>?_
  refine ⟨(by show 0≤sizeLine;decide),fun lg hlg=>?_⟩
  have s2:=sm.trans (qA3 hlg (.lst []))
  have g2:(upd Hc lg (.lst [])) lg=some (.lst (([]:List Addr).map V.ref)):=qA1
  have gf2:=qA3 hlg (.lst []) _ _ gf
  have LP2:=LP.same (qA3 hlg (.lst []))
  have flg:H lg=none:=sm.free hlg
  have nfl:fl ≠ lg:=qA6 gf hlg
  generalize upd Hc lg (.lst [])=H2 at s2 g2 gf2 LP2 ⊢
  refine hN2 _ _ (cut fun N3 hN3=>?_)
  refine ⟨_,rfl,fl,rfl,⟨_,SqL.of gf2⟩,qCS (a:=fl) (xs:=rs.map V.ref) (fun k σ Hd=>∃ (us:List Addr) (v5 v6:Option V),σ=[some (.ref wd),some (.ref sz),some (.ref fl),some (.int sv),some (.ref lg),v5,v6]∧Same H Hd∧Hd fl=some (.lst (rs.map V.ref))∧LsP Hd rs (fun s=>s.length=i∧LayOk (wides.length:Int) s)∧Hd lg=some (.lst (us.map V.ref))∧LsP Hd us (fun s=>s.length=i+1∧LayOk (wides.length:Int) s)∧(0<k→us ≠ [])∧us.length≤6 * k)
   ⟨[],v5,v6,rfl,s2,gf2,LP2,g2,.nil,fun z=>absurd z (Nat.lt_irrefl _),Nat.le_refl _⟩ (fun k σ Hd _ hP=>by obtain ⟨_,_,_,_,_,zf,_⟩:=hP;exact SqL.of zf) ?_ ?_⟩
  ·clear s2 g2 gf2 LP2 sm gf LP
   refine fun k x σ Hd hx hI_8=>opq fun G_8 hG_8=>?_
   obtain ⟨us,v5,v6,rfl,sm,gf,LP,gl,LU,nu,lu⟩:=hI_8
   obtain ⟨r,er,rfl⟩:=qBH hx
   refine hG_8 ?_
   have hk:=(List.getElem?_eq_some_iff.mp er).1
   obtain ⟨s0,⟨ls0,ok0⟩,gr⟩:=LP r (List.mem_of_getElem? er)
   refine cut fun M1 hM1=>?_
   refine ⟨_,rfl,.inl ⟨rfl,_,SqL.of gl⟩,_,rfl,(by show 1≤sizeLine;decide),fun tn htn=>?_⟩
   have s3:=qA3 htn (.tup [.non])
   refine ⟨r,tn,_,[.non],rfl,rfl,SqT.of (s3 _ _ gr),SqT.of qA1,.inr ⟨by simp,qA1⟩,Nat.le_of_lt (qAC (by rw [List.length_map,List.length_singleton];lia)),fun r2 H4 s4 g4=>?_⟩
   have s34:=s3.trans s4
   have e1:s0.map oV++[V.non]=(s0++[none]).map oV:=by rw [List.map_append];rfl
   rw [e1] at g4
   refine ⟨lg,_,_,rfl,rfl,s34 _ _ gl,qAC (by rw [List.length_map];lia),?_⟩
   have gl4:=s34 _ _ gl
   have s5:Same H (upd H4 lg (.lst (us.map V.ref++[.ref r2]))):=qAG (sm.trans s34) flg
   have gl5:(upd H4 lg (.lst (us.map V.ref++[.ref r2]))) lg=some (.lst ((us++[r2]).map V.ref)):=by rw [qA1,qAP]
   have gf5:(upd H4 lg (.lst (us.map V.ref++[.ref r2]))) fl=some (.lst (rs.map V.ref)):=by rw [qA9 nfl];exact s34 _ _ gf
   have LP5:LsP (upd H4 lg (.lst (us.map V.ref++[.ref r2]))) rs (fun s=>s.length=i∧LayOk (wides.length:Int) s):=(LP.same s34).lput gl4
   have LU5:LsP (upd H4 lg (.lst (us.map V.ref++[.ref r2]))) (us++[r2]) (fun s=>s.length=i+1∧LayOk (wides.length:Int) s):=LsP.app ((LU.same s34).lput gl4) (LsP.one ⟨by rw [List.length_append,ls0];rfl,fun x hx=>(List.mem_append.mp hx).elim (ok0 x) fun z=>by cases List.mem_singleton.mp z⟩ (qC9 g4 gl4 fun xs z=>nomatch z))
   have gr5:(upd H4 lg (.lst (us.map V.ref++[.ref r2]))) r=some (.tup (s0.map oV)):=qC9 (s34 _ _ gr) gl4 fun xs z=>nomatch z
   generalize upd H4 lg (.lst (us.map V.ref++[.ref r2]))=H5 at s5 gl5 gf5 LP5 LU5 gr5 ⊢
   clear s3 s4 s34 g4 htn gl gf LP LU gr gl4 sm e1
   refine hM1 _ _ (cut fun M2 hM2=>?_)
   have lwd:(((wides.map V.int).length:Nat):Int)=(wides.length:Int):=by rw [List.length_map]
   refine ⟨_,rfl,wd,_,rfl,.inr (SqT.of (s5 _ _ gw)),_,rfl,by rw [lwd];lia,by rw [lwd];lia,fun p hp=>?_⟩
   have gp0:H p=none:=s5.free hp
   refine qBM (p:=p) (lo:=0) (n:=((((wides.map V.int).length:Nat):Int)).toNat) (fun j σ Hz=>∃ (v:Option V) (fs:List Int),σ=[v,some (.ref r),some (.ref wd),some (.int sv)]∧Same H5 Hz∧Hz p=some (.lst (fs.map V.int))∧fs.length≤j∧∀ x ∈ fs,0≤x∧x<(wides.length:Int)) ?_ ?_ ?_
   ·exact ⟨none,[],rfl,qA3 hp _,qA1,Nat.le_refl _,fun x hx=>(nomatch hx)⟩
   ·refine fun j σ Hz hj hI_9=>opq fun G_9 hG_9=>?_
    obtain ⟨v,fs,rfl,sz5,gp,lf,inf⟩:=hI_9
    refine hG_9 ?_
    rw [lwd] at hj
    have gwz:=sz5 _ _ (s5 _ _ gw)
    have hw:=List.getElem?_eq_getElem (show j<wides.length by lia)
    generalize wides[j]=wv at hw
    refine ⟨_,rfl,_,rfl,r,_,rfl,.inr (SqT.of (sz5 _ _ gr5)),rfl,qC1 s0,_,rfl,?_⟩
    refine ite2 (fun _=>?_) (fun _=>?_)
    ·refine ⟨_,rfl,_,rfl,wd,_,_,_,rfl,rfl,SqT.of gwz,qBV (show (0:Int)≤0+(j:Int) by lia) (by rw [show (0+(j:Int)).toNat=j by lia,List.getElem?_map,hw];rfl),_,rfl,_,_,rfl,rfl,_,rfl,?_⟩
     refine ite2 (fun _=>?_) (fun _=>?_)
     ·refine ⟨_,rfl,_,gp,qAC (by rw [List.length_map];lia),_,fs++[0+(j:Int)],rfl,qAG sz5 hp,by rw [qA1,List.map_append];rfl,by rw [List.length_append,List.length_singleton];lia,fun x hx=>?_⟩
      rcases List.mem_append.mp hx with z | z
      ·exact inf x z
      ·rw [List.mem_singleton.mp z];lia
     ·exact ⟨_,fs,rfl,sz5,gp,by lia,inf⟩
    ·exact ⟨_,fs,rfl,sz5,gp,by lia,inf⟩
   ·refine fun σ Hz hI_10=>opq fun G_10 hG_10=>?_
    obtain ⟨v,fs,rfl,sz5,gp,lf,inf⟩:=hI_10
    refine hG_10 ?_
    refine hM2 _ _ ?_
    have lf:fs.length≤5:=by rw [lwd] at lf;lia
    have sA:=s5.trans sz5
    have glA:=sz5 _ _ gl5
    have gfA:=sz5 _ _ gf5
    have grA:=sz5 _ _ gr5
    have LPA:=LP5.same sz5
    have LUA:=LU5.same sz5
    have npl:p ≠ lg:=(qA6 gl5 hp).symm
    clear s5 sz5 gl5 gf5 gr5 LP5 LU5 hp
    refine ⟨_,rfl,.inl ⟨rfl,_,SqL.of glA⟩,_,rfl,p,rfl,⟨_,SqL.of gp⟩,fun p2 hp2=>?_⟩
    refine qCB (p:=p2) (a:=p) (xs:=fs.map V.int) (fun j σ Hy=>∃ (v:Option V) (ws:List Addr),σ=[v,some (.ref r)]∧Same Hz Hy∧Hy p2=some (.lst (ws.map V.ref))∧LsP Hy ws (fun s=>s.length=i+1∧LayOk (wides.length:Int) s)∧ws.length≤j) ?_ ?_ ?_ ?_
    ·exact ⟨none,[],rfl,qA3 hp2 _,qA1,.nil,Nat.le_refl _⟩
    ·rintro j σ Hy hj ⟨v,ws,rfl,sy,_⟩
     exact SqL.of (sy _ _ gp)
    ·refine fun j x σ Hy hx hI_12=>opq fun G_12 hG_12=>?_
     obtain ⟨v,ws,rfl,sy,gy,LW,lw⟩:=hI_12
     obtain ⟨z,ez,rfl⟩:=qD2 hx
     refine hG_12 ?_
     have hj:=(List.getElem?_eq_some_iff.mp ez).1
     refine ⟨_,rfl,_,rfl,(by show 1≤sizeLine;decide),fun tn htn=>?_⟩
     have s6:=qA3 htn (.tup [.int z])
     refine ⟨r,tn,_,[.int z],rfl,rfl,SqT.of (s6 _ _ (sy _ _ grA)),SqT.of qA1,.inr ⟨by simp,qA1⟩,Nat.le_of_lt (qAC (by rw [List.length_map,List.length_singleton];lia)),fun r3 H7 s7 g7=>?_⟩
     have e1:s0.map oV++[V.int z]=(s0++[some z]).map oV:=by rw [List.map_append];rfl
     rw [e1] at g7
     have s67:=s6.trans s7
     have gy7:=s67 _ _ gy
     refine ⟨_,gy7,qAC (by rw [List.length_map];lia),_,ws++[r3],rfl,qAG (sy.trans s67) hp2,by rw [qA1,qAP],?_,by rw [List.length_append,List.length_singleton];lia⟩
     refine LsP.app ((LW.same s67).lput gy7) (LsP.one ⟨by rw [List.length_append,ls0];rfl,fun x hx=>(List.mem_append.mp hx).elim (ok0 x) fun w=>?_⟩ (qC9 g7 gy7 fun xs z=>nomatch z))
     rw [Option.some.inj (List.mem_singleton.mp w)]
     exact inf z (List.mem_of_getElem? ez)
    ·refine fun σ Hy hI_13=>opq fun G_13 hG_13=>?_
     obtain ⟨v,ws,rfl,sy,gy,LW,lw⟩:=hI_13
     refine hG_13 ?_
     rw [List.length_map] at lw
     have glY:=sy _ _ glA
     refine ⟨lg,p2,_,_,rfl,rfl,glY,gy,Nat.le_of_lt (qAC (by rw [List.length_map,List.length_map,List.length_append,List.length_singleton];lia)),?_⟩
     refine ⟨us++[r2]++ws,_,_,rfl,qAG (sA.trans sy) flg,by rw [qA9 nfl];exact sy _ _ gfA,(LPA.same sy).lput glY,by rw [qA1];exact congrArg (fun l=>some (HO.lst l)) (List.map_append ..).symm,LsP.app ((LUA.same sy).lput glY) (LW.lput glY),fun _=>by simp,by simp only [List.length_append,List.length_singleton];lia⟩
  ·refine fun σ Hd hI_14=>opq fun G_14 hG_14=>?_
   obtain ⟨us,v5,v6,rfl,sm,gf,LP,gl,LU,nu,lu⟩:=hI_14
   refine hG_14 ?_
   rw [List.length_map] at nu lu
   have:6 * rs.length≤6 * 6 ^ i:=Nat.mul_le_mul_left _ len
   exact hN3 _ _ ⟨_,rfl,lg,us,_,_,_,_,rfl,sm,flg,gl,LU,nu (List.length_pos_iff.mpr ne),by rw [Nat.pow_succ];lia⟩
 ·refine fun σ Hc hI_15=>opq fun G_15 hG_15=>?_
  obtain ⟨fl,rs,v3,v4,v5,v6,rfl,sm,ffl,gf,LP,ne,len⟩:=hI_15
  refine hG_15 ?_
  rw [List.length_map] at LP len
  refine hN1 _ _ ?_
  exact ⟨_,rfl,q fl rs Hc sm ffl gf LP ne (Nat.le_trans len (Nat.pow_le_pow_right (show 0<6 by decide) k3))⟩
theorem sc_Lothers:FnScope ["_law_state","_law_net_here","_law_wides","_law_sizes","_law_come","_law_some","_law_way","_law_at","_law_work","_law_rest","_law_more"] ["_law_state","_law_net_here","_law_wides","_law_sizes","_law_come"] (defScope s_Lothers):=sc_mk
theorem ok_Lothers (F:Fun K "_law_others" "_law_others" s_Lothers f fd) (C_Ltake:Clb P w K mg base 1 f_Ltake fd_Ltake "_law_take" ["_law_state","_law_many"] spTake) (C_Lmixed:Clb P w K mg base 2 f_Lmixed fd_Lmixed "_law_mixed" ["_law_state","_law_some"] spMixedO) (C_Lall_fitting:Clb P w K mg base 1 f_Lall_fitting fd_Lall_fitting "_law_all_fitting" ["_law_wides","_law_sizes"] spAllFitO) (C_Lone_more:Clb P w K mg base 2 f_Lone_more fd_Lone_more "_law_one_more" ["_law_state","_law_net_here","_law_sizes"] spOneMoreO) (C_Lfits:Clb P w K mg base 1 f_Lfits fd_Lfits "_law_fits" ["_law_wides","_law_sizes","_law_layout"] spFitsO) (C_Lclosed:Clb P w K mg base 2 f_Lclosed fd_Lclosed "_law_closed" ["_law_net_here","_law_wides","_law_sizes","_law_some"] spClosedO) (z_len:mg "len" = none) (z_list:mg "list" = none):FnOk P w K mg base CX0 3 f fd ["_law_state","_law_net_here","_law_wides","_law_sizes","_law_come"] spOthersO:=by
 refine F.okA sc_Lothers fun cdv A outer s H vs Q E hr h=>?_
 obtain ⟨d,c,a,wd,sz,dk,t,ns,net,wides,sizes,kvs,rfl,S,ht,TK,n5,k2,k3,gd,kne,kok,klen,q⟩:=h
 have ht':t≤1000000000 - 10000:=ht
 have hu0:=hr.units0
 refine ⟨_,(qA4 (qAB (i:=5) sc_Lothers.nd rfl (Or.inr rfl) (pe_cl C_Lmixed hr rfl (qA0 (pv 0) (qA0 (qAD (qCI rfl) rfl z_list qBS (qA0 (pv 4) qA2)) qA2)))) (qA4 (qAB (i:=6) sc_Lothers.nd rfl (Or.inl rfl) (pe_cl C_Ltake hr rfl (qA0 (pv 0) (qA0 qA7 qA2)))) (qA4 (qAB (i:=7) sc_Lothers.nd rfl (Or.inr rfl) (pe_cl C_Ltake hr rfl (qA0 (pv 0) (qA0 (qAA qA8 rfl z_len qAQ (qA0 (pv 5) qA2)) qA2)))) (qA4 (ps_if (qAF op_eq (pv 6) qA7 (nomark _)) (qA5 (qAE (pe_cl C_Lmixed hr rfl (qA0 (pv 0) (qA0 (pe_cl C_Lall_fitting hr rfl (qA0 (pv 2) (qA0 (pv 3) qA2))) qA2))))) qAH) (qA4 (ps_if (qAF op_eq (pv 6) qA7 (nomark _)) (qA4 (qAB (i:=8) sc_Lothers.nd rfl (Or.inl rfl) (pe_cl C_Ltake hr rfl (qA0 (pv 0) (qA0 (qAA qA8 rfl z_len qAQ (qA0 (pv 1) qA2)) qA2)))) (qA4 (qAB (i:=9) sc_Lothers.nd rfl (Or.inl rfl) (pe_op op_repTO (qAJ (qA0 qBU qA2)) (pe_op qCX (qAA qA8 rfl z_len qAQ (qA0 (pv 3) qA2)) qA7))) (qA5 (qAE (pe_op qCG (pv 5) (qAK (qA0 (pe_op qBR (qAJ (qA0 (pv 8) (qA0 (pv 8) qA2))) (pv 9)) (qA0 (pe_op qBR (qAJ (qA0 qBU (qA0 (pv 8) qA2))) (pv 9)) (qA0 (pe_op qBR (qAJ (qA0 (pv 8) (qA0 qBU qA2))) (pv 9)) qA2))))))))) qAH) (qA4 (ps_if (qAF op_gt (pv 6) qA7 (nomark _)) (qA4 (qAB (i:=10) sc_Lothers.nd rfl (Or.inl rfl) (pe_cl C_Lone_more hr rfl (qA0 (pv 0) (qA0 (pv 1) (qA0 (pv 3) qA2))))) (qA5 (ps_if (qBT (pe_cl C_Lfits hr rfl (qA0 (pv 2) (qA0 (pv 3) (qA0 (pv 10) qA2))))) (qA5 (qAE (pe_cl C_Lmixed hr rfl (qA0 (pv 0) (qA0 (pe_cl C_Lclosed hr rfl (qA0 (pv 1) (qA0 (pv 2) (qA0 (pv 3) (qA0 (pe_op qCG (pv 5) (qAK (qA0 (pv 10) qA2))) qA2))))) qA2))))) qAH))) qAH) (qA4 (ps_if (qAF op_eq (pv 6) qA7 (nomark _)) (qA5 (qAE (pe_lc rfl (lcs (own:=["_law_layout"]) (fv:=[5,7]) (by kernel_rfl)) (qB1 (pv 5)) (fun z1=>pg_in 0) (fun z1=>(qDB (qAF (op_ne_flatT hu0) (pv 0) (pe_ix (ix_listK (K:=K) rfl) (pv 1) (pv 2) (fun _ _=>rfl)) (nomark _)))) (fun z1=>(pv 0))))) qAH) (qA4 (ps_if (qAF op_eq (pv 6) qA7 (nomark _)) (qA5 (qAE (pe_op qCG (pv 5) (qAK (qA0 (pe_cl C_Lone_more hr rfl (qA0 (pv 0) (qA0 (pv 1) (qA0 (pv 3) qA2)))) qA2))))) qAH) (qA4 (ps_if (qAF op_eq (pv 6) qA7 (nomark _)) (qA5 (qAE (pe_op qCG (pe_op qCG (qB3 sl_list (pv 5) qBE (qB9 (pv 7))) (qAK (qA0 (pe_sliceRT (pe_ix qCC (pv 5) (pv 7) (fun _ _=>rfl)) (qB9 (pe_un un_neg qA7))) qA2))) (qB3 sl_list (pv 5) (qB9 (pe_op qBQ (pv 7) qA7)) qBE)))) qAH) (qA4 (ps_if (qAF op_eq (pv 6) qA7 (nomark _)) (qA5 (qAE (pe_lc rfl (lcs (own:=["_law_layout"]) (fv:=[]) (by kernel_rfl)) (qB1 (pv 5)) (fun z2=>pg_in 0) (fun z2=>(qDB (qAF (op_inK (K:=K) rfl) qBU (pv 0) (by with_unfolding_all rfl)))) (fun z2=>(pv 0))))) qAH) (qA5 (qAE (pv 5))))))))))))),?_⟩
 try dsimp only [Cx.nox,Cx.wish,cxOf]
 refine cut fun N0 hN0=>?_
 refine ⟨_,rfl,_,rfl,dk,_,rfl,gd,by lia,fun l0' rs0 fl0 KA=>?_⟩
 have s1:=qA3 fl0 (.lst (rs0.map V.ref))
 have g1:(upd H l0' (.lst (rs0.map V.ref))) l0'=some (.lst (rs0.map V.ref)):=qA1
 have LK:=(keys_lsp KA kok).same s1
 have lr0:rs0.length=kvs.length:=Paired.length KA
 have ne0:rs0 ≠ []:=fun z=>kne (List.length_eq_zero_iff.mp (by rw [← lr0,z];rfl))
 generalize upd H l0' (.lst (rs0.map V.ref))=H1 at s1 g1 LK ⊢
 refine ⟨d,c,l0',t,ns,rs0,Lk net sizes,rfl,S.same s1,(by show t≤1000000000 - 5000;lia),g1,LK,ne0,by lia,fun l rs t2 ns2 H2 S2 u1 u2 K2 fl gl LP ne lrs=>?_⟩
 have K2:=(Keep.of_same s1).trans K2
 have fl:=s1.free fl
 have lb:rs.length≤218:=by lia
 have TK2:=TK.keep S K2
 clear fl0 KA s1 g1 LK lr0 ne0 lrs
 refine hN0 _ _ (cut fun N1 hN1=>?_)
 refine ⟨_,rfl,d,c,t2,ns2,9,rfl,S2,(by show t2≤1000000000;lia),by decide,by decide,fun way ns3 H3 w0 w1 S3 K3=>?_⟩
 have nl:l ≠ d∧l ≠ c:=⟨fun z=>(by rw [z,S.dict] at fl;cases fl),fun z=>(by rw [z,S.list] at fl;cases fl)⟩
 have gl3:=K3 _ _ gl nl.1 nl.2
 have LP3:=LP.keep S2 K3
 have TK3:=TK2.keep S2 K3
 have K3:=K2.trans K3
 refine hN1 _ _ (cut fun N2 hN2=>?_)
 have lv:(((rs.map V.ref).length:Nat):Int)=(rs.length:Int):=by rw [List.length_map]
 have fpos:0<rs.length:=List.length_pos_iff.mpr ne
 refine ⟨_,rfl,_,rfl,l,_,rfl,.inl (SqL.of gl3),d,c,t2+1,ns3,_,rfl,S3,(by show t2+1≤1000000000;lia),by rw [lv];lia,by rw [lv];lia,fun at_ ns4 H4 a0 a1 S4 K4=>?_⟩
 rw [lv] at a1
 have gl4:=K4 _ _ gl3 nl.1 nl.2
 have LP4:=LP3.keep S3 K4
 have TK4:=TK3.keep S3 K4
 have K4:=K3.trans K4
 clear gl gl3 LP LP3 TK2 TK3 K2 K3 S2 S3 hN0 hN1
 have gw4:=TK4.wides_
 have gz4:=TK4.sizes_
 have lwd:=TK4.lw
 have lsz:(((sizes.map V.int).length:Nat):Int)=(sizes.length:Int):=by rw [List.length_map]
 have done:∀ {l':Addr} {rs':List Addr} {t':Int} {ns':List Int} {H':Hp},StAt H' d c t' ns'→t2≤t'→t'≤t2+1100→Keep d c H H'→H l'=none→H' l'=some (.lst (rs'.map V.ref))→LsP H' rs' (Lk net sizes)→rs'.length≤1000→Q (.ref l') H':=fun S' h1 h2 K' f' g' L' n'=>q _ _ _ _ _ S' (by lia) (by lia) K' f' g' L' n'
 clear q
 refine hN2 _ _ (cut fun N3 hN3=>?_)
 refine ⟨_,rfl,rfl,_,rfl,?_⟩
 refine ite2 (fun _=>?_) (fun _=>hN3 _ _ (cut fun N4 hN4=>?_))
 ·refine ⟨_,rfl,_,rfl,_,rfl,wd,sz,wides,sizes,rfl,gw4,gz4,by lia,k3,fun l1 rs1 H5 s5 fl1 gl1 LP1 ne1 len1=>?_⟩
  have LP1:LsP H5 rs1 (Lk net sizes):=by rw [lwd] at LP1;exact LP1
  refine ⟨d,c,l1,_,_,rs1,_,rfl,S4.same s5,(by show t2+1+1≤1000000000 - 5000;lia),gl1,LP1,ne1,by lia,fun l' rs' t' ns' H' S' v1 v2 K' fl' gl' LP' ne' len'=>?_⟩
  have K5:=K4.trans (.of_same s5)
  exact done S' (by lia) (by lia) (K5.trans K') (K5.none (S4.same s5) fl') gl' LP' (by lia)
 refine ⟨_,rfl,rfl,_,rfl,?_⟩
 refine ite2 (fun _=>?_) (fun _=>hN4 _ _ (cut fun N5 hN5=>?_))
 ·obtain ⟨ra,hA,NL⟩:=id TK4.net_
  have n1:=TK4.n1
  have lrv:(((ra.map V.ref).length:Nat):Int)=(net.length:Int):=by rw [List.length_map,Paired.length NL]
  refine cut fun M1 hM1=>?_
  refine ⟨_,rfl,_,rfl,a,_,rfl,.inr (SqT.of hA),d,c,_,_,_,rfl,S4,(by show t2+1+1≤1000000000;lia),by rw [lrv];lia,by rw [lrv];lia,fun wk ns5 H5 b0 b1 S5 K5=>?_⟩
  rw [lrv] at b1
  have gl5:=K5 _ _ gl4 nl.1 nl.2
  have LP5:=LP4.keep S4 K5
  have gz5:=(TK4.keep S4 K5).sizes_
  have K5:=K4.trans K5
  refine hM1 _ _ (cut fun M2 hM2=>?_)
  refine ⟨(by show 1≤sizeLine;decide),fun t1 ht1=>?_⟩
  have s1:=qA3 ht1 (.tup [.non])
  refine ⟨_,rfl,sz,_,rfl,.inr (SqT.of (s1 _ _ gz5)),_,_,rfl,rfl,t1,_,[.non],rfl,rfl,qA1,by simp,by rw [lsz];lia,by rw [lsz];lia,by decide,fun r9 H6 s6 g9=>?_⟩
  rw [rep_nonO,lsz,show ((sizes.length:Int) - 2).toNat=sizes.length - 2 by lia] at g9
  have s16:=s1.trans s6
  have gl6:=s16 _ _ gl5
  have LP6:=LP5.same s16
  have S6:=S5.same s16
  have K6:=K5.trans (.of_same s16)
  clear s1 s6 s16 ht1 gl5 LP5 S5 K5
  have wk2:∀ x,some wk=some x→0≤x∧x<(net.length:Int):=fun x e=>by rw [← Option.some.inj e];exact ⟨b0,b1⟩
  have no2:∀ x,(none:Option Int)=some x→0≤x∧x<(net.length:Int):=fun x e=>nomatch e
  have rl:((List.replicate (sizes.length - 2) (none:Option Int)).map oV).length≤3:=by rw [List.length_map,List.length_replicate];lia
  refine hM2 _ _ ?_
  refine ⟨_,rfl,?_⟩
  refine ⟨_,rfl,_,rfl,(by show 2≤sizeLine;decide),fun u1 hu1=>?_⟩
  have s7:=qA3 hu1 (.tup [.int wk,.int wk])
  refine ⟨_,rfl,u1,r9,_,_,rfl,rfl,SqT.of qA1,SqT.of (s7 _ _ g9),.inl ⟨by simp,qA1⟩,Nat.le_of_lt (qAC (by rw [List.length_cons,List.length_cons,List.length_nil];lia)),fun c1 H7 s7' gc1=>?_⟩
  have s8:=s7.trans s7'
  have g98:=s8 _ _ g9
  refine ⟨_,rfl,(by show 2≤sizeLine;decide),fun u2 hu2=>?_⟩
  have s9:=qA3 hu2 (.tup [.non,.int wk])
  refine ⟨_,rfl,u2,r9,_,_,rfl,rfl,SqT.of qA1,SqT.of (s9 _ _ g98),.inl ⟨by simp,qA1⟩,Nat.le_of_lt (qAC (by rw [List.length_cons,List.length_cons,List.length_nil];lia)),fun c2 H8 s9' gc2=>?_⟩
  have s10:=s9.trans s9'
  have gA:=s10 _ _ g98
  refine ⟨_,rfl,(by show 2≤sizeLine;decide),fun u3 hu3=>?_⟩
  have s11:=qA3 hu3 (.tup [.int wk,.non])
  refine ⟨_,rfl,u3,r9,_,_,rfl,rfl,SqT.of qA1,SqT.of (s11 _ _ gA),.inl ⟨by simp,qA1⟩,Nat.le_of_lt (qAC (by rw [List.length_cons,List.length_cons,List.length_nil];lia)),fun c3 H9 s11' gc3=>?_⟩
  have s12:=s11.trans s11'
  have gB1:=s12 _ _ (s10 _ _ gc1)
  have gB2:=s12 _ _ gc2
  have sZ:=s8.trans (s10.trans s12)
  refine ⟨(by show 3≤sizeLine;decide),fun e1 he1=>?_⟩
  have s13:=qA3 he1 (.lst ([c1,c2,c3].map V.ref))
  have sY:=sZ.trans s13
  refine ⟨l,e1,_,_,rfl,rfl,sY _ _ gl6,qA1,Nat.le_of_lt (qAC (by rw [List.length_map];show rs.length+3≤1000000;lia)),fun l' hl'=>?_⟩
  have s14:=qA3 hl' (.lst (rs.map V.ref++[c1,c2,c3].map V.ref))
  have sX:=sY.trans s14
  have K7:=K6.trans (.of_same sX)
  have K8:=K6.trans (.of_same sY)
  refine done (rs':=rs++[c1,c2,c3]) (S6.same sX) (by lia) (by lia) K7 (K8.none (S6.same sY) hl') (by rw [qA1,List.map_append];rfl) (LsP.app (LP6.same sX) ?_) (by rw [List.length_append];show _+3≤_;lia)
  have kp:=s13.trans s14
  intro r hr
  rcases List.mem_cons.mp hr with rfl | hr
  ·exact ⟨_,lk_two k2 wk2 wk2,kp _ _ gB1⟩
  rcases List.mem_cons.mp hr with rfl | hr
  ·exact ⟨_,lk_two k2 no2 wk2,kp _ _ gB2⟩
  rw [List.mem_singleton.mp hr]
  exact ⟨_,lk_two k2 wk2 no2,kp _ _ gc3⟩
 have rest:∀ (v10:Option V) (t':Int) (ns':List Int) (H':Hp),StAt H' d c t' ns'→t2≤t'→t'≤t2+100→Keep d c H H'→H' l=some (.lst (rs.map V.ref))→LsP H' rs (Lk net sizes)→TKit H' a wd sz net wides sizes→N5 [some (.ref d),some (.ref a),some (.ref wd),some (.ref sz),some (.ref dk),some (.ref l),some (.int way),some (.int at_),none,none,v10] H':=by
  intro v10 t' ns' H' S' h1 h2 K' g' L' T'
  have one:∀ {r:Addr},r ∈ rs→∃ s,Lk net sizes s∧H' r=some (.tup (s.map oV)):=fun {r} hr=>L' r hr
  refine hN5 _ _ (cut fun N6 hN6=>?_)
  refine ⟨_,rfl,rfl,_,rfl,?_⟩
  have hz:=List.getElem?_eq_getElem (show at_.toNat<rs.length by lia)
  have zin:=List.getElem_mem (show at_.toNat<rs.length by lia)
  generalize rs[at_.toNat]=ra at hz zin
  obtain ⟨sa,ka,ga⟩:=one zin
  have atr:atI (rs.map V.ref) at_=some (.ref ra):=qBV a0 (by rw [List.getElem?_map,hz];rfl)
  refine ite2 (fun _=>?_) (fun _=>hN6 _ _ (cut fun N7 hN7=>?_))
  ·refine ⟨_,rfl,l,rfl,⟨_,SqL.of g'⟩,fun p hp=>?_⟩
   refine qCB (p:=p) (a:=l) (xs:=rs.map V.ref) (fun i σ Hc=>∃ (v:Option V) (us:List Addr),σ=[v,some (.ref l),some (.int at_)]∧Same H' Hc∧Hc p=some (.lst (us.map V.ref))∧us.length≤i∧∀ r ∈ us,r ∈ rs) ?_ ?_ ?_ ?_
   ·exact ⟨none,[],rfl,qA3 hp _,qA1,Nat.le_refl _,fun r hr=>(nomatch hr)⟩
   ·rintro i σ Hc hi ⟨v,us,rfl,sm,_⟩
    exact SqL.of (sm _ _ g')
   ·refine fun i x σ Hc hx hI_2=>opq fun G_2 hG_2=>?_
    obtain ⟨v,us,rfl,sm,gp,lu,iu⟩:=hI_2
    obtain ⟨r,er,rfl⟩:=qBH hx
    refine hG_2 ?_
    have hi:=(List.getElem?_eq_some_iff.mp er).1
    have rin:=List.mem_of_getElem? er
    obtain ⟨s1,k1,g1⟩:=one rin
    refine ⟨_,rfl,_,rfl,_,rfl,l,_,_,_,rfl,rfl,SqL.of (sm _ _ g'),atr,r,ra,_,_,rfl,rfl,sm _ _ g1,sm _ _ ga,qC1 s1,qC1 sa,fun b=>?_⟩
    refine ⟨_,rfl,?_⟩
    refine ite2 (fun _=>?_) (fun _=>?_)
    ·exact ⟨_,rfl,_,gp,qAC (by rw [List.length_map];lia),_,us++[r],rfl,qAG sm hp,by rw [qA1,qAP],by rw [List.length_append,List.length_singleton];lia,fun r' hr=>(List.mem_append.mp hr).elim (iu r') fun z=>by rw [List.mem_singleton.mp z];exact rin⟩
    ·exact ⟨_,us,rfl,sm,gp,by lia,iu⟩
   ·refine fun σ Hc hI_3=>opq fun G_3 hG_3=>?_
    obtain ⟨v,us,rfl,sm,gp,lu,iu⟩:=hI_3
    refine hG_3 ?_
    rw [List.length_map] at lu
    exact done (S'.same sm) h1 (by lia) (K'.trans (.of_same sm)) (K'.none S' hp) gp ((L'.sub iu).same sm) (by lia)
  refine ⟨_,rfl,rfl,_,rfl,?_⟩
  refine ite2 (fun _=>?_) (fun _=>hN7 _ _ (cut fun N8 hN8=>?_))
  ·refine ⟨_,rfl,_,rfl,_,rfl,_,rfl,d,c,a,wd,sz,t',ns',net,wides,sizes,rfl,S',(by show t'≤1000000000 - 1000;lia),T',fun r s t3 ns3 H3 S3 v1 v2 K3 g3 lk3=>⟨(by show 1≤sizeLine;decide),fun e1 he1=>?_⟩⟩
   have s1:=qA3 he1 (.lst ([r].map V.ref))
   have g3l:=s1 _ _ (K3 _ _ g' nl.1 nl.2)
   refine ⟨l,e1,_,_,rfl,rfl,g3l,qA1,Nat.le_of_lt (qAC (by rw [List.length_map];show rs.length+1≤1000000;lia)),fun l' hl'=>?_⟩
   have s2:=qA3 hl' (.lst (rs.map V.ref++[r].map V.ref))
   have K4:=(K'.trans K3).trans (.of_same s1)
   refine done (rs':=rs++[r]) ((S3.same s1).same s2) (by lia) (by lia) (K4.trans (.of_same s2)) (K4.none (S3.same s1) hl') (by rw [qA1,List.map_append];rfl) (LsP.app ((L'.keep S' K3).same (s1.trans s2)) (LsP.one lk3 (s2 _ _ (s1 _ _ g3)))) (by rw [List.length_append,List.length_singleton];lia)
  refine ⟨_,rfl,rfl,_,rfl,?_⟩
  refine ite2 (fun _=>?_) (fun _=>hN8 _ _ (cut fun N9 hN9=>?_))
  ·refine ⟨_,rfl,_,rfl,at_,rfl,l,_,rfl,SqL.of g',fun p1 hp1=>?_⟩
   rw [qB4]
   have c1:=cutI_sub (xs:=rs) (lo:=none) (hi:=some at_)
   generalize cutI rs none (some at_)=ua at c1
   have s1:=qA3 hp1 (.lst (ua.map V.ref))
   refine ⟨_,rfl,_,rfl,l,_,_,_,rfl,rfl,SqL.of (s1 _ _ g'),atr,_,rfl,_,rfl,rfl,ra,_,rfl,SqT.of (s1 _ _ ga),fun p2 hp2=>?_⟩
   have s2:=s1.trans (qA3 hp2 (.tup (sa.map oV).reverse))
   have g2:(upd (upd H' p1 (.lst (ua.map V.ref))) p2 (.tup (sa.map oV).reverse)) p2=some (.tup (sa.reverse.map oV)):=by rw [qA1,List.map_reverse]
   have g1:=qA3 hp2 (.tup (sa.map oV).reverse) p1 _ (qA1 (H:=H') (o:=.lst (ua.map V.ref)))
   generalize upd (upd H' p1 (.lst (ua.map V.ref))) p2 (.tup (sa.map oV).reverse)=H2 at s2 g2 g1 ⊢
   refine ⟨(by show 1≤sizeLine;decide),fun e1 he1=>?_⟩
   have s3:=qA3 he1 (.lst ([p2].map V.ref))
   have g1:=s3 _ _ g1
   have s4:=s2.trans s3
   have g2:=s3 _ _ g2
   refine ⟨p1,e1,_,_,rfl,rfl,g1,qA1,Nat.le_of_lt (qAC (by rw [List.length_map];show ua.length+1≤1000000;lia)),fun p3 hp3=>?_⟩
   have s5:=qA3 hp3 (.lst (ua.map V.ref++[p2].map V.ref))
   have g3:(upd (upd H2 e1 (.lst [V.ref p2])) p3 (.lst (ua.map V.ref++[p2].map V.ref))) p3=some (.lst ((ua++[p2]).map V.ref)):=by rw [qA1,List.map_append]
   have s6:=s4.trans s5
   have g26:=s5 _ _ g2
   refine ⟨_,rfl,_,rfl,_,_,rfl,rfl,_,rfl,l,_,rfl,SqL.of (s6 _ _ g'),fun p4 hp4=>?_⟩
   rw [qB4]
   have c2:=cutI_sub (xs:=rs) (lo:=some (at_+1)) (hi:=none)
   generalize cutI rs (some (at_+1)) none=ub at c2
   have s7:=qA3 hp4 (.lst (ub.map V.ref))
   have s8:=s6.trans s7
   have g38:=s7 _ _ g3
   have g28:=s7 _ _ g26
   refine ⟨p3,p4,_,_,rfl,rfl,g38,qA1,Nat.le_of_lt (qAC (by rw [List.length_map,List.length_map,List.length_append,List.length_singleton];lia)),fun l' hl'=>?_⟩
   have s9:=qA3 hl' (.lst ((ua++[p2]).map V.ref++ub.map V.ref))
   have K8:=K'.trans (.of_same s8)
   refine done (rs':=ua++[p2]++ub) ((S'.same s8).same s9) h1 (by lia) (K8.trans (.of_same s9)) (K8.none (S'.same s8) hl') (by rw [qA1,List.map_append (l₁:=ua++[p2])]) ?_ (by rw [List.length_append,List.length_append,List.length_singleton];lia)
   have L8:=L'.same (s8.trans s9)
   exact ((L8.sub c1.1).app (.one ka.rev (s9 _ _ g28))).app (L8.sub c2.1)
  refine ⟨_,rfl,rfl,_,rfl,?_⟩
  refine ite2 (fun _=>?_) (fun _=>hN9 _ _ ?_)
  ·refine ⟨_,rfl,l,rfl,⟨_,SqL.of g'⟩,fun p hp=>?_⟩
   refine qCB (p:=p) (a:=l) (xs:=rs.map V.ref) (fun i σ Hc=>∃ (v:Option V) (us:List Addr),σ=[v]∧Same H' Hc∧Hc p=some (.lst (us.map V.ref))∧us.length≤i∧∀ r ∈ us,r ∈ rs) ?_ ?_ ?_ ?_
   ·exact ⟨none,[],rfl,qA3 hp _,qA1,Nat.le_refl _,fun r hr=>(nomatch hr)⟩
   ·rintro i σ Hc hi ⟨v,us,rfl,sm,_⟩
    exact SqL.of (sm _ _ g')
   ·refine fun i x σ Hc hx hI_5=>opq fun G_5 hG_5=>?_
    obtain ⟨v,us,rfl,sm,gp,lu,iu⟩:=hI_5
    obtain ⟨r,er,rfl⟩:=qBH hx
    refine hG_5 ?_
    have hi:=(List.getElem?_eq_some_iff.mp er).1
    have rin:=List.mem_of_getElem? er
    obtain ⟨s1,k1,g1⟩:=one rin
    refine ⟨_,rfl,r,_,rfl,.inr (SqT.of (sm _ _ g1)),rfl,qC1 s1,_,rfl,?_⟩
    refine ite2 (fun _=>?_) (fun _=>?_)
    ·exact ⟨_,rfl,_,gp,qAC (by rw [List.length_map];lia),_,us++[r],rfl,qAG sm hp,by rw [qA1,qAP],by rw [List.length_append,List.length_singleton];lia,fun r' hr=>(List.mem_append.mp hr).elim (iu r') fun z=>by rw [List.mem_singleton.mp z];exact rin⟩
    ·exact ⟨_,us,rfl,sm,gp,by lia,iu⟩
   ·refine fun σ Hc hI_6=>opq fun G_6 hG_6=>?_
    obtain ⟨v,us,rfl,sm,gp,lu,iu⟩:=hI_6
    refine hG_6 ?_
    rw [List.length_map] at lu
    exact done (S'.same sm) h1 (by lia) (K'.trans (.of_same sm)) (K'.none S' hp) gp ((L'.sub iu).same sm) (by lia)
  ·exact ⟨_,rfl,done S' h1 (by lia) K' fl g' L' (by lia)⟩
 refine ⟨_,rfl,_,_,rfl,rfl,_,rfl,?_⟩
 refine ite2 (fun _=>?_) (fun _=>rest _ _ _ _ S4 (by lia) (by lia) K4 gl4 LP4 TK4)
 refine cut fun M1 hM1=>?_
 refine ⟨_,rfl,_,rfl,_,rfl,d,c,a,wd,sz,_,ns4,net,wides,sizes,rfl,S4,(by show t2+1+1≤1000000000 - 1000;lia),TK4,fun r s5 t5 ns5 H5 S5 v1 v2 K5 g5 lk5=>hM1 _ _ ?_⟩
 have TK5:=TK4.keep S4 K5
 have gl5:=K5 _ _ gl4 nl.1 nl.2
 have LP5:=LP4.keep S4 K5
 have K5:=K4.trans K5
 refine ⟨_,rfl,_,rfl,_,rfl,wd,sz,r,wides,sizes,s5,rfl,TK5.wides_,TK5.sizes_,g5,lk5.1,k3,by rw [lwd];exact lk5.2,fun b H6 s6 ib=>⟨_,rfl,?_⟩⟩
 have S6:=S5.same s6
 have K6:=K5.trans (.of_same s6)
 have gl6:=s6 _ _ gl5
 have LP6:=LP5.same s6
 have TK6:=TK5.same s6
 refine ite2 (fun _=>?_) (fun _=>rest _ _ _ _ S6 (by lia) (by lia) K6 gl6 LP6 TK6)
 refine ⟨_,rfl,_,rfl,_,rfl,_,rfl,_,rfl,_,rfl,(by show 1≤sizeLine;decide),fun e1 he1=>?_⟩
 have s7:=qA3 he1 (.lst ([r].map V.ref))
 have gl7:=s7 _ _ gl6
 refine ⟨l,e1,_,_,rfl,rfl,gl7,qA1,Nat.le_of_lt (qAC (by rw [List.length_map];show rs.length+1≤1000000;lia)),fun l1 hl1=>?_⟩
 have s8:=s7.trans (qA3 hl1 (.lst (rs.map V.ref++[r].map V.ref)))
 have g8:(upd (upd H6 e1 (.lst [V.ref r])) l1 (.lst (rs.map V.ref++[r].map V.ref))) l1=some (.lst ((rs++[r]).map V.ref)):=by rw [qA1,List.map_append]
 have L8:=LsP.app (LP6.same s8) (LsP.one lk5 (s8 _ _ (s6 _ _ g5)))
 have S8:=S6.same s8
 have K8:=K6.trans (.of_same s8)
 have TK8:=TK6.same s8
 refine ⟨a,wd,sz,l1,net,wides,sizes,rs++[r],rfl,TK8,n5,k3,g8,L8,by simp,by rw [List.length_append,List.length_singleton];lia,fun l2 rs2 H9 s9 fl2 gl2 LP2 ne2 len2=>?_⟩
 have S9:=S8.same s9
 have K9:=K8.trans (.of_same s9)
 refine ⟨d,c,l2,_,_,rs2,_,rfl,S9,(by show t5≤1000000000 - 5000;lia),gl2,LP2,ne2,by lia,fun l' rs' t' ns' H' S' v1 v2 K' fl' gl' LP' ne' len'=>?_⟩
 exact done S' (by lia) (by lia) (K9.trans K') (K9.none S9 fl') gl' LP' (by lia)
theorem sc_Lthings:FnScope ["_law_sizes","_law_some","_law_empty","_law_found","_law_work"] ["_law_sizes","_law_some"] (defScope qD0):=sc_mk
theorem ok_Lthings (F:Fun K "_law_things" "_law_things" qD0 f fd) (z_len:mg "len" = none) (z_list:mg "list" = none) (z_tuple:mg "tuple" = none):FnOk P w K mg base CX0 1 f fd ["_law_sizes","_law_some"] spThingsO:=by
 refine F.okA sc_Lthings fun cdv A outer s H vs Q E hr h=>?_
 obtain ⟨sz,l,net,wides,sizes,rs,L,rfl,gz,n5,k2,k3,gl,LA,Lne,len,q⟩:=h
 have key:defBody qD0=[(.Assign [(.Name "_law_empty" ⟨319,4,319,14⟩)] (.BinOp (.Tuple [(cxc .none ⟨319,18,319,22⟩)] 0 ⟨319,17,319,24⟩) .Mult (.Call (.Name "len" ⟨319,27,319,30⟩) [(.Name "_law_sizes" ⟨319,31,319,41⟩)] [] ⟨319,27,319,42⟩) ⟨319,17,319,42⟩) ⟨319,4,319,42⟩),(.Assign [(.Name "_law_found" ⟨320,4,320,14⟩)] (.List [(cxc .none ⟨320,18,320,22⟩),(cxc (.int 5) ⟨320,24,320,25⟩),(cxc (.str "none") ⟨320,27,320,33⟩),(.Tuple [] 0 ⟨320,35,320,37⟩),(.Tuple [(cxc (.str "none") ⟨320,40,320,46⟩)] 0 ⟨320,39,320,48⟩),(.List [(cxc (.str "none") ⟨320,51,320,57⟩),(.Name "_law_some" ⟨320,59,320,68⟩)] ⟨320,50,320,69⟩),(.Tuple [(cxc (.str "none") ⟨320,72,320,78⟩),(.Call (.Name "tuple" ⟨320,80,320,85⟩) [(.Name "_law_some" ⟨320,86,320,95⟩)] [] ⟨320,80,320,96⟩)] 0 ⟨320,71,320,97⟩),(.Tuple [(cxc (.str "none") ⟨320,100,320,106⟩),(.Name "_law_some" ⟨320,108,320,117⟩),(cxc (.int 0) ⟨320,119,320,120⟩)] 0 ⟨320,99,320,121⟩)] ⟨320,17,320,122⟩) ⟨320,4,320,122⟩),(.Assign [(.Name "_law_found" ⟨321,4,321,14⟩)] (.BinOp (.Name "_law_found" ⟨321,17,321,27⟩) .Add (.List [(.Tuple [(cxc (.str "none") ⟨321,32,321,38⟩),(.List [(cxc .none ⟨321,41,321,45⟩)] ⟨321,40,321,46⟩)] 0 ⟨321,31,321,47⟩),(.Tuple [(cxc (.str "none") ⟨321,50,321,56⟩),(.List [(.Call (.Name "list" ⟨321,59,321,63⟩) [(.Name "_law_empty" ⟨321,64,321,74⟩)] [] ⟨321,59,321,75⟩)] ⟨321,58,321,76⟩)] 0 ⟨321,49,321,77⟩),(.Tuple [(cxc (.str "none") ⟨321,80,321,86⟩),(.List [(.BinOp (.Name "_law_empty" ⟨321,89,321,99⟩) .Add (.Tuple [(cxc .none ⟨321,103,321,107⟩)] 0 ⟨321,102,321,109⟩) ⟨321,89,321,109⟩)] ⟨321,88,321,110⟩)] 0 ⟨321,79,321,111⟩)] ⟨321,30,321,112⟩) ⟨321,17,321,112⟩) ⟨321,4,321,112⟩),(.Assign [(.Name "_law_found" ⟨322,4,322,14⟩)] (.BinOp (.Name "_law_found" ⟨322,17,322,27⟩) .Add (.List [(.Tuple [(cxc (.str "none") ⟨322,32,322,38⟩),(.List [(.Subscript (.Name "_law_empty" ⟨322,41,322,51⟩) (.Slice (some (cxc (.int 1) ⟨322,52,322,53⟩)) none none ⟨322,52,322,54⟩) ⟨322,41,322,55⟩)] ⟨322,40,322,56⟩)] 0 ⟨322,31,322,57⟩),(.Tuple [(cxc (.str "none") ⟨322,60,322,66⟩),(cxc .none ⟨322,68,322,72⟩)] 0 ⟨322,59,322,73⟩),(.Tuple [(cxc (.str "plan") ⟨322,76,322,82⟩),(.Name "_law_some" ⟨322,84,322,93⟩)] 0 ⟨322,75,322,94⟩),(.Tuple [(cxc .none ⟨322,97,322,101⟩),(.Name "_law_some" ⟨322,103,322,112⟩)] 0 ⟨322,96,322,113⟩),(.Tuple [(cxc (.str "none") ⟨322,116,322,122⟩),(.List [] ⟨322,124,322,126⟩)] 0 ⟨322,115,322,127⟩)] ⟨322,30,322,128⟩) ⟨322,17,322,128⟩) ⟨322,4,322,128⟩),(.For (.Name "_law_work" ⟨323,8,323,17⟩) (.Tuple [(cxc (.bool true) ⟨323,22,323,26⟩),(cxc (.str "a") ⟨323,28,323,31⟩),(cxc (.int 99) ⟨323,33,323,35⟩),(.UnaryOp .USub (cxc (.int 1) ⟨323,38,323,39⟩) ⟨323,37,323,39⟩),(.List [] ⟨323,41,323,43⟩),(.List [(cxc (.int 0) ⟨323,46,323,47⟩)] ⟨323,45,323,48⟩),(.Tuple [(cxc (.int 0) ⟨323,51,323,52⟩)] 0 ⟨323,50,323,54⟩)] 0 ⟨323,21,323,55⟩) [(.Expr (.Call (.Attribute (.Name "_law_found" ⟨324,8,324,18⟩) "append" ⟨324,8,324,25⟩) [(.Tuple [(cxc (.str "none") ⟨324,27,324,33⟩),(.BinOp (.Name "_law_some" ⟨324,35,324,44⟩) .Add (.List [(.BinOp (.Tuple [(.Name "_law_work" ⟨324,49,324,58⟩)] 0 ⟨324,48,324,60⟩) .Add (.Subscript (.Name "_law_empty" ⟨324,63,324,73⟩) (.Slice (some (cxc (.int 1) ⟨324,74,324,75⟩)) none none ⟨324,74,324,76⟩) ⟨324,63,324,77⟩) ⟨324,48,324,77⟩)] ⟨324,47,324,78⟩) ⟨324,35,324,78⟩)] 0 ⟨324,26,324,79⟩)] [] ⟨324,8,324,80⟩) ⟨324,8,324,80⟩)] [] ⟨323,4,324,80⟩),(.Return (some (.BinOp (.Name "_law_found" ⟨325,11,325,21⟩) .Add (.List [(.Tuple [(cxc (.str "plan") ⟨325,26,325,32⟩),(.Name "_law_some" ⟨325,34,325,43⟩),(cxc (.int 0) ⟨325,45,325,46⟩)] 0 ⟨325,25,325,47⟩),(.Tuple [(cxc (.str "plan") ⟨325,50,325,56⟩),(cxc .none ⟨325,58,325,62⟩),(cxc (.int 0) ⟨325,64,325,65⟩)] 0 ⟨325,49,325,66⟩),(.Tuple [(cxc (.str "plan") ⟨325,69,325,75⟩),(.List [(cxc .none ⟨325,78,325,82⟩)] ⟨325,77,325,83⟩),(cxc (.int 0) ⟨325,85,325,86⟩)] 0 ⟨325,68,325,87⟩),(.Tuple [(cxc (.str "plan") ⟨325,90,325,96⟩),(.List [(.Tuple [] 0 ⟨325,99,325,101⟩)] ⟨325,98,325,102⟩),(cxc (.int 0) ⟨325,104,325,105⟩)] 0 ⟨325,89,325,106⟩)] ⟨325,24,325,107⟩) ⟨325,11,325,107⟩)) ⟨325,4,325,107⟩)]:=by unfold cxc;kernel_rfl
 rw [key]
 refine ⟨_,(qA4 (qAB (i:=2) sc_Lthings.nd rfl (Or.inl rfl) (pe_op op_repT (qAJ (qA0 pe_cxN qA2 (hs:=qAS))) (qAA qA8 rfl z_len qAQ (qA0 (pv 0) qA2 (hs:=qCR))))) (qA4 (qAB (i:=3) sc_Lthings.nd rfl (Or.inl rfl) (qAK (qA0 pe_cxN (qA0 qCW (qA0 qBI (qA0 (qAJ qA2) (qA0 (qAJ (qA0 qBI qA2 (hs:=qAS))) (qA0 (qAK (qA0 qBI (qA0 (pv 1) qA2 (hs:=qCR)) (hs:=qAS))) (qA0 (qAJ (qA0 qBI (qA0 (qAD qAL rfl z_tuple qAV (qA0 (pv 1) qA2 (hs:=qCR))) qA2 (hs:=hs_call)) (hs:=qAS))) (qA0 (qAJ (qA0 qBI (qA0 (pv 1) (qA0 qCW qA2 (hs:=qAS)) (hs:=qCR)) (hs:=qAS))) qA2 (hs:=qBG)) (hs:=qBG)) (hs:=qCD)) (hs:=qBG)) (hs:=qBG)) (hs:=qAS)) (hs:=qAS)) (hs:=qAS)))) (qA4 (qAB (i:=3) sc_Lthings.nd rfl (Or.inl rfl) (pe_op qCG (pv 3) (qAK (qA0 (qAJ (qA0 qBI (qA0 (qAK (qA0 pe_cxN qA2 (hs:=qAS))) qA2 (hs:=qCD)) (hs:=qAS))) (qA0 (qAJ (qA0 qBI (qA0 (qAK (qA0 (qAD qC8 rfl z_list qBS (qA0 (pv 2) qA2 (hs:=qCR))) qA2 (hs:=hs_call))) qA2 (hs:=qCD)) (hs:=qAS))) (qA0 (qAJ (qA0 qBI (qA0 (qAK (qA0 (pe_op qBR (pv 2) (qAJ (qA0 pe_cxN qA2 (hs:=qAS)))) qA2 (hs:=hs_bin))) qA2 (hs:=qCD)) (hs:=qAS))) qA2 (hs:=qBG)) (hs:=qBG)) (hs:=qBG))))) (qA4 (qAB (i:=3) sc_Lthings.nd rfl (Or.inl rfl) (pe_op qCG (pv 3) (qAK (qA0 (qAJ (qA0 qBI (qA0 (qAK (qA0 (qB3 sl_tup (pv 2) (qB9 qCW) qBE) qA2 (hs:=hs_sub))) qA2 (hs:=qCD)) (hs:=qAS))) (qA0 (qAJ (qA0 qBI (qA0 pe_cxN qA2 (hs:=qAS)) (hs:=qAS))) (qA0 (qAJ (qA0 qBI (qA0 (pv 1) qA2 (hs:=qCR)) (hs:=qAS))) (qA0 (qAJ (qA0 pe_cxN (qA0 (pv 1) qA2 (hs:=qCR)) (hs:=qAS))) (qA0 (qAJ (qA0 qBI (qA0 (qAK qA2) qA2 (hs:=qCD)) (hs:=qAS))) qA2 (hs:=qBG)) (hs:=qBG)) (hs:=qBG)) (hs:=qBG)) (hs:=qBG))))) (qA4 (qB5 PassesOwn.never rfl (pi_tup (qAJ (qA0 pe_cxB (qA0 qBI (qA0 qCW (qA0 (pe_un un_neg qCW) (qA0 (qAK qA2) (qA0 (qAK (qA0 qCW qA2 (hs:=qAS))) (qA0 (qAJ (qA0 qCW qA2 (hs:=qAS))) qA2 (hs:=qBG)) (hs:=qCD)) (hs:=qCD)) (hs:=hs_un)) (hs:=qAS)) (hs:=qAS)) (hs:=qAS)))) (qAN (i:=4) sc_Lthings.nd rfl (Or.inl rfl)) (qA5 (qBJ (pe_bm PySem.F.plainAttrs_list PySem.F.slot_list_append PySem.F.type_list_append qB6 (pv 3) (qA0 (qAJ (qA0 qBI (qA0 (pe_op qCG (pv 1) (qAK (qA0 (pe_op qBR (qAJ (qA0 (pv 4) qA2 (hs:=qCR))) (qB3 sl_tup (pv 2) (qB9 qCW) qBE)) qA2 (hs:=hs_bin)))) qA2 (hs:=hs_bin)) (hs:=qAS))) qA2 (hs:=qBG)))))) (qA5 (qAE (pe_op qCG (pv 3) (qAK (qA0 (qAJ (qA0 qBI (qA0 (pv 1) (qA0 qCW qA2 (hs:=qAS)) (hs:=qCR)) (hs:=qAS))) (qA0 (qAJ (qA0 qBI (qA0 pe_cxN (qA0 qCW qA2 (hs:=qAS)) (hs:=qAS)) (hs:=qAS))) (qA0 (qAJ (qA0 qBI (qA0 (qAK (qA0 pe_cxN qA2 (hs:=qAS))) (qA0 qCW qA2 (hs:=qAS)) (hs:=qCD)) (hs:=qAS))) (qA0 (qAJ (qA0 qBI (qA0 (qAK (qA0 (qAJ qA2) qA2 (hs:=qBG))) (qA0 qCW qA2 (hs:=qAS)) (hs:=qCD)) (hs:=qAS))) qA2 (hs:=qBG)) (hs:=qBG)) (hs:=qBG)) (hs:=qBG))))))))))),?_⟩
 try dsimp only [Cx.nox,Cx.wish,cxOf]
 have lsz:(((sizes.map V.int).length:Nat):Int)=(sizes.length:Int):=by rw [List.length_map]
 have lrs:rs.length=L.length:=Paired.length LA
 have sne:sizes ≠ []:=fun z=>by rw [z] at k2;exact absurd k2 (by decide)
 have bv:∀ {G:Hp} {x:V} {d:PyData},At G x d→BadD net wides sizes d→BadV net wides sizes G x:=fun a b=>⟨_,a,b⟩
 have noP:isS (Str.ofString "plan") (.str (Str.ofString "none"))=false:=rfl
 have noN:isS (Str.ofString "none") (.str (Str.ofString "plan"))=false:=rfl
 refine cut fun N0 hN0=>?_
 refine ⟨(by show 1≤sizeLine;decide),fun t1 ht1=>?_⟩
 have s1:=qA3 ht1 (.tup [.non])
 refine ⟨_,rfl,sz,_,rfl,.inr (SqT.of (s1 _ _ gz)),?_⟩
 rw [lsz]
 refine qCE qA1 (by lia) (by lia) fun e G0 s2 ge=>?_
 have U:=s1.trans s2
 clear s1 s2 ht1
 have Lat:∀ {G:Hp},Same H G→At G (.ref l) (.list (L.map layD)):=fun s=>(At.lst gl (At.lays LA)).same s
 have lenL:lenB (.list (L.map layD)):=by show (L.map layD).length≤20000;rw [List.length_map];lia
 have B:AllBad net wides sizes G0 [.non,.int 5,.str "none"]:=fun x hx=>by
  rcases List.mem_cons.mp hx with rfl | hx
  ·exact bv .non (bad_leaf rfl)
  rcases List.mem_cons.mp hx with rfl | hx
  ·exact bv .int (bad_leaf rfl)
  rw [List.mem_singleton.mp hx]
  exact bv .str (bad_leaf rfl)
 refine hN0 _ _ (cut fun N1 hN1=>?_)
 refine ⟨(by show 0≤sizeLine;decide),fun a1 h1=>?_⟩
 obtain ⟨G1,e_,s1,g1⟩:=qAI h1 (.tup [])
 rw [e_]
 have U:=U.trans s1
 have ge:=s1 _ _ ge
 clear e_ h1
 have B:=B.snoc (s1) (bv (At.tup g1 .nil) bad_nil)
 refine ⟨(by show 1≤sizeLine;decide),fun a2 h2=>?_⟩
 obtain ⟨G2,e_,s2,g2⟩:=qAI h2 (.tup [.str "none"])
 rw [e_]
 have U:=U.trans s2
 have ge:=s2 _ _ ge
 clear e_ h2
 have B:=B.snoc (s2) (bv (At.tup g2 (.cons .str .nil)) bad_one)
 refine ⟨_,rfl,(by show 2≤sizeLine;decide),fun a3 h3=>?_⟩
 obtain ⟨G3,e_,s3,g3⟩:=qAI h3 (.lst [.str "none",.ref l])
 rw [e_]
 have U:=U.trans s3
 have ge:=s3 _ _ ge
 clear e_ h3
 have B:=B.snoc (s3) (bv (At.lst g3 (.cons .str (.cons (Lat U) .nil))) bad_list)
 refine ⟨_,rfl,l,_,rfl,.inl ⟨SqL.of (U _ _ gl),fun a4 h4=>?_⟩⟩
 obtain ⟨G4,e_,s4,g4⟩:=qAI h4 (.tup (rs.map V.ref))
 rw [e_]
 have U:=U.trans s4
 have ge:=s4 _ _ ge
 clear e_ h4
 have t4:=At.tup g4 (At.lays (LA.same U))
 refine ⟨(by show 2≤sizeLine;decide),fun a5 h5=>?_⟩
 obtain ⟨G5,e_,s5,g5⟩:=qAI h5 (.tup [.str "none",.ref a4])
 rw [e_]
 have U:=U.trans s5
 have ge:=s5 _ _ ge
 clear e_ h5
 have B:=B.snoc (s4.trans s5) (bv (At.tup g5 (.cons .str (.cons (t4.same s5) .nil))) (bad_none trivial fun _ z=>z))
 refine ⟨_,rfl,(by show 3≤sizeLine;decide),fun a6 h6=>?_⟩
 obtain ⟨G6,e_,s6,g6⟩:=qAI h6 (.tup [.str "none",.ref l,.int 0])
 rw [e_]
 have U:=U.trans s6
 have ge:=s6 _ _ ge
 clear e_ h6
 have B:=B.snoc (s6) (bv (At.tup g6 (.cons .str (.cons (Lat U) (.cons .int .nil)))) (qD4 rfl fun z=>by rw [noP] at z;cases z))
 refine ⟨(by show 8≤sizeLine;decide),fun a7 h7=>?_⟩
 obtain ⟨G7,e_,s7,g7⟩:=qAI h7 (.lst [.non,.int 5,.str "none",.ref a1,.ref a2,.ref a3,.ref a5,.ref a6])
 rw [e_]
 have U:=U.trans s7
 have ge:=s7 _ _ ge
 clear e_ h7
 obtain ⟨xs1,l1,gF,B1⟩:∃ xs1:List V,xs1.length=8∧G7 a7=some (.lst xs1)∧AllBad net wides sizes G7 xs1:=⟨_,rfl,g7,B.same s7⟩
 clear B g7
 have B:=B1
 clear B1
 refine hN1 _ _ (cut fun N2 hN2=>?_)
 refine ⟨_,rfl,?_⟩
 refine ⟨(by show 1≤sizeLine;decide),fun a8 h8=>?_⟩
 obtain ⟨G8,e_,s8,g8⟩:=qAI h8 (.lst [.non])
 rw [e_]
 have U:=U.trans s8
 have ge:=s8 _ _ ge
 clear e_ h8
 have gF:=s8 _ _ gF
 refine ⟨(by show 2≤sizeLine;decide),fun a9 h9=>?_⟩
 obtain ⟨G9,e_,s9,g9⟩:=qAI h9 (.tup [.str "none",.ref a8])
 rw [e_]
 have U:=U.trans s9
 have ge:=s9 _ _ ge
 clear e_ h9
 have gF:=s9 _ _ gF
 have B:=B.snoc (s8.trans s9) (bv (At.tup g9 (.cons .str (.cons ((At.lst g8 (.cons .non .nil)).same s9) .nil))) (bad_lays (d:=.none) (by decide) (List.mem_cons_self ..) rfl))
 refine ⟨_,rfl,e,_,rfl,.inr (SqT.of ge),fun a10 h10=>?_⟩
 obtain ⟨G10,e_,s10,g10⟩:=qAI h10 (.lst ((l0 sizes).map oV))
 rw [e_]
 have U:=U.trans s10
 have ge:=s10 _ _ ge
 clear e_ h10
 have gF:=s10 _ _ gF
 refine ⟨(by show 1≤sizeLine;decide),fun a11 h11=>?_⟩
 obtain ⟨G11,e_,s11,g11⟩:=qAI h11 (.lst [.ref a10])
 rw [e_]
 have U:=U.trans s11
 have ge:=s11 _ _ ge
 clear e_ h11
 have gF:=s11 _ _ gF
 refine ⟨(by show 2≤sizeLine;decide),fun a12 h12=>?_⟩
 obtain ⟨G12,e_,s12,g12⟩:=qAI h12 (.tup [.str "none",.ref a11])
 rw [e_]
 have U:=U.trans s12
 have ge:=s12 _ _ ge
 clear e_ h12
 have gF:=s12 _ _ gF
 have B:=B.snoc (s10.trans (s11.trans s12)) (bv (At.tup g12 (.cons .str (.cons ((At.lst g11 (.cons ((At.lst g10 at_items).same s11) .nil)).same s12) .nil))) (bad_lays (d:=.list _) (show 1≤20000 by decide) (List.mem_cons_self ..) rfl))
 refine ⟨_,rfl,(by show 1≤sizeLine;decide),fun a13 h13=>?_⟩
 obtain ⟨G13,e_,s13,g13⟩:=qAI h13 (.tup [.non])
 rw [e_]
 have U:=U.trans s13
 have ge:=s13 _ _ ge
 clear e_ h13
 have gF:=s13 _ _ gF
 refine ⟨e,a13,_,[.non],rfl,rfl,SqT.of ge,SqT.of g13,.inr ⟨by simp,g13⟩,Nat.le_of_lt (qAC (by rw [List.length_map,l0_len,List.length_singleton];lia)),fun a14 G14 s14 g14=>?_⟩
 have U:=U.trans s14
 have ge:=s14 _ _ ge
 have gF:=s14 _ _ gF
 rw [show (l0 sizes).map oV++[V.non]=(l0 sizes++[none]).map oV by rw [List.map_append];rfl] at g14
 refine ⟨(by show 1≤sizeLine;decide),fun a15 h15=>?_⟩
 obtain ⟨G15,e_,s15,g15⟩:=qAI h15 (.lst [.ref a14])
 rw [e_]
 have U:=U.trans s15
 have ge:=s15 _ _ ge
 clear e_ h15
 have gF:=s15 _ _ gF
 refine ⟨(by show 2≤sizeLine;decide),fun a16 h16=>?_⟩
 obtain ⟨G16,e_,s16,g16⟩:=qAI h16 (.tup [.str "none",.ref a15])
 rw [e_]
 have U:=U.trans s16
 have ge:=s16 _ _ ge
 clear e_ h16
 have gF:=s16 _ _ gF
 have B:=B.snoc (s13.trans (s14.trans (s15.trans s16))) (bv (At.tup g16 (.cons .str (.cons ((At.lst g15 (.cons (At.same ⟨1,dat_lay g14⟩ s15) .nil)).same s16) .nil))) (bad_lays (show 1≤20000 by decide) (List.mem_cons_self ..) (lay_other (by rw [List.length_append,l0_len,List.length_singleton];lia))))
 refine ⟨(by show 3≤sizeLine;decide),fun a17 h17=>?_⟩
 obtain ⟨G17,e_,s17,g17⟩:=qAI h17 (.lst [.ref a9,.ref a12,.ref a16])
 rw [e_]
 have U:=U.trans s17
 have ge:=s17 _ _ ge
 clear e_ h17
 have gF:=s17 _ _ gF
 have B:=B.same s17
 refine ⟨a7,a17,_,_,rfl,rfl,gF,g17,Nat.le_of_lt (qAC (by rw [l1];show 11≤1000000;decide)),fun a18 h18=>?_⟩
 obtain ⟨G18,e_,s18,g18⟩:=qAI h18 (.lst (xs1++[.ref a9,.ref a12,.ref a16]))
 rw [e_]
 have U:=U.trans s18
 have ge:=s18 _ _ ge
 clear e_ h18
 have gF:=s18 _ _ gF
 obtain ⟨xs2,l2,gF,B1⟩:∃ xs2:List V,xs2.length=11∧G18 a18=some (.lst xs2)∧AllBad net wides sizes G18 xs2:=⟨_,by rw [List.length_append,l1];rfl,g18,by have:=B.same s18;simpa only [List.append_assoc,List.cons_append,List.nil_append] using this⟩
 clear B g18
 have B:=B1
 clear B1
 refine hN2 _ _ (cut fun N3 hN3=>?_)
 refine ⟨_,rfl,?_⟩
 refine ⟨_,rfl,_,rfl,e,_,rfl,SqT.of ge,cut_one k2,fun a19 h19=>?_⟩
 rw [qB4]
 obtain ⟨G19,e_,s19,g19⟩:=qAI h19 (.tup ((cutI (l0 sizes) (some 1) none).map oV))
 rw [e_]
 have U:=U.trans s19
 have ge:=s19 _ _ ge
 clear e_ h19
 have gF:=s19 _ _ gF
 refine ⟨(by show 1≤sizeLine;decide),fun a20 h20=>?_⟩
 obtain ⟨G20,e_,s20,g20⟩:=qAI h20 (.lst [.ref a19])
 rw [e_]
 have U:=U.trans s20
 have ge:=s20 _ _ ge
 clear e_ h20
 have gF:=s20 _ _ gF
 refine ⟨(by show 2≤sizeLine;decide),fun a21 h21=>?_⟩
 obtain ⟨G21,e_,s21,g21⟩:=qAI h21 (.tup [.str "none",.ref a20])
 rw [e_]
 have U:=U.trans s21
 have ge:=s21 _ _ ge
 clear e_ h21
 have gF:=s21 _ _ gF
 have B:=B.snoc (s19.trans (s20.trans s21)) (bv (At.tup g21 (.cons .str (.cons ((At.lst g20 (.cons (At.same ⟨1,dat_lay g19⟩ s20) .nil)).same s21) .nil))) (bad_lays (show 1≤20000 by decide) (List.mem_cons_self ..) (lay_other (cut_other k2))))
 refine ⟨(by show 2≤sizeLine;decide),fun a22 h22=>?_⟩
 obtain ⟨G22,e_,s22,g22⟩:=qAI h22 (.tup [.str "none",.non])
 rw [e_]
 have U:=U.trans s22
 have ge:=s22 _ _ ge
 clear e_ h22
 have gF:=s22 _ _ gF
 have B:=B.snoc (s22) (bv (At.tup g22 (.cons .str (.cons .non .nil))) (bad_none trivial fun _ z=>z))
 refine ⟨_,rfl,(by show 2≤sizeLine;decide),fun a23 h23=>?_⟩
 obtain ⟨G23,e_,s23,g23⟩:=qAI h23 (.tup [.str "plan",.ref l])
 rw [e_]
 have U:=U.trans s23
 have ge:=s23 _ _ ge
 clear e_ h23
 have gF:=s23 _ _ gF
 have B:=B.snoc (s23) (bv (At.tup g23 (.cons .str (.cons (Lat U) .nil))) (bad_two rfl noN lenL))
 refine ⟨_,rfl,(by show 2≤sizeLine;decide),fun a24 h24=>?_⟩
 obtain ⟨G24,e_,s24,g24⟩:=qAI h24 (.tup [.non,.ref l])
 rw [e_]
 have U:=U.trans s24
 have ge:=s24 _ _ ge
 clear e_ h24
 have gF:=s24 _ _ gF
 have B:=B.snoc (s24) (bv (At.tup g24 (.cons .non (.cons (Lat U) .nil))) (bad_two rfl rfl lenL))
 refine ⟨(by show 0≤sizeLine;decide),fun a25 h25=>?_⟩
 obtain ⟨G25,e_,s25,g25⟩:=qAI h25 (.lst [])
 rw [e_]
 have U:=U.trans s25
 have ge:=s25 _ _ ge
 clear e_ h25
 have gF:=s25 _ _ gF
 refine ⟨(by show 2≤sizeLine;decide),fun a26 h26=>?_⟩
 obtain ⟨G26,e_,s26,g26⟩:=qAI h26 (.tup [.str "none",.ref a25])
 rw [e_]
 have U:=U.trans s26
 have ge:=s26 _ _ ge
 clear e_ h26
 have gF:=s26 _ _ gF
 have B:=B.snoc (s25.trans s26) (bv (At.tup g26 (.cons .str (.cons ((At.lst g25 .nil).same s26) .nil))) bad_no)
 refine ⟨(by show 5≤sizeLine;decide),fun a27 h27=>?_⟩
 obtain ⟨G27,e_,s27,g27⟩:=qAI h27 (.lst [.ref a21,.ref a22,.ref a23,.ref a24,.ref a26])
 rw [e_]
 have U:=U.trans s27
 have ge:=s27 _ _ ge
 clear e_ h27
 have gF:=s27 _ _ gF
 have B:=B.same s27
 refine ⟨a18,a27,_,_,rfl,rfl,gF,g27,Nat.le_of_lt (qAC (by rw [l2];show 16≤1000000;decide)),fun a28 h28=>?_⟩
 obtain ⟨G28,e_,s28,g28⟩:=qAI h28 (.lst (xs2++[.ref a21,.ref a22,.ref a23,.ref a24,.ref a26]))
 rw [e_]
 clear e_ gF
 have W:=same_rem s28 h28
 have UR:=U.trans W
 have ge:=W _ _ ge
 have gz:=UR _ _ gz
 have gl:=UR _ _ gl
 have LA:=LA.same UR
 have fr:∀ {b:Addr},G28 b=none→H b=none:=fun e=>(U.trans s28).free e
 obtain ⟨xs3,l3,gF,B1⟩:∃ xs3:List V,xs3.length=16∧G28 a28=some (.lst xs3)∧AllBad net wides sizes (rem G28 a28) xs3:=⟨_,by rw [List.length_append,l2];rfl,g28,by have:=B.same W;simpa only [List.append_assoc,List.cons_append,List.nil_append] using this⟩
 clear B g28 Lat W s28 h28 U
 have B:=B1
 clear B1
 refine hN3 _ _ (cut fun N4 hN4=>?_)
 refine ⟨_,rfl,(by show 0≤sizeLine;decide),fun b1 hb1=>?_⟩
 obtain ⟨G29,e_,s29,gF,w29,r1⟩:=qBB hb1 gF (.lst [])
 rw [e_]
 clear e_ hb1
 refine ⟨(by show 1≤sizeLine;decide),fun b2 hb2=>?_⟩
 obtain ⟨G30,e_,s30,gF,w30,r2⟩:=qBB hb2 gF (.lst [.int 0])
 rw [e_]
 clear e_ hb2
 refine ⟨(by show 1≤sizeLine;decide),fun b3 hb3=>?_⟩
 obtain ⟨G31,e_,s31,gF,w31,r3⟩:=qBB hb3 gF (.tup [.int 0])
 rw [e_]
 clear e_ hb3
 refine ⟨(by show 7≤sizeLine;decide),fun b4 hb4=>?_⟩
 obtain ⟨G32,e_,s32,gF,w32,r4⟩:=qBB hb4 gF (.tup [.bl true,.str "a",.int 99,.int (-1),.ref b1,.ref b2,.ref b3])
 rw [e_]
 clear e_ hb4
 have w:=(w29.trans w30).trans (w31.trans w32)
 have UR:=UR.trans w
 have ge:=w _ _ ge
 have gl:=w _ _ gl
 have LA:=LA.same w
 have B:=B.same w
 have fr:∀ b,G32 b=none→H b=none:=fun b e=>fr (s29.free (s30.free (s31.free (s32.free e))))
 have IT:∀ x ∈ [V.bl true,.str "a",.int 99,.int (-1),.ref b1,.ref b2,.ref b3],∃ d,At (rem G32 a28) x d∧d ≠ .none∧belowB (net.length:Int) d=false:=fun x hx=>by
  rcases List.mem_cons.mp hx with rfl | hx
  ·exact ⟨_,At.bl,(fun z=>nomatch z),rfl⟩
  rcases List.mem_cons.mp hx with rfl | hx
  ·exact ⟨_,At.str,(fun z=>nomatch z),rfl⟩
  rcases List.mem_cons.mp hx with rfl | hx
  ·exact ⟨_,At.int,(fun z=>nomatch z),decide_eq_false (by lia)⟩
  rcases List.mem_cons.mp hx with rfl | hx
  ·exact ⟨_,At.int,(fun z=>nomatch z),rfl⟩
  rcases List.mem_cons.mp hx with rfl | hx
  ·exact ⟨_,At.lst ((w30.trans (w31.trans w32)) _ _ r1) .nil,(fun z=>nomatch z),rfl⟩
  rcases List.mem_cons.mp hx with rfl | hx
  ·exact ⟨_,At.lst ((w31.trans w32) _ _ r2) (.cons .int .nil),(fun z=>nomatch z),rfl⟩
  rw [List.mem_singleton.mp hx]
  exact ⟨_,At.tup (w32 _ _ r3) (.cons .int .nil),(fun z=>nomatch z),rfl⟩
 clear w s29 s30 s31 s32 w29 w30 w31 w32 r1 r2 r3
 have l7:([V.bl true,.str "a",.int 99,.int (-1),.ref b1,.ref b2,.ref b3]:List V).length=7:=rfl
 generalize [V.bl true,.str "a",.int 99,.int (-1),.ref b1,.ref b2,.ref b3]=ys at r4 IT l7
 refine ⟨b4,rfl,⟨_,SqT.of (qCU _ _ r4)⟩,for_tup (a:=b4) (xs:=ys) (fun i σ Hc=>∃ (v:Option V) (xs:List V),σ=[some (.ref sz),some (.ref l),some (.ref e),some (.ref a28),v]∧Same (rem G32 a28) (rem Hc a28)∧Hc a28=some (.lst xs)∧AllBad net wides sizes (rem Hc a28) xs∧xs.length=16+i∧(∀ b,Hc b=none→H b=none)) ⟨none,xs3,rfl,.refl _,gF,B,l3,fr⟩ ?_ ?_ ?_⟩
 ·rintro i σ Hc hi ⟨v,xs,rfl,sm,_⟩
  exact SqT.of (qCU _ _ (sm _ _ r4))
 ·clear gF B l3 fr
  refine fun i x σ Hc hx hI_2=>opq fun G_2 hG_2=>?_
  obtain ⟨v,xs,rfl,sm,gF,B,lx,fr⟩:=hI_2
  refine hG_2 ?_
  have hi:=(List.getElem?_eq_some_iff.mp hx).1
  obtain ⟨d,ax,dn,db⟩:=IT x (List.mem_of_getElem? hx)
  refine ⟨_,rfl,.inl ⟨rfl,_,SqL.of gF⟩,_,rfl,_,rfl,(by show 1≤sizeLine;decide),fun u1 hu1=>?_⟩
  obtain ⟨G1,e_,s1,gF,w1,r1⟩:=qBB hu1 gF (.tup [x])
  rw [e_]
  clear e_ hu1
  refine ⟨_,rfl,_,rfl,e,_,rfl,SqT.of (qCU _ _ (w1 _ _ (sm _ _ ge))),cut_one k2,fun u2 hu2=>?_⟩
  rw [qB4]
  obtain ⟨G2,e_,s2,gF,w2,r2⟩:=qBB hu2 gF (.tup ((cutI (l0 sizes) (some 1) none).map oV))
  rw [e_]
  clear e_ hu2
  have r1:=w2 _ _ r1
  refine ⟨u1,u2,_,_,rfl,rfl,SqT.of (qCU _ _ r1),SqT.of (qCU _ _ r2),.inl ⟨by simp,qCU _ _ r1⟩,Nat.le_of_lt (qAC (by rw [List.length_map,List.length_singleton];have:=(cutI_sub (xs:=l0 sizes) (lo:=some 1) (hi:=none)).2;rw [l0_len] at this;lia)),fun u3 G3 s3 g3=>?_⟩
  have gF:=s3 _ _ gF
  have w3:=rem_same (a:=a28) s3
  have r3:rem G3 a28 u3=some (.tup ([x]++(cutI (l0 sizes) (some 1) none).map oV)):=(rem_in (ne_of g3 gF fun z=>nomatch z)).trans g3
  clear g3
  refine ⟨(by show 1≤sizeLine;decide),fun u4 hu4=>?_⟩
  obtain ⟨G4,e_,s4,gF,w4,r4⟩:=qBB hu4 gF (.lst [.ref u3])
  rw [e_]
  clear e_ hu4
  have w:=sm.trans ((w1.trans w2).trans (w3.trans w4))
  have gl4:=w _ _ gl
  refine ⟨l,u4,_,_,rfl,rfl,qCU _ _ gl4,qCU _ _ r4,Nat.le_of_lt (qAC (by rw [List.length_map,List.length_singleton];lia)),fun u5 hu5=>?_⟩
  obtain ⟨G5,e_,s5,gF,w5,r5⟩:=qBB hu5 gF (.lst (rs.map V.ref++[.ref u3]))
  rw [e_]
  clear e_ hu5
  refine ⟨(by show 2≤sizeLine;decide),fun u6 hu6=>?_⟩
  obtain ⟨G6,e_,s6,gF,w6,r6⟩:=qBB hu6 gF (.tup [.str "none",.ref u5])
  rw [e_]
  clear e_ hu6
  have W:=w.trans (w5.trans w6)
  have fr6:∀ b,G6 b=none→H b=none:=fun b e=>fr b (s1.free (s2.free (s3.free (s4.free (s5.free (s6.free e))))))
  have t3:At (rem G6 a28) (.ref u3) (.tuple (d::(cutI (l0 sizes) (some 1) none).map laD)):=At.tup ((w4.trans (w5.trans w6)) _ _ r3) (.cons (ax.same W) at_items)
  have t5:=At.lst ((w6) _ _ r5) (Paired.snoc (At.lays (LA.same W)) t3)
  have b6:=bv (At.tup r6 (.cons .str (.cons t5 .nil))) (bad_lays (by rw [List.length_append,List.length_map,List.length_singleton];lia) (List.mem_append_right _ (List.mem_singleton.mpr rfl)) (lay_first dn db sne))
  have B6:=B.snoc ((w1.trans w2).trans ((w3.trans w4).trans (w5.trans w6))) b6
  clear s1 s2 s3 s4 s5 s6 w1 w2 w3 w4 w5 w6 r1 r2 r3 r4 r5 r6 t3 t5 b6 B w
  refine ⟨a28,xs,_,rfl,rfl,gF,qAC (by lia),?_⟩
  exact ⟨_,xs++[.ref u6],rfl,by rw [rem_upd];exact W,qA1,by rw [rem_upd];exact B6,by rw [List.length_append,List.length_singleton,lx];rfl,fun b e=>fr6 b (by
   by_cases c:b=a28
   ·rw [c,qA1] at e;cases e
   ·rwa [qA9 c] at e)⟩
 ·clear gF B l3 fr IT
  refine fun σ Hc hI_3=>opq fun G_3 hG_3=>?_
  obtain ⟨v,xs,rfl,sm,gF,B,lx,fr⟩:=hI_3
  refine hG_3 ?_
  refine hN4 _ _ ?_
  have U:=UR.trans (sm.trans qCU)
  have gl:=qCU _ _ (sm _ _ gl)
  have LA:=(LA.same sm).same qCU
  have B:=B.same qCU
  clear ge gz fr r4 sm UR
  refine ⟨_,rfl,_,rfl,(by show 3≤sizeLine;decide),fun c1 hc1=>?_⟩
  obtain ⟨J1,e_,s1,g1⟩:=qAI hc1 (.tup [.str "plan",.ref l,.int 0])
  rw [e_]
  clear e_
  have U:=U.trans s1
  have gF:=s1 _ _ gF
  have B:=B.snoc s1 (bv (At.tup g1 (.cons .str (.cons ((At.lst gl (At.lays LA)).same s1) (.cons .int .nil)))) (qD4 rfl fun _=>lays_no_plan Lne (by lia)))
  refine ⟨(by show 3≤sizeLine;decide),fun c2 hc2=>?_⟩
  obtain ⟨J2,e_,s2,g2⟩:=qAI hc2 (.tup [.str "plan",.non,.int 0])
  rw [e_]
  clear e_
  have U:=U.trans s2
  have gF:=s2 _ _ gF
  have B:=B.snoc s2 (bv (At.tup g2 (.cons .str (.cons .non (.cons .int .nil)))) (qD4 rfl fun _=>⟨rfl,trivial,rfl⟩))
  refine ⟨(by show 1≤sizeLine;decide),fun c3 hc3=>?_⟩
  obtain ⟨J3,e_,s3,g3⟩:=qAI hc3 (.lst [.non])
  rw [e_]
  clear e_
  have U:=U.trans s3
  have gF:=s3 _ _ gF
  refine ⟨(by show 3≤sizeLine;decide),fun c4 hc4=>?_⟩
  obtain ⟨J4,e_,s4,g4⟩:=qAI hc4 (.tup [.str "plan",.ref c3,.int 0])
  rw [e_]
  clear e_
  have U:=U.trans s4
  have gF:=s4 _ _ gF
  have B:=B.snoc (s3.trans s4) (bv (At.tup g4 (.cons .str (.cons ((At.lst g3 (.cons .non .nil)).same s4) (.cons .int .nil)))) (qD4 rfl fun _=>⟨rfl,(by show 1≤20000;decide),rfl⟩))
  refine ⟨(by show 0≤sizeLine;decide),fun c5 hc5=>?_⟩
  obtain ⟨J5,e_,s5,g5⟩:=qAI hc5 (.tup [])
  rw [e_]
  clear e_
  have U:=U.trans s5
  have gF:=s5 _ _ gF
  refine ⟨(by show 1≤sizeLine;decide),fun c6 hc6=>?_⟩
  obtain ⟨J6,e_,s6,g6⟩:=qAI hc6 (.lst [.ref c5])
  rw [e_]
  clear e_
  have U:=U.trans s6
  have gF:=s6 _ _ gF
  refine ⟨(by show 3≤sizeLine;decide),fun c7 hc7=>?_⟩
  obtain ⟨J7,e_,s7,g7⟩:=qAI hc7 (.tup [.str "plan",.ref c6,.int 0])
  rw [e_]
  clear e_
  have U:=U.trans s7
  have gF:=s7 _ _ gF
  have B:=B.snoc (s5.trans (s6.trans s7)) (bv (At.tup g7 (.cons .str (.cons ((At.lst g6 (.cons ((At.tup g5 .nil).same s6) .nil)).same s7) (.cons .int .nil)))) (qD4 rfl fun _=>⟨rfl,(by show 1≤20000;decide),rfl⟩))
  refine ⟨(by show 4≤sizeLine;decide),fun c8 hc8=>?_⟩
  obtain ⟨J8,e_,s8,g8⟩:=qAI hc8 (.lst [.ref c1,.ref c2,.ref c4,.ref c7])
  rw [e_]
  clear e_
  have U:=U.trans s8
  have gF:=s8 _ _ gF
  refine ⟨a28,c8,_,_,rfl,rfl,gF,g8,Nat.le_of_lt (qAC (by rw [lx,l7];show 16+7+4≤1000000;lia)),fun c9 hc9=>?_⟩
  have fr9:=U.free hc9
  obtain ⟨J9,e_,s9,g9⟩:=qAI hc9 (.lst (xs++[.ref c1,.ref c2,.ref c4,.ref c7]))
  rw [e_]
  clear e_
  have U:=U.trans s9
  have gF:=s9 _ _ gF
  have B:=B.same (s8.trans s9)
  exact q c9 _ _ U fr9 g9 (by simpa only [List.append_assoc,List.cons_append,List.nil_append] using B)
theorem sc_law:FnScope ["_law_script","_law_state","_law_turn","_law_net_here","_law_wides","_law_sizes","_law_asked_here","_law_come","_law_again","_law_some","_law_held","_law_thing"] ["_law_script"] (defScope s_law):=sc_mk
theorem ok_law (F:Fun K "law" "law" s_law f fd) (C_Lbegin:Clb P w K mg base 1 f_Lbegin fd_Lbegin "_law_begin" ["_law_script"] (spBegin K)) (C_Lthere:Clb P w K mg base 4 f_Lthere fd_Lthere "_law_there" ["_law_state"] spThereK) (C_Ltake:Clb P w K mg base 1 f_Ltake fd_Ltake "_law_take" ["_law_state","_law_many"] spTake) (C_Lasked:Clb P w K mg base 2 f_Lasked fd_Lasked "_law_asked" ["_law_state","_law_net_here"] spAsked) (C_Lcome_there:Clb P w K mg base 2 f_Lcome_there fd_Lcome_there "_law_come_there" ["_law_net_here","_law_wides","_law_sizes"] spComeD) (C_Lothers:Clb P w K mg base 3 f_Lothers fd_Lothers "_law_others" ["_law_state","_law_net_here","_law_wides","_law_sizes","_law_come"] spOthersO) (C_Lshown_right:Clb P w K mg base 7 f_Lshown_right fd_Lshown_right "_law_shown_right" ["_law_net_here","_law_wides","_law_sizes","_law_asked_here","_law_thing"] spShownO) (C_Lthings:Clb P w K mg base 1 f_Lthings fd_Lthings "_law_things" ["_law_sizes","_law_some"] spThingsO) (C_shows_there:Clb P w K mg base 6 f_shows_there fd_shows_there "shows_there" ["net","wides","sizes","asked","thing"] spShowsD)
  (z_range:mg "range" = none) (z_list:mg "list" = none):FnOk P w K mg base CX0 8 f fd ["_law_script"] (spLaw K):=by
 refine F.okA sc_law fun cdv A outer s H vs Q E hr h=>?_
 obtain ⟨sc,ns,rfl,hS,h63,q⟩:=h
 have hu0:=hr.units0
 refine ⟨_,(qA4 (qAB (i:=1) sc_law.nd rfl (Or.inl rfl) (pe_cl C_Lbegin hr rfl (qA0 (pv 0) qA2))) (qA4 (qB5 PassesOwn.never rfl (qAO rfl z_range (qA0 qA7 qA2)) (qAN (i:=2) sc_law.nd rfl (Or.inl rfl)) (qA4 (ps_asg (pe_cl C_Lthere hr rfl (qA0 (pv 1) qA2)) (pg_tup rfl (qB2 (qAN (i:=3) sc_law.nd rfl (Or.inl rfl)) (qB2 (qAN (i:=4) sc_law.nd rfl (Or.inl rfl)) (qB2 (qAN (i:=5) sc_law.nd rfl (Or.inl rfl)) pgs_nil))))) (qA4 (ps_par (i:=3) (j:=4) rfl sc_law.nd rfl rfl (by decide) rfl rfl (qA0 (qB3 sl_tupV (pv 3) qBE (qB9 qA7)) (qA0 (qB3 sl_tupV (pv 4) qBE (qB9 qA7)) qA2)) rfl) (qA4 (qAB (i:=5) sc_law.nd rfl (Or.inl rfl) (qB3 sl_tupV (pe_op qBR (pv 5) (pv 5)) qBE (qB9 (pe_op qBQ qA7 (pe_cl C_Ltake hr rfl (qA0 (pv 1) (qA0 qA7 qA2))))))) (qA4 (qAB (i:=6) sc_law.nd rfl (Or.inl rfl) (pe_cl C_Lasked hr rfl (qA0 (pv 1) (qA0 (pv 3) qA2)))) (qA4 (qAB (i:=7) sc_law.nd rfl (Or.inl rfl) (pe_cl C_Lcome_there hr rfl (qA0 (pv 3) (qA0 (pv 4) (qA0 (pv 5) qA2))))) (qA4 (qB5 PassesOwn.never rfl (qAO rfl z_range (qA0 qA7 qA2)) (qAN (i:=8) sc_law.nd rfl (Or.inl rfl)) (qA4 (qAB (i:=9) sc_law.nd rfl (Or.inl rfl) (pe_cl C_Lothers hr rfl (qA0 (pv 1) (qA0 (pv 3) (qA0 (pv 4) (qA0 (pv 5) (qA0 (pv 7) qA2))))))) (qA4 (qAB (i:=10) sc_law.nd rfl (Or.inl rfl) (qAD qC8 rfl z_list qBS (qA0 (pv 9) qA2))) (qA4 (ps_if (PW.pt (pw_or (qCV (qBT (pe_cl C_Lshown_right hr rfl (qA0 (pv 3) (qA0 (pv 4) (qA0 (pv 5) (qA0 (pv 6) (qA0 (qAJ (qA0 qAT (qA0 (pv 9) qA2))) qA2)))))))) (pw_or1 (qAF (op_ne_refsL hu0) (pv 9) (pv 10) (nomark _))))) (qA5 (qAE pe_bl)) qAH) (qA5 (qAB (i:=6) sc_law.nd rfl (Or.inl rfl) (pe_cl C_Lasked hr rfl (qA0 (pv 1) (qA0 (pv 3) qA2))))))))) (qA5 (qB5 PassesOwn.never rfl (qB1 (pe_cl C_Lthings hr rfl (qA0 (pv 5) (qA0 (qAD (qCI rfl) rfl z_list qBS (qA0 (pv 7) qA2)) qA2)))) (qAN (i:=11) sc_law.nd rfl (Or.inl rfl)) (qA5 (ps_if (qAF op_isnotB (pe_cl C_shows_there hr rfl (qA0 (pv 3) (qA0 (pv 4) (qA0 (pv 5) (qA0 (pv 6) (qA0 (pv 11) qA2)))))) pe_bl (nomark _)) (qA5 (qAE pe_bl)) qAH))))))))))) (qA5 (qAE pe_bl)))),?_⟩
 try dsimp only [Cx.nox,Cx.wish,cxOf]
 refine ⟨_,rfl,sc,ns,rfl,hS,h63,fun d c ms H1 S1 sm0 hd0 hc0=>?_⟩
 refine ⟨2,rfl,by decide,by decide,qB8 (lo:=0) (n:=2) (fun i σ Hc=>∃ (t:Int) (ns:List Int) (v2 v3 v4 v5 v6 v7 v8 v9 v10 v11:Option V),σ=[some (.ref sc),some (.ref d),v2,v3,v4,v5,v6,v7,v8,v9,v10,v11]∧StAt Hc d c t ns∧t≤20000 * i)
  ⟨0,ms,none,none,none,none,none,none,none,none,none,none,rfl,S1,by lia⟩ ?_ ?_⟩
 ·clear S1 sm0 hd0 hc0 hS
  refine fun i σ Hc hi hI_1=>opq fun G_1 hG_1=>?_
  obtain ⟨t,ns,v2,v3,v4,v5,v6,v7,v8,v9,v10,v11,rfl,S,tb⟩:=hI_1
  refine hG_1 ?_
  refine ⟨_,rfl,d,c,t,ns,rfl,S,(by show t≤1000000000 - 20000;lia),fun T0 a0 wd0 sz0 net0 wides0 sizes0 t2 ns2 H2 S2 g1 g2 K2 gT T2=>?_⟩
  clear K2 S
  refine ⟨T0,_,rfl,SqT.of gT,rfl,_,_,rfl,_,_,rfl,_,_,rfl,rfl,?_⟩
  obtain ⟨rs0,ga0,NL0⟩:=id T2.net_
  refine ⟨_,rfl,_,rfl,a0,_,rfl,ga0,fun a H3 s3 ga=>?_⟩
  rw [qB4,show (5:Int)=((5:Nat):Int) from rfl,cutI_to] at ga
  refine ⟨_,rfl,_,rfl,wd0,_,rfl,s3 _ _ T2.wides_,fun wd H4 s4 gwd=>?_⟩
  rw [qB4,show (5:Int)=((5:Nat):Int) from rfl,cutI_to] at gwd
  have ga:=s4 _ _ ga
  have w4:=s3.trans s4
  have T4:=T2.same w4
  have NL4:=NL0.same fun r zs e=>w4 _ _ e
  have S4:=S2.same w4
  clear s3 s4 w4 T2 NL0 S2 ga0 gT
  refine ⟨_,_,rfl,?_⟩
  refine ⟨_,rfl,_,rfl,sz0,sz0,_,_,rfl,rfl,SqT.of T4.sizes_,SqT.of T4.sizes_,.inl ⟨(fun z=>by have:=T4.k1;rw [List.map_eq_nil_iff.mp z] at this;exact absurd this (by decide)),T4.sizes_⟩,Nat.le_of_lt (qAC (by have:=T4.k5;rw [List.length_map];lia)),fun u H5 s5 gu=>?_⟩
  have K5:=S4.same s5
  have T5:=T4.same s5
  have ga:=s5 _ _ ga
  have gwd:=s5 _ _ gwd
  have NL5:=NL4.same fun r zs e=>s5 _ _ e
  clear S4 T4 NL4 s5
  refine ⟨_,rfl,d,c,t2,ns2,2,rfl,K5,(by show t2≤1000000000;lia),by decide,by decide,fun k ns3 H6 k0 k1 S6 K6=>?_⟩
  obtain ⟨k,rfl⟩:=Int.eq_ofNat_of_zero_le k0
  have T6:=T5.keep K5 K6
  have NL6:=NL5.keep (fun r zs e=>K5.tup e) K6
  have ga:=K6 _ _ ga (K5.tup ga).1 (K5.tup ga).2
  have gwd:=K6 _ _ gwd (K5.tup gwd).1 (K5.tup gwd).2
  have gu:=K6 _ _ gu (K5.tup gu).1 (K5.tup gu).2
  clear K5 T5 NL5 K6
  refine ⟨_,_,rfl,rfl,_,rfl,u,_,rfl,gu,fun sz H7 s7 gsz=>?_⟩
  rw [← List.map_append,qB4,show (2:Int)+(k:Int)=((2+k:Nat):Int) by lia,cutI_to] at gsz
  obtain ⟨sizes,es⟩:∃ l,l=(sizes0++sizes0).take (2+k):=⟨_,rfl⟩
  rw [← es] at gsz
  have k10:=T6.k1
  have lsz:sizes.length=min (2+k) (sizes0.length+sizes0.length):=by rw [es,List.length_take,List.length_append]
  have k2:2≤sizes.length:=by lia
  have k3:sizes.length≤3:=by lia
  have T7:TKit H7 a wd sz (net0.take 5) (wides0.take 5) sizes:=(T6.same s7).cut (NL6.same fun r zs e=>s7 _ _ e) (s7 _ _ ga) (s7 _ _ gwd) gsz (by lia) (by lia) fun x hx=>T6.s9 x ((List.mem_append.mp (List.mem_of_mem_take (es ▸ hx))).elim id id)
  have n5:(net0.take 5).length≤5:=by rw [List.length_take];lia
  have S7:=S6.same s7
  generalize net0.take 5=net at T7 n5
  generalize wides0.take 5=wides at T7
  clear T6 NL6 ga gwd gu gsz es lsz k10 S6 s7 k0
  have n1:=T7.n1
  refine ⟨_,rfl,_,rfl,d,c,t2+1,ns3,a,net,rfl,S7,(by show t2+1≤1000000000 - 100;lia),T7.net_,T7.wf,n1,by lia,fun ta ws t3 ns4 H8 S8 g3 g4 K8 gta ri l1=>?_⟩
  have T8:=T7.keep S7 K8
  have lws:=ri.len
  have asl:ws.length≤1000:=by lia
  clear T7 S7 K8
  refine ⟨_,rfl,_,rfl,_,rfl,a,wd,sz,net,wides,sizes,rfl,T8,fun dd ks f H9 s9 fdd hdd CM=>?_⟩
  have T9:=T8.same s9
  have S9:=S8.same s9
  have gta:=s9 _ _ gta
  clear T8 S8 s9 fdd
  have lkc:(kvC ks f).length≤216:=by rw [kvC_len];exact lk_count CM.nd CM.lk n5 k3
  have kne:=kvC_ne (f:=f) CM.ne
  have kks:=kvC_keys (f:=f) CM.lk
  refine cut fun N0 hN0=>hN0 _ _ (cut fun N1 hN1=>?_)
  refine ⟨3,rfl,by decide,by decide,qB8 (lo:=0) (n:=3) (fun j σ Hc=>∃ (t:Int) (ns:List Int) (ta:Addr) (ws:List Int) (v8 v9 v10 v11:Option V),σ=[some (.ref sc),some (.ref d),some (.int (0+(i:Int))),some (.ref a),some (.ref wd),some (.ref sz),some (.ref ta),some (.ref dd),v8,v9,v10,v11]∧StAt Hc d c t ns∧t≤20000 * i+1000+5000 * j∧TKit Hc a wd sz net wides sizes∧Hc ta=some (.tup (ws.map V.int))∧ws.length≤1000∧Hc dd=some (.dT (kvC ks f)))
   ⟨t3,ns4,ta,ws,v8,v9,v10,v11,rfl,S9,by lia,T9,gta,asl,hdd⟩ ?_ ?_⟩
  ·clear S9 T9 gta asl hdd ri l1 lws
   refine fun j σ Hc hj hI_2=>opq fun G_2 hG_2=>?_
   obtain ⟨t,ns,ta,ws,v8,v9,v10,v11,rfl,S,tb',T,gta,asl,hdd⟩:=hI_2
   refine hG_2 ?_
   refine ⟨_,rfl,_,rfl,_,rfl,_,rfl,_,rfl,d,c,a,wd,sz,dd,t,ns,net,wides,sizes,_,rfl,S,(by show t≤1000000000 - 10000;lia),T,n5,k2,k3,hdd,kne,kks,lkc,fun l rs t' ns' H1 S1 g1 g2 K1 fl gl LP len=>?_⟩
   have T1:=T.keep S K1
   have gta:=K1 _ _ gta (S.tup gta).1 (S.tup gta).2
   have hdd:=K1 _ _ hdd (ne_of hdd S.dict (by intro z;cases z)) (ne_of hdd S.list (by intro z;cases z))
   clear T S K1
   refine ⟨_,rfl,l,_,rfl,.inl (SqL.of gl),fun l2 h2=>?_⟩
   have s2:=qA3 h2 (.lst (rs.map V.ref))
   have gl2:(upd H1 l2 (.lst (rs.map V.ref))) l2=some (.lst (rs.map V.ref)):=qA1
   have S2:=S1.same s2
   have T2:=T1.same s2
   have gl:=s2 _ _ gl
   have gta:=s2 _ _ gta
   have hdd:=s2 _ _ hdd
   obtain ⟨L,LA,LL⟩:=(LP.same s2).lay
   generalize upd H1 l2 (.lst (rs.map V.ref))=H2 at gl2 S2 T2 gl gta hdd LA ⊢
   clear s2 S1 T1 h2 fl
   have lL:rs.length=L.length:=Paired.length LA
   refine ⟨_,rfl,_,rfl,_,rfl,_,rfl,_,rfl,(by show 2≤sizeLine;decide),fun T h3=>?_⟩
   have s3:=qA3 h3 (.tup [.str "none",.ref l])
   refine ⟨a,wd,sz,ta,T,net,wides,sizes,ws,L,rfl,T2.same s3,k3,s3 _ _ gta,asl,⟨l,rs,qA1,s3 _ _ gl,LA.same s3⟩,LL,by lia,fun H4 s4=>⟨_,rfl,?_⟩⟩
   have s4:=s3.trans s4
   have S4:=S2.same s4
   have T4:=T2.same s4
   have gl:=s4 _ _ gl
   have gl2:=s4 _ _ gl2
   have hdd:=s4 _ _ hdd
   clear s3 s4 S2 T2 gta LA h3
   refine iteF ?_
   refine ⟨_,rfl,_,rfl,l,l2,rs,rfl,rfl,SqL.of gl,SqL.of gl2,_,rfl,?_⟩
   refine ite2 (fun ck=>absurd ck (by simp)) (fun _=>?_)
   refine ⟨_,rfl,_,rfl,d,c,t',ns',a,net,rfl,S4,(by show t'≤1000000000 - 100;lia),T4.net_,T4.wf,n1,by lia,fun ta ws t5 ns5 H5 S5 g5 g6 K5 gta ri l1=>?_⟩
   have lws:=ri.len
   exact ⟨t5,ns5,ta,ws,_,_,_,_,rfl,S5,by lia,T4.keep S4 K5,gta,by lia,K5 _ _ hdd (ne_of hdd S4.dict (by intro z;cases z)) (ne_of hdd S4.list (by intro z;cases z))⟩
  ·clear S9 T9 gta asl hdd ri l1 lws
   refine fun σ Hc hI_3=>opq fun G_3 hG_3=>?_
   obtain ⟨t,ns,ta,ws,v8,v9,v10,v11,rfl,S,tb',T,gta,asl,hdd⟩:=hI_3
   refine hG_3 ?_
   refine hN1 _ _ ?_
   refine ⟨_,rfl,_,rfl,dd,_,rfl,hdd,by lia,fun b rs hb KA=>?_⟩
   have s1:=qA3 hb (.lst (rs.map V.ref))
   obtain ⟨L,LA,LL⟩:=(keys_lsp KA kks).lay
   have lk':=Paired.length KA
   have lL:rs.length=L.length:=Paired.length LA
   have Lne:L ≠ []:=fun z=>by
    rw [z] at lL
    exact kne (List.eq_nil_of_length_eq_zero (by rw [← lk',lL];rfl))
   refine ⟨sz,b,net,wides,sizes,rs,L,rfl,s1 _ _ T.sizes_,n5,k2,k3,qA1,LA.same s1,Lne,by lia,fun l' xs H2 s2 fl gl AB=>?_⟩
   have s2:=s1.trans s2
   have S2:=S.same s2
   have T2:=T.same s2
   have gta:=s2 _ _ gta
   clear S T hdd s1 s2 LA KA hb
   refine ⟨l',rfl,⟨_,SqL.of gl⟩,qCS (a:=l') (xs:=xs) (fun k σ Hc=>∃ (v11:Option V),σ=[some (.ref sc),some (.ref d),some (.int (0+(i:Int))),some (.ref a),some (.ref wd),some (.ref sz),some (.ref ta),some (.ref dd),v8,v9,v10,v11]∧Same H2 Hc)
    ⟨v11,rfl,.refl _⟩ (fun k σ Hc _ hP=>by obtain ⟨_,_,sm⟩:=hP;exact SqL.of (sm _ _ gl)) ?_ ?_⟩
   ·refine fun k x σ Hc hx hI_4=>opq fun G_4 hG_4=>?_
    obtain ⟨v11,rfl,sm⟩:=hI_4
    obtain ⟨dx,⟨n,dn⟩,ok,no⟩:=AB x (List.mem_of_getElem? hx)
    refine hG_4 ?_
    refine ⟨_,rfl,_,rfl,_,rfl,_,rfl,_,rfl,a,wd,sz,ta,net,wides,sizes,ws,x,n,dx,rfl,T2.same sm,sm _ _ gta,asl,dn.same sm,ok,fun bb H3 s3 ib=>?_⟩
    have e:bb=false:=by
     cases bb with
     | false=>rfl
     | true=>exact absurd (ib.mp rfl) (no _)
    refine ⟨_,_,rfl,rfl,_,rfl,?_⟩
    subst e
    refine ite2 (fun ck=>absurd ck (by simp)) (fun _=>?_)
    exact ⟨_,rfl,sm.trans s3⟩
   ·refine fun σ Hc hI_5=>opq fun G_5 hG_5=>?_
    obtain ⟨v11,rfl,sm⟩:=hI_5
    refine hG_5 ?_
    exact ⟨t,ns,_,_,_,_,_,_,_,_,_,_,rfl,S2.same sm,by lia⟩
 ·rintro σ Hc _
  exact q Hc
end
theorem all_mk {l:PySem.W.OpenLaw} {w:World} {K:PySem.W.Frag} {h:Heap} {mg:Str→Option Value} {fa f_is_number f_is_below f_is_pair f_has_all f_fault_of_do f_fault_there f_layout_behind f_moves_there f_is_move_there f_does_there f_is_layout f_never_there f_shows_there f_Lbegin f_Ltake f_Lsome_needs f_Ltree_net f_Lnet f_Lasked f_Lthere f_Lfault f_Lput f_Lall_moves f_Lcome_there f_Lhas_all f_Lfits f_Ljudged f_Lshown_right f_Lmixed f_Lone_more f_Lclosed f_Lall_fitting f_Lothers f_Lthings f_law:Addr} (X:K.In h) (G:h.Ns mainGlobals mg) (hfa:mg "law" = some (.ref fa))
  {od_law an_law:Option Addr} {sl_law:Array (Option Value)} {oc_law kV_law dc_law pm_law cd_law ct_law:Value}
  (T_is_number:Tf K "is_number" qCK f_is_number)
  (T_is_below:Tf K "is_below" qD6 f_is_below)
  (T_is_pair:Tf K "is_pair" s_is_pair f_is_pair)
  (T_has_all:Tf K "has_all" s_has_all f_has_all)
  (T_fault_of_do:Tf K "fault_of_do" s_fault_of_do f_fault_of_do)
  (T_fault_there:Tf K "fault_there" qBZ f_fault_there)
  (T_layout_behind:Tf K "layout_behind" qBC f_layout_behind)
  (T_moves_there:Tf K "moves_there" qBY f_moves_there)
  (T_is_move_there:Tf K "is_move_there" qBD f_is_move_there)
  (T_does_there:Tf K "does_there" qC5 f_does_there)
  (T_is_layout:Tf K "is_layout" qCL f_is_layout)
  (T_never_there:Tf K "never_there" qBX f_never_there)
  (T_shows_there:Tf K "shows_there" qBW f_shows_there)
  (T_Lbegin:Tf K "_law_begin" s_Lbegin f_Lbegin)
  (T_Ltake:Tf K "_law_take" s_Ltake f_Ltake)
  (T_Lsome_needs:Tf K "_law_some_needs" s_Lsome_needs f_Lsome_needs)
  (T_Ltree_net:Tf K "_law_tree_net" s_Ltree_net f_Ltree_net)
  (T_Lnet:Tf K "_law_net" s_Lnet f_Lnet)
  (T_Lasked:Tf K "_law_asked" s_Lasked f_Lasked)
  (T_Lthere:Tf K "_law_there" s_Lthere f_Lthere)
  (T_Lfault:Tf K "_law_fault" s_Lfault f_Lfault)
  (T_Lput:Tf K "_law_put" s_Lput f_Lput)
  (T_Lall_moves:Tf K "_law_all_moves" qC6 f_Lall_moves)
  (T_Lcome_there:Tf K "_law_come_there" qC0 f_Lcome_there)
  (T_Lhas_all:Tf K "_law_has_all" qD7 f_Lhas_all)
  (T_Lfits:Tf K "_law_fits" s_Lfits f_Lfits)
  (T_Ljudged:Tf K "_law_judged" s_Ljudged f_Ljudged)
  (T_Lshown_right:Tf K "_law_shown_right" qBK f_Lshown_right)
  (T_Lmixed:Tf K "_law_mixed" s_Lmixed f_Lmixed)
  (T_Lone_more:Tf K "_law_one_more" qCM f_Lone_more)
  (T_Lclosed:Tf K "_law_closed" s_Lclosed f_Lclosed)
  (T_Lall_fitting:Tf K "_law_all_fitting" qBL f_Lall_fitting)
  (T_Lothers:Tf K "_law_others" s_Lothers f_Lothers)
  (T_Lthings:Tf K "_law_things" qD0 f_Lthings)
  (a_law:PySem.W.nsIn K mainGlobals "law" = some (some (.ref f_law))) (l_law:K.lookup f_law=some ⟨oc_law,od_law,.func (PySem.W.fnOf "law" "law" (defArgs s_law) (defBody s_law) (defScope s_law) .none kV_law dc_law pm_law an_law cd_law ct_law),sl_law⟩) (c_law:PySem.W.codeIn K cd_law "law" = true) (k_law:PySem.W.keepIn K (.ref f_law)=true)
  (Z:Zs K ["all","any","bool","dict","divmod","enumerate","int","isinstance","len","list","max","min","range","set","sorted","tuple","zip"])
  : ∃ fd:FuncData,(∀ (s:Shared) (v:Value),BindsTo s fd ⟨[v],[]⟩ [("_law_script",v)])∧∀ base:Heap,K.In base→base.Ns mainGlobals mg→FnOk l.prog w K mg base CX0 8 fa fd ["_law_script"] (spLaw K):=by
 have e:=hfa.symm.trans (PySem.W.mg_of X G a_law)
 cases e
 have F_law:=fun_mk (st:=s_law) l_law c_law k_law
 obtain ⟨zz_all,zz_any,zz_bool,zz_dict,zz_divmod,zz_enumerate,zz_int,zz_isinstance,zz_len,zz_list,zz_max,zz_min,zz_range,zz_set,zz_sorted,zz_tuple,zz_zip,_⟩:=Z.mg X G
 refine ⟨PySem.W.fnOf "law" "law" (defArgs s_law) (defBody s_law) (defScope s_law) .none kV_law dc_law pm_law an_law cd_law ct_law,fun s v=>.of_eq rfl,fun base _ _=>?_⟩
 have B:Bs l.prog w base:=⟨rfl,rfl,rfl⟩
 obtain ⟨_,C_is_number⟩:=T_is_number.c X G B fun _ F=>by apply ok_is_number <;> assumption
 obtain ⟨_,C_is_below⟩:=T_is_below.c X G B fun _ F=>by apply ok_is_below <;> assumption
 obtain ⟨_,C_is_pair⟩:=T_is_pair.c X G B fun _ F=>by apply ok_is_pair <;> assumption
 obtain ⟨_,C_has_all⟩:=T_has_all.c X G B fun _ F=>by apply ok_has_all <;> assumption
 obtain ⟨_,C_fault_of_do⟩:=T_fault_of_do.c X G B fun _ F=>by apply ok_fault_of_do <;> assumption
 obtain ⟨_,C_fault_there⟩:=T_fault_there.c X G B fun _ F=>by apply ok_fault_there <;> assumption
 obtain ⟨_,C_layout_behind⟩:=T_layout_behind.c X G B fun _ F=>by apply ok_layout_behind <;> assumption
 obtain ⟨_,C_moves_there⟩:=T_moves_there.c X G B fun _ F=>by apply ok_moves_there <;> assumption
 obtain ⟨_,C_is_move_there⟩:=T_is_move_there.c X G B fun _ F=>by apply ok_is_move_there <;> assumption
 obtain ⟨_,C_does_there⟩:=T_does_there.c X G B fun _ F=>by apply ok_does_there <;> assumption
 obtain ⟨_,C_is_layout⟩:=T_is_layout.c X G B fun _ F=>by apply ok_is_layout <;> assumption
 obtain ⟨_,C_never_there⟩:=T_never_there.c X G B fun _ F=>by apply ok_never_there <;> assumption
 obtain ⟨_,C_shows_there⟩:=T_shows_there.c X G B fun _ F=>by apply ok_shows_there <;> assumption
 obtain ⟨_,C_Lbegin⟩:=T_Lbegin.c X G B fun _ F=>by apply ok_Lbegin <;> assumption
 obtain ⟨_,C_Ltake⟩:=T_Ltake.c X G B fun _ F=>by apply ok_Ltake <;> assumption
 obtain ⟨_,C_Lsome_needs⟩:=T_Lsome_needs.c X G B fun _ F=>by apply ok_Lsome_needs <;> assumption
 obtain ⟨_,C_Ltree_net⟩:=T_Ltree_net.c X G B fun _ F=>by apply ok_Ltree_net <;> assumption
 obtain ⟨_,C_Lnet⟩:=T_Lnet.c X G B fun _ F=>by apply ok_Lnet <;> assumption
 obtain ⟨_,C_Lasked⟩:=T_Lasked.c X G B fun _ F=>by apply ok_Lasked <;> assumption
 obtain ⟨_,C_Lthere⟩:=T_Lthere.c X G B fun _ F=>by apply ok_Lthere <;> assumption
 obtain ⟨_,C_Lfault⟩:=T_Lfault.c X G B fun _ F=>by apply ok_Lfault <;> assumption
 obtain ⟨_,C_Lput⟩:=T_Lput.c X G B fun _ F=>by apply ok_Lput <;> assumption
 obtain ⟨_,C_Lall_moves⟩:=T_Lall_moves.c X G B fun _ F=>by apply ok_Lall_moves <;> assumption
 obtain ⟨_,C_Lcome_there⟩:=T_Lcome_there.c X G B fun _ F=>by apply ok_Lcome_there <;> assumption
 obtain ⟨_,C_Lhas_all⟩:=T_Lhas_all.c X G B fun _ F=>by apply ok_Lhas_all <;> assumption
 obtain ⟨_,C_Lfits⟩:=T_Lfits.c X G B fun _ F=>by apply ok_Lfits <;> assumption
 obtain ⟨_,C_Ljudged⟩:=T_Ljudged.c X G B fun _ F=>by apply ok_Ljudged <;> assumption
 obtain ⟨_,C_Lshown_right⟩:=T_Lshown_right.c X G B fun _ F=>by apply ok_Lshown_right <;> assumption
 obtain ⟨_,C_Lmixed⟩:=T_Lmixed.c X G B fun _ F=>by apply ok_Lmixed <;> assumption
 obtain ⟨_,C_Lone_more⟩:=T_Lone_more.c X G B fun _ F=>by apply ok_Lone_more <;> assumption
 obtain ⟨_,C_Lclosed⟩:=T_Lclosed.c X G B fun _ F=>by apply ok_Lclosed <;> assumption
 obtain ⟨_,C_Lall_fitting⟩:=T_Lall_fitting.c X G B fun _ F=>by apply ok_Lall_fitting <;> assumption
 obtain ⟨_,C_Lothers⟩:=T_Lothers.c X G B fun _ F=>by apply ok_Lothers <;> assumption
 obtain ⟨_,C_Lthings⟩:=T_Lthings.c X G B fun _ F=>by apply ok_Lthings <;> assumption
 exact ok_law (P:=l.prog) (w:=w) (mg:=mg) (base:=base) (F:=F_law) (C_Lbegin:=C_Lbegin) (C_Lthere:=C_Lthere) (C_Ltake:=C_Ltake) (C_Lasked:=C_Lasked) (C_Lcome_there:=C_Lcome_there) (C_Lothers:=C_Lothers) (C_Lshown_right:=C_Lshown_right) (C_Lthings:=C_Lthings) (C_shows_there:=C_shows_there) (z_list:=zz_list) (z_range:=zz_range)
theorem walk {l:PySem.W.OpenLaw} {q:Program} {loose:List Str} {XP:(Str→Option Value)→Heap→Prop} {YP:World→Heap→Prop} {d:DefRec} {K:Params→PySem.W.Frag} (hn:l.most=some 63) (hdf:d.params.defaults=[])
  (hY:∀ (w:World) (h:Heap),YP w h→(K w.params).In h)
  (F:∀ (w:World) (mg:Str→Option Value) (fa:Addr) (h:Heap),(K w.params).In h→h.Ns mainGlobals mg→mg d.name=some (.ref fa)→
   ∃ fd:FuncData,(∀ (s:Shared) (u:Value),BindsTo s fd ⟨[u],[]⟩ [("_law_script",u)])∧∀ base:Heap,(K w.params).In base→base.Ns mainGlobals mg→FnOk l.prog w (K w.params) mg base CX0 8 fa fd ["_law_script"] (spLaw (K w.params))) :
  PySem.W.WalkO q loose XP YP l.row.toRowW d [] (fun f vs=>PySem.call f vs):=
 L2.walk_of (n:=63) (k:=8) (x:="_law_script") (CX:=fun _=>CX0) (sp:=fun w=>spLaw (K w.params)) hn (by decide) hdf ⟨rfl,by decide,by decide,rfl⟩ hY F (fun _ _ a ns hl _ hS=>⟨a,ns,rfl,hS,hl,fun _=>rfl⟩) fun _ _ _ _ _ z=>z
end Fw
open PySem PySem.W PyProof.Rows
set_option maxRecDepth 100000 in
set_option maxHeartbeats 0 in
theorem PySem.Challenge.cw_fewrooms_k53_layouts_shown_there_holds : PySem.Challenge.rw_fewrooms_k53_layouts_shown_there.Holds := by
 w_on;refine holds_law Fw.hpSaid fun said=>?_
 refine holds_open (q:=Fw.hpQ) (Xt:=Fw.hpX) (XP:=XL Fw.hpQ []) (YP:=(kHook Fw.hpK Fw.hpA Fw.hpE).says)
  Fw.hpLeft (kHook Fw.hpK Fw.hpA Fw.hpE).of (kHook Fw.hpK Fw.hpA Fw.hpE).keeps (fun s e=>xl_of s (Bool.and_eq_true_iff.mp e).1) XL.keeps
  (by rfl) (by rfl) (by rfl) (fun s e=>recFacts_of (Bool.and_eq_true_iff.mp e).2) (by rfl)
  (by first | assumption | decide +kernel) (by decide +kernel) ⟨rfl,rfl,rfl,rfl,rfl,by decide +kernel⟩ ?hw ?hc
 case hw=>w_witness2
 k_fill
 refine Fw.walk (l:=PySem.Challenge.rw_fewrooms_k53_layouts_shown_there) rfl rfl (fun w h Y=>PySem.W.kIn_of Y) ?F
 case F=>
  intro w mg fa h KX G hmg
  refine' Fw.all_mk KX G hmg ?_ ?_ ?_ ?_ ?_ ?_ ?_ ?_ ?_ ?_ ?_ ?_ ?_ ?_ ?_ ?_ ?_ ?_ ?_ ?_ ?_ ?_ ?_ ?_ ?_ ?_ ?_ ?_ ?_ ?_ ?_ ?_ ?_ ?_ ?_ ?_ ?_ ?_ ?_
  any_goals first | exact ⟨by k_is,_,L2.fun_mk (by k_is) (by k_is) (by k_is)⟩ | k_is | kernel_rfl
  any_goals (repeat (refine ⟨by k_is,?_⟩))
  any_goals exact trivial

