import PyProof.Rows.All
import Wide.All
import OpenK.AllK
import Wide.FinOn
import Lean
import PyProof.EqAt
import PyProof.EqKinds
import PyProof.TupleCall
import PySem.Challenge.RW_fewrooms_k18_what_tidied_keeps
set_option Elab.async false
set_option linter.all false
set_option maxRecDepth 100000
set_option maxHeartbeats 0
namespace Fw
open PySem
def inCl (s:Stmt) (j:Nat):Stmt:=match s with
 | .ClassDef _ _ _ body _ _ _ _ _ _ _=>body.getD j (.Pass ⟨0,0,0,0⟩)
 | _=>.Pass ⟨0,0,0,0⟩
def top (i:Nat):Stmt:=PySem.Challenge.pw_fewrooms_k18_what_tidied_keeps.main.body.getD i (.Pass ⟨0,0,0,0⟩)
abbrev qCV:Stmt:=top 1
abbrev qC2:Stmt:=top 2
abbrev s_tidied:Stmt:=top 3
abbrev qBR:Stmt:=top 8
abbrev qCW:Stmt:=top 9
abbrev qBI:Stmt:=top 10
abbrev s_has_all:Stmt:=top 11
abbrev s_played:Stmt:=top 13
abbrev s_does:Stmt:=top 14
abbrev s_Lbegin:Stmt:=top 16
abbrev s_Ltake:Stmt:=top 17
abbrev qBS:Stmt:=top 18
abbrev qCG:Stmt:=top 19
abbrev s_Lnet:Stmt:=top 20
abbrev s_Lasked:Stmt:=top 21
abbrev s_Lneeded:Stmt:=top 22
abbrev s_Lword:Stmt:=top 23
abbrev s_Lbehind:Stmt:=top 24
abbrev s_Lplayed:Stmt:=top 25
abbrev qC3:Stmt:=top 26
abbrev s_Lwalk:Stmt:=top 27
abbrev s_Lspare:Stmt:=top 28
abbrev s_Ldoing:Stmt:=top 29
abbrev s_Lmost:Stmt:=top 30
abbrev s_Lsteps:Stmt:=top 31
abbrev s_Lstays:Stmt:=top 32
abbrev qCY:Stmt:=top 33
abbrev s_Lcase:Stmt:=top 34
abbrev qBA:Stmt:=top 35
abbrev qCX:Stmt:=top 36
abbrev qBJ:Stmt:=top 37
abbrev s_law:Stmt:=top 38
abbrev qB1:Stmt:=inCl (top 6) 0
end Fw
namespace Fw
open PySem
def dA (s:Stmt):Arguments:=match s with
 | .FunctionDef _ a _ _ _ _ _ _ _ _=>a
 | _=>{ posonlyargs:=[],args:=[],vararg:=none,kwonlyargs:=[],kw_defaults:=[],kwarg:=none,defaults:=[] }
def dB (s:Stmt):List Stmt:=match s with
 | .FunctionDef _ _ b _ _ _ _ _ _ _=>b
 | _=>[]
def dS (s:Stmt):Scope:=match s with
 | .FunctionDef _ _ _ _ _ _ sc _ _ _=>sc
 | _=>{ kind:=.function,names:=[],isGenerator:=false,isCoroutine:=false }
abbrev so (s:String):Str:=PySem.Str.ofString s
abbrev kh (P:Params) (s:Str):Int:=PySem.PyData.keyHash P s
abbrev hde (P:Params) (s:String) (n:Nat) (v:Value):DictEntry:=⟨kh P (so s),.str (so s) n,v⟩
abbrev hvs (s:String) (n:Nat):Value:=.str (so s) n
abbrev hcut (n:Nat):Value:=hvs "/claim/cut.py" n
abbrev hfd (x q:String) (s:Stmt) (a b c d:Value) (e:Option Addr) (f g:Value) (i:Addr):FuncData:=⟨so x,so q,dA s,.stmts (dB s),dS s,3,[],a,b,c,d,e,f,g,i⟩
abbrev htp (d:Data) (s:Array (Option Value)):Obj:=⟨.type "tuple",none,d,s⟩
abbrev hcd (d:Data) (s:Array (Option Value)):Obj:=⟨.type "code",none,d,s⟩
abbrev hfn (d:Data) (s:Array (Option Value)):Obj:=⟨.type "function",none,d,s⟩
def hpK:Params→PySem.W.Frag:=fun P=>
 (nat_lit 2,Obj.mk .none .none (.dict #[]) #[]) ::
 (nat_lit 3,Obj.mk (.type "dict") .none (.dict #[hde P "__name__" 165 (hvs "law_fewrooms_k18_what_tidied_keeps" 323),hde P "__doc__" 166 .none,hde P "__package__" 167 .none,hde P "__loader__" 168 (.builtin "__main__.__loader__#opaque"),hde P "__spec__" 169 .none,hde P "__annotations__" 170 (.ref 6),hde P "__builtins__" 171 (.ref 4),hde P "__file__" 173 (hcut 172),hde P "__cached__" 174 .none,hde P "stays_of" 194 (.ref 19),hde P "stays_left" 205 (.ref 26),hde P "tidied" 211 (.ref 31),hde P "RoomError" 231 (.ref 41),hde P "Barred" 258 (.ref 61),hde P "fault_of_do" 273 (.ref 70),hde P "fault_of" 283 (.ref 77),hde P "stand_behind" 289 (.ref 82),hde P "has_all" 295 (.ref 87),hde P "played" 311 (.ref 94),hde P "does" 322 (.ref 101),hde P "_law_begin" 332 (.ref 108),hde P "_law_take" 345 (.ref 115),hde P "_law_some_needs" 356 (.ref 122),hde P "_law_tree_net" 368 (.ref 129),hde P "_law_net" 374 (.ref 134),hde P "_law_asked" 384 (.ref 141),hde P "_law_needed" 390 (.ref 146),hde P "_law_word" 396 (.ref 151),hde P "_law_behind" 402 (.ref 156),hde P "_law_played" 414 (.ref 163),hde P "_law_next_work" 420 (.ref 168),hde P "_law_walk" 435 (.ref 175),hde P "_law_spare" 441 (.ref 180),hde P "_law_doing" 457 (.ref 187),hde P "_law_most" 463 (.ref 192),hde P "_law_steps" 469 (.ref 197),hde P "_law_stays" 475 (.ref 202),hde P "_law_needing" 481 (.ref 207),hde P "_law_case" 490 (.ref 214),hde P "_law_cleared_right" 496 (.ref 219),hde P "_law_some_of" 506 (.ref 226),hde P "_law_idle_put_in" 512 (.ref 231),hde P "law" 518 (.ref 236)] 43) #[]) ::
 (nat_lit 15,htp (.seq #[]) #[]) ::
 (nat_lit 18,hcd (.fields #[hvs "stays_of" 189,hvs "stays_of" 190,hcut 191,.int 2 0,.int 2 0,.int 0 0,.int 0 0,.int 3 0,.ref 15,.bool .true,.int 181 0,.ref 16,.none,.none,.none,.ref 17,.int 192 0,.int 2 0,hcut 193]) #[]) ::
 (nat_lit 19,hfn (.func (hfd "stays_of" "stays_of" qCV .none .none .none (hvs "fewrooms.tidying" 187) .none (.ref 18) .none 0)) #[]) ::
 (nat_lit 20,htp (.seq #[]) #[]) ::
 (nat_lit 22,htp (.seq #[hvs "needed" 198,hvs "last" 199,hvs "left" 200,hvs "stay" 201,hvs "other" 202]) #[]) ::
 (nat_lit 23,htp (.seq #[]) #[]) ::
 (nat_lit 25,hcd (.fields #[hvs "stays_left" 195,hvs "stays_left" 196,hcut 197,.int 10 0,.int 2 0,.int 0 0,.int 0 0,.int 3 0,.ref 20,.bool .true,.int 181 0,.ref 21,.none,.ref 22,.ref 23,.ref 24,.int 203 0,.int 10 0,hcut 204]) #[]) ::
 (nat_lit 26,hfn (.func (hfd "stays_left" "stays_left" qC2 .none .none .none (hvs "fewrooms.tidying" 187) .none (.ref 25) .none 0)) #[]) ::
 (nat_lit 27,htp (.seq #[]) #[]) ::
 (nat_lit 30,hcd (.fields #[hvs "tidied" 206,hvs "tidied" 207,hcut 208,.int 19 0,.int 3 0,.int 0 0,.int 0 0,.int 3 0,.ref 27,.bool .true,.int 181 0,.ref 28,.none,.none,.none,.ref 29,.int 209 0,.int 19 0,hcut 210]) #[]) ::
 (nat_lit 31,hfn (.func (hfd "tidied" "tidied" s_tidied .none .none .none (hvs "fewrooms.tidying" 187) .none (.ref 30) .none 0)) #[]) ::
 (nat_lit 32,htp (.seq #[.type "ValueError"]) #[]) ::
 (nat_lit 39,htp (.seq #[]) #[]) ::
 (nat_lit 40,Obj.mk (.type "dict") .none (.dict #[hde P "__module__" 221 (hvs "fewrooms.errors" 212),hde P "__firstlineno__" 225 (.int 39 224),hde P "__static_attributes__" 226 (.ref 39),hde P "__weakref__" 228 (.ref 42),hde P "__doc__" 229 .none] 3) #[]) ::
 (nat_lit 41,Obj.mk (.type "type") .none (.cls (ClassData.mk (so "RoomError") [.type "ValueError"] [.ref 41,.type "ValueError",.type "Exception",.type "BaseException",.type "object"] 40 (so "RoomError") .true [] [.ref 61] .false .none .false)) #[Option.some (.ref 32),.none,Option.some (hvs "RoomError" 214),Option.some (hvs "RoomError" 222),Option.some (.builtin "ValueError.__new__"),Option.some (.bool .true)]) ::
 (nat_lit 42,Obj.mk (.type "getset_descriptor") .none (.fields #[hvs "__weakref__" 227,.ref 41,.builtin "ExceptionGroup.__weakref__",.none]) #[]) ::
 (nat_lit 45,htp (.seq #[.ref 41]) #[]) ::
 (nat_lit 52,htp (.seq #[]) #[]) ::
 (nat_lit 54,htp (.seq #[hvs "self" 247,hvs "move" 248,hvs "word" 249]) #[]) ::
 (nat_lit 55,htp (.seq #[]) #[]) ::
 (nat_lit 57,hcd (.fields #[hvs "__init__" 244,hvs "Barred.__init__" 245,hcut 246,.int 43 0,.int 3 0,.int 0 0,.int 0 0,.int 3 0,.ref 52,.bool .true,.int 181 0,.ref 53,.none,.ref 54,.ref 55,.ref 56,.int 250 0,.int 43 0,hcut 251]) #[]) ::
 (nat_lit 58,hfn (.func (hfd "__init__" "Barred.__init__" qB1 .none .none .none (hvs "fewrooms.errors" 212) .none (.ref 57) .none 0)) #[]) ::
 (nat_lit 59,htp (.seq #[hvs "move" 253,hvs "word" 254]) #[]) ::
 (nat_lit 60,Obj.mk (.type "dict") .none (.dict #[hde P "__module__" 239 (hvs "fewrooms.errors" 212),hde P "__firstlineno__" 243 (.int 41 242),hde P "__init__" 252 (.ref 58),hde P "__static_attributes__" 255 (.ref 59),hde P "__doc__" 256 .none] 2) #[]) ::
 (nat_lit 61,Obj.mk (.type "type") .none (.cls (ClassData.mk (so "Barred") [.ref 41] [.ref 61,.ref 41,.type "ValueError",.type "Exception",.type "BaseException",.type "object"] 60 (so "Barred") .true [] [] .false .none .false)) #[Option.some (.ref 45),.none,Option.some (hvs "Barred" 232),Option.some (hvs "Barred" 240),Option.some (.builtin "ValueError.__new__"),Option.some (.bool .true)]) ::
 (nat_lit 64,htp (.seq #[]) #[]) ::
 (nat_lit 66,htp (.seq #[hvs "net" 264,hvs "rooms" 265,hvs "stand" 266,hvs "work" 267,hvs "there" 268,hvs "result" 269,hvs "need" 270]) #[]) ::
 (nat_lit 67,htp (.seq #[]) #[]) ::
 (nat_lit 69,hcd (.fields #[hvs "fault_of_do" 261,hvs "fault_of_do" 262,hcut 263,.int 47 0,.int 4 0,.int 0 0,.int 0 0,.int 3 0,.ref 64,.bool .true,.int 181 0,.ref 65,.none,.ref 66,.ref 67,.ref 68,.int 271 0,.int 47 0,hcut 272]) #[]) ::
 (nat_lit 70,hfn (.func (hfd "fault_of_do" "fault_of_do" qBR .none .none .none (hvs "fewrooms.moves" 259) .none (.ref 69) .none 0)) #[]) ::
 (nat_lit 71,htp (.seq #[]) #[]) ::
 (nat_lit 73,htp (.seq #[hvs "net" 277,hvs "rooms" 278,hvs "stand" 279,hvs "move" 280]) #[]) ::
 (nat_lit 74,htp (.seq #[]) #[]) ::
 (nat_lit 76,hcd (.fields #[hvs "fault_of" 274,hvs "fault_of" 275,hcut 276,.int 59 0,.int 4 0,.int 0 0,.int 0 0,.int 3 0,.ref 71,.bool .true,.int 181 0,.ref 72,.none,.ref 73,.ref 74,.ref 75,.int 281 0,.int 59 0,hcut 282]) #[]) ::
 (nat_lit 77,hfn (.func (hfd "fault_of" "fault_of" qCW .none .none .none (hvs "fewrooms.moves" 259) .none (.ref 76) .none 0)) #[]) ::
 (nat_lit 78,htp (.seq #[]) #[]) ::
 (nat_lit 81,hcd (.fields #[hvs "stand_behind" 284,hvs "stand_behind" 285,hcut 286,.int 65 0,.int 2 0,.int 0 0,.int 0 0,.int 3 0,.ref 78,.bool .true,.int 181 0,.ref 79,.none,.none,.none,.ref 80,.int 287 0,.int 65 0,hcut 288]) #[]) ::
 (nat_lit 82,hfn (.func (hfd "stand_behind" "stand_behind" qBI .none .none .none (hvs "fewrooms.moves" 259) .none (.ref 81) .none 0)) #[]) ::
 (nat_lit 83,htp (.seq #[]) #[]) ::
 (nat_lit 86,hcd (.fields #[hvs "has_all" 290,hvs "has_all" 291,hcut 292,.int 69 0,.int 2 0,.int 0 0,.int 0 0,.int 3 0,.ref 83,.bool .true,.int 181 0,.ref 84,.none,.none,.none,.ref 85,.int 293 0,.int 69 0,hcut 294]) #[]) ::
 (nat_lit 87,hfn (.func (hfd "has_all" "has_all" s_has_all .none .none .none (hvs "fewrooms.moves" 259) .none (.ref 86) .none 0)) #[]) ::
 (nat_lit 88,htp (.seq #[]) #[]) ::
 (nat_lit 90,htp (.seq #[hvs "net" 301,hvs "rooms" 302,hvs "plan" 303,hvs "stand" 304,hvs "stands" 305,hvs "number" 306,hvs "move" 307,hvs "word" 308]) #[]) ::
 (nat_lit 91,htp (.seq #[]) #[]) ::
 (nat_lit 93,hcd (.fields #[hvs "played" 298,hvs "played" 299,hcut 300,.int 72 0,.int 3 0,.int 0 0,.int 0 0,.int 3 0,.ref 88,.bool .true,.int 181 0,.ref 89,.none,.ref 90,.ref 91,.ref 92,.int 309 0,.int 72 0,hcut 310]) #[]) ::
 (nat_lit 94,hfn (.func (hfd "played" "played" s_played .none .none .none (hvs "fewrooms.plans" 296) .none (.ref 93) .none 0)) #[]) ::
 (nat_lit 95,htp (.seq #[]) #[]) ::
 (nat_lit 97,htp (.seq #[hvs "net" 315,hvs "rooms" 316,hvs "plan" 317,hvs "asked" 318,hvs "stands" 319]) #[]) ::
 (nat_lit 98,htp (.seq #[]) #[]) ::
 (nat_lit 100,hcd (.fields #[hvs "does" 312,hvs "does" 313,hcut 314,.int 82 0,.int 4 0,.int 0 0,.int 0 0,.int 3 0,.ref 95,.bool .true,.int 181 0,.ref 96,.none,.ref 97,.ref 98,.ref 99,.int 320 0,.int 82 0,hcut 321]) #[]) ::
 (nat_lit 101,hfn (.func (hfd "does" "does" s_does .none .none .none (hvs "fewrooms.plans" 296) .none (.ref 100) .none 0)) #[]) ::
 (nat_lit 102,htp (.seq #[]) #[]) ::
 (nat_lit 104,htp (.seq #[hvs "_law_script" 328,hvs "_law_cells" 329]) #[]) ::
 (nat_lit 105,htp (.seq #[]) #[]) ::
 (nat_lit 107,hcd (.fields #[hvs "_law_begin" 325,hvs "_law_begin" 326,hcut 327,.int 89 0,.int 1 0,.int 0 0,.int 0 0,.int 3 0,.ref 102,.bool .true,.int 181 0,.ref 103,.none,.ref 104,.ref 105,.ref 106,.int 330 0,.int 89 0,hcut 331]) #[]) ::
 (nat_lit 108,hfn (.func (hfd "_law_begin" "_law_begin" s_Lbegin .none .none .none (hvs "law_fewrooms_k18_what_tidied_keeps" 323) .none (.ref 107) .none 0)) #[]) ::
 (nat_lit 109,htp (.seq #[]) #[]) ::
 (nat_lit 111,htp (.seq #[hvs "_law_state" 336,hvs "_law_many" 337,hvs "_law_turn" 338,hvs "_law_place" 339,hvs "_law_cell" 340,hvs "_law_digit" 341,hvs "_law_mixed" 342]) #[]) ::
 (nat_lit 112,htp (.seq #[]) #[]) ::
 (nat_lit 114,hcd (.fields #[hvs "_law_take" 333,hvs "_law_take" 334,hcut 335,.int 94 0,.int 2 0,.int 0 0,.int 0 0,.int 3 0,.ref 109,.bool .true,.int 181 0,.ref 110,.none,.ref 111,.ref 112,.ref 113,.int 343 0,.int 94 0,hcut 344]) #[]) ::
 (nat_lit 115,hfn (.func (hfd "_law_take" "_law_take" s_Ltake .none .none .none (hvs "law_fewrooms_k18_what_tidied_keeps" 323) .none (.ref 114) .none 0)) #[]) ::
 (nat_lit 116,htp (.seq #[]) #[]) ::
 (nat_lit 118,htp (.seq #[hvs "_law_state" 349,hvs "_law_k" 350,hvs "_law_found" 351,hvs "_law_turn" 352,hvs "_law_far" 353]) #[]) ::
 (nat_lit 119,htp (.seq #[]) #[]) ::
 (nat_lit 121,hcd (.fields #[hvs "_law_some_needs" 346,hvs "_law_some_needs" 347,hcut 348,.int 105 0,.int 2 0,.int 0 0,.int 0 0,.int 3 0,.ref 116,.bool .true,.int 181 0,.ref 117,.none,.ref 118,.ref 119,.ref 120,.int 354 0,.int 105 0,hcut 355]) #[]) ::
 (nat_lit 122,hfn (.func (hfd "_law_some_needs" "_law_some_needs" qBS .none .none .none (hvs "law_fewrooms_k18_what_tidied_keeps" 323) .none (.ref 121) .none 0)) #[]) ::
 (nat_lit 123,htp (.seq #[]) #[]) ::
 (nat_lit 125,htp (.seq #[hvs "_law_state" 360,hvs "_law_many" 361,hvs "_law_open_ones" 362,hvs "_law_found" 363,hvs "_law_k" 364,hvs "_law_so_many" 365]) #[]) ::
 (nat_lit 126,htp (.seq #[]) #[]) ::
 (nat_lit 128,hcd (.fields #[hvs "_law_tree_net" 357,hvs "_law_tree_net" 358,hcut 359,.int 112 0,.int 2 0,.int 0 0,.int 0 0,.int 3 0,.ref 123,.bool .true,.int 181 0,.ref 124,.none,.ref 125,.ref 126,.ref 127,.int 366 0,.int 112 0,hcut 367]) #[]) ::
 (nat_lit 129,hfn (.func (hfd "_law_tree_net" "_law_tree_net" qCG .none .none .none (hvs "law_fewrooms_k18_what_tidied_keeps" 323) .none (.ref 128) .none 0)) #[]) ::
 (nat_lit 130,htp (.seq #[]) #[]) ::
 (nat_lit 133,hcd (.fields #[hvs "_law_net" 369,hvs "_law_net" 370,hcut 371,.int 120 0,.int 2 0,.int 0 0,.int 0 0,.int 3 0,.ref 130,.bool .true,.int 181 0,.ref 131,.none,.none,.none,.ref 132,.int 372 0,.int 120 0,hcut 373]) #[]) ::
 (nat_lit 134,hfn (.func (hfd "_law_net" "_law_net" s_Lnet .none .none .none (hvs "law_fewrooms_k18_what_tidied_keeps" 323) .none (.ref 133) .none 0)) #[]) ::
 (nat_lit 135,htp (.seq #[]) #[]) ::
 (nat_lit 137,htp (.seq #[hvs "_law_state" 378,hvs "_law_net_here" 379,hvs "_law_found" 380,hvs "_law_turn" 381]) #[]) ::
 (nat_lit 138,htp (.seq #[]) #[]) ::
 (nat_lit 140,hcd (.fields #[hvs "_law_asked" 375,hvs "_law_asked" 376,hcut 377,.int 135 0,.int 2 0,.int 0 0,.int 0 0,.int 3 0,.ref 135,.bool .true,.int 181 0,.ref 136,.none,.ref 137,.ref 138,.ref 139,.int 382 0,.int 135 0,hcut 383]) #[]) ::
 (nat_lit 141,hfn (.func (hfd "_law_asked" "_law_asked" s_Lasked .none .none .none (hvs "law_fewrooms_k18_what_tidied_keeps" 323) .none (.ref 140) .none 0)) #[]) ::
 (nat_lit 142,htp (.seq #[]) #[]) ::
 (nat_lit 145,hcd (.fields #[hvs "_law_needed" 385,hvs "_law_needed" 386,hcut 387,.int 140 0,.int 2 0,.int 0 0,.int 0 0,.int 3 0,.ref 142,.bool .true,.int 181 0,.ref 143,.none,.none,.none,.ref 144,.int 388 0,.int 140 0,hcut 389]) #[]) ::
 (nat_lit 146,hfn (.func (hfd "_law_needed" "_law_needed" s_Lneeded .none .none .none (hvs "law_fewrooms_k18_what_tidied_keeps" 323) .none (.ref 145) .none 0)) #[]) ::
 (nat_lit 147,htp (.seq #[]) #[]) ::
 (nat_lit 150,hcd (.fields #[hvs "_law_word" 391,hvs "_law_word" 392,hcut 393,.int 149 0,.int 4 0,.int 0 0,.int 0 0,.int 3 0,.ref 147,.bool .true,.int 181 0,.ref 148,.none,.none,.none,.ref 149,.int 394 0,.int 149 0,hcut 395]) #[]) ::
 (nat_lit 151,hfn (.func (hfd "_law_word" "_law_word" s_Lword .none .none .none (hvs "law_fewrooms_k18_what_tidied_keeps" 323) .none (.ref 150) .none 0)) #[]) ::
 (nat_lit 152,htp (.seq #[]) #[]) ::
 (nat_lit 155,hcd (.fields #[hvs "_law_behind" 397,hvs "_law_behind" 398,hcut 399,.int 157 0,.int 2 0,.int 0 0,.int 0 0,.int 3 0,.ref 152,.bool .true,.int 181 0,.ref 153,.none,.none,.none,.ref 154,.int 400 0,.int 157 0,hcut 401]) #[]) ::
 (nat_lit 156,hfn (.func (hfd "_law_behind" "_law_behind" s_Lbehind .none .none .none (hvs "law_fewrooms_k18_what_tidied_keeps" 323) .none (.ref 155) .none 0)) #[]) ::
 (nat_lit 157,htp (.seq #[]) #[]) ::
 (nat_lit 159,htp (.seq #[hvs "_law_net_here" 406,hvs "_law_rooms" 407,hvs "_law_plan" 408,hvs "_law_stands" 409,hvs "_law_move" 410,hvs "_law_word_here" 411]) #[]) ::
 (nat_lit 160,htp (.seq #[]) #[]) ::
 (nat_lit 162,hcd (.fields #[hvs "_law_played" 403,hvs "_law_played" 404,hcut 405,.int 161 0,.int 3 0,.int 0 0,.int 0 0,.int 3 0,.ref 157,.bool .true,.int 181 0,.ref 158,.none,.ref 159,.ref 160,.ref 161,.int 412 0,.int 161 0,hcut 413]) #[]) ::
 (nat_lit 163,hfn (.func (hfd "_law_played" "_law_played" s_Lplayed .none .none .none (hvs "law_fewrooms_k18_what_tidied_keeps" 323) .none (.ref 162) .none 0)) #[]) ::
 (nat_lit 164,htp (.seq #[]) #[]) ::
 (nat_lit 167,hcd (.fields #[hvs "_law_next_work" 415,hvs "_law_next_work" 416,hcut 417,.int 169 0,.int 3 0,.int 0 0,.int 0 0,.int 3 0,.ref 164,.bool .true,.int 181 0,.ref 165,.none,.none,.none,.ref 166,.int 418 0,.int 169 0,hcut 419]) #[]) ::
 (nat_lit 168,hfn (.func (hfd "_law_next_work" "_law_next_work" qC3 .none .none .none (hvs "law_fewrooms_k18_what_tidied_keeps" 323) .none (.ref 167) .none 0)) #[]) ::
 (nat_lit 169,htp (.seq #[]) #[]) ::
 (nat_lit 171,htp (.seq #[hvs "_law_state" 424,hvs "_law_net_here" 425,hvs "_law_rooms" 426,hvs "_law_many" 427,hvs "_law_plan" 428,hvs "_law_stand" 429,hvs "_law_turn" 430,hvs "_law_work" 431,hvs "_law_move" 432]) #[]) ::
 (nat_lit 172,htp (.seq #[]) #[]) ::
 (nat_lit 174,hcd (.fields #[hvs "_law_walk" 421,hvs "_law_walk" 422,hcut 423,.int 176 0,.int 4 0,.int 0 0,.int 0 0,.int 3 0,.ref 169,.bool .true,.int 181 0,.ref 170,.none,.ref 171,.ref 172,.ref 173,.int 433 0,.int 176 0,hcut 434]) #[]) ::
 (nat_lit 175,hfn (.func (hfd "_law_walk" "_law_walk" s_Lwalk .none .none .none (hvs "law_fewrooms_k18_what_tidied_keeps" 323) .none (.ref 174) .none 0)) #[]) ::
 (nat_lit 176,htp (.seq #[]) #[]) ::
 (nat_lit 179,hcd (.fields #[hvs "_law_spare" 436,hvs "_law_spare" 437,hcut 438,.int 187 0,.int 4 0,.int 0 0,.int 0 0,.int 3 0,.ref 176,.bool .true,.int 181 0,.ref 177,.none,.none,.none,.ref 178,.int 439 0,.int 187 0,hcut 440]) #[]) ::
 (nat_lit 180,hfn (.func (hfd "_law_spare" "_law_spare" s_Lspare .none .none .none (hvs "law_fewrooms_k18_what_tidied_keeps" 323) .none (.ref 179) .none 0)) #[]) ::
 (nat_lit 181,htp (.seq #[]) #[]) ::
 (nat_lit 183,htp (.seq #[hvs "_law_state" 445,hvs "_law_net_here" 446,hvs "_law_asked_here" 447,hvs "_law_many" 448,hvs "_law_plan" 449,hvs "_law_stand" 450,hvs "_law_needed_here" 451,hvs "_law_place" 452,hvs "_law_work" 453,hvs "_law_spare_here" 454]) #[]) ::
 (nat_lit 184,htp (.seq #[]) #[]) ::
 (nat_lit 186,hcd (.fields #[hvs "_law_doing" 442,hvs "_law_doing" 443,hcut 444,.int 189 0,.int 4 0,.int 0 0,.int 0 0,.int 3 0,.ref 181,.bool .true,.int 181 0,.ref 182,.none,.ref 183,.ref 184,.ref 185,.int 455 0,.int 189 0,hcut 456]) #[]) ::
 (nat_lit 187,hfn (.func (hfd "_law_doing" "_law_doing" s_Ldoing .none .none .none (hvs "law_fewrooms_k18_what_tidied_keeps" 323) .none (.ref 186) .none 0)) #[]) ::
 (nat_lit 188,htp (.seq #[]) #[]) ::
 (nat_lit 191,hcd (.fields #[hvs "_law_most" 458,hvs "_law_most" 459,hcut 460,.int 201 0,.int 2 0,.int 0 0,.int 0 0,.int 3 0,.ref 188,.bool .true,.int 181 0,.ref 189,.none,.none,.none,.ref 190,.int 461 0,.int 201 0,hcut 462]) #[]) ::
 (nat_lit 192,hfn (.func (hfd "_law_most" "_law_most" s_Lmost .none .none .none (hvs "law_fewrooms_k18_what_tidied_keeps" 323) .none (.ref 191) .none 0)) #[]) ::
 (nat_lit 193,htp (.seq #[]) #[]) ::
 (nat_lit 196,hcd (.fields #[hvs "_law_steps" 464,hvs "_law_steps" 465,hcut 466,.int 204 0,.int 1 0,.int 0 0,.int 0 0,.int 3 0,.ref 193,.bool .true,.int 181 0,.ref 194,.none,.none,.none,.ref 195,.int 467 0,.int 204 0,hcut 468]) #[]) ::
 (nat_lit 197,hfn (.func (hfd "_law_steps" "_law_steps" s_Lsteps .none .none .none (hvs "law_fewrooms_k18_what_tidied_keeps" 323) .none (.ref 196) .none 0)) #[]) ::
 (nat_lit 198,htp (.seq #[]) #[]) ::
 (nat_lit 201,hcd (.fields #[hvs "_law_stays" 470,hvs "_law_stays" 471,hcut 472,.int 206 0,.int 1 0,.int 0 0,.int 0 0,.int 3 0,.ref 198,.bool .true,.int 181 0,.ref 199,.none,.none,.none,.ref 200,.int 473 0,.int 206 0,hcut 474]) #[]) ::
 (nat_lit 202,hfn (.func (hfd "_law_stays" "_law_stays" s_Lstays .none .none .none (hvs "law_fewrooms_k18_what_tidied_keeps" 323) .none (.ref 201) .none 0)) #[]) ::
 (nat_lit 203,htp (.seq #[]) #[]) ::
 (nat_lit 206,hcd (.fields #[hvs "_law_needing" 476,hvs "_law_needing" 477,hcut 478,.int 213 0,.int 3 0,.int 0 0,.int 0 0,.int 3 0,.ref 203,.bool .true,.int 181 0,.ref 204,.none,.none,.none,.ref 205,.int 479 0,.int 213 0,hcut 480]) #[]) ::
 (nat_lit 207,hfn (.func (hfd "_law_needing" "_law_needing" qCY .none .none .none (hvs "law_fewrooms_k18_what_tidied_keeps" 323) .none (.ref 206) .none 0)) #[]) ::
 (nat_lit 208,htp (.seq #[]) #[]) ::
 (nat_lit 210,htp (.seq #[hvs "_law_state" 485,hvs "_law_many" 486,hvs "_law_net_here" 487]) #[]) ::
 (nat_lit 211,htp (.seq #[]) #[]) ::
 (nat_lit 213,hcd (.fields #[hvs "_law_case" 482,hvs "_law_case" 483,hcut 484,.int 216 0,.int 1 0,.int 0 0,.int 0 0,.int 3 0,.ref 208,.bool .true,.int 181 0,.ref 209,.none,.ref 210,.ref 211,.ref 212,.int 488 0,.int 216 0,hcut 489]) #[]) ::
 (nat_lit 214,hfn (.func (hfd "_law_case" "_law_case" s_Lcase .none .none .none (hvs "law_fewrooms_k18_what_tidied_keeps" 323) .none (.ref 213) .none 0)) #[]) ::
 (nat_lit 215,htp (.seq #[]) #[]) ::
 (nat_lit 218,hcd (.fields #[hvs "_law_cleared_right" 491,hvs "_law_cleared_right" 492,hcut 493,.int 222 0,.int 3 0,.int 0 0,.int 0 0,.int 3 0,.ref 215,.bool .true,.int 181 0,.ref 216,.none,.none,.none,.ref 217,.int 494 0,.int 222 0,hcut 495]) #[]) ::
 (nat_lit 219,hfn (.func (hfd "_law_cleared_right" "_law_cleared_right" qBA .none .none .none (hvs "law_fewrooms_k18_what_tidied_keeps" 323) .none (.ref 218) .none 0)) #[]) ::
 (nat_lit 220,htp (.seq #[]) #[]) ::
 (nat_lit 222,htp (.seq #[hvs "_law_less" 500,hvs "_law_more" 501,hvs "_law_at" 502,hvs "_law_one" 503]) #[]) ::
 (nat_lit 223,htp (.seq #[]) #[]) ::
 (nat_lit 225,hcd (.fields #[hvs "_law_some_of" 497,hvs "_law_some_of" 498,hcut 499,.int 235 0,.int 2 0,.int 0 0,.int 0 0,.int 3 0,.ref 220,.bool .true,.int 181 0,.ref 221,.none,.ref 222,.ref 223,.ref 224,.int 504 0,.int 235 0,hcut 505]) #[]) ::
 (nat_lit 226,hfn (.func (hfd "_law_some_of" "_law_some_of" qCX .none .none .none (hvs "law_fewrooms_k18_what_tidied_keeps" 323) .none (.ref 225) .none 0)) #[]) ::
 (nat_lit 227,htp (.seq #[]) #[]) ::
 (nat_lit 230,hcd (.fields #[hvs "_law_idle_put_in" 507,hvs "_law_idle_put_in" 508,hcut 509,.int 241 0,.int 3 0,.int 0 0,.int 0 0,.int 3 0,.ref 227,.bool .true,.int 181 0,.ref 228,.none,.none,.none,.ref 229,.int 510 0,.int 241 0,hcut 511]) #[]) ::
 (nat_lit 231,hfn (.func (hfd "_law_idle_put_in" "_law_idle_put_in" qBJ .none .none .none (hvs "law_fewrooms_k18_what_tidied_keeps" 323) .none (.ref 230) .none 0)) #[]) ::
 (nat_lit 232,htp (.seq #[]) #[]) ::
 (nat_lit 235,hcd (.fields #[hvs "law" 513,hvs "law" 514,hcut 515,.int 249 0,.int 1 0,.int 0 0,.int 0 0,.int 3 0,.ref 232,.bool .true,.int 181 0,.ref 233,.none,.none,.none,.ref 234,.int 516 0,.int 249 0,hcut 517]) #[]) ::
 (nat_lit 236,hfn (.func (hfd "law" "law" s_law .none .none .none (hvs "law_fewrooms_k18_what_tidied_keeps" 323) .none (.ref 235) .none 0)) #[]) ::
 []
def hpA:List Addr:=[2,3,15,18,19,20,22,23,25,26,27,30,31,32,39,40,41,42,45,52,54,55,57,58,59,60,61,64,66,67,69,70,71,73,74,76,77,78,81,82,83,86,87,88,90,91,93,94,95,97,98,100,101,102,104,105,107,108,109,111,112,114,115,116,118,119,121,122,123,125,126,128,129,130,133,134,135,137,138,140,141,142,145,146,147,150,151,152,155,156,157,159,160,162,163,164,167,168,169,171,172,174,175,176,179,180,181,183,184,186,187,188,191,192,193,196,197,198,201,202,203,206,207,208,210,211,213,214,215,218,219,220,222,223,225,226,227,230,231,232,235,236]
def hpQ:Program:=PySem.W.view PySem.Challenge.pw_fewrooms_k18_what_tidied_keeps [1,2,3,5,6,8,9,10,11,13,14,16,17,18,19,20,21,22,23,24,25,26,27,28,29,30,31,32,33,34,35,36,37,38]
def hpN:Nat:=2976
theorem hpE (P:Params):hpA=(hpK P).map (·.1):=by kernel_rfl
def hpX (s:Shared):Bool:=PySem.W.xlAt hpQ [] s && PySem.W.recOk (PySem.W.RowW.records (PySem.W.OpenRow.toRowW (PySem.W.OpenLaw.row PySem.Challenge.rw_fewrooms_k18_what_tidied_keeps))) s
theorem hpLeft:PySem.W.LeftO PySem.Challenge.pw_fewrooms_k18_what_tidied_keeps hpQ [] hpX (PySem.W.kHook hpK hpA hpE).obs (PySem.W.kHook hpK hpA hpE).val hpN:=fun w=>by kernel_rfl
theorem hpSaid:PySem.W.OpenLaw.wellSaid PySem.Challenge.rw_fewrooms_k18_what_tidied_keeps=true:=by kernel_rfl
end Fw
namespace L2
open PySem PySem.Spec PyProof.Rows
abbrev Key:=Sum Int Str
def keyIs:Key→Value→Bool
 | .inl k,v=>Value.isInt k v
 | .inr x,v=>Value.isStrOf x v
def keyH (w:World):Key→Int
 | .inl k=>hashInt k
 | .inr x=>hashStr w x
theorem qAV:∀ {k:Key} {v:Value},keyIs k v=true→(∃ i t,k=Sum.inl i∧v=Value.int i t)∨(∃ x t,k=Sum.inr x∧v=Value.str x t)
 | .inl i,v,h=>by
  obtain ⟨t,e⟩:=Value.isInt_shape (k:=i) (v:=v) h
  exact .inl ⟨i,t,rfl,e⟩
 | .inr x,v,h=>by
  obtain ⟨t,e⟩:=Value.isStrOf_shape (x:=x) (v:=v) h
  exact .inr ⟨x,t,rfl,e⟩
theorem keyIs_int (i:Int) (t:Tok):keyIs (.inl i) (.int i t)=true:=by simp [keyIs,Value.isInt]
theorem keyIs_str (x:Str) (t:Tok):keyIs (.inr x) (.str x t)=true:=by simp [keyIs,Value.isStrOf]
theorem key_ll (a b:Int):decide ((Sum.inl a:Key)=Sum.inl b)=(a == b):=by
 by_cases e:a=b
 ·subst e;simp
 ·have h:¬ (Sum.inl a:Key)=Sum.inl b:=fun q=>e (Sum.inl.inj q)
  rw [decide_eq_false h]
  exact (beq_eq_false_iff_ne.mpr e).symm
theorem key_rr (a b:Str):decide ((Sum.inr a:Key)=Sum.inr b)=decide (a=b):=by
 by_cases e:a=b
 ·subst e;simp
 ·have h:¬ (Sum.inr a:Key)=Sum.inr b:=fun q=>e (Sum.inr.inj q)
  rw [decide_eq_false h,decide_eq_false e]
theorem key_lr (a:Int) (b:Str):decide ((Sum.inl a:Key)=Sum.inr b)=false:=decide_eq_false (fun q=>nomatch q)
theorem key_rl (a:Str) (b:Int):decide ((Sum.inr a:Key)=Sum.inl b)=false:=decide_eq_false (fun q=>nomatch q)
def mixKind (prog:Program) (w:World):PySem.KeyKind prog w Key where
 is:=keyIs
 hash:=keyH w
 inj:=fun v a b ha hb=>by
  rcases qAV ha with ⟨i,t,rfl,rfl⟩ | ⟨x,t,rfl,rfl⟩
  ·rcases qAV hb with ⟨j,u,rfl,e⟩ | ⟨y,u,rfl,e⟩
   ·injection e with e1 _;rw [e1]
   ·exact nomatch e
  ·rcases qAV hb with ⟨j,u,rfl,e⟩ | ⟨y,u,rfl,e⟩
   ·exact nomatch e
   ·injection e with e1 _;rw [e1]
 byValue:=fun k v h=>by
  rcases qAV h with ⟨i,t,rfl,rfl⟩ | ⟨x,t,rfl,rfl⟩ <;> rfl
 pyHash:=fun hv h=>by
  rcases qAV hv with ⟨i,t,rfl,rfl⟩ | ⟨x,t,rfl,rfl⟩
  ·exact wpAny_pyHash_int h
  ·exact wpAny_pyHash_str h
 eqBool:=fun hu hv h=>by
  rcases qAV hu with ⟨i,t,rfl,rfl⟩ | ⟨x,t,rfl,rfl⟩
  ·rcases qAV hv with ⟨j,u,rfl,rfl⟩ | ⟨y,u,rfl,rfl⟩
   ·rw [key_ll] at h;exact wpAny_eqBool_int h
   ·rw [key_lr] at h;exact SeqAt.EqAt.int_str i t y u _ _ _ _ h
  ·rcases qAV hv with ⟨j,u,rfl,rfl⟩ | ⟨y,u,rfl,rfl⟩
   ·rw [key_rl] at h;exact SeqAt.EqAt.str_int x t j u _ _ _ _ h
   ·rw [key_rr] at h;exact wpAny_eqBool_str h
 «strs»:=fun k x t v h=>by
  rcases qAV h with ⟨i,u,rfl,e⟩ | ⟨y,u,rfl,e⟩
  ·exact nomatch e
  ·injection e with e1 _
   subst e1
   cases v <;> rfl
theorem mixKind_int (prog:Program) (w:World) (i:Int) (t:Tok):(mixKind prog w).is (.inl i) (.int i t)=true:=keyIs_int i t
theorem mixKind_str (prog:Program) (w:World) (x:Str) (t:Tok):(mixKind prog w).is (.inr x) (.str x t)=true:=keyIs_str x t
end L2
namespace L2
open PySem PySem.Spec PyProof.Rows
inductive V where
 | non | bl (b:Bool) | int (i:Int) | str (x:Str) | byt (b:Array UInt8) | flt (b:UInt64) | ref (a:Addr) | ty (n:String)
 deriving DecidableEq
def RelV:V→Value→Prop
 | .non,u=>u=Value.none
 | .bl b,u=>u=Value.bool b
 | .int i,u=>∃ t,u=Value.int i t
 | .str x,u=>∃ t,u=Value.str x t
 | .byt b,u=>∃ t,u=Value.bytes b t
 | .flt b,u=>∃ t,u=Value.float b t
 | .ref a,u=>u=Value.ref a
 | .ty n,u=>u=Value.type n
abbrev Vals:List V→List Value→Prop:=Paired RelV
theorem Vals.length {xs:List V} {us:List Value} (r:Vals xs us):xs.length=us.length:=Paired.length r
theorem Vals.get:∀ {xs:List V} {us:List Value} {i:Nat} {x:V},Vals xs us→xs[i]?=some x→∃ u,us[i]?=some u∧RelV x u
 | _,_,_,_,.nil,e=>by simp at e
 | _,_,0,_,.cons r _,e=>by simp at e;subst e;exact ⟨_,rfl,r⟩
 | _,_,i+1,x,.cons _ t,e=>by
  obtain ⟨u,h1,h2⟩:=Vals.get (i:=i) (x:=x) t (by simpa using e)
  exact ⟨u,by simpa using h1,h2⟩
theorem Vals.set {x:V} {u:Value} (r:RelV x u):∀ {xs:List V} {us:List Value} (i:Nat),Vals xs us→Vals (xs.set i x) (us.set i u)
 | _,_,_,.nil=>.nil
 | _,_,0,.cons _ t=>.cons r t
 | _,_,i+1,.cons q t=>.cons q (Vals.set r i t)
theorem Vals.append:∀ {xs ys:List V} {us ws:List Value},Vals xs us→Vals ys ws→Vals (xs++ys) (us++ws)
 | _,_,_,_,.nil,s=>s
 | _,_,_,_,.cons r t,s=>.cons r (Vals.append t s)
theorem Vals.take:∀ {xs:List V} {us:List Value} (n:Nat),Vals xs us→Vals (xs.take n) (us.take n)
 | _,_,0,_=>.nil
 | _,_,_+1,.nil=>.nil
 | _,_,n+1,.cons r t=>.cons r (Vals.take n t)
theorem Vals.drop:∀ {xs:List V} {us:List Value} (n:Nat),Vals xs us→Vals (xs.drop n) (us.drop n)
 | _,_,0,r=>r
 | _,_,_+1,.nil=>.nil
 | _,_,n+1,.cons _ t=>Vals.drop n t
def RelO:Option V→Option Value→Prop
 | some v,some u=>RelV v u
 | none,none=>True
 | _,_=>False
def KV {κ:Type}:List (κ × V)→List (κ × Value)→Prop:=Paired fun (p:κ × V) (q:κ × Value)=>p.1=q.1∧RelV p.2 q.2
inductive CTb where
 | tab (q:Str)
 | cod (q:Str)
def kV:Key→V
 | .inl i=>.int i
 | .inr x=>.str x
inductive HO where
 /-- a list -/
 | lst (xs:List V)
 /-- a tuple (never changes) -/
 | tup (xs:List V)
 /-- a dict whose keys are ints and texts;one whose keys are tuples of ints and texts (the empty one is both) -/
 | dK (kvs:List (Key × V)) | dT (kvs:List (List Key × V))
 /-- a set of ints: its members,its size -/
 | set (S:Int→Bool) (n:Nat)
 /-- an instance of the class at C,its dict at dx,its attributes -/
 | ins (C dx:Addr) (fs:List (Str × V))
 /-- the dict of the instance at x -/
 | own (x:Addr)
 /-- the dict of an exception -/
 | xd (fs:List (Str × V))
 /-- a bound method,f of x -/
 | met (f x:Addr)
 /-- a range object lo,lo+1,.. below hi -/
 | rng (lo hi:Int)
 /-- a thing that is known to the object (the script;a dict while a loop walks it): read,never written while it is so -/
 | frz (o:Obj) (u:HO)
 /-- a code object's table -/
 | tbl (t:CTb)
 /-- any other thing,by what is true of its one object (a def of one's own: SetO a S n:=HO.ext fun h=>..) -/
 | ext (φ:Heap→Prop)
abbrev Hp:=Addr→Option HO
def upd (H:Hp) (a:Addr) (o:HO):Hp:=fun b=>if b=a then some o else H b
theorem qA1 {H:Hp} {a:Addr} {o:HO}:upd H a o a=some o:=by unfold upd;rw [if_pos rfl]
theorem qA8 {H:Hp} {a b:Addr} {o:HO} (h:b ≠ a):upd H a o b=H b:=by unfold upd;rw [if_neg h]
theorem upd_upd {H:Hp} {a:Addr} {o u:HO}:upd (upd H a o) a u=upd H a u:=by
 funext b;unfold upd;split <;> rfl
theorem ne_of {H:Hp} {a b:Addr} {o u:HO} (h:H a=some o) (h':H b=some u) (d:o ≠ u):a ≠ b:=by
 intro e;subst e;rw [h] at h';exact d (Option.some.inj h')
theorem qA5 {H:Hp} {a b:Addr} {o:HO} (h:H a=some o) (h':H b=none):a ≠ b:=by
 intro e;subst e;rw [h] at h';cases h'
section
variable (P:Program) (w:World)
def ObjOk (H:Hp) (h:Heap) (a:Addr):HO→Prop
 | .lst xs=>xs.length≤sizeLine∧∃ (its:List Value) (n:Nat),Vals xs its∧h.get? a=some { cls:=.type "list",data:=.seq its.toArray n }
 | .tup xs=>xs.length≤sizeLine∧∃ its:List Value,Vals xs its∧IsTup h a its.toArray
 | .dK kvs=>kvs.length≤sizeLine∧(a == sysModules)=false∧∃ vs,KV kvs vs∧h.DictOf (mixKind P w) a vs
 | .dT kvs=>kvs.length≤sizeLine∧(a == sysModules)=false∧∃ xs:List (List Key × Addr × Value),
   Paired (fun (p:List Key × V) (q:List Key × Addr × Value)=>p.1=q.1∧H q.2.1=some (.tup (p.1.map kV))∧RelV p.2 q.2.2) kvs xs∧
   ∃ o es ep,h.get? a=some o∧o.ExactDict∧o.data=.dict es ep∧es.toList=xs.map (entryOfKey (tupleKind (mixKind P w)))∧(xs.map (·.1)).Nodup
 | .set S n=>h.SetOf (intKind P w) a S n
 | .ins C dx fs=>H dx=some (.own a)∧fs.length≤1000∧dx ≠ a∧h.get? a=some (PySem.W.instObj C dx)∧
   ∃ mA,h.Ns1 dx mA∧(∀ f,RelO (fs.lookup f) (mA f))∧PySem.Within mA (fs.map (·.1))
 | .own _=>∃ o,h.get? a=some o
 | .xd fs=>∃ mA,h.Ns1 a mA∧∀ f,RelO (fs.lookup f) (mA f)
 | .rng lo hi=>∃ t u v,h.get? a=some { cls:=.type "range",data:=.fields #[.int lo t,.int hi u,.int 1 v] }
 | .frz o u=>h.get? a=some o∧ObjOk H h a u
 | .tbl (.tab q)=>∃ more:Array Value,h.get? a=some { cls:=.none,data:=.fields more }∧TriplesOk more.toList∧∀ pos cv,codeAmong pos more.toList=some cv→∃ c,cv=.ref c∧H c=some (.tbl (.cod q))
 | .tbl (.cod q)=>h.CodeRec (.ref a) q
 | .met f x=>h.get? a=some (PySem.W.methodObj (.ref f) (.ref x))
 | .ext φ=>φ h∧(∃ o,h.get? a=some o)∧∀ h1 h2:Heap,φ h1→(∀ o,h1.get? a=some o→h2.get? a=some o)→φ h2
def HOk (H:Hp) (h:Heap):Prop:=∀ a o,H a=some o→ObjOk P w H h a o
end
section
variable {P:Program} {w:World} {H H':Hp} {h h':Heap} {a:Addr} {o:HO}
theorem ObjOk.lt (x:ObjOk P w H h a o):a<h.objs.size:=by
 cases o with
 | lst xs=>obtain ⟨_,_,_,_,e⟩:=x;exact Heap.lt_size e
 | tup xs=>obtain ⟨_,_,_,p⟩:=x;exact p.lt
 | dK kvs=>obtain ⟨_,_,_,_,o,_,_,e,_⟩:=x;exact Heap.lt_size e
 | dT kvs=>obtain ⟨_,_,_,_,o,_,_,e,_⟩:=x;exact Heap.lt_size e
 | set S n=>obtain ⟨o,_,_,_,e,_⟩:=x;exact Heap.lt_size e
 | ins C dx fs=>obtain ⟨_,_,_,e,_⟩:=x;exact Heap.lt_size e
 | own y=>obtain ⟨_,e⟩:=x;exact Heap.lt_size e
 | xd fs=>obtain ⟨_,⟨_,_,_,e,_⟩,_⟩:=x;exact Heap.lt_size e
 | rng lo hi=>obtain ⟨_,_,_,e⟩:=x;exact Heap.lt_size e
 | frz ob u=>obtain ⟨e,_⟩:=x;exact Heap.lt_size e
 | tbl t=>
  cases t with
  | tab q=>obtain ⟨_,e,_⟩:=x;exact Heap.lt_size e
  | cod q=>obtain ⟨c,o,_,_,e,g,_⟩:=x;cases e;exact Heap.lt_size g
 | met f y=>exact Heap.lt_size (show h.get? a=some _ from x)
 | ext φ=>obtain ⟨_,⟨_,e⟩,_⟩:=x;exact Heap.lt_size e
theorem Paired.mapP {α β:Type} {F G:α→β→Prop}:∀ {l₁:List α} {l₂:List β},Paired F l₁ l₂→(∀ a b,F a b→G a b)→Paired G l₁ l₂
 | _,_,.nil,_=>.nil
 | _,_,.cons r t,f=>.cons (f _ _ r) (Paired.mapP t f)
theorem ObjOk.stay (x:ObjOk P w H h a o) (k:∀ b u,(b=a∨H b=some (.own a))→h.get? b=some u→h'.get? b=some u)
  (ho:∀ b,H b=some (.own a)→H' b=some (.own a)) (ht:∀ b xs,H b=some (.tup xs)→H' b=some (.tup xs)) (hb:∀ b t,H b=some (.tbl t)→H' b=some (.tbl t):=by exact fun _ _ q=>q):ObjOk P w H' h' a o:=by
 induction o with
 | lst xs=>obtain ⟨z,its,n,r,e⟩:=x;exact ⟨z,its,n,r,k _ _ (.inl rfl) e⟩
 | tup xs=>obtain ⟨z,its,r,ob,e,c⟩:=x;exact ⟨z,its,r,ob,k _ _ (.inl rfl) e,c⟩
 | dK kvs=>obtain ⟨z,y,vs,r,ob,es,ep,e,c⟩:=x;exact ⟨z,y,vs,r,ob,es,ep,k _ _ (.inl rfl) e,c⟩
 | dT kvs=>
  obtain ⟨z,y,xs,r,ob,es,ep,e,c⟩:=x
  exact ⟨z,y,xs,Paired.mapP r fun p q z=>⟨z.1,ht _ _ z.2.1,z.2.2⟩,ob,es,ep,k _ _ (.inl rfl) e,c⟩
 | set S n=>obtain ⟨ob,es,ep,t,e,c⟩:=x;exact ⟨ob,es,ep,t,k _ _ (.inl rfl) e,c⟩
 | ins C dx fs=>
  obtain ⟨d,z,ne,e,mA,⟨od,es,ep,e2,c⟩,r⟩:=x
  exact ⟨ho _ d,z,ne,k _ _ (.inl rfl) e,mA,⟨od,es,ep,k _ _ (.inr d) e2,c⟩,r⟩
 | own y=>obtain ⟨ob,e⟩:=x;exact ⟨ob,k _ _ (.inl rfl) e⟩
 | xd fs=>obtain ⟨mA,⟨od,es,ep,e,c⟩,r⟩:=x;exact ⟨mA,⟨od,es,ep,k _ _ (.inl rfl) e,c⟩,r⟩
 | rng lo hi=>obtain ⟨t,u,v,e⟩:=x;exact ⟨t,u,v,k _ _ (.inl rfl) e⟩
 | frz ob u ih=>obtain ⟨e,q⟩:=x;exact ⟨k _ _ (.inl rfl) e,ih q⟩
 | tbl t=>
  cases t with
  | tab q=>obtain ⟨m,e,tr,c⟩:=x;exact ⟨m,k a _ (.inl rfl) e,tr,fun pos cv z=>let ⟨c',e1,e2⟩:=c pos cv z;⟨c',e1,hb _ _ e2⟩⟩
  | cod q=>obtain ⟨c,o,vs,t,e,g,r⟩:=x;cases e;exact ⟨a,o,vs,t,rfl,k a _ (.inl rfl) g,r⟩
 | met f y=>
  have e:h.get? a=some (PySem.W.methodObj (.ref f) (.ref y)):=x
  show h'.get? a=some (PySem.W.methodObj (.ref f) (.ref y))
  exact k a _ (.inl rfl) e
 | ext φ=>obtain ⟨p,⟨o,e⟩,st⟩:=x;exact ⟨st _ _ p fun o q=>k _ _ (.inl rfl) q,⟨o,k _ _ (.inl rfl) e⟩,st⟩
theorem HOk.lt (x:HOk P w H h) (e:H a=some o):a<h.objs.size:=(x a o e).lt
theorem HOk.fresh (x:HOk P w H h) (e:h.objs.size≤a):H a=none:=by
 cases q:H a with
 | none=>rfl
 | some u=>exact absurd (Nat.lt_of_lt_of_le (x.lt q) e) (Nat.lt_irrefl _)
theorem HOk.kept (x:HOk P w H h) (k:∀ b u,h.get? b=some u→h'.get? b=some u):HOk P w H h':=fun a o e=>
 (x a o e).stay (fun b u _ q=>k b u q) (fun _ q=>q) fun _ _ q=>q
theorem HOk.laid (x:HOk P w H h) (k:∀ b u,h.get? b=some u→h'.get? b=some u) (hp:h.objs.size≤a) (new:ObjOk P w (upd H a o) h' a o):HOk P w (upd H a o) h':=fun b u e=>by
 have hn:=x.fresh hp
 by_cases hb:b=a
 ·subst hb;rw [qA1] at e;cases e;exact new
 ·rw [qA8 hb] at e
  exact (x b u e).stay (fun c v _ q=>k c v q) (fun c q=>by rw [qA8 (qA5 q hn)];exact q) (fun c xs q=>by rw [qA8 (qA5 q hn)];exact q) fun c t q=>by rw [qA8 (qA5 q hn)];exact q
end
def Rd (H:Hp) (a:Addr) (u:HO):Prop:=H a=some u∨∃ o,H a=some (.frz o u)
theorem Rd.ok {P:Program} {w:World} {H:Hp} {h:Heap} {a:Addr} {u:HO} (r:Rd H a u) (x:HOk P w H h):ObjOk P w H h a u:=by
 rcases r with r | ⟨o,r⟩
 ·exact x a u r
 ·obtain ⟨_,q⟩:=x a _ r
  exact q
def Mut:Option HO→Prop
 | some (.lst _)=>True
 | some (.dK _)=>True
 | some (.dT _)=>True
 | some (.set _ _)=>True
 | some (.ins _ _ _)=>True
 | some (.ext _)=>True
 | _=>False
section
variable {P:Program} {w:World} {H:Hp} {h h':Heap} {x e:Addr} {o':HO}
theorem HOk.write (ok:HOk P w H h) (mu:Mut (H x)) (he:e=x∨H e=some (.own x)) (k:∀ b u,b ≠ e→h.get? b=some u→h'.get? b=some u) (heo:∃ u,h'.get? e=some u)
  (new:ObjOk P w (upd H x o') h' x o'):HOk P w (upd H x o') h':=fun b u q=>by
 have nown:∀ c y,H c=some (.own y)→c ≠ x:=fun c y r z=>by subst z;rw [r] at mu;exact mu
 have ntup:∀ c xs,H c=some (.tup xs)→c ≠ x:=fun c xs r z=>by subst z;rw [r] at mu;exact mu
 by_cases hb:b=x
 ·subst hb;rw [qA1] at q;cases q;exact new
 ·rw [qA8 hb] at q
  by_cases hbe:b=e
  ·have q':H b=some (.own x):=by
    rcases he with z | z
    ·exact absurd (hbe.trans z) hb
    ·rw [hbe];exact z
   rw [q] at q';cases q'
   obtain ⟨v,hv⟩:=heo
   exact ⟨v,by rw [hbe];exact hv⟩
  ·refine (ok b u q).stay (fun c v hc r=>k c v ?_ r) (fun c r=>by rw [qA8 (nown c b r)];exact r) (fun c xs r=>by rw [qA8 (ntup c xs r)];exact r) fun c t r=>by rw [qA8 (fun z=>by subst z;rw [r] at mu;exact mu)];exact r
   rcases hc with rfl | hc
   ·exact hbe
   ·rintro rfl
    rcases he with z | z
    ·exact nown c b hc z
    ·rw [hc] at z;cases z;exact hb rfl
end
structure Un (fs ex:List Addr) (H H':Hp) (h h':Heap):Prop where
 keep:∀ b o,h.get? b=some o→H b=none→b ∉ fs→b ∉ ex→h'.get? b=some o
 slot:∀ b o,h.get? b=some o→H b=none→b ∈ fs→b ∉ ex→∃ sl,h'.get? b=some { o with slots:=sl }
 free:∀ b o,h.get? b=some o→H b=none→b ∉ ex→H' b=none
 there:∀ b o,h.get? b=some o→b ∉ ex→∃ o',h'.get? b=some o'
 tups:∀ b xs,H b=some (.tup xs)→H' b=some (.tup xs)
 frzs:∀ b o u,H b=some (.frz o u)→H' b=some (.frz o u)
 tbls:∀ b ps,H b=some (.tbl ps)→H' b=some (.tbl ps)
section
variable {fs fs' ex ex':List Addr} {H H1 H2:Hp} {h h1 h2 h':Heap} {a x e:Addr} {o:HO}
theorem Un.any (u:Un fs ex H H1 h h1) {b:Addr} {ob:Obj} (q:h.get? b=some ob) (n:H b=none) (hx:b ∉ ex):∃ sl,h1.get? b=some { ob with slots:=sl }:=by
 by_cases hb:b ∈ fs
 ·exact u.slot b ob q n hb hx
 ·exact ⟨ob.slots,u.keep b ob q n hb hx⟩
theorem Un.kept (k:∀ b u,h.get? b=some u→h'.get? b=some u):Un fs ex H H h h':=
 ⟨fun b ob q _ _ _=>k b ob q,fun b ob q _ _ _=>⟨ob.slots,k b ob q⟩,fun _ _ _ n _=>n,fun b ob q _=>⟨ob,k b ob q⟩,fun _ _ q=>q,fun _ _ _ q=>q,fun _ _ q=>q⟩
theorem Un.refl:Un fs ex H H h h:=Un.kept fun _ _ q=>q
theorem Un.laid (k:∀ b u,h.get? b=some u→h'.get? b=some u) (hp:h.objs.size≤a) (hn:H a=none):Un fs ex H (upd H a o) h h' where
 keep:=fun b u q _ _ _=>k b u q
 slot:=fun b u q _ _ _=>⟨u.slots,k b u q⟩
 free:=fun b u q n _=>by rw [qA8 (Nat.ne_of_lt (Nat.lt_of_lt_of_le (Heap.lt_size q) hp))];exact n
 there:=fun b u q _=>⟨u,k b u q⟩
 tups:=fun b xs q=>by rw [qA8 (qA5 q hn)];exact q
 frzs:=fun b u xs q=>by rw [qA8 (qA5 q hn)];exact q
 tbls:=fun b ps q=>by rw [qA8 (qA5 q hn)];exact q
theorem Un.write (mu:Mut (H x)) (he:e=x∨H e=some (.own x)) (k:∀ b u,b ≠ e→h.get? b=some u→h'.get? b=some u) (heo:∃ u,h'.get? e=some u):Un fs ex H (upd H x o) h h':=by
 have hx:∀ b,H b=none→b ≠ x:=fun b n z=>by subst z;rw [n] at mu;exact mu
 have hb:∀ b,H b=none→b ≠ e:=fun b n z=>by
  subst z
  rcases he with r | r
  ·exact hx b n r
  ·rw [n] at r;cases r
 have hm:∀ b u,H b=some u→¬ Mut (some u)→b ≠ x:=fun b u q nm z=>by subst z;rw [q] at mu;exact nm mu
 refine ⟨fun b u q n _ _=>k b u (hb b n) q,fun b u q n _ _=>⟨u.slots,k b u (hb b n) q⟩,fun b u q n _=>by rw [qA8 (hx b n)];exact n,fun b u q _=>?_,
  fun b xs q=>by rw [qA8 (hm b _ q fun z=>z)];exact q,fun b u xs q=>by rw [qA8 (hm b _ q fun z=>z)];exact q,fun b ps q=>by rw [qA8 (hm b _ q fun z=>z)];exact q⟩
 by_cases hbe:b=e
 ·subst hbe;exact heo
 ·exact ⟨u,k b u hbe q⟩
end
def trk (h:Heap) (H:Hp):List Addr:=(List.range h.objs.size).filter fun a=>(H a).isSome
def hidT (h:Heap) (H:Hp):Heap:=PySem.W.hideAll h (trk h H)
theorem hidT_size (h:Heap) (H:Hp):(hidT h H).objs.size=h.objs.size:=PySem.W.hideAll_size _ _
theorem hidT_get {h:Heap} {H:Hp} {b:Addr} {o:Obj} (e:h.get? b=some o) (n:H b=none):(hidT h H).get? b=some o:=
 PySem.W.hideAll_get _ e fun hm=>by
  have q:(H b).isSome=true:=(List.mem_filter.mp hm).2
  rw [n] at q;simp at q
theorem of_hidT {h:Heap} {H:Hp} {b:Addr} {o:Obj} (e:(hidT h H).get? b=some o):h.get? b=some o∧H b=none:=by
 have e':h.get? b=some o:=PySem.W.of_hideAll (trk h H) e
 refine ⟨e',?_⟩
 cases q:H b with
 | none=>rfl
 | some x=>
  have hm:b ∈ trk h H:=List.mem_filter.mpr ⟨List.mem_range.mpr (Heap.lt_size e'),by simp [q]⟩
  have z:(hidT h H).get? b=none:=PySem.W.hideAll_none (trk h H) hm
  rw [z] at e;cases e
def allNews (g h:Heap) (L:Addr):List (Addr × Obj):=(List.range h.objs.size).filterMap fun a=>if a=L∨(g.get? a).isSome=true then none else (h.get? a).map fun o=>(a,o)
def rest (g h:Heap) (L d:Addr):List (Addr × Obj):=(allNews g h L).filter fun p=>decide (p.1 ≠ d)
end L2
namespace L2
open PySem PySem.Spec PyProof.Rows
structure Mod (K:PySem.W.Frag) (mg:Str→Option Value) (base:Heap):Prop where
 kin:K.In base
 glob:base.Ns mainGlobals mg
 blt:∃ mb,base.Ns builtinsNs mb∧∀ x:Str,x ≠ "__name__"→mb x=bootBuiltins x
 nolimit:base.NoLimit
structure Cx where
 prog:Program
 w:World
 K:PySem.W.Frag
 mg:Str→Option Value
 base:Heap
 A:Around
 N:List Str
 s₀:Shared
 H₀:Hp
 env:Env
 outer:List Env
 stack:List Env
 ex:List Addr
 fn:Str→Bool
 calm:Bool
 pn:List (Addr × Obj)
 xe:Value→Shared→Prop
def frs (l:List Env):List Addr:=l.filterMap (·.frame)
abbrev Cx.fs (X:Cx):List Addr:=frs X.outer
def Vis (sc:Scope) (x:Str):Prop:=sc.names.lookup x=some .local∨sc.names.lookup x=some .cell∨sc.names.lookup x=some .free
def Loc (sc:Scope) (x:Str):Prop:=sc.names.lookup x=some .local∨sc.names.lookup x=some .cell
def Look (env:Env) (h:Heap) (m:Str→Option Value) (x:Str) (u:Value):Prop:=
 (env.kindOf x=some .local∧m x=some u)∨((env.kindOf x=some .cell∨env.kindOf x=some .free)∧∃ c,env.cells.lookup x=some c∧h.IsCell c (some u))
structure Cx.Ok (X:Cx):Prop where
 mod:Mod X.K X.mg X.base
 kind:X.env.scope.kind=.function
 glob:X.env.globals=mainGlobals
 blt:X.env.builtins=builtinsNs
 above:X.s₀.heap.objs.size≤X.env.locals
 inj:∀ x y c,X.env.cells.lookup x=some c→X.env.cells.lookup y=some c→x=y
 has:∀ x,(X.env.kindOf x=some .cell∨X.env.kindOf x=some .free)→∃ c,X.env.cells.lookup x=some c
 cab:∀ x c,X.fn x=true→X.env.cells.lookup x=some c→X.s₀.heap.objs.size≤c
 hd:X.calm=true→X.A.handled=none
 frames:X.A.frames=some X.stack
 stk:X.stack=X.outer∨(X.stack=X.env::X.outer∧X.env.frame=some X.env.locals)
 exf:∀ b ∈ X.ex,b ≠ X.env.locals∧∀ x c,X.env.cells.lookup x=some c→c ≠ b
 bs:∀ b o,X.base.get? b=some o→X.s₀.heap.get? b=some o∧X.H₀ b=none
 bsz:X.base.objs.size≤X.s₀.heap.objs.size
 noex:∀ b o,X.base.get? b=some o→b ∉ X.ex
 exfs:∀ b ∈ X.ex,b ∉ X.fs
 funs:X.s₀.heap.FunFrames X.base X.outer
 frf:∀ b ∈ X.fs,X.H₀ b=none
structure Inv (X:Cx) (pins:List (Addr × Obj)) (σ:List (Option V)) (H:Hp) (s:Shared):Prop where
 ok:X.Ok
 os:s.os=X.s₀.os
 bare:AllBare s.gens
 base:Un X.fs X.ex X.H₀ H X.s₀.heap s.heap
 loc:∃ m,s.heap.Ns X.env.locals m∧∀ (i:Nat) (x:Str) (v:V),X.N[i]?=some x→σ[i]?=some (some v)→Vis X.env.scope x→∃ u,RelV v u∧Look X.env s.heap m x u
 cell:∀ x c,X.env.cells.lookup x=some c→∃ v,s.heap.IsCell c v
 free:H X.env.locals=none
 freeC:∀ x c,X.env.cells.lookup x=some c→H c=none
 pin:∀ p ∈ X.pn++pins,s.heap.get? p.1=some p.2∧H p.1=none∧p.1 ≠ X.env.locals∧p.1 ∉ X.fs∧∀ v,p.2.data ≠ .cell v
 hok:HOk X.prog X.w H s.heap
 len:σ.length=X.N.length
section
variable {X:Cx} {pins:List (Addr × Obj)} {σ:List (Option V)} {H H':Hp} {s:Shared} {h':Heap}
theorem Cx.Ok.nofr (ok:X.Ok) {b:Addr} {o:Obj} (e:X.base.get? b=some o):b ∉ X.fs:=fun hb=>by
 have:=(ok.funs.mem hb).1
 rw [e] at this;cases this
theorem Inv.bs (I:Inv X pins σ H s):∀ b o,X.base.get? b=some o→s.heap.get? b=some o∧H b=none:=fun b o e=>
 ⟨I.base.keep b o (I.ok.bs b o e).1 (I.ok.bs b o e).2 (I.ok.nofr e) (I.ok.noex b o e),I.base.free b o (I.ok.bs b o e).1 (I.ok.bs b o e).2 (I.ok.noex b o e)⟩
theorem Inv.bk (I:Inv X pins σ H s):∀ b o,X.base.get? b=some o→s.heap.get? b=some o:=fun b o e=>(I.bs b o e).1
theorem Inv.mod (I:Inv X pins σ H s):Mod X.K X.mg X.base:=I.ok.mod
theorem Inv.kIn (I:Inv X pins σ H s):X.K.In s.heap:=I.ok.mod.kin.keeps I.bk
theorem Inv.lt (I:Inv X pins σ H s):X.env.locals<s.heap.objs.size:=let ⟨_,hn,_⟩:=I.loc;hn.lt
theorem Inv.sz (I:Inv X pins σ H s):X.s₀.heap.objs.size≤s.heap.objs.size:=Nat.le_trans I.ok.above (Nat.le_of_lt I.lt)
theorem Inv.nofs (I:Inv X pins σ H s) {a:Addr} (h:s.heap.objs.size≤a):a ∉ X.fs:=fun hb=>by
 obtain ⟨_,o,ho,_⟩:=I.ok.funs.mem hb
 exact absurd (Nat.lt_of_lt_of_le (Heap.lt_size ho) (Nat.le_trans I.sz h)) (Nat.lt_irrefl _)
theorem Inv.cne (I:Inv X pins σ H s):∀ x c,X.env.cells.lookup x=some c→c ≠ X.env.locals:=fun x c e z=>by
 obtain ⟨v,o,ho,hd⟩:=I.cell x c e
 obtain ⟨m,⟨o',es,ep,ho',hd',_⟩,_⟩:=I.loc
 rw [z,ho'] at ho;cases ho;rw [hd'] at hd;cases hd
theorem Inv.funs (I:Inv X pins σ H s):s.heap.FunFrames X.base X.outer:=by
 have all:∀ (l:List Env),(∀ b ∈ frs l,b ∈ X.fs)→X.s₀.heap.FunFrames X.base l→s.heap.FunFrames X.base l:=by
  intro l
  induction l with
  | nil=>intro _ _;trivial
  | cons env r ih=>
   intro hs hl
   obtain ⟨hk,⟨L,o,hf,hn,ho,hd⟩,hr⟩:=hl
   have hL:L ∈ X.fs:=hs L (by unfold frs;rw [List.filterMap_cons,hf];exact List.mem_cons_self)
   obtain ⟨sl,e⟩:=I.base.slot L o ho (I.ok.frf L hL) hL fun z=>I.ok.exfs L z hL
   exact ⟨hk,⟨L,_,hf,hn,e,hd⟩,ih (fun b hb=>hs b (by unfold frs;rw [List.filterMap_cons,hf];exact List.mem_cons_of_mem _ hb)) hr⟩
 exact all X.outer (fun _ hb=>hb) I.ok.funs
theorem Inv.stack (I:Inv X pins σ H s):s.heap.FunFrames X.base X.stack:=by
 rcases I.ok.stk with e | ⟨e,hf⟩
 ·rw [e];exact I.funs
 ·rw [e]
  obtain ⟨m,hn,_⟩:=I.loc
  refine .cons (by rw [I.ok.kind];decide) hf hn ?_ I.funs
  exact Heap.get?_none_of_le (Nat.le_trans I.ok.bsz I.ok.above)
theorem Inv.stkSub (I:Inv X pins σ H s):∀ b ∈ frs X.stack,b ∈ X.env.locals::X.fs:=fun b hb=>by
 rcases I.ok.stk with e | ⟨e,hf⟩
 ·rw [e] at hb;exact List.mem_cons_of_mem _ hb
 ·rw [e] at hb
  unfold frs at hb
  rw [List.filterMap_cons,hf] at hb
  exact hb
theorem Inv.stkFree (I:Inv X pins σ H s):∀ b ∈ frs X.stack,H b=none:=fun b hb=>by
 rcases List.mem_cons.mp (I.stkSub b hb) with e | hb
 ·rw [e];exact I.free
 ·obtain ⟨_,o,ho,_⟩:=I.ok.funs.mem hb
  exact I.base.free b o ho (I.ok.frf b hb) fun z=>I.ok.exfs b z hb
theorem Inv.step {g':Array GenState} {t':Nat} {d':Drawn} {ch:List Addr} (I:Inv X pins σ H s)
  (hch:∀ b ∈ ch,(b ∈ X.ex∨X.s₀.heap.objs.size≤b)∧b ≠ X.env.locals∧(∀ x c,X.env.cells.lookup x=some c→c ≠ b)∧∀ p ∈ X.pn++pins,p.1 ≠ b)
  (keep:∀ b o,b ≠ X.env.locals→b ∉ X.fs→b ∉ ch→s.heap.get? b=some o→H b=none→h'.get? b=some o)
  (slot:∀ b o,b ≠ X.env.locals→b ∈ X.fs→b ∉ ch→s.heap.get? b=some o→H b=none→∃ sl,h'.get? b=some { o with slots:=sl }) (free:∀ b o,b ∉ ch→s.heap.get? b=some o→H b=none→H' b=none)
  (there:∀ b o,b ∉ ch→s.heap.get? b=some o→∃ o',h'.get? b=some o')
  (tups:∀ b xs,H b=some (.tup xs)→H' b=some (.tup xs)) (frzs:∀ b o u,H b=some (.frz o u)→H' b=some (.frz o u)) (tbls:∀ b ps,H b=some (.tbl ps)→H' b=some (.tbl ps))
  (ns:∀ m,s.heap.Ns X.env.locals m→h'.Ns X.env.locals m) (hok:HOk X.prog X.w H' h') (hg:AllBare g') :
  Inv X pins σ H' { s with heap:=h',gens:=g',drawn:=d',toks:=t' }:=by
 have neL:∀ b o,X.s₀.heap.get? b=some o→b ≠ X.env.locals:=fun b o e=>Nat.ne_of_lt (Nat.lt_of_lt_of_le (Heap.lt_size e) I.ok.above)
 have neC:∀ b o,X.s₀.heap.get? b=some o→b ∉ X.ex→b ∉ ch:=fun b o e hx hb=>by
  rcases (hch b hb).1 with z | z
  ·exact hx z
  ·exact absurd (Nat.lt_of_lt_of_le (Heap.lt_size e) z) (Nat.lt_irrefl _)
 have cellK:∀ x c,X.env.cells.lookup x=some c→∀ v,s.heap.IsCell c v→h'.IsCell c v:=fun x c e v ⟨o,ho,hd⟩=>by
  have nch:c ∉ ch:=fun z=>(hch c z).2.2.1 x c e rfl
  by_cases hc:c ∈ X.fs
  ·obtain ⟨sl,q⟩:=slot c o (I.cne x c e) hc nch ho (I.freeC x c e)
   exact ⟨_,q,hd⟩
  ·exact ⟨o,keep c o (I.cne x c e) hc nch ho (I.freeC x c e),hd⟩
 refine ⟨I.ok,I.os,hg,⟨fun b o e n hb hx=>?_,fun b o e n hb hx=>?_,fun b o e n hx=>?_,fun b o e hx=>?_,fun b xs e=>tups b xs (I.base.tups b xs e),fun b o xs e=>frzs b o xs (I.base.frzs b o xs e),fun b ps e=>?_⟩,?_,fun x c e=>?_,?_,fun x c e=>?_,fun p hp=>?_,hok,I.len⟩
 ·exact keep b o (neL b o e) hb (neC b o e hx) (I.base.keep b o e n hb hx) (I.base.free b o e n hx)
 ·obtain ⟨sl,e1⟩:=I.base.slot b o e n hb hx
  obtain ⟨sl',e2⟩:=slot b _ (neL b o e) hb (neC b o e hx) e1 (I.base.free b o e n hx)
  exact ⟨sl',e2⟩
 ·obtain ⟨o',e1⟩:=I.base.there b o e hx
  exact free b o' (neC b o e hx) e1 (I.base.free b o e n hx)
 ·obtain ⟨o',e1⟩:=I.base.there b o e hx
  exact there b o' (neC b o e hx) e1
 ·exact tbls b ps (I.base.tbls b ps e)
 ·obtain ⟨m,hn,hl⟩:=I.loc
  refine ⟨m,ns m hn,fun i x v e1 e2 e3=>?_⟩
  obtain ⟨u,r,l⟩:=hl i x v e1 e2 e3
  refine ⟨u,r,?_⟩
  rcases l with l | ⟨k,c,e,z⟩
  ·exact .inl l
  ·exact .inr ⟨k,c,e,cellK x c e _ z⟩
 ·obtain ⟨v,z⟩:=I.cell x c e
  exact ⟨v,cellK x c e v z⟩
 ·obtain ⟨m,⟨o,_,_,ho,_⟩,_⟩:=I.loc
  exact free _ o (fun z=>(hch _ z).2.1 rfl) ho I.free
 ·obtain ⟨v,o,ho,hd⟩:=I.cell x c e
  exact free c o (fun z=>(hch c z).2.2.1 x c e rfl) ho (I.freeC x c e)
 ·obtain ⟨e,n,ne,nf,d⟩:=I.pin p hp
  have nch:p.1 ∉ ch:=fun z=>(hch p.1 z).2.2.2 p hp rfl
  exact ⟨keep p.1 p.2 ne nf nch e n,free p.1 p.2 nch e n,ne,nf,d⟩
theorem Inv.un {t':Nat} (I:Inv X pins σ H s) (u:Un X.fs [] H H' s.heap h') (hok:HOk X.prog X.w H' h'):Inv X pins σ H' { s with heap:=h',toks:=t' }:=by
 obtain ⟨m,⟨o,es,ep,ho,r⟩,_⟩:=id I.loc
 obtain ⟨sl,hL⟩:=u.any ho I.free (by simp)
 exact I.step (g':=s.gens) (d':=s.drawn) (ch:=[]) (fun _ z=>nomatch z) (fun b o _ hb _ e n=>u.keep b o e n hb (by simp)) (fun b o _ hb _ e n=>u.slot b o e n hb (by simp)) (fun b o _ e n=>u.free b o e n (by simp)) (fun b o _ e=>u.there b o e (by simp)) u.tups u.frzs u.tbls (fun m' hm=>by
  obtain ⟨o',es',ep',ho',r'⟩:=hm
  rw [ho] at ho';cases ho'
  exact ⟨_,es',ep',hL,r'⟩) hok I.bare
theorem Inv.call {g':Array GenState} {t':Nat} {d':Drawn} {ch:List Addr} (I:Inv X pins σ H s) (u:Un (frs X.stack) ch H H' s.heap h') (hok:HOk X.prog X.w H' h') (hg:AllBare g')
  (hch:∀ b ∈ ch,(b ∈ X.ex∨X.s₀.heap.objs.size≤b)∧b ≠ X.env.locals∧(∀ x c,X.env.cells.lookup x=some c→c ≠ b)∧∀ p ∈ X.pn++pins,p.1 ≠ b) :
  Inv X pins σ H' { s with heap:=h',gens:=g',drawn:=d',toks:=t' }:=by
 obtain ⟨m,⟨o,es,ep,ho,r⟩,_⟩:=id I.loc
 obtain ⟨sl,hL⟩:=u.any ho I.free fun z=>(hch _ z).2.1 rfl
 exact I.step (ch:=ch) hch (fun b o hL hb hc e n=>u.keep b o e n (fun z=>(List.mem_cons.mp (I.stkSub b z)).elim hL hb) hc) (fun b o _ _ hc e n=>u.any e n hc) (fun b o hc e n=>u.free b o e n hc) (fun b o hc e=>u.there b o e hc) u.tups u.frzs u.tbls (fun m' hm=>by
  obtain ⟨o',es',ep',ho',r'⟩:=hm
  rw [ho] at ho';cases ho'
  exact ⟨_,es',ep',hL,r'⟩) hok hg
theorem Inv.turned {t':Nat} {it:Addr} (I:Inv X pins σ H s) (k:∀ b o,b ≠ it→s.heap.get? b=some o→h'.get? b=some o) (hn:H it=none) (hL:it ≠ X.env.locals)
  (h1:it ∈ X.ex∨X.s₀.heap.objs.size≤it) (h2:∀ x c,X.env.cells.lookup x=some c→c ≠ it) (h3:∀ p ∈ X.pn++pins,p.1 ≠ it):Inv X pins σ H { s with heap:=h',toks:=t' }:=by
 have nit:∀ b u,H b=some u→b ≠ it:=fun b u e z=>by rw [z,hn] at e;cases e
 refine I.step (g':=s.gens) (d':=s.drawn) (ch:=[it]) (fun b hb=>?_) (fun b o _ _ hc e _=>k b o (fun z=>hc (by simp [z])) e) (fun b o _ _ hc e _=>⟨o.slots,k b o (fun z=>hc (by simp [z])) e⟩) (fun _ _ _ _ n=>n)
  (fun b o hc e=>⟨o,k b o (fun z=>hc (by simp [z])) e⟩) (fun _ _ e=>e) (fun _ _ _ e=>e) (fun _ _ e=>e) (fun m hm=>?_) (fun b u e=>?_) I.bare
 ·have e:b=it:=by simpa using hb
  subst e
  exact ⟨h1,hL,h2,h3⟩
 ·obtain ⟨o,es,ep,ho,r⟩:=hm
  exact ⟨o,es,ep,k _ o (Ne.symm hL) ho,r⟩
 ·refine (I.hok b u e).stay (fun c v hc q=>k c v ?_ q) (fun _ q=>q) fun _ _ q=>q
  rcases hc with z | z
  ·rw [z];exact nit b u e
  ·exact nit c _ z
theorem Inv.tok (I:Inv X pins σ H s) (t:Nat):Inv X pins σ H { s with toks:=t }:=I.un (h':=s.heap) (t':=t) Un.refl I.hok
theorem Inv.kept {t':Nat} (I:Inv X pins σ H s) (k:∀ b u,s.heap.get? b=some u→h'.get? b=some u):Inv X pins σ H { s with heap:=h',toks:=t' }:=I.un (Un.kept k) (I.hok.kept k)
theorem Inv.laid {a:Addr} {o:HO} {t':Nat} (I:Inv X pins σ H s) (k:∀ b u,s.heap.get? b=some u→h'.get? b=some u) (hp:s.heap.objs.size≤a) (new:ObjOk X.prog X.w (upd H a o) h' a o) :
  Inv X pins σ (upd H a o) { s with heap:=h',toks:=t' }:=I.un (Un.laid k hp (I.hok.fresh hp)) (I.hok.laid k hp new)
theorem Inv.write {x e:Addr} {o:HO} {t':Nat} (I:Inv X pins σ H s) (mu:Mut (H x)) (he:e=x∨H e=some (.own x)) (k:∀ b u,b ≠ e→s.heap.get? b=some u→h'.get? b=some u) (heo:∃ u,h'.get? e=some u)
  (new:ObjOk X.prog X.w (upd H x o) h' x o):Inv X pins σ (upd H x o) { s with heap:=h',toks:=t' }:=I.un (Un.write mu he k heo) (I.hok.write mu he k heo new)
theorem Inv.pins_of {pins':List (Addr × Obj)} (I:Inv X pins σ H s) (h:∀ p ∈ pins',s.heap.get? p.1=some p.2∧H p.1=none∧p.1 ≠ X.env.locals∧p.1 ∉ X.fs∧∀ v,p.2.data ≠ .cell v):Inv X pins' σ H s:=
 ⟨I.ok,I.os,I.bare,I.base,I.loc,I.cell,I.free,I.freeC,fun p hp=>(List.mem_append.mp hp).elim (fun z=>I.pin p (List.mem_append_left _ z)) (h p),I.hok,I.len⟩
theorem nodup_ix {N:List Str} (hN:N.Nodup) {i j:Nat} {x:Str} (a:N[i]?=some x) (b:N[j]?=some x):i=j:=by
 obtain ⟨h1,e1⟩:=List.getElem?_eq_some_iff.mp a
 obtain ⟨h2,e2⟩:=List.getElem?_eq_some_iff.mp b
 exact (List.getElem_inj hN).mp (e1.trans e2.symm)
theorem store_ok2 {M:Model} {A:Around} {E:Value→Shared→Prop} {i:Nat} {x:Str} {v:V} {u:Value} {Q:Unit→Shared→Prop} (I:Inv X pins σ H s) (hN:X.N.Nodup) (hi:X.N[i]?=some x) (hx:Loc X.env.scope x) (r:RelV v u)
  (h:∀ s',Inv X pins (σ.set i (some v)) H s'→(∃ a,Heap.SameBut a s.heap s'.heap∧(a=X.env.locals∨X.env.cells.lookup x=some a))→Q () s') (hf:X.fn x=true∨X.env.scope.names.lookup x=some .local:=by first | exact .inl rfl | exact .inr rfl | assumption):wpAny M A (storeName X.env x u) Q E s:=by
 obtain ⟨m,hn,hl⟩:=id I.loc
 have hcls:(X.env.scope.kind == .class || (X.env.scope.kind == .module && X.env.locals != X.env.globals))=false:=by rw [I.ok.kind];rfl
 have hiσ:i<σ.length:=by rw [I.len];exact (List.getElem?_eq_some_iff.mp hi).1
 have cne:=I.cne
 have tracked:∀ {a:Addr} {h':Heap},(∃ o,s.heap.get? a=some o∧H a=none)→Heap.SameBut a s.heap h'→HOk X.prog X.w H h':=fun {a h'} ha hs b ob e=>by
  obtain ⟨_,_,hfree⟩:=ha
  refine (I.hok b ob e).stay (fun c w' hc q=>(hs.2 c ?_).trans q) (fun _ q=>q) fun _ _ q=>q
  rintro rfl
  rcases hc with rfl | hc
  ·rw [hfree] at e;cases e
  ·rw [hfree] at hc;cases hc
 rcases hx with hk | hk
 ·refine wpAny_storeName_local hk hn (fun h' hn' hs=>?_) hcls
  obtain ⟨oL,_,_,hoL,_⟩:=id hn
  refine h _ ⟨I.ok,I.os,I.bare,⟨fun b o e n hb hx=>?_,fun b o e n hb hx=>?_,I.base.free,fun b o e hx=>?_,I.base.tups,I.base.frzs,I.base.tbls⟩,⟨_,hn',fun j y v' e1 e2 e3=>?_⟩,fun y c e=>?_,I.free,I.freeC,fun p hp=>?_,tracked ⟨oL,hoL,I.free⟩ hs,by simpa using I.len⟩ ⟨_,hs,.inl rfl⟩
  ·exact (hs.2 b (Nat.ne_of_lt (Nat.lt_of_lt_of_le (Heap.lt_size e) I.ok.above))).trans (I.base.keep b o e n hb hx)
  ·obtain ⟨sl,e1⟩:=I.base.slot b o e n hb hx
   exact ⟨sl,(hs.2 b (Nat.ne_of_lt (Nat.lt_of_lt_of_le (Heap.lt_size e) I.ok.above))).trans e1⟩
  ·obtain ⟨o',e1⟩:=I.base.there b o e hx
   exact ⟨o',(hs.2 b (Nat.ne_of_lt (Nat.lt_of_lt_of_le (Heap.lt_size e) I.ok.above))).trans e1⟩
  ·by_cases hj:j=i
   ·subst hj
    rw [hi] at e1;cases e1
    rw [List.getElem?_set_self hiσ] at e2
    cases e2
    exact ⟨u,r,.inl ⟨hk,by simp⟩⟩
   ·rw [List.getElem?_set_ne (Ne.symm hj)] at e2
    obtain ⟨u',r',q⟩:=hl j y v' e1 e2 e3
    refine ⟨u',r',?_⟩
    rcases q with ⟨k,e⟩ | ⟨k,c,e,z⟩
    ·refine .inl ⟨k,?_⟩
     have:y ≠ x:=fun e=>hj (nodup_ix hN e1 (e ▸ hi))
     simp [this,e]
    ·exact .inr ⟨k,c,e,z.sameBut hs (cne y c e)⟩
  ·obtain ⟨w',z⟩:=I.cell y c e
   exact ⟨w',z.sameBut hs (cne y c e)⟩
  ·obtain ⟨e,n,ne,nf,d⟩:=I.pin p hp
   exact ⟨(hs.2 p.1 ne).trans e,n,ne,nf,d⟩
 ·have hfn:X.fn x=true:=by
   rcases hf with z | z
   ·exact z
   ·rw [z] at hk;cases hk
  obtain ⟨c,hc⟩:=I.ok.has x (.inl hk)
  obtain ⟨w',z⟩:=I.cell x c hc
  refine wpAny_storeName_cell I.ok.kind hk hc z (fun h' hc' hs=>?_)
  obtain ⟨oc,hoc,hocd⟩:=id z
  refine h { s with heap:=h' } ⟨I.ok,I.os,I.bare,⟨fun b o e n hb hx=>?_,fun b o e n hb hx=>?_,I.base.free,fun b o e hx=>?_,I.base.tups,I.base.frzs,I.base.tbls⟩,⟨m,hn.sameBut hs (Ne.symm (cne x c hc)),fun j y v' e1 e2 e3=>?_⟩,fun y c' e=>?_,I.free,I.freeC,fun p hp=>?_,tracked ⟨oc,hoc,I.freeC x c hc⟩ hs,by simpa using I.len⟩ ⟨c,hs,.inr hc⟩
  ·exact (hs.2 b (Nat.ne_of_lt (Nat.lt_of_lt_of_le (Heap.lt_size e) (I.ok.cab x c hfn hc)))).trans (I.base.keep b o e n hb hx)
  ·obtain ⟨sl,e1⟩:=I.base.slot b o e n hb hx
   exact ⟨sl,(hs.2 b (Nat.ne_of_lt (Nat.lt_of_lt_of_le (Heap.lt_size e) (I.ok.cab x c hfn hc)))).trans e1⟩
  ·obtain ⟨o',e1⟩:=I.base.there b o e hx
   exact ⟨o',(hs.2 b (Nat.ne_of_lt (Nat.lt_of_lt_of_le (Heap.lt_size e) (I.ok.cab x c hfn hc)))).trans e1⟩
  ·by_cases hj:j=i
   ·subst hj
    rw [hi] at e1;cases e1
    rw [List.getElem?_set_self hiσ] at e2
    cases e2
    exact ⟨u,r,.inr ⟨.inl hk,c,hc,hc'⟩⟩
   ·rw [List.getElem?_set_ne (Ne.symm hj)] at e2
    obtain ⟨u',r',q⟩:=hl j y v' e1 e2 e3
    refine ⟨u',r',?_⟩
    rcases q with q | ⟨k,c',e,z'⟩
    ·exact .inl q
    ·refine .inr ⟨k,c',e,z'.sameBut hs ?_⟩
     rintro rfl
     exact hj (nodup_ix hN e1 (I.ok.inj _ _ _ e hc ▸ hi))
  ·by_cases hcc:c'=c
   ·subst hcc;exact ⟨_,hc'⟩
   ·obtain ⟨w2,z2⟩:=I.cell y c' e
    exact ⟨w2,z2.sameBut hs hcc⟩
  ·obtain ⟨e,n,ne,nf,d⟩:=I.pin p hp
   refine ⟨(hs.2 p.1 ?_).trans e,n,ne,nf,d⟩
   intro q
   rw [q,hoc] at e
   have q':oc=p.2:=Option.some.inj e
   exact d w' (by rw [← q'];exact hocd)
theorem store_ok {M:Model} {A:Around} {E:Value→Shared→Prop} {i:Nat} {x:Str} {v:V} {u:Value} {Q:Unit→Shared→Prop} (I:Inv X pins σ H s) (hN:X.N.Nodup) (hi:X.N[i]?=some x) (hx:Loc X.env.scope x) (r:RelV v u)
  (h:∀ s',Inv X pins (σ.set i (some v)) H s'→Q () s') (hf:X.fn x=true∨X.env.scope.names.lookup x=some .local:=by first | exact .inl rfl | exact .inr rfl | assumption):wpAny M A (storeName X.env x u) Q E s:=
 store_ok2 I hN hi hx r (fun s' I' _=>h s' I') hf
theorem Inv.call' {s':Shared} {ch:List Addr} (I:Inv X pins σ H s) (ho:s'.os=s.os) (u:Un (frs X.stack) ch H H' s.heap s'.heap) (hok:HOk X.prog X.w H' s'.heap) (hg:AllBare s'.gens)
  (hch:∀ b ∈ ch,(b ∈ X.ex∨X.s₀.heap.objs.size≤b)∧b ≠ X.env.locals∧(∀ x c,X.env.cells.lookup x=some c→c ≠ b)∧∀ p ∈ X.pn++pins,p.1 ≠ b):Inv X pins σ H' s':=by
 obtain ⟨h',g',d',t',o'⟩:=s'
 have e:o'=s.os:=ho
 subst e
 exact I.call (g':=g') (t':=t') (d':=d') u hok hg hch
end
abbrev XK:=Value→Option Addr→Hp→Prop
abbrev St:=List (Option V)
abbrev VK:=V→Hp→Prop
abbrev TE:=St→Hp→VK→Prop
abbrev TT:=St→Hp→(Bool→Hp→Prop)→Prop
abbrev TA:=St→Hp→(List V→Hp→Prop)→Prop
structure Ends where
 nx:St→Hp→Prop
 rt:VK
 bk:St→Hp→Prop:=fun _ _=>False
 ct:St→Hp→Prop:=fun _ _=>False
abbrev TS:=Ends→St→Hp→Prop
def EP (X:Cx) (pins:List (Addr × Obj)) (σ:St) (Q:VK) (u:Value) (s':Shared):Prop:=∃ v H',Inv X pins σ H' s'∧RelV v u∧Q v H'
def TP (X:Cx) (pins:List (Addr × Obj)) (σ:St) (Q:Bool→Hp→Prop) (b:Bool) (s':Shared):Prop:=∃ H',Inv X pins σ H' s'∧Q b H'
def AP (X:Cx) (pins:List (Addr × Obj)) (σ:St) (Q:List V→Hp→Prop) (us:List Value) (s':Shared):Prop:=∃ vs H',Inv X pins σ H' s'∧Vals vs us∧Q vs H'
def SP (X:Cx) (pins:List (Addr × Obj)) (D:Ends) (f:Flow) (s':Shared):Prop:=
 match f with
 | .next=>∃ σ' H',Inv X pins σ' H' s'∧D.nx σ' H'
 | .brk=>∃ σ' H',Inv X pins σ' H' s'∧D.bk σ' H'
 | .cont=>∃ σ' H',Inv X pins σ' H' s'∧D.ct σ' H'
 | .ret u=>∃ v σ' H',Inv X pins σ' H' s'∧RelV v u∧D.rt v H'
def PE (X:Cx) (e:Expr) (t:TE):Prop:=
 ∀ (pins:List (Addr × Obj)) (s:Shared) (σ:St) (H:Hp) (Q:VK),Inv X pins σ H s→t σ H Q→wpAny (model X.prog X.w) X.A (eval e X.env) (EP X pins σ Q) X.xe s
def PT (X:Cx) (e:Expr) (t:TT):Prop:=
 ∀ (pins:List (Addr × Obj)) (s:Shared) (σ:St) (H:Hp) (Q:Bool→Hp→Prop),Inv X pins σ H s→t σ H Q→wpAny (model X.prog X.w) X.A (isTrue e X.env (eval e X.env)) (TP X pins σ Q) X.xe s
def PW (X:Cx) (e:Expr) (t:TT):Prop:=
 ∀ (whole:Sem Value) (pins:List (Addr × Obj)) (s:Shared) (σ:St) (H:Hp) (Q:Bool→Hp→Prop),Inv X pins σ H s→t σ H Q→wpAny (model X.prog X.w) X.A (isTrue e X.env whole) (TP X pins σ Q) X.xe s
theorem PW.pt {X:Cx} {e:Expr} {t:TT} (h:PW X e t):PT X e t:=h _
def PA (X:Cx) (es:List Expr) (t:TA):Prop:=
 ∀ (pos:Pos) (pins:List (Addr × Obj)) (s:Shared) (σ:St) (H:Hp) (Q:List V→Hp→Prop),Inv X pins σ H s→t σ H Q→wpAny (model X.prog X.w) X.A (spliced (backTo pos (starEach es X.env))) (AP X pins σ Q) X.xe s
def PS (X:Cx) (st:Stmt) (t:TS):Prop:=
 ∀ (pins:List (Addr × Obj)) (s:Shared) (σ:St) (H:Hp) (D:Ends),Inv X pins σ H s→t D σ H→wpAny (model X.prog X.w) X.A (exec st X.env) (SP X pins D) X.xe s
def PSs (X:Cx) (st:List Stmt) (t:TS):Prop:=
 ∀ (pins:List (Addr × Obj)) (s:Shared) (σ:St) (H:Hp) (D:Ends),Inv X pins σ H s→t D σ H→wpAny (model X.prog X.w) X.A (execs st X.env) (SP X pins D) X.xe s
theorem thn {α:Type} {t:Sem α} {Q Q':α→Shared→Prop} {M:Model} {A:Around} {E:Value→Shared→Prop} {s:Shared} (h:wpAny M A t Q E s) (hQ:∀ a s,Q a s→Q' a s):wpAny M A t Q' E s:=wpAny_mono h hQ fun _ _ x=>x
end L2
namespace L2
open PySem PySem.Spec PyProof.Rows
section
variable {X:Cx}
theorem bin {a b:Expr} {ta tb:TE} (ha:PE X a ta) (hb:PE X b tb) {pins:List (Addr × Obj)} {s:Shared} {σ:St} {H:Hp} {R:V→V→Hp→Prop} (I:Inv X pins σ H s) (h:ta σ H fun x H1=>tb σ H1 fun y H2=>R x y H2)
  {α:Type} {Q:α→Shared→Prop} {f:Value→Value→Sem α}
  (hf:∀ v u s2 x y H2,Inv X pins σ H2 s2→RelV x v→RelV y u→R x y H2→wpAny (model X.prog X.w) X.A (f v u) Q X.xe s2) :
  wpAny (model X.prog X.w) X.A (eval a X.env) (fun v s₁=>wpAny (model X.prog X.w) X.A (eval b X.env) (fun u s₂=>wpAny (model X.prog X.w) X.A (f v u) Q X.xe s₂) X.xe s₁) X.xe s:=by
 refine thn (ha pins s σ H _ I h) fun v s1 ⟨x,H1,I1,r1,q1⟩=>?_
 refine thn (hb pins s1 σ H1 _ I1 q1) fun u s2 ⟨y,H2,I2,r2,q2⟩=>?_
 exact hf v u s2 x y H2 I2 r1 r2 q2
def tVar (i:Nat):TE:=fun σ H Q=>∃ v,σ[i]?=some (some v)∧Q v H
def tC (v:V):TE:=fun _ H Q=>Q v H
theorem pe_var {i:Nat} {x:Str} {pos:Pos} (hN:X.N[i]?=some x) (hv:Vis X.env.scope x) (hd:(x == ("__debug__" : Str))=false:=by decide) (hcd:(x == ("__classdict__" : Str))=false:=by decide):PE X (.Name x pos) (tVar i):=by
 intro pins s σ H Q I h
 obtain ⟨v,e,h⟩:=h
 obtain ⟨m,hn,hl⟩:=I.loc
 obtain ⟨u,r,l⟩:=hl i x v hN e hv
 have fin:EP X pins σ Q u s:=⟨v,H,I,r,h⟩
 rcases l with ⟨hk,hm⟩ | ⟨hk,c,hc,hcell⟩
 ·exact wpAny_Name (wpAny_loadName_local I.ok.kind hk hn hm fin) hd
 ·rcases hk with hk | hk
  ·exact wpAny_Name (wpAny_loadName_cell I.ok.kind hk hc hcell fin) hd
  ·exact wpAny_Name (wpAny_loadName_free I.ok.kind hk hc hcell fin hcd) hd
theorem qA7 {i j pos}:PE X (.Constant (.int i) j pos) (tC (.int i)):=fun _ _ _ H _ I h=>wpAny_Constant_int ⟨.int i,H,I.tok _,⟨_,rfl⟩,h⟩
theorem pe_bl {b j pos}:PE X (.Constant (.bool b) j pos) (tC (.bl b)):=fun _ _ _ H _ I h=>Constant_bool ⟨.bl b,H,I,rfl,h⟩
theorem pe_non {j pos}:PE X (.Constant .none j pos) (tC .non):=fun _ _ _ H _ I h=>Constant_none ⟨.non,H,I,rfl,h⟩
theorem qAL {x j pos}:PE X (.Constant (.str x) j pos) (tC (.str x)):=fun _ _ _ H _ I h=>Calls.Constant_str ⟨.str x,H,I.tok _,⟨_,rfl⟩,h⟩
def Gl (X:Cx) (x:Str):Prop:=X.env.kindOf x=some .globalImplicit
theorem ld_glob {E:Value→Shared→Prop} {pins:List (Addr × Obj)} {s:Shared} {σ:St} {H:Hp} {x:Str} {u:Value} {pos:Pos} {Q:Value→Shared→Prop} (I:Inv X pins σ H s) (hg:Gl X x) (hm:X.mg x=some u) (h:Q u s)
  (hd:(x == ("__debug__" : Str))=false:=by decide):wpAny (model X.prog X.w) X.A (eval (.Name x pos) X.env) Q E s:=
 Calls.Name_function_global I.ok.kind hg (Calls.loadGlobal_global (by rw [I.ok.glob];exact I.mod.glob.keeps I.bk) hm h) hd
theorem ld_blt {E:Value→Shared→Prop} {pins:List (Addr × Obj)} {s:Shared} {σ:St} {H:Hp} {x:Str} {u:Value} {pos:Pos} {Q:Value→Shared→Prop} (I:Inv X pins σ H s) (hg:Gl X x) (hm:X.mg x=none) (hv:bootBuiltins x=some u) (h:Q u s)
  (hn:x ≠ "__name__":=by decide) (hd:(x == ("__debug__" : Str))=false:=by decide):wpAny (model X.prog X.w) X.A (eval (.Name x pos) X.env) Q E s:=by
 obtain ⟨mb,h1,h2⟩:=I.mod.blt
 exact Calls.Name_function_global I.ok.kind hg (Calls.loadGlobal_builtin (by rw [I.ok.glob];exact I.mod.glob.keeps I.bk) hm (by rw [I.ok.blt];exact h1.keeps I.bk) ((h2 x hn).trans hv) h) hd
variable {a b:Expr} {ta tb:TE} {pos:Pos}
def PC (X:Cx) (op:CmpOp) (a b:Expr) (t:TE):Prop:=
 ∀ (pins:List (Addr × Obj)) (s:Shared) (σ:St) (H:Hp) (Q:VK),Inv X pins σ H s→t σ H Q→
  wpAny (model X.prog X.w) X.A (eval a X.env) (fun v s₁=>wpAny (model X.prog X.w) X.A (eval b X.env) (fun u s₂=>wpAny (model X.prog X.w) X.A (compareOp op v u) (EP X pins σ Q) X.xe s₂) X.xe s₁) X.xe s
theorem nobehind (b:Expr) {op:CmpOp} (h:op ≠ .In) (h2:op ≠ .NotIn):behindInMarks op b=false:=by
 have e1:(op == CmpOp.In)=false:=by cases op <;> first | rfl | exact absurd rfl h
 have e2:(op == CmpOp.NotIn)=false:=by cases op <;> first | rfl | exact absurd rfl h2
 cases b <;> simp [behindInMarks,e1,e2]
def tIsN (ta:TE):TE:=fun σ H Q=>ta σ H fun x H1=>Q (.bl (decide (x=.non))) H1
def tNotN (ta:TE):TE:=fun σ H Q=>ta σ H fun x H1=>Q (.bl (!decide (x=.non))) H1
theorem RelV.none_iff {x:V} {v:Value} (r:RelV x v):(v == Value.none)=decide (x=.non):=by
 cases x with
 | non=>cases r;rfl
 | bl _=>cases r;rfl
 | int _=>obtain ⟨t,rfl⟩:=r;rfl
 | str _=>obtain ⟨t,rfl⟩:=r;rfl
 | byt _=>obtain ⟨t,rfl⟩:=r;rfl
 | flt _=>obtain ⟨t,rfl⟩:=r;rfl
 | ref _=>cases r;rfl
 | ty _=>cases r;rfl
theorem pc_isN {j pos'} (ha:PE X a ta):PC X .Is a (.Constant .none j pos') (tIsN ta):=by
 intro pins s σ H Q I h
 refine thn (ha pins s σ H _ I h) fun v s1 ⟨x,H1,I1,r1,q1⟩=>?_
 exact Constant_none (is_none_gen ⟨.bl _,H1,I1,by rw [r1.none_iff];rfl,q1⟩)
theorem pc_notN {j pos'} (ha:PE X a ta):PC X .IsNot a (.Constant .none j pos') (tNotN ta):=by
 intro pins s σ H Q I h
 refine thn (ha pins s σ H _ I h) fun v s1 ⟨x,H1,I1,r1,q1⟩=>?_
 exact Constant_none (isnot_none_gen ⟨.bl _,H1,I1,by rw [r1.none_iff];rfl,q1⟩)
def tB (t:TE):TT:=fun σ H Q=>t σ H fun x H1=>∃ c,x=.bl c∧Q c H1
theorem pt_cmp {op:CmpOp} {t:TE} (h:PC X op a b t) (h1:behindInMarks op b=false:=by first | exact nobehind _ (by decide) (by decide) | rfl):PT X (.Compare a [op] [b] pos) (tB t):=by
 intro pins s σ H Q I hw
 refine wpAny_isTrue_Compare1 (thn (h pins s σ H _ I hw) fun v s1 h1=>thn h1 fun u s2 h2=>thn h2 fun c s3 ⟨x,H1,I1,r1,q1⟩=>?_) h1
 obtain ⟨d,rfl,q⟩:=q1
 cases r1
 exact wpAny_truthy_bool ⟨H1,I1,q⟩
theorem pt_val {e:Expr} {t:TE} (h:PE X e t) (he:∀ whole,isTrue e X.env whole=(do let v ← whole;standAt e.pos;holding [v] (truthy v)):=by intro _;rfl):PT X e (tB t):=by
 intro pins s σ H Q I hw
 refine isTrue_plain (thn (h pins s σ H _ I hw) fun v s1 ⟨x,H1,I1,r1,q1⟩=>?_) (he _)
 obtain ⟨d,rfl,q⟩:=q1
 cases r1
 exact wpAny_truthy_bool ⟨H1,I1,q⟩
variable {tA tB':TT} {rest:List Expr}
def tAnd (t u:TT):TT:=fun σ H Q=>t σ H fun c H1=>if c=true then u σ H1 Q else Q false H1
def tOr (t u:TT):TT:=fun σ H Q=>t σ H fun c H1=>if c=true then Q true H1 else u σ H1 Q
def tNot (t:TT):TT:=fun σ H Q=>t σ H fun c H1=>Q (!c) H1
theorem pw_and1 (ha:PT X a tA):PW X (.BoolOp .And [a] pos) tA:=by
 intro wh pins s σ H Q I h
 refine isTrue_and (thn (ha pins s σ H Q I h) fun c s1 e=>?_)
 cases c with
 | true=>exact isTrue_and_nil e
 | false=>exact e
theorem pw_or1 (ha:PT X a tA):PW X (.BoolOp .Or [a] pos) tA:=by
 intro wh pins s σ H Q I h
 refine isTrue_or (thn (ha pins s σ H Q I h) fun c s1 e=>?_)
 cases c with
 | false=>exact isTrue_or_nil e
 | true=>exact e
theorem pw_and (ha:PT X a tA) (hb:PW X (.BoolOp .And (b::rest) pos) tB'):PW X (.BoolOp .And (a::b::rest) pos) (tAnd tA tB'):=by
 intro wh pins s σ H Q I h
 refine isTrue_and (thn (ha pins s σ H _ I h) fun c s1 ⟨H1,I1,q1⟩=>?_)
 cases c with
 | true=>exact hb wh pins s1 σ H1 Q I1 q1
 | false=>exact ⟨H1,I1,q1⟩
theorem pw_or (ha:PT X a tA) (hb:PW X (.BoolOp .Or (b::rest) pos) tB'):PW X (.BoolOp .Or (a::b::rest) pos) (tOr tA tB'):=by
 intro wh pins s σ H Q I h
 refine isTrue_or (thn (ha pins s σ H _ I h) fun c s1 ⟨H1,I1,q1⟩=>?_)
 cases c with
 | true=>exact ⟨H1,I1,q1⟩
 | false=>exact hb wh pins s1 σ H1 Q I1 q1
theorem pt_not (ha:PT X a tA):PT X (.UnaryOp .Not a pos) (tNot tA):=by
 intro pins s σ H Q I h
 exact isTrue_not (ha pins s σ H (fun c H1=>Q (!c) H1) I h)
def tIf (t:TT) (ta tb:TE):TE:=fun σ H Q=>t σ H fun c H1=>if c=true then ta σ H1 Q else tb σ H1 Q
theorem pe_ifExp {c:Expr} (hc:PT X c tA) (ha:PE X a ta) (hb:PE X b tb):PE X (.IfExp c a b pos) (tIf tA ta tb):=by
 intro pins s σ H Q I h
 refine wpAny_IfExp (thn (hc pins s σ H _ I h) fun d s1 ⟨H1,I1,q1⟩=>?_)
 cases d with
 | true=>exact ha pins s1 σ H1 Q I1 q1
 | false=>exact hb pins s1 σ H1 Q I1 q1
end
end L2
namespace L2
open PySem PySem.Spec PyProof.Rows
def SqL (K:PySem.W.Frag) (H:Hp) (a:Addr) (xs:List V):Prop:=
 Rd H a (.lst xs)∨
  ∃ (o:Obj) (its:Array Value) (n:Nat),K.lookup a=some o∧o.cls=.type "list"∧o.dict=none∧o.data=.seq its n∧its.size≤sizeLine∧Vals xs its.toList
def SqT (K:PySem.W.Frag) (H:Hp) (a:Addr) (xs:List V):Prop:=
 Rd H a (.tup xs)∨
  ∃ (o:Obj) (its:Array Value) (n:Nat),K.lookup a=some o∧o.cls=.type "tuple"∧o.data=.seq its n∧its.size≤sizeLine∧Vals xs its.toList
def absV:Value→Option V
 | .none=>some .non
 | .bool b=>some (.bl b)
 | .int i _=>some (.int i)
 | .str x _=>some (.str x)
 | .bytes b _=>some (.byt b)
 | .float b _=>some (.flt b)
 | .ref a=>some (.ref a)
 | .type n=>some (.ty n)
 | _=>none
theorem RelV.abs {x:V} {u:Value} (r:RelV x u):absV u=some x:=by
 cases x with
 | non=>cases r;rfl
 | bl _=>cases r;rfl
 | int _=>obtain ⟨t,rfl⟩:=r;rfl
 | str _=>obtain ⟨t,rfl⟩:=r;rfl
 | byt _=>obtain ⟨t,rfl⟩:=r;rfl
 | flt _=>obtain ⟨t,rfl⟩:=r;rfl
 | ref _=>cases r;rfl
 | ty _=>cases r;rfl
theorem RelV.inj {x y:V} {u:Value} (r:RelV x u) (q:RelV y u):x=y:=Option.some.inj (r.abs.symm.trans q.abs)
theorem Vals.inj:∀ {xs ys:List V} {us:List Value},Vals xs us→Vals ys us→xs=ys
 | _,_,_,.nil,.nil=>rfl
 | _,_,_,.cons r t,.cons r' t'=>by rw [r.inj r',Vals.inj t t']
section
variable {X:Cx} {pins:List (Addr × Obj)} {σ:St} {H:Hp} {s:Shared} {a:Addr} {xs ys:List V}
theorem SqL.of {K:PySem.W.Frag} (h:H a=some (.lst xs)):SqL K H a xs:=.inl (.inl h)
theorem SqT.of {K:PySem.W.Frag} (h:H a=some (.tup xs)):SqT K H a xs:=.inl (.inl h)
theorem Inv.list (I:Inv X pins σ H s) (h:SqL X.K H a xs):∃ its:List Value,Vals xs its∧PlainL s.heap a its.toArray∧xs.length≤sizeLine:=by
 rcases h with h | ⟨o,its,n,hk,hc,hd,hs,hz,r⟩
 ·obtain ⟨z,its,n,r,e⟩:=h.ok I.hok
  exact ⟨its,r,⟨_,n,e,rfl,rfl,rfl⟩,z⟩
 ·refine ⟨its.toList,r,⟨o,n,I.kIn a o hk,hc,hd,by simpa using hs⟩,?_⟩
  have e:=r.length
  simp only [Array.length_toList] at e
  omega
theorem Inv.tuple (I:Inv X pins σ H s) (h:SqT X.K H a xs):∃ its:List Value,Vals xs its∧IsTup s.heap a its.toArray∧xs.length≤sizeLine:=by
 rcases h with h | ⟨o,its,n,hk,hc,hs,hz,r⟩
 ·obtain ⟨z,its,r,p⟩:=h.ok I.hok
  exact ⟨its,r,p,z⟩
 ·refine ⟨its.toList,r,⟨o,I.kIn a o hk,hc,n,by simpa using hs⟩,?_⟩
  have e:=r.length
  simp only [Array.length_toList] at e
  omega
theorem Inv.list_inj (I:Inv X pins σ H s) (h:SqL X.K H a xs) (h':SqL X.K H a ys):xs=ys:=by
 obtain ⟨its,r,⟨o,n,e,_,_,d⟩,_⟩:=I.list h
 obtain ⟨its',r',⟨o',n',e',_,_,d'⟩,_⟩:=I.list h'
 rw [e] at e';cases e'
 rw [d] at d'
 injection d' with d1 _
 have:its=its':=by simpa using congrArg Array.toList d1
 subst this
 exact r.inj r'
theorem Inv.tuple_inj (I:Inv X pins σ H s) (h:SqT X.K H a xs) (h':SqT X.K H a ys):xs=ys:=by
 obtain ⟨its,r,⟨o,e,_,n,d⟩,_⟩:=I.tuple h
 obtain ⟨its',r',⟨o',e',_,n',d'⟩,_⟩:=I.tuple h'
 rw [e] at e';cases e'
 rw [d] at d'
 injection d' with d1 _
 have:its=its':=by simpa using congrArg Array.toList d1
 subst this
 exact r.inj r'
end
abbrev Cx.wish (X:Cx) (E:Value→Shared→Prop):Cx:={ X with xe:=E }
abbrev Cx.nox (X:Cx):Cx:=X.wish fun _ _=>False
theorem Cx.Ok.wish {X:Cx} (ok:X.Ok) (E:Value→Shared→Prop):(X.wish E).Ok:=
 ⟨ok.mod,ok.kind,ok.glob,ok.blt,ok.above,ok.inj,ok.has,ok.cab,ok.hd,ok.frames,ok.stk,ok.exf,ok.bs,ok.bsz,ok.noex,ok.exfs,ok.funs,ok.frf⟩
theorem Cx.Ok.unwish {X:Cx} {E:Value→Shared→Prop} (ok:(X.wish E).Ok):X.Ok:=
 ⟨ok.mod,ok.kind,ok.glob,ok.blt,ok.above,ok.inj,ok.has,ok.cab,ok.hd,ok.frames,ok.stk,ok.exf,ok.bs,ok.bsz,ok.noex,ok.exfs,ok.funs,ok.frf⟩
section
variable {X:Cx} {pins:List (Addr × Obj)} {σ:St} {H:Hp} {s:Shared} {E:Value→Shared→Prop}
theorem Inv.wish (I:Inv X pins σ H s) (E:Value→Shared→Prop):Inv (X.wish E) pins σ H s:=⟨I.ok.wish E,I.os,I.bare,I.base,I.loc,I.cell,I.free,I.freeC,I.pin,I.hok,I.len⟩
theorem Inv.unwish (I:Inv (X.wish E) pins σ H s):Inv X pins σ H s:=⟨I.ok.unwish,I.os,I.bare,I.base,I.loc,I.cell,I.free,I.freeC,I.pin,I.hok,I.len⟩
theorem SP.unwish {D:Ends} {f:Flow} {s':Shared} (h:SP (X.wish E) pins D f s'):SP X pins D f s':=by
 cases f with
 | next=>obtain ⟨σ',H',I,q⟩:=h;exact ⟨σ',H',I.unwish,q⟩
 | brk=>obtain ⟨σ',H',I,q⟩:=h;exact ⟨σ',H',I.unwish,q⟩
 | cont=>obtain ⟨σ',H',I,q⟩:=h;exact ⟨σ',H',I.unwish,q⟩
 | ret u=>obtain ⟨v,σ',H',I,r,q⟩:=h;exact ⟨v,σ',H',I.unwish,r,q⟩
theorem PSs.nox {st:List Stmt} {t:TS} (h:PSs X.nox st t):PSs X st t:=fun pins s σ H D I hw=>
 wpAny_mono (h pins s σ H D (I.wish _) hw) (fun _ _ q=>q.unwish) fun _ _ z=>False.elim z
end
section
variable {X:Cx} {st:Stmt} {rest:List Stmt} {t u:TS} {e:Expr} {te:TE} {pos:Pos}
def tNext:TS:=fun D σ H=>D.nx σ H
def tSeq (t u:TS):TS:=fun D σ H=>t { D with nx:=u D } σ H
theorem qAH:PSs X [] tNext:=fun _ _ σ H _ I h=>wpAny_execs_nil ⟨σ,H,I,h⟩
theorem qA4 (h1:PS X st t) (h2:PSs X rest u):PSs X (st::rest) (tSeq t u):=by
 intro pins s σ H D I h
 refine wpAny_execs_cons (thn (h1 pins s σ H { D with nx:=u D } I h) fun f s1 q=>?_)
 cases f with
 | next=>
  obtain ⟨σ',H',I',q⟩:=q
  exact h2 pins s1 σ' H' D I' q
 | ret v=>exact q
 | brk=>exact q
 | cont=>exact q
theorem qA6 (h1:PS X st t):PSs X [st] t:=by
 intro pins s σ H D I h
 refine wpAny_execs_cons (thn (h1 pins s σ H D I h) fun f s1 q=>?_)
 cases f with
 | next=>exact wpAny_execs_nil q
 | ret v=>exact q
 | brk=>exact q
 | cont=>exact q
theorem Inv.quiet {pins:List (Addr × Obj)} {σ:St} {H:Hp} {s:Shared} (I:Inv X pins σ H s):interactive X.env=false:=by simp [interactive,I.ok.kind]
def tDrop (te:TE):TS:=fun D σ H=>te σ H fun _ H1=>D.nx σ H1
theorem qBW (he:PE X e te) (hs:swapsWith e none pos.line X.env=pure false:=by rfl):PS X (.Expr e pos) (tDrop te):=by
 intro pins s σ H D I h
 exact wpAny_Expr_any (thn (he pins s σ H _ I h) fun v s1 ⟨x,H1,I1,r1,q1⟩=>⟨σ,H1,I1,q1⟩) I.quiet hs
def tRet (te:TE):TS:=fun D σ H=>te σ H D.rt
theorem qAG (he:PE X e te):PS X (.Return (some e) pos) (tRet te):=by
 intro pins s σ H D I h
 exact wpAny_Return_some (thn (he pins s σ H _ I h) fun v s1 ⟨x,H1,I1,r1,q1⟩=>⟨x,σ,H1,I1,r1,q1⟩)
def tIfS (c:TT) (t u:TS):TS:=fun D σ H=>c σ H fun b H1=>if b=true then t D σ H1 else u D σ H1
theorem ps_if {c:Expr} {a b:List Stmt} {tc:TT} (hc:PT X c tc) (ha:PSs X a t) (hb:PSs X b u):PS X (.If c a b pos) (tIfS tc t u):=by
 intro pins s σ H D I h
 refine wpAny_If (thn (hc pins s σ H _ I h) fun d s1 ⟨H1,I1,q1⟩=>?_)
 cases d with
 | true=>exact ha pins s1 σ H1 D I1 q1
 | false=>exact hb pins s1 σ H1 D I1 q1
end
abbrev TG:=V→St→Hp→(St→Hp→Prop)→Prop
abbrev TGs:=List V→St→Hp→(St→Hp→Prop)→Prop
def PG (X:Cx) (target:Expr) (t:TG):Prop:=
 ∀ (pins:List (Addr × Obj)) (s:Shared) (σ:St) (H:Hp) (v:V) (u:Value) (Q:St→Hp→Prop),Inv X pins σ H s→RelV v u→t v σ H Q→
  wpAny (model X.prog X.w) X.A (assign target X.env u) (fun _ s'=>∃ σ' H',Inv X pins σ' H' s'∧Q σ' H') X.xe s
def PGs (X:Cx) (ts:List Expr) (t:TGs):Prop:=
 ∀ (pins:List (Addr × Obj)) (s:Shared) (σ:St) (H:Hp) (vs:List V) (us:List Value) (Q:St→Hp→Prop),Inv X pins σ H s→Vals vs us→t vs σ H Q→
  wpAny (model X.prog X.w) X.A (assignInOrder ((assignEach ts X.env).map (·.2)) us) (fun _ s'=>∃ σ' H',Inv X pins σ' H' s'∧Q σ' H') X.xe s
abbrev TSet:=V→V→V→Hp→(Hp→Prop)→Prop
def PSet (X:Cx) (t:TSet):Prop:=
 ∀ (pins:List (Addr × Obj)) (s:Shared) (σ:St) (H:Hp) (o i v:V) (ov iv u:Value) (Q:Hp→Prop),Inv X pins σ H s→RelV o ov→RelV i iv→RelV v u→t o i v H Q→
  wpAny (model X.prog X.w) X.A (setItem ov iv u) (fun _ s'=>∃ H',Inv X pins σ H' s'∧Q H') X.xe s
section
variable {X:Cx} {pos:Pos}
def gName (i:Nat):TG:=fun v σ H Q=>Q (σ.set i (some v)) H
theorem qA9 {i:Nat} {x:Str} (hN:X.N.Nodup) (hi:X.N[i]?=some x) (hx:Loc X.env.scope x) (hf:X.fn x=true∨X.env.scope.names.lookup x=some .local:=by first | exact .inl rfl | exact .inr rfl | assumption):PG X (.Name x pos) (gName i):=by
 intro pins s σ H v u Q I r h
 exact wpAny_assign_Name (store_ok I hN hi hx r (fun s' I'=>⟨_,H,I',h⟩) hf)
def gNil:TGs:=fun vs σ H Q=>vs=[]∧Q σ H
def gCons (t:TG) (u:TGs):TGs:=fun vs σ H Q=>∃ v r,vs=v::r∧t v σ H fun σ' H'=>u r σ' H' Q
theorem qBP:PGs X [] gNil:=by
 intro pins s σ H vs us Q I r h
 obtain ⟨e,h⟩:=h
 subst e
 cases r
 exact assignInOrder_nil ⟨σ,H,I,h⟩
theorem qAK {e:Expr} {es:List Expr} {t:TG} {u:TGs} (h1:PG X e t) (h2:PGs X es u)
  (hs:(assignEach (e::es) X.env).map (·.2)=assign e X.env::(assignEach es X.env).map (·.2):=by rfl):PGs X (e::es) (gCons t u):=by
 intro pins s σ H vs us Q I r h
 obtain ⟨v,vr,e1,h⟩:=h
 subst e1
 cases r with
 | cons r rr=>
  rw [hs]
  refine assignInOrder_cons (thn (h1 pins s σ H _ _ _ I r h) fun _ s1 ⟨σ1,H1,I1,q1⟩=>?_)
  exact h2 pins s1 σ1 H1 _ _ Q I1 rr q1
def gTup (K:PySem.W.Frag) (n:Nat) (t:TGs):TG:=fun v σ H Q=>∃ a xs,v=.ref a∧SqT K H a xs∧xs.length=n∧t xs σ H Q
theorem qCJ {es:List Expr} {k:Nat} {t:TGs} {n:Nat} (hc:X.calm=true) (h:PGs X es t)
  (hn:(assignEach es X.env).length=n:=by rfl) (hst:(assignEach es X.env).findIdx? (·.1)=none:=by rfl):PG X (.Tuple es k pos) (gTup X.K n t):=by
 intro pins s σ H v u Q I r hw
 obtain ⟨a,xs,e1,hq,hl,hw⟩:=hw
 subst e1
 cases r
 obtain ⟨its,rv,ht,hz⟩:=I.tuple hq
 refine assign_Tuple_tuple (I.ok.hd hc) ht (by simp [hn,← hl,rv.length]) hst fun h' hx=>?_
 have I1:Inv X pins σ H { s with heap:=h' }:=I.kept (t':=s.toks) fun b o e=>hx b o (Nat.ne_of_lt (Heap.lt_size e)) e
 exact h pins _ σ H xs _ Q I1 (by simpa using rv) hw
def gSub (to ti:TE) (t:TSet):TG:=fun v σ H Q=>to σ H fun o H1=>ti σ H1 fun i H2=>t o i v H2 fun H3=>Q σ H3
theorem pg_sub {o i:Expr} {to ti:TE} {t:TSet} (ho:PE X o to) (hi:PE X i ti) (hs:PSet X t)
  (ha:∀ v,assign (.Subscript o i pos) X.env v=(do
   let ov ← holding [v] (eval o X.env)
   let iv ← holding [v,ov] (eval i X.env)
   standAt pos
   holding [v,ov,iv] (setItem ov iv v)
   release [v,ov,iv] []):=by intro _;rfl):PG X (.Subscript o i pos) (gSub to ti t):=by
 intro pins s σ H v u Q I r h
 rw [ha]
 refine wpAny_bind (wpAny_holding (thn (ho pins s σ H _ I h) fun ov s1 ⟨x,H1,I1,r1,q1⟩=>?_))
 refine wpAny_bind (wpAny_holding (thn (hi pins s1 σ H1 _ I1 q1) fun iv s2 ⟨y,H2,I2,r2,q2⟩=>?_))
 refine wpAny_bind (wpAny_standAt (wpAny_bind (wpAny_holding (thn (hs pins s2 σ H2 x y v ov iv u _ I2 r1 r2 r q2) fun _ s3 ⟨H3,I3,q3⟩=>?_))))
 exact wpAny_release ⟨σ,H3,I3,q3⟩
def tAsg (te:TE) (g:TG):TS:=fun D σ H=>te σ H fun x H1=>g x σ H1 D.nx
theorem ps_asg {tg e:Expr} {te:TE} {g:TG} (he:PE X e te) (hg:PG X tg g) (hs:swapsWithSole [tg] e pos.line X.env=pure false:=by rfl) (hw:swappedStores [tg] e X.env=pure none:=by rfl)
  (h1:(assignEach [tg] X.env).map (·.2)=[assign tg X.env]:=by rfl):PS X (.Assign [tg] e pos) (tAsg te g):=by
 intro pins s σ H D I h
 refine wpAny_Assign_stores (thn (he pins s σ H _ I h) fun v s1 ⟨x,H1,I1,r1,q1⟩=>?_) hs hw
 rw [h1]
 exact thn (hg pins s1 σ H1 x v _ I1 r1 q1) fun _ s2 q=>q
theorem qAE {i:Nat} {x:Str} {e:Expr} {te:TE} {pos':Pos} (hN:X.N.Nodup) (hi:X.N[i]?=some x) (hx:Loc X.env.scope x) (he:PE X e te) (hs:swapsWith e (some (.Name x pos')) pos.line X.env=pure false:=by rfl) (hf:X.fn x=true∨X.env.scope.names.lookup x=some .local:=by first | exact .inl rfl | exact .inr rfl | assumption) :
  PS X (.Assign [.Name x pos'] e pos) (tAsg te (gName i)):=by
 intro pins s σ H D I h
 refine wpAny_Assign_Name (thn (he pins s σ H _ I h) fun v s1 ⟨y,H1,I1,r1,q1⟩=>?_) hs
 exact store_ok I1 hN hi hx r1 (fun s2 I2=>⟨_,H1,I2,q1⟩) hf
end
section
variable {X:Cx} {pos:Pos}
def tWhile (c:TT) (tb:TS):TS:=fun D σ H=>∃ W:Nat→St→Hp→Prop,(∃ m,W m σ H)∧∀ m σ H,W m σ H→
 c σ H fun b H1=>if b=true then ∃ N:St→Hp→Prop,(∀ σ' H',N σ' H'→∃ m',m'<m∧W m' σ' H')∧tb { D with nx:=N,ct:=N,bk:=D.nx } σ H1 else D.nx σ H1
theorem ps_while {c:Expr} {body:List Stmt} {tc:TT} {tb:TS} (hp:PassesOwn (model X.prog X.w) X.A X.env X.xe) (hc:PT X c tc) (hb:PSs X body tb):PS X (.While c body [] pos) (tWhile tc tb):=by
 intro pins s σ H D I h
 obtain ⟨W,⟨m0,w0⟩,turn⟩:=h
 refine wpAny_While (codeAny_whileLoop (fun n s'=>∃ σ' H',Inv X pins σ' H' s'∧W n σ' H') ?_ m0 ⟨σ,H,I,w0⟩)
 rintro n s1 ⟨σ1,H1,I1,w1⟩
 refine wpAny_passesOwn hp (thn (hc pins s1 σ1 H1 _ I1 (turn n σ1 H1 w1)) fun b s2 ⟨H2,I2,q2⟩=>?_)
 cases b with
 | true=>
  obtain ⟨N,hN,q2⟩:=q2
  rw [if_pos rfl]
  refine wpAny_passesOwn hp (thn (hb pins s2 σ1 H2 _ I2 q2) fun f s3 q3=>?_)
  cases f with
  | next=>
   obtain ⟨σ3,H3,I3,n3⟩:=q3
   obtain ⟨m',hm,w3⟩:=hN σ3 H3 n3
   exact ⟨m',hm,σ3,H3,I3,w3⟩
  | cont=>
   obtain ⟨σ3,H3,I3,n3⟩:=q3
   obtain ⟨m',hm,w3⟩:=hN σ3 H3 n3
   exact ⟨m',hm,σ3,H3,I3,w3⟩
  | brk=>exact q3
  | ret v=>exact q3
 | false=>
  rw [if_neg Bool.false_ne_true]
  exact wpAny_execs_nil ⟨σ1,H2,I2,q2⟩
end
structure It where
 go:Nat→Hp→Prop
 yld:Nat→Hp→V→Hp→Prop
 stop:Nat→Hp→Prop
def FpOk (X:Cx) (pins:List (Addr × Obj)) (H:Hp) (b:Addr):Prop:=
 H b=none∧b ≠ X.env.locals∧b ∉ X.fs∧(b ∈ X.ex∨X.s₀.heap.objs.size≤b)∧(∀ x c,X.env.cells.lookup x=some c→c ≠ b)∧∀ p ∈ X.pn++pins,p.1 ≠ b
theorem Inv.fpOk {X:Cx} {pins:List (Addr × Obj)} {σ:St} {H H':Hp} {s:Shared} {b:Addr} (I:Inv X pins σ H s) (hb:s.heap.objs.size≤b) (hn:H' b=none):FpOk X pins H' b:=by
 refine ⟨hn,Nat.ne_of_gt (Nat.lt_of_lt_of_le I.lt hb),I.nofs hb,.inr (Nat.le_trans I.sz hb),fun x c e z=>?_,fun p hp z=>?_⟩
 ·obtain ⟨v,q⟩:=I.cell x c e
  exact absurd (Nat.lt_of_lt_of_le q.lt (by rw [z];exact hb)) (Nat.lt_irrefl _)
 ·exact absurd (Nat.lt_of_lt_of_le (Heap.lt_size (I.pin p hp).1) (by rw [z];exact hb)) (Nat.lt_irrefl _)
structure Turn (P:Program) (w:World) (K:PySem.W.Frag) (tg:Expr) (J:It) (fp:List Addr) (it:Addr) (tn:Nat→Heap→Prop):Prop where
 mem:it ∈ fp
 obj:∀ i h,tn i h→∀ b ∈ fp,∃ o,h.get? b=some o∧∀ v,o.data ≠ .cell v
 keep:∀ i h h',tn i h→(∀ b ∈ fp,∀ o,h.get? b=some o→h'.get? b=some o)→tn i h'
 item:∀ (X:Cx),X.prog=P→X.w=w→X.K=K→X.calm=true→∀ (i:Nat) (pins:List (Addr × Obj)) (s:Shared) (σ:St) (H:Hp) (E:Value→Shared→Prop),Inv X pins σ H s→(∀ b ∈ fp,FpOk X pins H b)→tn i s.heap→J.go i H→
  wpAny (model P w) X.A (pyNext (.ref it)) (fun r s1=>∃ u,r=some u∧
   wpAny (model P w) X.A (letOwnedTupleGo tg (.ref it) u) (fun _ s2=>∃ x H',Inv X pins σ H' s2∧RelV x u∧J.yld i H x H'∧tn (i+1) s2.heap∧∀ b ∈ fp,H' b=none) E s1) E s
 done:∀ (X:Cx),X.prog=P→X.w=w→X.K=K→X.calm=true→∀ (i:Nat) (pins:List (Addr × Obj)) (s:Shared) (σ:St) (H:Hp) (E:Value→Shared→Prop),Inv X pins σ H s→(∀ b ∈ fp,FpOk X pins H b)→tn i s.heap→J.stop i H→
  wpAny (model P w) X.A (pyNext (.ref it)) (fun r s1=>r=none∧Inv X pins σ H s1) E s
 self:∀ (A:Around) (i:Nat) (s:Shared) (Q:Value→Shared→Prop) (E:Value→Shared→Prop),tn i s.heap→Q (.ref it) s→wpAny (model P w) A (pyIter (.ref it)) Q E s
abbrev TI:=St→Hp→(It→Hp→Prop)→Prop
def PIE (X:Cx) (pins:List (Addr × Obj)) (σ:St) (tg:Expr) (R:It→Hp→Prop) (itv:Value) (s2:Shared):Prop:=
 ∃ (it:Addr) (fp:List Addr) (tn:Nat→Heap→Prop) (J:It) (H':Hp),itv=.ref it∧Inv X pins σ H' s2∧Turn X.prog X.w X.K tg J fp it tn∧tn 0 s2.heap∧(∀ b ∈ fp,FpOk X pins H' b)∧R J H'
def PI (X:Cx) (tg iter:Expr) (wi:TI):Prop:=
 ∀ (pins:List (Addr × Obj)) (s:Shared) (σ:St) (H:Hp) (R:It→Hp→Prop),Inv X pins σ H s→wi σ H R→
  wpAny (model X.prog X.w) X.A (eval iter X.env) (fun v s1=>wpAny (model X.prog X.w) X.A (pyIter v) (PIE X pins σ tg R) X.xe s1) X.xe s
theorem go_of {M:Model} {A:Around} {E:Value→Shared→Prop} {s:Shared} {tg:Expr} {it:Addr} {u:Value} {o:Obj} {n:String} {vs:Array Value} {Q:Unit→Shared→Prop} (ho:s.heap.get? it=some o) (hc:o.cls=.type n) (hd:o.data=.fields vs)
  (hn:["enumerate","zip","dict_itemiterator","dict_reverseitemiterator","odict_iterator","itertools.zip_longest","itertools.pairwise"].contains n=false) (hQ:Q () s):wpAny M A (letOwnedTupleGo tg (.ref it) u) Q E s:=by
 unfold letOwnedTupleGo
 cases tg <;> first
  | exact wpAny_pure hQ
  | (cases u <;> first
    | exact wpAny_pure hQ
    | (refine wpAny_bind (wpAny_load ho ?_)
       rw [hc,hd]
       show wpAny M A (if (["enumerate","zip","dict_itemiterator","dict_reverseitemiterator","odict_iterator","itertools.zip_longest","itertools.pairwise"].contains n && vs[0]? == some (rawInt _))=true then _ else _) Q E s
       rw [if_neg (by intro h;rw [hn,Bool.false_and] at h;cases h)]
       exact wpAny_pure hQ))
def Itl (K:PySem.W.Frag) (a:Addr):It:=
 ⟨fun i H=>∃ xs x,SqL K H a xs∧xs[i]?=some x,fun i H x H'=>H'=H∧∀ xs,SqL K H a xs→xs[i]?=some x,fun i H=>∃ xs,SqL K H a xs∧xs.length≤i⟩
def Itt (K:PySem.W.Frag) (a:Addr):It:=
 ⟨fun i H=>∃ xs x,SqT K H a xs∧xs[i]?=some x,fun i H x H'=>H'=H∧∀ xs,SqT K H a xs→xs[i]?=some x,fun i H=>∃ xs,SqT K H a xs∧xs.length≤i⟩
def Itr (lo:Int) (n:Nat):It:=⟨fun i _=>i<n,fun i H x H'=>H'=H∧x=.int (lo+i),fun i _=>n≤i⟩
theorem turn_list {P:Program} {w:World} {K:PySem.W.Frag} {tg:Expr} (a it:Addr):Turn P w K tg (Itl K a) [it] it (fun i h=>h.IsListIter it a i) where
 mem:=by simp
 obj:=fun i h st b hb=>by
  have e:b=it:=by simpa using hb
  subst e
  obtain ⟨o,e,c,d⟩:=st
  exact ⟨o,e,fun v z=>by rw [d] at z;cases z⟩
 keep:=fun i h h' st k=>st.at fun o e=>k it (by simp) o e
 item:=by
  intro X hP hw hK hc i pins s σ H E I hf st hg
  subst hP hw hK
  obtain ⟨xs,x,hq,hx⟩:=hg
  obtain ⟨its,rv,p,hz⟩:=I.list hq
  obtain ⟨u,hu,ru⟩:=rv.get hx
  obtain ⟨f0,f1,f2,f3,f4,f5⟩:=hf it (by simp)
  refine wpAny_pyNext_list_item st p.isList (x:=u) (by simpa using hu) fun h' st' sb=>?_
  have I1:Inv X pins σ H { s with heap:=h' }:=I.turned (t':=s.toks) (fun b o hb e=>(sb.2 b hb).trans e) f0 f1 f3 f4 f5
  obtain ⟨o,e,c,d⟩:=id st'
  exact ⟨u,rfl,go_of (s:={ s with heap:=h' }) e c d (by decide) ⟨x,H,I1,ru,⟨rfl,fun ys hy=>by rw [I.list_inj hy hq];exact hx⟩,st',fun b hb=>(hf b hb).1⟩⟩
 done:=by
  intro X hP hw hK hc i pins s σ H E I hf st hg
  subst hP hw hK
  obtain ⟨xs,hq,hx⟩:=hg
  obtain ⟨its,rv,p,hz⟩:=I.list hq
  obtain ⟨f0,f1,f2,f3,f4,f5⟩:=hf it (by simp)
  have hl:=rv.length
  exact wpAny_pyNext_list_end (I.ok.hd hc) st p.isList (by simp;omega) fun h' eb=>⟨rfl,I.turned (t':=s.toks) (fun b o hb e=>eb b o hb e) f0 f1 f3 f4 f5⟩
 self:=fun _ _ _ _ _ st h=>wpAny_pyIter_listiter st h
theorem turn_tuple {P:Program} {w:World} {K:PySem.W.Frag} {tg:Expr} (a it:Addr):Turn P w K tg (Itt K a) [it] it (fun i h=>h.IsTupleIter it a i) where
 mem:=by simp
 obj:=fun i h st b hb=>by
  have e:b=it:=by simpa using hb
  subst e
  obtain ⟨o,e,c,d⟩:=st
  exact ⟨o,e,fun v z=>by rw [d] at z;cases z⟩
 keep:=fun i h h' st k=>st.at fun o e=>k it (by simp) o e
 item:=by
  intro X hP hw hK hc i pins s σ H E I hf st hg
  subst hP hw hK
  obtain ⟨xs,x,hq,hx⟩:=hg
  obtain ⟨its,rv,p,hz⟩:=I.tuple hq
  obtain ⟨u,hu,ru⟩:=rv.get hx
  obtain ⟨f0,f1,f2,f3,f4,f5⟩:=hf it (by simp)
  refine wpAny_pyNext_tuple_item st (show s.heap.IsTuple a its.toArray from p) (x:=u) (by simpa using hu) fun h' st' sb=>?_
  have I1:Inv X pins σ H { s with heap:=h' }:=I.turned (t':=s.toks) (fun b o hb e=>(sb.2 b hb).trans e) f0 f1 f3 f4 f5
  obtain ⟨o,e,c,d⟩:=id st'
  exact ⟨u,rfl,go_of (s:={ s with heap:=h' }) e c d (by decide) ⟨x,H,I1,ru,⟨rfl,fun ys hy=>by rw [I.tuple_inj hy hq];exact hx⟩,st',fun b hb=>(hf b hb).1⟩⟩
 done:=by
  intro X hP hw hK hc i pins s σ H E I hf st hg
  subst hP hw hK
  obtain ⟨xs,hq,hx⟩:=hg
  obtain ⟨its,rv,p,hz⟩:=I.tuple hq
  obtain ⟨f0,f1,f2,f3,f4,f5⟩:=hf it (by simp)
  have hl:=rv.length
  exact wpAny_pyNext_tuple_end (I.ok.hd hc) st (show s.heap.IsTuple a its.toArray from p) (by simp;omega) fun h' eb=>⟨rfl,I.turned (t':=s.toks) (fun b o hb e=>eb b o hb e) f0 f1 f3 f4 f5⟩
 self:=fun _ _ _ _ _ st h=>wpAny_pyIter_tupleiter st h
theorem turn_range {P:Program} {w:World} {K:PySem.W.Frag} {tg:Expr} (it:Addr) (lo:Int) (n:Nat):Turn P w K tg (Itr lo n) [it] it (fun i h=>IsRangeIter h it (lo+(i:Nat) * 1) ((n:Int) - (i:Nat)) 1) where
 mem:=by simp
 obj:=fun i h st b hb=>by
  have e:b=it:=by simpa using hb
  subst e
  exact ⟨_,st,fun v z=>by
   have z':Data.fields _=Data.cell v:=z
   cases z'⟩
 keep:=fun i h h' st k=>k it (by simp) _ st
 item:=by
  intro X hP hw hK hc i pins s σ H E I hf st hg
  subst hP hw hK
  obtain ⟨f0,f1,f2,f3,f4,f5⟩:=hf it (by simp)
  have W:=Walks.range (prog:=X.prog) (w:=X.w) (I.ok.hd hc) it lo 1 n
  refine W.item i s _ _ hg st fun v h' tk hv st' kk=>?_
  obtain ⟨t,rfl⟩:=hv
  have I1:Inv X pins σ H { s with heap:=h',toks:=tk }:=I.turned (fun b o hb e=>kk b o (by simpa using hb) e) f0 f1 f3 f4 f5
  refine ⟨_,rfl,go_of (s:={ s with heap:=h',toks:=tk }) (n:="range_iterator") st' rfl rfl (by decide) ⟨.int (lo+i),H,I1,⟨t,?_⟩,⟨rfl,rfl⟩,st',fun b hb=>(hf b hb).1⟩⟩
  rw [Int.mul_one]
 done:=by
  intro X hP hw hK hc i pins s σ H E I hf st hg
  subst hP hw hK
  obtain ⟨f0,f1,f2,f3,f4,f5⟩:=hf it (by simp)
  exact wpAny_pyNext_range_end (I.ok.hd hc) st (by have:n≤i:=hg;omega) fun h' eb=>⟨rfl,I.turned (t':=s.toks) (fun b o hb e=>eb b o hb e) f0 f1 f3 f4 f5⟩
 self:=fun _ _ _ _ _ st h=>wpAny_pyIter_rangeiter st h
end L2
namespace L2
open PySem PySem.Spec PyProof.Rows
section
variable {X:Cx} {tg:Expr}
def iList (K:PySem.W.Frag) (tl:TE):TI:=fun σ H R=>tl σ H fun x H1=>∃ a,x=.ref a∧(∃ xs,SqL K H1 a xs)∧R (Itl K a) H1
def iTup (K:PySem.W.Frag) (tl:TE):TI:=fun σ H R=>tl σ H fun x H1=>∃ a,x=.ref a∧(∃ xs,SqT K H1 a xs)∧R (Itt K a) H1
theorem qB8 {l:Expr} {tl:TE} (hl:PE X l tl):PI X tg l (iList X.K tl):=by
 intro pins s σ H R I h
 refine thn (hl pins s σ H _ I h) fun v s1 ⟨x,H1,I1,r1,q1⟩=>?_
 obtain ⟨a,e,⟨xs,hq⟩,q⟩:=q1
 subst e
 cases r1
 obtain ⟨its,rv,p,hz⟩:=I1.list hq
 refine wpAny_pyIter_list p.isList ?_
 refine ⟨s1.heap.objs.size,[s1.heap.objs.size],_,_,H1,rfl,I1.kept (t':=s1.toks) fun b o e=>Heap.get?_push_of_some _ e,turn_list a _,⟨_,Heap.get?_push_size _ rfl,rfl,rfl⟩,fun b hb=>?_,q⟩
 have e:b=s1.heap.objs.size:=by simpa using hb
 subst e
 exact I1.fpOk (Nat.le_refl _) (I1.hok.fresh (Nat.le_refl _))
theorem qCB {l:Expr} {tl:TE} (hl:PE X l tl):PI X tg l (iTup X.K tl):=by
 intro pins s σ H R I h
 refine thn (hl pins s σ H _ I h) fun v s1 ⟨x,H1,I1,r1,q1⟩=>?_
 obtain ⟨a,e,⟨xs,hq⟩,q⟩:=q1
 subst e
 cases r1
 obtain ⟨its,rv,p,hz⟩:=I1.tuple hq
 refine wpAny_pyIter_tuple (show s1.heap.IsTuple a its.toArray from p) ?_
 refine ⟨s1.heap.objs.size,[s1.heap.objs.size],_,_,H1,rfl,I1.kept (t':=s1.toks) fun b o e=>Heap.get?_push_of_some _ e,turn_tuple a _,⟨_,Heap.get?_push_size _ rfl,rfl,rfl⟩,fun b hb=>?_,q⟩
 have e:b=s1.heap.objs.size:=by simpa using hb
 subst e
 exact I1.fpOk (Nat.le_refl _) (I1.hok.fresh (Nat.le_refl _))
theorem range_it {pins:List (Addr × Obj)} {σ:St} {H:Hp} {s:Shared} {R:It→Hp→Prop} {E:Value→Shared→Prop} {lo hi:Int} {t u v:Tok} {tk:Nat} (I:Inv X pins σ H s) (h1 : -(2 ^ 62)≤lo) (h2:lo<2 ^ 62) (h3 : -(2 ^ 62)≤hi) (h4:hi<2 ^ 62)
  (q:R (Itr lo (hi - lo).toNat) H):wpAny (model X.prog X.w) X.A (pyIter (.ref s.heap.objs.size)) (PIE X pins σ tg R) E { s with heap:=s.heap.push { cls:=.type "range",data:=.fields #[.int lo t,.int hi u,.int 1 v] },toks:=tk }:=by
 refine wpAny_pyIter_range (IsRange.new ..) (small_one h1 h2 h3 h4) ?_
 have I1:Inv X pins σ H { s with heap:=s.heap.push { cls:=.type "range",data:=.fields #[.int lo t,.int hi u,.int 1 v] },toks:=tk }:=I.kept fun b o e=>Heap.get?_push_of_some _ e
 refine ⟨(s.heap.push { cls:=.type "range",data:=.fields #[.int lo t,.int hi u,.int 1 v] }).objs.size,[(s.heap.push { cls:=.type "range",data:=.fields #[.int lo t,.int hi u,.int 1 v] }).objs.size],_,_,H,rfl,
  I1.kept (t':=tk) fun b o e=>Heap.get?_push_of_some _ e,turn_range _ lo (hi - lo).toNat,?_,fun b hb=>?_,q⟩
 ·have e1:lo+((0:Nat):Int) * 1=lo:=by simp
  have e2:(((hi - lo).toNat:Nat):Int) - ((0:Nat):Int)=Builtin.Range.rangeSize lo hi 1:=by rw [rangeSize_one];split <;> omega
  show IsRangeIter _ _ (lo+((0:Nat):Int) * 1) ((((hi - lo).toNat:Nat):Int) - ((0:Nat):Int)) 1
  rw [e1,e2]
  exact Heap.get?_push_size _ rfl
 ·have e:b=(s.heap.push { cls:=.type "range",data:=.fields #[.int lo t,.int hi u,.int 1 v] }).objs.size:=by simpa using hb
  subst e
  exact I1.fpOk (Nat.le_refl _) (I1.hok.fresh (Nat.le_refl _))
def iRng1 (ta:TA):TI:=fun σ H R=>ta σ H fun vs H1=>∃ j:Int,vs=[.int j]∧-(2 ^ 62)≤j∧j<2 ^ 62∧R (Itr 0 j.toNat) H1
def iRng2 (ta:TA):TI:=fun σ H R=>ta σ H fun vs H1=>∃ i j:Int,vs=[.int i,.int j]∧(-(2 ^ 62)≤i∧i<2 ^ 62∧-(2 ^ 62)≤j∧j<2 ^ 62)∧R (Itr i (j - i).toNat) H1
theorem qB6 {a:Expr} {ta:TA} {p pos:Pos} (hg:Gl X "range") (hm:X.mg "range" = none) (ha:PA X [a] ta) (hs:starEach [a] X.env=[(false,eval a X.env)]:=by rfl):PI X tg (.Call (.Name "range" p) [a] [] pos) (iRng1 ta):=by
 intro pins s σ H R I h
 refine Call_ (ld_blt I hg hm boot_range (PyProof.Rows.callWith_type1 (thn (ha pos pins s σ H _ I h) fun us s1 ⟨vs,H1,I1,r1,q1⟩=>?_) hs rfl))
 obtain ⟨j,e,q1,q2,q⟩:=q1
 subst e
 cases r1 with
 | cons r rr=>
  cases rr
  obtain ⟨t,rfl⟩:=r
  exact call_range_1 (range_it I1 (by omega) (by omega) q1 q2 (by simpa using q))
theorem pi_range2 {a b:Expr} {ta:TA} {p pos:Pos} (hg:Gl X "range") (hm:X.mg "range" = none) (ha:PA X [a,b] ta) (hs:starEach [a,b] X.env=[(false,eval a X.env),(false,eval b X.env)]:=by rfl) (hs2:starEach [b] X.env=[(false,eval b X.env)]:=by rfl) :
  PI X tg (.Call (.Name "range" p) [a,b] [] pos) (iRng2 ta):=by
 intro pins s σ H R I h
 refine Call_ (ld_blt I hg hm boot_range (PyProof.Rows.callWith_type1 (thn (ha pos pins s σ H _ I h) fun us s1 ⟨vs,H1,I1,r1,q1⟩=>?_) (by rw [hs,hs2]) (by rw [hs2];rfl)))
 obtain ⟨i,j,e,⟨q1,q2,q3,q4⟩,q⟩:=q1
 subst e
 cases r1 with
 | cons r rr=>
  cases rr with
  | cons r' rr=>
   cases rr
   obtain ⟨t,rfl⟩:=r
   obtain ⟨t',rfl⟩:=r'
   exact call_range_2 (range_it I1 q1 q2 q3 q4 q)
def tFor (wi:TI) (g:TG) (tb:TS):TS:=fun D σ H=>wi σ H fun J H1=>∃ W:Nat→Nat→St→Hp→Prop,(∃ m,W 0 m σ H1)∧∀ i m σ H,W i m σ H→
 (J.stop i H∧D.nx σ H)∨(J.go i H∧∃ N:St→Hp→Prop,(∀ σ' H',N σ' H'→∃ m',m'<m∧W (i+1) m' σ' H')∧∀ x H',J.yld i H x H'→g x σ H' fun σ2 H2=>tb { D with nx:=N,ct:=N,bk:=D.nx } σ2 H2)
def pinsAt (fp:List Addr) (h:Heap):List (Addr × Obj):=fp.filterMap fun b=>(h.get? b).map fun o=>(b,o)
theorem qBV {fp:List Addr} {h:Heap} {b:Addr} {o:Obj} (hb:b ∈ fp) (e:h.get? b=some o):(b,o) ∈ pinsAt fp h:=List.mem_filterMap.mpr ⟨b,hb,by rw [e];rfl⟩
theorem of_pinsAt {fp:List Addr} {h:Heap} {p:Addr × Obj} (hp:p ∈ pinsAt fp h):p.1 ∈ fp∧h.get? p.1=some p.2:=by
 obtain ⟨b,hb,e⟩:=List.mem_filterMap.mp hp
 cases q:h.get? b with
 | none=>rw [q] at e;cases e
 | some o=>
  rw [q] at e
  have e':(b,o)=p:=Option.some.inj e
  subst e'
  exact ⟨hb,q⟩
theorem Inv.pinned {pins:List (Addr × Obj)} {σ:St} {H:Hp} {s:Shared} {fp:List Addr} (I:Inv X pins σ H s) (hf:∀ b ∈ fp,FpOk X pins H b) (ho:∀ b ∈ fp,∃ o,s.heap.get? b=some o∧∀ v,o.data ≠ .cell v):Inv X (pins++pinsAt fp s.heap) σ H s:=
 I.pins_of fun p hp=>(List.mem_append.mp hp).elim (fun z=>I.pin p (List.mem_append_right _ z)) fun z=>by
  obtain ⟨hb,e⟩:=of_pinsAt z
  obtain ⟨f0,f1,f2,_⟩:=hf p.1 hb
  obtain ⟨o,e',d⟩:=ho p.1 hb
  rw [e] at e';cases e'
  exact ⟨e,f0,f1,f2,d⟩
theorem Inv.unpinned {pins pl:List (Addr × Obj)} {σ:St} {H:Hp} {s:Shared} (I:Inv X (pins++pl) σ H s):Inv X pins σ H s:=I.pins_of fun p hp=>I.pin p (List.mem_append_right _ (List.mem_append_left _ hp))
theorem qB5 {iter:Expr} {body:List Stmt} {wi:TI} {g:TG} {tb:TS} {pos:Pos} (hp:PassesOwn (model X.prog X.w) X.A X.env X.xe) (hc:X.calm=true) (hi:PI X tg iter wi) (hg:PG X tg g) (hb:PSs X body tb)
  (hs:∀ x,foldedSetIterable iter X.env x=pure x:=by intro _;rfl):PS X (.For tg iter body [] pos) (tFor wi g tb):=by
 intro pins s σ H D I h
 refine wpAny_For (thn (hi pins s σ H _ I h) fun v s1 h1=>thn h1 fun itv s2 h2=>?_) hs
 obtain ⟨it,fp,tn,J,H2,e,I2,T,st2,f2,W,⟨m0,w0⟩,turn⟩:=h2
 subst e
 -- what stays true of the iterator's objects through the loop
 have stat:∀ {H':Hp},(∀ b ∈ fp,H' b=none)→∀ b ∈ fp,FpOk X pins H' b:=fun hn b hb=>⟨hn b hb,(f2 b hb).2⟩
 refine codeAny_forLoop_any (fun n s'=>∃ i σ' H',Inv X pins σ' H' s'∧tn i s'.heap∧(∀ b ∈ fp,H' b=none)∧W i n σ' H') ?_ m0 ⟨0,σ,H2,I2,st2,fun b hb=>(f2 b hb).1,w0⟩
 rintro n s3 ⟨i,σ3,H3,I3,st3,fr3,w3⟩
 rcases turn i n σ3 H3 w3 with ⟨stop,qn⟩ | ⟨go,N,hN,step⟩
 ·refine wpAny_passesOwn hp (thn (T.done X rfl rfl rfl hc i pins s3 σ3 H3 X.xe I3 (stat fr3) st3 stop) fun r s4 ⟨hr,I4⟩=>?_)
  subst hr
  exact wpAny_execs_nil ⟨σ3,H3,I4,qn⟩
 ·refine wpAny_passesOwn hp (thn (T.item X rfl rfl rfl hc i pins s3 σ3 H3 X.xe I3 (stat fr3) st3 go) fun r s4 ⟨u,hr,h4⟩=>?_)
  subst hr
  refine wpAny_passesOwn hp (thn h4 fun _ s5 ⟨x,H5,I5,r5,y5,st5,fr5⟩=>?_)
  have I5':=I5.pinned (stat fr5) (T.obj _ _ st5)
  refine wpAny_passesOwn hp (thn (hg _ s5 σ3 H5 x u _ I5' r5 (step x H5 y5)) fun _ s6 ⟨σ6,H6,I6,q6⟩=>?_)
  refine wpAny_passesOwn hp (thn (hb _ s6 σ6 H6 _ I6 q6) fun f s7 q7=>?_)
  have again:∀ {σ7:St} {H7:Hp},Inv X (pins++pinsAt fp s5.heap) σ7 H7 s7→N σ7 H7→∃ m,m<n∧∃ i σ' H',Inv X pins σ' H' s7∧tn i s7.heap∧(∀ b ∈ fp,H' b=none)∧W i m σ' H':=fun {σ7 H7} I7 n7=>by
   obtain ⟨m',hm,w7⟩:=hN σ7 H7 n7
   refine ⟨m',hm,i+1,σ7,H7,I7.unpinned,T.keep _ _ _ st5 fun b hb o e=>(I7.pin (b,o) (List.mem_append_right _ (List.mem_append_right _ (qBV hb e)))).1,fun b hb=>?_,w7⟩
   obtain ⟨o,e,d⟩:=T.obj _ _ st5 b hb
   exact (I7.pin (b,o) (List.mem_append_right _ (List.mem_append_right _ (qBV hb e)))).2.1
  cases f with
  | next=>obtain ⟨σ7,H7,I7,n7⟩:=q7;exact again I7 n7
  | cont=>obtain ⟨σ7,H7,I7,n7⟩:=q7;exact again I7 n7
  | brk=>obtain ⟨σ7,H7,I7,q7⟩:=q7;exact ⟨σ7,H7,I7.unpinned,q7⟩
  | ret v=>obtain ⟨x7,σ7,H7,I7,r7,q7⟩:=q7;exact ⟨x7,σ7,H7,I7.unpinned,r7,q7⟩
end
theorem qBK {K:PySem.W.Frag} {a:Addr} {xs:List V} {g:TG} {tb:TS} {D:Ends} {σ:St} {H:Hp} (Pv:Nat→St→Hp→Prop) (h0:Pv 0 σ H) (hl:∀ i σ H,i≤xs.length→Pv i σ H→SqL K H a xs)
  (hs:∀ i x σ H,xs[i]?=some x→Pv i σ H→g x σ H fun σ2 H2=>tb { D with nx:=Pv (i+1),ct:=Pv (i+1),bk:=D.nx } σ2 H2) (hd:∀ σ H,Pv xs.length σ H→D.nx σ H) :
  ∃ W:Nat→Nat→St→Hp→Prop,(∃ m,W 0 m σ H)∧∀ i m σ H,W i m σ H→
   ((Itl K a).stop i H∧D.nx σ H)∨((Itl K a).go i H∧∃ N:St→Hp→Prop,(∀ σ' H',N σ' H'→∃ m',m'<m∧W (i+1) m' σ' H')∧∀ x H',(Itl K a).yld i H x H'→g x σ H' fun σ2 H2=>tb { D with nx:=N,ct:=N,bk:=D.nx } σ2 H2):=by
 refine ⟨fun i m σ H=>m=xs.length - i∧i≤xs.length∧Pv i σ H,⟨xs.length,by simp,Nat.zero_le _,h0⟩,?_⟩
 rintro i m σ H ⟨rfl,hi,p⟩
 have q:=hl i σ H hi p
 by_cases hlt:i<xs.length
 ·refine .inr ⟨⟨xs,xs[i],q,by simp [hlt]⟩,Pv (i+1),fun σ' H' p'=>⟨xs.length - (i+1),by omega,rfl,hlt,p'⟩,fun x H' y=>?_⟩
  obtain ⟨e,y⟩:=y
  subst e
  exact hs i x σ _ (y xs q) p
 ·have e:i=xs.length:=by omega
  subst e
  exact .inl ⟨⟨xs,q,Nat.le_refl _⟩,hd σ H p⟩
theorem for_tup {K:PySem.W.Frag} {a:Addr} {xs:List V} {g:TG} {tb:TS} {D:Ends} {σ:St} {H:Hp} (Pv:Nat→St→Hp→Prop) (h0:Pv 0 σ H) (hl:∀ i σ H,i≤xs.length→Pv i σ H→SqT K H a xs)
  (hs:∀ i x σ H,xs[i]?=some x→Pv i σ H→g x σ H fun σ2 H2=>tb { D with nx:=Pv (i+1),ct:=Pv (i+1),bk:=D.nx } σ2 H2) (hd:∀ σ H,Pv xs.length σ H→D.nx σ H) :
  ∃ W:Nat→Nat→St→Hp→Prop,(∃ m,W 0 m σ H)∧∀ i m σ H,W i m σ H→
   ((Itt K a).stop i H∧D.nx σ H)∨((Itt K a).go i H∧∃ N:St→Hp→Prop,(∀ σ' H',N σ' H'→∃ m',m'<m∧W (i+1) m' σ' H')∧∀ x H',(Itt K a).yld i H x H'→g x σ H' fun σ2 H2=>tb { D with nx:=N,ct:=N,bk:=D.nx } σ2 H2):=by
 refine ⟨fun i m σ H=>m=xs.length - i∧i≤xs.length∧Pv i σ H,⟨xs.length,by simp,Nat.zero_le _,h0⟩,?_⟩
 rintro i m σ H ⟨rfl,hi,p⟩
 have q:=hl i σ H hi p
 by_cases hlt:i<xs.length
 ·refine .inr ⟨⟨xs,xs[i],q,by simp [hlt]⟩,Pv (i+1),fun σ' H' p'=>⟨xs.length - (i+1),by omega,rfl,hlt,p'⟩,fun x H' y=>?_⟩
  obtain ⟨e,y⟩:=y
  subst e
  exact hs i x σ _ (y xs q) p
 ·have e:i=xs.length:=by omega
  subst e
  exact .inl ⟨⟨xs,q,Nat.le_refl _⟩,hd σ H p⟩
theorem qCS {lo:Int} {n:Nat} {g:TG} {tb:TS} {D:Ends} {σ:St} {H:Hp} (Pv:Nat→St→Hp→Prop) (h0:Pv 0 σ H)
  (hs:∀ i σ H,i<n→Pv i σ H→g (.int (lo+i)) σ H fun σ2 H2=>tb { D with nx:=Pv (i+1),ct:=Pv (i+1),bk:=D.nx } σ2 H2) (hd:∀ σ H,Pv n σ H→D.nx σ H) :
  ∃ W:Nat→Nat→St→Hp→Prop,(∃ m,W 0 m σ H)∧∀ i m σ H,W i m σ H→
   ((Itr lo n).stop i H∧D.nx σ H)∨((Itr lo n).go i H∧∃ N:St→Hp→Prop,(∀ σ' H',N σ' H'→∃ m',m'<m∧W (i+1) m' σ' H')∧∀ x H',(Itr lo n).yld i H x H'→g x σ H' fun σ2 H2=>tb { D with nx:=N,ct:=N,bk:=D.nx } σ2 H2):=by
 refine ⟨fun i m σ H=>m=n - i∧i≤n∧Pv i σ H,⟨n,by simp,Nat.zero_le _,h0⟩,?_⟩
 rintro i m σ H ⟨rfl,hi,p⟩
 by_cases hlt:i<n
 ·refine .inr ⟨hlt,Pv (i+1),fun σ' H' p'=>⟨n - (i+1),by omega,rfl,hlt,p'⟩,fun x H' y=>?_⟩
  obtain ⟨e,y⟩:=y
  subst e y
  exact hs i σ _ hlt p
 ·have e:i=n:=by omega
  subst e
  exact .inl ⟨Nat.le_refl _,hd σ H p⟩
end L2
namespace L2
open PySem PySem.Spec PyProof.Rows
abbrev R2:=V→V→Hp→VK→Prop
def OpR (X:Cx) (f:Value→Value→Sem Value) (r:R2):Prop:=
 ∀ (pins:List (Addr × Obj)) (s:Shared) (σ:St) (H:Hp) (x y:V) (v u:Value) (Q:VK),Inv X pins σ H s→RelV x v→RelV y u→r x y H Q→
  wpAny (model X.prog X.w) X.A (f v u) (EP X pins σ Q) X.xe s
def UnR (X:Cx) (f:Value→Sem Value) (r:V→Hp→VK→Prop):Prop:=
 ∀ (pins:List (Addr × Obj)) (s:Shared) (σ:St) (H:Hp) (x:V) (v:Value) (Q:VK),Inv X pins σ H s→RelV x v→r x H Q→
  wpAny (model X.prog X.w) X.A (f v) (EP X pins σ Q) X.xe s
def CallR (X:Cx) (f:Value) (r:List V→Hp→VK→Prop):Prop:=
 ∀ (pins:List (Addr × Obj)) (s:Shared) (σ:St) (H:Hp) (xs:List V) (us:List Value) (Q:VK),Inv X pins σ H s→Vals xs us→r xs H Q→
  wpAny (model X.prog X.w) X.A (call f us) (EP X pins σ Q) X.xe s
def tOp (r:R2) (ta tb:TE):TE:=fun σ H Q=>ta σ H fun x H1=>tb σ H1 fun y H2=>r x y H2 Q
def tUn (r:V→Hp→VK→Prop) (ta:TE):TE:=fun σ H Q=>ta σ H fun x H1=>r x H1 Q
def rI (C:Int→Int→Prop) (g:Int→Int→V):R2:=fun x y H Q=>∃ i j,x=.int i∧y=.int j∧C i j∧Q (g i j) H
def rI0 (g:Int→Int→V):R2:=fun x y H Q=>∃ i j,x=.int i∧y=.int j∧Q (g i j) H
def rU (g:Int→V):V→Hp→VK→Prop:=fun x H Q=>∃ i,x=.int i∧Q (g i) H
section
variable {X:Cx} {a b c:Expr} {ta tb tc:TE} {pos:Pos}
theorem binT (ha:PE X a ta) (hb:PE X b tb) {pins:List (Addr × Obj)} {s:Shared} {σ:St} {H:Hp} {R:V→V→Hp→Prop} (I:Inv X pins σ H s)
  (h:ta σ H fun x H1=>tb σ H1 fun y H2=>R x y H2) {Q:Value→Shared→Prop} {f:Value→Value→Sem Value}
  (hf:∀ v u s2 x y H2,Inv X pins σ H2 s2→RelV x v→RelV y u→R x y H2→wpAny (model X.prog X.w) X.A (f v u) Q X.xe s2) :
  wpAny (model X.prog X.w) X.A (eval a X.env) (fun v s₁=>wpAny (model X.prog X.w) X.A (eval b X.env) (fun u s₂=>wpAny (model X.prog X.w) X.A (f v u) Q X.xe s₂) X.xe s₁) X.xe s:=by
 refine thn (ha pins s σ H _ I h) fun v s1 ⟨x,H1,I1,r1,q1⟩=>?_
 refine thn (hb pins s1 σ H1 _ I1 q1) fun u s2 ⟨y,H2,I2,r2,q2⟩=>?_
 exact hf v u s2 x y H2 I2 r1 r2 q2
theorem pe_op {op:Operator} {r:R2} (ho:OpR X (binaryOp op) r) (ha:PE X a ta) (hb:PE X b tb):PE X (.BinOp a op b pos) (tOp r ta tb):=by
 intro pins s σ H Q I h
 exact wpAny_BinOp (binT ha hb I h fun v u s2 x y H2 I2 rx ry q=>ho pins s2 σ H2 x y v u Q I2 rx ry q)
theorem pe_un {op:UnaryOp} {r:V→Hp→VK→Prop} (ho:UnR X (unaryOp op) r) (ha:PE X a ta):PE X (.UnaryOp op a pos) (tUn r ta):=by
 intro pins s σ H Q I h
 exact UnaryOp_ (thn (ha pins s σ H _ I h) fun v s1 ⟨x,H1,I1,r1,q1⟩=>ho pins s1 σ H1 x v Q I1 r1 q1)
theorem opI {f:Value→Value→Sem Value} {C:Int→Int→Prop} {g:Int→Int→Int}
  (rule:∀ (i j:Int) (t u:Tok) (s:Shared) (Q:Value→Shared→Prop) (E:Value→Shared→Prop),C i j→Q (.int (g i j) s.toks) { s with toks:=s.toks+1 }→wpAny (model X.prog X.w) X.A (f (.int i t) (.int j u)) Q E s) :
  OpR X f (rI C fun i j=>.int (g i j)):=by
 intro pins s σ H x y v u Q I rx ry h
 obtain ⟨i,j,rfl,rfl,hc,q⟩:=h
 obtain ⟨t,rfl⟩:=rx
 obtain ⟨t',rfl⟩:=ry
 exact rule i j t t' s _ _ hc ⟨.int (g i j),H,I.tok _,⟨_,rfl⟩,q⟩
theorem opI0 {f:Value→Value→Sem Value} {g:Int→Int→Int}
  (rule:∀ (i j:Int) (t u:Tok) (s:Shared) (Q:Value→Shared→Prop) (E:Value→Shared→Prop),Q (.int (g i j) s.toks) { s with toks:=s.toks+1 }→wpAny (model X.prog X.w) X.A (f (.int i t) (.int j u)) Q E s) :
  OpR X f (rI0 fun i j=>.int (g i j)):=by
 intro pins s σ H x y v u Q I rx ry h
 obtain ⟨i,j,rfl,rfl,q⟩:=h
 obtain ⟨t,rfl⟩:=rx
 obtain ⟨t',rfl⟩:=ry
 exact rule i j t t' s _ _ ⟨.int (g i j),H,I.tok _,⟨_,rfl⟩,q⟩
theorem opB0 {f:Value→Value→Sem Value} {g:Int→Int→Bool}
  (rule:∀ (i j:Int) (t u:Tok) (s:Shared) (Q:Value→Shared→Prop) (E:Value→Shared→Prop),Q (.bool (g i j)) s→wpAny (model X.prog X.w) X.A (f (.int i t) (.int j u)) Q E s) :
  OpR X f (rI0 fun i j=>.bl (g i j)):=by
 intro pins s σ H x y v u Q I rx ry h
 obtain ⟨i,j,rfl,rfl,q⟩:=h
 obtain ⟨t,rfl⟩:=rx
 obtain ⟨t',rfl⟩:=ry
 exact rule i j t t' s _ _ ⟨.bl (g i j),H,I,rfl,q⟩
def CDiv (i j:Int):Prop:=0<j∧j<1073741824
def CPow (i j:Int):Prop:=0≤j∧j≤1000000∧i.natAbs<2 ^ 64
def CMul (i j:Int):Prop:=(-(2 ^ 64)<i∧i<2 ^ 64)∨(-(2 ^ 64)<j∧j<2 ^ 64)
theorem CMul.ok {i j:Int} (h:CMul i j):IntMulOk i j:=by
 rcases h with ⟨h1,h2⟩ | ⟨h1,h2⟩
 ·exact .of_left (intBits_le_64 h1 h2)
 ·exact .of_right (intBits_le_64 h1 h2)
theorem qBL:OpR X (binaryOp .Add) (rI0 fun i j=>.int (i+j)):=opI0 fun _ _ _ _ _ _ _ q=>add_int q
theorem qCK:OpR X (binaryOp .Sub) (rI0 fun i j=>.int (i - j)):=opI0 fun _ _ _ _ _ _ _ q=>sub_int q
theorem op_mul:OpR X (binaryOp .Mult) (rI CMul fun i j=>.int (i * j)):=opI fun _ _ _ _ _ _ _ hc q=>mul_int q hc.ok
theorem op_fdiv:OpR X (binaryOp .FloorDiv) (rI CDiv fun i j=>.int (i / j)):=opI fun i j _ _ _ _ _ hc q=>by
 have h1:(0:Int)<j:=hc.1
 have h2:j<1073741824:=hc.2
 exact floordiv_int (by omega) (by rw [Int.fdiv_eq_ediv_of_nonneg i (by omega)];exact q) (.inl (PyProof.noPylong_small (by omega)))
theorem op_mod:OpR X (binaryOp .Mod) (rI (fun _ j=>0<j) fun i j=>.int (i % j)):=opI fun i j _ _ _ _ _ hc q=>by
 have h1:(0:Int)<j:=hc
 exact mod_int' (by omega) (by rw [Int.fmod_eq_emod_of_nonneg i (by omega)];exact q)
theorem op_pow:OpR X (binaryOp .Pow) (rI CPow fun i j=>.int (i ^ j.toNat)):=opI fun _ _ _ _ _ _ _ hc q=>pow_int_small hc.1 hc.2.1 hc.2.2 q
theorem unI {f:Value→Sem Value} {g:Int→Int}
  (rule:∀ (i:Int) (t:Tok) (s:Shared) (Q:Value→Shared→Prop) (E:Value→Shared→Prop),Q (.int (g i) s.toks) { s with toks:=s.toks+1 }→wpAny (model X.prog X.w) X.A (f (.int i t)) Q E s) :
  UnR X f (rU fun i=>.int (g i)):=by
 intro pins s σ H x v Q I rx h
 obtain ⟨i,rfl,q⟩:=h
 obtain ⟨t,rfl⟩:=rx
 exact rule i t s _ _ ⟨.int (g i),H,I.tok _,⟨_,rfl⟩,q⟩
theorem qD2:UnR X (unaryOp .USub) (rU fun i=>.int (-i)):=unI fun _ _ _ _ _ q=>neg_int q
end
def scal:V→V→Bool
 | .non,.non=>true | .non,.int _=>true | .int _,.non=>true | .non,.bl _=>true | .bl _,.non=>true | .non,.str _=>true | .str _,.non=>true
 | .int _,.int _=>true | .bl _,.bl _=>true | .str _,.str _=>true | .byt _,.byt _=>true
 | .int _,.str _=>true | .str _,.int _=>true | .bl _,.str _=>true | .str _,.bl _=>true
 | _,_=>false
def rEq:R2:=fun x y H Q=>scal x y=true∧Q (.bl (decide (x=y))) H
def rNe:R2:=fun x y H Q=>scal x y=true∧Q (.bl (!decide (x=y))) H
theorem dec_int {i j:Int}:decide (V.int i=V.int j)=(i == j):=by
 rw [Bool.eq_iff_iff]
 simp
theorem dec_bl {i j:Bool}:decide (V.bl i=V.bl j)=(i == j):=by
 rw [Bool.eq_iff_iff]
 simp
theorem dec_str {i j:Str}:decide (V.str i=V.str j)=(i == j):=by
 rw [Bool.eq_iff_iff]
 simp
theorem dec_byt {i j:Array UInt8}:decide (V.byt i=V.byt j)=(i.toList == j.toList):=by
 rw [Bool.eq_iff_iff]
 cases i
 cases j
 simp
section
variable {X:Cx} {a b c:Expr} {ta tb tc:TE} {pos:Pos}
theorem qAQ {pins:List (Addr × Obj)} {σ:St} {H:Hp} {s:Shared} {Q:VK} {k k':Bool} (I:Inv X pins σ H s) (q:Q (.bl k) H) (e:k=k'):EP X pins σ Q (.bool k') s:=by
 subst e
 exact ⟨.bl k,H,I,rfl,q⟩
theorem op_eq:OpR X (compareOp .Eq) rEq:=by
 intro pins s σ H x y v u Q I rx ry h
 obtain ⟨hs,q⟩:=h
 cases x with
 | non=>
  cases rx
  cases y with
  | non=>cases ry;exact PySem.EqNone.eq_none_none (qAQ I q (by simp))
  | bl j=>cases ry;exact PySem.EqNone.eq_none_bool (qAQ I q (by simp))
  | int j=>obtain ⟨t',rfl⟩:=ry;exact PySem.EqNone.eq_none_int (qAQ I q (by simp))
  | str j=>obtain ⟨t',rfl⟩:=ry;exact PySem.EqNone.eq_none_str (qAQ I q (by simp))
  | _=>exact absurd (show false=true from hs) Bool.false_ne_true
 | bl i=>
  cases rx
  cases y with
  | non=>cases ry;exact PySem.EqNone.eq_bool_none (qAQ I q (by simp))
  | bl j=>cases ry;exact eq_bool (qAQ I q dec_bl)
  | str j=>obtain ⟨t',rfl⟩:=ry;exact PySem.EqMixed.eq_bool_str (qAQ I q (by simp))
  | _=>exact absurd (show false=true from hs) Bool.false_ne_true
 | int i=>
  obtain ⟨t,rfl⟩:=rx
  cases y with
  | non=>cases ry;exact PySem.EqNone.eq_int_none (qAQ I q (by simp))
  | int j=>obtain ⟨t',rfl⟩:=ry;exact eq_int (qAQ I q dec_int)
  | str j=>obtain ⟨t',rfl⟩:=ry;exact PySem.EqMixed.eq_int_str (qAQ I q (by simp))
  | _=>exact absurd (show false=true from hs) Bool.false_ne_true
 | str i=>
  obtain ⟨t,rfl⟩:=rx
  cases y with
  | non=>cases ry;exact PySem.EqNone.eq_str_none (qAQ I q (by simp))
  | bl j=>cases ry;exact PySem.EqMixed.eq_str_bool (qAQ I q (by simp))
  | int j=>obtain ⟨t',rfl⟩:=ry;exact PySem.EqMixed.eq_str_int (qAQ I q (by simp))
  | str j=>obtain ⟨t',rfl⟩:=ry;exact eq_str (qAQ I q dec_str)
  | _=>exact absurd (show false=true from hs) Bool.false_ne_true
 | byt i=>
  obtain ⟨t,rfl⟩:=rx
  cases y with
  | byt j=>obtain ⟨t',rfl⟩:=ry;exact PySem.W.eq_bytes (qAQ I q dec_byt)
  | _=>exact absurd (show false=true from hs) Bool.false_ne_true
 | _=>cases y <;> exact absurd (show false=true from hs) Bool.false_ne_true
theorem op_ne:OpR X (compareOp .NotEq) rNe:=by
 intro pins s σ H x y v u Q I rx ry h
 obtain ⟨hs,q⟩:=h
 cases x with
 | non=>
  cases rx
  cases y with
  | non=>cases ry;exact PySem.EqNone.ne_none_none (qAQ I q (by simp))
  | bl j=>cases ry;exact PySem.EqNone.ne_none_bool (qAQ I q (by simp))
  | int j=>obtain ⟨t',rfl⟩:=ry;exact PySem.EqNone.ne_none_int (qAQ I q (by simp))
  | str j=>obtain ⟨t',rfl⟩:=ry;exact PySem.EqNone.ne_none_str (qAQ I q (by simp))
  | _=>exact absurd (show false=true from hs) Bool.false_ne_true
 | bl i=>
  cases rx
  cases y with
  | non=>cases ry;exact PySem.EqNone.ne_bool_none (qAQ I q (by simp))
  | bl j=>cases ry;exact ne_bool (qAQ I q (congrArg not dec_bl))
  | str j=>obtain ⟨t',rfl⟩:=ry;exact PySem.EqMixed.ne_bool_str (qAQ I q (by simp))
  | _=>exact absurd (show false=true from hs) Bool.false_ne_true
 | int i=>
  obtain ⟨t,rfl⟩:=rx
  cases y with
  | non=>cases ry;exact PySem.EqNone.ne_int_none (qAQ I q (by simp))
  | int j=>obtain ⟨t',rfl⟩:=ry;exact ne_int (qAQ I q (congrArg not dec_int))
  | str j=>obtain ⟨t',rfl⟩:=ry;exact PySem.EqMixed.ne_int_str (qAQ I q (by simp))
  | _=>exact absurd (show false=true from hs) Bool.false_ne_true
 | str i=>
  obtain ⟨t,rfl⟩:=rx
  cases y with
  | non=>cases ry;exact PySem.EqNone.ne_str_none (qAQ I q (by simp))
  | bl j=>cases ry;exact PySem.EqMixed.ne_str_bool (qAQ I q (by simp))
  | int j=>obtain ⟨t',rfl⟩:=ry;exact PySem.EqMixed.ne_str_int (qAQ I q (by simp))
  | str j=>obtain ⟨t',rfl⟩:=ry;exact ne_str (qAQ I q (congrArg not dec_str))
  | _=>exact absurd (show false=true from hs) Bool.false_ne_true
 | byt i=>
  obtain ⟨t,rfl⟩:=rx
  cases y with
  | byt j=>obtain ⟨t',rfl⟩:=ry;exact PySem.W.ne_bytes (qAQ I q (congrArg not dec_byt))
  | _=>exact absurd (show false=true from hs) Bool.false_ne_true
 | _=>cases y <;> exact absurd (show false=true from hs) Bool.false_ne_true
theorem op_lt:OpR X (compareOp .Lt) (rI0 fun i j=>.bl (decide (i<j))):=opB0 fun _ _ _ _ _ _ _ q=>lt_int q
theorem op_gt:OpR X (compareOp .Gt) (rI0 fun i j=>.bl (decide (j<i))):=opB0 fun _ _ _ _ _ _ _ q=>gt_int q
theorem op_ge:OpR X (compareOp .GtE) (rI0 fun i j=>.bl (decide (j≤i))):=opB0 fun _ _ _ _ _ _ _ q=>ge_int q
theorem nomark (b:Expr) {op:CmpOp} (h:op ≠ .In:=by decide) (h2:op ≠ .NotIn:=by decide):behindInMarks op b=false:=by
 have e1:(op == CmpOp.In)=false:=by cases op <;> first | rfl | exact absurd rfl h
 have e2:(op == CmpOp.NotIn)=false:=by cases op <;> first | rfl | exact absurd rfl h2
 cases b <;> simp [behindInMarks,e1,e2]
theorem qCQ {op:CmpOp} {r:R2} (ho:OpR X (compareOp op) r) (ha:PE X a ta) (hb:PE X b tb) (hm:behindInMarks op b=false):PE X (.Compare a [op] [b] pos) (tOp r ta tb):=by
 intro pins s σ H Q I h
 exact wpAny_Compare1 (binT ha hb I h fun v u s2 x y H2 I2 rx ry q=>ho pins s2 σ H2 x y v u Q I2 rx ry q) hm
def tTest (t:TE):TT:=fun σ H Q=>t σ H fun x H'=>∃ k,x=.bl k∧Q k H'
theorem qAC {op:CmpOp} {r:R2} (ho:OpR X (compareOp op) r) (ha:PE X a ta) (hb:PE X b tb) (hm:behindInMarks op b=false):PT X (.Compare a [op] [b] pos) (tTest (tOp r ta tb)):=by
 intro pins s σ H Q I h
 refine wpAny_isTrue_Compare1 (thn (ha pins s σ H _ I h) fun v s1 ⟨x,H1,I1,r1,q1⟩=>thn (hb pins s1 σ H1 _ I1 q1) fun u s2 ⟨y,H2,I2,r2,q2⟩=>
  thn (ho pins s2 σ H2 x y v u _ I2 r1 r2 q2) fun c s3 ⟨z,H3,I3,r3,k,e,q3⟩=>?_) hm
 subst e
 cases r3
 exact wpAny_truthy_bool ⟨H3,I3,q3⟩
theorem line63:(sizeLine:Nat)<2 ^ 63:=by rw [sizeLine_eq];decide
theorem vals1 {x:V} {us:List Value} (r:Vals [x] us):∃ u,us=[u]∧RelV x u:=by
 cases r with
 | cons r1 r2=>cases r2;exact ⟨_,rfl,r1⟩
theorem vals2 {x y:V} {us:List Value} (r:Vals [x,y] us):∃ u w',us=[u,w']∧RelV x u∧RelV y w':=by
 cases r with
 | cons r1 r2=>
  cases r2 with
  | cons r3 r4=>cases r4;exact ⟨_,_,rfl,r1,r3⟩
theorem call_max2 (hc:X.calm=true):CallR X (.builtin "max") (fun xs H Q=>∃ i j,xs=[.int i,.int j]∧Q (.int (if j > i then j else i)) H):=by
 intro pins s σ H xs us Q I r h
 obtain ⟨i,j,rfl,q⟩:=h
 obtain ⟨u,w',rfl,⟨t,rfl⟩,⟨t',rfl⟩⟩:=vals2 r
 refine max_two_ints (I.ok.hd hc) fun h' tk k=>⟨_,H,I.kept k,?_,q⟩
 by_cases hj:j > i
 ·rw [if_pos hj,if_pos hj];exact ⟨_,rfl⟩
 ·rw [if_neg hj,if_neg hj];exact ⟨_,rfl⟩
theorem call_min2 (hc:X.calm=true):CallR X (.builtin "min") (fun xs H Q=>∃ i j,xs=[.int i,.int j]∧Q (.int (if j<i then j else i)) H):=by
 intro pins s σ H xs us Q I r h
 obtain ⟨i,j,rfl,q⟩:=h
 obtain ⟨u,w',rfl,⟨t,rfl⟩,⟨t',rfl⟩⟩:=vals2 r
 refine min_two_ints (I.ok.hd hc) fun h' tk k=>⟨_,H,I.kept k,?_,q⟩
 by_cases hj:j<i
 ·rw [if_pos hj,if_pos hj];exact ⟨_,rfl⟩
 ·rw [if_neg hj,if_neg hj];exact ⟨_,rfl⟩
theorem call_int1:CallR X (.type "int") (fun xs H Q=>(∃ i,xs=[.int i]∧Q (.int i) H)∨∃ k,xs=[.bl k]∧Q (.int (if k then 1 else 0)) H):=by
 intro pins s σ H xs us Q I r h
 rcases h with ⟨i,rfl,q⟩ | ⟨k,rfl,q⟩
 ·obtain ⟨u,rfl,t,rfl⟩:=vals1 r
  exact call_int_int ⟨.int i,H,I,⟨_,rfl⟩,q⟩
 ·obtain ⟨u,rfl,r1⟩:=vals1 r
  cases r1
  exact call_int_bool ⟨.int (if k then 1 else 0),H,I.tok _,⟨_,rfl⟩,q⟩
theorem call_divmod:CallR X (.builtin "divmod") (fun xs H Q=>∃ i j,xs=[.int i,.int j]∧CDiv i j∧∀ p,H p=none→Q (.ref p) (upd H p (.tup [.int (i / j),.int (i % j)]))):=by
 intro pins s σ H xs us Q I r h
 obtain ⟨i,j,rfl,⟨h1,h2⟩,q⟩:=h
 obtain ⟨u,w',rfl,⟨t,rfl⟩,⟨t',rfl⟩⟩:=vals2 r
 refine divmod_int (by omega) ?_ (.inl (PyProof.noPylong_small (by omega)))
 rw [Int.fdiv_eq_ediv_of_nonneg i (by omega),Int.fmod_eq_emod_of_nonneg i (by omega)]
 have hn:H s.heap.objs.size=none:=I.hok.fresh (Nat.le_refl _)
 refine ⟨.ref s.heap.objs.size,_,?_,rfl,q _ hn⟩
 refine I.laid (fun b o e=>Heap.get?_push_of_some _ e) (Nat.le_refl _) ⟨by simp only [List.length_cons,List.length_nil];rw [sizeLine_eq];decide,[.int (i / j) s.toks,.int (i % j) (s.toks+1)],.cons ⟨_,rfl⟩ (.cons ⟨_,rfl⟩ .nil),?_⟩
 exact ⟨_,Heap.get?_push_size s.heap rfl,rfl,0,rfl⟩
end
end L2
namespace L2
open PySem PySem.Spec PyProof.Rows
structure ObjM (h:Heap) (x dx C:Addr) (mA:Str→Option Value):Prop where
 obj:h.get? x=some (PySem.W.instObj C dx)
 ns:h.Ns1 dx mA
 ne:dx ≠ x
section
variable {prog:Program} {w:World} {A:Around} {E:Value→Shared→Prop} {s:Shared} {K:PySem.W.Frag} {x dx C f:Addr} {mA:Str→Option Value} {name:Str} {v:Value}
end
def putF (f:Str) (v:V):List (Str × V)→List (Str × V)
 | []=>[(f,v)]
 | (g,x)::r=>if g=f then (g,v)::r else (g,x)::putF f v r
theorem lookup_putF (f g:Str) (v:V):∀ fs:List (Str × V),(putF f v fs).lookup g=if g=f then some v else fs.lookup g
 | []=>by
  show List.lookup g [(f,v)]=_
  by_cases h:g=f
  ·have hb:(g == f)=true:=beq_iff_eq.mpr h
   simp only [List.lookup,hb,if_pos h]
  ·have hb:(g == f)=false:=beq_eq_false_iff_ne.mpr h
   simp only [List.lookup,hb,if_neg h]
 | (k,x)::r=>by
  have ih:=lookup_putF f g v r
  rw [show putF f v ((k,x)::r)=(if k=f then (k,v)::r else (k,x)::putF f v r) from rfl]
  by_cases hk:k=f
  ·rw [if_pos hk]
   by_cases h:g=k
   ·have hb:(g == k)=true:=beq_iff_eq.mpr h
    simp only [List.lookup,hb,if_pos (h.trans hk)]
   ·have hb:(g == k)=false:=beq_eq_false_iff_ne.mpr h
    simp only [List.lookup,hb,if_neg (fun e:g=f=>h (e.trans hk.symm))]
  ·rw [if_neg hk]
   by_cases h:g=k
   ·have hb:(g == k)=true:=beq_iff_eq.mpr h
    simp only [List.lookup,hb,if_neg (fun e:g=f=>hk (h.symm.trans e))]
   ·have hb:(g == k)=false:=beq_eq_false_iff_ne.mpr h
    simp only [List.lookup,hb]
    exact ih
theorem keys_putF (f:Str) (v:V):∀ fs:List (Str × V),f ∈ (putF f v fs).map (·.1)∧∀ g,g ∈ fs.map (·.1)→g ∈ (putF f v fs).map (·.1)
 | []=>⟨by simp [putF],fun g h=>by simp at h⟩
 | (k,x)::r=>by
  obtain ⟨i1,i2⟩:=keys_putF f v r
  rw [show putF f v ((k,x)::r)=(if k=f then (k,v)::r else (k,x)::putF f v r) from rfl]
  by_cases hk:k=f
  ·rw [if_pos hk]
   subst hk
   exact ⟨by simp,fun g h=>by simpa using h⟩
  ·rw [if_neg hk]
   refine ⟨?_,fun g h=>?_⟩
   ·rw [List.map_cons]
    exact List.mem_cons_of_mem _ i1
   ·rw [List.map_cons] at h ⊢
    rcases List.mem_cons.mp h with e | e
    ·exact List.mem_cons.mpr (.inl e)
    ·exact List.mem_cons_of_mem _ (i2 g e)
theorem RelO.some_of {v:V} {o:Option Value} (r:RelO (some v) o):∃ u,o=some u∧RelV v u:=by
 cases o with
 | none=>exact (show False from r).elim
 | some u=>exact ⟨u,rfl,r⟩
section
variable {P:Program} {w:World} {H H':Hp} {h h':Heap} {a C dx:Addr} {fs fs':List (Str × V)}
end
structure Cls (K:PySem.W.Frag) (C:Addr):Prop where
 pg:PySem.W.plainGet K C Str.empty=true
 hd:PySem.W.hasDictIn K C=true
 po:PySem.W.plainOver K C=true
 sa:PySem.W.findIn K (.ref C) "__setattr__" = some (some (.builtin "object.__setattr__"))
def NoAttr (K:PySem.W.Frag) (C:Addr) (f:Str):Prop:=PySem.W.findIn K (.ref C) f=some none
structure Con (K:PySem.W.Frag) (C:Addr) (f:Str) (v:V) (u:Value):Prop where
 at_:PySem.W.findIn K (.ref C) f=some (some u)
 rel:RelV v u
 get:PySem.W.specialIn K u "__get__" = some none
 cp:PySem.W.copiedNames.contains f=false
structure Meth (K:PySem.W.Frag) (C:Addr) (m:Str) (f:Addr):Prop where
 at_:PySem.W.findIn K (.ref C) m=some (some (.ref f))
 fn:PySem.W.isFn K (.ref f)=true
 kp:PySem.W.keepIn K (.ref f)=true
section
variable {X:Cx} {pins:List (Addr × Obj)} {σ:St} {H:Hp} {s:Shared} {a C dx:Addr} {fs:List (Str × V)} {f:Str} {v:V} {A:Around} {E:Value→Shared→Prop}
end
section
variable {X:Cx} {o e value:Expr} {f:Str} {pos pos' tpos:Pos} {ta tv:TE}
end
section
variable {X:Cx} {pins:List (Addr × Obj)} {σ:St} {H:Hp} {s:Shared} {A:Around} {E:Value→Shared→Prop} {Q:Value→Shared→Prop} {c:Value} {b:Bool}
inductive TyOf (K:PySem.W.Frag) (H:Hp):V→Value→Prop where
 | non:TyOf K H .non (.type "NoneType")
 | bl (x:Bool):TyOf K H (.bl x) (.type "bool")
 | int (i:Int):TyOf K H (.int i) (.type "int")
 | str (x:Str):TyOf K H (.str x) (.type "str")
 | flt (x:UInt64):TyOf K H (.flt x) (.type "float")
 | lst {a:Addr} {xs:List V} (e:H a=some (.lst xs)):TyOf K H (.ref a) (.type "list")
 | frz {a:Addr} {o:Obj} {xs:List V} (e:H a=some (.frz o (.lst xs))):TyOf K H (.ref a) (.type "list")
 | tup {a:Addr} {xs:List V} (e:H a=some (.tup xs)):TyOf K H (.ref a) (.type "tuple")
 | dK {a:Addr} {kvs:List (Key × V)} (e:H a=some (.dK kvs)):TyOf K H (.ref a) (.type "dict")
 | dT {a:Addr} {kvs:List (List Key × V)} (e:H a=some (.dT kvs)):TyOf K H (.ref a) (.type "dict")
 | ins {a C dx:Addr} {fs:List (Str × V)} (e:H a=some (.ins C dx fs)) (cl:Cls K C) (ha:PySem.W.findIn K (.ref C) "__class__" = some (some (.builtin "object.__class__")))
   (hn:PySem.W.specialIn K (.builtin "object.__class__") "__get__" = some (some (.builtin "getset_descriptor.__get__"))) (htk:PySem.W.takesIn K (.builtin "object.__class__")=some true)
   (hm:PySem.W.mroIn K C (.type "object")=some true):TyOf K H (.ref a) (.ref C)
end
end L2
namespace L2
open PySem PySem.Spec PyProof.Rows
structure Room (k:Nat) (A:Around):Prop where
 hd:A.handled=none
 dp:A.depth+3 * k+5<recursionLimit
 un:A.units+16 * k+200<cLine
 gd:A.guards=some []
theorem Room.mono {j k:Nat} {A:Around} (r:Room k A) (h:j≤k):Room j A:=⟨r.hd,by have:=r.dp;omega,by have:=r.un;omega,r.gd⟩
theorem Room.deeper {k:Nat} {A:Around} (r:Room (k+1) A) (env:Env):Room k (A.deeper env):=
 ⟨r.hd,by have:=r.dp;show A.depth+1+3 * k+5<_;omega,by have:=r.un;show A.units+3+16 * k+200<_;omega,r.gd⟩
theorem make_depth {A:Around} {C:Addr} {us:List Value} {kw:List (Str × Value)}:(A.under (.builtin "type.__call__" ⟨.ref C::us,kw⟩)).depth=A.depth+1:=by
 first | rfl | simp [Around.under,Code.weight,Code.isCreation,Code.isGuard,Code.isCaller,Code.frames,Code.isFrame,guardIds]
theorem make_units {A:Around} {C:Addr} {us:List Value} {kw:List (Str × Value)}:(A.under (.builtin "type.__call__" ⟨.ref C::us,kw⟩)).units=A.units+1:=by
 first | rfl | simp [Around.under,Code.cUnits,Code.frames,Code.isFrame]
theorem Room.make {k:Nat} {A:Around} (r:Room (k+1) A) (C:Addr) (us:List Value) (kw:List (Str × Value)):Room k (A.under (.builtin "type.__call__" ⟨.ref C::us,kw⟩)):=
 ⟨r.hd,by have:=r.dp;rw [make_depth];omega,by have:=r.un;rw [make_units];omega,by first | exact r.gd | simp [Around.under,Code.guards,Code.isGuard,pushGuards,guardIds,r.gd]⟩
theorem Room.depth {k:Nat} {A:Around} (r:Room k A):A.depth<recursionLimit:=by have:=r.dp;omega
theorem Room.units {k:Nat} {A:Around} (r:Room k A):A.units+64<cLine:=by have:=r.un;omega
theorem Room.units0 {k:Nat} {A:Around} (r:Room k A):A.units<cLine:=by have:=r.un;omega
def tNil:TA:=fun _ H Q=>Q [] H
def tCons (ta:TE) (tr:TA):TA:=fun σ H Q=>ta σ H fun x H1=>tr σ H1 fun xs H2=>Q (x::xs) H2
section
variable {X:Cx} {e:Expr} {es:List Expr} {te:TE} {t:TA} {pos:Pos}
theorem qA3:PA X [] tNil:=fun _ _ _ _ H Q I h=>Calls.spliced_nil ⟨[],H,I,.nil,h⟩
theorem qA0 (ha:PE X e te) (hr:PA X es t) (hs:starEach (e::es) X.env=(false,eval e X.env)::starEach es X.env:=by rfl):PA X (e::es) (tCons te t):=by
 intro pos pins s σ H Q I h
 rw [hs]
 show wpAny _ _ (spliced ((false,eval e X.env)::backTo pos (starEach es X.env))) _ _ s
 refine Calls.spliced_cons (thn (ha pins s σ H _ I h) fun u s1 ⟨x,H1,I1,r1,q1⟩=>?_)
 exact thn (hr pos pins s1 σ H1 _ I1 q1) fun us s2 ⟨xs,H2,I2,r2,q2⟩=>⟨x::xs,H2,I2,.cons r1 r2,q2⟩
def tTup (t:TA):TE:=fun σ H Q=>t σ H fun xs H1=>xs.length≤sizeLine∧∀ p,H1 p=none→Q (.ref p) (upd H1 p (.tup xs))
def tLst (t:TA):TE:=fun σ H Q=>t σ H fun xs H1=>xs.length≤sizeLine∧∀ p,H1 p=none→Q (.ref p) (upd H1 p (.lst xs))
theorem qB7 {x1} (h:PA X es t):PE X (.Tuple es x1 pos) (tTup t):=by
 intro pins s σ H Q I hq
 refine wpAny_Tuple_spliced (thn (h pos pins s σ H _ I hq) fun us s1 ⟨xs,H1,I1,r,z,q⟩=>⟨by rw [← r.length];exact z,?_⟩)
 have hf:H1 s1.heap.objs.size=none:=I1.hok.fresh (Nat.le_refl _)
 refine ⟨.ref s1.heap.objs.size,upd H1 s1.heap.objs.size (.tup xs),I1.laid (t':=s1.toks) (fun b u e=>Heap.get?_push_of_some _ e) (Nat.le_refl _) ?_,rfl,q _ hf⟩
 exact ⟨z,us,r,⟨_,Heap.get?_push_size _ rfl,rfl,_,rfl⟩⟩
theorem qB0 (h:PA X es t):PE X (.List es pos) (tLst t):=by
 intro pins s σ H Q I hq
 refine wpAny_List_spliced (thn (h pos pins s σ H _ I hq) fun us s1 ⟨xs,H1,I1,r,z,q⟩=>⟨by rw [← r.length];exact z,?_⟩)
 have hf:H1 s1.heap.objs.size=none:=I1.hok.fresh (Nat.le_refl _)
 refine ⟨.ref s1.heap.objs.size,upd H1 s1.heap.objs.size (.lst xs),I1.laid (t':=s1.toks) (fun b u e=>Heap.get?_push_of_some _ e) (Nat.le_refl _) ?_,rfl,q _ hf⟩
 exact ⟨z,us,0,r,Heap.get?_push_size _ rfl⟩
end
abbrev Sp:=List V→Hp→VK→XK→Prop
abbrev CXT:=List Env→Hp→Shared→XK→Value→Shared→Prop
structure Env0 (P:Program) (w:World) (K:PySem.W.Frag) (mg:Str→Option Value) (base:Heap) (A:Around) (outer:List Env) (s:Shared) (H:Hp):Prop where
 frames:A.frames=some outer
 mod:Mod K mg base
 bs:∀ b o,base.get? b=some o→s.heap.get? b=some o∧H b=none
 bsz:base.objs.size≤s.heap.objs.size
 funs:s.heap.FunFrames base outer
 frf:∀ b ∈ frs outer,H b=none
 hok:HOk P w H s.heap
 bare:AllBare s.gens
def CE (outer:List Env) (P:Program) (w:World) (H:Hp) (s:Shared) (Q:VK) (u:Value) (s':Shared):Prop:=
 ∃ v H',s'.os=s.os∧AllBare s'.gens∧Un (frs outer) [] H H' s.heap s'.heap∧HOk P w H' s'.heap∧RelV v u∧Q v H'
def CR (CX:CXT) (outer:List Env) (P:Program) (w:World) (H:Hp) (s:Shared) (Q:VK) (E:XK) (r:Result) (s':Shared):Prop:=
 match r with
 | .ok (.ret u)=>CE outer P w H s Q u s'
 | .ok _=>False
 | .error e=>CX outer H s E e s'
structure FnOk (P:Program) (w:World) (K:PySem.W.Frag) (mg:Str→Option Value) (base:Heap) (CX:CXT) (k:Nat) (f:Addr) (fd:FuncData) (ps:List Str) (sp:Sp):Prop where
 len:∀ vs H Q E,sp vs H Q E→vs.length=ps.length
 run:∀ (A:Around) (outer:List Env) (s:Shared) (H:Hp) (args:Args) (us:List Value) (vs:List V) (Q:VK) (E:XK),Room k A→Env0 P w K mg base A outer s H→BindsTo s fd args (ps.zip us)→Vals vs us→sp vs H Q E→
  codeAny (model P w) A (.call (.ref f) args) (CR CX outer P w H s Q E) s
theorem Env0.make {P:Program} {w:World} {K:PySem.W.Frag} {mg:Str→Option Value} {base:Heap} {A:Around} {outer:List Env} {s:Shared} {H:Hp} (e:Env0 P w K mg base A outer s H) (C:Addr) (us:List Value) (kw:List (Str × Value)) :
  Env0 P w K mg base (A.under (.builtin "type.__call__" ⟨.ref C::us,kw⟩)) outer s H:=⟨by first | exact e.frames | (simpa [Around.under,Code.envs,Code.isFrame,pushEnvs] using e.frames),e.mod,e.bs,e.bsz,e.funs,e.frf,e.hok,e.bare⟩
section
variable {X:Cx} {pins:List (Addr × Obj)} {σ:St} {H:Hp} {s s':Shared}
theorem Inv.env0 (I:Inv X pins σ H s):Env0 X.prog X.w X.K X.mg X.base X.A X.stack s H:=
 ⟨I.ok.frames,I.ok.mod,I.bs,Nat.le_trans I.ok.bsz I.sz,I.stack,I.stkFree,I.hok,I.bare⟩
theorem Inv.after {Q:VK} {u:Value} (I:Inv X pins σ H s) (h:CE X.stack X.prog X.w H s Q u s'):EP X pins σ Q u s':=by
 obtain ⟨v,H',os,bare,un,hok,r,q⟩:=h
 obtain ⟨hh,g,d,t,os'⟩:=s'
 obtain rfl:os'=s.os:=os
 exact ⟨v,H',I.call (h':=hh) (g':=g) (d':=d) (t':=t) (ch:=[]) un hok bare (fun b z=>absurd z (by simp)),r,q⟩
end
def tCall (sp:Sp) (dvs:List V) (E:XK) (t:TA):TE:=fun σ H Q=>t σ H fun vs H1=>sp (vs++dvs) H1 Q E
def Binds (K:PySem.W.Frag) (fd:FuncData) (ps:List Str) (ds:List Value):Prop:=
 ∀ (s:Shared) (us:List Value),K.In s.heap→(us++ds).length=ps.length→BindsTo s fd ⟨us,[]⟩ (ps.zip (us++ds))
theorem Binds.all {K:PySem.W.Frag} {fd:FuncData} {ps:List Str} (h:∀ us:List Value,us.length=ps.length→bindArgs fd ⟨us,[]⟩=pure (ps.zip us)):Binds K fd ps []:=fun s us _ hl=>by
 rw [List.append_nil] at hl ⊢
 exact .of_eq (h us hl)
def Passes (CX:CXT) (X:Cx) (E:XK):Prop:=∀ (pins:List (Addr × Obj)) (σ:St) (H:Hp) (s:Shared) (e:Value) (s':Shared),Inv X pins σ H s→CX X.stack H s E e s'→X.xe e s'
section
variable {X:Cx} {CX:CXT} {k:Nat} {f C:Addr} {fd:FuncData} {ps:List Str} {sp:Sp} {dvs:List V} {ds:List Value} {E:XK} {x m:Str} {p pos apos:Pos} {e o:Expr} {es:List Expr} {ta:TE} {t:TA}
theorem run_fn {pins:List (Addr × Obj)} {σ:St} {H:Hp} {s:Shared} {Q:VK} {us:List Value} {vs:List V} (F:FnOk X.prog X.w X.K X.mg X.base CX k f fd ps sp) (hr:Room k X.A) (hb:Binds X.K fd ps ds) (hd:Vals dvs ds) (hx:Passes CX X E)
  (I:Inv X pins σ H s) (r:Vals vs us) (h:sp (vs++dvs) H Q E):wpAny (model X.prog X.w) X.A (call (.ref f) us) (EP X pins σ Q) X.xe s:=by
 have r2:Vals (vs++dvs) (us++ds):=r.append hd
 have hl:(us++ds).length=ps.length:=by rw [← r2.length];exact F.len _ _ _ _ h
 refine wpAny_call (codeAny_mono (F.run X.A X.stack s H ⟨us,[]⟩ (us++ds) (vs++dvs) Q E hr I.env0 (hb s us I.kIn hl) r2 h) fun r s' hq=>?_)
 cases r with
 | error e=>exact hx pins σ H s e s' I hq
 | ok fl=>
  cases fl with
  | ret u=>exact I.after hq
  | next=>exact False.elim hq
  | brk=>exact False.elim hq
  | cont=>exact False.elim hq
theorem pe_call (F:FnOk X.prog X.w X.K X.mg X.base CX k f fd ps sp) (hr:Room k X.A) (hg:Gl X x) (hm:X.mg x=some (.ref f)) (hk:PySem.W.keepIn X.K (.ref f)=true) (hb:Binds X.K fd ps ds) (hd:Vals dvs ds) (hx:Passes CX X E)
  (ha:PA X (e::es) t) (hdb:(x == ("__debug__" : Str))=false:=by decide) (he:starEach (e::es) X.env=(false,eval e X.env)::starEach es X.env:=by rfl) (hpl:(backTo pos (starEach es X.env)).any (·.1)=false:=by rfl) :
  PE X (.Call (.Name x p) (e::es) [] pos) (tCall sp dvs E t):=by
 intro pins s σ H Q I h
 refine wpAny_Call_Name_kw (ld_glob I hg hm ?_ hdb)
 refine PySem.W.callWith_K (h₀:=X.base) I.ok.mod.kin hk (thn (ha pos pins s σ H _ I h) fun us s1 ⟨vs,H1,I1,r,q⟩=>⟨I1.kIn,?_⟩) he hpl
 exact run_fn F hr hb hd hx I1 r q
structure Mk (K:PySem.W.Frag) (C f:Addr):Prop where
 makes:PySem.W.makesIn K C=true
 init:PySem.W.findIn K (.ref C) "__init__" = some (some (.ref f))
 fn:PySem.W.isFn K (.ref f)=true
 kp:PySem.W.keepIn K (.ref C)=true
end
section
variable {X:Cx} {CX:CXT} {k:Nat} {f C:Addr} {fd:FuncData} {ps ks:List Str} {sp:Sp} {E:XK} {x m:Str} {p pos apos kpos:Pos} {e o:Expr} {es:List Expr} {kws:List Keyword} {te ta:TE} {t tk:TA} {nm:Option Str}
structure KBinds (K:PySem.W.Frag) (fd:FuncData) (ps ks:List Str) (g:List Value→List Value→List Value) (gV:List V→List V→List V):Prop where
 to:∀ (s:Shared) (us ws:List Value),K.In s.heap→(g us ws).length=ps.length→BindsTo s fd ⟨us,ks.zip ws⟩ (ps.zip (g us ws))
 rel:∀ {vs:List V} {us:List Value} {zs:List V} {ws:List Value},Vals vs us→Vals zs ws→Vals (gV vs zs) (g us ws)
variable {g:List Value→List Value→List Value} {gV:List V→List V→List V}
end
structure FnScope (N P:List Str) (sc:Scope):Prop where
 kind:sc.kind=.function
 co:sc.isCoroutine=false
 gen:sc.isGenerator=false
 nd:N.Nodup
 pre:N.take P.length=P
 par:∀ x ∈ P,sc.names.lookup x=some .local∨sc.names.lookup x=some .cell
 nofree:∀ y ∈ sc.names,y.2 ≠ .free
theorem bindL_out {kindOf:Str→Option NameKind} {x:Str}:∀ {binds:List (Str × Value)} {m:Str→Option Value},(∀ v,(x,v) ∉ binds)→bindL kindOf binds m x=m x
 | [],_,_=>rfl
 | (n,v)::r,m,h=>by
  unfold bindL
  rw [bindL_out fun w hw=>h w (List.mem_cons_of_mem _ hw)]
  split
  ·have:x ≠ n:=by rintro rfl;exact h v List.mem_cons_self
   simp [this]
  ·rfl
theorem bindC_out {kindOf:Str→Option NameKind} {x:Str}:∀ {binds:List (Str × Value)} {m:Str→Option Value},(∀ v,(x,v) ∉ binds)→bindC kindOf binds m x=m x
 | [],_,_=>rfl
 | (n,v)::r,m,h=>by
  unfold bindC
  rw [bindC_out fun w hw=>h w (List.mem_cons_of_mem _ hw)]
  split
  ·rfl
  ·have:x ≠ n:=by rintro rfl;exact h v List.mem_cons_self
   simp [this]
theorem bindL_get {kindOf:Str→Option NameKind} {x:Str} {v:Value}:∀ {P:List Str} {vs:List Value} {i:Nat} {m:Str→Option Value},P.Nodup→P[i]?=some x→vs[i]?=some v→kindOf x=some .local→
  bindL kindOf (P.zip vs) m x=some v
 | [],_,_,_,_,h,_,_=>by simp at h
 | _::_,[],_,_,_,_,h,_=>by simp at h
 | p::P,w::vs,0,m,nd,h1,h2,hk=>by
  simp at h1 h2;subst h1;subst h2
  show bindL kindOf ((p,w)::P.zip vs) m p=_
  unfold bindL
  rw [bindL_out fun v hv=>(List.nodup_cons.mp nd).1 (List.of_mem_zip hv).1,if_pos hk]
  simp
 | p::P,w::vs,i+1,m,nd,h1,h2,hk=>by
  show bindL kindOf ((p,w)::P.zip vs) m x=_
  unfold bindL
  exact bindL_get (i:=i) (List.nodup_cons.mp nd).2 (by simpa using h1) (by simpa using h2) hk
theorem bindC_get {kindOf:Str→Option NameKind} {x:Str} {v:Value}:∀ {P:List Str} {vs:List Value} {i:Nat} {m:Str→Option Value},P.Nodup→P[i]?=some x→vs[i]?=some v→kindOf x ≠ some .local→
  bindC kindOf (P.zip vs) m x=some v
 | [],_,_,_,_,h,_,_=>by simp at h
 | _::_,[],_,_,_,_,h,_=>by simp at h
 | p::P,w::vs,0,m,nd,h1,h2,hk=>by
  simp at h1 h2;subst h1;subst h2
  show bindC kindOf ((p,w)::P.zip vs) m p=_
  unfold bindC
  rw [bindC_out fun v hv=>(List.nodup_cons.mp nd).1 (List.of_mem_zip hv).1,if_neg hk]
  simp
 | p::P,w::vs,i+1,m,nd,h1,h2,hk=>by
  show bindC kindOf ((p,w)::P.zip vs) m x=_
  unfold bindC
  exact bindC_get (i:=i) (List.nodup_cons.mp nd).2 (by simpa using h1) (by simpa using h2) hk
def start (N:List Str) (vs:List V):St:=vs.map some++List.replicate (N.length - vs.length) none
def cxOf (CX:CXT) (P:Program) (w:World) (K:PySem.W.Frag) (mg:Str→Option Value) (base:Heap) (N:List Str) (qual:Str) (scope:Scope) (f:Addr) (cd:Value) (A:Around) (outer:List Env) (s:Shared) (H:Hp) (E:XK):Cx where
 prog:=P
 w:=w
 K:=K
 mg:=mg
 base:=base
 A:=A.deeper (envOfC qual scope s.heap.objs.size f cd)
 N:=N
 s₀:=s
 H₀:=H
 env:=envOfC qual scope s.heap.objs.size f cd
 outer:=outer
 stack:=envOfC qual scope s.heap.objs.size f cd::outer
 ex:=[]
 calm:=true
 fn:=fun _=>true
 pn:=[]
 xe:=fun e s'=>wpAny (model P w) (A.deeper (envOfC qual scope s.heap.objs.size f cd)) (leaving (envOfC qual scope s.heap.objs.size f cd) e) (fun _ s''=>CX outer H s E e s'') (fun e' s''=>CX outer H s E e' s'') s'
theorem cell_has {sc:Scope} {n:Nat} {x:Str} (h:sc.names.lookup x=some .cell):∃ c,(cellsFrom n sc.names []).lookup x=some c:=by
 have q:=PySem.W.cellsFrom_some sc.names n [] (.inl h)
 exact Option.isSome_iff_exists.mp q
theorem inv_start {CX:CXT} {P:Program} {w:World} {K:PySem.W.Frag} {mg:Str→Option Value} {base:Heap} {N ps:List Str} {qual:Str} {scope:Scope} {f:Addr} {cd:Value} {A:Around} {outer:List Env} {s s1:Shared} {H:Hp} {E:XK} {us:List Value} {vs:List V}
  (S:FnScope N ps scope) (hd:A.handled=none) (e0:Env0 P w K mg base A outer s H) (hl:vs.length=ps.length) (r:Vals vs us)
  (x:InCallC s s.heap.objs.size (bindL (envOfC qual scope s.heap.objs.size f cd).kindOf (ps.zip us) fun _=>none) (cellsFrom (s.heap.objs.size+1) scope.names []) (bindC (envOfC qual scope s.heap.objs.size f cd).kindOf (ps.zip us) fun _=>none) s1) :
  Inv (cxOf CX P w K mg base N qual scope f cd A outer s H E) [] (start N vs) H s1:=by
 have hpl:ps.length≤N.length:=by have:=congrArg List.length S.pre;rw [List.length_take] at this;omega
 obtain ⟨h1,tk,rfl,hk⟩:=x.done
 have noA:∀ b:Addr,b ∉ (cxOf CX P w K mg base N qual scope f cd A outer s H E).ex:=fun b z=>absurd (show b ∈ ([]:List Addr) from z) (by simp)
 refine ⟨⟨e0.mod,S.kind,rfl,rfl,Nat.le_refl _,fun y z c h1 h2=>?_,fun y hy=>?_,fun y c _ h=>?_,fun _=>hd,Around.frames_deeper e0.frames,.inr ⟨rfl,rfl⟩,fun b z=>absurd z (noA b),e0.bs,e0.bsz,fun b _ _=>noA b,fun b z=>absurd z (noA b),e0.funs,e0.frf⟩,
  rfl,e0.bare,Un.kept hk,⟨_,x.toInCall.ns,fun i y v h1 h2 h3=>?_⟩,fun y c h=>⟨_,x.cell y c h⟩,e0.hok.fresh (Nat.le_refl _),fun y c h=>?_,fun p hp=>absurd (show p ∈ ([]:List (Addr × Obj)) from hp) (by simp),e0.hok.kept hk,?_⟩
 ·exact name_of_addr x.apart (PySem.mem_of_lookup h1) (PySem.mem_of_lookup h2)
 ·have hy:scope.names.lookup y=some .cell∨scope.names.lookup y=some .free:=hy
  rcases hy with hy | hy
  ·exact cell_has hy
  ·exact absurd rfl (S.nofree _ (PySem.mem_of_lookup hy))
 ·exact Nat.le_of_lt (x.above y c (PySem.mem_of_lookup h))
 ·have hi:i<vs.length:=by
   unfold start at h2
   by_cases hi:i<vs.length
   ·exact hi
   ·rw [List.getElem?_append_right (by simpa using hi)] at h2
    rw [List.getElem?_replicate] at h2
    split at h2 <;> cases h2
  have ha:vs[i]?=some v:=by
   unfold start at h2
   rw [List.getElem?_append_left (by simpa using hi),List.getElem?_map] at h2
   cases e:vs[i]? with
   | none=>rw [e] at h2;cases h2
   | some a=>rw [e] at h2;cases h2;rfl
  obtain ⟨u,hu,rv⟩:=r.get ha
  have hp:ps[i]?=some y:=by
   rw [← S.pre,List.getElem?_take_of_lt (by omega)];exact h1
  have ndP:ps.Nodup:=by rw [← S.pre];exact S.nd.sublist (List.take_sublist _ _)
  refine ⟨u,rv,?_⟩
  rcases S.par y (List.mem_of_getElem? hp) with k | k
  ·exact .inl ⟨k,bindL_get ndP hp hu k⟩
  ·obtain ⟨c,e⟩:=cell_has (n:=s.heap.objs.size+1) k
   refine .inr ⟨.inl k,c,e,?_⟩
   have q:=x.cell y c e
   rw [bindC_get ndP hp hu (by show scope.names.lookup y ≠ _;rw [k];decide)] at q
   exact q
 ·exact e0.hok.fresh (Nat.le_of_lt (x.above y c (PySem.mem_of_lookup h)))
 ·unfold start
  show _=N.length
  rw [List.length_append,List.length_map,List.length_replicate]
  omega
theorem fn_of {CX:CXT} {P:Program} {w:World} {K:PySem.W.Frag} {mg:Str→Option Value} {base:Heap} {k:Nat} {f:Addr} {name qual:Str} {params:Arguments} {body:List Stmt} {scope:Scope} {dV kV doc pm cdv ct oc:Value} {an od:Option Addr}
  {osl:Array (Option Value)} {N ps:List Str} {sp:Sp} (lk:K.lookup f=some ⟨oc,od,.func (PySem.W.fnOf name qual params body scope dV kV doc pm an cdv ct),osl⟩) (hcd:PySem.W.codeIn K cdv qual=true) (S:FnScope N ps scope)
  (len:∀ vs H Q E,sp vs H Q E→vs.length=ps.length)
  (hbody:∀ (A:Around) (outer:List Env) (s:Shared) (H:Hp) (vs:List V) (Q:VK) (E:XK),Room k (A.deeper (envOfC qual scope s.heap.objs.size f cdv))→sp vs H Q E→
   ∃ t,PSs (cxOf CX P w K mg base N qual scope f cdv A outer s H E) body t∧t { nx:=fun _ H'=>Q .non H',rt:=Q } (start N vs) H) :
  FnOk P w K mg base CX (k+1) f (PySem.W.fnOf name qual params body scope dV kV doc pm an cdv ct) ps sp:=by
 refine ⟨len,fun A outer s H args us vs Q E hr e0 hb r hsp=>?_⟩
 have hl:=len _ _ _ _ hsp
 have KX:K.In s.heap:=e0.mod.kin.keeps fun b o e=>(e0.bs b o e).1
 have lim:s.heap.NoLimit:=e0.mod.nolimit.keeps fun b o e=>(e0.bs b o e).1
 have hkind:∀ y ∈ ps.zip us,scope.names.lookup y.1=some .local∨(scope.names.lookup y.1=some .cell∧((cellsFrom (s.heap.objs.size+1) scope.names []).lookup y.1).isSome=true):=fun ⟨n,v⟩ hy=>by
  rcases S.par n (List.of_mem_zip hy).1 with q | q
  ·exact .inl q
  ·exact .inr ⟨q,PySem.W.cellsFrom_some _ _ _ (.inl q)⟩
 refine codeAny_call_function hr.depth (KX _ _ lk) rfl S.co S.gen rfl (PySem.W.codeRec_of KX hcd) (hb _ _ _ _ ?_)
 refine wpAny_newFunctionEnv_cells S.kind hkind fun env he s1 x=>?_
 subst he
 refine ⟨lim.keeps x.toInCall.keep,codeAny_func ?_⟩
 obtain ⟨t,ht,hq⟩:=hbody A outer s H vs Q E (hr.deeper _) hsp
 have I:Inv (cxOf CX P w K mg base N qual scope f cdv A outer s H E) [] (start N vs) H s1:=inv_start S hr.hd e0 hl r x
 refine wpAny_mono (ht [] s1 (start N vs) H _ I hq) (fun fl s' hs=>?_) fun e s' hs=>hs
 have fin:∀ {σ':St} {H':Hp} {v:V} {u:Value},Inv (cxOf CX P w K mg base N qual scope f cdv A outer s H E) [] σ' H' s'→RelV v u→Q v H'→CE outer P w H s Q u s':=
  fun {σ' H' v u} J rv q=>⟨v,H',J.os,J.bare,J.base,J.hok,rv,q⟩
 cases fl with
 | ret u=>
  obtain ⟨v,σ',H',J,rv,q⟩:=hs
  exact fin J rv q
 | next=>
  obtain ⟨σ',H',J,q⟩:=hs
  exact fin (v:=V.non) (u:=Value.none) J rfl q
 | brk=>
  obtain ⟨_,_,_,q⟩:=hs
  exact False.elim q
 | cont=>
  obtain ⟨_,_,_,q⟩:=hs
  exact False.elim q
end L2
namespace L2
open PySem PySem.Spec PyProof.Rows
section
variable {X:Cx} {x:Str} {p pos:Pos} {e:Expr} {es:List Expr} {t:TA} {id T:String} {r:List V→Hp→VK→Prop}
def tCB (r:List V→Hp→VK→Prop) (t:TA):TE:=fun σ H Q=>t σ H fun vs H1=>r vs H1 Q
theorem qAB (hc:CallR X (.builtin id) r) (hg:Gl X x) (hm:X.mg x=none) (hv:bootBuiltins x=some (.builtin id)) (ha:PA X (e::es) t) (hn:x ≠ "__name__":=by decide) (hdb:(x == ("__debug__" : Str))=false:=by decide)
  (he:starEach (e::es) X.env=(false,eval e X.env)::starEach es X.env:=by rfl) (hpl:(backTo pos (starEach es X.env)).any (·.1)=false:=by rfl):PE X (.Call (.Name x p) (e::es) [] pos) (tCB r t):=by
 intro pins s σ H Q I h
 refine wpAny_Call_Name_kw (ld_blt I hg hm hv ?_ hn hdb)
 exact PyProof.Rows.callWith_builtin1 (thn (ha pos pins s σ H _ I h) fun us s1 ⟨vs,H1,I1,r1,q1⟩=>hc pins s1 σ H1 vs us Q I1 r1 q1) he hpl
theorem qAI (hc:CallR X (.type T) r) (hg:Gl X x) (hm:X.mg x=none) (hv:bootBuiltins x=some (.type T)) (ha:PA X (e::es) t) (hn:x ≠ "__name__":=by decide) (hdb:(x == ("__debug__" : Str))=false:=by decide)
  (he:starEach (e::es) X.env=(false,eval e X.env)::starEach es X.env:=by rfl) (hpl:(backTo pos (starEach es X.env)).any (·.1)=false:=by rfl):PE X (.Call (.Name x p) (e::es) [] pos) (tCB r t):=by
 intro pins s σ H Q I h
 refine wpAny_Call_Name_kw (ld_blt I hg hm hv ?_ hn hdb)
 exact PyProof.Rows.callWith_type1 (thn (ha pos pins s σ H _ I h) fun us s1 ⟨vs,H1,I1,r1,q1⟩=>hc pins s1 σ H1 vs us Q I1 r1 q1) he hpl
end
end L2
namespace HT
open PySem PyProof.Rows
def lexLt:List Int→List Int→Bool
 | [],[]=>false
 | [],_::_=>true
 | _::_,[]=>false
 | x::xs,y::ys=>if x=y then lexLt xs ys else decide (x<y)
section
open PySem.SeqAt
open PySem.AutoSeq1 (wpAny_loadPart')
open PySem.MeetsSeq PySem.MeetsSeq2 PySem.MeetsSeq3
end
section
variable {prog:Program} {w:World} {A:Around} {E:Value→Shared→Prop} {s:Shared}
theorem cat_tup {t b:Addr} {vs ws:List Value} {Q:Value→Shared→Prop} (ht:IsTup s.heap t vs.toArray) (hb:IsTup s.heap b ws.toArray) (hv:vs ≠ [])
  (h1:ws=[]→Q (.ref t) s) (h2:ws ≠ []→Q (.ref s.heap.objs.size) { s with heap:=s.heap.push { cls:=.type "tuple",data:=.seq (vs++ws).toArray } })
  (hsz:vs.length+ws.length≤sizeLine):wpAny (model prog w) A (binaryOp .Add (.ref t) (.ref b)) Q E s:=by
 obtain ⟨⟨cls,dd,data,sl⟩,ho,hc,n,hd⟩:=id ht
 obtain ⟨⟨cls2,dd2,data2,sl2⟩,ho2,hc2,n2,hd2⟩:=id hb
 simp only at hc hd hc2 hd2
 subst hc hd hc2 hd2
 have e:vs.toArray++ws.toArray=(vs++ws).toArray:=by simp
 by_cases hw:ws=[]
 ·exact concat_meets ⟨_,ho,rfl⟩ ⟨_,ho2,rfl⟩ noFill_tuple_add seq_tuple_add PySem.F.slot_tuple_add PySem.F.entry_tuple_add (PySem.F.args_tuple_add_2 _ _)
   (tuple_addW1 t b vs.toArray ws.toArray n n2 dd dd2 sl sl2 (by simpa using hv) (by simp [hw])) ⟨ho,ho2,h1 hw⟩
 ·refine concat_meets ⟨_,ho,rfl⟩ ⟨_,ho2,rfl⟩ noFill_tuple_add seq_tuple_add PySem.F.slot_tuple_add PySem.F.entry_tuple_add (PySem.F.args_tuple_add_2 _ _)
   (tuple_addW2 t b vs.toArray ws.toArray n n2 dd dd2 sl sl2 (by simpa using hv) (by simpa using hw) (by rw [List.size_toArray,List.size_toArray];exact hsz)) ⟨ho,ho2,?_⟩
  rw [e]
  exact h2 hw
def sIx (n d:Nat):Option Int→Nat
 | none=>d
 | some v=>if v<0 then (v+(n:Int)).toNat else min v.toNat n
theorem sIx_none (n d:Nat):sIx n d none=d:=rfl
theorem sIx_nat (n d k:Nat):sIx n d (some (k:Int))=min k n:=by
 show (if (k:Int)<0 then ((k:Int)+(n:Int)).toNat else min (k:Int).toNat n)=min k n
 rw [if_neg (by omega),Int.toNat_natCast]
end
end HT
namespace L2
open PySem PySem.Spec PyProof.Rows
abbrev TO:=St→Hp→(Option Int→Hp→Prop)→Prop
def PO (X:Cx) (e:Option Expr) (t:TO):Prop:=
 ∀ (pins:List (Addr × Obj)) (s:Shared) (σ:St) (H:Hp) (Q:Option Int→Hp→Prop),Inv X pins σ H s→t σ H Q→
  wpAny (model X.prog X.w) X.A (evalPart e X.env) (fun u s'=>∃ o H',Inv X pins σ H' s'∧IsPart u o∧Q o H') X.xe s
def tNoPart:TO:=fun _ H Q=>Q none H
def tPart (t:TE):TO:=fun σ H Q=>t σ H fun x H1=>∃ i,x=.int i∧Q (some i) H1
section
variable {X:Cx} {e:Expr} {te:TE} {lo hi:Option Expr} {tl th:TO} {pos p2:Pos}
theorem qD5:PO X none tNoPart:=by
 intro pins s σ H Q I h
 rw [evalPart_none]
 exact wpAny_pure ⟨none,H,I,.none,h⟩
theorem qCH (h:PE X e te):PO X (some e) (tPart te):=by
 intro pins s σ H Q I hw
 rw [evalPart_some]
 refine thn (h pins s σ H _ I hw) fun u s1 ⟨x,H1,I1,r1,q1⟩=>?_
 obtain ⟨i,rfl,q⟩:=q1
 obtain ⟨t,rfl⟩:=r1
 exact ⟨some i,H1,I1,.int i t,q⟩
def SlR (X:Cx) (r:V→Option Int→Option Int→Hp→VK→Prop):Prop:=
 ∀ (pins:List (Addr × Obj)) (s:Shared) (σ:St) (H:Hp) (x:V) (v vl vu:Value) (lo hi:Option Int) (sl:Addr) (Q:VK),Inv X pins σ H s→RelV x v→s.heap.IsSliceOf sl vl vu .none→IsPart vl lo→IsPart vu hi→r x lo hi H Q→
  ∃ T id,typeLookup (.type T) "__getitem__" = pure (some (.builtin id))∧s.TypeIs v T∧wpAny (model X.prog X.w) X.A (getItem v (.ref sl)) (EP X pins σ Q) X.xe s
def tSl (r:V→Option Int→Option Int→Hp→VK→Prop) (te:TE) (tl th:TO):TE:=fun σ H Q=>te σ H fun x H1=>tl σ H1 fun l H2=>th σ H2 fun u H3=>r x l u H3 Q
theorem qC4 {r:V→Option Int→Option Int→Hp→VK→Prop} (hr:SlR X r) (he:PE X e te) (hl:PO X lo tl) (hu:PO X hi th):PE X (.Subscript e (.Slice lo hi none p2) pos) (tSl r te tl th):=by
 intro pins s σ H Q I h
 refine Subscript_ (thn (he pins s σ H _ I h) fun v s1 ⟨x,H1,I1,r1,q1⟩=>?_)
 refine wpAny_Slice (thn (hl pins s1 σ H1 _ I1 q1) fun vl s2 ⟨l,H2,I2,pl,q2⟩=>thn (hu pins s2 σ H2 _ I2 q2) fun vu s3 ⟨u,H3,I3,pu,q3⟩=>?_)
 rw [evalPart_none]
 refine wpAny_pure ?_
 have I4:Inv X pins σ H3 { s3 with heap:=s3.heap.push { cls:=.type "slice",data:=.fields #[vl,vu,.none] } }:=I3.kept (t':=s3.toks) fun b ob q=>Heap.get?_push_of_some _ q
 obtain ⟨T,id,hT,ht,hg⟩:=hr pins { s3 with heap:=s3.heap.push { cls:=.type "slice",data:=.fields #[vl,vu,.none] } } σ H3 x v vl vu l u s3.heap.objs.size Q I4 r1 (Heap.IsSliceOf.new ..) pl pu q3
 show wpAny (model X.prog X.w) X.A (subscriptTail e (.Slice lo hi none p2) v (.ref s3.heap.objs.size)) (EP X pins σ Q) X.xe { s3 with heap:=s3.heap.push { cls:=.type "slice",data:=.fields #[vl,vu,.none] } }
 exact tail_any (ops:=[.ref s3.heap.objs.size,v]) ht hT hg (by with_unfolding_all rfl)
def cutV (xs:List V) (lo hi:Option Int):List V:=(xs.drop (HT.sIx xs.length 0 lo)).take (HT.sIx xs.length xs.length hi - HT.sIx xs.length 0 lo)
theorem cutV_length (xs:List V) (lo hi:Option Int):(cutV xs lo hi).length≤xs.length:=by
 unfold cutV
 rw [List.length_take,List.length_drop]
 omega
def rCatT (K:PySem.W.Frag):R2:=fun x y H Q=>∃ a b xs ys,x=.ref a∧y=.ref b∧SqT K H a xs∧SqT K H b ys∧xs ≠ []∧xs.length+ys.length≤sizeLine∧
 (ys=[]→Q (.ref a) H)∧(ys ≠ []→∀ p,H p=none→Q (.ref p) (upd H p (.tup (xs++ys))))
theorem Vals.nil_iff {xs:List V} {us:List Value} (r:Vals xs us):us=[] ↔ xs=[]:=by
 cases r with
 | nil=>simp
 | cons _ _=>simp
theorem op_catT:OpR X (binaryOp .Add) (rCatT X.K):=by
 intro pins s σ H x y v u Q I rx ry h
 obtain ⟨a,b,xs,ys,rfl,rfl,ha,hb,hx,hz,q1,q2⟩:=h
 cases rx
 cases ry
 obtain ⟨its,r1,p1,_⟩:=I.tuple ha
 obtain ⟨its2,r2,p2,_⟩:=I.tuple hb
 refine HT.cat_tup p1 p2 (fun z=>hx (r1.nil_iff.mp z)) (fun z=>⟨.ref a,H,I,rfl,q1 (r2.nil_iff.mp z)⟩) (fun z=>?_) (by rw [← r1.length,← r2.length];exact hz)
 refine ⟨.ref s.heap.objs.size,_,I.laid (t':=s.toks) (o:=.tup (xs++ys)) (fun b ob q=>Heap.get?_push_of_some _ q) (Nat.le_refl _) ?_,rfl,q2 (fun w=>z (r2.nil_iff.mpr w)) _ (I.hok.fresh (Nat.le_refl _))⟩
 exact ⟨by rw [List.length_append];exact hz,_,r1.append r2,IsTup.new _ _⟩
end
end L2
namespace L2
open PySem PySem.Spec PyProof.Rows
def ixN (n:Nat) (i:Int):Option Nat:=if 0≤i then (if i<n then some i.toNat else none) else if -(n:Int)≤i then some (i+n).toNat else none
def atI {α:Type} (xs:List α) (i:Int):Option α:=(ixN xs.length i).bind fun j=>xs[j]?
theorem ixN_seq {n:Nat} {i:Int} {j:Nat} (h:ixN n i=some j):seqIndex? i n=some j∧j<n∧-(n:Int)≤i∧i<n:=by
 unfold ixN at h
 by_cases h0:0≤i
 ·rw [if_pos h0] at h
  by_cases h1:i<n
  ·rw [if_pos h1] at h
   have e:i.toNat=j:=Option.some.inj h
   exact ⟨by rw [seqIndex_of h0 h1,e],by omega,by omega,h1⟩
  ·rw [if_neg h1] at h;cases h
 ·rw [if_neg h0] at h
  by_cases h1 : -(n:Int)≤i
  ·rw [if_pos h1] at h
   have e:(i+n).toNat=j:=Option.some.inj h
   exact ⟨by rw [seqIndex_neg (by omega) h1,e],by omega,h1,by omega⟩
  ·rw [if_neg h1] at h;cases h
theorem atI_get {α:Type} {xs:List α} {i:Int} {v:α} (h:atI xs i=some v):∃ j,seqIndex? i xs.length=some j∧xs[j]?=some v∧j<xs.length∧-(xs.length:Int)≤i∧i<xs.length:=by
 unfold atI at h
 cases e:ixN xs.length i with
 | none=>rw [e] at h;cases h
 | some j=>
  rw [e] at h
  obtain ⟨h1,h2,h3,h4⟩:=ixN_seq e
  exact ⟨j,h1,h,h2,h3,h4⟩
theorem atI_nat {α:Type} {xs:List α} {j:Nat} {v:α} (h:xs[j]?=some v):atI xs (j:Int)=some v:=by
 have hj:j<xs.length:=(List.getElem?_eq_some_iff.mp h).1
 have e:ixN xs.length (j:Int)=some j:=by
  unfold ixN
  rw [if_pos (by omega),if_pos (by omega)];simp
 unfold atI;rw [e];exact h
theorem qD1 {α:Type} (xs:List α) (v:α):atI (xs++[v]) (-1)=some v:=by
 have hl:(xs++[v]).length=xs.length+1:=by simp
 have e:ixN (xs++[v]).length (-1)=some xs.length:=by
  unfold ixN
  rw [hl,if_neg (by decide),if_pos (by omega)]
  congr 1
  omega
 unfold atI
 rw [e]
 show (xs++[v])[xs.length]?=some v
 simp
def PlainIx (b:Expr):Prop:=∀ o i,subscripted b false o i=operate [o,i] (getItem o i)
def IxR (X:Cx) (r:R2):Prop:=
 ∀ (value slice:Expr) (pins:List (Addr × Obj)) (s:Shared) (σ:St) (H:Hp) (x y:V) (v u:Value) (Q:VK),Inv X pins σ H s→RelV x v→RelV y u→r x y H Q→
  subscripted slice false v u=operate [v,u] (getItem v u)→wpAny (model X.prog X.w) X.A (subscriptTail value slice v u) (EP X pins σ Q) X.xe s
def MtR (X:Cx) (id:String) (r:V→List V→Hp→VK→Prop):Prop:=
 ∀ (pins:List (Addr × Obj)) (s:Shared) (σ:St) (H:Hp) (x:V) (xs:List V) (v:Value) (us:List Value) (Q:VK),Inv X pins σ H s→RelV x v→Vals xs us→r x xs H Q→
  wpAny (model X.prog X.w) X.A (call (.builtin id) (v::us)) (EP X pins σ Q) X.xe s
section
variable {X:Cx} {a b:Expr} {ta tb:TE} {pos:Pos}
theorem pe_ix {r:R2} (hr:IxR X r) (ha:PE X a ta) (hb:PE X b tb) (hs:PlainIx b):PE X (.Subscript a b pos) (tOp r ta tb):=by
 intro pins s σ H Q I h
 exact Subscript_ (binT ha hb I h fun v u s2 x y H2 I2 rx ry q=>hr a b pins s2 σ H2 x y v u Q I2 rx ry q (hs _ _))
def rIxL (K:PySem.W.Frag):R2:=fun x y H Q=>∃ p xs i v,x=.ref p∧y=.int i∧SqL K H p xs∧atI xs i=some v∧Q v H
def rIxT (K:PySem.W.Frag):R2:=fun x y H Q=>∃ p xs i v,x=.ref p∧y=.int i∧SqT K H p xs∧atI xs i=some v∧Q v H
theorem qAR:IxR X (rIxL X.K):=by
 intro value slice pins s σ H x y v u Q I rx ry h hs
 obtain ⟨p,xs,i,z,rfl,rfl,hq,he,q⟩:=h
 cases rx
 obtain ⟨t,rfl⟩:=ry
 obtain ⟨its,r,pl,hz⟩:=I.list hq
 obtain ⟨j,h1,h2,h3,h4,h5⟩:=atI_get he
 obtain ⟨w,ew,rw'⟩:=r.get h2
 have hl:=r.length
 have hn:=line63
 have fin:EP X pins σ Q w s:=⟨z,H,I,rw',q⟩
 by_cases h0:0≤i
 ·have hj:i.toNat=j:=by
   rw [seqIndex_of h0 h5] at h1
   exact Option.some.inj h1
  exact item_listR pl.isList h0 (by omega) (by rw [hj];simpa using ew) fin hs
 ·have hj:(i+(its.toArray.size:Int)).toNat=j:=by
   rw [seqIndex_neg (by omega) h4] at h1
   rw [List.size_toArray,← hl]
   exact Option.some.inj h1
  exact subscriptTail_builtinR (x:=w) pl.isList.typeIs slot_list_getitem.lookup
   (wpAny_getItem_list_neg (Q:=fun r s'=>r=w∧EP X pins σ Q r s') pl.isList (by omega) (by rw [List.size_toArray] <;> omega) (by omega) (by rw [hj];simpa using ew) ⟨rfl,fin⟩) hs
theorem qAW:IxR X (rIxT X.K):=by
 intro value slice pins s σ H x y v u Q I rx ry h hs
 obtain ⟨p,xs,i,z,rfl,rfl,hq,he,q⟩:=h
 cases rx
 obtain ⟨t,rfl⟩:=ry
 obtain ⟨its,r,pl,hz⟩:=I.tuple hq
 obtain ⟨j,h1,h2,h3,h4,h5⟩:=atI_get he
 obtain ⟨w,ew,rw'⟩:=r.get h2
 have hl:=r.length
 have hn:=line63
 have fin:EP X pins σ Q w s:=⟨z,H,I,rw',q⟩
 exact subscriptTail_builtinR (x:=w) pl.typeIs slot_tuple_getitem.lookup
  (getItem_tuple (j:=j) (Q:=fun r s'=>r=w∧EP X pins σ Q r s') pl (by omega) (by omega) (by rw [List.size_toArray,← hl];exact h1) (by simpa using ew) ⟨rfl,fin⟩) hs
theorem mapSeq_set (its:List Value) (n j:Nat) (u:Value):Obj.mapSeq (·.setIfInBounds j u) { cls:=.type "list",data:=.seq its.toArray n }={ cls:=.type "list",data:=.seq (its.set j u).toArray n }:=by
 simp [Obj.mapSeq]
theorem Inv.lst {pins:List (Addr × Obj)} {σ:St} {H:Hp} {s:Shared} {p:Addr} {xs:List V} (I:Inv X pins σ H s) (h:H p=some (.lst xs)) :
  ∃ (its:List Value) (n:Nat),Vals xs its∧s.heap.get? p=some { cls:=.type "list",data:=.seq its.toArray n }∧xs.length≤sizeLine:=by
 obtain ⟨z,its,n,r,e⟩:=I.hok p _ h
 exact ⟨its,n,r,e,z⟩
theorem Inv.lstUpd {pins:List (Addr × Obj)} {σ:St} {H:Hp} {s:Shared} {p:Addr} {xs ys:List V} {its its':List Value} {n n':Nat} {f:Obj→Obj} (I:Inv X pins σ H s) (h:H p=some (.lst xs))
  (ho:s.heap.get? p=some { cls:=.type "list",data:=.seq its.toArray n }) (hf:f { cls:=.type "list",data:=.seq its.toArray n }={ cls:=.type "list",data:=.seq its'.toArray n' }) (r:Vals ys its') (hz:ys.length≤sizeLine) (t:Nat) :
  Inv X pins σ (upd H p (.lst ys)) { s with heap:=s.heap.update p f,toks:=t }:=by
 have e:(s.heap.update p f).get? p=some { cls:=.type "list",data:=.seq its'.toArray n' }:=by
  rw [Heap.get?_update_self f ho (by rw [hf] <;> rfl),hf]
 refine I.write (x:=p) (e:=p) (by rw [h];trivial) (.inl rfl) (fun b u hb q=>(Heap.get?_update_other _ _ (Ne.symm hb)).trans q) ⟨_,e⟩ ?_
 exact ⟨hz,its',n',r,e⟩
def rSetL:V→V→V→Hp→(Hp→Prop)→Prop:=fun o i v H Q=>∃ p xs k j,o=.ref p∧i=.int k∧H p=some (.lst xs)∧ixN xs.length k=some j∧Q (upd H p (.lst (xs.set j v)))
theorem set_list:PSet X rSetL:=by
 intro pins s σ H o i v ov iv u Q I ro ri rv h
 obtain ⟨p,xs,k,j,rfl,rfl,hp,hj,q⟩:=h
 cases ro
 obtain ⟨t,rfl⟩:=ri
 obtain ⟨its,n,r,ho,hz⟩:=I.lst hp
 obtain ⟨h1,h2,h3,h4⟩:=ixN_seq hj
 have hl:=r.length
 have hn:=line63
 have I':Inv X pins σ (upd H p (.lst (xs.set j v))) { s with heap:=s.heap.update p (Obj.mapSeq (·.setIfInBounds j u)) }:=
  I.lstUpd hp ho (mapSeq_set its n j u) (r.set rv j) (by rw [List.length_set];exact hz) s.toks
 by_cases h0:0≤k
 ·have hk:k.toNat=j:=by
   rw [seqIndex_of h0 h4] at h1
   exact Option.some.inj h1
  exact PySem.W.ki_setAt ho h0 (by omega) (by rw [List.size_toArray,← hl];exact h4) (by rw [hk];exact ⟨_,I',q⟩)
 ·have hk:(k+(its.toArray.size:Int)).toNat=j:=by
   rw [seqIndex_neg (by omega) h3] at h1
   rw [List.size_toArray,← hl]
   exact Option.some.inj h1
  exact PySem.W.ki_setBack ho (by omega) (by rw [List.size_toArray,← hl];exact h3) (by omega) (by rw [hk];exact ⟨_,I',q⟩)
theorem slice_bounds (lo hi:Option Int) (n:Nat):(sliceBounds lo hi none n).1=((HT.sIx n 0 lo:Nat):Int)∧(sliceBounds lo hi none n).2.1=((HT.sIx n n hi:Nat):Int)∧(sliceBounds lo hi none n).2.2=1:=by
 refine ⟨?_,?_,rfl⟩
 ·cases lo with
  | none=>simp [sliceBounds,HT.sIx]
  | some i=>
   simp only [sliceBounds,HT.sIx,Option.getD_none,show (1:Int) > 0 by decide,if_true]
   by_cases h:i<0
   ·simp only [h,if_true] <;> omega
   ·simp only [h,if_false] <;> omega
 ·cases hi with
  | none=>simp [sliceBounds,HT.sIx]
  | some i=>
   simp only [sliceBounds,HT.sIx,Option.getD_none,show (1:Int) > 0 by decide,if_true]
   by_cases h:i<0
   ·simp only [h,if_true] <;> omega
   ·simp only [h,if_false] <;> omega
theorem slicePick_cut (its:List Value) (lo hi:Option Int):slicePick its.toArray lo hi none=((its.drop (HT.sIx its.length 0 lo)).take (HT.sIx its.length its.length hi - HT.sIx its.length 0 lo)).toArray:=by
 obtain ⟨h1,h2,h3⟩:=slice_bounds lo hi its.toArray.size
 unfold slicePick
 rw [h1,h2,h3]
 simp only [sliceRange_one,pick_run,List.size_toArray] <;> rfl
def rSlL (K:PySem.W.Frag):V→Option Int→Option Int→Hp→VK→Prop:=fun x lo hi H Q=>∃ a xs,x=.ref a∧SqL K H a xs∧∀ p,H p=none→Q (.ref p) (upd H p (.lst (cutV xs lo hi)))
theorem qCO:SlR X (rSlL X.K):=by
 intro pins s σ H x v vl vu lo hi sl Q I rx hs pl pu h
 obtain ⟨a,xs,rfl,hx,q⟩:=h
 cases rx
 obtain ⟨its,r,ht,hz⟩:=I.list hx
 have hlen:=r.length
 refine ⟨"list",_,slot_list_getitem.lookup,ht.isList.typeIs,?_⟩
 refine wpAny_getItem_list_slice ht.isList hs pl pu .none (by simp) ?_ (by rw [List.size_toArray] <;> omega)
 rw [slicePick_cut,← hlen]
 refine ⟨.ref s.heap.objs.size,_,I.laid (t':=s.toks) (o:=.lst (cutV xs lo hi)) (fun b ob q=>Heap.get?_push_of_some _ q) (Nat.le_refl _) ?_,rfl,q _ (I.hok.fresh (Nat.le_refl _))⟩
 exact ⟨Nat.le_trans (cutV_length xs lo hi) hz,_,0,(r.drop (HT.sIx xs.length 0 lo)).take (HT.sIx xs.length xs.length hi - HT.sIx xs.length 0 lo),Heap.get?_push_size _ rfl⟩
def flatV:V→Bool
 | .non=>true
 | .bl _=>true
 | .int _=>true
 | .str _=>true
 | _=>false
def eqV:V→V→Bool
 | .non,.non=>true
 | .bl a,.bl b=>a == b
 | .bl a,.int b=>(if a then 1 else 0) == b
 | .int a,.bl b=>a == (if b then 1 else 0)
 | .int a,.int b=>a == b
 | .str a,.str b=>a == b
 | _,_=>false
theorem eqAt_V {A:Around} {s:Shared} {y x:V} {u v:Value} (ry:RelV y u) (rx:RelV x v) (fy:flatV y=true) (fx:flatV x=true):SeqAt.EqAt A s u v (eqV y x):=by
 cases y with
 | non=>
  cases ry
  cases x with
  | non=>cases rx;exact SeqAt.EqAt.same _
  | bl b=>cases rx;exact SeqAt.EqAt.none_bool b
  | int b=>obtain ⟨t,rfl⟩:=rx;exact SeqAt.EqAt.none_int b t
  | str b=>obtain ⟨t,rfl⟩:=rx;exact SeqAt.EqAt.none_str b t
  | _=>exact absurd (show false=true from fx) Bool.false_ne_true
 | bl a=>
  cases ry
  cases x with
  | non=>cases rx;exact SeqAt.EqAt.bool_none a
  | bl b=>cases rx;exact SeqAt.EqAt.bool_bool a b
  | int b=>obtain ⟨t,rfl⟩:=rx;exact SeqAt.EqAt.bool_int a b t
  | str b=>obtain ⟨t,rfl⟩:=rx;exact SeqAt.EqAt.bool_str a b t
  | _=>exact absurd (show false=true from fx) Bool.false_ne_true
 | int a=>
  obtain ⟨t',rfl⟩:=ry
  cases x with
  | non=>cases rx;exact SeqAt.EqAt.int_none a t'
  | bl b=>cases rx;exact SeqAt.EqAt.int_bool a t' b
  | int b=>obtain ⟨t,rfl⟩:=rx;exact SeqAt.EqAt.int_int a t' b t
  | str b=>obtain ⟨t,rfl⟩:=rx;exact SeqAt.EqAt.int_str a t' b t
  | _=>exact absurd (show false=true from fx) Bool.false_ne_true
 | str a=>
  obtain ⟨t',rfl⟩:=ry
  cases x with
  | non=>cases rx;exact SeqAt.EqAt.str_none a t'
  | bl b=>cases rx;exact SeqAt.EqAt.str_bool a t' b
  | int b=>obtain ⟨t,rfl⟩:=rx;exact SeqAt.EqAt.str_int a t' b t
  | str b=>obtain ⟨t,rfl⟩:=rx;exact SeqAt.EqAt.str_str a t' b t
  | _=>exact absurd (show false=true from fx) Bool.false_ne_true
 | _=>exact absurd (show false=true from fy) Bool.false_ne_true
def eqU (x:V) (u:Value):Bool:=match u with
 | .none=>eqV .non x
 | .bool b=>eqV (.bl b) x
 | .int i _=>eqV (.int i) x
 | .str z _=>eqV (.str z) x
 | _=>false
theorem eqU_of {x y:V} {u:Value} (r:RelV y u) (f:flatV y=true):eqU x u=eqV y x:=by
 cases y with
 | non=>cases r;rfl
 | bl b=>cases r;rfl
 | int i=>obtain ⟨t,rfl⟩:=r;rfl
 | str z=>obtain ⟨t,rfl⟩:=r;rfl
 | _=>exact absurd (show false=true from f) Bool.false_ne_true
theorem any_eqU {x:V}:∀ {xs:List V} {us:List Value},Vals xs us→xs.all flatV=true→us.any (eqU x)=xs.any fun y=>eqV y x
 | _,_,.nil,_=>rfl
 | y::xs,u::us,.cons r t,f=>by
  rw [List.all_cons,Bool.and_eq_true] at f
  rw [List.any_cons,List.any_cons,eqU_of r f.1,any_eqU t f.2]
theorem mem_eqAt {A:Around} {s:Shared} {x:V} {v:Value} (rx:RelV x v) (fx:flatV x=true):∀ {xs:List V} {us:List Value},Vals xs us→xs.all flatV=true→∀ u ∈ us,SeqAt.EqAt A s u v (eqU x u)
 | _,_,.nil,_=>fun u hu=>by cases hu
 | y::xs,u::us,.cons r t,f=>fun u' hu=>by
  rw [List.all_cons,Bool.and_eq_true] at f
  rcases List.mem_cons.mp hu with rfl | hu
  ·rw [eqU_of r f.1];exact eqAt_V r rx f.1 fx
  ·exact mem_eqAt rx fx t f.2 u' hu
def inV (x:V) (xs:List V):Bool:=xs.any fun y=>eqV y x
def rIn (K:PySem.W.Frag) (neg:Bool):R2:=fun x y H Q=>∃ p xs,y=.ref p∧(SqL K H p xs∨SqT K H p xs)∧flatV x=true∧xs.all flatV=true∧Q (.bl (if neg then !inV x xs else inV x xs)) H
theorem qCD:OpR X (compareOp .In) (rIn X.K false):=by
 intro pins s σ H x y v u Q I rx ry h
 obtain ⟨p,xs,rfl,hq,fx,fs,q⟩:=h
 cases ry
 rcases hq with hq | hq
 ·obtain ⟨its,r,pl,hz⟩:=I.list hq
  refine SeqAt.in_listAt (eqU x) pl.isList (fun w hw=>mem_eqAt rx fx r fs w (by simpa using hw)) ⟨.bl _,H,I,rfl,?_⟩
  rw [show its.toArray.any (eqU x)=its.any (eqU x) by simp,any_eqU r fs]
  exact q
 ·obtain ⟨its,r,pl,hz⟩:=I.tuple hq
  refine SeqAt.in_tupleAt (eqU x) pl (fun w hw=>mem_eqAt rx fx r fs w (by simpa using hw)) ⟨.bl _,H,I,rfl,?_⟩
  rw [show its.toArray.any (eqU x)=its.any (eqU x) by simp,any_eqU r fs]
  exact q
theorem qCR:OpR X (compareOp .NotIn) (rIn X.K true):=by
 intro pins s σ H x y v u Q I rx ry h
 obtain ⟨p,xs,rfl,hq,fx,fs,q⟩:=h
 cases ry
 rcases hq with hq | hq
 ·obtain ⟨its,r,pl,hz⟩:=I.list hq
  refine SeqAt.notIn_listAt (eqU x) pl.isList (fun w hw=>mem_eqAt rx fx r fs w (by simpa using hw)) ⟨.bl _,H,I,rfl,?_⟩
  rw [show its.toArray.any (eqU x)=its.any (eqU x) by simp,any_eqU r fs]
  exact q
 ·obtain ⟨its,r,pl,hz⟩:=I.tuple hq
  refine SeqAt.notIn_tupleAt (eqU x) pl (fun w hw=>mem_eqAt rx fx r fs w (by simpa using hw)) ⟨.bl _,H,I,rfl,?_⟩
  rw [show its.toArray.any (eqU x)=its.any (eqU x) by simp,any_eqU r fs]
  exact q
theorem qAA:CallR X (.builtin "len") (fun xs H Q=>∃ p ys,xs=[.ref p]∧(SqL X.K H p ys∨SqT X.K H p ys)∧Q (.int ys.length) H):=by
 intro pins s σ H xs us Q I r h
 obtain ⟨p,ys,rfl,hq,q⟩:=h
 obtain ⟨u,rfl,rx⟩:=vals1 r
 cases rx
 have hn:=line63
 rcases hq with hq | hq
 ·obtain ⟨its,r',pl,hz⟩:=I.list hq
  have hlen:=r'.length
  exact Calls.call_len_list pl.isList (by simp only [List.size_toArray] <;> omega) ⟨.int ys.length,H,I.tok _,⟨s.toks+1,by rw [List.size_toArray,hlen]⟩,q⟩
 ·obtain ⟨its,r',pl,hz⟩:=I.tuple hq
  have hlen:=r'.length
  exact len_tuple pl (by simp only [List.size_toArray] <;> omega) ⟨.int ys.length,H,I.tok _,⟨s.toks+1,by rw [List.size_toArray,hlen]⟩,q⟩
theorem call_list_of:CallR X (.type "list") (fun xs H Q=>∃ p ys,xs=[.ref p]∧(SqL X.K H p ys∨SqT X.K H p ys)∧∀ l,H l=none→Q (.ref l) (upd H l (.lst ys))):=by
 intro pins s σ H xs us Q I r h
 obtain ⟨p,ys,rfl,hq,q⟩:=h
 obtain ⟨u,rfl,rx⟩:=vals1 r
 cases rx
 have fin:∀ (its:List Value),Vals ys its→ys.length≤sizeLine→∀ (h':Heap) (c':Nat),(∀ b o',s.heap.get? b=some o'→h'.get? b=some o')→
   h'.get? s.heap.objs.size=some { cls:=.type "list",dict:=none,data:=.seq its.toArray c',slots:=#[] }→EP X pins σ Q (.ref s.heap.objs.size) { s with heap:=h' }:=fun its r' hz h' c' kp e=>
  ⟨.ref s.heap.objs.size,_,I.laid (t':=s.toks) kp (Nat.le_refl _) (show ObjOk X.prog X.w _ h' _ (.lst ys) from ⟨hz,its,c',r',e⟩),rfl,q _ (I.hok.fresh (Nat.le_refl _))⟩
 rcases hq with hq | hq
 ·obtain ⟨its,r',pl,hz⟩:=I.list hq
  have hlen:=r'.length
  obtain ⟨o,ho,hc,n,hd⟩:=pl.isList
  exact call_list_seq p (.inl rfl) ho hc hd (fun h' c' kp e=>fin its r' hz h' c' kp e) (by simp only [List.size_toArray] <;> omega)
 ·obtain ⟨its,r',pl,hz⟩:=I.tuple hq
  have hlen:=r'.length
  obtain ⟨o,ho,hc,n,hd⟩:=pl
  exact call_list_seq p (.inr rfl) ho hc hd (fun h' c' kp e=>fin its r' hz h' c' kp e) (by simp only [List.size_toArray] <;> omega)
theorem qAJ:CallR X (.type "tuple") (fun xs H Q=>∃ p ys,xs=[.ref p]∧((SqL X.K H p ys∧∀ l,H l=none→Q (.ref l) (upd H l (.tup ys)))∨(SqT X.K H p ys∧Q (.ref p) H))):=by
 intro pins s σ H xs us Q I r h
 obtain ⟨p,ys,rfl,h⟩:=h
 obtain ⟨u,rfl,rx⟩:=vals1 r
 cases rx
 rcases h with ⟨hq,q⟩ | ⟨hq,q⟩
 ·obtain ⟨its,r',pl,hz⟩:=I.list hq
  have hlen:=r'.length
  refine call_tuple_list pl.isList (fun h' kp=>?_) (by simp only [List.size_toArray] <;> omega)
  have I1:Inv X pins σ H { s with heap:=h' }:=I.kept (t':=s.toks) kp
  have I2:Inv X pins σ (upd H h'.objs.size (.tup ys)) { s with heap:=h'.push { cls:=.type "tuple",data:=.seq its.toArray } }:=
   I1.laid (t':=s.toks) (fun b o e=>Heap.get?_push_of_some _ e) (Nat.le_refl _) (show ObjOk X.prog X.w _ _ _ (.tup ys) from ⟨hz,its,r',IsTup.new _ _⟩)
  exact ⟨.ref h'.objs.size,_,I2,rfl,q _ (I1.hok.fresh (Nat.le_refl _))⟩
 ·obtain ⟨its,r',pl,hz⟩:=I.tuple hq
  exact call_tuple_same pl ⟨.ref p,H,I,rfl,q⟩
def tyV (K:PySem.W.Frag) (T:String) (x:V) (H:Hp):Prop:=match x with
 | .str _=>T = "str"
 | .int _=>T = "int"
 | .ref p=>(T = "list"∧∃ xs,SqL K H p xs)∨(T = "tuple"∧∃ o,K.lookup p=some o∧o.cls=.type "tuple"∧o.dict=none)∨
   (T = "dict"∧((∃ kvs,H p=some (.dK kvs))∨∃ kvs,H p=some (.dT kvs)))∨(T = "set"∧∃ S n,H p=some (.set S n))
 | _=>False
theorem tyV_is {pins:List (Addr × Obj)} {σ:St} {H:Hp} {s:Shared} {T:String} {x:V} {v:Value} (I:Inv X pins σ H s) (r:RelV x v) (ty:tyV X.K T x H) :
  s.TypeIs v T∧∀ a,v=.ref a→∃ ob,s.heap.get? a=some ob∧ob.dict=none:=by
 cases x with
 | str z=>
  obtain ⟨t,rfl⟩:=r
  cases (show T = "str" from ty)
  exact ⟨typeIs_str s z t,fun _ e=>nomatch e⟩
 | int i=>
  obtain ⟨t,rfl⟩:=r
  cases (show T = "int" from ty)
  exact ⟨typeIs_int s i t,fun _ e=>nomatch e⟩
 | ref p=>
  cases r
  rcases ty with ⟨rfl,xs,hq⟩ | ⟨rfl,o,hk,hc,hd⟩ | ⟨rfl,hk⟩ | ⟨rfl,S,n,hk⟩
  ·obtain ⟨its,_,pl,_⟩:=I.list hq
   refine ⟨pl.isList.typeIs,fun a e=>?_⟩
   cases e
   obtain ⟨o,n,e,c,hd,_⟩:=pl
   exact ⟨o,e,hd⟩
  ·refine ⟨⟨o,I.kIn p o hk,hc⟩,fun a e=>?_⟩
   cases e
   exact ⟨o,I.kIn _ o hk,hd⟩
  ·have z:∃ o,s.heap.get? p=some o∧o.ExactDict:=by
    rcases hk with ⟨kvs,hk⟩ | ⟨kvs,hk⟩
    ·obtain ⟨_,_,_,_,o,_,_,e,ex,_⟩:=I.hok p _ hk
     exact ⟨o,e,ex⟩
    ·obtain ⟨_,_,_,_,o,_,_,e,ex,_⟩:=I.hok p _ hk
     exact ⟨o,e,ex⟩
   obtain ⟨o,e,ex⟩:=z
   refine ⟨⟨o,e,ex.1⟩,fun a e2=>?_⟩
   cases e2
   exact ⟨o,e,ex.2.1⟩
  ·obtain ⟨o,_,_,_,e,ex,_⟩:=I.hok p _ hk
   refine ⟨⟨o,e,ex.1⟩,fun a e2=>?_⟩
   cases e2
   exact ⟨o,e,ex.2.1⟩
 | _=>exact False.elim ty
def tBM (K:PySem.W.Frag) (T:String) (r:V→List V→Hp→VK→Prop) (to:TE) (t:TA):TE:=fun σ H Q=>to σ H fun x H1=>tyV K T x H1∧t σ H1 fun xs H2=>r x xs H2 Q
variable {o e:Expr} {es:List Expr} {to:TE} {t:TA} {name:Str} {apos cpos:Pos} {T id:String} {r:V→List V→Hp→VK→Prop}
theorem pe_bm (pa:PlainAttrs T) (slot:Slot T name id) (hty:typeOf (.builtin id)=pure (.type "method_descriptor")) (hm:MtR X id r) (ho:PE X o to) (ha:PA X (e::es) t)
  (hbase:attributeBase o name X.env (eval o X.env)=eval o X.env:=by rfl)
  (hfew:((backTo cpos (starEach (e::es) X.env)).all (fun x=>!x.1) && (backToKw cpos (keywordEach [] X.env)).all (fun x=>x.1.isSome)
   && decide ((e::es).length+([]:List Keyword).length+(if ([]:List Keyword).isEmpty then 0 else 1)<30))=true:=by rfl)
  (hline:(apos.endLine == cpos.line)=true:=by rfl) (hs:starEach (e::es) X.env=(false,eval e X.env)::starEach es X.env:=by rfl) (hplain:(backTo cpos (starEach es X.env)).any (·.1)=false:=by rfl) :
  PE X (.Call (.Attribute o name apos) (e::es) [] cpos) (tBM X.K T r to t):=by
 intro pins s σ H Q I h
 refine wpAny_Call_method_late hbase hfew hline rfl (thn (ho pins s σ H _ I h) fun v s1 ⟨x,H1,I1,r1,ty,q1⟩=>?_)
 obtain ⟨h1,h2⟩:=tyV_is I1 r1 ty
 refine ⟨T,id,pa,slot,hty,h1,h2,?_⟩
 have hA:=ha cpos pins s1 σ H1 _ I1 q1
 rw [hs] at hA ⊢
 refine Calls.callWith_builtin (by show (false || (backTo cpos (starEach es X.env)).any (·.1))=false;rw [hplain] <;> rfl) (Calls.evalArgs_plain ?_)
 exact thn hA fun us s2 ⟨vs,H2,I2,r2,q2⟩=>hm pins s2 σ H2 x vs v us Q I2 r1 r2 q2
end
end L2
namespace L2
open PySem PySem.Spec PyProof.Rows
def MtM (X:Cx) (id:String) (r:V→List V→Hp→VK→Prop):Prop:=
 ∀ (pins:List (Addr × Obj)) (s:Shared) (σ:St) (H:Hp) (x:V) (xs:List V) (v:Value) (us:List Value) (Q:VK),Inv X pins σ H s→RelV x v→Vals xs us→r x xs H Q→
  wpAny (model X.prog X.w) X.A (call (.builtin id) (v::us)) (EP X pins σ Q) X.xe s
theorem Vals.one:∀ {x:V} {us:List Value},Vals [x] us→∃ u,us=[u]∧RelV x u
 | _,_,.cons r .nil=>⟨_,rfl,r⟩
theorem Vals.rep {xs:List V} {us:List Value} (h:Vals xs us):∀ k:Nat,Vals (List.replicate k xs).flatten (List.replicate k us).flatten
 | 0=>.nil
 | k+1=>by
  rw [List.replicate_succ,List.replicate_succ,List.flatten_cons,List.flatten_cons]
  exact Vals.append h (Vals.rep h k)
theorem foldl_rep (its:List Value):∀ (k:Nat) (acc:List Value),
  List.foldl (fun x1 x2=>x1++x2) acc.toArray (List.replicate k its.toArray)=(acc++(List.replicate k its).flatten).toArray
 | 0,acc=>by simp
 | k+1,acc=>by
  have e:acc.toArray++its.toArray=(acc++its).toArray:=by simp
  have e2:(acc++its)++(List.replicate k its).flatten=acc++(List.replicate (k+1) its).flatten:=by
   rw [List.replicate_succ,List.flatten_cons,List.append_assoc]
  rw [← e2,← foldl_rep its k (acc++its),← e,List.replicate_succ,List.foldl_cons]
section
variable {X:Cx} {pins:List (Addr × Obj)} {σ:St} {H:Hp} {s:Shared} {l b:Addr} {xs ys zs:List V}
theorem Inv.lset {its its':List Value} {n:Nat} {f:Array Value→Array Value} {t':Nat} (I:Inv X pins σ H s) (hH:H l=some (.lst xs))
  (e:s.heap.get? l=some { cls:=.type "list",data:=.seq its.toArray n }) (hf:f its.toArray=its'.toArray) (hv:Vals ys its') (hz:ys.length≤sizeLine) :
  Inv X pins σ (upd H l (.lst ys)) { s with heap:=s.heap.update l (Obj.mapSeq f),toks:=t' }:=by
 have q:=PySem.IsL.update e f
 rw [hf] at q
 refine I.write (x:=l) (e:=l) (by rw [hH];exact trivial) (.inl rfl) (fun b' u hb hu=>(Heap.get?_update_other s.heap (Obj.mapSeq f) (Ne.symm hb)).trans hu) ⟨_,q⟩ ?_
 exact ⟨hz,its',_,hv,q⟩
theorem Inv.lnew {its:List Value} {t':Nat} (I:Inv X pins σ H s) (hv:Vals ys its) (hz:ys.length≤sizeLine) :
  Inv X pins σ (upd H s.heap.objs.size (.lst ys)) { s with heap:=s.heap.push { cls:=.type "list",data:=.seq its.toArray },toks:=t' }:=
 I.laid (fun _ _ q=>Heap.get?_push_of_some _ q) (Nat.le_refl _) ⟨hz,its,0,hv,Heap.get?_push_size _ rfl⟩
theorem Inv.fresh (I:Inv X pins σ H s):H s.heap.objs.size=none:=I.hok.fresh (Nat.le_refl _)
theorem Inv.lstM (I:Inv X pins σ H s) (hH:H l=some (.lst xs)):xs.length≤sizeLine∧∃ (its:List Value) (n:Nat),Vals xs its∧xs.length=its.length∧s.heap.get? l=some { cls:=.type "list",data:=.seq its.toArray n }:=by
 obtain ⟨z,its,n,r,e⟩:=I.hok l _ hH
 exact ⟨z,its,n,r,r.length,e⟩
theorem notLongL {n:Nat} (h:n≤sizeLine):Builtin.List.listTooLong n=false:=by
 unfold Builtin.List.listTooLong
 exact decide_eq_false (by omega)
end
section
variable {X:Cx}
def rAppend:V→List V→Hp→VK→Prop:=fun x vs H Q=>∃ l xs y,x=.ref l∧vs=[y]∧H l=some (.lst xs)∧xs.length<sizeLine∧Q .non (upd H l (.lst (xs++[y])))
theorem qAZ:MtM X "list.append" rAppend:=by
 intro pins s σ H x vs v us Q I rx rv h
 obtain ⟨l,xs,y,rfl,rfl,hH,hz,q⟩:=h
 cases rx
 obtain ⟨u,rfl,ru⟩:=rv.one
 obtain ⟨z,its,n,r,hl,e⟩:=I.lstM hH
 refine call_meets F.slot_list_append ⟨_,e,rfl⟩ F.entry_list_append (F.args_list_append_2 _ _) (PySem.list_append l its.toArray n u (by rw [List.size_toArray];omega)) ⟨e,?_⟩
 refine ⟨.non,_,I.lset (its':=its++[u]) hH e (by simp) (r.append (.cons ru .nil)) ?_,rfl,q⟩
 rw [List.length_append,List.length_singleton]
 omega
def rCat:R2:=fun x y H Q=>∃ l b xs zs,x=.ref l∧y=.ref b∧H l=some (.lst xs)∧H b=some (.lst zs)∧xs.length+zs.length≤sizeLine∧∀ p,H p=none→Q (.ref p) (upd H p (.lst (xs++zs)))
theorem op_cat:OpR X (binaryOp .Add) rCat:=by
 intro pins s σ H x y v u Q I rx ry h
 obtain ⟨l,b,xs,zs,rfl,rfl,hH,hB,hz,q⟩:=h
 cases rx
 cases ry
 obtain ⟨z,its,n,r,hl,e⟩:=I.lstM hH
 obtain ⟨z2,its2,n2,r2,hl2,e2⟩:=I.lstM hB
 refine PySem.P.add_list e e2 ?_ (by rw [List.size_toArray,List.size_toArray];omega)
 have ea:its.toArray++its2.toArray=(its++its2).toArray:=by simp
 rw [ea]
 exact ⟨.ref _,_,I.lnew (t':=s.toks) (r.append r2) (by rw [List.length_append];omega),rfl,q _ I.fresh⟩
def rRep:R2:=fun x y H Q=>∃ l k xs,x=.ref l∧y=.int k∧H l=some (.lst xs)∧-(2 ^ 63)≤k∧k<2 ^ 63∧xs.length * k.toNat≤sizeLine∧
 ∀ p,H p=none→Q (.ref p) (upd H p (.lst (List.replicate k.toNat xs).flatten))
theorem len_rep {α:Type} (xs:List α) (k:Nat):(List.replicate k xs).flatten.length=k * xs.length:=by
 induction k with
 | zero=>simp
 | succ k ih=>rw [List.replicate_succ,List.flatten_cons,List.length_append,ih,Nat.succ_mul,Nat.add_comm]
theorem op_rep:OpR X (binaryOp .Mult) rRep:=by
 intro pins s σ H x y v u Q I rx ry h
 obtain ⟨l,k,xs,rfl,rfl,hH,h1,h2,hz,q⟩:=h
 cases rx
 obtain ⟨t,rfl⟩:=ry
 obtain ⟨z,its,n,r,hl,e⟩:=I.lstM hH
 have hlen:its.toArray.size * k.toNat≤sizeLine:=by rw [List.size_toArray,← hl];exact hz
 have hcap:¬ its.toArray.size * k.toNat > (2 ^ 63 - 1) / 8:=by
  have:(sizeLine:Nat)≤(2 ^ 63 - 1) / 8:=by decide
  omega
 have hfit:¬ (!Builtin.List.listFitsIndex k)=true:=by
  rw [fitsIndex_both h1 h2]
  exact Bool.false_ne_true
 have hlong:¬ Builtin.List.listTooLong (its.toArray.size * k.toNat)=true:=by
  rw [notLongL hlen]
  exact Bool.false_ne_true
 have hnew:List.foldl (fun x1 x2=>x1++x2) #[] (List.replicate (if its.toArray.isEmpty=true then 0 else k.toNat) its.toArray)=(List.replicate k.toNat its).flatten.toArray:=by
  have f0:∀ m:Nat,List.foldl (fun x1 x2=>x1++x2) #[] (List.replicate m its.toArray)=(List.replicate m its).flatten.toArray:=fun m=>by
   have:=foldl_rep its m []
   rw [List.nil_append] at this
   exact this
  rw [f0]
  cases its with
  | nil=>simp
  | cons a r'=>rw [if_neg (by simp)]
 refine wpAny_binaryOp_repeat_ref (T:="list") (U:="int") (by decide) ⟨_,e,rfl⟩ (fun s'=>typeIs_int s' k t) noFill_list_mul F.fills_int_mul F.slot_int_rmul repeat_list F.slot_int_index.lookup
  (call_meets F.slot_int_rmul (typeIs_int s k t) F.entry_int_rmul (F.args_int_rmul_2 _ _) (int___rmul___int_list k t l its.toArray n)
   ⟨e,rfl,⟨_,e,rfl⟩,call_meets F.slot_list_mul ⟨_,e,rfl⟩ F.entry_list_mul (F.args_list_mul_2 _ _) (AutoListH.list___mul___list_int_3 l its.toArray n k t hfit hcap hlong) ⟨e,?_⟩⟩)
 rw [hnew]
 exact ⟨.ref _,_,I.lnew (t':=s.toks) (r.rep k.toNat) (by rw [len_rep,Nat.mul_comm];exact hz),rfl,q _ I.fresh⟩
end
section
variable {prog:Program} {w:World} {A:Around} {E:Value→Shared→Prop} {s:Shared}
set_option maxRecDepth 100000 in
end
section
variable {X:Cx}
end
end L2
namespace Att
open PySem PySem.W PySem.Calls PyProof.Rows
theorem ints_of_wellAll {P:Params} {h:Heap}:∀ (ns:List Int) (vs:List Value),WellAll P h vs (ns.map WData.int)→IntsAre vs ns:=by
 intro ns
 induction ns with
 | nil=>
  intro vs w
  rw [List.map_nil] at w
  cases w
  exact .nil
 | cons n ns ih=>
  intro vs w
  rw [List.map_cons] at w
  cases w with
  | cons a b=>
   cases a
   exact .cons _ _ (ih _ b)
theorem script_of {l:OpenLaw} {n:Nat} (hn:l.most=some n) {P:Params} {h:Heap} {args:List WData} {vals:List Value}
  (hpre:l.row.toRowW.claim.pre args=true) (hwl:WellAll P h vals args) :
  ∃ a vs ns,vals=[Value.ref a]∧args=[WData.list (ns.map WData.int)]∧h.get? a=some { cls:=.type "list",data:=.seq vs.toArray }∧IntsAre vs ns∧ns.length≤n:=by
 have hsh:WShape.hasAll [] args [.list .int]=true:=(pre_splitW hpre).1
 have hc:l.pre.holds [] { args:=args }=true:=(pre_splitW hpre).2
 obtain ⟨d,r,rfl,h1,h2⟩:=hasAllW_cons hsh
 obtain rfl:=hasAllW_nil h2
 obtain ⟨xs,rfl,h3⟩:=hasW_list h1
 obtain ⟨ns,rfl⟩:=items_int h3
 have hlen:ns.length≤n:=by
  unfold OpenLaw.pre at hc
  have h4:(WTm.not (.lt (.lit (.int (n:Int))) (.len (.arg 0)))).holds [] { args:=[.list (ns.map .int)] }=true:=by
   have h4:=(holds_andW hc).1
   rw [hn] at h4
   exact h4
  have h5:=condW_of h4 (w_not (w_lt w_lit (w_len_list (w_arg rfl))))
  rw [List.length_map] at h5
  refine Nat.le_of_not_lt fun q=>?_
  have q':(n:Int)<((ns.length:Nat):Int):=by omega
  first
   | (rw [decide_eq_true q'] at h5;exact absurd h5 (by decide))
   | (simp at h5;omega)
 cases hwl with
 | cons w1 w2=>
  cases w2
  cases w1 with
  | list ho hall=>exact ⟨_,_,ns,rfl,rfl,ho,ints_of_wellAll ns _ hall,hlen⟩
theorem post_true (l:OpenLaw) (args:List WData):l.row.toRowW.claim.post args (.bool true) args=true:=
 postW_of (r:=l.row.toRowW) (X:=(true == true))
  (show WShape.has [] (.bool true) .bool=true by first | rfl | decide | simp [WShape.has,WShape.arms,WShape.armsAll])
  (show (WTm.eq .res (.lit (.bool true))).value [] { args:=args,res:=some (.bool true),after:=args }=some (.bool (true == true)) from w_eq_bool (w_res rfl) w_lit) rfl
theorem attach_call {l:OpenLaw} {n:Nat} {q:Program} {loose:List Str} {XP:(Str→Option Value)→Heap→Prop} {YP:World→Heap→Prop} {d:DefRec}
  (hn:l.most=some n) (hdf:d.params.defaults=[])
  (call:∀ (w:World) (s₀ s₁:Shared) (mg mb:Str→Option Value) (fa:Addr) (o:Obj) (pm cd doc:Value) (a:Addr) (vs:List Value) (ns:List Int),
   Ground q loose [] XP w s₀ mg mb s₁.heap→YP w s₁.heap→
   s₁.heap.get? fa=some o→o.data=.func (docDef d.name d.params d.body d.scope pm cd doc)→s₁.heap.CodeRec cd d.name→mg d.name=some (.ref fa)→
   s₁.heap.get? a=some { cls:=.type "list",data:=.seq vs.toArray }→IntsAre vs ns→ns.length≤n→s₁.gens=#[]→
   codeAny (model l.prog w) callerA (.call (.ref fa) ⟨[.ref a],[]⟩) (fun r s'=>r=.ok (.ret (.bool true))∧OldK s₁.heap s'.heap∧s'.os=s₁.os∧AllBare s'.gens) s₁) :
  WalkO q loose XP YP l.row.toRowW d [] (fun f vs=>PySem.call f vs):=by
 intro w s₀ s₁ mg mb G Y fa o pm cd doc dV kV ho hd hcd hD hmg hg args vals as hpre hlay hrd hwl hlo
 obtain rfl:dV=.none:=Dflts.none hD hdf
 obtain rfl:kV=.none:=Dflts.noKw hD
 obtain ⟨a,vs,ns,rfl,rfl,hobj,hints,hlen⟩:=script_of hn hpre hwl
 refine enter_call (codeAny_mono (call w s₀ s₁ mg mb fa o pm cd doc a vs ns G Y ho (fd_plain hd) hcd hmg hobj hints hlen hg) fun r s' hq=>?_)
 obtain ⟨rfl,h2,h3,h4⟩:=hq
 exact ⟨.inl ⟨.bool true,.bool true,[],rfl,fun _=>rfl,.bool true,post_true l _,fun _=>⟨List.Pairwise.nil,fun _ hm=>(nomatch hm)⟩⟩,h2,h3,h4⟩
section
variable {prog:Program} {w:World} {A:Around} {E:Value→Shared→Prop} {s:Shared} {K:Frag}
end
end Att
namespace L2
open PySem PySem.Spec PyProof.Rows
theorem vals_ints:∀ {vs:List Value} {ns:List Int},IntsAre vs ns→Vals (ns.map V.int) vs
 | _,_,.nil=>.nil
 | _,_,.cons n t h=>.cons ⟨t,rfl⟩ (vals_ints h)
def Only (H:Hp):Prop:=∀ b,H b=none∨∃ o xs,H b=some (.frz o (.lst xs))
theorem law_call {P:Program} {w:World} {K:PySem.W.Frag} {mg mb:Str→Option Value} {CX:CXT} {k:Nat} {fa a:Addr} {fd:FuncData} {x:Str} {sp:Sp} {s₁:Shared} {vs:List Value} {ns:List Int}
  (KX:K.In s₁.heap) (hns:s₁.heap.Ns mainGlobals mg) (hb:s₁.heap.Ns builtinsNs mb) (hbb:∀ x:Str,x ≠ "__name__"→mb x=bootBuiltins x) (hlim:s₁.heap.NoLimit) (hg:s₁.gens=#[])
  (ha:s₁.heap.get? a=some { cls:=.type "list",data:=.seq vs.toArray }) (hi:IntsAre vs ns) (hl:ns.length≤sizeLine) (hr:Room k callerA)
  (F:∀ base:Heap,K.In base→base.Ns mainGlobals mg→FnOk P w K mg base CX k fa fd [x] sp) (hbind:∀ (s:Shared) (u:Value),BindsTo s fd ⟨[u],[]⟩ [(x,u)])
  (hsp:∀ H:Hp,Only H→SqL K H a (ns.map V.int)→sp [.ref a] H (fun v _=>v=.bl true) fun _ _ _=>False)
  (hCX:∀ H e s',CX [] H s₁ (fun _ _ _=>False) e s'→False) :
  codeAny (model P w) callerA (.call (.ref fa) ⟨[.ref a],[]⟩) (fun r s'=>r=.ok (.ret (.bool true))∧OldK s₁.heap s'.heap∧s'.os=s₁.os∧AllBare s'.gens) s₁:=by
 have rv:=vals_ints hi
 have lenV:=hi.length
 -- from an abstract heap in which nothing but the script may be tracked
 have core:∀ H:Hp,Only H→SqL K H a (ns.map V.int)→HOk P w H s₁.heap→(∀ b,H b ≠ none→b=a)→(H a ≠ none→K.lookup a=none)→
   codeAny (model P w) callerA (.call (.ref fa) ⟨[.ref a],[]⟩) (fun r s'=>r=.ok (.ret (.bool true))∧OldK s₁.heap s'.heap∧s'.os=s₁.os∧AllBare s'.gens) s₁:=by
  intro H hO hS hok hA hK
  have base_of:∀ {b:Addr} {o:Obj},s₁.heap.get? b=some o→H b=none→(hidT s₁.heap H).get? b=some o:=fun e n=>hidT_get e n
  have noA:∀ {b:Addr} {o:Obj} {es:Array DictEntry} {ep:Nat},s₁.heap.get? b=some o→o.data=.dict es ep→H b=none:=fun {b o es ep} e d=>by
   cases q:H b with
   | none=>rfl
   | some u=>
    have e':b=a:=hA b (by rw [q];simp)
    subst e'
    rw [ha] at e;cases e
    have d':Data.seq vs.toArray _=Data.dict es ep:=d
    cases d'
  have nsK:∀ {b:Addr} {m:Str→Option Value},s₁.heap.Ns b m→(hidT s₁.heap H).Ns b m:=fun {b m} ⟨o,es,ep,e,d,r⟩=>⟨o,es,ep,base_of e (noA e d),d,r⟩
  have hKb:K.In (hidT s₁.heap H):=fun b o e=>base_of (KX b o e) (by
   cases q:H b with
   | none=>rfl
   | some u=>
    have e':b=a:=hA b (by rw [q];simp)
    subst e'
    rw [hK (by rw [q];simp)] at e;cases e)
  have hM:Mod K mg (hidT s₁.heap H):=⟨hKb,nsK hns,⟨mb,nsK hb,hbb⟩,let ⟨mc,h1,h2⟩:=hlim;⟨mc,nsK h1,h2⟩⟩
  have e0:Env0 P w K mg (hidT s₁.heap H) callerA [] s₁ H:=⟨rfl,hM,fun b o e=>of_hidT e,Nat.le_of_eq (hidT_size _ _),trivial,fun b hb=>absurd (show b ∈ ([]:List Addr) from hb) (by simp),hok,.of_eq hg⟩
  refine codeAny_mono ((F _ hKb (nsK hns)).run callerA [] s₁ H ⟨[.ref a],[]⟩ [.ref a] [.ref a] _ _ hr e0 (hbind s₁ (.ref a)) (.cons rfl .nil) (hsp H hO hS)) fun r s' h=>?_
  cases r with
  | error e=>exact (hCX H e s' h).elim
  | ok fl=>
   cases fl with
   | next=>exact False.elim h
   | brk=>exact False.elim h
   | cont=>exact False.elim h
   | ret u=>
    obtain ⟨v,H',os,bare,un,hok',r',q⟩:=h
    have q':v=.bl true:=q
    subst q'
    obtain rfl:u=Value.bool true:=r'
    refine ⟨rfl,OldK.of_keep fun b o e=>?_,os,bare⟩
    cases q:H b with
    | none=>exact un.keep b o e q (by intro z;exact absurd (show b ∈ ([]:List Addr) from z) (by simp)) (by simp)
    | some u=>
     rcases hO b with z | ⟨ob,xs,z⟩
     ·rw [q] at z;cases z
     ·have z2:=un.frzs b ob _ z
      obtain ⟨e1,_⟩:=hok b _ z
      obtain ⟨e2,_⟩:=hok' b _ z2
      rw [e] at e1;cases e1
      exact e2
 cases hk:K.lookup a with
 | some o=>
  -- the script is one of the module's own objects
  have e:=KX a o hk
  rw [ha] at e
  cases e
  refine core (fun _=>none) (fun _=>.inl rfl) (.inr ⟨_,vs.toArray,_,hk,rfl,rfl,rfl,by rw [List.size_toArray,lenV];exact hl,by simpa using rv⟩) (fun b u z=>by have z':(none:Option HO)=some u:=z;cases z') (fun b z=>absurd rfl z) fun z=>absurd rfl z
 | none=>
  refine core (fun b=>if b=a then some (.frz { cls:=.type "list",data:=.seq vs.toArray } (.lst (ns.map V.int))) else none) (fun b=>?_) (.inl (.inr ⟨{ cls:=.type "list",data:=.seq vs.toArray },if_pos rfl⟩)) (fun b u z=>?_) (fun b z=>?_) fun _=>hk
  ·by_cases hb:b=a
   ·exact .inr ⟨_,_,if_pos hb⟩
   ·exact .inl (if_neg hb)
  ·by_cases hb:b=a
   ·have z':=(if_pos hb).symm.trans z
    cases z'
    subst hb
    exact ⟨ha,by rw [List.length_map];exact hl,vs,_,rv,ha⟩
   ·have z':=(if_neg hb).symm.trans z
    cases z'
  ·by_cases hb:b=a
   ·exact hb
   ·exact absurd (if_neg hb) z
end L2
namespace L2
open PySem PySem.Spec PyProof.Rows
theorem walk_of {l:PySem.W.OpenLaw} {n k:Nat} {q:Program} {loose:List Str} {XP:(Str→Option Value)→Heap→Prop} {YP:World→Heap→Prop} {d:DefRec} {K:Params→PySem.W.Frag} {CX:World→CXT} {sp:World→Sp} {x:Str}
  (hn:l.most=some n) (hn2:n≤sizeLine) (hdf:d.params.defaults=[]) (hr:Room k callerA)
  (hY:∀ (w:World) (h:Heap),YP w h→(K w.params).In h)
  (F:∀ (w:World) (mg:Str→Option Value) (fa:Addr) (h:Heap),(K w.params).In h→h.Ns mainGlobals mg→mg d.name=some (.ref fa)→
   ∃ fd:FuncData,(∀ (s:Shared) (u:Value),BindsTo s fd ⟨[u],[]⟩ [(x,u)])∧
    ∀ base:Heap,(K w.params).In base→base.Ns mainGlobals mg→FnOk l.prog w (K w.params) mg base (CX w) k fa fd [x] (sp w))
  (hsp:∀ (w:World) (H:Hp) (a:Addr) (ns:List Int),ns.length≤n→Only H→SqL (K w.params) H a (ns.map V.int)→sp w [.ref a] H (fun v _=>v=.bl true) fun _ _ _=>False)
  (hCX:∀ (w:World) (H:Hp) (s:Shared) (e:Value) (s':Shared),CX w [] H s (fun _ _ _=>False) e s'→False) :
  PySem.W.WalkO q loose XP YP l.row.toRowW d [] (fun f vs=>PySem.call f vs):=by
 refine Att.attach_call hn hdf fun w s₀ s₁ mg mb fa o pm cd doc a vs ns G Y ho hd hcd hmg hobj hints hlen hg=>?_
 have KX:=hY w _ Y
 obtain ⟨fd,hb,hF⟩:=F w mg fa _ KX G.T.g hmg
 exact law_call KX G.T.g G.T.b G.T.builtins G.T.nolimit hg hobj hints (Nat.le_trans hlen hn2) hr hF hb (fun H hO hS=>hsp w H a ns hlen hO hS) fun H e s'=>hCX w H s₁ e s'
end L2
namespace L2
open PySem PySem.Spec PyProof.Rows
def defArgs (s:Stmt):Arguments:=match s with
 | .FunctionDef _ a _ _ _ _ _ _ _ _=>a
 | _=>{ posonlyargs:=[],args:=[],vararg:=none,kwonlyargs:=[],kw_defaults:=[],kwarg:=none,defaults:=[] }
def defBody (s:Stmt):List Stmt:=match s with
 | .FunctionDef _ _ b _ _ _ _ _ _ _=>b
 | _=>[]
def defScope (s:Stmt):Scope:=match s with
 | .FunctionDef _ _ _ _ _ _ sc _ _ _=>sc
 | _=>{ kind:=.function,names:=[],isGenerator:=false,isCoroutine:=false }
abbrev CX0:CXT:=fun _ _ _ _ _ _=>False
abbrev E0:XK:=fun _ _ _=>False
theorem pass0 {X:Cx}:Passes CX0 X E0:=fun _ _ _ _ _ _ _ h=>h.elim
structure Fun (K:PySem.W.Frag) (x qual:Str) (st:Stmt) (f:Addr) (fd:FuncData):Prop where
 ex:∃ (oc:Value) (od:Option Addr) (kV doc pm:Value) (an:Option Addr) (cdv ct:Value) (osl:Array (Option Value)),
  fd=PySem.W.fnOf x qual (defArgs st) (defBody st) (defScope st) .none kV doc pm an cdv ct∧K.lookup f=some ⟨oc,od,.func fd,osl⟩∧PySem.W.codeIn K cdv qual=true
 kp:PySem.W.keepIn K (.ref f)=true
section
variable {P:Program} {w:World} {K:PySem.W.Frag} {mg:Str→Option Value} {base:Heap}
theorem Fun.ok {x qual:Str} {st:Stmt} {f:Addr} {fd:FuncData} {N ps:List Str} {k:Nat} {sp:Sp} (F:Fun K x qual st f fd) (S:FnScope N ps (defScope st)) (len:∀ vs H Q E,sp vs H Q E→vs.length=ps.length)
  (hbody:∀ (cdv:Value) (A:Around) (outer:List Env) (s:Shared) (H:Hp) (vs:List V) (Q:VK) (E:XK),Room k (A.deeper (envOfC qual (defScope st) s.heap.objs.size f cdv))→sp vs H Q E→
   ∃ t,PSs (cxOf CX0 P w K mg base N qual (defScope st) f cdv A outer s H E).nox (defBody st) t∧t { nx:=fun _ H'=>Q .non H',rt:=Q } (start N vs) H):FnOk P w K mg base CX0 (k+1) f fd ps sp:=by
 obtain ⟨oc,od,kV,doc,pm,an,cdv,ct,osl,rfl,lk,hcd⟩:=F.ex
 refine fn_of lk hcd S len fun A outer s H vs Q E hr hsp=>?_
 obtain ⟨t,h,q⟩:=hbody cdv A outer s H vs Q E hr hsp
 exact ⟨t,h.nox,q⟩
theorem Fun.binds {x qual:Str} {st:Stmt} {f:Addr} {fd:FuncData} {ps:List Str} (F:Fun K x qual st f fd)
  (h:∀ (kV doc pm:Value) (an:Option Addr) (cdv ct:Value) (us:List Value),us.length=ps.length→bindArgs (PySem.W.fnOf x qual (defArgs st) (defBody st) (defScope st) .none kV doc pm an cdv ct) ⟨us,[]⟩=pure (ps.zip us)):Binds K fd ps []:=by
 obtain ⟨oc,od,kV,doc,pm,an,cdv,ct,osl,rfl,lk,hcd⟩:=F.ex
 exact .all (h kV doc pm an cdv ct)
theorem fun_mk {x qual:Str} {st:Stmt} {f:Addr} {oc:Value} {od an:Option Addr} {osl:Array (Option Value)} {kV doc pm cdv ct:Value} (l:K.lookup f=some ⟨oc,od,.func (PySem.W.fnOf x qual (defArgs st) (defBody st) (defScope st) .none kV doc pm an cdv ct),osl⟩)
  (c:PySem.W.codeIn K cdv qual=true) (k:PySem.W.keepIn K (.ref f)=true):Fun K x qual st f (PySem.W.fnOf x qual (defArgs st) (defBody st) (defScope st) .none kV doc pm an cdv ct):=⟨⟨oc,od,kV,doc,pm,an,cdv,ct,osl,rfl,l,c⟩,k⟩
end
theorem hu_of {A:Around} {k:Nat} (hr:Room k A):A.units+1<cLine:=Nat.lt_of_le_of_lt (Nat.add_le_add_left (by decide:1≤64) _) hr.units
theorem small1000 {n:Nat} (h:n≤1000):n<sizeLine:=Nat.lt_of_le_of_lt h (by decide)
section
variable {X:Cx}
theorem pv (i:Nat) {x:Str} {pos:Pos} (hN:X.N[i]?=some x:=by rfl) (hv:Vis X.env.scope x:=by first | exact Or.inl rfl | exact Or.inr (Or.inl rfl) | exact Or.inr (Or.inr rfl)) (hd:(x == ("__debug__" : Str))=false:=by decide)
  (hcd:(x == ("__classdict__" : Str))=false:=by decide):PE X (.Name x pos) (tVar i):=pe_var hN hv hd hcd
end
theorem iteF {A B:Prop} (h:B):if false=true then A else B:=by
 rw [if_neg Bool.false_ne_true]
 exact h
theorem iteT {A B:Prop} (h:A):if true=true then A else B:=by
 rw [if_pos rfl]
 exact h
theorem ite2 {c A B:Prop} [Decidable c] (h1:c→A) (h2:¬ c→B):if c then A else B:=by
 by_cases h:c
 ·rw [if_pos h]
  exact h1 h
 ·rw [if_neg h]
  exact h2 h
def Same (H H':Hp):Prop:=∀ b o,H b=some o→H' b=some o
theorem Same.refl (H:Hp):Same H H:=fun _ _ h=>h
theorem Same.trans {H H1 H2:Hp} (a:Same H H1) (b:Same H1 H2):Same H H2:=fun c o h=>b c o (a c o h)
theorem Same.free {H H':Hp} (e:Same H H') {l:Addr} (h:H' l=Option.none):H l=Option.none:=by
 cases q:H l with
 | none=>rfl
 | some o=>
  rw [e l o q] at h
  cases h
end L2
namespace L2
open PySem PySem.Spec PyProof.Rows
section
variable {κ:Type} [DecidableEq κ]
def valV (kvs:List (κ × V)) (k:κ):Option V:=(kvs.find? fun kv=>decide (kv.1=k)).map (·.2)
def putK (kvs:List (κ × V)) (k:κ) (v:V):List (κ × V):=
 if (kvs.any fun kv=>decide (kv.1=k))=true then kvs.map (fun kv=>if kv.1=k then (kv.1,v) else kv) else kvs++[(k,v)]
theorem qB3 {p:κ × V} {r:List (κ × V)} {k:κ} (e:p.1=k):valV (p::r) k=some p.2:=by simp [valV,List.find?_cons,e]
theorem qB4 {p:κ × V} {r:List (κ × V)} {k:κ} (e:¬ p.1=k):valV (p::r) k=valV r k:=by simp [valV,List.find?_cons,e]
theorem valV_any (k:κ):∀ kvs:List (κ × V),(kvs.any fun kv=>decide (kv.1=k))=(valV kvs k).isSome
 | []=>rfl
 | p::r=>by
  rw [List.any_cons]
  by_cases e:p.1=k
  ·simp only [qB3 e,decide_eq_true e,Bool.true_or,Option.isSome_some]
  ·rw [qB4 e,decide_eq_false e,Bool.false_or];exact valV_any k r
theorem valV_map (k j:κ) (y:V):∀ kvs:List (κ × V),valV (kvs.map fun kv=>if kv.1=k then (kv.1,y) else kv) j=(valV kvs j).map fun x=>if j=k then y else x
 | []=>rfl
 | p::r=>by
  have ih:=valV_map k j y r
  rw [List.map_cons]
  by_cases h:p.1=k
  ·rw [if_pos h]
   by_cases e:p.1=j
   ·rw [qB3 (p:=(p.1,y)) e,qB3 e,Option.map_some,if_pos (e.symm.trans h)]
   ·rw [qB4 (p:=(p.1,y)) e,qB4 e,ih]
  ·rw [if_neg h]
   by_cases e:p.1=j
   ·rw [qB3 (p:=p) e,qB3 e,Option.map_some,if_neg (fun z=>h (e.trans z))]
   ·rw [qB4 (p:=p) e,qB4 e,ih]
theorem valV_snoc (k j:κ) (y:V):∀ kvs:List (κ × V),valV kvs k=none→valV (kvs++[(k,y)]) j=if j=k then some y else valV kvs j
 | [],_=>by
  by_cases e:k=j
  ·rw [if_pos e.symm];exact qB3 (p:=(k,y)) e
  ·rw [if_neg (fun z=>e z.symm)];exact qB4 (p:=(k,y)) e
 | p::r,hn=>by
  rw [List.cons_append]
  have hk:¬ p.1=k:=fun z=>by rw [qB3 z] at hn;cases hn
  rw [qB4 hk] at hn
  have ih:=valV_snoc k j y r hn
  by_cases e:p.1=j
  ·rw [qB3 e,qB3 e,if_neg (fun z=>hk (e.trans z))]
  ·rw [qB4 e,qB4 e,ih]
theorem qCU (kvs:List (κ × V)) (k j:κ) (y:V):valV (putK kvs k y) j=if j=k then some y else valV kvs j:=by
 unfold putK
 by_cases a:(kvs.any fun kv=>decide (kv.1=k))=true
 ·rw [if_pos a,valV_map]
  rw [valV_any] at a
  by_cases e:j=k
  ·obtain ⟨x,hx⟩:=Option.isSome_iff_exists.mp a
   rw [if_pos e,e,hx,Option.map_some,if_pos rfl]
  ·rw [if_neg e]
   cases valV kvs j with
   | none=>rfl
   | some x=>rw [Option.map_some,if_neg e]
 ·rw [if_neg a]
  refine valV_snoc k j y kvs ?_
  rw [valV_any] at a
  cases q:valV kvs k with
  | none=>rfl
  | some x=>rw [q] at a;exact (a rfl).elim
theorem qB2 (kvs:List (κ × V)) (k:κ) (v:V):(putK kvs k v).length≤kvs.length+1:=by
 unfold putK
 split
 ·rw [List.length_map];omega
 ·rw [List.length_append,List.length_cons,List.length_nil];omega
theorem putK_new {kvs:List (κ × V)} {k:κ} (v:V) (h:valV kvs k=none):putK kvs k v=kvs++[(k,v)]:=by
 unfold putK
 rw [valV_any,h]
 exact if_neg (by decide)
theorem RelO.isSome_eq {o:Option V} {u:Option Value} (r:RelO o u):o.isSome=u.isSome:=by
 cases o with
 | none=>cases u with
  | none=>rfl
  | some _=>exact (show False from r).elim
 | some _=>cases u with
  | none=>exact (show False from r).elim
  | some _=>rfl
theorem KV.val {kvs:List (κ × V)} {vs:List (κ × Value)} (r:KV kvs vs) (k:κ):RelO (valV kvs k) (valueAt vs k):=by
 unfold KV at r
 induction r with
 | nil=>exact True.intro
 | @cons p q ps qs h t ih=>
  obtain ⟨h1,h2⟩:=h
  by_cases e:p.1=k
  ·have e':q.1=k:=h1.symm.trans e
   have b:valueAt (q::qs) k=some q.2:=by simp [valueAt,List.find?_cons,e']
   rw [qB3 e,b];exact h2
  ·have e':¬ q.1=k:=fun z=>e (h1.trans z)
   have b:valueAt (q::qs) k=valueAt qs k:=by simp [valueAt,List.find?_cons,e']
   rw [qB4 e,b];exact ih
theorem KV.any {kvs:List (κ × V)} {vs:List (κ × Value)} (r:KV kvs vs) (k:κ):(kvs.any fun kv=>decide (kv.1=k))=vs.any fun kv=>decide (kv.1=k):=by
 unfold KV at r
 induction r with
 | nil=>rfl
 | cons h t ih=>rw [List.any_cons,List.any_cons,ih,h.1]
theorem KV.repl {kvs:List (κ × V)} {vs:List (κ × Value)} (r:KV kvs vs) (k:κ) {y:V} {u:Value} (ry:RelV y u) :
  KV (kvs.map fun kv=>if kv.1=k then (kv.1,y) else kv) (vs.map fun kv=>if kv.1=k then (kv.1,u) else kv):=by
 unfold KV at r ⊢
 induction r with
 | nil=>exact .nil
 | @cons p q ps qs h t ih=>
  rw [List.map_cons,List.map_cons]
  refine .cons ?_ ih
  obtain ⟨h1,h2⟩:=h
  by_cases e:p.1=k
  ·rw [if_pos e,if_pos (h1.symm.trans e)];exact ⟨h1,ry⟩
  ·rw [if_neg e,if_neg (fun z=>e (h1.trans z))];exact ⟨h1,h2⟩
theorem KV.put {kvs:List (κ × V)} {vs:List (κ × Value)} (r:KV kvs vs) (k:κ) {y:V} {u:Value} (ry:RelV y u):KV (putK kvs k y) (stored vs k u):=by
 unfold putK stored
 rw [r.any k]
 by_cases e:(vs.any fun kv=>decide (kv.1=k))=true
 ·rw [if_pos e,if_pos e];exact r.repl k ry
 ·rw [if_neg e,if_neg e];exact Paired.snoc r ⟨rfl,ry⟩
theorem KV.keys {kvs:List (κ × V)} {vs:List (κ × Value)} (r:KV kvs vs):kvs.map (·.1)=vs.map (·.1):=by
 unfold KV at r
 induction r with
 | nil=>rfl
 | cons h t ih=>rw [List.map_cons,List.map_cons,ih,h.1]
theorem KV.length {kvs:List (κ × V)} {vs:List (κ × Value)} (r:KV kvs vs):kvs.length=vs.length:=Paired.length r
end
theorem kV_is {P:Program} {w:World} {k:Key} {u:Value} (r:RelV (kV k) u):(mixKind P w).is k u=true:=by
 cases k with
 | inl i=>obtain ⟨t,e⟩:=(show ∃ t,u=Value.int i t from r);subst e;exact mixKind_int P w i t
 | inr x=>obtain ⟨t,e⟩:=(show ∃ t,u=Value.str x t from r);subst e;exact mixKind_str P w x t
theorem items_are {P:Program} {w:World}:∀ {ks:List Key} {us:List Value},Vals (ks.map kV) us→ItemsAre (mixKind P w) ks us
 | [],_,r=>by rw [List.map_nil] at r;cases r;exact .nil
 | k::ks,_,r=>by
  rw [List.map_cons] at r
  cases r with
  | cons h t=>exact .cons (kV_is h) (items_are t)
abbrev KT (H:Hp):List (List Key × V)→List (List Key × Addr × Value)→Prop:=Paired fun p q=>p.1=q.1∧H q.2.1=some (.tup (p.1.map kV))∧RelV p.2 q.2.2
theorem KT.val {H:Hp} {kvs:List (List Key × V)} {xs:List (List Key × Addr × Value)} (r:KT H kvs xs) (k:List Key):RelO (valV kvs k) ((atKey xs k).map (·.2)):=by
 induction r with
 | nil=>exact True.intro
 | @cons p q ps qs h t ih=>
  obtain ⟨h1,_,h2⟩:=h
  by_cases e:p.1=k
  ·have e':q.1=k:=h1.symm.trans e
   have b:atKey (q::qs) k=some q.2:=by simp [atKey,List.find?_cons,e']
   rw [qB3 e,b];exact h2
  ·have e':¬ q.1=k:=fun z=>e (h1.trans z)
   have b:atKey (q::qs) k=atKey qs k:=by simp [atKey,List.find?_cons,e']
   rw [qB4 e,b];exact ih
theorem KT.repl {H:Hp} {kvs:List (List Key × V)} {xs:List (List Key × Addr × Value)} (r:KT H kvs xs) (k:List Key) {y:V} {u:Value} (ry:RelV y u) :
  KT H (kvs.map fun kv=>if kv.1=k then (kv.1,y) else kv) (xs.map (putAt k u)):=by
 induction r with
 | nil=>exact .nil
 | @cons p q ps qs h t ih=>
  rw [List.map_cons,List.map_cons]
  refine .cons ?_ ih
  obtain ⟨h1,h2,h3⟩:=h
  unfold putAt
  by_cases e:p.1=k
  ·rw [if_pos e,if_pos (h1.symm.trans e)];exact ⟨h1,h2,ry⟩
  ·rw [if_neg e,if_neg (fun z=>e (h1.trans z))];exact ⟨h1,h2,h3⟩
theorem KT.put {H:Hp} {kvs:List (List Key × V)} {xs:List (List Key × Addr × Value)} (r:KT H kvs xs) (k:List Key) {b:Addr} {y:V} {u:Value} (hb:H b=some (.tup (k.map kV))) (ry:RelV y u) :
  KT H (putK kvs k y) (storedH xs k b u):=by
 have e:(kvs.any fun kv=>decide (kv.1=k))=(atKey xs k).isSome:=by
  rw [valV_any,(r.val k).isSome_eq,Option.isSome_map]
 unfold putK storedH
 rw [e]
 by_cases q:(atKey xs k).isSome=true
 ·rw [if_pos q,if_pos q];exact r.repl k ry
 ·rw [if_neg q,if_neg q];exact Paired.snoc r ⟨rfl,hb,ry⟩
theorem KT.keeps {H H':Hp} {kvs:List (List Key × V)} {xs:List (List Key × Addr × Value)} (r:KT H kvs xs) (ht:∀ b ys,H b=some (.tup ys)→H' b=some (.tup ys)):KT H' kvs xs:=
 Paired.mapP r fun _ _ z=>⟨z.1,ht _ _ z.2.1,z.2.2⟩
section
variable {P:Program} {w:World} {H:Hp} {h:Heap} {a:Addr}
theorem rd_of {u:HO} (ok:HOk P w H h) (e:Rd H a u):ObjOk P w H h a u:=e.ok ok
theorem dk_rd {kvs:List (Key × V)} (ok:HOk P w H h) (e:Rd H a (.dK kvs)):kvs.length≤sizeLine∧(a == sysModules)=false∧∃ vs,KV kvs vs∧h.DictOf (mixKind P w) a vs:=
 show ObjOk P w H h a (.dK kvs) from rd_of ok e
theorem dk_of {kvs:List (Key × V)} (ok:HOk P w H h) (e:H a=some (.dK kvs)):kvs.length≤sizeLine∧(a == sysModules)=false∧∃ vs,KV kvs vs∧h.DictOf (mixKind P w) a vs:=dk_rd ok (.inl e)
theorem key_of {ks:List Key} (ok:HOk P w H h) (e:H a=some (.tup (ks.map kV))):(tupleKind (mixKind P w)).is h ks a:=by
 obtain ⟨_,its,r,o,h1,h2,n,h3⟩:=(show ObjOk P w H h a (.tup (ks.map kV)) from ok a _ e)
 exact ⟨o,its.toArray,n,h1,h2,h3,by simpa using items_are r⟩
theorem dt_rd {kvs:List (List Key × V)} (ok:HOk P w H h) (e:Rd H a (.dT kvs)):kvs.length≤sizeLine∧(a == sysModules)=false∧
  ∃ xs,KT H kvs xs∧h.DictOfH (tupleKind (mixKind P w)) a xs:=by
 obtain ⟨z,y,xs,r,o,es,ep,h1,h2,h3,h4,h5⟩:=(show ObjOk P w H h a (.dT kvs) from rd_of ok e)
 refine ⟨z,y,xs,r,o,es,ep,h1,h2,h3,h4,fun x hx=>?_,h5⟩
 have all:∀ {l:List (List Key × V)} {m:List (List Key × Addr × Value)},KT H l m→∀ x ∈ m,(tupleKind (mixKind P w)).is h x.1 x.2.1:=by
  intro l m q
  induction q with
  | nil=>intro x hx;exact nomatch hx
  | @cons p q ps qs hq t ih=>
   intro x hx
   rcases List.mem_cons.mp hx with e | hx
   ·subst e
    exact key_of ok (by rw [← hq.1];exact hq.2.1)
   ·exact ih x hx
 exact all r x hx
theorem dt_of {kvs:List (List Key × V)} (ok:HOk P w H h) (e:H a=some (.dT kvs)):kvs.length≤sizeLine∧(a == sysModules)=false∧
  ∃ xs,KT H kvs xs∧h.DictOfH (tupleKind (mixKind P w)) a xs:=dt_rd ok (.inl e)
end
def DGet (H:Hp) (a:Addr) (y:V) (r:Option V):Prop:=
 (∃ kvs k,Rd H a (.dK kvs)∧y=kV k∧r=valV kvs k)∨∃ kvs k b,Rd H a (.dT kvs)∧y=.ref b∧H b=some (.tup (k.map kV))∧r=valV kvs k
def DPut (H:Hp) (a:Addr) (y v:V) (H':Hp):Prop:=
 (∃ kvs k,H a=some (.dK kvs)∧y=kV k∧kvs.length<sizeLine∧H'=upd H a (.dK (putK kvs k v)))∨
 ∃ kvs k b,H a=some (.dT kvs)∧y=.ref b∧H b=some (.tup (k.map kV))∧kvs.length<sizeLine∧H'=upd H a (.dT (putK kvs k v))
theorem DGet.k {H:Hp} {a:Addr} {kvs:List (Key × V)} {k:Key} (e:H a=some (.dK kvs)):DGet H a (kV k) (valV kvs k):=.inl ⟨kvs,k,.inl e,rfl,rfl⟩
theorem DPut.k {H:Hp} {a:Addr} {kvs:List (Key × V)} {k:Key} {v:V} (e:H a=some (.dK kvs)) (hl:kvs.length<sizeLine):DPut H a (kV k) v (upd H a (.dK (putK kvs k v))):=.inl ⟨kvs,k,e,rfl,hl,rfl⟩
section
variable {X:Cx} {pins:List (Addr × Obj)} {σ:St} {H:Hp} {s:Shared} {a:Addr} {y v:V} {u r:Value} {o:Option V} {A:Around} {E:Value→Shared→Prop}
theorem Inv.big (I:Inv X pins σ H s):sysModules<s.heap.objs.size:=by
 have h:mainGlobals<s.heap.objs.size:=(I.mod.glob.keeps I.bk).lt
 exact Nat.lt_trans (by decide) h
theorem d_getItem {Q:Value→Shared→Prop} (hu:A.units+1<cLine) (I:Inv X pins σ H s) (g:DGet H a y (some v)) (ry:RelV y u) (h:∀ w' s',Inv X pins σ H s'→RelV v w'→Q w' s') :
  wpAny (model X.prog X.w) A (getItem (.ref a) u) Q E s:=by
 rcases g with ⟨kvs,k,e,ey,l⟩ | ⟨kvs,k,b,e,ey,eb,l⟩
 ·subst ey
  obtain ⟨z,hd,vs,rel,dd⟩:=dk_rd I.hok e
  obtain ⟨w',hw,rw'⟩:=RelO.some_of (v:=v) (o:=valueAt vs k) (by rw [l];exact rel.val k)
  exact wpAny_getItem_of (kV_is ry) dd.mapOf hw (h w' _ (I.tok _) rw')
 ·subst ey
  cases (show u=Value.ref b from ry)
  obtain ⟨z,hd,xs,rel,dd⟩:=dt_rd I.hok e
  obtain ⟨w',hw,rw'⟩:=RelO.some_of (v:=v) (o:=(atKey xs k).map (·.2)) (by rw [l];exact rel.val k)
  obtain ⟨p,hp,hp2⟩:=Option.map_eq_some_iff.mp hw
  refine wpAny_getItem_heap (tupleKind_room_in1 hu) (key_of I.hok eb) dd hp ?_
  rw [hp2]
  exact h w' _ (I.tok _) rw'
theorem d_in {Q:Value→Shared→Prop} (hu:A.units+1<cLine) (I:Inv X pins σ H s) (g:DGet H a y o) (ry:RelV y u) (h:∀ s',Inv X pins σ H s'→Q (.bool o.isSome) s') :
  wpAny (model X.prog X.w) A (compareOp .In u (.ref a)) Q E s:=by
 rcases g with ⟨kvs,k,e,ey,l⟩ | ⟨kvs,k,b,e,ey,eb,l⟩
 ·subst ey
  obtain ⟨z,hd,vs,rel,dd⟩:=dk_rd I.hok e
  refine wpAny_in_of (kV_is ry) hd dd.mapOf ?_
  rw [← (rel.val k).isSome_eq,← l]
  exact h _ (I.tok _)
 ·subst ey
  cases (show u=Value.ref b from ry)
  obtain ⟨z,hd,xs,rel,dd⟩:=dt_rd I.hok e
  refine wpAny_in_heap (tupleKind_room_in1 hu) (key_of I.hok eb) hd dd ?_
  have q:=(rel.val k).isSome_eq
  rw [Option.isSome_map] at q
  rw [← q,← l]
  exact h _ (I.tok _)
theorem d_notIn {Q:Value→Shared→Prop} (hu:A.units+1<cLine) (I:Inv X pins σ H s) (g:DGet H a y o) (ry:RelV y u) (h:∀ s',Inv X pins σ H s'→Q (.bool (!o.isSome)) s') :
  wpAny (model X.prog X.w) A (compareOp .NotIn u (.ref a)) Q E s:=by
 rcases g with ⟨kvs,k,e,ey,l⟩ | ⟨kvs,k,b,e,ey,eb,l⟩
 ·subst ey
  obtain ⟨z,hd,vs,rel,dd⟩:=dk_rd I.hok e
  refine wpAny_notIn_of (kV_is ry) hd dd.mapOf ?_
  rw [← (rel.val k).isSome_eq,← l]
  exact h _ (I.tok _)
 ·subst ey
  cases (show u=Value.ref b from ry)
  obtain ⟨z,hd,xs,rel,dd⟩:=dt_rd I.hok e
  refine wpAny_notIn_heap (tupleKind_room_in1 hu) (key_of I.hok eb) hd dd ?_
  have q:=(rel.val k).isSome_eq
  rw [Option.isSome_map] at q
  rw [← q,← l]
  exact h _ (I.tok _)
theorem d_write {h':Heap} {t':Nat} {ob:HO} (I:Inv X pins σ H s) (mu:Mut (H a)) (hs:Heap.SameBut a s.heap h') (he:∃ q,h'.get? a=some q) (new:ObjOk X.prog X.w (upd H a ob) h' a ob) :
  Inv X pins σ (upd H a ob) { s with heap:=h',toks:=t' }:=
 I.write (x:=a) (e:=a) mu (.inl rfl) (fun b q hb z=>(hs.2 b hb).trans z) he new
theorem dk_new {P:Program} {w:World} {H':Hp} {h':Heap} {kvs:List (Key × V)} {vs:List (Key × Value)} (z:kvs.length≤sizeLine) (hd:(a == sysModules)=false) (rel:KV kvs vs) (dd:h'.DictOf (mixKind P w) a vs) :
  ObjOk P w H' h' a (.dK kvs):=⟨z,hd,vs,rel,dd⟩
theorem d_setItem {H':Hp} {Q:Unit→Shared→Prop} (hu:A.units+1<cLine) (I:Inv X pins σ H s) (g:DPut H a y v H') (ry:RelV y u) (rv:RelV v r) (h:∀ s',Inv X pins σ H' s'→Q () s') :
  wpAny (model X.prog X.w) A (setItem (.ref a) u r) Q E s:=by
 rcases g with ⟨kvs,k,e,ey,l,eH⟩ | ⟨kvs,k,b,e,ey,eb,l,eH⟩
 ·subst ey eH
  obtain ⟨z,hd,vs,rel,dd⟩:=dk_of I.hok e
  have hz:vs.length≤sizeLine:=by rw [← rel.length];exact z
  have hl:(putK kvs k v).length≤sizeLine:=by have:=qB2 kvs k v;omega
  refine wpAny_setItem_pairs (hsz:=hz) (kV_is ry) dd fun h' dd' hs=>h _ ?_
  have he:∃ q,h'.get? a=some q:=let ⟨q,_,_,hq,_⟩:=dd';⟨q,hq⟩
  exact d_write I (by rw [e];exact True.intro) hs he (dk_new hl hd (rel.put k rv) dd')
 ·subst ey eH
  cases (show u=Value.ref b from ry)
  obtain ⟨z,hd,xs,rel,dd⟩:=dt_of I.hok e
  have hz:xs.length≤sizeLine:=by rw [← Paired.length rel];exact z
  have hl:(putK kvs k v).length≤sizeLine:=by have:=qB2 kvs k v;omega
  refine wpAny_setItem_heap (hsz:=hz) (tupleKind_room_in1 hu) (key_of I.hok eb) dd fun h' dd' hs=>h _ ?_
  obtain ⟨q,es,ep,hq,h2,h3,h4,_,h5⟩:=dd'
  refine d_write I (by rw [e];exact True.intro) hs ⟨q,hq⟩ ⟨hl,hd,_,(rel.put k eb rv).keeps fun c ys ec=>?_,q,es,ep,hq,h2,h3,h4,h5⟩
  rw [qA8 (ne_of ec e (fun z=>nomatch z))]
  exact ec
end
section
variable {X:Cx} {pins:List (Addr × Obj)} {σ:St} {H:Hp} {s:Shared} {a:Addr} {kvs:List (Key × V)} {k:Key} {u:Value} {A:Around} {E:Value→Shared→Prop}
end
def NoSl (i:Expr):Prop:=∀ ov iv,subscripted i false ov iv=operate [ov,iv] (getItem ov iv)
theorem subD_of {prog:Program} {w:World} {A:Around} {E:Value→Shared→Prop} {s:Shared} {env:Env} {value slice:Expr} {pos:Pos} {T id:String} {Q:Value→Shared→Prop}
  (hl:typeLookup (.type T) "__getitem__" = pure (some (.builtin id))) (hs:NoSl slice)
  (h:wpAny (model prog w) A (eval value env) (fun o s₁=>wpAny (model prog w) A (eval slice env) (fun i s₂=>s₂.TypeIs o T∧wpAny (model prog w) A (getItem o i) Q E s₂) E s₁) E s) :
  wpAny (model prog w) A (eval (.Subscript value slice pos) env) Q E s:=by
 refine Subscript_ (wpAny_mono h (fun o s₁ h₁=>wpAny_mono h₁ (fun i s₂ h₂=>?_) fun _ _ x=>x) fun _ _ x=>x)
 obtain ⟨hT,h₂⟩:=h₂
 unfold subscriptTail
 refine wpAny_bind ?_
 rw [getitemInPython_of_ne hT.not_modules]
 refine wpAny_bind (wpAny_specialOf hT hl ?_)
 have fin:wpAny (model prog w) A (subscripted slice false o i) (fun r s₃=>wpAny (model prog w) A (letTemporaryGo value o r >>= fun _=>pure r) Q E s₃) E s₂:=by
  rw [hs o i]
  exact wpAny_operating (wpAny_mono h₂ (fun r s₃ h₃=>wpAny_bind (wpAny_letTemporaryGo (wpAny_pure h₃))) fun _ _ x=>x)
 first
  | exact wpAny_pure (wpAny_bind fin)
  | exact wpAny_bind (wpAny_pure (wpAny_bind fin))
  | exact wpAny_bind fin
theorem dict_typeIs {X:Cx} {pins:List (Addr × Obj)} {σ:St} {H:Hp} {s:Shared} {a:Addr} {y:V} {o:Option V} (I:Inv X pins σ H s) (g:DGet H a y o):s.TypeIs (.ref a) "dict":=by
 rcases g with ⟨kvs,k,e,_,_⟩ | ⟨kvs,k,b,e,_,_,_⟩
 ·obtain ⟨_,_,vs,_,dd⟩:=dk_rd I.hok e
  exact dd.typeIs
 ·obtain ⟨_,_,xs,_,dd⟩:=dt_rd I.hok e
  exact dd.typeIs
def tDGet (td ty:TE):TE:=fun σ H Q=>td σ H fun x H1=>ty σ H1 fun y H2=>∃ a v,x=.ref a∧DGet H2 a y (some v)∧Q v H2
def tDIn (ty td:TE):TE:=fun σ H Q=>ty σ H fun y H1=>td σ H1 fun x H2=>∃ a o,x=.ref a∧DGet H2 a y o∧Q (.bl o.isSome) H2
def tDNotIn (ty td:TE):TE:=fun σ H Q=>ty σ H fun y H1=>td σ H1 fun x H2=>∃ a o,x=.ref a∧DGet H2 a y o∧Q (.bl (!o.isSome)) H2
def sDPut (td ty tv:TE):TS:=fun D σ H=>tv σ H fun v H1=>td σ H1 fun x H2=>ty σ H2 fun y H3=>∃ a H4,x=.ref a∧DPut H3 a y v H4∧D.nx σ H4
section
variable {X:Cx} {o i e value:Expr} {pos pos' tpos:Pos} {td ty tv:TE}
theorem qC9 (hu:X.A.units+1<cLine) (ho:PE X o td) (hi:PE X i ty) (hs:NoSl i):PE X (.Subscript o i pos) (tDGet td ty):=by
 intro pins s σ H Q I h
 refine subD_of PySem.F.slot_dict_getitem.lookup hs (thn (ho pins s σ H _ I h) fun u s1 ⟨x,H1,I1,rx,q1⟩=>thn (hi pins s1 σ H1 _ I1 q1) fun iv s2 ⟨y,H2,I2,ry,a,v,ex,g,q2⟩=>?_)
 subst ex
 obtain rfl:u=Value.ref a:=rx
 exact ⟨dict_typeIs I2 g,d_getItem hu I2 g ry fun w' s3 I3 rw'=>⟨v,H2,I3,rw',q2⟩⟩
theorem pc_din (hu:X.A.units+1<cLine) (hi:PE X i ty) (ho:PE X o td):PC X .In i o (tDIn ty td):=by
 intro pins s σ H Q I h
 refine thn (hi pins s σ H _ I h) fun iv s1 ⟨y,H1,I1,ry,q1⟩=>thn (ho pins s1 σ H1 _ I1 q1) fun u s2 ⟨x,H2,I2,rx,a,ov,ex,g,q2⟩=>?_
 subst ex
 obtain rfl:u=Value.ref a:=rx
 exact d_in hu I2 g ry fun s3 I3=>⟨.bl ov.isSome,H2,I3,rfl,q2⟩
theorem pc_dnotin (hu:X.A.units+1<cLine) (hi:PE X i ty) (ho:PE X o td):PC X .NotIn i o (tDNotIn ty td):=by
 intro pins s σ H Q I h
 refine thn (hi pins s σ H _ I h) fun iv s1 ⟨y,H1,I1,ry,q1⟩=>thn (ho pins s1 σ H1 _ I1 q1) fun u s2 ⟨x,H2,I2,rx,a,ov,ex,g,q2⟩=>?_
 subst ex
 obtain rfl:u=Value.ref a:=rx
 exact d_notIn hu I2 g ry fun s3 I3=>⟨.bl (!ov.isSome),H2,I3,rfl,q2⟩
theorem qCP (hu:X.A.units+1<cLine) (ho:PE X o td) (hi:PE X i ty) (hv:PE X value tv) (hs:swapsWith value (some (.Subscript o i pos')) pos.line X.env=pure false) :
  PS X (.Assign [.Subscript o i pos'] value pos) (sDPut td ty tv):=by
 intro pins s σ H D I h
 refine wpAny_Assign_Subscript (thn (hv pins s σ H _ I h) fun r s1 ⟨v,H1,I1,rv,q1⟩=>thn (ho pins s1 σ H1 _ I1 q1) fun u s2 ⟨x,H2,I2,rx,q2⟩=>thn (hi pins s2 σ H2 _ I2 q2) fun iv s3 ⟨y,H3,I3,ry,a,H4,ex,g,q3⟩=>?_) hs
 subst ex
 obtain rfl:u=Value.ref a:=rx
 exact d_setItem hu I3 g ry rv fun s4 I4=>⟨σ,H4,I4,q3⟩
end
theorem dk_empty {P:Program} {w:World} {H:Hp} (h:Heap) (hb:sysModules<h.objs.size):ObjOk P w H (h.push { cls:=.type "dict",data:=.dict #[] }) h.objs.size (.dK []):=
 ⟨Nat.zero_le _,beq_eq_false_iff_ne.mpr (Ne.symm (Nat.ne_of_lt hb)),[],.nil,Heap.DictOf.new h⟩
def tDNewK:TE:=fun _ H Q=>∀ p,H p=none→Q (.ref p) (upd H p (.dK []))
section
variable {X:Cx} {pos:Pos}
theorem pe_dnewK:PE X (.Dict [] [] pos) tDNewK:=fun pins s σ H Q I h=>
 wpAny_Dict_empty ⟨.ref s.heap.objs.size,_,I.laid (a:=s.heap.objs.size) (o:=.dK []) (t':=s.toks) (fun _ _ q=>Heap.get?_push_of_some _ q) (Nat.le_refl _) (dk_empty s.heap I.big),rfl,h _ (I.hok.fresh (Nat.le_refl _))⟩
end
def tPairs:List (TE × TE)→St→Hp→(List (V × V)→Hp→Prop)→Prop
 | [],_,H,Q=>Q [] H
 | (tk,tv)::r,σ,H,Q=>tk σ H fun x H1=>tv σ H1 fun y H2=>tPairs r σ H2 fun ps H3=>Q ((x,y)::ps) H3
abbrev VV:List (V × V)→List (Value × Value)→Prop:=Paired fun p q=>RelV p.1 q.1∧RelV p.2 q.2
def PPs (X:Cx) (pos:Pos) (keys:List (Option Expr)) (values:List Expr) (trs:List (TE × TE)):Prop:=
 ∀ (pins:List (Addr × Obj)) (s:Shared) (σ:St) (H:Hp) (Q:List (V × V)→Hp→Prop),Inv X pins σ H s→tPairs trs σ H Q→
  wpAny (model X.prog X.w) X.A (evalPairs (pairTrees keys values X.env pos)) (fun vs s'=>∃ ps H',Inv X pins σ H' s'∧VV ps vs∧Q ps H') X.xe s
theorem pps_nil {X:Cx} {pos:Pos}:PPs X pos [] [] []:=fun pins s σ H Q I h=>pairTrees_nil_walk ⟨[],H,I,.nil,h⟩
theorem pps_cons {X:Cx} {pos:Pos} {k v:Expr} {ks:List (Option Expr)} {vs:List Expr} {tk tv:TE} {trs:List (TE × TE)} (hk:PE X k tk) (hv:PE X v tv) (hr:PPs X pos ks vs trs) :
  PPs X pos (some k::ks) (v::vs) ((tk,tv)::trs):=fun pins s σ H Q I h=>
 pairTrees_cons_walk (thn (hk pins s σ H _ I h) fun u s1 ⟨x,H1,I1,rx,q1⟩=>thn (hv pins s1 σ H1 _ I1 q1) fun w2 s2 ⟨y,H2,I2,ry,q2⟩=>
  thn (hr pins s2 σ H2 _ I2 q2) fun ws s3 ⟨ps,H3,I3,rel,q3⟩=>⟨(x,y)::ps,H3,I3,.cons ⟨rx,ry⟩ rel,q3⟩)
def mergeK (kvs more:List (Key × V)):List (Key × V):=more.foldl (fun acc kv=>putK acc kv.1 kv.2) kvs
theorem KV.merge:∀ {more:List (Key × V)} {rs:List (Key × Value)} {kvs:List (Key × V)} {vs:List (Key × Value)},KV more rs→KV kvs vs→KV (mergeK kvs more) (merged vs rs):=by
 intro more rs kvs vs r
 unfold KV at r
 induction r generalizing kvs vs with
 | nil=>intro q;exact q
 | @cons p q ps qs h t ih=>
  intro r0
  have e:KV (putK kvs p.1 p.2) (stored vs q.1 q.2):=by
   have:=r0.put p.1 h.2
   rw [← h.1];exact this
  exact ih e
theorem length_mergeK:∀ (more kvs:List (Key × V)),(mergeK kvs more).length≤kvs.length+more.length
 | [],kvs=>by show kvs.length≤kvs.length+0;omega
 | p::r,kvs=>by
  have h1:=length_mergeK r (putK kvs p.1 p.2)
  have h2:=qB2 kvs p.1 p.2
  show (mergeK (putK kvs p.1 p.2) r).length≤_
  rw [List.length_cons];omega
theorem carries_of {P:Program} {w:World}:∀ {kvs:List (Key × V)} {ws:List (Value × Value)},VV (kvs.map fun kv=>(kV kv.1,kv.2)) ws→∃ rs,Carries (mixKind P w) ws rs∧KV kvs rs
 | [],_,r=>by rw [List.map_nil] at r;cases r;exact ⟨[],True.intro,.nil⟩
 | p::kvs,_,r=>by
  rw [List.map_cons] at r
  cases r with
  | @cons a b as bs h t=>
   obtain ⟨rs,c,q⟩:=carries_of (P:=P) (w:=w) t
   obtain ⟨b1,b2⟩:=b
   exact ⟨(p.1,b2)::rs,⟨kV_is h.1,rfl,c⟩,.cons ⟨rfl,h.2⟩ q⟩
def tDisp (trs:List (TE × TE)):TE:=fun σ H Q=>∀ p,H p=none→tPairs trs σ (upd H p (.dK [])) fun ps H2=>H2 p=some (.dK [])∧∃ kvs:List (Key × V),ps=kvs.map (fun kv=>(kV kv.1,kv.2))∧kvs.length≤15∧Q (.ref p) (upd H2 p (.dK (mergeK [] kvs)))
theorem pe_disp {X:Cx} {pos:Pos} {keys:List (Option Expr)} {values:List Expr} {trs:List (TE × TE)} (h:PPs X pos keys values trs) (hall:keys.all (·.isSome)=true) (hl:keys.length=values.length) (h0:keys ≠ [])
  (h15:keys.length≤15):PE X (.Dict keys values pos) (tDisp trs):=by
 intro pins s σ H Q I q
 have hn:=I.hok.fresh (Nat.le_refl s.heap.objs.size)
 have I1:=I.laid (a:=s.heap.objs.size) (o:=.dK []) (h':=s.heap.push { cls:=.type "dict",data:=.dict #[] }) (t':=s.toks) (fun _ _ q=>Heap.get?_push_of_some _ q) (Nat.le_refl _) (dk_empty s.heap I.big)
 refine wpAny_Dict_walk (knd:=mixKind X.prog X.w) hall hl h0 h15 (thn (h pins _ σ _ _ I1 (q _ hn)) fun ws s2 ⟨ps,H2,I2,rel,e,kvs,ep,lk,q2⟩=>?_)
 subst ep
 obtain ⟨rs,c,rk⟩:=carries_of (P:=X.prog) (w:=X.w) rel
 obtain ⟨z,hd,vs0,r0,dd⟩:=dk_of I2.hok e
 cases r0
 refine ⟨rs,c,dd,fun h' dd' hs=>⟨.ref s.heap.objs.size,_,?_,rfl,q2⟩⟩
 have hz:(mergeK [] kvs).length≤sizeLine:=by
  have h1:=length_mergeK kvs []
  rw [List.length_nil] at h1
  rw [sizeLine_eq];omega
 have he:∃ q,h'.get? s.heap.objs.size=some q:=let ⟨q,_,_,hq,_⟩:=dd';⟨q,hq⟩
 exact d_write I2 (by rw [e];exact True.intro) hs he (dk_new hz hd (rk.merge .nil) dd')
structure M1 (X:Cx) (o:Expr) (m:Str) (apos:Pos) (e:Expr) (cpos:Pos):Prop where
 base:attributeBase o m X.env (eval o X.env)=eval o X.env
 few:((backTo cpos (starEach [e] X.env)).all (fun x=>!x.1) && (backToKw cpos (keywordEach [] X.env)).all (fun x=>x.1.isSome)
  && decide (([e]:List Expr).length+([]:List Keyword).length+(if ([]:List Keyword).isEmpty then 0 else 1)<30))=true
 line:(apos.endLine == cpos.line)=true
 trees:backTo cpos (starEach [e] X.env)=[(false,eval e X.env)]
structure M2 (X:Cx) (o:Expr) (m:Str) (apos:Pos) (e f:Expr) (cpos:Pos):Prop where
 base:attributeBase o m X.env (eval o X.env)=eval o X.env
 few:((backTo cpos (starEach [e,f] X.env)).all (fun x=>!x.1) && (backToKw cpos (keywordEach [] X.env)).all (fun x=>x.1.isSome)
  && decide (([e,f]:List Expr).length+([]:List Keyword).length+(if ([]:List Keyword).isEmpty then 0 else 1)<30))=true
 line:(apos.endLine == cpos.line)=true
 trees:backTo cpos (starEach [e,f] X.env)=[(false,eval e X.env),(false,eval f X.env)]
section
variable {X:Cx} {pins:List (Addr × Obj)} {σ:St} {H:Hp} {s:Shared} {a:Addr} {y d:V} {u r:Value} {o:Option V} {A:Around} {E:Value→Shared→Prop}
end
section
variable {X:Cx} {o e f:Expr} {apos cpos:Pos} {td ty tx:TE}
end
section
variable {X:Cx} {pins:List (Addr × Obj)} {σ:St} {H:Hp} {s:Shared} {a:Addr} {kvs:List (Key × V)} {A:Around} {E:Value→Shared→Prop}
end
section
variable {X:Cx} {pins:List (Addr × Obj)} {σ:St} {H:Hp} {s:Shared} {a:Addr} {y:V} {u:Value} {A:Around} {E:Value→Shared→Prop}
end
end L2
namespace L2
open PySem PySem.Spec PyProof.Rows
section
variable {X:Cx}
end
section
variable {κ:Type} [DecidableEq κ]
theorem nd_snoc:∀ {l:List κ} {k:κ},l.Nodup→¬ k ∈ l→(l++[k]).Nodup
 | [],k,_,_=>by simp
 | a::r,k,h,hk=>by
  obtain ⟨h1,h2⟩:=List.nodup_cons.mp h
  show (a::(r++[k])).Nodup
  refine List.nodup_cons.mpr ⟨fun m=>?_,nd_snoc h2 fun m=>hk (List.mem_cons.mpr (Or.inr m))⟩
  rcases List.mem_append.mp m with q | q
  ·exact h1 q
  ·exact hk (List.mem_cons.mpr (Or.inl (List.mem_singleton.mp q).symm))
end
end L2
namespace L2
open PySem PySem.Spec PyProof.Rows
def noX:Value→Shared→Prop:=fun _ _=>False
def closL (env:Env):List (Str × NameKind)→List (Str × Addr)→List (Str × Addr)
 | [],acc=>acc
 | (n,k)::r,acc=>closL env r (if (k == NameKind.free)=true then (n,(env.cells.lookup n).getD 0)::acc else acc)
theorem closL_sub {env:Env}:∀ {names:List (Str × NameKind)} {acc:List (Str × Addr)},(∀ x,(x,NameKind.free) ∈ names→∃ c,env.cells.lookup x=some c)→(∀ x c,acc.lookup x=some c→env.cells.lookup x=some c)→
  ∀ x c,(closL env names acc).lookup x=some c→env.cells.lookup x=some c
 | [],acc,_,ha,x,c,h=>ha x c h
 | (n,k)::r,acc,hf,ha,x,c,h=>by
  refine closL_sub (names:=r) (fun y hy=>hf y (List.mem_cons_of_mem _ hy)) (fun y d hd=>?_) x c h
  split at hd
  ·rename_i hk
   have hk':k=NameKind.free:=by simpa using hk
   subst hk'
   obtain ⟨e,he⟩:=hf n List.mem_cons_self
   by_cases hyn:y=n
   ·subst hyn
    rw [List.lookup_cons_self,he] at hd
    rw [he];exact hd
   ·rw [List.lookup_cons,beq_eq_false_iff_ne.mpr hyn] at hd
    exact ha y d hd
  ·exact ha y d hd
theorem closL_has {env:Env}:∀ {names:List (Str × NameKind)} {acc:List (Str × Addr)} {x:Str},((x,NameKind.free) ∈ names∨∃ c,acc.lookup x=some c)→∃ c,(closL env names acc).lookup x=some c
 | [],acc,x,h=>by
  rcases h with h | h
  ·exact absurd h (by simp)
  ·exact h
 | (n,k)::r,acc,x,h=>by
  refine closL_has (names:=r) ?_
  rcases h with h | ⟨c,h⟩
  ·rcases List.mem_cons.mp h with e | h
   ·cases e
    refine .inr ⟨(env.cells.lookup n).getD 0,?_⟩
    rw [if_pos (by rfl),List.lookup_cons_self]
   ·exact .inl h
  ·refine .inr ?_
   split
   ·by_cases hyn:x=n
    ·subst hyn
     exact ⟨_,List.lookup_cons_self⟩
    ·refine ⟨c,?_⟩
     rw [List.lookup_cons,beq_eq_false_iff_ne.mpr hyn]
     exact h
   ·exact ⟨c,h⟩
theorem closure_run {env:Env} (f:Str × NameKind→List (Str × Addr)→Sem (ForInStep (List (Str × Addr))))
  (hf:∀ n k c,f (n,k) c=(if (k == NameKind.free)=true then (do let a ← cellOf env n;pure (ForInStep.yield ((n,a)::c))) else pure (ForInStep.yield c))) :
  ∀ (names:List (Str × NameKind)) (acc:List (Str × Addr)),(∀ x,(x,NameKind.free) ∈ names→∃ c,env.cells.lookup x=some c)→forIn names acc f=(pure (closL env names acc):Sem _)
 | [],acc,_=>rfl
 | (n,k)::r,acc,h=>by
  have ih:=fun acc=>closure_run f hf r acc fun x hx=>h x (List.mem_cons_of_mem _ hx)
  rw [List.forIn_cons,hf]
  by_cases hk:(k == NameKind.free)=true
  ·have hk':k=NameKind.free:=by simpa using hk
   subst hk'
   obtain ⟨c,hc⟩:=h n List.mem_cons_self
   rw [if_pos hk]
   unfold cellOf closL
   rw [hc,if_pos hk]
   exact ih _
  ·rw [if_neg hk]
   unfold closL
   rw [if_neg hk]
   exact ih _
theorem closure_ok {scope:Scope} {env:Env} (h:∀ x,(x,NameKind.free) ∈ scope.names→∃ c,env.cells.lookup x=some c):closureFor scope env=pure (closL env scope.names []):=by
 unfold closureFor
 dsimp only
 rw [closure_run (env:=env) _ (fun n k c=>?_) scope.names [] h]
 ·rfl
 ·rfl
theorem qB9 {env:Env} {x:Str}:∀ {names:List (Str × NameKind)},
  (names.map fun (n,k)=>if (k == NameKind.free && env.scope.kind == .function && env.kindOf n == some .cell)=true then (n,NameKind.cell) else (n,k)).lookup x =
   (names.lookup x).map fun k=>if (k == NameKind.free && env.scope.kind == .function && env.kindOf x == some .cell)=true then NameKind.cell else k
 | []=>rfl
 | (n,k)::r=>by
  have ih:=@qB9 env x r
  rw [List.map_cons]
  by_cases hx:x=n
  ·subst hx
   dsimp only
   rw [List.lookup_cons_self (b:=k),Option.map_some]
   split
   ·rw [List.lookup_cons_self]
   ·rw [List.lookup_cons_self]
  ·have hb:(x == n)=false:=beq_eq_false_iff_ne.mpr hx
   dsimp only
   rw [List.lookup_cons (k:=n) (b:=k),hb]
   dsimp only
   rw [← ih]
   split
   ·rw [List.lookup_cons,hb]
   ·rw [List.lookup_cons,hb]
structure LcZ where
 L:Addr
 cl:List (Str × Addr)
 ex:List Addr
 s₀:Shared
 H₀:Hp
def lcCx (X:Cx) (scope:Scope) (own:List Str) (fv:List Nat) (z:LcZ):Cx where
 prog:=X.prog
 w:=X.w
 K:=X.K
 mg:=X.mg
 base:=X.base
 A:=X.A
 N:=own++fv.map fun i=>X.N.getD i Str.empty
 s₀:=z.s₀
 H₀:=z.H₀
 env:=compEnvC scope z.cl z.L X.env
 outer:=X.stack
 stack:=X.stack
 ex:=z.ex
 fn:=fun _=>false
 calm:=X.calm
 pn:=[]
 xe:=noX
structure LcScope (X:Cx) (scope:Scope) (own:List Str) (fv:List Nat):Prop where
 kind:scope.kind=.function
 nocell:∀ y ∈ scope.names,y.2 ≠ .cell
 names:∀ y ∈ scope.names,y.2=.local→scope.names.lookup y.1=some .local
 free:∀ y ∈ scope.names,y.2=.free→X.env.kindOf y.1=some .cell∨X.env.kindOf y.1=some .free
 nd:(own++fv.map fun i=>X.N.getD i Str.empty).Nodup
 fvs:∀ i ∈ fv,i<X.N.length∧scope.names.lookup (X.N.getD i Str.empty)=some .free
def lcStart (own:List Str) (fv:List Nat) (σ:St):St:=(own.map fun _=>none)++fv.map fun i=>(σ[i]?).join
theorem compLoop_any {prog:Program} {w:World} {A:Around} {R:Result→Shared→Prop} {s:Shared} {elt target iter:Expr} {ifs:List Expr} {scope:Scope} {pos:Pos} {it acc:Value} {env:Env} (I:Nat→Shared→Prop)
  (turn:∀ n s,I n s→wpAny (model prog w) A (pyNext it) (fun r s₁=>match r with
   | none=>R (.ok .next) s₁
   | some v=>wpAny (model prog w) A (letOwnedTupleGo target it v) (fun _ s₁=>wpAny (model prog w) A (assign target env v) (fun _ s₂=>
     wpAny (model prog w) A (forIn ifs true fun c r=>if r=true then do let ok ← isTrue c env (eval c env);pure (ForInStep.yield ok) else pure (ForInStep.yield r)) (fun ok s₃=>
      if ok=true then wpAny (model prog w) A (eval elt env) (fun x s₄=>
       wpAny (model prog w) A (call (.builtin "list.append") [acc,x]) (fun _ s₅=>∃ m,m<n∧I m s₅) noX s₄) noX s₃
      else ∃ m,m<n∧I m s₃) noX s₂) noX s₁) noX s₁) noX s)
  (n:Nat) (h:I n s) :
  codeAny (model prog w) A (.compLoop (.ListComp elt [⟨target,iter,ifs,0⟩] scope pos) 0 it acc env) R s:=by
 refine codeAny_loop rfl I (fun n s hI=>?_) n h
 show wpAny _ A ((compTurn (.ListComp elt [⟨target,iter,ifs,0⟩] scope pos) 0 it acc env).onRaise (fun x=>do noteFrame x env;theTreesLotGoes x)) _ _ s
 refine wpAny_noted ?_
 rw [compTurn_list]
 refine wpAny_bind (wpAny_standAt (wpAny_bind (wpAny_mono (turn n s hI) (fun r s₁ h₁=>?_) fun _ _ h'=>h'.elim)))
 cases r with
 | none=>exact wpAny_pure h₁
 | some v=>
  refine wpAny_bind (wpAny_mono h₁ (fun _ s₁ h₁=>?_) fun _ _ h'=>h'.elim)
  refine wpAny_bind (wpAny_mono h₁ (fun _ s₂ h₂=>wpAny_bind (wpAny_mono h₂ (fun ok s₃ h₃=>?_) fun _ _ h'=>h'.elim)) fun _ _ h'=>h'.elim)
  cases ok with
  | false=>exact wpAny_pure ⟨rfl,h₃⟩
  | true=>
   exact wpAny_bind (wpAny_bind (wpAny_mono h₃ (fun x s₄ h₄=>wpAny_bind (wpAny_mono h₄ (fun _ s₅ h₅=>wpAny_pure (wpAny_pure ⟨rfl,h₅⟩)) fun _ _ h'=>h'.elim)) fun _ _ h'=>h'.elim))
section
variable {X:Cx} {pins:List (Addr × Obj)} {σ:St} {H:Hp} {s:Shared}
theorem Inv.other {h':Heap} {L:Addr} {n:Nat} (I:Inv X pins σ H s) (hb:X.s₀.heap.objs.size≤L) (h0:H L=none) (h1:L ≠ X.env.locals) (h2:∀ x c,X.env.cells.lookup x=some c→c ≠ L) (h3:∀ p ∈ X.pn++pins,p.1 ≠ L)
  (k:Heap.SameBut L s.heap h'):Inv X pins σ H { s with heap:=h' }:=
 I.turned (t':=s.toks) (fun b o hb e=>(k.2 b hb).trans e) h0 h1 (.inr hb) h2 h3
theorem lc_ok {scope:Scope} {own:List Str} {fv:List Nat} {fp:List Addr} (I:Inv X pins σ H s) (S:LcScope X scope own fv) (hf:∀ b ∈ fp,FpOk X pins H b) (hsz:∀ b ∈ fp,b<s.heap.objs.size) :
  (lcCx X scope own fv ⟨s.heap.objs.size,closL X.env scope.names [],fp,s,H⟩).Ok:=by
 have hfr:∀ x,(x,NameKind.free) ∈ scope.names→∃ c,X.env.cells.lookup x=some c:=fun x hx=>I.ok.has x (S.free _ hx rfl)
 have sub:=closL_sub (env:=X.env) (names:=scope.names) (acc:=[]) hfr (fun x c z=>by simp at z)
 refine ⟨I.ok.mod,S.kind,I.ok.glob,I.ok.blt,Nat.le_refl _,fun x y c h1 h2=>I.ok.inj x y c (sub _ _ h1) (sub _ _ h2),fun x hx=>?_,fun x c hx=>?_,I.ok.hd,I.ok.frames,.inl rfl,fun b hb=>⟨?_,fun x c e=>?_⟩,I.bs,Nat.le_trans I.ok.bsz I.sz,fun b o e hb=>?_,fun b hb hb'=>?_,I.stack,I.stkFree⟩
 ·refine closL_has (.inl ?_)
  have hx':(relabel scope X.env).names.lookup x=some .cell∨(relabel scope X.env).names.lookup x=some .free:=hx
  unfold relabel at hx'
  rw [qB9] at hx'
  cases e:scope.names.lookup x with
  | none=>rw [e] at hx';simp at hx'
  | some k=>
   have hm:=PySem.mem_of_lookup e
   have nc:=S.nocell _ hm
   rw [e] at hx'
   simp only [Option.map_some,Option.some.injEq] at hx'
   cases k with
   | free=>exact hm
   | cell=>exact absurd rfl nc
   | _=>simp at hx'
 ·cases hx
 ·exact Nat.ne_of_lt (hsz b hb)
 ·exact (hf b hb).2.2.2.2.1 x c (sub _ _ e)
 ·rcases (hf b hb).2.2.2.1 with z | z
  ·exact I.ok.noex b o e z
  ·exact absurd (Nat.lt_of_lt_of_le (Heap.lt_size (I.ok.bs b o e).1) z) (Nat.lt_irrefl _)
 ·rcases List.mem_cons.mp (I.stkSub b hb') with z | z
  ·exact (hf b hb).2.1 z
  ·exact (hf b hb).2.2.1 z
theorem lc_start {scope:Scope} {own:List Str} {fv:List Nat} {fp:List Addr} {h₁:Heap} {tk:Nat} (I:Inv X pins σ H s) (S:LcScope X scope own fv) (hf:∀ b ∈ fp,FpOk X pins H b) (hsz:∀ b ∈ fp,b<s.heap.objs.size)
  (hns:h₁.Ns s.heap.objs.size (fun _=>none)) (hk:∀ b o,s.heap.get? b=some o→h₁.get? b=some o) :
  Inv (lcCx X scope own fv ⟨s.heap.objs.size,closL X.env scope.names [],fp,s,H⟩) [] (lcStart own fv σ) H { s with heap:=h₁,toks:=tk }:=by
 have hfr:∀ x,(x,NameKind.free) ∈ scope.names→∃ c,X.env.cells.lookup x=some c:=fun x hx=>I.ok.has x (S.free _ hx rfl)
 have sub:=closL_sub (env:=X.env) (names:=scope.names) (acc:=[]) hfr (fun x c z=>by simp at z)
 refine ⟨lc_ok I S hf hsz,rfl,I.bare,Un.kept hk,⟨_,hns,fun i x v h1 h2 h3=>?_⟩,fun x c e=>?_,I.hok.fresh (Nat.le_refl _),fun x c e=>I.freeC x c (sub _ _ e),fun p hp=>absurd (show p ∈ ([]:List (Addr × Obj)) from hp) (by simp),I.hok.kept hk,?_⟩
 ·have h1:(own++fv.map fun i=>X.N.getD i Str.empty)[i]?=some x:=h1
  unfold lcStart at h2
  have hi:own.length≤i:=by
   apply Nat.le_of_not_lt
   intro hi
   rw [List.getElem?_append_left (by simpa using hi),List.getElem?_map] at h2
   cases e:own[i]? with
   | none=>rw [e] at h2;cases h2
   | some z=>rw [e] at h2;cases h2
  rw [List.getElem?_append_right (by simpa using hi),List.length_map,List.getElem?_map] at h2
  rw [List.getElem?_append_right hi,List.getElem?_map] at h1
  cases e:fv[i - own.length]? with
  | none=>rw [e] at h1;cases h1
  | some j=>
   rw [e] at h1 h2
   have hj:=S.fvs j (List.mem_of_getElem? e)
   have h1:X.N.getD j Str.empty=x:=Option.some.inj h1
   have h2:(σ[j]?).join=some v:=Option.some.inj h2
   have h2':σ[j]?=some (some v):=by
    cases q:σ[j]? with
    | none=>rw [q] at h2;cases h2
    | some y=>rw [q] at h2;exact congrArg some h2
   have hx:X.N[j]?=some x:=by
    rw [List.getD_eq_getElem?_getD] at h1
    rw [List.getElem?_eq_getElem hj.1] at h1 ⊢
    exact congrArg some h1
   have hlk:scope.names.lookup x=some .free:=h1 ▸ hj.2
   have hmem:=PySem.mem_of_lookup hlk
   obtain ⟨m,hn,hl⟩:=id I.loc
   have hkd:=S.free _ hmem rfl
   obtain ⟨u,ru,lk⟩:=hl j x v hx h2' (by
    rcases hkd with z | z
    ·exact .inr (.inl z)
    ·exact .inr (.inr z))
   refine ⟨u,ru,?_⟩
   rcases lk with ⟨z,_⟩ | ⟨_,c,e1,z⟩
   ·rcases hkd with y | y
    ·have y':X.env.kindOf x=some .cell:=y
     rw [z] at y';cases y'
    ·have y':X.env.kindOf x=some .free:=y
     rw [z] at y';cases y'
   ·obtain ⟨c',e2⟩:=closL_has (env:=X.env) (names:=scope.names) (acc:=[]) (x:=x) (.inl hmem)
    have e3:=sub _ _ e2
    rw [e1] at e3
    cases e3
    obtain ⟨o,ho,hd⟩:=z
    refine .inr ⟨?_,c,e2,o,hk _ _ ho,hd⟩
    show (relabel scope X.env).names.lookup x=some .cell∨(relabel scope X.env).names.lookup x=some .free
    unfold relabel
    rw [qB9,hlk,Option.map_some]
    split
    ·exact .inl rfl
    ·exact .inr rfl
 ·obtain ⟨v,o,ho,hd⟩:=I.cell x c (sub _ _ e)
  exact ⟨v,o,hk _ _ ho,hd⟩
 ·unfold lcStart
  show _=(own++fv.map fun i=>X.N.getD i Str.empty).length
  rw [List.length_append,List.length_append,List.length_map,List.length_map,List.length_map]
theorem lc_back {scope:Scope} {own:List Str} {fv:List Nat} {fp:List Addr} {pins':List (Addr × Obj)} {σ':St} {H':Hp} {s':Shared} {cl:List (Str × Addr)} (I:Inv X pins σ H s) (hf:∀ b ∈ fp,FpOk X pins H b)
  (J:Inv (lcCx X scope own fv ⟨s.heap.objs.size,cl,fp,s,H⟩) pins' σ' H' s'):Inv X pins σ H' s':=
 I.call' (ch:=fp) J.os J.base J.hok J.bare fun b hb=>⟨(hf b hb).2.2.2.1,(hf b hb).2.1,(hf b hb).2.2.2.2.1,(hf b hb).2.2.2.2.2⟩
end
def PTs (X:Cx) (ifs:List Expr) (t:TT):Prop:=
 ∀ (pins:List (Addr × Obj)) (s:Shared) (σ:St) (H:Hp) (Q:Bool→Hp→Prop),Inv X pins σ H s→t σ H Q→
  wpAny (model X.prog X.w) X.A (forIn ifs true fun c r=>if r=true then do let ok ← isTrue c X.env (eval c X.env);pure (ForInStep.yield ok) else pure (ForInStep.yield r)) (TP X pins σ Q) X.xe s
def tTrue:TT:=fun _ H Q=>Q true H
theorem qBC {X:Cx}:PTs X [] tTrue:=fun pins s σ H Q I h=>wpAny_tests_nil ⟨H,I,h⟩
theorem qBO {X:Cx} {c:Expr} {t:TT} (h:PT X c t):PTs X [c] t:=fun pins s σ H Q I hq=>wpAny_tests_one (h pins s σ H Q I hq)
def lcRun (own:List Str) (fv:List Nat) (wi:TI) (g:TG) (tc:TT) (te:TE) (K:Addr→Hp→Prop):St→Hp→Prop:=fun σ H=>wi σ H fun J H1=>∀ p,H1 p=none→
 ∃ W:Nat→Nat→St→Hp→Prop,(∃ m,W 0 m (lcStart own fv σ) (upd H1 p (.lst [])))∧∀ i m σ H,W i m σ H→
  (J.stop i H∧K p H)∨(J.go i H∧∃ N:St→Hp→Prop,(∀ σ' H',N σ' H'→∃ m',m'<m∧W (i+1) m' σ' H')∧∀ x H',J.yld i H x H'→g x σ H' fun σ2 H2=>tc σ2 H2 fun b H3=>
   if b=true then te σ2 H3 fun y H4=>∃ ys,H4 p=some (.lst ys)∧ys.length<sizeLine∧N σ2 (upd H4 p (.lst (ys++[y])))
   else N σ2 H3)
def tLc (own:List Str) (fv:List Nat) (wi:TI) (g:TG) (tc:TT) (te:TE):TE:=fun σ H Q=>lcRun own fv wi g tc te (fun p H'=>Q (.ref p) H') σ H
section
variable {X:Cx} {tg iter elt:Expr} {ifs:List Expr} {scope:Scope} {pos:Pos} {own:List Str} {fv:List Nat} {wi:TI} {g:TG} {tc:TT} {te:TE}
theorem lc_core {pins:List (Addr × Obj)} {s:Shared} {σ:St} {H:Hp} {K:Addr→Hp→Prop} {use:Option (Value→Sem Unit)} {Q:Value→Shared→Prop} {E:Value→Shared→Prop} (hc:X.calm=true) (S:LcScope X scope own fv) (hi:PI X tg iter wi)
  (hg:∀ z,PG (lcCx X scope own fv z) tg g) (ht:∀ z,PTs (lcCx X scope own fv z) ifs tc) (he:∀ z,PE (lcCx X scope own fv z) elt te)
  (I:Inv X pins σ H s) (h:lcRun own fv wi g tc te K σ H) (hxe:∀ e s,X.xe e s→E e s)
  (fin:∀ (p:Addr) (L:Addr) (H':Hp) (s':Shared) (m:Str→Option Value),Inv X pins σ H' s'→K p H'→s'.heap.Ns L m→X.s₀.heap.objs.size≤L→H' L=none→L ≠ X.env.locals→(∀ x c,X.env.cells.lookup x=some c→c ≠ L)→(∀ q ∈ X.pn++pins,q.1 ≠ L)→
   compPost (model X.prog X.w) X.A E use Q (.ref p) L (.ok .next) s') (hs:∀ x,foldedSetIterable iter X.env x=pure x:=by intro _;rfl) :
  wpAny (model X.prog X.w) X.A (comprehension (.ListComp elt [⟨tg,iter,ifs,0⟩] scope pos) scope X.env (firstIterPos [⟨tg,iter,ifs,0⟩] pos) (newList []) false (eval iter X.env) use) Q E s:=by
 have hfr:∀ x,(x,NameKind.free) ∈ scope.names→∃ c,X.env.cells.lookup x=some c:=fun x hx=>I.ok.has x (S.free _ hx rfl)
 refine wpAny_comprehension_free rfl hs (closure_ok hfr) S.kind S.names (wpAny_mono (hi pins s σ H _ I h) (fun v s1 h1=>wpAny_mono h1 (fun itv s2 h2=>?_) hxe) hxe)
 obtain ⟨it,fp,tn,J,H2,e,I2,T,st2,f2,q2⟩:=h2
 subst e
 -- the list
 refine wpAny_newObj_type ?_
 have fresh2:H2 s2.heap.objs.size=none:=I2.hok.fresh (Nat.le_refl _)
 have I3:Inv X pins σ (upd H2 s2.heap.objs.size (.lst [])) { s2 with heap:=s2.heap.push { cls:=.type "list",dict:=none,data:=.seq ([]:List Value).toArray } }:=
  I2.laid (t':=s2.toks) (fun b u e=>Heap.get?_push_of_some _ e) (Nat.le_refl _) ⟨Nat.zero_le _,[],0,.nil,Heap.get?_push_size _ rfl⟩
 obtain ⟨W,⟨m0,w0⟩,turn⟩:=q2 s2.heap.objs.size fresh2
 have lt2:∀ b ∈ fp,b<s2.heap.objs.size:=fun b hb=>by
  obtain ⟨o,e,_⟩:=T.obj 0 _ st2 b hb
  exact Heap.lt_size e
 have f3:∀ b ∈ fp,FpOk X pins (upd H2 s2.heap.objs.size (.lst [])) b:=fun b hb=>⟨by rw [qA8 (Nat.ne_of_lt (lt2 b hb))];exact (f2 b hb).1,(f2 b hb).2⟩
 generalize hp:s2.heap.objs.size=p at *
 generalize hH3:upd H2 p (.lst [])=H3 at *
 have st3:tn 0 (s2.heap.push { cls:=.type "list",dict:=none,data:=.seq ([]:List Value).toArray }):=T.keep _ _ _ st2 fun b _ o e=>Heap.get?_push_of_some _ e
 have lt3:∀ b ∈ fp,b<(s2.heap.push { cls:=.type "list",dict:=none,data:=.seq ([]:List Value).toArray }).objs.size:=fun b hb=>by
  rw [Heap.size_push]
  have:=lt2 b hb
  rw [hp]
  exact Nat.lt_succ_of_lt this
 generalize hs3:({ s2 with heap:=s2.heap.push { cls:=.type "list",dict:=none,data:=.seq ([]:List Value).toArray } }:Shared)=s3 at *
 have st3':tn 0 s3.heap:=by rw [← hs3];exact st3
 have lt3':∀ b ∈ fp,b<s3.heap.objs.size:=by rw [← hs3];exact lt3
 -- the block's frame
 refine wpAny_newFunctionEnv S.nocell (by intro y hy;simp at hy) (fun h₁ hns₁ hsb₁=>?_) S.kind
 have keep1:∀ b o,s3.heap.get? b=some o→h₁.get? b=some o:=fun b o e=>hsb₁.extBut b o (Nat.ne_of_lt (Heap.lt_size e)) (Heap.get?_push_of_some _ e)
 have J0:Inv (lcCx X scope own fv ⟨s3.heap.objs.size,closL X.env scope.names [],fp,s3,H3⟩) [] (lcStart own fv σ) H3 { s3 with heap:=h₁,toks:=s3.toks+([]:List (Str × Value)).length }:=lc_start I3 S f3 lt3' hns₁ keep1
 have cOk:=lc_ok I3 S f3 lt3'
 generalize hz:(⟨s3.heap.objs.size,closL X.env scope.names [],fp,s3,H3⟩:LcZ)=z at *
 have st4:tn 0 h₁:=T.keep _ _ _ st3' fun b _ o e=>keep1 b o e
 have fr4:∀ b ∈ fp,H3 b=none:=fun b hb=>(f3 b hb).1
 have stat:∀ {H':Hp},(∀ b ∈ fp,H' b=none)→∀ b ∈ fp,FpOk (lcCx X scope own fv z) [] H' b:=fun hn b hb=>by
  subst hz
  refine ⟨hn b hb,(cOk.exf b hb).1,cOk.exfs b hb,.inl hb,(cOk.exf b hb).2,fun q hq=>absurd (show q ∈ ([]:List (Addr × Obj)) from hq) (by simp)⟩
 have envE:({ newEnv scope s3.heap.objs.size X.env.globals (closL X.env scope.names []) X.env.qual none .none (some X.env) builtinsNs with scope:=relabel scope X.env }:Env)=(lcCx X scope own fv z).env:=by
  subst hz
  rfl
 have loop:∀ sA:Shared,sA={ s3 with heap:=h₁,toks:=s3.toks+([]:List (Str × Value)).length }→codeAny (model X.prog X.w) X.A (.compLoop (.ListComp elt [⟨tg,iter,ifs,0⟩] scope pos) 0 (.ref it) (.ref p) (lcCx X scope own fv z).env)
   (compPost (model X.prog X.w) X.A E use Q (.ref p) s3.heap.objs.size) sA:=by
  rintro sA rfl
  refine compLoop_any (fun n s'=>∃ i σ' H',Inv (lcCx X scope own fv z) [] σ' H' s'∧tn i s'.heap∧(∀ b ∈ fp,H' b=none)∧W i n σ' H') ?_ m0 ⟨0,_,H3,J0,st4,fr4,w0⟩
  rintro n s4 ⟨i,σ4,H4,I4,st4,fr4,w4⟩
  rcases turn i n σ4 H4 w4 with ⟨stop,qn⟩ | ⟨go,Nx,hNx,step⟩
  ·refine thn (T.done (lcCx X scope own fv z) rfl rfl rfl hc i [] s4 σ4 H4 noX I4 (stat fr4) st4 stop) fun r s5 ⟨hr,I5⟩=>?_
   subst hr
   subst hz
   have I6:Inv X pins σ H4 s5:=lc_back I3 f3 I5
   obtain ⟨m,hn,_⟩:=id I5.loc
   have fpL:=I3.fpOk (H':=H4) (b:=s3.heap.objs.size) (Nat.le_refl _) I5.free
   refine fin p s3.heap.objs.size H4 s5 m I6 qn hn I3.sz fpL.1 fpL.2.1 fpL.2.2.2.2.1 fpL.2.2.2.2.2
  ·refine thn (T.item (lcCx X scope own fv z) rfl rfl rfl hc i [] s4 σ4 H4 noX I4 (stat fr4) st4 go) fun r s5 ⟨u,hr,h5⟩=>?_
   subst hr
   refine thn h5 fun _ s6 ⟨x,H6,I6,r6,y6,st6,fr6⟩=>?_
   have I6':=I6.pinned (stat fr6) (T.obj _ _ st6)
   have again:∀ {σ7:St} {H7:Hp} {s7:Shared} {m':Nat},m'<n→Inv (lcCx X scope own fv z) ([]++pinsAt fp s6.heap) σ7 H7 s7→W (i+1) m' σ7 H7→
     ∃ m,m<n∧∃ i σ' H',Inv (lcCx X scope own fv z) [] σ' H' s7∧tn i s7.heap∧(∀ b ∈ fp,H' b=none)∧W i m σ' H':=fun {σ7 H7 s7 m'} hm I7 w7=>by
    refine ⟨m',hm,i+1,σ7,H7,I7.unpinned,T.keep _ _ _ st6 fun b hb o e=>(I7.pin (b,o) (List.mem_append_right _ (List.mem_append_right _ (qBV hb e)))).1,fun b hb=>?_,w7⟩
    obtain ⟨o,e,d⟩:=T.obj _ _ st6 b hb
    exact (I7.pin (b,o) (List.mem_append_right _ (List.mem_append_right _ (qBV hb e)))).2.1
   refine thn (hg z _ s6 σ4 H6 x u _ I6' r6 (step x H6 y6)) fun _ s7 ⟨σ7,H7,I7,q7⟩=>?_
   refine thn (ht z _ s7 σ7 H7 _ I7 q7) fun b s8 ⟨H8,I8,q8⟩=>?_
   cases b with
   | false=>
    obtain ⟨m',hm,w8⟩:=hNx _ _ q8
    exact again hm I8 w8
   | true=>
    refine thn (he z _ s8 σ7 H8 _ I8 q8) fun v s9 ⟨y,H9,I9,r9,ys,ep,hl,w9⟩=>?_
    refine thn (qAZ (X:=lcCx X scope own fv z) _ s9 σ7 H9 (.ref p) [y] (.ref p) [v] (fun _ H'=>Nx σ7 H') I9 rfl (.cons r9 .nil) ⟨p,ys,y,rfl,rfl,ep,hl,w9⟩) fun _ s10 ⟨_,H10,I10,_,q10⟩=>?_
    obtain ⟨m',hm,w10⟩:=hNx _ _ q10
    exact again hm I10 w10
 rw [envE]
 exact codeAny_compStart_list (loop _ rfl) (T.self _ _ _ _ _ st4 (loop _ rfl))
theorem pe_lc (hc:X.calm=true) (S:LcScope X scope own fv) (hi:PI X tg iter wi) (hg:∀ z,PG (lcCx X scope own fv z) tg g) (ht:∀ z,PTs (lcCx X scope own fv z) ifs tc) (he:∀ z,PE (lcCx X scope own fv z) elt te)
  (hs:∀ x,foldedSetIterable iter X.env x=pure x:=by intro _;rfl):PE X (.ListComp elt [⟨tg,iter,ifs,0⟩] scope pos) (tLc own fv wi g tc te):=by
 intro pins s σ H Q I h
 rw [eval_ListComp]
 refine lc_core (use:=none) (K:=fun p H'=>Q (.ref p) H') hc S hi hg ht he I h (fun _ _ q=>q) (fun p L H' s' m I' q hn h1 h2 h3 h4 h5=>?_) hs
 exact ⟨m,hn,fun h' hs'=>⟨.ref p,H',I'.other (n:=0) h1 h2 h3 h4 h5 hs',rfl,q⟩⟩
theorem ps_lc {i:Nat} {x:Str} {pos' spos:Pos} (hN:X.N.Nodup) (hx:X.N[i]?=some x) (hl:X.env.scope.names.lookup x=some .local) (hc:X.calm=true) (S:LcScope X scope own fv) (hi:PI X tg iter wi) (hg:∀ z,PG (lcCx X scope own fv z) tg g)
  (ht:∀ z,PTs (lcCx X scope own fv z) ifs tc) (he:∀ z,PE (lcCx X scope own fv z) elt te) (hsw:swapsWith (.ListComp elt [⟨tg,iter,ifs,0⟩] scope pos) (some (.Name x pos')) spos.line X.env=pure true)
  (hs:∀ x,foldedSetIterable iter X.env x=pure x:=by intro _;rfl):PS X (.Assign [.Name x pos'] (.ListComp elt [⟨tg,iter,ifs,0⟩] scope pos) spos) (tAsg (tLc own fv wi g tc te) (gName i)):=by
 intro pins s σ H D I h
 rw [exec_Assign_Name_used _ _ _ _ hsw]
 refine wpAny_bind (wpAny_standAt (wpAny_bind ?_))
 show wpAny _ X.A (do let _ ← comprehension (.ListComp elt [⟨tg,iter,ifs,0⟩] scope pos) scope X.env _ (newList []) false (eval iter X.env) (some (assign (.Name x pos') X.env))) _ _ s
 refine wpAny_bind (wpAny_mono (lc_core (use:=some (assign (.Name x pos') X.env)) (K:=fun p H'=>D.nx (σ.set i (some (.ref p))) H') (Q:=fun _ s'=>SP X pins D .next s') (E:=X.xe) hc S hi hg ht he I h (fun _ _ q=>q) (fun p L H' s' m I' q hn h1 h2 h3 h4 h5=>?_) hs)
  (fun _ s' hq=>wpAny_pure (wpAny_pure hq)) fun _ _ e=>e)
 show wpAny _ X.A (assign (.Name x pos') X.env (.ref p)) _ _ _
 refine wpAny_assign_Name (store_ok2 (v:=.ref p) I' hN hx (.inl hl) rfl (fun s2 I2 ⟨a,hsb,ha⟩=>?_) (.inr hl))
 have hLa:L ≠ a:=by
  rcases ha with z | z
  ·rw [z];exact h3
  ·exact fun y=>h4 x a z y.symm
 exact ⟨m,hn.sameBut hsb hLa,fun h' hs'=>⟨_,H',I2.other (n:=0) h1 h2 h3 h4 h5 hs',q⟩⟩
end
theorem qC6 {lo:Int} {n:Nat} {g:TG} {tc:TT} {te:TE} {Kf:Hp→Prop} {σ0:St} {H0:Hp} {p:Addr} (Pv:Nat→St→Hp→Prop) (h0:Pv 0 σ0 H0)
  (hs:∀ i σ H,i<n→Pv i σ H→g (.int (lo+i)) σ H fun σ2 H2=>tc σ2 H2 fun b H3=>if b=true then te σ2 H3 fun y H4=>∃ ys,H4 p=some (.lst ys)∧ys.length<sizeLine∧Pv (i+1) σ2 (upd H4 p (.lst (ys++[y]))) else Pv (i+1) σ2 H3)
  (hd:∀ σ H,Pv n σ H→Kf H) :
  ∃ W:Nat→Nat→St→Hp→Prop,(∃ m,W 0 m σ0 H0)∧∀ i m σ H,W i m σ H→
   ((Itr lo n).stop i H∧Kf H)∨((Itr lo n).go i H∧∃ N:St→Hp→Prop,(∀ σ' H',N σ' H'→∃ m',m'<m∧W (i+1) m' σ' H')∧∀ x H',(Itr lo n).yld i H x H'→g x σ H' fun σ2 H2=>tc σ2 H2 fun b H3=>
    if b=true then te σ2 H3 fun y H4=>∃ ys,H4 p=some (.lst ys)∧ys.length<sizeLine∧N σ2 (upd H4 p (.lst (ys++[y]))) else N σ2 H3):=by
 refine ⟨fun i m σ H=>m=n - i∧i≤n∧Pv i σ H,⟨n,by simp,Nat.zero_le _,h0⟩,?_⟩
 rintro i m σ H ⟨rfl,hi,q⟩
 by_cases hlt:i<n
 ·refine .inr ⟨hlt,Pv (i+1),fun σ' H' p'=>⟨n - (i+1),by omega,rfl,hlt,p'⟩,fun x H' y=>?_⟩
  obtain ⟨e,y⟩:=y
  subst e y
  exact hs i σ _ hlt q
 ·have e:i=n:=by omega
  subst e
  exact .inl ⟨Nat.le_refl _,hd σ H q⟩
theorem lc_list {K:PySem.W.Frag} {a:Addr} {xs:List V} {g:TG} {tc:TT} {te:TE} {Kf:Hp→Prop} {σ0:St} {H0:Hp} {p:Addr} (Pv:Nat→St→Hp→Prop) (h0:Pv 0 σ0 H0) (hl:∀ i σ H,i≤xs.length→Pv i σ H→SqL K H a xs)
  (hs:∀ i x σ H,xs[i]?=some x→Pv i σ H→g x σ H fun σ2 H2=>tc σ2 H2 fun b H3=>if b=true then te σ2 H3 fun y H4=>∃ ys,H4 p=some (.lst ys)∧ys.length<sizeLine∧Pv (i+1) σ2 (upd H4 p (.lst (ys++[y]))) else Pv (i+1) σ2 H3)
  (hd:∀ σ H,Pv xs.length σ H→Kf H) :
  ∃ W:Nat→Nat→St→Hp→Prop,(∃ m,W 0 m σ0 H0)∧∀ i m σ H,W i m σ H→
   ((Itl K a).stop i H∧Kf H)∨((Itl K a).go i H∧∃ N:St→Hp→Prop,(∀ σ' H',N σ' H'→∃ m',m'<m∧W (i+1) m' σ' H')∧∀ x H',(Itl K a).yld i H x H'→g x σ H' fun σ2 H2=>tc σ2 H2 fun b H3=>
    if b=true then te σ2 H3 fun y H4=>∃ ys,H4 p=some (.lst ys)∧ys.length<sizeLine∧N σ2 (upd H4 p (.lst (ys++[y]))) else N σ2 H3):=by
 refine ⟨fun i m σ H=>m=xs.length - i∧i≤xs.length∧Pv i σ H,⟨xs.length,by simp,Nat.zero_le _,h0⟩,?_⟩
 rintro i m σ H ⟨rfl,hi,q⟩
 have hq:=hl i σ H hi q
 by_cases hlt:i<xs.length
 ·refine .inr ⟨⟨xs,xs[i],hq,by simp [hlt]⟩,Pv (i+1),fun σ' H' p'=>⟨xs.length - (i+1),by omega,rfl,hlt,p'⟩,fun x H' y=>?_⟩
  obtain ⟨e,y⟩:=y
  subst e
  exact hs i x σ _ (y xs hq) q
 ·have e:i=xs.length:=by omega
  subst e
  exact .inl ⟨⟨xs,hq,Nat.le_refl _⟩,hd σ H q⟩
theorem qD3 {K:PySem.W.Frag} {a:Addr} {xs:List V} {g:TG} {tc:TT} {te:TE} {Kf:Hp→Prop} {σ0:St} {H0:Hp} {p:Addr} (Pv:Nat→St→Hp→Prop) (h0:Pv 0 σ0 H0) (hl:∀ i σ H,i≤xs.length→Pv i σ H→SqT K H a xs)
  (hs:∀ i x σ H,xs[i]?=some x→Pv i σ H→g x σ H fun σ2 H2=>tc σ2 H2 fun b H3=>if b=true then te σ2 H3 fun y H4=>∃ ys,H4 p=some (.lst ys)∧ys.length<sizeLine∧Pv (i+1) σ2 (upd H4 p (.lst (ys++[y]))) else Pv (i+1) σ2 H3)
  (hd:∀ σ H,Pv xs.length σ H→Kf H) :
  ∃ W:Nat→Nat→St→Hp→Prop,(∃ m,W 0 m σ0 H0)∧∀ i m σ H,W i m σ H→
   ((Itt K a).stop i H∧Kf H)∨((Itt K a).go i H∧∃ N:St→Hp→Prop,(∀ σ' H',N σ' H'→∃ m',m'<m∧W (i+1) m' σ' H')∧∀ x H',(Itt K a).yld i H x H'→g x σ H' fun σ2 H2=>tc σ2 H2 fun b H3=>
    if b=true then te σ2 H3 fun y H4=>∃ ys,H4 p=some (.lst ys)∧ys.length<sizeLine∧N σ2 (upd H4 p (.lst (ys++[y]))) else N σ2 H3):=by
 refine ⟨fun i m σ H=>m=xs.length - i∧i≤xs.length∧Pv i σ H,⟨xs.length,by simp,Nat.zero_le _,h0⟩,?_⟩
 rintro i m σ H ⟨rfl,hi,q⟩
 have hq:=hl i σ H hi q
 by_cases hlt:i<xs.length
 ·refine .inr ⟨⟨xs,xs[i],hq,by simp [hlt]⟩,Pv (i+1),fun σ' H' p'=>⟨xs.length - (i+1),by omega,rfl,hlt,p'⟩,fun x H' y=>?_⟩
  obtain ⟨e,y⟩:=y
  subst e
  exact hs i x σ _ (y xs hq) q
 ·have e:i=xs.length:=by omega
  subst e
  exact .inl ⟨⟨xs,hq,Nat.le_refl _⟩,hd σ H q⟩
def lcCheck (scope:Scope) (own:List Str) (fv:List Nat) (osc:Scope) (N:List Str):Bool:=
 decide (scope.kind=.function) && scope.names.all (fun y=>decide (y.2 ≠ .cell)) && scope.names.all (fun y=>decide (y.2 ≠ .local) || decide (scope.names.lookup y.1=some .local)) &&
 scope.names.all (fun y=>decide (y.2 ≠ .free) || (decide (osc.names.lookup y.1=some .cell) || decide (osc.names.lookup y.1=some .free))) && decide ((own++fv.map fun i=>N.getD i Str.empty).Nodup) &&
 fv.all fun i=>decide (i<N.length) && decide (scope.names.lookup (N.getD i Str.empty)=some .free)
theorem lcs {X:Cx} {scope:Scope} {own:List Str} {fv:List Nat} (h:lcCheck scope own fv X.env.scope X.N=true):LcScope X scope own fv:=by
 unfold lcCheck at h
 simp only [Bool.and_eq_true,decide_eq_true_eq,List.all_eq_true,Bool.or_eq_true] at h
 obtain ⟨⟨⟨⟨⟨h1,h2⟩,h3⟩,h4⟩,h5⟩,h6⟩:=h
 exact ⟨h1,h2,fun y hy e=>(h3 y hy).resolve_left fun z=>z e,fun y hy e=>(h4 y hy).resolve_left fun z=>z e,h5,h6⟩
theorem nd_of {N:List Str} (h:decide N.Nodup=true):N.Nodup:=of_decide_eq_true h
theorem pg_tupK {X:Cx} {K:PySem.W.Frag} {es:List Expr} {k n:Nat} {t:TGs} {pos:Pos} (hK:X.K=K) (hc:X.calm=true) (h:PGs X es t) (hn:(assignEach es X.env).length=n) (hst:(assignEach es X.env).findIdx? (·.1)=none):PG X (.Tuple es k pos) (gTup K n t):=by
 subst hK hn
 exact qCJ hc h rfl hst
theorem pi_tupK {X:Cx} {K:PySem.W.Frag} {tg l:Expr} {tl:TE} (hK:X.K=K) (hl:PE X l tl):PI X tg l (iTup K tl):=by subst hK;exact qCB hl
theorem pi_listK {X:Cx} {K:PySem.W.Frag} {tg l:Expr} {tl:TE} (hK:X.K=K) (hl:PE X l tl):PI X tg l (iList K tl):=by subst hK;exact qB8 hl
theorem qBX {X:Cx} {K:PySem.W.Frag} (hK:X.K=K):IxR X (rIxT K):=by subst hK;exact qAW
theorem ix_listK {X:Cx} {K:PySem.W.Frag} (hK:X.K=K):IxR X (rIxL K):=by subst hK;exact qAR
theorem op_inK {X:Cx} {K:PySem.W.Frag} (hK:X.K=K):OpR X (compareOp .In) (rIn K false):=by subst hK;exact qCD
theorem op_notInK {X:Cx} {K:PySem.W.Frag} (hK:X.K=K):OpR X (compareOp .NotIn) (rIn K true):=by subst hK;exact qCR
theorem call_lenK {X:Cx} {K:PySem.W.Frag} (hK:X.K=K):CallR X (.builtin "len") (fun xs H Q=>∃ p ys,xs=[.ref p]∧(SqL K H p ys∨SqT K H p ys)∧Q (.int ys.length) H):=by subst hK;exact qAA
theorem call_tupleK {X:Cx} {K:PySem.W.Frag} (hK:X.K=K):CallR X (.type "tuple") (fun xs H Q=>∃ p ys,xs=[.ref p]∧((SqL K H p ys∧∀ l,H l=none→Q (.ref l) (upd H l (.tup ys)))∨(SqT K H p ys∧Q (.ref p) H))):=by subst hK;exact qAJ
end L2
namespace L2
open PySem PySem.Spec PyProof.Rows
theorem below_go {xs:Array Nat} {j:Nat} (up:∀ a b,a<b→b<xs.size→xs.getD a j<xs.getD b j):∀ (fuel lo hi:Nat),lo≤hi→hi≤xs.size→hi - lo≤fuel→(∀ i,i<lo→xs.getD i j<j)→(∀ i,hi≤i→i<xs.size→j≤xs.getD i j)→
  SetTable.below.go xs j fuel lo hi≤xs.size∧(∀ i,i<SetTable.below.go xs j fuel lo hi→xs.getD i j<j)∧(∀ i,SetTable.below.go xs j fuel lo hi≤i→i<xs.size→j≤xs.getD i j)
 | 0,lo,hi,h1,h2,h3,a,b=>by
  have e:lo=hi:=by omega
  subst e
  exact ⟨h2,a,b⟩
 | fuel+1,lo,hi,h1,h2,h3,a,b=>by
  unfold SetTable.below.go
  by_cases hlt:lo<hi
  ·rw [if_pos hlt]
   dsimp only
   have hm1:lo≤(lo+hi) / 2:=by omega
   have hm2:(lo+hi) / 2<hi:=by omega
   by_cases hc:xs.getD ((lo+hi) / 2) j<j
   ·rw [if_pos hc]
    refine below_go up fuel _ _ (by omega) h2 (by omega) (fun i hi'=>?_) b
    by_cases e:i=(lo+hi) / 2
    ·rw [e];exact hc
    ·exact Nat.lt_trans (up i ((lo+hi) / 2) (by omega) (by omega)) hc
   ·rw [if_neg hc]
    refine below_go up fuel _ _ (by omega) (by omega) (by omega) a (fun i hi' hs=>?_)
    by_cases e:i=(lo+hi) / 2
    ·rw [e];omega
    ·have:=up ((lo+hi) / 2) i (by omega) hs
     omega
  ·rw [if_neg hlt]
   have e:lo=hi:=by omega
   subst e
   exact ⟨h2,a,b⟩
theorem up_of {xs:Array Nat} (j:Nat) (h:xs.toList.Pairwise (·<·)):∀ a b,a<b→b<xs.size→xs.getD a j<xs.getD b j:=fun a b hab hb=>by
 have:=List.pairwise_iff_getElem.mp h a b (by simpa using Nat.lt_trans hab hb) (by simpa using hb) hab
 rw [Array.getD_eq_getD_getElem?,Array.getD_eq_getD_getElem?,Array.getElem?_eq_getElem (Nat.lt_trans hab hb),Array.getElem?_eq_getElem hb]
 simpa using this
theorem below_spec {xs:Array Nat} {j:Nat} (h:xs.toList.Pairwise (·<·)):SetTable.below xs j≤xs.size∧(∀ i,i<SetTable.below xs j→xs.getD i j<j)∧(∀ i,SetTable.below xs j≤i→i<xs.size→j≤xs.getD i j):=by
 unfold SetTable.below
 exact below_go (up_of j h) xs.size 0 xs.size (Nat.zero_le _) (Nat.le_refl _) (by omega) (fun i hi=>absurd hi (by omega)) (fun i hi hs=>absurd hs (by omega))
theorem qBE {α:Type} (xs:Array α) (p:Nat) (x:α):(SetTable.insertAt xs p x).toList=xs.toList.take p++x::xs.toList.drop p:=by
 unfold SetTable.insertAt
 simp [Array.toList_extract,List.take_of_length_le]
structure T7 (byText:Bool) (t:SetTable) (n:Nat):Prop where
 mask:t.mask=7
 dum:t.dummies=#[]
 plain:t.plain=true
 led:t.led=!byText
 size:t.place.size=n
 up:t.place.toList.Pairwise (·<·)
 le:∀ j ∈ t.place.toList,j≤7
section
variable {byText:Bool} {t:SetTable} {n:Nat}
theorem T7.slot (T:T7 byText t n) (j:Nat):(t.slot j=.empty∧j ∉ t.place.toList)∨(∃ i,t.slot j=.live i∧j ∈ t.place.toList):=by
 unfold SetTable.slot
 dsimp only
 have hd:SetTable.has t.dummies j=false:=by rw [T.dum];rfl
 obtain ⟨b1,b2,b3⟩:=below_spec (j:=j) T.up
 by_cases hc:t.place[SetTable.below t.place j]?=some j
 ·rw [if_pos (by rw [hc];simp)]
  exact .inr ⟨_,rfl,by rw [← Array.mem_def];exact Array.mem_of_getElem? hc⟩
 ·rw [if_neg (by simpa using hc),hd,if_neg (by simp)]
  refine .inl ⟨rfl,fun hm=>?_⟩
  obtain ⟨i,hi,he⟩:=List.mem_iff_getElem.mp hm
  have hi':i<t.place.size:=by simpa using hi
  have he':t.place.getD i j=j:=by
   rw [Array.getD_eq_getD_getElem?,Array.getElem?_eq_getElem hi']
   simpa using he
  have h1:¬ i<SetTable.below t.place j:=fun z=>by have:=b2 i z;omega
  have h2:SetTable.below t.place j=i:=by
   apply Nat.le_antisymm (Nat.le_of_not_lt h1)
   apply Nat.le_of_not_lt
   intro z
   have:=b3 (SetTable.below t.place j) (Nat.le_refl _) (by omega)
   have:=up_of j T.up _ _ z hi'
   omega
  apply hc
  rw [h2,Array.getElem?_eq_getElem hi']
  simpa using he
def pr (i pt:Nat):SetTable.Probe:={ j:=i,more:=0,i:=i,perturb:=pt,dummy:=none }
theorem T7.adv (T:T7 byText t n) (i pt:Nat):t.advance (pr i pt)=pr ((i * 5+1+pt / 32) % 8) (pt / 32):=by
 unfold SetTable.advance pr SetTable.leap SetTable.runEnd
 rw [T.mask]
 dsimp only
 rw [if_neg (by omega),if_neg (by omega),Nat.sub_self]
theorem T7.go1 (T:T7 byText t n) (h:Int) (f i pt:Nat) :
  (SetTable.probe.go t (fun _=>h+1) h (f+1) (pr i pt)=some (.empty i none)∧i ∉ t.place.toList)∨
  (SetTable.probe.go t (fun _=>h+1) h (f+1) (pr i pt)=SetTable.probe.go t (fun _=>h+1) h f (pr ((i * 5+1+pt / 32) % 8) (pt / 32))∧i ∈ t.place.toList):=by
 rcases T.slot i with ⟨e,m⟩ | ⟨k,e,m⟩
 ·left
  refine ⟨?_,m⟩
  unfold SetTable.probe.go
  rw [show (pr i pt).j=i from rfl,e]
  rfl
 ·right
  refine ⟨?_,m⟩
  rw [SetTable.probe.go]
  rw [show (pr i pt).j=i from rfl,e]
  dsimp only
  rw [if_neg (by simp;omega),T.adv]
def F8 (i:Nat):Nat:=(i * 5+1) % 8
def F8n:Nat→Nat→Nat
 | 0,i=>i
 | m+1,i=>F8n m (F8 i)
theorem T7.go0 (T:T7 byText t n) (h:Int) (f:Nat):∀ (m i:Nat),(∃ j,SetTable.probe.go t (fun _=>h+1) h (m+f) (pr i 0)=some (.empty j none)∧j ∉ t.place.toList∧∃ q,q<m∧j=F8n q i)∨(∀ q,q<m→F8n q i ∈ t.place.toList)
 | 0,i=>.inr fun q hq=>absurd hq (by omega)
 | m+1,i=>by
  rcases T.go1 h (m+f) i 0 with ⟨e,z⟩ | ⟨e,z⟩
  ·exact .inl ⟨i,by rw [show m+1+f=m+f+1 by omega];exact e,z,0,by omega,rfl⟩
  ·rw [show m+1+f=m+f+1 by omega,e]
   have e2:(i * 5+1+0 / 32) % 8=F8 i:=by unfold F8;omega
   rw [e2]
   rcases T.go0 h f m (F8 i) with ⟨j,e3,z3,q,hq,e4⟩ | e3
   ·exact .inl ⟨j,e3,z3,q+1,by omega,e4⟩
   ·refine .inr fun q hq=>?_
    cases q with
    | zero=>exact z
    | succ q=>exact e3 q (by omega)
theorem F8_all:∀ i:_root_.Fin 8,∀ j:_root_.Fin 8,∃ q:_root_.Fin 8,F8n q.1 i.1=j.1:=by decide
theorem F8_lt:∀ (q i:Nat),i<8→F8n q i<8
 | 0,i,h=>h
 | q+1,i,h=>F8_lt q (F8 i) (Nat.mod_lt _ (by decide))
theorem T7.goK (T:T7 byText t n) (hn:n≤7) (h:Int) (f:Nat):∀ (k i pt:Nat),i<8→pt<32 ^ k→∃ j,SetTable.probe.go t (fun _=>h+1) h (k+(8+f)) (pr i pt)=some (.empty j none)∧j ∉ t.place.toList∧j≤7
 | 0,i,pt,hi,hp=>by
  have e:pt=0:=by omega
  subst e
  rw [Nat.zero_add]
  rcases T.go0 h f 8 i with ⟨j,e,z,q,hq,e2⟩ | e
  ·exact ⟨j,e,z,by have:=F8_lt q i hi;omega⟩
  ·exfalso
   have sub:[0,1,2,3,4,5,6,7] ⊆ t.place.toList:=fun j hj=>by
    have hj8:j<8:=by
     simp at hj
     omega
    obtain ⟨q,hq⟩:=F8_all ⟨i,hi⟩ ⟨j,hj8⟩
    rw [← show F8n q.1 i=j from hq]
    exact e q.1 q.2
   have:=List.Nodup.length_le_of_subset (by decide:[0,1,2,3,4,5,6,7].Nodup) sub
   have hs:=T.size
   simp at this
   omega
 | k+1,i,pt,hi,hp=>by
  rw [show k+1+(8+f)=k+(8+f)+1 by omega]
  rcases T.go1 h (k+(8+f)) i pt with ⟨e,z⟩ | ⟨e,z⟩
  ·exact ⟨i,e,z,by omega⟩
  ·rw [e]
   refine T.goK hn h f k _ _ (Nat.mod_lt _ (by decide)) ?_
   rw [Nat.pow_succ] at hp
   omega
theorem T7.free (T:T7 byText t n) (hn:n≤7) (h:Int):∃ j,t.freeSlot h=some (j,false)∧j ∉ t.place.toList∧j≤7:=by
 have hb:SetTable.bits h<32 ^ 13:=by
  unfold SetTable.bits
  have h1:0≤h % (2 ^ 64:Int):=Int.emod_nonneg _ (by decide)
  have h2:h % (2 ^ 64:Int)<2 ^ 64:=Int.emod_lt_of_pos _ (by decide)
  have:((2:Int) ^ 64)=18446744073709551616:=by decide
  rw [this] at h1 h2 ⊢
  have h3:(32:Nat) ^ 13=36893488147419103232:=by decide
  omega
 obtain ⟨j,e,z,l⟩:=T.goK hn h 199 13 (SetTable.bits h % 8) (SetTable.bits h) (Nat.mod_lt _ (by decide)) hb
 refine ⟨j,?_,z,l⟩
 have hst:t.probeStart h=pr (SetTable.bits h % 8) (SetTable.bits h):=by
  unfold SetTable.probeStart pr SetTable.runEnd
  rw [T.mask]
  dsimp only
  rw [if_neg (by omega),Nat.sub_self]
 unfold SetTable.freeSlot SetTable.probe
 rw [hst,show 10 * SetTable.turns t.mask=13+(8+199) by rw [T.mask];rfl,e]
 rfl
theorem T7.lay (T:T7 byText t n) (hn:n≤3) {es:Array (Int × Value)} (he:es.size=n) (h:Int) (x:Value) :
  ∃ p t',layNew t es h x=(SetTable.insertAt es p (h,x),t',false,false)∧T7 byText t' (n+1)∧t'.tooFull=false∧p≤es.size:=by
 obtain ⟨j,e,z,l⟩:=T.free (by omega) h
 obtain ⟨b1,b2,b3⟩:=below_spec (j:=j) T.up
 have hd:SetTable.has t.dummies j=false:=by rw [T.dum];rfl
 have tl:(SetTable.insertAt t.place (SetTable.below t.place j) j).toList=t.place.toList.take (SetTable.below t.place j)++j::t.place.toList.drop (SetTable.below t.place j):=qBE _ _ _
 have sz:(SetTable.insertAt t.place (SetTable.below t.place j) j).size=n+1:=by
  rw [← Array.length_toList,tl,List.length_append,List.length_cons,List.length_take,List.length_drop,Array.length_toList,T.size]
  rw [T.size] at b1
  omega
 have T':T7 byText { t with place:=SetTable.insertAt t.place (SetTable.below t.place j) j,dummies:=t.dummies } (n+1):=by
  refine ⟨T.mask,T.dum,T.plain,T.led,sz,?_,?_⟩
  ·show (SetTable.insertAt t.place (SetTable.below t.place j) j).toList.Pairwise (·<·)
   rw [tl]
   have geti:∀ i,i<t.place.size→t.place.getD i j=t.place.toList.getD i j:=fun i hi=>by
    rw [Array.getD_eq_getD_getElem?,List.getD_eq_getElem?_getD,Array.getElem?_toList]
   have lo:∀ a ∈ t.place.toList.take (SetTable.below t.place j),a<j:=fun a ha=>by
    obtain ⟨i,hi,hai⟩:=List.mem_iff_getElem.mp ha
    rw [List.length_take,Array.length_toList] at hi
    have hi1:i<SetTable.below t.place j:=by omega
    have hi2:i<t.place.size:=by omega
    have:=b2 i hi1
    rw [Array.getD_eq_getD_getElem?,Array.getElem?_eq_getElem hi2] at this
    rw [List.getElem_take] at hai
    rw [← hai]
    simpa using this
   have hi:∀ a ∈ t.place.toList.drop (SetTable.below t.place j),j<a:=fun a ha=>by
    have hm:a ∈ t.place.toList:=List.mem_of_mem_drop ha
    obtain ⟨i,hi,hai⟩:=List.mem_iff_getElem.mp ha
    rw [List.length_drop,Array.length_toList] at hi
    have hi2:SetTable.below t.place j+i<t.place.size:=by omega
    have:=b3 _ (Nat.le_add_right _ i) hi2
    rw [Array.getD_eq_getD_getElem?,Array.getElem?_eq_getElem hi2] at this
    rw [List.getElem_drop] at hai
    have h3:j≤a:=by
     rw [← hai]
     simpa using this
    rcases Nat.lt_or_eq_of_le h3 with h4 | h4
    ·exact h4
    ·exact absurd (h4 ▸ hm) z
   refine List.pairwise_append.mpr ⟨T.up.sublist (List.take_sublist _ _),List.pairwise_cons.mpr ⟨hi,T.up.sublist (List.drop_sublist _ _)⟩,fun a ha b hb=>?_⟩
   rcases List.mem_cons.mp hb with e | hb
   ·rw [e];exact lo a ha
   ·exact Nat.lt_trans (lo a ha) (hi b hb)
  ·show ∀ i ∈ (SetTable.insertAt t.place (SetTable.below t.place j) j).toList,i≤7
   rw [tl]
   intro i hi
   rcases List.mem_append.mp hi with hi | hi
   ·exact T.le i (List.mem_of_mem_take hi)
   ·rcases List.mem_cons.mp hi with e | hi
    ·omega
    ·exact T.le i (List.mem_of_mem_drop hi)
 have fits:SetTable.fits { t with place:=SetTable.insertAt t.place (SetTable.below t.place j) j,dummies:=t.dummies } (n+1)=true:=by
  unfold SetTable.fits SetTable.fill
  dsimp only
  rw [sz,T.dum,T.mask]
  have:((#[]:Array Nat)).size=0:=rfl
  simp only [this,beq_self_eq_true,Bool.true_and,decide_eq_true_eq]
  omega
 have szE:(SetTable.insertAt es (SetTable.below t.place j) (h,x)).size=n+1:=by
  rw [← Array.length_toList,qBE,List.length_append,List.length_cons,List.length_take,List.length_drop,Array.length_toList]
  rw [T.size] at b1
  omega
 refine ⟨SetTable.below t.place j,{ t with place:=SetTable.insertAt t.place (SetTable.below t.place j) j,dummies:=t.dummies },?_,T',?_,by rw [he,← T.size];exact b1⟩
 ·unfold layNew
  rw [e]
  dsimp only
  unfold SetTable.put
  rw [hd]
  dsimp only
  rw [szE]
  unfold SetTable.orStandIn
  simp only [Bool.false_eq_true,if_false]
  rw [fits]
  simp
 ·unfold SetTable.tooFull SetTable.fill
  dsimp only
  rw [sz,T.dum,T.mask]
  have:((#[]:Array Nat)).size=0:=rfl
  rw [this]
  exact decide_eq_false (by omega)
end
end L2
namespace L2
open PySem PySem.Spec PyProof.Rows
theorem erase_perm {α:Type}:∀ (l:List α) (i:Nat) (h:i<l.length),(l[i]::l.eraseIdx i).Perm l
 | [],i,h=>absurd h (by simp)
 | a::r,0,h=>.refl _
 | a::r,i+1,h=>by
  have hi:i<r.length:=by simpa using h
  have ih:=erase_perm r i hi
  show (r[i]::a::r.eraseIdx i).Perm (a::r)
  exact (List.Perm.swap _ _ _).trans (ih.cons a)
theorem pick_go {α:Type} (next:Nat→Nat):∀ (fuel k:Nat) (left:List α) (out:Array α),fuel=left.length→(pickOrder.go next fuel k left out).toList.Perm (out.toList++left)
 | 0,k,left,out,h=>by
  have:left=[]:=List.length_eq_zero_iff.mp h.symm
  subst this
  unfold pickOrder.go
  simp
 | fuel+1,k,left,out,h=>by
  have hl:0<left.length:=by omega
  have hm:next k % left.length<left.length:=Nat.mod_lt _ hl
  unfold pickOrder.go
  rw [List.getElem?_eq_getElem hm]
  dsimp only
  refine (pick_go next fuel (k+1) _ _ (by rw [List.length_eraseIdx_of_lt hm];omega)).trans ?_
  rw [Array.toList_push,List.append_assoc]
  exact List.Perm.append_left _ (erase_perm left _ hm)
theorem pick_perm {α:Type} (next:Nat→Nat) (xs:Array α):(pickOrder next xs).toList.Perm xs.toList:=by
 unfold pickOrder
 have:=pick_go next xs.size 0 xs.toList #[] (by simp)
 simpa using this
abbrev Ents:List Int→List (Int × Value)→Prop:=Paired fun k e=>∃ tk,e=(hashInt k,Value.int k tk)
theorem Ents.perm:∀ {es es':List (Int × Value)} {ks:List Int},Ents ks es→es'.Perm es→∃ ks',Ents ks' es'∧ks'.Perm ks:=by
 intro es es' ks h p
 have key:∀ {a b:List (Int × Value)},a.Perm b→∀ ks,Ents ks b→∃ ks',Ents ks' a∧ks'.Perm ks:=by
  intro a b p
  induction p with
  | nil=>intro ks h;exact ⟨ks,h,.refl _⟩
  | cons x p ih=>
   intro ks h
   cases h with
   | cons r t=>
    obtain ⟨ks',h1,h2⟩:=ih _ t
    exact ⟨_::ks',.cons r h1,h2.cons _⟩
  | swap x y l=>
   intro ks h
   cases h with
   | cons r t=>
    cases t with
    | cons r' t'=>exact ⟨_,.cons r' (.cons r t'),.swap _ _ _⟩
  | trans p q ih1 ih2=>
   intro ks h
   obtain ⟨k1,h1,h2⟩:=ih2 ks h
   obtain ⟨k2,h3,h4⟩:=ih1 k1 h1
   exact ⟨k2,h3,h4.trans h2⟩
 exact key p ks h
theorem Ents.elems {prog:Program} {w:World} {es:List (Int × Value)} {ks:List Int} (h:Ents ks es):ElemsOf (intKind prog w) es:=by
 intro e he
 have key:∀ {ks:List Int} {es:List (Int × Value)},Ents ks es→∀ e ∈ es,∃ k tk,e=(hashInt k,Value.int k tk):=by
  intro ks es h
  induction h with
  | nil=>intro e he;cases he
  | cons r t ih=>
   intro e he
   rcases List.mem_cons.mp he with z | z
   ·subst z;obtain ⟨tk,e⟩:=r;exact ⟨_,tk,e⟩
   ·exact ih e z
 obtain ⟨k,tk,rfl⟩:=key h e he
 exact ⟨⟨k,by simp [intKind,Value.isInt],rfl⟩,rfl⟩
theorem Ents.find {prog:Program} {w:World} {k:Int}:∀ {es:List (Int × Value)} {ks:List Int},Ents ks es→((List.findIdx? (fun e=>(intKind prog w).is k e.2) es).isSome=true ↔ k ∈ ks)
 | _,_,.nil=>by simp
 | _,_,.cons r t=>by
  obtain ⟨tk,rfl⟩:=r
  rename_i k' ks' es'
  have ih:=Ents.find (prog:=prog) (w:=w) (k:=k) t
  rw [List.findIdx?_cons,List.mem_cons]
  have hi:(intKind prog w).is k (Value.int k' tk)=decide (k=k'):=by
   by_cases e:k=k'
   ·simp [intKind,Value.isInt,e]
   ·have e':¬ k'=k:=fun z=>e z.symm
    simp [intKind,Value.isInt,e,e']
  dsimp only
  rw [hi]
  by_cases e:k=k'
  ·simp [e]
  ·simp only [e,decide_false,Bool.false_eq_true,if_false,false_or,Option.isSome_map]
   exact ih
def byT (w:World):Bool:=w.params.followText "set-order"
def SetI (w:World) (a:Addr) (zs:List Int) (h:Heap):Prop:=
 ∃ (es:Array (Int × Value)) (ep:Nat) (t:SetTable) (ks:List Int),h.get? a=some { cls:=.type "set",data:=.set es ep t }∧T7 (byT w) t es.size∧Ents ks es.toList∧ks.Perm zs∧zs.Nodup∧zs.length≤4
theorem SetI.at {w:World} {a:Addr} {zs:List Int} {h h':Heap} (x:SetI w a zs h) (k:∀ o,h.get? a=some o→h'.get? a=some o):SetI w a zs h':=
 let ⟨es,ep,t,ks,h1,r⟩:=x;⟨es,ep,t,ks,k _ h1,r⟩
theorem T7.fits {b:Bool} {t:SetTable} {n:Nat} (T:T7 b t n) (hn:n≤7):t.fits n=true:=by
 unfold SetTable.fits SetTable.fill
 rw [T.size,T.dum,T.mask]
 have:((#[]:Array Nat)).size=0:=rfl
 simp only [this,beq_self_eq_true,Bool.true_and,decide_eq_true_eq]
 omega
def addI (zs:List Int) (k:Int):List Int:=if k ∈ zs then zs else zs++[k]
section
variable {prog:Program} {w:World} {A:Around} {E:Value→Shared→Prop} {s:Shared}
theorem SetI.size {a:Addr} {zs:List Int} {h:Heap} {es:Array (Int × Value)} {ks:List Int} (he:Ents ks es.toList) (hp:ks.Perm zs):es.size=zs.length:=by
 rw [← hp.length_eq,Paired.length he,Array.length_toList]
theorem setAdd_I {a:Addr} {zs:List Int} {k:Int} {tk:Tok} {Q:Bool→Shared→Prop} (hS:SetI w a zs s.heap) (hroom:zs.length≤3∨k ∈ zs)
  (h:∀ h',Heap.SameBut a s.heap h'→SetI w a (addI zs k) h'→∀ b,Q b { s with heap:=h' }):wpAny (model prog w) A (setAddHashed a (.int k tk) (hashInt k)) Q E s:=by
 obtain ⟨es,ep,t,ks,ho,T,he,hp,hnd,hlen⟩:=id hS
 have hsz:es.size=zs.length:=SetI.size (a:=a) (h:=s.heap) he hp
 have hel:ElemsOf (intKind prog w) es.toList:=he.elems
 have hb:es.size<scanBound:=by rw [hsz];unfold scanBound;omega
 have hf:t.fits es.size=true:=T.fits (by omega)
 unfold setAddHashed setAddHashedIn
 refine wpAny_holding (wpAny_bind (wpAny_setState_of ho rfl hf ?_))
 dsimp only
 rw [byScan_of (knd:=intKind prog w) (x:=.int k tk) rfl hb hel]
 simp only [↓reduceIte]
 unfold setAddByScan
 refine wpAny_bind ?_
 refine wpAny_bind (wpAny_rule ?_)
 refine wpAny_bind (wpAny_setScan_of (knd:=intKind prog w) (k:=k) (intKind_is _ _ _ _) ho rfl hf hel ?_)
 have hfd:=Ents.find (prog:=prog) (w:=w) (k:=k) he
 cases hr:List.findIdx? (fun e=>(intKind prog w).is k e.2) es.toList with
 | some j=>
  dsimp only
  rw [hr] at hfd
  have hk:k ∈ zs:=hp.mem_iff.mp (hfd.mp rfl)
  refine wpAny_pure (wpAny_pure ?_)
  have e:s={ s with heap:=s.heap }:=by cases s;rfl
  rw [e]
  refine h s.heap (Heap.SameBut.refl a s.heap) ?_ _
  unfold addI
  rw [if_pos hk]
  exact hS
 | none=>
  dsimp only
  rw [hr] at hfd
  have hk:¬ k ∈ zs:=fun z=>by have:=hfd.mpr (hp.mem_iff.mpr z);cases this
  have h3:zs.length≤3:=hroom.resolve_right hk
  obtain ⟨p,t',e1,T',tf,hpe⟩:=T.lay (by omega) rfl (hashInt k) (.int k tk)
  rw [e1]
  dsimp only
  refine wpAny_bind (wpAny_pure ?_)
  rw [T'.plain]
  simp only [↓reduceIte]
  rw [hashByValue_scannable 8 (x:=.int k tk) rfl]
  refine wpAny_bind (wpAny_pure ?_)
  have hszE:(SetTable.insertAt es p (hashInt k,Value.int k tk)).size=es.size+1:=by
   rw [← Array.length_toList,qBE,List.length_append,List.length_cons,List.length_take,List.length_drop,Array.length_toList]
   omega
  rw [show plainKind (Value.int k tk)=true from rfl]
  simp only [↓reduceIte]
  show wpAny _ _ (storeSet a (SetTable.insertAt es p (hashInt k,.int k tk)) t' >>= _) _ _ _
  refine wpAny_bind (wpAny_storeSet_of ho rfl ?_ (by rw [hszE,hsz,sizeLine_eq];omega))
  rw [tf]
  simp only [Bool.and_false,Bool.false_eq_true,↓reduceIte]
  refine wpAny_pure (wpAny_pure ?_)
  refine h _ (Heap.SameBut.update s.heap a _) ?_ _
  have hg:(s.heap.update a (Obj.putSet (SetTable.insertAt es p (hashInt k,.int k tk)) t')).get? a=some { cls:=.type "set",data:=.set (SetTable.insertAt es p (hashInt k,.int k tk)) (ep+1) t' }:=by
   have:=Heap.get?_update_self (Obj.putSet (SetTable.insertAt es p (hashInt k,.int k tk)) t') ho (by rw [putSet_of _ _ (ep:=ep) (es:=es) (t:=t) rfl];rfl)
   rw [putSet_of _ _ (ep:=ep) (es:=es) (t:=t) rfl] at this
   exact this
  have hpm:(SetTable.insertAt es p (hashInt k,Value.int k tk)).toList.Perm (es.toList++[(hashInt k,.int k tk)]):=by
   rw [qBE]
   have e3:es.toList++[(hashInt k,Value.int k tk)]=es.toList.take p++(es.toList.drop p++[(hashInt k,Value.int k tk)]):=by
    rw [← List.append_assoc,List.take_append_drop]
   rw [e3]
   exact List.Perm.append_left _ (List.perm_append_singleton _ _).symm
  obtain ⟨ks',h4,h5⟩:=Ents.perm (ks:=ks++[k]) (Paired.snoc he ⟨tk,rfl⟩) hpm
  refine ⟨_,_,t',ks',hg,by rw [hszE];exact T',h4,?_,?_,?_⟩
  ·unfold addI
   rw [if_neg hk]
   exact h5.trans (hp.append_right _)
  ·unfold addI
   rw [if_neg hk]
   exact nd_snoc hnd hk
  ·unfold addI
   rw [if_neg hk,List.length_append,List.length_singleton]
   omega
end
def dedI:List Int→List Int:=fun l=>l.foldl addI []
theorem addI_len (zs:List Int) (k:Int):(addI zs k).length≤zs.length+1:=by
 unfold addI
 split <;> simp
theorem qCA:∀ (l zs:List Int),(l.foldl addI zs).length≤zs.length+l.length
 | [],zs=>by simp
 | k::r,zs=>by
  have h1:=qCA r (addI zs k)
  have h2:=addI_len zs k
  rw [List.foldl_cons,List.length_cons]
  omega
section
variable {prog:Program} {w:World} {A:Around} {R:Result→Shared→Prop} {I:Addr} {fp wr:List Addr} {G:Array GenState→Array GenState→Prop} {n:Nat} {P:Nat→Value→Prop} {St:Nat→Shared→Prop}
theorem set_update_I (W:WalksS prog w A.in1 I fp wr G n P St) (S:Addr) (hSf:S ∉ fp) (ns:List Int) (hnn:ns.length=n) (h4:n≤4) (hval:∀ i v,P i v→∃ t,v=.int (ns.getD i 0) t) :
  ∀ (k i:Nat) (s:Shared),n - i=k→i≤n→St i s→SetI w S (dedI (ns.take i)) s.heap→
   (∀ s',Moved (S::wr) G s s'→SetI w S (dedI ns) s'.heap→R (.ok (.ret .none)) s')→
   codeAny (model prog w) A (.builtin "set.update.loop" ⟨[.ref S,.ref I],[]⟩) R s:=by
 have hSw:S ∉ wr:=fun h=>hSf (W.sub _ h)
 have hsub:∀ b ∈ wr,b ∈ S::wr:=fun b hb=>List.mem_cons_of_mem _ hb
 intro k
 induction k with
 | zero=>
  intro i s hk hi hst hS hR
  have hin:i=n:=by omega
  subst hin
  refine codeAny_builtin F.entry_set_update_loop ?_
  rw [Around.under_plainId F.plain_set_update_loop _]
  show wpAny _ A.in1 (pyNext (.ref I) >>= _) _ _ s
  refine wpAny_bind (W.done s _ _ hst fun s' hm=>?_)
  show wpAny _ A.in1 (ret Value.none) _ _ s'
  rw [List.take_of_length_le (by omega)] at hS
  exact wpAny_pure (hR s' (hm.mono hsub) (hS.at fun o e=>hm.heap S _ hSw e))
 | succ k ih=>
  intro i s hk hi hst hS hR
  have hlt:i<n:=by omega
  refine codeAny_builtin F.entry_set_update_loop ?_
  rw [Around.under_plainId F.plain_set_update_loop _]
  show wpAny _ A.in1 (pyNext (.ref I) >>= _) _ _ s
  refine wpAny_bind (W.item i s _ _ hlt hst fun v s' hP hst' hm=>?_)
  obtain ⟨t,rfl⟩:=hval i v hP
  have hS':SetI w S (dedI (ns.take i)) s'.heap:=hS.at fun o e=>hm.heap S _ hSw e
  show wpAny _ A.in1 (holding [Value.int (ns.getD i 0) t] (setAdd S (.int (ns.getD i 0) t)) >>= _) _ _ s'
  refine wpAny_bind (wpAny_holding ?_)
  unfold setAdd
  refine wpAny_holding ?_
  refine wpAny_bind ((intKind prog w).pyHash (k:=ns.getD i 0) (intKind_is _ _ _ _) ?_)
  have hroom:(dedI (ns.take i)).length≤3:=by
   have:=qCA (ns.take i) []
   rw [List.length_take] at this
   unfold dedI
   simp at this
   omega
  refine setAdd_I (s:={ s' with toks:=s'.toks+1 }) hS' (.inl hroom) fun h' hsb hS2 b=>?_
  have e2:addI (dedI (ns.take i)) (ns.getD i 0)=dedI (ns.take (i+1)):=by
   have hi':i<ns.length:=by omega
   rw [List.take_add_one,List.getElem?_eq_getElem hi',Option.toList_some]
   unfold dedI
   rw [List.foldl_append,List.foldl_cons,List.foldl_nil,List.getD_eq_getElem?_getD,List.getElem?_eq_getElem hi',Option.getD_some]
  rw [e2] at hS2
  refine wpAny_pure ⟨plainId_quiet F.plain_set_update_loop _,ih (i+1) _ (by omega) hlt (W.frame _ s' _ _ hst' (Nat.le_succ _) fun b hb o e=>?_) hS2 fun s'' hm'' hS''=>?_⟩
  ·rw [hsb.2 b (fun h:b=S=>hSf (by rw [← h];exact hb))];exact e
  ·refine hR s'' (Moved.trans W.gtrans ((hm.mono hsub).then_heap (Nat.le_succ _) fun b o hb e=>?_) hm'') hS''
   rw [hsb.2 b (fun h:b=S=>hb (by rw [h];exact List.mem_cons_self))];exact e
end
end L2
namespace L2
open PySem PySem.Spec PyProof.Rows
abbrev freshSet (w:World):Obj:={ cls:=.type "set",dict:=none,data:=.set #[] 0 (.fresh 0 0 (!byT w)) }
section
variable {prog:Program} {w:World} {A:Around} {E:Value→Shared→Prop} {s:Shared}
theorem set_new_I (a:Value) {Q₁:Value→Shared→Prop} (h:Q₁ (.ref s.heap.objs.size) { s with heap:=s.heap.push (freshSet w) }) :
  codeAny (model prog w) A (.call (.builtin "set.__new__") ⟨[.type "set",a],[]⟩) (wants Q₁ E) s:=by
 refine codeAny_of_tree ?_
 show wpAny _ A.in1 (do checkBuiltinCall "set.__new__" ⟨[.type "set",a],[]⟩;again (.builtin "set.__new__" ⟨[.type "set",a],[]⟩)) _ _ s
 refine wpAny_bind (wpAny_of_eq (F.newCall_set_1 a) (wpAny_pure ⟨plainId_quiet F.plain_set_new _,codeAny_builtin F.entry_set_new ?_⟩))
 rw [Around.under_plainId F.plain_set_new _]
 unfold Builtin.«set.__new__» Builtin.Frozenset.newClass
 have hsub:=sub_set_self
 obtain ⟨hp,g,d,tk,os⟩:=s
 dsimp only
 wp_walk
 refine wpAny_askSetting (wpAny_pure ?_)
 dsimp only
 simp only [newObj]
 refine wpAny_bind (wpAny_alloc (wpAny_pure ?_))
 exact wpAny_pure h
theorem SetI.fresh {a:Addr} {h:Heap} (e:h.get? a=some (freshSet w)):SetI w a [] h:=
 ⟨#[],0,_,[],e,⟨rfl,rfl,rfl,rfl,rfl,.nil,fun _ z=>nomatch z⟩,.nil,.refl _,.nil,Nat.zero_le _⟩
set_option maxHeartbeats 3200000 in
theorem call_set_I {l:Addr} {items:Array Value} {ns:List Int} {Q:Value→Shared→Prop} (hh:A.handled=none) (hl:s.heap.IsList l items) (hi:IntsAre items.toList ns) (h4:items.size≤4)
  (h:∀ (h':Heap) (tk:Nat),SetI w s.heap.objs.size (dedI ns) h'→(∀ b o,s.heap.get? b=some o→h'.get? b=some o)→Q (.ref s.heap.objs.size) { s with heap:=h',toks:=tk }) :
  wpAny (model prog w) A (call (.type "set") [.ref l]) Q E s:=by
 have hlen:ns.length=items.size:=by have:=IntsAre.length hi;simpa using this.symm
 obtain ⟨c,tl,hmro⟩:=F.called_set.mro
 have hmade:=F.called_set.made
 have hsub:=F.called_set.sub
 refine wpAny_call (codeAny_of_tree ?_)
 show wpAny _ _ (callAny (.type "set") _) _ _ _
 refine wpAny_pure ⟨Code.quiet_builtin _ (by decide +kernel),codeAny_builtin F.entry_type_call ?_⟩
 rw [Around.under_plain (weight_type_call_type "set" [.ref l] []) rfl]
 have h1:=F.called_set.notType
 have h2:=F.called_set.canCreate
 have hct:=F.typeCall_set_1 (.ref l)
 repeat (any_goals (first | assumption | wp_step))
 refine codeAny_mono (set_new_I (.ref l) (E:=E) (Q₁:=fun obj s₁=>obj=.ref s.heap.objs.size∧s₁={ s with heap:=s.heap.push (freshSet w) }) ⟨rfl,rfl⟩) fun r s₁ hr=>?_
 cases r with
 | error e=>exact hr
 | ok fl=>
  cases fl with
  | ret obj=>
   obtain ⟨rfl,rfl⟩:=hr
   have hS:(s.heap.push (freshSet w)).get? s.heap.objs.size=some (freshSet w):=Heap.get?_push_size _ rfl
   have hT:Shared.TypeIs { s with heap:=s.heap.push (freshSet w) } (.ref s.heap.objs.size) "set":=⟨_,hS,rfl⟩
   have hli:=F.called_set.init.lookup
   have hbi:=F.called_set.init.bind (.ref s.heap.objs.size)
   repeat (any_goals (first | assumption | wp_step))
   refine codeAny_mono (codeAny_call_builtin (R:=wants (fun r s₂=>r=.none∧∃ h' tk,s₂={ s with heap:=h',toks:=tk }∧SetI w s.heap.objs.size (dedI ns) h'∧
     (∀ b o,s.heap.get? b=some o→h'.get? b=some o)) E) F.called_set.init.plain F.entry_set_init (check_set_init_1 hT ?_)) fun r₂ s₂ hr₂=>?_
   ·obtain ⟨ol,hol,hcl,nl,hdl⟩:=hl
    obtain ⟨ocls,odict,odata,oslots⟩:=ol
    simp only at hcl hdl
    subst hcl;subst hdl
    have hol':(s.heap.push (freshSet w)).get? l=some { cls:=.type "list",dict:=odict,data:=.seq items nl,slots:=oslots }:=Heap.get?_push_of_some _ hol
    have hsls:=F.sub_list_set
    have hslf:=F.sub_list_frozenset
    have hne:(Value.type "list" == Value.type "dict")=false:=by decide
    have hl1:(s.heap.push (freshSet w)).IsList l items:=⟨_,hol',rfl,nl,rfl⟩
    unfold Builtin.«set.__init__» noKeywords Builtin.Frozenset.updateFrom
    generalize hPI:pyIter=PI
    wp_walk
    subst hPI
    refine wpAny_pyIter_list hl1 ?_
    refine wpAny_bind (wpAny_runValue ?_)
    have hlS:l<s.heap.objs.size:=Heap.lt_size hol
    have hh3:A.in1.in1.in1.handled=none:=by simp [hh]
    have hneI:l ≠ (s.heap.push (freshSet w)).objs.size:=by
     rw [Heap.size_push];exact Nat.ne_of_lt (Nat.lt_succ_of_lt hlS)
    have hSf:s.heap.objs.size ∉ [(s.heap.push (freshSet w)).objs.size,l]:=by
     rw [Heap.size_push];simp only [List.mem_cons,List.mem_singleton,List.not_mem_nil,or_false,not_or]
     exact ⟨Nat.ne_of_lt (Nat.lt_succ_self _),Nat.ne_of_gt hlS⟩
    have hval:∀ (i:Nat) (v:Value),items[i]?=some v→∃ t,v=.int (ns.getD i 0) t:=fun i v hv=>
     PyProof.Rows.IntsAre.int_at hi i v (by rw [Array.getElem?_toList];exact hv)
    refine set_update_I ((Walks.list hh3 _ l hneI items).toS) s.heap.objs.size hSf ns hlen h4 hval (items.size - 0) 0 _ (by omega) (Nat.zero_le _)
     ⟨⟨_,Heap.get?_push_size _ rfl,rfl,rfl⟩,(hl1.push _)⟩ ?hS0 ?hR
    case hS0=>exact SetI.fresh (Heap.get?_push_of_some _ hS)
    case hR=>
     intro s' hm hS'
     obtain ⟨h',g',d',tk',os'⟩:=s'
     have eg:g'=s.gens:=hm.gens
     have ed:d'=s.drawn:=hm.drawn
     have eo:os'=s.os:=hm.os
     subst eg;subst ed;subst eo
     show wpAny _ _ _ _ _ _
     refine wpAny_pure ?_
     show wpAny _ _ (ret Value.none) _ _ _
     refine wpAny_pure ⟨rfl,h',tk',rfl,hS',fun b o e=>?_⟩
     have hb:=Heap.lt_size e
     have hb1:b ≠ s.heap.objs.size:=Nat.ne_of_lt hb
     have hb2:b ≠ (s.heap.push (freshSet w)).objs.size:=by
      rw [Heap.size_push];exact Nat.ne_of_lt (Nat.lt_succ_of_lt hb)
     exact hm.heap b o (by simp only [List.mem_cons,List.mem_singleton,List.not_mem_nil,or_false,not_or];exact ⟨hb1,hb2⟩) (Heap.get?_push_of_some _ (Heap.get?_push_of_some _ e))
   ·cases r₂ with
    | error e=>exact hr₂
    | ok fl₂=>
     cases fl₂ with
     | ret r=>
      obtain ⟨rfl,h',tk,rfl,hS',hk'⟩:=hr₂
      repeat (any_goals (first | assumption | wp_step))
      exact h _ _ hS' hk'
     | next=>exact hr₂
     | brk=>exact hr₂
     | cont=>exact hr₂
  | next=>exact hr
  | brk=>exact hr
  | cont=>exact hr
end
end L2
namespace L2
open PySem PySem.Spec PyProof.Rows
theorem slot_si_next:Slot "set_iterator" "__next__" "set_iterator.__next__":=
 .of (owner:="set_iterator") (n:="__next__") (by rw [typeLookup_type,builtinLookup_eq_fast];kernel_rfl) (by decide +kernel) (by decide +kernel) (by decide +kernel)
  (by first | exact .inl (by decide +kernel) | exact .inr (by decide +kernel)) (by rw [isSubtype_type];kernel_rfl)
theorem slot_si_iter:Slot "set_iterator" "__iter__" "set_iterator.__iter__":=
 .of (owner:="set_iterator") (n:="__iter__") (by rw [typeLookup_type,builtinLookup_eq_fast];kernel_rfl) (by decide +kernel) (by decide +kernel) (by decide +kernel)
  (by first | exact .inl (by decide +kernel) | exact .inr (by decide +kernel)) (by rw [isSubtype_type];kernel_rfl)
theorem entry_si_next:entryFor table "set_iterator.__next__" = some Builtin.«set_iterator.__next__»:=entryFor_of_tree (by kernel_rfl)
theorem entry_si_iter:entryFor table "set_iterator.__iter__" = some Builtin.«dict_keyiterator.__iter__»:=
 entryFor_alias (id':="dict_keyiterator.__iter__") (by kernel_rfl) rfl (by decide +kernel) (by kernel_rfl)
theorem entry_set_iter:entryFor table "set.__iter__" = some Builtin.«frozenset.__iter__»:=
 entryFor_alias (id':="frozenset.__iter__") (by kernel_rfl) rfl (by decide +kernel) (by kernel_rfl)
theorem owner_si:Manifest.owners.lookup (String.ofList "set_iterator".toList.reverse.reverse)=some Manifest.sig_set_iterator:=by kernel_rfl
theorem args_si_next (a:Value):argsOk "set_iterator.__next__" ⟨[a],[]⟩:=by
 unfold argsOk;rw [signature?_of (id:="set_iterator.__next__") (n:="__next__".toList.reverse) (o:="set_iterator".toList.reverse) (by kernel_rfl) owner_si];kernel_rfl
theorem args_si_iter (a:Value):argsOk "set_iterator.__iter__" ⟨[a],[]⟩:=by
 unfold argsOk;rw [signature?_of (id:="set_iterator.__iter__") (n:="__iter__".toList.reverse) (o:="set_iterator".toList.reverse) (by kernel_rfl) owner_si];kernel_rfl
def walkOf (w:World) (a:Addr) (ep:Nat) (es:Array (Int × Value)):List (Int × Value):=if byT w=true then (pickOrder (w.params.setOrder a ep) es).toList else es.toList
def slotOf (w:World) (t:SetTable) (i:Nat):Nat:=if byT w=true then 0 else if i=0 then 0 else t.place.getD (i - 1) 0+1
theorem qCL (w:World) (a:Addr) (ep:Nat) (es:Array (Int × Value)):(walkOf w a ep es).Perm es.toList:=by
 unfold walkOf
 split
 ·exact pick_perm _ _
 ·exact .refl _
theorem T7.below_at {b:Bool} {t:SetTable} {n:Nat} (T:T7 b t n) (i:Nat) (hi:i≤n):SetTable.below t.place (if i=0 then 0 else t.place.getD (i - 1) 0+1)=i:=by
 obtain ⟨b1,b2,b3⟩:=below_spec (j:=if i=0 then 0 else t.place.getD (i - 1) 0+1) T.up
 have hs:=T.size
 have gd:∀ a c d,a<t.place.size→t.place.getD a c=t.place.getD a d:=fun a c d ha=>by
  rw [Array.getD_eq_getD_getElem?,Array.getD_eq_getD_getElem?,Array.getElem?_eq_getElem ha]
  rfl
 by_cases h0:i=0
 ·rw [if_pos h0] at b1 b2 b3 ⊢
  subst h0
  apply Nat.eq_zero_of_not_pos
  intro z
  have:=b2 0 z
  omega
 ·rw [if_neg h0] at b1 b2 b3 ⊢
  have h1:¬ SetTable.below t.place (t.place.getD (i - 1) 0+1)<i:=fun z=>by
   have:=b3 (i - 1) (by omega) (by omega)
   rw [gd (i - 1) (t.place.getD (i - 1) 0+1) 0 (by omega)] at this
   omega
  have h2:¬ i<SetTable.below t.place (t.place.getD (i - 1) 0+1):=fun z=>by
   have q:=b2 i z
   have:=up_of 0 T.up (i - 1) i (by omega) (by omega)
   rw [gd i (t.place.getD (i - 1) 0+1) 0 (by omega)] at q
   omega
  omega
def SetIt (w:World) (a I:Addr) (es:Array (Int × Value)) (ep:Nat) (t:SetTable) (i:Nat) (h:Heap):Prop:=
 (∃ o,h.get? I=some o∧o.cls=.type "set_iterator"∧o.data=.fields #[.int (slotOf w t i) 0,.int i 0,.ref a,.int es.size 0,.int ep 0])∧h.get? a=some { cls:=.type "set",data:=.set es ep t }
section
variable {prog:Program} {w:World} {A:Around} {E:Value→Shared→Prop} {s:Shared} {a I:Addr} {es:Array (Int × Value)} {ep:Nat} {t:SetTable} {i:Nat}
theorem SetIt.typeIs (x:SetIt w a I es ep t i s.heap):s.TypeIs (.ref I) "set_iterator":=let ⟨⟨o,h1,h2,_⟩,_⟩:=x;⟨o,h1,h2⟩
theorem setNext_I {Q:Option (Value × Nat)→Shared→Prop} (T:T7 (byT w) t es.size) (h8:es.size≤7) (ho:s.heap.get? a=some { cls:=.type "set",data:=.set es ep t }) (hi:i≤es.size)
  (h:Q (match (walkOf w a ep es)[i]? with | some e=>some (e.2,slotOf w t (i+1)) | none=>none) s):wpAny (model prog w) A (setNext a (slotOf w t i) i ep) Q E s:=by
 have hf:=T.fits h8
 unfold setNext
 refine wpAny_bind (wpAny_setState_of ho rfl hf ?_)
 dsimp only
 unfold setsByText
 refine wpAny_bind (wpAny_bind (wpAny_askSetting (wpAny_pure ?_)))
 show wpAny _ _ (if byT w=true then _ else _) _ _ _
 cases hb:byT w with
 | true=>
  rw [if_pos rfl]
  simp only [bne_self_eq_false,Bool.false_eq_true,if_false]
  refine wpAny_bind ?_
  unfold setWalk
  refine wpAny_bind (wpAny_setState_of ho rfl hf ?_)
  dsimp only
  unfold setsByText
  refine wpAny_bind (wpAny_bind (wpAny_askSetting (wpAny_pure ?_)))
  show wpAny _ _ (if byT w=true then _ else _) _ _ _
  rw [hb,if_pos rfl]
  refine wpAny_bind (wpAny_askSetting (wpAny_pure (wpAny_pure ?_)))
  have e:walkOf w a ep es=(pickOrder (w.params.setOrder a ep) es).toList:=by unfold walkOf;rw [if_pos hb]
  have e2:∀ j,slotOf w t j=0:=fun j=>by unfold slotOf;rw [if_pos hb]
  rw [e,Array.getElem?_toList,e2] at h
  rw [e2]
  show Q (Option.map _ (pickOrder (w.params.setOrder a ep) es)[i]?) s
  cases hx:(pickOrder (w.params.setOrder a ep) es)[i]? with
  | none=>rw [hx] at h;exact h
  | some v=>rw [hx] at h;exact h
 | false=>
  rw [if_neg (by simp)]
  show wpAny _ _ (if (!t.plain && decide (es.size > 1))=true then _ else _) _ _ _
  rw [T.plain]
  simp only [Bool.not_true,Bool.false_and,Bool.false_eq_true,if_false]
  refine wpAny_bind ?_
  show wpAny _ _ (if (!t.led && !es.isEmpty)=true then _ else _) _ _ _
  rw [T.led,hb]
  simp only [Bool.not_false,Bool.not_true,Bool.false_and,Bool.false_eq_true,if_false]
  refine wpAny_pure (wpAny_pure ?_)
  have e:walkOf w a ep es=es.toList:=by unfold walkOf;rw [if_neg (by rw [hb];simp)]
  have e2:∀ j,slotOf w t j=if j=0 then 0 else t.place.getD (j - 1) 0+1:=fun j=>by unfold slotOf;rw [if_neg (by rw [hb];simp)]
  rw [e,Array.getElem?_toList] at h
  rw [e2,T.below_at i hi]
  cases hx:es[i]? with
  | none=>rw [hx] at h;exact h
  | some v=>
   rw [hx] at h
   have hlt:i<t.place.size:=by rw [T.size];exact (Array.getElem?_eq_some_iff.mp hx).1
   rw [Array.getElem?_eq_getElem hlt]
   dsimp only at h ⊢
   have e3:slotOf w t (i+1)=t.place[i]+1:=by
    rw [e2,if_neg (by omega),Nat.add_sub_cancel,Array.getD_eq_getD_getElem?,Array.getElem?_eq_getElem hlt]
    rfl
   rw [e3] at h
   exact h
theorem si_next {Q:Option Value→Shared→Prop} (T:T7 (byT w) t es.size) (h8:es.size≤7) (hit:SetIt w a I es ep t i s.heap) (hne:a ≠ I) {e:Int × Value} (hx:(walkOf w a ep es)[i]?=some e)
  (hQ:∀ h',SetIt w a I es ep t (i+1) h'→(∀ b o,b ≠ I→s.heap.get? b=some o→h'.get? b=some o)→Q (some e.2) { s with heap:=h' }):wpAny (model prog w) A (pyNext (.ref I)) Q E s:=by
 obtain ⟨⟨o,ho,hc,hd⟩,hs⟩:=id hit
 have hi:i<es.size:=by
  have:=(List.getElem?_eq_some_iff.mp hx).1
  rw [(qCL w a ep es).length_eq,Array.length_toList] at this
  exact this
 unfold pyNext
 refine wpAny_bind (wpAny_attempt (wpAny_callSpecial?_slot (name:=Str.ofString "__next__") hit.typeIs slot_si_next (wpAny_call_entry slot_si_next hit.typeIs entry_si_next ?_ (args_si_next _))))
 unfold Builtin.«set_iterator.__next__»
 refine wpAny_bind (wpAny_pure ?_)
 refine wpAny_bind (wpAny_fieldsOf ho hd ?_)
 dsimp only
 unfold setEntries
 refine wpAny_bind (wpAny_bind (wpAny_setState_of hs rfl (T.fits h8) (wpAny_pure ?_)))
 rw [if_neg (by simp)]
 simp only [Int.toNat_natCast]
 refine wpAny_bind (setNext_I T h8 hs (Nat.le_of_lt hi) ?_)
 rw [hx]
 dsimp only
 show wpAny _ _ (setField (.ref I) 0 (rawInt _) >>= _) _ _ s
 refine wpAny_bind (wpAny_setField ho hd (by simp) ?_)
 have g1:=Heap.get?_update_self (Obj.mapFields (·.setIfInBounds 0 (rawInt ((slotOf w t (i+1):Nat):Int)))) ho (Obj.isFreed_of_fields (Obj.data_mapFields hd _))
 have d1:=Obj.data_mapFields hd (·.setIfInBounds 0 (rawInt ((slotOf w t (i+1):Nat):Int)))
 refine wpAny_bind (wpAny_setField g1 d1 (by simp) ?_)
 have g2:=Heap.get?_update_self (Obj.mapFields (·.setIfInBounds 1 (rawInt ((i:Int)+1)))) g1 (Obj.isFreed_of_fields (Obj.data_mapFields d1 _))
 have d2:=Obj.data_mapFields d1 (·.setIfInBounds 1 (rawInt ((i:Int)+1)))
 refine wpAny_pure ⟨_,rfl,wpAny_pure (hQ _ ⟨⟨_,g2,(Obj.cls_mapFields ..).trans ((Obj.cls_mapFields ..).trans hc),?_⟩,?_⟩ fun b o' hb e=>?_)⟩
 ·rw [d2]
  simp [rawInt]
 ·exact (Heap.get?_update_other _ _ (Ne.symm hne)).trans ((Heap.get?_update_other _ _ (Ne.symm hne)).trans hs)
 ·exact (Heap.get?_update_other _ _ (Ne.symm hb)).trans ((Heap.get?_update_other _ _ (Ne.symm hb)).trans e)
theorem si_end {Q:Option Value→Shared→Prop} (hh:A.handled=none) (T:T7 (byT w) t es.size) (h8:es.size≤7) (hit:SetIt w a I es ep t es.size s.heap)
  (hQ:∀ h',(∀ b o,b ≠ I→s.heap.get? b=some o→h'.get? b=some o)→Q none { s with heap:=h' }):wpAny (model prog w) A (pyNext (.ref I)) Q E s:=by
 obtain ⟨⟨o,ho,hc,hd⟩,hs⟩:=id hit
 unfold pyNext
 refine wpAny_bind (wpAny_attempt (wpAny_callSpecial?_slot (name:=Str.ofString "__next__") hit.typeIs slot_si_next (wpAny_call_entry slot_si_next hit.typeIs entry_si_next ?_ (args_si_next _))))
 unfold Builtin.«set_iterator.__next__»
 refine wpAny_bind (wpAny_pure ?_)
 refine wpAny_bind (wpAny_fieldsOf ho hd ?_)
 dsimp only
 unfold setEntries
 refine wpAny_bind (wpAny_bind (wpAny_setState_of hs rfl (T.fits h8) (wpAny_pure ?_)))
 rw [if_neg (by simp)]
 simp only [Int.toNat_natCast]
 have hx:(walkOf w a ep es)[es.size]?=none:=List.getElem?_eq_none (by rw [(qCL w a ep es).length_eq,Array.length_toList];exact Nat.le_refl _)
 refine wpAny_bind (setNext_I T h8 hs (Nat.le_refl _) ?_)
 rw [hx]
 dsimp only
 show wpAny _ _ (setField (.ref I) 2 .none >>= _) _ _ s
 refine wpAny_bind (wpAny_setField ho hd (by simp) ?_)
 show wpAny _ _ (newExc (.type "StopIteration") [] >>= _) _ _ _
 refine wpAny_bind ?_
 simp only [newExc,newTuple]
 refine wpAny_bind (wpAny_newObj_type ?_ (by size_fits))
 refine wpAny_bind (m:=firstArgMember _ _) (wpAny_of_eq (a:=Value.none) (by first | rfl | (simp only [firstArgMember];rfl)) ?_)
 refine wpAny_newObj_type ?_ (by size_fits)
 simp only [raiseNew]
 refine wpAny_bind (wpAny_handled ?_)
 rw [show A.in1.handled=none from hh]
 refine wpAny_bind (wpAny_pure (wpAny_throw ?_))
 refine wpAny_bind (wpAny_isInstance (T:="StopIteration") (b:=true) ⟨_,Heap.get?_push_size _ rfl,rfl⟩ isSubtype_stop ?_)
 exact wpAny_pure (hQ _ (((Heap.SameBut.update ..).extBut.push _).push _))
theorem si_self {Q:Value→Shared→Prop} (hit:SetIt w a I es ep t i s.heap) (h:Q (.ref I) s):wpAny (model prog w) A (pyIter (.ref I)) Q E s:=by
 refine wpAny_pyIter_slot hit.typeIs slot_si_iter (wpAny_call_entry slot_si_iter hit.typeIs entry_si_iter ?_ (args_si_iter _))
 show wpAny _ _ (ret (.ref I)) _ _ s
 exact wpAny_pure ⟨_,rfl,"set_iterator",_,hit.typeIs,slot_si_next.lookup,h⟩
theorem si_new {Q:Value→Shared→Prop} (T:T7 (byT w) t es.size) (h8:es.size≤7) (hs:s.heap.get? a=some { cls:=.type "set",data:=.set es ep t })
  (hQ:Q (.ref s.heap.objs.size) { s with heap:=s.heap.push { cls:=.type "set_iterator",data:=.fields #[.int 0 0,.int 0 0,.ref a,.int es.size 0,.int ep 0] } }):wpAny (model prog w) A (pyIter (.ref a)) Q E s:=by
 have hT:s.TypeIs (.ref a) "set":=⟨_,hs,rfl⟩
 have hf:=T.fits h8
 refine wpAny_pyIter_slot hT F.slot_set_iter (wpAny_call_entry F.slot_set_iter hT entry_set_iter ?_ (F.args_set_iter_1 _))
 unfold Builtin.«frozenset.__iter__» Builtin.Frozenset.slot0 Builtin.Frozenset.sizeOf setEntries
 refine wpAny_bind (wpAny_bind (wpAny_pure ?_))
 show wpAny _ _ (pure a) _ _ s
 refine wpAny_pure ?_
 refine wpAny_bind (wpAny_bind (wpAny_bind (wpAny_setState_of hs rfl hf (wpAny_pure (wpAny_pure ?_)))))
 unfold setDrawn setsByText
 refine wpAny_bind (wpAny_bind (wpAny_setState_of hs rfl hf ?_))
 dsimp only
 refine wpAny_bind (wpAny_bind (wpAny_askSetting (wpAny_pure (wpAny_pure ?_))))
 show wpAny _ _ (if (!byT w && (!t.plain && decide (es.size > 1)))=true then _ else _) _ _ _
 rw [T.plain]
 simp only [Bool.not_true,Bool.false_and,Bool.and_false,Bool.false_eq_true,if_false]
 refine wpAny_bind (wpAny_pure ?_)
 unfold setEpoch
 refine wpAny_bind (wpAny_bind (wpAny_setState_of hs rfl hf (wpAny_pure ?_)))
 refine wpAny_bind (wpAny_newObj_type (wpAny_pure ⟨_,rfl,"set_iterator",_,⟨_,Heap.get?_push_size _ rfl,rfl⟩,slot_si_next.lookup,?_⟩))
 simpa [rawInt] using hQ
theorem si_hint {Q:Bool→Shared→Prop} (hT:s.TypeIs (.ref a) "set") (h:Q false s):wpAny (model prog w) A (Builtin.List.listLengthHint (.ref a)) Q E s:=by
 unfold Builtin.List.listLengthHint
 refine wpAny_bind (wpAny_specialOf hT PySem.F.slot_set_len.lookup ?_)
 generalize hid:("set.__len__" : String)=id0
 wp_delta
 rw [show splitId id0=some ("set","__len__") from by subst hid;decide +kernel]
 subst hid
 refine wpAny_bind (wpAny_isInstance (T:="set") (b:=true) hT (by rw [isSubtype_type];kernel_rfl) ?_)
 refine wpAny_ite_split (fun hab=>absurd hab (by decide)) (fun _=>?_)
 refine wpAny_ite_split (fun _=>?_) (fun hab=>absurd (by decide +kernel) hab)
 refine wpAny_bind (wpAny_typeOf hT ?_)
 exact wpAny_pure h
theorem si_src (T:T7 (byT w) t es.size) (h8:es.size≤7):PySem.W.KdlSrc prog w "set" a a es.size (fun i v=>∃ e,(walkOf w a ep es)[i]?=some e∧v=e.2) (fun h=>h.get? a=some { cls:=.type "set",data:=.set es ep t }) where
 type:=fun s h=>⟨_,h,rfl⟩
 there:=fun h x=>⟨Heap.lt_size x,Heap.lt_size x⟩
 keep:=fun h h' x k=>k a (.inl rfl) _ x
 notList:=by decide
 notTuple:=by decide
 hint:=fun A E s Q x q=>si_hint ⟨_,x,rfl⟩ q
 iter:=fun A s hh x=>by
  have hne:a ≠ s.heap.objs.size:=Nat.ne_of_lt (Heap.lt_size x)
  refine ⟨_,fun i h=>SetIt w a s.heap.objs.size es ep t i h,fun E Q q=>si_new T h8 x q,?_,⟨⟨_,Heap.get?_push_size _ rfl,rfl,?_⟩,Heap.get?_push_of_some _ x⟩⟩
  ·refine ⟨fun b hb=>?_,fun i h h' st k=>?_,fun i s' Q E hi st q=>?_,fun s' Q E st q=>?_,fun i s' Q E st q=>si_self st q⟩
   ·have e:b=s.heap.objs.size:=by simpa using hb
    simp [e]
   ·obtain ⟨⟨o,h1,h2,h3⟩,h4⟩:=st
    exact ⟨⟨o,k _ (by simp) _ h1,h2,h3⟩,k _ (by simp) _ h4⟩
   ·have hl:i<(walkOf w a ep es).length:=by rw [(qCL w a ep es).length_eq,Array.length_toList];exact hi
    refine si_next T h8 st hne (List.getElem?_eq_getElem hl) fun h' st' k=>?_
    exact q _ h' s'.toks ⟨_,List.getElem?_eq_getElem hl,rfl⟩ st' fun b o hb e=>k b o (fun z=>hb (by simp [z])) e
   ·refine si_end hh T h8 st fun h' k=>?_
    exact q h' s'.toks fun b o hb e=>k b o (fun z=>hb (by simp [z])) e
  ·unfold slotOf
   split <;> rfl
end
end L2
namespace L2
open PySem PySem.Spec PyProof.Rows
theorem qBY {ns:List Int}:∀ {us:List Value},Vals (ns.map V.int) us→IntsAre us ns:=by
 induction ns with
 | nil=>intro us h;cases h;exact .nil
 | cons n r ih=>
  intro us h
  cases h with
  | cons r1 r2=>
   obtain ⟨t,rfl⟩:=r1
   exact IntsAre.cons _ _ (ih r2)
theorem qCM:∀ {us:List Value} {ns:List Int},IntsAre us ns→Vals (ns.map V.int) us:=vals_ints
section
variable {X:Cx}
def SetO (w:World) (a:Addr) (zs:List Int):HO:=.ext (SetI w a zs)
theorem call_set (hc:X.calm=true):CallR X (.type "set") (fun xs H Q=>∃ p ns,xs=[.ref p]∧SqL X.K H p (ns.map V.int)∧ns.length≤4∧∀ a,H a=none→Q (.ref a) (upd H a (SetO X.w a (dedI ns)))):=by
 intro pins s σ H xs us Q I r h
 obtain ⟨p,ns,rfl,hq,h4,q⟩:=h
 obtain ⟨u,rfl,rx⟩:=vals1 r
 cases rx
 obtain ⟨its,rv,pl,hz⟩:=I.list hq
 have hlen:=rv.length
 rw [List.length_map] at hlen
 refine call_set_I (ns:=ns) (I.ok.hd hc) pl.isList (by simpa using qBY rv) (by simp;omega) fun h' tk hS hk=>?_
 refine ⟨.ref s.heap.objs.size,_,I.laid (t':=tk) hk (Nat.le_refl _) ?_,rfl,q _ (I.hok.fresh (Nat.le_refl _))⟩
 obtain ⟨es,ep,t,ks,e,_⟩:=id hS
 exact ⟨hS,⟨_,e⟩,fun h1 h2 x k=>x.at k⟩
theorem Inv.track {pins:List (Addr × Obj)} {s:Shared} {σ:St} {H:Hp} {T:Addr} {o:HO} (I:Inv X pins σ H s) (h0:H T=none) (h1:X.s₀.heap.objs.size≤T) (h2:T ≠ X.env.locals) (h3:∀ x c,X.env.cells.lookup x=some c→c ≠ T) (h4:∀ p ∈ X.pn++pins,p.1 ≠ T)
  (new:ObjOk X.prog X.w (upd H T o) s.heap T o):Inv X pins σ (upd H T o) s:=by
 have old:∀ b ob,X.s₀.heap.get? b=some ob→b ≠ T:=fun b ob e=>Nat.ne_of_lt (Nat.lt_of_lt_of_le (Heap.lt_size e) h1)
 have some':∀ b u,H b=some u→(upd H T o) b=some u:=fun b u e=>by rw [qA8 (qA5 e h0)];exact e
 refine ⟨I.ok,I.os,I.bare,⟨I.base.keep,I.base.slot,fun b ob e n hx=>?_,I.base.there,fun b xs e=>some' _ _ (I.base.tups b xs e),fun b ob u e=>some' _ _ (I.base.frzs b ob u e),fun b ps e=>?_⟩,I.loc,I.cell,?_,fun x c e=>?_,fun p hp=>?_,fun b u e=>?_,I.len⟩
 ·rw [qA8 (old b ob e)];exact I.base.free b ob e n hx
 ·exact some' _ _ (I.base.tbls b ps e)
 ·rw [qA8 (Ne.symm h2)];exact I.free
 ·rw [qA8 (h3 x c e)];exact I.freeC x c e
 ·obtain ⟨e1,n,r⟩:=I.pin p hp
  exact ⟨e1,by rw [qA8 (h4 p hp)];exact n,r⟩
 ·by_cases hb:b=T
  ·subst hb
   rw [qA1] at e
   cases e
   exact new
  ·rw [qA8 hb] at e
   exact (I.hok b u e).stay (fun c v _ q=>q) (fun c q=>some' _ _ q) (fun c ys q=>some' _ _ q) fun c t q=>some' _ _ q
theorem sort_new {pins:List (Addr × Obj)} {s:Shared} {σ:St} {H:Hp} {Q:VK} {A:Around} {E:Value→Shared→Prop} {vs:List Value} {ns:List Int} {D:Addr} (I:Inv X pins σ (upd H D (.lst (ns.map V.int))) s) (hD:H D=none) (h64:ns.length<64)
  (q:∀ ns':List Int,ns'.Perm ns→ns'.Pairwise (·≤·)→Q (.ref D) (upd H D (.lst (ns'.map V.int)))) :
  wpAny (model X.prog X.w) A (call (.builtin "list.sort") [.ref D]) (fun _ s'=>EP X pins σ Q (.ref D) s') E s:=by
 obtain ⟨z,its,n,rv,hl,e⟩:=I.lstM qA1
 have hI:=qBY rv
 have hlen:=rv.length
 rw [List.length_map] at hlen
 refine wpAny_call_entry slot_list_sort ⟨_,e,rfl⟩ entry_list_sort (list_sort_tree (ns:=ns) (n:=n) e hI (by omega) fun out ns' a1 a2 a3=>⟨_,rfl,?_⟩) (args_list_sort _)
 have hat:=sortedHeap_at (vs:=its) (out:=out) e
 obtain ⟨e2,hat⟩:=hat
 refine ⟨.ref D,upd H D (.lst (ns'.map V.int)),?_,rfl,q ns' a2 a3⟩
 have hu:upd (upd H D (.lst (ns.map V.int))) D (.lst (ns'.map V.int))=upd H D (.lst (ns'.map V.int)):=upd_upd
 rw [← hu]
 refine I.write (x:=D) (e:=D) (t':=s.toks) (by rw [qA1];exact trivial) (.inl rfl) (fun b u hb hbu=>?_) ⟨_,hat⟩ ?_
 ·rw [sortedHeap_old hb (Heap.lt_size hbu)];exact hbu
 ·refine ⟨?_,out.toList,e2,qCM a1,by simpa using hat⟩
  rw [List.length_map,a2.length_eq,← List.length_map (f:=V.int)]
  exact z
theorem newList_ok {pins:List (Addr × Obj)} {s:Shared} {σ:St} {H:Hp} {vs:List Value} {ns:List Int} (I:Inv X pins σ H s) (hv:IntsAre vs ns) (hz:ns.length≤sizeLine) :
  Inv X pins σ (upd H s.heap.objs.size (.lst (ns.map V.int))) { s with heap:=s.heap.push { cls:=.type "list",data:=.seq vs.toArray } }:=
 I.lnew (t':=s.toks) (qCM hv) (by rw [List.length_map];exact hz)
theorem qC0 (hc:X.calm=true):CallR X (.builtin "sorted") (fun xs H Q=>∃ p ns,xs=[.ref p]∧(SqL X.K H p (ns.map V.int)∨SqT X.K H p (ns.map V.int)∨H p=some (SetO X.w p ns))∧ns.length<64∧
  ∀ (a:Addr) (ns':List Int),H a=none→ns'.Perm ns→ns'.Pairwise (·≤·)→Q (.ref a) (upd H a (.lst (ns'.map V.int)))):=by
 intro pins s σ H xs us Q I r h
 obtain ⟨p,ns,rfl,hq,h64,q⟩:=h
 obtain ⟨u,rfl,rx⟩:=vals1 r
 cases rx
 refine Calls.call_function_entry kind_sorted plain_sorted entry_sorted (args_sorted1 _) ?_
 unfold Builtin.«sorted»
 refine wpAny_bind (m:=checkCount "sorted" 1 1 _) (wpAny_pure ?_)
 have fin:∀ (s1:Shared) (vs:List Value) (zs:List Int),Inv X pins σ H s1→IntsAre vs zs→zs.Perm ns→wpAny (model X.prog X.w) X.A.in1 (do
   let l ← newList vs
   let _ ← holding [l] (call (.builtin "list.sort") [l] [])
   ret l) (fun fin s'=>∃ r,fin=.done (.ret r)∧EP X pins σ Q r s') X.xe s1:=by
  intro s1 vs zs I1 hv hp
  have hlen:=IntsAre.length hv
  have hz:zs.length≤sizeLine:=by rw [hp.length_eq,sizeLine_eq];omega
  refine wpAny_bind (wpAny_newList ?_ (by rw [hlen];exact hz))
  have hf:=I1.hok.fresh (Nat.le_refl s1.heap.objs.size)
  refine wpAny_bind (wpAny_holding (wpAny_mono (sort_new (E:=X.xe) (vs:=vs) (newList_ok I1 hv hz) hf (by rw [hp.length_eq];exact h64) fun ns' a b=>q _ ns' hf (a.trans hp) b) (fun _ s' x=>?_) fun _ _ e=>e))
  exact wpAny_pure ⟨_,rfl,x⟩
 rcases hq with hq | hq | hq
 ·obtain ⟨its,rv,pl,hz⟩:=I.list hq
  obtain ⟨o,ho,hc',n,hd⟩:=pl.isList
  have hlen:=rv.length
  refine wpAny_bind (wpAny_collect_seq p (.inl rfl) ho hc' hd (fun h' hk=>?_) (by simp;omega))
  exact fin _ _ ns (I.kept (t':=s.toks) hk) (by simpa using qBY rv) (.refl _)
 ·obtain ⟨its,rv,pl,hz⟩:=I.tuple hq
  obtain ⟨o,ho,hc',n,hd⟩:=pl
  have hlen:=rv.length
  refine wpAny_bind (wpAny_collect_seq p (.inr rfl) ho hc' hd (fun h' hk=>?_) (by simp;omega))
  exact fin _ _ ns (I.kept (t':=s.toks) hk) (by simpa using qBY rv) (.refl _)
 ·obtain ⟨hS,_,_⟩:=(show ObjOk X.prog X.w H s.heap p (.ext (SetI X.w p ns)) from I.hok p _ hq)
  obtain ⟨es,ep,t,ks,e,T,he,hp,hnd,h4⟩:=hS
  have hsz:es.size=ns.length:=SetI.size (a:=p) (h:=s.heap) he hp
  obtain ⟨ks',h1,h2⟩:=he.perm (qCL X.w p ep es)
  refine wpAny_bind (PySem.W.kdu_collect (A:=X.A.in1) (si_src (ep:=ep) T (by omega)) (I.ok.hd hc) e (by rw [hsz,sizeLine_eq];omega) fun h' tk acc hk hacc=>?_)
  refine fin _ _ ks' (I.kept (t':=tk) hk) ?_ (h2.trans hp)
  obtain ⟨l1,l2⟩:=hacc
  have key:∀ {ks:List Int} {l:List (Int × Value)},Ents ks l→∀ vs:List Value,vs.length=l.length→(∀ (i:Nat) (v:Value),vs[i]?=some v→∃ e:Int × Value,l[i]?=some e∧v=e.2)→IntsAre vs ks:=by
   intro ks l h
   induction h with
   | nil=>
    intro vs hl _
    have:vs=[]:=List.length_eq_zero_iff.mp hl
    subst this
    exact .nil
   | cons r t ih=>
    intro vs hl hv
    cases vs with
    | nil=>simp at hl
    | cons v vs=>
     obtain ⟨tk,rfl⟩:=r
     obtain ⟨e,he,rfl⟩:=hv 0 v rfl
     simp at he
     subst he
     exact IntsAre.cons _ _ (ih vs (by simpa using hl) fun i v hi=>by simpa using hv (i+1) v (by simpa using hi))
  refine key h1 acc.toList ?_ fun i v hi=>l2 i v (by rw [← Array.getElem?_toList];exact hi)
  rw [Array.length_toList,l1,(qCL X.w p ep es).length_eq,Array.length_toList]
end
end L2
namespace L2
open PySem PySem.Spec PyProof.Rows
section
variable {X:Cx}
def rangeV (lo hi:Int):List V:=(List.range (hi - lo).toNat).map fun (i:Nat)=>V.int (lo+i)
theorem call_rng2:CallR X (.type "range") (fun xs H Q=>∃ i j,xs=[.int i,.int j]∧∀ p,H p=none→Q (.ref p) (upd H p (.rng i j))):=by
 intro pins s σ H xs us Q I r h
 obtain ⟨i,j,rfl,q⟩:=h
 obtain ⟨u,v,rfl,⟨t,rfl⟩,⟨t',rfl⟩⟩:=vals2 r
 refine call_range_2 ⟨.ref s.heap.objs.size,_,I.laid (fun b o e=>Heap.get?_push_of_some _ e) (Nat.le_refl _) ?_,rfl,q _ (I.hok.fresh (Nat.le_refl _))⟩
 exact ⟨_,_,_,Heap.get?_push_size _ rfl⟩
theorem rng_vals {lo hi:Int} {n:Nat} {acc:List Value} (hn:n=(hi - lo).toNat) (hl:acc.length=n) (h:∀ (i:Nat) (v:Value),acc[i]?=some v→∃ t,v=.int (lo+i * 1) t):Vals (rangeV lo hi) acc:=by
 have key:∀ (m:Nat) (acc:List Value),acc.length=m→∀ lo:Int,(∀ (i:Nat) (v:Value),acc[i]?=some v→∃ t,v=.int (lo+i) t)→Vals ((List.range m).map fun (i:Nat)=>V.int (lo+i)) acc:=by
  intro m
  induction m with
  | zero=>
   intro acc hl lo h
   have:acc=[]:=List.length_eq_zero_iff.mp hl
   subst this
   exact .nil
  | succ m ih=>
   intro acc hl lo h
   cases acc with
   | nil=>simp at hl
   | cons v acc=>
    rw [List.range_succ_eq_map,List.map_cons,List.map_map]
    have h0:=h 0 v rfl
    refine .cons h0 ?_
    have h1:=ih acc (by simpa using hl) (lo+1) fun i v hi=>by
     have:=h (i+1) v (by simpa using hi)
     obtain ⟨t,e⟩:=this
     refine ⟨t,?_⟩
     rw [e]
     congr 1
     push_cast
     omega
    have e:((fun (i:Nat)=>V.int (lo+i)) ∘ Nat.succ)=fun (i:Nat)=>V.int (lo+1+i):=by
     funext i
     simp only [Function.comp]
     congr 1
     push_cast
     omega
    rw [e]
    exact h1
 unfold rangeV
 rw [← hn]
 refine key n acc hl lo fun i v hi=>?_
 obtain ⟨t,e⟩:=h i v hi
 exact ⟨t,by rw [e,Int.mul_one]⟩
theorem rangeV_len (lo hi:Int):(rangeV lo hi).length=(hi - lo).toNat:=by unfold rangeV;simp
theorem rsize {lo hi:Int}:Builtin.Range.rangeSize lo hi 1=((hi - lo).toNat:Nat):=by rw [rangeSize_one];split <;> omega
theorem collect_range {prog:Program} {w:World} {A:Around} {E:Value→Shared→Prop} {s:Shared} {R:List Value→Shared→Prop} {r:Addr} {a b:Int} {t u v:Tok} {n:Nat} (hh:A.handled=none) (hr:IsRange s.heap r a b 1 t u v) (hsmall:Builtin.Range.small a b 1=true)
  (hn:Builtin.Range.rangeSize a b 1=n) (hlen:n≤2 ^ 24)
  (h:∀ (h':Heap) (tk:Nat) (acc:Array Value),(∀ b o,s.heap.get? b=some o→h'.get? b=some o)→ItemsOf (fun i v=>∃ t,v=.int (a+i * 1) t) acc n→R acc.toList { s with heap:=h',toks:=tk }) :
  wpAny (model prog w) A (collect (.ref r)) R E s:=by
 unfold collect
 refine wpAny_bind (wpAny_runValue (codeAny_builtin entry_proto_collect' ?_))
 rw [Around.under_plainId PySem.F.plain_proto_collect _]
 show wpAny _ A.in1 (newList [] >>= fun l=>again (.builtin "list.__iadd__" ⟨[l,.ref r],[]⟩)) _ _ s
 refine wpAny_bind (wpAny_newObj_type ?_)
 refine wpAny_pure ⟨plainId_quiet PySem.F.plain_list_iadd _,codeAny_builtin entry_list_iadd' ?_⟩
 rw [Around.under_plainId PySem.F.plain_list_iadd _]
 have hS₁:(s.heap.push { cls:=.type "list",data:=.seq ([]:List Value).toArray }).get? s.heap.objs.size=some { cls:=.type "list",data:=.seq #[] }:=Heap.get?_push_size _ rfl
 show wpAny _ A.in1 (Builtin.List.listExtendWith (.ref s.heap.objs.size) (.ref r) (.ref s.heap.objs.size)) _ _ _
 have key:=wpAny_extend_range (prog:=prog) (w:=w) (A:=A) (s:={ s with heap:=s.heap.push { cls:=.type "list",data:=.seq ([]:List Value).toArray } })
  (R:=fun (q:Result) (s':Shared)=>∃ (h':Heap) (tk:Nat) (acc':Array Value) (c':Nat),q=.ok (.ret (.ref s.heap.objs.size))∧s'={ s with heap:=h',toks:=tk }∧
   (∀ b o,s.heap.get? b=some o→h'.get? b=some o)∧h'.get? s.heap.objs.size=some { cls:=.type "list",dict:=none,data:=.seq acc' c',slots:=#[] }∧ItemsOf (fun i v=>∃ t,v=.int (a+i * 1) t) acc' n)
  hh (Heap.get?_push_of_some _ hr) hsmall hn hlen s.heap.objs.size (.ref s.heap.objs.size) 0 hS₁
  (fun h' tk acc' c' hk hS' hacc=>⟨h',tk,acc',c',rfl,rfl,fun b o e=>hk b o (Nat.ne_of_lt (Heap.lt_size e)) (Heap.get?_push_of_some _ e),hS',hacc⟩)
 refine wpAny_mono key (fun fin s' x=>?_) fun e s' x=>?_
 ·cases fin with
  | done f=>
   obtain ⟨h',tk,acc',c',e,rfl,hk,hS',hacc⟩:=x
   cases e
   show wpAny _ A (load s.heap.objs.size >>= _) _ _ _
   refine wpAny_bind (wpAny_load hS' ?_)
   exact wpAny_pure (h h' tk acc' hk hacc)
  | again c₁=>
   refine ⟨x.1,codeAny_mono x.2 fun q s₂ y=>?_⟩
   obtain ⟨h',tk,acc',c',rfl,rfl,hk,hS',hacc⟩:=y
   show wpAny _ A (load s.heap.objs.size >>= _) _ _ _
   refine wpAny_bind (wpAny_load hS' ?_)
   exact wpAny_pure (h h' tk acc' hk hacc)
 ·obtain ⟨_,_,_,_,e',_⟩:=x
  cases e'
theorem tuple_range {prog:Program} {w:World} {A:Around} {E:Value→Shared→Prop} {s:Shared} {Q:Value→Shared→Prop} {r:Addr} {a b:Int} {t u v:Tok} {n:Nat} (hh:A.handled=none) (hr:IsRange s.heap r a b 1 t u v) (hsmall:Builtin.Range.small a b 1=true)
  (hn:Builtin.Range.rangeSize a b 1=n) (hlen:n≤2 ^ 24)
  (h:∀ (h':Heap) (tk:Nat) (acc:Array Value),(∀ b o,s.heap.get? b=some o→h'.get? b=some o)→ItemsOf (fun i v=>∃ t,v=.int (a+i * 1) t) acc n→Q (.ref h'.objs.size) { s with heap:=h'.push { cls:=.type "tuple",data:=.seq acc },toks:=tk }) :
  wpAny (model prog w) A (call (.type "tuple") [.ref r]) Q E s:=by
 have hcode:codeAny (model prog w) A.in1 (.call (.builtin "tuple.__new__") ⟨[.type "tuple",.ref r],[]⟩) (wants (fun obj s₁=>s₁.TypeIs obj "tuple"∧Q obj s₁) E) s:=by
  refine codeAny_of_tree ?_
  show wpAny _ A.in1.in1 (do checkBuiltinCall "tuple.__new__" ⟨[.type "tuple",.ref r],[]⟩;again (.builtin "tuple.__new__" ⟨[.type "tuple",.ref r],[]⟩)) _ _ s
  refine wpAny_bind (wpAny_of_eq (F.newCall_tuple_1 _) (wpAny_pure ⟨plainId_quiet F.plain_tuple_new _,codeAny_builtin F.entry_tuple_new ?_⟩))
  rw [Around.under_plainId F.plain_tuple_new _]
  have hsub:=sub_tuple_self
  have hinit:=init_tuple_lookup
  have hmh:=madeHere_tuple
  have hTI:s.TypeIs (.ref r) "range":=⟨_,hr,rfl⟩
  wp_walk using wpAny_typeOf hTI,collect_range (prog:=prog) (w:=w) (A:=A.in1.in1) hh hr hsmall hn hlen
  intro h' tk acc hk hacc
  show wpAny _ _ (Builtin.Tuple.tupleExact acc.toList.toArray >>= fun v=>ret v) _ _ _
  unfold Builtin.Tuple.tupleExact
  refine wpAny_bind (wpAny_newObj_type ?_ (by show acc.toList.toArray.size≤sizeLine;simp only [Array.toArray_toList];rw [hacc.1,sizeLine_eq];omega))
  refine wpAny_pure ?_
  have e:acc.toList.toArray=acc:=by simp
  rw [e]
  exact ⟨⟨_,Heap.get?_push_size _ rfl,rfl⟩,h h' tk acc hk hacc⟩
 refine callType_codes (Q₁:=fun obj s₁=>s₁.TypeIs obj "tuple"∧Q obj s₁) F.called_tuple (F.typeCall_tuple_1 _) F.entry_object_init hcode fun obj s₁ h₁=>?_
 exact ⟨h₁.1,F.args_object_init_2 obj _,object_init_meets F.called_tuple.init.lookup F.called_tuple.made (by decide) prog w A.in1 _ s₁ ⟨h₁.1,rfl,h₁.2⟩⟩
theorem call_tuple_rng (hc:X.calm=true):CallR X (.type "tuple") (fun xs H Q=>∃ p lo hi,xs=[.ref p]∧H p=some (.rng lo hi)∧-1000000≤lo∧lo≤1000000∧-1000000≤hi∧hi≤1000000∧∀ l,H l=none→Q (.ref l) (upd H l (.tup (rangeV lo hi)))):=by
 intro pins s σ H xs us Q I r h
 obtain ⟨p,lo,hi,rfl,hp,l1,l2,l3,l4,q⟩:=h
 obtain ⟨u,rfl,rx⟩:=vals1 r
 cases rx
 obtain ⟨t,u,v,e⟩:=(show ∃ t u v,s.heap.get? p=some { cls:=.type "range",data:=.fields #[.int lo t,.int hi u,.int 1 v] } from I.hok p _ hp)
 refine tuple_range (n:=(hi - lo).toNat) (I.ok.hd hc) (show IsRange s.heap p lo hi 1 t u v from e) (small_one (by omega) (by omega) (by omega) (by omega)) rsize (by omega) fun h' tk acc hk hacc=>?_
 obtain ⟨a1,a2⟩:=hacc
 have I1:Inv X pins σ H { s with heap:=h',toks:=tk }:=I.kept hk
 refine ⟨.ref h'.objs.size,_,I1.laid (t':=tk) (fun b o e=>Heap.get?_push_of_some _ e) (Nat.le_refl _) (show ObjOk X.prog X.w _ _ _ (.tup (rangeV lo hi)) from ⟨?_,acc.toList,rng_vals rfl (by simpa using a1) fun i v hi=>a2 i v (by rw [← Array.getElem?_toList];exact hi),?_⟩),rfl,q _ (I1.hok.fresh (Nat.le_refl _))⟩
 ·rw [rangeV_len,sizeLine_eq]
  omega
 ·have:=IsTup.new h' acc
  simpa using this
theorem range_all':∀ (bs:List Bool),((List.range bs.length).all fun i=>(bs[i]?).getD true)=bs.all id:=by
 intro bs
 rw [Bool.eq_iff_iff,List.all_eq_true,List.all_eq_true]
 constructor
 ·intro h b hb
  obtain ⟨i,hi,e⟩:=List.mem_iff_getElem.mp hb
  have:=h i (List.mem_range.mpr hi)
  rw [List.getElem?_eq_getElem hi,e] at this
  exact this
 ·intro h i hi
  have hi':=List.mem_range.mp hi
  rw [List.getElem?_eq_getElem hi']
  exact h _ (List.getElem_mem hi')
theorem call_all (hc:X.calm=true):CallR X (.builtin "all") (fun xs H Q=>∃ (p:Addr) (bs:List Bool),xs=[.ref p]∧SqL X.K H p (bs.map V.bl)∧Q (.bl (bs.all id)) H):=by
 intro pins s σ H xs us Q I r h
 obtain ⟨p,bs,rfl,hq,q⟩:=h
 obtain ⟨u,rfl,rx⟩:=vals1 r
 cases rx
 obtain ⟨its,rv,pl,hz⟩:=I.list hq
 have hl:=pl.isList
 have hlt:p<s.heap.objs.size:=by obtain ⟨_,e,_⟩:=hl;exact Heap.lt_size e
 have hlen:=rv.length
 rw [List.length_map] at hlen
 refine call_all_walk (wpAny_pyIter_list hl ?_)
 refine ⟨s.heap.objs.size,[s.heap.objs.size,p],[s.heap.objs.size],its.toArray.size,_,_,fun i=>(bs[i]?).getD true,rfl,Walks.list (A:=X.A.in1) (I.ok.hd hc) _ p (Nat.ne_of_lt hlt) its.toArray,
  ⟨⟨_,Heap.get?_push_size _ rfl,rfl,rfl⟩,hl.push _⟩,fun i v s' Q' E' hP hQ=>?_,fun h' tk hk=>?_⟩
 ·have hP':its[i]?=some v:=by simpa using hP
  have hi:i<bs.length:=by rw [hlen];exact (List.getElem?_eq_some_iff.mp hP').1
  obtain ⟨u,hu,ru⟩:=rv.get (i:=i) (x:=.bl bs[i]) (by rw [List.getElem?_map,List.getElem?_eq_getElem hi];rfl)
  rw [hP'] at hu
  cases hu
  cases ru
  dsimp only at hQ
  rw [List.getElem?_eq_getElem hi,Option.getD_some] at hQ
  exact wpAny_truthy_bool hQ
 ·have e:((List.range its.toArray.size).all fun i=>(bs[i]?).getD true)=bs.all id:=by
   rw [List.size_toArray,← hlen];exact range_all' bs
  refine ⟨.bl (bs.all id),H,I.kept fun b x e=>hk b x (fun hm=>by rw [List.mem_singleton.mp hm] at e;exact Nat.lt_irrefl _ (Heap.lt_size e)) (Heap.get?_push_of_some _ e),?_,q⟩
  rw [e]
  rfl
theorem op_eq_nil (hu:X.A.units<cLine):OpR X (compareOp .Eq) (fun x y H Q=>∃ p l xs,x=.ref p∧y=.ref l∧SqL X.K H p xs∧SqL X.K H l []∧Q (.bl xs.isEmpty) H):=by
 intro pins s σ H x y v u Q I rx ry h
 obtain ⟨p,l,xs,rfl,rfl,h1,h2,q⟩:=h
 cases rx
 cases ry
 obtain ⟨its,r1,p1,z1⟩:=I.list h1
 obtain ⟨its2,r2,p2,z2⟩:=I.list h2
 cases r2
 cases xs with
 | nil=>
  cases r1
  exact SeqAt.eq_listAt (e:=fun _=>true) p1.isList p2.isList rfl hu (fun j h _=>absurd h (by simp)) ⟨.bl true,H,I,rfl,q⟩
 | cons a r=>
  cases r1
  exact SeqAt.eq_list_lengthsAt p1.isList p2.isList (by simp) hu ⟨.bl false,H,I,rfl,q⟩
end
theorem call_sortedK {X:Cx} {K:PySem.W.Frag} {w:World} (hK:X.K=K) (hw:X.w=w) (hc:X.calm=true):CallR X (.builtin "sorted") (fun xs H Q=>∃ p ns,xs=[.ref p]∧(SqL K H p (ns.map V.int)∨SqT K H p (ns.map V.int)∨H p=some (SetO w p ns))∧ns.length<64∧
  ∀ (a:Addr) (ns':List Int),H a=none→ns'.Perm ns→ns'.Pairwise (·≤·)→Q (.ref a) (upd H a (.lst (ns'.map V.int)))):=by subst hK hw;exact qC0 hc
theorem call_setK {X:Cx} {K:PySem.W.Frag} {w:World} (hK:X.K=K) (hw:X.w=w) (hc:X.calm=true):CallR X (.type "set") (fun xs H Q=>∃ p ns,xs=[.ref p]∧SqL K H p (ns.map V.int)∧ns.length≤4∧∀ a,H a=none→Q (.ref a) (upd H a (SetO w a (dedI ns)))):=by subst hK hw;exact call_set hc
end L2
namespace L2
open PySem PySem.Spec PyProof.Rows
def Ite (K:PySem.W.Frag) (l:Addr):It:=
 ⟨fun i H=>∃ xs x,SqL K H l xs∧xs[i]?=some x,fun i H v H'=>∃ T x,H T=none∧v=.ref T∧H'=upd H T (.tup [.int (i:Int),x])∧∀ xs,SqL K H l xs→xs[i]?=some x,fun i H=>∃ xs,SqL K H l xs∧xs.length≤i⟩
section
variable {X:Cx}
theorem Inv.turnedL {pins:List (Addr × Obj)} {s:Shared} {σ:St} {H:Hp} {h':Heap} {t':Nat} {ch:List Addr} (I:Inv X pins σ H s) (k:∀ b o,b ∉ ch→s.heap.get? b=some o→h'.get? b=some o) (hc:∀ b ∈ ch,FpOk X pins H b):Inv X pins σ H { s with heap:=h',toks:=t' }:=by
 have nit:∀ b u,H b=some u→b ∉ ch:=fun b u e z=>by rw [(hc b z).1] at e;cases e
 refine I.step (g':=s.gens) (d':=s.drawn) (ch:=ch) (fun b hb=>⟨(hc b hb).2.2.2.1,(hc b hb).2.1,(hc b hb).2.2.2.2.1,(hc b hb).2.2.2.2.2⟩) (fun b o _ _ hc' e _=>k b o hc' e) (fun b o _ _ hc' e _=>⟨o.slots,k b o hc' e⟩) (fun _ _ _ _ n=>n)
  (fun b o hc' e=>⟨o,k b o hc' e⟩) (fun _ _ e=>e) (fun _ _ _ e=>e) (fun _ _ e=>e) (fun m hm=>?_) (fun b u e=>?_) I.bare
 ·obtain ⟨o,es,ep,ho,r⟩:=hm
  exact ⟨o,es,ep,k _ o (fun z=>(hc _ z).2.1 rfl) ho,r⟩
 ·refine (I.hok b u e).stay (fun c v hc' q=>k c v ?_ q) (fun _ q=>q) fun _ _ q=>q
  rcases hc' with z | z
  ·rw [z];exact nit b u e
  ·exact nit c _ z
theorem turn_enum {P:Program} {w:World} {K:PySem.W.Frag} {elts:List Expr} {k:Nat} {pos:Pos} (l it e:Addr) (hne:e ≠ it):Turn P w K (.Tuple elts k pos) (Ite K l) [e,it] e (fun i h=>(∃ old,IsEnum h e it i old)∧h.IsListIter it l i) where
 mem:=by simp
 obj:=fun i h st b hb=>by
  obtain ⟨⟨old,h1⟩,o,h2,_,h4⟩:=st
  have e':b=e∨b=it:=by simpa using hb
  rcases e' with rfl | rfl
  ·exact ⟨_,h1,fun v z=>by
    have z':Data.fields _=Data.cell v:=z
    cases z'⟩
  ·exact ⟨o,h2,fun v z=>by rw [h4] at z;cases z⟩
 keep:=fun i h h' st kk=>by
  obtain ⟨⟨old,h1⟩,h2⟩:=st
  exact ⟨⟨old,kk e (by simp) _ h1⟩,h2.at fun o q=>kk it (by simp) o q⟩
 item:=by
  intro X hP hw hK hc i pins s σ H E I hf st hg
  subst hP hw hK
  obtain ⟨xs,x,hq,hx⟩:=hg
  obtain ⟨its,rv,p,hz⟩:=I.list hq
  obtain ⟨u,hu,ru⟩:=rv.get hx
  obtain ⟨⟨old,h1⟩,h2⟩:=st
  refine wpAny_pyNext_enum_item h1 h2 p.isList (x:=u) (by simpa using hu) hne fun h' a1 a2 a3 a4 a5=>?_
  refine ⟨_,rfl,wpAny_letOwnedTupleGo_enum a1 fun h2 b1 b2=>?_⟩
  have ltE:e<s.heap.objs.size:=Heap.lt_size h1
  have I1:Inv X pins σ H { s with heap:=h2,toks:=s.toks+1 }:=I.turnedL (ch:=[e,it]) (fun b o hb q=>by
   have hb1:b ≠ e:=fun z=>hb (by simp [z])
   have hb2:b ≠ it:=fun z=>hb (by simp [z])
   exact (b2.2 b hb1).trans (a5 b o hb1 hb2 q)) hf
  have hT:H s.heap.objs.size=none:=I.hok.fresh (Nat.le_refl _)
  have fT:=I.fpOk (H':=H) (b:=s.heap.objs.size) (Nat.le_refl _) hT
  have gT:h2.get? s.heap.objs.size=some { cls:=.type "tuple",data:=.seq #[.int i s.toks,u] }:=(b2.2 _ (Nat.ne_of_gt ltE)).trans a3
  refine ⟨.ref s.heap.objs.size,upd H s.heap.objs.size (.tup [.int (i:Int),x]),I1.track hT I.sz fT.2.1 fT.2.2.2.2.1 fT.2.2.2.2.2 ⟨by simp only [List.length_cons,List.length_nil];rw [sizeLine_eq];decide,[.int (i:Int) s.toks,u],.cons ⟨_,rfl⟩ (.cons ru .nil),⟨_,gT,rfl,_,rfl⟩⟩,rfl,
   ⟨_,x,hT,rfl,rfl,fun ys hy=>by rw [I.list_inj hy hq];exact hx⟩,⟨⟨_,b1⟩,a2.at fun o q=>(b2.2 it (Ne.symm hne)).trans q⟩,fun b hb=>?_⟩
  have ltb:b<s.heap.objs.size:=by
   have e':b=e∨b=it:=by simpa using hb
   rcases e' with rfl | rfl
   ·exact ltE
   ·obtain ⟨o,q,_⟩:=h2;exact Heap.lt_size (by assumption)
  rw [qA8 (Nat.ne_of_lt ltb)]
  exact (hf b hb).1
 done:=by
  intro X hP hw hK hc i pins s σ H E I hf st hg
  subst hP hw hK
  obtain ⟨xs,hq,hx⟩:=hg
  obtain ⟨its,rv,p,hz⟩:=I.list hq
  have hl:=rv.length
  obtain ⟨⟨old,h1⟩,h2⟩:=st
  exact wpAny_pyNext_enum_end (I.ok.hd hc) h1 h2 p.isList (by simp;omega) fun h' eb=>⟨rfl,I.turnedL (t':=s.toks) (ch:=[e,it]) (fun b o hb q=>eb b o (fun z=>hb (by simp [z])) q) hf⟩
 self:=fun _ _ _ _ _ st h=>by
  obtain ⟨⟨old,h1⟩,h2⟩:=st
  exact wpAny_pyIter_enum h1 h
def iEnum (K:PySem.W.Frag) (ta:TA):TI:=fun σ H R=>ta σ H fun vs H1=>∃ l,vs=[.ref l]∧(∃ xs,SqL K H1 l xs)∧R (Ite K l) H1
theorem pi_enum {elts:List Expr} {k:Nat} {tpos:Pos} {a:Expr} {ta:TA} {p pos:Pos} (hg:Gl X "enumerate") (hm:X.mg "enumerate" = none) (hv:bootBuiltins "enumerate" = some (.type "enumerate")) (ha:PA X [a] ta) (hs:starEach [a] X.env=[(false,eval a X.env)]:=by rfl) :
  PI X (.Tuple elts k tpos) (.Call (.Name "enumerate" p) [a] [] pos) (iEnum X.K ta):=by
 intro pins s σ H R I h
 refine Call_ (ld_blt I hg hm hv (PyProof.Rows.callWith_type1 (thn (ha pos pins s σ H _ I h) fun us s1 ⟨vs,H1,I1,r1,q1⟩=>?_) hs rfl))
 obtain ⟨l,e,⟨xs,hq⟩,q⟩:=q1
 subst e
 obtain ⟨u,rfl,rx⟩:=vals1 r1
 cases rx
 obtain ⟨its,rv,pl,hz⟩:=I1.list hq
 refine call_enumerate_list pl.isList fun h' he hi hsz hk=>?_
 refine wpAny_pyIter_enum he ?_
 have I2:Inv X pins σ H1 { s1 with heap:=h' }:=I1.kept (t':=s1.toks) hk
 refine ⟨s1.heap.objs.size+1,[s1.heap.objs.size+1,s1.heap.objs.size],_,_,H1,rfl,I2,turn_enum l s1.heap.objs.size (s1.heap.objs.size+1) (Nat.succ_ne_self _),⟨⟨_,he⟩,hi⟩,fun b hb=>?_,q⟩
 have e':b=s1.heap.objs.size+1∨b=s1.heap.objs.size:=by simpa using hb
 rcases e' with rfl | rfl
 ·exact I1.fpOk (Nat.le_succ _) (I1.hok.fresh (Nat.le_succ _))
 ·exact I1.fpOk (Nat.le_refl _) (I1.hok.fresh (Nat.le_refl _))
end
theorem lc_enum {K:PySem.W.Frag} {a:Addr} {xs:List V} {g:TG} {tc:TT} {te:TE} {Kf:Hp→Prop} {σ0:St} {H0:Hp} {p:Addr} (Pv:Nat→St→Hp→Prop) (h0:Pv 0 σ0 H0) (hl:∀ i σ H,i≤xs.length→Pv i σ H→SqL K H a xs)
  (hs:∀ i x σ H T,xs[i]?=some x→Pv i σ H→H T=none→g (.ref T) σ (upd H T (.tup [.int (i:Int),x])) fun σ2 H2=>tc σ2 H2 fun b H3=>if b=true then te σ2 H3 fun y H4=>∃ ys,H4 p=some (.lst ys)∧ys.length<sizeLine∧Pv (i+1) σ2 (upd H4 p (.lst (ys++[y]))) else Pv (i+1) σ2 H3)
  (hd:∀ σ H,Pv xs.length σ H→Kf H) :
  ∃ W:Nat→Nat→St→Hp→Prop,(∃ m,W 0 m σ0 H0)∧∀ i m σ H,W i m σ H→
   ((Ite K a).stop i H∧Kf H)∨((Ite K a).go i H∧∃ N:St→Hp→Prop,(∀ σ' H',N σ' H'→∃ m',m'<m∧W (i+1) m' σ' H')∧∀ x H',(Ite K a).yld i H x H'→g x σ H' fun σ2 H2=>tc σ2 H2 fun b H3=>
    if b=true then te σ2 H3 fun y H4=>∃ ys,H4 p=some (.lst ys)∧ys.length<sizeLine∧N σ2 (upd H4 p (.lst (ys++[y]))) else N σ2 H3):=by
 refine ⟨fun i m σ H=>m=xs.length - i∧i≤xs.length∧Pv i σ H,⟨xs.length,by simp,Nat.zero_le _,h0⟩,?_⟩
 rintro i m σ H ⟨rfl,hi,q⟩
 have hq:=hl i σ H hi q
 by_cases hlt:i<xs.length
 ·refine .inr ⟨⟨xs,xs[i],hq,by simp [hlt]⟩,Pv (i+1),fun σ' H' p'=>⟨xs.length - (i+1),by omega,rfl,hlt,p'⟩,fun v H' y=>?_⟩
  obtain ⟨T,x,hT,e1,e2,y⟩:=y
  subst e1 e2
  exact hs i x σ H T (y xs hq) q hT
 ·have e:i=xs.length:=by omega
  subst e
  exact .inl ⟨⟨xs,hq,Nat.le_refl _⟩,hd σ H q⟩
end L2
namespace L2
open PySem PySem.Spec PyProof.Rows
section
variable {b:Bool} {prog:Program} {w:World} {A:Around} {E:Value→Shared→Prop} {s:Shared} {z TI TO i1 i2 l1 l2:Addr} {k1 k2:Nat} {xs ys:Array Value}
end
end L2
namespace L2
open PySem PySem.Spec PyProof.Rows
section
variable {X:Cx}
end
end L2
namespace L2
open PySem PySem.Spec PyProof.Rows
section
variable {X:Cx}
end
end L2
namespace L2
open PySem
section
variable {es:List Expr} {env:Env} {p:Pos}
end
end L2
namespace L2
open PySem
@[irreducible] def cst (i:Int) (p:Pos):Expr:=.Constant (.int i) 0 p
end L2
namespace L2
open PySem
end L2
namespace L2
open PySem
@[elab_as_elim] theorem us0 {α:Type} {P:List α→Prop} (us:List α) (hl:us.length=0) (h:P []):P us:=by
 match us,hl with
 | [],_=>exact h
@[elab_as_elim] theorem us1 {α:Type} {P:List α→Prop} (us:List α) (hl:us.length=1) (h:∀ a,P [a]):P us:=by
 match us,hl with
 | [a],_=>exact h a
@[elab_as_elim] theorem us2 {α:Type} {P:List α→Prop} (us:List α) (hl:us.length=2) (h:∀ a b,P [a,b]):P us:=by
 match us,hl with
 | [a,b],_=>exact h a b
@[elab_as_elim] theorem us3 {α:Type} {P:List α→Prop} (us:List α) (hl:us.length=3) (h:∀ a b c,P [a,b,c]):P us:=by
 match us,hl with
 | [a,b,c],_=>exact h a b c
@[elab_as_elim] theorem us4 {α:Type} {P:List α→Prop} (us:List α) (hl:us.length=4) (h:∀ a b c d,P [a,b,c,d]):P us:=by
 match us,hl with
 | [a,b,c,d],_=>exact h a b c d
end L2
namespace L2
open PySem PySem.Spec PyProof.Rows
section
variable {prog:Program} {w:World} {A:Around} {E:Value→Shared→Prop} {s:Shared}
end
section
variable {X:Cx}
theorem ints_by:∀ {vs:List Value} {ns:List Int},vs.length=ns.length→(∀ (i:Nat) (v:Value),vs[i]?=some v→∃ n t,ns[i]?=some n∧v=.int n t)→IntsAre vs ns
 | [],[],_,_=>.nil
 | [],_::_,h,_=>by simp at h
 | _::_,[],h,_=>by simp at h
 | v::vs,n::ns,h,f=>by
  obtain ⟨m,t,e1,e2⟩:=f 0 v rfl
  cases (show n=m from Option.some.inj e1)
  rw [e2]
  exact .cons _ _ (ints_by (by simpa using h) fun i u hu=>by simpa using f (i+1) u (by simpa using hu))
theorem keys_of {κ:Type}:∀ {kvs:List (κ × V)} {vs:List (κ × Value)},KV kvs vs→kvs.map (·.1)=vs.map (·.1):=by
 intro kvs vs r
 unfold KV at r
 induction r with
 | nil=>rfl
 | cons h t ih=>rw [List.map_cons,List.map_cons,ih,h.1]
def Itd (lo:Int) (n:Nat):It:=⟨fun i _=>i<n,fun i H x H'=>H'=H∧x=.int (lo - i),fun i _=>n≤i⟩
theorem turn_down {P:Program} {w:World} {K:PySem.W.Frag} {tg:Expr} (it:Addr) (lo:Int) (n:Nat):Turn P w K tg (Itd lo n) [it] it (fun i h=>IsRangeIter h it (lo+(i:Nat) * (-1)) ((n:Int) - (i:Nat)) (-1)) where
 mem:=List.mem_singleton.mpr rfl
 obj:=fun i h st b hb=>by
  cases List.mem_singleton.mp hb
  exact ⟨_,st,fun v z=>nomatch (show Data.fields _=Data.cell v from z)⟩
 keep:=fun i h h' st k=>k it (List.mem_singleton.mpr rfl) _ st
 item:=by
  intro X hP hw hK hc i pins s σ H E I hf st hg
  subst hP hw hK
  obtain ⟨f0,f1,f2,f3,f4,f5⟩:=hf it (List.mem_singleton.mpr rfl)
  refine (Walks.range (prog:=X.prog) (w:=X.w) (I.ok.hd hc) it lo (-1) n).item i s _ _ hg st fun v h' tk hv st' kk=>?_
  obtain ⟨t,rfl⟩:=hv
  have I1:Inv X pins σ H { s with heap:=h',toks:=tk }:=I.turned (fun b o hb e=>kk b o (by simpa using hb) e) f0 f1 f3 f4 f5
  refine ⟨_,rfl,go_of (s:={ s with heap:=h',toks:=tk }) (n:="range_iterator") st' rfl rfl (by decide) ⟨.int (lo - i),H,I1,⟨t,?_⟩,⟨rfl,rfl⟩,st',fun b hb=>(hf b hb).1⟩⟩
  rw [show lo+(i:Int) * (-1)=lo - i by omega]
 done:=by
  intro X hP hw hK hc i pins s σ H E I hf st hg
  subst hP hw hK
  obtain ⟨f0,f1,f2,f3,f4,f5⟩:=hf it (List.mem_singleton.mpr rfl)
  have hle:n≤i:=hg
  exact wpAny_pyNext_range_end (I.ok.hd hc) st (by omega) fun h' eb=>⟨rfl,I.turned (t':=s.toks) (fun b o hb e=>eb b o hb e) f0 f1 f3 f4 f5⟩
 self:=fun _ _ _ _ _ st h=>wpAny_pyIter_rangeiter st h
def iRngD (ta:TA):TI:=fun σ H R=>ta σ H fun vs H1=>∃ i j:Int,vs=[.int i,.int j,.int (-1)]∧(-(2 ^ 62)≤i∧i<2 ^ 62∧-(2 ^ 62)≤j∧j<2 ^ 62)∧R (Itd i (i - j).toNat) H1
theorem pi_down {tg a b c:Expr} {ta:TA} {p pos:Pos} (hg:Gl X "range") (hm:X.mg "range" = none) (ha:PA X [a,b,c] ta) (hs:starEach [a,b,c] X.env=[(false,eval a X.env),(false,eval b X.env),(false,eval c X.env)]:=by rfl)
  (hs2:starEach [b,c] X.env=[(false,eval b X.env),(false,eval c X.env)]:=by rfl):PI X tg (.Call (.Name "range" p) [a,b,c] [] pos) (iRngD ta):=by
 intro pins s σ H R I h
 refine Call_ (ld_blt I hg hm boot_range (PyProof.Rows.callWith_type1 (thn (ha pos pins s σ H _ I h) fun us s1 ⟨vs,H1,I1,r1,q1⟩=>?_) (by rw [hs,hs2]) (by rw [hs2];rfl)))
 obtain ⟨i,j,e,⟨q1,q2,q3,q4⟩,q⟩:=q1
 subst e
 obtain ⟨u1,rr,rfl,⟨t1,rfl⟩,r2⟩:∃ u rr,us=u::rr∧RelV (.int i) u∧Vals [.int j,.int (-1)] rr:=by cases r1 with | cons r rr=>exact ⟨_,_,rfl,r,rr⟩
 obtain ⟨u2,u3,rfl,⟨t2,rfl⟩,⟨t3,rfl⟩⟩:=vals2 r2
 refine call_range_3 (by decide) ?_ (Or.inl (PyProof.noPylong_small (by omega)))
 refine wpAny_pyIter_range (IsRange.new ..) (PySem.W.small_down q1 q2 q3 q4) ?_
 have I2:Inv X pins σ H1 { s1 with heap:=s1.heap.push { cls:=.type "range",data:=.fields #[.int i t1,.int j t2,.int (-1) t3] },toks:=s1.toks }:=I1.kept fun b o e=>Heap.get?_push_of_some _ e
 refine ⟨(s1.heap.push { cls:=.type "range",data:=.fields #[.int i t1,.int j t2,.int (-1) t3] }).objs.size,[(s1.heap.push { cls:=.type "range",data:=.fields #[.int i t1,.int j t2,.int (-1) t3] }).objs.size],_,_,H1,rfl,
  I2.kept (t':=s1.toks) fun b o e=>Heap.get?_push_of_some _ e,turn_down _ i (i - j).toNat,?_,fun b hb=>?_,q⟩
 ·have e1:i+((0:Nat):Int) * (-1)=i:=by simp
  have e2:(((i - j).toNat:Nat):Int) - ((0:Nat):Int)=Builtin.Range.rangeSize i j (-1):=by rw [PySem.W.rangeSize_downNat];simp
  show IsRangeIter _ _ (i+((0:Nat):Int) * (-1)) ((((i - j).toNat:Nat):Int) - ((0:Nat):Int)) (-1)
  rw [e1,e2]
  exact Heap.get?_push_size _ rfl
 ·cases List.mem_singleton.mp hb
  exact I2.fpOk (Nat.le_refl _) (I2.hok.fresh (Nat.le_refl _))
theorem for_down {lo:Int} {n:Nat} {g:TG} {tb:TS} {D:Ends} {σ:St} {H:Hp} (Pv:Nat→St→Hp→Prop) (h0:Pv 0 σ H)
  (hs:∀ i σ H,i<n→Pv i σ H→g (.int (lo - i)) σ H fun σ2 H2=>tb { D with nx:=Pv (i+1),ct:=Pv (i+1),bk:=D.nx } σ2 H2) (hd:∀ σ H,Pv n σ H→D.nx σ H) :
  ∃ W:Nat→Nat→St→Hp→Prop,(∃ m,W 0 m σ H)∧∀ i m σ H,W i m σ H→
   ((Itd lo n).stop i H∧D.nx σ H)∨((Itd lo n).go i H∧∃ N:St→Hp→Prop,(∀ σ' H',N σ' H'→∃ m',m'<m∧W (i+1) m' σ' H')∧∀ x H',(Itd lo n).yld i H x H'→g x σ H' fun σ2 H2=>tb { D with nx:=N,ct:=N,bk:=D.nx } σ2 H2):=by
 refine ⟨fun i m σ H=>m=n - i∧i≤n∧Pv i σ H,⟨n,by simp,Nat.zero_le _,h0⟩,fun i m σ H ⟨e,hi,p⟩=>?_⟩
 rcases Nat.lt_or_ge i n with hlt | hge
 ·refine .inr ⟨hlt,Pv (i+1),fun σ' H' p'=>⟨n - (i+1),by omega,rfl,hlt,p'⟩,fun x H' y=>?_⟩
  rw [y.1,y.2]
  exact hs i σ H hlt p
 ·have e2:i=n:=by omega
  rw [e2] at p
  exact .inl ⟨hge,hd σ H p⟩
theorem op_ne_nil (hu:X.A.units<cLine):OpR X (compareOp .NotEq) (fun x y H Q=>∃ p l xs,x=.ref p∧y=.ref l∧SqL X.K H p xs∧SqL X.K H l []∧Q (.bl (!xs.isEmpty)) H):=by
 intro pins s σ H x y v u Q I rx ry h
 obtain ⟨p,l,xs,rfl,rfl,h1,h2,q⟩:=h
 cases rx
 cases ry
 obtain ⟨its,r1,p1,z1⟩:=I.list h1
 obtain ⟨its2,r2,p2,z2⟩:=I.list h2
 cases r2
 cases r1 with
 | nil=>exact PySem.SeqAt.RcNeAt.lists (e:=fun _=>true) p1.isList p2.isList rfl hu (fun j h _=>absurd h (by simp)) _ _ _ _ ⟨.bl false,H,I,rfl,q⟩
 | cons a r=>exact PySem.SeqAt.RcNeAt.lists_lengths p1.isList p2.isList (by simp) hu _ _ _ _ ⟨.bl true,H,I,rfl,q⟩
end
end L2
namespace L2.GS
open PySem PyProof.Rows
abbrev gSM:=StateT SortSt Sem
class NM where
 nm:Value→Int
 good:Value→Prop
variable [NM]
def gkv (p:Keyed):Int:=NM.nm p.1
def gIK (p:Keyed):Prop:=NM.good p.1
class LtOk (prog:Program) (w:World) (A:Around) (s:Shared) (κ0:SortKind):Prop where
 lt:∀ {x y:Value} {Q:Bool→Shared→Prop} {E:Value→Shared→Prop},NM.good x→NM.good y→Q (decide (NM.nm x<NM.nm y)) s→wpAny (model prog w) A (keyLt' κ0 x y) Q E s
def gK (xs:Array Keyed) (i:Nat):Int:=match xs[i]? with
 | some p=>NM.nm p.1
 | none=>0
def gSortedTo (xs:Array Keyed) (k:Nat):Prop:=∀ i j,i≤j→j<k→gK xs i≤gK xs j
def gIntKeys (xs:Array Keyed):Prop:=∀ p,p ∈ xs.toList→NM.good p.1
theorem gK_eq {xs:Array Keyed} {i:Nat} (hi:i<xs.size):gK xs i=NM.nm xs[i].1:=by unfold gK;rw [getElem?_pos xs i hi]
theorem gK_congr {xs ys:Array Keyed} {i j:Nat} (h:xs[i]?=ys[j]?):gK xs i=gK ys j:=by unfold gK;rw [h]
theorem gK_bubble {xs:Array Keyed} {src d:Nat} (hs:src<xs.size) (hd:d≤src) (k:Nat) :
  gK (bubble xs src d) k=if k=src - d then gK xs src else if src - d<k∧k≤src then gK xs (k - 1) else gK xs k:=by
 have e:=getElem?_bubble hs d hd k
 by_cases h1:k=src - d
 ·rw [if_pos h1] at e ⊢;exact gK_congr e
 ·rw [if_neg h1] at e ⊢
  by_cases h2:src - d<k∧k≤src
  ·rw [if_pos h2] at e ⊢;exact gK_congr e
  ·rw [if_neg h2] at e ⊢;exact gK_congr e
theorem gK_mirror {xs:Array Keyed} {i j:Nat} (hj:j≤xs.size) (k:Nat) :
  gK (mirror xs i j ((j - i) / 2)) k=if i≤k∧k<j then gK xs (i+j - 1 - k) else gK xs k:=by
 have e:=getElem?_mirror_all (i:=i) hj k
 by_cases h1:i≤k∧k<j
 ·rw [if_pos h1] at e ⊢;exact gK_congr e
 ·rw [if_neg h1] at e ⊢;exact gK_congr e
theorem qAM {xs:Array Keyed} {i j:Nat} (hj:j≤xs.size) (heq:∀ k,i≤k→k<j→gK xs k=gK xs (j - 1)) (k:Nat) :
  gK (mirror xs i j ((j - i) / 2)) k=gK xs k:=by
 rw [gK_mirror hj]
 split
 ·rw [heq _ (by omega) (by omega),heq k (by omega) (by omega)]
 ·rfl
section
variable {prog:Program} {w:World} {A:Around} {E:Value→Shared→Prop} {s:Shared} {κ0:SortKind} [LtOk prog w A s κ0]
theorem gwpS_lt2 {st:SortSt} {x y:Keyed} {Q:Option Bool→SortSt→Prop} (hk:kindOf st=κ0) (hx:gIK x) (hy:gIK y) (h:Q (some (decide (gkv x<gkv y))) st):wpS (model prog w) A E s (lt' x y) Q st:=by
 rw [lt'_eq]
 refine wpS_bind (wpS_get ?_)
 rw [hk]
 refine wpS_bind (wpS_lift (wpAny_attempt (LtOk.lt hx hy ⟨rfl,?_⟩)))
 exact wpS_pure h
theorem gwpS_el {st:SortSt} {arr:Array Keyed} {i:Nat} {x:Keyed} {Q:Keyed→SortSt→Prop} (h:arr[i]?=some x) (hQ:Q x st):wpS (model prog w) A E s (elem' arr i) Q st:=by
 rw [elem'_eq,h]
 exact wpS_pure hQ
end
end L2.GS
namespace L2.GS
open PySem PyProof.Rows
variable [NM]
structure gMR (R:Keyed→Keyed→Prop) (all out ra rb:List Keyed):Prop where
 perm:(out++(ra++rb)).Perm all
 up:out.Pairwise R
 ua:ra.Pairwise R
 ub:rb.Pairwise R
 la:∀ x ∈ out,∀ y ∈ ra,R x y
 lb:∀ x ∈ out,∀ y ∈ rb,R x y
section
variable {R:Keyed→Keyed→Prop} {all out ra rb xs:List Keyed}
end
theorem garr_at {a:Array Keyed} {i:Nat} (h:i<a.size):∃ x,a[i]?=some x∧a.toList[i]?=some x∧x ∈ a.toList:=⟨a[i],Array.getElem?_eq_getElem h,by simp [h],by simp⟩
end L2.GS
namespace L2.GS
open PySem PyProof.Rows
variable [NM]
section
variable {prog:Program} {w:World} {A:Around} {E:Value→Shared→Prop} {s:Shared} {κ0:SortKind} [LtOk prog w A s κ0]
end
end L2.GS
namespace L2.GS
open PySem PyProof.Rows
variable [NM]
section
variable {prog:Program} {w:World} {A:Around} {E:Value→Shared→Prop} {s:Shared} {κ0:SortKind} [LtOk prog w A s κ0]
end
end L2.GS
namespace L2.GS
open PySem PyProof.Rows
variable [NM]
def gSeg (xs:Array Keyed) (lo hi:Nat):Prop:=∀ i j,lo≤i→i≤j→j<hi→gK xs i≤gK xs j
theorem gK_some {xs:Array Keyed} {i:Nat} {x:Keyed} (h:xs[i]?=some x):gK xs i=gkv x:=by
 unfold gK
 rw [h]
 rfl
section
variable {prog:Program} {w:World} {A:Around} {E:Value→Shared→Prop} {s:Shared} {κ0:SortKind} [LtOk prog w A s κ0]
structure gSG (κ0:SortKind) (a₀:Array Keyed) (st:SortSt):Prop where
 perm:(arrOf st).Perm a₀
 kind:kindOf st=κ0
 failed:failedOf st=none
theorem gSG.size {a₀:Array Keyed} {st:SortSt} (h:gSG κ0 a₀ st):(arrOf st).size=a₀.size:=h.perm.size_eq
theorem gSG.ik {a₀:Array Keyed} {st:SortSt} (h:gSG κ0 a₀ st) (h0:gIntKeys a₀):∀ x ∈ (arrOf st).toList,gIK x:=fun x hx=>h0 x ((Array.perm_iff_toList_perm.mp h.perm).mem_iff.mp hx)
end
end L2.GS
namespace L2.GS
open PySem PyProof.Rows
variable [NM]
def gOut (xs ys:Array Keyed) (lo hi:Nat):Prop:=∀ k,k<lo∨hi≤k→gK ys k=gK xs k
theorem gOut.refl (xs:Array Keyed) (lo hi:Nat):gOut xs xs lo hi:=fun _ _=>rfl
theorem gOut.trans {xs ys zs:Array Keyed} {lo hi:Nat} (h1:gOut xs ys lo hi) (h2:gOut ys zs lo hi):gOut xs zs lo hi:=fun k hk=>(h2 k hk).trans (h1 k hk)
theorem gOut.wide {xs ys:Array Keyed} {lo hi lo' hi':Nat} (h:gOut xs ys lo hi) (a:lo'≤lo) (b:hi≤hi'):gOut xs ys lo' hi':=fun k hk=>h k (by omega)
theorem gSG.lay {κ0:SortKind} {a₀:Array Keyed} {st:SortSt} (g:gSG κ0 a₀ st) {ys:Array Keyed} (p:ys.Perm (arrOf st)):gSG κ0 a₀ (setArr st ys):=⟨p.trans g.perm,g.kind,g.failed⟩
theorem gout_mirror {xs:Array Keyed} {i j:Nat} (hj:j≤xs.size):gOut xs (mirror xs i j ((j - i) / 2)) i j:=fun k hk=>by rw [gK_mirror hj,if_neg (by omega)]
section
variable {prog:Program} {w:World} {A:Around} {E:Value→Shared→Prop} {s:Shared} {κ0:SortKind} [LtOk prog w A s κ0] {a₀:Array Keyed}
theorem gwpS_ltG {st:SortSt} {i j:Nat} {Q:Option Bool→SortSt→Prop} (h0:gIntKeys a₀) (g:gSG κ0 a₀ st) (hi:i<a₀.size) (hj:j<a₀.size) (h:Q (some (decide (gK (arrOf st) i<gK (arrOf st) j))) st):wpS (model prog w) A E s (ltAt' i j) Q st:=by
 have hi2:i<(arrOf st).size:=by rw [g.size];exact hi
 have hj2:j<(arrOf st).size:=by rw [g.size];exact hj
 obtain ⟨x,ex,_,mx⟩:=garr_at hi2
 obtain ⟨y,ey,_,my⟩:=garr_at hj2
 rw [gK_some ex,gK_some ey] at h
 rw [ltAt'_eq]
 refine wpS_bind (wpS_get ?_)
 exact wpS_bind (gwpS_el ex (wpS_bind (gwpS_el ey (gwpS_lt2 g.kind (g.ik h0 x mx) (g.ik h0 y my) h))))
theorem gwpS_bin {st:SortSt} {lo n ok:Nat} {Q:Bool→SortSt→Prop} (h0:gIntKeys a₀) (g:gSG κ0 a₀ st) (hn:lo+n≤a₀.size) (hok:ok≤n) (u:gSeg (arrOf st) lo (lo+ok))
  (h:∀ st2,gSG κ0 a₀ st2→pendingOf st2=pendingOf st→gSeg (arrOf st2) lo (lo+n)→gOut (arrOf st) (arrOf st2) lo (lo+n)→Q true st2):wpS (model prog w) A E s (binarySort' lo n ok) Q st:=by
 rw [binarySort'_eq]
 refine wpS_bind (wpS_mono (wpS_forRange (I:=fun k c st2=>c=(none,())∧gSG κ0 a₀ st2∧pendingOf st2=pendingOf st∧gSeg (arrOf st2) lo (lo+min k n)∧gOut (arrOf st) (arrOf st2) lo (lo+n))
  (Q:=fun c st2=>c=(none,())∧gSG κ0 a₀ st2∧pendingOf st2=pendingOf st∧gSeg (arrOf st2) lo (lo+n)∧gOut (arrOf st) (arrOf st2) lo (lo+n)) ?step ?fin ?init) ?post)
 case post=>
  rintro c st2 ⟨rfl,g2,pe,u2,o2⟩
  exact wpS_pure (h st2 g2 pe u2 o2)
 case init=>
  refine ⟨rfl,g,rfl,fun i j hl hij hj=>?_,.refl _ _ _⟩
  by_cases h1:ok=0
  ·rw [show i=j by omega]
   exact Int.le_refl _
  ·exact u i j hl hij (by omega)
 case fin=>
  rintro c st2 ⟨hc,g2,pe,u2,o2⟩
  rw [show min (max (max ok 1) n) n=n by omega] at u2
  exact ⟨hc,g2,pe,u2,o2⟩
 case step=>
  rintro k c st2 hak hkn ⟨rfl,g2,pe,u2,o2⟩
  rw [show min k n=k by omega] at u2
  have hk:lo+k<a₀.size:=by omega
  refine wpS_bind (wpS_mono (wpS_forRange (I:=fun x c st3=>st3=st2∧∃ l r,c=(none,l,r)∧l≤r∧r≤k∧r - l≤k - x∧
    (∀ i,lo≤i→i<lo+l→gK (arrOf st2) i≤gK (arrOf st2) (lo+k))∧(∀ i,lo+r≤i→i<lo+k→gK (arrOf st2) (lo+k)<gK (arrOf st2) i))
   (Q:=fun c st3=>st3=st2∧∃ l r,c=(none,l,r)∧l≤k∧
    (∀ i,lo≤i→i<lo+l→gK (arrOf st2) i≤gK (arrOf st2) (lo+k))∧(∀ i,lo+l≤i→i<lo+k→gK (arrOf st2) (lo+k)<gK (arrOf st2) i)) ?istep ?ifin ?iinit) ?ipost)
  case iinit=>exact ⟨rfl,0,k,rfl,by omega,by omega,by omega,fun i _ hi=>by omega,fun i h1 h2=>by omega⟩
  case ifin=>
   rintro c st3 ⟨rfl,l,r,rfl,hlr,hrk,hm,ha,hb⟩
   have e:l=r:=by omega
   rw [← e] at hb hrk
   exact ⟨rfl,l,r,rfl,hrk,ha,hb⟩
  case istep=>
   rintro x c st3 _ hxk ⟨rfl,l,r,rfl,hlr,hrk,hm,ha,hb⟩
   dsimp only
   by_cases hge:l ≥ r
   ·rw [if_pos hge]
    have e:l=r:=by omega
    rw [← e] at hb hrk
    exact wpS_pure ⟨rfl,l,r,rfl,hrk,ha,hb⟩
   ·rw [if_neg hge]
    refine wpS_bind (gwpS_ltG h0 g2 hk (by omega) ?_)
    by_cases less:gK (arrOf st3) (lo+k)<gK (arrOf st3) (lo+(l+r) / 2)
    ·rw [decide_eq_true less]
     dsimp only
     rw [if_pos rfl]
     refine wpS_pure ⟨rfl,l,(l+r) / 2,rfl,by omega,by omega,by omega,ha,fun i h1 h2=>?_⟩
     have:=u2 (lo+(l+r) / 2) i (by omega) h1 h2
     omega
    ·rw [decide_eq_false less]
     dsimp only
     rw [if_neg Bool.false_ne_true]
     refine wpS_pure ⟨rfl,(l+r) / 2+1,r,rfl,by omega,by omega,by omega,fun i h3 h1=>?_,hb⟩
     have:=u2 i (lo+(l+r) / 2) h3 (by omega) (by omega)
     omega
  case ipost=>
   rintro c st3 ⟨rfl,l,r,rfl,hlk,ha,hb⟩
   have hks:lo+k<(arrOf st3).size:=by rw [g2.size];exact hk
   show wpS _ _ _ _ (moveDown' (lo+k) (lo+l) >>= fun _=>pure (ForInStep.yield (none,()))) _ _
   rw [moveDown'_eq]
   refine wpS_bind (wpS_modify (wpS_pure ⟨rfl,g2.lay (bubble_perm _ _ _),pe,?_,o2.trans ?_⟩))
   ·rw [show min (k+1) n=k+1 by omega]
    intro i j hl hij hj
    show gK (bubble (arrOf st3) (lo+k) (lo+k - (lo+l))) i≤gK (bubble (arrOf st3) (lo+k) (lo+k - (lo+l))) j
    rw [gK_bubble hks (by omega),gK_bubble hks (by omega),show lo+k - (lo+k - (lo+l))=lo+l by omega]
    repeat' split
    all_goals first
     | (exfalso;omega)
     | exact Int.le_refl _
     | exact ha _ (by omega) (by omega)
     | exact Int.le_of_lt (hb _ (by omega) (by omega))
     | exact u2 _ _ (by omega) (by omega) (by omega)
   ·intro i hi
    show gK (bubble (arrOf st3) (lo+k) (lo+k - (lo+l))) i=gK (arrOf st3) i
    rw [gK_bubble hks (by omega),if_neg (by omega),if_neg (by omega)]
abbrev gCUp:=Option (Option Nat) × Nat
abbrev gCDn:=Option (Option Nat) × Nat × Nat
def gupL (lo a m:Nat):gSM gCUp:=
 forIn [a:m] ((none,a):gCUp) fun _ c=>do
  let t ← ltAt' (lo+c.snd) (lo+c.snd - 1)
  match t with
  | some less=>if less=true then pure (ForInStep.done (none,c.snd)) else pure (ForInStep.yield (none,c.snd+1))
  | _=>pure (ForInStep.done (some none,c.snd))
def gendL (lo n m:Nat):gSM (Option Nat):=do
 reverseSlice' lo (lo+n)
 let c ← gupL lo n m
 match c.fst with
 | some r=>pure r
 | none=>pure (some c.snd)
def gdnL (lo n m:Nat):gSM gCDn:=
 forIn [n:m] ((none,n,0):gCDn) fun _ c=>do
  let t ← ltAt' (lo+c.snd.fst) (lo+c.snd.fst - 1)
  match t with
  | some less=>
   if less=true then
    if c.snd.snd > 0 then do
     reverseSlice' (lo+c.snd.fst - (c.snd.snd+1)) (lo+c.snd.fst)
     pure (ForInStep.yield (none,c.snd.fst+1,0))
    else pure (ForInStep.yield (none,c.snd.fst+1,0))
   else do
    let t ← ltAt' (lo+c.snd.fst - 1) (lo+c.snd.fst)
    match t with
    | some more=>
     if more=true then pure (ForInStep.done (none,c.snd.fst,c.snd.snd))
     else pure (ForInStep.yield (none,c.snd.fst+1,c.snd.snd+1))
    | _=>pure (ForInStep.done (some none,c.snd.fst,c.snd.snd))
  | _=>pure (ForInStep.done (some none,c.snd.fst,c.snd.snd))
def gdnP (lo n m:Nat):gSM (Option Nat):=do
 liftM (rule "list.sort.descending-run")
 let c ← gdnL lo (n+1) m
 match c.fst with
 | some r=>pure r
 | none=>
  if c.snd.snd > 0 then do
   reverseSlice' (lo+c.snd.fst - (c.snd.snd+1)) (lo+c.snd.fst)
   gendL lo c.snd.fst m
  else gendL lo c.snd.fst m
theorem qAT {α β:Type} {x y:gSM α} {f g:α→gSM β} (h:x=y) (k:∀ a,f a=g a):(x >>= f)=(y >>= g):=by rw [h,show f=g from funext k]
theorem gcount_eq (lo m:Nat):countRun' lo m=(do
  let c ← gupL lo 1 m
  match c.fst with
  | some r=>pure r
  | none=>
   if (c.snd == m)=true then pure (some c.snd)
   else if c.snd > 1 then do
    let t ← ltAt' lo (lo+c.snd - 1)
    match t with
    | some rose=>if rose=true then pure (some c.snd) else do
      reverseSlice' lo (lo+c.snd)
      gdnP lo c.snd m
    | _=>pure none
   else gdnP lo c.snd m):=by
 rw [countRun'_eq]
 unfold gdnP gendL gdnL gupL
 refine qAT rfl fun c=>?_
 obtain ⟨r,n⟩:=c
 cases r with
 | some r=>rfl
 | none=>
  have last:∀ c3:gCUp,(match c3.fst with | some r=>pure r | none=>pure (some c3.snd):gSM (Option Nat))=(match c3.fst with | some r=>pure r | none=>pure (some c3.snd)):=fun _=>rfl
  dsimp only
  split
  ·rfl
  ·split
   ·refine qAT rfl fun x=>?_
    cases x with
    | none=>rfl
    | some rose=>
     dsimp only
     split
     ·rfl
     ·refine qAT rfl fun _=>qAT rfl fun _=>qAT rfl fun c2=>?_
      obtain ⟨r2,n2,q2⟩:=c2
      cases r2 with
      | some r2=>rfl
      | none=>
       dsimp only
       split
       ·refine qAT rfl fun _=>qAT rfl fun _=>qAT rfl fun c3=>?_
        obtain ⟨r3,n3⟩:=c3
        cases r3 <;> rfl
       ·refine qAT rfl fun _=>qAT rfl fun c3=>?_
        obtain ⟨r3,n3⟩:=c3
        cases r3 <;> rfl
   ·refine qAT rfl fun _=>qAT rfl fun c2=>?_
    obtain ⟨r2,n2,q2⟩:=c2
    cases r2 with
    | some r2=>rfl
    | none=>
     dsimp only
     split
     ·refine qAT rfl fun _=>qAT rfl fun _=>qAT rfl fun c3=>?_
      obtain ⟨r3,n3⟩:=c3
      cases r3 <;> rfl
     ·refine qAT rfl fun _=>qAT rfl fun c3=>?_
      obtain ⟨r3,n3⟩:=c3
      cases r3 <;> rfl
def gFal (xs:Array Keyed) (lo hi:Nat):Prop:=∀ i j,lo≤i→i≤j→j<hi→gK xs j≤gK xs i
theorem gwpS_upL {st:SortSt} {lo a m:Nat} {Q:gCUp→SortSt→Prop} (h0:gIntKeys a₀) (g:gSG κ0 a₀ st) (hm:lo+m≤a₀.size) (ha:1≤a) (han:a≤m) (u:gSeg (arrOf st) lo (lo+a))
  (h:∀ n,a≤n→n≤m→gSeg (arrOf st) lo (lo+n)→(n=m∨gK (arrOf st) (lo+n)<gK (arrOf st) (lo+n - 1))→Q (none,n) st):wpS (model prog w) A E s (gupL lo a m) Q st:=by
 unfold gupL
 refine wpS_forRange (I:=fun x c st2=>st2=st∧c=(none,x)∧gSeg (arrOf st) lo (lo+x)) ?step ?fin ⟨rfl,rfl,u⟩
 case fin=>
  rintro c st2 ⟨rfl,rfl,u2⟩
  rw [show max a m=m by omega] at u2 ⊢
  exact h m han (Nat.le_refl _) u2 (.inl rfl)
 case step=>
  rintro x c st2 hax hxn ⟨rfl,rfl,u2⟩
  dsimp only
  refine wpS_bind (gwpS_ltG h0 g (by omega) (by omega) ?_)
  by_cases less:gK (arrOf st2) (lo+x)<gK (arrOf st2) (lo+x - 1)
  ·rw [decide_eq_true less]
   dsimp only
   rw [if_pos rfl]
   exact wpS_pure (h x hax (by omega) u2 (.inr less))
  ·rw [decide_eq_false less]
   dsimp only
   rw [if_neg Bool.false_ne_true]
   refine wpS_pure ⟨rfl,rfl,fun i j hl hij hj=>?_⟩
   by_cases hjx:j<lo+x
   ·exact u2 i j hl hij hjx
   ·have ej:j=lo+x:=by omega
    rw [ej]
    by_cases ei:i=lo+x
    ·rw [ei]
     exact Int.le_refl _
    ·have:=u2 i (lo+x - 1) hl (by omega) (by omega)
     omega
theorem gwpS_endL {st:SortSt} {lo n m:Nat} {Q:Option Nat→SortSt→Prop} (h0:gIntKeys a₀) (g:gSG κ0 a₀ st) (hm:lo+m≤a₀.size) (h1:1≤n) (hnm:n≤m) (u:gFal (arrOf st) lo (lo+n))
  (h:∀ k st2,gSG κ0 a₀ st2→pendingOf st2=pendingOf st→1≤k→k≤m→gSeg (arrOf st2) lo (lo+k)→gOut (arrOf st) (arrOf st2) lo (lo+m)→Q (some k) st2):wpS (model prog w) A E s (gendL lo n m) Q st:=by
 unfold gendL
 have hsz:lo+n≤(arrOf st).size:=by rw [g.size];omega
 rw [reverseSlice'_eq]
 refine wpS_bind (wpS_modify ?_)
 have g2:gSG κ0 a₀ (setArr st (mirror (arrOf st) lo (lo+n) ((lo+n - lo) / 2))):=g.lay (mirror_perm _ _ _ _)
 refine wpS_bind (gwpS_upL h0 g2 hm h1 hnm ?_ fun k hk1 hk2 uk _=>wpS_pure (h k _ g2 rfl (by omega) hk2 uk ((gout_mirror hsz).wide (Nat.le_refl _) (by omega))))
 intro i j hl hij hj
 show gK (mirror (arrOf st) lo (lo+n) ((lo+n - lo) / 2)) i≤gK (mirror (arrOf st) lo (lo+n) ((lo+n - lo) / 2)) j
 rw [gK_mirror hsz,gK_mirror hsz,if_pos (by omega),if_pos (by omega)]
 exact u _ _ (by omega) (by omega) (by omega)
theorem gwpS_dnL {st:SortSt} {lo n m:Nat} {Q:gCDn→SortSt→Prop} (h0:gIntKeys a₀) (g:gSG κ0 a₀ st) (hm:lo+m≤a₀.size) (h1:1≤n) (hnm:n≤m) (u:gFal (arrOf st) lo (lo+n))
  (h:∀ k e st2,gSG κ0 a₀ st2→pendingOf st2=pendingOf st→n≤k→k≤m→gFal (arrOf st2) lo (lo+k)→e+1≤k→(∀ i,lo+k - (e+1)≤i→i<lo+k→gK (arrOf st2) i=gK (arrOf st2) (lo+k - 1))→gOut (arrOf st) (arrOf st2) lo (lo+m)→Q (none,k,e) st2) :
  wpS (model prog w) A E s (gdnL lo n m) Q st:=by
 unfold gdnL
 refine wpS_forRange (I:=fun x c st2=>∃ e,c=(none,x,e)∧gSG κ0 a₀ st2∧pendingOf st2=pendingOf st∧gFal (arrOf st2) lo (lo+x)∧e+1≤x∧
   (∀ i,lo+x - (e+1)≤i→i<lo+x→gK (arrOf st2) i=gK (arrOf st2) (lo+x - 1))∧gOut (arrOf st) (arrOf st2) lo (lo+m)) ?step ?fin ⟨0,rfl,g,rfl,u,by omega,fun i h1 h2=>by congr 1;omega,.refl _ _ _⟩
 case fin=>
  rintro c st2 ⟨e,rfl,g2,pe,u2,hq,he,o2⟩
  rw [show max n m=m by omega] at u2 hq he ⊢
  exact h m e st2 g2 pe hnm (Nat.le_refl _) u2 hq he o2
 case step=>
  rintro x c st2 hax hxn ⟨e,rfl,g2,pe,u2,hq,he,o2⟩
  dsimp only
  have hsz:lo+x≤(arrOf st2).size:=by rw [g2.size];omega
  refine wpS_bind (gwpS_ltG h0 g2 (by omega) (by omega) ?_)
  by_cases less:gK (arrOf st2) (lo+x)<gK (arrOf st2) (lo+x - 1)
  ·rw [decide_eq_true less]
   dsimp only
   rw [if_pos rfl]
   have more:∀ ys:Array Keyed,(∀ k,gK ys k=gK (arrOf st2) k)→gFal ys lo (lo+(x+1)):=by
    intro ys hk i j hl hij hj
    rw [hk,hk]
    by_cases hjx:j<lo+x
    ·exact u2 i j hl hij hjx
    ·have ej:j=lo+x:=by omega
     rw [ej]
     by_cases ei:i=lo+x
     ·rw [ei]
      exact Int.le_refl _
     ·have:=u2 i (lo+x - 1) hl (by omega) (by omega)
      omega
   by_cases hpos:e > 0
   ·rw [if_pos hpos,reverseSlice'_eq]
    refine wpS_bind (wpS_modify (wpS_pure ⟨0,rfl,g2.lay (mirror_perm _ _ _ _),pe,more _ (qAM hsz he),by omega,fun i h1 h2=>by congr 1;omega,o2.trans ?_⟩))
    exact fun k _=>qAM hsz he k
   ·rw [if_neg hpos]
    exact wpS_pure ⟨0,rfl,g2,pe,more _ (fun _=>rfl),by omega,fun i h1 h2=>by congr 1;omega,o2⟩
  ·rw [decide_eq_false less]
   dsimp only
   rw [if_neg Bool.false_ne_true]
   refine wpS_bind (gwpS_ltG h0 g2 (by omega) (by omega) ?_)
   by_cases big:gK (arrOf st2) (lo+x - 1)<gK (arrOf st2) (lo+x)
   ·rw [decide_eq_true big]
    dsimp only
    rw [if_pos rfl]
    exact wpS_pure (h x e st2 g2 pe hax (by omega) u2 hq he o2)
   ·rw [decide_eq_false big]
    dsimp only
    rw [if_neg Bool.false_ne_true]
    have ex:gK (arrOf st2) (lo+x)=gK (arrOf st2) (lo+x - 1):=by omega
    refine wpS_pure ⟨e+1,rfl,g2,pe,fun i j hl hij hj=>?_,by omega,fun i h1 h2=>?_,o2⟩
    ·by_cases hjx:j<lo+x
     ·exact u2 i j hl hij hjx
     ·have ej:j=lo+x:=by omega
      rw [ej]
      by_cases ei:i=lo+x
      ·rw [ei]
       exact Int.le_refl _
      ·rw [ex]
       exact u2 i (lo+x - 1) hl (by omega) (by omega)
    ·rw [show lo+(x+1) - 1=lo+x by omega]
     by_cases ei:i=lo+x
     ·rw [ei]
     ·rw [ex]
      exact he i (by omega) (by omega)
theorem gwpS_dnP {st:SortSt} {lo n m:Nat} {Q:Option Nat→SortSt→Prop} (h0:gIntKeys a₀) (g:gSG κ0 a₀ st) (hm:lo+m≤a₀.size) (hnm:n+1≤m) (u:gFal (arrOf st) lo (lo+(n+1)))
  (h:∀ k st2,gSG κ0 a₀ st2→pendingOf st2=pendingOf st→1≤k→k≤m→gSeg (arrOf st2) lo (lo+k)→gOut (arrOf st) (arrOf st2) lo (lo+m)→Q (some k) st2):wpS (model prog w) A E s (gdnP lo n m) Q st:=by
 unfold gdnP
 refine wpS_bind (wpS_lift (wpAny_rule ⟨rfl,?_⟩))
 refine wpS_bind (gwpS_dnL h0 g hm (by omega) hnm u fun k e st2 g2 pe hk1 hk2 u2 hq he o2=>?_)
 dsimp only
 have hsz:lo+k≤(arrOf st2).size:=by rw [g2.size];omega
 by_cases hpos:e > 0
 ·rw [if_pos hpos,reverseSlice'_eq]
  refine wpS_bind (wpS_modify (gwpS_endL h0 (g2.lay (mirror_perm _ _ _ _)) hm (by omega) hk2 ?_ fun k2 st3 g3 pe3 a1 a2 u3 o3=>h k2 st3 g3 (pe3.trans pe) a1 a2 u3 ?_))
  ·intro i j hl hij hj
   show gK (mirror (arrOf st2) _ _ _) j≤gK (mirror (arrOf st2) _ _ _) i
   rw [qAM hsz he,qAM hsz he]
   exact u2 i j hl hij hj
  ·exact o2.trans (gOut.trans (fun k _=>qAM hsz he k) o3)
 ·rw [if_neg hpos]
  exact gwpS_endL h0 g2 hm (by omega) hk2 u2 fun k2 st3 g3 pe3 a1 a2 u3 o3=>h k2 st3 g3 (pe3.trans pe) a1 a2 u3 (o2.trans o3)
theorem gwpS_cnt {st:SortSt} {lo m:Nat} {Q:Option Nat→SortSt→Prop} (h0:gIntKeys a₀) (g:gSG κ0 a₀ st) (hm:lo+m≤a₀.size) (h1:1≤m)
  (h:∀ k st2,gSG κ0 a₀ st2→pendingOf st2=pendingOf st→1≤k→k≤m→gSeg (arrOf st2) lo (lo+k)→gOut (arrOf st) (arrOf st2) lo (lo+m)→Q (some k) st2):wpS (model prog w) A E s (countRun' lo m) Q st:=by
 rw [gcount_eq]
 refine wpS_bind (gwpS_upL h0 g hm (Nat.le_refl 1) h1 (fun i j hl hij hj=>by rw [show i=j by omega];exact Int.le_refl _) fun n hn1 hn2 un or=>?_)
 dsimp only
 by_cases e:n=m
 ·rw [if_pos (by simpa using e)]
  exact wpS_pure (h n st g rfl hn1 hn2 un (.refl _ _ _))
 ·rw [if_neg (by simpa using e)]
  have hlt:gK (arrOf st) (lo+n)<gK (arrOf st) (lo+n - 1):=or.resolve_left e
  by_cases hgt:n > 1
  ·rw [if_pos hgt]
   refine wpS_bind (gwpS_ltG h0 g (by omega) (by omega) ?_)
   by_cases rose:gK (arrOf st) lo<gK (arrOf st) (lo+n - 1)
   ·rw [decide_eq_true rose]
    dsimp only
    rw [if_pos rfl]
    exact wpS_pure (h n st g rfl hn1 hn2 un (.refl _ _ _))
   ·rw [decide_eq_false rose]
    dsimp only
    rw [if_neg Bool.false_ne_true,reverseSlice'_eq]
    have hsz:lo+n≤(arrOf st).size:=by rw [g.size];omega
    have same:∀ k,lo≤k→k<lo+n→gK (arrOf st) k=gK (arrOf st) (lo+n - 1):=by
     intro k hl hk
     have a1:=un lo k (by omega) hl hk
     have a2:=un k (lo+n - 1) hl (by omega) (by omega)
     omega
    refine wpS_bind (wpS_modify (gwpS_dnP h0 (g.lay (mirror_perm _ _ _ _)) hm (by omega) ?_ fun k st2 g2 pe a1 a2 u2 o2=>h k st2 g2 pe a1 a2 u2 (gOut.trans (fun k _=>qAM hsz same k) o2)))
    intro i j hl hij hj
    show gK (mirror (arrOf st) _ _ _) j≤gK (mirror (arrOf st) _ _ _) i
    rw [qAM hsz same,qAM hsz same]
    by_cases hjn:j<lo+n
    ·rw [same i hl (by omega),same j (by omega) hjn]
     exact Int.le_refl _
    ·have ej:j=lo+n:=by omega
     rw [ej]
     by_cases ei:i=lo+n
     ·rw [ei]
      exact Int.le_refl _
     ·rw [same i hl (by omega)]
      exact Int.le_of_lt hlt
  ·rw [if_neg hgt]
   have e1:n=1:=by omega
   rw [e1] at hlt
   rw [e1]
   refine gwpS_dnP h0 g hm (by omega) ?_ h
   intro i j hl hij hj
   by_cases ei:i=j
   ·rw [ei]
    exact Int.le_refl _
   ·have ei:i=lo:=by omega
    have ej:j=lo+1:=by omega
    rw [ei,ej]
    exact Int.le_of_lt hlt
end
end L2.GS
namespace L2.GS
open PySem PyProof.Rows
variable [NM]
def gRuns (xs:Array Keyed):List (Nat × Nat × Nat)→Nat→Nat→Prop
 | [],a,b=>a=b
 | r::rs,a,b=>r.1=a∧0<r.2.1∧gSeg xs a (a+r.2.1)∧gRuns xs rs (a+r.2.1) b
section
variable {prog:Program} {w:World} {A:Around} {E:Value→Shared→Prop} {s:Shared} {κ0:SortKind} [LtOk prog w A s κ0] {a₀:Array Keyed}
theorem gmin_run:∀ n:Nat,n<64→minRun' n n 0=n
 | 0,_=>rfl
 | n+1,h=>if_pos h
theorem gwpS_runs (hs:a₀.size<64) {st:SortSt} {Q:Unit→SortSt→Prop} (h0:gIntKeys a₀) (g:gSG κ0 a₀ st) (hp:pendingOf st=#[]) (h:∀ st2,gSG κ0 a₀ st2→gSortedTo (arrOf st2) a₀.size→Q () st2):wpS (model prog w) A E s sortRuns' Q st:=by
 rw [sortRuns'_eq]
 refine wpS_bind (wpS_get ?_)
 dsimp only
 rw [g.size,gmin_run _ hs]
 refine wpS_bind (wpS_mono (wpS_forRange
  (I:=fun x c st2=>∃ lo,c=(none,lo)∧x≤lo∧lo≤a₀.size∧gSG κ0 a₀ st2∧gRuns (arrOf st2) (pendingOf st2).toList 0 lo∧(lo=0∧pendingOf st2=#[]∨lo=a₀.size∧(pendingOf st2).size≤1))
  (Q:=fun c st2=>c.1=none∧gSG κ0 a₀ st2∧gRuns (arrOf st2) (pendingOf st2).toList 0 a₀.size∧(pendingOf st2).size≤1) ?step ?fin ⟨0,rfl,Nat.le_refl _,Nat.zero_le _,g,by rw [hp];rfl,.inl ⟨rfl,hp⟩⟩) ?post)
 case fin=>
  rintro c st2 ⟨lo,rfl,h1,h2,g2,r2,d2⟩
  have e:lo=a₀.size:=by omega
  rw [e] at r2
  refine ⟨rfl,g2,r2,?_⟩
  rcases d2 with ⟨_,d2⟩ | ⟨_,d2⟩
  ·rw [d2];exact Nat.zero_le _
  ·exact d2
 case post=>
  rintro ⟨c,lo⟩ st2 ⟨e,g2,r2,le2⟩
  cases (show c=none from e)
  dsimp only
  refine wpS_bind (wpS_mono (wpS_forRange (I:=fun x c st3=>c=(none,())∧st3=st2)
   (Q:=fun c st3=>c=(none,())∧st3=st2) ?_ ?_ ⟨rfl,rfl⟩) ?_)
  ·rintro x c st3 _ _ ⟨rfl,rfl⟩
   refine wpS_bind (wpS_get ?_)
   rw [if_pos le2]
   exact wpS_pure ⟨rfl,rfl⟩
  ·rintro c st3 ⟨e,g3⟩
   exact ⟨e,g3⟩
  ·rintro c st3 ⟨rfl,rfl⟩
   refine wpS_pure (h st3 g2 ?_)
   have l3:(pendingOf st3).toList.length≤1:=by simpa using le2
   generalize (pendingOf st3).toList=l at r2 l3
   match l,r2,l3 with
   | [],r3,_=>
    have e:0=a₀.size:=r3
    intro i j _ hj
    omega
   | [r],r3,_=>
    have e:0+r.2.1=a₀.size:=r3.2.2.2
    intro i j hij hj
    exact r3.2.2.1 i j (Nat.zero_le _) hij (by omega)
   | _::_::_,_,l3=>simp at l3
 case step=>
  rintro x c st2 _ hx ⟨lo,rfl,hxl,hlo,g2,r2,d2⟩
  dsimp only
  by_cases c1:lo ≥ a₀.size
  ·rw [if_pos c1]
   have e:lo=a₀.size:=by omega
   rw [e] at r2
   refine wpS_pure ⟨rfl,g2,r2,?_⟩
   rcases d2 with ⟨_,d2⟩ | ⟨_,d2⟩
   ·rw [d2];exact Nat.zero_le _
   ·exact d2
  rw [if_neg c1]
  obtain ⟨e0,pe2⟩:lo=0∧pendingOf st2=#[]:=by
   rcases d2 with d2 | ⟨d2,_⟩
   ·exact d2
   ·omega
  subst e0
  refine wpS_bind (gwpS_cnt h0 g2 (by omega) (by omega) fun k st3 g3 pe3 k1 k2 u3 o3=>?_)
  rw [pe2] at pe3
  dsimp only
  have tail:∀ (st5:SortSt) (n:Nat),gSG κ0 a₀ st5→n=a₀.size→1≤n→gSeg (arrOf st5) 0 (0+n)→pendingOf st5=#[]→
    ∃ lo,((none,0+n):Option Unit × Nat)=(none,lo)∧x+1≤lo∧lo≤a₀.size∧gSG κ0 a₀ (setPending st5 ((pendingOf st5).push (0,n,0)))∧gRuns (arrOf st5) ((pendingOf st5).push (0,n,0)).toList 0 lo∧(lo=0∧(pendingOf st5).push (0,n,0)=#[]∨lo=a₀.size∧((pendingOf st5).push (0,n,0)).size≤1):=by
   intro st5 n g5 en h1 u5 pe5
   refine ⟨0+n,rfl,by omega,by omega,⟨g5.perm,g5.kind,g5.failed⟩,?_,.inr ⟨by omega,?_⟩⟩
   ·rw [pe5]
    exact ⟨rfl,h1,u5,rfl⟩
   ·rw [pe5];exact Nat.le_refl _
  by_cases c2:k<a₀.size
  ·rw [if_pos c2]
   refine wpS_bind (wpS_lift (wpAny_rule ⟨rfl,?_⟩))
   refine wpS_bind (gwpS_bin h0 g3 (by omega) (by omega) u3 fun st4 g4 pe4 u4 o4=>?_)
   rw [pe3] at pe4
   rw [if_neg (by simp)]
   refine wpS_bind (wpS_get ?_)
   rw [show (pendingOf st4).back?=none by rw [pe4];rfl]
   dsimp only
   refine wpS_bind (wpS_modify (wpS_pure ?_))
   exact tail st4 _ g4 (by omega) (by omega) u4 pe4
  ·rw [if_neg c2]
   refine wpS_bind (wpS_get ?_)
   rw [show (pendingOf st3).back?=none by rw [pe3];rfl]
   dsimp only
   refine wpS_bind (wpS_modify (wpS_pure ?_))
   exact tail st3 _ g3 (by omega) (by omega) u3 pe3
end
end L2.GS
namespace L2
open PySem PySem.Spec PyProof.Rows
open PySem.AutoSeq1 in
section
variable {X:Cx}
end
end L2
namespace L2
open PySem PySem.Spec PyProof.Rows
def topI (b:Int) (l:List Int):Int:=l.foldl (fun b x=>if x > b then x else b) b
theorem topI_ge:∀ (l:List Int) (b:Int),b≤topI b l∧(∀ x ∈ l,x≤topI b l)∧(topI b l=b∨topI b l ∈ l)
 | [],b=>⟨Int.le_refl _,(fun _ z=>nomatch z),.inl rfl⟩
 | y::l,b=>by
  obtain ⟨h1,h2,h3⟩:=topI_ge l (if y > b then y else b)
  have e:topI b (y::l)=topI (if y > b then y else b) l:=rfl
  rw [e]
  have hb:b≤(if y > b then y else b)∧y≤(if y > b then y else b):=by split <;> omega
  refine ⟨by omega,fun x hx=>?_,?_⟩
  ·rcases List.mem_cons.mp hx with hx | hx
   ·omega
   ·exact h2 x hx
  ·rcases h3 with h3 | h3
   ·split at h3
    ·rw [if_pos (by assumption)]
     exact .inr (by rw [h3];exact List.mem_cons_self)
    ·rw [if_neg (by assumption)]
     exact .inl h3
   ·exact .inr (List.mem_cons_of_mem _ h3)
section
variable {prog:Program} {w:World} {A:Around} {R:Result→Shared→Prop} {I:Addr} {fp wr:List Addr} {n:Nat} {P:Nat→Value→Prop} {St:Nat→Heap→Prop}
theorem max_run (W:Walks prog w A.in1 I fp wr n P St) (kw:List (Str × Value)) (ns:List Int) (hn:ns.length=n) (hval:∀ i v,P i v→∃ t,v=.int (ns.getD i 0) t) (S:Addr) (hSf:S ∉ fp) :
  ∀ (k j:Nat) (s:Shared) (b:Int) (t:Tok) (c:Nat),n - j=k→j≤n→St j s.heap→s.heap.get? S=some { cls:=.type "list",dict:=none,data:=.seq #[.int b t,.int b t] c,slots:=#[] }→
  (∀ t' h' tk,(∀ x o,x ∉ wr→x ≠ S→s.heap.get? x=some o→h'.get? x=some o)→R (.ok (.ret (.int (topI b (ns.drop j)) t'))) { s with heap:=h',toks:=tk })→
  codeAny (model prog w) A (.builtin "max.loop" ⟨[.ref I,.none,.ref S],kw⟩) R s:=by
 have hSw:S ∉ wr:=fun h=>hSf (W.sub _ h)
 have hname:(toString "max" ++ toString ".loop" : String) = "max.loop":=by decide
 intro k
 induction k with
 | zero=>
  intro j s b t c hk hj st hS hR
  have e:j=n:=by omega
  refine codeAny_builtin F.entry_max_loop ?_
  rw [Around.under_plainId F.plain_max_loop _]
  show wpAny _ A.in1 (seqItems? (.ref S) >>= _) _ _ s
  refine wpAny_bind (wpAny_seqItems hS rfl ?_)
  show wpAny _ A.in1 (tryCatch (pyNext (.ref I)) _ >>= _) _ _ s
  refine wpAny_bind (wpAny_tryCatch (W.done s _ _ (e ▸ st) fun h' tk hk'=>?_))
  show wpAny _ A.in1 (updateSeq S (fun _=>#[]) >>= _) _ _ _
  refine wpAny_bind (wpAny_updateSeq (hk' S _ hSw hS) rfl (wpAny_bind (wpAny_letGo (wpAny_pure ?_))))
  rw [List.drop_of_length_le (by omega)] at hR
  exact hR t _ tk fun x o hx hxS ex=>(Heap.get?_update_other _ _ (Ne.symm hxS)).trans (hk' x o hx ex)
 | succ k ih=>
  intro j s b t c hk hj st hS hR
  have hlt:j<n:=by omega
  refine codeAny_builtin F.entry_max_loop ?_
  rw [Around.under_plainId F.plain_max_loop _]
  show wpAny _ A.in1 (seqItems? (.ref S) >>= _) _ _ s
  refine wpAny_bind (wpAny_seqItems hS rfl ?_)
  show wpAny _ A.in1 (tryCatch (pyNext (.ref I)) _ >>= _) _ _ s
  refine wpAny_bind (wpAny_tryCatch (W.item j s _ _ hlt st fun v h' tk hP st' hk'=>?_))
  have hS':=hk' S _ hSw hS
  obtain ⟨u,rfl⟩:=hval j v hP
  have ed:ns.drop j=ns.getD j 0::ns.drop (j+1):=by
   have hj':j<ns.length:=by omega
   rw [List.drop_eq_getElem_cons hj',List.getD_eq_getElem?_getD,List.getElem?_eq_getElem hj']
   rfl
  rw [ed] at hR
  generalize ns.getD j 0=y at hR hP ⊢
  show wpAny _ A.in1 (tryCatch (holding [Value.int y u,Value.int y u] (richCompare .Gt (.int y u) (.int b t) >>= _)) _ >>= _) _ _ _
  refine wpAny_bind (wpAny_tryCatch (wpAny_holding (wpAny_bind (richCompare_gives (op:=.Gt) (typeIs_int _ _ u) (typeIs_int _ _ t) F.slot_int_gt F.entry_int_gt (F.args_int_gt_2 _ _) (gives_int_gt _ _ u t) (fun x=>nomatch x) ?_))))
  refine wpAny_bind (wpAny_holding (wpAny_truthy_bool (wpAny_bind (wpAny_letGo (wpAny_pure ?_)))))
  by_cases hb:y > b
  ·rw [decide_eq_true hb,if_pos rfl]
   have et:topI b (y::ns.drop (j+1))=topI y (ns.drop (j+1)):=by show topI (if y > b then y else b) _=_;rw [if_pos hb]
   rw [et] at hR
   refine wpAny_bind (wpAny_updateSeq hS' rfl (wpAny_bind (wpAny_letGo ?_)))
   rw [hname]
   refine wpAny_pure ⟨plainId_quiet F.plain_max_loop _,ih (j+1) _ y u _ (by omega) hlt (W.frame _ _ _ st' fun x hx o ex=>?_) (Heap.get?_update_self _ hS' rfl) fun t' h2 tk2 hk2=>?_⟩
   ·exact (Heap.get?_update_other _ _ (fun z:S=x=>hSf (by rw [z];exact hx))).trans ex
   ·exact hR t' h2 tk2 fun x o hx hxS ex=>hk2 x o hx hxS ((Heap.get?_update_other _ _ (Ne.symm hxS)).trans (hk' x o hx ex))
  ·rw [decide_eq_false hb,if_neg Bool.false_ne_true]
   have et:topI b (y::ns.drop (j+1))=topI b (ns.drop (j+1)):=by show topI (if y > b then y else b) _=_;rw [if_neg hb]
   rw [et] at hR
   refine wpAny_bind (wpAny_letGo ?_)
   rw [hname]
   exact wpAny_pure ⟨plainId_quiet F.plain_max_loop _,ih (j+1) _ b t c (by omega) hlt st' hS' fun t' h2 tk2 hk2=>hR t' h2 tk2 fun x o hx hxS ex=>hk2 x o hx hxS (hk' x o hx ex)⟩
theorem max_first (W:Walks prog w A.in1 I fp wr n P St) (kw:List (Str × Value)) (ns:List Int) (hn:ns.length=n) (hval:∀ i v,P i v→∃ t,v=.int (ns.getD i 0) t) (S:Addr) (hSf:S ∉ fp) {s:Shared} {c:Nat} (st:St 0 s.heap)
  (hS:s.heap.get? S=some { cls:=.type "list",dict:=none,data:=.seq #[] c,slots:=#[] })
  (h1:∀ y r,ns=y::r→∀ t' h' tk,(∀ x o,x ∉ wr→x ≠ S→s.heap.get? x=some o→h'.get? x=some o)→R (.ok (.ret (.int (topI y r) t'))) { s with heap:=h',toks:=tk })
  (h2:ns=[]→∃ nm dv,kw=[(nm,dv)]∧∀ h' tk,(∀ x o,x ∉ wr→x ≠ S→s.heap.get? x=some o→h'.get? x=some o)→R (.ok (.ret dv)) { s with heap:=h',toks:=tk }) :
  codeAny (model prog w) A (.builtin "max.loop" ⟨[.ref I,.none,.ref S],kw⟩) R s:=by
 have hSw:S ∉ wr:=fun h=>hSf (W.sub _ h)
 have hname:(toString "max" ++ toString ".loop" : String) = "max.loop":=by decide
 refine codeAny_builtin F.entry_max_loop ?_
 rw [Around.under_plainId F.plain_max_loop _]
 show wpAny _ A.in1 (seqItems? (.ref S) >>= _) _ _ s
 refine wpAny_bind (wpAny_seqItems hS rfl ?_)
 show wpAny _ A.in1 (tryCatch (pyNext (.ref I)) _ >>= _) _ _ s
 cases ns with
 | nil=>
  obtain ⟨nm,dv,rfl,h3⟩:=h2 rfl
  refine wpAny_bind (wpAny_tryCatch (W.done s _ _ (hn ▸ st) fun h' tk hk'=>?_))
  show wpAny _ A.in1 (rule _ >>= fun _=>ret dv) _ _ _
  exact wpAny_bind (wpAny_rule (wpAny_pure (h3 _ tk fun x o hx _ ex=>hk' x o hx ex)))
 | cons y r=>
  refine wpAny_bind (wpAny_tryCatch (W.item 0 s _ _ (by rw [← hn];simp) st fun v h' tk hP st' hk'=>?_))
  have hS':=hk' S _ hSw hS
  obtain ⟨u,rfl⟩:=hval 0 v hP
  show wpAny _ A.in1 (updateSeq S (fun _=>#[Value.int y u,Value.int y u]) >>= _) _ _ _
  refine wpAny_bind (wpAny_updateSeq hS' rfl ?_)
  rw [hname]
  refine wpAny_pure ⟨plainId_quiet F.plain_max_loop _,max_run W kw (y::r) hn hval S hSf _ 1 _ y u _ rfl (by rw [← hn];simp) (W.frame _ _ _ st' fun x hx o ex=>?_) (Heap.get?_update_self _ hS' rfl) fun t' h2 tk2 hk2=>?_⟩
  ·exact (Heap.get?_update_other _ _ (fun z:S=x=>hSf (by rw [z];exact hx))).trans ex
  ·exact h1 y r rfl t' h2 tk2 fun x o hx hxS ex=>hk2 x o hx hxS ((Heap.get?_update_other _ _ (Ne.symm hxS)).trans (hk' x o hx ex))
end
section
variable {prog:Program} {w:World} {A:Around} {E:Value→Shared→Prop} {s:Shared}
theorem call_tree_kw {id:String} {b:Builtin} {args:List Value} {kw:List (Str × Value)} {Q:Value→Shared→Prop} (hk:builtinKind id=none) (hp:plainId id=true) (hb:entryFor table id=some b) (ha:argsOk id ⟨args,kw⟩)
  (hc:wpAny (model prog w) A.in1 (b ⟨args,kw⟩) (fun fin s'=>∃ c',fin=.again c'∧c'.quiet=true∧codeAny (model prog w) A c' (fun r s'=>∃ v,r=.ok (.ret v)∧Q v s') s') E s):wpAny (model prog w) A (call (.builtin id) args kw) Q E s:=by
 refine wpAny_call (codeAny_call_builtin hp hb ?_)
 have h2:=wpAny_mono hc (Q':=fun fin s'=>match fin with
   | .done f=>(match (Except.ok f:Result) with | .ok (.ret v)=>Q v s' | .ok _=>False | .error e=>E e s')
   | .again c'=>c'.quiet=true∧codeAny (model prog w) A c' (fun r s'=>match r with | .ok (.ret v)=>Q v s' | .ok _=>False | .error e=>E e s') s')
  (fun fin s' ⟨c',e,h1,h2⟩=>by subst e;exact ⟨h1,codeAny_mono h2 fun r s' ⟨v,e,q⟩=>by subst e;exact q⟩) fun _ _ h'=>h'
 simp only [checkBuiltinCall,hk]
 cases sg:Manifest.signature? id with
 | none=>exact wpAny_pure h2
 | some sig=>
  have ha':Bind.checkArgs id sig ⟨args,kw⟩=pure ():=by simpa only [argsOk,sg] using ha
  simp only [ha']
  exact wpAny_pure h2
end
section
variable {X:Cx}
def topD (dv:Option Int):List Int→Option Int
 | []=>dv
 | y::r=>some (topI y r)
theorem max_any {pins:List (Addr × Obj)} {s:Shared} {σ:St} {H:Hp} {Q:VK} {p:Addr} {ns:List Int} {kw:List (Str × Value)} {dv:Option Int} (hc:X.calm=true) (I:Inv X pins σ H s) (hq:SqL X.K H p (ns.map V.int))
  (ok:argsOk "max" ⟨[.ref p],kw⟩) (df:Option Value) (hb:Builtin.Builtins.bindParams "max" ["key","default"] 0 ⟨[],kw⟩=pure [none,df]) (hdf:df=none∧dv=none∨∃ d t,df=some (.int d t)∧dv=some d)
  (m:Int) (em:topD dv ns=some m) (q:Q (.int m) H):wpAny (model X.prog X.w) X.A (call (.builtin "max") [.ref p] kw) (EP X pins σ Q) X.xe s:=by
 obtain ⟨its,rv,pl,hz⟩:=I.list hq
 have hl:=pl.isList
 have hlt:p<s.heap.objs.size:=by obtain ⟨_,e,_⟩:=hl;exact Heap.lt_size e
 have hlen:=rv.length
 rw [List.length_map] at hlen
 have ia:=qBY rv
 have hname:(toString "max" ++ toString ".loop" : String) = "max.loop":=by decide
 refine call_tree_kw F.kind_max F.plain_max F.entry_max ok ?_
 show wpAny _ _ (Builtin.Builtins.bindParams "max" ["key","default"] 0 ⟨[],kw⟩ >>= _) _ _ s
 refine wpAny_bind (wpAny_of_eq hb ?_)
 refine wpAny_bind (wpAny_pure ?_)
 refine wpAny_bind (wpAny_pyIter_list hl ?_)
 refine wpAny_bind (wpAny_newObj_type ?_)
 rw [hname]
 have w0:X.A.in1.handled=none:=I.ok.hd hc
 refine wpAny_pure ⟨_,rfl,plainId_quiet F.plain_max_loop _,?_⟩
 refine max_first (Walks.list w0 _ p (Nat.ne_of_lt hlt) its.toArray) _ ns (by simpa using hlen) (fun i v hv=>?_) _ ?_ (c:=0) ?_ (Heap.get?_push_size _ rfl) ?_ ?_
 ·exact PyProof.Rows.IntsAre.int_at ia i v (by simpa using hv)
 ·simp only [Heap.size_push,List.mem_cons,List.not_mem_nil,or_false,not_or]
  exact ⟨Nat.succ_ne_self _,Nat.ne_of_gt (Nat.lt_succ_of_lt hlt)⟩
 ·exact ⟨⟨_,Heap.get?_push_of_some _ (Heap.get?_push_size _ rfl),rfl,rfl⟩,(hl.push _).push _⟩
 ·intro y r e t' h' tk hk
  subst e
  cases em
  refine ⟨_,rfl,.int _,H,I.kept (t':=tk) fun b o eb=>hk b o ?_ ?_ (Heap.get?_push_of_some _ (Heap.get?_push_of_some _ eb)),⟨t',rfl⟩,q⟩
  ·simp only [List.mem_cons,List.not_mem_nil,or_false]
   exact Nat.ne_of_lt (Heap.lt_size eb)
  ·rw [Heap.size_push]
   exact Nat.ne_of_lt (Nat.lt_succ_of_lt (Heap.lt_size eb))
 ·intro e
  subst e
  rcases hdf with ⟨_,e2⟩ | ⟨d,t,rfl,rfl⟩
  ·rw [e2] at em
   cases em
  ·cases em
   refine ⟨_,_,rfl,fun h' tk hk=>⟨_,rfl,.int _,H,I.kept (t':=tk) fun b o eb=>hk b o ?_ ?_ (Heap.get?_push_of_some _ (Heap.get?_push_of_some _ eb)),⟨t,rfl⟩,q⟩⟩
   ·simp only [List.mem_cons,List.not_mem_nil,or_false]
    exact Nat.ne_of_lt (Heap.lt_size eb)
   ·rw [Heap.size_push]
    exact Nat.ne_of_lt (Nat.lt_succ_of_lt (Heap.lt_size eb))
theorem call_maxL (hc:X.calm=true):CallR X (.builtin "max") (fun xs H Q=>∃ p ns m,xs=[.ref p]∧SqL X.K H p (ns.map V.int)∧topD none ns=some m∧Q (.int m) H):=by
 intro pins s σ H xs us Q I r h
 obtain ⟨p,ns,m,rfl,hq,em,q⟩:=h
 obtain ⟨u,rfl,rx⟩:=vals1 r
 cases rx
 exact max_any hc I hq (F.args_max1 _) none rfl (.inl ⟨rfl,rfl⟩) m em q
end
end L2
namespace L2
open PySem PySem.Spec PyProof.Rows
section
variable {prog:Program} {w:World} {A:Around} {E:Value→Shared→Prop} {s:Shared}
end
section
variable {prog:Program} {w:World} {A:Around} {R:Result→Shared→Prop} {I:Addr} {fp wr:List Addr} {n:Nat} {P:Nat→Value→Prop} {St:Nat→Heap→Prop}
end
section
variable {prog:Program} {w:World} {A:Around} {E:Value→Shared→Prop} {s:Shared}
end
section
variable {X:Cx}
theorem call_listD (hc:X.calm=true):CallR X (.type "list") (fun xs H Q=>∃ (d:Addr) (kvs:List (Key × V)) (ns:List Int),xs=[.ref d]∧H d=some (.dK kvs)∧kvs.map (·.1)=ns.map Sum.inl∧∀ l,H l=none→Q (.ref l) (upd H l (.lst (ns.map V.int)))):=by
 intro pins s σ H xs us Q I r h
 obtain ⟨d,kvs,ns,rfl,hq,hk,q⟩:=h
 obtain ⟨u,rfl,rx⟩:=vals1 r
 cases rx
 obtain ⟨hz,hd,vs,rel,dd⟩:=dk_of I.hok hq
 obtain ⟨ep,da⟩:=dd.dictAt
 have lv:vs.length=kvs.length:=rel.length.symm
 have ln:ns.length=kvs.length:=by
  have:=congrArg List.length hk
  simpa using this.symm
 refine PySem.W.kdl_call (PySem.W.kdl_dict (ep:=ep) hd) (I.ok.hd hc) da (by rw [lv];exact hz) fun h' tk acc c' kept got items=>?_
 obtain ⟨l1,l2⟩:=items
 have ia:IntsAre acc.toList ns:=by
  refine ints_by (by rw [Array.length_toList,l1,lv,ln]) fun i v hv=>?_
  obtain ⟨k,x,e1,e2⟩:=l2 i v (by rw [← Array.getElem?_toList];exact hv)
  have ek:(kvs.map (·.1))[i]?=some k:=by rw [keys_of rel,List.getElem?_map,e1];rfl
  rw [hk,List.getElem?_map] at ek
  cases en:ns[i]? with
  | none=>rw [en] at ek;cases ek
  | some n=>
   rw [en] at ek
   cases ek
   obtain ⟨t,e3⟩:=Value.isInt_shape (k:=n) (v:=v) e2
   exact ⟨n,t,rfl,e3⟩
 refine ⟨.ref s.heap.objs.size,_,I.laid (a:=s.heap.objs.size) (o:=.lst (ns.map V.int)) (t':=tk) kept (Nat.le_refl _) ⟨by rw [List.length_map,ln];exact hz,acc.toList,c',qCM ia,by simpa using got⟩,rfl,q _ (I.hok.fresh (Nat.le_refl _))⟩
end
end L2
namespace L2
open PySem PySem.Spec PyProof.Rows
section
variable {X:Cx}
theorem ints_eq {A:Around} {s:Shared} {zs:List Int} {us vs:List Value} (h1:Vals (zs.map V.int) us) (h2:Vals (zs.map V.int) vs):∀ j (j1:j<us.toArray.size) (j2:j<vs.toArray.size),SeqAt.EqAt A s us.toArray[j] vs.toArray[j] true:=by
 intro j j1 j2
 have l1:=h1.length
 rw [List.length_map] at l1
 have hj:j<zs.length:=by simp at j1;omega
 have e0:(zs.map V.int)[j]?=some (.int zs[j]):=by rw [List.getElem?_map,List.getElem?_eq_getElem hj];rfl
 obtain ⟨u,eu,t,ru⟩:=h1.get e0
 obtain ⟨v,ev,t',rv⟩:=h2.get e0
 have hu:us.toArray[j]=u:=by
  rw [List.getElem_toArray]
  exact (List.getElem?_eq_some_iff.mp eu).2
 have hv:vs.toArray[j]=v:=by
  rw [List.getElem_toArray]
  exact (List.getElem?_eq_some_iff.mp ev).2
 rw [hu,hv,ru,rv]
 have h:=SeqAt.EqAt.int_int (A:=A) (s:=s) zs[j] t zs[j] t'
 rw [beq_self_eq_true] at h
 exact h
theorem op_ne_sameT (hu:X.A.units<cLine):OpR X (compareOp .NotEq) (fun x y H Q=>∃ (p l:Addr) (zs:List Int),x=.ref p∧y=.ref l∧SqT X.K H p (zs.map V.int)∧SqT X.K H l (zs.map V.int)∧Q (.bl false) H):=by
 intro pins s σ H x y v u Q I rx ry h
 obtain ⟨p,l,zs,rfl,rfl,h1,h2,q⟩:=h
 cases rx
 cases ry
 obtain ⟨us,r1,p1,z1⟩:=I.tuple h1
 obtain ⟨vs,r2,p2,z2⟩:=I.tuple h2
 refine PySem.SeqAt.RcNeAt.tuples (e:=fun _=>true) p1 p2 hu (ints_eq r1 r2) _ _ _ _ ⟨.bl false,H,I,?_,q⟩
 have e1:(List.range (min us.toArray.size vs.toArray.size)).all (fun _=>true)=true:=by simp
 have e2:(us.toArray.size == vs.toArray.size)=true:=by simp [← r1.length,← r2.length]
 rw [e1,e2]
 rfl
def rCatA (K:PySem.W.Frag):R2:=fun x y H Q=>∃ a b xs ys,x=.ref a∧y=.ref b∧SqT K H a xs∧SqT K H b ys∧ys ≠ []∧xs.length+ys.length≤sizeLine∧(xs=[]→Q (.ref b) H)∧(xs ≠ []→∀ p,H p=none→Q (.ref p) (upd H p (.tup (xs++ys))))
theorem op_catA:OpR X (binaryOp .Add) (rCatA X.K):=by
 intro pins s σ H x y v u Q I rx ry h
 obtain ⟨a,b,xs,ys,rfl,rfl,ha,hb,hy,hz,q1,q2⟩:=h
 by_cases hx:xs=[]
 ·subst hx
  cases rx
  cases ry
  obtain ⟨its,r1,p1,_⟩:=I.tuple ha
  obtain ⟨its2,r2,p2,_⟩:=I.tuple hb
  cases r1
  obtain ⟨⟨cls,dd,data,sl⟩,ho,hc,n,hd⟩:=id p1
  obtain ⟨⟨cls2,dd2,data2,sl2⟩,ho2,hc2,n2,hd2⟩:=id p2
  simp only at hc hd hc2 hd2
  subst hc hd hc2 hd2
  exact concat_meets ⟨_,ho,rfl⟩ ⟨_,ho2,rfl⟩ noFill_tuple_add seq_tuple_add PySem.F.slot_tuple_add PySem.F.entry_tuple_add (PySem.F.args_tuple_add_2 _ _) (tuple_addW0 a b #[] its2.toArray n n2 dd dd2 sl sl2 rfl) ⟨ho,ho2,.ref b,H,I,rfl,q1 rfl⟩
 ·exact op_catT pins s σ H (.ref a) (.ref b) v u Q I rx ry ⟨a,b,xs,ys,rfl,rfl,ha,hb,hx,hz,fun z=>absurd z hy,fun _=>q2 hx⟩
end
theorem for_enum {K:PySem.W.Frag} {a:Addr} {xs:List V} {g:TG} {tb:TS} {D:Ends} {σ0:St} {H0:Hp} (Pv:Nat→St→Hp→Prop) (h0:Pv 0 σ0 H0) (hl:∀ i σ H,i≤xs.length→Pv i σ H→SqL K H a xs)
  (hs:∀ i x σ H T,xs[i]?=some x→Pv i σ H→H T=none→g (.ref T) σ (upd H T (.tup [.int (i:Int),x])) fun σ2 H2=>tb { D with nx:=Pv (i+1),ct:=Pv (i+1),bk:=D.nx } σ2 H2)
  (hd:∀ σ H,Pv xs.length σ H→D.nx σ H) :
  ∃ W:Nat→Nat→St→Hp→Prop,(∃ m,W 0 m σ0 H0)∧∀ i m σ H,W i m σ H→
   ((Ite K a).stop i H∧D.nx σ H)∨((Ite K a).go i H∧∃ N:St→Hp→Prop,(∀ σ' H',N σ' H'→∃ m',m'<m∧W (i+1) m' σ' H')∧∀ x H',(Ite K a).yld i H x H'→g x σ H' fun σ2 H2=>tb { D with nx:=N,ct:=N,bk:=D.nx } σ2 H2):=by
 refine ⟨fun i m σ H=>m=xs.length - i∧i≤xs.length∧Pv i σ H,⟨xs.length,by simp,Nat.zero_le _,h0⟩,?_⟩
 rintro i m σ H ⟨rfl,hi,q⟩
 have hq:=hl i σ H hi q
 by_cases hlt:i<xs.length
 ·refine .inr ⟨⟨xs,xs[i],hq,by simp [hlt]⟩,Pv (i+1),fun σ' H' p'=>⟨xs.length - (i+1),by omega,rfl,hlt,p'⟩,fun v H' y=>?_⟩
  obtain ⟨T,x,hT,e1,e2,y⟩:=y
  subst e1 e2
  exact hs i x σ H T (y xs hq) q hT
 ·have e:i=xs.length:=by omega
  subst e
  exact .inl ⟨⟨xs,hq,Nat.le_refl _⟩,hd σ H q⟩
end L2
namespace L2
open PySem
def g5:Nat→Nat
 | 0=>0
 | n+1=>5 * g5 n+1
end L2
namespace L2
open PySem PySem.Spec PyProof.Rows
structure TabG (byText:Bool) (t:SetTable) (n:Nat):Prop where
 pow:∃ k,3≤k∧t.mask+1=2 ^ k
 dum:t.dummies=#[]
 plain:t.plain=true
 led:t.led=!byText
 size:t.place.size=n
 up:t.place.toList.Pairwise (·<·)
 le:∀ j ∈ t.place.toList,j≤t.mask
section
variable {byText:Bool} {t:SetTable} {n:Nat}
end
end L2
namespace L2
open PySem PySem.Spec PyProof.Rows
section
variable {mask:Nat} {owner:Array (Option Nat)}
end
structure Own (N:Nat) (L:List Nat) (owner:Array (Option Nat)):Prop where
 size:owner.size=N
 nd:L.Nodup
 lt:∀ j ∈ L,j<N
 at_:∀ (m j:Nat),L[m]?=some j→owner[j]?=some (some m)
 no:∀ j,j<N→j ∉ L→owner[j]?=some none
end L2
namespace L2
open PySem PySem.Spec PyProof.Rows
section
variable {prog:Program} {w:World} {A:Around} {E:Value→Shared→Prop} {s:Shared}
end
section
variable {prog:Program} {w:World} {A:Around} {R:Result→Shared→Prop} {I:Addr} {fp wr:List Addr} {G:Array GenState→Array GenState→Prop} {n:Nat} {P:Nat→Value→Prop} {St:Nat→Shared→Prop}
end
section
variable {prog:Program} {w:World} {A:Around} {E:Value→Shared→Prop} {s:Shared}
end
section
variable {prog:Program} {w:World} {A:Around} {E:Value→Shared→Prop} {s:Shared} {a I:Addr} {es:Array (Int × Value)} {ep:Nat} {t:SetTable} {i:Nat}
end
section
variable {X:Cx}
end
end L2
namespace L2
open PySem PySem.Spec PyProof.Rows
section
variable {X:Cx}
end
section
variable {prog:Program} {w:World} {A:Around} {E:Value→Shared→Prop} {s:Shared}
end
section
variable {X:Cx}
end
end L2
namespace L2
open PySem PySem.Spec PyProof.Rows
structure Ex (B:Heap) (l:List Env) (e:Addr) (cls:Value) (dd:Option Addr) (nt:Bool) (h:Heap):Prop where
 stays:B.StaysIn h
 new:B.get? e=none
 frames:h.FunFrames B l
 rec_:∃ (oe:Obj) (vs:Array Value) (x1:Value),h.get? e=some oe∧oe.cls=cls∧oe.dict=dd∧oe.data=.fields vs∧vs[1]?=some x1∧
  ((x1=.none∧nt=false)∨∃ (T:Addr) (oT:Obj) (ts:Array Value) (x3:Value),x1=.ref T∧B.get? T=none∧T ≠ e∧h.get? T=some oT∧oT.data=.fields ts∧ts[3]?=some x3)
theorem Ex.tail {B:Heap} {env:Env} {l:List Env} {e:Addr} {cls:Value} {dd:Option Addr} {nt:Bool} {h:Heap} (x:Ex B (env::l) e cls dd nt h):Ex B l e cls dd nt h:=⟨x.stays,x.new,x.frames.2.2,x.rec_⟩
section
variable {M:Model} {A:Around} {E:Value→Shared→Prop} {s:Shared} {B:Heap} {env:Env} {outer l:List Env} {L e:Addr} {cls:Value} {dd:Option Addr} {nt:Bool} {Q:Unit→Shared→Prop}
theorem ex_entry {oe:Obj} {vs:Array Value} {head:Value} {hadNext:Bool} (hfr:A.frames=some (env::outer)) (hl:s.heap.FunFrames B (env::outer)) (hf:env.frame=some L)
  (he:s.heap.get? e=some oe) (hkb:B.StaysIn s.heap) (hen:B.get? e=none) (hd:oe.data=.fields vs) (hsz:1<vs.size)
  (h:∀ h',Ex B (env::outer) e oe.cls oe.dict true h'→s.heap.UpToSlots h'→Q () { s with heap:=h' }) :
  wpAny M A (do let a ← frameOf env;let pl ← entryPlaceOf L hadNext;let b ← EntryCells.newEntry head a .none (rawInt L) .none pl;setField (.ref e) 1 b) Q E s:=by
 have hene:e ∉ (env::outer).filterMap (·.frame):=fun hm=>by
  obtain ⟨_,o,ho,hnf⟩:=hl.mem hm
  rw [he] at ho
  injection ho with ho
  subst ho
  exact hnf vs hd
 refine wpAny_bind (wpAny_frameOf_fun hfr hl hf fun h₁ hs₁=>?_)
 refine wpAny_bind (wpAny_entryPlaceOf fun pl hpl=>?_)
 unfold EntryCells.newEntry newFields
 refine wpAny_bind (wpAny_newObj_type ?_ (hpl.sizeOk5 _ _ _ _ _))
 have he₁:h₁.get? e=some oe:=(hs₁.2.1 e hene).trans he
 have kb₁:B.StaysIn h₁:=fun b o hbo=>(hs₁.2.1 b fun hm=>by rw [(hl.mem hm).1] at hbo;cases hbo).trans (hkb b o hbo)
 generalize ht:({ cls:=.type "traceback",dict:=none,data:=.fields ([head,.ref L,.none,rawInt L,.none]++(if pl.isEmpty then List.replicate 6 Value.none else pl)).toArray }:Obj)=oT
 have hdT:∃ ts:Array Value,oT.data=.fields ts∧∃ x3,ts[3]?=some x3:=by
  subst ht
  exact ⟨_,rfl,rawInt L,by simp⟩
 have nfT:oT.isFreed=false:=by subst ht;rfl
 have he₂:=Heap.get?_push_of_some (h:=h₁) oT he₁
 refine wpAny_setField he₂ hd hsz ?_
 have hTe:h₁.objs.size ≠ e:=Nat.ne_of_gt (Heap.lt_size he₁)
 have hd₃:=Obj.data_mapFields hd (·.setIfInBounds 1 (Value.ref h₁.objs.size))
 have he₃:=Heap.get?_update_self (Obj.mapFields (·.setIfInBounds 1 (Value.ref h₁.objs.size))) he₂ (Obj.isFreed_of_fields hd₃)
 have hT₃:=(Heap.get?_update_other (h₁.push oT) (Obj.mapFields (·.setIfInBounds 1 (Value.ref h₁.objs.size))) (Ne.symm hTe)).trans (Heap.get?_push_size h₁ nfT)
 have keep:∀ b o,b ≠ e→h₁.get? b=some o→((h₁.push oT).update e (Obj.mapFields (·.setIfInBounds 1 (Value.ref h₁.objs.size)))).get? b=some o:=fun b o hbe hb=>by
  rw [Heap.get?_update_other _ _ (Ne.symm hbe)]
  exact Heap.get?_push_of_some _ hb
 have noRecord:∀ b o,s.heap.get? b=some o→(∀ vs,o.data ≠ .fields vs)→b ≠ e:=fun b o hb hnf q=>by
  rw [q,he] at hb
  injection hb with hb
  subst hb
  exact hnf vs hd
 obtain ⟨ts,hts,x3,hx3⟩:=hdT
 refine h _ ⟨fun b o hbo=>keep b o (fun q=>by rw [q,hen] at hbo;cases hbo) (kb₁ b o hbo),hen,hl.of_keeps fun b o hb hnf=>?_,?_⟩ fun b o hb hnf=>?_
 ·obtain ⟨sl,hs⟩:=hs₁.2.2 b o hb
  exact ⟨_,keep b _ (noRecord b o hb hnf) hs,rfl⟩
 ·refine ⟨_,_,_,he₃,Obj.cls_mapFields _ _,?_,hd₃,?_,.inr ⟨h₁.objs.size,oT,ts,x3,rfl,kb₁.fresh,hTe,hT₃,hts,hx3⟩⟩
  ·obtain ⟨c,d,dt,sl⟩:=oe
   cases dt <;> rfl
  ·simp [hsz]
 ·obtain ⟨sl,hs⟩:=hs₁.2.2 b o hb
  exact ⟨sl,keep b _ (noRecord b o hb hnf) hs⟩
theorem ex_note (hfr:A.frames=some (env::outer)) (hf:env.frame=some L) (x:Ex B (env::outer) e cls dd nt s.heap) (h:∀ h',Ex B (env::outer) e cls dd true h'→s.heap.UpToSlots h'→Q () { s with heap:=h' }) :
  wpAny M A (noteFrame (.ref e) env) Q E s:=by
 obtain ⟨oe,vs,x1,he,rfl,rfl,hd,h1,hx⟩:=x.rec_
 have hsz:1<vs.size:=(Array.getElem?_eq_some_iff.mp h1).1
 unfold noteFrame
 simp only [hf]
 refine wpAny_bind (wpAny_field he hd h1 ?_)
 rcases hx with ⟨rfl,_⟩ | ⟨T,oT,ts,x3,rfl,hnT,hTe,hT,hdT,h3⟩
 ·rw [if_neg (by decide)]
  exact ex_entry hfr x.frames hf he x.stays x.new hd hsz h
 ·rw [if_pos (show (Value.ref T != Value.none)=true from by simp)]
  refine wpAny_bind (wpAny_field hT hdT h3 ?_)
  refine wpAny_ite_split (fun _=>?_) (fun _=>?_)
  ·exact wpAny_pure (h _ ⟨x.stays,x.new,x.frames,oe,vs,_,he,rfl,rfl,hd,h1,.inr ⟨T,oT,ts,x3,rfl,hnT,hTe,hT,hdT,h3⟩⟩ (Heap.UpToSlots.refl _))
  ·refine wpAny_bind (wpAny_setField hT hdT (Array.getElem?_eq_some_iff.mp h3).1 ?_)
   have other:∀ b,b ≠ T→(s.heap.update T (Obj.mapFields (·.setIfInBounds 3 Value.none))).get? b=s.heap.get? b:=fun b hb=>Heap.get?_update_other _ _ (Ne.symm hb)
   have noRecord:∀ b o,s.heap.get? b=some o→(∀ vs,o.data ≠ .fields vs)→b ≠ T:=fun b o hb hnf q=>by
    rw [q,hT] at hb
    injection hb with hb
    subst hb
    exact hnf ts hdT
   refine ex_entry hfr (x.frames.of_keeps fun b o hb hnf=>⟨o,(other b (noRecord b o hb hnf)).trans hb,rfl⟩) hf ((other e (Ne.symm hTe)).trans he)
    (fun b o hbo=>(other b fun q=>by rw [q,hnT] at hbo;cases hbo).trans (x.stays b o hbo)) x.new hd hsz
    fun h' x1 x2=>h h' x1 fun b o hb hnf=>x2 b o ((other b (noRecord b o hb hnf)).trans hb) hnf
theorem qCT {f:Option Addr} (x:Ex B l e cls dd true s.heap) (h:∀ h',Ex B l e cls dd true h'→s.heap.UpToSlots h'→Q () { s with heap:=h' }):wpAny M A (setFlight (.ref e) f) Q E s:=by
 obtain ⟨oe,vs,x1,he,rfl,rfl,hd,h1,hx⟩:=x.rec_
 rcases hx with ⟨_,z⟩ | ⟨T,oT,ts,x3,rfl,hnT,hTe,hT,hdT,h3⟩
 ·cases z
 have hsz3:3<ts.size:=(Array.getElem?_eq_some_iff.mp h3).1
 unfold setFlight
 refine wpAny_bind (wpAny_field he hd h1 ?_)
 rw [if_pos (show (Value.ref T != Value.none)=true from by simp)]
 have other:∀ b,b ≠ T→(s.heap.update T (Obj.mapFields (·.setIfInBounds 3 (f.elim Value.none fun f=>rawInt f)))).get? b=s.heap.get? b:=fun b hb=>Heap.get?_update_other _ _ (Ne.symm hb)
 have noRecord:∀ b o,s.heap.get? b=some o→(∀ vs,o.data ≠ .fields vs)→b ≠ T:=fun b o hb hnf q=>by
  rw [q,hT] at hb
  injection hb with hb
  subst hb
  exact hnf ts hdT
 refine wpAny_setField hT hdT hsz3 (h _ ⟨fun b o hbo=>(other b fun q=>by rw [q,hnT] at hbo;cases hbo).trans (x.stays b o hbo),x.new,
  x.frames.of_keeps fun b o hb hnf=>⟨o,(other b (noRecord b o hb hnf)).trans hb,rfl⟩,oe,vs,_,(other e (Ne.symm hTe)).trans he,rfl,rfl,hd,h1,.inr ⟨T,_,_,f.elim Value.none (fun f=>rawInt f),rfl,hnT,hTe,Heap.get?_update_self _ hT (Obj.isFreed_of_fields (Obj.data_mapFields hdT _)),Obj.data_mapFields hdT _,by simp [hsz3]⟩⟩
  fun b o hb hnf=>⟨o.slots,(other b (noRecord b o hb hnf)).trans hb⟩)
theorem ex_leave (hfr:A.frames=some (env::outer)) (hf:env.frame=some L) (x:Ex B (env::outer) e cls dd nt s.heap) (h:∀ h',Ex B outer e cls dd true h'→s.heap.UpToSlots h'→Q () { s with heap:=h' }) :
  wpAny M A (leaving env (.ref e)) Q E s:=by
 unfold leaving
 refine wpAny_bind (ex_note hfr hf x fun h1 x1 u1=>?_)
 exact qCT (s:={ s with heap:=h1 }) x1 fun h2 x2 u2=>h h2 x2.tail (u1.trans u2)
theorem ex_back (x:Ex B l e cls dd true s.heap) (h:∀ h',Ex B l e cls dd true h'→s.heap.UpToSlots h'→E (.ref e) { s with heap:=h' }):cameBackBy M A env E (.ref e) s:=by
 obtain ⟨oe,vs,x1,he,_,_,hd,h1,hx⟩:=x.rec_
 rcases hx with ⟨_,z⟩ | ⟨T,oT,ts,x3,rfl,hnT,hTe,hT,hdT,h3⟩
 ·cases z
 unfold cameBackBy
 refine wpAny_bind (wpAny_field he hd h1 ?_)
 rw [if_neg (show ¬ ((Value.ref T == Value.none)=true) from by simp)]
 exact qCT x h
end
end L2
namespace L2
open PySem PySem.Spec PyProof.Rows
theorem ObjOk.has {P:Program} {w:World} {H:Hp} {h:Heap} {a:Addr} {o:HO} (x:ObjOk P w H h a o):∃ u,h.get? a=some u:=by
 cases o with
 | lst xs=>obtain ⟨_,_,_,_,e⟩:=x;exact ⟨_,e⟩
 | tup xs=>obtain ⟨_,_,_,ob,e,_⟩:=x;exact ⟨_,e⟩
 | dK kvs=>obtain ⟨_,_,_,_,o,_,_,e,_⟩:=x;exact ⟨_,e⟩
 | dT kvs=>obtain ⟨_,_,_,_,o,_,_,e,_⟩:=x;exact ⟨_,e⟩
 | set S n=>obtain ⟨o,_,_,_,e,_⟩:=x;exact ⟨_,e⟩
 | ins C dx fs=>obtain ⟨_,_,_,e,_⟩:=x;exact ⟨_,e⟩
 | own y=>obtain ⟨_,e⟩:=x;exact ⟨_,e⟩
 | xd fs=>obtain ⟨_,⟨_,_,_,e,_⟩,_⟩:=x;exact ⟨_,e⟩
 | rng lo hi=>obtain ⟨_,_,_,e⟩:=x;exact ⟨_,e⟩
 | frz ob u=>exact ⟨_,x.1⟩
 | tbl t=>
  cases t with
  | tab q=>obtain ⟨_,e,_⟩:=x;exact ⟨_,e⟩
  | cod q=>obtain ⟨c,o,_,_,e,g,_⟩:=x;cases e;exact ⟨_,g⟩
 | met f y=>exact ⟨_,show h.get? a=some (PySem.W.methodObj (.ref f) (.ref y)) from x⟩
 | ext φ=>exact x.2.1
def Kp (outer:List Env) (H':Hp) (h0:Heap) (b:Addr):Prop:=(∃ o,H' b=some o)∨((∃ o,h0.get? b=some o)∧b ∉ frs outer)
structure XD (P:Program) (w:World) (outer l:List Env) (H:Hp) (h0:Heap) (e:Addr) (cls:Value) (dd:Option Addr) (H':Hp) (B:Heap) (nt:Bool) (h:Heap):Prop where
 un:Un (frs outer) [] H H' h0 h
 hok:HOk P w H' h
 ex:Ex B l e cls dd nt h
 kp:∀ b o,h.get? b=some o→Kp outer H' h0 b→B.get? b=some o
 ne:H' e=none
 ge:h0.objs.size≤e
theorem XD.step {P:Program} {w:World} {outer l l':List Env} {H:Hp} {h0:Heap} {e:Addr} {cls:Value} {dd:Option Addr} {H':Hp} {B:Heap} {nt nt':Bool} {h h':Heap} (x:XD P w outer l H h0 e cls dd H' B nt h)
  (ex:Ex B l' e cls dd nt' h') (u:h.UpToSlots h') (hs:∀ b ∈ frs outer,b ∈ frs l):XD P w outer l' H h0 e cls dd H' B nt' h':=by
 have st:∀ b o,h.get? b=some o→Kp outer H' h0 b→h'.get? b=some o:=fun b o q k=>ex.stays b o (x.kp b o q k)
 have hask:∀ b,Kp outer H' h0 b→∃ o,h.get? b=some o:=fun b k=>by
  rcases k with ⟨o,q⟩ | ⟨⟨o,q⟩,_⟩
  ·exact (x.hok b o q).has
  ·exact x.un.there b o q (by simp)
 have fr:∀ b o,h.get? b=some o→b ∈ frs outer→∃ sl,h'.get? b=some { o with slots:=sl }:=fun b o q m=>by
  obtain ⟨_,o',ho',hd⟩:=x.ex.frames.mem (hs b m)
  rw [q] at ho'
  cases ho'
  exact u b o q hd
 refine ⟨⟨fun b o q n nf nx=>st b o (x.un.keep b o q n nf nx) (.inr ⟨⟨o,q⟩,nf⟩),fun b o q n m nx=>?_,x.un.free,fun b o q nx=>?_,x.un.tups,x.un.frzs,x.un.tbls⟩,fun a o q=>?_,ex,fun b o q k=>?_,x.ne,x.ge⟩
 ·obtain ⟨sl,q1⟩:=x.un.slot b o q n m nx
  obtain ⟨sl',q2⟩:=fr b _ q1 m
  exact ⟨sl',q2⟩
 ·obtain ⟨o1,q1⟩:=x.un.there b o q nx
  by_cases m:b ∈ frs outer
  ·obtain ⟨sl,q2⟩:=fr b o1 q1 m
   exact ⟨_,q2⟩
  ·exact ⟨o1,st b o1 q1 (.inr ⟨⟨o,q⟩,m⟩)⟩
 ·refine (x.hok a o q).stay (fun b v hb r=>st b v r ?_) (fun _ z=>z) fun _ _ z=>z
  rcases hb with rfl | hb
  ·exact .inl ⟨o,q⟩
  ·exact .inl ⟨_,hb⟩
 ·obtain ⟨o1,q1⟩:=hask b k
  have:=st b o1 q1 k
  rw [q] at this
  cases this
  exact x.kp b o q1 k
def CX1 (P:Program) (w:World):CXT:=fun outer H s E ev s'=>∃ (e:Addr) (cls:Value) (dd:Option Addr) (H':Hp) (B:Heap) (nt:Bool),ev=.ref e∧s'.os=s.os∧AllBare s'.gens∧XD P w outer outer H s.heap e cls dd H' B nt s'.heap∧E cls dd H'
def XP (X:Cx) (G:XK) (ev:Value) (s':Shared):Prop:=X.A.frames=some X.stack∧∃ (e:Addr) (cls:Value) (dd:Option Addr) (H':Hp) (B:Heap) (nt:Bool),ev=.ref e∧s'.os=X.s₀.os∧AllBare s'.gens∧XD X.prog X.w X.outer X.stack X.H₀ X.s₀.heap e cls dd H' B nt s'.heap∧G cls dd H'
section
variable {X:Cx} {E:XK} {G:XK} {pins:List (Addr × Obj)} {σ:St} {H:Hp} {s s':Shared}
theorem PassesOwn.xp (hst:X.stack=X.env::X.outer) (hf:X.env.frame=some X.env.locals):PassesOwn (model X.prog X.w) X.A X.env (XP X G):=by
 rintro ev s1 ⟨hfr,e,cls,dd,H',B,nt,rfl,ho,hg,x,g⟩
 have hs:∀ b ∈ frs X.outer,b ∈ frs X.stack:=fun b hb=>by
  rw [hst]
  unfold frs at hb ⊢
  rw [List.filterMap_cons,hf]
  exact List.mem_cons_of_mem _ hb
 have hex:=x.ex
 rw [hst] at hex
 unfold notedBy
 refine ex_note (hfr.trans (by rw [hst])) hf hex fun h1 x1 u1=>?_
 refine ex_back (s:={ s1 with heap:=h1 }) x1 fun h2 x2 u2=>?_
 rw [← hst] at x2
 exact ⟨hfr,e,cls,dd,H',B,true,rfl,ho,hg,x.step x2 (u1.trans u2) hs,g⟩
end
section
variable {P:Program} {w:World} {K:PySem.W.Frag} {mg:Str→Option Value} {base:Heap}
theorem xe_of {N:List Str} {qual:Str} {scope:Scope} {f:Addr} {cd:Value} {A:Around} {outer:List Env} {s:Shared} {H:Hp} {E:XK} {ev:Value} {s':Shared}
  (q:XP (cxOf (CX1 P w) P w K mg base N qual scope f cd A outer s H E) E ev s'):(cxOf (CX1 P w) P w K mg base N qual scope f cd A outer s H E).xe ev s':=by
 obtain ⟨hfr,e,cls,dd,H',B,nt,rfl,ho,hg,x,g⟩:=q
 refine ex_leave (L:=s.heap.objs.size) hfr rfl x.ex fun h1 x1 u1=>?_
 exact ⟨e,cls,dd,H',B,true,rfl,ho,hg,x.step x1 u1 fun b hb=>List.mem_cons_of_mem _ hb,g⟩
abbrev cxX (P:Program) (w:World) (K:PySem.W.Frag) (mg:Str→Option Value) (base:Heap) (N:List Str) (qual:Str) (scope:Scope) (f:Addr) (cd:Value) (A:Around) (outer:List Env) (s:Shared) (H:Hp) (E:XK):Cx:=
 (cxOf (CX1 P w) P w K mg base N qual scope f cd A outer s H E).wish (XP (cxOf (CX1 P w) P w K mg base N qual scope f cd A outer s H E) E)
theorem Fun.okX {x qual:Str} {st:Stmt} {f:Addr} {fd:FuncData} {N ps:List Str} {k:Nat} {sp:Sp} (F:Fun K x qual st f fd) (S:FnScope N ps (defScope st)) (len:∀ vs H Q E,sp vs H Q E→vs.length=ps.length)
  (hbody:∀ (cdv:Value) (A:Around) (outer:List Env) (s:Shared) (H:Hp) (vs:List V) (Q:VK) (E:XK),Room k (A.deeper (envOfC qual (defScope st) s.heap.objs.size f cdv))→sp vs H Q E→
   ∃ t,PSs (cxX P w K mg base N qual (defScope st) f cdv A outer s H E) (defBody st) t∧t { nx:=fun _ H'=>Q .non H',rt:=Q } (start N vs) H):FnOk P w K mg base (CX1 P w) (k+1) f fd ps sp:=by
 obtain ⟨oc,od,kV,doc,pm,an,cdv,ct,osl,rfl,lk,hcd⟩:=F.ex
 refine fn_of lk hcd S len fun A outer s H vs Q E hr hsp=>?_
 obtain ⟨t,h,q⟩:=hbody cdv A outer s H vs Q E hr hsp
 exact ⟨t,fun pins s1 σ H1 D I hw=>wpAny_mono (h pins s1 σ H1 D (I.wish _) hw) (fun _ _ q=>q.unwish) fun ev s2 q=>xe_of q,q⟩
theorem own1 {N:List Str} {qual:Str} {scope:Scope} {f:Addr} {cd:Value} {A:Around} {outer:List Env} {s:Shared} {H:Hp} {E:XK}:PassesOwn (model (cxX P w K mg base N qual scope f cd A outer s H E).prog (cxX P w K mg base N qual scope f cd A outer s H E).w) (cxX P w K mg base N qual scope f cd A outer s H E).A (cxX P w K mg base N qual scope f cd A outer s H E).env (cxX P w K mg base N qual scope f cd A outer s H E).xe:=
 PassesOwn.xp (X:=cxOf (CX1 P w) P w K mg base N qual scope f cd A outer s H E) rfl rfl
end
end L2
namespace L2
open PySem PySem.Spec PyProof.Rows
def ExcO (e:Addr) (cls:Value) (dd:Option Addr):HO:=.ext fun h=>∃ (oe:Obj) (vs:Array Value),h.get? e=some oe∧oe.cls=cls∧oe.dict=dd∧oe.data=.fields vs
theorem excO_ok {P:Program} {w:World} {H:Hp} {h:Heap} {e:Addr} {cls:Value} {dd:Option Addr} {oe:Obj} {vs:Array Value} (h1:h.get? e=some oe) (h2:oe.cls=cls) (h3:oe.dict=dd) (h4:oe.data=.fields vs):ObjOk P w H h e (ExcO e cls dd):=
 ⟨⟨oe,vs,h1,h2,h3,h4⟩,⟨oe,h1⟩,fun _ _ ⟨o,ws,a,b,c,d⟩ k=>⟨o,ws,k _ a,b,c,d⟩⟩
abbrev Cx.held (X:Cx) (ev:Value):Cx:={ X with A:=X.A.mark (some ev),calm:=false }
section
variable {X:Cx} {pins:List (Addr × Obj)} {σ:St} {H:Hp} {s:Shared} {ev:Value}
theorem Inv.held (I:Inv X pins σ H s) (ev:Value):Inv (X.held ev) pins σ H s:=
 ⟨⟨I.ok.mod,I.ok.kind,I.ok.glob,I.ok.blt,I.ok.above,I.ok.inj,I.ok.has,I.ok.cab,(fun z=>nomatch z),I.ok.frames,I.ok.stk,I.ok.exf,I.ok.bs,I.ok.bsz,I.ok.noex,I.ok.exfs,I.ok.funs,I.ok.frf⟩,I.os,I.bare,I.base,I.loc,I.cell,I.free,I.freeC,I.pin,I.hok,I.len⟩
theorem Inv.unheld (ok:X.Ok) (I:Inv (X.held ev) pins σ H s):Inv X pins σ H s:=⟨ok,I.os,I.bare,I.base,I.loc,I.cell,I.free,I.freeC,I.pin,I.hok,I.len⟩
theorem Inv.goes {M:Model} {A:Around} {E:Value→Shared→Prop} {j:Nat} {n:Str} {pos:Pos} {Q:Unit→Shared→Prop} (I:Inv X pins σ H s) (hN:X.N.Nodup) (hj:X.N[j]?=some n) (hl:X.env.scope.names.lookup n=some .local)
  (h:∀ s',Inv X pins (σ.set j none) H s'→Q () s'):wpAny M A (do bindName X.env n .none;unbindBehindTheSuite X.env n pos) Q E s:=by
 refine wpAny_bind (wpAny_bindName (store_ok (v:=.non) I hN hj (.inl hl) rfl (fun s1 I1=>?_) (.inr hl)))
 unfold unbindBehindTheSuite
 refine wpAny_onRaise ?_
 obtain ⟨m,hn,hlk⟩:=id I1.loc
 have hjl:j<σ.length:=by rw [I.len];exact (List.getElem?_eq_some_iff.mp hj).1
 have hv:∃ v,m n=some v:=by
  obtain ⟨u,_,z | ⟨z,_⟩⟩:=hlk j n .non hj (by rw [List.getElem?_set_self hjl]) (.inl hl)
  ·exact ⟨u,z.2⟩
  ·have:X.env.scope.names.lookup n=some .cell∨X.env.scope.names.lookup n=some .free:=z
   rw [hl] at this
   rcases this with z | z <;> cases z
 obtain ⟨v,hv⟩:=hv
 have hcls:(X.env.scope.kind == .class || (X.env.scope.kind == .module && X.env.locals != X.env.globals))=false:=by rw [I.ok.kind];rfl
 refine wpAny_unbindName_local hl hn hv hcls fun h' u hn' hs=>h _ ?_
 obtain ⟨oL,es,ep,hoL,r⟩:=id hn
 obtain ⟨oL',_,_,hoL',_⟩:=id hn'
 have lo:∀ b ob,X.s₀.heap.get? b=some ob→b ≠ X.env.locals:=fun b ob e=>Nat.ne_of_lt (Nat.lt_of_lt_of_le (Heap.lt_size e) I.ok.above)
 refine ⟨I1.ok,I1.os,I1.bare,⟨fun b o e n' hb hx=>?_,fun b o e n' hb hx=>?_,I1.base.free,fun b o e hx=>?_,I1.base.tups,I1.base.frzs,I1.base.tbls⟩,⟨_,hn',fun k y v' e1 e2 e3=>?_⟩,fun y c e=>?_,I1.free,I1.freeC,fun p hp=>?_,fun b ob e=>?_,by simpa using I.len⟩
 ·exact (hs.2 b (lo b o e)).trans (I1.base.keep b o e n' hb hx)
 ·obtain ⟨sl,e1⟩:=I1.base.slot b o e n' hb hx
  exact ⟨sl,(hs.2 b (lo b o e)).trans e1⟩
 ·obtain ⟨o',e1⟩:=I1.base.there b o e hx
  exact ⟨o',(hs.2 b (lo b o e)).trans e1⟩
 ·by_cases hk:k=j
  ·subst hk
   rw [List.getElem?_set_self hjl] at e2
   cases e2
  ·rw [List.getElem?_set_ne (Ne.symm hk)] at e2
   obtain ⟨u',r',q⟩:=hlk k y v' e1 (by rw [List.getElem?_set_ne (Ne.symm hk)];exact e2) e3
   refine ⟨u',r',?_⟩
   have hyn:y ≠ n:=fun z=>hk ((List.getElem?_inj (List.getElem?_eq_some_iff.mp e1).1 hN).mp (by rw [e1,hj,z]))
   rcases q with ⟨q1,q2⟩ | ⟨q1,c,q2,q3⟩
   ·exact .inl ⟨q1,(if_neg hyn).trans q2⟩
   ·obtain ⟨oc,q3,q4⟩:=q3
    exact .inr ⟨q1,c,q2,oc,(hs.2 c (I.cne y c q2)).trans q3,q4⟩
 ·obtain ⟨v,oc,q3,q4⟩:=I1.cell y c e
  exact ⟨v,oc,(hs.2 c (I.cne y c e)).trans q3,q4⟩
 ·obtain ⟨e1,n1,n2,r⟩:=I1.pin p hp
  exact ⟨(hs.2 p.1 n2).trans e1,n1,n2,r⟩
 ·refine (I1.hok b ob e).stay (fun c w' hc q=>(hs.2 c ?_).trans q) (fun _ q=>q) fun _ _ q=>q
  rintro rfl
  rcases hc with rfl | hc
  ·rw [I1.free] at e;cases e
  ·rw [I1.free] at hc;cases hc
theorem Inv.lands {Q:Unit→Shared→Prop} {EE:Value→Shared→Prop} {E:XK} {G:XK} {H1:Hp} {s1 s2:Shared} (I:Inv X pins σ H1 s1) (hst:X.stack=X.env::X.outer) (hf:X.env.frame=some X.env.locals) (q:CX1 X.prog X.w X.stack H1 s1 G ev s2)
  (h:∀ e cls dd H2 B s3,ev=.ref e→Inv X pins σ H2 s3→XD X.prog X.w X.stack X.stack H1 s1.heap e cls dd H2 B true s3.heap→G cls dd H2→Q () s3) :
  wpAny (model X.prog X.w) X.A (noteFrame ev X.env) (fun _ s3=>wpAny (model X.prog X.w) X.A (setFlight ev none) Q EE s3) EE s2:=by
 obtain ⟨e,cls,dd,H2,B,nt,rfl,ho,hg,x,g⟩:=q
 have hex:=x.ex
 rw [hst] at hex
 refine ex_note (I.ok.frames.trans (by rw [hst])) hf hex fun h3 x3 u3=>?_
 refine qCT (s:={ s2 with heap:=h3 }) x3 fun h4 x4 u4=>?_
 rw [← hst] at x4
 have y:=x.step x4 (u3.trans u4) fun b hb=>hb
 exact h e cls dd H2 B _ rfl (I.call' (s':={ s2 with heap:=h4 }) ho y.un y.hok hg fun b hb=>absurd hb (by simp)) y g
theorem Inv.caught {H1 H2:Hp} {h1:Heap} {e:Addr} {cls:Value} {dd:Option Addr} {B:Heap} {nt:Bool} (I:Inv X pins σ H2 s) (I0:∃ s1,Inv X pins σ H1 s1∧s1.heap=h1) (x:XD X.prog X.w X.stack X.stack H1 h1 e cls dd H2 B nt s.heap):Inv X pins σ (upd H2 e (ExcO e cls dd)) s:=by
 obtain ⟨s1,I1,rfl⟩:=I0
 obtain ⟨oe,vs,x1,a1,a2,a3,a4,_⟩:=x.ex.rec_
 have lt:∀ b ob,s1.heap.get? b=some ob→b ≠ e:=fun b ob q=>Nat.ne_of_lt (Nat.lt_of_lt_of_le (Heap.lt_size q) x.ge)
 refine I.track x.ne (Nat.le_trans I1.sz x.ge) (fun z=>?_) (fun y c q z=>?_) (fun p hp z=>?_) (excO_ok a1 a2 a3 a4)
 ·obtain ⟨m,⟨o,_,_,ho,_⟩,_⟩:=I1.loc
  exact lt _ _ ho z.symm
 ·obtain ⟨v,oc,q3,_⟩:=I1.cell y c q
  exact lt _ _ q3 z
 ·exact lt _ _ (I1.pin p hp).1 z
end
section
variable {X:Cx}
def Ends.off (D:Ends):Option Nat→Ends
 | none=>D
 | some j=>{ nx:=fun σ H=>D.nx (σ.set j none) H,rt:=D.rt,bk:=fun σ H=>D.bk (σ.set j none) H,ct:=fun σ H=>D.ct (σ.set j none) H }
def onE (σ:St) (e:Addr):Option Nat→St
 | none=>σ
 | some j=>σ.set j (some (.ref e))
def tTryA (K:PySem.W.Frag) (i:Nat) (ta:TA) (sp:Sp) (dvs:List V) (c:Value) (j:Option Nat) (th:TS):TS:=fun D σ H=>ta σ H fun vs H1=>
 sp (vs++dvs) H1 (fun v H2=>D.nx (σ.set i (some v)) H2) fun cls dd H2=>PySem.W.exmOne K cls c=some true∧∀ e,H2 e=none→th (D.off j) (onE σ e j) (upd H2 e (ExcO e cls dd))
theorem SP.back {pins:List (Addr × Obj)} {D:Ends} {f:Flow} {s':Shared} {ev:Value} (ok:X.Ok) (h:SP (X.held ev).nox pins D f s'):SP X pins D f s':=by
 cases f with
 | next=>obtain ⟨σ',H',I,q⟩:=h;exact ⟨σ',H',I.unwish.unheld ok,q⟩
 | brk=>obtain ⟨σ',H',I,q⟩:=h;exact ⟨σ',H',I.unwish.unheld ok,q⟩
 | cont=>obtain ⟨σ',H',I,q⟩:=h;exact ⟨σ',H',I.unwish.unheld ok,q⟩
 | ret u=>obtain ⟨v,σ',H',I,r,q⟩:=h;exact ⟨v,σ',H',I.unwish.unheld ok,r,q⟩
theorem ps_tryA {i:Nat} {x fn cn:Str} {a:Expr} {as:List Expr} {px pf pc pa pC ph pt:Pos} {b₀:Stmt} {hbody:List Stmt} {ta:TA} {th:TS} {c:Value} {nm:Option Str} {j:Option Nat} {k:Nat} {f:Addr} {fd:FuncData} {ps:List Str} {sp:Sp} {dvs:List V} {ds:List Value}
  (hst:X.stack=X.env::X.outer) (hfm:X.env.frame=some X.env.locals) (hN:X.N.Nodup) (hi:X.N[i]?=some x) (hx:Loc X.env.scope x)
  (F:FnOk X.prog X.w X.K X.mg X.base (CX1 X.prog X.w) k f fd ps sp) (hr:Room k X.A) (hg:Gl X fn) (hm:X.mg fn=some (.ref f)) (hk:PySem.W.keepIn X.K (.ref f)=true) (hb:Binds X.K fd ps ds) (hd:Vals dvs ds)
  (ha:PA X.nox (a::as) ta) (hgc:Gl X cn) (hmc:X.mg cn=some c)
  (hj:match j,nm with | none,none=>True | some j,some n=>X.N[j]?=some n∧X.env.scope.names.lookup n=some .local | _,_=>False)
  (hh:∀ ev,PSs (X.held ev).nox (b₀::hbody) th)
  (hs:swapsWith (.Call (.Name fn pf) (a::as) [] pc) (some (.Name x px)) pa.line X.env=pure false:=by rfl) (hfl:X.fn x=true∨X.env.scope.names.lookup x=some .local:=by first | exact .inl rfl | exact .inr rfl | assumption)
  (hdb:(fn == ("__debug__" : Str))=false:=by decide) (hdc:(cn == ("__debug__" : Str))=false:=by decide)
  (he:starEach (a::as) X.env=(false,eval a X.env)::starEach as X.env:=by rfl) (hpl:(backTo pc (starEach as X.env)).any (·.1)=false:=by rfl) :
  PS X (.Try [.Assign [.Name x px] (.Call (.Name fn pf) (a::as) [] pc) pa] [.ExceptHandler (some (.Name cn pC)) nm (b₀::hbody) ph] [] [] pt) (tTryA X.K i ta sp dvs c j th):=by
 intro pins s σ H D I h
 rw [arm_exec_Try]
 refine wpAny_bind (wpAny_standAt ?_)
 refine wpAny_tryStmt_except ?_
 refine wpAny_execs_cons ?_
 refine wpAny_Assign_Name ?_ hs
 refine wpAny_Call_Name_kw (ld_glob I hg hm ?_ hdb)
 refine PySem.W.callWith_K (h₀:=X.base) I.ok.mod.kin hk (wpAny_mono (ha pc pins s σ H _ (I.wish _) h) (fun us s1 ⟨vs,H1,I1,r,q⟩=>?_) fun _ _ z=>z.elim) he hpl
 have I1:=I1.unwish
 refine ⟨I1.kIn,?_⟩
 have r2:Vals (vs++dvs) (us++ds):=r.append hd
 have hl:(us++ds).length=ps.length:=by rw [← r2.length];exact F.len _ _ _ _ q
 refine wpAny_call (codeAny_mono (F.run X.A X.stack s1 H1 ⟨us,[]⟩ (us++ds) (vs++dvs) _ _ hr I1.env0 (hb s1 us I1.kIn hl) r2 q) fun res s2 hq=>?_)
 cases res with
 | ok fl=>
  cases fl with
  | ret u=>
   obtain ⟨v,H2,I2,rv,q2⟩:=I1.after hq
   refine store_ok I2 hN hi hx rv (fun s3 I3=>?_) hfl
   exact wpAny_execs_nil (wpAny_execs_nil ⟨_,H2,I3,q2⟩)
  | next=>exact False.elim hq
  | brk=>exact False.elim hq
  | cont=>exact False.elim hq
 | error ev=>
  refine I1.lands (E:=fun _ _ _=>True) hst hfm hq fun e cls dd H2 B s3 ee I3 y g=>?_
  subst ee
  obtain ⟨hc,g⟩:=g
  obtain ⟨oe,vs3,x13,a1,a2,_⟩:=y.ex.rec_
  have LT:PySem.W.Looks (model X.prog X.w) s3.heap (typeOf (.ref e)) cls:=by
   subst a2
   exact (PySem.W.Looks.ld a1).andThen .now
  refine wpAny_handleBy_cons (codeAny_handlers_test ?_) (by intro z;cases z)
  have J3:=I3.held (.ref e)
  refine ld_glob J3 hgc hmc ?_ hdc
  refine (PySem.W.exm_one I3.kIn LT hc).here ?_
  have okX:=I3.ok
  cases nm with
  | none=>
   cases j with
   | some j=>exact hj.elim
   | none=>
    refine codeAny_handlers_suite (qCT y.ex fun h4 x4 u4=>?_)
    have y4:=y.step x4 u4 fun b hb=>hb
    have I4:Inv X pins σ H2 { s3 with heap:=h4 }:=I1.call' (s':={ s3 with heap:=h4 }) (I3.os.trans I1.os.symm) y4.un y4.hok I3.bare fun b hb=>absurd hb (by simp)
    have I5:=I4.caught ⟨s1,I1,rfl⟩ y4
    exact wpAny_mono (hh (.ref e) pins _ σ _ D ((I5.held _).wish _) (g e y.ne)) (fun fl s5 q5=>SP.back okX q5) fun _ _ z=>z.elim
  | some n=>
   cases j with
   | none=>exact hj.elim
   | some j=>
    obtain ⟨hj1,hj2⟩:=hj
    refine codeAny_handlers_suite_as (qCT y.ex fun h4 x4 u4=>?_)
    have y4:=y.step x4 u4 fun b hb=>hb
    have I4:Inv X pins σ H2 { s3 with heap:=h4 }:=I1.call' (s':={ s3 with heap:=h4 }) (I3.os.trans I1.os.symm) y4.un y4.hok I3.bare fun b hb=>absurd hb (by simp)
    have I5:=I4.caught ⟨s1,I1,rfl⟩ y4
    refine store_ok (v:=.ref e) I5 hN hj1 (.inl hj2) rfl (fun s6 I6=>?_) (.inr hj2)
    refine wpAny_mono (hh (.ref e) pins _ _ _ _ ((I6.held _).wish _) (g e y.ne)) (fun fl s5 q5=>?_) fun _ _ z=>z.elim
    have q5:=SP.back okX q5
    cases fl with
    | next=>obtain ⟨σ7,H7,I7,q7⟩:=q5;exact I7.goes hN hj1 hj2 fun s8 I8=>⟨_,H7,I8,q7⟩
    | brk=>obtain ⟨σ7,H7,I7,q7⟩:=q5;exact I7.goes hN hj1 hj2 fun s8 I8=>⟨_,H7,I8,q7⟩
    | cont=>obtain ⟨σ7,H7,I7,q7⟩:=q5;exact I7.goes hN hj1 hj2 fun s8 I8=>⟨_,H7,I8,q7⟩
    | ret u=>obtain ⟨v7,σ7,H7,I7,r7,q7⟩:=q5;exact I7.goes hN hj1 hj2 fun s8 I8=>⟨v7,_,H7,I8,r7,q7⟩
end
end L2
namespace L2
open PySem PySem.Spec PyProof.Rows
def bmV:List Value:=[.type "ValueError",.type "Exception",.type "BaseException",.type "object"]
def xcIn (K:PySem.W.Frag) (C:Addr) (init:Option Value):Bool:=match K.lookup C with
 | some ⟨.type "type",_,.cls cd,sl⟩=>(match cd.mro,sl.toList with
  | .ref C'::bm,[_,_,_,_,some (.builtin n),_]=>C' == C && n == "ValueError.__new__" && !cd.hasDel && cd.hasDict && PySem.W.tailIn K bmV bm && PySem.W.nsOkIn K cd.ns && PySem.W.nsIn K cd.ns "__init__" == some init
  | _,_=>false)
 | _=>false
structure XCls (K:PySem.W.Frag) (C:Addr) (init:Option Value):Prop where
 cls:xcIn K C init=true
 set:PySem.W.findIn K (.ref C) "__setattr__" = some (some (.builtin "object.__setattr__"))
 kp:PySem.W.keepIn K (.ref C)=true
theorem ns_some_of {K:PySem.W.Frag} {h:Heap} {N:Addr} {mg:Str→Option Value} {n:Str} {v:Value} (X:K.In h) (G:h.Ns N mg) (e:PySem.W.nsIn K N n=some (some v)):mg n=some v:=by
 obtain ⟨o,es,ep,ho,hd,_,hf⟩:=G
 unfold PySem.W.nsIn at e
 split at e
 ·rename_i c d es' n' sl q
  have:=X _ _ q
  rw [ho] at this
  cases this
  cases hd
  split at e
  ·rename_i en he
   cases e
   rw [← hf]
   unfold nsFind findBy
   rw [← Array.find?_toList,he]
   rfl
  ·split at e
   ·cases e
   ·cases e
 ·cases e
theorem refuse_tail {h:Heap} {tl:List Value} (self:Value) (T:OwnTail h bmV tl):refuseLoop self "__setattr__" tl=pure ():=by
 induction T with
 | base=>exact PySem.F.store_ValueError.passes self
 | own _ _ _ _ ih=>rw [refuseLoop_ref];exact ih
theorem xc_of {K:PySem.W.Frag} {h:Heap} {C:Addr} {init:Option Value} (X:K.In h) (q:xcIn K C init=true):∃ (bm:List Value) (N:Addr) (nm qn:Str) (bs:List Value) (sn:List Str) (sub:List Value) (ab:Bool) (col:Option Bool) (dd:Option Addr) (k0 k1 k2 k3 k5:Option Value) (mN:Str→Option Value),
  h.get? C=some (excClassObj nm qn C N bs bm true sn sub ab col dd k0 k1 k2 k3 k5 "ValueError.__new__")∧h.Ns N mN∧mN "__init__" = init∧OwnTail h bmV bm:=by
 unfold xcIn at q
 split at q
 ·rename_i dd cd sl ho
  split at q
  ·rename_i C' bm k0 k1 k2 k3 n k5 hm hs
   simp only [Bool.and_eq_true,beq_iff_eq,Bool.not_eq_true'] at q
   obtain ⟨⟨⟨⟨⟨⟨rfl,rfl⟩,hdel⟩,hdc⟩,ht⟩,hok⟩,hni⟩:=q
   obtain ⟨nm,bs,mro,ns,qn,hd,sn,sub,ab,col,del⟩:=cd
   dsimp only at hm hdel hok hni hdc
   subst hm hdel hdc
   have hsl:sl=#[k0,k1,k2,k3,some (.builtin "ValueError.__new__"),k5]:=by
    obtain ⟨l⟩:=sl
    simp only at hs
    rw [hs]
   subst hsl
   refine ⟨bm,ns,nm,qn,bs,sn,sub,ab,col,dd,k0,k1,k2,k3,k5,_,X _ _ ho,.of_isNs (PySem.W.isNs_of_in X hok),?_,PySem.W.tail_of_in X ht⟩
   cases init with
   | none=>exact PySem.W.nsMap_none_of_in X hok hni
   | some v=>exact ns_some_of X (.of_isNs (PySem.W.isNs_of_in X hok)) hni
  ·cases q
 ·cases q
section
variable {prog:Program} {w:World} {A:Around} {E:Value→Shared→Prop} {h:Heap} {g:Array GenState} {d:Drawn} {t:Nat} {os:OsState} {K:PySem.W.Frag} {C x:Addr} {init:Option Value} {mA:Str→Option Value} {name:Str} {v:Value} {ns:List Str}
theorem xstore {b:Bool} {tk:Tok} {Q:PySem.Fin→Shared→Prop} (X:K.In h) (q:xcIn K C init=true) (I:h.Inst x C mA) (hw:Within mA ns) (hsz:ns.length≤1000)
  (hq:∀ h' tk',h'.Inst x C (fun y=>if y=name then some v else mA y)→
   (∀ b o,b ≠ x→(∀ o₀ dx,h.get? x=some o₀→o₀.dict=some dx→b ≠ dx)→h.get? b=some o→h'.get? b=some o)→
   (∀ o₀,h.get? x=some o₀→∃ o₁,h'.get? x=some o₁∧o₁.cls=o₀.cls∧o₁.data=o₀.data∧o₁.slots=o₀.slots∧(∀ dx,o₀.dict=some dx→o₁.dict=some dx)∧(o₀.dict=none→o₁.dict=some h.objs.size))→Q (.done (.ret .none)) ⟨h',g,d,tk',os⟩) :
  wpAny (model prog w) A (Builtin.ObjectAttr.storeInOwnDict (.ref x) (.ref C) (.str name tk) name v b) Q E ⟨h,g,d,t,os⟩:=by
 obtain ⟨bm,N,nm,qn,bs,sn,sub,ab,col,dd,k0,k1,k2,k3,k5,mN,hC,hn,_,T⟩:=xc_of X q
 obtain ⟨o,hx,hc,hnc,hd⟩:=I
 unfold Builtin.ObjectAttr.storeInOwnDict
 repeat (first | (with_reducible refine wpAny_loadPart_at hx ?_;rw [hc]) | wp_step)
 rcases hd with ⟨hdn,hmA⟩ | ⟨dx,hdx,hne,hns⟩
 ·rw [hdn,if_neg (by simp [typeHasDict])]
  split
  ·rename_i hcd
   cases hcd
  split
  ·rename_i c hcd
   exact absurd hcd (hnc c)
  ·have hx₁:(h.push { cls:=.type "dict",data:=.dict #[] }).get? x=some o:=Heap.get?_push_of_some _ hx
   have hxs:x ≠ h.objs.size:=Nat.ne_of_lt (Heap.lt_size hx)
   refine wpAny_bind (wpAny_alloc' ?_)
   refine wpAny_bind (wpAny_update' hx₁ ?_)
   refine wpAny_pure ?_
   have hgd:((h.push { cls:=.type "dict",data:=.dict #[] }).update x fun o=>{ cls:=o.cls,dict:=some h.objs.size,data:=o.data,slots:=o.slots }).get? h.objs.size
     = some { cls:=.type "dict",data:=.dict #[] }:=
    (Heap.get?_update_ne _ _ _ _ hxs.symm).trans (Heap.get?_push_at rfl rfl)
   have hnd:((h.push { cls:=.type "dict",data:=.dict #[] }).update x fun o=>{ cls:=o.cls,dict:=some h.objs.size,data:=o.data,slots:=o.slots }).Ns h.objs.size (fun _=>none):=
    ⟨_,#[],_,hgd,rfl,fun e he=>absurd he (by simp),fun _=>rfl⟩
   show wpAny _ _ (Builtin.ObjectAttr.storeInDict h.objs.size (.str name tk) name v) _ _ _
   unfold Builtin.ObjectAttr.storeInDict Builtin.ObjectAttr.newKeyGuard
   refine wpAny_bind (wpAny_pure (wpAny_bind (wpAny_nsSet1 (Heap.Ns1.of_empty hnd) fun h' hn' hs=>?_)))
   obtain ⟨oD,esD,epD,hoD,hdD,hcD⟩:=hn'.count (Within.cons name v Within.nil)
   refine wpAny_bind (wpAny_lookBehind hoD (by rw [hdD];exact pastItsLine_dict (Nat.le_trans hcD (by rw [List.length_cons,List.length_nil,sizeLine_eq];omega))) ?_)
   wp_walk
   have hx':h'.get? x=some { cls:=o.cls,dict:=some h.objs.size,data:=o.data,slots:=o.slots }:=?_
   refine hq h' _ ⟨{ cls:=o.cls,dict:=some h.objs.size,data:=o.data,slots:=o.slots },hx',hc,hnc,.inr ⟨h.objs.size,rfl,hxs.symm,?_⟩⟩ (fun b ob hbx _ hb=>?_)
    (fun o₀ h₀=>by obtain rfl:o=o₀:=Option.some.inj (hx.symm.trans h₀);exact ⟨_,hx',rfl,rfl,rfl,(fun dx e=>by rw [hdn] at e;cases e),fun _=>rfl⟩)
   ·obtain ⟨o',es,ep,e1,e2,e3,eu,e4⟩:=hn'
    exact ⟨o',es,ep,e1,e2,e3,eu,fun y=>by rw [e4 y];by_cases hy:y=name <;> simp [hy,hmA]⟩
   ·exact (hs.2 b (Nat.ne_of_lt (Heap.lt_size hb))).trans ((Heap.get?_update_ne _ _ _ _ hbx).trans (Heap.get?_push_of_some _ hb))
   ·refine (hs.2 x hxs).trans (Heap.get?_update_self _ hx₁ ?_)
    have hfr:=(Heap.get?_some_iff.mp hx).2
    obtain ⟨oc,od,odt,osl⟩:=o
    cases odt <;> first | rfl | exact hfr
 ·rw [hdx]
  refine wpAny_pure ?_
  show wpAny _ _ (Builtin.ObjectAttr.storeInDict dx (.str name tk) name v) _ _ _
  unfold Builtin.ObjectAttr.storeInDict Builtin.ObjectAttr.newKeyGuard
  refine wpAny_bind (wpAny_pure (wpAny_bind (wpAny_nsSet1 hns fun h' hn' hs=>?_)))
  obtain ⟨oD,esD,epD,hoD,hdD,hcD⟩:=hn'.count (Within.cons name v hw)
  refine wpAny_bind (wpAny_lookBehind hoD (by rw [hdD];exact pastItsLine_dict (Nat.le_trans hcD (by rw [List.length_cons,sizeLine_eq];omega))) ?_)
  wp_walk
  refine hq h' _ ⟨o,(hs.2 x hne.symm).trans hx,hc,hnc,.inr ⟨dx,hdx,hne,hn'⟩⟩ (fun b ob _ hbd hb=>?_)
   (fun o₀ h₀=>by
    obtain rfl:o=o₀:=Option.some.inj (hx.symm.trans h₀)
    exact ⟨o,(hs.2 x hne.symm).trans h₀,rfl,rfl,rfl,(fun _ e=>e),fun e=>by rw [hdx] at e;cases e⟩)
  exact (hs.2 b (hbd o dx hx hdx)).trans hb
theorem xset {Q:Unit→Shared→Prop} (X:K.In h) (c:XCls K C init) (hna:PySem.W.findIn K (.ref C) name=some none) (I:h.Inst x C mA) (hw:Within mA ns) (hsz:ns.length≤1000)
  (hq:∀ h' tk',h'.Inst x C (fun y=>if y=name then some v else mA y)→
   (∀ b o,b ≠ x→(∀ o₀ dx,h.get? x=some o₀→o₀.dict=some dx→b ≠ dx)→h.get? b=some o→h'.get? b=some o)→
   (∀ o₀,h.get? x=some o₀→∃ o₁,h'.get? x=some o₁∧o₁.cls=o₀.cls∧o₁.data=o₀.data∧o₁.slots=o₀.slots∧(∀ dx,o₀.dict=some dx→o₁.dict=some dx)∧(o₀.dict=none→o₁.dict=some h.objs.size))→Q () ⟨h',g,d,tk',os⟩) :
  wpAny (model prog w) A (setAttr (.ref x) name v) Q E ⟨h,g,d,t,os⟩:=by
 obtain ⟨bm,N,nm,qn,bs,sn,sub,ab,col,dd,k0,k1,k2,k3,k5,mN,hC,hn,_,T⟩:=xc_of X c.cls
 obtain ⟨o,hx,hc,hnc,hd⟩:=id I
 have SF:=PySem.F.store_ValueError
 have LT:PySem.W.Looks (model prog w) h (typeOf (.ref x)) (.ref C):=by
  rw [← hc]
  exact (PySem.W.Looks.ld hx).andThen .now
 have hm:PySem.W.Looks (model prog w) h (mroOf (.ref C)) (.ref C::bm):=fun A Q E s k q=>by
  obtain ⟨hp,g,d,tk,os⟩:=s
  exact wpAny_mroOf_exc (k _ _ hC) q
 have sub1:PySem.W.Looks (model prog w) h (isInstance (.ref x) (.type "object")) true:=LT.andThen fun A Q E s k q=>by
  obtain ⟨hp,g,d,tk,os⟩:=s
  refine wpAny_isSubtype_exc (k _ _ hC) ?_
  have:(Value.ref C::bm).contains (.type "object")=true:=by rw [List.contains_cons,T.hasType (X:="object") (b:=true) (by decide +kernel),Bool.or_true]
  rw [this]
  exact q
 refine wpAny_bind (wpAny_mkText (wpAny_bind (wpAny_bind (wpAny_bind (LT _ _ _ _ (fun _ _ e=>e) (PySem.W.looks_findIn X c.set _ _ _ _ (fun _ _ e=>e) (wpAny_holding ?_)))))))
 rw [PySem.F.store_object.slot.bind]
 refine wpAny_bind (wpAny_pure (wpAny_bind (wpAny_call ?_)))
 refine codeAny_call_builtin SF.slot.plain SF.entry (@PySem.W.check_slot (model prog w) _ _ _ "object.__setattr__" "object" "__setattr__" (.ref x) [.str name t,v] [] _ SF.kind SF.split sub1 (SF.args (.ref x) (.str name t) v) ?_)
 show wpAny (model prog w) A.in1 (Builtin.«object.__setattr__» ⟨[.ref x,.str name t,v],[]⟩) _ _ ⟨h,g,d,t+1,os⟩
 rw [PySem.W.osa_eq,refuse_eq]
 refine wpAny_bind (wpAny_bind (LT.here (wpAny_bind (hm.here ?_))))
 rw [refuseLoop_ref,refuse_tail _ T]
 refine wpAny_pure (wpAny_bind (LT.here (wpAny_bind ((PySem.W.looks_findIn X hna).here (wpAny_bind (wpAny_pure ?_))))))
 refine xstore X c.cls I hw hsz fun h' tk' i1 i2 i3=>?_
 exact wpAny_pure (wpAny_pure (hq h' tk' i1 i2 i3))
end
end L2
namespace L2
open PySem PySem.Spec PyProof.Rows
abbrev excObj (C t:Addr) (dd:Option Addr):Obj:={ cls:=.ref C,dict:=dd,data:=.fields #[.ref t,.none,.none,.none,.bool false,.none] }
abbrev argObj (rest:List Value):Obj:={ cls:=.type "tuple",data:=.seq rest.toArray }
section
variable {prog:Program} {w:World} {A:Around} {R:Result→Shared→Prop} {h:Heap} {g:Array GenState} {d:Drawn} {t:Nat} {os:OsState} {K:PySem.W.Frag} {C fI:Addr} {rest:List Value}
theorem xmake (X:K.In h) (q:xcIn K C (some (.ref fI))=true) (hf:PySem.W.typeIn K (.ref fI)=some (.type "function")) (hrest:rest.length≤sizeLine)
  (hq:codeAny (model prog w) (A.under (.builtin "type.__call__" ⟨.ref C::rest,[]⟩)) (.call (.ref fI) ⟨.ref (h.objs.size+1)::rest,[]⟩) (PySem.W.InitBack (h.objs.size+1) R) ⟨(h.push (argObj rest)).push (excObj C h.objs.size none),g,d,t,os⟩) :
  codeAny (model prog w) A (.call (.ref C) ⟨rest,[]⟩) R ⟨h,g,d,t,os⟩:=by
 obtain ⟨bm,N,nm,qn,bs,sn,sub,ab,col,dd,k0,k1,k2,k3,k5,mN,hC,hn,hni,T⟩:=xc_of X q
 have F:=PySem.F.excBase_ValueError
 have f1:=tc_lookup
 have f2:=tc_bind (.ref C)
 have hT:(⟨h,g,d,t,os⟩:Shared).TypeIs (.ref C) "type":=⟨_,hC,rfl⟩
 refine codeAny_of_tree ?_
 show wpAny _ _ (callAny (.ref C) _) _ _ _
 repeat (any_goals (first | assumption | with_reducible refine wpAny_loadPart_at hC ?_ | wp_step))
 refine ⟨rfl,?_⟩
 show codeAny (model prog w) A (.call (.builtin "type.__call__") ⟨.ref C::rest,[]⟩) R ⟨h,g,d,t,os⟩
 refine codeAny_call_builtin_at (Code.quiet_builtin _ (by decide +kernel)) entry_typeCall (wpAny_check_type_call_sub hC ?_)
 repeat (first | with_reducible refine wpAny_loadPart_at hC ?_ | with_reducible refine wpAny_madeBy_exc hC ?_ | wp_step)
 refine codeAny_call_builtin_code (Code.quiet_builtin _ F.quiet) (wpAny_check_new_subT F T hC ?_)
 refine codeAny_exc_new_subT F T hC ?_ hrest
 show wpAny _ _ _ _ _ _
 have kp:∀ b o,h.get? b=some o→((h.push (argObj rest)).push (excObj C h.objs.size none)).get? b=some o:=fun b o e=>Heap.get?_push_of_some _ (Heap.get?_push_of_some _ e)
 have hC₁:=kp _ _ hC
 have hn₁:((h.push (argObj rest)).push (excObj C h.objs.size none)).Ns N mN:=let ⟨o,es,ep,e,r⟩:=hn;⟨o,es,ep,kp _ _ e,r⟩
 have hget:((h.push (argObj rest)).push (excObj C h.objs.size none)).get? (h.objs.size+1)=some { cls:=.ref C,data:=.fields #[.ref h.objs.size,.none,.none,.none,.bool false,.none] }:=by heap_get
 have hcC:(Value.ref C::bm).contains (.ref C)=true:=by simp
 have T₁:=T.keeps kp
 unfold isInstance
 repeat (first | with_reducible refine wpAny_loadPart_at hget ?_ | (with_reducible refine wpAny_isSubtype_exc hC₁ ?_;rw [hcC]) | wp_step)
 show wpAny _ _ (typeLookup (.ref C) _) _ _ _
 refine wpAny_typeLookup_tail hC₁ hn₁ T₁ F.mroIs F.init.lookup ?_
 rw [hni]
 have b1:=(PySem.W.bind_fn (M:=model prog w) X (.ref (h.objs.size+1)) hf).keeps kp
 refine wpAny_holding (wpAny_bind (b1.here (wpAny_bind (wpAny_call (codeAny_mono hq fun r s' z=>?_)))))
 rcases r with e | (v | _ | _ | _) <;> first | exact z | exact z.elim | skip
 obtain ⟨rfl,z⟩:=z
 exact wpAny_pure (wpAny_pure z)
end
section
variable {M:Model} {A:Around} {E:Value→Shared→Prop} {env:Env} {K:PySem.W.Frag} {C:Addr} {init:Option Value}
theorem xraise {s:Shared} {x:Sem Value} {Q:Flow→Shared→Prop} (hh:A.handled=none) (c:xcIn K C init=true)
  (h:wpAny M A x (fun v s₁=>∃ e t dd,v=.ref e∧K.In s₁.heap∧s₁.heap.get? e=some (excObj C t dd)∧E (.ref e) s₁) E s) :
  wpAny M A (raiseStmt env (some x) none) Q E s:=by
 unfold raiseStmt
 refine wpAny_bind (wpAny_mono h (fun v s₁ h₁=>?_) fun _ _ x=>x)
 obtain ⟨e,t,dx,rfl,X,he,hE⟩:=h₁
 obtain ⟨bm,N,nm,qn,bs,sn,sub,ab,col,dd,k0,k1,k2,k3,k5,mN,hC,hn,hni,T⟩:=xc_of X c
 have hcB:(Value.ref C::bm).contains (.type "BaseException")=true:=by rw [List.contains_cons,T.hasType (X:="BaseException") (b:=true) (by decide +kernel),Bool.or_true]
 obtain ⟨hp,g,d,tk,os⟩:=s₁
 have he':hp.get? e=some { cls:=.ref C,dict:=dx,data:=.fields #[.ref t,.none,.none,.none,.bool false,.none] }:=he
 repeat (first | with_reducible refine wpAny_loadPart_at he' ?_ | with_reducible refine wpAny_loadPart_at hC ?_ | (with_reducible refine wpAny_isSubtype_exc hC ?_;rw [hcB]) | wp_step)
 exact wpAny_raiseNew_none hh hE
end
def ExcN (x C:Addr) (dd:Option Addr):HO:=.ext fun h=>∃ t,h.get? x=some (excObj C t dd)
theorem excN_ok {P:Program} {w:World} {H:Hp} {h:Heap} {x C t:Addr} {dd:Option Addr} (e:h.get? x=some (excObj C t dd)):ObjOk P w H h x (ExcN x C dd):=⟨⟨t,e⟩,⟨_,e⟩,fun _ _ ⟨t,a⟩ k=>⟨t,k _ a⟩⟩
def XDic (dx:Addr) (fs:List (Str × V)):HO:=.ext fun h=>∃ mA,h.Ns1 dx mA∧(∀ f,RelO (fs.lookup f) (mA f))∧PySem.Within mA (fs.map (·.1))
theorem xdic_ok {P:Program} {w:World} {H:Hp} {h:Heap} {dx:Addr} {fs:List (Str × V)} {mA:Str→Option Value} (e:h.Ns1 dx mA) (r:∀ f,RelO (fs.lookup f) (mA f)) (wi:PySem.Within mA (fs.map (·.1))):ObjOk P w H h dx (XDic dx fs):=by
 obtain ⟨o,_,_,ho,_⟩:=id e
 refine ⟨⟨mA,e,r,wi⟩,⟨o,ho⟩,?_⟩
 rintro h1 h2 ⟨mB,⟨o1,es,ep,a,b⟩,r1,w1⟩ k
 exact ⟨mB,⟨o1,es,ep,k _ a,b⟩,r1,w1⟩
section
variable {X:Cx} {pins:List (Addr × Obj)} {σ:St} {H:Hp} {s:Shared}
theorem Inv.untrack {e:Addr} {φ:Heap→Prop} (I:Inv X pins σ (upd H e (.ext φ)) s) (h0:H e=none):Inv X pins σ H s:=by
 have dn:∀ b,(upd H e (.ext φ)) b=none→H b=none:=fun b q=>by
  by_cases hb:b=e
  ·rw [hb];exact h0
  ·rw [qA8 hb] at q;exact q
 have up:∀ b u,(upd H e (.ext φ)) b=some u→(∀ ψ,u ≠ .ext ψ)→H b=some u:=fun b u q n=>by
  by_cases hb:b=e
  ·rw [hb,qA1] at q;cases q;exact absurd rfl (n φ)
  ·rw [qA8 hb] at q;exact q
 refine ⟨I.ok,I.os,I.bare,⟨I.base.keep,I.base.slot,fun b ob q n hx=>dn _ (I.base.free b ob q n hx),I.base.there,fun b xs q=>up _ _ (I.base.tups b xs q) (fun _ z=>nomatch z),fun b ob u q=>up _ _ (I.base.frzs b ob u q) (fun _ z=>nomatch z),fun b ps q=>?_⟩,I.loc,I.cell,dn _ I.free,fun x c q=>dn _ (I.freeC x c q),fun p hp=>?_,fun b u q=>?_,I.len⟩
 ·exact up _ _ (I.base.tbls b ps q) (fun _ z=>nomatch z)
 ·obtain ⟨a,b,c⟩:=I.pin p hp
  exact ⟨a,dn _ b,c⟩
 ·have q':(upd H e (.ext φ)) b=some u:=by rw [qA8 (qA5 q h0)];exact q
  exact (I.hok b u q').stay (fun _ _ _ z=>z) (fun c z=>up _ _ z (fun _ z=>nomatch z)) (fun c xs z=>up _ _ z (fun _ z=>nomatch z)) fun c t z=>up _ _ z (fun _ z=>nomatch z)
theorem Inv.flies {e C t:Addr} {dd:Option Addr} {G:XK} (I:Inv X pins σ H s) (hex:X.ex=[]) (he:s.heap.get? e=some (excObj C t dd)) (hn:H e=none) (hge:X.s₀.heap.objs.size≤e) (hne:e ∉ frs X.stack) (g:G (.ref C) dd H):XP X G (.ref e) s:=by
 have up:∀ b,Kp X.outer H X.s₀.heap b→b ∉ e::frs X.stack:=fun b k hm=>by
  rcases List.mem_cons.mp hm with z | z
  ·rcases k with ⟨o,q⟩ | ⟨⟨o,q⟩,_⟩
   ·rw [z,hn] at q;cases q
   ·rw [z] at q;exact absurd (Heap.lt_size q) (Nat.not_lt.mpr hge)
  ·rcases k with ⟨o,q⟩ | ⟨⟨o,q⟩,nf⟩
   ·rw [I.stkFree b z] at q;cases q
   ·rcases List.mem_cons.mp (I.stkSub b z) with z2 | z2
    ·rw [z2] at q;exact absurd (Heap.lt_size q) (Nat.not_lt.mpr I.ok.above)
    ·exact nf z2
 have hb:=I.base
 rw [hex] at hb
 refine ⟨I.ok.frames,e,.ref C,dd,H,PySem.W.hideAll s.heap (e::frs X.stack),false,rfl,I.os,I.bare,⟨hb,I.hok,⟨fun b o q=>PySem.W.of_hideAll _ q,PySem.W.hideAll_none _ (by simp),?_,_,_,.none,he,rfl,rfl,rfl,rfl,.inl ⟨rfl,rfl⟩⟩,fun b o q k=>PySem.W.hideAll_get _ q (up b k),hn,hge⟩,g⟩
 exact PySem.W.funFrames_hide I.stack fun env henv a ha=>List.mem_cons_of_mem _ (List.mem_filterMap.mpr ⟨env,henv,ha⟩)
end
section
variable {X:Cx}
def tRaiseC (C:Addr) (sp:Sp) (G:XK) (t:TA):TS:=fun _ σ H=>t σ H fun vs H1=>∀ x,H1 x=none→sp (.ref x::vs) (upd H1 x (ExcN x C none)) (fun v H2=>v=.non∧∃ dd H3,H2=upd H3 x (ExcN x C dd)∧H3 x=none∧G (.ref C) dd H3) E0
theorem ps_raiseC {G:XK} {k:Nat} {C f:Addr} {fd:FuncData} {ps:List Str} {sp:Sp} {cn:Str} {pn pc pos:Pos} {a:Expr} {as:List Expr} {t:TA} (hex:X.ex=[]) (hc:X.calm=true) (c:XCls X.K C (some (.ref f))) (hf:PySem.W.isFn X.K (.ref f)=true)
  (F:FnOk X.prog X.w X.K X.mg X.base CX0 k f fd ps sp) (hr:Room (k+1) X.A) (hg:Gl X cn) (hm:X.mg cn=some (.ref C)) (hb:Binds X.K fd ps []) (ha:PA X.nox (a::as) t) (hps:ps.length≤100)
  (hdb:(cn == ("__debug__" : Str))=false:=by decide) (he:starEach (a::as) X.env=(false,eval a X.env)::starEach as X.env:=by rfl) (hpl:(backTo pc (starEach as X.env)).any (·.1)=false:=by rfl) :
  PS (X.wish (XP X G)) (.Raise (some (.Call (.Name cn pn) (a::as) [] pc)) none pos) (tRaiseC C sp G t):=by
 intro pins s σ H D I h
 have I:=I.unwish
 show wpAny (model X.prog X.w) X.A (exec (.Raise (some (.Call (.Name cn pn) (a::as) [] pc)) none pos) X.env) _ (XP X G) s
 rw [arm_exec_Raise]
 refine wpAny_bind (wpAny_standAt ?_)
 refine xraise (K:=X.K) (I.ok.hd hc) c.cls ?_
 refine wpAny_bind (wpAny_mono ?_ (fun v s₁ hv=>wpAny_bind (wpAny_standAt (wpAny_pure hv))) fun _ _ z=>z)
 refine wpAny_Call_Name_kw (ld_glob I hg hm ?_ hdb)
 refine PySem.W.callWith_K (h₀:=X.base) I.ok.mod.kin c.kp (wpAny_mono (ha pc pins s σ H _ (I.wish _) h) (fun us s1 ⟨vs,H1,I1,r,q⟩=>⟨I1.unwish.kIn,?_⟩) fun _ _ z=>z.elim) he hpl
 have I1:=I1.unwish
 have hq:=q (s1.heap.objs.size+1) (I1.hok.fresh (Nat.le_succ _))
 have hget:((s1.heap.push (argObj us)).push (excObj C s1.heap.objs.size none)).get? (s1.heap.objs.size+1)=some (excObj C s1.heap.objs.size none):=by heap_get
 have I2:Inv X pins σ (upd H1 (s1.heap.objs.size+1) (ExcN (s1.heap.objs.size+1) C none)) { s1 with heap:=(s1.heap.push (argObj us)).push (excObj C s1.heap.objs.size none) }:=
  I1.laid (t':=s1.toks) (fun b o e=>Heap.get?_push_of_some _ (Heap.get?_push_of_some _ e)) (Nat.le_succ _) (excN_ok hget)
 have r2:Vals (V.ref (s1.heap.objs.size+1)::vs) (Value.ref (s1.heap.objs.size+1)::us):=.cons rfl r
 have hl:=F.len _ _ _ _ hq
 have hlu:(Value.ref (s1.heap.objs.size+1)::us).length=ps.length:=by rw [← r2.length];exact hl
 have hb':BindsTo { s1 with heap:=(s1.heap.push (argObj us)).push (excObj C s1.heap.objs.size none) } fd ⟨Value.ref (s1.heap.objs.size+1)::us,[]⟩ (ps.zip (Value.ref (s1.heap.objs.size+1)::us)):=by
  have:=hb { s1 with heap:=(s1.heap.push (argObj us)).push (excObj C s1.heap.objs.size none) } (Value.ref (s1.heap.objs.size+1)::us) I2.kIn (by rw [List.append_nil];exact hlu)
  rw [List.append_nil] at this
  exact this
 refine wpAny_call (xmake (fI:=f) I1.kIn c.cls (beq_iff_eq.mp hf) ?_ (codeAny_mono (F.run _ X.stack _ _ ⟨Value.ref (s1.heap.objs.size+1)::us,[]⟩ (Value.ref (s1.heap.objs.size+1)::us) _ _ E0 (hr.make C us []) (I2.env0.make C us []) hb' r2 hq) fun r s' hq'=>?_))
 ·rw [sizeLine_eq,List.nil_append]
  rw [List.length_cons] at hlu
  omega
 cases r with
 | error e=>exact False.elim hq'
 | ok fl=>
  cases fl with
  | ret u=>
   obtain ⟨v,H',I3,rv,ev,dd,H3,e3,n3,g3⟩:=I2.after hq'
   subst ev
   subst e3
   obtain ⟨⟨t3,ht3⟩,_⟩:=I3.hok _ _ qA1
   refine ⟨rv,s1.heap.objs.size+1,t3,dd,rfl,I3.kIn,ht3,?_⟩
   refine (I3.untrack n3).flies hex ht3 n3 (Nat.le_trans I1.sz (Nat.le_succ _)) (fun z=>?_) g3
   have:=I3.stkFree _ z
   rw [qA1] at this
   cases this
  | next=>exact False.elim hq'
  | brk=>exact False.elim hq'
  | cont=>exact False.elim hq'
def sXfld (K:PySem.W.Frag) (ta tv:TE) (f:Str) (C:Addr):TS:=fun D σ H=>tv σ H fun y H1=>ta σ H1 fun x H2=>∃ a dd,x=.ref a∧H2 a=some (ExcN a C dd)∧PySem.W.findIn K (.ref C) f=some none∧
 ((dd=none∧∀ dx,H2 dx=none→dx ≠ a→D.nx σ (upd (upd H2 dx (XDic dx [(f,y)])) a (ExcN a C (some dx))))∨∃ dx fs,dd=some dx∧dx ≠ a∧H2 dx=some (XDic dx fs)∧fs.length<1000∧D.nx σ (upd H2 dx (XDic dx (putF f y fs))))
theorem ps_xfld {C:Addr} {init:Option Value} {o value:Expr} {f:Str} {pos pos':Pos} {ta tv:TE} (c:XCls X.K C init) (ha:PE X o ta) (hv:PE X value tv) (hs:swapsWith value (some (.Attribute o f pos')) pos.line X.env=pure false:=by rfl):PS X (.Assign [.Attribute o f pos'] value pos) (sXfld X.K ta tv f C):=by
 intro pins s σ H D I h
 refine plainObj_wpAny_Assign_Attribute (thn (hv pins s σ H _ I h) fun u s1 ⟨y,H1,I1,ry,q⟩=>thn (ha pins s1 σ H1 _ I1 q) fun ov s2 ⟨x,H2,I2,rx,a,dd,ex,ea,hna,q2⟩=>?_) hs
 subst ex
 obtain rfl:ov=Value.ref a:=rx
 obtain ⟨⟨t,ht⟩,_⟩:=I2.hok _ _ ea
 obtain ⟨h2,g2,d2,t2,os2⟩:=s2
 rcases q2 with ⟨rfl,q2⟩ | ⟨dx,fs,rfl,hne,ed,hl,q2⟩
 ·refine xset (mA:=fun _=>none) (ns:=[]) I2.kIn c hna ⟨_,ht,rfl,(fun _ z=>nomatch z),.inl ⟨rfl,fun _=>rfl⟩⟩ Within.nil (by simp) fun h' tk' i1 i2 i3=>?_
  obtain ⟨o1,e1,e2,e3,e4,_,e5⟩:=i3 _ ht
  have e5:=e5 rfl
  obtain ⟨o2,f1,f2,_,f4⟩:=i1
  rw [e1] at f1
  cases f1
  have sz:a<h2.objs.size:=Heap.lt_size ht
  have nd:h2.objs.size ≠ a:=Nat.ne_of_gt sz
  have ho1:h'.get? a=some (excObj C t (some h2.objs.size)):=by
   rw [e1]
   obtain ⟨c1,c2,c3,c4⟩:=o1
   simp only at e2 e3 e4 e5
   rw [e2,e3,e4,e5]
  have hns:h'.Ns1 h2.objs.size (fun y=>if y=f then some u else none):=by
   rcases f4 with ⟨z,_⟩ | ⟨d,z,_,hn⟩
   ·rw [e5] at z;cases z
   ·rw [e5] at z;cases z;exact hn
  have fr:H2 h2.objs.size=none:=I2.hok.fresh (Nat.le_refl _)
  have kp:∀ b ob,b ≠ a→h2.get? b=some ob→h'.get? b=some ob:=fun b ob hb q=>i2 b ob hb (fun o₀ dx z1 z2=>by rw [ht] at z1;cases z1;cases z2) q
  refine ⟨σ,_,?_,q2 h2.objs.size fr nd⟩
  have I3:Inv X pins σ (upd H2 a (ExcN a C (some h2.objs.size))) ⟨h',g2,d2,tk',os2⟩:=
   I2.write (h':=h') (t':=tk') (x:=a) (e:=a) (o:=ExcN a C (some h2.objs.size)) (by rw [ea];exact trivial) (.inl rfl) (fun b ob hb q=>kp b ob hb q) ⟨_,ho1⟩ (excN_ok ho1)
  have na:(upd H2 a (ExcN a C (some h2.objs.size))) h2.objs.size=none:=by rw [qA8 nd];exact fr
  have lt:∀ b ob,h2.get? b=some ob→b ≠ h2.objs.size:=fun b ob q=>Nat.ne_of_lt (Heap.lt_size q)
  have I4:=I3.track (T:=h2.objs.size) (o:=XDic h2.objs.size [(f,y)]) na (Nat.le_trans I2.sz (Nat.le_refl _)) (fun z=>by
    obtain ⟨m,⟨oL,_,_,hL,_⟩,_⟩:=I2.loc
    exact lt _ _ hL z.symm) (fun y' c' q z=>by
    obtain ⟨v',oc,q3,_⟩:=I2.cell y' c' q
    exact lt _ _ q3 z) (fun p hp z=>lt _ _ (I2.pin p hp).1 z) (xdic_ok hns (fun g=>?_) (fun g hg=>?_))
  ·have ec:upd (upd H2 a (ExcN a C (some h2.objs.size))) h2.objs.size (XDic h2.objs.size [(f,y)])=upd (upd H2 h2.objs.size (XDic h2.objs.size [(f,y)])) a (ExcN a C (some h2.objs.size)):=by
    funext b
    unfold upd
    by_cases hb1:b=h2.objs.size
    ·subst hb1
     simp [nd]
    ·by_cases hb2:b=a
     ·simp [hb1,hb2,nd.symm]
     ·simp [hb1,hb2]
   rw [← ec]
   exact I4
  ·rw [List.lookup_cons]
   by_cases q:g=f
   ·subst q;simp;exact ry
   ·rw [if_neg q,show (g == f)=false from beq_eq_false_iff_ne.mpr q];trivial
  ·by_cases q:g=f
   ·subst q;simp
   ·exact absurd (if_neg q) hg
 ·obtain ⟨⟨mA,hm,hr,hwi⟩,_⟩:=I2.hok _ _ ed
  refine xset (mA:=mA) (ns:=fs.map (·.1)) I2.kIn c hna ⟨_,ht,rfl,(fun _ z=>nomatch z),.inr ⟨dx,rfl,hne,hm⟩⟩ hwi (by rw [List.length_map];omega) fun h' tk' i1 i2 i3=>?_
  obtain ⟨o1,e1,e2,e3,e4,e5,_⟩:=i3 _ ht
  have e5:=e5 dx rfl
  obtain ⟨o2,f1,f2,_,f4⟩:=i1
  rw [e1] at f1
  cases f1
  have ho1:h'.get? a=some (excObj C t (some dx)):=by
   rw [e1]
   obtain ⟨c1,c2,c3,c4⟩:=o1
   simp only at e2 e3 e4 e5
   rw [e2,e3,e4,e5]
  have hns:h'.Ns1 dx (fun y=>if y=f then some u else mA y):=by
   rcases f4 with ⟨z,_⟩ | ⟨d,z,_,hn⟩
   ·rw [e5] at z;cases z
   ·rw [e5] at z;cases z;exact hn
  refine ⟨σ,_,?_,q2⟩
  refine I2.write (h':=h') (t':=tk') (x:=dx) (e:=dx) (o:=XDic dx (putF f y fs)) (by rw [ed];exact trivial) (.inl rfl) (fun b ob hb q=>?_) ?_ (xdic_ok hns (fun g=>?_) fun g hg=>?_)
  ·by_cases hb2:b=a
   ·rw [hb2] at q ⊢
    rw [ht] at q
    cases q
    exact ho1
   ·exact i2 b ob hb2 (fun o₀ dx' z1 z2=>by rw [ht] at z1;cases z1;cases z2;exact hb) q
  ·obtain ⟨o,_,_,ho,_⟩:=hns
   exact ⟨o,ho⟩
  ·show RelO ((putF f y fs).lookup g) (if g=f then some u else mA g)
   rw [lookup_putF]
   by_cases q:g=f
   ·rw [if_pos q,if_pos q];exact ry
   ·rw [if_neg q,if_neg q];exact hr g
  ·by_cases q:g=f
   ·rw [q];exact (keys_putF f y fs).1
   ·refine (keys_putF f y fs).2 g (hwi g fun z=>hg ?_)
    show (if g=f then some u else mA g)=none
    rw [if_neg q];exact z
end
end L2
namespace L2
open PySem PySem.Spec PyProof.Rows
structure XGet (K:PySem.W.Frag) (C:Addr):Prop where
 ga:PySem.W.findIn K (.ref C) "__getattribute__" = some (some (.builtin "BaseException.__getattribute__"))
 gt:PySem.W.findIn K (.ref C) "__getattr__" = some none
 be:PySem.W.mroIn K C (.type "BaseException")=some true
 hd:PySem.W.hasDictIn K C=true
section
variable {prog:Program} {w:World} {A:Around} {E:Value→Shared→Prop} {s:Shared} {K:PySem.W.Frag} {x C:Addr} {ox:Obj} {od:Option Obj} {name:Str} {tk:Tok}
end
structure XTy (K:PySem.W.Frag) (C:Addr):Prop extends XGet K C where
 ca:PySem.W.findIn K (.ref C) "__class__" = some (some (.builtin "object.__class__"))
 cn:PySem.W.specialIn K (.builtin "object.__class__") "__get__" = some (some (.builtin "getset_descriptor.__get__"))
 ct:PySem.W.takesIn K (.builtin "object.__class__")=some true
 cm:PySem.W.mroIn K C (.type "object")=some true
section
variable {K:PySem.W.Frag}
end
section
variable {X:Cx}
theorem refs_of:∀ {cs:List Addr} {its:List Value},Vals (cs.map V.ref) its→its=cs.map Value.ref
 | [],_,.nil=>rfl
 | a::l,_,.cons r t=>by
  cases (show _=Value.ref a from r)
  rw [refs_of t]
  rfl
end
end L2
namespace L2
open PySem PySem.Spec PyProof.Rows
structure RoomH (k:Nat) (A:Around):Prop where
 dp:A.depth+3 * k+5<recursionLimit
 un:A.units+16 * k+200<cLine
structure FnOkH (P:Program) (w:World) (K:PySem.W.Frag) (mg:Str→Option Value) (base:Heap) (CX:CXT) (k:Nat) (f:Addr) (fd:FuncData) (ps:List Str) (sp:Sp):Prop where
 len:∀ vs H Q E,sp vs H Q E→vs.length=ps.length
 run:∀ (A:Around) (outer:List Env) (s:Shared) (H:Hp) (args:Args) (us:List Value) (vs:List V) (Q:VK) (E:XK),RoomH k A→Env0 P w K mg base A outer s H→BindsTo s fd args (ps.zip us)→Vals vs us→sp vs H Q E→
  codeAny (model P w) A (.call (.ref f) args) (CR CX outer P w H s Q E) s
section
variable {P:Program} {w:World} {K:PySem.W.Frag} {mg:Str→Option Value} {base:Heap}
end
section
variable {X:Cx} {CX:CXT} {k:Nat} {f C:Addr} {fd:FuncData} {ps:List Str} {sp:Sp} {dvs:List V} {ds:List Value} {E:XK} {x m:Str} {p pos apos:Pos} {e o:Expr} {es:List Expr} {ta:TE} {t:TA}
end
end L2
namespace L2
open PySem PySem.Spec PyProof.Rows
section
variable {X:Cx}
end
end L2
namespace L2
open PySem PySem.Spec PyProof.Rows
section
variable {prog:Program} {w:World} {A:Around} {E:Value→Shared→Prop} {s:Shared}
end
end L2
namespace L2
open PySem PySem.Spec PyProof.Rows
section
variable {X:Cx}
end
end L2
namespace L2
open PySem PySem.Spec PyProof.Rows
section
variable {X:Cx}
end
end L2
namespace L2
open PySem PySem.Spec PyProof.Rows
theorem cf_app:∀ (names:List (Str × NameKind)) (n:Nat) (a acc:List (Str × Addr)),cellsFrom n names (a++acc)=cellsFrom n names a++acc
 | [],_,_,_=>rfl
 | (y,k)::r,n,a,acc=>by
  unfold cellsFrom
  split
  ·exact cf_app r (n+1) ((y,n)::a) acc
  ·exact cf_app r n a acc
theorem cf_mem {x:Str} {c:Addr}:∀ {names:List (Str × NameKind)} {n:Nat} {acc:List (Str × Addr)},(x,c) ∈ cellsFrom n names acc→(x,NameKind.cell) ∈ names∨(x,c) ∈ acc
 | [],_,_,h=>.inr h
 | (y,k)::r,n,acc,h=>by
  unfold cellsFrom at h
  split at h
  ·rename_i hk
   have hk':k=NameKind.cell:=by simpa using hk
   subst hk'
   rcases cf_mem h with h | h
   ·exact .inl (List.mem_cons_of_mem _ h)
   ·rcases List.mem_cons.mp h with e | h
    ·cases e;exact .inl (List.mem_cons_self ..)
    ·exact .inr h
  ·rcases cf_mem h with h | h
   ·exact .inl (List.mem_cons_of_mem _ h)
   ·exact .inr h
theorem look_app {l m:List (Str × Addr)} {x:Str} {c:Addr} (h:(l++m).lookup x=some c):l.lookup x=some c∨(l.lookup x=none∧m.lookup x=some c):=by
 rw [List.lookup_append] at h
 cases e:l.lookup x with
 | some d=>rw [e] at h;exact .inl h
 | none=>rw [e] at h;exact .inr ⟨rfl,h⟩
theorem newEnv_own {M:Model} {A:Around} {E:Value→Shared→Prop} {s:Shared} {scope:Scope} {globals:Addr} {closure:List (Str × Addr)} {qual:Str} {outer:Env} {Q:Env→Shared→Prop}
  (h:Q (newEnv scope s.heap.objs.size globals (cellsFrom (s.heap.objs.size+1) scope.names closure) qual none .none (some outer) builtinsNs) { s with heap:=pushCells (s.heap.push { cls:=.type "dict",data:=.dict #[] }) scope.names }) :
  wpAny M A (newFunctionEnv scope globals closure [] qual none .none (some outer)) Q E s:=by
 simp only [newFunctionEnv,Option.isSome_some,if_true]
 refine wpAny_bind (wpAny_alloc ?_)
 refine wpAny_bind (wpAny_layCells _ (fun name kind cells=>by cases hkc:kind == NameKind.cell <;> simp [hkc]) _ _ _ _ ?_)
 rw [show ({ s with heap:=s.heap.push { cls:=.type "dict",data:=.dict #[] } }:Shared).heap.objs.size=s.heap.objs.size+1 from Heap.size_push ..]
 exact wpAny_bind (wpAny_pure (wpAny_pure h))
def lcCxO (X:Cx) (scope:Scope) (own:List Str) (fv:List Nat) (z:LcZ):Cx:={ lcCx X scope own fv z with fn:=fun x=>own.contains x }
structure LcScopeO (X:Cx) (scope:Scope) (own:List Str) (fv:List Nat):Prop where
 kind:scope.kind=.function
 names:∀ y ∈ scope.names,y.2=.local→scope.names.lookup y.1=some .local
 cells:∀ y ∈ scope.names,y.2=.cell→scope.names.lookup y.1=some .cell
 frees:∀ y ∈ scope.names,y.2=.free→scope.names.lookup y.1=some .free
 free:∀ y ∈ scope.names,y.2=.free→X.env.kindOf y.1=some .cell∨X.env.kindOf y.1=some .free
 nd:(own++fv.map fun i=>X.N.getD i Str.empty).Nodup
 fvs:∀ i ∈ fv,i<X.N.length∧scope.names.lookup (X.N.getD i Str.empty)=some .free
 owns:∀ x ∈ own,scope.names.lookup x=some .local∨scope.names.lookup x=some .cell
def loCheck (scope:Scope) (own:List Str) (fv:List Nat) (osc:Scope) (N:List Str):Bool:=
 decide (scope.kind=.function) && scope.names.all (fun y=>decide (y.2 ≠ .local) || decide (scope.names.lookup y.1=some .local)) && scope.names.all (fun y=>decide (y.2 ≠ .cell) || decide (scope.names.lookup y.1=some .cell)) && scope.names.all (fun y=>decide (y.2 ≠ .free) || decide (scope.names.lookup y.1=some .free)) &&
 scope.names.all (fun y=>decide (y.2 ≠ .free) || (decide (osc.names.lookup y.1=some .cell) || decide (osc.names.lookup y.1=some .free))) && decide ((own++fv.map fun i=>N.getD i Str.empty).Nodup) &&
 (fv.all fun i=>decide (i<N.length) && decide (scope.names.lookup (N.getD i Str.empty)=some .free)) && own.all fun x=>decide (scope.names.lookup x=some .local) || decide (scope.names.lookup x=some .cell)
theorem los {X:Cx} {scope:Scope} {own:List Str} {fv:List Nat} (h:loCheck scope own fv X.env.scope X.N=true):LcScopeO X scope own fv:=by
 unfold loCheck at h
 simp only [Bool.and_eq_true,decide_eq_true_eq,List.all_eq_true,Bool.or_eq_true] at h
 obtain ⟨⟨⟨⟨⟨⟨⟨h1,h3⟩,hc⟩,hf⟩,h4⟩,h5⟩,h6⟩,h7⟩:=h
 exact ⟨h1,fun y hy e=>(h3 y hy).resolve_left fun z=>z e,fun y hy e=>(hc y hy).resolve_left fun z=>z e,fun y hy e=>(hf y hy).resolve_left fun z=>z e,fun y hy e=>(h4 y hy).resolve_left fun z=>z e,h5,h6,h7⟩
section
variable {X:Cx} {pins:List (Addr × Obj)} {σ:St} {H:Hp} {s:Shared}
theorem clos_free {env:Env} {x:Str} {c:Addr}:∀ {names:List (Str × NameKind)} {acc:List (Str × Addr)},(closL env names acc).lookup x=some c→(x,NameKind.free) ∈ names∨acc.lookup x=some c
 | [],_,h=>.inr h
 | (y,k)::r,acc,h=>by
  unfold closL at h
  rcases clos_free h with h2 | h2
  ·exact .inl (List.mem_cons_of_mem _ h2)
  ·split at h2
   ·rename_i hk
    have hk':k=NameKind.free:=by simpa using hk
    subst hk'
    by_cases e:x=y
    ·subst e;exact .inl (List.mem_cons_self ..)
    ·rw [List.lookup_cons,beq_eq_false_iff_ne.mpr e] at h2
     exact .inr h2
   ·exact .inr h2
theorem qCI {scope:Scope} {own:List Str} {fv:List Nat} (I:Inv X pins σ H s) (S:LcScopeO X scope own fv) {x:Str} {c:Addr} (h:(cellsFrom (s.heap.objs.size+1) scope.names (closL X.env scope.names [])).lookup x=some c) :
  ((cellsFrom (s.heap.objs.size+1) scope.names []).lookup x=some c∧scope.names.lookup x=some .cell∧s.heap.objs.size+1≤c∧(pushCells (s.heap.push { cls:=.type "dict",data:=.dict #[] }) scope.names).IsCell c none)∨
  (X.env.cells.lookup x=some c∧scope.names.lookup x=some .free∧c<s.heap.objs.size):=by
 have hfr:∀ x,(x,NameKind.free) ∈ scope.names→∃ c,X.env.cells.lookup x=some c:=fun x hx=>I.ok.has x (S.free _ hx rfl)
 have ok:=cellsFrom_ok scope.names (s.heap.push { cls:=.type "dict",data:=.dict #[] }) (s.heap.objs.size+1) [] ⟨fun _ _ hm=>(nomatch hm),List.Pairwise.nil⟩ (by rw [Heap.size_push];exact Nat.le_refl _)
 rw [Heap.size_push] at ok
 have e0:=cf_app scope.names (s.heap.objs.size+1) [] (closL X.env scope.names [])
 rw [List.nil_append] at e0
 rw [e0] at h
 rcases look_app h with h | ⟨_,h⟩
 ·have hm:=PySem.mem_of_lookup h
  have hc:=(cf_mem hm).resolve_right (fun z=>nomatch z)
  exact .inl ⟨h,S.cells _ hc rfl,(ok.empty x c hm).2,(ok.empty x c hm).1⟩
 ·have h2:=closL_sub (env:=X.env) (names:=scope.names) (acc:=[]) hfr (fun x c z=>by simp at z) x c h
  have h3:=(clos_free h).resolve_right (fun z=>by simp at z)
  obtain ⟨v,z⟩:=I.cell x c h2
  exact .inr ⟨h2,S.frees _ h3 rfl,z.lt⟩
theorem lo_has {scope:Scope} {own:List Str} {fv:List Nat} (I:Inv X pins σ H s) (S:LcScopeO X scope own fv) {x:Str} (h:scope.names.lookup x=some .cell∨scope.names.lookup x=some .free):∃ c,(cellsFrom (s.heap.objs.size+1) scope.names (closL X.env scope.names [])).lookup x=some c:=by
 refine Option.isSome_iff_exists.mp (PySem.W.cellsFrom_some scope.names _ _ ?_)
 rcases h with h | h
 ·exact .inl h
 ·exact .inr (Option.isSome_iff_exists.mpr (closL_has (.inl (PySem.mem_of_lookup h))))
theorem lo_ok {scope:Scope} {own:List Str} {fv:List Nat} {fp:List Addr} (I:Inv X pins σ H s) (S:LcScopeO X scope own fv) (hf:∀ b ∈ fp,FpOk X pins H b) (hsz:∀ b ∈ fp,b<s.heap.objs.size) :
  (lcCxO X scope own fv ⟨s.heap.objs.size,cellsFrom (s.heap.objs.size+1) scope.names (closL X.env scope.names []),fp,s,H⟩).Ok:=by
 have ok:=cellsFrom_ok scope.names (s.heap.push { cls:=.type "dict",data:=.dict #[] }) (s.heap.objs.size+1) [] ⟨fun _ _ hm=>(nomatch hm),List.Pairwise.nil⟩ (by rw [Heap.size_push];exact Nat.le_refl _)
 rw [Heap.size_push] at ok
 refine ⟨I.ok.mod,S.kind,I.ok.glob,I.ok.blt,Nat.le_refl _,fun x y c h1 h2=>?_,fun x hx=>?_,fun x c hx hc=>?_,I.ok.hd,I.ok.frames,.inl rfl,fun b hb=>⟨?_,fun x c e=>?_⟩,I.bs,Nat.le_trans I.ok.bsz I.sz,fun b o e hb=>?_,fun b hb hb'=>?_,I.stack,I.stkFree⟩
 ·rcases qCI I S h1 with ⟨a1,_,a2,_⟩ | ⟨a1,_,a2⟩ <;> rcases qCI I S h2 with ⟨b1,_,b2,_⟩ | ⟨b1,_,b2⟩
  ·exact name_of_addr ok.apart (PySem.mem_of_lookup a1) (PySem.mem_of_lookup b1)
  ·exact absurd (Nat.lt_of_lt_of_le b2 (Nat.le_of_succ_le a2)) (Nat.lt_irrefl _)
  ·exact absurd (Nat.lt_of_lt_of_le a2 (Nat.le_of_succ_le b2)) (Nat.lt_irrefl _)
  ·exact I.ok.inj x y c a1 b1
 ·refine lo_has I S ?_
  have hx':(relabel scope X.env).names.lookup x=some .cell∨(relabel scope X.env).names.lookup x=some .free:=hx
  unfold relabel at hx'
  rw [qB9] at hx'
  cases e:scope.names.lookup x with
  | none=>rw [e] at hx';simp at hx'
  | some k=>
   rw [e] at hx'
   simp only [Option.map_some,Option.some.injEq] at hx'
   cases k with
   | free=>exact .inr rfl
   | cell=>exact .inl rfl
   | _=>simp at hx'
 ·have hx':x ∈ own:=by simpa using (show own.contains x=true from hx)
  rcases qCI I S hc with ⟨_,_,a2,_⟩ | ⟨_,a1,_⟩
  ·exact Nat.le_of_succ_le a2
  ·rcases S.owns x hx' with z | z <;> (rw [z] at a1;cases a1)
 ·exact Nat.ne_of_lt (hsz b hb)
 ·rcases qCI I S e with ⟨_,_,a2,_⟩ | ⟨a1,_,a2⟩
  ·exact Nat.ne_of_gt (Nat.lt_of_lt_of_le (hsz b hb) (Nat.le_of_succ_le a2))
  ·exact (hf b hb).2.2.2.2.1 x c a1
 ·rcases (hf b hb).2.2.2.1 with z | z
  ·exact I.ok.noex b o e z
  ·exact absurd (Nat.lt_of_lt_of_le (Heap.lt_size (I.ok.bs b o e).1) z) (Nat.lt_irrefl _)
 ·rcases List.mem_cons.mp (I.stkSub b hb') with z | z
  ·exact (hf b hb).2.1 z
  ·exact (hf b hb).2.2.1 z
theorem lo_start {scope:Scope} {own:List Str} {fv:List Nat} {fp:List Addr} (I:Inv X pins σ H s) (S:LcScopeO X scope own fv) (hf:∀ b ∈ fp,FpOk X pins H b) (hsz:∀ b ∈ fp,b<s.heap.objs.size) :
  Inv (lcCxO X scope own fv ⟨s.heap.objs.size,cellsFrom (s.heap.objs.size+1) scope.names (closL X.env scope.names []),fp,s,H⟩) [] (lcStart own fv σ) H { s with heap:=pushCells (s.heap.push { cls:=.type "dict",data:=.dict #[] }) scope.names }:=by
 have hk:∀ b o,s.heap.get? b=some o→(pushCells (s.heap.push { cls:=.type "dict",data:=.dict #[] }) scope.names).get? b=some o:=fun b o e=>pushCells_keeps _ _ b o (Heap.get?_push_of_some _ e)
 have hns:(pushCells (s.heap.push { cls:=.type "dict",data:=.dict #[] }) scope.names).Ns s.heap.objs.size (fun _=>none):=(Heap.Ns.new s.heap (.type "dict")).keeps (pushCells_keeps _ _)
 refine ⟨lo_ok I S hf hsz,rfl,I.bare,Un.kept hk,⟨_,hns,fun i x v h1 h2 h3=>?_⟩,fun x c e=>?_,I.hok.fresh (Nat.le_refl _),fun x c e=>?_,fun p hp=>absurd (show p ∈ ([]:List (Addr × Obj)) from hp) (by simp),I.hok.kept hk,?_⟩
 ·have h1:(own++fv.map fun i=>X.N.getD i Str.empty)[i]?=some x:=h1
  unfold lcStart at h2
  have hi:own.length≤i:=by
   apply Nat.le_of_not_lt
   intro hi
   rw [List.getElem?_append_left (by simpa using hi),List.getElem?_map] at h2
   cases e:own[i]? with
   | none=>rw [e] at h2;cases h2
   | some z=>rw [e] at h2;cases h2
  rw [List.getElem?_append_right (by simpa using hi),List.length_map,List.getElem?_map] at h2
  rw [List.getElem?_append_right hi,List.getElem?_map] at h1
  cases e:fv[i - own.length]? with
  | none=>rw [e] at h1;cases h1
  | some j=>
   rw [e] at h1 h2
   have hj:=S.fvs j (List.mem_of_getElem? e)
   have h1:X.N.getD j Str.empty=x:=Option.some.inj h1
   have h2:(σ[j]?).join=some v:=Option.some.inj h2
   have h2':σ[j]?=some (some v):=by
    cases q:σ[j]? with
    | none=>rw [q] at h2;cases h2
    | some y=>rw [q] at h2;exact congrArg some h2
   have hx:X.N[j]?=some x:=by
    rw [List.getD_eq_getElem?_getD] at h1
    rw [List.getElem?_eq_getElem hj.1] at h1 ⊢
    exact congrArg some h1
   have hlk:scope.names.lookup x=some .free:=h1 ▸ hj.2
   have hmem:=PySem.mem_of_lookup hlk
   obtain ⟨m,hn,hl⟩:=id I.loc
   have hkd:=S.free _ hmem rfl
   obtain ⟨u,ru,lk⟩:=hl j x v hx h2' (by
    rcases hkd with z | z
    ·exact .inr (.inl z)
    ·exact .inr (.inr z))
   refine ⟨u,ru,?_⟩
   rcases lk with ⟨z,_⟩ | ⟨_,c,e1,z⟩
   ·rcases hkd with y | y
    ·have y':X.env.kindOf x=some .cell:=y
     rw [z] at y';cases y'
    ·have y':X.env.kindOf x=some .free:=y
     rw [z] at y';cases y'
   ·obtain ⟨c',e2⟩:=lo_has I S (x:=x) (.inr hlk)
    rcases qCI I S e2 with ⟨_,a1,_⟩ | ⟨e3,_,_⟩
    ·rw [hlk] at a1;cases a1
    rw [e1] at e3
    cases e3
    obtain ⟨o,ho,hd⟩:=z
    refine .inr ⟨?_,c,e2,o,hk _ _ ho,hd⟩
    show (relabel scope X.env).names.lookup x=some .cell∨(relabel scope X.env).names.lookup x=some .free
    unfold relabel
    rw [qB9,hlk,Option.map_some]
    split
    ·exact .inl rfl
    ·exact .inr rfl
 ·rcases qCI I S e with ⟨_,_,_,z⟩ | ⟨a1,_,_⟩
  ·exact ⟨_,z⟩
  ·obtain ⟨v,o,ho,hd⟩:=I.cell x c a1
   exact ⟨v,o,hk _ _ ho,hd⟩
 ·rcases qCI I S e with ⟨_,_,a2,_⟩ | ⟨a1,_,_⟩
  ·exact I.hok.fresh (Nat.le_of_succ_le a2)
  ·exact I.freeC x c a1
 ·unfold lcStart
  show _=(own++fv.map fun i=>X.N.getD i Str.empty).length
  rw [List.length_append,List.length_append,List.length_map,List.length_map,List.length_map]
theorem lo_back {scope:Scope} {own:List Str} {fv:List Nat} {fp:List Addr} {pins':List (Addr × Obj)} {σ':St} {H':Hp} {s':Shared} {cl:List (Str × Addr)} (I:Inv X pins σ H s) (hf:∀ b ∈ fp,FpOk X pins H b)
  (J:Inv (lcCxO X scope own fv ⟨s.heap.objs.size,cl,fp,s,H⟩) pins' σ' H' s'):Inv X pins σ H' s':=
 I.call' (ch:=fp) J.os J.base J.hok J.bare fun b hb=>⟨(hf b hb).2.2.2.1,(hf b hb).2.1,(hf b hb).2.2.2.2.1,(hf b hb).2.2.2.2.2⟩
end
section
variable {X:Cx} {tg iter elt:Expr} {ifs:List Expr} {scope:Scope} {pos:Pos} {own:List Str} {fv:List Nat} {wi:TI} {g:TG} {tc:TT} {te:TE}
theorem lo_core {pins:List (Addr × Obj)} {s:Shared} {σ:St} {H:Hp} {K:Addr→Hp→Prop} {use:Option (Value→Sem Unit)} {Q:Value→Shared→Prop} {E:Value→Shared→Prop} (hc:X.calm=true) (S:LcScopeO X scope own fv) (hi:PI X tg iter wi)
  (hg:∀ z,PG (lcCxO X scope own fv z) tg g) (ht:∀ z,PTs (lcCxO X scope own fv z) ifs tc) (he:∀ z,PE (lcCxO X scope own fv z) elt te)
  (I:Inv X pins σ H s) (h:lcRun own fv wi g tc te K σ H) (hxe:∀ e s,X.xe e s→E e s)
  (fin:∀ (p:Addr) (L:Addr) (H':Hp) (s':Shared) (m:Str→Option Value),Inv X pins σ H' s'→K p H'→s'.heap.Ns L m→X.s₀.heap.objs.size≤L→H' L=none→L ≠ X.env.locals→(∀ x c,X.env.cells.lookup x=some c→c ≠ L)→(∀ q ∈ X.pn++pins,q.1 ≠ L)→
   compPost (model X.prog X.w) X.A E use Q (.ref p) L (.ok .next) s') (hs:∀ x,foldedSetIterable iter X.env x=pure x:=by intro _;rfl) :
  wpAny (model X.prog X.w) X.A (comprehension (.ListComp elt [⟨tg,iter,ifs,0⟩] scope pos) scope X.env (firstIterPos [⟨tg,iter,ifs,0⟩] pos) (newList []) false (eval iter X.env) use) Q E s:=by
 have hfr:∀ x,(x,NameKind.free) ∈ scope.names→∃ c,X.env.cells.lookup x=some c:=fun x hx=>I.ok.has x (S.free _ hx rfl)
 refine wpAny_comprehension_free rfl hs (closure_ok hfr) S.kind S.names (wpAny_mono (hi pins s σ H _ I h) (fun v s1 h1=>wpAny_mono h1 (fun itv s2 h2=>?_) hxe) hxe)
 obtain ⟨it,fp,tn,J,H2,e,I2,T,st2,f2,q2⟩:=h2
 subst e
 -- the list
 refine wpAny_newObj_type ?_
 have fresh2:H2 s2.heap.objs.size=none:=I2.hok.fresh (Nat.le_refl _)
 have I3:Inv X pins σ (upd H2 s2.heap.objs.size (.lst [])) { s2 with heap:=s2.heap.push { cls:=.type "list",dict:=none,data:=.seq ([]:List Value).toArray } }:=
  I2.laid (t':=s2.toks) (fun b u e=>Heap.get?_push_of_some _ e) (Nat.le_refl _) ⟨Nat.zero_le _,[],0,.nil,Heap.get?_push_size _ rfl⟩
 obtain ⟨W,⟨m0,w0⟩,turn⟩:=q2 s2.heap.objs.size fresh2
 have lt2:∀ b ∈ fp,b<s2.heap.objs.size:=fun b hb=>by
  obtain ⟨o,e,_⟩:=T.obj 0 _ st2 b hb
  exact Heap.lt_size e
 have f3:∀ b ∈ fp,FpOk X pins (upd H2 s2.heap.objs.size (.lst [])) b:=fun b hb=>⟨by rw [qA8 (Nat.ne_of_lt (lt2 b hb))];exact (f2 b hb).1,(f2 b hb).2⟩
 generalize hp:s2.heap.objs.size=p at *
 generalize hH3:upd H2 p (.lst [])=H3 at *
 have st3:tn 0 (s2.heap.push { cls:=.type "list",dict:=none,data:=.seq ([]:List Value).toArray }):=T.keep _ _ _ st2 fun b _ o e=>Heap.get?_push_of_some _ e
 have lt3:∀ b ∈ fp,b<(s2.heap.push { cls:=.type "list",dict:=none,data:=.seq ([]:List Value).toArray }).objs.size:=fun b hb=>by
  rw [Heap.size_push]
  have:=lt2 b hb
  rw [hp]
  exact Nat.lt_succ_of_lt this
 generalize hs3:({ s2 with heap:=s2.heap.push { cls:=.type "list",dict:=none,data:=.seq ([]:List Value).toArray } }:Shared)=s3 at *
 have st3':tn 0 s3.heap:=by rw [← hs3];exact st3
 have lt3':∀ b ∈ fp,b<s3.heap.objs.size:=by rw [← hs3];exact lt3
 -- the block's frame
 refine newEnv_own ?_
 have keep1:∀ b o,s3.heap.get? b=some o→(pushCells (s3.heap.push { cls:=.type "dict",data:=.dict #[] }) scope.names).get? b=some o:=fun b o e=>pushCells_keeps _ _ b o (Heap.get?_push_of_some _ e)
 have J0:Inv (lcCxO X scope own fv ⟨s3.heap.objs.size,cellsFrom (s3.heap.objs.size+1) scope.names (closL X.env scope.names []),fp,s3,H3⟩) [] (lcStart own fv σ) H3 { s3 with heap:=pushCells (s3.heap.push { cls:=.type "dict",data:=.dict #[] }) scope.names }:=lo_start I3 S f3 lt3'
 have cOk:=lo_ok I3 S f3 lt3'
 generalize hz:(⟨s3.heap.objs.size,cellsFrom (s3.heap.objs.size+1) scope.names (closL X.env scope.names []),fp,s3,H3⟩:LcZ)=z at *
 have st4:tn 0 (pushCells (s3.heap.push { cls:=.type "dict",data:=.dict #[] }) scope.names):=T.keep _ _ _ st3' fun b _ o e=>keep1 b o e
 have fr4:∀ b ∈ fp,H3 b=none:=fun b hb=>(f3 b hb).1
 have stat:∀ {H':Hp},(∀ b ∈ fp,H' b=none)→∀ b ∈ fp,FpOk (lcCxO X scope own fv z) [] H' b:=fun hn b hb=>by
  subst hz
  refine ⟨hn b hb,(cOk.exf b hb).1,cOk.exfs b hb,.inl hb,(cOk.exf b hb).2,fun q hq=>absurd (show q ∈ ([]:List (Addr × Obj)) from hq) (by simp)⟩
 have envE:({ newEnv scope s3.heap.objs.size X.env.globals (cellsFrom (s3.heap.objs.size+1) scope.names (closL X.env scope.names [])) X.env.qual none .none (some X.env) builtinsNs with scope:=relabel scope X.env }:Env)=(lcCxO X scope own fv z).env:=by
  subst hz
  rfl
 have loop:∀ sA:Shared,sA={ s3 with heap:=pushCells (s3.heap.push { cls:=.type "dict",data:=.dict #[] }) scope.names }→codeAny (model X.prog X.w) X.A (.compLoop (.ListComp elt [⟨tg,iter,ifs,0⟩] scope pos) 0 (.ref it) (.ref p) (lcCxO X scope own fv z).env)
   (compPost (model X.prog X.w) X.A E use Q (.ref p) s3.heap.objs.size) sA:=by
  rintro sA rfl
  refine compLoop_any (fun n s'=>∃ i σ' H',Inv (lcCxO X scope own fv z) [] σ' H' s'∧tn i s'.heap∧(∀ b ∈ fp,H' b=none)∧W i n σ' H') ?_ m0 ⟨0,_,H3,J0,st4,fr4,w0⟩
  rintro n s4 ⟨i,σ4,H4,I4,st4,fr4,w4⟩
  rcases turn i n σ4 H4 w4 with ⟨stop,qn⟩ | ⟨go,Nx,hNx,step⟩
  ·refine thn (T.done (lcCxO X scope own fv z) rfl rfl rfl hc i [] s4 σ4 H4 noX I4 (stat fr4) st4 stop) fun r s5 ⟨hr,I5⟩=>?_
   subst hr
   subst hz
   have I6:Inv X pins σ H4 s5:=lo_back I3 f3 I5
   obtain ⟨m,hn,_⟩:=id I5.loc
   have fpL:=I3.fpOk (H':=H4) (b:=s3.heap.objs.size) (Nat.le_refl _) I5.free
   refine fin p s3.heap.objs.size H4 s5 m I6 qn hn I3.sz fpL.1 fpL.2.1 fpL.2.2.2.2.1 fpL.2.2.2.2.2
  ·refine thn (T.item (lcCxO X scope own fv z) rfl rfl rfl hc i [] s4 σ4 H4 noX I4 (stat fr4) st4 go) fun r s5 ⟨u,hr,h5⟩=>?_
   subst hr
   refine thn h5 fun _ s6 ⟨x,H6,I6,r6,y6,st6,fr6⟩=>?_
   have I6':=I6.pinned (stat fr6) (T.obj _ _ st6)
   have again:∀ {σ7:St} {H7:Hp} {s7:Shared} {m':Nat},m'<n→Inv (lcCxO X scope own fv z) ([]++pinsAt fp s6.heap) σ7 H7 s7→W (i+1) m' σ7 H7→
     ∃ m,m<n∧∃ i σ' H',Inv (lcCxO X scope own fv z) [] σ' H' s7∧tn i s7.heap∧(∀ b ∈ fp,H' b=none)∧W i m σ' H':=fun {σ7 H7 s7 m'} hm I7 w7=>by
    refine ⟨m',hm,i+1,σ7,H7,I7.unpinned,T.keep _ _ _ st6 fun b hb o e=>(I7.pin (b,o) (List.mem_append_right _ (List.mem_append_right _ (qBV hb e)))).1,fun b hb=>?_,w7⟩
    obtain ⟨o,e,d⟩:=T.obj _ _ st6 b hb
    exact (I7.pin (b,o) (List.mem_append_right _ (List.mem_append_right _ (qBV hb e)))).2.1
   refine thn (hg z _ s6 σ4 H6 x u _ I6' r6 (step x H6 y6)) fun _ s7 ⟨σ7,H7,I7,q7⟩=>?_
   refine thn (ht z _ s7 σ7 H7 _ I7 q7) fun b s8 ⟨H8,I8,q8⟩=>?_
   cases b with
   | false=>
    obtain ⟨m',hm,w8⟩:=hNx _ _ q8
    exact again hm I8 w8
   | true=>
    refine thn (he z _ s8 σ7 H8 _ I8 q8) fun v s9 ⟨y,H9,I9,r9,ys,ep,hl,w9⟩=>?_
    refine thn (qAZ (X:=lcCxO X scope own fv z) _ s9 σ7 H9 (.ref p) [y] (.ref p) [v] (fun _ H'=>Nx σ7 H') I9 rfl (.cons r9 .nil) ⟨p,ys,y,rfl,rfl,ep,hl,w9⟩) fun _ s10 ⟨_,H10,I10,_,q10⟩=>?_
    obtain ⟨m',hm,w10⟩:=hNx _ _ q10
    exact again hm I10 w10
 rw [envE]
 exact codeAny_compStart_list (loop _ rfl) (T.self _ _ _ _ _ st4 (loop _ rfl))
theorem pe_lo (hc:X.calm=true) (S:LcScopeO X scope own fv) (hi:PI X tg iter wi) (hg:∀ z,PG (lcCxO X scope own fv z) tg g) (ht:∀ z,PTs (lcCxO X scope own fv z) ifs tc) (he:∀ z,PE (lcCxO X scope own fv z) elt te)
  (hs:∀ x,foldedSetIterable iter X.env x=pure x:=by intro _;rfl):PE X (.ListComp elt [⟨tg,iter,ifs,0⟩] scope pos) (tLc own fv wi g tc te):=by
 intro pins s σ H Q I h
 rw [eval_ListComp]
 refine lo_core (use:=none) (K:=fun p H'=>Q (.ref p) H') hc S hi hg ht he I h (fun _ _ q=>q) (fun p L H' s' m I' q hn h1 h2 h3 h4 h5=>?_) hs
 exact ⟨m,hn,fun h' hs'=>⟨.ref p,H',I'.other (n:=0) h1 h2 h3 h4 h5 hs',rfl,q⟩⟩
end
end L2
namespace L2
open PySem PySem.Spec PyProof.Rows
section
variable {prog:Program} {w:World} {A:Around} {R:Result→Shared→Prop} {I:Addr} {fp wr:List Addr} {n:Nat} {P:Nat→Value→Prop} {St:Nat→Heap→Prop}
end
section
variable {prog:Program} {w:World} {A:Around} {E:Value→Shared→Prop} {s:Shared}
end
section
variable {X:Cx}
end
end L2
namespace L2
open PySem PySem.Spec PyProof.Rows
theorem bt_any:bootBuiltins "any" = some (.builtin "any"):=by decide +kernel
theorem range_any' (bs:List Bool):((List.range bs.length).any fun i=>(bs[i]?).getD false)=bs.any id:=by
 rw [Bool.eq_iff_iff,List.any_eq_true,List.any_eq_true]
 constructor
 ·rintro ⟨i,hi,h⟩
  have hi':=List.mem_range.mp hi
  rw [List.getElem?_eq_getElem hi'] at h
  exact ⟨_,List.getElem_mem hi',h⟩
 ·rintro ⟨b,hb,h⟩
  obtain ⟨i,hi,e⟩:=List.getElem_of_mem hb
  exact ⟨i,List.mem_range.mpr hi,by rw [List.getElem?_eq_getElem hi,e];exact h⟩
section
variable {X:Cx}
theorem call_any (hc:X.calm=true):CallR X (.builtin "any") (fun xs H Q=>∃ (p:Addr) (bs:List Bool),xs=[.ref p]∧SqL X.K H p (bs.map V.bl)∧Q (.bl (bs.any id)) H):=by
 intro pins s σ H xs us Q I r h
 obtain ⟨p,bs,rfl,hq,q⟩:=h
 obtain ⟨u,rfl,rx⟩:=vals1 r
 cases rx
 obtain ⟨its,rv,pl,hz⟩:=I.list hq
 have hl:=pl.isList
 have hlt:p<s.heap.objs.size:=by obtain ⟨_,e,_⟩:=hl;exact Heap.lt_size e
 have hlen:=rv.length
 rw [List.length_map] at hlen
 refine call_any_walk (wpAny_pyIter_list hl ?_)
 refine ⟨s.heap.objs.size,[s.heap.objs.size,p],[s.heap.objs.size],its.toArray.size,_,_,fun i=>(bs[i]?).getD false,rfl,Walks.list (A:=X.A.in1) (I.ok.hd hc) _ p (Nat.ne_of_lt hlt) its.toArray,
  ⟨⟨_,Heap.get?_push_size _ rfl,rfl,rfl⟩,hl.push _⟩,fun i v s' Q' E' hP hQ=>?_,fun h' tk hk=>?_⟩
 ·have hP':its[i]?=some v:=by simpa using hP
  have hi:i<bs.length:=by rw [hlen];exact (List.getElem?_eq_some_iff.mp hP').1
  obtain ⟨u,hu,ru⟩:=rv.get (i:=i) (x:=.bl bs[i]) (by rw [List.getElem?_map,List.getElem?_eq_getElem hi];rfl)
  rw [hP'] at hu
  cases hu
  cases ru
  dsimp only at hQ
  rw [List.getElem?_eq_getElem hi,Option.getD_some] at hQ
  exact wpAny_truthy_bool hQ
 ·have e:((List.range its.toArray.size).any fun i=>(bs[i]?).getD false)=bs.any id:=by
   rw [List.size_toArray,← hlen];exact range_any' bs
  refine ⟨.bl (bs.any id),H,I.kept fun b x e=>hk b x (fun hm=>by rw [List.mem_singleton.mp hm] at e;exact Nat.lt_irrefl _ (Heap.lt_size e)) (Heap.get?_push_of_some _ e),?_,q⟩
  rw [e]
  rfl
theorem call_anyK {K:PySem.W.Frag} (hK:X.K=K) (hc:X.calm=true):CallR X (.builtin "any") (fun xs H Q=>∃ (p:Addr) (bs:List Bool),xs=[.ref p]∧SqL K H p (bs.map V.bl)∧Q (.bl (bs.any id)) H):=by subst hK;exact call_any hc
end
end L2
namespace L2
open PySem PySem.Spec PyProof.Rows
section
variable {prog:Program} {w:World} {A:Around} {E:Value→Shared→Prop} {s:Shared}
end
section
variable {prog:Program} {w:World} {A:Around} {E:Value→Shared→Prop} {s:Shared}
end
section
variable {X:Cx}
def BareT (H:Hp) (a:Addr) (xs:List V):Prop:=∃ o:Obj,H a=some (.frz o (.tup xs))∧o.cls=.type "tuple"∧o.dict=none
theorem op_isnotB:OpR X (compareOp .IsNot) (fun x y H Q=>∃ a b:Bool,x=.bl a∧y=.bl b∧Q (.bl (a != b)) H):=by
 intro pins s σ H x y v u Q I rx ry h
 obtain ⟨a,b,rfl,rfl,q⟩:=h
 cases rx
 cases ry
 exact wpAny_isNot_plain (by cases a <;> cases b <;> rfl) ⟨.bl (a != b),H,I,by cases a <;> cases b <;> rfl,q⟩
end
end L2
namespace L2
open PySem PySem.Spec PyProof.Rows
section
variable {X:Cx}
end
end L2
namespace HT
open PySem PySem.Spec PyProof.Rows
section
variable {prog:Program} {w:World} {A:Around} {E:Value→Shared→Prop} {s:Shared}
end
end HT
namespace L2
open PySem PySem.Spec PyProof.Rows
section
variable {X:Cx}
end
section
variable {A:Around} {s:Shared}
theorem pair_eq {X:Cx} {pins:List (Addr × Obj)} {σ:St} {H:Hp} (I:Inv X pins σ H s) (hu:A.units<cLine) {a b:Addr} {x:Str} {n:Int} (ha:SqT X.K H a [.str x,.int n]) (hb:SqT X.K H b [.str x,.int n]):SeqAt.EqAt A s (.ref a) (.ref b) true:=by
 by_cases e:a=b
 ·rw [e];exact SeqAt.EqAt.same _
 ·obtain ⟨us,r1,p1,z1⟩:=I.tuple ha
  obtain ⟨vs,r2,p2,z2⟩:=I.tuple hb
  cases r1 with
  | cons c1 t1=>
   cases t1 with
   | cons c2 t2=>
    cases t2
    cases r2 with
    | cons d1 u1=>
     cases u1 with
     | cons d2 u2=>
      cases u2
      obtain ⟨k1,rfl⟩:=c1
      obtain ⟨k2,rfl⟩:=c2
      obtain ⟨k3,rfl⟩:=d1
      obtain ⟨k4,rfl⟩:=d2
      refine SeqAt.EqAt.of_refs e ?_
      have:=SeqAt.RcAt.tuples (A:=A) (s:=s) (e:=fun _=>true) p1 p2 hu (fun j h1 h2=>by
       rcases j with _ | _ | j
       ·have:=SeqAt.EqAt.str_str (A:=A.in1) (s:=s) x k1 x k3
        rw [beq_self_eq_true] at this
        exact this
       ·have:=SeqAt.EqAt.int_int (A:=A.in1) (s:=s) n k2 n k4
        rw [beq_self_eq_true] at this
        exact this
       ·exfalso
        simp at h1
        omega)
      exact this
end
section
variable {X:Cx}
end
end L2
namespace L2
open PySem PySem.Spec PyProof.Rows
section
variable {X:Cx}
end
end L2
namespace L2
open PySem PySem.Spec PyProof.Rows
section
variable {X:Cx} {e:Expr} {te:TE} {st:Option Expr} {tst:TO} {pos p2:Pos}
end
end L2
namespace L2
open PySem PySem.Spec PyProof.Rows
section
variable {X:Cx}
theorem nn_vals {X:Cx} {pins:List (Addr × Obj)} {σ:St} {H:Hp} {s:Shared} (I:Inv X pins σ H s) {a:Addr} {x y:V} (h:SqT X.K H a [x,y]):∃ u v,RelV x u∧RelV y v∧IsTup s.heap a #[u,v]:=by
 obtain ⟨us,r1,p1,z1⟩:=I.tuple h
 cases r1 with
 | cons c1 t1=>
  cases t1 with
  | cons c2 t2=>cases t2;exact ⟨_,_,c1,c2,p1⟩
end
end L2
namespace L2
open PySem PySem.Spec PyProof.Rows
section
variable {prog:Program} {w:World} {A:Around} {E:Value→Shared→Prop} {s:Shared}
end
section
variable {X:Cx}
theorem vals_refs:∀ (as:List Addr),Vals (as.map V.ref) (as.map Value.ref)
 | []=>.nil
 | _::as=>.cons rfl (vals_refs as)
end
end L2
namespace L2
open PySem PySem.Spec PyProof.Rows
end L2
namespace L2
open PySem PySem.Spec PyProof.Rows
section
variable {prog:Program} {w:World} {A:Around} {R:Result→Shared→Prop} {h:Heap} {g:Array GenState} {d:Drawn} {t:Nat} {os:OsState} {K:PySem.W.Frag} {C fI:Addr} {rest:List Value}
end
end L2
namespace L2
open PySem PySem.Spec PyProof.Rows
section
variable {X:Cx}
def TB:Type:=(St→XK)→TS
end
end L2
namespace L2
open PySem PySem.Spec PyProof.Rows
section
variable {prog:Program} {w:World} {A:Around} {E:Value→Shared→Prop} {s:Shared}
end
section
variable {X:Cx} {pos:Pos}
end
end L2
namespace L2
open PySem PySem.Spec PyProof.Rows
section
variable {X:Cx} {tg:Expr}
def tFrz (t:TE):TE:=fun σ H Q=>t σ H fun v H1=>∃ d kvs,v=.ref d∧H1 d=some (.dK kvs)∧∀ o,Q v (upd H1 d (.frz o (.dK kvs)))
theorem Inv.freeze {pins:List (Addr × Obj)} {σ:St} {H:Hp} {s:Shared} {d:Addr} {kvs:List (Key × V)} (I:Inv X pins σ H s) (h:H d=some (.dK kvs)):∃ o,Inv X pins σ (upd H d (.frz o (.dK kvs))) s:=by
 have ok:=I.hok d _ h
 obtain ⟨hz,hd,vs,rel,o,es,ep,ho,r⟩:=id ok
 refine ⟨o,?_⟩
 have:=I.write (h':=s.heap) (t':=s.toks) (x:=d) (e:=d) (o:=.frz o (.dK kvs)) (by rw [h];trivial) (.inl rfl) (fun b u _ q=>q) ⟨o,ho⟩ ⟨ho,ok⟩
 exact this
theorem pe_frz {e:Expr} {t:TE} (he:PE X e t):PE X e (tFrz t):=by
 intro pins s σ H Q I h
 refine thn (he pins s σ H _ I h) fun v s1 ⟨x,H1,I1,r1,d,kvs,e,hd,q⟩=>?_
 obtain ⟨o,I2⟩:=I1.freeze hd
 exact ⟨x,_,I2,r1,q o⟩
def Itk (a:Addr) (o:Obj) (kvs:List (Key × V)):It:=
 ⟨fun i H=>i<kvs.length∧H a=some (.frz o (.dK kvs)),fun i H x H'=>H'=H∧∃ k v,kvs[i]?=some (k,v)∧x=kV k,fun i H=>kvs.length≤i∧H a=some (.frz o (.dK kvs))⟩
theorem relV_key {k:Key} {v:Value} (h:keyIs k v=true):RelV (kV k) v:=by
 rcases qAV h with ⟨i,t,rfl,rfl⟩ | ⟨x,t,rfl,rfl⟩
 ·exact ⟨t,rfl⟩
 ·exact ⟨t,rfl⟩
theorem Inv.heldD {pins:List (Addr × Obj)} {σ:St} {H:Hp} {s:Shared} {d:Addr} {o:Obj} {kvs:List (Key × V)} (I:Inv X pins σ H s) (h:H d=some (.frz o (.dK kvs))):s.heap.get? d=some o∧(d == sysModules)=false∧∃ vs ep,KV kvs vs∧s.heap.DictAt (mixKind X.prog X.w) d vs ep∧(∃ es,o.data=.dict es ep):=by
 obtain ⟨ho,hz,hd,vs,rel,dd⟩:=(show ObjOk X.prog X.w H s.heap d (.frz o (.dK kvs)) from I.hok d _ h)
 obtain ⟨ep,da⟩:=dd.dictAt
 obtain ⟨o',es,ho',hc,hdat,r⟩:=id da
 rw [ho] at ho'
 cases ho'
 exact ⟨ho,hd,vs,ep,rel,da,es,hdat⟩
theorem turn_dictF {P:Program} {w:World} {K:PySem.W.Frag} {tg:Expr} (a it:Addr) (o:Obj) (kvs:List (Key × V)) (ep:Nat) (es:_) (ho:o.data=.dict es ep):Turn P w K tg (Itk a o kvs) [it] it (fun i h=>h.IsKeyIter it a i kvs.length ep) where
 mem:=by simp
 obj:=fun i h st b hb=>by
  have e:b=it:=by simpa using hb
  subst e
  obtain ⟨o,e,c,d⟩:=st
  exact ⟨o,e,fun v z=>by rw [d] at z;cases z⟩
 keep:=fun i h h' st k=>st.at fun o e=>k it (by simp) o e
 item:=by
  intro X hP hw hK hc i pins s σ H E I hf st hg
  subst hP hw hK
  obtain ⟨hi,hq⟩:=hg
  obtain ⟨e1,e2,vs,ep',rel,da,es',e3⟩:=I.heldD hq
  rw [ho] at e3
  cases e3
  obtain ⟨f0,f1,f2,f3,f4,f5⟩:=hf it (by simp)
  have lv:vs.length=kvs.length:=rel.length.symm
  rw [← lv] at st
  obtain ⟨⟨k,x⟩,hx⟩:∃ p,vs[i]?=some p:=⟨vs[i]'(by omega),List.getElem?_eq_getElem (by omega)⟩
  obtain ⟨⟨k',v'⟩,hx'⟩:∃ p,kvs[i]?=some p:=⟨kvs[i],List.getElem?_eq_getElem hi⟩
  have ek:k'=k:=by
   have h1:(kvs.map (·.1))[i]?=some k':=by rw [List.getElem?_map,hx'];rfl
   have h2:(vs.map (·.1))[i]?=some k:=by rw [List.getElem?_map,hx];rfl
   rw [rel.keys,h2] at h1
   cases h1
   rfl
  refine wpAny_pyNext_dict_item st da hx fun key h' hkey hit' hs'=>?_
  have I1:Inv X pins σ H { s with heap:=h' }:=I.turned (t':=s.toks) (fun b o hb e=>(hs'.2 b hb).trans e) f0 f1 f3 f4 f5
  rw [lv] at hit'
  obtain ⟨oi,ei,c,d⟩:=id hit'
  exact ⟨key,rfl,go_of (s:={ s with heap:=h' }) ei c d (by decide) ⟨kV k,H,I1,relV_key hkey,⟨rfl,k',v',hx',by rw [ek]⟩,hit',fun b hb=>(hf b hb).1⟩⟩
 done:=by
  intro X hP hw hK hc i pins s σ H E I hf st hg
  subst hP hw hK
  obtain ⟨hi,hq⟩:=hg
  obtain ⟨e1,e2,vs,ep',rel,da,es',e3⟩:=I.heldD hq
  rw [ho] at e3
  cases e3
  obtain ⟨f0,f1,f2,f3,f4,f5⟩:=hf it (by simp)
  have lv:vs.length=kvs.length:=rel.length.symm
  rw [← lv] at st
  exact wpAny_pyNext_dict_end (I.ok.hd hc) st da (by simp;omega) fun h' eb=>⟨rfl,I.turned (t':=s.toks) (fun b o hb e=>eb b o hb e) f0 f1 f3 f4 f5⟩
 self:=fun _ _ _ _ _ st h=>wpAny_pyIter_keyiter st h
def iDictF (tl:TE):TI:=fun σ H R=>tl σ H fun x H1=>∃ a o kvs,x=.ref a∧H1 a=some (.frz o (.dK kvs))∧R (Itk a o kvs) H1
theorem pi_dictF {l:Expr} {tl:TE} (hl:PE X l tl):PI X tg l (iDictF tl):=by
 intro pins s σ H R I h
 refine thn (hl pins s σ H _ I h) fun v s1 ⟨x,H1,I1,r1,q1⟩=>?_
 obtain ⟨a,o,kvs,e,hq,q⟩:=q1
 subst e
 cases r1
 obtain ⟨e1,e2,vs,ep,rel,da,es,e3⟩:=I1.heldD hq
 have lv:vs.length=kvs.length:=rel.length.symm
 refine wpAny_pyIter_dict e2 da ?_
 refine ⟨s1.heap.objs.size,[s1.heap.objs.size],_,_,H1,rfl,I1.kept (t':=s1.toks) fun b o e=>Heap.get?_push_of_some _ e,turn_dictF a _ o kvs ep es e3,⟨_,Heap.get?_push_size _ rfl,rfl,by rw [lv];rfl⟩,fun b hb=>?_,q⟩
 have e:b=s1.heap.objs.size:=by simpa using hb
 subst e
 exact I1.fpOk (Nat.le_refl _) (I1.hok.fresh (Nat.le_refl _))
end
theorem lc_dictF {a:Addr} {o:Obj} {kvs:List (Key × V)} {g:TG} {tc:TT} {te:TE} {Kf:Hp→Prop} {σ0:St} {H0:Hp} {p:Addr} (Pv:Nat→St→Hp→Prop) (h0:Pv 0 σ0 H0) (hl:∀ i σ H,i≤kvs.length→Pv i σ H→H a=some (.frz o (.dK kvs)))
  (hs:∀ i k v σ H,kvs[i]?=some (k,v)→Pv i σ H→g (kV k) σ H fun σ2 H2=>tc σ2 H2 fun b H3=>if b=true then te σ2 H3 fun y H4=>∃ ys,H4 p=some (.lst ys)∧ys.length<sizeLine∧Pv (i+1) σ2 (upd H4 p (.lst (ys++[y]))) else Pv (i+1) σ2 H3)
  (hd:∀ σ H,Pv kvs.length σ H→Kf H) :
  ∃ W:Nat→Nat→St→Hp→Prop,(∃ m,W 0 m σ0 H0)∧∀ i m σ H,W i m σ H→
   ((Itk a o kvs).stop i H∧Kf H)∨((Itk a o kvs).go i H∧∃ N:St→Hp→Prop,(∀ σ' H',N σ' H'→∃ m',m'<m∧W (i+1) m' σ' H')∧∀ x H',(Itk a o kvs).yld i H x H'→g x σ H' fun σ2 H2=>tc σ2 H2 fun b H3=>
    if b=true then te σ2 H3 fun y H4=>∃ ys,H4 p=some (.lst ys)∧ys.length<sizeLine∧N σ2 (upd H4 p (.lst (ys++[y]))) else N σ2 H3):=by
 refine ⟨fun i m σ H=>m=kvs.length - i∧i≤kvs.length∧Pv i σ H,⟨kvs.length,by simp,Nat.zero_le _,h0⟩,?_⟩
 rintro i m σ H ⟨rfl,hi,q⟩
 have hq:=hl i σ H hi q
 by_cases hlt:i<kvs.length
 ·refine .inr ⟨⟨hlt,hq⟩,Pv (i+1),fun σ' H' p'=>⟨kvs.length - (i+1),by omega,rfl,hlt,p'⟩,fun x H' y=>?_⟩
  obtain ⟨e,k,v,e2,e3⟩:=y
  subst e e3
  exact hs i k v σ _ e2 q
 ·have e:i=kvs.length:=by omega
  subst e
  exact .inl ⟨⟨Nat.le_refl _,hq⟩,hd σ H q⟩
end L2
namespace L2
open PySem PySem.Spec PyProof.Rows
section
variable {prog:Program} {w:World} {A:Around} {E:Value→Shared→Prop} {s:Shared} {it d:Addr} {i n ep:Nat} {od:Obj} {es:Array DictEntry}
end
section
variable {X:Cx} {tg:Expr}
end
section
variable {X:Cx} {k v:Expr} {tk tv:TE} {pos:Pos}
end
end L2
namespace L2
open PySem PySem.Spec PyProof.Rows
section
variable {X:Cx} {pins:List (Addr × Obj)} {σ:St} {H:Hp} {s:Shared}
structure LmScope (X:Cx) (scope:Scope) (p:Str) (fv:List Nat):Prop where
 kind:scope.kind=.function
 co:scope.isCoroutine=false
 gen:scope.isGenerator=false
 nocell:∀ y ∈ scope.names,y.2 ≠ .cell
 par:scope.names.lookup p=some .local
 free:∀ y ∈ scope.names,y.2=.free→X.env.kindOf y.1=some .cell∨X.env.kindOf y.1=some .free
 fvs:∀ i ∈ fv,i<X.N.length∧scope.names.lookup (X.N.getD i Str.empty)=some .free
structure LmZ where
 A:Around
 f:Addr
 cd:Value
 s₀:Shared
 H₀:Hp
 rm:Room 0 A
def lmStart (fv:List Nat) (σ:St) (x:V):St:=some x::fv.map fun i=>(σ[i]?).join
end
end L2
namespace L2
open PySem PySem.Spec PyProof.Rows
abbrev Sm0 (H H':Hp):Prop:=∀ b o,H b=some o→H' b=some o
section
variable {X:Cx}
structure KCmp (X:Cx) (KR:Hp→V→List Int→Prop):Prop where
 mono:∀ H H' y k,Sm0 H H'→KR H y k→KR H' y k
 cmp:∀ (pins:List (Addr × Obj)) (σ:St) (s:Shared) (H:Hp) (y y':V) (u u':Value) (k k':List Int) (Q:Value→Shared→Prop) (E:Value→Shared→Prop),Inv X pins σ H s→RelV y u→RelV y' u'→KR H y k→KR H y' k'→Q (.bool (HT.lexLt k k')) s→
  wpAny (model X.prog X.w) X.A.in1 (richCompare .Lt u u') Q E s
structure KeyAt (X:Cx) (σ:St) (fv:List Nat) (te:TE) (KR:Hp→V→List Int→Prop) (H0:Hp) (xs:List V) (ks:List (List Int)):Prop where
 len:ks.length=xs.length
 key:∀ (i:Nat) (x:V) (k:List Int),xs[i]?=some x→ks[i]?=some k→∀ Hc,Sm0 H0 Hc→te (lmStart fv σ x) Hc fun y H'=>Sm0 Hc H'∧KR H' y k
section
variable {pins:List (Addr × Obj)} {σ:St} {params:Arguments} {body:Expr} {scope:Scope} {p:Str} {fv:List Nat} {q:Str} {te:TE} {KR:Hp→V→List Int→Prop} {l f cc:Addr} {ctv:Value} {H0:Hp} {xs:List V} {ks:List (List Int)} {Q:VK}
end
end
end L2
namespace L2
open PySem PySem.Spec PyProof.Rows
section
variable {X:Cx}
end
def lmCheck (scope:Scope) (p:Str) (fv:List Nat) (osc:Scope) (N:List Str):Bool:=
 decide (scope.kind=.function) && decide (scope.isCoroutine=false) && decide (scope.isGenerator=false) && scope.names.all (fun y=>decide (y.2 ≠ .cell)) && decide (scope.names.lookup p=some .local) &&
 scope.names.all (fun y=>decide (y.2 ≠ .free) || (decide (osc.names.lookup y.1=some .cell) || decide (osc.names.lookup y.1=some .free))) && fv.all fun i=>decide (i<N.length) && decide (scope.names.lookup (N.getD i Str.empty)=some .free)
theorem lms {X:Cx} {scope:Scope} {p:Str} {fv:List Nat} (h:lmCheck scope p fv X.env.scope X.N=true):LmScope X scope p fv:=by
 unfold lmCheck at h
 simp only [Bool.and_eq_true,decide_eq_true_eq,List.all_eq_true,Bool.or_eq_true] at h
 obtain ⟨⟨⟨⟨⟨⟨h1,h2⟩,h3⟩,h4⟩,h5⟩,h6⟩,h7⟩:=h
 refine ⟨h1,h2,h3,h4,h5,fun y hy hf=>?_,h7⟩
 rcases h6 y hy with z | z
 ·exact absurd hf z
 ·exact z
structure LTab where
 x:Str
 c:Addr
 P:Addr
 q:Str
end L2
namespace L2
open PySem PySem.Spec PyProof.Rows
section
variable {prog:Program} {w:World} {A:Around} {E:Value→Shared→Prop} {s:Shared}
end
section
variable {X:Cx}
end
end L2
namespace L2
open PySem PySem.Spec PyProof.Rows
section
open PySem.SeqAt
open PySem.AutoSeq1 (wpAny_loadPart')
open PySem.MeetsSeq PySem.MeetsSeq2 PySem.MeetsSeq3
end
section
variable {X:Cx}
end
end L2
namespace L2.GS
open PySem PySem.Spec PyProof.Rows
section
variable [NM]
variable {prog:Program} {w:World} {A:Around} {E:Value→Shared→Prop} {s:Shared}
theorem pairs_same {vs:List Value}:∀ p ∈ (pairsOf vs).toList,p.1=p.2:=by
 intro p hp
 unfold pairsOf at hp
 rw [Array.toList_zip] at hp
 induction vs with
 | nil=>cases hp
 | cons v vs ih=>
  rcases List.mem_cons.mp hp with h | h
  ·rw [h]
  ·exact ih h
theorem pairs_snd (vs:List Value):(pairsOf vs).toList.map (·.2)=vs:=by
 unfold pairsOf
 rw [Array.toList_zip,List.map_snd_zip (by simp)]
theorem pairs_out {vs:List Value} {xs:Array Keyed} (px:xs.Perm (pairsOf vs)) (sx:gSortedTo xs (pairsOf vs).size):(xs.map (·.2)).toList.Perm vs∧(xs.map (·.2)).toList.Pairwise (fun u v=>NM.nm u≤NM.nm v):=by
 have p2:=Array.perm_iff_toList_perm.mp px
 constructor
 ·have:=p2.map (·.2)
  rw [pairs_snd] at this
  rw [Array.toList_map]
  exact this
 ·rw [Array.toList_map,List.pairwise_map,List.pairwise_iff_getElem]
  intro i j hi hj hij
  have hs:=px.size_eq
  have hi2:i<xs.size:=by simpa using hi
  have hj2:j<xs.size:=by simpa using hj
  have a:=sx i j (Nat.le_of_lt hij) (by omega)
  rw [gK_eq hi2,gK_eq hj2] at a
  have ei:=pairs_same _ (p2.mem_iff.mp (show xs[i] ∈ xs.toList by simp))
  have ej:=pairs_same _ (p2.mem_iff.mp (show xs[j] ∈ xs.toList by simp))
  rw [ei,ej] at a
  simpa using a
theorem sort_gen {κ0:SortKind} {a:Addr} {vs:List Value} {n:Nat} {P:Fin→Shared→Prop} (e0:s.heap.get? a=some (seqObj "list" vs.toArray n)) (hs:vs.length<64) (hz:vs.length≤sizeLine) (gd:∀ v ∈ vs,NM.good v)
  (hk:∀ h':Heap,(∀ (b:Addr) (o:Obj),b ≠ a→s.heap.get? b=some o→h'.get? b=some o)→2≤vs.length→(∀ {Q:SortKind→Shared→Prop},Q κ0 { s with heap:=h' }→wpAny (model prog w) A (keyKind' vs.toArray) Q E { s with heap:=h' })∧LtOk prog w A { s with heap:=h' } κ0)
  (h:∀ (out:Array Value),out.toList.Perm vs→out.toList.Pairwise (fun u v=>NM.nm u≤NM.nm v)→P (.done (.ret .none)) { s with heap:=sortedHeap s.heap a vs out }):wpAny (model prog w) A (Builtin.«list.sort» ⟨[.ref a],[]⟩) P E s:=by
 have la:=Heap.lt_size e0
 have z0:vs.toArray.size≤sizeLine:=by simpa using hz
 rw [list_sort_plain]
 refine wpAny_bind (listItems_at e0 rfl (wpAny_bind (listUpdate_at e0 rfl ?_ z0 (Nat.zero_le _))))
 have e1:∃ k,(s.heap.update a (Obj.mapSeq fun _=>#[])).get? a=some (seqObj "list" #[] k):=⟨_,get?_update_seq e0 fun _=>#[]⟩
 obtain ⟨k,e1⟩:=e1
 refine wpAny_bind (seqEpoch_at e1 rfl (wpAny_bind (wpAny_newTuple ?_ (by simpa using hz))))
 refine wpAny_bind (wpAny_newList (wpAny_holding ?_))
 have e2:(((s.heap.update a (Obj.mapSeq fun _=>#[])).push (seqObj "tuple" vs.toArray 0)).push (seqObj "list" #[] 0)).get? a=some (seqObj "list" #[] k):=by
  rw [Heap.get?_push_ne,Heap.get?_push_ne]
  ·exact e1
  ·rw [Heap.size_update]
   exact Nat.ne_of_lt la
  ·rw [size_push',Heap.size_update]
   exact Nat.ne_of_lt (Nat.lt_succ_of_lt la)
 have kept:∀ (b:Addr) (o:Obj),b ≠ a→s.heap.get? b=some o→(((s.heap.update a (Obj.mapSeq fun _=>#[])).push (seqObj "tuple" vs.toArray 0)).push (seqObj "list" #[] 0)).get? b=some o:=fun b o hb q=>
  Heap.get?_push_of_some _ (Heap.get?_push_of_some _ ((Heap.get?_update_ne _ _ _ _ hb).trans q))
 have last:∀ xs:Array Keyed,xs.Perm (pairsOf vs)→gSortedTo xs (pairsOf vs).size→P (.done (.ret .none)) { s with heap:=sortedHeap s.heap a vs (xs.map (·.2)) }:=by
  intro xs px sx
  obtain ⟨q1,q2⟩:=pairs_out px sx
  exact h _ q1 q2
 have sz:∀ xs:Array Keyed,xs.Perm (pairsOf vs)→(xs.map (·.2)).size≤sizeLine+1:=by
  intro xs px
  rw [Array.size_map,px.size_eq,pairsOf_size]
  omega
 show wpAny _ A _ P E { s with heap:=((s.heap.update a (Obj.mapSeq fun _=>#[])).push (seqObj "tuple" vs.toArray 0)).push (seqObj "list" #[] 0) }
 dsimp only
 by_cases few:vs.toArray.size<2
 ·simp only [if_pos few]
  refine wpAny_bind (wpAny_pure ?_)
  rw [StateT.run_pure]
  refine wpAny_bind (wpAny_pure (wpAny_bind (seqEpoch_at e2 rfl (wpAny_bind (listUpdate_at e2 rfl ?_ (Nat.zero_le _) (sz (pairsOf vs) (.refl _)))))))
  simp only [bne_self_eq_false,Bool.false_eq_true,if_false]
  refine wpAny_pure (last (pairsOf vs) (.refl _) fun i j hij hj=>?_)
  rw [pairsOf_size] at hj
  rw [List.size_toArray] at few
  rw [show i=j by omega]
  exact Int.le_refl _
 ·simp only [if_neg few]
  rw [List.size_toArray] at few
  obtain ⟨hk1,hk2⟩:=hk _ kept (by omega)
  have ik:gIntKeys (pairsOf vs):=fun p hp=>by
   have m:=List.mem_map_of_mem (f:=(·.2)) hp
   rw [pairs_snd] at m
   rw [pairs_same p hp]
   exact gd _ m
  refine wpAny_bind (hk1 (wpAny_bind (wpAny_mono (gwpS_runs (κ0:=κ0) (a₀:=pairsOf vs) (Q:=fun _ st2=>gSG κ0 (pairsOf vs) st2∧gSortedTo (arrOf st2) (pairsOf vs).size) (by simpa [pairsOf] using hs) ik ⟨.refl _,rfl,rfl⟩ rfl fun st2 g u=>⟨g,u⟩) ?_ fun _ _ x=>x)))
  rintro ⟨_,st2⟩ s2 ⟨es,g,u⟩
  cases (show s2=_ from es)
  refine wpAny_bind (seqEpoch_at e2 rfl (wpAny_bind (listUpdate_at e2 rfl ?_ (Nat.zero_le _) (sz _ g.perm))))
  dsimp only
  rw [g.failed]
  simp only [bne_self_eq_false,Bool.false_eq_true,if_false]
  exact wpAny_pure (last _ g.perm u)
end
def rankL (L:List (List Int)) (a:List Int):Int:=(((L.filter fun x=>HT.lexLt x a).length:Nat):Int)
def intsV (xs:List V):List Int:=xs.map fun | .int i=>i | _=>0
def keyH (H:Hp):Value→List Int
 | .ref r=>match H r with
  | some (.tup xs)=>intsV xs
  | _=>[]
 | _=>[]
@[reducible] def tupNM (H:Hp) (L:List (List Int)):NM:=⟨fun v=>rankL L (keyH H v),fun v=>∃ r t,v=.ref r∧H r=some (.tup (t.map V.int))∧t ∈ L⟩
section
variable {prog:Program} {w:World} {A:Around} {E:Value→Shared→Prop} {s:Shared}
end
end L2.GS
namespace L2.GS
open PySem PySem.Spec PyProof.Rows
section
variable {prog:Program} {w:World} {A:Around} {E:Value→Shared→Prop} {s:Shared}
end
end L2.GS
namespace L2.GS
open PySem PySem.Spec PyProof.Rows
section
variable {X:Cx}
theorem qCF:∀ {rs:List Addr} {its:List Value},Vals (rs.map V.ref) its→its=rs.map Value.ref
 | [],_,.nil=>rfl
 | r::rs,_,.cons h t=>by
  rw [List.map_cons,← qCF t]
  have:_=Value.ref r:=h
  rw [this]
def unref:Value→Addr
 | .ref a=>a
 | _=>0
theorem refs_back:∀ {vs:List Value},(∀ v ∈ vs,∃ a,v=.ref a)→(vs.map unref).map Value.ref=vs
 | [],_=>rfl
 | v::vs,h=>by
  obtain ⟨a,rfl⟩:=h v (by simp)
  rw [List.map_cons,List.map_cons,refs_back fun v hv=>h v (List.mem_cons_of_mem _ hv)]
  rfl
end
end L2.GS
namespace L2.GS
open PySem PySem.Spec PyProof.Rows
section
variable {X:Cx}
abbrev WrdAt (wd:Str) (H:Hp) (rs:List Addr) (ns:List Int):Prop:=Paired (fun (r:Addr) (n:Int)=>H r=some (.tup [.str wd,.int n])) rs ns
def numH (H:Hp):Value→Int
 | .ref r=>match H r with
  | some (.tup [_,.int n])=>n
  | _=>0
 | _=>0
theorem numH_at {H:Hp} {r:Addr} {wd:Str} {n:Int} (h:H r=some (.tup [.str wd,.int n])):numH H (.ref r)=n:=by
 show (match H r with | some (.tup [_,.int n])=>n | _=>0)=n
 rw [h]
@[reducible] def wrdNM (wd:Str) (H:Hp):NM:=⟨numH H,fun v=>∃ r n,v=.ref r∧H r=some (.tup [.str wd,.int n])⟩
theorem wrd_fun {wd:Str} {H:Hp}:∀ {rs:List Addr} {ns:List Int},WrdAt wd H rs ns→ns=rs.map fun r=>numH H (.ref r)
 | _,_,.nil=>rfl
 | _,_,.cons h t=>by rw [List.map_cons,numH_at h,← wrd_fun t]
theorem wrd_of {wd:Str} {H:Hp}:∀ {rs:List Addr},(∀ r ∈ rs,∃ n:Int,H r=some (.tup [.str wd,.int n]))→WrdAt wd H rs (rs.map fun r=>numH H (.ref r))
 | [],_=>.nil
 | r::rs,h=>by
  obtain ⟨t,e⟩:=h r (by simp)
  exact .cons (by dsimp only;rw [numH_at e];exact e) (wrd_of fun r hr=>h r (List.mem_cons_of_mem _ hr))
theorem wrd_mem {wd:Str} {H:Hp}:∀ {rs:List Addr} {ns:List Int},WrdAt wd H rs ns→∀ {r:Addr},r ∈ rs→∃ n,H r=some (.tup [.str wd,.int n])
 | _,_,.nil,_,h=>nomatch h
 | _,_,.cons (b:=t) g T,r,h=>by
  rcases List.mem_cons.mp h with e | e
  ·exact ⟨t,by rw [e];exact g⟩
  ·exact wrd_mem T e
theorem keyLt_wrd {prog:Program} {w:World} {A:Around} {E:Value→Shared→Prop} {s:Shared} {x y:Addr} {wd:Str} {n m:Int} {t t' u u':Tok} {b:Bool} {Q:Bool→Shared→Prop} (hx:IsTup s.heap x #[.str wd u,.int n t]) (hy:IsTup s.heap y #[.str wd u',.int m t']) (h:Q (decide (n<m)) s):wpAny (model prog w) A (keyLt' (tuples' b) (.ref x) (.ref y)) Q E s:=by
 obtain ⟨o,ho,hc,k,hd⟩:=id hx
 obtain ⟨o2,ho2,hc2,k2,hd2⟩:=id hy
 refine PySem.W.kat_lt ho hd ho2 hd2 ?_
 show PySem.W.KatLex prog w A b _ Q [(.str wd u,.str wd u'),(.int n t,.int m t')] 0 s
 refine PySem.W.kat_cons (wpAny_eqBool_str ?_)
 rw [show decide (wd=wd)=true from decide_eq_true rfl]
 refine PySem.W.kat_yes (PySem.W.kat_cons (wpAny_eqBool_int ?_))
 by_cases e:n=m
 ·rw [beq_iff_eq.mpr e]
  refine PySem.W.kat_yes (PySem.W.kat_nil ?_)
  rw [show decide (n<m)=false from decide_eq_false (by omega)] at h
  exact h
 ·rw [beq_eq_false_iff_ne.mpr e]
  refine PySem.W.kat_no ?_
  cases eb:(b && 1 == 0) with
  | true=>simp at eb
  | false=>exact PySem.W.kat_one _ _ (lt_int h)
theorem kind_wrd {prog:Program} {w:World} {A:Around} {E:Value→Shared→Prop} {s:Shared} {wd:Str} {rs:List Addr} {Q:SortKind→Shared→Prop} (h:∀ r ∈ rs,∃ (n:Int) (u t:Tok),IsTup s.heap r #[.str wd u,.int n t]) (h2:2≤rs.length)
  (q:Q (tuples' true) s):wpAny (model prog w) A (keyKind' (rs.map Value.ref).toArray) Q E s:=by
 have tu:∃ fs,PySem.W.KatTups s.heap (rs.map Value.ref) fs∧fs.length=rs.length∧∀ v ∈ fs,∃ t,v=.str wd t:=by
  clear h2
  induction rs with
  | nil=>exact ⟨[],trivial,rfl,fun _ z=>nomatch z⟩
  | cons r rs ih=>
   obtain ⟨fs,k1,k2,k3⟩:=ih fun r hr=>h r (List.mem_cons_of_mem _ hr)
   obtain ⟨n,u,t,o,ho,hc,k,hd⟩:=h r (by simp)
   refine ⟨.str wd u::fs,.cons ho hc hd rfl k1,by simp [k2],fun v hv=>?_⟩
   rcases List.mem_cons.mp hv with e | e
   ·exact ⟨u,e⟩
   ·exact k3 v e
 obtain ⟨fs,k1,k2,k3⟩:=tu
 refine PySem.W.kat_kind (T:=.type "str") k1 (by omega) (fun v hv=>?_) rfl ?_
 ·obtain ⟨t,rfl⟩:=k3 v hv
  exact .now
 ·exact q
theorem sort_newM {pins:List (Addr × Obj)} {s:Shared} {σ:St} {H:Hp} {Q:VK} {A:Around} {E:Value→Shared→Prop} {wd:Str} {rs:List Addr} {ns:List Int} {D:Addr} (I:Inv X pins σ (upd H D (.lst (rs.map V.ref))) s) (hD:H D=none) (T:WrdAt wd H rs ns) (hs:rs.length<64)
  (q:∀ rs' ns',rs'.Perm rs→WrdAt wd H rs' ns'→ns'.Perm ns→ns'.Pairwise (·≤·)→Q (.ref D) (upd H D (.lst (rs'.map V.ref)))) :
  wpAny (model X.prog X.w) A (call (.builtin "list.sort") [.ref D]) (fun _ s'=>EP X pins σ Q (.ref D) s') E s:=by
 obtain ⟨z,its,n,rv,hl,e⟩:=I.lstM qA1
 have ei:=qCF rv
 subst ei
 have hz:(rs.map Value.ref).length≤sizeLine:=by simpa using z
 letI:NM:=wrdNM wd H
 have gd:∀ v ∈ rs.map Value.ref,NM.good v:=fun v hv=>by
  obtain ⟨r,hr,rfl⟩:=List.mem_map.mp hv
  obtain ⟨t,g⟩:=wrd_mem T hr
  exact ⟨r,t,rfl,g⟩
 have tat:∀ (h':Heap),(∀ (b:Addr) (o:Obj),b ≠ D→s.heap.get? b=some o→h'.get? b=some o)→∀ (r:Addr) (n:Int),H r=some (.tup [.str wd,.int n])→∃ (u t:Tok),IsTup h' r #[.str wd u,.int n t]:=by
  intro h' kept r n g
  have nr:r ≠ D:=qA5 g hD
  obtain ⟨its,r1,⟨o,ho,hc,n,hd⟩,_⟩:=I.tuple (SqT.of (show (upd H D (.lst (rs.map V.ref))) r=some (.tup [.str wd,.int n]) by rw [qA8 nr];exact g))
  cases r1 with
  | cons a1 r1=>
   cases r1 with
   | cons a2 r1=>
    cases r1
    obtain ⟨u1,rfl⟩:=a1
    obtain ⟨u2,rfl⟩:=a2
    exact ⟨_,_,o,kept r o nr ho,hc,_,hd⟩
 have fin:∀ out:Array Value,out.toList.Perm (rs.map Value.ref)→out.toList.Pairwise (fun u v=>NM.nm u≤NM.nm v)→EP X pins σ Q (.ref D) { s with heap:=sortedHeap s.heap D (rs.map Value.ref) out }:=by
  intro out p1 p2
  have refs:∀ v ∈ out.toList,∃ a,v=Value.ref a:=fun v hv=>by
   obtain ⟨r,_,er⟩:=List.mem_map.mp (p1.mem_iff.mp hv)
   exact ⟨r,er.symm⟩
  have back:=refs_back refs
  have p3:(out.toList.map unref).Perm rs:=by
   have:=p1.map unref
   rw [List.map_map] at this
   have e:rs.map (unref ∘ Value.ref)=rs:=(List.map_congr_left fun x _=>rfl).trans (List.map_id _)
   rwa [e] at this
  obtain ⟨e2,hat⟩:=sortedHeap_at (vs:=rs.map Value.ref) (out:=out) e
  have T':WrdAt wd H (out.toList.map unref) ((out.toList.map unref).map fun r=>numH H (.ref r)):=wrd_of fun r hr=>wrd_mem T (p3.mem_iff.mp hr)
  have p4:((out.toList.map unref).map fun r=>numH H (.ref r)).Perm ns:=by
   have:=p3.map fun r=>numH H (.ref r)
   rw [← wrd_fun T] at this
   exact this
  have p5:((out.toList.map unref).map fun r=>numH H (.ref r)).Pairwise (·≤·):=by
   rw [← back,List.pairwise_map] at p2
   rw [List.pairwise_map]
   exact p2
  refine ⟨.ref D,upd H D (.lst ((out.toList.map unref).map V.ref)),?_,rfl,q _ _ p3 T' p4 p5⟩
  have hu:upd (upd H D (.lst (rs.map V.ref))) D (.lst ((out.toList.map unref).map V.ref))=upd H D (.lst ((out.toList.map unref).map V.ref)):=upd_upd
  rw [← hu]
  refine I.write (x:=D) (e:=D) (t':=s.toks) (by rw [qA1];exact trivial) (.inl rfl) (fun b u hb hbu=>?_) ⟨_,hat⟩ ?_
  ·rw [sortedHeap_old hb (Heap.lt_size hbu)];exact hbu
  ·refine ⟨?_,out.toList,e2,?_,by simpa using hat⟩
   ·rw [List.length_map,p3.length_eq]
    simpa using z
   ·have:=vals_refs (out.toList.map unref)
    rw [back] at this
    exact this
 refine wpAny_call_entry slot_list_sort ⟨_,e,rfl⟩ entry_list_sort (sort_gen (κ0:=tuples' true) (n:=n) e (by simpa using hs) hz gd (fun h' kept h2=>⟨fun {Q} hq=>?_,⟨fun {x y Q E} hx hy h=>?_⟩⟩) fun out p1 p2=>⟨_,rfl,fin out p1 p2⟩) (args_list_sort _)
 ·refine kind_wrd (s:={ s with heap:=h' }) (wd:=wd) (fun r hr=>?_) (by simpa using h2) hq
  obtain ⟨n,g⟩:=wrd_mem T hr
  exact ⟨n,tat h' kept r n g⟩
 ·obtain ⟨r1,t1,rfl,g1⟩:=hx
  obtain ⟨r2,t2,rfl,g2⟩:=hy
  obtain ⟨u1,v1,i1⟩:=tat h' kept r1 t1 g1
  obtain ⟨u2,v2,i2⟩:=tat h' kept r2 t2 g2
  refine keyLt_wrd i1 i2 ?_
  have e1:NM.nm (Value.ref r1)=t1:=numH_at g1
  have e2:NM.nm (Value.ref r2)=t2:=numH_at g2
  rw [e1,e2] at h
  exact h
theorem call_sortedM (hc:X.calm=true) (hu:X.A.units+64<cLine):CallR X (.builtin "sorted") (fun xs H Q=>∃ p wd rs ns,xs=[.ref p]∧SqL X.K H p (rs.map V.ref)∧WrdAt wd H rs ns∧rs.length<64∧
  ∀ a rs' ns',H a=none→rs'.Perm rs→WrdAt wd H rs' ns'→ns'.Perm ns→ns'.Pairwise (·≤·)→Q (.ref a) (upd H a (.lst (rs'.map V.ref)))):=by
 intro pins s σ H xs us Q I r h
 obtain ⟨p,wd,rs,ns,rfl,hq,T,hs64,q⟩:=h
 obtain ⟨u,rfl,rx⟩:=vals1 r
 cases rx
 refine Calls.call_function_entry kind_sorted plain_sorted entry_sorted (args_sorted1 _) ?_
 unfold Builtin.«sorted»
 refine wpAny_bind (m:=checkCount "sorted" 1 1 _) (wpAny_pure ?_)
 obtain ⟨its,rv,pl,hz⟩:=I.list hq
 obtain ⟨o,ho,hc',n,hd⟩:=pl.isList
 have hlen:=rv.length
 have ei:=qCF rv
 subst ei
 refine wpAny_bind (wpAny_collect_seq p (.inl rfl) ho hc' hd (fun h' hk=>?_) (by rw [List.size_toArray,← hlen];exact hz))
 have I1:Inv X pins σ H { s with heap:=h' }:=I.kept (t':=s.toks) hk
 have hz':rs.length≤sizeLine:=by rw [List.length_map] at hz;exact hz
 show wpAny (model X.prog X.w) X.A.in1 (do
   let l ← newList (rs.map Value.ref)
   let _ ← holding [l] (call (.builtin "list.sort") [l] [])
   ret l) (fun fin s'=>∃ r,fin=.done (.ret r)∧EP X pins σ Q r s') X.xe { s with heap:=h' }
 refine wpAny_bind (wpAny_newList ?_ (by rw [List.length_map];exact hz'))
 have hf:=I1.hok.fresh (Nat.le_refl h'.objs.size)
 have I2:=I1.laid (a:=h'.objs.size) (t':=s.toks) (o:=.lst (rs.map V.ref)) (h':=h'.push { cls:=.type "list",data:=.seq (rs.map Value.ref).toArray }) (fun b u e=>Heap.get?_push_of_some _ e) (Nat.le_refl _) ⟨by rw [List.length_map];exact hz',_,0,vals_refs rs,Heap.get?_push_size _ rfl⟩
 refine wpAny_bind (wpAny_holding (wpAny_mono (sort_newM (E:=X.xe) I2 hf T hs64 fun rs' ts' a b c d=>q _ rs' ts' hf a b c d) (fun _ s' x=>?_) fun _ _ e=>e))
 exact wpAny_pure ⟨_,rfl,x⟩
end
end L2.GS
namespace L2
open PySem PySem.Spec PyProof.Rows
section
variable {prog:Program} {w:World} {A:Around} {R:Result→Shared→Prop} {I:Addr} {fp wr:List Addr} {n:Nat} {P:Nat→Value→Prop} {St:Nat→Heap→Prop}
end
section
variable {X:Cx}
end
end L2
namespace L2
open PySem PySem.Spec PyProof.Rows
structure Clb (P:Program) (w:World) (K:PySem.W.Frag) (mg:Str→Option Value) (base:Heap) (n:Nat) (f:Addr) (fd:FuncData) (x:Str) (ps:List Str) (sp:Sp):Prop where
 G:FnOk P w K mg base CX0 n f fd ps sp
 b:Binds K fd ps []
 k:PySem.W.keepIn K (.ref f)=true
 m:mg x=some (.ref f)
theorem pe_cl {X:Cx} {n k:Nat} {f:Addr} {fd:FuncData} {x:Str} {ps:List Str} {sp:Sp} {e:Expr} {es:List Expr} {t:TA} {p pos:Pos} (C:Clb X.prog X.w X.K X.mg X.base n f fd x ps sp) (hr:Room k X.A) (hg:Gl X x)
  (ha:PA X (e::es) t) (hnk:n≤k:=by decide) (hdb:(x == ("__debug__" : Str))=false:=by decide) (he:starEach (e::es) X.env=(false,eval e X.env)::starEach es X.env:=by rfl) (hpl:(backTo pos (starEach es X.env)).any (·.1)=false:=by rfl) :
  PE X (.Call (.Name x p) (e::es) [] pos) (tCall sp [] E0 t):=pe_call C.G (hr.mono hnk) hg C.m C.k C.b .nil pass0 ha hdb he hpl
theorem nmD {i:Nat} {t u:TS} {D:Ends} {x:V} {σ:St} {H:Hp} (h:∀ D':Ends,(∀ σ H,D.nx σ H→D'.nx σ H)→(∀ v H,D.rt v H→D'.rt v H)→tSeq t u D' (σ.set i (some x)) H):gName i x σ H fun σ2 H2=>tSeq t u D σ2 H2:=h D (fun _ _ z=>z) fun _ _ z=>z
theorem nmT {t u:TS} {D:Ends} {σ:St} {H:Hp} (h:∀ D':Ends,(∀ σ H,D.nx σ H→D'.nx σ H)→(∀ v H,D.rt v H→D'.rt v H)→tSeq t u D' σ H):tSeq t u D σ H:=h D (fun _ _ z=>z) fun _ _ z=>z
theorem nmI {g:TG} {c:TT} {t u:TS} {D:Ends} {x:V} {σ:St} {H:Hp} (h:∀ D':Ends,(∀ σ H,D.nx σ H→D'.nx σ H)→(∀ v H,D.rt v H→D'.rt v H)→g x σ H fun σ2 H2=>tIfS c t u D' σ2 H2):g x σ H fun σ2 H2=>tIfS c t u D σ2 H2:=h D (fun _ _ z=>z) fun _ _ z=>z
end L2
namespace L2
open PySem PySem.Spec PyProof.Rows
section
variable {prog:Program} {w:World} {A:Around} {E:Value→Shared→Prop} {s:Shared}
end
section
variable {X:Cx}
end
end L2
namespace L2
open PySem PySem.Spec PyProof.Rows
def ItB (K:PySem.W.Frag) (a:Addr) (n:Nat):It:=
 ⟨fun i H=>i<n∧∃ xs x,SqL K H a xs∧xs[n - 1 - i]?=some x,fun i H x H'=>H'=H∧∀ xs,SqL K H a xs→xs[n - 1 - i]?=some x,fun i H=>i=n⟩
theorem turn_rev {P:Program} {w:World} {K:PySem.W.Frag} {tg:Expr} (a it:Addr) (n:Nat):Turn P w K tg (ItB K a n) [it] it (fun i h=>h.IsRevIter it a ((n:Int) - 1 - (i:Int))) where
 mem:=by simp
 obj:=fun i h st b hb=>by
  have e:b=it:=by simpa using hb
  subst e
  obtain ⟨o,e,c,d⟩:=st
  exact ⟨o,e,fun v z=>by rw [d] at z;cases z⟩
 keep:=fun i h h' st k=>st.at fun o e=>k it (by simp) o e
 item:=by
  intro X hP hw hK hc i pins s σ H E I hf st hg
  subst hP hw hK
  obtain ⟨hi,xs,x,hq,hx⟩:=hg
  obtain ⟨its,rv,p,hz⟩:=I.list hq
  obtain ⟨u,hu,ru⟩:=rv.get hx
  obtain ⟨f0,f1,f2,f3,f4,f5⟩:=hf it (by simp)
  rw [show (n:Int) - 1 - (i:Int)=((n - 1 - i:Nat):Int) by omega] at st
  refine wpAny_pyNext_rev_item st p.isList (x:=u) (by simpa using hu) fun h' st' sb=>?_
  have I1:Inv X pins σ H { s with heap:=h' }:=I.turned (t':=s.toks) (fun b o hb e=>(sb.2 b hb).trans e) f0 f1 f3 f4 f5
  obtain ⟨o,e,c,d⟩:=id st'
  rw [show ((n - 1 - i:Nat):Int) - 1=(n:Int) - 1 - ((i+1:Nat):Int) by omega] at st'
  exact ⟨u,rfl,go_of (s:={ s with heap:=h' }) e c d (by decide) ⟨x,H,I1,ru,⟨rfl,fun ys hy=>by rw [I.list_inj hy hq];exact hx⟩,st',fun b hb=>(hf b hb).1⟩⟩
 done:=by
  intro X hP hw hK hc i pins s σ H E I hf st hg
  subst hP hw hK
  have e:i=n:=hg
  subst e
  obtain ⟨f0,f1,f2,f3,f4,f5⟩:=hf it (by simp)
  rw [show (i:Int) - 1 - (i:Int) = -1 by omega] at st
  exact wpAny_pyNext_rev_end (I.ok.hd hc) st fun h' eb=>⟨rfl,I.turned (t':=s.toks) (fun b o hb e=>eb b o hb e) f0 f1 f3 f4 f5⟩
 self:=fun _ _ _ _ _ st h=>wpAny_pyIter_revIter st h
section
variable {X:Cx} {tg:Expr}
def iRev (K:PySem.W.Frag) (ta:TA):TI:=fun σ H R=>ta σ H fun vs H1=>∃ l xs,vs=[.ref l]∧SqL K H1 l xs∧R (ItB K l xs.length) H1
theorem bt_reversed':bootBuiltins "reversed" = some (.type "reversed"):=by decide +kernel
theorem pi_rev {a:Expr} {ta:TA} {p pos:Pos} (hg:Gl X "reversed") (hm:X.mg "reversed" = none) (ha:PA X [a] ta) (hs:starEach [a] X.env=[(false,eval a X.env)]:=by rfl) :
  PI X tg (.Call (.Name "reversed" p) [a] [] pos) (iRev X.K ta):=by
 intro pins s σ H R I h
 refine Call_ (ld_blt I hg hm bt_reversed' (PyProof.Rows.callWith_type1 (thn (ha pos pins s σ H _ I h) fun us s1 ⟨vs,H1,I1,r1,q1⟩=>?_) hs rfl))
 obtain ⟨l,xs,e,hq,q⟩:=q1
 subst e
 obtain ⟨u,rfl,rx⟩:=vals1 r1
 cases rx
 obtain ⟨its,rv,pl,hz⟩:=I1.list hq
 refine call_reversed_list pl.isList ?_
 have st:(s1.heap.push (revObj l ((its.toArray.size:Int) - 1))).IsRevIter s1.heap.objs.size l ((xs.length:Int) - 1 - ((0:Nat):Int)):=⟨_,Heap.get?_push_size _ rfl,rfl,by rw [List.size_toArray,← rv.length];simp [revObj]⟩
 refine wpAny_pyIter_revIter st ?_
 refine ⟨s1.heap.objs.size,[s1.heap.objs.size],_,_,H1,rfl,I1.kept (t':=s1.toks) fun b o e=>Heap.get?_push_of_some _ e,turn_rev l _ xs.length,st,fun b hb=>?_,q⟩
 have e:b=s1.heap.objs.size:=by simpa using hb
 subst e
 exact I1.fpOk (Nat.le_refl _) (I1.hok.fresh (Nat.le_refl _))
end
theorem for_rev {K:PySem.W.Frag} {a:Addr} {xs:List V} {g:TG} {tb:TS} {D:Ends} {σ:St} {H:Hp} (Pv:Nat→St→Hp→Prop) (h0:Pv 0 σ H) (hl:∀ i σ H,i≤xs.length→Pv i σ H→SqL K H a xs)
  (hs:∀ i x σ H,i<xs.length→xs[xs.length - 1 - i]?=some x→Pv i σ H→g x σ H fun σ2 H2=>tb { D with nx:=Pv (i+1),ct:=Pv (i+1),bk:=D.nx } σ2 H2) (hd:∀ σ H,Pv xs.length σ H→D.nx σ H) :
  ∃ W:Nat→Nat→St→Hp→Prop,(∃ m,W 0 m σ H)∧∀ i m σ H,W i m σ H→
   ((ItB K a xs.length).stop i H∧D.nx σ H)∨((ItB K a xs.length).go i H∧∃ N:St→Hp→Prop,(∀ σ' H',N σ' H'→∃ m',m'<m∧W (i+1) m' σ' H')∧∀ x H',(ItB K a xs.length).yld i H x H'→g x σ H' fun σ2 H2=>tb { D with nx:=N,ct:=N,bk:=D.nx } σ2 H2):=by
 refine ⟨fun i m σ H=>m=xs.length - i∧i≤xs.length∧Pv i σ H,⟨xs.length,by simp,Nat.zero_le _,h0⟩,?_⟩
 rintro i m σ H ⟨rfl,hi,p⟩
 have q:=hl i σ H hi p
 by_cases hlt:i<xs.length
 ·have hj:xs.length - 1 - i<xs.length:=by omega
  refine .inr ⟨⟨hlt,xs,xs[xs.length - 1 - i],q,by simp [hj]⟩,Pv (i+1),fun σ' H' p'=>⟨xs.length - (i+1),by omega,rfl,hlt,p'⟩,fun x H' y=>?_⟩
  obtain ⟨e,y⟩:=y
  subst e
  exact hs i x σ _ hlt (y xs q) p
 ·have e:i=xs.length:=by omega
  subst e
  exact .inl ⟨rfl,hd σ H p⟩
section
variable {X:Cx}
theorem op_eq_mv (hu:X.A.units+64<cLine):OpR X (compareOp .Eq) (fun x y H Q=>∃ (p l:Addr) (z z':Str) (n n':Int),x=.ref p∧y=.ref l∧SqT X.K H p [.str z,.int n]∧SqT X.K H l [.str z',.int n']∧Q (.bl (decide ((z,n)=(z',n')))) H):=by
 intro pins s σ H x y v u Q I rx ry h
 obtain ⟨p,l,z,z',n,n',rfl,rfl,h1,h2,q⟩:=h
 cases rx
 cases ry
 obtain ⟨a1,a2,r1,r2,p1⟩:=nn_vals I h1
 obtain ⟨b1,b2,t1,t2,p2⟩:=nn_vals I h2
 obtain ⟨k1,rfl⟩:=r1
 obtain ⟨k2,rfl⟩:=t1
 obtain ⟨k3,rfl⟩:=r2
 obtain ⟨k4,rfl⟩:=t2
 refine PySem.SeqAt.eq_tupleAt (e:=fun j=>match j with | 0=>z == z' | _=>n == n') p1 p2 (by omega) (fun j j1 j2=>?_) ⟨.bl (decide ((z,n)=(z',n'))),H,I,?_,q⟩
 ·rcases j with _ | _ | j
  ·exact SeqAt.EqAt.str_str (A:=X.A.in1) (s:=s) z k1 z' k2
  ·exact SeqAt.EqAt.int_int (A:=X.A.in1) (s:=s) n k3 n' k4
  ·exfalso;simp at j1;omega
 ·show Value.bool _=Value.bool _
  congr 1
  by_cases c1:z=z' <;> by_cases c2:n=n' <;> simp [c1,c2,List.range,List.range.loop]
theorem op_eq_mvK {K:PySem.W.Frag} (hK:X.K=K) (hu:X.A.units+64<cLine):OpR X (compareOp .Eq) (fun x y H Q=>∃ (p l:Addr) (z z':Str) (n n':Int),x=.ref p∧y=.ref l∧SqT K H p [.str z,.int n]∧SqT K H l [.str z',.int n']∧Q (.bl (decide ((z,n)=(z',n')))) H):=by subst hK;exact op_eq_mv hu
end
end L2
namespace L2
open PySem PySem.Spec PyProof.Rows
section
variable {X:Cx}
theorem op_ne_movs (hu:X.A.units+64<cLine):OpR X (compareOp .NotEq) (fun x y H Q=>∃ (p l:Addr) (rs rs':List Addr) (ms:List (Str × Int)),x=.ref p∧y=.ref l∧SqL X.K H p (rs.map V.ref)∧SqL X.K H l (rs'.map V.ref)∧Paired (fun r m=>H r=some (.tup [.str m.1,.int m.2])) rs ms∧Paired (fun r m=>H r=some (.tup [.str m.1,.int m.2])) rs' ms∧Q (.bl false) H):=by
 intro pins s σ H x y v u Q I rx ry h
 obtain ⟨p,l,rs,rs',ms,rfl,rfl,h1,h2,m1,m2,q⟩:=h
 cases rx
 cases ry
 obtain ⟨us,r1,p1,z1⟩:=I.list h1
 obtain ⟨vs,r2,p2,z2⟩:=I.list h2
 have e1:=refs_of r1
 have e2:=refs_of r2
 have l1:=Paired.length m1
 have l2:=Paired.length m2
 subst e1
 subst e2
 refine PySem.SeqAt.RcNeAt.lists (e:=fun _=>true) p1.isList p2.isList (by simp;omega) (by omega) (fun j j1 j2=>?_) _ _ _ _ ⟨.bl false,H,I,?_,q⟩
 ·simp at j1 j2
  have g:∀ {rs:List Addr} {ms:List (Str × Int)},Paired (fun r m=>H r=some (.tup [.str m.1,.int m.2])) rs ms→∀ (i:Nat) (hi:i<rs.length) (hj:i<ms.length),H rs[i]=some (.tup [.str ms[i].1,.int ms[i].2]):=by
   intro rs ms h
   induction h with
   | nil=>intro i hi;simp at hi
   | cons r t ih=>
    intro i hi hj
    cases i with
    | zero=>exact r
    | succ i=>exact ih i (by simpa using hi) (by simpa using hj)
  have a1:=g m1 j j1 (by omega)
  have a2:=g m2 j j2 (by omega)
  simp only [List.getElem_toArray,List.getElem_map]
  exact pair_eq I (by show X.A.units+1<cLine;omega) (SqT.of a1) (SqT.of a2)
 ·have:(List.range ((rs.map Value.ref).toArray.size)).all (fun _=>true)=true:=by simp
  rw [this]
  rfl
end
end L2
namespace L2
open PySem PySem.Spec PyProof.Rows
section
variable {X:Cx}
end
end L2
namespace Fw
open PySem L2
theorem qAP:bootBuiltins "len" = some (.builtin "len"):=by decide +kernel
theorem bt_min:bootBuiltins "min" = some (.builtin "min"):=by decide +kernel
theorem bt_max:bootBuiltins "max" = some (.builtin "max"):=by decide +kernel
theorem qCE:bootBuiltins "sorted" = some (.builtin "sorted"):=by decide +kernel
theorem bt_divmod:bootBuiltins "divmod" = some (.builtin "divmod"):=by decide +kernel
theorem bt_all:bootBuiltins "all" = some (.builtin "all"):=by decide +kernel
theorem bt_int:bootBuiltins "int" = some (.type "int"):=by decide +kernel
theorem bt_list:bootBuiltins "list" = some (.type "list"):=by decide +kernel
theorem qAY:bootBuiltins "tuple" = some (.type "tuple"):=by decide +kernel
theorem bt_set:bootBuiltins "set" = some (.type "set"):=by decide +kernel
theorem bt_range:bootBuiltins "range" = some (.type "range"):=by decide +kernel
theorem qBN:bootBuiltins "enumerate" = some (.type "enumerate"):=by decide +kernel
structure StAt (H:Hp) (d c:Addr) (t:Int) (ns:List Int):Prop where
 dict:H d=some (.dK [(Sum.inr "cells",.ref c),(Sum.inr "turn",.int t)])
 list:H c=some (.lst (ns.map V.int))
 ne:0<ns.length
 len:ns.length≤63
 pos:0≤t
def Keep (d c:Addr) (H H':Hp):Prop:=∀ b o,H b=some o→b ≠ d→b ≠ c→H' b=some o
theorem Keep.refl {d c:Addr} {H:Hp}:Keep d c H H:=fun _ _ h _ _=>h
theorem Keep.trans {d c:Addr} {H H1 H2:Hp} (a:Keep d c H H1) (b:Keep d c H1 H2):Keep d c H H2:=fun x o h n m=>b x o (a x o h n m) n m
theorem Keep.of_same {d c:Addr} {H H':Hp} (h:Same H H'):Keep d c H H':=fun b o e _ _=>h b o e
theorem qA2 {H:Hp} {p:Addr} (h:H p=none) (o:HO):Same H (upd H p o):=fun b u q=>by rw [qA8 (qA5 q h)];exact q
theorem qC7 {d c:Addr} {H:Hp} {p:Addr} (h:H p=none) (o:HO):Keep d c H (upd H p o):=.of_same (qA2 h o)
theorem StAt.ndc {H:Hp} {d c:Addr} {t:Int} {ns:List Int} (S:StAt H d c t ns):d ≠ c:=ne_of S.dict S.list (by intro z;cases z)
theorem StAt.same {H H':Hp} {d c:Addr} {t:Int} {ns:List Int} (S:StAt H d c t ns) (h:Same H H'):StAt H' d c t ns:=⟨h _ _ S.dict,h _ _ S.list,S.ne,S.len,S.pos⟩
theorem StAt.new {H:Hp} {d c p:Addr} {t:Int} {ns:List Int} (S:StAt H d c t ns) (h:H p=none) (o:HO):StAt (upd H p o) d c t ns:=S.same (qA2 h o)
theorem s_cs:¬ (Str.ofString "cells" = Str.ofString "turn"):=by decide +kernel
theorem s_ct:¬ ((Sum.inr (Str.ofString "cells"):Key)=Sum.inr (Str.ofString "turn")):=fun h=>s_cs (Sum.inr.inj h)
theorem dg_turn {H:Hp} {d c:Addr} {t:Int} {ns:List Int} (S:StAt H d c t ns):DGet H d (.str "turn") (some (.int t)):=by
 have h:=DGet.k (k:=Sum.inr "turn") S.dict
 rw [qB4 s_ct,qB3 rfl] at h
 exact h
theorem dg_cells {H:Hp} {d c:Addr} {t:Int} {ns:List Int} (S:StAt H d c t ns):DGet H d (.str "cells") (some (.ref c)):=by
 have h:=DGet.k (k:=Sum.inr "cells") S.dict
 rw [qB3 rfl] at h
 exact h
theorem put_turn (c:Addr) (t u:Int):putK [((Sum.inr "cells" : Key),V.ref c),(Sum.inr "turn",V.int t)] (Sum.inr "turn") (V.int u)=[((Sum.inr "cells" : Key),V.ref c),(Sum.inr "turn",V.int u)]:=by
 unfold putK
 simp [s_cs]
theorem dp_turn {H:Hp} {d c:Addr} {t u:Int} {ns:List Int} (S:StAt H d c t ns):DPut H d (.str "turn") (.int u) (upd H d (.dK [(Sum.inr "cells",.ref c),(Sum.inr "turn",.int u)])):=by
 have h:=DPut.k (k:=Sum.inr "turn") (v:=.int u) S.dict (by rw [sizeLine_eq];exact (by decide:2<16777216))
 rw [put_turn] at h
 exact h
theorem StAt.turn {H:Hp} {d c:Addr} {t u:Int} {ns:List Int} (S:StAt H d c t ns) (h:0≤u):StAt (upd H d (.dK [(Sum.inr "cells",.ref c),(Sum.inr "turn",.int u)])) d c u ns:=
 ⟨qA1,by rw [qA8 (Ne.symm S.ndc)];exact S.list,S.ne,S.len,h⟩
theorem StAt.put {H:Hp} {d c:Addr} {t:Int} {ns ms:List Int} (S:StAt H d c t ns) (h:ms.length=ns.length):StAt (upd H c (.lst (ms.map V.int))) d c t ms:=
 ⟨by rw [qA8 S.ndc];exact S.dict,qA1,by rw [h];exact S.ne,by rw [h];exact S.len,S.pos⟩
abbrev TB:Int:=1000000000
def spTake:Sp:=fun vs H Q _=>∃ d c t ns m,vs=[.ref d,.int m]∧StAt H d c t ns∧t≤TB∧1≤m∧m≤1000000∧∀ k ns' H',0≤k→k<m→StAt H' d c (t+1) ns'→Keep d c H H'→Q (.int k) H'
def spBegin (K:PySem.W.Frag):Sp:=fun vs H Q _=>∃ (a:Addr) (ns:List Int),vs=[.ref a]∧SqL K H a (ns.map V.int)∧ns.length≤63∧∀ d c ms H',StAt H' d c 0 ms→Same H H'→H d=none→H c=none→Q (.ref d) H'
def cutI {α:Type} (xs:List α) (lo hi:Option Int):List α:=(xs.drop (HT.sIx xs.length 0 lo)).take (HT.sIx xs.length xs.length hi - HT.sIx xs.length 0 lo)
theorem qC8 {α:Type} (f:α→V) (xs:List α) (lo hi:Option Int):cutV (xs.map f) lo hi=(cutI xs lo hi).map f:=by
 unfold cutV cutI
 rw [List.length_map,← List.map_drop,← List.map_take]
theorem cutI_len {α:Type} (xs:List α) (lo hi:Option Int):(cutI xs lo hi).length≤xs.length:=by
 unfold cutI
 rw [List.length_take,List.length_drop]
 omega
theorem merge2 (c:Addr) (t:Int):mergeK [] [((Sum.inr (Str.ofString "cells"):Key),V.ref c),(Sum.inr (Str.ofString "turn"),V.int t)]=[((Sum.inr (Str.ofString "cells"):Key),V.ref c),(Sum.inr (Str.ofString "turn"),V.int t)]:=by
 unfold mergeK
 simp only [List.foldl_cons,List.foldl_nil]
 unfold putK
 simp [s_cs]
theorem ixN_nat {xs:List V} {j:Nat} (h:j<xs.length):ixN xs.length (j:Int)=some j:=by
 unfold ixN
 rw [if_pos (by omega),if_pos (by omega),Int.toNat_natCast]
def spLaw (K:PySem.W.Frag):Sp:=fun vs H Q _=>∃ (a:Addr) (ns:List Int),vs=[.ref a]∧SqL K H a (ns.map V.int)∧ns.length≤63∧∀ H',Q (.bl true) H'
theorem cut {t u:TS} {D:Ends} {σ:St} {H:Hp} (h:∀ N:St→Hp→Prop,(∀ σ H,u D σ H→N σ H)→t { D with nx:=N } σ H):tSeq t u D σ H:=h _ fun _ _ z=>z
theorem opq {A:Prop} (h:∀ G:Prop,(A→G)→G):A:=h A id
structure Rise (k:Int) (zs:List Int):Prop where
 up:zs.Pairwise (·<·)
 in_:∀ x ∈ zs,0≤x∧x<k
theorem Rise.nil {k:Int}:Rise k []:=⟨.nil,fun _ h=>nomatch h⟩
theorem Rise.mono {j k:Int} {zs:List Int} (h:Rise j zs) (l:j≤k):Rise k zs:=⟨h.up,fun x hx=>⟨(h.in_ x hx).1,by have:=(h.in_ x hx).2;omega⟩⟩
theorem Rise.sub {k:Int} {zs ys:List Int} (h:Rise k zs) (s:ys.Sublist zs):Rise k ys:=⟨h.up.sublist s,fun x hx=>h.in_ x (s.subset hx)⟩
theorem Rise.snoc {k:Int} {zs:List Int} (h:Rise k zs) (h0:0≤k):Rise (k+1) (zs++[k]):=by
 refine ⟨List.pairwise_append.mpr ⟨h.up,List.pairwise_singleton _ _,fun a ha b hb=>?_⟩,fun x hx=>?_⟩
 ·rw [List.mem_singleton.mp hb];exact (h.in_ a ha).2
 ·rcases List.mem_append.mp hx with hx | hx
  ·have:=h.in_ x hx;omega
  ·rw [List.mem_singleton.mp hx];omega
theorem Rise.shift {k j:Int} {zs:List Int} (h:Rise k zs) (hj:0≤j):Rise (k+j) (zs.map (·+j)):=by
 refine ⟨List.pairwise_map.mpr (h.up.imp fun {a b} hab=>by omega),fun x hx=>?_⟩
 obtain ⟨y,hy,e⟩:=List.mem_map.mp hx
 have:=h.in_ y hy
 omega
theorem Rise.nodup {k:Int} {zs:List Int} (h:Rise k zs):zs.Nodup:=h.up.imp fun {a b} hab=>by omega
theorem Rise.len {zs:List Int} {k:Nat} (h:Rise (k:Int) zs):zs.length≤k:=by
 have sub:zs ⊆ (List.range k).map fun (i:Nat)=>(i:Int):=fun x hx=>by
  have:=h.in_ x hx
  exact List.mem_map.mpr ⟨x.toNat,List.mem_range.mpr (by omega),by omega⟩
 have:=List.Nodup.length_le_of_subset h.nodup sub
 simpa using this
theorem mem_addI {zs:List Int} {k x:Int}:x ∈ addI zs k ↔ x ∈ zs∨x=k:=by
 unfold addI
 split
 ·rename_i h
  constructor
  ·exact .inl
  ·rintro (z | rfl)
   ·exact z
   ·exact h
 ·simp
theorem nd_addI {zs:List Int} {k:Int} (h:zs.Nodup):(addI zs k).Nodup:=by
 unfold addI
 split
 ·exact h
 ·rename_i hk
  exact nd_snoc h hk
theorem ded_go:∀ (l zs:List Int),zs.Nodup→(l.foldl addI zs).Nodup∧∀ x,x ∈ l.foldl addI zs ↔ x ∈ zs∨x ∈ l
 | [],zs,h=>⟨h,fun x=>by simp⟩
 | k::r,zs,h=>by
  obtain ⟨a,b⟩:=ded_go r (addI zs k) (nd_addI h)
  refine ⟨a,fun x=>?_⟩
  rw [List.foldl_cons,b x,mem_addI,List.mem_cons,or_assoc]
theorem dedI_nodup (l:List Int):(dedI l).Nodup:=(ded_go l [] .nil).1
theorem mem_dedI {l:List Int} {x:Int}:x ∈ dedI l ↔ x ∈ l:=by
 have:=(ded_go l [] .nil).2 x
 unfold dedI
 rw [this]
 simp
theorem dedI_len (l:List Int):(dedI l).length≤l.length:=by
 have:=qCA l []
 simpa [dedI] using this
theorem qC5 {zs:List Int} (h1:zs.Pairwise (·≤·)) (h2:zs.Nodup):zs.Pairwise (·<·):=by
 have h3:zs.Pairwise (fun a b=>a≤b∧a ≠ b):=List.pairwise_and_iff.mpr ⟨h1,h2⟩
 exact h3.imp fun {a b} ⟨x,y⟩=>by omega
theorem rise_set {k:Int} {fs zs:List Int} (hp:zs.Perm (dedI fs)) (hs:zs.Pairwise (·≤·)) (h:∀ x ∈ fs,0≤x∧x<k):Rise k zs:=
 ⟨qC5 hs (hp.nodup_iff.mpr (dedI_nodup fs)),fun x hx=>h x (mem_dedI.mp (hp.mem_iff.mp hx))⟩
def rangeI (lo hi:Int):List Int:=(List.range (hi - lo).toNat).map fun (i:Nat)=>lo+i
theorem rangeV_ints (lo hi:Int):rangeV lo hi=(rangeI lo hi).map V.int:=by
 unfold rangeV rangeI
 rw [List.map_map]
 rfl
theorem mem_rangeI {lo hi x:Int}:x ∈ rangeI lo hi ↔ lo≤x∧x<hi:=by
 unfold rangeI
 rw [List.mem_map]
 constructor
 ·rintro ⟨i,hi',e⟩
  have:=List.mem_range.mp hi'
  omega
 ·intro h
  exact ⟨(x - lo).toNat,List.mem_range.mpr (by omega),by omega⟩
theorem rangeI_len (lo hi:Int):(rangeI lo hi).length=(hi - lo).toNat:=by unfold rangeI;simp
theorem rangeI_up (lo hi:Int):(rangeI lo hi).Pairwise (·<·):=by
 unfold rangeI
 exact List.pairwise_map.mpr (List.pairwise_lt_range.imp fun {a b} h=>by omega)
theorem rangeI_rise {lo hi:Int} (h:0≤lo):Rise hi (rangeI lo hi):=⟨rangeI_up _ _,fun x hx=>by have:=mem_rangeI.mp hx;omega⟩
theorem cutI_from {α:Type} (xs:List α) (k:Nat) (h:k≤xs.length):cutI xs (some (k:Int)) none=xs.drop k:=by
 unfold cutI
 rw [HT.sIx_nat,HT.sIx_none,Nat.min_eq_left h]
 exact List.take_of_length_le (by rw [List.length_drop];exact Nat.le_refl _)
theorem cutI_to {α:Type} (xs:List α) (k:Nat):cutI xs none (some (k:Int))=xs.take k:=by
 unfold cutI
 rw [HT.sIx_nat,HT.sIx_none,List.drop_zero,Nat.sub_zero]
 rcases Nat.le_total k xs.length with h | h
 ·rw [Nat.min_eq_left h]
 ·rw [Nat.min_eq_right h,List.take_of_length_le h,List.take_of_length_le (Nat.le_refl _)]
abbrev NetL (H:Hp):List Addr→List (List Int)→Prop:=Paired fun r zs=>H r=some (.tup (zs.map V.int))
theorem NetL.keep {d c:Addr} {H H':Hp} {rs:List Addr} {net:List (List Int)} (h:NetL H rs net) (hd:∀ r zs,H r=some (.tup zs)→r ≠ d∧r ≠ c) (k:Keep d c H H'):NetL H' rs net:=by
 induction h with
 | nil=>exact .nil
 | cons r t ih=>exact .cons (k _ _ r (hd _ _ r).1 (hd _ _ r).2) ih
theorem NetL.same {H H':Hp} {rs:List Addr} {net:List (List Int)} (h:NetL H rs net) (k:∀ r zs,H r=some (.tup zs)→H' r=some (.tup zs)):NetL H' rs net:=by
 induction h with
 | nil=>exact .nil
 | cons r t ih=>exact .cons (k _ _ r) ih
theorem NetL.get {H:Hp}:∀ {rs:List Addr} {net:List (List Int)} {i:Nat} {zs:List Int},NetL H rs net→net[i]?=some zs→∃ r,rs[i]?=some r∧H r=some (.tup (zs.map V.int))
 | _,_,_,_,.nil,e=>by simp at e
 | _,_,0,_,.cons r _,e=>by simp at e;subst e;exact ⟨_,rfl,r⟩
 | _,_,i+1,zs,.cons _ t,e=>by
  obtain ⟨r,h1,h2⟩:=NetL.get (i:=i) (zs:=zs) t (by simpa using e)
  exact ⟨r,by simpa using h1,h2⟩
def NetAt (H:Hp) (a:Addr) (net:List (List Int)):Prop:=∃ rs:List Addr,H a=some (.tup (rs.map V.ref))∧NetL H rs net
theorem StAt.tup {H:Hp} {d c:Addr} {t:Int} {ns:List Int} (S:StAt H d c t ns) {r:Addr} {zs:List V} (h:H r=some (.tup zs)):r ≠ d∧r ≠ c:=
 ⟨ne_of h S.dict (by intro z;cases z),ne_of h S.list (by intro z;cases z)⟩
theorem NetAt.keep {H H':Hp} {d c:Addr} {t:Int} {ns:List Int} (S:StAt H d c t ns) {a:Addr} {net:List (List Int)} (h:NetAt H a net) (k:Keep d c H H'):NetAt H' a net:=by
 obtain ⟨rs,h1,h2⟩:=h
 exact ⟨rs,k _ _ h1 (S.tup h1).1 (S.tup h1).2,h2.keep (fun r zs e=>S.tup e) k⟩
theorem NetAt.same {H H':Hp} {a:Addr} {net:List (List Int)} (h:NetAt H a net) (k:Same H H'):NetAt H' a net:=by
 obtain ⟨rs,h1,h2⟩:=h
 exact ⟨rs,k _ _ h1,h2.same fun r zs e=>k _ _ e⟩
theorem NetAt.len {H:Hp} {rs:List Addr} {net:List (List Int)} (h:NetL H rs net):rs.length=net.length:=Paired.length h
def WFn (net:List (List Int)):Prop:=∀ (i:Nat) zs,net[i]?=some zs→Rise (i:Int) zs
theorem WFn.snoc {net:List (List Int)} {zs:List Int} (h:WFn net) (hz:Rise (net.length:Int) zs):WFn (net++[zs]):=by
 intro i ys e
 rcases Nat.lt_trichotomy i net.length with l | l | l
 ·rw [List.getElem?_append_left l] at e;exact h i ys e
 ·subst l
  simp at e
  subst e
  exact hz
 ·rw [List.getElem?_eq_none (by rw [List.length_append,List.length_singleton];omega)] at e
  cases e
theorem WFn.nil:WFn []:=fun i zs e=>by simp at e
theorem qBD {α β:Type} {F:α→β→Prop} {a:α} {b:β} {l₁:List α} {l₂:List β} (h:Paired F l₁ l₂) (r:F a b):Paired F (l₁++[a]) (l₂++[b]):=Paired.snoc h r
def spNeeds:Sp:=fun vs H Q _=>∃ d c t ns k,vs=[.ref d,.int k]∧StAt H d c t ns∧t≤TB - 20∧0≤k∧k≤1000∧
 ∀ r zs t' ns' H',StAt H' d c t' ns'→t≤t'→t'≤t+9→Keep d c H H'→H' r=some (.tup (zs.map V.int))→Rise k zs→Q (.ref r) H'
def spNet:Sp:=fun vs H Q _=>∃ d c t ns m,vs=[.ref d,.int m]∧StAt H d c t ns∧t≤TB - 10000∧1≤m∧m≤400∧
 ∀ a net t' ns' H',StAt H' d c t' ns'→t≤t'→t'≤t+10 * m+10→Keep d c H H'→NetAt H' a net→WFn net→(net.length:Int)=m→Q (.ref a) H'
def spTree:Sp:=fun vs H Q _=>∃ d c t ns m,vs=[.ref d,.int m]∧StAt H d c t ns∧t≤TB - 1000∧1≤m∧m≤400∧
 ∀ a net t' ns' H',StAt H' d c t' ns'→t≤t'→t'≤t+m→Keep d c H H'→NetAt H' a net→WFn net→(net.length:Int)=m→Q (.ref a) H'
theorem pick2 {a b k:Int} (h0:0≤k) (h1:k<4):∃ v,atI [V.int a,V.int b] (k / 3)=some (.int v)∧(v=a∨v=b):=by
 rcases (by omega:k=0∨k=1∨k=2∨k=3) with rfl | rfl | rfl | rfl
 ·exact ⟨a,rfl,.inl rfl⟩
 ·exact ⟨a,rfl,.inl rfl⟩
 ·exact ⟨a,rfl,.inl rfl⟩
 ·exact ⟨b,rfl,.inr rfl⟩
theorem pick6 {k:Int} (h0:0≤k) (h1:k<6):∃ v,atI [V.int 0,V.int 0,V.int 1,V.int 2,V.int 2,V.int 3] k=some (.int v)∧0≤v∧v≤3:=by
 rcases (by omega:k=0∨k=1∨k=2∨k=3∨k=4∨k=5) with rfl | rfl | rfl | rfl | rfl | rfl
 all_goals exact ⟨_,rfl,by decide,by decide⟩
theorem qAF {H Hc:Hp} {p:Addr} {o:HO} (h:Same H Hc) (hp:H p=none):Same H (upd Hc p o):=fun b u e=>by rw [qA8 (qA5 e hp)];exact h b u e
theorem keep_put {d c:Addr} {H Hc:Hp} {p:Addr} {o:HO} (h:Keep d c H Hc) (hp:H p=none):Keep d c H (upd Hc p o):=fun b u e n1 n2=>by rw [qA8 (qA5 e hp)];exact h b u e n1 n2
theorem qCZ {H:Hp} {p:Addr} {xs:List V} {o:HO} {rs:List Addr} {net:List (List Int)} (h:NetL H rs net) (hp:H p=some (.lst xs)):NetL (upd H p o) rs net:=
 h.same fun r zs e=>by rw [qA8 (ne_of e hp (by intro z;cases z))];exact e
theorem qAX (rs:List Addr) (r:Addr):rs.map V.ref++[V.ref r]=(rs++[r]).map V.ref:=by rw [List.map_append];rfl
theorem rep_b (b:Bool) (x:Int):(List.replicate (if b=true then (1:Int) else 0).toNat [V.int x]).flatten=(if b=true then [x] else []).map V.int:=by cases b <;> rfl
theorem qAN {α β:Type} {F:α→β→Prop}:∀ {l₁:List α} {l₂:List β} {i:Nat} {a:α},Paired F l₁ l₂→l₁[i]?=some a→∃ b,l₂[i]?=some b∧F a b
 | _,_,_,_,.nil,e=>by simp at e
 | _,_,0,_,.cons r _,e=>by simp at e;subst e;exact ⟨_,rfl,r⟩
 | _,_,i+1,a,.cons _ t,e=>by
  obtain ⟨b,h1,h2⟩:=qAN (i:=i) (a:=a) t (by simpa using e)
  exact ⟨b,by simpa using h1,h2⟩
theorem qBT {α β:Type} {F G:α→β→Prop} {l₁:List α} {l₂:List β} (h:Paired F l₁ l₂) (k:∀ a b,F a b→G a b):Paired G l₁ l₂:=by
 induction h with
 | nil=>exact .nil
 | cons r t ih=>exact .cons (k _ _ r) ih
theorem qBQ {rs:List Addr} {i:Nat} {x:V} (h:(rs.map V.ref)[i]?=some x):∃ r,rs[i]?=some r∧x=.ref r:=by
 rw [List.getElem?_map] at h
 cases e:rs[i]? with
 | none=>rw [e] at h;cases h
 | some r=>rw [e] at h;exact ⟨r,rfl,(Option.some.inj h).symm⟩
theorem qAS {zs:List Int} {i:Nat} {x:V} (h:(zs.map V.int)[i]?=some x):∃ z,zs[i]?=some z∧x=.int z:=by
 rw [List.getElem?_map] at h
 cases e:zs[i]? with
 | none=>rw [e] at h;cases h
 | some r=>rw [e] at h;exact ⟨r,rfl,(Option.some.inj h).symm⟩
theorem snoc_get {α:Type} {l:List α} {a b:α} {j:Nat} (h:(l++[a])[j]?=some b):l[j]?=some b∨(j=l.length∧b=a):=by
 rcases Nat.lt_trichotomy j l.length with z | z | z
 ·rw [List.getElem?_append_left z] at h;exact .inl h
 ·subst z
  simp at h
  exact .inr ⟨rfl,h.symm⟩
 ·rw [List.getElem?_eq_none (by rw [List.length_append,List.length_singleton];omega)] at h
  cases h
theorem qBF (a:Int) (zs:List Int):inV (.int a) (zs.map V.int)=decide (a ∈ zs):=by
 unfold inV
 induction zs with
 | nil=>simp
 | cons z r ih=>
  rw [List.map_cons,List.any_cons,ih]
  have e:eqV (.int z) (.int a)=decide (a=z):=by
   by_cases h:z=a
   ·subst h;simp [eqV]
   ·have h':¬ a=z:=fun q=>h q.symm
    simp [eqV,h,h']
  rw [e]
  simp [List.mem_cons]
theorem qAU (zs:List Int):(zs.map V.int).all flatV=true:=by
 rw [List.all_eq_true]
 intro x hx
 obtain ⟨z,_,rfl⟩:=List.mem_map.mp hx
 rfl
def wordDo (ns st:List Int) (rooms wk:Int):V:=if wk ∈ st then .str "there" else if ∀ x ∈ ns,x ∈ st then (if rooms≤(st.length:Int) then .str "full" else .non) else .str "needs"
def wordClear (st:List Int) (wk:Int):V:=if wk ∈ st then .non else .str "empty"
def spFaultDo:Sp:=fun vs H Q _=>∃ (a s:Addr) (net:List (List Int)) (st ns:List Int) (rooms wk:Int),vs=[.ref a,.int rooms,.ref s,.int wk]∧NetAt H a net∧H s=some (.tup (st.map V.int))∧st.length≤1000∧0≤wk∧net[wk.toNat]?=some ns∧
 ∀ H',Same H H'→Q (wordDo ns st rooms wk) H'
def wordOf (ns st:List Int) (rooms:Int) (word:Str) (wk:Int):V:=if word = "do" then wordDo ns st rooms wk else wordClear st wk
def spFault:Sp:=fun vs H Q _=>∃ (a s mv:Addr) (net:List (List Int)) (st ns:List Int) (rooms wk:Int) (word:Str),vs=[.ref a,.int rooms,.ref s,.ref mv]∧NetAt H a net∧H s=some (.tup (st.map V.int))∧st.length≤1000∧H mv=some (.tup [.str word,.int wk])∧(word = "do"∨word = "clear")∧0≤wk∧net[wk.toNat]?=some ns∧ns.length≤1000∧
 ∀ H',Same H H'→Q (wordOf ns st rooms word wk) H'
theorem wordOf_kind (ns st:List Int) (rooms:Int) (word:Str) (wk:Int):wordOf ns st rooms word wk=.non∨∃ y,wordOf ns st rooms word wk=.str y:=by
 unfold wordOf wordDo wordClear
 split
 ·split
  ·exact .inr ⟨_,rfl⟩
  ·split
   ·split
    ·exact .inr ⟨_,rfl⟩
    ·exact .inl rfl
   ·exact .inr ⟨_,rfl⟩
 ·split
  ·exact .inl rfl
  ·exact .inr ⟨_,rfl⟩
theorem qAD:¬ (Str.ofString "clear" = Str.ofString "do"):=by decide +kernel
theorem qBB {xs:List V} {i:Int} {x:V} (h0:0≤i) (h:xs[i.toNat]?=some x):atI xs i=some x:=by
 have e:i=((i.toNat:Nat):Int):=by omega
 rw [e]
 exact atI_nat (by simpa using h)
theorem NetAt.get {H:Hp} {a:Addr} {net:List (List Int)} {ns:List Int} {i:Nat} (h:NetAt H a net) (e:net[i]?=some ns):∃ (rs:List Addr) (r:Addr),H a=some (.tup (rs.map V.ref))∧rs.length=net.length∧(rs.map V.ref)[i]?=some (.ref r)∧H r=some (.tup (ns.map V.int)):=by
 obtain ⟨rs,h1,h2⟩:=h
 obtain ⟨r,h3,h4⟩:=h2.get e
 exact ⟨rs,r,h1,Paired.length h2,by rw [List.getElem?_map,h3];rfl,h4⟩
def tJoin (t:TS):TS:=fun D σ H=>∃ Pm:St→Hp→Prop,t { D with nx:=Pm } σ H∧∀ σ' H',Pm σ' H'→D.nx σ' H'
theorem ps_join {X:Cx} {st:Stmt} {t:TS} (h:PS X st t):PS X st (tJoin t):=by
 intro pins s σ H D I hq
 obtain ⟨Pm,h1,h2⟩:=hq
 refine thn (h pins s σ H _ I h1) fun f s' q=>?_
 cases f with
 | next=>obtain ⟨σ',H',I',q⟩:=q;exact ⟨σ',H',I',h2 _ _ q⟩
 | brk=>exact q
 | cont=>exact q
 | ret u=>exact q
theorem take_snoc_all {ns st:List Int} {i:Nat} {z:Int} (ez:ns[i]?=some z):((ns.take i).map fun x=>decide (x ∈ st)).map V.bl++[V.bl (decide (z ∈ st))]=((ns.take (i+1)).map fun x=>decide (x ∈ st)).map V.bl:=by
 rw [List.take_add_one,ez,Option.toList_some,List.map_append,List.map_append]
 rfl
theorem all_in {ns st:List Int}:(((ns.map fun x=>decide (x ∈ st)).all id)=true) ↔ ∀ x ∈ ns,x ∈ st:=by
 rw [List.all_eq_true]
 constructor
 ·intro h x hx
  have:=h _ (List.mem_map.mpr ⟨x,hx,rfl⟩)
  exact of_decide_eq_true this
 ·intro h b hb
  obtain ⟨x,hx,rfl⟩:=List.mem_map.mp hb
  exact decide_eq_true (h x hx)
section
variable {K:PySem.W.Frag}
end
theorem qBG {α:Type} {p:α→Bool} {l:List α} {i:Nat} {x:α} (h:l[i]?=some x):(l.take (i+1)).filter p=(l.take i).filter p++(if p x then [x] else []):=by
 rw [List.take_add_one,h,Option.toList_some,List.filter_append]
 by_cases hp:p x=true
 ·simp [hp]
 ·simp [hp]
abbrev MovL (H:Hp):List Addr→List (Str × Int)→Prop:=Paired fun r m=>H r=some (.tup [.str m.1,.int m.2])
theorem MovL.same {H H':Hp} {rs:List Addr} {ms:List (Str × Int)} (h:MovL H rs ms) (k:Same H H'):MovL H' rs ms:=by
 induction h with
 | nil=>exact .nil
 | cons r t ih=>exact .cons (k _ _ r) ih
theorem MovL.put {H:Hp} {p:Addr} {xs:List V} {o:HO} {rs:List Addr} {ms:List (Str × Int)} (h:MovL H rs ms) (hp:H p=some (.lst xs)):MovL (upd H p o) rs ms:=by
 induction h with
 | nil=>exact .nil
 | cons r t ih=>exact .cons (by rw [qA8 (ne_of r hp (by intro z;cases z))];exact r) ih
theorem paired_app {α β:Type} {F:α→β→Prop} {a c:List α} {b d:List β} (h:Paired F a b) (k:Paired F c d):Paired F (a++c) (b++d):=by
 induction h with
 | nil=>exact k
 | cons r t ih=>exact .cons r ih
theorem qCC {α β:Type} {F:α→β→Prop}:∀ {l₁:List α} {l₂:List β} {i:Nat} {b:β},Paired F l₁ l₂→l₂[i]?=some b→∃ a,l₁[i]?=some a∧F a b
 | _,_,_,_,.nil,e=>by simp at e
 | _,_,0,_,.cons r _,e=>by simp at e;subst e;exact ⟨_,rfl,r⟩
 | _,_,i+1,b,.cons _ t,e=>by
  obtain ⟨a,h1,h2⟩:=qCC (i:=i) (b:=b) t (by simpa using e)
  exact ⟨a,by simpa using h1,h2⟩
theorem MovL.snoc {H:Hp} {rs:List Addr} {ms:List (Str × Int)} {r:Addr} {wo:Str} {x:Int} (h:MovL H rs ms) (e:H r=some (.tup [.str wo,.int x])):MovL H (rs++[r]) (ms++[(wo,x)]):=Paired.snoc h e
def wd (net:List (List Int)) (st:List Int) (rooms:Int) (m:Str × Int):V:=wordOf ((net[m.2.toNat]?).getD []) st rooms m.1 m.2
theorem rangeI0_get {n:Int} {i:Nat} (h:(i:Int)<n):(rangeI 0 n)[i]?=some (i:Int):=by
 unfold rangeI
 rw [List.getElem?_map,List.getElem?_range (by omega)]
 simp
theorem qBH {α:Type} {l:List α} {n:Nat} (h:l.length=n):l.take n=l:=List.take_of_length_le (by omega)
theorem qBZ {p:Int→Bool} {l:List Int} {i:Nat}:((l.take i).filter p).length≤i:=by
 have:=List.length_filter_le p (l.take i)
 rw [List.length_take] at this
 omega
structure Cnt (n:Nat) (cs:List Int) (seen:List Int):Prop where
 len:cs.length=n
 at_:∀ x:Nat,x<n→∃ c,cs[x]?=some c∧0≤c∧(c=0 ↔ (x:Int) ∉ seen)
theorem flat_len:∀ {net:List (List Int)} {B:Nat},(∀ zs ∈ net,zs.length≤B)→net.flatten.length≤net.length * B
 | [],B,_=>by simp
 | zs::net,B,h=>by
  have h1:=h zs (by simp)
  have h2:=flat_len (net:=net) (B:=B) fun ys hy=>h ys (by simp [hy])
  rw [List.flatten_cons,List.length_append,List.length_cons,Nat.add_mul]
  omega
theorem qAO {n:Nat} (h:n≤1000000):n<sizeLine:=by rw [sizeLine_eq];omega
inductive Nd (net:List (List Int)) (asked:List Int):Int→Prop
 | ask {x:Int}:x ∈ asked→Nd net asked x
 | need {w y:Int} {zs:List Int}:Nd net asked w→net[w.toNat]?=some zs→y ∈ zs→Nd net asked y
structure KeysI (kvs:List (Key × V)) (ks:List Int):Prop where
 keys:kvs.map (·.1)=ks.map Sum.inl
 nd:ks.Nodup
theorem nd_len {ks:List Int} {n:Nat} (h:ks.Nodup) (b:∀ x ∈ ks,0≤x∧x<(n:Int)):ks.length≤n:=by
 have sub:ks ⊆ (List.range n).map fun (i:Nat)=>(i:Int):=fun x hx=>by
  have:=b x hx
  exact List.mem_map.mpr ⟨x.toNat,List.mem_range.mpr (by omega),by omega⟩
 have:=List.Nodup.length_le_of_subset h sub
 simpa using this
structure Fnd (net:List (List Int)) (asked ks:List Int) (j:Int):Prop where
 in_:∀ x ∈ ks,(0≤x∧x<(net.length:Int))∧Nd net asked x
 ask:∀ x ∈ asked,x ∈ ks
 clo:∀ (w:Nat) zs,j≤(w:Int)→(w:Int) ∈ ks→net[w]?=some zs→∀ y ∈ zs,y ∈ ks
theorem Fnd.all {net:List (List Int)} {asked ks:List Int} (wf:WFn net) (h:Fnd net asked ks 0) (x:Int):x ∈ ks ↔ Nd net asked x:=by
 refine ⟨fun hx=>(h.in_ x hx).2,fun hx=>?_⟩
 induction hx with
 | ask m=>exact h.ask _ m
 | @need w y zs _ e m ih=>
  have b:=(h.in_ w ih).1
  exact h.clo w.toNat zs (by omega) (by rw [show ((w.toNat:Nat):Int)=w by omega];exact ih) e y m
def IsNeeded (net:List (List Int)) (asked zs:List Int):Prop:=Rise (net.length:Int) zs∧∀ x,x ∈ zs ↔ Nd net asked x
theorem up_eq:∀ {l m:List Int},l.Pairwise (·<·)→m.Pairwise (·<·)→(∀ x,x ∈ l ↔ x ∈ m)→l=m
 | [],[],_,_,_=>rfl
 | [],y::m,_,_,h=>absurd ((h y).mpr (by simp)) (by simp)
 | x::l,[],_,_,h=>absurd ((h x).mp (by simp)) (by simp)
 | x::l,y::m,hl,hm,h=>by
  have l1:=List.pairwise_cons.mp hl
  have m1:=List.pairwise_cons.mp hm
  have exy:x=y:=by
   rcases List.mem_cons.mp ((h x).mp (by simp)) with e | e
   ·exact e
   ·rcases List.mem_cons.mp ((h y).mpr (by simp)) with e2 | e2
    ·exact e2.symm
    ·have:=m1.1 x e
     have:=l1.1 y e2
     omega
  subst exy
  rw [up_eq l1.2 m1.2 fun z=>?_]
  constructor
  ·intro hz
   rcases List.mem_cons.mp ((h z).mp (by simp [hz])) with e | e
   ·have:=l1.1 z hz;omega
   ·exact e
  ·intro hz
   rcases List.mem_cons.mp ((h z).mpr (by simp [hz])) with e | e
   ·have:=m1.1 z hz;omega
   ·exact e
theorem up_get {ws:List Int} (up:ws.Pairwise (·<·)) {i j:Nat} {x y:Int} (hx:ws[i]?=some x) (hy:ws[j]?=some y):i<j ↔ x<y:=by
 obtain ⟨hi,ex⟩:=List.getElem?_eq_some_iff.mp hx
 obtain ⟨hj,ey⟩:=List.getElem?_eq_some_iff.mp hy
 have key:∀ a b (ha:a<ws.length) (hb:b<ws.length),a<b→ws[a]<ws[b]:=fun a b ha hb hab=>List.pairwise_iff_getElem.mp up a b ha hb hab
 constructor
 ·intro h
  have:=key i j hi hj h
  omega
 ·intro h
  rcases Nat.lt_trichotomy i j with z | z | z
  ·exact z
  ·subst z
   omega
  ·have:=key j i hj hi z
   omega
theorem need_rise {net:List (List Int)} (wf:WFn net) (w:Nat):Rise (w:Int) ((net[w]?).getD []):=by
 cases e:net[w]? with
 | none=>exact Rise.nil
 | some zs=>exact wf w zs e
abbrev Mv:=Str × Int
def nd (net:List (List Int)) (w:Int):List Int:=(net[w.toNat]?).getD []
theorem qBM {net:List (List Int)} {w:Int} {zs:List Int} (h:net[w.toNat]?=some zs):nd net w=zs:=by unfold nd;rw [h];rfl
def lastOf (net:List (List Int)):List Int→Int→Option Int
 | [],_=>none
 | w::r,y=>match lastOf net r y with
  | some v=>some v
  | none=>if y ∈ nd net w then some w else none
def later (net:List (List Int)) (zs:List Int) (j:Nat) (x:Int):Prop:=∃ v ∈ zs.drop j,x ∈ nd net v
instance (net:List (List Int)) (zs:List Int) (j:Nat) (x:Int):Decidable (later net zs j x):=by unfold later;infer_instance
def clrs (net:List (List Int)) (asked zs:List Int) (w:Int):List Int:=(nd net w).filter fun y=>decide (lastOf net zs y=some w∧y ∉ asked)
def part1 (net:List (List Int)) (asked zs:List Int) (w:Int):List Mv:=("do",w)::(clrs net asked zs w).map fun y=>("clear",y)
def planOf (net:List (List Int)) (asked zs:List Int):List Mv:=zs.flatMap (part1 net asked zs)
inductive Run (net:List (List Int)) (rooms:Int):List Int→List Mv→List Int→Prop
 | nil {s:List Int}:Run net rooms s [] s
 | do_ {s s' t:List Int} {w:Int} {ms:List Mv}:w ∉ s→(∀ y ∈ nd net w,y ∈ s)→(s.length:Int)<rooms→s'.Perm (s++[w])→s'.Pairwise (·<·)→Run net rooms s' ms t→Run net rooms s (("do",w)::ms) t
 | clear {s t:List Int} {w:Int} {ms:List Mv}:w ∈ s→Run net rooms (s.filter fun x=>decide (x ≠ w)) ms t→Run net rooms s (("clear",w)::ms) t
def dosOf (ms:List Mv):List Int:=ms.filterMap fun (m:Mv)=>if m.1=Str.ofString "do" then some m.2 else none
theorem dosOf_app (a b:List Mv):dosOf (a++b)=dosOf a++dosOf b:=List.filterMap_append
theorem rm_len:∀ {s:List Int} {w:Int},s.Nodup→w ∈ s→(s.filter fun x=>decide (x ≠ w)).length+1=s.length
 | [],w,_,h=>by cases h
 | x::s,w,n,h=>by
  have n2:=List.nodup_cons.mp n
  by_cases e:x=w
  ·subst e
   have:s.filter (fun y=>decide (y ≠ x))=s:=List.filter_eq_self.mpr fun y hy=>decide_eq_true fun z=>n2.1 (z ▸ hy)
   rw [List.filter_cons,if_neg (by simp),this,List.length_cons]
  ·rw [List.filter_cons,if_pos (by simpa using e),List.length_cons,List.length_cons,rm_len n2.2 ((List.mem_cons.mp h).resolve_left fun z=>e z.symm)]
theorem Run.len {net:List (List Int)} {rooms:Int} {s t:List Int} {ms:List Mv} (h:Run net rooms s ms t):s.Nodup→ms.length+t.length=s.length+2 * (dosOf ms).length:=by
 induction h with
 | nil=>intro _;simp [dosOf]
 | @do_ s s' t w ms h1 h2 h3 h4 h5 h6 ih=>
  intro _
  have e:=ih (h5.imp fun {a b} hab=>by omega)
  have l:=h4.length_eq
  rw [List.length_append,List.length_singleton] at l
  have d:(dosOf (("do",w)::ms)).length=(dosOf ms).length+1:=by simp [dosOf]
  rw [d,List.length_cons]
  omega
 | @clear s t w ms h1 h2 ih=>
  intro n
  have e:=ih (n.filter _)
  have l:=rm_len n h1
  have d:dosOf (("clear",w)::ms)=dosOf ms:=by unfold dosOf;rw [List.filterMap_cons,if_neg qAD]
  rw [d,List.length_cons]
  omega
section
variable {net:List (List Int)} {asked zs:List Int}
theorem needed_has (wf:WFn net) (N:IsNeeded net asked zs) {i:Nat} {w y:Int} (h:zs[i]?=some w) (hy:y ∈ nd net w):y ∈ zs.take i∧y<w:=by
 have mw:=List.mem_of_getElem? h
 have wb:=N.1.in_ w mw
 have hw:w.toNat<net.length:=by omega
 have e:=List.getElem?_eq_getElem hw
 rw [qBM e] at hy
 have yb:=(wf w.toNat _ e).in_ y hy
 have my:y ∈ zs:=(N.2 y).mpr (.need ((N.2 w).mp mw) e hy)
 obtain ⟨k,hk⟩:=List.getElem?_of_mem my
 have lt:k<i:=(up_get N.1.up hk h).mpr (by omega)
 refine ⟨List.mem_of_getElem? (i:=k) (by rw [List.getElem?_take_of_lt lt];exact hk),by omega⟩
theorem later_succ {i:Nat} {w x:Int} (h:zs[i]?=some w):later net zs i x ↔ x ∈ nd net w∨later net zs (i+1) x:=by
 obtain ⟨hi,e⟩:=List.getElem?_eq_some_iff.mp h
 unfold later
 rw [List.drop_eq_getElem_cons hi,e]
 simp only [List.mem_cons,exists_eq_or_imp]
theorem nd_up (wf:WFn net) (w:Int):(nd net w).Pairwise (·<·):=(need_rise wf w.toNat).up
end
def PlanAt (H:Hp) (l:Addr) (ms:List Mv):Prop:=∃ rs:List Addr,H l=some (.lst (rs.map V.ref))∧MovL H rs ms
theorem PlanAt.same {H H':Hp} {l:Addr} {ms:List Mv} (h:PlanAt H l ms) (k:Same H H'):PlanAt H' l ms:=by
 obtain ⟨rs,h1,h2⟩:=h
 exact ⟨rs,k _ _ h1,h2.same k⟩
def askedAt (H:Hp) (t:Addr) (net:List (List Int)) (asked:List Int):Prop:=H t=some (.tup (asked.map V.int))∧Rise (net.length:Int) asked
def spNeeded:Sp:=fun vs H Q _=>∃ (a t:Addr) (net:List (List Int)) (asked:List Int),vs=[.ref a,.ref t]∧NetAt H a net∧WFn net∧net.length≤1000∧askedAt H t net asked∧
 ∀ l zs H',Same H H'→H l=none→H' l=some (.lst (zs.map V.int))→IsNeeded net asked zs→Q (.ref l) H'
def lv (L:List Int) (x:Int):Int:=(L[x.toNat]?).getD 0
structure Lev (net:List (List Int)) (L:List Int):Prop where
 len:L.length=net.length
 at_:∀ (i:Nat) zs,net[i]?=some zs→∃ l,L[i]?=some l∧0≤l∧l≤(i:Int)∧(∀ y ∈ zs,lv L y+1≤l)∧(l=0∨∃ y ∈ zs,lv L y+1=l)
structure Fd (n:Nat) (L:List Int) (S:Int→Prop) (fs:List Int):Prop where
 len:fs.length=n
 at_:∀ w:Nat,w<n→(S w→fs[w]?=some (lv L w))∧(¬ S w→fs[w]?=some 0)
def nds (net:List (List Int)) (ws:List Int):List Int:=(ws.map (nd net)).flatten
structure CntX (n:Nat) (cs:List Int) (seen:List Int):Prop where
 len:cs.length=n
 at_:∀ x:Nat,x<n→cs[x]?=some ((seen.count (x:Int):Nat):Int)
def xfs (n w:V):List (Str × V):=putF "word" w [("move",n)]
theorem upd_norm {H:Hp} {x dx:Addr} {o o' u:HO} (h:dx ≠ x):upd (upd (upd H x o) dx u) x o'=upd (upd H dx u) x o':=by
 funext b
 unfold upd
 by_cases h1:b=x
 ·simp [h1]
 ·simp [h1]
theorem upd_norm2 {H:Hp} {x dx:Addr} {o u u':HO} (h:dx ≠ x):upd (upd (upd H dx u) x o) dx u'=upd (upd H dx u') x o:=by
 funext b
 unfold upd
 by_cases h1:b=dx
 ·subst h1
  simp [h]
 ·by_cases h2:b=x
  ·subst h2
   simp [h1]
  ·simp [h1,h2]
def spInit2 (C:Addr):Sp:=fun vs H Q _=>∃ (x:Addr) (a b:V),vs=[.ref x,a,b]∧H x=some (ExcN x C none)∧∀ dx,H dx=none→dx ≠ x→Q .non (upd (upd H dx (XDic dx (xfs a b))) x (ExcN x C (some dx)))
def Beh (st st':List Int) (word:Str) (wk:Int):Prop:=(word = "do"→st'.Perm (st++[wk])∧st'.Pairwise (·≤·))∧(word = "clear"→st'=st.filter fun x=>decide (x ≠ wk))
theorem sorted_one:∀ {l m:List Int},l.Perm m→l.Pairwise (·≤·)→m.Pairwise (·≤·)→l=m:=by
 intro l m hp h1 h2
 exact hp.eq_of_pairwise (fun a b _ _ h3 h4=>Int.le_antisymm h3 h4) h1 h2
theorem Beh.one {st a b:List Int} {word:Str} {wk:Int} (hw:word = "do"∨word = "clear") (h1:Beh st a word wk) (h2:Beh st b word wk):a=b:=by
 rcases hw with e | e
 ·obtain ⟨p1,s1⟩:=h1.1 e
  obtain ⟨p2,s2⟩:=h2.1 e
  exact sorted_one (p1.trans p2.symm) s1 s2
 ·rw [h1.2 e,h2.2 e]
def spBehindS:Sp:=fun vs H Q _=>∃ (s mv:Addr) (st:List Int) (word:Str) (wk:Int),vs=[.ref s,.ref mv]∧H s=some (.tup (st.map V.int))∧st.length≤62∧H mv=some (.tup [.str word,.int wk])∧(word = "do"∨word = "clear")∧
 ∀ r st' H',Same H H'→H' r=some (.tup (st'.map V.int))→Beh st st' word wk→Q (.ref r) H'
inductive Play (net:List (List Int)) (rooms:Int):List Int→List Mv→List (List Int)→V→Prop
 | nil {st}:Play net rooms st [] [] .non
 | stop {st m ms w0}:wd net st rooms m=.str w0→Play net rooms st (m::ms) [] (.str w0)
 | go {st st' m ms sts v}:wd net st rooms m=.non→Beh st st' m.1 m.2→Play net rooms st' ms sts v→Play net rooms st (m::ms) (st'::sts) v
def MvOk (net:List (List Int)) (ms:List Mv):Prop:=∀ m ∈ ms,(m.1 = "do"∨m.1 = "clear")∧0≤m.2∧m.2<(net.length:Int)
theorem Play.one {net:List (List Int)} {rooms:Int} {st:List Int} {ms:List Mv} {a b:List (List Int)} {v u:V} (hm:MvOk net ms) (h1:Play net rooms st ms a v) (h2:Play net rooms st ms b u):a=b∧v=u:=by
 induction h1 generalizing b u with
 | nil=>cases h2;exact ⟨rfl,rfl⟩
 | stop e=>
  cases h2 with
  | stop e2=>rw [e] at e2;exact ⟨rfl,e2⟩
  | go e2 _ _=>rw [e] at e2;cases e2
 | go e bh p ih=>
  cases h2 with
  | stop e2=>rw [e] at e2;cases e2
  | go e2 bh2 p2=>
   have:=bh.one (hm _ (by simp)).1 bh2
   subst this
   obtain ⟨x,y⟩:=ih (fun m hm'=>hm m (List.mem_cons_of_mem _ hm')) p2
   exact ⟨by rw [x],y⟩
def StandsAt (H:Hp) (l:Addr) (sts:List (List Int)):Prop:=∃ rs:List Addr,H l=some (.lst (rs.map V.ref))∧NetL H rs sts
theorem NetL.sm {H H':Hp} {rs:List Addr} {sts:List (List Int)} (h:NetL H rs sts) (s:Same H H'):NetL H' rs sts:=h.same fun r zs e=>s _ _ e
theorem StandsAt.same {H H':Hp} {l:Addr} {sts:List (List Int)} (h:StandsAt H l sts) (s:Same H H'):StandsAt H' l sts:=by
 obtain ⟨rs,a,b⟩:=h
 exact ⟨rs,s _ _ a,NetL.sm b s⟩
theorem NetL.put {H:Hp} {p:Addr} {xs:List V} {o:HO} {rs:List Addr} {sts:List (List Int)} (h:NetL H rs sts) (hp:H p=some (.lst xs)):NetL (upd H p o) rs sts:=h.same fun r zs e=>by
 rw [qA8 (ne_of e hp (by intro z;cases z))]
 exact e
theorem MovL.keep {d c:Addr} {H H':Hp} {t:Int} {ns:List Int} {rs:List Addr} {ms:List Mv} (h:MovL H rs ms) (S:StAt H d c t ns) (k:Keep d c H H'):MovL H' rs ms:=
 qBT h fun r m e=>k _ _ e (S.tup e).1 (S.tup e).2
theorem PlanAt.keep {d c:Addr} {H H':Hp} {t:Int} {ns:List Int} {l:Addr} {ms:List Mv} (h:PlanAt H l ms) (S:StAt H d c t ns) (k:Keep d c H H') (nd:l ≠ d) (nc:l ≠ c):PlanAt H' l ms:=by
 obtain ⟨rs,a,b⟩:=h
 exact ⟨rs,k _ _ a nd nc,MovL.keep b S k⟩
theorem MvOk.app {net:List (List Int)} {a b:List Mv} (h:MvOk net a) (k:MvOk net b):MvOk net (a++b):=fun m hm=>by
 rcases List.mem_append.mp hm with x | x
 ·exact h m x
 ·exact k m x
theorem MvOk.one {net:List (List Int)} {word:Str} {wk:Int} (h:word = "do"∨word = "clear") (h0:0≤wk) (h1:wk<(net.length:Int)):MvOk net [(word,wk)]:=fun m hm=>by
 rw [List.mem_singleton.mp hm]
 exact ⟨h,h0,h1⟩
theorem StAt.put' {H:Hp} {d c l:Addr} {t:Int} {ns:List Int} {o:HO} (S:StAt H d c t ns) (h1:l ≠ d) (h2:l ≠ c):StAt (upd H l o) d c t ns:=⟨by rw [qA8 (Ne.symm h1)];exact S.dict,by rw [qA8 (Ne.symm h2)];exact S.list,S.ne,S.len,S.pos⟩
theorem qCN {α:Type} {l:List α} {i:Nat} {x:α} (h:l[i]?=some x):l.take (i+1)=l.take i++[x]:=by
 rw [List.take_succ,h]
 rfl
def lens (sts:List (List Int)):List Int:=sts.map fun z=>(z.length:Int)
theorem Play.kind {net:List (List Int)} {rooms:Int} {st:List Int} {ms:List Mv} {a:List (List Int)} {v:V} (h:Play net rooms st ms a v):v=.non∨∃ w0,v=.str w0:=by
 induction h with
 | nil=>exact .inl rfl
 | stop _=>exact .inr ⟨_,rfl⟩
 | go _ _ _ ih=>exact ih
structure YNa (K:PySem.W.Frag) (C:Addr):Prop where
 net:NoAttr K C "net"
 rooms:NoAttr K C "rooms"
 made:NoAttr K C "made"
 stands:NoAttr K C "stands"
def yfs (a:Addr) (rooms:Int) (lm ls:Addr):List (Str × V):=putF "stands" (.ref ls) (putF "made" (.ref lm) (putF "rooms" (.int rooms) (putF "net" (.ref a) [])))
def lastSt (st:List Int):List (List Int)→List Int
 | []=>st
 | s::r=>lastSt s r
theorem last_at:∀ {rs:List Addr} {st:List Int} {sts:List (List Int)} {H:Hp},NetL H rs (st::sts)→∃ ss r,rs=ss++[r]∧H r=some (.tup ((lastSt st sts).map V.int)):=by
 intro rs st sts
 induction sts generalizing rs st with
 | nil=>
  intro H h
  cases h with
  | cons a b=>cases b;exact ⟨[],_,rfl,a⟩
 | cons s r ih=>
  intro H h
  cases h with
  | cons a b=>
   obtain ⟨ss,q,rfl,g⟩:=ih b
   exact ⟨_::ss,q,rfl,g⟩
structure YardAt (C:Addr) (H:Hp) (y a lm ls:Addr) (net:List (List Int)) (rooms:Int) (ms:List Mv) (sts:List (List Int)):Prop where
 obj:∃ dx,H y=some (.ins C dx (yfs a rooms lm ls))
 nat:NetAt H a net
 wf:WFn net
 n400:net.length≤400
 r0:0≤rooms
 r62:rooms≤62
 made:PlanAt H lm ms
 ok:MvOk net ms
 len:ms.length≤10000
 stands:StandsAt H ls ([]::sts)
 play:Play net rooms [] ms sts .non
 ne:lm ≠ ls
def off (n:Nat):Nat→Nat
 | 0=>0
 | r+1=>off n r+(n - r)
abbrev keyOf (s:Nat × Nat):List Key:=[Sum.inl (s.1:Int),Sum.inl (s.2:Int)]
structure NumP (rs:List Addr) (ss:List (Nat × Nat)) (j:Nat) (ps:List (List Key × Addr × V)):Prop where
 keys:ps.map (·.1)=(ss.take j).map keyOf
 at_:∀ (k:Nat) (s:Nat × Nat),k<j→ss[k]?=some s→∃ a,ps[k]?=some (keyOf s,a,.int (k:Int))
def insOf (ins:List (Int × Int)) (x:Int):Option Int:=(ins.find? fun q=>decide (q.1=x)).map (·.2)
def rankO (ins:List (Int × Int)) (i:Nat):Nat:=((List.range i).filter fun (x:Nat)=>(insOf ins (x:Int)).isNone).length
def numO (m:Nat) (ins:List (Int × Int)) (x:Nat):Int:=match insOf ins (x:Int) with | some v=>v | none=>((m+rankO ins x:Nat):Int)
structure InsAt (H:Hp) (i:Addr) (ins:List (Int × Int)):Prop where
 at_:∃ rs:List Addr,BareT H i (rs.map V.ref)∧Paired (fun r (q:Int × Int)=>H r=some (.tup [.int q.1,.int q.2])) rs ins
 nodup:(ins.map (·.1)).Nodup
structure InsOk (m:Nat) (other:List (List Int)) (k:Nat) (ins:List (Int × Int)) (fs:List Int):Prop where
 st:∀ q ∈ ins,(0≤q.1∧q.1<(k:Int))∧other[q.1.toNat]?=some []∧0≤q.2∧q.2<(m:Int)
 nd1:(ins.map (·.1)).Nodup
 nd2:(ins.map (·.2)).Nodup
 fr:fs.Nodup
 fin:∀ x ∈ fs,(0≤x∧x<(m:Int))∧x ∉ ins.map (·.2)
 len:ins.length≤k
def pm (m:Mv):Int:=if m.1 = "do" then 1 else -1
def peak:Int→List Mv→Int
 | n,[]=>n
 | n,m::ms=>max n (peak (n+pm m) ms)
theorem pm_do (w:Int):pm ("do",w)=1:=rfl
theorem pm_clear (w:Int):pm ("clear",w) = -1:=if_neg (qAD)
theorem peak_ge:∀ (n:Int) (ms:List Mv),n≤peak n ms
 | n,[]=>Int.le_refl _
 | n,m::ms=>by show n≤max n _;omega
theorem Run.app {net:List (List Int)} {rooms:Int} {s t u:List Int} {a b:List Mv} (h:Run net rooms s a t) (k:Run net rooms t b u):Run net rooms s (a++b) u:=by
 induction h with
 | nil=>exact k
 | do_ h1 h2 h3 h4 h5 _ ih=>exact .do_ h1 h2 h3 h4 h5 (ih k)
 | clear h1 _ ih=>exact .clear h1 (ih k)
theorem Run.up {net:List (List Int)} {rooms:Int} {s t:List Int} {a:List Mv} (h:Run net rooms s a t):s.Pairwise (·<·)→t.Pairwise (·<·):=by
 induction h with
 | nil=>exact id
 | do_ h1 h2 h3 h4 h5 _ ih=>exact fun _=>ih h5
 | clear h1 _ ih=>exact fun h=>ih (h.filter _)
theorem qC1 {s:List Int} (h:s.Pairwise (·<·)):s.Nodup:=h.imp fun {a b} hab=>by omega
def less (th s:List Int):List Int:=s.filter fun x=>decide (x ∉ th)
def keepM (th:List Int) (ms:List Mv):List Mv:=ms.filter fun m=>decide (m.2 ∉ th)
theorem Run.play {net:List (List Int)} {rooms:Int} {s t:List Int} {ms:List Mv} (h:Run net rooms s ms t):s.Pairwise (·<·)→∃ sts,Play net rooms s ms sts .non∧lastSt s sts=t∧topD none (lens (s::sts))=some (peak (s.length:Int) ms)∧∀ z ∈ sts,(z.length:Int)≤peak (s.length:Int) ms:=by
 induction h with
 | nil=>intro _;exact ⟨[],.nil,rfl,rfl,fun _ z=>nomatch z⟩
 | @do_ s s' t w ms h1 h2 h3 h4 h5 h6 ih=>
  intro n
  obtain ⟨sts,p,l,tp,al⟩:=ih h5
  have ln:=h4.length_eq
  rw [List.length_append,List.length_singleton] at ln
  have pk:peak (s.length:Int) (("do",w)::ms)=max (s.length:Int) (peak (s'.length:Int) ms):=by
   show max _ (peak ((s.length:Int)+pm ("do",w)) ms)=_
   rw [pm_do,show ((s.length:Int)+1)=(s'.length:Int) by omega]
  have pg:=peak_ge (s'.length:Int) ms
  refine ⟨s'::sts,.go ?_ ⟨fun _=>⟨h4,h5.imp fun {a b} hab=>by omega⟩,fun z=>absurd z.symm qAD⟩ p,l,?_,fun z hz=>?_⟩
  ·unfold wd wordOf wordDo
   rw [if_pos rfl,if_neg h1,if_pos (show ∀ x ∈ (net[w.toNat]?).getD [],x ∈ s from h2),if_neg (by omega)]
  ·unfold lens at tp ⊢
   rw [List.map_cons] at tp
   rw [List.map_cons,List.map_cons,pk]
   show some (topI _ _)=_
   have e:topI (s'.length:Int) (sts.map fun z=>(z.length:Int))=peak (s'.length:Int) ms:=Option.some.inj tp
   have g1:=topI_ge ((s'.length:Int)::sts.map fun z=>(z.length:Int)) (s.length:Int)
   have g2:=topI_ge (sts.map fun z=>(z.length:Int)) (s'.length:Int)
   rw [e] at g2
   congr 1
   have b1:∀ x ∈ (s'.length:Int)::sts.map (fun z=>(z.length:Int)),x≤peak (s'.length:Int) ms:=fun x hx=>by
    rcases List.mem_cons.mp hx with q | q
    ·omega
    ·exact g2.2.1 x q
   have b2:peak (s'.length:Int) ms ∈ (s'.length:Int)::sts.map (fun z=>(z.length:Int)):=by
    rcases g2.2.2 with q | q
    ·rw [q];exact List.mem_cons_self
    ·exact List.mem_cons_of_mem _ q
   have b3:=g1.2.1 _ b2
   rcases g1.2.2 with q | q
   ·omega
   ·have:=b1 _ q
    omega
  ·rw [pk]
   rcases List.mem_cons.mp hz with q | q
   ·rw [q];omega
   ·have:=al z q;omega
 | @clear s t w ms h1 h2 ih=>
  intro n
  obtain ⟨sts,p,l,tp,al⟩:=ih (n.filter _)
  have ln:=rm_len (qC1 n) h1
  generalize hs':(s.filter fun x=>decide (x ≠ w))=s' at p l tp al ln
  have pk:peak (s.length:Int) (("clear",w)::ms)=max (s.length:Int) (peak (s'.length:Int) ms):=by
   show max _ (peak ((s.length:Int)+pm ("clear",w)) ms)=_
   rw [pm_clear,show ((s.length:Int) + -1)=(s'.length:Int) by omega]
  have pg:=peak_ge (s'.length:Int) ms
  refine ⟨s'::sts,.go ?_ ⟨fun z=>absurd z qAD,fun _=>hs'.symm⟩ p,l,?_,fun z hz=>?_⟩
  ·unfold wd wordOf wordClear
   rw [if_neg (show ¬ (("clear",w):Mv).1 = "do" from fun z=>qAD z),if_pos h1]
  ·unfold lens at tp ⊢
   rw [List.map_cons] at tp
   rw [List.map_cons,List.map_cons,pk]
   show some (topI _ _)=_
   have e:topI (s'.length:Int) (sts.map fun z=>(z.length:Int))=peak (s'.length:Int) ms:=Option.some.inj tp
   have g1:=topI_ge ((s'.length:Int)::sts.map fun z=>(z.length:Int)) (s.length:Int)
   have g2:=topI_ge (sts.map fun z=>(z.length:Int)) (s'.length:Int)
   rw [e] at g2
   congr 1
   have b1:∀ x ∈ (s'.length:Int)::sts.map (fun z=>(z.length:Int)),x≤peak (s'.length:Int) ms:=fun x hx=>by
    rcases List.mem_cons.mp hx with q | q
    ·omega
    ·exact g2.2.1 x q
   have b2:peak (s'.length:Int) ms ∈ (s'.length:Int)::sts.map (fun z=>(z.length:Int)):=by
    rcases g2.2.2 with q | q
    ·rw [q];exact List.mem_cons_self
    ·exact List.mem_cons_of_mem _ q
   have b3:=g1.2.1 _ b2
   rcases g1.2.2 with q | q
   ·omega
   ·have:=b1 _ q
    omega
  ·rw [pk]
   rcases List.mem_cons.mp hz with q | q
   ·rw [q];omega
   ·have:=al z q;omega
def pbGo (num:Int→Int) (jn:Int→Bool) (pl:Int→List Mv):List Int→List Mv→List Mv
 | _,[]=>[]
 | th,m::ms=>if m.1 = "clear" then ("clear",num m.2)::pbGo num jn pl (th.filter fun x=>decide (x ≠ num m.2)) ms else (if jn m.2 then keepM th (pl (num m.2)) else [("do",num m.2)])++pbGo num jn pl (th++[num m.2]) ms
structure ThOk (n:Nat) (num:Int→Int) (th s:List Int):Prop where
 perm:th.Perm (s.map num)
 rise:Rise (n:Int) s
theorem Run.inv {net:List (List Int)} {rooms:Int} {s t:List Int} {m:Mv} {ms:List Mv} (h:Run net rooms s (m::ms) t):(m.1 = "do"∧∃ s',m.2 ∉ s∧(∀ y ∈ nd net m.2,y ∈ s)∧(s.length:Int)<rooms∧s'.Perm (s++[m.2])∧s'.Pairwise (·<·)∧Run net rooms s' ms t)∨(m.1 = "clear"∧m.2 ∈ s∧Run net rooms (s.filter fun x=>decide (x ≠ m.2)) ms t):=by
 cases h with
 | do_ h1 h2 h3 h4 h5 h6=>exact .inl ⟨rfl,_,h1,h2,h3,h4,h5,h6⟩
 | clear h1 h2=>exact .inr ⟨rfl,h1,h2⟩
structure TopO (net:List (List Int)) (zs:List Int):Prop where
 nodup:zs.Nodup
 in_:∀ x ∈ zs,0≤x∧x<(net.length:Int)
 bef:∀ (p:Nat) (o:Int),zs[p]?=some o→∀ x ∈ nd net o,x ∈ zs.take p
 aft:∀ (p:Nat) (o:Int),zs[p]?=some o→p+1<zs.length→later net zs (p+1) o
structure Begun (net:List (List Int)) (some_ ord:List Int):Prop where
 nodup:ord.Nodup
 sub:∀ x ∈ ord,x ∈ some_
 bef:∀ (p:Nat) (o:Int),ord[p]?=some o→∀ x ∈ nd net o,x ∈ ord.take p
noncomputable def ndOf (net:List (List Int)) (asked:List Int):List Int:=by
 classical
 exact if h:∃ zs,IsNeeded net asked zs then Classical.choose h else []
noncomputable def plainL (net:List (List Int)) (w:Int):List Mv:=planOf net [w] (ndOf net [w])
def numF (m:Nat) (ins:List (Int × Int)) (x:Int):Int:=numO m ins x.toNat
def joinF (ins:List (Int × Int)) (x:Int):Bool:=(insOf ins x).isSome
noncomputable def planB (one:List (List Int)) (ins:List (Int × Int)) (ms:List Mv):List Mv:=pbGo (numF one.length ins) (joinF ins) (plainL one) [] ms
noncomputable def mostW (one:List (List Int)) (ins:List (Int × Int)):Int:=(topD (some 1) (ins.map fun q=>peak 0 (plainL one q.2))).getD 0
noncomputable def roomsB (one:List (List Int)) (ins:List (Int × Int)) (ms:List Mv):Int:=match ins with | []=>peak 0 ms | _::_=>mostW one ins+peak 0 ms - 1
structure BehIn (H:Hp) (a b i l:Addr) (one other:List (List Int)) (ins:List (Int × Int)) (ms:List Mv) (st:List Int):Prop where
 gA:NetAt H a one
 wf1:WFn one
 gB:NetAt H b other
 wf2:WFn other
 gI:InsAt H i ins
 ok:∃ fs,InsOk one.length other other.length ins fs
 plan:PlanAt H l ms
 mv:MvOk other ms
 len:ms.length≤400
 run:Run other (other.length:Int) [] ms st
 o1:1≤one.length
 o2:one.length≤60
 o3:1≤other.length
 o4:other.length≤60
theorem run_most {net:List (List Int)} {rooms:Int} {ms:List Mv} {st:List Int} (mv:MvOk net ms) (R:Run net rooms [] ms st):(∀ sts m,Play net rooms [] ms sts .non→topD none (lens ([]::sts))=some m→m=peak 0 ms)∧∀ sts w0,¬ Play net rooms [] ms sts (.str w0):=by
 obtain ⟨sts0,p0,l0,t0,_⟩:=R.play .nil
 refine ⟨fun sts m p h=>?_,fun sts w0 p=>?_⟩
 ·rw [(Play.one mv p p0).1,t0] at h
  exact (Option.some.inj h).symm
 ·have:=(Play.one mv p p0).2
  cases this
theorem mem_lt_len {n:Nat} {st:List Int} {w:Int} (h:Rise (n:Int) st) (hn:w ∉ st) (w0:0≤w) (w1:w<(n:Int)):st.length<n:=by
 have:=nd_len (ks:=st++[w]) (n:=n) (nd_snoc h.nodup hn) (fun x hx=>by
  rcases List.mem_append.mp hx with q | q
  ·exact h.in_ x q
  ·rw [List.mem_singleton.mp q];exact ⟨w0,w1⟩)
 rw [List.length_append,List.length_singleton] at this
 omega
def spHasP:Sp:=fun vs H Q _=>∃ (a t:Addr) (st asked:List Int),vs=[.ref a,.ref t]∧H a=some (.tup (st.map V.int))∧H t=some (.tup (asked.map V.int))∧asked.length≤1000∧∀ H',Same H H'→Q (.bl (decide (∀ x ∈ asked,x ∈ st))) H'
structure TwoIn (H:Hp) (a b i:Addr) (one other:List (List Int)) (ins:List (Int × Int)):Prop where
 gA:NetAt H a one
 wf1:WFn one
 gB:NetAt H b other
 wf2:WFn other
 gI:InsAt H i ins
 ok:∃ fs,InsOk one.length other other.length ins fs
 o1:1≤one.length
 o2:one.length≤40
 o3:1≤other.length
 o4:other.length≤7
theorem wd_inv {net:List (List Int)} {st:List Int} {rooms:Int} {word:Str} {wk:Int} (hw:word = "do"∨word = "clear") (e:wd net st rooms (word,wk)=.non):(word = "do"→wk ∉ st∧(∀ y ∈ nd net wk,y ∈ st)∧(st.length:Int)<rooms)∧(word = "clear"→wk ∈ st):=by
 rcases hw with d | d
 ·subst d
  refine ⟨fun _=>?_,fun z=>absurd z.symm qAD⟩
  have e':wordDo ((net[wk.toNat]?).getD []) st rooms wk=.non:=by
   have:=e
   unfold wd wordOf at this
   rw [if_pos rfl] at this
   exact this
  unfold wordDo at e'
  split at e'
  ·cases e'
  rename_i hn
  split at e'
  ·rename_i hall
   split at e'
   ·cases e'
   ·exact ⟨hn,hall,by omega⟩
  ·cases e'
 ·subst d
  refine ⟨fun z=>absurd z qAD,fun _=>?_⟩
  have e':wordClear st wk=.non:=by
   have:=e
   unfold wd wordOf at this
   rw [if_neg (show ¬ Str.ofString "clear" = Str.ofString "do" from qAD)] at this
   exact this
  unfold wordClear at e'
  split at e'
  ·rename_i hin;exact hin
  ·cases e'
theorem qD0 {n:Nat} {st st':List Int} {word:Str} {wk:Int} (r:Rise (n:Int) st) (hw:word = "do"∨word = "clear") (w0:0≤wk) (w1:wk<(n:Int)) (hd:word = "do"→wk ∉ st) (b:Beh st st' word wk):Rise (n:Int) st':=by
 rcases hw with d | d
 ·obtain ⟨p1,s1⟩:=b.1 d
  refine ⟨qC5 s1 (p1.nodup_iff.mpr (nd_snoc r.nodup (hd d))),fun x hx=>?_⟩
  rcases List.mem_append.mp (p1.mem_iff.mp hx) with q | q
  ·exact r.in_ x q
  ·rw [List.mem_singleton.mp q];exact ⟨w0,w1⟩
 ·rw [b.2 d]
  exact ⟨r.up.filter _,fun x hx=>r.in_ x (List.mem_filter.mp hx).1⟩
theorem run_snoc {net:List (List Int)} {ms:List Mv} {st st':List Int} {word:Str} {wk:Int} (R:Run net (net.length:Int) [] ms st) (r:Rise (net.length:Int) st) (hw:word = "do"∨word = "clear") (w0:0≤wk) (w1:wk<(net.length:Int)) (hd:word = "do"→wk ∉ st∧∀ y ∈ nd net wk,y ∈ st) (hc:word = "clear"→wk ∈ st) (b:Beh st st' word wk):Run net (net.length:Int) [] (ms++[(word,wk)]) st':=by
 have r':=qD0 r hw w0 w1 (fun e=>(hd e).1) b
 rcases hw with d | d
 ·subst d
  obtain ⟨p1,s1⟩:=b.1 rfl
  obtain ⟨hn,hall⟩:=hd rfl
  exact R.app (.do_ hn hall (by have:=mem_lt_len r hn w0 w1;omega) p1 r'.up .nil)
 ·subst d
  rw [b.2 rfl]
  exact R.app (.clear (hc rfl) .nil)
def PlayIn2 (H:Hp) (a l:Addr) (net:List (List Int)) (ms:List Mv) (rooms:Int):Prop:=NetAt H a net∧WFn net∧net.length≤60∧PlanAt H l ms∧ms.length≤10000∧MvOk net ms∧0≤rooms∧rooms≤100000
def spPlayL2:Sp:=fun vs H Q _=>∃ (a l:Addr) (net:List (List Int)) (ms:List Mv) (rooms:Int),vs=[.ref a,.int rooms,.ref l]∧PlayIn2 H a l net ms rooms∧
 ∀ T ls sts v H',Same H H'→Play net rooms [] ms sts v→H' T=some (.tup [.ref ls,v])→H ls=none→StandsAt H' ls ([]::sts)→sts.length≤ms.length→Q (.ref T) H'
def spPlay2 (C:Addr):Sp:=fun vs H Q E=>∃ (a l:Addr) (net:List (List Int)) (ms:List Mv) (rooms:Int),vs=[.ref a,.int rooms,.ref l]∧PlayIn2 H a l net ms rooms∧
 (∀ ls sts H',Same H H'→Play net rooms [] ms sts .non→H ls=none→StandsAt H' ls ([]::sts)→Q (.ref ls) H')∧
 (∀ sts w0 dx H',Same H H'→Play net rooms [] ms sts (.str w0)→H' dx=some (XDic dx (xfs (.int (sts.length:Int)) (.str w0)))→E (.ref C) (some dx) H')
def spDoes2:Sp:=fun vs H Q _=>∃ (a l t:Addr) (net:List (List Int)) (ms:List Mv) (rooms:Int) (asked:List Int),vs=[.ref a,.int rooms,.ref l,.ref t]∧PlayIn2 H a l net ms rooms∧H t=some (.tup (asked.map V.int))∧asked.length≤1000∧
 (∀ sts H',Same H H'→Play net rooms [] ms sts .non→Q (.bl (decide (∀ x ∈ asked,x ∈ lastSt [] sts))) H')∧(∀ sts w0 H',Same H H'→Play net rooms [] ms sts (.str w0)→Q (.bl false) H')
def spNextW2:Sp:=fun vs H Q _=>∃ (d c:Addr) (t:Int) (ns:List Int) (a so:Addr) (net:List (List Int)) (st:List Int),vs=[.ref d,.ref a,.ref so]∧StAt H d c t ns∧t≤TB - 1000∧NetAt H a net∧WFn net∧1≤net.length∧net.length≤400∧H so=some (.tup (st.map V.int))∧
 ∀ wk t' ns' H',StAt H' d c t' ns'→t≤t'→t'≤t+1+net.length→Keep d c H H'→0≤wk→wk<(net.length:Int)→(∀ y ∈ nd net wk,y ∈ st)→Q (.int wk) H'
def spWalk2:Sp:=fun vs H Q _=>∃ (d c:Addr) (t:Int) (ns:List Int) (a:Addr) (net:List (List Int)) (rooms many:Int),vs=[.ref d,.ref a,.int rooms,.int many]∧StAt H d c t ns∧t≤TB - 200000∧NetAt H a net∧WFn net∧1≤net.length∧net.length≤60∧1≤rooms∧0≤many∧many≤250∧
 ∀ T l so ms st t' ns' H',StAt H' d c t' ns'→t≤t'→t'≤t+70 * many→Keep d c H H'→H' T=some (.tup [.ref l,.ref so])→H l=none→PlanAt H' l ms→MvOk net ms→(ms.length:Int)≤many→H' so=some (.tup (st.map V.int))→Rise (net.length:Int) st→Run net (net.length:Int) [] ms st→Q (.ref T) H'
def spSpare:Sp:=fun vs H Q _=>∃ (a t lw so:Addr) (net:List (List Int)) (asked ws st:List Int),vs=[.ref a,.ref t,.ref lw,.ref so]∧NetAt H a net∧WFn net∧net.length≤60∧H t=some (.tup (asked.map V.int))∧H lw=some (.lst (ws.map V.int))∧(∀ x ∈ ws,0≤x∧x<(net.length:Int))∧ws.length≤60∧H so=some (.tup (st.map V.int))∧st.length≤60∧
 ∀ (l:Addr) (fs:List Int) H',Same H H'→H l=none→H' l=some (.lst (fs.map V.int))→(∀ x ∈ fs,x ∈ st∧x ∉ asked∧∀ v ∈ ws,x ∉ nd net v)→fs.length≤st.length→Q (.ref l) H'
def spDoing:Sp:=fun vs H Q _=>∃ (d c:Addr) (t:Int) (ns:List Int) (a ta:Addr) (net:List (List Int)) (asked:List Int) (many:Int),vs=[.ref d,.ref a,.ref ta,.int many]∧StAt H d c t ns∧t≤TB - 400000∧NetAt H a net∧WFn net∧1≤net.length∧net.length≤60∧askedAt H ta net asked∧0≤many∧many≤250∧
 ∀ l ms st t' ns' H',StAt H' d c t' ns'→t≤t'→t'≤t+70 * many+200→Keep d c H H'→H l=none→PlanAt H' l ms→MvOk net ms→(ms.length:Int)≤many+2 * net.length→Rise (net.length:Int) st→Run net (net.length:Int) [] ms st→(∀ x ∈ asked,x ∈ st)→Q (.ref l) H'
def spMost2:Sp:=fun vs H Q _=>∃ (a l:Addr) (net:List (List Int)) (ms:List Mv) (st:List Int),vs=[.ref a,.ref l]∧PlayIn2 H a l net ms (net.length:Int)∧Run net (net.length:Int) [] ms st∧∀ H',Same H H'→Q (.int (peak 0 ms)) H'
theorem run_in {net:List (List Int)} {R R':Int} {s t:List Int} {ms:List Mv} (h:Run net R s ms t):s.Pairwise (·<·)→peak (s.length:Int) ms≤R'→Run net R' s ms t:=by
 induction h with
 | nil=>intro _ _;exact .nil
 | @do_ s s' t w ms h1 h2 h3 h4 h5 h6 ih=>
  intro up hp
  have ln:=h4.length_eq
  rw [List.length_append,List.length_singleton] at ln
  have pk:peak (s.length:Int) (("do",w)::ms)=max (s.length:Int) (peak (s'.length:Int) ms):=by
   show max _ (peak ((s.length:Int)+pm ("do",w)) ms)=_
   rw [pm_do,show ((s.length:Int)+1)=(s'.length:Int) by omega]
  rw [pk] at hp
  have pg:=peak_ge (s'.length:Int) ms
  exact .do_ h1 h2 (by omega) h4 h5 (ih h5 (by omega))
 | @clear s t w ms h1 h2 ih=>
  intro up hp
  have ln:=rm_len (qC1 up) h1
  have pk:peak (s.length:Int) (("clear",w)::ms)=max (s.length:Int) (peak ((s.filter fun x=>decide (x ≠ w)).length:Int) ms):=by
   show max _ (peak ((s.length:Int)+pm ("clear",w)) ms)=_
   rw [pm_clear,show ((s.length:Int) + -1)=((s.filter fun x=>decide (x ≠ w)).length:Int) by omega]
  rw [pk] at hp
  exact .clear h1 (ih (up.filter _) (by omega))
def OrdR (f:Int→Int) (a b:Int):Prop:=f b<f a∨(f a=f b∧a<b)
def mx (a b:Int):Int:=if b > a then b else a
inductive TRun (net:List (List Int)):List Int→Int→List Mv→List Int→Int→Prop
 | nil {S:List Int} {m:Int}:TRun net S m [] S m
 | do_ {S:List Int} {m:Int} {x:Int} {r:List Mv} {t:List Int} {n:Int}:x ∉ S→(∀ y ∈ nd net x,y ∈ S)→TRun net (S++[x]) (mx m ((S.length:Int)+1)) r t n→TRun net S m ((("do",x):Mv)::r) t n
 | clr {S:List Int} {m:Int} {x:Int} {r:List Mv} {t:List Int} {n:Int}:x ∈ S→TRun net (S.erase x) m r t n→TRun net S m ((("clear",x):Mv)::r) t n
def tk:Nat→List Int→List Int
 | _,[]=>[]
 | j,x::l=>(x+(j:Int))::tk (j+1) l
structure TIn (net:List (List Int)) (zs:List Int) (work:Int):Prop where
 wf:WFn net
 N:IsNeeded net [work] zs
 len:net.length≤400
 /-- a work's user is just one -/
 user:∀ {u v x:Int},u ∈ zs→v ∈ zs→x ∈ nd net u→x ∈ nd net v→u=v
section
variable {net:List (List Int)} {zs:List Int} {work:Int}
end
def kvsV (l:List Int) (g:Int→V):List (Key × V):=l.map fun z=>(Sum.inl z,g z)
theorem kvsV_get {g:Int→V} {y:Int}:∀ {l:List Int},y ∈ l→valV (kvsV l g) (Sum.inl y)=some (g y)
 | [],h=>by cases h
 | x::l,h=>by
  by_cases e:x=y
  ·subst e;exact qB3 rfl
  ·exact (qB4 (fun z=>e (Sum.inl.inj z))).trans (kvsV_get ((List.mem_cons.mp h).resolve_left fun z=>e z.symm))
theorem kvsV_none {g:Int→V} {y:Int}:∀ {l:List Int},y ∉ l→valV (kvsV l g) (Sum.inl y)=none
 | [],_=>rfl
 | x::l,h=>(qB4 (fun z=>h (by rw [← Sum.inl.inj z];exact List.mem_cons_self))).trans (kvsV_none fun z=>h (List.mem_cons_of_mem _ z))
theorem kvsV_put {l:List Int} {g:Int→V} {z:Int} {v:V} (h:z ∉ l):putK (kvsV l g) (Sum.inl z) v=kvsV (l++[z]) (fun y=>if y=z then v else g y):=by
 rw [putK_new _ (kvsV_none h)]
 unfold kvsV
 rw [List.map_append]
 congr 1
 ·exact List.map_congr_left fun y hy=>by
   show _=(Sum.inl y,if y=z then v else g y)
   rw [if_neg fun (e:y=z)=>h (e ▸ hy)]
 ·simp
section
variable {net:List (List Int)} {zs:List Int} {work:Int}
end
section
variable {dp p:Addr} {H Hc Hd:Hp}
theorem keep_dp {o:HO} (k:Keep dp dp Hc Hd):Keep dp dp Hc (upd Hd dp o):=fun b u e n1 n2=>by rw [qA8 n1];exact k b u e n1 n2
end
structure Pck (f:Int→Int) (ys pk lf:List Int):Prop where
 perm:(pk++lf).Perm ys
 up:lf.Pairwise (·<·)
 ord:pk.Pairwise (OrdR f)
 ahead:∀ a ∈ pk,∀ b ∈ lf,OrdR f a b
section
variable {net:List (List Int)} {p:List Mv}
abbrev dO (w:Int):Mv:=(Str.ofString "do",w)
abbrev cL (w:Int):Mv:=(Str.ofString "clear",w)
def bk1 (net:List (List Int)) (m:Mv) (r:List Mv × (Int→Bool)):List Mv × (Int→Bool):=
 if m.1=Str.ofString "do"∧r.2 m.2=true then (m::((nd net m.2).filter fun n=>!r.2 n).map cL++r.1,fun x=>(r.2 x && decide (x ≠ m.2)) || decide (x ∈ nd net m.2)) else r
def bk (net:List (List Int)) (A:Int→Bool):List Mv→List Mv × (Int→Bool)
 | []=>([],A)
 | m::p=>bk1 net m (bk net A p)
abbrev inA (asked:List Int):Int→Bool:=fun x=>decide (x ∈ asked)
def tdy (net:List (List Int)) (asked:List Int) (p:List Mv):List Mv:=(bk net (inA asked) p).1
def wn (net:List (List Int)) (asked:List Int) (p:List Mv) (b:Nat):Int→Bool:=(bk net (inA asked) (p.drop b)).2
theorem bk_drop {A:Int→Bool} {b:Nat} {m:Mv} (h:p[b]?=some m):bk net A (p.drop b)=bk1 net m (bk net A (p.drop (b+1))):=by
 obtain ⟨hb,e⟩:=List.getElem?_eq_some_iff.mp h
 rw [List.drop_eq_getElem_cons hb,e]
 rfl
theorem bk1_do {w:Int} {r:List Mv × (Int→Bool)} (h:r.2 w=true):bk1 net (dO w) r=(dO w::((nd net w).filter fun n=>!r.2 n).map cL++r.1,fun x=>(r.2 x && decide (x ≠ w)) || decide (x ∈ nd net w)):=if_pos ⟨rfl,h⟩
theorem bk1_no {w:Int} {r:List Mv × (Int→Bool)} (h:r.2 w=false):bk1 net (dO w) r=r:=if_neg fun z=>by rw [show (r.2 w=true) from z.2] at h;cases h
theorem bk1_clear {w:Int} {r:List Mv × (Int→Bool)}:bk1 net (cL w) r=r:=if_neg fun z=>qAD z.1
theorem bk_again {A:Int→Bool}:∀ p:List Mv,bk net A (bk net A p).1=bk net A p
 | []=>rfl
 | m::p=>by
  have ih:=bk_again (A:=A) p
  show bk net A (bk1 net m (bk net A p)).1=bk1 net m (bk net A p)
  obtain ⟨wd,w⟩:=m
  by_cases c:wd=Str.ofString "do"∧(bk net A p).2 w=true
  ·obtain ⟨rfl,c2⟩:=c
   rw [bk1_do c2]
   show bk1 net (dO w) (bk net A (((nd net w).filter fun n=>!(bk net A p).2 n).map cL++(bk net A p).1))=_
   have sk:∀ (l:List Int) (q:List Mv),bk net A (l.map cL++q)=bk net A q:=by
    intro l q
    induction l with
    | nil=>rfl
    | cons x l ihl=>
     show bk1 net (cL x) (bk net A (l.map cL++q))=_
     rw [bk1_clear,ihl]
   rw [sk,ih,bk1_do c2]
  ·have e:bk1 net (wd,w) (bk net A p)=bk net A p:=if_neg c
   rw [e]
   exact ih
def lat (p:List Mv):Nat→Int→Option Nat
 | 0,_=>none
 | b+1,n=>if p[b]?=some (dO n) then some b else lat p b n
theorem lat_is:∀ {b i:Nat} {n:Int},lat p b n=some i→i<b∧p[i]?=some (dO n)
 | 0,i,n,h=>by cases h
 | b+1,i,n,h=>by
  unfold lat at h
  by_cases c:p[b]?=some (dO n)
  ·rw [if_pos c] at h
   cases h
   exact ⟨by omega,c⟩
  ·rw [if_neg c] at h
   have:=lat_is h
   exact ⟨by omega,this.2⟩
theorem qD4 {v w:Int} (h:dO v=dO w):v=w:=congrArg Prod.snd h
def NdF (net:List (List Int)) (p:List Mv):Prop:=∀ (j:Nat) (w:Int),p[j]?=some (dO w)→∀ n ∈ nd net w,∃ i,lat p j n=some i
def Wt (net:List (List Int)) (asked:List Int) (p:List Mv) (b i:Nat):Prop:=(∃ n ∈ asked,lat p p.length n=some i)∨∃ k w,b≤k∧p[k]?=some (dO w)∧wn net asked p (k+1) w=true∧∃ n ∈ nd net w,lat p k n=some i
theorem wt_iff {asked:List Int} {i:Nat} {w:Int} (hi:p[i]?=some (dO w)):∀ (d b:Nat),b+d=p.length→i<b→(Wt net asked p b i ↔ lat p b w=some i∧wn net asked p b w=true)
 | 0,b,e,ib=>by
  have eb:b=p.length:=by omega
  subst eb
  have ew:wn net asked p p.length w=decide (w ∈ asked):=by unfold wn;rw [List.drop_length];rfl
  rw [ew,decide_eq_true_eq]
  constructor
  ·rintro (⟨n,hn,h⟩ | ⟨k,v,h1,h2,_⟩)
   ·have:=qD4 (Option.some.inj ((lat_is h).2.symm.trans hi))
    subst this
    exact ⟨h,hn⟩
   ·have:=(List.getElem?_eq_some_iff.mp h2).1
    omega
  ·rintro ⟨h1,h2⟩
   exact .inl ⟨w,h2,h1⟩
 | d+1,b,e,ib=>by
  have ih:=wt_iff (asked:=asked) hi d (b+1) (by omega) (by omega)
  have hb:b<p.length:=by omega
  have gb:=List.getElem?_eq_getElem hb
  have step:Wt net asked p b i ↔ Wt net asked p (b+1) i∨∃ v,p[b]?=some (dO v)∧wn net asked p (b+1) v=true∧∃ n ∈ nd net v,lat p b n=some i:=by
   constructor
   ·rintro (h | ⟨k,v,h1,h2,h3,h4⟩)
    ·exact .inl (.inl h)
    ·by_cases c:k=b
     ·subst c
      exact .inr ⟨v,h2,h3,h4⟩
     ·exact .inl (.inr ⟨k,v,by omega,h2,h3,h4⟩)
   ·rintro ((h | ⟨k,v,h1,h2,h3,h4⟩) | ⟨v,h2,h3,h4⟩)
    ·exact .inl h
    ·exact .inr ⟨k,v,by omega,h2,h3,h4⟩
    ·exact .inr ⟨b,v,Nat.le_refl _,h2,h3,h4⟩
  rw [step,ih]
  have ew:wn net asked p b=(bk1 net p[b] (bk net (inA asked) (p.drop (b+1)))).2:=by unfold wn;rw [bk_drop gb]
  have one:∀ {v n:Int},lat p b n=some i→n=w:=fun h=>qD4 (Option.some.inj ((lat_is h).2.symm.trans hi))
  generalize p[b]=m at gb ew
  obtain ⟨wd,v⟩:=m
  by_cases cd:wd=Str.ofString "do"
  ·subst cd
   have lt:lat p (b+1) w=if dO v=dO w then some b else lat p b w:=by
    show (if p[b]?=some (dO w) then some b else lat p b w)=_
    rw [gb]
    by_cases c:dO v=dO w
    ·rw [if_pos c,if_pos (congrArg some c)]
    ·rw [if_neg c,if_neg fun z=>c (Option.some.inj z)]
   rw [lt]
   by_cases ck:wn net asked p (b+1) v=true
   ·have ew':wn net asked p b w=((wn net asked p (b+1) w && decide (w ≠ v)) || decide (w ∈ nd net v)):=by
     rw [ew,show bk1 net (Str.ofString "do",v) (bk net (inA asked) (p.drop (b+1)))=_ from bk1_do ck]
     rfl
    rw [ew',Bool.or_eq_true,Bool.and_eq_true,decide_eq_true_eq,decide_eq_true_eq]
    constructor
    ·rintro (⟨h1,h2⟩ | ⟨v',h1,_,n,hn,h4⟩)
     ·by_cases c:dO v=dO w
      ·rw [if_pos c] at h1
       have:=Option.some.inj h1
       omega
      ·rw [if_neg c] at h1
       exact ⟨h1,.inl ⟨h2,fun z=>c (by rw [z])⟩⟩
     ·have ev:=qD4 (Option.some.inj (gb.symm.trans h1))
      subst ev
      have en:=one (v:=v) h4
      subst en
      exact ⟨h4,.inr hn⟩
    ·rintro ⟨h1,h2 | h2⟩
     ·left
      rw [if_neg fun z=>h2.2 (qD4 z).symm]
      exact ⟨h1,h2.1⟩
     ·exact .inr ⟨v,gb,ck,w,h2,h1⟩
   ·have ck':=Bool.eq_false_iff.mpr ck
    have ew':wn net asked p b w=wn net asked p (b+1) w:=by
     rw [ew,show bk1 net (Str.ofString "do",v) (bk net (inA asked) (p.drop (b+1)))=_ from bk1_no ck']
     rfl
    rw [ew']
    constructor
    ·rintro (⟨h1,h2⟩ | ⟨v',h1,h3,_⟩)
     ·by_cases c:dO v=dO w
      ·rw [if_pos c] at h1
       have:=Option.some.inj h1
       omega
      ·rw [if_neg c] at h1
       exact ⟨h1,h2⟩
     ·have ev:=qD4 (Option.some.inj (gb.symm.trans h1))
      subst ev
      exact absurd h3 ck
    ·rintro ⟨h1,h2⟩
     left
     rw [if_neg fun z=>ck (by rw [qD4 z];exact h2)]
     exact ⟨h1,h2⟩
  ·have lt:lat p (b+1) w=lat p b w:=by
    show (if p[b]?=some (dO w) then some b else lat p b w)=_
    rw [gb,if_neg fun z=>cd (congrArg Prod.fst (Option.some.inj z))]
   have ew':wn net asked p b w=wn net asked p (b+1) w:=by
    rw [ew,show bk1 net (wd,v) (bk net (inA asked) (p.drop (b+1)))=_ from if_neg fun z=>cd z.1]
    rfl
   rw [lt,ew']
   constructor
   ·rintro (h | ⟨v',h1,_⟩)
    ·exact h
    ·rw [gb] at h1
     exact absurd (congrArg Prod.fst (Option.some.inj h1)) cd
   ·exact .inl
end
section
variable {net:List (List Int)} {p:List Mv} {asked:List Int}
def dpB (p:List Mv) (j:Nat):Bool:=match p[j]? with | some m=>decide (m.1=Str.ofString "do") | none=>false
def wkO (p:List Mv) (j:Nat):Int:=match p[j]? with | some m=>m.2 | none=>0
def kB (net:List (List Int)) (asked:List Int) (p:List Mv) (j:Nat):Bool:=dpB p j && wn net asked p (j+1) (wkO p j)
def pc (net:List (List Int)) (asked:List Int) (p:List Mv) (j:Nat):List Mv:=dO (wkO p j)::((nd net (wkO p j)).filter fun n=>!wn net asked p (j+1) n).map cL
theorem dB_iff {j:Nat}:dpB p j=true ↔ p[j]?=some (dO (wkO p j)):=by
 unfold dpB wkO
 cases p[j]? with
 | none=>simp
 | some m=>
  obtain ⟨a,b⟩:=m
  constructor
  ·intro h
   have:a=Str.ofString "do":=of_decide_eq_true h
   rw [this]
  ·intro h
   exact decide_eq_true (congrArg Prod.fst (Option.some.inj h))
theorem wkO_of {j:Nat} {w:Int} (h:p[j]?=some (dO w)):wkO p j=w:=by unfold wkO;rw [h]
theorem dB_of {j:Nat} {w:Int} (h:p[j]?=some (dO w)):dpB p j=true:=dB_iff.mpr (by rw [wkO_of h];exact h)
theorem tdy_from:∀ (d b:Nat),b+d=p.length→(bk net (inA asked) (p.drop b)).1=(((List.range' b d).filter (kB net asked p)).map (pc net asked p)).flatten
 | 0,b,e=>by
  rw [List.drop_eq_nil_of_le (by omega)]
  rfl
 | d+1,b,e=>by
  have hb:b<p.length:=by omega
  have gb:=List.getElem?_eq_getElem hb
  rw [bk_drop gb,List.range'_succ,List.filter_cons]
  have ih:=tdy_from d (b+1) (by omega)
  by_cases c:kB net asked p b=true
  ·rw [if_pos c,List.map_cons,List.flatten_cons,← ih]
   unfold kB at c
   rw [Bool.and_eq_true] at c
   have gd:=dB_iff.mp c.1
   rw [gb] at gd
   rw [Option.some.inj gd,bk1_do (show (bk net (inA asked) (p.drop (b+1))).2 (wkO p b)=true from c.2)]
   rfl
  ·rw [if_neg c,← ih]
   have:bk1 net p[b] (bk net (inA asked) (p.drop (b+1)))=bk net (inA asked) (p.drop (b+1)):=if_neg fun z=>c (by
    have gd:p[b]?=some (dO p[b].2):=by rw [gb];exact congrArg some (Prod.ext z.1 rfl)
    unfold kB
    rw [Bool.and_eq_true]
    exact ⟨dB_of gd,by rw [wkO_of gd];exact z.2⟩)
   rw [this]
theorem tdy_pc:tdy net asked p=(((List.range p.length).filter (kB net asked p)).map (pc net asked p)).flatten:=by
 have:=tdy_from (net:=net) (asked:=asked) (p:=p) p.length 0 (by omega)
 rw [List.drop_zero,← List.range_eq_range'] at this
 exact this
def dps (p:List Mv):List Nat:=(List.range p.length).filter (dpB p)
theorem dps_kept:(dps p).filter (kB net asked p)=(List.range p.length).filter (kB net asked p):=by
 unfold dps
 rw [List.filter_filter]
 congr 1
 funext j
 unfold kB
 cases dpB p j <;> simp
theorem mem_dps {j:Nat}:j ∈ dps p ↔ p[j]?=some (dO (wkO p j)):=by
 unfold dps
 rw [List.mem_filter,List.mem_range,dB_iff]
 exact ⟨fun h=>h.2,fun h=>⟨(List.getElem?_eq_some_iff.mp h).1,h⟩⟩
theorem dps_up:(dps p).Pairwise (·<·):=List.pairwise_lt_range.filter _
theorem dps_take {j:Nat} (h:j<p.length):(List.range (j+1)).filter (dpB p)=(List.range j).filter (dpB p)++(if dpB p j then [j] else []):=by
 rw [List.range_succ,List.filter_append]
 congr 1
 cases e:dpB p j <;> simp [e]
theorem up_drop {ks:List Nat} (u:ks.Pairwise (·<·)) {t k:Nat} (h:ks[t]?=some k):ks.drop t=k::ks.drop (t+1)∧∀ j ∈ ks,j ∈ ks.drop (t+1) ↔ k<j:=by
 obtain ⟨ht,e⟩:=List.getElem?_eq_some_iff.mp h
 have e1:ks.drop t=k::ks.drop (t+1):=by rw [List.drop_eq_getElem_cons ht,e]
 refine ⟨e1,fun j hj=>⟨fun m=>?_,fun m=>?_⟩⟩
 ·have:=u.sublist (List.drop_sublist t ks)
  rw [e1] at this
  exact (List.pairwise_cons.mp this).1 j m
 ·obtain ⟨q,hq,eq⟩:=List.getElem_of_mem hj
  have:t<q:=by
   rcases Nat.lt_trichotomy q t with c | c | c
   ·have:=List.pairwise_iff_getElem.mp u q t hq ht c
    omega
   ·subst c;omega
   ·exact c
  rw [List.mem_iff_getElem]
  exact ⟨q - (t+1),by rw [List.length_drop];omega,by rw [List.getElem_drop,← eq];congr 1;omega⟩
theorem kept_iff {j:Nat} {w:Int} (h:p[j]?=some (dO w)):Wt net asked p (j+1) j ↔ wn net asked p (j+1) w=true:=by
 have hj:=(List.getElem?_eq_some_iff.mp h).1
 rw [wt_iff h (p.length - (j+1)) (j+1) (by omega) (by omega)]
 have:lat p (j+1) w=some j:=by unfold lat;exact if_pos h
 rw [this]
 exact ⟨fun q=>q.2,fun q=>⟨rfl,q⟩⟩
theorem Wt.of0 {i b:Nat} (h:Wt net asked p b i) (hb:i+1≤b∨True):Wt net asked p (i+1) i:=by
 rcases h with h | ⟨k,w,h1,h2,h3,n,hn,h4⟩
 ·exact .inl h
 ·exact .inr ⟨k,w,(lat_is h4).1,h2,h3,n,hn,h4⟩
theorem nd_few (wf:WFn net) (h:net.length≤400) (w:Int):(nd net w).length≤400:=by
 unfold nd
 cases e:net[w.toNat]? with
 | none=>simp
 | some z=>
  have:=(wf _ _ e).len
  have:=(List.getElem?_eq_some_iff.mp e).1
  simp
  omega
def usB (net:List (List Int)) (p:List Mv) (y k:Nat):Bool:=decide (∃ n ∈ nd net (wkO p k),lat p k n=some y)
def luF (net:List (List Int)) (p:List Mv) (L:List Nat) (y:Nat):Option Nat:=(L.filter (usB net p y)).getLast?
theorem luF_snoc {L:List Nat} {k y:Nat}:luF net p (L++[k]) y=if usB net p y k then some k else luF net p L y:=by
 unfold luF
 rw [List.filter_append]
 cases e:usB net p y k <;> simp [e]
def kps (net:List (List Int)) (asked:List Int) (p:List Mv):List Nat:=(dps p).filter (kB net asked p)
theorem mem_kps {k:Nat}:k ∈ kps net asked p ↔ p[k]?=some (dO (wkO p k))∧wn net asked p (k+1) (wkO p k)=true:=by
 unfold kps
 rw [List.mem_filter,mem_dps]
 unfold kB
 rw [Bool.and_eq_true,dB_iff]
 exact ⟨fun h=>⟨h.1,h.2.2⟩,fun h=>⟨h.1,h.1,h.2⟩⟩
theorem kps_up:(kps net asked p).Pairwise (·<·):=dps_up.filter _
theorem wt_kps {b i:Nat}:Wt net asked p b i ↔ (∃ n ∈ asked,lat p p.length n=some i)∨∃ k ∈ kps net asked p,b≤k∧usB net p i k=true:=by
 constructor
 ·rintro (h | ⟨k,w,h1,h2,h3,h4⟩)
  ·exact .inl h
  ·have:=wkO_of h2
   subst this
   exact .inr ⟨k,mem_kps.mpr ⟨h2,h3⟩,h1,decide_eq_true h4⟩
 ·rintro (h | ⟨k,h1,h2,h3⟩)
  ·exact .inl h
  ·exact .inr ⟨k,_,h2,(mem_kps.mp h1).1,(mem_kps.mp h1).2,of_decide_eq_true h3⟩
theorem wt_zero {i:Nat} {w:Int} (h:p[i]?=some (dO w)):Wt net asked p 0 i ↔ wn net asked p (i+1) w=true:=by
 rw [← kept_iff h]
 refine ⟨fun q=>q.of0 (.inr trivial),fun q=>?_⟩
 rcases q with q | ⟨k,v,_,q⟩
 ·exact .inl q
 ·exact .inr ⟨k,v,Nat.zero_le _,q⟩
theorem tid_cond (wf:WFn net) (mo:MvOk net p) {k i:Nat} {n:Int} (hk:k ∈ kps net asked p) (hn:n ∈ nd net (wkO p k)) (hi:lat p k n=some i) :
  (wn net asked p (k+1) n=false ↔ (¬ ∃ m ∈ asked,lat p p.length m=some i)∧luF net p (kps net asked p) i=some k)∧∃ k',luF net p (kps net asked p) i=some k':=by
 have gk:=(mem_kps.mp hk).1
 have hkl:=(List.getElem?_eq_some_iff.mp gk).1
 obtain ⟨i1,gi⟩:=lat_is hi
 have us:usB net p i k=true:=decide_eq_true ⟨n,hn,hi⟩
 have ne:n ≠ wkO p k:=fun e=>by
  have b:=(mo _ (List.mem_of_getElem? gk)).2
  dsimp only at b
  have hz:=List.getElem?_eq_getElem (show (wkO p k).toNat<net.length by omega)
  have:=(wf _ _ hz).in_ n (by rw [← qBM hz];exact hn)
  omega
 have lk:lat p (k+1) n=some i:=by
  show (if p[k]?=some (dO n) then some k else lat p k n)=some i
  rw [gk,if_neg fun z=>ne (qD4 (Option.some.inj z)).symm,hi]
 have wi:=wt_iff (net:=net) (asked:=asked) gi (p.length - (k+1)) (k+1) (by omega) (by omega)
 have w2:wn net asked p (k+1) n=true ↔ Wt net asked p (k+1) i:=by rw [wi,lk];exact ⟨fun q=>⟨rfl,q⟩,fun q=>q.2⟩
 have mem:k ∈ (kps net asked p).filter (usB net p i):=List.mem_filter.mpr ⟨hk,us⟩
 have up:=(kps_up (net:=net) (asked:=asked) (p:=p)).filter (usB net p i)
 obtain ⟨k',ek'⟩:∃ k',luF net p (kps net asked p) i=some k':=by
  unfold luF
  cases e:(kps net asked p).filter (usB net p i) with
  | nil=>rw [e] at mem;cases mem
  | cons x r=>exact ⟨_,List.getLast?_eq_some_getLast (by simp)⟩
 refine ⟨?_,k',ek'⟩
 have hk':k' ∈ (kps net asked p).filter (usB net p i):=List.mem_of_getLast? ek'
 have top:∀ j ∈ (kps net asked p).filter (usB net p i),j≤k':=by
  intro j hj
  unfold luF at ek'
  generalize (kps net asked p).filter (usB net p i)=L at up hj ek'
  obtain ⟨ys,rfl⟩:=List.getLast?_eq_some_iff.mp ek'
  rcases List.mem_append.mp hj with h | h
  ·exact Nat.le_of_lt ((List.pairwise_append.mp up).2.2 j h k' (by simp))
  ·rw [List.mem_singleton.mp h];exact Nat.le_refl _
 rw [← Bool.not_eq_true,w2,wt_kps,ek']
 constructor
 ·intro h
  refine ⟨fun z=>h (.inl z),?_⟩
  congr 1
  have:=top k mem
  rcases Nat.lt_or_ge k k' with c | c
  ·exact absurd (.inr ⟨k',(List.mem_filter.mp hk').1,c,(List.mem_filter.mp hk').2⟩) h
  ·omega
 ·rintro ⟨h1,h2⟩ (h | ⟨j,hj,h3,h4⟩)
  ·exact h1 h
  ·have:=top j (List.mem_filter.mpr ⟨hj,h4⟩)
   have:=Option.some.inj h2
   omega
theorem tdy_kps:tdy net asked p=((kps net asked p).map (pc net asked p)).flatten:=by
 rw [tdy_pc]
 unfold kps
 rw [dps_kept]
end
theorem kvs_at {l:List Nat} {g:Int→V} {i:Nat} {k:Key} {v:V} (h:(kvsV (l.map fun (j:Nat)=>(j:Int)) g)[i]?=some (k,v)):∃ j,l[i]?=some j∧k=Sum.inl (j:Int)∧v=g (j:Int):=by
 unfold kvsV at h
 rw [List.getElem?_map,List.getElem?_map] at h
 cases e:l[i]? with
 | none=>rw [e] at h;cases h
 | some j=>
  rw [e] at h
  have h:=Option.some.inj h
  exact ⟨j,rfl,(congrArg Prod.fst h).symm,(congrArg Prod.snd h).symm⟩
def ndI (net:List (List Int)) (p:List Mv) (j:Nat):List Int:=(nd net (wkO p j)).map fun n=>(((lat p j n).getD 0:Nat):Int)
def intL (l:List Nat):List Int:=l.map fun (j:Nat)=>(j:Int)
def NeedAt (H:Hp) (dn:Addr) (net:List (List Int)) (p:List Mv) (ad:Int→Addr):Prop:=∀ j ∈ dps p,H (ad (j:Int))=some (.lst ((ndI net p j).map V.int))
def LatAt (H:Hp) (dl:Addr) (p:List Mv) (b:Nat):Prop:=∃ kvs,H dl=some (.dK kvs)∧kvs.length≤b∧∀ n,valV kvs (Sum.inl n)=(lat p b n).map fun (i:Nat)=>V.int (i:Int)
def PlanIn (H:Hp) (a l:Addr) (net:List (List Int)) (p:List Mv):Prop:=NetAt H a net∧WFn net∧net.length≤400∧PlanAt H l p∧p.length≤1000∧MvOk net p∧NdF net p
def lastI (p:List Mv) (asked:List Int):List Int:=asked.map fun n=>(((lat p p.length n).getD 0:Nat):Int)
theorem mem_ndI {net:List (List Int)} {p:List Mv} {k y:Nat} (nf:NdF net p) (gk:p[k]?=some (dO (wkO p k))):((y:Nat):Int) ∈ ndI net p k ↔ usB net p y k=true:=by
 unfold ndI usB
 rw [List.mem_map,decide_eq_true_eq]
 constructor
 ·rintro ⟨n,hn,e⟩
  obtain ⟨j,ej⟩:=nf k _ gk n hn
  rw [ej,Option.getD_some] at e
  exact ⟨n,hn,by rw [ej];congr 1;omega⟩
 ·rintro ⟨n,hn,e⟩
  exact ⟨n,hn,by rw [e];rfl⟩
theorem mem_lastI {p:List Mv} {asked:List Int} {y:Nat} (h:∀ n ∈ asked,∃ i,lat p p.length n=some i):((y:Nat):Int) ∈ lastI p asked ↔ ∃ n ∈ asked,lat p p.length n=some y:=by
 unfold lastI
 rw [List.mem_map]
 constructor
 ·rintro ⟨n,hn,e⟩
  obtain ⟨j,ej⟩:=h n hn
  rw [ej,Option.getD_some] at e
  exact ⟨n,hn,by rw [ej];congr 1;omega⟩
 ·rintro ⟨n,hn,e⟩
  exact ⟨n,hn,by rw [e];rfl⟩
def spStaysOf:Sp:=fun vs H Q _=>∃ (a l:Addr) (net:List (List Int)) (p:List Mv),vs=[.ref a,.ref l]∧PlanIn H a l net p∧
 ∀ (T dn dl:Addr) (ad:Int→Addr) (H':Hp),Same H H'→H' T=some (.tup [.ref dn,.ref dl])→H dn=none→H' dn=some (.dK (kvsV (intL (dps p)) fun z=>.ref (ad z)))→NeedAt H' dn net p ad→LatAt H' dl p p.length→Q (.ref T) H'
def spStaysLeft:Sp:=fun vs H Q _=>∃ (dn ll:Addr) (net:List (List Int)) (p:List Mv) (asked:List Int) (ad:Int→Addr),vs=[.ref dn,.ref ll]∧H dn=some (.dK (kvsV (intL (dps p)) fun z=>.ref (ad z)))∧NeedAt H dn net p ad∧NdF net p∧p.length≤1000∧(∀ j,(ndI net p j).length≤400)∧asked.length≤400∧(∀ n ∈ asked,∃ i,lat p p.length n=some i)∧H ll=some (.lst ((lastI p asked).map V.int))∧
 ∀ (d:Addr) (kvs:List (Key × V)) (H':Hp),Same H H'→H d=none→H' d=some (.dK kvs)→(∀ i:Nat,(valV kvs (Sum.inl (i:Int))).isSome=true ↔ Wt net asked p 0 i)→Q (.ref d) H'
def spTidied:Sp:=fun vs H Q _=>∃ (a l t:Addr) (net:List (List Int)) (p:List Mv) (asked:List Int),vs=[.ref a,.ref l,.ref t]∧PlanIn H a l net p∧H t=some (.tup (asked.map V.int))∧asked.length≤400∧(∀ n ∈ asked,∃ i,lat p p.length n=some i)∧
 ∀ (l':Addr) (H':Hp),Same H H'→H l'=none→PlanAt H' l' (tdy net asked p)→Q (.ref l') H'
section
variable {net:List (List Int)} {p:List Mv} {asked:List Int} {R:Int}
def prs (p:List Mv) (b:Nat) (x:Int):Prop:=∃ i,lat p b x=some i∧∀ k,i<k→k<b→p[k]? ≠ some (cL x)
theorem dO_cL {x y:Int}:dO x ≠ cL y:=fun e=>qAD (congrArg Prod.fst e).symm
theorem prs_do {b:Nat} {w x:Int} (h:p[b]?=some (dO w)):prs p (b+1) x ↔ x=w∨prs p b x:=by
 have lt:lat p (b+1) x=if x=w then some b else lat p b x:=by
  show (if p[b]?=some (dO x) then some b else lat p b x)=_
  rw [h]
  by_cases c:x=w
  ·rw [if_pos c,if_pos (by rw [c])]
  ·rw [if_neg c,if_neg fun z=>c (qD4 (Option.some.inj z)).symm]
 by_cases c:x=w
 ·refine ⟨fun _=>.inl c,fun _=>⟨b,by rw [lt,if_pos c],fun k h1 h2=>by omega⟩⟩
 ·rw [if_neg c] at lt
  constructor
  ·rintro ⟨i,e,q⟩
   exact .inr ⟨i,by rw [← lt];exact e,fun k h1 h2=>q k h1 (by omega)⟩
  ·rintro (e | ⟨i,e,q⟩)
   ·exact absurd e c
   ·refine ⟨i,by rw [lt];exact e,fun k h1 h2=>?_⟩
    by_cases ck:k=b
    ·subst ck
     rw [h]
     exact fun z=>dO_cL (Option.some.inj z)
    ·exact q k h1 (by omega)
theorem prs_clear {b:Nat} {w x:Int} (h:p[b]?=some (cL w)):prs p (b+1) x ↔ prs p b x∧x ≠ w:=by
 have lt:lat p (b+1) x=lat p b x:=by
  show (if p[b]?=some (dO x) then some b else lat p b x)=_
  rw [h,if_neg fun z=>dO_cL (Option.some.inj z).symm]
 constructor
 ·rintro ⟨i,e,q⟩
  rw [lt] at e
  refine ⟨⟨i,e,fun k h1 h2=>q k h1 (by omega)⟩,fun z=>?_⟩
  subst z
  exact q b (lat_is e).1 (by omega) h
 ·rintro ⟨⟨i,e,q⟩,ne⟩
  refine ⟨i,by rw [lt];exact e,fun k h1 h2=>?_⟩
  by_cases ck:k=b
  ·subst ck
   rw [h]
   exact fun z=>ne (congrArg Prod.snd (Option.some.inj z)).symm
  ·exact q k h1 (by omega)
theorem run_prs {s q t:List Int} {ms:List Mv} (h:Run net R s ms t):∀ b,p.drop b=ms→b≤p.length→(∀ x,x ∈ s ↔ prs p b x)→(∀ x,x ∈ t ↔ prs p p.length x)∧∀ k w,b≤k→p[k]?=some (dO w)→¬ prs p k w∧∀ n ∈ nd net w,prs p k n:=by
 induction h with
 | @nil s=>
  intro b e hb S
  have:p.length≤b:=List.drop_eq_nil_iff.mp e
  have eb:b=p.length:=by omega
  subst eb
  exact ⟨S,fun k w hk g=>by have:=(List.getElem?_eq_some_iff.mp g).1;omega⟩
 | @do_ s s' t w ms h1 h2 h3 h4 h5 h6 ih=>
  intro b e hb S
  have hb':b<p.length:=by
   rcases Nat.lt_or_ge b p.length with c | c
   ·exact c
   ·rw [List.drop_eq_nil_of_le c] at e;cases e
  rw [List.drop_eq_getElem_cons hb'] at e
  injection e with e1 e2
  have g:p[b]?=some (dO w):=by rw [List.getElem?_eq_getElem hb',e1]
  obtain ⟨a1,a2⟩:=ih (b+1) e2 hb' fun x=>by
   rw [h4.mem_iff,List.mem_append,List.mem_singleton,S x,prs_do g]
   exact ⟨fun z=>z.elim .inr .inl,fun z=>z.elim .inr .inl⟩
  refine ⟨a1,fun k v hk gk=>?_⟩
  by_cases c:k=b
  ·subst c
   have:=qD4 (Option.some.inj (g.symm.trans gk))
   subst this
   exact ⟨fun z=>h1 ((S w).mpr z),fun n hn=>(S n).mp (h2 n hn)⟩
  ·exact a2 k v (by omega) gk
 | @clear s t w ms h1 h2 ih=>
  intro b e hb S
  have hb':b<p.length:=by
   rcases Nat.lt_or_ge b p.length with c | c
   ·exact c
   ·rw [List.drop_eq_nil_of_le c] at e;cases e
  rw [List.drop_eq_getElem_cons hb'] at e
  injection e with e1 e2
  have g:p[b]?=some (cL w):=by rw [List.getElem?_eq_getElem hb',e1]
  obtain ⟨a1,a2⟩:=ih (b+1) e2 hb' fun x=>by
   rw [List.mem_filter,decide_eq_true_eq,S x,prs_clear g]
  refine ⟨a1,fun k v hk gk=>?_⟩
  by_cases c:k=b
  ·subst c
   exact absurd (Option.some.inj (gk.symm.trans g)) dO_cL
  ·exact a2 k v (by omega) gk
structure RunP (net:List (List Int)) (p:List Mv) (t:List Int):Prop where
 end_:∀ x,x ∈ t ↔ prs p p.length x
 new:∀ k w,p[k]?=some (dO w)→¬ prs p k w
 nds:∀ k w,p[k]?=some (dO w)→∀ n ∈ nd net w,prs p k n
theorem runP {t:List Int} (h:Run net R [] p t):RunP net p t:=by
 obtain ⟨a,b⟩:=run_prs (q:=[]) h 0 (List.drop_zero) (Nat.zero_le _) fun x=>⟨fun z=>(nomatch z),fun ⟨i,e,_⟩=>by cases e⟩
 exact ⟨a,fun k w g=>(b k w (Nat.zero_le _) g).1,fun k w g=>(b k w (Nat.zero_le _) g).2⟩
theorem RunP.ndf {t:List Int} (h:RunP net p t):NdF net p:=fun j w g n hn=>by
 obtain ⟨i,e,_⟩:=h.nds j w g n hn
 exact ⟨i,e⟩
theorem RunP.last {t:List Int} (h:RunP net p t) (ha:∀ x ∈ asked,x ∈ t):∀ n ∈ asked,∃ i,lat p p.length n=some i:=fun n hn=>by
 obtain ⟨i,e,_⟩:=(h.end_ n).mp (ha n hn)
 exact ⟨i,e⟩
def enL (p:List Mv) (i:Nat) (w:Int):List Nat:=(List.range' (i+1) (p.length - (i+1))).filter fun k=>decide (p[k]?=some (cL w))
def eN (p:List Mv) (i:Nat) (w:Int):Nat:=(enL p i w++[p.length]).headD 0
theorem eN_is {i:Nat} {w:Int} (hi:i<p.length):i<eN p i w∧eN p i w≤p.length∧(∀ k,i<k→k<eN p i w→p[k]? ≠ some (cL w))∧(eN p i w<p.length→p[eN p i w]?=some (cL w)):=by
 unfold eN
 have mem:∀ k,k ∈ enL p i w ↔ i<k∧k<p.length∧p[k]?=some (cL w):=fun k=>by
  unfold enL
  rw [List.mem_filter,List.mem_range'_1,decide_eq_true_eq]
  exact ⟨fun h=>⟨by omega,by omega,h.2⟩,fun h=>⟨by omega,h.2.2⟩⟩
 have up:(enL p i w).Pairwise (·<·):=List.Pairwise.filter _ (by
  rw [List.pairwise_iff_getElem]
  intro a b ha hb hab
  rw [List.getElem_range',List.getElem_range']
  omega)
 generalize enL p i w=L at mem up
 cases L with
 | nil=>
  refine ⟨hi,Nat.le_refl _,fun k h1 h2 z=>?_,fun z=>absurd z (Nat.lt_irrefl _)⟩
  have:=(mem k).mpr ⟨h1,h2,z⟩
  cases this
 | cons x r=>
  obtain ⟨m1,m2,m3⟩:=(mem x).mp List.mem_cons_self
  refine ⟨m1,Nat.le_of_lt m2,fun k h1 h2 z=>?_,fun _=>m3⟩
  have h2':k<x:=h2
  rcases List.mem_cons.mp ((mem k).mpr ⟨h1,by omega,z⟩) with e | e
  ·omega
  ·have:=(List.pairwise_cons.mp up).1 k e
   omega
theorem lat_stay {t:List Int} (h:RunP net p t) {i:Nat} {w:Int} (g:p[i]?=some (dO w)):∀ d,i+1+d≤eN p i w→lat p (i+1+d) w=some i
 | 0,_=>if_pos g
 | d+1,hd=>by
  have ih:=lat_stay h g d (by omega)
  have hi:=(List.getElem?_eq_some_iff.mp g).1
  obtain ⟨_,e2,e3,_⟩:=eN_is (w:=w) hi
  show (if p[i+1+d]?=some (dO w) then some (i+1+d) else lat p (i+1+d) w)=some i
  rw [if_neg fun z=>h.new _ _ z ⟨i,ih,fun k h1 h2=>e3 k h1 (by omega)⟩]
  exact ih
def ndgL (net:List (List Int)) (p:List Mv) (i e:Nat) (w:Int):List Nat:=(List.range' (i+1) (e - (i+1))).filter fun k=>dpB p k && decide (w ∈ nd net (wkO p k))
theorem run_want {A:Int→Bool} {s t:List Int} {ms:List Mv} (h:Run net R s ms t):(∀ x,A x=true→x ∈ t)→∀ x,(bk net A ms).2 x=true→x ∈ s:=by
 induction h with
 | nil=>exact fun ha x hx=>ha x hx
 | @do_ s s' t w ms h1 h2 h3 h4 h5 h6 ih=>
  intro ha x hx
  have ih:=ih ha
  by_cases c:(bk net A ms).2 w=true
  ·have e:bk net A (("do",w)::ms)=_:=bk1_do (net:=net) (w:=w) (r:=bk net A ms) c
   rw [e] at hx
   dsimp only at hx
   rw [Bool.or_eq_true,Bool.and_eq_true,decide_eq_true_eq,decide_eq_true_eq] at hx
   rcases hx with ⟨q1,q2⟩ | q
   ·rcases List.mem_append.mp (h4.mem_iff.mp (ih x q1)) with z | z
    ·exact z
    ·exact absurd (List.mem_singleton.mp z) q2
   ·exact h2 x q
  ·have e:bk net A (("do",w)::ms)=bk net A ms:=bk1_no (net:=net) (w:=w) (r:=bk net A ms) (Bool.eq_false_iff.mpr c)
   rw [e] at hx
   rcases List.mem_append.mp (h4.mem_iff.mp (ih x hx)) with z | z
   ·exact z
   ·rw [List.mem_singleton.mp z] at hx
    exact absurd hx c
 | @clear s t w ms h1 h2 ih=>
  intro ha x hx
  have e:bk net A (("clear",w)::ms)=bk net A ms:=bk1_clear (net:=net) (w:=w) (r:=bk net A ms)
  rw [e] at hx
  exact (List.mem_filter.mp (ih ha x hx)).1
theorem run_cut {s u:List Int}:∀ {a b:List Mv},Run net R s (a++b) u→∃ t,Run net R s a t∧Run net R t b u
 | [],b,h=>⟨s,.nil,h⟩
 | m::a,b,h=>by
  rcases Run.inv h with ⟨e,s',h1,h2,h3,h4,h5,h6⟩ | ⟨e,h1,h2⟩
  ·obtain ⟨t,k1,k2⟩:=run_cut h6
   obtain ⟨m1,m2⟩:=m
   cases (show m1 = "do" from e)
   exact ⟨t,.do_ h1 h2 h3 h4 h5 k1,k2⟩
  ·obtain ⟨t,k1,k2⟩:=run_cut h2
   obtain ⟨m1,m2⟩:=m
   cases (show m1 = "clear" from e)
   exact ⟨t,.clear h1 k1,k2⟩
end
theorem at_last {xs:List V} {x:V} (h:xs.getLast?=some x):atI xs (-1)=some x:=by
 obtain ⟨ys,rfl⟩:=List.getLast?_eq_some_iff.mp h
 unfold atI ixN
 rw [List.length_append,List.length_singleton,if_neg (by decide),if_pos (by omega)]
 show (ys++[x])[((((ys.length+1:Nat):Int) + -1)).toNat]?=some x
 rw [show (((ys.length+1:Nat):Int) + -1).toNat=ys.length by omega,List.getElem?_append_right (Nat.le_refl _)]
 simp
def StayAt (H:Hp) (p:List Mv) (T:Addr) (i:Nat):Prop:=H T=some (.tup [.int (i:Int),.int (eN p i (wkO p i):Nat),.int (wkO p i)])
def spStays:Sp:=fun vs H Q _=>∃ (l:Addr) (p:List Mv),vs=[.ref l]∧PlanAt H l p∧p.length≤1000∧
 ∀ (l':Addr) (ts:List Addr) (H':Hp),Same H H'→H l'=none→H' l'=some (.lst (ts.map V.ref))→Paired (StayAt H' p) ts (dps p)→Q (.ref l') H'
def PlanW (H:Hp) (a l:Addr) (net:List (List Int)) (p:List Mv):Prop:=NetAt H a net∧WFn net∧net.length≤400∧PlanAt H l p∧p.length≤1000∧MvOk net p
def spNeeding:Sp:=fun vs H Q _=>∃ (a l T:Addr) (net:List (List Int)) (p:List Mv) (i e:Nat) (w:Int),vs=[.ref a,.ref l,.ref T]∧PlanW H a l net p∧H T=some (.tup [.int (i:Int),.int (e:Int),.int w])∧i<e∧e≤p.length∧
 ∀ (l':Addr) (H':Hp),Same H H'→H l'=none→H' l'=some (.lst ((intL (ndgL net p i e w)).map V.int))→Q (.ref l') H'
section
variable {net:List (List Int)} {p:List Mv} {asked:List Int} {R:Int}
def lstB (net:List (List Int)) (B:Int→Bool):List Int:=(rangeI 0 net.length).filter B
theorem lst_up (B:Int→Bool):(lstB net B).Pairwise (·<·):=(rangeI_up _ _).filter _
theorem mem_lst {B:Int→Bool} {x:Int}:x ∈ lstB net B ↔ (0≤x∧x<(net.length:Int))∧B x=true:=by
 unfold lstB
 rw [List.mem_filter,mem_rangeI]
theorem run_clrsT:∀ (cs s:List Int),cs.Nodup→(∀ x ∈ cs,x ∈ s)→Run net R s (cs.map cL) (s.filter fun x=>decide (x ∉ cs))
 | [],s,_,_=>by
  have:(s.filter fun x=>decide (x ∉ ([]:List Int)))=s:=by rw [List.filter_eq_self];intro x _;simp
  rw [this]
  exact .nil
 | c::cs,s,n,h=>by
  have n':=List.nodup_cons.mp n
  have ih:=run_clrsT cs (s.filter fun x=>decide (x ≠ c)) n'.2 fun x hx=>List.mem_filter.mpr ⟨h x (List.mem_cons_of_mem _ hx),decide_eq_true fun z=>n'.1 (z ▸ hx)⟩
  refine .clear (h c List.mem_cons_self) ?_
  have:(s.filter fun x=>decide (x ∉ c::cs))=(s.filter fun x=>decide (x ≠ c)).filter fun x=>decide (x ∉ cs):=by
   rw [List.filter_filter]
   refine List.filter_congr fun x _=>?_
   rw [Bool.eq_iff_iff,Bool.and_eq_true,decide_eq_true_eq,decide_eq_true_eq,decide_eq_true_eq,List.mem_cons]
   exact ⟨fun z=>⟨fun y=>z (.inr y),fun y=>z (.inl y)⟩,fun z y=>y.elim z.2 z.1⟩
  rw [this]
  exact ih
theorem tdy_run {A:Int→Bool} (wf:WFn net) {s t:List Int} {ms:List Mv} (h:Run net R s ms t):(∀ x,A x=true→x ∈ t)→(∀ x ∈ s,0≤x∧x<(net.length:Int))→MvOk net ms→s.Pairwise (·<·)→Run net R (lstB net (bk net A ms).2) (bk net A ms).1 (lstB net A)∧MvOk net (bk net A ms).1:=by
 induction h with
 | nil=>intro _ _ _ _;exact ⟨.nil,fun _ z=>nomatch z⟩
 | @do_ s s' t w ms h1 h2 h3 h4 h5 h6 ih=>
  intro ha hs mo up
  obtain ⟨_,w0,w1⟩:=mo ("do",w) List.mem_cons_self
  dsimp only at w0 w1
  obtain ⟨k1,k2⟩:=ih ha (fun x hx=>by
   rcases List.mem_append.mp (h4.mem_iff.mp hx) with z | z
   ·exact hs x z
   ·rw [List.mem_singleton.mp z];exact ⟨w0,w1⟩) (fun m hm=>mo m (List.mem_cons_of_mem _ hm)) h5
  have want:=run_want h6 (A:=A) ha
  by_cases c:(bk net A ms).2 w=true
  ·have e:bk net A (("do",w)::ms)=_:=bk1_do (net:=net) (w:=w) (r:=bk net A ms) c
   have wB:=run_want (Run.do_ h1 h2 h3 h4 h5 h6) (A:=A) ha
   rw [e] at wB ⊢
   dsimp only at wB ⊢
   generalize bk net A ms=r at c k1 k2 want wB
   have hz:=List.getElem?_eq_getElem (show w.toNat<net.length by omega)
   have nin:∀ x ∈ nd net w,0≤x∧x<w:=fun x hx=>by
    have:=(wf _ _ hz).in_ x (by rw [← qBM hz];exact hx)
    omega
   -- the stand behind
   have s2up:(lstB net fun x=>((r.2 x && decide (x ≠ w)) || decide (x ∈ nd net w)) || decide (x=w)).Pairwise (·<·):=lst_up _
   have pm:(lstB net fun x=>((r.2 x && decide (x ≠ w)) || decide (x ∈ nd net w)) || decide (x=w)).Perm ((lstB net fun x=>(r.2 x && decide (x ≠ w)) || decide (x ∈ nd net w))++[w]):=by
    refine (List.perm_ext_iff_of_nodup (qC1 s2up) ?_).mpr fun x=>?_
    ·rw [List.nodup_append]
     refine ⟨qC1 (lst_up _),by simp,fun a ha' b hb z=>?_⟩
     rw [List.mem_singleton.mp hb] at z
     subst z
     have:=(mem_lst.mp ha').2
     simp at this
     exact absurd (nin a this).2 (by omega)
    ·rw [List.mem_append,List.mem_singleton,mem_lst,mem_lst,Bool.or_eq_true,decide_eq_true_eq]
     constructor
     ·rintro ⟨b,z | z⟩
      ·exact .inl ⟨b,z⟩
      ·exact .inr z
     ·rintro (⟨b,z⟩ | z)
      ·exact ⟨b,.inl z⟩
      ·rw [z];exact ⟨⟨w0,w1⟩,.inr rfl⟩
   have cl:=run_clrsT (net:=net) (R:=R) ((nd net w).filter fun n=>!r.2 n) (lstB net fun x=>((r.2 x && decide (x ≠ w)) || decide (x ∈ nd net w)) || decide (x=w)) ((qC1 (nd_up wf w)).filter _) (fun x hx=>by
    obtain ⟨hx1,_⟩:=List.mem_filter.mp hx
    have:=nin x hx1
    exact mem_lst.mpr ⟨by omega,by rw [decide_eq_true hx1];simp⟩)
   have ee:((lstB net fun x=>((r.2 x && decide (x ≠ w)) || decide (x ∈ nd net w)) || decide (x=w)).filter fun x=>decide (x ∉ (nd net w).filter fun n=>!r.2 n))=lstB net r.2:=by
    refine up_eq (s2up.filter _) (lst_up _) fun x=>?_
    rw [List.mem_filter,mem_lst,mem_lst,decide_eq_true_eq,List.mem_filter,Bool.or_eq_true,Bool.or_eq_true,Bool.and_eq_true,decide_eq_true_eq,decide_eq_true_eq,decide_eq_true_eq,Bool.not_eq_true']
    constructor
    ·rintro ⟨⟨b,(⟨z,_⟩ | z) | z⟩,y⟩
     ·exact ⟨b,z⟩
     ·refine ⟨b,?_⟩
      cases e:r.2 x with
      | true=>rfl
      | false=>exact absurd ⟨z,e⟩ y
     ·rw [z];exact ⟨⟨w0,w1⟩,c⟩
    ·rintro ⟨b,z⟩
     refine ⟨⟨b,?_⟩,fun y=>by rw [z] at y;cases y.2⟩
     by_cases cw:x=w
     ·exact .inr cw
     ·exact .inl (.inl ⟨z,cw⟩)
   rw [ee] at cl
   refine ⟨.do_ (fun z=>?_) (fun y hy=>?_) ?_ pm s2up (cl.app k1),fun m hm=>?_⟩
   ·have:=(mem_lst.mp z).2
    simp at this
    exact absurd (nin w this).2 (by omega)
   ·have:=nin y hy
    exact mem_lst.mpr ⟨by omega,by rw [decide_eq_true hy];simp⟩
   ·have sub:(lstB net fun x=>(r.2 x && decide (x ≠ w)) || decide (x ∈ nd net w)).length≤s.length:=List.Nodup.length_le_of_subset (qC1 (lst_up _)) fun x hx=>wB x (mem_lst.mp hx).2
    omega
   ·rcases List.mem_cons.mp hm with z | z
    ·rw [z];exact ⟨.inl rfl,w0,w1⟩
    ·rcases List.mem_append.mp z with z | z
     ·obtain ⟨n,hn,rfl⟩:=List.mem_map.mp z
      have:=nin n (List.mem_filter.mp hn).1
      exact ⟨.inr rfl,this.1,by show n<_;omega⟩
     ·exact k2 m z
  ·have e:bk net A (("do",w)::ms)=bk net A ms:=bk1_no (net:=net) (w:=w) (r:=bk net A ms) (Bool.eq_false_iff.mpr c)
   rw [e]
   exact ⟨k1,k2⟩
 | @clear s t w ms h1 h2 ih=>
  intro ha hs mo up
  have e:bk net A (("clear",w)::ms)=bk net A ms:=bk1_clear (net:=net) (w:=w) (r:=bk net A ms)
  rw [e]
  exact ih ha (fun x hx=>hs x (List.mem_filter.mp hx).1) (fun m hm=>mo m (List.mem_cons_of_mem _ hm)) (up.filter _)
theorem dos_less {A:Int→Bool}:∀ ms:List Mv,(dosOf (bk net A ms).1).length≤(dosOf ms).length
 | []=>Nat.le_refl _
 | m::ms=>by
  have ih:=dos_less (A:=A) ms
  have e1:(dosOf (m::ms)).length=(if m.1=Str.ofString "do" then 1 else 0)+(dosOf ms).length:=by
   unfold dosOf
   rw [List.filterMap_cons]
   by_cases c:m.1=Str.ofString "do"
   ·rw [if_pos c,if_pos c];simp;omega
   ·rw [if_neg c,if_neg c];simp
  rw [e1]
  show (dosOf (bk1 net m (bk net A ms)).1).length≤_
  unfold bk1
  split
  ·rename_i c
   rw [if_pos c.1]
   dsimp only
   rw [List.cons_append,show m::(((nd net m.2).filter fun n=>!(bk net A ms).2 n).map cL++(bk net A ms).1)=[m]++(((nd net m.2).filter fun n=>!(bk net A ms).2 n).map cL++(bk net A ms).1) from rfl,dosOf_app,dosOf_app]
   have z1:∀ l:List Int,dosOf (l.map cL)=[]:=fun l=>by
    induction l with
    | nil=>rfl
    | cons x l ih=>
     unfold dosOf at ih ⊢
     rw [List.map_cons,List.filterMap_cons,if_neg (show ¬ (cL x).1=Str.ofString "do" from fun z=>qAD z)]
     exact ih
   rw [z1,List.length_append,List.length_append]
   have z2:(dosOf [m]).length≤1:=by unfold dosOf;exact Nat.le_trans (List.length_filterMap_le _ _) (Nat.le_refl _)
   simp
   omega
  ·omega
end
section
variable {net:List (List Int)} {p:List Mv} {asked:List Int} {R:Int}
theorem run_range {s t:List Int} {ms:List Mv} (h:Run net R s ms t):MvOk net ms→(∀ x ∈ s,0≤x∧x<(net.length:Int))→∀ x ∈ t,0≤x∧x<(net.length:Int):=by
 induction h with
 | nil=>intro _ h;exact h
 | @do_ s s1 t v ms h1 h2 h3 h4 h5 h6 ih=>
  intro mo hs
  obtain ⟨_,w0,w1⟩:=mo ("do",v) List.mem_cons_self
  exact ih (fun m hm=>mo m (List.mem_cons_of_mem _ hm)) fun x hx=>by
   rcases List.mem_append.mp (h4.mem_iff.mp hx) with z | z
   ·exact hs x z
   ·rw [List.mem_singleton.mp z];exact ⟨w0,w1⟩
 | @clear s t v ms h1 h2 ih=>
  intro mo hs
  exact ih (fun m hm=>mo m (List.mem_cons_of_mem _ hm)) fun x hx=>hs x (List.mem_filter.mp hx).1
end
section
variable {net:List (List Int)} {p:List Mv} {asked:List Int} {R:Int}
theorem peak_lenS:∀ (ms:List Mv) (n:Int),peak n ms≤n+(ms.length:Int)
 | [],n=>by show n≤n+0;omega
 | m::ms,n=>by
  have:=peak_lenS ms (n+pm m)
  have p:pm m≤1:=by unfold pm;split <;> omega
  show max n _≤_
  rw [List.length_cons]
  omega
structure Sho (net:List (List Int)) (R:Int) (asked:List Int) (n d:Nat) (q:List Mv):Prop where
 run:Run net R [] q asked
 ok:MvOk net q
 len:q.length≤n
 tid:tdy net asked q=q
 dos:(dosOf q).length≤d
theorem tdy_sho (wf:WFn net) {t:List Int} (h:Run net R [] p t) (mo:MvOk net p) (ha:∀ x ∈ asked,x ∈ t) (r:Rise (net.length:Int) asked):Sho net R asked (2 * (dosOf p).length) (dosOf p).length (tdy net asked p):=by
 have ha':∀ x,inA asked x=true→x ∈ t:=fun x hx=>ha x (of_decide_eq_true hx)
 obtain ⟨k1,k2⟩:=tdy_run (A:=inA asked) wf h ha' (fun x hx=>nomatch hx) mo .nil
 have want:=run_want h (A:=inA asked) ha'
 have e0:lstB net (bk net (inA asked) p).2=[]:=List.eq_nil_iff_forall_not_mem.mpr fun x hx=>by
  have:=want x (mem_lst.mp hx).2
  cases this
 have e1:lstB net (inA asked)=asked:=up_eq (lst_up _) r.up fun x=>by
  rw [mem_lst,decide_eq_true_eq]
  exact ⟨fun z=>z.2,fun z=>⟨r.in_ x z,z⟩⟩
 rw [e0,e1] at k1
 have l2:=dos_less (net:=net) (A:=inA asked) p
 refine ⟨k1,k2,?_,?_,l2⟩
 ·have l1:=Run.len k1 List.Pairwise.nil
  unfold tdy
  simp at l1
  omega
 ·unfold tdy
  rw [bk_again]
theorem dos_le (p:List Mv):(dosOf p).length≤p.length:=by unfold dosOf;exact List.length_filterMap_le _ _
end
def spSteps20:Sp:=fun vs H Q _=>∃ (l:Addr) (p:List Mv),vs=[.ref l]∧PlanAt H l p∧p.length≤1000∧∀ H',Same H H'→Q (.int ((dosOf p).length:Int)) H'
section
variable {net:List (List Int)} {p q:List Mv} {asked:List Int} {R:Int}
inductive Blk (net:List (List Int)):List Mv→Prop
 | nil:Blk net []
 | cons {v:Int} {xs:List Int} {q:List Mv}:xs.Pairwise (·<·)→(∀ x ∈ xs,x ∈ nd net v)→Blk net q→Blk net (dO v::(xs.map cL++q))
theorem blk_bk (wf:WFn net) {A:Int→Bool}:∀ p:List Mv,Blk net (bk net A p).1
 | []=>.nil
 | m::p=>by
  have ih:=blk_bk wf (A:=A) p
  show Blk net (bk1 net m (bk net A p)).1
  obtain ⟨wd,w⟩:=m
  by_cases c:wd=Str.ofString "do"∧(bk net A p).2 w=true
  ·obtain ⟨rfl,c2⟩:=c
   rw [bk1_do c2]
   exact .cons ((nd_up wf w).filter _) (fun x hx=>(List.mem_filter.mp hx).1) ih
  ·have e:bk1 net (wd,w) (bk net A p)=bk net A p:=if_neg c
   rw [e]
   exact ih
theorem blk_at (B:Blk net q):∀ {e:Nat} {w:Int},q[e]?=some (cL w)→∃ (k:Nat) (v:Int) (xs:List Int),k<e∧q[k]?=some (dO v)∧w ∈ nd net v∧xs.Pairwise (·<·)∧(q.drop (k+1)).take (e - k)=xs.map cL:=by
 induction B with
 | nil=>intro e w h;cases h
 | @cons v xs q up ins _ ih=>
  intro e w h
  cases e with
  | zero=>exact absurd (Option.some.inj h) dO_cL
  | succ e=>
   rw [List.getElem?_cons_succ] at h
   by_cases c:e<xs.length
   ·rw [List.getElem?_append_left (by rw [List.length_map];exact c),List.getElem?_map,List.getElem?_eq_getElem c] at h
    have ew:xs[e]=w:=congrArg Prod.snd (Option.some.inj h)
    refine ⟨0,v,xs.take (e+1),by omega,rfl,by rw [← ew];exact ins _ (List.getElem_mem c),up.sublist (List.take_sublist _ _),?_⟩
    show ((xs.map cL++q).take (e+1 - 0))=_
    rw [Nat.sub_zero,List.take_append_of_le_length (by rw [List.length_map];omega),List.map_take]
   ·rw [List.getElem?_append_right (by rw [List.length_map];omega),List.length_map] at h
    obtain ⟨k,u,ys,h1,h2,h3,h4,h5⟩:=ih h
    refine ⟨k+xs.length+1,u,ys,by omega,?_,h3,h4,?_⟩
    ·rw [List.getElem?_cons_succ,List.getElem?_append_right (by rw [List.length_map];omega),List.length_map,show k+xs.length - xs.length=k by omega]
     exact h2
    ·rw [← h5,List.drop_succ_cons,show k+xs.length+1=(xs.map cL).length+(k+1) by rw [List.length_map];omega,List.drop_append,List.drop_eq_nil_of_le (Nat.le_add_right _ _),List.nil_append,Nat.add_sub_cancel_left,show e+1 - ((xs.map cL).length+(k+1))=e - xs.length - k by rw [List.length_map];omega]
theorem slice_get {a n:Nat} {ys:List Int} (h:(q.drop a).take n=ys.map cL) {j:Nat} (h1:a≤j) (h2:j<a+n) (h3:j<q.length):∃ x,q[j]?=some (cL x):=by
 have e:((q.drop a).take n)[j - a]?=q[j]?:=by
  rw [List.getElem?_take_of_lt (by omega),List.getElem?_drop,show a+(j - a)=j by omega]
 rw [h,List.getElem?_map,List.getElem?_eq_getElem h3] at e
 cases ey:ys[j - a]? with
 | none=>rw [ey] at e;cases e
 | some x=>rw [ey] at e;exact ⟨x,by rw [List.getElem?_eq_getElem h3,← e];rfl⟩
theorem last_of:∀ {L:List Nat} {k:Nat},L.Pairwise (·<·)→k ∈ L→(∀ x ∈ L,x≤k)→L.getLast?=some k
 | [],_,_,h,_=>nomatch h
 | [x],k,_,h,_=>by rw [List.mem_singleton.mp h];rfl
 | x::y::l,k,up,h,le=>by
  rw [List.getLast?_cons_cons]
  have up':=List.pairwise_cons.mp up
  refine last_of up'.2 ?_ fun z hz=>le z (List.mem_cons_of_mem _ hz)
  rcases List.mem_cons.mp h with e | e
  ·have:=up'.1 y List.mem_cons_self
   have:=le y (List.mem_cons_of_mem _ List.mem_cons_self)
   omega
  ·exact e
theorem stay_clr (wf:WFn net) {t:List Int} (RP:RunP net q t) (mo:MvOk net q) (B:Blk net q) {i:Nat} {w:Int} (g:q[i]?=some (dO w)) (he:eN q i w<q.length):∃ (k:Nat) (xs:List Int),(ndgL net q i (eN q i w) w).getLast?=some k∧k<eN q i w∧xs.Pairwise (·<·)∧(q.drop (k+1)).take (eN q i w - k)=xs.map cL:=by
 obtain ⟨e1,e2,e3,e4⟩:=eN_is (w:=w) (List.getElem?_eq_some_iff.mp g).1
 obtain ⟨k,v,xs,h1,h2,h3,h4,h5⟩:=blk_at B (e4 he)
 have all:∀ j,k<j→j≤eN q i w→∃ x,q[j]?=some (cL x):=fun j a b=>slice_get h5 (by omega) (by omega) (by omega)
 have hik:i<k:=by
  rcases Nat.lt_trichotomy i k with c | c | c
  ·exact c
  ·subst c
   have ev:v=w:=congrArg Prod.snd (Option.some.inj (h2.symm.trans g))
   subst ev
   exact absurd (RP.nds i v g v h3) (RP.new i v g)
  ·obtain ⟨x,ex⟩:=all i c (by omega)
   exact absurd (Option.some.inj (g.symm.trans ex)) dO_cL
 refine ⟨k,xs,?_,h1,h4,h5⟩
 refine last_of ?_ ?_ fun x hx=>?_
 ·unfold ndgL
  refine List.Pairwise.filter _ ?_
  rw [List.pairwise_iff_getElem]
  intro a b ha hb hab
  rw [List.getElem_range',List.getElem_range']
  omega
 ·unfold ndgL
  rw [List.mem_filter,List.mem_range'_1,Bool.and_eq_true,decide_eq_true_eq]
  refine ⟨by omega,?_,?_⟩
  ·unfold dpB;rw [h2];exact decide_eq_true rfl
  ·unfold wkO;rw [h2];exact h3
 ·unfold ndgL at hx
  rw [List.mem_filter,List.mem_range'_1,Bool.and_eq_true] at hx
  refine Nat.not_lt.mp fun z=>?_
  obtain ⟨y,ey⟩:=all x z (by omega)
  have:=hx.2.1
  unfold dpB at this
  rw [ey] at this
  exact absurd (of_decide_eq_true this) qAD
theorem stay_end {t:List Int} (RP:RunP net q t) {i:Nat} {w:Int} (g:q[i]?=some (dO w)) (he:eN q i w=q.length):w ∈ t:=by
 obtain ⟨e1,e2,e3,e4⟩:=eN_is (w:=w) (List.getElem?_eq_some_iff.mp g).1
 have hi:=(List.getElem?_eq_some_iff.mp g).1
 have:=lat_stay RP g (q.length - (i+1)) (by omega)
 rw [show i+1+(q.length - (i+1))=q.length by omega] at this
 exact (RP.end_ w).mpr ⟨i,this,fun k a b=>e3 k a (by omega)⟩
def isD5 (m:Mv):Bool:=decide (m.1=Str.ofString "do")
theorem dos_sub {A:Int→Bool}:∀ p:List Mv,((bk net A p).1.filter isD5).Sublist p
 | []=>.slnil
 | m::p=>by
  have ih:=dos_sub (A:=A) p
  show ((bk1 net m (bk net A p)).1.filter isD5).Sublist (m::p)
  obtain ⟨wd,w⟩:=m
  by_cases c:wd=Str.ofString "do"∧(bk net A p).2 w=true
  ·obtain ⟨rfl,c2⟩:=c
   rw [bk1_do c2]
   have nc:∀ l:List Int,(l.map cL).filter isD5=[]:=fun l=>List.filter_eq_nil_iff.mpr fun m hm=>by
    obtain ⟨x,_,rfl⟩:=List.mem_map.mp hm
    exact fun z=>qAD (of_decide_eq_true z)
   show List.Sublist (List.filter isD5 (dO w::(_++_))) _
   rw [List.filter_cons,if_pos (show isD5 (dO w)=true from decide_eq_true rfl),List.filter_append,nc,List.nil_append]
   exact ih.cons₂ _
  ·have e:bk1 net (wd,w) (bk net A p)=bk net A p:=if_neg c
   rw [e]
   exact ih.cons _
theorem bk_app {A:Int→Bool} {b b':List Mv} (h:bk net A b=bk net A b'):∀ a:List Mv,bk net A (a++b)=bk net A (a++b')
 | []=>h
 | m::a=>by
  show bk1 net m (bk net A (a++b))=bk1 net m (bk net A (a++b'))
  rw [bk_app h a]
theorem run_rooms {R':Int} {s t:List Int} {ms:List Mv} (h:Run net R s ms t) (le:R≤R'):Run net R' s ms t:=by
 induction h with
 | nil=>exact .nil
 | do_ h1 h2 h3 h4 h5 _ ih=>exact .do_ h1 h2 (by omega) h4 h5 ih
 | clear h1 _ ih=>exact .clear h1 ih
theorem idle_in {a b:List Mv} {s t:List Int} {w:Int} (ha:Run net R [] a s) (hb:Run net R s b t) (as:∀ x ∈ asked,x ∈ t) (h1:w ∉ s) (h2:∀ y ∈ nd net w,y ∈ s) (h3:(s.length:Int)≤R):Run net (R+1) [] (a++(dO w::cL w::b)) t∧tdy net asked (a++(dO w::cL w::b))=tdy net asked (a++b):=by
 have up:=ha.up .nil
 constructor
 ·refine Run.app (run_rooms ha (by omega)) ?_
  obtain ⟨s',hp,hs⟩:∃ s':List Int,s'.Perm (s++[w])∧s'.Pairwise (·<·):=by
   refine ⟨(s++[w]).mergeSort,List.mergeSort_perm _ _,?_⟩
   have st:=List.pairwise_mergeSort (le:=fun (a b:Int)=>decide (a≤b)) (fun a b c h1 h2=>by have:=of_decide_eq_true h1;have:=of_decide_eq_true h2;exact decide_eq_true (by omega)) (fun a b=>by by_cases z:a≤b <;> simp [z];omega) (s++[w])
   refine qC5 (st.imp fun h=>of_decide_eq_true h) ((List.mergeSort_perm _ _).nodup_iff.mpr ?_)
   rw [List.nodup_append]
   exact ⟨qC1 up,by simp,fun x hx y hy z=>h1 (by rw [List.mem_singleton.mp hy] at z;exact z ▸ hx)⟩
  refine .do_ h1 h2 (by omega) hp hs (.clear (hp.mem_iff.mpr (by simp)) ?_)
  have e:(s'.filter fun x=>decide (x ≠ w))=s:=by
   refine up_eq (hs.filter _) up fun x=>?_
   rw [List.mem_filter,hp.mem_iff,List.mem_append,List.mem_singleton,decide_eq_true_eq]
   exact ⟨fun z=>z.1.resolve_right z.2,fun z=>⟨.inl z,fun y=>h1 (y ▸ z)⟩⟩
  rw [e]
  exact run_rooms hb (by omega)
 ·unfold tdy
  rw [bk_app (b':=b) ?_ a]
  show bk1 net (dO w) (bk1 net (cL w) (bk net (inA asked) b))=_
  rw [bk1_clear]
  refine bk1_no ?_
  cases e:(bk net (inA asked) b).2 w with
  | false=>rfl
  | true=>exact absurd (run_want hb (A:=inA asked) (fun x hx=>as x (of_decide_eq_true hx)) w e) h1
end
theorem qBU {α β:Type} {F:α→β→Prop}:∀ {l:List α} {m:List β} (a n:Nat),Paired F l m→Paired F ((l.drop a).take n) ((m.drop a).take n)
 | _,_,_,_,.nil=>by simp;exact .nil
 | _,_,a+1,n,.cons _ t=>qBU a n t
 | _,_,0,0,.cons _ _=>.nil
 | _,_,0,n+1,.cons h t=>by
  rw [List.drop_zero,List.drop_zero,List.take_succ_cons,List.take_succ_cons]
  have:=qBU 0 n t
  rw [List.drop_zero,List.drop_zero] at this
  exact .cons h this
theorem cut_nat {α:Type} {rs:List α} {a b:Nat} (h1:a<b) (h2:b<rs.length):cutI rs (some ((a:Int)+1)) (some ((b:Int)+1))=(rs.drop (a+1)).take (b - a):=by
 unfold cutI
 rw [show (a:Int)+1=((a+1:Nat):Int) by omega,show (b:Int)+1=((b+1:Nat):Int) by omega,HT.sIx_nat,HT.sIx_nat,Nat.min_eq_left (by omega),Nat.min_eq_left (by omega),show b+1 - (a+1)=b - a by omega]
theorem movs_clr {H:Hp}:∀ {rs:List Addr} {xs:List Int},MovL H rs (xs.map cL)→Paired (fun (r:Addr) (n:Int)=>H r=some (.tup [.str (Str.ofString "clear"),.int n])) rs xs
 | _,[],.nil=>.nil
 | _,_::_,.cons h t=>.cons h (movs_clr t)
theorem clr_movs {H:Hp}:∀ {rs:List Addr} {xs:List Int},Paired (fun (r:Addr) (n:Int)=>H r=some (.tup [.str (Str.ofString "clear"),.int n])) rs xs→MovL H rs (xs.map cL)
 | _,_,.nil=>.nil
 | _,_,.cons h t=>.cons h (clr_movs t)
theorem up_sorted {xs ys:List Int} (h:xs.Pairwise (·<·)) (pm:ys.Perm xs) (st:ys.Pairwise (·≤·)):ys=xs:=up_eq (qC5 st (pm.nodup_iff.mpr (qC1 h))) h fun x=>pm.mem_iff
theorem sub_drop {α:Type} {less more:List α} {at_ i:Nat} {x:α} (h:(less.drop at_).Sublist (more.drop i)) (hx:more[i]?=some x):(at_<less.length→less[at_]?=some x→(less.drop (at_+1)).Sublist (more.drop (i+1)))∧(¬ less[at_]?=some x→(less.drop at_).Sublist (more.drop (i+1))):=by
 obtain ⟨hi,ex⟩:=List.getElem?_eq_some_iff.mp hx
 rw [List.drop_eq_getElem_cons hi,ex] at h
 constructor
 ·intro ha hl
  obtain ⟨ha',el⟩:=List.getElem?_eq_some_iff.mp hl
  rw [List.drop_eq_getElem_cons ha',el] at h
  exact List.cons_sublist_cons.mp h
 ·intro hl
  by_cases ha:at_<less.length
  ·rw [List.drop_eq_getElem_cons ha] at h ⊢
   cases h with
   | cons _ h=>exact h
   | cons_cons _ h=>exact absurd (List.getElem?_eq_getElem ha) hl
  ·rw [List.drop_eq_nil_of_le (by omega)]
   exact List.nil_sublist _
def spCase6:Sp:=fun vs H Q _=>∃ (d c:Addr) (t:Int) (ns:List Int),vs=[.ref d]∧StAt H d c t ns∧t≤TB - 200000∧
 ∀ T a ta net asked t' ns' H',StAt H' d c t' ns'→t≤t'→t'≤t+10000→Keep d c H H'→H' T=some (.tup [.ref a,.ref ta])→NetAt H' a net→WFn net→1≤net.length→net.length≤40→H' ta=some (.tup (asked.map V.int))→Rise (net.length:Int) asked→1≤asked.length→asked.length≤4→Q (.ref T) H'
def spClrR:Sp:=fun vs H Q _=>∃ (a l t:Addr) (net:List (List Int)) (p:List Mv) (asked:List Int) (R:Int),vs=[.ref a,.ref l,.ref t]∧PlanW H a l net p∧net.length<60∧Run net R [] p asked∧Blk net p∧H t=some (.tup (asked.map V.int))∧∀ H',Same H H'→Q (.bl true) H'
def spSomeOf:Sp:=fun vs H Q _=>∃ (l l':Addr) (p q:List Mv),vs=[.ref l,.ref l']∧PlanAt H l p∧PlanAt H l' q∧q.length≤1000∧p.Sublist q∧∀ H',Same H H'→Q (.bl true) H'
def spIdleIn:Sp:=fun vs H Q _=>∃ (d c:Addr) (t:Int) (ns:List Int) (a l:Addr) (net:List (List Int)) (p:List Mv) (st:List Int),vs=[.ref d,.ref a,.ref l]∧StAt H d c t ns∧t≤TB - 1000∧NetAt H a net∧WFn net∧1≤net.length∧net.length≤40∧PlanAt H l p∧l ≠ d∧l ≠ c∧p.length≤900∧MvOk net p∧Run net (net.length:Int) [] p st∧
 ∀ l' q t' ns' H',StAt H' d c t' ns'→t≤t'→t'≤t+10→Keep d c H H'→PlanAt H' l' q→q.length≤1000→MvOk net q→(∃ R:Int,Run net R [] q st)→(∀ asked:List Int,(∀ x ∈ asked,x ∈ st)→tdy net asked q=tdy net asked p)→Q (.ref l') H'
section
variable {P:Program} {w:World} {K:PySem.W.Frag} {mg:Str→Option Value} {base:Heap} {f:Addr} {fd:FuncData}
theorem sc_Lbegin:FnScope ["_law_script","_law_cells"] ["_law_script"] (defScope s_Lbegin):=⟨rfl,rfl,rfl,by decide +kernel,rfl,by decide +kernel,by decide +kernel⟩
theorem ok_Lbegin (F:Fun K "_law_begin" "_law_begin" s_Lbegin f fd) (z_list:mg "list" = none):FnOk P w K mg base CX0 1 f fd ["_law_script"] (spBegin K):=by
 refine F.ok sc_Lbegin (fun vs H Q E h=>?_) (fun cdv A outer s H vs Q E hr h=>?_)
 ·obtain ⟨a,ns,rfl,_⟩:=h
  rfl
 obtain ⟨a,ns,rfl,hS,h63,q⟩:=h
 have hu:=hu_of hr
 have hu0:=hr.units0
 refine ⟨_,(qA4 (qAE (i:=1) sc_Lbegin.nd rfl (Or.inl rfl) (qAI call_list_of rfl z_list bt_list (qA0 (qC4 qCO (pv 0) qD5 (qCH qA7)) qA3))) (qA4 (ps_if (qAC (op_eq_nil hu0) (pv 1) (qB0 qA3) (nomark _)) (qA6 (qAE (i:=1) sc_Lbegin.nd rfl (Or.inl rfl) (qB0 (qA0 qA7 qA3)))) qAH) (qA6 (qAG (pe_disp (pps_cons qAL (pv 1) (pps_cons qAL qA7 pps_nil)) rfl rfl (by simp) (by decide)))))),?_⟩
 try dsimp only [Cx.nox,Cx.wish,cxOf]
 refine ⟨_,rfl,_,rfl,a,_,rfl,hS,fun p hp=>?_⟩
 rw [qC8]
 have hl:(cutI ns none (some 63)).length≤63:=Nat.le_trans (cutI_len _ _ _) h63
 refine ⟨p,_,rfl,.inl (SqL.of qA1),fun c hc=>?_⟩
 have s1:Same H (upd (upd H p (.lst ((cutI ns none (some 63)).map V.int))) c (.lst ((cutI ns none (some 63)).map V.int))):=(qA2 hp _).trans (qA2 hc _)
 refine ⟨_,rfl,(by show 0≤sizeLine;decide),fun e he=>?_⟩
 have hce:c ≠ e:=qA5 qA1 he
 refine ⟨c,e,_,rfl,rfl,SqL.of (by rw [qA8 hce];exact qA1),SqL.of qA1,_,rfl,?_⟩
 have s2:=s1.trans (qA2 he (.lst []))
 cases hm:cutI ns none (some 63) with
 | nil=>
  rw [hm] at s2 he
  refine iteT ?_
  refine ⟨(by show 1≤sizeLine;decide),fun c2 hc2=>?_⟩
  have s3:=s2.trans (qA2 hc2 (.lst [.int 7]))
  intro d hd
  refine ⟨_,rfl,?_⟩
  have s4:=s3.trans (qA2 hd (.dK []))
  refine ⟨qA1,[(Sum.inr (Str.ofString "cells"),.ref c2),(Sum.inr (Str.ofString "turn"),.int 0)],rfl,(by show 2≤15;decide),?_⟩
  have ncd:c2 ≠ d:=qA5 qA1 hd
  refine q d c2 [7] _ ⟨?_,?_,by decide,by decide,by decide⟩ ?_ ?_ ?_
  ·rw [qA1,merge2]
  ·rw [qA8 ncd,qA8 ncd];exact qA1
  ·rw [upd_upd];exact s3.trans (qA2 hd _)
  ·exact s3.free hd
  ·exact s2.free hc2
 | cons x r=>
  rw [hm] at s2 he hl
  refine iteF ?_
  intro d hd
  refine ⟨_,rfl,?_⟩
  refine ⟨qA1,[(Sum.inr (Str.ofString "cells"),.ref c),(Sum.inr (Str.ofString "turn"),.int 0)],rfl,(by show 2≤15;decide),?_⟩
  have gc:(upd (upd (upd H p (.lst ((x::r).map V.int))) c (.lst ((x::r).map V.int))) e (.lst [])) c=some (.lst ((x::r).map V.int)):=by rw [qA8 hce];exact qA1
  have ncd:c ≠ d:=qA5 gc hd
  refine q d c (x::r) _ ⟨?_,?_,by simp,hl,by decide⟩ ?_ ?_ ?_
  ·rw [qA1,merge2]
  ·rw [qA8 ncd,qA8 ncd];exact gc
  ·rw [upd_upd];exact s2.trans (qA2 hd _)
  ·exact s2.free hd
  ·rw [hm] at hc;exact (qA2 hp _).free hc
theorem sc_Ltake:FnScope ["_law_state","_law_many","_law_turn","_law_place","_law_cell","_law_digit","_law_mixed"] ["_law_state","_law_many"] (defScope s_Ltake):=⟨rfl,rfl,rfl,by decide +kernel,rfl,by decide +kernel,by decide +kernel⟩
theorem ok_Ltake (F:Fun K "_law_take" "_law_take" s_Ltake f fd) (z_len:mg "len" = none) (z_divmod:mg "divmod" = none):FnOk P w K mg base CX0 1 f fd ["_law_state","_law_many"] spTake:=by
 refine F.ok sc_Ltake (fun vs H Q E h=>?_) (fun cdv A outer s H vs Q E hr h=>?_)
 ·obtain ⟨d,c,t,ns,m,rfl,_⟩:=h
  rfl
 obtain ⟨d,c,t,ns,m,rfl,S,ht,hm1,hm2,q⟩:=h
 have hu:=hu_of hr
 refine ⟨_,(qA4 (qAE (i:=2) sc_Ltake.nd rfl (Or.inl rfl) (pe_op qBL (qC9 hu (pv 0) qAL (fun _ _=>rfl)) qA7)) (qA4 (qCP hu (pv 0) qAL (pv 2) rfl) (qA4 (qAE (i:=3) sc_Ltake.nd rfl (Or.inl rfl) (pe_op op_mod (pv 2) (qAB qAA rfl z_len qAP (qA0 (qC9 hu (pv 0) qAL (fun _ _=>rfl)) qA3)))) (qA4 (qAE (i:=4) sc_Ltake.nd rfl (Or.inl rfl) (pe_ix qAR (qC9 hu (pv 0) qAL (fun _ _=>rfl)) (pv 3) (fun _ _=>rfl))) (qA4 (ps_if (qAC op_ge (pv 4) (pe_op op_pow qA7 qA7) (nomark _)) (qA4 (ps_asg (qAB call_divmod rfl z_divmod bt_divmod (qA0 (pv 4) (qA0 (pv 1) qA3))) (qCJ rfl (qAK (pg_sub (qC9 hu (pv 0) qAL (fun _ _=>rfl)) (pv 3) set_list) (qAK (qA9 (i:=5) sc_Ltake.nd rfl (Or.inl rfl)) qBP)))) (qA6 (qAG (pv 5)))) qAH) (qA4 (qAE (i:=6) sc_Ltake.nd rfl (Or.inl rfl) (pe_op op_mod (pe_op op_mul (pe_op qBL (pe_op qBL (pe_op op_mod (pv 4) qA7) (pe_op op_mul (pe_op op_mul (pv 2) (pv 2)) qA7)) qA7) qA7) qA7)) (qA4 (qAE (i:=6) sc_Ltake.nd rfl (Or.inl rfl) (pe_op op_mod (pe_op op_mul (pv 6) (pv 6)) qA7)) (qA6 (qAG (pe_op op_mod (pe_op op_fdiv (pe_op op_mod (pe_op op_mul (pe_op qBL (pv 6) (pe_op op_mul (pv 2) qA7)) qA7) qA7) qA7) (pv 1))))))))))),?_⟩
 try dsimp only [Cx.nox,Cx.wish,cxOf]
 have hpos:=S.pos
 have hne:=S.ne
 have ht':t≤1000000000:=ht
 refine ⟨_,rfl,d,_,rfl,dg_turn S,_,_,rfl,rfl,?_⟩
 refine ⟨_,rfl,_,rfl,d,_,rfl,dp_turn S,?_⟩
 have S1:=S.turn (u:=t+1) (by omega)
 have k1:Keep d c H (upd H d (.dK [(Sum.inr (Str.ofString "cells"),.ref c),(Sum.inr (Str.ofString "turn"),.int (t+1))])):=fun b o e n _=>by rw [qA8 n];exact e
 generalize upd H d (.dK [(Sum.inr (Str.ofString "cells"),.ref c),(Sum.inr (Str.ofString "turn"),.int (t+1))])=H1 at S1 k1
 have hlen:(((ns.map V.int).length:Nat):Int)=(ns.length:Int):=by rw [List.length_map]
 refine ⟨_,rfl,_,rfl,d,_,rfl,dg_cells S1,c,_,rfl,.inl (SqL.of S1.list),_,_,rfl,rfl,(by rw [hlen];omega),?_⟩
 have p0:0≤(t+1) % (((ns.map V.int).length:Nat):Int):=Int.emod_nonneg _ (by rw [hlen];omega)
 have p1:(t+1) % (((ns.map V.int).length:Nat):Int)<(ns.length:Int):=by
  have:=Int.emod_lt_of_pos (t+1) (b:=(((ns.map V.int).length:Nat):Int)) (by rw [hlen];omega)
  rw [hlen] at this ⊢
  exact this
 dsimp only
 generalize (t+1) % (((ns.map V.int).length:Nat):Int)=pl at p0 p1
 obtain ⟨j,rfl⟩:∃ j:Nat,pl=(j:Int):=⟨pl.toNat,by omega⟩
 have hj:j<ns.length:=by omega
 have hat:atI (ns.map V.int) (j:Int)=some (.int ns[j]):=atI_nat (by rw [List.getElem?_map,List.getElem?_eq_getElem hj];rfl)
 refine ⟨_,rfl,d,_,rfl,dg_cells S1,_,rfl,c,_,_,_,rfl,rfl,SqL.of S1.list,hat,?_⟩
 generalize hx:ns[j]=x at hat ⊢
 refine ⟨_,rfl,_,_,rfl,rfl,⟨by decide,by decide,by decide⟩,_,_,rfl,rfl,_,rfl,?_⟩
 refine ite2 (fun _=>?_) (fun _=>?_)
 ·-- a great cell
  refine ⟨_,rfl,_,rfl,x,m,rfl,⟨by omega,by omega⟩,fun p hp=>?_⟩
  have S2:=S1.new hp (.tup [.int (x / m),.int (x % m)])
  have npc:p ≠ c:=(qA5 S1.list hp).symm
  refine ⟨p,_,rfl,SqT.of qA1,rfl,_,_,rfl,?_⟩
  refine ⟨_,rfl,d,_,rfl,dg_cells S2,_,rfl,c,_,_,j,rfl,rfl,S2.list,ixN_nat (by rw [List.length_map];exact hj),?_⟩
  refine ⟨_,_,rfl,rfl,?_⟩
  refine ⟨_,rfl,?_⟩
  have e1:(ns.map V.int).set j (.int (x / m))=(ns.set j (x / m)).map V.int:=by rw [List.map_set]
  rw [e1]
  refine q (x % m) (ns.set j (x / m)) _ (Int.emod_nonneg _ (by omega)) (Int.emod_lt_of_pos _ (by omega)) (S2.put (by rw [List.length_set])) ?_
  have k2:=k1.trans (qC7 (d:=d) (c:=c) hp (.tup [.int (x / m),.int (x % m)]))
  exact fun b o e n1 n2=>by rw [qA8 n2];exact k2 b o e n1 n2
 ·have b1:0≤x % 2147483629:=Int.emod_nonneg _ (by decide)
  have b2:x % 2147483629<2147483629:=Int.emod_lt_of_pos _ (by decide)
  refine ⟨_,rfl,_,_,rfl,rfl,(by show (0:Int)<2147483629;decide),_,rfl,_,rfl,_,_,rfl,rfl,.inl ⟨by omega,by omega⟩,_,_,rfl,rfl,.inr ⟨by decide,by decide⟩,_,_,rfl,rfl,_,_,rfl,rfl,_,_,rfl,rfl,.inr ⟨by decide,by decide⟩,_,_,rfl,rfl,(by show (0:Int)<2147483647;decide),?_⟩
  have c1:=Int.emod_nonneg ((x % 2147483629+(t+1) * (t+1) * 7919+11) * 48271) (b:=2147483647) (by decide)
  have c2:=Int.emod_lt_of_pos ((x % 2147483629+(t+1) * (t+1) * 7919+11) * 48271) (b:=2147483647) (by decide)
  dsimp only
  generalize ((x % 2147483629+(t+1) * (t+1) * 7919+11) * 48271) % 2147483647=y at c1 c2
  refine ⟨_,rfl,_,rfl,_,_,rfl,rfl,.inl ⟨by omega,by omega⟩,_,_,rfl,rfl,(by show (0:Int)<2147483587;decide),?_⟩
  dsimp only
  generalize y * y % 2147483587=z
  refine ⟨_,rfl,_,rfl,_,_,rfl,rfl,.inr ⟨by decide,by decide⟩,_,_,rfl,rfl,_,_,rfl,rfl,.inr ⟨by decide,by decide⟩,_,_,rfl,rfl,(by show (0:Int)<2147483629;decide),_,_,rfl,rfl,⟨by decide,by decide⟩,_,rfl,_,_,rfl,rfl,(by omega),?_⟩
  exact q _ ns _ (Int.emod_nonneg _ (by omega)) (Int.emod_lt_of_pos _ (by omega)) S1 k1
end
section
variable {P:Program} {w:World} {K:PySem.W.Frag} {mg:Str→Option Value} {base:Heap} {f:Addr} {fd:FuncData} {f_Ltake:Addr} {fd_Ltake:FuncData}
theorem sc_Lsome_needs:FnScope ["_law_state","_law_k","_law_found","_law_turn","_law_far"] ["_law_state","_law_k"] (defScope qBS):=⟨rfl,rfl,rfl,by decide +kernel,rfl,by decide +kernel,by decide +kernel⟩
theorem ok_Lsome_needs (F:Fun K "_law_some_needs" "_law_some_needs" qBS f fd) (C_Ltake:Clb P w K mg base 1 f_Ltake fd_Ltake "_law_take" ["_law_state","_law_many"] spTake)
  (z_range:mg "range" = none) (z_min:mg "min" = none) (z_tuple:mg "tuple" = none) (z_sorted:mg "sorted" = none) (z_set:mg "set" = none):FnOk P w K mg base CX0 2 f fd ["_law_state","_law_k"] spNeeds:=by
 refine F.ok sc_Lsome_needs (fun vs H Q E h=>?_) (fun cdv A outer s H vs Q E hr h=>?_)
 ·obtain ⟨d,c,t,ns,k,rfl,_⟩:=h
  rfl
 obtain ⟨d,c,t,ns,k,rfl,S,ht,hk0,hk1,q⟩:=h
 have ht':t≤1000000000 - 20:=ht
 have hr_Ltake:Room 1 _:=hr
 refine ⟨_,(qA4 (qAE (i:=2) sc_Lsome_needs.nd rfl (Or.inl rfl) (qB0 qA3)) (qA4 (qB5 PassesOwn.never rfl (qB6 rfl z_range (qA0 (pe_cl C_Ltake hr rfl (qA0 (pv 0) (qA0 qA7 qA3))) qA3)) (qA9 (i:=3) sc_Lsome_needs.nd rfl (Or.inl rfl)) (qA4 (qAE (i:=4) sc_Lsome_needs.nd rfl (Or.inl rfl) (pe_ix qAR (qB0 (qA0 (qAB (call_min2 rfl) rfl z_min bt_min (qA0 (pv 1) (qA0 qA7 qA3))) (qA0 (pv 1) qA3))) (pe_op op_fdiv (pe_cl C_Ltake hr rfl (qA0 (pv 0) (qA0 qA7 qA3))) qA7) (fun _ _=>rfl))) (qA6 (ps_if (qAC op_gt (pv 1) qA7 (nomark _)) (qA6 (qBW (pe_bm PySem.F.plainAttrs_list PySem.F.slot_list_append PySem.F.type_list_append qAZ (pv 2) (qA0 (pe_op qCK (pe_op qCK (pv 1) qA7) (pe_cl C_Ltake hr rfl (qA0 (pv 0) (qA0 (pv 4) qA3)))) qA3)))) qAH)))) (qA6 (qAG (qAI qAJ rfl z_tuple qAY (qA0 (qAB (qC0 rfl) rfl z_sorted qCE (qA0 (qAI (call_set rfl) rfl z_set bt_set (qA0 (pv 2) qA3)) qA3)) qA3)))))),?_⟩
 try dsimp only [Cx.nox,Cx.wish,cxOf]
 refine ⟨(by show 0≤sizeLine;decide),fun fo hfo=>?_⟩
 have S1:=S.new hfo (.lst [])
 have nd:fo ≠ d:=(qA5 S.dict hfo).symm
 have nc:fo ≠ c:=(qA5 S.list hfo).symm
 refine ⟨_,rfl,d,c,t,ns,5,rfl,S1,(by show t≤1000000000;omega),by decide,by decide,fun j ns1 H1 j0 j5 S2 K2=>?_⟩
 refine ⟨j,rfl,by omega,by omega,qCS (lo:=0) (n:=j.toNat) (fun i σ Hc=>∃ (t':Int) (ms fs:List Int) (v1 v2:Option V),σ=[some (.ref d),some (.int k),some (.ref fo),v1,v2]∧StAt Hc d c t' ms∧t≤t'∧t'≤t+1+2 * i∧Keep d c H Hc∧
  Hc fo=some (.lst (fs.map V.int))∧fs.length≤i∧∀ x ∈ fs,0≤x∧x<k)
  ⟨t+1,ns1,[],none,none,rfl,S2,by omega,by omega,(qC7 hfo _).trans K2,K2 _ _ qA1 nd nc,Nat.le_refl _,fun _ z=>nomatch z⟩ ?_ ?_⟩
 ·refine fun i σ Hc hi hI_1=>opq fun G_1 hG_1=>?_
  obtain ⟨t',ms,fs,v1,v2,rfl,S3,a1,a2,K3,h3,l3,m3⟩:=hI_1
  refine hG_1 ?_
  have hi5:(i:Int)<5:=by omega
  -- far
  refine ⟨_,rfl,k,4,rfl,_,rfl,(by show 2≤sizeLine;decide),fun p hp=>?_⟩
  have S4:=S3.new hp (.lst [.int (if (4:Int)<k then 4 else k),.int k])
  have npd:p ≠ d:=(qA5 S3.dict hp).symm
  have npc:p ≠ c:=(qA5 S3.list hp).symm
  refine ⟨_,rfl,d,c,t',ms,4,rfl,S4,(by show t'≤1000000000;omega),by decide,by decide,fun k2 ms2 H2 g0 g4 S5 K5=>?_⟩
  obtain ⟨far,hfar,ef⟩:=pick2 (a:=if (4:Int)<k then 4 else k) (b:=k) g0 g4
  have far1:far≤k:=by rcases ef with e | e <;> (subst e;first | omega | (split <;> omega))
  have far2:0<k→1≤far:=fun hk=>by rcases ef with e | e <;> (subst e;first | omega | (split <;> omega))
  refine ⟨_,_,rfl,rfl,⟨by decide,by decide⟩,p,_,_,_,rfl,rfl,SqL.of (K5 _ _ qA1 npd npc),hfar,?_⟩
  have K6:=K3.trans ((qC7 (d:=d) (c:=c) hp (.lst [.int (if (4:Int)<k then 4 else k),.int k])).trans K5)
  have h6:H2 fo=some (.lst (fs.map V.int)):=K5 _ _ (by rw [qA8 (qA5 h3 hp)];exact h3) nd nc
  refine ⟨_,rfl,_,_,rfl,rfl,_,rfl,?_⟩
  refine ite2 (fun ck=>?_) (fun ck=>?_)
  ·have hk:0<k:=of_decide_eq_true ck
   refine ⟨_,rfl,.inl ⟨rfl,_,SqL.of h6⟩,_,rfl,_,_,rfl,rfl,_,rfl,_,rfl,d,c,t'+1,ms2,far,rfl,S5,(by show t'+1≤1000000000;omega),far2 hk,by omega,fun k3 ms3 H3 c0 c1 S6 K7=>?_⟩
   have h7:=K7 _ _ h6 nd nc
   refine ⟨_,_,rfl,rfl,fo,_,_,rfl,rfl,h7,small1000 (by rw [List.length_map];omega),?_⟩
   have S8:StAt (upd H3 fo (.lst (fs.map V.int++[.int (k - 1 - k3)]))) d c (t'+1+1) ms3:=⟨by rw [qA8 (Ne.symm nd)];exact S6.dict,by rw [qA8 (Ne.symm nc)];exact S6.list,S6.ne,S6.len,S6.pos⟩
   have hH:H fo=none:=hfo
   refine ⟨t'+1+1,ms3,fs++[k - 1 - k3],_,_,rfl,S8,by omega,by omega,fun b o e n1 n2=>?_,?_,?_,fun x hx=>?_⟩
   ·rw [qA8 (qA5 e hH)];exact (K6.trans K7) b o e n1 n2
   ·rw [qA1,List.map_append];rfl
   ·rw [List.length_append,List.length_singleton];omega
   ·rcases List.mem_append.mp hx with hx | hx
    ·exact m3 x hx
    ·rw [List.mem_singleton.mp hx];omega
  ·exact ⟨t'+1,ms2,fs,_,_,rfl,S5,by omega,by omega,K6,h6,by omega,m3⟩
 ·refine fun σ Hc hI_2=>opq fun G_2 hG_2=>?_
  obtain ⟨t',ms,fs,v1,v2,rfl,S3,a1,a2,K3,h3,l3,m3⟩:=hI_2
  refine hG_2 ?_
  refine ⟨_,rfl,fo,fs,rfl,SqL.of h3,by omega,fun a ha=>?_⟩
  have sm1:=qA2 ha (SetO w a (dedI fs))
  refine ⟨a,dedI fs,rfl,.inr (.inr qA1),Nat.lt_of_le_of_lt (dedI_len fs) (by omega),fun b zs hb hp hs=>?_⟩
  have sm2:=sm1.trans (qA2 hb (.lst (zs.map V.int)))
  refine ⟨b,_,rfl,.inl ⟨SqL.of qA1,fun r hr'=>?_⟩⟩
  have sm3:=sm2.trans (qA2 hr' (.tup (zs.map V.int)))
  exact q r zs t' ms _ (S3.same sm3) (by omega) (by omega) (K3.trans (.of_same sm3)) qA1 (rise_set hp hs m3)
theorem sc_Ltree_net:FnScope ["_law_state","_law_many","_law_open_ones","_law_found","_law_k","_law_so_many"] ["_law_state","_law_many"] (defScope qCG):=⟨rfl,rfl,rfl,by decide +kernel,rfl,by decide +kernel,by decide +kernel⟩
theorem ok_Ltree_net (F:Fun K "_law_tree_net" "_law_tree_net" qCG f fd) (C_Ltake:Clb P w K mg base 1 f_Ltake fd_Ltake "_law_take" ["_law_state","_law_many"] spTake)
  (z_range:mg "range" = none) (z_min:mg "min" = none) (z_tuple:mg "tuple" = none) (z_len:mg "len" = none):FnOk P w K mg base CX0 2 f fd ["_law_state","_law_many"] spTree:=by
 refine F.ok sc_Ltree_net (fun vs H Q E h=>?_) (fun cdv A outer s H vs Q E hr h=>?_)
 ·obtain ⟨d,c,t,ns,m,rfl,_⟩:=h
  rfl
 obtain ⟨d,c,t,ns,m,rfl,S,ht,hm0,hm1,q⟩:=h
 have ht':t≤1000000000 - 1000:=ht
 have hr_Ltake:Room 1 _:=hr
 refine ⟨_,(qA4 (qAE (i:=2) sc_Ltree_net.nd rfl (Or.inl rfl) (qB0 qA3)) (qA4 (qAE (i:=3) sc_Ltree_net.nd rfl (Or.inl rfl) (qB0 qA3)) (qA4 (qB5 PassesOwn.never rfl (qB6 rfl z_range (qA0 (pe_op qCK (pv 1) qA7) qA3)) (qA9 (i:=4) sc_Ltree_net.nd rfl (Or.inl rfl)) (qA4 (qAE (i:=5) sc_Ltree_net.nd rfl (Or.inl rfl) (qAB (call_min2 rfl) rfl z_min bt_min (qA0 (qAB qAA rfl z_len qAP (qA0 (pv 2) qA3)) (qA0 (pe_ix qAR (qB0 (qA0 qA7 (qA0 qA7 (qA0 qA7 (qA0 qA7 (qA0 qA7 (qA0 qA7 qA3))))))) (pe_cl C_Ltake hr rfl (qA0 (pv 0) (qA0 qA7 qA3))) (fun _ _=>rfl)) qA3)))) (qA4 (qBW (pe_bm PySem.F.plainAttrs_list PySem.F.slot_list_append PySem.F.type_list_append qAZ (pv 3) (qA0 (qAI qAJ rfl z_tuple qAY (qA0 (qC4 qCO (pv 2) (qCH (pe_op qCK (qAB qAA rfl z_len qAP (qA0 (pv 2) qA3)) (pv 5))) qD5) qA3)) qA3))) (qA6 (qAE (i:=2) sc_Ltree_net.nd rfl (Or.inl rfl) (pe_op op_cat (qC4 qCO (pv 2) qD5 (qCH (pe_op qCK (qAB qAA rfl z_len qAP (qA0 (pv 2) qA3)) (pv 5)))) (qB0 (qA0 (pv 4) qA3)))))))) (qA6 (qAG (qAI qAJ rfl z_tuple qAY (qA0 (pe_op op_cat (pv 3) (qB0 (qA0 (qAI qAJ rfl z_tuple qAY (qA0 (pv 2) qA3)) qA3))) qA3))))))),?_⟩
 try dsimp only [Cx.nox,Cx.wish,cxOf]
 refine ⟨(by show 0≤sizeLine;decide),fun o0 ho0=>?_⟩
 have S1:=S.new ho0 (.lst [])
 refine ⟨(by show 0≤sizeLine;decide),fun fo hfo=>?_⟩
 have S2:=S1.new hfo (.lst [])
 have nd:fo ≠ d:=(qA5 S1.dict hfo).symm
 have nc:fo ≠ c:=(qA5 S1.list hfo).symm
 have no0:o0 ≠ fo:=qA5 qA1 hfo
 have hF:H fo=none:=(qA2 ho0 _).free hfo
 refine ⟨_,rfl,_,_,rfl,rfl,m - 1,rfl,by omega,by omega,qCS (lo:=0) (n:=(m - 1).toNat) (fun i σ Hc=>∃ (t':Int) (ms os:List Int) (o:Addr) (rs:List Addr) (net:List (List Int)) (v1 v2:Option V),σ=[some (.ref d),some (.int m),some (.ref o),some (.ref fo),v1,v2]∧StAt Hc d c t' ms∧t≤t'∧t'≤t+i∧Keep d c H Hc∧
  Hc o=some (.lst (os.map V.int))∧(o ≠ fo∧o ≠ c)∧Hc fo=some (.lst (rs.map V.ref))∧NetL Hc rs net∧net.length=i∧WFn net∧Rise (i:Int) os)
  ⟨t,ns,[],o0,[],[],none,none,rfl,S2,by omega,by omega,(qC7 ho0 _).trans (qC7 hfo _),by rw [qA8 no0];exact qA1,⟨no0,(qA5 S.list ho0).symm⟩,qA1,.nil,rfl,WFn.nil,Rise.nil⟩ ?_ ?_⟩
 ·refine fun i σ Hc hi hI_3=>opq fun G_3 hG_3=>?_
  obtain ⟨t',ms,os,o,rs,net,v1,v2,rfl,S3,a1,a2,K3,h3,⟨n3,n3c⟩,f3,N3,l3,w3,r3⟩:=hI_3
  refine hG_3 ?_
  have hlo:os.length≤i:=r3.len
  refine ⟨_,rfl,o,_,rfl,.inl (SqL.of h3),(by show 6≤sizeLine;decide),fun p hp=>?_⟩
  have S4:=S3.new hp (.lst [.int 0,.int 0,.int 1,.int 2,.int 2,.int 3])
  have npd:p ≠ d:=(qA5 S3.dict hp).symm
  have npc:p ≠ c:=(qA5 S3.list hp).symm
  refine ⟨_,rfl,d,c,t',ms,6,rfl,S4,(by show t'≤1000000000;omega),by decide,by decide,fun k2 ms2 H2 g0 g6 S5 K5=>?_⟩
  obtain ⟨v,hv,v0,v3⟩:=pick6 g0 g6
  refine ⟨p,_,_,_,rfl,rfl,SqL.of (K5 _ _ qA1 npd npc),hv,?_⟩
  have sm:Same Hc (upd Hc p (.lst [.int 0,.int 0,.int 1,.int 2,.int 2,.int 3])):=qA2 hp _
  have K6:=(Keep.of_same (d:=d) (c:=c) sm).trans K5
  have nod:o ≠ d:=ne_of h3 S3.dict (by intro z;cases z)
  have h6:H2 o=some (.lst (os.map V.int)):=K6 _ _ h3 nod n3c
  have f6:H2 fo=some (.lst (rs.map V.ref)):=K6 _ _ f3 nd nc
  have N6:NetL H2 rs net:=N3.keep (fun r zs e=>S3.tup e) K6
  refine ⟨_,_,rfl,?_⟩
  dsimp only
  have so0:0≤(if v<(((os.map V.int).length:Nat):Int) then v else (((os.map V.int).length:Nat):Int)):=by split <;> omega
  have so1:(if v<(((os.map V.int).length:Nat):Int) then v else (((os.map V.int).length:Nat):Int))≤(os.length:Int):=by rw [List.length_map];split <;> omega
  generalize (if v<(((os.map V.int).length:Nat):Int) then v else (((os.map V.int).length:Nat):Int))=so at so0 so1
  obtain ⟨kk,ek⟩:∃ kk:Nat,(os.length:Int) - so=(kk:Int):=⟨((os.length:Int) - so).toNat,by omega⟩
  have ek':(((os.map V.int).length:Nat):Int) - so=(kk:Int):=by rw [List.length_map];exact ek
  have hkk:kk≤os.length:=by omega
  -- found.append(tuple(open_ones[len(open_ones) - so_many:]))
  refine ⟨_,rfl,.inl ⟨rfl,_,SqL.of f6⟩,_,rfl,_,rfl,o,_,rfl,.inl (SqL.of h6),_,rfl,_,_,rfl,rfl,_,rfl,o,_,rfl,SqL.of h6,fun p1 hp1=>?_⟩
  refine ⟨p1,_,rfl,.inl ⟨SqL.of qA1,fun r hr1=>?_⟩⟩
  rw [ek',qC8,cutI_from _ _ hkk] at hr1 ⊢
  have sm1:=(qA2 hp1 (.lst ((os.drop kk).map V.int))).trans (qA2 hr1 (.tup ((os.drop kk).map V.int)))
  have f7:=sm1 _ _ f6
  have h7:=sm1 _ _ h6
  have N7:NetL _ (rs++[r]) (net++[os.drop kk]):=qBD (N6.same fun r zs e=>sm1 _ _ e) (show (upd (upd H2 p1 (.lst ((os.drop kk).map V.int))) r (.tup ((os.drop kk).map V.int))) r=some (.tup ((os.drop kk).map V.int)) from qA1)
  have S7:=S5.same sm1
  have K7:=K6.trans (.of_same sm1)
  generalize (upd (upd H2 p1 (.lst ((os.drop kk).map V.int))) r (.tup ((os.drop kk).map V.int)))=H7 at f7 h7 N7 S7 K7 ⊢
  refine ⟨fo,_,_,rfl,rfl,f7,small1000 (by rw [List.length_map,NetAt.len N3];omega),?_⟩
  have e8:rs.map V.ref++[V.ref r]=(rs++[r]).map V.ref:=by rw [List.map_append];rfl
  rw [e8]
  have S8:StAt (upd H7 fo (.lst ((rs++[r]).map V.ref))) d c (t'+1) ms2:=⟨by rw [qA8 (Ne.symm nd)];exact S7.dict,by rw [qA8 (Ne.symm nc)];exact S7.list,S7.ne,S7.len,S7.pos⟩
  have h8:(upd H7 fo (.lst ((rs++[r]).map V.ref))) o=some (.lst (os.map V.int)):=by rw [qA8 n3];exact h7
  have N8:NetL (upd H7 fo (.lst ((rs++[r]).map V.ref))) (rs++[r]) (net++[os.drop kk]):=N7.same fun r' zs e=>by rw [qA8 (ne_of e f7 (by intro z;cases z))];exact e
  have K8:Keep d c H (upd H7 fo (.lst ((rs++[r]).map V.ref))):=fun b u e n1 n2=>by rw [qA8 (qA5 e hF)];exact (K3.trans K7) b u e n1 n2
  have f8:(upd H7 fo (.lst ((rs++[r]).map V.ref))) fo=some (.lst ((rs++[r]).map V.ref)):=qA1
  generalize upd H7 fo (.lst ((rs++[r]).map V.ref))=H8 at S8 h8 N8 K8 f8 ⊢
  -- open_ones=open_ones[:len(open_ones) - so_many]+[k]
  refine ⟨_,rfl,_,rfl,o,_,rfl,.inl (SqL.of h8),_,rfl,_,_,rfl,rfl,_,rfl,o,_,rfl,SqL.of h8,fun p2 hp2=>?_⟩
  rw [ek',qC8,cutI_to]
  refine ⟨_,rfl,(by show 1≤sizeLine;decide),fun p3 hp3=>?_⟩
  have n23:p2 ≠ p3:=qA5 qA1 hp3
  refine ⟨p2,p3,_,_,rfl,rfl,by rw [qA8 n23];exact qA1,qA1,Nat.le_of_lt (small1000 (by rw [List.length_map,List.length_take,List.length_singleton];omega)),fun p4 hp4=>?_⟩
  have sm2:=((qA2 hp2 (.lst ((os.take kk).map V.int))).trans (qA2 hp3 (.lst [.int (0+(i:Int))]))).trans (qA2 hp4 (.lst ((os.take kk).map V.int++[.int (0+(i:Int))])))
  have e9:(os.take kk).map V.int++[V.int (0+(i:Int))]=(os.take kk++[(i:Int)]).map V.int:=by rw [List.map_append,Int.zero_add];rfl
  have nf4:p4 ≠ fo:=(qA5 ((qA2 hp3 _) _ _ ((qA2 hp2 _) _ _ f8)) hp4).symm
  have nc4:p4 ≠ c:=(qA5 ((qA2 hp3 _) _ _ ((qA2 hp2 _) _ _ S8.list)) hp4).symm
  refine ⟨t'+1,ms2,os.take kk++[(i:Int)],p4,rs++[r],net++[os.drop kk],_,_,rfl,S8.same sm2,by omega,by omega,K8.trans (.of_same sm2),by rw [← e9];exact qA1,⟨nf4,nc4⟩,sm2 _ _ f8,N8.same fun r' zs e=>sm2 _ _ e,by rw [List.length_append,List.length_singleton,l3],w3.snoc ?_,?_⟩
  ·rw [l3];exact r3.sub (List.drop_sublist _ _)
  ·have:=(r3.sub (List.take_sublist kk os)).snoc (by omega)
   rw [show ((i+1:Nat):Int)=(i:Int)+1 by omega]
   exact this
 ·refine fun σ Hc hI_4=>opq fun G_4 hG_4=>?_
  obtain ⟨t',ms,os,o,rs,net,v1,v2,rfl,S3,a1,a2,K3,h3,⟨n3,n3c⟩,f3,N3,l3,w3,r3⟩:=hI_4
  refine hG_4 ?_
  refine ⟨_,rfl,_,rfl,o,_,rfl,.inl ⟨SqL.of h3,fun r hr1=>?_⟩⟩
  refine ⟨(by show 1≤sizeLine;decide),fun p hp=>?_⟩
  have sm1:=(qA2 hr1 (.tup (os.map V.int))).trans (qA2 hp (.lst [.ref r]))
  refine ⟨fo,p,_,_,rfl,rfl,sm1 _ _ f3,qA1,Nat.le_of_lt (small1000 (by rw [List.length_map,NetAt.len N3,List.length_singleton];omega)),fun p2 hp2=>?_⟩
  refine ⟨p2,_,rfl,.inl ⟨SqL.of qA1,fun a ha=>?_⟩⟩
  have sm2:=(sm1.trans (qA2 hp2 (.lst (rs.map V.ref++[.ref r])))).trans (qA2 ha (.tup (rs.map V.ref++[.ref r])))
  have gr:=(qA2 ha (.tup (rs.map V.ref++[.ref r]))) _ _ ((qA2 hp2 (.lst (rs.map V.ref++[.ref r]))) _ _ ((qA2 hp (.lst [.ref r])) r _ (qA1 (H:=Hc) (o:=.tup (os.map V.int)))))
  have e8:rs.map V.ref++[V.ref r]=(rs++[r]).map V.ref:=by rw [List.map_append];rfl
  refine q a (net++[os]) t' ms _ (S3.same sm2) (by omega) (by omega) (K3.trans (.of_same sm2)) ⟨rs++[r],by rw [← e8];exact qA1,qBD (N3.same fun r' zs e=>sm2 _ _ e) gr⟩ (w3.snoc (by rw [l3];exact r3)) ?_
  rw [List.length_append,List.length_singleton,l3]
  omega
end
section
variable {P:Program} {w:World} {K:PySem.W.Frag} {mg:Str→Option Value} {base:Heap} {f:Addr} {fd:FuncData} {f_Ltake:Addr} {fd_Ltake:FuncData} {f_Lsome_needs:Addr} {fd_Lsome_needs:FuncData} {f_Ltree_net:Addr} {fd_Ltree_net:FuncData}
theorem sc_Lnet:FnScope ["_law_state","_law_many","_law_way","_law_wide","_law_some","_law_half"] ["_law_state","_law_many"] (defScope s_Lnet):=⟨rfl,rfl,rfl,by decide +kernel,rfl,by decide +kernel,by decide +kernel⟩
theorem ok_Lnet (F:Fun K "_law_net" "_law_net" s_Lnet f fd) (C_Ltake:Clb P w K mg base 1 f_Ltake fd_Ltake "_law_take" ["_law_state","_law_many"] spTake)
  (C_Lsome_needs:Clb P w K mg base 2 f_Lsome_needs fd_Lsome_needs "_law_some_needs" ["_law_state","_law_k"] spNeeds)
  (C_Ltree_net:Clb P w K mg base 2 f_Ltree_net fd_Ltree_net "_law_tree_net" ["_law_state","_law_many"] spTree)
  (z_range:mg "range" = none) (z_max:mg "max" = none) (z_int:mg "int" = none) (z_enumerate:mg "enumerate" = none) (z_tuple:mg "tuple" = none) (z_sorted:mg "sorted" = none) (z_set:mg "set" = none):FnOk P w K mg base CX0 3 f fd ["_law_state","_law_many"] spNet:=by
 refine F.ok sc_Lnet (fun vs H Q E h=>?_) (fun cdv A outer s H vs Q E hr h=>?_)
 ·obtain ⟨d,c,t,ns,m,rfl,_⟩:=h
  rfl
 obtain ⟨d,c,t,ns,m,rfl,S,ht,hm0,hm1,q⟩:=h
 have ht':t≤1000000000 - 10000:=ht
 have hr_Lsome_needs:Room 2 _:=hr
 have hr_Ltree_net:Room 2 _:=hr
 refine ⟨_,(qA4 (qAE (i:=2) sc_Lnet.nd rfl (Or.inl rfl) (pe_cl C_Ltake hr rfl (qA0 (pv 0) (qA0 qA7 qA3)))) (qA4 (qAE (i:=3) sc_Lnet.nd rfl (Or.inr rfl) (pe_op qBL qA7 (pe_cl C_Ltake hr rfl (qA0 (pv 0) (qA0 qA7 qA3))))) (qA4 (ps_if (qAC op_eq (pv 2) qA7 (nomark _)) (qA6 (qAG (qAI qAJ rfl z_tuple qAY (qA0 (pe_lc rfl (lcs (own:=["_law_k"]) (fv:=[3]) (by kernel_rfl)) (qB6 rfl z_range (qA0 (pv 1) qA3)) (fun z1=>qA9 (i:=0) (nd_of (by kernel_rfl)) rfl (Or.inl rfl)) (fun z1=>qBC) (fun z1=>(qAI (call_tuple_rng rfl) rfl z_tuple qAY (qA0 (qAI call_rng2 rfl z_range bt_range (qA0 (qAB (call_max2 rfl) rfl z_max bt_max (qA0 qA7 (qA0 (pe_op qCK (pv 0) (pv 1)) qA3))) (qA0 (pv 0) qA3))) qA3)))) qA3)))) qAH) (qA4 (ps_if (qAC op_eq (pv 2) qA7 (nomark _)) (qA4 (ps_lc (i:=4) sc_Lnet.nd rfl rfl rfl (lcs (own:=["_law_k"]) (fv:=[3]) (by kernel_rfl)) (qB6 rfl z_range (qA0 (pv 1) qA3)) (fun z2=>qA9 (i:=0) (nd_of (by kernel_rfl)) rfl (Or.inl rfl)) (fun z2=>qBC) (fun z2=>(pe_op op_cat (pe_op op_rep (qB0 (qA0 (pe_op qCK (pv 0) (pv 1)) qA3)) (qAI call_int1 rfl z_int bt_int (qA0 (qCQ op_ge (pv 0) (pv 1) (nomark _)) qA3))) (pe_op op_rep (qB0 (qA0 (pe_op qCK (pv 0) qA7) qA3)) (qAI call_int1 rfl z_int bt_int (qA0 (qCQ op_gt (pe_op op_mod (pv 0) (pv 1)) qA7 (nomark _)) qA3))))) (by kernel_rfl)) (qA6 (qAG (qAI qAJ rfl z_tuple qAY (qA0 (pe_lc rfl (lcs (own:=["_law_needs"]) (fv:=[]) (by kernel_rfl)) (qB8 (pv 4)) (fun z3=>qA9 (i:=0) (nd_of (by kernel_rfl)) rfl (Or.inl rfl)) (fun z3=>qBC) (fun z3=>(qAI (call_tupleK (K:=K) rfl) rfl z_tuple qAY (qA0 (qAB (call_sortedK (K:=K) (w:=w) rfl rfl rfl) rfl z_sorted qCE (qA0 (qAI (call_setK (K:=K) (w:=w) rfl rfl rfl) rfl z_set bt_set (qA0 (pv 0) qA3)) qA3)) qA3)))) qA3))))) qAH) (qA4 (ps_if (qAC op_eq (pv 2) qA7 (nomark _)) (qA6 (qAG (pe_cl C_Ltree_net hr rfl (qA0 (pv 0) (qA0 (pv 1) qA3))))) qAH) (qA4 (ps_if (qAC op_eq (pv 2) qA7 (nomark _)) (qA4 (qAE (i:=5) sc_Lnet.nd rfl (Or.inr rfl) (pe_op op_fdiv (pv 1) qA7)) (qA4 (ps_lc (i:=4) sc_Lnet.nd rfl rfl rfl (lcs (own:=["_law_k"]) (fv:=[0,5]) (by kernel_rfl)) (qB6 rfl z_range (qA0 (pv 1) qA3)) (fun z4=>qA9 (i:=0) (nd_of (by kernel_rfl)) rfl (Or.inl rfl)) (fun z4=>qBC) (fun z4=>(pe_cl C_Lsome_needs hr rfl (qA0 (pv 1) (qA0 (pe_ifExp (qAC op_lt (pv 0) (pv 2) (nomark _)) (pv 0) (pe_op qCK (pv 0) (pv 2))) qA3)))) (by kernel_rfl)) (qA6 (qAG (qAI qAJ rfl z_tuple qAY (qA0 (pe_lc rfl (lcs (own:=["_law_k","_law_needs"]) (fv:=[5]) (by kernel_rfl)) (pi_enum rfl z_enumerate qBN (qA0 (pv 4) qA3)) (fun z5=>pg_tupK (K:=K) (n:=2) rfl rfl (qAK (qA9 (i:=0) (nd_of (by kernel_rfl)) rfl (Or.inl rfl)) (qAK (qA9 (i:=1) (nd_of (by kernel_rfl)) rfl (Or.inl rfl)) qBP)) rfl rfl) (fun z5=>qBC) (fun z5=>(pe_ifExp (qAC op_lt (pv 0) (pv 2) (nomark _)) (pv 1) (qAI (call_tupleK (K:=K) rfl) rfl z_tuple qAY (qA0 (pe_lc (X:=lcCx _ _ _ _ z5) rfl (lcs (own:=["_law_n"]) (fv:=[2]) (by kernel_rfl)) (pi_tupK (K:=K) rfl (pv 1)) (fun z6=>qA9 (i:=0) (nd_of (by kernel_rfl)) rfl (Or.inl rfl)) (fun z6=>qBC) (fun z6=>(pe_op qBL (pv 0) (pv 1)))) qA3))))) qA3)))))) qAH) (qA6 (qAG (qAI qAJ rfl z_tuple qAY (qA0 (pe_lc rfl (lcs (own:=["_law_k"]) (fv:=[0]) (by kernel_rfl)) (qB6 rfl z_range (qA0 (pv 1) qA3)) (fun z7=>qA9 (i:=0) (nd_of (by kernel_rfl)) rfl (Or.inl rfl)) (fun z7=>qBC) (fun z7=>(pe_cl C_Lsome_needs hr rfl (qA0 (pv 1) (qA0 (pv 0) qA3))))) qA3)))))))))),?_⟩
 try dsimp only [Cx.nox,Cx.wish,cxOf]
 refine cut fun N1 hN1=>?_
 refine ⟨_,rfl,d,c,t,ns,8,rfl,S,(by show t≤1000000000;omega),by decide,by decide,fun way ns1 H1 w0 w8 S1 K1=>?_⟩
 refine hN1 _ _ (cut fun N2 hN2=>?_)
 refine ⟨_,rfl,d,c,t+1,ns1,4,rfl,S1,(by show t+1≤1000000000;omega),by decide,by decide,fun wd ns2 H2 wd0 wd4 S2 K2=>⟨_,_,rfl,rfl,?_⟩⟩
 dsimp only
 have K12:=K1.trans K2
 generalize hwide:(1:Int)+wd=wide
 have wi0:1≤wide:=by omega
 have wi4:wide≤4:=by omega
 refine hN2 _ _ (cut fun N3 hN3=>?_)
 refine ⟨_,rfl,rfl,_,rfl,?_⟩
 refine ite2 (fun _=>?_) (fun _=>?_)
 ·refine ⟨_,rfl,m,rfl,by omega,by omega,fun p hp=>?_⟩
  refine qC6 (p:=p) (lo:=0) (n:=m.toNat) (fun i σ Hc=>∃ (v:Option V) (rs:List Addr) (net:List (List Int)),σ=[v,some (.int wide)]∧Same H2 Hc∧Hc p=some (.lst (rs.map V.ref))∧NetL Hc rs net∧net.length=i∧WFn net) ?_ ?_ ?_
  ·exact ⟨none,[],[],rfl,qA2 hp _,qA1,.nil,rfl,WFn.nil⟩
  ·refine fun i σ Hc hi hI_1=>opq fun G_1 hG_1=>?_
   obtain ⟨v,rs,net,rfl,sm,hpc,N,hl,wf⟩:=hI_1
   refine hG_1 ?_
   refine ⟨_,rfl,_,rfl,_,_,rfl,rfl,0,_,rfl,_,rfl,_,_,rfl,fun p1 hp1=>?_⟩
   refine ⟨p1,_,_,rfl,qA1,by split <;> omega,by split <;> omega,by omega,by omega,fun r hr1=>?_⟩
   have lo0:0≤(if (0+(i:Int)) - wide > 0 then (0+(i:Int)) - wide else 0):=by split <;> omega
   have hri:=rangeI_rise (hi:=0+(i:Int)) lo0
   dsimp only
   rw [rangeV_ints]
   generalize rangeI (if (0+(i:Int)) - wide > 0 then (0+(i:Int)) - wide else 0) (0+(i:Int))=zs at hri ⊢
   generalize HO.rng (if (0+(i:Int)) - wide > 0 then (0+(i:Int)) - wide else 0) (0+(i:Int))=ho at hp1 hr1 ⊢
   have s1:=(qA2 hp1 ho).trans (qA2 hr1 (.tup (zs.map V.int)))
   have g1:=s1 _ _ hpc
   refine ⟨_,g1,small1000 (by rw [List.length_map,NetAt.len N];omega),?_⟩
   rw [qAX]
   refine ⟨_,rs++[r],net++[zs],rfl,qAF (sm.trans s1) hp,qA1,qCZ (qBD (N.same fun r' ys e=>s1 _ _ e) qA1) g1,by rw [List.length_append,List.length_singleton,hl],wf.snoc ?_⟩
   rw [hl]
   exact hri.mono (by omega)
  ·refine fun σ Hc hI_2=>opq fun G_2 hG_2=>?_
   obtain ⟨v,rs,net,rfl,sm,hpc,N,hl,wf⟩:=hI_2
   refine hG_2 ?_
   refine ⟨p,_,rfl,.inl ⟨SqL.of hpc,fun a ha=>?_⟩⟩
   have s1:=qA2 ha (.tup (rs.map V.ref))
   exact q a net (t+1+1) ns2 _ (S2.same (sm.trans s1)) (by omega) (by omega) (K12.trans (.of_same (sm.trans s1))) ⟨rs,qA1,N.same fun r ys e=>s1 _ _ e⟩ wf (by rw [hl];omega)
 refine hN3 _ _ (cut fun N4 hN4=>?_)
 refine ⟨_,rfl,rfl,_,rfl,?_⟩
 refine ite2 (fun _=>?_) (fun _=>?_)
 ·refine ⟨_,rfl,m,rfl,by omega,by omega,fun p hp=>?_⟩
  refine qC6 (p:=p) (lo:=0) (n:=m.toNat) (fun i σ Hc=>∃ (v:Option V) (rs:List Addr) (ls:List (List Int)),σ=[v,some (.int wide)]∧Same H2 Hc∧Hc p=some (.lst (rs.map V.ref))∧Paired (fun r zs=>r ≠ p∧Hc r=some (.lst (zs.map V.int))) rs ls∧ls.length=i∧
   ∀ (j:Nat) zs,ls[j]?=some zs→zs.length≤2∧∀ x ∈ zs,0≤x∧x<(j:Int)) ?_ ?_ ?_
  ·exact ⟨none,[],[],rfl,qA2 hp _,qA1,.nil,rfl,fun j zs e=>by simp at e⟩
  ·refine fun i σ Hc hi hI_3=>opq fun G_3 hG_3=>?_
   obtain ⟨v,rs,ls,rfl,sm,hpc,N,hl,wf⟩:=hI_3
   refine hG_3 ?_
   refine ⟨_,rfl,_,rfl,_,_,rfl,rfl,(by show 1≤sizeLine;decide),fun a1 ha1=>?_⟩
   refine ⟨_,rfl,_,rfl,_,_,rfl,rfl,.inr ⟨_,rfl,?_⟩⟩
   refine ⟨a1,_,_,rfl,rfl,qA1,by split <;> decide,by split <;> decide,?_,fun a2 ha2=>?_⟩
   ·have:∀ b:Bool,[V.int (0+(i:Int) - wide)].length * (if b=true then (1:Int) else 0).toNat≤sizeLine:=by intro b;cases b <;> simp [sizeLine_eq]
    exact this _
   dsimp only
   rw [rep_b]
   refine ⟨_,rfl,_,_,rfl,rfl,(by show 1≤sizeLine;decide),fun a3 ha3=>?_⟩
   refine ⟨_,rfl,_,rfl,_,_,rfl,rfl,(by show 0<wide;omega),_,_,rfl,rfl,.inr ⟨_,rfl,?_⟩⟩
   refine ⟨a3,_,_,rfl,rfl,qA1,by split <;> decide,by split <;> decide,?_,fun a4 ha4=>?_⟩
   ·have:∀ b:Bool,[V.int (0+(i:Int) - 1)].length * (if b=true then (1:Int) else 0).toNat≤sizeLine:=by intro b;cases b <;> simp [sizeLine_eq]
    exact this _
   dsimp only
   rw [rep_b]
   have b1:∀ x ∈ (if decide (wide≤0+(i:Int))=true then [0+(i:Int) - wide] else []),0≤x∧x<(i:Int):=by
    intro x hx
    split at hx
    ·rename_i hd
     have:=of_decide_eq_true hd
     rw [List.mem_singleton.mp hx];omega
    ·cases hx
   have b2:∀ x ∈ (if decide (0<(0+(i:Int)) % wide)=true then [0+(i:Int) - 1] else []),0≤x∧x<(i:Int):=by
    intro x hx
    split at hx
    ·rename_i hd
     have hd':=of_decide_eq_true hd
     have:(i:Int) ≠ 0:=by
      intro e
      rw [e] at hd'
      simp at hd'
     rw [List.mem_singleton.mp hx];omega
    ·cases hx
   have c1:(if decide (wide≤0+(i:Int))=true then [0+(i:Int) - wide] else []).length≤1:=by split <;> simp
   have c2:(if decide (0<(0+(i:Int)) % wide)=true then [0+(i:Int) - 1] else []).length≤1:=by split <;> simp
   generalize (if decide (wide≤0+(i:Int))=true then [0+(i:Int) - wide] else [])=z1 at b1 c1 ha3 ha4 ⊢
   generalize (if decide (0<(0+(i:Int)) % wide)=true then [0+(i:Int) - 1] else [])=z2 at b2 c2 ⊢
   have s2:=(qA2 ha3 (.lst [.int (0+(i:Int) - 1)])).trans (qA2 ha4 (.lst (z2.map V.int)))
   refine ⟨a2,a4,_,_,rfl,rfl,s2 _ _ qA1,qA1,Nat.le_of_lt (small1000 (by rw [List.length_map,List.length_map];omega)),fun a5 ha5=>?_⟩
   have s1:=(qA2 ha1 (.lst [.int (0+(i:Int) - wide)])).trans (qA2 ha2 (.lst (z1.map V.int)))
   have s3:=(s1.trans s2).trans (qA2 ha5 (.lst (z1.map V.int++z2.map V.int)))
   have e5:z1.map V.int++z2.map V.int=(z1++z2).map V.int:=by rw [List.map_append]
   rw [e5] at s3 ⊢
   have g1:=s3 _ _ hpc
   have n5:a5 ≠ p:=(qA5 ((s1.trans s2) _ _ hpc) ha5).symm
   refine ⟨_,g1,small1000 (by rw [List.length_map,Paired.length N];omega),?_⟩
   rw [qAX]
   refine ⟨_,rs++[a5],ls++[z1++z2],rfl,qAF (sm.trans s3) hp,qA1,Paired.snoc (qBT N fun r zs e=>⟨e.1,by rw [qA8 e.1];exact s3 _ _ e.2⟩) ⟨n5,by rw [qA8 n5];exact qA1⟩,by rw [List.length_append,List.length_singleton,hl],fun j zs e=>?_⟩
   rcases snoc_get e with e | ⟨rfl,rfl⟩
   ·exact wf j zs e
   ·rw [hl]
    refine ⟨by rw [List.length_append];omega,fun x hx=>?_⟩
    rcases List.mem_append.mp hx with hx | hx
    ·exact b1 x hx
    ·exact b2 x hx
  ·refine fun σ Hc hI_4=>opq fun G_4 hG_4=>?_
   obtain ⟨v,rs,ls,rfl,sm,hpc,N,hl,wf⟩:=hI_4
   refine hG_4 ?_
   refine ⟨_,rfl,p,rfl,⟨_,SqL.of hpc⟩,fun p' hp'=>?_⟩
   refine lc_list (p:=p') (a:=p) (xs:=rs.map V.ref) (fun i σ Hd=>∃ (v:Option V) (rs':List Addr) (net:List (List Int)),σ=[v]∧Same Hc Hd∧Hd p'=some (.lst (rs'.map V.ref))∧NetL Hd rs' net∧net.length=i∧WFn net) ?_ ?_ ?_ ?_
   ·exact ⟨none,[],[],rfl,qA2 hp' _,qA1,.nil,rfl,WFn.nil⟩
   ·rintro i σ Hd hi ⟨v,rs',net,rfl,sm2,_⟩
    exact SqL.of (sm2 _ _ hpc)
   ·refine fun i x σ Hd hx hI_6=>opq fun G_6 hG_6=>?_
    obtain ⟨v,rs',net,rfl,sm2,hpd,N2,hl2,wf2⟩:=hI_6
    obtain ⟨r,hr1,rfl⟩:=qBQ hx
    obtain ⟨zs,hz,_,hr2⟩:=qAN N hr1
    obtain ⟨l2,m2⟩:=wf i zs hz
    refine hG_6 ?_
    refine ⟨_,rfl,r,zs,rfl,SqL.of (sm2 _ _ hr2),by omega,fun a ha=>?_⟩
    refine ⟨a,dedI zs,rfl,.inr (.inr qA1),Nat.lt_of_le_of_lt (dedI_len zs) (by omega),fun b ys hb hpm hs=>?_⟩
    refine ⟨b,_,rfl,.inl ⟨SqL.of qA1,fun r2 hr3=>?_⟩⟩
    have s1:=((qA2 ha (SetO w a (dedI zs))).trans (qA2 hb (.lst (ys.map V.int)))).trans (qA2 hr3 (.tup (ys.map V.int)))
    have g1:=s1 _ _ hpd
    have lrs:rs.length=m.toNat:=by rw [Paired.length N,hl]
    have hi:i<rs.length:=(List.getElem?_eq_some_iff.mp hr1).1
    refine ⟨_,g1,small1000 (by rw [List.length_map,NetAt.len N2];omega),?_⟩
    rw [qAX]
    refine ⟨_,rs'++[r2],net++[ys],rfl,qAF (sm2.trans s1) hp',qA1,qCZ (qBD (N2.same fun r' zs' e=>s1 _ _ e) qA1) g1,by rw [List.length_append,List.length_singleton,hl2],wf2.snoc ?_⟩
    rw [hl2]
    exact rise_set hpm hs m2
   ·refine fun σ Hd hI_7=>opq fun G_7 hG_7=>?_
    obtain ⟨v,rs',net,rfl,sm2,hpd,N2,hl2,wf2⟩:=hI_7
    refine hG_7 ?_
    refine ⟨p',_,rfl,.inl ⟨SqL.of hpd,fun a ha=>?_⟩⟩
    have s1:=qA2 ha (.tup (rs'.map V.ref))
    refine q a net (t+1+1) ns2 _ (S2.same ((sm.trans sm2).trans s1)) (by omega) (by omega) (K12.trans (.of_same ((sm.trans sm2).trans s1))) ⟨rs',qA1,N2.same fun r ys e=>s1 _ _ e⟩ wf2 ?_
    rw [hl2,List.length_map,Paired.length N,hl]
    omega
 refine hN4 _ _ (cut fun N5 hN5=>?_)
 refine ⟨_,rfl,rfl,_,rfl,?_⟩
 refine ite2 (fun _=>?_) (fun _=>?_)
 ·refine ⟨_,rfl,_,rfl,d,c,t+1+1,ns2,m,rfl,S2,?_,hm0,hm1,fun a net t' ms H' a1 a2 a3 a4 a5 a6 a7=>?_⟩
  ·show t+1+1≤1000000000 - 1000;omega
  ·exact q a net t' ms H' a1 (by omega) (by omega) (K12.trans a4) a5 a6 a7
 refine hN5 _ _ (cut fun N6 hN6=>?_)
 refine ⟨_,rfl,rfl,_,rfl,?_⟩
 refine ite2 (fun _=>?_) (fun _=>?_)
 ·refine ⟨_,rfl,_,_,rfl,rfl,⟨by decide,by decide⟩,?_⟩
  dsimp only
  have hf0:0≤m / 2:=by omega
  have hf1:m / 2≤m:=by omega
  generalize m / 2=half at hf0 hf1
  refine ⟨_,rfl,m,rfl,by omega,by omega,fun p hp=>?_⟩
  refine qC6 (p:=p) (lo:=0) (n:=m.toNat) (fun i σ Hc=>∃ (v:Option V) (t':Int) (ms:List Int) (rs:List Addr) (net:List (List Int)),σ=[v,some (.ref d),some (.int half)]∧StAt Hc d c t' ms∧t+2≤t'∧t'≤t+2+9 * i∧Keep d c H2 Hc∧Hc p=some (.lst (rs.map V.ref))∧NetL Hc rs net∧net.length=i∧
   ∀ (j:Nat) zs,net[j]?=some zs→Rise (if (j:Int)<half then (j:Int) else (j:Int) - half) zs) ?_ ?_ ?_
  ·exact ⟨none,t+1+1,ns2,[],[],rfl,S2.new hp _,by omega,by omega,qC7 hp _,qA1,.nil,rfl,fun j zs e=>by simp at e⟩
  ·refine fun i σ Hc hi hI_8=>opq fun G_8 hG_8=>?_
   obtain ⟨v,t',ms,rs,net,rfl,S3,b1,b2,k3,hpc,N,hl,wf⟩:=hI_8
   refine hG_8 ?_
   have npd:p ≠ d:=(qA5 S2.dict hp).symm
   have npc:p ≠ c:=(qA5 S2.list hp).symm
   have nx:∀ (kk:Int),kk=(if (i:Int)<half then (i:Int) else (i:Int) - half)→spNeeds [.ref d,.int kk] Hc (fun y H4=>∃ ys,H4 p=some (.lst ys)∧ys.length<sizeLine∧∃ (v:Option V) (t':Int) (ms:List Int) (rs:List Addr) (net:List (List Int)),[some (V.int (0+(i:Int))),some (.ref d),some (.int half)]=[v,some (.ref d),some (.int half)]∧StAt (upd H4 p (.lst (ys++[y]))) d c t' ms∧t+2≤t'∧t'≤t+2+9 * (i+1:Nat)∧Keep d c H2 (upd H4 p (.lst (ys++[y])))∧(upd H4 p (.lst (ys++[y]))) p=some (.lst (rs.map V.ref))∧NetL (upd H4 p (.lst (ys++[y]))) rs net∧net.length=i+1∧
     ∀ (j:Nat) zs,net[j]?=some zs→Rise (if (j:Int)<half then (j:Int) else (j:Int) - half) zs) E0:=by
    intro kk ek
    refine ⟨d,c,t',ms,kk,rfl,S3,(by show t'≤1000000000 - 20;omega),by rw [ek];split <;> omega,by rw [ek];split <;> omega,fun r zs t'' ms2 H3 e1 e2 e3 e4 e5 e6=>?_⟩
    have g1:=e4 _ _ hpc npd npc
    refine ⟨_,g1,small1000 (by rw [List.length_map,NetAt.len N];omega),?_⟩
    rw [qAX]
    refine ⟨_,t'',ms2,rs++[r],net++[zs],rfl,⟨by rw [qA8 (Ne.symm npd)];exact e1.dict,by rw [qA8 (Ne.symm npc)];exact e1.list,e1.ne,e1.len,e1.pos⟩,by omega,by omega,keep_put (k3.trans e4) hp,qA1,qCZ (qBD (N.keep (fun r ys e=>S3.tup e) e4) e5) g1,by rw [List.length_append,List.length_singleton,hl],fun j ys e=>?_⟩
    rcases snoc_get e with e | ⟨rfl,rfl⟩
    ·exact wf j ys e
    ·rw [hl,← ek];exact e6
   refine ⟨_,rfl,_,rfl,_,rfl,_,_,rfl,rfl,_,rfl,?_⟩
   refine ite2 (fun ck=>?_) (fun ck=>?_)
   ·have ck':0+(i:Int)<half:=of_decide_eq_true ck
    exact ⟨_,rfl,nx _ (by rw [if_pos (by omega)];omega)⟩
   ·have ck':¬ 0+(i:Int)<half:=of_decide_eq_false (Bool.eq_false_iff.mpr ck)
    exact ⟨_,rfl,_,rfl,_,_,rfl,rfl,nx _ (by rw [if_neg (by omega)];omega)⟩
  ·refine fun σ Hc hI_9=>opq fun G_9 hG_9=>?_
   obtain ⟨v,t',ms,rs,net,rfl,S3,b1,b2,k3,hpc,N,hl,wf⟩:=hI_9
   refine hG_9 ?_
   have lrs:rs.length=m.toNat:=by rw [Paired.length N,hl]
   refine ⟨_,rfl,p,rfl,⟨_,SqL.of hpc⟩,fun p' hp'=>?_⟩
   refine lc_enum (p:=p') (a:=p) (xs:=rs.map V.ref) (fun i σ Hd=>∃ (v1 v2:Option V) (rs':List Addr) (net':List (List Int)),σ=[v1,v2,some (.int half)]∧Same Hc Hd∧Hd p'=some (.lst (rs'.map V.ref))∧NetL Hd rs' net'∧net'.length=i∧WFn net') ?_ ?_ ?_ ?_
   ·exact ⟨none,none,[],[],rfl,qA2 hp' _,qA1,.nil,rfl,WFn.nil⟩
   ·rintro i σ Hd hi ⟨v1,v2,rs',net',rfl,sm2,_⟩
    exact SqL.of (sm2 _ _ hpc)
   ·refine fun i x σ Hd T hx hI_11 hT=>opq fun G_11 hG_11=>?_
    obtain ⟨v1,v2,rs',net',rfl,sm2,hpd,N2,hl2,wf2⟩:=hI_11
    obtain ⟨r,hr1,rfl⟩:=qBQ hx
    obtain ⟨zs,hz,hr2⟩:=qAN N hr1
    refine hG_11 ?_
    have hi:i<rs.length:=(List.getElem?_eq_some_iff.mp hr1).1
    have rz:=wf i zs hz
    have sT:=qA2 hT (.tup [.int (i:Int),.ref r])
    have hrT:=sT _ _ (sm2 _ _ hr2)
    have hpT:=sT _ _ hpd
    have NT:=N2.same fun r' zs' e=>sT _ _ e
    have smT:=sm2.trans sT
    have gT:SqT K (upd Hd T (.tup [.int (i:Int),.ref r])) T [.int (i:Int),.ref r]:=SqT.of qA1
    generalize upd Hd T (.tup [.int (i:Int),.ref r])=HT' at hrT hpT NT smT gT ⊢
    refine ⟨T,_,rfl,gT,rfl,_,_,rfl,_,_,rfl,rfl,?_⟩
    refine ⟨_,rfl,_,rfl,_,_,rfl,rfl,_,rfl,?_⟩
    refine ite2 (fun ck=>?_) (fun ck=>?_)
    ·have ck':(i:Int)<half:=of_decide_eq_true ck
     rw [if_pos ck'] at rz
     refine ⟨_,rfl,_,hpT,small1000 (by rw [List.length_map,NetAt.len N2];omega),?_⟩
     rw [qAX]
     refine ⟨_,_,rs'++[r],net'++[zs],rfl,qAF smT hp',qA1,qCZ (qBD NT hrT) hpT,by rw [List.length_append,List.length_singleton,hl2],wf2.snoc ?_⟩
     rw [hl2]
     exact rz
    ·have ck':¬ (i:Int)<half:=of_decide_eq_false (Bool.eq_false_iff.mpr ck)
     rw [if_neg ck'] at rz
     have lz:zs.length≤i:=by
      have e:((i:Int) - half)=(((i:Int) - half).toNat:Nat):=by omega
      rw [e] at rz
      have:=rz.len
      omega
     refine ⟨_,rfl,r,rfl,⟨_,SqT.of hrT⟩,fun p2 hp2=>?_⟩
     refine qD3 (p:=p2) (a:=r) (xs:=zs.map V.int) (fun j σ He=>∃ (v:Option V),σ=[v,some (.int half)]∧Same HT' He∧He p2=some (.lst (((zs.take j).map (·+half)).map V.int))) ?_ ?_ ?_ ?_
     ·exact ⟨none,rfl,qA2 hp2 _,qA1⟩
     ·rintro j σ He hj ⟨v,rfl,sm3,_⟩
      exact SqT.of (sm3 _ _ hrT)
     ·refine fun j x σ He hx2 hI_13=>opq fun G_13 hG_13=>?_
      obtain ⟨v,rfl,sm3,hp3⟩:=hI_13
      obtain ⟨z,hz2,rfl⟩:=qAS hx2
      refine hG_13 ?_
      refine ⟨_,rfl,_,rfl,_,_,rfl,rfl,_,hp3,small1000 (by rw [List.length_map,List.length_map,List.length_take];omega),_,rfl,qAF sm3 hp2,?_⟩
      rw [qA1,List.take_add_one,hz2,Option.toList_some,List.map_append,List.map_append]
      rfl
     ·refine fun σ He hI_14=>opq fun G_14 hG_14=>?_
      obtain ⟨v,rfl,sm3,hp3⟩:=hI_14
      refine hG_14 ?_
      rw [List.length_map,List.take_of_length_le (Nat.le_refl _)] at hp3
      refine ⟨p2,_,rfl,.inl ⟨SqL.of hp3,fun r2 hr3=>?_⟩⟩
      have s1:=qA2 hr3 (.tup ((zs.map (·+half)).map V.int))
      have s2:=sm3.trans s1
      have g1:=s2 _ _ hpT
      refine ⟨_,g1,small1000 (by rw [List.length_map,NetAt.len N2];omega),?_⟩
      rw [qAX]
      refine ⟨_,_,rs'++[r2],net'++[zs.map (·+half)],rfl,qAF (smT.trans s2) hp',qA1,qCZ (qBD (NT.same fun r' zs' e=>s2 _ _ e) qA1) g1,by rw [List.length_append,List.length_singleton,hl2],wf2.snoc ?_⟩
      rw [hl2]
      have:=rz.shift hf0
      rw [show (i:Int) - half+half=(i:Int) by omega] at this
      exact this
   ·refine fun σ Hd hI_15=>opq fun G_15 hG_15=>?_
    obtain ⟨v1,v2,rs',net',rfl,sm2,hpd,N2,hl2,wf2⟩:=hI_15
    refine hG_15 ?_
    refine ⟨p',_,rfl,.inl ⟨SqL.of hpd,fun a ha=>?_⟩⟩
    have s1:=qA2 ha (.tup (rs'.map V.ref))
    refine q a net' t' ms _ (S3.same (sm2.trans s1)) (by omega) (by omega) (K12.trans (k3.trans (.of_same (sm2.trans s1)))) ⟨rs',qA1,N2.same fun r ys e=>s1 _ _ e⟩ wf2 ?_
    rw [hl2,List.length_map,Paired.length N,hl]
    omega
 refine hN6 _ _ ?_
 refine ⟨_,rfl,m,rfl,by omega,by omega,fun p hp=>?_⟩
 refine qC6 (p:=p) (lo:=0) (n:=m.toNat) (fun i σ Hc=>∃ (v:Option V) (t':Int) (ms:List Int) (rs:List Addr) (net:List (List Int)),σ=[v,some (.ref d)]∧StAt Hc d c t' ms∧t+2≤t'∧t'≤t+2+9 * i∧Keep d c H2 Hc∧Hc p=some (.lst (rs.map V.ref))∧NetL Hc rs net∧net.length=i∧WFn net) ?_ ?_ ?_
 ·exact ⟨none,t+1+1,ns2,[],[],rfl,S2.new hp _,by omega,by omega,qC7 hp _,qA1,.nil,rfl,WFn.nil⟩
 ·refine fun i σ Hc hi hI_16=>opq fun G_16 hG_16=>?_
  obtain ⟨v,t',ms,rs,net,rfl,S3,b1,b2,k3,hpc,N,hl,wf⟩:=hI_16
  refine hG_16 ?_
  have npd:p ≠ d:=(qA5 S2.dict hp).symm
  have npc:p ≠ c:=(qA5 S2.list hp).symm
  refine ⟨_,rfl,_,rfl,d,c,t',ms,0+(i:Int),rfl,S3,(by show t'≤1000000000 - 20;omega),by omega,by omega,fun r zs t'' ms2 H3 e1 e2 e3 e4 e5 e6=>?_⟩
  have g1:=e4 _ _ hpc npd npc
  refine ⟨_,g1,small1000 (by rw [List.length_map,NetAt.len N];omega),?_⟩
  rw [qAX]
  refine ⟨_,t'',ms2,rs++[r],net++[zs],rfl,⟨by rw [qA8 (Ne.symm npd)];exact e1.dict,by rw [qA8 (Ne.symm npc)];exact e1.list,e1.ne,e1.len,e1.pos⟩,by omega,by omega,keep_put (k3.trans e4) hp,qA1,qCZ (qBD (N.keep (fun r ys e=>S3.tup e) e4) e5) g1,by rw [List.length_append,List.length_singleton,hl],wf.snoc ?_⟩
  rw [hl]
  exact e6.mono (by omega)
 ·refine fun σ Hc hI_17=>opq fun G_17 hG_17=>?_
  obtain ⟨v,t',ms,rs,net,rfl,S3,b1,b2,k3,hpc,N,hl,wf⟩:=hI_17
  refine hG_17 ?_
  refine ⟨p,_,rfl,.inl ⟨SqL.of hpc,fun a ha=>?_⟩⟩
  have s1:=qA2 ha (.tup (rs.map V.ref))
  exact q a net t' ms _ (S3.same s1) (by omega) (by omega) (K12.trans (k3.trans (.of_same s1))) ⟨rs,qA1,N.same fun r ys e=>s1 _ _ e⟩ wf (by rw [hl];omega)
end
section
variable {P:Program} {w:World} {K:PySem.W.Frag} {mg:Str→Option Value} {base:Heap} {f:Addr} {fd:FuncData} {f_fault_of_do:Addr} {fd_fault_of_do:FuncData}
theorem sc_fault_of_do:FnScope ["net","rooms","stand","work","there","result","need"] ["net","rooms","stand","work"] (defScope qBR):=⟨rfl,rfl,rfl,by decide +kernel,rfl,by decide +kernel,by decide +kernel⟩
theorem ok_fault_of_do (F:Fun K "fault_of_do" "fault_of_do" qBR f fd) (z_len:mg "len" = none):FnOk P w K mg base CX0 1 f fd ["net","rooms","stand","work"] spFaultDo:=by
 refine F.ok sc_fault_of_do (fun vs H Q E h=>?_) (fun cdv A outer s H vs Q E hr h=>?_)
 ·obtain ⟨a,so,net,st,ns,rooms,wk,rfl,_⟩:=h
  rfl
 obtain ⟨a,so,net,st,ns,rooms,wk,rfl,hN,hst,lst,wk0,hns,q⟩:=h
 have hu:=hu_of hr
 refine ⟨_,(qA4 (qAE (i:=4) sc_fault_of_do.nd rfl (Or.inl rfl) pe_dnewK) (qA4 (qB5 PassesOwn.never rfl (qCB (pv 2)) (qA9 (i:=5) sc_fault_of_do.nd rfl (Or.inl rfl)) (qA6 (qCP hu (pv 4) (pv 5) pe_bl rfl))) (qA4 (ps_if (pt_cmp (pc_din hu (pv 3) (pv 4))) (qA6 (qAG qAL)) qAH) (qA4 (qB5 PassesOwn.never rfl (qCB (pe_ix qAW (pv 0) (pv 3) (fun _ _=>rfl))) (qA9 (i:=6) sc_fault_of_do.nd rfl (Or.inl rfl)) (qA6 (ps_if (pt_cmp (pc_dnotin hu (pv 6) (pv 4))) (qA6 (qAG qAL)) qAH))) (qA4 (ps_if (qAC op_ge (qAB qAA rfl z_len qAP (qA0 (pv 2) qA3)) (pv 1) (nomark _)) (qA6 (qAG qAL)) qAH) (qA6 (qAG pe_non))))))),?_⟩
 try dsimp only [Cx.nox,Cx.wish,cxOf]
 refine fun p hp=>?_
 have s0:=qA2 hp (.dK [])
 refine ⟨_,rfl,so,rfl,⟨_,SqT.of (s0 _ _ hst)⟩,for_tup (a:=so) (xs:=st.map V.int) (fun i σ Hc=>∃ (kvs:List (Key × V)) (v:Option V),σ=[some (.ref a),some (.int rooms),some (.ref so),some (.int wk),some (.ref p),v,none]∧Same H Hc∧Hc p=some (.dK kvs)∧kvs.length≤i∧∀ x:Int,(valV kvs (Sum.inl x)).isSome=true ↔ x ∈ st.take i)
  ⟨[],none,rfl,s0,qA1,Nat.le_refl _,fun x=>by simp [valV]⟩ (fun i σ Hc _ ⟨_,_,_,sm,_⟩=>SqT.of (sm _ _ hst)) ?_ ?_⟩
 ·refine fun i x σ Hc hx hI_1=>opq fun G_1 hG_1=>?_
  obtain ⟨kvs,v,rfl,sm,hd,lk,mk⟩:=hI_1
  refine hG_1 ?_
  rw [List.getElem?_map] at hx
  cases ez:st[i]? with
  | none=>rw [ez] at hx;cases hx
  | some z=>
   rw [ez] at hx
   cases hx
   have hil:i<st.length:=(List.getElem?_eq_some_iff.mp ez).1
   refine ⟨_,rfl,_,rfl,p,_,rfl,DPut.k (k:=Sum.inl z) hd (small1000 (by omega)),?_⟩
   refine ⟨putK kvs (Sum.inl z) (.bl true),_,rfl,fun b o e=>?_,qA1,Nat.le_trans (qB2 _ _ _) (by omega),fun y=>?_⟩
   ·rw [qA8 (qA5 e hp)];exact sm b o e
   ·rw [qCU,List.take_add_one,ez,Option.toList_some,List.mem_append,List.mem_singleton]
    by_cases hyz:y=z
    ·subst hyz;simp
    ·have:¬ (Sum.inl y:Key)=Sum.inl z:=fun q=>hyz (Sum.inl.inj q)
     rw [if_neg this,mk y]
     simp [hyz]
 ·refine fun σ Hc hI_2=>opq fun G_2 hG_2=>?_
  obtain ⟨kvs,v,rfl,sm,hd,lk,mk⟩:=hI_2
  refine hG_2 ?_
  rw [List.length_map,List.take_of_length_le (Nat.le_refl _)] at mk
  obtain ⟨rs,r,h1,l1,h2,h3⟩:=hN.get hns
  refine ⟨_,rfl,_,rfl,p,_,rfl,DGet.k (k:=Sum.inl wk) hd,_,rfl,?_⟩
  refine ite2 (fun ck=>?_) (fun ck=>?_)
  ·have hw:=(mk wk).mp ck
   have e:wordDo ns st rooms wk=.str "there":=by unfold wordDo;rw [if_pos hw]
   have:=q Hc sm
   rw [e] at this
   exact this
  ·have hw:¬ wk ∈ st:=fun z=>ck ((mk wk).mpr z)
   refine ⟨_,rfl,_,rfl,a,_,_,_,rfl,rfl,SqT.of (sm _ _ h1),qBB wk0 h2,r,rfl,⟨_,SqT.of (sm _ _ h3)⟩,for_tup (a:=r) (xs:=ns.map V.int) (fun i σ Hd=>∃ (v6:Option V),σ=[some (.ref a),some (.int rooms),some (.ref so),some (.int wk),some (.ref p),v,v6]∧Hd=Hc∧∀ x ∈ ns.take i,x ∈ st)
    ⟨none,rfl,rfl,fun x hx=>by simp at hx⟩ (fun i σ Hd _ ⟨_,_,e,_⟩=>by rw [e];exact SqT.of (sm _ _ h3)) ?_ ?_⟩
   ·refine fun i x σ Hd hx hI_3=>opq fun G_3 hG_3=>?_
    obtain ⟨v6,rfl,rfl,mm⟩:=hI_3
    obtain ⟨z,ez,rfl⟩:=qAS hx
    refine hG_3 ?_
    refine ⟨_,rfl,_,rfl,p,_,rfl,DGet.k (k:=Sum.inl z) hd,_,rfl,?_⟩
    refine ite2 (fun cz=>?_) (fun cz=>?_)
    ·have hz:¬ z ∈ st:=fun zz=>by rw [(mk z).mpr zz] at cz;cases cz
     have e:wordDo ns st rooms wk=.str "needs":=by
      unfold wordDo
      rw [if_neg hw,if_neg fun all=>hz (all z (List.mem_of_getElem? ez))]
     have:=q Hd sm
     rw [e] at this
     exact this
    ·have hz:z ∈ st:=by
      apply (mk z).mp
      cases hv:(valV kvs (Sum.inl z:Key)).isSome with
      | true=>rfl
      | false=>rw [hv] at cz;exact absurd rfl cz
     refine ⟨_,rfl,rfl,fun y hy=>?_⟩
     rw [List.take_add_one,ez,Option.toList_some,List.mem_append,List.mem_singleton] at hy
     rcases hy with hy | rfl
     ·exact mm y hy
     ·exact hz
   ·refine fun σ Hd hI_4=>opq fun G_4 hG_4=>?_
    obtain ⟨v6,rfl,rfl,mm⟩:=hI_4
    refine hG_4 ?_
    rw [List.length_map,List.take_of_length_le (Nat.le_refl _)] at mm
    refine ⟨_,rfl,so,_,rfl,.inr (SqT.of (sm _ _ hst)),_,rfl,_,_,rfl,rfl,_,rfl,?_⟩
    have q':=q Hd sm
    have e0:wordDo ns st rooms wk=if rooms≤(st.length:Int) then .str "full" else .non:=by
     unfold wordDo
     rw [if_neg hw,if_pos mm]
    rw [e0] at q'
    refine ite2 (fun cf=>?_) (fun cf=>?_)
    ·have cf':rooms≤(((st.map V.int).length:Nat):Int):=of_decide_eq_true cf
     rw [List.length_map] at cf'
     rw [if_pos cf'] at q'
     exact q'
    ·have cf':¬ rooms≤(((st.map V.int).length:Nat):Int):=of_decide_eq_false (Bool.eq_false_iff.mpr cf)
     rw [List.length_map] at cf'
     rw [if_neg cf'] at q'
     exact q'
theorem sc_fault_of:FnScope ["net","rooms","stand","move"] ["net","rooms","stand","move"] (defScope qCW):=⟨rfl,rfl,rfl,by decide +kernel,rfl,by decide +kernel,by decide +kernel⟩
theorem ok_fault_of (F:Fun K "fault_of" "fault_of" qCW f fd) (C_fault_of_do:Clb P w K mg base 1 f_fault_of_do fd_fault_of_do "fault_of_do" ["net","rooms","stand","work"] spFaultDo) :
  FnOk P w K mg base CX0 2 f fd ["net","rooms","stand","move"] spFault:=by
 refine F.ok sc_fault_of (fun vs H Q E h=>?_) (fun cdv A outer s H vs Q E hr h=>?_)
 ·obtain ⟨a,so,mv,net,st,ns,rooms,wk,word,rfl,_⟩:=h
  rfl
 obtain ⟨a,so,mv,net,st,ns,rooms,wk,word,rfl,hN,hst,lst,hmv,hword,wk0,hns,lns,q⟩:=h
 have hr_fault_of_do:Room 1 _:=hr
 refine ⟨_,(qA4 (ps_if (qAC op_eq (pe_ix qAW (pv 3) qA7 (fun _ _=>rfl)) qAL (nomark _)) (qA6 (qAG (pe_cl C_fault_of_do hr rfl (qA0 (pv 0) (qA0 (pv 1) (qA0 (pv 2) (qA0 (pe_ix qAW (pv 3) qA7 (fun _ _=>rfl)) qA3))))))) qAH) (qA4 (ps_if (qAC qCD (pe_ix qAW (pv 3) qA7 (fun _ _=>rfl)) (pv 2) (by with_unfolding_all rfl)) (qA6 (qAG pe_non)) qAH) (qA6 (qAG qAL)))),?_⟩
 try dsimp only [Cx.nox,Cx.wish,cxOf]
 refine ⟨_,rfl,mv,_,_,_,rfl,rfl,SqT.of hmv,rfl,rfl,_,rfl,?_⟩
 refine ite2 (fun ck=>?_) (fun ck=>?_)
 ·have hd:word = "do":=V.str.inj (of_decide_eq_true ck)
  refine ⟨_,rfl,_,rfl,_,rfl,_,rfl,mv,_,_,_,rfl,rfl,SqT.of hmv,rfl,a,so,net,st,ns,rooms,wk,rfl,hN,hst,lst,wk0,hns,fun H' sm=>?_⟩
  have q':=q H' sm
  unfold wordOf at q'
  rw [if_pos hd] at q'
  exact q'
 ·have hd:¬ word = "do":=fun e=>(of_decide_eq_false (Bool.eq_false_iff.mpr ck)) (congrArg V.str e)
  have q':=q H (Same.refl H)
  unfold wordOf wordClear at q'
  rw [if_neg hd] at q'
  refine ⟨_,rfl,mv,_,_,_,rfl,rfl,SqT.of hmv,rfl,_,rfl,so,_,rfl,.inr (SqT.of hst),rfl,qAU st,_,rfl,?_⟩
  rw [qBF]
  refine ite2 (fun cw=>?_) (fun cw=>?_)
  ·rw [if_pos (of_decide_eq_true cw)] at q'
   exact q'
  ·rw [if_neg (of_decide_eq_false (Bool.eq_false_iff.mpr cw))] at q'
   exact q'
end
def spAsked4:Sp:=fun vs H Q _=>∃ d c t ns a net,vs=[.ref d,.ref a]∧StAt H d c t ns∧t≤TB - 100∧NetAt H a net∧WFn net∧1≤net.length∧net.length≤400∧
 ∀ r ws t' ns' H',StAt H' d c t' ns'→t≤t'→t'≤t+10→Keep d c H H'→H' r=some (.tup (ws.map V.int))→Rise (net.length:Int) ws→1≤ws.length→ws.length≤4→Q (.ref r) H'
section
variable {P:Program} {w:World} {K:PySem.W.Frag} {mg:Str→Option Value} {base:Heap} {f:Addr} {fd:FuncData} {f_Ltake:Addr} {fd_Ltake:FuncData}
theorem pick0013 {k:Int} (h0:0≤k) (h1:k<4):∃ v,atI [V.int 0,V.int 0,V.int 1,V.int 3] k=some (.int v)∧0≤v∧v≤3:=by
 rcases (by omega:k=0∨k=1∨k=2∨k=3) with rfl | rfl | rfl | rfl
 all_goals exact ⟨_,rfl,by decide,by decide⟩
theorem sc_Lasked:FnScope ["_law_state","_law_net_here","_law_found","_law_turn"] ["_law_state","_law_net_here"] (defScope s_Lasked):=⟨rfl,rfl,rfl,by decide +kernel,rfl,by decide +kernel,by decide +kernel⟩
theorem ok_Lasked (F:Fun K "_law_asked" "_law_asked" s_Lasked f fd)
  (C_Ltake:Clb P w K mg base 1 f_Ltake fd_Ltake "_law_take" ["_law_state","_law_many"] spTake)
  (z_len:mg "len" = none) (z_min:mg "min" = none) (z_range:mg "range" = none) (z_set:mg "set" = none) (z_sorted:mg "sorted" = none) (z_tuple:mg "tuple" = none):FnOk P w K mg base CX0 2 f fd ["_law_state","_law_net_here"] spAsked4:=by
 refine F.ok sc_Lasked (fun vs H Q E h=>?_) (fun cdv A outer s H vs Q E hr h=>?_)
 ·obtain ⟨d,c,t,ns,a,net,rfl,_⟩:=h
  rfl
 obtain ⟨d,c,t,ns,a,net,rfl,S,ht,hN,wf,n1,n400,q⟩:=h
 have ht':t≤1000000000 - 100:=ht
 have hr_Ltake:Room 1 _:=hr
 refine ⟨_,(qA4 (qAE (i:=2) sc_Lasked.nd rfl (Or.inl rfl) (qB0 (qA0 (pe_op qCK (pe_op qCK (qAB qAA rfl z_len qAP (qA0 (pv 1) qA3)) qA7) (pe_cl C_Ltake hr rfl (qA0 (pv 0) (qA0 (qAB (call_min2 rfl) rfl z_min bt_min (qA0 (qAB qAA rfl z_len qAP (qA0 (pv 1) qA3)) (qA0 qA7 qA3))) qA3)))) qA3))) (qA4 (qB5 PassesOwn.never rfl (qB6 rfl z_range (qA0 (pe_ix qAR (qB0 (qA0 qA7 (qA0 qA7 (qA0 qA7 (qA0 qA7 qA3))))) (pe_cl C_Ltake hr rfl (qA0 (pv 0) (qA0 qA7 qA3))) (fun _ _=>rfl)) qA3)) (qA9 (i:=3) sc_Lasked.nd rfl (Or.inl rfl)) (qA6 (qBW (pe_bm PySem.F.plainAttrs_list PySem.F.slot_list_append PySem.F.type_list_append qAZ (pv 2) (qA0 (pe_cl C_Ltake hr rfl (qA0 (pv 0) (qA0 (qAB qAA rfl z_len qAP (qA0 (pv 1) qA3)) qA3))) qA3))))) (qA6 (qAG (qAI qAJ rfl z_tuple qAY (qA0 (qAB (qC0 rfl) rfl z_sorted qCE (qA0 (qAI (call_set rfl) rfl z_set bt_set (qA0 (pv 2) qA3)) qA3)) qA3)))))),?_⟩
 try dsimp only [Cx.nox,Cx.wish,cxOf]
 obtain ⟨rs,hA,NL⟩:=id hN
 have lrv:(((rs.map V.ref).length:Nat):Int)=(net.length:Int):=by rw [List.length_map,Paired.length NL]
 refine ⟨_,rfl,a,_,rfl,.inr (SqT.of hA),_,_,rfl,rfl,?_⟩
 refine ⟨_,rfl,_,rfl,a,_,rfl,.inr (SqT.of hA),_,_,rfl,?_⟩
 refine ⟨d,c,t,ns,_,rfl,S,(by show t≤1000000000;omega),by split <;> omega,by split <;> omega,fun k ns1 H1 k0 k1 S1 K1=>?_⟩
 have kb:0≤(net.length:Int) - 1 - k∧(net.length:Int) - 1 - k<(net.length:Int):=by
  rw [lrv] at k1
  split at k1 <;> omega
 refine ⟨_,_,rfl,rfl,(by show 1≤sizeLine;decide),fun fo hfo=>?_⟩
 dsimp only
 rw [lrv]
 generalize (net.length:Int) - 1 - k=x0 at kb
 have npd:fo ≠ d:=(qA5 S1.dict hfo).symm
 have npc:fo ≠ c:=(qA5 S1.list hfo).symm
 have S2:=S1.new hfo (.lst [.int x0])
 have k2:=K1.trans (qC7 (d:=d) (c:=c) hfo (.lst [.int x0]))
 have ffo:∀ o,H fo=some o→False:=fun o z=>by
  by_cases e1:fo=d
  ·exact npd e1
  ·by_cases e2:fo=c
   ·exact npc e2
   ·have:=K1 fo o z e1 e2
    rw [hfo] at this
    cases this
 have gfo:(upd H1 fo (.lst [.int x0])) fo=some (.lst ([x0].map V.int)):=qA1
 generalize upd H1 fo (.lst [.int x0])=H2 at S2 k2 gfo
 refine ⟨(by show 4≤sizeLine;decide),fun p hp=>?_⟩
 have np2d:p ≠ d:=(qA5 S2.dict hp).symm
 have np2c:p ≠ c:=(qA5 S2.list hp).symm
 have sp:=qA2 hp (.lst [.int 0,.int 0,.int 1,.int 3])
 refine ⟨_,rfl,d,c,t+1,ns1,4,rfl,S2.same sp,(by show t+1≤1000000000;omega),by decide,by decide,fun j ns3 H3 j0 j1 S3 K3=>?_⟩
 have gp:=K3 _ _ qA1 np2d np2c
 have gfo3:=K3 _ _ (sp _ _ gfo) npd npc
 have k3:=(k2.trans (.of_same sp)).trans K3
 obtain ⟨m,hm,m0,m3⟩:=pick0013 j0 j1
 refine ⟨p,_,_,_,rfl,rfl,SqL.of gp,hm,m,rfl,by omega,by omega,qCS (lo:=0) (n:=m.toNat) (fun i σ Hc=>∃ (t':Int) (ms fs:List Int) (v3:Option V),σ=[some (.ref d),some (.ref a),some (.ref fo),v3]∧StAt Hc d c t' ms∧t+2≤t'∧t'≤t+2+i∧Keep d c H Hc∧Hc fo=some (.lst (fs.map V.int))∧fs.length=i+1∧∀ x ∈ fs,0≤x∧x<(net.length:Int))
  ⟨t+1+1,ns3,[x0],none,rfl,S3,by omega,by omega,k3,gfo3,rfl,fun x hx=>by rw [List.mem_singleton.mp hx];exact kb⟩ ?_ ?_⟩
 ·refine fun i σ Hc hi hI_1=>opq fun G_1 hG_1=>?_
  obtain ⟨t',ms,fs,v3,rfl,S4,b1,b2,k4,gf,lf,fb⟩:=hI_1
  refine hG_1 ?_
  have hN4:=hN.keep S k4
  obtain ⟨rs,hA,NL⟩:=id hN4
  have lrv:(((rs.map V.ref).length:Nat):Int)=(net.length:Int):=by rw [List.length_map,Paired.length NL]
  refine ⟨_,rfl,.inl ⟨rfl,_,SqL.of gf⟩,_,rfl,_,rfl,a,_,rfl,.inr (SqT.of hA),d,c,t',ms,_,rfl,S4,(by show t'≤1000000000;omega),by rw [lrv];omega,by rw [lrv];omega,fun x ms5 H5 x0 x1 S5 K5=>?_⟩
  rw [lrv] at x1
  have gf5:=K5 _ _ gf npd npc
  refine ⟨fo,_,_,rfl,rfl,gf5,small1000 (by rw [List.length_map];omega),?_⟩
  refine ⟨t'+1,ms5,fs++[x],_,rfl,⟨by rw [qA8 (Ne.symm npd)];exact S5.dict,by rw [qA8 (Ne.symm npc)];exact S5.list,S5.ne,S5.len,S5.pos⟩,by omega,by omega,fun b u e n1 n2=>?_,by rw [qA1,List.map_append];rfl,by rw [List.length_append,List.length_singleton,lf],fun y hy=>?_⟩
  ·by_cases e3:b=fo
   ·subst e3
    exact (ffo _ e).elim
   ·rw [qA8 e3]
    exact (k4.trans K5) b u e n1 n2
  ·rcases List.mem_append.mp hy with hy | hy
   ·exact fb y hy
   ·rw [List.mem_singleton.mp hy]
    exact ⟨x0,x1⟩
 ·refine fun σ Hc hI_2=>opq fun G_2 hG_2=>?_
  obtain ⟨t',ms,fs,v3,rfl,S4,b1,b2,k4,gf,lf,fb⟩:=hI_2
  refine hG_2 ?_
  refine ⟨_,rfl,fo,fs,rfl,SqL.of gf,by omega,fun e he=>?_⟩
  have ld:=dedI_len fs
  refine ⟨e,dedI fs,rfl,.inr (.inr qA1),by omega,fun b ys hb hpm hs=>?_⟩
  refine ⟨b,_,rfl,.inl ⟨SqL.of qA1,fun r hr3=>?_⟩⟩
  have s1:=((qA2 he (SetO w e (dedI fs))).trans (qA2 hb (.lst (ys.map V.int)))).trans (qA2 hr3 (.tup (ys.map V.int)))
  have ne:fs ≠ []:=fun z=>by rw [z] at lf;simp at lf
  obtain ⟨y,hy⟩:=List.exists_mem_of_ne_nil fs ne
  refine q r ys t' ms _ (S4.same s1) (by omega) (by omega) (k4.trans (.of_same s1)) qA1 (rise_set hpm hs fb) (List.length_pos_of_mem (hpm.mem_iff.mpr (mem_dedI.mpr hy))) (by rw [hpm.length_eq];omega)
end
section
variable {P:Program} {w:World} {K:PySem.W.Frag} {mg:Str→Option Value} {base:Heap} {f:Addr} {fd:FuncData}
structure Fnd2 (net:List (List Int)) (asked ks:List Int) (j:Int):Prop where
 in_:∀ x ∈ ks,(0≤x∧x<(net.length:Int))∧Nd net asked x
 ask:∀ x ∈ asked,j≤x→x ∈ ks
 clo:∀ (w:Nat) zs,j≤(w:Int)→(w:Int) ∈ ks→net[w]?=some zs→∀ y ∈ zs,y ∈ ks
theorem repF:∀ n:Nat,(List.replicate n [V.bl false]).flatten=(List.replicate n false).map V.bl
 | 0=>rfl
 | n+1=>by rw [List.replicate_succ,List.replicate_succ,List.flatten_cons,repF n];rfl
structure Bls (n:Nat) (ks:List Int) (bs:List Bool):Prop where
 len:bs.length=n
 at_:∀ x:Nat,x<n→bs[x]?=some (decide ((x:Int) ∈ ks))
theorem Bls.set {n:Nat} {ks:List Int} {bs:List Bool} (h:Bls n ks bs) {x:Int} (h0:0≤x) (h1:x<n):Bls n (addI ks x) (bs.set x.toNat true):=by
 refine ⟨by rw [List.length_set];exact h.len,fun y hy=>?_⟩
 by_cases e:(y:Int)=x
 ·have e2:x.toNat=y:=by omega
  rw [e2,List.getElem?_set_self (by rw [h.len];exact hy),decide_eq_true (mem_addI.mpr (.inr e))]
 ·rw [List.getElem?_set_ne (by omega),h.at_ y hy]
  congr 1
  exact decide_eq_decide.mpr ⟨fun z=>mem_addI.mpr (.inl z),fun z=>(mem_addI.mp z).resolve_right e⟩
theorem get_bl {bs:List Bool} {i:Nat} {b:Bool} (h:bs[i]?=some b):(bs.map V.bl)[i]?=some (.bl b):=by rw [List.getElem?_map,h];rfl
theorem sc_Lneeded:FnScope ["_law_net_here","_law_asked_here","_law_found","_law_work","_law_need"] ["_law_net_here","_law_asked_here"] (defScope s_Lneeded):=⟨rfl,rfl,rfl,by decide +kernel,rfl,by decide +kernel,by decide +kernel⟩
theorem ok_Lneeded (F:Fun K "_law_needed" "_law_needed" s_Lneeded f fd) (z_len:mg "len" = none) (z_range:mg "range" = none):FnOk P w K mg base CX0 1 f fd ["_law_net_here","_law_asked_here"] spNeeded:=by
 refine F.ok sc_Lneeded (fun vs H Q E h=>?_) (fun cdv A outer s H vs Q E hr h=>?_)
 ·obtain ⟨a,t,net,asked,rfl,_⟩:=h
  rfl
 obtain ⟨a,t,net,asked,rfl,hN,wf,n1000,⟨hT,rA⟩,q⟩:=h
 refine ⟨_,(qA4 (qAE (i:=2) sc_Lneeded.nd rfl (Or.inr rfl) (pe_op op_rep (qB0 (qA0 pe_bl qA3)) (qAB qAA rfl z_len qAP (qA0 (pv 0) qA3)))) (qA4 (qB5 PassesOwn.never rfl (pi_down rfl z_range (qA0 (pe_op qCK (qAB qAA rfl z_len qAP (qA0 (pv 0) qA3)) qA7) (qA0 (pe_un qD2 qA7) (qA0 (pe_un qD2 qA7) qA3)))) (qA9 (i:=3) sc_Lneeded.nd rfl (Or.inl rfl)) (qA4 (ps_join (ps_if (qAC qCD (pv 3) (pv 1) (by with_unfolding_all rfl)) (qA6 (ps_asg pe_bl (pg_sub (pv 2) (pv 3) set_list))) qAH)) (qA6 (ps_if (pt_val (pe_ix qAR (pv 2) (pv 3) (fun _ _=>rfl))) (qA6 (qB5 PassesOwn.never rfl (qCB (pe_ix qAW (pv 0) (pv 3) (fun _ _=>rfl))) (qA9 (i:=4) sc_Lneeded.nd rfl (Or.inl rfl)) (qA6 (ps_asg pe_bl (pg_sub (pv 2) (pv 4) set_list))))) qAH)))) (qA6 (qAG (pe_lc rfl (lcs (own:=["_law_work"]) (fv:=[2]) (by kernel_rfl)) (qB6 rfl z_range (qA0 (qAB qAA rfl z_len qAP (qA0 (pv 0) qA3)) qA3)) (fun z1=>qA9 (i:=0) (nd_of (by kernel_rfl)) rfl (Or.inl rfl)) (fun z1=>(qBO (pt_val (pe_ix (ix_listK (K:=K) rfl) (pv 1) (pv 0) (fun _ _=>rfl))))) (fun z1=>(pv 0))))))),?_⟩
 try dsimp only [Cx.nox,Cx.wish,cxOf]
 obtain ⟨rs,hA,NL⟩:=id hN
 have lrv:(((rs.map V.ref).length:Nat):Int)=(net.length:Int):=by rw [List.length_map,Paired.length NL]
 refine ⟨(by show 1≤sizeLine;decide),fun p0 hp0=>?_⟩
 have s0:=qA2 hp0 (.lst [.bl false])
 refine ⟨_,rfl,a,_,rfl,.inr (SqT.of (s0 _ _ hA)),p0,_,_,rfl,rfl,qA1,by rw [lrv];omega,by rw [lrv];omega,?_,fun fo hfo=>?_⟩
 ·rw [lrv,sizeLine_eq];simp;omega
 have ffo:H fo=none:=s0.free hfo
 have s1:=s0.trans (qA2 hfo (.lst (List.replicate ((((rs.map V.ref).length:Nat):Int)).toNat [V.bl false]).flatten))
 have gfo:(upd (upd H p0 (.lst [.bl false])) fo (.lst (List.replicate ((((rs.map V.ref).length:Nat):Int)).toNat [V.bl false]).flatten)) fo=some (.lst ((List.replicate net.length false).map V.bl)):=by
  rw [qA1,repF,lrv,Int.toNat_natCast]
 generalize upd (upd H p0 (.lst [.bl false])) fo (.lst (List.replicate ((((rs.map V.ref).length:Nat):Int)).toNat [V.bl false]).flatten)=H1 at s1 gfo
 refine ⟨_,rfl,a,_,rfl,.inr (SqT.of (s1 _ _ hA)),_,_,rfl,rfl,_,rfl,_,rfl,_,_,rfl,⟨by rw [lrv];omega,by rw [lrv];omega,by decide,by decide⟩,for_down (lo:=(((rs.map V.ref).length:Nat):Int) - 1) (n:=((((rs.map V.ref).length:Nat):Int) - 1 - -1).toNat) (fun i σ Hc=>∃ (bs:List Bool) (ks:List Int) (v3 v4:Option V),σ=[some (.ref a),some (.ref t),some (.ref fo),v3,v4]∧Same H Hc∧Hc fo=some (.lst (bs.map V.bl))∧Bls net.length ks bs∧Fnd2 net asked ks ((net.length:Int) - i))
  ⟨_,[],none,none,rfl,s1,gfo,⟨by simp,fun x hx=>by simp [hx]⟩,⟨fun x hx=>(nomatch hx),fun x hx hl=>?_,fun w zs h1 h2=>(nomatch h2)⟩⟩ ?_ ?_⟩
 ·have:=(rA.in_ x hx).2
  omega
 ·refine fun i σ Hc hi hI_1=>opq fun G_1 hG_1=>?_
  obtain ⟨bs,ks,v3,v4,rfl,sm,hf,B,fn⟩:=hI_1
  refine hG_1 ?_
  rw [lrv] at hi ⊢
  obtain ⟨w0,ew⟩:∃ w0:Nat,(net.length:Int) - 1 - i=(w0:Int):=⟨net.length - 1 - i,by omega⟩
  have hw:w0<net.length:=by omega
  rw [ew]
  obtain ⟨r,h3,h4⟩:=NL.get (List.getElem?_eq_getElem hw)
  have hz:=List.getElem?_eq_getElem hw
  have rz:=wf w0 _ hz
  generalize net[w0]=zs at h4 hz rz
  have ix:∀ {bs:List Bool} {ks:List Int} {x:Int},Bls net.length ks bs→0≤x→x<(net.length:Int)→ixN (bs.map V.bl).length x=some x.toNat:=fun {bs ks x} B h0 h1=>by
   have:=ixN_nat (xs:=bs.map V.bl) (j:=x.toNat) (by rw [List.length_map,B.len];omega)
   rw [show ((x.toNat:Nat):Int)=x by omega] at this
   exact this
  -- asked
  refine ⟨fun σ Hc=>∃ (bs:List Bool) (ks:List Int),σ=[some (.ref a),some (.ref t),some (.ref fo),some (.int (w0:Int)),v4]∧Same H Hc∧Hc fo=some (.lst (bs.map V.bl))∧Bls net.length ks bs∧(∀ x ∈ ks,(0≤x∧x<(net.length:Int))∧Nd net asked x)∧(∀ x ∈ asked,(w0:Int)≤x→x ∈ ks)∧(∀ (w:Nat) zs,(w0:Int)+1≤(w:Int)→(w:Int) ∈ ks→net[w]?=some zs→∀ y ∈ zs,y ∈ ks),?_,?_⟩
  ·refine ⟨_,rfl,_,rfl,t,_,rfl,.inr (SqT.of (sm _ _ hT)),rfl,qAU asked,_,rfl,?_⟩
   rw [qBF]
   by_cases c:(w0:Int) ∈ asked
   ·rw [decide_eq_true c]
    refine ⟨_,rfl,_,rfl,fo,_,_,w0,rfl,rfl,hf,?_,?_⟩
    ·have:=ix B (x:=(w0:Int)) (by omega) (by omega)
     rw [Int.toNat_natCast] at this
     exact this
    ·have st:=B.set (x:=(w0:Int)) (by omega) (by omega)
     rw [Int.toNat_natCast] at st
     refine ⟨_,addI ks (w0:Int),rfl,qAF sm ffo,by rw [qA1,List.map_set],st,fun x hx=>?_,fun x hx hl=>?_,fun w1 ys h1 h2 h9 y hy=>?_⟩
     ·rcases mem_addI.mp hx with hx | hx
      ·exact fn.in_ x hx
      ·rw [hx]
       exact ⟨⟨by omega,by omega⟩,.ask c⟩
     ·by_cases e:x=(w0:Int)
      ·exact mem_addI.mpr (.inr e)
      ·exact mem_addI.mpr (.inl (fn.ask x hx (by omega)))
     ·rcases mem_addI.mp h2 with h2 | h2
      ·exact mem_addI.mpr (.inl (fn.clo w1 ys (by omega) h2 h9 y hy))
      ·omega
   ·rw [decide_eq_false c]
    refine ⟨bs,ks,rfl,sm,hf,B,fn.in_,fun x hx hl=>?_,fun w1 ys h1 h2 h9=>fn.clo w1 ys (by omega) h2 h9⟩
    by_cases e:x=(w0:Int)
    ·rw [e] at hx
     exact absurd hx c
    ·exact fn.ask x hx (by omega)
  refine fun σ Hc hI_2=>opq fun G_2 hG_2=>?_
  obtain ⟨bs,ks,rfl,sm,hf,B,f1,f2,f3⟩:=hI_2
  refine hG_2 ?_
  refine ⟨_,rfl,_,rfl,fo,_,_,_,rfl,rfl,SqL.of hf,qBB (by omega) (by rw [Int.toNat_natCast];exact get_bl (B.at_ w0 hw)),_,rfl,?_⟩
  by_cases c:(w0:Int) ∈ ks
  ·rw [decide_eq_true c]
   refine ⟨_,rfl,_,rfl,a,_,_,_,rfl,rfl,SqT.of (sm _ _ hA),qBB (by omega) (by rw [Int.toNat_natCast,List.getElem?_map,h3];rfl),r,rfl,⟨_,SqT.of (sm _ _ h4)⟩,for_tup (a:=r) (xs:=zs.map V.int) (fun k σ Hd=>∃ (bs:List Bool) (ks:List Int) (v4:Option V),σ=[some (.ref a),some (.ref t),some (.ref fo),some (.int (w0:Int)),v4]∧Same H Hd∧Hd fo=some (.lst (bs.map V.bl))∧Bls net.length ks bs∧(∀ x ∈ ks,(0≤x∧x<(net.length:Int))∧Nd net asked x)∧(∀ x ∈ asked,(w0:Int)≤x→x ∈ ks)∧(∀ (w:Nat) zs,(w0:Int)+1≤(w:Int)→(w:Int) ∈ ks→net[w]?=some zs→∀ y ∈ zs,y ∈ ks)∧(w0:Int) ∈ ks∧∀ y ∈ zs.take k,y ∈ ks)
    ⟨bs,ks,v4,rfl,sm,hf,B,f1,f2,f3,c,fun y hy=>by simp at hy⟩ (fun k σ Hd _ hP=>by obtain ⟨_,_,_,_,sd,_⟩:=hP;exact SqT.of (sd _ _ h4)) ?_ ?_⟩
   ·refine fun k x σ Hd hx hI_3=>opq fun G_3 hG_3=>?_
    obtain ⟨bs,ks,v4,rfl,sd,hfd,B,f1,f2,f3,c,ty⟩:=hI_3
    obtain ⟨y,ey,rfl⟩:=qAS hx
    refine hG_3 ?_
    have my:=List.mem_of_getElem? ey
    have yb:=rz.in_ y my
    refine ⟨_,rfl,_,rfl,fo,_,_,y.toNat,rfl,rfl,hfd,ix B yb.1 (by omega),?_⟩
    refine ⟨_,addI ks y,_,rfl,qAF sd ffo,by rw [qA1,List.map_set],B.set yb.1 (by omega),fun x hx=>?_,fun x hx hl=>mem_addI.mpr (.inl (f2 x hx hl)),fun w1 ys h1 h2 h9 z hz'=>?_,mem_addI.mpr (.inl c),fun z hz'=>?_⟩
    ·rcases mem_addI.mp hx with hx | hx
     ·exact f1 x hx
     ·rw [hx]
      exact ⟨⟨yb.1,by omega⟩,.need (f1 _ c).2 (by rw [Int.toNat_natCast];exact hz) my⟩
    ·rcases mem_addI.mp h2 with h2 | h2
     ·exact mem_addI.mpr (.inl (f3 w1 ys h1 h2 h9 z hz'))
     ·omega
    ·rw [List.take_add_one,ey,Option.toList_some,List.mem_append,List.mem_singleton] at hz'
     rcases hz' with hz' | hz'
     ·exact mem_addI.mpr (.inl (ty z hz'))
     ·exact mem_addI.mpr (.inr hz')
   ·refine fun σ Hd hI_4=>opq fun G_4 hG_4=>?_
    obtain ⟨bs,ks,v4,rfl,sd,hfd,B,f1,f2,f3,c,ty⟩:=hI_4
    refine hG_4 ?_
    rw [List.length_map,qBH rfl] at ty
    refine ⟨bs,ks,_,_,rfl,sd,hfd,B,f1,fun x hx hl=>f2 x hx (by omega),fun w1 ys h1 h2 h9=>?_⟩
    by_cases e:w1=w0
    ·subst e
     rw [hz] at h9
     cases h9
     exact ty
    ·exact f3 w1 ys (by omega) h2 h9
  ·rw [decide_eq_false c]
   refine ⟨bs,ks,_,_,rfl,sm,hf,B,f1,fun x hx hl=>f2 x hx (by omega),fun w1 ys h1 h2 h9=>?_⟩
   by_cases e:w1=w0
   ·subst e
    exact absurd h2 c
   ·exact f3 w1 ys (by omega) h2 h9
 ·refine fun σ Hc hI_5=>opq fun G_5 hG_5=>?_
  obtain ⟨bs,ks,v3,v4,rfl,sm,hf,B,fn⟩:=hI_5
  refine hG_5 ?_
  rw [lrv,show ((net.length:Int) - (((net.length:Int) - 1 - -1).toNat:Nat))=0 by omega] at fn
  have all:=Fnd.all wf (⟨fn.in_,fun x hx=>fn.ask x hx (rA.in_ x hx).1,fn.clo⟩:Fnd net asked ks 0)
  have lrn:((((rs.map V.ref).length:Nat):Int)).toNat=net.length:=by rw [lrv];omega
  refine ⟨_,rfl,a,_,rfl,.inr (SqT.of (sm _ _ hA)),_,rfl,by rw [lrv];omega,by rw [lrv];omega,fun p hp=>?_⟩
  refine qC6 (p:=p) (lo:=0) (n:=((((rs.map V.ref).length:Nat):Int)).toNat) (fun i σ Hd=>∃ (v:Option V),σ=[v,some (.ref fo)]∧Same Hc Hd∧Hd p=some (.lst ((((rangeI 0 net.length).take i).filter fun x=>decide (x ∈ ks)).map V.int))) ?_ ?_ ?_
  ·exact ⟨none,rfl,qA2 hp _,qA1⟩
  ·refine fun i σ Hd hi hI_6=>opq fun G_6 hG_6=>?_
   obtain ⟨v,rfl,sd,hpd⟩:=hI_6
   refine hG_6 ?_
   rw [lrn] at hi
   have lk:=qBZ (p:=fun x=>decide (x ∈ ks)) (l:=rangeI 0 net.length) (i:=i)
   refine ⟨_,rfl,_,rfl,fo,_,_,_,rfl,rfl,SqL.of (sd _ _ hf),qBB (by omega) (by rw [show (0+(i:Int)).toNat=i by omega];exact get_bl (B.at_ i hi)),_,rfl,?_⟩
   rw [qBG (rangeI0_get (by omega)),Int.zero_add]
   by_cases c:(i:Int) ∈ ks
   ·rw [decide_eq_true c]
    refine ⟨_,rfl,_,hpd,small1000 (by rw [List.length_map];omega),_,rfl,qAF sd hp,?_⟩
    rw [qA1,if_pos rfl,List.map_append]
    rfl
   ·rw [decide_eq_false c]
    refine ⟨_,rfl,sd,?_⟩
    simpa using hpd
  ·refine fun σ Hd hI_7=>opq fun G_7 hG_7=>?_
   obtain ⟨v,rfl,sd,hpd⟩:=hI_7
   refine hG_7 ?_
   rw [qBH (by rw [rangeI_len,lrn];omega)] at hpd
   refine q p _ Hd (sm.trans sd) (sm.free hp) hpd ⟨⟨(rangeI_up _ _).filter _,fun x hx=>mem_rangeI.mp (List.mem_filter.mp hx).1⟩,fun x=>?_⟩
   rw [List.mem_filter,mem_rangeI,decide_eq_true_eq,← all x]
   exact ⟨fun z=>z.2,fun z=>⟨(fn.in_ x z).1,z⟩⟩
end
section
variable {P:Program} {w:World} {K:PySem.W.Frag} {mg:Str→Option Value} {base:Heap} {f:Addr} {fd:FuncData}
theorem sc_Lword:FnScope ["_law_net_here","_law_rooms","_law_stand","_law_move"] ["_law_net_here","_law_rooms","_law_stand","_law_move"] (defScope s_Lword):=⟨rfl,rfl,rfl,by decide +kernel,rfl,by decide +kernel,by decide +kernel⟩
theorem ok_Lword (F:Fun K "_law_word" "_law_word" s_Lword f fd) (z_len:mg "len" = none) (z_all:mg "all" = none):FnOk P w K mg base CX0 1 f fd ["_law_net_here","_law_rooms","_law_stand","_law_move"] spFault:=by
 refine F.ok sc_Lword (fun vs H Q E h=>?_) (fun cdv A outer s H vs Q E hr h=>?_)
 ·obtain ⟨a,so,mv,net,st,ns,rooms,wk,word,rfl,_⟩:=h
  rfl
 obtain ⟨a,so,mv,net,st,ns,rooms,wk,word,rfl,hN,hst,lst,hmv,hword,wk0,hns,lns,q⟩:=h
 refine ⟨_,(qA4 (ps_if (qAC op_eq (pe_ix qAW (pv 3) qA7 (fun _ _=>rfl)) qAL (nomark _)) (qA6 (qAG (pe_ifExp (qAC qCD (pe_ix qAW (pv 3) qA7 (fun _ _=>rfl)) (pv 2) (by with_unfolding_all rfl)) pe_non qAL))) qAH) (qA4 (ps_if (qAC qCD (pe_ix qAW (pv 3) qA7 (fun _ _=>rfl)) (pv 2) (by with_unfolding_all rfl)) (qA6 (qAG qAL)) qAH) (qA4 (ps_if (pt_not (pt_val (qAB (call_all rfl) rfl z_all bt_all (qA0 (pe_lc rfl (lcs (own:=["_law_need"]) (fv:=[2]) (by kernel_rfl)) (qCB (pe_ix qAW (pv 0) (pe_ix qAW (pv 3) qA7 (fun _ _=>rfl)) (fun _ _=>rfl))) (fun z1=>qA9 (i:=0) (nd_of (by kernel_rfl)) rfl (Or.inl rfl)) (fun z1=>qBC) (fun z1=>(qCQ (op_inK (K:=K) rfl) (pv 0) (pv 1) (by with_unfolding_all rfl)))) qA3)))) (qA6 (qAG qAL)) qAH) (qA6 (qAG (pe_ifExp (qAC op_ge (qAB qAA rfl z_len qAP (qA0 (pv 2) qA3)) (pv 1) (nomark _)) qAL pe_non)))))),?_⟩
 try dsimp only [Cx.nox,Cx.wish,cxOf]
 refine ⟨_,rfl,mv,_,_,_,rfl,rfl,SqT.of hmv,rfl,rfl,_,rfl,?_⟩
 refine ite2 (fun ck=>?_) (fun ck=>?_)
 ·have hd:word = "clear":=V.str.inj (of_decide_eq_true ck)
  have q':=q H (Same.refl H)
  unfold wordOf wordClear at q'
  rw [if_neg (by rw [hd];exact qAD)] at q'
  refine ⟨_,rfl,mv,_,_,_,rfl,rfl,SqT.of hmv,rfl,_,rfl,so,_,rfl,.inr (SqT.of hst),rfl,qAU st,_,rfl,?_⟩
  rw [qBF]
  refine ite2 (fun cw=>?_) (fun cw=>?_)
  ·rw [if_pos (of_decide_eq_true cw)] at q'
   exact q'
  ·rw [if_neg (of_decide_eq_false (Bool.eq_false_iff.mpr cw))] at q'
   exact q'
 ·have hd:word = "do":=hword.resolve_right fun e=>(of_decide_eq_false (Bool.eq_false_iff.mpr ck)) (congrArg V.str e)
  have q1:∀ H',Same H H'→Q (wordDo ns st rooms wk) H':=fun H' sm=>by
   have q':=q H' sm
   unfold wordOf at q'
   rw [if_pos hd] at q'
   exact q'
  refine ⟨_,rfl,mv,_,_,_,rfl,rfl,SqT.of hmv,rfl,_,rfl,so,_,rfl,.inr (SqT.of hst),rfl,qAU st,_,rfl,?_⟩
  rw [qBF]
  refine ite2 (fun cw=>?_) (fun cw=>?_)
  ·have q':=q1 H (Same.refl H)
   unfold wordDo at q'
   rw [if_pos (of_decide_eq_true cw)] at q'
   exact q'
  ·have hw:¬ wk ∈ st:=of_decide_eq_false (Bool.eq_false_iff.mpr cw)
   obtain ⟨rs,r,h1,l1,h2,h3⟩:=hN.get hns
   refine ⟨_,rfl,_,rfl,mv,_,_,_,rfl,rfl,SqT.of hmv,rfl,a,_,_,_,rfl,rfl,SqT.of h1,qBB wk0 h2,r,rfl,⟨_,SqT.of h3⟩,fun p hp=>?_⟩
   refine qD3 (p:=p) (a:=r) (xs:=ns.map V.int) (fun i σ Hc=>∃ (v:Option V),σ=[v,some (.ref so)]∧Same H Hc∧Hc p=some (.lst (((ns.take i).map fun x=>decide (x ∈ st)).map V.bl))) ?_ ?_ ?_ ?_
   ·exact ⟨none,rfl,qA2 hp _,qA1⟩
   ·rintro i σ Hc hi ⟨v,rfl,sm,_⟩
    exact SqT.of (sm _ _ h3)
   ·refine fun i x σ Hc hx hI_2=>opq fun G_2 hG_2=>?_
    obtain ⟨v,rfl,sm,hpc⟩:=hI_2
    obtain ⟨z,ez,rfl⟩:=qAS hx
    refine hG_2 ?_
    have hi:i<ns.length:=(List.getElem?_eq_some_iff.mp ez).1
    refine ⟨_,rfl,_,rfl,so,_,rfl,.inr (SqT.of (sm _ _ hst)),rfl,qAU st,_,hpc,small1000 (by rw [List.length_map,List.length_map,List.length_take];omega),_,rfl,qAF sm hp,?_⟩
    rw [qA1]
    refine congrArg (fun l=>some (HO.lst l)) ?_
    rw [← take_snoc_all ez]
    show _++[V.bl (inV (.int z) (st.map V.int))]=_
    rw [qBF]
   ·refine fun σ Hc hI_3=>opq fun G_3 hG_3=>?_
    obtain ⟨v,rfl,sm,hpc⟩:=hI_3
    refine hG_3 ?_
    rw [List.length_map,List.take_of_length_le (Nat.le_refl _)] at hpc
    refine ⟨p,_,rfl,SqL.of hpc,_,rfl,?_⟩
    have q':=q1 Hc sm
    unfold wordDo at q'
    rw [if_neg hw] at q'
    cases hall:(ns.map fun x=>decide (x ∈ st)).all id with
    | false=>
     have na:¬ ∀ x ∈ ns,x ∈ st:=fun z=>by rw [all_in.mpr z] at hall;cases hall
     rw [if_neg na] at q'
     exact q'
    | true=>
     rw [if_pos (all_in.mp hall)] at q'
     refine ⟨_,rfl,so,_,rfl,.inr (SqT.of (sm _ _ hst)),_,rfl,_,_,rfl,rfl,_,rfl,?_⟩
     refine ite2 (fun cf=>?_) (fun cf=>?_)
     ·have cf':rooms≤(((st.map V.int).length:Nat):Int):=of_decide_eq_true cf
      rw [List.length_map] at cf'
      rw [if_pos cf'] at q'
      exact q'
     ·have cf':¬ rooms≤(((st.map V.int).length:Nat):Int):=of_decide_eq_false (Bool.eq_false_iff.mpr cf)
      rw [List.length_map] at cf'
      rw [if_neg cf'] at q'
      exact q'
end
section
variable {P:Program} {w:World} {K:PySem.W.Frag} {mg:Str→Option Value} {base:Heap} {f:Addr} {fd:FuncData}
theorem sc_Lbehind:FnScope ["_law_stand","_law_move"] ["_law_stand","_law_move"] (defScope s_Lbehind):=⟨rfl,rfl,rfl,by decide +kernel,rfl,by decide +kernel,by decide +kernel⟩
theorem ok_Lbehind (F:Fun K "_law_behind" "_law_behind" s_Lbehind f fd) (z_sorted:mg "sorted" = none) (z_tuple:mg "tuple" = none):FnOk P w K mg base CX0 1 f fd ["_law_stand","_law_move"] spBehindS:=by
 refine F.ok sc_Lbehind (fun vs H Q E h=>?_) (fun cdv A outer s H vs Q E hr h=>?_)
 ·obtain ⟨so,mv,st,word,wk,rfl,_⟩:=h
  rfl
 obtain ⟨so,mv,st,word,wk,rfl,hst,lst,hmv,hword,q⟩:=h
 refine ⟨_,(qA4 (ps_if (qAC op_eq (pe_ix qAW (pv 1) qA7 (fun _ _=>rfl)) qAL (nomark _)) (qA6 (qAG (qAI qAJ rfl z_tuple qAY (qA0 (qAB (qC0 rfl) rfl z_sorted qCE (qA0 (pe_op op_catA (pv 0) (qB7 (qA0 (pe_ix qAW (pv 1) qA7 (fun _ _=>rfl)) qA3))) qA3)) qA3)))) qAH) (qA6 (qAG (qAI qAJ rfl z_tuple qAY (qA0 (pe_lc rfl (lcs (own:=["_law_work"]) (fv:=[1]) (by kernel_rfl)) (qCB (pv 0)) (fun z1=>qA9 (i:=0) (nd_of (by kernel_rfl)) rfl (Or.inl rfl)) (fun z1=>(qBO (qAC op_ne (pv 0) (pe_ix (qBX (K:=K) rfl) (pv 1) qA7 (fun _ _=>rfl)) (nomark _)))) (fun z1=>(pv 0))) qA3))))),?_⟩
 try dsimp only [Cx.nox,Cx.wish,cxOf]
 refine ⟨_,rfl,mv,_,_,_,rfl,rfl,SqT.of hmv,rfl,rfl,_,rfl,?_⟩
 refine ite2 (fun ck=>?_) (fun ck=>?_)
 ·have hd:word = "do":=V.str.inj (of_decide_eq_true ck)
  refine ⟨_,rfl,_,rfl,mv,_,_,_,rfl,rfl,SqT.of hmv,rfl,(by show 1≤sizeLine;decide),fun T hT=>?_⟩
  have sT:=qA2 hT (.tup [.int wk])
  have fin:∀ (p:Addr) (H1:Hp),Same H H1→H1 p=some (.tup ((st++[wk]).map V.int))→∀ (b:Addr) (zs:List Int),H1 b=none→zs.Perm (st++[wk])→zs.Pairwise (·≤·)→∀ r,(upd H1 b (.lst (zs.map V.int))) r=none→Q (.ref r) (upd (upd H1 b (.lst (zs.map V.int))) r (.tup (zs.map V.int))):=by
   intro p H1 s1 hp b zs hb hpm hs r hr
   refine q r zs _ (s1.trans ((qA2 hb _).trans (qA2 hr _))) qA1 ⟨fun _=>⟨hpm,hs⟩,fun z=>?_⟩
   rw [hd] at z
   exact absurd z.symm qAD
  refine ⟨so,T,st.map V.int,[.int wk],rfl,rfl,SqT.of (sT _ _ hst),SqT.of qA1,by simp,Nat.le_of_lt (qAO (by rw [List.length_map,List.length_singleton];omega)),fun z=>?_,fun z p hp=>?_⟩
  ·have e:st=[]:=List.map_eq_nil_iff.mp z
   have g:(upd H T (.tup [.int wk])) T=some (.tup ((st++[wk]).map V.int)):=by rw [qA1,e];rfl
   exact ⟨T,st++[wk],rfl,.inr (.inl (SqT.of g)),(by rw [List.length_append,List.length_singleton];omega),fun b zs hb hpm hs=>⟨b,_,rfl,.inl ⟨SqL.of qA1,fun r hr=>fin T _ sT g b zs hb hpm hs r hr⟩⟩⟩
  ·have g:(upd (upd H T (.tup [.int wk])) p (.tup (st.map V.int++[.int wk]))) p=some (.tup ((st++[wk]).map V.int)):=by rw [qA1,List.map_append];rfl
   exact ⟨p,st++[wk],rfl,.inr (.inl (SqT.of g)),(by rw [List.length_append,List.length_singleton];omega),fun b zs hb hpm hs=>⟨b,_,rfl,.inl ⟨SqL.of qA1,fun r hr=>fin p _ (sT.trans (qA2 hp _)) g b zs hb hpm hs r hr⟩⟩⟩
 ·have hd:word = "clear":=hword.resolve_left fun e=>(of_decide_eq_false (Bool.eq_false_iff.mpr ck)) (congrArg V.str e)
  refine ⟨_,rfl,so,rfl,⟨_,SqT.of hst⟩,fun p hp=>?_⟩
  refine qD3 (p:=p) (a:=so) (xs:=st.map V.int) (fun i σ Hc=>∃ (v:Option V),σ=[v,some (.ref mv)]∧Same H Hc∧Hc p=some (.lst (((st.take i).filter fun x=>decide (x ≠ wk)).map V.int))) ?_ ?_ ?_ ?_
  ·exact ⟨none,rfl,qA2 hp _,qA1⟩
  ·rintro i σ Hc hi ⟨v,rfl,sm,_⟩
   exact SqT.of (sm _ _ hst)
  ·refine fun i x σ Hc hx hI_2=>opq fun G_2 hG_2=>?_
   obtain ⟨v,rfl,sm,hpc⟩:=hI_2
   obtain ⟨y,ey,rfl⟩:=qAS hx
   refine hG_2 ?_
   have hi:=(List.getElem?_eq_some_iff.mp ey).1
   have lk:=qBZ (p:=fun x=>decide (x ≠ wk)) (l:=st) (i:=i)
   refine ⟨_,rfl,_,rfl,mv,_,_,_,rfl,rfl,SqT.of (sm _ _ hmv),rfl,rfl,_,rfl,?_⟩
   rw [qBG ey]
   by_cases e:y=wk
   ·rw [decide_eq_true (show V.int y=V.int wk by rw [e]),decide_eq_false (show ¬ y ≠ wk from fun z=>z e)]
    refine ⟨_,rfl,sm,?_⟩
    simpa using hpc
   ·rw [decide_eq_false (show ¬ V.int y=V.int wk from fun z=>e (V.int.inj z)),decide_eq_true (show y ≠ wk from e)]
    refine ⟨_,rfl,_,hpc,small1000 (by rw [List.length_map];omega),_,rfl,qAF sm hp,?_⟩
    rw [qA1,if_pos rfl,List.map_append]
    rfl
  ·refine fun σ Hc hI_3=>opq fun G_3 hG_3=>?_
   obtain ⟨v,rfl,sm,hpc⟩:=hI_3
   refine hG_3 ?_
   rw [List.length_map,qBH rfl] at hpc
   refine ⟨p,_,rfl,.inl ⟨SqL.of hpc,fun r hr=>?_⟩⟩
   refine q r _ _ (sm.trans (qA2 hr _)) qA1 ⟨fun z=>?_,fun _=>rfl⟩
   rw [hd] at z
   exact absurd z qAD
theorem sc_stand_behind:FnScope ["stand","move"] ["stand","move"] (defScope qBI):=⟨rfl,rfl,rfl,by decide +kernel,rfl,by decide +kernel,by decide +kernel⟩
theorem ok_stand_behind (F:Fun K "stand_behind" "stand_behind" qBI f fd) (z_sorted:mg "sorted" = none) (z_tuple:mg "tuple" = none):FnOk P w K mg base CX0 1 f fd ["stand","move"] spBehindS:=by
 refine F.ok sc_stand_behind (fun vs H Q E h=>?_) (fun cdv A outer s H vs Q E hr h=>?_)
 ·obtain ⟨so,mv,st,word,wk,rfl,_⟩:=h
  rfl
 obtain ⟨so,mv,st,word,wk,rfl,hst,lst,hmv,hword,q⟩:=h
 refine ⟨_,(qA4 (ps_if (qAC op_eq (pe_ix qAW (pv 1) qA7 (fun _ _=>rfl)) qAL (nomark _)) (qA6 (qAG (qAI qAJ rfl z_tuple qAY (qA0 (qAB (qC0 rfl) rfl z_sorted qCE (qA0 (pe_op op_catA (pv 0) (qB7 (qA0 (pe_ix qAW (pv 1) qA7 (fun _ _=>rfl)) qA3))) qA3)) qA3)))) qAH) (qA6 (qAG (qAI qAJ rfl z_tuple qAY (qA0 (pe_lc rfl (lcs (own:=["result"]) (fv:=[1]) (by kernel_rfl)) (qCB (pv 0)) (fun z2=>qA9 (i:=0) (nd_of (by kernel_rfl)) rfl (Or.inl rfl)) (fun z2=>(qBO (qAC op_ne (pv 0) (pe_ix (qBX (K:=K) rfl) (pv 1) qA7 (fun _ _=>rfl)) (nomark _)))) (fun z2=>(pv 0))) qA3))))),?_⟩
 try dsimp only [Cx.nox,Cx.wish,cxOf]
 refine ⟨_,rfl,mv,_,_,_,rfl,rfl,SqT.of hmv,rfl,rfl,_,rfl,?_⟩
 refine ite2 (fun ck=>?_) (fun ck=>?_)
 ·have hd:word = "do":=V.str.inj (of_decide_eq_true ck)
  refine ⟨_,rfl,_,rfl,mv,_,_,_,rfl,rfl,SqT.of hmv,rfl,(by show 1≤sizeLine;decide),fun T hT=>?_⟩
  have sT:=qA2 hT (.tup [.int wk])
  have fin:∀ (p:Addr) (H1:Hp),Same H H1→H1 p=some (.tup ((st++[wk]).map V.int))→∀ (b:Addr) (zs:List Int),H1 b=none→zs.Perm (st++[wk])→zs.Pairwise (·≤·)→∀ r,(upd H1 b (.lst (zs.map V.int))) r=none→Q (.ref r) (upd (upd H1 b (.lst (zs.map V.int))) r (.tup (zs.map V.int))):=by
   intro p H1 s1 hp b zs hb hpm hs r hr
   refine q r zs _ (s1.trans ((qA2 hb _).trans (qA2 hr _))) qA1 ⟨fun _=>⟨hpm,hs⟩,fun z=>?_⟩
   rw [hd] at z
   exact absurd z.symm qAD
  refine ⟨so,T,st.map V.int,[.int wk],rfl,rfl,SqT.of (sT _ _ hst),SqT.of qA1,by simp,Nat.le_of_lt (qAO (by rw [List.length_map,List.length_singleton];omega)),fun z=>?_,fun z p hp=>?_⟩
  ·have e:st=[]:=List.map_eq_nil_iff.mp z
   have g:(upd H T (.tup [.int wk])) T=some (.tup ((st++[wk]).map V.int)):=by rw [qA1,e];rfl
   exact ⟨T,st++[wk],rfl,.inr (.inl (SqT.of g)),(by rw [List.length_append,List.length_singleton];omega),fun b zs hb hpm hs=>⟨b,_,rfl,.inl ⟨SqL.of qA1,fun r hr=>fin T _ sT g b zs hb hpm hs r hr⟩⟩⟩
  ·have g:(upd (upd H T (.tup [.int wk])) p (.tup (st.map V.int++[.int wk]))) p=some (.tup ((st++[wk]).map V.int)):=by rw [qA1,List.map_append];rfl
   exact ⟨p,st++[wk],rfl,.inr (.inl (SqT.of g)),(by rw [List.length_append,List.length_singleton];omega),fun b zs hb hpm hs=>⟨b,_,rfl,.inl ⟨SqL.of qA1,fun r hr=>fin p _ (sT.trans (qA2 hp _)) g b zs hb hpm hs r hr⟩⟩⟩
 ·have hd:word = "clear":=hword.resolve_left fun e=>(of_decide_eq_false (Bool.eq_false_iff.mpr ck)) (congrArg V.str e)
  refine ⟨_,rfl,so,rfl,⟨_,SqT.of hst⟩,fun p hp=>?_⟩
  refine qD3 (p:=p) (a:=so) (xs:=st.map V.int) (fun i σ Hc=>∃ (v:Option V),σ=[v,some (.ref mv)]∧Same H Hc∧Hc p=some (.lst (((st.take i).filter fun x=>decide (x ≠ wk)).map V.int))) ?_ ?_ ?_ ?_
  ·exact ⟨none,rfl,qA2 hp _,qA1⟩
  ·rintro i σ Hc hi ⟨v,rfl,sm,_⟩
   exact SqT.of (sm _ _ hst)
  ·refine fun i x σ Hc hx hI_5=>opq fun G_5 hG_5=>?_
   obtain ⟨v,rfl,sm,hpc⟩:=hI_5
   obtain ⟨y,ey,rfl⟩:=qAS hx
   refine hG_5 ?_
   have hi:=(List.getElem?_eq_some_iff.mp ey).1
   have lk:=qBZ (p:=fun x=>decide (x ≠ wk)) (l:=st) (i:=i)
   refine ⟨_,rfl,_,rfl,mv,_,_,_,rfl,rfl,SqT.of (sm _ _ hmv),rfl,rfl,_,rfl,?_⟩
   rw [qBG ey]
   by_cases e:y=wk
   ·rw [decide_eq_true (show V.int y=V.int wk by rw [e]),decide_eq_false (show ¬ y ≠ wk from fun z=>z e)]
    refine ⟨_,rfl,sm,?_⟩
    simpa using hpc
   ·rw [decide_eq_false (show ¬ V.int y=V.int wk from fun z=>e (V.int.inj z)),decide_eq_true (show y ≠ wk from e)]
    refine ⟨_,rfl,_,hpc,small1000 (by rw [List.length_map];omega),_,rfl,qAF sm hp,?_⟩
    rw [qA1,if_pos rfl,List.map_append]
    rfl
  ·refine fun σ Hc hI_6=>opq fun G_6 hG_6=>?_
   obtain ⟨v,rfl,sm,hpc⟩:=hI_6
   refine hG_6 ?_
   rw [List.length_map,qBH rfl] at hpc
   refine ⟨p,_,rfl,.inl ⟨SqL.of hpc,fun r hr=>?_⟩⟩
   refine q r _ _ (sm.trans (qA2 hr _)) qA1 ⟨fun z=>?_,fun _=>rfl⟩
   rw [hd] at z
   exact absurd z qAD
end
section
variable {P:Program} {w:World} {K:PySem.W.Frag} {mg:Str→Option Value} {base:Heap} {f:Addr} {fd:FuncData} {c_Barred f_init_Barred f_fault_of f_stand_behind:Addr} {fd_init_Barred fd_fault_of fd_stand_behind:FuncData}
theorem sc_init_Barred:FnScope ["self","move","word"] ["self","move","word"] (defScope qB1):=⟨rfl,rfl,rfl,by decide +kernel,rfl,by decide +kernel,by decide +kernel⟩
theorem ok_init_Barred (F:Fun K "__init__" "Barred.__init__" qB1 f fd) (x_Barred:XCls K c_Barred (some (.ref f))) (n_move:PySem.W.findIn K (.ref c_Barred) "move" = some none) (n_word:PySem.W.findIn K (.ref c_Barred) "word" = some none):FnOk P w K mg base CX0 1 f fd ["self","move","word"] (spInit2 c_Barred):=by
 refine F.ok sc_init_Barred (fun vs H Q E h=>?_) (fun cdv A outer s H vs Q E hr h=>?_)
 ·obtain ⟨x,a,b,rfl,_⟩:=h
  rfl
 obtain ⟨x,a,b,rfl,hx,q⟩:=h
 refine ⟨_,(qA4 (ps_xfld x_Barred (pv 0) (pv 1)) (qA6 (ps_xfld x_Barred (pv 0) (pv 2)))),?_⟩
 try dsimp only [Cx.nox,Cx.wish,cxOf]
 refine ⟨_,rfl,_,rfl,x,none,rfl,hx,n_move,.inl ⟨rfl,fun dx hdx nx=>?_⟩⟩
 refine ⟨_,rfl,_,rfl,x,some dx,rfl,qA1,n_word,.inr ⟨dx,[("move",a)],rfl,nx,by rw [qA8 nx];exact qA1,(by show 1<1000;decide),?_⟩⟩
 rw [upd_norm2 nx]
 exact q dx hdx nx
theorem sc_played:FnScope ["net","rooms","plan","stand","stands","number","move","word"] ["net","rooms","plan"] (defScope s_played):=⟨rfl,rfl,rfl,by decide +kernel,rfl,by decide +kernel,by decide +kernel⟩
theorem ok_played (F:Fun K "played" "played" s_played f fd) (x_Barred:XCls K c_Barred (some (.ref f_init_Barred))) (fi_Barred:PySem.W.isFn K (.ref f_init_Barred)=true) (m_Barred:mg "Barred" = some (.ref c_Barred))
  (G_init_Barred:FnOk P w K mg base CX0 1 f_init_Barred fd_init_Barred ["self","move","word"] (spInit2 c_Barred)) (b_init_Barred:Binds K fd_init_Barred ["self","move","word"] [])
  (C_fault_of:Clb P w K mg base 2 f_fault_of fd_fault_of "fault_of" ["net","rooms","stand","move"] spFault)
  (C_stand_behind:Clb P w K mg base 1 f_stand_behind fd_stand_behind "stand_behind" ["stand","move"] spBehindS)
  (z_enumerate:mg "enumerate" = none):FnOk P w K mg base (CX1 P w) 3 f fd ["net","rooms","plan"] (spPlay2 c_Barred):=by
 refine F.okX sc_played (fun vs H Q E h=>?_) (fun cdv A outer s H vs Q E hr h=>?_)
 ·obtain ⟨a,l,net,ms,rooms,rfl,_⟩:=h
  rfl
 obtain ⟨a,l,net,ms,rooms,rfl,⟨hN,wf,n400,⟨rs,hl,M⟩,l10,hms,r0,r500⟩,q,qE⟩:=h
 have hr_fault_of:Room 2 _:=hr
 have hr_init_Barred:Room 2 _:=hr
 refine ⟨_,(qA4 (qAE (i:=3) sc_played.nd rfl (Or.inl rfl) (qB7 qA3)) (qA4 (qAE (i:=4) sc_played.nd rfl (Or.inl rfl) (qB0 (qA0 (pv 3) qA3))) (qA4 (qB5 own1 rfl (pi_enum rfl z_enumerate qBN (qA0 (pv 2) qA3)) (qCJ rfl (qAK (qA9 (i:=5) sc_played.nd rfl (Or.inl rfl)) (qAK (qA9 (i:=6) sc_played.nd rfl (Or.inl rfl)) qBP))) (qA4 (qAE (i:=7) sc_played.nd rfl (Or.inl rfl) (pe_cl C_fault_of hr rfl (qA0 (pv 0) (qA0 (pv 1) (qA0 (pv 3) (qA0 (pv 6) qA3)))))) (qA4 (ps_if (pt_cmp (pc_notN (pv 7))) (qA6 (ps_raiseC rfl rfl x_Barred fi_Barred G_init_Barred hr_init_Barred rfl m_Barred b_init_Barred (qA0 (pv 5) (qA0 (pv 7) qA3)) (by decide))) qAH) (qA4 (qAE (i:=3) sc_played.nd rfl (Or.inl rfl) (pe_cl C_stand_behind hr rfl (qA0 (pv 3) (qA0 (pv 6) qA3)))) (qA6 (qBW (pe_bm PySem.F.plainAttrs_list PySem.F.slot_list_append PySem.F.type_list_append qAZ (pv 4) (qA0 (pv 3) qA3)))))))) (qA6 (qAG (pv 4)))))),?_⟩
 try dsimp only [Cx.nox,Cx.wish,cxOf]
 have lrs:=Paired.length M
 refine ⟨(by show 0≤sizeLine;decide),fun e he=>?_⟩
 refine ⟨_,rfl,(by show 1≤sizeLine;decide),fun ls hls=>?_⟩
 have s1:=qA2 he (.tup [])
 have s2:=s1.trans (qA2 hls (.lst [.ref e]))
 have fls:H ls=none:=s1.free hls
 refine ⟨_,rfl,l,rfl,⟨_,SqL.of (s2 _ _ hl)⟩,for_enum (a:=l) (xs:=rs.map V.ref) (fun k σ Hc=>∃ (ss:List Addr) (sts:List (List Int)) (r:Addr) (st:List Int) (v5 v6 v7:Option V),σ=[some (.ref a),some (.int rooms),some (.ref l),some (.ref r),some (.ref ls),v5,v6,v7]∧Same H Hc∧Hc ls=some (.lst (ss.map V.ref))∧NetL Hc ss ([]::sts)∧Hc r=some (.tup (st.map V.int))∧Rise (net.length:Int) st∧sts.length=k∧∀ sts' v,Play net rooms st (ms.drop k) sts' v→Play net rooms [] ms (sts++sts') v)
  ⟨[e],[],e,[],none,none,none,rfl,s2,qA1,.cons ((qA2 hls (.lst [.ref e])) _ _ qA1) .nil,(qA2 hls (.lst [.ref e])) _ _ qA1,Rise.nil,rfl,fun sts' v p=>p⟩ (fun k σ Hc _ hP=>by obtain ⟨_,_,_,_,_,_,_,_,sm,_⟩:=hP;exact SqL.of (sm _ _ hl)) ?_ ?_⟩
 ·refine fun k x σ Hc T hx hI_1 hT=>opq fun G_1 hG_1=>?_
  obtain ⟨ss,sts,r,st,v5,v6,v7,rfl,sm,hlc,N,hrc,fit,lk,go⟩:=hI_1
  refine hG_1 ?_
  have lfit:=fit.len
  obtain ⟨mv,hmv,rfl⟩:=qBQ hx
  obtain ⟨⟨word,wk⟩,hm,hH⟩:=qAN M hmv
  have hk:=(List.getElem?_eq_some_iff.mp hm).1
  obtain ⟨hw,wk0,wk1⟩:=hms _ (List.mem_of_getElem? hm)
  dsimp only at hw wk0 wk1 hH
  have ed:ms.drop k=(word,wk)::ms.drop (k+1):=by
   obtain ⟨hk',e⟩:=List.getElem?_eq_some_iff.mp hm
   rw [List.drop_eq_getElem_cons hk',e]
  have hwn:wk.toNat<net.length:=by omega
  have hns:=List.getElem?_eq_getElem hwn
  have lns:=(wf wk.toNat _ hns).len
  generalize net[wk.toNat]=ns at hns lns
  have ewd:wd net st rooms (word,wk)=wordOf ns st rooms word wk:=by unfold wd;rw [hns];rfl
  have sT:=qA2 hT (.tup [.int (k:Int),.ref mv])
  refine ⟨T,_,rfl,SqT.of qA1,rfl,_,_,rfl,_,_,rfl,rfl,?_⟩
  generalize upd Hc T (.tup [.int (k:Int),.ref mv])=Hd at sT ⊢
  refine ⟨_,rfl,_,rfl,_,rfl,_,rfl,a,r,mv,net,st,ns,rooms,wk,word,rfl,hN.same (sm.trans sT),sT _ _ hrc,by omega,(sm.trans sT) _ _ hH,hw,wk0,hns,by omega,fun H2 sm2=>?_⟩
  have s2:=sT.trans sm2
  rcases wordOf_kind ns st rooms word wk with e | ⟨w0,e⟩
  ·rw [e]
   refine ⟨_,rfl,_,rfl,?_⟩
   rw [decide_eq_true (rfl:V.non=V.non)]
   refine ⟨_,rfl,_,rfl,r,mv,st,word,wk,rfl,s2 _ _ hrc,by omega,(sm.trans s2) _ _ hH,hw,fun r' st' H3 sm3 gr bh=>?_⟩
   have s3:=s2.trans sm3
   have hl3:=s3 _ _ hlc
   have lss:=Paired.length N
   rw [List.length_cons] at lss
   refine ⟨_,rfl,.inl ⟨rfl,_,SqL.of hl3⟩,_,rfl,ls,_,_,rfl,rfl,hl3,qAO (by rw [List.length_map];omega),?_⟩
   rw [qAX]
   have N3:NetL H3 (ss++[r']) ([]::(sts++[st'])):=Paired.snoc (NetL.sm N s3) gr
   refine ⟨ss++[r'],sts++[st'],r',st',_,_,_,rfl,qAF (sm.trans s3) fls,qA1,NetL.put N3 hl3,?_,qD0 fit hw wk0 wk1 (fun ew=>((wd_inv hw (ewd.trans e)).1 ew).1) bh,by rw [List.length_append,List.length_singleton,lk],fun sts' v p=>?_⟩
   ·rw [qA8 (ne_of gr hl3 (by intro z;cases z))]
    exact gr
   ·rw [List.append_assoc]
    exact go (st'::sts') v (by rw [ed];exact .go (ewd.trans e) bh p)
  ·rw [e]
   refine ⟨_,rfl,_,rfl,?_⟩
   rw [decide_eq_false (show ¬ V.str w0=V.non from fun z=>nomatch z)]
   refine ⟨_,rfl,_,rfl,fun x hx=>⟨x,.int (k:Int),.str w0,rfl,qA1,fun dx hdx nx=>?_⟩⟩
   rw [qA8 nx] at hdx
   refine ⟨rfl,some dx,upd H2 dx (XDic dx (xfs (.int (k:Int)) (.str w0))),(upd_norm nx),by rw [qA8 nx.symm];exact hx,?_⟩
   have pl:=go [] (.str w0) (by rw [ed];exact .stop (ewd.trans e))
   rw [List.append_nil] at pl
   exact qE sts w0 dx _ ((sm.trans s2).trans (qA2 hdx _)) pl (by rw [lk];exact qA1)
 ·refine fun σ Hc hI_2=>opq fun G_2 hG_2=>?_
  obtain ⟨ss,sts,r,st,v5,v6,v7,rfl,sm,hlc,N,hrc,fit,lk,go⟩:=hI_2
  refine hG_2 ?_
  have pl:=go [] .non (by rw [List.length_map,lrs,List.drop_length];exact .nil)
  rw [List.append_nil] at pl
  exact ⟨_,rfl,q ls sts Hc sm pl fls ⟨ss,hlc,N⟩⟩
end
section
variable {P:Program} {w:World} {K:PySem.W.Frag} {mg:Str→Option Value} {base:Heap} {f:Addr} {fd:FuncData} {f_Lword f_Lbehind:Addr} {fd_Lword fd_Lbehind:FuncData}
theorem sc_Lplayed:FnScope ["_law_net_here","_law_rooms","_law_plan","_law_stands","_law_move","_law_word_here"] ["_law_net_here","_law_rooms","_law_plan"] (defScope s_Lplayed):=⟨rfl,rfl,rfl,by decide +kernel,rfl,by decide +kernel,by decide +kernel⟩
theorem ok_Lplayed (F:Fun K "_law_played" "_law_played" s_Lplayed f fd)
  (C_Lword:Clb P w K mg base 1 f_Lword fd_Lword "_law_word" ["_law_net_here","_law_rooms","_law_stand","_law_move"] spFault)
  (C_Lbehind:Clb P w K mg base 1 f_Lbehind fd_Lbehind "_law_behind" ["_law_stand","_law_move"] spBehindS):FnOk P w K mg base CX0 2 f fd ["_law_net_here","_law_rooms","_law_plan"] spPlayL2:=by
 refine F.ok sc_Lplayed (fun vs H Q E h=>?_) (fun cdv A outer s H vs Q E hr h=>?_)
 ·obtain ⟨a,l,net,ms,rooms,rfl,_⟩:=h
  rfl
 obtain ⟨a,l,net,ms,rooms,rfl,⟨hN,wf,n400,⟨rs,hl,M⟩,l10,hms,r0,r500⟩,q⟩:=h
 have hr_Lword:Room 1 _:=hr
 have hr_Lbehind:Room 1 _:=hr
 refine ⟨_,(qA4 (qAE (i:=3) sc_Lplayed.nd rfl (Or.inl rfl) (qB0 (qA0 (qB7 qA3) qA3))) (qA4 (qB5 PassesOwn.never rfl (qB8 (pv 2)) (qA9 (i:=4) sc_Lplayed.nd rfl (Or.inl rfl)) (qA4 (qAE (i:=5) sc_Lplayed.nd rfl (Or.inl rfl) (pe_cl C_Lword hr rfl (qA0 (pv 0) (qA0 (pv 1) (qA0 (pe_ix qAR (pv 3) (pe_un qD2 qA7) (fun _ _=>rfl)) (qA0 (pv 4) qA3)))))) (qA4 (ps_if (pt_cmp (pc_notN (pv 5))) (qA6 (qAG (qB7 (qA0 (pv 3) (qA0 (pv 5) qA3))))) qAH) (qA6 (qBW (pe_bm PySem.F.plainAttrs_list PySem.F.slot_list_append PySem.F.type_list_append qAZ (pv 3) (qA0 (pe_cl C_Lbehind hr rfl (qA0 (pe_ix qAR (pv 3) (pe_un qD2 qA7) (fun _ _=>rfl)) (qA0 (pv 4) qA3))) qA3))))))) (qA6 (qAG (qB7 (qA0 (pv 3) (qA0 pe_non qA3))))))),?_⟩
 try dsimp only [Cx.nox,Cx.wish,cxOf]
 have lrs:=Paired.length M
 refine ⟨(by show 0≤sizeLine;decide),fun e he=>⟨(by show 1≤sizeLine;decide),fun ls hls=>?_⟩⟩
 have s1:=qA2 he (.tup [])
 have s2:=s1.trans (qA2 hls (.lst [.ref e]))
 have fls:H ls=none:=s1.free hls
 refine ⟨_,rfl,l,rfl,⟨_,SqL.of (s2 _ _ hl)⟩,qBK (a:=l) (xs:=rs.map V.ref) (fun k σ Hc=>∃ (ss:List Addr) (r:Addr) (sts:List (List Int)) (st:List Int) (v4 v5:Option V),σ=[some (.ref a),some (.int rooms),some (.ref l),some (.ref ls),v4,v5]∧Same H Hc∧Hc ls=some (.lst ((ss++[r]).map V.ref))∧NetL Hc (ss++[r]) ([]::sts)∧Hc r=some (.tup (st.map V.int))∧Rise (net.length:Int) st∧sts.length=k∧∀ sts' v,Play net rooms st (ms.drop k) sts' v→Play net rooms [] ms (sts++sts') v)
  ⟨[],e,[],[],none,none,rfl,s2,qA1,.cons ((qA2 hls (.lst [.ref e])) _ _ qA1) .nil,(qA2 hls (.lst [.ref e])) _ _ qA1,Rise.nil,rfl,fun sts' v p=>p⟩ (fun k σ Hc _ hP=>by obtain ⟨_,_,_,_,_,_,_,sm,_⟩:=hP;exact SqL.of (sm _ _ hl)) ?_ ?_⟩
 ·refine fun k x σ Hc hx hI_1=>opq fun G_1 hG_1=>?_
  obtain ⟨ss,r,sts,st,v4,v5,rfl,sm,hlc,N,hrc,fit,lk,go⟩:=hI_1
  refine hG_1 ?_
  have lfit:=fit.len
  obtain ⟨mv,hmv,rfl⟩:=qBQ hx
  obtain ⟨⟨word,wk⟩,hm,hH⟩:=qAN M hmv
  have hk:=(List.getElem?_eq_some_iff.mp hm).1
  obtain ⟨hw,wk0,wk1⟩:=hms _ (List.mem_of_getElem? hm)
  dsimp only at hw wk0 wk1 hH
  have ed:ms.drop k=(word,wk)::ms.drop (k+1):=by
   obtain ⟨hk',e⟩:=List.getElem?_eq_some_iff.mp hm
   rw [List.drop_eq_getElem_cons hk',e]
  have hwn:wk.toNat<net.length:=by omega
  have hns:=List.getElem?_eq_getElem hwn
  have lns:=(wf wk.toNat _ hns).len
  generalize net[wk.toNat]=ns at hns lns
  have ewd:wd net st rooms (word,wk)=wordOf ns st rooms word wk:=by unfold wd;rw [hns];rfl
  have lss:=Paired.length N
  rw [List.length_cons] at lss
  have lastx:atI ((ss++[r]).map V.ref) (-1)=some (.ref r):=by rw [List.map_append];exact qD1 _ _
  refine ⟨_,rfl,_,rfl,_,rfl,_,rfl,ls,_,_,_,rfl,rfl,SqL.of hlc,lastx,_,rfl,a,r,mv,net,st,ns,rooms,wk,word,rfl,hN.same sm,hrc,by omega,sm _ _ hH,hw,wk0,hns,by omega,fun H2 sm2=>?_⟩
  rcases wordOf_kind ns st rooms word wk with e | ⟨w0,e⟩
  ·rw [e]
   refine ⟨_,rfl,_,rfl,?_⟩
   rw [decide_eq_true (rfl:V.non=V.non)]
   refine ⟨_,rfl,.inl ⟨rfl,_,SqL.of (sm2 _ _ hlc)⟩,_,rfl,_,rfl,ls,_,_,_,rfl,rfl,SqL.of (sm2 _ _ hlc),lastx,_,rfl,r,mv,st,word,wk,rfl,sm2 _ _ hrc,by omega,sm2 _ _ (sm _ _ hH),hw,fun r' st' H3 sm3 gr bh=>?_⟩
   have s3:=sm2.trans sm3
   have hl3:=s3 _ _ hlc
   have fit':=qD0 fit hw wk0 wk1 (fun ew=>((wd_inv hw (ewd.trans e)).1 ew).1) bh
   refine ⟨ls,_,_,rfl,rfl,hl3,qAO (by rw [List.length_map];omega),?_⟩
   rw [qAX]
   have N3:NetL H3 (ss++[r]++[r']) ([]::(sts++[st'])):=Paired.snoc (NetL.sm N s3) gr
   refine ⟨ss++[r],r',sts++[st'],st',_,_,rfl,qAF (sm.trans s3) fls,qA1,NetL.put N3 hl3,?_,fit',by rw [List.length_append,List.length_singleton,lk],fun sts' v p=>?_⟩
   ·rw [qA8 (ne_of gr hl3 (by intro z;cases z))]
    exact gr
   ·rw [List.append_assoc]
    exact go (st'::sts') v (by rw [ed];exact .go (ewd.trans e) bh p)
  ·rw [e]
   refine ⟨_,rfl,_,rfl,?_⟩
   rw [decide_eq_false (show ¬ V.str w0=V.non from fun z=>nomatch z)]
   refine ⟨_,rfl,_,rfl,(by show 2≤sizeLine;decide),fun T hT=>?_⟩
   have sT:=qA2 hT (.tup [.ref ls,.str w0])
   have pl:=go [] (.str w0) (by rw [ed];exact .stop (ewd.trans e))
   rw [List.append_nil] at pl
   exact q T ls sts (.str w0) _ ((sm.trans sm2).trans sT) pl qA1 fls ((StandsAt.same ⟨_,hlc,N⟩ sm2).same sT) (by omega)
 ·refine fun σ Hc hI_2=>opq fun G_2 hG_2=>?_
  obtain ⟨ss,r,sts,st,v4,v5,rfl,sm,hlc,N,hrc,fit,lk,go⟩:=hI_2
  refine hG_2 ?_
  rw [List.length_map,lrs] at lk
  have pl:=go [] .non (by rw [List.length_map,lrs,List.drop_length];exact .nil)
  rw [List.append_nil] at pl
  refine ⟨_,rfl,(by show 2≤sizeLine;decide),fun T hT=>?_⟩
  have sT:=qA2 hT (.tup [.ref ls,.non])
  exact q T ls sts .non _ (sm.trans sT) pl qA1 fls (StandsAt.same ⟨_,hlc,N⟩ sT) (by omega)
end
section
variable {P:Program} {w:World} {K:PySem.W.Frag} {mg:Str→Option Value} {base:Heap} {f:Addr} {fd:FuncData} {f_Ltake:Addr} {fd_Ltake:FuncData}
theorem sc_Lnext_work:FnScope ["_law_state","_law_net_here","_law_stand","_law_work","_law_lacking"] ["_law_state","_law_net_here","_law_stand"] (defScope qC3):=⟨rfl,rfl,rfl,by decide +kernel,rfl,by decide +kernel,by decide +kernel⟩
theorem ok_Lnext_work (F:Fun K "_law_next_work" "_law_next_work" qC3 f fd)
  (C_Ltake:Clb P w K mg base 1 f_Ltake fd_Ltake "_law_take" ["_law_state","_law_many"] spTake)
  (z_len:mg "len" = none):FnOk P w K mg base CX0 2 f fd ["_law_state","_law_net_here","_law_stand"] spNextW2:=by
 refine F.ok sc_Lnext_work (fun vs H Q E h=>?_) (fun cdv A outer s H vs Q E hr h=>?_)
 ·obtain ⟨d,c,t,ns,a,so,net,st,rfl,_⟩:=h
  rfl
 obtain ⟨d,c,t,ns,a,so,net,st,rfl,S,ht,hN,wf,n1,n400,hst,q⟩:=h
 have hu0:=hr.units0
 have hr_Ltake:Room 1 _:=hr
 refine ⟨_,(qA4 (qAE (i:=3) sc_Lnext_work.nd rfl (Or.inl rfl) (pe_cl C_Ltake hr rfl (qA0 (pv 0) (qA0 (qAB qAA rfl z_len qAP (qA0 (pv 1) qA3)) qA3)))) (qA4 (ps_lc (i:=4) sc_Lnext_work.nd rfl rfl rfl (lcs (own:=["_law_need"]) (fv:=[2]) (by kernel_rfl)) (qCB (pe_ix qAW (pv 1) (pv 3) (fun _ _=>rfl))) (fun z1=>qA9 (i:=0) (nd_of (by kernel_rfl)) rfl (Or.inl rfl)) (fun z1=>(qBO (qAC (op_notInK (K:=K) rfl) (pv 0) (pv 1) (by with_unfolding_all rfl)))) (fun z1=>(pv 0)) (by kernel_rfl)) (qA4 (ps_while PassesOwn.never (qAC (op_ne_nil hu0) (pv 4) (qB0 qA3) (nomark _)) (qA4 (qAE (i:=3) sc_Lnext_work.nd rfl (Or.inl rfl) (pe_ix qAR (pv 4) (pe_cl C_Ltake hr rfl (qA0 (pv 0) (qA0 (qAB qAA rfl z_len qAP (qA0 (pv 4) qA3)) qA3))) (fun _ _=>rfl))) (qA6 (ps_lc (i:=4) sc_Lnext_work.nd rfl rfl rfl (lcs (own:=["_law_need"]) (fv:=[2]) (by kernel_rfl)) (qCB (pe_ix qAW (pv 1) (pv 3) (fun _ _=>rfl))) (fun z2=>qA9 (i:=0) (nd_of (by kernel_rfl)) rfl (Or.inl rfl)) (fun z2=>(qBO (qAC (op_notInK (K:=K) rfl) (pv 0) (pv 1) (by with_unfolding_all rfl)))) (fun z2=>(pv 0)) (by kernel_rfl))))) (qA6 (qAG (pv 3)))))),?_⟩
 try dsimp only [Cx.nox,Cx.wish,cxOf]
 have ht':t≤1000000000 - 1000:=ht
 obtain ⟨rs,hA,NL⟩:=id hN
 have lrv:(((rs.map V.ref).length:Nat):Int)=(net.length:Int):=by rw [List.length_map,Paired.length NL]
 have na:=S.tup hA
 have ns':=S.tup hst
 refine ⟨_,rfl,_,rfl,a,_,rfl,.inr (SqT.of hA),d,c,t,ns,_,rfl,S,(by show t≤1000000000;omega),by rw [lrv];omega,by rw [lrv];omega,fun wk ns1 H1 w0 w1 S1 K1=>?_⟩
 rw [lrv] at w1
 have hA1:=K1 _ _ hA na.1 na.2
 have hs1:=K1 _ _ hst ns'.1 ns'.2
 have NL1:NetL H1 rs net:=NL.keep (fun r zs e=>S.tup e) K1
 have hi':wk.toNat<net.length:=by omega
 obtain ⟨r,h3,h4⟩:=NL1.get (List.getElem?_eq_getElem hi')
 have rz:=wf wk.toNat _ (List.getElem?_eq_getElem hi')
 have en:nd net wk=net[wk.toNat]:=qBM (List.getElem?_eq_getElem hi')
 generalize net[wk.toNat]=zs at h4 rz en
 have lz:=rz.len
 refine ⟨_,rfl,_,rfl,a,_,_,_,rfl,rfl,SqT.of hA1,qBB w0 (by rw [List.getElem?_map,h3];rfl),r,rfl,⟨_,SqT.of h4⟩,fun p hp=>?_⟩
 refine qD3 (p:=p) (a:=r) (xs:=zs.map V.int) (fun j σ Hd=>∃ (v:Option V) (fs:List Int),σ=[v,some (.ref so)]∧Same H1 Hd∧Hd p=some (.lst (fs.map V.int))∧fs.length≤j∧(∀ x ∈ fs,0≤x∧x<wk)∧∀ x ∈ zs.take j,x ∉ st→x ∈ fs) ?_ ?_ ?_ ?_
 ·exact ⟨none,[],rfl,qA2 hp _,qA1,Nat.le_refl _,(fun _ z=>nomatch z),fun x hx=>by simp at hx⟩
 ·rintro j σ Hd hj ⟨v,fs,rfl,sm,_⟩
  exact SqT.of (sm _ _ h4)
 ·refine fun j x σ Hd hx hI_2=>opq fun G_2 hG_2=>?_
  obtain ⟨v,fs,rfl,sm,hpd,lf,inf,cpl⟩:=hI_2
  obtain ⟨z,ez,rfl⟩:=qAS hx
  refine hG_2 ?_
  have hj:=(List.getElem?_eq_some_iff.mp ez).1
  have zin:=rz.in_ z (List.mem_of_getElem? ez)
  refine ⟨_,rfl,_,rfl,so,_,rfl,.inr (SqT.of (sm _ _ hs1)),rfl,qAU st,_,rfl,?_⟩
  rw [qBF]
  by_cases cz:z ∈ st
  ·rw [decide_eq_true cz]
   refine ⟨_,fs,rfl,sm,hpd,by omega,inf,fun x hx hn=>?_⟩
   rw [List.take_add_one,ez,Option.toList_some,List.mem_append,List.mem_singleton] at hx
   rcases hx with hx | hx
   ·exact cpl x hx hn
   ·rw [hx] at hn;exact absurd cz hn
  ·rw [decide_eq_false cz]
   refine ⟨_,rfl,_,hpd,small1000 (by rw [List.length_map];omega),_,fs++[z],rfl,qAF sm hp,?_,by rw [List.length_append,List.length_singleton];omega,fun x hx=>?_,fun x hx hn=>?_⟩
   ·rw [qA1,List.map_append];rfl
   ·rcases List.mem_append.mp hx with hx | hx
    ·exact inf x hx
    ·rw [List.mem_singleton.mp hx];omega
   ·rw [List.take_add_one,ez,Option.toList_some,List.mem_append,List.mem_singleton] at hx
    rcases hx with hx | hx
    ·exact List.mem_append.mpr (.inl (cpl x hx hn))
    ·rw [hx];simp
 refine fun σ Hd hI_3=>opq fun G_3 hG_3=>?_
 obtain ⟨v,fs,rfl,sm,hpd,lf,inf,cpl⟩:=hI_3
 refine hG_3 ?_
 rw [List.length_map] at lf cpl
 rw [qBH rfl,← en] at cpl
 have np:p ≠ d∧p ≠ c:=⟨(qA5 S1.dict hp).symm,(qA5 S1.list hp).symm⟩
 refine ⟨fun m σ Hc=>∃ (wk:Int) (p:Addr) (fs:List Int) (t1:Int) (ns:List Int),σ=[some (.ref d),some (.ref a),some (.ref so),some (.int wk),some (.ref p)]∧m=wk.toNat∧StAt Hc d c t1 ns∧t≤t1∧t1≤t+(net.length:Int) - wk∧Keep d c H Hc∧Hc p=some (.lst (fs.map V.int))∧(p ≠ d∧p ≠ c)∧fs.length≤400∧(∀ x ∈ fs,0≤x∧x<wk)∧(∀ x ∈ nd net wk,x ∉ st→x ∈ fs)∧0≤wk∧wk<(net.length:Int),⟨_,wk,p,fs,t+1,ns1,rfl,rfl,S1.same sm,by omega,by omega,K1.trans (.of_same sm),hpd,np,by omega,inf,cpl,w0,w1⟩,?_⟩
 refine fun m σ Hc hI_4=>opq fun G_4 hG_4=>?_
 obtain ⟨wk,p,fs,t1,ms,rfl,rfl,S2,g1,g2,K2,hp2,np,lf,inf,cpl,w0,w1⟩:=hI_4
 refine hG_4 ?_
 refine ⟨_,rfl,(by show 0≤sizeLine;decide),fun l0 hl0=>?_⟩
 have s0:=qA2 hl0 (.lst [])
 have g0:(upd Hc l0 (.lst [])) l0=some (.lst []):=qA1
 generalize upd Hc l0 (.lst [])=H3 at s0 g0 ⊢
 have S3:=S2.same s0
 have K3:=K2.trans (.of_same s0)
 have hp3:=s0 _ _ hp2
 refine ⟨p,l0,_,rfl,rfl,SqL.of hp3,SqL.of g0,_,rfl,?_⟩
 refine ite2 (fun cn=>?_) (fun cn=>?_)
 ·have fne:fs ≠ []:=fun z=>by rw [z] at cn;cases cn
  have fpos:0<fs.length:=List.length_pos_iff.mpr fne
  refine ⟨fun σ' H'=>∃ m',m'<wk.toNat∧_,fun σ' H' z=>z,?_⟩
  refine ⟨_,rfl,_,rfl,_,rfl,p,_,rfl,.inl (SqL.of hp3),d,c,t1,ms,_,rfl,S3,(by show t1≤1000000000;omega),by rw [List.length_map];omega,by rw [List.length_map];omega,fun k ms2 H4 k0 k1 S4 K4=>?_⟩
  rw [List.length_map] at k1
  have hk:k.toNat<fs.length:=by omega
  have hz:=List.getElem?_eq_getElem hk
  have zin:=inf _ (List.mem_of_getElem? hz)
  generalize fs[k.toNat]=y at hz zin
  refine ⟨p,_,_,_,rfl,rfl,SqL.of (K4 _ _ hp3 np.1 np.2),qBB k0 (by rw [List.getElem?_map,hz];rfl),?_⟩
  have K5:=K3.trans K4
  have hA1:=K5 _ _ hA na.1 na.2
  have hs1:=K5 _ _ hst ns'.1 ns'.2
  have NL1:NetL H4 rs net:=NL.keep (fun r zs e=>S.tup e) K5
  have hi':y.toNat<net.length:=by omega
  obtain ⟨r,h3,h4⟩:=NL1.get (List.getElem?_eq_getElem hi')
  have rz:=wf y.toNat _ (List.getElem?_eq_getElem hi')
  have en:nd net y=net[y.toNat]:=qBM (List.getElem?_eq_getElem hi')
  generalize net[y.toNat]=zs at h4 rz en
  have lz:=rz.len
  refine ⟨_,rfl,_,rfl,a,_,_,_,rfl,rfl,SqT.of hA1,qBB zin.1 (by rw [List.getElem?_map,h3];rfl),r,rfl,⟨_,SqT.of h4⟩,fun p5 hp5=>?_⟩
  refine qD3 (p:=p5) (a:=r) (xs:=zs.map V.int) (fun j σ Hd=>∃ (v:Option V) (gs:List Int),σ=[v,some (.ref so)]∧Same H4 Hd∧Hd p5=some (.lst (gs.map V.int))∧gs.length≤j∧(∀ x ∈ gs,0≤x∧x<y)∧∀ x ∈ zs.take j,x ∉ st→x ∈ gs) ?_ ?_ ?_ ?_
  ·exact ⟨none,[],rfl,qA2 hp5 _,qA1,Nat.le_refl _,(fun _ z=>nomatch z),fun x hx=>by simp at hx⟩
  ·rintro j σ Hd hj ⟨v,gs,rfl,sm,_⟩
   exact SqT.of (sm _ _ h4)
  ·refine fun j x σ Hd hx hI_6=>opq fun G_6 hG_6=>?_
   obtain ⟨v,gs,rfl,sm,hpd,lg,ing,cpg⟩:=hI_6
   obtain ⟨z,ez,rfl⟩:=qAS hx
   refine hG_6 ?_
   have hj:=(List.getElem?_eq_some_iff.mp ez).1
   have zin2:=rz.in_ z (List.mem_of_getElem? ez)
   refine ⟨_,rfl,_,rfl,so,_,rfl,.inr (SqT.of (sm _ _ hs1)),rfl,qAU st,_,rfl,?_⟩
   rw [qBF]
   by_cases cz:z ∈ st
   ·rw [decide_eq_true cz]
    refine ⟨_,gs,rfl,sm,hpd,by omega,ing,fun x hx hn=>?_⟩
    rw [List.take_add_one,ez,Option.toList_some,List.mem_append,List.mem_singleton] at hx
    rcases hx with hx | hx
    ·exact cpg x hx hn
    ·rw [hx] at hn;exact absurd cz hn
   ·rw [decide_eq_false cz]
    refine ⟨_,rfl,_,hpd,small1000 (by rw [List.length_map];omega),_,gs++[z],rfl,qAF sm hp5,?_,by rw [List.length_append,List.length_singleton];omega,fun x hx=>?_,fun x hx hn=>?_⟩
    ·rw [qA1,List.map_append];rfl
    ·rcases List.mem_append.mp hx with hx | hx
     ·exact ing x hx
     ·rw [List.mem_singleton.mp hx];omega
    ·rw [List.take_add_one,ez,Option.toList_some,List.mem_append,List.mem_singleton] at hx
     rcases hx with hx | hx
     ·exact List.mem_append.mpr (.inl (cpg x hx hn))
     ·rw [hx];simp
  refine fun σ Hd hI_7=>opq fun G_7 hG_7=>?_
  obtain ⟨v,gs,rfl,sm,hpd,lg,ing,cpg⟩:=hI_7
  refine hG_7 ?_
  rw [List.length_map] at lg cpg
  rw [qBH rfl,← en] at cpg
  have np5:p5 ≠ d∧p5 ≠ c:=⟨(qA5 S4.dict hp5).symm,(qA5 S4.list hp5).symm⟩
  exact ⟨y.toNat,by omega,y,p5,gs,t1+1,ms2,rfl,rfl,S4.same sm,by omega,by omega,K5.trans (.of_same sm),hpd,np5,by omega,ing,cpg,zin.1,by omega⟩
 ·have fe:fs=[]:=by
   cases fs with
   | nil=>rfl
   | cons x xs=>exact absurd rfl cn
  refine ⟨_,rfl,q wk t1 ms H3 S3 (by omega) (by omega) K3 w0 w1 fun y hy=>?_⟩
  rcases Classical.em (y ∈ st) with h | h
  ·exact h
  ·have:=cpl y hy h
   rw [fe] at this
   cases this
end
section
variable {P:Program} {w:World} {K:PySem.W.Frag} {mg:Str→Option Value} {base:Heap} {f:Addr} {fd:FuncData} {f_Ltake f_Lnext_work f_Lbehind:Addr} {fd_Ltake fd_Lnext_work fd_Lbehind:FuncData}
theorem sc_Lwalk:FnScope ["_law_state","_law_net_here","_law_rooms","_law_many","_law_plan","_law_stand","_law_turn","_law_work","_law_move"] ["_law_state","_law_net_here","_law_rooms","_law_many"] (defScope s_Lwalk):=⟨rfl,rfl,rfl,by decide +kernel,rfl,by decide +kernel,by decide +kernel⟩
theorem ok_Lwalk (F:Fun K "_law_walk" "_law_walk" s_Lwalk f fd) (C_Ltake:Clb P w K mg base 1 f_Ltake fd_Ltake "_law_take" ["_law_state","_law_many"] spTake) (C_Lnext_work:Clb P w K mg base 2 f_Lnext_work fd_Lnext_work "_law_next_work" ["_law_state","_law_net_here","_law_stand"] spNextW2) (C_Lbehind:Clb P w K mg base 1 f_Lbehind fd_Lbehind "_law_behind" ["_law_stand","_law_move"] spBehindS) (z_range:mg "range" = none) (z_len:mg "len" = none):FnOk P w K mg base CX0 3 f fd ["_law_state","_law_net_here","_law_rooms","_law_many"] spWalk2:=by
 refine F.ok sc_Lwalk (fun vs H Q E h=>?_) (fun cdv A outer s H vs Q E hr h=>?_)
 ·obtain ⟨d,c,t,ns,a,net,rooms,many,rfl,_⟩:=h
  rfl
 obtain ⟨d,c,t,ns,a,net,rooms,many,rfl,S,ht,hN,wf,n1,n60,r1,m0,m250,q⟩:=h
 refine ⟨_,(qA4 (qAE (i:=4) sc_Lwalk.nd rfl (Or.inl rfl) (qB0 qA3)) (qA4 (qAE (i:=5) sc_Lwalk.nd rfl (Or.inl rfl) (qB7 qA3)) (qA4 (qB5 PassesOwn.never rfl (qB6 rfl z_range (qA0 (pv 3) qA3)) (qA9 (i:=6) sc_Lwalk.nd rfl (Or.inl rfl)) (qA4 (qAE (i:=7) sc_Lwalk.nd rfl (Or.inl rfl) (pe_cl C_Lnext_work hr rfl (qA0 (pv 0) (qA0 (pv 1) (qA0 (pv 5) qA3))))) (qA4 (qAE (i:=8) sc_Lwalk.nd rfl (Or.inl rfl) (pe_ifExp (qAC qCD (pv 7) (pv 5) (by with_unfolding_all rfl)) (qB7 (qA0 qAL (qA0 (pv 7) qA3))) (qB7 (qA0 qAL (qA0 (pv 7) qA3))))) (qA4 (ps_if (PW.pt (pw_and (qAC op_ge (qAB qAA rfl z_len qAP (qA0 (pv 5) qA3)) (pv 2) (nomark _)) (pw_and1 (qAC op_eq (pe_ix qAW (pv 8) qA7 (fun _ _=>rfl)) qAL (nomark _))))) (qA6 (qAE (i:=8) sc_Lwalk.nd rfl (Or.inl rfl) (qB7 (qA0 qAL (qA0 (pe_ix qAW (pv 5) (pe_cl C_Ltake hr rfl (qA0 (pv 0) (qA0 (qAB qAA rfl z_len qAP (qA0 (pv 5) qA3)) qA3))) (fun _ _=>rfl)) qA3))))) qAH) (qA4 (qBW (pe_bm PySem.F.plainAttrs_list PySem.F.slot_list_append PySem.F.type_list_append qAZ (pv 4) (qA0 (pv 8) qA3))) (qA6 (qAE (i:=5) sc_Lwalk.nd rfl (Or.inl rfl) (pe_cl C_Lbehind hr rfl (qA0 (pv 5) (qA0 (pv 8) qA3)))))))))) (qA6 (qAG (qB7 (qA0 (pv 4) (qA0 (pv 5) qA3)))))))),?_⟩
 try dsimp only [Cx.nox,Cx.wish,cxOf]
 have ht':t≤1000000000 - 200000:=ht
 refine cut fun N1 hN1=>?_
 refine ⟨(by show 0≤sizeLine;decide),fun l hl=>?_⟩
 refine hN1 _ _ (cut fun N2 hN2=>?_)
 refine ⟨(by show 0≤sizeLine;decide),fun e he=>?_⟩
 have nl:l ≠ d∧l ≠ c:=⟨(qA5 S.dict hl).symm,(qA5 S.list hl).symm⟩
 have s1:=(qA2 hl (.lst [])).trans (qA2 he (.tup []))
 have gl0:=(qA2 he (.tup [])) _ _ (show (upd H l (.lst [])) l=some (.lst (([]:List Addr).map V.ref)) from qA1)
 have ge0:(upd (upd H l (.lst [])) e (.tup [])) e=some (.tup (([]:List Int).map V.int)):=qA1
 generalize upd (upd H l (.lst [])) e (.tup [])=H1 at s1 gl0 ge0 ⊢
 refine hN2 _ _ (cut fun N3 hN3=>?_)
 refine ⟨_,rfl,many,rfl,by omega,by omega,qCS (lo:=0) (n:=many.toNat) (fun i σ Hc=>∃ (rs:List Addr) (ms:List Mv) (so:Addr) (st:List Int) (t1:Int) (ns:List Int) (v6 v7 v8:Option V),σ=[some (.ref d),some (.ref a),some (.int rooms),some (.int many),some (.ref l),some (.ref so),v6,v7,v8]∧StAt Hc d c t1 ns∧t≤t1∧t1≤t+70 * i∧Keep d c H Hc∧Hc l=some (.lst (rs.map V.ref))∧MovL Hc rs ms∧MvOk net ms∧ms.length≤i∧Hc so=some (.tup (st.map V.int))∧Rise (net.length:Int) st∧Run net (net.length:Int) [] ms st)
  ⟨[],[],e,[],t,ns,none,none,none,rfl,S.same s1,by omega,by omega,.of_same s1,gl0,.nil,(fun _ z=>nomatch z),Nat.le_refl _,ge0,Rise.nil,.nil⟩ ?_ ?_⟩
 ·refine fun i σ Hc hi hI_1=>opq fun G_1 hG_1=>?_
  obtain ⟨rs,ms,so,st,t1,ns1,v6,v7,v8,rfl,S1,g1,g2,K1,hl1,M1,ok1,lms,hs1,rst,R⟩:=hI_1
  refine hG_1 ?_
  have lst:=rst.len
  refine nmD fun D1 d1 _=>?_
  refine cut fun N4 hN4=>?_
  refine ⟨_,rfl,_,rfl,_,rfl,d,c,t1,ns1,a,so,net,st,rfl,S1,(by show t1≤1000000000 - 1000;omega),hN.keep S K1,wf,n1,by omega,hs1,fun wk t2 ns2 H2 S2 g3 g4 K12 w0 w1 hneed=>?_⟩
  have K2:=K1.trans K12
  have hl2:=K12 _ _ hl1 nl.1 nl.2
  have M2:=MovL.keep M1 S1 K12
  have hs2:=K12 _ _ hs1 (S1.tup hs1).1 (S1.tup hs1).2
  refine hN4 _ _ (cut fun N5 hN5=>?_)
  -- the move is known
  have rest:∀ (mv:Addr) (word:Str) (Hx:Hp),Same H2 Hx→Hx mv=some (.tup [.str word,.int wk])→(word = "do"∨word = "clear")→(word = "do"→wk ∉ st)→(word = "clear"→wk ∈ st)→N5 [some (.ref d),some (.ref a),some (.int rooms),some (.int many),some (.ref l),some (.ref so),some (.int (0+(i:Int))),some (.int wk),some (.ref mv)] Hx:=by
   intro mv word Hx sx gmv hword hd hc
   refine hN5 _ _ (cut fun N6 hN6=>?_)
   have Sx:=S2.same sx
   have Kx:=K2.trans (.of_same sx)
   have hlx:=sx _ _ hl2
   have Mx:=M2.same sx
   have hsx:=sx _ _ hs2
   have fin:∀ (mv:Addr) (word:Str) (wk' t3:Int) (ns3:List Int) (Hy:Hp),StAt Hy d c t3 ns3→t1≤t3→t3≤t1+70→Keep d c H Hy→Hy l=some (.lst (rs.map V.ref))→MovL Hy rs ms→Hy so=some (.tup (st.map V.int))→Hy mv=some (.tup [.str word,.int wk'])→(word = "do"∨word = "clear")→0≤wk'→wk'<(net.length:Int)→(word = "do"→wk' ∉ st∧∀ y ∈ nd net wk',y ∈ st)→(word = "clear"→wk' ∈ st)→N6 [some (.ref d),some (.ref a),some (.int rooms),some (.int many),some (.ref l),some (.ref so),some (.int (0+(i:Int))),some (.int wk),some (.ref mv)] Hy:=by
    intro mv word wk' t3 ns3 Hy S3 g5 g6 K3 hl3 M3 hs3 gmv hword w0' w1' hd hc
    refine hN6 _ _ (cut fun N7 hN7=>?_)
    have lrs:=Paired.length M3
    refine ⟨_,rfl,.inl ⟨rfl,_,SqL.of hl3⟩,_,rfl,l,_,_,rfl,rfl,hl3,qAO (by rw [List.length_map];omega),?_⟩
    rw [qAX]
    have S4:=S3.put' (o:=.lst ((rs++[mv]).map V.ref)) nl.1 nl.2
    have K4:=keep_put (o:=.lst ((rs++[mv]).map V.ref)) K3 hl
    have gl4:(upd Hy l (.lst ((rs++[mv]).map V.ref))) l=some (.lst ((rs++[mv]).map V.ref)):=qA1
    have M4:=MovL.put (o:=.lst ((rs++[mv]).map V.ref)) (M3.snoc gmv) hl3
    have hs4:(upd Hy l (.lst ((rs++[mv]).map V.ref))) so=some (.tup (st.map V.int)):=by rw [qA8 (ne_of hs3 hl3 (by intro z;cases z))];exact hs3
    have gm4:(upd Hy l (.lst ((rs++[mv]).map V.ref))) mv=some (.tup [.str word,.int wk']):=by rw [qA8 (ne_of gmv hl3 (by intro z;cases z))];exact gmv
    generalize upd Hy l (.lst ((rs++[mv]).map V.ref))=H4 at S4 K4 gl4 M4 hs4 gm4 ⊢
    refine hN7 _ _ ?_
    refine ⟨_,rfl,_,rfl,so,mv,st,word,wk',rfl,hs4,by omega,gm4,hword,fun r st' H5 sm5 gr bh=>?_⟩
    exact d1 _ _ ⟨rs++[mv],ms++[(word,wk')],r,st',t3,ns3,_,_,_,rfl,S4.same sm5,by omega,by omega,K4.trans (.of_same sm5),sm5 _ _ gl4,M4.same sm5,ok1.app (MvOk.one hword w0' w1'),by rw [List.length_append,List.length_singleton];omega,gr,qD0 rst hword w0' w1' (fun e=>(hd e).1) bh,run_snoc R rst hword w0' w1' hd hc bh⟩
   have asis:N6 [some (.ref d),some (.ref a),some (.int rooms),some (.int many),some (.ref l),some (.ref so),some (.int (0+(i:Int))),some (.int wk),some (.ref mv)] Hx:=fin mv word wk t2 ns2 Hx Sx (by omega) (by omega) Kx hlx Mx hsx gmv hword w0 w1 (fun e=>⟨hd e,hneed⟩) hc
   refine ⟨_,rfl,so,_,rfl,.inr (SqT.of hsx),_,rfl,_,_,rfl,rfl,_,rfl,?_⟩
   refine ite2 (fun cg=>?_) (fun cg=>asis)
   have cg':rooms≤(((st.map V.int).length:Nat):Int):=of_decide_eq_true cg
   rw [List.length_map] at cg'
   refine ⟨_,rfl,mv,_,_,_,rfl,rfl,SqT.of gmv,rfl,rfl,_,rfl,?_⟩
   refine ite2 (fun ck=>?_) (fun ck=>asis)
   refine ⟨_,rfl,_,rfl,_,rfl,so,_,rfl,.inr (SqT.of hsx),d,c,t2,ns2,_,rfl,Sx,(by show t2≤1000000000;omega),by rw [List.length_map];omega,by rw [List.length_map];omega,fun j ns3 H3 j0 j1 S3 K3=>?_⟩
   rw [List.length_map] at j1
   have hj:j.toNat<st.length:=by omega
   have ey:st[j.toNat]?=some st[j.toNat]:=List.getElem?_eq_getElem hj
   generalize st[j.toNat]=y at ey
   have yin:=List.mem_of_getElem? ey
   have yb:=rst.in_ y yin
   have hs3:=K3 _ _ hsx (Sx.tup hsx).1 (Sx.tup hsx).2
   refine ⟨so,_,_,_,rfl,rfl,SqT.of hs3,qBB j0 (by rw [List.getElem?_map,ey];rfl),(by show 2≤sizeLine;decide),fun mv2 hmv2=>?_⟩
   have sm2:=qA2 hmv2 (.tup [.str "clear",.int y])
   exact fin mv2 "clear" y (t2+1) ns3 _ (S3.same sm2) (by omega) (by omega) ((Kx.trans K3).trans (.of_same sm2)) (sm2 _ _ (K3 _ _ hlx nl.1 nl.2)) ((MovL.keep Mx Sx K3).same sm2) (sm2 _ _ hs3) qA1 (.inr rfl) yb.1 yb.2 (fun z=>absurd z qAD) (fun _=>yin)
  refine ⟨_,rfl,_,rfl,so,_,rfl,.inr (SqT.of hs2),rfl,qAU st,_,rfl,?_⟩
  rw [qBF]
  by_cases cw:wk ∈ st
  ·rw [decide_eq_true cw]
   refine ⟨_,rfl,(by show 2≤sizeLine;decide),fun mv hmv=>?_⟩
   exact rest mv "clear" _ (qA2 hmv _) qA1 (.inr rfl) (fun z=>absurd z qAD) (fun _=>cw)
  ·rw [decide_eq_false cw]
   refine ⟨_,rfl,(by show 2≤sizeLine;decide),fun mv hmv=>?_⟩
   exact rest mv "do" _ (qA2 hmv _) qA1 (.inl rfl) (fun _=>cw) (fun z=>absurd z.symm qAD)
 ·refine fun σ Hc hI_2=>opq fun G_2 hG_2=>?_
  obtain ⟨rs,ms,so,st,t1,ns1,v6,v7,v8,rfl,S1,g1,g2,K1,hl1,M1,ok1,lms,hs1,rst,R⟩:=hI_2
  refine hG_2 ?_
  refine hN3 _ _ ?_
  refine ⟨_,rfl,_,rfl,(by show 2≤sizeLine;decide),fun T hT=>?_⟩
  have sT:=qA2 hT (.tup [.ref l,.ref so])
  exact q T l so ms st t1 ns1 _ (S1.same sT) g1 (by omega) (K1.trans (.of_same sT)) qA1 hl ⟨rs,sT _ _ hl1,M1.same sT⟩ ok1 (by omega) (sT _ _ hs1) rst R
end
section
variable {P:Program} {w:World} {K:PySem.W.Frag} {mg:Str→Option Value} {base:Heap} {f:Addr} {fd:FuncData} {f_Ltake f_Lnet f_Lasked:Addr} {fd_Ltake fd_Lnet fd_Lasked:FuncData}
theorem sc_Lcase:FnScope ["_law_state","_law_many","_law_net_here"] ["_law_state"] (defScope s_Lcase):=⟨rfl,rfl,rfl,by decide +kernel,rfl,by decide +kernel,by decide +kernel⟩
theorem ok_Lcase (F:Fun K "_law_case" "_law_case" s_Lcase f fd)
  (C_Ltake:Clb P w K mg base 1 f_Ltake fd_Ltake "_law_take" ["_law_state","_law_many"] spTake)
  (C_Lnet:Clb P w K mg base 3 f_Lnet fd_Lnet "_law_net" ["_law_state","_law_many"] spNet)
  (C_Lasked:Clb P w K mg base 2 f_Lasked fd_Lasked "_law_asked" ["_law_state","_law_net_here"] spAsked4):FnOk P w K mg base CX0 4 f fd ["_law_state"] spCase6:=by
 refine F.ok sc_Lcase (fun vs H Q E h=>?_) (fun cdv A outer s H vs Q E hr h=>?_)
 ·obtain ⟨d,c,t,ns,rfl,_⟩:=h
  rfl
 obtain ⟨d,c,t,ns,rfl,S,ht,q⟩:=h
 have hr_Lnet:Room 3 _:=hr
 refine ⟨_,(qA4 (qAE (i:=1) sc_Lcase.nd rfl (Or.inl rfl) (pe_op qBL qA7 (pe_cl C_Ltake hr rfl (qA0 (pv 0) (qA0 qA7 qA3))))) (qA4 (ps_join (ps_if (qAC op_eq (pe_cl C_Ltake hr rfl (qA0 (pv 0) (qA0 qA7 qA3))) qA7 (nomark _)) (qA6 (qAE (i:=1) sc_Lcase.nd rfl (Or.inl rfl) (pe_op qBL qA7 (pe_cl C_Ltake hr rfl (qA0 (pv 0) (qA0 qA7 qA3)))))) qAH)) (qA4 (qAE (i:=2) sc_Lcase.nd rfl (Or.inl rfl) (pe_cl C_Lnet hr rfl (qA0 (pv 0) (qA0 (pv 1) qA3)))) (qA6 (qAG (qB7 (qA0 (pv 2) (qA0 (pe_cl C_Lasked hr rfl (qA0 (pv 0) (qA0 (pv 2) qA3))) qA3)))))))),?_⟩
 try dsimp only [Cx.nox,Cx.wish,cxOf]
 have ht':t≤1000000000 - 200000:=ht
 refine ⟨_,rfl,d,c,t,ns,8,rfl,S,(by show t≤1000000000;omega),by decide,by decide,fun k1 ns1 H1 a0 a1 S1 K1=>⟨_,_,rfl,rfl,?_⟩⟩
 refine ⟨fun σ Hc=>∃ (m t2:Int) (ms:List Int),σ=[some (.ref d),some (.int m),none]∧StAt Hc d c t2 ms∧t≤t2∧t2≤t+3∧Keep d c H Hc∧1≤m∧m≤40,?_,?_⟩
 ·refine ⟨_,rfl,d,c,t+1,ns1,4,rfl,S1,(by show t+1≤1000000000;omega),by decide,by decide,fun k2 ns2 H2 b0 b1 S2 K2=>⟨rfl,_,rfl,?_⟩⟩
  refine ite2 (fun _=>?_) (fun _=>?_)
  ·refine ⟨_,rfl,d,c,t+1+1,ns2,32,rfl,S2,(by show t+1+1≤1000000000;omega),by decide,by decide,fun k3 ns3 H3 c0 c1 S3 K3=>⟨_,_,rfl,rfl,?_⟩⟩
   exact ⟨9+k3,t+1+1+1,ns3,rfl,S3,by omega,by omega,(K1.trans K2).trans K3,by omega,by omega⟩
  ·exact ⟨1+k1,t+1+1,ns2,rfl,S2,by omega,by omega,K1.trans K2,by omega,by omega⟩
 refine fun σ Hc hI_1=>opq fun G_1 hG_1=>?_
 obtain ⟨m,t2,ms,rfl,S2,g1,g2,K2,m1,m40⟩:=hI_1
 refine hG_1 ?_
 refine ⟨_,rfl,_,rfl,d,c,t2,ms,m,rfl,S2,(by show t2≤1000000000 - 10000;omega),m1,by omega,fun a net t3 ms3 H3 S3 g3 g4 K3 hN wf nk=>?_⟩
 refine ⟨_,rfl,_,rfl,_,rfl,d,c,t3,ms3,a,net,rfl,S3,(by show t3≤1000000000 - 100;omega),hN,wf,by omega,by omega,fun r ws t4 ms4 H4 S4 g5 g6 K4 gr rW l1 l4=>?_⟩
 refine ⟨(by show 2≤sizeLine;decide),fun T hT=>?_⟩
 have sT:=qA2 hT (.tup [.ref a,.ref r])
 exact q T a r net ws t4 ms4 _ (S4.same sT) (by omega) (by omega) (((K2.trans K3).trans K4).trans (.of_same sT)) qA1 ((hN.keep S3 K4).same sT) wf (by omega) (by omega) (sT _ _ gr) rW l1 l4
end
section
variable {P:Program} {w:World} {K:PySem.W.Frag} {mg:Str→Option Value} {base:Heap} {f:Addr} {fd:FuncData} {f_has_all f_played:Addr} {fd_has_all fd_played:FuncData} {c_Barred:Addr}
theorem sc_has_all:FnScope ["results","works"] ["results","works"] (defScope s_has_all):=⟨rfl,rfl,rfl,by decide +kernel,rfl,by decide +kernel,by decide +kernel⟩
theorem ok_has_all (F:Fun K "has_all" "has_all" s_has_all f fd) (z_all:mg "all" = none):FnOk P w K mg base CX0 1 f fd ["results","works"] spHasP:=by
 refine F.ok sc_has_all (fun vs H Q E h=>?_) (fun cdv A outer s H vs Q E hr h=>?_)
 ·obtain ⟨a,t,st,asked,rfl,_⟩:=h
  rfl
 obtain ⟨a,t,st,asked,rfl,hst,hT,l1,q⟩:=h
 refine ⟨_,(qA6 (qAG (qAB (call_all rfl) rfl z_all bt_all (qA0 (pe_lc rfl (lcs (own:=["work"]) (fv:=[0]) (by kernel_rfl)) (qCB (pv 1)) (fun z1=>qA9 (i:=0) (nd_of (by kernel_rfl)) rfl (Or.inl rfl)) (fun z1=>qBC) (fun z1=>(qCQ (op_inK (K:=K) rfl) (pv 0) (pv 1) (by with_unfolding_all rfl)))) qA3)))),?_⟩
 try dsimp only [Cx.nox,Cx.wish,cxOf]
 refine ⟨_,rfl,t,rfl,⟨_,SqT.of hT⟩,fun p hp=>?_⟩
 refine qD3 (p:=p) (a:=t) (xs:=asked.map V.int) (fun i σ Hc=>∃ (v:Option V),σ=[v,some (.ref a)]∧Same H Hc∧Hc p=some (.lst (((asked.take i).map fun x=>decide (x ∈ st)).map V.bl))) ?_ ?_ ?_ ?_
 ·exact ⟨none,rfl,qA2 hp _,qA1⟩
 ·rintro i σ Hc hi ⟨v,rfl,sm,_⟩
  exact SqT.of (sm _ _ hT)
 ·refine fun i x σ Hc hx hI_2=>opq fun G_2 hG_2=>?_
  obtain ⟨v,rfl,sm,hpc⟩:=hI_2
  obtain ⟨z,ez,rfl⟩:=qAS hx
  refine hG_2 ?_
  have hi:=(List.getElem?_eq_some_iff.mp ez).1
  refine ⟨_,rfl,_,rfl,a,_,rfl,.inr (SqT.of (sm _ _ hst)),rfl,qAU st,_,hpc,small1000 (by rw [List.length_map,List.length_map,List.length_take];omega),_,rfl,qAF sm hp,?_⟩
  rw [qA1]
  refine congrArg (fun l=>some (HO.lst l)) ?_
  rw [List.take_add_one,ez,Option.toList_some,List.map_append,List.map_append]
  show _++[V.bl (inV (.int z) (st.map V.int))]=_
  rw [qBF]
  rfl
 ·refine fun σ Hc hI_3=>opq fun G_3 hG_3=>?_
  obtain ⟨v,rfl,sm,hpc⟩:=hI_3
  refine hG_3 ?_
  rw [List.length_map,List.take_of_length_le (Nat.le_refl _)] at hpc
  refine ⟨p,_,rfl,SqL.of hpc,?_⟩
  have e:((asked.map fun x=>decide (x ∈ st)).all id)=decide (∀ x ∈ asked,x ∈ st):=by
   rw [Bool.eq_iff_iff,decide_eq_true_eq]
   exact all_in
  rw [e]
  exact q Hc sm
theorem sc_does:FnScope ["net","rooms","plan","asked","stands"] ["net","rooms","plan","asked"] (defScope s_does):=⟨rfl,rfl,rfl,by decide +kernel,rfl,by decide +kernel,by decide +kernel⟩
theorem ok_does (F:Fun K "does" "does" s_does f fd) (em_Barred:PySem.W.exmOne K (.ref c_Barred) (.ref c_Barred)=some true) (m_Barred:mg "Barred" = some (.ref c_Barred)) (G_played:FnOk P w K mg base (CX1 P w) 3 f_played fd_played ["net","rooms","plan"] (spPlay2 c_Barred)) (b_played:Binds K fd_played ["net","rooms","plan"] []) (k_played:PySem.W.keepIn K (.ref f_played)=true) (m_played:mg "played" = some (.ref f_played)) (C_has_all:Clb P w K mg base 1 f_has_all fd_has_all "has_all" ["results","works"] spHasP):FnOk P w K mg base CX0 4 f fd ["net","rooms","plan","asked"] spDoes2:=by
 refine F.ok sc_does (fun vs H Q E h=>?_) (fun cdv A outer s H vs Q E hr h=>?_)
 ·obtain ⟨a,l,t,net,ms,rooms,asked,rfl,_⟩:=h
  rfl
 obtain ⟨a,l,t,net,ms,rooms,asked,rfl,PI,hT,l1,q1,q2⟩:=h
 have hr_played:Room 3 _:=hr.mono (by decide)
 refine ⟨_,(qA4 (ps_tryA (i:=4) (j:=none) rfl rfl sc_does.nd rfl (Or.inl rfl) G_played hr_played rfl m_played k_played b_played .nil (qA0 (pv 0) (qA0 (pv 1) (qA0 (pv 2) qA3))) rfl m_Barred trivial (fun ev=>(qA6 (qAG pe_bl)))) (qA6 (qAG (pe_cl C_has_all hr rfl (qA0 (pe_ix qAR (pv 4) (pe_un qD2 qA7) (fun _ _=>rfl)) (qA0 (pv 3) qA3)))))),?_⟩
 try dsimp only [Cx.nox,Cx.wish,cxOf]
 refine ⟨_,rfl,_,rfl,_,rfl,a,l,net,ms,rooms,rfl,PI,fun ls sts H1 sm pl fls SA=>?_,fun sts w0 dx H1 sm pl gdx=>⟨em_Barred,fun ex hex=>?_⟩⟩
 ·obtain ⟨ks,hks,NK⟩:=id SA
  obtain ⟨ss,r,ek,gr⟩:=last_at NK
  rw [ek] at hks
  refine ⟨_,rfl,_,rfl,ls,_,_,_,rfl,rfl,SqL.of hks,by rw [List.map_append];exact qD1 _ _,?_⟩
  refine ⟨_,rfl,r,t,_,asked,rfl,gr,sm _ _ hT,l1,fun H2 s2=>?_⟩
  exact q1 sts H2 (sm.trans s2) pl
 ·exact q2 sts w0 _ (sm.trans (qA2 hex _)) pl
end
section
variable {P:Program} {w:World} {K:PySem.W.Frag} {mg:Str→Option Value} {base:Heap} {f:Addr} {fd:FuncData}
theorem sc_Lspare:FnScope ["_law_net_here","_law_asked_here","_law_wanted","_law_stand"] ["_law_net_here","_law_asked_here","_law_wanted","_law_stand"] (defScope s_Lspare):=⟨rfl,rfl,rfl,by decide +kernel,rfl,by decide +kernel,by decide +kernel⟩
theorem ok_Lspare (F:Fun K "_law_spare" "_law_spare" s_Lspare f fd) (z_any:mg "any" = none):FnOk P w K mg base CX0 1 f fd ["_law_net_here","_law_asked_here","_law_wanted","_law_stand"] spSpare:=by
 refine F.ok sc_Lspare (fun vs H Q E h=>?_) (fun cdv A outer s H vs Q E hr h=>?_)
 ·obtain ⟨a,t,lw,so,net,asked,ws,st,rfl,_⟩:=h
  rfl
 obtain ⟨a,t,lw,so,net,asked,ws,st,rfl,hN,wf,n60,hT,hW,wb,lw60,hS,ls60,q⟩:=h
 refine ⟨_,(qA6 (qAG (pe_lo rfl (los (own:=["_law_work"]) (fv:=[1,2,0]) (by kernel_rfl)) (qCB (pv 3)) (fun z1=>qA9 (i:=0) (nd_of (by kernel_rfl)) rfl (Or.inr rfl)) (fun z1=>(qBO (PW.pt (pw_and (qAC (op_notInK (K:=K) rfl) (pv 0) (pv 1) (by with_unfolding_all rfl)) (pw_and1 (pt_not (pt_val (qAB (call_anyK (K:=K) rfl rfl) rfl z_any bt_any (qA0 (pe_lc (X:=lcCxO _ _ _ _ z1) rfl (lcs (own:=["_law_other"]) (fv:=[0,3]) (by kernel_rfl)) (pi_listK (K:=K) rfl (pv 2)) (fun z2=>qA9 (i:=0) (nd_of (by kernel_rfl)) rfl (Or.inl rfl)) (fun z2=>qBC) (fun z2=>(qCQ (op_inK (K:=K) rfl) (pv 1) (pe_ix (qBX (K:=K) rfl) (pv 2) (pv 0) (fun _ _=>rfl)) (by with_unfolding_all rfl)))) qA3))))))))) (fun z1=>(pv 0))))),?_⟩
 try dsimp only [Cx.nox,Cx.wish,cxOf]
 refine ⟨_,rfl,so,rfl,⟨_,SqT.of hS⟩,fun p hp=>?_⟩
 refine qD3 (p:=p) (a:=so) (xs:=st.map V.int) (fun i σ Hc=>∃ (v:Option V) (fs:List Int),σ=[v,some (.ref t),some (.ref lw),some (.ref a)]∧Same H Hc∧Hc p=some (.lst (fs.map V.int))∧(∀ x ∈ fs,x ∈ st∧x ∉ asked∧∀ v ∈ ws,x ∉ nd net v)∧fs.length≤i) ?_ ?_ ?_ ?_
 ·exact ⟨none,[],rfl,qA2 hp _,qA1,(fun _ z=>nomatch z),Nat.le_refl _⟩
 ·rintro i σ Hc hi ⟨v,fs,rfl,sm,_⟩
  exact SqT.of (sm _ _ hS)
 ·refine fun i x σ Hc hx hI_2=>opq fun G_2 hG_2=>?_
  obtain ⟨v,fs,rfl,sm,hpc,inf,lf⟩:=hI_2
  obtain ⟨z,ez,rfl⟩:=qAS hx
  refine hG_2 ?_
  have hi:=(List.getElem?_eq_some_iff.mp ez).1
  refine ⟨_,rfl,_,rfl,t,_,rfl,.inr (SqT.of (sm _ _ hT)),rfl,qAU asked,_,rfl,?_⟩
  rw [qBF]
  by_cases c1:z ∈ asked
  ·rw [decide_eq_true c1]
   exact ⟨_,fs,rfl,sm,hpc,inf,by omega⟩
  ·rw [decide_eq_false c1]
   refine ⟨_,rfl,lw,rfl,⟨_,SqL.of (sm _ _ hW)⟩,fun p2 hp2=>?_⟩
   refine lc_list (p:=p2) (a:=lw) (xs:=ws.map V.int) (fun j σ Hd=>∃ (v:Option V),σ=[v,some (.int z),some (.ref a)]∧Same Hc Hd∧Hd p2=some (.lst (((ws.take j).map fun v=>decide (z ∈ nd net v)).map V.bl))) ?_ ?_ ?_ ?_
   ·exact ⟨none,rfl,qA2 hp2 _,qA1⟩
   ·rintro j σ Hd hj ⟨v,rfl,sd,_⟩
    exact SqL.of (sd _ _ (sm _ _ hW))
   ·refine fun j x σ Hd hx hI_4=>opq fun G_4 hG_4=>?_
    obtain ⟨v,rfl,sd,hpd⟩:=hI_4
    obtain ⟨u,eu,rfl⟩:=qAS hx
    refine hG_4 ?_
    have hj:=(List.getElem?_eq_some_iff.mp eu).1
    have ub:=wb u (List.mem_of_getElem? eu)
    have hu':u.toNat<net.length:=by omega
    obtain ⟨rs',r,h1,l1,h2,h3⟩:=hN.get (List.getElem?_eq_getElem hu')
    have en:=qBM (List.getElem?_eq_getElem hu')
    generalize net[u.toNat]=ns at h3 en
    have smd:=sm.trans sd
    refine ⟨_,rfl,_,rfl,_,rfl,a,_,_,_,rfl,rfl,SqT.of (smd _ _ h1),qBB ub.1 h2,r,_,rfl,.inr (SqT.of (smd _ _ h3)),rfl,qAU ns,_,hpd,small1000 (by rw [List.length_map,List.length_map,List.length_take];omega),_,rfl,qAF sd hp2,?_⟩
    rw [qA1]
    refine congrArg (fun l=>some (HO.lst l)) ?_
    rw [List.take_add_one,eu,Option.toList_some,List.map_append,List.map_append]
    show _++[V.bl (inV (.int z) (ns.map V.int))]=_
    rw [qBF,← en]
    rfl
   refine fun σ Hd hI_5=>opq fun G_5 hG_5=>?_
   obtain ⟨v,rfl,sd,hpd⟩:=hI_5
   refine hG_5 ?_
   rw [List.length_map,List.take_length] at hpd
   refine ⟨p2,_,rfl,SqL.of hpd,?_⟩
   have hpE:=sd _ _ hpc
   refine ⟨_,rfl,?_⟩
   cases hany:((ws.map fun v=>decide (z ∈ nd net v)).any id) with
   | true=>exact ⟨_,fs,rfl,sm.trans sd,hpE,inf,by omega⟩
   | false=>
    refine ⟨_,rfl,_,hpE,small1000 (by rw [List.length_map];omega),_,fs++[z],rfl,qAF (sm.trans sd) hp,by rw [qA1,List.map_append];rfl,fun x hx=>?_,by rw [List.length_append,List.length_singleton];omega⟩
    rcases List.mem_append.mp hx with h | h
    ·exact inf x h
    ·rw [List.mem_singleton.mp h]
     refine ⟨List.mem_of_getElem? ez,c1,fun v hv hz=>?_⟩
     have:((ws.map fun v=>decide (z ∈ nd net v)).any id)=true:=List.any_eq_true.mpr ⟨true,List.mem_map.mpr ⟨v,hv,decide_eq_true hz⟩,rfl⟩
     rw [hany] at this
     cases this
 ·refine fun σ Hc hI_6=>opq fun G_6 hG_6=>?_
  obtain ⟨v,fs,rfl,sm,hpc,inf,lf⟩:=hI_6
  refine hG_6 ?_
  rw [List.length_map] at lf
  exact q p fs Hc sm hp hpc inf lf
end
section
variable {P:Program} {w:World} {K:PySem.W.Frag} {mg:Str→Option Value} {base:Heap} {f:Addr} {fd:FuncData} {f_Ltake f_Lwalk f_Lneeded f_Lbehind f_Lspare:Addr} {fd_Ltake fd_Lwalk fd_Lneeded fd_Lbehind fd_Lspare:FuncData}
theorem sc_Ldoing:FnScope ["_law_state","_law_net_here","_law_asked_here","_law_many","_law_plan","_law_stand","_law_needed_here","_law_place","_law_work","_law_spare_here"] ["_law_state","_law_net_here","_law_asked_here","_law_many"] (defScope s_Ldoing):=⟨rfl,rfl,rfl,by decide +kernel,rfl,by decide +kernel,by decide +kernel⟩
theorem ok_Ldoing (F:Fun K "_law_doing" "_law_doing" s_Ldoing f fd) (C_Ltake:Clb P w K mg base 1 f_Ltake fd_Ltake "_law_take" ["_law_state","_law_many"] spTake) (C_Lwalk:Clb P w K mg base 3 f_Lwalk fd_Lwalk "_law_walk" ["_law_state","_law_net_here","_law_rooms","_law_many"] spWalk2) (C_Lneeded:Clb P w K mg base 1 f_Lneeded fd_Lneeded "_law_needed" ["_law_net_here","_law_asked_here"] spNeeded) (C_Lbehind:Clb P w K mg base 1 f_Lbehind fd_Lbehind "_law_behind" ["_law_stand","_law_move"] spBehindS) (C_Lspare:Clb P w K mg base 1 f_Lspare fd_Lspare "_law_spare" ["_law_net_here","_law_asked_here","_law_wanted","_law_stand"] spSpare) (z_len:mg "len" = none) (z_enumerate:mg "enumerate" = none):FnOk P w K mg base CX0 4 f fd ["_law_state","_law_net_here","_law_asked_here","_law_many"] spDoing:=by
 refine F.ok sc_Ldoing (fun vs H Q E h=>?_) (fun cdv A outer s H vs Q E hr h=>?_)
 ·obtain ⟨d,c,t,ns,a,ta,net,asked,many,rfl,_⟩:=h
  rfl
 obtain ⟨d,c,t,ns,a,ta,net,asked,many,rfl,S,ht,hN,wf,n1,n60,⟨hTa,rA⟩,m0,m250,q⟩:=h
 have hu0:=hr.units0
 have ht':t≤1000000000 - 400000:=ht
 refine ⟨_,(qA4 (ps_asg (pe_cl C_Lwalk hr rfl (qA0 (pv 0) (qA0 (pv 1) (qA0 (qAB qAA rfl z_len qAP (qA0 (pv 1) qA3)) (qA0 (pv 3) qA3))))) (qCJ rfl (qAK (qA9 (i:=4) sc_Ldoing.nd rfl (Or.inl rfl)) (qAK (qA9 (i:=5) sc_Ldoing.nd rfl (Or.inl rfl)) qBP)))) (qA4 (qAE (i:=6) sc_Ldoing.nd rfl (Or.inl rfl) (pe_cl C_Lneeded hr rfl (qA0 (pv 1) (qA0 (pv 2) qA3)))) (qA4 (qB5 PassesOwn.never rfl (pi_enum rfl z_enumerate qBN (qA0 (pv 6) qA3)) (qCJ rfl (qAK (qA9 (i:=7) sc_Ldoing.nd rfl (Or.inl rfl)) (qAK (qA9 (i:=8) sc_Ldoing.nd rfl (Or.inl rfl)) qBP))) (qA4 (ps_if (qAC qCR (pv 8) (pv 5) (by with_unfolding_all rfl)) (qA4 (qBW (pe_bm PySem.F.plainAttrs_list PySem.F.slot_list_append PySem.F.type_list_append qAZ (pv 4) (qA0 (qB7 (qA0 qAL (qA0 (pv 8) qA3))) qA3))) (qA6 (qAE (i:=5) sc_Ldoing.nd rfl (Or.inl rfl) (pe_cl C_Lbehind hr rfl (qA0 (pv 5) (qA0 (pe_ix qAR (pv 4) (pe_un qD2 qA7) (fun _ _=>rfl)) qA3)))))) qAH) (qA4 (qAE (i:=9) sc_Ldoing.nd rfl (Or.inl rfl) (pe_cl C_Lspare hr rfl (qA0 (pv 1) (qA0 (pv 2) (qA0 (qC4 qCO (pv 6) (qCH (pe_op qBL (pv 7) qA7)) qD5) (qA0 (pv 5) qA3)))))) (qA6 (ps_if (PW.pt (pw_and (qAC (op_ne_nil hu0) (pv 9) (qB0 qA3) (nomark _)) (pw_and1 (qAC op_eq (pe_cl C_Ltake hr rfl (qA0 (pv 0) (qA0 qA7 qA3))) qA7 (nomark _))))) (qA4 (qBW (pe_bm PySem.F.plainAttrs_list PySem.F.slot_list_append PySem.F.type_list_append qAZ (pv 4) (qA0 (qB7 (qA0 qAL (qA0 (pe_ix qAR (pv 9) (pe_cl C_Ltake hr rfl (qA0 (pv 0) (qA0 (qAB qAA rfl z_len qAP (qA0 (pv 9) qA3)) qA3))) (fun _ _=>rfl)) qA3))) qA3))) (qA6 (qAE (i:=5) sc_Ldoing.nd rfl (Or.inl rfl) (pe_cl C_Lbehind hr rfl (qA0 (pv 5) (qA0 (pe_ix qAR (pv 4) (pe_un qD2 qA7) (fun _ _=>rfl)) qA3)))))) qAH))))) (qA6 (qAG (pv 4)))))),?_⟩
 try dsimp only [Cx.nox,Cx.wish,cxOf]
 obtain ⟨rsN,gN,NN⟩:=id hN
 have lrv:(((rsN.map V.ref).length:Nat):Int)=(net.length:Int):=by rw [List.length_map,Paired.length NN]
 refine cut fun N1 hN1=>?_
 refine ⟨_,rfl,_,rfl,_,rfl,a,_,rfl,.inr (SqT.of gN),_,rfl,d,c,t,ns,a,net,(net.length:Int),many,by rw [lrv];rfl,S,(by show t≤1000000000 - 200000;omega),hN,wf,n1,n60,by omega,m0,m250,fun T l so ms st t1 ns1 H1 S1 g1 g2 K1 gT fl PL mvl lml hso rst R=>?_⟩
 have nl:l ≠ d∧l ≠ c:=⟨(qA5 S.dict fl).symm,(qA5 S.list fl).symm⟩
 refine ⟨T,_,rfl,SqT.of gT,rfl,_,_,rfl,_,_,rfl,rfl,?_⟩
 have hN1':=hN.keep S K1
 have hTa1:=K1 _ _ hTa (S.tup hTa).1 (S.tup hTa).2
 refine hN1 _ _ (cut fun N2 hN2=>?_)
 refine ⟨_,rfl,_,rfl,a,ta,net,asked,rfl,hN1',wf,by omega,⟨hTa1,rA⟩,fun ln zs H2 s2 f2 gln ND=>?_⟩
 have lz:=ND.1.len
 have S2:=S1.same s2
 have K2:Keep d c H H2:=K1.trans (.of_same s2)
 have nln:ln ≠ d∧ln ≠ c:=⟨(qA5 S1.dict f2).symm,(qA5 S1.list f2).symm⟩
 obtain ⟨rs0,gl0,M0⟩:=PL.same s2
 have nll:ln ≠ l:=fun z=>by rw [z] at f2;obtain ⟨rs',g',_⟩:=id PL;rw [f2] at g';cases g'
 refine hN2 _ _ (cut fun N3 hN3=>?_)
 refine ⟨_,rfl,ln,rfl,⟨_,SqL.of gln⟩,for_enum (a:=ln) (xs:=zs.map V.int) (fun i σ Hc=>∃ (rs:List Addr) (ms:List Mv) (so:Addr) (st:List Int) (t3:Int) (ns:List Int) (v7 v8 v9:Option V),σ=[some (.ref d),some (.ref a),some (.ref ta),some (.int many),some (.ref l),some (.ref so),some (.ref ln),v7,v8,v9]∧StAt Hc d c t3 ns∧t1≤t3∧t3≤t1+2 * i∧Keep d c H Hc∧Hc ln=some (.lst (zs.map V.int))∧Hc l=some (.lst (rs.map V.ref))∧MovL Hc rs ms∧MvOk net ms∧(ms.length:Int)≤many+2 * i∧Hc so=some (.tup (st.map V.int))∧Rise (net.length:Int) st∧Run net (net.length:Int) [] ms st∧∀ x ∈ zs.take i,(x ∈ asked∨later net zs i x)→x ∈ st)
  ⟨rs0,ms,so,st,t1,ns1,none,none,none,rfl,S2,by omega,by omega,K2,gln,gl0,M0,mvl,by omega,s2 _ _ hso,rst,R,fun x hx=>by simp at hx⟩ (fun i σ Hc _ hP=>by obtain ⟨_,_,_,_,_,_,_,_,_,_,_,_,_,_,g,_⟩:=hP;exact SqL.of g) ?_ ?_⟩
 ·refine fun i x σ Hc T2 hx hI_1 hT2=>opq fun G_1 hG_1=>?_
  obtain ⟨rs,ms,so,st,t3,ns3,v7,v8,v9,rfl,S3,g3,g4,K3,gln3,gl3,M3,ok3,lm3,hs3,rst3,R3,inv⟩:=hI_1
  obtain ⟨w0,ew,rfl⟩:=qAS hx
  refine hG_1 ?_
  have hi:=(List.getElem?_eq_some_iff.mp ew).1
  have wb:=ND.1.in_ w0 (List.mem_of_getElem? ew)
  have lst:=rst3.len
  have sT2:=qA2 hT2 (.tup [.int (i:Int),.int w0])
  have gT2:SqT K (upd Hc T2 (.tup [.int (i:Int),.int w0])) T2 [.int (i:Int),.int w0]:=SqT.of qA1
  have S4:=S3.same sT2
  have K4:=K3.trans (.of_same sT2)
  have gln4:=sT2 _ _ gln3
  have gl4:=sT2 _ _ gl3
  have M4:=M3.same sT2
  have hs4:=sT2 _ _ hs3
  generalize upd Hc T2 (.tup [.int (i:Int),.int w0])=H4 at gT2 S4 K4 gln4 gl4 M4 hs4 ⊢
  refine ⟨T2,_,rfl,gT2,rfl,_,_,rfl,_,_,rfl,rfl,?_⟩
  have hneed:∀ y ∈ nd net w0,y ∈ st:=fun y hy=>inv y (needed_has wf ND ew hy).1 (.inr ((later_succ ew).mpr (.inl hy)))
  refine nmT fun D1 d1 _=>?_
  refine cut fun N4 hN4=>?_
  -- behind the do
  have rest:∀ (rs:List Addr) (ms:List Mv) (so:Addr) (st:List Int) (Hx:Hp),StAt Hx d c t3 ns3→Keep d c H Hx→Hx ln=some (.lst (zs.map V.int))→Hx l=some (.lst (rs.map V.ref))→MovL Hx rs ms→MvOk net ms→(ms.length:Int)≤many+2 * i+1→Hx so=some (.tup (st.map V.int))→Rise (net.length:Int) st→Run net (net.length:Int) [] ms st→(∀ x ∈ zs.take (i+1),(x ∈ asked∨later net zs (i+1) x)→x ∈ st)→N4 [some (.ref d),some (.ref a),some (.ref ta),some (.int many),some (.ref l),some (.ref so),some (.ref ln),some (.int (i:Int)),some (.int w0),v9] Hx:=by
   intro rs ms so st Hx Sx Kx glnx glx Mx okx lmx hsx rstx Rx invx
   have lstx:=rstx.len
   refine hN4 _ _ (cut fun N5 hN5=>?_)
   refine ⟨_,rfl,_,rfl,_,rfl,_,rfl,_,_,rfl,rfl,_,rfl,ln,_,rfl,SqL.of glnx,fun p hp=>?_⟩
   have ecut:cutV (zs.map V.int) (some ((i:Int)+1)) none=(zs.drop (i+1)).map V.int:=by
    rw [qC8,show ((i:Int)+1)=((i+1:Nat):Int) by omega,cutI_from _ _ (by omega)]
   rw [ecut]
   have sp:=qA2 hp (.lst ((zs.drop (i+1)).map V.int))
   have gp:(upd Hx p (.lst ((zs.drop (i+1)).map V.int))) p=some (.lst ((zs.drop (i+1)).map V.int)):=qA1
   generalize upd Hx p (.lst ((zs.drop (i+1)).map V.int))=Hy at sp gp ⊢
   have Ky:=Kx.trans (.of_same sp)
   refine ⟨_,rfl,a,ta,p,so,net,asked,zs.drop (i+1),st,rfl,hN.keep S Ky,wf,n60,Ky _ _ hTa (S.tup hTa).1 (S.tup hTa).2,gp,(fun x hx=>ND.1.in_ x (List.mem_of_mem_drop hx)),by rw [List.length_drop];omega,sp _ _ hsx,by omega,fun lf fs H6 s6 f6 glf inf lf6=>?_⟩
   have sx6:=sp.trans s6
   have S6:=Sx.same sx6
   have K6:=Kx.trans (.of_same sx6)
   have gln6:=sx6 _ _ glnx
   have gl6:=sx6 _ _ glx
   have M6:=Mx.same sx6
   have hs6:=sx6 _ _ hsx
   refine hN5 _ _ ?_
   refine ⟨_,rfl,(by show 0≤sizeLine;decide),fun e3 he3=>?_⟩
   have se3:=qA2 he3 (.lst [])
   refine ⟨lf,e3,_,rfl,rfl,SqL.of (se3 _ _ glf),SqL.of qA1,_,rfl,?_⟩
   have S7:=S6.same se3
   have K7:=K6.trans (.of_same se3)
   have gln7:=se3 _ _ gln6
   have gl7:=se3 _ _ gl6
   have M7:=M6.same se3
   have hs7:=se3 _ _ hs6
   have glf7:=se3 _ _ glf
   generalize upd H6 e3 (.lst [])=H7 at S7 K7 gln7 gl7 M7 hs7 glf7 ⊢
   have skip:∀ (t':Int) (ns':List Int) (Hz:Hp),StAt Hz d c t' ns'→t3≤t'→t'≤t3+1→Keep d c H7 Hz→D1.nx [some (V.ref d),some (.ref a),some (.ref ta),some (.int many),some (.ref l),some (.ref so),some (.ref ln),some (.int (i:Int)),some (.int w0),some (.ref lf)] Hz:=by
    intro t' ns' Hz Sz a1 a2 Kz
    exact d1 _ _ ⟨rs,ms,so,st,t',ns',_,_,_,rfl,Sz,by omega,by omega,K7.trans Kz,Kz _ _ gln7 nln.1 nln.2,Kz _ _ gl7 nl.1 nl.2,MovL.keep M7 S7 Kz,okx,by omega,Kz _ _ hs7 (S7.tup hs7).1 (S7.tup hs7).2,rstx,Rx,invx⟩
   cases fs with
   | nil=>exact skip t3 ns3 H7 S7 (by omega) (by omega) Keep.refl
   | cons f0 fs0=>
    generalize hfs:f0::fs0=fs at *
    have lfs:1≤fs.length:=by rw [← hfs];simp
    have hne:(!(fs.map V.int).isEmpty)=true:=by rw [← hfs];rfl
    rw [hne]
    refine ⟨_,rfl,d,c,t3,ns3,3,rfl,S7,(by show t3≤1000000000;omega),by decide,by decide,fun x8 ns8 H8 x80 x81 S8 K8=>⟨rfl,_,rfl,?_⟩⟩
    refine ite2 (fun _=>?_) (fun _=>skip (t3+1) ns8 H8 S8 (by omega) (by omega) K8)
    have nlf:lf ≠ d∧lf ≠ c:=⟨(qA5 (Sx.same sp).dict f6).symm,(qA5 (Sx.same sp).list f6).symm⟩
    have glf8:=K8 _ _ glf7 nlf.1 nlf.2
    have gl8:=K8 _ _ gl7 nl.1 nl.2
    refine cut fun N6 hN6=>?_
    refine ⟨_,rfl,.inl ⟨rfl,_,SqL.of gl8⟩,_,rfl,_,rfl,_,rfl,lf,_,rfl,.inl (SqL.of glf8),d,c,t3+1,ns8,_,rfl,S8,(by show t3+1≤1000000000;omega),by rw [List.length_map];omega,by rw [List.length_map];omega,fun j ns9 H9 j0 j1 S9 K9=>?_⟩
    rw [List.length_map] at j1
    have hj:j.toNat<fs.length:=by omega
    have ey:fs[j.toNat]?=some fs[j.toNat]:=List.getElem?_eq_getElem hj
    generalize fs[j.toNat]=y at ey
    obtain ⟨yin,yas,ynd⟩:=inf y (List.mem_of_getElem? ey)
    have yb:=rstx.in_ y yin
    have K79:=K8.trans K9
    have gl9:=K79 _ _ gl7 nl.1 nl.2
    have gln9:=K79 _ _ gln7 nln.1 nln.2
    have M9:=MovL.keep M7 S7 K79
    have hs9:=K79 _ _ hs7 (S7.tup hs7).1 (S7.tup hs7).2
    refine ⟨lf,_,_,_,rfl,rfl,SqL.of (K9 _ _ glf8 nlf.1 nlf.2),qBB j0 (by rw [List.getElem?_map,ey];rfl),(by show 2≤sizeLine;decide),fun T3 hT3=>?_⟩
    have sT3:=qA2 hT3 (.tup [.str "clear",.int y])
    have gT3:(upd H9 T3 (.tup [.str "clear",.int y])) T3=some (.tup [.str "clear",.int y]):=qA1
    have S10:=S9.same sT3
    have K10:=(K7.trans K79).trans (.of_same sT3)
    have gl10:=sT3 _ _ gl9
    have gln10:=sT3 _ _ gln9
    have M10:=M9.same sT3
    have hs10:=sT3 _ _ hs9
    generalize upd H9 T3 (.tup [.str "clear",.int y])=H10 at gT3 S10 K10 gl10 gln10 M10 hs10 ⊢
    have lrs:=Paired.length M10
    refine ⟨l,_,_,rfl,rfl,gl10,qAO (by rw [List.length_map];omega),?_⟩
    rw [qAX]
    have S11:=S10.put' (o:=.lst ((rs++[T3]).map V.ref)) nl.1 nl.2
    have K11:=keep_put (o:=.lst ((rs++[T3]).map V.ref)) K10 fl
    have gl11:(upd H10 l (.lst ((rs++[T3]).map V.ref))) l=some (.lst ((rs++[T3]).map V.ref)):=qA1
    have gln11:(upd H10 l (.lst ((rs++[T3]).map V.ref))) ln=some (.lst (zs.map V.int)):=by rw [qA8 nll];exact gln10
    have M11:=MovL.put (o:=.lst ((rs++[T3]).map V.ref)) (M10.snoc gT3) gl10
    have hs11:(upd H10 l (.lst ((rs++[T3]).map V.ref))) so=some (.tup (st.map V.int)):=by rw [qA8 (ne_of hs10 gl10 (by intro z;cases z))];exact hs10
    have gm11:(upd H10 l (.lst ((rs++[T3]).map V.ref))) T3=some (.tup [.str "clear",.int y]):=by rw [qA8 (ne_of gT3 gl10 (by intro z;cases z))];exact gT3
    generalize upd H10 l (.lst ((rs++[T3]).map V.ref))=H11 at S11 K11 gl11 gln11 M11 hs11 gm11 ⊢
    refine hN6 _ _ ?_
    refine ⟨_,rfl,_,rfl,_,rfl,l,_,_,_,rfl,rfl,SqL.of gl11,by rw [List.map_append];exact qD1 _ _,?_⟩
    refine ⟨so,T3,st,"clear",y,rfl,hs11,by omega,gm11,.inr rfl,fun r st' H12 s12 gr bh=>?_⟩
    refine d1 _ _ ⟨rs++[T3],ms++[(("clear",y):Mv)],r,st',t3+1+1,ns9,_,_,_,rfl,S11.same s12,by omega,by omega,K11.trans (.of_same s12),s12 _ _ gln11,s12 _ _ gl11,M11.same s12,okx.app (MvOk.one (.inr rfl) yb.1 yb.2),by rw [List.length_append,List.length_singleton];omega,gr,qD0 rstx (.inr rfl) yb.1 yb.2 (fun z=>absurd z qAD) bh,run_snoc Rx rstx (.inr rfl) yb.1 yb.2 (fun z=>absurd z qAD) (fun _=>yin) bh,fun x hx hl=>?_⟩
    rw [bh.2 rfl,List.mem_filter]
    refine ⟨invx x hx hl,decide_eq_true fun z=>?_⟩
    rw [z] at hl
    rcases hl with h | ⟨v,hv,hyv⟩
    ·exact yas h
    ·exact ynd v hv hyv
  have next:∀ st':List Int,(∀ x ∈ st,x ∈ st')→w0 ∈ st'→∀ x ∈ zs.take (i+1),(x ∈ asked∨later net zs (i+1) x)→x ∈ st':=by
   intro st' hsub hw x hx hl
   rw [List.take_add_one,ew,Option.toList_some,List.mem_append,List.mem_singleton] at hx
   rcases hx with hx | hx
   ·exact hsub x (inv x hx (hl.imp id fun h=>(later_succ ew).mpr (.inr h)))
   ·rw [hx];exact hw
  refine ⟨_,rfl,_,rfl,so,_,rfl,.inr (SqT.of hs4),rfl,qAU st,_,rfl,?_⟩
  rw [qBF]
  by_cases cw:w0 ∈ st
  ·rw [decide_eq_true cw]
   exact rest rs ms so st H4 S4 K4 gln4 gl4 M4 ok3 (by omega) hs4 rst3 R3 (next st (fun x hx=>hx) cw)
  ·rw [decide_eq_false cw]
   dsimp only
   rw [if_pos (show (if true=true then !false else false)=true from rfl)]
   refine cut fun N6 hN6=>?_
   refine ⟨_,rfl,.inl ⟨rfl,_,SqL.of gl4⟩,_,rfl,(by show 2≤sizeLine;decide),fun T3 hT3=>?_⟩
   have sT3:=qA2 hT3 (.tup [.str "do",.int w0])
   have gT3:(upd H4 T3 (.tup [.str "do",.int w0])) T3=some (.tup [.str "do",.int w0]):=qA1
   have S10:=S4.same sT3
   have K10:=K4.trans (.of_same sT3)
   have gl10:=sT3 _ _ gl4
   have gln10:=sT3 _ _ gln4
   have M10:=M4.same sT3
   have hs10:=sT3 _ _ hs4
   generalize upd H4 T3 (.tup [.str "do",.int w0])=H10 at gT3 S10 K10 gl10 gln10 M10 hs10 ⊢
   have lrs:=Paired.length M10
   refine ⟨l,_,_,rfl,rfl,gl10,qAO (by rw [List.length_map];omega),?_⟩
   rw [qAX]
   have S11:=S10.put' (o:=.lst ((rs++[T3]).map V.ref)) nl.1 nl.2
   have K11:=keep_put (o:=.lst ((rs++[T3]).map V.ref)) K10 fl
   have gl11:(upd H10 l (.lst ((rs++[T3]).map V.ref))) l=some (.lst ((rs++[T3]).map V.ref)):=qA1
   have gln11:(upd H10 l (.lst ((rs++[T3]).map V.ref))) ln=some (.lst (zs.map V.int)):=by rw [qA8 nll];exact gln10
   have M11:=MovL.put (o:=.lst ((rs++[T3]).map V.ref)) (M10.snoc gT3) gl10
   have hs11:(upd H10 l (.lst ((rs++[T3]).map V.ref))) so=some (.tup (st.map V.int)):=by rw [qA8 (ne_of hs10 gl10 (by intro z;cases z))];exact hs10
   have gm11:(upd H10 l (.lst ((rs++[T3]).map V.ref))) T3=some (.tup [.str "do",.int w0]):=by rw [qA8 (ne_of gT3 gl10 (by intro z;cases z))];exact gT3
   generalize upd H10 l (.lst ((rs++[T3]).map V.ref))=H11 at S11 K11 gl11 gln11 M11 hs11 gm11 ⊢
   refine hN6 _ _ ?_
   refine ⟨_,rfl,_,rfl,_,rfl,l,_,_,_,rfl,rfl,SqL.of gl11,by rw [List.map_append];exact qD1 _ _,?_⟩
   refine ⟨so,T3,st,"do",w0,rfl,hs11,by omega,gm11,.inl rfl,fun r st' H12 s12 gr bh=>?_⟩
   have hp':=(bh.1 rfl).1
   exact rest (rs++[T3]) (ms++[(("do",w0):Mv)]) r st' H12 (S11.same s12) (K11.trans (.of_same s12)) (s12 _ _ gln11) (s12 _ _ gl11) (M11.same s12) (ok3.app (MvOk.one (.inl rfl) wb.1 wb.2)) (by rw [List.length_append,List.length_singleton];omega) gr (qD0 rst3 (.inl rfl) wb.1 wb.2 (fun _=>cw) bh) (run_snoc R3 rst3 (.inl rfl) wb.1 wb.2 (fun _=>⟨cw,hneed⟩) (fun z=>absurd z.symm qAD) bh) (next st' (fun x hx=>hp'.mem_iff.mpr (List.mem_append.mpr (.inl hx))) (hp'.mem_iff.mpr (by simp)))
 ·refine fun σ Hc hI_2=>opq fun G_2 hG_2=>?_
  obtain ⟨rs,ms,so,st,t3,ns3,v7,v8,v9,rfl,S3,g3,g4,K3,gln3,gl3,M3,ok3,lm3,hs3,rst3,R3,inv⟩:=hI_2
  refine hG_2 ?_
  rw [List.length_map] at g4 lm3 inv
  rw [qBH rfl] at inv
  refine hN3 _ _ ⟨_,rfl,?_⟩
  exact q l ms st t3 ns3 Hc S3 (by omega) (by omega) K3 fl ⟨rs,gl3,M3⟩ ok3 (by omega) rst3 R3 (fun x hx=>inv x ((ND.2 x).mpr (.ask hx)) (.inl hx))
end
section
variable {P:Program} {w:World} {K:PySem.W.Frag} {mg:Str→Option Value} {base:Heap} {f:Addr} {fd:FuncData} {f_Lplayed:Addr} {fd_Lplayed:FuncData}
theorem sc_Lmost:FnScope ["_law_net_here","_law_plan","_law_stands","_law_word_here"] ["_law_net_here","_law_plan"] (defScope s_Lmost):=⟨rfl,rfl,rfl,by decide +kernel,rfl,by decide +kernel,by decide +kernel⟩
theorem ok_Lmost (F:Fun K "_law_most" "_law_most" s_Lmost f fd) (C_Lplayed:Clb P w K mg base 2 f_Lplayed fd_Lplayed "_law_played" ["_law_net_here","_law_rooms","_law_plan"] spPlayL2) (z_len:mg "len" = none) (z_max:mg "max" = none):FnOk P w K mg base CX0 3 f fd ["_law_net_here","_law_plan"] spMost2:=by
 refine F.ok sc_Lmost (fun vs H Q E h=>?_) (fun cdv A outer s H vs Q E hr h=>?_)
 ·obtain ⟨a,l,net,ms,st,rfl,_⟩:=h
  rfl
 obtain ⟨a,l,net,ms,st,rfl,PI,R,q⟩:=h
 refine ⟨_,(qA4 (ps_asg (pe_cl C_Lplayed hr rfl (qA0 (pv 0) (qA0 (qAB qAA rfl z_len qAP (qA0 (pv 0) qA3)) (qA0 (pv 1) qA3)))) (qCJ rfl (qAK (qA9 (i:=2) sc_Lmost.nd rfl (Or.inl rfl)) (qAK (qA9 (i:=3) sc_Lmost.nd rfl (Or.inl rfl)) qBP)))) (qA6 (qAG (qAB (call_maxL rfl) rfl z_max bt_max (qA0 (pe_lc rfl (lcs (own:=["_law_stand"]) (fv:=[]) (by kernel_rfl)) (qB8 (pv 2)) (fun z1=>qA9 (i:=0) (nd_of (by kernel_rfl)) rfl (Or.inl rfl)) (fun z1=>qBC) (fun z1=>(qAB (call_lenK (K:=K) rfl) rfl z_len qAP (qA0 (pv 0) qA3)))) qA3))))),?_⟩
 try dsimp only [Cx.nox,Cx.wish,cxOf]
 obtain ⟨rs,hA,NL⟩:=id PI.1
 have lrv:(((rs.map V.ref).length:Nat):Int)=(net.length:Int):=by rw [List.length_map,Paired.length NL]
 have mv:=PI.2.2.2.2.2.1
 have l10:=PI.2.2.2.2.1
 have rm:=run_most mv R
 refine cut fun N1 hN1=>?_
 refine ⟨_,rfl,_,rfl,a,_,rfl,.inr (SqT.of hA),_,rfl,a,l,net,ms,(net.length:Int),by rw [lrv];rfl,PI,fun T ls sts v H1 sm1 pl gT fls SA lsts=>?_⟩
 refine ⟨T,_,rfl,SqT.of gT,rfl,_,_,rfl,_,_,rfl,rfl,?_⟩
 refine hN1 _ _ ?_
 obtain ⟨ks,hks,NK⟩:=id SA
 have lks:=Paired.length NK
 rw [List.length_cons] at lks
 have ev:v=.non:=by
  rcases pl.kind with h | ⟨w0,h⟩
  ·exact h
  ·rw [h] at pl;exact absurd pl (rm.2 sts w0)
 subst ev
 refine ⟨_,rfl,ls,rfl,⟨_,SqL.of hks⟩,fun p hp=>?_⟩
 refine lc_list (p:=p) (a:=ls) (xs:=ks.map V.ref) (fun i σ Hc=>∃ (v:Option V),σ=[v]∧Same H1 Hc∧Hc p=some (.lst ((lens (([]::sts).take i)).map V.int))) ?_ ?_ ?_ ?_
 ·exact ⟨none,rfl,qA2 hp _,qA1⟩
 ·rintro i σ Hc hi ⟨v,rfl,sm,_⟩
  exact SqL.of (sm _ _ hks)
 ·refine fun i x σ Hc hx hI_2=>opq fun G_2 hG_2=>?_
  obtain ⟨v,rfl,sm,hpc⟩:=hI_2
  obtain ⟨r,hr',rfl⟩:=qBQ hx
  obtain ⟨z,ez,g⟩:=qAN NK hr'
  refine hG_2 ?_
  have hi:=(List.getElem?_eq_some_iff.mp ez).1
  rw [List.length_cons] at hi
  refine ⟨_,rfl,r,_,rfl,.inr (SqT.of (sm _ _ g)),_,hpc,qAO (by unfold lens;rw [List.length_map,List.length_map,List.length_take];omega),_,rfl,qAF sm hp,?_⟩
  rw [qA1]
  refine congrArg (fun l=>some (HO.lst l)) ?_
  rw [qCN ez]
  unfold lens
  rw [List.map_append,List.map_append,List.length_map]
  rfl
 ·refine fun σ Hc hI_3=>opq fun G_3 hG_3=>?_
  obtain ⟨v,rfl,sm,hpc⟩:=hI_3
  refine hG_3 ?_
  rw [List.length_map,lks,qBH (by rw [List.length_cons])] at hpc
  obtain ⟨sts0,p0,l0,t0,_⟩:=R.play .nil
  obtain ⟨e1,_⟩:=Play.one mv pl p0
  subst e1
  exact ⟨p,_,_,rfl,SqL.of hpc,t0,q Hc (sm1.trans sm)⟩
end
section
variable {P:Program} {w:World} {K:PySem.W.Frag} {mg:Str→Option Value} {base:Heap} {f:Addr} {fd:FuncData}
theorem sc_stays_of:FnScope ["net","plan","needed","latest","place","move"] ["net","plan"] (defScope qCV):=⟨rfl,rfl,rfl,by decide +kernel,rfl,by decide +kernel,by decide +kernel⟩
theorem ok_stays_of (F:Fun K "stays_of" "stays_of" qCV f fd) (z_enumerate:mg "enumerate" = none):FnOk P w K mg base CX0 1 f fd ["net","plan"] spStaysOf:=by
 refine F.ok sc_stays_of (fun vs H Q E h=>?_) (fun cdv A outer s H vs Q E hr h=>?_)
 ·obtain ⟨a,l,net,p,rfl,_⟩:=h
  rfl
 obtain ⟨a,l,net,p,rfl,⟨hN,wf,n400,⟨rs,hL,ML⟩,lp,mo,nf⟩,q⟩:=h
 have hu:=hu_of hr
 refine ⟨_,(qA4 (qAE (i:=2) sc_stays_of.nd rfl (Or.inl rfl) pe_dnewK) (qA4 (qAE (i:=3) sc_stays_of.nd rfl (Or.inr rfl) pe_dnewK) (qA4 (qB5 PassesOwn.never rfl (pi_enum rfl z_enumerate qBN (qA0 (pv 1) qA3)) (qCJ rfl (qAK (qA9 (i:=4) sc_stays_of.nd rfl (Or.inl rfl)) (qAK (qA9 (i:=5) sc_stays_of.nd rfl (Or.inl rfl)) qBP))) (qA6 (ps_if (qAC op_eq (pe_ix qAW (pv 5) qA7 (fun _ _=>rfl)) qAL (nomark _)) (qA4 (qCP hu (pv 2) (pv 4) (pe_lc rfl (lcs (own:=["need"]) (fv:=[3]) (by kernel_rfl)) (qCB (pe_ix qAW (pv 0) (pe_ix qAW (pv 5) qA7 (fun _ _=>rfl)) (fun _ _=>rfl))) (fun z1=>qA9 (i:=0) (nd_of (by kernel_rfl)) rfl (Or.inl rfl)) (fun z1=>qBC) (fun z1=>(qC9 hu (pv 1) (pv 0) (fun _ _=>rfl)))) rfl) (qA6 (qCP hu (pv 3) (pe_ix qAW (pv 5) qA7 (fun _ _=>rfl)) (pv 4) rfl))) qAH))) (qA6 (qAG (qB7 (qA0 (pv 2) (qA0 (pv 3) qA3)))))))),?_⟩
 try dsimp only [Cx.nox,Cx.wish,cxOf]
 obtain ⟨ns0,hA,NL⟩:=id hN
 have lrs:=Paired.length ML
 refine cut fun N0 hN0=>?_
 refine fun dn hdn=>?_
 have s1:=qA2 hdn (.dK [])
 have g1:(upd H dn (.dK [])) dn=some (.dK (kvsV [] fun _=>V.non)):=qA1
 generalize upd H dn (.dK [])=H1 at s1 g1 ⊢
 refine hN0 _ _ (cut fun N1 hN1=>?_)
 refine fun dl hdl=>?_
 have s2':=qA2 hdl (.dK [])
 have s2:=s1.trans s2'
 have g2:=s2' _ _ g1
 have gl2:(upd H1 dl (.dK [])) dl=some (.dK []):=qA1
 have ndl:dn ≠ dl:=qA5 g1 hdl
 have fdl:H dl=none:=s1.free hdl
 generalize upd H1 dl (.dK [])=H2 at s2 g2 gl2 ⊢
 refine hN1 _ _ (cut fun N2 hN2=>?_)
 refine ⟨_,rfl,l,rfl,⟨_,SqL.of (s2 _ _ hL)⟩,for_enum (a:=l) (xs:=rs.map V.ref) (fun i σ Hc=>∃ (ad:Int→Addr) (v4 v5:Option V),σ=[some (.ref a),some (.ref l),some (.ref dn),some (.ref dl),v4,v5]∧Same H Hc∧Hc dn=some (.dK (kvsV (intL ((List.range i).filter (dpB p))) fun z=>.ref (ad z)))∧(∀ j ∈ (List.range i).filter (dpB p),Hc (ad (j:Int))=some (.lst ((ndI net p j).map V.int)))∧LatAt Hc dl p i)
  ⟨fun _=>a,none,none,rfl,s2,g2,fun j hj=>by simp at hj,[],gl2,Nat.zero_le _,fun n=>rfl⟩ (fun i σ Hc _ hP=>by obtain ⟨_,_,_,_,sc,_⟩:=hP;exact SqL.of (sc _ _ hL)) ?_ ?_⟩
 ·refine fun i x σ Hc T hx hI_1 hT=>opq fun G_1 hG_1=>?_
  obtain ⟨ad,v4,v5,rfl,sc,gd,PA,kvs,gl,lk,hv⟩:=hI_1
  obtain ⟨r,er,rfl⟩:=qBQ hx
  obtain ⟨m,em,hm⟩:=qAN ML er
  refine hG_1 ?_
  have hi:=(List.getElem?_eq_some_iff.mp em).1
  have sT:=qA2 hT (.tup [.int (i:Int),.ref r])
  have sc1:=sc.trans sT
  have gd1:=sT _ _ gd
  have gl1:=sT _ _ gl
  have gT:SqT K (upd Hc T (.tup [.int (i:Int),.ref r])) T [.int (i:Int),.ref r]:=SqT.of qA1
  have PA1:∀ j ∈ (List.range i).filter (dpB p),(upd Hc T (.tup [.int (i:Int),.ref r])) (ad (j:Int))=some (.lst ((ndI net p j).map V.int)):=fun j hj=>sT _ _ (PA j hj)
  generalize upd Hc T (.tup [.int (i:Int),.ref r])=H3 at sc1 gd1 gl1 gT PA1 ⊢
  refine ⟨T,_,rfl,gT,rfl,_,_,rfl,_,_,rfl,rfl,?_⟩
  obtain ⟨wd,w⟩:=m
  obtain ⟨mw,w0,w1⟩:=mo (wd,w) (List.mem_of_getElem? em)
  refine ⟨_,rfl,r,_,_,_,rfl,rfl,SqT.of (sc1 _ _ hm),rfl,rfl,_,rfl,?_⟩
  refine ite2 (fun ck=>?_) (fun ck=>?_)
  ·have hd:wd = "do":=V.str.inj (of_decide_eq_true ck)
   subst hd
   have em':p[i]?=some (dO w):=em
   have ewk:=wkO_of em'
   have hw:w.toNat<net.length:=by omega
   have hz:=List.getElem?_eq_getElem hw
   obtain ⟨rt,h3,h4⟩:=NL.get hz
   have en:=qBM hz
   have ln:=(wf w.toNat _ hz).len
   have nfi:=nf i w em'
   rw [en] at nfi
   generalize net[w.toNat]=ys at h4 hz en ln nfi
   refine nmT fun D1 d1 _=>?_
   refine cut fun M1 hM1=>?_
   refine ⟨_,rfl,_,rfl,r,_,_,_,rfl,rfl,SqT.of (sc1 _ _ hm),rfl,a,_,_,_,rfl,rfl,SqT.of (sc1 _ _ hA),qBB w0 (by rw [List.getElem?_map,h3];rfl),rt,rfl,⟨_,SqT.of (sc1 _ _ h4)⟩,fun lq hlq=>?_⟩
   refine qD3 (p:=lq) (a:=rt) (xs:=ys.map V.int) (fun k σ Hd=>∃ v:Option V,σ=[v,some (.ref dl)]∧Same H3 Hd∧Hd lq=some (.lst (((ys.take k).map fun n=>(((lat p i n).getD 0:Nat):Int)).map V.int))) ?_ ?_ ?_ ?_
   ·exact ⟨none,rfl,qA2 hlq _,qA1⟩
   ·rintro k σ Hd hk ⟨v,rfl,sd,_⟩
    exact SqT.of (sd _ _ (sc1 _ _ h4))
   ·refine fun k x σ Hd hx hI_3=>opq fun G_3 hG_3=>?_
    obtain ⟨v,rfl,sd,hpd⟩:=hI_3
    obtain ⟨n,ey,rfl⟩:=qAS hx
    refine hG_3 ?_
    have hk:=(List.getElem?_eq_some_iff.mp ey).1
    obtain ⟨j,ej⟩:=nfi n (List.mem_of_getElem? ey)
    have hg:=DGet.k (k:=Sum.inl n) (sd _ _ gl1)
    rw [hv n,ej] at hg
    refine ⟨_,rfl,_,rfl,dl,_,rfl,hg,_,hpd,small1000 (by rw [List.length_map,List.length_map,List.length_take];omega),_,rfl,qAF sd hlq,?_⟩
    rw [qA1,List.take_add_one,ey,Option.toList_some,List.map_append,List.map_append,List.map_singleton,ej]
    rfl
   refine fun σ Hd hI_4=>opq fun G_4 hG_4=>?_
   obtain ⟨v,rfl,sd,hpd⟩:=hI_4
   refine hG_4 ?_
   rw [List.length_map,qBH rfl] at hpd
   have eN:ndI net p i=ys.map fun n=>(((lat p i n).getD 0:Nat):Int):=by unfold ndI;rw [ewk,en]
   rw [← eN] at hpd
   have gdd:=sd _ _ gd1
   have ino:(i:Int) ∉ intL ((List.range i).filter (dpB p)):=fun z=>by
    obtain ⟨j,hj,e⟩:=List.mem_map.mp z
    have:=List.mem_range.mp (List.mem_filter.mp hj).1
    omega
   have put:=DPut.k (k:=Sum.inl (i:Int)) (v:=.ref lq) gdd (qAO (by unfold kvsV intL;rw [List.length_map,List.length_map];have:=List.length_filter_le (dpB p) (List.range i);rw [List.length_range] at this;omega))
   rw [kvsV_put ino] at put
   refine ⟨_,rfl,_,rfl,dn,_,rfl,put,?_⟩
   have nq:lq ≠ dn:=(qA5 gd1 hlq).symm
   have nld:dl ≠ dn:=ndl.symm
   have gl4:(upd Hd dn (.dK (kvsV (intL ((List.range i).filter (dpB p))++[(i:Int)]) fun y=>if y=(i:Int) then .ref lq else .ref (ad y)))) dl=some (.dK kvs):=by rw [qA8 nld];exact sd _ _ gl1
   have sm4:Same H (upd Hd dn (.dK (kvsV (intL ((List.range i).filter (dpB p))++[(i:Int)]) fun y=>if y=(i:Int) then .ref lq else .ref (ad y)))):=qAF (sc1.trans sd) hdn
   have gd4:(upd Hd dn (.dK (kvsV (intL ((List.range i).filter (dpB p))++[(i:Int)]) fun y=>if y=(i:Int) then .ref lq else .ref (ad y)))) dn=some (.dK (kvsV (intL ((List.range i).filter (dpB p))++[(i:Int)]) fun y=>if y=(i:Int) then .ref lq else .ref (ad y))):=qA1
   have PA4:∀ j ∈ (List.range i).filter (dpB p)++[i],(upd Hd dn (.dK (kvsV (intL ((List.range i).filter (dpB p))++[(i:Int)]) fun y=>if y=(i:Int) then .ref lq else .ref (ad y)))) (if (j:Int)=(i:Int) then lq else ad (j:Int))=some (.lst ((ndI net p j).map V.int)):=by
    intro j hj
    rcases List.mem_append.mp hj with h | h
    ·have hl:=List.mem_range.mp (List.mem_filter.mp h).1
     rw [if_neg (by omega)]
     have g:=sd _ _ (PA1 j h)
     rw [qA8 (ne_of g gdd (by intro z;cases z))]
     exact g
    ·rw [List.mem_singleton.mp h,if_pos rfl,qA8 nq]
     exact hpd
   generalize upd Hd dn (.dK (kvsV (intL ((List.range i).filter (dpB p))++[(i:Int)]) fun y=>if y=(i:Int) then .ref lq else .ref (ad y)))=H5 at gl4 sm4 gd4 PA4 ⊢
   refine hM1 _ _ ?_
   refine ⟨_,rfl,_,rfl,_,rfl,r,_,_,_,rfl,rfl,SqT.of (sm4 _ _ hm),rfl,dl,_,rfl,DPut.k (k:=Sum.inl w) gl4 (qAO (by omega)),?_⟩
   have ef:(List.range (i+1)).filter (dpB p)=(List.range i).filter (dpB p)++[i]:=by rw [dps_take hi,if_pos (dB_of em')]
   refine d1 _ _ ⟨fun z=>if z=(i:Int) then lq else ad z,_,_,rfl,qAF sm4 fdl,?_,?_,putK kvs (Sum.inl w) (.int (i:Int)),qA1,Nat.le_trans (qB2 _ _ _) (by omega),fun n=>?_⟩
   ·rw [qA8 ndl,gd4,ef]
    congr 2
    unfold intL
    rw [List.map_append]
    congr 1
    funext y
    dsimp only
    by_cases c:y=(i:Int)
    ·rw [if_pos c,if_pos c]
    ·rw [if_neg c,if_neg c]
   ·rw [ef]
    intro j hj
    have g:=PA4 j hj
    rw [qA8 (ne_of g gl4 (by intro z;cases z))]
    exact g
   ·rw [qCU,hv n]
    show _=(if p[i]?=some (dO n) then some i else lat p i n).map _
    rw [em']
    by_cases c:n=w
    ·rw [c,if_pos rfl,if_pos rfl];rfl
    ·rw [if_neg fun z=>c (Sum.inl.inj z),if_neg fun z=>c (qD4 (Option.some.inj z)).symm]
  ·have hd:¬ wd = "do":=fun e=>ck (decide_eq_true (congrArg V.str e))
   have nb:dpB p i=false:=Bool.eq_false_iff.mpr fun z=>hd (by
    have:=dB_iff.mp z
    rw [em] at this
    exact congrArg Prod.fst (Option.some.inj this))
   have ef:(List.range (i+1)).filter (dpB p)=(List.range i).filter (dpB p):=by rw [dps_take hi,nb];simp
   refine ⟨ad,_,_,rfl,sc1,by rw [ef];exact gd1,by rw [ef];exact PA1,kvs,gl1,by omega,fun n=>?_⟩
   rw [hv n]
   show _=(if p[i]?=some (dO n) then some i else lat p i n).map _
   rw [em,if_neg fun z=>hd (congrArg Prod.fst (Option.some.inj z))]
 ·refine fun σ Hc hI_5=>opq fun G_5 hG_5=>?_
  obtain ⟨ad,v4,v5,rfl,sc,gd,PA,LA⟩:=hI_5
  refine hG_5 ?_
  rw [List.length_map,lrs] at gd PA LA
  refine hN2 _ _ ?_
  refine ⟨_,rfl,_,rfl,(by show 2≤sizeLine;decide),fun T hT=>?_⟩
  have sT:=qA2 hT (.tup [.ref dn,.ref dl])
  obtain ⟨kvs,h1,h2,h3⟩:=LA
  exact q T dn dl ad _ (sc.trans sT) qA1 hdn (sT _ _ gd) (fun j hj=>sT _ _ (PA j hj)) ⟨kvs,sT _ _ h1,h2,h3⟩
end
section
variable {P:Program} {w:World} {K:PySem.W.Frag} {mg:Str→Option Value} {base:Heap} {f:Addr} {fd:FuncData}
theorem sc_stays_left:FnScope ["needed","last","left","stay","other"] ["needed","last"] (defScope qC2):=⟨rfl,rfl,rfl,by decide +kernel,rfl,by decide +kernel,by decide +kernel⟩
theorem ok_stays_left (F:Fun K "stays_left" "stays_left" qC2 f fd) (z_reversed:mg "reversed" = none) (z_list:mg "list" = none):FnOk P w K mg base CX0 1 f fd ["needed","last"] spStaysLeft:=by
 refine F.ok sc_stays_left (fun vs H Q E h=>?_) (fun cdv A outer s H vs Q E hr h=>?_)
 ·obtain ⟨dn,ll,net,p,asked,ad,rfl,_⟩:=h
  rfl
 obtain ⟨dn,ll,net,p,asked,ad,rfl,gdn,PA,nf,lp,l400,la,hla,gll,q⟩:=h
 have hu:=hu_of hr
 refine ⟨_,(qA4 (qAE (i:=2) sc_stays_left.nd rfl (Or.inl rfl) pe_dnewK) (qA4 (qB5 PassesOwn.never rfl (qB8 (pv 1)) (qA9 (i:=3) sc_stays_left.nd rfl (Or.inl rfl)) (qA6 (qCP hu (pv 2) (pv 3) pe_bl rfl))) (qA4 (qB5 PassesOwn.never rfl (pi_rev rfl z_reversed (qA0 (qAI (call_listD rfl) rfl z_list bt_list (qA0 (pv 0) qA3)) qA3)) (qA9 (i:=3) sc_stays_left.nd rfl (Or.inl rfl)) (qA6 (ps_if (pt_cmp (pc_din hu (pv 3) (pv 2))) (qA6 (qB5 PassesOwn.never rfl (qB8 (qC9 hu (pv 0) (pv 3) (fun _ _=>rfl))) (qA9 (i:=4) sc_stays_left.nd rfl (Or.inl rfl)) (qA6 (qCP hu (pv 2) (pv 4) pe_bl rfl)))) qAH))) (qA6 (qAG (pv 2)))))),?_⟩
 try dsimp only [Cx.nox,Cx.wish,cxOf]
 have ldp:(dps p).length≤p.length:=by unfold dps;have:=List.length_filter_le (dpB p) (List.range p.length);rw [List.length_range] at this;exact this
 refine cut fun N0 hN0=>?_
 refine fun d hd=>?_
 have s1:=qA2 hd (.dK [])
 have g1:(upd H d (.dK [])) d=some (.dK []):=qA1
 generalize upd H d (.dK [])=H1 at s1 g1 ⊢
 refine hN0 _ _ (cut fun N1 hN1=>?_)
 have gll1:=s1 _ _ gll
 refine ⟨_,rfl,ll,rfl,⟨_,SqL.of gll1⟩,qBK (a:=ll) (xs:=(lastI p asked).map V.int) (fun i σ Hc=>∃ (kvs:List (Key × V)) (v3:Option V),σ=[some (.ref dn),some (.ref ll),some (.ref d),v3,none]∧Same H Hc∧Hc d=some (.dK kvs)∧kvs.length≤i∧∀ y:Int,(valV kvs (Sum.inl y)).isSome=decide (y ∈ (lastI p asked).take i))
  ⟨[],none,rfl,s1,g1,Nat.zero_le _,fun y=>by simp [valV]⟩ (fun i σ Hc _ hP=>by obtain ⟨_,_,_,sc,_⟩:=hP;exact SqL.of (sc _ _ gll)) ?_ ?_⟩
 ·refine fun i x σ Hc hx hI_1=>opq fun G_1 hG_1=>?_
  obtain ⟨kvs,v3,rfl,sc,gd,lk,hv⟩:=hI_1
  obtain ⟨y,ey,rfl⟩:=qAS hx
  refine hG_1 ?_
  have hi:=(List.getElem?_eq_some_iff.mp ey).1
  have hi2:i<400:=by unfold lastI at hi;rw [List.length_map] at hi;omega
  refine ⟨_,rfl,_,rfl,d,_,rfl,DPut.k (k:=Sum.inl y) gd (qAO (by omega)),?_⟩
  refine ⟨_,_,rfl,qAF sc hd,qA1,Nat.le_trans (qB2 _ _ _) (by omega),fun z=>?_⟩
  rw [qCU,List.take_add_one,ey,Option.toList_some]
  by_cases c:z=y
  ·rw [c,if_pos rfl];simp
  ·rw [if_neg fun e=>c (Sum.inl.inj e),hv z];simp [c]
 refine fun σ Hc hI_2=>opq fun G_2 hG_2=>?_
 obtain ⟨kvs,v3,rfl,sc,gd,lk,hv⟩:=hI_2
 refine hG_2 ?_
 rw [List.length_map] at lk hv
 rw [List.take_length] at hv
 have ll4:(lastI p asked).length≤400:=by unfold lastI;rw [List.length_map];exact la
 refine hN1 _ _ (cut fun N2 hN2=>?_)
 have gdn1:=sc _ _ gdn
 refine ⟨_,rfl,dn,_,intL (dps p),rfl,gdn1,(by unfold kvsV;rw [List.map_map];rfl),fun lk2 hlk2=>?_⟩
 have s2:=qA2 hlk2 (.lst ((intL (dps p)).map V.int))
 have gk:(upd Hc lk2 (.lst ((intL (dps p)).map V.int))) lk2=some (.lst ((intL (dps p)).map V.int)):=qA1
 have gd2:=s2 _ _ gd
 have sc2:=sc.trans s2
 have nkd:lk2 ≠ d:=(qA5 gd hlk2).symm
 generalize upd Hc lk2 (.lst ((intL (dps p)).map V.int))=H2 at s2 gk gd2 sc2 ⊢
 have lks:((intL (dps p)).map V.int).length=(dps p).length:=by unfold intL;rw [List.length_map,List.length_map]
 refine ⟨lk2,_,rfl,SqL.of gk,?_⟩
 refine for_rev (a:=lk2) (xs:=(intL (dps p)).map V.int) (fun i σ Hx=>∃ (kvs:List (Key × V)) (v3 v4:Option V),σ=[some (.ref dn),some (.ref ll),some (.ref d),v3,v4]∧Same H Hx∧Hx lk2=some (.lst ((intL (dps p)).map V.int))∧Hx d=some (.dK kvs)∧kvs.length≤400+400 * i∧∀ y:Nat,(valV kvs (Sum.inl (y:Int))).isSome=true ↔ ((∃ n ∈ asked,lat p p.length n=some y)∨∃ k ∈ (dps p).drop ((dps p).length - i),wn net asked p (k+1) (wkO p k)=true∧∃ n ∈ nd net (wkO p k),lat p k n=some y))
  ⟨kvs,v3,none,rfl,sc2,gk,gd2,by omega,fun y=>?_⟩ (fun i σ Hx _ hP=>by obtain ⟨_,_,_,_,_,g,_⟩:=hP;exact SqL.of g) ?_ ?_
 ·rw [hv,decide_eq_true_eq,Nat.sub_zero,List.drop_length]
  constructor
  ·intro h
   obtain ⟨n,hn,e⟩:=List.mem_map.mp h
   obtain ⟨j,ej⟩:=hla n hn
   rw [ej] at e
   exact .inl ⟨n,hn,by rw [ej];congr 1;simp at e;omega⟩
  ·rintro (⟨n,hn,e⟩ | ⟨k,hk,_⟩)
   ·exact List.mem_map.mpr ⟨n,hn,by rw [e];rfl⟩
   ·cases hk
 ·refine fun i x σ Hx hi hx hI_3=>opq fun G_3 hG_3=>?_
  obtain ⟨kvs,v3,v4,rfl,sx,gkx,gdx,lkx,hvx⟩:=hI_3
  refine hG_3 ?_
  rw [lks] at hi hx
  obtain ⟨yk,ek,rfl⟩:=qAS hx
  unfold intL at ek
  rw [List.getElem?_map] at ek
  obtain ⟨k,ek',e1⟩:=Option.map_eq_some_iff.mp ek
  subst e1
  have hkm:=List.mem_of_getElem? ek'
  have gk':=mem_dps.mp hkm
  obtain ⟨ud,um⟩:=up_drop dps_up ek'
  rw [show (dps p).length - 1 - i+1=(dps p).length - i by omega] at ud um
  have ud':(dps p).drop ((dps p).length - (i+1))=k::(dps p).drop ((dps p).length - i):=by rw [show (dps p).length - (i+1)=(dps p).length - 1 - i by omega];exact ud
  have kin:(valV kvs (Sum.inl (k:Int))).isSome=true ↔ wn net asked p (k+1) (wkO p k)=true:=by
   rw [hvx k,← kept_iff gk']
   constructor
   ·rintro (h | ⟨j,hj,h1,h2⟩)
    ·exact .inl h
    ·have hjm:=List.mem_of_mem_drop hj
     exact .inr ⟨j,_,(um j hjm).mp hj,mem_dps.mp hjm,h1,h2⟩
   ·rintro (h | ⟨j,w,h0,h1,h2,h3⟩)
    ·exact .inl h
    ·have:=wkO_of h1
     subst this
     have hjm:=mem_dps.mpr h1
     exact .inr ⟨j,(um j hjm).mpr h0,h2,h3⟩
  refine ⟨_,rfl,_,rfl,d,_,rfl,DGet.k (k:=Sum.inl (k:Int)) gdx,_,rfl,?_⟩
  rw [ud']
  by_cases c:wn net asked p (k+1) (wkO p k)=true
  ·rw [kin.mpr c]
   refine iteT ?_
   have gdnx:=sx _ _ gdn
   have hg:=DGet.k (k:=Sum.inl (k:Int)) gdnx
   have mi:((k:Nat):Int) ∈ intL (dps p):=List.mem_map.mpr ⟨k,hkm,rfl⟩
   rw [kvsV_get (g:=fun z=>V.ref (ad z)) mi] at hg
   have gA:=sx _ _ (PA k hkm)
   have l4:=l400 k
   refine ⟨_,rfl,_,rfl,dn,_,rfl,hg,ad (k:Int),rfl,⟨_,SqL.of gA⟩,qBK (a:=ad (k:Int)) (xs:=(ndI net p k).map V.int) (fun j σ Hy=>∃ (kv2:List (Key × V)) (v4:Option V),σ=[some (.ref dn),some (.ref ll),some (.ref d),some (.int (k:Int)),v4]∧Same H Hy∧Hy lk2=some (.lst ((intL (dps p)).map V.int))∧Hy d=some (.dK kv2)∧kv2.length≤kvs.length+j∧∀ y:Int,(valV kv2 (Sum.inl y)).isSome=((valV kvs (Sum.inl y)).isSome || decide (y ∈ (ndI net p k).take j)))
    ⟨kvs,v4,rfl,sx,gkx,gdx,by omega,fun y=>by simp⟩ (fun j σ Hy _ hP=>by obtain ⟨_,_,_,sy,_⟩:=hP;exact SqL.of (sy _ _ (PA k hkm))) ?_ ?_⟩
   ·refine fun j x σ Hy hx hI_4=>opq fun G_4 hG_4=>?_
    obtain ⟨kv2,v4,rfl,sy,gky,gdy,lky,hvy⟩:=hI_4
    obtain ⟨y,ey,rfl⟩:=qAS hx
    refine hG_4 ?_
    have hj:=(List.getElem?_eq_some_iff.mp ey).1
    refine ⟨_,rfl,_,rfl,d,_,rfl,DPut.k (k:=Sum.inl y) gdy (qAO (by omega)),?_⟩
    refine ⟨_,_,rfl,qAF sy hd,by rw [qA8 nkd];exact gky,qA1,Nat.le_trans (qB2 _ _ _) (by omega),fun z=>?_⟩
    rw [qCU,List.take_add_one,ey,Option.toList_some]
    by_cases c:z=y
    ·rw [c,if_pos rfl];simp
    ·rw [if_neg fun e=>c (Sum.inl.inj e),hvy z];simp [c]
   ·refine fun σ Hy hI_5=>opq fun G_5 hG_5=>?_
    obtain ⟨kv2,v4,rfl,sy,gky,gdy,lky,hvy⟩:=hI_5
    refine hG_5 ?_
    rw [List.length_map] at lky hvy
    rw [List.take_length] at hvy
    refine ⟨kv2,_,_,rfl,sy,gky,gdy,by omega,fun y=>?_⟩
    rw [hvy,Bool.or_eq_true,hvx y,decide_eq_true_eq]
    constructor
    ·rintro ((h | ⟨j,hj,h1⟩) | h)
     ·exact .inl h
     ·exact .inr ⟨j,List.mem_cons_of_mem _ hj,h1⟩
     ·obtain ⟨n,hn,e⟩:=List.mem_map.mp h
      obtain ⟨j,ej⟩:=nf k _ gk' n hn
      rw [ej,Option.getD_some] at e
      exact .inr ⟨k,List.mem_cons_self,c,n,hn,by rw [ej];congr 1;omega⟩
    ·rintro (h | ⟨j,hj,h1,n,hn,h3⟩)
     ·exact .inl (.inl h)
     ·rcases List.mem_cons.mp hj with e | hj
      ·subst e
       exact .inr (List.mem_map.mpr ⟨n,hn,by rw [h3];rfl⟩)
      ·exact .inl (.inr ⟨j,hj,h1,n,hn,h3⟩)
  ·rw [Bool.eq_false_iff.mpr fun z=>c (kin.mp z)]
   refine iteF ?_
   refine ⟨kvs,_,_,rfl,sx,gkx,gdx,by omega,fun y=>?_⟩
   rw [hvx y]
   constructor
   ·rintro (h | ⟨j,hj,h1⟩)
    ·exact .inl h
    ·exact .inr ⟨j,List.mem_cons_of_mem _ hj,h1⟩
   ·rintro (h | ⟨j,hj,h1,h2⟩)
    ·exact .inl h
    ·rcases List.mem_cons.mp hj with e | hj
     ·subst e
      exact absurd h1 c
     ·exact .inr ⟨j,hj,h1,h2⟩
 ·refine fun σ Hx hI_6=>opq fun G_6 hG_6=>?_
  obtain ⟨kvs,v3,v4,rfl,sx,gkx,gdx,lkx,hvx⟩:=hI_6
  refine hG_6 ?_
  rw [lks] at hvx
  refine hN2 _ _ ⟨_,rfl,q d kvs Hx sx hd gdx fun y=>?_⟩
  rw [hvx y,Nat.sub_self,List.drop_zero]
  constructor
  ·rintro (h | ⟨k,hk,h1,h2⟩)
   ·exact .inl h
   ·exact .inr ⟨k,_,Nat.zero_le _,mem_dps.mp hk,h1,h2⟩
  ·rintro (h | ⟨k,w,_,h1,h2,h3⟩)
   ·exact .inl h
   ·have:=wkO_of h1
    subst this
    exact .inr ⟨k,mem_dps.mpr h1,h2,h3⟩
end
section
variable {P:Program} {w:World} {K:PySem.W.Frag} {mg:Str→Option Value} {base:Heap} {f:Addr} {fd:FuncData} {f_stays_of f_stays_left:Addr} {fd_stays_of fd_stays_left:FuncData}
theorem sc_tidied:FnScope ["net","plan","asked","told","needed","last","left","dos","last_user","stay","other","tidy"] ["net","plan","asked"] (defScope s_tidied):=⟨rfl,rfl,rfl,by decide +kernel,rfl,by decide +kernel,by decide +kernel⟩
theorem ok_tidied (F:Fun K "tidied" "tidied" s_tidied f fd) (C_stays_of:Clb P w K mg base 1 f_stays_of fd_stays_of "stays_of" ["net","plan"] spStaysOf) (C_stays_left:Clb P w K mg base 1 f_stays_left fd_stays_left "stays_left" ["needed","last"] spStaysLeft):FnOk P w K mg base CX0 2 f fd ["net","plan","asked"] spTidied:=by
 refine F.ok sc_tidied (fun vs H Q E h=>?_) (fun cdv A outer s H vs Q E hr h=>?_)
 ·obtain ⟨a,l,t,net,p,asked,rfl,_⟩:=h
  rfl
 obtain ⟨a,l,t,net,p,asked,rfl,PI,hT,la,hla,q⟩:=h
 have hu:=hu_of hr
 refine ⟨_,(qA4 (qAE (i:=3) sc_tidied.nd rfl (Or.inr rfl) (pe_cl C_stays_of hr rfl (qA0 (pv 0) (qA0 (pv 1) qA3)))) (qA4 (qAE (i:=4) sc_tidied.nd rfl (Or.inl rfl) (pe_ix qAW (pv 3) qA7 (fun _ _=>rfl))) (qA4 (ps_lc (i:=5) sc_tidied.nd rfl rfl rfl (lcs (own:=["work"]) (fv:=[3]) (by kernel_rfl)) (qCB (pv 2)) (fun z1=>qA9 (i:=0) (nd_of (by kernel_rfl)) rfl (Or.inl rfl)) (fun z1=>qBC) (fun z1=>(qC9 hu (pe_ix (qBX (K:=K) rfl) (pv 1) qA7 (fun _ _=>rfl)) (pv 0) (fun _ _=>rfl))) (by kernel_rfl)) (qA4 (qAE (i:=6) sc_tidied.nd rfl (Or.inr rfl) (pe_cl C_stays_left hr rfl (qA0 (pv 4) (qA0 (pv 5) qA3)))) (qA4 (ps_lc (i:=7) sc_tidied.nd rfl rfl rfl (lcs (own:=["stay"]) (fv:=[6]) (by kernel_rfl)) (pi_dictF (pe_frz (pv 4))) (fun z2=>qA9 (i:=0) (nd_of (by kernel_rfl)) rfl (Or.inl rfl)) (fun z2=>(qBO (pt_cmp (pc_din hu (pv 0) (pv 1))))) (fun z2=>(pv 0)) (by kernel_rfl)) (qA4 (qAE (i:=8) sc_tidied.nd rfl (Or.inl rfl) pe_dnewK) (qA4 (qB5 PassesOwn.never rfl (qB8 (pv 7)) (qA9 (i:=9) sc_tidied.nd rfl (Or.inl rfl)) (qA6 (qB5 PassesOwn.never rfl (qB8 (qC9 hu (pv 4) (pv 9) (fun _ _=>rfl))) (qA9 (i:=10) sc_tidied.nd rfl (Or.inl rfl)) (qA6 (qCP hu (pv 8) (pv 10) (pv 9) rfl))))) (qA4 (qB5 PassesOwn.never rfl (qB8 (pv 5)) (qA9 (i:=9) sc_tidied.nd rfl (Or.inl rfl)) (qA6 (qCP hu (pv 8) (pv 9) pe_non rfl))) (qA4 (qAE (i:=11) sc_tidied.nd rfl (Or.inl rfl) (qB0 qA3)) (qA4 (qB5 PassesOwn.never rfl (qB8 (pv 7)) (qA9 (i:=9) sc_tidied.nd rfl (Or.inl rfl)) (qA4 (qBW (pe_bm PySem.F.plainAttrs_list PySem.F.slot_list_append PySem.F.type_list_append qAZ (pv 11) (qA0 (pe_ix qAR (pv 1) (pv 9) (fun _ _=>rfl)) qA3))) (qA6 (qB5 PassesOwn.never rfl (qB8 (qC9 hu (pv 4) (pv 9) (fun _ _=>rfl))) (qA9 (i:=10) sc_tidied.nd rfl (Or.inl rfl)) (qA6 (ps_if (qAC op_eq (qC9 hu (pv 8) (pv 10) (fun _ _=>rfl)) (pv 9) (nomark _)) (qA6 (qBW (pe_bm PySem.F.plainAttrs_list PySem.F.slot_list_append PySem.F.type_list_append qAZ (pv 11) (qA0 (qB7 (qA0 qAL (qA0 (pe_ix qAW (pe_ix qAR (pv 1) (pv 10) (fun _ _=>rfl)) qA7 (fun _ _=>rfl)) qA3))) qA3)))) qAH)))))) (qA6 (qAG (pv 11))))))))))))),?_⟩
 try dsimp only [Cx.nox,Cx.wish,cxOf]
 obtain ⟨hN,wf,n400,⟨rs,hL,ML⟩,lp,mo,nf⟩:=id PI
 have ldp:(dps p).length≤p.length:=by unfold dps;have:=List.length_filter_le (dpB p) (List.range p.length);rw [List.length_range] at this;exact this
 refine cut fun N0 hN0=>?_
 refine ⟨_,rfl,_,rfl,a,l,net,p,rfl,PI,fun T dn dl ad H1 s1 gT fdn gdn PA LA=>?_⟩
 refine hN0 _ _ (cut fun N1 hN1=>?_)
 refine ⟨_,rfl,T,_,_,_,rfl,rfl,SqT.of gT,rfl,?_⟩
 refine hN1 _ _ (cut fun N2 hN2=>?_)
 obtain ⟨kvL,gdl,lkl,hvl⟩:=LA
 refine ⟨_,rfl,t,rfl,⟨_,SqT.of (s1 _ _ hT)⟩,fun p5 hp5=>?_⟩
 refine qD3 (p:=p5) (a:=t) (xs:=asked.map V.int) (fun i σ Hc=>∃ v:Option V,σ=[v,some (.ref T)]∧Same H1 Hc∧Hc p5=some (.lst (((asked.take i).map fun n=>(((lat p p.length n).getD 0:Nat):Int)).map V.int))) ?_ ?_ ?_ ?_
 ·exact ⟨none,rfl,qA2 hp5 _,qA1⟩
 ·rintro i σ Hc hi ⟨v,rfl,sc,_⟩
  exact SqT.of (sc _ _ (s1 _ _ hT))
 ·refine fun i x σ Hc hx hI_2=>opq fun G_2 hG_2=>?_
  obtain ⟨v,rfl,sc,hpc⟩:=hI_2
  obtain ⟨n,ey,rfl⟩:=qAS hx
  refine hG_2 ?_
  have hi:=(List.getElem?_eq_some_iff.mp ey).1
  obtain ⟨j,ej⟩:=hla n (List.mem_of_getElem? ey)
  have hg:=DGet.k (k:=Sum.inl n) (sc _ _ gdl)
  rw [hvl n,ej] at hg
  refine ⟨_,rfl,T,_,_,_,rfl,rfl,SqT.of (sc _ _ gT),rfl,_,rfl,dl,_,rfl,hg,_,hpc,small1000 (by rw [List.length_map,List.length_map,List.length_take];omega),_,rfl,qAF sc hp5,?_⟩
  rw [qA1,List.take_add_one,ey,Option.toList_some,List.map_append,List.map_append,List.map_singleton,ej]
  rfl
 refine fun σ Hc hI_3=>opq fun G_3 hG_3=>?_
 obtain ⟨v,rfl,sc,hpc⟩:=hI_3
 refine hG_3 ?_
 rw [List.length_map,qBH rfl] at hpc
 have gll:Hc p5=some (.lst ((lastI p asked).map V.int)):=hpc
 have s2:=s1.trans sc
 refine hN2 _ _ (cut fun N3 hN3=>?_)
 refine ⟨_,rfl,_,rfl,dn,p5,net,p,asked,ad,rfl,sc _ _ gdn,fun j hj=>sc _ _ (PA j hj),nf,lp,fun j=>?_,la,hla,gll,fun dd kvs H3 s3 fdd gdd hdd=>?_⟩
 ·unfold ndI
  rw [List.length_map]
  exact nd_few wf n400 _
 have s13:=sc.trans s3
 have s03:=s1.trans s13
 have gdn3:=s13 _ _ gdn
 have gll3:=s3 _ _ gll
 have PA3:∀ j ∈ dps p,H3 (ad (j:Int))=some (.lst ((ndI net p j).map V.int)):=fun j hj=>s13 _ _ (PA j hj)
 refine hN3 _ _ (cut fun N4 hN4=>?_)
 refine ⟨_,rfl,dn,_,rfl,gdn3,fun o=>⟨dn,o,_,rfl,qA1,fun p7 hp7=>?_⟩⟩
 have nd5:p5 ≠ dn:=ne_of gll3 gdn3 (by intro z;cases z)
 have ndd:dd ≠ dn:=(qA5 (sc _ _ gdn) fdd).symm
 have s04:Same H (upd H3 dn (.frz o (.dK (kvsV (intL (dps p)) fun z=>.ref (ad z))))):=qAF s03 fdn
 have gdn4:(upd H3 dn (.frz o (.dK (kvsV (intL (dps p)) fun z=>.ref (ad z))))) dn=some (.frz o (.dK (kvsV (intL (dps p)) fun z=>.ref (ad z)))):=qA1
 have gll4:(upd H3 dn (.frz o (.dK (kvsV (intL (dps p)) fun z=>.ref (ad z))))) p5=some (.lst ((lastI p asked).map V.int)):=by rw [qA8 nd5];exact gll3
 have gdd4:(upd H3 dn (.frz o (.dK (kvsV (intL (dps p)) fun z=>.ref (ad z))))) dd=some (.dK kvs):=by rw [qA8 ndd];exact gdd
 have PA4:∀ j ∈ dps p,(upd H3 dn (.frz o (.dK (kvsV (intL (dps p)) fun z=>.ref (ad z))))) (ad (j:Int))=some (.lst ((ndI net p j).map V.int)):=fun j hj=>by rw [qA8 (ne_of (PA3 j hj) gdn3 (by intro z;cases z))];exact PA3 j hj
 generalize upd H3 dn (.frz o (.dK (kvsV (intL (dps p)) fun z=>.ref (ad z))))=H4 at hp7 s04 gdn4 gll4 gdd4 PA4 ⊢
 have lkv:(kvsV (intL (dps p)) fun z=>V.ref (ad z)).length=(dps p).length:=by unfold kvsV intL;rw [List.length_map,List.length_map]
 refine lc_dictF (p:=p7) (a:=dn) (o:=o) (kvs:=kvsV (intL (dps p)) fun z=>.ref (ad z)) (fun i σ Hx=>∃ v:Option V,σ=[v,some (.ref dd)]∧Same H4 Hx∧Hx p7=some (.lst ((intL (((dps p).take i).filter (kB net asked p))).map V.int))) ?_ ?_ ?_ ?_
 ·exact ⟨none,rfl,qA2 hp7 _,qA1⟩
 ·refine fun i σ Hx hi hI_4=>opq fun G_4 hG_4=>?_
  obtain ⟨v,rfl,sx,_⟩:=hI_4
  refine hG_4 ?_
  exact sx _ _ gdn4
 ·refine fun i k v σ Hx hk hI_5=>opq fun G_5 hG_5=>?_
  obtain ⟨v0,rfl,sx,hpx⟩:=hI_5
  obtain ⟨j,ej,rfl,_⟩:=kvs_at hk
  refine hG_5 ?_
  have hjm:=List.mem_of_getElem? ej
  have gj:=mem_dps.mp hjm
  have hi:=(List.getElem?_eq_some_iff.mp ej).1
  refine ⟨_,rfl,_,rfl,dd,_,rfl,DGet.k (k:=Sum.inl (j:Int)) (sx _ _ gdd4),_,rfl,?_⟩
  rw [qBG ej]
  have kk:(valV kvs (Sum.inl (j:Int))).isSome=kB net asked p j:=by
   rw [Bool.eq_iff_iff,hdd j,wt_zero gj]
   unfold kB
   rw [Bool.and_eq_true,dB_iff]
   exact ⟨fun h=>⟨gj,h⟩,fun h=>h.2⟩
  rw [kk]
  by_cases c:kB net asked p j=true
  ·rw [c,if_pos rfl]
   refine iteT ?_
   have lf:=List.length_filter_le (kB net asked p) ((dps p).take i)
   rw [List.length_take] at lf
   refine ⟨_,rfl,_,hpx,qAO (by unfold intL;rw [List.length_map,List.length_map];omega),_,rfl,qAF sx hp7,?_⟩
   rw [qA1]
   unfold intL
   rw [List.map_append,List.map_append]
   rfl
  ·rw [Bool.eq_false_iff.mpr c]
   refine iteF ?_
   refine ⟨_,rfl,sx,?_⟩
   simpa using hpx
 refine fun σ Hx hI_6=>opq fun G_6 hG_6=>?_
 obtain ⟨v0,rfl,sx,hpx⟩:=hI_6
 refine hG_6 ?_
 rw [lkv,List.take_length] at hpx
 have gk7:Hx p7=some (.lst ((intL (kps net asked p)).map V.int)):=hpx
 have s05:=s04.trans sx
 have gdn5:=sx _ _ gdn4
 have gll5:=sx _ _ gll4
 have PA5:∀ j ∈ kps net asked p,Hx (ad (j:Int))=some (.lst ((ndI net p j).map V.int)):=fun j hj=>sx _ _ (PA4 j (List.mem_filter.mp hj).1)
 clear hdd gdd4 PA4 gll4 gdn4
 have f7:H p7=none:=s04.free hp7
 have lkp:(kps net asked p).length≤1000:=Nat.le_trans (List.length_filter_le _ _) (by omega)
 have lik:∀ xs:List Nat,((intL xs).map V.int).length=xs.length:=fun xs=>by unfold intL;rw [List.length_map,List.length_map]
 have gget:∀ {Hy:Hp} {k:Nat},k ∈ kps net asked p→Hy dn=some (.frz o (.dK (kvsV (intL (dps p)) fun z=>.ref (ad z))))→DGet Hy dn (.int (k:Int)) (some (.ref (ad (k:Int)))):=fun {Hy k} hk g=>.inl ⟨_,Sum.inl (k:Int),.inr ⟨o,g⟩,rfl,by
  have mi:((k:Nat):Int) ∈ intL (dps p):=List.mem_map.mpr ⟨k,(List.mem_filter.mp hk).1,rfl⟩
  rw [kvsV_get (g:=fun z=>V.ref (ad z)) mi]⟩
 refine hN4 _ _ (cut fun N5 hN5=>?_)
 refine fun du hdu=>?_
 have s6:=qA2 hdu (.dK [])
 have gu6:(upd Hx du (.dK [])) du=some (.dK []):=qA1
 have fdu:H du=none:=s05.free hdu
 have s06:=s05.trans s6
 have gk6:=s6 _ _ gk7
 have gll6:=s6 _ _ gll5
 have gdn6:=s6 _ _ gdn5
 have PA6:∀ j ∈ kps net asked p,(upd Hx du (.dK [])) (ad (j:Int))=some (.lst ((ndI net p j).map V.int)):=fun j hj=>s6 _ _ (PA5 j hj)
 have ndu:dn ≠ du:=qA5 gdn5 hdu
 have n7u:p7 ≠ du:=qA5 gk7 hdu
 have n5u:p5 ≠ du:=qA5 gll5 hdu
 generalize upd Hx du (.dK [])=H6 at gu6 s06 gk6 gll6 gdn6 PA6 ⊢
 refine hN5 _ _ (cut fun N6 hN6=>?_)
 refine ⟨_,rfl,p7,rfl,⟨_,SqL.of gk6⟩,qBK (a:=p7) (xs:=(intL (kps net asked p)).map V.int) (fun i σ Hy=>∃ (kv:List (Key × V)) (v9 v10:Option V),σ=[some (.ref a),some (.ref l),some (.ref t),some (.ref T),some (.ref dn),some (.ref p5),some (.ref dd),some (.ref p7),some (.ref du),v9,v10,none]∧Keep du du H6 Hy∧Hy du=some (.dK kv)∧kv.length≤400 * i∧∀ y:Nat,valV kv (Sum.inl (y:Int))=(luF net p ((kps net asked p).take i) y).map fun (k:Nat)=>V.int (k:Int))
  ⟨[],none,none,rfl,.refl,gu6,Nat.zero_le _,fun y=>rfl⟩ (fun i σ Hy _ hP=>by obtain ⟨_,_,_,_,ky,_⟩:=hP;exact SqL.of (ky _ _ gk6 n7u n7u)) ?_ ?_⟩
 ·refine fun i x σ Hy hx hI_7=>opq fun G_7 hG_7=>?_
  obtain ⟨kv,v9,v10,rfl,ky,gu,lk,hv⟩:=hI_7
  obtain ⟨yk,ek,rfl⟩:=qAS hx
  refine hG_7 ?_
  unfold intL at ek
  rw [List.getElem?_map] at ek
  obtain ⟨k,ek',e1⟩:=Option.map_eq_some_iff.mp ek
  subst e1
  have hi:=(List.getElem?_eq_some_iff.mp ek').1
  have hkm:=List.mem_of_getElem? ek'
  have gk':=(mem_kps.mp hkm).1
  have gA:=PA6 k hkm
  have nAu:ad (k:Int) ≠ du:=ne_of gA gu6 (by intro z;cases z)
  have l4:(ndI net p k).length≤400:=by unfold ndI;rw [List.length_map];exact nd_few wf n400 _
  refine ⟨_,rfl,_,rfl,dn,_,rfl,gget hkm (ky _ _ gdn6 ndu ndu),ad (k:Int),rfl,⟨_,SqL.of (ky _ _ gA nAu nAu)⟩,qBK (a:=ad (k:Int)) (xs:=(ndI net p k).map V.int) (fun j σ Hz=>∃ (kv2:List (Key × V)) (v10:Option V),σ=[some (.ref a),some (.ref l),some (.ref t),some (.ref T),some (.ref dn),some (.ref p5),some (.ref dd),some (.ref p7),some (.ref du),some (.int (k:Int)),v10,none]∧Keep du du H6 Hz∧Hz du=some (.dK kv2)∧kv2.length≤400 * i+j∧∀ y:Nat,valV kv2 (Sum.inl (y:Int))=if ((y:Nat):Int) ∈ (ndI net p k).take j then some (.int (k:Int)) else (luF net p ((kps net asked p).take i) y).map fun (k:Nat)=>V.int (k:Int))
   ⟨kv,v10,rfl,ky,gu,by omega,fun y=>by rw [if_neg (by simp)];exact hv y⟩ (fun j σ Hz _ hP=>by obtain ⟨_,_,_,kz,_⟩:=hP;exact SqL.of (kz _ _ gA nAu nAu)) ?_ ?_⟩
  ·refine fun j x σ Hz hx hI_8=>opq fun G_8 hG_8=>?_
   obtain ⟨kv2,v10,rfl,kz,gz,lz,hz⟩:=hI_8
   obtain ⟨y,ey,rfl⟩:=qAS hx
   refine hG_8 ?_
   have hj:=(List.getElem?_eq_some_iff.mp ey).1
   refine ⟨_,rfl,_,rfl,_,rfl,du,_,rfl,DPut.k (k:=Sum.inl y) gz (qAO (by omega)),?_⟩
   refine ⟨_,_,rfl,keep_dp kz,qA1,Nat.le_trans (qB2 _ _ _) (by omega),fun z=>?_⟩
   rw [qCU,List.take_add_one,ey,Option.toList_some]
   by_cases c:((z:Nat):Int)=y
   ·rw [if_pos (by rw [c]),if_pos (by rw [c];simp)]
   ·rw [if_neg fun e=>c (Sum.inl.inj e),hz z]
    by_cases c2:((z:Nat):Int) ∈ (ndI net p k).take j
    ·rw [if_pos c2,if_pos (List.mem_append_left _ c2)]
    ·rw [if_neg c2,if_neg (by simp [c2,c])]
  ·refine fun σ Hz hI_9=>opq fun G_9 hG_9=>?_
   obtain ⟨kv2,v10,rfl,kz,gz,lz,hz⟩:=hI_9
   refine hG_9 ?_
   rw [List.length_map] at lz hz
   rw [List.take_length] at hz
   refine ⟨kv2,_,_,rfl,kz,gz,by omega,fun y=>?_⟩
   rw [hz y,List.take_add_one,ek',Option.toList_some,luF_snoc]
   by_cases c:usB net p y k=true
   ·rw [if_pos c,if_pos ((mem_ndI nf gk').mpr c)]
    rfl
   ·rw [if_neg c,if_neg fun z=>c ((mem_ndI nf gk').mp z)]
 refine fun σ Hy hI_10=>opq fun G_10 hG_10=>?_
 obtain ⟨kv,v9,v10,rfl,ky,gu,lk,hv⟩:=hI_10
 refine hG_10 ?_
 rw [lik] at lk hv
 rw [List.take_length] at hv
 refine hN6 _ _ (cut fun N7 hN7=>?_)
 have ll4:(lastI p asked).length≤400:=by unfold lastI;rw [List.length_map];exact la
 refine ⟨_,rfl,p5,rfl,⟨_,SqL.of (ky _ _ gll6 n5u n5u)⟩,qBK (a:=p5) (xs:=(lastI p asked).map V.int) (fun i σ Hz=>∃ (kv2:List (Key × V)) (v9:Option V),σ=[some (.ref a),some (.ref l),some (.ref t),some (.ref T),some (.ref dn),some (.ref p5),some (.ref dd),some (.ref p7),some (.ref du),v9,v10,none]∧Keep du du H6 Hz∧Hz du=some (.dK kv2)∧kv2.length≤kv.length+i∧∀ y:Nat,valV kv2 (Sum.inl (y:Int))=if ((y:Nat):Int) ∈ (lastI p asked).take i then some .non else (luF net p (kps net asked p) y).map fun (k:Nat)=>V.int (k:Int))
  ⟨kv,v9,rfl,ky,gu,by omega,fun y=>by rw [if_neg (by simp)];exact hv y⟩ (fun i σ Hz _ hP=>by obtain ⟨_,_,_,kz,_⟩:=hP;exact SqL.of (kz _ _ gll6 n5u n5u)) ?_ ?_⟩
 ·refine fun i x σ Hz hx hI_11=>opq fun G_11 hG_11=>?_
  obtain ⟨kv2,v9,rfl,kz,gz,lz,hz⟩:=hI_11
  obtain ⟨y,ey,rfl⟩:=qAS hx
  refine hG_11 ?_
  have hi:=(List.getElem?_eq_some_iff.mp ey).1
  refine ⟨_,rfl,_,rfl,du,_,rfl,DPut.k (k:=Sum.inl y) gz (qAO (by omega)),?_⟩
  refine ⟨_,_,rfl,keep_dp kz,qA1,Nat.le_trans (qB2 _ _ _) (by omega),fun z=>?_⟩
  rw [qCU,List.take_add_one,ey,Option.toList_some]
  by_cases c:((z:Nat):Int)=y
  ·rw [if_pos (by rw [c]),if_pos (by rw [c];simp)]
  ·rw [if_neg fun e=>c (Sum.inl.inj e),hz z]
   by_cases c2:((z:Nat):Int) ∈ (lastI p asked).take i
   ·rw [if_pos c2,if_pos (List.mem_append_left _ c2)]
   ·rw [if_neg c2,if_neg (by simp [c2,c])]
 refine fun σ Hz hI_12=>opq fun G_12 hG_12=>?_
 obtain ⟨kv2,v9,rfl,kz,gz,lz,hz⟩:=hI_12
 refine hG_12 ?_
 rw [List.length_map] at lz hz
 rw [List.take_length] at hz
 have s0z:Same H Hz:=fun b u e=>kz b u (s06 b u e) (qA5 e fdu) (qA5 e fdu)
 refine hN7 _ _ (cut fun N8 hN8=>?_)
 refine ⟨(by show 0≤sizeLine;decide),fun lt hlt=>?_⟩
 have s8:=qA2 hlt (.lst [])
 have g8:(upd Hz lt (.lst [])) lt=some (.lst (([]:List Addr).map V.ref)):=qA1
 have gu8:=s8 _ _ gz
 have gk8:=s8 _ _ (kz _ _ gk6 n7u n7u)
 have gdn8:=s8 _ _ (kz _ _ gdn6 ndu ndu)
 have PA8:∀ j ∈ kps net asked p,(upd Hz lt (.lst [])) (ad (j:Int))=some (.lst ((ndI net p j).map V.int)):=fun j hj=>by
  have nAu:ad (j:Int) ≠ du:=ne_of (PA6 j hj) gu6 (by intro z;cases z)
  exact s8 _ _ (kz _ _ (PA6 j hj) nAu nAu)
 have s08:=s0z.trans s8
 have flt:H lt=none:=s0z.free hlt
 have nlu:lt ≠ du:=(qA5 gz hlt).symm
 have n7t:p7 ≠ lt:=qA5 (kz _ _ gk6 n7u n7u) hlt
 have nnt:dn ≠ lt:=qA5 (kz _ _ gdn6 ndu ndu) hlt
 have nut:du ≠ lt:=qA5 gz hlt
 have nAt:∀ j ∈ kps net asked p,ad (j:Int) ≠ lt:=fun j hj=>by
  have nAu:ad (j:Int) ≠ du:=ne_of (PA6 j hj) gu6 (by intro z;cases z)
  exact qA5 (kz _ _ (PA6 j hj) nAu nAu) hlt
 generalize upd Hz lt (.lst [])=H8 at g8 gu8 gk8 gdn8 PA8 s08 ⊢
 refine hN8 _ _ (cut fun N9 hN9=>?_)
 have big:∀ i,(((kps net asked p).take i).map (pc net asked p)).flatten.length≤401000:=by
  intro i
  have one:∀ k,(pc net asked p k).length≤401:=fun k=>by
   unfold pc
   rw [List.length_cons,List.length_map]
   have:=List.length_filter_le (fun n=>!wn net asked p (k+1) n) (nd net (wkO p k))
   have:=nd_few wf n400 (wkO p k)
   omega
  have h:=flat_len (net:=[]) (B:=0) (fun _ z=>nomatch z)
  have gen:∀ L:List Nat,((L.map (pc net asked p)).flatten).length≤401 * L.length:=by
   intro L
   induction L with
   | nil=>simp
   | cons x L ih=>
    rw [List.map_cons,List.flatten_cons,List.length_append,List.length_cons]
    have:=one x
    omega
  have:=gen ((kps net asked p).take i)
  rw [List.length_take] at this
  have:401 * min i (kps net asked p).length≤401 * 1000:=Nat.mul_le_mul_left _ (by omega)
  omega
 refine ⟨_,rfl,p7,rfl,⟨_,SqL.of gk8⟩,qBK (a:=p7) (xs:=(intL (kps net asked p)).map V.int) (fun i σ Hw=>∃ (ts:List Addr) (v9 v10:Option V),σ=[some (.ref a),some (.ref l),some (.ref t),some (.ref T),some (.ref dn),some (.ref p5),some (.ref dd),some (.ref p7),some (.ref du),v9,v10,some (.ref lt)]∧Keep lt lt H8 Hw∧Hw lt=some (.lst (ts.map V.ref))∧MovL Hw ts (((kps net asked p).take i).map (pc net asked p)).flatten)
  ⟨[],v9,v10,rfl,.refl,g8,.nil⟩ (fun i σ Hw _ hP=>by obtain ⟨_,_,_,_,kw,_⟩:=hP;exact SqL.of (kw _ _ gk8 n7t n7t)) ?_ ?_⟩
 ·refine fun i x σ Hw hx hI_13=>opq fun G_13 hG_13=>?_
  obtain ⟨ts,v9,v10,rfl,kw,gt,MT⟩:=hI_13
  obtain ⟨yk,ek,rfl⟩:=qAS hx
  refine hG_13 ?_
  unfold intL at ek
  rw [List.getElem?_map] at ek
  obtain ⟨k,ek',e1⟩:=Option.map_eq_some_iff.mp ek
  subst e1
  have hkm:=List.mem_of_getElem? ek'
  have gk':=(mem_kps.mp hkm).1
  have lts:=Paired.length MT
  have bi:=big i
  have same8:∀ {Hq:Hp},Keep lt lt H8 Hq→Same H Hq:=fun kq b u e=>kq b u (s08 b u e) (qA5 e flt) (qA5 e flt)
  obtain ⟨r,er,hr1⟩:=qCC ML gk'
  refine nmD fun D1 d1 _=>?_
  refine cut fun M1 hM1=>?_
  have hLw:=same8 kw _ _ hL
  refine ⟨_,rfl,.inl ⟨rfl,_,SqL.of gt⟩,_,rfl,_,rfl,l,_,_,_,rfl,rfl,SqL.of hLw,qBB (by omega) (by rw [Int.toNat_natCast,List.getElem?_map,er];rfl),lt,_,_,rfl,rfl,gt,qAO (by rw [List.length_map];omega),?_⟩
  rw [qAX]
  have kw1:=keep_dp (o:=.lst ((ts++[r]).map V.ref)) kw
  have gt1:(upd Hw lt (.lst ((ts++[r]).map V.ref))) lt=some (.lst ((ts++[r]).map V.ref)):=qA1
  have MT1:MovL (upd Hw lt (.lst ((ts++[r]).map V.ref))) (ts++[r]) ((((kps net asked p).take i).map (pc net asked p)).flatten++[dO (wkO p k)]):=by
   refine qBD (qBT MT fun b m e=>?_) ?_
   ·rw [qA8 (ne_of e gt (by intro z;cases z))];exact e
   ·rw [qA8 (ne_of (same8 kw _ _ hr1) gt (by intro z;cases z))]
    exact same8 kw _ _ hr1
  generalize upd Hw lt (.lst ((ts++[r]).map V.ref))=H9 at kw1 gt1 MT1 ⊢
  refine hM1 _ _ ?_
  have gA:=PA8 k hkm
  have l4:(ndI net p k).length≤400:=by unfold ndI;rw [List.length_map];exact nd_few wf n400 _
  refine ⟨_,rfl,_,rfl,dn,_,rfl,gget hkm (kw1 _ _ gdn8 nnt nnt),ad (k:Int),rfl,⟨_,SqL.of (kw1 _ _ gA (nAt k hkm) (nAt k hkm))⟩,qBK (a:=ad (k:Int)) (xs:=(ndI net p k).map V.int) (fun j σ Hv=>∃ (ts:List Addr) (v10:Option V),σ=[some (.ref a),some (.ref l),some (.ref t),some (.ref T),some (.ref dn),some (.ref p5),some (.ref dd),some (.ref p7),some (.ref du),some (.int (k:Int)),v10,some (.ref lt)]∧Keep lt lt H8 Hv∧Hv lt=some (.lst (ts.map V.ref))∧MovL Hv ts ((((kps net asked p).take i).map (pc net asked p)).flatten++([dO (wkO p k)]++((((nd net (wkO p k)).take j).filter fun n=>!wn net asked p (k+1) n).map cL))))
   ⟨ts++[r],v10,rfl,kw1,gt1,by simpa using MT1⟩ (fun j σ Hv _ hP=>by obtain ⟨_,_,_,kv,_⟩:=hP;exact SqL.of (kv _ _ gA (nAt k hkm) (nAt k hkm))) ?_ ?_⟩
  ·refine fun j x σ Hv hx hI_14=>opq fun G_14 hG_14=>?_
   obtain ⟨ts,v10,rfl,kv,gtv,MTv⟩:=hI_14
   obtain ⟨y,ey,rfl⟩:=qAS hx
   refine hG_14 ?_
   have hj:=(List.getElem?_eq_some_iff.mp ey).1
   unfold ndI at ey
   rw [List.getElem?_map] at ey
   obtain ⟨n,en,e2⟩:=Option.map_eq_some_iff.mp ey
   have hn:=List.mem_of_getElem? en
   obtain ⟨i',ei⟩:=nf k _ gk' n hn
   rw [ei,Option.getD_some] at e2
   subst e2
   obtain ⟨tc,k',ekk⟩:=tid_cond (asked:=asked) wf mo hkm hn ei
   have guv:=kv _ _ gu8 nut nut
   have hg:=DGet.k (k:=Sum.inl (i':Int)) guv
   obtain ⟨i1,gi'⟩:=lat_is ei
   have val:valV kv2 (Sum.inl (i':Int))=some (if ((i':Nat):Int) ∈ lastI p asked then V.non else V.int (k':Int)):=by
    rw [hz i',ekk]
    by_cases c:((i':Nat):Int) ∈ lastI p asked
    ·rw [if_pos c,if_pos c]
    ·rw [if_neg c,if_neg c];rfl
   rw [val] at hg
   have flatE:decide ((if ((i':Nat):Int) ∈ lastI p asked then V.non else V.int (k':Int))=V.int (k:Int))=!wn net asked p (k+1) n:=by
    rw [Bool.eq_iff_iff,decide_eq_true_eq,Bool.not_eq_true',tc,ekk,← mem_lastI hla]
    by_cases c:((i':Nat):Int) ∈ lastI p asked
    ·rw [if_pos c]
     exact ⟨fun z=>(nomatch z),fun z=>absurd c z.1⟩
    ·rw [if_neg c]
     constructor
     ·intro z
      have:(k':Int)=(k:Int):=V.int.inj z
      exact ⟨c,by congr 1;omega⟩
     ·refine fun hI_15=>opq fun G_15 hG_15=>?_
      obtain ⟨_,z⟩:=hI_15
      refine hG_15 ?_
      rw [Option.some.inj z]
   have lts:=Paired.length MTv
   have bi2:ts.length≤402000:=by
    rw [lts,List.length_append,List.length_append,List.length_map]
    have:=List.length_filter_le (fun n=>!wn net asked p (k+1) n) ((nd net (wkO p k)).take j)
    rw [List.length_take] at this
    have:=nd_few wf n400 (wkO p k)
    show _+(1+_)≤_
    omega
   refine nmI fun D2 d2 _=>?_
   refine ⟨_,rfl,_,rfl,du,_,rfl,hg,_,rfl,(by split <;> rfl),_,rfl,?_⟩
   rw [flatE]
   cases b:wn net asked p (k+1) n with
   | true=>
    refine iteF ?_
    exact d2 _ _ ⟨ts,_,rfl,kv,gtv,by rw [qBG en,b];simpa using MTv⟩
   | false=>
    refine iteT ?_
    obtain ⟨r2,er2,hr2⟩:=qCC ML gi'
    have hLv:=same8 kv _ _ hL
    have hr2v:=same8 kv _ _ hr2
    refine ⟨_,rfl,.inl ⟨rfl,_,SqL.of gtv⟩,_,rfl,_,rfl,l,_,_,_,rfl,rfl,SqL.of hLv,qBB (by omega) (by rw [Int.toNat_natCast,List.getElem?_map,er2];rfl),r2,_,_,_,rfl,rfl,SqT.of hr2v,rfl,(by show 2≤sizeLine;decide),fun Tc hTc=>?_⟩
    have sTc:=qA2 hTc (.tup [.str (Str.ofString "clear"),.int n])
    have gtc:=sTc _ _ gtv
    refine ⟨lt,_,_,rfl,rfl,gtc,qAO (by rw [List.length_map];omega),?_⟩
    rw [qAX]
    refine d2 _ _ ⟨ts++[Tc],_,rfl,keep_dp (kv.trans (.of_same sTc)),qA1,?_⟩
    rw [qBG en,b]
    have e9:∀ (F:List Mv) (X:List Int),F++([dO (wkO p k)]++(X++[n]).map cL)=(F++([dO (wkO p k)]++X.map cL))++[cL n]:=fun F X=>by simp
    rw [if_pos (by rfl),e9]
    refine qBD (qBT MTv fun b m e=>?_) ?_
    ·rw [qA8 (ne_of (sTc _ _ e) gtc (by intro z;cases z))];exact sTc _ _ e
    ·rw [qA8 (qA5 gtv hTc).symm]
     exact qA1
  ·refine fun σ Hv hI_16=>opq fun G_16 hG_16=>?_
   obtain ⟨ts,v10,rfl,kv,gtv,MTv⟩:=hI_16
   refine hG_16 ?_
   refine d1 _ _ ⟨ts,_,_,rfl,kv,gtv,?_⟩
   have ln:((ndI net p k).map V.int).length=(nd net (wkO p k)).length:=by unfold ndI;rw [List.length_map,List.length_map]
   rw [ln,List.take_length] at MTv
   rw [List.take_add_one,ek',Option.toList_some,List.map_append,List.flatten_append]
   simpa [pc] using MTv
 ·refine fun σ Hw hI_17=>opq fun G_17 hG_17=>?_
  obtain ⟨ts,v9,v10,rfl,kw,gt,MT⟩:=hI_17
  refine hG_17 ?_
  rw [lik,List.take_length,← tdy_kps] at MT
  have s0w:Same H Hw:=fun b u e=>kw b u (s08 b u e) (qA5 e flt) (qA5 e flt)
  exact hN9 _ _ ⟨_,rfl,q lt Hw s0w flt ⟨ts,gt,MT⟩⟩
end
section
variable {P:Program} {w:World} {K:PySem.W.Frag} {mg:Str→Option Value} {base:Heap} {f:Addr} {fd:FuncData}
theorem sc_Lstays:FnScope ["_law_plan","_law_found","_law_place","_law_move","_law_ends"] ["_law_plan"] (defScope s_Lstays):=⟨rfl,rfl,rfl,by decide +kernel,rfl,by decide +kernel,by decide +kernel⟩
theorem ok_Lstays (F:Fun K "_law_stays" "_law_stays" s_Lstays f fd) (z_enumerate:mg "enumerate" = none) (z_range:mg "range" = none) (z_len:mg "len" = none):FnOk P w K mg base CX0 1 f fd ["_law_plan"] spStays:=by
 refine F.ok sc_Lstays (fun vs H Q E h=>?_) (fun cdv A outer s H vs Q E hr h=>?_)
 ·obtain ⟨l,p,rfl,_⟩:=h
  rfl
 obtain ⟨l,p,rfl,⟨rs,hL,ML⟩,lp,q⟩:=h
 have hu64:=hr.units
 refine ⟨_,(qA4 (qAE (i:=1) sc_Lstays.nd rfl (Or.inl rfl) (qB0 qA3)) (qA4 (qB5 PassesOwn.never rfl (pi_enum rfl z_enumerate qBN (qA0 (pv 0) qA3)) (qCJ rfl (qAK (qA9 (i:=2) sc_Lstays.nd rfl (Or.inl rfl)) (qAK (qA9 (i:=3) sc_Lstays.nd rfl (Or.inr rfl)) qBP))) (qA6 (ps_if (qAC op_eq (pe_ix qAW (pv 3) qA7 (fun _ _=>rfl)) qAL (nomark _)) (qA4 (ps_lc (i:=4) sc_Lstays.nd rfl rfl rfl (lcs (own:=["_law_k"]) (fv:=[0,3]) (by kernel_rfl)) (pi_range2 rfl z_range (qA0 (pe_op qBL (pv 2) qA7) (qA0 (qAB qAA rfl z_len qAP (qA0 (pv 0) qA3)) qA3))) (fun z1=>qA9 (i:=0) (nd_of (by kernel_rfl)) rfl (Or.inl rfl)) (fun z1=>(qBO (qAC (op_eq_mvK (K:=K) rfl hu64) (pe_ix (ix_listK (K:=K) rfl) (pv 1) (pv 0) (fun _ _=>rfl)) (qB7 (qA0 qAL (qA0 (pe_ix (qBX (K:=K) rfl) (pv 2) qA7 (fun _ _=>rfl)) qA3))) (nomark _)))) (fun z1=>(pv 0)) (by kernel_rfl)) (qA6 (qBW (pe_bm PySem.F.plainAttrs_list PySem.F.slot_list_append PySem.F.type_list_append qAZ (pv 1) (qA0 (qB7 (qA0 (pv 2) (qA0 (pe_ix qAR (pe_op op_cat (pv 4) (qB0 (qA0 (qAB qAA rfl z_len qAP (qA0 (pv 0) qA3)) qA3))) qA7 (fun _ _=>rfl)) (qA0 (pe_ix qAW (pv 3) qA7 (fun _ _=>rfl)) qA3)))) qA3))))) qAH))) (qA6 (qAG (pv 1))))),?_⟩
 try dsimp only [Cx.nox,Cx.wish,cxOf]
 have lrs:=Paired.length ML
 refine cut fun N0 hN0=>?_
 refine ⟨(by show 0≤sizeLine;decide),fun lf hlf=>?_⟩
 have s1:=qA2 hlf (.lst [])
 have g1:(upd H lf (.lst [])) lf=some (.lst (([]:List Addr).map V.ref)):=qA1
 generalize upd H lf (.lst [])=H1 at s1 g1 ⊢
 refine hN0 _ _ (cut fun N1 hN1=>?_)
 refine ⟨_,rfl,l,rfl,⟨_,SqL.of (s1 _ _ hL)⟩,for_enum (a:=l) (xs:=rs.map V.ref) (fun i σ Hc=>∃ (ts:List Addr) (v2 v3 v4:Option V),σ=[some (.ref l),some (.ref lf),v2,v3,v4]∧Same H Hc∧Hc lf=some (.lst (ts.map V.ref))∧Paired (StayAt Hc p) ts ((List.range i).filter (dpB p)))
  ⟨[],none,none,none,rfl,s1,g1,.nil⟩ (fun i σ Hc _ hP=>by obtain ⟨_,_,_,_,_,sc,_⟩:=hP;exact SqL.of (sc _ _ hL)) ?_ ?_⟩
 ·refine fun i x σ Hc T hx hI_1 hT=>opq fun G_1 hG_1=>?_
  obtain ⟨ts,v2,v3,v4,rfl,sc,gf,PT⟩:=hI_1
  obtain ⟨r,er,rfl⟩:=qBQ hx
  obtain ⟨⟨wd,w⟩,em,hm⟩:=qAN ML er
  refine hG_1 ?_
  dsimp only at hm
  have hi:=(List.getElem?_eq_some_iff.mp em).1
  have sT:=qA2 hT (.tup [.int (i:Int),.ref r])
  have sc1:=sc.trans sT
  have gf1:=sT _ _ gf
  have gT:SqT K (upd Hc T (.tup [.int (i:Int),.ref r])) T [.int (i:Int),.ref r]:=SqT.of qA1
  have PT1:Paired (StayAt (upd Hc T (.tup [.int (i:Int),.ref r])) p) ts ((List.range i).filter (dpB p)):=qBT PT fun b j e=>sT _ _ e
  generalize upd Hc T (.tup [.int (i:Int),.ref r])=H3 at sc1 gf1 gT PT1 ⊢
  refine ⟨T,_,rfl,gT,rfl,_,_,rfl,_,_,rfl,rfl,?_⟩
  refine ⟨_,rfl,r,_,_,_,rfl,rfl,SqT.of (sc1 _ _ hm),rfl,rfl,_,rfl,?_⟩
  refine ite2 (fun ck=>?_) (fun ck=>?_)
  ·have hd:wd = "do":=V.str.inj (of_decide_eq_true ck)
   subst hd
   have em':p[i]?=some (dO w):=em
   have ewk:=wkO_of em'
   refine nmT fun D1 d1 _=>?_
   refine cut fun M1 hM1=>?_
   have hL3:=sc1 _ _ hL
   refine ⟨_,rfl,_,_,rfl,rfl,_,rfl,l,_,rfl,.inl (SqL.of hL3),?_⟩
   rw [List.length_map,lrs]
   refine ⟨_,_,rfl,⟨by omega,by omega,by omega,by omega⟩,fun p4 hp4=>?_⟩
   have n4f:p4 ≠ lf:=(qA5 gf1 hp4).symm
   refine qC6 (p:=p4) (lo:=(i:Int)+1) (n:=((p.length:Int) - ((i:Int)+1)).toNat) (fun j σ Hd=>∃ v:Option V,σ=[v,some (.ref l),some (.ref r)]∧Same H3 Hd∧Hd p4=some (.lst ((intL ((List.range' (i+1) j).filter fun k=>decide (p[k]?=some (cL w)))).map V.int))) ?_ ?_ ?_
   ·exact ⟨none,rfl,qA2 hp4 _,qA1⟩
   ·refine fun j σ Hd hj hI_2=>opq fun G_2 hG_2=>?_
    obtain ⟨v,rfl,sd,hpd⟩:=hI_2
    refine hG_2 ?_
    have hkl:i+1+j<p.length:=by omega
    have gk:=List.getElem?_eq_getElem hkl
    obtain ⟨⟨z,n⟩,ez⟩:∃ m,p[i+1+j]?=some m:=⟨_,gk⟩
    obtain ⟨rk,erk,hrk⟩:=qCC ML ez
    dsimp only at hrk
    have ek:(i:Int)+1+(j:Int)=((i+1+j:Nat):Int):=by omega
    refine ⟨_,rfl,_,rfl,l,_,_,_,rfl,rfl,SqL.of (sd _ _ hL3),qBB (by omega) (by rw [ek,Int.toNat_natCast,List.getElem?_map,erk];rfl),?_⟩
    refine ⟨_,rfl,r,_,_,_,rfl,rfl,SqT.of (sd _ _ (sc1 _ _ hm)),rfl,(by show 2≤sizeLine;decide),fun Tc hTc=>?_⟩
    have sTc:=qA2 hTc (.tup [.str (Str.ofString "clear"),.int w])
    refine ⟨rk,Tc,z,_,n,w,rfl,rfl,SqT.of (sTc _ _ (sd _ _ (sc1 _ _ hrk))),SqT.of qA1,_,rfl,?_⟩
    have sd2:=sd.trans sTc
    have hpd2:=sTc _ _ hpd
    generalize upd Hd Tc (.tup [.str (Str.ofString "clear"),.int w])=H5 at sd2 hpd2 ⊢
    have ed:decide (((z,n):Str × Int)=(Str.ofString "clear",w))=decide (p[i+1+j]?=some (cL w)):=by
     rw [ez]
     exact decide_eq_decide.mpr ⟨fun e=>congrArg some e,fun e=>Option.some.inj e⟩
    rw [ed]
    have er:List.range' (i+1) (j+1)=List.range' (i+1) j++[i+1+j]:=by rw [List.range'_concat];simp
    rw [er,List.filter_append]
    by_cases c:p[i+1+j]?=some (cL w)
    ·rw [decide_eq_true c]
     refine iteT ?_
     have lf2:=List.length_filter_le (fun k=>decide (p[k]?=some (cL w))) (List.range' (i+1) j)
     rw [List.length_range'] at lf2
     refine ⟨_,rfl,_,hpd2,qAO (by unfold intL;rw [List.length_map,List.length_map];omega),_,rfl,qAF sd2 hp4,?_⟩
     rw [qA1,show ([i+1+j].filter fun k=>decide (p[k]?=some (cL w)))=[i+1+j] by simp [c],ek]
     unfold intL
     rw [List.map_append,List.map_append]
     rfl
    ·rw [decide_eq_false c]
     refine iteF ?_
     refine ⟨_,rfl,sd2,?_⟩
     rw [show ([i+1+j].filter fun k=>decide (p[k]?=some (cL w)))=[] by simp [c],List.append_nil]
     exact hpd2
   refine fun σ Hd hI_3=>opq fun G_3 hG_3=>?_
   obtain ⟨v,rfl,sd,hpd⟩:=hI_3
   refine hG_3 ?_
   rw [show ((p.length:Int) - ((i:Int)+1)).toNat=p.length - (i+1) by omega] at hpd
   have gen:Hd p4=some (.lst ((intL (enL p i w)).map V.int)):=hpd
   have gf4:=sd _ _ gf1
   have sc4:=sc1.trans sd
   refine hM1 _ _ ?_
   have lel:(enL p i w).length≤1000:=by
    unfold enL
    have:=List.length_filter_le (fun k=>decide (p[k]?=some (cL w))) (List.range' (i+1) (p.length - (i+1)))
    rw [List.length_range'] at this
    omega
   refine ⟨_,rfl,.inl ⟨rfl,_,SqL.of gf4⟩,_,rfl,_,rfl,_,rfl,l,_,rfl,.inl (SqL.of (sc4 _ _ hL)),?_⟩
   rw [List.length_map,lrs]
   refine ⟨(by show 1≤sizeLine;decide),fun b1 hb1=>?_⟩
   have sb:=qA2 hb1 (.lst [.int (p.length:Int)])
   refine ⟨p4,b1,_,_,rfl,rfl,sb _ _ gen,qA1,(by unfold intL;rw [List.length_map,List.length_map,sizeLine_eq];show _+1≤_;omega),fun c1 hc1=>?_⟩
   have sc2:=sb.trans (qA2 hc1 (.lst ((intL (enL p i w)).map V.int++[.int (p.length:Int)])))
   have e5:(intL (enL p i w)).map V.int++[V.int (p.length:Int)]=(intL (enL p i w++[p.length])).map V.int:=by unfold intL;rw [List.map_append,List.map_append];rfl
   have e6:atI ((intL (enL p i w)).map V.int++[V.int (p.length:Int)]) 0=some (.int (eN p i w:Nat)):=by
    rw [e5]
    refine qBB (by decide) ?_
    unfold intL eN
    cases enL p i w <;> rfl
   refine ⟨c1,_,_,_,rfl,rfl,SqL.of qA1,e6,_,rfl,r,_,_,_,rfl,rfl,SqT.of (sc2 _ _ (sc4 _ _ hm)),rfl,(by show 3≤sizeLine;decide),fun T3 hT3=>?_⟩
   have s3:=sc2.trans (qA2 hT3 (.tup [.int (i:Int),.int (eN p i w:Nat),.int w]))
   have gf5:=s3 _ _ gf4
   have lts:=Paired.length PT1
   have lf3:=List.length_filter_le (dpB p) (List.range i)
   rw [List.length_range] at lf3
   refine ⟨lf,_,_,rfl,rfl,gf5,qAO (by rw [List.length_map];omega),?_⟩
   rw [qAX]
   refine d1 _ _ ⟨ts++[T3],_,_,_,rfl,qAF (sc4.trans s3) hlf,qA1,?_⟩
   rw [dps_take hi,if_pos (dB_of em')]
   refine qBD (qBT PT1 fun b j e=>?_) ?_
   ·have e2:=s3 _ _ (sd _ _ e)
    show (upd _ lf _) b=_
    rw [qA8 (ne_of e2 gf5 (by intro z;cases z))]
    exact e2
   ·show (upd _ lf _) T3=_
    rw [qA8 (qA5 (sc2 _ _ gf4) hT3).symm,qA1,ewk]
  ·have hd:¬ wd = "do":=fun e=>ck (decide_eq_true (congrArg V.str e))
   have nb:dpB p i=false:=Bool.eq_false_iff.mpr fun z=>hd (by
    have:=dB_iff.mp z
    rw [em] at this
    exact congrArg Prod.fst (Option.some.inj this))
   refine ⟨ts,_,_,_,rfl,sc1,gf1,?_⟩
   rw [dps_take hi,nb]
   simpa using PT1
 ·refine fun σ Hc hI_4=>opq fun G_4 hG_4=>?_
  obtain ⟨ts,v2,v3,v4,rfl,sc,gf,PT⟩:=hI_4
  refine hG_4 ?_
  rw [List.length_map,lrs] at PT
  exact hN1 _ _ ⟨_,rfl,q lf ts Hc sc hlf gf PT⟩
end
section
variable {P:Program} {w:World} {K:PySem.W.Frag} {mg:Str→Option Value} {base:Heap} {f:Addr} {fd:FuncData}
theorem sc_Lneeding:FnScope ["_law_net_here","_law_plan","_law_stay","_law_begin_here","_law_end","_law_work"] ["_law_net_here","_law_plan","_law_stay"] (defScope qCY):=⟨rfl,rfl,rfl,by decide +kernel,rfl,by decide +kernel,by decide +kernel⟩
theorem ok_Lneeding (F:Fun K "_law_needing" "_law_needing" qCY f fd) (z_range:mg "range" = none):FnOk P w K mg base CX0 1 f fd ["_law_net_here","_law_plan","_law_stay"] spNeeding:=by
 refine F.ok sc_Lneeding (fun vs H Q E h=>?_) (fun cdv A outer s H vs Q E hr h=>?_)
 ·obtain ⟨a,l,T,net,p,i,e,w,rfl,_⟩:=h
  rfl
 obtain ⟨a,l,T,net,p,i,e,w,rfl,⟨hN,wf,n400,⟨rs,hL,ML⟩,lp,mo⟩,hT,ie,el,q⟩:=h
 refine ⟨_,(qA4 (ps_asg (pv 2) (qCJ rfl (qAK (qA9 (i:=3) sc_Lneeding.nd rfl (Or.inl rfl)) (qAK (qA9 (i:=4) sc_Lneeding.nd rfl (Or.inl rfl)) (qAK (qA9 (i:=5) sc_Lneeding.nd rfl (Or.inr rfl)) qBP))))) (qA6 (qAG (pe_lc rfl (lcs (own:=["_law_k"]) (fv:=[1,5,0]) (by kernel_rfl)) (pi_range2 rfl z_range (qA0 (pe_op qBL (pv 3) qA7) (qA0 (pv 4) qA3))) (fun z1=>qA9 (i:=0) (nd_of (by kernel_rfl)) rfl (Or.inl rfl)) (fun z1=>(qBO (PW.pt (pw_and (qAC op_eq (pe_ix (qBX (K:=K) rfl) (pe_ix (ix_listK (K:=K) rfl) (pv 1) (pv 0) (fun _ _=>rfl)) qA7 (fun _ _=>rfl)) qAL (nomark _)) (pw_and1 (qAC (op_inK (K:=K) rfl) (pv 2) (pe_ix (qBX (K:=K) rfl) (pv 3) (pe_ix (qBX (K:=K) rfl) (pe_ix (ix_listK (K:=K) rfl) (pv 1) (pv 0) (fun _ _=>rfl)) qA7 (fun _ _=>rfl)) (fun _ _=>rfl)) (by with_unfolding_all rfl))))))) (fun z1=>(pv 0)))))),?_⟩
 try dsimp only [Cx.nox,Cx.wish,cxOf]
 obtain ⟨ns0,hA,NL⟩:=id hN
 refine cut fun N0 hN0=>?_
 refine ⟨_,rfl,T,_,rfl,SqT.of hT,rfl,_,_,rfl,_,_,rfl,_,_,rfl,rfl,?_⟩
 refine hN0 _ _ ?_
 refine ⟨_,rfl,_,_,rfl,rfl,_,rfl,_,_,rfl,⟨by omega,by omega,by omega,by omega⟩,fun p4 hp4=>?_⟩
 refine qC6 (p:=p4) (lo:=(i:Int)+1) (n:=((e:Int) - ((i:Int)+1)).toNat) (fun j σ Hd=>∃ v:Option V,σ=[v,some (.ref l),some (.int w),some (.ref a)]∧Same H Hd∧Hd p4=some (.lst ((intL ((List.range' (i+1) j).filter fun k=>dpB p k && decide (w ∈ nd net (wkO p k)))).map V.int))) ?_ ?_ ?_
 ·exact ⟨none,rfl,qA2 hp4 _,qA1⟩
 ·refine fun j σ Hd hj hI_1=>opq fun G_1 hG_1=>?_
  obtain ⟨v,rfl,sd,hpd⟩:=hI_1
  refine hG_1 ?_
  have hkl:i+1+j<p.length:=by omega
  obtain ⟨⟨z,n⟩,ez⟩:∃ m,p[i+1+j]?=some m:=⟨_,List.getElem?_eq_getElem hkl⟩
  obtain ⟨rk,erk,hrk⟩:=qCC ML ez
  dsimp only at hrk
  have ek:(i:Int)+1+(j:Int)=((i+1+j:Nat):Int):=by omega
  have gat:atI (rs.map V.ref) ((i:Int)+1+(j:Int))=some (.ref rk):=qBB (by omega) (by rw [ek,Int.toNat_natCast,List.getElem?_map,erk];rfl)
  have er:List.range' (i+1) (j+1)=List.range' (i+1) j++[i+1+j]:=by rw [List.range'_concat];simp
  have off:(dpB p (i+1+j) && decide (w ∈ nd net (wkO p (i+1+j))))=false→∃ v':Option V,[some (.int ((i:Int)+1+(j:Int))),some (.ref l),some (.int w),some (.ref a)]=[v',some (.ref l),some (.int w),some (.ref a)]∧Same H Hd∧Hd p4=some (.lst ((intL ((List.range' (i+1) (j+1)).filter fun k=>dpB p k && decide (w ∈ nd net (wkO p k)))).map V.int)):=by
   intro c
   refine ⟨_,rfl,sd,?_⟩
   rw [er,List.filter_append,show ([i+1+j].filter fun k=>dpB p k && decide (w ∈ nd net (wkO p k)))=[] by simp [c],List.append_nil]
   exact hpd
  refine ⟨_,rfl,_,rfl,l,_,_,_,rfl,rfl,SqL.of (sd _ _ hL),gat,rk,_,_,_,rfl,rfl,SqT.of (sd _ _ hrk),rfl,rfl,_,rfl,?_⟩
  refine ite2 (fun ck=>?_) (fun ck=>?_)
  ·have hd:z = "do":=V.str.inj (of_decide_eq_true ck)
   subst hd
   have em':p[i+1+j]?=some (dO n):=ez
   have ewk:=wkO_of em'
   have db:=dB_of em'
   obtain ⟨_,n0,n1⟩:=mo _ (List.mem_of_getElem? ez)
   dsimp only at n0 n1
   have hw:n.toNat<net.length:=by omega
   have hz:=List.getElem?_eq_getElem hw
   obtain ⟨rt,h3,h4⟩:=NL.get hz
   have en:=qBM hz
   generalize net[n.toNat]=ys at h4 hz en
   refine ⟨_,rfl,_,rfl,_,rfl,_,rfl,l,_,_,_,rfl,rfl,SqL.of (sd _ _ hL),gat,rk,_,_,_,rfl,rfl,SqT.of (sd _ _ hrk),rfl,a,_,_,_,rfl,rfl,SqT.of (sd _ _ hA),qBB n0 (by rw [List.getElem?_map,h3];rfl),rt,_,rfl,.inr (SqT.of (sd _ _ h4)),rfl,qAU ys,_,rfl,?_⟩
   show (if (inV (.int w) (ys.map V.int))=true then _ else _)
   rw [qBF]
   by_cases c:w ∈ ys
   ·rw [decide_eq_true c]
    refine iteT ?_
    have on:(dpB p (i+1+j) && decide (w ∈ nd net (wkO p (i+1+j))))=true:=by rw [db,ewk,en,decide_eq_true c];rfl
    have lf2:=List.length_filter_le (fun k=>dpB p k && decide (w ∈ nd net (wkO p k))) (List.range' (i+1) j)
    rw [List.length_range'] at lf2
    refine ⟨_,rfl,_,hpd,qAO (by unfold intL;rw [List.length_map,List.length_map];omega),_,rfl,qAF sd hp4,?_⟩
    rw [qA1,er,List.filter_append,show ([i+1+j].filter fun k=>dpB p k && decide (w ∈ nd net (wkO p k)))=[i+1+j] by simp [on],ek]
    unfold intL
    rw [List.map_append,List.map_append]
    rfl
   ·rw [decide_eq_false c]
    refine iteF ?_
    exact off (by rw [ewk,en,decide_eq_false c,Bool.and_false])
  ·have hd:¬ z = "do":=fun e=>ck (decide_eq_true (congrArg V.str e))
   refine iteF ?_
   have nb:dpB p (i+1+j)=false:=Bool.eq_false_iff.mpr fun y=>hd (by
    have:=dB_iff.mp y
    rw [ez] at this
    exact congrArg Prod.fst (Option.some.inj this))
   exact off (by rw [nb];rfl)
 refine fun σ Hd hI_2=>opq fun G_2 hG_2=>?_
 obtain ⟨v,rfl,sd,hpd⟩:=hI_2
 refine hG_2 ?_
 rw [show ((e:Int) - ((i:Int)+1)).toNat=e - (i+1) by omega] at hpd
 exact q p4 Hd sd hp4 hpd
end
section
variable {P:Program} {w:World} {K:PySem.W.Frag} {mg:Str→Option Value} {base:Heap} {f:Addr} {fd:FuncData}
theorem sc_Lsteps:FnScope ["_law_plan"] ["_law_plan"] (defScope s_Lsteps):=⟨rfl,rfl,rfl,by decide +kernel,rfl,by decide +kernel,by decide +kernel⟩
theorem ok_Lsteps (F:Fun K "_law_steps" "_law_steps" s_Lsteps f fd) (z_len:mg "len" = none):FnOk P w K mg base CX0 1 f fd ["_law_plan"] spSteps20:=by
 refine F.ok sc_Lsteps (fun vs H Q E h=>?_) (fun cdv A outer s H vs Q E hr h=>?_)
 ·obtain ⟨l,p,rfl,_⟩:=h
  rfl
 obtain ⟨l,ms,rfl,⟨rs,hl,M⟩,l10,q⟩:=h
 refine ⟨_,(qA6 (qAG (qAB qAA rfl z_len qAP (qA0 (pe_lc rfl (lcs (own:=["_law_move"]) (fv:=[]) (by kernel_rfl)) (qB8 (pv 0)) (fun z1=>qA9 (i:=0) (nd_of (by kernel_rfl)) rfl (Or.inl rfl)) (fun z1=>(qBO (qAC op_eq (pe_ix (qBX (K:=K) rfl) (pv 0) qA7 (fun _ _=>rfl)) qAL (nomark _)))) (fun z1=>(pv 0))) qA3)))),?_⟩
 try dsimp only [Cx.nox,Cx.wish,cxOf]
 have lrs:=Paired.length M
 refine ⟨_,rfl,l,rfl,⟨_,SqL.of hl⟩,fun u hu'=>?_⟩
 refine lc_list (p:=u) (a:=l) (xs:=rs.map V.ref) (fun k σ Hd=>∃ (v0:Option V) (ts:List Addr),σ=[v0]∧Same H Hd∧Hd u=some (.lst (ts.map V.ref))∧ts.length=(dosOf (ms.take k)).length) ?_ ?_ ?_ ?_
 ·exact ⟨none,[],rfl,qA2 hu' _,qA1,rfl⟩
 ·rintro k σ Hd hk ⟨v0,ts,rfl,sd,_⟩
  exact SqL.of (sd _ _ hl)
 ·refine fun k x σ Hd hx hI_2=>opq fun G_2 hG_2=>?_
  obtain ⟨v0,ts,rfl,sd,hud,lt⟩:=hI_2
  obtain ⟨r,er,rfl⟩:=qBQ hx
  obtain ⟨⟨wd,w⟩,em,hm⟩:=qAN M er
  refine hG_2 ?_
  have hk:=(List.getElem?_eq_some_iff.mp em).1
  have ld:(dosOf (ms.take k)).length≤1000:=by
   have:=dos_le (ms.take k)
   rw [List.length_take] at this
   omega
  refine ⟨_,rfl,r,_,_,_,rfl,rfl,SqT.of (sd _ _ hm),rfl,rfl,_,rfl,?_⟩
  refine ite2 (fun ck=>?_) (fun ck=>?_)
  ·have hd:wd = "do":=V.str.inj (of_decide_eq_true ck)
   subst hd
   refine ⟨_,rfl,_,hud,qAO (by rw [List.length_map];omega),?_⟩
   rw [qAX]
   refine ⟨_,ts++[r],rfl,qAF sd hu',qA1,?_⟩
   rw [qCN em,dosOf_app,List.length_append,List.length_append,lt]
   rfl
  ·have hd:¬ wd = "do":=fun e=>ck (decide_eq_true (congrArg V.str e))
   refine ⟨_,ts,rfl,sd,hud,?_⟩
   rw [qCN em,dosOf_app,List.length_append,lt]
   unfold dosOf
   rw [List.filterMap_cons,if_neg hd]
   rfl
 refine fun σ Hd hI_3=>opq fun G_3 hG_3=>?_
 obtain ⟨v0,ts,rfl,sd,hud,lt⟩:=hI_3
 refine hG_3 ?_
 rw [List.length_map,lrs,List.take_length] at lt
 refine ⟨u,_,rfl,.inl (SqL.of hud),?_⟩
 rw [List.length_map,lt]
 exact q Hd sd
end
section
variable {P:Program} {w:World} {K:PySem.W.Frag} {mg:Str→Option Value} {base:Heap} {f:Addr} {fd:FuncData}
theorem sc_Lsome_of:FnScope ["_law_less","_law_more","_law_at","_law_one"] ["_law_less","_law_more"] (defScope qCX):=⟨rfl,rfl,rfl,by decide +kernel,rfl,by decide +kernel,by decide +kernel⟩
theorem ok_Lsome_of (F:Fun K "_law_some_of" "_law_some_of" qCX f fd) (z_len:mg "len" = none):FnOk P w K mg base CX0 1 f fd ["_law_less","_law_more"] spSomeOf:=by
 refine F.ok sc_Lsome_of (fun vs H Q E h=>?_) (fun cdv A outer s H vs Q E hr h=>?_)
 ·obtain ⟨l,l',p,q,rfl,_⟩:=h
  rfl
 obtain ⟨l,l',p,q,rfl,⟨rs,hl,M⟩,⟨rs',hl',M'⟩,lq,sb,qq⟩:=h
 have hu64:=hr.units
 refine ⟨_,(qA4 (qAE (i:=2) sc_Lsome_of.nd rfl (Or.inl rfl) qA7) (qA4 (qB5 PassesOwn.never rfl (qB8 (pv 1)) (qA9 (i:=3) sc_Lsome_of.nd rfl (Or.inl rfl)) (qA6 (ps_if (PW.pt (pw_and (qAC op_lt (pv 2) (qAB qAA rfl z_len qAP (qA0 (pv 0) qA3)) (nomark _)) (pw_and1 (qAC (op_eq_mv hu64) (pe_ix qAR (pv 0) (pv 2) (fun _ _=>rfl)) (pv 3) (nomark _))))) (qA6 (qAE (i:=2) sc_Lsome_of.nd rfl (Or.inl rfl) (pe_op qBL (pv 2) qA7))) qAH))) (qA6 (qAG (qCQ op_eq (pv 2) (qAB qAA rfl z_len qAP (qA0 (pv 0) qA3)) (nomark _)))))),?_⟩
 try dsimp only [Cx.nox,Cx.wish,cxOf]
 have lrs:=Paired.length M
 have lrs':=Paired.length M'
 have lpq:=sb.length_le
 refine cut fun N1 hN1=>?_
 refine hN1 _ _ (cut fun N0 hN0=>?_)
 refine ⟨_,rfl,l',rfl,⟨_,SqL.of hl'⟩,qBK (a:=l') (xs:=rs'.map V.ref) (fun i σ Hc=>∃ (at_:Nat) (v3:Option V),σ=[some (.ref l),some (.ref l'),some (.int (at_:Int)),v3]∧Same H Hc∧(p.drop at_).Sublist (q.drop i)∧at_≤p.length)
  ⟨0,none,rfl,.refl _,by simpa using sb,Nat.zero_le _⟩ (fun i σ Hc _ ⟨_,_,_,sc,_⟩=>SqL.of (sc _ _ hl')) ?_ ?_⟩
 ·refine fun i x σ Hc hx hI_1=>opq fun G_1 hG_1=>?_
  obtain ⟨at_,v3,rfl,sc,sd,la⟩:=hI_1
  obtain ⟨r',er',rfl⟩:=qBQ hx
  obtain ⟨m',em',hm'⟩:=qAN M' er'
  obtain ⟨d1,d2⟩:=sub_drop sd em'
  refine hG_1 ?_
  refine ⟨_,rfl,_,rfl,l,_,rfl,.inl (SqL.of (sc _ _ hl)),?_⟩
  rw [List.length_map,lrs]
  refine ⟨_,_,rfl,rfl,_,rfl,?_⟩
  refine ite2 (fun ck=>?_) (fun ck=>?_)
  ·have ha:at_<p.length:=by have:=of_decide_eq_true ck;omega
   obtain ⟨r,er⟩:∃ r,rs[at_]?=some r:=⟨_,List.getElem?_eq_getElem (by omega)⟩
   obtain ⟨m,em,hm⟩:=qAN M er
   refine ⟨_,rfl,_,rfl,l,_,_,_,rfl,rfl,SqL.of (sc _ _ hl),qBB (by omega) (by rw [List.getElem?_map,Int.toNat_natCast,er];rfl),_,rfl,r,r',m.1,m'.1,m.2,m'.2,rfl,rfl,SqT.of (sc _ _ hm),SqT.of (sc _ _ hm'),_,rfl,?_⟩
   refine ite2 (fun c2=>?_) (fun c2=>?_)
   ·have e:m=m':=of_decide_eq_true c2
    subst e
    refine ⟨_,rfl,_,_,rfl,rfl,?_⟩
    exact ⟨at_+1,_,rfl,sc,d1 ha em,ha⟩
   ·exact ⟨at_,_,rfl,sc,d2 fun z=>c2 (decide_eq_true (Option.some.inj (em.symm.trans z))),la⟩
  ·have ha:¬ at_<p.length:=fun z=>ck (decide_eq_true (by omega))
   refine iteF ?_
   exact ⟨at_,_,rfl,sc,d2 fun z=>ha (List.getElem?_eq_some_iff.mp z).1,la⟩
 ·refine fun σ Hc hI_2=>opq fun G_2 hG_2=>?_
  obtain ⟨at_,v3,rfl,sc,sd,la⟩:=hI_2
  refine hG_2 ?_
  have e:at_=p.length:=by
   rw [List.length_map,lrs',List.drop_eq_nil_of_le (Nat.le_refl _)] at sd
   have:=List.eq_nil_of_sublist_nil sd
   have:=congrArg List.length this
   rw [List.length_drop] at this
   simp at this
   omega
  subst e
  refine hN0 _ _ ?_
  refine ⟨_,rfl,_,rfl,l,_,rfl,.inl (SqL.of (sc _ _ hl)),rfl,?_⟩
  rw [List.length_map,lrs,decide_eq_true (rfl:V.int (p.length:Int)=_)]
  exact qq Hc sc
end
section
variable {P:Program} {w:World} {K:PySem.W.Frag} {mg:Str→Option Value} {base:Heap} {f:Addr} {fd:FuncData} {f_Lstays f_Lneeding:Addr} {fd_Lstays fd_Lneeding:FuncData}
theorem sc_Lcleared_right:FnScope ["_law_net_here","_law_plan","_law_asked_here","_law_begin_here","_law_end","_law_work","_law_needing_here","_law_between"] ["_law_net_here","_law_plan","_law_asked_here"] (defScope qBA):=⟨rfl,rfl,rfl,by decide +kernel,rfl,by decide +kernel,by decide +kernel⟩
theorem ok_Lcleared_right (F:Fun K "_law_cleared_right" "_law_cleared_right" qBA f fd) (C_Lstays:Clb P w K mg base 1 f_Lstays fd_Lstays "_law_stays" ["_law_plan"] spStays) (C_Lneeding:Clb P w K mg base 1 f_Lneeding fd_Lneeding "_law_needing" ["_law_net_here","_law_plan","_law_stay"] spNeeding) (z_len:mg "len" = none) (z_any:mg "any" = none) (z_sorted:mg "sorted" = none):FnOk P w K mg base CX0 2 f fd ["_law_net_here","_law_plan","_law_asked_here"] spClrR:=by
 refine F.ok sc_Lcleared_right (fun vs H Q E h=>?_) (fun cdv A outer s H vs Q E hr h=>?_)
 ·obtain ⟨a,l,t,net,p,asked,R,rfl,_⟩:=h
  rfl
 obtain ⟨a,l,t,net,p,asked,R,rfl,PLW,n60,RU,B,hT,q⟩:=h
 have hu64:=hr.units
 have hu0:=hr.units0
 refine ⟨_,(qA4 (qB5 PassesOwn.never rfl (qB8 (pe_cl C_Lstays hr rfl (qA0 (pv 1) qA3))) (qCJ rfl (qAK (qA9 (i:=3) sc_Lcleared_right.nd rfl (Or.inl rfl)) (qAK (qA9 (i:=4) sc_Lcleared_right.nd rfl (Or.inl rfl)) (qAK (qA9 (i:=5) sc_Lcleared_right.nd rfl (Or.inl rfl)) qBP)))) (qA6 (ps_if (qAC op_eq (pv 4) (qAB qAA rfl z_len qAP (qA0 (pv 1) qA3)) (nomark _)) (qA6 (ps_if (qAC qCR (pv 5) (pv 2) (by with_unfolding_all rfl)) (qA6 (qAG pe_bl)) qAH)) (qA4 (qAE (i:=6) sc_Lcleared_right.nd rfl (Or.inl rfl) (pe_cl C_Lneeding hr rfl (qA0 (pv 0) (qA0 (pv 1) (qA0 (qB7 (qA0 (pv 3) (qA0 (pv 4) (qA0 (pv 5) qA3)))) qA3))))) (qA4 (ps_if (qAC (op_eq_nil hu0) (pv 6) (qB0 qA3) (nomark _)) (qA6 (qAG pe_bl)) qAH) (qA4 (qAE (i:=7) sc_Lcleared_right.nd rfl (Or.inl rfl) (qC4 qCO (pv 1) (qCH (pe_op qBL (pe_ix qAR (pv 6) (pe_un qD2 qA7) (fun _ _=>rfl)) qA7)) (qCH (pe_op qBL (pv 4) qA7)))) (qA6 (ps_if (PW.pt (pw_or (pt_val (qAB (call_any rfl) rfl z_any bt_any (qA0 (pe_lc rfl (lcs (own:=["_law_move"]) (fv:=[]) (by kernel_rfl)) (qB8 (pv 7)) (fun z1=>qA9 (i:=0) (nd_of (by kernel_rfl)) rfl (Or.inl rfl)) (fun z1=>qBC) (fun z1=>(qCQ op_eq (pe_ix (qBX (K:=K) rfl) (pv 0) qA7 (fun _ _=>rfl)) qAL (nomark _)))) qA3))) (pw_or1 (qAC (op_ne_movs hu64) (pv 7) (qAB (L2.GS.call_sortedM rfl hu64) rfl z_sorted qCE (qA0 (pv 7) qA3)) (nomark _))))) (qA6 (qAG pe_bl)) qAH)))))))) (qA6 (qAG pe_bl))),?_⟩
 try dsimp only [Cx.nox,Cx.wish,cxOf]
 have RP:=runP RU
 obtain ⟨hN,wf,n400,⟨rs,hL,ML⟩,lp,mo⟩:=id PLW
 have lrs:=Paired.length ML
 have PLs:∀ {H':Hp},Same H H'→PlanW H' a l net p:=fun k=>⟨hN.same k,wf,n400,⟨rs,k _ _ hL,MovL.same ML k⟩,lp,mo⟩
 refine cut fun N0 hN0=>?_
 refine ⟨_,rfl,l,p,rfl,⟨rs,hL,ML⟩,lp,fun ls ts H1 s1 f1 g1 PT=>?_⟩
 have lts:=Paired.length PT
 refine ⟨ls,rfl,⟨_,SqL.of g1⟩,qBK (a:=ls) (xs:=ts.map V.ref) (fun i σ Hc=>∃ (v3 v4 v5 v6 v7:Option V),σ=[some (.ref a),some (.ref l),some (.ref t),v3,v4,v5,v6,v7]∧Same H1 Hc)
  ⟨none,none,none,none,none,rfl,.refl _⟩ (fun i σ Hc _ hP=>by obtain ⟨_,_,_,_,_,_,sc⟩:=hP;exact SqL.of (sc _ _ g1)) ?_ ?_⟩
 ·refine fun i x σ Hc hx hI_1=>opq fun G_1 hG_1=>?_
  obtain ⟨v3,v4,v5,v6,v7,rfl,sc⟩:=hI_1
  obtain ⟨T,eT,rfl⟩:=qBQ hx
  obtain ⟨k,ek,hk⟩:=qAN PT eT
  refine hG_1 ?_
  have hkm:=List.mem_of_getElem? ek
  have gk:=mem_dps.mp hkm
  have hkl:=(List.getElem?_eq_some_iff.mp gk).1
  obtain ⟨e1,e2,_,_⟩:=eN_is (w:=wkO p k) hkl
  have s2:=s1.trans sc
  have gTc:Hc T=some (.tup [.int (k:Int),.int (eN p k (wkO p k):Nat),.int (wkO p k)]):=sc _ _ hk
  refine ⟨T,_,rfl,SqT.of gTc,rfl,_,_,rfl,_,_,rfl,_,_,rfl,rfl,?_⟩
  refine ⟨_,rfl,_,rfl,l,_,rfl,.inl (SqL.of (s2 _ _ hL)),rfl,_,rfl,?_⟩
  rw [List.length_map,lrs]
  by_cases c:eN p k (wkO p k)=p.length
  ·rw [decide_eq_true (show V.int ((eN p k (wkO p k):Nat):Int)=V.int (p.length:Int) by rw [c])]
   refine iteT ?_
   refine ⟨_,rfl,_,rfl,t,_,rfl,.inr (SqT.of (s2 _ _ hT)),rfl,qAU asked,_,rfl,?_⟩
   have yes:inV (.int (wkO p k)) (asked.map V.int)=true:=by rw [qBF];exact decide_eq_true (stay_end RP gk c)
   rw [yes]
   refine iteF ?_
   exact ⟨_,_,_,_,_,rfl,sc⟩
  ·rw [decide_eq_false (show ¬ V.int ((eN p k (wkO p k):Nat):Int)=V.int (p.length:Int) from fun z=>c (by have:=V.int.inj z;omega))]
   refine iteF ?_
   obtain ⟨k',xs,h1,h2,h3,h4⟩:=stay_clr wf RP mo B gk (by omega)
   refine cut fun M1 hM1=>?_
   refine ⟨_,rfl,_,rfl,_,rfl,_,rfl,_,rfl,(by show 3≤sizeLine;decide),fun T2 hT2=>?_⟩
   have s3:=qA2 hT2 (.tup [.int (k:Int),.int (eN p k (wkO p k):Nat),.int (wkO p k)])
   refine ⟨a,l,T2,net,p,k,eN p k (wkO p k),wkO p k,rfl,PLs (s2.trans s3),qA1,e1,e2,fun ln H4 s4 f4 g4=>?_⟩
   have sc4:=sc.trans (s3.trans s4)
   refine hM1 _ _ (cut fun M2 hM2=>?_)
   refine ⟨_,rfl,(by show 0≤sizeLine;decide),fun le hle=>?_⟩
   have s5:=qA2 hle (.lst [])
   refine ⟨ln,le,_,rfl,rfl,SqL.of (s5 _ _ g4),SqL.of qA1,_,rfl,?_⟩
   have ne:(List.map V.int (intL (ndgL net p k (eN p k (wkO p k)) (wkO p k)))).isEmpty=false:=by
    cases h:ndgL net p k (eN p k (wkO p k)) (wkO p k) with
    | nil=>rw [h] at h1;cases h1
    | cons _ _=>rfl
   rw [ne]
   refine iteF ?_
   have sc5:=sc4.trans s5
   have g5:=s5 _ _ g4
   generalize upd H4 le (.lst [])=H5 at s5 sc5 g5 ⊢
   refine hM2 _ _ (cut fun M3 hM3=>?_)
   refine ⟨_,rfl,_,rfl,?_⟩
   have el:(List.map V.int (intL (ndgL net p k (eN p k (wkO p k)) (wkO p k)))).getLast?=some (.int (k':Int)):=by
    unfold intL
    rw [List.getLast?_map,List.getLast?_map,h1]
    rfl
   refine ⟨_,rfl,ln,_,_,_,rfl,rfl,SqL.of g5,at_last el,_,_,rfl,rfl,_,rfl,_,rfl,_,_,rfl,rfl,_,rfl,l,_,rfl,SqL.of ((s1.trans sc5) _ _ hL),fun lb hlb=>?_⟩
   rw [qC8,cut_nat h2 (by omega)]
   have MB:=qBU (k'+1) (eN p k (wkO p k) - k') (ML.same (s1.trans sc5))
   rw [h4] at MB
   generalize (rs.drop (k'+1)).take (eN p k (wkO p k) - k')=bs at MB
   have lbs:=Paired.length MB
   rw [List.length_map] at lbs
   have s6:=qA2 hlb (.lst (bs.map V.ref))
   have g6:(upd H5 lb (.lst (bs.map V.ref))) lb=some (.lst (bs.map V.ref)):=qA1
   have MB6:=MovL.same MB s6
   have sc6:=sc5.trans s6
   generalize upd H5 lb (.lst (bs.map V.ref))=H6 at s6 g6 MB6 sc6 ⊢
   have rX:Rise (net.length:Int) xs:=⟨h3,fun x hx=>by
    have hm:cL x ∈ (p.drop (k'+1)).take (eN p k (wkO p k) - k'):=by rw [h4];exact List.mem_map_of_mem hx
    exact (mo _ (List.mem_of_mem_drop (List.mem_of_mem_take hm))).2⟩
   have lxs:=rX.len
   refine hM3 _ _ ?_
   refine ⟨_,rfl,lb,rfl,⟨_,SqL.of g6⟩,fun pa hpa=>?_⟩
   refine lc_list (p:=pa) (a:=lb) (xs:=bs.map V.ref) (fun i σ Hd=>∃ (v:Option V),σ=[v]∧Same H6 Hd∧Hd pa=some (.lst ((List.replicate i false).map V.bl))) ?_ ?_ ?_ ?_
   ·exact ⟨none,rfl,qA2 hpa _,qA1⟩
   ·rintro j σ Hd hj ⟨v,rfl,sd,_⟩
    exact SqL.of (sd _ _ g6)
   ·refine fun j y σ Hd hy hI_3=>opq fun G_3 hG_3=>?_
    obtain ⟨v,rfl,sd,gd⟩:=hI_3
    obtain ⟨r,er,rfl⟩:=qBQ hy
    obtain ⟨m,em,hm⟩:=qAN MB6 er
    refine hG_3 ?_
    have hj:=(List.getElem?_eq_some_iff.mp er).1
    obtain ⟨z,_,rfl⟩:=List.mem_map.mp (List.mem_of_getElem? em)
    refine ⟨_,rfl,r,_,_,_,rfl,rfl,SqT.of (sd _ _ hm),rfl,rfl,_,gd,qAO (by rw [List.length_map,List.length_replicate];omega),_,rfl,qAF sd hpa,?_⟩
    rw [qA1,List.replicate_succ',List.map_append,decide_eq_false (show ¬ V.str (cL z).1=V.str (Str.ofString "do") from fun e=>qAD (V.str.inj e))]
    rfl
   refine fun σ Hd hI_4=>opq fun G_4 hG_4=>?_
   obtain ⟨v,rfl,sd,gd⟩:=hI_4
   refine hG_4 ?_
   refine ⟨pa,_,rfl,SqL.of gd,_,rfl,?_⟩
   rw [show (List.replicate (bs.map V.ref).length false).any id=false from by simp]
   refine iteF ?_
   have g7:=sd _ _ g6
   have M7:=MovL.same MB6 sd
   refine ⟨_,rfl,_,rfl,lb,Str.ofString "clear",bs,xs,rfl,SqL.of g7,movs_clr M7,by omega,fun a2 rs' ns' f2 pm W' pn sn=>?_⟩
   have s8:=qA2 f2 (.lst (rs'.map V.ref))
   have en:=up_sorted h3 pn sn
   subst en
   refine ⟨lb,a2,bs,rs',_,rfl,rfl,SqL.of (s8 _ _ g7),SqL.of qA1,MovL.same M7 s8,MovL.same (clr_movs W') s8,_,rfl,?_⟩
   refine iteF ?_
   exact ⟨_,_,_,_,_,rfl,sc6.trans (sd.trans s8)⟩
 ·refine fun σ Hc hI_5=>opq fun G_5 hG_5=>?_
  obtain ⟨v3,v4,v5,v6,v7,rfl,sc⟩:=hI_5
  refine hG_5 ?_
  exact hN0 _ _ (q Hc (s1.trans sc))
end
section
variable {P:Program} {w:World} {K:PySem.W.Frag} {mg:Str→Option Value} {base:Heap} {f:Addr} {fd:FuncData} {f_Ltake f_Lplayed f_Lword:Addr} {fd_Ltake fd_Lplayed fd_Lword:FuncData}
theorem sc_Lidle_put_in:FnScope ["_law_state","_law_net_here","_law_plan","_law_at","_law_stand","_law_some","_law_work"] ["_law_state","_law_net_here","_law_plan"] (defScope qBJ):=⟨rfl,rfl,rfl,by decide +kernel,rfl,by decide +kernel,by decide +kernel⟩
theorem ok_Lidle_put_in (F:Fun K "_law_idle_put_in" "_law_idle_put_in" qBJ f fd) (C_Ltake:Clb P w K mg base 1 f_Ltake fd_Ltake "_law_take" ["_law_state","_law_many"] spTake) (C_Lplayed:Clb P w K mg base 2 f_Lplayed fd_Lplayed "_law_played" ["_law_net_here","_law_rooms","_law_plan"] spPlayL2) (C_Lword:Clb P w K mg base 1 f_Lword fd_Lword "_law_word" ["_law_net_here","_law_rooms","_law_stand","_law_move"] spFault) (z_len:mg "len" = none) (z_range:mg "range" = none):FnOk P w K mg base CX0 3 f fd ["_law_state","_law_net_here","_law_plan"] spIdleIn:=by
 refine F.ok sc_Lidle_put_in (fun vs H Q E h=>?_) (fun cdv A outer s H vs Q E hr h=>?_)
 ·obtain ⟨d,c,t,ns,a,l,net,p,st,rfl,_⟩:=h
  rfl
 obtain ⟨d,c,t,ns,a,l,net,p,st,rfl,S,ht,hN,wf,n1,n40,PL,nld,nlc,lp,mo,RU,q⟩:=h
 have hu64:=hr.units
 have hu0:=hr.units0
 refine ⟨_,(qA4 (qAE (i:=3) sc_Lidle_put_in.nd rfl (Or.inl rfl) (pe_cl C_Ltake hr rfl (qA0 (pv 0) (qA0 (pe_op qBL (qAB qAA rfl z_len qAP (qA0 (pv 2) qA3)) qA7) qA3)))) (qA4 (qAE (i:=4) sc_Lidle_put_in.nd rfl (Or.inr rfl) (pe_ix qAR (pe_ix qAW (pe_cl C_Lplayed hr rfl (qA0 (pv 1) (qA0 (qAB qAA rfl z_len qAP (qA0 (pv 1) qA3)) (qA0 (qC4 qCO (pv 2) qD5 (qCH (pv 3))) qA3)))) qA7 (fun _ _=>rfl)) (pe_un qD2 qA7) (fun _ _=>rfl))) (qA4 (ps_lc (i:=5) sc_Lidle_put_in.nd rfl rfl rfl (lcs (own:=["_law_work"]) (fv:=[1,4]) (by kernel_rfl)) (qB6 rfl z_range (qA0 (qAB qAA rfl z_len qAP (qA0 (pv 1) qA3)) qA3)) (fun z1=>qA9 (i:=0) (nd_of (by kernel_rfl)) rfl (Or.inl rfl)) (fun z1=>(qBO (pt_cmp (pc_isN (pe_cl C_Lword hr rfl (qA0 (pv 1) (qA0 (pe_op qBL (qAB (call_lenK (K:=K) rfl) rfl z_len qAP (qA0 (pv 1) qA3)) qA7) (qA0 (pv 2) (qA0 (qB7 (qA0 qAL (qA0 (pv 0) qA3))) qA3))))))))) (fun z1=>(pv 0)) (by kernel_rfl)) (qA4 (ps_if (qAC (op_eq_nil hu0) (pv 5) (qB0 qA3) (nomark _)) (qA6 (qAG (pv 2))) qAH) (qA4 (qAE (i:=6) sc_Lidle_put_in.nd rfl (Or.inl rfl) (pe_ix qAR (pv 5) (pe_cl C_Ltake hr rfl (qA0 (pv 0) (qA0 (qAB qAA rfl z_len qAP (qA0 (pv 5) qA3)) qA3))) (fun _ _=>rfl))) (qA6 (qAG (pe_op op_cat (pe_op op_cat (qC4 qCO (pv 2) qD5 (qCH (pv 3))) (qB0 (qA0 (qB7 (qA0 qAL (qA0 (pv 6) qA3))) (qA0 (qB7 (qA0 qAL (qA0 (pv 6) qA3))) qA3)))) (qC4 qCO (pv 2) (qCH (pv 3)) qD5))))))))),?_⟩
 try dsimp only [Cx.nox,Cx.wish,cxOf]
 have ht':t≤1000000000 - 1000:=ht
 obtain ⟨rs,hL,ML⟩:=id PL
 have lrs:=Paired.length ML
 refine cut fun N0 hN0=>?_
 refine ⟨_,rfl,_,rfl,l,_,rfl,.inl (SqL.of hL),?_⟩
 rw [List.length_map,lrs]
 refine ⟨_,_,rfl,rfl,d,c,t,ns,_,rfl,S,(by show t≤1000000000;omega),by omega,by omega,fun k ns1 H1 k0 k1 S1 K1=>?_⟩
 obtain ⟨at_,rfl⟩:∃ n:Nat,k=(n:Int):=⟨k.toNat,by omega⟩
 have la:at_≤p.length:=by omega
 refine hN0 _ _ (cut fun N1 hN1=>?_)
 obtain ⟨s1,RA,RB⟩:=run_cut (a:=p.take at_) (b:=p.drop at_) (by rw [List.take_append_drop];exact RU)
 have hA1:=hN.keep S K1
 have PL1:=PL.keep S K1 nld nlc
 obtain ⟨rs1,hL1,ML1⟩:=id PL1
 have lrs1:=Paired.length ML1
 obtain ⟨rsN,gN,NN⟩:=id hA1
 have lnN:=Paired.length NN
 refine ⟨_,rfl,_,rfl,a,_,rfl,.inr (SqT.of gN),?_⟩
 rw [List.length_map,lnN]
 refine ⟨_,rfl,_,rfl,_,rfl,l,_,rfl,SqL.of hL1,fun lb hlb=>?_⟩
 rw [qC8,cutI_to]
 have s2:=qA2 hlb (.lst ((rs1.take at_).map V.ref))
 have PLb:PlanAt (upd H1 lb (.lst ((rs1.take at_).map V.ref))) lb (p.take at_):=⟨rs1.take at_,qA1,MovL.same (qBU 0 at_ ML1) s2⟩
 have moA:MvOk net (p.take at_):=fun m hm=>mo m (List.mem_of_mem_take hm)
 generalize upd H1 lb (.lst ((rs1.take at_).map V.ref))=H2 at s2 PLb ⊢
 refine ⟨a,lb,net,p.take at_,(net.length:Int),rfl,⟨hA1.same s2,wf,by omega,PLb,by rw [List.length_take];omega,moA,by omega,by omega⟩,fun T2 ls sts v Hg sg pl gT2 fls SA lsts=>?_⟩
 obtain ⟨ks,hks,NK⟩:=id SA
 obtain ⟨sts0,p0,l0,_⟩:=RA.play .nil
 have ev:v=.non:=by
  rcases pl.kind with h | ⟨w0,h⟩
  ·exact h
  ·rw [h] at pl;exact absurd pl ((run_most moA RA).2 sts w0)
 subst ev
 obtain ⟨e1,_⟩:=Play.one moA pl p0
 subst e1
 obtain ⟨ss,r,ek,gr⟩:=last_at NK
 rw [ek] at hks
 rw [l0] at gr
 refine ⟨T2,_,_,_,rfl,rfl,SqT.of gT2,rfl,_,rfl,ls,_,_,_,rfl,rfl,SqL.of hks,(by rw [List.map_append];exact qD1 _ _),?_⟩
 refine hN1 _ _ (cut fun N2 hN2=>?_)
 have s1g:=s2.trans sg
 have rise1:Rise (net.length:Int) s1:=⟨RA.up .nil,run_range RA moA (fun x hx=>nomatch hx)⟩
 have ls1:=rise1.len
 refine ⟨_,rfl,a,_,rfl,.inr (SqT.of (s1g _ _ gN)),?_⟩
 rw [List.length_map,lnN]
 refine ⟨_,rfl,by omega,by omega,fun px hpx=>?_⟩
 refine qC6 (p:=px) (lo:=0) (n:=net.length) (fun j σ Hx=>∃ (v:Option V) (fs:List Int),σ=[v,some (.ref a),some (.ref r)]∧Same Hg Hx∧Hx px=some (.lst (fs.map V.int))∧fs.length≤j∧∀ u ∈ fs,(0≤u∧u<(net.length:Int))∧u ∉ s1∧∀ y ∈ nd net u,y ∈ s1) ?_ ?_ ?_
 ·exact ⟨none,[],rfl,qA2 hpx _,qA1,Nat.le_refl _,fun _ z=>nomatch z⟩
 ·refine fun j σ Hx hj hI_1=>opq fun G_1 hG_1=>?_
  obtain ⟨v,fs,rfl,sx,gx,lf,ok⟩:=hI_1
  refine hG_1 ?_
  have hns:=List.getElem?_eq_getElem hj
  have lns:=(wf j _ hns).len
  generalize net[j]=ns2 at hns lns
  refine ⟨_,rfl,_,rfl,a,_,rfl,.inr (SqT.of ((s1g.trans sx) _ _ gN)),?_⟩
  rw [List.length_map,lnN]
  refine ⟨_,_,rfl,rfl,_,rfl,_,rfl,(by show 2≤sizeLine;decide),fun Tm hTm=>?_⟩
  have s4:=qA2 hTm (.tup [.str (Str.ofString "do"),.int (0+(j:Int))])
  have sx4:=sx.trans s4
  have ej:(0+(j:Int)).toNat=j:=by omega
  refine ⟨a,r,Tm,net,s1,ns2,(net.length:Int)+1,0+(j:Int),Str.ofString "do",rfl,(hA1.same (s1g.trans sx4)),sx4 _ _ gr,by omega,qA1,.inl rfl,by omega,by rw [ej];exact hns,by omega,fun H5 s5=>⟨_,rfl,?_⟩⟩
  have s45:=sx4.trans s5
  have gx5:=s5 _ _ (s4 _ _ gx)
  refine ite2 (fun ck=>?_) (fun ck=>?_)
  ·have ew:wordOf ns2 s1 ((net.length:Int)+1) (Str.ofString "do") (0+(j:Int))=.non:=of_decide_eq_true ck
   obtain ⟨w1,w2,_⟩:=(wd_inv (net:=net) (st:=s1) (rooms:=(net.length:Int)+1) (word:=Str.ofString "do") (wk:=0+(j:Int)) (.inl rfl) (by unfold wd;rw [ej,hns];exact ew)).1 rfl
   refine ⟨_,rfl,_,gx5,qAO (by rw [List.length_map];omega),_,fs++[0+(j:Int)],rfl,qAF s45 hpx,by rw [qA1,List.map_append];rfl,by rw [List.length_append];show _+1≤_;omega,fun u hu=>?_⟩
   rcases List.mem_append.mp hu with z | z
   ·exact ok u z
   ·rw [List.mem_singleton.mp z];exact ⟨by omega,w1,w2⟩
  ·exact ⟨_,fs,rfl,s45,gx5,by omega,ok⟩
 refine fun σ Hx hI_2=>opq fun G_2 hG_2=>?_
 obtain ⟨v,fs,rfl,sx,gx,lf,ok⟩:=hI_2
 refine hG_2 ?_
 refine hN2 _ _ (cut fun N3 hN3=>?_)
 refine ⟨_,rfl,(by show 0≤sizeLine;decide),fun le hle=>?_⟩
 have s5:=qA2 hle (.lst [])
 have s15:=(s1g.trans sx).trans s5
 have gx5:=s5 _ _ gx
 have ge:(upd Hx le (.lst [])) le=some (.lst []):=qA1
 generalize upd Hx le (.lst [])=H5 at s5 s15 gx5 ge ⊢
 refine ⟨px,le,_,rfl,rfl,SqL.of gx5,SqL.of ge,_,rfl,?_⟩
 have S5:=S1.same s15
 have K5:Keep d c H H5:=K1.trans (.of_same s15)
 refine ite2 (fun ck=>?_) (fun ck=>?_)
 ·exact ⟨_,rfl,q l p (t+1) ns1 H5 S5 (by omega) (by omega) K5 (PL1.same s15) (by omega) mo ⟨_,RU⟩ fun asked _=>rfl⟩
 refine hN3 _ _ (cut fun N4 hN4=>?_)
 have lf1:1≤fs.length:=by
  cases fs with
  | nil=>exact absurd rfl ck
  | cons _ _=>simp
 refine ⟨_,rfl,_,rfl,_,rfl,px,_,rfl,.inl (SqL.of gx5),?_⟩
 rw [List.length_map]
 refine ⟨d,c,t+1,ns1,_,rfl,S5,(by show t+1≤1000000000;omega),by omega,by omega,fun y nsy H6 y0 y1 S6 K6=>?_⟩
 obtain ⟨u,eu⟩:∃ u,fs[y.toNat]?=some u:=⟨_,List.getElem?_eq_getElem (by omega)⟩
 obtain ⟨u0,u1,u2⟩:=ok u (List.mem_of_getElem? eu)
 have npx:px ≠ d∧px ≠ c:=⟨(qA5 (S1.same s1g).dict hpx).symm,(qA5 (S1.same s1g).list hpx).symm⟩
 refine ⟨px,_,y,_,rfl,rfl,SqL.of (K6 _ _ gx5 npx.1 npx.2),qBB y0 (by rw [List.getElem?_map,eu];rfl),?_⟩
 refine hN4 _ _ ?_
 have PL6:=(PL1.same s15).keep S5 K6 nld nlc
 obtain ⟨rs6,hL6,ML6⟩:=id PL6
 have lrs6:=Paired.length ML6
 refine ⟨_,rfl,_,rfl,_,rfl,l,_,rfl,SqL.of hL6,fun la1 hla1=>?_⟩
 rw [qC8,cutI_to]
 have z1:=qA2 hla1 (.lst ((rs6.take at_).map V.ref))
 have gA1:(upd H6 la1 (.lst ((rs6.take at_).map V.ref))) la1=some (.lst ((rs6.take at_).map V.ref)):=qA1
 generalize upd H6 la1 (.lst ((rs6.take at_).map V.ref))=H7 at z1 gA1 ⊢
 refine ⟨_,rfl,(by show 2≤sizeLine;decide),fun T3 hT3=>⟨_,rfl,(by show 2≤sizeLine;decide),fun T4 hT4=>⟨(by show 2≤sizeLine;decide),fun la2 hla2=>?_⟩⟩⟩
 have z2:=qA2 hT3 (.tup [.str (Str.ofString "do"),.int u])
 have z3:=qA2 hT4 (.tup [.str (Str.ofString "clear"),.int u])
 have z4:=qA2 hla2 (.lst [.ref T3,.ref T4])
 have q3:=(z3.trans z4) _ _ qA1
 have q4:=z4 _ _ qA1
 have q5:(upd (upd (upd H7 T3 (.tup [.str (Str.ofString "do"),.int u])) T4 (.tup [.str (Str.ofString "clear"),.int u])) la2 (.lst [.ref T3,.ref T4])) la2=some (.lst ([T3,T4].map V.ref)):=qA1
 have z14:=z2.trans (z3.trans z4)
 generalize upd (upd (upd H7 T3 (.tup [.str (Str.ofString "do"),.int u])) T4 (.tup [.str (Str.ofString "clear"),.int u])) la2 (.lst [.ref T3,.ref T4])=H8 at z14 q3 q4 q5 ⊢
 have l6:(rs6.take at_).length≤900:=by rw [List.length_take];omega
 refine ⟨la1,la2,_,_,rfl,rfl,z14 _ _ gA1,q5,by rw [sizeLine_eq,List.length_map,List.length_map];show _+2≤_;omega,fun la3 hla3=>?_⟩
 rw [← List.map_append]
 have z5:=qA2 hla3 (.lst ((rs6.take at_++[T3,T4]).map V.ref))
 have gA3:(upd H8 la3 (.lst ((rs6.take at_++[T3,T4]).map V.ref))) la3=some (.lst ((rs6.take at_++[T3,T4]).map V.ref)):=qA1
 generalize upd H8 la3 (.lst ((rs6.take at_++[T3,T4]).map V.ref))=H9 at z5 gA3 ⊢
 have z69:=z1.trans (z14.trans z5)
 refine ⟨_,rfl,_,rfl,_,rfl,l,_,rfl,SqL.of (z69 _ _ hL6),fun la4 hla4=>?_⟩
 rw [qC8,cutI_from _ _ (by omega)]
 have z6:=qA2 hla4 (.lst ((rs6.drop at_).map V.ref))
 have gA4:(upd H9 la4 (.lst ((rs6.drop at_).map V.ref))) la4=some (.lst ((rs6.drop at_).map V.ref)):=qA1
 generalize upd H9 la4 (.lst ((rs6.drop at_).map V.ref))=Ha at z6 gA4 ⊢
 refine ⟨la3,la4,_,_,rfl,rfl,z6 _ _ gA3,gA4,by rw [sizeLine_eq,List.length_map,List.length_map,List.length_append,List.length_drop];show _+2+_≤_;omega,fun la5 hla5=>?_⟩
 rw [← List.map_append]
 have z7:=qA2 hla5 (.lst ((rs6.take at_++[T3,T4]++rs6.drop at_).map V.ref))
 have z6b:=z69.trans (z6.trans z7)
 have zq:=(z5.trans z6).trans z7
 have MA:=MovL.same (qBU 0 at_ ML6) z6b
 have MZ0:=qBU at_ rs6.length ML6
 rw [show (rs6.drop at_).take rs6.length=rs6.drop at_ from List.take_of_length_le (by rw [List.length_drop];omega),show (p.drop at_).take rs6.length=p.drop at_ from List.take_of_length_le (by rw [List.length_drop];omega)] at MZ0
 have MZ:=MovL.same MZ0 z6b
 obtain ⟨R1,td⟩:=idle_in (asked:=[]) RA RB (fun x hx=>nomatch hx) u1 u2 (by omega)
 refine q la5 (p.take at_++(dO u::cL u::p.drop at_)) (t+1+1) nsy _ (S6.same z6b) (by omega) (by omega) ((K5.trans K6).trans (.of_same z6b)) ⟨_,qA1,?_⟩ ?_ ?_ ⟨_,R1⟩ fun asked ha=>?_
 ·have e:p.take at_++(dO u::cL u::p.drop at_)=p.take at_++[dO u,cL u]++p.drop at_:=by simp
  rw [e]
  exact paired_app (paired_app MA (.cons (zq _ _ q3) (.cons (zq _ _ q4) .nil))) MZ
 ·rw [List.length_append,List.length_cons,List.length_cons,List.length_take,List.length_drop]
  omega
 ·intro m hm
  rcases List.mem_append.mp hm with z | z
  ·exact mo m (List.mem_of_mem_take z)
  ·rcases List.mem_cons.mp z with z | z
   ·rw [z];exact ⟨.inl rfl,u0⟩
   ·rcases List.mem_cons.mp z with z | z
    ·rw [z];exact ⟨.inr rfl,u0⟩
    ·exact mo m (List.mem_of_mem_drop z)
 ·have:=(idle_in (asked:=asked) RA RB ha u1 u2 (by omega)).2
  rw [this,List.take_append_drop]
end
section
variable {P:Program} {w:World} {K:PySem.W.Frag} {mg:Str→Option Value} {base:Heap} {f:Addr} {fd:FuncData} {f_Lbegin f_Ltake f_Lcase f_Ldoing f_Lmost f_tidied f_Lplayed f_does f_Lsteps f_Lcleared_right f_Lsome_of f_Lidle_put_in:Addr} {fd_Lbegin fd_Ltake fd_Lcase fd_Ldoing fd_Lmost fd_tidied fd_Lplayed fd_does fd_Lsteps fd_Lcleared_right fd_Lsome_of fd_Lidle_put_in:FuncData}
theorem sc_law:FnScope ["_law_script","_law_state","_law_turn","_law_net_here","_law_asked_here","_law_many","_law_plan","_law_found","_law_stands","_law_word_here"] ["_law_script"] (defScope s_law):=⟨rfl,rfl,rfl,by decide +kernel,rfl,by decide +kernel,by decide +kernel⟩
theorem ok_law (F:Fun K "law" "law" s_law f fd) (C_Lbegin:Clb P w K mg base 1 f_Lbegin fd_Lbegin "_law_begin" ["_law_script"] (spBegin K)) (C_Ltake:Clb P w K mg base 1 f_Ltake fd_Ltake "_law_take" ["_law_state","_law_many"] spTake) (C_Lcase:Clb P w K mg base 4 f_Lcase fd_Lcase "_law_case" ["_law_state"] spCase6) (C_Ldoing:Clb P w K mg base 4 f_Ldoing fd_Ldoing "_law_doing" ["_law_state","_law_net_here","_law_asked_here","_law_many"] spDoing) (C_Lmost:Clb P w K mg base 3 f_Lmost fd_Lmost "_law_most" ["_law_net_here","_law_plan"] spMost2) (C_tidied:Clb P w K mg base 2 f_tidied fd_tidied "tidied" ["net","plan","asked"] spTidied) (C_Lplayed:Clb P w K mg base 2 f_Lplayed fd_Lplayed "_law_played" ["_law_net_here","_law_rooms","_law_plan"] spPlayL2) (C_does:Clb P w K mg base 4 f_does fd_does "does" ["net","rooms","plan","asked"] spDoes2) (C_Lsteps:Clb P w K mg base 1 f_Lsteps fd_Lsteps "_law_steps" ["_law_plan"] spSteps20) (C_Lcleared_right:Clb P w K mg base 2 f_Lcleared_right fd_Lcleared_right "_law_cleared_right" ["_law_net_here","_law_plan","_law_asked_here"] spClrR) (C_Lsome_of:Clb P w K mg base 1 f_Lsome_of fd_Lsome_of "_law_some_of" ["_law_less","_law_more"] spSomeOf) (C_Lidle_put_in:Clb P w K mg base 3 f_Lidle_put_in fd_Lidle_put_in "_law_idle_put_in" ["_law_state","_law_net_here","_law_plan"] spIdleIn)
  (z_range:mg "range" = none) (z_int:mg "int" = none):FnOk P w K mg base CX0 5 f fd ["_law_script"] (spLaw K):=by
 refine F.ok sc_law (fun vs H Q E h=>?_) (fun cdv A outer s H vs Q E hr h=>?_)
 ·obtain ⟨a,ns,rfl,_⟩:=h
  rfl
 obtain ⟨sc,ns,rfl,hS,h63,q⟩:=h
 have hu0:=hr.units0
 have hu64:=hr.units
 refine ⟨_,(qA4 (qAE (i:=1) sc_law.nd rfl (Or.inl rfl) (pe_cl C_Lbegin hr rfl (qA0 (pv 0) qA3))) (qA4 (qB5 PassesOwn.never rfl (qB6 rfl z_range (qA0 (pe_op qBL qA7 (pe_cl C_Ltake hr rfl (qA0 (pv 1) (qA0 qA7 qA3)))) qA3)) (qA9 (i:=2) sc_law.nd rfl (Or.inl rfl)) (qA4 (ps_asg (pe_cl C_Lcase hr rfl (qA0 (pv 1) qA3)) (qCJ rfl (qAK (qA9 (i:=3) sc_law.nd rfl (Or.inl rfl)) (qAK (qA9 (i:=4) sc_law.nd rfl (Or.inl rfl)) qBP)))) (qA4 (qAE (i:=5) sc_law.nd rfl (Or.inl rfl) (pe_ix qAR (qB0 (qA0 (pe_cl C_Ltake hr rfl (qA0 (pv 1) (qA0 qA7 qA3))) (qA0 (pe_cl C_Ltake hr rfl (qA0 (pv 1) (qA0 qA7 qA3))) qA3))) (qAI call_int1 rfl z_int bt_int (qA0 (qCQ op_eq (pe_cl C_Ltake hr rfl (qA0 (pv 1) (qA0 qA7 qA3))) qA7 (nomark _)) qA3)) (fun _ _=>rfl))) (qA4 (qAE (i:=6) sc_law.nd rfl (Or.inl rfl) (pe_cl C_Ldoing hr rfl (qA0 (pv 1) (qA0 (pv 3) (qA0 (pv 4) (qA0 (pv 5) qA3)))))) (qA4 (qAE (i:=7) sc_law.nd rfl (Or.inl rfl) (pe_cl C_tidied hr rfl (qA0 (pv 3) (qA0 (pv 6) (qA0 (pv 4) qA3))))) (qA4 (ps_asg (pe_cl C_Lplayed hr rfl (qA0 (pv 3) (qA0 (pe_cl C_Lmost hr rfl (qA0 (pv 3) (qA0 (pv 6) qA3))) (qA0 (pv 7) qA3)))) (qCJ rfl (qAK (qA9 (i:=8) sc_law.nd rfl (Or.inl rfl)) (qAK (qA9 (i:=9) sc_law.nd rfl (Or.inl rfl)) qBP)))) (qA4 (ps_if (PW.pt (pw_or (pt_cmp (pc_notN (pv 9))) (pw_or (qAC (op_ne_sameT hu0) (pe_ix qAR (pv 8) (pe_un qD2 qA7) (fun _ _=>rfl)) (pv 4) (nomark _)) (pw_or1 (qAC op_isnotB (pe_cl C_does hr rfl (qA0 (pv 3) (qA0 (pe_cl C_Lmost hr rfl (qA0 (pv 3) (qA0 (pv 6) qA3))) (qA0 (pv 7) (qA0 (pv 4) qA3))))) pe_bl (nomark _)))))) (qA6 (qAG pe_bl)) qAH) (qA4 (ps_if (PW.pt (pw_or (qAC op_gt (pe_cl C_Lsteps hr rfl (qA0 (pv 7) qA3)) (pe_cl C_Lsteps hr rfl (qA0 (pv 6) qA3)) (nomark _)) (pw_or1 (pt_not (pt_val (pe_cl C_Lcleared_right hr rfl (qA0 (pv 3) (qA0 (pv 7) (qA0 (pv 4) qA3))))))))) (qA6 (qAG pe_bl)) qAH) (qA4 (ps_if (pt_not (pt_val (pe_cl C_Lsome_of hr rfl (qA0 (pe_lc rfl (lcs (own:=["_law_move"]) (fv:=[]) (by kernel_rfl)) (qB8 (pv 7)) (fun z1=>qA9 (i:=0) (nd_of (by kernel_rfl)) rfl (Or.inl rfl)) (fun z1=>(qBO (qAC op_eq (pe_ix (qBX (K:=K) rfl) (pv 0) qA7 (fun _ _=>rfl)) qAL (nomark _)))) (fun z1=>(pv 0))) (qA0 (pv 6) qA3))))) (qA6 (qAG pe_bl)) qAH) (qA6 (ps_if (qAC (op_ne_movs hu64) (pe_cl C_tidied hr rfl (qA0 (pv 3) (qA0 (pe_cl C_Lidle_put_in hr rfl (qA0 (pv 1) (qA0 (pv 3) (qA0 (pv 6) qA3)))) (qA0 (pv 4) qA3)))) (pv 7) (nomark _)) (qA6 (qAG pe_bl)) qAH))))))))))) (qA6 (qAG pe_bl)))),?_⟩
 try dsimp only [Cx.nox,Cx.wish,cxOf]
 refine cut fun N0 hN0=>?_
 refine ⟨_,rfl,sc,ns,rfl,hS,h63,fun d c ms0 H1 S1 sm0 hd0 hc0=>?_⟩
 refine hN0 _ _ (cut fun NL hNL=>?_)
 refine ⟨_,rfl,d,c,0,ms0,3,rfl,S1,(by show (0:Int)≤1000000000;decide),by decide,by decide,fun k0 ns0 H0 k00 k01 S0 K0=>⟨_,_,rfl,rfl,_,rfl,by omega,by omega,qCS (lo:=0) (n:=(3+k0).toNat) (fun i σ Hc=>∃ (t:Int) (ns:List Int) (v2 v3 v4 v5 v6 v7 v8 v9:Option V),σ=[some (.ref sc),some (.ref d),v2,v3,v4,v5,v6,v7,v8,v9]∧StAt Hc d c t ns∧0≤t∧t≤10+40000 * (i:Int))
  ⟨_,ns0,none,none,none,none,none,none,none,none,rfl,S0,by omega,by omega⟩ ?_ ?_⟩⟩
 ·refine fun i σ Hc hi hI_1=>opq fun G_1 hG_1=>?_
  obtain ⟨t,ns,v2,v3,v4,v5,v6,v7,v8,v9,rfl,S2,t0,tb⟩:=hI_1
  refine hG_1 ?_
  have hi5:i≤5:=by omega
  refine nmD fun D1 d1 _=>?_
  refine cut fun N1 hN1=>?_
  refine ⟨_,rfl,d,c,t,ns,rfl,S2,(by show t≤1000000000 - 200000;omega),fun T a ta net asked t3 ns3 H3 S3 g1 g2 K3 gT hA wf n1 n30 gTa rA lA1 lA=>?_⟩
  refine ⟨T,_,rfl,SqT.of gT,rfl,_,_,rfl,_,_,rfl,rfl,?_⟩
  refine hN1 _ _ (cut fun N2 hN2=>?_)
  refine ⟨_,rfl,d,c,t3,ns3,31,rfl,S3,(by show t3≤1000000000;omega),by decide,by decide,fun x1 ns4 H4 x10 x11 S4 K4=>?_⟩
  refine ⟨_,rfl,d,c,t3+1,ns4,201,rfl,S4,(by show t3+1≤1000000000;omega),by decide,by decide,fun x2 ns5 H5 x20 x21 S5 K5=>?_⟩
  refine ⟨(by show 2≤sizeLine;decide),fun p hp=>?_⟩
  have sp:=qA2 hp (.lst [.int x1,.int x2])
  have np:p ≠ d∧p ≠ c:=⟨(qA5 S5.dict hp).symm,(qA5 S5.list hp).symm⟩
  refine ⟨_,rfl,d,c,t3+1+1,ns5,4,rfl,S5.same sp,(by show t3+1+1≤1000000000;omega),by decide,by decide,fun x3 ns6 H6 x30 x31 S6 K6=>⟨rfl,.inr ⟨_,rfl,?_⟩⟩⟩
  have gp6:=K6 _ _ qA1 np.1 np.2
  have K36:Keep d c H3 H6:=(K4.trans K5).trans ((Keep.of_same sp).trans K6)
  obtain ⟨many,em,mm0,mm1⟩:∃ many:Int,atI [V.int x1,V.int x2] (if decide (V.int x3=V.int 0)=true then (1:Int) else 0)=some (.int many)∧0≤many∧many≤200:=by
   cases decide (V.int x3=V.int 0) with
   | true=>exact ⟨x2,rfl,x20,by omega⟩
   | false=>exact ⟨x1,rfl,x10,by omega⟩
  refine ⟨p,_,_,_,rfl,rfl,SqL.of gp6,em,?_⟩
  have hA6:=hA.keep S3 K36
  have gT6:=K36 _ _ gTa (S3.tup gTa).1 (S3.tup gTa).2
  refine hN2 _ _ (cut fun N3 hN3=>?_)
  refine ⟨_,rfl,_,rfl,_,rfl,_,rfl,d,c,t3+1+1+1,ns6,a,ta,net,asked,many,rfl,S6,(by show t3+1+1+1≤1000000000 - 400000;omega),hA6,wf,n1,by omega,⟨gT6,rA⟩,mm0,by omega,fun l ms st t7 ns7 H7 S7 g3 g4 K7 fl PL mv lm rst R sub=>?_⟩
  have hA7:=hA6.keep S6 K7
  have gT7:=K7 _ _ gT6 (S6.tup gT6).1 (S6.tup gT6).2
  have nl:l ≠ d∧l ≠ c:=⟨(qA5 S6.dict fl).symm,(qA5 S6.list fl).symm⟩
  have lms:ms.length≤280:=by omega
  have RP:=runP R
  have RK:Run net (peak 0 ms) [] ms st:=run_in R .nil (by simp)
  have ST:=tdy_sho (asked:=asked) wf RK mv sub rA
  have BL:Blk net (tdy net asked ms):=blk_bk wf ms
  have ld:=dos_le ms
  have lt:=ST.len
  have pk0:=peak_ge 0 ms
  have pk1:=peak_lenS ms 0
  refine hN3 _ _ (cut fun N4 hN4=>?_)
  refine ⟨_,rfl,_,rfl,_,rfl,a,l,ta,net,ms,asked,rfl,⟨hA7,wf,by omega,PL,by omega,mv,RP.ndf⟩,gT7,by omega,RP.last sub,fun l2 H9 s9 fl2 P9=>?_⟩
  refine hN4 _ _ (cut fun N5 hN5=>?_)
  have S9:=S7.same s9
  have n2:l2 ≠ d∧l2 ≠ c:=⟨(qA5 S7.dict fl2).symm,(qA5 S7.list fl2).symm⟩
  refine ⟨_,rfl,_,rfl,_,rfl,a,l,net,ms,st,rfl,⟨hA7.same s9,wf,by omega,PL.same s9,by omega,mv,by omega,by omega⟩,R,fun H10 s10=>?_⟩
  have s0:=s9.trans s10
  refine ⟨_,rfl,a,l2,net,tdy net asked ms,peak 0 ms,rfl,⟨hA7.same s0,wf,by omega,P9.same s10,by omega,ST.ok,by omega,by omega⟩,fun T2 ls sts v H11 s11 pl gT2 fls SA lsts=>?_⟩
  have s1:=s0.trans s11
  have P11:=(P9.same s10).same s11
  obtain ⟨sts',pl',ee,_,_⟩:=ST.run.play .nil
  obtain ⟨e1,e2⟩:=Play.one ST.ok pl pl'
  subst e1 e2
  obtain ⟨ks,hks,NK⟩:=id SA
  obtain ⟨ss,r,ek,gr⟩:=last_at NK
  rw [ek] at hks
  rw [ee] at gr
  refine ⟨T2,_,rfl,SqT.of gT2,rfl,_,_,rfl,_,_,rfl,rfl,?_⟩
  refine hN5 _ _ (cut fun N6 hN6=>?_)
  refine ⟨_,rfl,_,rfl,?_⟩
  refine iteF ?_
  refine ⟨_,rfl,_,rfl,ls,_,_,_,rfl,rfl,SqL.of hks,(by rw [List.map_append];exact qD1 _ _),_,rfl,r,ta,asked,rfl,rfl,SqT.of gr,SqT.of (s1 _ _ gT7),_,rfl,?_⟩
  refine iteF ?_
  refine ⟨_,rfl,_,rfl,_,rfl,a,l,net,ms,st,rfl,⟨hA7.same s1,wf,by omega,PL.same s1,by omega,mv,by omega,by omega⟩,R,fun H12 s12=>?_⟩
  have s2:=s1.trans s12
  have P12:=P11.same s12
  have rest:∀ H13,Same H12 H13→N6 [some (.ref sc),some (.ref d),some (.int (0+(i:Int))),some (.ref a),some (.ref ta),some (.int many),some (.ref l),some (.ref l2),some (.ref ls),some .non] H13:=by
   intro H13 s13
   have s3:=s2.trans s13
   have P13:=P12.same s13
   refine hN6 _ _ (cut fun N7 hN7=>?_)
   refine ⟨_,rfl,l2,tdy net asked ms,rfl,P13,by omega,fun H14 s14=>?_⟩
   refine ⟨_,rfl,l,ms,rfl,PL.same (s3.trans s14),by omega,fun H15 s15=>?_⟩
   have sd:=ST.dos
   refine ⟨_,_,rfl,rfl,_,rfl,?_⟩
   rw [decide_eq_false (show ¬ ((dosOf ms).length:Int)<((dosOf (tdy net asked ms)).length:Int) by omega)]
   refine iteF ?_
   have s5:=s3.trans (s14.trans s15)
   have P15:=(P13.same s14).same s15
   refine ⟨_,rfl,_,rfl,_,rfl,a,l2,ta,net,tdy net asked ms,asked,peak 0 ms,rfl,⟨hA7.same s5,wf,by omega,P15,by omega,ST.ok⟩,by omega,ST.run,BL,s5 _ _ gT7,fun H16 s16=>⟨_,rfl,?_⟩⟩
   refine iteF ?_
   have s6:=s5.trans s16
   have P16:=P15.same s16
   refine hN7 _ _ (cut fun N8 hN8=>?_)
   obtain ⟨us,gus,MU⟩:=id P16
   have lus:=Paired.length MU
   refine ⟨_,rfl,l2,rfl,⟨_,SqL.of gus⟩,fun px hpx=>?_⟩
   refine lc_list (p:=px) (a:=l2) (xs:=us.map V.ref) (fun k σ Hd=>∃ (v:Option V) (ws:List Addr),σ=[v]∧Same H16 Hd∧Hd px=some (.lst (ws.map V.ref))∧MovL Hd ws (((tdy net asked ms).take k).filter isD5)) ?_ ?_ ?_ ?_
   ·exact ⟨none,[],rfl,qA2 hpx _,qA1,.nil⟩
   ·rintro k σ Hd hk ⟨v,ws,rfl,sd,_⟩
    exact SqL.of (sd _ _ gus)
   ·refine fun k x σ Hd hx hI_3=>opq fun G_3 hG_3=>?_
    obtain ⟨v,ws,rfl,sd,gd,MW⟩:=hI_3
    obtain ⟨r2,er2,rfl⟩:=qBQ hx
    obtain ⟨m,em2,hm⟩:=qAN MU er2
    refine hG_3 ?_
    have hk:=(List.getElem?_eq_some_iff.mp er2).1
    have lws:=Paired.length MW
    have lfl:=List.length_filter_le isD5 ((tdy net asked ms).take k)
    rw [List.length_take] at lfl
    refine ⟨_,rfl,r2,_,_,_,rfl,rfl,SqT.of (sd _ _ hm),rfl,rfl,_,rfl,?_⟩
    refine ite2 (fun ck=>?_) (fun ck=>?_)
    ·have hd:m.1=Str.ofString "do":=V.str.inj (of_decide_eq_true ck)
     refine ⟨_,rfl,_,gd,qAO (by rw [List.length_map];omega),_,ws++[r2],rfl,qAF sd hpx,by rw [qA1,List.map_append];rfl,?_⟩
     rw [qCN em2,List.filter_append,List.filter_cons,if_pos (show isD5 m=true from decide_eq_true hd)]
     exact Paired.snoc (MovL.put MW gd) (by rw [qA8 (ne_of (sd _ _ hm) gd (by intro z;cases z))];exact sd _ _ hm)
    ·have hd:¬ isD5 m=true:=fun z=>ck (decide_eq_true (congrArg V.str (of_decide_eq_true z)))
     refine ⟨_,ws,rfl,sd,gd,?_⟩
     rw [qCN em2,List.filter_append,List.filter_cons,if_neg hd,List.filter_nil,List.append_nil]
     exact MW
   refine fun σ Hd hI_4=>opq fun G_4 hG_4=>?_
   obtain ⟨v,ws,rfl,sd,gd,MW⟩:=hI_4
   refine hG_4 ?_
   rw [List.length_map,lus,List.take_length] at MW
   refine ⟨_,rfl,px,l,_,ms,rfl,⟨ws,gd,MW⟩,PL.same (s6.trans sd),by omega,dos_sub ms,fun H17 s17=>⟨_,rfl,?_⟩⟩
   refine iteF ?_
   have s7:=s6.trans (sd.trans s17)
   refine hN8 _ _ ?_
   have S17:=S7.same s7
   refine ⟨_,rfl,_,rfl,_,rfl,_,rfl,d,c,t7,ns7,a,l,net,ms,st,rfl,S17,(by show t7≤1000000000 - 1000;omega),hA7.same s7,wf,n1,by omega,PL.same s7,nl.1,nl.2,by omega,mv,R,fun l5 qq t8 ns8 H18 S18 g5 g6 K18 PQ lqq mvq rq eqq=>?_⟩
   obtain ⟨R2,RQ⟩:=rq
   have RPq:=runP RQ
   have K7z:Keep d c H7 H18:=(Keep.of_same s7).trans K18
   have gTz:=K7z _ _ gT7 (S7.tup gT7).1 (S7.tup gT7).2
   refine ⟨_,rfl,a,l5,ta,net,qq,asked,rfl,⟨hA7.keep S7 K7z,wf,by omega,PQ,lqq,mvq,RPq.ndf⟩,gTz,by omega,RPq.last sub,fun l6 H19 s19 fl6 P19=>?_⟩
   rw [eqq asked sub] at P19
   obtain ⟨ws1,gw1,MW1⟩:=id P19
   have P17:PlanAt H17 l2 (tdy net asked ms):=(P16.same sd).same s17
   obtain ⟨ws2,gw2,MW2⟩:=(P17.keep S17 K18 n2.1 n2.2).same s19
   refine ⟨_,rfl,l6,l2,_,_,_,rfl,rfl,SqL.of gw1,SqL.of gw2,MW1,MW2,_,rfl,?_⟩
   refine iteF ?_
   exact d1 _ _ ⟨t8,ns8,_,_,_,_,_,_,_,_,rfl,S18.same s19,by omega,by omega⟩
  refine ⟨_,rfl,_,rfl,a,l2,ta,net,tdy net asked ms,peak 0 ms,asked,rfl,⟨hA7.same s2,wf,by omega,P12,by omega,ST.ok,by omega,by omega⟩,s2 _ _ gT7,by omega,fun sts2 H13 s13 pl2=>?_,fun sts2 w0 H13 s13 pl2=>?_⟩
  ·obtain ⟨e3,_⟩:=Play.one ST.ok pl2 pl'
   subst e3
   rw [ee,decide_eq_true (show ∀ x ∈ asked,x ∈ asked from fun x hx=>hx)]
   refine ⟨_,_,rfl,rfl,_,rfl,?_⟩
   refine iteF ?_
   exact rest H13 s13
  ·obtain ⟨_,e3⟩:=Play.one ST.ok pl2 pl'
   cases e3
 ·refine fun σ Hc hI_5=>opq fun G_5 hG_5=>?_
  obtain ⟨t,ns,v2,v3,v4,v5,v6,v7,v8,v9,rfl,S2,t0,tb⟩:=hI_5
  refine hG_5 ?_
  exact hNL _ _ (q _)
end
theorem all_mk {l:PySem.W.OpenLaw} {w:World} {K:PySem.W.Frag} {h:Heap} {mg:Str→Option Value} {fa c_Barred f_init_Barred f_stays_of f_stays_left f_tidied f_fault_of_do f_fault_of f_stand_behind f_has_all f_played f_does f_Lbegin f_Ltake f_Lsome_needs f_Ltree_net f_Lnet f_Lasked f_Lneeded f_Lword f_Lbehind f_Lplayed f_Lnext_work f_Lwalk f_Lspare f_Ldoing f_Lmost f_Lsteps f_Lstays f_Lneeding f_Lcase f_Lcleared_right f_Lsome_of f_Lidle_put_in f_law:Addr} (X:K.In h) (G:h.Ns mainGlobals mg) (hfa:mg "law" = some (.ref fa))
  {od_init_Barred an_init_Barred od_law an_law:Option Addr} {sl_init_Barred sl_law:Array (Option Value)} {oc_init_Barred kV_init_Barred dc_init_Barred pm_init_Barred cd_init_Barred ct_init_Barred oc_law kV_law dc_law pm_law cd_law ct_law:Value}
  (a_Barred:PySem.W.nsIn K mainGlobals "Barred" = some (some (.ref c_Barred)))
  (a_init_Barred:PySem.W.findIn K (.ref c_Barred) "__init__" = some (some (.ref f_init_Barred)))
  (l_init_Barred:K.lookup f_init_Barred=some ⟨oc_init_Barred,od_init_Barred,.func (PySem.W.fnOf "__init__" "Barred.__init__" (defArgs qB1) (defBody qB1) (defScope qB1) .none kV_init_Barred dc_init_Barred pm_init_Barred an_init_Barred cd_init_Barred ct_init_Barred),sl_init_Barred⟩) (c_init_Barred:PySem.W.codeIn K cd_init_Barred "Barred.__init__" = true) (k_init_Barred:PySem.W.keepIn K (.ref f_init_Barred)=true)
  (a_stays_of:PySem.W.nsIn K mainGlobals "stays_of" = some (some (.ref f_stays_of))) (F_stays_of:∃ fd,Fun K "stays_of" "stays_of" qCV f_stays_of fd)
  (a_stays_left:PySem.W.nsIn K mainGlobals "stays_left" = some (some (.ref f_stays_left))) (F_stays_left:∃ fd,Fun K "stays_left" "stays_left" qC2 f_stays_left fd)
  (a_tidied:PySem.W.nsIn K mainGlobals "tidied" = some (some (.ref f_tidied))) (F_tidied:∃ fd,Fun K "tidied" "tidied" s_tidied f_tidied fd)
  (a_fault_of_do:PySem.W.nsIn K mainGlobals "fault_of_do" = some (some (.ref f_fault_of_do))) (F_fault_of_do:∃ fd,Fun K "fault_of_do" "fault_of_do" qBR f_fault_of_do fd)
  (a_fault_of:PySem.W.nsIn K mainGlobals "fault_of" = some (some (.ref f_fault_of))) (F_fault_of:∃ fd,Fun K "fault_of" "fault_of" qCW f_fault_of fd)
  (a_stand_behind:PySem.W.nsIn K mainGlobals "stand_behind" = some (some (.ref f_stand_behind))) (F_stand_behind:∃ fd,Fun K "stand_behind" "stand_behind" qBI f_stand_behind fd)
  (a_has_all:PySem.W.nsIn K mainGlobals "has_all" = some (some (.ref f_has_all))) (F_has_all:∃ fd,Fun K "has_all" "has_all" s_has_all f_has_all fd)
  (a_played:PySem.W.nsIn K mainGlobals "played" = some (some (.ref f_played))) (F_played:∃ fd,Fun K "played" "played" s_played f_played fd)
  (a_does:PySem.W.nsIn K mainGlobals "does" = some (some (.ref f_does))) (F_does:∃ fd,Fun K "does" "does" s_does f_does fd)
  (a_Lbegin:PySem.W.nsIn K mainGlobals "_law_begin" = some (some (.ref f_Lbegin))) (F_Lbegin:∃ fd,Fun K "_law_begin" "_law_begin" s_Lbegin f_Lbegin fd)
  (a_Ltake:PySem.W.nsIn K mainGlobals "_law_take" = some (some (.ref f_Ltake))) (F_Ltake:∃ fd,Fun K "_law_take" "_law_take" s_Ltake f_Ltake fd)
  (a_Lsome_needs:PySem.W.nsIn K mainGlobals "_law_some_needs" = some (some (.ref f_Lsome_needs))) (F_Lsome_needs:∃ fd,Fun K "_law_some_needs" "_law_some_needs" qBS f_Lsome_needs fd)
  (a_Ltree_net:PySem.W.nsIn K mainGlobals "_law_tree_net" = some (some (.ref f_Ltree_net))) (F_Ltree_net:∃ fd,Fun K "_law_tree_net" "_law_tree_net" qCG f_Ltree_net fd)
  (a_Lnet:PySem.W.nsIn K mainGlobals "_law_net" = some (some (.ref f_Lnet))) (F_Lnet:∃ fd,Fun K "_law_net" "_law_net" s_Lnet f_Lnet fd)
  (a_Lasked:PySem.W.nsIn K mainGlobals "_law_asked" = some (some (.ref f_Lasked))) (F_Lasked:∃ fd,Fun K "_law_asked" "_law_asked" s_Lasked f_Lasked fd)
  (a_Lneeded:PySem.W.nsIn K mainGlobals "_law_needed" = some (some (.ref f_Lneeded))) (F_Lneeded:∃ fd,Fun K "_law_needed" "_law_needed" s_Lneeded f_Lneeded fd)
  (a_Lword:PySem.W.nsIn K mainGlobals "_law_word" = some (some (.ref f_Lword))) (F_Lword:∃ fd,Fun K "_law_word" "_law_word" s_Lword f_Lword fd)
  (a_Lbehind:PySem.W.nsIn K mainGlobals "_law_behind" = some (some (.ref f_Lbehind))) (F_Lbehind:∃ fd,Fun K "_law_behind" "_law_behind" s_Lbehind f_Lbehind fd)
  (a_Lplayed:PySem.W.nsIn K mainGlobals "_law_played" = some (some (.ref f_Lplayed))) (F_Lplayed:∃ fd,Fun K "_law_played" "_law_played" s_Lplayed f_Lplayed fd)
  (a_Lnext_work:PySem.W.nsIn K mainGlobals "_law_next_work" = some (some (.ref f_Lnext_work))) (F_Lnext_work:∃ fd,Fun K "_law_next_work" "_law_next_work" qC3 f_Lnext_work fd)
  (a_Lwalk:PySem.W.nsIn K mainGlobals "_law_walk" = some (some (.ref f_Lwalk))) (F_Lwalk:∃ fd,Fun K "_law_walk" "_law_walk" s_Lwalk f_Lwalk fd)
  (a_Lspare:PySem.W.nsIn K mainGlobals "_law_spare" = some (some (.ref f_Lspare))) (F_Lspare:∃ fd,Fun K "_law_spare" "_law_spare" s_Lspare f_Lspare fd)
  (a_Ldoing:PySem.W.nsIn K mainGlobals "_law_doing" = some (some (.ref f_Ldoing))) (F_Ldoing:∃ fd,Fun K "_law_doing" "_law_doing" s_Ldoing f_Ldoing fd)
  (a_Lmost:PySem.W.nsIn K mainGlobals "_law_most" = some (some (.ref f_Lmost))) (F_Lmost:∃ fd,Fun K "_law_most" "_law_most" s_Lmost f_Lmost fd)
  (a_Lsteps:PySem.W.nsIn K mainGlobals "_law_steps" = some (some (.ref f_Lsteps))) (F_Lsteps:∃ fd,Fun K "_law_steps" "_law_steps" s_Lsteps f_Lsteps fd)
  (a_Lstays:PySem.W.nsIn K mainGlobals "_law_stays" = some (some (.ref f_Lstays))) (F_Lstays:∃ fd,Fun K "_law_stays" "_law_stays" s_Lstays f_Lstays fd)
  (a_Lneeding:PySem.W.nsIn K mainGlobals "_law_needing" = some (some (.ref f_Lneeding))) (F_Lneeding:∃ fd,Fun K "_law_needing" "_law_needing" qCY f_Lneeding fd)
  (a_Lcase:PySem.W.nsIn K mainGlobals "_law_case" = some (some (.ref f_Lcase))) (F_Lcase:∃ fd,Fun K "_law_case" "_law_case" s_Lcase f_Lcase fd)
  (a_Lcleared_right:PySem.W.nsIn K mainGlobals "_law_cleared_right" = some (some (.ref f_Lcleared_right))) (F_Lcleared_right:∃ fd,Fun K "_law_cleared_right" "_law_cleared_right" qBA f_Lcleared_right fd)
  (a_Lsome_of:PySem.W.nsIn K mainGlobals "_law_some_of" = some (some (.ref f_Lsome_of))) (F_Lsome_of:∃ fd,Fun K "_law_some_of" "_law_some_of" qCX f_Lsome_of fd)
  (a_Lidle_put_in:PySem.W.nsIn K mainGlobals "_law_idle_put_in" = some (some (.ref f_Lidle_put_in))) (F_Lidle_put_in:∃ fd,Fun K "_law_idle_put_in" "_law_idle_put_in" qBJ f_Lidle_put_in fd)
  (a_law:PySem.W.nsIn K mainGlobals "law" = some (some (.ref f_law))) (l_law:K.lookup f_law=some ⟨oc_law,od_law,.func (PySem.W.fnOf "law" "law" (defArgs s_law) (defBody s_law) (defScope s_law) .none kV_law dc_law pm_law an_law cd_law ct_law),sl_law⟩) (c_law:PySem.W.codeIn K cd_law "law" = true) (k_law:PySem.W.keepIn K (.ref f_law)=true)
  (xc_Barred:xcIn K c_Barred (some (.ref f_init_Barred))=true)
  (xs_Barred:PySem.W.findIn K (.ref c_Barred) "__setattr__" = some (some (.builtin "object.__setattr__")))
  (xk_Barred:PySem.W.keepIn K (.ref c_Barred)=true)
  (fi_Barred:PySem.W.isFn K (.ref f_init_Barred)=true)
  (n_move:PySem.W.findIn K (.ref c_Barred) "move" = some none)
  (n_word:PySem.W.findIn K (.ref c_Barred) "word" = some none)
  (em_Barred:PySem.W.exmOne K (.ref c_Barred) (.ref c_Barred)=some true)
  (z_all:PySem.W.nsIn K mainGlobals "all" = some none)
  (z_any:PySem.W.nsIn K mainGlobals "any" = some none)
  (z_divmod:PySem.W.nsIn K mainGlobals "divmod" = some none)
  (z_enumerate:PySem.W.nsIn K mainGlobals "enumerate" = some none)
  (z_int:PySem.W.nsIn K mainGlobals "int" = some none)
  (z_len:PySem.W.nsIn K mainGlobals "len" = some none)
  (z_list:PySem.W.nsIn K mainGlobals "list" = some none)
  (z_max:PySem.W.nsIn K mainGlobals "max" = some none)
  (z_min:PySem.W.nsIn K mainGlobals "min" = some none)
  (z_range:PySem.W.nsIn K mainGlobals "range" = some none)
  (z_reversed:PySem.W.nsIn K mainGlobals "reversed" = some none)
  (z_set:PySem.W.nsIn K mainGlobals "set" = some none)
  (z_sorted:PySem.W.nsIn K mainGlobals "sorted" = some none)
  (z_tuple:PySem.W.nsIn K mainGlobals "tuple" = some none)
  : ∃ fd:FuncData,(∀ (s:Shared) (v:Value),BindsTo s fd ⟨[v],[]⟩ [("_law_script",v)])∧∀ base:Heap,K.In base→base.Ns mainGlobals mg→FnOk l.prog w K mg base CX0 5 fa fd ["_law_script"] (spLaw K):=by
 have e:=hfa.symm.trans (PySem.W.mg_of X G a_law)
 cases e
 have F_init_Barred:=fun_mk (st:=qB1) l_init_Barred c_init_Barred k_init_Barred
 have b_init_Barred:=F_init_Barred.binds (ps:=["self","move","word"]) fun _ _ _ _ _ _ us hl=>us3 us hl (fun _ _ _=>rfl)
 obtain ⟨fd_stays_of,F_stays_of⟩:=F_stays_of
 have b_stays_of:=F_stays_of.binds (ps:=["net","plan"]) fun _ _ _ _ _ _ us hl=>us2 us hl (fun _ _=>rfl)
 have m_stays_of:=PySem.W.mg_of X G a_stays_of
 obtain ⟨fd_stays_left,F_stays_left⟩:=F_stays_left
 have b_stays_left:=F_stays_left.binds (ps:=["needed","last"]) fun _ _ _ _ _ _ us hl=>us2 us hl (fun _ _=>rfl)
 have m_stays_left:=PySem.W.mg_of X G a_stays_left
 obtain ⟨fd_tidied,F_tidied⟩:=F_tidied
 have b_tidied:=F_tidied.binds (ps:=["net","plan","asked"]) fun _ _ _ _ _ _ us hl=>us3 us hl (fun _ _ _=>rfl)
 have m_tidied:=PySem.W.mg_of X G a_tidied
 obtain ⟨fd_fault_of_do,F_fault_of_do⟩:=F_fault_of_do
 have b_fault_of_do:=F_fault_of_do.binds (ps:=["net","rooms","stand","work"]) fun _ _ _ _ _ _ us hl=>us4 us hl (fun _ _ _ _=>rfl)
 have m_fault_of_do:=PySem.W.mg_of X G a_fault_of_do
 obtain ⟨fd_fault_of,F_fault_of⟩:=F_fault_of
 have b_fault_of:=F_fault_of.binds (ps:=["net","rooms","stand","move"]) fun _ _ _ _ _ _ us hl=>us4 us hl (fun _ _ _ _=>rfl)
 have m_fault_of:=PySem.W.mg_of X G a_fault_of
 obtain ⟨fd_stand_behind,F_stand_behind⟩:=F_stand_behind
 have b_stand_behind:=F_stand_behind.binds (ps:=["stand","move"]) fun _ _ _ _ _ _ us hl=>us2 us hl (fun _ _=>rfl)
 have m_stand_behind:=PySem.W.mg_of X G a_stand_behind
 obtain ⟨fd_has_all,F_has_all⟩:=F_has_all
 have b_has_all:=F_has_all.binds (ps:=["results","works"]) fun _ _ _ _ _ _ us hl=>us2 us hl (fun _ _=>rfl)
 have m_has_all:=PySem.W.mg_of X G a_has_all
 obtain ⟨fd_played,F_played⟩:=F_played
 have b_played:=F_played.binds (ps:=["net","rooms","plan"]) fun _ _ _ _ _ _ us hl=>us3 us hl (fun _ _ _=>rfl)
 have m_played:=PySem.W.mg_of X G a_played
 obtain ⟨fd_does,F_does⟩:=F_does
 have b_does:=F_does.binds (ps:=["net","rooms","plan","asked"]) fun _ _ _ _ _ _ us hl=>us4 us hl (fun _ _ _ _=>rfl)
 have m_does:=PySem.W.mg_of X G a_does
 obtain ⟨fd_Lbegin,F_Lbegin⟩:=F_Lbegin
 have b_Lbegin:=F_Lbegin.binds (ps:=["_law_script"]) fun _ _ _ _ _ _ us hl=>us1 us hl (fun _=>rfl)
 have m_Lbegin:=PySem.W.mg_of X G a_Lbegin
 obtain ⟨fd_Ltake,F_Ltake⟩:=F_Ltake
 have b_Ltake:=F_Ltake.binds (ps:=["_law_state","_law_many"]) fun _ _ _ _ _ _ us hl=>us2 us hl (fun _ _=>rfl)
 have m_Ltake:=PySem.W.mg_of X G a_Ltake
 obtain ⟨fd_Lsome_needs,F_Lsome_needs⟩:=F_Lsome_needs
 have b_Lsome_needs:=F_Lsome_needs.binds (ps:=["_law_state","_law_k"]) fun _ _ _ _ _ _ us hl=>us2 us hl (fun _ _=>rfl)
 have m_Lsome_needs:=PySem.W.mg_of X G a_Lsome_needs
 obtain ⟨fd_Ltree_net,F_Ltree_net⟩:=F_Ltree_net
 have b_Ltree_net:=F_Ltree_net.binds (ps:=["_law_state","_law_many"]) fun _ _ _ _ _ _ us hl=>us2 us hl (fun _ _=>rfl)
 have m_Ltree_net:=PySem.W.mg_of X G a_Ltree_net
 obtain ⟨fd_Lnet,F_Lnet⟩:=F_Lnet
 have b_Lnet:=F_Lnet.binds (ps:=["_law_state","_law_many"]) fun _ _ _ _ _ _ us hl=>us2 us hl (fun _ _=>rfl)
 have m_Lnet:=PySem.W.mg_of X G a_Lnet
 obtain ⟨fd_Lasked,F_Lasked⟩:=F_Lasked
 have b_Lasked:=F_Lasked.binds (ps:=["_law_state","_law_net_here"]) fun _ _ _ _ _ _ us hl=>us2 us hl (fun _ _=>rfl)
 have m_Lasked:=PySem.W.mg_of X G a_Lasked
 obtain ⟨fd_Lneeded,F_Lneeded⟩:=F_Lneeded
 have b_Lneeded:=F_Lneeded.binds (ps:=["_law_net_here","_law_asked_here"]) fun _ _ _ _ _ _ us hl=>us2 us hl (fun _ _=>rfl)
 have m_Lneeded:=PySem.W.mg_of X G a_Lneeded
 obtain ⟨fd_Lword,F_Lword⟩:=F_Lword
 have b_Lword:=F_Lword.binds (ps:=["_law_net_here","_law_rooms","_law_stand","_law_move"]) fun _ _ _ _ _ _ us hl=>us4 us hl (fun _ _ _ _=>rfl)
 have m_Lword:=PySem.W.mg_of X G a_Lword
 obtain ⟨fd_Lbehind,F_Lbehind⟩:=F_Lbehind
 have b_Lbehind:=F_Lbehind.binds (ps:=["_law_stand","_law_move"]) fun _ _ _ _ _ _ us hl=>us2 us hl (fun _ _=>rfl)
 have m_Lbehind:=PySem.W.mg_of X G a_Lbehind
 obtain ⟨fd_Lplayed,F_Lplayed⟩:=F_Lplayed
 have b_Lplayed:=F_Lplayed.binds (ps:=["_law_net_here","_law_rooms","_law_plan"]) fun _ _ _ _ _ _ us hl=>us3 us hl (fun _ _ _=>rfl)
 have m_Lplayed:=PySem.W.mg_of X G a_Lplayed
 obtain ⟨fd_Lnext_work,F_Lnext_work⟩:=F_Lnext_work
 have b_Lnext_work:=F_Lnext_work.binds (ps:=["_law_state","_law_net_here","_law_stand"]) fun _ _ _ _ _ _ us hl=>us3 us hl (fun _ _ _=>rfl)
 have m_Lnext_work:=PySem.W.mg_of X G a_Lnext_work
 obtain ⟨fd_Lwalk,F_Lwalk⟩:=F_Lwalk
 have b_Lwalk:=F_Lwalk.binds (ps:=["_law_state","_law_net_here","_law_rooms","_law_many"]) fun _ _ _ _ _ _ us hl=>us4 us hl (fun _ _ _ _=>rfl)
 have m_Lwalk:=PySem.W.mg_of X G a_Lwalk
 obtain ⟨fd_Lspare,F_Lspare⟩:=F_Lspare
 have b_Lspare:=F_Lspare.binds (ps:=["_law_net_here","_law_asked_here","_law_wanted","_law_stand"]) fun _ _ _ _ _ _ us hl=>us4 us hl (fun _ _ _ _=>rfl)
 have m_Lspare:=PySem.W.mg_of X G a_Lspare
 obtain ⟨fd_Ldoing,F_Ldoing⟩:=F_Ldoing
 have b_Ldoing:=F_Ldoing.binds (ps:=["_law_state","_law_net_here","_law_asked_here","_law_many"]) fun _ _ _ _ _ _ us hl=>us4 us hl (fun _ _ _ _=>rfl)
 have m_Ldoing:=PySem.W.mg_of X G a_Ldoing
 obtain ⟨fd_Lmost,F_Lmost⟩:=F_Lmost
 have b_Lmost:=F_Lmost.binds (ps:=["_law_net_here","_law_plan"]) fun _ _ _ _ _ _ us hl=>us2 us hl (fun _ _=>rfl)
 have m_Lmost:=PySem.W.mg_of X G a_Lmost
 obtain ⟨fd_Lsteps,F_Lsteps⟩:=F_Lsteps
 have b_Lsteps:=F_Lsteps.binds (ps:=["_law_plan"]) fun _ _ _ _ _ _ us hl=>us1 us hl (fun _=>rfl)
 have m_Lsteps:=PySem.W.mg_of X G a_Lsteps
 obtain ⟨fd_Lstays,F_Lstays⟩:=F_Lstays
 have b_Lstays:=F_Lstays.binds (ps:=["_law_plan"]) fun _ _ _ _ _ _ us hl=>us1 us hl (fun _=>rfl)
 have m_Lstays:=PySem.W.mg_of X G a_Lstays
 obtain ⟨fd_Lneeding,F_Lneeding⟩:=F_Lneeding
 have b_Lneeding:=F_Lneeding.binds (ps:=["_law_net_here","_law_plan","_law_stay"]) fun _ _ _ _ _ _ us hl=>us3 us hl (fun _ _ _=>rfl)
 have m_Lneeding:=PySem.W.mg_of X G a_Lneeding
 obtain ⟨fd_Lcase,F_Lcase⟩:=F_Lcase
 have b_Lcase:=F_Lcase.binds (ps:=["_law_state"]) fun _ _ _ _ _ _ us hl=>us1 us hl (fun _=>rfl)
 have m_Lcase:=PySem.W.mg_of X G a_Lcase
 obtain ⟨fd_Lcleared_right,F_Lcleared_right⟩:=F_Lcleared_right
 have b_Lcleared_right:=F_Lcleared_right.binds (ps:=["_law_net_here","_law_plan","_law_asked_here"]) fun _ _ _ _ _ _ us hl=>us3 us hl (fun _ _ _=>rfl)
 have m_Lcleared_right:=PySem.W.mg_of X G a_Lcleared_right
 obtain ⟨fd_Lsome_of,F_Lsome_of⟩:=F_Lsome_of
 have b_Lsome_of:=F_Lsome_of.binds (ps:=["_law_less","_law_more"]) fun _ _ _ _ _ _ us hl=>us2 us hl (fun _ _=>rfl)
 have m_Lsome_of:=PySem.W.mg_of X G a_Lsome_of
 obtain ⟨fd_Lidle_put_in,F_Lidle_put_in⟩:=F_Lidle_put_in
 have b_Lidle_put_in:=F_Lidle_put_in.binds (ps:=["_law_state","_law_net_here","_law_plan"]) fun _ _ _ _ _ _ us hl=>us3 us hl (fun _ _ _=>rfl)
 have m_Lidle_put_in:=PySem.W.mg_of X G a_Lidle_put_in
 have F_law:=fun_mk (st:=s_law) l_law c_law k_law
 have m_Barred:=PySem.W.mg_of X G a_Barred
 have x_Barred:XCls K c_Barred (some (.ref f_init_Barred)):=⟨xc_Barred,xs_Barred,xk_Barred⟩
 have zz_all:=PySem.W.mg_none_of X G z_all
 have zz_any:=PySem.W.mg_none_of X G z_any
 have zz_divmod:=PySem.W.mg_none_of X G z_divmod
 have zz_enumerate:=PySem.W.mg_none_of X G z_enumerate
 have zz_int:=PySem.W.mg_none_of X G z_int
 have zz_len:=PySem.W.mg_none_of X G z_len
 have zz_list:=PySem.W.mg_none_of X G z_list
 have zz_max:=PySem.W.mg_none_of X G z_max
 have zz_min:=PySem.W.mg_none_of X G z_min
 have zz_range:=PySem.W.mg_none_of X G z_range
 have zz_reversed:=PySem.W.mg_none_of X G z_reversed
 have zz_set:=PySem.W.mg_none_of X G z_set
 have zz_sorted:=PySem.W.mg_none_of X G z_sorted
 have zz_tuple:=PySem.W.mg_none_of X G z_tuple
 refine ⟨PySem.W.fnOf "law" "law" (defArgs s_law) (defBody s_law) (defScope s_law) .none kV_law dc_law pm_law an_law cd_law ct_law,fun s v=>.of_eq rfl,fun base _ _=>?_⟩
 have G_init_Barred:=ok_init_Barred (P:=l.prog) (w:=w) (mg:=mg) (base:=base) (F:=F_init_Barred) (x_Barred:=x_Barred) (n_move:=n_move) (n_word:=n_word)
 have C_stays_of:=Clb.mk (ok_stays_of (P:=l.prog) (w:=w) (mg:=mg) (base:=base) (F:=F_stays_of) (z_enumerate:=zz_enumerate)) b_stays_of F_stays_of.kp m_stays_of
 have C_stays_left:=Clb.mk (ok_stays_left (P:=l.prog) (w:=w) (mg:=mg) (base:=base) (F:=F_stays_left) (z_list:=zz_list) (z_reversed:=zz_reversed)) b_stays_left F_stays_left.kp m_stays_left
 have C_tidied:=Clb.mk (ok_tidied (P:=l.prog) (w:=w) (mg:=mg) (base:=base) (F:=F_tidied) (C_stays_of:=C_stays_of) (C_stays_left:=C_stays_left)) b_tidied F_tidied.kp m_tidied
 have C_fault_of_do:=Clb.mk (ok_fault_of_do (P:=l.prog) (w:=w) (mg:=mg) (base:=base) (F:=F_fault_of_do) (z_len:=zz_len)) b_fault_of_do F_fault_of_do.kp m_fault_of_do
 have C_fault_of:=Clb.mk (ok_fault_of (P:=l.prog) (w:=w) (mg:=mg) (base:=base) (F:=F_fault_of) (C_fault_of_do:=C_fault_of_do)) b_fault_of F_fault_of.kp m_fault_of
 have C_stand_behind:=Clb.mk (ok_stand_behind (P:=l.prog) (w:=w) (mg:=mg) (base:=base) (F:=F_stand_behind) (z_sorted:=zz_sorted) (z_tuple:=zz_tuple)) b_stand_behind F_stand_behind.kp m_stand_behind
 have C_has_all:=Clb.mk (ok_has_all (P:=l.prog) (w:=w) (mg:=mg) (base:=base) (F:=F_has_all) (z_all:=zz_all)) b_has_all F_has_all.kp m_has_all
 have G_played:=ok_played (P:=l.prog) (w:=w) (mg:=mg) (base:=base) (F:=F_played) (C_fault_of:=C_fault_of) (C_stand_behind:=C_stand_behind) (z_enumerate:=zz_enumerate) (G_init_Barred:=G_init_Barred) (b_init_Barred:=b_init_Barred) (x_Barred:=x_Barred) (fi_Barred:=fi_Barred) (m_Barred:=m_Barred)
 have C_does:=Clb.mk (ok_does (P:=l.prog) (w:=w) (mg:=mg) (base:=base) (F:=F_does) (G_played:=G_played) (b_played:=b_played) (k_played:=F_played.kp) (m_played:=m_played) (C_has_all:=C_has_all) (em_Barred:=em_Barred) (m_Barred:=m_Barred)) b_does F_does.kp m_does
 have C_Lbegin:=Clb.mk (ok_Lbegin (P:=l.prog) (w:=w) (mg:=mg) (base:=base) (F:=F_Lbegin) (z_list:=zz_list)) b_Lbegin F_Lbegin.kp m_Lbegin
 have C_Ltake:=Clb.mk (ok_Ltake (P:=l.prog) (w:=w) (mg:=mg) (base:=base) (F:=F_Ltake) (z_divmod:=zz_divmod) (z_len:=zz_len)) b_Ltake F_Ltake.kp m_Ltake
 have C_Lsome_needs:=Clb.mk (ok_Lsome_needs (P:=l.prog) (w:=w) (mg:=mg) (base:=base) (F:=F_Lsome_needs) (C_Ltake:=C_Ltake) (z_min:=zz_min) (z_range:=zz_range) (z_set:=zz_set) (z_sorted:=zz_sorted) (z_tuple:=zz_tuple)) b_Lsome_needs F_Lsome_needs.kp m_Lsome_needs
 have C_Ltree_net:=Clb.mk (ok_Ltree_net (P:=l.prog) (w:=w) (mg:=mg) (base:=base) (F:=F_Ltree_net) (C_Ltake:=C_Ltake) (z_len:=zz_len) (z_min:=zz_min) (z_range:=zz_range) (z_tuple:=zz_tuple)) b_Ltree_net F_Ltree_net.kp m_Ltree_net
 have C_Lnet:=Clb.mk (ok_Lnet (P:=l.prog) (w:=w) (mg:=mg) (base:=base) (F:=F_Lnet) (C_Ltake:=C_Ltake) (C_Ltree_net:=C_Ltree_net) (C_Lsome_needs:=C_Lsome_needs) (z_enumerate:=zz_enumerate) (z_int:=zz_int) (z_max:=zz_max) (z_range:=zz_range) (z_set:=zz_set) (z_sorted:=zz_sorted) (z_tuple:=zz_tuple)) b_Lnet F_Lnet.kp m_Lnet
 have C_Lasked:=Clb.mk (ok_Lasked (P:=l.prog) (w:=w) (mg:=mg) (base:=base) (F:=F_Lasked) (C_Ltake:=C_Ltake) (z_len:=zz_len) (z_min:=zz_min) (z_range:=zz_range) (z_set:=zz_set) (z_sorted:=zz_sorted) (z_tuple:=zz_tuple)) b_Lasked F_Lasked.kp m_Lasked
 have C_Lneeded:=Clb.mk (ok_Lneeded (P:=l.prog) (w:=w) (mg:=mg) (base:=base) (F:=F_Lneeded) (z_len:=zz_len) (z_range:=zz_range)) b_Lneeded F_Lneeded.kp m_Lneeded
 have C_Lword:=Clb.mk (ok_Lword (P:=l.prog) (w:=w) (mg:=mg) (base:=base) (F:=F_Lword) (z_all:=zz_all) (z_len:=zz_len)) b_Lword F_Lword.kp m_Lword
 have C_Lbehind:=Clb.mk (ok_Lbehind (P:=l.prog) (w:=w) (mg:=mg) (base:=base) (F:=F_Lbehind) (z_sorted:=zz_sorted) (z_tuple:=zz_tuple)) b_Lbehind F_Lbehind.kp m_Lbehind
 have C_Lplayed:=Clb.mk (ok_Lplayed (P:=l.prog) (w:=w) (mg:=mg) (base:=base) (F:=F_Lplayed) (C_Lword:=C_Lword) (C_Lbehind:=C_Lbehind)) b_Lplayed F_Lplayed.kp m_Lplayed
 have C_Lnext_work:=Clb.mk (ok_Lnext_work (P:=l.prog) (w:=w) (mg:=mg) (base:=base) (F:=F_Lnext_work) (C_Ltake:=C_Ltake) (z_len:=zz_len)) b_Lnext_work F_Lnext_work.kp m_Lnext_work
 have C_Lwalk:=Clb.mk (ok_Lwalk (P:=l.prog) (w:=w) (mg:=mg) (base:=base) (F:=F_Lwalk) (C_Lnext_work:=C_Lnext_work) (C_Ltake:=C_Ltake) (C_Lbehind:=C_Lbehind) (z_len:=zz_len) (z_range:=zz_range)) b_Lwalk F_Lwalk.kp m_Lwalk
 have C_Lspare:=Clb.mk (ok_Lspare (P:=l.prog) (w:=w) (mg:=mg) (base:=base) (F:=F_Lspare) (z_any:=zz_any)) b_Lspare F_Lspare.kp m_Lspare
 have C_Ldoing:=Clb.mk (ok_Ldoing (P:=l.prog) (w:=w) (mg:=mg) (base:=base) (F:=F_Ldoing) (C_Lwalk:=C_Lwalk) (C_Lneeded:=C_Lneeded) (C_Lbehind:=C_Lbehind) (C_Lspare:=C_Lspare) (C_Ltake:=C_Ltake) (z_enumerate:=zz_enumerate) (z_len:=zz_len)) b_Ldoing F_Ldoing.kp m_Ldoing
 have C_Lmost:=Clb.mk (ok_Lmost (P:=l.prog) (w:=w) (mg:=mg) (base:=base) (F:=F_Lmost) (C_Lplayed:=C_Lplayed) (z_len:=zz_len) (z_max:=zz_max)) b_Lmost F_Lmost.kp m_Lmost
 have C_Lsteps:=Clb.mk (ok_Lsteps (P:=l.prog) (w:=w) (mg:=mg) (base:=base) (F:=F_Lsteps) (z_len:=zz_len)) b_Lsteps F_Lsteps.kp m_Lsteps
 have C_Lstays:=Clb.mk (ok_Lstays (P:=l.prog) (w:=w) (mg:=mg) (base:=base) (F:=F_Lstays) (z_enumerate:=zz_enumerate) (z_len:=zz_len) (z_range:=zz_range)) b_Lstays F_Lstays.kp m_Lstays
 have C_Lneeding:=Clb.mk (ok_Lneeding (P:=l.prog) (w:=w) (mg:=mg) (base:=base) (F:=F_Lneeding) (z_range:=zz_range)) b_Lneeding F_Lneeding.kp m_Lneeding
 have C_Lcase:=Clb.mk (ok_Lcase (P:=l.prog) (w:=w) (mg:=mg) (base:=base) (F:=F_Lcase) (C_Ltake:=C_Ltake) (C_Lnet:=C_Lnet) (C_Lasked:=C_Lasked)) b_Lcase F_Lcase.kp m_Lcase
 have C_Lcleared_right:=Clb.mk (ok_Lcleared_right (P:=l.prog) (w:=w) (mg:=mg) (base:=base) (F:=F_Lcleared_right) (C_Lstays:=C_Lstays) (C_Lneeding:=C_Lneeding) (z_any:=zz_any) (z_len:=zz_len) (z_sorted:=zz_sorted)) b_Lcleared_right F_Lcleared_right.kp m_Lcleared_right
 have C_Lsome_of:=Clb.mk (ok_Lsome_of (P:=l.prog) (w:=w) (mg:=mg) (base:=base) (F:=F_Lsome_of) (z_len:=zz_len)) b_Lsome_of F_Lsome_of.kp m_Lsome_of
 have C_Lidle_put_in:=Clb.mk (ok_Lidle_put_in (P:=l.prog) (w:=w) (mg:=mg) (base:=base) (F:=F_Lidle_put_in) (C_Ltake:=C_Ltake) (C_Lplayed:=C_Lplayed) (C_Lword:=C_Lword) (z_len:=zz_len) (z_range:=zz_range)) b_Lidle_put_in F_Lidle_put_in.kp m_Lidle_put_in
 exact ok_law (P:=l.prog) (w:=w) (mg:=mg) (base:=base) (F:=F_law) (C_Lbegin:=C_Lbegin) (C_Ltake:=C_Ltake) (C_Lcase:=C_Lcase) (C_Ldoing:=C_Ldoing) (C_tidied:=C_tidied) (C_Lplayed:=C_Lplayed) (C_Lmost:=C_Lmost) (C_does:=C_does) (C_Lcleared_right:=C_Lcleared_right) (C_Lsteps:=C_Lsteps) (C_Lsome_of:=C_Lsome_of) (C_Lidle_put_in:=C_Lidle_put_in) (z_int:=zz_int) (z_range:=zz_range)
theorem walk {l:PySem.W.OpenLaw} {q:Program} {loose:List Str} {XP:(Str→Option Value)→Heap→Prop} {YP:World→Heap→Prop} {d:DefRec} {K:Params→PySem.W.Frag} (hn:l.most=some 63) (hdf:d.params.defaults=[])
  (hY:∀ (w:World) (h:Heap),YP w h→(K w.params).In h)
  (F:∀ (w:World) (mg:Str→Option Value) (fa:Addr) (h:Heap),(K w.params).In h→h.Ns mainGlobals mg→mg d.name=some (.ref fa)→
   ∃ fd:FuncData,(∀ (s:Shared) (u:Value),BindsTo s fd ⟨[u],[]⟩ [("_law_script",u)])∧∀ base:Heap,(K w.params).In base→base.Ns mainGlobals mg→FnOk l.prog w (K w.params) mg base CX0 5 fa fd ["_law_script"] (spLaw (K w.params))) :
  PySem.W.WalkO q loose XP YP l.row.toRowW d [] (fun f vs=>PySem.call f vs):=
 L2.walk_of (n:=63) (k:=5) (x:="_law_script") (CX:=fun _=>CX0) (sp:=fun w=>spLaw (K w.params)) hn (by decide) hdf ⟨rfl,by decide,by decide,rfl⟩ hY F (fun _ _ a ns hl _ hS=>⟨a,ns,rfl,hS,hl,fun _=>rfl⟩) fun _ _ _ _ _ z=>z
end Fw
open PySem PySem.W PyProof.Rows
set_option maxRecDepth 100000 in
set_option maxHeartbeats 0 in
theorem PySem.Challenge.cw_fewrooms_k18_what_tidied_keeps_holds : PySem.Challenge.rw_fewrooms_k18_what_tidied_keeps.Holds := by
 w_on;refine holds_law Fw.hpSaid fun said=>?_
 refine holds_open (q:=Fw.hpQ) (Xt:=Fw.hpX) (XP:=XL Fw.hpQ []) (YP:=(kHook Fw.hpK Fw.hpA Fw.hpE).says)
  Fw.hpLeft (kHook Fw.hpK Fw.hpA Fw.hpE).of (kHook Fw.hpK Fw.hpA Fw.hpE).keeps (fun s e=>xl_of s (Bool.and_eq_true_iff.mp e).1) XL.keeps
  (by rfl) (by rfl) (by rfl) (fun s e=>recFacts_of (Bool.and_eq_true_iff.mp e).2) (by rfl)
  (by first | assumption | decide +kernel) (by decide +kernel) ⟨rfl,rfl,rfl,rfl,rfl,by decide +kernel⟩ ?hw ?hc
 case hw=>w_witness2
 k_fill
 refine Fw.walk (l:=PySem.Challenge.rw_fewrooms_k18_what_tidied_keeps) rfl rfl (fun w h Y=>PySem.W.kIn_of Y) ?F
 case F=>
  intro w mg fa h KX G hmg
  refine' Fw.all_mk KX G hmg ?a_Barred ?a_init_Barred ?l_init_Barred ?c_init_Barred ?k_init_Barred ?a_stays_of ?F_stays_of ?a_stays_left ?F_stays_left ?a_tidied ?F_tidied ?a_fault_of_do ?F_fault_of_do ?a_fault_of ?F_fault_of ?a_stand_behind ?F_stand_behind ?a_has_all ?F_has_all ?a_played ?F_played ?a_does ?F_does ?a_Lbegin ?F_Lbegin ?a_Ltake ?F_Ltake ?a_Lsome_needs ?F_Lsome_needs ?a_Ltree_net ?F_Ltree_net ?a_Lnet ?F_Lnet ?a_Lasked ?F_Lasked ?a_Lneeded ?F_Lneeded ?a_Lword ?F_Lword ?a_Lbehind ?F_Lbehind ?a_Lplayed ?F_Lplayed ?a_Lnext_work ?F_Lnext_work ?a_Lwalk ?F_Lwalk ?a_Lspare ?F_Lspare ?a_Ldoing ?F_Ldoing ?a_Lmost ?F_Lmost ?a_Lsteps ?F_Lsteps ?a_Lstays ?F_Lstays ?a_Lneeding ?F_Lneeding ?a_Lcase ?F_Lcase ?a_Lcleared_right ?F_Lcleared_right ?a_Lsome_of ?F_Lsome_of ?a_Lidle_put_in ?F_Lidle_put_in ?a_law ?l_law ?c_law ?k_law ?xc_Barred ?xs_Barred ?xk_Barred ?fi_Barred ?n_move ?n_word ?em_Barred ?z_all ?z_any ?z_divmod ?z_enumerate ?z_int ?z_len ?z_list ?z_max ?z_min ?z_range ?z_reversed ?z_set ?z_sorted ?z_tuple
  (case a_Barred=>k_is)
  (case a_init_Barred=>k_is)
  (case l_init_Barred=>k_is)
  (case c_init_Barred=>k_is)
  (case k_init_Barred=>k_is)
  (case a_stays_of=>k_is)
  (case F_stays_of=>exact ⟨_,L2.fun_mk (by k_is) (by k_is) (by k_is)⟩)
  (case a_stays_left=>k_is)
  (case F_stays_left=>exact ⟨_,L2.fun_mk (by k_is) (by k_is) (by k_is)⟩)
  (case a_tidied=>k_is)
  (case F_tidied=>exact ⟨_,L2.fun_mk (by k_is) (by k_is) (by k_is)⟩)
  (case a_fault_of_do=>k_is)
  (case F_fault_of_do=>exact ⟨_,L2.fun_mk (by k_is) (by k_is) (by k_is)⟩)
  (case a_fault_of=>k_is)
  (case F_fault_of=>exact ⟨_,L2.fun_mk (by k_is) (by k_is) (by k_is)⟩)
  (case a_stand_behind=>k_is)
  (case F_stand_behind=>exact ⟨_,L2.fun_mk (by k_is) (by k_is) (by k_is)⟩)
  (case a_has_all=>k_is)
  (case F_has_all=>exact ⟨_,L2.fun_mk (by k_is) (by k_is) (by k_is)⟩)
  (case a_played=>k_is)
  (case F_played=>exact ⟨_,L2.fun_mk (by k_is) (by k_is) (by k_is)⟩)
  (case a_does=>k_is)
  (case F_does=>exact ⟨_,L2.fun_mk (by k_is) (by k_is) (by k_is)⟩)
  (case a_Lbegin=>k_is)
  (case F_Lbegin=>exact ⟨_,L2.fun_mk (by k_is) (by k_is) (by k_is)⟩)
  (case a_Ltake=>k_is)
  (case F_Ltake=>exact ⟨_,L2.fun_mk (by k_is) (by k_is) (by k_is)⟩)
  (case a_Lsome_needs=>k_is)
  (case F_Lsome_needs=>exact ⟨_,L2.fun_mk (by k_is) (by k_is) (by k_is)⟩)
  (case a_Ltree_net=>k_is)
  (case F_Ltree_net=>exact ⟨_,L2.fun_mk (by k_is) (by k_is) (by k_is)⟩)
  (case a_Lnet=>k_is)
  (case F_Lnet=>exact ⟨_,L2.fun_mk (by k_is) (by k_is) (by k_is)⟩)
  (case a_Lasked=>k_is)
  (case F_Lasked=>exact ⟨_,L2.fun_mk (by k_is) (by k_is) (by k_is)⟩)
  (case a_Lneeded=>k_is)
  (case F_Lneeded=>exact ⟨_,L2.fun_mk (by k_is) (by k_is) (by k_is)⟩)
  (case a_Lword=>k_is)
  (case F_Lword=>exact ⟨_,L2.fun_mk (by k_is) (by k_is) (by k_is)⟩)
  (case a_Lbehind=>k_is)
  (case F_Lbehind=>exact ⟨_,L2.fun_mk (by k_is) (by k_is) (by k_is)⟩)
  (case a_Lplayed=>k_is)
  (case F_Lplayed=>exact ⟨_,L2.fun_mk (by k_is) (by k_is) (by k_is)⟩)
  (case a_Lnext_work=>k_is)
  (case F_Lnext_work=>exact ⟨_,L2.fun_mk (by k_is) (by k_is) (by k_is)⟩)
  (case a_Lwalk=>k_is)
  (case F_Lwalk=>exact ⟨_,L2.fun_mk (by k_is) (by k_is) (by k_is)⟩)
  (case a_Lspare=>k_is)
  (case F_Lspare=>exact ⟨_,L2.fun_mk (by k_is) (by k_is) (by k_is)⟩)
  (case a_Ldoing=>k_is)
  (case F_Ldoing=>exact ⟨_,L2.fun_mk (by k_is) (by k_is) (by k_is)⟩)
  (case a_Lmost=>k_is)
  (case F_Lmost=>exact ⟨_,L2.fun_mk (by k_is) (by k_is) (by k_is)⟩)
  (case a_Lsteps=>k_is)
  (case F_Lsteps=>exact ⟨_,L2.fun_mk (by k_is) (by k_is) (by k_is)⟩)
  (case a_Lstays=>k_is)
  (case F_Lstays=>exact ⟨_,L2.fun_mk (by k_is) (by k_is) (by k_is)⟩)
  (case a_Lneeding=>k_is)
  (case F_Lneeding=>exact ⟨_,L2.fun_mk (by k_is) (by k_is) (by k_is)⟩)
  (case a_Lcase=>k_is)
  (case F_Lcase=>exact ⟨_,L2.fun_mk (by k_is) (by k_is) (by k_is)⟩)
  (case a_Lcleared_right=>k_is)
  (case F_Lcleared_right=>exact ⟨_,L2.fun_mk (by k_is) (by k_is) (by k_is)⟩)
  (case a_Lsome_of=>k_is)
  (case F_Lsome_of=>exact ⟨_,L2.fun_mk (by k_is) (by k_is) (by k_is)⟩)
  (case a_Lidle_put_in=>k_is)
  (case F_Lidle_put_in=>exact ⟨_,L2.fun_mk (by k_is) (by k_is) (by k_is)⟩)
  (case a_law=>k_is)
  (case l_law=>k_is)
  (case c_law=>k_is)
  (case k_law=>k_is)
  (case xc_Barred=>kernel_rfl)
  (case xs_Barred=>k_is)
  (case xk_Barred=>k_is)
  (case fi_Barred=>k_is)
  (case n_move=>k_is)
  (case n_word=>k_is)
  (case em_Barred=>kernel_rfl)
  (case z_all=>k_is)
  (case z_any=>k_is)
  (case z_divmod=>k_is)
  (case z_enumerate=>k_is)
  (case z_int=>k_is)
  (case z_len=>k_is)
  (case z_list=>k_is)
  (case z_max=>k_is)
  (case z_min=>k_is)
  (case z_range=>k_is)
  (case z_reversed=>k_is)
  (case z_set=>k_is)
  (case z_sorted=>k_is)
  (case z_tuple=>k_is)

