import PyProof.Rows.All
import Wide.All
import OpenK.AllK
import Wide.FinOn
import Lean
import PyProof.EqAt
import PyProof.EqKinds
import PyProof.TupleCall
import PySem.Challenge.RW_fewrooms_k16_what_does_asked
set_option Elab.async false
set_option linter.all false
set_option maxRecDepth 100000
set_option maxHeartbeats 0
namespace Fw
open PySem
def inCl (s:Stmt) (j:Nat):Stmt:=match s with
 | .ClassDef _ _ _ body _ _ _ _ _ _ _=>body.getD j (.Pass ⟨0,0,0,0⟩)
 | _=>.Pass ⟨0,0,0,0⟩
def top (i:Nat):Stmt:=PySem.Challenge.pw_fewrooms_k16_what_does_asked.main.body.getD i (.Pass ⟨0,0,0,0⟩)
abbrev s_fault_of_do:Stmt:=top 4
abbrev s_fault_of:Stmt:=top 5
abbrev s_stand_behind:Stmt:=top 6
abbrev s_has_all:Stmt:=top 7
abbrev s_played:Stmt:=top 9
abbrev s_does:Stmt:=top 10
abbrev s_Lbegin:Stmt:=top 12
abbrev s_Ltake:Stmt:=top 13
abbrev s_Lsome_needs:Stmt:=top 14
abbrev s_Ltree_net:Stmt:=top 15
abbrev s_Lnet:Stmt:=top 16
abbrev s_Lasked:Stmt:=top 17
abbrev s_Lneeded:Stmt:=top 18
abbrev s_Lword:Stmt:=top 19
abbrev s_Lbehind:Stmt:=top 20
abbrev s_Lplayed:Stmt:=top 21
abbrev s_Lnext_work:Stmt:=top 22
abbrev s_Lwalk:Stmt:=top 23
abbrev s_Lspare:Stmt:=top 24
abbrev s_Ldoing:Stmt:=top 25
abbrev s_Lmost:Stmt:=top 26
abbrev s_Lcase:Stmt:=top 27
abbrev s_Ltold:Stmt:=top 28
abbrev s_Lbent:Stmt:=top 29
abbrev s_law:Stmt:=top 30
abbrev s_init_Barred:Stmt:=inCl (top 2) 0
end Fw
set_option maxHeartbeats 0
namespace Fw
open PySem
def dA (s:Stmt):Arguments:=match s with
 | .FunctionDef _ a _ _ _ _ _ _ _ _=>a
 | _=>{ posonlyargs:=[],args:=[],vararg:=none,kwonlyargs:=[],kw_defaults:=[],kwarg:=none,defaults:=[] }
def dB (s:Stmt):List Stmt:=match s with
 | .FunctionDef _ _ b _ _ _ _ _ _ _=>b
 | _=>[]
def dS (s:Stmt):Scope:=match s with
 | .FunctionDef _ _ _ _ _ _ sc _ _ _=>sc
 | _=>{ kind:=.function,names:=[],isGenerator:=false,isCoroutine:=false }
abbrev so (s:String):Str:=PySem.Str.ofString s
abbrev kh (P:Params) (s:Str):Int:=PySem.PyData.keyHash P s
abbrev hde (P:Params) (s:String) (n:Nat) (v:Value):DictEntry:=⟨kh P (so s),.str (so s) n,v⟩
abbrev hvs (s:String) (n:Nat):Value:=.str (so s) n
abbrev hcut (n:Nat):Value:=hvs "/claim/cut.py" n
abbrev hfd (x q:String) (s:Stmt) (a b c d:Value) (e:Option Addr) (f g:Value) (i:Addr):FuncData:=⟨so x,so q,dA s,.stmts (dB s),dS s,3,[],a,b,c,d,e,f,g,i⟩
abbrev htp (d:Data) (s:Array (Option Value)):Obj:=⟨.type "tuple",none,d,s⟩
abbrev hcd (d:Data) (s:Array (Option Value)):Obj:=⟨.type "code",none,d,s⟩
abbrev hfn (d:Data) (s:Array (Option Value)):Obj:=⟨.type "function",none,d,s⟩
def hpK:Params→PySem.W.Frag:=fun P=>
 (nat_lit 2,Obj.mk .none .none (.dict #[]) #[]) ::
 (nat_lit 3,Obj.mk (.type "dict") .none (.dict #[hde P "__name__" 165 (hvs "law_fewrooms_k16_what_does_asked" 298),hde P "__doc__" 166 .none,hde P "__package__" 167 .none,hde P "__loader__" 168 (.builtin "__main__.__loader__#opaque"),hde P "__spec__" 169 .none,hde P "__annotations__" 170 (.ref 6),hde P "__builtins__" 171 (.ref 4),hde P "__file__" 173 (hcut 172),hde P "__cached__" 174 .none,hde P "RoomError" 206 (.ref 24),hde P "Barred" 233 (.ref 44),hde P "fault_of_do" 248 (.ref 53),hde P "fault_of" 258 (.ref 60),hde P "stand_behind" 264 (.ref 65),hde P "has_all" 270 (.ref 70),hde P "played" 286 (.ref 77),hde P "does" 297 (.ref 84),hde P "_law_begin" 307 (.ref 91),hde P "_law_take" 320 (.ref 98),hde P "_law_some_needs" 331 (.ref 105),hde P "_law_tree_net" 343 (.ref 112),hde P "_law_net" 349 (.ref 117),hde P "_law_asked" 359 (.ref 124),hde P "_law_needed" 365 (.ref 129),hde P "_law_word" 371 (.ref 134),hde P "_law_behind" 377 (.ref 139),hde P "_law_played" 389 (.ref 146),hde P "_law_next_work" 395 (.ref 151),hde P "_law_walk" 410 (.ref 158),hde P "_law_spare" 416 (.ref 163),hde P "_law_doing" 432 (.ref 170),hde P "_law_most" 438 (.ref 175),hde P "_law_case" 447 (.ref 182),hde P "_law_told" 453 (.ref 187),hde P "_law_bent" 465 (.ref 194),hde P "law" 483 (.ref 201)] 36) #[]) ::
 (nat_lit 15,htp (.seq #[.type "ValueError"]) #[]) ::
 (nat_lit 22,htp (.seq #[]) #[]) ::
 (nat_lit 23,Obj.mk (.type "dict") .none (.dict #[hde P "__module__" 196 (hvs "fewrooms.errors" 187),hde P "__firstlineno__" 200 (.int 2 199),hde P "__static_attributes__" 201 (.ref 22),hde P "__weakref__" 203 (.ref 25),hde P "__doc__" 204 .none] 3) #[]) ::
 (nat_lit 24,Obj.mk (.type "type") .none (.cls (ClassData.mk (so "RoomError") [.type "ValueError"] [.ref 24,.type "ValueError",.type "Exception",.type "BaseException",.type "object"] 23 (so "RoomError") .true [] [.ref 44] .false .none .false)) #[Option.some (.ref 15),.none,Option.some (hvs "RoomError" 189),Option.some (hvs "RoomError" 197),Option.some (.builtin "ValueError.__new__"),Option.some (.bool .true)]) ::
 (nat_lit 25,Obj.mk (.type "getset_descriptor") .none (.fields #[hvs "__weakref__" 202,.ref 24,.builtin "ExceptionGroup.__weakref__",.none]) #[]) ::
 (nat_lit 28,htp (.seq #[.ref 24]) #[]) ::
 (nat_lit 35,htp (.seq #[]) #[]) ::
 (nat_lit 37,htp (.seq #[hvs "self" 222,hvs "move" 223,hvs "word" 224]) #[]) ::
 (nat_lit 38,htp (.seq #[]) #[]) ::
 (nat_lit 40,hcd (.fields #[hvs "__init__" 219,hvs "Barred.__init__" 220,hcut 221,.int 6 0,.int 3 0,.int 0 0,.int 0 0,.int 3 0,.ref 35,.bool .true,.int 181 0,.ref 36,.none,.ref 37,.ref 38,.ref 39,.int 225 0,.int 6 0,hcut 226]) #[]) ::
 (nat_lit 41,hfn (.func (hfd "__init__" "Barred.__init__" s_init_Barred .none .none .none (hvs "fewrooms.errors" 187) .none (.ref 40) .none 0)) #[]) ::
 (nat_lit 42,htp (.seq #[hvs "move" 228,hvs "word" 229]) #[]) ::
 (nat_lit 43,Obj.mk (.type "dict") .none (.dict #[hde P "__module__" 214 (hvs "fewrooms.errors" 187),hde P "__firstlineno__" 218 (.int 4 217),hde P "__init__" 227 (.ref 41),hde P "__static_attributes__" 230 (.ref 42),hde P "__doc__" 231 .none] 2) #[]) ::
 (nat_lit 44,Obj.mk (.type "type") .none (.cls (ClassData.mk (so "Barred") [.ref 24] [.ref 44,.ref 24,.type "ValueError",.type "Exception",.type "BaseException",.type "object"] 43 (so "Barred") .true [] [] .false .none .false)) #[Option.some (.ref 28),.none,Option.some (hvs "Barred" 207),Option.some (hvs "Barred" 215),Option.some (.builtin "ValueError.__new__"),Option.some (.bool .true)]) ::
 (nat_lit 47,htp (.seq #[]) #[]) ::
 (nat_lit 49,htp (.seq #[hvs "net" 239,hvs "rooms" 240,hvs "stand" 241,hvs "work" 242,hvs "there" 243,hvs "result" 244,hvs "need" 245]) #[]) ::
 (nat_lit 50,htp (.seq #[]) #[]) ::
 (nat_lit 52,hcd (.fields #[hvs "fault_of_do" 236,hvs "fault_of_do" 237,hcut 238,.int 10 0,.int 4 0,.int 0 0,.int 0 0,.int 3 0,.ref 47,.bool .true,.int 181 0,.ref 48,.none,.ref 49,.ref 50,.ref 51,.int 246 0,.int 10 0,hcut 247]) #[]) ::
 (nat_lit 53,hfn (.func (hfd "fault_of_do" "fault_of_do" s_fault_of_do .none .none .none (hvs "fewrooms.moves" 234) .none (.ref 52) .none 0)) #[]) ::
 (nat_lit 54,htp (.seq #[]) #[]) ::
 (nat_lit 56,htp (.seq #[hvs "net" 252,hvs "rooms" 253,hvs "stand" 254,hvs "move" 255]) #[]) ::
 (nat_lit 57,htp (.seq #[]) #[]) ::
 (nat_lit 59,hcd (.fields #[hvs "fault_of" 249,hvs "fault_of" 250,hcut 251,.int 22 0,.int 4 0,.int 0 0,.int 0 0,.int 3 0,.ref 54,.bool .true,.int 181 0,.ref 55,.none,.ref 56,.ref 57,.ref 58,.int 256 0,.int 22 0,hcut 257]) #[]) ::
 (nat_lit 60,hfn (.func (hfd "fault_of" "fault_of" s_fault_of .none .none .none (hvs "fewrooms.moves" 234) .none (.ref 59) .none 0)) #[]) ::
 (nat_lit 61,htp (.seq #[]) #[]) ::
 (nat_lit 64,hcd (.fields #[hvs "stand_behind" 259,hvs "stand_behind" 260,hcut 261,.int 28 0,.int 2 0,.int 0 0,.int 0 0,.int 3 0,.ref 61,.bool .true,.int 181 0,.ref 62,.none,.none,.none,.ref 63,.int 262 0,.int 28 0,hcut 263]) #[]) ::
 (nat_lit 65,hfn (.func (hfd "stand_behind" "stand_behind" s_stand_behind .none .none .none (hvs "fewrooms.moves" 234) .none (.ref 64) .none 0)) #[]) ::
 (nat_lit 66,htp (.seq #[]) #[]) ::
 (nat_lit 69,hcd (.fields #[hvs "has_all" 265,hvs "has_all" 266,hcut 267,.int 32 0,.int 2 0,.int 0 0,.int 0 0,.int 3 0,.ref 66,.bool .true,.int 181 0,.ref 67,.none,.none,.none,.ref 68,.int 268 0,.int 32 0,hcut 269]) #[]) ::
 (nat_lit 70,hfn (.func (hfd "has_all" "has_all" s_has_all .none .none .none (hvs "fewrooms.moves" 234) .none (.ref 69) .none 0)) #[]) ::
 (nat_lit 71,htp (.seq #[]) #[]) ::
 (nat_lit 73,htp (.seq #[hvs "net" 276,hvs "rooms" 277,hvs "plan" 278,hvs "stand" 279,hvs "stands" 280,hvs "number" 281,hvs "move" 282,hvs "word" 283]) #[]) ::
 (nat_lit 74,htp (.seq #[]) #[]) ::
 (nat_lit 76,hcd (.fields #[hvs "played" 273,hvs "played" 274,hcut 275,.int 35 0,.int 3 0,.int 0 0,.int 0 0,.int 3 0,.ref 71,.bool .true,.int 181 0,.ref 72,.none,.ref 73,.ref 74,.ref 75,.int 284 0,.int 35 0,hcut 285]) #[]) ::
 (nat_lit 77,hfn (.func (hfd "played" "played" s_played .none .none .none (hvs "fewrooms.plans" 271) .none (.ref 76) .none 0)) #[]) ::
 (nat_lit 78,htp (.seq #[]) #[]) ::
 (nat_lit 80,htp (.seq #[hvs "net" 290,hvs "rooms" 291,hvs "plan" 292,hvs "asked" 293,hvs "stands" 294]) #[]) ::
 (nat_lit 81,htp (.seq #[]) #[]) ::
 (nat_lit 83,hcd (.fields #[hvs "does" 287,hvs "does" 288,hcut 289,.int 45 0,.int 4 0,.int 0 0,.int 0 0,.int 3 0,.ref 78,.bool .true,.int 181 0,.ref 79,.none,.ref 80,.ref 81,.ref 82,.int 295 0,.int 45 0,hcut 296]) #[]) ::
 (nat_lit 84,hfn (.func (hfd "does" "does" s_does .none .none .none (hvs "fewrooms.plans" 271) .none (.ref 83) .none 0)) #[]) ::
 (nat_lit 85,htp (.seq #[]) #[]) ::
 (nat_lit 87,htp (.seq #[hvs "_law_script" 303,hvs "_law_cells" 304]) #[]) ::
 (nat_lit 88,htp (.seq #[]) #[]) ::
 (nat_lit 90,hcd (.fields #[hvs "_law_begin" 300,hvs "_law_begin" 301,hcut 302,.int 52 0,.int 1 0,.int 0 0,.int 0 0,.int 3 0,.ref 85,.bool .true,.int 181 0,.ref 86,.none,.ref 87,.ref 88,.ref 89,.int 305 0,.int 52 0,hcut 306]) #[]) ::
 (nat_lit 91,hfn (.func (hfd "_law_begin" "_law_begin" s_Lbegin .none .none .none (hvs "law_fewrooms_k16_what_does_asked" 298) .none (.ref 90) .none 0)) #[]) ::
 (nat_lit 92,htp (.seq #[]) #[]) ::
 (nat_lit 94,htp (.seq #[hvs "_law_state" 311,hvs "_law_many" 312,hvs "_law_turn" 313,hvs "_law_place" 314,hvs "_law_cell" 315,hvs "_law_digit" 316,hvs "_law_mixed" 317]) #[]) ::
 (nat_lit 95,htp (.seq #[]) #[]) ::
 (nat_lit 97,hcd (.fields #[hvs "_law_take" 308,hvs "_law_take" 309,hcut 310,.int 57 0,.int 2 0,.int 0 0,.int 0 0,.int 3 0,.ref 92,.bool .true,.int 181 0,.ref 93,.none,.ref 94,.ref 95,.ref 96,.int 318 0,.int 57 0,hcut 319]) #[]) ::
 (nat_lit 98,hfn (.func (hfd "_law_take" "_law_take" s_Ltake .none .none .none (hvs "law_fewrooms_k16_what_does_asked" 298) .none (.ref 97) .none 0)) #[]) ::
 (nat_lit 99,htp (.seq #[]) #[]) ::
 (nat_lit 101,htp (.seq #[hvs "_law_state" 324,hvs "_law_k" 325,hvs "_law_found" 326,hvs "_law_turn" 327,hvs "_law_far" 328]) #[]) ::
 (nat_lit 102,htp (.seq #[]) #[]) ::
 (nat_lit 104,hcd (.fields #[hvs "_law_some_needs" 321,hvs "_law_some_needs" 322,hcut 323,.int 68 0,.int 2 0,.int 0 0,.int 0 0,.int 3 0,.ref 99,.bool .true,.int 181 0,.ref 100,.none,.ref 101,.ref 102,.ref 103,.int 329 0,.int 68 0,hcut 330]) #[]) ::
 (nat_lit 105,hfn (.func (hfd "_law_some_needs" "_law_some_needs" s_Lsome_needs .none .none .none (hvs "law_fewrooms_k16_what_does_asked" 298) .none (.ref 104) .none 0)) #[]) ::
 (nat_lit 106,htp (.seq #[]) #[]) ::
 (nat_lit 108,htp (.seq #[hvs "_law_state" 335,hvs "_law_many" 336,hvs "_law_open_ones" 337,hvs "_law_found" 338,hvs "_law_k" 339,hvs "_law_so_many" 340]) #[]) ::
 (nat_lit 109,htp (.seq #[]) #[]) ::
 (nat_lit 111,hcd (.fields #[hvs "_law_tree_net" 332,hvs "_law_tree_net" 333,hcut 334,.int 75 0,.int 2 0,.int 0 0,.int 0 0,.int 3 0,.ref 106,.bool .true,.int 181 0,.ref 107,.none,.ref 108,.ref 109,.ref 110,.int 341 0,.int 75 0,hcut 342]) #[]) ::
 (nat_lit 112,hfn (.func (hfd "_law_tree_net" "_law_tree_net" s_Ltree_net .none .none .none (hvs "law_fewrooms_k16_what_does_asked" 298) .none (.ref 111) .none 0)) #[]) ::
 (nat_lit 113,htp (.seq #[]) #[]) ::
 (nat_lit 116,hcd (.fields #[hvs "_law_net" 344,hvs "_law_net" 345,hcut 346,.int 83 0,.int 2 0,.int 0 0,.int 0 0,.int 3 0,.ref 113,.bool .true,.int 181 0,.ref 114,.none,.none,.none,.ref 115,.int 347 0,.int 83 0,hcut 348]) #[]) ::
 (nat_lit 117,hfn (.func (hfd "_law_net" "_law_net" s_Lnet .none .none .none (hvs "law_fewrooms_k16_what_does_asked" 298) .none (.ref 116) .none 0)) #[]) ::
 (nat_lit 118,htp (.seq #[]) #[]) ::
 (nat_lit 120,htp (.seq #[hvs "_law_state" 353,hvs "_law_net_here" 354,hvs "_law_found" 355,hvs "_law_turn" 356]) #[]) ::
 (nat_lit 121,htp (.seq #[]) #[]) ::
 (nat_lit 123,hcd (.fields #[hvs "_law_asked" 350,hvs "_law_asked" 351,hcut 352,.int 98 0,.int 2 0,.int 0 0,.int 0 0,.int 3 0,.ref 118,.bool .true,.int 181 0,.ref 119,.none,.ref 120,.ref 121,.ref 122,.int 357 0,.int 98 0,hcut 358]) #[]) ::
 (nat_lit 124,hfn (.func (hfd "_law_asked" "_law_asked" s_Lasked .none .none .none (hvs "law_fewrooms_k16_what_does_asked" 298) .none (.ref 123) .none 0)) #[]) ::
 (nat_lit 125,htp (.seq #[]) #[]) ::
 (nat_lit 128,hcd (.fields #[hvs "_law_needed" 360,hvs "_law_needed" 361,hcut 362,.int 103 0,.int 2 0,.int 0 0,.int 0 0,.int 3 0,.ref 125,.bool .true,.int 181 0,.ref 126,.none,.none,.none,.ref 127,.int 363 0,.int 103 0,hcut 364]) #[]) ::
 (nat_lit 129,hfn (.func (hfd "_law_needed" "_law_needed" s_Lneeded .none .none .none (hvs "law_fewrooms_k16_what_does_asked" 298) .none (.ref 128) .none 0)) #[]) ::
 (nat_lit 130,htp (.seq #[]) #[]) ::
 (nat_lit 133,hcd (.fields #[hvs "_law_word" 366,hvs "_law_word" 367,hcut 368,.int 112 0,.int 4 0,.int 0 0,.int 0 0,.int 3 0,.ref 130,.bool .true,.int 181 0,.ref 131,.none,.none,.none,.ref 132,.int 369 0,.int 112 0,hcut 370]) #[]) ::
 (nat_lit 134,hfn (.func (hfd "_law_word" "_law_word" s_Lword .none .none .none (hvs "law_fewrooms_k16_what_does_asked" 298) .none (.ref 133) .none 0)) #[]) ::
 (nat_lit 135,htp (.seq #[]) #[]) ::
 (nat_lit 138,hcd (.fields #[hvs "_law_behind" 372,hvs "_law_behind" 373,hcut 374,.int 120 0,.int 2 0,.int 0 0,.int 0 0,.int 3 0,.ref 135,.bool .true,.int 181 0,.ref 136,.none,.none,.none,.ref 137,.int 375 0,.int 120 0,hcut 376]) #[]) ::
 (nat_lit 139,hfn (.func (hfd "_law_behind" "_law_behind" s_Lbehind .none .none .none (hvs "law_fewrooms_k16_what_does_asked" 298) .none (.ref 138) .none 0)) #[]) ::
 (nat_lit 140,htp (.seq #[]) #[]) ::
 (nat_lit 142,htp (.seq #[hvs "_law_net_here" 381,hvs "_law_rooms" 382,hvs "_law_plan" 383,hvs "_law_stands" 384,hvs "_law_move" 385,hvs "_law_word_here" 386]) #[]) ::
 (nat_lit 143,htp (.seq #[]) #[]) ::
 (nat_lit 145,hcd (.fields #[hvs "_law_played" 378,hvs "_law_played" 379,hcut 380,.int 124 0,.int 3 0,.int 0 0,.int 0 0,.int 3 0,.ref 140,.bool .true,.int 181 0,.ref 141,.none,.ref 142,.ref 143,.ref 144,.int 387 0,.int 124 0,hcut 388]) #[]) ::
 (nat_lit 146,hfn (.func (hfd "_law_played" "_law_played" s_Lplayed .none .none .none (hvs "law_fewrooms_k16_what_does_asked" 298) .none (.ref 145) .none 0)) #[]) ::
 (nat_lit 147,htp (.seq #[]) #[]) ::
 (nat_lit 150,hcd (.fields #[hvs "_law_next_work" 390,hvs "_law_next_work" 391,hcut 392,.int 132 0,.int 3 0,.int 0 0,.int 0 0,.int 3 0,.ref 147,.bool .true,.int 181 0,.ref 148,.none,.none,.none,.ref 149,.int 393 0,.int 132 0,hcut 394]) #[]) ::
 (nat_lit 151,hfn (.func (hfd "_law_next_work" "_law_next_work" s_Lnext_work .none .none .none (hvs "law_fewrooms_k16_what_does_asked" 298) .none (.ref 150) .none 0)) #[]) ::
 (nat_lit 152,htp (.seq #[]) #[]) ::
 (nat_lit 154,htp (.seq #[hvs "_law_state" 399,hvs "_law_net_here" 400,hvs "_law_rooms" 401,hvs "_law_many" 402,hvs "_law_plan" 403,hvs "_law_stand" 404,hvs "_law_turn" 405,hvs "_law_work" 406,hvs "_law_move" 407]) #[]) ::
 (nat_lit 155,htp (.seq #[]) #[]) ::
 (nat_lit 157,hcd (.fields #[hvs "_law_walk" 396,hvs "_law_walk" 397,hcut 398,.int 139 0,.int 4 0,.int 0 0,.int 0 0,.int 3 0,.ref 152,.bool .true,.int 181 0,.ref 153,.none,.ref 154,.ref 155,.ref 156,.int 408 0,.int 139 0,hcut 409]) #[]) ::
 (nat_lit 158,hfn (.func (hfd "_law_walk" "_law_walk" s_Lwalk .none .none .none (hvs "law_fewrooms_k16_what_does_asked" 298) .none (.ref 157) .none 0)) #[]) ::
 (nat_lit 159,htp (.seq #[]) #[]) ::
 (nat_lit 162,hcd (.fields #[hvs "_law_spare" 411,hvs "_law_spare" 412,hcut 413,.int 150 0,.int 4 0,.int 0 0,.int 0 0,.int 3 0,.ref 159,.bool .true,.int 181 0,.ref 160,.none,.none,.none,.ref 161,.int 414 0,.int 150 0,hcut 415]) #[]) ::
 (nat_lit 163,hfn (.func (hfd "_law_spare" "_law_spare" s_Lspare .none .none .none (hvs "law_fewrooms_k16_what_does_asked" 298) .none (.ref 162) .none 0)) #[]) ::
 (nat_lit 164,htp (.seq #[]) #[]) ::
 (nat_lit 166,htp (.seq #[hvs "_law_state" 420,hvs "_law_net_here" 421,hvs "_law_asked_here" 422,hvs "_law_many" 423,hvs "_law_plan" 424,hvs "_law_stand" 425,hvs "_law_needed_here" 426,hvs "_law_place" 427,hvs "_law_work" 428,hvs "_law_spare_here" 429]) #[]) ::
 (nat_lit 167,htp (.seq #[]) #[]) ::
 (nat_lit 169,hcd (.fields #[hvs "_law_doing" 417,hvs "_law_doing" 418,hcut 419,.int 152 0,.int 4 0,.int 0 0,.int 0 0,.int 3 0,.ref 164,.bool .true,.int 181 0,.ref 165,.none,.ref 166,.ref 167,.ref 168,.int 430 0,.int 152 0,hcut 431]) #[]) ::
 (nat_lit 170,hfn (.func (hfd "_law_doing" "_law_doing" s_Ldoing .none .none .none (hvs "law_fewrooms_k16_what_does_asked" 298) .none (.ref 169) .none 0)) #[]) ::
 (nat_lit 171,htp (.seq #[]) #[]) ::
 (nat_lit 174,hcd (.fields #[hvs "_law_most" 433,hvs "_law_most" 434,hcut 435,.int 164 0,.int 2 0,.int 0 0,.int 0 0,.int 3 0,.ref 171,.bool .true,.int 181 0,.ref 172,.none,.none,.none,.ref 173,.int 436 0,.int 164 0,hcut 437]) #[]) ::
 (nat_lit 175,hfn (.func (hfd "_law_most" "_law_most" s_Lmost .none .none .none (hvs "law_fewrooms_k16_what_does_asked" 298) .none (.ref 174) .none 0)) #[]) ::
 (nat_lit 176,htp (.seq #[]) #[]) ::
 (nat_lit 178,htp (.seq #[hvs "_law_state" 442,hvs "_law_many" 443,hvs "_law_net_here" 444]) #[]) ::
 (nat_lit 179,htp (.seq #[]) #[]) ::
 (nat_lit 181,hcd (.fields #[hvs "_law_case" 439,hvs "_law_case" 440,hcut 441,.int 167 0,.int 1 0,.int 0 0,.int 0 0,.int 3 0,.ref 176,.bool .true,.int 181 0,.ref 177,.none,.ref 178,.ref 179,.ref 180,.int 445 0,.int 167 0,hcut 446]) #[]) ::
 (nat_lit 182,hfn (.func (hfd "_law_case" "_law_case" s_Lcase .none .none .none (hvs "law_fewrooms_k16_what_does_asked" 298) .none (.ref 181) .none 0)) #[]) ::
 (nat_lit 183,htp (.seq #[]) #[]) ::
 (nat_lit 186,hcd (.fields #[hvs "_law_told" 448,hvs "_law_told" 449,hcut 450,.int 173 0,.int 4 0,.int 0 0,.int 0 0,.int 3 0,.ref 183,.bool .true,.int 181 0,.ref 184,.none,.none,.none,.ref 185,.int 451 0,.int 173 0,hcut 452]) #[]) ::
 (nat_lit 187,hfn (.func (hfd "_law_told" "_law_told" s_Ltold .none .none .none (hvs "law_fewrooms_k16_what_does_asked" 298) .none (.ref 186) .none 0)) #[]) ::
 (nat_lit 188,htp (.seq #[]) #[]) ::
 (nat_lit 190,htp (.seq #[hvs "_law_state" 457,hvs "_law_net_here" 458,hvs "_law_plan" 459,hvs "_law_at" 460,hvs "_law_new" 461,hvs "_law_some" 462]) #[]) ::
 (nat_lit 191,htp (.seq #[]) #[]) ::
 (nat_lit 193,hcd (.fields #[hvs "_law_bent" 454,hvs "_law_bent" 455,hcut 456,.int 179 0,.int 3 0,.int 0 0,.int 0 0,.int 3 0,.ref 188,.bool .true,.int 181 0,.ref 189,.none,.ref 190,.ref 191,.ref 192,.int 463 0,.int 179 0,hcut 464]) #[]) ::
 (nat_lit 194,hfn (.func (hfd "_law_bent" "_law_bent" s_Lbent .none .none .none (hvs "law_fewrooms_k16_what_does_asked" 298) .none (.ref 193) .none 0)) #[]) ::
 (nat_lit 195,htp (.seq #[]) #[]) ::
 (nat_lit 197,htp (.seq #[hvs "_law_script" 469,hvs "_law_state" 470,hvs "_law_turn" 471,hvs "_law_net_here" 472,hvs "_law_asked_here" 473,hvs "_law_many" 474,hvs "_law_plan" 475,hvs "_law_most_here" 476,hvs "_law_rooms" 477,hvs "_law_others" 478,hvs "_law_again" 479,hvs "_law_bent_here" 480]) #[]) ::
 (nat_lit 198,htp (.seq #[]) #[]) ::
 (nat_lit 200,hcd (.fields #[hvs "law" 466,hvs "law" 467,hcut 468,.int 184 0,.int 1 0,.int 0 0,.int 0 0,.int 3 0,.ref 195,.bool .true,.int 181 0,.ref 196,.none,.ref 197,.ref 198,.ref 199,.int 481 0,.int 184 0,hcut 482]) #[]) ::
 (nat_lit 201,hfn (.func (hfd "law" "law" s_law .none .none .none (hvs "law_fewrooms_k16_what_does_asked" 298) .none (.ref 200) .none 0)) #[]) ::
 []
def hpA:List Addr:=[2,3,15,22,23,24,25,28,35,37,38,40,41,42,43,44,47,49,50,52,53,54,56,57,59,60,61,64,65,66,69,70,71,73,74,76,77,78,80,81,83,84,85,87,88,90,91,92,94,95,97,98,99,101,102,104,105,106,108,109,111,112,113,116,117,118,120,121,123,124,125,128,129,130,133,134,135,138,139,140,142,143,145,146,147,150,151,152,154,155,157,158,159,162,163,164,166,167,169,170,171,174,175,176,178,179,181,182,183,186,187,188,190,191,193,194,195,197,198,200,201]
def hpQ:Program:=PySem.W.view PySem.Challenge.pw_fewrooms_k16_what_does_asked [1,2,4,5,6,7,9,10,12,13,14,15,16,17,18,19,20,21,22,23,24,25,26,27,28,29,30]
def hpN:Nat:=2612
theorem hpE (P:Params):hpA=(hpK P).map (·.1):=by kernel_rfl
def hpX (s:Shared):Bool:=PySem.W.xlAt hpQ [] s && PySem.W.recOk (PySem.W.RowW.records (PySem.W.OpenRow.toRowW (PySem.W.OpenLaw.row PySem.Challenge.rw_fewrooms_k16_what_does_asked))) s
theorem hpLeft:PySem.W.LeftO PySem.Challenge.pw_fewrooms_k16_what_does_asked hpQ [] hpX (PySem.W.kHook hpK hpA hpE).obs (PySem.W.kHook hpK hpA hpE).val hpN:=fun w=>by kernel_rfl
theorem hpSaid:PySem.W.OpenLaw.wellSaid PySem.Challenge.rw_fewrooms_k16_what_does_asked=true:=by kernel_rfl
end Fw
namespace L2
open PySem PySem.Spec PyProof.Rows
abbrev Key:=Sum Int Str
def keyIs:Key→Value→Bool
 | .inl k,v=>Value.isInt k v
 | .inr x,v=>Value.isStrOf x v
def keyH (w:World):Key→Int
 | .inl k=>hashInt k
 | .inr x=>hashStr w x
theorem keyIs_shape:∀ {k:Key} {v:Value},keyIs k v=true→(∃ i t,k=Sum.inl i∧v=Value.int i t)∨(∃ x t,k=Sum.inr x∧v=Value.str x t)
 | .inl i,v,h=>by
  obtain ⟨t,e⟩:=Value.isInt_shape (k:=i) (v:=v) h
  exact .inl ⟨i,t,rfl,e⟩
 | .inr x,v,h=>by
  obtain ⟨t,e⟩:=Value.isStrOf_shape (x:=x) (v:=v) h
  exact .inr ⟨x,t,rfl,e⟩
theorem keyIs_int (i:Int) (t:Tok):keyIs (.inl i) (.int i t)=true:=by simp [keyIs,Value.isInt]
theorem keyIs_str (x:Str) (t:Tok):keyIs (.inr x) (.str x t)=true:=by simp [keyIs,Value.isStrOf]
theorem key_ll (a b:Int):decide ((Sum.inl a:Key)=Sum.inl b)=(a == b):=by
 by_cases e:a=b
 ·subst e;simp
 ·have h:¬ (Sum.inl a:Key)=Sum.inl b:=fun q=>e (Sum.inl.inj q)
  rw [decide_eq_false h]
  exact (beq_eq_false_iff_ne.mpr e).symm
theorem key_rr (a b:Str):decide ((Sum.inr a:Key)=Sum.inr b)=decide (a=b):=by
 by_cases e:a=b
 ·subst e;simp
 ·have h:¬ (Sum.inr a:Key)=Sum.inr b:=fun q=>e (Sum.inr.inj q)
  rw [decide_eq_false h,decide_eq_false e]
theorem key_lr (a:Int) (b:Str):decide ((Sum.inl a:Key)=Sum.inr b)=false:=decide_eq_false (fun q=>nomatch q)
theorem key_rl (a:Str) (b:Int):decide ((Sum.inr a:Key)=Sum.inl b)=false:=decide_eq_false (fun q=>nomatch q)
def mixKind (prog:Program) (w:World):PySem.KeyKind prog w Key where
 is:=keyIs
 hash:=keyH w
 inj:=fun v a b ha hb=>by
  rcases keyIs_shape ha with ⟨i,t,rfl,rfl⟩ | ⟨x,t,rfl,rfl⟩
  ·rcases keyIs_shape hb with ⟨j,u,rfl,e⟩ | ⟨y,u,rfl,e⟩
   ·injection e with e1 _;rw [e1]
   ·exact nomatch e
  ·rcases keyIs_shape hb with ⟨j,u,rfl,e⟩ | ⟨y,u,rfl,e⟩
   ·exact nomatch e
   ·injection e with e1 _;rw [e1]
 byValue:=fun k v h=>by
  rcases keyIs_shape h with ⟨i,t,rfl,rfl⟩ | ⟨x,t,rfl,rfl⟩ <;> rfl
 pyHash:=fun hv h=>by
  rcases keyIs_shape hv with ⟨i,t,rfl,rfl⟩ | ⟨x,t,rfl,rfl⟩
  ·exact wpAny_pyHash_int h
  ·exact wpAny_pyHash_str h
 eqBool:=fun hu hv h=>by
  rcases keyIs_shape hu with ⟨i,t,rfl,rfl⟩ | ⟨x,t,rfl,rfl⟩
  ·rcases keyIs_shape hv with ⟨j,u,rfl,rfl⟩ | ⟨y,u,rfl,rfl⟩
   ·rw [key_ll] at h;exact wpAny_eqBool_int h
   ·rw [key_lr] at h;exact SeqAt.EqAt.int_str i t y u _ _ _ _ h
  ·rcases keyIs_shape hv with ⟨j,u,rfl,rfl⟩ | ⟨y,u,rfl,rfl⟩
   ·rw [key_rl] at h;exact SeqAt.EqAt.str_int x t j u _ _ _ _ h
   ·rw [key_rr] at h;exact wpAny_eqBool_str h
 «strs»:=fun k x t v h=>by
  rcases keyIs_shape h with ⟨i,u,rfl,e⟩ | ⟨y,u,rfl,e⟩
  ·exact nomatch e
  ·injection e with e1 _
   subst e1
   cases v <;> rfl
theorem mixKind_int (prog:Program) (w:World) (i:Int) (t:Tok):(mixKind prog w).is (.inl i) (.int i t)=true:=keyIs_int i t
theorem mixKind_str (prog:Program) (w:World) (x:Str) (t:Tok):(mixKind prog w).is (.inr x) (.str x t)=true:=keyIs_str x t
end L2
namespace L2
open PySem PySem.Spec PyProof.Rows
inductive V where
 | non | bl (b:Bool) | int (i:Int) | str (x:Str) | byt (b:Array UInt8) | flt (b:UInt64) | ref (a:Addr) | ty (n:String)
 deriving DecidableEq
def RelV:V→Value→Prop
 | .non,u=>u=Value.none
 | .bl b,u=>u=Value.bool b
 | .int i,u=>∃ t,u=Value.int i t
 | .str x,u=>∃ t,u=Value.str x t
 | .byt b,u=>∃ t,u=Value.bytes b t
 | .flt b,u=>∃ t,u=Value.float b t
 | .ref a,u=>u=Value.ref a
 | .ty n,u=>u=Value.type n
abbrev Vals:List V→List Value→Prop:=Paired RelV
theorem Vals.length {xs:List V} {us:List Value} (r:Vals xs us):xs.length=us.length:=Paired.length r
theorem Vals.get:∀ {xs:List V} {us:List Value} {i:Nat} {x:V},Vals xs us→xs[i]?=some x→∃ u,us[i]?=some u∧RelV x u
 | _,_,_,_,.nil,e=>by simp at e
 | _,_,0,_,.cons r _,e=>by simp at e;subst e;exact ⟨_,rfl,r⟩
 | _,_,i+1,x,.cons _ t,e=>by
  obtain ⟨u,h1,h2⟩:=Vals.get (i:=i) (x:=x) t (by simpa using e)
  exact ⟨u,by simpa using h1,h2⟩
theorem Vals.set {x:V} {u:Value} (r:RelV x u):∀ {xs:List V} {us:List Value} (i:Nat),Vals xs us→Vals (xs.set i x) (us.set i u)
 | _,_,_,.nil=>.nil
 | _,_,0,.cons _ t=>.cons r t
 | _,_,i+1,.cons q t=>.cons q (Vals.set r i t)
theorem Vals.append:∀ {xs ys:List V} {us ws:List Value},Vals xs us→Vals ys ws→Vals (xs++ys) (us++ws)
 | _,_,_,_,.nil,s=>s
 | _,_,_,_,.cons r t,s=>.cons r (Vals.append t s)
theorem Vals.take:∀ {xs:List V} {us:List Value} (n:Nat),Vals xs us→Vals (xs.take n) (us.take n)
 | _,_,0,_=>.nil
 | _,_,_+1,.nil=>.nil
 | _,_,n+1,.cons r t=>.cons r (Vals.take n t)
theorem Vals.drop:∀ {xs:List V} {us:List Value} (n:Nat),Vals xs us→Vals (xs.drop n) (us.drop n)
 | _,_,0,r=>r
 | _,_,_+1,.nil=>.nil
 | _,_,n+1,.cons _ t=>Vals.drop n t
def RelO:Option V→Option Value→Prop
 | some v,some u=>RelV v u
 | none,none=>True
 | _,_=>False
def KV {κ:Type}:List (κ × V)→List (κ × Value)→Prop:=Paired fun (p:κ × V) (q:κ × Value)=>p.1=q.1∧RelV p.2 q.2
def kV:Key→V
 | .inl i=>.int i
 | .inr x=>.str x
inductive HO where
 /-- a list -/
 | lst (xs:List V)
 /-- a tuple (never changes) -/
 | tup (xs:List V)
 /-- a dict whose keys are ints and texts;one whose keys are tuples of ints and texts (the empty one is both) -/
 | dK (kvs:List (Key × V)) | dT (kvs:List (List Key × V))
 /-- a set of ints: its members,its size -/
 | set (S:Int→Bool) (n:Nat)
 /-- an instance of the class at C,its dict at dx,its attributes -/
 | ins (C dx:Addr) (fs:List (Str × V))
 /-- the dict of the instance at x -/
 | own (x:Addr)
 /-- the dict of an exception -/
 | xd (fs:List (Str × V))
 /-- a bound method,f of x -/
 | met (f x:Addr)
 /-- a range object lo,lo+1,.. below hi -/
 | rng (lo hi:Int)
 /-- a thing that is known to the object (the script;a dict while a loop walks it): read,never written while it is so -/
 | frz (o:Obj) (u:HO)
 /-- a code object's table -/
 | tbl (ps:Array Value)
 /-- any other thing,by what is true of its one object (a def of one's own: SetO a S n:=HO.ext fun h=>..) -/
 | ext (φ:Heap→Prop)
abbrev Hp:=Addr→Option HO
def upd (H:Hp) (a:Addr) (o:HO):Hp:=fun b=>if b=a then some o else H b
theorem upd_same {H:Hp} {a:Addr} {o:HO}:upd H a o a=some o:=by unfold upd;rw [if_pos rfl]
theorem upd_ne {H:Hp} {a b:Addr} {o:HO} (h:b ≠ a):upd H a o b=H b:=by unfold upd;rw [if_neg h]
theorem upd_upd {H:Hp} {a:Addr} {o u:HO}:upd (upd H a o) a u=upd H a u:=by
 funext b;unfold upd;split <;> rfl
theorem ne_of {H:Hp} {a b:Addr} {o u:HO} (h:H a=some o) (h':H b=some u) (d:o ≠ u):a ≠ b:=by
 intro e;subst e;rw [h] at h';exact d (Option.some.inj h')
theorem ne_of_none {H:Hp} {a b:Addr} {o:HO} (h:H a=some o) (h':H b=none):a ≠ b:=by
 intro e;subst e;rw [h] at h';cases h'
section
variable (P:Program) (w:World)
def ObjOk (H:Hp) (h:Heap) (a:Addr):HO→Prop
 | .lst xs=>xs.length≤sizeLine∧∃ (its:List Value) (n:Nat),Vals xs its∧h.get? a=some { cls:=.type "list",data:=.seq its.toArray n }
 | .tup xs=>xs.length≤sizeLine∧∃ its:List Value,Vals xs its∧IsTup h a its.toArray
 | .dK kvs=>kvs.length≤sizeLine∧(a == sysModules)=false∧∃ vs,KV kvs vs∧h.DictOf (mixKind P w) a vs
 | .dT kvs=>kvs.length≤sizeLine∧(a == sysModules)=false∧∃ xs:List (List Key × Addr × Value),
   Paired (fun (p:List Key × V) (q:List Key × Addr × Value)=>p.1=q.1∧H q.2.1=some (.tup (p.1.map kV))∧RelV p.2 q.2.2) kvs xs∧
   ∃ o es ep,h.get? a=some o∧o.ExactDict∧o.data=.dict es ep∧es.toList=xs.map (entryOfKey (tupleKind (mixKind P w)))∧(xs.map (·.1)).Nodup
 | .set S n=>h.SetOf (intKind P w) a S n
 | .ins C dx fs=>H dx=some (.own a)∧fs.length≤1000∧dx ≠ a∧h.get? a=some (PySem.W.instObj C dx)∧
   ∃ mA,h.Ns1 dx mA∧(∀ f,RelO (fs.lookup f) (mA f))∧PySem.Within mA (fs.map (·.1))
 | .own _=>∃ o,h.get? a=some o
 | .xd fs=>∃ mA,h.Ns1 a mA∧∀ f,RelO (fs.lookup f) (mA f)
 | .rng lo hi=>∃ t u v,h.get? a=some { cls:=.type "range",data:=.fields #[.int lo t,.int hi u,.int 1 v] }
 | .frz o u=>h.get? a=some o∧ObjOk H h a u
 | .tbl ps=>h.get? a=some { cls:=.none,data:=.fields ps }
 | .met f x=>h.get? a=some (PySem.W.methodObj (.ref f) (.ref x))
 | .ext φ=>φ h∧(∃ o,h.get? a=some o)∧∀ h1 h2:Heap,φ h1→(∀ o,h1.get? a=some o→h2.get? a=some o)→φ h2
def HOk (H:Hp) (h:Heap):Prop:=∀ a o,H a=some o→ObjOk P w H h a o
end
section
variable {P:Program} {w:World} {H H':Hp} {h h':Heap} {a:Addr} {o:HO}
theorem ObjOk.lt (x:ObjOk P w H h a o):a<h.objs.size:=by
 cases o with
 | lst xs=>obtain ⟨_,_,_,_,e⟩:=x;exact Heap.lt_size e
 | tup xs=>obtain ⟨_,_,_,p⟩:=x;exact p.lt
 | dK kvs=>obtain ⟨_,_,_,_,o,_,_,e,_⟩:=x;exact Heap.lt_size e
 | dT kvs=>obtain ⟨_,_,_,_,o,_,_,e,_⟩:=x;exact Heap.lt_size e
 | set S n=>obtain ⟨o,_,_,_,e,_⟩:=x;exact Heap.lt_size e
 | ins C dx fs=>obtain ⟨_,_,_,e,_⟩:=x;exact Heap.lt_size e
 | own y=>obtain ⟨_,e⟩:=x;exact Heap.lt_size e
 | xd fs=>obtain ⟨_,⟨_,_,_,e,_⟩,_⟩:=x;exact Heap.lt_size e
 | rng lo hi=>obtain ⟨_,_,_,e⟩:=x;exact Heap.lt_size e
 | frz ob u=>obtain ⟨e,_⟩:=x;exact Heap.lt_size e
 | tbl ps=>exact Heap.lt_size (show h.get? a=some _ from x)
 | met f y=>exact Heap.lt_size (show h.get? a=some _ from x)
 | ext φ=>obtain ⟨_,⟨_,e⟩,_⟩:=x;exact Heap.lt_size e
theorem Paired.mapP {α β:Type} {F G:α→β→Prop}:∀ {l₁:List α} {l₂:List β},Paired F l₁ l₂→(∀ a b,F a b→G a b)→Paired G l₁ l₂
 | _,_,.nil,_=>.nil
 | _,_,.cons r t,f=>.cons (f _ _ r) (Paired.mapP t f)
theorem ObjOk.stay (x:ObjOk P w H h a o) (k:∀ b u,(b=a∨H b=some (.own a))→h.get? b=some u→h'.get? b=some u)
  (ho:∀ b,H b=some (.own a)→H' b=some (.own a)) (ht:∀ b xs,H b=some (.tup xs)→H' b=some (.tup xs)):ObjOk P w H' h' a o:=by
 induction o with
 | lst xs=>obtain ⟨z,its,n,r,e⟩:=x;exact ⟨z,its,n,r,k _ _ (.inl rfl) e⟩
 | tup xs=>obtain ⟨z,its,r,ob,e,c⟩:=x;exact ⟨z,its,r,ob,k _ _ (.inl rfl) e,c⟩
 | dK kvs=>obtain ⟨z,y,vs,r,ob,es,ep,e,c⟩:=x;exact ⟨z,y,vs,r,ob,es,ep,k _ _ (.inl rfl) e,c⟩
 | dT kvs=>
  obtain ⟨z,y,xs,r,ob,es,ep,e,c⟩:=x
  exact ⟨z,y,xs,Paired.mapP r fun p q z=>⟨z.1,ht _ _ z.2.1,z.2.2⟩,ob,es,ep,k _ _ (.inl rfl) e,c⟩
 | set S n=>obtain ⟨ob,es,ep,t,e,c⟩:=x;exact ⟨ob,es,ep,t,k _ _ (.inl rfl) e,c⟩
 | ins C dx fs=>
  obtain ⟨d,z,ne,e,mA,⟨od,es,ep,e2,c⟩,r⟩:=x
  exact ⟨ho _ d,z,ne,k _ _ (.inl rfl) e,mA,⟨od,es,ep,k _ _ (.inr d) e2,c⟩,r⟩
 | own y=>obtain ⟨ob,e⟩:=x;exact ⟨ob,k _ _ (.inl rfl) e⟩
 | xd fs=>obtain ⟨mA,⟨od,es,ep,e,c⟩,r⟩:=x;exact ⟨mA,⟨od,es,ep,k _ _ (.inl rfl) e,c⟩,r⟩
 | rng lo hi=>obtain ⟨t,u,v,e⟩:=x;exact ⟨t,u,v,k _ _ (.inl rfl) e⟩
 | frz ob u ih=>obtain ⟨e,q⟩:=x;exact ⟨k _ _ (.inl rfl) e,ih q⟩
 | tbl ps=>
  have e:h.get? a=some { cls:=.none,data:=.fields ps }:=x
  show h'.get? a=some { cls:=.none,data:=.fields ps }
  exact k a _ (.inl rfl) e
 | met f y=>
  have e:h.get? a=some (PySem.W.methodObj (.ref f) (.ref y)):=x
  show h'.get? a=some (PySem.W.methodObj (.ref f) (.ref y))
  exact k a _ (.inl rfl) e
 | ext φ=>obtain ⟨p,⟨o,e⟩,st⟩:=x;exact ⟨st _ _ p fun o q=>k _ _ (.inl rfl) q,⟨o,k _ _ (.inl rfl) e⟩,st⟩
theorem HOk.lt (x:HOk P w H h) (e:H a=some o):a<h.objs.size:=(x a o e).lt
theorem HOk.fresh (x:HOk P w H h) (e:h.objs.size≤a):H a=none:=by
 cases q:H a with
 | none=>rfl
 | some u=>exact absurd (Nat.lt_of_lt_of_le (x.lt q) e) (Nat.lt_irrefl _)
theorem HOk.kept (x:HOk P w H h) (k:∀ b u,h.get? b=some u→h'.get? b=some u):HOk P w H h':=fun a o e=>
 (x a o e).stay (fun b u _ q=>k b u q) (fun _ q=>q) fun _ _ q=>q
theorem HOk.laid (x:HOk P w H h) (k:∀ b u,h.get? b=some u→h'.get? b=some u) (hp:h.objs.size≤a) (new:ObjOk P w (upd H a o) h' a o):HOk P w (upd H a o) h':=fun b u e=>by
 have hn:=x.fresh hp
 by_cases hb:b=a
 ·subst hb;rw [upd_same] at e;cases e;exact new
 ·rw [upd_ne hb] at e
  exact (x b u e).stay (fun c v _ q=>k c v q) (fun c q=>by rw [upd_ne (ne_of_none q hn)];exact q) fun c xs q=>by rw [upd_ne (ne_of_none q hn)];exact q
end
def Rd (H:Hp) (a:Addr) (u:HO):Prop:=H a=some u∨∃ o,H a=some (.frz o u)
theorem Rd.ok {P:Program} {w:World} {H:Hp} {h:Heap} {a:Addr} {u:HO} (r:Rd H a u) (x:HOk P w H h):ObjOk P w H h a u:=by
 rcases r with r | ⟨o,r⟩
 ·exact x a u r
 ·obtain ⟨_,q⟩:=x a _ r
  exact q
def Mut:Option HO→Prop
 | some (.lst _)=>True
 | some (.dK _)=>True
 | some (.dT _)=>True
 | some (.set _ _)=>True
 | some (.ins _ _ _)=>True
 | some (.ext _)=>True
 | _=>False
section
variable {P:Program} {w:World} {H:Hp} {h h':Heap} {x e:Addr} {o':HO}
theorem HOk.write (ok:HOk P w H h) (mu:Mut (H x)) (he:e=x∨H e=some (.own x)) (k:∀ b u,b ≠ e→h.get? b=some u→h'.get? b=some u) (heo:∃ u,h'.get? e=some u)
  (new:ObjOk P w (upd H x o') h' x o'):HOk P w (upd H x o') h':=fun b u q=>by
 have nown:∀ c y,H c=some (.own y)→c ≠ x:=fun c y r z=>by subst z;rw [r] at mu;exact mu
 have ntup:∀ c xs,H c=some (.tup xs)→c ≠ x:=fun c xs r z=>by subst z;rw [r] at mu;exact mu
 by_cases hb:b=x
 ·subst hb;rw [upd_same] at q;cases q;exact new
 ·rw [upd_ne hb] at q
  by_cases hbe:b=e
  ·have q':H b=some (.own x):=by
    rcases he with z | z
    ·exact absurd (hbe.trans z) hb
    ·rw [hbe];exact z
   rw [q] at q';cases q'
   obtain ⟨v,hv⟩:=heo
   exact ⟨v,by rw [hbe];exact hv⟩
  ·refine (ok b u q).stay (fun c v hc r=>k c v ?_ r) (fun c r=>by rw [upd_ne (nown c b r)];exact r) fun c xs r=>by rw [upd_ne (ntup c xs r)];exact r
   rcases hc with rfl | hc
   ·exact hbe
   ·rintro rfl
    rcases he with z | z
    ·exact nown c b hc z
    ·rw [hc] at z;cases z;exact hb rfl
end
structure Un (fs ex:List Addr) (H H':Hp) (h h':Heap):Prop where
 keep:∀ b o,h.get? b=some o→H b=none→b ∉ fs→b ∉ ex→h'.get? b=some o
 slot:∀ b o,h.get? b=some o→H b=none→b ∈ fs→b ∉ ex→∃ sl,h'.get? b=some { o with slots:=sl }
 free:∀ b o,h.get? b=some o→H b=none→b ∉ ex→H' b=none
 there:∀ b o,h.get? b=some o→b ∉ ex→∃ o',h'.get? b=some o'
 tups:∀ b xs,H b=some (.tup xs)→H' b=some (.tup xs)
 frzs:∀ b o u,H b=some (.frz o u)→H' b=some (.frz o u)
 tbls:∀ b ps,H b=some (.tbl ps)→∃ more,H' b=some (.tbl (ps++more))
section
variable {fs fs' ex ex':List Addr} {H H1 H2:Hp} {h h1 h2 h':Heap} {a x e:Addr} {o:HO}
theorem Un.any (u:Un fs ex H H1 h h1) {b:Addr} {ob:Obj} (q:h.get? b=some ob) (n:H b=none) (hx:b ∉ ex):∃ sl,h1.get? b=some { ob with slots:=sl }:=by
 by_cases hb:b ∈ fs
 ·exact u.slot b ob q n hb hx
 ·exact ⟨ob.slots,u.keep b ob q n hb hx⟩
theorem Un.kept (k:∀ b u,h.get? b=some u→h'.get? b=some u):Un fs ex H H h h':=
 ⟨fun b ob q _ _ _=>k b ob q,fun b ob q _ _ _=>⟨ob.slots,k b ob q⟩,fun _ _ _ n _=>n,fun b ob q _=>⟨ob,k b ob q⟩,fun _ _ q=>q,fun _ _ _ q=>q,fun _ ps q=>⟨#[],by rw [q];simp⟩⟩
theorem Un.refl:Un fs ex H H h h:=Un.kept fun _ _ q=>q
theorem Un.laid (k:∀ b u,h.get? b=some u→h'.get? b=some u) (hp:h.objs.size≤a) (hn:H a=none):Un fs ex H (upd H a o) h h' where
 keep:=fun b u q _ _ _=>k b u q
 slot:=fun b u q _ _ _=>⟨u.slots,k b u q⟩
 free:=fun b u q n _=>by rw [upd_ne (Nat.ne_of_lt (Nat.lt_of_lt_of_le (Heap.lt_size q) hp))];exact n
 there:=fun b u q _=>⟨u,k b u q⟩
 tups:=fun b xs q=>by rw [upd_ne (ne_of_none q hn)];exact q
 frzs:=fun b u xs q=>by rw [upd_ne (ne_of_none q hn)];exact q
 tbls:=fun b ps q=>⟨#[],by rw [upd_ne (ne_of_none q hn),q];simp⟩
theorem Un.write (mu:Mut (H x)) (he:e=x∨H e=some (.own x)) (k:∀ b u,b ≠ e→h.get? b=some u→h'.get? b=some u) (heo:∃ u,h'.get? e=some u):Un fs ex H (upd H x o) h h':=by
 have hx:∀ b,H b=none→b ≠ x:=fun b n z=>by subst z;rw [n] at mu;exact mu
 have hb:∀ b,H b=none→b ≠ e:=fun b n z=>by
  subst z
  rcases he with r | r
  ·exact hx b n r
  ·rw [n] at r;cases r
 have hm:∀ b u,H b=some u→¬ Mut (some u)→b ≠ x:=fun b u q nm z=>by subst z;rw [q] at mu;exact nm mu
 refine ⟨fun b u q n _ _=>k b u (hb b n) q,fun b u q n _ _=>⟨u.slots,k b u (hb b n) q⟩,fun b u q n _=>by rw [upd_ne (hx b n)];exact n,fun b u q _=>?_,
  fun b xs q=>by rw [upd_ne (hm b _ q fun z=>z)];exact q,fun b u xs q=>by rw [upd_ne (hm b _ q fun z=>z)];exact q,fun b ps q=>⟨#[],by rw [upd_ne (hm b _ q fun z=>z),q];simp⟩⟩
 by_cases hbe:b=e
 ·subst hbe;exact heo
 ·exact ⟨u,k b u hbe q⟩
end
def trk (h:Heap) (H:Hp):List Addr:=(List.range h.objs.size).filter fun a=>(H a).isSome
def hidT (h:Heap) (H:Hp):Heap:=PySem.W.hideAll h (trk h H)
theorem hidT_size (h:Heap) (H:Hp):(hidT h H).objs.size=h.objs.size:=PySem.W.hideAll_size _ _
theorem hidT_get {h:Heap} {H:Hp} {b:Addr} {o:Obj} (e:h.get? b=some o) (n:H b=none):(hidT h H).get? b=some o:=
 PySem.W.hideAll_get _ e fun hm=>by
  have q:(H b).isSome=true:=(List.mem_filter.mp hm).2
  rw [n] at q;simp at q
theorem of_hidT {h:Heap} {H:Hp} {b:Addr} {o:Obj} (e:(hidT h H).get? b=some o):h.get? b=some o∧H b=none:=by
 have e':h.get? b=some o:=PySem.W.of_hideAll (trk h H) e
 refine ⟨e',?_⟩
 cases q:H b with
 | none=>rfl
 | some x=>
  have hm:b ∈ trk h H:=List.mem_filter.mpr ⟨List.mem_range.mpr (Heap.lt_size e'),by simp [q]⟩
  have z:(hidT h H).get? b=none:=PySem.W.hideAll_none (trk h H) hm
  rw [z] at e;cases e
def allNews (g h:Heap) (L:Addr):List (Addr × Obj):=(List.range h.objs.size).filterMap fun a=>if a=L∨(g.get? a).isSome=true then none else (h.get? a).map fun o=>(a,o)
def rest (g h:Heap) (L d:Addr):List (Addr × Obj):=(allNews g h L).filter fun p=>decide (p.1 ≠ d)
end L2
namespace L2
open PySem PySem.Spec PyProof.Rows
structure Mod (K:PySem.W.Frag) (mg:Str→Option Value) (base:Heap):Prop where
 kin:K.In base
 glob:base.Ns mainGlobals mg
 blt:∃ mb,base.Ns builtinsNs mb∧∀ x:Str,x ≠ "__name__"→mb x=bootBuiltins x
 nolimit:base.NoLimit
structure Cx where
 prog:Program
 w:World
 K:PySem.W.Frag
 mg:Str→Option Value
 base:Heap
 A:Around
 N:List Str
 s₀:Shared
 H₀:Hp
 env:Env
 outer:List Env
 stack:List Env
 ex:List Addr
 fn:Str→Bool
 calm:Bool
 pn:List (Addr × Obj)
 xe:Value→Shared→Prop
def frs (l:List Env):List Addr:=l.filterMap (·.frame)
abbrev Cx.fs (X:Cx):List Addr:=frs X.outer
def Vis (sc:Scope) (x:Str):Prop:=sc.names.lookup x=some .local∨sc.names.lookup x=some .cell∨sc.names.lookup x=some .free
def Loc (sc:Scope) (x:Str):Prop:=sc.names.lookup x=some .local∨sc.names.lookup x=some .cell
def Look (env:Env) (h:Heap) (m:Str→Option Value) (x:Str) (u:Value):Prop:=
 (env.kindOf x=some .local∧m x=some u)∨((env.kindOf x=some .cell∨env.kindOf x=some .free)∧∃ c,env.cells.lookup x=some c∧h.IsCell c (some u))
structure Cx.Ok (X:Cx):Prop where
 mod:Mod X.K X.mg X.base
 kind:X.env.scope.kind=.function
 glob:X.env.globals=mainGlobals
 blt:X.env.builtins=builtinsNs
 above:X.s₀.heap.objs.size≤X.env.locals
 inj:∀ x y c,X.env.cells.lookup x=some c→X.env.cells.lookup y=some c→x=y
 has:∀ x,(X.env.kindOf x=some .cell∨X.env.kindOf x=some .free)→∃ c,X.env.cells.lookup x=some c
 cab:∀ x c,X.fn x=true→X.env.cells.lookup x=some c→X.s₀.heap.objs.size≤c
 hd:X.calm=true→X.A.handled=none
 frames:X.A.frames=some X.stack
 stk:X.stack=X.outer∨(X.stack=X.env::X.outer∧X.env.frame=some X.env.locals)
 exf:∀ b ∈ X.ex,b ≠ X.env.locals∧∀ x c,X.env.cells.lookup x=some c→c ≠ b
 bs:∀ b o,X.base.get? b=some o→X.s₀.heap.get? b=some o∧X.H₀ b=none
 bsz:X.base.objs.size≤X.s₀.heap.objs.size
 noex:∀ b o,X.base.get? b=some o→b ∉ X.ex
 exfs:∀ b ∈ X.ex,b ∉ X.fs
 funs:X.s₀.heap.FunFrames X.base X.outer
 frf:∀ b ∈ X.fs,X.H₀ b=none
structure Inv (X:Cx) (pins:List (Addr × Obj)) (σ:List (Option V)) (H:Hp) (s:Shared):Prop where
 ok:X.Ok
 os:s.os=X.s₀.os
 bare:AllBare s.gens
 base:Un X.fs X.ex X.H₀ H X.s₀.heap s.heap
 loc:∃ m,s.heap.Ns X.env.locals m∧∀ (i:Nat) (x:Str) (v:V),X.N[i]?=some x→σ[i]?=some (some v)→Vis X.env.scope x→∃ u,RelV v u∧Look X.env s.heap m x u
 cell:∀ x c,X.env.cells.lookup x=some c→∃ v,s.heap.IsCell c v
 free:H X.env.locals=none
 freeC:∀ x c,X.env.cells.lookup x=some c→H c=none
 pin:∀ p ∈ X.pn++pins,s.heap.get? p.1=some p.2∧H p.1=none∧p.1 ≠ X.env.locals∧p.1 ∉ X.fs∧∀ v,p.2.data ≠ .cell v
 hok:HOk X.prog X.w H s.heap
 len:σ.length=X.N.length
section
variable {X:Cx} {pins:List (Addr × Obj)} {σ:List (Option V)} {H H':Hp} {s:Shared} {h':Heap}
theorem Cx.Ok.nofr (ok:X.Ok) {b:Addr} {o:Obj} (e:X.base.get? b=some o):b ∉ X.fs:=fun hb=>by
 have:=(ok.funs.mem hb).1
 rw [e] at this;cases this
theorem Inv.bs (I:Inv X pins σ H s):∀ b o,X.base.get? b=some o→s.heap.get? b=some o∧H b=none:=fun b o e=>
 ⟨I.base.keep b o (I.ok.bs b o e).1 (I.ok.bs b o e).2 (I.ok.nofr e) (I.ok.noex b o e),I.base.free b o (I.ok.bs b o e).1 (I.ok.bs b o e).2 (I.ok.noex b o e)⟩
theorem Inv.bk (I:Inv X pins σ H s):∀ b o,X.base.get? b=some o→s.heap.get? b=some o:=fun b o e=>(I.bs b o e).1
theorem Inv.mod (I:Inv X pins σ H s):Mod X.K X.mg X.base:=I.ok.mod
theorem Inv.kIn (I:Inv X pins σ H s):X.K.In s.heap:=I.ok.mod.kin.keeps I.bk
theorem Inv.lt (I:Inv X pins σ H s):X.env.locals<s.heap.objs.size:=let ⟨_,hn,_⟩:=I.loc;hn.lt
theorem Inv.sz (I:Inv X pins σ H s):X.s₀.heap.objs.size≤s.heap.objs.size:=Nat.le_trans I.ok.above (Nat.le_of_lt I.lt)
theorem Inv.nofs (I:Inv X pins σ H s) {a:Addr} (h:s.heap.objs.size≤a):a ∉ X.fs:=fun hb=>by
 obtain ⟨_,o,ho,_⟩:=I.ok.funs.mem hb
 exact absurd (Nat.lt_of_lt_of_le (Heap.lt_size ho) (Nat.le_trans I.sz h)) (Nat.lt_irrefl _)
theorem Inv.cne (I:Inv X pins σ H s):∀ x c,X.env.cells.lookup x=some c→c ≠ X.env.locals:=fun x c e z=>by
 obtain ⟨v,o,ho,hd⟩:=I.cell x c e
 obtain ⟨m,⟨o',es,ep,ho',hd',_⟩,_⟩:=I.loc
 rw [z,ho'] at ho;cases ho;rw [hd'] at hd;cases hd
theorem Inv.funs (I:Inv X pins σ H s):s.heap.FunFrames X.base X.outer:=by
 have all:∀ (l:List Env),(∀ b ∈ frs l,b ∈ X.fs)→X.s₀.heap.FunFrames X.base l→s.heap.FunFrames X.base l:=by
  intro l
  induction l with
  | nil=>intro _ _;trivial
  | cons env r ih=>
   intro hs hl
   obtain ⟨hk,⟨L,o,hf,hn,ho,hd⟩,hr⟩:=hl
   have hL:L ∈ X.fs:=hs L (by unfold frs;rw [List.filterMap_cons,hf];exact List.mem_cons_self)
   obtain ⟨sl,e⟩:=I.base.slot L o ho (I.ok.frf L hL) hL fun z=>I.ok.exfs L z hL
   exact ⟨hk,⟨L,_,hf,hn,e,hd⟩,ih (fun b hb=>hs b (by unfold frs;rw [List.filterMap_cons,hf];exact List.mem_cons_of_mem _ hb)) hr⟩
 exact all X.outer (fun _ hb=>hb) I.ok.funs
theorem Inv.stack (I:Inv X pins σ H s):s.heap.FunFrames X.base X.stack:=by
 rcases I.ok.stk with e | ⟨e,hf⟩
 ·rw [e];exact I.funs
 ·rw [e]
  obtain ⟨m,hn,_⟩:=I.loc
  refine .cons (by rw [I.ok.kind];decide) hf hn ?_ I.funs
  exact Heap.get?_none_of_le (Nat.le_trans I.ok.bsz I.ok.above)
theorem Inv.stkSub (I:Inv X pins σ H s):∀ b ∈ frs X.stack,b ∈ X.env.locals::X.fs:=fun b hb=>by
 rcases I.ok.stk with e | ⟨e,hf⟩
 ·rw [e] at hb;exact List.mem_cons_of_mem _ hb
 ·rw [e] at hb
  unfold frs at hb
  rw [List.filterMap_cons,hf] at hb
  exact hb
theorem Inv.stkFree (I:Inv X pins σ H s):∀ b ∈ frs X.stack,H b=none:=fun b hb=>by
 rcases List.mem_cons.mp (I.stkSub b hb) with e | hb
 ·rw [e];exact I.free
 ·obtain ⟨_,o,ho,_⟩:=I.ok.funs.mem hb
  exact I.base.free b o ho (I.ok.frf b hb) fun z=>I.ok.exfs b z hb
theorem Inv.step {g':Array GenState} {t':Nat} {d':Drawn} {ch:List Addr} (I:Inv X pins σ H s)
  (hch:∀ b ∈ ch,(b ∈ X.ex∨X.s₀.heap.objs.size≤b)∧b ≠ X.env.locals∧(∀ x c,X.env.cells.lookup x=some c→c ≠ b)∧∀ p ∈ X.pn++pins,p.1 ≠ b)
  (keep:∀ b o,b ≠ X.env.locals→b ∉ X.fs→b ∉ ch→s.heap.get? b=some o→H b=none→h'.get? b=some o)
  (slot:∀ b o,b ≠ X.env.locals→b ∈ X.fs→b ∉ ch→s.heap.get? b=some o→H b=none→∃ sl,h'.get? b=some { o with slots:=sl }) (free:∀ b o,b ∉ ch→s.heap.get? b=some o→H b=none→H' b=none)
  (there:∀ b o,b ∉ ch→s.heap.get? b=some o→∃ o',h'.get? b=some o')
  (tups:∀ b xs,H b=some (.tup xs)→H' b=some (.tup xs)) (frzs:∀ b o u,H b=some (.frz o u)→H' b=some (.frz o u)) (tbls:∀ b ps,H b=some (.tbl ps)→∃ more,H' b=some (.tbl (ps++more)))
  (ns:∀ m,s.heap.Ns X.env.locals m→h'.Ns X.env.locals m) (hok:HOk X.prog X.w H' h') (hg:AllBare g') :
  Inv X pins σ H' { s with heap:=h',gens:=g',drawn:=d',toks:=t' }:=by
 have neL:∀ b o,X.s₀.heap.get? b=some o→b ≠ X.env.locals:=fun b o e=>Nat.ne_of_lt (Nat.lt_of_lt_of_le (Heap.lt_size e) I.ok.above)
 have neC:∀ b o,X.s₀.heap.get? b=some o→b ∉ X.ex→b ∉ ch:=fun b o e hx hb=>by
  rcases (hch b hb).1 with z | z
  ·exact hx z
  ·exact absurd (Nat.lt_of_lt_of_le (Heap.lt_size e) z) (Nat.lt_irrefl _)
 have cellK:∀ x c,X.env.cells.lookup x=some c→∀ v,s.heap.IsCell c v→h'.IsCell c v:=fun x c e v ⟨o,ho,hd⟩=>by
  have nch:c ∉ ch:=fun z=>(hch c z).2.2.1 x c e rfl
  by_cases hc:c ∈ X.fs
  ·obtain ⟨sl,q⟩:=slot c o (I.cne x c e) hc nch ho (I.freeC x c e)
   exact ⟨_,q,hd⟩
  ·exact ⟨o,keep c o (I.cne x c e) hc nch ho (I.freeC x c e),hd⟩
 refine ⟨I.ok,I.os,hg,⟨fun b o e n hb hx=>?_,fun b o e n hb hx=>?_,fun b o e n hx=>?_,fun b o e hx=>?_,fun b xs e=>tups b xs (I.base.tups b xs e),fun b o xs e=>frzs b o xs (I.base.frzs b o xs e),fun b ps e=>?_⟩,?_,fun x c e=>?_,?_,fun x c e=>?_,fun p hp=>?_,hok,I.len⟩
 ·exact keep b o (neL b o e) hb (neC b o e hx) (I.base.keep b o e n hb hx) (I.base.free b o e n hx)
 ·obtain ⟨sl,e1⟩:=I.base.slot b o e n hb hx
  obtain ⟨sl',e2⟩:=slot b _ (neL b o e) hb (neC b o e hx) e1 (I.base.free b o e n hx)
  exact ⟨sl',e2⟩
 ·obtain ⟨o',e1⟩:=I.base.there b o e hx
  exact free b o' (neC b o e hx) e1 (I.base.free b o e n hx)
 ·obtain ⟨o',e1⟩:=I.base.there b o e hx
  exact there b o' (neC b o e hx) e1
 ·obtain ⟨m1,e1⟩:=I.base.tbls b ps e
  obtain ⟨m2,e2⟩:=tbls b _ e1
  exact ⟨m1++m2,by rw [e2,Array.append_assoc]⟩
 ·obtain ⟨m,hn,hl⟩:=I.loc
  refine ⟨m,ns m hn,fun i x v e1 e2 e3=>?_⟩
  obtain ⟨u,r,l⟩:=hl i x v e1 e2 e3
  refine ⟨u,r,?_⟩
  rcases l with l | ⟨k,c,e,z⟩
  ·exact .inl l
  ·exact .inr ⟨k,c,e,cellK x c e _ z⟩
 ·obtain ⟨v,z⟩:=I.cell x c e
  exact ⟨v,cellK x c e v z⟩
 ·obtain ⟨m,⟨o,_,_,ho,_⟩,_⟩:=I.loc
  exact free _ o (fun z=>(hch _ z).2.1 rfl) ho I.free
 ·obtain ⟨v,o,ho,hd⟩:=I.cell x c e
  exact free c o (fun z=>(hch c z).2.2.1 x c e rfl) ho (I.freeC x c e)
 ·obtain ⟨e,n,ne,nf,d⟩:=I.pin p hp
  have nch:p.1 ∉ ch:=fun z=>(hch p.1 z).2.2.2 p hp rfl
  exact ⟨keep p.1 p.2 ne nf nch e n,free p.1 p.2 nch e n,ne,nf,d⟩
theorem Inv.un {t':Nat} (I:Inv X pins σ H s) (u:Un X.fs [] H H' s.heap h') (hok:HOk X.prog X.w H' h'):Inv X pins σ H' { s with heap:=h',toks:=t' }:=by
 obtain ⟨m,⟨o,es,ep,ho,r⟩,_⟩:=id I.loc
 obtain ⟨sl,hL⟩:=u.any ho I.free (by simp)
 exact I.step (g':=s.gens) (d':=s.drawn) (ch:=[]) (fun _ z=>nomatch z) (fun b o _ hb _ e n=>u.keep b o e n hb (by simp)) (fun b o _ hb _ e n=>u.slot b o e n hb (by simp)) (fun b o _ e n=>u.free b o e n (by simp)) (fun b o _ e=>u.there b o e (by simp)) u.tups u.frzs u.tbls (fun m' hm=>by
  obtain ⟨o',es',ep',ho',r'⟩:=hm
  rw [ho] at ho';cases ho'
  exact ⟨_,es',ep',hL,r'⟩) hok I.bare
theorem Inv.call {g':Array GenState} {t':Nat} {d':Drawn} {ch:List Addr} (I:Inv X pins σ H s) (u:Un (frs X.stack) ch H H' s.heap h') (hok:HOk X.prog X.w H' h') (hg:AllBare g')
  (hch:∀ b ∈ ch,(b ∈ X.ex∨X.s₀.heap.objs.size≤b)∧b ≠ X.env.locals∧(∀ x c,X.env.cells.lookup x=some c→c ≠ b)∧∀ p ∈ X.pn++pins,p.1 ≠ b) :
  Inv X pins σ H' { s with heap:=h',gens:=g',drawn:=d',toks:=t' }:=by
 obtain ⟨m,⟨o,es,ep,ho,r⟩,_⟩:=id I.loc
 obtain ⟨sl,hL⟩:=u.any ho I.free fun z=>(hch _ z).2.1 rfl
 exact I.step (ch:=ch) hch (fun b o hL hb hc e n=>u.keep b o e n (fun z=>(List.mem_cons.mp (I.stkSub b z)).elim hL hb) hc) (fun b o _ _ hc e n=>u.any e n hc) (fun b o hc e n=>u.free b o e n hc) (fun b o hc e=>u.there b o e hc) u.tups u.frzs u.tbls (fun m' hm=>by
  obtain ⟨o',es',ep',ho',r'⟩:=hm
  rw [ho] at ho';cases ho'
  exact ⟨_,es',ep',hL,r'⟩) hok hg
theorem Inv.turned {t':Nat} {it:Addr} (I:Inv X pins σ H s) (k:∀ b o,b ≠ it→s.heap.get? b=some o→h'.get? b=some o) (hn:H it=none) (hL:it ≠ X.env.locals)
  (h1:it ∈ X.ex∨X.s₀.heap.objs.size≤it) (h2:∀ x c,X.env.cells.lookup x=some c→c ≠ it) (h3:∀ p ∈ X.pn++pins,p.1 ≠ it):Inv X pins σ H { s with heap:=h',toks:=t' }:=by
 have nit:∀ b u,H b=some u→b ≠ it:=fun b u e z=>by rw [z,hn] at e;cases e
 refine I.step (g':=s.gens) (d':=s.drawn) (ch:=[it]) (fun b hb=>?_) (fun b o _ _ hc e _=>k b o (fun z=>hc (by simp [z])) e) (fun b o _ _ hc e _=>⟨o.slots,k b o (fun z=>hc (by simp [z])) e⟩) (fun _ _ _ _ n=>n)
  (fun b o hc e=>⟨o,k b o (fun z=>hc (by simp [z])) e⟩) (fun _ _ e=>e) (fun _ _ _ e=>e) (fun b ps e=>⟨#[],by rw [e];simp⟩) (fun m hm=>?_) (fun b u e=>?_) I.bare
 ·have e:b=it:=by simpa using hb
  subst e
  exact ⟨h1,hL,h2,h3⟩
 ·obtain ⟨o,es,ep,ho,r⟩:=hm
  exact ⟨o,es,ep,k _ o (Ne.symm hL) ho,r⟩
 ·refine (I.hok b u e).stay (fun c v hc q=>k c v ?_ q) (fun _ q=>q) fun _ _ q=>q
  rcases hc with z | z
  ·rw [z];exact nit b u e
  ·exact nit c _ z
theorem Inv.tok (I:Inv X pins σ H s) (t:Nat):Inv X pins σ H { s with toks:=t }:=I.un (h':=s.heap) (t':=t) Un.refl I.hok
theorem Inv.kept {t':Nat} (I:Inv X pins σ H s) (k:∀ b u,s.heap.get? b=some u→h'.get? b=some u):Inv X pins σ H { s with heap:=h',toks:=t' }:=I.un (Un.kept k) (I.hok.kept k)
theorem Inv.laid {a:Addr} {o:HO} {t':Nat} (I:Inv X pins σ H s) (k:∀ b u,s.heap.get? b=some u→h'.get? b=some u) (hp:s.heap.objs.size≤a) (new:ObjOk X.prog X.w (upd H a o) h' a o) :
  Inv X pins σ (upd H a o) { s with heap:=h',toks:=t' }:=I.un (Un.laid k hp (I.hok.fresh hp)) (I.hok.laid k hp new)
theorem Inv.write {x e:Addr} {o:HO} {t':Nat} (I:Inv X pins σ H s) (mu:Mut (H x)) (he:e=x∨H e=some (.own x)) (k:∀ b u,b ≠ e→s.heap.get? b=some u→h'.get? b=some u) (heo:∃ u,h'.get? e=some u)
  (new:ObjOk X.prog X.w (upd H x o) h' x o):Inv X pins σ (upd H x o) { s with heap:=h',toks:=t' }:=I.un (Un.write mu he k heo) (I.hok.write mu he k heo new)
theorem Inv.pins_of {pins':List (Addr × Obj)} (I:Inv X pins σ H s) (h:∀ p ∈ pins',s.heap.get? p.1=some p.2∧H p.1=none∧p.1 ≠ X.env.locals∧p.1 ∉ X.fs∧∀ v,p.2.data ≠ .cell v):Inv X pins' σ H s:=
 ⟨I.ok,I.os,I.bare,I.base,I.loc,I.cell,I.free,I.freeC,fun p hp=>(List.mem_append.mp hp).elim (fun z=>I.pin p (List.mem_append_left _ z)) (h p),I.hok,I.len⟩
theorem nodup_ix {N:List Str} (hN:N.Nodup) {i j:Nat} {x:Str} (a:N[i]?=some x) (b:N[j]?=some x):i=j:=by
 obtain ⟨h1,e1⟩:=List.getElem?_eq_some_iff.mp a
 obtain ⟨h2,e2⟩:=List.getElem?_eq_some_iff.mp b
 exact (List.getElem_inj hN).mp (e1.trans e2.symm)
theorem store_ok2 {M:Model} {A:Around} {E:Value→Shared→Prop} {i:Nat} {x:Str} {v:V} {u:Value} {Q:Unit→Shared→Prop} (I:Inv X pins σ H s) (hN:X.N.Nodup) (hi:X.N[i]?=some x) (hx:Loc X.env.scope x) (r:RelV v u)
  (h:∀ s',Inv X pins (σ.set i (some v)) H s'→(∃ a,Heap.SameBut a s.heap s'.heap∧(a=X.env.locals∨X.env.cells.lookup x=some a))→Q () s') (hf:X.fn x=true∨X.env.scope.names.lookup x=some .local:=by first | exact .inl rfl | exact .inr rfl | assumption):wpAny M A (storeName X.env x u) Q E s:=by
 obtain ⟨m,hn,hl⟩:=id I.loc
 have hcls:(X.env.scope.kind == .class || (X.env.scope.kind == .module && X.env.locals != X.env.globals))=false:=by rw [I.ok.kind];rfl
 have hiσ:i<σ.length:=by rw [I.len];exact (List.getElem?_eq_some_iff.mp hi).1
 have cne:=I.cne
 have tracked:∀ {a:Addr} {h':Heap},(∃ o,s.heap.get? a=some o∧H a=none)→Heap.SameBut a s.heap h'→HOk X.prog X.w H h':=fun {a h'} ha hs b ob e=>by
  obtain ⟨_,_,hfree⟩:=ha
  refine (I.hok b ob e).stay (fun c w' hc q=>(hs.2 c ?_).trans q) (fun _ q=>q) fun _ _ q=>q
  rintro rfl
  rcases hc with rfl | hc
  ·rw [hfree] at e;cases e
  ·rw [hfree] at hc;cases hc
 rcases hx with hk | hk
 ·refine wpAny_storeName_local hk hn (fun h' hn' hs=>?_) hcls
  obtain ⟨oL,_,_,hoL,_⟩:=id hn
  refine h _ ⟨I.ok,I.os,I.bare,⟨fun b o e n hb hx=>?_,fun b o e n hb hx=>?_,I.base.free,fun b o e hx=>?_,I.base.tups,I.base.frzs,I.base.tbls⟩,⟨_,hn',fun j y v' e1 e2 e3=>?_⟩,fun y c e=>?_,I.free,I.freeC,fun p hp=>?_,tracked ⟨oL,hoL,I.free⟩ hs,by simpa using I.len⟩ ⟨_,hs,.inl rfl⟩
  ·exact (hs.2 b (Nat.ne_of_lt (Nat.lt_of_lt_of_le (Heap.lt_size e) I.ok.above))).trans (I.base.keep b o e n hb hx)
  ·obtain ⟨sl,e1⟩:=I.base.slot b o e n hb hx
   exact ⟨sl,(hs.2 b (Nat.ne_of_lt (Nat.lt_of_lt_of_le (Heap.lt_size e) I.ok.above))).trans e1⟩
  ·obtain ⟨o',e1⟩:=I.base.there b o e hx
   exact ⟨o',(hs.2 b (Nat.ne_of_lt (Nat.lt_of_lt_of_le (Heap.lt_size e) I.ok.above))).trans e1⟩
  ·by_cases hj:j=i
   ·subst hj
    rw [hi] at e1;cases e1
    rw [List.getElem?_set_self hiσ] at e2
    cases e2
    exact ⟨u,r,.inl ⟨hk,by simp⟩⟩
   ·rw [List.getElem?_set_ne (Ne.symm hj)] at e2
    obtain ⟨u',r',q⟩:=hl j y v' e1 e2 e3
    refine ⟨u',r',?_⟩
    rcases q with ⟨k,e⟩ | ⟨k,c,e,z⟩
    ·refine .inl ⟨k,?_⟩
     have:y ≠ x:=fun e=>hj (nodup_ix hN e1 (e ▸ hi))
     simp [this,e]
    ·exact .inr ⟨k,c,e,z.sameBut hs (cne y c e)⟩
  ·obtain ⟨w',z⟩:=I.cell y c e
   exact ⟨w',z.sameBut hs (cne y c e)⟩
  ·obtain ⟨e,n,ne,nf,d⟩:=I.pin p hp
   exact ⟨(hs.2 p.1 ne).trans e,n,ne,nf,d⟩
 ·have hfn:X.fn x=true:=by
   rcases hf with z | z
   ·exact z
   ·rw [z] at hk;cases hk
  obtain ⟨c,hc⟩:=I.ok.has x (.inl hk)
  obtain ⟨w',z⟩:=I.cell x c hc
  refine wpAny_storeName_cell I.ok.kind hk hc z (fun h' hc' hs=>?_)
  obtain ⟨oc,hoc,hocd⟩:=id z
  refine h { s with heap:=h' } ⟨I.ok,I.os,I.bare,⟨fun b o e n hb hx=>?_,fun b o e n hb hx=>?_,I.base.free,fun b o e hx=>?_,I.base.tups,I.base.frzs,I.base.tbls⟩,⟨m,hn.sameBut hs (Ne.symm (cne x c hc)),fun j y v' e1 e2 e3=>?_⟩,fun y c' e=>?_,I.free,I.freeC,fun p hp=>?_,tracked ⟨oc,hoc,I.freeC x c hc⟩ hs,by simpa using I.len⟩ ⟨c,hs,.inr hc⟩
  ·exact (hs.2 b (Nat.ne_of_lt (Nat.lt_of_lt_of_le (Heap.lt_size e) (I.ok.cab x c hfn hc)))).trans (I.base.keep b o e n hb hx)
  ·obtain ⟨sl,e1⟩:=I.base.slot b o e n hb hx
   exact ⟨sl,(hs.2 b (Nat.ne_of_lt (Nat.lt_of_lt_of_le (Heap.lt_size e) (I.ok.cab x c hfn hc)))).trans e1⟩
  ·obtain ⟨o',e1⟩:=I.base.there b o e hx
   exact ⟨o',(hs.2 b (Nat.ne_of_lt (Nat.lt_of_lt_of_le (Heap.lt_size e) (I.ok.cab x c hfn hc)))).trans e1⟩
  ·by_cases hj:j=i
   ·subst hj
    rw [hi] at e1;cases e1
    rw [List.getElem?_set_self hiσ] at e2
    cases e2
    exact ⟨u,r,.inr ⟨.inl hk,c,hc,hc'⟩⟩
   ·rw [List.getElem?_set_ne (Ne.symm hj)] at e2
    obtain ⟨u',r',q⟩:=hl j y v' e1 e2 e3
    refine ⟨u',r',?_⟩
    rcases q with q | ⟨k,c',e,z'⟩
    ·exact .inl q
    ·refine .inr ⟨k,c',e,z'.sameBut hs ?_⟩
     rintro rfl
     exact hj (nodup_ix hN e1 (I.ok.inj _ _ _ e hc ▸ hi))
  ·by_cases hcc:c'=c
   ·subst hcc;exact ⟨_,hc'⟩
   ·obtain ⟨w2,z2⟩:=I.cell y c' e
    exact ⟨w2,z2.sameBut hs hcc⟩
  ·obtain ⟨e,n,ne,nf,d⟩:=I.pin p hp
   refine ⟨(hs.2 p.1 ?_).trans e,n,ne,nf,d⟩
   intro q
   rw [q,hoc] at e
   have q':oc=p.2:=Option.some.inj e
   exact d w' (by rw [← q'];exact hocd)
theorem store_ok {M:Model} {A:Around} {E:Value→Shared→Prop} {i:Nat} {x:Str} {v:V} {u:Value} {Q:Unit→Shared→Prop} (I:Inv X pins σ H s) (hN:X.N.Nodup) (hi:X.N[i]?=some x) (hx:Loc X.env.scope x) (r:RelV v u)
  (h:∀ s',Inv X pins (σ.set i (some v)) H s'→Q () s') (hf:X.fn x=true∨X.env.scope.names.lookup x=some .local:=by first | exact .inl rfl | exact .inr rfl | assumption):wpAny M A (storeName X.env x u) Q E s:=
 store_ok2 I hN hi hx r (fun s' I' _=>h s' I') hf
theorem Inv.call' {s':Shared} {ch:List Addr} (I:Inv X pins σ H s) (ho:s'.os=s.os) (u:Un (frs X.stack) ch H H' s.heap s'.heap) (hok:HOk X.prog X.w H' s'.heap) (hg:AllBare s'.gens)
  (hch:∀ b ∈ ch,(b ∈ X.ex∨X.s₀.heap.objs.size≤b)∧b ≠ X.env.locals∧(∀ x c,X.env.cells.lookup x=some c→c ≠ b)∧∀ p ∈ X.pn++pins,p.1 ≠ b):Inv X pins σ H' s':=by
 obtain ⟨h',g',d',t',o'⟩:=s'
 have e:o'=s.os:=ho
 subst e
 exact I.call (g':=g') (t':=t') (d':=d') u hok hg hch
end
abbrev XK:=Value→Option Addr→Hp→Prop
abbrev St:=List (Option V)
abbrev VK:=V→Hp→Prop
abbrev TE:=St→Hp→VK→Prop
abbrev TT:=St→Hp→(Bool→Hp→Prop)→Prop
abbrev TA:=St→Hp→(List V→Hp→Prop)→Prop
structure Ends where
 nx:St→Hp→Prop
 rt:VK
 bk:St→Hp→Prop:=fun _ _=>False
 ct:St→Hp→Prop:=fun _ _=>False
abbrev TS:=Ends→St→Hp→Prop
def EP (X:Cx) (pins:List (Addr × Obj)) (σ:St) (Q:VK) (u:Value) (s':Shared):Prop:=∃ v H',Inv X pins σ H' s'∧RelV v u∧Q v H'
def TP (X:Cx) (pins:List (Addr × Obj)) (σ:St) (Q:Bool→Hp→Prop) (b:Bool) (s':Shared):Prop:=∃ H',Inv X pins σ H' s'∧Q b H'
def AP (X:Cx) (pins:List (Addr × Obj)) (σ:St) (Q:List V→Hp→Prop) (us:List Value) (s':Shared):Prop:=∃ vs H',Inv X pins σ H' s'∧Vals vs us∧Q vs H'
def SP (X:Cx) (pins:List (Addr × Obj)) (D:Ends) (f:Flow) (s':Shared):Prop:=
 match f with
 | .next=>∃ σ' H',Inv X pins σ' H' s'∧D.nx σ' H'
 | .brk=>∃ σ' H',Inv X pins σ' H' s'∧D.bk σ' H'
 | .cont=>∃ σ' H',Inv X pins σ' H' s'∧D.ct σ' H'
 | .ret u=>∃ v σ' H',Inv X pins σ' H' s'∧RelV v u∧D.rt v H'
def PE (X:Cx) (e:Expr) (t:TE):Prop:=
 ∀ (pins:List (Addr × Obj)) (s:Shared) (σ:St) (H:Hp) (Q:VK),Inv X pins σ H s→t σ H Q→wpAny (model X.prog X.w) X.A (eval e X.env) (EP X pins σ Q) X.xe s
def PT (X:Cx) (e:Expr) (t:TT):Prop:=
 ∀ (pins:List (Addr × Obj)) (s:Shared) (σ:St) (H:Hp) (Q:Bool→Hp→Prop),Inv X pins σ H s→t σ H Q→wpAny (model X.prog X.w) X.A (isTrue e X.env (eval e X.env)) (TP X pins σ Q) X.xe s
def PW (X:Cx) (e:Expr) (t:TT):Prop:=
 ∀ (whole:Sem Value) (pins:List (Addr × Obj)) (s:Shared) (σ:St) (H:Hp) (Q:Bool→Hp→Prop),Inv X pins σ H s→t σ H Q→wpAny (model X.prog X.w) X.A (isTrue e X.env whole) (TP X pins σ Q) X.xe s
theorem PW.pt {X:Cx} {e:Expr} {t:TT} (h:PW X e t):PT X e t:=h _
def PA (X:Cx) (es:List Expr) (t:TA):Prop:=
 ∀ (pos:Pos) (pins:List (Addr × Obj)) (s:Shared) (σ:St) (H:Hp) (Q:List V→Hp→Prop),Inv X pins σ H s→t σ H Q→wpAny (model X.prog X.w) X.A (spliced (backTo pos (starEach es X.env))) (AP X pins σ Q) X.xe s
def PS (X:Cx) (st:Stmt) (t:TS):Prop:=
 ∀ (pins:List (Addr × Obj)) (s:Shared) (σ:St) (H:Hp) (D:Ends),Inv X pins σ H s→t D σ H→wpAny (model X.prog X.w) X.A (exec st X.env) (SP X pins D) X.xe s
def PSs (X:Cx) (st:List Stmt) (t:TS):Prop:=
 ∀ (pins:List (Addr × Obj)) (s:Shared) (σ:St) (H:Hp) (D:Ends),Inv X pins σ H s→t D σ H→wpAny (model X.prog X.w) X.A (execs st X.env) (SP X pins D) X.xe s
theorem thn {α:Type} {t:Sem α} {Q Q':α→Shared→Prop} {M:Model} {A:Around} {E:Value→Shared→Prop} {s:Shared} (h:wpAny M A t Q E s) (hQ:∀ a s,Q a s→Q' a s):wpAny M A t Q' E s:=wpAny_mono h hQ fun _ _ x=>x
end L2
namespace L2
open PySem PySem.Spec PyProof.Rows
section
variable {X:Cx}
theorem bin {a b:Expr} {ta tb:TE} (ha:PE X a ta) (hb:PE X b tb) {pins:List (Addr × Obj)} {s:Shared} {σ:St} {H:Hp} {R:V→V→Hp→Prop} (I:Inv X pins σ H s) (h:ta σ H fun x H1=>tb σ H1 fun y H2=>R x y H2)
  {α:Type} {Q:α→Shared→Prop} {f:Value→Value→Sem α}
  (hf:∀ v u s2 x y H2,Inv X pins σ H2 s2→RelV x v→RelV y u→R x y H2→wpAny (model X.prog X.w) X.A (f v u) Q X.xe s2) :
  wpAny (model X.prog X.w) X.A (eval a X.env) (fun v s₁=>wpAny (model X.prog X.w) X.A (eval b X.env) (fun u s₂=>wpAny (model X.prog X.w) X.A (f v u) Q X.xe s₂) X.xe s₁) X.xe s:=by
 refine thn (ha pins s σ H _ I h) fun v s1 ⟨x,H1,I1,r1,q1⟩=>?_
 refine thn (hb pins s1 σ H1 _ I1 q1) fun u s2 ⟨y,H2,I2,r2,q2⟩=>?_
 exact hf v u s2 x y H2 I2 r1 r2 q2
def tVar (i:Nat):TE:=fun σ H Q=>∃ v,σ[i]?=some (some v)∧Q v H
def tC (v:V):TE:=fun _ H Q=>Q v H
theorem pe_var {i:Nat} {x:Str} {pos:Pos} (hN:X.N[i]?=some x) (hv:Vis X.env.scope x) (hd:(x == ("__debug__" : Str))=false:=by decide) (hcd:(x == ("__classdict__" : Str))=false:=by decide):PE X (.Name x pos) (tVar i):=by
 intro pins s σ H Q I h
 obtain ⟨v,e,h⟩:=h
 obtain ⟨m,hn,hl⟩:=I.loc
 obtain ⟨u,r,l⟩:=hl i x v hN e hv
 have fin:EP X pins σ Q u s:=⟨v,H,I,r,h⟩
 rcases l with ⟨hk,hm⟩ | ⟨hk,c,hc,hcell⟩
 ·exact wpAny_Name (wpAny_loadName_local I.ok.kind hk hn hm fin) hd
 ·rcases hk with hk | hk
  ·exact wpAny_Name (wpAny_loadName_cell I.ok.kind hk hc hcell fin) hd
  ·exact wpAny_Name (wpAny_loadName_free I.ok.kind hk hc hcell fin hcd) hd
theorem pe_int {i j pos}:PE X (.Constant (.int i) j pos) (tC (.int i)):=fun _ _ _ H _ I h=>wpAny_Constant_int ⟨.int i,H,I.tok _,⟨_,rfl⟩,h⟩
theorem pe_bl {b j pos}:PE X (.Constant (.bool b) j pos) (tC (.bl b)):=fun _ _ _ H _ I h=>Constant_bool ⟨.bl b,H,I,rfl,h⟩
theorem pe_non {j pos}:PE X (.Constant .none j pos) (tC .non):=fun _ _ _ H _ I h=>Constant_none ⟨.non,H,I,rfl,h⟩
theorem pe_str {x j pos}:PE X (.Constant (.str x) j pos) (tC (.str x)):=fun _ _ _ H _ I h=>Calls.Constant_str ⟨.str x,H,I.tok _,⟨_,rfl⟩,h⟩
def Gl (X:Cx) (x:Str):Prop:=X.env.kindOf x=some .globalImplicit
theorem ld_glob {E:Value→Shared→Prop} {pins:List (Addr × Obj)} {s:Shared} {σ:St} {H:Hp} {x:Str} {u:Value} {pos:Pos} {Q:Value→Shared→Prop} (I:Inv X pins σ H s) (hg:Gl X x) (hm:X.mg x=some u) (h:Q u s)
  (hd:(x == ("__debug__" : Str))=false:=by decide):wpAny (model X.prog X.w) X.A (eval (.Name x pos) X.env) Q E s:=
 Calls.Name_function_global I.ok.kind hg (Calls.loadGlobal_global (by rw [I.ok.glob];exact I.mod.glob.keeps I.bk) hm h) hd
theorem ld_blt {E:Value→Shared→Prop} {pins:List (Addr × Obj)} {s:Shared} {σ:St} {H:Hp} {x:Str} {u:Value} {pos:Pos} {Q:Value→Shared→Prop} (I:Inv X pins σ H s) (hg:Gl X x) (hm:X.mg x=none) (hv:bootBuiltins x=some u) (h:Q u s)
  (hn:x ≠ "__name__":=by decide) (hd:(x == ("__debug__" : Str))=false:=by decide):wpAny (model X.prog X.w) X.A (eval (.Name x pos) X.env) Q E s:=by
 obtain ⟨mb,h1,h2⟩:=I.mod.blt
 exact Calls.Name_function_global I.ok.kind hg (Calls.loadGlobal_builtin (by rw [I.ok.glob];exact I.mod.glob.keeps I.bk) hm (by rw [I.ok.blt];exact h1.keeps I.bk) ((h2 x hn).trans hv) h) hd
theorem pe_bltn {x:Str} {v:V} {u:Value} {pos:Pos} (hg:Gl X x) (hm:X.mg x=none) (hv:bootBuiltins x=some u) (r:RelV v u) (hn:x ≠ "__name__":=by decide) (hd:(x == ("__debug__" : Str))=false:=by decide):PE X (.Name x pos) (tC v):=
 fun _ _ _ H _ I h=>ld_blt I hg hm hv ⟨v,H,I,r,h⟩ hn hd
variable {a b:Expr} {ta tb:TE} {pos:Pos}
def PC (X:Cx) (op:CmpOp) (a b:Expr) (t:TE):Prop:=
 ∀ (pins:List (Addr × Obj)) (s:Shared) (σ:St) (H:Hp) (Q:VK),Inv X pins σ H s→t σ H Q→
  wpAny (model X.prog X.w) X.A (eval a X.env) (fun v s₁=>wpAny (model X.prog X.w) X.A (eval b X.env) (fun u s₂=>wpAny (model X.prog X.w) X.A (compareOp op v u) (EP X pins σ Q) X.xe s₂) X.xe s₁) X.xe s
theorem nobehind (b:Expr) {op:CmpOp} (h:op ≠ .In) (h2:op ≠ .NotIn):behindInMarks op b=false:=by
 have e1:(op == CmpOp.In)=false:=by cases op <;> first | rfl | exact absurd rfl h
 have e2:(op == CmpOp.NotIn)=false:=by cases op <;> first | rfl | exact absurd rfl h2
 cases b <;> simp [behindInMarks,e1,e2]
def tIsN (ta:TE):TE:=fun σ H Q=>ta σ H fun x H1=>Q (.bl (decide (x=.non))) H1
def tNotN (ta:TE):TE:=fun σ H Q=>ta σ H fun x H1=>Q (.bl (!decide (x=.non))) H1
theorem RelV.none_iff {x:V} {v:Value} (r:RelV x v):(v == Value.none)=decide (x=.non):=by
 cases x with
 | non=>cases r;rfl
 | bl _=>cases r;rfl
 | int _=>obtain ⟨t,rfl⟩:=r;rfl
 | str _=>obtain ⟨t,rfl⟩:=r;rfl
 | byt _=>obtain ⟨t,rfl⟩:=r;rfl
 | flt _=>obtain ⟨t,rfl⟩:=r;rfl
 | ref _=>cases r;rfl
 | ty _=>cases r;rfl
theorem pc_isN {j pos'} (ha:PE X a ta):PC X .Is a (.Constant .none j pos') (tIsN ta):=by
 intro pins s σ H Q I h
 refine thn (ha pins s σ H _ I h) fun v s1 ⟨x,H1,I1,r1,q1⟩=>?_
 exact Constant_none (is_none_gen ⟨.bl _,H1,I1,by rw [r1.none_iff];rfl,q1⟩)
theorem pc_notN {j pos'} (ha:PE X a ta):PC X .IsNot a (.Constant .none j pos') (tNotN ta):=by
 intro pins s σ H Q I h
 refine thn (ha pins s σ H _ I h) fun v s1 ⟨x,H1,I1,r1,q1⟩=>?_
 exact Constant_none (isnot_none_gen ⟨.bl _,H1,I1,by rw [r1.none_iff];rfl,q1⟩)
def tB (t:TE):TT:=fun σ H Q=>t σ H fun x H1=>∃ c,x=.bl c∧Q c H1
theorem pe_cmp {op:CmpOp} {t:TE} (h:PC X op a b t) (h1:behindInMarks op b=false:=by first | exact nobehind _ (by decide) (by decide) | rfl):PE X (.Compare a [op] [b] pos) t:=fun pins s σ H Q I hw=>wpAny_Compare1 (h pins s σ H Q I hw) h1
theorem pt_cmp {op:CmpOp} {t:TE} (h:PC X op a b t) (h1:behindInMarks op b=false:=by first | exact nobehind _ (by decide) (by decide) | rfl):PT X (.Compare a [op] [b] pos) (tB t):=by
 intro pins s σ H Q I hw
 refine wpAny_isTrue_Compare1 (thn (h pins s σ H _ I hw) fun v s1 h1=>thn h1 fun u s2 h2=>thn h2 fun c s3 ⟨x,H1,I1,r1,q1⟩=>?_) h1
 obtain ⟨d,rfl,q⟩:=q1
 cases r1
 exact wpAny_truthy_bool ⟨H1,I1,q⟩
theorem pt_val {e:Expr} {t:TE} (h:PE X e t) (he:∀ whole,isTrue e X.env whole=(do let v ← whole;standAt e.pos;holding [v] (truthy v)):=by intro _;rfl):PT X e (tB t):=by
 intro pins s σ H Q I hw
 refine isTrue_plain (thn (h pins s σ H _ I hw) fun v s1 ⟨x,H1,I1,r1,q1⟩=>?_) (he _)
 obtain ⟨d,rfl,q⟩:=q1
 cases r1
 exact wpAny_truthy_bool ⟨H1,I1,q⟩
variable {tA tB':TT} {rest:List Expr}
def tAnd (t u:TT):TT:=fun σ H Q=>t σ H fun c H1=>if c=true then u σ H1 Q else Q false H1
def tOr (t u:TT):TT:=fun σ H Q=>t σ H fun c H1=>if c=true then Q true H1 else u σ H1 Q
def tNot (t:TT):TT:=fun σ H Q=>t σ H fun c H1=>Q (!c) H1
theorem pw_and1 (ha:PT X a tA):PW X (.BoolOp .And [a] pos) tA:=by
 intro wh pins s σ H Q I h
 refine isTrue_and (thn (ha pins s σ H Q I h) fun c s1 e=>?_)
 cases c with
 | true=>exact isTrue_and_nil e
 | false=>exact e
theorem pw_or1 (ha:PT X a tA):PW X (.BoolOp .Or [a] pos) tA:=by
 intro wh pins s σ H Q I h
 refine isTrue_or (thn (ha pins s σ H Q I h) fun c s1 e=>?_)
 cases c with
 | false=>exact isTrue_or_nil e
 | true=>exact e
theorem pw_and (ha:PT X a tA) (hb:PW X (.BoolOp .And (b::rest) pos) tB'):PW X (.BoolOp .And (a::b::rest) pos) (tAnd tA tB'):=by
 intro wh pins s σ H Q I h
 refine isTrue_and (thn (ha pins s σ H _ I h) fun c s1 ⟨H1,I1,q1⟩=>?_)
 cases c with
 | true=>exact hb wh pins s1 σ H1 Q I1 q1
 | false=>exact ⟨H1,I1,q1⟩
theorem pw_or (ha:PT X a tA) (hb:PW X (.BoolOp .Or (b::rest) pos) tB'):PW X (.BoolOp .Or (a::b::rest) pos) (tOr tA tB'):=by
 intro wh pins s σ H Q I h
 refine isTrue_or (thn (ha pins s σ H _ I h) fun c s1 ⟨H1,I1,q1⟩=>?_)
 cases c with
 | true=>exact ⟨H1,I1,q1⟩
 | false=>exact hb wh pins s1 σ H1 Q I1 q1
theorem pt_not (ha:PT X a tA):PT X (.UnaryOp .Not a pos) (tNot tA):=by
 intro pins s σ H Q I h
 exact isTrue_not (ha pins s σ H (fun c H1=>Q (!c) H1) I h)
def tAndV (ta tb:TE):TE:=fun σ H Q=>ta σ H fun x H1=>∃ c,x=.bl c∧if c=true then tb σ H1 Q else Q (.bl false) H1
theorem pe_one {op} {t:TE} (h:PE X a t):PE X (.BoolOp op [a] pos) t:=fun pins s σ H Q I hw=>BoolOp_one (h pins s σ H Q I hw)
theorem pe_and (ha:PE X a ta) (hb:PE X (.BoolOp .And (b::rest) pos) tb):PE X (.BoolOp .And (a::b::rest) pos) (tAndV ta tb):=by
 intro pins s σ H Q I h
 refine BoolOp_and (thn (ha pins s σ H _ I h) fun v s1 ⟨x,H1,I1,r1,q1⟩=>?_)
 obtain ⟨c,rfl,q1⟩:=q1
 cases r1
 refine wpAny_truthy_bool ?_
 cases c with
 | true=>exact hb pins s1 σ H1 Q I1 q1
 | false=>exact ⟨.bl false,H1,I1,rfl,q1⟩
def tIf (t:TT) (ta tb:TE):TE:=fun σ H Q=>t σ H fun c H1=>if c=true then ta σ H1 Q else tb σ H1 Q
theorem pe_ifExp {c:Expr} (hc:PT X c tA) (ha:PE X a ta) (hb:PE X b tb):PE X (.IfExp c a b pos) (tIf tA ta tb):=by
 intro pins s σ H Q I h
 refine wpAny_IfExp (thn (hc pins s σ H _ I h) fun d s1 ⟨H1,I1,q1⟩=>?_)
 cases d with
 | true=>exact ha pins s1 σ H1 Q I1 q1
 | false=>exact hb pins s1 σ H1 Q I1 q1
end
end L2
namespace L2
open PySem PySem.Spec PyProof.Rows
def SqL (K:PySem.W.Frag) (H:Hp) (a:Addr) (xs:List V):Prop:=
 Rd H a (.lst xs)∨
  ∃ (o:Obj) (its:Array Value) (n:Nat),K.lookup a=some o∧o.cls=.type "list"∧o.dict=none∧o.data=.seq its n∧its.size≤sizeLine∧Vals xs its.toList
def SqT (K:PySem.W.Frag) (H:Hp) (a:Addr) (xs:List V):Prop:=
 Rd H a (.tup xs)∨
  ∃ (o:Obj) (its:Array Value) (n:Nat),K.lookup a=some o∧o.cls=.type "tuple"∧o.data=.seq its n∧its.size≤sizeLine∧Vals xs its.toList
def absV:Value→Option V
 | .none=>some .non
 | .bool b=>some (.bl b)
 | .int i _=>some (.int i)
 | .str x _=>some (.str x)
 | .bytes b _=>some (.byt b)
 | .float b _=>some (.flt b)
 | .ref a=>some (.ref a)
 | .type n=>some (.ty n)
 | _=>none
theorem RelV.abs {x:V} {u:Value} (r:RelV x u):absV u=some x:=by
 cases x with
 | non=>cases r;rfl
 | bl _=>cases r;rfl
 | int _=>obtain ⟨t,rfl⟩:=r;rfl
 | str _=>obtain ⟨t,rfl⟩:=r;rfl
 | byt _=>obtain ⟨t,rfl⟩:=r;rfl
 | flt _=>obtain ⟨t,rfl⟩:=r;rfl
 | ref _=>cases r;rfl
 | ty _=>cases r;rfl
theorem RelV.inj {x y:V} {u:Value} (r:RelV x u) (q:RelV y u):x=y:=Option.some.inj (r.abs.symm.trans q.abs)
theorem Vals.inj:∀ {xs ys:List V} {us:List Value},Vals xs us→Vals ys us→xs=ys
 | _,_,_,.nil,.nil=>rfl
 | _,_,_,.cons r t,.cons r' t'=>by rw [r.inj r',Vals.inj t t']
section
variable {X:Cx} {pins:List (Addr × Obj)} {σ:St} {H:Hp} {s:Shared} {a:Addr} {xs ys:List V}
theorem SqL.of {K:PySem.W.Frag} (h:H a=some (.lst xs)):SqL K H a xs:=.inl (.inl h)
theorem SqT.of {K:PySem.W.Frag} (h:H a=some (.tup xs)):SqT K H a xs:=.inl (.inl h)
theorem Inv.list (I:Inv X pins σ H s) (h:SqL X.K H a xs):∃ its:List Value,Vals xs its∧PlainL s.heap a its.toArray∧xs.length≤sizeLine:=by
 rcases h with h | ⟨o,its,n,hk,hc,hd,hs,hz,r⟩
 ·obtain ⟨z,its,n,r,e⟩:=h.ok I.hok
  exact ⟨its,r,⟨_,n,e,rfl,rfl,rfl⟩,z⟩
 ·refine ⟨its.toList,r,⟨o,n,I.kIn a o hk,hc,hd,by simpa using hs⟩,?_⟩
  have e:=r.length
  simp only [Array.length_toList] at e
  omega
theorem Inv.tuple (I:Inv X pins σ H s) (h:SqT X.K H a xs):∃ its:List Value,Vals xs its∧IsTup s.heap a its.toArray∧xs.length≤sizeLine:=by
 rcases h with h | ⟨o,its,n,hk,hc,hs,hz,r⟩
 ·obtain ⟨z,its,r,p⟩:=h.ok I.hok
  exact ⟨its,r,p,z⟩
 ·refine ⟨its.toList,r,⟨o,I.kIn a o hk,hc,n,by simpa using hs⟩,?_⟩
  have e:=r.length
  simp only [Array.length_toList] at e
  omega
theorem Inv.list_inj (I:Inv X pins σ H s) (h:SqL X.K H a xs) (h':SqL X.K H a ys):xs=ys:=by
 obtain ⟨its,r,⟨o,n,e,_,_,d⟩,_⟩:=I.list h
 obtain ⟨its',r',⟨o',n',e',_,_,d'⟩,_⟩:=I.list h'
 rw [e] at e';cases e'
 rw [d] at d'
 injection d' with d1 _
 have:its=its':=by simpa using congrArg Array.toList d1
 subst this
 exact r.inj r'
theorem Inv.tuple_inj (I:Inv X pins σ H s) (h:SqT X.K H a xs) (h':SqT X.K H a ys):xs=ys:=by
 obtain ⟨its,r,⟨o,e,_,n,d⟩,_⟩:=I.tuple h
 obtain ⟨its',r',⟨o',e',_,n',d'⟩,_⟩:=I.tuple h'
 rw [e] at e';cases e'
 rw [d] at d'
 injection d' with d1 _
 have:its=its':=by simpa using congrArg Array.toList d1
 subst this
 exact r.inj r'
end
abbrev Cx.wish (X:Cx) (E:Value→Shared→Prop):Cx:={ X with xe:=E }
abbrev Cx.nox (X:Cx):Cx:=X.wish fun _ _=>False
theorem Cx.Ok.wish {X:Cx} (ok:X.Ok) (E:Value→Shared→Prop):(X.wish E).Ok:=
 ⟨ok.mod,ok.kind,ok.glob,ok.blt,ok.above,ok.inj,ok.has,ok.cab,ok.hd,ok.frames,ok.stk,ok.exf,ok.bs,ok.bsz,ok.noex,ok.exfs,ok.funs,ok.frf⟩
theorem Cx.Ok.unwish {X:Cx} {E:Value→Shared→Prop} (ok:(X.wish E).Ok):X.Ok:=
 ⟨ok.mod,ok.kind,ok.glob,ok.blt,ok.above,ok.inj,ok.has,ok.cab,ok.hd,ok.frames,ok.stk,ok.exf,ok.bs,ok.bsz,ok.noex,ok.exfs,ok.funs,ok.frf⟩
section
variable {X:Cx} {pins:List (Addr × Obj)} {σ:St} {H:Hp} {s:Shared} {E:Value→Shared→Prop}
theorem Inv.wish (I:Inv X pins σ H s) (E:Value→Shared→Prop):Inv (X.wish E) pins σ H s:=⟨I.ok.wish E,I.os,I.bare,I.base,I.loc,I.cell,I.free,I.freeC,I.pin,I.hok,I.len⟩
theorem Inv.unwish (I:Inv (X.wish E) pins σ H s):Inv X pins σ H s:=⟨I.ok.unwish,I.os,I.bare,I.base,I.loc,I.cell,I.free,I.freeC,I.pin,I.hok,I.len⟩
theorem SP.unwish {D:Ends} {f:Flow} {s':Shared} (h:SP (X.wish E) pins D f s'):SP X pins D f s':=by
 cases f with
 | next=>obtain ⟨σ',H',I,q⟩:=h;exact ⟨σ',H',I.unwish,q⟩
 | brk=>obtain ⟨σ',H',I,q⟩:=h;exact ⟨σ',H',I.unwish,q⟩
 | cont=>obtain ⟨σ',H',I,q⟩:=h;exact ⟨σ',H',I.unwish,q⟩
 | ret u=>obtain ⟨v,σ',H',I,r,q⟩:=h;exact ⟨v,σ',H',I.unwish,r,q⟩
theorem PSs.nox {st:List Stmt} {t:TS} (h:PSs X.nox st t):PSs X st t:=fun pins s σ H D I hw=>
 wpAny_mono (h pins s σ H D (I.wish _) hw) (fun _ _ q=>q.unwish) fun _ _ z=>False.elim z
end
section
variable {X:Cx} {st:Stmt} {rest:List Stmt} {t u:TS} {e:Expr} {te:TE} {pos:Pos}
def tNext:TS:=fun D σ H=>D.nx σ H
def tSeq (t u:TS):TS:=fun D σ H=>t { D with nx:=u D } σ H
theorem pss_nil:PSs X [] tNext:=fun _ _ σ H _ I h=>wpAny_execs_nil ⟨σ,H,I,h⟩
theorem pss_cons (h1:PS X st t) (h2:PSs X rest u):PSs X (st::rest) (tSeq t u):=by
 intro pins s σ H D I h
 refine wpAny_execs_cons (thn (h1 pins s σ H { D with nx:=u D } I h) fun f s1 q=>?_)
 cases f with
 | next=>
  obtain ⟨σ',H',I',q⟩:=q
  exact h2 pins s1 σ' H' D I' q
 | ret v=>exact q
 | brk=>exact q
 | cont=>exact q
theorem pss_one (h1:PS X st t):PSs X [st] t:=by
 intro pins s σ H D I h
 refine wpAny_execs_cons (thn (h1 pins s σ H D I h) fun f s1 q=>?_)
 cases f with
 | next=>exact wpAny_execs_nil q
 | ret v=>exact q
 | brk=>exact q
 | cont=>exact q
theorem Inv.quiet {pins:List (Addr × Obj)} {σ:St} {H:Hp} {s:Shared} (I:Inv X pins σ H s):interactive X.env=false:=by simp [interactive,I.ok.kind]
def tDrop (te:TE):TS:=fun D σ H=>te σ H fun _ H1=>D.nx σ H1
theorem ps_expr (he:PE X e te) (hs:swapsWith e none pos.line X.env=pure false:=by rfl):PS X (.Expr e pos) (tDrop te):=by
 intro pins s σ H D I h
 exact wpAny_Expr_any (thn (he pins s σ H _ I h) fun v s1 ⟨x,H1,I1,r1,q1⟩=>⟨σ,H1,I1,q1⟩) I.quiet hs
def tRet (te:TE):TS:=fun D σ H=>te σ H D.rt
theorem ps_ret (he:PE X e te):PS X (.Return (some e) pos) (tRet te):=by
 intro pins s σ H D I h
 exact wpAny_Return_some (thn (he pins s σ H _ I h) fun v s1 ⟨x,H1,I1,r1,q1⟩=>⟨x,σ,H1,I1,r1,q1⟩)
def tIfS (c:TT) (t u:TS):TS:=fun D σ H=>c σ H fun b H1=>if b=true then t D σ H1 else u D σ H1
theorem ps_if {c:Expr} {a b:List Stmt} {tc:TT} (hc:PT X c tc) (ha:PSs X a t) (hb:PSs X b u):PS X (.If c a b pos) (tIfS tc t u):=by
 intro pins s σ H D I h
 refine wpAny_If (thn (hc pins s σ H _ I h) fun d s1 ⟨H1,I1,q1⟩=>?_)
 cases d with
 | true=>exact ha pins s1 σ H1 D I1 q1
 | false=>exact hb pins s1 σ H1 D I1 q1
end
abbrev TG:=V→St→Hp→(St→Hp→Prop)→Prop
abbrev TGs:=List V→St→Hp→(St→Hp→Prop)→Prop
def PG (X:Cx) (target:Expr) (t:TG):Prop:=
 ∀ (pins:List (Addr × Obj)) (s:Shared) (σ:St) (H:Hp) (v:V) (u:Value) (Q:St→Hp→Prop),Inv X pins σ H s→RelV v u→t v σ H Q→
  wpAny (model X.prog X.w) X.A (assign target X.env u) (fun _ s'=>∃ σ' H',Inv X pins σ' H' s'∧Q σ' H') X.xe s
def PGs (X:Cx) (ts:List Expr) (t:TGs):Prop:=
 ∀ (pins:List (Addr × Obj)) (s:Shared) (σ:St) (H:Hp) (vs:List V) (us:List Value) (Q:St→Hp→Prop),Inv X pins σ H s→Vals vs us→t vs σ H Q→
  wpAny (model X.prog X.w) X.A (assignInOrder ((assignEach ts X.env).map (·.2)) us) (fun _ s'=>∃ σ' H',Inv X pins σ' H' s'∧Q σ' H') X.xe s
abbrev TSet:=V→V→V→Hp→(Hp→Prop)→Prop
def PSet (X:Cx) (t:TSet):Prop:=
 ∀ (pins:List (Addr × Obj)) (s:Shared) (σ:St) (H:Hp) (o i v:V) (ov iv u:Value) (Q:Hp→Prop),Inv X pins σ H s→RelV o ov→RelV i iv→RelV v u→t o i v H Q→
  wpAny (model X.prog X.w) X.A (setItem ov iv u) (fun _ s'=>∃ H',Inv X pins σ H' s'∧Q H') X.xe s
section
variable {X:Cx} {pos:Pos}
def gName (i:Nat):TG:=fun v σ H Q=>Q (σ.set i (some v)) H
theorem pg_name {i:Nat} {x:Str} (hN:X.N.Nodup) (hi:X.N[i]?=some x) (hx:Loc X.env.scope x) (hf:X.fn x=true∨X.env.scope.names.lookup x=some .local:=by first | exact .inl rfl | exact .inr rfl | assumption):PG X (.Name x pos) (gName i):=by
 intro pins s σ H v u Q I r h
 exact wpAny_assign_Name (store_ok I hN hi hx r (fun s' I'=>⟨_,H,I',h⟩) hf)
def gNil:TGs:=fun vs σ H Q=>vs=[]∧Q σ H
def gCons (t:TG) (u:TGs):TGs:=fun vs σ H Q=>∃ v r,vs=v::r∧t v σ H fun σ' H'=>u r σ' H' Q
theorem pgs_nil:PGs X [] gNil:=by
 intro pins s σ H vs us Q I r h
 obtain ⟨e,h⟩:=h
 subst e
 cases r
 exact assignInOrder_nil ⟨σ,H,I,h⟩
theorem pgs_cons {e:Expr} {es:List Expr} {t:TG} {u:TGs} (h1:PG X e t) (h2:PGs X es u)
  (hs:(assignEach (e::es) X.env).map (·.2)=assign e X.env::(assignEach es X.env).map (·.2):=by rfl):PGs X (e::es) (gCons t u):=by
 intro pins s σ H vs us Q I r h
 obtain ⟨v,vr,e1,h⟩:=h
 subst e1
 cases r with
 | cons r rr=>
  rw [hs]
  refine assignInOrder_cons (thn (h1 pins s σ H _ _ _ I r h) fun _ s1 ⟨σ1,H1,I1,q1⟩=>?_)
  exact h2 pins s1 σ1 H1 _ _ Q I1 rr q1
def gTup (K:PySem.W.Frag) (n:Nat) (t:TGs):TG:=fun v σ H Q=>∃ a xs,v=.ref a∧SqT K H a xs∧xs.length=n∧t xs σ H Q
theorem pg_tup {es:List Expr} {k:Nat} {t:TGs} {n:Nat} (hc:X.calm=true) (h:PGs X es t)
  (hn:(assignEach es X.env).length=n:=by rfl) (hst:(assignEach es X.env).findIdx? (·.1)=none:=by rfl):PG X (.Tuple es k pos) (gTup X.K n t):=by
 intro pins s σ H v u Q I r hw
 obtain ⟨a,xs,e1,hq,hl,hw⟩:=hw
 subst e1
 cases r
 obtain ⟨its,rv,ht,hz⟩:=I.tuple hq
 refine assign_Tuple_tuple (I.ok.hd hc) ht (by simp [hn,← hl,rv.length]) hst fun h' hx=>?_
 have I1:Inv X pins σ H { s with heap:=h' }:=I.kept (t':=s.toks) fun b o e=>hx b o (Nat.ne_of_lt (Heap.lt_size e)) e
 exact h pins _ σ H xs _ Q I1 (by simpa using rv) hw
def gSub (to ti:TE) (t:TSet):TG:=fun v σ H Q=>to σ H fun o H1=>ti σ H1 fun i H2=>t o i v H2 fun H3=>Q σ H3
theorem pg_sub {o i:Expr} {to ti:TE} {t:TSet} (ho:PE X o to) (hi:PE X i ti) (hs:PSet X t)
  (ha:∀ v,assign (.Subscript o i pos) X.env v=(do
   let ov ← holding [v] (eval o X.env)
   let iv ← holding [v,ov] (eval i X.env)
   standAt pos
   holding [v,ov,iv] (setItem ov iv v)
   release [v,ov,iv] []):=by intro _;rfl):PG X (.Subscript o i pos) (gSub to ti t):=by
 intro pins s σ H v u Q I r h
 rw [ha]
 refine wpAny_bind (wpAny_holding (thn (ho pins s σ H _ I h) fun ov s1 ⟨x,H1,I1,r1,q1⟩=>?_))
 refine wpAny_bind (wpAny_holding (thn (hi pins s1 σ H1 _ I1 q1) fun iv s2 ⟨y,H2,I2,r2,q2⟩=>?_))
 refine wpAny_bind (wpAny_standAt (wpAny_bind (wpAny_holding (thn (hs pins s2 σ H2 x y v ov iv u _ I2 r1 r2 r q2) fun _ s3 ⟨H3,I3,q3⟩=>?_))))
 exact wpAny_release ⟨σ,H3,I3,q3⟩
def tAsg (te:TE) (g:TG):TS:=fun D σ H=>te σ H fun x H1=>g x σ H1 D.nx
theorem ps_asg {tg e:Expr} {te:TE} {g:TG} (he:PE X e te) (hg:PG X tg g) (hs:swapsWithSole [tg] e pos.line X.env=pure false:=by rfl) (hw:swappedStores [tg] e X.env=pure none:=by rfl)
  (h1:(assignEach [tg] X.env).map (·.2)=[assign tg X.env]:=by rfl):PS X (.Assign [tg] e pos) (tAsg te g):=by
 intro pins s σ H D I h
 refine wpAny_Assign_stores (thn (he pins s σ H _ I h) fun v s1 ⟨x,H1,I1,r1,q1⟩=>?_) hs hw
 rw [h1]
 exact thn (hg pins s1 σ H1 x v _ I1 r1 q1) fun _ s2 q=>q
theorem ps_set {i:Nat} {x:Str} {e:Expr} {te:TE} {pos':Pos} (hN:X.N.Nodup) (hi:X.N[i]?=some x) (hx:Loc X.env.scope x) (he:PE X e te) (hs:swapsWith e (some (.Name x pos')) pos.line X.env=pure false:=by rfl) (hf:X.fn x=true∨X.env.scope.names.lookup x=some .local:=by first | exact .inl rfl | exact .inr rfl | assumption) :
  PS X (.Assign [.Name x pos'] e pos) (tAsg te (gName i)):=by
 intro pins s σ H D I h
 refine wpAny_Assign_Name (thn (he pins s σ H _ I h) fun v s1 ⟨y,H1,I1,r1,q1⟩=>?_) hs
 exact store_ok I1 hN hi hx r1 (fun s2 I2=>⟨_,H1,I2,q1⟩) hf
end
section
variable {X:Cx} {pos:Pos}
def tWhile (c:TT) (tb:TS):TS:=fun D σ H=>∃ W:Nat→St→Hp→Prop,(∃ m,W m σ H)∧∀ m σ H,W m σ H→
 c σ H fun b H1=>if b=true then ∃ N:St→Hp→Prop,(∀ σ' H',N σ' H'→∃ m',m'<m∧W m' σ' H')∧tb { D with nx:=N,ct:=N,bk:=D.nx } σ H1 else D.nx σ H1
theorem ps_while {c:Expr} {body:List Stmt} {tc:TT} {tb:TS} (hp:PassesOwn (model X.prog X.w) X.A X.env X.xe) (hc:PT X c tc) (hb:PSs X body tb):PS X (.While c body [] pos) (tWhile tc tb):=by
 intro pins s σ H D I h
 obtain ⟨W,⟨m0,w0⟩,turn⟩:=h
 refine wpAny_While (codeAny_whileLoop (fun n s'=>∃ σ' H',Inv X pins σ' H' s'∧W n σ' H') ?_ m0 ⟨σ,H,I,w0⟩)
 rintro n s1 ⟨σ1,H1,I1,w1⟩
 refine wpAny_passesOwn hp (thn (hc pins s1 σ1 H1 _ I1 (turn n σ1 H1 w1)) fun b s2 ⟨H2,I2,q2⟩=>?_)
 cases b with
 | true=>
  obtain ⟨N,hN,q2⟩:=q2
  rw [if_pos rfl]
  refine wpAny_passesOwn hp (thn (hb pins s2 σ1 H2 _ I2 q2) fun f s3 q3=>?_)
  cases f with
  | next=>
   obtain ⟨σ3,H3,I3,n3⟩:=q3
   obtain ⟨m',hm,w3⟩:=hN σ3 H3 n3
   exact ⟨m',hm,σ3,H3,I3,w3⟩
  | cont=>
   obtain ⟨σ3,H3,I3,n3⟩:=q3
   obtain ⟨m',hm,w3⟩:=hN σ3 H3 n3
   exact ⟨m',hm,σ3,H3,I3,w3⟩
  | brk=>exact q3
  | ret v=>exact q3
 | false=>
  rw [if_neg Bool.false_ne_true]
  exact wpAny_execs_nil ⟨σ1,H2,I2,q2⟩
end
structure It where
 go:Nat→Hp→Prop
 yld:Nat→Hp→V→Hp→Prop
 stop:Nat→Hp→Prop
def FpOk (X:Cx) (pins:List (Addr × Obj)) (H:Hp) (b:Addr):Prop:=
 H b=none∧b ≠ X.env.locals∧b ∉ X.fs∧(b ∈ X.ex∨X.s₀.heap.objs.size≤b)∧(∀ x c,X.env.cells.lookup x=some c→c ≠ b)∧∀ p ∈ X.pn++pins,p.1 ≠ b
theorem Inv.fpOk {X:Cx} {pins:List (Addr × Obj)} {σ:St} {H H':Hp} {s:Shared} {b:Addr} (I:Inv X pins σ H s) (hb:s.heap.objs.size≤b) (hn:H' b=none):FpOk X pins H' b:=by
 refine ⟨hn,Nat.ne_of_gt (Nat.lt_of_lt_of_le I.lt hb),I.nofs hb,.inr (Nat.le_trans I.sz hb),fun x c e z=>?_,fun p hp z=>?_⟩
 ·obtain ⟨v,q⟩:=I.cell x c e
  exact absurd (Nat.lt_of_lt_of_le q.lt (by rw [z];exact hb)) (Nat.lt_irrefl _)
 ·exact absurd (Nat.lt_of_lt_of_le (Heap.lt_size (I.pin p hp).1) (by rw [z];exact hb)) (Nat.lt_irrefl _)
structure Turn (P:Program) (w:World) (K:PySem.W.Frag) (tg:Expr) (J:It) (fp:List Addr) (it:Addr) (tn:Nat→Heap→Prop):Prop where
 mem:it ∈ fp
 obj:∀ i h,tn i h→∀ b ∈ fp,∃ o,h.get? b=some o∧∀ v,o.data ≠ .cell v
 keep:∀ i h h',tn i h→(∀ b ∈ fp,∀ o,h.get? b=some o→h'.get? b=some o)→tn i h'
 item:∀ (X:Cx),X.prog=P→X.w=w→X.K=K→X.calm=true→∀ (i:Nat) (pins:List (Addr × Obj)) (s:Shared) (σ:St) (H:Hp) (E:Value→Shared→Prop),Inv X pins σ H s→(∀ b ∈ fp,FpOk X pins H b)→tn i s.heap→J.go i H→
  wpAny (model P w) X.A (pyNext (.ref it)) (fun r s1=>∃ u,r=some u∧
   wpAny (model P w) X.A (letOwnedTupleGo tg (.ref it) u) (fun _ s2=>∃ x H',Inv X pins σ H' s2∧RelV x u∧J.yld i H x H'∧tn (i+1) s2.heap∧∀ b ∈ fp,H' b=none) E s1) E s
 done:∀ (X:Cx),X.prog=P→X.w=w→X.K=K→X.calm=true→∀ (i:Nat) (pins:List (Addr × Obj)) (s:Shared) (σ:St) (H:Hp) (E:Value→Shared→Prop),Inv X pins σ H s→(∀ b ∈ fp,FpOk X pins H b)→tn i s.heap→J.stop i H→
  wpAny (model P w) X.A (pyNext (.ref it)) (fun r s1=>r=none∧Inv X pins σ H s1) E s
 self:∀ (A:Around) (i:Nat) (s:Shared) (Q:Value→Shared→Prop) (E:Value→Shared→Prop),tn i s.heap→Q (.ref it) s→wpAny (model P w) A (pyIter (.ref it)) Q E s
abbrev TI:=St→Hp→(It→Hp→Prop)→Prop
def PIE (X:Cx) (pins:List (Addr × Obj)) (σ:St) (tg:Expr) (R:It→Hp→Prop) (itv:Value) (s2:Shared):Prop:=
 ∃ (it:Addr) (fp:List Addr) (tn:Nat→Heap→Prop) (J:It) (H':Hp),itv=.ref it∧Inv X pins σ H' s2∧Turn X.prog X.w X.K tg J fp it tn∧tn 0 s2.heap∧(∀ b ∈ fp,FpOk X pins H' b)∧R J H'
def PI (X:Cx) (tg iter:Expr) (wi:TI):Prop:=
 ∀ (pins:List (Addr × Obj)) (s:Shared) (σ:St) (H:Hp) (R:It→Hp→Prop),Inv X pins σ H s→wi σ H R→
  wpAny (model X.prog X.w) X.A (eval iter X.env) (fun v s1=>wpAny (model X.prog X.w) X.A (pyIter v) (PIE X pins σ tg R) X.xe s1) X.xe s
theorem go_of {M:Model} {A:Around} {E:Value→Shared→Prop} {s:Shared} {tg:Expr} {it:Addr} {u:Value} {o:Obj} {n:String} {vs:Array Value} {Q:Unit→Shared→Prop} (ho:s.heap.get? it=some o) (hc:o.cls=.type n) (hd:o.data=.fields vs)
  (hn:["enumerate","zip","dict_itemiterator","dict_reverseitemiterator","odict_iterator","itertools.zip_longest","itertools.pairwise"].contains n=false) (hQ:Q () s):wpAny M A (letOwnedTupleGo tg (.ref it) u) Q E s:=by
 unfold letOwnedTupleGo
 cases tg <;> first
  | exact wpAny_pure hQ
  | (cases u <;> first
    | exact wpAny_pure hQ
    | (refine wpAny_bind (wpAny_load ho ?_)
       rw [hc,hd]
       show wpAny M A (if (["enumerate","zip","dict_itemiterator","dict_reverseitemiterator","odict_iterator","itertools.zip_longest","itertools.pairwise"].contains n && vs[0]? == some (rawInt _))=true then _ else _) Q E s
       rw [if_neg (by intro h;rw [hn,Bool.false_and] at h;cases h)]
       exact wpAny_pure hQ))
def Itl (K:PySem.W.Frag) (a:Addr):It:=
 ⟨fun i H=>∃ xs x,SqL K H a xs∧xs[i]?=some x,fun i H x H'=>H'=H∧∀ xs,SqL K H a xs→xs[i]?=some x,fun i H=>∃ xs,SqL K H a xs∧xs.length≤i⟩
def Itt (K:PySem.W.Frag) (a:Addr):It:=
 ⟨fun i H=>∃ xs x,SqT K H a xs∧xs[i]?=some x,fun i H x H'=>H'=H∧∀ xs,SqT K H a xs→xs[i]?=some x,fun i H=>∃ xs,SqT K H a xs∧xs.length≤i⟩
def Itr (lo:Int) (n:Nat):It:=⟨fun i _=>i<n,fun i H x H'=>H'=H∧x=.int (lo+i),fun i _=>n≤i⟩
theorem turn_list {P:Program} {w:World} {K:PySem.W.Frag} {tg:Expr} (a it:Addr):Turn P w K tg (Itl K a) [it] it (fun i h=>h.IsListIter it a i) where
 mem:=by simp
 obj:=fun i h st b hb=>by
  have e:b=it:=by simpa using hb
  subst e
  obtain ⟨o,e,c,d⟩:=st
  exact ⟨o,e,fun v z=>by rw [d] at z;cases z⟩
 keep:=fun i h h' st k=>st.at fun o e=>k it (by simp) o e
 item:=by
  intro X hP hw hK hc i pins s σ H E I hf st hg
  subst hP hw hK
  obtain ⟨xs,x,hq,hx⟩:=hg
  obtain ⟨its,rv,p,hz⟩:=I.list hq
  obtain ⟨u,hu,ru⟩:=rv.get hx
  obtain ⟨f0,f1,f2,f3,f4,f5⟩:=hf it (by simp)
  refine wpAny_pyNext_list_item st p.isList (x:=u) (by simpa using hu) fun h' st' sb=>?_
  have I1:Inv X pins σ H { s with heap:=h' }:=I.turned (t':=s.toks) (fun b o hb e=>(sb.2 b hb).trans e) f0 f1 f3 f4 f5
  obtain ⟨o,e,c,d⟩:=id st'
  exact ⟨u,rfl,go_of (s:={ s with heap:=h' }) e c d (by decide) ⟨x,H,I1,ru,⟨rfl,fun ys hy=>by rw [I.list_inj hy hq];exact hx⟩,st',fun b hb=>(hf b hb).1⟩⟩
 done:=by
  intro X hP hw hK hc i pins s σ H E I hf st hg
  subst hP hw hK
  obtain ⟨xs,hq,hx⟩:=hg
  obtain ⟨its,rv,p,hz⟩:=I.list hq
  obtain ⟨f0,f1,f2,f3,f4,f5⟩:=hf it (by simp)
  have hl:=rv.length
  exact wpAny_pyNext_list_end (I.ok.hd hc) st p.isList (by simp;omega) fun h' eb=>⟨rfl,I.turned (t':=s.toks) (fun b o hb e=>eb b o hb e) f0 f1 f3 f4 f5⟩
 self:=fun _ _ _ _ _ st h=>wpAny_pyIter_listiter st h
theorem turn_tuple {P:Program} {w:World} {K:PySem.W.Frag} {tg:Expr} (a it:Addr):Turn P w K tg (Itt K a) [it] it (fun i h=>h.IsTupleIter it a i) where
 mem:=by simp
 obj:=fun i h st b hb=>by
  have e:b=it:=by simpa using hb
  subst e
  obtain ⟨o,e,c,d⟩:=st
  exact ⟨o,e,fun v z=>by rw [d] at z;cases z⟩
 keep:=fun i h h' st k=>st.at fun o e=>k it (by simp) o e
 item:=by
  intro X hP hw hK hc i pins s σ H E I hf st hg
  subst hP hw hK
  obtain ⟨xs,x,hq,hx⟩:=hg
  obtain ⟨its,rv,p,hz⟩:=I.tuple hq
  obtain ⟨u,hu,ru⟩:=rv.get hx
  obtain ⟨f0,f1,f2,f3,f4,f5⟩:=hf it (by simp)
  refine wpAny_pyNext_tuple_item st (show s.heap.IsTuple a its.toArray from p) (x:=u) (by simpa using hu) fun h' st' sb=>?_
  have I1:Inv X pins σ H { s with heap:=h' }:=I.turned (t':=s.toks) (fun b o hb e=>(sb.2 b hb).trans e) f0 f1 f3 f4 f5
  obtain ⟨o,e,c,d⟩:=id st'
  exact ⟨u,rfl,go_of (s:={ s with heap:=h' }) e c d (by decide) ⟨x,H,I1,ru,⟨rfl,fun ys hy=>by rw [I.tuple_inj hy hq];exact hx⟩,st',fun b hb=>(hf b hb).1⟩⟩
 done:=by
  intro X hP hw hK hc i pins s σ H E I hf st hg
  subst hP hw hK
  obtain ⟨xs,hq,hx⟩:=hg
  obtain ⟨its,rv,p,hz⟩:=I.tuple hq
  obtain ⟨f0,f1,f2,f3,f4,f5⟩:=hf it (by simp)
  have hl:=rv.length
  exact wpAny_pyNext_tuple_end (I.ok.hd hc) st (show s.heap.IsTuple a its.toArray from p) (by simp;omega) fun h' eb=>⟨rfl,I.turned (t':=s.toks) (fun b o hb e=>eb b o hb e) f0 f1 f3 f4 f5⟩
 self:=fun _ _ _ _ _ st h=>wpAny_pyIter_tupleiter st h
theorem turn_range {P:Program} {w:World} {K:PySem.W.Frag} {tg:Expr} (it:Addr) (lo:Int) (n:Nat):Turn P w K tg (Itr lo n) [it] it (fun i h=>IsRangeIter h it (lo+(i:Nat) * 1) ((n:Int) - (i:Nat)) 1) where
 mem:=by simp
 obj:=fun i h st b hb=>by
  have e:b=it:=by simpa using hb
  subst e
  exact ⟨_,st,fun v z=>by
   have z':Data.fields _=Data.cell v:=z
   cases z'⟩
 keep:=fun i h h' st k=>k it (by simp) _ st
 item:=by
  intro X hP hw hK hc i pins s σ H E I hf st hg
  subst hP hw hK
  obtain ⟨f0,f1,f2,f3,f4,f5⟩:=hf it (by simp)
  have W:=Walks.range (prog:=X.prog) (w:=X.w) (I.ok.hd hc) it lo 1 n
  refine W.item i s _ _ hg st fun v h' tk hv st' kk=>?_
  obtain ⟨t,rfl⟩:=hv
  have I1:Inv X pins σ H { s with heap:=h',toks:=tk }:=I.turned (fun b o hb e=>kk b o (by simpa using hb) e) f0 f1 f3 f4 f5
  refine ⟨_,rfl,go_of (s:={ s with heap:=h',toks:=tk }) (n:="range_iterator") st' rfl rfl (by decide) ⟨.int (lo+i),H,I1,⟨t,?_⟩,⟨rfl,rfl⟩,st',fun b hb=>(hf b hb).1⟩⟩
  rw [Int.mul_one]
 done:=by
  intro X hP hw hK hc i pins s σ H E I hf st hg
  subst hP hw hK
  obtain ⟨f0,f1,f2,f3,f4,f5⟩:=hf it (by simp)
  exact wpAny_pyNext_range_end (I.ok.hd hc) st (by have:n≤i:=hg;omega) fun h' eb=>⟨rfl,I.turned (t':=s.toks) (fun b o hb e=>eb b o hb e) f0 f1 f3 f4 f5⟩
 self:=fun _ _ _ _ _ st h=>wpAny_pyIter_rangeiter st h
end L2
namespace L2
open PySem PySem.Spec PyProof.Rows
section
variable {X:Cx} {tg:Expr}
def iList (K:PySem.W.Frag) (tl:TE):TI:=fun σ H R=>tl σ H fun x H1=>∃ a,x=.ref a∧(∃ xs,SqL K H1 a xs)∧R (Itl K a) H1
def iTup (K:PySem.W.Frag) (tl:TE):TI:=fun σ H R=>tl σ H fun x H1=>∃ a,x=.ref a∧(∃ xs,SqT K H1 a xs)∧R (Itt K a) H1
theorem pi_list {l:Expr} {tl:TE} (hl:PE X l tl):PI X tg l (iList X.K tl):=by
 intro pins s σ H R I h
 refine thn (hl pins s σ H _ I h) fun v s1 ⟨x,H1,I1,r1,q1⟩=>?_
 obtain ⟨a,e,⟨xs,hq⟩,q⟩:=q1
 subst e
 cases r1
 obtain ⟨its,rv,p,hz⟩:=I1.list hq
 refine wpAny_pyIter_list p.isList ?_
 refine ⟨s1.heap.objs.size,[s1.heap.objs.size],_,_,H1,rfl,I1.kept (t':=s1.toks) fun b o e=>Heap.get?_push_of_some _ e,turn_list a _,⟨_,Heap.get?_push_size _ rfl,rfl,rfl⟩,fun b hb=>?_,q⟩
 have e:b=s1.heap.objs.size:=by simpa using hb
 subst e
 exact I1.fpOk (Nat.le_refl _) (I1.hok.fresh (Nat.le_refl _))
theorem pi_tup {l:Expr} {tl:TE} (hl:PE X l tl):PI X tg l (iTup X.K tl):=by
 intro pins s σ H R I h
 refine thn (hl pins s σ H _ I h) fun v s1 ⟨x,H1,I1,r1,q1⟩=>?_
 obtain ⟨a,e,⟨xs,hq⟩,q⟩:=q1
 subst e
 cases r1
 obtain ⟨its,rv,p,hz⟩:=I1.tuple hq
 refine wpAny_pyIter_tuple (show s1.heap.IsTuple a its.toArray from p) ?_
 refine ⟨s1.heap.objs.size,[s1.heap.objs.size],_,_,H1,rfl,I1.kept (t':=s1.toks) fun b o e=>Heap.get?_push_of_some _ e,turn_tuple a _,⟨_,Heap.get?_push_size _ rfl,rfl,rfl⟩,fun b hb=>?_,q⟩
 have e:b=s1.heap.objs.size:=by simpa using hb
 subst e
 exact I1.fpOk (Nat.le_refl _) (I1.hok.fresh (Nat.le_refl _))
theorem range_it {pins:List (Addr × Obj)} {σ:St} {H:Hp} {s:Shared} {R:It→Hp→Prop} {E:Value→Shared→Prop} {lo hi:Int} {t u v:Tok} {tk:Nat} (I:Inv X pins σ H s) (h1:-(2 ^ 62)≤lo) (h2:lo<2 ^ 62) (h3:-(2 ^ 62)≤hi) (h4:hi<2 ^ 62)
  (q:R (Itr lo (hi - lo).toNat) H):wpAny (model X.prog X.w) X.A (pyIter (.ref s.heap.objs.size)) (PIE X pins σ tg R) E { s with heap:=s.heap.push { cls:=.type "range",data:=.fields #[.int lo t,.int hi u,.int 1 v] },toks:=tk }:=by
 refine wpAny_pyIter_range (IsRange.new ..) (small_one h1 h2 h3 h4) ?_
 have I1:Inv X pins σ H { s with heap:=s.heap.push { cls:=.type "range",data:=.fields #[.int lo t,.int hi u,.int 1 v] },toks:=tk }:=I.kept fun b o e=>Heap.get?_push_of_some _ e
 refine ⟨(s.heap.push { cls:=.type "range",data:=.fields #[.int lo t,.int hi u,.int 1 v] }).objs.size,[(s.heap.push { cls:=.type "range",data:=.fields #[.int lo t,.int hi u,.int 1 v] }).objs.size],_,_,H,rfl,
  I1.kept (t':=tk) fun b o e=>Heap.get?_push_of_some _ e,turn_range _ lo (hi - lo).toNat,?_,fun b hb=>?_,q⟩
 ·have e1:lo+((0:Nat):Int) * 1=lo:=by simp
  have e2:(((hi - lo).toNat:Nat):Int) - ((0:Nat):Int)=Builtin.Range.rangeSize lo hi 1:=by rw [rangeSize_one];split <;> omega
  show IsRangeIter _ _ (lo+((0:Nat):Int) * 1) ((((hi - lo).toNat:Nat):Int) - ((0:Nat):Int)) 1
  rw [e1,e2]
  exact Heap.get?_push_size _ rfl
 ·have e:b=(s.heap.push { cls:=.type "range",data:=.fields #[.int lo t,.int hi u,.int 1 v] }).objs.size:=by simpa using hb
  subst e
  exact I1.fpOk (Nat.le_refl _) (I1.hok.fresh (Nat.le_refl _))
def iRng1 (ta:TA):TI:=fun σ H R=>ta σ H fun vs H1=>∃ j:Int,vs=[.int j]∧-(2 ^ 62)≤j∧j<2 ^ 62∧R (Itr 0 j.toNat) H1
theorem pi_range1 {a:Expr} {ta:TA} {p pos:Pos} (hg:Gl X "range") (hm:X.mg "range" = none) (ha:PA X [a] ta) (hs:starEach [a] X.env=[(false,eval a X.env)]:=by rfl):PI X tg (.Call (.Name "range" p) [a] [] pos) (iRng1 ta):=by
 intro pins s σ H R I h
 refine Call_ (ld_blt I hg hm boot_range (PyProof.Rows.callWith_type1 (thn (ha pos pins s σ H _ I h) fun us s1 ⟨vs,H1,I1,r1,q1⟩=>?_) hs rfl))
 obtain ⟨j,e,q1,q2,q⟩:=q1
 subst e
 cases r1 with
 | cons r rr=>
  cases rr
  obtain ⟨t,rfl⟩:=r
  exact call_range_1 (range_it I1 (by omega) (by omega) q1 q2 (by simpa using q))
def tFor (wi:TI) (g:TG) (tb:TS):TS:=fun D σ H=>wi σ H fun J H1=>∃ W:Nat→Nat→St→Hp→Prop,(∃ m,W 0 m σ H1)∧∀ i m σ H,W i m σ H→
 (J.stop i H∧D.nx σ H)∨(J.go i H∧∃ N:St→Hp→Prop,(∀ σ' H',N σ' H'→∃ m',m'<m∧W (i+1) m' σ' H')∧∀ x H',J.yld i H x H'→g x σ H' fun σ2 H2=>tb { D with nx:=N,ct:=N,bk:=D.nx } σ2 H2)
def pinsAt (fp:List Addr) (h:Heap):List (Addr × Obj):=fp.filterMap fun b=>(h.get? b).map fun o=>(b,o)
theorem mem_pinsAt {fp:List Addr} {h:Heap} {b:Addr} {o:Obj} (hb:b ∈ fp) (e:h.get? b=some o):(b,o) ∈ pinsAt fp h:=List.mem_filterMap.mpr ⟨b,hb,by rw [e];rfl⟩
theorem of_pinsAt {fp:List Addr} {h:Heap} {p:Addr × Obj} (hp:p ∈ pinsAt fp h):p.1 ∈ fp∧h.get? p.1=some p.2:=by
 obtain ⟨b,hb,e⟩:=List.mem_filterMap.mp hp
 cases q:h.get? b with
 | none=>rw [q] at e;cases e
 | some o=>
  rw [q] at e
  have e':(b,o)=p:=Option.some.inj e
  subst e'
  exact ⟨hb,q⟩
theorem Inv.pinned {pins:List (Addr × Obj)} {σ:St} {H:Hp} {s:Shared} {fp:List Addr} (I:Inv X pins σ H s) (hf:∀ b ∈ fp,FpOk X pins H b) (ho:∀ b ∈ fp,∃ o,s.heap.get? b=some o∧∀ v,o.data ≠ .cell v):Inv X (pins++pinsAt fp s.heap) σ H s:=
 I.pins_of fun p hp=>(List.mem_append.mp hp).elim (fun z=>I.pin p (List.mem_append_right _ z)) fun z=>by
  obtain ⟨hb,e⟩:=of_pinsAt z
  obtain ⟨f0,f1,f2,_⟩:=hf p.1 hb
  obtain ⟨o,e',d⟩:=ho p.1 hb
  rw [e] at e';cases e'
  exact ⟨e,f0,f1,f2,d⟩
theorem Inv.unpinned {pins pl:List (Addr × Obj)} {σ:St} {H:Hp} {s:Shared} (I:Inv X (pins++pl) σ H s):Inv X pins σ H s:=I.pins_of fun p hp=>I.pin p (List.mem_append_right _ (List.mem_append_left _ hp))
theorem ps_for {iter:Expr} {body:List Stmt} {wi:TI} {g:TG} {tb:TS} {pos:Pos} (hp:PassesOwn (model X.prog X.w) X.A X.env X.xe) (hc:X.calm=true) (hi:PI X tg iter wi) (hg:PG X tg g) (hb:PSs X body tb)
  (hs:∀ x,foldedSetIterable iter X.env x=pure x:=by intro _;rfl):PS X (.For tg iter body [] pos) (tFor wi g tb):=by
 intro pins s σ H D I h
 refine wpAny_For (thn (hi pins s σ H _ I h) fun v s1 h1=>thn h1 fun itv s2 h2=>?_) hs
 obtain ⟨it,fp,tn,J,H2,e,I2,T,st2,f2,W,⟨m0,w0⟩,turn⟩:=h2
 subst e
 -- what stays true of the iterator's objects through the loop
 have stat:∀ {H':Hp},(∀ b ∈ fp,H' b=none)→∀ b ∈ fp,FpOk X pins H' b:=fun hn b hb=>⟨hn b hb,(f2 b hb).2⟩
 refine codeAny_forLoop_any (fun n s'=>∃ i σ' H',Inv X pins σ' H' s'∧tn i s'.heap∧(∀ b ∈ fp,H' b=none)∧W i n σ' H') ?_ m0 ⟨0,σ,H2,I2,st2,fun b hb=>(f2 b hb).1,w0⟩
 rintro n s3 ⟨i,σ3,H3,I3,st3,fr3,w3⟩
 rcases turn i n σ3 H3 w3 with ⟨stop,qn⟩ | ⟨go,N,hN,step⟩
 ·refine wpAny_passesOwn hp (thn (T.done X rfl rfl rfl hc i pins s3 σ3 H3 X.xe I3 (stat fr3) st3 stop) fun r s4 ⟨hr,I4⟩=>?_)
  subst hr
  exact wpAny_execs_nil ⟨σ3,H3,I4,qn⟩
 ·refine wpAny_passesOwn hp (thn (T.item X rfl rfl rfl hc i pins s3 σ3 H3 X.xe I3 (stat fr3) st3 go) fun r s4 ⟨u,hr,h4⟩=>?_)
  subst hr
  refine wpAny_passesOwn hp (thn h4 fun _ s5 ⟨x,H5,I5,r5,y5,st5,fr5⟩=>?_)
  have I5':=I5.pinned (stat fr5) (T.obj _ _ st5)
  refine wpAny_passesOwn hp (thn (hg _ s5 σ3 H5 x u _ I5' r5 (step x H5 y5)) fun _ s6 ⟨σ6,H6,I6,q6⟩=>?_)
  refine wpAny_passesOwn hp (thn (hb _ s6 σ6 H6 _ I6 q6) fun f s7 q7=>?_)
  have again:∀ {σ7:St} {H7:Hp},Inv X (pins++pinsAt fp s5.heap) σ7 H7 s7→N σ7 H7→∃ m,m<n∧∃ i σ' H',Inv X pins σ' H' s7∧tn i s7.heap∧(∀ b ∈ fp,H' b=none)∧W i m σ' H':=fun {σ7 H7} I7 n7=>by
   obtain ⟨m',hm,w7⟩:=hN σ7 H7 n7
   refine ⟨m',hm,i+1,σ7,H7,I7.unpinned,T.keep _ _ _ st5 fun b hb o e=>(I7.pin (b,o) (List.mem_append_right _ (List.mem_append_right _ (mem_pinsAt hb e)))).1,fun b hb=>?_,w7⟩
   obtain ⟨o,e,d⟩:=T.obj _ _ st5 b hb
   exact (I7.pin (b,o) (List.mem_append_right _ (List.mem_append_right _ (mem_pinsAt hb e)))).2.1
  cases f with
  | next=>obtain ⟨σ7,H7,I7,n7⟩:=q7;exact again I7 n7
  | cont=>obtain ⟨σ7,H7,I7,n7⟩:=q7;exact again I7 n7
  | brk=>obtain ⟨σ7,H7,I7,q7⟩:=q7;exact ⟨σ7,H7,I7.unpinned,q7⟩
  | ret v=>obtain ⟨x7,σ7,H7,I7,r7,q7⟩:=q7;exact ⟨x7,σ7,H7,I7.unpinned,r7,q7⟩
end
theorem for_list {K:PySem.W.Frag} {a:Addr} {xs:List V} {g:TG} {tb:TS} {D:Ends} {σ:St} {H:Hp} (Pv:Nat→St→Hp→Prop) (h0:Pv 0 σ H) (hl:∀ i σ H,i≤xs.length→Pv i σ H→SqL K H a xs)
  (hs:∀ i x σ H,xs[i]?=some x→Pv i σ H→g x σ H fun σ2 H2=>tb { D with nx:=Pv (i+1),ct:=Pv (i+1),bk:=D.nx } σ2 H2) (hd:∀ σ H,Pv xs.length σ H→D.nx σ H) :
  ∃ W:Nat→Nat→St→Hp→Prop,(∃ m,W 0 m σ H)∧∀ i m σ H,W i m σ H→
   ((Itl K a).stop i H∧D.nx σ H)∨((Itl K a).go i H∧∃ N:St→Hp→Prop,(∀ σ' H',N σ' H'→∃ m',m'<m∧W (i+1) m' σ' H')∧∀ x H',(Itl K a).yld i H x H'→g x σ H' fun σ2 H2=>tb { D with nx:=N,ct:=N,bk:=D.nx } σ2 H2):=by
 refine ⟨fun i m σ H=>m=xs.length - i∧i≤xs.length∧Pv i σ H,⟨xs.length,by simp,Nat.zero_le _,h0⟩,?_⟩
 rintro i m σ H ⟨rfl,hi,p⟩
 have q:=hl i σ H hi p
 by_cases hlt:i<xs.length
 ·refine .inr ⟨⟨xs,xs[i],q,by simp [hlt]⟩,Pv (i+1),fun σ' H' p'=>⟨xs.length - (i+1),by omega,rfl,hlt,p'⟩,fun x H' y=>?_⟩
  obtain ⟨e,y⟩:=y
  subst e
  exact hs i x σ _ (y xs q) p
 ·have e:i=xs.length:=by omega
  subst e
  exact .inl ⟨⟨xs,q,Nat.le_refl _⟩,hd σ H p⟩
theorem for_tup {K:PySem.W.Frag} {a:Addr} {xs:List V} {g:TG} {tb:TS} {D:Ends} {σ:St} {H:Hp} (Pv:Nat→St→Hp→Prop) (h0:Pv 0 σ H) (hl:∀ i σ H,i≤xs.length→Pv i σ H→SqT K H a xs)
  (hs:∀ i x σ H,xs[i]?=some x→Pv i σ H→g x σ H fun σ2 H2=>tb { D with nx:=Pv (i+1),ct:=Pv (i+1),bk:=D.nx } σ2 H2) (hd:∀ σ H,Pv xs.length σ H→D.nx σ H) :
  ∃ W:Nat→Nat→St→Hp→Prop,(∃ m,W 0 m σ H)∧∀ i m σ H,W i m σ H→
   ((Itt K a).stop i H∧D.nx σ H)∨((Itt K a).go i H∧∃ N:St→Hp→Prop,(∀ σ' H',N σ' H'→∃ m',m'<m∧W (i+1) m' σ' H')∧∀ x H',(Itt K a).yld i H x H'→g x σ H' fun σ2 H2=>tb { D with nx:=N,ct:=N,bk:=D.nx } σ2 H2):=by
 refine ⟨fun i m σ H=>m=xs.length - i∧i≤xs.length∧Pv i σ H,⟨xs.length,by simp,Nat.zero_le _,h0⟩,?_⟩
 rintro i m σ H ⟨rfl,hi,p⟩
 have q:=hl i σ H hi p
 by_cases hlt:i<xs.length
 ·refine .inr ⟨⟨xs,xs[i],q,by simp [hlt]⟩,Pv (i+1),fun σ' H' p'=>⟨xs.length - (i+1),by omega,rfl,hlt,p'⟩,fun x H' y=>?_⟩
  obtain ⟨e,y⟩:=y
  subst e
  exact hs i x σ _ (y xs q) p
 ·have e:i=xs.length:=by omega
  subst e
  exact .inl ⟨⟨xs,q,Nat.le_refl _⟩,hd σ H p⟩
theorem for_range {lo:Int} {n:Nat} {g:TG} {tb:TS} {D:Ends} {σ:St} {H:Hp} (Pv:Nat→St→Hp→Prop) (h0:Pv 0 σ H)
  (hs:∀ i σ H,i<n→Pv i σ H→g (.int (lo+i)) σ H fun σ2 H2=>tb { D with nx:=Pv (i+1),ct:=Pv (i+1),bk:=D.nx } σ2 H2) (hd:∀ σ H,Pv n σ H→D.nx σ H) :
  ∃ W:Nat→Nat→St→Hp→Prop,(∃ m,W 0 m σ H)∧∀ i m σ H,W i m σ H→
   ((Itr lo n).stop i H∧D.nx σ H)∨((Itr lo n).go i H∧∃ N:St→Hp→Prop,(∀ σ' H',N σ' H'→∃ m',m'<m∧W (i+1) m' σ' H')∧∀ x H',(Itr lo n).yld i H x H'→g x σ H' fun σ2 H2=>tb { D with nx:=N,ct:=N,bk:=D.nx } σ2 H2):=by
 refine ⟨fun i m σ H=>m=n - i∧i≤n∧Pv i σ H,⟨n,by simp,Nat.zero_le _,h0⟩,?_⟩
 rintro i m σ H ⟨rfl,hi,p⟩
 by_cases hlt:i<n
 ·refine .inr ⟨hlt,Pv (i+1),fun σ' H' p'=>⟨n - (i+1),by omega,rfl,hlt,p'⟩,fun x H' y=>?_⟩
  obtain ⟨e,y⟩:=y
  subst e y
  exact hs i σ _ hlt p
 ·have e:i=n:=by omega
  subst e
  exact .inl ⟨Nat.le_refl _,hd σ H p⟩
end L2
namespace L2
open PySem PySem.Spec PyProof.Rows
abbrev R2:=V→V→Hp→VK→Prop
def OpR (X:Cx) (f:Value→Value→Sem Value) (r:R2):Prop:=
 ∀ (pins:List (Addr × Obj)) (s:Shared) (σ:St) (H:Hp) (x y:V) (v u:Value) (Q:VK),Inv X pins σ H s→RelV x v→RelV y u→r x y H Q→
  wpAny (model X.prog X.w) X.A (f v u) (EP X pins σ Q) X.xe s
def UnR (X:Cx) (f:Value→Sem Value) (r:V→Hp→VK→Prop):Prop:=
 ∀ (pins:List (Addr × Obj)) (s:Shared) (σ:St) (H:Hp) (x:V) (v:Value) (Q:VK),Inv X pins σ H s→RelV x v→r x H Q→
  wpAny (model X.prog X.w) X.A (f v) (EP X pins σ Q) X.xe s
def CallR (X:Cx) (f:Value) (r:List V→Hp→VK→Prop):Prop:=
 ∀ (pins:List (Addr × Obj)) (s:Shared) (σ:St) (H:Hp) (xs:List V) (us:List Value) (Q:VK),Inv X pins σ H s→Vals xs us→r xs H Q→
  wpAny (model X.prog X.w) X.A (call f us) (EP X pins σ Q) X.xe s
def tOp (r:R2) (ta tb:TE):TE:=fun σ H Q=>ta σ H fun x H1=>tb σ H1 fun y H2=>r x y H2 Q
def tUn (r:V→Hp→VK→Prop) (ta:TE):TE:=fun σ H Q=>ta σ H fun x H1=>r x H1 Q
def rI (C:Int→Int→Prop) (g:Int→Int→V):R2:=fun x y H Q=>∃ i j,x=.int i∧y=.int j∧C i j∧Q (g i j) H
def rI0 (g:Int→Int→V):R2:=fun x y H Q=>∃ i j,x=.int i∧y=.int j∧Q (g i j) H
def rU (g:Int→V):V→Hp→VK→Prop:=fun x H Q=>∃ i,x=.int i∧Q (g i) H
section
variable {X:Cx} {a b c:Expr} {ta tb tc:TE} {pos:Pos}
theorem binT (ha:PE X a ta) (hb:PE X b tb) {pins:List (Addr × Obj)} {s:Shared} {σ:St} {H:Hp} {R:V→V→Hp→Prop} (I:Inv X pins σ H s)
  (h:ta σ H fun x H1=>tb σ H1 fun y H2=>R x y H2) {Q:Value→Shared→Prop} {f:Value→Value→Sem Value}
  (hf:∀ v u s2 x y H2,Inv X pins σ H2 s2→RelV x v→RelV y u→R x y H2→wpAny (model X.prog X.w) X.A (f v u) Q X.xe s2) :
  wpAny (model X.prog X.w) X.A (eval a X.env) (fun v s₁=>wpAny (model X.prog X.w) X.A (eval b X.env) (fun u s₂=>wpAny (model X.prog X.w) X.A (f v u) Q X.xe s₂) X.xe s₁) X.xe s:=by
 refine thn (ha pins s σ H _ I h) fun v s1 ⟨x,H1,I1,r1,q1⟩=>?_
 refine thn (hb pins s1 σ H1 _ I1 q1) fun u s2 ⟨y,H2,I2,r2,q2⟩=>?_
 exact hf v u s2 x y H2 I2 r1 r2 q2
theorem pe_op {op:Operator} {r:R2} (ho:OpR X (binaryOp op) r) (ha:PE X a ta) (hb:PE X b tb):PE X (.BinOp a op b pos) (tOp r ta tb):=by
 intro pins s σ H Q I h
 exact wpAny_BinOp (binT ha hb I h fun v u s2 x y H2 I2 rx ry q=>ho pins s2 σ H2 x y v u Q I2 rx ry q)
theorem pe_un {op:UnaryOp} {r:V→Hp→VK→Prop} (ho:UnR X (unaryOp op) r) (ha:PE X a ta):PE X (.UnaryOp op a pos) (tUn r ta):=by
 intro pins s σ H Q I h
 exact UnaryOp_ (thn (ha pins s σ H _ I h) fun v s1 ⟨x,H1,I1,r1,q1⟩=>ho pins s1 σ H1 x v Q I1 r1 q1)
theorem opI {f:Value→Value→Sem Value} {C:Int→Int→Prop} {g:Int→Int→Int}
  (rule:∀ (i j:Int) (t u:Tok) (s:Shared) (Q:Value→Shared→Prop) (E:Value→Shared→Prop),C i j→Q (.int (g i j) s.toks) { s with toks:=s.toks+1 }→wpAny (model X.prog X.w) X.A (f (.int i t) (.int j u)) Q E s) :
  OpR X f (rI C fun i j=>.int (g i j)):=by
 intro pins s σ H x y v u Q I rx ry h
 obtain ⟨i,j,rfl,rfl,hc,q⟩:=h
 obtain ⟨t,rfl⟩:=rx
 obtain ⟨t',rfl⟩:=ry
 exact rule i j t t' s _ _ hc ⟨.int (g i j),H,I.tok _,⟨_,rfl⟩,q⟩
theorem opI0 {f:Value→Value→Sem Value} {g:Int→Int→Int}
  (rule:∀ (i j:Int) (t u:Tok) (s:Shared) (Q:Value→Shared→Prop) (E:Value→Shared→Prop),Q (.int (g i j) s.toks) { s with toks:=s.toks+1 }→wpAny (model X.prog X.w) X.A (f (.int i t) (.int j u)) Q E s) :
  OpR X f (rI0 fun i j=>.int (g i j)):=by
 intro pins s σ H x y v u Q I rx ry h
 obtain ⟨i,j,rfl,rfl,q⟩:=h
 obtain ⟨t,rfl⟩:=rx
 obtain ⟨t',rfl⟩:=ry
 exact rule i j t t' s _ _ ⟨.int (g i j),H,I.tok _,⟨_,rfl⟩,q⟩
theorem opB0 {f:Value→Value→Sem Value} {g:Int→Int→Bool}
  (rule:∀ (i j:Int) (t u:Tok) (s:Shared) (Q:Value→Shared→Prop) (E:Value→Shared→Prop),Q (.bool (g i j)) s→wpAny (model X.prog X.w) X.A (f (.int i t) (.int j u)) Q E s) :
  OpR X f (rI0 fun i j=>.bl (g i j)):=by
 intro pins s σ H x y v u Q I rx ry h
 obtain ⟨i,j,rfl,rfl,q⟩:=h
 obtain ⟨t,rfl⟩:=rx
 obtain ⟨t',rfl⟩:=ry
 exact rule i j t t' s _ _ ⟨.bl (g i j),H,I,rfl,q⟩
def CDiv (i j:Int):Prop:=0<j∧j<1073741824
def CPow (i j:Int):Prop:=0≤j∧j≤1000000∧i.natAbs<2 ^ 64
def CMul (i j:Int):Prop:=(-(2 ^ 64)<i∧i<2 ^ 64)∨(-(2 ^ 64)<j∧j<2 ^ 64)
theorem CMul.ok {i j:Int} (h:CMul i j):IntMulOk i j:=by
 rcases h with ⟨h1,h2⟩ | ⟨h1,h2⟩
 ·exact .of_left (intBits_le_64 h1 h2)
 ·exact .of_right (intBits_le_64 h1 h2)
theorem op_add:OpR X (binaryOp .Add) (rI0 fun i j=>.int (i+j)):=opI0 fun _ _ _ _ _ _ _ q=>add_int q
theorem op_sub:OpR X (binaryOp .Sub) (rI0 fun i j=>.int (i - j)):=opI0 fun _ _ _ _ _ _ _ q=>sub_int q
theorem op_mul:OpR X (binaryOp .Mult) (rI CMul fun i j=>.int (i * j)):=opI fun _ _ _ _ _ _ _ hc q=>mul_int q hc.ok
theorem op_fdiv:OpR X (binaryOp .FloorDiv) (rI CDiv fun i j=>.int (i / j)):=opI fun i j _ _ _ _ _ hc q=>by
 have h1:(0:Int)<j:=hc.1
 have h2:j<1073741824:=hc.2
 exact floordiv_int (by omega) (by rw [Int.fdiv_eq_ediv_of_nonneg i (by omega)];exact q) (.inl (PyProof.noPylong_small (by omega)))
theorem op_mod:OpR X (binaryOp .Mod) (rI (fun _ j=>0<j) fun i j=>.int (i % j)):=opI fun i j _ _ _ _ _ hc q=>by
 have h1:(0:Int)<j:=hc
 exact mod_int' (by omega) (by rw [Int.fmod_eq_emod_of_nonneg i (by omega)];exact q)
theorem op_pow:OpR X (binaryOp .Pow) (rI CPow fun i j=>.int (i ^ j.toNat)):=opI fun _ _ _ _ _ _ _ hc q=>pow_int_small hc.1 hc.2.1 hc.2.2 q
theorem unI {f:Value→Sem Value} {g:Int→Int}
  (rule:∀ (i:Int) (t:Tok) (s:Shared) (Q:Value→Shared→Prop) (E:Value→Shared→Prop),Q (.int (g i) s.toks) { s with toks:=s.toks+1 }→wpAny (model X.prog X.w) X.A (f (.int i t)) Q E s) :
  UnR X f (rU fun i=>.int (g i)):=by
 intro pins s σ H x v Q I rx h
 obtain ⟨i,rfl,q⟩:=h
 obtain ⟨t,rfl⟩:=rx
 exact rule i t s _ _ ⟨.int (g i),H,I.tok _,⟨_,rfl⟩,q⟩
theorem un_neg:UnR X (unaryOp .USub) (rU fun i=>.int (-i)):=unI fun _ _ _ _ _ q=>neg_int q
end
def scal:V→V→Bool
 | .non,.non=>true | .non,.int _=>true | .int _,.non=>true | .non,.bl _=>true | .bl _,.non=>true | .non,.str _=>true | .str _,.non=>true
 | .int _,.int _=>true | .bl _,.bl _=>true | .str _,.str _=>true | .byt _,.byt _=>true
 | .int _,.str _=>true | .str _,.int _=>true | .bl _,.str _=>true | .str _,.bl _=>true
 | _,_=>false
def rEq:R2:=fun x y H Q=>scal x y=true∧Q (.bl (decide (x=y))) H
def rNe:R2:=fun x y H Q=>scal x y=true∧Q (.bl (!decide (x=y))) H
theorem dec_int {i j:Int}:decide (V.int i=V.int j)=(i == j):=by
 rw [Bool.eq_iff_iff]
 simp
theorem dec_bl {i j:Bool}:decide (V.bl i=V.bl j)=(i == j):=by
 rw [Bool.eq_iff_iff]
 simp
theorem dec_str {i j:Str}:decide (V.str i=V.str j)=(i == j):=by
 rw [Bool.eq_iff_iff]
 simp
theorem dec_byt {i j:Array UInt8}:decide (V.byt i=V.byt j)=(i.toList == j.toList):=by
 rw [Bool.eq_iff_iff]
 cases i
 cases j
 simp
section
variable {X:Cx} {a b c:Expr} {ta tb tc:TE} {pos:Pos}
theorem fin_bl {pins:List (Addr × Obj)} {σ:St} {H:Hp} {s:Shared} {Q:VK} {k k':Bool} (I:Inv X pins σ H s) (q:Q (.bl k) H) (e:k=k'):EP X pins σ Q (.bool k') s:=by
 subst e
 exact ⟨.bl k,H,I,rfl,q⟩
theorem op_eq:OpR X (compareOp .Eq) rEq:=by
 intro pins s σ H x y v u Q I rx ry h
 obtain ⟨hs,q⟩:=h
 cases x with
 | non=>
  cases rx
  cases y with
  | non=>cases ry;exact PySem.EqNone.eq_none_none (fin_bl I q (by simp))
  | bl j=>cases ry;exact PySem.EqNone.eq_none_bool (fin_bl I q (by simp))
  | int j=>obtain ⟨t',rfl⟩:=ry;exact PySem.EqNone.eq_none_int (fin_bl I q (by simp))
  | str j=>obtain ⟨t',rfl⟩:=ry;exact PySem.EqNone.eq_none_str (fin_bl I q (by simp))
  | _=>exact absurd (show false=true from hs) Bool.false_ne_true
 | bl i=>
  cases rx
  cases y with
  | non=>cases ry;exact PySem.EqNone.eq_bool_none (fin_bl I q (by simp))
  | bl j=>cases ry;exact eq_bool (fin_bl I q dec_bl)
  | str j=>obtain ⟨t',rfl⟩:=ry;exact PySem.EqMixed.eq_bool_str (fin_bl I q (by simp))
  | _=>exact absurd (show false=true from hs) Bool.false_ne_true
 | int i=>
  obtain ⟨t,rfl⟩:=rx
  cases y with
  | non=>cases ry;exact PySem.EqNone.eq_int_none (fin_bl I q (by simp))
  | int j=>obtain ⟨t',rfl⟩:=ry;exact eq_int (fin_bl I q dec_int)
  | str j=>obtain ⟨t',rfl⟩:=ry;exact PySem.EqMixed.eq_int_str (fin_bl I q (by simp))
  | _=>exact absurd (show false=true from hs) Bool.false_ne_true
 | str i=>
  obtain ⟨t,rfl⟩:=rx
  cases y with
  | non=>cases ry;exact PySem.EqNone.eq_str_none (fin_bl I q (by simp))
  | bl j=>cases ry;exact PySem.EqMixed.eq_str_bool (fin_bl I q (by simp))
  | int j=>obtain ⟨t',rfl⟩:=ry;exact PySem.EqMixed.eq_str_int (fin_bl I q (by simp))
  | str j=>obtain ⟨t',rfl⟩:=ry;exact eq_str (fin_bl I q dec_str)
  | _=>exact absurd (show false=true from hs) Bool.false_ne_true
 | byt i=>
  obtain ⟨t,rfl⟩:=rx
  cases y with
  | byt j=>obtain ⟨t',rfl⟩:=ry;exact PySem.W.eq_bytes (fin_bl I q dec_byt)
  | _=>exact absurd (show false=true from hs) Bool.false_ne_true
 | _=>cases y <;> exact absurd (show false=true from hs) Bool.false_ne_true
theorem op_ne:OpR X (compareOp .NotEq) rNe:=by
 intro pins s σ H x y v u Q I rx ry h
 obtain ⟨hs,q⟩:=h
 cases x with
 | non=>
  cases rx
  cases y with
  | non=>cases ry;exact PySem.EqNone.ne_none_none (fin_bl I q (by simp))
  | bl j=>cases ry;exact PySem.EqNone.ne_none_bool (fin_bl I q (by simp))
  | int j=>obtain ⟨t',rfl⟩:=ry;exact PySem.EqNone.ne_none_int (fin_bl I q (by simp))
  | str j=>obtain ⟨t',rfl⟩:=ry;exact PySem.EqNone.ne_none_str (fin_bl I q (by simp))
  | _=>exact absurd (show false=true from hs) Bool.false_ne_true
 | bl i=>
  cases rx
  cases y with
  | non=>cases ry;exact PySem.EqNone.ne_bool_none (fin_bl I q (by simp))
  | bl j=>cases ry;exact ne_bool (fin_bl I q (congrArg not dec_bl))
  | str j=>obtain ⟨t',rfl⟩:=ry;exact PySem.EqMixed.ne_bool_str (fin_bl I q (by simp))
  | _=>exact absurd (show false=true from hs) Bool.false_ne_true
 | int i=>
  obtain ⟨t,rfl⟩:=rx
  cases y with
  | non=>cases ry;exact PySem.EqNone.ne_int_none (fin_bl I q (by simp))
  | int j=>obtain ⟨t',rfl⟩:=ry;exact ne_int (fin_bl I q (congrArg not dec_int))
  | str j=>obtain ⟨t',rfl⟩:=ry;exact PySem.EqMixed.ne_int_str (fin_bl I q (by simp))
  | _=>exact absurd (show false=true from hs) Bool.false_ne_true
 | str i=>
  obtain ⟨t,rfl⟩:=rx
  cases y with
  | non=>cases ry;exact PySem.EqNone.ne_str_none (fin_bl I q (by simp))
  | bl j=>cases ry;exact PySem.EqMixed.ne_str_bool (fin_bl I q (by simp))
  | int j=>obtain ⟨t',rfl⟩:=ry;exact PySem.EqMixed.ne_str_int (fin_bl I q (by simp))
  | str j=>obtain ⟨t',rfl⟩:=ry;exact ne_str (fin_bl I q (congrArg not dec_str))
  | _=>exact absurd (show false=true from hs) Bool.false_ne_true
 | byt i=>
  obtain ⟨t,rfl⟩:=rx
  cases y with
  | byt j=>obtain ⟨t',rfl⟩:=ry;exact PySem.W.ne_bytes (fin_bl I q (congrArg not dec_byt))
  | _=>exact absurd (show false=true from hs) Bool.false_ne_true
 | _=>cases y <;> exact absurd (show false=true from hs) Bool.false_ne_true
theorem op_lt:OpR X (compareOp .Lt) (rI0 fun i j=>.bl (decide (i<j))):=opB0 fun _ _ _ _ _ _ _ q=>lt_int q
theorem op_gt:OpR X (compareOp .Gt) (rI0 fun i j=>.bl (decide (j<i))):=opB0 fun _ _ _ _ _ _ _ q=>gt_int q
theorem op_ge:OpR X (compareOp .GtE) (rI0 fun i j=>.bl (decide (j≤i))):=opB0 fun _ _ _ _ _ _ _ q=>ge_int q
theorem nomark (b:Expr) {op:CmpOp} (h:op ≠ .In:=by decide) (h2:op ≠ .NotIn:=by decide):behindInMarks op b=false:=by
 have e1:(op == CmpOp.In)=false:=by cases op <;> first | rfl | exact absurd rfl h
 have e2:(op == CmpOp.NotIn)=false:=by cases op <;> first | rfl | exact absurd rfl h2
 cases b <;> simp [behindInMarks,e1,e2]
theorem pe_cmpR {op:CmpOp} {r:R2} (ho:OpR X (compareOp op) r) (ha:PE X a ta) (hb:PE X b tb) (hm:behindInMarks op b=false):PE X (.Compare a [op] [b] pos) (tOp r ta tb):=by
 intro pins s σ H Q I h
 exact wpAny_Compare1 (binT ha hb I h fun v u s2 x y H2 I2 rx ry q=>ho pins s2 σ H2 x y v u Q I2 rx ry q) hm
def tTest (t:TE):TT:=fun σ H Q=>t σ H fun x H'=>∃ k,x=.bl k∧Q k H'
theorem pt_cmpR {op:CmpOp} {r:R2} (ho:OpR X (compareOp op) r) (ha:PE X a ta) (hb:PE X b tb) (hm:behindInMarks op b=false):PT X (.Compare a [op] [b] pos) (tTest (tOp r ta tb)):=by
 intro pins s σ H Q I h
 refine wpAny_isTrue_Compare1 (thn (ha pins s σ H _ I h) fun v s1 ⟨x,H1,I1,r1,q1⟩=>thn (hb pins s1 σ H1 _ I1 q1) fun u s2 ⟨y,H2,I2,r2,q2⟩=>
  thn (ho pins s2 σ H2 x y v u _ I2 r1 r2 q2) fun c s3 ⟨z,H3,I3,r3,k,e,q3⟩=>?_) hm
 subst e
 cases r3
 exact wpAny_truthy_bool ⟨H3,I3,q3⟩
theorem line63:(sizeLine:Nat)<2 ^ 63:=by rw [sizeLine_eq];decide
theorem vals1 {x:V} {us:List Value} (r:Vals [x] us):∃ u,us=[u]∧RelV x u:=by
 cases r with
 | cons r1 r2=>cases r2;exact ⟨_,rfl,r1⟩
theorem vals2 {x y:V} {us:List Value} (r:Vals [x,y] us):∃ u w',us=[u,w']∧RelV x u∧RelV y w':=by
 cases r with
 | cons r1 r2=>
  cases r2 with
  | cons r3 r4=>cases r4;exact ⟨_,_,rfl,r1,r3⟩
theorem call_max2 (hc:X.calm=true):CallR X (.builtin "max") (fun xs H Q=>∃ i j,xs=[.int i,.int j]∧Q (.int (if j > i then j else i)) H):=by
 intro pins s σ H xs us Q I r h
 obtain ⟨i,j,rfl,q⟩:=h
 obtain ⟨u,w',rfl,⟨t,rfl⟩,⟨t',rfl⟩⟩:=vals2 r
 refine max_two_ints (I.ok.hd hc) fun h' tk k=>⟨_,H,I.kept k,?_,q⟩
 by_cases hj:j > i
 ·rw [if_pos hj,if_pos hj];exact ⟨_,rfl⟩
 ·rw [if_neg hj,if_neg hj];exact ⟨_,rfl⟩
theorem call_min2 (hc:X.calm=true):CallR X (.builtin "min") (fun xs H Q=>∃ i j,xs=[.int i,.int j]∧Q (.int (if j<i then j else i)) H):=by
 intro pins s σ H xs us Q I r h
 obtain ⟨i,j,rfl,q⟩:=h
 obtain ⟨u,w',rfl,⟨t,rfl⟩,⟨t',rfl⟩⟩:=vals2 r
 refine min_two_ints (I.ok.hd hc) fun h' tk k=>⟨_,H,I.kept k,?_,q⟩
 by_cases hj:j<i
 ·rw [if_pos hj,if_pos hj];exact ⟨_,rfl⟩
 ·rw [if_neg hj,if_neg hj];exact ⟨_,rfl⟩
theorem call_int1:CallR X (.type "int") (fun xs H Q=>(∃ i,xs=[.int i]∧Q (.int i) H)∨∃ k,xs=[.bl k]∧Q (.int (if k then 1 else 0)) H):=by
 intro pins s σ H xs us Q I r h
 rcases h with ⟨i,rfl,q⟩ | ⟨k,rfl,q⟩
 ·obtain ⟨u,rfl,t,rfl⟩:=vals1 r
  exact call_int_int ⟨.int i,H,I,⟨_,rfl⟩,q⟩
 ·obtain ⟨u,rfl,r1⟩:=vals1 r
  cases r1
  exact call_int_bool ⟨.int (if k then 1 else 0),H,I.tok _,⟨_,rfl⟩,q⟩
theorem call_divmod:CallR X (.builtin "divmod") (fun xs H Q=>∃ i j,xs=[.int i,.int j]∧CDiv i j∧∀ p,H p=none→Q (.ref p) (upd H p (.tup [.int (i / j),.int (i % j)]))):=by
 intro pins s σ H xs us Q I r h
 obtain ⟨i,j,rfl,⟨h1,h2⟩,q⟩:=h
 obtain ⟨u,w',rfl,⟨t,rfl⟩,⟨t',rfl⟩⟩:=vals2 r
 refine divmod_int (by omega) ?_ (.inl (PyProof.noPylong_small (by omega)))
 rw [Int.fdiv_eq_ediv_of_nonneg i (by omega),Int.fmod_eq_emod_of_nonneg i (by omega)]
 have hn:H s.heap.objs.size=none:=I.hok.fresh (Nat.le_refl _)
 refine ⟨.ref s.heap.objs.size,_,?_,rfl,q _ hn⟩
 refine I.laid (fun b o e=>Heap.get?_push_of_some _ e) (Nat.le_refl _) ⟨by simp only [List.length_cons,List.length_nil];rw [sizeLine_eq];decide,[.int (i / j) s.toks,.int (i % j) (s.toks+1)],.cons ⟨_,rfl⟩ (.cons ⟨_,rfl⟩ .nil),?_⟩
 exact ⟨_,Heap.get?_push_size s.heap rfl,rfl,0,rfl⟩
end
end L2
namespace L2
open PySem PySem.Spec PyProof.Rows
structure ObjM (h:Heap) (x dx C:Addr) (mA:Str→Option Value):Prop where
 obj:h.get? x=some (PySem.W.instObj C dx)
 ns:h.Ns1 dx mA
 ne:dx ≠ x
theorem lookIn_ns {h:Heap} {dx:Addr} {mA:Str→Option Value} (n:h.Ns1 dx mA):∃ od,h.get? dx=some od∧∀ name,PySem.W.lookIn name od=some (mA name):=by
 obtain ⟨o,es,ep,ho,hd,hk,_,hm⟩:=n
 refine ⟨o,ho,fun name=>?_⟩
 have e:=hm name
 unfold nsFind findBy at e
 rw [← Array.find?_toList] at e
 unfold PySem.W.lookIn
 rw [hd]
 dsimp only
 split
 ·rename_i y q
  rw [q] at e
  exact congrArg some e
 ·rename_i q
  rw [q] at e
  have a:es.toList.any (·.refKey)=false:=by
   rw [List.any_eq_false]
   intro y hy
   obtain ⟨z,t,hkey⟩:=hk y (Array.mem_toList_iff.mp hy)
   simp [DictEntry.refKey,hkey]
  have a':¬ es.toList.any (·.refKey)=true:=by rw [a];exact Bool.false_ne_true
  rw [if_neg a']
  exact congrArg some e
theorem ObjM.look {h:Heap} {x dx C:Addr} {mA:Str→Option Value} (I:ObjM h x dx C mA):∃ od,PySem.W.InstAt h x (PySem.W.instObj C dx) C (some od)∧∀ name,PySem.W.lookIn name od=some (mA name):=
 let ⟨od,ho,hl⟩:=lookIn_ns I.ns
 ⟨od,⟨I.obj,rfl,rfl,ho⟩,hl⟩
section
variable {prog:Program} {w:World} {A:Around} {E:Value→Shared→Prop} {s:Shared} {K:PySem.W.Frag} {x dx C f:Addr} {mA:Str→Option Value} {name:Str} {v:Value}
end
def putF (f:Str) (v:V):List (Str × V)→List (Str × V)
 | []=>[(f,v)]
 | (g,x)::r=>if g=f then (g,v)::r else (g,x)::putF f v r
theorem lookup_putF (f g:Str) (v:V):∀ fs:List (Str × V),(putF f v fs).lookup g=if g=f then some v else fs.lookup g
 | []=>by
  show List.lookup g [(f,v)]=_
  by_cases h:g=f
  ·have hb:(g == f)=true:=beq_iff_eq.mpr h
   simp only [List.lookup,hb,if_pos h]
  ·have hb:(g == f)=false:=beq_eq_false_iff_ne.mpr h
   simp only [List.lookup,hb,if_neg h]
 | (k,x)::r=>by
  have ih:=lookup_putF f g v r
  rw [show putF f v ((k,x)::r)=(if k=f then (k,v)::r else (k,x)::putF f v r) from rfl]
  by_cases hk:k=f
  ·rw [if_pos hk]
   by_cases h:g=k
   ·have hb:(g == k)=true:=beq_iff_eq.mpr h
    simp only [List.lookup,hb,if_pos (h.trans hk)]
   ·have hb:(g == k)=false:=beq_eq_false_iff_ne.mpr h
    simp only [List.lookup,hb,if_neg (fun e:g=f=>h (e.trans hk.symm))]
  ·rw [if_neg hk]
   by_cases h:g=k
   ·have hb:(g == k)=true:=beq_iff_eq.mpr h
    simp only [List.lookup,hb,if_neg (fun e:g=f=>hk (h.symm.trans e))]
   ·have hb:(g == k)=false:=beq_eq_false_iff_ne.mpr h
    simp only [List.lookup,hb]
    exact ih
theorem keys_putF (f:Str) (v:V):∀ fs:List (Str × V),f ∈ (putF f v fs).map (·.1)∧∀ g,g ∈ fs.map (·.1)→g ∈ (putF f v fs).map (·.1)
 | []=>⟨by simp [putF],fun g h=>by simp at h⟩
 | (k,x)::r=>by
  obtain ⟨i1,i2⟩:=keys_putF f v r
  rw [show putF f v ((k,x)::r)=(if k=f then (k,v)::r else (k,x)::putF f v r) from rfl]
  by_cases hk:k=f
  ·rw [if_pos hk]
   subst hk
   exact ⟨by simp,fun g h=>by simpa using h⟩
  ·rw [if_neg hk]
   refine ⟨?_,fun g h=>?_⟩
   ·rw [List.map_cons]
    exact List.mem_cons_of_mem _ i1
   ·rw [List.map_cons] at h ⊢
    rcases List.mem_cons.mp h with e | e
    ·exact List.mem_cons.mpr (.inl e)
    ·exact List.mem_cons_of_mem _ (i2 g e)
theorem RelO.some_of {v:V} {o:Option Value} (r:RelO (some v) o):∃ u,o=some u∧RelV v u:=by
 cases o with
 | none=>exact (show False from r).elim
 | some u=>exact ⟨u,rfl,r⟩
section
variable {P:Program} {w:World} {H H':Hp} {h h':Heap} {a C dx:Addr} {fs fs':List (Str × V)}
theorem ins_get (hok:HOk P w H h) (e:H a=some (.ins C dx fs)):∃ mA,ObjM h a dx C mA∧(∀ f,RelO (fs.lookup f) (mA f))∧PySem.Within mA (fs.map (·.1))∧fs.length≤1000∧H dx=some (.own a):=by
 obtain ⟨d,z,ne,ob,mA,n,r,q⟩:=(show ObjOk P w H h a (.ins C dx fs) from hok a _ e)
 exact ⟨mA,⟨ob,n,ne⟩,r,q,z,d⟩
end
structure Cls (K:PySem.W.Frag) (C:Addr):Prop where
 pg:PySem.W.plainGet K C Str.empty=true
 hd:PySem.W.hasDictIn K C=true
 po:PySem.W.plainOver K C=true
 sa:PySem.W.findIn K (.ref C) "__setattr__" = some (some (.builtin "object.__setattr__"))
theorem Cls.get {K:PySem.W.Frag} {C:Addr} (c:Cls K C) (f:Str):PySem.W.plainGet K C f=true:=c.pg
def NoAttr (K:PySem.W.Frag) (C:Addr) (f:Str):Prop:=PySem.W.findIn K (.ref C) f=some none
structure Con (K:PySem.W.Frag) (C:Addr) (f:Str) (v:V) (u:Value):Prop where
 at_:PySem.W.findIn K (.ref C) f=some (some u)
 rel:RelV v u
 get:PySem.W.specialIn K u "__get__" = some none
 cp:PySem.W.copiedNames.contains f=false
structure Meth (K:PySem.W.Frag) (C:Addr) (m:Str) (f:Addr):Prop where
 at_:PySem.W.findIn K (.ref C) m=some (some (.ref f))
 fn:PySem.W.isFn K (.ref f)=true
 kp:PySem.W.keepIn K (.ref f)=true
section
variable {X:Cx} {pins:List (Addr × Obj)} {σ:St} {H:Hp} {s:Shared} {a C dx:Addr} {fs:List (Str × V)} {f:Str} {v:V} {A:Around} {E:Value→Shared→Prop}
end
section
variable {X:Cx} {o e value:Expr} {f:Str} {pos pos' tpos:Pos} {ta tv:TE}
end
section
variable {X:Cx} {pins:List (Addr × Obj)} {σ:St} {H:Hp} {s:Shared} {A:Around} {E:Value→Shared→Prop} {Q:Value→Shared→Prop} {c:Value} {b:Bool}
inductive TyOf (K:PySem.W.Frag) (H:Hp):V→Value→Prop where
 | non:TyOf K H .non (.type "NoneType")
 | bl (x:Bool):TyOf K H (.bl x) (.type "bool")
 | int (i:Int):TyOf K H (.int i) (.type "int")
 | str (x:Str):TyOf K H (.str x) (.type "str")
 | flt (x:UInt64):TyOf K H (.flt x) (.type "float")
 | lst {a:Addr} {xs:List V} (e:H a=some (.lst xs)):TyOf K H (.ref a) (.type "list")
 | frz {a:Addr} {o:Obj} {xs:List V} (e:H a=some (.frz o (.lst xs))):TyOf K H (.ref a) (.type "list")
 | tup {a:Addr} {xs:List V} (e:H a=some (.tup xs)):TyOf K H (.ref a) (.type "tuple")
 | dK {a:Addr} {kvs:List (Key × V)} (e:H a=some (.dK kvs)):TyOf K H (.ref a) (.type "dict")
 | dT {a:Addr} {kvs:List (List Key × V)} (e:H a=some (.dT kvs)):TyOf K H (.ref a) (.type "dict")
 | ins {a C dx:Addr} {fs:List (Str × V)} (e:H a=some (.ins C dx fs)) (cl:Cls K C) (ha:PySem.W.findIn K (.ref C) "__class__" = some (some (.builtin "object.__class__")))
   (hn:PySem.W.specialIn K (.builtin "object.__class__") "__get__" = some (some (.builtin "getset_descriptor.__get__"))) (htk:PySem.W.takesIn K (.builtin "object.__class__")=some true)
   (hm:PySem.W.mroIn K C (.type "object")=some true):TyOf K H (.ref a) (.ref C)
theorem isinst_ok {x:V} {u t:Value} (I:Inv X pins σ H s) (rx:RelV x u) (ty:TyOf X.K H x t) (e:PySem.W.kitOne X.K t c=some b) (h:∀ tk,Q (.bool b) { s with toks:=tk }) :
  wpAny (model X.prog X.w) A (call (.builtin "isinstance") [u,c]) Q E s:=by
 cases ty with
 | non=>cases (show u=Value.none from rx);exact PySem.W.kia_one PySem.W.kitx_none I.kIn True.intro e (fun z=>nomatch z) h
 | bl y=>cases (show u=Value.bool y from rx);exact PySem.W.kia_one PySem.W.kitx_bool I.kIn True.intro e (fun z=>nomatch z) h
 | int i=>obtain ⟨t,q⟩:=(show ∃ t,u=Value.int i t from rx);cases q;exact PySem.W.kia_one PySem.W.kitx_int I.kIn True.intro e (fun z=>nomatch z) h
 | str y=>obtain ⟨t,q⟩:=(show ∃ t,u=Value.str y t from rx);cases q;exact PySem.W.kia_one PySem.W.kitx_str I.kIn True.intro e (fun z=>nomatch z) h
 | flt y=>obtain ⟨t,q⟩:=(show ∃ t,u=Value.float y t from rx);cases q;exact PySem.W.kia_one PySem.W.kitx_float I.kIn True.intro e (fun z=>nomatch z) h
 | @lst a xs ea=>
  cases (show u=Value.ref a from rx)
  obtain ⟨_,_,n,_,h1⟩:=(show ObjOk X.prog X.w H s.heap a (.lst xs) from I.hok a _ ea)
  exact PySem.W.kia_one PySem.W.kitx_list I.kIn ⟨_,h1,rfl⟩ e (fun z=>nomatch z) h
 | @frz a ob xs ea=>
  cases (show u=Value.ref a from rx)
  obtain ⟨_,_,_,n,_,h1⟩:=(show ObjOk X.prog X.w H s.heap a (.frz ob (.lst xs)) from I.hok a _ ea)
  exact PySem.W.kia_one PySem.W.kitx_list I.kIn ⟨_,h1,rfl⟩ e (fun z=>nomatch z) h
 | @tup a xs ea=>
  cases (show u=Value.ref a from rx)
  obtain ⟨_,_,_,p⟩:=(show ObjOk X.prog X.w H s.heap a (.tup xs) from I.hok a _ ea)
  obtain ⟨o,h1,h2,_⟩:=p
  exact PySem.W.kia_one PySem.W.kitx_tuple I.kIn ⟨o,h1,h2⟩ e (fun z=>nomatch z) h
 | @dK a kvs ea=>
  cases (show u=Value.ref a from rx)
  obtain ⟨_,_,vs,_,p⟩:=(show ObjOk X.prog X.w H s.heap a (.dK kvs) from I.hok a _ ea)
  obtain ⟨o,es,ep,h1,h2,_⟩:=p
  exact PySem.W.kia_one PySem.W.kitx_dict I.kIn ⟨o,h1,h2.1⟩ e (fun z=>nomatch z) h
 | @dT a kvs ea=>
  cases (show u=Value.ref a from rx)
  obtain ⟨_,_,xs,_,o,es,ep,h1,h2,_⟩:=(show ObjOk X.prog X.w H s.heap a (.dT kvs) from I.hok a _ ea)
  exact PySem.W.kia_one PySem.W.kitx_dict I.kIn ⟨o,h1,h2.1⟩ e (fun z=>nomatch z) h
 | @ins a C dx fs ea cl ha hn htk hm=>
  cases (show u=Value.ref a from rx)
  obtain ⟨mA,O,_⟩:=ins_get I.hok ea
  obtain ⟨od,J,_⟩:=O.look
  exact PySem.W.kia_one (PySem.W.kitx_own (cl.get _) cl.hd ha hn htk hm) I.kIn J e (fun z=>nomatch z) h
end
end L2
namespace L2
open PySem PySem.Spec PyProof.Rows
structure Room (k:Nat) (A:Around):Prop where
 hd:A.handled=none
 dp:A.depth+3 * k+5<recursionLimit
 un:A.units+16 * k+200<cLine
 gd:A.guards=some []
theorem Room.mono {j k:Nat} {A:Around} (r:Room k A) (h:j≤k):Room j A:=⟨r.hd,by have:=r.dp;omega,by have:=r.un;omega,r.gd⟩
theorem Room.deeper {k:Nat} {A:Around} (r:Room (k+1) A) (env:Env):Room k (A.deeper env):=
 ⟨r.hd,by have:=r.dp;show A.depth+1+3 * k+5<_;omega,by have:=r.un;show A.units+3+16 * k+200<_;omega,r.gd⟩
theorem make_depth {A:Around} {C:Addr} {us:List Value} {kw:List (Str × Value)}:(A.under (.builtin "type.__call__" ⟨.ref C::us,kw⟩)).depth=A.depth+1:=by
 first | rfl | simp [Around.under,Code.weight,Code.isCreation,Code.isGuard,Code.isCaller,Code.frames,Code.isFrame,guardIds]
theorem make_units {A:Around} {C:Addr} {us:List Value} {kw:List (Str × Value)}:(A.under (.builtin "type.__call__" ⟨.ref C::us,kw⟩)).units=A.units+1:=by
 first | rfl | simp [Around.under,Code.cUnits,Code.frames,Code.isFrame]
theorem Room.make {k:Nat} {A:Around} (r:Room (k+1) A) (C:Addr) (us:List Value) (kw:List (Str × Value)):Room k (A.under (.builtin "type.__call__" ⟨.ref C::us,kw⟩)):=
 ⟨r.hd,by have:=r.dp;rw [make_depth];omega,by have:=r.un;rw [make_units];omega,by first | exact r.gd | simp [Around.under,Code.guards,Code.isGuard,pushGuards,guardIds,r.gd]⟩
theorem Room.depth {k:Nat} {A:Around} (r:Room k A):A.depth<recursionLimit:=by have:=r.dp;omega
theorem Room.units {k:Nat} {A:Around} (r:Room k A):A.units+64<cLine:=by have:=r.un;omega
theorem Room.units0 {k:Nat} {A:Around} (r:Room k A):A.units<cLine:=by have:=r.un;omega
def tNil:TA:=fun _ H Q=>Q [] H
def tCons (ta:TE) (tr:TA):TA:=fun σ H Q=>ta σ H fun x H1=>tr σ H1 fun xs H2=>Q (x::xs) H2
section
variable {X:Cx} {e:Expr} {es:List Expr} {te:TE} {t:TA} {pos:Pos}
theorem pa_nil:PA X [] tNil:=fun _ _ _ _ H Q I h=>Calls.spliced_nil ⟨[],H,I,.nil,h⟩
theorem pa_cons (ha:PE X e te) (hr:PA X es t) (hs:starEach (e::es) X.env=(false,eval e X.env)::starEach es X.env:=by rfl):PA X (e::es) (tCons te t):=by
 intro pos pins s σ H Q I h
 rw [hs]
 show wpAny _ _ (spliced ((false,eval e X.env)::backTo pos (starEach es X.env))) _ _ s
 refine Calls.spliced_cons (thn (ha pins s σ H _ I h) fun u s1 ⟨x,H1,I1,r1,q1⟩=>?_)
 exact thn (hr pos pins s1 σ H1 _ I1 q1) fun us s2 ⟨xs,H2,I2,r2,q2⟩=>⟨x::xs,H2,I2,.cons r1 r2,q2⟩
def tTup (t:TA):TE:=fun σ H Q=>t σ H fun xs H1=>xs.length≤sizeLine∧∀ p,H1 p=none→Q (.ref p) (upd H1 p (.tup xs))
def tLst (t:TA):TE:=fun σ H Q=>t σ H fun xs H1=>xs.length≤sizeLine∧∀ p,H1 p=none→Q (.ref p) (upd H1 p (.lst xs))
theorem pe_tup {x1} (h:PA X es t):PE X (.Tuple es x1 pos) (tTup t):=by
 intro pins s σ H Q I hq
 refine wpAny_Tuple_spliced (thn (h pos pins s σ H _ I hq) fun us s1 ⟨xs,H1,I1,r,z,q⟩=>⟨by rw [← r.length];exact z,?_⟩)
 have hf:H1 s1.heap.objs.size=none:=I1.hok.fresh (Nat.le_refl _)
 refine ⟨.ref s1.heap.objs.size,upd H1 s1.heap.objs.size (.tup xs),I1.laid (t':=s1.toks) (fun b u e=>Heap.get?_push_of_some _ e) (Nat.le_refl _) ?_,rfl,q _ hf⟩
 exact ⟨z,us,r,⟨_,Heap.get?_push_size _ rfl,rfl,_,rfl⟩⟩
theorem pe_lst (h:PA X es t):PE X (.List es pos) (tLst t):=by
 intro pins s σ H Q I hq
 refine wpAny_List_spliced (thn (h pos pins s σ H _ I hq) fun us s1 ⟨xs,H1,I1,r,z,q⟩=>⟨by rw [← r.length];exact z,?_⟩)
 have hf:H1 s1.heap.objs.size=none:=I1.hok.fresh (Nat.le_refl _)
 refine ⟨.ref s1.heap.objs.size,upd H1 s1.heap.objs.size (.lst xs),I1.laid (t':=s1.toks) (fun b u e=>Heap.get?_push_of_some _ e) (Nat.le_refl _) ?_,rfl,q _ hf⟩
 exact ⟨z,us,0,r,Heap.get?_push_size _ rfl⟩
end
abbrev Sp:=List V→Hp→VK→XK→Prop
abbrev CXT:=List Env→Hp→Shared→XK→Value→Shared→Prop
structure Env0 (P:Program) (w:World) (K:PySem.W.Frag) (mg:Str→Option Value) (base:Heap) (A:Around) (outer:List Env) (s:Shared) (H:Hp):Prop where
 frames:A.frames=some outer
 mod:Mod K mg base
 bs:∀ b o,base.get? b=some o→s.heap.get? b=some o∧H b=none
 bsz:base.objs.size≤s.heap.objs.size
 funs:s.heap.FunFrames base outer
 frf:∀ b ∈ frs outer,H b=none
 hok:HOk P w H s.heap
 bare:AllBare s.gens
def CE (outer:List Env) (P:Program) (w:World) (H:Hp) (s:Shared) (Q:VK) (u:Value) (s':Shared):Prop:=
 ∃ v H',s'.os=s.os∧AllBare s'.gens∧Un (frs outer) [] H H' s.heap s'.heap∧HOk P w H' s'.heap∧RelV v u∧Q v H'
def CR (CX:CXT) (outer:List Env) (P:Program) (w:World) (H:Hp) (s:Shared) (Q:VK) (E:XK) (r:Result) (s':Shared):Prop:=
 match r with
 | .ok (.ret u)=>CE outer P w H s Q u s'
 | .ok _=>False
 | .error e=>CX outer H s E e s'
structure FnOk (P:Program) (w:World) (K:PySem.W.Frag) (mg:Str→Option Value) (base:Heap) (CX:CXT) (k:Nat) (f:Addr) (fd:FuncData) (ps:List Str) (sp:Sp):Prop where
 len:∀ vs H Q E,sp vs H Q E→vs.length=ps.length
 run:∀ (A:Around) (outer:List Env) (s:Shared) (H:Hp) (args:Args) (us:List Value) (vs:List V) (Q:VK) (E:XK),Room k A→Env0 P w K mg base A outer s H→BindsTo s fd args (ps.zip us)→Vals vs us→sp vs H Q E→
  codeAny (model P w) A (.call (.ref f) args) (CR CX outer P w H s Q E) s
theorem Env0.make {P:Program} {w:World} {K:PySem.W.Frag} {mg:Str→Option Value} {base:Heap} {A:Around} {outer:List Env} {s:Shared} {H:Hp} (e:Env0 P w K mg base A outer s H) (C:Addr) (us:List Value) (kw:List (Str × Value)) :
  Env0 P w K mg base (A.under (.builtin "type.__call__" ⟨.ref C::us,kw⟩)) outer s H:=⟨by first | exact e.frames | (simpa [Around.under,Code.envs,Code.isFrame,pushEnvs] using e.frames),e.mod,e.bs,e.bsz,e.funs,e.frf,e.hok,e.bare⟩
section
variable {X:Cx} {pins:List (Addr × Obj)} {σ:St} {H:Hp} {s s':Shared}
theorem Inv.env0 (I:Inv X pins σ H s):Env0 X.prog X.w X.K X.mg X.base X.A X.stack s H:=
 ⟨I.ok.frames,I.ok.mod,I.bs,Nat.le_trans I.ok.bsz I.sz,I.stack,I.stkFree,I.hok,I.bare⟩
theorem Inv.after {Q:VK} {u:Value} (I:Inv X pins σ H s) (h:CE X.stack X.prog X.w H s Q u s'):EP X pins σ Q u s':=by
 obtain ⟨v,H',os,bare,un,hok,r,q⟩:=h
 obtain ⟨hh,g,d,t,os'⟩:=s'
 obtain rfl:os'=s.os:=os
 exact ⟨v,H',I.call (h':=hh) (g':=g) (d':=d) (t':=t) (ch:=[]) un hok bare (fun b z=>absurd z (by simp)),r,q⟩
end
def tCall (sp:Sp) (dvs:List V) (E:XK) (t:TA):TE:=fun σ H Q=>t σ H fun vs H1=>sp (vs++dvs) H1 Q E
def Binds (K:PySem.W.Frag) (fd:FuncData) (ps:List Str) (ds:List Value):Prop:=
 ∀ (s:Shared) (us:List Value),K.In s.heap→(us++ds).length=ps.length→BindsTo s fd ⟨us,[]⟩ (ps.zip (us++ds))
theorem Binds.all {K:PySem.W.Frag} {fd:FuncData} {ps:List Str} (h:∀ us:List Value,us.length=ps.length→bindArgs fd ⟨us,[]⟩=pure (ps.zip us)):Binds K fd ps []:=fun s us _ hl=>by
 rw [List.append_nil] at hl ⊢
 exact .of_eq (h us hl)
def Passes (CX:CXT) (X:Cx) (E:XK):Prop:=∀ (pins:List (Addr × Obj)) (σ:St) (H:Hp) (s:Shared) (e:Value) (s':Shared),Inv X pins σ H s→CX X.stack H s E e s'→X.xe e s'
section
variable {X:Cx} {CX:CXT} {k:Nat} {f C:Addr} {fd:FuncData} {ps:List Str} {sp:Sp} {dvs:List V} {ds:List Value} {E:XK} {x m:Str} {p pos apos:Pos} {e o:Expr} {es:List Expr} {ta:TE} {t:TA}
theorem run_fn {pins:List (Addr × Obj)} {σ:St} {H:Hp} {s:Shared} {Q:VK} {us:List Value} {vs:List V} (F:FnOk X.prog X.w X.K X.mg X.base CX k f fd ps sp) (hr:Room k X.A) (hb:Binds X.K fd ps ds) (hd:Vals dvs ds) (hx:Passes CX X E)
  (I:Inv X pins σ H s) (r:Vals vs us) (h:sp (vs++dvs) H Q E):wpAny (model X.prog X.w) X.A (call (.ref f) us) (EP X pins σ Q) X.xe s:=by
 have r2:Vals (vs++dvs) (us++ds):=r.append hd
 have hl:(us++ds).length=ps.length:=by rw [← r2.length];exact F.len _ _ _ _ h
 refine wpAny_call (codeAny_mono (F.run X.A X.stack s H ⟨us,[]⟩ (us++ds) (vs++dvs) Q E hr I.env0 (hb s us I.kIn hl) r2 h) fun r s' hq=>?_)
 cases r with
 | error e=>exact hx pins σ H s e s' I hq
 | ok fl=>
  cases fl with
  | ret u=>exact I.after hq
  | next=>exact False.elim hq
  | brk=>exact False.elim hq
  | cont=>exact False.elim hq
theorem pe_call (F:FnOk X.prog X.w X.K X.mg X.base CX k f fd ps sp) (hr:Room k X.A) (hg:Gl X x) (hm:X.mg x=some (.ref f)) (hk:PySem.W.keepIn X.K (.ref f)=true) (hb:Binds X.K fd ps ds) (hd:Vals dvs ds) (hx:Passes CX X E)
  (ha:PA X (e::es) t) (hdb:(x == ("__debug__" : Str))=false:=by decide) (he:starEach (e::es) X.env=(false,eval e X.env)::starEach es X.env:=by rfl) (hpl:(backTo pos (starEach es X.env)).any (·.1)=false:=by rfl) :
  PE X (.Call (.Name x p) (e::es) [] pos) (tCall sp dvs E t):=by
 intro pins s σ H Q I h
 refine wpAny_Call_Name_kw (ld_glob I hg hm ?_ hdb)
 refine PySem.W.callWith_K (h₀:=X.base) I.ok.mod.kin hk (thn (ha pos pins s σ H _ I h) fun us s1 ⟨vs,H1,I1,r,q⟩=>⟨I1.kIn,?_⟩) he hpl
 exact run_fn F hr hb hd hx I1 r q
structure Mk (K:PySem.W.Frag) (C f:Addr):Prop where
 makes:PySem.W.makesIn K C=true
 init:PySem.W.findIn K (.ref C) "__init__" = some (some (.ref f))
 fn:PySem.W.isFn K (.ref f)=true
 kp:PySem.W.keepIn K (.ref C)=true
end
section
variable {X:Cx} {CX:CXT} {k:Nat} {f C:Addr} {fd:FuncData} {ps ks:List Str} {sp:Sp} {E:XK} {x m:Str} {p pos apos kpos:Pos} {e o:Expr} {es:List Expr} {kws:List Keyword} {te ta:TE} {t tk:TA} {nm:Option Str}
structure KBinds (K:PySem.W.Frag) (fd:FuncData) (ps ks:List Str) (g:List Value→List Value→List Value) (gV:List V→List V→List V):Prop where
 to:∀ (s:Shared) (us ws:List Value),K.In s.heap→(g us ws).length=ps.length→BindsTo s fd ⟨us,ks.zip ws⟩ (ps.zip (g us ws))
 rel:∀ {vs:List V} {us:List Value} {zs:List V} {ws:List Value},Vals vs us→Vals zs ws→Vals (gV vs zs) (g us ws)
variable {g:List Value→List Value→List Value} {gV:List V→List V→List V}
end
structure FnScope (N P:List Str) (sc:Scope):Prop where
 kind:sc.kind=.function
 co:sc.isCoroutine=false
 gen:sc.isGenerator=false
 nd:N.Nodup
 pre:N.take P.length=P
 par:∀ x ∈ P,sc.names.lookup x=some .local∨sc.names.lookup x=some .cell
 nofree:∀ y ∈ sc.names,y.2 ≠ .free
theorem bindL_out {kindOf:Str→Option NameKind} {x:Str}:∀ {binds:List (Str × Value)} {m:Str→Option Value},(∀ v,(x,v) ∉ binds)→bindL kindOf binds m x=m x
 | [],_,_=>rfl
 | (n,v)::r,m,h=>by
  unfold bindL
  rw [bindL_out fun w hw=>h w (List.mem_cons_of_mem _ hw)]
  split
  ·have:x ≠ n:=by rintro rfl;exact h v List.mem_cons_self
   simp [this]
  ·rfl
theorem bindC_out {kindOf:Str→Option NameKind} {x:Str}:∀ {binds:List (Str × Value)} {m:Str→Option Value},(∀ v,(x,v) ∉ binds)→bindC kindOf binds m x=m x
 | [],_,_=>rfl
 | (n,v)::r,m,h=>by
  unfold bindC
  rw [bindC_out fun w hw=>h w (List.mem_cons_of_mem _ hw)]
  split
  ·rfl
  ·have:x ≠ n:=by rintro rfl;exact h v List.mem_cons_self
   simp [this]
theorem bindL_get {kindOf:Str→Option NameKind} {x:Str} {v:Value}:∀ {P:List Str} {vs:List Value} {i:Nat} {m:Str→Option Value},P.Nodup→P[i]?=some x→vs[i]?=some v→kindOf x=some .local→
  bindL kindOf (P.zip vs) m x=some v
 | [],_,_,_,_,h,_,_=>by simp at h
 | _::_,[],_,_,_,_,h,_=>by simp at h
 | p::P,w::vs,0,m,nd,h1,h2,hk=>by
  simp at h1 h2;subst h1;subst h2
  show bindL kindOf ((p,w)::P.zip vs) m p=_
  unfold bindL
  rw [bindL_out fun v hv=>(List.nodup_cons.mp nd).1 (List.of_mem_zip hv).1,if_pos hk]
  simp
 | p::P,w::vs,i+1,m,nd,h1,h2,hk=>by
  show bindL kindOf ((p,w)::P.zip vs) m x=_
  unfold bindL
  exact bindL_get (i:=i) (List.nodup_cons.mp nd).2 (by simpa using h1) (by simpa using h2) hk
theorem bindC_get {kindOf:Str→Option NameKind} {x:Str} {v:Value}:∀ {P:List Str} {vs:List Value} {i:Nat} {m:Str→Option Value},P.Nodup→P[i]?=some x→vs[i]?=some v→kindOf x ≠ some .local→
  bindC kindOf (P.zip vs) m x=some v
 | [],_,_,_,_,h,_,_=>by simp at h
 | _::_,[],_,_,_,_,h,_=>by simp at h
 | p::P,w::vs,0,m,nd,h1,h2,hk=>by
  simp at h1 h2;subst h1;subst h2
  show bindC kindOf ((p,w)::P.zip vs) m p=_
  unfold bindC
  rw [bindC_out fun v hv=>(List.nodup_cons.mp nd).1 (List.of_mem_zip hv).1,if_neg hk]
  simp
 | p::P,w::vs,i+1,m,nd,h1,h2,hk=>by
  show bindC kindOf ((p,w)::P.zip vs) m x=_
  unfold bindC
  exact bindC_get (i:=i) (List.nodup_cons.mp nd).2 (by simpa using h1) (by simpa using h2) hk
def start (N:List Str) (vs:List V):St:=vs.map some++List.replicate (N.length - vs.length) none
def cxOf (CX:CXT) (P:Program) (w:World) (K:PySem.W.Frag) (mg:Str→Option Value) (base:Heap) (N:List Str) (qual:Str) (scope:Scope) (f:Addr) (cd:Value) (A:Around) (outer:List Env) (s:Shared) (H:Hp) (E:XK):Cx where
 prog:=P
 w:=w
 K:=K
 mg:=mg
 base:=base
 A:=A.deeper (envOfC qual scope s.heap.objs.size f cd)
 N:=N
 s₀:=s
 H₀:=H
 env:=envOfC qual scope s.heap.objs.size f cd
 outer:=outer
 stack:=envOfC qual scope s.heap.objs.size f cd::outer
 ex:=[]
 calm:=true
 fn:=fun _=>true
 pn:=[]
 xe:=fun e s'=>wpAny (model P w) (A.deeper (envOfC qual scope s.heap.objs.size f cd)) (leaving (envOfC qual scope s.heap.objs.size f cd) e) (fun _ s''=>CX outer H s E e s'') (fun e' s''=>CX outer H s E e' s'') s'
theorem cell_has {sc:Scope} {n:Nat} {x:Str} (h:sc.names.lookup x=some .cell):∃ c,(cellsFrom n sc.names []).lookup x=some c:=by
 have q:=PySem.W.cellsFrom_some sc.names n [] (.inl h)
 exact Option.isSome_iff_exists.mp q
theorem inv_start {CX:CXT} {P:Program} {w:World} {K:PySem.W.Frag} {mg:Str→Option Value} {base:Heap} {N ps:List Str} {qual:Str} {scope:Scope} {f:Addr} {cd:Value} {A:Around} {outer:List Env} {s s1:Shared} {H:Hp} {E:XK} {us:List Value} {vs:List V}
  (S:FnScope N ps scope) (hd:A.handled=none) (e0:Env0 P w K mg base A outer s H) (hl:vs.length=ps.length) (r:Vals vs us)
  (x:InCallC s s.heap.objs.size (bindL (envOfC qual scope s.heap.objs.size f cd).kindOf (ps.zip us) fun _=>none) (cellsFrom (s.heap.objs.size+1) scope.names []) (bindC (envOfC qual scope s.heap.objs.size f cd).kindOf (ps.zip us) fun _=>none) s1) :
  Inv (cxOf CX P w K mg base N qual scope f cd A outer s H E) [] (start N vs) H s1:=by
 have hpl:ps.length≤N.length:=by have:=congrArg List.length S.pre;rw [List.length_take] at this;omega
 obtain ⟨h1,tk,rfl,hk⟩:=x.done
 have noA:∀ b:Addr,b ∉ (cxOf CX P w K mg base N qual scope f cd A outer s H E).ex:=fun b z=>absurd (show b ∈ ([]:List Addr) from z) (by simp)
 refine ⟨⟨e0.mod,S.kind,rfl,rfl,Nat.le_refl _,fun y z c h1 h2=>?_,fun y hy=>?_,fun y c _ h=>?_,fun _=>hd,Around.frames_deeper e0.frames,.inr ⟨rfl,rfl⟩,fun b z=>absurd z (noA b),e0.bs,e0.bsz,fun b _ _=>noA b,fun b z=>absurd z (noA b),e0.funs,e0.frf⟩,
  rfl,e0.bare,Un.kept hk,⟨_,x.toInCall.ns,fun i y v h1 h2 h3=>?_⟩,fun y c h=>⟨_,x.cell y c h⟩,e0.hok.fresh (Nat.le_refl _),fun y c h=>?_,fun p hp=>absurd (show p ∈ ([]:List (Addr × Obj)) from hp) (by simp),e0.hok.kept hk,?_⟩
 ·exact name_of_addr x.apart (PySem.mem_of_lookup h1) (PySem.mem_of_lookup h2)
 ·have hy:scope.names.lookup y=some .cell∨scope.names.lookup y=some .free:=hy
  rcases hy with hy | hy
  ·exact cell_has hy
  ·exact absurd rfl (S.nofree _ (PySem.mem_of_lookup hy))
 ·exact Nat.le_of_lt (x.above y c (PySem.mem_of_lookup h))
 ·have hi:i<vs.length:=by
   unfold start at h2
   by_cases hi:i<vs.length
   ·exact hi
   ·rw [List.getElem?_append_right (by simpa using hi)] at h2
    rw [List.getElem?_replicate] at h2
    split at h2 <;> cases h2
  have ha:vs[i]?=some v:=by
   unfold start at h2
   rw [List.getElem?_append_left (by simpa using hi),List.getElem?_map] at h2
   cases e:vs[i]? with
   | none=>rw [e] at h2;cases h2
   | some a=>rw [e] at h2;cases h2;rfl
  obtain ⟨u,hu,rv⟩:=r.get ha
  have hp:ps[i]?=some y:=by
   rw [← S.pre,List.getElem?_take_of_lt (by omega)];exact h1
  have ndP:ps.Nodup:=by rw [← S.pre];exact S.nd.sublist (List.take_sublist _ _)
  refine ⟨u,rv,?_⟩
  rcases S.par y (List.mem_of_getElem? hp) with k | k
  ·exact .inl ⟨k,bindL_get ndP hp hu k⟩
  ·obtain ⟨c,e⟩:=cell_has (n:=s.heap.objs.size+1) k
   refine .inr ⟨.inl k,c,e,?_⟩
   have q:=x.cell y c e
   rw [bindC_get ndP hp hu (by show scope.names.lookup y ≠ _;rw [k];decide)] at q
   exact q
 ·exact e0.hok.fresh (Nat.le_of_lt (x.above y c (PySem.mem_of_lookup h)))
 ·unfold start
  show _=N.length
  rw [List.length_append,List.length_map,List.length_replicate]
  omega
theorem fn_of {CX:CXT} {P:Program} {w:World} {K:PySem.W.Frag} {mg:Str→Option Value} {base:Heap} {k:Nat} {f:Addr} {name qual:Str} {params:Arguments} {body:List Stmt} {scope:Scope} {dV kV doc pm cdv ct oc:Value} {an od:Option Addr}
  {osl:Array (Option Value)} {N ps:List Str} {sp:Sp} (lk:K.lookup f=some ⟨oc,od,.func (PySem.W.fnOf name qual params body scope dV kV doc pm an cdv ct),osl⟩) (hcd:PySem.W.codeIn K cdv qual=true) (S:FnScope N ps scope)
  (len:∀ vs H Q E,sp vs H Q E→vs.length=ps.length)
  (hbody:∀ (A:Around) (outer:List Env) (s:Shared) (H:Hp) (vs:List V) (Q:VK) (E:XK),Room k (A.deeper (envOfC qual scope s.heap.objs.size f cdv))→sp vs H Q E→
   ∃ t,PSs (cxOf CX P w K mg base N qual scope f cdv A outer s H E) body t∧t { nx:=fun _ H'=>Q .non H',rt:=Q } (start N vs) H) :
  FnOk P w K mg base CX (k+1) f (PySem.W.fnOf name qual params body scope dV kV doc pm an cdv ct) ps sp:=by
 refine ⟨len,fun A outer s H args us vs Q E hr e0 hb r hsp=>?_⟩
 have hl:=len _ _ _ _ hsp
 have KX:K.In s.heap:=e0.mod.kin.keeps fun b o e=>(e0.bs b o e).1
 have lim:s.heap.NoLimit:=e0.mod.nolimit.keeps fun b o e=>(e0.bs b o e).1
 have hkind:∀ y ∈ ps.zip us,scope.names.lookup y.1=some .local∨(scope.names.lookup y.1=some .cell∧((cellsFrom (s.heap.objs.size+1) scope.names []).lookup y.1).isSome=true):=fun ⟨n,v⟩ hy=>by
  rcases S.par n (List.of_mem_zip hy).1 with q | q
  ·exact .inl q
  ·exact .inr ⟨q,PySem.W.cellsFrom_some _ _ _ (.inl q)⟩
 refine codeAny_call_function hr.depth (KX _ _ lk) rfl S.co S.gen rfl (PySem.W.codeRec_of KX hcd) (hb _ _ _ _ ?_)
 refine wpAny_newFunctionEnv_cells S.kind hkind fun env he s1 x=>?_
 subst he
 refine ⟨lim.keeps x.toInCall.keep,codeAny_func ?_⟩
 obtain ⟨t,ht,hq⟩:=hbody A outer s H vs Q E (hr.deeper _) hsp
 have I:Inv (cxOf CX P w K mg base N qual scope f cdv A outer s H E) [] (start N vs) H s1:=inv_start S hr.hd e0 hl r x
 refine wpAny_mono (ht [] s1 (start N vs) H _ I hq) (fun fl s' hs=>?_) fun e s' hs=>hs
 have fin:∀ {σ':St} {H':Hp} {v:V} {u:Value},Inv (cxOf CX P w K mg base N qual scope f cdv A outer s H E) [] σ' H' s'→RelV v u→Q v H'→CE outer P w H s Q u s':=
  fun {σ' H' v u} J rv q=>⟨v,H',J.os,J.bare,J.base,J.hok,rv,q⟩
 cases fl with
 | ret u=>
  obtain ⟨v,σ',H',J,rv,q⟩:=hs
  exact fin J rv q
 | next=>
  obtain ⟨σ',H',J,q⟩:=hs
  exact fin (v:=V.non) (u:=Value.none) J rfl q
 | brk=>
  obtain ⟨_,_,_,q⟩:=hs
  exact False.elim q
 | cont=>
  obtain ⟨_,_,_,q⟩:=hs
  exact False.elim q
end L2
namespace L2
open PySem PySem.Spec PyProof.Rows
section
variable {X:Cx} {x:Str} {p pos:Pos} {e:Expr} {es:List Expr} {t:TA} {id T:String} {r:List V→Hp→VK→Prop}
def tCB (r:List V→Hp→VK→Prop) (t:TA):TE:=fun σ H Q=>t σ H fun vs H1=>r vs H1 Q
theorem pe_callB (hc:CallR X (.builtin id) r) (hg:Gl X x) (hm:X.mg x=none) (hv:bootBuiltins x=some (.builtin id)) (ha:PA X (e::es) t) (hn:x ≠ "__name__":=by decide) (hdb:(x == ("__debug__" : Str))=false:=by decide)
  (he:starEach (e::es) X.env=(false,eval e X.env)::starEach es X.env:=by rfl) (hpl:(backTo pos (starEach es X.env)).any (·.1)=false:=by rfl):PE X (.Call (.Name x p) (e::es) [] pos) (tCB r t):=by
 intro pins s σ H Q I h
 refine wpAny_Call_Name_kw (ld_blt I hg hm hv ?_ hn hdb)
 exact PyProof.Rows.callWith_builtin1 (thn (ha pos pins s σ H _ I h) fun us s1 ⟨vs,H1,I1,r1,q1⟩=>hc pins s1 σ H1 vs us Q I1 r1 q1) he hpl
theorem pe_callTy (hc:CallR X (.type T) r) (hg:Gl X x) (hm:X.mg x=none) (hv:bootBuiltins x=some (.type T)) (ha:PA X (e::es) t) (hn:x ≠ "__name__":=by decide) (hdb:(x == ("__debug__" : Str))=false:=by decide)
  (he:starEach (e::es) X.env=(false,eval e X.env)::starEach es X.env:=by rfl) (hpl:(backTo pos (starEach es X.env)).any (·.1)=false:=by rfl):PE X (.Call (.Name x p) (e::es) [] pos) (tCB r t):=by
 intro pins s σ H Q I h
 refine wpAny_Call_Name_kw (ld_blt I hg hm hv ?_ hn hdb)
 exact PyProof.Rows.callWith_type1 (thn (ha pos pins s σ H _ I h) fun us s1 ⟨vs,H1,I1,r1,q1⟩=>hc pins s1 σ H1 vs us Q I1 r1 q1) he hpl
end
end L2
namespace HT
open PySem PyProof.Rows
section
open PySem.SeqAt
open PySem.AutoSeq1 (wpAny_loadPart')
open PySem.MeetsSeq PySem.MeetsSeq2 PySem.MeetsSeq3
end
section
variable {prog:Program} {w:World} {A:Around} {E:Value→Shared→Prop} {s:Shared}
theorem cat_tup {t b:Addr} {vs ws:List Value} {Q:Value→Shared→Prop} (ht:IsTup s.heap t vs.toArray) (hb:IsTup s.heap b ws.toArray) (hv:vs ≠ [])
  (h1:ws=[]→Q (.ref t) s) (h2:ws ≠ []→Q (.ref s.heap.objs.size) { s with heap:=s.heap.push { cls:=.type "tuple",data:=.seq (vs++ws).toArray } })
  (hsz:vs.length+ws.length≤sizeLine):wpAny (model prog w) A (binaryOp .Add (.ref t) (.ref b)) Q E s:=by
 obtain ⟨⟨cls,dd,data,sl⟩,ho,hc,n,hd⟩:=id ht
 obtain ⟨⟨cls2,dd2,data2,sl2⟩,ho2,hc2,n2,hd2⟩:=id hb
 simp only at hc hd hc2 hd2
 subst hc hd hc2 hd2
 have e:vs.toArray++ws.toArray=(vs++ws).toArray:=by simp
 by_cases hw:ws=[]
 ·exact concat_meets ⟨_,ho,rfl⟩ ⟨_,ho2,rfl⟩ noFill_tuple_add seq_tuple_add PySem.F.slot_tuple_add PySem.F.entry_tuple_add (PySem.F.args_tuple_add_2 _ _)
   (tuple_addW1 t b vs.toArray ws.toArray n n2 dd dd2 sl sl2 (by simpa using hv) (by simp [hw])) ⟨ho,ho2,h1 hw⟩
 ·refine concat_meets ⟨_,ho,rfl⟩ ⟨_,ho2,rfl⟩ noFill_tuple_add seq_tuple_add PySem.F.slot_tuple_add PySem.F.entry_tuple_add (PySem.F.args_tuple_add_2 _ _)
   (tuple_addW2 t b vs.toArray ws.toArray n n2 dd dd2 sl sl2 (by simpa using hv) (by simpa using hw) (by rw [List.size_toArray,List.size_toArray];exact hsz)) ⟨ho,ho2,?_⟩
  rw [e]
  exact h2 hw
def sIx (n d:Nat):Option Int→Nat
 | none=>d
 | some v=>if v<0 then (v+(n:Int)).toNat else min v.toNat n
theorem sIx_none (n d:Nat):sIx n d none=d:=rfl
theorem sIx_nat (n d k:Nat):sIx n d (some (k:Int))=min k n:=by
 show (if (k:Int)<0 then ((k:Int)+(n:Int)).toNat else min (k:Int).toNat n)=min k n
 rw [if_neg (by omega),Int.toNat_natCast]
end
end HT
namespace L2
open PySem PySem.Spec PyProof.Rows
abbrev TO:=St→Hp→(Option Int→Hp→Prop)→Prop
def PO (X:Cx) (e:Option Expr) (t:TO):Prop:=
 ∀ (pins:List (Addr × Obj)) (s:Shared) (σ:St) (H:Hp) (Q:Option Int→Hp→Prop),Inv X pins σ H s→t σ H Q→
  wpAny (model X.prog X.w) X.A (evalPart e X.env) (fun u s'=>∃ o H',Inv X pins σ H' s'∧IsPart u o∧Q o H') X.xe s
def tNoPart:TO:=fun _ H Q=>Q none H
def tPart (t:TE):TO:=fun σ H Q=>t σ H fun x H1=>∃ i,x=.int i∧Q (some i) H1
section
variable {X:Cx} {e:Expr} {te:TE} {lo hi:Option Expr} {tl th:TO} {pos p2:Pos}
theorem po_none:PO X none tNoPart:=by
 intro pins s σ H Q I h
 rw [evalPart_none]
 exact wpAny_pure ⟨none,H,I,.none,h⟩
theorem po_some (h:PE X e te):PO X (some e) (tPart te):=by
 intro pins s σ H Q I hw
 rw [evalPart_some]
 refine thn (h pins s σ H _ I hw) fun u s1 ⟨x,H1,I1,r1,q1⟩=>?_
 obtain ⟨i,rfl,q⟩:=q1
 obtain ⟨t,rfl⟩:=r1
 exact ⟨some i,H1,I1,.int i t,q⟩
def SlR (X:Cx) (r:V→Option Int→Option Int→Hp→VK→Prop):Prop:=
 ∀ (pins:List (Addr × Obj)) (s:Shared) (σ:St) (H:Hp) (x:V) (v vl vu:Value) (lo hi:Option Int) (sl:Addr) (Q:VK),Inv X pins σ H s→RelV x v→s.heap.IsSliceOf sl vl vu .none→IsPart vl lo→IsPart vu hi→r x lo hi H Q→
  ∃ T id,typeLookup (.type T) "__getitem__" = pure (some (.builtin id))∧s.TypeIs v T∧wpAny (model X.prog X.w) X.A (getItem v (.ref sl)) (EP X pins σ Q) X.xe s
def tSl (r:V→Option Int→Option Int→Hp→VK→Prop) (te:TE) (tl th:TO):TE:=fun σ H Q=>te σ H fun x H1=>tl σ H1 fun l H2=>th σ H2 fun u H3=>r x l u H3 Q
theorem pe_slice {r:V→Option Int→Option Int→Hp→VK→Prop} (hr:SlR X r) (he:PE X e te) (hl:PO X lo tl) (hu:PO X hi th):PE X (.Subscript e (.Slice lo hi none p2) pos) (tSl r te tl th):=by
 intro pins s σ H Q I h
 refine Subscript_ (thn (he pins s σ H _ I h) fun v s1 ⟨x,H1,I1,r1,q1⟩=>?_)
 refine wpAny_Slice (thn (hl pins s1 σ H1 _ I1 q1) fun vl s2 ⟨l,H2,I2,pl,q2⟩=>thn (hu pins s2 σ H2 _ I2 q2) fun vu s3 ⟨u,H3,I3,pu,q3⟩=>?_)
 rw [evalPart_none]
 refine wpAny_pure ?_
 have I4:Inv X pins σ H3 { s3 with heap:=s3.heap.push { cls:=.type "slice",data:=.fields #[vl,vu,.none] } }:=I3.kept (t':=s3.toks) fun b ob q=>Heap.get?_push_of_some _ q
 obtain ⟨T,id,hT,ht,hg⟩:=hr pins { s3 with heap:=s3.heap.push { cls:=.type "slice",data:=.fields #[vl,vu,.none] } } σ H3 x v vl vu l u s3.heap.objs.size Q I4 r1 (Heap.IsSliceOf.new ..) pl pu q3
 show wpAny (model X.prog X.w) X.A (subscriptTail e (.Slice lo hi none p2) v (.ref s3.heap.objs.size)) (EP X pins σ Q) X.xe { s3 with heap:=s3.heap.push { cls:=.type "slice",data:=.fields #[vl,vu,.none] } }
 exact tail_any (ops:=[.ref s3.heap.objs.size,v]) ht hT hg (by with_unfolding_all rfl)
def cutV (xs:List V) (lo hi:Option Int):List V:=(xs.drop (HT.sIx xs.length 0 lo)).take (HT.sIx xs.length xs.length hi - HT.sIx xs.length 0 lo)
theorem cutV_length (xs:List V) (lo hi:Option Int):(cutV xs lo hi).length≤xs.length:=by
 unfold cutV
 rw [List.length_take,List.length_drop]
 omega
def rCatT (K:PySem.W.Frag):R2:=fun x y H Q=>∃ a b xs ys,x=.ref a∧y=.ref b∧SqT K H a xs∧SqT K H b ys∧xs ≠ []∧xs.length+ys.length≤sizeLine∧
 (ys=[]→Q (.ref a) H)∧(ys ≠ []→∀ p,H p=none→Q (.ref p) (upd H p (.tup (xs++ys))))
theorem Vals.nil_iff {xs:List V} {us:List Value} (r:Vals xs us):us=[] ↔ xs=[]:=by
 cases r with
 | nil=>simp
 | cons _ _=>simp
theorem op_catT:OpR X (binaryOp .Add) (rCatT X.K):=by
 intro pins s σ H x y v u Q I rx ry h
 obtain ⟨a,b,xs,ys,rfl,rfl,ha,hb,hx,hz,q1,q2⟩:=h
 cases rx
 cases ry
 obtain ⟨its,r1,p1,_⟩:=I.tuple ha
 obtain ⟨its2,r2,p2,_⟩:=I.tuple hb
 refine HT.cat_tup p1 p2 (fun z=>hx (r1.nil_iff.mp z)) (fun z=>⟨.ref a,H,I,rfl,q1 (r2.nil_iff.mp z)⟩) (fun z=>?_) (by rw [← r1.length,← r2.length];exact hz)
 refine ⟨.ref s.heap.objs.size,_,I.laid (t':=s.toks) (o:=.tup (xs++ys)) (fun b ob q=>Heap.get?_push_of_some _ q) (Nat.le_refl _) ?_,rfl,q2 (fun w=>z (r2.nil_iff.mpr w)) _ (I.hok.fresh (Nat.le_refl _))⟩
 exact ⟨by rw [List.length_append];exact hz,_,r1.append r2,IsTup.new _ _⟩
end
end L2
namespace L2
open PySem PySem.Spec PyProof.Rows
def ixN (n:Nat) (i:Int):Option Nat:=if 0≤i then (if i<n then some i.toNat else none) else if -(n:Int)≤i then some (i+n).toNat else none
def atI {α:Type} (xs:List α) (i:Int):Option α:=(ixN xs.length i).bind fun j=>xs[j]?
theorem ixN_seq {n:Nat} {i:Int} {j:Nat} (h:ixN n i=some j):seqIndex? i n=some j∧j<n∧-(n:Int)≤i∧i<n:=by
 unfold ixN at h
 by_cases h0:0≤i
 ·rw [if_pos h0] at h
  by_cases h1:i<n
  ·rw [if_pos h1] at h
   have e:i.toNat=j:=Option.some.inj h
   exact ⟨by rw [seqIndex_of h0 h1,e],by omega,by omega,h1⟩
  ·rw [if_neg h1] at h;cases h
 ·rw [if_neg h0] at h
  by_cases h1:-(n:Int)≤i
  ·rw [if_pos h1] at h
   have e:(i+n).toNat=j:=Option.some.inj h
   exact ⟨by rw [seqIndex_neg (by omega) h1,e],by omega,h1,by omega⟩
  ·rw [if_neg h1] at h;cases h
theorem atI_get {α:Type} {xs:List α} {i:Int} {v:α} (h:atI xs i=some v):∃ j,seqIndex? i xs.length=some j∧xs[j]?=some v∧j<xs.length∧-(xs.length:Int)≤i∧i<xs.length:=by
 unfold atI at h
 cases e:ixN xs.length i with
 | none=>rw [e] at h;cases h
 | some j=>
  rw [e] at h
  obtain ⟨h1,h2,h3,h4⟩:=ixN_seq e
  exact ⟨j,h1,h,h2,h3,h4⟩
theorem atI_nat {α:Type} {xs:List α} {j:Nat} {v:α} (h:xs[j]?=some v):atI xs (j:Int)=some v:=by
 have hj:j<xs.length:=(List.getElem?_eq_some_iff.mp h).1
 have e:ixN xs.length (j:Int)=some j:=by
  unfold ixN
  rw [if_pos (by omega),if_pos (by omega)];simp
 unfold atI;rw [e];exact h
theorem atI_last {α:Type} (xs:List α) (v:α):atI (xs++[v]) (-1)=some v:=by
 have hl:(xs++[v]).length=xs.length+1:=by simp
 have e:ixN (xs++[v]).length (-1)=some xs.length:=by
  unfold ixN
  rw [hl,if_neg (by decide),if_pos (by omega)]
  congr 1
  omega
 unfold atI
 rw [e]
 show (xs++[v])[xs.length]?=some v
 simp
def PlainIx (b:Expr):Prop:=∀ o i,subscripted b false o i=operate [o,i] (getItem o i)
def IxR (X:Cx) (r:R2):Prop:=
 ∀ (value slice:Expr) (pins:List (Addr × Obj)) (s:Shared) (σ:St) (H:Hp) (x y:V) (v u:Value) (Q:VK),Inv X pins σ H s→RelV x v→RelV y u→r x y H Q→
  subscripted slice false v u=operate [v,u] (getItem v u)→wpAny (model X.prog X.w) X.A (subscriptTail value slice v u) (EP X pins σ Q) X.xe s
def MtR (X:Cx) (id:String) (r:V→List V→Hp→VK→Prop):Prop:=
 ∀ (pins:List (Addr × Obj)) (s:Shared) (σ:St) (H:Hp) (x:V) (xs:List V) (v:Value) (us:List Value) (Q:VK),Inv X pins σ H s→RelV x v→Vals xs us→r x xs H Q→
  wpAny (model X.prog X.w) X.A (call (.builtin id) (v::us)) (EP X pins σ Q) X.xe s
section
variable {X:Cx} {a b:Expr} {ta tb:TE} {pos:Pos}
theorem pe_ix {r:R2} (hr:IxR X r) (ha:PE X a ta) (hb:PE X b tb) (hs:PlainIx b):PE X (.Subscript a b pos) (tOp r ta tb):=by
 intro pins s σ H Q I h
 exact Subscript_ (binT ha hb I h fun v u s2 x y H2 I2 rx ry q=>hr a b pins s2 σ H2 x y v u Q I2 rx ry q (hs _ _))
def rIxL (K:PySem.W.Frag):R2:=fun x y H Q=>∃ p xs i v,x=.ref p∧y=.int i∧SqL K H p xs∧atI xs i=some v∧Q v H
def rIxT (K:PySem.W.Frag):R2:=fun x y H Q=>∃ p xs i v,x=.ref p∧y=.int i∧SqT K H p xs∧atI xs i=some v∧Q v H
theorem ix_list:IxR X (rIxL X.K):=by
 intro value slice pins s σ H x y v u Q I rx ry h hs
 obtain ⟨p,xs,i,z,rfl,rfl,hq,he,q⟩:=h
 cases rx
 obtain ⟨t,rfl⟩:=ry
 obtain ⟨its,r,pl,hz⟩:=I.list hq
 obtain ⟨j,h1,h2,h3,h4,h5⟩:=atI_get he
 obtain ⟨w,ew,rw'⟩:=r.get h2
 have hl:=r.length
 have hn:=line63
 have fin:EP X pins σ Q w s:=⟨z,H,I,rw',q⟩
 by_cases h0:0≤i
 ·have hj:i.toNat=j:=by
   rw [seqIndex_of h0 h5] at h1
   exact Option.some.inj h1
  exact item_listR pl.isList h0 (by omega) (by rw [hj];simpa using ew) fin hs
 ·have hj:(i+(its.toArray.size:Int)).toNat=j:=by
   rw [seqIndex_neg (by omega) h4] at h1
   rw [List.size_toArray,← hl]
   exact Option.some.inj h1
  exact subscriptTail_builtinR (x:=w) pl.isList.typeIs slot_list_getitem.lookup
   (wpAny_getItem_list_neg (Q:=fun r s'=>r=w∧EP X pins σ Q r s') pl.isList (by omega) (by rw [List.size_toArray] <;> omega) (by omega) (by rw [hj];simpa using ew) ⟨rfl,fin⟩) hs
theorem ix_tup:IxR X (rIxT X.K):=by
 intro value slice pins s σ H x y v u Q I rx ry h hs
 obtain ⟨p,xs,i,z,rfl,rfl,hq,he,q⟩:=h
 cases rx
 obtain ⟨t,rfl⟩:=ry
 obtain ⟨its,r,pl,hz⟩:=I.tuple hq
 obtain ⟨j,h1,h2,h3,h4,h5⟩:=atI_get he
 obtain ⟨w,ew,rw'⟩:=r.get h2
 have hl:=r.length
 have hn:=line63
 have fin:EP X pins σ Q w s:=⟨z,H,I,rw',q⟩
 exact subscriptTail_builtinR (x:=w) pl.typeIs slot_tuple_getitem.lookup
  (getItem_tuple (j:=j) (Q:=fun r s'=>r=w∧EP X pins σ Q r s') pl (by omega) (by omega) (by rw [List.size_toArray,← hl];exact h1) (by simpa using ew) ⟨rfl,fin⟩) hs
theorem mapSeq_set (its:List Value) (n j:Nat) (u:Value):Obj.mapSeq (·.setIfInBounds j u) { cls:=.type "list",data:=.seq its.toArray n }={ cls:=.type "list",data:=.seq (its.set j u).toArray n }:=by
 simp [Obj.mapSeq]
theorem Inv.lst {pins:List (Addr × Obj)} {σ:St} {H:Hp} {s:Shared} {p:Addr} {xs:List V} (I:Inv X pins σ H s) (h:H p=some (.lst xs)) :
  ∃ (its:List Value) (n:Nat),Vals xs its∧s.heap.get? p=some { cls:=.type "list",data:=.seq its.toArray n }∧xs.length≤sizeLine:=by
 obtain ⟨z,its,n,r,e⟩:=I.hok p _ h
 exact ⟨its,n,r,e,z⟩
theorem Inv.lstUpd {pins:List (Addr × Obj)} {σ:St} {H:Hp} {s:Shared} {p:Addr} {xs ys:List V} {its its':List Value} {n n':Nat} {f:Obj→Obj} (I:Inv X pins σ H s) (h:H p=some (.lst xs))
  (ho:s.heap.get? p=some { cls:=.type "list",data:=.seq its.toArray n }) (hf:f { cls:=.type "list",data:=.seq its.toArray n }={ cls:=.type "list",data:=.seq its'.toArray n' }) (r:Vals ys its') (hz:ys.length≤sizeLine) (t:Nat) :
  Inv X pins σ (upd H p (.lst ys)) { s with heap:=s.heap.update p f,toks:=t }:=by
 have e:(s.heap.update p f).get? p=some { cls:=.type "list",data:=.seq its'.toArray n' }:=by
  rw [Heap.get?_update_self f ho (by rw [hf] <;> rfl),hf]
 refine I.write (x:=p) (e:=p) (by rw [h];trivial) (.inl rfl) (fun b u hb q=>(Heap.get?_update_other _ _ (Ne.symm hb)).trans q) ⟨_,e⟩ ?_
 exact ⟨hz,its',n',r,e⟩
def rSetL:V→V→V→Hp→(Hp→Prop)→Prop:=fun o i v H Q=>∃ p xs k j,o=.ref p∧i=.int k∧H p=some (.lst xs)∧ixN xs.length k=some j∧Q (upd H p (.lst (xs.set j v)))
theorem set_list:PSet X rSetL:=by
 intro pins s σ H o i v ov iv u Q I ro ri rv h
 obtain ⟨p,xs,k,j,rfl,rfl,hp,hj,q⟩:=h
 cases ro
 obtain ⟨t,rfl⟩:=ri
 obtain ⟨its,n,r,ho,hz⟩:=I.lst hp
 obtain ⟨h1,h2,h3,h4⟩:=ixN_seq hj
 have hl:=r.length
 have hn:=line63
 have I':Inv X pins σ (upd H p (.lst (xs.set j v))) { s with heap:=s.heap.update p (Obj.mapSeq (·.setIfInBounds j u)) }:=
  I.lstUpd hp ho (mapSeq_set its n j u) (r.set rv j) (by rw [List.length_set];exact hz) s.toks
 by_cases h0:0≤k
 ·have hk:k.toNat=j:=by
   rw [seqIndex_of h0 h4] at h1
   exact Option.some.inj h1
  exact PySem.W.ki_setAt ho h0 (by omega) (by rw [List.size_toArray,← hl];exact h4) (by rw [hk];exact ⟨_,I',q⟩)
 ·have hk:(k+(its.toArray.size:Int)).toNat=j:=by
   rw [seqIndex_neg (by omega) h3] at h1
   rw [List.size_toArray,← hl]
   exact Option.some.inj h1
  exact PySem.W.ki_setBack ho (by omega) (by rw [List.size_toArray,← hl];exact h3) (by omega) (by rw [hk];exact ⟨_,I',q⟩)
theorem slice_bounds (lo hi:Option Int) (n:Nat):(sliceBounds lo hi none n).1=((HT.sIx n 0 lo:Nat):Int)∧(sliceBounds lo hi none n).2.1=((HT.sIx n n hi:Nat):Int)∧(sliceBounds lo hi none n).2.2=1:=by
 refine ⟨?_,?_,rfl⟩
 ·cases lo with
  | none=>simp [sliceBounds,HT.sIx]
  | some i=>
   simp only [sliceBounds,HT.sIx,Option.getD_none,show (1:Int) > 0 by decide,if_true]
   by_cases h:i<0
   ·simp only [h,if_true] <;> omega
   ·simp only [h,if_false] <;> omega
 ·cases hi with
  | none=>simp [sliceBounds,HT.sIx]
  | some i=>
   simp only [sliceBounds,HT.sIx,Option.getD_none,show (1:Int) > 0 by decide,if_true]
   by_cases h:i<0
   ·simp only [h,if_true] <;> omega
   ·simp only [h,if_false] <;> omega
theorem slicePick_cut (its:List Value) (lo hi:Option Int):slicePick its.toArray lo hi none=((its.drop (HT.sIx its.length 0 lo)).take (HT.sIx its.length its.length hi - HT.sIx its.length 0 lo)).toArray:=by
 obtain ⟨h1,h2,h3⟩:=slice_bounds lo hi its.toArray.size
 unfold slicePick
 rw [h1,h2,h3]
 simp only [sliceRange_one,pick_run,List.size_toArray] <;> rfl
def rSlL (K:PySem.W.Frag):V→Option Int→Option Int→Hp→VK→Prop:=fun x lo hi H Q=>∃ a xs,x=.ref a∧SqL K H a xs∧∀ p,H p=none→Q (.ref p) (upd H p (.lst (cutV xs lo hi)))
theorem sl_list:SlR X (rSlL X.K):=by
 intro pins s σ H x v vl vu lo hi sl Q I rx hs pl pu h
 obtain ⟨a,xs,rfl,hx,q⟩:=h
 cases rx
 obtain ⟨its,r,ht,hz⟩:=I.list hx
 have hlen:=r.length
 refine ⟨"list",_,slot_list_getitem.lookup,ht.isList.typeIs,?_⟩
 refine wpAny_getItem_list_slice ht.isList hs pl pu .none (by simp) ?_ (by rw [List.size_toArray] <;> omega)
 rw [slicePick_cut,← hlen]
 refine ⟨.ref s.heap.objs.size,_,I.laid (t':=s.toks) (o:=.lst (cutV xs lo hi)) (fun b ob q=>Heap.get?_push_of_some _ q) (Nat.le_refl _) ?_,rfl,q _ (I.hok.fresh (Nat.le_refl _))⟩
 exact ⟨Nat.le_trans (cutV_length xs lo hi) hz,_,0,(r.drop (HT.sIx xs.length 0 lo)).take (HT.sIx xs.length xs.length hi - HT.sIx xs.length 0 lo),Heap.get?_push_size _ rfl⟩
def flatV:V→Bool
 | .non=>true
 | .bl _=>true
 | .int _=>true
 | .str _=>true
 | _=>false
def eqV:V→V→Bool
 | .non,.non=>true
 | .bl a,.bl b=>a == b
 | .bl a,.int b=>(if a then 1 else 0) == b
 | .int a,.bl b=>a == (if b then 1 else 0)
 | .int a,.int b=>a == b
 | .str a,.str b=>a == b
 | _,_=>false
theorem eqAt_V {A:Around} {s:Shared} {y x:V} {u v:Value} (ry:RelV y u) (rx:RelV x v) (fy:flatV y=true) (fx:flatV x=true):SeqAt.EqAt A s u v (eqV y x):=by
 cases y with
 | non=>
  cases ry
  cases x with
  | non=>cases rx;exact SeqAt.EqAt.same _
  | bl b=>cases rx;exact SeqAt.EqAt.none_bool b
  | int b=>obtain ⟨t,rfl⟩:=rx;exact SeqAt.EqAt.none_int b t
  | str b=>obtain ⟨t,rfl⟩:=rx;exact SeqAt.EqAt.none_str b t
  | _=>exact absurd (show false=true from fx) Bool.false_ne_true
 | bl a=>
  cases ry
  cases x with
  | non=>cases rx;exact SeqAt.EqAt.bool_none a
  | bl b=>cases rx;exact SeqAt.EqAt.bool_bool a b
  | int b=>obtain ⟨t,rfl⟩:=rx;exact SeqAt.EqAt.bool_int a b t
  | str b=>obtain ⟨t,rfl⟩:=rx;exact SeqAt.EqAt.bool_str a b t
  | _=>exact absurd (show false=true from fx) Bool.false_ne_true
 | int a=>
  obtain ⟨t',rfl⟩:=ry
  cases x with
  | non=>cases rx;exact SeqAt.EqAt.int_none a t'
  | bl b=>cases rx;exact SeqAt.EqAt.int_bool a t' b
  | int b=>obtain ⟨t,rfl⟩:=rx;exact SeqAt.EqAt.int_int a t' b t
  | str b=>obtain ⟨t,rfl⟩:=rx;exact SeqAt.EqAt.int_str a t' b t
  | _=>exact absurd (show false=true from fx) Bool.false_ne_true
 | str a=>
  obtain ⟨t',rfl⟩:=ry
  cases x with
  | non=>cases rx;exact SeqAt.EqAt.str_none a t'
  | bl b=>cases rx;exact SeqAt.EqAt.str_bool a t' b
  | int b=>obtain ⟨t,rfl⟩:=rx;exact SeqAt.EqAt.str_int a t' b t
  | str b=>obtain ⟨t,rfl⟩:=rx;exact SeqAt.EqAt.str_str a t' b t
  | _=>exact absurd (show false=true from fx) Bool.false_ne_true
 | _=>exact absurd (show false=true from fy) Bool.false_ne_true
def eqU (x:V) (u:Value):Bool:=match u with
 | .none=>eqV .non x
 | .bool b=>eqV (.bl b) x
 | .int i _=>eqV (.int i) x
 | .str z _=>eqV (.str z) x
 | _=>false
theorem eqU_of {x y:V} {u:Value} (r:RelV y u) (f:flatV y=true):eqU x u=eqV y x:=by
 cases y with
 | non=>cases r;rfl
 | bl b=>cases r;rfl
 | int i=>obtain ⟨t,rfl⟩:=r;rfl
 | str z=>obtain ⟨t,rfl⟩:=r;rfl
 | _=>exact absurd (show false=true from f) Bool.false_ne_true
theorem any_eqU {x:V}:∀ {xs:List V} {us:List Value},Vals xs us→xs.all flatV=true→us.any (eqU x)=xs.any fun y=>eqV y x
 | _,_,.nil,_=>rfl
 | y::xs,u::us,.cons r t,f=>by
  rw [List.all_cons,Bool.and_eq_true] at f
  rw [List.any_cons,List.any_cons,eqU_of r f.1,any_eqU t f.2]
theorem mem_eqAt {A:Around} {s:Shared} {x:V} {v:Value} (rx:RelV x v) (fx:flatV x=true):∀ {xs:List V} {us:List Value},Vals xs us→xs.all flatV=true→∀ u ∈ us,SeqAt.EqAt A s u v (eqU x u)
 | _,_,.nil,_=>fun u hu=>by cases hu
 | y::xs,u::us,.cons r t,f=>fun u' hu=>by
  rw [List.all_cons,Bool.and_eq_true] at f
  rcases List.mem_cons.mp hu with rfl | hu
  ·rw [eqU_of r f.1];exact eqAt_V r rx f.1 fx
  ·exact mem_eqAt rx fx t f.2 u' hu
def inV (x:V) (xs:List V):Bool:=xs.any fun y=>eqV y x
def rIn (K:PySem.W.Frag) (neg:Bool):R2:=fun x y H Q=>∃ p xs,y=.ref p∧(SqL K H p xs∨SqT K H p xs)∧flatV x=true∧xs.all flatV=true∧Q (.bl (if neg then !inV x xs else inV x xs)) H
theorem op_in_seq:OpR X (compareOp .In) (rIn X.K false):=by
 intro pins s σ H x y v u Q I rx ry h
 obtain ⟨p,xs,rfl,hq,fx,fs,q⟩:=h
 cases ry
 rcases hq with hq | hq
 ·obtain ⟨its,r,pl,hz⟩:=I.list hq
  refine SeqAt.in_listAt (eqU x) pl.isList (fun w hw=>mem_eqAt rx fx r fs w (by simpa using hw)) ⟨.bl _,H,I,rfl,?_⟩
  rw [show its.toArray.any (eqU x)=its.any (eqU x) by simp,any_eqU r fs]
  exact q
 ·obtain ⟨its,r,pl,hz⟩:=I.tuple hq
  refine SeqAt.in_tupleAt (eqU x) pl (fun w hw=>mem_eqAt rx fx r fs w (by simpa using hw)) ⟨.bl _,H,I,rfl,?_⟩
  rw [show its.toArray.any (eqU x)=its.any (eqU x) by simp,any_eqU r fs]
  exact q
theorem op_notIn_seq:OpR X (compareOp .NotIn) (rIn X.K true):=by
 intro pins s σ H x y v u Q I rx ry h
 obtain ⟨p,xs,rfl,hq,fx,fs,q⟩:=h
 cases ry
 rcases hq with hq | hq
 ·obtain ⟨its,r,pl,hz⟩:=I.list hq
  refine SeqAt.notIn_listAt (eqU x) pl.isList (fun w hw=>mem_eqAt rx fx r fs w (by simpa using hw)) ⟨.bl _,H,I,rfl,?_⟩
  rw [show its.toArray.any (eqU x)=its.any (eqU x) by simp,any_eqU r fs]
  exact q
 ·obtain ⟨its,r,pl,hz⟩:=I.tuple hq
  refine SeqAt.notIn_tupleAt (eqU x) pl (fun w hw=>mem_eqAt rx fx r fs w (by simpa using hw)) ⟨.bl _,H,I,rfl,?_⟩
  rw [show its.toArray.any (eqU x)=its.any (eqU x) by simp,any_eqU r fs]
  exact q
theorem call_len_seq:CallR X (.builtin "len") (fun xs H Q=>∃ p ys,xs=[.ref p]∧(SqL X.K H p ys∨SqT X.K H p ys)∧Q (.int ys.length) H):=by
 intro pins s σ H xs us Q I r h
 obtain ⟨p,ys,rfl,hq,q⟩:=h
 obtain ⟨u,rfl,rx⟩:=vals1 r
 cases rx
 have hn:=line63
 rcases hq with hq | hq
 ·obtain ⟨its,r',pl,hz⟩:=I.list hq
  have hlen:=r'.length
  exact Calls.call_len_list pl.isList (by simp only [List.size_toArray] <;> omega) ⟨.int ys.length,H,I.tok _,⟨s.toks+1,by rw [List.size_toArray,hlen]⟩,q⟩
 ·obtain ⟨its,r',pl,hz⟩:=I.tuple hq
  have hlen:=r'.length
  exact len_tuple pl (by simp only [List.size_toArray] <;> omega) ⟨.int ys.length,H,I.tok _,⟨s.toks+1,by rw [List.size_toArray,hlen]⟩,q⟩
theorem call_list_of:CallR X (.type "list") (fun xs H Q=>∃ p ys,xs=[.ref p]∧(SqL X.K H p ys∨SqT X.K H p ys)∧∀ l,H l=none→Q (.ref l) (upd H l (.lst ys))):=by
 intro pins s σ H xs us Q I r h
 obtain ⟨p,ys,rfl,hq,q⟩:=h
 obtain ⟨u,rfl,rx⟩:=vals1 r
 cases rx
 have fin:∀ (its:List Value),Vals ys its→ys.length≤sizeLine→∀ (h':Heap) (c':Nat),(∀ b o',s.heap.get? b=some o'→h'.get? b=some o')→
   h'.get? s.heap.objs.size=some { cls:=.type "list",dict:=none,data:=.seq its.toArray c',slots:=#[] }→EP X pins σ Q (.ref s.heap.objs.size) { s with heap:=h' }:=fun its r' hz h' c' kp e=>
  ⟨.ref s.heap.objs.size,_,I.laid (t':=s.toks) kp (Nat.le_refl _) (show ObjOk X.prog X.w _ h' _ (.lst ys) from ⟨hz,its,c',r',e⟩),rfl,q _ (I.hok.fresh (Nat.le_refl _))⟩
 rcases hq with hq | hq
 ·obtain ⟨its,r',pl,hz⟩:=I.list hq
  have hlen:=r'.length
  obtain ⟨o,ho,hc,n,hd⟩:=pl.isList
  exact call_list_seq p (.inl rfl) ho hc hd (fun h' c' kp e=>fin its r' hz h' c' kp e) (by simp only [List.size_toArray] <;> omega)
 ·obtain ⟨its,r',pl,hz⟩:=I.tuple hq
  have hlen:=r'.length
  obtain ⟨o,ho,hc,n,hd⟩:=pl
  exact call_list_seq p (.inr rfl) ho hc hd (fun h' c' kp e=>fin its r' hz h' c' kp e) (by simp only [List.size_toArray] <;> omega)
theorem call_tuple_of:CallR X (.type "tuple") (fun xs H Q=>∃ p ys,xs=[.ref p]∧((SqL X.K H p ys∧∀ l,H l=none→Q (.ref l) (upd H l (.tup ys)))∨(SqT X.K H p ys∧Q (.ref p) H))):=by
 intro pins s σ H xs us Q I r h
 obtain ⟨p,ys,rfl,h⟩:=h
 obtain ⟨u,rfl,rx⟩:=vals1 r
 cases rx
 rcases h with ⟨hq,q⟩ | ⟨hq,q⟩
 ·obtain ⟨its,r',pl,hz⟩:=I.list hq
  have hlen:=r'.length
  refine call_tuple_list pl.isList (fun h' kp=>?_) (by simp only [List.size_toArray] <;> omega)
  have I1:Inv X pins σ H { s with heap:=h' }:=I.kept (t':=s.toks) kp
  have I2:Inv X pins σ (upd H h'.objs.size (.tup ys)) { s with heap:=h'.push { cls:=.type "tuple",data:=.seq its.toArray } }:=
   I1.laid (t':=s.toks) (fun b o e=>Heap.get?_push_of_some _ e) (Nat.le_refl _) (show ObjOk X.prog X.w _ _ _ (.tup ys) from ⟨hz,its,r',IsTup.new _ _⟩)
  exact ⟨.ref h'.objs.size,_,I2,rfl,q _ (I1.hok.fresh (Nat.le_refl _))⟩
 ·obtain ⟨its,r',pl,hz⟩:=I.tuple hq
  exact call_tuple_same pl ⟨.ref p,H,I,rfl,q⟩
def tyV (K:PySem.W.Frag) (T:String) (x:V) (H:Hp):Prop:=match x with
 | .str _=>T = "str"
 | .int _=>T = "int"
 | .ref p=>(T = "list"∧∃ xs,SqL K H p xs)∨(T = "tuple"∧∃ o,K.lookup p=some o∧o.cls=.type "tuple"∧o.dict=none)∨
   (T = "dict"∧((∃ kvs,H p=some (.dK kvs))∨∃ kvs,H p=some (.dT kvs)))∨(T = "set"∧∃ S n,H p=some (.set S n))
 | _=>False
theorem tyV_is {pins:List (Addr × Obj)} {σ:St} {H:Hp} {s:Shared} {T:String} {x:V} {v:Value} (I:Inv X pins σ H s) (r:RelV x v) (ty:tyV X.K T x H) :
  s.TypeIs v T∧∀ a,v=.ref a→∃ ob,s.heap.get? a=some ob∧ob.dict=none:=by
 cases x with
 | str z=>
  obtain ⟨t,rfl⟩:=r
  cases (show T = "str" from ty)
  exact ⟨typeIs_str s z t,fun _ e=>nomatch e⟩
 | int i=>
  obtain ⟨t,rfl⟩:=r
  cases (show T = "int" from ty)
  exact ⟨typeIs_int s i t,fun _ e=>nomatch e⟩
 | ref p=>
  cases r
  rcases ty with ⟨rfl,xs,hq⟩ | ⟨rfl,o,hk,hc,hd⟩ | ⟨rfl,hk⟩ | ⟨rfl,S,n,hk⟩
  ·obtain ⟨its,_,pl,_⟩:=I.list hq
   refine ⟨pl.isList.typeIs,fun a e=>?_⟩
   cases e
   obtain ⟨o,n,e,c,hd,_⟩:=pl
   exact ⟨o,e,hd⟩
  ·refine ⟨⟨o,I.kIn p o hk,hc⟩,fun a e=>?_⟩
   cases e
   exact ⟨o,I.kIn _ o hk,hd⟩
  ·have z:∃ o,s.heap.get? p=some o∧o.ExactDict:=by
    rcases hk with ⟨kvs,hk⟩ | ⟨kvs,hk⟩
    ·obtain ⟨_,_,_,_,o,_,_,e,ex,_⟩:=I.hok p _ hk
     exact ⟨o,e,ex⟩
    ·obtain ⟨_,_,_,_,o,_,_,e,ex,_⟩:=I.hok p _ hk
     exact ⟨o,e,ex⟩
   obtain ⟨o,e,ex⟩:=z
   refine ⟨⟨o,e,ex.1⟩,fun a e2=>?_⟩
   cases e2
   exact ⟨o,e,ex.2.1⟩
  ·obtain ⟨o,_,_,_,e,ex,_⟩:=I.hok p _ hk
   refine ⟨⟨o,e,ex.1⟩,fun a e2=>?_⟩
   cases e2
   exact ⟨o,e,ex.2.1⟩
 | _=>exact False.elim ty
def tBM (K:PySem.W.Frag) (T:String) (r:V→List V→Hp→VK→Prop) (to:TE) (t:TA):TE:=fun σ H Q=>to σ H fun x H1=>tyV K T x H1∧t σ H1 fun xs H2=>r x xs H2 Q
variable {o e:Expr} {es:List Expr} {to:TE} {t:TA} {name:Str} {apos cpos:Pos} {T id:String} {r:V→List V→Hp→VK→Prop}
theorem pe_bm (pa:PlainAttrs T) (slot:Slot T name id) (hty:typeOf (.builtin id)=pure (.type "method_descriptor")) (hm:MtR X id r) (ho:PE X o to) (ha:PA X (e::es) t)
  (hbase:attributeBase o name X.env (eval o X.env)=eval o X.env:=by rfl)
  (hfew:((backTo cpos (starEach (e::es) X.env)).all (fun x=>!x.1) && (backToKw cpos (keywordEach [] X.env)).all (fun x=>x.1.isSome)
   && decide ((e::es).length+([]:List Keyword).length+(if ([]:List Keyword).isEmpty then 0 else 1)<30))=true:=by rfl)
  (hline:(apos.endLine == cpos.line)=true:=by rfl) (hs:starEach (e::es) X.env=(false,eval e X.env)::starEach es X.env:=by rfl) (hplain:(backTo cpos (starEach es X.env)).any (·.1)=false:=by rfl) :
  PE X (.Call (.Attribute o name apos) (e::es) [] cpos) (tBM X.K T r to t):=by
 intro pins s σ H Q I h
 refine wpAny_Call_method_late hbase hfew hline rfl (thn (ho pins s σ H _ I h) fun v s1 ⟨x,H1,I1,r1,ty,q1⟩=>?_)
 obtain ⟨h1,h2⟩:=tyV_is I1 r1 ty
 refine ⟨T,id,pa,slot,hty,h1,h2,?_⟩
 have hA:=ha cpos pins s1 σ H1 _ I1 q1
 rw [hs] at hA ⊢
 refine Calls.callWith_builtin (by show (false || (backTo cpos (starEach es X.env)).any (·.1))=false;rw [hplain] <;> rfl) (Calls.evalArgs_plain ?_)
 exact thn hA fun us s2 ⟨vs,H2,I2,r2,q2⟩=>hm pins s2 σ H2 x vs v us Q I2 r1 r2 q2
end
end L2
namespace L2
open PySem PySem.Spec PyProof.Rows
def MtM (X:Cx) (id:String) (r:V→List V→Hp→VK→Prop):Prop:=
 ∀ (pins:List (Addr × Obj)) (s:Shared) (σ:St) (H:Hp) (x:V) (xs:List V) (v:Value) (us:List Value) (Q:VK),Inv X pins σ H s→RelV x v→Vals xs us→r x xs H Q→
  wpAny (model X.prog X.w) X.A (call (.builtin id) (v::us)) (EP X pins σ Q) X.xe s
theorem Vals.one:∀ {x:V} {us:List Value},Vals [x] us→∃ u,us=[u]∧RelV x u
 | _,_,.cons r .nil=>⟨_,rfl,r⟩
theorem Vals.reverse {xs:List V} {us:List Value} (h:Vals xs us):Vals xs.reverse us.reverse:=by
 induction h with
 | nil=>exact .nil
 | cons r t ih=>rw [List.reverse_cons,List.reverse_cons];exact Vals.append ih (.cons r .nil)
theorem Vals.rep {xs:List V} {us:List Value} (h:Vals xs us):∀ k:Nat,Vals (List.replicate k xs).flatten (List.replicate k us).flatten
 | 0=>.nil
 | k+1=>by
  rw [List.replicate_succ,List.replicate_succ,List.flatten_cons,List.flatten_cons]
  exact Vals.append h (Vals.rep h k)
theorem foldl_rep (its:List Value):∀ (k:Nat) (acc:List Value),
  List.foldl (fun x1 x2=>x1++x2) acc.toArray (List.replicate k its.toArray)=(acc++(List.replicate k its).flatten).toArray
 | 0,acc=>by simp
 | k+1,acc=>by
  have e:acc.toArray++its.toArray=(acc++its).toArray:=by simp
  have e2:(acc++its)++(List.replicate k its).flatten=acc++(List.replicate (k+1) its).flatten:=by
   rw [List.replicate_succ,List.flatten_cons,List.append_assoc]
  rw [← e2,← foldl_rep its k (acc++its),← e,List.replicate_succ,List.foldl_cons]
section
variable {X:Cx} {pins:List (Addr × Obj)} {σ:St} {H:Hp} {s:Shared} {l b:Addr} {xs ys zs:List V}
theorem Inv.lset {its its':List Value} {n:Nat} {f:Array Value→Array Value} {t':Nat} (I:Inv X pins σ H s) (hH:H l=some (.lst xs))
  (e:s.heap.get? l=some { cls:=.type "list",data:=.seq its.toArray n }) (hf:f its.toArray=its'.toArray) (hv:Vals ys its') (hz:ys.length≤sizeLine) :
  Inv X pins σ (upd H l (.lst ys)) { s with heap:=s.heap.update l (Obj.mapSeq f),toks:=t' }:=by
 have q:=PySem.IsL.update e f
 rw [hf] at q
 refine I.write (x:=l) (e:=l) (by rw [hH];exact trivial) (.inl rfl) (fun b' u hb hu=>(Heap.get?_update_other s.heap (Obj.mapSeq f) (Ne.symm hb)).trans hu) ⟨_,q⟩ ?_
 exact ⟨hz,its',_,hv,q⟩
theorem Inv.lnew {its:List Value} {t':Nat} (I:Inv X pins σ H s) (hv:Vals ys its) (hz:ys.length≤sizeLine) :
  Inv X pins σ (upd H s.heap.objs.size (.lst ys)) { s with heap:=s.heap.push { cls:=.type "list",data:=.seq its.toArray },toks:=t' }:=
 I.laid (fun _ _ q=>Heap.get?_push_of_some _ q) (Nat.le_refl _) ⟨hz,its,0,hv,Heap.get?_push_size _ rfl⟩
theorem Inv.fresh (I:Inv X pins σ H s):H s.heap.objs.size=none:=I.hok.fresh (Nat.le_refl _)
theorem Inv.lstM (I:Inv X pins σ H s) (hH:H l=some (.lst xs)):xs.length≤sizeLine∧∃ (its:List Value) (n:Nat),Vals xs its∧xs.length=its.length∧s.heap.get? l=some { cls:=.type "list",data:=.seq its.toArray n }:=by
 obtain ⟨z,its,n,r,e⟩:=I.hok l _ hH
 exact ⟨z,its,n,r,r.length,e⟩
theorem notLongL {n:Nat} (h:n≤sizeLine):Builtin.List.listTooLong n=false:=by
 unfold Builtin.List.listTooLong
 exact decide_eq_false (by omega)
end
section
variable {X:Cx}
def rAppend:V→List V→Hp→VK→Prop:=fun x vs H Q=>∃ l xs y,x=.ref l∧vs=[y]∧H l=some (.lst xs)∧xs.length<sizeLine∧Q .non (upd H l (.lst (xs++[y])))
theorem mt_append:MtM X "list.append" rAppend:=by
 intro pins s σ H x vs v us Q I rx rv h
 obtain ⟨l,xs,y,rfl,rfl,hH,hz,q⟩:=h
 cases rx
 obtain ⟨u,rfl,ru⟩:=rv.one
 obtain ⟨z,its,n,r,hl,e⟩:=I.lstM hH
 refine call_meets F.slot_list_append ⟨_,e,rfl⟩ F.entry_list_append (F.args_list_append_2 _ _) (PySem.list_append l its.toArray n u (by rw [List.size_toArray];omega)) ⟨e,?_⟩
 refine ⟨.non,_,I.lset (its':=its++[u]) hH e (by simp) (r.append (.cons ru .nil)) ?_,rfl,q⟩
 rw [List.length_append,List.length_singleton]
 omega
def rCat:R2:=fun x y H Q=>∃ l b xs zs,x=.ref l∧y=.ref b∧H l=some (.lst xs)∧H b=some (.lst zs)∧xs.length+zs.length≤sizeLine∧∀ p,H p=none→Q (.ref p) (upd H p (.lst (xs++zs)))
theorem op_cat:OpR X (binaryOp .Add) rCat:=by
 intro pins s σ H x y v u Q I rx ry h
 obtain ⟨l,b,xs,zs,rfl,rfl,hH,hB,hz,q⟩:=h
 cases rx
 cases ry
 obtain ⟨z,its,n,r,hl,e⟩:=I.lstM hH
 obtain ⟨z2,its2,n2,r2,hl2,e2⟩:=I.lstM hB
 refine PySem.P.add_list e e2 ?_ (by rw [List.size_toArray,List.size_toArray];omega)
 have ea:its.toArray++its2.toArray=(its++its2).toArray:=by simp
 rw [ea]
 exact ⟨.ref _,_,I.lnew (t':=s.toks) (r.append r2) (by rw [List.length_append];omega),rfl,q _ I.fresh⟩
def rRep:R2:=fun x y H Q=>∃ l k xs,x=.ref l∧y=.int k∧H l=some (.lst xs)∧-(2 ^ 63)≤k∧k<2 ^ 63∧xs.length * k.toNat≤sizeLine∧
 ∀ p,H p=none→Q (.ref p) (upd H p (.lst (List.replicate k.toNat xs).flatten))
theorem len_rep {α:Type} (xs:List α) (k:Nat):(List.replicate k xs).flatten.length=k * xs.length:=by
 induction k with
 | zero=>simp
 | succ k ih=>rw [List.replicate_succ,List.flatten_cons,List.length_append,ih,Nat.succ_mul,Nat.add_comm]
theorem op_rep:OpR X (binaryOp .Mult) rRep:=by
 intro pins s σ H x y v u Q I rx ry h
 obtain ⟨l,k,xs,rfl,rfl,hH,h1,h2,hz,q⟩:=h
 cases rx
 obtain ⟨t,rfl⟩:=ry
 obtain ⟨z,its,n,r,hl,e⟩:=I.lstM hH
 have hlen:its.toArray.size * k.toNat≤sizeLine:=by rw [List.size_toArray,← hl];exact hz
 have hcap:¬ its.toArray.size * k.toNat > (2 ^ 63 - 1) / 8:=by
  have:(sizeLine:Nat)≤(2 ^ 63 - 1) / 8:=by decide
  omega
 have hfit:¬ (!Builtin.List.listFitsIndex k)=true:=by
  rw [fitsIndex_both h1 h2]
  exact Bool.false_ne_true
 have hlong:¬ Builtin.List.listTooLong (its.toArray.size * k.toNat)=true:=by
  rw [notLongL hlen]
  exact Bool.false_ne_true
 have hnew:List.foldl (fun x1 x2=>x1++x2) #[] (List.replicate (if its.toArray.isEmpty=true then 0 else k.toNat) its.toArray)=(List.replicate k.toNat its).flatten.toArray:=by
  have f0:∀ m:Nat,List.foldl (fun x1 x2=>x1++x2) #[] (List.replicate m its.toArray)=(List.replicate m its).flatten.toArray:=fun m=>by
   have:=foldl_rep its m []
   rw [List.nil_append] at this
   exact this
  rw [f0]
  cases its with
  | nil=>simp
  | cons a r'=>rw [if_neg (by simp)]
 refine wpAny_binaryOp_repeat_ref (T:="list") (U:="int") (by decide) ⟨_,e,rfl⟩ (fun s'=>typeIs_int s' k t) noFill_list_mul F.fills_int_mul F.slot_int_rmul repeat_list F.slot_int_index.lookup
  (call_meets F.slot_int_rmul (typeIs_int s k t) F.entry_int_rmul (F.args_int_rmul_2 _ _) (int___rmul___int_list k t l its.toArray n)
   ⟨e,rfl,⟨_,e,rfl⟩,call_meets F.slot_list_mul ⟨_,e,rfl⟩ F.entry_list_mul (F.args_list_mul_2 _ _) (AutoListH.list___mul___list_int_3 l its.toArray n k t hfit hcap hlong) ⟨e,?_⟩⟩)
 rw [hnew]
 exact ⟨.ref _,_,I.lnew (t':=s.toks) (r.rep k.toNat) (by rw [len_rep,Nat.mul_comm];exact hz),rfl,q _ I.fresh⟩
end
section
variable {prog:Program} {w:World} {A:Around} {E:Value→Shared→Prop} {s:Shared}
set_option maxRecDepth 100000 in
end
section
variable {X:Cx}
end
end L2
namespace Att
open PySem PySem.W PySem.Calls PyProof.Rows
theorem ints_of_wellAll {P:Params} {h:Heap}:∀ (ns:List Int) (vs:List Value),WellAll P h vs (ns.map WData.int)→IntsAre vs ns:=by
 intro ns
 induction ns with
 | nil=>
  intro vs w
  rw [List.map_nil] at w
  cases w
  exact .nil
 | cons n ns ih=>
  intro vs w
  rw [List.map_cons] at w
  cases w with
  | cons a b=>
   cases a
   exact .cons _ _ (ih _ b)
theorem script_of {l:OpenLaw} {n:Nat} (hn:l.most=some n) {P:Params} {h:Heap} {args:List WData} {vals:List Value}
  (hpre:l.row.toRowW.claim.pre args=true) (hwl:WellAll P h vals args) :
  ∃ a vs ns,vals=[Value.ref a]∧args=[WData.list (ns.map WData.int)]∧h.get? a=some { cls:=.type "list",data:=.seq vs.toArray }∧IntsAre vs ns∧ns.length≤n:=by
 have hsh:WShape.hasAll [] args [.list .int]=true:=(pre_splitW hpre).1
 have hc:l.pre.holds [] { args:=args }=true:=(pre_splitW hpre).2
 obtain ⟨d,r,rfl,h1,h2⟩:=hasAllW_cons hsh
 obtain rfl:=hasAllW_nil h2
 obtain ⟨xs,rfl,h3⟩:=hasW_list h1
 obtain ⟨ns,rfl⟩:=items_int h3
 have hlen:ns.length≤n:=by
  unfold OpenLaw.pre at hc
  have h4:(WTm.not (.lt (.lit (.int (n:Int))) (.len (.arg 0)))).holds [] { args:=[.list (ns.map .int)] }=true:=by
   have h4:=(holds_andW hc).1
   rw [hn] at h4
   exact h4
  have h5:=condW_of h4 (w_not (w_lt w_lit (w_len_list (w_arg rfl))))
  rw [List.length_map] at h5
  refine Nat.le_of_not_lt fun q=>?_
  have q':(n:Int)<((ns.length:Nat):Int):=by omega
  first
   | (rw [decide_eq_true q'] at h5;exact absurd h5 (by decide))
   | (simp at h5;omega)
 cases hwl with
 | cons w1 w2=>
  cases w2
  cases w1 with
  | list ho hall=>exact ⟨_,_,ns,rfl,rfl,ho,ints_of_wellAll ns _ hall,hlen⟩
theorem post_true (l:OpenLaw) (args:List WData):l.row.toRowW.claim.post args (.bool true) args=true:=
 postW_of (r:=l.row.toRowW) (X:=(true == true))
  (show WShape.has [] (.bool true) .bool=true by first | rfl | decide | simp [WShape.has,WShape.arms,WShape.armsAll])
  (show (WTm.eq .res (.lit (.bool true))).value [] { args:=args,res:=some (.bool true),after:=args }=some (.bool (true == true)) from w_eq_bool (w_res rfl) w_lit) rfl
theorem attach_call {l:OpenLaw} {n:Nat} {q:Program} {loose:List Str} {XP:(Str→Option Value)→Heap→Prop} {YP:World→Heap→Prop} {d:DefRec}
  (hn:l.most=some n) (hdf:d.params.defaults=[])
  (call:∀ (w:World) (s₀ s₁:Shared) (mg mb:Str→Option Value) (fa:Addr) (o:Obj) (pm cd doc:Value) (a:Addr) (vs:List Value) (ns:List Int),
   Ground q loose [] XP w s₀ mg mb s₁.heap→YP w s₁.heap→
   s₁.heap.get? fa=some o→o.data=.func (docDef d.name d.params d.body d.scope pm cd doc)→s₁.heap.CodeRec cd d.name→mg d.name=some (.ref fa)→
   s₁.heap.get? a=some { cls:=.type "list",data:=.seq vs.toArray }→IntsAre vs ns→ns.length≤n→s₁.gens=#[]→
   codeAny (model l.prog w) callerA (.call (.ref fa) ⟨[.ref a],[]⟩) (fun r s'=>r=.ok (.ret (.bool true))∧OldK s₁.heap s'.heap∧s'.os=s₁.os∧AllBare s'.gens) s₁) :
  WalkO q loose XP YP l.row.toRowW d [] (fun f vs=>PySem.call f vs):=by
 intro w s₀ s₁ mg mb G Y fa o pm cd doc dV kV ho hd hcd hD hmg hg args vals as hpre hlay hrd hwl hlo
 obtain rfl:dV=.none:=Dflts.none hD hdf
 obtain rfl:kV=.none:=Dflts.noKw hD
 obtain ⟨a,vs,ns,rfl,rfl,hobj,hints,hlen⟩:=script_of hn hpre hwl
 refine enter_call (codeAny_mono (call w s₀ s₁ mg mb fa o pm cd doc a vs ns G Y ho (fd_plain hd) hcd hmg hobj hints hlen hg) fun r s' hq=>?_)
 obtain ⟨rfl,h2,h3,h4⟩:=hq
 exact ⟨.inl ⟨.bool true,.bool true,[],rfl,fun _=>rfl,.bool true,post_true l _,fun _=>⟨List.Pairwise.nil,fun _ hm=>(nomatch hm)⟩⟩,h2,h3,h4⟩
section
variable {prog:Program} {w:World} {A:Around} {E:Value→Shared→Prop} {s:Shared} {K:Frag}
end
end Att
namespace L2
open PySem PySem.Spec PyProof.Rows
theorem vals_ints:∀ {vs:List Value} {ns:List Int},IntsAre vs ns→Vals (ns.map V.int) vs
 | _,_,.nil=>.nil
 | _,_,.cons n t h=>.cons ⟨t,rfl⟩ (vals_ints h)
def Only (H:Hp):Prop:=∀ b,H b=none∨∃ o xs,H b=some (.frz o (.lst xs))
theorem law_call {P:Program} {w:World} {K:PySem.W.Frag} {mg mb:Str→Option Value} {CX:CXT} {k:Nat} {fa a:Addr} {fd:FuncData} {x:Str} {sp:Sp} {s₁:Shared} {vs:List Value} {ns:List Int}
  (KX:K.In s₁.heap) (hns:s₁.heap.Ns mainGlobals mg) (hb:s₁.heap.Ns builtinsNs mb) (hbb:∀ x:Str,x ≠ "__name__"→mb x=bootBuiltins x) (hlim:s₁.heap.NoLimit) (hg:s₁.gens=#[])
  (ha:s₁.heap.get? a=some { cls:=.type "list",data:=.seq vs.toArray }) (hi:IntsAre vs ns) (hl:ns.length≤sizeLine) (hr:Room k callerA)
  (F:∀ base:Heap,K.In base→base.Ns mainGlobals mg→FnOk P w K mg base CX k fa fd [x] sp) (hbind:∀ (s:Shared) (u:Value),BindsTo s fd ⟨[u],[]⟩ [(x,u)])
  (hsp:∀ H:Hp,Only H→SqL K H a (ns.map V.int)→sp [.ref a] H (fun v _=>v=.bl true) fun _ _ _=>False)
  (hCX:∀ H e s',CX [] H s₁ (fun _ _ _=>False) e s'→False) :
  codeAny (model P w) callerA (.call (.ref fa) ⟨[.ref a],[]⟩) (fun r s'=>r=.ok (.ret (.bool true))∧OldK s₁.heap s'.heap∧s'.os=s₁.os∧AllBare s'.gens) s₁:=by
 have rv:=vals_ints hi
 have lenV:=hi.length
 -- from an abstract heap in which nothing but the script may be tracked
 have core:∀ H:Hp,Only H→SqL K H a (ns.map V.int)→HOk P w H s₁.heap→(∀ b,H b ≠ none→b=a)→(H a ≠ none→K.lookup a=none)→
   codeAny (model P w) callerA (.call (.ref fa) ⟨[.ref a],[]⟩) (fun r s'=>r=.ok (.ret (.bool true))∧OldK s₁.heap s'.heap∧s'.os=s₁.os∧AllBare s'.gens) s₁:=by
  intro H hO hS hok hA hK
  have base_of:∀ {b:Addr} {o:Obj},s₁.heap.get? b=some o→H b=none→(hidT s₁.heap H).get? b=some o:=fun e n=>hidT_get e n
  have noA:∀ {b:Addr} {o:Obj} {es:Array DictEntry} {ep:Nat},s₁.heap.get? b=some o→o.data=.dict es ep→H b=none:=fun {b o es ep} e d=>by
   cases q:H b with
   | none=>rfl
   | some u=>
    have e':b=a:=hA b (by rw [q];simp)
    subst e'
    rw [ha] at e;cases e
    have d':Data.seq vs.toArray _=Data.dict es ep:=d
    cases d'
  have nsK:∀ {b:Addr} {m:Str→Option Value},s₁.heap.Ns b m→(hidT s₁.heap H).Ns b m:=fun {b m} ⟨o,es,ep,e,d,r⟩=>⟨o,es,ep,base_of e (noA e d),d,r⟩
  have hKb:K.In (hidT s₁.heap H):=fun b o e=>base_of (KX b o e) (by
   cases q:H b with
   | none=>rfl
   | some u=>
    have e':b=a:=hA b (by rw [q];simp)
    subst e'
    rw [hK (by rw [q];simp)] at e;cases e)
  have hM:Mod K mg (hidT s₁.heap H):=⟨hKb,nsK hns,⟨mb,nsK hb,hbb⟩,let ⟨mc,h1,h2⟩:=hlim;⟨mc,nsK h1,h2⟩⟩
  have e0:Env0 P w K mg (hidT s₁.heap H) callerA [] s₁ H:=⟨rfl,hM,fun b o e=>of_hidT e,Nat.le_of_eq (hidT_size _ _),trivial,fun b hb=>absurd (show b ∈ ([]:List Addr) from hb) (by simp),hok,.of_eq hg⟩
  refine codeAny_mono ((F _ hKb (nsK hns)).run callerA [] s₁ H ⟨[.ref a],[]⟩ [.ref a] [.ref a] _ _ hr e0 (hbind s₁ (.ref a)) (.cons rfl .nil) (hsp H hO hS)) fun r s' h=>?_
  cases r with
  | error e=>exact (hCX H e s' h).elim
  | ok fl=>
   cases fl with
   | next=>exact False.elim h
   | brk=>exact False.elim h
   | cont=>exact False.elim h
   | ret u=>
    obtain ⟨v,H',os,bare,un,hok',r',q⟩:=h
    have q':v=.bl true:=q
    subst q'
    obtain rfl:u=Value.bool true:=r'
    refine ⟨rfl,OldK.of_keep fun b o e=>?_,os,bare⟩
    cases q:H b with
    | none=>exact un.keep b o e q (by intro z;exact absurd (show b ∈ ([]:List Addr) from z) (by simp)) (by simp)
    | some u=>
     rcases hO b with z | ⟨ob,xs,z⟩
     ·rw [q] at z;cases z
     ·have z2:=un.frzs b ob _ z
      obtain ⟨e1,_⟩:=hok b _ z
      obtain ⟨e2,_⟩:=hok' b _ z2
      rw [e] at e1;cases e1
      exact e2
 cases hk:K.lookup a with
 | some o=>
  -- the script is one of the module's own objects
  have e:=KX a o hk
  rw [ha] at e
  cases e
  refine core (fun _=>none) (fun _=>.inl rfl) (.inr ⟨_,vs.toArray,_,hk,rfl,rfl,rfl,by rw [List.size_toArray,lenV];exact hl,by simpa using rv⟩) (fun b u z=>by have z':(none:Option HO)=some u:=z;cases z') (fun b z=>absurd rfl z) fun z=>absurd rfl z
 | none=>
  refine core (fun b=>if b=a then some (.frz { cls:=.type "list",data:=.seq vs.toArray } (.lst (ns.map V.int))) else none) (fun b=>?_) (.inl (.inr ⟨{ cls:=.type "list",data:=.seq vs.toArray },if_pos rfl⟩)) (fun b u z=>?_) (fun b z=>?_) fun _=>hk
  ·by_cases hb:b=a
   ·exact .inr ⟨_,_,if_pos hb⟩
   ·exact .inl (if_neg hb)
  ·by_cases hb:b=a
   ·have z':=(if_pos hb).symm.trans z
    cases z'
    subst hb
    exact ⟨ha,by rw [List.length_map];exact hl,vs,_,rv,ha⟩
   ·have z':=(if_neg hb).symm.trans z
    cases z'
  ·by_cases hb:b=a
   ·exact hb
   ·exact absurd (if_neg hb) z
end L2
namespace L2
open PySem PySem.Spec PyProof.Rows
theorem walk_of {l:PySem.W.OpenLaw} {n k:Nat} {q:Program} {loose:List Str} {XP:(Str→Option Value)→Heap→Prop} {YP:World→Heap→Prop} {d:DefRec} {K:Params→PySem.W.Frag} {CX:World→CXT} {sp:World→Sp} {x:Str}
  (hn:l.most=some n) (hn2:n≤sizeLine) (hdf:d.params.defaults=[]) (hr:Room k callerA)
  (hY:∀ (w:World) (h:Heap),YP w h→(K w.params).In h)
  (F:∀ (w:World) (mg:Str→Option Value) (fa:Addr) (h:Heap),(K w.params).In h→h.Ns mainGlobals mg→mg d.name=some (.ref fa)→
   ∃ fd:FuncData,(∀ (s:Shared) (u:Value),BindsTo s fd ⟨[u],[]⟩ [(x,u)])∧
    ∀ base:Heap,(K w.params).In base→base.Ns mainGlobals mg→FnOk l.prog w (K w.params) mg base (CX w) k fa fd [x] (sp w))
  (hsp:∀ (w:World) (H:Hp) (a:Addr) (ns:List Int),ns.length≤n→Only H→SqL (K w.params) H a (ns.map V.int)→sp w [.ref a] H (fun v _=>v=.bl true) fun _ _ _=>False)
  (hCX:∀ (w:World) (H:Hp) (s:Shared) (e:Value) (s':Shared),CX w [] H s (fun _ _ _=>False) e s'→False) :
  PySem.W.WalkO q loose XP YP l.row.toRowW d [] (fun f vs=>PySem.call f vs):=by
 refine Att.attach_call hn hdf fun w s₀ s₁ mg mb fa o pm cd doc a vs ns G Y ho hd hcd hmg hobj hints hlen hg=>?_
 have KX:=hY w _ Y
 obtain ⟨fd,hb,hF⟩:=F w mg fa _ KX G.T.g hmg
 exact law_call KX G.T.g G.T.b G.T.builtins G.T.nolimit hg hobj hints (Nat.le_trans hlen hn2) hr hF hb (fun H hO hS=>hsp w H a ns hlen hO hS) fun H e s'=>hCX w H s₁ e s'
end L2
namespace L2
open PySem PySem.Spec PyProof.Rows
def defArgs (s:Stmt):Arguments:=match s with
 | .FunctionDef _ a _ _ _ _ _ _ _ _=>a
 | _=>{ posonlyargs:=[],args:=[],vararg:=none,kwonlyargs:=[],kw_defaults:=[],kwarg:=none,defaults:=[] }
def defBody (s:Stmt):List Stmt:=match s with
 | .FunctionDef _ _ b _ _ _ _ _ _ _=>b
 | _=>[]
def defScope (s:Stmt):Scope:=match s with
 | .FunctionDef _ _ _ _ _ _ sc _ _ _=>sc
 | _=>{ kind:=.function,names:=[],isGenerator:=false,isCoroutine:=false }
abbrev CX0:CXT:=fun _ _ _ _ _ _=>False
abbrev E0:XK:=fun _ _ _=>False
theorem pass0 {X:Cx}:Passes CX0 X E0:=fun _ _ _ _ _ _ _ h=>h.elim
structure Fun (K:PySem.W.Frag) (x qual:Str) (st:Stmt) (f:Addr) (fd:FuncData):Prop where
 ex:∃ (oc:Value) (od:Option Addr) (kV doc pm:Value) (an:Option Addr) (cdv ct:Value) (osl:Array (Option Value)),
  fd=PySem.W.fnOf x qual (defArgs st) (defBody st) (defScope st) .none kV doc pm an cdv ct∧K.lookup f=some ⟨oc,od,.func fd,osl⟩∧PySem.W.codeIn K cdv qual=true
 kp:PySem.W.keepIn K (.ref f)=true
section
variable {P:Program} {w:World} {K:PySem.W.Frag} {mg:Str→Option Value} {base:Heap}
theorem Fun.ok {x qual:Str} {st:Stmt} {f:Addr} {fd:FuncData} {N ps:List Str} {k:Nat} {sp:Sp} (F:Fun K x qual st f fd) (S:FnScope N ps (defScope st)) (len:∀ vs H Q E,sp vs H Q E→vs.length=ps.length)
  (hbody:∀ (cdv:Value) (A:Around) (outer:List Env) (s:Shared) (H:Hp) (vs:List V) (Q:VK) (E:XK),Room k (A.deeper (envOfC qual (defScope st) s.heap.objs.size f cdv))→sp vs H Q E→
   ∃ t,PSs (cxOf CX0 P w K mg base N qual (defScope st) f cdv A outer s H E).nox (defBody st) t∧t { nx:=fun _ H'=>Q .non H',rt:=Q } (start N vs) H):FnOk P w K mg base CX0 (k+1) f fd ps sp:=by
 obtain ⟨oc,od,kV,doc,pm,an,cdv,ct,osl,rfl,lk,hcd⟩:=F.ex
 refine fn_of lk hcd S len fun A outer s H vs Q E hr hsp=>?_
 obtain ⟨t,h,q⟩:=hbody cdv A outer s H vs Q E hr hsp
 exact ⟨t,h.nox,q⟩
theorem Fun.binds {x qual:Str} {st:Stmt} {f:Addr} {fd:FuncData} {ps:List Str} (F:Fun K x qual st f fd)
  (h:∀ (kV doc pm:Value) (an:Option Addr) (cdv ct:Value) (us:List Value),us.length=ps.length→bindArgs (PySem.W.fnOf x qual (defArgs st) (defBody st) (defScope st) .none kV doc pm an cdv ct) ⟨us,[]⟩=pure (ps.zip us)):Binds K fd ps []:=by
 obtain ⟨oc,od,kV,doc,pm,an,cdv,ct,osl,rfl,lk,hcd⟩:=F.ex
 exact .all (h kV doc pm an cdv ct)
theorem fun_mk {x qual:Str} {st:Stmt} {f:Addr} {oc:Value} {od an:Option Addr} {osl:Array (Option Value)} {kV doc pm cdv ct:Value} (l:K.lookup f=some ⟨oc,od,.func (PySem.W.fnOf x qual (defArgs st) (defBody st) (defScope st) .none kV doc pm an cdv ct),osl⟩)
  (c:PySem.W.codeIn K cdv qual=true) (k:PySem.W.keepIn K (.ref f)=true):Fun K x qual st f (PySem.W.fnOf x qual (defArgs st) (defBody st) (defScope st) .none kV doc pm an cdv ct):=⟨⟨oc,od,kV,doc,pm,an,cdv,ct,osl,rfl,l,c⟩,k⟩
end
theorem hu_of {A:Around} {k:Nat} (hr:Room k A):A.units+1<cLine:=Nat.lt_of_le_of_lt (Nat.add_le_add_left (by decide:1≤64) _) hr.units
theorem small1000 {n:Nat} (h:n≤1000):n<sizeLine:=Nat.lt_of_le_of_lt h (by decide)
section
variable {X:Cx}
theorem pv (i:Nat) {x:Str} {pos:Pos} (hN:X.N[i]?=some x:=by rfl) (hv:Vis X.env.scope x:=by first | exact Or.inl rfl | exact Or.inr (Or.inl rfl) | exact Or.inr (Or.inr rfl)) (hd:(x == ("__debug__" : Str))=false:=by decide)
  (hcd:(x == ("__classdict__" : Str))=false:=by decide):PE X (.Name x pos) (tVar i):=pe_var hN hv hd hcd
end
theorem iteF {A B:Prop} (h:B):if false=true then A else B:=by
 rw [if_neg Bool.false_ne_true]
 exact h
theorem iteT {A B:Prop} (h:A):if true=true then A else B:=by
 rw [if_pos rfl]
 exact h
theorem ite2 {c A B:Prop} [Decidable c] (h1:c→A) (h2:¬ c→B):if c then A else B:=by
 by_cases h:c
 ·rw [if_pos h]
  exact h1 h
 ·rw [if_neg h]
  exact h2 h
def Same (H H':Hp):Prop:=∀ b o,H b=some o→H' b=some o
theorem Same.refl (H:Hp):Same H H:=fun _ _ h=>h
theorem Same.trans {H H1 H2:Hp} (a:Same H H1) (b:Same H1 H2):Same H H2:=fun c o h=>b c o (a c o h)
theorem Same.free {H H':Hp} (e:Same H H') {l:Addr} (h:H' l=Option.none):H l=Option.none:=by
 cases q:H l with
 | none=>rfl
 | some o=>
  rw [e l o q] at h
  cases h
end L2
namespace L2
open PySem PySem.Spec PyProof.Rows
section
variable {κ:Type} [DecidableEq κ]
def valV (kvs:List (κ × V)) (k:κ):Option V:=(kvs.find? fun kv=>decide (kv.1=k)).map (·.2)
def putK (kvs:List (κ × V)) (k:κ) (v:V):List (κ × V):=
 if (kvs.any fun kv=>decide (kv.1=k))=true then kvs.map (fun kv=>if kv.1=k then (kv.1,v) else kv) else kvs++[(k,v)]
theorem valV_pos {p:κ × V} {r:List (κ × V)} {k:κ} (e:p.1=k):valV (p::r) k=some p.2:=by simp [valV,List.find?_cons,e]
theorem valV_neg {p:κ × V} {r:List (κ × V)} {k:κ} (e:¬ p.1=k):valV (p::r) k=valV r k:=by simp [valV,List.find?_cons,e]
theorem valV_any (k:κ):∀ kvs:List (κ × V),(kvs.any fun kv=>decide (kv.1=k))=(valV kvs k).isSome
 | []=>rfl
 | p::r=>by
  rw [List.any_cons]
  by_cases e:p.1=k
  ·simp only [valV_pos e,decide_eq_true e,Bool.true_or,Option.isSome_some]
  ·rw [valV_neg e,decide_eq_false e,Bool.false_or];exact valV_any k r
theorem valV_map (k j:κ) (y:V):∀ kvs:List (κ × V),valV (kvs.map fun kv=>if kv.1=k then (kv.1,y) else kv) j=(valV kvs j).map fun x=>if j=k then y else x
 | []=>rfl
 | p::r=>by
  have ih:=valV_map k j y r
  rw [List.map_cons]
  by_cases h:p.1=k
  ·rw [if_pos h]
   by_cases e:p.1=j
   ·rw [valV_pos (p:=(p.1,y)) e,valV_pos e,Option.map_some,if_pos (e.symm.trans h)]
   ·rw [valV_neg (p:=(p.1,y)) e,valV_neg e,ih]
  ·rw [if_neg h]
   by_cases e:p.1=j
   ·rw [valV_pos (p:=p) e,valV_pos e,Option.map_some,if_neg (fun z=>h (e.trans z))]
   ·rw [valV_neg (p:=p) e,valV_neg e,ih]
theorem valV_snoc (k j:κ) (y:V):∀ kvs:List (κ × V),valV kvs k=none→valV (kvs++[(k,y)]) j=if j=k then some y else valV kvs j
 | [],_=>by
  by_cases e:k=j
  ·rw [if_pos e.symm];exact valV_pos (p:=(k,y)) e
  ·rw [if_neg (fun z=>e z.symm)];exact valV_neg (p:=(k,y)) e
 | p::r,hn=>by
  rw [List.cons_append]
  have hk:¬ p.1=k:=fun z=>by rw [valV_pos z] at hn;cases hn
  rw [valV_neg hk] at hn
  have ih:=valV_snoc k j y r hn
  by_cases e:p.1=j
  ·rw [valV_pos e,valV_pos e,if_neg (fun z=>hk (e.trans z))]
  ·rw [valV_neg e,valV_neg e,ih]
theorem valV_put (kvs:List (κ × V)) (k j:κ) (y:V):valV (putK kvs k y) j=if j=k then some y else valV kvs j:=by
 unfold putK
 by_cases a:(kvs.any fun kv=>decide (kv.1=k))=true
 ·rw [if_pos a,valV_map]
  rw [valV_any] at a
  by_cases e:j=k
  ·obtain ⟨x,hx⟩:=Option.isSome_iff_exists.mp a
   rw [if_pos e,e,hx,Option.map_some,if_pos rfl]
  ·rw [if_neg e]
   cases valV kvs j with
   | none=>rfl
   | some x=>rw [Option.map_some,if_neg e]
 ·rw [if_neg a]
  refine valV_snoc k j y kvs ?_
  rw [valV_any] at a
  cases q:valV kvs k with
  | none=>rfl
  | some x=>rw [q] at a;exact (a rfl).elim
theorem length_putK (kvs:List (κ × V)) (k:κ) (v:V):(putK kvs k v).length≤kvs.length+1:=by
 unfold putK
 split
 ·rw [List.length_map];omega
 ·rw [List.length_append,List.length_cons,List.length_nil];omega
theorem RelO.isSome_eq {o:Option V} {u:Option Value} (r:RelO o u):o.isSome=u.isSome:=by
 cases o with
 | none=>cases u with
  | none=>rfl
  | some _=>exact (show False from r).elim
 | some _=>cases u with
  | none=>exact (show False from r).elim
  | some _=>rfl
theorem KV.val {kvs:List (κ × V)} {vs:List (κ × Value)} (r:KV kvs vs) (k:κ):RelO (valV kvs k) (valueAt vs k):=by
 unfold KV at r
 induction r with
 | nil=>exact True.intro
 | @cons p q ps qs h t ih=>
  obtain ⟨h1,h2⟩:=h
  by_cases e:p.1=k
  ·have e':q.1=k:=h1.symm.trans e
   have b:valueAt (q::qs) k=some q.2:=by simp [valueAt,List.find?_cons,e']
   rw [valV_pos e,b];exact h2
  ·have e':¬ q.1=k:=fun z=>e (h1.trans z)
   have b:valueAt (q::qs) k=valueAt qs k:=by simp [valueAt,List.find?_cons,e']
   rw [valV_neg e,b];exact ih
theorem KV.any {kvs:List (κ × V)} {vs:List (κ × Value)} (r:KV kvs vs) (k:κ):(kvs.any fun kv=>decide (kv.1=k))=vs.any fun kv=>decide (kv.1=k):=by
 unfold KV at r
 induction r with
 | nil=>rfl
 | cons h t ih=>rw [List.any_cons,List.any_cons,ih,h.1]
theorem KV.repl {kvs:List (κ × V)} {vs:List (κ × Value)} (r:KV kvs vs) (k:κ) {y:V} {u:Value} (ry:RelV y u) :
  KV (kvs.map fun kv=>if kv.1=k then (kv.1,y) else kv) (vs.map fun kv=>if kv.1=k then (kv.1,u) else kv):=by
 unfold KV at r ⊢
 induction r with
 | nil=>exact .nil
 | @cons p q ps qs h t ih=>
  rw [List.map_cons,List.map_cons]
  refine .cons ?_ ih
  obtain ⟨h1,h2⟩:=h
  by_cases e:p.1=k
  ·rw [if_pos e,if_pos (h1.symm.trans e)];exact ⟨h1,ry⟩
  ·rw [if_neg e,if_neg (fun z=>e (h1.trans z))];exact ⟨h1,h2⟩
theorem KV.put {kvs:List (κ × V)} {vs:List (κ × Value)} (r:KV kvs vs) (k:κ) {y:V} {u:Value} (ry:RelV y u):KV (putK kvs k y) (stored vs k u):=by
 unfold putK stored
 rw [r.any k]
 by_cases e:(vs.any fun kv=>decide (kv.1=k))=true
 ·rw [if_pos e,if_pos e];exact r.repl k ry
 ·rw [if_neg e,if_neg e];exact Paired.snoc r ⟨rfl,ry⟩
theorem KV.length {kvs:List (κ × V)} {vs:List (κ × Value)} (r:KV kvs vs):kvs.length=vs.length:=Paired.length r
end
theorem kV_is {P:Program} {w:World} {k:Key} {u:Value} (r:RelV (kV k) u):(mixKind P w).is k u=true:=by
 cases k with
 | inl i=>obtain ⟨t,e⟩:=(show ∃ t,u=Value.int i t from r);subst e;exact mixKind_int P w i t
 | inr x=>obtain ⟨t,e⟩:=(show ∃ t,u=Value.str x t from r);subst e;exact mixKind_str P w x t
theorem items_are {P:Program} {w:World}:∀ {ks:List Key} {us:List Value},Vals (ks.map kV) us→ItemsAre (mixKind P w) ks us
 | [],_,r=>by rw [List.map_nil] at r;cases r;exact .nil
 | k::ks,_,r=>by
  rw [List.map_cons] at r
  cases r with
  | cons h t=>exact .cons (kV_is h) (items_are t)
abbrev KT (H:Hp):List (List Key × V)→List (List Key × Addr × Value)→Prop:=Paired fun p q=>p.1=q.1∧H q.2.1=some (.tup (p.1.map kV))∧RelV p.2 q.2.2
theorem KT.val {H:Hp} {kvs:List (List Key × V)} {xs:List (List Key × Addr × Value)} (r:KT H kvs xs) (k:List Key):RelO (valV kvs k) ((atKey xs k).map (·.2)):=by
 induction r with
 | nil=>exact True.intro
 | @cons p q ps qs h t ih=>
  obtain ⟨h1,_,h2⟩:=h
  by_cases e:p.1=k
  ·have e':q.1=k:=h1.symm.trans e
   have b:atKey (q::qs) k=some q.2:=by simp [atKey,List.find?_cons,e']
   rw [valV_pos e,b];exact h2
  ·have e':¬ q.1=k:=fun z=>e (h1.trans z)
   have b:atKey (q::qs) k=atKey qs k:=by simp [atKey,List.find?_cons,e']
   rw [valV_neg e,b];exact ih
theorem KT.repl {H:Hp} {kvs:List (List Key × V)} {xs:List (List Key × Addr × Value)} (r:KT H kvs xs) (k:List Key) {y:V} {u:Value} (ry:RelV y u) :
  KT H (kvs.map fun kv=>if kv.1=k then (kv.1,y) else kv) (xs.map (putAt k u)):=by
 induction r with
 | nil=>exact .nil
 | @cons p q ps qs h t ih=>
  rw [List.map_cons,List.map_cons]
  refine .cons ?_ ih
  obtain ⟨h1,h2,h3⟩:=h
  unfold putAt
  by_cases e:p.1=k
  ·rw [if_pos e,if_pos (h1.symm.trans e)];exact ⟨h1,h2,ry⟩
  ·rw [if_neg e,if_neg (fun z=>e (h1.trans z))];exact ⟨h1,h2,h3⟩
theorem KT.put {H:Hp} {kvs:List (List Key × V)} {xs:List (List Key × Addr × Value)} (r:KT H kvs xs) (k:List Key) {b:Addr} {y:V} {u:Value} (hb:H b=some (.tup (k.map kV))) (ry:RelV y u) :
  KT H (putK kvs k y) (storedH xs k b u):=by
 have e:(kvs.any fun kv=>decide (kv.1=k))=(atKey xs k).isSome:=by
  rw [valV_any,(r.val k).isSome_eq,Option.isSome_map]
 unfold putK storedH
 rw [e]
 by_cases q:(atKey xs k).isSome=true
 ·rw [if_pos q,if_pos q];exact r.repl k ry
 ·rw [if_neg q,if_neg q];exact Paired.snoc r ⟨rfl,hb,ry⟩
theorem KT.keeps {H H':Hp} {kvs:List (List Key × V)} {xs:List (List Key × Addr × Value)} (r:KT H kvs xs) (ht:∀ b ys,H b=some (.tup ys)→H' b=some (.tup ys)):KT H' kvs xs:=
 Paired.mapP r fun _ _ z=>⟨z.1,ht _ _ z.2.1,z.2.2⟩
section
variable {P:Program} {w:World} {H:Hp} {h:Heap} {a:Addr}
theorem rd_of {u:HO} (ok:HOk P w H h) (e:Rd H a u):ObjOk P w H h a u:=e.ok ok
theorem dk_rd {kvs:List (Key × V)} (ok:HOk P w H h) (e:Rd H a (.dK kvs)):kvs.length≤sizeLine∧(a == sysModules)=false∧∃ vs,KV kvs vs∧h.DictOf (mixKind P w) a vs:=
 show ObjOk P w H h a (.dK kvs) from rd_of ok e
theorem dk_of {kvs:List (Key × V)} (ok:HOk P w H h) (e:H a=some (.dK kvs)):kvs.length≤sizeLine∧(a == sysModules)=false∧∃ vs,KV kvs vs∧h.DictOf (mixKind P w) a vs:=dk_rd ok (.inl e)
theorem key_of {ks:List Key} (ok:HOk P w H h) (e:H a=some (.tup (ks.map kV))):(tupleKind (mixKind P w)).is h ks a:=by
 obtain ⟨_,its,r,o,h1,h2,n,h3⟩:=(show ObjOk P w H h a (.tup (ks.map kV)) from ok a _ e)
 exact ⟨o,its.toArray,n,h1,h2,h3,by simpa using items_are r⟩
theorem dt_rd {kvs:List (List Key × V)} (ok:HOk P w H h) (e:Rd H a (.dT kvs)):kvs.length≤sizeLine∧(a == sysModules)=false∧
  ∃ xs,KT H kvs xs∧h.DictOfH (tupleKind (mixKind P w)) a xs:=by
 obtain ⟨z,y,xs,r,o,es,ep,h1,h2,h3,h4,h5⟩:=(show ObjOk P w H h a (.dT kvs) from rd_of ok e)
 refine ⟨z,y,xs,r,o,es,ep,h1,h2,h3,h4,fun x hx=>?_,h5⟩
 have all:∀ {l:List (List Key × V)} {m:List (List Key × Addr × Value)},KT H l m→∀ x ∈ m,(tupleKind (mixKind P w)).is h x.1 x.2.1:=by
  intro l m q
  induction q with
  | nil=>intro x hx;exact nomatch hx
  | @cons p q ps qs hq t ih=>
   intro x hx
   rcases List.mem_cons.mp hx with e | hx
   ·subst e
    exact key_of ok (by rw [← hq.1];exact hq.2.1)
   ·exact ih x hx
 exact all r x hx
theorem dt_of {kvs:List (List Key × V)} (ok:HOk P w H h) (e:H a=some (.dT kvs)):kvs.length≤sizeLine∧(a == sysModules)=false∧
  ∃ xs,KT H kvs xs∧h.DictOfH (tupleKind (mixKind P w)) a xs:=dt_rd ok (.inl e)
end
def DGet (H:Hp) (a:Addr) (y:V) (r:Option V):Prop:=
 (∃ kvs k,Rd H a (.dK kvs)∧y=kV k∧r=valV kvs k)∨∃ kvs k b,Rd H a (.dT kvs)∧y=.ref b∧H b=some (.tup (k.map kV))∧r=valV kvs k
def DPut (H:Hp) (a:Addr) (y v:V) (H':Hp):Prop:=
 (∃ kvs k,H a=some (.dK kvs)∧y=kV k∧kvs.length<sizeLine∧H'=upd H a (.dK (putK kvs k v)))∨
 ∃ kvs k b,H a=some (.dT kvs)∧y=.ref b∧H b=some (.tup (k.map kV))∧kvs.length<sizeLine∧H'=upd H a (.dT (putK kvs k v))
theorem DGet.k {H:Hp} {a:Addr} {kvs:List (Key × V)} {k:Key} (e:H a=some (.dK kvs)):DGet H a (kV k) (valV kvs k):=.inl ⟨kvs,k,.inl e,rfl,rfl⟩
theorem DPut.k {H:Hp} {a:Addr} {kvs:List (Key × V)} {k:Key} {v:V} (e:H a=some (.dK kvs)) (hl:kvs.length<sizeLine):DPut H a (kV k) v (upd H a (.dK (putK kvs k v))):=.inl ⟨kvs,k,e,rfl,hl,rfl⟩
section
variable {X:Cx} {pins:List (Addr × Obj)} {σ:St} {H:Hp} {s:Shared} {a:Addr} {y v:V} {u r:Value} {o:Option V} {A:Around} {E:Value→Shared→Prop}
theorem Inv.big (I:Inv X pins σ H s):sysModules<s.heap.objs.size:=by
 have h:mainGlobals<s.heap.objs.size:=(I.mod.glob.keeps I.bk).lt
 exact Nat.lt_trans (by decide) h
theorem d_getItem {Q:Value→Shared→Prop} (hu:A.units+1<cLine) (I:Inv X pins σ H s) (g:DGet H a y (some v)) (ry:RelV y u) (h:∀ w' s',Inv X pins σ H s'→RelV v w'→Q w' s') :
  wpAny (model X.prog X.w) A (getItem (.ref a) u) Q E s:=by
 rcases g with ⟨kvs,k,e,ey,l⟩ | ⟨kvs,k,b,e,ey,eb,l⟩
 ·subst ey
  obtain ⟨z,hd,vs,rel,dd⟩:=dk_rd I.hok e
  obtain ⟨w',hw,rw'⟩:=RelO.some_of (v:=v) (o:=valueAt vs k) (by rw [l];exact rel.val k)
  exact wpAny_getItem_of (kV_is ry) dd.mapOf hw (h w' _ (I.tok _) rw')
 ·subst ey
  cases (show u=Value.ref b from ry)
  obtain ⟨z,hd,xs,rel,dd⟩:=dt_rd I.hok e
  obtain ⟨w',hw,rw'⟩:=RelO.some_of (v:=v) (o:=(atKey xs k).map (·.2)) (by rw [l];exact rel.val k)
  obtain ⟨p,hp,hp2⟩:=Option.map_eq_some_iff.mp hw
  refine wpAny_getItem_heap (tupleKind_room_in1 hu) (key_of I.hok eb) dd hp ?_
  rw [hp2]
  exact h w' _ (I.tok _) rw'
theorem d_in {Q:Value→Shared→Prop} (hu:A.units+1<cLine) (I:Inv X pins σ H s) (g:DGet H a y o) (ry:RelV y u) (h:∀ s',Inv X pins σ H s'→Q (.bool o.isSome) s') :
  wpAny (model X.prog X.w) A (compareOp .In u (.ref a)) Q E s:=by
 rcases g with ⟨kvs,k,e,ey,l⟩ | ⟨kvs,k,b,e,ey,eb,l⟩
 ·subst ey
  obtain ⟨z,hd,vs,rel,dd⟩:=dk_rd I.hok e
  refine wpAny_in_of (kV_is ry) hd dd.mapOf ?_
  rw [← (rel.val k).isSome_eq,← l]
  exact h _ (I.tok _)
 ·subst ey
  cases (show u=Value.ref b from ry)
  obtain ⟨z,hd,xs,rel,dd⟩:=dt_rd I.hok e
  refine wpAny_in_heap (tupleKind_room_in1 hu) (key_of I.hok eb) hd dd ?_
  have q:=(rel.val k).isSome_eq
  rw [Option.isSome_map] at q
  rw [← q,← l]
  exact h _ (I.tok _)
theorem d_notIn {Q:Value→Shared→Prop} (hu:A.units+1<cLine) (I:Inv X pins σ H s) (g:DGet H a y o) (ry:RelV y u) (h:∀ s',Inv X pins σ H s'→Q (.bool (!o.isSome)) s') :
  wpAny (model X.prog X.w) A (compareOp .NotIn u (.ref a)) Q E s:=by
 rcases g with ⟨kvs,k,e,ey,l⟩ | ⟨kvs,k,b,e,ey,eb,l⟩
 ·subst ey
  obtain ⟨z,hd,vs,rel,dd⟩:=dk_rd I.hok e
  refine wpAny_notIn_of (kV_is ry) hd dd.mapOf ?_
  rw [← (rel.val k).isSome_eq,← l]
  exact h _ (I.tok _)
 ·subst ey
  cases (show u=Value.ref b from ry)
  obtain ⟨z,hd,xs,rel,dd⟩:=dt_rd I.hok e
  refine wpAny_notIn_heap (tupleKind_room_in1 hu) (key_of I.hok eb) hd dd ?_
  have q:=(rel.val k).isSome_eq
  rw [Option.isSome_map] at q
  rw [← q,← l]
  exact h _ (I.tok _)
theorem d_write {h':Heap} {t':Nat} {ob:HO} (I:Inv X pins σ H s) (mu:Mut (H a)) (hs:Heap.SameBut a s.heap h') (he:∃ q,h'.get? a=some q) (new:ObjOk X.prog X.w (upd H a ob) h' a ob) :
  Inv X pins σ (upd H a ob) { s with heap:=h',toks:=t' }:=
 I.write (x:=a) (e:=a) mu (.inl rfl) (fun b q hb z=>(hs.2 b hb).trans z) he new
theorem dk_new {P:Program} {w:World} {H':Hp} {h':Heap} {kvs:List (Key × V)} {vs:List (Key × Value)} (z:kvs.length≤sizeLine) (hd:(a == sysModules)=false) (rel:KV kvs vs) (dd:h'.DictOf (mixKind P w) a vs) :
  ObjOk P w H' h' a (.dK kvs):=⟨z,hd,vs,rel,dd⟩
theorem d_setItem {H':Hp} {Q:Unit→Shared→Prop} (hu:A.units+1<cLine) (I:Inv X pins σ H s) (g:DPut H a y v H') (ry:RelV y u) (rv:RelV v r) (h:∀ s',Inv X pins σ H' s'→Q () s') :
  wpAny (model X.prog X.w) A (setItem (.ref a) u r) Q E s:=by
 rcases g with ⟨kvs,k,e,ey,l,eH⟩ | ⟨kvs,k,b,e,ey,eb,l,eH⟩
 ·subst ey eH
  obtain ⟨z,hd,vs,rel,dd⟩:=dk_of I.hok e
  have hz:vs.length≤sizeLine:=by rw [← rel.length];exact z
  have hl:(putK kvs k v).length≤sizeLine:=by have:=length_putK kvs k v;omega
  refine wpAny_setItem_pairs (hsz:=hz) (kV_is ry) dd fun h' dd' hs=>h _ ?_
  have he:∃ q,h'.get? a=some q:=let ⟨q,_,_,hq,_⟩:=dd';⟨q,hq⟩
  exact d_write I (by rw [e];exact True.intro) hs he (dk_new hl hd (rel.put k rv) dd')
 ·subst ey eH
  cases (show u=Value.ref b from ry)
  obtain ⟨z,hd,xs,rel,dd⟩:=dt_of I.hok e
  have hz:xs.length≤sizeLine:=by rw [← Paired.length rel];exact z
  have hl:(putK kvs k v).length≤sizeLine:=by have:=length_putK kvs k v;omega
  refine wpAny_setItem_heap (hsz:=hz) (tupleKind_room_in1 hu) (key_of I.hok eb) dd fun h' dd' hs=>h _ ?_
  obtain ⟨q,es,ep,hq,h2,h3,h4,_,h5⟩:=dd'
  refine d_write I (by rw [e];exact True.intro) hs ⟨q,hq⟩ ⟨hl,hd,_,(rel.put k eb rv).keeps fun c ys ec=>?_,q,es,ep,hq,h2,h3,h4,h5⟩
  rw [upd_ne (ne_of ec e (fun z=>nomatch z))]
  exact ec
end
section
variable {X:Cx} {pins:List (Addr × Obj)} {σ:St} {H:Hp} {s:Shared} {a:Addr} {kvs:List (Key × V)} {k:Key} {u:Value} {A:Around} {E:Value→Shared→Prop}
end
def NoSl (i:Expr):Prop:=∀ ov iv,subscripted i false ov iv=operate [ov,iv] (getItem ov iv)
theorem subD_of {prog:Program} {w:World} {A:Around} {E:Value→Shared→Prop} {s:Shared} {env:Env} {value slice:Expr} {pos:Pos} {T id:String} {Q:Value→Shared→Prop}
  (hl:typeLookup (.type T) "__getitem__" = pure (some (.builtin id))) (hs:NoSl slice)
  (h:wpAny (model prog w) A (eval value env) (fun o s₁=>wpAny (model prog w) A (eval slice env) (fun i s₂=>s₂.TypeIs o T∧wpAny (model prog w) A (getItem o i) Q E s₂) E s₁) E s) :
  wpAny (model prog w) A (eval (.Subscript value slice pos) env) Q E s:=by
 refine Subscript_ (wpAny_mono h (fun o s₁ h₁=>wpAny_mono h₁ (fun i s₂ h₂=>?_) fun _ _ x=>x) fun _ _ x=>x)
 obtain ⟨hT,h₂⟩:=h₂
 unfold subscriptTail
 refine wpAny_bind ?_
 rw [getitemInPython_of_ne hT.not_modules]
 refine wpAny_bind (wpAny_specialOf hT hl ?_)
 have fin:wpAny (model prog w) A (subscripted slice false o i) (fun r s₃=>wpAny (model prog w) A (letTemporaryGo value o r >>= fun _=>pure r) Q E s₃) E s₂:=by
  rw [hs o i]
  exact wpAny_operating (wpAny_mono h₂ (fun r s₃ h₃=>wpAny_bind (wpAny_letTemporaryGo (wpAny_pure h₃))) fun _ _ x=>x)
 first
  | exact wpAny_pure (wpAny_bind fin)
  | exact wpAny_bind (wpAny_pure (wpAny_bind fin))
  | exact wpAny_bind fin
theorem dict_typeIs {X:Cx} {pins:List (Addr × Obj)} {σ:St} {H:Hp} {s:Shared} {a:Addr} {y:V} {o:Option V} (I:Inv X pins σ H s) (g:DGet H a y o):s.TypeIs (.ref a) "dict":=by
 rcases g with ⟨kvs,k,e,_,_⟩ | ⟨kvs,k,b,e,_,_,_⟩
 ·obtain ⟨_,_,vs,_,dd⟩:=dk_rd I.hok e
  exact dd.typeIs
 ·obtain ⟨_,_,xs,_,dd⟩:=dt_rd I.hok e
  exact dd.typeIs
def tDGet (td ty:TE):TE:=fun σ H Q=>td σ H fun x H1=>ty σ H1 fun y H2=>∃ a v,x=.ref a∧DGet H2 a y (some v)∧Q v H2
def tDIn (ty td:TE):TE:=fun σ H Q=>ty σ H fun y H1=>td σ H1 fun x H2=>∃ a o,x=.ref a∧DGet H2 a y o∧Q (.bl o.isSome) H2
def tDNotIn (ty td:TE):TE:=fun σ H Q=>ty σ H fun y H1=>td σ H1 fun x H2=>∃ a o,x=.ref a∧DGet H2 a y o∧Q (.bl (!o.isSome)) H2
def sDPut (td ty tv:TE):TS:=fun D σ H=>tv σ H fun v H1=>td σ H1 fun x H2=>ty σ H2 fun y H3=>∃ a H4,x=.ref a∧DPut H3 a y v H4∧D.nx σ H4
section
variable {X:Cx} {o i e value:Expr} {pos pos' tpos:Pos} {td ty tv:TE}
theorem pe_dget (hu:X.A.units+1<cLine) (ho:PE X o td) (hi:PE X i ty) (hs:NoSl i):PE X (.Subscript o i pos) (tDGet td ty):=by
 intro pins s σ H Q I h
 refine subD_of PySem.F.slot_dict_getitem.lookup hs (thn (ho pins s σ H _ I h) fun u s1 ⟨x,H1,I1,rx,q1⟩=>thn (hi pins s1 σ H1 _ I1 q1) fun iv s2 ⟨y,H2,I2,ry,a,v,ex,g,q2⟩=>?_)
 subst ex
 obtain rfl:u=Value.ref a:=rx
 exact ⟨dict_typeIs I2 g,d_getItem hu I2 g ry fun w' s3 I3 rw'=>⟨v,H2,I3,rw',q2⟩⟩
theorem pc_din (hu:X.A.units+1<cLine) (hi:PE X i ty) (ho:PE X o td):PC X .In i o (tDIn ty td):=by
 intro pins s σ H Q I h
 refine thn (hi pins s σ H _ I h) fun iv s1 ⟨y,H1,I1,ry,q1⟩=>thn (ho pins s1 σ H1 _ I1 q1) fun u s2 ⟨x,H2,I2,rx,a,ov,ex,g,q2⟩=>?_
 subst ex
 obtain rfl:u=Value.ref a:=rx
 exact d_in hu I2 g ry fun s3 I3=>⟨.bl ov.isSome,H2,I3,rfl,q2⟩
theorem pc_dnotin (hu:X.A.units+1<cLine) (hi:PE X i ty) (ho:PE X o td):PC X .NotIn i o (tDNotIn ty td):=by
 intro pins s σ H Q I h
 refine thn (hi pins s σ H _ I h) fun iv s1 ⟨y,H1,I1,ry,q1⟩=>thn (ho pins s1 σ H1 _ I1 q1) fun u s2 ⟨x,H2,I2,rx,a,ov,ex,g,q2⟩=>?_
 subst ex
 obtain rfl:u=Value.ref a:=rx
 exact d_notIn hu I2 g ry fun s3 I3=>⟨.bl (!ov.isSome),H2,I3,rfl,q2⟩
theorem ps_dput (hu:X.A.units+1<cLine) (ho:PE X o td) (hi:PE X i ty) (hv:PE X value tv) (hs:swapsWith value (some (.Subscript o i pos')) pos.line X.env=pure false) :
  PS X (.Assign [.Subscript o i pos'] value pos) (sDPut td ty tv):=by
 intro pins s σ H D I h
 refine wpAny_Assign_Subscript (thn (hv pins s σ H _ I h) fun r s1 ⟨v,H1,I1,rv,q1⟩=>thn (ho pins s1 σ H1 _ I1 q1) fun u s2 ⟨x,H2,I2,rx,q2⟩=>thn (hi pins s2 σ H2 _ I2 q2) fun iv s3 ⟨y,H3,I3,ry,a,H4,ex,g,q3⟩=>?_) hs
 subst ex
 obtain rfl:u=Value.ref a:=rx
 exact d_setItem hu I3 g ry rv fun s4 I4=>⟨σ,H4,I4,q3⟩
end
theorem dk_empty {P:Program} {w:World} {H:Hp} (h:Heap) (hb:sysModules<h.objs.size):ObjOk P w H (h.push { cls:=.type "dict",data:=.dict #[] }) h.objs.size (.dK []):=
 ⟨Nat.zero_le _,beq_eq_false_iff_ne.mpr (Ne.symm (Nat.ne_of_lt hb)),[],.nil,Heap.DictOf.new h⟩
def tDNewK:TE:=fun _ H Q=>∀ p,H p=none→Q (.ref p) (upd H p (.dK []))
section
variable {X:Cx} {pos:Pos}
theorem pe_dnewK:PE X (.Dict [] [] pos) tDNewK:=fun pins s σ H Q I h=>
 wpAny_Dict_empty ⟨.ref s.heap.objs.size,_,I.laid (a:=s.heap.objs.size) (o:=.dK []) (t':=s.toks) (fun _ _ q=>Heap.get?_push_of_some _ q) (Nat.le_refl _) (dk_empty s.heap I.big),rfl,h _ (I.hok.fresh (Nat.le_refl _))⟩
end
def tPairs:List (TE × TE)→St→Hp→(List (V × V)→Hp→Prop)→Prop
 | [],_,H,Q=>Q [] H
 | (tk,tv)::r,σ,H,Q=>tk σ H fun x H1=>tv σ H1 fun y H2=>tPairs r σ H2 fun ps H3=>Q ((x,y)::ps) H3
abbrev VV:List (V × V)→List (Value × Value)→Prop:=Paired fun p q=>RelV p.1 q.1∧RelV p.2 q.2
def PPs (X:Cx) (pos:Pos) (keys:List (Option Expr)) (values:List Expr) (trs:List (TE × TE)):Prop:=
 ∀ (pins:List (Addr × Obj)) (s:Shared) (σ:St) (H:Hp) (Q:List (V × V)→Hp→Prop),Inv X pins σ H s→tPairs trs σ H Q→
  wpAny (model X.prog X.w) X.A (evalPairs (pairTrees keys values X.env pos)) (fun vs s'=>∃ ps H',Inv X pins σ H' s'∧VV ps vs∧Q ps H') X.xe s
theorem pps_nil {X:Cx} {pos:Pos}:PPs X pos [] [] []:=fun pins s σ H Q I h=>pairTrees_nil_walk ⟨[],H,I,.nil,h⟩
theorem pps_cons {X:Cx} {pos:Pos} {k v:Expr} {ks:List (Option Expr)} {vs:List Expr} {tk tv:TE} {trs:List (TE × TE)} (hk:PE X k tk) (hv:PE X v tv) (hr:PPs X pos ks vs trs) :
  PPs X pos (some k::ks) (v::vs) ((tk,tv)::trs):=fun pins s σ H Q I h=>
 pairTrees_cons_walk (thn (hk pins s σ H _ I h) fun u s1 ⟨x,H1,I1,rx,q1⟩=>thn (hv pins s1 σ H1 _ I1 q1) fun w2 s2 ⟨y,H2,I2,ry,q2⟩=>
  thn (hr pins s2 σ H2 _ I2 q2) fun ws s3 ⟨ps,H3,I3,rel,q3⟩=>⟨(x,y)::ps,H3,I3,.cons ⟨rx,ry⟩ rel,q3⟩)
def mergeK (kvs more:List (Key × V)):List (Key × V):=more.foldl (fun acc kv=>putK acc kv.1 kv.2) kvs
theorem KV.merge:∀ {more:List (Key × V)} {rs:List (Key × Value)} {kvs:List (Key × V)} {vs:List (Key × Value)},KV more rs→KV kvs vs→KV (mergeK kvs more) (merged vs rs):=by
 intro more rs kvs vs r
 unfold KV at r
 induction r generalizing kvs vs with
 | nil=>intro q;exact q
 | @cons p q ps qs h t ih=>
  intro r0
  have e:KV (putK kvs p.1 p.2) (stored vs q.1 q.2):=by
   have:=r0.put p.1 h.2
   rw [← h.1];exact this
  exact ih e
theorem length_mergeK:∀ (more kvs:List (Key × V)),(mergeK kvs more).length≤kvs.length+more.length
 | [],kvs=>by show kvs.length≤kvs.length+0;omega
 | p::r,kvs=>by
  have h1:=length_mergeK r (putK kvs p.1 p.2)
  have h2:=length_putK kvs p.1 p.2
  show (mergeK (putK kvs p.1 p.2) r).length≤_
  rw [List.length_cons];omega
theorem carries_of {P:Program} {w:World}:∀ {kvs:List (Key × V)} {ws:List (Value × Value)},VV (kvs.map fun kv=>(kV kv.1,kv.2)) ws→∃ rs,Carries (mixKind P w) ws rs∧KV kvs rs
 | [],_,r=>by rw [List.map_nil] at r;cases r;exact ⟨[],True.intro,.nil⟩
 | p::kvs,_,r=>by
  rw [List.map_cons] at r
  cases r with
  | @cons a b as bs h t=>
   obtain ⟨rs,c,q⟩:=carries_of (P:=P) (w:=w) t
   obtain ⟨b1,b2⟩:=b
   exact ⟨(p.1,b2)::rs,⟨kV_is h.1,rfl,c⟩,.cons ⟨rfl,h.2⟩ q⟩
def tDisp (trs:List (TE × TE)):TE:=fun σ H Q=>∀ p,H p=none→tPairs trs σ (upd H p (.dK [])) fun ps H2=>H2 p=some (.dK [])∧∃ kvs:List (Key × V),ps=kvs.map (fun kv=>(kV kv.1,kv.2))∧kvs.length≤15∧Q (.ref p) (upd H2 p (.dK (mergeK [] kvs)))
theorem pe_disp {X:Cx} {pos:Pos} {keys:List (Option Expr)} {values:List Expr} {trs:List (TE × TE)} (h:PPs X pos keys values trs) (hall:keys.all (·.isSome)=true) (hl:keys.length=values.length) (h0:keys ≠ [])
  (h15:keys.length≤15):PE X (.Dict keys values pos) (tDisp trs):=by
 intro pins s σ H Q I q
 have hn:=I.hok.fresh (Nat.le_refl s.heap.objs.size)
 have I1:=I.laid (a:=s.heap.objs.size) (o:=.dK []) (h':=s.heap.push { cls:=.type "dict",data:=.dict #[] }) (t':=s.toks) (fun _ _ q=>Heap.get?_push_of_some _ q) (Nat.le_refl _) (dk_empty s.heap I.big)
 refine wpAny_Dict_walk (knd:=mixKind X.prog X.w) hall hl h0 h15 (thn (h pins _ σ _ _ I1 (q _ hn)) fun ws s2 ⟨ps,H2,I2,rel,e,kvs,ep,lk,q2⟩=>?_)
 subst ep
 obtain ⟨rs,c,rk⟩:=carries_of (P:=X.prog) (w:=X.w) rel
 obtain ⟨z,hd,vs0,r0,dd⟩:=dk_of I2.hok e
 cases r0
 refine ⟨rs,c,dd,fun h' dd' hs=>⟨.ref s.heap.objs.size,_,?_,rfl,q2⟩⟩
 have hz:(mergeK [] kvs).length≤sizeLine:=by
  have h1:=length_mergeK kvs []
  rw [List.length_nil] at h1
  rw [sizeLine_eq];omega
 have he:∃ q,h'.get? s.heap.objs.size=some q:=let ⟨q,_,_,hq,_⟩:=dd';⟨q,hq⟩
 exact d_write I2 (by rw [e];exact True.intro) hs he (dk_new hz hd (rk.merge .nil) dd')
structure M1 (X:Cx) (o:Expr) (m:Str) (apos:Pos) (e:Expr) (cpos:Pos):Prop where
 base:attributeBase o m X.env (eval o X.env)=eval o X.env
 few:((backTo cpos (starEach [e] X.env)).all (fun x=>!x.1) && (backToKw cpos (keywordEach [] X.env)).all (fun x=>x.1.isSome)
  && decide (([e]:List Expr).length+([]:List Keyword).length+(if ([]:List Keyword).isEmpty then 0 else 1)<30))=true
 line:(apos.endLine == cpos.line)=true
 trees:backTo cpos (starEach [e] X.env)=[(false,eval e X.env)]
structure M2 (X:Cx) (o:Expr) (m:Str) (apos:Pos) (e f:Expr) (cpos:Pos):Prop where
 base:attributeBase o m X.env (eval o X.env)=eval o X.env
 few:((backTo cpos (starEach [e,f] X.env)).all (fun x=>!x.1) && (backToKw cpos (keywordEach [] X.env)).all (fun x=>x.1.isSome)
  && decide (([e,f]:List Expr).length+([]:List Keyword).length+(if ([]:List Keyword).isEmpty then 0 else 1)<30))=true
 line:(apos.endLine == cpos.line)=true
 trees:backTo cpos (starEach [e,f] X.env)=[(false,eval e X.env),(false,eval f X.env)]
section
variable {X:Cx} {pins:List (Addr × Obj)} {σ:St} {H:Hp} {s:Shared} {a:Addr} {y d:V} {u r:Value} {o:Option V} {A:Around} {E:Value→Shared→Prop}
end
section
variable {X:Cx} {o e f:Expr} {apos cpos:Pos} {td ty tx:TE}
end
section
variable {X:Cx} {pins:List (Addr × Obj)} {σ:St} {H:Hp} {s:Shared} {a:Addr} {kvs:List (Key × V)} {A:Around} {E:Value→Shared→Prop}
end
section
variable {X:Cx} {pins:List (Addr × Obj)} {σ:St} {H:Hp} {s:Shared} {a:Addr} {y:V} {u:Value} {A:Around} {E:Value→Shared→Prop}
end
end L2
namespace L2
open PySem PySem.Spec PyProof.Rows
section
variable {X:Cx}
end
section
variable {κ:Type} [DecidableEq κ]
theorem nd_snoc:∀ {l:List κ} {k:κ},l.Nodup→¬ k ∈ l→(l++[k]).Nodup
 | [],k,_,_=>by simp
 | a::r,k,h,hk=>by
  obtain ⟨h1,h2⟩:=List.nodup_cons.mp h
  show (a::(r++[k])).Nodup
  refine List.nodup_cons.mpr ⟨fun m=>?_,nd_snoc h2 fun m=>hk (List.mem_cons.mpr (Or.inr m))⟩
  rcases List.mem_append.mp m with q | q
  ·exact h1 q
  ·exact hk (List.mem_cons.mpr (Or.inl (List.mem_singleton.mp q).symm))
end
end L2
namespace L2
open PySem PySem.Spec PyProof.Rows
def noX:Value→Shared→Prop:=fun _ _=>False
def closL (env:Env):List (Str × NameKind)→List (Str × Addr)→List (Str × Addr)
 | [],acc=>acc
 | (n,k)::r,acc=>closL env r (if (k == NameKind.free)=true then (n,(env.cells.lookup n).getD 0)::acc else acc)
theorem closL_sub {env:Env}:∀ {names:List (Str × NameKind)} {acc:List (Str × Addr)},(∀ x,(x,NameKind.free) ∈ names→∃ c,env.cells.lookup x=some c)→(∀ x c,acc.lookup x=some c→env.cells.lookup x=some c)→
  ∀ x c,(closL env names acc).lookup x=some c→env.cells.lookup x=some c
 | [],acc,_,ha,x,c,h=>ha x c h
 | (n,k)::r,acc,hf,ha,x,c,h=>by
  refine closL_sub (names:=r) (fun y hy=>hf y (List.mem_cons_of_mem _ hy)) (fun y d hd=>?_) x c h
  split at hd
  ·rename_i hk
   have hk':k=NameKind.free:=by simpa using hk
   subst hk'
   obtain ⟨e,he⟩:=hf n List.mem_cons_self
   by_cases hyn:y=n
   ·subst hyn
    rw [List.lookup_cons_self,he] at hd
    rw [he];exact hd
   ·rw [List.lookup_cons,beq_eq_false_iff_ne.mpr hyn] at hd
    exact ha y d hd
  ·exact ha y d hd
theorem closL_has {env:Env}:∀ {names:List (Str × NameKind)} {acc:List (Str × Addr)} {x:Str},((x,NameKind.free) ∈ names∨∃ c,acc.lookup x=some c)→∃ c,(closL env names acc).lookup x=some c
 | [],acc,x,h=>by
  rcases h with h | h
  ·exact absurd h (by simp)
  ·exact h
 | (n,k)::r,acc,x,h=>by
  refine closL_has (names:=r) ?_
  rcases h with h | ⟨c,h⟩
  ·rcases List.mem_cons.mp h with e | h
   ·cases e
    refine .inr ⟨(env.cells.lookup n).getD 0,?_⟩
    rw [if_pos (by rfl),List.lookup_cons_self]
   ·exact .inl h
  ·refine .inr ?_
   split
   ·by_cases hyn:x=n
    ·subst hyn
     exact ⟨_,List.lookup_cons_self⟩
    ·refine ⟨c,?_⟩
     rw [List.lookup_cons,beq_eq_false_iff_ne.mpr hyn]
     exact h
   ·exact ⟨c,h⟩
theorem closure_run {env:Env} (f:Str × NameKind→List (Str × Addr)→Sem (ForInStep (List (Str × Addr))))
  (hf:∀ n k c,f (n,k) c=(if (k == NameKind.free)=true then (do let a ← cellOf env n;pure (ForInStep.yield ((n,a)::c))) else pure (ForInStep.yield c))) :
  ∀ (names:List (Str × NameKind)) (acc:List (Str × Addr)),(∀ x,(x,NameKind.free) ∈ names→∃ c,env.cells.lookup x=some c)→forIn names acc f=(pure (closL env names acc):Sem _)
 | [],acc,_=>rfl
 | (n,k)::r,acc,h=>by
  have ih:=fun acc=>closure_run f hf r acc fun x hx=>h x (List.mem_cons_of_mem _ hx)
  rw [List.forIn_cons,hf]
  by_cases hk:(k == NameKind.free)=true
  ·have hk':k=NameKind.free:=by simpa using hk
   subst hk'
   obtain ⟨c,hc⟩:=h n List.mem_cons_self
   rw [if_pos hk]
   unfold cellOf closL
   rw [hc,if_pos hk]
   exact ih _
  ·rw [if_neg hk]
   unfold closL
   rw [if_neg hk]
   exact ih _
theorem closure_ok {scope:Scope} {env:Env} (h:∀ x,(x,NameKind.free) ∈ scope.names→∃ c,env.cells.lookup x=some c):closureFor scope env=pure (closL env scope.names []):=by
 unfold closureFor
 dsimp only
 rw [closure_run (env:=env) _ (fun n k c=>?_) scope.names [] h]
 ·rfl
 ·rfl
theorem relabel_lookup {env:Env} {x:Str}:∀ {names:List (Str × NameKind)},
  (names.map fun (n,k)=>if (k == NameKind.free && env.scope.kind == .function && env.kindOf n == some .cell)=true then (n,NameKind.cell) else (n,k)).lookup x =
   (names.lookup x).map fun k=>if (k == NameKind.free && env.scope.kind == .function && env.kindOf x == some .cell)=true then NameKind.cell else k
 | []=>rfl
 | (n,k)::r=>by
  have ih:=@relabel_lookup env x r
  rw [List.map_cons]
  by_cases hx:x=n
  ·subst hx
   dsimp only
   rw [List.lookup_cons_self (b:=k),Option.map_some]
   split
   ·rw [List.lookup_cons_self]
   ·rw [List.lookup_cons_self]
  ·have hb:(x == n)=false:=beq_eq_false_iff_ne.mpr hx
   dsimp only
   rw [List.lookup_cons (k:=n) (b:=k),hb]
   dsimp only
   rw [← ih]
   split
   ·rw [List.lookup_cons,hb]
   ·rw [List.lookup_cons,hb]
structure LcZ where
 L:Addr
 cl:List (Str × Addr)
 ex:List Addr
 s₀:Shared
 H₀:Hp
def lcCx (X:Cx) (scope:Scope) (own:List Str) (fv:List Nat) (z:LcZ):Cx where
 prog:=X.prog
 w:=X.w
 K:=X.K
 mg:=X.mg
 base:=X.base
 A:=X.A
 N:=own++fv.map fun i=>X.N.getD i Str.empty
 s₀:=z.s₀
 H₀:=z.H₀
 env:=compEnvC scope z.cl z.L X.env
 outer:=X.stack
 stack:=X.stack
 ex:=z.ex
 fn:=fun _=>false
 calm:=X.calm
 pn:=[]
 xe:=noX
structure LcScope (X:Cx) (scope:Scope) (own:List Str) (fv:List Nat):Prop where
 kind:scope.kind=.function
 nocell:∀ y ∈ scope.names,y.2 ≠ .cell
 names:∀ y ∈ scope.names,y.2=.local→scope.names.lookup y.1=some .local
 free:∀ y ∈ scope.names,y.2=.free→X.env.kindOf y.1=some .cell∨X.env.kindOf y.1=some .free
 nd:(own++fv.map fun i=>X.N.getD i Str.empty).Nodup
 fvs:∀ i ∈ fv,i<X.N.length∧scope.names.lookup (X.N.getD i Str.empty)=some .free
def lcStart (own:List Str) (fv:List Nat) (σ:St):St:=(own.map fun _=>none)++fv.map fun i=>(σ[i]?).join
theorem compLoop_any {prog:Program} {w:World} {A:Around} {R:Result→Shared→Prop} {s:Shared} {elt target iter:Expr} {ifs:List Expr} {scope:Scope} {pos:Pos} {it acc:Value} {env:Env} (I:Nat→Shared→Prop)
  (turn:∀ n s,I n s→wpAny (model prog w) A (pyNext it) (fun r s₁=>match r with
   | none=>R (.ok .next) s₁
   | some v=>wpAny (model prog w) A (letOwnedTupleGo target it v) (fun _ s₁=>wpAny (model prog w) A (assign target env v) (fun _ s₂=>
     wpAny (model prog w) A (forIn ifs true fun c r=>if r=true then do let ok ← isTrue c env (eval c env);pure (ForInStep.yield ok) else pure (ForInStep.yield r)) (fun ok s₃=>
      if ok=true then wpAny (model prog w) A (eval elt env) (fun x s₄=>
       wpAny (model prog w) A (call (.builtin "list.append") [acc,x]) (fun _ s₅=>∃ m,m<n∧I m s₅) noX s₄) noX s₃
      else ∃ m,m<n∧I m s₃) noX s₂) noX s₁) noX s₁) noX s)
  (n:Nat) (h:I n s) :
  codeAny (model prog w) A (.compLoop (.ListComp elt [⟨target,iter,ifs,0⟩] scope pos) 0 it acc env) R s:=by
 refine codeAny_loop rfl I (fun n s hI=>?_) n h
 show wpAny _ A ((compTurn (.ListComp elt [⟨target,iter,ifs,0⟩] scope pos) 0 it acc env).onRaise (fun x=>do noteFrame x env;theTreesLotGoes x)) _ _ s
 refine wpAny_noted ?_
 rw [compTurn_list]
 refine wpAny_bind (wpAny_standAt (wpAny_bind (wpAny_mono (turn n s hI) (fun r s₁ h₁=>?_) fun _ _ h'=>h'.elim)))
 cases r with
 | none=>exact wpAny_pure h₁
 | some v=>
  refine wpAny_bind (wpAny_mono h₁ (fun _ s₁ h₁=>?_) fun _ _ h'=>h'.elim)
  refine wpAny_bind (wpAny_mono h₁ (fun _ s₂ h₂=>wpAny_bind (wpAny_mono h₂ (fun ok s₃ h₃=>?_) fun _ _ h'=>h'.elim)) fun _ _ h'=>h'.elim)
  cases ok with
  | false=>exact wpAny_pure ⟨rfl,h₃⟩
  | true=>
   exact wpAny_bind (wpAny_bind (wpAny_mono h₃ (fun x s₄ h₄=>wpAny_bind (wpAny_mono h₄ (fun _ s₅ h₅=>wpAny_pure (wpAny_pure ⟨rfl,h₅⟩)) fun _ _ h'=>h'.elim)) fun _ _ h'=>h'.elim))
section
variable {X:Cx} {pins:List (Addr × Obj)} {σ:St} {H:Hp} {s:Shared}
theorem Inv.other {h':Heap} {L:Addr} {n:Nat} (I:Inv X pins σ H s) (hb:X.s₀.heap.objs.size≤L) (h0:H L=none) (h1:L ≠ X.env.locals) (h2:∀ x c,X.env.cells.lookup x=some c→c ≠ L) (h3:∀ p ∈ X.pn++pins,p.1 ≠ L)
  (k:Heap.SameBut L s.heap h'):Inv X pins σ H { s with heap:=h' }:=
 I.turned (t':=s.toks) (fun b o hb e=>(k.2 b hb).trans e) h0 h1 (.inr hb) h2 h3
theorem lc_ok {scope:Scope} {own:List Str} {fv:List Nat} {fp:List Addr} (I:Inv X pins σ H s) (S:LcScope X scope own fv) (hf:∀ b ∈ fp,FpOk X pins H b) (hsz:∀ b ∈ fp,b<s.heap.objs.size) :
  (lcCx X scope own fv ⟨s.heap.objs.size,closL X.env scope.names [],fp,s,H⟩).Ok:=by
 have hfr:∀ x,(x,NameKind.free) ∈ scope.names→∃ c,X.env.cells.lookup x=some c:=fun x hx=>I.ok.has x (S.free _ hx rfl)
 have sub:=closL_sub (env:=X.env) (names:=scope.names) (acc:=[]) hfr (fun x c z=>by simp at z)
 refine ⟨I.ok.mod,S.kind,I.ok.glob,I.ok.blt,Nat.le_refl _,fun x y c h1 h2=>I.ok.inj x y c (sub _ _ h1) (sub _ _ h2),fun x hx=>?_,fun x c hx=>?_,I.ok.hd,I.ok.frames,.inl rfl,fun b hb=>⟨?_,fun x c e=>?_⟩,I.bs,Nat.le_trans I.ok.bsz I.sz,fun b o e hb=>?_,fun b hb hb'=>?_,I.stack,I.stkFree⟩
 ·refine closL_has (.inl ?_)
  have hx':(relabel scope X.env).names.lookup x=some .cell∨(relabel scope X.env).names.lookup x=some .free:=hx
  unfold relabel at hx'
  rw [relabel_lookup] at hx'
  cases e:scope.names.lookup x with
  | none=>rw [e] at hx';simp at hx'
  | some k=>
   have hm:=PySem.mem_of_lookup e
   have nc:=S.nocell _ hm
   rw [e] at hx'
   simp only [Option.map_some,Option.some.injEq] at hx'
   cases k with
   | free=>exact hm
   | cell=>exact absurd rfl nc
   | _=>simp at hx'
 ·cases hx
 ·exact Nat.ne_of_lt (hsz b hb)
 ·exact (hf b hb).2.2.2.2.1 x c (sub _ _ e)
 ·rcases (hf b hb).2.2.2.1 with z | z
  ·exact I.ok.noex b o e z
  ·exact absurd (Nat.lt_of_lt_of_le (Heap.lt_size (I.ok.bs b o e).1) z) (Nat.lt_irrefl _)
 ·rcases List.mem_cons.mp (I.stkSub b hb') with z | z
  ·exact (hf b hb).2.1 z
  ·exact (hf b hb).2.2.1 z
theorem lc_start {scope:Scope} {own:List Str} {fv:List Nat} {fp:List Addr} {h₁:Heap} {tk:Nat} (I:Inv X pins σ H s) (S:LcScope X scope own fv) (hf:∀ b ∈ fp,FpOk X pins H b) (hsz:∀ b ∈ fp,b<s.heap.objs.size)
  (hns:h₁.Ns s.heap.objs.size (fun _=>none)) (hk:∀ b o,s.heap.get? b=some o→h₁.get? b=some o) :
  Inv (lcCx X scope own fv ⟨s.heap.objs.size,closL X.env scope.names [],fp,s,H⟩) [] (lcStart own fv σ) H { s with heap:=h₁,toks:=tk }:=by
 have hfr:∀ x,(x,NameKind.free) ∈ scope.names→∃ c,X.env.cells.lookup x=some c:=fun x hx=>I.ok.has x (S.free _ hx rfl)
 have sub:=closL_sub (env:=X.env) (names:=scope.names) (acc:=[]) hfr (fun x c z=>by simp at z)
 refine ⟨lc_ok I S hf hsz,rfl,I.bare,Un.kept hk,⟨_,hns,fun i x v h1 h2 h3=>?_⟩,fun x c e=>?_,I.hok.fresh (Nat.le_refl _),fun x c e=>I.freeC x c (sub _ _ e),fun p hp=>absurd (show p ∈ ([]:List (Addr × Obj)) from hp) (by simp),I.hok.kept hk,?_⟩
 ·have h1:(own++fv.map fun i=>X.N.getD i Str.empty)[i]?=some x:=h1
  unfold lcStart at h2
  have hi:own.length≤i:=by
   apply Nat.le_of_not_lt
   intro hi
   rw [List.getElem?_append_left (by simpa using hi),List.getElem?_map] at h2
   cases e:own[i]? with
   | none=>rw [e] at h2;cases h2
   | some z=>rw [e] at h2;cases h2
  rw [List.getElem?_append_right (by simpa using hi),List.length_map,List.getElem?_map] at h2
  rw [List.getElem?_append_right hi,List.getElem?_map] at h1
  cases e:fv[i - own.length]? with
  | none=>rw [e] at h1;cases h1
  | some j=>
   rw [e] at h1 h2
   have hj:=S.fvs j (List.mem_of_getElem? e)
   have h1:X.N.getD j Str.empty=x:=Option.some.inj h1
   have h2:(σ[j]?).join=some v:=Option.some.inj h2
   have h2':σ[j]?=some (some v):=by
    cases q:σ[j]? with
    | none=>rw [q] at h2;cases h2
    | some y=>rw [q] at h2;exact congrArg some h2
   have hx:X.N[j]?=some x:=by
    rw [List.getD_eq_getElem?_getD] at h1
    rw [List.getElem?_eq_getElem hj.1] at h1 ⊢
    exact congrArg some h1
   have hlk:scope.names.lookup x=some .free:=h1 ▸ hj.2
   have hmem:=PySem.mem_of_lookup hlk
   obtain ⟨m,hn,hl⟩:=id I.loc
   have hkd:=S.free _ hmem rfl
   obtain ⟨u,ru,lk⟩:=hl j x v hx h2' (by
    rcases hkd with z | z
    ·exact .inr (.inl z)
    ·exact .inr (.inr z))
   refine ⟨u,ru,?_⟩
   rcases lk with ⟨z,_⟩ | ⟨_,c,e1,z⟩
   ·rcases hkd with y | y
    ·have y':X.env.kindOf x=some .cell:=y
     rw [z] at y';cases y'
    ·have y':X.env.kindOf x=some .free:=y
     rw [z] at y';cases y'
   ·obtain ⟨c',e2⟩:=closL_has (env:=X.env) (names:=scope.names) (acc:=[]) (x:=x) (.inl hmem)
    have e3:=sub _ _ e2
    rw [e1] at e3
    cases e3
    obtain ⟨o,ho,hd⟩:=z
    refine .inr ⟨?_,c,e2,o,hk _ _ ho,hd⟩
    show (relabel scope X.env).names.lookup x=some .cell∨(relabel scope X.env).names.lookup x=some .free
    unfold relabel
    rw [relabel_lookup,hlk,Option.map_some]
    split
    ·exact .inl rfl
    ·exact .inr rfl
 ·obtain ⟨v,o,ho,hd⟩:=I.cell x c (sub _ _ e)
  exact ⟨v,o,hk _ _ ho,hd⟩
 ·unfold lcStart
  show _=(own++fv.map fun i=>X.N.getD i Str.empty).length
  rw [List.length_append,List.length_append,List.length_map,List.length_map,List.length_map]
theorem lc_back {scope:Scope} {own:List Str} {fv:List Nat} {fp:List Addr} {pins':List (Addr × Obj)} {σ':St} {H':Hp} {s':Shared} {cl:List (Str × Addr)} (I:Inv X pins σ H s) (hf:∀ b ∈ fp,FpOk X pins H b)
  (J:Inv (lcCx X scope own fv ⟨s.heap.objs.size,cl,fp,s,H⟩) pins' σ' H' s'):Inv X pins σ H' s':=
 I.call' (ch:=fp) J.os J.base J.hok J.bare fun b hb=>⟨(hf b hb).2.2.2.1,(hf b hb).2.1,(hf b hb).2.2.2.2.1,(hf b hb).2.2.2.2.2⟩
end
def PTs (X:Cx) (ifs:List Expr) (t:TT):Prop:=
 ∀ (pins:List (Addr × Obj)) (s:Shared) (σ:St) (H:Hp) (Q:Bool→Hp→Prop),Inv X pins σ H s→t σ H Q→
  wpAny (model X.prog X.w) X.A (forIn ifs true fun c r=>if r=true then do let ok ← isTrue c X.env (eval c X.env);pure (ForInStep.yield ok) else pure (ForInStep.yield r)) (TP X pins σ Q) X.xe s
def tTrue:TT:=fun _ H Q=>Q true H
theorem pts_nil {X:Cx}:PTs X [] tTrue:=fun pins s σ H Q I h=>wpAny_tests_nil ⟨H,I,h⟩
theorem pts_one {X:Cx} {c:Expr} {t:TT} (h:PT X c t):PTs X [c] t:=fun pins s σ H Q I hq=>wpAny_tests_one (h pins s σ H Q I hq)
def lcRun (own:List Str) (fv:List Nat) (wi:TI) (g:TG) (tc:TT) (te:TE) (K:Addr→Hp→Prop):St→Hp→Prop:=fun σ H=>wi σ H fun J H1=>∀ p,H1 p=none→
 ∃ W:Nat→Nat→St→Hp→Prop,(∃ m,W 0 m (lcStart own fv σ) (upd H1 p (.lst [])))∧∀ i m σ H,W i m σ H→
  (J.stop i H∧K p H)∨(J.go i H∧∃ N:St→Hp→Prop,(∀ σ' H',N σ' H'→∃ m',m'<m∧W (i+1) m' σ' H')∧∀ x H',J.yld i H x H'→g x σ H' fun σ2 H2=>tc σ2 H2 fun b H3=>
   if b=true then te σ2 H3 fun y H4=>∃ ys,H4 p=some (.lst ys)∧ys.length<sizeLine∧N σ2 (upd H4 p (.lst (ys++[y])))
   else N σ2 H3)
def tLc (own:List Str) (fv:List Nat) (wi:TI) (g:TG) (tc:TT) (te:TE):TE:=fun σ H Q=>lcRun own fv wi g tc te (fun p H'=>Q (.ref p) H') σ H
section
variable {X:Cx} {tg iter elt:Expr} {ifs:List Expr} {scope:Scope} {pos:Pos} {own:List Str} {fv:List Nat} {wi:TI} {g:TG} {tc:TT} {te:TE}
theorem lc_core {pins:List (Addr × Obj)} {s:Shared} {σ:St} {H:Hp} {K:Addr→Hp→Prop} {use:Option (Value→Sem Unit)} {Q:Value→Shared→Prop} {E:Value→Shared→Prop} (hc:X.calm=true) (S:LcScope X scope own fv) (hi:PI X tg iter wi)
  (hg:∀ z,PG (lcCx X scope own fv z) tg g) (ht:∀ z,PTs (lcCx X scope own fv z) ifs tc) (he:∀ z,PE (lcCx X scope own fv z) elt te)
  (I:Inv X pins σ H s) (h:lcRun own fv wi g tc te K σ H) (hxe:∀ e s,X.xe e s→E e s)
  (fin:∀ (p:Addr) (L:Addr) (H':Hp) (s':Shared) (m:Str→Option Value),Inv X pins σ H' s'→K p H'→s'.heap.Ns L m→X.s₀.heap.objs.size≤L→H' L=none→L ≠ X.env.locals→(∀ x c,X.env.cells.lookup x=some c→c ≠ L)→(∀ q ∈ X.pn++pins,q.1 ≠ L)→
   compPost (model X.prog X.w) X.A E use Q (.ref p) L (.ok .next) s') (hs:∀ x,foldedSetIterable iter X.env x=pure x:=by intro _;rfl) :
  wpAny (model X.prog X.w) X.A (comprehension (.ListComp elt [⟨tg,iter,ifs,0⟩] scope pos) scope X.env (firstIterPos [⟨tg,iter,ifs,0⟩] pos) (newList []) false (eval iter X.env) use) Q E s:=by
 have hfr:∀ x,(x,NameKind.free) ∈ scope.names→∃ c,X.env.cells.lookup x=some c:=fun x hx=>I.ok.has x (S.free _ hx rfl)
 refine wpAny_comprehension_free rfl hs (closure_ok hfr) S.kind S.names (wpAny_mono (hi pins s σ H _ I h) (fun v s1 h1=>wpAny_mono h1 (fun itv s2 h2=>?_) hxe) hxe)
 obtain ⟨it,fp,tn,J,H2,e,I2,T,st2,f2,q2⟩:=h2
 subst e
 -- the list
 refine wpAny_newObj_type ?_
 have fresh2:H2 s2.heap.objs.size=none:=I2.hok.fresh (Nat.le_refl _)
 have I3:Inv X pins σ (upd H2 s2.heap.objs.size (.lst [])) { s2 with heap:=s2.heap.push { cls:=.type "list",dict:=none,data:=.seq ([]:List Value).toArray } }:=
  I2.laid (t':=s2.toks) (fun b u e=>Heap.get?_push_of_some _ e) (Nat.le_refl _) ⟨Nat.zero_le _,[],0,.nil,Heap.get?_push_size _ rfl⟩
 obtain ⟨W,⟨m0,w0⟩,turn⟩:=q2 s2.heap.objs.size fresh2
 have lt2:∀ b ∈ fp,b<s2.heap.objs.size:=fun b hb=>by
  obtain ⟨o,e,_⟩:=T.obj 0 _ st2 b hb
  exact Heap.lt_size e
 have f3:∀ b ∈ fp,FpOk X pins (upd H2 s2.heap.objs.size (.lst [])) b:=fun b hb=>⟨by rw [upd_ne (Nat.ne_of_lt (lt2 b hb))];exact (f2 b hb).1,(f2 b hb).2⟩
 generalize hp:s2.heap.objs.size=p at *
 generalize hH3:upd H2 p (.lst [])=H3 at *
 have st3:tn 0 (s2.heap.push { cls:=.type "list",dict:=none,data:=.seq ([]:List Value).toArray }):=T.keep _ _ _ st2 fun b _ o e=>Heap.get?_push_of_some _ e
 have lt3:∀ b ∈ fp,b<(s2.heap.push { cls:=.type "list",dict:=none,data:=.seq ([]:List Value).toArray }).objs.size:=fun b hb=>by
  rw [Heap.size_push]
  have:=lt2 b hb
  rw [hp]
  exact Nat.lt_succ_of_lt this
 generalize hs3:({ s2 with heap:=s2.heap.push { cls:=.type "list",dict:=none,data:=.seq ([]:List Value).toArray } }:Shared)=s3 at *
 have st3':tn 0 s3.heap:=by rw [← hs3];exact st3
 have lt3':∀ b ∈ fp,b<s3.heap.objs.size:=by rw [← hs3];exact lt3
 -- the block's frame
 refine wpAny_newFunctionEnv S.nocell (by intro y hy;simp at hy) (fun h₁ hns₁ hsb₁=>?_) S.kind
 have keep1:∀ b o,s3.heap.get? b=some o→h₁.get? b=some o:=fun b o e=>hsb₁.extBut b o (Nat.ne_of_lt (Heap.lt_size e)) (Heap.get?_push_of_some _ e)
 have J0:Inv (lcCx X scope own fv ⟨s3.heap.objs.size,closL X.env scope.names [],fp,s3,H3⟩) [] (lcStart own fv σ) H3 { s3 with heap:=h₁,toks:=s3.toks+([]:List (Str × Value)).length }:=lc_start I3 S f3 lt3' hns₁ keep1
 have cOk:=lc_ok I3 S f3 lt3'
 generalize hz:(⟨s3.heap.objs.size,closL X.env scope.names [],fp,s3,H3⟩:LcZ)=z at *
 have st4:tn 0 h₁:=T.keep _ _ _ st3' fun b _ o e=>keep1 b o e
 have fr4:∀ b ∈ fp,H3 b=none:=fun b hb=>(f3 b hb).1
 have stat:∀ {H':Hp},(∀ b ∈ fp,H' b=none)→∀ b ∈ fp,FpOk (lcCx X scope own fv z) [] H' b:=fun hn b hb=>by
  subst hz
  refine ⟨hn b hb,(cOk.exf b hb).1,cOk.exfs b hb,.inl hb,(cOk.exf b hb).2,fun q hq=>absurd (show q ∈ ([]:List (Addr × Obj)) from hq) (by simp)⟩
 have envE:({ newEnv scope s3.heap.objs.size X.env.globals (closL X.env scope.names []) X.env.qual none .none (some X.env) builtinsNs with scope:=relabel scope X.env }:Env)=(lcCx X scope own fv z).env:=by
  subst hz
  rfl
 have loop:∀ sA:Shared,sA={ s3 with heap:=h₁,toks:=s3.toks+([]:List (Str × Value)).length }→codeAny (model X.prog X.w) X.A (.compLoop (.ListComp elt [⟨tg,iter,ifs,0⟩] scope pos) 0 (.ref it) (.ref p) (lcCx X scope own fv z).env)
   (compPost (model X.prog X.w) X.A E use Q (.ref p) s3.heap.objs.size) sA:=by
  rintro sA rfl
  refine compLoop_any (fun n s'=>∃ i σ' H',Inv (lcCx X scope own fv z) [] σ' H' s'∧tn i s'.heap∧(∀ b ∈ fp,H' b=none)∧W i n σ' H') ?_ m0 ⟨0,_,H3,J0,st4,fr4,w0⟩
  rintro n s4 ⟨i,σ4,H4,I4,st4,fr4,w4⟩
  rcases turn i n σ4 H4 w4 with ⟨stop,qn⟩ | ⟨go,Nx,hNx,step⟩
  ·refine thn (T.done (lcCx X scope own fv z) rfl rfl rfl hc i [] s4 σ4 H4 noX I4 (stat fr4) st4 stop) fun r s5 ⟨hr,I5⟩=>?_
   subst hr
   subst hz
   have I6:Inv X pins σ H4 s5:=lc_back I3 f3 I5
   obtain ⟨m,hn,_⟩:=id I5.loc
   have fpL:=I3.fpOk (H':=H4) (b:=s3.heap.objs.size) (Nat.le_refl _) I5.free
   refine fin p s3.heap.objs.size H4 s5 m I6 qn hn I3.sz fpL.1 fpL.2.1 fpL.2.2.2.2.1 fpL.2.2.2.2.2
  ·refine thn (T.item (lcCx X scope own fv z) rfl rfl rfl hc i [] s4 σ4 H4 noX I4 (stat fr4) st4 go) fun r s5 ⟨u,hr,h5⟩=>?_
   subst hr
   refine thn h5 fun _ s6 ⟨x,H6,I6,r6,y6,st6,fr6⟩=>?_
   have I6':=I6.pinned (stat fr6) (T.obj _ _ st6)
   have again:∀ {σ7:St} {H7:Hp} {s7:Shared} {m':Nat},m'<n→Inv (lcCx X scope own fv z) ([]++pinsAt fp s6.heap) σ7 H7 s7→W (i+1) m' σ7 H7→
     ∃ m,m<n∧∃ i σ' H',Inv (lcCx X scope own fv z) [] σ' H' s7∧tn i s7.heap∧(∀ b ∈ fp,H' b=none)∧W i m σ' H':=fun {σ7 H7 s7 m'} hm I7 w7=>by
    refine ⟨m',hm,i+1,σ7,H7,I7.unpinned,T.keep _ _ _ st6 fun b hb o e=>(I7.pin (b,o) (List.mem_append_right _ (List.mem_append_right _ (mem_pinsAt hb e)))).1,fun b hb=>?_,w7⟩
    obtain ⟨o,e,d⟩:=T.obj _ _ st6 b hb
    exact (I7.pin (b,o) (List.mem_append_right _ (List.mem_append_right _ (mem_pinsAt hb e)))).2.1
   refine thn (hg z _ s6 σ4 H6 x u _ I6' r6 (step x H6 y6)) fun _ s7 ⟨σ7,H7,I7,q7⟩=>?_
   refine thn (ht z _ s7 σ7 H7 _ I7 q7) fun b s8 ⟨H8,I8,q8⟩=>?_
   cases b with
   | false=>
    obtain ⟨m',hm,w8⟩:=hNx _ _ q8
    exact again hm I8 w8
   | true=>
    refine thn (he z _ s8 σ7 H8 _ I8 q8) fun v s9 ⟨y,H9,I9,r9,ys,ep,hl,w9⟩=>?_
    refine thn (mt_append (X:=lcCx X scope own fv z) _ s9 σ7 H9 (.ref p) [y] (.ref p) [v] (fun _ H'=>Nx σ7 H') I9 rfl (.cons r9 .nil) ⟨p,ys,y,rfl,rfl,ep,hl,w9⟩) fun _ s10 ⟨_,H10,I10,_,q10⟩=>?_
    obtain ⟨m',hm,w10⟩:=hNx _ _ q10
    exact again hm I10 w10
 rw [envE]
 exact codeAny_compStart_list (loop _ rfl) (T.self _ _ _ _ _ st4 (loop _ rfl))
theorem pe_lc (hc:X.calm=true) (S:LcScope X scope own fv) (hi:PI X tg iter wi) (hg:∀ z,PG (lcCx X scope own fv z) tg g) (ht:∀ z,PTs (lcCx X scope own fv z) ifs tc) (he:∀ z,PE (lcCx X scope own fv z) elt te)
  (hs:∀ x,foldedSetIterable iter X.env x=pure x:=by intro _;rfl):PE X (.ListComp elt [⟨tg,iter,ifs,0⟩] scope pos) (tLc own fv wi g tc te):=by
 intro pins s σ H Q I h
 rw [eval_ListComp]
 refine lc_core (use:=none) (K:=fun p H'=>Q (.ref p) H') hc S hi hg ht he I h (fun _ _ q=>q) (fun p L H' s' m I' q hn h1 h2 h3 h4 h5=>?_) hs
 exact ⟨m,hn,fun h' hs'=>⟨.ref p,H',I'.other (n:=0) h1 h2 h3 h4 h5 hs',rfl,q⟩⟩
theorem ps_lc {i:Nat} {x:Str} {pos' spos:Pos} (hN:X.N.Nodup) (hx:X.N[i]?=some x) (hl:X.env.scope.names.lookup x=some .local) (hc:X.calm=true) (S:LcScope X scope own fv) (hi:PI X tg iter wi) (hg:∀ z,PG (lcCx X scope own fv z) tg g)
  (ht:∀ z,PTs (lcCx X scope own fv z) ifs tc) (he:∀ z,PE (lcCx X scope own fv z) elt te) (hsw:swapsWith (.ListComp elt [⟨tg,iter,ifs,0⟩] scope pos) (some (.Name x pos')) spos.line X.env=pure true)
  (hs:∀ x,foldedSetIterable iter X.env x=pure x:=by intro _;rfl):PS X (.Assign [.Name x pos'] (.ListComp elt [⟨tg,iter,ifs,0⟩] scope pos) spos) (tAsg (tLc own fv wi g tc te) (gName i)):=by
 intro pins s σ H D I h
 rw [exec_Assign_Name_used _ _ _ _ hsw]
 refine wpAny_bind (wpAny_standAt (wpAny_bind ?_))
 show wpAny _ X.A (do let _ ← comprehension (.ListComp elt [⟨tg,iter,ifs,0⟩] scope pos) scope X.env _ (newList []) false (eval iter X.env) (some (assign (.Name x pos') X.env))) _ _ s
 refine wpAny_bind (wpAny_mono (lc_core (use:=some (assign (.Name x pos') X.env)) (K:=fun p H'=>D.nx (σ.set i (some (.ref p))) H') (Q:=fun _ s'=>SP X pins D .next s') (E:=X.xe) hc S hi hg ht he I h (fun _ _ q=>q) (fun p L H' s' m I' q hn h1 h2 h3 h4 h5=>?_) hs)
  (fun _ s' hq=>wpAny_pure (wpAny_pure hq)) fun _ _ e=>e)
 show wpAny _ X.A (assign (.Name x pos') X.env (.ref p)) _ _ _
 refine wpAny_assign_Name (store_ok2 (v:=.ref p) I' hN hx (.inl hl) rfl (fun s2 I2 ⟨a,hsb,ha⟩=>?_) (.inr hl))
 have hLa:L ≠ a:=by
  rcases ha with z | z
  ·rw [z];exact h3
  ·exact fun y=>h4 x a z y.symm
 exact ⟨m,hn.sameBut hsb hLa,fun h' hs'=>⟨_,H',I2.other (n:=0) h1 h2 h3 h4 h5 hs',q⟩⟩
end
theorem lc_range {lo:Int} {n:Nat} {g:TG} {tc:TT} {te:TE} {Kf:Hp→Prop} {σ0:St} {H0:Hp} {p:Addr} (Pv:Nat→St→Hp→Prop) (h0:Pv 0 σ0 H0)
  (hs:∀ i σ H,i<n→Pv i σ H→g (.int (lo+i)) σ H fun σ2 H2=>tc σ2 H2 fun b H3=>if b=true then te σ2 H3 fun y H4=>∃ ys,H4 p=some (.lst ys)∧ys.length<sizeLine∧Pv (i+1) σ2 (upd H4 p (.lst (ys++[y]))) else Pv (i+1) σ2 H3)
  (hd:∀ σ H,Pv n σ H→Kf H) :
  ∃ W:Nat→Nat→St→Hp→Prop,(∃ m,W 0 m σ0 H0)∧∀ i m σ H,W i m σ H→
   ((Itr lo n).stop i H∧Kf H)∨((Itr lo n).go i H∧∃ N:St→Hp→Prop,(∀ σ' H',N σ' H'→∃ m',m'<m∧W (i+1) m' σ' H')∧∀ x H',(Itr lo n).yld i H x H'→g x σ H' fun σ2 H2=>tc σ2 H2 fun b H3=>
    if b=true then te σ2 H3 fun y H4=>∃ ys,H4 p=some (.lst ys)∧ys.length<sizeLine∧N σ2 (upd H4 p (.lst (ys++[y]))) else N σ2 H3):=by
 refine ⟨fun i m σ H=>m=n - i∧i≤n∧Pv i σ H,⟨n,by simp,Nat.zero_le _,h0⟩,?_⟩
 rintro i m σ H ⟨rfl,hi,q⟩
 by_cases hlt:i<n
 ·refine .inr ⟨hlt,Pv (i+1),fun σ' H' p'=>⟨n - (i+1),by omega,rfl,hlt,p'⟩,fun x H' y=>?_⟩
  obtain ⟨e,y⟩:=y
  subst e y
  exact hs i σ _ hlt q
 ·have e:i=n:=by omega
  subst e
  exact .inl ⟨Nat.le_refl _,hd σ H q⟩
theorem lc_list {K:PySem.W.Frag} {a:Addr} {xs:List V} {g:TG} {tc:TT} {te:TE} {Kf:Hp→Prop} {σ0:St} {H0:Hp} {p:Addr} (Pv:Nat→St→Hp→Prop) (h0:Pv 0 σ0 H0) (hl:∀ i σ H,i≤xs.length→Pv i σ H→SqL K H a xs)
  (hs:∀ i x σ H,xs[i]?=some x→Pv i σ H→g x σ H fun σ2 H2=>tc σ2 H2 fun b H3=>if b=true then te σ2 H3 fun y H4=>∃ ys,H4 p=some (.lst ys)∧ys.length<sizeLine∧Pv (i+1) σ2 (upd H4 p (.lst (ys++[y]))) else Pv (i+1) σ2 H3)
  (hd:∀ σ H,Pv xs.length σ H→Kf H) :
  ∃ W:Nat→Nat→St→Hp→Prop,(∃ m,W 0 m σ0 H0)∧∀ i m σ H,W i m σ H→
   ((Itl K a).stop i H∧Kf H)∨((Itl K a).go i H∧∃ N:St→Hp→Prop,(∀ σ' H',N σ' H'→∃ m',m'<m∧W (i+1) m' σ' H')∧∀ x H',(Itl K a).yld i H x H'→g x σ H' fun σ2 H2=>tc σ2 H2 fun b H3=>
    if b=true then te σ2 H3 fun y H4=>∃ ys,H4 p=some (.lst ys)∧ys.length<sizeLine∧N σ2 (upd H4 p (.lst (ys++[y]))) else N σ2 H3):=by
 refine ⟨fun i m σ H=>m=xs.length - i∧i≤xs.length∧Pv i σ H,⟨xs.length,by simp,Nat.zero_le _,h0⟩,?_⟩
 rintro i m σ H ⟨rfl,hi,q⟩
 have hq:=hl i σ H hi q
 by_cases hlt:i<xs.length
 ·refine .inr ⟨⟨xs,xs[i],hq,by simp [hlt]⟩,Pv (i+1),fun σ' H' p'=>⟨xs.length - (i+1),by omega,rfl,hlt,p'⟩,fun x H' y=>?_⟩
  obtain ⟨e,y⟩:=y
  subst e
  exact hs i x σ _ (y xs hq) q
 ·have e:i=xs.length:=by omega
  subst e
  exact .inl ⟨⟨xs,hq,Nat.le_refl _⟩,hd σ H q⟩
theorem lc_tup {K:PySem.W.Frag} {a:Addr} {xs:List V} {g:TG} {tc:TT} {te:TE} {Kf:Hp→Prop} {σ0:St} {H0:Hp} {p:Addr} (Pv:Nat→St→Hp→Prop) (h0:Pv 0 σ0 H0) (hl:∀ i σ H,i≤xs.length→Pv i σ H→SqT K H a xs)
  (hs:∀ i x σ H,xs[i]?=some x→Pv i σ H→g x σ H fun σ2 H2=>tc σ2 H2 fun b H3=>if b=true then te σ2 H3 fun y H4=>∃ ys,H4 p=some (.lst ys)∧ys.length<sizeLine∧Pv (i+1) σ2 (upd H4 p (.lst (ys++[y]))) else Pv (i+1) σ2 H3)
  (hd:∀ σ H,Pv xs.length σ H→Kf H) :
  ∃ W:Nat→Nat→St→Hp→Prop,(∃ m,W 0 m σ0 H0)∧∀ i m σ H,W i m σ H→
   ((Itt K a).stop i H∧Kf H)∨((Itt K a).go i H∧∃ N:St→Hp→Prop,(∀ σ' H',N σ' H'→∃ m',m'<m∧W (i+1) m' σ' H')∧∀ x H',(Itt K a).yld i H x H'→g x σ H' fun σ2 H2=>tc σ2 H2 fun b H3=>
    if b=true then te σ2 H3 fun y H4=>∃ ys,H4 p=some (.lst ys)∧ys.length<sizeLine∧N σ2 (upd H4 p (.lst (ys++[y]))) else N σ2 H3):=by
 refine ⟨fun i m σ H=>m=xs.length - i∧i≤xs.length∧Pv i σ H,⟨xs.length,by simp,Nat.zero_le _,h0⟩,?_⟩
 rintro i m σ H ⟨rfl,hi,q⟩
 have hq:=hl i σ H hi q
 by_cases hlt:i<xs.length
 ·refine .inr ⟨⟨xs,xs[i],hq,by simp [hlt]⟩,Pv (i+1),fun σ' H' p'=>⟨xs.length - (i+1),by omega,rfl,hlt,p'⟩,fun x H' y=>?_⟩
  obtain ⟨e,y⟩:=y
  subst e
  exact hs i x σ _ (y xs hq) q
 ·have e:i=xs.length:=by omega
  subst e
  exact .inl ⟨⟨xs,hq,Nat.le_refl _⟩,hd σ H q⟩
def lcCheck (scope:Scope) (own:List Str) (fv:List Nat) (osc:Scope) (N:List Str):Bool:=
 decide (scope.kind=.function) && scope.names.all (fun y=>decide (y.2 ≠ .cell)) && scope.names.all (fun y=>decide (y.2 ≠ .local) || decide (scope.names.lookup y.1=some .local)) &&
 scope.names.all (fun y=>decide (y.2 ≠ .free) || (decide (osc.names.lookup y.1=some .cell) || decide (osc.names.lookup y.1=some .free))) && decide ((own++fv.map fun i=>N.getD i Str.empty).Nodup) &&
 fv.all fun i=>decide (i<N.length) && decide (scope.names.lookup (N.getD i Str.empty)=some .free)
theorem lcs {X:Cx} {scope:Scope} {own:List Str} {fv:List Nat} (h:lcCheck scope own fv X.env.scope X.N=true):LcScope X scope own fv:=by
 unfold lcCheck at h
 simp only [Bool.and_eq_true,decide_eq_true_eq,List.all_eq_true,Bool.or_eq_true] at h
 obtain ⟨⟨⟨⟨⟨h1,h2⟩,h3⟩,h4⟩,h5⟩,h6⟩:=h
 exact ⟨h1,h2,fun y hy e=>(h3 y hy).resolve_left fun z=>z e,fun y hy e=>(h4 y hy).resolve_left fun z=>z e,h5,h6⟩
theorem nd_of {N:List Str} (h:decide N.Nodup=true):N.Nodup:=of_decide_eq_true h
theorem pg_tupK {X:Cx} {K:PySem.W.Frag} {es:List Expr} {k n:Nat} {t:TGs} {pos:Pos} (hK:X.K=K) (hc:X.calm=true) (h:PGs X es t) (hn:(assignEach es X.env).length=n) (hst:(assignEach es X.env).findIdx? (·.1)=none):PG X (.Tuple es k pos) (gTup K n t):=by
 subst hK hn
 exact pg_tup hc h rfl hst
theorem pi_tupK {X:Cx} {K:PySem.W.Frag} {tg l:Expr} {tl:TE} (hK:X.K=K) (hl:PE X l tl):PI X tg l (iTup K tl):=by subst hK;exact pi_tup hl
theorem pi_listK {X:Cx} {K:PySem.W.Frag} {tg l:Expr} {tl:TE} (hK:X.K=K) (hl:PE X l tl):PI X tg l (iList K tl):=by subst hK;exact pi_list hl
theorem ix_tupK {X:Cx} {K:PySem.W.Frag} (hK:X.K=K):IxR X (rIxT K):=by subst hK;exact ix_tup
theorem ix_listK {X:Cx} {K:PySem.W.Frag} (hK:X.K=K):IxR X (rIxL K):=by subst hK;exact ix_list
theorem op_inK {X:Cx} {K:PySem.W.Frag} (hK:X.K=K):OpR X (compareOp .In) (rIn K false):=by subst hK;exact op_in_seq
theorem op_notInK {X:Cx} {K:PySem.W.Frag} (hK:X.K=K):OpR X (compareOp .NotIn) (rIn K true):=by subst hK;exact op_notIn_seq
theorem call_lenK {X:Cx} {K:PySem.W.Frag} (hK:X.K=K):CallR X (.builtin "len") (fun xs H Q=>∃ p ys,xs=[.ref p]∧(SqL K H p ys∨SqT K H p ys)∧Q (.int ys.length) H):=by subst hK;exact call_len_seq
theorem call_tupleK {X:Cx} {K:PySem.W.Frag} (hK:X.K=K):CallR X (.type "tuple") (fun xs H Q=>∃ p ys,xs=[.ref p]∧((SqL K H p ys∧∀ l,H l=none→Q (.ref l) (upd H l (.tup ys)))∨(SqT K H p ys∧Q (.ref p) H))):=by subst hK;exact call_tuple_of
end L2
namespace L2
open PySem PySem.Spec PyProof.Rows
theorem below_go {xs:Array Nat} {j:Nat} (up:∀ a b,a<b→b<xs.size→xs.getD a j<xs.getD b j):∀ (fuel lo hi:Nat),lo≤hi→hi≤xs.size→hi - lo≤fuel→(∀ i,i<lo→xs.getD i j<j)→(∀ i,hi≤i→i<xs.size→j≤xs.getD i j)→
  SetTable.below.go xs j fuel lo hi≤xs.size∧(∀ i,i<SetTable.below.go xs j fuel lo hi→xs.getD i j<j)∧(∀ i,SetTable.below.go xs j fuel lo hi≤i→i<xs.size→j≤xs.getD i j)
 | 0,lo,hi,h1,h2,h3,a,b=>by
  have e:lo=hi:=by omega
  subst e
  exact ⟨h2,a,b⟩
 | fuel+1,lo,hi,h1,h2,h3,a,b=>by
  unfold SetTable.below.go
  by_cases hlt:lo<hi
  ·rw [if_pos hlt]
   dsimp only
   have hm1:lo≤(lo+hi) / 2:=by omega
   have hm2:(lo+hi) / 2<hi:=by omega
   by_cases hc:xs.getD ((lo+hi) / 2) j<j
   ·rw [if_pos hc]
    refine below_go up fuel _ _ (by omega) h2 (by omega) (fun i hi'=>?_) b
    by_cases e:i=(lo+hi) / 2
    ·rw [e];exact hc
    ·exact Nat.lt_trans (up i ((lo+hi) / 2) (by omega) (by omega)) hc
   ·rw [if_neg hc]
    refine below_go up fuel _ _ (by omega) (by omega) (by omega) a (fun i hi' hs=>?_)
    by_cases e:i=(lo+hi) / 2
    ·rw [e];omega
    ·have:=up ((lo+hi) / 2) i (by omega) hs
     omega
  ·rw [if_neg hlt]
   have e:lo=hi:=by omega
   subst e
   exact ⟨h2,a,b⟩
theorem up_of {xs:Array Nat} (j:Nat) (h:xs.toList.Pairwise (·<·)):∀ a b,a<b→b<xs.size→xs.getD a j<xs.getD b j:=fun a b hab hb=>by
 have:=List.pairwise_iff_getElem.mp h a b (by simpa using Nat.lt_trans hab hb) (by simpa using hb) hab
 rw [Array.getD_eq_getD_getElem?,Array.getD_eq_getD_getElem?,Array.getElem?_eq_getElem (Nat.lt_trans hab hb),Array.getElem?_eq_getElem hb]
 simpa using this
theorem below_spec {xs:Array Nat} {j:Nat} (h:xs.toList.Pairwise (·<·)):SetTable.below xs j≤xs.size∧(∀ i,i<SetTable.below xs j→xs.getD i j<j)∧(∀ i,SetTable.below xs j≤i→i<xs.size→j≤xs.getD i j):=by
 unfold SetTable.below
 exact below_go (up_of j h) xs.size 0 xs.size (Nat.zero_le _) (Nat.le_refl _) (by omega) (fun i hi=>absurd hi (by omega)) (fun i hi hs=>absurd hs (by omega))
theorem insertAt_toList {α:Type} (xs:Array α) (p:Nat) (x:α):(SetTable.insertAt xs p x).toList=xs.toList.take p++x::xs.toList.drop p:=by
 unfold SetTable.insertAt
 simp [Array.toList_extract,List.take_of_length_le]
structure T7 (byText:Bool) (t:SetTable) (n:Nat):Prop where
 mask:t.mask=7
 dum:t.dummies=#[]
 plain:t.plain=true
 led:t.led=!byText
 size:t.place.size=n
 up:t.place.toList.Pairwise (·<·)
 le:∀ j ∈ t.place.toList,j≤7
section
variable {byText:Bool} {t:SetTable} {n:Nat}
theorem T7.slot (T:T7 byText t n) (j:Nat):(t.slot j=.empty∧j ∉ t.place.toList)∨(∃ i,t.slot j=.live i∧j ∈ t.place.toList):=by
 unfold SetTable.slot
 dsimp only
 have hd:SetTable.has t.dummies j=false:=by rw [T.dum];rfl
 obtain ⟨b1,b2,b3⟩:=below_spec (j:=j) T.up
 by_cases hc:t.place[SetTable.below t.place j]?=some j
 ·rw [if_pos (by rw [hc];simp)]
  exact .inr ⟨_,rfl,by rw [← Array.mem_def];exact Array.mem_of_getElem? hc⟩
 ·rw [if_neg (by simpa using hc),hd,if_neg (by simp)]
  refine .inl ⟨rfl,fun hm=>?_⟩
  obtain ⟨i,hi,he⟩:=List.mem_iff_getElem.mp hm
  have hi':i<t.place.size:=by simpa using hi
  have he':t.place.getD i j=j:=by
   rw [Array.getD_eq_getD_getElem?,Array.getElem?_eq_getElem hi']
   simpa using he
  have h1:¬ i<SetTable.below t.place j:=fun z=>by have:=b2 i z;omega
  have h2:SetTable.below t.place j=i:=by
   apply Nat.le_antisymm (Nat.le_of_not_lt h1)
   apply Nat.le_of_not_lt
   intro z
   have:=b3 (SetTable.below t.place j) (Nat.le_refl _) (by omega)
   have:=up_of j T.up _ _ z hi'
   omega
  apply hc
  rw [h2,Array.getElem?_eq_getElem hi']
  simpa using he
def pr (i pt:Nat):SetTable.Probe:={ j:=i,more:=0,i:=i,perturb:=pt,dummy:=none }
theorem T7.adv (T:T7 byText t n) (i pt:Nat):t.advance (pr i pt)=pr ((i * 5+1+pt / 32) % 8) (pt / 32):=by
 unfold SetTable.advance pr SetTable.leap SetTable.runEnd
 rw [T.mask]
 dsimp only
 rw [if_neg (by omega),if_neg (by omega),Nat.sub_self]
theorem T7.go1 (T:T7 byText t n) (h:Int) (f i pt:Nat) :
  (SetTable.probe.go t (fun _=>h+1) h (f+1) (pr i pt)=some (.empty i none)∧i ∉ t.place.toList)∨
  (SetTable.probe.go t (fun _=>h+1) h (f+1) (pr i pt)=SetTable.probe.go t (fun _=>h+1) h f (pr ((i * 5+1+pt / 32) % 8) (pt / 32))∧i ∈ t.place.toList):=by
 rcases T.slot i with ⟨e,m⟩ | ⟨k,e,m⟩
 ·left
  refine ⟨?_,m⟩
  unfold SetTable.probe.go
  rw [show (pr i pt).j=i from rfl,e]
  rfl
 ·right
  refine ⟨?_,m⟩
  rw [SetTable.probe.go]
  rw [show (pr i pt).j=i from rfl,e]
  dsimp only
  rw [if_neg (by simp;omega),T.adv]
def F8 (i:Nat):Nat:=(i * 5+1) % 8
def F8n:Nat→Nat→Nat
 | 0,i=>i
 | m+1,i=>F8n m (F8 i)
theorem T7.go0 (T:T7 byText t n) (h:Int) (f:Nat):∀ (m i:Nat),(∃ j,SetTable.probe.go t (fun _=>h+1) h (m+f) (pr i 0)=some (.empty j none)∧j ∉ t.place.toList∧∃ q,q<m∧j=F8n q i)∨(∀ q,q<m→F8n q i ∈ t.place.toList)
 | 0,i=>.inr fun q hq=>absurd hq (by omega)
 | m+1,i=>by
  rcases T.go1 h (m+f) i 0 with ⟨e,z⟩ | ⟨e,z⟩
  ·exact .inl ⟨i,by rw [show m+1+f=m+f+1 by omega];exact e,z,0,by omega,rfl⟩
  ·rw [show m+1+f=m+f+1 by omega,e]
   have e2:(i * 5+1+0 / 32) % 8=F8 i:=by unfold F8;omega
   rw [e2]
   rcases T.go0 h f m (F8 i) with ⟨j,e3,z3,q,hq,e4⟩ | e3
   ·exact .inl ⟨j,e3,z3,q+1,by omega,e4⟩
   ·refine .inr fun q hq=>?_
    cases q with
    | zero=>exact z
    | succ q=>exact e3 q (by omega)
theorem F8_all:∀ i:_root_.Fin 8,∀ j:_root_.Fin 8,∃ q:_root_.Fin 8,F8n q.1 i.1=j.1:=by decide
theorem F8_lt:∀ (q i:Nat),i<8→F8n q i<8
 | 0,i,h=>h
 | q+1,i,h=>F8_lt q (F8 i) (Nat.mod_lt _ (by decide))
theorem T7.goK (T:T7 byText t n) (hn:n≤7) (h:Int) (f:Nat):∀ (k i pt:Nat),i<8→pt<32 ^ k→∃ j,SetTable.probe.go t (fun _=>h+1) h (k+(8+f)) (pr i pt)=some (.empty j none)∧j ∉ t.place.toList∧j≤7
 | 0,i,pt,hi,hp=>by
  have e:pt=0:=by omega
  subst e
  rw [Nat.zero_add]
  rcases T.go0 h f 8 i with ⟨j,e,z,q,hq,e2⟩ | e
  ·exact ⟨j,e,z,by have:=F8_lt q i hi;omega⟩
  ·exfalso
   have sub:[0,1,2,3,4,5,6,7] ⊆ t.place.toList:=fun j hj=>by
    have hj8:j<8:=by
     simp at hj
     omega
    obtain ⟨q,hq⟩:=F8_all ⟨i,hi⟩ ⟨j,hj8⟩
    rw [← show F8n q.1 i=j from hq]
    exact e q.1 q.2
   have:=List.Nodup.length_le_of_subset (by decide:[0,1,2,3,4,5,6,7].Nodup) sub
   have hs:=T.size
   simp at this
   omega
 | k+1,i,pt,hi,hp=>by
  rw [show k+1+(8+f)=k+(8+f)+1 by omega]
  rcases T.go1 h (k+(8+f)) i pt with ⟨e,z⟩ | ⟨e,z⟩
  ·exact ⟨i,e,z,by omega⟩
  ·rw [e]
   refine T.goK hn h f k _ _ (Nat.mod_lt _ (by decide)) ?_
   rw [Nat.pow_succ] at hp
   omega
theorem T7.free (T:T7 byText t n) (hn:n≤7) (h:Int):∃ j,t.freeSlot h=some (j,false)∧j ∉ t.place.toList∧j≤7:=by
 have hb:SetTable.bits h<32 ^ 13:=by
  unfold SetTable.bits
  have h1:0≤h % (2 ^ 64:Int):=Int.emod_nonneg _ (by decide)
  have h2:h % (2 ^ 64:Int)<2 ^ 64:=Int.emod_lt_of_pos _ (by decide)
  have:((2:Int) ^ 64)=18446744073709551616:=by decide
  rw [this] at h1 h2 ⊢
  have h3:(32:Nat) ^ 13=36893488147419103232:=by decide
  omega
 obtain ⟨j,e,z,l⟩:=T.goK hn h 199 13 (SetTable.bits h % 8) (SetTable.bits h) (Nat.mod_lt _ (by decide)) hb
 refine ⟨j,?_,z,l⟩
 have hst:t.probeStart h=pr (SetTable.bits h % 8) (SetTable.bits h):=by
  unfold SetTable.probeStart pr SetTable.runEnd
  rw [T.mask]
  dsimp only
  rw [if_neg (by omega),Nat.sub_self]
 unfold SetTable.freeSlot SetTable.probe
 rw [hst,show 10 * SetTable.turns t.mask=13+(8+199) by rw [T.mask];rfl,e]
 rfl
theorem T7.lay (T:T7 byText t n) (hn:n≤3) {es:Array (Int × Value)} (he:es.size=n) (h:Int) (x:Value) :
  ∃ p t',layNew t es h x=(SetTable.insertAt es p (h,x),t',false,false)∧T7 byText t' (n+1)∧t'.tooFull=false∧p≤es.size:=by
 obtain ⟨j,e,z,l⟩:=T.free (by omega) h
 obtain ⟨b1,b2,b3⟩:=below_spec (j:=j) T.up
 have hd:SetTable.has t.dummies j=false:=by rw [T.dum];rfl
 have tl:(SetTable.insertAt t.place (SetTable.below t.place j) j).toList=t.place.toList.take (SetTable.below t.place j)++j::t.place.toList.drop (SetTable.below t.place j):=insertAt_toList _ _ _
 have sz:(SetTable.insertAt t.place (SetTable.below t.place j) j).size=n+1:=by
  rw [← Array.length_toList,tl,List.length_append,List.length_cons,List.length_take,List.length_drop,Array.length_toList,T.size]
  rw [T.size] at b1
  omega
 have T':T7 byText { t with place:=SetTable.insertAt t.place (SetTable.below t.place j) j,dummies:=t.dummies } (n+1):=by
  refine ⟨T.mask,T.dum,T.plain,T.led,sz,?_,?_⟩
  ·show (SetTable.insertAt t.place (SetTable.below t.place j) j).toList.Pairwise (·<·)
   rw [tl]
   have geti:∀ i,i<t.place.size→t.place.getD i j=t.place.toList.getD i j:=fun i hi=>by
    rw [Array.getD_eq_getD_getElem?,List.getD_eq_getElem?_getD,Array.getElem?_toList]
   have lo:∀ a ∈ t.place.toList.take (SetTable.below t.place j),a<j:=fun a ha=>by
    obtain ⟨i,hi,hai⟩:=List.mem_iff_getElem.mp ha
    rw [List.length_take,Array.length_toList] at hi
    have hi1:i<SetTable.below t.place j:=by omega
    have hi2:i<t.place.size:=by omega
    have:=b2 i hi1
    rw [Array.getD_eq_getD_getElem?,Array.getElem?_eq_getElem hi2] at this
    rw [List.getElem_take] at hai
    rw [← hai]
    simpa using this
   have hi:∀ a ∈ t.place.toList.drop (SetTable.below t.place j),j<a:=fun a ha=>by
    have hm:a ∈ t.place.toList:=List.mem_of_mem_drop ha
    obtain ⟨i,hi,hai⟩:=List.mem_iff_getElem.mp ha
    rw [List.length_drop,Array.length_toList] at hi
    have hi2:SetTable.below t.place j+i<t.place.size:=by omega
    have:=b3 _ (Nat.le_add_right _ i) hi2
    rw [Array.getD_eq_getD_getElem?,Array.getElem?_eq_getElem hi2] at this
    rw [List.getElem_drop] at hai
    have h3:j≤a:=by
     rw [← hai]
     simpa using this
    rcases Nat.lt_or_eq_of_le h3 with h4 | h4
    ·exact h4
    ·exact absurd (h4 ▸ hm) z
   refine List.pairwise_append.mpr ⟨T.up.sublist (List.take_sublist _ _),List.pairwise_cons.mpr ⟨hi,T.up.sublist (List.drop_sublist _ _)⟩,fun a ha b hb=>?_⟩
   rcases List.mem_cons.mp hb with e | hb
   ·rw [e];exact lo a ha
   ·exact Nat.lt_trans (lo a ha) (hi b hb)
  ·show ∀ i ∈ (SetTable.insertAt t.place (SetTable.below t.place j) j).toList,i≤7
   rw [tl]
   intro i hi
   rcases List.mem_append.mp hi with hi | hi
   ·exact T.le i (List.mem_of_mem_take hi)
   ·rcases List.mem_cons.mp hi with e | hi
    ·omega
    ·exact T.le i (List.mem_of_mem_drop hi)
 have fits:SetTable.fits { t with place:=SetTable.insertAt t.place (SetTable.below t.place j) j,dummies:=t.dummies } (n+1)=true:=by
  unfold SetTable.fits SetTable.fill
  dsimp only
  rw [sz,T.dum,T.mask]
  have:((#[]:Array Nat)).size=0:=rfl
  simp only [this,beq_self_eq_true,Bool.true_and,decide_eq_true_eq]
  omega
 have szE:(SetTable.insertAt es (SetTable.below t.place j) (h,x)).size=n+1:=by
  rw [← Array.length_toList,insertAt_toList,List.length_append,List.length_cons,List.length_take,List.length_drop,Array.length_toList]
  rw [T.size] at b1
  omega
 refine ⟨SetTable.below t.place j,{ t with place:=SetTable.insertAt t.place (SetTable.below t.place j) j,dummies:=t.dummies },?_,T',?_,by rw [he,← T.size];exact b1⟩
 ·unfold layNew
  rw [e]
  dsimp only
  unfold SetTable.put
  rw [hd]
  dsimp only
  rw [szE]
  unfold SetTable.orStandIn
  simp only [Bool.false_eq_true,if_false]
  rw [fits]
  simp
 ·unfold SetTable.tooFull SetTable.fill
  dsimp only
  rw [sz,T.dum,T.mask]
  have:((#[]:Array Nat)).size=0:=rfl
  rw [this]
  exact decide_eq_false (by omega)
end
end L2
namespace L2
open PySem PySem.Spec PyProof.Rows
theorem erase_perm {α:Type}:∀ (l:List α) (i:Nat) (h:i<l.length),(l[i]::l.eraseIdx i).Perm l
 | [],i,h=>absurd h (by simp)
 | a::r,0,h=>.refl _
 | a::r,i+1,h=>by
  have hi:i<r.length:=by simpa using h
  have ih:=erase_perm r i hi
  show (r[i]::a::r.eraseIdx i).Perm (a::r)
  exact (List.Perm.swap _ _ _).trans (ih.cons a)
theorem pick_go {α:Type} (next:Nat→Nat):∀ (fuel k:Nat) (left:List α) (out:Array α),fuel=left.length→(pickOrder.go next fuel k left out).toList.Perm (out.toList++left)
 | 0,k,left,out,h=>by
  have:left=[]:=List.length_eq_zero_iff.mp h.symm
  subst this
  unfold pickOrder.go
  simp
 | fuel+1,k,left,out,h=>by
  have hl:0<left.length:=by omega
  have hm:next k % left.length<left.length:=Nat.mod_lt _ hl
  unfold pickOrder.go
  rw [List.getElem?_eq_getElem hm]
  dsimp only
  refine (pick_go next fuel (k+1) _ _ (by rw [List.length_eraseIdx_of_lt hm];omega)).trans ?_
  rw [Array.toList_push,List.append_assoc]
  exact List.Perm.append_left _ (erase_perm left _ hm)
theorem pick_perm {α:Type} (next:Nat→Nat) (xs:Array α):(pickOrder next xs).toList.Perm xs.toList:=by
 unfold pickOrder
 have:=pick_go next xs.size 0 xs.toList #[] (by simp)
 simpa using this
abbrev Ents:List Int→List (Int × Value)→Prop:=Paired fun k e=>∃ tk,e=(hashInt k,Value.int k tk)
theorem Ents.perm:∀ {es es':List (Int × Value)} {ks:List Int},Ents ks es→es'.Perm es→∃ ks',Ents ks' es'∧ks'.Perm ks:=by
 intro es es' ks h p
 have key:∀ {a b:List (Int × Value)},a.Perm b→∀ ks,Ents ks b→∃ ks',Ents ks' a∧ks'.Perm ks:=by
  intro a b p
  induction p with
  | nil=>intro ks h;exact ⟨ks,h,.refl _⟩
  | cons x p ih=>
   intro ks h
   cases h with
   | cons r t=>
    obtain ⟨ks',h1,h2⟩:=ih _ t
    exact ⟨_::ks',.cons r h1,h2.cons _⟩
  | swap x y l=>
   intro ks h
   cases h with
   | cons r t=>
    cases t with
    | cons r' t'=>exact ⟨_,.cons r' (.cons r t'),.swap _ _ _⟩
  | trans p q ih1 ih2=>
   intro ks h
   obtain ⟨k1,h1,h2⟩:=ih2 ks h
   obtain ⟨k2,h3,h4⟩:=ih1 k1 h1
   exact ⟨k2,h3,h4.trans h2⟩
 exact key p ks h
theorem Ents.elems {prog:Program} {w:World} {es:List (Int × Value)} {ks:List Int} (h:Ents ks es):ElemsOf (intKind prog w) es:=by
 intro e he
 have key:∀ {ks:List Int} {es:List (Int × Value)},Ents ks es→∀ e ∈ es,∃ k tk,e=(hashInt k,Value.int k tk):=by
  intro ks es h
  induction h with
  | nil=>intro e he;cases he
  | cons r t ih=>
   intro e he
   rcases List.mem_cons.mp he with z | z
   ·subst z;obtain ⟨tk,e⟩:=r;exact ⟨_,tk,e⟩
   ·exact ih e z
 obtain ⟨k,tk,rfl⟩:=key h e he
 exact ⟨⟨k,by simp [intKind,Value.isInt],rfl⟩,rfl⟩
theorem Ents.find {prog:Program} {w:World} {k:Int}:∀ {es:List (Int × Value)} {ks:List Int},Ents ks es→((List.findIdx? (fun e=>(intKind prog w).is k e.2) es).isSome=true ↔ k ∈ ks)
 | _,_,.nil=>by simp
 | _,_,.cons r t=>by
  obtain ⟨tk,rfl⟩:=r
  rename_i k' ks' es'
  have ih:=Ents.find (prog:=prog) (w:=w) (k:=k) t
  rw [List.findIdx?_cons,List.mem_cons]
  have hi:(intKind prog w).is k (Value.int k' tk)=decide (k=k'):=by
   by_cases e:k=k'
   ·simp [intKind,Value.isInt,e]
   ·have e':¬ k'=k:=fun z=>e z.symm
    simp [intKind,Value.isInt,e,e']
  dsimp only
  rw [hi]
  by_cases e:k=k'
  ·simp [e]
  ·simp only [e,decide_false,Bool.false_eq_true,if_false,false_or,Option.isSome_map]
   exact ih
def byT (w:World):Bool:=w.params.followText "set-order"
def SetI (w:World) (a:Addr) (zs:List Int) (h:Heap):Prop:=
 ∃ (es:Array (Int × Value)) (ep:Nat) (t:SetTable) (ks:List Int),h.get? a=some { cls:=.type "set",data:=.set es ep t }∧T7 (byT w) t es.size∧Ents ks es.toList∧ks.Perm zs∧zs.Nodup∧zs.length≤4
theorem SetI.at {w:World} {a:Addr} {zs:List Int} {h h':Heap} (x:SetI w a zs h) (k:∀ o,h.get? a=some o→h'.get? a=some o):SetI w a zs h':=
 let ⟨es,ep,t,ks,h1,r⟩:=x;⟨es,ep,t,ks,k _ h1,r⟩
theorem T7.fits {b:Bool} {t:SetTable} {n:Nat} (T:T7 b t n) (hn:n≤7):t.fits n=true:=by
 unfold SetTable.fits SetTable.fill
 rw [T.size,T.dum,T.mask]
 have:((#[]:Array Nat)).size=0:=rfl
 simp only [this,beq_self_eq_true,Bool.true_and,decide_eq_true_eq]
 omega
def addI (zs:List Int) (k:Int):List Int:=if k ∈ zs then zs else zs++[k]
section
variable {prog:Program} {w:World} {A:Around} {E:Value→Shared→Prop} {s:Shared}
theorem SetI.size {a:Addr} {zs:List Int} {h:Heap} {es:Array (Int × Value)} {ks:List Int} (he:Ents ks es.toList) (hp:ks.Perm zs):es.size=zs.length:=by
 rw [← hp.length_eq,Paired.length he,Array.length_toList]
theorem setAdd_I {a:Addr} {zs:List Int} {k:Int} {tk:Tok} {Q:Bool→Shared→Prop} (hS:SetI w a zs s.heap) (hroom:zs.length≤3∨k ∈ zs)
  (h:∀ h',Heap.SameBut a s.heap h'→SetI w a (addI zs k) h'→∀ b,Q b { s with heap:=h' }):wpAny (model prog w) A (setAddHashed a (.int k tk) (hashInt k)) Q E s:=by
 obtain ⟨es,ep,t,ks,ho,T,he,hp,hnd,hlen⟩:=id hS
 have hsz:es.size=zs.length:=SetI.size (a:=a) (h:=s.heap) he hp
 have hel:ElemsOf (intKind prog w) es.toList:=he.elems
 have hb:es.size<scanBound:=by rw [hsz];unfold scanBound;omega
 have hf:t.fits es.size=true:=T.fits (by omega)
 unfold setAddHashed setAddHashedIn
 refine wpAny_holding (wpAny_bind (wpAny_setState_of ho rfl hf ?_))
 dsimp only
 rw [byScan_of (knd:=intKind prog w) (x:=.int k tk) rfl hb hel]
 simp only [↓reduceIte]
 unfold setAddByScan
 refine wpAny_bind ?_
 refine wpAny_bind (wpAny_rule ?_)
 refine wpAny_bind (wpAny_setScan_of (knd:=intKind prog w) (k:=k) (intKind_is _ _ _ _) ho rfl hf hel ?_)
 have hfd:=Ents.find (prog:=prog) (w:=w) (k:=k) he
 cases hr:List.findIdx? (fun e=>(intKind prog w).is k e.2) es.toList with
 | some j=>
  dsimp only
  rw [hr] at hfd
  have hk:k ∈ zs:=hp.mem_iff.mp (hfd.mp rfl)
  refine wpAny_pure (wpAny_pure ?_)
  have e:s={ s with heap:=s.heap }:=by cases s;rfl
  rw [e]
  refine h s.heap (Heap.SameBut.refl a s.heap) ?_ _
  unfold addI
  rw [if_pos hk]
  exact hS
 | none=>
  dsimp only
  rw [hr] at hfd
  have hk:¬ k ∈ zs:=fun z=>by have:=hfd.mpr (hp.mem_iff.mpr z);cases this
  have h3:zs.length≤3:=hroom.resolve_right hk
  obtain ⟨p,t',e1,T',tf,hpe⟩:=T.lay (by omega) rfl (hashInt k) (.int k tk)
  rw [e1]
  dsimp only
  refine wpAny_bind (wpAny_pure ?_)
  rw [T'.plain]
  simp only [↓reduceIte]
  rw [hashByValue_scannable 8 (x:=.int k tk) rfl]
  refine wpAny_bind (wpAny_pure ?_)
  have hszE:(SetTable.insertAt es p (hashInt k,Value.int k tk)).size=es.size+1:=by
   rw [← Array.length_toList,insertAt_toList,List.length_append,List.length_cons,List.length_take,List.length_drop,Array.length_toList]
   omega
  rw [show plainKind (Value.int k tk)=true from rfl]
  simp only [↓reduceIte]
  show wpAny _ _ (storeSet a (SetTable.insertAt es p (hashInt k,.int k tk)) t' >>= _) _ _ _
  refine wpAny_bind (wpAny_storeSet_of ho rfl ?_ (by rw [hszE,hsz,sizeLine_eq];omega))
  rw [tf]
  simp only [Bool.and_false,Bool.false_eq_true,↓reduceIte]
  refine wpAny_pure (wpAny_pure ?_)
  refine h _ (Heap.SameBut.update s.heap a _) ?_ _
  have hg:(s.heap.update a (Obj.putSet (SetTable.insertAt es p (hashInt k,.int k tk)) t')).get? a=some { cls:=.type "set",data:=.set (SetTable.insertAt es p (hashInt k,.int k tk)) (ep+1) t' }:=by
   have:=Heap.get?_update_self (Obj.putSet (SetTable.insertAt es p (hashInt k,.int k tk)) t') ho (by rw [putSet_of _ _ (ep:=ep) (es:=es) (t:=t) rfl];rfl)
   rw [putSet_of _ _ (ep:=ep) (es:=es) (t:=t) rfl] at this
   exact this
  have hpm:(SetTable.insertAt es p (hashInt k,Value.int k tk)).toList.Perm (es.toList++[(hashInt k,.int k tk)]):=by
   rw [insertAt_toList]
   have e3:es.toList++[(hashInt k,Value.int k tk)]=es.toList.take p++(es.toList.drop p++[(hashInt k,Value.int k tk)]):=by
    rw [← List.append_assoc,List.take_append_drop]
   rw [e3]
   exact List.Perm.append_left _ (List.perm_append_singleton _ _).symm
  obtain ⟨ks',h4,h5⟩:=Ents.perm (ks:=ks++[k]) (Paired.snoc he ⟨tk,rfl⟩) hpm
  refine ⟨_,_,t',ks',hg,by rw [hszE];exact T',h4,?_,?_,?_⟩
  ·unfold addI
   rw [if_neg hk]
   exact h5.trans (hp.append_right _)
  ·unfold addI
   rw [if_neg hk]
   exact nd_snoc hnd hk
  ·unfold addI
   rw [if_neg hk,List.length_append,List.length_singleton]
   omega
end
def dedI:List Int→List Int:=fun l=>l.foldl addI []
theorem addI_len (zs:List Int) (k:Int):(addI zs k).length≤zs.length+1:=by
 unfold addI
 split <;> simp
theorem foldl_addI_len:∀ (l zs:List Int),(l.foldl addI zs).length≤zs.length+l.length
 | [],zs=>by simp
 | k::r,zs=>by
  have h1:=foldl_addI_len r (addI zs k)
  have h2:=addI_len zs k
  rw [List.foldl_cons,List.length_cons]
  omega
section
variable {prog:Program} {w:World} {A:Around} {R:Result→Shared→Prop} {I:Addr} {fp wr:List Addr} {G:Array GenState→Array GenState→Prop} {n:Nat} {P:Nat→Value→Prop} {St:Nat→Shared→Prop}
theorem set_update_I (W:WalksS prog w A.in1 I fp wr G n P St) (S:Addr) (hSf:S ∉ fp) (ns:List Int) (hnn:ns.length=n) (h4:n≤4) (hval:∀ i v,P i v→∃ t,v=.int (ns.getD i 0) t) :
  ∀ (k i:Nat) (s:Shared),n - i=k→i≤n→St i s→SetI w S (dedI (ns.take i)) s.heap→
   (∀ s',Moved (S::wr) G s s'→SetI w S (dedI ns) s'.heap→R (.ok (.ret .none)) s')→
   codeAny (model prog w) A (.builtin "set.update.loop" ⟨[.ref S,.ref I],[]⟩) R s:=by
 have hSw:S ∉ wr:=fun h=>hSf (W.sub _ h)
 have hsub:∀ b ∈ wr,b ∈ S::wr:=fun b hb=>List.mem_cons_of_mem _ hb
 intro k
 induction k with
 | zero=>
  intro i s hk hi hst hS hR
  have hin:i=n:=by omega
  subst hin
  refine codeAny_builtin F.entry_set_update_loop ?_
  rw [Around.under_plainId F.plain_set_update_loop _]
  show wpAny _ A.in1 (pyNext (.ref I) >>= _) _ _ s
  refine wpAny_bind (W.done s _ _ hst fun s' hm=>?_)
  show wpAny _ A.in1 (ret Value.none) _ _ s'
  rw [List.take_of_length_le (by omega)] at hS
  exact wpAny_pure (hR s' (hm.mono hsub) (hS.at fun o e=>hm.heap S _ hSw e))
 | succ k ih=>
  intro i s hk hi hst hS hR
  have hlt:i<n:=by omega
  refine codeAny_builtin F.entry_set_update_loop ?_
  rw [Around.under_plainId F.plain_set_update_loop _]
  show wpAny _ A.in1 (pyNext (.ref I) >>= _) _ _ s
  refine wpAny_bind (W.item i s _ _ hlt hst fun v s' hP hst' hm=>?_)
  obtain ⟨t,rfl⟩:=hval i v hP
  have hS':SetI w S (dedI (ns.take i)) s'.heap:=hS.at fun o e=>hm.heap S _ hSw e
  show wpAny _ A.in1 (holding [Value.int (ns.getD i 0) t] (setAdd S (.int (ns.getD i 0) t)) >>= _) _ _ s'
  refine wpAny_bind (wpAny_holding ?_)
  unfold setAdd
  refine wpAny_holding ?_
  refine wpAny_bind ((intKind prog w).pyHash (k:=ns.getD i 0) (intKind_is _ _ _ _) ?_)
  have hroom:(dedI (ns.take i)).length≤3:=by
   have:=foldl_addI_len (ns.take i) []
   rw [List.length_take] at this
   unfold dedI
   simp at this
   omega
  refine setAdd_I (s:={ s' with toks:=s'.toks+1 }) hS' (.inl hroom) fun h' hsb hS2 b=>?_
  have e2:addI (dedI (ns.take i)) (ns.getD i 0)=dedI (ns.take (i+1)):=by
   have hi':i<ns.length:=by omega
   rw [List.take_add_one,List.getElem?_eq_getElem hi',Option.toList_some]
   unfold dedI
   rw [List.foldl_append,List.foldl_cons,List.foldl_nil,List.getD_eq_getElem?_getD,List.getElem?_eq_getElem hi',Option.getD_some]
  rw [e2] at hS2
  refine wpAny_pure ⟨plainId_quiet F.plain_set_update_loop _,ih (i+1) _ (by omega) hlt (W.frame _ s' _ _ hst' (Nat.le_succ _) fun b hb o e=>?_) hS2 fun s'' hm'' hS''=>?_⟩
  ·rw [hsb.2 b (fun h:b=S=>hSf (by rw [← h];exact hb))];exact e
  ·refine hR s'' (Moved.trans W.gtrans ((hm.mono hsub).then_heap (Nat.le_succ _) fun b o hb e=>?_) hm'') hS''
   rw [hsb.2 b (fun h:b=S=>hb (by rw [h];exact List.mem_cons_self))];exact e
end
end L2
namespace L2
open PySem PySem.Spec PyProof.Rows
abbrev freshSet (w:World):Obj:={ cls:=.type "set",dict:=none,data:=.set #[] 0 (.fresh 0 0 (!byT w)) }
section
variable {prog:Program} {w:World} {A:Around} {E:Value→Shared→Prop} {s:Shared}
theorem set_new_I (a:Value) {Q₁:Value→Shared→Prop} (h:Q₁ (.ref s.heap.objs.size) { s with heap:=s.heap.push (freshSet w) }) :
  codeAny (model prog w) A (.call (.builtin "set.__new__") ⟨[.type "set",a],[]⟩) (wants Q₁ E) s:=by
 refine codeAny_of_tree ?_
 show wpAny _ A.in1 (do checkBuiltinCall "set.__new__" ⟨[.type "set",a],[]⟩;again (.builtin "set.__new__" ⟨[.type "set",a],[]⟩)) _ _ s
 refine wpAny_bind (wpAny_of_eq (F.newCall_set_1 a) (wpAny_pure ⟨plainId_quiet F.plain_set_new _,codeAny_builtin F.entry_set_new ?_⟩))
 rw [Around.under_plainId F.plain_set_new _]
 unfold Builtin.«set.__new__» Builtin.Frozenset.newClass
 have hsub:=sub_set_self
 obtain ⟨hp,g,d,tk,os⟩:=s
 dsimp only
 wp_walk
 refine wpAny_askSetting (wpAny_pure ?_)
 dsimp only
 simp only [newObj]
 refine wpAny_bind (wpAny_alloc (wpAny_pure ?_))
 exact wpAny_pure h
theorem SetI.fresh {a:Addr} {h:Heap} (e:h.get? a=some (freshSet w)):SetI w a [] h:=
 ⟨#[],0,_,[],e,⟨rfl,rfl,rfl,rfl,rfl,.nil,fun _ z=>nomatch z⟩,.nil,.refl _,.nil,Nat.zero_le _⟩
set_option maxHeartbeats 3200000 in
theorem call_set_I {l:Addr} {items:Array Value} {ns:List Int} {Q:Value→Shared→Prop} (hh:A.handled=none) (hl:s.heap.IsList l items) (hi:IntsAre items.toList ns) (h4:items.size≤4)
  (h:∀ (h':Heap) (tk:Nat),SetI w s.heap.objs.size (dedI ns) h'→(∀ b o,s.heap.get? b=some o→h'.get? b=some o)→Q (.ref s.heap.objs.size) { s with heap:=h',toks:=tk }) :
  wpAny (model prog w) A (call (.type "set") [.ref l]) Q E s:=by
 have hlen:ns.length=items.size:=by have:=IntsAre.length hi;simpa using this.symm
 obtain ⟨c,tl,hmro⟩:=F.called_set.mro
 have hmade:=F.called_set.made
 have hsub:=F.called_set.sub
 refine wpAny_call (codeAny_of_tree ?_)
 show wpAny _ _ (callAny (.type "set") _) _ _ _
 refine wpAny_pure ⟨Code.quiet_builtin _ (by decide +kernel),codeAny_builtin F.entry_type_call ?_⟩
 rw [Around.under_plain (weight_type_call_type "set" [.ref l] []) rfl]
 have h1:=F.called_set.notType
 have h2:=F.called_set.canCreate
 have hct:=F.typeCall_set_1 (.ref l)
 repeat (any_goals (first | assumption | wp_step))
 refine codeAny_mono (set_new_I (.ref l) (E:=E) (Q₁:=fun obj s₁=>obj=.ref s.heap.objs.size∧s₁={ s with heap:=s.heap.push (freshSet w) }) ⟨rfl,rfl⟩) fun r s₁ hr=>?_
 cases r with
 | error e=>exact hr
 | ok fl=>
  cases fl with
  | ret obj=>
   obtain ⟨rfl,rfl⟩:=hr
   have hS:(s.heap.push (freshSet w)).get? s.heap.objs.size=some (freshSet w):=Heap.get?_push_size _ rfl
   have hT:Shared.TypeIs { s with heap:=s.heap.push (freshSet w) } (.ref s.heap.objs.size) "set":=⟨_,hS,rfl⟩
   have hli:=F.called_set.init.lookup
   have hbi:=F.called_set.init.bind (.ref s.heap.objs.size)
   repeat (any_goals (first | assumption | wp_step))
   refine codeAny_mono (codeAny_call_builtin (R:=wants (fun r s₂=>r=.none∧∃ h' tk,s₂={ s with heap:=h',toks:=tk }∧SetI w s.heap.objs.size (dedI ns) h'∧
     (∀ b o,s.heap.get? b=some o→h'.get? b=some o)) E) F.called_set.init.plain F.entry_set_init (check_set_init_1 hT ?_)) fun r₂ s₂ hr₂=>?_
   ·obtain ⟨ol,hol,hcl,nl,hdl⟩:=hl
    obtain ⟨ocls,odict,odata,oslots⟩:=ol
    simp only at hcl hdl
    subst hcl;subst hdl
    have hol':(s.heap.push (freshSet w)).get? l=some { cls:=.type "list",dict:=odict,data:=.seq items nl,slots:=oslots }:=Heap.get?_push_of_some _ hol
    have hsls:=F.sub_list_set
    have hslf:=F.sub_list_frozenset
    have hne:(Value.type "list" == Value.type "dict")=false:=by decide
    have hl1:(s.heap.push (freshSet w)).IsList l items:=⟨_,hol',rfl,nl,rfl⟩
    unfold Builtin.«set.__init__» noKeywords Builtin.Frozenset.updateFrom
    generalize hPI:pyIter=PI
    wp_walk
    subst hPI
    refine wpAny_pyIter_list hl1 ?_
    refine wpAny_bind (wpAny_runValue ?_)
    have hlS:l<s.heap.objs.size:=Heap.lt_size hol
    have hh3:A.in1.in1.in1.handled=none:=by simp [hh]
    have hneI:l ≠ (s.heap.push (freshSet w)).objs.size:=by
     rw [Heap.size_push];exact Nat.ne_of_lt (Nat.lt_succ_of_lt hlS)
    have hSf:s.heap.objs.size ∉ [(s.heap.push (freshSet w)).objs.size,l]:=by
     rw [Heap.size_push];simp only [List.mem_cons,List.mem_singleton,List.not_mem_nil,or_false,not_or]
     exact ⟨Nat.ne_of_lt (Nat.lt_succ_self _),Nat.ne_of_gt hlS⟩
    have hval:∀ (i:Nat) (v:Value),items[i]?=some v→∃ t,v=.int (ns.getD i 0) t:=fun i v hv=>
     PyProof.Rows.IntsAre.int_at hi i v (by rw [Array.getElem?_toList];exact hv)
    refine set_update_I ((Walks.list hh3 _ l hneI items).toS) s.heap.objs.size hSf ns hlen h4 hval (items.size - 0) 0 _ (by omega) (Nat.zero_le _)
     ⟨⟨_,Heap.get?_push_size _ rfl,rfl,rfl⟩,(hl1.push _)⟩ ?hS0 ?hR
    case hS0=>exact SetI.fresh (Heap.get?_push_of_some _ hS)
    case hR=>
     intro s' hm hS'
     obtain ⟨h',g',d',tk',os'⟩:=s'
     have eg:g'=s.gens:=hm.gens
     have ed:d'=s.drawn:=hm.drawn
     have eo:os'=s.os:=hm.os
     subst eg;subst ed;subst eo
     show wpAny _ _ _ _ _ _
     refine wpAny_pure ?_
     show wpAny _ _ (ret Value.none) _ _ _
     refine wpAny_pure ⟨rfl,h',tk',rfl,hS',fun b o e=>?_⟩
     have hb:=Heap.lt_size e
     have hb1:b ≠ s.heap.objs.size:=Nat.ne_of_lt hb
     have hb2:b ≠ (s.heap.push (freshSet w)).objs.size:=by
      rw [Heap.size_push];exact Nat.ne_of_lt (Nat.lt_succ_of_lt hb)
     exact hm.heap b o (by simp only [List.mem_cons,List.mem_singleton,List.not_mem_nil,or_false,not_or];exact ⟨hb1,hb2⟩) (Heap.get?_push_of_some _ (Heap.get?_push_of_some _ e))
   ·cases r₂ with
    | error e=>exact hr₂
    | ok fl₂=>
     cases fl₂ with
     | ret r=>
      obtain ⟨rfl,h',tk,rfl,hS',hk'⟩:=hr₂
      repeat (any_goals (first | assumption | wp_step))
      exact h _ _ hS' hk'
     | next=>exact hr₂
     | brk=>exact hr₂
     | cont=>exact hr₂
  | next=>exact hr
  | brk=>exact hr
  | cont=>exact hr
end
end L2
namespace L2
open PySem PySem.Spec PyProof.Rows
theorem slot_si_next:Slot "set_iterator" "__next__" "set_iterator.__next__":=
 .of (owner:="set_iterator") (n:="__next__") (by rw [typeLookup_type,builtinLookup_eq_fast];kernel_rfl) (by decide +kernel) (by decide +kernel) (by decide +kernel)
  (by first | exact .inl (by decide +kernel) | exact .inr (by decide +kernel)) (by rw [isSubtype_type];kernel_rfl)
theorem slot_si_iter:Slot "set_iterator" "__iter__" "set_iterator.__iter__":=
 .of (owner:="set_iterator") (n:="__iter__") (by rw [typeLookup_type,builtinLookup_eq_fast];kernel_rfl) (by decide +kernel) (by decide +kernel) (by decide +kernel)
  (by first | exact .inl (by decide +kernel) | exact .inr (by decide +kernel)) (by rw [isSubtype_type];kernel_rfl)
theorem entry_si_next:entryFor table "set_iterator.__next__" = some Builtin.«set_iterator.__next__»:=entryFor_of_tree (by kernel_rfl)
theorem entry_si_iter:entryFor table "set_iterator.__iter__" = some Builtin.«dict_keyiterator.__iter__»:=
 entryFor_alias (id':="dict_keyiterator.__iter__") (by kernel_rfl) rfl (by decide +kernel) (by kernel_rfl)
theorem entry_set_iter:entryFor table "set.__iter__" = some Builtin.«frozenset.__iter__»:=
 entryFor_alias (id':="frozenset.__iter__") (by kernel_rfl) rfl (by decide +kernel) (by kernel_rfl)
theorem owner_si:Manifest.owners.lookup (String.ofList "set_iterator".toList.reverse.reverse)=some Manifest.sig_set_iterator:=by kernel_rfl
theorem args_si_next (a:Value):argsOk "set_iterator.__next__" ⟨[a],[]⟩:=by
 unfold argsOk;rw [signature?_of (id:="set_iterator.__next__") (n:="__next__".toList.reverse) (o:="set_iterator".toList.reverse) (by kernel_rfl) owner_si];kernel_rfl
theorem args_si_iter (a:Value):argsOk "set_iterator.__iter__" ⟨[a],[]⟩:=by
 unfold argsOk;rw [signature?_of (id:="set_iterator.__iter__") (n:="__iter__".toList.reverse) (o:="set_iterator".toList.reverse) (by kernel_rfl) owner_si];kernel_rfl
def walkOf (w:World) (a:Addr) (ep:Nat) (es:Array (Int × Value)):List (Int × Value):=if byT w=true then (pickOrder (w.params.setOrder a ep) es).toList else es.toList
def slotOf (w:World) (t:SetTable) (i:Nat):Nat:=if byT w=true then 0 else if i=0 then 0 else t.place.getD (i - 1) 0+1
theorem walk_perm (w:World) (a:Addr) (ep:Nat) (es:Array (Int × Value)):(walkOf w a ep es).Perm es.toList:=by
 unfold walkOf
 split
 ·exact pick_perm _ _
 ·exact .refl _
theorem T7.below_at {b:Bool} {t:SetTable} {n:Nat} (T:T7 b t n) (i:Nat) (hi:i≤n):SetTable.below t.place (if i=0 then 0 else t.place.getD (i - 1) 0+1)=i:=by
 obtain ⟨b1,b2,b3⟩:=below_spec (j:=if i=0 then 0 else t.place.getD (i - 1) 0+1) T.up
 have hs:=T.size
 have gd:∀ a c d,a<t.place.size→t.place.getD a c=t.place.getD a d:=fun a c d ha=>by
  rw [Array.getD_eq_getD_getElem?,Array.getD_eq_getD_getElem?,Array.getElem?_eq_getElem ha]
  rfl
 by_cases h0:i=0
 ·rw [if_pos h0] at b1 b2 b3 ⊢
  subst h0
  apply Nat.eq_zero_of_not_pos
  intro z
  have:=b2 0 z
  omega
 ·rw [if_neg h0] at b1 b2 b3 ⊢
  have h1:¬ SetTable.below t.place (t.place.getD (i - 1) 0+1)<i:=fun z=>by
   have:=b3 (i - 1) (by omega) (by omega)
   rw [gd (i - 1) (t.place.getD (i - 1) 0+1) 0 (by omega)] at this
   omega
  have h2:¬ i<SetTable.below t.place (t.place.getD (i - 1) 0+1):=fun z=>by
   have q:=b2 i z
   have:=up_of 0 T.up (i - 1) i (by omega) (by omega)
   rw [gd i (t.place.getD (i - 1) 0+1) 0 (by omega)] at q
   omega
  omega
def SetIt (w:World) (a I:Addr) (es:Array (Int × Value)) (ep:Nat) (t:SetTable) (i:Nat) (h:Heap):Prop:=
 (∃ o,h.get? I=some o∧o.cls=.type "set_iterator"∧o.data=.fields #[.int (slotOf w t i) 0,.int i 0,.ref a,.int es.size 0,.int ep 0])∧h.get? a=some { cls:=.type "set",data:=.set es ep t }
section
variable {prog:Program} {w:World} {A:Around} {E:Value→Shared→Prop} {s:Shared} {a I:Addr} {es:Array (Int × Value)} {ep:Nat} {t:SetTable} {i:Nat}
theorem SetIt.typeIs (x:SetIt w a I es ep t i s.heap):s.TypeIs (.ref I) "set_iterator":=let ⟨⟨o,h1,h2,_⟩,_⟩:=x;⟨o,h1,h2⟩
theorem setNext_I {Q:Option (Value × Nat)→Shared→Prop} (T:T7 (byT w) t es.size) (h8:es.size≤7) (ho:s.heap.get? a=some { cls:=.type "set",data:=.set es ep t }) (hi:i≤es.size)
  (h:Q (match (walkOf w a ep es)[i]? with | some e=>some (e.2,slotOf w t (i+1)) | none=>none) s):wpAny (model prog w) A (setNext a (slotOf w t i) i ep) Q E s:=by
 have hf:=T.fits h8
 unfold setNext
 refine wpAny_bind (wpAny_setState_of ho rfl hf ?_)
 dsimp only
 unfold setsByText
 refine wpAny_bind (wpAny_bind (wpAny_askSetting (wpAny_pure ?_)))
 show wpAny _ _ (if byT w=true then _ else _) _ _ _
 cases hb:byT w with
 | true=>
  rw [if_pos rfl]
  simp only [bne_self_eq_false,Bool.false_eq_true,if_false]
  refine wpAny_bind ?_
  unfold setWalk
  refine wpAny_bind (wpAny_setState_of ho rfl hf ?_)
  dsimp only
  unfold setsByText
  refine wpAny_bind (wpAny_bind (wpAny_askSetting (wpAny_pure ?_)))
  show wpAny _ _ (if byT w=true then _ else _) _ _ _
  rw [hb,if_pos rfl]
  refine wpAny_bind (wpAny_askSetting (wpAny_pure (wpAny_pure ?_)))
  have e:walkOf w a ep es=(pickOrder (w.params.setOrder a ep) es).toList:=by unfold walkOf;rw [if_pos hb]
  have e2:∀ j,slotOf w t j=0:=fun j=>by unfold slotOf;rw [if_pos hb]
  rw [e,Array.getElem?_toList,e2] at h
  rw [e2]
  show Q (Option.map _ (pickOrder (w.params.setOrder a ep) es)[i]?) s
  cases hx:(pickOrder (w.params.setOrder a ep) es)[i]? with
  | none=>rw [hx] at h;exact h
  | some v=>rw [hx] at h;exact h
 | false=>
  rw [if_neg (by simp)]
  show wpAny _ _ (if (!t.plain && decide (es.size > 1))=true then _ else _) _ _ _
  rw [T.plain]
  simp only [Bool.not_true,Bool.false_and,Bool.false_eq_true,if_false]
  refine wpAny_bind ?_
  show wpAny _ _ (if (!t.led && !es.isEmpty)=true then _ else _) _ _ _
  rw [T.led,hb]
  simp only [Bool.not_false,Bool.not_true,Bool.false_and,Bool.false_eq_true,if_false]
  refine wpAny_pure (wpAny_pure ?_)
  have e:walkOf w a ep es=es.toList:=by unfold walkOf;rw [if_neg (by rw [hb];simp)]
  have e2:∀ j,slotOf w t j=if j=0 then 0 else t.place.getD (j - 1) 0+1:=fun j=>by unfold slotOf;rw [if_neg (by rw [hb];simp)]
  rw [e,Array.getElem?_toList] at h
  rw [e2,T.below_at i hi]
  cases hx:es[i]? with
  | none=>rw [hx] at h;exact h
  | some v=>
   rw [hx] at h
   have hlt:i<t.place.size:=by rw [T.size];exact (Array.getElem?_eq_some_iff.mp hx).1
   rw [Array.getElem?_eq_getElem hlt]
   dsimp only at h ⊢
   have e3:slotOf w t (i+1)=t.place[i]+1:=by
    rw [e2,if_neg (by omega),Nat.add_sub_cancel,Array.getD_eq_getD_getElem?,Array.getElem?_eq_getElem hlt]
    rfl
   rw [e3] at h
   exact h
theorem si_next {Q:Option Value→Shared→Prop} (T:T7 (byT w) t es.size) (h8:es.size≤7) (hit:SetIt w a I es ep t i s.heap) (hne:a ≠ I) {e:Int × Value} (hx:(walkOf w a ep es)[i]?=some e)
  (hQ:∀ h',SetIt w a I es ep t (i+1) h'→(∀ b o,b ≠ I→s.heap.get? b=some o→h'.get? b=some o)→Q (some e.2) { s with heap:=h' }):wpAny (model prog w) A (pyNext (.ref I)) Q E s:=by
 obtain ⟨⟨o,ho,hc,hd⟩,hs⟩:=id hit
 have hi:i<es.size:=by
  have:=(List.getElem?_eq_some_iff.mp hx).1
  rw [(walk_perm w a ep es).length_eq,Array.length_toList] at this
  exact this
 unfold pyNext
 refine wpAny_bind (wpAny_attempt (wpAny_callSpecial?_slot (name:=Str.ofString "__next__") hit.typeIs slot_si_next (wpAny_call_entry slot_si_next hit.typeIs entry_si_next ?_ (args_si_next _))))
 unfold Builtin.«set_iterator.__next__»
 refine wpAny_bind (wpAny_pure ?_)
 refine wpAny_bind (wpAny_fieldsOf ho hd ?_)
 dsimp only
 unfold setEntries
 refine wpAny_bind (wpAny_bind (wpAny_setState_of hs rfl (T.fits h8) (wpAny_pure ?_)))
 rw [if_neg (by simp)]
 simp only [Int.toNat_natCast]
 refine wpAny_bind (setNext_I T h8 hs (Nat.le_of_lt hi) ?_)
 rw [hx]
 dsimp only
 show wpAny _ _ (setField (.ref I) 0 (rawInt _) >>= _) _ _ s
 refine wpAny_bind (wpAny_setField ho hd (by simp) ?_)
 have g1:=Heap.get?_update_self (Obj.mapFields (·.setIfInBounds 0 (rawInt ((slotOf w t (i+1):Nat):Int)))) ho (Obj.isFreed_of_fields (Obj.data_mapFields hd _))
 have d1:=Obj.data_mapFields hd (·.setIfInBounds 0 (rawInt ((slotOf w t (i+1):Nat):Int)))
 refine wpAny_bind (wpAny_setField g1 d1 (by simp) ?_)
 have g2:=Heap.get?_update_self (Obj.mapFields (·.setIfInBounds 1 (rawInt ((i:Int)+1)))) g1 (Obj.isFreed_of_fields (Obj.data_mapFields d1 _))
 have d2:=Obj.data_mapFields d1 (·.setIfInBounds 1 (rawInt ((i:Int)+1)))
 refine wpAny_pure ⟨_,rfl,wpAny_pure (hQ _ ⟨⟨_,g2,(Obj.cls_mapFields ..).trans ((Obj.cls_mapFields ..).trans hc),?_⟩,?_⟩ fun b o' hb e=>?_)⟩
 ·rw [d2]
  simp [rawInt]
 ·exact (Heap.get?_update_other _ _ (Ne.symm hne)).trans ((Heap.get?_update_other _ _ (Ne.symm hne)).trans hs)
 ·exact (Heap.get?_update_other _ _ (Ne.symm hb)).trans ((Heap.get?_update_other _ _ (Ne.symm hb)).trans e)
theorem si_end {Q:Option Value→Shared→Prop} (hh:A.handled=none) (T:T7 (byT w) t es.size) (h8:es.size≤7) (hit:SetIt w a I es ep t es.size s.heap)
  (hQ:∀ h',(∀ b o,b ≠ I→s.heap.get? b=some o→h'.get? b=some o)→Q none { s with heap:=h' }):wpAny (model prog w) A (pyNext (.ref I)) Q E s:=by
 obtain ⟨⟨o,ho,hc,hd⟩,hs⟩:=id hit
 unfold pyNext
 refine wpAny_bind (wpAny_attempt (wpAny_callSpecial?_slot (name:=Str.ofString "__next__") hit.typeIs slot_si_next (wpAny_call_entry slot_si_next hit.typeIs entry_si_next ?_ (args_si_next _))))
 unfold Builtin.«set_iterator.__next__»
 refine wpAny_bind (wpAny_pure ?_)
 refine wpAny_bind (wpAny_fieldsOf ho hd ?_)
 dsimp only
 unfold setEntries
 refine wpAny_bind (wpAny_bind (wpAny_setState_of hs rfl (T.fits h8) (wpAny_pure ?_)))
 rw [if_neg (by simp)]
 simp only [Int.toNat_natCast]
 have hx:(walkOf w a ep es)[es.size]?=none:=List.getElem?_eq_none (by rw [(walk_perm w a ep es).length_eq,Array.length_toList];exact Nat.le_refl _)
 refine wpAny_bind (setNext_I T h8 hs (Nat.le_refl _) ?_)
 rw [hx]
 dsimp only
 show wpAny _ _ (setField (.ref I) 2 .none >>= _) _ _ s
 refine wpAny_bind (wpAny_setField ho hd (by simp) ?_)
 show wpAny _ _ (newExc (.type "StopIteration") [] >>= _) _ _ _
 refine wpAny_bind ?_
 simp only [newExc,newTuple]
 refine wpAny_bind (wpAny_newObj_type ?_ (by size_fits))
 refine wpAny_bind (m:=firstArgMember _ _) (wpAny_of_eq (a:=Value.none) (by first | rfl | (simp only [firstArgMember];rfl)) ?_)
 refine wpAny_newObj_type ?_ (by size_fits)
 simp only [raiseNew]
 refine wpAny_bind (wpAny_handled ?_)
 rw [show A.in1.handled=none from hh]
 refine wpAny_bind (wpAny_pure (wpAny_throw ?_))
 refine wpAny_bind (wpAny_isInstance (T:="StopIteration") (b:=true) ⟨_,Heap.get?_push_size _ rfl,rfl⟩ isSubtype_stop ?_)
 exact wpAny_pure (hQ _ (((Heap.SameBut.update ..).extBut.push _).push _))
theorem si_self {Q:Value→Shared→Prop} (hit:SetIt w a I es ep t i s.heap) (h:Q (.ref I) s):wpAny (model prog w) A (pyIter (.ref I)) Q E s:=by
 refine wpAny_pyIter_slot hit.typeIs slot_si_iter (wpAny_call_entry slot_si_iter hit.typeIs entry_si_iter ?_ (args_si_iter _))
 show wpAny _ _ (ret (.ref I)) _ _ s
 exact wpAny_pure ⟨_,rfl,"set_iterator",_,hit.typeIs,slot_si_next.lookup,h⟩
theorem si_new {Q:Value→Shared→Prop} (T:T7 (byT w) t es.size) (h8:es.size≤7) (hs:s.heap.get? a=some { cls:=.type "set",data:=.set es ep t })
  (hQ:Q (.ref s.heap.objs.size) { s with heap:=s.heap.push { cls:=.type "set_iterator",data:=.fields #[.int 0 0,.int 0 0,.ref a,.int es.size 0,.int ep 0] } }):wpAny (model prog w) A (pyIter (.ref a)) Q E s:=by
 have hT:s.TypeIs (.ref a) "set":=⟨_,hs,rfl⟩
 have hf:=T.fits h8
 refine wpAny_pyIter_slot hT F.slot_set_iter (wpAny_call_entry F.slot_set_iter hT entry_set_iter ?_ (F.args_set_iter_1 _))
 unfold Builtin.«frozenset.__iter__» Builtin.Frozenset.slot0 Builtin.Frozenset.sizeOf setEntries
 refine wpAny_bind (wpAny_bind (wpAny_pure ?_))
 show wpAny _ _ (pure a) _ _ s
 refine wpAny_pure ?_
 refine wpAny_bind (wpAny_bind (wpAny_bind (wpAny_setState_of hs rfl hf (wpAny_pure (wpAny_pure ?_)))))
 unfold setDrawn setsByText
 refine wpAny_bind (wpAny_bind (wpAny_setState_of hs rfl hf ?_))
 dsimp only
 refine wpAny_bind (wpAny_bind (wpAny_askSetting (wpAny_pure (wpAny_pure ?_))))
 show wpAny _ _ (if (!byT w && (!t.plain && decide (es.size > 1)))=true then _ else _) _ _ _
 rw [T.plain]
 simp only [Bool.not_true,Bool.false_and,Bool.and_false,Bool.false_eq_true,if_false]
 refine wpAny_bind (wpAny_pure ?_)
 unfold setEpoch
 refine wpAny_bind (wpAny_bind (wpAny_setState_of hs rfl hf (wpAny_pure ?_)))
 refine wpAny_bind (wpAny_newObj_type (wpAny_pure ⟨_,rfl,"set_iterator",_,⟨_,Heap.get?_push_size _ rfl,rfl⟩,slot_si_next.lookup,?_⟩))
 simpa [rawInt] using hQ
theorem si_hint {Q:Bool→Shared→Prop} (hT:s.TypeIs (.ref a) "set") (h:Q false s):wpAny (model prog w) A (Builtin.List.listLengthHint (.ref a)) Q E s:=by
 unfold Builtin.List.listLengthHint
 refine wpAny_bind (wpAny_specialOf hT PySem.F.slot_set_len.lookup ?_)
 generalize hid:("set.__len__" : String)=id0
 wp_delta
 rw [show splitId id0=some ("set","__len__") from by subst hid;decide +kernel]
 subst hid
 refine wpAny_bind (wpAny_isInstance (T:="set") (b:=true) hT (by rw [isSubtype_type];kernel_rfl) ?_)
 refine wpAny_ite_split (fun hab=>absurd hab (by decide)) (fun _=>?_)
 refine wpAny_ite_split (fun _=>?_) (fun hab=>absurd (by decide +kernel) hab)
 refine wpAny_bind (wpAny_typeOf hT ?_)
 exact wpAny_pure h
theorem si_src (T:T7 (byT w) t es.size) (h8:es.size≤7):PySem.W.KdlSrc prog w "set" a a es.size (fun i v=>∃ e,(walkOf w a ep es)[i]?=some e∧v=e.2) (fun h=>h.get? a=some { cls:=.type "set",data:=.set es ep t }) where
 type:=fun s h=>⟨_,h,rfl⟩
 there:=fun h x=>⟨Heap.lt_size x,Heap.lt_size x⟩
 keep:=fun h h' x k=>k a (.inl rfl) _ x
 notList:=by decide
 notTuple:=by decide
 hint:=fun A E s Q x q=>si_hint ⟨_,x,rfl⟩ q
 iter:=fun A s hh x=>by
  have hne:a ≠ s.heap.objs.size:=Nat.ne_of_lt (Heap.lt_size x)
  refine ⟨_,fun i h=>SetIt w a s.heap.objs.size es ep t i h,fun E Q q=>si_new T h8 x q,?_,⟨⟨_,Heap.get?_push_size _ rfl,rfl,?_⟩,Heap.get?_push_of_some _ x⟩⟩
  ·refine ⟨fun b hb=>?_,fun i h h' st k=>?_,fun i s' Q E hi st q=>?_,fun s' Q E st q=>?_,fun i s' Q E st q=>si_self st q⟩
   ·have e:b=s.heap.objs.size:=by simpa using hb
    simp [e]
   ·obtain ⟨⟨o,h1,h2,h3⟩,h4⟩:=st
    exact ⟨⟨o,k _ (by simp) _ h1,h2,h3⟩,k _ (by simp) _ h4⟩
   ·have hl:i<(walkOf w a ep es).length:=by rw [(walk_perm w a ep es).length_eq,Array.length_toList];exact hi
    refine si_next T h8 st hne (List.getElem?_eq_getElem hl) fun h' st' k=>?_
    exact q _ h' s'.toks ⟨_,List.getElem?_eq_getElem hl,rfl⟩ st' fun b o hb e=>k b o (fun z=>hb (by simp [z])) e
   ·refine si_end hh T h8 st fun h' k=>?_
    exact q h' s'.toks fun b o hb e=>k b o (fun z=>hb (by simp [z])) e
  ·unfold slotOf
   split <;> rfl
end
end L2
namespace L2
open PySem PySem.Spec PyProof.Rows
theorem intsAre_of' {ns:List Int}:∀ {us:List Value},Vals (ns.map V.int) us→IntsAre us ns:=by
 induction ns with
 | nil=>intro us h;cases h;exact .nil
 | cons n r ih=>
  intro us h
  cases h with
  | cons r1 r2=>
   obtain ⟨t,rfl⟩:=r1
   exact IntsAre.cons _ _ (ih r2)
theorem vals_of_ints:∀ {us:List Value} {ns:List Int},IntsAre us ns→Vals (ns.map V.int) us:=vals_ints
section
variable {X:Cx}
def SetO (w:World) (a:Addr) (zs:List Int):HO:=.ext (SetI w a zs)
theorem call_set (hc:X.calm=true):CallR X (.type "set") (fun xs H Q=>∃ p ns,xs=[.ref p]∧SqL X.K H p (ns.map V.int)∧ns.length≤4∧∀ a,H a=none→Q (.ref a) (upd H a (SetO X.w a (dedI ns)))):=by
 intro pins s σ H xs us Q I r h
 obtain ⟨p,ns,rfl,hq,h4,q⟩:=h
 obtain ⟨u,rfl,rx⟩:=vals1 r
 cases rx
 obtain ⟨its,rv,pl,hz⟩:=I.list hq
 have hlen:=rv.length
 rw [List.length_map] at hlen
 refine call_set_I (ns:=ns) (I.ok.hd hc) pl.isList (by simpa using intsAre_of' rv) (by simp;omega) fun h' tk hS hk=>?_
 refine ⟨.ref s.heap.objs.size,_,I.laid (t':=tk) hk (Nat.le_refl _) ?_,rfl,q _ (I.hok.fresh (Nat.le_refl _))⟩
 obtain ⟨es,ep,t,ks,e,_⟩:=id hS
 exact ⟨hS,⟨_,e⟩,fun h1 h2 x k=>x.at k⟩
theorem Inv.track {pins:List (Addr × Obj)} {s:Shared} {σ:St} {H:Hp} {T:Addr} {o:HO} (I:Inv X pins σ H s) (h0:H T=none) (h1:X.s₀.heap.objs.size≤T) (h2:T ≠ X.env.locals) (h3:∀ x c,X.env.cells.lookup x=some c→c ≠ T) (h4:∀ p ∈ X.pn++pins,p.1 ≠ T)
  (new:ObjOk X.prog X.w (upd H T o) s.heap T o):Inv X pins σ (upd H T o) s:=by
 have old:∀ b ob,X.s₀.heap.get? b=some ob→b ≠ T:=fun b ob e=>Nat.ne_of_lt (Nat.lt_of_lt_of_le (Heap.lt_size e) h1)
 have some':∀ b u,H b=some u→(upd H T o) b=some u:=fun b u e=>by rw [upd_ne (ne_of_none e h0)];exact e
 refine ⟨I.ok,I.os,I.bare,⟨I.base.keep,I.base.slot,fun b ob e n hx=>?_,I.base.there,fun b xs e=>some' _ _ (I.base.tups b xs e),fun b ob u e=>some' _ _ (I.base.frzs b ob u e),fun b ps e=>?_⟩,I.loc,I.cell,?_,fun x c e=>?_,fun p hp=>?_,fun b u e=>?_,I.len⟩
 ·rw [upd_ne (old b ob e)];exact I.base.free b ob e n hx
 ·obtain ⟨m,e1⟩:=I.base.tbls b ps e
  exact ⟨m,some' _ _ e1⟩
 ·rw [upd_ne (Ne.symm h2)];exact I.free
 ·rw [upd_ne (h3 x c e)];exact I.freeC x c e
 ·obtain ⟨e1,n,r⟩:=I.pin p hp
  exact ⟨e1,by rw [upd_ne (h4 p hp)];exact n,r⟩
 ·by_cases hb:b=T
  ·subst hb
   rw [upd_same] at e
   cases e
   exact new
  ·rw [upd_ne hb] at e
   exact (I.hok b u e).stay (fun c v _ q=>q) (fun c q=>some' _ _ q) fun c ys q=>some' _ _ q
theorem sort_new {pins:List (Addr × Obj)} {s:Shared} {σ:St} {H:Hp} {Q:VK} {A:Around} {E:Value→Shared→Prop} {vs:List Value} {ns:List Int} {D:Addr} (I:Inv X pins σ (upd H D (.lst (ns.map V.int))) s) (hD:H D=none) (h64:ns.length<64)
  (q:∀ ns':List Int,ns'.Perm ns→ns'.Pairwise (·≤·)→Q (.ref D) (upd H D (.lst (ns'.map V.int)))) :
  wpAny (model X.prog X.w) A (call (.builtin "list.sort") [.ref D]) (fun _ s'=>EP X pins σ Q (.ref D) s') E s:=by
 obtain ⟨z,its,n,rv,hl,e⟩:=I.lstM upd_same
 have hI:=intsAre_of' rv
 have hlen:=rv.length
 rw [List.length_map] at hlen
 refine wpAny_call_entry slot_list_sort ⟨_,e,rfl⟩ entry_list_sort (list_sort_tree (ns:=ns) (n:=n) e hI (by omega) fun out ns' a1 a2 a3=>⟨_,rfl,?_⟩) (args_list_sort _)
 have hat:=sortedHeap_at (vs:=its) (out:=out) e
 obtain ⟨e2,hat⟩:=hat
 refine ⟨.ref D,upd H D (.lst (ns'.map V.int)),?_,rfl,q ns' a2 a3⟩
 have hu:upd (upd H D (.lst (ns.map V.int))) D (.lst (ns'.map V.int))=upd H D (.lst (ns'.map V.int)):=upd_upd
 rw [← hu]
 refine I.write (x:=D) (e:=D) (t':=s.toks) (by rw [upd_same];exact trivial) (.inl rfl) (fun b u hb hbu=>?_) ⟨_,hat⟩ ?_
 ·rw [sortedHeap_old hb (Heap.lt_size hbu)];exact hbu
 ·refine ⟨?_,out.toList,e2,vals_of_ints a1,by simpa using hat⟩
  rw [List.length_map,a2.length_eq,← List.length_map (f:=V.int)]
  exact z
theorem newList_ok {pins:List (Addr × Obj)} {s:Shared} {σ:St} {H:Hp} {vs:List Value} {ns:List Int} (I:Inv X pins σ H s) (hv:IntsAre vs ns) (hz:ns.length≤sizeLine) :
  Inv X pins σ (upd H s.heap.objs.size (.lst (ns.map V.int))) { s with heap:=s.heap.push { cls:=.type "list",data:=.seq vs.toArray } }:=
 I.lnew (t':=s.toks) (vals_of_ints hv) (by rw [List.length_map];exact hz)
theorem call_sorted (hc:X.calm=true):CallR X (.builtin "sorted") (fun xs H Q=>∃ p ns,xs=[.ref p]∧(SqL X.K H p (ns.map V.int)∨SqT X.K H p (ns.map V.int)∨H p=some (SetO X.w p ns))∧ns.length<64∧
  ∀ (a:Addr) (ns':List Int),H a=none→ns'.Perm ns→ns'.Pairwise (·≤·)→Q (.ref a) (upd H a (.lst (ns'.map V.int)))):=by
 intro pins s σ H xs us Q I r h
 obtain ⟨p,ns,rfl,hq,h64,q⟩:=h
 obtain ⟨u,rfl,rx⟩:=vals1 r
 cases rx
 refine Calls.call_function_entry kind_sorted plain_sorted entry_sorted (args_sorted1 _) ?_
 unfold Builtin.«sorted»
 refine wpAny_bind (m:=checkCount "sorted" 1 1 _) (wpAny_pure ?_)
 have fin:∀ (s1:Shared) (vs:List Value) (zs:List Int),Inv X pins σ H s1→IntsAre vs zs→zs.Perm ns→wpAny (model X.prog X.w) X.A.in1 (do
   let l ← newList vs
   let _ ← holding [l] (call (.builtin "list.sort") [l] [])
   ret l) (fun fin s'=>∃ r,fin=.done (.ret r)∧EP X pins σ Q r s') X.xe s1:=by
  intro s1 vs zs I1 hv hp
  have hlen:=IntsAre.length hv
  have hz:zs.length≤sizeLine:=by rw [hp.length_eq,sizeLine_eq];omega
  refine wpAny_bind (wpAny_newList ?_ (by rw [hlen];exact hz))
  have hf:=I1.hok.fresh (Nat.le_refl s1.heap.objs.size)
  refine wpAny_bind (wpAny_holding (wpAny_mono (sort_new (E:=X.xe) (vs:=vs) (newList_ok I1 hv hz) hf (by rw [hp.length_eq];exact h64) fun ns' a b=>q _ ns' hf (a.trans hp) b) (fun _ s' x=>?_) fun _ _ e=>e))
  exact wpAny_pure ⟨_,rfl,x⟩
 rcases hq with hq | hq | hq
 ·obtain ⟨its,rv,pl,hz⟩:=I.list hq
  obtain ⟨o,ho,hc',n,hd⟩:=pl.isList
  have hlen:=rv.length
  refine wpAny_bind (wpAny_collect_seq p (.inl rfl) ho hc' hd (fun h' hk=>?_) (by simp;omega))
  exact fin _ _ ns (I.kept (t':=s.toks) hk) (by simpa using intsAre_of' rv) (.refl _)
 ·obtain ⟨its,rv,pl,hz⟩:=I.tuple hq
  obtain ⟨o,ho,hc',n,hd⟩:=pl
  have hlen:=rv.length
  refine wpAny_bind (wpAny_collect_seq p (.inr rfl) ho hc' hd (fun h' hk=>?_) (by simp;omega))
  exact fin _ _ ns (I.kept (t':=s.toks) hk) (by simpa using intsAre_of' rv) (.refl _)
 ·obtain ⟨hS,_,_⟩:=(show ObjOk X.prog X.w H s.heap p (.ext (SetI X.w p ns)) from I.hok p _ hq)
  obtain ⟨es,ep,t,ks,e,T,he,hp,hnd,h4⟩:=hS
  have hsz:es.size=ns.length:=SetI.size (a:=p) (h:=s.heap) he hp
  obtain ⟨ks',h1,h2⟩:=he.perm (walk_perm X.w p ep es)
  refine wpAny_bind (PySem.W.kdu_collect (A:=X.A.in1) (si_src (ep:=ep) T (by omega)) (I.ok.hd hc) e (by rw [hsz,sizeLine_eq];omega) fun h' tk acc hk hacc=>?_)
  refine fin _ _ ks' (I.kept (t':=tk) hk) ?_ (h2.trans hp)
  obtain ⟨l1,l2⟩:=hacc
  have key:∀ {ks:List Int} {l:List (Int × Value)},Ents ks l→∀ vs:List Value,vs.length=l.length→(∀ (i:Nat) (v:Value),vs[i]?=some v→∃ e:Int × Value,l[i]?=some e∧v=e.2)→IntsAre vs ks:=by
   intro ks l h
   induction h with
   | nil=>
    intro vs hl _
    have:vs=[]:=List.length_eq_zero_iff.mp hl
    subst this
    exact .nil
   | cons r t ih=>
    intro vs hl hv
    cases vs with
    | nil=>simp at hl
    | cons v vs=>
     obtain ⟨tk,rfl⟩:=r
     obtain ⟨e,he,rfl⟩:=hv 0 v rfl
     simp at he
     subst he
     exact IntsAre.cons _ _ (ih vs (by simpa using hl) fun i v hi=>by simpa using hv (i+1) v (by simpa using hi))
  refine key h1 acc.toList ?_ fun i v hi=>l2 i v (by rw [← Array.getElem?_toList];exact hi)
  rw [Array.length_toList,l1,(walk_perm X.w p ep es).length_eq,Array.length_toList]
end
end L2
namespace L2
open PySem PySem.Spec PyProof.Rows
section
variable {X:Cx}
def rangeV (lo hi:Int):List V:=(List.range (hi - lo).toNat).map fun (i:Nat)=>V.int (lo+i)
theorem call_rng2:CallR X (.type "range") (fun xs H Q=>∃ i j,xs=[.int i,.int j]∧∀ p,H p=none→Q (.ref p) (upd H p (.rng i j))):=by
 intro pins s σ H xs us Q I r h
 obtain ⟨i,j,rfl,q⟩:=h
 obtain ⟨u,v,rfl,⟨t,rfl⟩,⟨t',rfl⟩⟩:=vals2 r
 refine call_range_2 ⟨.ref s.heap.objs.size,_,I.laid (fun b o e=>Heap.get?_push_of_some _ e) (Nat.le_refl _) ?_,rfl,q _ (I.hok.fresh (Nat.le_refl _))⟩
 exact ⟨_,_,_,Heap.get?_push_size _ rfl⟩
theorem rng_vals {lo hi:Int} {n:Nat} {acc:List Value} (hn:n=(hi - lo).toNat) (hl:acc.length=n) (h:∀ (i:Nat) (v:Value),acc[i]?=some v→∃ t,v=.int (lo+i * 1) t):Vals (rangeV lo hi) acc:=by
 have key:∀ (m:Nat) (acc:List Value),acc.length=m→∀ lo:Int,(∀ (i:Nat) (v:Value),acc[i]?=some v→∃ t,v=.int (lo+i) t)→Vals ((List.range m).map fun (i:Nat)=>V.int (lo+i)) acc:=by
  intro m
  induction m with
  | zero=>
   intro acc hl lo h
   have:acc=[]:=List.length_eq_zero_iff.mp hl
   subst this
   exact .nil
  | succ m ih=>
   intro acc hl lo h
   cases acc with
   | nil=>simp at hl
   | cons v acc=>
    rw [List.range_succ_eq_map,List.map_cons,List.map_map]
    have h0:=h 0 v rfl
    refine .cons h0 ?_
    have h1:=ih acc (by simpa using hl) (lo+1) fun i v hi=>by
     have:=h (i+1) v (by simpa using hi)
     obtain ⟨t,e⟩:=this
     refine ⟨t,?_⟩
     rw [e]
     congr 1
     push_cast
     omega
    have e:((fun (i:Nat)=>V.int (lo+i)) ∘ Nat.succ)=fun (i:Nat)=>V.int (lo+1+i):=by
     funext i
     simp only [Function.comp]
     congr 1
     push_cast
     omega
    rw [e]
    exact h1
 unfold rangeV
 rw [← hn]
 refine key n acc hl lo fun i v hi=>?_
 obtain ⟨t,e⟩:=h i v hi
 exact ⟨t,by rw [e,Int.mul_one]⟩
theorem rangeV_len (lo hi:Int):(rangeV lo hi).length=(hi - lo).toNat:=by unfold rangeV;simp
theorem rsize {lo hi:Int}:Builtin.Range.rangeSize lo hi 1=((hi - lo).toNat:Nat):=by rw [rangeSize_one];split <;> omega
theorem collect_range {prog:Program} {w:World} {A:Around} {E:Value→Shared→Prop} {s:Shared} {R:List Value→Shared→Prop} {r:Addr} {a b:Int} {t u v:Tok} {n:Nat} (hh:A.handled=none) (hr:IsRange s.heap r a b 1 t u v) (hsmall:Builtin.Range.small a b 1=true)
  (hn:Builtin.Range.rangeSize a b 1=n) (hlen:n≤2 ^ 24)
  (h:∀ (h':Heap) (tk:Nat) (acc:Array Value),(∀ b o,s.heap.get? b=some o→h'.get? b=some o)→ItemsOf (fun i v=>∃ t,v=.int (a+i * 1) t) acc n→R acc.toList { s with heap:=h',toks:=tk }) :
  wpAny (model prog w) A (collect (.ref r)) R E s:=by
 unfold collect
 refine wpAny_bind (wpAny_runValue (codeAny_builtin entry_proto_collect' ?_))
 rw [Around.under_plainId PySem.F.plain_proto_collect _]
 show wpAny _ A.in1 (newList [] >>= fun l=>again (.builtin "list.__iadd__" ⟨[l,.ref r],[]⟩)) _ _ s
 refine wpAny_bind (wpAny_newObj_type ?_)
 refine wpAny_pure ⟨plainId_quiet PySem.F.plain_list_iadd _,codeAny_builtin entry_list_iadd' ?_⟩
 rw [Around.under_plainId PySem.F.plain_list_iadd _]
 have hS₁:(s.heap.push { cls:=.type "list",data:=.seq ([]:List Value).toArray }).get? s.heap.objs.size=some { cls:=.type "list",data:=.seq #[] }:=Heap.get?_push_size _ rfl
 show wpAny _ A.in1 (Builtin.List.listExtendWith (.ref s.heap.objs.size) (.ref r) (.ref s.heap.objs.size)) _ _ _
 have key:=wpAny_extend_range (prog:=prog) (w:=w) (A:=A) (s:={ s with heap:=s.heap.push { cls:=.type "list",data:=.seq ([]:List Value).toArray } })
  (R:=fun (q:Result) (s':Shared)=>∃ (h':Heap) (tk:Nat) (acc':Array Value) (c':Nat),q=.ok (.ret (.ref s.heap.objs.size))∧s'={ s with heap:=h',toks:=tk }∧
   (∀ b o,s.heap.get? b=some o→h'.get? b=some o)∧h'.get? s.heap.objs.size=some { cls:=.type "list",dict:=none,data:=.seq acc' c',slots:=#[] }∧ItemsOf (fun i v=>∃ t,v=.int (a+i * 1) t) acc' n)
  hh (Heap.get?_push_of_some _ hr) hsmall hn hlen s.heap.objs.size (.ref s.heap.objs.size) 0 hS₁
  (fun h' tk acc' c' hk hS' hacc=>⟨h',tk,acc',c',rfl,rfl,fun b o e=>hk b o (Nat.ne_of_lt (Heap.lt_size e)) (Heap.get?_push_of_some _ e),hS',hacc⟩)
 refine wpAny_mono key (fun fin s' x=>?_) fun e s' x=>?_
 ·cases fin with
  | done f=>
   obtain ⟨h',tk,acc',c',e,rfl,hk,hS',hacc⟩:=x
   cases e
   show wpAny _ A (load s.heap.objs.size >>= _) _ _ _
   refine wpAny_bind (wpAny_load hS' ?_)
   exact wpAny_pure (h h' tk acc' hk hacc)
  | again c₁=>
   refine ⟨x.1,codeAny_mono x.2 fun q s₂ y=>?_⟩
   obtain ⟨h',tk,acc',c',rfl,rfl,hk,hS',hacc⟩:=y
   show wpAny _ A (load s.heap.objs.size >>= _) _ _ _
   refine wpAny_bind (wpAny_load hS' ?_)
   exact wpAny_pure (h h' tk acc' hk hacc)
 ·obtain ⟨_,_,_,_,e',_⟩:=x
  cases e'
theorem tuple_range {prog:Program} {w:World} {A:Around} {E:Value→Shared→Prop} {s:Shared} {Q:Value→Shared→Prop} {r:Addr} {a b:Int} {t u v:Tok} {n:Nat} (hh:A.handled=none) (hr:IsRange s.heap r a b 1 t u v) (hsmall:Builtin.Range.small a b 1=true)
  (hn:Builtin.Range.rangeSize a b 1=n) (hlen:n≤2 ^ 24)
  (h:∀ (h':Heap) (tk:Nat) (acc:Array Value),(∀ b o,s.heap.get? b=some o→h'.get? b=some o)→ItemsOf (fun i v=>∃ t,v=.int (a+i * 1) t) acc n→Q (.ref h'.objs.size) { s with heap:=h'.push { cls:=.type "tuple",data:=.seq acc },toks:=tk }) :
  wpAny (model prog w) A (call (.type "tuple") [.ref r]) Q E s:=by
 have hcode:codeAny (model prog w) A.in1 (.call (.builtin "tuple.__new__") ⟨[.type "tuple",.ref r],[]⟩) (wants (fun obj s₁=>s₁.TypeIs obj "tuple"∧Q obj s₁) E) s:=by
  refine codeAny_of_tree ?_
  show wpAny _ A.in1.in1 (do checkBuiltinCall "tuple.__new__" ⟨[.type "tuple",.ref r],[]⟩;again (.builtin "tuple.__new__" ⟨[.type "tuple",.ref r],[]⟩)) _ _ s
  refine wpAny_bind (wpAny_of_eq (F.newCall_tuple_1 _) (wpAny_pure ⟨plainId_quiet F.plain_tuple_new _,codeAny_builtin F.entry_tuple_new ?_⟩))
  rw [Around.under_plainId F.plain_tuple_new _]
  have hsub:=sub_tuple_self
  have hinit:=init_tuple_lookup
  have hmh:=madeHere_tuple
  have hTI:s.TypeIs (.ref r) "range":=⟨_,hr,rfl⟩
  wp_walk using wpAny_typeOf hTI,collect_range (prog:=prog) (w:=w) (A:=A.in1.in1) hh hr hsmall hn hlen
  intro h' tk acc hk hacc
  show wpAny _ _ (Builtin.Tuple.tupleExact acc.toList.toArray >>= fun v=>ret v) _ _ _
  unfold Builtin.Tuple.tupleExact
  refine wpAny_bind (wpAny_newObj_type ?_ (by show acc.toList.toArray.size≤sizeLine;simp only [Array.toArray_toList];rw [hacc.1,sizeLine_eq];omega))
  refine wpAny_pure ?_
  have e:acc.toList.toArray=acc:=by simp
  rw [e]
  exact ⟨⟨_,Heap.get?_push_size _ rfl,rfl⟩,h h' tk acc hk hacc⟩
 refine callType_codes (Q₁:=fun obj s₁=>s₁.TypeIs obj "tuple"∧Q obj s₁) F.called_tuple (F.typeCall_tuple_1 _) F.entry_object_init hcode fun obj s₁ h₁=>?_
 exact ⟨h₁.1,F.args_object_init_2 obj _,object_init_meets F.called_tuple.init.lookup F.called_tuple.made (by decide) prog w A.in1 _ s₁ ⟨h₁.1,rfl,h₁.2⟩⟩
theorem call_tuple_rng (hc:X.calm=true):CallR X (.type "tuple") (fun xs H Q=>∃ p lo hi,xs=[.ref p]∧H p=some (.rng lo hi)∧-1000000≤lo∧lo≤1000000∧-1000000≤hi∧hi≤1000000∧∀ l,H l=none→Q (.ref l) (upd H l (.tup (rangeV lo hi)))):=by
 intro pins s σ H xs us Q I r h
 obtain ⟨p,lo,hi,rfl,hp,l1,l2,l3,l4,q⟩:=h
 obtain ⟨u,rfl,rx⟩:=vals1 r
 cases rx
 obtain ⟨t,u,v,e⟩:=(show ∃ t u v,s.heap.get? p=some { cls:=.type "range",data:=.fields #[.int lo t,.int hi u,.int 1 v] } from I.hok p _ hp)
 refine tuple_range (n:=(hi - lo).toNat) (I.ok.hd hc) (show IsRange s.heap p lo hi 1 t u v from e) (small_one (by omega) (by omega) (by omega) (by omega)) rsize (by omega) fun h' tk acc hk hacc=>?_
 obtain ⟨a1,a2⟩:=hacc
 have I1:Inv X pins σ H { s with heap:=h',toks:=tk }:=I.kept hk
 refine ⟨.ref h'.objs.size,_,I1.laid (t':=tk) (fun b o e=>Heap.get?_push_of_some _ e) (Nat.le_refl _) (show ObjOk X.prog X.w _ _ _ (.tup (rangeV lo hi)) from ⟨?_,acc.toList,rng_vals rfl (by simpa using a1) fun i v hi=>a2 i v (by rw [← Array.getElem?_toList];exact hi),?_⟩),rfl,q _ (I1.hok.fresh (Nat.le_refl _))⟩
 ·rw [rangeV_len,sizeLine_eq]
  omega
 ·have:=IsTup.new h' acc
  simpa using this
theorem range_all':∀ (bs:List Bool),((List.range bs.length).all fun i=>(bs[i]?).getD true)=bs.all id:=by
 intro bs
 rw [Bool.eq_iff_iff,List.all_eq_true,List.all_eq_true]
 constructor
 ·intro h b hb
  obtain ⟨i,hi,e⟩:=List.mem_iff_getElem.mp hb
  have:=h i (List.mem_range.mpr hi)
  rw [List.getElem?_eq_getElem hi,e] at this
  exact this
 ·intro h i hi
  have hi':=List.mem_range.mp hi
  rw [List.getElem?_eq_getElem hi']
  exact h _ (List.getElem_mem hi')
theorem call_all (hc:X.calm=true):CallR X (.builtin "all") (fun xs H Q=>∃ (p:Addr) (bs:List Bool),xs=[.ref p]∧SqL X.K H p (bs.map V.bl)∧Q (.bl (bs.all id)) H):=by
 intro pins s σ H xs us Q I r h
 obtain ⟨p,bs,rfl,hq,q⟩:=h
 obtain ⟨u,rfl,rx⟩:=vals1 r
 cases rx
 obtain ⟨its,rv,pl,hz⟩:=I.list hq
 have hl:=pl.isList
 have hlt:p<s.heap.objs.size:=by obtain ⟨_,e,_⟩:=hl;exact Heap.lt_size e
 have hlen:=rv.length
 rw [List.length_map] at hlen
 refine call_all_walk (wpAny_pyIter_list hl ?_)
 refine ⟨s.heap.objs.size,[s.heap.objs.size,p],[s.heap.objs.size],its.toArray.size,_,_,fun i=>(bs[i]?).getD true,rfl,Walks.list (A:=X.A.in1) (I.ok.hd hc) _ p (Nat.ne_of_lt hlt) its.toArray,
  ⟨⟨_,Heap.get?_push_size _ rfl,rfl,rfl⟩,hl.push _⟩,fun i v s' Q' E' hP hQ=>?_,fun h' tk hk=>?_⟩
 ·have hP':its[i]?=some v:=by simpa using hP
  have hi:i<bs.length:=by rw [hlen];exact (List.getElem?_eq_some_iff.mp hP').1
  obtain ⟨u,hu,ru⟩:=rv.get (i:=i) (x:=.bl bs[i]) (by rw [List.getElem?_map,List.getElem?_eq_getElem hi];rfl)
  rw [hP'] at hu
  cases hu
  cases ru
  dsimp only at hQ
  rw [List.getElem?_eq_getElem hi,Option.getD_some] at hQ
  exact wpAny_truthy_bool hQ
 ·have e:((List.range its.toArray.size).all fun i=>(bs[i]?).getD true)=bs.all id:=by
   rw [List.size_toArray,← hlen];exact range_all' bs
  refine ⟨.bl (bs.all id),H,I.kept fun b x e=>hk b x (fun hm=>by rw [List.mem_singleton.mp hm] at e;exact Nat.lt_irrefl _ (Heap.lt_size e)) (Heap.get?_push_of_some _ e),?_,q⟩
  rw [e]
  rfl
theorem call_isinst:CallR X (.builtin "isinstance") (fun xs H Q=>∃ x T t b,xs=[x,.ty T]∧TyOf X.K H x t∧PySem.W.kitOne X.K t (.type T)=some b∧Q (.bl b) H):=by
 intro pins s σ H xs us Q I r h
 obtain ⟨x,T,t,b,rfl,ht,hk,q⟩:=h
 obtain ⟨u,v,rfl,r1,r2⟩:=vals2 r
 cases r2
 exact isinst_ok I r1 ht hk fun tk=>⟨.bl b,H,I.tok _,rfl,q⟩
theorem op_eq_nil (hu:X.A.units<cLine):OpR X (compareOp .Eq) (fun x y H Q=>∃ p l xs,x=.ref p∧y=.ref l∧SqL X.K H p xs∧SqL X.K H l []∧Q (.bl xs.isEmpty) H):=by
 intro pins s σ H x y v u Q I rx ry h
 obtain ⟨p,l,xs,rfl,rfl,h1,h2,q⟩:=h
 cases rx
 cases ry
 obtain ⟨its,r1,p1,z1⟩:=I.list h1
 obtain ⟨its2,r2,p2,z2⟩:=I.list h2
 cases r2
 cases xs with
 | nil=>
  cases r1
  exact SeqAt.eq_listAt (e:=fun _=>true) p1.isList p2.isList rfl hu (fun j h _=>absurd h (by simp)) ⟨.bl true,H,I,rfl,q⟩
 | cons a r=>
  cases r1
  exact SeqAt.eq_list_lengthsAt p1.isList p2.isList (by simp) hu ⟨.bl false,H,I,rfl,q⟩
end
theorem call_sortedK {X:Cx} {K:PySem.W.Frag} {w:World} (hK:X.K=K) (hw:X.w=w) (hc:X.calm=true):CallR X (.builtin "sorted") (fun xs H Q=>∃ p ns,xs=[.ref p]∧(SqL K H p (ns.map V.int)∨SqT K H p (ns.map V.int)∨H p=some (SetO w p ns))∧ns.length<64∧
  ∀ (a:Addr) (ns':List Int),H a=none→ns'.Perm ns→ns'.Pairwise (·≤·)→Q (.ref a) (upd H a (.lst (ns'.map V.int)))):=by subst hK hw;exact call_sorted hc
theorem call_setK {X:Cx} {K:PySem.W.Frag} {w:World} (hK:X.K=K) (hw:X.w=w) (hc:X.calm=true):CallR X (.type "set") (fun xs H Q=>∃ p ns,xs=[.ref p]∧SqL K H p (ns.map V.int)∧ns.length≤4∧∀ a,H a=none→Q (.ref a) (upd H a (SetO w a (dedI ns)))):=by subst hK hw;exact call_set hc
end L2
namespace L2
open PySem PySem.Spec PyProof.Rows
def Ite (K:PySem.W.Frag) (l:Addr):It:=
 ⟨fun i H=>∃ xs x,SqL K H l xs∧xs[i]?=some x,fun i H v H'=>∃ T x,H T=none∧v=.ref T∧H'=upd H T (.tup [.int (i:Int),x])∧∀ xs,SqL K H l xs→xs[i]?=some x,fun i H=>∃ xs,SqL K H l xs∧xs.length≤i⟩
section
variable {X:Cx}
theorem Inv.turnedL {pins:List (Addr × Obj)} {s:Shared} {σ:St} {H:Hp} {h':Heap} {t':Nat} {ch:List Addr} (I:Inv X pins σ H s) (k:∀ b o,b ∉ ch→s.heap.get? b=some o→h'.get? b=some o) (hc:∀ b ∈ ch,FpOk X pins H b):Inv X pins σ H { s with heap:=h',toks:=t' }:=by
 have nit:∀ b u,H b=some u→b ∉ ch:=fun b u e z=>by rw [(hc b z).1] at e;cases e
 refine I.step (g':=s.gens) (d':=s.drawn) (ch:=ch) (fun b hb=>⟨(hc b hb).2.2.2.1,(hc b hb).2.1,(hc b hb).2.2.2.2.1,(hc b hb).2.2.2.2.2⟩) (fun b o _ _ hc' e _=>k b o hc' e) (fun b o _ _ hc' e _=>⟨o.slots,k b o hc' e⟩) (fun _ _ _ _ n=>n)
  (fun b o hc' e=>⟨o,k b o hc' e⟩) (fun _ _ e=>e) (fun _ _ _ e=>e) (fun b ps e=>⟨#[],by rw [e];simp⟩) (fun m hm=>?_) (fun b u e=>?_) I.bare
 ·obtain ⟨o,es,ep,ho,r⟩:=hm
  exact ⟨o,es,ep,k _ o (fun z=>(hc _ z).2.1 rfl) ho,r⟩
 ·refine (I.hok b u e).stay (fun c v hc' q=>k c v ?_ q) (fun _ q=>q) fun _ _ q=>q
  rcases hc' with z | z
  ·rw [z];exact nit b u e
  ·exact nit c _ z
theorem turn_enum {P:Program} {w:World} {K:PySem.W.Frag} {elts:List Expr} {k:Nat} {pos:Pos} (l it e:Addr) (hne:e ≠ it):Turn P w K (.Tuple elts k pos) (Ite K l) [e,it] e (fun i h=>(∃ old,IsEnum h e it i old)∧h.IsListIter it l i) where
 mem:=by simp
 obj:=fun i h st b hb=>by
  obtain ⟨⟨old,h1⟩,o,h2,_,h4⟩:=st
  have e':b=e∨b=it:=by simpa using hb
  rcases e' with rfl | rfl
  ·exact ⟨_,h1,fun v z=>by
    have z':Data.fields _=Data.cell v:=z
    cases z'⟩
  ·exact ⟨o,h2,fun v z=>by rw [h4] at z;cases z⟩
 keep:=fun i h h' st kk=>by
  obtain ⟨⟨old,h1⟩,h2⟩:=st
  exact ⟨⟨old,kk e (by simp) _ h1⟩,h2.at fun o q=>kk it (by simp) o q⟩
 item:=by
  intro X hP hw hK hc i pins s σ H E I hf st hg
  subst hP hw hK
  obtain ⟨xs,x,hq,hx⟩:=hg
  obtain ⟨its,rv,p,hz⟩:=I.list hq
  obtain ⟨u,hu,ru⟩:=rv.get hx
  obtain ⟨⟨old,h1⟩,h2⟩:=st
  refine wpAny_pyNext_enum_item h1 h2 p.isList (x:=u) (by simpa using hu) hne fun h' a1 a2 a3 a4 a5=>?_
  refine ⟨_,rfl,wpAny_letOwnedTupleGo_enum a1 fun h2 b1 b2=>?_⟩
  have ltE:e<s.heap.objs.size:=Heap.lt_size h1
  have I1:Inv X pins σ H { s with heap:=h2,toks:=s.toks+1 }:=I.turnedL (ch:=[e,it]) (fun b o hb q=>by
   have hb1:b ≠ e:=fun z=>hb (by simp [z])
   have hb2:b ≠ it:=fun z=>hb (by simp [z])
   exact (b2.2 b hb1).trans (a5 b o hb1 hb2 q)) hf
  have hT:H s.heap.objs.size=none:=I.hok.fresh (Nat.le_refl _)
  have fT:=I.fpOk (H':=H) (b:=s.heap.objs.size) (Nat.le_refl _) hT
  have gT:h2.get? s.heap.objs.size=some { cls:=.type "tuple",data:=.seq #[.int i s.toks,u] }:=(b2.2 _ (Nat.ne_of_gt ltE)).trans a3
  refine ⟨.ref s.heap.objs.size,upd H s.heap.objs.size (.tup [.int (i:Int),x]),I1.track hT I.sz fT.2.1 fT.2.2.2.2.1 fT.2.2.2.2.2 ⟨by simp only [List.length_cons,List.length_nil];rw [sizeLine_eq];decide,[.int (i:Int) s.toks,u],.cons ⟨_,rfl⟩ (.cons ru .nil),⟨_,gT,rfl,_,rfl⟩⟩,rfl,
   ⟨_,x,hT,rfl,rfl,fun ys hy=>by rw [I.list_inj hy hq];exact hx⟩,⟨⟨_,b1⟩,a2.at fun o q=>(b2.2 it (Ne.symm hne)).trans q⟩,fun b hb=>?_⟩
  have ltb:b<s.heap.objs.size:=by
   have e':b=e∨b=it:=by simpa using hb
   rcases e' with rfl | rfl
   ·exact ltE
   ·obtain ⟨o,q,_⟩:=h2;exact Heap.lt_size (by assumption)
  rw [upd_ne (Nat.ne_of_lt ltb)]
  exact (hf b hb).1
 done:=by
  intro X hP hw hK hc i pins s σ H E I hf st hg
  subst hP hw hK
  obtain ⟨xs,hq,hx⟩:=hg
  obtain ⟨its,rv,p,hz⟩:=I.list hq
  have hl:=rv.length
  obtain ⟨⟨old,h1⟩,h2⟩:=st
  exact wpAny_pyNext_enum_end (I.ok.hd hc) h1 h2 p.isList (by simp;omega) fun h' eb=>⟨rfl,I.turnedL (t':=s.toks) (ch:=[e,it]) (fun b o hb q=>eb b o (fun z=>hb (by simp [z])) q) hf⟩
 self:=fun _ _ _ _ _ st h=>by
  obtain ⟨⟨old,h1⟩,h2⟩:=st
  exact wpAny_pyIter_enum h1 h
def iEnum (K:PySem.W.Frag) (ta:TA):TI:=fun σ H R=>ta σ H fun vs H1=>∃ l,vs=[.ref l]∧(∃ xs,SqL K H1 l xs)∧R (Ite K l) H1
theorem pi_enum {elts:List Expr} {k:Nat} {tpos:Pos} {a:Expr} {ta:TA} {p pos:Pos} (hg:Gl X "enumerate") (hm:X.mg "enumerate" = none) (hv:bootBuiltins "enumerate" = some (.type "enumerate")) (ha:PA X [a] ta) (hs:starEach [a] X.env=[(false,eval a X.env)]:=by rfl) :
  PI X (.Tuple elts k tpos) (.Call (.Name "enumerate" p) [a] [] pos) (iEnum X.K ta):=by
 intro pins s σ H R I h
 refine Call_ (ld_blt I hg hm hv (PyProof.Rows.callWith_type1 (thn (ha pos pins s σ H _ I h) fun us s1 ⟨vs,H1,I1,r1,q1⟩=>?_) hs rfl))
 obtain ⟨l,e,⟨xs,hq⟩,q⟩:=q1
 subst e
 obtain ⟨u,rfl,rx⟩:=vals1 r1
 cases rx
 obtain ⟨its,rv,pl,hz⟩:=I1.list hq
 refine call_enumerate_list pl.isList fun h' he hi hsz hk=>?_
 refine wpAny_pyIter_enum he ?_
 have I2:Inv X pins σ H1 { s1 with heap:=h' }:=I1.kept (t':=s1.toks) hk
 refine ⟨s1.heap.objs.size+1,[s1.heap.objs.size+1,s1.heap.objs.size],_,_,H1,rfl,I2,turn_enum l s1.heap.objs.size (s1.heap.objs.size+1) (Nat.succ_ne_self _),⟨⟨_,he⟩,hi⟩,fun b hb=>?_,q⟩
 have e':b=s1.heap.objs.size+1∨b=s1.heap.objs.size:=by simpa using hb
 rcases e' with rfl | rfl
 ·exact I1.fpOk (Nat.le_succ _) (I1.hok.fresh (Nat.le_succ _))
 ·exact I1.fpOk (Nat.le_refl _) (I1.hok.fresh (Nat.le_refl _))
end
theorem lc_enum {K:PySem.W.Frag} {a:Addr} {xs:List V} {g:TG} {tc:TT} {te:TE} {Kf:Hp→Prop} {σ0:St} {H0:Hp} {p:Addr} (Pv:Nat→St→Hp→Prop) (h0:Pv 0 σ0 H0) (hl:∀ i σ H,i≤xs.length→Pv i σ H→SqL K H a xs)
  (hs:∀ i x σ H T,xs[i]?=some x→Pv i σ H→H T=none→g (.ref T) σ (upd H T (.tup [.int (i:Int),x])) fun σ2 H2=>tc σ2 H2 fun b H3=>if b=true then te σ2 H3 fun y H4=>∃ ys,H4 p=some (.lst ys)∧ys.length<sizeLine∧Pv (i+1) σ2 (upd H4 p (.lst (ys++[y]))) else Pv (i+1) σ2 H3)
  (hd:∀ σ H,Pv xs.length σ H→Kf H) :
  ∃ W:Nat→Nat→St→Hp→Prop,(∃ m,W 0 m σ0 H0)∧∀ i m σ H,W i m σ H→
   ((Ite K a).stop i H∧Kf H)∨((Ite K a).go i H∧∃ N:St→Hp→Prop,(∀ σ' H',N σ' H'→∃ m',m'<m∧W (i+1) m' σ' H')∧∀ x H',(Ite K a).yld i H x H'→g x σ H' fun σ2 H2=>tc σ2 H2 fun b H3=>
    if b=true then te σ2 H3 fun y H4=>∃ ys,H4 p=some (.lst ys)∧ys.length<sizeLine∧N σ2 (upd H4 p (.lst (ys++[y]))) else N σ2 H3):=by
 refine ⟨fun i m σ H=>m=xs.length - i∧i≤xs.length∧Pv i σ H,⟨xs.length,by simp,Nat.zero_le _,h0⟩,?_⟩
 rintro i m σ H ⟨rfl,hi,q⟩
 have hq:=hl i σ H hi q
 by_cases hlt:i<xs.length
 ·refine .inr ⟨⟨xs,xs[i],hq,by simp [hlt]⟩,Pv (i+1),fun σ' H' p'=>⟨xs.length - (i+1),by omega,rfl,hlt,p'⟩,fun v H' y=>?_⟩
  obtain ⟨T,x,hT,e1,e2,y⟩:=y
  subst e1 e2
  exact hs i x σ H T (y xs hq) q hT
 ·have e:i=xs.length:=by omega
  subst e
  exact .inl ⟨⟨xs,hq,Nat.le_refl _⟩,hd σ H q⟩
end L2
namespace L2
open PySem PySem.Spec PyProof.Rows
section
variable {b:Bool} {prog:Program} {w:World} {A:Around} {E:Value→Shared→Prop} {s:Shared} {z TI TO i1 i2 l1 l2:Addr} {k1 k2:Nat} {xs ys:Array Value}
end
end L2
namespace L2
open PySem PySem.Spec PyProof.Rows
section
variable {X:Cx}
end
end L2
namespace L2
open PySem PySem.Spec PyProof.Rows
section
variable {X:Cx}
end
end L2
set_option maxHeartbeats 0
namespace L2
open PySem PyProof.Rows
section
variable {prog:Program} {w:World} {A:Around} {E:Value→Shared→Prop} {s:Shared}
end
end L2
set_option maxHeartbeats 0
namespace L2
open PySem PyProof.Rows
structure MR (R:Keyed→Keyed→Prop) (all out ra rb:List Keyed):Prop where
 perm:(out++(ra++rb)).Perm all
 up:out.Pairwise R
 ua:ra.Pairwise R
 ub:rb.Pairwise R
 la:∀ x ∈ out,∀ y ∈ ra,R x y
 lb:∀ x ∈ out,∀ y ∈ rb,R x y
section
variable {R:Keyed→Keyed→Prop} {all out ra rb xs:List Keyed}
end
def SE (st st':SortSt):Prop:=kindOf st'=kindOf st∧arrOf st'=arrOf st∧pendingOf st'=pendingOf st∧failedOf st'=failedOf st
end L2
set_option maxHeartbeats 0
namespace L2
open PySem PyProof.Rows
section
variable {prog:Program} {w:World} {A:Around} {E:Value→Shared→Prop} {s:Shared}
end
end L2
set_option maxHeartbeats 0
namespace L2
open PySem PyProof.Rows
section
variable {prog:Program} {w:World} {A:Around} {E:Value→Shared→Prop} {s:Shared}
end
end L2
set_option maxHeartbeats 0
namespace L2
open PySem PyProof.Rows
section
variable {prog:Program} {w:World} {A:Around} {E:Value→Shared→Prop} {s:Shared}
structure SG (a₀:Array Keyed) (st:SortSt):Prop where
 perm:(arrOf st).Perm a₀
 kind:kindOf st=oneType'
 failed:failedOf st=none
end
end L2
set_option maxHeartbeats 0
namespace L2
open PySem PyProof.Rows
section
variable {prog:Program} {w:World} {A:Around} {E:Value→Shared→Prop} {s:Shared} {a₀:Array Keyed}
end
end L2
set_option maxHeartbeats 0
namespace L2
open PySem PyProof.Rows
section
variable {prog:Program} {w:World} {A:Around} {E:Value→Shared→Prop} {s:Shared} {a₀:Array Keyed}
end
end L2
set_option maxHeartbeats 0
namespace L2
open PySem PySem.Spec PyProof.Rows
section
variable {prog:Program} {w:World} {A:Around} {E:Value→Shared→Prop} {s:Shared}
end
section
variable {X:Cx}
def Itd (lo:Int) (n:Nat):It:=⟨fun i _=>i<n,fun i H x H'=>H'=H∧x=.int (lo - i),fun i _=>n≤i⟩
theorem turn_down {P:Program} {w:World} {K:PySem.W.Frag} {tg:Expr} (it:Addr) (lo:Int) (n:Nat):Turn P w K tg (Itd lo n) [it] it (fun i h=>IsRangeIter h it (lo+(i:Nat) * (-1)) ((n:Int) - (i:Nat)) (-1)) where
 mem:=List.mem_singleton.mpr rfl
 obj:=fun i h st b hb=>by
  cases List.mem_singleton.mp hb
  exact ⟨_,st,fun v z=>nomatch (show Data.fields _=Data.cell v from z)⟩
 keep:=fun i h h' st k=>k it (List.mem_singleton.mpr rfl) _ st
 item:=by
  intro X hP hw hK hc i pins s σ H E I hf st hg
  subst hP hw hK
  obtain ⟨f0,f1,f2,f3,f4,f5⟩:=hf it (List.mem_singleton.mpr rfl)
  refine (Walks.range (prog:=X.prog) (w:=X.w) (I.ok.hd hc) it lo (-1) n).item i s _ _ hg st fun v h' tk hv st' kk=>?_
  obtain ⟨t,rfl⟩:=hv
  have I1:Inv X pins σ H { s with heap:=h',toks:=tk }:=I.turned (fun b o hb e=>kk b o (by simpa using hb) e) f0 f1 f3 f4 f5
  refine ⟨_,rfl,go_of (s:={ s with heap:=h',toks:=tk }) (n:="range_iterator") st' rfl rfl (by decide) ⟨.int (lo - i),H,I1,⟨t,?_⟩,⟨rfl,rfl⟩,st',fun b hb=>(hf b hb).1⟩⟩
  rw [show lo+(i:Int) * (-1)=lo - i by omega]
 done:=by
  intro X hP hw hK hc i pins s σ H E I hf st hg
  subst hP hw hK
  obtain ⟨f0,f1,f2,f3,f4,f5⟩:=hf it (List.mem_singleton.mpr rfl)
  have hle:n≤i:=hg
  exact wpAny_pyNext_range_end (I.ok.hd hc) st (by omega) fun h' eb=>⟨rfl,I.turned (t':=s.toks) (fun b o hb e=>eb b o hb e) f0 f1 f3 f4 f5⟩
 self:=fun _ _ _ _ _ st h=>wpAny_pyIter_rangeiter st h
def iRngD (ta:TA):TI:=fun σ H R=>ta σ H fun vs H1=>∃ i j:Int,vs=[.int i,.int j,.int (-1)]∧(-(2 ^ 62)≤i∧i<2 ^ 62∧-(2 ^ 62)≤j∧j<2 ^ 62)∧R (Itd i (i - j).toNat) H1
theorem pi_down {tg a b c:Expr} {ta:TA} {p pos:Pos} (hg:Gl X "range") (hm:X.mg "range" = none) (ha:PA X [a,b,c] ta) (hs:starEach [a,b,c] X.env=[(false,eval a X.env),(false,eval b X.env),(false,eval c X.env)]:=by rfl)
  (hs2:starEach [b,c] X.env=[(false,eval b X.env),(false,eval c X.env)]:=by rfl):PI X tg (.Call (.Name "range" p) [a,b,c] [] pos) (iRngD ta):=by
 intro pins s σ H R I h
 refine Call_ (ld_blt I hg hm boot_range (PyProof.Rows.callWith_type1 (thn (ha pos pins s σ H _ I h) fun us s1 ⟨vs,H1,I1,r1,q1⟩=>?_) (by rw [hs,hs2]) (by rw [hs2];rfl)))
 obtain ⟨i,j,e,⟨q1,q2,q3,q4⟩,q⟩:=q1
 subst e
 obtain ⟨u1,rr,rfl,⟨t1,rfl⟩,r2⟩:∃ u rr,us=u::rr∧RelV (.int i) u∧Vals [.int j,.int (-1)] rr:=by cases r1 with | cons r rr=>exact ⟨_,_,rfl,r,rr⟩
 obtain ⟨u2,u3,rfl,⟨t2,rfl⟩,⟨t3,rfl⟩⟩:=vals2 r2
 refine call_range_3 (by decide) ?_ (Or.inl (PyProof.noPylong_small (by omega)))
 refine wpAny_pyIter_range (IsRange.new ..) (PySem.W.small_down q1 q2 q3 q4) ?_
 have I2:Inv X pins σ H1 { s1 with heap:=s1.heap.push { cls:=.type "range",data:=.fields #[.int i t1,.int j t2,.int (-1) t3] },toks:=s1.toks }:=I1.kept fun b o e=>Heap.get?_push_of_some _ e
 refine ⟨(s1.heap.push { cls:=.type "range",data:=.fields #[.int i t1,.int j t2,.int (-1) t3] }).objs.size,[(s1.heap.push { cls:=.type "range",data:=.fields #[.int i t1,.int j t2,.int (-1) t3] }).objs.size],_,_,H1,rfl,
  I2.kept (t':=s1.toks) fun b o e=>Heap.get?_push_of_some _ e,turn_down _ i (i - j).toNat,?_,fun b hb=>?_,q⟩
 ·have e1:i+((0:Nat):Int) * (-1)=i:=by simp
  have e2:(((i - j).toNat:Nat):Int) - ((0:Nat):Int)=Builtin.Range.rangeSize i j (-1):=by rw [PySem.W.rangeSize_downNat];simp
  show IsRangeIter _ _ (i+((0:Nat):Int) * (-1)) ((((i - j).toNat:Nat):Int) - ((0:Nat):Int)) (-1)
  rw [e1,e2]
  exact Heap.get?_push_size _ rfl
 ·cases List.mem_singleton.mp hb
  exact I2.fpOk (Nat.le_refl _) (I2.hok.fresh (Nat.le_refl _))
theorem for_down {lo:Int} {n:Nat} {g:TG} {tb:TS} {D:Ends} {σ:St} {H:Hp} (Pv:Nat→St→Hp→Prop) (h0:Pv 0 σ H)
  (hs:∀ i σ H,i<n→Pv i σ H→g (.int (lo - i)) σ H fun σ2 H2=>tb { D with nx:=Pv (i+1),ct:=Pv (i+1),bk:=D.nx } σ2 H2) (hd:∀ σ H,Pv n σ H→D.nx σ H) :
  ∃ W:Nat→Nat→St→Hp→Prop,(∃ m,W 0 m σ H)∧∀ i m σ H,W i m σ H→
   ((Itd lo n).stop i H∧D.nx σ H)∨((Itd lo n).go i H∧∃ N:St→Hp→Prop,(∀ σ' H',N σ' H'→∃ m',m'<m∧W (i+1) m' σ' H')∧∀ x H',(Itd lo n).yld i H x H'→g x σ H' fun σ2 H2=>tb { D with nx:=N,ct:=N,bk:=D.nx } σ2 H2):=by
 refine ⟨fun i m σ H=>m=n - i∧i≤n∧Pv i σ H,⟨n,by simp,Nat.zero_le _,h0⟩,fun i m σ H ⟨e,hi,p⟩=>?_⟩
 rcases Nat.lt_or_ge i n with hlt | hge
 ·refine .inr ⟨hlt,Pv (i+1),fun σ' H' p'=>⟨n - (i+1),by omega,rfl,hlt,p'⟩,fun x H' y=>?_⟩
  rw [y.1,y.2]
  exact hs i σ H hlt p
 ·have e2:i=n:=by omega
  rw [e2] at p
  exact .inl ⟨hge,hd σ H p⟩
theorem op_ne_nil (hu:X.A.units<cLine):OpR X (compareOp .NotEq) (fun x y H Q=>∃ p l xs,x=.ref p∧y=.ref l∧SqL X.K H p xs∧SqL X.K H l []∧Q (.bl (!xs.isEmpty)) H):=by
 intro pins s σ H x y v u Q I rx ry h
 obtain ⟨p,l,xs,rfl,rfl,h1,h2,q⟩:=h
 cases rx
 cases ry
 obtain ⟨its,r1,p1,z1⟩:=I.list h1
 obtain ⟨its2,r2,p2,z2⟩:=I.list h2
 cases r2
 cases r1 with
 | nil=>exact PySem.SeqAt.RcNeAt.lists (e:=fun _=>true) p1.isList p2.isList rfl hu (fun j h _=>absurd h (by simp)) _ _ _ _ ⟨.bl false,H,I,rfl,q⟩
 | cons a r=>exact PySem.SeqAt.RcNeAt.lists_lengths p1.isList p2.isList (by simp) hu _ _ _ _ ⟨.bl true,H,I,rfl,q⟩
end
end L2
set_option maxHeartbeats 0
namespace L2
open PySem PySem.Spec PyProof.Rows
open PySem.AutoSeq1 in
section
variable {X:Cx}
end
end L2
set_option maxHeartbeats 0
namespace L2
open PySem PySem.Spec PyProof.Rows
def topI (b:Int) (l:List Int):Int:=l.foldl (fun b x=>if x > b then x else b) b
theorem topI_ge:∀ (l:List Int) (b:Int),b≤topI b l∧(∀ x ∈ l,x≤topI b l)∧(topI b l=b∨topI b l ∈ l)
 | [],b=>⟨Int.le_refl _,(fun _ z=>nomatch z),.inl rfl⟩
 | y::l,b=>by
  obtain ⟨h1,h2,h3⟩:=topI_ge l (if y > b then y else b)
  have e:topI b (y::l)=topI (if y > b then y else b) l:=rfl
  rw [e]
  have hb:b≤(if y > b then y else b)∧y≤(if y > b then y else b):=by split <;> omega
  refine ⟨by omega,fun x hx=>?_,?_⟩
  ·rcases List.mem_cons.mp hx with hx | hx
   ·omega
   ·exact h2 x hx
  ·rcases h3 with h3 | h3
   ·split at h3
    ·rw [if_pos (by assumption)]
     exact .inr (by rw [h3];exact List.mem_cons_self)
    ·rw [if_neg (by assumption)]
     exact .inl h3
   ·exact .inr (List.mem_cons_of_mem _ h3)
section
variable {prog:Program} {w:World} {A:Around} {R:Result→Shared→Prop} {I:Addr} {fp wr:List Addr} {n:Nat} {P:Nat→Value→Prop} {St:Nat→Heap→Prop}
theorem max_run (W:Walks prog w A.in1 I fp wr n P St) (kw:List (Str × Value)) (ns:List Int) (hn:ns.length=n) (hval:∀ i v,P i v→∃ t,v=.int (ns.getD i 0) t) (S:Addr) (hSf:S ∉ fp) :
  ∀ (k j:Nat) (s:Shared) (b:Int) (t:Tok) (c:Nat),n - j=k→j≤n→St j s.heap→s.heap.get? S=some { cls:=.type "list",dict:=none,data:=.seq #[.int b t,.int b t] c,slots:=#[] }→
  (∀ t' h' tk,(∀ x o,x ∉ wr→x ≠ S→s.heap.get? x=some o→h'.get? x=some o)→R (.ok (.ret (.int (topI b (ns.drop j)) t'))) { s with heap:=h',toks:=tk })→
  codeAny (model prog w) A (.builtin "max.loop" ⟨[.ref I,.none,.ref S],kw⟩) R s:=by
 have hSw:S ∉ wr:=fun h=>hSf (W.sub _ h)
 have hname:(toString "max" ++ toString ".loop" : String) = "max.loop":=by decide
 intro k
 induction k with
 | zero=>
  intro j s b t c hk hj st hS hR
  have e:j=n:=by omega
  refine codeAny_builtin F.entry_max_loop ?_
  rw [Around.under_plainId F.plain_max_loop _]
  show wpAny _ A.in1 (seqItems? (.ref S) >>= _) _ _ s
  refine wpAny_bind (wpAny_seqItems hS rfl ?_)
  show wpAny _ A.in1 (tryCatch (pyNext (.ref I)) _ >>= _) _ _ s
  refine wpAny_bind (wpAny_tryCatch (W.done s _ _ (e ▸ st) fun h' tk hk'=>?_))
  show wpAny _ A.in1 (updateSeq S (fun _=>#[]) >>= _) _ _ _
  refine wpAny_bind (wpAny_updateSeq (hk' S _ hSw hS) rfl (wpAny_bind (wpAny_letGo (wpAny_pure ?_))))
  rw [List.drop_of_length_le (by omega)] at hR
  exact hR t _ tk fun x o hx hxS ex=>(Heap.get?_update_other _ _ (Ne.symm hxS)).trans (hk' x o hx ex)
 | succ k ih=>
  intro j s b t c hk hj st hS hR
  have hlt:j<n:=by omega
  refine codeAny_builtin F.entry_max_loop ?_
  rw [Around.under_plainId F.plain_max_loop _]
  show wpAny _ A.in1 (seqItems? (.ref S) >>= _) _ _ s
  refine wpAny_bind (wpAny_seqItems hS rfl ?_)
  show wpAny _ A.in1 (tryCatch (pyNext (.ref I)) _ >>= _) _ _ s
  refine wpAny_bind (wpAny_tryCatch (W.item j s _ _ hlt st fun v h' tk hP st' hk'=>?_))
  have hS':=hk' S _ hSw hS
  obtain ⟨u,rfl⟩:=hval j v hP
  have ed:ns.drop j=ns.getD j 0::ns.drop (j+1):=by
   have hj':j<ns.length:=by omega
   rw [List.drop_eq_getElem_cons hj',List.getD_eq_getElem?_getD,List.getElem?_eq_getElem hj']
   rfl
  rw [ed] at hR
  generalize ns.getD j 0=y at hR hP ⊢
  show wpAny _ A.in1 (tryCatch (holding [Value.int y u,Value.int y u] (richCompare .Gt (.int y u) (.int b t) >>= _)) _ >>= _) _ _ _
  refine wpAny_bind (wpAny_tryCatch (wpAny_holding (wpAny_bind (richCompare_gives (op:=.Gt) (typeIs_int _ _ u) (typeIs_int _ _ t) F.slot_int_gt F.entry_int_gt (F.args_int_gt_2 _ _) (gives_int_gt _ _ u t) (fun x=>nomatch x) ?_))))
  refine wpAny_bind (wpAny_holding (wpAny_truthy_bool (wpAny_bind (wpAny_letGo (wpAny_pure ?_)))))
  by_cases hb:y > b
  ·rw [decide_eq_true hb,if_pos rfl]
   have et:topI b (y::ns.drop (j+1))=topI y (ns.drop (j+1)):=by show topI (if y > b then y else b) _=_;rw [if_pos hb]
   rw [et] at hR
   refine wpAny_bind (wpAny_updateSeq hS' rfl (wpAny_bind (wpAny_letGo ?_)))
   rw [hname]
   refine wpAny_pure ⟨plainId_quiet F.plain_max_loop _,ih (j+1) _ y u _ (by omega) hlt (W.frame _ _ _ st' fun x hx o ex=>?_) (Heap.get?_update_self _ hS' rfl) fun t' h2 tk2 hk2=>?_⟩
   ·exact (Heap.get?_update_other _ _ (fun z:S=x=>hSf (by rw [z];exact hx))).trans ex
   ·exact hR t' h2 tk2 fun x o hx hxS ex=>hk2 x o hx hxS ((Heap.get?_update_other _ _ (Ne.symm hxS)).trans (hk' x o hx ex))
  ·rw [decide_eq_false hb,if_neg Bool.false_ne_true]
   have et:topI b (y::ns.drop (j+1))=topI b (ns.drop (j+1)):=by show topI (if y > b then y else b) _=_;rw [if_neg hb]
   rw [et] at hR
   refine wpAny_bind (wpAny_letGo ?_)
   rw [hname]
   exact wpAny_pure ⟨plainId_quiet F.plain_max_loop _,ih (j+1) _ b t c (by omega) hlt st' hS' fun t' h2 tk2 hk2=>hR t' h2 tk2 fun x o hx hxS ex=>hk2 x o hx hxS (hk' x o hx ex)⟩
theorem max_first (W:Walks prog w A.in1 I fp wr n P St) (kw:List (Str × Value)) (ns:List Int) (hn:ns.length=n) (hval:∀ i v,P i v→∃ t,v=.int (ns.getD i 0) t) (S:Addr) (hSf:S ∉ fp) {s:Shared} {c:Nat} (st:St 0 s.heap)
  (hS:s.heap.get? S=some { cls:=.type "list",dict:=none,data:=.seq #[] c,slots:=#[] })
  (h1:∀ y r,ns=y::r→∀ t' h' tk,(∀ x o,x ∉ wr→x ≠ S→s.heap.get? x=some o→h'.get? x=some o)→R (.ok (.ret (.int (topI y r) t'))) { s with heap:=h',toks:=tk })
  (h2:ns=[]→∃ nm dv,kw=[(nm,dv)]∧∀ h' tk,(∀ x o,x ∉ wr→x ≠ S→s.heap.get? x=some o→h'.get? x=some o)→R (.ok (.ret dv)) { s with heap:=h',toks:=tk }) :
  codeAny (model prog w) A (.builtin "max.loop" ⟨[.ref I,.none,.ref S],kw⟩) R s:=by
 have hSw:S ∉ wr:=fun h=>hSf (W.sub _ h)
 have hname:(toString "max" ++ toString ".loop" : String) = "max.loop":=by decide
 refine codeAny_builtin F.entry_max_loop ?_
 rw [Around.under_plainId F.plain_max_loop _]
 show wpAny _ A.in1 (seqItems? (.ref S) >>= _) _ _ s
 refine wpAny_bind (wpAny_seqItems hS rfl ?_)
 show wpAny _ A.in1 (tryCatch (pyNext (.ref I)) _ >>= _) _ _ s
 cases ns with
 | nil=>
  obtain ⟨nm,dv,rfl,h3⟩:=h2 rfl
  refine wpAny_bind (wpAny_tryCatch (W.done s _ _ (hn ▸ st) fun h' tk hk'=>?_))
  show wpAny _ A.in1 (rule _ >>= fun _=>ret dv) _ _ _
  exact wpAny_bind (wpAny_rule (wpAny_pure (h3 _ tk fun x o hx _ ex=>hk' x o hx ex)))
 | cons y r=>
  refine wpAny_bind (wpAny_tryCatch (W.item 0 s _ _ (by rw [← hn];simp) st fun v h' tk hP st' hk'=>?_))
  have hS':=hk' S _ hSw hS
  obtain ⟨u,rfl⟩:=hval 0 v hP
  show wpAny _ A.in1 (updateSeq S (fun _=>#[Value.int y u,Value.int y u]) >>= _) _ _ _
  refine wpAny_bind (wpAny_updateSeq hS' rfl ?_)
  rw [hname]
  refine wpAny_pure ⟨plainId_quiet F.plain_max_loop _,max_run W kw (y::r) hn hval S hSf _ 1 _ y u _ rfl (by rw [← hn];simp) (W.frame _ _ _ st' fun x hx o ex=>?_) (Heap.get?_update_self _ hS' rfl) fun t' h2 tk2 hk2=>?_⟩
  ·exact (Heap.get?_update_other _ _ (fun z:S=x=>hSf (by rw [z];exact hx))).trans ex
  ·exact h1 y r rfl t' h2 tk2 fun x o hx hxS ex=>hk2 x o hx hxS ((Heap.get?_update_other _ _ (Ne.symm hxS)).trans (hk' x o hx ex))
end
section
variable {prog:Program} {w:World} {A:Around} {E:Value→Shared→Prop} {s:Shared}
theorem call_tree_kw {id:String} {b:Builtin} {args:List Value} {kw:List (Str × Value)} {Q:Value→Shared→Prop} (hk:builtinKind id=none) (hp:plainId id=true) (hb:entryFor table id=some b) (ha:argsOk id ⟨args,kw⟩)
  (hc:wpAny (model prog w) A.in1 (b ⟨args,kw⟩) (fun fin s'=>∃ c',fin=.again c'∧c'.quiet=true∧codeAny (model prog w) A c' (fun r s'=>∃ v,r=.ok (.ret v)∧Q v s') s') E s):wpAny (model prog w) A (call (.builtin id) args kw) Q E s:=by
 refine wpAny_call (codeAny_call_builtin hp hb ?_)
 have h2:=wpAny_mono hc (Q':=fun fin s'=>match fin with
   | .done f=>(match (Except.ok f:Result) with | .ok (.ret v)=>Q v s' | .ok _=>False | .error e=>E e s')
   | .again c'=>c'.quiet=true∧codeAny (model prog w) A c' (fun r s'=>match r with | .ok (.ret v)=>Q v s' | .ok _=>False | .error e=>E e s') s')
  (fun fin s' ⟨c',e,h1,h2⟩=>by subst e;exact ⟨h1,codeAny_mono h2 fun r s' ⟨v,e,q⟩=>by subst e;exact q⟩) fun _ _ h'=>h'
 simp only [checkBuiltinCall,hk]
 cases sg:Manifest.signature? id with
 | none=>exact wpAny_pure h2
 | some sig=>
  have ha':Bind.checkArgs id sig ⟨args,kw⟩=pure ():=by simpa only [argsOk,sg] using ha
  simp only [ha']
  exact wpAny_pure h2
end
section
variable {X:Cx}
def topD (dv:Option Int):List Int→Option Int
 | []=>dv
 | y::r=>some (topI y r)
theorem max_any {pins:List (Addr × Obj)} {s:Shared} {σ:St} {H:Hp} {Q:VK} {p:Addr} {ns:List Int} {kw:List (Str × Value)} {dv:Option Int} (hc:X.calm=true) (I:Inv X pins σ H s) (hq:SqL X.K H p (ns.map V.int))
  (ok:argsOk "max" ⟨[.ref p],kw⟩) (df:Option Value) (hb:Builtin.Builtins.bindParams "max" ["key","default"] 0 ⟨[],kw⟩=pure [none,df]) (hdf:df=none∧dv=none∨∃ d t,df=some (.int d t)∧dv=some d)
  (m:Int) (em:topD dv ns=some m) (q:Q (.int m) H):wpAny (model X.prog X.w) X.A (call (.builtin "max") [.ref p] kw) (EP X pins σ Q) X.xe s:=by
 obtain ⟨its,rv,pl,hz⟩:=I.list hq
 have hl:=pl.isList
 have hlt:p<s.heap.objs.size:=by obtain ⟨_,e,_⟩:=hl;exact Heap.lt_size e
 have hlen:=rv.length
 rw [List.length_map] at hlen
 have ia:=intsAre_of' rv
 have hname:(toString "max" ++ toString ".loop" : String) = "max.loop":=by decide
 refine call_tree_kw F.kind_max F.plain_max F.entry_max ok ?_
 show wpAny _ _ (Builtin.Builtins.bindParams "max" ["key","default"] 0 ⟨[],kw⟩ >>= _) _ _ s
 refine wpAny_bind (wpAny_of_eq hb ?_)
 refine wpAny_bind (wpAny_pure ?_)
 refine wpAny_bind (wpAny_pyIter_list hl ?_)
 refine wpAny_bind (wpAny_newObj_type ?_)
 rw [hname]
 have w0:X.A.in1.handled=none:=I.ok.hd hc
 refine wpAny_pure ⟨_,rfl,plainId_quiet F.plain_max_loop _,?_⟩
 refine max_first (Walks.list w0 _ p (Nat.ne_of_lt hlt) its.toArray) _ ns (by simpa using hlen) (fun i v hv=>?_) _ ?_ (c:=0) ?_ (Heap.get?_push_size _ rfl) ?_ ?_
 ·exact PyProof.Rows.IntsAre.int_at ia i v (by simpa using hv)
 ·simp only [Heap.size_push,List.mem_cons,List.not_mem_nil,or_false,not_or]
  exact ⟨Nat.succ_ne_self _,Nat.ne_of_gt (Nat.lt_succ_of_lt hlt)⟩
 ·exact ⟨⟨_,Heap.get?_push_of_some _ (Heap.get?_push_size _ rfl),rfl,rfl⟩,(hl.push _).push _⟩
 ·intro y r e t' h' tk hk
  subst e
  cases em
  refine ⟨_,rfl,.int _,H,I.kept (t':=tk) fun b o eb=>hk b o ?_ ?_ (Heap.get?_push_of_some _ (Heap.get?_push_of_some _ eb)),⟨t',rfl⟩,q⟩
  ·simp only [List.mem_cons,List.not_mem_nil,or_false]
   exact Nat.ne_of_lt (Heap.lt_size eb)
  ·rw [Heap.size_push]
   exact Nat.ne_of_lt (Nat.lt_succ_of_lt (Heap.lt_size eb))
 ·intro e
  subst e
  rcases hdf with ⟨_,e2⟩ | ⟨d,t,rfl,rfl⟩
  ·rw [e2] at em
   cases em
  ·cases em
   refine ⟨_,_,rfl,fun h' tk hk=>⟨_,rfl,.int _,H,I.kept (t':=tk) fun b o eb=>hk b o ?_ ?_ (Heap.get?_push_of_some _ (Heap.get?_push_of_some _ eb)),⟨t,rfl⟩,q⟩⟩
   ·simp only [List.mem_cons,List.not_mem_nil,or_false]
    exact Nat.ne_of_lt (Heap.lt_size eb)
   ·rw [Heap.size_push]
    exact Nat.ne_of_lt (Nat.lt_succ_of_lt (Heap.lt_size eb))
theorem call_maxL (hc:X.calm=true):CallR X (.builtin "max") (fun xs H Q=>∃ p ns m,xs=[.ref p]∧SqL X.K H p (ns.map V.int)∧topD none ns=some m∧Q (.int m) H):=by
 intro pins s σ H xs us Q I r h
 obtain ⟨p,ns,m,rfl,hq,em,q⟩:=h
 obtain ⟨u,rfl,rx⟩:=vals1 r
 cases rx
 exact max_any hc I hq (F.args_max1 _) none rfl (.inl ⟨rfl,rfl⟩) m em q
end
end L2
set_option maxHeartbeats 0
namespace L2
open PySem PySem.Spec PyProof.Rows
section
variable {prog:Program} {w:World} {A:Around} {E:Value→Shared→Prop} {s:Shared}
end
section
variable {prog:Program} {w:World} {A:Around} {R:Result→Shared→Prop} {I:Addr} {fp wr:List Addr} {n:Nat} {P:Nat→Value→Prop} {St:Nat→Heap→Prop}
end
section
variable {prog:Program} {w:World} {A:Around} {E:Value→Shared→Prop} {s:Shared}
end
section
variable {X:Cx}
end
end L2
set_option maxHeartbeats 0
namespace L2
open PySem PySem.Spec PyProof.Rows
section
variable {X:Cx}
def rCatA (K:PySem.W.Frag):R2:=fun x y H Q=>∃ a b xs ys,x=.ref a∧y=.ref b∧SqT K H a xs∧SqT K H b ys∧ys ≠ []∧xs.length+ys.length≤sizeLine∧(xs=[]→Q (.ref b) H)∧(xs ≠ []→∀ p,H p=none→Q (.ref p) (upd H p (.tup (xs++ys))))
theorem op_catA:OpR X (binaryOp .Add) (rCatA X.K):=by
 intro pins s σ H x y v u Q I rx ry h
 obtain ⟨a,b,xs,ys,rfl,rfl,ha,hb,hy,hz,q1,q2⟩:=h
 by_cases hx:xs=[]
 ·subst hx
  cases rx
  cases ry
  obtain ⟨its,r1,p1,_⟩:=I.tuple ha
  obtain ⟨its2,r2,p2,_⟩:=I.tuple hb
  cases r1
  obtain ⟨⟨cls,dd,data,sl⟩,ho,hc,n,hd⟩:=id p1
  obtain ⟨⟨cls2,dd2,data2,sl2⟩,ho2,hc2,n2,hd2⟩:=id p2
  simp only at hc hd hc2 hd2
  subst hc hd hc2 hd2
  exact concat_meets ⟨_,ho,rfl⟩ ⟨_,ho2,rfl⟩ noFill_tuple_add seq_tuple_add PySem.F.slot_tuple_add PySem.F.entry_tuple_add (PySem.F.args_tuple_add_2 _ _) (tuple_addW0 a b #[] its2.toArray n n2 dd dd2 sl sl2 rfl) ⟨ho,ho2,.ref b,H,I,rfl,q1 rfl⟩
 ·exact op_catT pins s σ H (.ref a) (.ref b) v u Q I rx ry ⟨a,b,xs,ys,rfl,rfl,ha,hb,hx,hz,fun z=>absurd z hy,fun _=>q2 hx⟩
end
theorem for_enum {K:PySem.W.Frag} {a:Addr} {xs:List V} {g:TG} {tb:TS} {D:Ends} {σ0:St} {H0:Hp} (Pv:Nat→St→Hp→Prop) (h0:Pv 0 σ0 H0) (hl:∀ i σ H,i≤xs.length→Pv i σ H→SqL K H a xs)
  (hs:∀ i x σ H T,xs[i]?=some x→Pv i σ H→H T=none→g (.ref T) σ (upd H T (.tup [.int (i:Int),x])) fun σ2 H2=>tb { D with nx:=Pv (i+1),ct:=Pv (i+1),bk:=D.nx } σ2 H2)
  (hd:∀ σ H,Pv xs.length σ H→D.nx σ H) :
  ∃ W:Nat→Nat→St→Hp→Prop,(∃ m,W 0 m σ0 H0)∧∀ i m σ H,W i m σ H→
   ((Ite K a).stop i H∧D.nx σ H)∨((Ite K a).go i H∧∃ N:St→Hp→Prop,(∀ σ' H',N σ' H'→∃ m',m'<m∧W (i+1) m' σ' H')∧∀ x H',(Ite K a).yld i H x H'→g x σ H' fun σ2 H2=>tb { D with nx:=N,ct:=N,bk:=D.nx } σ2 H2):=by
 refine ⟨fun i m σ H=>m=xs.length - i∧i≤xs.length∧Pv i σ H,⟨xs.length,by simp,Nat.zero_le _,h0⟩,?_⟩
 rintro i m σ H ⟨rfl,hi,q⟩
 have hq:=hl i σ H hi q
 by_cases hlt:i<xs.length
 ·refine .inr ⟨⟨xs,xs[i],hq,by simp [hlt]⟩,Pv (i+1),fun σ' H' p'=>⟨xs.length - (i+1),by omega,rfl,hlt,p'⟩,fun v H' y=>?_⟩
  obtain ⟨T,x,hT,e1,e2,y⟩:=y
  subst e1 e2
  exact hs i x σ H T (y xs hq) q hT
 ·have e:i=xs.length:=by omega
  subst e
  exact .inl ⟨⟨xs,hq,Nat.le_refl _⟩,hd σ H q⟩
end L2
set_option maxHeartbeats 0
namespace L2
open PySem
def g5:Nat→Nat
 | 0=>0
 | n+1=>5 * g5 n+1
end L2
set_option maxHeartbeats 0
namespace L2
open PySem PySem.Spec PyProof.Rows
structure TabG (byText:Bool) (t:SetTable) (n:Nat):Prop where
 pow:∃ k,3≤k∧t.mask+1=2 ^ k
 dum:t.dummies=#[]
 plain:t.plain=true
 led:t.led=!byText
 size:t.place.size=n
 up:t.place.toList.Pairwise (·<·)
 le:∀ j ∈ t.place.toList,j≤t.mask
section
variable {byText:Bool} {t:SetTable} {n:Nat}
end
end L2
set_option maxHeartbeats 0
namespace L2
open PySem PySem.Spec PyProof.Rows
section
variable {mask:Nat} {owner:Array (Option Nat)}
end
structure Own (N:Nat) (L:List Nat) (owner:Array (Option Nat)):Prop where
 size:owner.size=N
 nd:L.Nodup
 lt:∀ j ∈ L,j<N
 at_:∀ (m j:Nat),L[m]?=some j→owner[j]?=some (some m)
 no:∀ j,j<N→j ∉ L→owner[j]?=some none
end L2
set_option maxHeartbeats 0
namespace L2
open PySem PySem.Spec PyProof.Rows
section
variable {prog:Program} {w:World} {A:Around} {E:Value→Shared→Prop} {s:Shared}
end
section
variable {prog:Program} {w:World} {A:Around} {R:Result→Shared→Prop} {I:Addr} {fp wr:List Addr} {G:Array GenState→Array GenState→Prop} {n:Nat} {P:Nat→Value→Prop} {St:Nat→Shared→Prop}
end
section
variable {prog:Program} {w:World} {A:Around} {E:Value→Shared→Prop} {s:Shared}
end
section
variable {prog:Program} {w:World} {A:Around} {E:Value→Shared→Prop} {s:Shared} {a I:Addr} {es:Array (Int × Value)} {ep:Nat} {t:SetTable} {i:Nat}
end
section
variable {X:Cx}
end
end L2
set_option maxHeartbeats 0
namespace L2
open PySem PySem.Spec PyProof.Rows
section
variable {X:Cx}
end
section
variable {prog:Program} {w:World} {A:Around} {E:Value→Shared→Prop} {s:Shared}
end
section
variable {X:Cx}
end
end L2
set_option maxHeartbeats 0
namespace L2
open PySem PySem.Spec PyProof.Rows
structure Ex (B:Heap) (l:List Env) (e:Addr) (cls:Value) (dd:Option Addr) (nt:Bool) (h:Heap):Prop where
 stays:B.StaysIn h
 new:B.get? e=none
 frames:h.FunFrames B l
 rec_:∃ (oe:Obj) (vs:Array Value) (x1:Value),h.get? e=some oe∧oe.cls=cls∧oe.dict=dd∧oe.data=.fields vs∧vs[1]?=some x1∧
  ((x1=.none∧nt=false)∨∃ (T:Addr) (oT:Obj) (ts:Array Value) (x3:Value),x1=.ref T∧B.get? T=none∧T ≠ e∧h.get? T=some oT∧oT.data=.fields ts∧ts[3]?=some x3)
theorem Ex.tail {B:Heap} {env:Env} {l:List Env} {e:Addr} {cls:Value} {dd:Option Addr} {nt:Bool} {h:Heap} (x:Ex B (env::l) e cls dd nt h):Ex B l e cls dd nt h:=⟨x.stays,x.new,x.frames.2.2,x.rec_⟩
section
variable {M:Model} {A:Around} {E:Value→Shared→Prop} {s:Shared} {B:Heap} {env:Env} {outer l:List Env} {L e:Addr} {cls:Value} {dd:Option Addr} {nt:Bool} {Q:Unit→Shared→Prop}
theorem ex_entry {oe:Obj} {vs:Array Value} {head:Value} {hadNext:Bool} (hfr:A.frames=some (env::outer)) (hl:s.heap.FunFrames B (env::outer)) (hf:env.frame=some L)
  (he:s.heap.get? e=some oe) (hkb:B.StaysIn s.heap) (hen:B.get? e=none) (hd:oe.data=.fields vs) (hsz:1<vs.size)
  (h:∀ h',Ex B (env::outer) e oe.cls oe.dict true h'→s.heap.UpToSlots h'→Q () { s with heap:=h' }) :
  wpAny M A (do let a ← frameOf env;let pl ← entryPlaceOf L hadNext;let b ← EntryCells.newEntry head a .none (rawInt L) .none pl;setField (.ref e) 1 b) Q E s:=by
 have hene:e ∉ (env::outer).filterMap (·.frame):=fun hm=>by
  obtain ⟨_,o,ho,hnf⟩:=hl.mem hm
  rw [he] at ho
  injection ho with ho
  subst ho
  exact hnf vs hd
 refine wpAny_bind (wpAny_frameOf_fun hfr hl hf fun h₁ hs₁=>?_)
 refine wpAny_bind (wpAny_entryPlaceOf fun pl hpl=>?_)
 unfold EntryCells.newEntry newFields
 refine wpAny_bind (wpAny_newObj_type ?_ (hpl.sizeOk5 _ _ _ _ _))
 have he₁:h₁.get? e=some oe:=(hs₁.2.1 e hene).trans he
 have kb₁:B.StaysIn h₁:=fun b o hbo=>(hs₁.2.1 b fun hm=>by rw [(hl.mem hm).1] at hbo;cases hbo).trans (hkb b o hbo)
 generalize ht:({ cls:=.type "traceback",dict:=none,data:=.fields ([head,.ref L,.none,rawInt L,.none]++(if pl.isEmpty then List.replicate 6 Value.none else pl)).toArray }:Obj)=oT
 have hdT:∃ ts:Array Value,oT.data=.fields ts∧∃ x3,ts[3]?=some x3:=by
  subst ht
  exact ⟨_,rfl,rawInt L,by simp⟩
 have nfT:oT.isFreed=false:=by subst ht;rfl
 have he₂:=Heap.get?_push_of_some (h:=h₁) oT he₁
 refine wpAny_setField he₂ hd hsz ?_
 have hTe:h₁.objs.size ≠ e:=Nat.ne_of_gt (Heap.lt_size he₁)
 have hd₃:=Obj.data_mapFields hd (·.setIfInBounds 1 (Value.ref h₁.objs.size))
 have he₃:=Heap.get?_update_self (Obj.mapFields (·.setIfInBounds 1 (Value.ref h₁.objs.size))) he₂ (Obj.isFreed_of_fields hd₃)
 have hT₃:=(Heap.get?_update_other (h₁.push oT) (Obj.mapFields (·.setIfInBounds 1 (Value.ref h₁.objs.size))) (Ne.symm hTe)).trans (Heap.get?_push_size h₁ nfT)
 have keep:∀ b o,b ≠ e→h₁.get? b=some o→((h₁.push oT).update e (Obj.mapFields (·.setIfInBounds 1 (Value.ref h₁.objs.size)))).get? b=some o:=fun b o hbe hb=>by
  rw [Heap.get?_update_other _ _ (Ne.symm hbe)]
  exact Heap.get?_push_of_some _ hb
 have noRecord:∀ b o,s.heap.get? b=some o→(∀ vs,o.data ≠ .fields vs)→b ≠ e:=fun b o hb hnf q=>by
  rw [q,he] at hb
  injection hb with hb
  subst hb
  exact hnf vs hd
 obtain ⟨ts,hts,x3,hx3⟩:=hdT
 refine h _ ⟨fun b o hbo=>keep b o (fun q=>by rw [q,hen] at hbo;cases hbo) (kb₁ b o hbo),hen,hl.of_keeps fun b o hb hnf=>?_,?_⟩ fun b o hb hnf=>?_
 ·obtain ⟨sl,hs⟩:=hs₁.2.2 b o hb
  exact ⟨_,keep b _ (noRecord b o hb hnf) hs,rfl⟩
 ·refine ⟨_,_,_,he₃,Obj.cls_mapFields _ _,?_,hd₃,?_,.inr ⟨h₁.objs.size,oT,ts,x3,rfl,kb₁.fresh,hTe,hT₃,hts,hx3⟩⟩
  ·obtain ⟨c,d,dt,sl⟩:=oe
   cases dt <;> rfl
  ·simp [hsz]
 ·obtain ⟨sl,hs⟩:=hs₁.2.2 b o hb
  exact ⟨sl,keep b _ (noRecord b o hb hnf) hs⟩
theorem ex_note (hfr:A.frames=some (env::outer)) (hf:env.frame=some L) (x:Ex B (env::outer) e cls dd nt s.heap) (h:∀ h',Ex B (env::outer) e cls dd true h'→s.heap.UpToSlots h'→Q () { s with heap:=h' }) :
  wpAny M A (noteFrame (.ref e) env) Q E s:=by
 obtain ⟨oe,vs,x1,he,rfl,rfl,hd,h1,hx⟩:=x.rec_
 have hsz:1<vs.size:=(Array.getElem?_eq_some_iff.mp h1).1
 unfold noteFrame
 simp only [hf]
 refine wpAny_bind (wpAny_field he hd h1 ?_)
 rcases hx with ⟨rfl,_⟩ | ⟨T,oT,ts,x3,rfl,hnT,hTe,hT,hdT,h3⟩
 ·rw [if_neg (by decide)]
  exact ex_entry hfr x.frames hf he x.stays x.new hd hsz h
 ·rw [if_pos (show (Value.ref T != Value.none)=true from by simp)]
  refine wpAny_bind (wpAny_field hT hdT h3 ?_)
  refine wpAny_ite_split (fun _=>?_) (fun _=>?_)
  ·exact wpAny_pure (h _ ⟨x.stays,x.new,x.frames,oe,vs,_,he,rfl,rfl,hd,h1,.inr ⟨T,oT,ts,x3,rfl,hnT,hTe,hT,hdT,h3⟩⟩ (Heap.UpToSlots.refl _))
  ·refine wpAny_bind (wpAny_setField hT hdT (Array.getElem?_eq_some_iff.mp h3).1 ?_)
   have other:∀ b,b ≠ T→(s.heap.update T (Obj.mapFields (·.setIfInBounds 3 Value.none))).get? b=s.heap.get? b:=fun b hb=>Heap.get?_update_other _ _ (Ne.symm hb)
   have noRecord:∀ b o,s.heap.get? b=some o→(∀ vs,o.data ≠ .fields vs)→b ≠ T:=fun b o hb hnf q=>by
    rw [q,hT] at hb
    injection hb with hb
    subst hb
    exact hnf ts hdT
   refine ex_entry hfr (x.frames.of_keeps fun b o hb hnf=>⟨o,(other b (noRecord b o hb hnf)).trans hb,rfl⟩) hf ((other e (Ne.symm hTe)).trans he)
    (fun b o hbo=>(other b fun q=>by rw [q,hnT] at hbo;cases hbo).trans (x.stays b o hbo)) x.new hd hsz
    fun h' x1 x2=>h h' x1 fun b o hb hnf=>x2 b o ((other b (noRecord b o hb hnf)).trans hb) hnf
theorem ex_flight {f:Option Addr} (x:Ex B l e cls dd true s.heap) (h:∀ h',Ex B l e cls dd true h'→s.heap.UpToSlots h'→Q () { s with heap:=h' }):wpAny M A (setFlight (.ref e) f) Q E s:=by
 obtain ⟨oe,vs,x1,he,rfl,rfl,hd,h1,hx⟩:=x.rec_
 rcases hx with ⟨_,z⟩ | ⟨T,oT,ts,x3,rfl,hnT,hTe,hT,hdT,h3⟩
 ·cases z
 have hsz3:3<ts.size:=(Array.getElem?_eq_some_iff.mp h3).1
 unfold setFlight
 refine wpAny_bind (wpAny_field he hd h1 ?_)
 rw [if_pos (show (Value.ref T != Value.none)=true from by simp)]
 have other:∀ b,b ≠ T→(s.heap.update T (Obj.mapFields (·.setIfInBounds 3 (f.elim Value.none fun f=>rawInt f)))).get? b=s.heap.get? b:=fun b hb=>Heap.get?_update_other _ _ (Ne.symm hb)
 have noRecord:∀ b o,s.heap.get? b=some o→(∀ vs,o.data ≠ .fields vs)→b ≠ T:=fun b o hb hnf q=>by
  rw [q,hT] at hb
  injection hb with hb
  subst hb
  exact hnf ts hdT
 refine wpAny_setField hT hdT hsz3 (h _ ⟨fun b o hbo=>(other b fun q=>by rw [q,hnT] at hbo;cases hbo).trans (x.stays b o hbo),x.new,
  x.frames.of_keeps fun b o hb hnf=>⟨o,(other b (noRecord b o hb hnf)).trans hb,rfl⟩,oe,vs,_,(other e (Ne.symm hTe)).trans he,rfl,rfl,hd,h1,.inr ⟨T,_,_,f.elim Value.none (fun f=>rawInt f),rfl,hnT,hTe,Heap.get?_update_self _ hT (Obj.isFreed_of_fields (Obj.data_mapFields hdT _)),Obj.data_mapFields hdT _,by simp [hsz3]⟩⟩
  fun b o hb hnf=>⟨o.slots,(other b (noRecord b o hb hnf)).trans hb⟩)
theorem ex_leave (hfr:A.frames=some (env::outer)) (hf:env.frame=some L) (x:Ex B (env::outer) e cls dd nt s.heap) (h:∀ h',Ex B outer e cls dd true h'→s.heap.UpToSlots h'→Q () { s with heap:=h' }) :
  wpAny M A (leaving env (.ref e)) Q E s:=by
 unfold leaving
 refine wpAny_bind (ex_note hfr hf x fun h1 x1 u1=>?_)
 exact ex_flight (s:={ s with heap:=h1 }) x1 fun h2 x2 u2=>h h2 x2.tail (u1.trans u2)
theorem ex_back (x:Ex B l e cls dd true s.heap) (h:∀ h',Ex B l e cls dd true h'→s.heap.UpToSlots h'→E (.ref e) { s with heap:=h' }):cameBackBy M A env E (.ref e) s:=by
 obtain ⟨oe,vs,x1,he,_,_,hd,h1,hx⟩:=x.rec_
 rcases hx with ⟨_,z⟩ | ⟨T,oT,ts,x3,rfl,hnT,hTe,hT,hdT,h3⟩
 ·cases z
 unfold cameBackBy
 refine wpAny_bind (wpAny_field he hd h1 ?_)
 rw [if_neg (show ¬ ((Value.ref T == Value.none)=true) from by simp)]
 exact ex_flight x h
end
end L2
set_option maxHeartbeats 0
namespace L2
open PySem PySem.Spec PyProof.Rows
theorem ObjOk.has {P:Program} {w:World} {H:Hp} {h:Heap} {a:Addr} {o:HO} (x:ObjOk P w H h a o):∃ u,h.get? a=some u:=by
 cases o with
 | lst xs=>obtain ⟨_,_,_,_,e⟩:=x;exact ⟨_,e⟩
 | tup xs=>obtain ⟨_,_,_,ob,e,_⟩:=x;exact ⟨_,e⟩
 | dK kvs=>obtain ⟨_,_,_,_,o,_,_,e,_⟩:=x;exact ⟨_,e⟩
 | dT kvs=>obtain ⟨_,_,_,_,o,_,_,e,_⟩:=x;exact ⟨_,e⟩
 | set S n=>obtain ⟨o,_,_,_,e,_⟩:=x;exact ⟨_,e⟩
 | ins C dx fs=>obtain ⟨_,_,_,e,_⟩:=x;exact ⟨_,e⟩
 | own y=>obtain ⟨_,e⟩:=x;exact ⟨_,e⟩
 | xd fs=>obtain ⟨_,⟨_,_,_,e,_⟩,_⟩:=x;exact ⟨_,e⟩
 | rng lo hi=>obtain ⟨_,_,_,e⟩:=x;exact ⟨_,e⟩
 | frz ob u=>exact ⟨_,x.1⟩
 | tbl ps=>exact ⟨_,show h.get? a=some { cls:=.none,data:=.fields ps } from x⟩
 | met f y=>exact ⟨_,show h.get? a=some (PySem.W.methodObj (.ref f) (.ref y)) from x⟩
 | ext φ=>exact x.2.1
def Kp (outer:List Env) (H':Hp) (h0:Heap) (b:Addr):Prop:=(∃ o,H' b=some o)∨((∃ o,h0.get? b=some o)∧b ∉ frs outer)
structure XD (P:Program) (w:World) (outer l:List Env) (H:Hp) (h0:Heap) (e:Addr) (cls:Value) (dd:Option Addr) (H':Hp) (B:Heap) (nt:Bool) (h:Heap):Prop where
 un:Un (frs outer) [] H H' h0 h
 hok:HOk P w H' h
 ex:Ex B l e cls dd nt h
 kp:∀ b o,h.get? b=some o→Kp outer H' h0 b→B.get? b=some o
 ne:H' e=none
 ge:h0.objs.size≤e
theorem XD.step {P:Program} {w:World} {outer l l':List Env} {H:Hp} {h0:Heap} {e:Addr} {cls:Value} {dd:Option Addr} {H':Hp} {B:Heap} {nt nt':Bool} {h h':Heap} (x:XD P w outer l H h0 e cls dd H' B nt h)
  (ex:Ex B l' e cls dd nt' h') (u:h.UpToSlots h') (hs:∀ b ∈ frs outer,b ∈ frs l):XD P w outer l' H h0 e cls dd H' B nt' h':=by
 have st:∀ b o,h.get? b=some o→Kp outer H' h0 b→h'.get? b=some o:=fun b o q k=>ex.stays b o (x.kp b o q k)
 have hask:∀ b,Kp outer H' h0 b→∃ o,h.get? b=some o:=fun b k=>by
  rcases k with ⟨o,q⟩ | ⟨⟨o,q⟩,_⟩
  ·exact (x.hok b o q).has
  ·exact x.un.there b o q (by simp)
 have fr:∀ b o,h.get? b=some o→b ∈ frs outer→∃ sl,h'.get? b=some { o with slots:=sl }:=fun b o q m=>by
  obtain ⟨_,o',ho',hd⟩:=x.ex.frames.mem (hs b m)
  rw [q] at ho'
  cases ho'
  exact u b o q hd
 refine ⟨⟨fun b o q n nf nx=>st b o (x.un.keep b o q n nf nx) (.inr ⟨⟨o,q⟩,nf⟩),fun b o q n m nx=>?_,x.un.free,fun b o q nx=>?_,x.un.tups,x.un.frzs,x.un.tbls⟩,fun a o q=>?_,ex,fun b o q k=>?_,x.ne,x.ge⟩
 ·obtain ⟨sl,q1⟩:=x.un.slot b o q n m nx
  obtain ⟨sl',q2⟩:=fr b _ q1 m
  exact ⟨sl',q2⟩
 ·obtain ⟨o1,q1⟩:=x.un.there b o q nx
  by_cases m:b ∈ frs outer
  ·obtain ⟨sl,q2⟩:=fr b o1 q1 m
   exact ⟨_,q2⟩
  ·exact ⟨o1,st b o1 q1 (.inr ⟨⟨o,q⟩,m⟩)⟩
 ·refine (x.hok a o q).stay (fun b v hb r=>st b v r ?_) (fun _ z=>z) fun _ _ z=>z
  rcases hb with rfl | hb
  ·exact .inl ⟨o,q⟩
  ·exact .inl ⟨_,hb⟩
 ·obtain ⟨o1,q1⟩:=hask b k
  have:=st b o1 q1 k
  rw [q] at this
  cases this
  exact x.kp b o q1 k
def CX1 (P:Program) (w:World):CXT:=fun outer H s E ev s'=>∃ (e:Addr) (cls:Value) (dd:Option Addr) (H':Hp) (B:Heap) (nt:Bool),ev=.ref e∧s'.os=s.os∧AllBare s'.gens∧XD P w outer outer H s.heap e cls dd H' B nt s'.heap∧E cls dd H'
def XP (X:Cx) (G:XK) (ev:Value) (s':Shared):Prop:=X.A.frames=some X.stack∧∃ (e:Addr) (cls:Value) (dd:Option Addr) (H':Hp) (B:Heap) (nt:Bool),ev=.ref e∧s'.os=X.s₀.os∧AllBare s'.gens∧XD X.prog X.w X.outer X.stack X.H₀ X.s₀.heap e cls dd H' B nt s'.heap∧G cls dd H'
section
variable {X:Cx} {E:XK} {G:XK} {pins:List (Addr × Obj)} {σ:St} {H:Hp} {s s':Shared}
theorem PassesOwn.xp (hst:X.stack=X.env::X.outer) (hf:X.env.frame=some X.env.locals):PassesOwn (model X.prog X.w) X.A X.env (XP X G):=by
 rintro ev s1 ⟨hfr,e,cls,dd,H',B,nt,rfl,ho,hg,x,g⟩
 have hs:∀ b ∈ frs X.outer,b ∈ frs X.stack:=fun b hb=>by
  rw [hst]
  unfold frs at hb ⊢
  rw [List.filterMap_cons,hf]
  exact List.mem_cons_of_mem _ hb
 have hex:=x.ex
 rw [hst] at hex
 unfold notedBy
 refine ex_note (hfr.trans (by rw [hst])) hf hex fun h1 x1 u1=>?_
 refine ex_back (s:={ s1 with heap:=h1 }) x1 fun h2 x2 u2=>?_
 rw [← hst] at x2
 exact ⟨hfr,e,cls,dd,H',B,true,rfl,ho,hg,x.step x2 (u1.trans u2) hs,g⟩
end
section
variable {P:Program} {w:World} {K:PySem.W.Frag} {mg:Str→Option Value} {base:Heap}
theorem xe_of {N:List Str} {qual:Str} {scope:Scope} {f:Addr} {cd:Value} {A:Around} {outer:List Env} {s:Shared} {H:Hp} {E:XK} {ev:Value} {s':Shared}
  (q:XP (cxOf (CX1 P w) P w K mg base N qual scope f cd A outer s H E) E ev s'):(cxOf (CX1 P w) P w K mg base N qual scope f cd A outer s H E).xe ev s':=by
 obtain ⟨hfr,e,cls,dd,H',B,nt,rfl,ho,hg,x,g⟩:=q
 refine ex_leave (L:=s.heap.objs.size) hfr rfl x.ex fun h1 x1 u1=>?_
 exact ⟨e,cls,dd,H',B,true,rfl,ho,hg,x.step x1 u1 fun b hb=>List.mem_cons_of_mem _ hb,g⟩
abbrev cxX (P:Program) (w:World) (K:PySem.W.Frag) (mg:Str→Option Value) (base:Heap) (N:List Str) (qual:Str) (scope:Scope) (f:Addr) (cd:Value) (A:Around) (outer:List Env) (s:Shared) (H:Hp) (E:XK):Cx:=
 (cxOf (CX1 P w) P w K mg base N qual scope f cd A outer s H E).wish (XP (cxOf (CX1 P w) P w K mg base N qual scope f cd A outer s H E) E)
theorem Fun.okX {x qual:Str} {st:Stmt} {f:Addr} {fd:FuncData} {N ps:List Str} {k:Nat} {sp:Sp} (F:Fun K x qual st f fd) (S:FnScope N ps (defScope st)) (len:∀ vs H Q E,sp vs H Q E→vs.length=ps.length)
  (hbody:∀ (cdv:Value) (A:Around) (outer:List Env) (s:Shared) (H:Hp) (vs:List V) (Q:VK) (E:XK),Room k (A.deeper (envOfC qual (defScope st) s.heap.objs.size f cdv))→sp vs H Q E→
   ∃ t,PSs (cxX P w K mg base N qual (defScope st) f cdv A outer s H E) (defBody st) t∧t { nx:=fun _ H'=>Q .non H',rt:=Q } (start N vs) H):FnOk P w K mg base (CX1 P w) (k+1) f fd ps sp:=by
 obtain ⟨oc,od,kV,doc,pm,an,cdv,ct,osl,rfl,lk,hcd⟩:=F.ex
 refine fn_of lk hcd S len fun A outer s H vs Q E hr hsp=>?_
 obtain ⟨t,h,q⟩:=hbody cdv A outer s H vs Q E hr hsp
 exact ⟨t,fun pins s1 σ H1 D I hw=>wpAny_mono (h pins s1 σ H1 D (I.wish _) hw) (fun _ _ q=>q.unwish) fun ev s2 q=>xe_of q,q⟩
theorem own1 {N:List Str} {qual:Str} {scope:Scope} {f:Addr} {cd:Value} {A:Around} {outer:List Env} {s:Shared} {H:Hp} {E:XK}:PassesOwn (model (cxX P w K mg base N qual scope f cd A outer s H E).prog (cxX P w K mg base N qual scope f cd A outer s H E).w) (cxX P w K mg base N qual scope f cd A outer s H E).A (cxX P w K mg base N qual scope f cd A outer s H E).env (cxX P w K mg base N qual scope f cd A outer s H E).xe:=
 PassesOwn.xp (X:=cxOf (CX1 P w) P w K mg base N qual scope f cd A outer s H E) rfl rfl
end
end L2
set_option maxHeartbeats 0
namespace L2
open PySem PySem.Spec PyProof.Rows
def ExcO (e:Addr) (cls:Value) (dd:Option Addr):HO:=.ext fun h=>∃ (oe:Obj) (vs:Array Value),h.get? e=some oe∧oe.cls=cls∧oe.dict=dd∧oe.data=.fields vs
theorem excO_ok {P:Program} {w:World} {H:Hp} {h:Heap} {e:Addr} {cls:Value} {dd:Option Addr} {oe:Obj} {vs:Array Value} (h1:h.get? e=some oe) (h2:oe.cls=cls) (h3:oe.dict=dd) (h4:oe.data=.fields vs):ObjOk P w H h e (ExcO e cls dd):=
 ⟨⟨oe,vs,h1,h2,h3,h4⟩,⟨oe,h1⟩,fun _ _ ⟨o,ws,a,b,c,d⟩ k=>⟨o,ws,k _ a,b,c,d⟩⟩
abbrev Cx.held (X:Cx) (ev:Value):Cx:={ X with A:=X.A.mark (some ev),calm:=false }
section
variable {X:Cx} {pins:List (Addr × Obj)} {σ:St} {H:Hp} {s:Shared} {ev:Value}
theorem Inv.held (I:Inv X pins σ H s) (ev:Value):Inv (X.held ev) pins σ H s:=
 ⟨⟨I.ok.mod,I.ok.kind,I.ok.glob,I.ok.blt,I.ok.above,I.ok.inj,I.ok.has,I.ok.cab,(fun z=>nomatch z),I.ok.frames,I.ok.stk,I.ok.exf,I.ok.bs,I.ok.bsz,I.ok.noex,I.ok.exfs,I.ok.funs,I.ok.frf⟩,I.os,I.bare,I.base,I.loc,I.cell,I.free,I.freeC,I.pin,I.hok,I.len⟩
theorem Inv.unheld (ok:X.Ok) (I:Inv (X.held ev) pins σ H s):Inv X pins σ H s:=⟨ok,I.os,I.bare,I.base,I.loc,I.cell,I.free,I.freeC,I.pin,I.hok,I.len⟩
theorem Inv.goes {M:Model} {A:Around} {E:Value→Shared→Prop} {j:Nat} {n:Str} {pos:Pos} {Q:Unit→Shared→Prop} (I:Inv X pins σ H s) (hN:X.N.Nodup) (hj:X.N[j]?=some n) (hl:X.env.scope.names.lookup n=some .local)
  (h:∀ s',Inv X pins (σ.set j none) H s'→Q () s'):wpAny M A (do bindName X.env n .none;unbindBehindTheSuite X.env n pos) Q E s:=by
 refine wpAny_bind (wpAny_bindName (store_ok (v:=.non) I hN hj (.inl hl) rfl (fun s1 I1=>?_) (.inr hl)))
 unfold unbindBehindTheSuite
 refine wpAny_onRaise ?_
 obtain ⟨m,hn,hlk⟩:=id I1.loc
 have hjl:j<σ.length:=by rw [I.len];exact (List.getElem?_eq_some_iff.mp hj).1
 have hv:∃ v,m n=some v:=by
  obtain ⟨u,_,z | ⟨z,_⟩⟩:=hlk j n .non hj (by rw [List.getElem?_set_self hjl]) (.inl hl)
  ·exact ⟨u,z.2⟩
  ·have:X.env.scope.names.lookup n=some .cell∨X.env.scope.names.lookup n=some .free:=z
   rw [hl] at this
   rcases this with z | z <;> cases z
 obtain ⟨v,hv⟩:=hv
 have hcls:(X.env.scope.kind == .class || (X.env.scope.kind == .module && X.env.locals != X.env.globals))=false:=by rw [I.ok.kind];rfl
 refine wpAny_unbindName_local hl hn hv hcls fun h' u hn' hs=>h _ ?_
 obtain ⟨oL,es,ep,hoL,r⟩:=id hn
 obtain ⟨oL',_,_,hoL',_⟩:=id hn'
 have lo:∀ b ob,X.s₀.heap.get? b=some ob→b ≠ X.env.locals:=fun b ob e=>Nat.ne_of_lt (Nat.lt_of_lt_of_le (Heap.lt_size e) I.ok.above)
 refine ⟨I1.ok,I1.os,I1.bare,⟨fun b o e n' hb hx=>?_,fun b o e n' hb hx=>?_,I1.base.free,fun b o e hx=>?_,I1.base.tups,I1.base.frzs,I1.base.tbls⟩,⟨_,hn',fun k y v' e1 e2 e3=>?_⟩,fun y c e=>?_,I1.free,I1.freeC,fun p hp=>?_,fun b ob e=>?_,by simpa using I.len⟩
 ·exact (hs.2 b (lo b o e)).trans (I1.base.keep b o e n' hb hx)
 ·obtain ⟨sl,e1⟩:=I1.base.slot b o e n' hb hx
  exact ⟨sl,(hs.2 b (lo b o e)).trans e1⟩
 ·obtain ⟨o',e1⟩:=I1.base.there b o e hx
  exact ⟨o',(hs.2 b (lo b o e)).trans e1⟩
 ·by_cases hk:k=j
  ·subst hk
   rw [List.getElem?_set_self hjl] at e2
   cases e2
  ·rw [List.getElem?_set_ne (Ne.symm hk)] at e2
   obtain ⟨u',r',q⟩:=hlk k y v' e1 (by rw [List.getElem?_set_ne (Ne.symm hk)];exact e2) e3
   refine ⟨u',r',?_⟩
   have hyn:y ≠ n:=fun z=>hk ((List.getElem?_inj (List.getElem?_eq_some_iff.mp e1).1 hN).mp (by rw [e1,hj,z]))
   rcases q with ⟨q1,q2⟩ | ⟨q1,c,q2,q3⟩
   ·exact .inl ⟨q1,(if_neg hyn).trans q2⟩
   ·obtain ⟨oc,q3,q4⟩:=q3
    exact .inr ⟨q1,c,q2,oc,(hs.2 c (I.cne y c q2)).trans q3,q4⟩
 ·obtain ⟨v,oc,q3,q4⟩:=I1.cell y c e
  exact ⟨v,oc,(hs.2 c (I.cne y c e)).trans q3,q4⟩
 ·obtain ⟨e1,n1,n2,r⟩:=I1.pin p hp
  exact ⟨(hs.2 p.1 n2).trans e1,n1,n2,r⟩
 ·refine (I1.hok b ob e).stay (fun c w' hc q=>(hs.2 c ?_).trans q) (fun _ q=>q) fun _ _ q=>q
  rintro rfl
  rcases hc with rfl | hc
  ·rw [I1.free] at e;cases e
  ·rw [I1.free] at hc;cases hc
theorem Inv.lands {Q:Unit→Shared→Prop} {EE:Value→Shared→Prop} {E:XK} {G:XK} {H1:Hp} {s1 s2:Shared} (I:Inv X pins σ H1 s1) (hst:X.stack=X.env::X.outer) (hf:X.env.frame=some X.env.locals) (q:CX1 X.prog X.w X.stack H1 s1 G ev s2)
  (h:∀ e cls dd H2 B s3,ev=.ref e→Inv X pins σ H2 s3→XD X.prog X.w X.stack X.stack H1 s1.heap e cls dd H2 B true s3.heap→G cls dd H2→Q () s3) :
  wpAny (model X.prog X.w) X.A (noteFrame ev X.env) (fun _ s3=>wpAny (model X.prog X.w) X.A (setFlight ev none) Q EE s3) EE s2:=by
 obtain ⟨e,cls,dd,H2,B,nt,rfl,ho,hg,x,g⟩:=q
 have hex:=x.ex
 rw [hst] at hex
 refine ex_note (I.ok.frames.trans (by rw [hst])) hf hex fun h3 x3 u3=>?_
 refine ex_flight (s:={ s2 with heap:=h3 }) x3 fun h4 x4 u4=>?_
 rw [← hst] at x4
 have y:=x.step x4 (u3.trans u4) fun b hb=>hb
 exact h e cls dd H2 B _ rfl (I.call' (s':={ s2 with heap:=h4 }) ho y.un y.hok hg fun b hb=>absurd hb (by simp)) y g
theorem Inv.caught {H1 H2:Hp} {h1:Heap} {e:Addr} {cls:Value} {dd:Option Addr} {B:Heap} {nt:Bool} (I:Inv X pins σ H2 s) (I0:∃ s1,Inv X pins σ H1 s1∧s1.heap=h1) (x:XD X.prog X.w X.stack X.stack H1 h1 e cls dd H2 B nt s.heap):Inv X pins σ (upd H2 e (ExcO e cls dd)) s:=by
 obtain ⟨s1,I1,rfl⟩:=I0
 obtain ⟨oe,vs,x1,a1,a2,a3,a4,_⟩:=x.ex.rec_
 have lt:∀ b ob,s1.heap.get? b=some ob→b ≠ e:=fun b ob q=>Nat.ne_of_lt (Nat.lt_of_lt_of_le (Heap.lt_size q) x.ge)
 refine I.track x.ne (Nat.le_trans I1.sz x.ge) (fun z=>?_) (fun y c q z=>?_) (fun p hp z=>?_) (excO_ok a1 a2 a3 a4)
 ·obtain ⟨m,⟨o,_,_,ho,_⟩,_⟩:=I1.loc
  exact lt _ _ ho z.symm
 ·obtain ⟨v,oc,q3,_⟩:=I1.cell y c q
  exact lt _ _ q3 z
 ·exact lt _ _ (I1.pin p hp).1 z
end
section
variable {X:Cx}
def Ends.off (D:Ends):Option Nat→Ends
 | none=>D
 | some j=>{ nx:=fun σ H=>D.nx (σ.set j none) H,rt:=D.rt,bk:=fun σ H=>D.bk (σ.set j none) H,ct:=fun σ H=>D.ct (σ.set j none) H }
def onE (σ:St) (e:Addr):Option Nat→St
 | none=>σ
 | some j=>σ.set j (some (.ref e))
def tTryA (K:PySem.W.Frag) (i:Nat) (ta:TA) (sp:Sp) (dvs:List V) (c:Value) (j:Option Nat) (th:TS):TS:=fun D σ H=>ta σ H fun vs H1=>
 sp (vs++dvs) H1 (fun v H2=>D.nx (σ.set i (some v)) H2) fun cls dd H2=>PySem.W.exmOne K cls c=some true∧∀ e,H2 e=none→th (D.off j) (onE σ e j) (upd H2 e (ExcO e cls dd))
theorem SP.back {pins:List (Addr × Obj)} {D:Ends} {f:Flow} {s':Shared} {ev:Value} (ok:X.Ok) (h:SP (X.held ev).nox pins D f s'):SP X pins D f s':=by
 cases f with
 | next=>obtain ⟨σ',H',I,q⟩:=h;exact ⟨σ',H',I.unwish.unheld ok,q⟩
 | brk=>obtain ⟨σ',H',I,q⟩:=h;exact ⟨σ',H',I.unwish.unheld ok,q⟩
 | cont=>obtain ⟨σ',H',I,q⟩:=h;exact ⟨σ',H',I.unwish.unheld ok,q⟩
 | ret u=>obtain ⟨v,σ',H',I,r,q⟩:=h;exact ⟨v,σ',H',I.unwish.unheld ok,r,q⟩
theorem ps_tryA {i:Nat} {x fn cn:Str} {a:Expr} {as:List Expr} {px pf pc pa pC ph pt:Pos} {b₀:Stmt} {hbody:List Stmt} {ta:TA} {th:TS} {c:Value} {nm:Option Str} {j:Option Nat} {k:Nat} {f:Addr} {fd:FuncData} {ps:List Str} {sp:Sp} {dvs:List V} {ds:List Value}
  (hst:X.stack=X.env::X.outer) (hfm:X.env.frame=some X.env.locals) (hN:X.N.Nodup) (hi:X.N[i]?=some x) (hx:Loc X.env.scope x)
  (F:FnOk X.prog X.w X.K X.mg X.base (CX1 X.prog X.w) k f fd ps sp) (hr:Room k X.A) (hg:Gl X fn) (hm:X.mg fn=some (.ref f)) (hk:PySem.W.keepIn X.K (.ref f)=true) (hb:Binds X.K fd ps ds) (hd:Vals dvs ds)
  (ha:PA X.nox (a::as) ta) (hgc:Gl X cn) (hmc:X.mg cn=some c)
  (hj:match j,nm with | none,none=>True | some j,some n=>X.N[j]?=some n∧X.env.scope.names.lookup n=some .local | _,_=>False)
  (hh:∀ ev,PSs (X.held ev).nox (b₀::hbody) th)
  (hs:swapsWith (.Call (.Name fn pf) (a::as) [] pc) (some (.Name x px)) pa.line X.env=pure false:=by rfl) (hfl:X.fn x=true∨X.env.scope.names.lookup x=some .local:=by first | exact .inl rfl | exact .inr rfl | assumption)
  (hdb:(fn == ("__debug__" : Str))=false:=by decide) (hdc:(cn == ("__debug__" : Str))=false:=by decide)
  (he:starEach (a::as) X.env=(false,eval a X.env)::starEach as X.env:=by rfl) (hpl:(backTo pc (starEach as X.env)).any (·.1)=false:=by rfl) :
  PS X (.Try [.Assign [.Name x px] (.Call (.Name fn pf) (a::as) [] pc) pa] [.ExceptHandler (some (.Name cn pC)) nm (b₀::hbody) ph] [] [] pt) (tTryA X.K i ta sp dvs c j th):=by
 intro pins s σ H D I h
 rw [arm_exec_Try]
 refine wpAny_bind (wpAny_standAt ?_)
 refine wpAny_tryStmt_except ?_
 refine wpAny_execs_cons ?_
 refine wpAny_Assign_Name ?_ hs
 refine wpAny_Call_Name_kw (ld_glob I hg hm ?_ hdb)
 refine PySem.W.callWith_K (h₀:=X.base) I.ok.mod.kin hk (wpAny_mono (ha pc pins s σ H _ (I.wish _) h) (fun us s1 ⟨vs,H1,I1,r,q⟩=>?_) fun _ _ z=>z.elim) he hpl
 have I1:=I1.unwish
 refine ⟨I1.kIn,?_⟩
 have r2:Vals (vs++dvs) (us++ds):=r.append hd
 have hl:(us++ds).length=ps.length:=by rw [← r2.length];exact F.len _ _ _ _ q
 refine wpAny_call (codeAny_mono (F.run X.A X.stack s1 H1 ⟨us,[]⟩ (us++ds) (vs++dvs) _ _ hr I1.env0 (hb s1 us I1.kIn hl) r2 q) fun res s2 hq=>?_)
 cases res with
 | ok fl=>
  cases fl with
  | ret u=>
   obtain ⟨v,H2,I2,rv,q2⟩:=I1.after hq
   refine store_ok I2 hN hi hx rv (fun s3 I3=>?_) hfl
   exact wpAny_execs_nil (wpAny_execs_nil ⟨_,H2,I3,q2⟩)
  | next=>exact False.elim hq
  | brk=>exact False.elim hq
  | cont=>exact False.elim hq
 | error ev=>
  refine I1.lands (E:=fun _ _ _=>True) hst hfm hq fun e cls dd H2 B s3 ee I3 y g=>?_
  subst ee
  obtain ⟨hc,g⟩:=g
  obtain ⟨oe,vs3,x13,a1,a2,_⟩:=y.ex.rec_
  have LT:PySem.W.Looks (model X.prog X.w) s3.heap (typeOf (.ref e)) cls:=by
   subst a2
   exact (PySem.W.Looks.ld a1).andThen .now
  refine wpAny_handleBy_cons (codeAny_handlers_test ?_) (by intro z;cases z)
  have J3:=I3.held (.ref e)
  refine ld_glob J3 hgc hmc ?_ hdc
  refine (PySem.W.exm_one I3.kIn LT hc).here ?_
  have okX:=I3.ok
  cases nm with
  | none=>
   cases j with
   | some j=>exact hj.elim
   | none=>
    refine codeAny_handlers_suite (ex_flight y.ex fun h4 x4 u4=>?_)
    have y4:=y.step x4 u4 fun b hb=>hb
    have I4:Inv X pins σ H2 { s3 with heap:=h4 }:=I1.call' (s':={ s3 with heap:=h4 }) (I3.os.trans I1.os.symm) y4.un y4.hok I3.bare fun b hb=>absurd hb (by simp)
    have I5:=I4.caught ⟨s1,I1,rfl⟩ y4
    exact wpAny_mono (hh (.ref e) pins _ σ _ D ((I5.held _).wish _) (g e y.ne)) (fun fl s5 q5=>SP.back okX q5) fun _ _ z=>z.elim
  | some n=>
   cases j with
   | none=>exact hj.elim
   | some j=>
    obtain ⟨hj1,hj2⟩:=hj
    refine codeAny_handlers_suite_as (ex_flight y.ex fun h4 x4 u4=>?_)
    have y4:=y.step x4 u4 fun b hb=>hb
    have I4:Inv X pins σ H2 { s3 with heap:=h4 }:=I1.call' (s':={ s3 with heap:=h4 }) (I3.os.trans I1.os.symm) y4.un y4.hok I3.bare fun b hb=>absurd hb (by simp)
    have I5:=I4.caught ⟨s1,I1,rfl⟩ y4
    refine store_ok (v:=.ref e) I5 hN hj1 (.inl hj2) rfl (fun s6 I6=>?_) (.inr hj2)
    refine wpAny_mono (hh (.ref e) pins _ _ _ _ ((I6.held _).wish _) (g e y.ne)) (fun fl s5 q5=>?_) fun _ _ z=>z.elim
    have q5:=SP.back okX q5
    cases fl with
    | next=>obtain ⟨σ7,H7,I7,q7⟩:=q5;exact I7.goes hN hj1 hj2 fun s8 I8=>⟨_,H7,I8,q7⟩
    | brk=>obtain ⟨σ7,H7,I7,q7⟩:=q5;exact I7.goes hN hj1 hj2 fun s8 I8=>⟨_,H7,I8,q7⟩
    | cont=>obtain ⟨σ7,H7,I7,q7⟩:=q5;exact I7.goes hN hj1 hj2 fun s8 I8=>⟨_,H7,I8,q7⟩
    | ret u=>obtain ⟨v7,σ7,H7,I7,r7,q7⟩:=q5;exact I7.goes hN hj1 hj2 fun s8 I8=>⟨v7,_,H7,I8,r7,q7⟩
end
end L2
set_option maxHeartbeats 0
namespace L2
open PySem PySem.Spec PyProof.Rows
def bmV:List Value:=[.type "ValueError",.type "Exception",.type "BaseException",.type "object"]
def xcIn (K:PySem.W.Frag) (C:Addr) (init:Option Value):Bool:=match K.lookup C with
 | some ⟨.type "type",_,.cls cd,sl⟩=>(match cd.mro,sl.toList with
  | .ref C'::bm,[_,_,_,_,some (.builtin n),_]=>C' == C && n == "ValueError.__new__" && !cd.hasDel && cd.hasDict && PySem.W.tailIn K bmV bm && PySem.W.nsOkIn K cd.ns && PySem.W.nsIn K cd.ns "__init__" == some init
  | _,_=>false)
 | _=>false
structure XCls (K:PySem.W.Frag) (C:Addr) (init:Option Value):Prop where
 cls:xcIn K C init=true
 set:PySem.W.findIn K (.ref C) "__setattr__" = some (some (.builtin "object.__setattr__"))
 kp:PySem.W.keepIn K (.ref C)=true
theorem ns_some_of {K:PySem.W.Frag} {h:Heap} {N:Addr} {mg:Str→Option Value} {n:Str} {v:Value} (X:K.In h) (G:h.Ns N mg) (e:PySem.W.nsIn K N n=some (some v)):mg n=some v:=by
 obtain ⟨o,es,ep,ho,hd,_,hf⟩:=G
 unfold PySem.W.nsIn at e
 split at e
 ·rename_i c d es' n' sl q
  have:=X _ _ q
  rw [ho] at this
  cases this
  cases hd
  split at e
  ·rename_i en he
   cases e
   rw [← hf]
   unfold nsFind findBy
   rw [← Array.find?_toList,he]
   rfl
  ·split at e
   ·cases e
   ·cases e
 ·cases e
theorem refuse_tail {h:Heap} {tl:List Value} (self:Value) (T:OwnTail h bmV tl):refuseLoop self "__setattr__" tl=pure ():=by
 induction T with
 | base=>exact PySem.F.store_ValueError.passes self
 | own _ _ _ _ ih=>rw [refuseLoop_ref];exact ih
theorem xc_of {K:PySem.W.Frag} {h:Heap} {C:Addr} {init:Option Value} (X:K.In h) (q:xcIn K C init=true):∃ (bm:List Value) (N:Addr) (nm qn:Str) (bs:List Value) (sn:List Str) (sub:List Value) (ab:Bool) (col:Option Bool) (dd:Option Addr) (k0 k1 k2 k3 k5:Option Value) (mN:Str→Option Value),
  h.get? C=some (excClassObj nm qn C N bs bm true sn sub ab col dd k0 k1 k2 k3 k5 "ValueError.__new__")∧h.Ns N mN∧mN "__init__" = init∧OwnTail h bmV bm:=by
 unfold xcIn at q
 split at q
 ·rename_i dd cd sl ho
  split at q
  ·rename_i C' bm k0 k1 k2 k3 n k5 hm hs
   simp only [Bool.and_eq_true,beq_iff_eq,Bool.not_eq_true'] at q
   obtain ⟨⟨⟨⟨⟨⟨rfl,rfl⟩,hdel⟩,hdc⟩,ht⟩,hok⟩,hni⟩:=q
   obtain ⟨nm,bs,mro,ns,qn,hd,sn,sub,ab,col,del⟩:=cd
   dsimp only at hm hdel hok hni hdc
   subst hm hdel hdc
   have hsl:sl=#[k0,k1,k2,k3,some (.builtin "ValueError.__new__"),k5]:=by
    obtain ⟨l⟩:=sl
    simp only at hs
    rw [hs]
   subst hsl
   refine ⟨bm,ns,nm,qn,bs,sn,sub,ab,col,dd,k0,k1,k2,k3,k5,_,X _ _ ho,.of_isNs (PySem.W.isNs_of_in X hok),?_,PySem.W.tail_of_in X ht⟩
   cases init with
   | none=>exact PySem.W.nsMap_none_of_in X hok hni
   | some v=>exact ns_some_of X (.of_isNs (PySem.W.isNs_of_in X hok)) hni
  ·cases q
 ·cases q
section
variable {prog:Program} {w:World} {A:Around} {E:Value→Shared→Prop} {h:Heap} {g:Array GenState} {d:Drawn} {t:Nat} {os:OsState} {K:PySem.W.Frag} {C x:Addr} {init:Option Value} {mA:Str→Option Value} {name:Str} {v:Value} {ns:List Str}
theorem xstore {b:Bool} {tk:Tok} {Q:PySem.Fin→Shared→Prop} (X:K.In h) (q:xcIn K C init=true) (I:h.Inst x C mA) (hw:Within mA ns) (hsz:ns.length≤1000)
  (hq:∀ h' tk',h'.Inst x C (fun y=>if y=name then some v else mA y)→
   (∀ b o,b ≠ x→(∀ o₀ dx,h.get? x=some o₀→o₀.dict=some dx→b ≠ dx)→h.get? b=some o→h'.get? b=some o)→
   (∀ o₀,h.get? x=some o₀→∃ o₁,h'.get? x=some o₁∧o₁.cls=o₀.cls∧o₁.data=o₀.data∧o₁.slots=o₀.slots∧(∀ dx,o₀.dict=some dx→o₁.dict=some dx)∧(o₀.dict=none→o₁.dict=some h.objs.size))→Q (.done (.ret .none)) ⟨h',g,d,tk',os⟩) :
  wpAny (model prog w) A (Builtin.ObjectAttr.storeInOwnDict (.ref x) (.ref C) (.str name tk) name v b) Q E ⟨h,g,d,t,os⟩:=by
 obtain ⟨bm,N,nm,qn,bs,sn,sub,ab,col,dd,k0,k1,k2,k3,k5,mN,hC,hn,_,T⟩:=xc_of X q
 obtain ⟨o,hx,hc,hnc,hd⟩:=I
 unfold Builtin.ObjectAttr.storeInOwnDict
 repeat (first | (with_reducible refine wpAny_loadPart_at hx ?_;rw [hc]) | wp_step)
 rcases hd with ⟨hdn,hmA⟩ | ⟨dx,hdx,hne,hns⟩
 ·rw [hdn,if_neg (by simp [typeHasDict])]
  split
  ·rename_i hcd
   cases hcd
  split
  ·rename_i c hcd
   exact absurd hcd (hnc c)
  ·have hx₁:(h.push { cls:=.type "dict",data:=.dict #[] }).get? x=some o:=Heap.get?_push_of_some _ hx
   have hxs:x ≠ h.objs.size:=Nat.ne_of_lt (Heap.lt_size hx)
   refine wpAny_bind (wpAny_alloc' ?_)
   refine wpAny_bind (wpAny_update' hx₁ ?_)
   refine wpAny_pure ?_
   have hgd:((h.push { cls:=.type "dict",data:=.dict #[] }).update x fun o=>{ cls:=o.cls,dict:=some h.objs.size,data:=o.data,slots:=o.slots }).get? h.objs.size
     = some { cls:=.type "dict",data:=.dict #[] }:=
    (Heap.get?_update_ne _ _ _ _ hxs.symm).trans (Heap.get?_push_at rfl rfl)
   have hnd:((h.push { cls:=.type "dict",data:=.dict #[] }).update x fun o=>{ cls:=o.cls,dict:=some h.objs.size,data:=o.data,slots:=o.slots }).Ns h.objs.size (fun _=>none):=
    ⟨_,#[],_,hgd,rfl,fun e he=>absurd he (by simp),fun _=>rfl⟩
   show wpAny _ _ (Builtin.ObjectAttr.storeInDict h.objs.size (.str name tk) name v) _ _ _
   unfold Builtin.ObjectAttr.storeInDict Builtin.ObjectAttr.newKeyGuard
   refine wpAny_bind (wpAny_pure (wpAny_bind (wpAny_nsSet1 (Heap.Ns1.of_empty hnd) fun h' hn' hs=>?_)))
   obtain ⟨oD,esD,epD,hoD,hdD,hcD⟩:=hn'.count (Within.cons name v Within.nil)
   refine wpAny_bind (wpAny_lookBehind hoD (by rw [hdD];exact pastItsLine_dict (Nat.le_trans hcD (by rw [List.length_cons,List.length_nil,sizeLine_eq];omega))) ?_)
   wp_walk
   have hx':h'.get? x=some { cls:=o.cls,dict:=some h.objs.size,data:=o.data,slots:=o.slots }:=?_
   refine hq h' _ ⟨{ cls:=o.cls,dict:=some h.objs.size,data:=o.data,slots:=o.slots },hx',hc,hnc,.inr ⟨h.objs.size,rfl,hxs.symm,?_⟩⟩ (fun b ob hbx _ hb=>?_)
    (fun o₀ h₀=>by obtain rfl:o=o₀:=Option.some.inj (hx.symm.trans h₀);exact ⟨_,hx',rfl,rfl,rfl,(fun dx e=>by rw [hdn] at e;cases e),fun _=>rfl⟩)
   ·obtain ⟨o',es,ep,e1,e2,e3,eu,e4⟩:=hn'
    exact ⟨o',es,ep,e1,e2,e3,eu,fun y=>by rw [e4 y];by_cases hy:y=name <;> simp [hy,hmA]⟩
   ·exact (hs.2 b (Nat.ne_of_lt (Heap.lt_size hb))).trans ((Heap.get?_update_ne _ _ _ _ hbx).trans (Heap.get?_push_of_some _ hb))
   ·refine (hs.2 x hxs).trans (Heap.get?_update_self _ hx₁ ?_)
    have hfr:=(Heap.get?_some_iff.mp hx).2
    obtain ⟨oc,od,odt,osl⟩:=o
    cases odt <;> first | rfl | exact hfr
 ·rw [hdx]
  refine wpAny_pure ?_
  show wpAny _ _ (Builtin.ObjectAttr.storeInDict dx (.str name tk) name v) _ _ _
  unfold Builtin.ObjectAttr.storeInDict Builtin.ObjectAttr.newKeyGuard
  refine wpAny_bind (wpAny_pure (wpAny_bind (wpAny_nsSet1 hns fun h' hn' hs=>?_)))
  obtain ⟨oD,esD,epD,hoD,hdD,hcD⟩:=hn'.count (Within.cons name v hw)
  refine wpAny_bind (wpAny_lookBehind hoD (by rw [hdD];exact pastItsLine_dict (Nat.le_trans hcD (by rw [List.length_cons,sizeLine_eq];omega))) ?_)
  wp_walk
  refine hq h' _ ⟨o,(hs.2 x hne.symm).trans hx,hc,hnc,.inr ⟨dx,hdx,hne,hn'⟩⟩ (fun b ob _ hbd hb=>?_)
   (fun o₀ h₀=>by
    obtain rfl:o=o₀:=Option.some.inj (hx.symm.trans h₀)
    exact ⟨o,(hs.2 x hne.symm).trans h₀,rfl,rfl,rfl,(fun _ e=>e),fun e=>by rw [hdx] at e;cases e⟩)
  exact (hs.2 b (hbd o dx hx hdx)).trans hb
theorem xset {Q:Unit→Shared→Prop} (X:K.In h) (c:XCls K C init) (hna:PySem.W.findIn K (.ref C) name=some none) (I:h.Inst x C mA) (hw:Within mA ns) (hsz:ns.length≤1000)
  (hq:∀ h' tk',h'.Inst x C (fun y=>if y=name then some v else mA y)→
   (∀ b o,b ≠ x→(∀ o₀ dx,h.get? x=some o₀→o₀.dict=some dx→b ≠ dx)→h.get? b=some o→h'.get? b=some o)→
   (∀ o₀,h.get? x=some o₀→∃ o₁,h'.get? x=some o₁∧o₁.cls=o₀.cls∧o₁.data=o₀.data∧o₁.slots=o₀.slots∧(∀ dx,o₀.dict=some dx→o₁.dict=some dx)∧(o₀.dict=none→o₁.dict=some h.objs.size))→Q () ⟨h',g,d,tk',os⟩) :
  wpAny (model prog w) A (setAttr (.ref x) name v) Q E ⟨h,g,d,t,os⟩:=by
 obtain ⟨bm,N,nm,qn,bs,sn,sub,ab,col,dd,k0,k1,k2,k3,k5,mN,hC,hn,_,T⟩:=xc_of X c.cls
 obtain ⟨o,hx,hc,hnc,hd⟩:=id I
 have SF:=PySem.F.store_ValueError
 have LT:PySem.W.Looks (model prog w) h (typeOf (.ref x)) (.ref C):=by
  rw [← hc]
  exact (PySem.W.Looks.ld hx).andThen .now
 have hm:PySem.W.Looks (model prog w) h (mroOf (.ref C)) (.ref C::bm):=fun A Q E s k q=>by
  obtain ⟨hp,g,d,tk,os⟩:=s
  exact wpAny_mroOf_exc (k _ _ hC) q
 have sub1:PySem.W.Looks (model prog w) h (isInstance (.ref x) (.type "object")) true:=LT.andThen fun A Q E s k q=>by
  obtain ⟨hp,g,d,tk,os⟩:=s
  refine wpAny_isSubtype_exc (k _ _ hC) ?_
  have:(Value.ref C::bm).contains (.type "object")=true:=by rw [List.contains_cons,T.hasType (X:="object") (b:=true) (by decide +kernel),Bool.or_true]
  rw [this]
  exact q
 refine wpAny_bind (wpAny_mkText (wpAny_bind (wpAny_bind (wpAny_bind (LT _ _ _ _ (fun _ _ e=>e) (PySem.W.looks_findIn X c.set _ _ _ _ (fun _ _ e=>e) (wpAny_holding ?_)))))))
 rw [PySem.F.store_object.slot.bind]
 refine wpAny_bind (wpAny_pure (wpAny_bind (wpAny_call ?_)))
 refine codeAny_call_builtin SF.slot.plain SF.entry (@PySem.W.check_slot (model prog w) _ _ _ "object.__setattr__" "object" "__setattr__" (.ref x) [.str name t,v] [] _ SF.kind SF.split sub1 (SF.args (.ref x) (.str name t) v) ?_)
 show wpAny (model prog w) A.in1 (Builtin.«object.__setattr__» ⟨[.ref x,.str name t,v],[]⟩) _ _ ⟨h,g,d,t+1,os⟩
 rw [PySem.W.osa_eq,refuse_eq]
 refine wpAny_bind (wpAny_bind (LT.here (wpAny_bind (hm.here ?_))))
 rw [refuseLoop_ref,refuse_tail _ T]
 refine wpAny_pure (wpAny_bind (LT.here (wpAny_bind ((PySem.W.looks_findIn X hna).here (wpAny_bind (wpAny_pure ?_))))))
 refine xstore X c.cls I hw hsz fun h' tk' i1 i2 i3=>?_
 exact wpAny_pure (wpAny_pure (hq h' tk' i1 i2 i3))
end
end L2
set_option maxHeartbeats 0
namespace L2
open PySem PySem.Spec PyProof.Rows
abbrev excObj (C t:Addr) (dd:Option Addr):Obj:={ cls:=.ref C,dict:=dd,data:=.fields #[.ref t,.none,.none,.none,.bool false,.none] }
abbrev argObj (rest:List Value):Obj:={ cls:=.type "tuple",data:=.seq rest.toArray }
section
variable {prog:Program} {w:World} {A:Around} {R:Result→Shared→Prop} {h:Heap} {g:Array GenState} {d:Drawn} {t:Nat} {os:OsState} {K:PySem.W.Frag} {C fI:Addr} {rest:List Value}
theorem xmake (X:K.In h) (q:xcIn K C (some (.ref fI))=true) (hf:PySem.W.typeIn K (.ref fI)=some (.type "function")) (hrest:rest.length≤sizeLine)
  (hq:codeAny (model prog w) (A.under (.builtin "type.__call__" ⟨.ref C::rest,[]⟩)) (.call (.ref fI) ⟨.ref (h.objs.size+1)::rest,[]⟩) (PySem.W.InitBack (h.objs.size+1) R) ⟨(h.push (argObj rest)).push (excObj C h.objs.size none),g,d,t,os⟩) :
  codeAny (model prog w) A (.call (.ref C) ⟨rest,[]⟩) R ⟨h,g,d,t,os⟩:=by
 obtain ⟨bm,N,nm,qn,bs,sn,sub,ab,col,dd,k0,k1,k2,k3,k5,mN,hC,hn,hni,T⟩:=xc_of X q
 have F:=PySem.F.excBase_ValueError
 have f1:=tc_lookup
 have f2:=tc_bind (.ref C)
 have hT:(⟨h,g,d,t,os⟩:Shared).TypeIs (.ref C) "type":=⟨_,hC,rfl⟩
 refine codeAny_of_tree ?_
 show wpAny _ _ (callAny (.ref C) _) _ _ _
 repeat (any_goals (first | assumption | with_reducible refine wpAny_loadPart_at hC ?_ | wp_step))
 refine ⟨rfl,?_⟩
 show codeAny (model prog w) A (.call (.builtin "type.__call__") ⟨.ref C::rest,[]⟩) R ⟨h,g,d,t,os⟩
 refine codeAny_call_builtin_at (Code.quiet_builtin _ (by decide +kernel)) entry_typeCall (wpAny_check_type_call_sub hC ?_)
 repeat (first | with_reducible refine wpAny_loadPart_at hC ?_ | with_reducible refine wpAny_madeBy_exc hC ?_ | wp_step)
 refine codeAny_call_builtin_code (Code.quiet_builtin _ F.quiet) (wpAny_check_new_subT F T hC ?_)
 refine codeAny_exc_new_subT F T hC ?_ hrest
 show wpAny _ _ _ _ _ _
 have kp:∀ b o,h.get? b=some o→((h.push (argObj rest)).push (excObj C h.objs.size none)).get? b=some o:=fun b o e=>Heap.get?_push_of_some _ (Heap.get?_push_of_some _ e)
 have hC₁:=kp _ _ hC
 have hn₁:((h.push (argObj rest)).push (excObj C h.objs.size none)).Ns N mN:=let ⟨o,es,ep,e,r⟩:=hn;⟨o,es,ep,kp _ _ e,r⟩
 have hget:((h.push (argObj rest)).push (excObj C h.objs.size none)).get? (h.objs.size+1)=some { cls:=.ref C,data:=.fields #[.ref h.objs.size,.none,.none,.none,.bool false,.none] }:=by heap_get
 have hcC:(Value.ref C::bm).contains (.ref C)=true:=by simp
 have T₁:=T.keeps kp
 unfold isInstance
 repeat (first | with_reducible refine wpAny_loadPart_at hget ?_ | (with_reducible refine wpAny_isSubtype_exc hC₁ ?_;rw [hcC]) | wp_step)
 show wpAny _ _ (typeLookup (.ref C) _) _ _ _
 refine wpAny_typeLookup_tail hC₁ hn₁ T₁ F.mroIs F.init.lookup ?_
 rw [hni]
 have b1:=(PySem.W.bind_fn (M:=model prog w) X (.ref (h.objs.size+1)) hf).keeps kp
 refine wpAny_holding (wpAny_bind (b1.here (wpAny_bind (wpAny_call (codeAny_mono hq fun r s' z=>?_)))))
 rcases r with e | (v | _ | _ | _) <;> first | exact z | exact z.elim | skip
 obtain ⟨rfl,z⟩:=z
 exact wpAny_pure (wpAny_pure z)
end
section
variable {M:Model} {A:Around} {E:Value→Shared→Prop} {env:Env} {K:PySem.W.Frag} {C:Addr} {init:Option Value}
theorem xraise {s:Shared} {x:Sem Value} {Q:Flow→Shared→Prop} (hh:A.handled=none) (c:xcIn K C init=true)
  (h:wpAny M A x (fun v s₁=>∃ e t dd,v=.ref e∧K.In s₁.heap∧s₁.heap.get? e=some (excObj C t dd)∧E (.ref e) s₁) E s) :
  wpAny M A (raiseStmt env (some x) none) Q E s:=by
 unfold raiseStmt
 refine wpAny_bind (wpAny_mono h (fun v s₁ h₁=>?_) fun _ _ x=>x)
 obtain ⟨e,t,dx,rfl,X,he,hE⟩:=h₁
 obtain ⟨bm,N,nm,qn,bs,sn,sub,ab,col,dd,k0,k1,k2,k3,k5,mN,hC,hn,hni,T⟩:=xc_of X c
 have hcB:(Value.ref C::bm).contains (.type "BaseException")=true:=by rw [List.contains_cons,T.hasType (X:="BaseException") (b:=true) (by decide +kernel),Bool.or_true]
 obtain ⟨hp,g,d,tk,os⟩:=s₁
 have he':hp.get? e=some { cls:=.ref C,dict:=dx,data:=.fields #[.ref t,.none,.none,.none,.bool false,.none] }:=he
 repeat (first | with_reducible refine wpAny_loadPart_at he' ?_ | with_reducible refine wpAny_loadPart_at hC ?_ | (with_reducible refine wpAny_isSubtype_exc hC ?_;rw [hcB]) | wp_step)
 exact wpAny_raiseNew_none hh hE
end
def ExcN (x C:Addr) (dd:Option Addr):HO:=.ext fun h=>∃ t,h.get? x=some (excObj C t dd)
theorem excN_ok {P:Program} {w:World} {H:Hp} {h:Heap} {x C t:Addr} {dd:Option Addr} (e:h.get? x=some (excObj C t dd)):ObjOk P w H h x (ExcN x C dd):=⟨⟨t,e⟩,⟨_,e⟩,fun _ _ ⟨t,a⟩ k=>⟨t,k _ a⟩⟩
def XDic (dx:Addr) (fs:List (Str × V)):HO:=.ext fun h=>∃ mA,h.Ns1 dx mA∧(∀ f,RelO (fs.lookup f) (mA f))∧PySem.Within mA (fs.map (·.1))
theorem xdic_ok {P:Program} {w:World} {H:Hp} {h:Heap} {dx:Addr} {fs:List (Str × V)} {mA:Str→Option Value} (e:h.Ns1 dx mA) (r:∀ f,RelO (fs.lookup f) (mA f)) (wi:PySem.Within mA (fs.map (·.1))):ObjOk P w H h dx (XDic dx fs):=by
 obtain ⟨o,_,_,ho,_⟩:=id e
 refine ⟨⟨mA,e,r,wi⟩,⟨o,ho⟩,?_⟩
 rintro h1 h2 ⟨mB,⟨o1,es,ep,a,b⟩,r1,w1⟩ k
 exact ⟨mB,⟨o1,es,ep,k _ a,b⟩,r1,w1⟩
section
variable {X:Cx} {pins:List (Addr × Obj)} {σ:St} {H:Hp} {s:Shared}
theorem Inv.untrack {e:Addr} {φ:Heap→Prop} (I:Inv X pins σ (upd H e (.ext φ)) s) (h0:H e=none):Inv X pins σ H s:=by
 have dn:∀ b,(upd H e (.ext φ)) b=none→H b=none:=fun b q=>by
  by_cases hb:b=e
  ·rw [hb];exact h0
  ·rw [upd_ne hb] at q;exact q
 have up:∀ b u,(upd H e (.ext φ)) b=some u→(∀ ψ,u ≠ .ext ψ)→H b=some u:=fun b u q n=>by
  by_cases hb:b=e
  ·rw [hb,upd_same] at q;cases q;exact absurd rfl (n φ)
  ·rw [upd_ne hb] at q;exact q
 refine ⟨I.ok,I.os,I.bare,⟨I.base.keep,I.base.slot,fun b ob q n hx=>dn _ (I.base.free b ob q n hx),I.base.there,fun b xs q=>up _ _ (I.base.tups b xs q) (fun _ z=>nomatch z),fun b ob u q=>up _ _ (I.base.frzs b ob u q) (fun _ z=>nomatch z),fun b ps q=>?_⟩,I.loc,I.cell,dn _ I.free,fun x c q=>dn _ (I.freeC x c q),fun p hp=>?_,fun b u q=>?_,I.len⟩
 ·obtain ⟨m,e1⟩:=I.base.tbls b ps q
  exact ⟨m,up _ _ e1 (fun _ z=>nomatch z)⟩
 ·obtain ⟨a,b,c⟩:=I.pin p hp
  exact ⟨a,dn _ b,c⟩
 ·have q':(upd H e (.ext φ)) b=some u:=by rw [upd_ne (ne_of_none q h0)];exact q
  exact (I.hok b u q').stay (fun _ _ _ z=>z) (fun c z=>up _ _ z (fun _ z=>nomatch z)) fun c xs z=>up _ _ z (fun _ z=>nomatch z)
theorem Inv.flies {e C t:Addr} {dd:Option Addr} {G:XK} (I:Inv X pins σ H s) (hex:X.ex=[]) (he:s.heap.get? e=some (excObj C t dd)) (hn:H e=none) (hge:X.s₀.heap.objs.size≤e) (hne:e ∉ frs X.stack) (g:G (.ref C) dd H):XP X G (.ref e) s:=by
 have up:∀ b,Kp X.outer H X.s₀.heap b→b ∉ e::frs X.stack:=fun b k hm=>by
  rcases List.mem_cons.mp hm with z | z
  ·rcases k with ⟨o,q⟩ | ⟨⟨o,q⟩,_⟩
   ·rw [z,hn] at q;cases q
   ·rw [z] at q;exact absurd (Heap.lt_size q) (Nat.not_lt.mpr hge)
  ·rcases k with ⟨o,q⟩ | ⟨⟨o,q⟩,nf⟩
   ·rw [I.stkFree b z] at q;cases q
   ·rcases List.mem_cons.mp (I.stkSub b z) with z2 | z2
    ·rw [z2] at q;exact absurd (Heap.lt_size q) (Nat.not_lt.mpr I.ok.above)
    ·exact nf z2
 have hb:=I.base
 rw [hex] at hb
 refine ⟨I.ok.frames,e,.ref C,dd,H,PySem.W.hideAll s.heap (e::frs X.stack),false,rfl,I.os,I.bare,⟨hb,I.hok,⟨fun b o q=>PySem.W.of_hideAll _ q,PySem.W.hideAll_none _ (by simp),?_,_,_,.none,he,rfl,rfl,rfl,rfl,.inl ⟨rfl,rfl⟩⟩,fun b o q k=>PySem.W.hideAll_get _ q (up b k),hn,hge⟩,g⟩
 exact PySem.W.funFrames_hide I.stack fun env henv a ha=>List.mem_cons_of_mem _ (List.mem_filterMap.mpr ⟨env,henv,ha⟩)
end
section
variable {X:Cx}
def tRaiseC (C:Addr) (sp:Sp) (G:XK) (t:TA):TS:=fun _ σ H=>t σ H fun vs H1=>∀ x,H1 x=none→sp (.ref x::vs) (upd H1 x (ExcN x C none)) (fun v H2=>v=.non∧∃ dd H3,H2=upd H3 x (ExcN x C dd)∧H3 x=none∧G (.ref C) dd H3) E0
theorem ps_raiseC {G:XK} {k:Nat} {C f:Addr} {fd:FuncData} {ps:List Str} {sp:Sp} {cn:Str} {pn pc pos:Pos} {a:Expr} {as:List Expr} {t:TA} (hex:X.ex=[]) (hc:X.calm=true) (c:XCls X.K C (some (.ref f))) (hf:PySem.W.isFn X.K (.ref f)=true)
  (F:FnOk X.prog X.w X.K X.mg X.base CX0 k f fd ps sp) (hr:Room (k+1) X.A) (hg:Gl X cn) (hm:X.mg cn=some (.ref C)) (hb:Binds X.K fd ps []) (ha:PA X.nox (a::as) t) (hps:ps.length≤100)
  (hdb:(cn == ("__debug__" : Str))=false:=by decide) (he:starEach (a::as) X.env=(false,eval a X.env)::starEach as X.env:=by rfl) (hpl:(backTo pc (starEach as X.env)).any (·.1)=false:=by rfl) :
  PS (X.wish (XP X G)) (.Raise (some (.Call (.Name cn pn) (a::as) [] pc)) none pos) (tRaiseC C sp G t):=by
 intro pins s σ H D I h
 have I:=I.unwish
 show wpAny (model X.prog X.w) X.A (exec (.Raise (some (.Call (.Name cn pn) (a::as) [] pc)) none pos) X.env) _ (XP X G) s
 rw [arm_exec_Raise]
 refine wpAny_bind (wpAny_standAt ?_)
 refine xraise (K:=X.K) (I.ok.hd hc) c.cls ?_
 refine wpAny_bind (wpAny_mono ?_ (fun v s₁ hv=>wpAny_bind (wpAny_standAt (wpAny_pure hv))) fun _ _ z=>z)
 refine wpAny_Call_Name_kw (ld_glob I hg hm ?_ hdb)
 refine PySem.W.callWith_K (h₀:=X.base) I.ok.mod.kin c.kp (wpAny_mono (ha pc pins s σ H _ (I.wish _) h) (fun us s1 ⟨vs,H1,I1,r,q⟩=>⟨I1.unwish.kIn,?_⟩) fun _ _ z=>z.elim) he hpl
 have I1:=I1.unwish
 have hq:=q (s1.heap.objs.size+1) (I1.hok.fresh (Nat.le_succ _))
 have hget:((s1.heap.push (argObj us)).push (excObj C s1.heap.objs.size none)).get? (s1.heap.objs.size+1)=some (excObj C s1.heap.objs.size none):=by heap_get
 have I2:Inv X pins σ (upd H1 (s1.heap.objs.size+1) (ExcN (s1.heap.objs.size+1) C none)) { s1 with heap:=(s1.heap.push (argObj us)).push (excObj C s1.heap.objs.size none) }:=
  I1.laid (t':=s1.toks) (fun b o e=>Heap.get?_push_of_some _ (Heap.get?_push_of_some _ e)) (Nat.le_succ _) (excN_ok hget)
 have r2:Vals (V.ref (s1.heap.objs.size+1)::vs) (Value.ref (s1.heap.objs.size+1)::us):=.cons rfl r
 have hl:=F.len _ _ _ _ hq
 have hlu:(Value.ref (s1.heap.objs.size+1)::us).length=ps.length:=by rw [← r2.length];exact hl
 have hb':BindsTo { s1 with heap:=(s1.heap.push (argObj us)).push (excObj C s1.heap.objs.size none) } fd ⟨Value.ref (s1.heap.objs.size+1)::us,[]⟩ (ps.zip (Value.ref (s1.heap.objs.size+1)::us)):=by
  have:=hb { s1 with heap:=(s1.heap.push (argObj us)).push (excObj C s1.heap.objs.size none) } (Value.ref (s1.heap.objs.size+1)::us) I2.kIn (by rw [List.append_nil];exact hlu)
  rw [List.append_nil] at this
  exact this
 refine wpAny_call (xmake (fI:=f) I1.kIn c.cls (beq_iff_eq.mp hf) ?_ (codeAny_mono (F.run _ X.stack _ _ ⟨Value.ref (s1.heap.objs.size+1)::us,[]⟩ (Value.ref (s1.heap.objs.size+1)::us) _ _ E0 (hr.make C us []) (I2.env0.make C us []) hb' r2 hq) fun r s' hq'=>?_))
 ·rw [sizeLine_eq,List.nil_append]
  rw [List.length_cons] at hlu
  omega
 cases r with
 | error e=>exact False.elim hq'
 | ok fl=>
  cases fl with
  | ret u=>
   obtain ⟨v,H',I3,rv,ev,dd,H3,e3,n3,g3⟩:=I2.after hq'
   subst ev
   subst e3
   obtain ⟨⟨t3,ht3⟩,_⟩:=I3.hok _ _ upd_same
   refine ⟨rv,s1.heap.objs.size+1,t3,dd,rfl,I3.kIn,ht3,?_⟩
   refine (I3.untrack n3).flies hex ht3 n3 (Nat.le_trans I1.sz (Nat.le_succ _)) (fun z=>?_) g3
   have:=I3.stkFree _ z
   rw [upd_same] at this
   cases this
  | next=>exact False.elim hq'
  | brk=>exact False.elim hq'
  | cont=>exact False.elim hq'
def sXfld (K:PySem.W.Frag) (ta tv:TE) (f:Str) (C:Addr):TS:=fun D σ H=>tv σ H fun y H1=>ta σ H1 fun x H2=>∃ a dd,x=.ref a∧H2 a=some (ExcN a C dd)∧PySem.W.findIn K (.ref C) f=some none∧
 ((dd=none∧∀ dx,H2 dx=none→dx ≠ a→D.nx σ (upd (upd H2 dx (XDic dx [(f,y)])) a (ExcN a C (some dx))))∨∃ dx fs,dd=some dx∧dx ≠ a∧H2 dx=some (XDic dx fs)∧fs.length<1000∧D.nx σ (upd H2 dx (XDic dx (putF f y fs))))
theorem ps_xfld {C:Addr} {init:Option Value} {o value:Expr} {f:Str} {pos pos':Pos} {ta tv:TE} (c:XCls X.K C init) (ha:PE X o ta) (hv:PE X value tv) (hs:swapsWith value (some (.Attribute o f pos')) pos.line X.env=pure false:=by rfl):PS X (.Assign [.Attribute o f pos'] value pos) (sXfld X.K ta tv f C):=by
 intro pins s σ H D I h
 refine plainObj_wpAny_Assign_Attribute (thn (hv pins s σ H _ I h) fun u s1 ⟨y,H1,I1,ry,q⟩=>thn (ha pins s1 σ H1 _ I1 q) fun ov s2 ⟨x,H2,I2,rx,a,dd,ex,ea,hna,q2⟩=>?_) hs
 subst ex
 obtain rfl:ov=Value.ref a:=rx
 obtain ⟨⟨t,ht⟩,_⟩:=I2.hok _ _ ea
 obtain ⟨h2,g2,d2,t2,os2⟩:=s2
 rcases q2 with ⟨rfl,q2⟩ | ⟨dx,fs,rfl,hne,ed,hl,q2⟩
 ·refine xset (mA:=fun _=>none) (ns:=[]) I2.kIn c hna ⟨_,ht,rfl,(fun _ z=>nomatch z),.inl ⟨rfl,fun _=>rfl⟩⟩ Within.nil (by simp) fun h' tk' i1 i2 i3=>?_
  obtain ⟨o1,e1,e2,e3,e4,_,e5⟩:=i3 _ ht
  have e5:=e5 rfl
  obtain ⟨o2,f1,f2,_,f4⟩:=i1
  rw [e1] at f1
  cases f1
  have sz:a<h2.objs.size:=Heap.lt_size ht
  have nd:h2.objs.size ≠ a:=Nat.ne_of_gt sz
  have ho1:h'.get? a=some (excObj C t (some h2.objs.size)):=by
   rw [e1]
   obtain ⟨c1,c2,c3,c4⟩:=o1
   simp only at e2 e3 e4 e5
   rw [e2,e3,e4,e5]
  have hns:h'.Ns1 h2.objs.size (fun y=>if y=f then some u else none):=by
   rcases f4 with ⟨z,_⟩ | ⟨d,z,_,hn⟩
   ·rw [e5] at z;cases z
   ·rw [e5] at z;cases z;exact hn
  have fr:H2 h2.objs.size=none:=I2.hok.fresh (Nat.le_refl _)
  have kp:∀ b ob,b ≠ a→h2.get? b=some ob→h'.get? b=some ob:=fun b ob hb q=>i2 b ob hb (fun o₀ dx z1 z2=>by rw [ht] at z1;cases z1;cases z2) q
  refine ⟨σ,_,?_,q2 h2.objs.size fr nd⟩
  have I3:Inv X pins σ (upd H2 a (ExcN a C (some h2.objs.size))) ⟨h',g2,d2,tk',os2⟩:=
   I2.write (h':=h') (t':=tk') (x:=a) (e:=a) (o:=ExcN a C (some h2.objs.size)) (by rw [ea];exact trivial) (.inl rfl) (fun b ob hb q=>kp b ob hb q) ⟨_,ho1⟩ (excN_ok ho1)
  have na:(upd H2 a (ExcN a C (some h2.objs.size))) h2.objs.size=none:=by rw [upd_ne nd];exact fr
  have lt:∀ b ob,h2.get? b=some ob→b ≠ h2.objs.size:=fun b ob q=>Nat.ne_of_lt (Heap.lt_size q)
  have I4:=I3.track (T:=h2.objs.size) (o:=XDic h2.objs.size [(f,y)]) na (Nat.le_trans I2.sz (Nat.le_refl _)) (fun z=>by
    obtain ⟨m,⟨oL,_,_,hL,_⟩,_⟩:=I2.loc
    exact lt _ _ hL z.symm) (fun y' c' q z=>by
    obtain ⟨v',oc,q3,_⟩:=I2.cell y' c' q
    exact lt _ _ q3 z) (fun p hp z=>lt _ _ (I2.pin p hp).1 z) (xdic_ok hns (fun g=>?_) (fun g hg=>?_))
  ·have ec:upd (upd H2 a (ExcN a C (some h2.objs.size))) h2.objs.size (XDic h2.objs.size [(f,y)])=upd (upd H2 h2.objs.size (XDic h2.objs.size [(f,y)])) a (ExcN a C (some h2.objs.size)):=by
    funext b
    unfold upd
    by_cases hb1:b=h2.objs.size
    ·subst hb1
     simp [nd]
    ·by_cases hb2:b=a
     ·simp [hb1,hb2,nd.symm]
     ·simp [hb1,hb2]
   rw [← ec]
   exact I4
  ·rw [List.lookup_cons]
   by_cases q:g=f
   ·subst q;simp;exact ry
   ·rw [if_neg q,show (g == f)=false from beq_eq_false_iff_ne.mpr q];trivial
  ·by_cases q:g=f
   ·subst q;simp
   ·exact absurd (if_neg q) hg
 ·obtain ⟨⟨mA,hm,hr,hwi⟩,_⟩:=I2.hok _ _ ed
  refine xset (mA:=mA) (ns:=fs.map (·.1)) I2.kIn c hna ⟨_,ht,rfl,(fun _ z=>nomatch z),.inr ⟨dx,rfl,hne,hm⟩⟩ hwi (by rw [List.length_map];omega) fun h' tk' i1 i2 i3=>?_
  obtain ⟨o1,e1,e2,e3,e4,e5,_⟩:=i3 _ ht
  have e5:=e5 dx rfl
  obtain ⟨o2,f1,f2,_,f4⟩:=i1
  rw [e1] at f1
  cases f1
  have ho1:h'.get? a=some (excObj C t (some dx)):=by
   rw [e1]
   obtain ⟨c1,c2,c3,c4⟩:=o1
   simp only at e2 e3 e4 e5
   rw [e2,e3,e4,e5]
  have hns:h'.Ns1 dx (fun y=>if y=f then some u else mA y):=by
   rcases f4 with ⟨z,_⟩ | ⟨d,z,_,hn⟩
   ·rw [e5] at z;cases z
   ·rw [e5] at z;cases z;exact hn
  refine ⟨σ,_,?_,q2⟩
  refine I2.write (h':=h') (t':=tk') (x:=dx) (e:=dx) (o:=XDic dx (putF f y fs)) (by rw [ed];exact trivial) (.inl rfl) (fun b ob hb q=>?_) ?_ (xdic_ok hns (fun g=>?_) fun g hg=>?_)
  ·by_cases hb2:b=a
   ·rw [hb2] at q ⊢
    rw [ht] at q
    cases q
    exact ho1
   ·exact i2 b ob hb2 (fun o₀ dx' z1 z2=>by rw [ht] at z1;cases z1;cases z2;exact hb) q
  ·obtain ⟨o,_,_,ho,_⟩:=hns
   exact ⟨o,ho⟩
  ·show RelO ((putF f y fs).lookup g) (if g=f then some u else mA g)
   rw [lookup_putF]
   by_cases q:g=f
   ·rw [if_pos q,if_pos q];exact ry
   ·rw [if_neg q,if_neg q];exact hr g
  ·by_cases q:g=f
   ·rw [q];exact (keys_putF f y fs).1
   ·refine (keys_putF f y fs).2 g (hwi g fun z=>hg ?_)
    show (if g=f then some u else mA g)=none
    rw [if_neg q];exact z
end
end L2
set_option maxHeartbeats 0
namespace L2
open PySem PySem.Spec PyProof.Rows
structure XGet (K:PySem.W.Frag) (C:Addr):Prop where
 ga:PySem.W.findIn K (.ref C) "__getattribute__" = some (some (.builtin "BaseException.__getattribute__"))
 gt:PySem.W.findIn K (.ref C) "__getattr__" = some none
 be:PySem.W.mroIn K C (.type "BaseException")=some true
 hd:PySem.W.hasDictIn K C=true
section
variable {prog:Program} {w:World} {A:Around} {E:Value→Shared→Prop} {s:Shared} {K:PySem.W.Frag} {x C:Addr} {ox:Obj} {od:Option Obj} {name:Str} {tk:Tok}
end
structure XTy (K:PySem.W.Frag) (C:Addr):Prop extends XGet K C where
 ca:PySem.W.findIn K (.ref C) "__class__" = some (some (.builtin "object.__class__"))
 cn:PySem.W.specialIn K (.builtin "object.__class__") "__get__" = some (some (.builtin "getset_descriptor.__get__"))
 ct:PySem.W.takesIn K (.builtin "object.__class__")=some true
 cm:PySem.W.mroIn K C (.type "object")=some true
section
variable {K:PySem.W.Frag}
end
section
variable {X:Cx}
theorem refs_of:∀ {cs:List Addr} {its:List Value},Vals (cs.map V.ref) its→its=cs.map Value.ref
 | [],_,.nil=>rfl
 | a::l,_,.cons r t=>by
  cases (show _=Value.ref a from r)
  rw [refs_of t]
  rfl
end
end L2
set_option maxHeartbeats 0
namespace L2
open PySem PySem.Spec PyProof.Rows
structure RoomH (k:Nat) (A:Around):Prop where
 dp:A.depth+3 * k+5<recursionLimit
 un:A.units+16 * k+200<cLine
structure FnOkH (P:Program) (w:World) (K:PySem.W.Frag) (mg:Str→Option Value) (base:Heap) (CX:CXT) (k:Nat) (f:Addr) (fd:FuncData) (ps:List Str) (sp:Sp):Prop where
 len:∀ vs H Q E,sp vs H Q E→vs.length=ps.length
 run:∀ (A:Around) (outer:List Env) (s:Shared) (H:Hp) (args:Args) (us:List Value) (vs:List V) (Q:VK) (E:XK),RoomH k A→Env0 P w K mg base A outer s H→BindsTo s fd args (ps.zip us)→Vals vs us→sp vs H Q E→
  codeAny (model P w) A (.call (.ref f) args) (CR CX outer P w H s Q E) s
section
variable {P:Program} {w:World} {K:PySem.W.Frag} {mg:Str→Option Value} {base:Heap}
end
section
variable {X:Cx} {CX:CXT} {k:Nat} {f C:Addr} {fd:FuncData} {ps:List Str} {sp:Sp} {dvs:List V} {ds:List Value} {E:XK} {x m:Str} {p pos apos:Pos} {e o:Expr} {es:List Expr} {ta:TE} {t:TA}
end
end L2
set_option maxHeartbeats 0
namespace L2
open PySem PySem.Spec PyProof.Rows
section
variable {X:Cx}
theorem refs_eq {A:Around} {s:Shared} {rs:List Addr} {us vs:List Value} (h1:Vals (rs.map V.ref) us) (h2:Vals (rs.map V.ref) vs):∀ j (j1:j<us.toArray.size) (j2:j<vs.toArray.size),SeqAt.EqAt A s us.toArray[j] vs.toArray[j] true:=by
 have e1:=refs_of h1
 have e2:=refs_of h2
 subst e1
 subst e2
 intro j j1 j2
 exact SeqAt.EqAt.same _
theorem op_eq_refsL (hu:X.A.units<cLine):OpR X (compareOp .Eq) (fun x y H Q=>∃ (p l:Addr) (rs:List Addr),x=.ref p∧y=.ref l∧SqL X.K H p (rs.map V.ref)∧SqL X.K H l (rs.map V.ref)∧Q (.bl true) H):=by
 intro pins s σ H x y v u Q I rx ry h
 obtain ⟨p,l,zs,rfl,rfl,h1,h2,q⟩:=h
 cases rx
 cases ry
 obtain ⟨us,r1,p1,z1⟩:=I.list h1
 obtain ⟨vs,r2,p2,z2⟩:=I.list h2
 refine SeqAt.eq_listAt (e:=fun _=>true) p1.isList p2.isList (by simp [← r1.length,← r2.length]) hu (refs_eq r1 r2) ⟨.bl true,H,I,?_,q⟩
 have:(List.range us.toArray.size).all (fun _=>true)=true:=by simp
 rw [this]
 rfl
end
end L2
namespace L2
open PySem PySem.Spec PyProof.Rows
section
variable {prog:Program} {w:World} {A:Around} {E:Value→Shared→Prop} {s:Shared}
end
end L2
namespace L2
open PySem PySem.Spec PyProof.Rows
section
variable {X:Cx}
end
end L2
set_option maxHeartbeats 0
namespace L2
open PySem PySem.Spec PyProof.Rows
section
variable {X:Cx}
end
end L2
namespace L2
open PySem PySem.Spec PyProof.Rows
theorem cf_app:∀ (names:List (Str × NameKind)) (n:Nat) (a acc:List (Str × Addr)),cellsFrom n names (a++acc)=cellsFrom n names a++acc
 | [],_,_,_=>rfl
 | (y,k)::r,n,a,acc=>by
  unfold cellsFrom
  split
  ·exact cf_app r (n+1) ((y,n)::a) acc
  ·exact cf_app r n a acc
theorem cf_mem {x:Str} {c:Addr}:∀ {names:List (Str × NameKind)} {n:Nat} {acc:List (Str × Addr)},(x,c) ∈ cellsFrom n names acc→(x,NameKind.cell) ∈ names∨(x,c) ∈ acc
 | [],_,_,h=>.inr h
 | (y,k)::r,n,acc,h=>by
  unfold cellsFrom at h
  split at h
  ·rename_i hk
   have hk':k=NameKind.cell:=by simpa using hk
   subst hk'
   rcases cf_mem h with h | h
   ·exact .inl (List.mem_cons_of_mem _ h)
   ·rcases List.mem_cons.mp h with e | h
    ·cases e;exact .inl (List.mem_cons_self ..)
    ·exact .inr h
  ·rcases cf_mem h with h | h
   ·exact .inl (List.mem_cons_of_mem _ h)
   ·exact .inr h
theorem look_app {l m:List (Str × Addr)} {x:Str} {c:Addr} (h:(l++m).lookup x=some c):l.lookup x=some c∨(l.lookup x=none∧m.lookup x=some c):=by
 rw [List.lookup_append] at h
 cases e:l.lookup x with
 | some d=>rw [e] at h;exact .inl h
 | none=>rw [e] at h;exact .inr ⟨rfl,h⟩
theorem newEnv_own {M:Model} {A:Around} {E:Value→Shared→Prop} {s:Shared} {scope:Scope} {globals:Addr} {closure:List (Str × Addr)} {qual:Str} {outer:Env} {Q:Env→Shared→Prop}
  (h:Q (newEnv scope s.heap.objs.size globals (cellsFrom (s.heap.objs.size+1) scope.names closure) qual none .none (some outer) builtinsNs) { s with heap:=pushCells (s.heap.push { cls:=.type "dict",data:=.dict #[] }) scope.names }) :
  wpAny M A (newFunctionEnv scope globals closure [] qual none .none (some outer)) Q E s:=by
 simp only [newFunctionEnv,Option.isSome_some,if_true]
 refine wpAny_bind (wpAny_alloc ?_)
 refine wpAny_bind (wpAny_layCells _ (fun name kind cells=>by cases hkc:kind == NameKind.cell <;> simp [hkc]) _ _ _ _ ?_)
 rw [show ({ s with heap:=s.heap.push { cls:=.type "dict",data:=.dict #[] } }:Shared).heap.objs.size=s.heap.objs.size+1 from Heap.size_push ..]
 exact wpAny_bind (wpAny_pure (wpAny_pure h))
def lcCxO (X:Cx) (scope:Scope) (own:List Str) (fv:List Nat) (z:LcZ):Cx:={ lcCx X scope own fv z with fn:=fun x=>own.contains x }
structure LcScopeO (X:Cx) (scope:Scope) (own:List Str) (fv:List Nat):Prop where
 kind:scope.kind=.function
 names:∀ y ∈ scope.names,y.2=.local→scope.names.lookup y.1=some .local
 cells:∀ y ∈ scope.names,y.2=.cell→scope.names.lookup y.1=some .cell
 frees:∀ y ∈ scope.names,y.2=.free→scope.names.lookup y.1=some .free
 free:∀ y ∈ scope.names,y.2=.free→X.env.kindOf y.1=some .cell∨X.env.kindOf y.1=some .free
 nd:(own++fv.map fun i=>X.N.getD i Str.empty).Nodup
 fvs:∀ i ∈ fv,i<X.N.length∧scope.names.lookup (X.N.getD i Str.empty)=some .free
 owns:∀ x ∈ own,scope.names.lookup x=some .local∨scope.names.lookup x=some .cell
def loCheck (scope:Scope) (own:List Str) (fv:List Nat) (osc:Scope) (N:List Str):Bool:=
 decide (scope.kind=.function) && scope.names.all (fun y=>decide (y.2 ≠ .local) || decide (scope.names.lookup y.1=some .local)) && scope.names.all (fun y=>decide (y.2 ≠ .cell) || decide (scope.names.lookup y.1=some .cell)) && scope.names.all (fun y=>decide (y.2 ≠ .free) || decide (scope.names.lookup y.1=some .free)) &&
 scope.names.all (fun y=>decide (y.2 ≠ .free) || (decide (osc.names.lookup y.1=some .cell) || decide (osc.names.lookup y.1=some .free))) && decide ((own++fv.map fun i=>N.getD i Str.empty).Nodup) &&
 (fv.all fun i=>decide (i<N.length) && decide (scope.names.lookup (N.getD i Str.empty)=some .free)) && own.all fun x=>decide (scope.names.lookup x=some .local) || decide (scope.names.lookup x=some .cell)
theorem los {X:Cx} {scope:Scope} {own:List Str} {fv:List Nat} (h:loCheck scope own fv X.env.scope X.N=true):LcScopeO X scope own fv:=by
 unfold loCheck at h
 simp only [Bool.and_eq_true,decide_eq_true_eq,List.all_eq_true,Bool.or_eq_true] at h
 obtain ⟨⟨⟨⟨⟨⟨⟨h1,h3⟩,hc⟩,hf⟩,h4⟩,h5⟩,h6⟩,h7⟩:=h
 exact ⟨h1,fun y hy e=>(h3 y hy).resolve_left fun z=>z e,fun y hy e=>(hc y hy).resolve_left fun z=>z e,fun y hy e=>(hf y hy).resolve_left fun z=>z e,fun y hy e=>(h4 y hy).resolve_left fun z=>z e,h5,h6,h7⟩
section
variable {X:Cx} {pins:List (Addr × Obj)} {σ:St} {H:Hp} {s:Shared}
theorem clos_free {env:Env} {x:Str} {c:Addr}:∀ {names:List (Str × NameKind)} {acc:List (Str × Addr)},(closL env names acc).lookup x=some c→(x,NameKind.free) ∈ names∨acc.lookup x=some c
 | [],_,h=>.inr h
 | (y,k)::r,acc,h=>by
  unfold closL at h
  rcases clos_free h with h2 | h2
  ·exact .inl (List.mem_cons_of_mem _ h2)
  ·split at h2
   ·rename_i hk
    have hk':k=NameKind.free:=by simpa using hk
    subst hk'
    by_cases e:x=y
    ·subst e;exact .inl (List.mem_cons_self ..)
    ·rw [List.lookup_cons,beq_eq_false_iff_ne.mpr e] at h2
     exact .inr h2
   ·exact .inr h2
theorem lo_cells {scope:Scope} {own:List Str} {fv:List Nat} (I:Inv X pins σ H s) (S:LcScopeO X scope own fv) {x:Str} {c:Addr} (h:(cellsFrom (s.heap.objs.size+1) scope.names (closL X.env scope.names [])).lookup x=some c) :
  ((cellsFrom (s.heap.objs.size+1) scope.names []).lookup x=some c∧scope.names.lookup x=some .cell∧s.heap.objs.size+1≤c∧(pushCells (s.heap.push { cls:=.type "dict",data:=.dict #[] }) scope.names).IsCell c none)∨
  (X.env.cells.lookup x=some c∧scope.names.lookup x=some .free∧c<s.heap.objs.size):=by
 have hfr:∀ x,(x,NameKind.free) ∈ scope.names→∃ c,X.env.cells.lookup x=some c:=fun x hx=>I.ok.has x (S.free _ hx rfl)
 have ok:=cellsFrom_ok scope.names (s.heap.push { cls:=.type "dict",data:=.dict #[] }) (s.heap.objs.size+1) [] ⟨fun _ _ hm=>(nomatch hm),List.Pairwise.nil⟩ (by rw [Heap.size_push];exact Nat.le_refl _)
 rw [Heap.size_push] at ok
 have e0:=cf_app scope.names (s.heap.objs.size+1) [] (closL X.env scope.names [])
 rw [List.nil_append] at e0
 rw [e0] at h
 rcases look_app h with h | ⟨_,h⟩
 ·have hm:=PySem.mem_of_lookup h
  have hc:=(cf_mem hm).resolve_right (fun z=>nomatch z)
  exact .inl ⟨h,S.cells _ hc rfl,(ok.empty x c hm).2,(ok.empty x c hm).1⟩
 ·have h2:=closL_sub (env:=X.env) (names:=scope.names) (acc:=[]) hfr (fun x c z=>by simp at z) x c h
  have h3:=(clos_free h).resolve_right (fun z=>by simp at z)
  obtain ⟨v,z⟩:=I.cell x c h2
  exact .inr ⟨h2,S.frees _ h3 rfl,z.lt⟩
theorem lo_has {scope:Scope} {own:List Str} {fv:List Nat} (I:Inv X pins σ H s) (S:LcScopeO X scope own fv) {x:Str} (h:scope.names.lookup x=some .cell∨scope.names.lookup x=some .free):∃ c,(cellsFrom (s.heap.objs.size+1) scope.names (closL X.env scope.names [])).lookup x=some c:=by
 refine Option.isSome_iff_exists.mp (PySem.W.cellsFrom_some scope.names _ _ ?_)
 rcases h with h | h
 ·exact .inl h
 ·exact .inr (Option.isSome_iff_exists.mpr (closL_has (.inl (PySem.mem_of_lookup h))))
theorem lo_ok {scope:Scope} {own:List Str} {fv:List Nat} {fp:List Addr} (I:Inv X pins σ H s) (S:LcScopeO X scope own fv) (hf:∀ b ∈ fp,FpOk X pins H b) (hsz:∀ b ∈ fp,b<s.heap.objs.size) :
  (lcCxO X scope own fv ⟨s.heap.objs.size,cellsFrom (s.heap.objs.size+1) scope.names (closL X.env scope.names []),fp,s,H⟩).Ok:=by
 have ok:=cellsFrom_ok scope.names (s.heap.push { cls:=.type "dict",data:=.dict #[] }) (s.heap.objs.size+1) [] ⟨fun _ _ hm=>(nomatch hm),List.Pairwise.nil⟩ (by rw [Heap.size_push];exact Nat.le_refl _)
 rw [Heap.size_push] at ok
 refine ⟨I.ok.mod,S.kind,I.ok.glob,I.ok.blt,Nat.le_refl _,fun x y c h1 h2=>?_,fun x hx=>?_,fun x c hx hc=>?_,I.ok.hd,I.ok.frames,.inl rfl,fun b hb=>⟨?_,fun x c e=>?_⟩,I.bs,Nat.le_trans I.ok.bsz I.sz,fun b o e hb=>?_,fun b hb hb'=>?_,I.stack,I.stkFree⟩
 ·rcases lo_cells I S h1 with ⟨a1,_,a2,_⟩ | ⟨a1,_,a2⟩ <;> rcases lo_cells I S h2 with ⟨b1,_,b2,_⟩ | ⟨b1,_,b2⟩
  ·exact name_of_addr ok.apart (PySem.mem_of_lookup a1) (PySem.mem_of_lookup b1)
  ·exact absurd (Nat.lt_of_lt_of_le b2 (Nat.le_of_succ_le a2)) (Nat.lt_irrefl _)
  ·exact absurd (Nat.lt_of_lt_of_le a2 (Nat.le_of_succ_le b2)) (Nat.lt_irrefl _)
  ·exact I.ok.inj x y c a1 b1
 ·refine lo_has I S ?_
  have hx':(relabel scope X.env).names.lookup x=some .cell∨(relabel scope X.env).names.lookup x=some .free:=hx
  unfold relabel at hx'
  rw [relabel_lookup] at hx'
  cases e:scope.names.lookup x with
  | none=>rw [e] at hx';simp at hx'
  | some k=>
   rw [e] at hx'
   simp only [Option.map_some,Option.some.injEq] at hx'
   cases k with
   | free=>exact .inr rfl
   | cell=>exact .inl rfl
   | _=>simp at hx'
 ·have hx':x ∈ own:=by simpa using (show own.contains x=true from hx)
  rcases lo_cells I S hc with ⟨_,_,a2,_⟩ | ⟨_,a1,_⟩
  ·exact Nat.le_of_succ_le a2
  ·rcases S.owns x hx' with z | z <;> (rw [z] at a1;cases a1)
 ·exact Nat.ne_of_lt (hsz b hb)
 ·rcases lo_cells I S e with ⟨_,_,a2,_⟩ | ⟨a1,_,a2⟩
  ·exact Nat.ne_of_gt (Nat.lt_of_lt_of_le (hsz b hb) (Nat.le_of_succ_le a2))
  ·exact (hf b hb).2.2.2.2.1 x c a1
 ·rcases (hf b hb).2.2.2.1 with z | z
  ·exact I.ok.noex b o e z
  ·exact absurd (Nat.lt_of_lt_of_le (Heap.lt_size (I.ok.bs b o e).1) z) (Nat.lt_irrefl _)
 ·rcases List.mem_cons.mp (I.stkSub b hb') with z | z
  ·exact (hf b hb).2.1 z
  ·exact (hf b hb).2.2.1 z
theorem lo_start {scope:Scope} {own:List Str} {fv:List Nat} {fp:List Addr} (I:Inv X pins σ H s) (S:LcScopeO X scope own fv) (hf:∀ b ∈ fp,FpOk X pins H b) (hsz:∀ b ∈ fp,b<s.heap.objs.size) :
  Inv (lcCxO X scope own fv ⟨s.heap.objs.size,cellsFrom (s.heap.objs.size+1) scope.names (closL X.env scope.names []),fp,s,H⟩) [] (lcStart own fv σ) H { s with heap:=pushCells (s.heap.push { cls:=.type "dict",data:=.dict #[] }) scope.names }:=by
 have hk:∀ b o,s.heap.get? b=some o→(pushCells (s.heap.push { cls:=.type "dict",data:=.dict #[] }) scope.names).get? b=some o:=fun b o e=>pushCells_keeps _ _ b o (Heap.get?_push_of_some _ e)
 have hns:(pushCells (s.heap.push { cls:=.type "dict",data:=.dict #[] }) scope.names).Ns s.heap.objs.size (fun _=>none):=(Heap.Ns.new s.heap (.type "dict")).keeps (pushCells_keeps _ _)
 refine ⟨lo_ok I S hf hsz,rfl,I.bare,Un.kept hk,⟨_,hns,fun i x v h1 h2 h3=>?_⟩,fun x c e=>?_,I.hok.fresh (Nat.le_refl _),fun x c e=>?_,fun p hp=>absurd (show p ∈ ([]:List (Addr × Obj)) from hp) (by simp),I.hok.kept hk,?_⟩
 ·have h1:(own++fv.map fun i=>X.N.getD i Str.empty)[i]?=some x:=h1
  unfold lcStart at h2
  have hi:own.length≤i:=by
   apply Nat.le_of_not_lt
   intro hi
   rw [List.getElem?_append_left (by simpa using hi),List.getElem?_map] at h2
   cases e:own[i]? with
   | none=>rw [e] at h2;cases h2
   | some z=>rw [e] at h2;cases h2
  rw [List.getElem?_append_right (by simpa using hi),List.length_map,List.getElem?_map] at h2
  rw [List.getElem?_append_right hi,List.getElem?_map] at h1
  cases e:fv[i - own.length]? with
  | none=>rw [e] at h1;cases h1
  | some j=>
   rw [e] at h1 h2
   have hj:=S.fvs j (List.mem_of_getElem? e)
   have h1:X.N.getD j Str.empty=x:=Option.some.inj h1
   have h2:(σ[j]?).join=some v:=Option.some.inj h2
   have h2':σ[j]?=some (some v):=by
    cases q:σ[j]? with
    | none=>rw [q] at h2;cases h2
    | some y=>rw [q] at h2;exact congrArg some h2
   have hx:X.N[j]?=some x:=by
    rw [List.getD_eq_getElem?_getD] at h1
    rw [List.getElem?_eq_getElem hj.1] at h1 ⊢
    exact congrArg some h1
   have hlk:scope.names.lookup x=some .free:=h1 ▸ hj.2
   have hmem:=PySem.mem_of_lookup hlk
   obtain ⟨m,hn,hl⟩:=id I.loc
   have hkd:=S.free _ hmem rfl
   obtain ⟨u,ru,lk⟩:=hl j x v hx h2' (by
    rcases hkd with z | z
    ·exact .inr (.inl z)
    ·exact .inr (.inr z))
   refine ⟨u,ru,?_⟩
   rcases lk with ⟨z,_⟩ | ⟨_,c,e1,z⟩
   ·rcases hkd with y | y
    ·have y':X.env.kindOf x=some .cell:=y
     rw [z] at y';cases y'
    ·have y':X.env.kindOf x=some .free:=y
     rw [z] at y';cases y'
   ·obtain ⟨c',e2⟩:=lo_has I S (x:=x) (.inr hlk)
    rcases lo_cells I S e2 with ⟨_,a1,_⟩ | ⟨e3,_,_⟩
    ·rw [hlk] at a1;cases a1
    rw [e1] at e3
    cases e3
    obtain ⟨o,ho,hd⟩:=z
    refine .inr ⟨?_,c,e2,o,hk _ _ ho,hd⟩
    show (relabel scope X.env).names.lookup x=some .cell∨(relabel scope X.env).names.lookup x=some .free
    unfold relabel
    rw [relabel_lookup,hlk,Option.map_some]
    split
    ·exact .inl rfl
    ·exact .inr rfl
 ·rcases lo_cells I S e with ⟨_,_,_,z⟩ | ⟨a1,_,_⟩
  ·exact ⟨_,z⟩
  ·obtain ⟨v,o,ho,hd⟩:=I.cell x c a1
   exact ⟨v,o,hk _ _ ho,hd⟩
 ·rcases lo_cells I S e with ⟨_,_,a2,_⟩ | ⟨a1,_,_⟩
  ·exact I.hok.fresh (Nat.le_of_succ_le a2)
  ·exact I.freeC x c a1
 ·unfold lcStart
  show _=(own++fv.map fun i=>X.N.getD i Str.empty).length
  rw [List.length_append,List.length_append,List.length_map,List.length_map,List.length_map]
theorem lo_back {scope:Scope} {own:List Str} {fv:List Nat} {fp:List Addr} {pins':List (Addr × Obj)} {σ':St} {H':Hp} {s':Shared} {cl:List (Str × Addr)} (I:Inv X pins σ H s) (hf:∀ b ∈ fp,FpOk X pins H b)
  (J:Inv (lcCxO X scope own fv ⟨s.heap.objs.size,cl,fp,s,H⟩) pins' σ' H' s'):Inv X pins σ H' s':=
 I.call' (ch:=fp) J.os J.base J.hok J.bare fun b hb=>⟨(hf b hb).2.2.2.1,(hf b hb).2.1,(hf b hb).2.2.2.2.1,(hf b hb).2.2.2.2.2⟩
end
section
variable {X:Cx} {tg iter elt:Expr} {ifs:List Expr} {scope:Scope} {pos:Pos} {own:List Str} {fv:List Nat} {wi:TI} {g:TG} {tc:TT} {te:TE}
theorem lo_core {pins:List (Addr × Obj)} {s:Shared} {σ:St} {H:Hp} {K:Addr→Hp→Prop} {use:Option (Value→Sem Unit)} {Q:Value→Shared→Prop} {E:Value→Shared→Prop} (hc:X.calm=true) (S:LcScopeO X scope own fv) (hi:PI X tg iter wi)
  (hg:∀ z,PG (lcCxO X scope own fv z) tg g) (ht:∀ z,PTs (lcCxO X scope own fv z) ifs tc) (he:∀ z,PE (lcCxO X scope own fv z) elt te)
  (I:Inv X pins σ H s) (h:lcRun own fv wi g tc te K σ H) (hxe:∀ e s,X.xe e s→E e s)
  (fin:∀ (p:Addr) (L:Addr) (H':Hp) (s':Shared) (m:Str→Option Value),Inv X pins σ H' s'→K p H'→s'.heap.Ns L m→X.s₀.heap.objs.size≤L→H' L=none→L ≠ X.env.locals→(∀ x c,X.env.cells.lookup x=some c→c ≠ L)→(∀ q ∈ X.pn++pins,q.1 ≠ L)→
   compPost (model X.prog X.w) X.A E use Q (.ref p) L (.ok .next) s') (hs:∀ x,foldedSetIterable iter X.env x=pure x:=by intro _;rfl) :
  wpAny (model X.prog X.w) X.A (comprehension (.ListComp elt [⟨tg,iter,ifs,0⟩] scope pos) scope X.env (firstIterPos [⟨tg,iter,ifs,0⟩] pos) (newList []) false (eval iter X.env) use) Q E s:=by
 have hfr:∀ x,(x,NameKind.free) ∈ scope.names→∃ c,X.env.cells.lookup x=some c:=fun x hx=>I.ok.has x (S.free _ hx rfl)
 refine wpAny_comprehension_free rfl hs (closure_ok hfr) S.kind S.names (wpAny_mono (hi pins s σ H _ I h) (fun v s1 h1=>wpAny_mono h1 (fun itv s2 h2=>?_) hxe) hxe)
 obtain ⟨it,fp,tn,J,H2,e,I2,T,st2,f2,q2⟩:=h2
 subst e
 -- the list
 refine wpAny_newObj_type ?_
 have fresh2:H2 s2.heap.objs.size=none:=I2.hok.fresh (Nat.le_refl _)
 have I3:Inv X pins σ (upd H2 s2.heap.objs.size (.lst [])) { s2 with heap:=s2.heap.push { cls:=.type "list",dict:=none,data:=.seq ([]:List Value).toArray } }:=
  I2.laid (t':=s2.toks) (fun b u e=>Heap.get?_push_of_some _ e) (Nat.le_refl _) ⟨Nat.zero_le _,[],0,.nil,Heap.get?_push_size _ rfl⟩
 obtain ⟨W,⟨m0,w0⟩,turn⟩:=q2 s2.heap.objs.size fresh2
 have lt2:∀ b ∈ fp,b<s2.heap.objs.size:=fun b hb=>by
  obtain ⟨o,e,_⟩:=T.obj 0 _ st2 b hb
  exact Heap.lt_size e
 have f3:∀ b ∈ fp,FpOk X pins (upd H2 s2.heap.objs.size (.lst [])) b:=fun b hb=>⟨by rw [upd_ne (Nat.ne_of_lt (lt2 b hb))];exact (f2 b hb).1,(f2 b hb).2⟩
 generalize hp:s2.heap.objs.size=p at *
 generalize hH3:upd H2 p (.lst [])=H3 at *
 have st3:tn 0 (s2.heap.push { cls:=.type "list",dict:=none,data:=.seq ([]:List Value).toArray }):=T.keep _ _ _ st2 fun b _ o e=>Heap.get?_push_of_some _ e
 have lt3:∀ b ∈ fp,b<(s2.heap.push { cls:=.type "list",dict:=none,data:=.seq ([]:List Value).toArray }).objs.size:=fun b hb=>by
  rw [Heap.size_push]
  have:=lt2 b hb
  rw [hp]
  exact Nat.lt_succ_of_lt this
 generalize hs3:({ s2 with heap:=s2.heap.push { cls:=.type "list",dict:=none,data:=.seq ([]:List Value).toArray } }:Shared)=s3 at *
 have st3':tn 0 s3.heap:=by rw [← hs3];exact st3
 have lt3':∀ b ∈ fp,b<s3.heap.objs.size:=by rw [← hs3];exact lt3
 -- the block's frame
 refine newEnv_own ?_
 have keep1:∀ b o,s3.heap.get? b=some o→(pushCells (s3.heap.push { cls:=.type "dict",data:=.dict #[] }) scope.names).get? b=some o:=fun b o e=>pushCells_keeps _ _ b o (Heap.get?_push_of_some _ e)
 have J0:Inv (lcCxO X scope own fv ⟨s3.heap.objs.size,cellsFrom (s3.heap.objs.size+1) scope.names (closL X.env scope.names []),fp,s3,H3⟩) [] (lcStart own fv σ) H3 { s3 with heap:=pushCells (s3.heap.push { cls:=.type "dict",data:=.dict #[] }) scope.names }:=lo_start I3 S f3 lt3'
 have cOk:=lo_ok I3 S f3 lt3'
 generalize hz:(⟨s3.heap.objs.size,cellsFrom (s3.heap.objs.size+1) scope.names (closL X.env scope.names []),fp,s3,H3⟩:LcZ)=z at *
 have st4:tn 0 (pushCells (s3.heap.push { cls:=.type "dict",data:=.dict #[] }) scope.names):=T.keep _ _ _ st3' fun b _ o e=>keep1 b o e
 have fr4:∀ b ∈ fp,H3 b=none:=fun b hb=>(f3 b hb).1
 have stat:∀ {H':Hp},(∀ b ∈ fp,H' b=none)→∀ b ∈ fp,FpOk (lcCxO X scope own fv z) [] H' b:=fun hn b hb=>by
  subst hz
  refine ⟨hn b hb,(cOk.exf b hb).1,cOk.exfs b hb,.inl hb,(cOk.exf b hb).2,fun q hq=>absurd (show q ∈ ([]:List (Addr × Obj)) from hq) (by simp)⟩
 have envE:({ newEnv scope s3.heap.objs.size X.env.globals (cellsFrom (s3.heap.objs.size+1) scope.names (closL X.env scope.names [])) X.env.qual none .none (some X.env) builtinsNs with scope:=relabel scope X.env }:Env)=(lcCxO X scope own fv z).env:=by
  subst hz
  rfl
 have loop:∀ sA:Shared,sA={ s3 with heap:=pushCells (s3.heap.push { cls:=.type "dict",data:=.dict #[] }) scope.names }→codeAny (model X.prog X.w) X.A (.compLoop (.ListComp elt [⟨tg,iter,ifs,0⟩] scope pos) 0 (.ref it) (.ref p) (lcCxO X scope own fv z).env)
   (compPost (model X.prog X.w) X.A E use Q (.ref p) s3.heap.objs.size) sA:=by
  rintro sA rfl
  refine compLoop_any (fun n s'=>∃ i σ' H',Inv (lcCxO X scope own fv z) [] σ' H' s'∧tn i s'.heap∧(∀ b ∈ fp,H' b=none)∧W i n σ' H') ?_ m0 ⟨0,_,H3,J0,st4,fr4,w0⟩
  rintro n s4 ⟨i,σ4,H4,I4,st4,fr4,w4⟩
  rcases turn i n σ4 H4 w4 with ⟨stop,qn⟩ | ⟨go,Nx,hNx,step⟩
  ·refine thn (T.done (lcCxO X scope own fv z) rfl rfl rfl hc i [] s4 σ4 H4 noX I4 (stat fr4) st4 stop) fun r s5 ⟨hr,I5⟩=>?_
   subst hr
   subst hz
   have I6:Inv X pins σ H4 s5:=lo_back I3 f3 I5
   obtain ⟨m,hn,_⟩:=id I5.loc
   have fpL:=I3.fpOk (H':=H4) (b:=s3.heap.objs.size) (Nat.le_refl _) I5.free
   refine fin p s3.heap.objs.size H4 s5 m I6 qn hn I3.sz fpL.1 fpL.2.1 fpL.2.2.2.2.1 fpL.2.2.2.2.2
  ·refine thn (T.item (lcCxO X scope own fv z) rfl rfl rfl hc i [] s4 σ4 H4 noX I4 (stat fr4) st4 go) fun r s5 ⟨u,hr,h5⟩=>?_
   subst hr
   refine thn h5 fun _ s6 ⟨x,H6,I6,r6,y6,st6,fr6⟩=>?_
   have I6':=I6.pinned (stat fr6) (T.obj _ _ st6)
   have again:∀ {σ7:St} {H7:Hp} {s7:Shared} {m':Nat},m'<n→Inv (lcCxO X scope own fv z) ([]++pinsAt fp s6.heap) σ7 H7 s7→W (i+1) m' σ7 H7→
     ∃ m,m<n∧∃ i σ' H',Inv (lcCxO X scope own fv z) [] σ' H' s7∧tn i s7.heap∧(∀ b ∈ fp,H' b=none)∧W i m σ' H':=fun {σ7 H7 s7 m'} hm I7 w7=>by
    refine ⟨m',hm,i+1,σ7,H7,I7.unpinned,T.keep _ _ _ st6 fun b hb o e=>(I7.pin (b,o) (List.mem_append_right _ (List.mem_append_right _ (mem_pinsAt hb e)))).1,fun b hb=>?_,w7⟩
    obtain ⟨o,e,d⟩:=T.obj _ _ st6 b hb
    exact (I7.pin (b,o) (List.mem_append_right _ (List.mem_append_right _ (mem_pinsAt hb e)))).2.1
   refine thn (hg z _ s6 σ4 H6 x u _ I6' r6 (step x H6 y6)) fun _ s7 ⟨σ7,H7,I7,q7⟩=>?_
   refine thn (ht z _ s7 σ7 H7 _ I7 q7) fun b s8 ⟨H8,I8,q8⟩=>?_
   cases b with
   | false=>
    obtain ⟨m',hm,w8⟩:=hNx _ _ q8
    exact again hm I8 w8
   | true=>
    refine thn (he z _ s8 σ7 H8 _ I8 q8) fun v s9 ⟨y,H9,I9,r9,ys,ep,hl,w9⟩=>?_
    refine thn (mt_append (X:=lcCxO X scope own fv z) _ s9 σ7 H9 (.ref p) [y] (.ref p) [v] (fun _ H'=>Nx σ7 H') I9 rfl (.cons r9 .nil) ⟨p,ys,y,rfl,rfl,ep,hl,w9⟩) fun _ s10 ⟨_,H10,I10,_,q10⟩=>?_
    obtain ⟨m',hm,w10⟩:=hNx _ _ q10
    exact again hm I10 w10
 rw [envE]
 exact codeAny_compStart_list (loop _ rfl) (T.self _ _ _ _ _ st4 (loop _ rfl))
theorem pe_lo (hc:X.calm=true) (S:LcScopeO X scope own fv) (hi:PI X tg iter wi) (hg:∀ z,PG (lcCxO X scope own fv z) tg g) (ht:∀ z,PTs (lcCxO X scope own fv z) ifs tc) (he:∀ z,PE (lcCxO X scope own fv z) elt te)
  (hs:∀ x,foldedSetIterable iter X.env x=pure x:=by intro _;rfl):PE X (.ListComp elt [⟨tg,iter,ifs,0⟩] scope pos) (tLc own fv wi g tc te):=by
 intro pins s σ H Q I h
 rw [eval_ListComp]
 refine lo_core (use:=none) (K:=fun p H'=>Q (.ref p) H') hc S hi hg ht he I h (fun _ _ q=>q) (fun p L H' s' m I' q hn h1 h2 h3 h4 h5=>?_) hs
 exact ⟨m,hn,fun h' hs'=>⟨.ref p,H',I'.other (n:=0) h1 h2 h3 h4 h5 hs',rfl,q⟩⟩
end
end L2
set_option maxHeartbeats 0
namespace L2
open PySem PySem.Spec PyProof.Rows
section
variable {prog:Program} {w:World} {A:Around} {R:Result→Shared→Prop} {I:Addr} {fp wr:List Addr} {n:Nat} {P:Nat→Value→Prop} {St:Nat→Heap→Prop}
end
section
variable {prog:Program} {w:World} {A:Around} {E:Value→Shared→Prop} {s:Shared}
end
section
variable {X:Cx}
end
end L2
set_option maxHeartbeats 0
namespace L2
open PySem PySem.Spec PyProof.Rows
theorem bt_any:bootBuiltins "any" = some (.builtin "any"):=by decide +kernel
theorem range_any' (bs:List Bool):((List.range bs.length).any fun i=>(bs[i]?).getD false)=bs.any id:=by
 rw [Bool.eq_iff_iff,List.any_eq_true,List.any_eq_true]
 constructor
 ·rintro ⟨i,hi,h⟩
  have hi':=List.mem_range.mp hi
  rw [List.getElem?_eq_getElem hi'] at h
  exact ⟨_,List.getElem_mem hi',h⟩
 ·rintro ⟨b,hb,h⟩
  obtain ⟨i,hi,e⟩:=List.getElem_of_mem hb
  exact ⟨i,List.mem_range.mpr hi,by rw [List.getElem?_eq_getElem hi,e];exact h⟩
section
variable {X:Cx}
theorem call_any (hc:X.calm=true):CallR X (.builtin "any") (fun xs H Q=>∃ (p:Addr) (bs:List Bool),xs=[.ref p]∧SqL X.K H p (bs.map V.bl)∧Q (.bl (bs.any id)) H):=by
 intro pins s σ H xs us Q I r h
 obtain ⟨p,bs,rfl,hq,q⟩:=h
 obtain ⟨u,rfl,rx⟩:=vals1 r
 cases rx
 obtain ⟨its,rv,pl,hz⟩:=I.list hq
 have hl:=pl.isList
 have hlt:p<s.heap.objs.size:=by obtain ⟨_,e,_⟩:=hl;exact Heap.lt_size e
 have hlen:=rv.length
 rw [List.length_map] at hlen
 refine call_any_walk (wpAny_pyIter_list hl ?_)
 refine ⟨s.heap.objs.size,[s.heap.objs.size,p],[s.heap.objs.size],its.toArray.size,_,_,fun i=>(bs[i]?).getD false,rfl,Walks.list (A:=X.A.in1) (I.ok.hd hc) _ p (Nat.ne_of_lt hlt) its.toArray,
  ⟨⟨_,Heap.get?_push_size _ rfl,rfl,rfl⟩,hl.push _⟩,fun i v s' Q' E' hP hQ=>?_,fun h' tk hk=>?_⟩
 ·have hP':its[i]?=some v:=by simpa using hP
  have hi:i<bs.length:=by rw [hlen];exact (List.getElem?_eq_some_iff.mp hP').1
  obtain ⟨u,hu,ru⟩:=rv.get (i:=i) (x:=.bl bs[i]) (by rw [List.getElem?_map,List.getElem?_eq_getElem hi];rfl)
  rw [hP'] at hu
  cases hu
  cases ru
  dsimp only at hQ
  rw [List.getElem?_eq_getElem hi,Option.getD_some] at hQ
  exact wpAny_truthy_bool hQ
 ·have e:((List.range its.toArray.size).any fun i=>(bs[i]?).getD false)=bs.any id:=by
   rw [List.size_toArray,← hlen];exact range_any' bs
  refine ⟨.bl (bs.any id),H,I.kept fun b x e=>hk b x (fun hm=>by rw [List.mem_singleton.mp hm] at e;exact Nat.lt_irrefl _ (Heap.lt_size e)) (Heap.get?_push_of_some _ e),?_,q⟩
  rw [e]
  rfl
theorem call_anyK {K:PySem.W.Frag} (hK:X.K=K) (hc:X.calm=true):CallR X (.builtin "any") (fun xs H Q=>∃ (p:Addr) (bs:List Bool),xs=[.ref p]∧SqL K H p (bs.map V.bl)∧Q (.bl (bs.any id)) H):=by subst hK;exact call_any hc
end
end L2
set_option maxHeartbeats 0
namespace L2
open PySem PySem.Spec PyProof.Rows
section
variable {prog:Program} {w:World} {A:Around} {E:Value→Shared→Prop} {s:Shared}
end
section
variable {prog:Program} {w:World} {A:Around} {E:Value→Shared→Prop} {s:Shared}
end
section
variable {X:Cx}
def BareT (H:Hp) (a:Addr) (xs:List V):Prop:=∃ o:Obj,H a=some (.frz o (.tup xs))∧o.cls=.type "tuple"∧o.dict=none
theorem op_isnotB:OpR X (compareOp .IsNot) (fun x y H Q=>∃ a b:Bool,x=.bl a∧y=.bl b∧Q (.bl (a != b)) H):=by
 intro pins s σ H x y v u Q I rx ry h
 obtain ⟨a,b,rfl,rfl,q⟩:=h
 cases rx
 cases ry
 exact wpAny_isNot_plain (by cases a <;> cases b <;> rfl) ⟨.bl (a != b),H,I,by cases a <;> cases b <;> rfl,q⟩
end
end L2
namespace L2
open PySem PySem.Spec PyProof.Rows
section
variable {X:Cx}
end
end L2
namespace HT
open PySem PySem.Spec PyProof.Rows
section
variable {prog:Program} {w:World} {A:Around} {E:Value→Shared→Prop} {s:Shared}
end
end HT
namespace L2
open PySem PySem.Spec PyProof.Rows
section
variable {X:Cx}
end
section
variable {A:Around} {s:Shared}
end
section
variable {X:Cx}
end
end L2
namespace L2
open PySem PySem.Spec PyProof.Rows
section
variable {X:Cx}
end
end L2
namespace L2
open PySem PySem.Spec PyProof.Rows
section
variable {X:Cx} {e:Expr} {te:TE} {st:Option Expr} {tst:TO} {pos p2:Pos}
def tSlR (K:PySem.W.Frag) (te:TE) (tst:TO):TE:=fun σ H Q=>te σ H fun x H1=>tst σ H1 fun l H2=>l=some (-1)∧∃ a xs,x=.ref a∧SqL K H2 a xs∧∀ p,H2 p=none→Q (.ref p) (upd H2 p (.lst xs.reverse))
theorem pe_sliceR (he:PE X e te) (hst:PO X st tst) (hop:∀ v l:Value,∃ ops,subscripted (.Slice none none st p2) false v l=operate ops (getItem v l):=by intro v l;exact ⟨_,by with_unfolding_all rfl⟩):PE X (.Subscript e (.Slice none none st p2) pos) (tSlR X.K te tst):=by
 intro pins s σ H Q I h
 refine Subscript_ (thn (he pins s σ H _ I h) fun v s1 ⟨x,H1,I1,r1,q1⟩=>?_)
 refine wpAny_Slice ?_
 rw [evalPart_none]
 refine wpAny_pure (wpAny_pure (thn (hst pins s1 σ H1 _ I1 q1) fun vk s3 ⟨u,H3,I3,pu,q3⟩=>?_))
 obtain ⟨rfl,a,xs,rfl,hx,q⟩:=q3
 cases r1
 have I4:Inv X pins σ H3 { s3 with heap:=s3.heap.push { cls:=.type "slice",data:=.fields #[.none,.none,vk] } }:=I3.kept (t':=s3.toks) fun b ob q=>Heap.get?_push_of_some _ q
 obtain ⟨its,r,ht,hz⟩:=I4.list hx
 have hlen:=r.length
 have hsl:Heap.IsSliceOf (s3.heap.push { cls:=.type "slice",data:=.fields #[.none,.none,vk] }) s3.heap.objs.size .none .none vk:=Heap.IsSliceOf.new ..
 obtain ⟨ops,hops⟩:=hop (.ref a) (.ref s3.heap.objs.size)
 refine tail_any (ops:=ops) ht.isList.typeIs slot_list_getitem.lookup ?_ hops
 refine wpAny_getItem_list_slice ht.isList hsl .none .none pu (by simp) ?_ (by rw [List.size_toArray] <;> omega)
 rw [PySem.W.krv_pick,show its.toArray.toList.reverse.toArray=its.reverse.toArray by simp]
 refine ⟨.ref _,_,I4.laid (t':=s3.toks) (o:=.lst xs.reverse) (fun b ob q=>Heap.get?_push_of_some _ q) (Nat.le_refl _) ?_,rfl,q _ (I4.hok.fresh (Nat.le_refl _))⟩
 exact ⟨by rw [List.length_reverse];exact hz,_,0,r.reverse,Heap.get?_push_size _ rfl⟩
end
end L2
set_option maxHeartbeats 0
namespace L2
open PySem PySem.Spec PyProof.Rows
section
variable {prog:Program} {w:World} {A:Around} {R:Result→Shared→Prop} {h:Heap} {g:Array GenState} {d:Drawn} {t:Nat} {os:OsState} {K:PySem.W.Frag} {C fI:Addr} {rest:List Value}
end
end L2
set_option maxHeartbeats 0
namespace L2
open PySem PySem.Spec PyProof.Rows
section
variable {X:Cx}
def EX (X:Cx) (pins:List (Addr × Obj)) (G:St→XK) (ev:Value) (s2:Shared):Prop:=∃ (σ1:St) (H1:Hp) (s1:Shared) (g:XK),Inv X pins σ1 H1 s1∧CX1 X.prog X.w X.stack H1 s1 g ev s2∧∀ cls dd H',g cls dd H'→G σ1 cls dd H'
def TB:Type:=(St→XK)→TS
def PB (X:Cx) (b:Stmt) (t:TB):Prop:=∀ (pins:List (Addr × Obj)) (s:Shared) (σ:St) (H:Hp) (D:Ends) (G:St→XK),Inv X pins σ H s→t G D σ H→wpAny (model X.prog X.w) X.A (exec b X.env) (SP X pins D) (EX X pins G) s
end
end L2
namespace L2
open PySem PySem.Spec PyProof.Rows
section
variable {prog:Program} {w:World} {A:Around} {E:Value→Shared→Prop} {s:Shared}
end
section
variable {X:Cx} {pos:Pos}
end
end L2
namespace Fw
open PySem L2
theorem bt_len:bootBuiltins "len" = some (.builtin "len"):=by decide +kernel
theorem bt_min:bootBuiltins "min" = some (.builtin "min"):=by decide +kernel
theorem bt_max:bootBuiltins "max" = some (.builtin "max"):=by decide +kernel
theorem bt_sorted:bootBuiltins "sorted" = some (.builtin "sorted"):=by decide +kernel
theorem bt_divmod:bootBuiltins "divmod" = some (.builtin "divmod"):=by decide +kernel
theorem bt_all:bootBuiltins "all" = some (.builtin "all"):=by decide +kernel
theorem bt_isinstance:bootBuiltins "isinstance" = some (.builtin "isinstance"):=by decide +kernel
theorem bt_int:bootBuiltins "int" = some (.type "int"):=by decide +kernel
theorem bt_bool:bootBuiltins "bool" = some (.type "bool"):=by decide +kernel
theorem bt_list:bootBuiltins "list" = some (.type "list"):=by decide +kernel
theorem bt_tuple:bootBuiltins "tuple" = some (.type "tuple"):=by decide +kernel
theorem bt_set:bootBuiltins "set" = some (.type "set"):=by decide +kernel
theorem bt_range:bootBuiltins "range" = some (.type "range"):=by decide +kernel
theorem bt_enumerate:bootBuiltins "enumerate" = some (.type "enumerate"):=by decide +kernel
structure StAt (H:Hp) (d c:Addr) (t:Int) (ns:List Int):Prop where
 dict:H d=some (.dK [(Sum.inr "cells",.ref c),(Sum.inr "turn",.int t)])
 list:H c=some (.lst (ns.map V.int))
 ne:0<ns.length
 len:ns.length≤63
 pos:0≤t
def Keep (d c:Addr) (H H':Hp):Prop:=∀ b o,H b=some o→b ≠ d→b ≠ c→H' b=some o
theorem Keep.refl {d c:Addr} {H:Hp}:Keep d c H H:=fun _ _ h _ _=>h
theorem Keep.trans {d c:Addr} {H H1 H2:Hp} (a:Keep d c H H1) (b:Keep d c H1 H2):Keep d c H H2:=fun x o h n m=>b x o (a x o h n m) n m
theorem Keep.of_same {d c:Addr} {H H':Hp} (h:Same H H'):Keep d c H H':=fun b o e _ _=>h b o e
theorem same_new {H:Hp} {p:Addr} (h:H p=none) (o:HO):Same H (upd H p o):=fun b u q=>by rw [upd_ne (ne_of_none q h)];exact q
theorem keep_new {d c:Addr} {H:Hp} {p:Addr} (h:H p=none) (o:HO):Keep d c H (upd H p o):=.of_same (same_new h o)
theorem StAt.ndc {H:Hp} {d c:Addr} {t:Int} {ns:List Int} (S:StAt H d c t ns):d ≠ c:=ne_of S.dict S.list (by intro z;cases z)
theorem StAt.same {H H':Hp} {d c:Addr} {t:Int} {ns:List Int} (S:StAt H d c t ns) (h:Same H H'):StAt H' d c t ns:=⟨h _ _ S.dict,h _ _ S.list,S.ne,S.len,S.pos⟩
theorem StAt.new {H:Hp} {d c p:Addr} {t:Int} {ns:List Int} (S:StAt H d c t ns) (h:H p=none) (o:HO):StAt (upd H p o) d c t ns:=S.same (same_new h o)
theorem s_cs:¬ (Str.ofString "cells" = Str.ofString "turn"):=by decide +kernel
theorem s_ct:¬ ((Sum.inr (Str.ofString "cells"):Key)=Sum.inr (Str.ofString "turn")):=fun h=>s_cs (Sum.inr.inj h)
theorem dg_turn {H:Hp} {d c:Addr} {t:Int} {ns:List Int} (S:StAt H d c t ns):DGet H d (.str "turn") (some (.int t)):=by
 have h:=DGet.k (k:=Sum.inr "turn") S.dict
 rw [valV_neg s_ct,valV_pos rfl] at h
 exact h
theorem dg_cells {H:Hp} {d c:Addr} {t:Int} {ns:List Int} (S:StAt H d c t ns):DGet H d (.str "cells") (some (.ref c)):=by
 have h:=DGet.k (k:=Sum.inr "cells") S.dict
 rw [valV_pos rfl] at h
 exact h
theorem put_turn (c:Addr) (t u:Int):putK [((Sum.inr "cells" : Key),V.ref c),(Sum.inr "turn",V.int t)] (Sum.inr "turn") (V.int u)=[((Sum.inr "cells" : Key),V.ref c),(Sum.inr "turn",V.int u)]:=by
 unfold putK
 simp [s_cs]
theorem dp_turn {H:Hp} {d c:Addr} {t u:Int} {ns:List Int} (S:StAt H d c t ns):DPut H d (.str "turn") (.int u) (upd H d (.dK [(Sum.inr "cells",.ref c),(Sum.inr "turn",.int u)])):=by
 have h:=DPut.k (k:=Sum.inr "turn") (v:=.int u) S.dict (by rw [sizeLine_eq];exact (by decide:2<16777216))
 rw [put_turn] at h
 exact h
theorem StAt.turn {H:Hp} {d c:Addr} {t u:Int} {ns:List Int} (S:StAt H d c t ns) (h:0≤u):StAt (upd H d (.dK [(Sum.inr "cells",.ref c),(Sum.inr "turn",.int u)])) d c u ns:=
 ⟨upd_same,by rw [upd_ne (Ne.symm S.ndc)];exact S.list,S.ne,S.len,h⟩
theorem StAt.put {H:Hp} {d c:Addr} {t:Int} {ns ms:List Int} (S:StAt H d c t ns) (h:ms.length=ns.length):StAt (upd H c (.lst (ms.map V.int))) d c t ms:=
 ⟨by rw [upd_ne S.ndc];exact S.dict,upd_same,by rw [h];exact S.ne,by rw [h];exact S.len,S.pos⟩
abbrev TB:Int:=1000000000
def spTake:Sp:=fun vs H Q _=>∃ d c t ns m,vs=[.ref d,.int m]∧StAt H d c t ns∧t≤TB∧1≤m∧m≤1000000∧∀ k ns' H',0≤k→k<m→StAt H' d c (t+1) ns'→Keep d c H H'→Q (.int k) H'
def spBegin (K:PySem.W.Frag):Sp:=fun vs H Q _=>∃ (a:Addr) (ns:List Int),vs=[.ref a]∧SqL K H a (ns.map V.int)∧ns.length≤63∧∀ d c ms H',StAt H' d c 0 ms→Same H H'→H d=none→H c=none→Q (.ref d) H'
def cutI {α:Type} (xs:List α) (lo hi:Option Int):List α:=(xs.drop (HT.sIx xs.length 0 lo)).take (HT.sIx xs.length xs.length hi - HT.sIx xs.length 0 lo)
theorem cutV_map {α:Type} (f:α→V) (xs:List α) (lo hi:Option Int):cutV (xs.map f) lo hi=(cutI xs lo hi).map f:=by
 unfold cutV cutI
 rw [List.length_map,← List.map_drop,← List.map_take]
theorem cutI_len {α:Type} (xs:List α) (lo hi:Option Int):(cutI xs lo hi).length≤xs.length:=by
 unfold cutI
 rw [List.length_take,List.length_drop]
 omega
theorem merge2 (c:Addr) (t:Int):mergeK [] [((Sum.inr (Str.ofString "cells"):Key),V.ref c),(Sum.inr (Str.ofString "turn"),V.int t)]=[((Sum.inr (Str.ofString "cells"):Key),V.ref c),(Sum.inr (Str.ofString "turn"),V.int t)]:=by
 unfold mergeK
 simp only [List.foldl_cons,List.foldl_nil]
 unfold putK
 simp [s_cs]
theorem ixN_nat {xs:List V} {j:Nat} (h:j<xs.length):ixN xs.length (j:Int)=some j:=by
 unfold ixN
 rw [if_pos (by omega),if_pos (by omega),Int.toNat_natCast]
def spLaw (K:PySem.W.Frag):Sp:=fun vs H Q _=>∃ (a:Addr) (ns:List Int),vs=[.ref a]∧SqL K H a (ns.map V.int)∧ns.length≤63∧∀ H',Q (.bl true) H'
theorem cut {t u:TS} {D:Ends} {σ:St} {H:Hp} (h:∀ N:St→Hp→Prop,(∀ σ H,u D σ H→N σ H)→t { D with nx:=N } σ H):tSeq t u D σ H:=h _ fun _ _ z=>z
theorem opq {A:Prop} (h:∀ G:Prop,(A→G)→G):A:=h A id
end Fw
namespace Fw
open PySem L2
structure Rise (k:Int) (zs:List Int):Prop where
 up:zs.Pairwise (·<·)
 in_:∀ x ∈ zs,0≤x∧x<k
theorem Rise.nil {k:Int}:Rise k []:=⟨.nil,fun _ h=>nomatch h⟩
theorem Rise.mono {j k:Int} {zs:List Int} (h:Rise j zs) (l:j≤k):Rise k zs:=⟨h.up,fun x hx=>⟨(h.in_ x hx).1,by have:=(h.in_ x hx).2;omega⟩⟩
theorem Rise.sub {k:Int} {zs ys:List Int} (h:Rise k zs) (s:ys.Sublist zs):Rise k ys:=⟨h.up.sublist s,fun x hx=>h.in_ x (s.subset hx)⟩
theorem Rise.snoc {k:Int} {zs:List Int} (h:Rise k zs) (h0:0≤k):Rise (k+1) (zs++[k]):=by
 refine ⟨List.pairwise_append.mpr ⟨h.up,List.pairwise_singleton _ _,fun a ha b hb=>?_⟩,fun x hx=>?_⟩
 ·rw [List.mem_singleton.mp hb];exact (h.in_ a ha).2
 ·rcases List.mem_append.mp hx with hx | hx
  ·have:=h.in_ x hx;omega
  ·rw [List.mem_singleton.mp hx];omega
theorem Rise.shift {k j:Int} {zs:List Int} (h:Rise k zs) (hj:0≤j):Rise (k+j) (zs.map (·+j)):=by
 refine ⟨List.pairwise_map.mpr (h.up.imp fun {a b} hab=>by omega),fun x hx=>?_⟩
 obtain ⟨y,hy,e⟩:=List.mem_map.mp hx
 have:=h.in_ y hy
 omega
theorem Rise.nodup {k:Int} {zs:List Int} (h:Rise k zs):zs.Nodup:=h.up.imp fun {a b} hab=>by omega
theorem Rise.len {zs:List Int} {k:Nat} (h:Rise (k:Int) zs):zs.length≤k:=by
 have sub:zs ⊆ (List.range k).map fun (i:Nat)=>(i:Int):=fun x hx=>by
  have:=h.in_ x hx
  exact List.mem_map.mpr ⟨x.toNat,List.mem_range.mpr (by omega),by omega⟩
 have:=List.Nodup.length_le_of_subset h.nodup sub
 simpa using this
theorem mem_addI {zs:List Int} {k x:Int}:x ∈ addI zs k ↔ x ∈ zs∨x=k:=by
 unfold addI
 split
 ·rename_i h
  constructor
  ·exact .inl
  ·rintro (z | rfl)
   ·exact z
   ·exact h
 ·simp
theorem nd_addI {zs:List Int} {k:Int} (h:zs.Nodup):(addI zs k).Nodup:=by
 unfold addI
 split
 ·exact h
 ·rename_i hk
  exact nd_snoc h hk
theorem ded_go:∀ (l zs:List Int),zs.Nodup→(l.foldl addI zs).Nodup∧∀ x,x ∈ l.foldl addI zs ↔ x ∈ zs∨x ∈ l
 | [],zs,h=>⟨h,fun x=>by simp⟩
 | k::r,zs,h=>by
  obtain ⟨a,b⟩:=ded_go r (addI zs k) (nd_addI h)
  refine ⟨a,fun x=>?_⟩
  rw [List.foldl_cons,b x,mem_addI,List.mem_cons,or_assoc]
theorem dedI_nodup (l:List Int):(dedI l).Nodup:=(ded_go l [] .nil).1
theorem mem_dedI {l:List Int} {x:Int}:x ∈ dedI l ↔ x ∈ l:=by
 have:=(ded_go l [] .nil).2 x
 unfold dedI
 rw [this]
 simp
theorem dedI_len (l:List Int):(dedI l).length≤l.length:=by
 have:=foldl_addI_len l []
 simpa [dedI] using this
theorem lt_of_sorted {zs:List Int} (h1:zs.Pairwise (·≤·)) (h2:zs.Nodup):zs.Pairwise (·<·):=by
 have h3:zs.Pairwise (fun a b=>a≤b∧a ≠ b):=List.pairwise_and_iff.mpr ⟨h1,h2⟩
 exact h3.imp fun {a b} ⟨x,y⟩=>by omega
theorem rise_set {k:Int} {fs zs:List Int} (hp:zs.Perm (dedI fs)) (hs:zs.Pairwise (·≤·)) (h:∀ x ∈ fs,0≤x∧x<k):Rise k zs:=
 ⟨lt_of_sorted hs (hp.nodup_iff.mpr (dedI_nodup fs)),fun x hx=>h x (mem_dedI.mp (hp.mem_iff.mp hx))⟩
def rangeI (lo hi:Int):List Int:=(List.range (hi - lo).toNat).map fun (i:Nat)=>lo+i
theorem rangeV_ints (lo hi:Int):rangeV lo hi=(rangeI lo hi).map V.int:=by
 unfold rangeV rangeI
 rw [List.map_map]
 rfl
theorem mem_rangeI {lo hi x:Int}:x ∈ rangeI lo hi ↔ lo≤x∧x<hi:=by
 unfold rangeI
 rw [List.mem_map]
 constructor
 ·rintro ⟨i,hi',e⟩
  have:=List.mem_range.mp hi'
  omega
 ·intro h
  exact ⟨(x - lo).toNat,List.mem_range.mpr (by omega),by omega⟩
theorem rangeI_len (lo hi:Int):(rangeI lo hi).length=(hi - lo).toNat:=by unfold rangeI;simp
theorem rangeI_up (lo hi:Int):(rangeI lo hi).Pairwise (·<·):=by
 unfold rangeI
 exact List.pairwise_map.mpr (List.pairwise_lt_range.imp fun {a b} h=>by omega)
theorem rangeI_rise {lo hi:Int} (h:0≤lo):Rise hi (rangeI lo hi):=⟨rangeI_up _ _,fun x hx=>by have:=mem_rangeI.mp hx;omega⟩
theorem cutI_from {α:Type} (xs:List α) (k:Nat) (h:k≤xs.length):cutI xs (some (k:Int)) none=xs.drop k:=by
 unfold cutI
 rw [HT.sIx_nat,HT.sIx_none,Nat.min_eq_left h]
 exact List.take_of_length_le (by rw [List.length_drop];exact Nat.le_refl _)
theorem cutI_to {α:Type} (xs:List α) (k:Nat):cutI xs none (some (k:Int))=xs.take k:=by
 unfold cutI
 rw [HT.sIx_nat,HT.sIx_none,List.drop_zero,Nat.sub_zero]
 rcases Nat.le_total k xs.length with h | h
 ·rw [Nat.min_eq_left h]
 ·rw [Nat.min_eq_right h,List.take_of_length_le h,List.take_of_length_le (Nat.le_refl _)]
abbrev NetL (H:Hp):List Addr→List (List Int)→Prop:=Paired fun r zs=>H r=some (.tup (zs.map V.int))
theorem NetL.keep {d c:Addr} {H H':Hp} {rs:List Addr} {net:List (List Int)} (h:NetL H rs net) (hd:∀ r zs,H r=some (.tup zs)→r ≠ d∧r ≠ c) (k:Keep d c H H'):NetL H' rs net:=by
 induction h with
 | nil=>exact .nil
 | cons r t ih=>exact .cons (k _ _ r (hd _ _ r).1 (hd _ _ r).2) ih
theorem NetL.same {H H':Hp} {rs:List Addr} {net:List (List Int)} (h:NetL H rs net) (k:∀ r zs,H r=some (.tup zs)→H' r=some (.tup zs)):NetL H' rs net:=by
 induction h with
 | nil=>exact .nil
 | cons r t ih=>exact .cons (k _ _ r) ih
theorem NetL.get {H:Hp}:∀ {rs:List Addr} {net:List (List Int)} {i:Nat} {zs:List Int},NetL H rs net→net[i]?=some zs→∃ r,rs[i]?=some r∧H r=some (.tup (zs.map V.int))
 | _,_,_,_,.nil,e=>by simp at e
 | _,_,0,_,.cons r _,e=>by simp at e;subst e;exact ⟨_,rfl,r⟩
 | _,_,i+1,zs,.cons _ t,e=>by
  obtain ⟨r,h1,h2⟩:=NetL.get (i:=i) (zs:=zs) t (by simpa using e)
  exact ⟨r,by simpa using h1,h2⟩
def NetAt (H:Hp) (a:Addr) (net:List (List Int)):Prop:=∃ rs:List Addr,H a=some (.tup (rs.map V.ref))∧NetL H rs net
theorem StAt.tup {H:Hp} {d c:Addr} {t:Int} {ns:List Int} (S:StAt H d c t ns) {r:Addr} {zs:List V} (h:H r=some (.tup zs)):r ≠ d∧r ≠ c:=
 ⟨ne_of h S.dict (by intro z;cases z),ne_of h S.list (by intro z;cases z)⟩
theorem NetAt.keep {H H':Hp} {d c:Addr} {t:Int} {ns:List Int} (S:StAt H d c t ns) {a:Addr} {net:List (List Int)} (h:NetAt H a net) (k:Keep d c H H'):NetAt H' a net:=by
 obtain ⟨rs,h1,h2⟩:=h
 exact ⟨rs,k _ _ h1 (S.tup h1).1 (S.tup h1).2,h2.keep (fun r zs e=>S.tup e) k⟩
theorem NetAt.same {H H':Hp} {a:Addr} {net:List (List Int)} (h:NetAt H a net) (k:Same H H'):NetAt H' a net:=by
 obtain ⟨rs,h1,h2⟩:=h
 exact ⟨rs,k _ _ h1,h2.same fun r zs e=>k _ _ e⟩
theorem NetAt.len {H:Hp} {rs:List Addr} {net:List (List Int)} (h:NetL H rs net):rs.length=net.length:=Paired.length h
def WFn (net:List (List Int)):Prop:=∀ (i:Nat) zs,net[i]?=some zs→Rise (i:Int) zs
theorem WFn.snoc {net:List (List Int)} {zs:List Int} (h:WFn net) (hz:Rise (net.length:Int) zs):WFn (net++[zs]):=by
 intro i ys e
 rcases Nat.lt_trichotomy i net.length with l | l | l
 ·rw [List.getElem?_append_left l] at e;exact h i ys e
 ·subst l
  simp at e
  subst e
  exact hz
 ·rw [List.getElem?_eq_none (by rw [List.length_append,List.length_singleton];omega)] at e
  cases e
theorem WFn.nil:WFn []:=fun i zs e=>by simp at e
theorem lcs_snoc {α β:Type} {F:α→β→Prop} {a:α} {b:β} {l₁:List α} {l₂:List β} (h:Paired F l₁ l₂) (r:F a b):Paired F (l₁++[a]) (l₂++[b]):=Paired.snoc h r
def spNeeds:Sp:=fun vs H Q _=>∃ d c t ns k,vs=[.ref d,.int k]∧StAt H d c t ns∧t≤TB - 20∧0≤k∧k≤1000∧
 ∀ r zs t' ns' H',StAt H' d c t' ns'→t≤t'→t'≤t+9→Keep d c H H'→H' r=some (.tup (zs.map V.int))→Rise k zs→Q (.ref r) H'
def spNet:Sp:=fun vs H Q _=>∃ d c t ns m,vs=[.ref d,.int m]∧StAt H d c t ns∧t≤TB - 10000∧1≤m∧m≤400∧
 ∀ a net t' ns' H',StAt H' d c t' ns'→t≤t'→t'≤t+10 * m+10→Keep d c H H'→NetAt H' a net→WFn net→(net.length:Int)=m→Q (.ref a) H'
def spTree:Sp:=fun vs H Q _=>∃ d c t ns m,vs=[.ref d,.int m]∧StAt H d c t ns∧t≤TB - 1000∧1≤m∧m≤400∧
 ∀ a net t' ns' H',StAt H' d c t' ns'→t≤t'→t'≤t+m→Keep d c H H'→NetAt H' a net→WFn net→(net.length:Int)=m→Q (.ref a) H'
theorem pick2 {a b k:Int} (h0:0≤k) (h1:k<4):∃ v,atI [V.int a,V.int b] (k / 3)=some (.int v)∧(v=a∨v=b):=by
 rcases (by omega:k=0∨k=1∨k=2∨k=3) with rfl | rfl | rfl | rfl
 ·exact ⟨a,rfl,.inl rfl⟩
 ·exact ⟨a,rfl,.inl rfl⟩
 ·exact ⟨a,rfl,.inl rfl⟩
 ·exact ⟨b,rfl,.inr rfl⟩
theorem pick6 {k:Int} (h0:0≤k) (h1:k<6):∃ v,atI [V.int 0,V.int 0,V.int 1,V.int 2,V.int 2,V.int 3] k=some (.int v)∧0≤v∧v≤3:=by
 rcases (by omega:k=0∨k=1∨k=2∨k=3∨k=4∨k=5) with rfl | rfl | rfl | rfl | rfl | rfl
 all_goals exact ⟨_,rfl,by decide,by decide⟩
theorem same_put {H Hc:Hp} {p:Addr} {o:HO} (h:Same H Hc) (hp:H p=none):Same H (upd Hc p o):=fun b u e=>by rw [upd_ne (ne_of_none e hp)];exact h b u e
theorem keep_put {d c:Addr} {H Hc:Hp} {p:Addr} {o:HO} (h:Keep d c H Hc) (hp:H p=none):Keep d c H (upd Hc p o):=fun b u e n1 n2=>by rw [upd_ne (ne_of_none e hp)];exact h b u e n1 n2
theorem netl_put {H:Hp} {p:Addr} {xs:List V} {o:HO} {rs:List Addr} {net:List (List Int)} (h:NetL H rs net) (hp:H p=some (.lst xs)):NetL (upd H p o) rs net:=
 h.same fun r zs e=>by rw [upd_ne (ne_of e hp (by intro z;cases z))];exact e
theorem map_snoc (rs:List Addr) (r:Addr):rs.map V.ref++[V.ref r]=(rs++[r]).map V.ref:=by rw [List.map_append];rfl
theorem rep_b (b:Bool) (x:Int):(List.replicate (if b=true then (1:Int) else 0).toNat [V.int x]).flatten=(if b=true then [x] else []).map V.int:=by cases b <;> rfl
theorem paired_get {α β:Type} {F:α→β→Prop}:∀ {l₁:List α} {l₂:List β} {i:Nat} {a:α},Paired F l₁ l₂→l₁[i]?=some a→∃ b,l₂[i]?=some b∧F a b
 | _,_,_,_,.nil,e=>by simp at e
 | _,_,0,_,.cons r _,e=>by simp at e;subst e;exact ⟨_,rfl,r⟩
 | _,_,i+1,a,.cons _ t,e=>by
  obtain ⟨b,h1,h2⟩:=paired_get (i:=i) (a:=a) t (by simpa using e)
  exact ⟨b,by simpa using h1,h2⟩
theorem paired_imp {α β:Type} {F G:α→β→Prop} {l₁:List α} {l₂:List β} (h:Paired F l₁ l₂) (k:∀ a b,F a b→G a b):Paired G l₁ l₂:=by
 induction h with
 | nil=>exact .nil
 | cons r t ih=>exact .cons (k _ _ r) ih
theorem get_ref {rs:List Addr} {i:Nat} {x:V} (h:(rs.map V.ref)[i]?=some x):∃ r,rs[i]?=some r∧x=.ref r:=by
 rw [List.getElem?_map] at h
 cases e:rs[i]? with
 | none=>rw [e] at h;cases h
 | some r=>rw [e] at h;exact ⟨r,rfl,(Option.some.inj h).symm⟩
theorem get_int {zs:List Int} {i:Nat} {x:V} (h:(zs.map V.int)[i]?=some x):∃ z,zs[i]?=some z∧x=.int z:=by
 rw [List.getElem?_map] at h
 cases e:zs[i]? with
 | none=>rw [e] at h;cases h
 | some r=>rw [e] at h;exact ⟨r,rfl,(Option.some.inj h).symm⟩
theorem snoc_get {α:Type} {l:List α} {a b:α} {j:Nat} (h:(l++[a])[j]?=some b):l[j]?=some b∨(j=l.length∧b=a):=by
 rcases Nat.lt_trichotomy j l.length with z | z | z
 ·rw [List.getElem?_append_left z] at h;exact .inl h
 ·subst z
  simp at h
  exact .inr ⟨rfl,h.symm⟩
 ·rw [List.getElem?_eq_none (by rw [List.length_append,List.length_singleton];omega)] at h
  cases h
end Fw
namespace Fw
open PySem L2
theorem inV_int (a:Int) (zs:List Int):inV (.int a) (zs.map V.int)=decide (a ∈ zs):=by
 unfold inV
 induction zs with
 | nil=>simp
 | cons z r ih=>
  rw [List.map_cons,List.any_cons,ih]
  have e:eqV (.int z) (.int a)=decide (a=z):=by
   by_cases h:z=a
   ·subst h;simp [eqV]
   ·have h':¬ a=z:=fun q=>h q.symm
    simp [eqV,h,h']
  rw [e]
  simp [List.mem_cons]
theorem flat_ints (zs:List Int):(zs.map V.int).all flatV=true:=by
 rw [List.all_eq_true]
 intro x hx
 obtain ⟨z,_,rfl⟩:=List.mem_map.mp hx
 rfl
def wordDo (ns st:List Int) (rooms wk:Int):V:=if wk ∈ st then .str "there" else if ∀ x ∈ ns,x ∈ st then (if rooms≤(st.length:Int) then .str "full" else .non) else .str "needs"
def wordClear (st:List Int) (wk:Int):V:=if wk ∈ st then .non else .str "empty"
def spFaultDo:Sp:=fun vs H Q _=>∃ (a s:Addr) (net:List (List Int)) (st ns:List Int) (rooms wk:Int),vs=[.ref a,.int rooms,.ref s,.int wk]∧NetAt H a net∧H s=some (.tup (st.map V.int))∧st.length≤1000∧0≤wk∧net[wk.toNat]?=some ns∧
 ∀ H',Same H H'→Q (wordDo ns st rooms wk) H'
def wordOf (ns st:List Int) (rooms:Int) (word:Str) (wk:Int):V:=if word = "do" then wordDo ns st rooms wk else wordClear st wk
def spFault:Sp:=fun vs H Q _=>∃ (a s mv:Addr) (net:List (List Int)) (st ns:List Int) (rooms wk:Int) (word:Str),vs=[.ref a,.int rooms,.ref s,.ref mv]∧NetAt H a net∧H s=some (.tup (st.map V.int))∧st.length≤1000∧H mv=some (.tup [.str word,.int wk])∧(word = "do"∨word = "clear")∧0≤wk∧net[wk.toNat]?=some ns∧ns.length≤1000∧
 ∀ H',Same H H'→Q (wordOf ns st rooms word wk) H'
theorem wordOf_kind (ns st:List Int) (rooms:Int) (word:Str) (wk:Int):wordOf ns st rooms word wk=.non∨∃ y,wordOf ns st rooms word wk=.str y:=by
 unfold wordOf wordDo wordClear
 split
 ·split
  ·exact .inr ⟨_,rfl⟩
  ·split
   ·split
    ·exact .inr ⟨_,rfl⟩
    ·exact .inl rfl
   ·exact .inr ⟨_,rfl⟩
 ·split
  ·exact .inl rfl
  ·exact .inr ⟨_,rfl⟩
theorem do_ne_clear:¬ (Str.ofString "clear" = Str.ofString "do"):=by decide +kernel
theorem get_at {xs:List V} {i:Int} {x:V} (h0:0≤i) (h:xs[i.toNat]?=some x):atI xs i=some x:=by
 have e:i=((i.toNat:Nat):Int):=by omega
 rw [e]
 exact atI_nat (by simpa using h)
theorem NetAt.get {H:Hp} {a:Addr} {net:List (List Int)} {ns:List Int} {i:Nat} (h:NetAt H a net) (e:net[i]?=some ns):∃ (rs:List Addr) (r:Addr),H a=some (.tup (rs.map V.ref))∧rs.length=net.length∧(rs.map V.ref)[i]?=some (.ref r)∧H r=some (.tup (ns.map V.int)):=by
 obtain ⟨rs,h1,h2⟩:=h
 obtain ⟨r,h3,h4⟩:=h2.get e
 exact ⟨rs,r,h1,Paired.length h2,by rw [List.getElem?_map,h3];rfl,h4⟩
def tJoin (t:TS):TS:=fun D σ H=>∃ Pm:St→Hp→Prop,t { D with nx:=Pm } σ H∧∀ σ' H',Pm σ' H'→D.nx σ' H'
theorem ps_join {X:Cx} {st:Stmt} {t:TS} (h:PS X st t):PS X st (tJoin t):=by
 intro pins s σ H D I hq
 obtain ⟨Pm,h1,h2⟩:=hq
 refine thn (h pins s σ H _ I h1) fun f s' q=>?_
 cases f with
 | next=>obtain ⟨σ',H',I',q⟩:=q;exact ⟨σ',H',I',h2 _ _ q⟩
 | brk=>exact q
 | cont=>exact q
 | ret u=>exact q
theorem take_snoc_all {ns st:List Int} {i:Nat} {z:Int} (ez:ns[i]?=some z):((ns.take i).map fun x=>decide (x ∈ st)).map V.bl++[V.bl (decide (z ∈ st))]=((ns.take (i+1)).map fun x=>decide (x ∈ st)).map V.bl:=by
 rw [List.take_add_one,ez,Option.toList_some,List.map_append,List.map_append]
 rfl
theorem all_in {ns st:List Int}:(((ns.map fun x=>decide (x ∈ st)).all id)=true) ↔ ∀ x ∈ ns,x ∈ st:=by
 rw [List.all_eq_true]
 constructor
 ·intro h x hx
  have:=h _ (List.mem_map.mpr ⟨x,hx,rfl⟩)
  exact of_decide_eq_true this
 ·intro h b hb
  obtain ⟨x,hx,rfl⟩:=List.mem_map.mp hb
  exact decide_eq_true (h x hx)
end Fw
namespace Fw
open PySem L2
section
variable {K:PySem.W.Frag}
end
theorem filter_snoc {α:Type} {p:α→Bool} {l:List α} {i:Nat} {x:α} (h:l[i]?=some x):(l.take (i+1)).filter p=(l.take i).filter p++(if p x then [x] else []):=by
 rw [List.take_add_one,h,Option.toList_some,List.filter_append]
 by_cases hp:p x=true
 ·simp [hp]
 ·simp [hp]
end Fw
namespace Fw
open PySem L2
abbrev MovL (H:Hp):List Addr→List (Str × Int)→Prop:=Paired fun r m=>H r=some (.tup [.str m.1,.int m.2])
theorem MovL.same {H H':Hp} {rs:List Addr} {ms:List (Str × Int)} (h:MovL H rs ms) (k:Same H H'):MovL H' rs ms:=by
 induction h with
 | nil=>exact .nil
 | cons r t ih=>exact .cons (k _ _ r) ih
theorem MovL.put {H:Hp} {p:Addr} {xs:List V} {o:HO} {rs:List Addr} {ms:List (Str × Int)} (h:MovL H rs ms) (hp:H p=some (.lst xs)):MovL (upd H p o) rs ms:=by
 induction h with
 | nil=>exact .nil
 | cons r t ih=>exact .cons (by rw [upd_ne (ne_of r hp (by intro z;cases z))];exact r) ih
theorem paired_app {α β:Type} {F:α→β→Prop} {a c:List α} {b d:List β} (h:Paired F a b) (k:Paired F c d):Paired F (a++c) (b++d):=by
 induction h with
 | nil=>exact k
 | cons r t ih=>exact .cons r ih
theorem MovL.snoc {H:Hp} {rs:List Addr} {ms:List (Str × Int)} {r:Addr} {wo:Str} {x:Int} (h:MovL H rs ms) (e:H r=some (.tup [.str wo,.int x])):MovL H (rs++[r]) (ms++[(wo,x)]):=Paired.snoc h e
theorem MovL.app {H:Hp} {rs rs':List Addr} {ms ms':List (Str × Int)} (h:MovL H rs ms) (h':MovL H rs' ms'):MovL H (rs++rs') (ms++ms'):=paired_app h h'
def wd (net:List (List Int)) (st:List Int) (rooms:Int) (m:Str × Int):V:=wordOf ((net[m.2.toNat]?).getD []) st rooms m.1 m.2
end Fw
namespace Fw
open PySem L2
theorem rangeI0_get {n:Int} {i:Nat} (h:(i:Int)<n):(rangeI 0 n)[i]?=some (i:Int):=by
 unfold rangeI
 rw [List.getElem?_map,List.getElem?_range (by omega)]
 simp
theorem take_all {α:Type} {l:List α} {n:Nat} (h:l.length=n):l.take n=l:=List.take_of_length_le (by omega)
theorem filter_take_len {p:Int→Bool} {l:List Int} {i:Nat}:((l.take i).filter p).length≤i:=by
 have:=List.length_filter_le p (l.take i)
 rw [List.length_take] at this
 omega
structure Cnt (n:Nat) (cs:List Int) (seen:List Int):Prop where
 len:cs.length=n
 at_:∀ x:Nat,x<n→∃ c,cs[x]?=some c∧0≤c∧(c=0 ↔ (x:Int) ∉ seen)
theorem small_n {n:Nat} (h:n≤1000000):n<sizeLine:=by rw [sizeLine_eq];omega
end Fw
namespace Fw
open PySem L2
inductive Nd (net:List (List Int)) (asked:List Int):Int→Prop
 | ask {x:Int}:x ∈ asked→Nd net asked x
 | need {w y:Int} {zs:List Int}:Nd net asked w→net[w.toNat]?=some zs→y ∈ zs→Nd net asked y
structure KeysI (kvs:List (Key × V)) (ks:List Int):Prop where
 keys:kvs.map (·.1)=ks.map Sum.inl
 nd:ks.Nodup
theorem nd_len {ks:List Int} {n:Nat} (h:ks.Nodup) (b:∀ x ∈ ks,0≤x∧x<(n:Int)):ks.length≤n:=by
 have sub:ks ⊆ (List.range n).map fun (i:Nat)=>(i:Int):=fun x hx=>by
  have:=b x hx
  exact List.mem_map.mpr ⟨x.toNat,List.mem_range.mpr (by omega),by omega⟩
 have:=List.Nodup.length_le_of_subset h sub
 simpa using this
structure Fnd (net:List (List Int)) (asked ks:List Int) (j:Int):Prop where
 in_:∀ x ∈ ks,(0≤x∧x<(net.length:Int))∧Nd net asked x
 ask:∀ x ∈ asked,x ∈ ks
 clo:∀ (w:Nat) zs,j≤(w:Int)→(w:Int) ∈ ks→net[w]?=some zs→∀ y ∈ zs,y ∈ ks
theorem Fnd.all {net:List (List Int)} {asked ks:List Int} (wf:WFn net) (h:Fnd net asked ks 0) (x:Int):x ∈ ks ↔ Nd net asked x:=by
 refine ⟨fun hx=>(h.in_ x hx).2,fun hx=>?_⟩
 induction hx with
 | ask m=>exact h.ask _ m
 | @need w y zs _ e m ih=>
  have b:=(h.in_ w ih).1
  exact h.clo w.toNat zs (by omega) (by rw [show ((w.toNat:Nat):Int)=w by omega];exact ih) e y m
def IsNeeded (net:List (List Int)) (asked zs:List Int):Prop:=Rise (net.length:Int) zs∧∀ x,x ∈ zs ↔ Nd net asked x
theorem up_get {ws:List Int} (up:ws.Pairwise (·<·)) {i j:Nat} {x y:Int} (hx:ws[i]?=some x) (hy:ws[j]?=some y):i<j ↔ x<y:=by
 obtain ⟨hi,ex⟩:=List.getElem?_eq_some_iff.mp hx
 obtain ⟨hj,ey⟩:=List.getElem?_eq_some_iff.mp hy
 have key:∀ a b (ha:a<ws.length) (hb:b<ws.length),a<b→ws[a]<ws[b]:=fun a b ha hb hab=>List.pairwise_iff_getElem.mp up a b ha hb hab
 constructor
 ·intro h
  have:=key i j hi hj h
  omega
 ·intro h
  rcases Nat.lt_trichotomy i j with z | z | z
  ·exact z
  ·subst z
   omega
  ·have:=key j i hj hi z
   omega
end Fw
namespace Fw
open PySem L2
abbrev Mv:=Str × Int
def nd (net:List (List Int)) (w:Int):List Int:=(net[w.toNat]?).getD []
theorem nd_of_get {net:List (List Int)} {w:Int} {zs:List Int} (h:net[w.toNat]?=some zs):nd net w=zs:=by unfold nd;rw [h];rfl
def lastOf (net:List (List Int)):List Int→Int→Option Int
 | [],_=>none
 | w::r,y=>match lastOf net r y with
  | some v=>some v
  | none=>if y ∈ nd net w then some w else none
def later (net:List (List Int)) (zs:List Int) (j:Nat) (x:Int):Prop:=∃ v ∈ zs.drop j,x ∈ nd net v
instance (net:List (List Int)) (zs:List Int) (j:Nat) (x:Int):Decidable (later net zs j x):=by unfold later;infer_instance
def clrs (net:List (List Int)) (asked zs:List Int) (w:Int):List Int:=(nd net w).filter fun y=>decide (lastOf net zs y=some w∧y ∉ asked)
def part1 (net:List (List Int)) (asked zs:List Int) (w:Int):List Mv:=("do",w)::(clrs net asked zs w).map fun y=>("clear",y)
def planOf (net:List (List Int)) (asked zs:List Int):List Mv:=zs.flatMap (part1 net asked zs)
inductive Run (net:List (List Int)) (rooms:Int):List Int→List Mv→List Int→Prop
 | nil {s:List Int}:Run net rooms s [] s
 | do_ {s s' t:List Int} {w:Int} {ms:List Mv}:w ∉ s→(∀ y ∈ nd net w,y ∈ s)→(s.length:Int)<rooms→s'.Perm (s++[w])→s'.Pairwise (·<·)→Run net rooms s' ms t→Run net rooms s (("do",w)::ms) t
 | clear {s t:List Int} {w:Int} {ms:List Mv}:w ∈ s→Run net rooms (s.filter fun x=>decide (x ≠ w)) ms t→Run net rooms s (("clear",w)::ms) t
theorem rm_len:∀ {s:List Int} {w:Int},s.Nodup→w ∈ s→(s.filter fun x=>decide (x ≠ w)).length+1=s.length
 | [],w,_,h=>by cases h
 | x::s,w,n,h=>by
  have n2:=List.nodup_cons.mp n
  by_cases e:x=w
  ·subst e
   have:s.filter (fun y=>decide (y ≠ x))=s:=List.filter_eq_self.mpr fun y hy=>decide_eq_true fun z=>n2.1 (z ▸ hy)
   rw [List.filter_cons,if_neg (by simp),this,List.length_cons]
  ·rw [List.filter_cons,if_pos (by simpa using e),List.length_cons,List.length_cons,rm_len n2.2 ((List.mem_cons.mp h).resolve_left fun z=>e z.symm)]
section
variable {net:List (List Int)} {asked zs:List Int}
theorem needed_has (wf:WFn net) (N:IsNeeded net asked zs) {i:Nat} {w y:Int} (h:zs[i]?=some w) (hy:y ∈ nd net w):y ∈ zs.take i∧y<w:=by
 have mw:=List.mem_of_getElem? h
 have wb:=N.1.in_ w mw
 have hw:w.toNat<net.length:=by omega
 have e:=List.getElem?_eq_getElem hw
 rw [nd_of_get e] at hy
 have yb:=(wf w.toNat _ e).in_ y hy
 have my:y ∈ zs:=(N.2 y).mpr (.need ((N.2 w).mp mw) e hy)
 obtain ⟨k,hk⟩:=List.getElem?_of_mem my
 have lt:k<i:=(up_get N.1.up hk h).mpr (by omega)
 refine ⟨List.mem_of_getElem? (i:=k) (by rw [List.getElem?_take_of_lt lt];exact hk),by omega⟩
theorem later_succ {i:Nat} {w x:Int} (h:zs[i]?=some w):later net zs i x ↔ x ∈ nd net w∨later net zs (i+1) x:=by
 obtain ⟨hi,e⟩:=List.getElem?_eq_some_iff.mp h
 unfold later
 rw [List.drop_eq_getElem_cons hi,e]
 simp only [List.mem_cons,exists_eq_or_imp]
end
def PlanAt (H:Hp) (l:Addr) (ms:List Mv):Prop:=∃ rs:List Addr,H l=some (.lst (rs.map V.ref))∧MovL H rs ms
theorem PlanAt.same {H H':Hp} {l:Addr} {ms:List Mv} (h:PlanAt H l ms) (k:Same H H'):PlanAt H' l ms:=by
 obtain ⟨rs,h1,h2⟩:=h
 exact ⟨rs,k _ _ h1,h2.same k⟩
def askedAt (H:Hp) (t:Addr) (net:List (List Int)) (asked:List Int):Prop:=H t=some (.tup (asked.map V.int))∧Rise (net.length:Int) asked
def spNeeded:Sp:=fun vs H Q _=>∃ (a t:Addr) (net:List (List Int)) (asked:List Int),vs=[.ref a,.ref t]∧NetAt H a net∧WFn net∧net.length≤1000∧askedAt H t net asked∧
 ∀ l zs H',Same H H'→H l=none→H' l=some (.lst (zs.map V.int))→IsNeeded net asked zs→Q (.ref l) H'
end Fw
namespace Fw
open PySem L2
def lv (L:List Int) (x:Int):Int:=(L[x.toNat]?).getD 0
structure Lev (net:List (List Int)) (L:List Int):Prop where
 len:L.length=net.length
 at_:∀ (i:Nat) zs,net[i]?=some zs→∃ l,L[i]?=some l∧0≤l∧l≤(i:Int)∧(∀ y ∈ zs,lv L y+1≤l)∧(l=0∨∃ y ∈ zs,lv L y+1=l)
structure Fd (n:Nat) (L:List Int) (S:Int→Prop) (fs:List Int):Prop where
 len:fs.length=n
 at_:∀ w:Nat,w<n→(S w→fs[w]?=some (lv L w))∧(¬ S w→fs[w]?=some 0)
end Fw
namespace Fw
open PySem L2
structure CntX (n:Nat) (cs:List Int) (seen:List Int):Prop where
 len:cs.length=n
 at_:∀ x:Nat,x<n→cs[x]?=some ((seen.count (x:Int):Nat):Int)
end Fw
namespace Fw
open PySem L2
def xfs (n w:V):List (Str × V):=putF "word" w [("move",n)]
theorem upd_norm {H:Hp} {x dx:Addr} {o o' u:HO} (h:dx ≠ x):upd (upd (upd H x o) dx u) x o'=upd (upd H dx u) x o':=by
 funext b
 unfold upd
 by_cases h1:b=x
 ·simp [h1]
 ·simp [h1]
theorem upd_norm2 {H:Hp} {x dx:Addr} {o u u':HO} (h:dx ≠ x):upd (upd (upd H dx u) x o) dx u'=upd (upd H dx u') x o:=by
 funext b
 unfold upd
 by_cases h1:b=dx
 ·subst h1
  simp [h]
 ·by_cases h2:b=x
  ·subst h2
   simp [h1]
  ·simp [h1,h2]
def spInit2 (C:Addr):Sp:=fun vs H Q _=>∃ (x:Addr) (a b:V),vs=[.ref x,a,b]∧H x=some (ExcN x C none)∧∀ dx,H dx=none→dx ≠ x→Q .non (upd (upd H dx (XDic dx (xfs a b))) x (ExcN x C (some dx)))
def Beh (st st':List Int) (word:Str) (wk:Int):Prop:=(word = "do"→st'.Perm (st++[wk])∧st'.Pairwise (·≤·))∧(word = "clear"→st'=st.filter fun x=>decide (x ≠ wk))
theorem sorted_one:∀ {l m:List Int},l.Perm m→l.Pairwise (·≤·)→m.Pairwise (·≤·)→l=m:=by
 intro l m hp h1 h2
 exact hp.eq_of_pairwise (fun a b _ _ h3 h4=>Int.le_antisymm h3 h4) h1 h2
theorem Beh.one {st a b:List Int} {word:Str} {wk:Int} (hw:word = "do"∨word = "clear") (h1:Beh st a word wk) (h2:Beh st b word wk):a=b:=by
 rcases hw with e | e
 ·obtain ⟨p1,s1⟩:=h1.1 e
  obtain ⟨p2,s2⟩:=h2.1 e
  exact sorted_one (p1.trans p2.symm) s1 s2
 ·rw [h1.2 e,h2.2 e]
def spBehindS:Sp:=fun vs H Q _=>∃ (s mv:Addr) (st:List Int) (word:Str) (wk:Int),vs=[.ref s,.ref mv]∧H s=some (.tup (st.map V.int))∧st.length≤62∧H mv=some (.tup [.str word,.int wk])∧(word = "do"∨word = "clear")∧
 ∀ r st' H',Same H H'→H' r=some (.tup (st'.map V.int))→Beh st st' word wk→Q (.ref r) H'
end Fw
namespace Fw
open PySem L2
inductive Play (net:List (List Int)) (rooms:Int):List Int→List Mv→List (List Int)→V→Prop
 | nil {st}:Play net rooms st [] [] .non
 | stop {st m ms w0}:wd net st rooms m=.str w0→Play net rooms st (m::ms) [] (.str w0)
 | go {st st' m ms sts v}:wd net st rooms m=.non→Beh st st' m.1 m.2→Play net rooms st' ms sts v→Play net rooms st (m::ms) (st'::sts) v
def MvOk (net:List (List Int)) (ms:List Mv):Prop:=∀ m ∈ ms,(m.1 = "do"∨m.1 = "clear")∧0≤m.2∧m.2<(net.length:Int)
theorem Play.one {net:List (List Int)} {rooms:Int} {st:List Int} {ms:List Mv} {a b:List (List Int)} {v u:V} (hm:MvOk net ms) (h1:Play net rooms st ms a v) (h2:Play net rooms st ms b u):a=b∧v=u:=by
 induction h1 generalizing b u with
 | nil=>cases h2;exact ⟨rfl,rfl⟩
 | stop e=>
  cases h2 with
  | stop e2=>rw [e] at e2;exact ⟨rfl,e2⟩
  | go e2 _ _=>rw [e] at e2;cases e2
 | go e bh p ih=>
  cases h2 with
  | stop e2=>rw [e] at e2;cases e2
  | go e2 bh2 p2=>
   have:=bh.one (hm _ (by simp)).1 bh2
   subst this
   obtain ⟨x,y⟩:=ih (fun m hm'=>hm m (List.mem_cons_of_mem _ hm')) p2
   exact ⟨by rw [x],y⟩
def StandsAt (H:Hp) (l:Addr) (sts:List (List Int)):Prop:=∃ rs:List Addr,H l=some (.lst (rs.map V.ref))∧NetL H rs sts
theorem NetL.sm {H H':Hp} {rs:List Addr} {sts:List (List Int)} (h:NetL H rs sts) (s:Same H H'):NetL H' rs sts:=h.same fun r zs e=>s _ _ e
theorem StandsAt.same {H H':Hp} {l:Addr} {sts:List (List Int)} (h:StandsAt H l sts) (s:Same H H'):StandsAt H' l sts:=by
 obtain ⟨rs,a,b⟩:=h
 exact ⟨rs,s _ _ a,NetL.sm b s⟩
theorem NetL.put {H:Hp} {p:Addr} {xs:List V} {o:HO} {rs:List Addr} {sts:List (List Int)} (h:NetL H rs sts) (hp:H p=some (.lst xs)):NetL (upd H p o) rs sts:=h.same fun r zs e=>by
 rw [upd_ne (ne_of e hp (by intro z;cases z))]
 exact e
theorem MovL.keep {d c:Addr} {H H':Hp} {t:Int} {ns:List Int} {rs:List Addr} {ms:List Mv} (h:MovL H rs ms) (S:StAt H d c t ns) (k:Keep d c H H'):MovL H' rs ms:=
 paired_imp h fun r m e=>k _ _ e (S.tup e).1 (S.tup e).2
theorem PlanAt.keep {d c:Addr} {H H':Hp} {t:Int} {ns:List Int} {l:Addr} {ms:List Mv} (h:PlanAt H l ms) (S:StAt H d c t ns) (k:Keep d c H H') (nd:l ≠ d) (nc:l ≠ c):PlanAt H' l ms:=by
 obtain ⟨rs,a,b⟩:=h
 exact ⟨rs,k _ _ a nd nc,MovL.keep b S k⟩
theorem mem_cutI {α:Type} {xs:List α} {lo hi:Option Int} {x:α} (h:x ∈ cutI xs lo hi):x ∈ xs:=by
 unfold cutI at h
 exact List.mem_of_mem_drop (List.mem_of_mem_take h)
theorem paired_drop {α β:Type} {F:α→β→Prop}:∀ {l₁:List α} {l₂:List β} (k:Nat),Paired F l₁ l₂→Paired F (l₁.drop k) (l₂.drop k)
 | _,_,0,h=>h
 | _,_,_+1,.nil=>.nil
 | _,_,k+1,.cons _ t=>paired_drop k t
theorem paired_take {α β:Type} {F:α→β→Prop}:∀ {l₁:List α} {l₂:List β} (k:Nat),Paired F l₁ l₂→Paired F (l₁.take k) (l₂.take k)
 | _,_,0,_=>.nil
 | _,_,_+1,.nil=>.nil
 | _,_,k+1,.cons r t=>.cons r (paired_take k t)
theorem MovL.cut {H:Hp} {rs:List Addr} {ms:List Mv} (h:MovL H rs ms) (lo hi:Option Int):MovL H (cutI rs lo hi) (cutI ms lo hi):=by
 have e:=Paired.length h
 unfold cutI
 rw [e]
 exact paired_take _ (paired_drop _ h)
theorem MvOk.cut {net:List (List Int)} {ms:List Mv} (h:MvOk net ms) (lo hi:Option Int):MvOk net (cutI ms lo hi):=fun m hm=>h m (mem_cutI hm)
theorem MvOk.app {net:List (List Int)} {a b:List Mv} (h:MvOk net a) (k:MvOk net b):MvOk net (a++b):=fun m hm=>by
 rcases List.mem_append.mp hm with x | x
 ·exact h m x
 ·exact k m x
theorem MvOk.one {net:List (List Int)} {word:Str} {wk:Int} (h:word = "do"∨word = "clear") (h0:0≤wk) (h1:wk<(net.length:Int)):MvOk net [(word,wk)]:=fun m hm=>by
 rw [List.mem_singleton.mp hm]
 exact ⟨h,h0,h1⟩
theorem StAt.put' {H:Hp} {d c l:Addr} {t:Int} {ns:List Int} {o:HO} (S:StAt H d c t ns) (h1:l ≠ d) (h2:l ≠ c):StAt (upd H l o) d c t ns:=⟨by rw [upd_ne (Ne.symm h1)];exact S.dict,by rw [upd_ne (Ne.symm h2)];exact S.list,S.ne,S.len,S.pos⟩
end Fw
namespace Fw
open PySem L2
theorem take_snoc {α:Type} {l:List α} {i:Nat} {x:α} (h:l[i]?=some x):l.take (i+1)=l.take i++[x]:=by
 rw [List.take_succ,h]
 rfl
def lens (sts:List (List Int)):List Int:=sts.map fun z=>(z.length:Int)
theorem Play.kind {net:List (List Int)} {rooms:Int} {st:List Int} {ms:List Mv} {a:List (List Int)} {v:V} (h:Play net rooms st ms a v):v=.non∨∃ w0,v=.str w0:=by
 induction h with
 | nil=>exact .inl rfl
 | stop _=>exact .inr ⟨_,rfl⟩
 | go _ _ _ ih=>exact ih
end Fw
namespace Fw
open PySem L2
structure YNa (K:PySem.W.Frag) (C:Addr):Prop where
 net:NoAttr K C "net"
 rooms:NoAttr K C "rooms"
 made:NoAttr K C "made"
 stands:NoAttr K C "stands"
def yfs (a:Addr) (rooms:Int) (lm ls:Addr):List (Str × V):=putF "stands" (.ref ls) (putF "made" (.ref lm) (putF "rooms" (.int rooms) (putF "net" (.ref a) [])))
def lastSt (st:List Int):List (List Int)→List Int
 | []=>st
 | s::r=>lastSt s r
theorem last_at:∀ {rs:List Addr} {st:List Int} {sts:List (List Int)} {H:Hp},NetL H rs (st::sts)→∃ ss r,rs=ss++[r]∧H r=some (.tup ((lastSt st sts).map V.int)):=by
 intro rs st sts
 induction sts generalizing rs st with
 | nil=>
  intro H h
  cases h with
  | cons a b=>cases b;exact ⟨[],_,rfl,a⟩
 | cons s r ih=>
  intro H h
  cases h with
  | cons a b=>
   obtain ⟨ss,q,rfl,g⟩:=ih b
   exact ⟨_::ss,q,rfl,g⟩
structure YardAt (C:Addr) (H:Hp) (y a lm ls:Addr) (net:List (List Int)) (rooms:Int) (ms:List Mv) (sts:List (List Int)):Prop where
 obj:∃ dx,H y=some (.ins C dx (yfs a rooms lm ls))
 nat:NetAt H a net
 wf:WFn net
 n400:net.length≤400
 r0:0≤rooms
 r62:rooms≤62
 made:PlanAt H lm ms
 ok:MvOk net ms
 len:ms.length≤10000
 stands:StandsAt H ls ([]::sts)
 play:Play net rooms [] ms sts .non
 ne:lm ≠ ls
end Fw
namespace Fw
open PySem L2
def off (n:Nat):Nat→Nat
 | 0=>0
 | r+1=>off n r+(n - r)
abbrev keyOf (s:Nat × Nat):List Key:=[Sum.inl (s.1:Int),Sum.inl (s.2:Int)]
structure NumP (rs:List Addr) (ss:List (Nat × Nat)) (j:Nat) (ps:List (List Key × Addr × V)):Prop where
 keys:ps.map (·.1)=(ss.take j).map keyOf
 at_:∀ (k:Nat) (s:Nat × Nat),k<j→ss[k]?=some s→∃ a,ps[k]?=some (keyOf s,a,.int (k:Int))
end Fw
namespace Fw
open PySem L2
def insOf (ins:List (Int × Int)) (x:Int):Option Int:=(ins.find? fun q=>decide (q.1=x)).map (·.2)
def rankO (ins:List (Int × Int)) (i:Nat):Nat:=((List.range i).filter fun (x:Nat)=>(insOf ins (x:Int)).isNone).length
def numO (m:Nat) (ins:List (Int × Int)) (x:Nat):Int:=match insOf ins (x:Int) with | some v=>v | none=>((m+rankO ins x:Nat):Int)
structure InsAt (H:Hp) (i:Addr) (ins:List (Int × Int)):Prop where
 at_:∃ rs:List Addr,BareT H i (rs.map V.ref)∧Paired (fun r (q:Int × Int)=>H r=some (.tup [.int q.1,.int q.2])) rs ins
 nodup:(ins.map (·.1)).Nodup
structure InsOk (m:Nat) (other:List (List Int)) (k:Nat) (ins:List (Int × Int)) (fs:List Int):Prop where
 st:∀ q ∈ ins,(0≤q.1∧q.1<(k:Int))∧other[q.1.toNat]?=some []∧0≤q.2∧q.2<(m:Int)
 nd1:(ins.map (·.1)).Nodup
 nd2:(ins.map (·.2)).Nodup
 fr:fs.Nodup
 fin:∀ x ∈ fs,(0≤x∧x<(m:Int))∧x ∉ ins.map (·.2)
 len:ins.length≤k
end Fw
namespace Fw
open PySem L2
end Fw
namespace Fw
open PySem L2
def pm (m:Mv):Int:=if m.1 = "do" then 1 else -1
def peak:Int→List Mv→Int
 | n,[]=>n
 | n,m::ms=>max n (peak (n+pm m) ms)
theorem pm_do (w:Int):pm ("do",w)=1:=rfl
theorem pm_clear (w:Int):pm ("clear",w)=-1:=if_neg (do_ne_clear)
theorem peak_ge:∀ (n:Int) (ms:List Mv),n≤peak n ms
 | n,[]=>Int.le_refl _
 | n,m::ms=>by show n≤max n _;omega
theorem Run.app {net:List (List Int)} {rooms:Int} {s t u:List Int} {a b:List Mv} (h:Run net rooms s a t) (k:Run net rooms t b u):Run net rooms s (a++b) u:=by
 induction h with
 | nil=>exact k
 | do_ h1 h2 h3 h4 h5 _ ih=>exact .do_ h1 h2 h3 h4 h5 (ih k)
 | clear h1 _ ih=>exact .clear h1 (ih k)
theorem up_nodup {s:List Int} (h:s.Pairwise (·<·)):s.Nodup:=h.imp fun {a b} hab=>by omega
def keepM (th:List Int) (ms:List Mv):List Mv:=ms.filter fun m=>decide (m.2 ∉ th)
theorem Run.play {net:List (List Int)} {rooms:Int} {s t:List Int} {ms:List Mv} (h:Run net rooms s ms t):s.Pairwise (·<·)→∃ sts,Play net rooms s ms sts .non∧lastSt s sts=t∧topD none (lens (s::sts))=some (peak (s.length:Int) ms)∧∀ z ∈ sts,(z.length:Int)≤peak (s.length:Int) ms:=by
 induction h with
 | nil=>intro _;exact ⟨[],.nil,rfl,rfl,fun _ z=>nomatch z⟩
 | @do_ s s' t w ms h1 h2 h3 h4 h5 h6 ih=>
  intro n
  obtain ⟨sts,p,l,tp,al⟩:=ih h5
  have ln:=h4.length_eq
  rw [List.length_append,List.length_singleton] at ln
  have pk:peak (s.length:Int) (("do",w)::ms)=max (s.length:Int) (peak (s'.length:Int) ms):=by
   show max _ (peak ((s.length:Int)+pm ("do",w)) ms)=_
   rw [pm_do,show ((s.length:Int)+1)=(s'.length:Int) by omega]
  have pg:=peak_ge (s'.length:Int) ms
  refine ⟨s'::sts,.go ?_ ⟨fun _=>⟨h4,h5.imp fun {a b} hab=>by omega⟩,fun z=>absurd z.symm do_ne_clear⟩ p,l,?_,fun z hz=>?_⟩
  ·unfold wd wordOf wordDo
   rw [if_pos rfl,if_neg h1,if_pos (show ∀ x ∈ (net[w.toNat]?).getD [],x ∈ s from h2),if_neg (by omega)]
  ·unfold lens at tp ⊢
   rw [List.map_cons] at tp
   rw [List.map_cons,List.map_cons,pk]
   show some (topI _ _)=_
   have e:topI (s'.length:Int) (sts.map fun z=>(z.length:Int))=peak (s'.length:Int) ms:=Option.some.inj tp
   have g1:=topI_ge ((s'.length:Int)::sts.map fun z=>(z.length:Int)) (s.length:Int)
   have g2:=topI_ge (sts.map fun z=>(z.length:Int)) (s'.length:Int)
   rw [e] at g2
   congr 1
   have b1:∀ x ∈ (s'.length:Int)::sts.map (fun z=>(z.length:Int)),x≤peak (s'.length:Int) ms:=fun x hx=>by
    rcases List.mem_cons.mp hx with q | q
    ·omega
    ·exact g2.2.1 x q
   have b2:peak (s'.length:Int) ms ∈ (s'.length:Int)::sts.map (fun z=>(z.length:Int)):=by
    rcases g2.2.2 with q | q
    ·rw [q];exact List.mem_cons_self
    ·exact List.mem_cons_of_mem _ q
   have b3:=g1.2.1 _ b2
   rcases g1.2.2 with q | q
   ·omega
   ·have:=b1 _ q
    omega
  ·rw [pk]
   rcases List.mem_cons.mp hz with q | q
   ·rw [q];omega
   ·have:=al z q;omega
 | @clear s t w ms h1 h2 ih=>
  intro n
  obtain ⟨sts,p,l,tp,al⟩:=ih (n.filter _)
  have ln:=rm_len (up_nodup n) h1
  generalize hs':(s.filter fun x=>decide (x ≠ w))=s' at p l tp al ln
  have pk:peak (s.length:Int) (("clear",w)::ms)=max (s.length:Int) (peak (s'.length:Int) ms):=by
   show max _ (peak ((s.length:Int)+pm ("clear",w)) ms)=_
   rw [pm_clear,show ((s.length:Int)+-1)=(s'.length:Int) by omega]
  have pg:=peak_ge (s'.length:Int) ms
  refine ⟨s'::sts,.go ?_ ⟨fun z=>absurd z do_ne_clear,fun _=>hs'.symm⟩ p,l,?_,fun z hz=>?_⟩
  ·unfold wd wordOf wordClear
   rw [if_neg (show ¬ (("clear",w):Mv).1 = "do" from fun z=>do_ne_clear z),if_pos h1]
  ·unfold lens at tp ⊢
   rw [List.map_cons] at tp
   rw [List.map_cons,List.map_cons,pk]
   show some (topI _ _)=_
   have e:topI (s'.length:Int) (sts.map fun z=>(z.length:Int))=peak (s'.length:Int) ms:=Option.some.inj tp
   have g1:=topI_ge ((s'.length:Int)::sts.map fun z=>(z.length:Int)) (s.length:Int)
   have g2:=topI_ge (sts.map fun z=>(z.length:Int)) (s'.length:Int)
   rw [e] at g2
   congr 1
   have b1:∀ x ∈ (s'.length:Int)::sts.map (fun z=>(z.length:Int)),x≤peak (s'.length:Int) ms:=fun x hx=>by
    rcases List.mem_cons.mp hx with q | q
    ·omega
    ·exact g2.2.1 x q
   have b2:peak (s'.length:Int) ms ∈ (s'.length:Int)::sts.map (fun z=>(z.length:Int)):=by
    rcases g2.2.2 with q | q
    ·rw [q];exact List.mem_cons_self
    ·exact List.mem_cons_of_mem _ q
   have b3:=g1.2.1 _ b2
   rcases g1.2.2 with q | q
   ·omega
   ·have:=b1 _ q
    omega
  ·rw [pk]
   rcases List.mem_cons.mp hz with q | q
   ·rw [q];omega
   ·have:=al z q;omega
def pbGo (num:Int→Int) (jn:Int→Bool) (pl:Int→List Mv):List Int→List Mv→List Mv
 | _,[]=>[]
 | th,m::ms=>if m.1 = "clear" then ("clear",num m.2)::pbGo num jn pl (th.filter fun x=>decide (x ≠ num m.2)) ms else (if jn m.2 then keepM th (pl (num m.2)) else [("do",num m.2)])++pbGo num jn pl (th++[num m.2]) ms
structure ThOk (n:Nat) (num:Int→Int) (th s:List Int):Prop where
 perm:th.Perm (s.map num)
 rise:Rise (n:Int) s
theorem Run.inv {net:List (List Int)} {rooms:Int} {s t:List Int} {m:Mv} {ms:List Mv} (h:Run net rooms s (m::ms) t):(m.1 = "do"∧∃ s',m.2 ∉ s∧(∀ y ∈ nd net m.2,y ∈ s)∧(s.length:Int)<rooms∧s'.Perm (s++[m.2])∧s'.Pairwise (·<·)∧Run net rooms s' ms t)∨(m.1 = "clear"∧m.2 ∈ s∧Run net rooms (s.filter fun x=>decide (x ≠ m.2)) ms t):=by
 cases h with
 | do_ h1 h2 h3 h4 h5 h6=>exact .inl ⟨rfl,_,h1,h2,h3,h4,h5,h6⟩
 | clear h1 h2=>exact .inr ⟨rfl,h1,h2⟩
end Fw
namespace Fw
open PySem L2
structure TopO (net:List (List Int)) (zs:List Int):Prop where
 nodup:zs.Nodup
 in_:∀ x ∈ zs,0≤x∧x<(net.length:Int)
 bef:∀ (p:Nat) (o:Int),zs[p]?=some o→∀ x ∈ nd net o,x ∈ zs.take p
 aft:∀ (p:Nat) (o:Int),zs[p]?=some o→p+1<zs.length→later net zs (p+1) o
structure Begun (net:List (List Int)) (some_ ord:List Int):Prop where
 nodup:ord.Nodup
 sub:∀ x ∈ ord,x ∈ some_
 bef:∀ (p:Nat) (o:Int),ord[p]?=some o→∀ x ∈ nd net o,x ∈ ord.take p
end Fw
namespace Fw
open PySem L2
noncomputable def ndOf (net:List (List Int)) (asked:List Int):List Int:=by
 classical
 exact if h:∃ zs,IsNeeded net asked zs then Classical.choose h else []
noncomputable def plainL (net:List (List Int)) (w:Int):List Mv:=planOf net [w] (ndOf net [w])
def numF (m:Nat) (ins:List (Int × Int)) (x:Int):Int:=numO m ins x.toNat
def joinF (ins:List (Int × Int)) (x:Int):Bool:=(insOf ins x).isSome
noncomputable def planB (one:List (List Int)) (ins:List (Int × Int)) (ms:List Mv):List Mv:=pbGo (numF one.length ins) (joinF ins) (plainL one) [] ms
noncomputable def mostW (one:List (List Int)) (ins:List (Int × Int)):Int:=(topD (some 1) (ins.map fun q=>peak 0 (plainL one q.2))).getD 0
noncomputable def roomsB (one:List (List Int)) (ins:List (Int × Int)) (ms:List Mv):Int:=match ins with | []=>peak 0 ms | _::_=>mostW one ins+peak 0 ms - 1
structure BehIn (H:Hp) (a b i l:Addr) (one other:List (List Int)) (ins:List (Int × Int)) (ms:List Mv) (st:List Int):Prop where
 gA:NetAt H a one
 wf1:WFn one
 gB:NetAt H b other
 wf2:WFn other
 gI:InsAt H i ins
 ok:∃ fs,InsOk one.length other other.length ins fs
 plan:PlanAt H l ms
 mv:MvOk other ms
 len:ms.length≤400
 run:Run other (other.length:Int) [] ms st
 o1:1≤one.length
 o2:one.length≤60
 o3:1≤other.length
 o4:other.length≤60
theorem run_most {net:List (List Int)} {rooms:Int} {ms:List Mv} {st:List Int} (mv:MvOk net ms) (R:Run net rooms [] ms st):(∀ sts m,Play net rooms [] ms sts .non→topD none (lens ([]::sts))=some m→m=peak 0 ms)∧∀ sts w0,¬ Play net rooms [] ms sts (.str w0):=by
 obtain ⟨sts0,p0,l0,t0,_⟩:=R.play .nil
 refine ⟨fun sts m p h=>?_,fun sts w0 p=>?_⟩
 ·rw [(Play.one mv p p0).1,t0] at h
  exact (Option.some.inj h).symm
 ·have:=(Play.one mv p p0).2
  cases this
theorem mem_lt_len {n:Nat} {st:List Int} {w:Int} (h:Rise (n:Int) st) (hn:w ∉ st) (w0:0≤w) (w1:w<(n:Int)):st.length<n:=by
 have:=nd_len (ks:=st++[w]) (n:=n) (nd_snoc h.nodup hn) (fun x hx=>by
  rcases List.mem_append.mp hx with q | q
  ·exact h.in_ x q
  ·rw [List.mem_singleton.mp q];exact ⟨w0,w1⟩)
 rw [List.length_append,List.length_singleton] at this
 omega
end Fw
namespace Fw
open PySem L2
theorem Run.peak_le {net:List (List Int)} {rooms:Int} {s t:List Int} {ms:List Mv} (h:Run net rooms s ms t):s.Pairwise (·<·)→peak (s.length:Int) ms≤max (s.length:Int) rooms:=by
 induction h with
 | nil=>intro _;show ((_:Nat):Int)≤_;omega
 | @do_ s s' t w ms h1 h2 h3 h4 h5 h6 ih=>
  intro _
  have e:=ih h5
  have l:=h4.length_eq
  rw [List.length_append,List.length_singleton] at l
  show max _ (peak ((s.length:Int)+pm ("do",w)) ms)≤_
  rw [pm_do,show ((s.length:Int)+1)=(s'.length:Int) by omega]
  omega
 | @clear s t w ms h1 h2 ih=>
  intro n
  have e:=ih (n.filter _)
  have l:=rm_len (up_nodup n) h1
  show max _ (peak ((s.length:Int)+pm ("clear",w)) ms)≤_
  rw [pm_clear,show ((s.length:Int)+-1)=((s.filter fun x=>decide (x ≠ w)).length:Int) by omega]
  omega
end Fw
namespace Fw
open PySem L2
def spHasP:Sp:=fun vs H Q _=>∃ (a t:Addr) (st asked:List Int),vs=[.ref a,.ref t]∧H a=some (.tup (st.map V.int))∧H t=some (.tup (asked.map V.int))∧asked.length≤1000∧∀ H',Same H H'→Q (.bl (decide (∀ x ∈ asked,x ∈ st))) H'
structure TwoIn (H:Hp) (a b i:Addr) (one other:List (List Int)) (ins:List (Int × Int)):Prop where
 gA:NetAt H a one
 wf1:WFn one
 gB:NetAt H b other
 wf2:WFn other
 gI:InsAt H i ins
 ok:∃ fs,InsOk one.length other other.length ins fs
 o1:1≤one.length
 o2:one.length≤40
 o3:1≤other.length
 o4:other.length≤7
end Fw
namespace Fw
open PySem L2
theorem wd_inv {net:List (List Int)} {st:List Int} {rooms:Int} {word:Str} {wk:Int} (hw:word = "do"∨word = "clear") (e:wd net st rooms (word,wk)=.non):(word = "do"→wk ∉ st∧(∀ y ∈ nd net wk,y ∈ st)∧(st.length:Int)<rooms)∧(word = "clear"→wk ∈ st):=by
 rcases hw with d | d
 ·subst d
  refine ⟨fun _=>?_,fun z=>absurd z.symm do_ne_clear⟩
  have e':wordDo ((net[wk.toNat]?).getD []) st rooms wk=.non:=by
   have:=e
   unfold wd wordOf at this
   rw [if_pos rfl] at this
   exact this
  unfold wordDo at e'
  split at e'
  ·cases e'
  rename_i hn
  split at e'
  ·rename_i hall
   split at e'
   ·cases e'
   ·exact ⟨hn,hall,by omega⟩
  ·cases e'
 ·subst d
  refine ⟨fun z=>absurd z do_ne_clear,fun _=>?_⟩
  have e':wordClear st wk=.non:=by
   have:=e
   unfold wd wordOf at this
   rw [if_neg (show ¬ Str.ofString "clear" = Str.ofString "do" from do_ne_clear)] at this
   exact this
  unfold wordClear at e'
  split at e'
  ·rename_i hin;exact hin
  ·cases e'
theorem beh_rise {n:Nat} {st st':List Int} {word:Str} {wk:Int} (r:Rise (n:Int) st) (hw:word = "do"∨word = "clear") (w0:0≤wk) (w1:wk<(n:Int)) (hd:word = "do"→wk ∉ st) (b:Beh st st' word wk):Rise (n:Int) st':=by
 rcases hw with d | d
 ·obtain ⟨p1,s1⟩:=b.1 d
  refine ⟨lt_of_sorted s1 (p1.nodup_iff.mpr (nd_snoc r.nodup (hd d))),fun x hx=>?_⟩
  rcases List.mem_append.mp (p1.mem_iff.mp hx) with q | q
  ·exact r.in_ x q
  ·rw [List.mem_singleton.mp q];exact ⟨w0,w1⟩
 ·rw [b.2 d]
  exact ⟨r.up.filter _,fun x hx=>r.in_ x (List.mem_filter.mp hx).1⟩
theorem run_snoc {net:List (List Int)} {ms:List Mv} {st st':List Int} {word:Str} {wk:Int} (R:Run net (net.length:Int) [] ms st) (r:Rise (net.length:Int) st) (hw:word = "do"∨word = "clear") (w0:0≤wk) (w1:wk<(net.length:Int)) (hd:word = "do"→wk ∉ st∧∀ y ∈ nd net wk,y ∈ st) (hc:word = "clear"→wk ∈ st) (b:Beh st st' word wk):Run net (net.length:Int) [] (ms++[(word,wk)]) st':=by
 have r':=beh_rise r hw w0 w1 (fun e=>(hd e).1) b
 rcases hw with d | d
 ·subst d
  obtain ⟨p1,s1⟩:=b.1 rfl
  obtain ⟨hn,hall⟩:=hd rfl
  exact R.app (.do_ hn hall (by have:=mem_lt_len r hn w0 w1;omega) p1 r'.up .nil)
 ·subst d
  rw [b.2 rfl]
  exact R.app (.clear (hc rfl) .nil)
def PlayIn2 (H:Hp) (a l:Addr) (net:List (List Int)) (ms:List Mv) (rooms:Int):Prop:=NetAt H a net∧WFn net∧net.length≤60∧PlanAt H l ms∧ms.length≤10000∧MvOk net ms∧0≤rooms∧rooms≤100000
theorem PlayIn2.same {H H':Hp} {a l:Addr} {net:List (List Int)} {ms:List Mv} {rooms:Int} (h:PlayIn2 H a l net ms rooms) (s:Same H H'):PlayIn2 H' a l net ms rooms:=by
 obtain ⟨h1,h2,h3,h4,h5,h6,h7⟩:=h
 exact ⟨h1.same s,h2,h3,h4.same s,h5,h6,h7⟩
def spPlayL2:Sp:=fun vs H Q _=>∃ (a l:Addr) (net:List (List Int)) (ms:List Mv) (rooms:Int),vs=[.ref a,.int rooms,.ref l]∧PlayIn2 H a l net ms rooms∧
 ∀ T ls sts v H',Same H H'→Play net rooms [] ms sts v→H' T=some (.tup [.ref ls,v])→H ls=none→StandsAt H' ls ([]::sts)→sts.length≤ms.length→Q (.ref T) H'
def spPlay2 (C:Addr):Sp:=fun vs H Q E=>∃ (a l:Addr) (net:List (List Int)) (ms:List Mv) (rooms:Int),vs=[.ref a,.int rooms,.ref l]∧PlayIn2 H a l net ms rooms∧
 (∀ ls sts H',Same H H'→Play net rooms [] ms sts .non→H ls=none→StandsAt H' ls ([]::sts)→Q (.ref ls) H')∧
 (∀ sts w0 dx H',Same H H'→Play net rooms [] ms sts (.str w0)→H' dx=some (XDic dx (xfs (.int (sts.length:Int)) (.str w0)))→E (.ref C) (some dx) H')
def spDoes2:Sp:=fun vs H Q _=>∃ (a l t:Addr) (net:List (List Int)) (ms:List Mv) (rooms:Int) (asked:List Int),vs=[.ref a,.int rooms,.ref l,.ref t]∧PlayIn2 H a l net ms rooms∧H t=some (.tup (asked.map V.int))∧asked.length≤1000∧
 (∀ sts H',Same H H'→Play net rooms [] ms sts .non→Q (.bl (decide (∀ x ∈ asked,x ∈ lastSt [] sts))) H')∧(∀ sts w0 H',Same H H'→Play net rooms [] ms sts (.str w0)→Q (.bl false) H')
def spNextW2:Sp:=fun vs H Q _=>∃ (d c:Addr) (t:Int) (ns:List Int) (a so:Addr) (net:List (List Int)) (st:List Int),vs=[.ref d,.ref a,.ref so]∧StAt H d c t ns∧t≤TB - 1000∧NetAt H a net∧WFn net∧1≤net.length∧net.length≤400∧H so=some (.tup (st.map V.int))∧
 ∀ wk t' ns' H',StAt H' d c t' ns'→t≤t'→t'≤t+1+net.length→Keep d c H H'→0≤wk→wk<(net.length:Int)→(∀ y ∈ nd net wk,y ∈ st)→Q (.int wk) H'
def spWalk2:Sp:=fun vs H Q _=>∃ (d c:Addr) (t:Int) (ns:List Int) (a:Addr) (net:List (List Int)) (rooms many:Int),vs=[.ref d,.ref a,.int rooms,.int many]∧StAt H d c t ns∧t≤TB - 200000∧NetAt H a net∧WFn net∧1≤net.length∧net.length≤60∧1≤rooms∧0≤many∧many≤250∧
 ∀ T l so ms st t' ns' H',StAt H' d c t' ns'→t≤t'→t'≤t+70 * many→Keep d c H H'→H' T=some (.tup [.ref l,.ref so])→H l=none→PlanAt H' l ms→MvOk net ms→(ms.length:Int)≤many→H' so=some (.tup (st.map V.int))→Rise (net.length:Int) st→Run net (net.length:Int) [] ms st→Q (.ref T) H'
def spCase2:Sp:=fun vs H Q _=>∃ (d c:Addr) (t:Int) (ns:List Int),vs=[.ref d]∧StAt H d c t ns∧t≤TB - 200000∧
 ∀ T a ta net asked t' ns' H',StAt H' d c t' ns'→t≤t'→t'≤t+10000→Keep d c H H'→H' T=some (.tup [.ref a,.ref ta])→NetAt H' a net→WFn net→1≤net.length→net.length≤30→H' ta=some (.tup (asked.map V.int))→Rise (net.length:Int) asked→asked.length≤4→Q (.ref T) H'
def spSpare:Sp:=fun vs H Q _=>∃ (a t lw so:Addr) (net:List (List Int)) (asked ws st:List Int),vs=[.ref a,.ref t,.ref lw,.ref so]∧NetAt H a net∧WFn net∧net.length≤60∧H t=some (.tup (asked.map V.int))∧H lw=some (.lst (ws.map V.int))∧(∀ x ∈ ws,0≤x∧x<(net.length:Int))∧ws.length≤60∧H so=some (.tup (st.map V.int))∧st.length≤60∧
 ∀ (l:Addr) (fs:List Int) H',Same H H'→H l=none→H' l=some (.lst (fs.map V.int))→(∀ x ∈ fs,x ∈ st∧x ∉ asked∧∀ v ∈ ws,x ∉ nd net v)→fs.length≤st.length→Q (.ref l) H'
def spDoing:Sp:=fun vs H Q _=>∃ (d c:Addr) (t:Int) (ns:List Int) (a ta:Addr) (net:List (List Int)) (asked:List Int) (many:Int),vs=[.ref d,.ref a,.ref ta,.int many]∧StAt H d c t ns∧t≤TB - 400000∧NetAt H a net∧WFn net∧1≤net.length∧net.length≤60∧askedAt H ta net asked∧0≤many∧many≤250∧
 ∀ l ms st t' ns' H',StAt H' d c t' ns'→t≤t'→t'≤t+70 * many+200→Keep d c H H'→H l=none→PlanAt H' l ms→MvOk net ms→(ms.length:Int)≤many+2 * net.length→Rise (net.length:Int) st→Run net (net.length:Int) [] ms st→(∀ x ∈ asked,x ∈ st)→Q (.ref l) H'
def spMost2:Sp:=fun vs H Q _=>∃ (a l:Addr) (net:List (List Int)) (ms:List Mv) (st:List Int),vs=[.ref a,.ref l]∧PlayIn2 H a l net ms (net.length:Int)∧Run net (net.length:Int) [] ms st∧∀ H',Same H H'→Q (.int (peak 0 ms)) H'
def spTold2:Sp:=fun vs H Q _=>∃ (a l t:Addr) (net:List (List Int)) (ms:List Mv) (rooms:Int) (asked:List Int),vs=[.ref a,.int rooms,.ref l,.ref t]∧PlayIn2 H a l net ms rooms∧H t=some (.tup (asked.map V.int))∧asked.length≤1000∧∀ H',Same H H'→Q (.bl true) H'
def spBent2:Sp:=fun vs H Q _=>∃ (d c:Addr) (t:Int) (ns:List Int) (a l:Addr) (net:List (List Int)) (ms:List Mv),vs=[.ref d,.ref a,.ref l]∧StAt H d c t ns∧t≤TB - 100∧NetAt H a net∧1≤net.length∧net.length≤400∧PlanAt H l ms∧l ≠ d∧l ≠ c∧ms.length≤1000∧MvOk net ms∧
 ∀ l' ms' t' ns' H',StAt H' d c t' ns'→t≤t'→t'≤t+4→Keep d c H H'→PlanAt H' l' ms'→MvOk net ms'→ms'.length≤3 * ms.length+1→l' ≠ d→l' ≠ c→Q (.ref l') H'
theorem MvOk.rev {net:List (List Int)} {ms:List Mv} (h:MvOk net ms):MvOk net ms.reverse:=fun m hm=>h m (List.mem_reverse.mp hm)
theorem paired_rev {α β:Type} {F:α→β→Prop} {l₁:List α} {l₂:List β} (h:Paired F l₁ l₂):Paired F l₁.reverse l₂.reverse:=by
 induction h with
 | nil=>exact .nil
 | cons r t ih=>rw [List.reverse_cons,List.reverse_cons];exact Paired.snoc ih r
theorem play_less {net:List (List Int)} {ms:List Mv} {R rooms:Int} {s t:List Int} {sts:List (List Int)} (R0:Run net R s ms t):s.Pairwise (·<·)→(s.length:Int)≤rooms→rooms<peak (s.length:Int) ms→¬ Play net rooms s ms sts .non:=by
 intro up hs hp pl
 generalize hv:V.non=v at pl
 induction pl generalizing t with
 | @nil st=>exact absurd (show rooms<(st.length:Int) from hp) (by omega)
 | stop _=>cases hv
 | @go st st' m ms sts v e b p ih=>
  obtain ⟨word,wk⟩:=m
  rcases R0.inv with ⟨d,s',h1,h2,h3,h4,h5,h6⟩ | ⟨d,h1,h2⟩
  ·dsimp only at d h1 h2 h3 h4 h5
   subst d
   have hb:=b.1 rfl
   have es:st'=s':=sorted_one (hb.1.trans h4.symm) hb.2 (h5.imp fun {a b} hab=>by omega)
   subst es
   have ln:=h4.length_eq
   rw [List.length_append,List.length_singleton] at ln
   have lt:=((wd_inv (.inl rfl) e).1 rfl).2.2
   have pk:peak (st.length:Int) ((("do",wk):Mv)::ms)=max (st.length:Int) (peak (st'.length:Int) ms):=by
    show max _ (peak ((st.length:Int)+pm ("do",wk)) ms)=_
    rw [pm_do,show ((st.length:Int)+1)=(st'.length:Int) by omega]
   rw [pk] at hp
   exact ih h6 h5 (by omega) (by omega) hv
  ·dsimp only at d h1 h2
   subst d
   have es:=b.2 rfl
   dsimp only at es
   rw [← es] at h2
   have ln:=rm_len (up_nodup up) h1
   rw [← es] at ln
   have pk:peak (st.length:Int) ((("clear",wk):Mv)::ms)=max (st.length:Int) (peak (st'.length:Int) ms):=by
    show max _ (peak ((st.length:Int)+pm ("clear",wk)) ms)=_
    rw [pm_clear,show ((st.length:Int)+-1)=(st'.length:Int) by omega]
   rw [pk] at hp
   exact ih h2 (by rw [es];exact up.filter _) (by omega) (by omega) hv
theorem run_in {net:List (List Int)} {R R':Int} {s t:List Int} {ms:List Mv} (h:Run net R s ms t):s.Pairwise (·<·)→peak (s.length:Int) ms≤R'→Run net R' s ms t:=by
 induction h with
 | nil=>intro _ _;exact .nil
 | @do_ s s' t w ms h1 h2 h3 h4 h5 h6 ih=>
  intro up hp
  have ln:=h4.length_eq
  rw [List.length_append,List.length_singleton] at ln
  have pk:peak (s.length:Int) (("do",w)::ms)=max (s.length:Int) (peak (s'.length:Int) ms):=by
   show max _ (peak ((s.length:Int)+pm ("do",w)) ms)=_
   rw [pm_do,show ((s.length:Int)+1)=(s'.length:Int) by omega]
  rw [pk] at hp
  have pg:=peak_ge (s'.length:Int) ms
  exact .do_ h1 h2 (by omega) h4 h5 (ih h5 (by omega))
 | @clear s t w ms h1 h2 ih=>
  intro up hp
  have ln:=rm_len (up_nodup up) h1
  have pk:peak (s.length:Int) (("clear",w)::ms)=max (s.length:Int) (peak ((s.filter fun x=>decide (x ≠ w)).length:Int) ms):=by
   show max _ (peak ((s.length:Int)+pm ("clear",w)) ms)=_
   rw [pm_clear,show ((s.length:Int)+-1)=((s.filter fun x=>decide (x ≠ w)).length:Int) by omega]
  rw [pk] at hp
  exact .clear h1 (ih (up.filter _) (by omega))
end Fw
set_option maxHeartbeats 0
namespace Fw
open PySem L2
section
variable {P:Program} {w:World} {K:PySem.W.Frag} {mg:Str→Option Value} {base:Heap} {f:Addr} {fd:FuncData}
theorem sc_Lbegin:FnScope ["_law_script","_law_cells"] ["_law_script"] (defScope s_Lbegin):=⟨rfl,rfl,rfl,by decide +kernel,rfl,by decide +kernel,by decide +kernel⟩
theorem ok_Lbegin (F:Fun K "_law_begin" "_law_begin" s_Lbegin f fd) (z_list:mg "list" = none):FnOk P w K mg base CX0 1 f fd ["_law_script"] (spBegin K):=by
 refine F.ok sc_Lbegin (fun vs H Q E h=>?_) (fun cdv A outer s H vs Q E hr h=>?_)
 ·obtain ⟨a,ns,rfl,_⟩:=h
  rfl
 obtain ⟨a,ns,rfl,hS,h63,q⟩:=h
 have hu:=hu_of hr
 have hu0:=hr.units0
 refine ⟨_,(pss_cons (ps_set (i:=1) sc_Lbegin.nd rfl (Or.inl rfl) (pe_callTy call_list_of rfl z_list bt_list (pa_cons (pe_slice sl_list (pv 0) po_none (po_some pe_int)) pa_nil))) (pss_cons (ps_if (pt_cmpR (op_eq_nil hu0) (pv 1) (pe_lst pa_nil) (nomark _)) (pss_one (ps_set (i:=1) sc_Lbegin.nd rfl (Or.inl rfl) (pe_lst (pa_cons pe_int pa_nil)))) pss_nil) (pss_one (ps_ret (pe_disp (pps_cons pe_str (pv 1) (pps_cons pe_str pe_int pps_nil)) rfl rfl (by simp) (by decide)))))),?_⟩
 try dsimp only [Cx.nox,Cx.wish,cxOf]
 refine ⟨_,rfl,_,rfl,a,_,rfl,hS,fun p hp=>?_⟩
 rw [cutV_map]
 have hl:(cutI ns none (some 63)).length≤63:=Nat.le_trans (cutI_len _ _ _) h63
 refine ⟨p,_,rfl,.inl (SqL.of upd_same),fun c hc=>?_⟩
 have s1:Same H (upd (upd H p (.lst ((cutI ns none (some 63)).map V.int))) c (.lst ((cutI ns none (some 63)).map V.int))):=(same_new hp _).trans (same_new hc _)
 refine ⟨_,rfl,(by show 0≤sizeLine;decide),fun e he=>?_⟩
 have hce:c ≠ e:=ne_of_none upd_same he
 refine ⟨c,e,_,rfl,rfl,SqL.of (by rw [upd_ne hce];exact upd_same),SqL.of upd_same,_,rfl,?_⟩
 have s2:=s1.trans (same_new he (.lst []))
 cases hm:cutI ns none (some 63) with
 | nil=>
  rw [hm] at s2 he
  refine iteT ?_
  refine ⟨(by show 1≤sizeLine;decide),fun c2 hc2=>?_⟩
  have s3:=s2.trans (same_new hc2 (.lst [.int 7]))
  intro d hd
  refine ⟨_,rfl,?_⟩
  have s4:=s3.trans (same_new hd (.dK []))
  refine ⟨upd_same,[(Sum.inr (Str.ofString "cells"),.ref c2),(Sum.inr (Str.ofString "turn"),.int 0)],rfl,(by show 2≤15;decide),?_⟩
  have ncd:c2 ≠ d:=ne_of_none upd_same hd
  refine q d c2 [7] _ ⟨?_,?_,by decide,by decide,by decide⟩ ?_ ?_ ?_
  ·rw [upd_same,merge2]
  ·rw [upd_ne ncd,upd_ne ncd];exact upd_same
  ·rw [upd_upd];exact s3.trans (same_new hd _)
  ·exact s3.free hd
  ·exact s2.free hc2
 | cons x r=>
  rw [hm] at s2 he hl
  refine iteF ?_
  intro d hd
  refine ⟨_,rfl,?_⟩
  refine ⟨upd_same,[(Sum.inr (Str.ofString "cells"),.ref c),(Sum.inr (Str.ofString "turn"),.int 0)],rfl,(by show 2≤15;decide),?_⟩
  have gc:(upd (upd (upd H p (.lst ((x::r).map V.int))) c (.lst ((x::r).map V.int))) e (.lst [])) c=some (.lst ((x::r).map V.int)):=by rw [upd_ne hce];exact upd_same
  have ncd:c ≠ d:=ne_of_none gc hd
  refine q d c (x::r) _ ⟨?_,?_,by simp,hl,by decide⟩ ?_ ?_ ?_
  ·rw [upd_same,merge2]
  ·rw [upd_ne ncd,upd_ne ncd];exact gc
  ·rw [upd_upd];exact s2.trans (same_new hd _)
  ·exact s2.free hd
  ·rw [hm] at hc;exact (same_new hp _).free hc
theorem sc_Ltake:FnScope ["_law_state","_law_many","_law_turn","_law_place","_law_cell","_law_digit","_law_mixed"] ["_law_state","_law_many"] (defScope s_Ltake):=⟨rfl,rfl,rfl,by decide +kernel,rfl,by decide +kernel,by decide +kernel⟩
theorem ok_Ltake (F:Fun K "_law_take" "_law_take" s_Ltake f fd) (z_len:mg "len" = none) (z_divmod:mg "divmod" = none):FnOk P w K mg base CX0 1 f fd ["_law_state","_law_many"] spTake:=by
 refine F.ok sc_Ltake (fun vs H Q E h=>?_) (fun cdv A outer s H vs Q E hr h=>?_)
 ·obtain ⟨d,c,t,ns,m,rfl,_⟩:=h
  rfl
 obtain ⟨d,c,t,ns,m,rfl,S,ht,hm1,hm2,q⟩:=h
 have hu:=hu_of hr
 refine ⟨_,(pss_cons (ps_set (i:=2) sc_Ltake.nd rfl (Or.inl rfl) (pe_op op_add (pe_dget hu (pv 0) pe_str (fun _ _=>rfl)) pe_int)) (pss_cons (ps_dput hu (pv 0) pe_str (pv 2) rfl) (pss_cons (ps_set (i:=3) sc_Ltake.nd rfl (Or.inl rfl) (pe_op op_mod (pv 2) (pe_callB call_len_seq rfl z_len bt_len (pa_cons (pe_dget hu (pv 0) pe_str (fun _ _=>rfl)) pa_nil)))) (pss_cons (ps_set (i:=4) sc_Ltake.nd rfl (Or.inl rfl) (pe_ix ix_list (pe_dget hu (pv 0) pe_str (fun _ _=>rfl)) (pv 3) (fun _ _=>rfl))) (pss_cons (ps_if (pt_cmpR op_ge (pv 4) (pe_op op_pow pe_int pe_int) (nomark _)) (pss_cons (ps_asg (pe_callB call_divmod rfl z_divmod bt_divmod (pa_cons (pv 4) (pa_cons (pv 1) pa_nil))) (pg_tup rfl (pgs_cons (pg_sub (pe_dget hu (pv 0) pe_str (fun _ _=>rfl)) (pv 3) set_list) (pgs_cons (pg_name (i:=5) sc_Ltake.nd rfl (Or.inl rfl)) pgs_nil)))) (pss_one (ps_ret (pv 5)))) pss_nil) (pss_cons (ps_set (i:=6) sc_Ltake.nd rfl (Or.inl rfl) (pe_op op_mod (pe_op op_mul (pe_op op_add (pe_op op_add (pe_op op_mod (pv 4) pe_int) (pe_op op_mul (pe_op op_mul (pv 2) (pv 2)) pe_int)) pe_int) pe_int) pe_int)) (pss_cons (ps_set (i:=6) sc_Ltake.nd rfl (Or.inl rfl) (pe_op op_mod (pe_op op_mul (pv 6) (pv 6)) pe_int)) (pss_one (ps_ret (pe_op op_mod (pe_op op_fdiv (pe_op op_mod (pe_op op_mul (pe_op op_add (pv 6) (pe_op op_mul (pv 2) pe_int)) pe_int) pe_int) pe_int) (pv 1))))))))))),?_⟩
 try dsimp only [Cx.nox,Cx.wish,cxOf]
 have hpos:=S.pos
 have hne:=S.ne
 have ht':t≤1000000000:=ht
 refine ⟨_,rfl,d,_,rfl,dg_turn S,_,_,rfl,rfl,?_⟩
 refine ⟨_,rfl,_,rfl,d,_,rfl,dp_turn S,?_⟩
 have S1:=S.turn (u:=t+1) (by omega)
 have k1:Keep d c H (upd H d (.dK [(Sum.inr (Str.ofString "cells"),.ref c),(Sum.inr (Str.ofString "turn"),.int (t+1))])):=fun b o e n _=>by rw [upd_ne n];exact e
 generalize upd H d (.dK [(Sum.inr (Str.ofString "cells"),.ref c),(Sum.inr (Str.ofString "turn"),.int (t+1))])=H1 at S1 k1
 have hlen:(((ns.map V.int).length:Nat):Int)=(ns.length:Int):=by rw [List.length_map]
 refine ⟨_,rfl,_,rfl,d,_,rfl,dg_cells S1,c,_,rfl,.inl (SqL.of S1.list),_,_,rfl,rfl,(by rw [hlen];omega),?_⟩
 have p0:0≤(t+1) % (((ns.map V.int).length:Nat):Int):=Int.emod_nonneg _ (by rw [hlen];omega)
 have p1:(t+1) % (((ns.map V.int).length:Nat):Int)<(ns.length:Int):=by
  have:=Int.emod_lt_of_pos (t+1) (b:=(((ns.map V.int).length:Nat):Int)) (by rw [hlen];omega)
  rw [hlen] at this ⊢
  exact this
 dsimp only
 generalize (t+1) % (((ns.map V.int).length:Nat):Int)=pl at p0 p1
 obtain ⟨j,rfl⟩:∃ j:Nat,pl=(j:Int):=⟨pl.toNat,by omega⟩
 have hj:j<ns.length:=by omega
 have hat:atI (ns.map V.int) (j:Int)=some (.int ns[j]):=atI_nat (by rw [List.getElem?_map,List.getElem?_eq_getElem hj];rfl)
 refine ⟨_,rfl,d,_,rfl,dg_cells S1,_,rfl,c,_,_,_,rfl,rfl,SqL.of S1.list,hat,?_⟩
 generalize hx:ns[j]=x at hat ⊢
 refine ⟨_,rfl,_,_,rfl,rfl,⟨by decide,by decide,by decide⟩,_,_,rfl,rfl,_,rfl,?_⟩
 refine ite2 (fun _=>?_) (fun _=>?_)
 ·-- a great cell
  refine ⟨_,rfl,_,rfl,x,m,rfl,⟨by omega,by omega⟩,fun p hp=>?_⟩
  have S2:=S1.new hp (.tup [.int (x / m),.int (x % m)])
  have npc:p ≠ c:=(ne_of_none S1.list hp).symm
  refine ⟨p,_,rfl,SqT.of upd_same,rfl,_,_,rfl,?_⟩
  refine ⟨_,rfl,d,_,rfl,dg_cells S2,_,rfl,c,_,_,j,rfl,rfl,S2.list,ixN_nat (by rw [List.length_map];exact hj),?_⟩
  refine ⟨_,_,rfl,rfl,?_⟩
  refine ⟨_,rfl,?_⟩
  have e1:(ns.map V.int).set j (.int (x / m))=(ns.set j (x / m)).map V.int:=by rw [List.map_set]
  rw [e1]
  refine q (x % m) (ns.set j (x / m)) _ (Int.emod_nonneg _ (by omega)) (Int.emod_lt_of_pos _ (by omega)) (S2.put (by rw [List.length_set])) ?_
  have k2:=k1.trans (keep_new (d:=d) (c:=c) hp (.tup [.int (x / m),.int (x % m)]))
  exact fun b o e n1 n2=>by rw [upd_ne n2];exact k2 b o e n1 n2
 ·have b1:0≤x % 2147483629:=Int.emod_nonneg _ (by decide)
  have b2:x % 2147483629<2147483629:=Int.emod_lt_of_pos _ (by decide)
  refine ⟨_,rfl,_,_,rfl,rfl,(by show (0:Int)<2147483629;decide),_,rfl,_,rfl,_,_,rfl,rfl,.inl ⟨by omega,by omega⟩,_,_,rfl,rfl,.inr ⟨by decide,by decide⟩,_,_,rfl,rfl,_,_,rfl,rfl,_,_,rfl,rfl,.inr ⟨by decide,by decide⟩,_,_,rfl,rfl,(by show (0:Int)<2147483647;decide),?_⟩
  have c1:=Int.emod_nonneg ((x % 2147483629+(t+1) * (t+1) * 7919+11) * 48271) (b:=2147483647) (by decide)
  have c2:=Int.emod_lt_of_pos ((x % 2147483629+(t+1) * (t+1) * 7919+11) * 48271) (b:=2147483647) (by decide)
  dsimp only
  generalize ((x % 2147483629+(t+1) * (t+1) * 7919+11) * 48271) % 2147483647=y at c1 c2
  refine ⟨_,rfl,_,rfl,_,_,rfl,rfl,.inl ⟨by omega,by omega⟩,_,_,rfl,rfl,(by show (0:Int)<2147483587;decide),?_⟩
  dsimp only
  generalize y * y % 2147483587=z
  refine ⟨_,rfl,_,rfl,_,_,rfl,rfl,.inr ⟨by decide,by decide⟩,_,_,rfl,rfl,_,_,rfl,rfl,.inr ⟨by decide,by decide⟩,_,_,rfl,rfl,(by show (0:Int)<2147483629;decide),_,_,rfl,rfl,⟨by decide,by decide⟩,_,rfl,_,_,rfl,rfl,(by omega),?_⟩
  exact q _ ns _ (Int.emod_nonneg _ (by omega)) (Int.emod_lt_of_pos _ (by omega)) S1 k1
end
end Fw
set_option maxHeartbeats 0
namespace Fw
open PySem L2
section
variable {P:Program} {w:World} {K:PySem.W.Frag} {mg:Str→Option Value} {base:Heap} {f:Addr} {fd:FuncData} {f_Ltake:Addr} {fd_Ltake:FuncData}
theorem sc_Lsome_needs:FnScope ["_law_state","_law_k","_law_found","_law_turn","_law_far"] ["_law_state","_law_k"] (defScope s_Lsome_needs):=⟨rfl,rfl,rfl,by decide +kernel,rfl,by decide +kernel,by decide +kernel⟩
theorem ok_Lsome_needs (F:Fun K "_law_some_needs" "_law_some_needs" s_Lsome_needs f fd) (G_Ltake:FnOk P w K mg base CX0 1 f_Ltake fd_Ltake ["_law_state","_law_many"] spTake) (b_Ltake:Binds K fd_Ltake ["_law_state","_law_many"] []) (k_Ltake:PySem.W.keepIn K (.ref f_Ltake)=true) (m_Ltake:mg "_law_take" = some (.ref f_Ltake))
  (z_range:mg "range" = none) (z_min:mg "min" = none) (z_tuple:mg "tuple" = none) (z_sorted:mg "sorted" = none) (z_set:mg "set" = none):FnOk P w K mg base CX0 2 f fd ["_law_state","_law_k"] spNeeds:=by
 refine F.ok sc_Lsome_needs (fun vs H Q E h=>?_) (fun cdv A outer s H vs Q E hr h=>?_)
 ·obtain ⟨d,c,t,ns,k,rfl,_⟩:=h
  rfl
 obtain ⟨d,c,t,ns,k,rfl,S,ht,hk0,hk1,q⟩:=h
 have ht':t≤1000000000 - 20:=ht
 have hr_Ltake:Room 1 _:=hr
 refine ⟨_,(pss_cons (ps_set (i:=2) sc_Lsome_needs.nd rfl (Or.inl rfl) (pe_lst pa_nil)) (pss_cons (ps_for PassesOwn.never rfl (pi_range1 rfl z_range (pa_cons (pe_call G_Ltake hr_Ltake rfl m_Ltake k_Ltake b_Ltake .nil pass0 (pa_cons (pv 0) (pa_cons pe_int pa_nil))) pa_nil)) (pg_name (i:=3) sc_Lsome_needs.nd rfl (Or.inl rfl)) (pss_cons (ps_set (i:=4) sc_Lsome_needs.nd rfl (Or.inl rfl) (pe_ix ix_list (pe_lst (pa_cons (pe_callB (call_min2 rfl) rfl z_min bt_min (pa_cons (pv 1) (pa_cons pe_int pa_nil))) (pa_cons (pv 1) pa_nil))) (pe_op op_fdiv (pe_call G_Ltake hr_Ltake rfl m_Ltake k_Ltake b_Ltake .nil pass0 (pa_cons (pv 0) (pa_cons pe_int pa_nil))) pe_int) (fun _ _=>rfl))) (pss_one (ps_if (pt_cmpR op_gt (pv 1) pe_int (nomark _)) (pss_one (ps_expr (pe_bm PySem.F.plainAttrs_list PySem.F.slot_list_append PySem.F.type_list_append mt_append (pv 2) (pa_cons (pe_op op_sub (pe_op op_sub (pv 1) pe_int) (pe_call G_Ltake hr_Ltake rfl m_Ltake k_Ltake b_Ltake .nil pass0 (pa_cons (pv 0) (pa_cons (pv 4) pa_nil)))) pa_nil)))) pss_nil)))) (pss_one (ps_ret (pe_callTy call_tuple_of rfl z_tuple bt_tuple (pa_cons (pe_callB (call_sorted rfl) rfl z_sorted bt_sorted (pa_cons (pe_callTy (call_set rfl) rfl z_set bt_set (pa_cons (pv 2) pa_nil)) pa_nil)) pa_nil)))))),?_⟩
 try dsimp only [Cx.nox,Cx.wish,cxOf]
 refine ⟨(by show 0≤sizeLine;decide),fun fo hfo=>?_⟩
 have S1:=S.new hfo (.lst [])
 have nd:fo ≠ d:=(ne_of_none S.dict hfo).symm
 have nc:fo ≠ c:=(ne_of_none S.list hfo).symm
 refine ⟨_,rfl,d,c,t,ns,5,rfl,S1,(by show t≤1000000000;omega),by decide,by decide,fun j ns1 H1 j0 j5 S2 K2=>?_⟩
 refine ⟨j,rfl,by omega,by omega,for_range (lo:=0) (n:=j.toNat) (fun i σ Hc=>∃ (t':Int) (ms fs:List Int) (v1 v2:Option V),σ=[some (.ref d),some (.int k),some (.ref fo),v1,v2]∧StAt Hc d c t' ms∧t≤t'∧t'≤t+1+2 * i∧Keep d c H Hc∧
  Hc fo=some (.lst (fs.map V.int))∧fs.length≤i∧∀ x ∈ fs,0≤x∧x<k)
  ⟨t+1,ns1,[],none,none,rfl,S2,by omega,by omega,(keep_new hfo _).trans K2,K2 _ _ upd_same nd nc,Nat.le_refl _,fun _ z=>nomatch z⟩ ?_ ?_⟩
 ·refine fun i σ Hc hi hI_1=>opq fun G_1 hG_1=>?_
  obtain ⟨t',ms,fs,v1,v2,rfl,S3,a1,a2,K3,h3,l3,m3⟩:=hI_1
  refine hG_1 ?_
  have hi5:(i:Int)<5:=by omega
  -- far
  refine ⟨_,rfl,k,4,rfl,_,rfl,(by show 2≤sizeLine;decide),fun p hp=>?_⟩
  have S4:=S3.new hp (.lst [.int (if (4:Int)<k then 4 else k),.int k])
  have npd:p ≠ d:=(ne_of_none S3.dict hp).symm
  have npc:p ≠ c:=(ne_of_none S3.list hp).symm
  refine ⟨_,rfl,d,c,t',ms,4,rfl,S4,(by show t'≤1000000000;omega),by decide,by decide,fun k2 ms2 H2 g0 g4 S5 K5=>?_⟩
  obtain ⟨far,hfar,ef⟩:=pick2 (a:=if (4:Int)<k then 4 else k) (b:=k) g0 g4
  have far1:far≤k:=by rcases ef with e | e <;> (subst e;first | omega | (split <;> omega))
  have far2:0<k→1≤far:=fun hk=>by rcases ef with e | e <;> (subst e;first | omega | (split <;> omega))
  refine ⟨_,_,rfl,rfl,⟨by decide,by decide⟩,p,_,_,_,rfl,rfl,SqL.of (K5 _ _ upd_same npd npc),hfar,?_⟩
  have K6:=K3.trans ((keep_new (d:=d) (c:=c) hp (.lst [.int (if (4:Int)<k then 4 else k),.int k])).trans K5)
  have h6:H2 fo=some (.lst (fs.map V.int)):=K5 _ _ (by rw [upd_ne (ne_of_none h3 hp)];exact h3) nd nc
  refine ⟨_,rfl,_,_,rfl,rfl,_,rfl,?_⟩
  refine ite2 (fun ck=>?_) (fun ck=>?_)
  ·have hk:0<k:=of_decide_eq_true ck
   refine ⟨_,rfl,.inl ⟨rfl,_,SqL.of h6⟩,_,rfl,_,_,rfl,rfl,_,rfl,_,rfl,d,c,t'+1,ms2,far,rfl,S5,(by show t'+1≤1000000000;omega),far2 hk,by omega,fun k3 ms3 H3 c0 c1 S6 K7=>?_⟩
   have h7:=K7 _ _ h6 nd nc
   refine ⟨_,_,rfl,rfl,fo,_,_,rfl,rfl,h7,small1000 (by rw [List.length_map];omega),?_⟩
   have S8:StAt (upd H3 fo (.lst (fs.map V.int++[.int (k - 1 - k3)]))) d c (t'+1+1) ms3:=⟨by rw [upd_ne (Ne.symm nd)];exact S6.dict,by rw [upd_ne (Ne.symm nc)];exact S6.list,S6.ne,S6.len,S6.pos⟩
   have hH:H fo=none:=hfo
   refine ⟨t'+1+1,ms3,fs++[k - 1 - k3],_,_,rfl,S8,by omega,by omega,fun b o e n1 n2=>?_,?_,?_,fun x hx=>?_⟩
   ·rw [upd_ne (ne_of_none e hH)];exact (K6.trans K7) b o e n1 n2
   ·rw [upd_same,List.map_append];rfl
   ·rw [List.length_append,List.length_singleton];omega
   ·rcases List.mem_append.mp hx with hx | hx
    ·exact m3 x hx
    ·rw [List.mem_singleton.mp hx];omega
  ·exact ⟨t'+1,ms2,fs,_,_,rfl,S5,by omega,by omega,K6,h6,by omega,m3⟩
 ·refine fun σ Hc hI_2=>opq fun G_2 hG_2=>?_
  obtain ⟨t',ms,fs,v1,v2,rfl,S3,a1,a2,K3,h3,l3,m3⟩:=hI_2
  refine hG_2 ?_
  refine ⟨_,rfl,fo,fs,rfl,SqL.of h3,by omega,fun a ha=>?_⟩
  have sm1:=same_new ha (SetO w a (dedI fs))
  refine ⟨a,dedI fs,rfl,.inr (.inr upd_same),Nat.lt_of_le_of_lt (dedI_len fs) (by omega),fun b zs hb hp hs=>?_⟩
  have sm2:=sm1.trans (same_new hb (.lst (zs.map V.int)))
  refine ⟨b,_,rfl,.inl ⟨SqL.of upd_same,fun r hr'=>?_⟩⟩
  have sm3:=sm2.trans (same_new hr' (.tup (zs.map V.int)))
  exact q r zs t' ms _ (S3.same sm3) (by omega) (by omega) (K3.trans (.of_same sm3)) upd_same (rise_set hp hs m3)
theorem sc_Ltree_net:FnScope ["_law_state","_law_many","_law_open_ones","_law_found","_law_k","_law_so_many"] ["_law_state","_law_many"] (defScope s_Ltree_net):=⟨rfl,rfl,rfl,by decide +kernel,rfl,by decide +kernel,by decide +kernel⟩
theorem ok_Ltree_net (F:Fun K "_law_tree_net" "_law_tree_net" s_Ltree_net f fd) (G_Ltake:FnOk P w K mg base CX0 1 f_Ltake fd_Ltake ["_law_state","_law_many"] spTake) (b_Ltake:Binds K fd_Ltake ["_law_state","_law_many"] []) (k_Ltake:PySem.W.keepIn K (.ref f_Ltake)=true) (m_Ltake:mg "_law_take" = some (.ref f_Ltake))
  (z_range:mg "range" = none) (z_min:mg "min" = none) (z_tuple:mg "tuple" = none) (z_len:mg "len" = none):FnOk P w K mg base CX0 2 f fd ["_law_state","_law_many"] spTree:=by
 refine F.ok sc_Ltree_net (fun vs H Q E h=>?_) (fun cdv A outer s H vs Q E hr h=>?_)
 ·obtain ⟨d,c,t,ns,m,rfl,_⟩:=h
  rfl
 obtain ⟨d,c,t,ns,m,rfl,S,ht,hm0,hm1,q⟩:=h
 have ht':t≤1000000000 - 1000:=ht
 have hr_Ltake:Room 1 _:=hr
 refine ⟨_,(pss_cons (ps_set (i:=2) sc_Ltree_net.nd rfl (Or.inl rfl) (pe_lst pa_nil)) (pss_cons (ps_set (i:=3) sc_Ltree_net.nd rfl (Or.inl rfl) (pe_lst pa_nil)) (pss_cons (ps_for PassesOwn.never rfl (pi_range1 rfl z_range (pa_cons (pe_op op_sub (pv 1) pe_int) pa_nil)) (pg_name (i:=4) sc_Ltree_net.nd rfl (Or.inl rfl)) (pss_cons (ps_set (i:=5) sc_Ltree_net.nd rfl (Or.inl rfl) (pe_callB (call_min2 rfl) rfl z_min bt_min (pa_cons (pe_callB call_len_seq rfl z_len bt_len (pa_cons (pv 2) pa_nil)) (pa_cons (pe_ix ix_list (pe_lst (pa_cons pe_int (pa_cons pe_int (pa_cons pe_int (pa_cons pe_int (pa_cons pe_int (pa_cons pe_int pa_nil))))))) (pe_call G_Ltake hr_Ltake rfl m_Ltake k_Ltake b_Ltake .nil pass0 (pa_cons (pv 0) (pa_cons pe_int pa_nil))) (fun _ _=>rfl)) pa_nil)))) (pss_cons (ps_expr (pe_bm PySem.F.plainAttrs_list PySem.F.slot_list_append PySem.F.type_list_append mt_append (pv 3) (pa_cons (pe_callTy call_tuple_of rfl z_tuple bt_tuple (pa_cons (pe_slice sl_list (pv 2) (po_some (pe_op op_sub (pe_callB call_len_seq rfl z_len bt_len (pa_cons (pv 2) pa_nil)) (pv 5))) po_none) pa_nil)) pa_nil))) (pss_one (ps_set (i:=2) sc_Ltree_net.nd rfl (Or.inl rfl) (pe_op op_cat (pe_slice sl_list (pv 2) po_none (po_some (pe_op op_sub (pe_callB call_len_seq rfl z_len bt_len (pa_cons (pv 2) pa_nil)) (pv 5)))) (pe_lst (pa_cons (pv 4) pa_nil)))))))) (pss_one (ps_ret (pe_callTy call_tuple_of rfl z_tuple bt_tuple (pa_cons (pe_op op_cat (pv 3) (pe_lst (pa_cons (pe_callTy call_tuple_of rfl z_tuple bt_tuple (pa_cons (pv 2) pa_nil)) pa_nil))) pa_nil))))))),?_⟩
 try dsimp only [Cx.nox,Cx.wish,cxOf]
 refine ⟨(by show 0≤sizeLine;decide),fun o0 ho0=>?_⟩
 have S1:=S.new ho0 (.lst [])
 refine ⟨(by show 0≤sizeLine;decide),fun fo hfo=>?_⟩
 have S2:=S1.new hfo (.lst [])
 have nd:fo ≠ d:=(ne_of_none S1.dict hfo).symm
 have nc:fo ≠ c:=(ne_of_none S1.list hfo).symm
 have no0:o0 ≠ fo:=ne_of_none upd_same hfo
 have hF:H fo=none:=(same_new ho0 _).free hfo
 refine ⟨_,rfl,_,_,rfl,rfl,m - 1,rfl,by omega,by omega,for_range (lo:=0) (n:=(m - 1).toNat) (fun i σ Hc=>∃ (t':Int) (ms os:List Int) (o:Addr) (rs:List Addr) (net:List (List Int)) (v1 v2:Option V),σ=[some (.ref d),some (.int m),some (.ref o),some (.ref fo),v1,v2]∧StAt Hc d c t' ms∧t≤t'∧t'≤t+i∧Keep d c H Hc∧
  Hc o=some (.lst (os.map V.int))∧(o ≠ fo∧o ≠ c)∧Hc fo=some (.lst (rs.map V.ref))∧NetL Hc rs net∧net.length=i∧WFn net∧Rise (i:Int) os)
  ⟨t,ns,[],o0,[],[],none,none,rfl,S2,by omega,by omega,(keep_new ho0 _).trans (keep_new hfo _),by rw [upd_ne no0];exact upd_same,⟨no0,(ne_of_none S.list ho0).symm⟩,upd_same,.nil,rfl,WFn.nil,Rise.nil⟩ ?_ ?_⟩
 ·refine fun i σ Hc hi hI_3=>opq fun G_3 hG_3=>?_
  obtain ⟨t',ms,os,o,rs,net,v1,v2,rfl,S3,a1,a2,K3,h3,⟨n3,n3c⟩,f3,N3,l3,w3,r3⟩:=hI_3
  refine hG_3 ?_
  have hlo:os.length≤i:=r3.len
  refine ⟨_,rfl,o,_,rfl,.inl (SqL.of h3),(by show 6≤sizeLine;decide),fun p hp=>?_⟩
  have S4:=S3.new hp (.lst [.int 0,.int 0,.int 1,.int 2,.int 2,.int 3])
  have npd:p ≠ d:=(ne_of_none S3.dict hp).symm
  have npc:p ≠ c:=(ne_of_none S3.list hp).symm
  refine ⟨_,rfl,d,c,t',ms,6,rfl,S4,(by show t'≤1000000000;omega),by decide,by decide,fun k2 ms2 H2 g0 g6 S5 K5=>?_⟩
  obtain ⟨v,hv,v0,v3⟩:=pick6 g0 g6
  refine ⟨p,_,_,_,rfl,rfl,SqL.of (K5 _ _ upd_same npd npc),hv,?_⟩
  have sm:Same Hc (upd Hc p (.lst [.int 0,.int 0,.int 1,.int 2,.int 2,.int 3])):=same_new hp _
  have K6:=(Keep.of_same (d:=d) (c:=c) sm).trans K5
  have nod:o ≠ d:=ne_of h3 S3.dict (by intro z;cases z)
  have h6:H2 o=some (.lst (os.map V.int)):=K6 _ _ h3 nod n3c
  have f6:H2 fo=some (.lst (rs.map V.ref)):=K6 _ _ f3 nd nc
  have N6:NetL H2 rs net:=N3.keep (fun r zs e=>S3.tup e) K6
  refine ⟨_,_,rfl,?_⟩
  dsimp only
  have so0:0≤(if v<(((os.map V.int).length:Nat):Int) then v else (((os.map V.int).length:Nat):Int)):=by split <;> omega
  have so1:(if v<(((os.map V.int).length:Nat):Int) then v else (((os.map V.int).length:Nat):Int))≤(os.length:Int):=by rw [List.length_map];split <;> omega
  generalize (if v<(((os.map V.int).length:Nat):Int) then v else (((os.map V.int).length:Nat):Int))=so at so0 so1
  obtain ⟨kk,ek⟩:∃ kk:Nat,(os.length:Int) - so=(kk:Int):=⟨((os.length:Int) - so).toNat,by omega⟩
  have ek':(((os.map V.int).length:Nat):Int) - so=(kk:Int):=by rw [List.length_map];exact ek
  have hkk:kk≤os.length:=by omega
  -- found.append(tuple(open_ones[len(open_ones) - so_many:]))
  refine ⟨_,rfl,.inl ⟨rfl,_,SqL.of f6⟩,_,rfl,_,rfl,o,_,rfl,.inl (SqL.of h6),_,rfl,_,_,rfl,rfl,_,rfl,o,_,rfl,SqL.of h6,fun p1 hp1=>?_⟩
  refine ⟨p1,_,rfl,.inl ⟨SqL.of upd_same,fun r hr1=>?_⟩⟩
  rw [ek',cutV_map,cutI_from _ _ hkk] at hr1 ⊢
  have sm1:=(same_new hp1 (.lst ((os.drop kk).map V.int))).trans (same_new hr1 (.tup ((os.drop kk).map V.int)))
  have f7:=sm1 _ _ f6
  have h7:=sm1 _ _ h6
  have N7:NetL _ (rs++[r]) (net++[os.drop kk]):=lcs_snoc (N6.same fun r zs e=>sm1 _ _ e) (show (upd (upd H2 p1 (.lst ((os.drop kk).map V.int))) r (.tup ((os.drop kk).map V.int))) r=some (.tup ((os.drop kk).map V.int)) from upd_same)
  have S7:=S5.same sm1
  have K7:=K6.trans (.of_same sm1)
  generalize (upd (upd H2 p1 (.lst ((os.drop kk).map V.int))) r (.tup ((os.drop kk).map V.int)))=H7 at f7 h7 N7 S7 K7 ⊢
  refine ⟨fo,_,_,rfl,rfl,f7,small1000 (by rw [List.length_map,NetAt.len N3];omega),?_⟩
  have e8:rs.map V.ref++[V.ref r]=(rs++[r]).map V.ref:=by rw [List.map_append];rfl
  rw [e8]
  have S8:StAt (upd H7 fo (.lst ((rs++[r]).map V.ref))) d c (t'+1) ms2:=⟨by rw [upd_ne (Ne.symm nd)];exact S7.dict,by rw [upd_ne (Ne.symm nc)];exact S7.list,S7.ne,S7.len,S7.pos⟩
  have h8:(upd H7 fo (.lst ((rs++[r]).map V.ref))) o=some (.lst (os.map V.int)):=by rw [upd_ne n3];exact h7
  have N8:NetL (upd H7 fo (.lst ((rs++[r]).map V.ref))) (rs++[r]) (net++[os.drop kk]):=N7.same fun r' zs e=>by rw [upd_ne (ne_of e f7 (by intro z;cases z))];exact e
  have K8:Keep d c H (upd H7 fo (.lst ((rs++[r]).map V.ref))):=fun b u e n1 n2=>by rw [upd_ne (ne_of_none e hF)];exact (K3.trans K7) b u e n1 n2
  have f8:(upd H7 fo (.lst ((rs++[r]).map V.ref))) fo=some (.lst ((rs++[r]).map V.ref)):=upd_same
  generalize upd H7 fo (.lst ((rs++[r]).map V.ref))=H8 at S8 h8 N8 K8 f8 ⊢
  -- open_ones=open_ones[:len(open_ones) - so_many]+[k]
  refine ⟨_,rfl,_,rfl,o,_,rfl,.inl (SqL.of h8),_,rfl,_,_,rfl,rfl,_,rfl,o,_,rfl,SqL.of h8,fun p2 hp2=>?_⟩
  rw [ek',cutV_map,cutI_to]
  refine ⟨_,rfl,(by show 1≤sizeLine;decide),fun p3 hp3=>?_⟩
  have n23:p2 ≠ p3:=ne_of_none upd_same hp3
  refine ⟨p2,p3,_,_,rfl,rfl,by rw [upd_ne n23];exact upd_same,upd_same,Nat.le_of_lt (small1000 (by rw [List.length_map,List.length_take,List.length_singleton];omega)),fun p4 hp4=>?_⟩
  have sm2:=((same_new hp2 (.lst ((os.take kk).map V.int))).trans (same_new hp3 (.lst [.int (0+(i:Int))]))).trans (same_new hp4 (.lst ((os.take kk).map V.int++[.int (0+(i:Int))])))
  have e9:(os.take kk).map V.int++[V.int (0+(i:Int))]=(os.take kk++[(i:Int)]).map V.int:=by rw [List.map_append,Int.zero_add];rfl
  have nf4:p4 ≠ fo:=(ne_of_none ((same_new hp3 _) _ _ ((same_new hp2 _) _ _ f8)) hp4).symm
  have nc4:p4 ≠ c:=(ne_of_none ((same_new hp3 _) _ _ ((same_new hp2 _) _ _ S8.list)) hp4).symm
  refine ⟨t'+1,ms2,os.take kk++[(i:Int)],p4,rs++[r],net++[os.drop kk],_,_,rfl,S8.same sm2,by omega,by omega,K8.trans (.of_same sm2),by rw [← e9];exact upd_same,⟨nf4,nc4⟩,sm2 _ _ f8,N8.same fun r' zs e=>sm2 _ _ e,by rw [List.length_append,List.length_singleton,l3],w3.snoc ?_,?_⟩
  ·rw [l3];exact r3.sub (List.drop_sublist _ _)
  ·have:=(r3.sub (List.take_sublist kk os)).snoc (by omega)
   rw [show ((i+1:Nat):Int)=(i:Int)+1 by omega]
   exact this
 ·refine fun σ Hc hI_4=>opq fun G_4 hG_4=>?_
  obtain ⟨t',ms,os,o,rs,net,v1,v2,rfl,S3,a1,a2,K3,h3,⟨n3,n3c⟩,f3,N3,l3,w3,r3⟩:=hI_4
  refine hG_4 ?_
  refine ⟨_,rfl,_,rfl,o,_,rfl,.inl ⟨SqL.of h3,fun r hr1=>?_⟩⟩
  refine ⟨(by show 1≤sizeLine;decide),fun p hp=>?_⟩
  have sm1:=(same_new hr1 (.tup (os.map V.int))).trans (same_new hp (.lst [.ref r]))
  refine ⟨fo,p,_,_,rfl,rfl,sm1 _ _ f3,upd_same,Nat.le_of_lt (small1000 (by rw [List.length_map,NetAt.len N3,List.length_singleton];omega)),fun p2 hp2=>?_⟩
  refine ⟨p2,_,rfl,.inl ⟨SqL.of upd_same,fun a ha=>?_⟩⟩
  have sm2:=(sm1.trans (same_new hp2 (.lst (rs.map V.ref++[.ref r])))).trans (same_new ha (.tup (rs.map V.ref++[.ref r])))
  have gr:=(same_new ha (.tup (rs.map V.ref++[.ref r]))) _ _ ((same_new hp2 (.lst (rs.map V.ref++[.ref r]))) _ _ ((same_new hp (.lst [.ref r])) r _ (upd_same (H:=Hc) (o:=.tup (os.map V.int)))))
  have e8:rs.map V.ref++[V.ref r]=(rs++[r]).map V.ref:=by rw [List.map_append];rfl
  refine q a (net++[os]) t' ms _ (S3.same sm2) (by omega) (by omega) (K3.trans (.of_same sm2)) ⟨rs++[r],by rw [← e8];exact upd_same,lcs_snoc (N3.same fun r' zs e=>sm2 _ _ e) gr⟩ (w3.snoc (by rw [l3];exact r3)) ?_
  rw [List.length_append,List.length_singleton,l3]
  omega
end
end Fw
set_option maxHeartbeats 0
namespace Fw
open PySem L2
section
variable {P:Program} {w:World} {K:PySem.W.Frag} {mg:Str→Option Value} {base:Heap} {f:Addr} {fd:FuncData} {f_Ltake:Addr} {fd_Ltake:FuncData} {f_Lsome_needs:Addr} {fd_Lsome_needs:FuncData} {f_Ltree_net:Addr} {fd_Ltree_net:FuncData}
theorem sc_Lnet:FnScope ["_law_state","_law_many","_law_way","_law_wide","_law_some","_law_half"] ["_law_state","_law_many"] (defScope s_Lnet):=⟨rfl,rfl,rfl,by decide +kernel,rfl,by decide +kernel,by decide +kernel⟩
theorem ok_Lnet (F:Fun K "_law_net" "_law_net" s_Lnet f fd) (G_Ltake:FnOk P w K mg base CX0 1 f_Ltake fd_Ltake ["_law_state","_law_many"] spTake) (b_Ltake:Binds K fd_Ltake ["_law_state","_law_many"] []) (k_Ltake:PySem.W.keepIn K (.ref f_Ltake)=true) (m_Ltake:mg "_law_take" = some (.ref f_Ltake))
  (G_Lsome_needs:FnOk P w K mg base CX0 2 f_Lsome_needs fd_Lsome_needs ["_law_state","_law_k"] spNeeds) (b_Lsome_needs:Binds K fd_Lsome_needs ["_law_state","_law_k"] []) (k_Lsome_needs:PySem.W.keepIn K (.ref f_Lsome_needs)=true) (m_Lsome_needs:mg "_law_some_needs" = some (.ref f_Lsome_needs))
  (G_Ltree_net:FnOk P w K mg base CX0 2 f_Ltree_net fd_Ltree_net ["_law_state","_law_many"] spTree) (b_Ltree_net:Binds K fd_Ltree_net ["_law_state","_law_many"] []) (k_Ltree_net:PySem.W.keepIn K (.ref f_Ltree_net)=true) (m_Ltree_net:mg "_law_tree_net" = some (.ref f_Ltree_net))
  (z_range:mg "range" = none) (z_max:mg "max" = none) (z_int:mg "int" = none) (z_enumerate:mg "enumerate" = none) (z_tuple:mg "tuple" = none) (z_sorted:mg "sorted" = none) (z_set:mg "set" = none):FnOk P w K mg base CX0 3 f fd ["_law_state","_law_many"] spNet:=by
 refine F.ok sc_Lnet (fun vs H Q E h=>?_) (fun cdv A outer s H vs Q E hr h=>?_)
 ·obtain ⟨d,c,t,ns,m,rfl,_⟩:=h
  rfl
 obtain ⟨d,c,t,ns,m,rfl,S,ht,hm0,hm1,q⟩:=h
 have ht':t≤1000000000 - 10000:=ht
 have hr_Ltake:Room 1 _:=hr.mono (by decide)
 have hr_Lsome_needs:Room 2 _:=hr
 have hr_Ltree_net:Room 2 _:=hr
 refine ⟨_,(pss_cons (ps_set (i:=2) sc_Lnet.nd rfl (Or.inl rfl) (pe_call G_Ltake hr_Ltake rfl m_Ltake k_Ltake b_Ltake .nil pass0 (pa_cons (pv 0) (pa_cons pe_int pa_nil)))) (pss_cons (ps_set (i:=3) sc_Lnet.nd rfl (Or.inr rfl) (pe_op op_add pe_int (pe_call G_Ltake hr_Ltake rfl m_Ltake k_Ltake b_Ltake .nil pass0 (pa_cons (pv 0) (pa_cons pe_int pa_nil))))) (pss_cons (ps_if (pt_cmpR op_eq (pv 2) pe_int (nomark _)) (pss_one (ps_ret (pe_callTy call_tuple_of rfl z_tuple bt_tuple (pa_cons (pe_lc rfl (lcs (own:=["_law_k"]) (fv:=[3]) (by kernel_rfl)) (pi_range1 rfl z_range (pa_cons (pv 1) pa_nil)) (fun z1=>pg_name (i:=0) (nd_of (by kernel_rfl)) rfl (Or.inl rfl)) (fun z1=>pts_nil) (fun z1=>(pe_callTy (call_tuple_rng rfl) rfl z_tuple bt_tuple (pa_cons (pe_callTy call_rng2 rfl z_range bt_range (pa_cons (pe_callB (call_max2 rfl) rfl z_max bt_max (pa_cons pe_int (pa_cons (pe_op op_sub (pv 0) (pv 1)) pa_nil))) (pa_cons (pv 0) pa_nil))) pa_nil)))) pa_nil)))) pss_nil) (pss_cons (ps_if (pt_cmpR op_eq (pv 2) pe_int (nomark _)) (pss_cons (ps_lc (i:=4) sc_Lnet.nd rfl rfl rfl (lcs (own:=["_law_k"]) (fv:=[3]) (by kernel_rfl)) (pi_range1 rfl z_range (pa_cons (pv 1) pa_nil)) (fun z2=>pg_name (i:=0) (nd_of (by kernel_rfl)) rfl (Or.inl rfl)) (fun z2=>pts_nil) (fun z2=>(pe_op op_cat (pe_op op_rep (pe_lst (pa_cons (pe_op op_sub (pv 0) (pv 1)) pa_nil)) (pe_callTy call_int1 rfl z_int bt_int (pa_cons (pe_cmpR op_ge (pv 0) (pv 1) (nomark _)) pa_nil))) (pe_op op_rep (pe_lst (pa_cons (pe_op op_sub (pv 0) pe_int) pa_nil)) (pe_callTy call_int1 rfl z_int bt_int (pa_cons (pe_cmpR op_gt (pe_op op_mod (pv 0) (pv 1)) pe_int (nomark _)) pa_nil))))) (by kernel_rfl)) (pss_one (ps_ret (pe_callTy call_tuple_of rfl z_tuple bt_tuple (pa_cons (pe_lc rfl (lcs (own:=["_law_needs"]) (fv:=[]) (by kernel_rfl)) (pi_list (pv 4)) (fun z3=>pg_name (i:=0) (nd_of (by kernel_rfl)) rfl (Or.inl rfl)) (fun z3=>pts_nil) (fun z3=>(pe_callTy (call_tupleK (K:=K) rfl) rfl z_tuple bt_tuple (pa_cons (pe_callB (call_sortedK (K:=K) (w:=w) rfl rfl rfl) rfl z_sorted bt_sorted (pa_cons (pe_callTy (call_setK (K:=K) (w:=w) rfl rfl rfl) rfl z_set bt_set (pa_cons (pv 0) pa_nil)) pa_nil)) pa_nil)))) pa_nil))))) pss_nil) (pss_cons (ps_if (pt_cmpR op_eq (pv 2) pe_int (nomark _)) (pss_one (ps_ret (pe_call G_Ltree_net hr_Ltree_net rfl m_Ltree_net k_Ltree_net b_Ltree_net .nil pass0 (pa_cons (pv 0) (pa_cons (pv 1) pa_nil))))) pss_nil) (pss_cons (ps_if (pt_cmpR op_eq (pv 2) pe_int (nomark _)) (pss_cons (ps_set (i:=5) sc_Lnet.nd rfl (Or.inr rfl) (pe_op op_fdiv (pv 1) pe_int)) (pss_cons (ps_lc (i:=4) sc_Lnet.nd rfl rfl rfl (lcs (own:=["_law_k"]) (fv:=[0,5]) (by kernel_rfl)) (pi_range1 rfl z_range (pa_cons (pv 1) pa_nil)) (fun z4=>pg_name (i:=0) (nd_of (by kernel_rfl)) rfl (Or.inl rfl)) (fun z4=>pts_nil) (fun z4=>(pe_call G_Lsome_needs hr_Lsome_needs rfl m_Lsome_needs k_Lsome_needs b_Lsome_needs .nil pass0 (pa_cons (pv 1) (pa_cons (pe_ifExp (pt_cmpR op_lt (pv 0) (pv 2) (nomark _)) (pv 0) (pe_op op_sub (pv 0) (pv 2))) pa_nil)))) (by kernel_rfl)) (pss_one (ps_ret (pe_callTy call_tuple_of rfl z_tuple bt_tuple (pa_cons (pe_lc rfl (lcs (own:=["_law_k","_law_needs"]) (fv:=[5]) (by kernel_rfl)) (pi_enum rfl z_enumerate bt_enumerate (pa_cons (pv 4) pa_nil)) (fun z5=>pg_tupK (K:=K) (n:=2) rfl rfl (pgs_cons (pg_name (i:=0) (nd_of (by kernel_rfl)) rfl (Or.inl rfl)) (pgs_cons (pg_name (i:=1) (nd_of (by kernel_rfl)) rfl (Or.inl rfl)) pgs_nil)) rfl rfl) (fun z5=>pts_nil) (fun z5=>(pe_ifExp (pt_cmpR op_lt (pv 0) (pv 2) (nomark _)) (pv 1) (pe_callTy (call_tupleK (K:=K) rfl) rfl z_tuple bt_tuple (pa_cons (pe_lc (X:=lcCx _ _ _ _ z5) rfl (lcs (own:=["_law_n"]) (fv:=[2]) (by kernel_rfl)) (pi_tupK (K:=K) rfl (pv 1)) (fun z6=>pg_name (i:=0) (nd_of (by kernel_rfl)) rfl (Or.inl rfl)) (fun z6=>pts_nil) (fun z6=>(pe_op op_add (pv 0) (pv 1)))) pa_nil))))) pa_nil)))))) pss_nil) (pss_one (ps_ret (pe_callTy call_tuple_of rfl z_tuple bt_tuple (pa_cons (pe_lc rfl (lcs (own:=["_law_k"]) (fv:=[0]) (by kernel_rfl)) (pi_range1 rfl z_range (pa_cons (pv 1) pa_nil)) (fun z7=>pg_name (i:=0) (nd_of (by kernel_rfl)) rfl (Or.inl rfl)) (fun z7=>pts_nil) (fun z7=>(pe_call G_Lsome_needs hr_Lsome_needs rfl m_Lsome_needs k_Lsome_needs b_Lsome_needs .nil pass0 (pa_cons (pv 1) (pa_cons (pv 0) pa_nil))))) pa_nil)))))))))),?_⟩
 try dsimp only [Cx.nox,Cx.wish,cxOf]
 refine cut fun N1 hN1=>?_
 refine ⟨_,rfl,d,c,t,ns,8,rfl,S,(by show t≤1000000000;omega),by decide,by decide,fun way ns1 H1 w0 w8 S1 K1=>?_⟩
 refine hN1 _ _ (cut fun N2 hN2=>?_)
 refine ⟨_,rfl,d,c,t+1,ns1,4,rfl,S1,(by show t+1≤1000000000;omega),by decide,by decide,fun wd ns2 H2 wd0 wd4 S2 K2=>⟨_,_,rfl,rfl,?_⟩⟩
 dsimp only
 have K12:=K1.trans K2
 generalize hwide:(1:Int)+wd=wide
 have wi0:1≤wide:=by omega
 have wi4:wide≤4:=by omega
 refine hN2 _ _ (cut fun N3 hN3=>?_)
 refine ⟨_,rfl,rfl,_,rfl,?_⟩
 refine ite2 (fun _=>?_) (fun _=>?_)
 ·refine ⟨_,rfl,m,rfl,by omega,by omega,fun p hp=>?_⟩
  refine lc_range (p:=p) (lo:=0) (n:=m.toNat) (fun i σ Hc=>∃ (v:Option V) (rs:List Addr) (net:List (List Int)),σ=[v,some (.int wide)]∧Same H2 Hc∧Hc p=some (.lst (rs.map V.ref))∧NetL Hc rs net∧net.length=i∧WFn net) ?_ ?_ ?_
  ·exact ⟨none,[],[],rfl,same_new hp _,upd_same,.nil,rfl,WFn.nil⟩
  ·refine fun i σ Hc hi hI_1=>opq fun G_1 hG_1=>?_
   obtain ⟨v,rs,net,rfl,sm,hpc,N,hl,wf⟩:=hI_1
   refine hG_1 ?_
   refine ⟨_,rfl,_,rfl,_,_,rfl,rfl,0,_,rfl,_,rfl,_,_,rfl,fun p1 hp1=>?_⟩
   refine ⟨p1,_,_,rfl,upd_same,by split <;> omega,by split <;> omega,by omega,by omega,fun r hr1=>?_⟩
   have lo0:0≤(if (0+(i:Int)) - wide > 0 then (0+(i:Int)) - wide else 0):=by split <;> omega
   have hri:=rangeI_rise (hi:=0+(i:Int)) lo0
   dsimp only
   rw [rangeV_ints]
   generalize rangeI (if (0+(i:Int)) - wide > 0 then (0+(i:Int)) - wide else 0) (0+(i:Int))=zs at hri ⊢
   generalize HO.rng (if (0+(i:Int)) - wide > 0 then (0+(i:Int)) - wide else 0) (0+(i:Int))=ho at hp1 hr1 ⊢
   have s1:=(same_new hp1 ho).trans (same_new hr1 (.tup (zs.map V.int)))
   have g1:=s1 _ _ hpc
   refine ⟨_,g1,small1000 (by rw [List.length_map,NetAt.len N];omega),?_⟩
   rw [map_snoc]
   refine ⟨_,rs++[r],net++[zs],rfl,same_put (sm.trans s1) hp,upd_same,netl_put (lcs_snoc (N.same fun r' ys e=>s1 _ _ e) upd_same) g1,by rw [List.length_append,List.length_singleton,hl],wf.snoc ?_⟩
   rw [hl]
   exact hri.mono (by omega)
  ·refine fun σ Hc hI_2=>opq fun G_2 hG_2=>?_
   obtain ⟨v,rs,net,rfl,sm,hpc,N,hl,wf⟩:=hI_2
   refine hG_2 ?_
   refine ⟨p,_,rfl,.inl ⟨SqL.of hpc,fun a ha=>?_⟩⟩
   have s1:=same_new ha (.tup (rs.map V.ref))
   exact q a net (t+1+1) ns2 _ (S2.same (sm.trans s1)) (by omega) (by omega) (K12.trans (.of_same (sm.trans s1))) ⟨rs,upd_same,N.same fun r ys e=>s1 _ _ e⟩ wf (by rw [hl];omega)
 refine hN3 _ _ (cut fun N4 hN4=>?_)
 refine ⟨_,rfl,rfl,_,rfl,?_⟩
 refine ite2 (fun _=>?_) (fun _=>?_)
 ·refine ⟨_,rfl,m,rfl,by omega,by omega,fun p hp=>?_⟩
  refine lc_range (p:=p) (lo:=0) (n:=m.toNat) (fun i σ Hc=>∃ (v:Option V) (rs:List Addr) (ls:List (List Int)),σ=[v,some (.int wide)]∧Same H2 Hc∧Hc p=some (.lst (rs.map V.ref))∧Paired (fun r zs=>r ≠ p∧Hc r=some (.lst (zs.map V.int))) rs ls∧ls.length=i∧
   ∀ (j:Nat) zs,ls[j]?=some zs→zs.length≤2∧∀ x ∈ zs,0≤x∧x<(j:Int)) ?_ ?_ ?_
  ·exact ⟨none,[],[],rfl,same_new hp _,upd_same,.nil,rfl,fun j zs e=>by simp at e⟩
  ·refine fun i σ Hc hi hI_3=>opq fun G_3 hG_3=>?_
   obtain ⟨v,rs,ls,rfl,sm,hpc,N,hl,wf⟩:=hI_3
   refine hG_3 ?_
   refine ⟨_,rfl,_,rfl,_,_,rfl,rfl,(by show 1≤sizeLine;decide),fun a1 ha1=>?_⟩
   refine ⟨_,rfl,_,rfl,_,_,rfl,rfl,.inr ⟨_,rfl,?_⟩⟩
   refine ⟨a1,_,_,rfl,rfl,upd_same,by split <;> decide,by split <;> decide,?_,fun a2 ha2=>?_⟩
   ·have:∀ b:Bool,[V.int (0+(i:Int) - wide)].length * (if b=true then (1:Int) else 0).toNat≤sizeLine:=by intro b;cases b <;> simp [sizeLine_eq]
    exact this _
   dsimp only
   rw [rep_b]
   refine ⟨_,rfl,_,_,rfl,rfl,(by show 1≤sizeLine;decide),fun a3 ha3=>?_⟩
   refine ⟨_,rfl,_,rfl,_,_,rfl,rfl,(by show 0<wide;omega),_,_,rfl,rfl,.inr ⟨_,rfl,?_⟩⟩
   refine ⟨a3,_,_,rfl,rfl,upd_same,by split <;> decide,by split <;> decide,?_,fun a4 ha4=>?_⟩
   ·have:∀ b:Bool,[V.int (0+(i:Int) - 1)].length * (if b=true then (1:Int) else 0).toNat≤sizeLine:=by intro b;cases b <;> simp [sizeLine_eq]
    exact this _
   dsimp only
   rw [rep_b]
   have b1:∀ x ∈ (if decide (wide≤0+(i:Int))=true then [0+(i:Int) - wide] else []),0≤x∧x<(i:Int):=by
    intro x hx
    split at hx
    ·rename_i hd
     have:=of_decide_eq_true hd
     rw [List.mem_singleton.mp hx];omega
    ·cases hx
   have b2:∀ x ∈ (if decide (0<(0+(i:Int)) % wide)=true then [0+(i:Int) - 1] else []),0≤x∧x<(i:Int):=by
    intro x hx
    split at hx
    ·rename_i hd
     have hd':=of_decide_eq_true hd
     have:(i:Int) ≠ 0:=by
      intro e
      rw [e] at hd'
      simp at hd'
     rw [List.mem_singleton.mp hx];omega
    ·cases hx
   have c1:(if decide (wide≤0+(i:Int))=true then [0+(i:Int) - wide] else []).length≤1:=by split <;> simp
   have c2:(if decide (0<(0+(i:Int)) % wide)=true then [0+(i:Int) - 1] else []).length≤1:=by split <;> simp
   generalize (if decide (wide≤0+(i:Int))=true then [0+(i:Int) - wide] else [])=z1 at b1 c1 ha3 ha4 ⊢
   generalize (if decide (0<(0+(i:Int)) % wide)=true then [0+(i:Int) - 1] else [])=z2 at b2 c2 ⊢
   have s2:=(same_new ha3 (.lst [.int (0+(i:Int) - 1)])).trans (same_new ha4 (.lst (z2.map V.int)))
   refine ⟨a2,a4,_,_,rfl,rfl,s2 _ _ upd_same,upd_same,Nat.le_of_lt (small1000 (by rw [List.length_map,List.length_map];omega)),fun a5 ha5=>?_⟩
   have s1:=(same_new ha1 (.lst [.int (0+(i:Int) - wide)])).trans (same_new ha2 (.lst (z1.map V.int)))
   have s3:=(s1.trans s2).trans (same_new ha5 (.lst (z1.map V.int++z2.map V.int)))
   have e5:z1.map V.int++z2.map V.int=(z1++z2).map V.int:=by rw [List.map_append]
   rw [e5] at s3 ⊢
   have g1:=s3 _ _ hpc
   have n5:a5 ≠ p:=(ne_of_none ((s1.trans s2) _ _ hpc) ha5).symm
   refine ⟨_,g1,small1000 (by rw [List.length_map,Paired.length N];omega),?_⟩
   rw [map_snoc]
   refine ⟨_,rs++[a5],ls++[z1++z2],rfl,same_put (sm.trans s3) hp,upd_same,Paired.snoc (paired_imp N fun r zs e=>⟨e.1,by rw [upd_ne e.1];exact s3 _ _ e.2⟩) ⟨n5,by rw [upd_ne n5];exact upd_same⟩,by rw [List.length_append,List.length_singleton,hl],fun j zs e=>?_⟩
   rcases snoc_get e with e | ⟨rfl,rfl⟩
   ·exact wf j zs e
   ·rw [hl]
    refine ⟨by rw [List.length_append];omega,fun x hx=>?_⟩
    rcases List.mem_append.mp hx with hx | hx
    ·exact b1 x hx
    ·exact b2 x hx
  ·refine fun σ Hc hI_4=>opq fun G_4 hG_4=>?_
   obtain ⟨v,rs,ls,rfl,sm,hpc,N,hl,wf⟩:=hI_4
   refine hG_4 ?_
   refine ⟨_,rfl,p,rfl,⟨_,SqL.of hpc⟩,fun p' hp'=>?_⟩
   refine lc_list (p:=p') (a:=p) (xs:=rs.map V.ref) (fun i σ Hd=>∃ (v:Option V) (rs':List Addr) (net:List (List Int)),σ=[v]∧Same Hc Hd∧Hd p'=some (.lst (rs'.map V.ref))∧NetL Hd rs' net∧net.length=i∧WFn net) ?_ ?_ ?_ ?_
   ·exact ⟨none,[],[],rfl,same_new hp' _,upd_same,.nil,rfl,WFn.nil⟩
   ·rintro i σ Hd hi ⟨v,rs',net,rfl,sm2,_⟩
    exact SqL.of (sm2 _ _ hpc)
   ·refine fun i x σ Hd hx hI_6=>opq fun G_6 hG_6=>?_
    obtain ⟨v,rs',net,rfl,sm2,hpd,N2,hl2,wf2⟩:=hI_6
    obtain ⟨r,hr1,rfl⟩:=get_ref hx
    obtain ⟨zs,hz,_,hr2⟩:=paired_get N hr1
    obtain ⟨l2,m2⟩:=wf i zs hz
    refine hG_6 ?_
    refine ⟨_,rfl,r,zs,rfl,SqL.of (sm2 _ _ hr2),by omega,fun a ha=>?_⟩
    refine ⟨a,dedI zs,rfl,.inr (.inr upd_same),Nat.lt_of_le_of_lt (dedI_len zs) (by omega),fun b ys hb hpm hs=>?_⟩
    refine ⟨b,_,rfl,.inl ⟨SqL.of upd_same,fun r2 hr3=>?_⟩⟩
    have s1:=((same_new ha (SetO w a (dedI zs))).trans (same_new hb (.lst (ys.map V.int)))).trans (same_new hr3 (.tup (ys.map V.int)))
    have g1:=s1 _ _ hpd
    have lrs:rs.length=m.toNat:=by rw [Paired.length N,hl]
    have hi:i<rs.length:=(List.getElem?_eq_some_iff.mp hr1).1
    refine ⟨_,g1,small1000 (by rw [List.length_map,NetAt.len N2];omega),?_⟩
    rw [map_snoc]
    refine ⟨_,rs'++[r2],net++[ys],rfl,same_put (sm2.trans s1) hp',upd_same,netl_put (lcs_snoc (N2.same fun r' zs' e=>s1 _ _ e) upd_same) g1,by rw [List.length_append,List.length_singleton,hl2],wf2.snoc ?_⟩
    rw [hl2]
    exact rise_set hpm hs m2
   ·refine fun σ Hd hI_7=>opq fun G_7 hG_7=>?_
    obtain ⟨v,rs',net,rfl,sm2,hpd,N2,hl2,wf2⟩:=hI_7
    refine hG_7 ?_
    refine ⟨p',_,rfl,.inl ⟨SqL.of hpd,fun a ha=>?_⟩⟩
    have s1:=same_new ha (.tup (rs'.map V.ref))
    refine q a net (t+1+1) ns2 _ (S2.same ((sm.trans sm2).trans s1)) (by omega) (by omega) (K12.trans (.of_same ((sm.trans sm2).trans s1))) ⟨rs',upd_same,N2.same fun r ys e=>s1 _ _ e⟩ wf2 ?_
    rw [hl2,List.length_map,Paired.length N,hl]
    omega
 refine hN4 _ _ (cut fun N5 hN5=>?_)
 refine ⟨_,rfl,rfl,_,rfl,?_⟩
 refine ite2 (fun _=>?_) (fun _=>?_)
 ·refine ⟨_,rfl,_,rfl,d,c,t+1+1,ns2,m,rfl,S2,?_,hm0,hm1,fun a net t' ms H' a1 a2 a3 a4 a5 a6 a7=>?_⟩
  ·show t+1+1≤1000000000 - 1000;omega
  ·exact q a net t' ms H' a1 (by omega) (by omega) (K12.trans a4) a5 a6 a7
 refine hN5 _ _ (cut fun N6 hN6=>?_)
 refine ⟨_,rfl,rfl,_,rfl,?_⟩
 refine ite2 (fun _=>?_) (fun _=>?_)
 ·refine ⟨_,rfl,_,_,rfl,rfl,⟨by decide,by decide⟩,?_⟩
  dsimp only
  have hf0:0≤m / 2:=by omega
  have hf1:m / 2≤m:=by omega
  generalize m / 2=half at hf0 hf1
  refine ⟨_,rfl,m,rfl,by omega,by omega,fun p hp=>?_⟩
  refine lc_range (p:=p) (lo:=0) (n:=m.toNat) (fun i σ Hc=>∃ (v:Option V) (t':Int) (ms:List Int) (rs:List Addr) (net:List (List Int)),σ=[v,some (.ref d),some (.int half)]∧StAt Hc d c t' ms∧t+2≤t'∧t'≤t+2+9 * i∧Keep d c H2 Hc∧Hc p=some (.lst (rs.map V.ref))∧NetL Hc rs net∧net.length=i∧
   ∀ (j:Nat) zs,net[j]?=some zs→Rise (if (j:Int)<half then (j:Int) else (j:Int) - half) zs) ?_ ?_ ?_
  ·exact ⟨none,t+1+1,ns2,[],[],rfl,S2.new hp _,by omega,by omega,keep_new hp _,upd_same,.nil,rfl,fun j zs e=>by simp at e⟩
  ·refine fun i σ Hc hi hI_8=>opq fun G_8 hG_8=>?_
   obtain ⟨v,t',ms,rs,net,rfl,S3,b1,b2,k3,hpc,N,hl,wf⟩:=hI_8
   refine hG_8 ?_
   have npd:p ≠ d:=(ne_of_none S2.dict hp).symm
   have npc:p ≠ c:=(ne_of_none S2.list hp).symm
   have nx:∀ (kk:Int),kk=(if (i:Int)<half then (i:Int) else (i:Int) - half)→spNeeds [.ref d,.int kk] Hc (fun y H4=>∃ ys,H4 p=some (.lst ys)∧ys.length<sizeLine∧∃ (v:Option V) (t':Int) (ms:List Int) (rs:List Addr) (net:List (List Int)),[some (V.int (0+(i:Int))),some (.ref d),some (.int half)]=[v,some (.ref d),some (.int half)]∧StAt (upd H4 p (.lst (ys++[y]))) d c t' ms∧t+2≤t'∧t'≤t+2+9 * (i+1:Nat)∧Keep d c H2 (upd H4 p (.lst (ys++[y])))∧(upd H4 p (.lst (ys++[y]))) p=some (.lst (rs.map V.ref))∧NetL (upd H4 p (.lst (ys++[y]))) rs net∧net.length=i+1∧
     ∀ (j:Nat) zs,net[j]?=some zs→Rise (if (j:Int)<half then (j:Int) else (j:Int) - half) zs) E0:=by
    intro kk ek
    refine ⟨d,c,t',ms,kk,rfl,S3,(by show t'≤1000000000 - 20;omega),by rw [ek];split <;> omega,by rw [ek];split <;> omega,fun r zs t'' ms2 H3 e1 e2 e3 e4 e5 e6=>?_⟩
    have g1:=e4 _ _ hpc npd npc
    refine ⟨_,g1,small1000 (by rw [List.length_map,NetAt.len N];omega),?_⟩
    rw [map_snoc]
    refine ⟨_,t'',ms2,rs++[r],net++[zs],rfl,⟨by rw [upd_ne (Ne.symm npd)];exact e1.dict,by rw [upd_ne (Ne.symm npc)];exact e1.list,e1.ne,e1.len,e1.pos⟩,by omega,by omega,keep_put (k3.trans e4) hp,upd_same,netl_put (lcs_snoc (N.keep (fun r ys e=>S3.tup e) e4) e5) g1,by rw [List.length_append,List.length_singleton,hl],fun j ys e=>?_⟩
    rcases snoc_get e with e | ⟨rfl,rfl⟩
    ·exact wf j ys e
    ·rw [hl,← ek];exact e6
   refine ⟨_,rfl,_,rfl,_,rfl,_,_,rfl,rfl,_,rfl,?_⟩
   refine ite2 (fun ck=>?_) (fun ck=>?_)
   ·have ck':0+(i:Int)<half:=of_decide_eq_true ck
    exact ⟨_,rfl,nx _ (by rw [if_pos (by omega)];omega)⟩
   ·have ck':¬ 0+(i:Int)<half:=of_decide_eq_false (Bool.eq_false_iff.mpr ck)
    exact ⟨_,rfl,_,rfl,_,_,rfl,rfl,nx _ (by rw [if_neg (by omega)];omega)⟩
  ·refine fun σ Hc hI_9=>opq fun G_9 hG_9=>?_
   obtain ⟨v,t',ms,rs,net,rfl,S3,b1,b2,k3,hpc,N,hl,wf⟩:=hI_9
   refine hG_9 ?_
   have lrs:rs.length=m.toNat:=by rw [Paired.length N,hl]
   refine ⟨_,rfl,p,rfl,⟨_,SqL.of hpc⟩,fun p' hp'=>?_⟩
   refine lc_enum (p:=p') (a:=p) (xs:=rs.map V.ref) (fun i σ Hd=>∃ (v1 v2:Option V) (rs':List Addr) (net':List (List Int)),σ=[v1,v2,some (.int half)]∧Same Hc Hd∧Hd p'=some (.lst (rs'.map V.ref))∧NetL Hd rs' net'∧net'.length=i∧WFn net') ?_ ?_ ?_ ?_
   ·exact ⟨none,none,[],[],rfl,same_new hp' _,upd_same,.nil,rfl,WFn.nil⟩
   ·rintro i σ Hd hi ⟨v1,v2,rs',net',rfl,sm2,_⟩
    exact SqL.of (sm2 _ _ hpc)
   ·refine fun i x σ Hd T hx hI_11 hT=>opq fun G_11 hG_11=>?_
    obtain ⟨v1,v2,rs',net',rfl,sm2,hpd,N2,hl2,wf2⟩:=hI_11
    obtain ⟨r,hr1,rfl⟩:=get_ref hx
    obtain ⟨zs,hz,hr2⟩:=paired_get N hr1
    refine hG_11 ?_
    have hi:i<rs.length:=(List.getElem?_eq_some_iff.mp hr1).1
    have rz:=wf i zs hz
    have sT:=same_new hT (.tup [.int (i:Int),.ref r])
    have hrT:=sT _ _ (sm2 _ _ hr2)
    have hpT:=sT _ _ hpd
    have NT:=N2.same fun r' zs' e=>sT _ _ e
    have smT:=sm2.trans sT
    have gT:SqT K (upd Hd T (.tup [.int (i:Int),.ref r])) T [.int (i:Int),.ref r]:=SqT.of upd_same
    generalize upd Hd T (.tup [.int (i:Int),.ref r])=HT' at hrT hpT NT smT gT ⊢
    refine ⟨T,_,rfl,gT,rfl,_,_,rfl,_,_,rfl,rfl,?_⟩
    refine ⟨_,rfl,_,rfl,_,_,rfl,rfl,_,rfl,?_⟩
    refine ite2 (fun ck=>?_) (fun ck=>?_)
    ·have ck':(i:Int)<half:=of_decide_eq_true ck
     rw [if_pos ck'] at rz
     refine ⟨_,rfl,_,hpT,small1000 (by rw [List.length_map,NetAt.len N2];omega),?_⟩
     rw [map_snoc]
     refine ⟨_,_,rs'++[r],net'++[zs],rfl,same_put smT hp',upd_same,netl_put (lcs_snoc NT hrT) hpT,by rw [List.length_append,List.length_singleton,hl2],wf2.snoc ?_⟩
     rw [hl2]
     exact rz
    ·have ck':¬ (i:Int)<half:=of_decide_eq_false (Bool.eq_false_iff.mpr ck)
     rw [if_neg ck'] at rz
     have lz:zs.length≤i:=by
      have e:((i:Int) - half)=(((i:Int) - half).toNat:Nat):=by omega
      rw [e] at rz
      have:=rz.len
      omega
     refine ⟨_,rfl,r,rfl,⟨_,SqT.of hrT⟩,fun p2 hp2=>?_⟩
     refine lc_tup (p:=p2) (a:=r) (xs:=zs.map V.int) (fun j σ He=>∃ (v:Option V),σ=[v,some (.int half)]∧Same HT' He∧He p2=some (.lst (((zs.take j).map (·+half)).map V.int))) ?_ ?_ ?_ ?_
     ·exact ⟨none,rfl,same_new hp2 _,upd_same⟩
     ·rintro j σ He hj ⟨v,rfl,sm3,_⟩
      exact SqT.of (sm3 _ _ hrT)
     ·refine fun j x σ He hx2 hI_13=>opq fun G_13 hG_13=>?_
      obtain ⟨v,rfl,sm3,hp3⟩:=hI_13
      obtain ⟨z,hz2,rfl⟩:=get_int hx2
      refine hG_13 ?_
      refine ⟨_,rfl,_,rfl,_,_,rfl,rfl,_,hp3,small1000 (by rw [List.length_map,List.length_map,List.length_take];omega),_,rfl,same_put sm3 hp2,?_⟩
      rw [upd_same,List.take_add_one,hz2,Option.toList_some,List.map_append,List.map_append]
      rfl
     ·refine fun σ He hI_14=>opq fun G_14 hG_14=>?_
      obtain ⟨v,rfl,sm3,hp3⟩:=hI_14
      refine hG_14 ?_
      rw [List.length_map,List.take_of_length_le (Nat.le_refl _)] at hp3
      refine ⟨p2,_,rfl,.inl ⟨SqL.of hp3,fun r2 hr3=>?_⟩⟩
      have s1:=same_new hr3 (.tup ((zs.map (·+half)).map V.int))
      have s2:=sm3.trans s1
      have g1:=s2 _ _ hpT
      refine ⟨_,g1,small1000 (by rw [List.length_map,NetAt.len N2];omega),?_⟩
      rw [map_snoc]
      refine ⟨_,_,rs'++[r2],net'++[zs.map (·+half)],rfl,same_put (smT.trans s2) hp',upd_same,netl_put (lcs_snoc (NT.same fun r' zs' e=>s2 _ _ e) upd_same) g1,by rw [List.length_append,List.length_singleton,hl2],wf2.snoc ?_⟩
      rw [hl2]
      have:=rz.shift hf0
      rw [show (i:Int) - half+half=(i:Int) by omega] at this
      exact this
   ·refine fun σ Hd hI_15=>opq fun G_15 hG_15=>?_
    obtain ⟨v1,v2,rs',net',rfl,sm2,hpd,N2,hl2,wf2⟩:=hI_15
    refine hG_15 ?_
    refine ⟨p',_,rfl,.inl ⟨SqL.of hpd,fun a ha=>?_⟩⟩
    have s1:=same_new ha (.tup (rs'.map V.ref))
    refine q a net' t' ms _ (S3.same (sm2.trans s1)) (by omega) (by omega) (K12.trans (k3.trans (.of_same (sm2.trans s1)))) ⟨rs',upd_same,N2.same fun r ys e=>s1 _ _ e⟩ wf2 ?_
    rw [hl2,List.length_map,Paired.length N,hl]
    omega
 refine hN6 _ _ ?_
 refine ⟨_,rfl,m,rfl,by omega,by omega,fun p hp=>?_⟩
 refine lc_range (p:=p) (lo:=0) (n:=m.toNat) (fun i σ Hc=>∃ (v:Option V) (t':Int) (ms:List Int) (rs:List Addr) (net:List (List Int)),σ=[v,some (.ref d)]∧StAt Hc d c t' ms∧t+2≤t'∧t'≤t+2+9 * i∧Keep d c H2 Hc∧Hc p=some (.lst (rs.map V.ref))∧NetL Hc rs net∧net.length=i∧WFn net) ?_ ?_ ?_
 ·exact ⟨none,t+1+1,ns2,[],[],rfl,S2.new hp _,by omega,by omega,keep_new hp _,upd_same,.nil,rfl,WFn.nil⟩
 ·refine fun i σ Hc hi hI_16=>opq fun G_16 hG_16=>?_
  obtain ⟨v,t',ms,rs,net,rfl,S3,b1,b2,k3,hpc,N,hl,wf⟩:=hI_16
  refine hG_16 ?_
  have npd:p ≠ d:=(ne_of_none S2.dict hp).symm
  have npc:p ≠ c:=(ne_of_none S2.list hp).symm
  refine ⟨_,rfl,_,rfl,d,c,t',ms,0+(i:Int),rfl,S3,(by show t'≤1000000000 - 20;omega),by omega,by omega,fun r zs t'' ms2 H3 e1 e2 e3 e4 e5 e6=>?_⟩
  have g1:=e4 _ _ hpc npd npc
  refine ⟨_,g1,small1000 (by rw [List.length_map,NetAt.len N];omega),?_⟩
  rw [map_snoc]
  refine ⟨_,t'',ms2,rs++[r],net++[zs],rfl,⟨by rw [upd_ne (Ne.symm npd)];exact e1.dict,by rw [upd_ne (Ne.symm npc)];exact e1.list,e1.ne,e1.len,e1.pos⟩,by omega,by omega,keep_put (k3.trans e4) hp,upd_same,netl_put (lcs_snoc (N.keep (fun r ys e=>S3.tup e) e4) e5) g1,by rw [List.length_append,List.length_singleton,hl],wf.snoc ?_⟩
  rw [hl]
  exact e6.mono (by omega)
 ·refine fun σ Hc hI_17=>opq fun G_17 hG_17=>?_
  obtain ⟨v,t',ms,rs,net,rfl,S3,b1,b2,k3,hpc,N,hl,wf⟩:=hI_17
  refine hG_17 ?_
  refine ⟨p,_,rfl,.inl ⟨SqL.of hpc,fun a ha=>?_⟩⟩
  have s1:=same_new ha (.tup (rs.map V.ref))
  exact q a net t' ms _ (S3.same s1) (by omega) (by omega) (K12.trans (k3.trans (.of_same s1))) ⟨rs,upd_same,N.same fun r ys e=>s1 _ _ e⟩ wf (by rw [hl];omega)
end
end Fw
set_option maxHeartbeats 0
namespace Fw
open PySem L2
section
variable {P:Program} {w:World} {K:PySem.W.Frag} {mg:Str→Option Value} {base:Heap} {f:Addr} {fd:FuncData} {f_fault_of_do:Addr} {fd_fault_of_do:FuncData}
theorem sc_fault_of_do:FnScope ["net","rooms","stand","work","there","result","need"] ["net","rooms","stand","work"] (defScope s_fault_of_do):=⟨rfl,rfl,rfl,by decide +kernel,rfl,by decide +kernel,by decide +kernel⟩
theorem ok_fault_of_do (F:Fun K "fault_of_do" "fault_of_do" s_fault_of_do f fd) (z_len:mg "len" = none):FnOk P w K mg base CX0 1 f fd ["net","rooms","stand","work"] spFaultDo:=by
 refine F.ok sc_fault_of_do (fun vs H Q E h=>?_) (fun cdv A outer s H vs Q E hr h=>?_)
 ·obtain ⟨a,so,net,st,ns,rooms,wk,rfl,_⟩:=h
  rfl
 obtain ⟨a,so,net,st,ns,rooms,wk,rfl,hN,hst,lst,wk0,hns,q⟩:=h
 have hu:=hu_of hr
 refine ⟨_,(pss_cons (ps_set (i:=4) sc_fault_of_do.nd rfl (Or.inl rfl) pe_dnewK) (pss_cons (ps_for PassesOwn.never rfl (pi_tup (pv 2)) (pg_name (i:=5) sc_fault_of_do.nd rfl (Or.inl rfl)) (pss_one (ps_dput hu (pv 4) (pv 5) pe_bl rfl))) (pss_cons (ps_if (pt_cmp (pc_din hu (pv 3) (pv 4))) (pss_one (ps_ret pe_str)) pss_nil) (pss_cons (ps_for PassesOwn.never rfl (pi_tup (pe_ix ix_tup (pv 0) (pv 3) (fun _ _=>rfl))) (pg_name (i:=6) sc_fault_of_do.nd rfl (Or.inl rfl)) (pss_one (ps_if (pt_cmp (pc_dnotin hu (pv 6) (pv 4))) (pss_one (ps_ret pe_str)) pss_nil))) (pss_cons (ps_if (pt_cmpR op_ge (pe_callB call_len_seq rfl z_len bt_len (pa_cons (pv 2) pa_nil)) (pv 1) (nomark _)) (pss_one (ps_ret pe_str)) pss_nil) (pss_one (ps_ret pe_non))))))),?_⟩
 try dsimp only [Cx.nox,Cx.wish,cxOf]
 refine fun p hp=>?_
 have s0:=same_new hp (.dK [])
 refine ⟨_,rfl,so,rfl,⟨_,SqT.of (s0 _ _ hst)⟩,for_tup (a:=so) (xs:=st.map V.int) (fun i σ Hc=>∃ (kvs:List (Key × V)) (v:Option V),σ=[some (.ref a),some (.int rooms),some (.ref so),some (.int wk),some (.ref p),v,none]∧Same H Hc∧Hc p=some (.dK kvs)∧kvs.length≤i∧∀ x:Int,(valV kvs (Sum.inl x)).isSome=true ↔ x ∈ st.take i)
  ⟨[],none,rfl,s0,upd_same,Nat.le_refl _,fun x=>by simp [valV]⟩ (fun i σ Hc _ ⟨_,_,_,sm,_⟩=>SqT.of (sm _ _ hst)) ?_ ?_⟩
 ·refine fun i x σ Hc hx hI_1=>opq fun G_1 hG_1=>?_
  obtain ⟨kvs,v,rfl,sm,hd,lk,mk⟩:=hI_1
  refine hG_1 ?_
  rw [List.getElem?_map] at hx
  cases ez:st[i]? with
  | none=>rw [ez] at hx;cases hx
  | some z=>
   rw [ez] at hx
   cases hx
   have hil:i<st.length:=(List.getElem?_eq_some_iff.mp ez).1
   refine ⟨_,rfl,_,rfl,p,_,rfl,DPut.k (k:=Sum.inl z) hd (small1000 (by omega)),?_⟩
   refine ⟨putK kvs (Sum.inl z) (.bl true),_,rfl,fun b o e=>?_,upd_same,Nat.le_trans (length_putK _ _ _) (by omega),fun y=>?_⟩
   ·rw [upd_ne (ne_of_none e hp)];exact sm b o e
   ·rw [valV_put,List.take_add_one,ez,Option.toList_some,List.mem_append,List.mem_singleton]
    by_cases hyz:y=z
    ·subst hyz;simp
    ·have:¬ (Sum.inl y:Key)=Sum.inl z:=fun q=>hyz (Sum.inl.inj q)
     rw [if_neg this,mk y]
     simp [hyz]
 ·refine fun σ Hc hI_2=>opq fun G_2 hG_2=>?_
  obtain ⟨kvs,v,rfl,sm,hd,lk,mk⟩:=hI_2
  refine hG_2 ?_
  rw [List.length_map,List.take_of_length_le (Nat.le_refl _)] at mk
  obtain ⟨rs,r,h1,l1,h2,h3⟩:=hN.get hns
  refine ⟨_,rfl,_,rfl,p,_,rfl,DGet.k (k:=Sum.inl wk) hd,_,rfl,?_⟩
  refine ite2 (fun ck=>?_) (fun ck=>?_)
  ·have hw:=(mk wk).mp ck
   have e:wordDo ns st rooms wk=.str "there":=by unfold wordDo;rw [if_pos hw]
   have:=q Hc sm
   rw [e] at this
   exact this
  ·have hw:¬ wk ∈ st:=fun z=>ck ((mk wk).mpr z)
   refine ⟨_,rfl,_,rfl,a,_,_,_,rfl,rfl,SqT.of (sm _ _ h1),get_at wk0 h2,r,rfl,⟨_,SqT.of (sm _ _ h3)⟩,for_tup (a:=r) (xs:=ns.map V.int) (fun i σ Hd=>∃ (v6:Option V),σ=[some (.ref a),some (.int rooms),some (.ref so),some (.int wk),some (.ref p),v,v6]∧Hd=Hc∧∀ x ∈ ns.take i,x ∈ st)
    ⟨none,rfl,rfl,fun x hx=>by simp at hx⟩ (fun i σ Hd _ ⟨_,_,e,_⟩=>by rw [e];exact SqT.of (sm _ _ h3)) ?_ ?_⟩
   ·refine fun i x σ Hd hx hI_3=>opq fun G_3 hG_3=>?_
    obtain ⟨v6,rfl,rfl,mm⟩:=hI_3
    obtain ⟨z,ez,rfl⟩:=get_int hx
    refine hG_3 ?_
    refine ⟨_,rfl,_,rfl,p,_,rfl,DGet.k (k:=Sum.inl z) hd,_,rfl,?_⟩
    refine ite2 (fun cz=>?_) (fun cz=>?_)
    ·have hz:¬ z ∈ st:=fun zz=>by rw [(mk z).mpr zz] at cz;cases cz
     have e:wordDo ns st rooms wk=.str "needs":=by
      unfold wordDo
      rw [if_neg hw,if_neg fun all=>hz (all z (List.mem_of_getElem? ez))]
     have:=q Hd sm
     rw [e] at this
     exact this
    ·have hz:z ∈ st:=by
      apply (mk z).mp
      cases hv:(valV kvs (Sum.inl z:Key)).isSome with
      | true=>rfl
      | false=>rw [hv] at cz;exact absurd rfl cz
     refine ⟨_,rfl,rfl,fun y hy=>?_⟩
     rw [List.take_add_one,ez,Option.toList_some,List.mem_append,List.mem_singleton] at hy
     rcases hy with hy | rfl
     ·exact mm y hy
     ·exact hz
   ·refine fun σ Hd hI_4=>opq fun G_4 hG_4=>?_
    obtain ⟨v6,rfl,rfl,mm⟩:=hI_4
    refine hG_4 ?_
    rw [List.length_map,List.take_of_length_le (Nat.le_refl _)] at mm
    refine ⟨_,rfl,so,_,rfl,.inr (SqT.of (sm _ _ hst)),_,rfl,_,_,rfl,rfl,_,rfl,?_⟩
    have q':=q Hd sm
    have e0:wordDo ns st rooms wk=if rooms≤(st.length:Int) then .str "full" else .non:=by
     unfold wordDo
     rw [if_neg hw,if_pos mm]
    rw [e0] at q'
    refine ite2 (fun cf=>?_) (fun cf=>?_)
    ·have cf':rooms≤(((st.map V.int).length:Nat):Int):=of_decide_eq_true cf
     rw [List.length_map] at cf'
     rw [if_pos cf'] at q'
     exact q'
    ·have cf':¬ rooms≤(((st.map V.int).length:Nat):Int):=of_decide_eq_false (Bool.eq_false_iff.mpr cf)
     rw [List.length_map] at cf'
     rw [if_neg cf'] at q'
     exact q'
theorem sc_fault_of:FnScope ["net","rooms","stand","move"] ["net","rooms","stand","move"] (defScope s_fault_of):=⟨rfl,rfl,rfl,by decide +kernel,rfl,by decide +kernel,by decide +kernel⟩
theorem ok_fault_of (F:Fun K "fault_of" "fault_of" s_fault_of f fd) (G_fault_of_do:FnOk P w K mg base CX0 1 f_fault_of_do fd_fault_of_do ["net","rooms","stand","work"] spFaultDo) (b_fault_of_do:Binds K fd_fault_of_do ["net","rooms","stand","work"] []) (k_fault_of_do:PySem.W.keepIn K (.ref f_fault_of_do)=true) (m_fault_of_do:mg "fault_of_do" = some (.ref f_fault_of_do)) :
  FnOk P w K mg base CX0 2 f fd ["net","rooms","stand","move"] spFault:=by
 refine F.ok sc_fault_of (fun vs H Q E h=>?_) (fun cdv A outer s H vs Q E hr h=>?_)
 ·obtain ⟨a,so,mv,net,st,ns,rooms,wk,word,rfl,_⟩:=h
  rfl
 obtain ⟨a,so,mv,net,st,ns,rooms,wk,word,rfl,hN,hst,lst,hmv,hword,wk0,hns,lns,q⟩:=h
 have hr_fault_of_do:Room 1 _:=hr
 refine ⟨_,(pss_cons (ps_if (pt_cmpR op_eq (pe_ix ix_tup (pv 3) pe_int (fun _ _=>rfl)) pe_str (nomark _)) (pss_one (ps_ret (pe_call G_fault_of_do hr_fault_of_do rfl m_fault_of_do k_fault_of_do b_fault_of_do .nil pass0 (pa_cons (pv 0) (pa_cons (pv 1) (pa_cons (pv 2) (pa_cons (pe_ix ix_tup (pv 3) pe_int (fun _ _=>rfl)) pa_nil))))))) pss_nil) (pss_cons (ps_if (pt_cmpR op_in_seq (pe_ix ix_tup (pv 3) pe_int (fun _ _=>rfl)) (pv 2) (by with_unfolding_all rfl)) (pss_one (ps_ret pe_non)) pss_nil) (pss_one (ps_ret pe_str)))),?_⟩
 try dsimp only [Cx.nox,Cx.wish,cxOf]
 refine ⟨_,rfl,mv,_,_,_,rfl,rfl,SqT.of hmv,rfl,rfl,_,rfl,?_⟩
 refine ite2 (fun ck=>?_) (fun ck=>?_)
 ·have hd:word = "do":=V.str.inj (of_decide_eq_true ck)
  refine ⟨_,rfl,_,rfl,_,rfl,_,rfl,mv,_,_,_,rfl,rfl,SqT.of hmv,rfl,a,so,net,st,ns,rooms,wk,rfl,hN,hst,lst,wk0,hns,fun H' sm=>?_⟩
  have q':=q H' sm
  unfold wordOf at q'
  rw [if_pos hd] at q'
  exact q'
 ·have hd:¬ word = "do":=fun e=>(of_decide_eq_false (Bool.eq_false_iff.mpr ck)) (congrArg V.str e)
  have q':=q H (Same.refl H)
  unfold wordOf wordClear at q'
  rw [if_neg hd] at q'
  refine ⟨_,rfl,mv,_,_,_,rfl,rfl,SqT.of hmv,rfl,_,rfl,so,_,rfl,.inr (SqT.of hst),rfl,flat_ints st,_,rfl,?_⟩
  rw [inV_int]
  refine ite2 (fun cw=>?_) (fun cw=>?_)
  ·rw [if_pos (of_decide_eq_true cw)] at q'
   exact q'
  ·rw [if_neg (of_decide_eq_false (Bool.eq_false_iff.mpr cw))] at q'
   exact q'
end
end Fw
set_option maxHeartbeats 0
namespace Fw
open PySem L2
section
variable {P:Program} {w:World} {K:PySem.W.Frag} {mg:Str→Option Value} {base:Heap} {f:Addr} {fd:FuncData}
theorem sc_Lword:FnScope ["_law_net_here","_law_rooms","_law_stand","_law_move"] ["_law_net_here","_law_rooms","_law_stand","_law_move"] (defScope s_Lword):=⟨rfl,rfl,rfl,by decide +kernel,rfl,by decide +kernel,by decide +kernel⟩
theorem ok_Lword (F:Fun K "_law_word" "_law_word" s_Lword f fd) (z_len:mg "len" = none) (z_all:mg "all" = none):FnOk P w K mg base CX0 1 f fd ["_law_net_here","_law_rooms","_law_stand","_law_move"] spFault:=by
 refine F.ok sc_Lword (fun vs H Q E h=>?_) (fun cdv A outer s H vs Q E hr h=>?_)
 ·obtain ⟨a,so,mv,net,st,ns,rooms,wk,word,rfl,_⟩:=h
  rfl
 obtain ⟨a,so,mv,net,st,ns,rooms,wk,word,rfl,hN,hst,lst,hmv,hword,wk0,hns,lns,q⟩:=h
 refine ⟨_,(pss_cons (ps_if (pt_cmpR op_eq (pe_ix ix_tup (pv 3) pe_int (fun _ _=>rfl)) pe_str (nomark _)) (pss_one (ps_ret (pe_ifExp (pt_cmpR op_in_seq (pe_ix ix_tup (pv 3) pe_int (fun _ _=>rfl)) (pv 2) (by with_unfolding_all rfl)) pe_non pe_str))) pss_nil) (pss_cons (ps_if (pt_cmpR op_in_seq (pe_ix ix_tup (pv 3) pe_int (fun _ _=>rfl)) (pv 2) (by with_unfolding_all rfl)) (pss_one (ps_ret pe_str)) pss_nil) (pss_cons (ps_if (pt_not (pt_val (pe_callB (call_all rfl) rfl z_all bt_all (pa_cons (pe_lc rfl (lcs (own:=["_law_need"]) (fv:=[2]) (by kernel_rfl)) (pi_tup (pe_ix ix_tup (pv 0) (pe_ix ix_tup (pv 3) pe_int (fun _ _=>rfl)) (fun _ _=>rfl))) (fun z1=>pg_name (i:=0) (nd_of (by kernel_rfl)) rfl (Or.inl rfl)) (fun z1=>pts_nil) (fun z1=>(pe_cmpR (op_inK (K:=K) rfl) (pv 0) (pv 1) (by with_unfolding_all rfl)))) pa_nil)))) (pss_one (ps_ret pe_str)) pss_nil) (pss_one (ps_ret (pe_ifExp (pt_cmpR op_ge (pe_callB call_len_seq rfl z_len bt_len (pa_cons (pv 2) pa_nil)) (pv 1) (nomark _)) pe_str pe_non)))))),?_⟩
 try dsimp only [Cx.nox,Cx.wish,cxOf]
 refine ⟨_,rfl,mv,_,_,_,rfl,rfl,SqT.of hmv,rfl,rfl,_,rfl,?_⟩
 refine ite2 (fun ck=>?_) (fun ck=>?_)
 ·have hd:word = "clear":=V.str.inj (of_decide_eq_true ck)
  have q':=q H (Same.refl H)
  unfold wordOf wordClear at q'
  rw [if_neg (by rw [hd];exact do_ne_clear)] at q'
  refine ⟨_,rfl,mv,_,_,_,rfl,rfl,SqT.of hmv,rfl,_,rfl,so,_,rfl,.inr (SqT.of hst),rfl,flat_ints st,_,rfl,?_⟩
  rw [inV_int]
  refine ite2 (fun cw=>?_) (fun cw=>?_)
  ·rw [if_pos (of_decide_eq_true cw)] at q'
   exact q'
  ·rw [if_neg (of_decide_eq_false (Bool.eq_false_iff.mpr cw))] at q'
   exact q'
 ·have hd:word = "do":=hword.resolve_right fun e=>(of_decide_eq_false (Bool.eq_false_iff.mpr ck)) (congrArg V.str e)
  have q1:∀ H',Same H H'→Q (wordDo ns st rooms wk) H':=fun H' sm=>by
   have q':=q H' sm
   unfold wordOf at q'
   rw [if_pos hd] at q'
   exact q'
  refine ⟨_,rfl,mv,_,_,_,rfl,rfl,SqT.of hmv,rfl,_,rfl,so,_,rfl,.inr (SqT.of hst),rfl,flat_ints st,_,rfl,?_⟩
  rw [inV_int]
  refine ite2 (fun cw=>?_) (fun cw=>?_)
  ·have q':=q1 H (Same.refl H)
   unfold wordDo at q'
   rw [if_pos (of_decide_eq_true cw)] at q'
   exact q'
  ·have hw:¬ wk ∈ st:=of_decide_eq_false (Bool.eq_false_iff.mpr cw)
   obtain ⟨rs,r,h1,l1,h2,h3⟩:=hN.get hns
   refine ⟨_,rfl,_,rfl,mv,_,_,_,rfl,rfl,SqT.of hmv,rfl,a,_,_,_,rfl,rfl,SqT.of h1,get_at wk0 h2,r,rfl,⟨_,SqT.of h3⟩,fun p hp=>?_⟩
   refine lc_tup (p:=p) (a:=r) (xs:=ns.map V.int) (fun i σ Hc=>∃ (v:Option V),σ=[v,some (.ref so)]∧Same H Hc∧Hc p=some (.lst (((ns.take i).map fun x=>decide (x ∈ st)).map V.bl))) ?_ ?_ ?_ ?_
   ·exact ⟨none,rfl,same_new hp _,upd_same⟩
   ·rintro i σ Hc hi ⟨v,rfl,sm,_⟩
    exact SqT.of (sm _ _ h3)
   ·refine fun i x σ Hc hx hI_2=>opq fun G_2 hG_2=>?_
    obtain ⟨v,rfl,sm,hpc⟩:=hI_2
    obtain ⟨z,ez,rfl⟩:=get_int hx
    refine hG_2 ?_
    have hi:i<ns.length:=(List.getElem?_eq_some_iff.mp ez).1
    refine ⟨_,rfl,_,rfl,so,_,rfl,.inr (SqT.of (sm _ _ hst)),rfl,flat_ints st,_,hpc,small1000 (by rw [List.length_map,List.length_map,List.length_take];omega),_,rfl,same_put sm hp,?_⟩
    rw [upd_same]
    refine congrArg (fun l=>some (HO.lst l)) ?_
    rw [← take_snoc_all ez]
    show _++[V.bl (inV (.int z) (st.map V.int))]=_
    rw [inV_int]
   ·refine fun σ Hc hI_3=>opq fun G_3 hG_3=>?_
    obtain ⟨v,rfl,sm,hpc⟩:=hI_3
    refine hG_3 ?_
    rw [List.length_map,List.take_of_length_le (Nat.le_refl _)] at hpc
    refine ⟨p,_,rfl,SqL.of hpc,_,rfl,?_⟩
    have q':=q1 Hc sm
    unfold wordDo at q'
    rw [if_neg hw] at q'
    cases hall:(ns.map fun x=>decide (x ∈ st)).all id with
    | false=>
     have na:¬ ∀ x ∈ ns,x ∈ st:=fun z=>by rw [all_in.mpr z] at hall;cases hall
     rw [if_neg na] at q'
     exact q'
    | true=>
     rw [if_pos (all_in.mp hall)] at q'
     refine ⟨_,rfl,so,_,rfl,.inr (SqT.of (sm _ _ hst)),_,rfl,_,_,rfl,rfl,_,rfl,?_⟩
     refine ite2 (fun cf=>?_) (fun cf=>?_)
     ·have cf':rooms≤(((st.map V.int).length:Nat):Int):=of_decide_eq_true cf
      rw [List.length_map] at cf'
      rw [if_pos cf'] at q'
      exact q'
     ·have cf':¬ rooms≤(((st.map V.int).length:Nat):Int):=of_decide_eq_false (Bool.eq_false_iff.mpr cf)
      rw [List.length_map] at cf'
      rw [if_neg cf'] at q'
      exact q'
end
end Fw
set_option maxHeartbeats 0
namespace Fw
open PySem L2
def spAsked4:Sp:=fun vs H Q _=>∃ d c t ns a net,vs=[.ref d,.ref a]∧StAt H d c t ns∧t≤TB - 100∧NetAt H a net∧WFn net∧1≤net.length∧net.length≤400∧
 ∀ r ws t' ns' H',StAt H' d c t' ns'→t≤t'→t'≤t+10→Keep d c H H'→H' r=some (.tup (ws.map V.int))→Rise (net.length:Int) ws→1≤ws.length→ws.length≤4→Q (.ref r) H'
section
variable {P:Program} {w:World} {K:PySem.W.Frag} {mg:Str→Option Value} {base:Heap} {f:Addr} {fd:FuncData} {f_Ltake:Addr} {fd_Ltake:FuncData}
theorem pick0013 {k:Int} (h0:0≤k) (h1:k<4):∃ v,atI [V.int 0,V.int 0,V.int 1,V.int 3] k=some (.int v)∧0≤v∧v≤3:=by
 rcases (by omega:k=0∨k=1∨k=2∨k=3) with rfl | rfl | rfl | rfl
 all_goals exact ⟨_,rfl,by decide,by decide⟩
theorem sc_Lasked:FnScope ["_law_state","_law_net_here","_law_found","_law_turn"] ["_law_state","_law_net_here"] (defScope s_Lasked):=⟨rfl,rfl,rfl,by decide +kernel,rfl,by decide +kernel,by decide +kernel⟩
theorem ok_Lasked (F:Fun K "_law_asked" "_law_asked" s_Lasked f fd)
  (G_Ltake:FnOk P w K mg base CX0 1 f_Ltake fd_Ltake ["_law_state","_law_many"] spTake) (b_Ltake:Binds K fd_Ltake ["_law_state","_law_many"] []) (k_Ltake:PySem.W.keepIn K (.ref f_Ltake)=true) (m_Ltake:mg "_law_take" = some (.ref f_Ltake))
  (z_len:mg "len" = none) (z_min:mg "min" = none) (z_range:mg "range" = none) (z_set:mg "set" = none) (z_sorted:mg "sorted" = none) (z_tuple:mg "tuple" = none):FnOk P w K mg base CX0 2 f fd ["_law_state","_law_net_here"] spAsked4:=by
 refine F.ok sc_Lasked (fun vs H Q E h=>?_) (fun cdv A outer s H vs Q E hr h=>?_)
 ·obtain ⟨d,c,t,ns,a,net,rfl,_⟩:=h
  rfl
 obtain ⟨d,c,t,ns,a,net,rfl,S,ht,hN,wf,n1,n400,q⟩:=h
 have ht':t≤1000000000 - 100:=ht
 have hr_Ltake:Room 1 _:=hr
 refine ⟨_,(pss_cons (ps_set (i:=2) sc_Lasked.nd rfl (Or.inl rfl) (pe_lst (pa_cons (pe_op op_sub (pe_op op_sub (pe_callB call_len_seq rfl z_len bt_len (pa_cons (pv 1) pa_nil)) pe_int) (pe_call G_Ltake hr_Ltake rfl m_Ltake k_Ltake b_Ltake .nil pass0 (pa_cons (pv 0) (pa_cons (pe_callB (call_min2 rfl) rfl z_min bt_min (pa_cons (pe_callB call_len_seq rfl z_len bt_len (pa_cons (pv 1) pa_nil)) (pa_cons pe_int pa_nil))) pa_nil)))) pa_nil))) (pss_cons (ps_for PassesOwn.never rfl (pi_range1 rfl z_range (pa_cons (pe_ix ix_list (pe_lst (pa_cons pe_int (pa_cons pe_int (pa_cons pe_int (pa_cons pe_int pa_nil))))) (pe_call G_Ltake hr_Ltake rfl m_Ltake k_Ltake b_Ltake .nil pass0 (pa_cons (pv 0) (pa_cons pe_int pa_nil))) (fun _ _=>rfl)) pa_nil)) (pg_name (i:=3) sc_Lasked.nd rfl (Or.inl rfl)) (pss_one (ps_expr (pe_bm PySem.F.plainAttrs_list PySem.F.slot_list_append PySem.F.type_list_append mt_append (pv 2) (pa_cons (pe_call G_Ltake hr_Ltake rfl m_Ltake k_Ltake b_Ltake .nil pass0 (pa_cons (pv 0) (pa_cons (pe_callB call_len_seq rfl z_len bt_len (pa_cons (pv 1) pa_nil)) pa_nil))) pa_nil))))) (pss_one (ps_ret (pe_callTy call_tuple_of rfl z_tuple bt_tuple (pa_cons (pe_callB (call_sorted rfl) rfl z_sorted bt_sorted (pa_cons (pe_callTy (call_set rfl) rfl z_set bt_set (pa_cons (pv 2) pa_nil)) pa_nil)) pa_nil)))))),?_⟩
 try dsimp only [Cx.nox,Cx.wish,cxOf]
 obtain ⟨rs,hA,NL⟩:=id hN
 have lrv:(((rs.map V.ref).length:Nat):Int)=(net.length:Int):=by rw [List.length_map,Paired.length NL]
 refine ⟨_,rfl,a,_,rfl,.inr (SqT.of hA),_,_,rfl,rfl,?_⟩
 refine ⟨_,rfl,_,rfl,a,_,rfl,.inr (SqT.of hA),_,_,rfl,?_⟩
 refine ⟨d,c,t,ns,_,rfl,S,(by show t≤1000000000;omega),by split <;> omega,by split <;> omega,fun k ns1 H1 k0 k1 S1 K1=>?_⟩
 have kb:0≤(net.length:Int) - 1 - k∧(net.length:Int) - 1 - k<(net.length:Int):=by
  rw [lrv] at k1
  split at k1 <;> omega
 refine ⟨_,_,rfl,rfl,(by show 1≤sizeLine;decide),fun fo hfo=>?_⟩
 dsimp only
 rw [lrv]
 generalize (net.length:Int) - 1 - k=x0 at kb
 have npd:fo ≠ d:=(ne_of_none S1.dict hfo).symm
 have npc:fo ≠ c:=(ne_of_none S1.list hfo).symm
 have S2:=S1.new hfo (.lst [.int x0])
 have k2:=K1.trans (keep_new (d:=d) (c:=c) hfo (.lst [.int x0]))
 have ffo:∀ o,H fo=some o→False:=fun o z=>by
  by_cases e1:fo=d
  ·exact npd e1
  ·by_cases e2:fo=c
   ·exact npc e2
   ·have:=K1 fo o z e1 e2
    rw [hfo] at this
    cases this
 have gfo:(upd H1 fo (.lst [.int x0])) fo=some (.lst ([x0].map V.int)):=upd_same
 generalize upd H1 fo (.lst [.int x0])=H2 at S2 k2 gfo
 refine ⟨(by show 4≤sizeLine;decide),fun p hp=>?_⟩
 have np2d:p ≠ d:=(ne_of_none S2.dict hp).symm
 have np2c:p ≠ c:=(ne_of_none S2.list hp).symm
 have sp:=same_new hp (.lst [.int 0,.int 0,.int 1,.int 3])
 refine ⟨_,rfl,d,c,t+1,ns1,4,rfl,S2.same sp,(by show t+1≤1000000000;omega),by decide,by decide,fun j ns3 H3 j0 j1 S3 K3=>?_⟩
 have gp:=K3 _ _ upd_same np2d np2c
 have gfo3:=K3 _ _ (sp _ _ gfo) npd npc
 have k3:=(k2.trans (.of_same sp)).trans K3
 obtain ⟨m,hm,m0,m3⟩:=pick0013 j0 j1
 refine ⟨p,_,_,_,rfl,rfl,SqL.of gp,hm,m,rfl,by omega,by omega,for_range (lo:=0) (n:=m.toNat) (fun i σ Hc=>∃ (t':Int) (ms fs:List Int) (v3:Option V),σ=[some (.ref d),some (.ref a),some (.ref fo),v3]∧StAt Hc d c t' ms∧t+2≤t'∧t'≤t+2+i∧Keep d c H Hc∧Hc fo=some (.lst (fs.map V.int))∧fs.length=i+1∧∀ x ∈ fs,0≤x∧x<(net.length:Int))
  ⟨t+1+1,ns3,[x0],none,rfl,S3,by omega,by omega,k3,gfo3,rfl,fun x hx=>by rw [List.mem_singleton.mp hx];exact kb⟩ ?_ ?_⟩
 ·refine fun i σ Hc hi hI_1=>opq fun G_1 hG_1=>?_
  obtain ⟨t',ms,fs,v3,rfl,S4,b1,b2,k4,gf,lf,fb⟩:=hI_1
  refine hG_1 ?_
  have hN4:=hN.keep S k4
  obtain ⟨rs,hA,NL⟩:=id hN4
  have lrv:(((rs.map V.ref).length:Nat):Int)=(net.length:Int):=by rw [List.length_map,Paired.length NL]
  refine ⟨_,rfl,.inl ⟨rfl,_,SqL.of gf⟩,_,rfl,_,rfl,a,_,rfl,.inr (SqT.of hA),d,c,t',ms,_,rfl,S4,(by show t'≤1000000000;omega),by rw [lrv];omega,by rw [lrv];omega,fun x ms5 H5 x0 x1 S5 K5=>?_⟩
  rw [lrv] at x1
  have gf5:=K5 _ _ gf npd npc
  refine ⟨fo,_,_,rfl,rfl,gf5,small1000 (by rw [List.length_map];omega),?_⟩
  refine ⟨t'+1,ms5,fs++[x],_,rfl,⟨by rw [upd_ne (Ne.symm npd)];exact S5.dict,by rw [upd_ne (Ne.symm npc)];exact S5.list,S5.ne,S5.len,S5.pos⟩,by omega,by omega,fun b u e n1 n2=>?_,by rw [upd_same,List.map_append];rfl,by rw [List.length_append,List.length_singleton,lf],fun y hy=>?_⟩
  ·by_cases e3:b=fo
   ·subst e3
    exact (ffo _ e).elim
   ·rw [upd_ne e3]
    exact (k4.trans K5) b u e n1 n2
  ·rcases List.mem_append.mp hy with hy | hy
   ·exact fb y hy
   ·rw [List.mem_singleton.mp hy]
    exact ⟨x0,x1⟩
 ·refine fun σ Hc hI_2=>opq fun G_2 hG_2=>?_
  obtain ⟨t',ms,fs,v3,rfl,S4,b1,b2,k4,gf,lf,fb⟩:=hI_2
  refine hG_2 ?_
  refine ⟨_,rfl,fo,fs,rfl,SqL.of gf,by omega,fun e he=>?_⟩
  have ld:=dedI_len fs
  refine ⟨e,dedI fs,rfl,.inr (.inr upd_same),by omega,fun b ys hb hpm hs=>?_⟩
  refine ⟨b,_,rfl,.inl ⟨SqL.of upd_same,fun r hr3=>?_⟩⟩
  have s1:=((same_new he (SetO w e (dedI fs))).trans (same_new hb (.lst (ys.map V.int)))).trans (same_new hr3 (.tup (ys.map V.int)))
  have ne:fs ≠ []:=fun z=>by rw [z] at lf;simp at lf
  obtain ⟨y,hy⟩:=List.exists_mem_of_ne_nil fs ne
  refine q r ys t' ms _ (S4.same s1) (by omega) (by omega) (k4.trans (.of_same s1)) upd_same (rise_set hpm hs fb) (List.length_pos_of_mem (hpm.mem_iff.mpr (mem_dedI.mpr hy))) (by rw [hpm.length_eq];omega)
end
end Fw
set_option maxHeartbeats 0
namespace Fw
open PySem L2
section
variable {P:Program} {w:World} {K:PySem.W.Frag} {mg:Str→Option Value} {base:Heap} {f:Addr} {fd:FuncData}
structure Fnd2 (net:List (List Int)) (asked ks:List Int) (j:Int):Prop where
 in_:∀ x ∈ ks,(0≤x∧x<(net.length:Int))∧Nd net asked x
 ask:∀ x ∈ asked,j≤x→x ∈ ks
 clo:∀ (w:Nat) zs,j≤(w:Int)→(w:Int) ∈ ks→net[w]?=some zs→∀ y ∈ zs,y ∈ ks
theorem repF:∀ n:Nat,(List.replicate n [V.bl false]).flatten=(List.replicate n false).map V.bl
 | 0=>rfl
 | n+1=>by rw [List.replicate_succ,List.replicate_succ,List.flatten_cons,repF n];rfl
structure Bls (n:Nat) (ks:List Int) (bs:List Bool):Prop where
 len:bs.length=n
 at_:∀ x:Nat,x<n→bs[x]?=some (decide ((x:Int) ∈ ks))
theorem Bls.set {n:Nat} {ks:List Int} {bs:List Bool} (h:Bls n ks bs) {x:Int} (h0:0≤x) (h1:x<n):Bls n (addI ks x) (bs.set x.toNat true):=by
 refine ⟨by rw [List.length_set];exact h.len,fun y hy=>?_⟩
 by_cases e:(y:Int)=x
 ·have e2:x.toNat=y:=by omega
  rw [e2,List.getElem?_set_self (by rw [h.len];exact hy),decide_eq_true (mem_addI.mpr (.inr e))]
 ·rw [List.getElem?_set_ne (by omega),h.at_ y hy]
  congr 1
  exact decide_eq_decide.mpr ⟨fun z=>mem_addI.mpr (.inl z),fun z=>(mem_addI.mp z).resolve_right e⟩
theorem get_bl {bs:List Bool} {i:Nat} {b:Bool} (h:bs[i]?=some b):(bs.map V.bl)[i]?=some (.bl b):=by rw [List.getElem?_map,h];rfl
theorem sc_Lneeded:FnScope ["_law_net_here","_law_asked_here","_law_found","_law_work","_law_need"] ["_law_net_here","_law_asked_here"] (defScope s_Lneeded):=⟨rfl,rfl,rfl,by decide +kernel,rfl,by decide +kernel,by decide +kernel⟩
theorem ok_Lneeded (F:Fun K "_law_needed" "_law_needed" s_Lneeded f fd) (z_len:mg "len" = none) (z_range:mg "range" = none):FnOk P w K mg base CX0 1 f fd ["_law_net_here","_law_asked_here"] spNeeded:=by
 refine F.ok sc_Lneeded (fun vs H Q E h=>?_) (fun cdv A outer s H vs Q E hr h=>?_)
 ·obtain ⟨a,t,net,asked,rfl,_⟩:=h
  rfl
 obtain ⟨a,t,net,asked,rfl,hN,wf,n1000,⟨hT,rA⟩,q⟩:=h
 refine ⟨_,(pss_cons (ps_set (i:=2) sc_Lneeded.nd rfl (Or.inr rfl) (pe_op op_rep (pe_lst (pa_cons pe_bl pa_nil)) (pe_callB call_len_seq rfl z_len bt_len (pa_cons (pv 0) pa_nil)))) (pss_cons (ps_for PassesOwn.never rfl (pi_down rfl z_range (pa_cons (pe_op op_sub (pe_callB call_len_seq rfl z_len bt_len (pa_cons (pv 0) pa_nil)) pe_int) (pa_cons (pe_un un_neg pe_int) (pa_cons (pe_un un_neg pe_int) pa_nil)))) (pg_name (i:=3) sc_Lneeded.nd rfl (Or.inl rfl)) (pss_cons (ps_join (ps_if (pt_cmpR op_in_seq (pv 3) (pv 1) (by with_unfolding_all rfl)) (pss_one (ps_asg pe_bl (pg_sub (pv 2) (pv 3) set_list))) pss_nil)) (pss_one (ps_if (pt_val (pe_ix ix_list (pv 2) (pv 3) (fun _ _=>rfl))) (pss_one (ps_for PassesOwn.never rfl (pi_tup (pe_ix ix_tup (pv 0) (pv 3) (fun _ _=>rfl))) (pg_name (i:=4) sc_Lneeded.nd rfl (Or.inl rfl)) (pss_one (ps_asg pe_bl (pg_sub (pv 2) (pv 4) set_list))))) pss_nil)))) (pss_one (ps_ret (pe_lc rfl (lcs (own:=["_law_work"]) (fv:=[2]) (by kernel_rfl)) (pi_range1 rfl z_range (pa_cons (pe_callB call_len_seq rfl z_len bt_len (pa_cons (pv 0) pa_nil)) pa_nil)) (fun z1=>pg_name (i:=0) (nd_of (by kernel_rfl)) rfl (Or.inl rfl)) (fun z1=>(pts_one (pt_val (pe_ix (ix_listK (K:=K) rfl) (pv 1) (pv 0) (fun _ _=>rfl))))) (fun z1=>(pv 0))))))),?_⟩
 try dsimp only [Cx.nox,Cx.wish,cxOf]
 obtain ⟨rs,hA,NL⟩:=id hN
 have lrv:(((rs.map V.ref).length:Nat):Int)=(net.length:Int):=by rw [List.length_map,Paired.length NL]
 refine ⟨(by show 1≤sizeLine;decide),fun p0 hp0=>?_⟩
 have s0:=same_new hp0 (.lst [.bl false])
 refine ⟨_,rfl,a,_,rfl,.inr (SqT.of (s0 _ _ hA)),p0,_,_,rfl,rfl,upd_same,by rw [lrv];omega,by rw [lrv];omega,?_,fun fo hfo=>?_⟩
 ·rw [lrv,sizeLine_eq];simp;omega
 have ffo:H fo=none:=s0.free hfo
 have s1:=s0.trans (same_new hfo (.lst (List.replicate ((((rs.map V.ref).length:Nat):Int)).toNat [V.bl false]).flatten))
 have gfo:(upd (upd H p0 (.lst [.bl false])) fo (.lst (List.replicate ((((rs.map V.ref).length:Nat):Int)).toNat [V.bl false]).flatten)) fo=some (.lst ((List.replicate net.length false).map V.bl)):=by
  rw [upd_same,repF,lrv,Int.toNat_natCast]
 generalize upd (upd H p0 (.lst [.bl false])) fo (.lst (List.replicate ((((rs.map V.ref).length:Nat):Int)).toNat [V.bl false]).flatten)=H1 at s1 gfo
 refine ⟨_,rfl,a,_,rfl,.inr (SqT.of (s1 _ _ hA)),_,_,rfl,rfl,_,rfl,_,rfl,_,_,rfl,⟨by rw [lrv];omega,by rw [lrv];omega,by decide,by decide⟩,for_down (lo:=(((rs.map V.ref).length:Nat):Int) - 1) (n:=((((rs.map V.ref).length:Nat):Int) - 1 - -1).toNat) (fun i σ Hc=>∃ (bs:List Bool) (ks:List Int) (v3 v4:Option V),σ=[some (.ref a),some (.ref t),some (.ref fo),v3,v4]∧Same H Hc∧Hc fo=some (.lst (bs.map V.bl))∧Bls net.length ks bs∧Fnd2 net asked ks ((net.length:Int) - i))
  ⟨_,[],none,none,rfl,s1,gfo,⟨by simp,fun x hx=>by simp [hx]⟩,⟨fun x hx=>(nomatch hx),fun x hx hl=>?_,fun w zs h1 h2=>(nomatch h2)⟩⟩ ?_ ?_⟩
 ·have:=(rA.in_ x hx).2
  omega
 ·refine fun i σ Hc hi hI_1=>opq fun G_1 hG_1=>?_
  obtain ⟨bs,ks,v3,v4,rfl,sm,hf,B,fn⟩:=hI_1
  refine hG_1 ?_
  rw [lrv] at hi ⊢
  obtain ⟨w0,ew⟩:∃ w0:Nat,(net.length:Int) - 1 - i=(w0:Int):=⟨net.length - 1 - i,by omega⟩
  have hw:w0<net.length:=by omega
  rw [ew]
  obtain ⟨r,h3,h4⟩:=NL.get (List.getElem?_eq_getElem hw)
  have hz:=List.getElem?_eq_getElem hw
  have rz:=wf w0 _ hz
  generalize net[w0]=zs at h4 hz rz
  have ix:∀ {bs:List Bool} {ks:List Int} {x:Int},Bls net.length ks bs→0≤x→x<(net.length:Int)→ixN (bs.map V.bl).length x=some x.toNat:=fun {bs ks x} B h0 h1=>by
   have:=ixN_nat (xs:=bs.map V.bl) (j:=x.toNat) (by rw [List.length_map,B.len];omega)
   rw [show ((x.toNat:Nat):Int)=x by omega] at this
   exact this
  -- asked
  refine ⟨fun σ Hc=>∃ (bs:List Bool) (ks:List Int),σ=[some (.ref a),some (.ref t),some (.ref fo),some (.int (w0:Int)),v4]∧Same H Hc∧Hc fo=some (.lst (bs.map V.bl))∧Bls net.length ks bs∧(∀ x ∈ ks,(0≤x∧x<(net.length:Int))∧Nd net asked x)∧(∀ x ∈ asked,(w0:Int)≤x→x ∈ ks)∧(∀ (w:Nat) zs,(w0:Int)+1≤(w:Int)→(w:Int) ∈ ks→net[w]?=some zs→∀ y ∈ zs,y ∈ ks),?_,?_⟩
  ·refine ⟨_,rfl,_,rfl,t,_,rfl,.inr (SqT.of (sm _ _ hT)),rfl,flat_ints asked,_,rfl,?_⟩
   rw [inV_int]
   by_cases c:(w0:Int) ∈ asked
   ·rw [decide_eq_true c]
    refine ⟨_,rfl,_,rfl,fo,_,_,w0,rfl,rfl,hf,?_,?_⟩
    ·have:=ix B (x:=(w0:Int)) (by omega) (by omega)
     rw [Int.toNat_natCast] at this
     exact this
    ·have st:=B.set (x:=(w0:Int)) (by omega) (by omega)
     rw [Int.toNat_natCast] at st
     refine ⟨_,addI ks (w0:Int),rfl,same_put sm ffo,by rw [upd_same,List.map_set],st,fun x hx=>?_,fun x hx hl=>?_,fun w1 ys h1 h2 h9 y hy=>?_⟩
     ·rcases mem_addI.mp hx with hx | hx
      ·exact fn.in_ x hx
      ·rw [hx]
       exact ⟨⟨by omega,by omega⟩,.ask c⟩
     ·by_cases e:x=(w0:Int)
      ·exact mem_addI.mpr (.inr e)
      ·exact mem_addI.mpr (.inl (fn.ask x hx (by omega)))
     ·rcases mem_addI.mp h2 with h2 | h2
      ·exact mem_addI.mpr (.inl (fn.clo w1 ys (by omega) h2 h9 y hy))
      ·omega
   ·rw [decide_eq_false c]
    refine ⟨bs,ks,rfl,sm,hf,B,fn.in_,fun x hx hl=>?_,fun w1 ys h1 h2 h9=>fn.clo w1 ys (by omega) h2 h9⟩
    by_cases e:x=(w0:Int)
    ·rw [e] at hx
     exact absurd hx c
    ·exact fn.ask x hx (by omega)
  refine fun σ Hc hI_2=>opq fun G_2 hG_2=>?_
  obtain ⟨bs,ks,rfl,sm,hf,B,f1,f2,f3⟩:=hI_2
  refine hG_2 ?_
  refine ⟨_,rfl,_,rfl,fo,_,_,_,rfl,rfl,SqL.of hf,get_at (by omega) (by rw [Int.toNat_natCast];exact get_bl (B.at_ w0 hw)),_,rfl,?_⟩
  by_cases c:(w0:Int) ∈ ks
  ·rw [decide_eq_true c]
   refine ⟨_,rfl,_,rfl,a,_,_,_,rfl,rfl,SqT.of (sm _ _ hA),get_at (by omega) (by rw [Int.toNat_natCast,List.getElem?_map,h3];rfl),r,rfl,⟨_,SqT.of (sm _ _ h4)⟩,for_tup (a:=r) (xs:=zs.map V.int) (fun k σ Hd=>∃ (bs:List Bool) (ks:List Int) (v4:Option V),σ=[some (.ref a),some (.ref t),some (.ref fo),some (.int (w0:Int)),v4]∧Same H Hd∧Hd fo=some (.lst (bs.map V.bl))∧Bls net.length ks bs∧(∀ x ∈ ks,(0≤x∧x<(net.length:Int))∧Nd net asked x)∧(∀ x ∈ asked,(w0:Int)≤x→x ∈ ks)∧(∀ (w:Nat) zs,(w0:Int)+1≤(w:Int)→(w:Int) ∈ ks→net[w]?=some zs→∀ y ∈ zs,y ∈ ks)∧(w0:Int) ∈ ks∧∀ y ∈ zs.take k,y ∈ ks)
    ⟨bs,ks,v4,rfl,sm,hf,B,f1,f2,f3,c,fun y hy=>by simp at hy⟩ (fun k σ Hd _ ⟨_,_,_,_,sd,_⟩=>SqT.of (sd _ _ h4)) ?_ ?_⟩
   ·refine fun k x σ Hd hx hI_3=>opq fun G_3 hG_3=>?_
    obtain ⟨bs,ks,v4,rfl,sd,hfd,B,f1,f2,f3,c,ty⟩:=hI_3
    obtain ⟨y,ey,rfl⟩:=get_int hx
    refine hG_3 ?_
    have my:=List.mem_of_getElem? ey
    have yb:=rz.in_ y my
    refine ⟨_,rfl,_,rfl,fo,_,_,y.toNat,rfl,rfl,hfd,ix B yb.1 (by omega),?_⟩
    refine ⟨_,addI ks y,_,rfl,same_put sd ffo,by rw [upd_same,List.map_set],B.set yb.1 (by omega),fun x hx=>?_,fun x hx hl=>mem_addI.mpr (.inl (f2 x hx hl)),fun w1 ys h1 h2 h9 z hz'=>?_,mem_addI.mpr (.inl c),fun z hz'=>?_⟩
    ·rcases mem_addI.mp hx with hx | hx
     ·exact f1 x hx
     ·rw [hx]
      exact ⟨⟨yb.1,by omega⟩,.need (f1 _ c).2 (by rw [Int.toNat_natCast];exact hz) my⟩
    ·rcases mem_addI.mp h2 with h2 | h2
     ·exact mem_addI.mpr (.inl (f3 w1 ys h1 h2 h9 z hz'))
     ·omega
    ·rw [List.take_add_one,ey,Option.toList_some,List.mem_append,List.mem_singleton] at hz'
     rcases hz' with hz' | hz'
     ·exact mem_addI.mpr (.inl (ty z hz'))
     ·exact mem_addI.mpr (.inr hz')
   ·refine fun σ Hd hI_4=>opq fun G_4 hG_4=>?_
    obtain ⟨bs,ks,v4,rfl,sd,hfd,B,f1,f2,f3,c,ty⟩:=hI_4
    refine hG_4 ?_
    rw [List.length_map,take_all rfl] at ty
    refine ⟨bs,ks,_,_,rfl,sd,hfd,B,f1,fun x hx hl=>f2 x hx (by omega),fun w1 ys h1 h2 h9=>?_⟩
    by_cases e:w1=w0
    ·subst e
     rw [hz] at h9
     cases h9
     exact ty
    ·exact f3 w1 ys (by omega) h2 h9
  ·rw [decide_eq_false c]
   refine ⟨bs,ks,_,_,rfl,sm,hf,B,f1,fun x hx hl=>f2 x hx (by omega),fun w1 ys h1 h2 h9=>?_⟩
   by_cases e:w1=w0
   ·subst e
    exact absurd h2 c
   ·exact f3 w1 ys (by omega) h2 h9
 ·refine fun σ Hc hI_5=>opq fun G_5 hG_5=>?_
  obtain ⟨bs,ks,v3,v4,rfl,sm,hf,B,fn⟩:=hI_5
  refine hG_5 ?_
  rw [lrv,show ((net.length:Int) - (((net.length:Int) - 1 - -1).toNat:Nat))=0 by omega] at fn
  have all:=Fnd.all wf (⟨fn.in_,fun x hx=>fn.ask x hx (rA.in_ x hx).1,fn.clo⟩:Fnd net asked ks 0)
  have lrn:((((rs.map V.ref).length:Nat):Int)).toNat=net.length:=by rw [lrv];omega
  refine ⟨_,rfl,a,_,rfl,.inr (SqT.of (sm _ _ hA)),_,rfl,by rw [lrv];omega,by rw [lrv];omega,fun p hp=>?_⟩
  refine lc_range (p:=p) (lo:=0) (n:=((((rs.map V.ref).length:Nat):Int)).toNat) (fun i σ Hd=>∃ (v:Option V),σ=[v,some (.ref fo)]∧Same Hc Hd∧Hd p=some (.lst ((((rangeI 0 net.length).take i).filter fun x=>decide (x ∈ ks)).map V.int))) ?_ ?_ ?_
  ·exact ⟨none,rfl,same_new hp _,upd_same⟩
  ·refine fun i σ Hd hi hI_6=>opq fun G_6 hG_6=>?_
   obtain ⟨v,rfl,sd,hpd⟩:=hI_6
   refine hG_6 ?_
   rw [lrn] at hi
   have lk:=filter_take_len (p:=fun x=>decide (x ∈ ks)) (l:=rangeI 0 net.length) (i:=i)
   refine ⟨_,rfl,_,rfl,fo,_,_,_,rfl,rfl,SqL.of (sd _ _ hf),get_at (by omega) (by rw [show (0+(i:Int)).toNat=i by omega];exact get_bl (B.at_ i hi)),_,rfl,?_⟩
   rw [filter_snoc (rangeI0_get (by omega)),Int.zero_add]
   by_cases c:(i:Int) ∈ ks
   ·rw [decide_eq_true c]
    refine ⟨_,rfl,_,hpd,small1000 (by rw [List.length_map];omega),_,rfl,same_put sd hp,?_⟩
    rw [upd_same,if_pos rfl,List.map_append]
    rfl
   ·rw [decide_eq_false c]
    refine ⟨_,rfl,sd,?_⟩
    simpa using hpd
  ·refine fun σ Hd hI_7=>opq fun G_7 hG_7=>?_
   obtain ⟨v,rfl,sd,hpd⟩:=hI_7
   refine hG_7 ?_
   rw [take_all (by rw [rangeI_len,lrn];omega)] at hpd
   refine q p _ Hd (sm.trans sd) (sm.free hp) hpd ⟨⟨(rangeI_up _ _).filter _,fun x hx=>mem_rangeI.mp (List.mem_filter.mp hx).1⟩,fun x=>?_⟩
   rw [List.mem_filter,mem_rangeI,decide_eq_true_eq,← all x]
   exact ⟨fun z=>z.2,fun z=>⟨(fn.in_ x z).1,z⟩⟩
end
end Fw
set_option maxHeartbeats 0
namespace Fw
open PySem L2
section
variable {P:Program} {w:World} {K:PySem.W.Frag} {mg:Str→Option Value} {base:Heap} {f:Addr} {fd:FuncData}
theorem sc_Lbehind:FnScope ["_law_stand","_law_move"] ["_law_stand","_law_move"] (defScope s_Lbehind):=⟨rfl,rfl,rfl,by decide +kernel,rfl,by decide +kernel,by decide +kernel⟩
theorem ok_Lbehind (F:Fun K "_law_behind" "_law_behind" s_Lbehind f fd) (z_sorted:mg "sorted" = none) (z_tuple:mg "tuple" = none):FnOk P w K mg base CX0 1 f fd ["_law_stand","_law_move"] spBehindS:=by
 refine F.ok sc_Lbehind (fun vs H Q E h=>?_) (fun cdv A outer s H vs Q E hr h=>?_)
 ·obtain ⟨so,mv,st,word,wk,rfl,_⟩:=h
  rfl
 obtain ⟨so,mv,st,word,wk,rfl,hst,lst,hmv,hword,q⟩:=h
 refine ⟨_,(pss_cons (ps_if (pt_cmpR op_eq (pe_ix ix_tup (pv 1) pe_int (fun _ _=>rfl)) pe_str (nomark _)) (pss_one (ps_ret (pe_callTy call_tuple_of rfl z_tuple bt_tuple (pa_cons (pe_callB (call_sorted rfl) rfl z_sorted bt_sorted (pa_cons (pe_op op_catA (pv 0) (pe_tup (pa_cons (pe_ix ix_tup (pv 1) pe_int (fun _ _=>rfl)) pa_nil))) pa_nil)) pa_nil)))) pss_nil) (pss_one (ps_ret (pe_callTy call_tuple_of rfl z_tuple bt_tuple (pa_cons (pe_lc rfl (lcs (own:=["_law_work"]) (fv:=[1]) (by kernel_rfl)) (pi_tup (pv 0)) (fun z1=>pg_name (i:=0) (nd_of (by kernel_rfl)) rfl (Or.inl rfl)) (fun z1=>(pts_one (pt_cmpR op_ne (pv 0) (pe_ix (ix_tupK (K:=K) rfl) (pv 1) pe_int (fun _ _=>rfl)) (nomark _)))) (fun z1=>(pv 0))) pa_nil))))),?_⟩
 try dsimp only [Cx.nox,Cx.wish,cxOf]
 refine ⟨_,rfl,mv,_,_,_,rfl,rfl,SqT.of hmv,rfl,rfl,_,rfl,?_⟩
 refine ite2 (fun ck=>?_) (fun ck=>?_)
 ·have hd:word = "do":=V.str.inj (of_decide_eq_true ck)
  refine ⟨_,rfl,_,rfl,mv,_,_,_,rfl,rfl,SqT.of hmv,rfl,(by show 1≤sizeLine;decide),fun T hT=>?_⟩
  have sT:=same_new hT (.tup [.int wk])
  have fin:∀ (p:Addr) (H1:Hp),Same H H1→H1 p=some (.tup ((st++[wk]).map V.int))→∀ (b:Addr) (zs:List Int),H1 b=none→zs.Perm (st++[wk])→zs.Pairwise (·≤·)→∀ r,(upd H1 b (.lst (zs.map V.int))) r=none→Q (.ref r) (upd (upd H1 b (.lst (zs.map V.int))) r (.tup (zs.map V.int))):=by
   intro p H1 s1 hp b zs hb hpm hs r hr
   refine q r zs _ (s1.trans ((same_new hb _).trans (same_new hr _))) upd_same ⟨fun _=>⟨hpm,hs⟩,fun z=>?_⟩
   rw [hd] at z
   exact absurd z.symm do_ne_clear
  refine ⟨so,T,st.map V.int,[.int wk],rfl,rfl,SqT.of (sT _ _ hst),SqT.of upd_same,by simp,Nat.le_of_lt (small_n (by rw [List.length_map,List.length_singleton];omega)),fun z=>?_,fun z p hp=>?_⟩
  ·have e:st=[]:=List.map_eq_nil_iff.mp z
   have g:(upd H T (.tup [.int wk])) T=some (.tup ((st++[wk]).map V.int)):=by rw [upd_same,e];rfl
   exact ⟨T,st++[wk],rfl,.inr (.inl (SqT.of g)),(by rw [List.length_append,List.length_singleton];omega),fun b zs hb hpm hs=>⟨b,_,rfl,.inl ⟨SqL.of upd_same,fun r hr=>fin T _ sT g b zs hb hpm hs r hr⟩⟩⟩
  ·have g:(upd (upd H T (.tup [.int wk])) p (.tup (st.map V.int++[.int wk]))) p=some (.tup ((st++[wk]).map V.int)):=by rw [upd_same,List.map_append];rfl
   exact ⟨p,st++[wk],rfl,.inr (.inl (SqT.of g)),(by rw [List.length_append,List.length_singleton];omega),fun b zs hb hpm hs=>⟨b,_,rfl,.inl ⟨SqL.of upd_same,fun r hr=>fin p _ (sT.trans (same_new hp _)) g b zs hb hpm hs r hr⟩⟩⟩
 ·have hd:word = "clear":=hword.resolve_left fun e=>(of_decide_eq_false (Bool.eq_false_iff.mpr ck)) (congrArg V.str e)
  refine ⟨_,rfl,so,rfl,⟨_,SqT.of hst⟩,fun p hp=>?_⟩
  refine lc_tup (p:=p) (a:=so) (xs:=st.map V.int) (fun i σ Hc=>∃ (v:Option V),σ=[v,some (.ref mv)]∧Same H Hc∧Hc p=some (.lst (((st.take i).filter fun x=>decide (x ≠ wk)).map V.int))) ?_ ?_ ?_ ?_
  ·exact ⟨none,rfl,same_new hp _,upd_same⟩
  ·rintro i σ Hc hi ⟨v,rfl,sm,_⟩
   exact SqT.of (sm _ _ hst)
  ·refine fun i x σ Hc hx hI_2=>opq fun G_2 hG_2=>?_
   obtain ⟨v,rfl,sm,hpc⟩:=hI_2
   obtain ⟨y,ey,rfl⟩:=get_int hx
   refine hG_2 ?_
   have hi:=(List.getElem?_eq_some_iff.mp ey).1
   have lk:=filter_take_len (p:=fun x=>decide (x ≠ wk)) (l:=st) (i:=i)
   refine ⟨_,rfl,_,rfl,mv,_,_,_,rfl,rfl,SqT.of (sm _ _ hmv),rfl,rfl,_,rfl,?_⟩
   rw [filter_snoc ey]
   by_cases e:y=wk
   ·rw [decide_eq_true (show V.int y=V.int wk by rw [e]),decide_eq_false (show ¬ y ≠ wk from fun z=>z e)]
    refine ⟨_,rfl,sm,?_⟩
    simpa using hpc
   ·rw [decide_eq_false (show ¬ V.int y=V.int wk from fun z=>e (V.int.inj z)),decide_eq_true (show y ≠ wk from e)]
    refine ⟨_,rfl,_,hpc,small1000 (by rw [List.length_map];omega),_,rfl,same_put sm hp,?_⟩
    rw [upd_same,if_pos rfl,List.map_append]
    rfl
  ·refine fun σ Hc hI_3=>opq fun G_3 hG_3=>?_
   obtain ⟨v,rfl,sm,hpc⟩:=hI_3
   refine hG_3 ?_
   rw [List.length_map,take_all rfl] at hpc
   refine ⟨p,_,rfl,.inl ⟨SqL.of hpc,fun r hr=>?_⟩⟩
   refine q r _ _ (sm.trans (same_new hr _)) upd_same ⟨fun z=>?_,fun _=>rfl⟩
   rw [hd] at z
   exact absurd z do_ne_clear
theorem sc_stand_behind:FnScope ["stand","move"] ["stand","move"] (defScope s_stand_behind):=⟨rfl,rfl,rfl,by decide +kernel,rfl,by decide +kernel,by decide +kernel⟩
theorem ok_stand_behind (F:Fun K "stand_behind" "stand_behind" s_stand_behind f fd) (z_sorted:mg "sorted" = none) (z_tuple:mg "tuple" = none):FnOk P w K mg base CX0 1 f fd ["stand","move"] spBehindS:=by
 refine F.ok sc_stand_behind (fun vs H Q E h=>?_) (fun cdv A outer s H vs Q E hr h=>?_)
 ·obtain ⟨so,mv,st,word,wk,rfl,_⟩:=h
  rfl
 obtain ⟨so,mv,st,word,wk,rfl,hst,lst,hmv,hword,q⟩:=h
 refine ⟨_,(pss_cons (ps_if (pt_cmpR op_eq (pe_ix ix_tup (pv 1) pe_int (fun _ _=>rfl)) pe_str (nomark _)) (pss_one (ps_ret (pe_callTy call_tuple_of rfl z_tuple bt_tuple (pa_cons (pe_callB (call_sorted rfl) rfl z_sorted bt_sorted (pa_cons (pe_op op_catA (pv 0) (pe_tup (pa_cons (pe_ix ix_tup (pv 1) pe_int (fun _ _=>rfl)) pa_nil))) pa_nil)) pa_nil)))) pss_nil) (pss_one (ps_ret (pe_callTy call_tuple_of rfl z_tuple bt_tuple (pa_cons (pe_lc rfl (lcs (own:=["result"]) (fv:=[1]) (by kernel_rfl)) (pi_tup (pv 0)) (fun z2=>pg_name (i:=0) (nd_of (by kernel_rfl)) rfl (Or.inl rfl)) (fun z2=>(pts_one (pt_cmpR op_ne (pv 0) (pe_ix (ix_tupK (K:=K) rfl) (pv 1) pe_int (fun _ _=>rfl)) (nomark _)))) (fun z2=>(pv 0))) pa_nil))))),?_⟩
 try dsimp only [Cx.nox,Cx.wish,cxOf]
 refine ⟨_,rfl,mv,_,_,_,rfl,rfl,SqT.of hmv,rfl,rfl,_,rfl,?_⟩
 refine ite2 (fun ck=>?_) (fun ck=>?_)
 ·have hd:word = "do":=V.str.inj (of_decide_eq_true ck)
  refine ⟨_,rfl,_,rfl,mv,_,_,_,rfl,rfl,SqT.of hmv,rfl,(by show 1≤sizeLine;decide),fun T hT=>?_⟩
  have sT:=same_new hT (.tup [.int wk])
  have fin:∀ (p:Addr) (H1:Hp),Same H H1→H1 p=some (.tup ((st++[wk]).map V.int))→∀ (b:Addr) (zs:List Int),H1 b=none→zs.Perm (st++[wk])→zs.Pairwise (·≤·)→∀ r,(upd H1 b (.lst (zs.map V.int))) r=none→Q (.ref r) (upd (upd H1 b (.lst (zs.map V.int))) r (.tup (zs.map V.int))):=by
   intro p H1 s1 hp b zs hb hpm hs r hr
   refine q r zs _ (s1.trans ((same_new hb _).trans (same_new hr _))) upd_same ⟨fun _=>⟨hpm,hs⟩,fun z=>?_⟩
   rw [hd] at z
   exact absurd z.symm do_ne_clear
  refine ⟨so,T,st.map V.int,[.int wk],rfl,rfl,SqT.of (sT _ _ hst),SqT.of upd_same,by simp,Nat.le_of_lt (small_n (by rw [List.length_map,List.length_singleton];omega)),fun z=>?_,fun z p hp=>?_⟩
  ·have e:st=[]:=List.map_eq_nil_iff.mp z
   have g:(upd H T (.tup [.int wk])) T=some (.tup ((st++[wk]).map V.int)):=by rw [upd_same,e];rfl
   exact ⟨T,st++[wk],rfl,.inr (.inl (SqT.of g)),(by rw [List.length_append,List.length_singleton];omega),fun b zs hb hpm hs=>⟨b,_,rfl,.inl ⟨SqL.of upd_same,fun r hr=>fin T _ sT g b zs hb hpm hs r hr⟩⟩⟩
  ·have g:(upd (upd H T (.tup [.int wk])) p (.tup (st.map V.int++[.int wk]))) p=some (.tup ((st++[wk]).map V.int)):=by rw [upd_same,List.map_append];rfl
   exact ⟨p,st++[wk],rfl,.inr (.inl (SqT.of g)),(by rw [List.length_append,List.length_singleton];omega),fun b zs hb hpm hs=>⟨b,_,rfl,.inl ⟨SqL.of upd_same,fun r hr=>fin p _ (sT.trans (same_new hp _)) g b zs hb hpm hs r hr⟩⟩⟩
 ·have hd:word = "clear":=hword.resolve_left fun e=>(of_decide_eq_false (Bool.eq_false_iff.mpr ck)) (congrArg V.str e)
  refine ⟨_,rfl,so,rfl,⟨_,SqT.of hst⟩,fun p hp=>?_⟩
  refine lc_tup (p:=p) (a:=so) (xs:=st.map V.int) (fun i σ Hc=>∃ (v:Option V),σ=[v,some (.ref mv)]∧Same H Hc∧Hc p=some (.lst (((st.take i).filter fun x=>decide (x ≠ wk)).map V.int))) ?_ ?_ ?_ ?_
  ·exact ⟨none,rfl,same_new hp _,upd_same⟩
  ·rintro i σ Hc hi ⟨v,rfl,sm,_⟩
   exact SqT.of (sm _ _ hst)
  ·refine fun i x σ Hc hx hI_5=>opq fun G_5 hG_5=>?_
   obtain ⟨v,rfl,sm,hpc⟩:=hI_5
   obtain ⟨y,ey,rfl⟩:=get_int hx
   refine hG_5 ?_
   have hi:=(List.getElem?_eq_some_iff.mp ey).1
   have lk:=filter_take_len (p:=fun x=>decide (x ≠ wk)) (l:=st) (i:=i)
   refine ⟨_,rfl,_,rfl,mv,_,_,_,rfl,rfl,SqT.of (sm _ _ hmv),rfl,rfl,_,rfl,?_⟩
   rw [filter_snoc ey]
   by_cases e:y=wk
   ·rw [decide_eq_true (show V.int y=V.int wk by rw [e]),decide_eq_false (show ¬ y ≠ wk from fun z=>z e)]
    refine ⟨_,rfl,sm,?_⟩
    simpa using hpc
   ·rw [decide_eq_false (show ¬ V.int y=V.int wk from fun z=>e (V.int.inj z)),decide_eq_true (show y ≠ wk from e)]
    refine ⟨_,rfl,_,hpc,small1000 (by rw [List.length_map];omega),_,rfl,same_put sm hp,?_⟩
    rw [upd_same,if_pos rfl,List.map_append]
    rfl
  ·refine fun σ Hc hI_6=>opq fun G_6 hG_6=>?_
   obtain ⟨v,rfl,sm,hpc⟩:=hI_6
   refine hG_6 ?_
   rw [List.length_map,take_all rfl] at hpc
   refine ⟨p,_,rfl,.inl ⟨SqL.of hpc,fun r hr=>?_⟩⟩
   refine q r _ _ (sm.trans (same_new hr _)) upd_same ⟨fun z=>?_,fun _=>rfl⟩
   rw [hd] at z
   exact absurd z do_ne_clear
end
end Fw
set_option maxHeartbeats 0
namespace Fw
open PySem L2
section
variable {P:Program} {w:World} {K:PySem.W.Frag} {mg:Str→Option Value} {base:Heap} {f:Addr} {fd:FuncData} {c_Barred f_init_Barred f_fault_of f_stand_behind:Addr} {fd_init_Barred fd_fault_of fd_stand_behind:FuncData}
theorem sc_init_Barred:FnScope ["self","move","word"] ["self","move","word"] (defScope s_init_Barred):=⟨rfl,rfl,rfl,by decide +kernel,rfl,by decide +kernel,by decide +kernel⟩
theorem ok_init_Barred (F:Fun K "__init__" "Barred.__init__" s_init_Barred f fd) (x_Barred:XCls K c_Barred (some (.ref f))) (n_move:PySem.W.findIn K (.ref c_Barred) "move" = some none) (n_word:PySem.W.findIn K (.ref c_Barred) "word" = some none):FnOk P w K mg base CX0 1 f fd ["self","move","word"] (spInit2 c_Barred):=by
 refine F.ok sc_init_Barred (fun vs H Q E h=>?_) (fun cdv A outer s H vs Q E hr h=>?_)
 ·obtain ⟨x,a,b,rfl,_⟩:=h
  rfl
 obtain ⟨x,a,b,rfl,hx,q⟩:=h
 refine ⟨_,(pss_cons (ps_xfld x_Barred (pv 0) (pv 1)) (pss_one (ps_xfld x_Barred (pv 0) (pv 2)))),?_⟩
 try dsimp only [Cx.nox,Cx.wish,cxOf]
 refine ⟨_,rfl,_,rfl,x,none,rfl,hx,n_move,.inl ⟨rfl,fun dx hdx nx=>?_⟩⟩
 refine ⟨_,rfl,_,rfl,x,some dx,rfl,upd_same,n_word,.inr ⟨dx,[("move",a)],rfl,nx,by rw [upd_ne nx];exact upd_same,(by show 1<1000;decide),?_⟩⟩
 rw [upd_norm2 nx]
 exact q dx hdx nx
theorem sc_played:FnScope ["net","rooms","plan","stand","stands","number","move","word"] ["net","rooms","plan"] (defScope s_played):=⟨rfl,rfl,rfl,by decide +kernel,rfl,by decide +kernel,by decide +kernel⟩
theorem ok_played (F:Fun K "played" "played" s_played f fd) (x_Barred:XCls K c_Barred (some (.ref f_init_Barred))) (fi_Barred:PySem.W.isFn K (.ref f_init_Barred)=true) (m_Barred:mg "Barred" = some (.ref c_Barred))
  (G_init_Barred:FnOk P w K mg base CX0 1 f_init_Barred fd_init_Barred ["self","move","word"] (spInit2 c_Barred)) (b_init_Barred:Binds K fd_init_Barred ["self","move","word"] [])
  (G_fault_of:FnOk P w K mg base CX0 2 f_fault_of fd_fault_of ["net","rooms","stand","move"] spFault) (b_fault_of:Binds K fd_fault_of ["net","rooms","stand","move"] []) (k_fault_of:PySem.W.keepIn K (.ref f_fault_of)=true) (m_fault_of:mg "fault_of" = some (.ref f_fault_of))
  (G_stand_behind:FnOk P w K mg base CX0 1 f_stand_behind fd_stand_behind ["stand","move"] spBehindS) (b_stand_behind:Binds K fd_stand_behind ["stand","move"] []) (k_stand_behind:PySem.W.keepIn K (.ref f_stand_behind)=true) (m_stand_behind:mg "stand_behind" = some (.ref f_stand_behind))
  (z_enumerate:mg "enumerate" = none):FnOk P w K mg base (CX1 P w) 3 f fd ["net","rooms","plan"] (spPlay2 c_Barred):=by
 refine F.okX sc_played (fun vs H Q E h=>?_) (fun cdv A outer s H vs Q E hr h=>?_)
 ·obtain ⟨a,l,net,ms,rooms,rfl,_⟩:=h
  rfl
 obtain ⟨a,l,net,ms,rooms,rfl,⟨hN,wf,n400,⟨rs,hl,M⟩,l10,hms,r0,r500⟩,q,qE⟩:=h
 have hr_fault_of:Room 2 _:=hr
 have hr_init_Barred:Room 2 _:=hr
 have hr_stand_behind:Room 1 _:=hr.mono (by decide)
 refine ⟨_,(pss_cons (ps_set (i:=3) sc_played.nd rfl (Or.inl rfl) (pe_tup pa_nil)) (pss_cons (ps_set (i:=4) sc_played.nd rfl (Or.inl rfl) (pe_lst (pa_cons (pv 3) pa_nil))) (pss_cons (ps_for own1 rfl (pi_enum rfl z_enumerate bt_enumerate (pa_cons (pv 2) pa_nil)) (pg_tup rfl (pgs_cons (pg_name (i:=5) sc_played.nd rfl (Or.inl rfl)) (pgs_cons (pg_name (i:=6) sc_played.nd rfl (Or.inl rfl)) pgs_nil))) (pss_cons (ps_set (i:=7) sc_played.nd rfl (Or.inl rfl) (pe_call G_fault_of hr_fault_of rfl m_fault_of k_fault_of b_fault_of .nil pass0 (pa_cons (pv 0) (pa_cons (pv 1) (pa_cons (pv 3) (pa_cons (pv 6) pa_nil)))))) (pss_cons (ps_if (pt_cmp (pc_notN (pv 7))) (pss_one (ps_raiseC rfl rfl x_Barred fi_Barred G_init_Barred hr_init_Barred rfl m_Barred b_init_Barred (pa_cons (pv 5) (pa_cons (pv 7) pa_nil)) (by decide))) pss_nil) (pss_cons (ps_set (i:=3) sc_played.nd rfl (Or.inl rfl) (pe_call G_stand_behind hr_stand_behind rfl m_stand_behind k_stand_behind b_stand_behind .nil pass0 (pa_cons (pv 3) (pa_cons (pv 6) pa_nil)))) (pss_one (ps_expr (pe_bm PySem.F.plainAttrs_list PySem.F.slot_list_append PySem.F.type_list_append mt_append (pv 4) (pa_cons (pv 3) pa_nil)))))))) (pss_one (ps_ret (pv 4)))))),?_⟩
 try dsimp only [Cx.nox,Cx.wish,cxOf]
 have lrs:=Paired.length M
 refine ⟨(by show 0≤sizeLine;decide),fun e he=>?_⟩
 refine ⟨_,rfl,(by show 1≤sizeLine;decide),fun ls hls=>?_⟩
 have s1:=same_new he (.tup [])
 have s2:=s1.trans (same_new hls (.lst [.ref e]))
 have fls:H ls=none:=s1.free hls
 refine ⟨_,rfl,l,rfl,⟨_,SqL.of (s2 _ _ hl)⟩,for_enum (a:=l) (xs:=rs.map V.ref) (fun k σ Hc=>∃ (ss:List Addr) (sts:List (List Int)) (r:Addr) (st:List Int) (v5 v6 v7:Option V),σ=[some (.ref a),some (.int rooms),some (.ref l),some (.ref r),some (.ref ls),v5,v6,v7]∧Same H Hc∧Hc ls=some (.lst (ss.map V.ref))∧NetL Hc ss ([]::sts)∧Hc r=some (.tup (st.map V.int))∧Rise (net.length:Int) st∧sts.length=k∧∀ sts' v,Play net rooms st (ms.drop k) sts' v→Play net rooms [] ms (sts++sts') v)
  ⟨[e],[],e,[],none,none,none,rfl,s2,upd_same,.cons ((same_new hls (.lst [.ref e])) _ _ upd_same) .nil,(same_new hls (.lst [.ref e])) _ _ upd_same,Rise.nil,rfl,fun sts' v p=>p⟩ (fun k σ Hc _ ⟨_,_,_,_,_,_,_,_,sm,_⟩=>SqL.of (sm _ _ hl)) ?_ ?_⟩
 ·refine fun k x σ Hc T hx hI_1 hT=>opq fun G_1 hG_1=>?_
  obtain ⟨ss,sts,r,st,v5,v6,v7,rfl,sm,hlc,N,hrc,fit,lk,go⟩:=hI_1
  refine hG_1 ?_
  have lfit:=fit.len
  obtain ⟨mv,hmv,rfl⟩:=get_ref hx
  obtain ⟨⟨word,wk⟩,hm,hH⟩:=paired_get M hmv
  have hk:=(List.getElem?_eq_some_iff.mp hm).1
  obtain ⟨hw,wk0,wk1⟩:=hms _ (List.mem_of_getElem? hm)
  dsimp only at hw wk0 wk1 hH
  have ed:ms.drop k=(word,wk)::ms.drop (k+1):=by
   obtain ⟨hk',e⟩:=List.getElem?_eq_some_iff.mp hm
   rw [List.drop_eq_getElem_cons hk',e]
  have hwn:wk.toNat<net.length:=by omega
  have hns:=List.getElem?_eq_getElem hwn
  have lns:=(wf wk.toNat _ hns).len
  generalize net[wk.toNat]=ns at hns lns
  have ewd:wd net st rooms (word,wk)=wordOf ns st rooms word wk:=by unfold wd;rw [hns];rfl
  have sT:=same_new hT (.tup [.int (k:Int),.ref mv])
  refine ⟨T,_,rfl,SqT.of upd_same,rfl,_,_,rfl,_,_,rfl,rfl,?_⟩
  generalize upd Hc T (.tup [.int (k:Int),.ref mv])=Hd at sT ⊢
  refine ⟨_,rfl,_,rfl,_,rfl,_,rfl,a,r,mv,net,st,ns,rooms,wk,word,rfl,hN.same (sm.trans sT),sT _ _ hrc,by omega,(sm.trans sT) _ _ hH,hw,wk0,hns,by omega,fun H2 sm2=>?_⟩
  have s2:=sT.trans sm2
  rcases wordOf_kind ns st rooms word wk with e | ⟨w0,e⟩
  ·rw [e]
   refine ⟨_,rfl,_,rfl,?_⟩
   rw [decide_eq_true (rfl:V.non=V.non)]
   refine ⟨_,rfl,_,rfl,r,mv,st,word,wk,rfl,s2 _ _ hrc,by omega,(sm.trans s2) _ _ hH,hw,fun r' st' H3 sm3 gr bh=>?_⟩
   have s3:=s2.trans sm3
   have hl3:=s3 _ _ hlc
   have lss:=Paired.length N
   rw [List.length_cons] at lss
   refine ⟨_,rfl,.inl ⟨rfl,_,SqL.of hl3⟩,_,rfl,ls,_,_,rfl,rfl,hl3,small_n (by rw [List.length_map];omega),?_⟩
   rw [map_snoc]
   have N3:NetL H3 (ss++[r']) ([]::(sts++[st'])):=Paired.snoc (NetL.sm N s3) gr
   refine ⟨ss++[r'],sts++[st'],r',st',_,_,_,rfl,same_put (sm.trans s3) fls,upd_same,NetL.put N3 hl3,?_,beh_rise fit hw wk0 wk1 (fun ew=>((wd_inv hw (ewd.trans e)).1 ew).1) bh,by rw [List.length_append,List.length_singleton,lk],fun sts' v p=>?_⟩
   ·rw [upd_ne (ne_of gr hl3 (by intro z;cases z))]
    exact gr
   ·rw [List.append_assoc]
    exact go (st'::sts') v (by rw [ed];exact .go (ewd.trans e) bh p)
  ·rw [e]
   refine ⟨_,rfl,_,rfl,?_⟩
   rw [decide_eq_false (show ¬ V.str w0=V.non from fun z=>nomatch z)]
   refine ⟨_,rfl,_,rfl,fun x hx=>⟨x,.int (k:Int),.str w0,rfl,upd_same,fun dx hdx nx=>?_⟩⟩
   rw [upd_ne nx] at hdx
   refine ⟨rfl,some dx,upd H2 dx (XDic dx (xfs (.int (k:Int)) (.str w0))),(upd_norm nx),by rw [upd_ne nx.symm];exact hx,?_⟩
   have pl:=go [] (.str w0) (by rw [ed];exact .stop (ewd.trans e))
   rw [List.append_nil] at pl
   exact qE sts w0 dx _ ((sm.trans s2).trans (same_new hdx _)) pl (by rw [lk];exact upd_same)
 ·refine fun σ Hc hI_2=>opq fun G_2 hG_2=>?_
  obtain ⟨ss,sts,r,st,v5,v6,v7,rfl,sm,hlc,N,hrc,fit,lk,go⟩:=hI_2
  refine hG_2 ?_
  have pl:=go [] .non (by rw [List.length_map,lrs,List.drop_length];exact .nil)
  rw [List.append_nil] at pl
  exact ⟨_,rfl,q ls sts Hc sm pl fls ⟨ss,hlc,N⟩⟩
end
end Fw
set_option maxHeartbeats 0
namespace Fw
open PySem L2
section
variable {P:Program} {w:World} {K:PySem.W.Frag} {mg:Str→Option Value} {base:Heap} {f:Addr} {fd:FuncData} {f_Lword f_Lbehind:Addr} {fd_Lword fd_Lbehind:FuncData}
theorem sc_Lplayed:FnScope ["_law_net_here","_law_rooms","_law_plan","_law_stands","_law_move","_law_word_here"] ["_law_net_here","_law_rooms","_law_plan"] (defScope s_Lplayed):=⟨rfl,rfl,rfl,by decide +kernel,rfl,by decide +kernel,by decide +kernel⟩
theorem ok_Lplayed (F:Fun K "_law_played" "_law_played" s_Lplayed f fd)
  (G_Lword:FnOk P w K mg base CX0 1 f_Lword fd_Lword ["_law_net_here","_law_rooms","_law_stand","_law_move"] spFault) (b_Lword:Binds K fd_Lword ["_law_net_here","_law_rooms","_law_stand","_law_move"] []) (k_Lword:PySem.W.keepIn K (.ref f_Lword)=true) (m_Lword:mg "_law_word" = some (.ref f_Lword))
  (G_Lbehind:FnOk P w K mg base CX0 1 f_Lbehind fd_Lbehind ["_law_stand","_law_move"] spBehindS) (b_Lbehind:Binds K fd_Lbehind ["_law_stand","_law_move"] []) (k_Lbehind:PySem.W.keepIn K (.ref f_Lbehind)=true) (m_Lbehind:mg "_law_behind" = some (.ref f_Lbehind)):FnOk P w K mg base CX0 2 f fd ["_law_net_here","_law_rooms","_law_plan"] spPlayL2:=by
 refine F.ok sc_Lplayed (fun vs H Q E h=>?_) (fun cdv A outer s H vs Q E hr h=>?_)
 ·obtain ⟨a,l,net,ms,rooms,rfl,_⟩:=h
  rfl
 obtain ⟨a,l,net,ms,rooms,rfl,⟨hN,wf,n400,⟨rs,hl,M⟩,l10,hms,r0,r500⟩,q⟩:=h
 have hr_Lword:Room 1 _:=hr
 have hr_Lbehind:Room 1 _:=hr
 refine ⟨_,(pss_cons (ps_set (i:=3) sc_Lplayed.nd rfl (Or.inl rfl) (pe_lst (pa_cons (pe_tup pa_nil) pa_nil))) (pss_cons (ps_for PassesOwn.never rfl (pi_list (pv 2)) (pg_name (i:=4) sc_Lplayed.nd rfl (Or.inl rfl)) (pss_cons (ps_set (i:=5) sc_Lplayed.nd rfl (Or.inl rfl) (pe_call G_Lword hr_Lword rfl m_Lword k_Lword b_Lword .nil pass0 (pa_cons (pv 0) (pa_cons (pv 1) (pa_cons (pe_ix ix_list (pv 3) (pe_un un_neg pe_int) (fun _ _=>rfl)) (pa_cons (pv 4) pa_nil)))))) (pss_cons (ps_if (pt_cmp (pc_notN (pv 5))) (pss_one (ps_ret (pe_tup (pa_cons (pv 3) (pa_cons (pv 5) pa_nil))))) pss_nil) (pss_one (ps_expr (pe_bm PySem.F.plainAttrs_list PySem.F.slot_list_append PySem.F.type_list_append mt_append (pv 3) (pa_cons (pe_call G_Lbehind hr_Lbehind rfl m_Lbehind k_Lbehind b_Lbehind .nil pass0 (pa_cons (pe_ix ix_list (pv 3) (pe_un un_neg pe_int) (fun _ _=>rfl)) (pa_cons (pv 4) pa_nil))) pa_nil))))))) (pss_one (ps_ret (pe_tup (pa_cons (pv 3) (pa_cons pe_non pa_nil))))))),?_⟩
 try dsimp only [Cx.nox,Cx.wish,cxOf]
 have lrs:=Paired.length M
 refine ⟨(by show 0≤sizeLine;decide),fun e he=>⟨(by show 1≤sizeLine;decide),fun ls hls=>?_⟩⟩
 have s1:=same_new he (.tup [])
 have s2:=s1.trans (same_new hls (.lst [.ref e]))
 have fls:H ls=none:=s1.free hls
 refine ⟨_,rfl,l,rfl,⟨_,SqL.of (s2 _ _ hl)⟩,for_list (a:=l) (xs:=rs.map V.ref) (fun k σ Hc=>∃ (ss:List Addr) (r:Addr) (sts:List (List Int)) (st:List Int) (v4 v5:Option V),σ=[some (.ref a),some (.int rooms),some (.ref l),some (.ref ls),v4,v5]∧Same H Hc∧Hc ls=some (.lst ((ss++[r]).map V.ref))∧NetL Hc (ss++[r]) ([]::sts)∧Hc r=some (.tup (st.map V.int))∧Rise (net.length:Int) st∧sts.length=k∧∀ sts' v,Play net rooms st (ms.drop k) sts' v→Play net rooms [] ms (sts++sts') v)
  ⟨[],e,[],[],none,none,rfl,s2,upd_same,.cons ((same_new hls (.lst [.ref e])) _ _ upd_same) .nil,(same_new hls (.lst [.ref e])) _ _ upd_same,Rise.nil,rfl,fun sts' v p=>p⟩ (fun k σ Hc _ ⟨_,_,_,_,_,_,_,sm,_⟩=>SqL.of (sm _ _ hl)) ?_ ?_⟩
 ·refine fun k x σ Hc hx hI_1=>opq fun G_1 hG_1=>?_
  obtain ⟨ss,r,sts,st,v4,v5,rfl,sm,hlc,N,hrc,fit,lk,go⟩:=hI_1
  refine hG_1 ?_
  have lfit:=fit.len
  obtain ⟨mv,hmv,rfl⟩:=get_ref hx
  obtain ⟨⟨word,wk⟩,hm,hH⟩:=paired_get M hmv
  have hk:=(List.getElem?_eq_some_iff.mp hm).1
  obtain ⟨hw,wk0,wk1⟩:=hms _ (List.mem_of_getElem? hm)
  dsimp only at hw wk0 wk1 hH
  have ed:ms.drop k=(word,wk)::ms.drop (k+1):=by
   obtain ⟨hk',e⟩:=List.getElem?_eq_some_iff.mp hm
   rw [List.drop_eq_getElem_cons hk',e]
  have hwn:wk.toNat<net.length:=by omega
  have hns:=List.getElem?_eq_getElem hwn
  have lns:=(wf wk.toNat _ hns).len
  generalize net[wk.toNat]=ns at hns lns
  have ewd:wd net st rooms (word,wk)=wordOf ns st rooms word wk:=by unfold wd;rw [hns];rfl
  have lss:=Paired.length N
  rw [List.length_cons] at lss
  have lastx:atI ((ss++[r]).map V.ref) (-1)=some (.ref r):=by rw [List.map_append];exact atI_last _ _
  refine ⟨_,rfl,_,rfl,_,rfl,_,rfl,ls,_,_,_,rfl,rfl,SqL.of hlc,lastx,_,rfl,a,r,mv,net,st,ns,rooms,wk,word,rfl,hN.same sm,hrc,by omega,sm _ _ hH,hw,wk0,hns,by omega,fun H2 sm2=>?_⟩
  rcases wordOf_kind ns st rooms word wk with e | ⟨w0,e⟩
  ·rw [e]
   refine ⟨_,rfl,_,rfl,?_⟩
   rw [decide_eq_true (rfl:V.non=V.non)]
   refine ⟨_,rfl,.inl ⟨rfl,_,SqL.of (sm2 _ _ hlc)⟩,_,rfl,_,rfl,ls,_,_,_,rfl,rfl,SqL.of (sm2 _ _ hlc),lastx,_,rfl,r,mv,st,word,wk,rfl,sm2 _ _ hrc,by omega,sm2 _ _ (sm _ _ hH),hw,fun r' st' H3 sm3 gr bh=>?_⟩
   have s3:=sm2.trans sm3
   have hl3:=s3 _ _ hlc
   have fit':=beh_rise fit hw wk0 wk1 (fun ew=>((wd_inv hw (ewd.trans e)).1 ew).1) bh
   refine ⟨ls,_,_,rfl,rfl,hl3,small_n (by rw [List.length_map];omega),?_⟩
   rw [map_snoc]
   have N3:NetL H3 (ss++[r]++[r']) ([]::(sts++[st'])):=Paired.snoc (NetL.sm N s3) gr
   refine ⟨ss++[r],r',sts++[st'],st',_,_,rfl,same_put (sm.trans s3) fls,upd_same,NetL.put N3 hl3,?_,fit',by rw [List.length_append,List.length_singleton,lk],fun sts' v p=>?_⟩
   ·rw [upd_ne (ne_of gr hl3 (by intro z;cases z))]
    exact gr
   ·rw [List.append_assoc]
    exact go (st'::sts') v (by rw [ed];exact .go (ewd.trans e) bh p)
  ·rw [e]
   refine ⟨_,rfl,_,rfl,?_⟩
   rw [decide_eq_false (show ¬ V.str w0=V.non from fun z=>nomatch z)]
   refine ⟨_,rfl,_,rfl,(by show 2≤sizeLine;decide),fun T hT=>?_⟩
   have sT:=same_new hT (.tup [.ref ls,.str w0])
   have pl:=go [] (.str w0) (by rw [ed];exact .stop (ewd.trans e))
   rw [List.append_nil] at pl
   exact q T ls sts (.str w0) _ ((sm.trans sm2).trans sT) pl upd_same fls ((StandsAt.same ⟨_,hlc,N⟩ sm2).same sT) (by omega)
 ·refine fun σ Hc hI_2=>opq fun G_2 hG_2=>?_
  obtain ⟨ss,r,sts,st,v4,v5,rfl,sm,hlc,N,hrc,fit,lk,go⟩:=hI_2
  refine hG_2 ?_
  rw [List.length_map,lrs] at lk
  have pl:=go [] .non (by rw [List.length_map,lrs,List.drop_length];exact .nil)
  rw [List.append_nil] at pl
  refine ⟨_,rfl,(by show 2≤sizeLine;decide),fun T hT=>?_⟩
  have sT:=same_new hT (.tup [.ref ls,.non])
  exact q T ls sts .non _ (sm.trans sT) pl upd_same fls (StandsAt.same ⟨_,hlc,N⟩ sT) (by omega)
end
end Fw
set_option maxHeartbeats 0
namespace Fw
open PySem L2
section
variable {P:Program} {w:World} {K:PySem.W.Frag} {mg:Str→Option Value} {base:Heap} {f:Addr} {fd:FuncData} {f_Ltake:Addr} {fd_Ltake:FuncData}
theorem sc_Lnext_work:FnScope ["_law_state","_law_net_here","_law_stand","_law_work","_law_lacking"] ["_law_state","_law_net_here","_law_stand"] (defScope s_Lnext_work):=⟨rfl,rfl,rfl,by decide +kernel,rfl,by decide +kernel,by decide +kernel⟩
theorem ok_Lnext_work (F:Fun K "_law_next_work" "_law_next_work" s_Lnext_work f fd)
  (G_Ltake:FnOk P w K mg base CX0 1 f_Ltake fd_Ltake ["_law_state","_law_many"] spTake) (b_Ltake:Binds K fd_Ltake ["_law_state","_law_many"] []) (k_Ltake:PySem.W.keepIn K (.ref f_Ltake)=true) (m_Ltake:mg "_law_take" = some (.ref f_Ltake))
  (z_len:mg "len" = none):FnOk P w K mg base CX0 2 f fd ["_law_state","_law_net_here","_law_stand"] spNextW2:=by
 refine F.ok sc_Lnext_work (fun vs H Q E h=>?_) (fun cdv A outer s H vs Q E hr h=>?_)
 ·obtain ⟨d,c,t,ns,a,so,net,st,rfl,_⟩:=h
  rfl
 obtain ⟨d,c,t,ns,a,so,net,st,rfl,S,ht,hN,wf,n1,n400,hst,q⟩:=h
 have hu0:=hr.units0
 have hr_Ltake:Room 1 _:=hr
 refine ⟨_,(pss_cons (ps_set (i:=3) sc_Lnext_work.nd rfl (Or.inl rfl) (pe_call G_Ltake hr_Ltake rfl m_Ltake k_Ltake b_Ltake .nil pass0 (pa_cons (pv 0) (pa_cons (pe_callB call_len_seq rfl z_len bt_len (pa_cons (pv 1) pa_nil)) pa_nil)))) (pss_cons (ps_lc (i:=4) sc_Lnext_work.nd rfl rfl rfl (lcs (own:=["_law_need"]) (fv:=[2]) (by kernel_rfl)) (pi_tup (pe_ix ix_tup (pv 1) (pv 3) (fun _ _=>rfl))) (fun z1=>pg_name (i:=0) (nd_of (by kernel_rfl)) rfl (Or.inl rfl)) (fun z1=>(pts_one (pt_cmpR (op_notInK (K:=K) rfl) (pv 0) (pv 1) (by with_unfolding_all rfl)))) (fun z1=>(pv 0)) (by kernel_rfl)) (pss_cons (ps_while PassesOwn.never (pt_cmpR (op_ne_nil hu0) (pv 4) (pe_lst pa_nil) (nomark _)) (pss_cons (ps_set (i:=3) sc_Lnext_work.nd rfl (Or.inl rfl) (pe_ix ix_list (pv 4) (pe_call G_Ltake hr_Ltake rfl m_Ltake k_Ltake b_Ltake .nil pass0 (pa_cons (pv 0) (pa_cons (pe_callB call_len_seq rfl z_len bt_len (pa_cons (pv 4) pa_nil)) pa_nil))) (fun _ _=>rfl))) (pss_one (ps_lc (i:=4) sc_Lnext_work.nd rfl rfl rfl (lcs (own:=["_law_need"]) (fv:=[2]) (by kernel_rfl)) (pi_tup (pe_ix ix_tup (pv 1) (pv 3) (fun _ _=>rfl))) (fun z2=>pg_name (i:=0) (nd_of (by kernel_rfl)) rfl (Or.inl rfl)) (fun z2=>(pts_one (pt_cmpR (op_notInK (K:=K) rfl) (pv 0) (pv 1) (by with_unfolding_all rfl)))) (fun z2=>(pv 0)) (by kernel_rfl))))) (pss_one (ps_ret (pv 3)))))),?_⟩
 try dsimp only [Cx.nox,Cx.wish,cxOf]
 have ht':t≤1000000000 - 1000:=ht
 obtain ⟨rs,hA,NL⟩:=id hN
 have lrv:(((rs.map V.ref).length:Nat):Int)=(net.length:Int):=by rw [List.length_map,Paired.length NL]
 have na:=S.tup hA
 have ns':=S.tup hst
 refine ⟨_,rfl,_,rfl,a,_,rfl,.inr (SqT.of hA),d,c,t,ns,_,rfl,S,(by show t≤1000000000;omega),by rw [lrv];omega,by rw [lrv];omega,fun wk ns1 H1 w0 w1 S1 K1=>?_⟩
 rw [lrv] at w1
 have hA1:=K1 _ _ hA na.1 na.2
 have hs1:=K1 _ _ hst ns'.1 ns'.2
 have NL1:NetL H1 rs net:=NL.keep (fun r zs e=>S.tup e) K1
 have hi':wk.toNat<net.length:=by omega
 obtain ⟨r,h3,h4⟩:=NL1.get (List.getElem?_eq_getElem hi')
 have rz:=wf wk.toNat _ (List.getElem?_eq_getElem hi')
 have en:nd net wk=net[wk.toNat]:=nd_of_get (List.getElem?_eq_getElem hi')
 generalize net[wk.toNat]=zs at h4 rz en
 have lz:=rz.len
 refine ⟨_,rfl,_,rfl,a,_,_,_,rfl,rfl,SqT.of hA1,get_at w0 (by rw [List.getElem?_map,h3];rfl),r,rfl,⟨_,SqT.of h4⟩,fun p hp=>?_⟩
 refine lc_tup (p:=p) (a:=r) (xs:=zs.map V.int) (fun j σ Hd=>∃ (v:Option V) (fs:List Int),σ=[v,some (.ref so)]∧Same H1 Hd∧Hd p=some (.lst (fs.map V.int))∧fs.length≤j∧(∀ x ∈ fs,0≤x∧x<wk)∧∀ x ∈ zs.take j,x ∉ st→x ∈ fs) ?_ ?_ ?_ ?_
 ·exact ⟨none,[],rfl,same_new hp _,upd_same,Nat.le_refl _,(fun _ z=>nomatch z),fun x hx=>by simp at hx⟩
 ·rintro j σ Hd hj ⟨v,fs,rfl,sm,_⟩
  exact SqT.of (sm _ _ h4)
 ·refine fun j x σ Hd hx hI_2=>opq fun G_2 hG_2=>?_
  obtain ⟨v,fs,rfl,sm,hpd,lf,inf,cpl⟩:=hI_2
  obtain ⟨z,ez,rfl⟩:=get_int hx
  refine hG_2 ?_
  have hj:=(List.getElem?_eq_some_iff.mp ez).1
  have zin:=rz.in_ z (List.mem_of_getElem? ez)
  refine ⟨_,rfl,_,rfl,so,_,rfl,.inr (SqT.of (sm _ _ hs1)),rfl,flat_ints st,_,rfl,?_⟩
  rw [inV_int]
  by_cases cz:z ∈ st
  ·rw [decide_eq_true cz]
   refine ⟨_,fs,rfl,sm,hpd,by omega,inf,fun x hx hn=>?_⟩
   rw [List.take_add_one,ez,Option.toList_some,List.mem_append,List.mem_singleton] at hx
   rcases hx with hx | hx
   ·exact cpl x hx hn
   ·rw [hx] at hn;exact absurd cz hn
  ·rw [decide_eq_false cz]
   refine ⟨_,rfl,_,hpd,small1000 (by rw [List.length_map];omega),_,fs++[z],rfl,same_put sm hp,?_,by rw [List.length_append,List.length_singleton];omega,fun x hx=>?_,fun x hx hn=>?_⟩
   ·rw [upd_same,List.map_append];rfl
   ·rcases List.mem_append.mp hx with hx | hx
    ·exact inf x hx
    ·rw [List.mem_singleton.mp hx];omega
   ·rw [List.take_add_one,ez,Option.toList_some,List.mem_append,List.mem_singleton] at hx
    rcases hx with hx | hx
    ·exact List.mem_append.mpr (.inl (cpl x hx hn))
    ·rw [hx];simp
 refine fun σ Hd hI_3=>opq fun G_3 hG_3=>?_
 obtain ⟨v,fs,rfl,sm,hpd,lf,inf,cpl⟩:=hI_3
 refine hG_3 ?_
 rw [List.length_map] at lf cpl
 rw [take_all rfl,← en] at cpl
 have np:p ≠ d∧p ≠ c:=⟨(ne_of_none S1.dict hp).symm,(ne_of_none S1.list hp).symm⟩
 refine ⟨fun m σ Hc=>∃ (wk:Int) (p:Addr) (fs:List Int) (t1:Int) (ns:List Int),σ=[some (.ref d),some (.ref a),some (.ref so),some (.int wk),some (.ref p)]∧m=wk.toNat∧StAt Hc d c t1 ns∧t≤t1∧t1≤t+(net.length:Int) - wk∧Keep d c H Hc∧Hc p=some (.lst (fs.map V.int))∧(p ≠ d∧p ≠ c)∧fs.length≤400∧(∀ x ∈ fs,0≤x∧x<wk)∧(∀ x ∈ nd net wk,x ∉ st→x ∈ fs)∧0≤wk∧wk<(net.length:Int),⟨_,wk,p,fs,t+1,ns1,rfl,rfl,S1.same sm,by omega,by omega,K1.trans (.of_same sm),hpd,np,by omega,inf,cpl,w0,w1⟩,?_⟩
 refine fun m σ Hc hI_4=>opq fun G_4 hG_4=>?_
 obtain ⟨wk,p,fs,t1,ms,rfl,rfl,S2,g1,g2,K2,hp2,np,lf,inf,cpl,w0,w1⟩:=hI_4
 refine hG_4 ?_
 refine ⟨_,rfl,(by show 0≤sizeLine;decide),fun l0 hl0=>?_⟩
 have s0:=same_new hl0 (.lst [])
 have g0:(upd Hc l0 (.lst [])) l0=some (.lst []):=upd_same
 generalize upd Hc l0 (.lst [])=H3 at s0 g0 ⊢
 have S3:=S2.same s0
 have K3:=K2.trans (.of_same s0)
 have hp3:=s0 _ _ hp2
 refine ⟨p,l0,_,rfl,rfl,SqL.of hp3,SqL.of g0,_,rfl,?_⟩
 refine ite2 (fun cn=>?_) (fun cn=>?_)
 ·have fne:fs ≠ []:=fun z=>by rw [z] at cn;cases cn
  have fpos:0<fs.length:=List.length_pos_iff.mpr fne
  refine ⟨fun σ' H'=>∃ m',m'<wk.toNat∧_,fun σ' H' z=>z,?_⟩
  refine ⟨_,rfl,_,rfl,_,rfl,p,_,rfl,.inl (SqL.of hp3),d,c,t1,ms,_,rfl,S3,(by show t1≤1000000000;omega),by rw [List.length_map];omega,by rw [List.length_map];omega,fun k ms2 H4 k0 k1 S4 K4=>?_⟩
  rw [List.length_map] at k1
  have hk:k.toNat<fs.length:=by omega
  have hz:=List.getElem?_eq_getElem hk
  have zin:=inf _ (List.mem_of_getElem? hz)
  generalize fs[k.toNat]=y at hz zin
  refine ⟨p,_,_,_,rfl,rfl,SqL.of (K4 _ _ hp3 np.1 np.2),get_at k0 (by rw [List.getElem?_map,hz];rfl),?_⟩
  have K5:=K3.trans K4
  have hA1:=K5 _ _ hA na.1 na.2
  have hs1:=K5 _ _ hst ns'.1 ns'.2
  have NL1:NetL H4 rs net:=NL.keep (fun r zs e=>S.tup e) K5
  have hi':y.toNat<net.length:=by omega
  obtain ⟨r,h3,h4⟩:=NL1.get (List.getElem?_eq_getElem hi')
  have rz:=wf y.toNat _ (List.getElem?_eq_getElem hi')
  have en:nd net y=net[y.toNat]:=nd_of_get (List.getElem?_eq_getElem hi')
  generalize net[y.toNat]=zs at h4 rz en
  have lz:=rz.len
  refine ⟨_,rfl,_,rfl,a,_,_,_,rfl,rfl,SqT.of hA1,get_at zin.1 (by rw [List.getElem?_map,h3];rfl),r,rfl,⟨_,SqT.of h4⟩,fun p5 hp5=>?_⟩
  refine lc_tup (p:=p5) (a:=r) (xs:=zs.map V.int) (fun j σ Hd=>∃ (v:Option V) (gs:List Int),σ=[v,some (.ref so)]∧Same H4 Hd∧Hd p5=some (.lst (gs.map V.int))∧gs.length≤j∧(∀ x ∈ gs,0≤x∧x<y)∧∀ x ∈ zs.take j,x ∉ st→x ∈ gs) ?_ ?_ ?_ ?_
  ·exact ⟨none,[],rfl,same_new hp5 _,upd_same,Nat.le_refl _,(fun _ z=>nomatch z),fun x hx=>by simp at hx⟩
  ·rintro j σ Hd hj ⟨v,gs,rfl,sm,_⟩
   exact SqT.of (sm _ _ h4)
  ·refine fun j x σ Hd hx hI_6=>opq fun G_6 hG_6=>?_
   obtain ⟨v,gs,rfl,sm,hpd,lg,ing,cpg⟩:=hI_6
   obtain ⟨z,ez,rfl⟩:=get_int hx
   refine hG_6 ?_
   have hj:=(List.getElem?_eq_some_iff.mp ez).1
   have zin2:=rz.in_ z (List.mem_of_getElem? ez)
   refine ⟨_,rfl,_,rfl,so,_,rfl,.inr (SqT.of (sm _ _ hs1)),rfl,flat_ints st,_,rfl,?_⟩
   rw [inV_int]
   by_cases cz:z ∈ st
   ·rw [decide_eq_true cz]
    refine ⟨_,gs,rfl,sm,hpd,by omega,ing,fun x hx hn=>?_⟩
    rw [List.take_add_one,ez,Option.toList_some,List.mem_append,List.mem_singleton] at hx
    rcases hx with hx | hx
    ·exact cpg x hx hn
    ·rw [hx] at hn;exact absurd cz hn
   ·rw [decide_eq_false cz]
    refine ⟨_,rfl,_,hpd,small1000 (by rw [List.length_map];omega),_,gs++[z],rfl,same_put sm hp5,?_,by rw [List.length_append,List.length_singleton];omega,fun x hx=>?_,fun x hx hn=>?_⟩
    ·rw [upd_same,List.map_append];rfl
    ·rcases List.mem_append.mp hx with hx | hx
     ·exact ing x hx
     ·rw [List.mem_singleton.mp hx];omega
    ·rw [List.take_add_one,ez,Option.toList_some,List.mem_append,List.mem_singleton] at hx
     rcases hx with hx | hx
     ·exact List.mem_append.mpr (.inl (cpg x hx hn))
     ·rw [hx];simp
  refine fun σ Hd hI_7=>opq fun G_7 hG_7=>?_
  obtain ⟨v,gs,rfl,sm,hpd,lg,ing,cpg⟩:=hI_7
  refine hG_7 ?_
  rw [List.length_map] at lg cpg
  rw [take_all rfl,← en] at cpg
  have np5:p5 ≠ d∧p5 ≠ c:=⟨(ne_of_none S4.dict hp5).symm,(ne_of_none S4.list hp5).symm⟩
  exact ⟨y.toNat,by omega,y,p5,gs,t1+1,ms2,rfl,rfl,S4.same sm,by omega,by omega,K5.trans (.of_same sm),hpd,np5,by omega,ing,cpg,zin.1,by omega⟩
 ·have fe:fs=[]:=by
   cases fs with
   | nil=>rfl
   | cons x xs=>exact absurd rfl cn
  refine ⟨_,rfl,q wk t1 ms H3 S3 (by omega) (by omega) K3 w0 w1 fun y hy=>?_⟩
  rcases Classical.em (y ∈ st) with h | h
  ·exact h
  ·have:=cpl y hy h
   rw [fe] at this
   cases this
end
end Fw
set_option maxHeartbeats 0
namespace Fw
open PySem L2
section
variable {P:Program} {w:World} {K:PySem.W.Frag} {mg:Str→Option Value} {base:Heap} {f:Addr} {fd:FuncData} {f_Ltake f_Lnext_work f_Lbehind:Addr} {fd_Ltake fd_Lnext_work fd_Lbehind:FuncData}
theorem sc_Lwalk:FnScope ["_law_state","_law_net_here","_law_rooms","_law_many","_law_plan","_law_stand","_law_turn","_law_work","_law_move"] ["_law_state","_law_net_here","_law_rooms","_law_many"] (defScope s_Lwalk):=⟨rfl,rfl,rfl,by decide +kernel,rfl,by decide +kernel,by decide +kernel⟩
theorem ok_Lwalk (F:Fun K "_law_walk" "_law_walk" s_Lwalk f fd) (G_Ltake:FnOk P w K mg base CX0 1 f_Ltake fd_Ltake ["_law_state","_law_many"] spTake) (b_Ltake:Binds K fd_Ltake ["_law_state","_law_many"] []) (k_Ltake:PySem.W.keepIn K (.ref f_Ltake)=true) (m_Ltake:mg "_law_take" = some (.ref f_Ltake)) (G_Lnext_work:FnOk P w K mg base CX0 2 f_Lnext_work fd_Lnext_work ["_law_state","_law_net_here","_law_stand"] spNextW2) (b_Lnext_work:Binds K fd_Lnext_work ["_law_state","_law_net_here","_law_stand"] []) (k_Lnext_work:PySem.W.keepIn K (.ref f_Lnext_work)=true) (m_Lnext_work:mg "_law_next_work" = some (.ref f_Lnext_work)) (G_Lbehind:FnOk P w K mg base CX0 1 f_Lbehind fd_Lbehind ["_law_stand","_law_move"] spBehindS) (b_Lbehind:Binds K fd_Lbehind ["_law_stand","_law_move"] []) (k_Lbehind:PySem.W.keepIn K (.ref f_Lbehind)=true) (m_Lbehind:mg "_law_behind" = some (.ref f_Lbehind)) (z_range:mg "range" = none) (z_len:mg "len" = none):FnOk P w K mg base CX0 3 f fd ["_law_state","_law_net_here","_law_rooms","_law_many"] spWalk2:=by
 refine F.ok sc_Lwalk (fun vs H Q E h=>?_) (fun cdv A outer s H vs Q E hr h=>?_)
 ·obtain ⟨d,c,t,ns,a,net,rooms,many,rfl,_⟩:=h
  rfl
 obtain ⟨d,c,t,ns,a,net,rooms,many,rfl,S,ht,hN,wf,n1,n60,r1,m0,m250,q⟩:=h
 have hr_Ltake:Room 1 _:=hr.mono (by decide)
 have hr_Lnext_work:Room 2 _:=hr.mono (by decide)
 have hr_Lbehind:Room 1 _:=hr.mono (by decide)
 refine ⟨_,(pss_cons (ps_set (i:=4) sc_Lwalk.nd rfl (Or.inl rfl) (pe_lst pa_nil)) (pss_cons (ps_set (i:=5) sc_Lwalk.nd rfl (Or.inl rfl) (pe_tup pa_nil)) (pss_cons (ps_for PassesOwn.never rfl (pi_range1 rfl z_range (pa_cons (pv 3) pa_nil)) (pg_name (i:=6) sc_Lwalk.nd rfl (Or.inl rfl)) (pss_cons (ps_set (i:=7) sc_Lwalk.nd rfl (Or.inl rfl) (pe_call G_Lnext_work hr_Lnext_work rfl m_Lnext_work k_Lnext_work b_Lnext_work .nil pass0 (pa_cons (pv 0) (pa_cons (pv 1) (pa_cons (pv 5) pa_nil))))) (pss_cons (ps_set (i:=8) sc_Lwalk.nd rfl (Or.inl rfl) (pe_ifExp (pt_cmpR op_in_seq (pv 7) (pv 5) (by with_unfolding_all rfl)) (pe_tup (pa_cons pe_str (pa_cons (pv 7) pa_nil))) (pe_tup (pa_cons pe_str (pa_cons (pv 7) pa_nil))))) (pss_cons (ps_if (PW.pt (pw_and (pt_cmpR op_ge (pe_callB call_len_seq rfl z_len bt_len (pa_cons (pv 5) pa_nil)) (pv 2) (nomark _)) (pw_and1 (pt_cmpR op_eq (pe_ix ix_tup (pv 8) pe_int (fun _ _=>rfl)) pe_str (nomark _))))) (pss_one (ps_set (i:=8) sc_Lwalk.nd rfl (Or.inl rfl) (pe_tup (pa_cons pe_str (pa_cons (pe_ix ix_tup (pv 5) (pe_call G_Ltake hr_Ltake rfl m_Ltake k_Ltake b_Ltake .nil pass0 (pa_cons (pv 0) (pa_cons (pe_callB call_len_seq rfl z_len bt_len (pa_cons (pv 5) pa_nil)) pa_nil))) (fun _ _=>rfl)) pa_nil))))) pss_nil) (pss_cons (ps_expr (pe_bm PySem.F.plainAttrs_list PySem.F.slot_list_append PySem.F.type_list_append mt_append (pv 4) (pa_cons (pv 8) pa_nil))) (pss_one (ps_set (i:=5) sc_Lwalk.nd rfl (Or.inl rfl) (pe_call G_Lbehind hr_Lbehind rfl m_Lbehind k_Lbehind b_Lbehind .nil pass0 (pa_cons (pv 5) (pa_cons (pv 8) pa_nil)))))))))) (pss_one (ps_ret (pe_tup (pa_cons (pv 4) (pa_cons (pv 5) pa_nil)))))))),?_⟩
 try dsimp only [Cx.nox,Cx.wish,cxOf]
 have ht':t≤1000000000 - 200000:=ht
 refine cut fun N1 hN1=>?_
 refine ⟨(by show 0≤sizeLine;decide),fun l hl=>?_⟩
 refine hN1 _ _ (cut fun N2 hN2=>?_)
 refine ⟨(by show 0≤sizeLine;decide),fun e he=>?_⟩
 have nl:l ≠ d∧l ≠ c:=⟨(ne_of_none S.dict hl).symm,(ne_of_none S.list hl).symm⟩
 have s1:=(same_new hl (.lst [])).trans (same_new he (.tup []))
 have gl0:=(same_new he (.tup [])) _ _ (show (upd H l (.lst [])) l=some (.lst (([]:List Addr).map V.ref)) from upd_same)
 have ge0:(upd (upd H l (.lst [])) e (.tup [])) e=some (.tup (([]:List Int).map V.int)):=upd_same
 generalize upd (upd H l (.lst [])) e (.tup [])=H1 at s1 gl0 ge0 ⊢
 refine hN2 _ _ (cut fun N3 hN3=>?_)
 refine ⟨_,rfl,many,rfl,by omega,by omega,for_range (lo:=0) (n:=many.toNat) (fun i σ Hc=>∃ (rs:List Addr) (ms:List Mv) (so:Addr) (st:List Int) (t1:Int) (ns:List Int) (v6 v7 v8:Option V),σ=[some (.ref d),some (.ref a),some (.int rooms),some (.int many),some (.ref l),some (.ref so),v6,v7,v8]∧StAt Hc d c t1 ns∧t≤t1∧t1≤t+70 * i∧Keep d c H Hc∧Hc l=some (.lst (rs.map V.ref))∧MovL Hc rs ms∧MvOk net ms∧ms.length≤i∧Hc so=some (.tup (st.map V.int))∧Rise (net.length:Int) st∧Run net (net.length:Int) [] ms st)
  ⟨[],[],e,[],t,ns,none,none,none,rfl,S.same s1,by omega,by omega,.of_same s1,gl0,.nil,(fun _ z=>nomatch z),Nat.le_refl _,ge0,Rise.nil,.nil⟩ ?_ ?_⟩
 ·refine fun i σ Hc hi hI_1=>opq fun G_1 hG_1=>?_
  obtain ⟨rs,ms,so,st,t1,ns1,v6,v7,v8,rfl,S1,g1,g2,K1,hl1,M1,ok1,lms,hs1,rst,R⟩:=hI_1
  refine hG_1 ?_
  have lst:=rst.len
  refine cut fun N4 hN4=>?_
  refine ⟨_,rfl,_,rfl,_,rfl,d,c,t1,ns1,a,so,net,st,rfl,S1,(by show t1≤1000000000 - 1000;omega),hN.keep S K1,wf,n1,by omega,hs1,fun wk t2 ns2 H2 S2 g3 g4 K12 w0 w1 hneed=>?_⟩
  have K2:=K1.trans K12
  have hl2:=K12 _ _ hl1 nl.1 nl.2
  have M2:=MovL.keep M1 S1 K12
  have hs2:=K12 _ _ hs1 (S1.tup hs1).1 (S1.tup hs1).2
  refine hN4 _ _ (cut fun N5 hN5=>?_)
  -- the move is known
  have rest:∀ (mv:Addr) (word:Str) (Hx:Hp),Same H2 Hx→Hx mv=some (.tup [.str word,.int wk])→(word = "do"∨word = "clear")→(word = "do"→wk ∉ st)→(word = "clear"→wk ∈ st)→N5 [some (.ref d),some (.ref a),some (.int rooms),some (.int many),some (.ref l),some (.ref so),some (.int (0+(i:Int))),some (.int wk),some (.ref mv)] Hx:=by
   intro mv word Hx sx gmv hword hd hc
   refine hN5 _ _ (cut fun N6 hN6=>?_)
   have Sx:=S2.same sx
   have Kx:=K2.trans (.of_same sx)
   have hlx:=sx _ _ hl2
   have Mx:=M2.same sx
   have hsx:=sx _ _ hs2
   have fin:∀ (mv:Addr) (word:Str) (wk' t3:Int) (ns3:List Int) (Hy:Hp),StAt Hy d c t3 ns3→t1≤t3→t3≤t1+70→Keep d c H Hy→Hy l=some (.lst (rs.map V.ref))→MovL Hy rs ms→Hy so=some (.tup (st.map V.int))→Hy mv=some (.tup [.str word,.int wk'])→(word = "do"∨word = "clear")→0≤wk'→wk'<(net.length:Int)→(word = "do"→wk' ∉ st∧∀ y ∈ nd net wk',y ∈ st)→(word = "clear"→wk' ∈ st)→N6 [some (.ref d),some (.ref a),some (.int rooms),some (.int many),some (.ref l),some (.ref so),some (.int (0+(i:Int))),some (.int wk),some (.ref mv)] Hy:=by
    intro mv word wk' t3 ns3 Hy S3 g5 g6 K3 hl3 M3 hs3 gmv hword w0' w1' hd hc
    refine hN6 _ _ (cut fun N7 hN7=>?_)
    have lrs:=Paired.length M3
    refine ⟨_,rfl,.inl ⟨rfl,_,SqL.of hl3⟩,_,rfl,l,_,_,rfl,rfl,hl3,small_n (by rw [List.length_map];omega),?_⟩
    rw [map_snoc]
    have S4:=S3.put' (o:=.lst ((rs++[mv]).map V.ref)) nl.1 nl.2
    have K4:=keep_put (o:=.lst ((rs++[mv]).map V.ref)) K3 hl
    have gl4:(upd Hy l (.lst ((rs++[mv]).map V.ref))) l=some (.lst ((rs++[mv]).map V.ref)):=upd_same
    have M4:=MovL.put (o:=.lst ((rs++[mv]).map V.ref)) (M3.snoc gmv) hl3
    have hs4:(upd Hy l (.lst ((rs++[mv]).map V.ref))) so=some (.tup (st.map V.int)):=by rw [upd_ne (ne_of hs3 hl3 (by intro z;cases z))];exact hs3
    have gm4:(upd Hy l (.lst ((rs++[mv]).map V.ref))) mv=some (.tup [.str word,.int wk']):=by rw [upd_ne (ne_of gmv hl3 (by intro z;cases z))];exact gmv
    generalize upd Hy l (.lst ((rs++[mv]).map V.ref))=H4 at S4 K4 gl4 M4 hs4 gm4 ⊢
    refine hN7 _ _ ?_
    refine ⟨_,rfl,_,rfl,so,mv,st,word,wk',rfl,hs4,by omega,gm4,hword,fun r st' H5 sm5 gr bh=>?_⟩
    exact ⟨rs++[mv],ms++[(word,wk')],r,st',t3,ns3,_,_,_,rfl,S4.same sm5,by omega,by omega,K4.trans (.of_same sm5),sm5 _ _ gl4,M4.same sm5,ok1.app (MvOk.one hword w0' w1'),by rw [List.length_append,List.length_singleton];omega,gr,beh_rise rst hword w0' w1' (fun e=>(hd e).1) bh,run_snoc R rst hword w0' w1' hd hc bh⟩
   have asis:N6 [some (.ref d),some (.ref a),some (.int rooms),some (.int many),some (.ref l),some (.ref so),some (.int (0+(i:Int))),some (.int wk),some (.ref mv)] Hx:=fin mv word wk t2 ns2 Hx Sx (by omega) (by omega) Kx hlx Mx hsx gmv hword w0 w1 (fun e=>⟨hd e,hneed⟩) hc
   refine ⟨_,rfl,so,_,rfl,.inr (SqT.of hsx),_,rfl,_,_,rfl,rfl,_,rfl,?_⟩
   refine ite2 (fun cg=>?_) (fun cg=>asis)
   have cg':rooms≤(((st.map V.int).length:Nat):Int):=of_decide_eq_true cg
   rw [List.length_map] at cg'
   refine ⟨_,rfl,mv,_,_,_,rfl,rfl,SqT.of gmv,rfl,rfl,_,rfl,?_⟩
   refine ite2 (fun ck=>?_) (fun ck=>asis)
   refine ⟨_,rfl,_,rfl,_,rfl,so,_,rfl,.inr (SqT.of hsx),d,c,t2,ns2,_,rfl,Sx,(by show t2≤1000000000;omega),by rw [List.length_map];omega,by rw [List.length_map];omega,fun j ns3 H3 j0 j1 S3 K3=>?_⟩
   rw [List.length_map] at j1
   have hj:j.toNat<st.length:=by omega
   have ey:st[j.toNat]?=some st[j.toNat]:=List.getElem?_eq_getElem hj
   generalize st[j.toNat]=y at ey
   have yin:=List.mem_of_getElem? ey
   have yb:=rst.in_ y yin
   have hs3:=K3 _ _ hsx (Sx.tup hsx).1 (Sx.tup hsx).2
   refine ⟨so,_,_,_,rfl,rfl,SqT.of hs3,get_at j0 (by rw [List.getElem?_map,ey];rfl),(by show 2≤sizeLine;decide),fun mv2 hmv2=>?_⟩
   have sm2:=same_new hmv2 (.tup [.str "clear",.int y])
   exact fin mv2 "clear" y (t2+1) ns3 _ (S3.same sm2) (by omega) (by omega) ((Kx.trans K3).trans (.of_same sm2)) (sm2 _ _ (K3 _ _ hlx nl.1 nl.2)) ((MovL.keep Mx Sx K3).same sm2) (sm2 _ _ hs3) upd_same (.inr rfl) yb.1 yb.2 (fun z=>absurd z do_ne_clear) (fun _=>yin)
  refine ⟨_,rfl,_,rfl,so,_,rfl,.inr (SqT.of hs2),rfl,flat_ints st,_,rfl,?_⟩
  rw [inV_int]
  by_cases cw:wk ∈ st
  ·rw [decide_eq_true cw]
   refine ⟨_,rfl,(by show 2≤sizeLine;decide),fun mv hmv=>?_⟩
   exact rest mv "clear" _ (same_new hmv _) upd_same (.inr rfl) (fun z=>absurd z do_ne_clear) (fun _=>cw)
  ·rw [decide_eq_false cw]
   refine ⟨_,rfl,(by show 2≤sizeLine;decide),fun mv hmv=>?_⟩
   exact rest mv "do" _ (same_new hmv _) upd_same (.inl rfl) (fun _=>cw) (fun z=>absurd z.symm do_ne_clear)
 ·refine fun σ Hc hI_2=>opq fun G_2 hG_2=>?_
  obtain ⟨rs,ms,so,st,t1,ns1,v6,v7,v8,rfl,S1,g1,g2,K1,hl1,M1,ok1,lms,hs1,rst,R⟩:=hI_2
  refine hG_2 ?_
  refine hN3 _ _ ?_
  refine ⟨_,rfl,_,rfl,(by show 2≤sizeLine;decide),fun T hT=>?_⟩
  have sT:=same_new hT (.tup [.ref l,.ref so])
  exact q T l so ms st t1 ns1 _ (S1.same sT) g1 (by omega) (K1.trans (.of_same sT)) upd_same hl ⟨rs,sT _ _ hl1,M1.same sT⟩ ok1 (by omega) (sT _ _ hs1) rst R
end
end Fw
set_option maxHeartbeats 0
namespace Fw
open PySem L2
section
variable {P:Program} {w:World} {K:PySem.W.Frag} {mg:Str→Option Value} {base:Heap} {f:Addr} {fd:FuncData} {f_Ltake f_Lnet f_Lasked:Addr} {fd_Ltake fd_Lnet fd_Lasked:FuncData}
theorem sc_Lcase:FnScope ["_law_state","_law_many","_law_net_here"] ["_law_state"] (defScope s_Lcase):=⟨rfl,rfl,rfl,by decide +kernel,rfl,by decide +kernel,by decide +kernel⟩
theorem ok_Lcase (F:Fun K "_law_case" "_law_case" s_Lcase f fd)
  (G_Ltake:FnOk P w K mg base CX0 1 f_Ltake fd_Ltake ["_law_state","_law_many"] spTake) (b_Ltake:Binds K fd_Ltake ["_law_state","_law_many"] []) (k_Ltake:PySem.W.keepIn K (.ref f_Ltake)=true) (m_Ltake:mg "_law_take" = some (.ref f_Ltake))
  (G_Lnet:FnOk P w K mg base CX0 3 f_Lnet fd_Lnet ["_law_state","_law_many"] spNet) (b_Lnet:Binds K fd_Lnet ["_law_state","_law_many"] []) (k_Lnet:PySem.W.keepIn K (.ref f_Lnet)=true) (m_Lnet:mg "_law_net" = some (.ref f_Lnet))
  (G_Lasked:FnOk P w K mg base CX0 2 f_Lasked fd_Lasked ["_law_state","_law_net_here"] spAsked4) (b_Lasked:Binds K fd_Lasked ["_law_state","_law_net_here"] []) (k_Lasked:PySem.W.keepIn K (.ref f_Lasked)=true) (m_Lasked:mg "_law_asked" = some (.ref f_Lasked)):FnOk P w K mg base CX0 4 f fd ["_law_state"] spCase2:=by
 refine F.ok sc_Lcase (fun vs H Q E h=>?_) (fun cdv A outer s H vs Q E hr h=>?_)
 ·obtain ⟨d,c,t,ns,rfl,_⟩:=h
  rfl
 obtain ⟨d,c,t,ns,rfl,S,ht,q⟩:=h
 have hr_Ltake:Room 1 _:=hr.mono (by decide)
 have hr_Lnet:Room 3 _:=hr
 have hr_Lasked:Room 2 _:=hr.mono (by decide)
 refine ⟨_,(pss_cons (ps_set (i:=1) sc_Lcase.nd rfl (Or.inl rfl) (pe_op op_add pe_int (pe_call G_Ltake hr_Ltake rfl m_Ltake k_Ltake b_Ltake .nil pass0 (pa_cons (pv 0) (pa_cons pe_int pa_nil))))) (pss_cons (ps_join (ps_if (pt_cmpR op_eq (pe_call G_Ltake hr_Ltake rfl m_Ltake k_Ltake b_Ltake .nil pass0 (pa_cons (pv 0) (pa_cons pe_int pa_nil))) pe_int (nomark _)) (pss_one (ps_set (i:=1) sc_Lcase.nd rfl (Or.inl rfl) (pe_op op_add pe_int (pe_call G_Ltake hr_Ltake rfl m_Ltake k_Ltake b_Ltake .nil pass0 (pa_cons (pv 0) (pa_cons pe_int pa_nil)))))) pss_nil)) (pss_cons (ps_set (i:=2) sc_Lcase.nd rfl (Or.inl rfl) (pe_call G_Lnet hr_Lnet rfl m_Lnet k_Lnet b_Lnet .nil pass0 (pa_cons (pv 0) (pa_cons (pv 1) pa_nil)))) (pss_one (ps_ret (pe_tup (pa_cons (pv 2) (pa_cons (pe_call G_Lasked hr_Lasked rfl m_Lasked k_Lasked b_Lasked .nil pass0 (pa_cons (pv 0) (pa_cons (pv 2) pa_nil))) pa_nil)))))))),?_⟩
 try dsimp only [Cx.nox,Cx.wish,cxOf]
 have ht':t≤1000000000 - 200000:=ht
 refine ⟨_,rfl,d,c,t,ns,8,rfl,S,(by show t≤1000000000;omega),by decide,by decide,fun k1 ns1 H1 a0 a1 S1 K1=>⟨_,_,rfl,rfl,?_⟩⟩
 refine ⟨fun σ Hc=>∃ (m t2:Int) (ms:List Int),σ=[some (.ref d),some (.int m),none]∧StAt Hc d c t2 ms∧t≤t2∧t2≤t+3∧Keep d c H Hc∧1≤m∧m≤30,?_,?_⟩
 ·refine ⟨_,rfl,d,c,t+1,ns1,8,rfl,S1,(by show t+1≤1000000000;omega),by decide,by decide,fun k2 ns2 H2 b0 b1 S2 K2=>⟨rfl,_,rfl,?_⟩⟩
  refine ite2 (fun _=>?_) (fun _=>?_)
  ·refine ⟨_,rfl,d,c,t+1+1,ns2,22,rfl,S2,(by show t+1+1≤1000000000;omega),by decide,by decide,fun k3 ns3 H3 c0 c1 S3 K3=>⟨_,_,rfl,rfl,?_⟩⟩
   exact ⟨9+k3,t+1+1+1,ns3,rfl,S3,by omega,by omega,(K1.trans K2).trans K3,by omega,by omega⟩
  ·exact ⟨1+k1,t+1+1,ns2,rfl,S2,by omega,by omega,K1.trans K2,by omega,by omega⟩
 refine fun σ Hc hI_1=>opq fun G_1 hG_1=>?_
 obtain ⟨m,t2,ms,rfl,S2,g1,g2,K2,m1,m30⟩:=hI_1
 refine hG_1 ?_
 refine ⟨_,rfl,_,rfl,d,c,t2,ms,m,rfl,S2,(by show t2≤1000000000 - 10000;omega),m1,by omega,fun a net t3 ms3 H3 S3 g3 g4 K3 hN wf nk=>?_⟩
 refine ⟨_,rfl,_,rfl,_,rfl,d,c,t3,ms3,a,net,rfl,S3,(by show t3≤1000000000 - 100;omega),hN,wf,by omega,by omega,fun r ws t4 ms4 H4 S4 g5 g6 K4 gr rW l1 l4=>?_⟩
 refine ⟨(by show 2≤sizeLine;decide),fun T hT=>?_⟩
 have sT:=same_new hT (.tup [.ref a,.ref r])
 exact q T a r net ws t4 ms4 _ (S4.same sT) (by omega) (by omega) (((K2.trans K3).trans K4).trans (.of_same sT)) upd_same ((hN.keep S3 K4).same sT) wf (by omega) (by omega) (sT _ _ gr) rW l4
end
end Fw
set_option maxHeartbeats 0
namespace Fw
open PySem L2
section
variable {P:Program} {w:World} {K:PySem.W.Frag} {mg:Str→Option Value} {base:Heap} {f:Addr} {fd:FuncData} {f_has_all f_played:Addr} {fd_has_all fd_played:FuncData} {c_Barred:Addr}
theorem sc_has_all:FnScope ["results","works"] ["results","works"] (defScope s_has_all):=⟨rfl,rfl,rfl,by decide +kernel,rfl,by decide +kernel,by decide +kernel⟩
theorem ok_has_all (F:Fun K "has_all" "has_all" s_has_all f fd) (z_all:mg "all" = none):FnOk P w K mg base CX0 1 f fd ["results","works"] spHasP:=by
 refine F.ok sc_has_all (fun vs H Q E h=>?_) (fun cdv A outer s H vs Q E hr h=>?_)
 ·obtain ⟨a,t,st,asked,rfl,_⟩:=h
  rfl
 obtain ⟨a,t,st,asked,rfl,hst,hT,l1,q⟩:=h
 refine ⟨_,(pss_one (ps_ret (pe_callB (call_all rfl) rfl z_all bt_all (pa_cons (pe_lc rfl (lcs (own:=["work"]) (fv:=[0]) (by kernel_rfl)) (pi_tup (pv 1)) (fun z1=>pg_name (i:=0) (nd_of (by kernel_rfl)) rfl (Or.inl rfl)) (fun z1=>pts_nil) (fun z1=>(pe_cmpR (op_inK (K:=K) rfl) (pv 0) (pv 1) (by with_unfolding_all rfl)))) pa_nil)))),?_⟩
 try dsimp only [Cx.nox,Cx.wish,cxOf]
 refine ⟨_,rfl,t,rfl,⟨_,SqT.of hT⟩,fun p hp=>?_⟩
 refine lc_tup (p:=p) (a:=t) (xs:=asked.map V.int) (fun i σ Hc=>∃ (v:Option V),σ=[v,some (.ref a)]∧Same H Hc∧Hc p=some (.lst (((asked.take i).map fun x=>decide (x ∈ st)).map V.bl))) ?_ ?_ ?_ ?_
 ·exact ⟨none,rfl,same_new hp _,upd_same⟩
 ·rintro i σ Hc hi ⟨v,rfl,sm,_⟩
  exact SqT.of (sm _ _ hT)
 ·refine fun i x σ Hc hx hI_2=>opq fun G_2 hG_2=>?_
  obtain ⟨v,rfl,sm,hpc⟩:=hI_2
  obtain ⟨z,ez,rfl⟩:=get_int hx
  refine hG_2 ?_
  have hi:=(List.getElem?_eq_some_iff.mp ez).1
  refine ⟨_,rfl,_,rfl,a,_,rfl,.inr (SqT.of (sm _ _ hst)),rfl,flat_ints st,_,hpc,small1000 (by rw [List.length_map,List.length_map,List.length_take];omega),_,rfl,same_put sm hp,?_⟩
  rw [upd_same]
  refine congrArg (fun l=>some (HO.lst l)) ?_
  rw [List.take_add_one,ez,Option.toList_some,List.map_append,List.map_append]
  show _++[V.bl (inV (.int z) (st.map V.int))]=_
  rw [inV_int]
  rfl
 ·refine fun σ Hc hI_3=>opq fun G_3 hG_3=>?_
  obtain ⟨v,rfl,sm,hpc⟩:=hI_3
  refine hG_3 ?_
  rw [List.length_map,List.take_of_length_le (Nat.le_refl _)] at hpc
  refine ⟨p,_,rfl,SqL.of hpc,?_⟩
  have e:((asked.map fun x=>decide (x ∈ st)).all id)=decide (∀ x ∈ asked,x ∈ st):=by
   rw [Bool.eq_iff_iff,decide_eq_true_eq]
   exact all_in
  rw [e]
  exact q Hc sm
theorem sc_does:FnScope ["net","rooms","plan","asked","stands"] ["net","rooms","plan","asked"] (defScope s_does):=⟨rfl,rfl,rfl,by decide +kernel,rfl,by decide +kernel,by decide +kernel⟩
theorem ok_does (F:Fun K "does" "does" s_does f fd) (em_Barred:PySem.W.exmOne K (.ref c_Barred) (.ref c_Barred)=some true) (m_Barred:mg "Barred" = some (.ref c_Barred)) (G_played:FnOk P w K mg base (CX1 P w) 3 f_played fd_played ["net","rooms","plan"] (spPlay2 c_Barred)) (b_played:Binds K fd_played ["net","rooms","plan"] []) (k_played:PySem.W.keepIn K (.ref f_played)=true) (m_played:mg "played" = some (.ref f_played)) (G_has_all:FnOk P w K mg base CX0 1 f_has_all fd_has_all ["results","works"] spHasP) (b_has_all:Binds K fd_has_all ["results","works"] []) (k_has_all:PySem.W.keepIn K (.ref f_has_all)=true) (m_has_all:mg "has_all" = some (.ref f_has_all)):FnOk P w K mg base CX0 4 f fd ["net","rooms","plan","asked"] spDoes2:=by
 refine F.ok sc_does (fun vs H Q E h=>?_) (fun cdv A outer s H vs Q E hr h=>?_)
 ·obtain ⟨a,l,t,net,ms,rooms,asked,rfl,_⟩:=h
  rfl
 obtain ⟨a,l,t,net,ms,rooms,asked,rfl,PI,hT,l1,q1,q2⟩:=h
 have hr_played:Room 3 _:=hr.mono (by decide)
 have hr_has_all:Room 1 _:=hr.mono (by decide)
 refine ⟨_,(pss_cons (ps_tryA (i:=4) (j:=none) rfl rfl sc_does.nd rfl (Or.inl rfl) G_played hr_played rfl m_played k_played b_played .nil (pa_cons (pv 0) (pa_cons (pv 1) (pa_cons (pv 2) pa_nil))) rfl m_Barred trivial (fun ev=>(pss_one (ps_ret pe_bl)))) (pss_one (ps_ret (pe_call G_has_all hr_has_all rfl m_has_all k_has_all b_has_all .nil pass0 (pa_cons (pe_ix ix_list (pv 4) (pe_un un_neg pe_int) (fun _ _=>rfl)) (pa_cons (pv 3) pa_nil)))))),?_⟩
 try dsimp only [Cx.nox,Cx.wish,cxOf]
 refine ⟨_,rfl,_,rfl,_,rfl,a,l,net,ms,rooms,rfl,PI,fun ls sts H1 sm pl fls SA=>?_,fun sts w0 dx H1 sm pl gdx=>⟨em_Barred,fun ex hex=>?_⟩⟩
 ·obtain ⟨ks,hks,NK⟩:=id SA
  obtain ⟨ss,r,ek,gr⟩:=last_at NK
  rw [ek] at hks
  refine ⟨_,rfl,_,rfl,ls,_,_,_,rfl,rfl,SqL.of hks,by rw [List.map_append];exact atI_last _ _,?_⟩
  refine ⟨_,rfl,r,t,_,asked,rfl,gr,sm _ _ hT,l1,fun H2 s2=>?_⟩
  exact q1 sts H2 (sm.trans s2) pl
 ·exact q2 sts w0 _ (sm.trans (same_new hex _)) pl
end
end Fw
set_option maxHeartbeats 0
namespace Fw
open PySem L2
section
variable {P:Program} {w:World} {K:PySem.W.Frag} {mg:Str→Option Value} {base:Heap} {f:Addr} {fd:FuncData}
theorem sc_Lspare:FnScope ["_law_net_here","_law_asked_here","_law_wanted","_law_stand"] ["_law_net_here","_law_asked_here","_law_wanted","_law_stand"] (defScope s_Lspare):=⟨rfl,rfl,rfl,by decide +kernel,rfl,by decide +kernel,by decide +kernel⟩
theorem ok_Lspare (F:Fun K "_law_spare" "_law_spare" s_Lspare f fd) (z_any:mg "any" = none):FnOk P w K mg base CX0 1 f fd ["_law_net_here","_law_asked_here","_law_wanted","_law_stand"] spSpare:=by
 refine F.ok sc_Lspare (fun vs H Q E h=>?_) (fun cdv A outer s H vs Q E hr h=>?_)
 ·obtain ⟨a,t,lw,so,net,asked,ws,st,rfl,_⟩:=h
  rfl
 obtain ⟨a,t,lw,so,net,asked,ws,st,rfl,hN,wf,n60,hT,hW,wb,lw60,hS,ls60,q⟩:=h
 refine ⟨_,(pss_one (ps_ret (pe_lo rfl (los (own:=["_law_work"]) (fv:=[1,2,0]) (by kernel_rfl)) (pi_tup (pv 3)) (fun z1=>pg_name (i:=0) (nd_of (by kernel_rfl)) rfl (Or.inr rfl)) (fun z1=>(pts_one (PW.pt (pw_and (pt_cmpR (op_notInK (K:=K) rfl) (pv 0) (pv 1) (by with_unfolding_all rfl)) (pw_and1 (pt_not (pt_val (pe_callB (call_anyK (K:=K) rfl rfl) rfl z_any bt_any (pa_cons (pe_lc (X:=lcCxO _ _ _ _ z1) rfl (lcs (own:=["_law_other"]) (fv:=[0,3]) (by kernel_rfl)) (pi_listK (K:=K) rfl (pv 2)) (fun z2=>pg_name (i:=0) (nd_of (by kernel_rfl)) rfl (Or.inl rfl)) (fun z2=>pts_nil) (fun z2=>(pe_cmpR (op_inK (K:=K) rfl) (pv 1) (pe_ix (ix_tupK (K:=K) rfl) (pv 2) (pv 0) (fun _ _=>rfl)) (by with_unfolding_all rfl)))) pa_nil))))))))) (fun z1=>(pv 0))))),?_⟩
 try dsimp only [Cx.nox,Cx.wish,cxOf]
 refine ⟨_,rfl,so,rfl,⟨_,SqT.of hS⟩,fun p hp=>?_⟩
 refine lc_tup (p:=p) (a:=so) (xs:=st.map V.int) (fun i σ Hc=>∃ (v:Option V) (fs:List Int),σ=[v,some (.ref t),some (.ref lw),some (.ref a)]∧Same H Hc∧Hc p=some (.lst (fs.map V.int))∧(∀ x ∈ fs,x ∈ st∧x ∉ asked∧∀ v ∈ ws,x ∉ nd net v)∧fs.length≤i) ?_ ?_ ?_ ?_
 ·exact ⟨none,[],rfl,same_new hp _,upd_same,(fun _ z=>nomatch z),Nat.le_refl _⟩
 ·rintro i σ Hc hi ⟨v,fs,rfl,sm,_⟩
  exact SqT.of (sm _ _ hS)
 ·refine fun i x σ Hc hx hI_2=>opq fun G_2 hG_2=>?_
  obtain ⟨v,fs,rfl,sm,hpc,inf,lf⟩:=hI_2
  obtain ⟨z,ez,rfl⟩:=get_int hx
  refine hG_2 ?_
  have hi:=(List.getElem?_eq_some_iff.mp ez).1
  refine ⟨_,rfl,_,rfl,t,_,rfl,.inr (SqT.of (sm _ _ hT)),rfl,flat_ints asked,_,rfl,?_⟩
  rw [inV_int]
  by_cases c1:z ∈ asked
  ·rw [decide_eq_true c1]
   exact ⟨_,fs,rfl,sm,hpc,inf,by omega⟩
  ·rw [decide_eq_false c1]
   refine ⟨_,rfl,lw,rfl,⟨_,SqL.of (sm _ _ hW)⟩,fun p2 hp2=>?_⟩
   refine lc_list (p:=p2) (a:=lw) (xs:=ws.map V.int) (fun j σ Hd=>∃ (v:Option V),σ=[v,some (.int z),some (.ref a)]∧Same Hc Hd∧Hd p2=some (.lst (((ws.take j).map fun v=>decide (z ∈ nd net v)).map V.bl))) ?_ ?_ ?_ ?_
   ·exact ⟨none,rfl,same_new hp2 _,upd_same⟩
   ·rintro j σ Hd hj ⟨v,rfl,sd,_⟩
    exact SqL.of (sd _ _ (sm _ _ hW))
   ·refine fun j x σ Hd hx hI_4=>opq fun G_4 hG_4=>?_
    obtain ⟨v,rfl,sd,hpd⟩:=hI_4
    obtain ⟨u,eu,rfl⟩:=get_int hx
    refine hG_4 ?_
    have hj:=(List.getElem?_eq_some_iff.mp eu).1
    have ub:=wb u (List.mem_of_getElem? eu)
    have hu':u.toNat<net.length:=by omega
    obtain ⟨rs',r,h1,l1,h2,h3⟩:=hN.get (List.getElem?_eq_getElem hu')
    have en:=nd_of_get (List.getElem?_eq_getElem hu')
    generalize net[u.toNat]=ns at h3 en
    have smd:=sm.trans sd
    refine ⟨_,rfl,_,rfl,_,rfl,a,_,_,_,rfl,rfl,SqT.of (smd _ _ h1),get_at ub.1 h2,r,_,rfl,.inr (SqT.of (smd _ _ h3)),rfl,flat_ints ns,_,hpd,small1000 (by rw [List.length_map,List.length_map,List.length_take];omega),_,rfl,same_put sd hp2,?_⟩
    rw [upd_same]
    refine congrArg (fun l=>some (HO.lst l)) ?_
    rw [List.take_add_one,eu,Option.toList_some,List.map_append,List.map_append]
    show _++[V.bl (inV (.int z) (ns.map V.int))]=_
    rw [inV_int,← en]
    rfl
   refine fun σ Hd hI_5=>opq fun G_5 hG_5=>?_
   obtain ⟨v,rfl,sd,hpd⟩:=hI_5
   refine hG_5 ?_
   rw [List.length_map,List.take_length] at hpd
   refine ⟨p2,_,rfl,SqL.of hpd,?_⟩
   have hpE:=sd _ _ hpc
   refine ⟨_,rfl,?_⟩
   cases hany:((ws.map fun v=>decide (z ∈ nd net v)).any id) with
   | true=>exact ⟨_,fs,rfl,sm.trans sd,hpE,inf,by omega⟩
   | false=>
    refine ⟨_,rfl,_,hpE,small1000 (by rw [List.length_map];omega),_,fs++[z],rfl,same_put (sm.trans sd) hp,by rw [upd_same,List.map_append];rfl,fun x hx=>?_,by rw [List.length_append,List.length_singleton];omega⟩
    rcases List.mem_append.mp hx with h | h
    ·exact inf x h
    ·rw [List.mem_singleton.mp h]
     refine ⟨List.mem_of_getElem? ez,c1,fun v hv hz=>?_⟩
     have:((ws.map fun v=>decide (z ∈ nd net v)).any id)=true:=List.any_eq_true.mpr ⟨true,List.mem_map.mpr ⟨v,hv,decide_eq_true hz⟩,rfl⟩
     rw [hany] at this
     cases this
 ·refine fun σ Hc hI_6=>opq fun G_6 hG_6=>?_
  obtain ⟨v,fs,rfl,sm,hpc,inf,lf⟩:=hI_6
  refine hG_6 ?_
  rw [List.length_map] at lf
  exact q p fs Hc sm hp hpc inf lf
end
end Fw
set_option maxHeartbeats 0
namespace Fw
open PySem L2
section
variable {P:Program} {w:World} {K:PySem.W.Frag} {mg:Str→Option Value} {base:Heap} {f:Addr} {fd:FuncData} {f_Ltake f_Lwalk f_Lneeded f_Lbehind f_Lspare:Addr} {fd_Ltake fd_Lwalk fd_Lneeded fd_Lbehind fd_Lspare:FuncData}
theorem sc_Ldoing:FnScope ["_law_state","_law_net_here","_law_asked_here","_law_many","_law_plan","_law_stand","_law_needed_here","_law_place","_law_work","_law_spare_here"] ["_law_state","_law_net_here","_law_asked_here","_law_many"] (defScope s_Ldoing):=⟨rfl,rfl,rfl,by decide +kernel,rfl,by decide +kernel,by decide +kernel⟩
theorem ok_Ldoing (F:Fun K "_law_doing" "_law_doing" s_Ldoing f fd) (G_Ltake:FnOk P w K mg base CX0 1 f_Ltake fd_Ltake ["_law_state","_law_many"] spTake) (b_Ltake:Binds K fd_Ltake ["_law_state","_law_many"] []) (k_Ltake:PySem.W.keepIn K (.ref f_Ltake)=true) (m_Ltake:mg "_law_take" = some (.ref f_Ltake)) (G_Lwalk:FnOk P w K mg base CX0 3 f_Lwalk fd_Lwalk ["_law_state","_law_net_here","_law_rooms","_law_many"] spWalk2) (b_Lwalk:Binds K fd_Lwalk ["_law_state","_law_net_here","_law_rooms","_law_many"] []) (k_Lwalk:PySem.W.keepIn K (.ref f_Lwalk)=true) (m_Lwalk:mg "_law_walk" = some (.ref f_Lwalk)) (G_Lneeded:FnOk P w K mg base CX0 1 f_Lneeded fd_Lneeded ["_law_net_here","_law_asked_here"] spNeeded) (b_Lneeded:Binds K fd_Lneeded ["_law_net_here","_law_asked_here"] []) (k_Lneeded:PySem.W.keepIn K (.ref f_Lneeded)=true) (m_Lneeded:mg "_law_needed" = some (.ref f_Lneeded)) (G_Lbehind:FnOk P w K mg base CX0 1 f_Lbehind fd_Lbehind ["_law_stand","_law_move"] spBehindS) (b_Lbehind:Binds K fd_Lbehind ["_law_stand","_law_move"] []) (k_Lbehind:PySem.W.keepIn K (.ref f_Lbehind)=true) (m_Lbehind:mg "_law_behind" = some (.ref f_Lbehind)) (G_Lspare:FnOk P w K mg base CX0 1 f_Lspare fd_Lspare ["_law_net_here","_law_asked_here","_law_wanted","_law_stand"] spSpare) (b_Lspare:Binds K fd_Lspare ["_law_net_here","_law_asked_here","_law_wanted","_law_stand"] []) (k_Lspare:PySem.W.keepIn K (.ref f_Lspare)=true) (m_Lspare:mg "_law_spare" = some (.ref f_Lspare)) (z_len:mg "len" = none) (z_enumerate:mg "enumerate" = none):FnOk P w K mg base CX0 4 f fd ["_law_state","_law_net_here","_law_asked_here","_law_many"] spDoing:=by
 refine F.ok sc_Ldoing (fun vs H Q E h=>?_) (fun cdv A outer s H vs Q E hr h=>?_)
 ·obtain ⟨d,c,t,ns,a,ta,net,asked,many,rfl,_⟩:=h
  rfl
 obtain ⟨d,c,t,ns,a,ta,net,asked,many,rfl,S,ht,hN,wf,n1,n60,⟨hTa,rA⟩,m0,m250,q⟩:=h
 have hu0:=hr.units0
 have hr_Ltake:Room 1 _:=hr.mono (by decide)
 have hr_Lwalk:Room 3 _:=hr.mono (by decide)
 have hr_Lneeded:Room 1 _:=hr.mono (by decide)
 have hr_Lbehind:Room 1 _:=hr.mono (by decide)
 have hr_Lspare:Room 1 _:=hr.mono (by decide)
 have ht':t≤1000000000 - 400000:=ht
 refine ⟨_,(pss_cons (ps_asg (pe_call G_Lwalk hr_Lwalk rfl m_Lwalk k_Lwalk b_Lwalk .nil pass0 (pa_cons (pv 0) (pa_cons (pv 1) (pa_cons (pe_callB call_len_seq rfl z_len bt_len (pa_cons (pv 1) pa_nil)) (pa_cons (pv 3) pa_nil))))) (pg_tup rfl (pgs_cons (pg_name (i:=4) sc_Ldoing.nd rfl (Or.inl rfl)) (pgs_cons (pg_name (i:=5) sc_Ldoing.nd rfl (Or.inl rfl)) pgs_nil)))) (pss_cons (ps_set (i:=6) sc_Ldoing.nd rfl (Or.inl rfl) (pe_call G_Lneeded hr_Lneeded rfl m_Lneeded k_Lneeded b_Lneeded .nil pass0 (pa_cons (pv 1) (pa_cons (pv 2) pa_nil)))) (pss_cons (ps_for PassesOwn.never rfl (pi_enum rfl z_enumerate bt_enumerate (pa_cons (pv 6) pa_nil)) (pg_tup rfl (pgs_cons (pg_name (i:=7) sc_Ldoing.nd rfl (Or.inl rfl)) (pgs_cons (pg_name (i:=8) sc_Ldoing.nd rfl (Or.inl rfl)) pgs_nil))) (pss_cons (ps_if (pt_cmpR op_notIn_seq (pv 8) (pv 5) (by with_unfolding_all rfl)) (pss_cons (ps_expr (pe_bm PySem.F.plainAttrs_list PySem.F.slot_list_append PySem.F.type_list_append mt_append (pv 4) (pa_cons (pe_tup (pa_cons pe_str (pa_cons (pv 8) pa_nil))) pa_nil))) (pss_one (ps_set (i:=5) sc_Ldoing.nd rfl (Or.inl rfl) (pe_call G_Lbehind hr_Lbehind rfl m_Lbehind k_Lbehind b_Lbehind .nil pass0 (pa_cons (pv 5) (pa_cons (pe_ix ix_list (pv 4) (pe_un un_neg pe_int) (fun _ _=>rfl)) pa_nil)))))) pss_nil) (pss_cons (ps_set (i:=9) sc_Ldoing.nd rfl (Or.inl rfl) (pe_call G_Lspare hr_Lspare rfl m_Lspare k_Lspare b_Lspare .nil pass0 (pa_cons (pv 1) (pa_cons (pv 2) (pa_cons (pe_slice sl_list (pv 6) (po_some (pe_op op_add (pv 7) pe_int)) po_none) (pa_cons (pv 5) pa_nil)))))) (pss_one (ps_if (PW.pt (pw_and (pt_cmpR (op_ne_nil hu0) (pv 9) (pe_lst pa_nil) (nomark _)) (pw_and1 (pt_cmpR op_eq (pe_call G_Ltake hr_Ltake rfl m_Ltake k_Ltake b_Ltake .nil pass0 (pa_cons (pv 0) (pa_cons pe_int pa_nil))) pe_int (nomark _))))) (pss_cons (ps_expr (pe_bm PySem.F.plainAttrs_list PySem.F.slot_list_append PySem.F.type_list_append mt_append (pv 4) (pa_cons (pe_tup (pa_cons pe_str (pa_cons (pe_ix ix_list (pv 9) (pe_call G_Ltake hr_Ltake rfl m_Ltake k_Ltake b_Ltake .nil pass0 (pa_cons (pv 0) (pa_cons (pe_callB call_len_seq rfl z_len bt_len (pa_cons (pv 9) pa_nil)) pa_nil))) (fun _ _=>rfl)) pa_nil))) pa_nil))) (pss_one (ps_set (i:=5) sc_Ldoing.nd rfl (Or.inl rfl) (pe_call G_Lbehind hr_Lbehind rfl m_Lbehind k_Lbehind b_Lbehind .nil pass0 (pa_cons (pv 5) (pa_cons (pe_ix ix_list (pv 4) (pe_un un_neg pe_int) (fun _ _=>rfl)) pa_nil)))))) pss_nil))))) (pss_one (ps_ret (pv 4)))))),?_⟩
 try dsimp only [Cx.nox,Cx.wish,cxOf]
 obtain ⟨rsN,gN,NN⟩:=id hN
 have lrv:(((rsN.map V.ref).length:Nat):Int)=(net.length:Int):=by rw [List.length_map,Paired.length NN]
 refine cut fun N1 hN1=>?_
 refine ⟨_,rfl,_,rfl,_,rfl,a,_,rfl,.inr (SqT.of gN),_,rfl,d,c,t,ns,a,net,(net.length:Int),many,by rw [lrv];rfl,S,(by show t≤1000000000 - 200000;omega),hN,wf,n1,n60,by omega,m0,m250,fun T l so ms st t1 ns1 H1 S1 g1 g2 K1 gT fl PL mvl lml hso rst R=>?_⟩
 have nl:l ≠ d∧l ≠ c:=⟨(ne_of_none S.dict fl).symm,(ne_of_none S.list fl).symm⟩
 refine ⟨T,_,rfl,SqT.of gT,rfl,_,_,rfl,_,_,rfl,rfl,?_⟩
 have hN1':=hN.keep S K1
 have hTa1:=K1 _ _ hTa (S.tup hTa).1 (S.tup hTa).2
 refine hN1 _ _ (cut fun N2 hN2=>?_)
 refine ⟨_,rfl,_,rfl,a,ta,net,asked,rfl,hN1',wf,by omega,⟨hTa1,rA⟩,fun ln zs H2 s2 f2 gln ND=>?_⟩
 have lz:=ND.1.len
 have S2:=S1.same s2
 have K2:Keep d c H H2:=K1.trans (.of_same s2)
 have nln:ln ≠ d∧ln ≠ c:=⟨(ne_of_none S1.dict f2).symm,(ne_of_none S1.list f2).symm⟩
 obtain ⟨rs0,gl0,M0⟩:=PL.same s2
 have nll:ln ≠ l:=fun z=>by rw [z] at f2;obtain ⟨rs',g',_⟩:=id PL;rw [f2] at g';cases g'
 refine hN2 _ _ (cut fun N3 hN3=>?_)
 refine ⟨_,rfl,ln,rfl,⟨_,SqL.of gln⟩,for_enum (a:=ln) (xs:=zs.map V.int) (fun i σ Hc=>∃ (rs:List Addr) (ms:List Mv) (so:Addr) (st:List Int) (t3:Int) (ns:List Int) (v7 v8 v9:Option V),σ=[some (.ref d),some (.ref a),some (.ref ta),some (.int many),some (.ref l),some (.ref so),some (.ref ln),v7,v8,v9]∧StAt Hc d c t3 ns∧t1≤t3∧t3≤t1+2 * i∧Keep d c H Hc∧Hc ln=some (.lst (zs.map V.int))∧Hc l=some (.lst (rs.map V.ref))∧MovL Hc rs ms∧MvOk net ms∧(ms.length:Int)≤many+2 * i∧Hc so=some (.tup (st.map V.int))∧Rise (net.length:Int) st∧Run net (net.length:Int) [] ms st∧∀ x ∈ zs.take i,(x ∈ asked∨later net zs i x)→x ∈ st)
  ⟨rs0,ms,so,st,t1,ns1,none,none,none,rfl,S2,by omega,by omega,K2,gln,gl0,M0,mvl,by omega,s2 _ _ hso,rst,R,fun x hx=>by simp at hx⟩ (fun i σ Hc _ ⟨_,_,_,_,_,_,_,_,_,_,_,_,_,_,g,_⟩=>SqL.of g) ?_ ?_⟩
 ·refine fun i x σ Hc T2 hx hI_1 hT2=>opq fun G_1 hG_1=>?_
  obtain ⟨rs,ms,so,st,t3,ns3,v7,v8,v9,rfl,S3,g3,g4,K3,gln3,gl3,M3,ok3,lm3,hs3,rst3,R3,inv⟩:=hI_1
  obtain ⟨w0,ew,rfl⟩:=get_int hx
  refine hG_1 ?_
  have hi:=(List.getElem?_eq_some_iff.mp ew).1
  have wb:=ND.1.in_ w0 (List.mem_of_getElem? ew)
  have lst:=rst3.len
  have sT2:=same_new hT2 (.tup [.int (i:Int),.int w0])
  have gT2:SqT K (upd Hc T2 (.tup [.int (i:Int),.int w0])) T2 [.int (i:Int),.int w0]:=SqT.of upd_same
  have S4:=S3.same sT2
  have K4:=K3.trans (.of_same sT2)
  have gln4:=sT2 _ _ gln3
  have gl4:=sT2 _ _ gl3
  have M4:=M3.same sT2
  have hs4:=sT2 _ _ hs3
  generalize upd Hc T2 (.tup [.int (i:Int),.int w0])=H4 at gT2 S4 K4 gln4 gl4 M4 hs4 ⊢
  refine ⟨T2,_,rfl,gT2,rfl,_,_,rfl,_,_,rfl,rfl,?_⟩
  have hneed:∀ y ∈ nd net w0,y ∈ st:=fun y hy=>inv y (needed_has wf ND ew hy).1 (.inr ((later_succ ew).mpr (.inl hy)))
  refine cut fun N4 hN4=>?_
  -- behind the do
  have rest:∀ (rs:List Addr) (ms:List Mv) (so:Addr) (st:List Int) (Hx:Hp),StAt Hx d c t3 ns3→Keep d c H Hx→Hx ln=some (.lst (zs.map V.int))→Hx l=some (.lst (rs.map V.ref))→MovL Hx rs ms→MvOk net ms→(ms.length:Int)≤many+2 * i+1→Hx so=some (.tup (st.map V.int))→Rise (net.length:Int) st→Run net (net.length:Int) [] ms st→(∀ x ∈ zs.take (i+1),(x ∈ asked∨later net zs (i+1) x)→x ∈ st)→N4 [some (.ref d),some (.ref a),some (.ref ta),some (.int many),some (.ref l),some (.ref so),some (.ref ln),some (.int (i:Int)),some (.int w0),v9] Hx:=by
   intro rs ms so st Hx Sx Kx glnx glx Mx okx lmx hsx rstx Rx invx
   have lstx:=rstx.len
   refine hN4 _ _ (cut fun N5 hN5=>?_)
   refine ⟨_,rfl,_,rfl,_,rfl,_,rfl,_,_,rfl,rfl,_,rfl,ln,_,rfl,SqL.of glnx,fun p hp=>?_⟩
   have ecut:cutV (zs.map V.int) (some ((i:Int)+1)) none=(zs.drop (i+1)).map V.int:=by
    rw [cutV_map,show ((i:Int)+1)=((i+1:Nat):Int) by omega,cutI_from _ _ (by omega)]
   rw [ecut]
   have sp:=same_new hp (.lst ((zs.drop (i+1)).map V.int))
   have gp:(upd Hx p (.lst ((zs.drop (i+1)).map V.int))) p=some (.lst ((zs.drop (i+1)).map V.int)):=upd_same
   generalize upd Hx p (.lst ((zs.drop (i+1)).map V.int))=Hy at sp gp ⊢
   have Ky:=Kx.trans (.of_same sp)
   refine ⟨_,rfl,a,ta,p,so,net,asked,zs.drop (i+1),st,rfl,hN.keep S Ky,wf,n60,Ky _ _ hTa (S.tup hTa).1 (S.tup hTa).2,gp,(fun x hx=>ND.1.in_ x (List.mem_of_mem_drop hx)),by rw [List.length_drop];omega,sp _ _ hsx,by omega,fun lf fs H6 s6 f6 glf inf lf6=>?_⟩
   have sx6:=sp.trans s6
   have S6:=Sx.same sx6
   have K6:=Kx.trans (.of_same sx6)
   have gln6:=sx6 _ _ glnx
   have gl6:=sx6 _ _ glx
   have M6:=Mx.same sx6
   have hs6:=sx6 _ _ hsx
   refine hN5 _ _ ?_
   refine ⟨_,rfl,(by show 0≤sizeLine;decide),fun e3 he3=>?_⟩
   have se3:=same_new he3 (.lst [])
   refine ⟨lf,e3,_,rfl,rfl,SqL.of (se3 _ _ glf),SqL.of upd_same,_,rfl,?_⟩
   have S7:=S6.same se3
   have K7:=K6.trans (.of_same se3)
   have gln7:=se3 _ _ gln6
   have gl7:=se3 _ _ gl6
   have M7:=M6.same se3
   have hs7:=se3 _ _ hs6
   have glf7:=se3 _ _ glf
   generalize upd H6 e3 (.lst [])=H7 at S7 K7 gln7 gl7 M7 hs7 glf7 ⊢
   have skip:∀ (t':Int) (ns':List Int) (Hz:Hp),StAt Hz d c t' ns'→t3≤t'→t'≤t3+1→Keep d c H7 Hz→∃ (rs:List Addr) (ms:List Mv) (so':Addr) (st:List Int) (t4:Int) (ns:List Int) (v7 v8 v9':Option V),[some (V.ref d),some (.ref a),some (.ref ta),some (.int many),some (.ref l),some (.ref so),some (.ref ln),some (.int (i:Int)),some (.int w0),some (.ref lf)]=[some (.ref d),some (.ref a),some (.ref ta),some (.int many),some (.ref l),some (.ref so'),some (.ref ln),v7,v8,v9']∧StAt Hz d c t4 ns∧t1≤t4∧t4≤t1+2 * (i+1:Nat)∧Keep d c H Hz∧Hz ln=some (.lst (zs.map V.int))∧Hz l=some (.lst (rs.map V.ref))∧MovL Hz rs ms∧MvOk net ms∧(ms.length:Int)≤many+2 * (i+1:Nat)∧Hz so'=some (.tup (st.map V.int))∧Rise (net.length:Int) st∧Run net (net.length:Int) [] ms st∧∀ x ∈ zs.take (i+1),(x ∈ asked∨later net zs (i+1) x)→x ∈ st:=by
    intro t' ns' Hz Sz a1 a2 Kz
    exact ⟨rs,ms,so,st,t',ns',_,_,_,rfl,Sz,by omega,by omega,K7.trans Kz,Kz _ _ gln7 nln.1 nln.2,Kz _ _ gl7 nl.1 nl.2,MovL.keep M7 S7 Kz,okx,by omega,Kz _ _ hs7 (S7.tup hs7).1 (S7.tup hs7).2,rstx,Rx,invx⟩
   cases fs with
   | nil=>exact skip t3 ns3 H7 S7 (by omega) (by omega) Keep.refl
   | cons f0 fs0=>
    generalize hfs:f0::fs0=fs at *
    have lfs:1≤fs.length:=by rw [← hfs];simp
    have hne:(!(fs.map V.int).isEmpty)=true:=by rw [← hfs];rfl
    rw [hne]
    refine ⟨_,rfl,d,c,t3,ns3,3,rfl,S7,(by show t3≤1000000000;omega),by decide,by decide,fun x8 ns8 H8 x80 x81 S8 K8=>⟨rfl,_,rfl,?_⟩⟩
    refine ite2 (fun _=>?_) (fun _=>skip (t3+1) ns8 H8 S8 (by omega) (by omega) K8)
    have nlf:lf ≠ d∧lf ≠ c:=⟨(ne_of_none (Sx.same sp).dict f6).symm,(ne_of_none (Sx.same sp).list f6).symm⟩
    have glf8:=K8 _ _ glf7 nlf.1 nlf.2
    have gl8:=K8 _ _ gl7 nl.1 nl.2
    refine cut fun N6 hN6=>?_
    refine ⟨_,rfl,.inl ⟨rfl,_,SqL.of gl8⟩,_,rfl,_,rfl,_,rfl,lf,_,rfl,.inl (SqL.of glf8),d,c,t3+1,ns8,_,rfl,S8,(by show t3+1≤1000000000;omega),by rw [List.length_map];omega,by rw [List.length_map];omega,fun j ns9 H9 j0 j1 S9 K9=>?_⟩
    rw [List.length_map] at j1
    have hj:j.toNat<fs.length:=by omega
    have ey:fs[j.toNat]?=some fs[j.toNat]:=List.getElem?_eq_getElem hj
    generalize fs[j.toNat]=y at ey
    obtain ⟨yin,yas,ynd⟩:=inf y (List.mem_of_getElem? ey)
    have yb:=rstx.in_ y yin
    have K79:=K8.trans K9
    have gl9:=K79 _ _ gl7 nl.1 nl.2
    have gln9:=K79 _ _ gln7 nln.1 nln.2
    have M9:=MovL.keep M7 S7 K79
    have hs9:=K79 _ _ hs7 (S7.tup hs7).1 (S7.tup hs7).2
    refine ⟨lf,_,_,_,rfl,rfl,SqL.of (K9 _ _ glf8 nlf.1 nlf.2),get_at j0 (by rw [List.getElem?_map,ey];rfl),(by show 2≤sizeLine;decide),fun T3 hT3=>?_⟩
    have sT3:=same_new hT3 (.tup [.str "clear",.int y])
    have gT3:(upd H9 T3 (.tup [.str "clear",.int y])) T3=some (.tup [.str "clear",.int y]):=upd_same
    have S10:=S9.same sT3
    have K10:=(K7.trans K79).trans (.of_same sT3)
    have gl10:=sT3 _ _ gl9
    have gln10:=sT3 _ _ gln9
    have M10:=M9.same sT3
    have hs10:=sT3 _ _ hs9
    generalize upd H9 T3 (.tup [.str "clear",.int y])=H10 at gT3 S10 K10 gl10 gln10 M10 hs10 ⊢
    have lrs:=Paired.length M10
    refine ⟨l,_,_,rfl,rfl,gl10,small_n (by rw [List.length_map];omega),?_⟩
    rw [map_snoc]
    have S11:=S10.put' (o:=.lst ((rs++[T3]).map V.ref)) nl.1 nl.2
    have K11:=keep_put (o:=.lst ((rs++[T3]).map V.ref)) K10 fl
    have gl11:(upd H10 l (.lst ((rs++[T3]).map V.ref))) l=some (.lst ((rs++[T3]).map V.ref)):=upd_same
    have gln11:(upd H10 l (.lst ((rs++[T3]).map V.ref))) ln=some (.lst (zs.map V.int)):=by rw [upd_ne nll];exact gln10
    have M11:=MovL.put (o:=.lst ((rs++[T3]).map V.ref)) (M10.snoc gT3) gl10
    have hs11:(upd H10 l (.lst ((rs++[T3]).map V.ref))) so=some (.tup (st.map V.int)):=by rw [upd_ne (ne_of hs10 gl10 (by intro z;cases z))];exact hs10
    have gm11:(upd H10 l (.lst ((rs++[T3]).map V.ref))) T3=some (.tup [.str "clear",.int y]):=by rw [upd_ne (ne_of gT3 gl10 (by intro z;cases z))];exact gT3
    generalize upd H10 l (.lst ((rs++[T3]).map V.ref))=H11 at S11 K11 gl11 gln11 M11 hs11 gm11 ⊢
    refine hN6 _ _ ?_
    refine ⟨_,rfl,_,rfl,_,rfl,l,_,_,_,rfl,rfl,SqL.of gl11,by rw [List.map_append];exact atI_last _ _,?_⟩
    refine ⟨so,T3,st,"clear",y,rfl,hs11,by omega,gm11,.inr rfl,fun r st' H12 s12 gr bh=>?_⟩
    refine ⟨rs++[T3],ms++[(("clear",y):Mv)],r,st',t3+1+1,ns9,_,_,_,rfl,S11.same s12,by omega,by omega,K11.trans (.of_same s12),s12 _ _ gln11,s12 _ _ gl11,M11.same s12,okx.app (MvOk.one (.inr rfl) yb.1 yb.2),by rw [List.length_append,List.length_singleton];omega,gr,beh_rise rstx (.inr rfl) yb.1 yb.2 (fun z=>absurd z do_ne_clear) bh,run_snoc Rx rstx (.inr rfl) yb.1 yb.2 (fun z=>absurd z do_ne_clear) (fun _=>yin) bh,fun x hx hl=>?_⟩
    rw [bh.2 rfl,List.mem_filter]
    refine ⟨invx x hx hl,decide_eq_true fun z=>?_⟩
    rw [z] at hl
    rcases hl with h | ⟨v,hv,hyv⟩
    ·exact yas h
    ·exact ynd v hv hyv
  have next:∀ st':List Int,(∀ x ∈ st,x ∈ st')→w0 ∈ st'→∀ x ∈ zs.take (i+1),(x ∈ asked∨later net zs (i+1) x)→x ∈ st':=by
   intro st' hsub hw x hx hl
   rw [List.take_add_one,ew,Option.toList_some,List.mem_append,List.mem_singleton] at hx
   rcases hx with hx | hx
   ·exact hsub x (inv x hx (hl.imp id fun h=>(later_succ ew).mpr (.inr h)))
   ·rw [hx];exact hw
  refine ⟨_,rfl,_,rfl,so,_,rfl,.inr (SqT.of hs4),rfl,flat_ints st,_,rfl,?_⟩
  rw [inV_int]
  by_cases cw:w0 ∈ st
  ·rw [decide_eq_true cw]
   exact rest rs ms so st H4 S4 K4 gln4 gl4 M4 ok3 (by omega) hs4 rst3 R3 (next st (fun x hx=>hx) cw)
  ·rw [decide_eq_false cw]
   dsimp only
   rw [if_pos (show (if true=true then !false else false)=true from rfl)]
   refine cut fun N6 hN6=>?_
   refine ⟨_,rfl,.inl ⟨rfl,_,SqL.of gl4⟩,_,rfl,(by show 2≤sizeLine;decide),fun T3 hT3=>?_⟩
   have sT3:=same_new hT3 (.tup [.str "do",.int w0])
   have gT3:(upd H4 T3 (.tup [.str "do",.int w0])) T3=some (.tup [.str "do",.int w0]):=upd_same
   have S10:=S4.same sT3
   have K10:=K4.trans (.of_same sT3)
   have gl10:=sT3 _ _ gl4
   have gln10:=sT3 _ _ gln4
   have M10:=M4.same sT3
   have hs10:=sT3 _ _ hs4
   generalize upd H4 T3 (.tup [.str "do",.int w0])=H10 at gT3 S10 K10 gl10 gln10 M10 hs10 ⊢
   have lrs:=Paired.length M10
   refine ⟨l,_,_,rfl,rfl,gl10,small_n (by rw [List.length_map];omega),?_⟩
   rw [map_snoc]
   have S11:=S10.put' (o:=.lst ((rs++[T3]).map V.ref)) nl.1 nl.2
   have K11:=keep_put (o:=.lst ((rs++[T3]).map V.ref)) K10 fl
   have gl11:(upd H10 l (.lst ((rs++[T3]).map V.ref))) l=some (.lst ((rs++[T3]).map V.ref)):=upd_same
   have gln11:(upd H10 l (.lst ((rs++[T3]).map V.ref))) ln=some (.lst (zs.map V.int)):=by rw [upd_ne nll];exact gln10
   have M11:=MovL.put (o:=.lst ((rs++[T3]).map V.ref)) (M10.snoc gT3) gl10
   have hs11:(upd H10 l (.lst ((rs++[T3]).map V.ref))) so=some (.tup (st.map V.int)):=by rw [upd_ne (ne_of hs10 gl10 (by intro z;cases z))];exact hs10
   have gm11:(upd H10 l (.lst ((rs++[T3]).map V.ref))) T3=some (.tup [.str "do",.int w0]):=by rw [upd_ne (ne_of gT3 gl10 (by intro z;cases z))];exact gT3
   generalize upd H10 l (.lst ((rs++[T3]).map V.ref))=H11 at S11 K11 gl11 gln11 M11 hs11 gm11 ⊢
   refine hN6 _ _ ?_
   refine ⟨_,rfl,_,rfl,_,rfl,l,_,_,_,rfl,rfl,SqL.of gl11,by rw [List.map_append];exact atI_last _ _,?_⟩
   refine ⟨so,T3,st,"do",w0,rfl,hs11,by omega,gm11,.inl rfl,fun r st' H12 s12 gr bh=>?_⟩
   have hp':=(bh.1 rfl).1
   exact rest (rs++[T3]) (ms++[(("do",w0):Mv)]) r st' H12 (S11.same s12) (K11.trans (.of_same s12)) (s12 _ _ gln11) (s12 _ _ gl11) (M11.same s12) (ok3.app (MvOk.one (.inl rfl) wb.1 wb.2)) (by rw [List.length_append,List.length_singleton];omega) gr (beh_rise rst3 (.inl rfl) wb.1 wb.2 (fun _=>cw) bh) (run_snoc R3 rst3 (.inl rfl) wb.1 wb.2 (fun _=>⟨cw,hneed⟩) (fun z=>absurd z.symm do_ne_clear) bh) (next st' (fun x hx=>hp'.mem_iff.mpr (List.mem_append.mpr (.inl hx))) (hp'.mem_iff.mpr (by simp)))
 ·refine fun σ Hc hI_2=>opq fun G_2 hG_2=>?_
  obtain ⟨rs,ms,so,st,t3,ns3,v7,v8,v9,rfl,S3,g3,g4,K3,gln3,gl3,M3,ok3,lm3,hs3,rst3,R3,inv⟩:=hI_2
  refine hG_2 ?_
  rw [List.length_map] at g4 lm3 inv
  rw [take_all rfl] at inv
  refine hN3 _ _ ⟨_,rfl,?_⟩
  exact q l ms st t3 ns3 Hc S3 (by omega) (by omega) K3 fl ⟨rs,gl3,M3⟩ ok3 (by omega) rst3 R3 (fun x hx=>inv x ((ND.2 x).mpr (.ask hx)) (.inl hx))
end
end Fw
set_option maxHeartbeats 0
namespace Fw
open PySem L2
section
variable {P:Program} {w:World} {K:PySem.W.Frag} {mg:Str→Option Value} {base:Heap} {f:Addr} {fd:FuncData} {f_Lplayed:Addr} {fd_Lplayed:FuncData}
theorem sc_Lmost:FnScope ["_law_net_here","_law_plan","_law_stands","_law_word_here"] ["_law_net_here","_law_plan"] (defScope s_Lmost):=⟨rfl,rfl,rfl,by decide +kernel,rfl,by decide +kernel,by decide +kernel⟩
theorem ok_Lmost (F:Fun K "_law_most" "_law_most" s_Lmost f fd) (G_Lplayed:FnOk P w K mg base CX0 2 f_Lplayed fd_Lplayed ["_law_net_here","_law_rooms","_law_plan"] spPlayL2) (b_Lplayed:Binds K fd_Lplayed ["_law_net_here","_law_rooms","_law_plan"] []) (k_Lplayed:PySem.W.keepIn K (.ref f_Lplayed)=true) (m_Lplayed:mg "_law_played" = some (.ref f_Lplayed)) (z_len:mg "len" = none) (z_max:mg "max" = none):FnOk P w K mg base CX0 3 f fd ["_law_net_here","_law_plan"] spMost2:=by
 refine F.ok sc_Lmost (fun vs H Q E h=>?_) (fun cdv A outer s H vs Q E hr h=>?_)
 ·obtain ⟨a,l,net,ms,st,rfl,_⟩:=h
  rfl
 obtain ⟨a,l,net,ms,st,rfl,PI,R,q⟩:=h
 have hr_Lplayed:Room 2 _:=hr.mono (by decide)
 refine ⟨_,(pss_cons (ps_asg (pe_call G_Lplayed hr_Lplayed rfl m_Lplayed k_Lplayed b_Lplayed .nil pass0 (pa_cons (pv 0) (pa_cons (pe_callB call_len_seq rfl z_len bt_len (pa_cons (pv 0) pa_nil)) (pa_cons (pv 1) pa_nil)))) (pg_tup rfl (pgs_cons (pg_name (i:=2) sc_Lmost.nd rfl (Or.inl rfl)) (pgs_cons (pg_name (i:=3) sc_Lmost.nd rfl (Or.inl rfl)) pgs_nil)))) (pss_one (ps_ret (pe_callB (call_maxL rfl) rfl z_max bt_max (pa_cons (pe_lc rfl (lcs (own:=["_law_stand"]) (fv:=[]) (by kernel_rfl)) (pi_list (pv 2)) (fun z1=>pg_name (i:=0) (nd_of (by kernel_rfl)) rfl (Or.inl rfl)) (fun z1=>pts_nil) (fun z1=>(pe_callB (call_lenK (K:=K) rfl) rfl z_len bt_len (pa_cons (pv 0) pa_nil)))) pa_nil))))),?_⟩
 try dsimp only [Cx.nox,Cx.wish,cxOf]
 obtain ⟨rs,hA,NL⟩:=id PI.1
 have lrv:(((rs.map V.ref).length:Nat):Int)=(net.length:Int):=by rw [List.length_map,Paired.length NL]
 have mv:=PI.2.2.2.2.2.1
 have l10:=PI.2.2.2.2.1
 have rm:=run_most mv R
 refine cut fun N1 hN1=>?_
 refine ⟨_,rfl,_,rfl,a,_,rfl,.inr (SqT.of hA),_,rfl,a,l,net,ms,(net.length:Int),by rw [lrv];rfl,PI,fun T ls sts v H1 sm1 pl gT fls SA lsts=>?_⟩
 refine ⟨T,_,rfl,SqT.of gT,rfl,_,_,rfl,_,_,rfl,rfl,?_⟩
 refine hN1 _ _ ?_
 obtain ⟨ks,hks,NK⟩:=id SA
 have lks:=Paired.length NK
 rw [List.length_cons] at lks
 have ev:v=.non:=by
  rcases pl.kind with h | ⟨w0,h⟩
  ·exact h
  ·rw [h] at pl;exact absurd pl (rm.2 sts w0)
 subst ev
 refine ⟨_,rfl,ls,rfl,⟨_,SqL.of hks⟩,fun p hp=>?_⟩
 refine lc_list (p:=p) (a:=ls) (xs:=ks.map V.ref) (fun i σ Hc=>∃ (v:Option V),σ=[v]∧Same H1 Hc∧Hc p=some (.lst ((lens (([]::sts).take i)).map V.int))) ?_ ?_ ?_ ?_
 ·exact ⟨none,rfl,same_new hp _,upd_same⟩
 ·rintro i σ Hc hi ⟨v,rfl,sm,_⟩
  exact SqL.of (sm _ _ hks)
 ·refine fun i x σ Hc hx hI_2=>opq fun G_2 hG_2=>?_
  obtain ⟨v,rfl,sm,hpc⟩:=hI_2
  obtain ⟨r,hr',rfl⟩:=get_ref hx
  obtain ⟨z,ez,g⟩:=paired_get NK hr'
  refine hG_2 ?_
  have hi:=(List.getElem?_eq_some_iff.mp ez).1
  rw [List.length_cons] at hi
  refine ⟨_,rfl,r,_,rfl,.inr (SqT.of (sm _ _ g)),_,hpc,small_n (by unfold lens;rw [List.length_map,List.length_map,List.length_take];omega),_,rfl,same_put sm hp,?_⟩
  rw [upd_same]
  refine congrArg (fun l=>some (HO.lst l)) ?_
  rw [take_snoc ez]
  unfold lens
  rw [List.map_append,List.map_append,List.length_map]
  rfl
 ·refine fun σ Hc hI_3=>opq fun G_3 hG_3=>?_
  obtain ⟨v,rfl,sm,hpc⟩:=hI_3
  refine hG_3 ?_
  rw [List.length_map,lks,take_all (by rw [List.length_cons])] at hpc
  obtain ⟨sts0,p0,l0,t0,_⟩:=R.play .nil
  obtain ⟨e1,_⟩:=Play.one mv pl p0
  subst e1
  exact ⟨p,_,_,rfl,SqL.of hpc,t0,q Hc (sm1.trans sm)⟩
end
end Fw
set_option maxHeartbeats 0
namespace Fw
open PySem L2
section
variable {P:Program} {w:World} {K:PySem.W.Frag} {mg:Str→Option Value} {base:Heap} {f:Addr} {fd:FuncData} {f_Lplayed f_does:Addr} {fd_Lplayed fd_does:FuncData}
theorem kit_bb2:PySem.W.kitOne K (.type "bool") (.type "bool")=some true:=by rfl
theorem sc_Ltold:FnScope ["_law_net_here","_law_rooms","_law_plan","_law_asked_here","_law_handed","_law_stands","_law_word_here","_law_due","_law_found"] ["_law_net_here","_law_rooms","_law_plan","_law_asked_here"] (defScope s_Ltold):=⟨rfl,rfl,rfl,by decide +kernel,rfl,by decide +kernel,by decide +kernel⟩
theorem ok_Ltold (F:Fun K "_law_told" "_law_told" s_Ltold f fd) (G_Lplayed:FnOk P w K mg base CX0 2 f_Lplayed fd_Lplayed ["_law_net_here","_law_rooms","_law_plan"] spPlayL2) (b_Lplayed:Binds K fd_Lplayed ["_law_net_here","_law_rooms","_law_plan"] []) (k_Lplayed:PySem.W.keepIn K (.ref f_Lplayed)=true) (m_Lplayed:mg "_law_played" = some (.ref f_Lplayed)) (G_does:FnOk P w K mg base CX0 4 f_does fd_does ["net","rooms","plan","asked"] spDoes2) (b_does:Binds K fd_does ["net","rooms","plan","asked"] []) (k_does:PySem.W.keepIn K (.ref f_does)=true) (m_does:mg "does" = some (.ref f_does)) (z_list:mg "list" = none) (z_all:mg "all" = none) (z_isinstance:mg "isinstance" = none) (z_bool:mg "bool" = none):FnOk P w K mg base CX0 5 f fd ["_law_net_here","_law_rooms","_law_plan","_law_asked_here"] spTold2:=by
 refine F.ok sc_Ltold (fun vs H Q E h=>?_) (fun cdv A outer s H vs Q E hr h=>?_)
 ·obtain ⟨a,l,t,net,ms,rooms,asked,rfl,_⟩:=h
  rfl
 obtain ⟨a,l,t,net,ms,rooms,asked,rfl,PI,hT,l1,q⟩:=h
 have hu0:=hr.units0
 have hr_Lplayed:Room 2 _:=hr.mono (by decide)
 have hr_does:Room 4 _:=hr.mono (by decide)
 refine ⟨_,(pss_cons (ps_set (i:=4) sc_Ltold.nd rfl (Or.inl rfl) (pe_callTy call_list_of rfl z_list bt_list (pa_cons (pv 2) pa_nil))) (pss_cons (ps_asg (pe_call G_Lplayed hr_Lplayed rfl m_Lplayed k_Lplayed b_Lplayed .nil pass0 (pa_cons (pv 0) (pa_cons (pv 1) (pa_cons (pv 2) pa_nil)))) (pg_tup rfl (pgs_cons (pg_name (i:=5) sc_Ltold.nd rfl (Or.inr rfl)) (pgs_cons (pg_name (i:=6) sc_Ltold.nd rfl (Or.inl rfl)) pgs_nil)))) (pss_cons (ps_set (i:=7) sc_Ltold.nd rfl (Or.inl rfl) (pe_and (pe_cmp (pc_isN (pv 6))) (pe_one (pe_callB (call_all rfl) rfl z_all bt_all (pa_cons (pe_lc rfl (lcs (own:=["_law_work"]) (fv:=[5]) (by kernel_rfl)) (pi_tup (pv 3)) (fun z1=>pg_name (i:=0) (nd_of (by kernel_rfl)) rfl (Or.inl rfl)) (fun z1=>pts_nil) (fun z1=>(pe_cmpR (op_inK (K:=K) rfl) (pv 0) (pe_ix (ix_listK (K:=K) rfl) (pv 1) (pe_un un_neg pe_int) (fun _ _=>rfl)) (by with_unfolding_all rfl)))) pa_nil))))) (pss_cons (ps_set (i:=8) sc_Ltold.nd rfl (Or.inl rfl) (pe_call G_does hr_does rfl m_does k_does b_does .nil pass0 (pa_cons (pv 0) (pa_cons (pv 1) (pa_cons (pv 4) (pa_cons (pv 3) pa_nil)))))) (pss_one (ps_ret (pe_and (pe_callB call_isinst rfl z_isinstance bt_isinstance (pa_cons (pv 8) (pa_cons (pe_bltn (v:=.ty "bool") rfl z_bool bt_bool rfl) pa_nil))) (pe_and (pe_cmpR op_eq (pv 8) (pv 7) (nomark _)) (pe_one (pe_cmpR (op_eq_refsL hu0) (pv 4) (pv 2) (nomark _))))))))))),?_⟩
 try dsimp only [Cx.nox,Cx.wish,cxOf]
 have mv:=PI.2.2.2.2.2.1
 obtain ⟨rsP,gP,MP⟩:=id PI.2.2.2.1
 refine cut fun N1 hN1=>?_
 refine ⟨_,rfl,l,_,rfl,.inl (SqL.of gP),fun lh hlh=>?_⟩
 have sh:=same_new hlh (.lst (rsP.map V.ref))
 have gh:(upd H lh (.lst (rsP.map V.ref))) lh=some (.lst (rsP.map V.ref)):=upd_same
 generalize upd H lh (.lst (rsP.map V.ref))=H0 at sh gh ⊢
 refine hN1 _ _ (cut fun N2 hN2=>?_)
 refine ⟨_,rfl,_,rfl,_,rfl,a,l,net,ms,rooms,rfl,PI.same sh,fun T ls sts v H1 s1 pl gT fls SA lsts=>?_⟩
 refine ⟨T,_,rfl,SqT.of gT,rfl,_,_,rfl,_,_,rfl,rfl,?_⟩
 refine hN2 _ _ (cut fun N3 hN3=>?_)
 have s01:=sh.trans s1
 obtain ⟨ks,hks,NK⟩:=id SA
 obtain ⟨ss,r,ek,gr⟩:=last_at NK
 rw [ek] at hks
 -- behind what is due
 have rest:∀ (b:Bool) (Hx:Hp),Same H1 Hx→((v=.non→b=decide (∀ x ∈ asked,x ∈ lastSt [] sts))∧((∃ w0,v=.str w0)→b=false))→N3 [some (.ref a),some (.int rooms),some (.ref l),some (.ref t),some (.ref lh),some (.ref ls),some v,some (.bl b),none] Hx:=by
  intro b Hx sx hb
  refine hN3 _ _ (cut fun N4 hN4=>?_)
  have s0x:=s01.trans sx
  have ghx:=sx _ _ (s1 _ _ gh)
  have PIx:PlayIn2 Hx a lh net ms rooms:=⟨PI.1.same s0x,PI.2.1,PI.2.2.1,⟨rsP,ghx,MP.same s0x⟩,PI.2.2.2.2⟩
  have last:∀ (Hy:Hp),Same Hx Hy→N4 [some (.ref a),some (.int rooms),some (.ref l),some (.ref t),some (.ref lh),some (.ref ls),some v,some (.bl b),some (.bl b)] Hy:=by
   intro Hy sy
   refine hN4 _ _ ?_
   have s0y:=s0x.trans sy
   refine ⟨_,rfl,_,"bool",_,true,rfl,TyOf.bl b,kit_bb2,_,rfl,?_⟩
   refine ⟨_,rfl,_,rfl,rfl,_,rfl,?_⟩
   rw [decide_eq_true (rfl:V.bl b=V.bl b)]
   exact ⟨_,rfl,_,rfl,lh,l,rsP,rfl,rfl,SqL.of (sy _ _ ghx),SqL.of (s0y _ _ gP),q Hy s0y⟩
  refine ⟨_,rfl,_,rfl,_,rfl,_,rfl,a,lh,t,net,ms,rooms,asked,rfl,PIx,s0x _ _ hT,l1,fun sts2 H2 s2 pl2=>?_,fun sts2 w0 H2 s2 pl2=>?_⟩
  ·obtain ⟨e1,e2⟩:=Play.one mv pl pl2
   subst e1
   rw [← hb.1 e2]
   exact last H2 s2
  ·obtain ⟨e1,e2⟩:=Play.one mv pl pl2
   rw [← hb.2 ⟨w0,e2⟩]
   exact last H2 s2
 refine ⟨_,rfl,_,rfl,?_⟩
 rcases pl.kind with ev | ⟨w0,ev⟩
 ·subst ev
  rw [decide_eq_true (rfl:V.non=V.non)]
  refine ⟨_,rfl,t,rfl,⟨_,SqT.of (s01 _ _ hT)⟩,fun p hp=>?_⟩
  refine lc_tup (p:=p) (a:=t) (xs:=asked.map V.int) (fun i σ Hc=>∃ (v:Option V),σ=[v,some (.ref ls)]∧Same H1 Hc∧Hc p=some (.lst (((asked.take i).map fun x=>decide (x ∈ lastSt [] sts)).map V.bl))) ?_ ?_ ?_ ?_
  ·exact ⟨none,rfl,same_new hp _,upd_same⟩
  ·rintro i σ Hc hi ⟨v,rfl,sm,_⟩
   exact SqT.of (sm _ _ (s01 _ _ hT))
  ·refine fun i x σ Hc hx hI_2=>opq fun G_2 hG_2=>?_
   obtain ⟨v,rfl,sm,hpc⟩:=hI_2
   obtain ⟨z,ez,rfl⟩:=get_int hx
   refine hG_2 ?_
   have hi:=(List.getElem?_eq_some_iff.mp ez).1
   refine ⟨_,rfl,_,rfl,_,rfl,ls,_,_,_,rfl,rfl,SqL.of (sm _ _ hks),by rw [List.map_append];exact atI_last _ _,r,_,rfl,.inr (SqT.of (sm _ _ gr)),rfl,flat_ints _,_,hpc,small1000 (by rw [List.length_map,List.length_map,List.length_take];omega),_,rfl,same_put sm hp,?_⟩
   rw [upd_same]
   refine congrArg (fun l=>some (HO.lst l)) ?_
   rw [List.take_add_one,ez,Option.toList_some,List.map_append,List.map_append]
   show _++[V.bl (inV (.int z) ((lastSt [] sts).map V.int))]=_
   rw [inV_int]
   rfl
  ·refine fun σ Hc hI_3=>opq fun G_3 hG_3=>?_
   obtain ⟨v,rfl,sm,hpc⟩:=hI_3
   refine hG_3 ?_
   rw [List.length_map,List.take_of_length_le (Nat.le_refl _)] at hpc
   refine ⟨p,_,rfl,SqL.of hpc,?_⟩
   have e:((asked.map fun x=>decide (x ∈ lastSt [] sts)).all id)=decide (∀ x ∈ asked,x ∈ lastSt [] sts):=by
    rw [Bool.eq_iff_iff,decide_eq_true_eq]
    exact all_in
   rw [e]
   exact rest _ Hc sm ⟨fun _=>rfl,fun ⟨w0,h⟩=>by cases h⟩
 ·subst ev
  rw [decide_eq_false (show ¬ V.str w0=V.non from fun z=>nomatch z)]
  exact rest false H1 (fun _ _ h=>h) ⟨(fun h=>by cases h),fun _=>rfl⟩
end
end Fw
set_option maxHeartbeats 0
namespace Fw
open PySem L2
section
variable {P:Program} {w:World} {K:PySem.W.Frag} {mg:Str→Option Value} {base:Heap} {f:Addr} {fd:FuncData} {f_Ltake:Addr} {fd_Ltake:FuncData}
theorem pickDC {k:Int} (h0:0≤k) (h1:k<2):∃ v:Str,atI [V.str "do",V.str "clear"] k=some (.str v)∧(v = "do"∨v = "clear"):=by
 rcases (by omega:k=0∨k=1) with rfl | rfl
 ·exact ⟨_,rfl,.inl rfl⟩
 ·exact ⟨_,rfl,.inr rfl⟩
theorem sc_Lbent:FnScope ["_law_state","_law_net_here","_law_plan","_law_at","_law_new","_law_some"] ["_law_state","_law_net_here","_law_plan"] (defScope s_Lbent):=⟨rfl,rfl,rfl,by decide +kernel,rfl,by decide +kernel,by decide +kernel⟩
theorem ok_Lbent (F:Fun K "_law_bent" "_law_bent" s_Lbent f fd) (G_Ltake:FnOk P w K mg base CX0 1 f_Ltake fd_Ltake ["_law_state","_law_many"] spTake) (b_Ltake:Binds K fd_Ltake ["_law_state","_law_many"] []) (k_Ltake:PySem.W.keepIn K (.ref f_Ltake)=true) (m_Ltake:mg "_law_take" = some (.ref f_Ltake)) (z_len:mg "len" = none):FnOk P w K mg base CX0 2 f fd ["_law_state","_law_net_here","_law_plan"] spBent2:=by
 refine F.ok sc_Lbent (fun vs H Q E h=>?_) (fun cdv A outer s H vs Q E hr h=>?_)
 ·obtain ⟨d,c,t,ns,a,l,net,ms,rfl,_⟩:=h
  rfl
 obtain ⟨d,c,t,ns,a,l,net,ms,rfl,S,ht,hN,n1,n400,hP,nd,nc,l1000,ok,q⟩:=h
 have hr_Ltake:Room 1 _:=hr.mono (by decide)
 refine ⟨_,(pss_cons (ps_set (i:=3) sc_Lbent.nd rfl (Or.inl rfl) (pe_call G_Ltake hr_Ltake rfl m_Ltake k_Ltake b_Ltake .nil pass0 (pa_cons (pv 0) (pa_cons (pe_op op_add (pe_callB call_len_seq rfl z_len bt_len (pa_cons (pv 2) pa_nil)) pe_int) pa_nil)))) (pss_cons (ps_set (i:=4) sc_Lbent.nd rfl (Or.inl rfl) (pe_tup (pa_cons (pe_ix ix_list (pe_lst (pa_cons pe_str (pa_cons pe_str pa_nil))) (pe_call G_Ltake hr_Ltake rfl m_Ltake k_Ltake b_Ltake .nil pass0 (pa_cons (pv 0) (pa_cons pe_int pa_nil))) (fun _ _=>rfl)) (pa_cons (pe_call G_Ltake hr_Ltake rfl m_Ltake k_Ltake b_Ltake .nil pass0 (pa_cons (pv 0) (pa_cons (pe_callB call_len_seq rfl z_len bt_len (pa_cons (pv 1) pa_nil)) pa_nil))) pa_nil)))) (pss_cons (ps_set (i:=5) sc_Lbent.nd rfl (Or.inl rfl) (pe_lst (pa_cons (pe_op op_cat (pe_slice sl_list (pv 2) po_none (po_some (pv 3))) (pe_slice sl_list (pv 2) (po_some (pe_op op_add (pv 3) pe_int)) po_none)) (pa_cons (pe_op op_cat (pe_op op_cat (pe_slice sl_list (pv 2) po_none (po_some (pv 3))) (pe_lst (pa_cons (pv 4) pa_nil))) (pe_slice sl_list (pv 2) (po_some (pv 3)) po_none)) (pa_cons (pe_op op_cat (pe_op op_cat (pe_slice sl_list (pv 2) po_none (po_some (pv 3))) (pe_sliceR (pe_slice sl_list (pv 2) (po_some (pv 3)) (po_some (pe_op op_add (pv 3) pe_int))) (po_some (pe_un un_neg pe_int)))) (pe_slice sl_list (pv 2) (po_some (pe_op op_add (pv 3) pe_int)) po_none)) pa_nil))))) (pss_one (ps_ret (pe_ix ix_list (pe_op op_cat (pv 5) (pe_lst (pa_cons (pe_slice sl_list (pv 2) po_none (po_some (pv 3))) (pa_cons (pe_op op_cat (pv 2) (pe_lst (pa_cons (pv 4) pa_nil))) pa_nil)))) (pe_call G_Ltake hr_Ltake rfl m_Ltake k_Ltake b_Ltake .nil pass0 (pa_cons (pv 0) (pa_cons pe_int pa_nil))) (fun _ _=>rfl))))))),?_⟩
 try dsimp only [Cx.nox,Cx.wish,cxOf]
 have ht':t≤1000000000 - 100:=ht
 obtain ⟨rs,hl,M⟩:=hP
 have lrs:=Paired.length M
 refine cut fun N1 hN1=>?_
 refine ⟨_,rfl,_,rfl,l,_,rfl,.inl (SqL.of hl),_,_,rfl,rfl,d,c,t,ns,_,rfl,S,(by show t≤1000000000;omega),by rw [List.length_map];omega,by rw [List.length_map];omega,fun at_ ns1 H1 a0 a1 S1 K1=>?_⟩
 have hN1':=hN.keep S K1
 refine hN1 _ _ (cut fun N2 hN2=>?_)
 refine ⟨(by show 2≤sizeLine;decide),fun p0 hp0=>?_⟩
 have sp0:=same_new hp0 (.lst [.str "do",.str "clear"])
 have S2:=S1.same sp0
 have np0:p0 ≠ d∧p0 ≠ c:=⟨(ne_of_none S1.dict hp0).symm,(ne_of_none S1.list hp0).symm⟩
 refine ⟨_,rfl,d,c,t+1,ns1,2,rfl,S2,(by show t+1≤1000000000;omega),by decide,by decide,fun kw ns2 H2 kw0 kw1 S3 K3=>?_⟩
 obtain ⟨word,hw,hword⟩:=pickDC kw0 kw1
 refine ⟨p0,_,_,_,rfl,rfl,SqL.of (K3 _ _ upd_same np0.1 np0.2),hw,?_⟩
 have hN3:=(hN1'.same sp0).keep S2 K3
 obtain ⟨ws,hA,NL⟩:=id hN3
 have lrv:(((ws.map V.ref).length:Nat):Int)=(net.length:Int):=by rw [List.length_map,Paired.length NL]
 refine ⟨_,rfl,_,rfl,a,_,rfl,.inr (SqT.of hA),d,c,t+1+1,ns2,_,rfl,S3,(by show t+1+1≤1000000000;omega),by rw [lrv];omega,by rw [lrv];omega,fun wk ns3 H3 w0 w1 S4 K4=>?_⟩
 rw [lrv] at w1
 refine ⟨(by show 2≤sizeLine;decide),fun mv hmv=>?_⟩
 have smv:=same_new hmv (.tup [.str word,.int wk])
 have S5:=S4.same smv
 have gmv:(upd H3 mv (.tup [.str word,.int wk])) mv=some (.tup [.str word,.int wk]):=upd_same
 have KK:Keep d c H (upd H3 mv (.tup [.str word,.int wk])):=(((K1.trans (.of_same sp0)).trans K3).trans K4).trans (.of_same smv)
 generalize upd H3 mv (.tup [.str word,.int wk])=H4 at S5 gmv KK ⊢
 have hl4:=KK _ _ hl nd nc
 have M4:=MovL.keep M S KK
 have okn:=MvOk.one (net:=net) hword w0 w1
 have c1:=cutI_len ms none (some at_)
 have c2:=cutI_len ms (some at_) none
 have c3:=cutI_len ms (some (at_+1)) none
 have c4:=cutI_len ms (some at_) (some (at_+2))
 have c5:=cutI_len ms (some (at_+2)) none
 have d1:=cutI_len rs none (some at_)
 have d2:=cutI_len rs (some at_) none
 have d3:=cutI_len rs (some (at_+1)) none
 have d4:=cutI_len rs (some at_) (some (at_+2))
 have d5:=cutI_len rs (some (at_+2)) none
 have o1:=ok.cut none (some at_)
 have m1:=M4.cut none (some at_)
 refine hN2 _ _ (cut fun N3 hN3=>?_)
 -- without it
 refine ⟨_,rfl,_,rfl,_,rfl,l,_,rfl,SqL.of hl4,fun p1 hp1=>?_⟩
 rw [cutV_map]
 have s1:=same_new hp1 (.lst ((cutI rs none (some at_)).map V.ref))
 refine ⟨_,rfl,_,rfl,_,_,rfl,rfl,_,rfl,l,_,rfl,SqL.of (s1 _ _ hl4),fun p2 hp2=>?_⟩
 rw [cutV_map]
 have e2:=same_new hp2 (.lst ((cutI rs (some (at_+1)) none).map V.ref))
 refine ⟨p1,p2,_,_,rfl,rfl,e2 _ _ upd_same,upd_same,(by rw [List.length_map,List.length_map,sizeLine_eq];omega),fun pA hpA=>?_⟩
 rw [← List.map_append]
 have sA:=(s1.trans e2).trans (same_new hpA (.lst ((cutI rs none (some at_)++cutI rs (some (at_+1)) none).map V.ref)))
 have gA:(upd (upd (upd H4 p1 (.lst ((cutI rs none (some at_)).map V.ref))) p2 (.lst ((cutI rs (some (at_+1)) none).map V.ref))) pA (.lst ((cutI rs none (some at_)++cutI rs (some (at_+1)) none).map V.ref))) pA=some (.lst ((cutI rs none (some at_)++cutI rs (some (at_+1)) none).map V.ref)):=upd_same
 generalize upd (upd (upd H4 p1 (.lst ((cutI rs none (some at_)).map V.ref))) p2 (.lst ((cutI rs (some (at_+1)) none).map V.ref))) pA (.lst ((cutI rs none (some at_)++cutI rs (some (at_+1)) none).map V.ref))=HA at sA gA ⊢
 -- with one more
 refine ⟨_,rfl,_,rfl,_,rfl,l,_,rfl,SqL.of (sA _ _ hl4),fun p3 hp3=>?_⟩
 rw [cutV_map]
 have e3:=same_new hp3 (.lst ((cutI rs none (some at_)).map V.ref))
 refine ⟨_,rfl,(by show 1≤sizeLine;decide),fun p4 hp4=>?_⟩
 have e4:=same_new hp4 (.lst [.ref mv])
 refine ⟨p3,p4,_,_,rfl,rfl,e4 _ _ upd_same,upd_same,(by rw [List.length_map,List.length_singleton,sizeLine_eq];omega),fun p5 hp5=>?_⟩
 rw [map_snoc]
 have e5:=same_new hp5 (.lst ((cutI rs none (some at_)++[mv]).map V.ref))
 have s5:=((sA.trans e3).trans e4).trans e5
 refine ⟨_,rfl,_,rfl,_,rfl,l,_,rfl,SqL.of (s5 _ _ hl4),fun p6 hp6=>?_⟩
 rw [cutV_map]
 have e6:=same_new hp6 (.lst ((cutI rs (some at_) none).map V.ref))
 refine ⟨p5,p6,_,_,rfl,rfl,e6 _ _ upd_same,upd_same,(by rw [List.length_map,List.length_map,List.length_append,List.length_singleton,sizeLine_eq];omega),fun pB hpB=>?_⟩
 rw [← List.map_append]
 have sAB:=(((e3.trans e4).trans e5).trans e6).trans (same_new hpB (.lst ((cutI rs none (some at_)++[mv]++cutI rs (some at_) none).map V.ref)))
 have gB:(upd (upd (upd (upd (upd HA p3 (.lst ((cutI rs none (some at_)).map V.ref))) p4 (.lst [.ref mv])) p5 (.lst ((cutI rs none (some at_)++[mv]).map V.ref))) p6 (.lst ((cutI rs (some at_) none).map V.ref))) pB (.lst ((cutI rs none (some at_)++[mv]++cutI rs (some at_) none).map V.ref))) pB=some (.lst ((cutI rs none (some at_)++[mv]++cutI rs (some at_) none).map V.ref)):=upd_same
 generalize upd (upd (upd (upd (upd HA p3 (.lst ((cutI rs none (some at_)).map V.ref))) p4 (.lst [.ref mv])) p5 (.lst ((cutI rs none (some at_)++[mv]).map V.ref))) p6 (.lst ((cutI rs (some at_) none).map V.ref))) pB (.lst ((cutI rs none (some at_)++[mv]++cutI rs (some at_) none).map V.ref))=HB at sAB gB ⊢
 have sB:=sA.trans sAB
 -- two exchanged
 refine ⟨_,rfl,_,rfl,_,rfl,l,_,rfl,SqL.of (sB _ _ hl4),fun q1 hq1=>?_⟩
 rw [cutV_map]
 have f1:=same_new hq1 (.lst ((cutI rs none (some at_)).map V.ref))
 refine ⟨_,rfl,_,rfl,_,rfl,_,rfl,_,_,rfl,rfl,_,rfl,l,_,rfl,SqL.of (f1 _ _ (sB _ _ hl4)),fun q2 hq2=>?_⟩
 rw [cutV_map]
 have f2:=same_new hq2 (.lst ((cutI rs (some at_) (some (at_+2))).map V.ref))
 refine ⟨_,rfl,_,rfl,rfl,q2,_,rfl,SqL.of upd_same,fun q3 hq3=>?_⟩
 rw [← List.map_reverse]
 have f3:=same_new hq3 (.lst ((cutI rs (some at_) (some (at_+2))).reverse.map V.ref))
 refine ⟨q1,q3,_,_,rfl,rfl,f3 _ _ (f2 _ _ upd_same),upd_same,(by rw [List.length_map,List.length_map,List.length_reverse,sizeLine_eq];omega),fun q4 hq4=>?_⟩
 rw [← List.map_append]
 have f4:=same_new hq4 (.lst ((cutI rs none (some at_)++(cutI rs (some at_) (some (at_+2))).reverse).map V.ref))
 have sq:=((f1.trans f2).trans f3).trans f4
 refine ⟨_,rfl,_,rfl,_,_,rfl,rfl,_,rfl,l,_,rfl,SqL.of (sq _ _ (sB _ _ hl4)),fun q5 hq5=>?_⟩
 rw [cutV_map]
 have f5:=same_new hq5 (.lst ((cutI rs (some (at_+2)) none).map V.ref))
 refine ⟨q4,q5,_,_,rfl,rfl,f5 _ _ upd_same,upd_same,(by rw [List.length_map,List.length_map,List.length_append,List.length_reverse,sizeLine_eq];omega),fun pC hpC=>?_⟩
 rw [← List.map_append]
 have sBC:=(sq.trans f5).trans (same_new hpC (.lst ((cutI rs none (some at_)++(cutI rs (some at_) (some (at_+2))).reverse++cutI rs (some (at_+2)) none).map V.ref)))
 have gC:=(upd_same:(upd (upd (upd (upd (upd (upd HB q1 (.lst ((cutI rs none (some at_)).map V.ref))) q2 (.lst ((cutI rs (some at_) (some (at_+2))).map V.ref))) q3 (.lst ((cutI rs (some at_) (some (at_+2))).reverse.map V.ref))) q4 (.lst ((cutI rs none (some at_)++(cutI rs (some at_) (some (at_+2))).reverse).map V.ref))) q5 (.lst ((cutI rs (some (at_+2)) none).map V.ref))) pC (.lst ((cutI rs none (some at_)++(cutI rs (some at_) (some (at_+2))).reverse++cutI rs (some (at_+2)) none).map V.ref))) pC=some (.lst ((cutI rs none (some at_)++(cutI rs (some at_) (some (at_+2))).reverse++cutI rs (some (at_+2)) none).map V.ref)))
 generalize upd (upd (upd (upd (upd (upd HB q1 (.lst ((cutI rs none (some at_)).map V.ref))) q2 (.lst ((cutI rs (some at_) (some (at_+2))).map V.ref))) q3 (.lst ((cutI rs (some at_) (some (at_+2))).reverse.map V.ref))) q4 (.lst ((cutI rs none (some at_)++(cutI rs (some at_) (some (at_+2))).reverse).map V.ref))) q5 (.lst ((cutI rs (some (at_+2)) none).map V.ref))) pC (.lst ((cutI rs none (some at_)++(cutI rs (some at_) (some (at_+2))).reverse++cutI rs (some (at_+2)) none).map V.ref))=HC at sBC gC ⊢
 have sC:=sB.trans sBC
 refine ⟨(by show 3≤sizeLine;decide),fun ps hps=>?_⟩
 have sS:=same_new hps (.lst [.ref pA,.ref pB,.ref pC])
 have gS:(upd HC ps (.lst [.ref pA,.ref pB,.ref pC])) ps=some (.lst [.ref pA,.ref pB,.ref pC]):=upd_same
 have sD:=sC.trans sS
 have gA':=sS _ _ (sBC _ _ (sAB _ _ gA))
 have gB':=sS _ _ (sBC _ _ gB)
 have gC':=sS _ _ gC
 generalize upd HC ps (.lst [.ref pA,.ref pB,.ref pC])=HD at sD gS gA' gB' gC' ⊢
 refine hN3 _ _ ?_
 refine ⟨_,rfl,_,rfl,_,rfl,_,rfl,l,_,rfl,SqL.of (sD _ _ hl4),fun pD hpD=>?_⟩
 rw [cutV_map]
 have u1:=same_new hpD (.lst ((cutI rs none (some at_)).map V.ref))
 refine ⟨_,rfl,_,rfl,(by show 1≤sizeLine;decide),fun p7 hp7=>?_⟩
 have u2:=same_new hp7 (.lst [.ref mv])
 refine ⟨l,p7,_,_,rfl,rfl,u2 _ _ (u1 _ _ (sD _ _ hl4)),upd_same,(by rw [List.length_map,List.length_singleton,sizeLine_eq];omega),fun pE hpE=>?_⟩
 rw [map_snoc]
 have u3:=same_new hpE (.lst ((rs++[mv]).map V.ref))
 refine ⟨(by show 2≤sizeLine;decide),fun p8 hp8=>?_⟩
 have u4:=same_new hp8 (.lst [.ref pD,.ref pE])
 have su:=((u1.trans u2).trans u3).trans u4
 refine ⟨ps,p8,_,_,rfl,rfl,su _ _ gS,upd_same,(by show 3+2≤sizeLine;decide),fun p9 hp9=>?_⟩
 have u5:=same_new hp9 (.lst ([.ref pA,.ref pB,.ref pC]++[.ref pD,.ref pE]))
 have sE:=su.trans u5
 have gD':=u5 _ _ (u4 _ _ (u3 _ _ (u2 _ _ (show (upd HD pD (.lst ((cutI rs none (some at_)).map V.ref))) pD=some (.lst ((cutI rs none (some at_)).map V.ref)) from upd_same))))
 have gE':=u5 _ _ (u4 _ _ (show (upd (upd (upd HD pD (.lst ((cutI rs none (some at_)).map V.ref))) p7 (.lst [.ref mv])) pE (.lst ((rs++[mv]).map V.ref))) pE=some (.lst ((rs++[mv]).map V.ref)) from upd_same))
 have g9:(upd (upd (upd (upd (upd HD pD (.lst ((cutI rs none (some at_)).map V.ref))) p7 (.lst [.ref mv])) pE (.lst ((rs++[mv]).map V.ref))) p8 (.lst [.ref pD,.ref pE])) p9 (.lst ([.ref pA,.ref pB,.ref pC]++[.ref pD,.ref pE]))) p9=some (.lst ([.ref pA,.ref pB,.ref pC]++[.ref pD,.ref pE])):=upd_same
 generalize upd (upd (upd (upd (upd HD pD (.lst ((cutI rs none (some at_)).map V.ref))) p7 (.lst [.ref mv])) pE (.lst ((rs++[mv]).map V.ref))) p8 (.lst [.ref pD,.ref pE])) p9 (.lst ([.ref pA,.ref pB,.ref pC]++[.ref pD,.ref pE]))=HE at sE gD' gE' g9 ⊢
 have sAll:=sD.trans sE
 have SE:=S5.same sAll
 refine ⟨_,rfl,d,c,t+1+1+1,ns3,5,rfl,SE,(by show t+1+1+1≤1000000000;omega),by decide,by decide,fun wy ns4 HF y0 y1 SF KF=>?_⟩
 have n9:p9 ≠ d∧p9 ≠ c:=⟨(ne_of_none ((S5.same sD).same su).dict hp9).symm,(ne_of_none ((S5.same sD).same su).list hp9).symm⟩
 have g9F:=KF _ _ g9 n9.1 n9.2
 have KFF:Keep d c H HF:=(KK.trans (.of_same sAll)).trans KF
 have fin:∀ (p:Addr) (rs':List Addr) (ms':List Mv),HE p=some (.lst (rs'.map V.ref))→MovL H4 rs' ms'→MvOk net ms'→ms'.length≤3 * ms.length+1→p ≠ d→p ≠ c→Q (.ref p) HF:=fun p rs' ms' g m o le pd pc=>
  q p ms' (t+1+1+1+1) ns4 HF SF (by omega) (by omega) KFF ⟨rs',KF _ _ g pd pc,MovL.keep (m.same sAll) SE KF⟩ o le pd pc
 have nw:∀ (p:Addr) (Hx:Hp),Hx p=none→Same H4 Hx→p ≠ d∧p ≠ c:=fun p Hx hp sx=>⟨(ne_of_none (S5.same sx).dict hp).symm,(ne_of_none (S5.same sx).list hp).symm⟩
 rcases (by omega:wy=0∨wy=1∨wy=2∨wy=3∨wy=4) with rfl | rfl | rfl | rfl | rfl
 ·refine ⟨p9,_,_,.ref pA,rfl,rfl,SqL.of g9F,rfl,?_⟩
  have n:=nw pA _ hpA (s1.trans e2)
  exact fin pA _ (cutI ms none (some at_)++cutI ms (some (at_+1)) none) (sE _ _ gA') (m1.app (M4.cut (some (at_+1)) none)) (o1.app (ok.cut (some (at_+1)) none)) (by rw [List.length_append];omega) n.1 n.2
 ·refine ⟨p9,_,_,.ref pB,rfl,rfl,SqL.of g9F,rfl,?_⟩
  have n:=nw pB _ hpB (s5.trans e6)
  exact fin pB _ (cutI ms none (some at_)++[(word,wk)]++cutI ms (some at_) none) (sE _ _ gB') ((m1.snoc gmv).app (M4.cut (some at_) none)) ((o1.app okn).app (ok.cut (some at_) none)) (by rw [List.length_append,List.length_append,List.length_singleton];omega) n.1 n.2
 ·refine ⟨p9,_,_,.ref pC,rfl,rfl,SqL.of g9F,rfl,?_⟩
  have n:=nw pC _ hpC (sB.trans (sq.trans f5))
  exact fin pC _ (cutI ms none (some at_)++(cutI ms (some at_) (some (at_+2))).reverse++cutI ms (some (at_+2)) none) (sE _ _ gC') ((m1.app (paired_rev (M4.cut (some at_) (some (at_+2))))).app (M4.cut (some (at_+2)) none)) ((o1.app (ok.cut (some at_) (some (at_+2))).rev).app (ok.cut (some (at_+2)) none)) (by rw [List.length_append,List.length_append,List.length_reverse];omega) n.1 n.2
 ·refine ⟨p9,_,_,.ref pD,rfl,rfl,SqL.of g9F,rfl,?_⟩
  have n:=nw pD _ hpD sD
  exact fin pD _ (cutI ms none (some at_)) gD' m1 o1 (by omega) n.1 n.2
 ·refine ⟨p9,_,_,.ref pE,rfl,rfl,SqL.of g9F,rfl,?_⟩
  have n:=nw pE _ hpE (sD.trans (u1.trans u2))
  exact fin pE _ (ms++[(word,wk)]) gE' (M4.snoc gmv) (ok.app okn) (by rw [List.length_append,List.length_singleton];omega) n.1 n.2
end
end Fw
set_option maxHeartbeats 0
namespace Fw
open PySem L2
structure C16 (H:Hp) (a ta l:Addr) (net:List (List Int)) (asked:List Int) (ms:List Mv):Prop where
 gN:NetAt H a net
 gT:H ta=some (.tup (asked.map V.int))
 gP:PlanAt H l ms
theorem C16.same {H H':Hp} {a ta l:Addr} {net:List (List Int)} {asked:List Int} {ms:List Mv} (h:C16 H a ta l net asked ms) (s:Same H H'):C16 H' a ta l net asked ms:=⟨h.gN.same s,s _ _ h.gT,h.gP.same s⟩
theorem C16.keep {H H':Hp} {d c a ta l:Addr} {t:Int} {ns:List Int} {net:List (List Int)} {asked:List Int} {ms:List Mv} (h:C16 H a ta l net asked ms) (S:StAt H d c t ns) (k:Keep d c H H') (n:l ≠ d∧l ≠ c):C16 H' a ta l net asked ms:=⟨h.gN.keep S k,k _ _ h.gT (S.tup h.gT).1 (S.tup h.gT).2,h.gP.keep S k n.1 n.2⟩
section
variable {P:Program} {w:World} {K:PySem.W.Frag} {mg:Str→Option Value} {base:Heap} {f:Addr} {fd:FuncData} {f_Lbegin f_Ltake f_Lcase f_Ldoing f_Lmost f_does f_Ltold f_Lasked f_Lbent:Addr} {fd_Lbegin fd_Ltake fd_Lcase fd_Ldoing fd_Lmost fd_does fd_Ltold fd_Lasked fd_Lbent:FuncData}
theorem sc_law:FnScope ["_law_script","_law_state","_law_turn","_law_net_here","_law_asked_here","_law_many","_law_plan","_law_most_here","_law_rooms","_law_others","_law_again","_law_bent_here"] ["_law_script"] (defScope s_law):=⟨rfl,rfl,rfl,by decide +kernel,rfl,by decide +kernel,by decide +kernel⟩
theorem ok_law (F:Fun K "law" "law" s_law f fd) (G_Lbegin:FnOk P w K mg base CX0 1 f_Lbegin fd_Lbegin ["_law_script"] (spBegin K)) (b_Lbegin:Binds K fd_Lbegin ["_law_script"] []) (k_Lbegin:PySem.W.keepIn K (.ref f_Lbegin)=true) (m_Lbegin:mg "_law_begin" = some (.ref f_Lbegin)) (G_Ltake:FnOk P w K mg base CX0 1 f_Ltake fd_Ltake ["_law_state","_law_many"] spTake) (b_Ltake:Binds K fd_Ltake ["_law_state","_law_many"] []) (k_Ltake:PySem.W.keepIn K (.ref f_Ltake)=true) (m_Ltake:mg "_law_take" = some (.ref f_Ltake)) (G_Lcase:FnOk P w K mg base CX0 4 f_Lcase fd_Lcase ["_law_state"] spCase2) (b_Lcase:Binds K fd_Lcase ["_law_state"] []) (k_Lcase:PySem.W.keepIn K (.ref f_Lcase)=true) (m_Lcase:mg "_law_case" = some (.ref f_Lcase)) (G_Ldoing:FnOk P w K mg base CX0 4 f_Ldoing fd_Ldoing ["_law_state","_law_net_here","_law_asked_here","_law_many"] spDoing) (b_Ldoing:Binds K fd_Ldoing ["_law_state","_law_net_here","_law_asked_here","_law_many"] []) (k_Ldoing:PySem.W.keepIn K (.ref f_Ldoing)=true) (m_Ldoing:mg "_law_doing" = some (.ref f_Ldoing)) (G_Lmost:FnOk P w K mg base CX0 3 f_Lmost fd_Lmost ["_law_net_here","_law_plan"] spMost2) (b_Lmost:Binds K fd_Lmost ["_law_net_here","_law_plan"] []) (k_Lmost:PySem.W.keepIn K (.ref f_Lmost)=true) (m_Lmost:mg "_law_most" = some (.ref f_Lmost)) (G_does:FnOk P w K mg base CX0 4 f_does fd_does ["net","rooms","plan","asked"] spDoes2) (b_does:Binds K fd_does ["net","rooms","plan","asked"] []) (k_does:PySem.W.keepIn K (.ref f_does)=true) (m_does:mg "does" = some (.ref f_does)) (G_Ltold:FnOk P w K mg base CX0 5 f_Ltold fd_Ltold ["_law_net_here","_law_rooms","_law_plan","_law_asked_here"] spTold2) (b_Ltold:Binds K fd_Ltold ["_law_net_here","_law_rooms","_law_plan","_law_asked_here"] []) (k_Ltold:PySem.W.keepIn K (.ref f_Ltold)=true) (m_Ltold:mg "_law_told" = some (.ref f_Ltold)) (G_Lasked:FnOk P w K mg base CX0 2 f_Lasked fd_Lasked ["_law_state","_law_net_here"] spAsked4) (b_Lasked:Binds K fd_Lasked ["_law_state","_law_net_here"] []) (k_Lasked:PySem.W.keepIn K (.ref f_Lasked)=true) (m_Lasked:mg "_law_asked" = some (.ref f_Lasked)) (G_Lbent:FnOk P w K mg base CX0 2 f_Lbent fd_Lbent ["_law_state","_law_net_here","_law_plan"] spBent2) (b_Lbent:Binds K fd_Lbent ["_law_state","_law_net_here","_law_plan"] []) (k_Lbent:PySem.W.keepIn K (.ref f_Lbent)=true) (m_Lbent:mg "_law_bent" = some (.ref f_Lbent))
  (z_range:mg "range" = none) (z_len:mg "len" = none) (z_int:mg "int" = none):FnOk P w K mg base CX0 6 f fd ["_law_script"] (spLaw K):=by
 refine F.ok sc_law (fun vs H Q E h=>?_) (fun cdv A outer s H vs Q E hr h=>?_)
 ·obtain ⟨a,ns,rfl,_⟩:=h
  rfl
 obtain ⟨sc,ns,rfl,hS,h63,q⟩:=h
 have hr_Lbegin:Room 1 _:=hr.mono (by decide)
 have hr_Ltake:Room 1 _:=hr.mono (by decide)
 have hr_Lcase:Room 4 _:=hr.mono (by decide)
 have hr_Ldoing:Room 4 _:=hr.mono (by decide)
 have hr_Lmost:Room 3 _:=hr.mono (by decide)
 have hr_does:Room 4 _:=hr.mono (by decide)
 have hr_Ltold:Room 5 _:=hr.mono (by decide)
 have hr_Lasked:Room 2 _:=hr.mono (by decide)
 have hr_Lbent:Room 2 _:=hr.mono (by decide)
 refine ⟨_,(pss_cons (ps_set (i:=1) sc_law.nd rfl (Or.inl rfl) (pe_call G_Lbegin hr_Lbegin rfl m_Lbegin k_Lbegin b_Lbegin .nil pass0 (pa_cons (pv 0) pa_nil))) (pss_cons (ps_for PassesOwn.never rfl (pi_range1 rfl z_range (pa_cons (pe_op op_add pe_int (pe_call G_Ltake hr_Ltake rfl m_Ltake k_Ltake b_Ltake .nil pass0 (pa_cons (pv 1) (pa_cons pe_int pa_nil)))) pa_nil)) (pg_name (i:=2) sc_law.nd rfl (Or.inl rfl)) (pss_cons (ps_asg (pe_call G_Lcase hr_Lcase rfl m_Lcase k_Lcase b_Lcase .nil pass0 (pa_cons (pv 1) pa_nil)) (pg_tup rfl (pgs_cons (pg_name (i:=3) sc_law.nd rfl (Or.inl rfl)) (pgs_cons (pg_name (i:=4) sc_law.nd rfl (Or.inl rfl)) pgs_nil)))) (pss_cons (ps_set (i:=5) sc_law.nd rfl (Or.inl rfl) (pe_ix ix_list (pe_lst (pa_cons (pe_call G_Ltake hr_Ltake rfl m_Ltake k_Ltake b_Ltake .nil pass0 (pa_cons (pv 1) (pa_cons pe_int pa_nil))) (pa_cons (pe_call G_Ltake hr_Ltake rfl m_Ltake k_Ltake b_Ltake .nil pass0 (pa_cons (pv 1) (pa_cons pe_int pa_nil))) pa_nil))) (pe_callTy call_int1 rfl z_int bt_int (pa_cons (pe_cmpR op_eq (pe_call G_Ltake hr_Ltake rfl m_Ltake k_Ltake b_Ltake .nil pass0 (pa_cons (pv 1) (pa_cons pe_int pa_nil))) pe_int (nomark _)) pa_nil)) (fun _ _=>rfl))) (pss_cons (ps_set (i:=6) sc_law.nd rfl (Or.inl rfl) (pe_call G_Ldoing hr_Ldoing rfl m_Ldoing k_Ldoing b_Ldoing .nil pass0 (pa_cons (pv 1) (pa_cons (pv 3) (pa_cons (pv 4) (pa_cons (pv 5) pa_nil)))))) (pss_cons (ps_set (i:=7) sc_law.nd rfl (Or.inl rfl) (pe_call G_Lmost hr_Lmost rfl m_Lmost k_Lmost b_Lmost .nil pass0 (pa_cons (pv 3) (pa_cons (pv 6) pa_nil)))) (pss_cons (ps_for PassesOwn.never rfl (pi_tup (pe_tup (pa_cons (pv 7) (pa_cons (pe_op op_add (pv 7) pe_int) (pa_cons (pe_op op_add (pe_callB call_len_seq rfl z_len bt_len (pa_cons (pv 3) pa_nil)) pe_int) (pa_cons pe_int pa_nil)))))) (pg_name (i:=8) sc_law.nd rfl (Or.inl rfl)) (pss_one (ps_if (PW.pt (pw_or (pt_cmpR op_isnotB (pe_call G_does hr_does rfl m_does k_does b_does .nil pass0 (pa_cons (pv 3) (pa_cons (pv 8) (pa_cons (pv 6) (pa_cons (pv 4) pa_nil))))) pe_bl (nomark _)) (pw_or1 (pt_not (pt_val (pe_call G_Ltold hr_Ltold rfl m_Ltold k_Ltold b_Ltold .nil pass0 (pa_cons (pv 3) (pa_cons (pv 8) (pa_cons (pv 6) (pa_cons (pv 4) pa_nil)))))))))) (pss_one (ps_ret pe_bl)) pss_nil))) (pss_cons (ps_if (PW.pt (pw_and (pt_cmpR op_gt (pv 7) pe_int (nomark _)) (pw_and1 (pt_cmpR op_isnotB (pe_call G_does hr_does rfl m_does k_does b_does .nil pass0 (pa_cons (pv 3) (pa_cons (pe_op op_sub (pv 7) pe_int) (pa_cons (pv 6) (pa_cons (pv 4) pa_nil))))) pe_bl (nomark _))))) (pss_one (ps_ret pe_bl)) pss_nil) (pss_cons (ps_set (i:=9) sc_law.nd rfl (Or.inl rfl) (pe_call G_Lasked hr_Lasked rfl m_Lasked k_Lasked b_Lasked .nil pass0 (pa_cons (pv 1) (pa_cons (pv 3) pa_nil)))) (pss_cons (ps_for PassesOwn.never rfl (pi_range1 rfl z_range (pa_cons pe_int pa_nil)) (pg_name (i:=10) sc_law.nd rfl (Or.inl rfl)) (pss_cons (ps_set (i:=11) sc_law.nd rfl (Or.inl rfl) (pe_call G_Lbent hr_Lbent rfl m_Lbent k_Lbent b_Lbent .nil pass0 (pa_cons (pv 1) (pa_cons (pv 3) (pa_cons (pv 6) pa_nil))))) (pss_cons (ps_set (i:=8) sc_law.nd rfl (Or.inl rfl) (pe_op op_add pe_int (pe_call G_Ltake hr_Ltake rfl m_Ltake k_Ltake b_Ltake .nil pass0 (pa_cons (pv 1) (pa_cons (pe_op op_add (pe_callB call_len_seq rfl z_len bt_len (pa_cons (pv 3) pa_nil)) pe_int) pa_nil))))) (pss_one (ps_if (PW.pt (pw_or (pt_not (pt_val (pe_call G_Ltold hr_Ltold rfl m_Ltold k_Ltold b_Ltold .nil pass0 (pa_cons (pv 3) (pa_cons (pv 8) (pa_cons (pv 11) (pa_cons (pv 4) pa_nil))))))) (pw_or1 (pt_not (pt_val (pe_call G_Ltold hr_Ltold rfl m_Ltold k_Ltold b_Ltold .nil pass0 (pa_cons (pv 3) (pa_cons (pv 7) (pa_cons (pv 11) (pa_cons (pv 9) pa_nil)))))))))) (pss_one (ps_ret pe_bl)) pss_nil))))) (pss_one (ps_if (PW.pt (pw_or (pt_not (pt_val (pe_call G_Ltold hr_Ltold rfl m_Ltold k_Ltold b_Ltold .nil pass0 (pa_cons (pv 3) (pa_cons (pv 8) (pa_cons (pe_lst pa_nil) (pa_cons (pv 4) pa_nil))))))) (pw_or1 (pt_not (pt_val (pe_call G_Ltold hr_Ltold rfl m_Ltold k_Ltold b_Ltold .nil pass0 (pa_cons (pv 3) (pa_cons (pv 8) (pa_cons (pv 6) (pa_cons (pv 9) pa_nil)))))))))) (pss_one (ps_ret pe_bl)) pss_nil))))))))))) (pss_one (ps_ret pe_bl)))),?_⟩
 try dsimp only [Cx.nox,Cx.wish,cxOf]
 refine cut fun N0 hN0=>?_
 refine ⟨_,rfl,sc,ns,rfl,hS,h63,fun d c ms0 H1 S1 sm0 hd0 hc0=>?_⟩
 refine hN0 _ _ (cut fun NL hNL=>?_)
 refine ⟨_,rfl,d,c,0,ms0,3,rfl,S1,(by show (0:Int)≤1000000000;decide),by decide,by decide,fun k0 ns0 H0 k00 k01 S0 K0=>⟨_,_,rfl,rfl,_,rfl,by omega,by omega,for_range (lo:=0) (n:=(3+k0).toNat) (fun i σ Hc=>∃ (t:Int) (ns:List Int) (v2 v3 v4 v5 v6 v7 v8 v9 v10 v11:Option V),σ=[some (.ref sc),some (.ref d),v2,v3,v4,v5,v6,v7,v8,v9,v10,v11]∧StAt Hc d c t ns∧0≤t∧t≤20000 * i+1)
  ⟨_,ns0,none,none,none,none,none,none,none,none,none,none,rfl,S0,by omega,by omega⟩ ?_ ?_⟩⟩
 ·refine fun i σ Hc hi hI_1=>opq fun G_1 hG_1=>?_
  obtain ⟨t,ns,v2,v3,v4,v5,v6,v7,v8,v9,v10,v11,rfl,S2,t0,tb⟩:=hI_1
  refine hG_1 ?_
  have hi5:i≤5:=by omega
  refine cut fun N1 hN1=>?_
  refine ⟨_,rfl,d,c,t,ns,rfl,S2,(by show t≤1000000000 - 200000;omega),fun T a ta net asked t3 ns3 H3 S3 g1 g2 K3 gT hA wf n1 n30 gTa rA lA=>?_⟩
  refine ⟨T,_,rfl,SqT.of gT,rfl,_,_,rfl,_,_,rfl,rfl,?_⟩
  refine hN1 _ _ (cut fun N2 hN2=>?_)
  -- how many moves
  refine ⟨_,rfl,d,c,t3,ns3,13,rfl,S3,(by show t3≤1000000000;omega),by decide,by decide,fun x1 ns4 H4 x10 x11 S4 K4=>?_⟩
  refine ⟨_,rfl,d,c,t3+1,ns4,61,rfl,S4,(by show t3+1≤1000000000;omega),by decide,by decide,fun x2 ns5 H5 x20 x21 S5 K5=>?_⟩
  refine ⟨(by show 2≤sizeLine;decide),fun p hp=>?_⟩
  have sp:=same_new hp (.lst [.int x1,.int x2])
  have np:p ≠ d∧p ≠ c:=⟨(ne_of_none S5.dict hp).symm,(ne_of_none S5.list hp).symm⟩
  refine ⟨_,rfl,d,c,t3+1+1,ns5,8,rfl,S5.same sp,(by show t3+1+1≤1000000000;omega),by decide,by decide,fun x3 ns6 H6 x30 x31 S6 K6=>⟨rfl,.inr ⟨_,rfl,?_⟩⟩⟩
  have gp6:=K6 _ _ upd_same np.1 np.2
  have K36:Keep d c H3 H6:=(K4.trans K5).trans ((Keep.of_same sp).trans K6)
  obtain ⟨many,em,mm0,mm1⟩:∃ many:Int,atI [V.int x1,V.int x2] (if decide (V.int x3=V.int 0)=true then (1:Int) else 0)=some (.int many)∧0≤many∧many≤60:=by
   cases decide (V.int x3=V.int 0) with
   | true=>exact ⟨x2,rfl,x20,by omega⟩
   | false=>exact ⟨x1,rfl,x10,by omega⟩
  refine ⟨p,_,_,_,rfl,rfl,SqL.of gp6,em,?_⟩
  have hA6:=hA.keep S3 K36
  have gT6:=K36 _ _ gTa (S3.tup gTa).1 (S3.tup gTa).2
  refine hN2 _ _ (cut fun N3 hN3=>?_)
  -- the plan
  refine ⟨_,rfl,_,rfl,_,rfl,_,rfl,d,c,t3+1+1+1,ns6,a,ta,net,asked,many,rfl,S6,(by show t3+1+1+1≤1000000000 - 400000;omega),hA6,wf,n1,by omega,⟨gT6,rA⟩,mm0,by omega,fun l ms st t7 ns7 H7 S7 g3 g4 K7 fl PL mv lm rst R sub=>?_⟩
  have nl:l ≠ d∧l ≠ c:=⟨(ne_of_none S6.dict fl).symm,(ne_of_none S6.list fl).symm⟩
  have C7:C16 H7 a ta l net asked ms:=⟨hA6.keep S6 K7,K7 _ _ gT6 (S6.tup gT6).1 (S6.tup gT6).2,PL⟩
  have PI:∀ (Hx:Hp) (r:Int),C16 Hx a ta l net asked ms→0≤r→r≤100000→PlayIn2 Hx a l net ms r:=fun Hx r C r0 r1=>⟨C.gN,wf,by omega,C.gP,by omega,mv,r0,r1⟩
  have pkl:=R.peak_le .nil
  have e0:((([]:List Int).length:Nat):Int)=0:=rfl
  rw [e0] at pkl
  have pk0:=peak_ge 0 ms
  refine hN3 _ _ (cut fun N4 hN4=>?_)
  refine ⟨_,rfl,_,rfl,a,l,net,ms,st,rfl,PI H7 _ C7 (by omega) (by omega),R,fun H8 s8=>?_⟩
  have S8:=S7.same s8
  have C8:=C7.same s8
  have dok:∀ (r:Int),peak 0 ms≤r→(∀ sts,Play net r [] ms sts .non→decide (∀ x ∈ asked,x ∈ lastSt [] sts)=true)∧∀ sts w0,¬ Play net r [] ms sts (.str w0):=fun r hr=>by
   have Rr:=run_in R .nil (by rw [e0];exact hr)
   obtain ⟨sts0,p0,l0,_⟩:=Rr.play .nil
   refine ⟨fun sts p=>?_,(run_most mv Rr).2⟩
   rw [(Play.one mv p p0).1,l0]
   exact decide_eq_true sub
  refine hN4 _ _ (cut fun N5 hN5=>?_)
  obtain ⟨rsN,gN,NN⟩:=id C8.gN
  have lN:=NetAt.len NN
  refine ⟨_,rfl,_,rfl,_,_,rfl,rfl,_,rfl,a,_,rfl,.inr (SqT.of gN),_,_,rfl,rfl,(by show 4≤sizeLine;decide),fun U hU=>?_⟩
  have sU:=same_new hU (.tup [.int (peak 0 ms),.int (peak 0 ms+1),.int ((((rsN.map V.ref).length:Nat):Int)+1),.int 400])
  have gU:(upd H8 U (.tup [.int (peak 0 ms),.int (peak 0 ms+1),.int ((((rsN.map V.ref).length:Nat):Int)+1),.int 400])) U=some (.tup [.int (peak 0 ms),.int (peak 0 ms+1),.int ((((rsN.map V.ref).length:Nat):Int)+1),.int 400]):=upd_same
  generalize upd H8 U (.tup [.int (peak 0 ms),.int (peak 0 ms+1),.int ((((rsN.map V.ref).length:Nat):Int)+1),.int 400])=H9 at sU gU ⊢
  have C9:=C8.same sU
  have S9:=S8.same sU
  refine ⟨U,rfl,⟨_,SqT.of gU⟩,for_tup (a:=U) (xs:=[.int (peak 0 ms),.int (peak 0 ms+1),.int ((((rsN.map V.ref).length:Nat):Int)+1),.int 400]) (fun k σ Hx=>∃ (v8:Option V),σ=[some (.ref sc),some (.ref d),some (.int (0+(i:Int))),some (.ref a),some (.ref ta),some (.int many),some (.ref l),some (.int (peak 0 ms)),v8,v9,v10,v11]∧Same H9 Hx)
   ⟨v8,rfl,fun _ _ h=>h⟩ (fun k σ Hx _ ⟨_,_,sx⟩=>SqT.of (sx _ _ gU)) ?_ ?_⟩
  ·refine fun k x σ Hx hx hI_2=>opq fun G_2 hG_2=>?_
   obtain ⟨v8,rfl,sx⟩:=hI_2
   refine hG_2 ?_
   have hxr:∃ r:Int,x=.int r∧peak 0 ms≤r∧r≤100000:=by
    rcases k with _ | _ | _ | _ | k
    ·cases hx;exact ⟨_,rfl,by omega,by omega⟩
    ·cases hx;exact ⟨_,rfl,by omega,by omega⟩
    ·cases hx;exact ⟨_,rfl,by rw [List.length_map,lN];omega,by rw [List.length_map,lN];omega⟩
    ·cases hx;exact ⟨_,rfl,by omega,by omega⟩
    ·simp at hx
   obtain ⟨r,rfl,r0,r1⟩:=hxr
   have Cx:=C9.same sx
   obtain ⟨y1,y2⟩:=dok r r0
   refine ⟨_,rfl,_,rfl,_,rfl,_,rfl,a,l,ta,net,ms,r,asked,rfl,PI Hx r Cx (by omega) r1,Cx.gT,by omega,fun sts H10 s10 pl=>?_,fun sts w0 H10 s10 pl=>absurd pl (y2 sts w0)⟩
   rw [y1 sts pl]
   refine ⟨_,_,rfl,rfl,_,rfl,?_⟩
   have C10:=Cx.same s10
   refine ⟨_,rfl,_,rfl,_,rfl,_,rfl,a,l,ta,net,ms,r,asked,rfl,PI H10 r C10 (by omega) r1,C10.gT,by omega,fun H11 s11=>?_⟩
   exact ⟨_,rfl,_,rfl,(sx.trans s10).trans s11⟩
  refine fun σ Hx hI_3=>opq fun G_3 hG_3=>?_
  obtain ⟨v8',rfl,sx⟩:=hI_3
  refine hG_3 ?_
  have Cx:=C9.same sx
  have Sx:=S9.same sx
  refine hN5 _ _ (cut fun N6 hN6=>?_)
  -- one room fewer
  have rest6:∀ Hy,Same Hx Hy→N6 [some (.ref sc),some (.ref d),some (.int (0+(i:Int))),some (.ref a),some (.ref ta),some (.int many),some (.ref l),some (.int (peak 0 ms)),v8',v9,v10,v11] Hy:=by
   intro Hy sy
   have Cy:=Cx.same sy
   have Sy:=Sx.same sy
   refine hN6 _ _ (cut fun N7 hN7=>?_)
   refine ⟨_,rfl,_,rfl,d,c,t7,ns7,a,net,rfl,Sy,(by show t7≤1000000000 - 100;omega),Cy.gN,wf,n1,by omega,fun to others t10 ns10 H10 S10 g5 g6 K10 gto rO lO1 lO4=>?_⟩
   have C10:=Cy.keep Sy K10 nl
   refine hN7 _ _ (cut fun N8 hN8=>?_)
   refine ⟨4,rfl,by decide,by decide,for_range (lo:=0) (n:=4) (fun k σ He=>∃ (t11:Int) (ns:List Int) (v8 v10 v11:Option V),σ=[some (.ref sc),some (.ref d),some (.int (0+(i:Int))),some (.ref a),some (.ref ta),some (.int many),some (.ref l),some (.int (peak 0 ms)),v8,some (.ref to),v10,v11]∧StAt He d c t11 ns∧t10≤t11∧t11≤t10+10 * k∧C16 He a ta l net asked ms∧He to=some (.tup (others.map V.int))∧(1≤k→∃ r:Int,v8=some (.int r)∧0≤r∧r≤1000))
    ⟨t10,ns10,v8',v10,v11,rfl,S10,by omega,by omega,C10,gto,fun z=>absurd z (by decide)⟩ ?_ ?_⟩
   ·refine fun k σ He hk hI_4=>opq fun G_4 hG_4=>?_
    obtain ⟨t11,ns11,v8,v10,v11,rfl,S11,g7,g8,C11,gto11,_⟩:=hI_4
    refine hG_4 ?_
    refine cut fun N9 hN9=>?_
    refine ⟨_,rfl,_,rfl,_,rfl,d,c,t11,ns11,a,l,net,ms,rfl,S11,(by show t11≤1000000000 - 100;omega),C11.gN,n1,by omega,C11.gP,nl.1,nl.2,by omega,mv,fun lb msb t12 ns12 H12 S12 g9 g10 K12 PB mvb lb1 nb1 nb2=>?_⟩
    have C12:=C11.keep S11 K12 nl
    have gto12:=K12 _ _ gto11 (S11.tup gto11).1 (S11.tup gto11).2
    refine hN9 _ _ (cut fun N10 hN10=>?_)
    obtain ⟨rs2,gN2,NN2⟩:=id C12.gN
    have lN2:=NetAt.len NN2
    refine ⟨_,rfl,_,rfl,a,_,rfl,.inr (SqT.of gN2),_,_,rfl,rfl,d,c,t12,ns12,_,rfl,S12,(by show t12≤1000000000;omega),by rw [List.length_map,lN2];omega,by rw [List.length_map,lN2];omega,fun y ns13 H13 y0 y1 S13 K13=>⟨_,_,rfl,rfl,?_⟩⟩
    rw [List.length_map,lN2] at y1
    have C13:=C12.keep S12 K13 nl
    have gto13:=K13 _ _ gto12 (S12.tup gto12).1 (S12.tup gto12).2
    have PB13:=PB.keep S12 K13 nb1 nb2
    refine hN10 _ _ ?_
    have PIb:∀ (Hx:Hp) (r:Int),C16 Hx a ta l net asked ms→PlanAt Hx lb msb→0≤r→r≤100000→PlayIn2 Hx a lb net msb r:=fun Hx r C Pb r0 r1=>⟨C.gN,wf,by omega,Pb,by omega,mvb,r0,r1⟩
    refine ⟨_,rfl,_,rfl,_,rfl,_,rfl,a,lb,ta,net,msb,1+y,asked,rfl,PIb H13 (1+y) C13 PB13 (by omega) (by omega),C13.gT,by omega,fun H14 s14=>?_⟩
    refine ⟨_,rfl,?_⟩
    have C14:=C13.same s14
    refine ⟨_,rfl,_,rfl,_,rfl,_,rfl,a,lb,to,net,msb,peak 0 ms,others,rfl,PIb H14 _ C14 (PB13.same s14) (by omega) (by omega),s14 _ _ gto13,by omega,fun H15 s15=>?_⟩
    refine ⟨_,rfl,?_⟩
    exact ⟨t12+1,ns13,_,_,_,rfl,(S13.same s14).same s15,by omega,by omega,C14.same s15,s15 _ _ (s14 _ _ gto13),fun _=>⟨1+y,rfl,by omega,by omega⟩⟩
   refine fun σ He hI_5=>opq fun G_5 hG_5=>?_
   obtain ⟨t11,ns11,v8,v10',v11',rfl,S11,g7,g8,C11,gto11,hv8⟩:=hI_5
   obtain ⟨r,rfl,r0,r1⟩:=hv8 (by decide)
   refine hG_5 ?_
   refine hN8 _ _ ?_
   refine ⟨_,rfl,_,rfl,(by show 0≤sizeLine;decide),fun le hle=>?_⟩
   have se:=same_new hle (.lst [])
   have ge:(upd He le (.lst [])) le=some (.lst (([]:List Addr).map V.ref)):=upd_same
   generalize upd He le (.lst [])=H12 at se ge ⊢
   have C12:=C11.same se
   refine ⟨_,rfl,a,le,ta,net,[],r,asked,rfl,⟨C12.gN,wf,by omega,⟨[],ge,.nil⟩,by simp,(fun _ z=>nomatch z),r0,by omega⟩,C12.gT,by omega,fun H13 s13=>?_⟩
   refine ⟨_,rfl,?_⟩
   have C13:=C12.same s13
   refine ⟨_,rfl,_,rfl,_,rfl,_,rfl,a,l,to,net,ms,r,others,rfl,PI H13 r C13 r0 (by omega),s13 _ _ (se _ _ gto11),by omega,fun H14 s14=>?_⟩
   refine ⟨_,rfl,?_⟩
   exact ⟨t11,ns11,_,_,_,_,_,_,_,_,_,_,rfl,S11.same ((se.trans s13).trans s14),by omega,by omega⟩
  refine ⟨_,rfl,_,_,rfl,rfl,_,rfl,?_⟩
  refine ite2 (fun cg=>?_) (fun _=>rest6 Hx (fun _ _ h=>h))
  have cg':1<peak 0 ms:=of_decide_eq_true cg
  refine ⟨_,rfl,_,rfl,_,_,rfl,rfl,_,rfl,_,rfl,a,l,ta,net,ms,peak 0 ms - 1,asked,rfl,PI Hx _ Cx (by omega) (by omega),Cx.gT,by omega,fun sts H10 s10 pl=>absurd pl (play_less R .nil (by rw [e0];omega) (by rw [e0];omega)),fun sts w0 H10 s10 pl=>?_⟩
  refine ⟨_,_,rfl,rfl,_,rfl,?_⟩
  exact rest6 H10 s10
 ·refine fun σ Hc hI_6=>opq fun G_6 hG_6=>?_
  obtain ⟨t,ns,v2,v3,v4,v5,v6,v7,v8,v9,v10,v11,rfl,S2,t0,tb⟩:=hI_6
  refine hG_6 ?_
  exact hNL _ _ (q Hc)
end
end Fw
set_option maxHeartbeats 0
namespace Fw
open PySem L2
theorem all_mk {l:PySem.W.OpenLaw} {w:World} {K:PySem.W.Frag} {h:Heap} {mg:Str→Option Value} {fa c_Barred f_init_Barred f_fault_of_do f_fault_of f_stand_behind f_has_all f_played f_does f_Lbegin f_Ltake f_Lsome_needs f_Ltree_net f_Lnet f_Lasked f_Lneeded f_Lword f_Lbehind f_Lplayed f_Lnext_work f_Lwalk f_Lspare f_Ldoing f_Lmost f_Lcase f_Ltold f_Lbent f_law:Addr} (X:K.In h) (G:h.Ns mainGlobals mg) (hfa:mg "law" = some (.ref fa))
  {od_init_Barred an_init_Barred od_fault_of_do an_fault_of_do od_fault_of an_fault_of od_stand_behind an_stand_behind od_has_all an_has_all od_played an_played od_does an_does od_Lbegin an_Lbegin od_Ltake an_Ltake od_Lsome_needs an_Lsome_needs od_Ltree_net an_Ltree_net od_Lnet an_Lnet od_Lasked an_Lasked od_Lneeded an_Lneeded od_Lword an_Lword od_Lbehind an_Lbehind od_Lplayed an_Lplayed od_Lnext_work an_Lnext_work od_Lwalk an_Lwalk od_Lspare an_Lspare od_Ldoing an_Ldoing od_Lmost an_Lmost od_Lcase an_Lcase od_Ltold an_Ltold od_Lbent an_Lbent od_law an_law:Option Addr} {sl_init_Barred sl_fault_of_do sl_fault_of sl_stand_behind sl_has_all sl_played sl_does sl_Lbegin sl_Ltake sl_Lsome_needs sl_Ltree_net sl_Lnet sl_Lasked sl_Lneeded sl_Lword sl_Lbehind sl_Lplayed sl_Lnext_work sl_Lwalk sl_Lspare sl_Ldoing sl_Lmost sl_Lcase sl_Ltold sl_Lbent sl_law:Array (Option Value)} {oc_init_Barred kV_init_Barred dc_init_Barred pm_init_Barred cd_init_Barred ct_init_Barred oc_fault_of_do kV_fault_of_do dc_fault_of_do pm_fault_of_do cd_fault_of_do ct_fault_of_do oc_fault_of kV_fault_of dc_fault_of pm_fault_of cd_fault_of ct_fault_of oc_stand_behind kV_stand_behind dc_stand_behind pm_stand_behind cd_stand_behind ct_stand_behind oc_has_all kV_has_all dc_has_all pm_has_all cd_has_all ct_has_all oc_played kV_played dc_played pm_played cd_played ct_played oc_does kV_does dc_does pm_does cd_does ct_does oc_Lbegin kV_Lbegin dc_Lbegin pm_Lbegin cd_Lbegin ct_Lbegin oc_Ltake kV_Ltake dc_Ltake pm_Ltake cd_Ltake ct_Ltake oc_Lsome_needs kV_Lsome_needs dc_Lsome_needs pm_Lsome_needs cd_Lsome_needs ct_Lsome_needs oc_Ltree_net kV_Ltree_net dc_Ltree_net pm_Ltree_net cd_Ltree_net ct_Ltree_net oc_Lnet kV_Lnet dc_Lnet pm_Lnet cd_Lnet ct_Lnet oc_Lasked kV_Lasked dc_Lasked pm_Lasked cd_Lasked ct_Lasked oc_Lneeded kV_Lneeded dc_Lneeded pm_Lneeded cd_Lneeded ct_Lneeded oc_Lword kV_Lword dc_Lword pm_Lword cd_Lword ct_Lword oc_Lbehind kV_Lbehind dc_Lbehind pm_Lbehind cd_Lbehind ct_Lbehind oc_Lplayed kV_Lplayed dc_Lplayed pm_Lplayed cd_Lplayed ct_Lplayed oc_Lnext_work kV_Lnext_work dc_Lnext_work pm_Lnext_work cd_Lnext_work ct_Lnext_work oc_Lwalk kV_Lwalk dc_Lwalk pm_Lwalk cd_Lwalk ct_Lwalk oc_Lspare kV_Lspare dc_Lspare pm_Lspare cd_Lspare ct_Lspare oc_Ldoing kV_Ldoing dc_Ldoing pm_Ldoing cd_Ldoing ct_Ldoing oc_Lmost kV_Lmost dc_Lmost pm_Lmost cd_Lmost ct_Lmost oc_Lcase kV_Lcase dc_Lcase pm_Lcase cd_Lcase ct_Lcase oc_Ltold kV_Ltold dc_Ltold pm_Ltold cd_Ltold ct_Ltold oc_Lbent kV_Lbent dc_Lbent pm_Lbent cd_Lbent ct_Lbent oc_law kV_law dc_law pm_law cd_law ct_law:Value}
  (a_Barred:PySem.W.nsIn K mainGlobals "Barred" = some (some (.ref c_Barred)))
  (a_init_Barred:PySem.W.findIn K (.ref c_Barred) "__init__" = some (some (.ref f_init_Barred)))
  (l_init_Barred:K.lookup f_init_Barred=some ⟨oc_init_Barred,od_init_Barred,.func (PySem.W.fnOf "__init__" "Barred.__init__" (defArgs s_init_Barred) (defBody s_init_Barred) (defScope s_init_Barred) .none kV_init_Barred dc_init_Barred pm_init_Barred an_init_Barred cd_init_Barred ct_init_Barred),sl_init_Barred⟩) (c_init_Barred:PySem.W.codeIn K cd_init_Barred "Barred.__init__" = true) (k_init_Barred:PySem.W.keepIn K (.ref f_init_Barred)=true)
  (a_fault_of_do:PySem.W.nsIn K mainGlobals "fault_of_do" = some (some (.ref f_fault_of_do))) (l_fault_of_do:K.lookup f_fault_of_do=some ⟨oc_fault_of_do,od_fault_of_do,.func (PySem.W.fnOf "fault_of_do" "fault_of_do" (defArgs s_fault_of_do) (defBody s_fault_of_do) (defScope s_fault_of_do) .none kV_fault_of_do dc_fault_of_do pm_fault_of_do an_fault_of_do cd_fault_of_do ct_fault_of_do),sl_fault_of_do⟩) (c_fault_of_do:PySem.W.codeIn K cd_fault_of_do "fault_of_do" = true) (k_fault_of_do:PySem.W.keepIn K (.ref f_fault_of_do)=true)
  (a_fault_of:PySem.W.nsIn K mainGlobals "fault_of" = some (some (.ref f_fault_of))) (l_fault_of:K.lookup f_fault_of=some ⟨oc_fault_of,od_fault_of,.func (PySem.W.fnOf "fault_of" "fault_of" (defArgs s_fault_of) (defBody s_fault_of) (defScope s_fault_of) .none kV_fault_of dc_fault_of pm_fault_of an_fault_of cd_fault_of ct_fault_of),sl_fault_of⟩) (c_fault_of:PySem.W.codeIn K cd_fault_of "fault_of" = true) (k_fault_of:PySem.W.keepIn K (.ref f_fault_of)=true)
  (a_stand_behind:PySem.W.nsIn K mainGlobals "stand_behind" = some (some (.ref f_stand_behind))) (l_stand_behind:K.lookup f_stand_behind=some ⟨oc_stand_behind,od_stand_behind,.func (PySem.W.fnOf "stand_behind" "stand_behind" (defArgs s_stand_behind) (defBody s_stand_behind) (defScope s_stand_behind) .none kV_stand_behind dc_stand_behind pm_stand_behind an_stand_behind cd_stand_behind ct_stand_behind),sl_stand_behind⟩) (c_stand_behind:PySem.W.codeIn K cd_stand_behind "stand_behind" = true) (k_stand_behind:PySem.W.keepIn K (.ref f_stand_behind)=true)
  (a_has_all:PySem.W.nsIn K mainGlobals "has_all" = some (some (.ref f_has_all))) (l_has_all:K.lookup f_has_all=some ⟨oc_has_all,od_has_all,.func (PySem.W.fnOf "has_all" "has_all" (defArgs s_has_all) (defBody s_has_all) (defScope s_has_all) .none kV_has_all dc_has_all pm_has_all an_has_all cd_has_all ct_has_all),sl_has_all⟩) (c_has_all:PySem.W.codeIn K cd_has_all "has_all" = true) (k_has_all:PySem.W.keepIn K (.ref f_has_all)=true)
  (a_played:PySem.W.nsIn K mainGlobals "played" = some (some (.ref f_played))) (l_played:K.lookup f_played=some ⟨oc_played,od_played,.func (PySem.W.fnOf "played" "played" (defArgs s_played) (defBody s_played) (defScope s_played) .none kV_played dc_played pm_played an_played cd_played ct_played),sl_played⟩) (c_played:PySem.W.codeIn K cd_played "played" = true) (k_played:PySem.W.keepIn K (.ref f_played)=true)
  (a_does:PySem.W.nsIn K mainGlobals "does" = some (some (.ref f_does))) (l_does:K.lookup f_does=some ⟨oc_does,od_does,.func (PySem.W.fnOf "does" "does" (defArgs s_does) (defBody s_does) (defScope s_does) .none kV_does dc_does pm_does an_does cd_does ct_does),sl_does⟩) (c_does:PySem.W.codeIn K cd_does "does" = true) (k_does:PySem.W.keepIn K (.ref f_does)=true)
  (a_Lbegin:PySem.W.nsIn K mainGlobals "_law_begin" = some (some (.ref f_Lbegin))) (l_Lbegin:K.lookup f_Lbegin=some ⟨oc_Lbegin,od_Lbegin,.func (PySem.W.fnOf "_law_begin" "_law_begin" (defArgs s_Lbegin) (defBody s_Lbegin) (defScope s_Lbegin) .none kV_Lbegin dc_Lbegin pm_Lbegin an_Lbegin cd_Lbegin ct_Lbegin),sl_Lbegin⟩) (c_Lbegin:PySem.W.codeIn K cd_Lbegin "_law_begin" = true) (k_Lbegin:PySem.W.keepIn K (.ref f_Lbegin)=true)
  (a_Ltake:PySem.W.nsIn K mainGlobals "_law_take" = some (some (.ref f_Ltake))) (l_Ltake:K.lookup f_Ltake=some ⟨oc_Ltake,od_Ltake,.func (PySem.W.fnOf "_law_take" "_law_take" (defArgs s_Ltake) (defBody s_Ltake) (defScope s_Ltake) .none kV_Ltake dc_Ltake pm_Ltake an_Ltake cd_Ltake ct_Ltake),sl_Ltake⟩) (c_Ltake:PySem.W.codeIn K cd_Ltake "_law_take" = true) (k_Ltake:PySem.W.keepIn K (.ref f_Ltake)=true)
  (a_Lsome_needs:PySem.W.nsIn K mainGlobals "_law_some_needs" = some (some (.ref f_Lsome_needs))) (l_Lsome_needs:K.lookup f_Lsome_needs=some ⟨oc_Lsome_needs,od_Lsome_needs,.func (PySem.W.fnOf "_law_some_needs" "_law_some_needs" (defArgs s_Lsome_needs) (defBody s_Lsome_needs) (defScope s_Lsome_needs) .none kV_Lsome_needs dc_Lsome_needs pm_Lsome_needs an_Lsome_needs cd_Lsome_needs ct_Lsome_needs),sl_Lsome_needs⟩) (c_Lsome_needs:PySem.W.codeIn K cd_Lsome_needs "_law_some_needs" = true) (k_Lsome_needs:PySem.W.keepIn K (.ref f_Lsome_needs)=true)
  (a_Ltree_net:PySem.W.nsIn K mainGlobals "_law_tree_net" = some (some (.ref f_Ltree_net))) (l_Ltree_net:K.lookup f_Ltree_net=some ⟨oc_Ltree_net,od_Ltree_net,.func (PySem.W.fnOf "_law_tree_net" "_law_tree_net" (defArgs s_Ltree_net) (defBody s_Ltree_net) (defScope s_Ltree_net) .none kV_Ltree_net dc_Ltree_net pm_Ltree_net an_Ltree_net cd_Ltree_net ct_Ltree_net),sl_Ltree_net⟩) (c_Ltree_net:PySem.W.codeIn K cd_Ltree_net "_law_tree_net" = true) (k_Ltree_net:PySem.W.keepIn K (.ref f_Ltree_net)=true)
  (a_Lnet:PySem.W.nsIn K mainGlobals "_law_net" = some (some (.ref f_Lnet))) (l_Lnet:K.lookup f_Lnet=some ⟨oc_Lnet,od_Lnet,.func (PySem.W.fnOf "_law_net" "_law_net" (defArgs s_Lnet) (defBody s_Lnet) (defScope s_Lnet) .none kV_Lnet dc_Lnet pm_Lnet an_Lnet cd_Lnet ct_Lnet),sl_Lnet⟩) (c_Lnet:PySem.W.codeIn K cd_Lnet "_law_net" = true) (k_Lnet:PySem.W.keepIn K (.ref f_Lnet)=true)
  (a_Lasked:PySem.W.nsIn K mainGlobals "_law_asked" = some (some (.ref f_Lasked))) (l_Lasked:K.lookup f_Lasked=some ⟨oc_Lasked,od_Lasked,.func (PySem.W.fnOf "_law_asked" "_law_asked" (defArgs s_Lasked) (defBody s_Lasked) (defScope s_Lasked) .none kV_Lasked dc_Lasked pm_Lasked an_Lasked cd_Lasked ct_Lasked),sl_Lasked⟩) (c_Lasked:PySem.W.codeIn K cd_Lasked "_law_asked" = true) (k_Lasked:PySem.W.keepIn K (.ref f_Lasked)=true)
  (a_Lneeded:PySem.W.nsIn K mainGlobals "_law_needed" = some (some (.ref f_Lneeded))) (l_Lneeded:K.lookup f_Lneeded=some ⟨oc_Lneeded,od_Lneeded,.func (PySem.W.fnOf "_law_needed" "_law_needed" (defArgs s_Lneeded) (defBody s_Lneeded) (defScope s_Lneeded) .none kV_Lneeded dc_Lneeded pm_Lneeded an_Lneeded cd_Lneeded ct_Lneeded),sl_Lneeded⟩) (c_Lneeded:PySem.W.codeIn K cd_Lneeded "_law_needed" = true) (k_Lneeded:PySem.W.keepIn K (.ref f_Lneeded)=true)
  (a_Lword:PySem.W.nsIn K mainGlobals "_law_word" = some (some (.ref f_Lword))) (l_Lword:K.lookup f_Lword=some ⟨oc_Lword,od_Lword,.func (PySem.W.fnOf "_law_word" "_law_word" (defArgs s_Lword) (defBody s_Lword) (defScope s_Lword) .none kV_Lword dc_Lword pm_Lword an_Lword cd_Lword ct_Lword),sl_Lword⟩) (c_Lword:PySem.W.codeIn K cd_Lword "_law_word" = true) (k_Lword:PySem.W.keepIn K (.ref f_Lword)=true)
  (a_Lbehind:PySem.W.nsIn K mainGlobals "_law_behind" = some (some (.ref f_Lbehind))) (l_Lbehind:K.lookup f_Lbehind=some ⟨oc_Lbehind,od_Lbehind,.func (PySem.W.fnOf "_law_behind" "_law_behind" (defArgs s_Lbehind) (defBody s_Lbehind) (defScope s_Lbehind) .none kV_Lbehind dc_Lbehind pm_Lbehind an_Lbehind cd_Lbehind ct_Lbehind),sl_Lbehind⟩) (c_Lbehind:PySem.W.codeIn K cd_Lbehind "_law_behind" = true) (k_Lbehind:PySem.W.keepIn K (.ref f_Lbehind)=true)
  (a_Lplayed:PySem.W.nsIn K mainGlobals "_law_played" = some (some (.ref f_Lplayed))) (l_Lplayed:K.lookup f_Lplayed=some ⟨oc_Lplayed,od_Lplayed,.func (PySem.W.fnOf "_law_played" "_law_played" (defArgs s_Lplayed) (defBody s_Lplayed) (defScope s_Lplayed) .none kV_Lplayed dc_Lplayed pm_Lplayed an_Lplayed cd_Lplayed ct_Lplayed),sl_Lplayed⟩) (c_Lplayed:PySem.W.codeIn K cd_Lplayed "_law_played" = true) (k_Lplayed:PySem.W.keepIn K (.ref f_Lplayed)=true)
  (a_Lnext_work:PySem.W.nsIn K mainGlobals "_law_next_work" = some (some (.ref f_Lnext_work))) (l_Lnext_work:K.lookup f_Lnext_work=some ⟨oc_Lnext_work,od_Lnext_work,.func (PySem.W.fnOf "_law_next_work" "_law_next_work" (defArgs s_Lnext_work) (defBody s_Lnext_work) (defScope s_Lnext_work) .none kV_Lnext_work dc_Lnext_work pm_Lnext_work an_Lnext_work cd_Lnext_work ct_Lnext_work),sl_Lnext_work⟩) (c_Lnext_work:PySem.W.codeIn K cd_Lnext_work "_law_next_work" = true) (k_Lnext_work:PySem.W.keepIn K (.ref f_Lnext_work)=true)
  (a_Lwalk:PySem.W.nsIn K mainGlobals "_law_walk" = some (some (.ref f_Lwalk))) (l_Lwalk:K.lookup f_Lwalk=some ⟨oc_Lwalk,od_Lwalk,.func (PySem.W.fnOf "_law_walk" "_law_walk" (defArgs s_Lwalk) (defBody s_Lwalk) (defScope s_Lwalk) .none kV_Lwalk dc_Lwalk pm_Lwalk an_Lwalk cd_Lwalk ct_Lwalk),sl_Lwalk⟩) (c_Lwalk:PySem.W.codeIn K cd_Lwalk "_law_walk" = true) (k_Lwalk:PySem.W.keepIn K (.ref f_Lwalk)=true)
  (a_Lspare:PySem.W.nsIn K mainGlobals "_law_spare" = some (some (.ref f_Lspare))) (l_Lspare:K.lookup f_Lspare=some ⟨oc_Lspare,od_Lspare,.func (PySem.W.fnOf "_law_spare" "_law_spare" (defArgs s_Lspare) (defBody s_Lspare) (defScope s_Lspare) .none kV_Lspare dc_Lspare pm_Lspare an_Lspare cd_Lspare ct_Lspare),sl_Lspare⟩) (c_Lspare:PySem.W.codeIn K cd_Lspare "_law_spare" = true) (k_Lspare:PySem.W.keepIn K (.ref f_Lspare)=true)
  (a_Ldoing:PySem.W.nsIn K mainGlobals "_law_doing" = some (some (.ref f_Ldoing))) (l_Ldoing:K.lookup f_Ldoing=some ⟨oc_Ldoing,od_Ldoing,.func (PySem.W.fnOf "_law_doing" "_law_doing" (defArgs s_Ldoing) (defBody s_Ldoing) (defScope s_Ldoing) .none kV_Ldoing dc_Ldoing pm_Ldoing an_Ldoing cd_Ldoing ct_Ldoing),sl_Ldoing⟩) (c_Ldoing:PySem.W.codeIn K cd_Ldoing "_law_doing" = true) (k_Ldoing:PySem.W.keepIn K (.ref f_Ldoing)=true)
  (a_Lmost:PySem.W.nsIn K mainGlobals "_law_most" = some (some (.ref f_Lmost))) (l_Lmost:K.lookup f_Lmost=some ⟨oc_Lmost,od_Lmost,.func (PySem.W.fnOf "_law_most" "_law_most" (defArgs s_Lmost) (defBody s_Lmost) (defScope s_Lmost) .none kV_Lmost dc_Lmost pm_Lmost an_Lmost cd_Lmost ct_Lmost),sl_Lmost⟩) (c_Lmost:PySem.W.codeIn K cd_Lmost "_law_most" = true) (k_Lmost:PySem.W.keepIn K (.ref f_Lmost)=true)
  (a_Lcase:PySem.W.nsIn K mainGlobals "_law_case" = some (some (.ref f_Lcase))) (l_Lcase:K.lookup f_Lcase=some ⟨oc_Lcase,od_Lcase,.func (PySem.W.fnOf "_law_case" "_law_case" (defArgs s_Lcase) (defBody s_Lcase) (defScope s_Lcase) .none kV_Lcase dc_Lcase pm_Lcase an_Lcase cd_Lcase ct_Lcase),sl_Lcase⟩) (c_Lcase:PySem.W.codeIn K cd_Lcase "_law_case" = true) (k_Lcase:PySem.W.keepIn K (.ref f_Lcase)=true)
  (a_Ltold:PySem.W.nsIn K mainGlobals "_law_told" = some (some (.ref f_Ltold))) (l_Ltold:K.lookup f_Ltold=some ⟨oc_Ltold,od_Ltold,.func (PySem.W.fnOf "_law_told" "_law_told" (defArgs s_Ltold) (defBody s_Ltold) (defScope s_Ltold) .none kV_Ltold dc_Ltold pm_Ltold an_Ltold cd_Ltold ct_Ltold),sl_Ltold⟩) (c_Ltold:PySem.W.codeIn K cd_Ltold "_law_told" = true) (k_Ltold:PySem.W.keepIn K (.ref f_Ltold)=true)
  (a_Lbent:PySem.W.nsIn K mainGlobals "_law_bent" = some (some (.ref f_Lbent))) (l_Lbent:K.lookup f_Lbent=some ⟨oc_Lbent,od_Lbent,.func (PySem.W.fnOf "_law_bent" "_law_bent" (defArgs s_Lbent) (defBody s_Lbent) (defScope s_Lbent) .none kV_Lbent dc_Lbent pm_Lbent an_Lbent cd_Lbent ct_Lbent),sl_Lbent⟩) (c_Lbent:PySem.W.codeIn K cd_Lbent "_law_bent" = true) (k_Lbent:PySem.W.keepIn K (.ref f_Lbent)=true)
  (a_law:PySem.W.nsIn K mainGlobals "law" = some (some (.ref f_law))) (l_law:K.lookup f_law=some ⟨oc_law,od_law,.func (PySem.W.fnOf "law" "law" (defArgs s_law) (defBody s_law) (defScope s_law) .none kV_law dc_law pm_law an_law cd_law ct_law),sl_law⟩) (c_law:PySem.W.codeIn K cd_law "law" = true) (k_law:PySem.W.keepIn K (.ref f_law)=true)
  (xc_Barred:xcIn K c_Barred (some (.ref f_init_Barred))=true)
  (xs_Barred:PySem.W.findIn K (.ref c_Barred) "__setattr__" = some (some (.builtin "object.__setattr__")))
  (xk_Barred:PySem.W.keepIn K (.ref c_Barred)=true)
  (fi_Barred:PySem.W.isFn K (.ref f_init_Barred)=true)
  (n_move:PySem.W.findIn K (.ref c_Barred) "move" = some none)
  (n_word:PySem.W.findIn K (.ref c_Barred) "word" = some none)
  (em_Barred:PySem.W.exmOne K (.ref c_Barred) (.ref c_Barred)=some true)
  (z_all:PySem.W.nsIn K mainGlobals "all" = some none)
  (z_any:PySem.W.nsIn K mainGlobals "any" = some none)
  (z_bool:PySem.W.nsIn K mainGlobals "bool" = some none)
  (z_divmod:PySem.W.nsIn K mainGlobals "divmod" = some none)
  (z_enumerate:PySem.W.nsIn K mainGlobals "enumerate" = some none)
  (z_int:PySem.W.nsIn K mainGlobals "int" = some none)
  (z_isinstance:PySem.W.nsIn K mainGlobals "isinstance" = some none)
  (z_len:PySem.W.nsIn K mainGlobals "len" = some none)
  (z_list:PySem.W.nsIn K mainGlobals "list" = some none)
  (z_max:PySem.W.nsIn K mainGlobals "max" = some none)
  (z_min:PySem.W.nsIn K mainGlobals "min" = some none)
  (z_range:PySem.W.nsIn K mainGlobals "range" = some none)
  (z_set:PySem.W.nsIn K mainGlobals "set" = some none)
  (z_sorted:PySem.W.nsIn K mainGlobals "sorted" = some none)
  (z_tuple:PySem.W.nsIn K mainGlobals "tuple" = some none)
  : ∃ fd:FuncData,(∀ (s:Shared) (v:Value),BindsTo s fd ⟨[v],[]⟩ [("_law_script",v)])∧∀ base:Heap,K.In base→base.Ns mainGlobals mg→FnOk l.prog w K mg base CX0 6 fa fd ["_law_script"] (spLaw K):=by
 have e:=hfa.symm.trans (PySem.W.mg_of X G a_law)
 cases e
 have F_init_Barred:=fun_mk (st:=s_init_Barred) l_init_Barred c_init_Barred k_init_Barred
 have b_init_Barred:=F_init_Barred.binds (ps:=["self","move","word"]) fun _ _ _ _ _ _ us hl=>match us,hl with | [_,_,_],_=>rfl
 have F_fault_of_do:=fun_mk (st:=s_fault_of_do) l_fault_of_do c_fault_of_do k_fault_of_do
 have b_fault_of_do:=F_fault_of_do.binds (ps:=["net","rooms","stand","work"]) fun _ _ _ _ _ _ us hl=>match us,hl with | [_,_,_,_],_=>rfl
 have m_fault_of_do:=PySem.W.mg_of X G a_fault_of_do
 have F_fault_of:=fun_mk (st:=s_fault_of) l_fault_of c_fault_of k_fault_of
 have b_fault_of:=F_fault_of.binds (ps:=["net","rooms","stand","move"]) fun _ _ _ _ _ _ us hl=>match us,hl with | [_,_,_,_],_=>rfl
 have m_fault_of:=PySem.W.mg_of X G a_fault_of
 have F_stand_behind:=fun_mk (st:=s_stand_behind) l_stand_behind c_stand_behind k_stand_behind
 have b_stand_behind:=F_stand_behind.binds (ps:=["stand","move"]) fun _ _ _ _ _ _ us hl=>match us,hl with | [_,_],_=>rfl
 have m_stand_behind:=PySem.W.mg_of X G a_stand_behind
 have F_has_all:=fun_mk (st:=s_has_all) l_has_all c_has_all k_has_all
 have b_has_all:=F_has_all.binds (ps:=["results","works"]) fun _ _ _ _ _ _ us hl=>match us,hl with | [_,_],_=>rfl
 have m_has_all:=PySem.W.mg_of X G a_has_all
 have F_played:=fun_mk (st:=s_played) l_played c_played k_played
 have b_played:=F_played.binds (ps:=["net","rooms","plan"]) fun _ _ _ _ _ _ us hl=>match us,hl with | [_,_,_],_=>rfl
 have m_played:=PySem.W.mg_of X G a_played
 have F_does:=fun_mk (st:=s_does) l_does c_does k_does
 have b_does:=F_does.binds (ps:=["net","rooms","plan","asked"]) fun _ _ _ _ _ _ us hl=>match us,hl with | [_,_,_,_],_=>rfl
 have m_does:=PySem.W.mg_of X G a_does
 have F_Lbegin:=fun_mk (st:=s_Lbegin) l_Lbegin c_Lbegin k_Lbegin
 have b_Lbegin:=F_Lbegin.binds (ps:=["_law_script"]) fun _ _ _ _ _ _ us hl=>match us,hl with | [_],_=>rfl
 have m_Lbegin:=PySem.W.mg_of X G a_Lbegin
 have F_Ltake:=fun_mk (st:=s_Ltake) l_Ltake c_Ltake k_Ltake
 have b_Ltake:=F_Ltake.binds (ps:=["_law_state","_law_many"]) fun _ _ _ _ _ _ us hl=>match us,hl with | [_,_],_=>rfl
 have m_Ltake:=PySem.W.mg_of X G a_Ltake
 have F_Lsome_needs:=fun_mk (st:=s_Lsome_needs) l_Lsome_needs c_Lsome_needs k_Lsome_needs
 have b_Lsome_needs:=F_Lsome_needs.binds (ps:=["_law_state","_law_k"]) fun _ _ _ _ _ _ us hl=>match us,hl with | [_,_],_=>rfl
 have m_Lsome_needs:=PySem.W.mg_of X G a_Lsome_needs
 have F_Ltree_net:=fun_mk (st:=s_Ltree_net) l_Ltree_net c_Ltree_net k_Ltree_net
 have b_Ltree_net:=F_Ltree_net.binds (ps:=["_law_state","_law_many"]) fun _ _ _ _ _ _ us hl=>match us,hl with | [_,_],_=>rfl
 have m_Ltree_net:=PySem.W.mg_of X G a_Ltree_net
 have F_Lnet:=fun_mk (st:=s_Lnet) l_Lnet c_Lnet k_Lnet
 have b_Lnet:=F_Lnet.binds (ps:=["_law_state","_law_many"]) fun _ _ _ _ _ _ us hl=>match us,hl with | [_,_],_=>rfl
 have m_Lnet:=PySem.W.mg_of X G a_Lnet
 have F_Lasked:=fun_mk (st:=s_Lasked) l_Lasked c_Lasked k_Lasked
 have b_Lasked:=F_Lasked.binds (ps:=["_law_state","_law_net_here"]) fun _ _ _ _ _ _ us hl=>match us,hl with | [_,_],_=>rfl
 have m_Lasked:=PySem.W.mg_of X G a_Lasked
 have F_Lneeded:=fun_mk (st:=s_Lneeded) l_Lneeded c_Lneeded k_Lneeded
 have b_Lneeded:=F_Lneeded.binds (ps:=["_law_net_here","_law_asked_here"]) fun _ _ _ _ _ _ us hl=>match us,hl with | [_,_],_=>rfl
 have m_Lneeded:=PySem.W.mg_of X G a_Lneeded
 have F_Lword:=fun_mk (st:=s_Lword) l_Lword c_Lword k_Lword
 have b_Lword:=F_Lword.binds (ps:=["_law_net_here","_law_rooms","_law_stand","_law_move"]) fun _ _ _ _ _ _ us hl=>match us,hl with | [_,_,_,_],_=>rfl
 have m_Lword:=PySem.W.mg_of X G a_Lword
 have F_Lbehind:=fun_mk (st:=s_Lbehind) l_Lbehind c_Lbehind k_Lbehind
 have b_Lbehind:=F_Lbehind.binds (ps:=["_law_stand","_law_move"]) fun _ _ _ _ _ _ us hl=>match us,hl with | [_,_],_=>rfl
 have m_Lbehind:=PySem.W.mg_of X G a_Lbehind
 have F_Lplayed:=fun_mk (st:=s_Lplayed) l_Lplayed c_Lplayed k_Lplayed
 have b_Lplayed:=F_Lplayed.binds (ps:=["_law_net_here","_law_rooms","_law_plan"]) fun _ _ _ _ _ _ us hl=>match us,hl with | [_,_,_],_=>rfl
 have m_Lplayed:=PySem.W.mg_of X G a_Lplayed
 have F_Lnext_work:=fun_mk (st:=s_Lnext_work) l_Lnext_work c_Lnext_work k_Lnext_work
 have b_Lnext_work:=F_Lnext_work.binds (ps:=["_law_state","_law_net_here","_law_stand"]) fun _ _ _ _ _ _ us hl=>match us,hl with | [_,_,_],_=>rfl
 have m_Lnext_work:=PySem.W.mg_of X G a_Lnext_work
 have F_Lwalk:=fun_mk (st:=s_Lwalk) l_Lwalk c_Lwalk k_Lwalk
 have b_Lwalk:=F_Lwalk.binds (ps:=["_law_state","_law_net_here","_law_rooms","_law_many"]) fun _ _ _ _ _ _ us hl=>match us,hl with | [_,_,_,_],_=>rfl
 have m_Lwalk:=PySem.W.mg_of X G a_Lwalk
 have F_Lspare:=fun_mk (st:=s_Lspare) l_Lspare c_Lspare k_Lspare
 have b_Lspare:=F_Lspare.binds (ps:=["_law_net_here","_law_asked_here","_law_wanted","_law_stand"]) fun _ _ _ _ _ _ us hl=>match us,hl with | [_,_,_,_],_=>rfl
 have m_Lspare:=PySem.W.mg_of X G a_Lspare
 have F_Ldoing:=fun_mk (st:=s_Ldoing) l_Ldoing c_Ldoing k_Ldoing
 have b_Ldoing:=F_Ldoing.binds (ps:=["_law_state","_law_net_here","_law_asked_here","_law_many"]) fun _ _ _ _ _ _ us hl=>match us,hl with | [_,_,_,_],_=>rfl
 have m_Ldoing:=PySem.W.mg_of X G a_Ldoing
 have F_Lmost:=fun_mk (st:=s_Lmost) l_Lmost c_Lmost k_Lmost
 have b_Lmost:=F_Lmost.binds (ps:=["_law_net_here","_law_plan"]) fun _ _ _ _ _ _ us hl=>match us,hl with | [_,_],_=>rfl
 have m_Lmost:=PySem.W.mg_of X G a_Lmost
 have F_Lcase:=fun_mk (st:=s_Lcase) l_Lcase c_Lcase k_Lcase
 have b_Lcase:=F_Lcase.binds (ps:=["_law_state"]) fun _ _ _ _ _ _ us hl=>match us,hl with | [_],_=>rfl
 have m_Lcase:=PySem.W.mg_of X G a_Lcase
 have F_Ltold:=fun_mk (st:=s_Ltold) l_Ltold c_Ltold k_Ltold
 have b_Ltold:=F_Ltold.binds (ps:=["_law_net_here","_law_rooms","_law_plan","_law_asked_here"]) fun _ _ _ _ _ _ us hl=>match us,hl with | [_,_,_,_],_=>rfl
 have m_Ltold:=PySem.W.mg_of X G a_Ltold
 have F_Lbent:=fun_mk (st:=s_Lbent) l_Lbent c_Lbent k_Lbent
 have b_Lbent:=F_Lbent.binds (ps:=["_law_state","_law_net_here","_law_plan"]) fun _ _ _ _ _ _ us hl=>match us,hl with | [_,_,_],_=>rfl
 have m_Lbent:=PySem.W.mg_of X G a_Lbent
 have F_law:=fun_mk (st:=s_law) l_law c_law k_law
 have m_Barred:=PySem.W.mg_of X G a_Barred
 have x_Barred:XCls K c_Barred (some (.ref f_init_Barred)):=⟨xc_Barred,xs_Barred,xk_Barred⟩
 have zz_all:=PySem.W.mg_none_of X G z_all
 have zz_any:=PySem.W.mg_none_of X G z_any
 have zz_bool:=PySem.W.mg_none_of X G z_bool
 have zz_divmod:=PySem.W.mg_none_of X G z_divmod
 have zz_enumerate:=PySem.W.mg_none_of X G z_enumerate
 have zz_int:=PySem.W.mg_none_of X G z_int
 have zz_isinstance:=PySem.W.mg_none_of X G z_isinstance
 have zz_len:=PySem.W.mg_none_of X G z_len
 have zz_list:=PySem.W.mg_none_of X G z_list
 have zz_max:=PySem.W.mg_none_of X G z_max
 have zz_min:=PySem.W.mg_none_of X G z_min
 have zz_range:=PySem.W.mg_none_of X G z_range
 have zz_set:=PySem.W.mg_none_of X G z_set
 have zz_sorted:=PySem.W.mg_none_of X G z_sorted
 have zz_tuple:=PySem.W.mg_none_of X G z_tuple
 refine ⟨PySem.W.fnOf "law" "law" (defArgs s_law) (defBody s_law) (defScope s_law) .none kV_law dc_law pm_law an_law cd_law ct_law,fun s v=>.of_eq rfl,fun base _ _=>?_⟩
 have G_init_Barred:=ok_init_Barred (P:=l.prog) (w:=w) (mg:=mg) (base:=base) (F:=F_init_Barred) (x_Barred:=x_Barred) (n_move:=n_move) (n_word:=n_word)
 have G_fault_of_do:=ok_fault_of_do (P:=l.prog) (w:=w) (mg:=mg) (base:=base) (F:=F_fault_of_do) (z_len:=zz_len)
 have G_fault_of:=ok_fault_of (P:=l.prog) (w:=w) (mg:=mg) (base:=base) (F:=F_fault_of) (G_fault_of_do:=G_fault_of_do) (b_fault_of_do:=b_fault_of_do) (k_fault_of_do:=F_fault_of_do.kp) (m_fault_of_do:=m_fault_of_do)
 have G_stand_behind:=ok_stand_behind (P:=l.prog) (w:=w) (mg:=mg) (base:=base) (F:=F_stand_behind) (z_sorted:=zz_sorted) (z_tuple:=zz_tuple)
 have G_has_all:=ok_has_all (P:=l.prog) (w:=w) (mg:=mg) (base:=base) (F:=F_has_all) (z_all:=zz_all)
 have G_played:=ok_played (P:=l.prog) (w:=w) (mg:=mg) (base:=base) (F:=F_played) (G_fault_of:=G_fault_of) (b_fault_of:=b_fault_of) (k_fault_of:=F_fault_of.kp) (m_fault_of:=m_fault_of) (G_stand_behind:=G_stand_behind) (b_stand_behind:=b_stand_behind) (k_stand_behind:=F_stand_behind.kp) (m_stand_behind:=m_stand_behind) (z_enumerate:=zz_enumerate) (G_init_Barred:=G_init_Barred) (b_init_Barred:=b_init_Barred) (x_Barred:=x_Barred) (fi_Barred:=fi_Barred) (m_Barred:=m_Barred)
 have G_does:=ok_does (P:=l.prog) (w:=w) (mg:=mg) (base:=base) (F:=F_does) (G_played:=G_played) (b_played:=b_played) (k_played:=F_played.kp) (m_played:=m_played) (G_has_all:=G_has_all) (b_has_all:=b_has_all) (k_has_all:=F_has_all.kp) (m_has_all:=m_has_all) (em_Barred:=em_Barred) (m_Barred:=m_Barred)
 have G_Lbegin:=ok_Lbegin (P:=l.prog) (w:=w) (mg:=mg) (base:=base) (F:=F_Lbegin) (z_list:=zz_list)
 have G_Ltake:=ok_Ltake (P:=l.prog) (w:=w) (mg:=mg) (base:=base) (F:=F_Ltake) (z_divmod:=zz_divmod) (z_len:=zz_len)
 have G_Lsome_needs:=ok_Lsome_needs (P:=l.prog) (w:=w) (mg:=mg) (base:=base) (F:=F_Lsome_needs) (G_Ltake:=G_Ltake) (b_Ltake:=b_Ltake) (k_Ltake:=F_Ltake.kp) (m_Ltake:=m_Ltake) (z_min:=zz_min) (z_range:=zz_range) (z_set:=zz_set) (z_sorted:=zz_sorted) (z_tuple:=zz_tuple)
 have G_Ltree_net:=ok_Ltree_net (P:=l.prog) (w:=w) (mg:=mg) (base:=base) (F:=F_Ltree_net) (G_Ltake:=G_Ltake) (b_Ltake:=b_Ltake) (k_Ltake:=F_Ltake.kp) (m_Ltake:=m_Ltake) (z_len:=zz_len) (z_min:=zz_min) (z_range:=zz_range) (z_tuple:=zz_tuple)
 have G_Lnet:=ok_Lnet (P:=l.prog) (w:=w) (mg:=mg) (base:=base) (F:=F_Lnet) (G_Ltake:=G_Ltake) (b_Ltake:=b_Ltake) (k_Ltake:=F_Ltake.kp) (m_Ltake:=m_Ltake) (G_Ltree_net:=G_Ltree_net) (b_Ltree_net:=b_Ltree_net) (k_Ltree_net:=F_Ltree_net.kp) (m_Ltree_net:=m_Ltree_net) (G_Lsome_needs:=G_Lsome_needs) (b_Lsome_needs:=b_Lsome_needs) (k_Lsome_needs:=F_Lsome_needs.kp) (m_Lsome_needs:=m_Lsome_needs) (z_enumerate:=zz_enumerate) (z_int:=zz_int) (z_max:=zz_max) (z_range:=zz_range) (z_set:=zz_set) (z_sorted:=zz_sorted) (z_tuple:=zz_tuple)
 have G_Lasked:=ok_Lasked (P:=l.prog) (w:=w) (mg:=mg) (base:=base) (F:=F_Lasked) (G_Ltake:=G_Ltake) (b_Ltake:=b_Ltake) (k_Ltake:=F_Ltake.kp) (m_Ltake:=m_Ltake) (z_len:=zz_len) (z_min:=zz_min) (z_range:=zz_range) (z_set:=zz_set) (z_sorted:=zz_sorted) (z_tuple:=zz_tuple)
 have G_Lneeded:=ok_Lneeded (P:=l.prog) (w:=w) (mg:=mg) (base:=base) (F:=F_Lneeded) (z_len:=zz_len) (z_range:=zz_range)
 have G_Lword:=ok_Lword (P:=l.prog) (w:=w) (mg:=mg) (base:=base) (F:=F_Lword) (z_all:=zz_all) (z_len:=zz_len)
 have G_Lbehind:=ok_Lbehind (P:=l.prog) (w:=w) (mg:=mg) (base:=base) (F:=F_Lbehind) (z_sorted:=zz_sorted) (z_tuple:=zz_tuple)
 have G_Lplayed:=ok_Lplayed (P:=l.prog) (w:=w) (mg:=mg) (base:=base) (F:=F_Lplayed) (G_Lword:=G_Lword) (b_Lword:=b_Lword) (k_Lword:=F_Lword.kp) (m_Lword:=m_Lword) (G_Lbehind:=G_Lbehind) (b_Lbehind:=b_Lbehind) (k_Lbehind:=F_Lbehind.kp) (m_Lbehind:=m_Lbehind)
 have G_Lnext_work:=ok_Lnext_work (P:=l.prog) (w:=w) (mg:=mg) (base:=base) (F:=F_Lnext_work) (G_Ltake:=G_Ltake) (b_Ltake:=b_Ltake) (k_Ltake:=F_Ltake.kp) (m_Ltake:=m_Ltake) (z_len:=zz_len)
 have G_Lwalk:=ok_Lwalk (P:=l.prog) (w:=w) (mg:=mg) (base:=base) (F:=F_Lwalk) (G_Lnext_work:=G_Lnext_work) (b_Lnext_work:=b_Lnext_work) (k_Lnext_work:=F_Lnext_work.kp) (m_Lnext_work:=m_Lnext_work) (G_Ltake:=G_Ltake) (b_Ltake:=b_Ltake) (k_Ltake:=F_Ltake.kp) (m_Ltake:=m_Ltake) (G_Lbehind:=G_Lbehind) (b_Lbehind:=b_Lbehind) (k_Lbehind:=F_Lbehind.kp) (m_Lbehind:=m_Lbehind) (z_len:=zz_len) (z_range:=zz_range)
 have G_Lspare:=ok_Lspare (P:=l.prog) (w:=w) (mg:=mg) (base:=base) (F:=F_Lspare) (z_any:=zz_any)
 have G_Ldoing:=ok_Ldoing (P:=l.prog) (w:=w) (mg:=mg) (base:=base) (F:=F_Ldoing) (G_Lwalk:=G_Lwalk) (b_Lwalk:=b_Lwalk) (k_Lwalk:=F_Lwalk.kp) (m_Lwalk:=m_Lwalk) (G_Lneeded:=G_Lneeded) (b_Lneeded:=b_Lneeded) (k_Lneeded:=F_Lneeded.kp) (m_Lneeded:=m_Lneeded) (G_Lbehind:=G_Lbehind) (b_Lbehind:=b_Lbehind) (k_Lbehind:=F_Lbehind.kp) (m_Lbehind:=m_Lbehind) (G_Lspare:=G_Lspare) (b_Lspare:=b_Lspare) (k_Lspare:=F_Lspare.kp) (m_Lspare:=m_Lspare) (G_Ltake:=G_Ltake) (b_Ltake:=b_Ltake) (k_Ltake:=F_Ltake.kp) (m_Ltake:=m_Ltake) (z_enumerate:=zz_enumerate) (z_len:=zz_len)
 have G_Lmost:=ok_Lmost (P:=l.prog) (w:=w) (mg:=mg) (base:=base) (F:=F_Lmost) (G_Lplayed:=G_Lplayed) (b_Lplayed:=b_Lplayed) (k_Lplayed:=F_Lplayed.kp) (m_Lplayed:=m_Lplayed) (z_len:=zz_len) (z_max:=zz_max)
 have G_Lcase:=ok_Lcase (P:=l.prog) (w:=w) (mg:=mg) (base:=base) (F:=F_Lcase) (G_Ltake:=G_Ltake) (b_Ltake:=b_Ltake) (k_Ltake:=F_Ltake.kp) (m_Ltake:=m_Ltake) (G_Lnet:=G_Lnet) (b_Lnet:=b_Lnet) (k_Lnet:=F_Lnet.kp) (m_Lnet:=m_Lnet) (G_Lasked:=G_Lasked) (b_Lasked:=b_Lasked) (k_Lasked:=F_Lasked.kp) (m_Lasked:=m_Lasked)
 have G_Ltold:=ok_Ltold (P:=l.prog) (w:=w) (mg:=mg) (base:=base) (F:=F_Ltold) (G_Lplayed:=G_Lplayed) (b_Lplayed:=b_Lplayed) (k_Lplayed:=F_Lplayed.kp) (m_Lplayed:=m_Lplayed) (G_does:=G_does) (b_does:=b_does) (k_does:=F_does.kp) (m_does:=m_does) (z_all:=zz_all) (z_bool:=zz_bool) (z_isinstance:=zz_isinstance) (z_list:=zz_list)
 have G_Lbent:=ok_Lbent (P:=l.prog) (w:=w) (mg:=mg) (base:=base) (F:=F_Lbent) (G_Ltake:=G_Ltake) (b_Ltake:=b_Ltake) (k_Ltake:=F_Ltake.kp) (m_Ltake:=m_Ltake) (z_len:=zz_len)
 exact ok_law (P:=l.prog) (w:=w) (mg:=mg) (base:=base) (F:=F_law) (G_Lbegin:=G_Lbegin) (b_Lbegin:=b_Lbegin) (k_Lbegin:=F_Lbegin.kp) (m_Lbegin:=m_Lbegin) (G_Ltake:=G_Ltake) (b_Ltake:=b_Ltake) (k_Ltake:=F_Ltake.kp) (m_Ltake:=m_Ltake) (G_Lcase:=G_Lcase) (b_Lcase:=b_Lcase) (k_Lcase:=F_Lcase.kp) (m_Lcase:=m_Lcase) (G_Ldoing:=G_Ldoing) (b_Ldoing:=b_Ldoing) (k_Ldoing:=F_Ldoing.kp) (m_Ldoing:=m_Ldoing) (G_Lmost:=G_Lmost) (b_Lmost:=b_Lmost) (k_Lmost:=F_Lmost.kp) (m_Lmost:=m_Lmost) (G_Ltold:=G_Ltold) (b_Ltold:=b_Ltold) (k_Ltold:=F_Ltold.kp) (m_Ltold:=m_Ltold) (G_does:=G_does) (b_does:=b_does) (k_does:=F_does.kp) (m_does:=m_does) (G_Lasked:=G_Lasked) (b_Lasked:=b_Lasked) (k_Lasked:=F_Lasked.kp) (m_Lasked:=m_Lasked) (G_Lbent:=G_Lbent) (b_Lbent:=b_Lbent) (k_Lbent:=F_Lbent.kp) (m_Lbent:=m_Lbent) (z_int:=zz_int) (z_len:=zz_len) (z_range:=zz_range)
theorem walk {l:PySem.W.OpenLaw} {q:Program} {loose:List Str} {XP:(Str→Option Value)→Heap→Prop} {YP:World→Heap→Prop} {d:DefRec} {K:Params→PySem.W.Frag} (hn:l.most=some 63) (hdf:d.params.defaults=[])
  (hY:∀ (w:World) (h:Heap),YP w h→(K w.params).In h)
  (F:∀ (w:World) (mg:Str→Option Value) (fa:Addr) (h:Heap),(K w.params).In h→h.Ns mainGlobals mg→mg d.name=some (.ref fa)→
   ∃ fd:FuncData,(∀ (s:Shared) (u:Value),BindsTo s fd ⟨[u],[]⟩ [("_law_script",u)])∧∀ base:Heap,(K w.params).In base→base.Ns mainGlobals mg→FnOk l.prog w (K w.params) mg base CX0 6 fa fd ["_law_script"] (spLaw (K w.params))) :
  PySem.W.WalkO q loose XP YP l.row.toRowW d [] (fun f vs=>PySem.call f vs):=
 L2.walk_of (n:=63) (k:=6) (x:="_law_script") (CX:=fun _=>CX0) (sp:=fun w=>spLaw (K w.params)) hn (by decide) hdf ⟨rfl,by decide,by decide,rfl⟩ hY F (fun _ _ a ns hl _ hS=>⟨a,ns,rfl,hS,hl,fun _=>rfl⟩) fun _ _ _ _ _ z=>z
end Fw
open PySem PySem.W PyProof.Rows
set_option maxRecDepth 100000 in
set_option maxHeartbeats 0 in
theorem PySem.Challenge.cw_fewrooms_k16_what_does_asked_holds : PySem.Challenge.rw_fewrooms_k16_what_does_asked.Holds := by
 w_on;refine holds_law Fw.hpSaid fun said=>?_
 refine holds_open (q:=Fw.hpQ) (Xt:=Fw.hpX) (XP:=XL Fw.hpQ []) (YP:=(kHook Fw.hpK Fw.hpA Fw.hpE).says)
  Fw.hpLeft (kHook Fw.hpK Fw.hpA Fw.hpE).of (kHook Fw.hpK Fw.hpA Fw.hpE).keeps (fun s e=>xl_of s (Bool.and_eq_true_iff.mp e).1) XL.keeps
  (by rfl) (by rfl) (by rfl) (fun s e=>recFacts_of (Bool.and_eq_true_iff.mp e).2) (by rfl)
  (by first | assumption | decide +kernel) (by decide +kernel) ⟨rfl,rfl,rfl,rfl,rfl,by decide +kernel⟩ ?hw ?hc
 case hw=>w_witness2
 k_fill
 refine Fw.walk (l:=PySem.Challenge.rw_fewrooms_k16_what_does_asked) rfl rfl (fun w h Y=>PySem.W.kIn_of Y) ?F
 case F=>
  intro w mg fa h KX G hmg
  refine' Fw.all_mk KX G hmg ?a_Barred ?a_init_Barred ?l_init_Barred ?c_init_Barred ?k_init_Barred ?a_fault_of_do ?l_fault_of_do ?c_fault_of_do ?k_fault_of_do ?a_fault_of ?l_fault_of ?c_fault_of ?k_fault_of ?a_stand_behind ?l_stand_behind ?c_stand_behind ?k_stand_behind ?a_has_all ?l_has_all ?c_has_all ?k_has_all ?a_played ?l_played ?c_played ?k_played ?a_does ?l_does ?c_does ?k_does ?a_Lbegin ?l_Lbegin ?c_Lbegin ?k_Lbegin ?a_Ltake ?l_Ltake ?c_Ltake ?k_Ltake ?a_Lsome_needs ?l_Lsome_needs ?c_Lsome_needs ?k_Lsome_needs ?a_Ltree_net ?l_Ltree_net ?c_Ltree_net ?k_Ltree_net ?a_Lnet ?l_Lnet ?c_Lnet ?k_Lnet ?a_Lasked ?l_Lasked ?c_Lasked ?k_Lasked ?a_Lneeded ?l_Lneeded ?c_Lneeded ?k_Lneeded ?a_Lword ?l_Lword ?c_Lword ?k_Lword ?a_Lbehind ?l_Lbehind ?c_Lbehind ?k_Lbehind ?a_Lplayed ?l_Lplayed ?c_Lplayed ?k_Lplayed ?a_Lnext_work ?l_Lnext_work ?c_Lnext_work ?k_Lnext_work ?a_Lwalk ?l_Lwalk ?c_Lwalk ?k_Lwalk ?a_Lspare ?l_Lspare ?c_Lspare ?k_Lspare ?a_Ldoing ?l_Ldoing ?c_Ldoing ?k_Ldoing ?a_Lmost ?l_Lmost ?c_Lmost ?k_Lmost ?a_Lcase ?l_Lcase ?c_Lcase ?k_Lcase ?a_Ltold ?l_Ltold ?c_Ltold ?k_Ltold ?a_Lbent ?l_Lbent ?c_Lbent ?k_Lbent ?a_law ?l_law ?c_law ?k_law ?xc_Barred ?xs_Barred ?xk_Barred ?fi_Barred ?n_move ?n_word ?em_Barred ?z_all ?z_any ?z_bool ?z_divmod ?z_enumerate ?z_int ?z_isinstance ?z_len ?z_list ?z_max ?z_min ?z_range ?z_set ?z_sorted ?z_tuple
  (case a_Barred=>k_is)
  (case a_init_Barred=>k_is)
  (case l_init_Barred=>k_is)
  (case c_init_Barred=>k_is)
  (case k_init_Barred=>k_is)
  (case a_fault_of_do=>k_is)
  (case l_fault_of_do=>k_is)
  (case c_fault_of_do=>k_is)
  (case k_fault_of_do=>k_is)
  (case a_fault_of=>k_is)
  (case l_fault_of=>k_is)
  (case c_fault_of=>k_is)
  (case k_fault_of=>k_is)
  (case a_stand_behind=>k_is)
  (case l_stand_behind=>k_is)
  (case c_stand_behind=>k_is)
  (case k_stand_behind=>k_is)
  (case a_has_all=>k_is)
  (case l_has_all=>k_is)
  (case c_has_all=>k_is)
  (case k_has_all=>k_is)
  (case a_played=>k_is)
  (case l_played=>k_is)
  (case c_played=>k_is)
  (case k_played=>k_is)
  (case a_does=>k_is)
  (case l_does=>k_is)
  (case c_does=>k_is)
  (case k_does=>k_is)
  (case a_Lbegin=>k_is)
  (case l_Lbegin=>k_is)
  (case c_Lbegin=>k_is)
  (case k_Lbegin=>k_is)
  (case a_Ltake=>k_is)
  (case l_Ltake=>k_is)
  (case c_Ltake=>k_is)
  (case k_Ltake=>k_is)
  (case a_Lsome_needs=>k_is)
  (case l_Lsome_needs=>k_is)
  (case c_Lsome_needs=>k_is)
  (case k_Lsome_needs=>k_is)
  (case a_Ltree_net=>k_is)
  (case l_Ltree_net=>k_is)
  (case c_Ltree_net=>k_is)
  (case k_Ltree_net=>k_is)
  (case a_Lnet=>k_is)
  (case l_Lnet=>k_is)
  (case c_Lnet=>k_is)
  (case k_Lnet=>k_is)
  (case a_Lasked=>k_is)
  (case l_Lasked=>k_is)
  (case c_Lasked=>k_is)
  (case k_Lasked=>k_is)
  (case a_Lneeded=>k_is)
  (case l_Lneeded=>k_is)
  (case c_Lneeded=>k_is)
  (case k_Lneeded=>k_is)
  (case a_Lword=>k_is)
  (case l_Lword=>k_is)
  (case c_Lword=>k_is)
  (case k_Lword=>k_is)
  (case a_Lbehind=>k_is)
  (case l_Lbehind=>k_is)
  (case c_Lbehind=>k_is)
  (case k_Lbehind=>k_is)
  (case a_Lplayed=>k_is)
  (case l_Lplayed=>k_is)
  (case c_Lplayed=>k_is)
  (case k_Lplayed=>k_is)
  (case a_Lnext_work=>k_is)
  (case l_Lnext_work=>k_is)
  (case c_Lnext_work=>k_is)
  (case k_Lnext_work=>k_is)
  (case a_Lwalk=>k_is)
  (case l_Lwalk=>k_is)
  (case c_Lwalk=>k_is)
  (case k_Lwalk=>k_is)
  (case a_Lspare=>k_is)
  (case l_Lspare=>k_is)
  (case c_Lspare=>k_is)
  (case k_Lspare=>k_is)
  (case a_Ldoing=>k_is)
  (case l_Ldoing=>k_is)
  (case c_Ldoing=>k_is)
  (case k_Ldoing=>k_is)
  (case a_Lmost=>k_is)
  (case l_Lmost=>k_is)
  (case c_Lmost=>k_is)
  (case k_Lmost=>k_is)
  (case a_Lcase=>k_is)
  (case l_Lcase=>k_is)
  (case c_Lcase=>k_is)
  (case k_Lcase=>k_is)
  (case a_Ltold=>k_is)
  (case l_Ltold=>k_is)
  (case c_Ltold=>k_is)
  (case k_Ltold=>k_is)
  (case a_Lbent=>k_is)
  (case l_Lbent=>k_is)
  (case c_Lbent=>k_is)
  (case k_Lbent=>k_is)
  (case a_law=>k_is)
  (case l_law=>k_is)
  (case c_law=>k_is)
  (case k_law=>k_is)
  (case xc_Barred=>kernel_rfl)
  (case xs_Barred=>k_is)
  (case xk_Barred=>k_is)
  (case fi_Barred=>k_is)
  (case n_move=>k_is)
  (case n_word=>k_is)
  (case em_Barred=>kernel_rfl)
  (case z_all=>k_is)
  (case z_any=>k_is)
  (case z_bool=>k_is)
  (case z_divmod=>k_is)
  (case z_enumerate=>k_is)
  (case z_int=>k_is)
  (case z_isinstance=>k_is)
  (case z_len=>k_is)
  (case z_list=>k_is)
  (case z_max=>k_is)
  (case z_min=>k_is)
  (case z_range=>k_is)
  (case z_set=>k_is)
  (case z_sorted=>k_is)
  (case z_tuple=>k_is)

